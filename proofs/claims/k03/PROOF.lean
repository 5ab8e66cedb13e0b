import PyProof.Rows.All
import Wide.All
import OpenK.AllK
import Wide.FinOn
import Lean
import PyProof.EqAt
import PyProof.EqKinds
import PyProof.TupleCall
import PyProof.ReprRoads
import PyProof.IsInstance
import PyProof.IsInstanceH
import PyProof.FitsBits
import PyProof.CompFree
import PyProof.Rows.SumAny
import PyProof.Rows.SortShell
import PyProof.Rows.TupAdd
import PyProof.NeKinds
import PyProof.ConsumeWalk
import PyProof.ZipIter
import PyProof.TupleIter
import PyProof.LayNew
import PyProof.CollectWalk
import PyProof.ListNew
import PyProof.Draws
import PyProof.EnumFor
import PyProof.EnumMake
import PyProof.ListRange
import PyProof.CollectIter
import KE.KRevIter
import PyProof.ListMulRoad
import PyProof.TupleOps
import PyProof.TupleOfStr
import PyProof.WalksMore
import PyProof.FactsAll.range_iterator
import PyProof.IsRules
import PyProof.CompUse
import PyProof.P3In
import PyProof.EqLayable
import KE.KIsAll
import PyProof.Rows.FactsN_isinstance
import PyProof.CallStr
import PyProof.Rows.StrWeight2
import PyProof.Rows.FStr
import PyProof.StrLawsRepr
import PyProof.Rows.SetFrom
import KE.KIntText
import KE.KRevSl
import PyProof.Rows.SeqMore2
import OpenK.KOwn
import KE.KTryMore
import PyProof.Rows.Range3
import PySem.Challenge.RW_askedpairs_k03_stands_of_anything
set_option Elab.async false
set_option linter.all false
set_option maxRecDepth 100000
namespace L2
open PySem PySem.Spec PyProof.Rows
abbrev fM:=Sum Int Str
def mK:fM→Value→Bool
  | .inl k,v=>Value.isInt k v
  | .inr x,v=>Value.isStrOf x v
def Ga(w:World):fM→Int
  | .inl k=>hashInt k
  | .inr x=>hashStr w x
theorem bF:∀{k:fM} {v:Value},mK k v=true→(∃i t,k=Sum.inl i∧v=Value.int i t)∨(∃x t,k=Sum.inr x∧v=Value.str x t)
  | .inl i,v,h=>by
    obtain⟨t,e⟩:=Value.isInt_shape (k:=i) (v:=v) h
    exact .inl ⟨i,t,rfl,e⟩
  | .inr x,v,h=>by
    obtain⟨t,e⟩:=Value.isStrOf_shape (x:=x) (v:=v) h
    exact .inr ⟨x,t,rfl,e⟩
theorem uH(i:Int)(t:Tok):mK (.inl i) (.int i t)=true:=by simp [mK,Value.isInt]
theorem uI(x:Str)(t:Tok):mK (.inr x) (.str x t)=true:=by simp [mK,Value.isStrOf]
theorem Bk(a b:Int):decide ((Sum.inl a:fM)=Sum.inl b)=(a==b):=by
  by_cases e:a=b
  · subst e;simp
  · have h:¬(Sum.inl a:fM)=Sum.inl b:=fun q=>e (Sum.inl.inj q)
    rw [decide_eq_false h]
    exact(beq_eq_false_iff_ne.mpr e).symm
theorem Bn(a b:Str):decide ((Sum.inr a:fM)=Sum.inr b)=decide (a=b):=by
  by_cases e:a=b
  · subst e;simp
  · have h:¬(Sum.inr a:fM)=Sum.inr b:=fun q=>e (Sum.inr.inj q)
    rw [decide_eq_false h,decide_eq_false e]
theorem Bl(a:Int)(b:Str):decide ((Sum.inl a:fM)=Sum.inr b)=false:=decide_eq_false (fun q=>nomatch q)
theorem Bm(a:Str)(b:Int):decide ((Sum.inr a:fM)=Sum.inl b)=false:=decide_eq_false (fun q=>nomatch q)
def dS(prog:Program)(w:World):PySem.KeyKind prog w fM where
  is:=mK
  hash:=Ga w
  inj:=fun v a b ha hb=>by
    rcases bF ha with ⟨i,t,rfl,rfl⟩ | ⟨x,t,rfl,rfl⟩
    · rcases bF hb with ⟨j,u,rfl,e⟩ | ⟨y,u,rfl,e⟩
      · injection e with e1 _;rw [e1]
      · exact nomatch e
    · rcases bF hb with ⟨j,u,rfl,e⟩ | ⟨y,u,rfl,e⟩
      · exact nomatch e
      · injection e with e1 _;rw [e1]
  byValue:=fun k v h=>by
    rcases bF h with ⟨i,t,rfl,rfl⟩ | ⟨x,t,rfl,rfl⟩<;>rfl
  pyHash:=fun hv h=>by
    rcases bF hv with ⟨i,t,rfl,rfl⟩ | ⟨x,t,rfl,rfl⟩
    · exact wpAny_pyHash_int h
    · exact wpAny_pyHash_str h
  eqBool:=fun hu hv h=>by
    rcases bF hu with ⟨i,t,rfl,rfl⟩ | ⟨x,t,rfl,rfl⟩
    · rcases bF hv with ⟨j,u,rfl,rfl⟩ | ⟨y,u,rfl,rfl⟩
      · rw [Bk] at h;exact wpAny_eqBool_int h
      · rw [Bl] at h;exact SeqAt.EqAt.int_str i t y u _ _ _ _ h
    · rcases bF hv with ⟨j,u,rfl,rfl⟩ | ⟨y,u,rfl,rfl⟩
      · rw [Bm] at h;exact SeqAt.EqAt.str_int x t j u _ _ _ _ h
      · rw [Bn] at h;exact wpAny_eqBool_str h
  «strs»:=fun k x t v h=>by
    rcases bF h with ⟨i,u,rfl,e⟩ | ⟨y,u,rfl,e⟩
    · exact nomatch e
    · injection e with e1 _
      subst e1
      cases v<;>rfl
theorem qN(prog:Program)(w:World)(i:Int)(t:Tok):(dS prog w).is (.inl i) (.int i t)=true:=uH i t
theorem qO(prog:Program)(w:World)(x:Str)(t:Tok):(dS prog w).is (.inr x) (.str x t)=true:=uI x t
end L2
namespace L2
open PySem PySem.Spec PyProof.Rows
inductive V where
  | non | bl (b:Bool) | int (i:Int) | str (x:Str) | byt (b:Array UInt8) | flt (b:UInt64) | ref (a:Addr) | ty (n:String)
  deriving DecidableEq
def bw:V→Value→Prop
  | .non,u=>u=Value.none
  | .bl b,u=>u=Value.bool b
  | .int i,u=>∃t,u=Value.int i t
  | .str x,u=>∃t,u=Value.str x t
  | .byt b,u=>∃t,u=Value.bytes b t
  | .flt b,u=>∃t,u=Value.float b t
  | .ref a,u=>u=Value.ref a
  | .ty n,u=>u=Value.type n
abbrev aO:List V→List Value→Prop:=Paired bw
theorem aO.length{xs:List V}{us:List Value}(r:aO xs us):xs.length=us.length:=Paired.length r
theorem aO.get:∀{xs:List V} {us:List Value} {i:Nat} {x:V},aO xs us→xs[i]?=some x→∃u,us[i]?=some u∧bw x u
  | _,_,_,_,.nil,e=>by simp at e
  | _,_,0,_,.cons r _,e=>by simp at e;subst e;exact⟨_,rfl,r⟩
  | _,_,i+1,x,.cons _ t,e=>by
    obtain⟨u,h1,h2⟩:=aO.get (i:=i) (x:=x) t (by simpa using e)
    exact⟨u,by simpa using h1,h2⟩
theorem aO.set{x:V}{u:Value}(r:bw x u):∀{xs:List V} {us:List Value} (i:Nat),aO xs us→aO (xs.set i x) (us.set i u)
  | _,_,_,.nil=>.nil
  | _,_,0,.cons _ t=>.cons r t
  | _,_,i+1,.cons q t=>.cons q (aO.set r i t)
theorem aO.append:∀{xs ys:List V} {us ws:List Value},aO xs us→aO ys ws→aO (xs++ys) (us++ws)
  | _,_,_,_,.nil,s=>s
  | _,_,_,_,.cons r t,s=>.cons r (aO.append t s)
theorem aO.take:∀{xs:List V} {us:List Value} (n:Nat),aO xs us→aO (xs.take n) (us.take n)
  | _,_,0,_=>.nil
  | _,_,_+1,.nil=>.nil
  | _,_,n+1,.cons r t=>.cons r (aO.take n t)
theorem aO.drop:∀{xs:List V} {us:List Value} (n:Nat),aO xs us→aO (xs.drop n) (us.drop n)
  | _,_,0,r=>r
  | _,_,_+1,.nil=>.nil
  | _,_,n+1,.cons _ t=>aO.drop n t
def Dm:Option V→Option Value→Prop
  | some v,some u=>bw v u
  | none,none=>True
  | _,_=>False
def KV{κ:Type}:List (κ × V)→List (κ × Value)→Prop:=Paired fun(p:κ × V) (q:κ × Value)=>p.1=q.1∧bw p.2 q.2
def kV:fM→V
  | .inl i=>.int i
  | .inr x=>.str x
inductive HO where
  /-- a list -/
  | lst (xs:List V)
  /-- a tuple (never changes) -/
  | tup (xs:List V)
  /-- a dict whose keys are ints and texts; one whose keys are tuples of ints and texts (the empty one is both) -/
  | dK (kvs:List (fM × V)) | dT (kvs:List (List fM × V))
  /-- a set of ints: its members, its size -/
  | set (S:Int→Bool) (n:Nat)
  /-- an instance of the class at C, its dict at dx, its attributes -/
  | ins (C dx:Addr) (fs:List (Str × V))
  /-- the dict of the instance at x -/
  | own (x:Addr)
  /-- the dict of an exception -/
  | xd (fs:List (Str × V))
  /-- a bound method, f of x -/
  | met (f x:Addr)
  /-- a range object lo, lo + 1, .. below hi -/
  | rng (lo hi:Int)
  /-- a thing that is known to the object (the script; a dict while a loop walks it): read, never written while it is so -/
  | frz (o:Obj) (u:HO)
  /-- a code object's table -/
  | tbl (ps:Array Value)
  /-- any other thing, by what is true of its one object (a def of one's own: SetO a S n := HO.ext fun h => ..) -/
  | ext (φ:Heap→Prop)
abbrev Hp:=Addr→Option HO
def bi(H:Hp)(a:Addr)(o:HO):Hp:=fun b=>if b=a then some o else H b
theorem aw{H:Hp}{a:Addr}{o:HO}:bi H a o a=some o:=by unfold bi;rw [if_pos rfl]
theorem aH{H:Hp}{a b:Addr}{o:HO}(h:b≠a):bi H a o b=H b:=by unfold bi;rw [if_neg h]
theorem ec{H:Hp}{a b:Addr}{o:HO}(h:H a=some o)(h':H b=none):a≠b:=by
  intro e;subst e;rw [h] at h';cases h'
def kd(h:Heap)(a:Addr)(items:Array Value):Prop:=∃o,h.get? a=some o∧o.cls=.type "tuple"∧∃n,o.data=.seq items n∧o.dict=none
theorem kd.tup{h:Heap}{a:Addr}{items:Array Value}(x:kd h a items):IsTup h a items:=let ⟨o,ho,hc,n,hd,_⟩:=x;⟨o,ho,hc,n,hd⟩
theorem kd.new(h:Heap)(items:Array Value):kd (h.push {cls:=.type "tuple",data:=.seq items}) h.objs.size items:=⟨_,Heap.get?_push_size _ rfl,rfl,_,rfl,rfl⟩
section
variable(P:Program)(w:World)
def cV(H:Hp)(h:Heap)(a:Addr):HO→Prop
  | .lst xs=>xs.length≤sizeLine∧∃(its:List Value) (n:Nat),aO xs its∧h.get? a=some {cls:=.type "list",data:=.seq its.toArray n}
  | .tup xs=>xs.length≤sizeLine∧∃its:List Value,aO xs its∧kd h a its.toArray
  | .dK kvs=>kvs.length≤sizeLine∧(a==sysModules)=false∧∃vs,KV kvs vs∧h.DictOf (dS P w) a vs
  | .dT kvs=>kvs.length≤sizeLine∧(a==sysModules)=false∧∃xs:List (List fM × Addr × Value),
      Paired (fun(p:List fM × V) (q:List fM × Addr × Value)=>p.1=q.1∧H q.2.1=some (.tup (p.1.map kV))∧bw p.2 q.2.2) kvs xs∧
      ∃o es ep,h.get? a=some o∧o.ExactDict∧o.data=.dict es ep∧es.toList=xs.map (entryOfKey (tupleKind (dS P w)))∧(xs.map (·.1)).Nodup
  | .set S n=>h.SetOf (intKind P w) a S n
  | .ins C dx fs=>H dx=some (.own a)∧fs.length≤1000∧dx≠a∧h.get? a=some (PySem.W.instObj C dx)∧
      ∃mA,h.Ns1 dx mA∧(∀f,Dm (fs.lookup f) (mA f))∧PySem.Within mA (fs.map (·.1))
  | .own _=>∃o,h.get? a=some o
  | .xd fs=>∃mA,h.Ns1 a mA∧∀f,Dm (fs.lookup f) (mA f)
  | .rng lo hi=>∃t u v,h.get? a=some {cls:=.type "range",data:=.fields #[.int lo t,.int hi u,.int 1 v]}
  | .frz o u=>h.get? a=some o∧cV H h a u
  | .tbl ps=>h.get? a=some {cls:=.none,data:=.fields ps}
  | .met f x=>h.get? a=some (PySem.W.methodObj (.ref f) (.ref x))
  | .ext φ=>φ h∧(∃o,h.get? a=some o)∧∀h1 h2:Heap,φ h1→(∀o,h1.get? a=some o→h2.get? a=some o)→φ h2
def kc(H:Hp)(h:Heap):Prop:=∀a o,H a=some o→cV P w H h a o
end
section
variable{P:Program}{w:World}{H H':Hp}{h h':Heap}{a:Addr}{o:HO}
theorem cV.lt(x:cV P w H h a o):a < h.objs.size:=by
  cases o with
  | lst xs=>obtain⟨_,_,_,_,e⟩:=x;exact Heap.lt_size e
  | tup xs=>obtain⟨_,_,_,p⟩:=x;exact p.tup.lt
  | dK kvs=>obtain⟨_,_,_,_,o,_,_,e,_⟩:=x;exact Heap.lt_size e
  | dT kvs=>obtain⟨_,_,_,_,o,_,_,e,_⟩:=x;exact Heap.lt_size e
  | set S n=>obtain⟨o,_,_,_,e,_⟩:=x;exact Heap.lt_size e
  | ins C dx fs=>obtain⟨_,_,_,e,_⟩:=x;exact Heap.lt_size e
  | own y=>obtain⟨_,e⟩:=x;exact Heap.lt_size e
  | xd fs=>obtain⟨_,⟨_,_,_,e,_⟩,_⟩:=x;exact Heap.lt_size e
  | rng lo hi=>obtain⟨_,_,_,e⟩:=x;exact Heap.lt_size e
  | frz ob u=>obtain⟨e,_⟩:=x;exact Heap.lt_size e
  | tbl ps=>exact Heap.lt_size (show h.get? a=some _ from x)
  | met f y=>exact Heap.lt_size (show h.get? a=some _ from x)
  | ext φ=>obtain⟨_,⟨_,e⟩,_⟩:=x;exact Heap.lt_size e
theorem Paired.mapP{α β:Type}{F G:α→β→Prop}:∀{l₁:List α} {l₂:List β},Paired F l₁ l₂→(∀a b,F a b→G a b)→Paired G l₁ l₂
  | _,_,.nil,_=>.nil
  | _,_,.cons r t,f=>.cons (f _ _ r) (Paired.mapP t f)
theorem cV.stay(x:cV P w H h a o)(k:∀b u,(b=a∨H b=some (.own a))→h.get? b=some u→h'.get? b=some u)
    (ho:∀b,H b=some (.own a)→H' b=some (.own a))(ht:∀b xs,H b=some (.tup xs)→H' b=some (.tup xs)):cV P w H' h' a o:=by
  induction o with
  | lst xs=>obtain⟨z,its,n,r,e⟩:=x;exact⟨z,its,n,r,k _ _ (.inl rfl) e⟩
  | tup xs=>obtain⟨z,its,r,ob,e,c⟩:=x;exact⟨z,its,r,ob,k _ _ (.inl rfl) e,c⟩
  | dK kvs=>obtain⟨z,y,vs,r,ob,es,ep,e,c⟩:=x;exact⟨z,y,vs,r,ob,es,ep,k _ _ (.inl rfl) e,c⟩
  | dT kvs=>
    obtain⟨z,y,xs,r,ob,es,ep,e,c⟩:=x
    exact⟨z,y,xs,Paired.mapP r fun p q z=>⟨z.1,ht _ _ z.2.1,z.2.2⟩,ob,es,ep,k _ _ (.inl rfl) e,c⟩
  | set S n=>obtain⟨ob,es,ep,t,e,c⟩:=x;exact⟨ob,es,ep,t,k _ _ (.inl rfl) e,c⟩
  | ins C dx fs=>
    obtain⟨d,z,ne,e,mA,⟨od,es,ep,e2,c⟩,r⟩:=x
    exact⟨ho _ d,z,ne,k _ _ (.inl rfl) e,mA,⟨od,es,ep,k _ _ (.inr d) e2,c⟩,r⟩
  | own y=>obtain⟨ob,e⟩:=x;exact⟨ob,k _ _ (.inl rfl) e⟩
  | xd fs=>obtain⟨mA,⟨od,es,ep,e,c⟩,r⟩:=x;exact⟨mA,⟨od,es,ep,k _ _ (.inl rfl) e,c⟩,r⟩
  | rng lo hi=>obtain⟨t,u,v,e⟩:=x;exact⟨t,u,v,k _ _ (.inl rfl) e⟩
  | frz ob u ih=>obtain⟨e,q⟩:=x;exact⟨k _ _ (.inl rfl) e,ih q⟩
  | tbl ps=>
    have e:h.get? a=some {cls:=.none,data:=.fields ps}:=x
    show h'.get? a=some {cls:=.none,data:=.fields ps}
    exact k a _ (.inl rfl) e
  | met f y=>
    have e:h.get? a=some (PySem.W.methodObj (.ref f) (.ref y)):=x
    show h'.get? a=some (PySem.W.methodObj (.ref f) (.ref y))
    exact k a _ (.inl rfl) e
  | ext φ=>obtain⟨p,⟨o,e⟩,st⟩:=x;exact⟨st _ _ p fun o q=>k _ _ (.inl rfl) q,⟨o,k _ _ (.inl rfl) e⟩,st⟩
theorem kc.lt(x:kc P w H h)(e:H a=some o):a < h.objs.size:=(x a o e).lt
theorem kc.fresh(x:kc P w H h)(e:h.objs.size≤a):H a=none:=by
  cases q:H a with
  | none=>rfl
  | some u=>exact absurd (Nat.lt_of_lt_of_le (x.lt q) e) (Nat.lt_irrefl _)
theorem kc.kept(x:kc P w H h)(k:∀b u,h.get? b=some u→h'.get? b=some u):kc P w H h':=fun a o e=>
  (x a o e).stay (fun b u _ q=>k b u q) (fun _ q=>q) fun _ _ q=>q
theorem kc.laid(x:kc P w H h)(k:∀b u,h.get? b=some u→h'.get? b=some u)(hp:h.objs.size≤a)(new:cV P w (bi H a o) h' a o):kc P w (bi H a o) h':=fun b u e=>by
  have hn:=x.fresh hp
  by_cases hb:b=a
  · subst hb;rw [aw] at e;cases e;exact new
  · rw [aH hb] at e
    exact(x b u e).stay (fun c v _ q=>k c v q) (fun c q=>by rw [aH (ec q hn)];exact q) fun c xs q=>by rw [aH (ec q hn)];exact q
end
def Rd(H:Hp)(a:Addr)(u:HO):Prop:=H a=some u∨∃o,H a=some (.frz o u)
theorem Rd.ok{P:Program}{w:World}{H:Hp}{h:Heap}{a:Addr}{u:HO}(r:Rd H a u)(x:kc P w H h):cV P w H h a u:=by
  rcases r with r | ⟨o,r⟩
  · exact x a u r
  · obtain⟨_,q⟩:=x a _ r
    exact q
def Dj:Option HO→Prop
  | some (.lst _)=>True
  | some (.dK _)=>True
  | some (.dT _)=>True
  | some (.set _ _)=>True
  | some (.ins _ _ _)=>True
  | some (.ext _)=>True
  | _=>False
section
variable{P:Program}{w:World}{H:Hp}{h h':Heap}{x e:Addr}{o':HO}
theorem kc.write(ok:kc P w H h)(mu:Dj (H x))(he:e=x∨H e=some (.own x))(k:∀b u,b≠e→h.get? b=some u→h'.get? b=some u)(heo:∃u,h'.get? e=some u)
    (new:cV P w (bi H x o') h' x o'):kc P w (bi H x o') h':=fun b u q=>by
  have nown:∀c y,H c=some (.own y)→c≠x:=fun c y r z=>by subst z;rw [r] at mu;exact mu
  have ntup:∀c xs,H c=some (.tup xs)→c≠x:=fun c xs r z=>by subst z;rw [r] at mu;exact mu
  by_cases hb:b=x
  · subst hb;rw [aw] at q;cases q;exact new
  · rw [aH hb] at q
    by_cases hbe:b=e
    · have q':H b=some (.own x):=by
        rcases he with z | z
        · exact absurd (hbe.trans z) hb
        · rw [hbe];exact z
      rw [q] at q';cases q'
      obtain⟨v,hv⟩:=heo
      exact⟨v,by rw [hbe];exact hv⟩
    · refine(ok b u q).stay (fun c v hc r=>k c v ?_ r) (fun c r=>by rw [aH (nown c b r)];exact r) fun c xs r=>by rw [aH (ntup c xs r)];exact r
      rcases hc with rfl | hc
      · exact hbe
      · rintro rfl
        rcases he with z | z
        · exact nown c b hc z
        · rw [hc] at z;cases z;exact hb rfl
end
structure Un (fs ex:List Addr) (H H':Hp) (h h':Heap):Prop where
  keep:∀b o,h.get? b=some o→H b=none→b∉fs→b∉ex→h'.get? b=some o
  slot:∀b o,h.get? b=some o→H b=none→b∈fs→b∉ex→∃sl,h'.get? b=some {o with slots:=sl}
  free:∀b o,h.get? b=some o→H b=none→b∉ex→H' b=none
  there:∀b o,h.get? b=some o→b∉ex→∃o',h'.get? b=some o'
  tups:∀b xs,H b=some (.tup xs)→H' b=some (.tup xs)
  frzs:∀b o u,H b=some (.frz o u)→H' b=some (.frz o u)
  tbls:∀b ps,H b=some (.tbl ps)→∃more,H' b=some (.tbl (ps++more))
section
variable{fs fs' ex ex':List Addr}{H H1 H2:Hp}{h h1 h2 h':Heap}{a x e:Addr}{o:HO}
theorem Un.any(u:Un fs ex H H1 h h1){b:Addr}{ob:Obj}(q:h.get? b=some ob)(n:H b=none)(hx:b∉ex):∃sl,h1.get? b=some {ob with slots:=sl}:=by
  by_cases hb:b∈fs
  · exact u.slot b ob q n hb hx
  · exact⟨ob.slots,u.keep b ob q n hb hx⟩
theorem Un.kept(k:∀b u,h.get? b=some u→h'.get? b=some u):Un fs ex H H h h':=
  ⟨fun b ob q _ _ _=>k b ob q,fun b ob q _ _ _=>⟨ob.slots,k b ob q⟩,fun _ _ _ n _=>n,fun b ob q _=>⟨ob,k b ob q⟩,fun _ _ q=>q,fun _ _ _ q=>q,fun _ ps q=>⟨#[],by rw [q];simp⟩⟩
theorem Un.refl:Un fs ex H H h h:=Un.kept fun _ _ q=>q
theorem Un.laid(k:∀b u,h.get? b=some u→h'.get? b=some u)(hp:h.objs.size≤a)(hn:H a=none):Un fs ex H (bi H a o) h h' where
  keep:=fun b u q _ _ _=>k b u q
  slot:=fun b u q _ _ _=>⟨u.slots,k b u q⟩
  free:=fun b u q n _=>by rw [aH (Nat.ne_of_lt (Nat.lt_of_lt_of_le (Heap.lt_size q) hp))];exact n
  there:=fun b u q _=>⟨u,k b u q⟩
  tups:=fun b xs q=>by rw [aH (ec q hn)];exact q
  frzs:=fun b u xs q=>by rw [aH (ec q hn)];exact q
  tbls:=fun b ps q=>⟨#[],by rw [aH (ec q hn),q];simp⟩
theorem Un.write(mu:Dj (H x))(he:e=x∨H e=some (.own x))(k:∀b u,b≠e→h.get? b=some u→h'.get? b=some u)(heo:∃u,h'.get? e=some u):Un fs ex H (bi H x o) h h':=by
  have hx:∀b,H b=none→b≠x:=fun b n z=>by subst z;rw [n] at mu;exact mu
  have hb:∀b,H b=none→b≠e:=fun b n z=>by
    subst z
    rcases he with r | r
    · exact hx b n r
    · rw [n] at r;cases r
  have hm:∀b u,H b=some u→¬Dj (some u)→b≠x:=fun b u q nm z=>by subst z;rw [q] at mu;exact nm mu
  refine⟨fun b u q n _ _=>k b u (hb b n) q,fun b u q n _ _=>⟨u.slots,k b u (hb b n) q⟩,fun b u q n _=>by rw [aH (hx b n)];exact n,fun b u q _=>?_,
    fun b xs q=>by rw [aH (hm b _ q fun z=>z)];exact q,fun b u xs q=>by rw [aH (hm b _ q fun z=>z)];exact q,fun b ps q=>⟨#[],by rw [aH (hm b _ q fun z=>z),q];simp⟩⟩
  by_cases hbe:b=e
  · subst hbe;exact heo
  · exact⟨u,k b u hbe q⟩
end
def Fv(h:Heap)(H:Hp):List Addr:=(List.range h.objs.size).filter fun a=>(H a).isSome
def pD(h:Heap)(H:Hp):Heap:=PySem.W.hideAll h (Fv h H)
theorem uB(h:Heap)(H:Hp):(pD h H).objs.size=h.objs.size:=PySem.W.hideAll_size _ _
theorem wo{h:Heap}{H:Hp}{b:Addr}{o:Obj}(e:h.get? b=some o)(n:H b=none):(pD h H).get? b=some o:=
  PySem.W.hideAll_get _ e fun hm=>by
    have q:(H b).isSome=true:=(List.mem_filter.mp hm).2
    rw [n] at q;simp at q
theorem yS{h:Heap}{H:Hp}{b:Addr}{o:Obj}(e:(pD h H).get? b=some o):h.get? b=some o∧H b=none:=by
  have e':h.get? b=some o:=PySem.W.of_hideAll (Fv h H) e
  refine⟨e',?_⟩
  cases q:H b with
  | none=>rfl
  | some x=>
    have hm:b∈Fv h H:=List.mem_filter.mpr ⟨List.mem_range.mpr (Heap.lt_size e'),by simp [q]⟩
    have z:(pD h H).get? b=none:=PySem.W.hideAll_none (Fv h H) hm
    rw [z] at e;cases e
def pb(g h:Heap)(L:Addr):List (Addr × Obj):=(List.range h.objs.size).filterMap fun a=>if a=L∨(g.get? a).isSome=true then none else(h.get? a).map fun o=>(a,o)
theorem mR{g h:Heap}{L:Addr}{p:Addr × Obj}(hp:p∈pb g h L):p.1≠L∧g.get? p.1=none∧h.get? p.1=some p.2:=by
  obtain⟨b,_,e⟩:=List.mem_filterMap.mp hp
  split at e
  · cases e
  · rename_i hn
    cases q:h.get? b with
    | none=>rw [q] at e;simp at e
    | some u=>
      rw [q] at e
      simp only [Option.map_some,Option.some.injEq] at e
      subst e
      refine⟨fun z=>hn (.inl z),?_,q⟩
      show g.get? b=none
      cases r:g.get? b with
      | none=>rfl
      | some v=>exact(hn (.inr (by simp [r]))).elim
def fm(g h:Heap)(L d:Addr):List (Addr × Obj):=(pb g h L).filter fun p=>decide (p.1≠d)
theorem wM{g h:Heap}{L:Addr}:News g L h (pb g h L):=fun p hp=>let ⟨a,b,c⟩:=mR hp;⟨c,a,b⟩
end L2
namespace L2
open PySem PySem.Spec PyProof.Rows
structure Mod (K:PySem.W.Frag) (mg:Str→Option Value) (base:Heap):Prop where
  kin:K.In base
  glob:base.Ns mainGlobals mg
  blt:∃mb,base.Ns builtinsNs mb∧∀x:Str,x≠"__name__"→mb x=bootBuiltins x
  nolimit:base.NoLimit
structure Cx where
  prog:Program
  w:World
  K:PySem.W.Frag
  mg:Str→Option Value
  base:Heap
  A:Around
  N:List Str
  s₀:Shared
  H₀:Hp
  env:Env
  outer:List Env
  stack:List Env
  ex:List Addr
  fn:Str→Bool
  calm:Bool
  pn:List (Addr × Obj)
  xe:Value→Shared→Prop
def we(l:List Env):List Addr:=l.filterMap (·.frame)
abbrev Cx.fs(X:Cx):List Addr:=we X.outer
def Dp(sc:Scope)(x:Str):Prop:=sc.names.lookup x=some .local∨sc.names.lookup x=some .cell∨sc.names.lookup x=some .free
def C_(sc:Scope)(x:Str):Prop:=sc.names.lookup x=some .local∨sc.names.lookup x=some .cell
def FC(env:Env)(h:Heap)(m:Str→Option Value)(x:Str)(u:Value):Prop:=
  (env.kindOf x=some .local∧m x=some u)∨((env.kindOf x=some .cell∨env.kindOf x=some .free)∧∃c,env.cells.lookup x=some c∧h.IsCell c (some u))
structure Cx.Ok (X:Cx):Prop where
  mod:Mod X.K X.mg X.base
  kind:X.env.scope.kind=.function
  glob:X.env.globals=mainGlobals
  blt:X.env.builtins=builtinsNs
  above:X.s₀.heap.objs.size≤X.env.locals
  inj:∀x y c,X.env.cells.lookup x=some c→X.env.cells.lookup y=some c→x=y
  has:∀x,(X.env.kindOf x=some .cell∨X.env.kindOf x=some .free)→∃c,X.env.cells.lookup x=some c
  cab:∀x c,X.fn x=true→X.env.cells.lookup x=some c→X.s₀.heap.objs.size≤c
  hd:X.calm=true→X.A.handled=none
  frames:X.A.frames=some X.stack
  stk:X.stack=X.outer∨(X.stack=X.env::X.outer∧X.env.frame=some X.env.locals)
  exf:∀b∈X.ex,b≠X.env.locals∧∀x c,X.env.cells.lookup x=some c→c≠b
  bs:∀b o,X.base.get? b=some o→X.s₀.heap.get? b=some o∧X.H₀ b=none
  bsz:X.base.objs.size≤X.s₀.heap.objs.size
  noex:∀b o,X.base.get? b=some o→b∉X.ex
  exfs:∀b∈X.ex,b∉X.fs
  funs:X.s₀.heap.FunFrames X.base X.outer
  frf:∀b∈X.fs,X.H₀ b=none
structure aA (X:Cx) (pins:List (Addr × Obj)) (σ:List (Option V)) (H:Hp) (s:Shared):Prop where
  ok:X.Ok
  os:s.os=X.s₀.os
  bare:AllBare s.gens
  base:Un X.fs X.ex X.H₀ H X.s₀.heap s.heap
  loc:∃m,s.heap.Ns X.env.locals m∧∀(i:Nat) (x:Str) (v:V),X.N[i]?=some x→σ[i]?=some (some v)→Dp X.env.scope x→∃u,bw v u∧FC X.env s.heap m x u
  cell:∀x c,X.env.cells.lookup x=some c→∃v,s.heap.IsCell c v
  free:H X.env.locals=none
  freeC:∀x c,X.env.cells.lookup x=some c→H c=none
  pin:∀p∈X.pn++pins,s.heap.get? p.1=some p.2∧H p.1=none∧p.1≠X.env.locals∧p.1∉X.fs∧∀v,p.2.data≠.cell v
  hok:kc X.prog X.w H s.heap
  len:σ.length=X.N.length
section
variable{X:Cx}{pins:List (Addr × Obj)}{σ:List (Option V)}{H H':Hp}{s:Shared}{h':Heap}
theorem Cx.Ok.nofr(ok:X.Ok){b:Addr}{o:Obj}(e:X.base.get? b=some o):b∉X.fs:=fun hb=>by
  have:=(ok.funs.mem hb).1
  rw [e] at this;cases this
theorem aA.bs(I:aA X pins σ H s):∀b o,X.base.get? b=some o→s.heap.get? b=some o∧H b=none:=fun b o e=>
  ⟨I.base.keep b o (I.ok.bs b o e).1 (I.ok.bs b o e).2 (I.ok.nofr e) (I.ok.noex b o e),I.base.free b o (I.ok.bs b o e).1 (I.ok.bs b o e).2 (I.ok.noex b o e)⟩
theorem aA.bk(I:aA X pins σ H s):∀b o,X.base.get? b=some o→s.heap.get? b=some o:=fun b o e=>(I.bs b o e).1
theorem aA.mod(I:aA X pins σ H s):Mod X.K X.mg X.base:=I.ok.mod
theorem aA.kIn(I:aA X pins σ H s):X.K.In s.heap:=I.ok.mod.kin.keeps I.bk
theorem aA.fr(I:aA X pins σ H s):∃m,Fr X.base X.env.locals s.heap m:=
  let ⟨m,hn,_⟩:=I.loc
  ⟨m,hn,I.bk,Nat.le_trans I.ok.bsz I.ok.above⟩
theorem aA.lt(I:aA X pins σ H s):X.env.locals < s.heap.objs.size:=let ⟨_,hn,_⟩:=I.loc;hn.lt
theorem aA.sz(I:aA X pins σ H s):X.s₀.heap.objs.size≤s.heap.objs.size:=Nat.le_trans I.ok.above (Nat.le_of_lt I.lt)
theorem aA.nofs(I:aA X pins σ H s){a:Addr}(h:s.heap.objs.size≤a):a∉X.fs:=fun hb=>by
  obtain⟨_,o,ho,_⟩:=I.ok.funs.mem hb
  exact absurd (Nat.lt_of_lt_of_le (Heap.lt_size ho) (Nat.le_trans I.sz h)) (Nat.lt_irrefl _)
theorem aA.cne(I:aA X pins σ H s):∀x c,X.env.cells.lookup x=some c→c≠X.env.locals:=fun x c e z=>by
  obtain⟨v,o,ho,hd⟩:=I.cell x c e
  obtain⟨m,⟨o',es,ep,ho',hd',_⟩,_⟩:=I.loc
  rw [z,ho'] at ho;cases ho;rw [hd'] at hd;cases hd
theorem aA.funs(I:aA X pins σ H s):s.heap.FunFrames X.base X.outer:=by
  have all:∀(l:List Env),(∀b∈we l,b∈X.fs)→X.s₀.heap.FunFrames X.base l→s.heap.FunFrames X.base l:=by
    intro l
    induction l with
    | nil=>intro _ _;trivial
    | cons env r ih=>
      intro hs hl
      obtain⟨hk,⟨L,o,hf,hn,ho,hd⟩,hr⟩:=hl
      have hL:L∈X.fs:=hs L (by unfold we;rw [List.filterMap_cons,hf];exact List.mem_cons_self)
      obtain⟨sl,e⟩:=I.base.slot L o ho (I.ok.frf L hL) hL fun z=>I.ok.exfs L z hL
      exact⟨hk,⟨L,_,hf,hn,e,hd⟩,ih (fun b hb=>hs b (by unfold we;rw [List.filterMap_cons,hf];exact List.mem_cons_of_mem _ hb)) hr⟩
  exact all X.outer (fun _ hb=>hb) I.ok.funs
theorem aA.stack(I:aA X pins σ H s):s.heap.FunFrames X.base X.stack:=by
  rcases I.ok.stk with e | ⟨e,hf⟩
  · rw [e];exact I.funs
  · rw [e]
    obtain⟨m,hn,_⟩:=I.loc
    refine .cons (by rw [I.ok.kind];decide) hf hn ?_ I.funs
    exact Heap.get?_none_of_le (Nat.le_trans I.ok.bsz I.ok.above)
theorem aA.stkSub(I:aA X pins σ H s):∀b∈we X.stack,b∈X.env.locals::X.fs:=fun b hb=>by
  rcases I.ok.stk with e | ⟨e,hf⟩
  · rw [e] at hb;exact List.mem_cons_of_mem _ hb
  · rw [e] at hb
    unfold we at hb
    rw [List.filterMap_cons,hf] at hb
    exact hb
theorem aA.stkFree(I:aA X pins σ H s):∀b∈we X.stack,H b=none:=fun b hb=>by
  rcases List.mem_cons.mp (I.stkSub b hb) with e | hb
  · rw [e];exact I.free
  · obtain⟨_,o,ho,_⟩:=I.ok.funs.mem hb
    exact I.base.free b o ho (I.ok.frf b hb) fun z=>I.ok.exfs b z hb
theorem aA.step{g':Array GenState}{t':Nat}{d':Drawn}{ch:List Addr}(I:aA X pins σ H s)
    (hch:∀b∈ch,(b∈X.ex∨X.s₀.heap.objs.size≤b)∧b≠X.env.locals∧(∀x c,X.env.cells.lookup x=some c→c≠b)∧∀p∈X.pn++pins,p.1≠b)
    (keep:∀b o,b≠X.env.locals→b∉X.fs→b∉ch→s.heap.get? b=some o→H b=none→h'.get? b=some o)
    (slot:∀b o,b≠X.env.locals→b∈X.fs→b∉ch→s.heap.get? b=some o→H b=none→∃sl,h'.get? b=some {o with slots:=sl})(free:∀b o,b∉ch→s.heap.get? b=some o→H b=none→H' b=none)
    (there:∀b o,b∉ch→s.heap.get? b=some o→∃o',h'.get? b=some o')
    (tups:∀b xs,H b=some (.tup xs)→H' b=some (.tup xs))(frzs:∀b o u,H b=some (.frz o u)→H' b=some (.frz o u))(tbls:∀b ps,H b=some (.tbl ps)→∃more,H' b=some (.tbl (ps++more)))
    (ns:∀m,s.heap.Ns X.env.locals m→h'.Ns X.env.locals m)(hok:kc X.prog X.w H' h')(hg:AllBare g'):
    aA X pins σ H' {s with heap:=h',gens:=g',drawn:=d',toks:=t'}:=by
  have neL:∀b o,X.s₀.heap.get? b=some o→b≠X.env.locals:=fun b o e=>Nat.ne_of_lt (Nat.lt_of_lt_of_le (Heap.lt_size e) I.ok.above)
  have neC:∀b o,X.s₀.heap.get? b=some o→b∉X.ex→b∉ch:=fun b o e hx hb=>by
    rcases(hch b hb).1 with z | z
    · exact hx z
    · exact absurd (Nat.lt_of_lt_of_le (Heap.lt_size e) z) (Nat.lt_irrefl _)
  have cellK:∀x c,X.env.cells.lookup x=some c→∀v,s.heap.IsCell c v→h'.IsCell c v:=fun x c e v ⟨o,ho,hd⟩=>by
    have nch:c∉ch:=fun z=>(hch c z).2.2.1 x c e rfl
    by_cases hc:c∈X.fs
    · obtain⟨sl,q⟩:=slot c o (I.cne x c e) hc nch ho (I.freeC x c e)
      exact⟨_,q,hd⟩
    · exact⟨o,keep c o (I.cne x c e) hc nch ho (I.freeC x c e),hd⟩
  refine⟨I.ok,I.os,hg,⟨fun b o e n hb hx=>?_,fun b o e n hb hx=>?_,fun b o e n hx=>?_,fun b o e hx=>?_,fun b xs e=>tups b xs (I.base.tups b xs e),fun b o xs e=>frzs b o xs (I.base.frzs b o xs e),fun b ps e=>?_⟩,?_,fun x c e=>?_,?_,fun x c e=>?_,fun p hp=>?_,hok,I.len⟩
  · exact keep b o (neL b o e) hb (neC b o e hx) (I.base.keep b o e n hb hx) (I.base.free b o e n hx)
  · obtain⟨sl,e1⟩:=I.base.slot b o e n hb hx
    obtain⟨sl',e2⟩:=slot b _ (neL b o e) hb (neC b o e hx) e1 (I.base.free b o e n hx)
    exact⟨sl',e2⟩
  · obtain⟨o',e1⟩:=I.base.there b o e hx
    exact free b o' (neC b o e hx) e1 (I.base.free b o e n hx)
  · obtain⟨o',e1⟩:=I.base.there b o e hx
    exact there b o' (neC b o e hx) e1
  · obtain⟨m1,e1⟩:=I.base.tbls b ps e
    obtain⟨m2,e2⟩:=tbls b _ e1
    exact⟨m1++m2,by rw [e2,Array.append_assoc]⟩
  · obtain⟨m,hn,hl⟩:=I.loc
    refine⟨m,ns m hn,fun i x v e1 e2 e3=>?_⟩
    obtain⟨u,r,l⟩:=hl i x v e1 e2 e3
    refine⟨u,r,?_⟩
    rcases l with l | ⟨k,c,e,z⟩
    · exact .inl l
    · exact .inr ⟨k,c,e,cellK x c e _ z⟩
  · obtain⟨v,z⟩:=I.cell x c e
    exact⟨v,cellK x c e v z⟩
  · obtain⟨m,⟨o,_,_,ho,_⟩,_⟩:=I.loc
    exact free _ o (fun z=>(hch _ z).2.1 rfl) ho I.free
  · obtain⟨v,o,ho,hd⟩:=I.cell x c e
    exact free c o (fun z=>(hch c z).2.2.1 x c e rfl) ho (I.freeC x c e)
  · obtain⟨e,n,ne,nf,d⟩:=I.pin p hp
    have nch:p.1∉ch:=fun z=>(hch p.1 z).2.2.2 p hp rfl
    exact⟨keep p.1 p.2 ne nf nch e n,free p.1 p.2 nch e n,ne,nf,d⟩
theorem aA.un{t':Nat}(I:aA X pins σ H s)(u:Un X.fs [] H H' s.heap h')(hok:kc X.prog X.w H' h'):aA X pins σ H' {s with heap:=h',toks:=t'}:=by
  obtain⟨m,⟨o,es,ep,ho,r⟩,_⟩:=id I.loc
  obtain⟨sl,hL⟩:=u.any ho I.free (by simp)
  exact I.step (g':=s.gens) (d':=s.drawn) (ch:=[]) (fun _ z=>nomatch z) (fun b o _ hb _ e n=>u.keep b o e n hb (by simp)) (fun b o _ hb _ e n=>u.slot b o e n hb (by simp)) (fun b o _ e n=>u.free b o e n (by simp)) (fun b o _ e=>u.there b o e (by simp)) u.tups u.frzs u.tbls (fun m' hm=>by
    obtain⟨o',es',ep',ho',r'⟩:=hm
    rw [ho] at ho';cases ho'
    exact⟨_,es',ep',hL,r'⟩) hok I.bare
theorem aA.call{g':Array GenState}{t':Nat}{d':Drawn}{ch:List Addr}(I:aA X pins σ H s)(u:Un (we X.stack) ch H H' s.heap h')(hok:kc X.prog X.w H' h')(hg:AllBare g')
    (hch:∀b∈ch,(b∈X.ex∨X.s₀.heap.objs.size≤b)∧b≠X.env.locals∧(∀x c,X.env.cells.lookup x=some c→c≠b)∧∀p∈X.pn++pins,p.1≠b):
    aA X pins σ H' {s with heap:=h',gens:=g',drawn:=d',toks:=t'}:=by
  obtain⟨m,⟨o,es,ep,ho,r⟩,_⟩:=id I.loc
  obtain⟨sl,hL⟩:=u.any ho I.free fun z=>(hch _ z).2.1 rfl
  exact I.step (ch:=ch) hch (fun b o hL hb hc e n=>u.keep b o e n (fun z=>(List.mem_cons.mp (I.stkSub b z)).elim hL hb) hc) (fun b o _ _ hc e n=>u.any e n hc) (fun b o hc e n=>u.free b o e n hc) (fun b o hc e=>u.there b o e hc) u.tups u.frzs u.tbls (fun m' hm=>by
    obtain⟨o',es',ep',ho',r'⟩:=hm
    rw [ho] at ho';cases ho'
    exact⟨_,es',ep',hL,r'⟩) hok hg
theorem aA.turned{t':Nat}{it:Addr}(I:aA X pins σ H s)(k:∀b o,b≠it→s.heap.get? b=some o→h'.get? b=some o)(hn:H it=none)(hL:it≠X.env.locals)
    (h1:it∈X.ex∨X.s₀.heap.objs.size≤it)(h2:∀x c,X.env.cells.lookup x=some c→c≠it)(h3:∀p∈X.pn++pins,p.1≠it):aA X pins σ H {s with heap:=h',toks:=t'}:=by
  have nit:∀b u,H b=some u→b≠it:=fun b u e z=>by rw [z,hn] at e;cases e
  refine I.step (g':=s.gens) (d':=s.drawn) (ch:=[it]) (fun b hb=>?_) (fun b o _ _ hc e _=>k b o (fun z=>hc (by simp [z])) e) (fun b o _ _ hc e _=>⟨o.slots,k b o (fun z=>hc (by simp [z])) e⟩) (fun _ _ _ _ n=>n)
    (fun b o hc e=>⟨o,k b o (fun z=>hc (by simp [z])) e⟩) (fun _ _ e=>e) (fun _ _ _ e=>e) (fun b ps e=>⟨#[],by rw [e];simp⟩) (fun m hm=>?_) (fun b u e=>?_) I.bare
  · have e:b=it:=by simpa using hb
    subst e
    exact⟨h1,hL,h2,h3⟩
  · obtain⟨o,es,ep,ho,r⟩:=hm
    exact⟨o,es,ep,k _ o (Ne.symm hL) ho,r⟩
  · refine(I.hok b u e).stay (fun c v hc q=>k c v ?_ q) (fun _ q=>q) fun _ _ q=>q
    rcases hc with z | z
    · rw [z];exact nit b u e
    · exact nit c _ z
theorem aA.tok(I:aA X pins σ H s)(t:Nat):aA X pins σ H {s with toks:=t}:=I.un (h':=s.heap) (t':=t) Un.refl I.hok
theorem aA.kept{t':Nat}(I:aA X pins σ H s)(k:∀b u,s.heap.get? b=some u→h'.get? b=some u):aA X pins σ H {s with heap:=h',toks:=t'}:=I.un (Un.kept k) (I.hok.kept k)
theorem aA.laid{a:Addr}{o:HO}{t':Nat}(I:aA X pins σ H s)(k:∀b u,s.heap.get? b=some u→h'.get? b=some u)(hp:s.heap.objs.size≤a)(new:cV X.prog X.w (bi H a o) h' a o):
    aA X pins σ (bi H a o) {s with heap:=h',toks:=t'}:=I.un (Un.laid k hp (I.hok.fresh hp)) (I.hok.laid k hp new)
theorem aA.write{x e:Addr}{o:HO}{t':Nat}(I:aA X pins σ H s)(mu:Dj (H x))(he:e=x∨H e=some (.own x))(k:∀b u,b≠e→s.heap.get? b=some u→h'.get? b=some u)(heo:∃u,h'.get? e=some u)
    (new:cV X.prog X.w (bi H x o) h' x o):aA X pins σ (bi H x o) {s with heap:=h',toks:=t'}:=I.un (Un.write mu he k heo) (I.hok.write mu he k heo new)
theorem aA.pins_of{pins':List (Addr × Obj)}(I:aA X pins σ H s)(h:∀p∈pins',s.heap.get? p.1=some p.2∧H p.1=none∧p.1≠X.env.locals∧p.1∉X.fs∧∀v,p.2.data≠.cell v):aA X pins' σ H s:=
  ⟨I.ok,I.os,I.bare,I.base,I.loc,I.cell,I.free,I.freeC,fun p hp=>(List.mem_append.mp hp).elim (fun z=>I.pin p (List.mem_append_left _ z)) (h p),I.hok,I.len⟩
theorem qQ{N:List Str}(hN:N.Nodup){i j:Nat}{x:Str}(a:N[i]?=some x)(b:N[j]?=some x):i=j:=by
  obtain⟨h1,e1⟩:=List.getElem?_eq_some_iff.mp a
  obtain⟨h2,e2⟩:=List.getElem?_eq_some_iff.mp b
  exact(List.getElem_inj hN).mp (e1.trans e2.symm)
theorem vf{M:Model}{A:Around}{E:Value→Shared→Prop}{i:Nat}{x:Str}{v:V}{u:Value}{Q:Unit→Shared→Prop}(I:aA X pins σ H s)(hN:X.N.Nodup)(hi:X.N[i]?=some x)(hx:C_ X.env.scope x)(r:bw v u)
    (h:∀s',aA X pins (σ.set i (some v)) H s'→(∃a,Heap.SameBut a s.heap s'.heap∧(a=X.env.locals∨X.env.cells.lookup x=some a))→Q () s')(hf:X.fn x=true∨X.env.scope.names.lookup x=some .local:=by first | exact .inl rfl | exact .inr rfl | assumption):wpAny M A (storeName X.env x u) Q E s:=by
  obtain⟨m,hn,hl⟩:=id I.loc
  have hcls:(X.env.scope.kind==.class || (X.env.scope.kind==.module&&X.env.locals != X.env.globals))=false:=by rw [I.ok.kind];rfl
  have hiσ:i < σ.length:=by rw [I.len];exact(List.getElem?_eq_some_iff.mp hi).1
  have cne:=I.cne
  have tracked:∀{a:Addr} {h':Heap},(∃o,s.heap.get? a=some o∧H a=none)→Heap.SameBut a s.heap h'→kc X.prog X.w H h':=fun{a h'} ha hs b ob e=>by
    obtain⟨_,_,hfree⟩:=ha
    refine(I.hok b ob e).stay (fun c w' hc q=>(hs.2 c ?_).trans q) (fun _ q=>q) fun _ _ q=>q
    rintro rfl
    rcases hc with rfl | hc
    · rw [hfree] at e;cases e
    · rw [hfree] at hc;cases hc
  rcases hx with hk | hk
  · refine wpAny_storeName_local hk hn (fun h' hn' hs=>?_) hcls
    obtain⟨oL,_,_,hoL,_⟩:=id hn
    refine h _ ⟨I.ok,I.os,I.bare,⟨fun b o e n hb hx=>?_,fun b o e n hb hx=>?_,I.base.free,fun b o e hx=>?_,I.base.tups,I.base.frzs,I.base.tbls⟩,⟨_,hn',fun j y v' e1 e2 e3=>?_⟩,fun y c e=>?_,I.free,I.freeC,fun p hp=>?_,tracked ⟨oL,hoL,I.free⟩ hs,by simpa using I.len⟩ ⟨_,hs,.inl rfl⟩
    · exact(hs.2 b (Nat.ne_of_lt (Nat.lt_of_lt_of_le (Heap.lt_size e) I.ok.above))).trans (I.base.keep b o e n hb hx)
    · obtain⟨sl,e1⟩:=I.base.slot b o e n hb hx
      exact⟨sl,(hs.2 b (Nat.ne_of_lt (Nat.lt_of_lt_of_le (Heap.lt_size e) I.ok.above))).trans e1⟩
    · obtain⟨o',e1⟩:=I.base.there b o e hx
      exact⟨o',(hs.2 b (Nat.ne_of_lt (Nat.lt_of_lt_of_le (Heap.lt_size e) I.ok.above))).trans e1⟩
    · by_cases hj:j=i
      · subst hj
        rw [hi] at e1;cases e1
        rw [List.getElem?_set_self hiσ] at e2
        cases e2
        exact⟨u,r,.inl ⟨hk,by simp⟩⟩
      · rw [List.getElem?_set_ne (Ne.symm hj)] at e2
        obtain⟨u',r',q⟩:=hl j y v' e1 e2 e3
        refine⟨u',r',?_⟩
        rcases q with ⟨k,e⟩ | ⟨k,c,e,z⟩
        · refine .inl ⟨k,?_⟩
          have:y≠x:=fun e=>hj (qQ hN e1 (e ▸ hi))
          simp [this,e]
        · exact .inr ⟨k,c,e,z.sameBut hs (cne y c e)⟩
    · obtain⟨w',z⟩:=I.cell y c e
      exact⟨w',z.sameBut hs (cne y c e)⟩
    · obtain⟨e,n,ne,nf,d⟩:=I.pin p hp
      exact⟨(hs.2 p.1 ne).trans e,n,ne,nf,d⟩
  · have hfn:X.fn x=true:=by
      rcases hf with z | z
      · exact z
      · rw [z] at hk;cases hk
    obtain⟨c,hc⟩:=I.ok.has x (.inl hk)
    obtain⟨w',z⟩:=I.cell x c hc
    refine wpAny_storeName_cell I.ok.kind hk hc z (fun h' hc' hs=>?_)
    obtain⟨oc,hoc,hocd⟩:=id z
    refine h {s with heap:=h'} ⟨I.ok,I.os,I.bare,⟨fun b o e n hb hx=>?_,fun b o e n hb hx=>?_,I.base.free,fun b o e hx=>?_,I.base.tups,I.base.frzs,I.base.tbls⟩,⟨m,hn.sameBut hs (Ne.symm (cne x c hc)),fun j y v' e1 e2 e3=>?_⟩,fun y c' e=>?_,I.free,I.freeC,fun p hp=>?_,tracked ⟨oc,hoc,I.freeC x c hc⟩ hs,by simpa using I.len⟩ ⟨c,hs,.inr hc⟩
    · exact(hs.2 b (Nat.ne_of_lt (Nat.lt_of_lt_of_le (Heap.lt_size e) (I.ok.cab x c hfn hc)))).trans (I.base.keep b o e n hb hx)
    · obtain⟨sl,e1⟩:=I.base.slot b o e n hb hx
      exact⟨sl,(hs.2 b (Nat.ne_of_lt (Nat.lt_of_lt_of_le (Heap.lt_size e) (I.ok.cab x c hfn hc)))).trans e1⟩
    · obtain⟨o',e1⟩:=I.base.there b o e hx
      exact⟨o',(hs.2 b (Nat.ne_of_lt (Nat.lt_of_lt_of_le (Heap.lt_size e) (I.ok.cab x c hfn hc)))).trans e1⟩
    · by_cases hj:j=i
      · subst hj
        rw [hi] at e1;cases e1
        rw [List.getElem?_set_self hiσ] at e2
        cases e2
        exact⟨u,r,.inr ⟨.inl hk,c,hc,hc'⟩⟩
      · rw [List.getElem?_set_ne (Ne.symm hj)] at e2
        obtain⟨u',r',q⟩:=hl j y v' e1 e2 e3
        refine⟨u',r',?_⟩
        rcases q with q | ⟨k,c',e,z'⟩
        · exact .inl q
        · refine .inr ⟨k,c',e,z'.sameBut hs ?_⟩
          rintro rfl
          exact hj (qQ hN e1 (I.ok.inj _ _ _ e hc ▸ hi))
    · by_cases hcc:c'=c
      · subst hcc;exact⟨_,hc'⟩
      · obtain⟨w2,z2⟩:=I.cell y c' e
        exact⟨w2,z2.sameBut hs hcc⟩
    · obtain⟨e,n,ne,nf,d⟩:=I.pin p hp
      refine⟨(hs.2 p.1 ?_).trans e,n,ne,nf,d⟩
      intro q
      rw [q,hoc] at e
      have q':oc=p.2:=Option.some.inj e
      exact d w' (by rw [←q'];exact hocd)
theorem j8{M:Model}{A:Around}{E:Value→Shared→Prop}{i:Nat}{x:Str}{v:V}{u:Value}{Q:Unit→Shared→Prop}(I:aA X pins σ H s)(hN:X.N.Nodup)(hi:X.N[i]?=some x)(hx:C_ X.env.scope x)(r:bw v u)
    (h:∀s',aA X pins (σ.set i (some v)) H s'→Q () s')(hf:X.fn x=true∨X.env.scope.names.lookup x=some .local:=by first | exact .inl rfl | exact .inr rfl | assumption):wpAny M A (storeName X.env x u) Q E s:=
  vf I hN hi hx r (fun s' I' _=>h s' I') hf
theorem aA.call'{s':Shared}{ch:List Addr}(I:aA X pins σ H s)(ho:s'.os=s.os)(u:Un (we X.stack) ch H H' s.heap s'.heap)(hok:kc X.prog X.w H' s'.heap)(hg:AllBare s'.gens)
    (hch:∀b∈ch,(b∈X.ex∨X.s₀.heap.objs.size≤b)∧b≠X.env.locals∧(∀x c,X.env.cells.lookup x=some c→c≠b)∧∀p∈X.pn++pins,p.1≠b):aA X pins σ H' s':=by
  obtain⟨h',g',d',t',o'⟩:=s'
  have e:o'=s.os:=ho
  subst e
  exact I.call (g':=g') (t':=t') (d':=d') u hok hg hch
end
abbrev XK:=Value→Option Addr→Hp→Prop
abbrev St:=List (Option V)
abbrev VK:=V→Hp→Prop
abbrev TE:=St→Hp→VK→Prop
abbrev TT:=St→Hp→(Bool→Hp→Prop)→Prop
abbrev TA:=St→Hp→(List V→Hp→Prop)→Prop
structure rJ where
  nx:St→Hp→Prop
  rt:VK
  bk:St→Hp→Prop:=fun _ _=>False
  ct:St→Hp→Prop:=fun _ _=>False
abbrev TS:=rJ→St→Hp→Prop
def EP(X:Cx)(pins:List (Addr × Obj))(σ:St)(Q:VK)(u:Value)(s':Shared):Prop:=∃v H',aA X pins σ H' s'∧bw v u∧Q v H'
def TP(X:Cx)(pins:List (Addr × Obj))(σ:St)(Q:Bool→Hp→Prop)(b:Bool)(s':Shared):Prop:=∃H',aA X pins σ H' s'∧Q b H'
def AP(X:Cx)(pins:List (Addr × Obj))(σ:St)(Q:List V→Hp→Prop)(us:List Value)(s':Shared):Prop:=∃vs H',aA X pins σ H' s'∧aO vs us∧Q vs H'
def SP(X:Cx)(pins:List (Addr × Obj))(D:rJ)(f:Flow)(s':Shared):Prop:=
  match f with
  | .next=>∃σ' H',aA X pins σ' H' s'∧D.nx σ' H'
  | .brk=>∃σ' H',aA X pins σ' H' s'∧D.bk σ' H'
  | .cont=>∃σ' H',aA X pins σ' H' s'∧D.ct σ' H'
  | .ret u=>∃v σ' H',aA X pins σ' H' s'∧bw v u∧D.rt v H'
def PE(X:Cx)(e:Expr)(t:TE):Prop:=
  ∀(pins:List (Addr × Obj)) (s:Shared) (σ:St) (H:Hp) (Q:VK),aA X pins σ H s→t σ H Q→wpAny (model X.prog X.w) X.A (eval e X.env) (EP X pins σ Q) X.xe s
def PT(X:Cx)(e:Expr)(t:TT):Prop:=
  ∀(pins:List (Addr × Obj)) (s:Shared) (σ:St) (H:Hp) (Q:Bool→Hp→Prop),aA X pins σ H s→t σ H Q→wpAny (model X.prog X.w) X.A (isTrue e X.env (eval e X.env)) (TP X pins σ Q) X.xe s
def PW(X:Cx)(e:Expr)(t:TT):Prop:=
  ∀(whole:Sem Value) (pins:List (Addr × Obj)) (s:Shared) (σ:St) (H:Hp) (Q:Bool→Hp→Prop),aA X pins σ H s→t σ H Q→wpAny (model X.prog X.w) X.A (isTrue e X.env whole) (TP X pins σ Q) X.xe s
theorem PW.pt{X:Cx}{e:Expr}{t:TT}(h:PW X e t):PT X e t:=h _
def PA(X:Cx)(es:List Expr)(t:TA):Prop:=
  ∀(pos:Pos) (pins:List (Addr × Obj)) (s:Shared) (σ:St) (H:Hp) (Q:List V→Hp→Prop),aA X pins σ H s→t σ H Q→wpAny (model X.prog X.w) X.A (spliced (backTo pos (starEach es X.env))) (AP X pins σ Q) X.xe s
def PS(X:Cx)(st:Stmt)(t:TS):Prop:=
  ∀(pins:List (Addr × Obj)) (s:Shared) (σ:St) (H:Hp) (D:rJ),aA X pins σ H s→t D σ H→wpAny (model X.prog X.w) X.A (exec st X.env) (SP X pins D) X.xe s
def lK(X:Cx)(st:List Stmt)(t:TS):Prop:=
  ∀(pins:List (Addr × Obj)) (s:Shared) (σ:St) (H:Hp) (D:rJ),aA X pins σ H s→t D σ H→wpAny (model X.prog X.w) X.A (execs st X.env) (SP X pins D) X.xe s
theorem cC{α:Type}{t:Sem α}{Q Q':α→Shared→Prop}{M:Model}{A:Around}{E:Value→Shared→Prop}{s:Shared}(h:wpAny M A t Q E s)(hQ:∀a s,Q a s→Q' a s):wpAny M A t Q' E s:=wpAny_mono h hQ fun _ _ x=>x
end L2
namespace L2
open PySem PySem.Spec PyProof.Rows
section
variable{X:Cx}
def EX(i:Nat):TE:=fun σ H Q=>∃v,σ[i]?=some (some v)∧Q v H
def tC(v:V):TE:=fun _ H Q=>Q v H
theorem B8{i:Nat}{x:Str}{pos:Pos}(hN:X.N[i]?=some x)(hv:Dp X.env.scope x)(hd:(x==("__debug__":Str))=false:=by decide)(hcd:(x==("__classdict__":Str))=false:=by decide):PE X (.Name x pos) (EX i):=by
  intro pins s σ H Q I h
  obtain⟨v,e,h⟩:=h
  obtain⟨m,hn,hl⟩:=I.loc
  obtain⟨u,r,l⟩:=hl i x v hN e hv
  have fin:EP X pins σ Q u s:=⟨v,H,I,r,h⟩
  rcases l with ⟨hk,hm⟩ | ⟨hk,c,hc,hcell⟩
  · exact wpAny_Name (wpAny_loadName_local I.ok.kind hk hn hm fin) hd
  · rcases hk with hk | hk
    · exact wpAny_Name (wpAny_loadName_cell I.ok.kind hk hc hcell fin) hd
    · exact wpAny_Name (wpAny_loadName_free I.ok.kind hk hc hcell fin hcd) hd
theorem sr{i j pos}:PE X (.Constant (.int i) j pos) (tC (.int i)):=fun _ _ _ H _ I h=>wpAny_Constant_int ⟨.int i,H,I.tok _,⟨_,rfl⟩,h⟩
theorem Ea{b j pos}:PE X (.Constant (.bool b) j pos) (tC (.bl b)):=fun _ _ _ H _ I h=>Constant_bool ⟨.bl b,H,I,rfl,h⟩
theorem B3{j pos}:PE X (.Constant .none j pos) (tC .non):=fun _ _ _ H _ I h=>Constant_none ⟨.non,H,I,rfl,h⟩
theorem B6{x j pos}:PE X (.Constant (.str x) j pos) (tC (.str x)):=fun _ _ _ H _ I h=>Calls.Constant_str ⟨.str x,H,I.tok _,⟨_,rfl⟩,h⟩
def Gl(X:Cx)(x:Str):Prop:=X.env.kindOf x=some .globalImplicit
theorem yM{E:Value→Shared→Prop}{pins:List (Addr × Obj)}{s:Shared}{σ:St}{H:Hp}{x:Str}{u:Value}{pos:Pos}{Q:Value→Shared→Prop}(I:aA X pins σ H s)(hg:Gl X x)(hm:X.mg x=some u)(h:Q u s)
    (hd:(x==("__debug__":Str))=false:=by decide):wpAny (model X.prog X.w) X.A (eval (.Name x pos) X.env) Q E s:=
  Calls.Name_function_global I.ok.kind hg (Calls.loadGlobal_global (by rw [I.ok.glob];exact I.mod.glob.keeps I.bk) hm h) hd
theorem gj{E:Value→Shared→Prop}{pins:List (Addr × Obj)}{s:Shared}{σ:St}{H:Hp}{x:Str}{u:Value}{pos:Pos}{Q:Value→Shared→Prop}(I:aA X pins σ H s)(hg:Gl X x)(hm:X.mg x=none)(hv:bootBuiltins x=some u)(h:Q u s)
    (hn:x≠"__name__":=by decide)(hd:(x==("__debug__":Str))=false:=by decide):wpAny (model X.prog X.w) X.A (eval (.Name x pos) X.env) Q E s:=by
  obtain⟨mb,h1,h2⟩:=I.mod.blt
  exact Calls.Name_function_global I.ok.kind hg (Calls.loadGlobal_builtin (by rw [I.ok.glob];exact I.mod.glob.keeps I.bk) hm (by rw [I.ok.blt];exact h1.keeps I.bk) ((h2 x hn).trans hv) h) hd
variable{a b:Expr}{ta tb:TE}{pos:Pos}
def tB(t:TE):TT:=fun σ H Q=>t σ H fun x H1=>∃c,x=.bl c∧Q c H1
theorem Ci{e:Expr}{t:TE}(h:PE X e t)(he:∀whole,isTrue e X.env whole=(do let v ←whole;standAt e.pos;holding [v] (truthy v)):=by intro _;rfl):PT X e (tB t):=by
  intro pins s σ H Q I hw
  refine isTrue_plain (cC (h pins s σ H _ I hw) fun v s1 ⟨x,H1,I1,r1,q1⟩=>?_) (he _)
  obtain⟨d,rfl,q⟩:=q1
  cases r1
  exact wpAny_truthy_bool ⟨H1,I1,q⟩
variable{tA tB':TT}{fm:List Expr}
def EK(t u:TT):TT:=fun σ H Q=>t σ H fun c H1=>if c=true then u σ H1 Q else Q false H1
def GK(t u:TT):TT:=fun σ H Q=>t σ H fun c H1=>if c=true then Q true H1 else u σ H1 Q
def ES(t:TT):TT:=fun σ H Q=>t σ H fun c H1=>Q (!c) H1
theorem zB(ha:PT X a tA):PW X (.BoolOp .And [a] pos) tA:=by
  intro wh pins s σ H Q I h
  refine isTrue_and (cC (ha pins s σ H Q I h) fun c s1 e=>?_)
  cases c with
  | true=>exact isTrue_and_nil e
  | false=>exact e
theorem Cm(ha:PT X a tA):PW X (.BoolOp .Or [a] pos) tA:=by
  intro wh pins s σ H Q I h
  refine isTrue_or (cC (ha pins s σ H Q I h) fun c s1 e=>?_)
  cases c with
  | false=>exact isTrue_or_nil e
  | true=>exact e
theorem Ck(ha:PT X a tA)(hb:PW X (.BoolOp .And (b::fm) pos) tB'):PW X (.BoolOp .And (a::b::fm) pos) (EK tA tB'):=by
  intro wh pins s σ H Q I h
  refine isTrue_and (cC (ha pins s σ H _ I h) fun c s1 ⟨H1,I1,q1⟩=>?_)
  cases c with
  | true=>exact hb wh pins s1 σ H1 Q I1 q1
  | false=>exact⟨H1,I1,q1⟩
theorem Eh(ha:PT X a tA)(hb:PW X (.BoolOp .Or (b::fm) pos) tB'):PW X (.BoolOp .Or (a::b::fm) pos) (GK tA tB'):=by
  intro wh pins s σ H Q I h
  refine isTrue_or (cC (ha pins s σ H _ I h) fun c s1 ⟨H1,I1,q1⟩=>?_)
  cases c with
  | true=>exact⟨H1,I1,q1⟩
  | false=>exact hb wh pins s1 σ H1 Q I1 q1
theorem Cg(ha:PT X a tA):PT X (.UnaryOp .Not a pos) (ES tA):=by
  intro pins s σ H Q I h
  exact isTrue_not (ha pins s σ H (fun c H1=>Q (!c) H1) I h)
def EL(ta tb:TE):TE:=fun σ H Q=>ta σ H fun x H1=>∃c,x=.bl c∧if c=true then tb σ H1 Q else Q (.bl false) H1
def ET(ta:TE):TE:=fun σ H Q=>ta σ H fun x H1=>∃c,x=.bl c∧Q (.bl (!c)) H1
theorem B5{op}{t:TE}(h:PE X a t):PE X (.BoolOp op [a] pos) t:=fun pins s σ H Q I hw=>BoolOp_one (h pins s σ H Q I hw)
theorem B1(ha:PE X a ta)(hb:PE X (.BoolOp .And (b::fm) pos) tb):PE X (.BoolOp .And (a::b::fm) pos) (EL ta tb):=by
  intro pins s σ H Q I h
  refine BoolOp_and (cC (ha pins s σ H _ I h) fun v s1 ⟨x,H1,I1,r1,q1⟩=>?_)
  obtain⟨c,rfl,q1⟩:=q1
  cases r1
  refine wpAny_truthy_bool ?_
  cases c with
  | true=>exact hb pins s1 σ H1 Q I1 q1
  | false=>exact⟨.bl false,H1,I1,rfl,q1⟩
theorem B4(ha:PE X a ta):PE X (.UnaryOp .Not a pos) (ET ta):=by
  intro pins s σ H Q I h
  refine UnaryOp_ (cC (ha pins s σ H _ I h) fun v s1 ⟨x,H1,I1,r1,q1⟩=>?_)
  obtain⟨c,rfl,q1⟩:=q1
  cases r1
  exact not_of (wpAny_truthy_bool ⟨.bl (!c),H1,I1,rfl,q1⟩)
end
end L2
namespace L2
open PySem PySem.Spec PyProof.Rows
def cT(K:PySem.W.Frag)(H:Hp)(a:Addr)(xs:List V):Prop:=
  Rd H a (.lst xs)∨
    ∃(o:Obj) (its:Array Value) (n:Nat),K.lookup a=some o∧o.cls=.type "list"∧o.dict=none∧o.data=.seq its n∧its.size≤sizeLine∧aO xs its.toList
def bX(K:PySem.W.Frag)(H:Hp)(a:Addr)(xs:List V):Prop:=
  Rd H a (.tup xs)∨
    ∃(o:Obj) (its:Array Value) (n:Nat),K.lookup a=some o∧o.cls=.type "tuple"∧o.dict=none∧o.data=.seq its n∧its.size≤sizeLine∧aO xs its.toList
def FP:Value→Option V
  | .none=>some .non
  | .bool b=>some (.bl b)
  | .int i _=>some (.int i)
  | .str x _=>some (.str x)
  | .bytes b _=>some (.byt b)
  | .float b _=>some (.flt b)
  | .ref a=>some (.ref a)
  | .type n=>some (.ty n)
  | _=>none
theorem bw.abs{x:V}{u:Value}(r:bw x u):FP u=some x:=by
  cases x with
  | non=>cases r;rfl
  | bl _=>cases r;rfl
  | int _=>obtain⟨t,rfl⟩:=r;rfl
  | str _=>obtain⟨t,rfl⟩:=r;rfl
  | byt _=>obtain⟨t,rfl⟩:=r;rfl
  | flt _=>obtain⟨t,rfl⟩:=r;rfl
  | ref _=>cases r;rfl
  | ty _=>cases r;rfl
theorem bw.inj{x y:V}{u:Value}(r:bw x u)(q:bw y u):x=y:=Option.some.inj (r.abs.symm.trans q.abs)
theorem aO.inj:∀{xs ys:List V} {us:List Value},aO xs us→aO ys us→xs=ys
  | _,_,_,.nil,.nil=>rfl
  | _,_,_,.cons r t,.cons r' t'=>by rw [r.inj r',aO.inj t t']
section
variable{X:Cx}{pins:List (Addr × Obj)}{σ:St}{H:Hp}{s:Shared}{a:Addr}{xs ys:List V}
theorem cT.of{K:PySem.W.Frag}(h:H a=some (.lst xs)):cT K H a xs:=.inl (.inl h)
theorem bX.of{K:PySem.W.Frag}(h:H a=some (.tup xs)):bX K H a xs:=.inl (.inl h)
theorem aA.list(I:aA X pins σ H s)(h:cT X.K H a xs):∃its:List Value,aO xs its∧PlainL s.heap a its.toArray∧xs.length≤sizeLine:=by
  rcases h with h | ⟨o,its,n,hk,hc,hd,hs,hz,r⟩
  · obtain⟨z,its,n,r,e⟩:=h.ok I.hok
    exact⟨its,r,⟨_,n,e,rfl,rfl,rfl⟩,z⟩
  · refine⟨its.toList,r,⟨o,n,I.kIn a o hk,hc,hd,by simpa using hs⟩,?_⟩
    have e:=r.length
    simp only [Array.length_toList] at e
    lia
theorem aA.tuple(I:aA X pins σ H s)(h:bX X.K H a xs):∃its:List Value,aO xs its∧IsTup s.heap a its.toArray∧xs.length≤sizeLine:=by
  rcases h with h | ⟨o,its,n,hk,hc,_,hs,hz,r⟩
  · obtain⟨z,its,r,p⟩:=h.ok I.hok
    exact⟨its,r,p.tup,z⟩
  · refine⟨its.toList,r,⟨o,I.kIn a o hk,hc,n,by simpa using hs⟩,?_⟩
    have e:=r.length
    simp only [Array.length_toList] at e
    lia
theorem aA.list_inj(I:aA X pins σ H s)(h:cT X.K H a xs)(h':cT X.K H a ys):xs=ys:=by
  obtain⟨its,r,⟨o,n,e,_,_,d⟩,_⟩:=I.list h
  obtain⟨its',r',⟨o',n',e',_,_,d'⟩,_⟩:=I.list h'
  rw [e] at e';cases e'
  rw [d] at d'
  injection d' with d1 _
  have:its=its':=by simpa using congrArg Array.toList d1
  subst this
  exact r.inj r'
theorem aA.tuple_inj(I:aA X pins σ H s)(h:bX X.K H a xs)(h':bX X.K H a ys):xs=ys:=by
  obtain⟨its,r,⟨o,e,_,n,d⟩,_⟩:=I.tuple h
  obtain⟨its',r',⟨o',e',_,n',d'⟩,_⟩:=I.tuple h'
  rw [e] at e';cases e'
  rw [d] at d'
  injection d' with d1 _
  have:its=its':=by simpa using congrArg Array.toList d1
  subst this
  exact r.inj r'
end
abbrev Cx.wish(X:Cx)(E:Value→Shared→Prop):Cx:={X with xe:=E}
abbrev Cx.nox(X:Cx):Cx:=X.wish fun _ _=>False
theorem Cx.Ok.wish{X:Cx}(ok:X.Ok)(E:Value→Shared→Prop):(X.wish E).Ok:=
  ⟨ok.mod,ok.kind,ok.glob,ok.blt,ok.above,ok.inj,ok.has,ok.cab,ok.hd,ok.frames,ok.stk,ok.exf,ok.bs,ok.bsz,ok.noex,ok.exfs,ok.funs,ok.frf⟩
theorem Cx.Ok.unwish{X:Cx}{E:Value→Shared→Prop}(ok:(X.wish E).Ok):X.Ok:=
  ⟨ok.mod,ok.kind,ok.glob,ok.blt,ok.above,ok.inj,ok.has,ok.cab,ok.hd,ok.frames,ok.stk,ok.exf,ok.bs,ok.bsz,ok.noex,ok.exfs,ok.funs,ok.frf⟩
section
variable{X:Cx}{pins:List (Addr × Obj)}{σ:St}{H:Hp}{s:Shared}{E:Value→Shared→Prop}
theorem aA.wish(I:aA X pins σ H s)(E:Value→Shared→Prop):aA (X.wish E) pins σ H s:=⟨I.ok.wish E,I.os,I.bare,I.base,I.loc,I.cell,I.free,I.freeC,I.pin,I.hok,I.len⟩
theorem aA.unwish(I:aA (X.wish E) pins σ H s):aA X pins σ H s:=⟨I.ok.unwish,I.os,I.bare,I.base,I.loc,I.cell,I.free,I.freeC,I.pin,I.hok,I.len⟩
theorem SP.unwish{D:rJ}{f:Flow}{s':Shared}(h:SP (X.wish E) pins D f s'):SP X pins D f s':=by
  cases f with
  | next=>obtain⟨σ',H',I,q⟩:=h;exact⟨σ',H',I.unwish,q⟩
  | brk=>obtain⟨σ',H',I,q⟩:=h;exact⟨σ',H',I.unwish,q⟩
  | cont=>obtain⟨σ',H',I,q⟩:=h;exact⟨σ',H',I.unwish,q⟩
  | ret u=>obtain⟨v,σ',H',I,r,q⟩:=h;exact⟨v,σ',H',I.unwish,r,q⟩
theorem lK.nox{st:List Stmt}{t:TS}(h:lK X.nox st t):lK X st t:=fun pins s σ H D I hw=>
  wpAny_mono (h pins s σ H D (I.wish _) hw) (fun _ _ q=>q.unwish) fun _ _ z=>False.elim z
end
section
variable{X:Cx}{st:Stmt}{fm:List Stmt}{t u:TS}{e:Expr}{te:TE}{pos:Pos}
def ER:TS:=fun D σ H=>D.nx σ H
def Gs(t u:TS):TS:=fun D σ H=>t {D with nx:=u D} σ H
theorem zx:lK X [] ER:=fun _ _ σ H _ I h=>wpAny_execs_nil ⟨σ,H,I,h⟩
theorem xo(h1:PS X st t)(h2:lK X fm u):lK X (st::fm) (Gs t u):=by
  intro pins s σ H D I h
  refine wpAny_execs_cons (cC (h1 pins s σ H {D with nx:=u D} I h) fun f s1 q=>?_)
  cases f with
  | next=>
    obtain⟨σ',H',I',q⟩:=q
    exact h2 pins s1 σ' H' D I' q
  | ret v=>exact q
  | brk=>exact q
  | cont=>exact q
theorem zy(h1:PS X st t):lK X [st] t:=by
  intro pins s σ H D I h
  refine wpAny_execs_cons (cC (h1 pins s σ H D I h) fun f s1 q=>?_)
  cases f with
  | next=>exact wpAny_execs_nil q
  | ret v=>exact q
  | brk=>exact q
  | cont=>exact q
theorem aA.quiet{pins:List (Addr × Obj)}{σ:St}{H:Hp}{s:Shared}(I:aA X pins σ H s):interactive X.env=false:=by simp [interactive,I.ok.kind]
def EO(te:TE):TS:=fun D σ H=>te σ H fun _ H1=>D.nx σ H1
theorem zw(he:PE X e te)(hs:swapsWith e none pos.line X.env=pure false:=by rfl):PS X (.Expr e pos) (EO te):=by
  intro pins s σ H D I h
  exact wpAny_Expr_any (cC (he pins s σ H _ I h) fun v s1 ⟨x,H1,I1,r1,q1⟩=>⟨σ,H1,I1,q1⟩) I.quiet hs
def Gr(te:TE):TS:=fun D σ H=>te σ H D.rt
theorem Ce(he:PE X e te):PS X (.Return (some e) pos) (Gr te):=by
  intro pins s σ H D I h
  exact wpAny_Return_some (cC (he pins s σ H _ I h) fun v s1 ⟨x,H1,I1,r1,q1⟩=>⟨x,σ,H1,I1,r1,q1⟩)
def Gm(c:TT)(t u:TS):TS:=fun D σ H=>c σ H fun b H1=>if b=true then t D σ H1 else u D σ H1
theorem Eg{c:Expr}{a b:List Stmt}{tc:TT}(hc:PT X c tc)(ha:lK X a t)(hb:lK X b u):PS X (.If c a b pos) (Gm tc t u):=by
  intro pins s σ H D I h
  refine wpAny_If (cC (hc pins s σ H _ I h) fun d s1 ⟨H1,I1,q1⟩=>?_)
  cases d with
  | true=>exact ha pins s1 σ H1 D I1 q1
  | false=>exact hb pins s1 σ H1 D I1 q1
end
abbrev TG:=V→St→Hp→(St→Hp→Prop)→Prop
abbrev yg:=List V→St→Hp→(St→Hp→Prop)→Prop
def PG(X:Cx)(target:Expr)(t:TG):Prop:=
  ∀(pins:List (Addr × Obj)) (s:Shared) (σ:St) (H:Hp) (v:V) (u:Value) (Q:St→Hp→Prop),aA X pins σ H s→bw v u→t v σ H Q→
    wpAny (model X.prog X.w) X.A (assign target X.env u) (fun _ s'=>∃σ' H',aA X pins σ' H' s'∧Q σ' H') X.xe s
def vx(X:Cx)(ts:List Expr)(t:yg):Prop:=
  ∀(pins:List (Addr × Obj)) (s:Shared) (σ:St) (H:Hp) (vs:List V) (us:List Value) (Q:St→Hp→Prop),aA X pins σ H s→aO vs us→t vs σ H Q→
    wpAny (model X.prog X.w) X.A (assignInOrder ((assignEach ts X.env).map (·.2)) us) (fun _ s'=>∃σ' H',aA X pins σ' H' s'∧Q σ' H') X.xe s
abbrev AW:=V→V→V→Hp→(Hp→Prop)→Prop
def Dl(X:Cx)(t:AW):Prop:=
  ∀(pins:List (Addr × Obj)) (s:Shared) (σ:St) (H:Hp) (o i v:V) (ov iv u:Value) (Q:Hp→Prop),aA X pins σ H s→bw o ov→bw i iv→bw v u→t o i v H Q→
    wpAny (model X.prog X.w) X.A (setItem ov iv u) (fun _ s'=>∃H',aA X pins σ H' s'∧Q H') X.xe s
section
variable{X:Cx}{pos:Pos}
def Av(i:Nat):TG:=fun v σ H Q=>Q (σ.set i (some v)) H
theorem zi{i:Nat}{x:Str}(hN:X.N.Nodup)(hi:X.N[i]?=some x)(hx:C_ X.env.scope x)(hf:X.fn x=true∨X.env.scope.names.lookup x=some .local:=by first | exact .inl rfl | exact .inr rfl | assumption):PG X (.Name x pos) (Av i):=by
  intro pins s σ H v u Q I r h
  exact wpAny_assign_Name (j8 I hN hi hx r (fun s' I'=>⟨_,H,I',h⟩) hf)
def FR:yg:=fun vs σ H Q=>vs=[]∧Q σ H
def DH(t:TG)(u:yg):yg:=fun vs σ H Q=>∃v r,vs=v::r∧t v σ H fun σ' H'=>u r σ' H' Q
theorem zm:vx X [] FR:=by
  intro pins s σ H vs us Q I r h
  obtain⟨e,h⟩:=h
  subst e
  cases r
  exact assignInOrder_nil ⟨σ,H,I,h⟩
theorem xb{e:Expr}{es:List Expr}{t:TG}{u:yg}(h1:PG X e t)(h2:vx X es u)
    (hs:(assignEach (e::es) X.env).map (·.2)=assign e X.env::(assignEach es X.env).map (·.2):=by rfl):vx X (e::es) (DH t u):=by
  intro pins s σ H vs us Q I r h
  obtain⟨v,vr,e1,h⟩:=h
  subst e1
  cases r with
  | cons r rr=>
    rw [hs]
    refine assignInOrder_cons (cC (h1 pins s σ H _ _ _ I r h) fun _ s1 ⟨σ1,H1,I1,q1⟩=>?_)
    exact h2 pins s1 σ1 H1 _ _ Q I1 rr q1
def rW(K:PySem.W.Frag)(n:Nat)(t:yg):TG:=fun v σ H Q=>∃a xs,v=.ref a∧bX K H a xs∧xs.length=n∧t xs σ H Q
theorem B_{es:List Expr}{k:Nat}{t:yg}{n:Nat}(hc:X.calm=true)(h:vx X es t)
    (hn:(assignEach es X.env).length=n:=by rfl)(hst:(assignEach es X.env).findIdx? (·.1)=none:=by rfl):PG X (.Tuple es k pos) (rW X.K n t):=by
  intro pins s σ H v u Q I r hw
  obtain⟨a,xs,e1,hq,hl,hw⟩:=hw
  subst e1
  cases r
  obtain⟨its,rv,ht,hz⟩:=I.tuple hq
  refine assign_Tuple_tuple (I.ok.hd hc) ht (by simp [hn,←hl,rv.length]) hst fun h' hx=>?_
  have I1:aA X pins σ H {s with heap:=h'}:=I.kept (t':=s.toks) fun b o e=>hx b o (Nat.ne_of_lt (Heap.lt_size e)) e
  exact h pins _ σ H xs _ Q I1 (by simpa using rv) hw
def FV(to ti:TE)(t:AW):TG:=fun v σ H Q=>to σ H fun o H1=>ti σ H1 fun i H2=>t o i v H2 fun H3=>Q σ H3
theorem B9{o i:Expr}{to ti:TE}{t:AW}(ho:PE X o to)(hi:PE X i ti)(hs:Dl X t)
    (ha:∀v,assign (.Subscript o i pos) X.env v=(do
      let ov ←holding [v] (eval o X.env)
      let iv ←holding [v,ov] (eval i X.env)
      standAt pos
      holding [v,ov,iv] (setItem ov iv v)
      release [v,ov,iv] []):=by intro _;rfl):PG X (.Subscript o i pos) (FV to ti t):=by
  intro pins s σ H v u Q I r h
  rw [ha]
  refine wpAny_bind (wpAny_holding (cC (ho pins s σ H _ I h) fun ov s1 ⟨x,H1,I1,r1,q1⟩=>?_))
  refine wpAny_bind (wpAny_holding (cC (hi pins s1 σ H1 _ I1 q1) fun iv s2 ⟨y,H2,I2,r2,q2⟩=>?_))
  refine wpAny_bind (wpAny_standAt (wpAny_bind (wpAny_holding (cC (hs pins s2 σ H2 x y v ov iv u _ I2 r1 r2 r q2) fun _ s3 ⟨H3,I3,q3⟩=>?_))))
  exact wpAny_release ⟨σ,H3,I3,q3⟩
def EM(te:TE)(g:TG):TS:=fun D σ H=>te σ H fun x H1=>g x σ H1 D.nx
theorem xm{tg e:Expr}{te:TE}{g:TG}(he:PE X e te)(hg:PG X tg g)(hs:swapsWithSole [tg] e pos.line X.env=pure false:=by rfl)(hw:swappedStores [tg] e X.env=pure none:=by rfl)
    (h1:(assignEach [tg] X.env).map (·.2)=[assign tg X.env]:=by rfl):PS X (.Assign [tg] e pos) (EM te g):=by
  intro pins s σ H D I h
  refine wpAny_Assign_stores (cC (he pins s σ H _ I h) fun v s1 ⟨x,H1,I1,r1,q1⟩=>?_) hs hw
  rw [h1]
  exact cC (hg pins s1 σ H1 x v _ I1 r1 q1) fun _ s2 q=>q
theorem Cf{i:Nat}{x:Str}{e:Expr}{te:TE}{pos':Pos}(hN:X.N.Nodup)(hi:X.N[i]?=some x)(hx:C_ X.env.scope x)(he:PE X e te)(hs:swapsWith e (some (.Name x pos')) pos.line X.env=pure false:=by rfl)(hf:X.fn x=true∨X.env.scope.names.lookup x=some .local:=by first | exact .inl rfl | exact .inr rfl | assumption):
    PS X (.Assign [.Name x pos'] e pos) (EM te (Av i)):=by
  intro pins s σ H D I h
  refine wpAny_Assign_Name (cC (he pins s σ H _ I h) fun v s1 ⟨y,H1,I1,r1,q1⟩=>?_) hs
  exact j8 I1 hN hi hx r1 (fun s2 I2=>⟨_,H1,I2,q1⟩) hf
def Gq(i j:Nat)(ta:TA):TS:=fun D σ H=>ta σ H fun vs H1=>∃v w,vs=[v,w]∧D.nx ((σ.set i (some v)).set j (some w)) H1
theorem Cd{i j:Nat}{x y:Str}{a b:Expr}{ta:TA}{px py pt:Pos}{kt k2 pt2}(hc:X.calm=true)(hN:X.N.Nodup)(hi:X.N[i]?=some x)(hj:X.N[j]?=some y)(hij:i≠j)
    (hx:X.env.scope.names.lookup x=some .local)(hy:X.env.scope.names.lookup y=some .local)(ha:PA X [a,b] ta)
    (hw:swappedStores [.Tuple [.Name x px,.Name y py] kt pt] (.Tuple [a,b] k2 pt2) X.env=pure (some [x,y]))
    (hs:swapsWithSole [.Tuple [.Name x px,.Name y py] kt pt] (.Tuple [a,b] k2 pt2) pos.line X.env=pure false:=by rfl):
    PS X (.Assign [.Tuple [.Name x px,.Name y py] kt pt] (.Tuple [a,b] k2 pt2) pos) (Gq i j ta):=by
  intro pins s σ H D I h
  rw [exec_Assign_arm]
  refine wpAny_bind (wpAny_standAt ?_)
  rw [hs]
  refine wpAny_bind (wpAny_pure ?_)
  rw [if_neg (by decide)]
  refine wpAny_bind (Tuple_ (cC (ha _ pins s σ H _ I h) fun us s1 ⟨vs,H1,I1,r1,q1⟩=>?_))
  obtain⟨v,w,e1,q1⟩:=q1
  subst e1
  obtain⟨u1,u2,rfl,rv,rw'⟩:∃u1 u2,us=[u1,u2]∧bw v u1∧bw w u2:=by
    cases r1 with
    | cons p q=>
      cases q with
      | cons p' q'=>
        cases q'
        exact⟨_,_,rfl,p,p'⟩
  refine wpAny_newObj_type ?_ (by show 2≤sizeLine;decide)
  have I2:aA X pins σ H1 {s1 with heap:=s1.heap.push {cls:=.type "tuple",data:=.seq [u1,u2].toArray}}:=I1.kept (t':=s1.toks) fun b o e=>Heap.get?_push_of_some _ e
  rw [hw]
  refine wpAny_bind (wpAny_pure ?_)
  show wpAny (model X.prog X.w) X.A (do rule "assign.swapped-stores";let items ←unpackItems (.ref s1.heap.objs.size) 2 none;assignInOrder [fun v=>bindName X.env y v,fun v=>bindName X.env x v] items.reverse;pure Flow.next) _ _ _
  refine wpAny_bind (wpAny_rule (wpAny_bind (unpackItems_tuple (items:=#[u1,u2]) (I.ok.hd hc) (IsTup.new s1.heap _) fun h' hx'=>?_)))
  have I3:=I2.kept (h':=h') (t':=s1.toks) fun b o e=>hx' b o (Nat.ne_of_lt (Heap.lt_size e)) e
  show wpAny _ _ (assignInOrder [fun v=>bindName X.env y v,fun v=>bindName X.env x v] [u2,u1] >>= fun _=>pure Flow.next) _ _ _
  refine wpAny_bind (assignInOrder_cons (wpAny_bindName (j8 I3 hN hj (.inl hy) rw' (fun s2 I4=>?_) (.inr hy))))
  refine assignInOrder_cons (wpAny_bindName (j8 I4 hN hi (.inl hx) rv (fun s3 I5=>assignInOrder_nil (wpAny_pure ?_)) (.inr hx)))
  rw [List.set_comm _ _ (Ne.symm hij)] at I5
  exact⟨_,H1,I5,q1⟩
end
section
variable{X:Cx}{pos:Pos}
def CS(c:TT)(tb:TS):TS:=fun D σ H=>∃W:Nat→St→Hp→Prop,(∃m,W m σ H)∧∀m σ H,W m σ H→
  c σ H fun b H1=>if b=true then ∃N:St→Hp→Prop,(∀σ' H',N σ' H'→∃m',m' < m∧W m' σ' H')∧tb {D with nx:=N,ct:=N,bk:=D.nx} σ H1 else D.nx σ H1
theorem xn{c:Expr}{body:List Stmt}{tc:TT}{tb:TS}(hp:PassesOwn (model X.prog X.w) X.A X.env X.xe)(hc:PT X c tc)(hb:lK X body tb):PS X (.While c body [] pos) (CS tc tb):=by
  intro pins s σ H D I h
  obtain⟨W,⟨m0,w0⟩,turn⟩:=h
  refine wpAny_While (codeAny_whileLoop (fun n s'=>∃σ' H',aA X pins σ' H' s'∧W n σ' H') ?_ m0 ⟨σ,H,I,w0⟩)
  rintro n s1 ⟨σ1,H1,I1,w1⟩
  refine wpAny_passesOwn hp (cC (hc pins s1 σ1 H1 _ I1 (turn n σ1 H1 w1)) fun b s2 ⟨H2,I2,q2⟩=>?_)
  cases b with
  | true=>
    obtain⟨N,hN,q2⟩:=q2
    rw [if_pos rfl]
    refine wpAny_passesOwn hp (cC (hb pins s2 σ1 H2 _ I2 q2) fun f s3 q3=>?_)
    cases f with
    | next=>
      obtain⟨σ3,H3,I3,n3⟩:=q3
      obtain⟨m',hm,w3⟩:=hN σ3 H3 n3
      exact⟨m',hm,σ3,H3,I3,w3⟩
    | cont=>
      obtain⟨σ3,H3,I3,n3⟩:=q3
      obtain⟨m',hm,w3⟩:=hN σ3 H3 n3
      exact⟨m',hm,σ3,H3,I3,w3⟩
    | brk=>exact q3
    | ret v=>exact q3
  | false=>
    rw [if_neg Bool.false_ne_true]
    exact wpAny_execs_nil ⟨σ1,H2,I2,q2⟩
end
structure It where
  go:Nat→Hp→Prop
  yld:Nat→Hp→V→Hp→Prop
  stop:Nat→Hp→Prop
def js(X:Cx)(pins:List (Addr × Obj))(H:Hp)(b:Addr):Prop:=
  H b=none∧b≠X.env.locals∧b∉X.fs∧(b∈X.ex∨X.s₀.heap.objs.size≤b)∧(∀x c,X.env.cells.lookup x=some c→c≠b)∧∀p∈X.pn++pins,p.1≠b
theorem aA.fpOk{X:Cx}{pins:List (Addr × Obj)}{σ:St}{H H':Hp}{s:Shared}{b:Addr}(I:aA X pins σ H s)(hb:s.heap.objs.size≤b)(hn:H' b=none):js X pins H' b:=by
  refine⟨hn,Nat.ne_of_gt (Nat.lt_of_lt_of_le I.lt hb),I.nofs hb,.inr (Nat.le_trans I.sz hb),fun x c e z=>?_,fun p hp z=>?_⟩
  · obtain⟨v,q⟩:=I.cell x c e
    exact absurd (Nat.lt_of_lt_of_le q.lt (by rw [z];exact hb)) (Nat.lt_irrefl _)
  · exact absurd (Nat.lt_of_lt_of_le (Heap.lt_size (I.pin p hp).1) (by rw [z];exact hb)) (Nat.lt_irrefl _)
structure qd (P:Program) (w:World) (K:PySem.W.Frag) (tg:Expr) (J:It) (fp:List Addr) (it:Addr) (tn:Nat→Heap→Prop):Prop where
  mem:it∈fp
  obj:∀i h,tn i h→∀b∈fp,∃o,h.get? b=some o∧∀v,o.data≠.cell v
  keep:∀i h h',tn i h→(∀b∈fp,∀o,h.get? b=some o→h'.get? b=some o)→tn i h'
  item:∀(X:Cx),X.prog=P→X.w=w→X.K=K→X.calm=true→∀(i:Nat) (pins:List (Addr × Obj)) (s:Shared) (σ:St) (H:Hp) (E:Value→Shared→Prop),aA X pins σ H s→(∀b∈fp,js X pins H b)→tn i s.heap→J.go i H→
    wpAny (model P w) X.A (pyNext (.ref it)) (fun r s1=>∃u,r=some u∧
      wpAny (model P w) X.A (letOwnedTupleGo tg (.ref it) u) (fun _ s2=>∃x H',aA X pins σ H' s2∧bw x u∧J.yld i H x H'∧tn (i+1) s2.heap∧∀b∈fp,H' b=none) E s1) E s
  done:∀(X:Cx),X.prog=P→X.w=w→X.K=K→X.calm=true→∀(i:Nat) (pins:List (Addr × Obj)) (s:Shared) (σ:St) (H:Hp) (E:Value→Shared→Prop),aA X pins σ H s→(∀b∈fp,js X pins H b)→tn i s.heap→J.stop i H→
    wpAny (model P w) X.A (pyNext (.ref it)) (fun r s1=>r=none∧aA X pins σ H s1) E s
  self:∀(A:Around) (i:Nat) (s:Shared) (Q:Value→Shared→Prop) (E:Value→Shared→Prop),tn i s.heap→Q (.ref it) s→wpAny (model P w) A (pyIter (.ref it)) Q E s
abbrev TI:=St→Hp→(It→Hp→Prop)→Prop
def GA(X:Cx)(pins:List (Addr × Obj))(σ:St)(tg:Expr)(R:It→Hp→Prop)(itv:Value)(s2:Shared):Prop:=
  ∃(it:Addr) (fp:List Addr) (tn:Nat→Heap→Prop) (J:It) (H':Hp),itv=.ref it∧aA X pins σ H' s2∧qd X.prog X.w X.K tg J fp it tn∧tn 0 s2.heap∧(∀b∈fp,js X pins H' b)∧R J H'
def PI(X:Cx)(tg iter:Expr)(wi:TI):Prop:=
  ∀(pins:List (Addr × Obj)) (s:Shared) (σ:St) (H:Hp) (R:It→Hp→Prop),aA X pins σ H s→wi σ H R→
    wpAny (model X.prog X.w) X.A (eval iter X.env) (fun v s1=>wpAny (model X.prog X.w) X.A (pyIter v) (GA X pins σ tg R) X.xe s1) X.xe s
theorem wn{M:Model}{A:Around}{E:Value→Shared→Prop}{s:Shared}{tg:Expr}{it:Addr}{u:Value}{o:Obj}{n:String}{vs:Array Value}{Q:Unit→Shared→Prop}(ho:s.heap.get? it=some o)(hc:o.cls=.type n)(hd:o.data=.fields vs)
    (hn:["enumerate","zip","dict_itemiterator","dict_reverseitemiterator","odict_iterator","itertools.zip_longest","itertools.pairwise"].contains n=false)(hQ:Q () s):wpAny M A (letOwnedTupleGo tg (.ref it) u) Q E s:=by
  unfold letOwnedTupleGo
  cases tg<;>first
    | exact wpAny_pure hQ
    | (cases u<;>first
        | exact wpAny_pure hQ
        | (refine wpAny_bind (wpAny_load ho ?_)
           rw [hc,hd]
           show wpAny M A (if (["enumerate","zip","dict_itemiterator","dict_reverseitemiterator","odict_iterator","itertools.zip_longest","itertools.pairwise"].contains n&&vs[0]?==some (rawInt _))=true then _ else _) Q E s
           rw [if_neg (by intro h;rw [hn,Bool.false_and] at h;cases h)]
           exact wpAny_pure hQ))
def Fy(K:PySem.W.Frag)(a:Addr):It:=
  ⟨fun i H=>∃xs x,cT K H a xs∧xs[i]?=some x,fun i H x H'=>H'=H∧∀xs,cT K H a xs→xs[i]?=some x,fun i H=>∃xs,cT K H a xs∧xs.length≤i⟩
def Fz(K:PySem.W.Frag)(a:Addr):It:=
  ⟨fun i H=>∃xs x,bX K H a xs∧xs[i]?=some x,fun i H x H'=>H'=H∧∀xs,bX K H a xs→xs[i]?=some x,fun i H=>∃xs,bX K H a xs∧xs.length≤i⟩
def Fe(lo:Int)(n:Nat):It:=⟨fun i _=>i < n,fun i H x H'=>H'=H∧x=.int (lo+i),fun i _=>n≤i⟩
theorem vm{P:Program}{w:World}{K:PySem.W.Frag}{tg:Expr}(a it:Addr):qd P w K tg (Fy K a) [it] it (fun i h=>h.IsListIter it a i) where
  mem:=by simp
  obj:=fun i h st b hb=>by
    have e:b=it:=by simpa using hb
    subst e
    obtain⟨o,e,c,d⟩:=st
    exact⟨o,e,fun v z=>by rw [d] at z;cases z⟩
  keep:=fun i h h' st k=>st.at fun o e=>k it (by simp) o e
  item:=by
    intro X hP hw hK hc i pins s σ H E I hf st hg
    subst hP hw hK
    obtain⟨xs,x,hq,hx⟩:=hg
    obtain⟨its,rv,p,hz⟩:=I.list hq
    obtain⟨u,hu,ru⟩:=rv.get hx
    obtain⟨f0,f1,f2,f3,f4,f5⟩:=hf it (by simp)
    refine wpAny_pyNext_list_item st p.isList (x:=u) (by simpa using hu) fun h' st' sb=>?_
    have I1:aA X pins σ H {s with heap:=h'}:=I.turned (t':=s.toks) (fun b o hb e=>(sb.2 b hb).trans e) f0 f1 f3 f4 f5
    obtain⟨o,e,c,d⟩:=id st'
    exact⟨u,rfl,wn (s:={s with heap:=h'}) e c d (by decide) ⟨x,H,I1,ru,⟨rfl,fun ys hy=>by rw [I.list_inj hy hq];exact hx⟩,st',fun b hb=>(hf b hb).1⟩⟩
  done:=by
    intro X hP hw hK hc i pins s σ H E I hf st hg
    subst hP hw hK
    obtain⟨xs,hq,hx⟩:=hg
    obtain⟨its,rv,p,hz⟩:=I.list hq
    obtain⟨f0,f1,f2,f3,f4,f5⟩:=hf it (by simp)
    have hl:=rv.length
    exact wpAny_pyNext_list_end (I.ok.hd hc) st p.isList (by simp;lia) fun h' eb=>⟨rfl,I.turned (t':=s.toks) (fun b o hb e=>eb b o hb e) f0 f1 f3 f4 f5⟩
  self:=fun _ _ _ _ _ st h=>wpAny_pyIter_listiter st h
theorem sM{P:Program}{w:World}{K:PySem.W.Frag}{tg:Expr}(a it:Addr):qd P w K tg (Fz K a) [it] it (fun i h=>h.IsTupleIter it a i) where
  mem:=by simp
  obj:=fun i h st b hb=>by
    have e:b=it:=by simpa using hb
    subst e
    obtain⟨o,e,c,d⟩:=st
    exact⟨o,e,fun v z=>by rw [d] at z;cases z⟩
  keep:=fun i h h' st k=>st.at fun o e=>k it (by simp) o e
  item:=by
    intro X hP hw hK hc i pins s σ H E I hf st hg
    subst hP hw hK
    obtain⟨xs,x,hq,hx⟩:=hg
    obtain⟨its,rv,p,hz⟩:=I.tuple hq
    obtain⟨u,hu,ru⟩:=rv.get hx
    obtain⟨f0,f1,f2,f3,f4,f5⟩:=hf it (by simp)
    refine wpAny_pyNext_tuple_item st (show s.heap.IsTuple a its.toArray from p) (x:=u) (by simpa using hu) fun h' st' sb=>?_
    have I1:aA X pins σ H {s with heap:=h'}:=I.turned (t':=s.toks) (fun b o hb e=>(sb.2 b hb).trans e) f0 f1 f3 f4 f5
    obtain⟨o,e,c,d⟩:=id st'
    exact⟨u,rfl,wn (s:={s with heap:=h'}) e c d (by decide) ⟨x,H,I1,ru,⟨rfl,fun ys hy=>by rw [I.tuple_inj hy hq];exact hx⟩,st',fun b hb=>(hf b hb).1⟩⟩
  done:=by
    intro X hP hw hK hc i pins s σ H E I hf st hg
    subst hP hw hK
    obtain⟨xs,hq,hx⟩:=hg
    obtain⟨its,rv,p,hz⟩:=I.tuple hq
    obtain⟨f0,f1,f2,f3,f4,f5⟩:=hf it (by simp)
    have hl:=rv.length
    exact wpAny_pyNext_tuple_end (I.ok.hd hc) st (show s.heap.IsTuple a its.toArray from p) (by simp;lia) fun h' eb=>⟨rfl,I.turned (t':=s.toks) (fun b o hb e=>eb b o hb e) f0 f1 f3 f4 f5⟩
  self:=fun _ _ _ _ _ st h=>wpAny_pyIter_tupleiter st h
theorem sL{P:Program}{w:World}{K:PySem.W.Frag}{tg:Expr}(it:Addr)(lo:Int)(n:Nat):qd P w K tg (Fe lo n) [it] it (fun i h=>IsRangeIter h it (lo+(i:Nat)*1) ((n:Int) - (i:Nat)) 1) where
  mem:=by simp
  obj:=fun i h st b hb=>by
    have e:b=it:=by simpa using hb
    subst e
    exact⟨_,st,fun v z=>by
      have z':Data.fields _=Data.cell v:=z
      cases z'⟩
  keep:=fun i h h' st k=>k it (by simp) _ st
  item:=by
    intro X hP hw hK hc i pins s σ H E I hf st hg
    subst hP hw hK
    obtain⟨f0,f1,f2,f3,f4,f5⟩:=hf it (by simp)
    have W:=Walks.range (prog:=X.prog) (w:=X.w) (I.ok.hd hc) it lo 1 n
    refine W.item i s _ _ hg st fun v h' tk hv st' kk=>?_
    obtain⟨t,rfl⟩:=hv
    have I1:aA X pins σ H {s with heap:=h',toks:=tk}:=I.turned (fun b o hb e=>kk b o (by simpa using hb) e) f0 f1 f3 f4 f5
    refine⟨_,rfl,wn (s:={s with heap:=h',toks:=tk}) (n:="range_iterator") st' rfl rfl (by decide) ⟨.int (lo+i),H,I1,⟨t,?_⟩,⟨rfl,rfl⟩,st',fun b hb=>(hf b hb).1⟩⟩
    rw [Int.mul_one]
  done:=by
    intro X hP hw hK hc i pins s σ H E I hf st hg
    subst hP hw hK
    obtain⟨f0,f1,f2,f3,f4,f5⟩:=hf it (by simp)
    exact wpAny_pyNext_range_end (I.ok.hd hc) st (by have:n≤i:=hg;lia) fun h' eb=>⟨rfl,I.turned (t':=s.toks) (fun b o hb e=>eb b o hb e) f0 f1 f3 f4 f5⟩
  self:=fun _ _ _ _ _ st h=>wpAny_pyIter_rangeiter st h
end L2
namespace L2
open PySem PySem.Spec PyProof.Rows
section
variable{X:Cx}{tg:Expr}
def Aw(K:PySem.W.Frag)(tl:TE):TI:=fun σ H R=>tl σ H fun x H1=>∃a,x=.ref a∧(∃xs,cT K H1 a xs)∧R (Fy K a) H1
def DN(K:PySem.W.Frag)(tl:TE):TI:=fun σ H R=>tl σ H fun x H1=>∃a,x=.ref a∧(∃xs,bX K H1 a xs)∧R (Fz K a) H1
theorem zo{l:Expr}{tl:TE}(hl:PE X l tl):PI X tg l (Aw X.K tl):=by
  intro pins s σ H R I h
  refine cC (hl pins s σ H _ I h) fun v s1 ⟨x,H1,I1,r1,q1⟩=>?_
  obtain⟨a,e,⟨xs,hq⟩,q⟩:=q1
  subst e
  cases r1
  obtain⟨its,rv,p,hz⟩:=I1.list hq
  refine wpAny_pyIter_list p.isList ?_
  refine⟨s1.heap.objs.size,[s1.heap.objs.size],_,_,H1,rfl,I1.kept (t':=s1.toks) fun b o e=>Heap.get?_push_of_some _ e,vm a _,⟨_,Heap.get?_push_size _ rfl,rfl,rfl⟩,fun b hb=>?_,q⟩
  have e:b=s1.heap.objs.size:=by simpa using hb
  subst e
  exact I1.fpOk (Nat.le_refl _) (I1.hok.fresh (Nat.le_refl _))
theorem B'{l:Expr}{tl:TE}(hl:PE X l tl):PI X tg l (DN X.K tl):=by
  intro pins s σ H R I h
  refine cC (hl pins s σ H _ I h) fun v s1 ⟨x,H1,I1,r1,q1⟩=>?_
  obtain⟨a,e,⟨xs,hq⟩,q⟩:=q1
  subst e
  cases r1
  obtain⟨its,rv,p,hz⟩:=I1.tuple hq
  refine wpAny_pyIter_tuple (show s1.heap.IsTuple a its.toArray from p) ?_
  refine⟨s1.heap.objs.size,[s1.heap.objs.size],_,_,H1,rfl,I1.kept (t':=s1.toks) fun b o e=>Heap.get?_push_of_some _ e,sM a _,⟨_,Heap.get?_push_size _ rfl,rfl,rfl⟩,fun b hb=>?_,q⟩
  have e:b=s1.heap.objs.size:=by simpa using hb
  subst e
  exact I1.fpOk (Nat.le_refl _) (I1.hok.fresh (Nat.le_refl _))
theorem xG{pins:List (Addr × Obj)}{σ:St}{H:Hp}{s:Shared}{R:It→Hp→Prop}{E:Value→Shared→Prop}{lo hi:Int}{t u v:Tok}{tk:Nat}(I:aA X pins σ H s)(h1: -(2 ^ 62)≤lo)(h2:lo < 2 ^ 62)(h3: -(2 ^ 62)≤hi)(h4:hi < 2 ^ 62)
    (q:R (Fe lo (hi - lo).toNat) H):wpAny (model X.prog X.w) X.A (pyIter (.ref s.heap.objs.size)) (GA X pins σ tg R) E {s with heap:=s.heap.push {cls:=.type "range",data:=.fields #[.int lo t,.int hi u,.int 1 v]},toks:=tk}:=by
  refine wpAny_pyIter_range (IsRange.new ..) (small_one h1 h2 h3 h4) ?_
  have I1:aA X pins σ H {s with heap:=s.heap.push {cls:=.type "range",data:=.fields #[.int lo t,.int hi u,.int 1 v]},toks:=tk}:=I.kept fun b o e=>Heap.get?_push_of_some _ e
  refine⟨(s.heap.push {cls:=.type "range",data:=.fields #[.int lo t,.int hi u,.int 1 v]}).objs.size,[(s.heap.push {cls:=.type "range",data:=.fields #[.int lo t,.int hi u,.int 1 v]}).objs.size],_,_,H,rfl,
    I1.kept (t':=tk) fun b o e=>Heap.get?_push_of_some _ e,sL _ lo (hi - lo).toNat,?_,fun b hb=>?_,q⟩
  · have e1:lo+((0:Nat):Int)*1=lo:=by simp
    have e2:(((hi - lo).toNat:Nat):Int) - ((0:Nat):Int)=Builtin.Range.rangeSize lo hi 1:=by rw [rangeSize_one];split<;>lia
    show IsRangeIter _ _ (lo+((0:Nat):Int)*1) ((((hi - lo).toNat:Nat):Int) - ((0:Nat):Int)) 1
    rw [e1,e2]
    exact Heap.get?_push_size _ rfl
  · have e:b=(s.heap.push {cls:=.type "range",data:=.fields #[.int lo t,.int hi u,.int 1 v]}).objs.size:=by simpa using hb
    subst e
    exact I1.fpOk (Nat.le_refl _) (I1.hok.fresh (Nat.le_refl _))
def DM(ta:TA):TI:=fun σ H R=>ta σ H fun vs H1=>∃j:Int,vs=[.int j]∧ -(2 ^ 62)≤j∧j < 2 ^ 62∧R (Fe 0 j.toNat) H1
theorem uT{a:Expr}{ta:TA}{p pos:Pos}(hg:Gl X "range")(hm:X.mg "range"=none)(ha:PA X [a] ta)(hs:starEach [a] X.env=[(false,eval a X.env)]:=by rfl):PI X tg (.Call (.Name "range" p) [a] [] pos) (DM ta):=by
  intro pins s σ H R I h
  refine Call_ (gj I hg hm boot_range (PyProof.Rows.callWith_type1 (cC (ha pos pins s σ H _ I h) fun us s1 ⟨vs,H1,I1,r1,q1⟩=>?_) hs rfl))
  obtain⟨j,e,q1,q2,q⟩:=q1
  subst e
  cases r1 with
  | cons r rr=>
    cases rr
    obtain⟨t,rfl⟩:=r
    exact call_range_1 (xG I1 (by lia) (by lia) q1 q2 (by simpa using q))
def Gk(wi:TI)(g:TG)(tb:TS):TS:=fun D σ H=>wi σ H fun J H1=>∃W:Nat→Nat→St→Hp→Prop,(∃m,W 0 m σ H1)∧∀i m σ H,W i m σ H→
  (J.stop i H∧D.nx σ H)∨(J.go i H∧∃N:St→Hp→Prop,(∀σ' H',N σ' H'→∃m',m' < m∧W (i+1) m' σ' H')∧∀x H',J.yld i H x H'→g x σ H' fun σ2 H2=>tb {D with nx:=N,ct:=N,bk:=D.nx} σ2 H2)
def mV(fp:List Addr)(h:Heap):List (Addr × Obj):=fp.filterMap fun b=>(h.get? b).map fun o=>(b,o)
theorem hV{fp:List Addr}{h:Heap}{b:Addr}{o:Obj}(hb:b∈fp)(e:h.get? b=some o):(b,o)∈mV fp h:=List.mem_filterMap.mpr ⟨b,hb,by rw [e];rfl⟩
theorem uO{fp:List Addr}{h:Heap}{p:Addr × Obj}(hp:p∈mV fp h):p.1∈fp∧h.get? p.1=some p.2:=by
  obtain⟨b,hb,e⟩:=List.mem_filterMap.mp hp
  cases q:h.get? b with
  | none=>rw [q] at e;cases e
  | some o=>
    rw [q] at e
    have e':(b,o)=p:=Option.some.inj e
    subst e'
    exact⟨hb,q⟩
theorem aA.pinned{pins:List (Addr × Obj)}{σ:St}{H:Hp}{s:Shared}{fp:List Addr}(I:aA X pins σ H s)(hf:∀b∈fp,js X pins H b)(ho:∀b∈fp,∃o,s.heap.get? b=some o∧∀v,o.data≠.cell v):aA X (pins++mV fp s.heap) σ H s:=
  I.pins_of fun p hp=>(List.mem_append.mp hp).elim (fun z=>I.pin p (List.mem_append_right _ z)) fun z=>by
    obtain⟨hb,e⟩:=uO z
    obtain⟨f0,f1,f2,_⟩:=hf p.1 hb
    obtain⟨o,e',d⟩:=ho p.1 hb
    rw [e] at e';cases e'
    exact⟨e,f0,f1,f2,d⟩
theorem aA.unpinned{pins pl:List (Addr × Obj)}{σ:St}{H:Hp}{s:Shared}(I:aA X (pins++pl) σ H s):aA X pins σ H s:=I.pins_of fun p hp=>I.pin p (List.mem_append_right _ (List.mem_append_left _ hp))
theorem Cc{iter:Expr}{body:List Stmt}{wi:TI}{g:TG}{tb:TS}{pos:Pos}(hp:PassesOwn (model X.prog X.w) X.A X.env X.xe)(hc:X.calm=true)(hi:PI X tg iter wi)(hg:PG X tg g)(hb:lK X body tb)
    (hs:∀x,foldedSetIterable iter X.env x=pure x:=by intro _;rfl):PS X (.For tg iter body [] pos) (Gk wi g tb):=by
  intro pins s σ H D I h
  refine wpAny_For (cC (hi pins s σ H _ I h) fun v s1 h1=>cC h1 fun itv s2 h2=>?_) hs
  obtain⟨it,fp,tn,J,H2,e,I2,T,st2,f2,W,⟨m0,w0⟩,turn⟩:=h2
  subst e
  have stat:∀{H':Hp},(∀b∈fp,H' b=none)→∀b∈fp,js X pins H' b:=fun hn b hb=>⟨hn b hb,(f2 b hb).2⟩
  refine codeAny_forLoop_any (fun n s'=>∃i σ' H',aA X pins σ' H' s'∧tn i s'.heap∧(∀b∈fp,H' b=none)∧W i n σ' H') ?_ m0 ⟨0,σ,H2,I2,st2,fun b hb=>(f2 b hb).1,w0⟩
  rintro n s3 ⟨i,σ3,H3,I3,st3,fr3,w3⟩
  rcases turn i n σ3 H3 w3 with ⟨stop,qn⟩ | ⟨go,N,hN,step⟩
  · refine wpAny_passesOwn hp (cC (T.done X rfl rfl rfl hc i pins s3 σ3 H3 X.xe I3 (stat fr3) st3 stop) fun r s4 ⟨hr,I4⟩=>?_)
    subst hr
    exact wpAny_execs_nil ⟨σ3,H3,I4,qn⟩
  · refine wpAny_passesOwn hp (cC (T.item X rfl rfl rfl hc i pins s3 σ3 H3 X.xe I3 (stat fr3) st3 go) fun r s4 ⟨u,hr,h4⟩=>?_)
    subst hr
    refine wpAny_passesOwn hp (cC h4 fun _ s5 ⟨x,H5,I5,r5,y5,st5,fr5⟩=>?_)
    have I5':=I5.pinned (stat fr5) (T.obj _ _ st5)
    refine wpAny_passesOwn hp (cC (hg _ s5 σ3 H5 x u _ I5' r5 (step x H5 y5)) fun _ s6 ⟨σ6,H6,I6,q6⟩=>?_)
    refine wpAny_passesOwn hp (cC (hb _ s6 σ6 H6 _ I6 q6) fun f s7 q7=>?_)
    have again:∀{σ7:St} {H7:Hp},aA X (pins++mV fp s5.heap) σ7 H7 s7→N σ7 H7→∃m,m < n∧∃i σ' H',aA X pins σ' H' s7∧tn i s7.heap∧(∀b∈fp,H' b=none)∧W i m σ' H':=fun{σ7 H7} I7 n7=>by
      obtain⟨m',hm,w7⟩:=hN σ7 H7 n7
      refine⟨m',hm,i+1,σ7,H7,I7.unpinned,T.keep _ _ _ st5 fun b hb o e=>(I7.pin (b,o) (List.mem_append_right _ (List.mem_append_right _ (hV hb e)))).1,fun b hb=>?_,w7⟩
      obtain⟨o,e,d⟩:=T.obj _ _ st5 b hb
      exact(I7.pin (b,o) (List.mem_append_right _ (List.mem_append_right _ (hV hb e)))).2.1
    cases f with
    | next=>obtain⟨σ7,H7,I7,n7⟩:=q7;exact again I7 n7
    | cont=>obtain⟨σ7,H7,I7,n7⟩:=q7;exact again I7 n7
    | brk=>obtain⟨σ7,H7,I7,q7⟩:=q7;exact⟨σ7,H7,I7.unpinned,q7⟩
    | ret v=>obtain⟨x7,σ7,H7,I7,r7,q7⟩:=q7;exact⟨x7,σ7,H7,I7.unpinned,r7,q7⟩
end
end L2
namespace L2
open PySem PySem.Spec PyProof.Rows
abbrev R2:=V→V→Hp→VK→Prop
def eW(X:Cx)(f:Value→Value→Sem Value)(r:R2):Prop:=
  ∀(pins:List (Addr × Obj)) (s:Shared) (σ:St) (H:Hp) (x y:V) (v u:Value) (Q:VK),aA X pins σ H s→bw x v→bw y u→r x y H Q→
    wpAny (model X.prog X.w) X.A (f v u) (EP X pins σ Q) X.xe s
def Fk(X:Cx)(f:Value→Sem Value)(r:V→Hp→VK→Prop):Prop:=
  ∀(pins:List (Addr × Obj)) (s:Shared) (σ:St) (H:Hp) (x:V) (v:Value) (Q:VK),aA X pins σ H s→bw x v→r x H Q→
    wpAny (model X.prog X.w) X.A (f v) (EP X pins σ Q) X.xe s
def cU(X:Cx)(f:Value)(r:List V→Hp→VK→Prop):Prop:=
  ∀(pins:List (Addr × Obj)) (s:Shared) (σ:St) (H:Hp) (xs:List V) (us:List Value) (Q:VK),aA X pins σ H s→aO xs us→r xs H Q→
    wpAny (model X.prog X.w) X.A (call f us) (EP X pins σ Q) X.xe s
def Dg(r:R2)(ta tb:TE):TE:=fun σ H Q=>ta σ H fun x H1=>tb σ H1 fun y H2=>r x y H2 Q
def GL(r:V→Hp→VK→Prop)(ta:TE):TE:=fun σ H Q=>ta σ H fun x H1=>r x H1 Q
def rI(C:Int→Int→Prop)(g:Int→Int→V):R2:=fun x y H Q=>∃i j,x=.int i∧y=.int j∧C i j∧Q (g i j) H
def sC(g:Int→Int→V):R2:=fun x y H Q=>∃i j,x=.int i∧y=.int j∧Q (g i j) H
def rU(g:Int→V):V→Hp→VK→Prop:=fun x H Q=>∃i,x=.int i∧Q (g i) H
section
variable{X:Cx}{a b c:Expr}{ta tb tc:TE}{pos:Pos}
theorem AX(ha:PE X a ta)(hb:PE X b tb){pins:List (Addr × Obj)}{s:Shared}{σ:St}{H:Hp}{R:V→V→Hp→Prop}(I:aA X pins σ H s)
    (h:ta σ H fun x H1=>tb σ H1 fun y H2=>R x y H2){Q:Value→Shared→Prop}{f:Value→Value→Sem Value}
    (hf:∀v u s2 x y H2,aA X pins σ H2 s2→bw x v→bw y u→R x y H2→wpAny (model X.prog X.w) X.A (f v u) Q X.xe s2):
    wpAny (model X.prog X.w) X.A (eval a X.env) (fun v s₁=>wpAny (model X.prog X.w) X.A (eval b X.env) (fun u s₂=>wpAny (model X.prog X.w) X.A (f v u) Q X.xe s₂) X.xe s₁) X.xe s:=by
  refine cC (ha pins s σ H _ I h) fun v s1 ⟨x,H1,I1,r1,q1⟩=>?_
  refine cC (hb pins s1 σ H1 _ I1 q1) fun u s2 ⟨y,H2,I2,r2,q2⟩=>?_
  exact hf v u s2 x y H2 I2 r1 r2 q2
theorem Ed{op:Operator}{r:R2}(ho:eW X (binaryOp op) r)(ha:PE X a ta)(hb:PE X b tb):PE X (.BinOp a op b pos) (Dg r ta tb):=by
  intro pins s σ H Q I h
  exact wpAny_BinOp (AX ha hb I h fun v u s2 x y H2 I2 rx ry q=>ho pins s2 σ H2 x y v u Q I2 rx ry q)
theorem Ee{op:UnaryOp}{r:V→Hp→VK→Prop}(ho:Fk X (unaryOp op) r)(ha:PE X a ta):PE X (.UnaryOp op a pos) (GL r ta):=by
  intro pins s σ H Q I h
  exact UnaryOp_ (cC (ha pins s σ H _ I h) fun v s1 ⟨x,H1,I1,r1,q1⟩=>ho pins s1 σ H1 x v Q I1 r1 q1)
theorem D5{f:Value→Value→Sem Value}{C:Int→Int→Prop}{g:Int→Int→Int}
    (rule:∀(i j:Int) (t u:Tok) (s:Shared) (Q:Value→Shared→Prop) (E:Value→Shared→Prop),C i j→Q (.int (g i j) s.toks) {s with toks:=s.toks+1}→wpAny (model X.prog X.w) X.A (f (.int i t) (.int j u)) Q E s):
    eW X f (rI C fun i j=>.int (g i j)):=by
  intro pins s σ H x y v u Q I rx ry h
  obtain⟨i,j,rfl,rfl,hc,q⟩:=h
  obtain⟨t,rfl⟩:=rx
  obtain⟨t',rfl⟩:=ry
  exact rule i j t t' s _ _ hc ⟨.int (g i j),H,I.tok _,⟨_,rfl⟩,q⟩
theorem D6{f:Value→Value→Sem Value}{g:Int→Int→Int}
    (rule:∀(i j:Int) (t u:Tok) (s:Shared) (Q:Value→Shared→Prop) (E:Value→Shared→Prop),Q (.int (g i j) s.toks) {s with toks:=s.toks+1}→wpAny (model X.prog X.w) X.A (f (.int i t) (.int j u)) Q E s):
    eW X f (sC fun i j=>.int (g i j)):=by
  intro pins s σ H x y v u Q I rx ry h
  obtain⟨i,j,rfl,rfl,q⟩:=h
  obtain⟨t,rfl⟩:=rx
  obtain⟨t',rfl⟩:=ry
  exact rule i j t t' s _ _ ⟨.int (g i j),H,I.tok _,⟨_,rfl⟩,q⟩
theorem yZ{f:Value→Value→Sem Value}{g:Int→Int→Bool}
    (rule:∀(i j:Int) (t u:Tok) (s:Shared) (Q:Value→Shared→Prop) (E:Value→Shared→Prop),Q (.bool (g i j)) s→wpAny (model X.prog X.w) X.A (f (.int i t) (.int j u)) Q E s):
    eW X f (sC fun i j=>.bl (g i j)):=by
  intro pins s σ H x y v u Q I rx ry h
  obtain⟨i,j,rfl,rfl,q⟩:=h
  obtain⟨t,rfl⟩:=rx
  obtain⟨t',rfl⟩:=ry
  exact rule i j t t' s _ _ ⟨.bl (g i j),H,I,rfl,q⟩
def AR(i j:Int):Prop:=0≤j∧j≤1000000∧i.natAbs < 2 ^ 64
def yk(i j:Int):Prop:=(-(2 ^ 64) < i∧i < 2 ^ 64)∨(-(2 ^ 64) < j∧j < 2 ^ 64)
theorem yk.ok{i j:Int}(h:yk i j):IntMulOk i j:=by
  rcases h with ⟨h1,h2⟩ | ⟨h1,h2⟩
  · exact .of_left (intBits_le_64 h1 h2)
  · exact .of_right (intBits_le_64 h1 h2)
theorem BK:eW X (binaryOp .Add) (sC fun i j=>.int (i+j)):=D6 fun _ _ _ _ _ _ _ q=>add_int q
theorem B0:eW X (binaryOp .Sub) (sC fun i j=>.int (i - j)):=D6 fun _ _ _ _ _ _ _ q=>sub_int q
theorem BV:eW X (binaryOp .Mult) (rI yk fun i j=>.int (i*j)):=D5 fun _ _ _ _ _ _ _ hc q=>mul_int q hc.ok
theorem y4:eW X (binaryOp .Mod) (rI (fun _ j=>j≠0) fun i j=>.int (i.fmod j)):=D5 fun _ _ _ _ _ _ _ hc q=>mod_int' hc q
theorem BY:eW X (binaryOp .Pow) (rI AR fun i j=>.int (i ^ j.toNat)):=D5 fun _ _ _ _ _ _ _ hc q=>pow_int_small hc.1 hc.2.1 hc.2.2 q
theorem G'{f:Value→Sem Value}{g:Int→Int}
    (rule:∀(i:Int) (t:Tok) (s:Shared) (Q:Value→Shared→Prop) (E:Value→Shared→Prop),Q (.int (g i) s.toks) {s with toks:=s.toks+1}→wpAny (model X.prog X.w) X.A (f (.int i t)) Q E s):
    Fk X f (rU fun i=>.int (g i)):=by
  intro pins s σ H x v Q I rx h
  obtain⟨i,rfl,q⟩:=h
  obtain⟨t,rfl⟩:=rx
  exact rule i t s _ _ ⟨.int (g i),H,I.tok _,⟨_,rfl⟩,q⟩
theorem C3:Fk X (unaryOp .USub) (rU fun i=>.int (-i)):=G' fun _ _ _ _ _ q=>neg_int q
end
section
variable{X:Cx}{a b c:Expr}{ta tb tc:TE}{pos:Pos}
theorem wc{pins:List (Addr × Obj)}{σ:St}{H:Hp}{s:Shared}{Q:VK}{k k':Bool}(I:aA X pins σ H s)(q:Q (.bl k) H)(e:k=k'):EP X pins σ Q (.bool k') s:=by
  subst e
  exact⟨.bl k,H,I,rfl,q⟩
theorem D_:eW X (compareOp .Lt) (sC fun i j=>.bl (decide (i < j))):=yZ fun _ _ _ _ _ _ _ q=>lt_int q
theorem D9:eW X (compareOp .LtE) (sC fun i j=>.bl (decide (i≤j))):=yZ fun _ _ _ _ _ _ _ q=>le_int q
theorem D8:eW X (compareOp .Gt) (sC fun i j=>.bl (decide (j < i))):=yZ fun _ _ _ _ _ _ _ q=>gt_int q
theorem D7:eW X (compareOp .GtE) (sC fun i j=>.bl (decide (j≤i))):=yZ fun _ _ _ _ _ _ _ q=>ge_int q
theorem BU:eW X (compareOp .Is) (fun x y H Q=>y=.non∧Q (.bl (decide (x=.non))) H):=by
  intro pins s σ H x y v u Q I rx ry h
  obtain⟨rfl,q⟩:=h
  cases ry
  refine is_none_gen (wc I q ?_)
  cases x<;>first
    | (cases rx;rfl)
    | (obtain⟨t,rfl⟩:=rx;rfl)
theorem y_:eW X (compareOp .IsNot) (fun x y H Q=>y=.non∧Q (.bl (!decide (x=.non))) H):=by
  intro pins s σ H x y v u Q I rx ry h
  obtain⟨rfl,q⟩:=h
  cases ry
  refine isnot_none_gen (wc I q ?_)
  cases x<;>first
    | (cases rx;rfl)
    | (obtain⟨t,rfl⟩:=rx;rfl)
theorem eW.or{f:Value→Value→Sem Value}{r r':R2}(h:eW X f r)(h':eW X f r'):eW X f (fun x y H Q=>r x y H Q∨r' x y H Q):=by
  intro pins s σ H x y v u Q I rx ry q
  rcases q with q | q
  · exact h pins s σ H x y v u Q I rx ry q
  · exact h' pins s σ H x y v u Q I rx ry q
theorem aI(b:Expr){op:CmpOp}(h:op≠.In:=by decide)(h2:op≠.NotIn:=by decide):behindInMarks op b=false:=by
  have e1:(op==CmpOp.In)=false:=by cases op<;>first | rfl | exact absurd rfl h
  have e2:(op==CmpOp.NotIn)=false:=by cases op<;>first | rfl | exact absurd rfl h2
  cases b<;>simp [behindInMarks,e1,e2]
theorem ze{op:CmpOp}{r:R2}(ho:eW X (compareOp op) r)(ha:PE X a ta)(hb:PE X b tb)(hm:behindInMarks op b=false):PE X (.Compare a [op] [b] pos) (Dg r ta tb):=by
  intro pins s σ H Q I h
  exact wpAny_Compare1 (AX ha hb I h fun v u s2 x y H2 I2 rx ry q=>ho pins s2 σ H2 x y v u Q I2 rx ry q) hm
def EV(t:TE):TT:=fun σ H Q=>t σ H fun x H'=>∃k,x=.bl k∧Q k H'
theorem tO{op:CmpOp}{r:R2}(ho:eW X (compareOp op) r)(ha:PE X a ta)(hb:PE X b tb)(hm:behindInMarks op b=false):PT X (.Compare a [op] [b] pos) (EV (Dg r ta tb)):=by
  intro pins s σ H Q I h
  refine wpAny_isTrue_Compare1 (cC (ha pins s σ H _ I h) fun v s1 ⟨x,H1,I1,r1,q1⟩=>cC (hb pins s1 σ H1 _ I1 q1) fun u s2 ⟨y,H2,I2,r2,q2⟩=>
    cC (ho pins s2 σ H2 x y v u _ I2 r1 r2 q2) fun c s3 ⟨z,H3,I3,r3,k,e,q3⟩=>?_) hm
  subst e
  cases r3
  exact wpAny_truthy_bool ⟨H3,I3,q3⟩
def xY(r r':R2)(ta tb tc:TE):TE:=fun σ H Q=>ta σ H fun x H1=>tb σ H1 fun y H2=>r x y H2 fun z H3=>∃k,z=.bl k∧
  (if k=true then tc σ H3 fun w' H4=>r' y w' H4 Q else Q (.bl false) H3)
theorem wY{op op':CmpOp}{r r':R2}(ho:eW X (compareOp op) r)(ho':eW X (compareOp op') r')(ha:PE X a ta)(hb:PE X b tb)(hc:PE X c tc)
    (hm:lastMarks [op,op'] [b,c]=false:=by with_unfolding_all rfl):PE X (.Compare a [op,op'] [b,c] pos) (xY r r' ta tb tc):=by
  intro pins s σ H Q I h
  refine Compare_chain (cC (ha pins s σ H _ I h) fun v s1 ⟨x,H1,I1,r1,q1⟩=>chain_link (cC (hb pins s1 σ H1 _ I1 q1) fun u s2 ⟨y,H2,I2,r2,q2⟩=>
    cC (ho pins s2 σ H2 x y v u _ I2 r1 r2 q2) fun d s3 ⟨z,H3,I3,r3,k,e,q3⟩=>?_)) hm
  subst e
  cases r3
  refine wpAny_truthy_bool ?_
  cases k with
  | false=>exact ite_ff ⟨.bl false,H3,I3,rfl,q3⟩
  | true=>exact ite_tt (chain_last (cC (hc pins s3 σ H3 _ I3 q3) fun w' s4 ⟨z',H4,I4,r4,q4⟩=>ho' pins s4 σ H4 y z' u w' Q I4 r2 r4 q4))
theorem pL:(sizeLine:Nat) < 2 ^ 63:=by rw [sizeLine_eq];decide
theorem o5{x:V}{us:List Value}(r:aO [x] us):∃u,us=[u]∧bw x u:=by
  cases r with
  | cons r1 r2=>cases r2;exact⟨_,rfl,r1⟩
theorem AO{x y:V}{us:List Value}(r:aO [x,y] us):∃u w',us=[u,w']∧bw x u∧bw y w':=by
  cases r with
  | cons r1 r2=>
    cases r2 with
    | cons r3 r4=>cases r4;exact⟨_,_,rfl,r1,r3⟩
theorem vP:cU X (.builtin "abs") (fun xs H Q=>∃i,xs=[.int i]∧Q (.int (if i < 0 then -i else i)) H):=by
  intro pins s σ H xs us Q I r h
  obtain⟨i,rfl,q⟩:=h
  obtain⟨u,rfl,t,rfl⟩:=o5 r
  exact call_abs_int fun u tk=>⟨.int (if i < 0 then -i else i),H,I.tok _,⟨_,rfl⟩,q⟩
theorem uk(hc:X.calm=true):cU X (.builtin "max") (fun xs H Q=>∃i j,xs=[.int i,.int j]∧Q (.int (if j > i then j else i)) H):=by
  intro pins s σ H xs us Q I r h
  obtain⟨i,j,rfl,q⟩:=h
  obtain⟨u,w',rfl,⟨t,rfl⟩,⟨t',rfl⟩⟩:=AO r
  refine max_two_ints (I.ok.hd hc) fun h' tk k=>⟨_,H,I.kept k,?_,q⟩
  by_cases hj:j > i
  · rw [if_pos hj,if_pos hj];exact⟨_,rfl⟩
  · rw [if_neg hj,if_neg hj];exact⟨_,rfl⟩
theorem ul(hc:X.calm=true):cU X (.builtin "min") (fun xs H Q=>∃i j,xs=[.int i,.int j]∧Q (.int (if j < i then j else i)) H):=by
  intro pins s σ H xs us Q I r h
  obtain⟨i,j,rfl,q⟩:=h
  obtain⟨u,w',rfl,⟨t,rfl⟩,⟨t',rfl⟩⟩:=AO r
  refine min_two_ints (I.ok.hd hc) fun h' tk k=>⟨_,H,I.kept k,?_,q⟩
  by_cases hj:j < i
  · rw [if_pos hj,if_pos hj];exact⟨_,rfl⟩
  · rw [if_neg hj,if_neg hj];exact⟨_,rfl⟩
theorem uj:cU X (.type "int") (fun xs H Q=>(∃i,xs=[.int i]∧Q (.int i) H)∨∃k,xs=[.bl k]∧Q (.int (if k then 1 else 0)) H):=by
  intro pins s σ H xs us Q I r h
  rcases h with ⟨i,rfl,q⟩ | ⟨k,rfl,q⟩
  · obtain⟨u,rfl,t,rfl⟩:=o5 r
    exact call_int_int ⟨.int i,H,I,⟨_,rfl⟩,q⟩
  · obtain⟨u,rfl,r1⟩:=o5 r
    cases r1
    exact call_int_bool ⟨.int (if k then 1 else 0),H,I.tok _,⟨_,rfl⟩,q⟩
end
end L2
namespace L2
open PySem PySem.Spec PyProof.Rows
structure GV (h:Heap) (x dx C:Addr) (mA:Str→Option Value):Prop where
  obj:h.get? x=some (PySem.W.instObj C dx)
  ns:h.Ns1 dx mA
  ne:dx≠x
section
variable{prog:Program}{w:World}{A:Around}{E:Value→Shared→Prop}{s:Shared}{K:PySem.W.Frag}{x dx C f:Addr}{mA:Str→Option Value}{name:Str}{v:Value}
end
section
variable{P:Program}{w:World}{H H':Hp}{h h':Heap}{a C dx:Addr}{fs fs':List (Str × V)}
end
structure GO (K:PySem.W.Frag) (C:Addr):Prop where
  pg:PySem.W.plainGet K C Str.empty=true
  hd:PySem.W.hasDictIn K C=true
  po:PySem.W.plainOver K C=true
  sa:PySem.W.findIn K (.ref C) "__setattr__"=some (some (.builtin "object.__setattr__"))
structure Ha (K:PySem.W.Frag) (C:Addr) (f:Str) (v:V) (u:Value):Prop where
  at_:PySem.W.findIn K (.ref C) f=some (some u)
  rel:bw v u
  get:PySem.W.specialIn K u "__get__"=some none
  cp:PySem.W.copiedNames.contains f=false
structure GU (K:PySem.W.Frag) (C:Addr) (m:Str) (f:Addr):Prop where
  at_:PySem.W.findIn K (.ref C) m=some (some (.ref f))
  fn:PySem.W.isFn K (.ref f)=true
  kp:PySem.W.keepIn K (.ref f)=true
section
variable{X:Cx}{pins:List (Addr × Obj)}{σ:St}{H:Hp}{s:Shared}{a C dx:Addr}{fs:List (Str × V)}{f:Str}{v:V}{A:Around}{E:Value→Shared→Prop}
end
section
variable{X:Cx}{o e value:Expr}{f:Str}{pos pos' tpos:Pos}{ta tv:TE}
end
section
variable{X:Cx}{pins:List (Addr × Obj)}{σ:St}{H:Hp}{s:Shared}{A:Around}{E:Value→Shared→Prop}{Q:Value→Shared→Prop}{c:Value}{b:Bool}
inductive me (K:PySem.W.Frag) (H:Hp):V→Value→Prop where
  | non:me K H .non (.type "NoneType")
  | bl (x:Bool):me K H (.bl x) (.type "bool")
  | int (i:Int):me K H (.int i) (.type "int")
  | str (x:Str):me K H (.str x) (.type "str")
  | flt (x:UInt64):me K H (.flt x) (.type "float")
  | lst {a:Addr} {xs:List V} (e:H a=some (.lst xs)):me K H (.ref a) (.type "list")
  | frz {a:Addr} {o:Obj} {xs:List V} (e:H a=some (.frz o (.lst xs))):me K H (.ref a) (.type "list")
  | tup {a:Addr} {xs:List V} (e:H a=some (.tup xs)):me K H (.ref a) (.type "tuple")
  | dK {a:Addr} {kvs:List (fM × V)} (e:H a=some (.dK kvs)):me K H (.ref a) (.type "dict")
  | dT {a:Addr} {kvs:List (List fM × V)} (e:H a=some (.dT kvs)):me K H (.ref a) (.type "dict")
  | ins {a C dx:Addr} {fs:List (Str × V)} (e:H a=some (.ins C dx fs)) (cl:GO K C) (ha:PySem.W.findIn K (.ref C) "__class__"=some (some (.builtin "object.__class__")))
      (hn:PySem.W.specialIn K (.builtin "object.__class__") "__get__"=some (some (.builtin "getset_descriptor.__get__"))) (htk:PySem.W.takesIn K (.builtin "object.__class__")=some true)
      (hm:PySem.W.mroIn K C (.type "object")=some true):me K H (.ref a) (.ref C)
end
end L2
namespace L2
open PySem PySem.Spec PyProof.Rows
structure cO (k:Nat) (A:Around):Prop where
  hd:A.handled=none
  dp:A.depth+3*k+5 < recursionLimit
  un:A.units+16*k+200 < cLine
  gd:A.guards=some []
theorem cO.mono{j k:Nat}{A:Around}(r:cO k A)(h:j≤k):cO j A:=⟨r.hd,by have:=r.dp;lia,by have:=r.un;lia,r.gd⟩
theorem cO.deeper{k:Nat}{A:Around}(r:cO (k+1) A)(env:Env):cO k (A.deeper env):=
  ⟨r.hd,by have:=r.dp;show A.depth+1+3*k+5 < _;lia,by have:=r.un;show A.units+3+16*k+200 < _;lia,r.gd⟩
theorem cO.depth{k:Nat}{A:Around}(r:cO k A):A.depth < recursionLimit:=by have:=r.dp;lia
theorem cO.units{k:Nat}{A:Around}(r:cO k A):A.units+64 < cLine:=by have:=r.un;lia
theorem cO.units0{k:Nat}{A:Around}(r:cO k A):A.units < cLine:=by have:=r.un;lia
def zR:TA:=fun _ H Q=>Q [] H
def lH(ta:TE)(tr:TA):TA:=fun σ H Q=>ta σ H fun x H1=>tr σ H1 fun xs H2=>Q (x::xs) H2
section
variable{X:Cx}{e:Expr}{es:List Expr}{te:TE}{t:TA}{pos:Pos}
theorem pU:PA X [] zR:=fun _ _ _ _ H Q I h=>Calls.spliced_nil ⟨[],H,I,.nil,h⟩
theorem jU(ha:PE X e te)(hr:PA X es t)(hs:starEach (e::es) X.env=(false,eval e X.env)::starEach es X.env:=by rfl):PA X (e::es) (lH te t):=by
  intro pos pins s σ H Q I h
  rw [hs]
  show wpAny _ _ (spliced ((false,eval e X.env)::backTo pos (starEach es X.env))) _ _ s
  refine Calls.spliced_cons (cC (ha pins s σ H _ I h) fun u s1 ⟨x,H1,I1,r1,q1⟩=>?_)
  exact cC (hr pos pins s1 σ H1 _ I1 q1) fun us s2 ⟨xs,H2,I2,r2,q2⟩=>⟨x::xs,H2,I2,.cons r1 r2,q2⟩
def EW(t:TA):TE:=fun σ H Q=>t σ H fun xs H1=>xs.length≤sizeLine∧∀p,H1 p=none→Q (.ref p) (bi H1 p (.tup xs))
def EQ(t:TA):TE:=fun σ H Q=>t σ H fun xs H1=>xs.length≤sizeLine∧∀p,H1 p=none→Q (.ref p) (bi H1 p (.lst xs))
theorem B7{x1}(h:PA X es t):PE X (.Tuple es x1 pos) (EW t):=by
  intro pins s σ H Q I hq
  refine wpAny_Tuple_spliced (cC (h pos pins s σ H _ I hq) fun us s1 ⟨xs,H1,I1,r,z,q⟩=>⟨by rw [←r.length];exact z,?_⟩)
  have hf:H1 s1.heap.objs.size=none:=I1.hok.fresh (Nat.le_refl _)
  refine⟨.ref s1.heap.objs.size,bi H1 s1.heap.objs.size (.tup xs),I1.laid (t':=s1.toks) (fun b u e=>Heap.get?_push_of_some _ e) (Nat.le_refl _) ?_,rfl,q _ hf⟩
  exact⟨z,us,r,⟨_,Heap.get?_push_size _ rfl,rfl,_,rfl,rfl⟩⟩
theorem B2(h:PA X es t):PE X (.List es pos) (EQ t):=by
  intro pins s σ H Q I hq
  refine wpAny_List_spliced (cC (h pos pins s σ H _ I hq) fun us s1 ⟨xs,H1,I1,r,z,q⟩=>⟨by rw [←r.length];exact z,?_⟩)
  have hf:H1 s1.heap.objs.size=none:=I1.hok.fresh (Nat.le_refl _)
  refine⟨.ref s1.heap.objs.size,bi H1 s1.heap.objs.size (.lst xs),I1.laid (t':=s1.toks) (fun b u e=>Heap.get?_push_of_some _ e) (Nat.le_refl _) ?_,rfl,q _ hf⟩
  exact⟨z,us,0,r,Heap.get?_push_size _ rfl⟩
end
abbrev Sp:=List V→Hp→VK→XK→Prop
abbrev ui:=List Env→Hp→Shared→XK→Value→Shared→Prop
structure yl (P:Program) (w:World) (K:PySem.W.Frag) (mg:Str→Option Value) (base:Heap) (A:Around) (outer:List Env) (s:Shared) (H:Hp):Prop where
  frames:A.frames=some outer
  mod:Mod K mg base
  bs:∀b o,base.get? b=some o→s.heap.get? b=some o∧H b=none
  bsz:base.objs.size≤s.heap.objs.size
  funs:s.heap.FunFrames base outer
  frf:∀b∈we outer,H b=none
  hok:kc P w H s.heap
  bare:AllBare s.gens
def CE(outer:List Env)(P:Program)(w:World)(H:Hp)(s:Shared)(Q:VK)(u:Value)(s':Shared):Prop:=
  ∃v H',s'.os=s.os∧AllBare s'.gens∧Un (we outer) [] H H' s.heap s'.heap∧kc P w H' s'.heap∧bw v u∧Q v H'
def CR(CX:ui)(outer:List Env)(P:Program)(w:World)(H:Hp)(s:Shared)(Q:VK)(E:XK)(r:Result)(s':Shared):Prop:=
  match r with
  | .ok (.ret u)=>CE outer P w H s Q u s'
  | .ok _=>False
  | .error e=>CX outer H s E e s'
structure aU (P:Program) (w:World) (K:PySem.W.Frag) (mg:Str→Option Value) (base:Heap) (CX:ui) (k:Nat) (f:Addr) (fd:FuncData) (ps:List Str) (sp:Sp):Prop where
  len:∀vs H Q E,sp vs H Q E→vs.length=ps.length
  run:∀(A:Around) (outer:List Env) (s:Shared) (H:Hp) (args:Args) (us:List Value) (vs:List V) (Q:VK) (E:XK),cO k A→yl P w K mg base A outer s H→BindsTo s fd args (ps.zip us)→aO vs us→sp vs H Q E→
    codeAny (model P w) A (.call (.ref f) args) (CR CX outer P w H s Q E) s
section
variable{X:Cx}{pins:List (Addr × Obj)}{σ:St}{H:Hp}{s s':Shared}
theorem aA.env0(I:aA X pins σ H s):yl X.prog X.w X.K X.mg X.base X.A X.stack s H:=
  ⟨I.ok.frames,I.ok.mod,I.bs,Nat.le_trans I.ok.bsz I.sz,I.stack,I.stkFree,I.hok,I.bare⟩
theorem aA.after{Q:VK}{u:Value}(I:aA X pins σ H s)(h:CE X.stack X.prog X.w H s Q u s'):EP X pins σ Q u s':=by
  obtain⟨v,H',os,bare,un,hok,r,q⟩:=h
  obtain⟨hh,g,d,t,os'⟩:=s'
  obtain rfl:os'=s.os:=os
  exact⟨v,H',I.call (h':=hh) (g':=g) (d':=d) (t':=t) (ch:=[]) un hok bare (fun b z=>absurd z (by simp)),r,q⟩
end
def xX(sp:Sp)(dvs:List V)(E:XK)(t:TA):TE:=fun σ H Q=>t σ H fun vs H1=>sp (vs++dvs) H1 Q E
def nW(K:PySem.W.Frag)(fd:FuncData)(ps:List Str)(ds:List Value):Prop:=
  ∀(s:Shared) (us:List Value),K.In s.heap→(us++ds).length=ps.length→BindsTo s fd ⟨us,[]⟩ (ps.zip (us++ds))
theorem nW.all{K:PySem.W.Frag}{fd:FuncData}{ps:List Str}(h:∀us:List Value,us.length=ps.length→bindArgs fd ⟨us,[]⟩=pure (ps.zip us)):nW K fd ps []:=fun s us _ hl=>by
  rw [List.append_nil] at hl ⊢
  exact .of_eq (h us hl)
def rK(CX:ui)(X:Cx)(E:XK):Prop:=∀(pins:List (Addr × Obj)) (σ:St) (H:Hp) (s:Shared) (e:Value) (s':Shared),aA X pins σ H s→CX X.stack H s E e s'→X.xe e s'
section
variable{X:Cx}{CX:ui}{k:Nat}{f C:Addr}{fd:FuncData}{ps:List Str}{sp:Sp}{dvs:List V}{ds:List Value}{E:XK}{x m:Str}{p pos apos:Pos}{e o:Expr}{es:List Expr}{ta:TE}{t:TA}
theorem CH{pins:List (Addr × Obj)}{σ:St}{H:Hp}{s:Shared}{Q:VK}{us:List Value}{vs:List V}(F:aU X.prog X.w X.K X.mg X.base CX k f fd ps sp)(hr:cO k X.A)(hb:nW X.K fd ps ds)(hd:aO dvs ds)(hx:rK CX X E)
    (I:aA X pins σ H s)(r:aO vs us)(h:sp (vs++dvs) H Q E):wpAny (model X.prog X.w) X.A (call (.ref f) us) (EP X pins σ Q) X.xe s:=by
  have r2:aO (vs++dvs) (us++ds):=r.append hd
  have hl:(us++ds).length=ps.length:=by rw [←r2.length];exact F.len _ _ _ _ h
  refine wpAny_call (codeAny_mono (F.run X.A X.stack s H ⟨us,[]⟩ (us++ds) (vs++dvs) Q E hr I.env0 (hb s us I.kIn hl) r2 h) fun r s' hq=>?_)
  cases r with
  | error e=>exact hx pins σ H s e s' I hq
  | ok fl=>
    cases fl with
    | ret u=>exact I.after hq
    | next=>exact False.elim hq
    | brk=>exact False.elim hq
    | cont=>exact False.elim hq
theorem zc(F:aU X.prog X.w X.K X.mg X.base CX k f fd ps sp)(hr:cO k X.A)(hg:Gl X x)(hm:X.mg x=some (.ref f))(hk:PySem.W.keepIn X.K (.ref f)=true)(hb:nW X.K fd ps ds)(hd:aO dvs ds)(hx:rK CX X E)
    (ha:PA X (e::es) t)(hdb:(x==("__debug__":Str))=false:=by decide)(he:starEach (e::es) X.env=(false,eval e X.env)::starEach es X.env:=by rfl)(hpl:(backTo pos (starEach es X.env)).any (·.1)=false:=by rfl):
    PE X (.Call (.Name x p) (e::es) [] pos) (xX sp dvs E t):=by
  intro pins s σ H Q I h
  refine wpAny_Call_Name_kw (yM I hg hm ?_ hdb)
  refine PySem.W.callWith_K (h₀:=X.base) I.ok.mod.kin hk (cC (ha pos pins s σ H _ I h) fun us s1 ⟨vs,H1,I1,r,q⟩=>⟨I1.kIn,?_⟩) he hpl
  exact CH F hr hb hd hx I1 r q
structure Mk (K:PySem.W.Frag) (C f:Addr):Prop where
  makes:PySem.W.makesIn K C=true
  init:PySem.W.findIn K (.ref C) "__init__"=some (some (.ref f))
  fn:PySem.W.isFn K (.ref f)=true
  kp:PySem.W.keepIn K (.ref C)=true
end
section
variable{X:Cx}{CX:ui}{k:Nat}{f C:Addr}{fd:FuncData}{ps ks:List Str}{sp:Sp}{E:XK}{x m:Str}{p pos apos kpos:Pos}{e o:Expr}{es:List Expr}{kws:List Keyword}{te ta:TE}{t tk:TA}{nm:Option Str}
structure FB (K:PySem.W.Frag) (fd:FuncData) (ps ks:List Str) (g:List Value→List Value→List Value) (gV:List V→List V→List V):Prop where
  to:∀(s:Shared) (us ws:List Value),K.In s.heap→(g us ws).length=ps.length→BindsTo s fd ⟨us,ks.zip ws⟩ (ps.zip (g us ws))
  rel:∀{vs:List V} {us:List Value} {zs:List V} {ws:List Value},aO vs us→aO zs ws→aO (gV vs zs) (g us ws)
variable{g:List Value→List Value→List Value}{gV:List V→List V→List V}
end
structure aL (N P:List Str) (sc:Scope):Prop where
  kind:sc.kind=.function
  co:sc.isCoroutine=false
  gen:sc.isGenerator=false
  nd:N.Nodup
  pre:N.take P.length=P
  par:∀x∈P,sc.names.lookup x=some .local∨sc.names.lookup x=some .cell
  nofree:∀y∈sc.names,y.2≠.free
theorem oi{kindOf:Str→Option NameKind}{x:Str}:∀{binds:List (Str × Value)} {m:Str→Option Value},(∀v,(x,v)∉binds)→bindL kindOf binds m x=m x
  | [],_,_=>rfl
  | (n,v)::r,m,h=>by
    unfold bindL
    rw [oi fun w hw=>h w (List.mem_cons_of_mem _ hw)]
    split
    · have:x≠n:=by rintro rfl;exact h v List.mem_cons_self
      simp [this]
    · rfl
theorem og{kindOf:Str→Option NameKind}{x:Str}:∀{binds:List (Str × Value)} {m:Str→Option Value},(∀v,(x,v)∉binds)→bindC kindOf binds m x=m x
  | [],_,_=>rfl
  | (n,v)::r,m,h=>by
    unfold bindC
    rw [og fun w hw=>h w (List.mem_cons_of_mem _ hw)]
    split
    · rfl
    · have:x≠n:=by rintro rfl;exact h v List.mem_cons_self
      simp [this]
theorem oh{kindOf:Str→Option NameKind}{x:Str}{v:Value}:∀{P:List Str} {vs:List Value} {i:Nat} {m:Str→Option Value},P.Nodup→P[i]?=some x→vs[i]?=some v→kindOf x=some .local→
    bindL kindOf (P.zip vs) m x=some v
  | [],_,_,_,_,h,_,_=>by simp at h
  | _::_,[],_,_,_,_,h,_=>by simp at h
  | p::P,w::vs,0,m,nd,h1,h2,hk=>by
    simp at h1 h2;subst h1;subst h2
    show bindL kindOf ((p,w)::P.zip vs) m p=_
    unfold bindL
    rw [oi fun v hv=>(List.nodup_cons.mp nd).1 (List.of_mem_zip hv).1,if_pos hk]
    simp
  | p::P,w::vs,i+1,m,nd,h1,h2,hk=>by
    show bindL kindOf ((p,w)::P.zip vs) m x=_
    unfold bindL
    exact oh (i:=i) (List.nodup_cons.mp nd).2 (by simpa using h1) (by simpa using h2) hk
theorem n_{kindOf:Str→Option NameKind}{x:Str}{v:Value}:∀{P:List Str} {vs:List Value} {i:Nat} {m:Str→Option Value},P.Nodup→P[i]?=some x→vs[i]?=some v→kindOf x≠some .local→
    bindC kindOf (P.zip vs) m x=some v
  | [],_,_,_,_,h,_,_=>by simp at h
  | _::_,[],_,_,_,_,h,_=>by simp at h
  | p::P,w::vs,0,m,nd,h1,h2,hk=>by
    simp at h1 h2;subst h1;subst h2
    show bindC kindOf ((p,w)::P.zip vs) m p=_
    unfold bindC
    rw [og fun v hv=>(List.nodup_cons.mp nd).1 (List.of_mem_zip hv).1,if_neg hk]
    simp
  | p::P,w::vs,i+1,m,nd,h1,h2,hk=>by
    show bindC kindOf ((p,w)::P.zip vs) m x=_
    unfold bindC
    exact n_ (i:=i) (List.nodup_cons.mp nd).2 (by simpa using h1) (by simpa using h2) hk
def il(N:List Str)(vs:List V):St:=vs.map some++List.replicate (N.length - vs.length) none
def rR(CX:ui)(P:Program)(w:World)(K:PySem.W.Frag)(mg:Str→Option Value)(base:Heap)(N:List Str)(qual:Str)(scope:Scope)(f:Addr)(cd:Value)(A:Around)(outer:List Env)(s:Shared)(H:Hp)(E:XK):Cx where
  prog:=P
  w:=w
  K:=K
  mg:=mg
  base:=base
  A:=A.deeper (envOfC qual scope s.heap.objs.size f cd)
  N:=N
  s₀:=s
  H₀:=H
  env:=envOfC qual scope s.heap.objs.size f cd
  outer:=outer
  stack:=envOfC qual scope s.heap.objs.size f cd::outer
  ex:=[]
  calm:=true
  fn:=fun _=>true
  pn:=[]
  xe:=fun e s'=>wpAny (model P w) (A.deeper (envOfC qual scope s.heap.objs.size f cd)) (leaving (envOfC qual scope s.heap.objs.size f cd) e) (fun _ s''=>CX outer H s E e s'') (fun e' s''=>CX outer H s E e' s'') s'
theorem qj{sc:Scope}{n:Nat}{x:Str}(h:sc.names.lookup x=some .cell):∃c,(cellsFrom n sc.names []).lookup x=some c:=by
  have q:=PySem.W.cellsFrom_some sc.names n [] (.inl h)
  exact Option.isSome_iff_exists.mp q
theorem uD{CX:ui}{P:Program}{w:World}{K:PySem.W.Frag}{mg:Str→Option Value}{base:Heap}{N ps:List Str}{qual:Str}{scope:Scope}{f:Addr}{cd:Value}{A:Around}{outer:List Env}{s s1:Shared}{H:Hp}{E:XK}{us:List Value}{vs:List V}
    (S:aL N ps scope)(hd:A.handled=none)(e0:yl P w K mg base A outer s H)(hl:vs.length=ps.length)(r:aO vs us)
    (x:InCallC s s.heap.objs.size (bindL (envOfC qual scope s.heap.objs.size f cd).kindOf (ps.zip us) fun _=>none) (cellsFrom (s.heap.objs.size+1) scope.names []) (bindC (envOfC qual scope s.heap.objs.size f cd).kindOf (ps.zip us) fun _=>none) s1):
    aA (rR CX P w K mg base N qual scope f cd A outer s H E) [] (il N vs) H s1:=by
  have hpl:ps.length≤N.length:=by have:=congrArg List.length S.pre;rw [List.length_take] at this;lia
  obtain⟨h1,tk,rfl,hk⟩:=x.done
  have noA:∀b:Addr,b∉(rR CX P w K mg base N qual scope f cd A outer s H E).ex:=fun b z=>absurd (show b∈([]:List Addr) from z) (by simp)
  refine⟨⟨e0.mod,S.kind,rfl,rfl,Nat.le_refl _,fun y z c h1 h2=>?_,fun y hy=>?_,fun y c _ h=>?_,fun _=>hd,Around.frames_deeper e0.frames,.inr ⟨rfl,rfl⟩,fun b z=>absurd z (noA b),e0.bs,e0.bsz,fun b _ _=>noA b,fun b z=>absurd z (noA b),e0.funs,e0.frf⟩,
    rfl,e0.bare,Un.kept hk,⟨_,x.toInCall.ns,fun i y v h1 h2 h3=>?_⟩,fun y c h=>⟨_,x.cell y c h⟩,e0.hok.fresh (Nat.le_refl _),fun y c h=>?_,fun p hp=>absurd (show p∈([]:List (Addr × Obj)) from hp) (by simp),e0.hok.kept hk,?_⟩
  · exact name_of_addr x.apart (PySem.mem_of_lookup h1) (PySem.mem_of_lookup h2)
  · have hy:scope.names.lookup y=some .cell∨scope.names.lookup y=some .free:=hy
    rcases hy with hy | hy
    · exact qj hy
    · exact absurd rfl (S.nofree _ (PySem.mem_of_lookup hy))
  · exact Nat.le_of_lt (x.above y c (PySem.mem_of_lookup h))
  · have hi:i < vs.length:=by
      unfold il at h2
      by_cases hi:i < vs.length
      · exact hi
      · rw [List.getElem?_append_right (by simpa using hi)] at h2
        rw [List.getElem?_replicate] at h2
        split at h2<;>cases h2
    have ha:vs[i]?=some v:=by
      unfold il at h2
      rw [List.getElem?_append_left (by simpa using hi),List.getElem?_map] at h2
      cases e:vs[i]? with
      | none=>rw [e] at h2;cases h2
      | some a=>rw [e] at h2;cases h2;rfl
    obtain⟨u,hu,rv⟩:=r.get ha
    have hp:ps[i]?=some y:=by
      rw [←S.pre,List.getElem?_take_of_lt (by lia)];exact h1
    have ndP:ps.Nodup:=by rw [←S.pre];exact S.nd.sublist (List.take_sublist _ _)
    refine⟨u,rv,?_⟩
    rcases S.par y (List.mem_of_getElem? hp) with k | k
    · exact .inl ⟨k,oh ndP hp hu k⟩
    · obtain⟨c,e⟩:=qj (n:=s.heap.objs.size+1) k
      refine .inr ⟨.inl k,c,e,?_⟩
      have q:=x.cell y c e
      rw [n_ ndP hp hu (by show scope.names.lookup y≠_;rw [k];decide)] at q
      exact q
  · exact e0.hok.fresh (Nat.le_of_lt (x.above y c (PySem.mem_of_lookup h)))
  · unfold il
    show _=N.length
    rw [List.length_append,List.length_map,List.length_replicate]
    lia
theorem DF{CX:ui}{P:Program}{w:World}{K:PySem.W.Frag}{mg:Str→Option Value}{base:Heap}{k:Nat}{f:Addr}{name qual:Str}{params:Arguments}{body:List Stmt}{scope:Scope}{dV kV doc pm cdv ct oc:Value}{an od:Option Addr}
    {osl:Array (Option Value)}{N ps:List Str}{sp:Sp}(lk:K.lookup f=some ⟨oc,od,.func (PySem.W.fnOf name qual params body scope dV kV doc pm an cdv ct),osl⟩)(hcd:PySem.W.codeIn K cdv qual=true)(S:aL N ps scope)
    (len:∀vs H Q E,sp vs H Q E→vs.length=ps.length)
    (hbody:∀(A:Around) (outer:List Env) (s:Shared) (H:Hp) (vs:List V) (Q:VK) (E:XK),cO k (A.deeper (envOfC qual scope s.heap.objs.size f cdv))→sp vs H Q E→
      ∃t,lK (rR CX P w K mg base N qual scope f cdv A outer s H E) body t∧t {nx:=fun _ H'=>Q .non H',rt:=Q} (il N vs) H):
    aU P w K mg base CX (k+1) f (PySem.W.fnOf name qual params body scope dV kV doc pm an cdv ct) ps sp:=by
  refine⟨len,fun A outer s H args us vs Q E hr e0 hb r hsp=>?_⟩
  have hl:=len _ _ _ _ hsp
  have KX:K.In s.heap:=e0.mod.kin.keeps fun b o e=>(e0.bs b o e).1
  have lim:s.heap.NoLimit:=e0.mod.nolimit.keeps fun b o e=>(e0.bs b o e).1
  have hkind:∀y∈ps.zip us,scope.names.lookup y.1=some .local∨(scope.names.lookup y.1=some .cell∧((cellsFrom (s.heap.objs.size+1) scope.names []).lookup y.1).isSome=true):=fun⟨n,v⟩ hy=>by
    rcases S.par n (List.of_mem_zip hy).1 with q | q
    · exact .inl q
    · exact .inr ⟨q,PySem.W.cellsFrom_some _ _ _ (.inl q)⟩
  refine codeAny_call_function hr.depth (KX _ _ lk) rfl S.co S.gen rfl (PySem.W.codeRec_of KX hcd) (hb _ _ _ _ ?_)
  refine wpAny_newFunctionEnv_cells S.kind hkind fun env he s1 x=>?_
  subst he
  refine⟨lim.keeps x.toInCall.keep,codeAny_func ?_⟩
  obtain⟨t,ht,hq⟩:=hbody A outer s H vs Q E (hr.deeper _) hsp
  have I:aA (rR CX P w K mg base N qual scope f cdv A outer s H E) [] (il N vs) H s1:=uD S hr.hd e0 hl r x
  refine wpAny_mono (ht [] s1 (il N vs) H _ I hq) (fun fl s' hs=>?_) fun e s' hs=>hs
  have fin:∀{σ':St} {H':Hp} {v:V} {u:Value},aA (rR CX P w K mg base N qual scope f cdv A outer s H E) [] σ' H' s'→bw v u→Q v H'→CE outer P w H s Q u s':=
    fun{σ' H' v u} J rv q=>⟨v,H',J.os,J.bare,J.base,J.hok,rv,q⟩
  cases fl with
  | ret u=>
    obtain⟨v,σ',H',J,rv,q⟩:=hs
    exact fin J rv q
  | next=>
    obtain⟨σ',H',J,q⟩:=hs
    exact fin (v:=V.non) (u:=Value.none) J rfl q
  | brk=>
    obtain⟨_,_,_,q⟩:=hs
    exact False.elim q
  | cont=>
    obtain⟨_,_,_,q⟩:=hs
    exact False.elim q
end L2
namespace L2
open PySem PySem.Spec PyProof.Rows
section
variable{X:Cx}{x:Str}{p pos:Pos}{e:Expr}{es:List Expr}{t:TA}{id T:String}{r:List V→Hp→VK→Prop}
def Ft(r:List V→Hp→VK→Prop)(t:TA):TE:=fun σ H Q=>t σ H fun vs H1=>r vs H1 Q
theorem mU(hc:cU X (.builtin id) r)(hg:Gl X x)(hm:X.mg x=none)(hv:bootBuiltins x=some (.builtin id))(ha:PA X (e::es) t)(hn:x≠"__name__":=by decide)(hdb:(x==("__debug__":Str))=false:=by decide)
    (he:starEach (e::es) X.env=(false,eval e X.env)::starEach es X.env:=by rfl)(hpl:(backTo pos (starEach es X.env)).any (·.1)=false:=by rfl):PE X (.Call (.Name x p) (e::es) [] pos) (Ft r t):=by
  intro pins s σ H Q I h
  refine wpAny_Call_Name_kw (gj I hg hm hv ?_ hn hdb)
  exact PyProof.Rows.callWith_builtin1 (cC (ha pos pins s σ H _ I h) fun us s1 ⟨vs,H1,I1,r1,q1⟩=>hc pins s1 σ H1 vs us Q I1 r1 q1) he hpl
theorem ku(hc:cU X (.type T) r)(hg:Gl X x)(hm:X.mg x=none)(hv:bootBuiltins x=some (.type T))(ha:PA X (e::es) t)(hn:x≠"__name__":=by decide)(hdb:(x==("__debug__":Str))=false:=by decide)
    (he:starEach (e::es) X.env=(false,eval e X.env)::starEach es X.env:=by rfl)(hpl:(backTo pos (starEach es X.env)).any (·.1)=false:=by rfl):PE X (.Call (.Name x p) (e::es) [] pos) (Ft r t):=by
  intro pins s σ H Q I h
  refine wpAny_Call_Name_kw (gj I hg hm hv ?_ hn hdb)
  exact PyProof.Rows.callWith_type1 (cC (ha pos pins s σ H _ I h) fun us s1 ⟨vs,H1,I1,r1,q1⟩=>hc pins s1 σ H1 vs us Q I1 r1 q1) he hpl
end
end L2
namespace HT
open PySem PyProof.Rows
section
open PySem.SeqAt
open PySem.AutoSeq1 (wpAny_loadPart')
open PySem.MeetsSeq PySem.MeetsSeq2 PySem.MeetsSeq3
end
section
variable{prog:Program}{w:World}{A:Around}{E:Value→Shared→Prop}{s:Shared}
theorem cat_tup{t b:Addr}{vs ws:List Value}{Q:Value→Shared→Prop}(ht:IsTup s.heap t vs.toArray)(hb:IsTup s.heap b ws.toArray)(hv:vs≠[])
    (h1:ws=[]→Q (.ref t) s)(h2:ws≠[]→Q (.ref s.heap.objs.size) {s with heap:=s.heap.push {cls:=.type "tuple",data:=.seq (vs++ws).toArray}})
    (hsz:vs.length+ws.length≤sizeLine):wpAny (model prog w) A (binaryOp .Add (.ref t) (.ref b)) Q E s:=by
  obtain⟨⟨cls,dd,data,sl⟩,ho,hc,n,hd⟩:=id ht
  obtain⟨⟨cls2,dd2,data2,sl2⟩,ho2,hc2,n2,hd2⟩:=id hb
  simp only at hc hd hc2 hd2
  subst hc hd hc2 hd2
  have e:vs.toArray++ws.toArray=(vs++ws).toArray:=by simp
  by_cases hw:ws=[]
  · exact concat_meets ⟨_,ho,rfl⟩ ⟨_,ho2,rfl⟩ noFill_tuple_add seq_tuple_add PySem.F.slot_tuple_add PySem.F.entry_tuple_add (PySem.F.args_tuple_add_2 _ _)
      (tuple_addW1 t b vs.toArray ws.toArray n n2 dd dd2 sl sl2 (by simpa using hv) (by simp [hw])) ⟨ho,ho2,h1 hw⟩
  · refine concat_meets ⟨_,ho,rfl⟩ ⟨_,ho2,rfl⟩ noFill_tuple_add seq_tuple_add PySem.F.slot_tuple_add PySem.F.entry_tuple_add (PySem.F.args_tuple_add_2 _ _)
      (tuple_addW2 t b vs.toArray ws.toArray n n2 dd dd2 sl sl2 (by simpa using hv) (by simpa using hw) (by rw [List.size_toArray,List.size_toArray];exact hsz)) ⟨ho,ho2,?_⟩
    rw [e]
    exact h2 hw
def sIx(n d:Nat):Option Int→Nat
  | none=>d
  | some v=>if v < 0 then(v+(n:Int)).toNat else min v.toNat n
theorem CJ(n d:Nat)(hd:d≤n)(o:Option Int):sIx n d o≤n:=by
  cases o with
  | none=>exact hd
  | some v=>
    show(if v < 0 then(v+(n:Int)).toNat else min v.toNat n)≤n
    by_cases hv:v < 0
    · rw [if_pos hv];lia
    · rw [if_neg hv];exact Nat.min_le_right _ _
theorem tF(v:Int)(n d:Nat):(if v < 0 then max (v+(n:Int)) 0 else min v (n:Int))=((sIx n d (some v):Nat):Int):=by
  show(if v < 0 then max (v+(n:Int)) 0 else min v (n:Int))=(((if v < 0 then(v+(n:Int)).toNat else min v.toNat n):Nat):Int)
  by_cases hv:v < 0
  · simp only [if_pos hv];lia
  · simp only [if_neg hv];lia
theorem rL(lo hi:Option Int)(n:Nat):Builtin.Slice.sliceAdjust lo hi 1 (n:Int)=(((sIx n 0 lo:Nat):Int),((sIx n n hi:Nat):Int)):=by
  have h1:¬((1:Int) < 0):=by lia
  unfold Builtin.Slice.sliceAdjust
  simp only [h1,if_false]
  refine Prod.ext ?_ ?_
  · cases lo with
    | none=>rfl
    | some v=>exact tF v n 0
  · cases hi with
    | none=>rfl
    | some v=>exact tF v n n
theorem su(i j:Nat):Builtin.Slice.slicePlaces (i:Int) (j:Int) 1=j - i:=by
  unfold Builtin.Slice.slicePlaces
  have h1:(1:Int) > 0:=by lia
  simp only [h1,if_true,Int.ediv_one]
  split<;>lia
theorem nh{v:Value}{o:Option Int}{Q:Option Int→Shared→Prop}(p:IsPart v o)(h:Q o s):wpAny (model prog w) A (Builtin.Slice.slicePartIndex v) Q E s:=by
  cases p with
  | none=>exact slicePart_none h
  | int i t=>exact slicePart_int h
theorem gK{sl:Addr}{vl vu:Value}{lo hi:Option Int}{n:Nat}{Q:Int × Int × Nat→Shared→Prop}(hs:s.heap.IsSliceOf sl vl vu .none)(pl:IsPart vl lo)(pu:IsPart vu hi)
    (h:Q (((sIx n 0 lo:Nat):Int),1,sIx n n hi - sIx n 0 lo) s):wpAny (model prog w) A (Builtin.Slice.sliceApplied (.ref sl) (pure (n:Int))) Q E s:=by
  obtain⟨os,hos,hcs,hds⟩:=id hs
  unfold Builtin.Slice.sliceApplied Builtin.Slice.sliceFields
  refine wpAny_bind (wpAny_bind (wpAny_field hos hds (x:=vl) rfl (wpAny_bind (wpAny_field hos hds (x:=vu) rfl (wpAny_bind (wpAny_field hos hds (x:=.none) rfl (wpAny_pure ?_)))))))
  refine wpAny_bind (slicePart_none ?_)
  show wpAny _ _ (if ((1:Int)==0)=true then _ else _) _ _ s
  rw [if_neg (by decide)]
  refine wpAny_bind (nh pl (wpAny_bind (nh pu (wpAny_bind (wpAny_pure ?_)))))
  show wpAny _ _ (match Builtin.Slice.sliceAdjust lo hi 1 (n:Int) with | (lo,hi)=>pure (lo,(1:Int),Builtin.Slice.slicePlaces lo hi 1)) _ _ s
  rw [rL lo hi n]
  show wpAny _ _ (pure (((sIx n 0 lo:Nat):Int),(1:Int),Builtin.Slice.slicePlaces ((sIx n 0 lo:Nat):Int) ((sIx n n hi:Nat):Int) 1)) _ _ s
  rw [su]
  exact wpAny_pure h
theorem xi(xs:Array Value)(i k:Nat):((List.range k).filterMap fun(m:Nat)=>xs[((i:Int)+(m:Int)*1).toNat]?).toArray=((xs.toList.drop i).take k).toArray:=by
  have e:(fun(m:Nat)=>xs[((i:Int)+(m:Int)*1).toNat]?)=fun m=>xs[i+m]?:=by
    funext m
    have:((i:Int)+(m:Int)*1).toNat=i+m:=by lia
    rw [this]
  rw [e]
  have:=pick_run xs i k
  rw [List.filterMap_map] at this
  have e2:((fun x=>xs[x]?) ∘ fun x=>i+x)=fun m=>xs[i+m]?:=rfl
  rw [e2] at this
  rw [this]
theorem getItem_tuple_cut{t sl:Addr}{items:Array Value}{vl vu:Value}{lo hi:Option Int}{Q:Value→Shared→Prop}(ht:IsTup s.heap t items)(hs:s.heap.IsSliceOf sl vl vu .none)(pl:IsPart vl lo)(pu:IsPart vu hi)
    (hw:¬(sIx items.size 0 lo=0∧sIx items.size items.size hi=items.size))
    (h:Q (.ref s.heap.objs.size) {s with heap:=s.heap.push {cls:=.type "tuple",data:=.seq ((items.toList.drop (sIx items.size 0 lo)).take (sIx items.size items.size hi - sIx items.size 0 lo)).toArray}})
    (hsz:items.size≤sizeLine):wpAny (model prog w) A (getItem (.ref t) (.ref sl)) Q E s:=by
  have htake:sizeOk (.seq ((items.toList.drop (sIx items.size 0 lo)).take (sIx items.size items.size hi - sIx items.size 0 lo)).toArray):=by
    show((items.toList.drop (sIx items.size 0 lo)).take (sIx items.size items.size hi - sIx items.size 0 lo)).toArray.size≤sizeLine
    rw [List.size_toArray,List.length_take,List.length_drop,Array.length_toList]
    lia
  have hj:sIx items.size items.size hi≤items.size:=CJ _ _ (Nat.le_refl _) hi
  obtain⟨os,hos,hcs,hds⟩:=id hs
  have hTs:s.TypeIs (.ref sl) "slice":=⟨os,hos,hcs⟩
  unfold getItem
  try with_reducible refine wpAny_holding ?_
  first | refine wpAny_bind (wpAny_pure ?_) | skip
  refine wpAny_bind (wpAny_sequenceKey ht.typeIs (by decide) ?_)
  refine wpAny_bind (wpAny_callSpecial?_slot (name:=Str.ofString "__getitem__") ht.typeIs PyProof.Rows.slot_tuple_getitem
    (wpAny_call_entry PyProof.Rows.slot_tuple_getitem ht.typeIs entry_tuple_getitem ?_ (args_tuple_getitem _ _)))
  show wpAny _ _ (Builtin.Tuple.tupleItemsOf (.ref t) >>= _) _ _ s
  refine wpAny_bind (tupleItemsOf_ ht ?_)
  refine wpAny_bind (wpAny_typeOf hTs ?_)
  rw [if_pos (by decide)]
  refine wpAny_bind (gK hs pl pu ?_)
  have hno:¬((((sIx items.size 0 lo:Nat):Int)==0&&(1:Int)==1&&(sIx items.size items.size hi - sIx items.size 0 lo)==items.size)=true):=by
    intro q
    rw [Bool.and_eq_true,Bool.and_eq_true] at q
    have q1:((sIx items.size 0 lo:Nat):Int)=0:=eq_of_beq q.1.1
    have q2:sIx items.size items.size hi - sIx items.size 0 lo=items.size:=eq_of_beq q.2
    exact hw ⟨by lia,by lia⟩
  show wpAny _ _ (if (((sIx items.size 0 lo:Nat):Int)==0&&(1:Int)==1&&(sIx items.size items.size hi - sIx items.size 0 lo)==items.size)=true then _ else _) _ _ s
  rw [if_neg hno,xi]
  first
    | exact wpAny_bind (m:=Builtin.Tuple.tupleExact _) (wpAny_newObj_type (wpAny_pure ⟨_,rfl,wpAny_pure h⟩) htake)
    | exact wpAny_bind (m:=Builtin.Tuple.tupleExact _) (wpAny_newObj_type (wpAny_bind (wpAny_pure (wpAny_pure ⟨_,rfl,wpAny_pure h⟩))) htake)
    | exact wpAny_bind (wpAny_bind (m:=Builtin.Tuple.tupleExact _) (wpAny_newObj_type (wpAny_pure (wpAny_pure ⟨_,rfl,wpAny_pure h⟩)) htake))
    | exact wpAny_bind (wpAny_bind (m:=Builtin.Tuple.tupleExact _) (wpAny_newObj_type (wpAny_pure ⟨_,rfl,wpAny_pure h⟩) htake))
end
end HT
namespace L2
open PySem PySem.Spec PyProof.Rows
abbrev TO:=St→Hp→(Option Int→Hp→Prop)→Prop
def PO(X:Cx)(e:Option Expr)(t:TO):Prop:=
  ∀(pins:List (Addr × Obj)) (s:Shared) (σ:St) (H:Hp) (Q:Option Int→Hp→Prop),aA X pins σ H s→t σ H Q→
    wpAny (model X.prog X.w) X.A (evalPart e X.env) (fun u s'=>∃o H',aA X pins σ H' s'∧IsPart u o∧Q o H') X.xe s
def zS:TO:=fun _ H Q=>Q none H
def EU(t:TE):TO:=fun σ H Q=>t σ H fun x H1=>∃i,x=.int i∧Q (some i) H1
theorem mH{ns:List Int}:∀{us:List Value},aO (ns.map V.int) us→IntsAre us ns:=by
  induction ns with
  | nil=>intro us r;rw [List.map_nil] at r;cases r;exact .nil
  | cons n ns ih=>
    intro us r
    rw [List.map_cons] at r
    cases r with
    | cons r1 r2=>
      obtain⟨t,e⟩:=r1
      subst e
      exact .cons n t (ih r2)
section
variable{X:Cx}{e:Expr}{te:TE}{lo hi:Option Expr}{tl th:TO}{pos p2:Pos}
theorem zq:PO X none zS:=by
  intro pins s σ H Q I h
  rw [evalPart_none]
  exact wpAny_pure ⟨none,H,I,.none,h⟩
theorem zr(h:PE X e te):PO X (some e) (EU te):=by
  intro pins s σ H Q I hw
  rw [evalPart_some]
  refine cC (h pins s σ H _ I hw) fun u s1 ⟨x,H1,I1,r1,q1⟩=>?_
  obtain⟨i,rfl,q⟩:=q1
  obtain⟨t,rfl⟩:=r1
  exact⟨some i,H1,I1,.int i t,q⟩
def yo(X:Cx)(r:V→Option Int→Option Int→Hp→VK→Prop):Prop:=
  ∀(pins:List (Addr × Obj)) (s:Shared) (σ:St) (H:Hp) (x:V) (v vl vu:Value) (lo hi:Option Int) (sl:Addr) (Q:VK),aA X pins σ H s→bw x v→s.heap.IsSliceOf sl vl vu .none→IsPart vl lo→IsPart vu hi→r x lo hi H Q→
    ∃T id,typeLookup (.type T) "__getitem__"=pure (some (.builtin id))∧s.TypeIs v T∧wpAny (model X.prog X.w) X.A (getItem v (.ref sl)) (EP X pins σ Q) X.xe s
theorem yo.or{r r':V→Option Int→Option Int→Hp→VK→Prop}(h:yo X r)(h':yo X r'):yo X (fun x lo hi H Q=>r x lo hi H Q∨r' x lo hi H Q):=by
  intro pins s σ H x v vl vu lo hi sl Q I rx hs pl pu q
  rcases q with q | q
  · exact h pins s σ H x v vl vu lo hi sl Q I rx hs pl pu q
  · exact h' pins s σ H x v vl vu lo hi sl Q I rx hs pl pu q
def G9(r:V→Option Int→Option Int→Hp→VK→Prop)(te:TE)(tl th:TO):TE:=fun σ H Q=>te σ H fun x H1=>tl σ H1 fun l H2=>th σ H2 fun u H3=>r x l u H3 Q
theorem w_{r:V→Option Int→Option Int→Hp→VK→Prop}(hr:yo X r)(he:PE X e te)(hl:PO X lo tl)(hu:PO X hi th):PE X (.Subscript e (.Slice lo hi none p2) pos) (G9 r te tl th):=by
  intro pins s σ H Q I h
  refine Subscript_ (cC (he pins s σ H _ I h) fun v s1 ⟨x,H1,I1,r1,q1⟩=>?_)
  refine wpAny_Slice (cC (hl pins s1 σ H1 _ I1 q1) fun vl s2 ⟨l,H2,I2,pl,q2⟩=>cC (hu pins s2 σ H2 _ I2 q2) fun vu s3 ⟨u,H3,I3,pu,q3⟩=>?_)
  rw [evalPart_none]
  refine wpAny_pure ?_
  have I4:aA X pins σ H3 {s3 with heap:=s3.heap.push {cls:=.type "slice",data:=.fields #[vl,vu,.none]}}:=I3.kept (t':=s3.toks) fun b ob q=>Heap.get?_push_of_some _ q
  obtain⟨T,id,hT,ht,hg⟩:=hr pins {s3 with heap:=s3.heap.push {cls:=.type "slice",data:=.fields #[vl,vu,.none]}} σ H3 x v vl vu l u s3.heap.objs.size Q I4 r1 (Heap.IsSliceOf.new ..) pl pu q3
  show wpAny (model X.prog X.w) X.A (subscriptTail e (.Slice lo hi none p2) v (.ref s3.heap.objs.size)) (EP X pins σ Q) X.xe {s3 with heap:=s3.heap.push {cls:=.type "slice",data:=.fields #[vl,vu,.none]}}
  exact tail_any (ops:=[.ref s3.heap.objs.size,v]) ht hT hg (by with_unfolding_all rfl)
def nK(xs:List V)(lo hi:Option Int):List V:=(xs.drop (HT.sIx xs.length 0 lo)).take (HT.sIx xs.length xs.length hi - HT.sIx xs.length 0 lo)
theorem kT(xs:List V)(lo hi:Option Int):(nK xs lo hi).length≤xs.length:=by
  unfold nK
  rw [List.length_take,List.length_drop]
  lia
def Ez(K:PySem.W.Frag):V→Option Int→Option Int→Hp→VK→Prop:=fun x lo hi H Q=>∃a xs,x=.ref a∧bX K H a xs∧
  ¬(HT.sIx xs.length 0 lo=0∧HT.sIx xs.length xs.length hi=xs.length)∧∀p,H p=none→Q (.ref p) (bi H p (.tup (nK xs lo hi)))
theorem CM:yo X (Ez X.K):=by
  intro pins s σ H x v vl vu lo hi sl Q I rx hs pl pu h
  obtain⟨a,xs,rfl,hx,hw,q⟩:=h
  cases rx
  obtain⟨its,r,ht,hz⟩:=I.tuple hx
  have hlen:its.toArray.size=xs.length:=by rw [List.size_toArray];exact r.length.symm
  refine⟨"tuple",_,PyProof.Rows.slot_tuple_getitem.lookup,ht.typeIs,?_⟩
  refine HT.getItem_tuple_cut ht hs pl pu (by rw [hlen];exact hw) ?_ (by rw [hlen];exact hz)
  rw [hlen]
  refine⟨.ref s.heap.objs.size,_,I.laid (t':=s.toks) (o:=.tup (nK xs lo hi)) (fun b ob q=>Heap.get?_push_of_some _ q) (Nat.le_refl _) ?_,rfl,q _ (I.hok.fresh (Nat.le_refl _))⟩
  exact⟨Nat.le_trans (kT xs lo hi) hz,_,(r.drop (HT.sIx xs.length 0 lo)).take (HT.sIx xs.length xs.length hi - HT.sIx xs.length 0 lo),kd.new _ _⟩
def Ek(K:PySem.W.Frag):R2:=fun x y H Q=>∃a b xs ys,x=.ref a∧y=.ref b∧bX K H a xs∧bX K H b ys∧xs≠[]∧xs.length+ys.length≤sizeLine∧
  (ys=[]→Q (.ref a) H)∧(ys≠[]→∀p,H p=none→Q (.ref p) (bi H p (.tup (xs++ys))))
theorem aO.nil_iff{xs:List V}{us:List Value}(r:aO xs us):us=[]↔ xs=[]:=by
  cases r with
  | nil=>simp
  | cons _ _=>simp
theorem y3:eW X (binaryOp .Add) (Ek X.K):=by
  intro pins s σ H x y v u Q I rx ry h
  obtain⟨a,b,xs,ys,rfl,rfl,ha,hb,hx,hz,q1,q2⟩:=h
  cases rx
  cases ry
  obtain⟨its,r1,p1,_⟩:=I.tuple ha
  obtain⟨its2,r2,p2,_⟩:=I.tuple hb
  refine HT.cat_tup p1 p2 (fun z=>hx (r1.nil_iff.mp z)) (fun z=>⟨.ref a,H,I,rfl,q1 (r2.nil_iff.mp z)⟩) (fun z=>?_) (by rw [←r1.length,←r2.length];exact hz)
  refine⟨.ref s.heap.objs.size,_,I.laid (t':=s.toks) (o:=.tup (xs++ys)) (fun b ob q=>Heap.get?_push_of_some _ q) (Nat.le_refl _) ?_,rfl,q2 (fun w=>z (r2.nil_iff.mpr w)) _ (I.hok.fresh (Nat.le_refl _))⟩
  exact⟨by rw [List.length_append];exact hz,_,r1.append r2,kd.new _ _⟩
end
end L2
namespace L2
open PySem PySem.Spec PyProof.Rows
def yF(n:Nat)(i:Int):Option Nat:=if 0≤i then(if i < n then some i.toNat else none) else if -(n:Int)≤i then some (i+n).toNat else none
def atI{α:Type}(xs:List α)(i:Int):Option α:=(yF xs.length i).bind fun j=>xs[j]?
theorem tL{n:Nat}{i:Int}{j:Nat}(h:yF n i=some j):seqIndex? i n=some j∧j < n∧ -(n:Int)≤i∧i < n:=by
  unfold yF at h
  by_cases h0:0≤i
  · rw [if_pos h0] at h
    by_cases h1:i < n
    · rw [if_pos h1] at h
      have e:i.toNat=j:=Option.some.inj h
      exact⟨by rw [seqIndex_of h0 h1,e],by lia,by lia,h1⟩
    · rw [if_neg h1] at h;cases h
  · rw [if_neg h0] at h
    by_cases h1: -(n:Int)≤i
    · rw [if_pos h1] at h
      have e:(i+n).toNat=j:=Option.some.inj h
      exact⟨by rw [seqIndex_neg (by lia) h1,e],by lia,h1,by lia⟩
    · rw [if_neg h1] at h;cases h
theorem sY{α:Type}{xs:List α}{i:Int}{v:α}(h:atI xs i=some v):∃j,seqIndex? i xs.length=some j∧xs[j]?=some v∧j < xs.length∧ -(xs.length:Int)≤i∧i < xs.length:=by
  unfold atI at h
  cases e:yF xs.length i with
  | none=>rw [e] at h;cases h
  | some j=>
    rw [e] at h
    obtain⟨h1,h2,h3,h4⟩:=tL e
    exact⟨j,h1,h,h2,h3,h4⟩
def o8(b:Expr):Prop:=∀o i,subscripted b false o i=operate [o,i] (getItem o i)
def ym(X:Cx)(r:R2):Prop:=
  ∀(value slice:Expr) (pins:List (Addr × Obj)) (s:Shared) (σ:St) (H:Hp) (x y:V) (v u:Value) (Q:VK),aA X pins σ H s→bw x v→bw y u→r x y H Q→
    subscripted slice false v u=operate [v,u] (getItem v u)→wpAny (model X.prog X.w) X.A (subscriptTail value slice v u) (EP X pins σ Q) X.xe s
def Gy(X:Cx)(id:String)(r:V→List V→Hp→VK→Prop):Prop:=
  ∀(pins:List (Addr × Obj)) (s:Shared) (σ:St) (H:Hp) (x:V) (xs:List V) (v:Value) (us:List Value) (Q:VK),aA X pins σ H s→bw x v→aO xs us→r x xs H Q→
    wpAny (model X.prog X.w) X.A (call (.builtin id) (v::us)) (EP X pins σ Q) X.xe s
section
variable{X:Cx}{a b:Expr}{ta tb:TE}{pos:Pos}
theorem ym.or{r r':R2}(h:ym X r)(h':ym X r'):ym X (fun x y H Q=>r x y H Q∨r' x y H Q):=by
  intro value slice pins s σ H x y v u Q I rx ry q hs
  rcases q with q | q
  · exact h value slice pins s σ H x y v u Q I rx ry q hs
  · exact h' value slice pins s σ H x y v u Q I rx ry q hs
theorem Ec{r:R2}(hr:ym X r)(ha:PE X a ta)(hb:PE X b tb)(hs:o8 b):PE X (.Subscript a b pos) (Dg r ta tb):=by
  intro pins s σ H Q I h
  exact Subscript_ (AX ha hb I h fun v u s2 x y H2 I2 rx ry q=>hr a b pins s2 σ H2 x y v u Q I2 rx ry q (hs _ _))
def Er(K:PySem.W.Frag):R2:=fun x y H Q=>∃p xs i v,x=.ref p∧y=.int i∧cT K H p xs∧atI xs i=some v∧Q v H
def Es(K:PySem.W.Frag):R2:=fun x y H Q=>∃p xs i v,x=.ref p∧y=.int i∧bX K H p xs∧atI xs i=some v∧Q v H
theorem yG:ym X (Er X.K):=by
  intro value slice pins s σ H x y v u Q I rx ry h hs
  obtain⟨p,xs,i,z,rfl,rfl,hq,he,q⟩:=h
  cases rx
  obtain⟨t,rfl⟩:=ry
  obtain⟨its,r,pl,hz⟩:=I.list hq
  obtain⟨j,h1,h2,h3,h4,h5⟩:=sY he
  obtain⟨w,ew,rw'⟩:=r.get h2
  have hl:=r.length
  have hn:=pL
  have fin:EP X pins σ Q w s:=⟨z,H,I,rw',q⟩
  by_cases h0:0≤i
  · have hj:i.toNat=j:=by
      rw [seqIndex_of h0 h5] at h1
      exact Option.some.inj h1
    exact item_listR pl.isList h0 (by lia) (by rw [hj];simpa using ew) fin hs
  · have hj:(i+(its.toArray.size:Int)).toNat=j:=by
      rw [seqIndex_neg (by lia) h4] at h1
      rw [List.size_toArray,←hl]
      exact Option.some.inj h1
    exact subscriptTail_builtinR (x:=w) pl.isList.typeIs slot_list_getitem.lookup
      (wpAny_getItem_list_neg (Q:=fun r s'=>r=w∧EP X pins σ Q r s') pl.isList (by lia) (by rw [List.size_toArray]<;>lia) (by lia) (by rw [hj];simpa using ew) ⟨rfl,fin⟩) hs
theorem Bj:ym X (Es X.K):=by
  intro value slice pins s σ H x y v u Q I rx ry h hs
  obtain⟨p,xs,i,z,rfl,rfl,hq,he,q⟩:=h
  cases rx
  obtain⟨t,rfl⟩:=ry
  obtain⟨its,r,pl,hz⟩:=I.tuple hq
  obtain⟨j,h1,h2,h3,h4,h5⟩:=sY he
  obtain⟨w,ew,rw'⟩:=r.get h2
  have hl:=r.length
  have hn:=pL
  have fin:EP X pins σ Q w s:=⟨z,H,I,rw',q⟩
  exact subscriptTail_builtinR (x:=w) pl.typeIs slot_tuple_getitem.lookup
    (getItem_tuple (j:=j) (Q:=fun r s'=>r=w∧EP X pins σ Q r s') pl (by lia) (by lia) (by rw [List.size_toArray,←hl];exact h1) (by simpa using ew) ⟨rfl,fin⟩) hs
theorem si(its:List Value)(n j:Nat)(u:Value):Obj.mapSeq (·.setIfInBounds j u) {cls:=.type "list",data:=.seq its.toArray n}={cls:=.type "list",data:=.seq (its.set j u).toArray n}:=by
  simp [Obj.mapSeq]
theorem aA.lst{pins:List (Addr × Obj)}{σ:St}{H:Hp}{s:Shared}{p:Addr}{xs:List V}(I:aA X pins σ H s)(h:H p=some (.lst xs)):
    ∃(its:List Value) (n:Nat),aO xs its∧s.heap.get? p=some {cls:=.type "list",data:=.seq its.toArray n}∧xs.length≤sizeLine:=by
  obtain⟨z,its,n,r,e⟩:=I.hok p _ h
  exact⟨its,n,r,e,z⟩
theorem aA.lstUpd{pins:List (Addr × Obj)}{σ:St}{H:Hp}{s:Shared}{p:Addr}{xs ys:List V}{its its':List Value}{n n':Nat}{f:Obj→Obj}(I:aA X pins σ H s)(h:H p=some (.lst xs))
    (ho:s.heap.get? p=some {cls:=.type "list",data:=.seq its.toArray n})(hf:f {cls:=.type "list",data:=.seq its.toArray n}={cls:=.type "list",data:=.seq its'.toArray n'})(r:aO ys its')(hz:ys.length≤sizeLine)(t:Nat):
    aA X pins σ (bi H p (.lst ys)) {s with heap:=s.heap.update p f,toks:=t}:=by
  have e:(s.heap.update p f).get? p=some {cls:=.type "list",data:=.seq its'.toArray n'}:=by
    rw [Heap.get?_update_self f ho (by rw [hf]<;>rfl),hf]
  refine I.write (x:=p) (e:=p) (by rw [h];trivial) (.inl rfl) (fun b u hb q=>(Heap.get?_update_other _ _ (Ne.symm hb)).trans q) ⟨_,e⟩ ?_
  exact⟨hz,its',n',r,e⟩
def Ew:V→V→V→Hp→(Hp→Prop)→Prop:=fun o i v H Q=>∃p xs k j,o=.ref p∧i=.int k∧H p=some (.lst xs)∧yF xs.length k=some j∧Q (bi H p (.lst (xs.set j v)))
theorem xS:Dl X Ew:=by
  intro pins s σ H o i v ov iv u Q I ro ri rv h
  obtain⟨p,xs,k,j,rfl,rfl,hp,hj,q⟩:=h
  cases ro
  obtain⟨t,rfl⟩:=ri
  obtain⟨its,n,r,ho,hz⟩:=I.lst hp
  obtain⟨h1,h2,h3,h4⟩:=tL hj
  have hl:=r.length
  have hn:=pL
  have I':aA X pins σ (bi H p (.lst (xs.set j v))) {s with heap:=s.heap.update p (Obj.mapSeq (·.setIfInBounds j u))}:=
    I.lstUpd hp ho (si its n j u) (r.set rv j) (by rw [List.length_set];exact hz) s.toks
  by_cases h0:0≤k
  · have hk:k.toNat=j:=by
      rw [seqIndex_of h0 h4] at h1
      exact Option.some.inj h1
    exact PySem.W.ki_setAt ho h0 (by lia) (by rw [List.size_toArray,←hl];exact h4) (by rw [hk];exact⟨_,I',q⟩)
  · have hk:(k+(its.toArray.size:Int)).toNat=j:=by
      rw [seqIndex_neg (by lia) h3] at h1
      rw [List.size_toArray,←hl]
      exact Option.some.inj h1
    exact PySem.W.ki_setBack ho (by lia) (by rw [List.size_toArray,←hl];exact h3) (by lia) (by rw [hk];exact⟨_,I',q⟩)
theorem pZ(lo hi:Option Int)(n:Nat):(sliceBounds lo hi none n).1=((HT.sIx n 0 lo:Nat):Int)∧(sliceBounds lo hi none n).2.1=((HT.sIx n n hi:Nat):Int)∧(sliceBounds lo hi none n).2.2=1:=by
  refine⟨?_,?_,rfl⟩
  · cases lo with
    | none=>simp [sliceBounds,HT.sIx]
    | some i=>
      simp only [sliceBounds,HT.sIx,Option.getD_none,show(1:Int) > 0 by decide,if_true]
      by_cases h:i < 0
      · simp only [h,if_true]<;>lia
      · simp only [h,if_false]<;>lia
  · cases hi with
    | none=>simp [sliceBounds,HT.sIx]
    | some i=>
      simp only [sliceBounds,HT.sIx,Option.getD_none,show(1:Int) > 0 by decide,if_true]
      by_cases h:i < 0
      · simp only [h,if_true]<;>lia
      · simp only [h,if_false]<;>lia
theorem nV(its:List Value)(lo hi:Option Int):slicePick its.toArray lo hi none=((its.drop (HT.sIx its.length 0 lo)).take (HT.sIx its.length its.length hi - HT.sIx its.length 0 lo)).toArray:=by
  obtain⟨h1,h2,h3⟩:=pZ lo hi its.toArray.size
  unfold slicePick
  rw [h1,h2,h3]
  simp only [sliceRange_one,pick_run,List.size_toArray]<;>rfl
def Ey(K:PySem.W.Frag):V→Option Int→Option Int→Hp→VK→Prop:=fun x lo hi H Q=>∃a xs,x=.ref a∧cT K H a xs∧∀p,H p=none→Q (.ref p) (bi H p (.lst (nK xs lo hi)))
theorem zM:yo X (Ey X.K):=by
  intro pins s σ H x v vl vu lo hi sl Q I rx hs pl pu h
  obtain⟨a,xs,rfl,hx,q⟩:=h
  cases rx
  obtain⟨its,r,ht,hz⟩:=I.list hx
  have hlen:=r.length
  refine⟨"list",_,slot_list_getitem.lookup,ht.isList.typeIs,?_⟩
  refine wpAny_getItem_list_slice ht.isList hs pl pu .none (by simp) ?_ (by rw [List.size_toArray]<;>lia)
  rw [nV,←hlen]
  refine⟨.ref s.heap.objs.size,_,I.laid (t':=s.toks) (o:=.lst (nK xs lo hi)) (fun b ob q=>Heap.get?_push_of_some _ q) (Nat.le_refl _) ?_,rfl,q _ (I.hok.fresh (Nat.le_refl _))⟩
  exact⟨Nat.le_trans (kT xs lo hi) hz,_,0,(r.drop (HT.sIx xs.length 0 lo)).take (HT.sIx xs.length xs.length hi - HT.sIx xs.length 0 lo),Heap.get?_push_size _ rfl⟩
theorem ph:cU X (.builtin "len") (fun xs H Q=>∃p ys,xs=[.ref p]∧(cT X.K H p ys∨bX X.K H p ys)∧Q (.int ys.length) H):=by
  intro pins s σ H xs us Q I r h
  obtain⟨p,ys,rfl,hq,q⟩:=h
  obtain⟨u,rfl,rx⟩:=o5 r
  cases rx
  have hn:=pL
  rcases hq with hq | hq
  · obtain⟨its,r',pl,hz⟩:=I.list hq
    have hlen:=r'.length
    exact Calls.call_len_list pl.isList (by simp only [List.size_toArray]<;>lia) ⟨.int ys.length,H,I.tok _,⟨s.toks+1,by rw [List.size_toArray,hlen]⟩,q⟩
  · obtain⟨its,r',pl,hz⟩:=I.tuple hq
    have hlen:=r'.length
    exact len_tuple pl (by simp only [List.size_toArray]<;>lia) ⟨.int ys.length,H,I.tok _,⟨s.toks+1,by rw [List.size_toArray,hlen]⟩,q⟩
theorem pj:cU X (.type "list") (fun xs H Q=>∃p ys,xs=[.ref p]∧(cT X.K H p ys∨bX X.K H p ys)∧∀l,H l=none→Q (.ref l) (bi H l (.lst ys))):=by
  intro pins s σ H xs us Q I r h
  obtain⟨p,ys,rfl,hq,q⟩:=h
  obtain⟨u,rfl,rx⟩:=o5 r
  cases rx
  have fin:∀(its:List Value),aO ys its→ys.length≤sizeLine→∀(h':Heap) (c':Nat),(∀b o',s.heap.get? b=some o'→h'.get? b=some o')→
      h'.get? s.heap.objs.size=some {cls:=.type "list",dict:=none,data:=.seq its.toArray c',slots:=#[]}→EP X pins σ Q (.ref s.heap.objs.size) {s with heap:=h'}:=fun its r' hz h' c' kp e=>
    ⟨.ref s.heap.objs.size,_,I.laid (t':=s.toks) kp (Nat.le_refl _) (show cV X.prog X.w _ h' _ (.lst ys) from⟨hz,its,c',r',e⟩),rfl,q _ (I.hok.fresh (Nat.le_refl _))⟩
  rcases hq with hq | hq
  · obtain⟨its,r',pl,hz⟩:=I.list hq
    have hlen:=r'.length
    obtain⟨o,ho,hc,n,hd⟩:=pl.isList
    exact call_list_seq p (.inl rfl) ho hc hd (fun h' c' kp e=>fin its r' hz h' c' kp e) (by simp only [List.size_toArray]<;>lia)
  · obtain⟨its,r',pl,hz⟩:=I.tuple hq
    have hlen:=r'.length
    obtain⟨o,ho,hc,n,hd⟩:=pl
    exact call_list_seq p (.inr rfl) ho hc hd (fun h' c' kp e=>fin its r' hz h' c' kp e) (by simp only [List.size_toArray]<;>lia)
theorem nJ:cU X (.type "tuple") (fun xs H Q=>∃p ys,xs=[.ref p]∧((cT X.K H p ys∧∀l,H l=none→Q (.ref l) (bi H l (.tup ys)))∨(bX X.K H p ys∧Q (.ref p) H))):=by
  intro pins s σ H xs us Q I r h
  obtain⟨p,ys,rfl,h⟩:=h
  obtain⟨u,rfl,rx⟩:=o5 r
  cases rx
  rcases h with ⟨hq,q⟩ | ⟨hq,q⟩
  · obtain⟨its,r',pl,hz⟩:=I.list hq
    have hlen:=r'.length
    refine call_tuple_list pl.isList (fun h' kp=>?_) (by simp only [List.size_toArray]<;>lia)
    have I1:aA X pins σ H {s with heap:=h'}:=I.kept (t':=s.toks) kp
    have I2:aA X pins σ (bi H h'.objs.size (.tup ys)) {s with heap:=h'.push {cls:=.type "tuple",data:=.seq its.toArray}}:=
      I1.laid (t':=s.toks) (fun b o e=>Heap.get?_push_of_some _ e) (Nat.le_refl _) (show cV X.prog X.w _ _ _ (.tup ys) from⟨hz,its,r',kd.new _ _⟩)
    exact⟨.ref h'.objs.size,_,I2,rfl,q _ (I1.hok.fresh (Nat.le_refl _))⟩
  · obtain⟨its,r',pl,hz⟩:=I.tuple hq
    exact call_tuple_same pl ⟨.ref p,H,I,rfl,q⟩
def GM(K:PySem.W.Frag)(T:String)(x:V)(H:Hp):Prop:=match x with
  | .str _=>T="str"
  | .int _=>T="int"
  | .ref p=>(T="list"∧∃xs,cT K H p xs)∨(T="tuple"∧∃o,K.lookup p=some o∧o.cls=.type "tuple"∧o.dict=none)∨
      (T="dict"∧((∃kvs,H p=some (.dK kvs))∨∃kvs,H p=some (.dT kvs)))∨(T="set"∧∃S n,H p=some (.set S n))
  | _=>False
theorem C2{pins:List (Addr × Obj)}{σ:St}{H:Hp}{s:Shared}{T:String}{x:V}{v:Value}(I:aA X pins σ H s)(r:bw x v)(ty:GM X.K T x H):
    s.TypeIs v T∧∀a,v=.ref a→∃ob,s.heap.get? a=some ob∧ob.dict=none:=by
  cases x with
  | str z=>
    obtain⟨t,rfl⟩:=r
    cases (show T="str" from ty)
    exact⟨typeIs_str s z t,fun _ e=>nomatch e⟩
  | int i=>
    obtain⟨t,rfl⟩:=r
    cases (show T="int" from ty)
    exact⟨typeIs_int s i t,fun _ e=>nomatch e⟩
  | ref p=>
    cases r
    rcases ty with ⟨rfl,xs,hq⟩ | ⟨rfl,o,hk,hc,hd⟩ | ⟨rfl,hk⟩ | ⟨rfl,S,n,hk⟩
    · obtain⟨its,_,pl,_⟩:=I.list hq
      refine⟨pl.isList.typeIs,fun a e=>?_⟩
      cases e
      obtain⟨o,n,e,c,hd,_⟩:=pl
      exact⟨o,e,hd⟩
    · refine⟨⟨o,I.kIn p o hk,hc⟩,fun a e=>?_⟩
      cases e
      exact⟨o,I.kIn _ o hk,hd⟩
    · have z:∃o,s.heap.get? p=some o∧o.ExactDict:=by
        rcases hk with ⟨kvs,hk⟩ | ⟨kvs,hk⟩
        · obtain⟨_,_,_,_,o,_,_,e,ex,_⟩:=I.hok p _ hk
          exact⟨o,e,ex⟩
        · obtain⟨_,_,_,_,o,_,_,e,ex,_⟩:=I.hok p _ hk
          exact⟨o,e,ex⟩
      obtain⟨o,e,ex⟩:=z
      refine⟨⟨o,e,ex.1⟩,fun a e2=>?_⟩
      cases e2
      exact⟨o,e,ex.2.1⟩
    · obtain⟨o,_,_,_,e,ex,_⟩:=I.hok p _ hk
      refine⟨⟨o,e,ex.1⟩,fun a e2=>?_⟩
      cases e2
      exact⟨o,e,ex.2.1⟩
  | _=>exact False.elim ty
def GJ(K:PySem.W.Frag)(T:String)(r:V→List V→Hp→VK→Prop)(to:TE)(t:TA):TE:=fun σ H Q=>to σ H fun x H1=>GM K T x H1∧t σ H1 fun xs H2=>r x xs H2 Q
variable{o e:Expr}{es:List Expr}{to:TE}{t:TA}{name:Str}{apos cpos:Pos}{T id:String}{r:V→List V→Hp→VK→Prop}
theorem Eb(pa:PlainAttrs T)(slot:Slot T name id)(hty:typeOf (.builtin id)=pure (.type "method_descriptor"))(hm:Gy X id r)(ho:PE X o to)(ha:PA X (e::es) t)
    (hbase:attributeBase o name X.env (eval o X.env)=eval o X.env:=by rfl)
    (hfew:((backTo cpos (starEach (e::es) X.env)).all (fun x=> !x.1)&&(backToKw cpos (keywordEach [] X.env)).all (fun x=>x.1.isSome)
      &&decide ((e::es).length+([]:List Keyword).length+(if ([]:List Keyword).isEmpty then 0 else 1) < 30))=true:=by rfl)
    (hline:(apos.endLine==cpos.line)=true:=by rfl)(hs:starEach (e::es) X.env=(false,eval e X.env)::starEach es X.env:=by rfl)(hplain:(backTo cpos (starEach es X.env)).any (·.1)=false:=by rfl):
    PE X (.Call (.Attribute o name apos) (e::es) [] cpos) (GJ X.K T r to t):=by
  intro pins s σ H Q I h
  refine wpAny_Call_method_late hbase hfew hline rfl (cC (ho pins s σ H _ I h) fun v s1 ⟨x,H1,I1,r1,ty,q1⟩=>?_)
  obtain⟨h1,h2⟩:=C2 I1 r1 ty
  refine⟨T,id,pa,slot,hty,h1,h2,?_⟩
  have hA:=ha cpos pins s1 σ H1 _ I1 q1
  rw [hs] at hA ⊢
  refine Calls.callWith_builtin (by show(false || (backTo cpos (starEach es X.env)).any (·.1))=false;rw [hplain]<;>rfl) (Calls.evalArgs_plain ?_)
  exact cC hA fun us s2 ⟨vs,H2,I2,r2,q2⟩=>hm pins s2 σ H2 x vs v us Q I2 r1 r2 q2
end
end L2
namespace L2
open PySem PySem.Spec PyProof.Rows
def Gx(X:Cx)(id:String)(r:V→List V→Hp→VK→Prop):Prop:=
  ∀(pins:List (Addr × Obj)) (s:Shared) (σ:St) (H:Hp) (x:V) (xs:List V) (v:Value) (us:List Value) (Q:VK),aA X pins σ H s→bw x v→aO xs us→r x xs H Q→
    wpAny (model X.prog X.w) X.A (call (.builtin id) (v::us)) (EP X pins σ Q) X.xe s
theorem aO.one:∀{x:V} {us:List Value},aO [x] us→∃u,us=[u]∧bw x u
  | _,_,.cons r .nil=>⟨_,rfl,r⟩
theorem aO.eraseIdx:∀{xs:List V} {us:List Value} (i:Nat),aO xs us→aO (xs.eraseIdx i) (us.eraseIdx i)
  | _,_,_,.nil=>.nil
  | _,_,0,.cons _ t=>t
  | _,_,i+1,.cons r t=>.cons r (aO.eraseIdx i t)
theorem aO.rep{xs:List V}{us:List Value}(h:aO xs us):∀k:Nat,aO (List.replicate k xs).flatten (List.replicate k us).flatten
  | 0=>.nil
  | k+1=>by
    rw [List.replicate_succ,List.replicate_succ,List.flatten_cons,List.flatten_cons]
    exact aO.append h (aO.rep h k)
theorem oB{α:Type}:∀(l:List α) (i:Nat),(l.eraseIdx i).length≤l.length
  | [],_=>Nat.le_refl _
  | _::_,0=>Nat.le_succ _
  | _::r,i+1=>Nat.succ_le_succ (oB r i)
theorem oy(its:List Value):∀(k:Nat) (acc:List Value),
    List.foldl (fun x1 x2=>x1++x2) acc.toArray (List.replicate k its.toArray)=(acc++(List.replicate k its).flatten).toArray
  | 0,acc=>by simp
  | k+1,acc=>by
    have e:acc.toArray++its.toArray=(acc++its).toArray:=by simp
    have e2:(acc++its)++(List.replicate k its).flatten=acc++(List.replicate (k+1) its).flatten:=by
      rw [List.replicate_succ,List.flatten_cons,List.append_assoc]
    rw [←e2,←oy its k (acc++its),←e,List.replicate_succ,List.foldl_cons]
section
variable{X:Cx}{pins:List (Addr × Obj)}{σ:St}{H:Hp}{s:Shared}{l b:Addr}{xs ys zs:List V}
theorem aA.lset{its its':List Value}{n:Nat}{f:Array Value→Array Value}{t':Nat}(I:aA X pins σ H s)(hH:H l=some (.lst xs))
    (e:s.heap.get? l=some {cls:=.type "list",data:=.seq its.toArray n})(hf:f its.toArray=its'.toArray)(hv:aO ys its')(hz:ys.length≤sizeLine):
    aA X pins σ (bi H l (.lst ys)) {s with heap:=s.heap.update l (Obj.mapSeq f),toks:=t'}:=by
  have q:=PySem.IsL.update e f
  rw [hf] at q
  refine I.write (x:=l) (e:=l) (by rw [hH];exact trivial) (.inl rfl) (fun b' u hb hu=>(Heap.get?_update_other s.heap (Obj.mapSeq f) (Ne.symm hb)).trans hu) ⟨_,q⟩ ?_
  exact⟨hz,its',_,hv,q⟩
theorem aA.lnew{its:List Value}{t':Nat}(I:aA X pins σ H s)(hv:aO ys its)(hz:ys.length≤sizeLine):
    aA X pins σ (bi H s.heap.objs.size (.lst ys)) {s with heap:=s.heap.push {cls:=.type "list",data:=.seq its.toArray},toks:=t'}:=
  I.laid (fun _ _ q=>Heap.get?_push_of_some _ q) (Nat.le_refl _) ⟨hz,its,0,hv,Heap.get?_push_size _ rfl⟩
theorem aA.fresh(I:aA X pins σ H s):H s.heap.objs.size=none:=I.hok.fresh (Nat.le_refl _)
theorem aA.lstM(I:aA X pins σ H s)(hH:H l=some (.lst xs)):xs.length≤sizeLine∧∃(its:List Value) (n:Nat),aO xs its∧xs.length=its.length∧s.heap.get? l=some {cls:=.type "list",data:=.seq its.toArray n}:=by
  obtain⟨z,its,n,r,e⟩:=I.hok l _ hH
  exact⟨z,its,n,r,r.length,e⟩
theorem wO{n:Nat}(h:n≤sizeLine):Builtin.List.listTooLong n=false:=by
  unfold Builtin.List.listTooLong
  exact decide_eq_false (by lia)
end
section
variable{X:Cx}
def tQ:V→List V→Hp→VK→Prop:=fun x vs H Q=>∃l xs y,x=.ref l∧vs=[y]∧H l=some (.lst xs)∧xs.length < sizeLine∧Q .non (bi H l (.lst (xs++[y])))
theorem oF:Gx X "list.append" tQ:=by
  intro pins s σ H x vs v us Q I rx rv h
  obtain⟨l,xs,y,rfl,rfl,hH,hz,q⟩:=h
  cases rx
  obtain⟨u,rfl,ru⟩:=rv.one
  obtain⟨z,its,n,r,hl,e⟩:=I.lstM hH
  refine call_meets F.slot_list_append ⟨_,e,rfl⟩ F.entry_list_append (F.args_list_append_2 _ _) (PySem.list_append l its.toArray n u (by rw [List.size_toArray];lia)) ⟨e,?_⟩
  refine⟨.non,_,I.lset (its':=its++[u]) hH e (by simp) (r.append (.cons ru .nil)) ?_,rfl,q⟩
  rw [List.length_append,List.length_singleton]
  lia
def xC:V→List V→Hp→VK→Prop:=fun x vs H Q=>∃l xs i k y,x=.ref l∧vs=[.int i]∧H l=some (.lst xs)∧ -(2 ^ 63)≤i∧i < 2 ^ 63∧seqIndex? i xs.length=some k∧xs[k]?=some y∧Q y (bi H l (.lst (xs.eraseIdx k)))
theorem wG:Gx X "list.pop" xC:=by
  intro pins s σ H x vs v us Q I rx rv h
  obtain⟨l,xs,i,k,y,rfl,rfl,hH,h1,h2,hk,hy,q⟩:=h
  cases rx
  obtain⟨u,rfl,ru⟩:=rv.one
  obtain⟨t,rfl⟩:=ru
  obtain⟨z,its,n,r,hl,e⟩:=I.lstM hH
  obtain⟨w,hw,rw'⟩:=r.get hy
  refine call_meets F.slot_list_pop ⟨_,e,rfl⟩ F.entry_list_pop (F.args_list_pop_2 _ _)
    (MeetsSeq.list_pop_at l its.toArray n i t k w (fitsIndex_both h1 h2) (by rw [List.size_toArray,←hl];exact hk) (by rw [←Array.getElem?_toList];exact hw) (by rw [List.size_toArray];lia)) ⟨e,?_⟩
  refine⟨y,_,I.lset (its':=its.eraseIdx k) hH e ?_ (r.eraseIdx k) ?_,rw',q⟩
  · show its.toArray.eraseIdxIfInBounds k=(its.eraseIdx k).toArray
    rw [List.eraseIdxIfInBounds_toArray]
  · have:=oB xs k
    lia
def Cv:R2:=fun x y H Q=>∃l b xs zs,x=.ref l∧y=.ref b∧H l=some (.lst xs)∧H b=some (.lst zs)∧xs.length+zs.length≤sizeLine∧∀p,H p=none→Q (.ref p) (bi H p (.lst (xs++zs)))
theorem BM:eW X (binaryOp .Add) Cv:=by
  intro pins s σ H x y v u Q I rx ry h
  obtain⟨l,b,xs,zs,rfl,rfl,hH,hB,hz,q⟩:=h
  cases rx
  cases ry
  obtain⟨z,its,n,r,hl,e⟩:=I.lstM hH
  obtain⟨z2,its2,n2,r2,hl2,e2⟩:=I.lstM hB
  refine PySem.P.add_list e e2 ?_ (by rw [List.size_toArray,List.size_toArray];lia)
  have ea:its.toArray++its2.toArray=(its++its2).toArray:=by simp
  rw [ea]
  exact⟨.ref _,_,I.lnew (t':=s.toks) (r.append r2) (by rw [List.length_append];lia),rfl,q _ I.fresh⟩
def Cy:R2:=fun x y H Q=>∃l k xs,x=.ref l∧y=.int k∧H l=some (.lst xs)∧ -(2 ^ 63)≤k∧k < 2 ^ 63∧xs.length*k.toNat≤sizeLine∧
  ∀p,H p=none→Q (.ref p) (bi H p (.lst (List.replicate k.toNat xs).flatten))
theorem yN{α:Type}(xs:List α)(k:Nat):(List.replicate k xs).flatten.length=k*xs.length:=by
  induction k with
  | zero=>simp
  | succ k ih=>rw [List.replicate_succ,List.flatten_cons,List.length_append,ih,Nat.succ_mul,Nat.add_comm]
theorem BZ:eW X (binaryOp .Mult) Cy:=by
  intro pins s σ H x y v u Q I rx ry h
  obtain⟨l,k,xs,rfl,rfl,hH,h1,h2,hz,q⟩:=h
  cases rx
  obtain⟨t,rfl⟩:=ry
  obtain⟨z,its,n,r,hl,e⟩:=I.lstM hH
  have hlen:its.toArray.size*k.toNat≤sizeLine:=by rw [List.size_toArray,←hl];exact hz
  have hcap:¬its.toArray.size*k.toNat > (2 ^ 63 - 1) / 8:=by
    have:(sizeLine:Nat)≤(2 ^ 63 - 1) / 8:=by decide
    lia
  have hfit:¬(!Builtin.List.listFitsIndex k)=true:=by
    rw [fitsIndex_both h1 h2]
    exact Bool.false_ne_true
  have hlong:¬Builtin.List.listTooLong (its.toArray.size*k.toNat)=true:=by
    rw [wO hlen]
    exact Bool.false_ne_true
  have hnew:List.foldl (fun x1 x2=>x1++x2) #[] (List.replicate (if its.toArray.isEmpty=true then 0 else k.toNat) its.toArray)=(List.replicate k.toNat its).flatten.toArray:=by
    have f0:∀m:Nat,List.foldl (fun x1 x2=>x1++x2) #[] (List.replicate m its.toArray)=(List.replicate m its).flatten.toArray:=fun m=>by
      have:=oy its m []
      rw [List.nil_append] at this
      exact this
    rw [f0]
    cases its with
    | nil=>simp
    | cons a r'=>rw [if_neg (by simp)]
  refine wpAny_binaryOp_repeat_ref (T:="list") (U:="int") (by decide) ⟨_,e,rfl⟩ (fun s'=>typeIs_int s' k t) noFill_list_mul F.fills_int_mul F.slot_int_rmul repeat_list F.slot_int_index.lookup
    (call_meets F.slot_int_rmul (typeIs_int s k t) F.entry_int_rmul (F.args_int_rmul_2 _ _) (int___rmul___int_list k t l its.toArray n)
      ⟨e,rfl,⟨_,e,rfl⟩,call_meets F.slot_list_mul ⟨_,e,rfl⟩ F.entry_list_mul (F.args_list_mul_2 _ _) (AutoListH.list___mul___list_int_3 l its.toArray n k t hfit hcap hlong) ⟨e,?_⟩⟩)
  rw [hnew]
  exact⟨.ref _,_,I.lnew (t':=s.toks) (r.rep k.toNat) (by rw [yN,Nat.mul_comm];exact hz),rfl,q _ I.fresh⟩
end
section
variable{prog:Program}{w:World}{A:Around}{E:Value→Shared→Prop}{s:Shared}
end
section
variable{X:Cx}
end
end L2
namespace Att
open PySem PySem.W PySem.Calls PyProof.Rows
theorem lM{P:Params}{h:Heap}:∀(ns:List Int) (vs:List Value),WellAll P h vs (ns.map WData.int)→IntsAre vs ns:=by
  intro ns
  induction ns with
  | nil=>
    intro vs w
    rw [List.map_nil] at w
    cases w
    exact .nil
  | cons n ns ih=>
    intro vs w
    rw [List.map_cons] at w
    cases w with
    | cons a b=>
      cases a
      exact .cons _ _ (ih _ b)
theorem u7{l:OpenLaw}{n:Nat}(hn:l.most=some n){P:Params}{h:Heap}{args:List WData}{vals:List Value}
    (hpre:l.row.toRowW.claim.pre args=true)(hwl:WellAll P h vals args):
    ∃a vs ns,vals=[Value.ref a]∧args=[WData.list (ns.map WData.int)]∧h.get? a=some {cls:=.type "list",data:=.seq vs.toArray}∧IntsAre vs ns∧ns.length≤n:=by
  have hsh:WShape.hasAll [] args [.list .int]=true:=(pre_splitW hpre).1
  have hc:l.pre.holds [] {args:=args}=true:=(pre_splitW hpre).2
  obtain⟨d,r,rfl,h1,h2⟩:=hasAllW_cons hsh
  obtain rfl:=hasAllW_nil h2
  obtain⟨xs,rfl,h3⟩:=hasW_list h1
  obtain⟨ns,rfl⟩:=items_int h3
  have hlen:ns.length≤n:=by
    unfold OpenLaw.pre at hc
    have h4:(WTm.not (.lt (.lit (.int (n:Int))) (.len (.arg 0)))).holds [] {args:=[.list (ns.map .int)]}=true:=by
      have h4:=(holds_andW hc).1
      rw [hn] at h4
      exact h4
    have h5:=condW_of h4 (w_not (w_lt w_lit (w_len_list (w_arg rfl))))
    rw [List.length_map] at h5
    refine Nat.le_of_not_lt fun q=>?_
    have q':(n:Int) < ((ns.length:Nat):Int):=by lia
    first
      | (rw [decide_eq_true q'] at h5;exact absurd h5 (by decide))
      | (simp at h5;lia)
  cases hwl with
  | cons w1 w2=>
    cases w2
    cases w1 with
    | list ho hall=>exact⟨_,_,ns,rfl,rfl,ho,lM ns _ hall,hlen⟩
theorem uV(l:OpenLaw)(args:List WData):l.row.toRowW.claim.post args (.bool true) args=true:=
  postW_of (r:=l.row.toRowW) (X:=(true==true))
    (show WShape.has [] (.bool true) .bool=true by first | rfl | decide | simp [WShape.has,WShape.arms,WShape.armsAll])
    (show(WTm.eq .res (.lit (.bool true))).value [] {args:=args,res:=some (.bool true),after:=args}=some (.bool (true==true)) from w_eq_bool (w_res rfl) w_lit) rfl
theorem attach_call{l:OpenLaw}{n:Nat}{q:Program}{loose:List Str}{XP:(Str→Option Value)→Heap→Prop}{YP:World→Heap→Prop}{d:DefRec}
    (hn:l.most=some n)(hdf:d.params.defaults=[])
    (call:∀(w:World) (s₀ s₁:Shared) (mg mb:Str→Option Value) (fa:Addr) (o:Obj) (pm cd doc:Value) (a:Addr) (vs:List Value) (ns:List Int),
      Ground q loose [] XP w s₀ mg mb s₁.heap→YP w s₁.heap→
      s₁.heap.get? fa=some o→o.data=.func (docDef d.name d.params d.body d.scope pm cd doc)→s₁.heap.CodeRec cd d.name→mg d.name=some (.ref fa)→
      s₁.heap.get? a=some {cls:=.type "list",data:=.seq vs.toArray}→IntsAre vs ns→ns.length≤n→s₁.gens=#[]→
      codeAny (model l.prog w) callerA (.call (.ref fa) ⟨[.ref a],[]⟩) (fun r s'=>r=.ok (.ret (.bool true))∧OldK s₁.heap s'.heap∧s'.os=s₁.os∧AllBare s'.gens) s₁):
    WalkO q loose XP YP l.row.toRowW d [] (fun f vs=>PySem.call f vs):=by
  intro w s₀ s₁ mg mb G Y fa o pm cd doc dV kV ho hd hcd hD hmg hg args vals as hpre hlay hrd hwl hlo
  obtain rfl:dV=.none:=Dflts.none hD hdf
  obtain rfl:kV=.none:=Dflts.noKw hD
  obtain⟨a,vs,ns,rfl,rfl,hobj,hints,hlen⟩:=u7 hn hpre hwl
  refine enter_call (codeAny_mono (call w s₀ s₁ mg mb fa o pm cd doc a vs ns G Y ho (fd_plain hd) hcd hmg hobj hints hlen hg) fun r s' hq=>?_)
  obtain⟨rfl,h2,h3,h4⟩:=hq
  exact⟨.inl ⟨.bool true,.bool true,[],rfl,fun _=>rfl,.bool true,uV l _,fun _=>⟨List.Pairwise.nil,fun _ hm=>(nomatch hm)⟩⟩,h2,h3,h4⟩
section
variable{prog:Program}{w:World}{A:Around}{E:Value→Shared→Prop}{s:Shared}{K:Frag}
end
end Att
namespace L2
open PySem PySem.Spec PyProof.Rows
theorem jf:∀{vs:List Value} {ns:List Int},IntsAre vs ns→aO (ns.map V.int) vs
  | _,_,.nil=>.nil
  | _,_,.cons n t h=>.cons ⟨t,rfl⟩ (jf h)
def AU(H:Hp):Prop:=∀b,H b=none∨∃o xs,H b=some (.frz o (.lst xs))
theorem wA{P:Program}{w:World}{K:PySem.W.Frag}{mg mb:Str→Option Value}{CX:ui}{k:Nat}{fa a:Addr}{fd:FuncData}{x:Str}{sp:Sp}{s₁:Shared}{vs:List Value}{ns:List Int}
    (KX:K.In s₁.heap)(hns:s₁.heap.Ns mainGlobals mg)(hb:s₁.heap.Ns builtinsNs mb)(hbb:∀x:Str,x≠"__name__"→mb x=bootBuiltins x)(hlim:s₁.heap.NoLimit)(hg:s₁.gens=#[])
    (ha:s₁.heap.get? a=some {cls:=.type "list",data:=.seq vs.toArray})(hi:IntsAre vs ns)(hl:ns.length≤sizeLine)(hr:cO k callerA)
    (F:∀base:Heap,K.In base→base.Ns mainGlobals mg→aU P w K mg base CX k fa fd [x] sp)(hbind:∀(s:Shared) (u:Value),BindsTo s fd ⟨[u],[]⟩ [(x,u)])
    (hsp:∀H:Hp,AU H→cT K H a (ns.map V.int)→sp [.ref a] H (fun v _=>v=.bl true) fun _ _ _=>False)
    (hCX:∀H e s',CX [] H s₁ (fun _ _ _=>False) e s'→False):
    codeAny (model P w) callerA (.call (.ref fa) ⟨[.ref a],[]⟩) (fun r s'=>r=.ok (.ret (.bool true))∧OldK s₁.heap s'.heap∧s'.os=s₁.os∧AllBare s'.gens) s₁:=by
  have rv:=jf hi
  have lenV:=hi.length
  have core:∀H:Hp,AU H→cT K H a (ns.map V.int)→kc P w H s₁.heap→(∀b,H b≠none→b=a)→(H a≠none→K.lookup a=none)→
      codeAny (model P w) callerA (.call (.ref fa) ⟨[.ref a],[]⟩) (fun r s'=>r=.ok (.ret (.bool true))∧OldK s₁.heap s'.heap∧s'.os=s₁.os∧AllBare s'.gens) s₁:=by
    intro H hO hS hok hA hK
    have base_of:∀{b:Addr} {o:Obj},s₁.heap.get? b=some o→H b=none→(pD s₁.heap H).get? b=some o:=fun e n=>wo e n
    have noA:∀{b:Addr} {o:Obj} {es:Array DictEntry} {ep:Nat},s₁.heap.get? b=some o→o.data=.dict es ep→H b=none:=fun{b o es ep} e d=>by
      cases q:H b with
      | none=>rfl
      | some u=>
        have e':b=a:=hA b (by rw [q];simp)
        subst e'
        rw [ha] at e;cases e
        have d':Data.seq vs.toArray _=Data.dict es ep:=d
        cases d'
    have nsK:∀{b:Addr} {m:Str→Option Value},s₁.heap.Ns b m→(pD s₁.heap H).Ns b m:=fun{b m} ⟨o,es,ep,e,d,r⟩=>⟨o,es,ep,base_of e (noA e d),d,r⟩
    have hKb:K.In (pD s₁.heap H):=fun b o e=>base_of (KX b o e) (by
      cases q:H b with
      | none=>rfl
      | some u=>
        have e':b=a:=hA b (by rw [q];simp)
        subst e'
        rw [hK (by rw [q];simp)] at e;cases e)
    have hM:Mod K mg (pD s₁.heap H):=⟨hKb,nsK hns,⟨mb,nsK hb,hbb⟩,let ⟨mc,h1,h2⟩:=hlim;⟨mc,nsK h1,h2⟩⟩
    have e0:yl P w K mg (pD s₁.heap H) callerA [] s₁ H:=⟨rfl,hM,fun b o e=>yS e,Nat.le_of_eq (uB _ _),trivial,fun b hb=>absurd (show b∈([]:List Addr) from hb) (by simp),hok,.of_eq hg⟩
    refine codeAny_mono ((F _ hKb (nsK hns)).run callerA [] s₁ H ⟨[.ref a],[]⟩ [.ref a] [.ref a] _ _ hr e0 (hbind s₁ (.ref a)) (.cons rfl .nil) (hsp H hO hS)) fun r s' h=>?_
    cases r with
    | error e=>exact(hCX H e s' h).elim
    | ok fl=>
      cases fl with
      | next=>exact False.elim h
      | brk=>exact False.elim h
      | cont=>exact False.elim h
      | ret u=>
        obtain⟨v,H',os,bare,un,hok',r',q⟩:=h
        have q':v=.bl true:=q
        subst q'
        obtain rfl:u=Value.bool true:=r'
        refine⟨rfl,OldK.of_keep fun b o e=>?_,os,bare⟩
        cases q:H b with
        | none=>exact un.keep b o e q (by intro z;exact absurd (show b∈([]:List Addr) from z) (by simp)) (by simp)
        | some u=>
          rcases hO b with z | ⟨ob,xs,z⟩
          · rw [q] at z;cases z
          · have z2:=un.frzs b ob _ z
            obtain⟨e1,_⟩:=hok b _ z
            obtain⟨e2,_⟩:=hok' b _ z2
            rw [e] at e1;cases e1
            exact e2
  cases hk:K.lookup a with
  | some o=>
    have e:=KX a o hk
    rw [ha] at e
    cases e
    refine core (fun _=>none) (fun _=>.inl rfl) (.inr ⟨_,vs.toArray,_,hk,rfl,rfl,rfl,by rw [List.size_toArray,lenV];exact hl,by simpa using rv⟩) (fun b u z=>by have z':(none:Option HO)=some u:=z;cases z') (fun b z=>absurd rfl z) fun z=>absurd rfl z
  | none=>
    refine core (fun b=>if b=a then some (.frz {cls:=.type "list",data:=.seq vs.toArray} (.lst (ns.map V.int))) else none) (fun b=>?_) (.inl (.inr ⟨{cls:=.type "list",data:=.seq vs.toArray},if_pos rfl⟩)) (fun b u z=>?_) (fun b z=>?_) fun _=>hk
    · by_cases hb:b=a
      · exact .inr ⟨_,_,if_pos hb⟩
      · exact .inl (if_neg hb)
    · by_cases hb:b=a
      · have z':=(if_pos hb).symm.trans z
        cases z'
        subst hb
        exact⟨ha,by rw [List.length_map];exact hl,vs,_,rv,ha⟩
      · have z':=(if_neg hb).symm.trans z
        cases z'
    · by_cases hb:b=a
      · exact hb
      · exact absurd (if_neg hb) z
end L2
namespace L2
open PySem PySem.Spec PyProof.Rows
theorem walk_of{l:PySem.W.OpenLaw}{n k:Nat}{q:Program}{loose:List Str}{XP:(Str→Option Value)→Heap→Prop}{YP:World→Heap→Prop}{d:DefRec}{K:Params→PySem.W.Frag}{CX:World→ui}{sp:World→Sp}{x:Str}
    (hn:l.most=some n)(hn2:n≤sizeLine)(hdf:d.params.defaults=[])(hr:cO k callerA)
    (hY:∀(w:World) (h:Heap),YP w h→(K w.params).In h)
    (F:∀(w:World) (mg:Str→Option Value) (fa:Addr) (h:Heap),(K w.params).In h→h.Ns mainGlobals mg→mg d.name=some (.ref fa)→
      ∃fd:FuncData,(∀(s:Shared) (u:Value),BindsTo s fd ⟨[u],[]⟩ [(x,u)])∧
        ∀base:Heap,(K w.params).In base→base.Ns mainGlobals mg→aU l.prog w (K w.params) mg base (CX w) k fa fd [x] (sp w))
    (hsp:∀(w:World) (H:Hp) (a:Addr) (ns:List Int),ns.length≤n→AU H→cT (K w.params) H a (ns.map V.int)→sp w [.ref a] H (fun v _=>v=.bl true) fun _ _ _=>False)
    (hCX:∀(w:World) (H:Hp) (s:Shared) (e:Value) (s':Shared),CX w [] H s (fun _ _ _=>False) e s'→False):
    PySem.W.WalkO q loose XP YP l.row.toRowW d [] (fun f vs=>PySem.call f vs):=by
  refine Att.attach_call hn hdf fun w s₀ s₁ mg mb fa o pm cd doc a vs ns G Y ho hd hcd hmg hobj hints hlen hg=>?_
  have KX:=hY w _ Y
  obtain⟨fd,hb,hF⟩:=F w mg fa _ KX G.T.g hmg
  exact wA KX G.T.g G.T.b G.T.builtins G.T.nolimit hg hobj hints (Nat.le_trans hlen hn2) hr hF hb (fun H hO hS=>hsp w H a ns hlen hO hS) fun H e s'=>hCX w H s₁ e s'
end L2
namespace L2
open PySem PySem.Spec PyProof.Rows
def dM(s:Stmt):Arguments:=match s with
  | .FunctionDef _ a _ _ _ _ _ _ _ _=>a
  | _=>{posonlyargs:=[],args:=[],vararg:=none,kwonlyargs:=[],kw_defaults:=[],kwarg:=none,defaults:=[]}
def cJ(s:Stmt):List Stmt:=match s with
  | .FunctionDef _ _ b _ _ _ _ _ _ _=>b
  | _=>[]
def aj(s:Stmt):Scope:=match s with
  | .FunctionDef _ _ _ _ _ _ sc _ _ _=>sc
  | _=>{kind:=.function,names:=[],isGenerator:=false,isCoroutine:=false}
abbrev cD:ui:=fun _ _ _ _ _ _=>False
abbrev E0:XK:=fun _ _ _=>False
theorem D'{X:Cx}:rK cD X E0:=fun _ _ _ _ _ _ _ h=>h.elim
structure C9 (K:PySem.W.Frag) (x qual:Str) (st:Stmt) (f:Addr) (fd:FuncData):Prop where
  ex:∃(oc:Value) (od:Option Addr) (kV doc pm:Value) (an:Option Addr) (cdv ct:Value) (osl:Array (Option Value)),
    fd=PySem.W.fnOf x qual (dM st) (cJ st) (aj st) .none kV doc pm an cdv ct∧K.lookup f=some ⟨oc,od,.func fd,osl⟩∧PySem.W.codeIn K cdv qual=true
  kp:PySem.W.keepIn K (.ref f)=true
section
variable{P:Program}{w:World}{K:PySem.W.Frag}{mg:Str→Option Value}{base:Heap}
theorem C9.ok{x qual:Str}{st:Stmt}{f:Addr}{fd:FuncData}{N ps:List Str}{k:Nat}{sp:Sp}(F:C9 K x qual st f fd)(S:aL N ps (aj st))(len:∀vs H Q E,sp vs H Q E→vs.length=ps.length)
    (hbody:∀(cdv:Value) (A:Around) (outer:List Env) (s:Shared) (H:Hp) (vs:List V) (Q:VK) (E:XK),cO k (A.deeper (envOfC qual (aj st) s.heap.objs.size f cdv))→sp vs H Q E→
      ∃t,lK (rR cD P w K mg base N qual (aj st) f cdv A outer s H E).nox (cJ st) t∧t {nx:=fun _ H'=>Q .non H',rt:=Q} (il N vs) H):aU P w K mg base cD (k+1) f fd ps sp:=by
  obtain⟨oc,od,kV,doc,pm,an,cdv,ct,osl,rfl,lk,hcd⟩:=F.ex
  refine DF lk hcd S len fun A outer s H vs Q E hr hsp=>?_
  obtain⟨t,h,q⟩:=hbody cdv A outer s H vs Q E hr hsp
  exact⟨t,h.nox,q⟩
theorem C9.binds{x qual:Str}{st:Stmt}{f:Addr}{fd:FuncData}{ps:List Str}(F:C9 K x qual st f fd)
    (h:∀(kV doc pm:Value) (an:Option Addr) (cdv ct:Value) (us:List Value),us.length=ps.length→bindArgs (PySem.W.fnOf x qual (dM st) (cJ st) (aj st) .none kV doc pm an cdv ct) ⟨us,[]⟩=pure (ps.zip us)):nW K fd ps []:=by
  obtain⟨oc,od,kV,doc,pm,an,cdv,ct,osl,rfl,lk,hcd⟩:=F.ex
  exact .all (h kV doc pm an cdv ct)
theorem wf{x qual:Str}{st:Stmt}{f:Addr}{oc:Value}{od an:Option Addr}{osl:Array (Option Value)}{kV doc pm cdv ct:Value}(l:K.lookup f=some ⟨oc,od,.func (PySem.W.fnOf x qual (dM st) (cJ st) (aj st) .none kV doc pm an cdv ct),osl⟩)
    (c:PySem.W.codeIn K cdv qual=true)(k:PySem.W.keepIn K (.ref f)=true):C9 K x qual st f (PySem.W.fnOf x qual (dM st) (cJ st) (aj st) .none kV doc pm an cdv ct):=⟨⟨oc,od,kV,doc,pm,an,cdv,ct,osl,rfl,l,c⟩,k⟩
end
theorem oU{n:Nat}(h:n≤1000):n < sizeLine:=Nat.lt_of_le_of_lt h (by decide)
section
variable{X:Cx}
end
theorem DT{A B:Prop}(h:B):if false=true then A else B:=by
  rw [if_neg Bool.false_ne_true]
  exact h
theorem DU{A B:Prop}(h:A):if true=true then A else B:=by
  rw [if_pos rfl]
  exact h
def au(H H':Hp):Prop:=∀b o,H b=some o→H' b=some o
theorem au.refl(H:Hp):au H H:=fun _ _ h=>h
theorem au.trans{H H1 H2:Hp}(a:au H H1)(b:au H1 H2):au H H2:=fun c o h=>b c o (a c o h)
theorem au.free{H H':Hp}(e:au H H'){l:Addr}(h:H' l=Option.none):H l=Option.none:=by
  cases q:H l with
  | none=>rfl
  | some o=>
    rw [e l o q] at h
    cases h
theorem au.seq{K:PySem.W.Frag}{H H':Hp}{a:Addr}{xs:List V}(e:au H H')(h:cT K H a xs):cT K H' a xs:=by
  rcases h with (h | ⟨o,h⟩) | h
  · exact .inl (.inl (e _ _ h))
  · exact .inl (.inr ⟨o,e _ _ h⟩)
  · exact .inr h
end L2
set_option maxHeartbeats 4000000
namespace L2
open PySem PySem.Spec PyProof.Rows
def Bt(n:Nat)(i:Int):Prop:=i.natAbs < 2 ^ n
theorem Bt.mono{m n:Nat}{i:Int}(h:Bt m i)(hm:m≤n):Bt n i:=Nat.lt_of_lt_of_le h (Nat.pow_le_pow_right (by decide) hm)
theorem Bt.log{m:Nat}{i:Int}(h:Bt m i)(hm:0 < m):i.natAbs.log2 < m:=by
  unfold Bt at h
  rcases Nat.eq_zero_or_pos i.natAbs with h0 | hp
  · rw [h0];exact hm
  · exact(Nat.log2_lt (by lia)).mpr h
theorem Bt.bits{m:Nat}{i:Int}(h:Bt m i)(hm:0 < m):Builtin.Int.intBits i≤m:=by
  unfold Builtin.Int.intBits
  split
  · exact Nat.zero_le _
  · exact h.log hm
theorem Bt.of_le{m:Nat}{i:Int}{j:Int}(h:Bt m j)(e:i.natAbs≤j.natAbs):Bt m i:=Nat.lt_of_le_of_lt e h
section
variable{X:Cx}
def Af(i j:Int):Prop:=Bt 4000 i∧Bt 4000 j
theorem y9:eW X (binaryOp .Mult) (rI Af fun i j=>.int (i*j)):=D5 fun _ _ _ _ _ _ _ hc q=>
  mul_int q (.of_bits (Nat.le_trans (hc.1.bits (by decide)) (by decide)) (Nat.le_trans (hc.2.bits (by decide)) (by decide)))
def Ae(i j:Int):Prop:=j≠0∧Bt 8000 j
theorem wW:eW X (binaryOp .FloorDiv) (rI Ae fun i j=>.int (i.fdiv j)):=D5 fun _ _ _ _ _ _ _ hc q=>
  floordiv_int hc.1 q (.inl (PyProof.noPylong_of_log2 (Nat.lt_trans (hc.2.log (by decide)) (by decide))))
def Gg(K:PySem.W.Frag):R2:=fun x y H Q=>∃a b xs,x=.ref a∧y=.ref b∧cT K H a xs∧cT K H b []∧Q (.bl xs.isEmpty) H
theorem BO(hu:X.A.units < cLine):eW X (compareOp .Eq) (Gg X.K):=by
  intro pins s σ H x y v u Q I rx ry h
  obtain⟨a,b,xs,rfl,rfl,ha,hb,q⟩:=h
  cases rx
  cases ry
  obtain⟨its,r,p,hz⟩:=I.list ha
  obtain⟨its2,r2,p2,hz2⟩:=I.list hb
  cases r2
  cases r with
  | nil=>
    refine SeqAt.eq_listAt (e:=fun _=>true) p.isList p2.isList rfl hu (fun j h1 h2=>by simp at h1) ?_
    exact⟨.bl true,H,I,rfl,q⟩
  | cons r rr=>
    refine SeqAt.eq_list_lengthsAt p.isList p2.isList (by simp) hu ?_
    exact⟨.bl false,H,I,rfl,q⟩
theorem BS:eW X (compareOp .Is) (fun x y H Q=>∃b c,x=.bl b∧y=.bl c∧Q (.bl (b==c)) H):=by
  intro pins s σ H x y v u Q I rx ry h
  obtain⟨b,c,rfl,rfl,q⟩:=h
  cases rx;cases ry
  exact is_bool ⟨.bl _,H,I,rfl,q⟩
end
def kP(H H':Hp):Prop:=∀a o,H a=some o→(∀xs,o≠.lst xs)→(∀ob xs,o≠.frz ob (.lst xs))→H' a=some o
theorem kP.trans{H H1 H2:Hp}(a:kP H H1)(b:kP H1 H2):kP H H2:=fun c o h n m=>b c o (a c o h n m) n m
theorem au.ts{H H':Hp}(h:au H H'):kP H H':=fun a o e _ _=>h a o e
theorem kP.tup{K:PySem.W.Frag}{H H':Hp}(h:kP H H'){a:Addr}{xs:List V}(q:bX K H a xs):bX K H' a xs:=by
  rcases q with (q | ⟨o,q⟩) | q
  · exact .inl (.inl (h _ _ q (fun _ e=>nomatch e) (fun _ _ e=>nomatch e)))
  · exact .inl (.inr ⟨o,h _ _ q (fun _ e=>nomatch e) (fun _ _ e=>nomatch e)⟩)
  · exact .inr q
section
variable{X:Cx}
end
end L2
namespace L2
open PySem PySem.Spec PyProof.Rows
structure bH (K:PySem.W.Frag) (mg:Str→Option Value) (x:Str) (st:Stmt) (f:Addr) (fd:FuncData) (ps:List Str):Prop where
  F:C9 K x x st f fd
  m:mg x=some (.ref f)
  b:nW K fd ps []
theorem Bd{K:PySem.W.Frag}{mg:Str→Option Value}{h:Heap}{x:Str}{st:Stmt}{f:Addr}{ps:List Str}{oc:Value}{od an:Option Addr}{osl:Array (Option Value)}{kV doc pm cdv ct:Value}(X:K.In h)(G:h.Ns mainGlobals mg)(a:PySem.W.nsIn K mainGlobals x=some (some (.ref f)))
    (l:K.lookup f=some ⟨oc,od,.func (PySem.W.fnOf x x (dM st) (cJ st) (aj st) .none kV doc pm an cdv ct),osl⟩)(c:PySem.W.codeIn K cdv x=true)(k:PySem.W.keepIn K (.ref f)=true)
    (hb:∀(kV doc pm:Value) (an:Option Addr) (cdv ct:Value) (us:List Value),us.length=ps.length→bindArgs (PySem.W.fnOf x x (dM st) (cJ st) (aj st) .none kV doc pm an cdv ct) ⟨us,[]⟩=pure (ps.zip us)):
    bH K mg x st f (PySem.W.fnOf x x (dM st) (cJ st) (aj st) .none kV doc pm an cdv ct) ps:=⟨wf l c k,PySem.W.mg_of X G a,(wf l c k).binds hb⟩
theorem Ge{X:Cx}{x:Str}{st:Stmt}{f:Addr}{fd:FuncData}{ps:List Str}{k:Nat}{sp:Sp}{e:Expr}{es:List Expr}{t:TA}{p pos:Pos}(h:bH X.K X.mg x st f fd ps)(G:aU X.prog X.w X.K X.mg X.base cD k f fd ps sp)(hr:cO k X.A)(ha:PA X (e::es) t)
    (hg:Gl X x:=by rfl)(hdb:(x==("__debug__":Str))=false:=by decide)(he:starEach (e::es) X.env=(false,eval e X.env)::starEach es X.env:=by rfl)(hpl:(backTo pos (starEach es X.env)).any (·.1)=false:=by rfl):
    PE X (.Call (.Name x p) (e::es) [] pos) (xX sp [] E0 t):=zc G hr hg h.m h.F.kp h.b .nil D' ha hdb he hpl
theorem au.new{H:Hp}{p:Addr}{o:HO}(h:H p=none):au H (bi H p o):=fun b u e=>by
  rw [aH (ec e h)];exact e
theorem au.tup{K:PySem.W.Frag}{H H':Hp}{a:Addr}{xs:List V}(e:au H H')(h:bX K H a xs):bX K H' a xs:=e.ts.tup h
end L2
namespace L2
open PySem PySem.Spec PyProof.Rows
def eR(t b:Int):Int × Int:=if b < 0 then(t.fdiv (-(Int.gcd t b:Int)),b.fdiv (-(Int.gcd t b:Int))) else(t.fdiv (Int.gcd t b:Int),b.fdiv (Int.gcd t b:Int))
theorem wm(x y:Int):Int.gcd y (x.fmod y)=Int.gcd x y:=by
  rw [Int.fmod_def,Int.gcd_sub_mul_left_right,Int.gcd_comm]
theorem li(x:Int){y:Int}(h:y≠0):(x.fmod y).natAbs < y.natAbs:=by
  rcases Int.lt_or_gt_of_ne h with h | h
  · have h1:x.fmod y= -((-x).fmod (-y)):=by
      have:=Int.neg_fmod_neg x y
      lia
    have h2:=Int.fmod_nonneg_of_pos (-x) (b:= -y) (by lia)
    have h3:=Int.fmod_lt_of_pos (-x) (b:= -y) (by lia)
    lia
  · have h2:=Int.fmod_nonneg_of_pos x h
    have h3:=Int.fmod_lt_of_pos x h
    lia
theorem tI{t b:Int}(h:b≠0):(0:Int) < Int.gcd t b:=by
  have:=Int.gcd_pos_of_ne_zero_right t h
  lia
theorem oC{t b:Int}(h:b≠0):∃d:Int,d.natAbs=Int.gcd t b∧d≠0∧(eR t b).1*d=t∧(eR t b).2*d=b∧0 < (eR t b).2:=by
  have hg:=tI (t:=t) h
  have d1:(Int.gcd t b:Int) ∣ t:=Int.gcd_dvd_left ..
  have d2:(Int.gcd t b:Int) ∣ b:=Int.gcd_dvd_right ..
  unfold eR
  split
  · rename_i hb
    have e1:t.fdiv (-(Int.gcd t b:Int))*(-(Int.gcd t b:Int))=t:=Int.fdiv_mul_cancel (Int.neg_dvd.mpr d1)
    have e2:b.fdiv (-(Int.gcd t b:Int))*(-(Int.gcd t b:Int))=b:=Int.fdiv_mul_cancel (Int.neg_dvd.mpr d2)
    refine⟨-(Int.gcd t b:Int),by lia,by lia,e1,e2,?_⟩
    show 0 < b.fdiv (-(Int.gcd t b:Int))
    have h3:b.fdiv (-(Int.gcd t b:Int))*(Int.gcd t b:Int)= -b:=by rw [Int.mul_neg] at e2;lia
    exact Int.pos_of_mul_pos_left (by lia) (by lia) (b:=(Int.gcd t b:Int))
  · rename_i hb
    have e1:t.fdiv (Int.gcd t b:Int)*(Int.gcd t b:Int)=t:=Int.fdiv_mul_cancel d1
    have e2:b.fdiv (Int.gcd t b:Int)*(Int.gcd t b:Int)=b:=Int.fdiv_mul_cancel d2
    refine⟨(Int.gcd t b:Int),by lia,by lia,e1,e2,?_⟩
    show 0 < b.fdiv (Int.gcd t b:Int)
    exact Int.pos_of_mul_pos_left (by lia) (by lia) (b:=(Int.gcd t b:Int))
theorem wF{t b:Int}(h:b≠0):Int.gcd (eR t b).1 (eR t b).2=1:=by
  obtain⟨d,h1,h2,h3,h4,h5⟩:=oC (t:=t) h
  have e:Int.gcd ((eR t b).1*d) ((eR t b).2*d)=Int.gcd (eR t b).1 (eR t b).2*d.natAbs:=Int.gcd_mul_right ..
  rw [h3,h4,←h1] at e
  have hd:0 < d.natAbs:=by lia
  exact(Nat.eq_of_mul_eq_mul_right hd (by rw [Nat.one_mul];exact e)).symm
theorem Bc{t b:Int}(h:b≠0){n:Nat}(hb:Bt n b):Bt n (Int.gcd t b:Int):=by
  refine hb.of_le ?_
  have h1:=Nat.le_of_dvd (show 0 < b.natAbs by lia) (Int.ofNat_dvd.mp (by rw [Int.dvd_natAbs];exact Int.gcd_dvd_right t b))
  lia
mutual
def cnt:PyData→Nat
  | .tuple ds=>1+jv ds
  | .str _=>0
  | _=>1
def jv:List PyData→Nat
  | []=>0
  | d::ds=>cnt d+jv ds
end
mutual
def mQ:PyData→Bool
  | .tuple ds=>gE ds
  | .str _=>false
  | .list _=>false
  | .dict _=>false
  | _=>true
def gE:List PyData→Bool
  | []=>true
  | d::ds=>mQ d&&gE ds
end
theorem nO{a:Int}(h:a.natAbs.log2 < 1920):(Str.ofString (toString a)).length≤1921:=by
  have e:=int_text_length_le (k:=1920) (by decide) h
  rw [PySem.ofString_length];lia
theorem hX(x:Str)(r:List Str):piled (x::r)=x.length+2+piled r:=by
  simp [piled]
theorem kN(ts:List Str):(tupleText ts).length≤piled ts+3:=by
  unfold tupleText
  rw [strLen_append,strLen_append]
  have h1:(("(":Str)).length=1:=by decide
  have h2:(Str.ofString (if (ts.length==1)=true then ",)" else ")")).length≤2:=by split<;>decide
  have h3:(Str.join ", " ts).length≤piled ts:=by
    cases ts with
    | nil=>show(Str.join ", " []).length≤0;decide
    | cons x r=>have:=join_length_add (x::r) (by simp);lia
  lia
mutual
theorem oT:∀{d:PyData},mQ d=true→d.showable=true→d.shown.length+2≤2000*cnt d
  | .none,_,_=>by show(Str.ofString "None").length+2≤2000*1;decide
  | .bool b,_,_=>by
    cases b
    · show(Str.ofString "False").length+2≤2000*1;decide
    · show(Str.ofString "True").length+2≤2000*1;decide
  | .int i,_,hs=>by
    simp only [PyData.showable,decide_eq_true_eq] at hs
    have:=nO hs
    show(Str.ofString (toString i)).length+2≤2000*1
    lia
  | .tuple ds,hn,hs=>by
    simp only [PyData.showable] at hs
    simp only [mQ] at hn
    have h1:=j7 hn hs
    have h2:=kN (PyData.shownAll ds)
    simp only [PyData.shown,cnt]
    lia
  | .str _,hn,_=>by simp [mQ] at hn
  | .list _,hn,_=>by simp [mQ] at hn
  | .dict _,hn,_=>by simp [mQ] at hn
theorem j7:∀{ds:List PyData},gE ds=true→PyData.showableAll ds=true→piled (PyData.shownAll ds)≤2000*jv ds
  | [],_,_=>by simp [PyData.shownAll,piled]
  | d::ds,hn,hs=>by
    simp only [gE,Bool.and_eq_true] at hn
    simp only [PyData.showableAll,Bool.and_eq_true] at hs
    have h1:=oT hn.1 hs.1
    have h2:=j7 hn.2 hs.2
    simp only [PyData.shownAll,jv,hX]
    lia
end
end L2
namespace L2
open PySem PySem.Spec PyProof.Rows
def kf(env:Env):List (Str × NameKind)→List (Str × Addr)→List (Str × Addr)
  | [],cs=>cs
  | (n,k)::r,cs=>kf env r (if k==.free then(n,(env.cells.lookup n).getD 0)::cs else cs)
theorem jK{env:Env}:∀(names:List (Str × NameKind)) (cs:List (Str × Addr)),(∀y∈names,y.2=.free→∃c,env.cells.lookup y.1=some c)→
    (forIn names cs (fun(x:Str × NameKind) (r:List (Str × Addr))=>(if (x.2==NameKind.free)=true then do let a ←cellOf env x.1;pure (ForInStep.yield ((x.1,a)::r)) else pure (ForInStep.yield r):Sem (ForInStep (List (Str × Addr))))):Sem (List (Str × Addr)))=pure (kf env names cs)
  | [],cs,_=>rfl
  | (n,k)::r,cs,h=>by
    rw [List.forIn_cons]
    have ih:=fun cs'=>jK (env:=env) r cs' (fun y hy=>h y (List.mem_cons_of_mem _ hy))
    by_cases hk:(k==NameKind.free)=true
    · have hk':k=.free:=by simpa using hk
      obtain⟨c,hc⟩:=h (n,k) List.mem_cons_self hk'
      have e:cellOf env n=pure c:=by unfold cellOf;rw [hc]
      simp only [hk,if_true,e,pure_bind,kf,hc,Option.getD_some]
      exact ih _
    · have hk':(k==NameKind.free)=false:=by simpa using hk
      simp only [hk',Bool.false_eq_true,if_false,pure_bind,kf]
      exact ih _
theorem rQ{scope:Scope}{env:Env}(h:∀y∈scope.names,y.2=.free→∃c,env.cells.lookup y.1=some c):closureFor scope env=pure (kf env scope.names []):=by
  have e:=jK (env:=env) scope.names [] h
  unfold closureFor
  simp only [pure_bind,bind_pure] at e ⊢
  exact e
theorem mr{env:Env}:∀(names:List (Str × NameKind)) (cs:List (Str × Addr)) (x:Str) (c:Addr),(∀y∈names,y.2=.free→∃c,env.cells.lookup y.1=some c)→(∀x c,cs.lookup x=some c→env.cells.lookup x=some c)→(kf env names cs).lookup x=some c→env.cells.lookup x=some c
  | [],cs,x,c,_,hs,h=>hs x c h
  | (n,k)::r,cs,x,c,hn,hs,h=>by
    refine mr r _ x c (fun y hy=>hn y (List.mem_cons_of_mem _ hy)) (fun x' c' e=>?_) h
    by_cases hk:(k==NameKind.free)=true
    · rw [if_pos hk] at e
      obtain⟨c0,hc⟩:=hn (n,k) List.mem_cons_self (by simpa using hk)
      rw [List.lookup_cons] at e
      cases hx:x'==n with
      | true=>
        rw [hx] at e
        have e1:x'=n:=by simpa using hx
        subst e1
        simp only [hc,Option.getD_some,Option.some.injEq] at e
        rw [←e];exact hc
      | false=>rw [hx] at e;exact hs x' c' e
    · rw [if_neg hk] at e
      exact hs x' c' e
theorem qk{env:Env}:∀(names:List (Str × NameKind)) (cs:List (Str × Addr)) (x:Str),((∃y∈names,y.1=x∧y.2=.free)∨∃c,cs.lookup x=some c)→∃c,(kf env names cs).lookup x=some c
  | [],cs,x,h=>by
    rcases h with ⟨y,hy,_⟩ | h
    · cases hy
    · exact h
  | (n,k)::r,cs,x,h=>by
    refine qk r _ x ?_
    by_cases hk:(k==NameKind.free)=true
    · rw [if_pos hk,List.lookup_cons]
      cases hx:x==n with
      | true=>exact .inr ⟨_,rfl⟩
      | false=>
        rcases h with ⟨y,hy,e1,e2⟩ | h
        · rcases List.mem_cons.mp hy with z | z
          · subst z;subst e1;simp at hx
          · exact .inl ⟨y,z,e1,e2⟩
        · exact .inr h
    · rw [if_neg hk]
      rcases h with ⟨y,hy,e1,e2⟩ | h
      · rcases List.mem_cons.mp hy with z | z
        · subst z;exact absurd (by simpa using e2) hk
        · exact .inl ⟨y,z,e1,e2⟩
      · exact .inr h
theorem h_{env:Env}:∀{names:List (Str × NameKind)} {x:Str},(∀y∈names,y.2≠.cell)→(names.map fun(n,k)=>if (k==NameKind.free&&env.scope.kind==.function&&env.kindOf n==some .cell) then(n,NameKind.cell) else(n,k)).lookup x=some .cell∨
    (names.map fun(n,k)=>if (k==NameKind.free&&env.scope.kind==.function&&env.kindOf n==some .cell) then(n,NameKind.cell) else(n,k)).lookup x=some .free→∃y∈names,y.1=x∧y.2=.free
  | [],x,_,h=>by simp at h
  | (n,k)::r,x,hc,h=>by
    have ih:=@h_ env r x (fun y hy=>hc y (List.mem_cons_of_mem _ hy))
    have nc:k≠.cell:=hc (n,k) List.mem_cons_self
    rw [List.map_cons] at h
    cases hx:x==n with
    | true=>
      have e1:x=n:=by simpa using hx
      subst e1
      refine⟨(x,k),List.mem_cons_self,rfl,?_⟩
      by_cases q:(k==NameKind.free&&env.scope.kind==.function&&env.kindOf x==some .cell)=true
      · simp only [Bool.and_eq_true,beq_iff_eq] at q;exact q.1.1
      · simp only [q,Bool.false_eq_true,if_false,List.lookup_cons,beq_self_eq_true,Option.some.injEq] at h
        rcases h with h | h
        · exact absurd h nc
        · exact h
    | false=>
      have e2:∀(l:List (Str × NameKind)),((if (k==NameKind.free&&env.scope.kind==.function&&env.kindOf n==some .cell)=true then(n,NameKind.cell) else(n,k))::l).lookup x=l.lookup x:=fun l=>by
        split<;>simp [List.lookup_cons,hx]
      simp only [e2] at h
      obtain⟨y,hy,z⟩:=ih h
      exact⟨y,List.mem_cons_of_mem _ hy,z⟩
theorem ij{env:Env}:∀{names:List (Str × NameKind)} {x:Str},names.lookup x=some .free→
    (names.map fun(n,k)=>if (k==NameKind.free&&env.scope.kind==.function&&env.kindOf n==some .cell) then(n,NameKind.cell) else(n,k)).lookup x≠some .local
  | [],x,h=>by simp at h
  | (n,k)::r,x,h=>by
    rw [List.map_cons]
    cases hx:x==n with
    | true=>
      simp only [hx,List.lookup_cons] at h
      cases h
      show List.lookup x ((if (NameKind.free==NameKind.free&&env.scope.kind==.function&&env.kindOf n==some .cell)=true then(n,NameKind.cell) else(n,NameKind.free))::_)≠_
      split<;>simp [List.lookup_cons,hx]
    | false=>
      simp only [hx,List.lookup_cons] at h
      have ih:=@ij env r x h
      have e2:∀(l:List (Str × NameKind)),((if (k==NameKind.free&&env.scope.kind==.function&&env.kindOf n==some .cell)=true then(n,NameKind.cell) else(n,k))::l).lookup x=l.lookup x:=fun l=>by
        split<;>simp [List.lookup_cons,hx]
      simp only [e2]
      exact ih
def cu(X:Cx)(scope:Scope)(cp:List (Nat × Str))(tgN:List Str)(C:Addr)(s0:Shared)(H0:Hp)(fp:List Addr):Cx where
  prog:=X.prog
  w:=X.w
  K:=X.K
  mg:=X.mg
  base:=X.base
  A:=X.A
  N:=cp.map (·.2)++tgN
  s₀:=s0
  H₀:=H0
  env:=compEnvC scope (kf X.env scope.names []) C X.env
  outer:=X.stack
  stack:=X.stack
  ex:=fp
  fn:=fun x=>scope.names.lookup x==some .local
  calm:=X.calm
  pn:=[]
  xe:=fun _ _=>False
def yn(X:Cx)(ifs:List Expr)(t:TT):Prop:=
  ∀(pins:List (Addr × Obj)) (s:Shared) (σ:L2.St) (H:Hp) (Q:Bool→Hp→Prop),aA X pins σ H s→t σ H Q→
    wpAny (model X.prog X.w) X.A (forIn ifs true fun c r=>if r=true then do let ok ←isTrue c X.env (eval c X.env);pure (ForInStep.yield ok) else pure (ForInStep.yield r)) (TP X pins σ Q) X.xe s
theorem zz{X:Cx}:yn X [] (fun _ H Q=>Q true H):=fun _ _ _ H _ I h=>wpAny_tests_nil ⟨H,I,h⟩
theorem zA{X:Cx}{c:Expr}{t:TT}(h:PT X c t):yn X [c] t:=fun pins s σ H Q I q=>wpAny_tests_one (h pins s σ H Q I q)
abbrev Dd:Value→Shared→Prop:=fun _ _=>False
def A7(prog:Program)(w:World)(A:Around)(elt tg:Expr)(ifs:List Expr)(env:Env)(it acc:Value)(onward:Shared→Prop)(v:Value)(u:Shared):Prop:=
  wpAny (model prog w) A (letOwnedTupleGo tg it v) (fun _ u1=>wpAny (model prog w) A (assign tg env v) (fun _ u2=>wpAny (model prog w) A
    (forIn ifs true fun c r=>if r=true then do let ok ←isTrue c env (eval c env);pure (ForInStep.yield ok) else pure (ForInStep.yield r)) (fun ok u3=>if ok=true then wpAny (model prog w) A (eval elt env) (fun x u4=>wpAny (model prog w) A (call (.builtin "list.append") [acc,x]) (fun _ u5=>onward u5) Dd u4) Dd u3 else onward u3) Dd u2) Dd u1) Dd u
theorem pk{prog:Program}{w:World}{A:Around}{R:Result→Shared→Prop}{elt tg iter:Expr}{ifs:List Expr}{scope:Scope}{pos:Pos}{it acc:Value}{env:Env}(J:Nat→Shared→Prop)
    (turn:∀n u,J n u→wpAny (model prog w) A (pyNext it) (fun r u1=>(r=none→R (.ok .next) u1)∧∀v,r=some v→A7 prog w A elt tg ifs env it acc (fun u2=>∃m,m < n∧J m u2) v u1) Dd u){n0:Nat}{u0:Shared}(il:J n0 u0):
    codeAny (model prog w) A (.compLoop (.ListComp elt [⟨tg,iter,ifs,0⟩] scope pos) 0 it acc env) R u0:=by
  refine codeAny_loop rfl J (fun n u ju=>?_) n0 il
  show wpAny _ A ((compTurn (.ListComp elt [⟨tg,iter,ifs,0⟩] scope pos) 0 it acc env).onRaise _) _ _ u;refine wpAny_noted ?_;rw [compTurn_list]
  refine wpAny_bind (wpAny_standAt (wpAny_bind (wpAny_mono (turn n u ju) (fun r u1 k1=>?_) fun _ _ z=>z.elim)))
  cases r with
  | none=>exact wpAny_pure (k1.1 rfl)
  | some v=>
    refine wpAny_bind (wpAny_mono (k1.2 v rfl) (fun _ u2 k2=>wpAny_bind (wpAny_mono k2 (fun _ u3 k3=>wpAny_bind (wpAny_mono k3 (fun ok u4 k4=>?_) fun _ _ z=>z.elim)) fun _ _ z=>z.elim)) fun _ _ z=>z.elim)
    cases ok with
    | false=>rw [if_neg Bool.false_ne_true] at k4;exact wpAny_pure ⟨rfl,k4⟩
    | true=>
      rw [if_pos rfl] at k4
      refine wpAny_bind (wpAny_bind (wpAny_mono k4 (fun x u5 k5=>wpAny_bind (wpAny_mono k5 (fun _ u6 k6=>?_) fun _ _ z=>z.elim)) fun _ _ z=>z.elim));exact wpAny_pure (wpAny_pure ⟨rfl,k6⟩)
def iX(cp:List (Nat × Str))(nT:Nat)(σ:L2.St):L2.St:=cp.map (fun p=>(σ[p.1]?).join)++List.replicate nT none
structure AK (cp:List (Nat × Str)) (nT:Nat) (wi:TI) (g:TG) (tc:TT) (te:TE) (σ:L2.St) (H:Hp) (Q:VK):Prop where
  go:wi σ H fun J H1=>∀l,H1 l=none→
  ∃W:Nat→Nat→L2.St→Hp→Prop,(∃m,W 0 m (iX cp nT σ) (bi H1 l (.lst [])))∧∀i m σ' H',W i m σ' H'→
    (J.stop i H'∧Q (.ref l) H')∨(J.go i H'∧∃N:L2.St→Hp→Prop,(∀σ2 H2,N σ2 H2→∃m',m' < m∧W (i+1) m' σ2 H2)∧
      ∀x H2,J.yld i H' x H2→g x σ' H2 fun σ2 H3=>tc σ2 H3 fun b H4=>if b=true then te σ2 H4 fun v H5=>∃ys,H5 l=some (.lst ys)∧ys.length < sizeLine∧N σ2 (bi H5 l (.lst (ys++[v]))) else N σ2 H4)
theorem zg{X:Cx}{elt iter tg:Expr}{ifs:List Expr}{scope:Scope}{pos:Pos}{wi:TI}{g:TG}{tc:TT}{te:TE}(sc0:Scope)(N0:List Str)(cp:List (Nat × Str))(tgN:List Str)
    (hc:X.calm=true)(hsc:X.env.scope=sc0)(hN0:X.N=N0)(hi:PI X tg iter wi)
    (hg:∀C s0 H0 fp,PG (cu X scope cp tgN C s0 H0 fp) tg g)
    (ht:∀C s0 H0 fp,yn (cu X scope cp tgN C s0 H0 fp) ifs tc)
    (he:∀C s0 H0 fp,PE (cu X scope cp tgN C s0 H0 fp) elt te)
    (hk:scope.kind=.function)(hcell:∀y∈scope.names,y.2≠.cell)(hnames:∀y∈scope.names,y.2=.local→scope.names.lookup y.1=some .local)
    (hfr:∀y∈scope.names,y.2=.free→scope.names.lookup y.1=some .free∧sc0.names.lookup y.1=some .cell)
    (hcp:∀p∈cp,N0[p.1]?=some p.2)(hcq:∀p∈cp,sc0.names.lookup p.2=some .cell∧scope.names.lookup p.2=some .free)
    (hs:∀x,foldedSetIterable iter X.env x=pure x:=by intro _;rfl):
    PE X (.ListComp elt [⟨tg,iter,ifs,0⟩] scope pos) (AK cp tgN.length wi g tc te):=by
  intro pins s σ H Q I h
  have hkind:∀x,X.env.kindOf x=sc0.names.lookup x:=fun x=>by unfold Env.kindOf;rw [hsc]
  have hfree:∀y∈scope.names,y.2=.free→∃c,X.env.cells.lookup y.1=some c:=fun y hy e=>I.ok.has y.1 (.inl (by rw [hkind];exact(hfr y hy e).2))
  rw [eval_ListComp]
  refine wpAny_comprehension_free (use:=none) rfl hs (rQ hfree) hk hnames (wpAny_mono (hi pins s σ H _ I h.go) (fun xv s₁ h₁=>wpAny_mono h₁ (fun itv s₂ h₂=>?_) fun _ _ e=>e) fun _ _ e=>e)
  obtain⟨it,fp,tn,J,H2,rfl,I2,T,st2,f2,hq⟩:=h₂
  refine wpAny_newObj_type ?_
  have hlF:H2 s₂.heap.objs.size=none:=I2.hok.fresh (Nat.le_refl _)
  have I3:aA X pins σ (bi H2 s₂.heap.objs.size (.lst [])) {s₂ with heap:=s₂.heap.push {cls:=.type "list",data:=.seq ([]:List Value).toArray}}:=I2.lnew (t':=s₂.toks) .nil (Nat.zero_le _)
  obtain⟨W,⟨m0,w0⟩,turn⟩:=hq _ hlF
  have f3:∀b∈fp,js X pins (bi H2 s₂.heap.objs.size (.lst [])) b:=fun b hb=>by
    obtain⟨f0,fr⟩:=f2 b hb
    obtain⟨o,ho,_⟩:=T.obj _ _ st2 b hb
    exact⟨by rw [aH (Nat.ne_of_lt (Heap.lt_size ho))];exact f0,fr⟩
  have st3:tn 0 (s₂.heap.push {cls:=.type "list",data:=.seq ([]:List Value).toArray}):=T.keep _ _ _ st2 fun b _ o e=>Heap.get?_push_of_some _ e
  generalize hD:s₂.heap.objs.size=D at*
  generalize hs3:({s₂ with heap:=s₂.heap.push {cls:=.type "list",data:=.seq ([]:List Value).toArray}}:Shared)=s₃ at*
  have hst3:tn 0 s₃.heap:=by rw [←hs3];exact st3
  refine wpAny_newFunctionEnv hcell (by intro y hy;simp at hy) (fun h₁ hns₁ hsb₁=>?_) hk
  generalize hC:s₃.heap.objs.size=C at*
  have old:∀b o,s₃.heap.get? b=some o→h₁.get? b=some o:=fun b o e=>hsb₁.extBut b o (by rw [←hC];exact Nat.ne_of_lt (Heap.lt_size e)) (Heap.get?_push_of_some _ e)
  have nC:∀b o,s₃.heap.get? b=some o→b≠C:=fun b o e=>by rw [←hC];exact Nat.ne_of_lt (Heap.lt_size e)
  have hHC:(bi H2 D (.lst [])) C=none:=I3.hok.fresh (by rw [hC];exact Nat.le_refl _)
  have clS:∀x c,(kf X.env scope.names []).lookup x=some c→X.env.cells.lookup x=some c:=fun x c e=>mr _ _ x c hfree (fun _ _ z=>by simp at z) e
  have clH:∀x,(∃y∈scope.names,y.1=x∧y.2=.free)→∃c,(kf X.env scope.names []).lookup x=some c:=fun x e=>qk _ _ x (.inl e)
  have ok':(cu X scope cp tgN C s₃ (bi H2 D (.lst [])) fp).Ok:=by
    refine⟨I.ok.mod,hk,I.ok.glob,I.ok.blt,by rw [←hC];exact Nat.le_refl _,fun x y c e1 e2=>I.ok.inj x y c (clS _ _ e1) (clS _ _ e2),fun x e=>clH x (h_ hcell e),fun x c e1 e2=>?_,I.ok.hd,I.ok.frames,.inl rfl,fun b hb=>?_,fun b o e=>I3.bs b o e,?_,fun b o e hb=>?_,fun b hb z=>?_,I3.stack,fun b hb=>I3.stkFree b hb⟩
    · exfalso
      have e1':scope.names.lookup x=some .local:=by simpa [cu] using e1
      have e2':=clS x c e2
      obtain⟨c',hc'⟩:∃y∈scope.names,y.1=x∧y.2=.free:=by
        by_cases q:∃y∈scope.names,y.1=x∧y.2=.free
        · exact q
        · exfalso
          have:∀(names:List (Str × NameKind)) (cs:List (Str × Addr)),(¬∃y∈names,y.1=x∧y.2=.free)→cs.lookup x=none→(kf X.env names cs).lookup x=none:=by
            intro names
            induction names with
            | nil=>intro cs _ h;exact h
            | cons y r ih=>
              intro cs hn hcs
              obtain⟨n,k⟩:=y
              refine ih _ (fun⟨y,hy,z⟩=>hn ⟨y,List.mem_cons_of_mem _ hy,z⟩) ?_
              by_cases hk:(k==NameKind.free)=true
              · rw [if_pos hk,List.lookup_cons]
                cases hx:x==n with
                | true=>exact absurd ⟨(n,k),List.mem_cons_self,(by simpa using hx:x=n).symm,by simpa using hk⟩ hn
                | false=>exact hcs
              · rw [if_neg hk];exact hcs
          have z:=this scope.names [] q rfl
          have e2'':(kf X.env scope.names []).lookup x=some c:=e2
          rw [z] at e2'';cases e2''
      have z:=(hfr c' hc'.1 hc'.2.2).1
      rw [hc'.2.1,e1'] at z;cases z
    · obtain⟨f0,f1,f4,f5,f6,f7⟩:=f3 b hb
      obtain⟨o,ho,_⟩:=T.obj _ _ hst3 b hb
      exact⟨nC b o ho,fun x c e=>f6 x c (clS x c e)⟩
    · exact Nat.le_trans I.ok.bsz I3.sz
    · obtain⟨f0,f1,f4,f5,f6,f7⟩:=f3 b hb
      rcases f5 with z | z
      · exact I.ok.noex b o e z
      · have:=(I.ok.bs b o e).1
        exact absurd (Nat.lt_of_lt_of_le (Heap.lt_size this) z) (Nat.lt_irrefl _)
    · obtain⟨f0,f1,f4,f5,f6,f7⟩:=f3 b hb
      rcases List.mem_cons.mp (I3.stkSub b z) with z | z
      · exact f1 z
      · exact f4 z
  have I4:aA (cu X scope cp tgN C s₃ (bi H2 D (.lst [])) fp) [] (iX cp tgN.length σ) (bi H2 D (.lst [])) {s₃ with heap:=h₁,toks:=s₃.toks+([]:List (Str × Value)).length}:=by
    refine⟨ok',rfl,I3.bare,Un.kept old,⟨_,hns₁,fun i x v e1 e2 e3=>?_⟩,fun x c e=>?_,hHC,fun x c e=>I3.freeC x c (clS x c e),fun p hp=>by simp [cu] at hp,I3.hok.kept old,by simp [iX,cu]⟩
    · have hlt:i < cp.length:=by
        by_cases q:i < cp.length
        · exact q
        · exfalso
          unfold iX at e2
          rw [List.getElem?_append_right (by simp;lia)] at e2
          rw [List.getElem?_replicate] at e2
          split at e2<;>cases e2
      have e1':(cp.map (·.2))[i]?=some x:=by
        have e1'':(cp.map (·.2)++tgN)[i]?=some x:=e1
        rwa [List.getElem?_append_left (by simp;exact hlt)] at e1''
      have e2':(cp.map (fun p=>(σ[p.1]?).join))[i]?=some (some v):=by
        unfold iX at e2
        rwa [List.getElem?_append_left (by simp;exact hlt)] at e2
      rw [List.getElem?_map,List.getElem?_eq_getElem hlt] at e1' e2'
      have ex:(cp[i]).2=x:=by simpa using e1'
      have ev:(σ[(cp[i]).1]?).join=some v:=by simpa using e2'
      have ev':σ[(cp[i]).1]?=some (some v):=by
        cases q:σ[(cp[i]).1]? with
        | none=>rw [q] at ev;cases ev
        | some z=>rw [q] at ev;simp only [Option.join_some] at ev;rw [ev]
      have hN:=hcp cp[i] (List.getElem_mem hlt)
      rw [←hN0] at hN
      obtain⟨hcl,hcf⟩:=hcq cp[i] (List.getElem_mem hlt)
      rw [ex] at hN hcl hcf
      obtain⟨m,hn,hl⟩:=I3.loc
      obtain⟨u,r,l⟩:=hl _ x v hN ev' (.inr (.inl (by rw [hsc];exact hcl)))
      refine⟨u,r,.inr ?_⟩
      rcases l with ⟨k1,_⟩ | ⟨k1,c,hcc,o,ho,hd⟩
      · rw [hkind,hcl] at k1;cases k1
      · have e3':(relabel scope X.env).names.lookup x=some .local∨(relabel scope X.env).names.lookup x=some .cell∨(relabel scope X.env).names.lookup x=some .free:=e3
        have nl:(relabel scope X.env).names.lookup x=some .cell∨(relabel scope X.env).names.lookup x=some .free:=by
          rcases e3' with z | z | z
          · exact absurd z (ij hcf)
          · exact .inl z
          · exact .inr z
        obtain⟨c',hc'⟩:=clH x (h_ hcell nl)
        have:=clS x c' hc'
        rw [hcc] at this;cases this
        exact⟨nl,c,hc',o,old c o ho,hd⟩
    · obtain⟨v,o,ho,hd⟩:=I3.cell x c (clS x c e)
      exact⟨v,o,old c o ho,hd⟩
  have hst4:tn 0 h₁:=T.keep _ _ _ hst3 fun b _ o e=>old b o e
  have loop:codeAny (model X.prog X.w) X.A (.compLoop (.ListComp elt [⟨tg,iter,ifs,0⟩] scope pos) 0 (.ref it) (.ref D) (compEnvC scope (kf X.env scope.names []) C X.env))
      (compPost (model X.prog X.w) X.A X.xe none (EP X pins σ Q) (.ref D) C) {s₃ with heap:=h₁,toks:=s₃.toks+([]:List (Str × Value)).length}:=by
    refine pk (fun n s'=>∃i σ' H',aA (cu X scope cp tgN C s₃ (bi H2 D (.lst [])) fp) [] σ' H' s'∧tn i s'.heap∧(∀b∈fp,H' b=none)∧W i n σ' H') ?_ (n0:=m0) ⟨0,_,_,I4,hst4,fun b hb=>(f3 b hb).1,w0⟩
    rintro n s5 ⟨i,σ5,H5,I5,st5,fr5,w5⟩
    have stat:∀{H':Hp},(∀b∈fp,H' b=none)→∀b∈fp,js (cu X scope cp tgN C s₃ (bi H2 D (.lst [])) fp) [] H' b:=fun hn b hb=>
      ⟨hn b hb,(ok'.exf b hb).1,ok'.exfs b hb,.inl hb,(ok'.exf b hb).2,fun p hp=>by simp [cu] at hp⟩
    rcases turn i n σ5 H5 w5 with ⟨stop,qn⟩ | ⟨go,N,hN,step⟩
    · refine cC (T.done (cu X scope cp tgN C s₃ (bi H2 D (.lst [])) fp) rfl rfl rfl hc i [] s5 σ5 H5 (fun _ _=>False) I5 (stat fr5) st5 stop) fun r s6 ⟨hr,I6⟩=>?_
      subst hr
      refine⟨fun _=>?_,fun v z=>by cases z⟩
      obtain⟨m,hn,_⟩:=I6.loc
      refine⟨m,hn,fun h' sb=>⟨.ref D,H5,?_,rfl,qn⟩⟩
      have ub:=I6.base
      have kp:∀b u,b≠C→s6.heap.get? b=some u→h'.get? b=some u:=fun b u ne e=>sb.extBut b u ne e
      have nit:∀b u,H5 b=some u→b≠C:=fun b u e z=>by
        have:=I6.free
        rw [z] at e
        rw [show H5 C=none from this] at e;cases e
      refine I3.call' (s':={s6 with heap:=h'}) (ch:=fp) I6.os ⟨fun b o e n hb hx=>kp b o (nC b o e) (ub.keep b o e n hb hx),fun b o e n hb hx=>?_,ub.free,fun b o e hx=>?_,ub.tups,ub.frzs,ub.tbls⟩ (fun b u e=>?_) I6.bare (fun b hb=>?_)
      · obtain⟨sl,q⟩:=ub.slot b o e n hb hx
        exact⟨sl,kp b _ (nC b o e) q⟩
      · obtain⟨o',q⟩:=ub.there b o e hx
        exact⟨o',kp b _ (nC b o e) q⟩
      · refine(I6.hok b u e).stay (fun c v hc q=>kp c v ?_ q) (fun _ q=>q) fun _ _ q=>q
        rcases hc with z | z
        · rw [z];exact nit b u e
        · exact nit c _ z
      · obtain⟨f0,f1,f4,f5,f6,f7⟩:=f3 b hb
        exact⟨f5,f1,f6,f7⟩
    · refine cC (T.item (cu X scope cp tgN C s₃ (bi H2 D (.lst [])) fp) rfl rfl rfl hc i [] s5 σ5 H5 (fun _ _=>False) I5 (stat fr5) st5 go) fun r s6 ⟨u,hr,h6⟩=>?_
      subst hr
      refine⟨fun z=>(by cases z),fun v z=>?_⟩
      cases z
      refine cC h6 fun _ s7 ⟨x,H7,I7,r7,y7,st7,fr7⟩=>?_
      have I7':=I7.pinned (stat fr7) (T.obj _ _ st7)
      have again:∀{σ8:L2.St} {H8:Hp} {s8:Shared},aA (cu X scope cp tgN C s₃ (bi H2 D (.lst [])) fp) ([]++mV fp s7.heap) σ8 H8 s8→N σ8 H8→∃m,m < n∧∃i σ' H',aA (cu X scope cp tgN C s₃ (bi H2 D (.lst [])) fp) [] σ' H' s8∧tn i s8.heap∧(∀b∈fp,H' b=none)∧W i m σ' H':=fun{σ8 H8 s8} I8 n8=>by
        obtain⟨m',hm,w8⟩:=hN σ8 H8 n8
        refine⟨m',hm,i+1,σ8,H8,I8.unpinned,T.keep _ _ _ st7 fun b hb o e=>(I8.pin (b,o) (List.mem_append_right _ (List.mem_append_right _ (hV hb e)))).1,fun b hb=>?_,w8⟩
        obtain⟨o,e,d⟩:=T.obj _ _ st7 b hb
        exact(I8.pin (b,o) (List.mem_append_right _ (List.mem_append_right _ (hV hb e)))).2.1
      refine cC (hg C s₃ (bi H2 D (.lst [])) fp _ s7 σ5 H7 x u _ I7' r7 (step x H7 y7)) fun _ s8 ⟨σ8,H8,I8,q8⟩=>?_
      refine cC (ht C s₃ (bi H2 D (.lst [])) fp _ s8 σ8 H8 _ I8 q8) fun ok s9 ⟨H9,I9,q9⟩=>?_
      cases ok with
      | false=>
        rw [if_neg Bool.false_ne_true] at q9 ⊢
        exact again I9 q9
      | true=>
        rw [if_pos rfl] at q9 ⊢
        refine cC (he C s₃ (bi H2 D (.lst [])) fp _ s9 σ8 H9 _ I9 q9) fun v s10 ⟨xv,H10,I10,r10,ys,hl,hz,n10⟩=>?_
        refine cC (oF _ s10 σ8 H10 (.ref D) [xv] (.ref D) [v] (fun _ H=>N σ8 H) I10 rfl (.cons r10 .nil) ⟨D,ys,xv,rfl,rfl,hl,hz,n10⟩) fun _ s11 ⟨_,H11,I11,_,q11⟩=>?_
        exact again I11 q11
  exact codeAny_compStart_list loop (T.self X.A 0 _ _ _ hst4 loop)
end L2
namespace L2
open PySem PySem.Spec PyProof.Rows
section
variable{X:Cx}
def xB(K:PySem.W.Frag):R2:=fun x y H Q=>∃a b xs ys,x=.ref a∧y=.ref b∧bX K H a xs∧bX K H b ys∧xs.length+ys.length≤sizeLine∧∀p H',au H H'→bX K H' p (xs++ys)→Q (.ref p) H'
theorem y2:eW X (binaryOp .Add) (xB X.K):=by
  intro pins s σ H x y v u Q I rx ry h
  obtain⟨a,b,xs,ys,rfl,rfl,ha,hb,hz,q⟩:=h
  cases rx;cases ry
  by_cases hx:xs=[]
  · obtain⟨i1,r1,p1,_⟩:=I.tuple ha
    obtain⟨i2,r2,p2,_⟩:=I.tuple hb
    obtain⟨m,F⟩:=I.fr
    have e1:i1=[]:=by subst hx;cases r1;rfl
    refine add_tuples F (wM (g:=X.base)) p1 p2 (fun _=>?_) (fun z1 _=>absurd e1 z1) (fun z1 _ _ _ _=>absurd e1 z1) (by rw [←r1.length,←r2.length];exact hz)
    exact⟨.ref b,H,I,rfl,q b H (au.refl H) (by rw [hx];exact hb)⟩
  · exact y3 pins s σ H (.ref a) (.ref b) _ _ Q I rfl rfl ⟨a,b,xs,ys,rfl,rfl,ha,hb,hx,hz,fun z=>q a H (au.refl H) (by rw [z,List.append_nil];exact ha),fun _ p hp=>q p _ (au.new hp) (bX.of aw)⟩
theorem mS{x:V}{us:List Value}(r:aO [x] us):∃u,us=[u]∧bw x u:=by
  cases r with
  | cons p p'=>cases p';exact⟨_,rfl,p⟩
theorem qm{prog:Program}{w:World}{A:Around}{E:Value→Shared→Prop}{s:Shared}{t:Addr}{vs:List Value}{Q:List Value→Shared→Prop}(ht:IsTup s.heap t vs.toArray)
    (h:Q vs {s with heap:=(s.heap.push (seqObj "list" #[] 0)).update s.heap.objs.size (Obj.mapSeq (· ++vs.toArray))})(hsz:vs.length≤sizeLine):wpAny (model prog w) A (collect (.ref t)) Q E s:=by
  obtain⟨o,ho,hc,n,hd⟩:=id ht;unfold collect;refine wpAny_bind (wpAny_runValue (codeAny_builtin entry_proto_collect' ?_))
  show wpAny _ _ (do again (.builtin "list.__iadd__" ⟨[←newList [],.ref t],[]⟩)) _ _ s
  refine wpAny_bind (wpAny_newList (wpAny_pure ⟨Code.quiet_builtin _ (by decide+kernel),?_⟩));refine codeAny_builtin entry_list_iadd' ?_
  show wpAny _ _ (Builtin.List.listExtendWith (.ref s.heap.objs.size) (.ref t) (.ref s.heap.objs.size)) _ _ {s with heap:=s.heap.push (seqObj "list" #[] 0)}
  unfold Builtin.List.listExtendWith;have ho':(s.heap.push (seqObj "list" #[] 0)).get? t=some o:=Heap.get?_push_of_some _ ho
  refine wpAny_bind (wpAny_typeOf (T:="tuple") ⟨o,ho',hc⟩ ?_)
  rw [if_pos (by rw [show(Value.type "tuple"==Value.type "tuple")=true from rfl,Bool.or_true])]
  refine wpAny_bind (listItems_at ho' hd ?_);refine wpAny_bind (listItems_at (xs:=#[]) (n:=0) (Heap.get?_push_size _ rfl) rfl ?_)
  rw [if_neg (by simp)];refine wpAny_bind (listUpdate_at (xs:=#[]) (n:=0) (Heap.get?_push_size _ rfl) rfl ?_ (Nat.zero_le _) (by show(#[]++vs.toArray).size≤sizeLine+1;simp only [Array.size_append,List.size_toArray,List.length_nil];lia))
  refine wpAny_pure ?_
  show wpAny (model prog w) A (load s.heap.objs.size >>= fun o=>match o.data with | .seq xs _=>pure xs.toList | _=>unsupported "internal:collect") Q E {s with heap:=(s.heap.push (seqObj "list" #[] 0)).update s.heap.objs.size (Obj.mapSeq (· ++vs.toArray))}
  refine wpAny_bind (wpAny_load (get?_update_seq (Heap.get?_push_size _ rfl) _) ?_);show wpAny _ _ (pure ((#[]:Array Value)++vs.toArray).toList) Q E _;rw [show((#[]:Array Value)++vs.toArray).toList=vs by simp];exact wpAny_pure h
theorem sI{prog:Program}{w:World}{A:Around}{E:Value→Shared→Prop}{s:Shared}{t:Addr}{vs:List Value}{ns:List Int}{Q:Value→Shared→Prop}(ht:IsTup s.heap t vs.toArray)(hI:IntsAre vs ns)(h64:vs.length < 64)
    (h:∀(out:Array Value) (ns':List Int),IntsAre out.toList ns'→ns'.Perm ns→ns'.Pairwise (· ≤·)→Q (.ref (s.heap.objs.size+1)) {s with heap:=sortedAll s.heap vs out}):wpAny (model prog w) A (call (.builtin "sorted") [.ref t]) Q E s:=by
  refine Calls.call_function_entry kind_sorted plain_sorted entry_sorted (args_sorted1 _) ?_;unfold Builtin.«sorted»
  refine wpAny_bind (m:=checkCount "sorted" 1 1 _) (wpAny_pure ?_);refine wpAny_bind (qm ht ?_ (Nat.le_trans (Nat.le_of_lt h64) (by decide)))
  have z:((s.heap.push (seqObj "list" #[] 0)).update s.heap.objs.size (Obj.mapSeq (· ++vs.toArray))).objs.size=s.heap.objs.size+1:=by rw [Heap.size_update,size_push']
  have o:(((s.heap.push (seqObj "list" #[] 0)).update s.heap.objs.size (Obj.mapSeq (· ++vs.toArray))).push (seqObj "list" vs.toArray 0)).get? (s.heap.objs.size+1)=some (seqObj "list" vs.toArray 0):=by rw [←z];exact Heap.get?_push_size _ rfl
  refine wpAny_bind (wpAny_newList ?_);show wpAny _ _ _ _ _ {s with heap:=((s.heap.push (seqObj "list" #[] 0)).update s.heap.objs.size (Obj.mapSeq (· ++vs.toArray))).push (seqObj "list" vs.toArray 0)}
  rw [z];refine wpAny_bind (wpAny_holding (wpAny_call_entry slot_list_sort ⟨_,o,rfl⟩ entry_list_sort (list_sort_tree o hI h64 fun out ns' b1 b2 b3=>⟨_,rfl,?_⟩) (args_list_sort _)))
  exact wpAny_pure ⟨_,rfl,h out ns' b1 b2 b3⟩
theorem qh:cU X (.builtin "sorted") (fun xs H Q=>∃(a:Addr) (ns:List Int),xs=[.ref a]∧bX X.K H a (ns.map V.int)∧ns.length < 64∧∀(l:Addr) (ns':List Int) (H':Hp),au H H'→H l=none→H' l=some (.lst (ns'.map V.int))→ns'.Perm ns→ns'.Pairwise (· ≤·)→Q (.ref l) H'):=by
  intro pins s σ H xs us Q I r h
  obtain⟨a,ns,rfl,hs,h64,q⟩:=h
  obtain⟨u,rfl,ru⟩:=mS r
  cases ru
  obtain⟨its,rv,p,hz⟩:=I.tuple hs
  have hl:=rv.length
  rw [List.length_map] at hl
  refine sI p (mH rv) (by lia) fun out ns' a1 a2 a3=>?_
  obtain⟨e,he⟩:=sortedAll_at s.heap its out
  have hf:H (s.heap.objs.size+1)=none:=I.hok.fresh (Nat.le_succ _)
  refine⟨.ref (s.heap.objs.size+1),bi H (s.heap.objs.size+1) (.lst (ns'.map V.int)),I.laid (t':=s.toks) (fun _ _=>sortedAll_old) (Nat.le_succ _) ⟨?_,out.toList,e,jf a1,?_⟩,rfl,q _ ns' _ (au.new hf) hf aw a2 a3⟩
  · rw [List.length_map,a2.length_eq]
    exact Nat.le_trans (Nat.le_of_lt h64) (by decide)
  · simpa [seqObj] using he
end
end L2
namespace L2
open PySem PySem.Spec PyProof.Rows
section
variable{X:Cx}
end
theorem ve{e:Expr}{es:List Expr}{env:Env}(h:PySem.W.isStarred e=false):starEach (e::es) env=(false,eval e env)::starEach es env:=by
  cases e<;>first | rfl | cases h
theorem Gd{X:Cx}{e:Expr}{es:List Expr}{te:TE}{t:TA}(ha:PE X e te)(hr:PA X es t)(h:PySem.W.isStarred e=false:=by rfl):PA X (e::es) (lH te t):=jU ha hr (ve h)
def t_:List (Int × Int)→TA
  | []=>zR
  | p::r=>lH (EW (lH (tC (.int p.1)) (lH (tC (.int p.2)) zR))) (t_ r)
@[irreducible] def Gp(ps:List (Int × Int)):TA:=t_ ps
structure md where
  one:Int
  other:Int
  top:Int
  bot:Int
  worth:Int
structure aY where
  things:Int
  ties:List md
  pat:List Int
  asks:Int
structure md.Ok (n:Int) (t:md):Prop where
  o0:0≤t.one
  o1:t.one < t.other
  o2:t.other < n
  c0:0≤t.top
  c1:t.top≤t.bot
  b0:1≤t.bot
  b1:t.bot≤100
  w0:0≤t.worth
  w1:t.worth≤1000
  cop:Int.gcd t.top t.bot=1
structure aY.Ok (w:aY):Prop where
  t0:0≤w.things
  t1:w.things≤12
  ties:∀t∈w.ties,t.Ok w.things
  len:w.ties.length≤16
  pl:(w.pat.length:Int)=w.things
  pat:∀p∈w.pat,0≤p∧p≤20
  a0:0≤w.asks
  a1:w.asks≤40
def Do(K:PySem.W.Frag)(H:Hp)(v:V)(t:md):Prop:=∃p q,v=.ref p∧bX K H p [.int t.one,.int t.other,.ref q,.int t.worth]∧bX K H q [.int t.top,.int t.bot]
inductive o_ (K:PySem.W.Frag) (H:Hp):List V→List md→Prop
  | nil:o_ K H [] []
  | cons {v vs t ts}:Do K H v t→o_ K H vs ts→o_ K H (v::vs) (t::ts)
structure GD (K:PySem.W.Frag) (H:Hp) (v:V) (w:aY):Prop where
  ex:∃a b c ts,v=.ref a∧bX K H a [.int w.things,.ref b,.ref c,.int w.asks]∧bX K H b ts∧o_ K H ts w.ties∧bX K H c (w.pat.map V.int)
section
variable{K:PySem.W.Frag}{H H':Hp}
end
theorem sd{t b:Int}(hb:0 < b)(h0:0≤t)(h1:t≤b)(h2:b≤100):0≤(eR t b).1∧(eR t b).1≤(eR t b).2∧1≤(eR t b).2∧(eR t b).2≤100:=by
  obtain⟨d,e1,e2,e3,e4,e5⟩:=oC (t:=t) (b:=b) (by lia)
  generalize (eR t b).1=x at*
  generalize (eR t b).2=y at*
  have dp:0 < d:=by
    rcases Int.lt_or_gt_of_ne e2 with z | z
    · exfalso
      have:y*d < 0:=Int.mul_neg_of_pos_of_neg e5 z
      lia
    · exact z
  have x0:0≤x:=by
    rcases Int.lt_or_le x 0 with z | z
    · have:x*d < 0:=Int.mul_neg_of_neg_of_pos z dp
      lia
    · exact z
  have xy:x≤y:=by
    rcases Int.lt_or_le y x with z | z
    · have:y*d < x*d:=Int.mul_lt_mul_of_pos_right z dp
      lia
    · exact z
  have yb:y≤y*d:=by
    have:=Int.mul_le_mul_of_nonneg_left (show(1:Int)≤d by lia) (show 0≤y by lia)
    lia
  exact⟨x0,xy,by lia,by lia⟩
end L2
namespace L2
open PySem PySem.Spec PyProof.Rows
inductive lJ {α β:Type} (R:α→β→Prop):List α→List β→Prop
  | nil:lJ R [] []
  | cons {a b as bs}:R a b→lJ R as bs→lJ R (a::as) (b::bs)
namespace lJ
variable{α β:Type}{R S:α→β→Prop}
theorem mono(h:∀a b,R a b→S a b):∀{as:List α} {bs:List β},lJ R as bs→lJ S as bs
  | _,_,.nil=>.nil
  | _,_,.cons x r=>.cons (h _ _ x) (mono h r)
theorem len:∀{as:List α} {bs:List β},lJ R as bs→as.length=bs.length
  | _,_,.nil=>rfl
  | _,_,.cons _ r=>by simp [len r]
theorem snoc{a:α}{b:β}(h:R a b):∀{as:List α} {bs:List β},lJ R as bs→lJ R (as++[a]) (bs++[b])
  | _,_,.nil=>.cons h .nil
  | _,_,.cons x r=>.cons x (snoc h r)
theorem get:∀{as:List α} {bs:List β} {i:Nat} {b:β},lJ R as bs→bs[i]?=some b→∃a,as[i]?=some a∧R a b
  | _,_,_,_,.nil,e=>by simp at e
  | _,_,0,_,.cons x _,e=>by simp at e;subst e;exact⟨_,rfl,x⟩
  | _,_,i+1,b,.cons _ r,e=>by
    obtain⟨v,h1,h2⟩:=get (i:=i) (b:=b) r (by simpa using e)
    exact⟨v,by simpa using h1,h2⟩
end lJ
section
variable{K:PySem.W.Frag}{a l:Addr}{xs:List V}{g:TG}{tc:TT}{te:TE}{Q:VK}{σ:L2.St}{H:Hp}{α β:Type}{us:List α}{cp:List (Nat × Str)}{nT:Nat}
def Fi(a9:Hp→V→β→Prop)(SI:L2.St→Prop)(us:List α)(f:α→Option β)(H:Hp)(l:Addr)(i:Nat)(σ:L2.St)(H':Hp):Prop:=SI σ∧au H H'∧∃vs,H' l=some (.lst vs)∧vs.length≤i∧lJ (a9 H') vs ((us.take i).filterMap f)
end
theorem lG:∀{a b:List Int},a.Perm b→a.Pairwise (· ≤·)→b.Pairwise (· ≤·)→a=b
  | [],b,p,_,_=>by
    have:=p.length_eq
    exact(List.length_eq_zero_iff.mp this.symm).symm
  | x::a,b,p,h1,h2=>by
    cases b with
    | nil=>have:=p.length_eq;simp at this
    | cons y b=>
      have h1':=List.pairwise_cons.mp h1
      have h2':=List.pairwise_cons.mp h2
      have e:x=y:=by
        have m1:y∈x::a:=p.mem_iff.mpr (by simp)
        have m2:x∈y::b:=p.mem_iff.mp (by simp)
        rcases List.mem_cons.mp m1 with z | z
        · exact z.symm
        · rcases List.mem_cons.mp m2 with z2 | z2
          · exact z2
          · have:=h1'.1 y z
            have:=h2'.1 x z2
            lia
      subst e
      rw [lG ((List.perm_cons x).mp p) h1'.2 h2'.2]
def ci(ns:List Int):List Int:=ns.mergeSort
theorem ni{ns ns':List Int}(p:ns'.Perm ns)(h:ns'.Pairwise (· ≤·)):ns'=ci ns:=by
  refine lG (p.trans (List.mergeSort_perm ns _).symm) h ?_
  have:=List.pairwise_mergeSort (le:=fun a b:Int=>decide (a≤b)) (fun a b c h1 h2=>by simp at*;lia) (fun a b=>by simp;lia) ns
  exact this.imp fun h=>by simpa using h
theorem en(ns:List Int):(ci ns).Perm ns:=List.mergeSort_perm ns _
theorem Df{ns:List Int}{x:Int}:x∈ci ns↔ x∈ns:=(en ns).mem_iff
theorem De(ns:List Int):(ci ns).length=ns.length:=(en ns).length_eq
section
variable{X:Cx}{K:PySem.W.Frag}{pos:Pos}
theorem zl{es:List Expr}{k:Nat}{t:yg}{n:Nat}(hK:X.K=K)(hc:X.calm=true)(h:vx X es t)(hn:(assignEach es X.env).length=n:=by rfl)(hst:(assignEach es X.env).findIdx? (·.1)=none:=by rfl):PG X (.Tuple es k pos) (rW K n t):=hK ▸ B_ hc h hn hst
theorem zp{tg l:Expr}{tl:TE}(h:X.K=K)(hl:PE X l tl):PI X tg l (DN K tl):=h ▸ B' hl
theorem xc{tg l:Expr}{tl:TE}(h:X.K=K)(hl:PE X l tl):PI X tg l (Aw K tl):=h ▸ zo hl
end
instance:Inhabited md:=⟨⟨0,1,1,1,0⟩⟩
def aY.tie(W:aY)(k:Int):md:=W.ties.getD k.toNat default
def aY.has(W:aY)(k thing:Int):Bool:=(W.tie k).one==thing || (W.tie k).other==thing
def aY.many(W:aY)(asked:List Int)(thing:Int):Int:=((asked.filter fun k=>W.has k thing).length:Nat)
def aY.bears(W:aY)(asked taken:List Int)(thing:Int):Bool:= !taken.contains thing&&decide (W.many asked thing < W.pat.getD thing.toNat 0)
def aY.may(W:aY)(asked taken:List Int)(k:Int):Bool:= !(asked.contains k || decide (W.asks≤(asked.length:Int)))&&(W.bears asked taken (W.tie k).one&&W.bears asked taken (W.tie k).other)
def aY.askd(asked:List Int)(k:Int):List Int:=ci (asked++[k])
def aY.took(W:aY)(taken:List Int)(k:Int)(truth:Bool):List Int:=if truth then ci (taken++[(W.tie k).one,(W.tie k).other]) else taken
def aY.rng(W:aY):List Int:=(List.range W.ties.length).map Int.ofNat
def aY.can(W:aY)(asked taken:List Int):List Int:=W.rng.filter fun k=>W.may asked taken k
def ka(W:aY)(k:Int):Prop:=0≤k∧k < (W.ties.length:Int)
theorem ka.get{W:aY}{k:Int}(h:ka W k):W.ties[k.toNat]?=some (W.tie k):=by
  have hk:k.toNat < W.ties.length:=by have:=h.1;have:=h.2;lia
  unfold aY.tie
  rw [List.getD_eq_getElem?_getD,List.getElem?_eq_getElem hk];rfl
theorem ka.ok{W:aY}{k:Int}(h:ka W k)(o:W.Ok):(W.tie k).Ok W.things:=o.ties _ (List.mem_of_getElem? h.get)
theorem Fs{W:aY}{k:Int}:k∈W.rng↔ ka W k:=by
  unfold aY.rng ka
  rw [List.mem_map]
  constructor
  · rintro⟨n,hn,rfl⟩
    have:=List.mem_range.mp hn
    exact⟨Int.natCast_nonneg n,by simp;lia⟩
  · rintro⟨h0,h1⟩
    exact⟨k.toNat,List.mem_range.mpr (by lia),by simp;lia⟩
def AV(K:PySem.W.Frag)(H:Hp)(v:V)(asked taken:List Int):Prop:=∃a b c,v=.ref a∧bX K H a [.ref b,.ref c]∧bX K H b (asked.map V.int)∧bX K H c (taken.map V.int)
theorem AV.ts{K:PySem.W.Frag}{H H':Hp}(s:kP H H'){v:V}{asked taken:List Int}(h:AV K H v asked taken):AV K H' v asked taken:=by
  obtain⟨a,b,c,e,h1,h2,h3⟩:=h
  exact⟨a,b,c,e,s.tup h1,s.tup h2,s.tup h3⟩
section
variable{K:PySem.W.Frag}{σ:L2.St}{H:Hp}{Q:VK}{i j:Nat}{vW:V}{W:aY}{k:Int}
end
def small(k:Int):Prop:= -1000000≤k∧k≤1000000
def Dk(n dep:Nat)(d:PyData):Prop:=d.showable=true∧mQ d=true∧L2.cnt d≤n∧d.depth≤dep
theorem Dk.mono{n m dep e:Nat}{d:PyData}(h:Dk n dep d)(h1:n≤m)(h2:dep≤e):Dk m e d:=⟨h.1,h.2.1,Nat.le_trans h.2.2.1 h1,Nat.le_trans h.2.2.2 h2⟩
theorem Dk.int{k:Int}(h:small k):Dk 1 2 (.int k):=by
  refine⟨?_,rfl,Nat.le_refl _,by simp [PyData.depth]⟩
  show decide (k.natAbs.log2 < 1920)=true
  rw [decide_eq_true_eq]
  exact Nat.lt_trans ((show Bt 64 k by have:=h.1;have:=h.2;unfold Bt;lia).log (by decide)) (by decide)
theorem Dk.bool(b:Bool):Dk 1 2 (.bool b):=⟨rfl,rfl,Nat.le_refl _,by simp [PyData.depth]⟩
theorem Dk.none:Dk 1 2 .none:=⟨rfl,rfl,Nat.le_refl _,by simp [PyData.depth]⟩
theorem Dk.all{n dep:Nat}:∀{ds:List PyData},(∀d∈ds,Dk n dep d)→PyData.showableAll ds=true∧gE ds=true∧jv ds≤ds.length*n∧PyData.depthAll ds≤dep
  | [],_=>⟨rfl,rfl,by simp [jv],by simp [PyData.depthAll]⟩
  | d::r,h=>by
    obtain⟨a1,a2,a3,a4⟩:=h d (by simp)
    obtain⟨b1,b2,b3,b4⟩:=Dk.all (ds:=r) fun x hx=>h x (by simp [hx])
    refine⟨?_,?_,?_,?_⟩
    · simp only [PyData.showableAll,a1,b1,Bool.and_self]
    · simp only [gE,a2,b2,Bool.and_self]
    · simp only [jv,List.length_cons,Nat.succ_mul]
      lia
    · simp only [PyData.depthAll];lia
theorem Dk.tup{n dep m:Nat}{ds:List PyData}(h:∀d∈ds,Dk n dep d)(hl:ds.length≤m):Dk (1+m*n) (dep+2) (.tuple ds):=by
  obtain⟨b1,b2,b3,b4⟩:=Dk.all h
  refine⟨b1,b2,?_,?_⟩
  · simp only [L2.cnt]
    have:=Nat.mul_le_mul_right n hl
    lia
  · simp only [PyData.depth];lia
theorem Dk.ok{n dep:Nat}{d:PyData}(h:Dk n dep d)(h1:n≤8000)(h2:dep≤60):d.showable=true∧d.depth≤60∧d.shown.length≤sizeLine:=by
  have:=oT h.2.1 h.1
  have sl:sizeLine=16777216:=sizeLine_eq
  have:=h.2.2.1
  exact⟨h.1,Nat.le_trans h.2.2.2 h2,by lia⟩
theorem Dk.ints{ns:List Int}{m:Nat}(hl:ns.length≤m)(h:∀r∈ns,small r):Dk (1+m) 4 (.tuple (ns.map .int)):=by
  have:=Dk.tup (n:=1) (dep:=2) (m:=m) (ds:=ns.map PyData.int) (fun d hd=>by
    obtain⟨x,hx,rfl⟩:=List.mem_map.mp hd
    exact Dk.int (h x hx)) (by rw [List.length_map];exact hl)
  simpa using this
section
variable{K:PySem.W.Frag}{H:Hp}
theorem Dk.bools{ns:List Bool}{m:Nat}(hl:ns.length≤m):Dk (1+m) 4 (.tuple (ns.map .bool)):=by
  have:=Dk.tup (n:=1) (dep:=2) (m:=m) (ds:=ns.map PyData.bool) (fun d hd=>by
    obtain⟨x,hx,rfl⟩:=List.mem_map.mp hd
    exact Dk.bool x) (by rw [List.length_map];exact hl)
  simpa using this
def cf(t:md):PyData:=.tuple [.int t.one,.int t.other,.tuple [.int t.top,.int t.bot],.int t.worth]
def aP(W:aY):PyData:=.tuple [.int W.things,.tuple (W.ties.map cf),.tuple (W.pat.map .int),.int W.asks]
def eU(asked taken:List Int):PyData:=.tuple [.tuple (asked.map .int),.tuple (taken.map .int)]
end
end L2
namespace L2
open PySem PySem.Spec PyProof.Rows
theorem vK:∀{bs:List Bool} {us:List Value} {i:Nat} {v:Value},aO (bs.map V.bl) us→us[i]?=some v→∃b,bs[i]?=some b∧v=.bool b
  | [],us,i,v,r,e=>by cases r;simp at e
  | b::bs,us,i,v,r,e=>by
    cases r with
    | cons p q=>
      cases i with
      | zero=>simp at e;subst e;cases p;exact⟨b,rfl,rfl⟩
      | succ i=>
        obtain⟨c,h1,h2⟩:=vK (bs:=bs) (i:=i) (v:=v) q (by simpa using e)
        exact⟨c,by simpa using h1,h2⟩
theorem zH(bs:List Bool):((List.range bs.length).all fun i=>(bs[i]?).getD true)=bs.all id:=by
  rw [Bool.eq_iff_iff,List.all_eq_true,List.all_eq_true]
  constructor
  · intro h b hb
    obtain⟨i,hi,rfl⟩:=List.getElem_of_mem hb
    have:=h i (List.mem_range.mpr hi)
    rw [List.getElem?_eq_getElem hi] at this
    exact this
  · intro h i hi
    have hi':=List.mem_range.mp hi
    rw [List.getElem?_eq_getElem hi']
    exact h _ (List.getElem_mem hi')
section
variable{X:Cx}
theorem vQ{k:Nat}{K:PySem.W.Frag}(hr:cO k X.A)(hK:X.K=K):cU X (.builtin "all") (fun xs H Q=>∃(l:Addr) (bs:List Bool),xs=[.ref l]∧cT K H l (bs.map V.bl)∧Q (.bl (bs.all id)) H):=by
  intro pins s σ H xs us Q I r h
  subst hK
  obtain⟨l,bs,rfl,hs,q⟩:=h
  obtain⟨u,rfl,ru⟩:=mS r
  cases ru
  obtain⟨its,rv,p,hz⟩:=I.list hs
  have hl:=p.isList
  have lt:l < s.heap.objs.size:=by obtain⟨_,e,_⟩:=hl;exact Heap.lt_size e
  refine PySem.call_all_walk (wpAny_pyIter_list hl ?_)
  refine⟨s.heap.objs.size,[s.heap.objs.size,l],[s.heap.objs.size],its.toArray.size,_,_,fun i=>(bs[i]?).getD true,rfl,Walks.list (A:=X.A.in1) hr.hd _ l (Nat.ne_of_lt lt) its.toArray,⟨⟨_,Heap.get?_push_size _ rfl,rfl,rfl⟩,hl.push _⟩,fun i v s' Q' E' hP hQ=>?_,fun h' tk hk=>?_⟩
  · obtain⟨b,e,rfl⟩:=vK rv (by simpa using hP)
    simp only [e,Option.getD_some] at hQ
    exact wpAny_truthy_bool hQ
  · have e:its.toArray.size=bs.length:=by have:=rv.length;rw [List.length_map] at this;simpa using this.symm
    rw [e,zH]
    refine⟨.bl (bs.all id),H,I.kept fun b x e=>hk b x (fun hm=>?_) (Heap.get?_push_of_some _ e),rfl,q⟩
    rw [List.mem_singleton.mp hm] at e
    exact Nat.lt_irrefl _ (Heap.lt_size e)
end
end L2
namespace L2
theorem vL:PySem.bootBuiltins "all"=some (.builtin "all"):=by decide+kernel
end L2
namespace L2
open PySem PySem.Spec PyProof.Rows
section
variable{prog:Program}{w:World}{A:Around}{E:Value→Shared→Prop}{s:Shared}
theorem ya{it t:Addr}{i:Nat}{ys}{x:Value}{Q:Value→Shared→Prop}(hi:s.heap.IsTupleIter it t i)(ht:s.heap.IsTuple t ys)(hx:ys[i]?=some x)
    (q:∀g,g.IsTupleIter it t (i+1)→Heap.SameBut it s.heap g→Q x {s with heap:=g}):wpAny (model prog w) A (Builtin.SmallTypes.nextOf (.ref it)) Q E s:=by
  obtain⟨o,ho,hc,hd⟩:=id hi;obtain⟨p,hp,_,n,hpd⟩:=ht;unfold Builtin.SmallTypes.nextOf
  refine wpAny_bind (wpAny_callSpecial?_slot (name:=Str.ofString "__next__") hi.typeIs F.slot_tuple_iterator_next (wpAny_call_entry F.slot_tuple_iterator_next hi.typeIs F.entry_tuple_iterator_next ?_ (F.args_tuple_iterator_next_1 _)))
  show wpAny _ _ (field (.ref it) 0 >>= _) _ _ s;refine wpAny_bind (wpAny_field ho hd (x:=.ref t) rfl ?_)
  show wpAny _ _ (if (Value.ref t==Value.none)=true then _ else _) _ _ s;rw [if_neg (show ¬((Value.ref t==Value.none)=true) from Bool.false_ne_true)]
  show wpAny _ _ (field (.ref it) 1 >>= _) _ _ s;refine wpAny_bind (wpAny_field ho hd (x:=.int i 0) rfl ?_)
  show wpAny _ _ (seqItems? (.ref t) >>= _) _ _ s;refine wpAny_bind (wpAny_seqItems hp hpd ?_)
  simp only [Int.toNat_natCast,hx];refine wpAny_bind (wpAny_setField ho hd (by simp) (wpAny_pure ⟨x,rfl,wpAny_pure (q _ ?_ (Heap.SameBut.update ..))⟩))
  refine⟨_,Heap.get?_update_self _ ho (Obj.isFreed_of_fields (Obj.data_mapFields hd _)),(Obj.cls_mapFields ..).trans hc,?_⟩;rw [Obj.data_mapFields hd];simp [rawInt]
theorem x_{it t:Addr}{i:Nat}{ys}{Q:Value→Shared→Prop}(hh:A.handled=none)(hi:s.heap.IsTupleIter it t i)(ht:s.heap.IsTuple t ys)(hx:ys[i]?=none)
    (q:∀g e,Heap.ExtBut it s.heap g→(∃o,g.get? e=some o∧o.cls=.type "StopIteration")→E (.ref e) {s with heap:=g}):wpAny (model prog w) A (Builtin.SmallTypes.nextOf (.ref it)) Q E s:=by
  obtain⟨o,ho,hc,hd⟩:=id hi;obtain⟨p,hp,_,n,hpd⟩:=ht;unfold Builtin.SmallTypes.nextOf
  refine wpAny_bind (wpAny_callSpecial?_slot (name:=Str.ofString "__next__") hi.typeIs F.slot_tuple_iterator_next (wpAny_call_entry F.slot_tuple_iterator_next hi.typeIs F.entry_tuple_iterator_next ?_ (F.args_tuple_iterator_next_1 _)))
  show wpAny _ _ (field (.ref it) 0 >>= _) _ _ s;refine wpAny_bind (wpAny_field ho hd (x:=.ref t) rfl ?_)
  show wpAny _ _ (if (Value.ref t==Value.none)=true then _ else _) _ _ s;rw [if_neg (show ¬((Value.ref t==Value.none)=true) from Bool.false_ne_true)]
  show wpAny _ _ (field (.ref it) 1 >>= _) _ _ s;refine wpAny_bind (wpAny_field ho hd (x:=.int i 0) rfl ?_)
  show wpAny _ _ (seqItems? (.ref t) >>= _) _ _ s;refine wpAny_bind (wpAny_seqItems hp hpd ?_)
  simp only [Int.toNat_natCast,hx];refine wpAny_bind (wpAny_rule (wpAny_bind (wpAny_setField ho hd (by simp) ?_)))
  show wpAny _ _ (newExc (.type "StopIteration") [] >>= _) _ _ _;refine wpAny_bind ?_;simp only [newExc,newTuple]
  refine wpAny_bind (wpAny_newObj_type ?_ (by size_fits));refine wpAny_bind (m:=firstArgMember _ _) (wpAny_of_eq (a:=Value.none) (by first | rfl | (simp only [firstArgMember];rfl)) ?_)
  refine wpAny_newObj_type ?_ (by size_fits);simp only [raiseNew];refine wpAny_bind (wpAny_handled ?_);first | rw [show A.in1.handled=none from hh] | rw [hh]
  refine wpAny_bind (wpAny_pure (wpAny_throw ?_));exact q _ _ (((Heap.SameBut.update ..).extBut.push _).push _) ⟨_,Heap.get?_push_size _ rfl,rfl⟩
end
structure Sc (prog:Program) (w:World) (it l:Addr) (St:Nat→Heap→Prop) (Sq:Heap→Array Value→Prop):Prop where
  stay:∀{k h h'},St k h→(∀o,h.get? it=some o→h'.get? it=some o)→St k h'
  live:∀{k h},St k h→∃o,h.get? it=some o∧∀v,o.data≠.cell v
  row:∀{h h' xs},Sq h xs→(∀o,h.get? l=some o→h'.get? l=some o)→Sq h' xs
  next:∀{A:Around} {s:Shared} {E:Value→Shared→Prop} {Q:Value→Shared→Prop} {k:Nat} {xs:Array Value} {x:Value},St k s.heap→Sq s.heap xs→xs[k]?=some x→(∀g,St (k+1) g→Heap.SameBut it s.heap g→Q x {s with heap:=g})→wpAny (model prog w) A (Builtin.SmallTypes.nextOf (.ref it)) Q E s
  last:∀{A:Around} {s:Shared} {E:Value→Shared→Prop} {Q:Value→Shared→Prop} {k:Nat} {xs:Array Value},A.handled=none→St k s.heap→Sq s.heap xs→xs[k]?=none→(∀g e,Heap.ExtBut it s.heap g→(∃o,g.get? e=some o∧o.cls=.type "StopIteration")→E (.ref e) {s with heap:=g})→wpAny (model prog w) A (Builtin.SmallTypes.nextOf (.ref it)) Q E s
theorem iW{prog:Program}{w:World}(it l:Addr):Sc prog w it l (fun k h=>h.IsTupleIter it l k) (fun h xs=>h.IsTuple l xs) where
  stay:=fun st k=>st.at fun o e=>k o e
  live:=fun st=>by
    obtain⟨o,e,c,d⟩:=st
    exact⟨o,e,fun v z=>by rw [d] at z;cases z⟩
  row:=fun q k=>by
    obtain⟨o,e,r⟩:=q
    exact⟨o,k o e,r⟩
  next:=fun st sq hx q=>ya st sq hx q
  last:=fun hh st sq hx q=>x_ hh st sq hx q
theorem fZ{prog:Program}{w:World}(it l:Addr):Sc prog w it l (fun k h=>h.IsListIter it l k) (fun h xs=>h.IsList l xs) where
  stay:=fun st k=>st.at fun o e=>k o e
  live:=fun st=>by
    obtain⟨o,e,c,d⟩:=st
    exact⟨o,e,fun v z=>by rw [d] at z;cases z⟩
  row:=fun q k=>by
    obtain⟨o,e,r⟩:=q
    exact⟨o,k o e,r⟩
  next:=fun st sq hx q=>wpAny_nextOf_list_item st sq hx q
  last:=fun hh st sq hx q=>wpAny_nextOf_list_end hh st sq hx q
structure ig (z TI TO i1 i2 l1 l2:Addr):Prop where
  a1:TO≠z
  a2:i1≠z
  a3:i2≠z
  a4:TO≠i1
  a5:TO≠i2
  a6:i1≠i2
  b1:l1≠z
  b2:l1≠TO
  b3:l1≠i1
  b4:l1≠i2
  c1:l2≠z
  c2:l2≠TO
  c3:l2≠i1
  c4:l2≠i2
section
variable{prog:Program}{w:World}{A:Around}{E:Value→Shared→Prop}{s:Shared}{z TI TO i1 i2 l1 l2:Addr}{k:Nat}{xs ys:Array Value}{a b:Value}{S1 S2:Nat→Heap→Prop}{R1 R2:Heap→Array Value→Prop}
theorem C8{x y:Value}{Q:Value→Shared→Prop}(P1:Sc prog w i1 l1 S1 R1)(P2:Sc prog w i2 l2 S2 R2)(D:ig z TI TO i1 i2 l1 l2)(hz:IsZip s.heap z TI TO .none)(hI:IsPair s.heap TI (.ref i1) (.ref i2))(hO:IsPair s.heap TO a b)(u1:S1 k s.heap)(u2:S2 k s.heap)(r1:R1 s.heap xs)(r2:R2 s.heap ys)(hx:xs[k]?=some x)(hy:ys[k]?=some y)
    (q:∀g,IsZip g z TI TO (rawInt s.heap.objs.size)→IsPair g TO x y→S1 (k+1) g→S2 (k+1) g→IsPair g s.heap.objs.size x y→g.objs.size=s.heap.objs.size+1→(∀c o,c≠z→c≠TO→c≠i1→c≠i2→s.heap.get? c=some o→g.get? c=some o)→Q (.ref s.heap.objs.size) {s with heap:=g}):
    wpAny (model prog w) A (Builtin.«zip.__next__» ⟨[.ref z],[]⟩) (fun f s'=>∃v,f=.done (.ret v)∧Q v s') E s:=by
  show wpAny _ _ (field (.ref z) 2 >>= _) _ _ _;refine wpAny_bind (wpAny_field hz rfl (x:=.bool false) rfl ?_)
  show wpAny _ _ (field (.ref z) 3 >>= _) _ _ _;refine wpAny_bind (wpAny_field hz rfl (x:=.ref TI) rfl ?_);refine wpAny_bind (wpAny_seqItems hI rfl ?_)
  show wpAny _ _ (Builtin.SmallTypes.ownedTupleIsFree (.ref z) >>= _) _ _ _;refine wpAny_bind ?_;unfold Builtin.SmallTypes.ownedTupleIsFree
  refine wpAny_bind (wpAny_field hz rfl (x:=.none) rfl (wpAny_pure ?_));simp only [if_true];refine wpAny_bind (wpAny_rule ?_)
  refine wpAny_bind (wpAny_field hz rfl (x:=.ref TO) rfl ?_);refine wpAny_bind (wpAny_setField_rec hz (by simp) fun g1 z1 e1=>?_)
  replace z1:IsZip g1 z TI TO .ellipsis:=z1;refine wpAny_bind ?_;simp only [List.zipIdx_cons,List.zipIdx_nil,List.forIn_cons,List.forIn_nil]
  refine wpAny_bind (wpAny_bind (wpAny_onRaise ?_));show wpAny _ _ (Builtin.SmallTypes.nextOf (.ref i1) >>= _) _ _ _
  refine wpAny_bind (P1.next (P1.stay u1 fun o e=>e1.extBut _ _ D.a2 e) (P1.row r1 fun o e=>e1.extBut _ _ D.b1 e) hx fun g2 v1 e2=>wpAny_pure ?_)
  have O2:IsPair g2 TO a b:=e2.extBut _ _ D.a4 (e1.extBut _ _ D.a1 hO)
  refine wpAny_bind (wpAny_seqItems O2 rfl ?_);refine wpAny_bind (wpAny_updateSeq_pair O2 fun g3 O3 e3=>?_);replace O3:IsPair g3 TO x b:=O3;refine wpAny_bind (wpAny_letGo (wpAny_pure ?_))
  refine wpAny_bind (wpAny_bind (wpAny_onRaise ?_));show wpAny _ _ (Builtin.SmallTypes.nextOf (.ref i2) >>= _) _ _ _
  have up3:∀c o,c≠z→c≠i1→c≠TO→s.heap.get? c=some o→g3.get? c=some o:=fun c o n1 n2 n3 e=>e3.extBut _ _ n3 (e2.extBut _ _ n2 (e1.extBut _ _ n1 e))
  refine wpAny_bind (P2.next (P2.stay u2 fun o e=>up3 _ _ D.a3 D.a6.symm D.a5.symm e) (P2.row r2 fun o e=>up3 _ _ D.c1 D.c3 D.c2 e) hy fun g4 v2 e4=>wpAny_pure ?_)
  have O4:IsPair g4 TO x b:=e4.extBut _ _ D.a5 O3
  refine wpAny_bind (wpAny_seqItems O4 rfl ?_);refine wpAny_bind (wpAny_updateSeq_pair O4 fun g5 O5 e5=>?_);replace O5:IsPair g5 TO x y:=O5;refine wpAny_bind (wpAny_letGo (wpAny_pure (wpAny_pure ?_)))
  refine wpAny_bind (wpAny_seqItems O5 rfl ?_);refine wpAny_bind (wpAny_newTuple ?_)
  have sz:g5.objs.size=s.heap.objs.size:=by rw [e5.1,e4.1,e3.1,e2.1,e1.1]
  have z5:IsZip g5 z TI TO .ellipsis:=e5.extBut _ _ D.a1.symm (e4.extBut _ _ D.a3.symm (e3.extBut _ _ D.a1.symm (e2.extBut _ _ D.a2.symm z1)))
  have k5:∀c o,c≠z→c≠TO→c≠i1→c≠i2→s.heap.get? c=some o→g5.get? c=some o:=fun c o n1 n2 n3 n4 e=>e5.extBut _ _ n2 (e4.extBut _ _ n4 (up3 c o n1 n3 n2 e))
  have w1:S1 (k+1) g5:=P1.stay v1 fun o e=>e5.extBut _ _ D.a4.symm (e4.extBut _ _ D.a6 (e3.extBut _ _ D.a4.symm e))
  have w2:S2 (k+1) g5:=P2.stay v2 fun o e=>e5.extBut _ _ D.a5.symm e
  have lz:z < g5.objs.size:=Heap.lt_size z5
  show wpAny _ _ (Builtin.SmallTypes.ownedTupleHandOut (.ref z) (.ref g5.objs.size) >>= _) _ _ _;refine wpAny_bind ?_;unfold Builtin.SmallTypes.ownedTupleHandOut
  have z6:IsZip (g5.push {cls:=.type "tuple",data:=.seq #[x,y]}) z TI TO .ellipsis:=Heap.get?_push_of_some _ z5
  refine wpAny_bind (wpAny_setField_rec z6 (by simp) fun g7 z7 e7=>?_);replace z7:IsZip g7 z TI TO (rawInt g5.objs.size):=z7
  refine wpAny_setField_rec z7 (by simp) fun g8 z8 e8=>?_;replace z8:IsZip g8 z TI TO (rawInt g5.objs.size):=z8
  have up:∀c o,c≠z→g5.get? c=some o→g8.get? c=some o:=fun c o n e=>e8.extBut _ _ n (e7.extBut _ _ n (Heap.get?_push_of_some _ e))
  have T8:IsPair g8 g5.objs.size x y:=e8.extBut _ _ (Nat.ne_of_gt lz) (e7.extBut _ _ (Nat.ne_of_gt lz) (Heap.get?_push_size _ rfl))
  have n8:g8.objs.size=g5.objs.size+1:=by rw [e8.1,e7.1,Heap.size_push]
  rw [sz] at z8 T8 n8;refine wpAny_pure ⟨_,rfl,?_⟩;show Q (.ref g5.objs.size) _;rw [sz]
  exact q g8 z8 (up _ _ D.a1 O5) (P1.stay w1 fun o e=>up _ o D.a2 e) (P2.stay w2 fun o e=>up _ o D.a3 e) T8 n8 fun c o n1 n2 n3 n4 e=>up c o n1 (k5 c o n1 n2 n3 n4 e)
theorem Ac{Q:Fin→Shared→Prop}(hh:A.handled=none)(P1:Sc prog w i1 l1 S1 R1)(P2:Sc prog w i2 l2 S2 R2)(D:ig z TI TO i1 i2 l1 l2)(hz:IsZip s.heap z TI TO .none)(hI:IsPair s.heap TI (.ref i1) (.ref i2))(hO:IsPair s.heap TO a b)(u1:S1 k s.heap)(u2:S2 k s.heap)(r1:R1 s.heap xs)(r2:R2 s.heap ys)(hn:xs[k]?=none∨ys[k]?=none)
    (q:∀g e,(∀c o,c≠z→c≠TO→c≠i1→c≠i2→s.heap.get? c=some o→g.get? c=some o)→(∃o,g.get? e=some o∧o.cls=.type "StopIteration")→E (.ref e) {s with heap:=g}):
    wpAny (model prog w) A (Builtin.«zip.__next__» ⟨[.ref z],[]⟩) Q E s:=by
  show wpAny _ _ (field (.ref z) 2 >>= _) _ _ _;refine wpAny_bind (wpAny_field hz rfl (x:=.bool false) rfl ?_)
  show wpAny _ _ (field (.ref z) 3 >>= _) _ _ _;refine wpAny_bind (wpAny_field hz rfl (x:=.ref TI) rfl ?_);refine wpAny_bind (wpAny_seqItems hI rfl ?_)
  show wpAny _ _ (Builtin.SmallTypes.ownedTupleIsFree (.ref z) >>= _) _ _ _;refine wpAny_bind ?_;unfold Builtin.SmallTypes.ownedTupleIsFree
  refine wpAny_bind (wpAny_field hz rfl (x:=.none) rfl (wpAny_pure ?_));simp only [if_true];refine wpAny_bind (wpAny_rule ?_)
  refine wpAny_bind (wpAny_field hz rfl (x:=.ref TO) rfl ?_);refine wpAny_bind (wpAny_setField_rec hz (by simp) fun g1 z1 e1=>?_)
  replace z1:IsZip g1 z TI TO .ellipsis:=z1;refine wpAny_bind ?_;simp only [List.zipIdx_cons,List.zipIdx_nil,List.forIn_cons,List.forIn_nil]
  refine wpAny_bind (wpAny_bind (wpAny_onRaise ?_));show wpAny _ _ (Builtin.SmallTypes.nextOf (.ref i1) >>= _) _ _ _
  cases hx:xs[k]? with
  | none=>
    refine wpAny_bind (P1.last hh (P1.stay u1 fun o e=>e1.extBut _ _ D.a2 e) (P1.row r1 fun o e=>e1.extBut _ _ D.b1 e) hx fun g2 e e2 he=>?_)
    obtain⟨oe,h1,h2⟩:=he;have z2:IsZip g2 z TI TO .ellipsis:=e2 _ _ D.a2.symm z1
    have nz:e≠z:=fun x=>by subst x;rw [z2] at h1;cases h1;simp at h2
    refine wpAny_setField_rec z2 (by simp) fun g3 _ e3=>q g3 e (fun c o n1 _ n3 _ x=>e3.extBut _ _ n1 (e2 _ _ n3 (e1.extBut _ _ n1 x))) ⟨oe,e3.extBut _ _ nz h1,h2⟩
  | some x=>
    have hy:ys[k]?=none:=by
      rcases hn with h | h
      · rw [hx] at h;cases h
      · exact h
    refine wpAny_bind (P1.next (P1.stay u1 fun o e=>e1.extBut _ _ D.a2 e) (P1.row r1 fun o e=>e1.extBut _ _ D.b1 e) hx fun g2 v1 e2=>wpAny_pure ?_)
    have O2:IsPair g2 TO a b:=e2.extBut _ _ D.a4 (e1.extBut _ _ D.a1 hO)
    refine wpAny_bind (wpAny_seqItems O2 rfl ?_);refine wpAny_bind (wpAny_updateSeq_pair O2 fun g3 O3 e3=>?_);refine wpAny_bind (wpAny_letGo (wpAny_pure ?_))
    refine wpAny_bind (wpAny_bind (wpAny_onRaise ?_));show wpAny _ _ (Builtin.SmallTypes.nextOf (.ref i2) >>= _) _ _ _
    have up3:∀c o,c≠z→c≠i1→c≠TO→s.heap.get? c=some o→g3.get? c=some o:=fun c o n1 n2 n3 e=>e3.extBut _ _ n3 (e2.extBut _ _ n2 (e1.extBut _ _ n1 e))
    refine wpAny_bind (P2.last hh (P2.stay u2 fun o e=>up3 _ _ D.a3 D.a6.symm D.a5.symm e) (P2.row r2 fun o e=>up3 _ _ D.c1 D.c3 D.c2 e) hy fun g4 e e4 he=>?_)
    obtain⟨oe,h1,h2⟩:=he;have z4:IsZip g4 z TI TO .ellipsis:=e4 _ _ D.a3.symm (e3.extBut _ _ D.a1.symm (e2.extBut _ _ D.a2.symm z1))
    have nz:e≠z:=fun x=>by subst x;rw [z4] at h1;cases h1;simp at h2
    refine wpAny_setField_rec z4 (by simp) fun g5 _ e5=>q g5 e (fun c o n1 n2 n3 n4 x=>e5.extBut _ _ n1 (e4 _ _ n4 (up3 c o n1 n3 n2 x))) ⟨oe,e5.extBut _ _ nz h1,h2⟩
theorem j9{x y:Value}{Q:Option Value→Shared→Prop}(P1:Sc prog w i1 l1 S1 R1)(P2:Sc prog w i2 l2 S2 R2)(D:ig z TI TO i1 i2 l1 l2)(hz:IsZip s.heap z TI TO .none)(hI:IsPair s.heap TI (.ref i1) (.ref i2))(hO:IsPair s.heap TO a b)(u1:S1 k s.heap)(u2:S2 k s.heap)(r1:R1 s.heap xs)(r2:R2 s.heap ys)(hx:xs[k]?=some x)(hy:ys[k]?=some y)
    (q:∀g,IsZip g z TI TO (rawInt s.heap.objs.size)→IsPair g TO x y→S1 (k+1) g→S2 (k+1) g→IsPair g s.heap.objs.size x y→g.objs.size=s.heap.objs.size+1→(∀c o,c≠z→c≠TO→c≠i1→c≠i2→s.heap.get? c=some o→g.get? c=some o)→Q (some (.ref s.heap.objs.size)) {s with heap:=g}):
    wpAny (model prog w) A (pyNext (.ref z)) Q E s:=by
  have hT:s.TypeIs (.ref z) "zip":=⟨_,hz,rfl⟩;unfold pyNext
  refine wpAny_bind (wpAny_attempt (wpAny_callSpecial?_slot (name:=Str.ofString "__next__") hT F.slot_zip_next (wpAny_call_entry F.slot_zip_next hT F.entry_zip_next ?_ (F.args_zip_next_1 _))))
  exact C8 P1 P2 D hz hI hO u1 u2 r1 r2 hx hy fun g b1 b2 b3 b4 b5 b6 b7=>wpAny_pure (q g b1 b2 b3 b4 b5 b6 b7)
theorem j_{Q:Option Value→Shared→Prop}(hh:A.handled=none)(P1:Sc prog w i1 l1 S1 R1)(P2:Sc prog w i2 l2 S2 R2)(D:ig z TI TO i1 i2 l1 l2)(hz:IsZip s.heap z TI TO .none)(hI:IsPair s.heap TI (.ref i1) (.ref i2))(hO:IsPair s.heap TO a b)(u1:S1 k s.heap)(u2:S2 k s.heap)(r1:R1 s.heap xs)(r2:R2 s.heap ys)(hn:xs[k]?=none∨ys[k]?=none)
    (q:∀g,(∀c o,c≠z→c≠TO→c≠i1→c≠i2→s.heap.get? c=some o→g.get? c=some o)→Q none {s with heap:=g}):wpAny (model prog w) A (pyNext (.ref z)) Q E s:=by
  have hT:s.TypeIs (.ref z) "zip":=⟨_,hz,rfl⟩;unfold pyNext
  refine wpAny_bind (wpAny_attempt (wpAny_callSpecial?_slot (name:=Str.ofString "__next__") hT F.slot_zip_next (wpAny_call_entry F.slot_zip_next hT F.entry_zip_next (Ac hh P1 P2 D hz hI hO u1 u2 r1 r2 hn fun g e hk he=>?_) (F.args_zip_next_1 _))))
  obtain⟨o,ho,hc⟩:=he;refine wpAny_bind (wpAny_isInstance (T:="StopIteration") (b:=true) ⟨o,ho,hc⟩ isSubtype_stop ?_);exact wpAny_pure (q _ hk)
end
end L2
namespace L2
open PySem PySem.Spec PyProof.Rows
section
variable{X:Cx}{pins:List (Addr × Obj)}{σ:L2.St}{H:Hp}{s:Shared}{h':Heap}
theorem aA.turnedL{t':Nat}{fp:List Addr}(I:aA X pins σ H s)(hf:∀b∈fp,js X pins H b)(k:∀b o,b∉fp→s.heap.get? b=some o→h'.get? b=some o):aA X pins σ H {s with heap:=h',toks:=t'}:=by
  have hL:X.env.locals∉fp:=fun z=>(hf _ z).2.1 rfl
  have nit:∀b u,H b=some u→b∉fp:=fun b u e z=>by have:=(hf b z).1;rw [this] at e;cases e
  refine I.step (g':=s.gens) (d':=s.drawn) (ch:=fp) (fun b hb=>?_) (fun b o _ _ hc e _=>k b o hc e) (fun b o _ _ hc e _=>⟨o.slots,k b o hc e⟩) (fun _ _ _ _ n=>n) (fun b o hc e=>⟨o,k b o hc e⟩) (fun _ _ e=>e) (fun _ _ _ e=>e) (fun b ps e=>⟨#[],by rw [e];simp⟩) (fun m hm=>?_) (fun b u e=>?_) I.bare
  · obtain⟨f0,f1,f2,f3,f4,f5⟩:=hf b hb
    exact⟨f3,f1,f4,f5⟩
  · obtain⟨o,es,ep,ho,r⟩:=hm
    exact⟨o,es,ep,k _ o hL ho,r⟩
  · refine(I.hok b u e).stay (fun c v hc q=>k c v ?_ q) (fun _ q=>q) fun _ _ q=>q
    rcases hc with z | z
    · rw [z];exact nit b u e
    · exact nit c _ z
theorem aB(I:aA X pins σ H s){b l:Addr}{xs:List V}(f:js X pins H b)(q:bX X.K H l xs):l≠b:=by
  intro z
  subst z
  rcases q with (q | ⟨o,q⟩) | ⟨o,its,n,hk,_⟩
  · rw [f.1] at q;cases q
  · rw [f.1] at q;cases q
  · have hb:X.base.get? l=some o:=I.ok.mod.kin l o hk
    rcases f.2.2.2.1 with z | z
    · exact I.ok.noex l o hb z
    · exact absurd (Nat.lt_of_lt_of_le (Heap.lt_size (I.ok.bs l o hb).1) z) (Nat.lt_irrefl _)
end
def Gw(K:PySem.W.Frag)(l1 l2:Addr):It:=
  ⟨fun i H=>∃xs ys x y,bX K H l1 xs∧bX K H l2 ys∧xs[i]?=some x∧ys[i]?=some y,
   fun i H v H'=>∃p x y,v=.ref p∧H p=none∧H'=bi H p (.tup [x,y])∧∀xs ys,bX K H l1 xs→bX K H l2 ys→xs[i]?=some x∧ys[i]?=some y,
   fun i H=>∃xs ys,bX K H l1 xs∧bX K H l2 ys∧(xs.length≤i∨ys.length≤i)⟩
def AQ(z TI TO i1 i2 l1 l2:Addr)(i:Nat)(h:Heap):Prop:=IsZip h z TI TO .none∧IsPair h TI (.ref i1) (.ref i2)∧(∃a b,IsPair h TO a b)∧h.IsTupleIter i1 l1 i∧h.IsTupleIter i2 l2 i
theorem yc{P:Program}{w:World}{K:PySem.W.Frag}{es:List Expr}{k0:Nat}{pos:Pos}{z TI TO i1 i2:Addr}(l1 l2:Addr)(n1:TO≠z)(n2:i1≠z)(n3:i2≠z)(n4:TO≠i1)(n5:TO≠i2)(n6:i1≠i2)(n7:TI≠z)(n8:TI≠TO)(n9:TI≠i1)(n10:TI≠i2):
    qd P w K (.Tuple es k0 pos) (Gw K l1 l2) [z,TI,TO,i1,i2] z (AQ z TI TO i1 i2 l1 l2) where
  mem:=by simp
  obj:=fun i h st b hb=>by
    obtain⟨hz,hI,⟨a,c,hO⟩,u1,u2⟩:=st
    simp only [List.mem_cons,List.not_mem_nil,or_false] at hb
    rcases hb with rfl | rfl | rfl | rfl | rfl
    · exact⟨_,hz,fun v z=>by cases z⟩
    · exact⟨_,hI,fun v z=>by cases z⟩
    · exact⟨_,hO,fun v z=>by cases z⟩
    · obtain⟨o,e,c,d⟩:=u1
      exact⟨o,e,fun v z=>by rw [d] at z;cases z⟩
    · obtain⟨o,e,c,d⟩:=u2
      exact⟨o,e,fun v z=>by rw [d] at z;cases z⟩
  keep:=fun i h h' st k=>by
    obtain⟨hz,hI,⟨a,c,hO⟩,u1,u2⟩:=st
    exact⟨k _ (by simp) _ hz,k _ (by simp) _ hI,⟨a,c,k _ (by simp) _ hO⟩,u1.at fun o e=>k _ (by simp) o e,u2.at fun o e=>k _ (by simp) o e⟩
  item:=by
    intro X hP hw hK hc i pins s σ H E I hf st hg
    subst hP hw hK
    obtain⟨xs,ys,x,y,q1,q2,hx,hy⟩:=hg
    obtain⟨hz,hI,⟨a,b,hO⟩,u1,u2⟩:=id st
    obtain⟨its1,rv1,p1,z1⟩:=I.tuple q1
    obtain⟨its2,rv2,p2,z2⟩:=I.tuple q2
    obtain⟨ux,hux,rux⟩:=rv1.get hx
    obtain⟨uy,huy,ruy⟩:=rv2.get hy
    have fz:=hf z (by simp);have fO:=hf TO (by simp);have f1:=hf i1 (by simp);have f2:=hf i2 (by simp)
    have D:ig z TI TO i1 i2 l1 l2:=⟨n1,n2,n3,n4,n5,n6,aB I fz q1,aB I fO q1,aB I f1 q1,aB I f2 q1,aB I fz q2,aB I fO q2,aB I f1 q2,aB I f2 q2⟩
    refine j9 (xs:=its1.toArray) (ys:=its2.toArray) (iW i1 l1) (iW i2 l2) D hz hI hO u1 u2 p1 p2 (by simpa using hux) (by simpa using huy) fun g gz gO g1 g2 gT gs gk=>?_
    refine⟨_,rfl,wpAny_letOwnedTupleGo_zip gz fun g' gz' ge=>?_⟩
    have lt:∀b∈[z,TI,TO,i1,i2],b < s.heap.objs.size:=fun b hb=>by
      simp only [List.mem_cons,List.not_mem_nil,or_false] at hb
      rcases hb with rfl | rfl | rfl | rfl | rfl
      · exact Heap.lt_size hz
      · exact Heap.lt_size hI
      · exact Heap.lt_size hO
      · obtain⟨o,e,_⟩:=u1;exact Heap.lt_size e
      · obtain⟨o,e,_⟩:=u2;exact Heap.lt_size e
    have hT:H s.heap.objs.size=none:=I.hok.fresh (Nat.le_refl _)
    have vv:aO [x,y] [ux,uy]:=.cons rux (.cons ruy .nil)
    have I1:aA X pins σ (bi H s.heap.objs.size (.tup [x,y])) {s with heap:=s.heap.push {cls:=.type "tuple",data:=.seq #[ux,uy]},toks:=s.toks}:=
      I.laid (t':=s.toks) (fun b u e=>Heap.get?_push_of_some _ e) (Nat.le_refl _) ⟨(by show 2≤sizeLine;decide),[ux,uy],vv,kd.new _ _⟩
    have hf1:∀b∈[z,TI,TO,i1,i2],js X pins (bi H s.heap.objs.size (.tup [x,y])) b:=fun b hb=>by
      obtain⟨f0,fr⟩:=hf b hb
      exact⟨by rw [aH (Nat.ne_of_lt (lt b hb))];exact f0,fr⟩
    have nzT:s.heap.objs.size≠z:=Nat.ne_of_gt (lt z (by simp))
    have I2:aA X pins σ (bi H s.heap.objs.size (.tup [x,y])) {s with heap:=g',toks:=s.toks}:=by
      refine I1.turnedL (t':=s.toks) hf1 fun b o nb e=>?_
      have nb':b≠z∧b≠TI∧b≠TO∧b≠i1∧b≠i2:=by simpa using nb
      refine ge.extBut _ _ nb'.1 ?_
      rcases Heap.get?_push_cases e with ⟨rfl,rfl⟩ | e
      · exact gT
      · exact gk b o nb'.1 nb'.2.2.1 nb'.2.2.2.1 nb'.2.2.2.2 e
    refine⟨.ref s.heap.objs.size,_,I2,rfl,⟨_,x,y,rfl,hT,rfl,fun xs' ys' w1 w2=>?_⟩,⟨gz',ge.extBut _ _ n7 (gk _ _ n7 n8 n9 n10 hI),⟨ux,uy,ge.extBut _ _ n1 gO⟩,g1.at fun o e=>ge.extBut _ _ n2 e,g2.at fun o e=>ge.extBut _ _ n3 e⟩,fun b hb=>(hf1 b hb).1⟩
    rw [I.tuple_inj w1 q1,I.tuple_inj w2 q2]
    exact⟨hx,hy⟩
  done:=by
    intro X hP hw hK hc i pins s σ H E I hf st hg
    subst hP hw hK
    obtain⟨xs,ys,q1,q2,hn⟩:=hg
    obtain⟨hz,hI,⟨a,b,hO⟩,u1,u2⟩:=id st
    obtain⟨its1,rv1,p1,z1⟩:=I.tuple q1
    obtain⟨its2,rv2,p2,z2⟩:=I.tuple q2
    have fz:=hf z (by simp);have fO:=hf TO (by simp);have f1:=hf i1 (by simp);have f2:=hf i2 (by simp)
    have D:ig z TI TO i1 i2 l1 l2:=⟨n1,n2,n3,n4,n5,n6,aB I fz q1,aB I fO q1,aB I f1 q1,aB I f2 q1,aB I fz q2,aB I fO q2,aB I f1 q2,aB I f2 q2⟩
    have e1:=rv1.length
    have e2:=rv2.length
    refine j_ (xs:=its1.toArray) (ys:=its2.toArray) (I.ok.hd hc) (iW i1 l1) (iW i2 l2) D hz hI hO u1 u2 p1 p2 ?_ fun g gk=>⟨rfl,I.turnedL (t':=s.toks) hf fun b o nb e=>?_⟩
    · rcases hn with hn | hn
      · exact .inl (by simp;lia)
      · exact .inr (by simp;lia)
    · have nb':b≠z∧b≠TI∧b≠TO∧b≠i1∧b≠i2:=by simpa using nb
      exact gk b o nb'.1 nb'.2.2.1 nb'.2.2.2.1 nb'.2.2.2.2 e
  self:=fun A i s Q E st h=>wpAny_pyIter_zip st.1 h
theorem Ad(l1 l2:Addr)(xs ys:Array Value):
    Meets (Builtin.«zip.__new__» ⟨[.type "zip",.ref l1,.ref l2],[]⟩) (fun _ R s=>s.heap.IsTuple l1 xs∧s.heap.IsTuple l2 ys∧
      R (.ok (.ret (.ref (s.heap.objs.size+4)))) {s with heap:=((((s.heap.push {cls:=.type "tuple_iterator",data:=.fields #[.ref l1,.int 0 0]}).push {cls:=.type "tuple_iterator",data:=.fields #[.ref l2,.int 0 0]}).push {cls:=.type "tuple",data:=.seq #[.ref s.heap.objs.size,.ref (s.heap.objs.size+1)]}).push {cls:=.type "tuple",data:=.seq #[.none,.none]}).push {cls:=.type "zip",data:=.fields #[.none,.bool false,.bool false,.ref (s.heap.objs.size+2),.ref (s.heap.objs.size+3)]}}):=
  .of_wp fun prog w A R s h=>by
    obtain⟨hp,g,d,tk,os⟩:=s;obtain⟨t1,t2,h⟩:=h;have sz:=PySem.sub_zip
    have T1:Heap.IsTuple (Shared.heap ⟨hp,g,d,tk,os⟩) l1 xs:=t1
    have T2:Heap.IsTuple (Shared.heap ⟨hp.push {cls:=.type "tuple_iterator",data:=.fields #[.ref l1,.int 0 0]},g,d,tk,os⟩) l2 ys:=Heap.IsTuple.push t2 _
    wp_walk using wpAny_pyIter_tuple T1,wpAny_pyIter_tuple T2
    refine⟨_,rfl,?_⟩
    simp only [Heap.size_push]
    exact h
section
variable{prog:Program}{w:World}{A:Around}{E:Value→Shared→Prop}{s:Shared}
theorem yf{l1 l2:Addr}{xs ys:Array Value}{Q:Value→Shared→Prop}(t1:s.heap.IsTuple l1 xs)(t2:s.heap.IsTuple l2 ys)
    (h:∀g,AQ (s.heap.objs.size+4) (s.heap.objs.size+2) (s.heap.objs.size+3) s.heap.objs.size (s.heap.objs.size+1) l1 l2 0 g→(∀c o,s.heap.get? c=some o→g.get? c=some o)→Q (.ref (s.heap.objs.size+4)) {s with heap:=g}):
    wpAny (model prog w) A (call (.type "zip") [.ref l1,.ref l2]) Q E s:=by
  refine callType_new F.called_zip (by decide) (F.typeCall_zip_2 _ _) (F.newCall_zip_2 _ _) (fun obj=>F.args_object_init_3 obj _ _) F.entry_zip_new (Ad l1 l2 xs ys) ⟨t1,t2,?_⟩
  have at5:∀(g:Heap) (o:Obj) (a:Addr),o.isFreed=false→a=g.objs.size→(g.push o).get? a=some o:=fun g o a hf e=>by rw [e];exact Heap.get?_push_size _ hf
  have g5:=at5 ((((s.heap.push {cls:=.type "tuple_iterator",data:=.fields #[.ref l1,.int 0 0]}).push {cls:=.type "tuple_iterator",data:=.fields #[.ref l2,.int 0 0]}).push {cls:=.type "tuple",data:=.seq #[.ref s.heap.objs.size,.ref (s.heap.objs.size+1)]}).push {cls:=.type "tuple",data:=.seq #[.none,.none]}) {cls:=.type "zip",data:=.fields #[.none,.bool false,.bool false,.ref (s.heap.objs.size+2),.ref (s.heap.objs.size+3)]} (s.heap.objs.size+4) rfl (by simp only [Heap.size_push])
  have g4:=at5 (((s.heap.push {cls:=.type "tuple_iterator",data:=.fields #[.ref l1,.int 0 0]}).push {cls:=.type "tuple_iterator",data:=.fields #[.ref l2,.int 0 0]}).push {cls:=.type "tuple",data:=.seq #[.ref s.heap.objs.size,.ref (s.heap.objs.size+1)]}) {cls:=.type "tuple",data:=.seq #[.none,.none]} (s.heap.objs.size+3) rfl (by simp only [Heap.size_push])
  have g3:=at5 ((s.heap.push {cls:=.type "tuple_iterator",data:=.fields #[.ref l1,.int 0 0]}).push {cls:=.type "tuple_iterator",data:=.fields #[.ref l2,.int 0 0]}) {cls:=.type "tuple",data:=.seq #[.ref s.heap.objs.size,.ref (s.heap.objs.size+1)]} (s.heap.objs.size+2) rfl (by simp only [Heap.size_push])
  have g2:=at5 (s.heap.push {cls:=.type "tuple_iterator",data:=.fields #[.ref l1,.int 0 0]}) {cls:=.type "tuple_iterator",data:=.fields #[.ref l2,.int 0 0]} (s.heap.objs.size+1) rfl (by simp only [Heap.size_push])
  have g1:=at5 s.heap {cls:=.type "tuple_iterator",data:=.fields #[.ref l1,.int 0 0]} s.heap.objs.size rfl rfl
  have up:∀{g:Heap} {a:Addr} {u:Obj} (o:Obj),g.get? a=some u→(g.push o).get? a=some u:=fun o e=>Heap.get?_push_of_some o e
  refine⟨⟨_,g5,rfl⟩,h _ ⟨g5,up _ (up _ g3),⟨_,_,up _ g4⟩,⟨_,up _ (up _ (up _ (up _ g1))),rfl,rfl⟩,⟨_,up _ (up _ (up _ g2)),rfl,rfl⟩⟩ fun c o x=>up _ (up _ (up _ (up _ (up _ x))))⟩
end
theorem jG:PySem.bootBuiltins "zip"=some (.type "zip"):=by decide+kernel
def FY(K:PySem.W.Frag)(ta:TA):TI:=fun σ H R=>ta σ H fun vs H1=>∃a b,vs=[.ref a,.ref b]∧(∃xs,bX K H1 a xs)∧(∃ys,bX K H1 b ys)∧R (Gw K a b) H1
theorem Ca{X:Cx}{K:PySem.W.Frag}{es:List Expr}{k0:Nat}{tp:Pos}{a b:Expr}{ta:TA}{p pos:Pos}(hK:X.K=K)(hg:Gl X "zip")(hm:X.mg "zip"=none)(ha:PA X [a,b] ta)(hs:starEach [a,b] X.env=[(false,eval a X.env),(false,eval b X.env)]:=by rfl)(hs2:starEach [b] X.env=[(false,eval b X.env)]:=by rfl):
    PI X (.Tuple es k0 tp) (.Call (.Name "zip" p) [a,b] [] pos) (FY K ta):=by
  intro pins s σ H R I h
  subst hK
  refine Call_ (gj I hg hm jG (PyProof.Rows.callWith_type1 (cC (ha pos pins s σ H _ I h) fun us s1 ⟨vs,H1,I1,r1,q1⟩=>?_) (by rw [hs,hs2]) (by rw [hs2];rfl)))
  obtain⟨a,b,e,⟨xs,qx⟩,⟨ys,qy⟩,q⟩:=q1
  subst e
  cases r1 with
  | cons r rr=>
    cases rr with
    | cons r' rr=>
      cases rr
      cases r
      cases r'
      obtain⟨i1,v1,p1,_⟩:=I1.tuple qx
      obtain⟨i2,v2,p2,_⟩:=I1.tuple qy
      refine yf p1 p2 fun g st hk=>wpAny_pyIter_zip st.1 ?_
      have I2:aA X pins σ H1 {s1 with heap:=g,toks:=s1.toks}:=I1.kept (t':=s1.toks) fun b o e=>hk b o e
      refine⟨s1.heap.objs.size+4,[s1.heap.objs.size+4,s1.heap.objs.size+2,s1.heap.objs.size+3,s1.heap.objs.size,s1.heap.objs.size+1],_,_,H1,rfl,I2,yc a b (show((s1.heap.objs.size+3:Nat)≠s1.heap.objs.size+4) by lia) (show((s1.heap.objs.size:Nat)≠s1.heap.objs.size+4) by lia) (show((s1.heap.objs.size+1:Nat)≠s1.heap.objs.size+4) by lia) (show((s1.heap.objs.size+3:Nat)≠s1.heap.objs.size) by lia) (show((s1.heap.objs.size+3:Nat)≠s1.heap.objs.size+1) by lia) (show((s1.heap.objs.size:Nat)≠s1.heap.objs.size+1) by lia) (show((s1.heap.objs.size+2:Nat)≠s1.heap.objs.size+4) by lia) (show((s1.heap.objs.size+2:Nat)≠s1.heap.objs.size+3) by lia) (show((s1.heap.objs.size+2:Nat)≠s1.heap.objs.size) by lia) (show((s1.heap.objs.size+2:Nat)≠s1.heap.objs.size+1) by lia),st,fun c hc=>?_,q⟩
      have le:s1.heap.objs.size≤c:=by
        simp only [List.mem_cons,List.not_mem_nil,or_false] at hc
        rcases hc with rfl | rfl | rfl | rfl | rfl
        · exact Nat.le_add_right _ 4
        · exact Nat.le_add_right _ 2
        · exact Nat.le_add_right _ 3
        · exact Nat.le_refl _
        · exact Nat.le_add_right _ 1
      have f:=I1.fpOk (H':=H1) le (I1.hok.fresh le)
      exact f
end L2
namespace L2
open PySem PySem.Spec PyProof.Rows
def AS(h:Heap)(z TI TO:Addr)(a:Addr)(f:Bool):Prop:=h.get? z=some {cls:=.type "zip",data:=.fields #[rawInt a,.bool f,.bool false,.ref TI,.ref TO]}
section
variable{prog:Program}{w:World}{A:Around}{E:Value→Shared→Prop}{s:Shared}{z TI TO i1 i2 l1 l2:Addr}{k:Nat}{xs ys:Array Value}{a:Addr}{f:Bool}{S1 S2:Nat→Heap→Prop}{R1 R2:Heap→Array Value→Prop}
end
end L2
namespace L2
open PySem PySem.Spec PyProof.Rows
structure ZL (S z TI TO i1 i2 l1 l2:Addr) (xs ys:Array Value) (i:Nat) (h:Heap):Prop where
  pr:IsPair h TI (.ref i1) (.ref i2)
  t1:h.IsTupleIter i1 l1 i
  t2:h.IsTupleIter i2 l2 i
  s1:h.IsTuple l1 xs
  s2:h.IsTuple l2 ys
  ot:∃o,h.get? TO=some o
  zs:(IsZip h z TI TO .none∧∃a b,IsPair h TO a b)∨∃a f oa,AS h z TI TO a f∧h.get? a=some oa∧a≠S∧a≠z∧a≠i1∧a≠i2
structure Gv (S z TO i1 i2:Addr) (xs ys:Array Value) (h:Heap) (acc:Array Value) (i:Nat):Prop where
  sz:acc.size=i
  at_:∀(j:Nat) (v:Value),acc[j]?=some v→∃(p:Addr) (x y:Value),v=.ref p∧xs[j]?=some x∧ys[j]?=some y∧IsPair h p x y∧p≠S∧p≠z∧p≠TO∧p≠i1∧p≠i2
  lo:∀(j:Nat) (p:Addr),acc[j]?=some (.ref p)→S < p
  G2:∀(i j:Nat) (p q:Addr),i < j→acc[i]?=some (.ref p)→acc[j]?=some (.ref q)→p < q
section
variable{prog:Program}{w:World}{A:Around}{R:Result→Shared→Prop}{S z TI TO i1 i2 l1 l2:Addr}{xs ys:Array Value}{n:Nat}
end
end L2
namespace L2
open PySem PySem.Spec PyProof.Rows
section
variable{X:Cx}{pins:List (Addr × Obj)}{σ:L2.St}{H H':Hp}{s:Shared}{h':Heap}
end
end L2
namespace L2
open PySem PySem.Spec PyProof.Rows
section
variable{prog:Program}{w:World}{A:Around}{E:Value→Shared→Prop}{s:Shared}{e it l:Addr}{k:Nat}{xs:Array Value}{S:Nat→Heap→Prop}{R:Heap→Array Value→Prop}
end
section
variable{X:Cx}{pins:List (Addr × Obj)}{σ:L2.St}{H:Hp}{s:Shared}
theorem ar(I:aA X pins σ H s){b l:Addr}{xs:List V}(f:js X pins H b)(q:cT X.K H l xs):l≠b:=by
  intro z
  subst z
  rcases q with (q | ⟨o,q⟩) | ⟨o,its,n,hk,_⟩
  · rw [f.1] at q;cases q
  · rw [f.1] at q;cases q
  · have hb:X.base.get? l=some o:=I.ok.mod.kin l o hk
    rcases f.2.2.2.1 with z | z
    · exact I.ok.noex l o hb z
    · exact absurd (Nat.lt_of_lt_of_le (Heap.lt_size (I.ok.bs l o hb).1) z) (Nat.lt_irrefl _)
end
end L2
namespace L2
open PySem PySem.Spec PyProof.Rows
theorem ud:∀(us:List Value) (f:Nat→Int),(∀(j:Nat) (v:Value),us[j]?=some v→∃t,v=Value.int (f j) t)→aO ((List.range us.length).map fun j=>V.int (f j)) us
  | [],_,_=>.nil
  | u::us,f,h=>by
    rw [List.length_cons,List.range_succ_eq_map,List.map_cons,List.map_map]
    refine .cons (h 0 u rfl) (ud us (fun j=>f (j+1)) fun j v e=>h (j+1) v (by simpa using e))
def mZ(n:Nat):List Int:=(List.range n).map Int.ofNat
theorem rc(n:Nat):(mZ n).length=n:=by simp [mZ]
section
variable{X:Cx}{a:Expr}{ta:TA}{p p2 pos pos2:Pos}
theorem wa(hg:Gl X "range")(hm:X.mg "range"=none)(ha:PA X [a] ta)(hs:starEach [a] X.env=[(false,eval a X.env)]){pins:List (Addr × Obj)}{s:Shared}{σ:L2.St}{H:Hp}{R:Int→Hp→Prop}(I:aA X pins σ H s)(h:ta σ H fun vs H1=>∃j:Int,vs=[.int j]∧R j H1):
    wpAny (model X.prog X.w) X.A (eval (.Call (.Name "range" p) [a] [] pos) X.env) (fun v s1=>∃(r:Addr) (j:Int) (H1:Hp) (t u w:Tok),v=.ref r∧IsRange s1.heap r 0 j 1 t u w∧r < s1.heap.objs.size∧aA X pins σ H1 s1∧R j H1) X.xe s:=by
  refine Call_ (gj I hg hm boot_range (PyProof.Rows.callWith_type1 (cC (ha pos pins s σ H _ I h) fun us s1 ⟨vs,H1,I1,r1,q1⟩=>?_) hs rfl))
  obtain⟨j,e,q⟩:=q1
  subst e
  cases r1 with
  | cons r rr=>
    cases rr
    obtain⟨t,rfl⟩:=r
    exact call_range_1 ⟨_,j,H1,_,_,_,rfl,IsRange.new ..,by simp [Heap.size_push],I1.kept fun b o e=>Heap.get?_push_of_some _ e,q⟩
end
end L2
namespace L2
open PySem PySem.Spec PyProof.Rows
theorem uM:fillsNumberSlot (.type "tuple") "mul"=pure false:=
  PySem.fillsNumberSlot_seq (id:="tuple.__mul__") (r:=some (.builtin "tuple.__rmul__")) F.slot_tuple_mul.lookup (by decide+kernel) F.slot_tuple_rmul.lookup (by decide+kernel)
theorem CB:seqRepeat? (.type "tuple")=pure (some (.builtin "tuple.__mul__")):=by
  unfold seqRepeat?;rw [PySem.seqSlot_of (T:="tuple") (name:="__mul__") (id:="tuple.__mul__") F.slot_tuple_mul.lookup (by decide+kernel),PySem.seqSlot_of (T:="tuple") (name:="__rmul__") (id:="tuple.__rmul__") F.slot_tuple_rmul.lookup (by decide+kernel)];rfl
theorem zG(a:Int)(t:Tok)(l:Addr)(items:Array Value)(n:Nat)(dd:Option Addr)(sl:Array (Option Value)):
    Meets (Builtin.«int.__rmul__» ⟨[.int a t,.ref l],[]⟩) (fun _ R s=>s.heap.get? l=some {cls:=.type "tuple",dict:=dd,data:=.seq items n,slots:=sl}∧R (.ok (.ret Value.notImplemented)) s):=
  .of_wp fun prog w A R s h=>by obtain⟨hp,g,d,tk,os⟩:=s;obtain⟨hl,h⟩:=h;wp_walk;exact⟨_,rfl,h⟩
theorem BA(l:Addr)(x:Value)(n:Nat)(k:Int)(u:Tok)(dd:Option Addr)(sl:Array (Option Value))(h0:2≤k)(h1:k≤100000):
    Meets (Builtin.«tuple.__mul__» ⟨[.ref l,.int k u],[]⟩) (fun _ R s=>s.heap.get? l=some {cls:=.type "tuple",dict:=dd,data:=.seq #[x] n,slots:=sl}∧
      R (.ok (.ret (.ref s.heap.objs.size))) {s with heap:=s.heap.push {cls:=.type "tuple",data:=.seq (List.replicate k.toNat x).toArray}}):=
  .of_wp fun prog w A R s h=>by
    obtain⟨hp,g,d,tk,os⟩:=s;obtain⟨hl,h⟩:=h
    have f1:=AutoSeq1.idx_int
    have c1:¬(decide (k < -(2 ^ 63)) || decide (k≥2 ^ 63))=true:=by simp;lia
    have c2:¬((#[x]:Array Value).isEmpty || k==1)=true:=by simp;lia
    have c3:¬(decide (k≤0) || (#[x]:Array Value).isEmpty)=true:=by simp;lia
    have c4:¬(((#[x]:Array Value).size:Int)*k > (2 ^ 63 - 1) / 8):=by simp;lia
    have c5:¬Builtin.Tuple.tupleTooMany (((#[x]:Array Value).size:Int)*k)=true:=by
      unfold Builtin.Tuple.tupleTooMany;rw [sizeLine_eq];simp;lia
    wp_walk using wpAny_loadPart' hl
    rw [if_neg c1]
    wp_walk using wpAny_loadPart' hl
    rw [if_neg c2]
    wp_walk using wpAny_loadPart' hl
    rw [if_neg c3]
    wp_walk using wpAny_loadPart' hl
    rw [if_neg c4]
    show wpAny _ _ (if Builtin.Tuple.tupleTooMany (((#[x]:Array Value).size:Int)*k)=true then _ else _) _ _ _
    rw [if_neg c5]
    have f0:∀(m:Nat) (acc:Array Value),List.foldl (fun x1 x2=>x1++x2) acc (List.replicate m #[x])=acc++(List.replicate m x).toArray:=by
      intro m
      induction m with
      | zero=>intro acc;simp
      | succ m ih=>intro acc;rw [List.replicate_succ,List.foldl_cons,ih,List.replicate_succ];apply Array.toList_inj.mp;simp
    have e:List.foldl (fun x1 x2=>x1++x2) #[] (List.replicate k.toNat #[x])=(List.replicate k.toNat x).toArray:=by rw [f0];simp
    show wpAny _ _ (Builtin.Tuple.tupleExact (List.foldl (fun x1 x2=>x1++x2) #[] (List.replicate k.toNat #[x])) >>= fun v=>ret v) _ _ _
    rw [e]
    unfold Builtin.Tuple.tupleExact
    refine wpAny_bind (wpAny_newObj_type ?_ (by show(List.replicate k.toNat x).toArray.size≤sizeLine;rw [List.size_toArray,List.length_replicate,sizeLine_eq];lia))
    exact wpAny_pure ⟨_,rfl,h⟩
theorem yQ(l:Addr)(x:Value)(n:Nat)(u:Tok)(dd:Option Addr)(sl:Array (Option Value)):
    Meets (Builtin.«tuple.__mul__» ⟨[.ref l,.int 0 u],[]⟩) (fun _ R s=>s.heap.get? l=some {cls:=.type "tuple",dict:=dd,data:=.seq #[x] n,slots:=sl}∧R (.ok (.ret (.ref s.heap.objs.size))) {s with heap:=s.heap.push {cls:=.type "tuple",data:=.seq #[]}}):=
  .of_wp fun prog w A R s h=>by
    obtain⟨hp,g,d,tk,os⟩:=s;obtain⟨hl,h⟩:=h;have f1:=AutoSeq1.idx_int
    have c2:¬((#[x]:Array Value).isEmpty || (0:Int)==1)=true:=by simp
    wp_walk using wpAny_loadPart' hl
    first | rw [if_neg c2] | skip
    wp_walk using wpAny_loadPart' hl
    exact⟨_,rfl,h⟩
theorem yR(l:Addr)(x:Value)(n:Nat)(u:Tok)(dd:Option Addr)(sl:Array (Option Value)):
    Meets (Builtin.«tuple.__mul__» ⟨[.ref l,.int 1 u],[]⟩) (fun _ R s=>s.heap.get? l=some {cls:=.type "tuple",dict:=dd,data:=.seq #[x] n,slots:=sl}∧R (.ok (.ret (.ref l))) s):=
  .of_wp fun prog w A R s h=>by
    obtain⟨hp,g,d,tk,os⟩:=s;obtain⟨hl,h⟩:=h;have f1:=AutoSeq1.idx_int
    wp_walk using wpAny_loadPart' hl
    exact⟨_,rfl,h⟩
section
variable{X:Cx}
def xD(K:PySem.W.Frag):R2:=fun x y H Q=>∃a k v,x=.ref a∧y=.int k∧bX K H a [v]∧0≤k∧k≤100000∧∀p H',au H H'→bX K H' p (List.replicate k.toNat v)→Q (.ref p) H'
theorem za:eW X (binaryOp .Mult) (xD X.K):=by
  intro pins s σ H x y v u Q I rx ry h
  obtain⟨a,k,z,rfl,rfl,ha,k0,k1,q⟩:=h
  cases rx
  obtain⟨t,rfl⟩:=ry
  obtain⟨its,r,p,hz⟩:=I.tuple ha
  obtain⟨uz,rfl,rz⟩:=mS r
  obtain⟨⟨cls,dd,data,sl⟩,ho,hc,n,hd⟩:=id p
  simp only at hc hd
  subst hc hd
  refine wpAny_binaryOp_repeat_ref (T:="tuple") (U:="int") (by decide) ⟨_,ho,rfl⟩ (fun s'=>PySem.typeIs_int s' k t) uM F.fills_int_mul F.slot_int_rmul CB F.slot_int_index.lookup (call_meets F.slot_int_rmul (PySem.typeIs_int s k t) F.entry_int_rmul (F.args_int_rmul_2 _ _) (zG k t a #[uz] n dd sl) ⟨ho,rfl,⟨_,ho,rfl⟩,?_⟩)
  have new:∀m:Nat,m=k.toNat→EP X pins σ Q (.ref s.heap.objs.size) {s with heap:=s.heap.push {cls:=.type "tuple",data:=.seq (List.replicate m uz).toArray},toks:=s.toks}:=fun m hm=>by
    have hf:H s.heap.objs.size=none:=I.hok.fresh (Nat.le_refl _)
    have vv:∀j:Nat,aO (List.replicate j z) (List.replicate j uz):=fun j=>by
      induction j with
      | zero=>exact .nil
      | succ j ih=>exact .cons rz ih
    refine⟨.ref s.heap.objs.size,_,I.laid (t':=s.toks) (o:=.tup (List.replicate m z)) (fun b ob q=>Heap.get?_push_of_some _ q) (Nat.le_refl _) ⟨by rw [List.length_replicate,sizeLine_eq];lia,_,vv m,kd.new _ _⟩,rfl,q _ _ (au.new hf) (bX.of (by rw [aw,hm]))⟩
  rcases(by lia:k=0∨k=1∨2≤k) with e | e | e
  · subst e
    exact call_meets F.slot_tuple_mul ⟨_,ho,rfl⟩ F.entry_tuple_mul (F.args_tuple_mul_2 _ _) (yQ a uz n t dd sl) ⟨ho,new 0 rfl⟩
  · subst e
    exact call_meets F.slot_tuple_mul ⟨_,ho,rfl⟩ F.entry_tuple_mul (F.args_tuple_mul_2 _ _) (yR a uz n t dd sl) ⟨ho,⟨.ref a,H,I,rfl,q a H (au.refl H) ha⟩⟩
  · exact call_meets F.slot_tuple_mul ⟨_,ho,rfl⟩ F.entry_tuple_mul (F.args_tuple_mul_2 _ _) (BA a uz n k t dd sl e k1) ⟨ho,new _ rfl⟩
end
end L2
namespace L2
open PySem PySem.Spec PyProof.Rows
section
variable{prog:Program}{w:World}{A:Around}{E:Value→Shared→Prop}{s:Shared}
end
section
variable{X:Cx}{a:Expr}{ta:TA}{p p2 p3 pos pos2 pos3:Pos}
end
end L2
namespace L2
open PySem PySem.Spec PyProof.Rows
section
variable{prog:Program}{w:World}{A:Around}{E:Value→Shared→Prop}{s:Shared}
end
section
variable{X:Cx}{K:PySem.W.Frag}{es:List Expr}{k0:Nat}{tp:Pos}{a:Expr}{ta:TA}{p pos:Pos}
end
end L2
namespace L2
open PySem PySem.Spec PyProof.Rows
theorem uS{X:Cx}:eW X (compareOp .IsNot) (fun x y H Q=>∃b c,x=.bl b∧y=.bl c∧Q (.bl (!(b==c))) H):=by
  intro pins s σ H x y v u Q I rx ry h
  obtain⟨b,c,rfl,rfl,q⟩:=h
  cases rx;cases ry
  refine wpAny_isNot_plain (by cases b<;>cases c<;>rfl) ⟨.bl (!(b==c)),H,I,?_,q⟩
  show Value.bool _=Value.bool _
  cases b<;>cases c<;>rfl
def Ai(K:PySem.W.Frag)(l1 l2:Addr):It:=
  ⟨fun i H=>∃xs ys x y,cT K H l1 xs∧bX K H l2 ys∧xs[i]?=some x∧ys[i]?=some y,
   fun i H v H'=>∃p x y,v=.ref p∧H p=none∧H'=bi H p (.tup [x,y])∧∀xs ys,cT K H l1 xs→bX K H l2 ys→xs[i]?=some x∧ys[i]?=some y,
   fun i H=>∃xs ys,cT K H l1 xs∧bX K H l2 ys∧(xs.length≤i∨ys.length≤i)⟩
def uf(z TI TO i1 i2 l1 l2:Addr)(i:Nat)(h:Heap):Prop:=IsZip h z TI TO .none∧IsPair h TI (.ref i1) (.ref i2)∧(∃a b,IsPair h TO a b)∧h.IsListIter i1 l1 i∧h.IsTupleIter i2 l2 i
theorem sO{P:Program}{w:World}{K:PySem.W.Frag}{es:List Expr}{k0:Nat}{pos:Pos}{z TI TO i1 i2:Addr}(l1 l2:Addr)(n1:TO≠z)(n2:i1≠z)(n3:i2≠z)(n4:TO≠i1)(n5:TO≠i2)(n6:i1≠i2)(n7:TI≠z)(n8:TI≠TO)(n9:TI≠i1)(n10:TI≠i2):
    qd P w K (.Tuple es k0 pos) (Ai K l1 l2) [z,TI,TO,i1,i2] z (uf z TI TO i1 i2 l1 l2) where
  mem:=by simp
  obj:=fun i h st b hb=>by
    obtain⟨hz,hI,⟨a,c,hO⟩,u1,u2⟩:=st
    simp only [List.mem_cons,List.not_mem_nil,or_false] at hb
    rcases hb with rfl | rfl | rfl | rfl | rfl
    · exact⟨_,hz,fun v z=>by cases z⟩
    · exact⟨_,hI,fun v z=>by cases z⟩
    · exact⟨_,hO,fun v z=>by cases z⟩
    · obtain⟨o,e,c,d⟩:=u1
      exact⟨o,e,fun v z=>by rw [d] at z;cases z⟩
    · obtain⟨o,e,c,d⟩:=u2
      exact⟨o,e,fun v z=>by rw [d] at z;cases z⟩
  keep:=fun i h h' st k=>by
    obtain⟨hz,hI,⟨a,c,hO⟩,u1,u2⟩:=st
    exact⟨k _ (by simp) _ hz,k _ (by simp) _ hI,⟨a,c,k _ (by simp) _ hO⟩,u1.at fun o e=>k _ (by simp) o e,u2.at fun o e=>k _ (by simp) o e⟩
  item:=by
    intro X hP hw hK hc i pins s σ H E I hf st hg
    subst hP hw hK
    obtain⟨xs,ys,x,y,q1,q2,hx,hy⟩:=hg
    obtain⟨hz,hI,⟨a,b,hO⟩,u1,u2⟩:=id st
    obtain⟨its1,rv1,p1,z1⟩:=I.list q1
    obtain⟨its2,rv2,p2,z2⟩:=I.tuple q2
    obtain⟨ux,hux,rux⟩:=rv1.get hx
    obtain⟨uy,huy,ruy⟩:=rv2.get hy
    have fz:=hf z (by simp);have fO:=hf TO (by simp);have f1:=hf i1 (by simp);have f2:=hf i2 (by simp)
    have D:ig z TI TO i1 i2 l1 l2:=⟨n1,n2,n3,n4,n5,n6,ar I fz q1,ar I fO q1,ar I f1 q1,ar I f2 q1,aB I fz q2,aB I fO q2,aB I f1 q2,aB I f2 q2⟩
    refine j9 (xs:=its1.toArray) (ys:=its2.toArray) (fZ i1 l1) (iW i2 l2) D hz hI hO u1 u2 p1.isList p2 (by simpa using hux) (by simpa using huy) fun g gz gO g1 g2 gT gs gk=>?_
    refine⟨_,rfl,wpAny_letOwnedTupleGo_zip gz fun g' gz' ge=>?_⟩
    have lt:∀b∈[z,TI,TO,i1,i2],b < s.heap.objs.size:=fun b hb=>by
      simp only [List.mem_cons,List.not_mem_nil,or_false] at hb
      rcases hb with rfl | rfl | rfl | rfl | rfl
      · exact Heap.lt_size hz
      · exact Heap.lt_size hI
      · exact Heap.lt_size hO
      · obtain⟨o,e,_⟩:=u1;exact Heap.lt_size e
      · obtain⟨o,e,_⟩:=u2;exact Heap.lt_size e
    have hT:H s.heap.objs.size=none:=I.hok.fresh (Nat.le_refl _)
    have vv:aO [x,y] [ux,uy]:=.cons rux (.cons ruy .nil)
    have I1:aA X pins σ (bi H s.heap.objs.size (.tup [x,y])) {s with heap:=s.heap.push {cls:=.type "tuple",data:=.seq #[ux,uy]},toks:=s.toks}:=
      I.laid (t':=s.toks) (fun b u e=>Heap.get?_push_of_some _ e) (Nat.le_refl _) ⟨(by show 2≤sizeLine;decide),[ux,uy],vv,kd.new _ _⟩
    have hf1:∀b∈[z,TI,TO,i1,i2],js X pins (bi H s.heap.objs.size (.tup [x,y])) b:=fun b hb=>by
      obtain⟨f0,fr⟩:=hf b hb
      exact⟨by rw [aH (Nat.ne_of_lt (lt b hb))];exact f0,fr⟩
    have nzT:s.heap.objs.size≠z:=Nat.ne_of_gt (lt z (by simp))
    have I2:aA X pins σ (bi H s.heap.objs.size (.tup [x,y])) {s with heap:=g',toks:=s.toks}:=by
      refine I1.turnedL (t':=s.toks) hf1 fun b o nb e=>?_
      have nb':b≠z∧b≠TI∧b≠TO∧b≠i1∧b≠i2:=by simpa using nb
      refine ge.extBut _ _ nb'.1 ?_
      rcases Heap.get?_push_cases e with ⟨rfl,rfl⟩ | e
      · exact gT
      · exact gk b o nb'.1 nb'.2.2.1 nb'.2.2.2.1 nb'.2.2.2.2 e
    refine⟨.ref s.heap.objs.size,_,I2,rfl,⟨_,x,y,rfl,hT,rfl,fun xs' ys' w1 w2=>?_⟩,⟨gz',ge.extBut _ _ n7 (gk _ _ n7 n8 n9 n10 hI),⟨ux,uy,ge.extBut _ _ n1 gO⟩,g1.at fun o e=>ge.extBut _ _ n2 e,g2.at fun o e=>ge.extBut _ _ n3 e⟩,fun b hb=>(hf1 b hb).1⟩
    rw [I.list_inj w1 q1,I.tuple_inj w2 q2]
    exact⟨hx,hy⟩
  done:=by
    intro X hP hw hK hc i pins s σ H E I hf st hg
    subst hP hw hK
    obtain⟨xs,ys,q1,q2,hn⟩:=hg
    obtain⟨hz,hI,⟨a,b,hO⟩,u1,u2⟩:=id st
    obtain⟨its1,rv1,p1,z1⟩:=I.list q1
    obtain⟨its2,rv2,p2,z2⟩:=I.tuple q2
    have fz:=hf z (by simp);have fO:=hf TO (by simp);have f1:=hf i1 (by simp);have f2:=hf i2 (by simp)
    have D:ig z TI TO i1 i2 l1 l2:=⟨n1,n2,n3,n4,n5,n6,ar I fz q1,ar I fO q1,ar I f1 q1,ar I f2 q1,aB I fz q2,aB I fO q2,aB I f1 q2,aB I f2 q2⟩
    have e1:=rv1.length
    have e2:=rv2.length
    refine j_ (xs:=its1.toArray) (ys:=its2.toArray) (I.ok.hd hc) (fZ i1 l1) (iW i2 l2) D hz hI hO u1 u2 p1.isList p2 ?_ fun g gk=>⟨rfl,I.turnedL (t':=s.toks) hf fun b o nb e=>?_⟩
    · rcases hn with hn | hn
      · exact .inl (by simp;lia)
      · exact .inr (by simp;lia)
    · have nb':b≠z∧b≠TI∧b≠TO∧b≠i1∧b≠i2:=by simpa using nb
      exact gk b o nb'.1 nb'.2.2.1 nb'.2.2.2.1 nb'.2.2.2.2 e
  self:=fun A i s Q E st h=>wpAny_pyIter_zip st.1 h
theorem vt(l1 l2:Addr)(xs ys:Array Value):
    Meets (Builtin.«zip.__new__» ⟨[.type "zip",.ref l1,.ref l2],[]⟩) (fun _ R s=>s.heap.IsList l1 xs∧s.heap.IsTuple l2 ys∧
      R (.ok (.ret (.ref (s.heap.objs.size+4)))) {s with heap:=((((s.heap.push {cls:=.type "list_iterator",data:=.fields #[.ref l1,.int 0 0]}).push {cls:=.type "tuple_iterator",data:=.fields #[.ref l2,.int 0 0]}).push {cls:=.type "tuple",data:=.seq #[.ref s.heap.objs.size,.ref (s.heap.objs.size+1)]}).push {cls:=.type "tuple",data:=.seq #[.none,.none]}).push {cls:=.type "zip",data:=.fields #[.none,.bool false,.bool false,.ref (s.heap.objs.size+2),.ref (s.heap.objs.size+3)]}}):=
  .of_wp fun prog w A R s h=>by
    obtain⟨hp,g,d,tk,os⟩:=s;obtain⟨t1,t2,h⟩:=h;have sz:=PySem.sub_zip
    have T1:Heap.IsList (Shared.heap ⟨hp,g,d,tk,os⟩) l1 xs:=t1
    have T2:Heap.IsTuple (Shared.heap ⟨hp.push {cls:=.type "list_iterator",data:=.fields #[.ref l1,.int 0 0]},g,d,tk,os⟩) l2 ys:=Heap.IsTuple.push t2 _
    wp_walk using wpAny_pyIter_list T1,wpAny_pyIter_tuple T2
    refine⟨_,rfl,?_⟩
    simp only [Heap.size_push]
    exact h
section
variable{prog:Program}{w:World}{A:Around}{E:Value→Shared→Prop}{s:Shared}
theorem sS{l1 l2:Addr}{xs ys:Array Value}{Q:Value→Shared→Prop}(t1:s.heap.IsList l1 xs)(t2:s.heap.IsTuple l2 ys)
    (h:∀g,uf (s.heap.objs.size+4) (s.heap.objs.size+2) (s.heap.objs.size+3) s.heap.objs.size (s.heap.objs.size+1) l1 l2 0 g→(∀c o,s.heap.get? c=some o→g.get? c=some o)→Q (.ref (s.heap.objs.size+4)) {s with heap:=g}):
    wpAny (model prog w) A (call (.type "zip") [.ref l1,.ref l2]) Q E s:=by
  refine callType_new F.called_zip (by decide) (F.typeCall_zip_2 _ _) (F.newCall_zip_2 _ _) (fun obj=>F.args_object_init_3 obj _ _) F.entry_zip_new (vt l1 l2 xs ys) ⟨t1,t2,?_⟩
  have at5:∀(g:Heap) (o:Obj) (a:Addr),o.isFreed=false→a=g.objs.size→(g.push o).get? a=some o:=fun g o a hf e=>by rw [e];exact Heap.get?_push_size _ hf
  have g5:=at5 ((((s.heap.push {cls:=.type "list_iterator",data:=.fields #[.ref l1,.int 0 0]}).push {cls:=.type "tuple_iterator",data:=.fields #[.ref l2,.int 0 0]}).push {cls:=.type "tuple",data:=.seq #[.ref s.heap.objs.size,.ref (s.heap.objs.size+1)]}).push {cls:=.type "tuple",data:=.seq #[.none,.none]}) {cls:=.type "zip",data:=.fields #[.none,.bool false,.bool false,.ref (s.heap.objs.size+2),.ref (s.heap.objs.size+3)]} (s.heap.objs.size+4) rfl (by simp only [Heap.size_push])
  have g4:=at5 (((s.heap.push {cls:=.type "list_iterator",data:=.fields #[.ref l1,.int 0 0]}).push {cls:=.type "tuple_iterator",data:=.fields #[.ref l2,.int 0 0]}).push {cls:=.type "tuple",data:=.seq #[.ref s.heap.objs.size,.ref (s.heap.objs.size+1)]}) {cls:=.type "tuple",data:=.seq #[.none,.none]} (s.heap.objs.size+3) rfl (by simp only [Heap.size_push])
  have g3:=at5 ((s.heap.push {cls:=.type "list_iterator",data:=.fields #[.ref l1,.int 0 0]}).push {cls:=.type "tuple_iterator",data:=.fields #[.ref l2,.int 0 0]}) {cls:=.type "tuple",data:=.seq #[.ref s.heap.objs.size,.ref (s.heap.objs.size+1)]} (s.heap.objs.size+2) rfl (by simp only [Heap.size_push])
  have g2:=at5 (s.heap.push {cls:=.type "list_iterator",data:=.fields #[.ref l1,.int 0 0]}) {cls:=.type "tuple_iterator",data:=.fields #[.ref l2,.int 0 0]} (s.heap.objs.size+1) rfl (by simp only [Heap.size_push])
  have g1:=at5 s.heap {cls:=.type "list_iterator",data:=.fields #[.ref l1,.int 0 0]} s.heap.objs.size rfl rfl
  have up:∀{g:Heap} {a:Addr} {u:Obj} (o:Obj),g.get? a=some u→(g.push o).get? a=some u:=fun o e=>Heap.get?_push_of_some o e
  refine⟨⟨_,g5,rfl⟩,h _ ⟨g5,up _ (up _ g3),⟨_,_,up _ g4⟩,⟨_,up _ (up _ (up _ (up _ g1))),rfl,rfl⟩,⟨_,up _ (up _ (up _ g2)),rfl,rfl⟩⟩ fun c o x=>up _ (up _ (up _ (up _ (up _ x))))⟩
end
def Bg(K:PySem.W.Frag)(ta:TA):TI:=fun σ H R=>ta σ H fun vs H1=>∃a b,vs=[.ref a,.ref b]∧(∃xs,cT K H1 a xs)∧(∃ys,bX K H1 b ys)∧R (Ai K a b) H1
theorem xg{X:Cx}{K:PySem.W.Frag}{es:List Expr}{k0:Nat}{tp:Pos}{a b:Expr}{ta:TA}{p pos:Pos}(hK:X.K=K)(hg:Gl X "zip")(hm:X.mg "zip"=none)(ha:PA X [a,b] ta)(hs:starEach [a,b] X.env=[(false,eval a X.env),(false,eval b X.env)]:=by rfl)(hs2:starEach [b] X.env=[(false,eval b X.env)]:=by rfl):
    PI X (.Tuple es k0 tp) (.Call (.Name "zip" p) [a,b] [] pos) (Bg K ta):=by
  intro pins s σ H R I h
  subst hK
  refine Call_ (gj I hg hm jG (PyProof.Rows.callWith_type1 (cC (ha pos pins s σ H _ I h) fun us s1 ⟨vs,H1,I1,r1,q1⟩=>?_) (by rw [hs,hs2]) (by rw [hs2];rfl)))
  obtain⟨a,b,e,⟨xs,qx⟩,⟨ys,qy⟩,q⟩:=q1
  subst e
  cases r1 with
  | cons r rr=>
    cases rr with
    | cons r' rr=>
      cases rr
      cases r
      cases r'
      obtain⟨i1,v1,p1,_⟩:=I1.list qx
      obtain⟨i2,v2,p2,_⟩:=I1.tuple qy
      refine sS p1.isList p2 fun g st hk=>wpAny_pyIter_zip st.1 ?_
      have I2:aA X pins σ H1 {s1 with heap:=g,toks:=s1.toks}:=I1.kept (t':=s1.toks) fun b o e=>hk b o e
      refine⟨s1.heap.objs.size+4,[s1.heap.objs.size+4,s1.heap.objs.size+2,s1.heap.objs.size+3,s1.heap.objs.size,s1.heap.objs.size+1],_,_,H1,rfl,I2,sO a b (show((s1.heap.objs.size+3:Nat)≠s1.heap.objs.size+4) by lia) (show((s1.heap.objs.size:Nat)≠s1.heap.objs.size+4) by lia) (show((s1.heap.objs.size+1:Nat)≠s1.heap.objs.size+4) by lia) (show((s1.heap.objs.size+3:Nat)≠s1.heap.objs.size) by lia) (show((s1.heap.objs.size+3:Nat)≠s1.heap.objs.size+1) by lia) (show((s1.heap.objs.size:Nat)≠s1.heap.objs.size+1) by lia) (show((s1.heap.objs.size+2:Nat)≠s1.heap.objs.size+4) by lia) (show((s1.heap.objs.size+2:Nat)≠s1.heap.objs.size+3) by lia) (show((s1.heap.objs.size+2:Nat)≠s1.heap.objs.size) by lia) (show((s1.heap.objs.size+2:Nat)≠s1.heap.objs.size+1) by lia),st,fun c hc=>?_,q⟩
      have le:s1.heap.objs.size≤c:=by
        simp only [List.mem_cons,List.not_mem_nil,or_false] at hc
        rcases hc with rfl | rfl | rfl | rfl | rfl
        · exact Nat.le_add_right _ 4
        · exact Nat.le_add_right _ 2
        · exact Nat.le_add_right _ 3
        · exact Nat.le_refl _
        · exact Nat.le_add_right _ 1
      have f:=I1.fpOk (H':=H1) le (I1.hok.fresh le)
      exact f
def Aj(K:PySem.W.Frag)(l1 l2:Addr):It:=
  ⟨fun i H=>∃xs ys x y,bX K H l1 xs∧cT K H l2 ys∧xs[i]?=some x∧ys[i]?=some y,
   fun i H v H'=>∃p x y,v=.ref p∧H p=none∧H'=bi H p (.tup [x,y])∧∀xs ys,bX K H l1 xs→cT K H l2 ys→xs[i]?=some x∧ys[i]?=some y,
   fun i H=>∃xs ys,bX K H l1 xs∧cT K H l2 ys∧(xs.length≤i∨ys.length≤i)⟩
def ug(z TI TO i1 i2 l1 l2:Addr)(i:Nat)(h:Heap):Prop:=IsZip h z TI TO .none∧IsPair h TI (.ref i1) (.ref i2)∧(∃a b,IsPair h TO a b)∧h.IsTupleIter i1 l1 i∧h.IsListIter i2 l2 i
theorem sP{P:Program}{w:World}{K:PySem.W.Frag}{es:List Expr}{k0:Nat}{pos:Pos}{z TI TO i1 i2:Addr}(l1 l2:Addr)(n1:TO≠z)(n2:i1≠z)(n3:i2≠z)(n4:TO≠i1)(n5:TO≠i2)(n6:i1≠i2)(n7:TI≠z)(n8:TI≠TO)(n9:TI≠i1)(n10:TI≠i2):
    qd P w K (.Tuple es k0 pos) (Aj K l1 l2) [z,TI,TO,i1,i2] z (ug z TI TO i1 i2 l1 l2) where
  mem:=by simp
  obj:=fun i h st b hb=>by
    obtain⟨hz,hI,⟨a,c,hO⟩,u1,u2⟩:=st
    simp only [List.mem_cons,List.not_mem_nil,or_false] at hb
    rcases hb with rfl | rfl | rfl | rfl | rfl
    · exact⟨_,hz,fun v z=>by cases z⟩
    · exact⟨_,hI,fun v z=>by cases z⟩
    · exact⟨_,hO,fun v z=>by cases z⟩
    · obtain⟨o,e,c,d⟩:=u1
      exact⟨o,e,fun v z=>by rw [d] at z;cases z⟩
    · obtain⟨o,e,c,d⟩:=u2
      exact⟨o,e,fun v z=>by rw [d] at z;cases z⟩
  keep:=fun i h h' st k=>by
    obtain⟨hz,hI,⟨a,c,hO⟩,u1,u2⟩:=st
    exact⟨k _ (by simp) _ hz,k _ (by simp) _ hI,⟨a,c,k _ (by simp) _ hO⟩,u1.at fun o e=>k _ (by simp) o e,u2.at fun o e=>k _ (by simp) o e⟩
  item:=by
    intro X hP hw hK hc i pins s σ H E I hf st hg
    subst hP hw hK
    obtain⟨xs,ys,x,y,q1,q2,hx,hy⟩:=hg
    obtain⟨hz,hI,⟨a,b,hO⟩,u1,u2⟩:=id st
    obtain⟨its1,rv1,p1,z1⟩:=I.tuple q1
    obtain⟨its2,rv2,p2,z2⟩:=I.list q2
    obtain⟨ux,hux,rux⟩:=rv1.get hx
    obtain⟨uy,huy,ruy⟩:=rv2.get hy
    have fz:=hf z (by simp);have fO:=hf TO (by simp);have f1:=hf i1 (by simp);have f2:=hf i2 (by simp)
    have D:ig z TI TO i1 i2 l1 l2:=⟨n1,n2,n3,n4,n5,n6,aB I fz q1,aB I fO q1,aB I f1 q1,aB I f2 q1,ar I fz q2,ar I fO q2,ar I f1 q2,ar I f2 q2⟩
    refine j9 (xs:=its1.toArray) (ys:=its2.toArray) (iW i1 l1) (fZ i2 l2) D hz hI hO u1 u2 p1 p2.isList (by simpa using hux) (by simpa using huy) fun g gz gO g1 g2 gT gs gk=>?_
    refine⟨_,rfl,wpAny_letOwnedTupleGo_zip gz fun g' gz' ge=>?_⟩
    have lt:∀b∈[z,TI,TO,i1,i2],b < s.heap.objs.size:=fun b hb=>by
      simp only [List.mem_cons,List.not_mem_nil,or_false] at hb
      rcases hb with rfl | rfl | rfl | rfl | rfl
      · exact Heap.lt_size hz
      · exact Heap.lt_size hI
      · exact Heap.lt_size hO
      · obtain⟨o,e,_⟩:=u1;exact Heap.lt_size e
      · obtain⟨o,e,_⟩:=u2;exact Heap.lt_size e
    have hT:H s.heap.objs.size=none:=I.hok.fresh (Nat.le_refl _)
    have vv:aO [x,y] [ux,uy]:=.cons rux (.cons ruy .nil)
    have I1:aA X pins σ (bi H s.heap.objs.size (.tup [x,y])) {s with heap:=s.heap.push {cls:=.type "tuple",data:=.seq #[ux,uy]},toks:=s.toks}:=
      I.laid (t':=s.toks) (fun b u e=>Heap.get?_push_of_some _ e) (Nat.le_refl _) ⟨(by show 2≤sizeLine;decide),[ux,uy],vv,kd.new _ _⟩
    have hf1:∀b∈[z,TI,TO,i1,i2],js X pins (bi H s.heap.objs.size (.tup [x,y])) b:=fun b hb=>by
      obtain⟨f0,fr⟩:=hf b hb
      exact⟨by rw [aH (Nat.ne_of_lt (lt b hb))];exact f0,fr⟩
    have nzT:s.heap.objs.size≠z:=Nat.ne_of_gt (lt z (by simp))
    have I2:aA X pins σ (bi H s.heap.objs.size (.tup [x,y])) {s with heap:=g',toks:=s.toks}:=by
      refine I1.turnedL (t':=s.toks) hf1 fun b o nb e=>?_
      have nb':b≠z∧b≠TI∧b≠TO∧b≠i1∧b≠i2:=by simpa using nb
      refine ge.extBut _ _ nb'.1 ?_
      rcases Heap.get?_push_cases e with ⟨rfl,rfl⟩ | e
      · exact gT
      · exact gk b o nb'.1 nb'.2.2.1 nb'.2.2.2.1 nb'.2.2.2.2 e
    refine⟨.ref s.heap.objs.size,_,I2,rfl,⟨_,x,y,rfl,hT,rfl,fun xs' ys' w1 w2=>?_⟩,⟨gz',ge.extBut _ _ n7 (gk _ _ n7 n8 n9 n10 hI),⟨ux,uy,ge.extBut _ _ n1 gO⟩,g1.at fun o e=>ge.extBut _ _ n2 e,g2.at fun o e=>ge.extBut _ _ n3 e⟩,fun b hb=>(hf1 b hb).1⟩
    rw [I.tuple_inj w1 q1,I.list_inj w2 q2]
    exact⟨hx,hy⟩
  done:=by
    intro X hP hw hK hc i pins s σ H E I hf st hg
    subst hP hw hK
    obtain⟨xs,ys,q1,q2,hn⟩:=hg
    obtain⟨hz,hI,⟨a,b,hO⟩,u1,u2⟩:=id st
    obtain⟨its1,rv1,p1,z1⟩:=I.tuple q1
    obtain⟨its2,rv2,p2,z2⟩:=I.list q2
    have fz:=hf z (by simp);have fO:=hf TO (by simp);have f1:=hf i1 (by simp);have f2:=hf i2 (by simp)
    have D:ig z TI TO i1 i2 l1 l2:=⟨n1,n2,n3,n4,n5,n6,aB I fz q1,aB I fO q1,aB I f1 q1,aB I f2 q1,ar I fz q2,ar I fO q2,ar I f1 q2,ar I f2 q2⟩
    have e1:=rv1.length
    have e2:=rv2.length
    refine j_ (xs:=its1.toArray) (ys:=its2.toArray) (I.ok.hd hc) (iW i1 l1) (fZ i2 l2) D hz hI hO u1 u2 p1 p2.isList ?_ fun g gk=>⟨rfl,I.turnedL (t':=s.toks) hf fun b o nb e=>?_⟩
    · rcases hn with hn | hn
      · exact .inl (by simp;lia)
      · exact .inr (by simp;lia)
    · have nb':b≠z∧b≠TI∧b≠TO∧b≠i1∧b≠i2:=by simpa using nb
      exact gk b o nb'.1 nb'.2.2.1 nb'.2.2.2.1 nb'.2.2.2.2 e
  self:=fun A i s Q E st h=>wpAny_pyIter_zip st.1 h
theorem vw(l1 l2:Addr)(xs ys:Array Value):
    Meets (Builtin.«zip.__new__» ⟨[.type "zip",.ref l1,.ref l2],[]⟩) (fun _ R s=>s.heap.IsTuple l1 xs∧s.heap.IsList l2 ys∧
      R (.ok (.ret (.ref (s.heap.objs.size+4)))) {s with heap:=((((s.heap.push {cls:=.type "tuple_iterator",data:=.fields #[.ref l1,.int 0 0]}).push {cls:=.type "list_iterator",data:=.fields #[.ref l2,.int 0 0]}).push {cls:=.type "tuple",data:=.seq #[.ref s.heap.objs.size,.ref (s.heap.objs.size+1)]}).push {cls:=.type "tuple",data:=.seq #[.none,.none]}).push {cls:=.type "zip",data:=.fields #[.none,.bool false,.bool false,.ref (s.heap.objs.size+2),.ref (s.heap.objs.size+3)]}}):=
  .of_wp fun prog w A R s h=>by
    obtain⟨hp,g,d,tk,os⟩:=s;obtain⟨t1,t2,h⟩:=h;have sz:=PySem.sub_zip
    have T1:Heap.IsTuple (Shared.heap ⟨hp,g,d,tk,os⟩) l1 xs:=t1
    have T2:Heap.IsList (Shared.heap ⟨hp.push {cls:=.type "tuple_iterator",data:=.fields #[.ref l1,.int 0 0]},g,d,tk,os⟩) l2 ys:=Heap.IsList.push t2 _
    wp_walk using wpAny_pyIter_tuple T1,wpAny_pyIter_list T2
    refine⟨_,rfl,?_⟩
    simp only [Heap.size_push]
    exact h
section
variable{prog:Program}{w:World}{A:Around}{E:Value→Shared→Prop}{s:Shared}
theorem sT{l1 l2:Addr}{xs ys:Array Value}{Q:Value→Shared→Prop}(t1:s.heap.IsTuple l1 xs)(t2:s.heap.IsList l2 ys)
    (h:∀g,ug (s.heap.objs.size+4) (s.heap.objs.size+2) (s.heap.objs.size+3) s.heap.objs.size (s.heap.objs.size+1) l1 l2 0 g→(∀c o,s.heap.get? c=some o→g.get? c=some o)→Q (.ref (s.heap.objs.size+4)) {s with heap:=g}):
    wpAny (model prog w) A (call (.type "zip") [.ref l1,.ref l2]) Q E s:=by
  refine callType_new F.called_zip (by decide) (F.typeCall_zip_2 _ _) (F.newCall_zip_2 _ _) (fun obj=>F.args_object_init_3 obj _ _) F.entry_zip_new (vw l1 l2 xs ys) ⟨t1,t2,?_⟩
  have at5:∀(g:Heap) (o:Obj) (a:Addr),o.isFreed=false→a=g.objs.size→(g.push o).get? a=some o:=fun g o a hf e=>by rw [e];exact Heap.get?_push_size _ hf
  have g5:=at5 ((((s.heap.push {cls:=.type "tuple_iterator",data:=.fields #[.ref l1,.int 0 0]}).push {cls:=.type "list_iterator",data:=.fields #[.ref l2,.int 0 0]}).push {cls:=.type "tuple",data:=.seq #[.ref s.heap.objs.size,.ref (s.heap.objs.size+1)]}).push {cls:=.type "tuple",data:=.seq #[.none,.none]}) {cls:=.type "zip",data:=.fields #[.none,.bool false,.bool false,.ref (s.heap.objs.size+2),.ref (s.heap.objs.size+3)]} (s.heap.objs.size+4) rfl (by simp only [Heap.size_push])
  have g4:=at5 (((s.heap.push {cls:=.type "tuple_iterator",data:=.fields #[.ref l1,.int 0 0]}).push {cls:=.type "list_iterator",data:=.fields #[.ref l2,.int 0 0]}).push {cls:=.type "tuple",data:=.seq #[.ref s.heap.objs.size,.ref (s.heap.objs.size+1)]}) {cls:=.type "tuple",data:=.seq #[.none,.none]} (s.heap.objs.size+3) rfl (by simp only [Heap.size_push])
  have g3:=at5 ((s.heap.push {cls:=.type "tuple_iterator",data:=.fields #[.ref l1,.int 0 0]}).push {cls:=.type "list_iterator",data:=.fields #[.ref l2,.int 0 0]}) {cls:=.type "tuple",data:=.seq #[.ref s.heap.objs.size,.ref (s.heap.objs.size+1)]} (s.heap.objs.size+2) rfl (by simp only [Heap.size_push])
  have g2:=at5 (s.heap.push {cls:=.type "tuple_iterator",data:=.fields #[.ref l1,.int 0 0]}) {cls:=.type "list_iterator",data:=.fields #[.ref l2,.int 0 0]} (s.heap.objs.size+1) rfl (by simp only [Heap.size_push])
  have g1:=at5 s.heap {cls:=.type "tuple_iterator",data:=.fields #[.ref l1,.int 0 0]} s.heap.objs.size rfl rfl
  have up:∀{g:Heap} {a:Addr} {u:Obj} (o:Obj),g.get? a=some u→(g.push o).get? a=some u:=fun o e=>Heap.get?_push_of_some o e
  refine⟨⟨_,g5,rfl⟩,h _ ⟨g5,up _ (up _ g3),⟨_,_,up _ g4⟩,⟨_,up _ (up _ (up _ (up _ g1))),rfl,rfl⟩,⟨_,up _ (up _ (up _ g2)),rfl,rfl⟩⟩ fun c o x=>up _ (up _ (up _ (up _ (up _ x))))⟩
end
def Bh(K:PySem.W.Frag)(ta:TA):TI:=fun σ H R=>ta σ H fun vs H1=>∃a b,vs=[.ref a,.ref b]∧(∃xs,bX K H1 a xs)∧(∃ys,cT K H1 b ys)∧R (Aj K a b) H1
theorem xh{X:Cx}{K:PySem.W.Frag}{es:List Expr}{k0:Nat}{tp:Pos}{a b:Expr}{ta:TA}{p pos:Pos}(hK:X.K=K)(hg:Gl X "zip")(hm:X.mg "zip"=none)(ha:PA X [a,b] ta)(hs:starEach [a,b] X.env=[(false,eval a X.env),(false,eval b X.env)]:=by rfl)(hs2:starEach [b] X.env=[(false,eval b X.env)]:=by rfl):
    PI X (.Tuple es k0 tp) (.Call (.Name "zip" p) [a,b] [] pos) (Bh K ta):=by
  intro pins s σ H R I h
  subst hK
  refine Call_ (gj I hg hm jG (PyProof.Rows.callWith_type1 (cC (ha pos pins s σ H _ I h) fun us s1 ⟨vs,H1,I1,r1,q1⟩=>?_) (by rw [hs,hs2]) (by rw [hs2];rfl)))
  obtain⟨a,b,e,⟨xs,qx⟩,⟨ys,qy⟩,q⟩:=q1
  subst e
  cases r1 with
  | cons r rr=>
    cases rr with
    | cons r' rr=>
      cases rr
      cases r
      cases r'
      obtain⟨i1,v1,p1,_⟩:=I1.tuple qx
      obtain⟨i2,v2,p2,_⟩:=I1.list qy
      refine sT p1 p2.isList fun g st hk=>wpAny_pyIter_zip st.1 ?_
      have I2:aA X pins σ H1 {s1 with heap:=g,toks:=s1.toks}:=I1.kept (t':=s1.toks) fun b o e=>hk b o e
      refine⟨s1.heap.objs.size+4,[s1.heap.objs.size+4,s1.heap.objs.size+2,s1.heap.objs.size+3,s1.heap.objs.size,s1.heap.objs.size+1],_,_,H1,rfl,I2,sP a b (show((s1.heap.objs.size+3:Nat)≠s1.heap.objs.size+4) by lia) (show((s1.heap.objs.size:Nat)≠s1.heap.objs.size+4) by lia) (show((s1.heap.objs.size+1:Nat)≠s1.heap.objs.size+4) by lia) (show((s1.heap.objs.size+3:Nat)≠s1.heap.objs.size) by lia) (show((s1.heap.objs.size+3:Nat)≠s1.heap.objs.size+1) by lia) (show((s1.heap.objs.size:Nat)≠s1.heap.objs.size+1) by lia) (show((s1.heap.objs.size+2:Nat)≠s1.heap.objs.size+4) by lia) (show((s1.heap.objs.size+2:Nat)≠s1.heap.objs.size+3) by lia) (show((s1.heap.objs.size+2:Nat)≠s1.heap.objs.size) by lia) (show((s1.heap.objs.size+2:Nat)≠s1.heap.objs.size+1) by lia),st,fun c hc=>?_,q⟩
      have le:s1.heap.objs.size≤c:=by
        simp only [List.mem_cons,List.not_mem_nil,or_false] at hc
        rcases hc with rfl | rfl | rfl | rfl | rfl
        · exact Nat.le_add_right _ 4
        · exact Nat.le_add_right _ 2
        · exact Nat.le_add_right _ 3
        · exact Nat.le_refl _
        · exact Nat.le_add_right _ 1
      have f:=I1.fpOk (H':=H1) le (I1.hok.fresh le)
      exact f
def Ah(K:PySem.W.Frag)(l1 l2:Addr):It:=
  ⟨fun i H=>∃xs ys x y,cT K H l1 xs∧cT K H l2 ys∧xs[i]?=some x∧ys[i]?=some y,
   fun i H v H'=>∃p x y,v=.ref p∧H p=none∧H'=bi H p (.tup [x,y])∧∀xs ys,cT K H l1 xs→cT K H l2 ys→xs[i]?=some x∧ys[i]?=some y,
   fun i H=>∃xs ys,cT K H l1 xs∧cT K H l2 ys∧(xs.length≤i∨ys.length≤i)⟩
def ue(z TI TO i1 i2 l1 l2:Addr)(i:Nat)(h:Heap):Prop:=IsZip h z TI TO .none∧IsPair h TI (.ref i1) (.ref i2)∧(∃a b,IsPair h TO a b)∧h.IsListIter i1 l1 i∧h.IsListIter i2 l2 i
theorem sN{P:Program}{w:World}{K:PySem.W.Frag}{es:List Expr}{k0:Nat}{pos:Pos}{z TI TO i1 i2:Addr}(l1 l2:Addr)(n1:TO≠z)(n2:i1≠z)(n3:i2≠z)(n4:TO≠i1)(n5:TO≠i2)(n6:i1≠i2)(n7:TI≠z)(n8:TI≠TO)(n9:TI≠i1)(n10:TI≠i2):
    qd P w K (.Tuple es k0 pos) (Ah K l1 l2) [z,TI,TO,i1,i2] z (ue z TI TO i1 i2 l1 l2) where
  mem:=by simp
  obj:=fun i h st b hb=>by
    obtain⟨hz,hI,⟨a,c,hO⟩,u1,u2⟩:=st
    simp only [List.mem_cons,List.not_mem_nil,or_false] at hb
    rcases hb with rfl | rfl | rfl | rfl | rfl
    · exact⟨_,hz,fun v z=>by cases z⟩
    · exact⟨_,hI,fun v z=>by cases z⟩
    · exact⟨_,hO,fun v z=>by cases z⟩
    · obtain⟨o,e,c,d⟩:=u1
      exact⟨o,e,fun v z=>by rw [d] at z;cases z⟩
    · obtain⟨o,e,c,d⟩:=u2
      exact⟨o,e,fun v z=>by rw [d] at z;cases z⟩
  keep:=fun i h h' st k=>by
    obtain⟨hz,hI,⟨a,c,hO⟩,u1,u2⟩:=st
    exact⟨k _ (by simp) _ hz,k _ (by simp) _ hI,⟨a,c,k _ (by simp) _ hO⟩,u1.at fun o e=>k _ (by simp) o e,u2.at fun o e=>k _ (by simp) o e⟩
  item:=by
    intro X hP hw hK hc i pins s σ H E I hf st hg
    subst hP hw hK
    obtain⟨xs,ys,x,y,q1,q2,hx,hy⟩:=hg
    obtain⟨hz,hI,⟨a,b,hO⟩,u1,u2⟩:=id st
    obtain⟨its1,rv1,p1,z1⟩:=I.list q1
    obtain⟨its2,rv2,p2,z2⟩:=I.list q2
    obtain⟨ux,hux,rux⟩:=rv1.get hx
    obtain⟨uy,huy,ruy⟩:=rv2.get hy
    have fz:=hf z (by simp);have fO:=hf TO (by simp);have f1:=hf i1 (by simp);have f2:=hf i2 (by simp)
    have D:ig z TI TO i1 i2 l1 l2:=⟨n1,n2,n3,n4,n5,n6,ar I fz q1,ar I fO q1,ar I f1 q1,ar I f2 q1,ar I fz q2,ar I fO q2,ar I f1 q2,ar I f2 q2⟩
    refine j9 (xs:=its1.toArray) (ys:=its2.toArray) (fZ i1 l1) (fZ i2 l2) D hz hI hO u1 u2 p1.isList p2.isList (by simpa using hux) (by simpa using huy) fun g gz gO g1 g2 gT gs gk=>?_
    refine⟨_,rfl,wpAny_letOwnedTupleGo_zip gz fun g' gz' ge=>?_⟩
    have lt:∀b∈[z,TI,TO,i1,i2],b < s.heap.objs.size:=fun b hb=>by
      simp only [List.mem_cons,List.not_mem_nil,or_false] at hb
      rcases hb with rfl | rfl | rfl | rfl | rfl
      · exact Heap.lt_size hz
      · exact Heap.lt_size hI
      · exact Heap.lt_size hO
      · obtain⟨o,e,_⟩:=u1;exact Heap.lt_size e
      · obtain⟨o,e,_⟩:=u2;exact Heap.lt_size e
    have hT:H s.heap.objs.size=none:=I.hok.fresh (Nat.le_refl _)
    have vv:aO [x,y] [ux,uy]:=.cons rux (.cons ruy .nil)
    have I1:aA X pins σ (bi H s.heap.objs.size (.tup [x,y])) {s with heap:=s.heap.push {cls:=.type "tuple",data:=.seq #[ux,uy]},toks:=s.toks}:=
      I.laid (t':=s.toks) (fun b u e=>Heap.get?_push_of_some _ e) (Nat.le_refl _) ⟨(by show 2≤sizeLine;decide),[ux,uy],vv,kd.new _ _⟩
    have hf1:∀b∈[z,TI,TO,i1,i2],js X pins (bi H s.heap.objs.size (.tup [x,y])) b:=fun b hb=>by
      obtain⟨f0,fr⟩:=hf b hb
      exact⟨by rw [aH (Nat.ne_of_lt (lt b hb))];exact f0,fr⟩
    have nzT:s.heap.objs.size≠z:=Nat.ne_of_gt (lt z (by simp))
    have I2:aA X pins σ (bi H s.heap.objs.size (.tup [x,y])) {s with heap:=g',toks:=s.toks}:=by
      refine I1.turnedL (t':=s.toks) hf1 fun b o nb e=>?_
      have nb':b≠z∧b≠TI∧b≠TO∧b≠i1∧b≠i2:=by simpa using nb
      refine ge.extBut _ _ nb'.1 ?_
      rcases Heap.get?_push_cases e with ⟨rfl,rfl⟩ | e
      · exact gT
      · exact gk b o nb'.1 nb'.2.2.1 nb'.2.2.2.1 nb'.2.2.2.2 e
    refine⟨.ref s.heap.objs.size,_,I2,rfl,⟨_,x,y,rfl,hT,rfl,fun xs' ys' w1 w2=>?_⟩,⟨gz',ge.extBut _ _ n7 (gk _ _ n7 n8 n9 n10 hI),⟨ux,uy,ge.extBut _ _ n1 gO⟩,g1.at fun o e=>ge.extBut _ _ n2 e,g2.at fun o e=>ge.extBut _ _ n3 e⟩,fun b hb=>(hf1 b hb).1⟩
    rw [I.list_inj w1 q1,I.list_inj w2 q2]
    exact⟨hx,hy⟩
  done:=by
    intro X hP hw hK hc i pins s σ H E I hf st hg
    subst hP hw hK
    obtain⟨xs,ys,q1,q2,hn⟩:=hg
    obtain⟨hz,hI,⟨a,b,hO⟩,u1,u2⟩:=id st
    obtain⟨its1,rv1,p1,z1⟩:=I.list q1
    obtain⟨its2,rv2,p2,z2⟩:=I.list q2
    have fz:=hf z (by simp);have fO:=hf TO (by simp);have f1:=hf i1 (by simp);have f2:=hf i2 (by simp)
    have D:ig z TI TO i1 i2 l1 l2:=⟨n1,n2,n3,n4,n5,n6,ar I fz q1,ar I fO q1,ar I f1 q1,ar I f2 q1,ar I fz q2,ar I fO q2,ar I f1 q2,ar I f2 q2⟩
    have e1:=rv1.length
    have e2:=rv2.length
    refine j_ (xs:=its1.toArray) (ys:=its2.toArray) (I.ok.hd hc) (fZ i1 l1) (fZ i2 l2) D hz hI hO u1 u2 p1.isList p2.isList ?_ fun g gk=>⟨rfl,I.turnedL (t':=s.toks) hf fun b o nb e=>?_⟩
    · rcases hn with hn | hn
      · exact .inl (by simp;lia)
      · exact .inr (by simp;lia)
    · have nb':b≠z∧b≠TI∧b≠TO∧b≠i1∧b≠i2:=by simpa using nb
      exact gk b o nb'.1 nb'.2.2.1 nb'.2.2.2.1 nb'.2.2.2.2 e
  self:=fun A i s Q E st h=>wpAny_pyIter_zip st.1 h
theorem vq(l1 l2:Addr)(xs ys:Array Value):
    Meets (Builtin.«zip.__new__» ⟨[.type "zip",.ref l1,.ref l2],[]⟩) (fun _ R s=>s.heap.IsList l1 xs∧s.heap.IsList l2 ys∧
      R (.ok (.ret (.ref (s.heap.objs.size+4)))) {s with heap:=((((s.heap.push {cls:=.type "list_iterator",data:=.fields #[.ref l1,.int 0 0]}).push {cls:=.type "list_iterator",data:=.fields #[.ref l2,.int 0 0]}).push {cls:=.type "tuple",data:=.seq #[.ref s.heap.objs.size,.ref (s.heap.objs.size+1)]}).push {cls:=.type "tuple",data:=.seq #[.none,.none]}).push {cls:=.type "zip",data:=.fields #[.none,.bool false,.bool false,.ref (s.heap.objs.size+2),.ref (s.heap.objs.size+3)]}}):=
  .of_wp fun prog w A R s h=>by
    obtain⟨hp,g,d,tk,os⟩:=s;obtain⟨t1,t2,h⟩:=h;have sz:=PySem.sub_zip
    have T1:Heap.IsList (Shared.heap ⟨hp,g,d,tk,os⟩) l1 xs:=t1
    have T2:Heap.IsList (Shared.heap ⟨hp.push {cls:=.type "list_iterator",data:=.fields #[.ref l1,.int 0 0]},g,d,tk,os⟩) l2 ys:=Heap.IsList.push t2 _
    wp_walk using wpAny_pyIter_list T1,wpAny_pyIter_list T2
    refine⟨_,rfl,?_⟩
    simp only [Heap.size_push]
    exact h
section
variable{prog:Program}{w:World}{A:Around}{E:Value→Shared→Prop}{s:Shared}
theorem sR{l1 l2:Addr}{xs ys:Array Value}{Q:Value→Shared→Prop}(t1:s.heap.IsList l1 xs)(t2:s.heap.IsList l2 ys)
    (h:∀g,ue (s.heap.objs.size+4) (s.heap.objs.size+2) (s.heap.objs.size+3) s.heap.objs.size (s.heap.objs.size+1) l1 l2 0 g→(∀c o,s.heap.get? c=some o→g.get? c=some o)→Q (.ref (s.heap.objs.size+4)) {s with heap:=g}):
    wpAny (model prog w) A (call (.type "zip") [.ref l1,.ref l2]) Q E s:=by
  refine callType_new F.called_zip (by decide) (F.typeCall_zip_2 _ _) (F.newCall_zip_2 _ _) (fun obj=>F.args_object_init_3 obj _ _) F.entry_zip_new (vq l1 l2 xs ys) ⟨t1,t2,?_⟩
  have at5:∀(g:Heap) (o:Obj) (a:Addr),o.isFreed=false→a=g.objs.size→(g.push o).get? a=some o:=fun g o a hf e=>by rw [e];exact Heap.get?_push_size _ hf
  have g5:=at5 ((((s.heap.push {cls:=.type "list_iterator",data:=.fields #[.ref l1,.int 0 0]}).push {cls:=.type "list_iterator",data:=.fields #[.ref l2,.int 0 0]}).push {cls:=.type "tuple",data:=.seq #[.ref s.heap.objs.size,.ref (s.heap.objs.size+1)]}).push {cls:=.type "tuple",data:=.seq #[.none,.none]}) {cls:=.type "zip",data:=.fields #[.none,.bool false,.bool false,.ref (s.heap.objs.size+2),.ref (s.heap.objs.size+3)]} (s.heap.objs.size+4) rfl (by simp only [Heap.size_push])
  have g4:=at5 (((s.heap.push {cls:=.type "list_iterator",data:=.fields #[.ref l1,.int 0 0]}).push {cls:=.type "list_iterator",data:=.fields #[.ref l2,.int 0 0]}).push {cls:=.type "tuple",data:=.seq #[.ref s.heap.objs.size,.ref (s.heap.objs.size+1)]}) {cls:=.type "tuple",data:=.seq #[.none,.none]} (s.heap.objs.size+3) rfl (by simp only [Heap.size_push])
  have g3:=at5 ((s.heap.push {cls:=.type "list_iterator",data:=.fields #[.ref l1,.int 0 0]}).push {cls:=.type "list_iterator",data:=.fields #[.ref l2,.int 0 0]}) {cls:=.type "tuple",data:=.seq #[.ref s.heap.objs.size,.ref (s.heap.objs.size+1)]} (s.heap.objs.size+2) rfl (by simp only [Heap.size_push])
  have g2:=at5 (s.heap.push {cls:=.type "list_iterator",data:=.fields #[.ref l1,.int 0 0]}) {cls:=.type "list_iterator",data:=.fields #[.ref l2,.int 0 0]} (s.heap.objs.size+1) rfl (by simp only [Heap.size_push])
  have g1:=at5 s.heap {cls:=.type "list_iterator",data:=.fields #[.ref l1,.int 0 0]} s.heap.objs.size rfl rfl
  have up:∀{g:Heap} {a:Addr} {u:Obj} (o:Obj),g.get? a=some u→(g.push o).get? a=some u:=fun o e=>Heap.get?_push_of_some o e
  refine⟨⟨_,g5,rfl⟩,h _ ⟨g5,up _ (up _ g3),⟨_,_,up _ g4⟩,⟨_,up _ (up _ (up _ (up _ g1))),rfl,rfl⟩,⟨_,up _ (up _ (up _ g2)),rfl,rfl⟩⟩ fun c o x=>up _ (up _ (up _ (up _ (up _ x))))⟩
end
def Bf(K:PySem.W.Frag)(ta:TA):TI:=fun σ H R=>ta σ H fun vs H1=>∃a b,vs=[.ref a,.ref b]∧(∃xs,cT K H1 a xs)∧(∃ys,cT K H1 b ys)∧R (Ah K a b) H1
theorem xf{X:Cx}{K:PySem.W.Frag}{es:List Expr}{k0:Nat}{tp:Pos}{a b:Expr}{ta:TA}{p pos:Pos}(hK:X.K=K)(hg:Gl X "zip")(hm:X.mg "zip"=none)(ha:PA X [a,b] ta)(hs:starEach [a,b] X.env=[(false,eval a X.env),(false,eval b X.env)]:=by rfl)(hs2:starEach [b] X.env=[(false,eval b X.env)]:=by rfl):
    PI X (.Tuple es k0 tp) (.Call (.Name "zip" p) [a,b] [] pos) (Bf K ta):=by
  intro pins s σ H R I h
  subst hK
  refine Call_ (gj I hg hm jG (PyProof.Rows.callWith_type1 (cC (ha pos pins s σ H _ I h) fun us s1 ⟨vs,H1,I1,r1,q1⟩=>?_) (by rw [hs,hs2]) (by rw [hs2];rfl)))
  obtain⟨a,b,e,⟨xs,qx⟩,⟨ys,qy⟩,q⟩:=q1
  subst e
  cases r1 with
  | cons r rr=>
    cases rr with
    | cons r' rr=>
      cases rr
      cases r
      cases r'
      obtain⟨i1,v1,p1,_⟩:=I1.list qx
      obtain⟨i2,v2,p2,_⟩:=I1.list qy
      refine sR p1.isList p2.isList fun g st hk=>wpAny_pyIter_zip st.1 ?_
      have I2:aA X pins σ H1 {s1 with heap:=g,toks:=s1.toks}:=I1.kept (t':=s1.toks) fun b o e=>hk b o e
      refine⟨s1.heap.objs.size+4,[s1.heap.objs.size+4,s1.heap.objs.size+2,s1.heap.objs.size+3,s1.heap.objs.size,s1.heap.objs.size+1],_,_,H1,rfl,I2,sN a b (show((s1.heap.objs.size+3:Nat)≠s1.heap.objs.size+4) by lia) (show((s1.heap.objs.size:Nat)≠s1.heap.objs.size+4) by lia) (show((s1.heap.objs.size+1:Nat)≠s1.heap.objs.size+4) by lia) (show((s1.heap.objs.size+3:Nat)≠s1.heap.objs.size) by lia) (show((s1.heap.objs.size+3:Nat)≠s1.heap.objs.size+1) by lia) (show((s1.heap.objs.size:Nat)≠s1.heap.objs.size+1) by lia) (show((s1.heap.objs.size+2:Nat)≠s1.heap.objs.size+4) by lia) (show((s1.heap.objs.size+2:Nat)≠s1.heap.objs.size+3) by lia) (show((s1.heap.objs.size+2:Nat)≠s1.heap.objs.size) by lia) (show((s1.heap.objs.size+2:Nat)≠s1.heap.objs.size+1) by lia),st,fun c hc=>?_,q⟩
      have le:s1.heap.objs.size≤c:=by
        simp only [List.mem_cons,List.not_mem_nil,or_false] at hc
        rcases hc with rfl | rfl | rfl | rfl | rfl
        · exact Nat.le_add_right _ 4
        · exact Nat.le_add_right _ 2
        · exact Nat.le_add_right _ 3
        · exact Nat.le_refl _
        · exact Nat.le_add_right _ 1
      have f:=I1.fpOk (H':=H1) le (I1.hok.fresh le)
      exact f
end L2
namespace L2
open PySem PySem.Spec PyProof.Rows
end L2
namespace L2
open PySem PySem.Spec PyProof.Rows
inductive vA where
  | vi (k:Int)
  | vb (x:Bool)
  | vn
def vA.toV:vA→V
  | .vi k=>.int k
  | .vb x=>.bl x
  | .vn=>.non
def vA.toD:vA→PyData
  | .vi k=>.int k
  | .vb x=>.bool x
  | .vn=>.none
mutual
def DA(K:PySem.W.Frag)(F:Hp):PyData→V→Prop
  | .none,v=>v=.non
  | .bool b,v=>v=.bl b
  | .int i,v=>v=.int i
  | .str x,v=>v=.str x
  | .tuple ds,v=>∃a xs,v=.ref a∧bX K F a xs∧aM K F ds xs
  | .list ds,v=>∃a xs,v=.ref a∧cT K F a xs∧aM K F ds xs
  | .dict kvs,v=>∃(a:Addr) (m:List (Int × vA)),v=.ref a∧F a=some (.dK (m.map fun p=>(Sum.inl p.1,p.2.toV)))∧kvs=m.map fun p=>(PyData.int p.1,p.2.toD)
def aM(K:PySem.W.Frag)(F:Hp):List PyData→List V→Prop
  | [],xs=>xs=[]
  | d::ds,xs=>∃x r,xs=x::r∧DA K F d x∧aM K F ds r
end
mutual
theorem DA.mono{K:PySem.W.Frag}{F F':Hp}(h:au F F'):∀{d:PyData} {v:V},DA K F d v→DA K F' d v
  | .none,_,q=>by simp only [DA] at q ⊢;exact q
  | .bool b,_,q=>by simp only [DA] at q ⊢;exact q
  | .int i,_,q=>by simp only [DA] at q ⊢;exact q
  | .str x,_,q=>by simp only [DA] at q ⊢;exact q
  | .tuple ds,_,q=>by
    simp only [DA] at q ⊢
    obtain⟨a,xs,e,s,r⟩:=q
    exact⟨a,xs,e,h.tup s,aM.mono h r⟩
  | .list ds,_,q=>by
    simp only [DA] at q ⊢
    obtain⟨a,xs,e,s,r⟩:=q
    exact⟨a,xs,e,h.seq s,aM.mono h r⟩
  | .dict _,_,q=>by
    simp only [DA] at q ⊢
    obtain⟨a,m,e,s,k⟩:=q
    exact⟨a,m,e,h _ _ s,k⟩
theorem aM.mono{K:PySem.W.Frag}{F F':Hp}(h:au F F'):∀{ds:List PyData} {xs:List V},aM K F ds xs→aM K F' ds xs
  | [],_,q=>by simp only [aM] at q ⊢;exact q
  | d::ds,_,q=>by
    simp only [aM] at q ⊢
    obtain⟨x,r,e,a,b⟩:=q
    exact⟨x,r,e,DA.mono h a,aM.mono h b⟩
end
section
variable{K:PySem.W.Frag}{F:Hp}
theorem aM.len:∀{ds:List PyData} {xs:List V},aM K F ds xs→ds.length=xs.length
  | [],_,q=>by simp only [aM] at q;subst q;rfl
  | d::ds,_,q=>by
    simp only [aM] at q
    obtain⟨x,r,e,a,b⟩:=q
    subst e
    simp [aM.len b]
theorem aM.get:∀{ds:List PyData} {xs:List V} {i:Nat} {d:PyData},aM K F ds xs→ds[i]?=some d→∃v,xs[i]?=some v∧DA K F d v
  | [],_,_,_,_,h=>by simp at h
  | d::ds,_,i,d',q,h=>by
    simp only [aM] at q
    obtain⟨x,r,e,a,b⟩:=q
    subst e
    cases i with
    | zero=>simp at h;subst h;exact⟨x,rfl,a⟩
    | succ i=>
      obtain⟨v,h1,h2⟩:=aM.get (i:=i) b (by simpa using h)
      exact⟨v,by simpa using h1,h2⟩
theorem aM.append:∀{ds es:List PyData} {xs ys:List V},aM K F ds xs→aM K F es ys→aM K F (ds++es) (xs++ys)
  | [],_,_,_,q,s=>by simp only [aM] at q;subst q;simpa using s
  | d::ds,es,_,ys,q,s=>by
    simp only [aM] at q
    obtain⟨x,r,e,a,b⟩:=q
    subst e
    simp only [List.cons_append,aM]
    exact⟨x,_,rfl,a,aM.append b s⟩
theorem aM.one{d:PyData}{v:V}(h:DA K F d v):aM K F [d] [v]:=by simp only [aM];exact⟨_,_,rfl,h,rfl⟩
theorem aM.nil:aM K F [] []:=by simp only [aM]
theorem aM.cons{d:PyData}{v:V}{ds:List PyData}{vs:List V}(h:DA K F d v)(r:aM K F ds vs):aM K F (d::ds) (v::vs):=by simp only [aM];exact⟨_,_,rfl,h,r⟩
theorem aM.drop:∀{ds:List PyData} {xs:List V} (n:Nat),aM K F ds xs→aM K F (ds.drop n) (xs.drop n)
  | _,_,0,q=>q
  | [],_,n+1,q=>by simp only [aM] at q;subst q;exact aM.nil
  | d::ds,_,n+1,q=>by
    simp only [aM] at q
    obtain⟨x,r,e,a,b⟩:=q
    subst e
    simpa using aM.drop n b
theorem aM.take:∀{ds:List PyData} {xs:List V} (n:Nat),aM K F ds xs→aM K F (ds.take n) (xs.take n)
  | _,_,0,q=>by simpa using aM.nil
  | [],_,n+1,q=>by simp only [aM] at q;subst q;exact aM.nil
  | d::ds,_,n+1,q=>by
    simp only [aM] at q
    obtain⟨x,r,e,a,b⟩:=q
    subst e
    simpa using aM.cons a (aM.take n b)
theorem aM.set{d:PyData}{v:V}(h:DA K F d v):∀{ds:List PyData} {xs:List V} (n:Nat),aM K F ds xs→aM K F (ds.set n d) (xs.set n v)
  | [],_,_,q=>by simp only [aM] at q;subst q;exact aM.nil
  | e::ds,_,n,q=>by
    simp only [aM] at q
    obtain⟨x,r,e,a,b⟩:=q
    subst e
    cases n with
    | zero=>exact aM.cons h b
    | succ n=>exact aM.cons a (aM.set h n b)
theorem aM.erase:∀{ds:List PyData} {xs:List V} (n:Nat),aM K F ds xs→aM K F (ds.eraseIdx n) (xs.eraseIdx n)
  | [],_,_,q=>by simp only [aM] at q;subst q;exact aM.nil
  | e::ds,_,n,q=>by
    simp only [aM] at q
    obtain⟨x,r,e,a,b⟩:=q
    subst e
    cases n with
    | zero=>exact b
    | succ n=>exact aM.cons a (aM.erase n b)
theorem aM.ints:∀{ns:List Int} {xs:List V},aM K F (ns.map .int) xs↔ xs=ns.map V.int
  | [],xs=>by simp [aM]
  | n::ns,xs=>by
    simp only [List.map_cons,aM,DA]
    constructor
    · rintro⟨x,r,e,rfl,q⟩;rw [e,aM.ints.mp q]
    · rintro rfl;exact⟨_,_,rfl,rfl,aM.ints.mpr rfl⟩
theorem aM.bools:∀{ns:List Bool} {xs:List V},aM K F (ns.map .bool) xs↔ xs=ns.map V.bl
  | [],xs=>by simp [aM]
  | n::ns,xs=>by
    simp only [List.map_cons,aM,DA]
    constructor
    · rintro⟨x,r,e,rfl,q⟩;rw [e,aM.bools.mp q]
    · rintro rfl;exact⟨_,_,rfl,rfl,aM.bools.mpr rfl⟩
theorem df{i:Int}{v:V}:DA K F (.int i) v↔ v=.int i:=by simp only [DA]
theorem c_{b:Bool}{v:V}:DA K F (.bool b) v↔ v=.bl b:=by simp only [DA]
theorem gX{v:V}:DA K F .none v↔ v=.non:=by simp only [DA]
theorem pw{x:Str}{v:V}:DA K F (.str x) v↔ v=.str x:=by simp only [DA]
theorem cP{ds:List PyData}{v:V}:DA K F (.tuple ds) v↔ ∃a xs,v=.ref a∧bX K F a xs∧aM K F ds xs:=by simp only [DA]
theorem dg{ds:List PyData}{v:V}:DA K F (.list ds) v↔ ∃a xs,v=.ref a∧cT K F a xs∧aM K F ds xs:=by simp only [DA]
end
inductive Sv where
  | d (x:PyData)
  | l (xs:List PyData)
  /-- a list of lists that nobody else holds -/
  | n (xss:List (List PyData))
abbrev En:=List (Option Sv)
inductive Rv where
  | d (x:PyData)
  | l (xs:List PyData)
  | s (i:Nat)
def Fp(σ:L2.St)(e:En)(H:Hp)(i:Nat)(a:Addr):Prop:=(∃xs:List PyData,e[i]?=some (some (Sv.l xs))∧σ[i]?=some (some (.ref a)))∨
  ∃(xss:List (List PyData)) (l:Addr) (bs:List Addr),e[i]?=some (some (Sv.n xss))∧σ[i]?=some (some (.ref l))∧H l=some (.lst (bs.map V.ref))∧(a=l∨a∈bs)
def de(σ:L2.St)(e:En)(H:Hp)(a:Addr):Prop:=∃i,Fp σ e H i a
structure a9 (K:PySem.W.Frag) (F H:Hp) (σ:L2.St) (e:En):Prop where
  sm:au F H
  len:σ.length=e.length
  dat:∀(i:Nat) (x:PyData),e[i]?=some (some (.d x))→∃v,σ[i]?=some (some v)∧DA K F x v
  own:∀(i:Nat) (xs:List PyData),e[i]?=some (some (.l xs))→∃l vs,σ[i]?=some (some (.ref l))∧F l=none∧H l=some (.lst vs)∧aM K F xs vs
  nst:∀(i:Nat) (xss:List (List PyData)),e[i]?=some (some (.n xss))→∃(l:Addr) (bs:List Addr),σ[i]?=some (some (.ref l))∧F l=none∧H l=some (.lst (bs.map V.ref))∧bs.length=xss.length∧bs.Nodup∧l∉bs∧
    ∀(k:Nat) (b:Addr) (ys:List PyData),bs[k]?=some b→xss[k]?=some ys→F b=none∧∃us,H b=some (.lst us)∧aM K F ys us
  fp:∀(i j:Nat) (a:Addr),Fp σ e H i a→Fp σ e H j a→i=j
theorem a9.inj{K:PySem.W.Frag}{F H:Hp}{σ:L2.St}{e:En}(R:a9 K F H σ e)(i j:Nat)(xs ys:List PyData)(l:Addr)(h1:e[i]?=some (some (.l xs)))(h2:e[j]?=some (some (.l ys)))(h3:σ[i]?=some (some (.ref l)))(h4:σ[j]?=some (some (.ref l))):i=j:=R.fp i j l (.inl ⟨xs,h1,h3⟩) (.inl ⟨ys,h2,h4⟩)
theorem a9.fpAt{K:PySem.W.Frag}{F H:Hp}{σ:L2.St}{e:En}(R:a9 K F H σ e){i:Nat}{a:Addr}(h:Fp σ e H i a):F a=none∧∃vs,H a=some (.lst vs):=by
  rcases h with ⟨xs,h1,h2⟩ | ⟨xss,l,bs,h1,h2,h3,h4⟩
  · obtain⟨l,vs,g1,g2,g3,_⟩:=R.own i xs h1
    rw [h2] at g1;cases g1
    exact⟨g2,vs,g3⟩
  · obtain⟨l',bs',g1,g2,g3,g4,g5,g6,g7⟩:=R.nst i xss h1
    rw [h2] at g1;cases g1
    rw [h3] at g3
    have e1:bs=bs':=by
      have:=HO.lst.inj (Option.some.inj g3)
      exact List.map_inj_right (fun _ _ z=>V.ref.inj z) |>.mp this
    subst e1
    rcases h4 with rfl | h4
    · exact⟨g2,_,h3⟩
    · obtain⟨k,hk⟩:=List.getElem?_of_mem h4
      have hk2:k < xss.length:=by rw [←g4];exact(List.getElem?_eq_some_iff.mp hk).1
      obtain⟨c1,us,c2,_⟩:=g7 k a xss[k] hk (List.getElem?_eq_getElem hk2)
      exact⟨c1,us,c2⟩
structure dH (σ:L2.St) (F H:Hp) (e:En) (F' H':Hp) (e':En):Prop where
  sf:au F F'
  dom:∀a,H' a=none→H a=none
  fr:∀a vs,F a=none→H a=some (.lst vs)→¬de σ e H a→F' a=none
  lst:∀a vs,H a=some (.lst vs)→∃vs',H' a=some (.lst vs')
  tmp:∀a o,H a=some o→¬de σ e H a→H' a=some o
  shp:∀i:Nat,(∃xs,e'[i]?=some (some (.l xs)))↔ (∃xs,e[i]?=some (some (.l xs)))
  ow:∀a,de σ e' H' a→de σ e H a∨H a=none
  fd:∀a m,F a=none→H a=some (.dK m)→¬de σ e H a→F' a=none
theorem dH.refl(σ:L2.St)(F H:Hp)(e:En):dH σ F H e F H e:=⟨au.refl _,fun _ h=>h,fun _ _ h _ _=>h,fun _ vs h=>⟨vs,h⟩,fun _ _ h _=>h,fun _=>Iff.rfl,fun _ h=>.inl h,fun _ _ h _ _=>h⟩
theorem dH.trans{σ:L2.St}{F H F1 H1 F2 H2:Hp}{e e1 e2:En}(x:dH σ F H e F1 H1 e1)(y:dH σ F1 H1 e1 F2 H2 e2):dH σ F H e F2 H2 e2:=
  ⟨x.sf.trans y.sf,fun a h=>x.dom a (y.dom a h),fun a vs h n no=>let ⟨vs',q⟩:=x.lst a vs n;y.fr a vs' (x.fr a vs h n no) q (fun z=>(x.ow a z).elim no fun z=>by rw [n] at z;cases z),fun a vs h=>let ⟨vs',q⟩:=x.lst a vs h;y.lst a vs' q,
    fun a o h n=>y.tmp a o (x.tmp a o h n) (fun z=>(x.ow a z).elim n fun z=>by rw [h] at z;cases z),fun i=>(y.shp i).trans (x.shp i),fun a h=>(y.ow a h).elim (x.ow a) fun z=>.inr (x.dom a z),fun a m h n no=>y.fd a m (x.fd a m h n no) (x.tmp a _ n no) (fun z=>(x.ow a z).elim no fun z=>by rw [n] at z;cases z)⟩
def bS(K:PySem.W.Frag)(σ:L2.St)(H0 F H:Hp)(e:En):Rv→V→Prop
  | .d x,v=>DA K F x v
  | .l xs,v=>∃l vs,v=.ref l∧H0 l=none∧F l=none∧H l=some (.lst vs)∧aM K F xs vs∧¬de σ e H l
  | .s i,v=>σ[i]?=some (some v)∧∃xs,e[i]?=some (some (.l xs))
section
variable{K:PySem.W.Frag}{σ:L2.St}{H0 F H F' H':Hp}{e e':En}{r:Rv}{v:V}
theorem bS.ext(h:bS K σ H0 F H e r v)(x:dH σ F H e F' H' e'):bS K σ H0 F' H' e' r v:=by
  cases r with
  | d y=>exact DA.mono x.sf h
  | l xs=>
    obtain⟨l,vs,e1,h1,h2,h3,h4,h5⟩:=h
    exact⟨l,vs,e1,h1,x.fr l _ h2 h3 h5,x.tmp l _ h3 h5,aM.mono x.sf h4,fun z=>(x.ow l z).elim h5 fun z=>by rw [h3] at z;cases z⟩
  | s i=>exact⟨h.1,(x.shp i).mpr h.2⟩
theorem bS.weak{H1:Hp}(h:bS K σ H1 F H e r v)(d:∀a,H1 a=none→H0 a=none):bS K σ H0 F H e r v:=by
  cases r with
  | d y=>exact h
  | l xs=>
    obtain⟨l,vs,e1,h1,r⟩:=h
    exact⟨l,vs,e1,d l h1,r⟩
  | s i=>exact h
theorem a9.ownH(R:a9 K F H σ e)(a:Addr)(h:de σ e H a):H a≠none:=by
  obtain⟨i,h⟩:=h
  obtain⟨_,vs,h2⟩:=R.fpAt h
  rw [h2];simp
theorem a9.freeF(R:a9 K F H σ e){p:Addr}(hp:H p=none):F p=none:=R.sm.free hp
theorem yx(R:a9 K F H σ e)(h:∀l bs,H l=some (.lst bs)→de σ e H l→H' l=some (.lst bs)){i:Nat}{a:Addr}:Fp σ e H' i a↔ Fp σ e H i a:=by
  have key:∀xss l,e[i]?=some (some (.n xss))→σ[i]?=some (some (.ref l))→H' l=H l:=fun xss l h1 h2=>by
    obtain⟨l',bs,g1,g2,g3,_⟩:=R.nst i xss h1
    rw [h2] at g1;cases g1
    rw [g3]
    exact h l _ g3 ⟨i,.inr ⟨xss,l,bs,h1,h2,g3,.inl rfl⟩⟩
  constructor
  · rintro(h1 | ⟨xss,l,bs,h1,h2,h3,h4⟩)
    · exact .inl h1
    · exact .inr ⟨xss,l,bs,h1,h2,by rw [←key xss l h1 h2];exact h3,h4⟩
  · rintro(h1 | ⟨xss,l,bs,h1,h2,h3,h4⟩)
    · exact .inl h1
    · exact .inr ⟨xss,l,bs,h1,h2,by rw [key xss l h1 h2];exact h3,h4⟩
theorem a9.keep(R:a9 K F H σ e)(sF:au F F')(sm:au F' H')(hf:∀a,de σ e H a→F' a=none)(hh:∀a o,de σ e H a→H a=some o→H' a=some o):a9 K F' H' σ e∧∀a,de σ e H' a↔ de σ e H a:=by
  have fs:∀{i a},Fp σ e H' i a↔ Fp σ e H i a:=fun{i a}=>yx R fun l bs h1 h2=>hh l _ h2 h1
  refine⟨⟨sm,R.len,fun i x h=>let ⟨v,h1,h2⟩:=R.dat i x h;⟨v,h1,DA.mono sF h2⟩,fun i xs h=>?_,fun i xss h=>?_,fun i j a h1 h2=>R.fp i j a (fs.mp h1) (fs.mp h2)⟩,fun a=>⟨fun⟨i,h⟩=>⟨i,fs.mp h⟩,fun⟨i,h⟩=>⟨i,fs.mpr h⟩⟩⟩
  · obtain⟨l,vs,h1,h2,h3,h4⟩:=R.own i xs h
    have o:de σ e H l:=⟨i,.inl ⟨xs,h,h1⟩⟩
    exact⟨l,vs,h1,hf l o,hh l _ o h3,h4.mono sF⟩
  · obtain⟨l,bs,h1,h2,h3,h4,h5,h6,h7⟩:=R.nst i xss h
    have o:de σ e H l:=⟨i,.inr ⟨xss,l,bs,h,h1,h3,.inl rfl⟩⟩
    refine⟨l,bs,h1,hf l o,hh l _ o h3,h4,h5,h6,fun k b ys g1 g2=>?_⟩
    obtain⟨c1,us,c2,c3⟩:=h7 k b ys g1 g2
    have ob:de σ e H b:=⟨i,.inr ⟨xss,l,bs,h,h1,h3,.inr (List.mem_of_getElem? g1)⟩⟩
    exact⟨hf b ob,us,hh b _ ob c2,c3.mono sF⟩
theorem a9.same(R:a9 K F H σ e)(s:au H H'):a9 K F H' σ e∧dH σ F H e F H' e:=by
  obtain⟨R',o'⟩:=R.keep (au.refl F) (R.sm.trans s) (fun a ⟨i,h⟩=>(R.fpAt h).1) fun a o _ h=>s a o h
  exact⟨R',⟨au.refl _,fun a h=>s.free h,fun _ _ h _ _=>h,fun a vs h=>⟨vs,s _ _ h⟩,fun a o h _=>s a o h,fun _=>Iff.rfl,fun a h=>.inl ((o' a).mp h),fun _ _ h _ _=>h⟩⟩
theorem a9.freeze(R:a9 K F H σ e){p:Addr}{o:HO}(hF:F p=none)(hp:H p=some o)(hn:¬de σ e H p):a9 K (bi F p o) H σ e∧au F (bi F p o):=by
  have sF:au F (bi F p o):=au.new hF
  refine⟨(R.keep sF (fun b u q=>?_) (fun a ha=>?_) fun _ _ _ h=>h).1,sF⟩
  · by_cases z:b=p
    · subst z;rw [aw] at q;cases q;exact hp
    · rw [aH z] at q;exact R.sm _ _ q
  · obtain⟨i,hi⟩:=ha
    have z:a≠p:=fun z=>hn ⟨i,by rw [←z];exact hi⟩
    rw [aH z];exact(R.fpAt hi).1
theorem a9.notOwn(R:a9 K F H σ e){p:Addr}{o:HO}(hp:H p=some o)(hl:∀vs,o≠.lst vs):¬de σ e H p:=fun⟨i,h⟩=>by
  obtain⟨_,vs,g⟩:=R.fpAt h
  rw [hp] at g;cases g
  exact hl _ rfl
theorem a9.newT(R:a9 K F H σ e){p:Addr}{vs:List V}(hp:H p=none):a9 K (bi F p (.tup vs)) (bi H p (.tup vs)) σ e∧dH σ F H e (bi F p (.tup vs)) (bi H p (.tup vs)) e:=by
  have hF:=R.freeF hp
  obtain⟨R1,X1⟩:=R.same (au.new hp (o:=.tup vs))
  obtain⟨R2,s2⟩:=R1.freeze (p:=p) hF aw (R1.notOwn aw (fun _ z=>nomatch z))
  refine⟨R2,⟨s2,X1.dom,fun a ws h n _=>?_,X1.lst,X1.tmp,X1.shp,X1.ow,fun a ws h n _=>?_⟩⟩
  all_goals
    have z:a≠p:=fun z=>by rw [z,hp] at n;cases n
    rw [aH z];exact h
theorem a9.sameOwn(R:a9 K F H σ e)(s:au H H')(a:Addr):de σ e H' a↔ de σ e H a:=(R.keep (au.refl F) (R.sm.trans s) (fun a ⟨i,h⟩=>(R.fpAt h).1) fun a o _ h=>s a o h).2 a
theorem a9.newL(R:a9 K F H σ e){p:Addr}{vs:List V}(hp:H p=none):a9 K F (bi H p (.lst vs)) σ e∧dH σ F H e F (bi H p (.lst vs)) e∧F p=none∧¬de σ e (bi H p (.lst vs)) p:=
  ⟨(R.same (au.new hp)).1,(R.same (au.new hp)).2,R.freeF hp,fun z=>R.ownH p ((R.sameOwn (au.new hp) p).mp z) hp⟩
theorem a9.growT(R:a9 K F H σ e){p:Addr}{xs:List V}(s:au H H')(hp:bX K H' p xs):∃F',a9 K F' H' σ e∧dH σ F H e F' H' e∧bX K F' p xs:=by
  obtain⟨R1,X1⟩:=R.same s
  rcases hp with hp | hp
  · have key:∀o,H' p=some o→(∀vs,o≠.lst vs)→(∀m,o≠.dK m)→(∀G:Hp,G p=some o→Rd G p (.tup xs))→∃F',a9 K F' H' σ e∧dH σ F H e F' H' e∧bX K F' p xs:=by
      intro o ho hl hm hr
      cases q:F p with
      | some u=>
        have:=R1.sm _ _ q
        rw [ho] at this;cases this
        exact⟨F,R1,X1,.inl (hr F q)⟩
      | none=>
        obtain⟨R2,s2⟩:=R1.freeze q ho (R1.notOwn ho hl)
        refine⟨_,R2,⟨s2,X1.dom,fun a ws h n _=>?_,X1.lst,X1.tmp,X1.shp,X1.ow,fun a ws h n _=>?_⟩,.inl (hr _ aw)⟩
        · have z:a≠p:=fun z=>by rw [z] at n;rw [s _ _ n] at ho;cases ho;exact hl _ rfl
          rw [aH z];exact h
        · have z:a≠p:=fun z=>by rw [z] at n;rw [s _ _ n] at ho;cases ho;exact hm _ rfl
          rw [aH z];exact h
    rcases hp with hp | ⟨ob,hp⟩
    · exact key _ hp (fun _ z=>nomatch z) (fun _ z=>nomatch z) fun G g=>.inl g
    · exact key _ hp (fun _ z=>nomatch z) (fun _ z=>nomatch z) fun G g=>.inr ⟨ob,g⟩
  · exact⟨F,R1,X1,.inr hp⟩
theorem bS.frozen(R:a9 K F H σ e){xs:List PyData}(h:bS K σ H0 F H e (.l xs) v):∃F',a9 K F' H σ e∧au F F'∧DA K F' (.list xs) v∧(∀a,F a=none→H0 a≠none→F' a=none):=by
  obtain⟨l,vs,rfl,h1,h2,h3,h4,h5⟩:=h
  obtain⟨R2,s2⟩:=R.freeze h2 h3 h5
  refine⟨_,R2,s2,?_,fun a ha hn=>?_⟩
  · rw [dg]
    exact⟨l,vs,rfl,.inl (.inl aw),aM.mono s2 h4⟩
  · have z:a≠l:=fun z=>hn (by rw [z];exact h1)
    rw [aH z];exact ha
def dU(e:En):Rv→Option (Bool × List PyData)
  | .d (.tuple xs)=>some (false,xs)
  | .d (.list xs)=>some (true,xs)
  | .l xs=>some (true,xs)
  | .s i=>match e[i]? with
    | some (some (.l xs))=>some (true,xs)
    | _=>none
  | _=>none
theorem cB(R:a9 K F H σ e)(h:bS K σ H0 F H e r v){b:Bool}{xs:List PyData}(q:dU e r=some (b,xs)):
    ∃p vs,v=.ref p∧aM K F xs vs∧(if b=true then cT K H p vs else bX K H p vs):=by
  cases r with
  | d x=>
    cases x with
    | tuple ds=>
      cases q
      obtain⟨a,ys,e1,e2,e3⟩:=cP.mp h
      exact⟨a,ys,e1,e3,R.sm.tup e2⟩
    | list ds=>
      cases q
      obtain⟨a,ys,e1,e2,e3⟩:=dg.mp h
      exact⟨a,ys,e1,e3,R.sm.seq e2⟩
    | _=>cases q
  | l ys=>
    cases q
    obtain⟨l,vs,e1,h1,h2,h3,h4,_⟩:=h
    exact⟨l,vs,e1,h4,.inl (.inl h3)⟩
  | s i=>
    obtain⟨h1,ys,h2⟩:=h
    simp only [dU,h2] at q
    cases q
    obtain⟨l,vs,e1,e2,e3,e4⟩:=R.own i _ h2
    rw [h1] at e1;cases e1
    exact⟨l,vs,rfl,e4,.inl (.inl e3)⟩
end
end L2
namespace L2
open PySem PySem.Spec PyProof.Rows
abbrev FE:=En→Option (Rv × En)
abbrev FT:=En→Option (Bool × En)
abbrev FA:=En→Option (List Rv × En)
def cW(K:PySem.W.Frag)(σ:L2.St)(H0 F H:Hp)(e:En):List Rv→List V→Prop
  | [],vs=>vs=[]
  | r::rs,vs=>∃v ws,vs=v::ws∧bS K σ H0 F H e r v∧cW K σ H0 F H e rs ws
def fE(K:PySem.W.Frag)(f:FE):TE:=fun σ H Q=>∃F e r e',a9 K F H σ e∧f e=some (r,e')∧∀F' H' v,dH σ F H e F' H' e'→a9 K F' H' σ e'→bS K σ H F' H' e' r v→Q v H'
def fT(K:PySem.W.Frag)(f:FT):TT:=fun σ H Q=>∃F e b e',a9 K F H σ e∧f e=some (b,e')∧∀F' H',dH σ F H e F' H' e'→a9 K F' H' σ e'→Q b H'
def fA(K:PySem.W.Frag)(f:FA):TA:=fun σ H Q=>∃F e rs e',a9 K F H σ e∧f e=some (rs,e')∧∀F' H' vs,dH σ F H e F' H' e'→a9 K F' H' σ e'→cW K σ H F' H' e' rs vs→Q vs H'
theorem PE.mono{X:Cx}{e:Expr}{t t':TE}(h:PE X e t)(m:∀σ H Q,t' σ H Q→t σ H Q):PE X e t':=fun pins s σ H Q I q=>h pins s σ H Q I (m σ H Q q)
theorem PT.mono{X:Cx}{e:Expr}{t t':TT}(h:PT X e t)(m:∀σ H Q,t' σ H Q→t σ H Q):PT X e t':=fun pins s σ H Q I q=>h pins s σ H Q I (m σ H Q q)
theorem PW.mono{X:Cx}{e:Expr}{t t':TT}(h:PW X e t)(m:∀σ H Q,t' σ H Q→t σ H Q):PW X e t':=fun wh pins s σ H Q I q=>h wh pins s σ H Q I (m σ H Q q)
theorem PA.mono{X:Cx}{es:List Expr}{t t':TA}(h:PA X es t)(m:∀σ H Q,t' σ H Q→t σ H Q):PA X es t':=fun pos pins s σ H Q I q=>h pos pins s σ H Q I (m σ H Q q)
section
variable{K:PySem.W.Frag}{σ:L2.St}{H0 F H F' H':Hp}{e e':En}
theorem cW.weak{H1:Hp}(d:∀a,H1 a=none→H0 a=none):∀{rs:List Rv} {vs:List V},cW K σ H1 F H e rs vs→cW K σ H0 F H e rs vs
  | [],_,h=>h
  | r::rs,_,h=>by
    obtain⟨v,ws,rfl,h1,h2⟩:=h
    exact⟨v,ws,rfl,h1.weak d,cW.weak d h2⟩
theorem dH.frz{F'':Hp}(x:dH σ F H e F' H' e')(s:au F' F'')(h:∀a,F' a=none→H a≠none→F'' a=none):dH σ F H e F'' H' e':=
  ⟨x.sf.trans s,x.dom,fun a vs h1 h2 h3=>h a (x.fr a vs h1 h2 h3) (by rw [h2];simp),x.lst,x.tmp,x.shp,x.ow,fun a m h1 h2 h3=>h a (x.fd a m h1 h2 h3) (by rw [h2];simp)⟩
def fF:List Rv→Option (List PyData)
  | []=>some []
  | .d x::rs=>(fF rs).map (x::·)
  | .l xs::rs=>(fF rs).map (.list xs::·)
  | .s _::_=>none
theorem cW.frozen:∀{rs:List Rv} {vs:List V} {ds:List PyData} {F:Hp},a9 K F H σ e→cW K σ H0 F H e rs vs→fF rs=some ds→
    ∃F',a9 K F' H σ e∧au F F'∧aM K F' ds vs∧(∀a,F a=none→H0 a≠none→F' a=none)
  | [],_,_,F,R,h,q=>by
    cases q
    have h':_=[]:=h
    subst h'
    exact⟨F,R,au.refl _,aM.nil,fun _ h _=>h⟩
  | .d x::rs,_,ds,F,R,h,q=>by
    obtain⟨v,ws,rfl,h1,h2⟩:=h
    obtain⟨ds',q1,rfl⟩:=Option.map_eq_some_iff.mp q
    obtain⟨F',R',s',d',f'⟩:=cW.frozen R h2 q1
    exact⟨F',R',s',.cons (DA.mono s' h1) d',f'⟩
  | .l xs::rs,_,ds,F,R,h,q=>by
    obtain⟨v,ws,rfl,h1,h2⟩:=h
    obtain⟨ds',q1,rfl⟩:=Option.map_eq_some_iff.mp q
    obtain⟨F',R',s',d',f'⟩:=cW.frozen R h2 q1
    obtain⟨l,us,rfl,g1,g2,g3,g4,g5⟩:=h1
    cases hl:F' l with
    | none=>
      have h1':bS K σ H0 F' H e (.l xs) (.ref l):=⟨l,us,rfl,g1,hl,g3,aM.mono s' g4,g5⟩
      obtain⟨F2,R2,s2,d2,f2⟩:=h1'.frozen R'
      exact⟨F2,R2,s'.trans s2,.cons d2 (aM.mono s2 d'),fun a ha hn=>f2 a (f' a ha hn) hn⟩
    | some o=>
      have:=R'.sm _ _ hl
      rw [g3] at this;cases this
      exact⟨F',R',s',.cons (dg.mpr ⟨l,us,rfl,.inl (.inl hl),aM.mono s' g4⟩) d',f'⟩
end
section
variable{X:Cx}{K:PySem.W.Frag}{a b c:Expr}{fa fb:FE}{ft fu:FT}{pos:Pos}{es:List Expr}{fs:FA}
def ac(i:Nat):FE:=fun e=>match e[i]? with
  | some (some (.d x))=>some (.d x,e)
  | some (some (.l _))=>some (.s i,e)
  | _=>none
def vC(x:PyData):FE:=fun e=>some (.d x,e)
theorem Aa{i:Nat}{σ:L2.St}{H:Hp}{Q:VK}(h:fE K (ac i) σ H Q):EX i σ H Q:=by
  obtain⟨F,e,r,e',R,hf,q⟩:=h
  unfold ac at hf
  match h1:e[i]?,hf with
  | some (some (.d x)),hf=>
    cases hf
    obtain⟨v,h2,h3⟩:=R.dat i x h1
    exact⟨v,h2,q F H v (dH.refl _ _ _ _) R h3⟩
  | some (some (.n _)),hf=>cases hf
  | some (some (.l xs)),hf=>
    cases hf
    obtain⟨l,vs,h2,h3⟩:=R.own i xs h1
    exact⟨_,h2,q F H _ (dH.refl _ _ _ _) R ⟨h2,xs,h1⟩⟩
  | some none,hf=>cases hf
  | none,hf=>cases hf
theorem qv(i:Nat){x:Str}{pos:Pos}(hN:X.N[i]?=some x)(hv:Dp X.env.scope x)(hd:(x==("__debug__":Str))=false)(hcd:(x==("__classdict__":Str))=false):PE X (.Name x pos) (fE K (ac i)):=(B8 hN hv hd hcd).mono fun _ _ _ h=>Aa h
theorem uc{x:PyData}{v:V}{σ:L2.St}{H:Hp}{Q:VK}(hx:∀F,DA K F x v)(h:fE K (vC x) σ H Q):tC v σ H Q:=by
  obtain⟨F,e,r,e',R,hf,q⟩:=h
  cases hf
  exact q F H v (dH.refl _ _ _ _) R (hx F)
theorem ae{i j pos}:PE X (.Constant (.int i) j pos) (fE K (vC (.int i))):=sr.mono fun _ _ _ h=>uc (fun _=>df.mpr rfl) h
theorem bM{b j pos}:PE X (.Constant (.bool b) j pos) (fE K (vC (.bool b))):=Ea.mono fun _ _ _ h=>uc (fun _=>c_.mpr rfl) h
theorem sy{j pos}:PE X (.Constant .none j pos) (fE K (vC .none)):=B3.mono fun _ _ _ h=>uc (fun _=>gX.mpr rfl) h
theorem pW{x j pos}:PE X (.Constant (.str x) j pos) (fE K (vC (.str x))):=B6.mono fun _ _ _ h=>uc (fun _=>pw.mpr rfl) h
def fv(K:PySem.W.Frag)(r:R2)(g:En→Rv→Rv→Option Rv):Prop:=
  ∀(σ:L2.St) (H0 F H:Hp) (e:En) (x y z:Rv) (v u:V) (Q:VK),a9 K F H σ e→bS K σ H0 F H e x v→bS K σ H0 F H e y u→g e x y=some z→
    (∀F' H' w,dH σ F H e F' H' e→a9 K F' H' σ e→bS K σ H F' H' e z w→Q w H')→r v u H Q
def am(g:En→Rv→Rv→Option Rv)(fa fb:FE):FE:=fun e=>(fa e).bind fun p=>(fb p.2).bind fun q=>(g q.2 p.1 q.1).map fun z=>(z,q.2)
theorem p7{r:R2}{g:En→Rv→Rv→Option Rv}(ho:fv K r g){σ:L2.St}{H:Hp}{Q:VK}(h:fE K (am g fa fb) σ H Q):Dg r (fE K fa) (fE K fb) σ H Q:=by
  obtain⟨F,e,z,e2,R,hf,q⟩:=h
  unfold am at hf
  obtain⟨⟨x,e1⟩,h1,hf⟩:=Option.bind_eq_some_iff.mp hf
  obtain⟨⟨y,e2'⟩,h2,hf⟩:=Option.bind_eq_some_iff.mp hf
  obtain⟨z',h3,hf⟩:=Option.map_eq_some_iff.mp hf
  cases hf
  refine⟨F,e,x,e1,R,h1,fun F1 H1 v X1 R1 A1=>⟨F1,e1,y,_,R1,h2,fun F2 H2 u X2 R2 A2=>?_⟩⟩
  have X12:=X1.trans X2
  refine ho σ H F2 H2 _ x y _ v u Q R2 (A1.ext X2) (A2.weak X1.dom) h3 fun F3 H3 w X3 R3 A3=>?_
  exact q F3 H3 w (X12.trans X3) R3 (A3.weak X12.dom)
theorem oJ{op:Operator}{r:R2}{g:En→Rv→Rv→Option Rv}(hr:eW X (binaryOp op) r)(ho:fv K r g)(ha:PE X a (fE K fa))(hb:PE X b (fE K fb)):PE X (.BinOp a op b pos) (fE K (am g fa fb)):=(Ed hr ha hb).mono fun _ _ _ h=>p7 ho h
theorem Cn{op:CmpOp}{r:R2}{g:En→Rv→Rv→Option Rv}(hr:eW X (compareOp op) r)(ho:fv K r g)(ha:PE X a (fE K fa))(hb:PE X b (fE K fb))(hm:behindInMarks op b=false):PE X (.Compare a [op] [b] pos) (fE K (am g fa fb)):=(ze hr ha hb hm).mono fun _ _ _ h=>p7 ho h
theorem Ei{r:R2}{g:En→Rv→Rv→Option Rv}(hr:ym X r)(ho:fv K r g)(ha:PE X a (fE K fa))(hb:PE X b (fE K fb))(hs:o8 b):PE X (.Subscript a b pos) (fE K (am g fa fb)):=(Ec hr ha hb hs).mono fun _ _ _ h=>p7 ho h
def kO(g:En→Rv→Option Rv)(fa:FE):FE:=fun e=>(fa e).bind fun p=>(g p.2 p.1).map fun z=>(z,p.2)
def C'(K:PySem.W.Frag)(r:V→Hp→VK→Prop)(g:En→Rv→Option Rv):Prop:=
  ∀(σ:L2.St) (H0 F H:Hp) (e:En) (x z:Rv) (v:V) (Q:VK),a9 K F H σ e→bS K σ H0 F H e x v→g e x=some z→
    (∀F' H' w,dH σ F H e F' H' e→a9 K F' H' σ e→bS K σ H F' H' e z w→Q w H')→r v H Q
theorem sQ{r:V→Hp→VK→Prop}{g:En→Rv→Option Rv}(ho:C' K r g){σ:L2.St}{H:Hp}{Q:VK}(h:fE K (kO g fa) σ H Q):GL r (fE K fa) σ H Q:=by
  obtain⟨F,e,z,e2,R,hf,q⟩:=h
  unfold kO at hf
  obtain⟨⟨x,e1⟩,h1,hf⟩:=Option.bind_eq_some_iff.mp hf
  obtain⟨z',h3,hf⟩:=Option.map_eq_some_iff.mp hf
  cases hf
  refine⟨F,e,x,_,R,h1,fun F1 H1 v X1 R1 A1=>?_⟩
  refine ho σ H F1 H1 _ x _ v Q R1 A1 h3 fun F3 H3 w X3 R3 A3=>?_
  exact q F3 H3 w (X1.trans X3) R3 (A3.weak X1.dom)
theorem Ej{op:UnaryOp}{r:V→Hp→VK→Prop}{g:En→Rv→Option Rv}(hr:Fk X (unaryOp op) r)(ho:C' K r g)(ha:PE X a (fE K fa)):PE X (.UnaryOp op a pos) (fE K (kO g fa)):=(Ee hr ha).mono fun _ _ _ h=>sQ ho h
def cF:Rv→Option Bool
  | .d (.bool b)=>some b
  | _=>none
theorem dq{σ:L2.St}{H0 F H:Hp}{e:En}{r:Rv}{v:V}{b:Bool}(h:bS K σ H0 F H e r v)(q:cF r=some b):v=.bl b:=by
  unfold cF at q
  split at q
  · cases q;exact c_.mp (show DA K F (.bool _) v from h)
  · cases q
theorem cz{σ:L2.St}{H0 F H:Hp}{e:En}{b:Bool}:bS K σ H0 F H e (.d (.bool b)) (.bl b):=(c_ (K:=K) (F:=F)).mpr rfl
def av(f:FE):FT:=fun e=>(f e).bind fun p=>(cF p.1).map fun b=>(b,p.2)
theorem nD{σ:L2.St}{H:Hp}{Q:Bool→Hp→Prop}(h:fT K (av fa) σ H Q):fE K fa σ H fun x H'=>∃k,x=.bl k∧Q k H':=by
  obtain⟨F,e,b,e1,R,hf,q⟩:=h
  unfold av at hf
  obtain⟨⟨x,e1'⟩,h1,hf⟩:=Option.bind_eq_some_iff.mp hf
  obtain⟨b',h3,hf⟩:=Option.map_eq_some_iff.mp hf
  cases hf
  exact⟨F,e,x,_,R,h1,fun F1 H1 v X1 R1 A1=>⟨_,dq A1 h3,q F1 H1 X1 R1⟩⟩
theorem Cs{op:CmpOp}{r:R2}{g:En→Rv→Rv→Option Rv}(hr:eW X (compareOp op) r)(ho:fv K r g)(ha:PE X a (fE K fa))(hb:PE X b (fE K fb))(hm:behindInMarks op b=false):PT X (.Compare a [op] [b] pos) (fT K (av (am g fa fb))):=
  (tO hr ha hb hm).mono fun σ H Q h=>by
    obtain⟨F,e,z,e2,R,hf,q⟩:=nD h
    exact p7 ho ⟨F,e,z,e2,R,hf,q⟩
theorem cQ{e:Expr}(h:PE X e (fE K fa))(he:∀whole,isTrue e X.env whole=(do let v ←whole;standAt e.pos;holding [v] (truthy v))):PT X e (fT K (av fa)):=(Ci h he).mono fun _ _ _ h=>nD h
def lQ(f g:FT):FT:=fun e=>(f e).bind fun p=>if p.1=true then g p.2 else some (false,p.2)
def nF(f g:FT):FT:=fun e=>(f e).bind fun p=>if p.1=true then some (true,p.2) else g p.2
def fL(f:FT):FT:=fun e=>(f e).map fun p=>(!p.1,p.2)
theorem z0{σ:L2.St}{H:Hp}{Q:Bool→Hp→Prop}(h:fT K (lQ ft fu) σ H Q):EK (fT K ft) (fT K fu) σ H Q:=by
  obtain⟨F,e,b,e1,R,hf,q⟩:=h
  unfold lQ at hf
  obtain⟨⟨x,e1'⟩,h1,hf⟩:=Option.bind_eq_some_iff.mp hf
  refine⟨F,e,x,e1',R,h1,fun F1 H1 X1 R1=>?_⟩
  cases x with
  | true=>exact⟨F1,e1',b,e1,R1,hf,fun F2 H2 X2 R2=>q F2 H2 (X1.trans X2) R2⟩
  | false=>cases hf;exact q F1 H1 X1 R1
theorem C5{σ:L2.St}{H:Hp}{Q:Bool→Hp→Prop}(h:fT K (nF ft fu) σ H Q):GK (fT K ft) (fT K fu) σ H Q:=by
  obtain⟨F,e,b,e1,R,hf,q⟩:=h
  unfold nF at hf
  obtain⟨⟨x,e1'⟩,h1,hf⟩:=Option.bind_eq_some_iff.mp hf
  refine⟨F,e,x,e1',R,h1,fun F1 H1 X1 R1=>?_⟩
  cases x with
  | false=>exact⟨F1,e1',b,e1,R1,hf,fun F2 H2 X2 R2=>q F2 H2 (X1.trans X2) R2⟩
  | true=>cases hf;exact q F1 H1 X1 R1
theorem z_{σ:L2.St}{H:Hp}{Q:Bool→Hp→Prop}(h:fT K (fL ft) σ H Q):ES (fT K ft) σ H Q:=by
  obtain⟨F,e,b,e1,R,hf,q⟩:=h
  unfold fL at hf
  obtain⟨⟨x,e1'⟩,h1,hf⟩:=Option.map_eq_some_iff.mp hf
  cases hf
  exact⟨F,e,x,_,R,h1,fun F1 H1 X1 R1=>q F1 H1 X1 R1⟩
variable{fm:List Expr}
theorem zE(ha:PT X a (fT K ft)):PW X (.BoolOp .And [a] pos) (fT K ft):=zB ha
theorem h9(ha:PT X a (fT K ft)):PW X (.BoolOp .Or [a] pos) (fT K ft):=Cm ha
theorem Cu(ha:PT X a (fT K ft))(hb:PW X (.BoolOp .And (b::fm) pos) (fT K fu)):PW X (.BoolOp .And (a::b::fm) pos) (fT K (lQ ft fu)):=(Ck ha hb).mono fun _ _ _ h=>z0 h
theorem iV(ha:PT X a (fT K ft))(hb:PW X (.BoolOp .Or (b::fm) pos) (fT K fu)):PW X (.BoolOp .Or (a::b::fm) pos) (fT K (nF ft fu)):=(Eh ha hb).mono fun _ _ _ h=>C5 h
theorem eT(ha:PT X a (fT K ft)):PT X (.UnaryOp .Not a pos) (fT K (fL ft)):=(Cg ha).mono fun _ _ _ h=>z_ h
theorem nQ{e:Expr}(h:PW X e (fT K ft)):PT X e (fT K ft):=h.pt
def gL(f g:FE):FE:=fun e=>(f e).bind fun p=>(cF p.1).bind fun b=>if b=true then g p.2 else some (.d (.bool false),p.2)
def rD(f g:FE):FE:=fun e=>(f e).bind fun p=>(cF p.1).bind fun b=>if b=true then some (.d (.bool true),p.2) else g p.2
def i3(f:FE):FE:=fun e=>(f e).bind fun p=>(cF p.1).map fun b=>(.d (.bool (!b)),p.2)
theorem sx(ha:PE X a (fE K fa))(hb:PE X (.BoolOp .And (b::fm) pos) (fE K fb)):PE X (.BoolOp .And (a::b::fm) pos) (fE K (gL fa fb)):=(B1 ha hb).mono fun σ H Q h=>by
  obtain⟨F,e,z,e2,R,hf,q⟩:=h
  unfold gL at hf
  obtain⟨⟨x,e1⟩,h1,hf⟩:=Option.bind_eq_some_iff.mp hf
  obtain⟨b,h2,hf⟩:=Option.bind_eq_some_iff.mp hf
  refine⟨F,e,x,e1,R,h1,fun F1 H1 v X1 R1 A1=>⟨b,dq A1 h2,?_⟩⟩
  cases b with
  | true=>exact⟨F1,e1,z,e2,R1,hf,fun F2 H2 w X2 R2 A2=>q F2 H2 w (X1.trans X2) R2 (A2.weak X1.dom)⟩
  | false=>cases hf;exact q F1 H1 _ X1 R1 cz
theorem sA{op}(h:PE X a (fE K fa)):PE X (.BoolOp op [a] pos) (fE K fa):=B5 h
theorem Co(ha:PE X a (fE K fa)):PE X (.UnaryOp .Not a pos) (fE K (i3 fa)):=(B4 ha).mono fun σ H Q h=>by
  obtain⟨F,e,z,e2,R,hf,q⟩:=h
  unfold i3 at hf
  obtain⟨⟨x,e1⟩,h1,hf⟩:=Option.bind_eq_some_iff.mp hf
  obtain⟨b,h2,hf⟩:=Option.map_eq_some_iff.mp hf
  cases hf
  exact⟨F,e,x,_,R,h1,fun F1 H1 v X1 R1 A1=>⟨b,dq A1 h2,q F1 H1 _ X1 R1 cz⟩⟩
def AN(t:FT)(f g:FE):FE:=fun e=>(t e).bind fun p=>if p.1=true then f p.2 else g p.2
def iY(g g':En→Rv→Rv→Option Rv)(fa fb fc:FE):FE:=fun e=>(fa e).bind fun p=>(fb p.2).bind fun q=>(g q.2 p.1 q.1).bind fun z=>(cF z).bind fun k=>if k=true then(fc q.2).bind fun w=>(g' w.2 q.1 w.1).map fun z'=>(z',w.2) else some (.d (.bool false),q.2)
theorem vo{r r':R2}{g g':En→Rv→Rv→Option Rv}{fc:FE}(ho:fv K r g)(ho':fv K r' g'){σ:L2.St}{H:Hp}{Q:VK}(h:fE K (iY g g' fa fb fc) σ H Q):xY r r' (fE K fa) (fE K fb) (fE K fc) σ H Q:=by
  obtain⟨F,e,z,e4,R,hf,q⟩:=h
  unfold iY at hf
  obtain⟨⟨x,e1⟩,h1,hf⟩:=Option.bind_eq_some_iff.mp hf
  obtain⟨⟨y,e2⟩,h2,hf⟩:=Option.bind_eq_some_iff.mp hf
  obtain⟨z',h3,hf⟩:=Option.bind_eq_some_iff.mp hf
  obtain⟨k,h4,hf⟩:=Option.bind_eq_some_iff.mp hf
  refine⟨F,e,x,e1,R,h1,fun F1 H1 v X1 R1 A1=>⟨F1,e1,y,e2,R1,h2,fun F2 H2 u X2 R2 A2=>?_⟩⟩
  have X12:=X1.trans X2
  refine ho σ H F2 H2 e2 x y z' v u _ R2 (A1.ext X2) (A2.weak X1.dom) h3 fun F3 H3 w X3 R3 A3=>⟨k,dq A3 h4,?_⟩
  have X13:=X12.trans X3
  cases k with
  | false=>
    cases hf
    exact q F3 H3 _ X13 R3 cz
  | true=>
    obtain⟨⟨w',e3⟩,h5,hf⟩:=Option.bind_eq_some_iff.mp hf
    obtain⟨z2,h6,hf⟩:=Option.map_eq_some_iff.mp hf
    cases hf
    refine⟨F3,_,w',_,R3,h5,fun F4 H4 u4 X4 R4 A4=>?_⟩
    have X14:=X13.trans X4
    refine ho' σ H F4 H4 _ y w' _ u u4 Q R4 (((A2.weak X1.dom).ext X3).ext X4) (A4.weak X13.dom) h6 fun F5 H5 w5 X5 R5 A5=>?_
    exact q F5 H5 w5 (X14.trans X5) R5 (A5.weak X14.dom)
theorem xw{op op':CmpOp}{r r':R2}{g g':En→Rv→Rv→Option Rv}{fc:FE}(hr:eW X (compareOp op) r)(ho:fv K r g)(hr':eW X (compareOp op') r')(ho':fv K r' g')(ha:PE X a (fE K fa))(hb:PE X b (fE K fb))(hc:PE X c (fE K fc))
    (hm:lastMarks [op,op'] [b,c]=false):PE X (.Compare a [op,op'] [b,c] pos) (fE K (iY g g' fa fb fc)):=(wY hr hr' ha hb hc hm).mono fun _ _ _ h=>vo ho ho' h
def ag:FA:=fun e=>some ([],e)
def aa(fa:FE)(fs:FA):FA:=fun e=>(fa e).bind fun p=>(fs p.2).map fun q=>(p.1::q.1,q.2)
theorem ab:PA X [] (fA K ag):=pU.mono fun σ H Q h=>by
  obtain⟨F,e,r,e',R,hf,q⟩:=h
  cases hf
  exact q F H [] (dH.refl _ _ _ _) R rfl
theorem Gf(ha:PE X a (fE K fa))(hr:PA X es (fA K fs))(h:PySem.W.isStarred a=false):PA X (a::es) (fA K (aa fa fs)):=(Gd ha hr h).mono fun σ H Q h=>by
  obtain⟨F,e,z,e2,R,hf,q⟩:=h
  unfold aa at hf
  obtain⟨⟨x,e1⟩,h1,hf⟩:=Option.bind_eq_some_iff.mp hf
  obtain⟨⟨xs,e2'⟩,h2,hf⟩:=Option.map_eq_some_iff.mp hf
  cases hf
  refine⟨F,e,x,e1,R,h1,fun F1 H1 v X1 R1 A1=>⟨F1,e1,xs,_,R1,h2,fun F2 H2 vs X2 R2 A2=>?_⟩⟩
  exact q F2 H2 (v::vs) (X1.trans X2) R2 ⟨v,vs,rfl,A1.ext X2,A2.weak X1.dom⟩
def aW(fs:FA):FE:=fun e=>(fs e).bind fun p=>(fF p.1).bind fun ds=>if ds.length≤1000 then some (.d (.tuple ds),p.2) else none
def cS(fs:FA):FE:=fun e=>(fs e).bind fun p=>(fF p.1).bind fun ds=>if ds.length≤1000 then some (.l ds,p.2) else none
theorem ay{x1}(h:PA X es (fA K fs)):PE X (.Tuple es x1 pos) (fE K (aW fs)):=(B7 h).mono fun σ H Q h=>by
  obtain⟨F,e,z,e2,R,hf,q⟩:=h
  unfold aW at hf
  obtain⟨⟨rs,e1⟩,h1,hf⟩:=Option.bind_eq_some_iff.mp hf
  obtain⟨ds,h2,hf⟩:=Option.bind_eq_some_iff.mp hf
  split at hf
  case isFalse=>cases hf
  case isTrue hl=>
  cases hf
  refine⟨F,e,rs,_,R,h1,fun F1 H1 vs X1 R1 A1=>?_⟩
  obtain⟨F2,R2,s2,d2,f2⟩:=cW.frozen R1 A1 h2
  have hlen:=d2.len
  refine⟨Nat.le_of_lt (oU (by lia)),fun p hp=>?_⟩
  obtain⟨R3,X3⟩:=R2.newT (vs:=vs) hp
  exact q _ _ _ ((X1.frz s2 f2).trans X3) R3 (cP.mpr ⟨p,vs,rfl,.inl (.inl aw),aM.mono X3.sf d2⟩)
theorem bN(h:PA X es (fA K fs)):PE X (.List es pos) (fE K (cS fs)):=(B2 h).mono fun σ H Q h=>by
  obtain⟨F,e,z,e2,R,hf,q⟩:=h
  unfold cS at hf
  obtain⟨⟨rs,e1⟩,h1,hf⟩:=Option.bind_eq_some_iff.mp hf
  obtain⟨ds,h2,hf⟩:=Option.bind_eq_some_iff.mp hf
  split at hf
  case isFalse=>cases hf
  case isTrue hl=>
  cases hf
  refine⟨F,e,rs,_,R,h1,fun F1 H1 vs X1 R1 A1=>?_⟩
  obtain⟨F2,R2,s2,d2,f2⟩:=cW.frozen R1 A1 h2
  have hlen:=d2.len
  refine⟨Nat.le_of_lt (oU (by lia)),fun p hp=>?_⟩
  obtain⟨R3,X3,hF,no⟩:=R2.newL (vs:=vs) hp
  exact q _ _ _ ((X1.frz s2 f2).trans X3) R3 ⟨p,vs,rfl,X1.dom p hp,hF,aw,d2,no⟩
def dY(K:PySem.W.Frag)(r:List V→Hp→VK→Prop)(g:En→List Rv→Option Rv):Prop:=
  ∀(σ:L2.St) (H0 F H:Hp) (e:En) (xs:List Rv) (z:Rv) (vs:List V) (Q:VK),a9 K F H σ e→cW K σ H0 F H e xs vs→g e xs=some z→
    (∀F' H' w,dH σ F H e F' H' e→a9 K F' H' σ e→bS K σ H F' H' e z w→Q w H')→r vs H Q
def aE(g:En→List Rv→Option Rv)(fs:FA):FE:=fun e=>(fs e).bind fun p=>(g p.2 p.1).map fun z=>(z,p.2)
theorem rC{r:List V→Hp→VK→Prop}{g:En→List Rv→Option Rv}(ho:dY K r g){σ:L2.St}{H:Hp}{Q:VK}(h:fE K (aE g fs) σ H Q):Ft r (fA K fs) σ H Q:=by
  obtain⟨F,e,z,e2,R,hf,q⟩:=h
  unfold aE at hf
  obtain⟨⟨x,e1⟩,h1,hf⟩:=Option.bind_eq_some_iff.mp hf
  obtain⟨z',h3,hf⟩:=Option.map_eq_some_iff.mp hf
  cases hf
  refine⟨F,e,x,_,R,h1,fun F1 H1 vs X1 R1 A1=>?_⟩
  refine ho σ H F1 H1 _ x _ vs Q R1 A1 h3 fun F3 H3 w X3 R3 A3=>?_
  exact q F3 H3 w (X1.trans X3) R3 (A3.weak X1.dom)
theorem xu{x:Str}{p pos:Pos}{id:String}{r:List V→Hp→VK→Prop}{g:En→List Rv→Option Rv}(hc:cU X (.builtin id) r)(ho:dY K r g)(hg:Gl X x)(hm:X.mg x=none)(hv:bootBuiltins x=some (.builtin id))(ha:PA X (a::es) (fA K fs))(hn:x≠"__name__")(hdb:(x==("__debug__":Str))=false)
    (he:starEach (a::es) X.env=(false,eval a X.env)::starEach es X.env)(hpl:(backTo pos (starEach es X.env)).any (·.1)=false):PE X (.Call (.Name x p) (a::es) [] pos) (fE K (aE g fs)):=(mU hc hg hm hv ha hn hdb he hpl).mono fun _ _ _ h=>rC ho h
theorem uX{x:Str}{p pos:Pos}{T:String}{r:List V→Hp→VK→Prop}{g:En→List Rv→Option Rv}(hc:cU X (.type T) r)(ho:dY K r g)(hg:Gl X x)(hm:X.mg x=none)(hv:bootBuiltins x=some (.type T))(ha:PA X (a::es) (fA K fs))(hn:x≠"__name__")(hdb:(x==("__debug__":Str))=false)
    (he:starEach (a::es) X.env=(false,eval a X.env)::starEach es X.env)(hpl:(backTo pos (starEach es X.env)).any (·.1)=false):PE X (.Call (.Name x p) (a::es) [] pos) (fE K (aE g fs)):=(ku hc hg hm hv ha hn hdb he hpl).mono fun _ _ _ h=>rC ho h
end
end L2
namespace L2
open PySem PySem.Spec PyProof.Rows
mutual
theorem DA.reads{X:Cx}{pins:List (Addr × Obj)}{σ:L2.St}{H:Hp}{s:Shared}(I:aA X pins σ H s):∀{d:PyData} {v:V} {u:Value},d.canLay0=true→DA X.K H d v→bw v u→∃as,Reads s.heap u d as
  | .none,_,_,_,q,r=>by
    simp only [DA] at q;subst q;cases r;exact⟨_,.none⟩
  | .bool b,_,_,_,q,r=>by
    simp only [DA] at q;subst q;cases r;exact⟨_,.bool b⟩
  | .int i,_,_,_,q,r=>by
    simp only [DA] at q;subst q;obtain⟨t,rfl⟩:=r;exact⟨_,.int i t⟩
  | .str x,_,_,_,q,r=>by
    simp only [DA] at q;subst q;obtain⟨t,rfl⟩:=r;exact⟨_,.str x t⟩
  | .tuple ds,_,_,c,q,r=>by
    simp only [DA] at q
    obtain⟨a,xs,e,hs,rr⟩:=q
    subst e;cases r
    obtain⟨its,rv,⟨o,ho,hc,n,hd⟩,hz⟩:=I.tuple hs
    obtain⟨as,q⟩:=aM.reads I (by simpa [PyData.canLay0] using c) rr rv
    exact⟨_,.tuple ho hc hd q⟩
  | .list ds,_,_,c,q,r=>by
    simp only [DA] at q
    obtain⟨a,xs,e,hs,rr⟩:=q
    subst e;cases r
    obtain⟨its,rv,ht,hz⟩:=I.list hs
    obtain⟨o,ho,hc,n,hd⟩:=ht.isList
    obtain⟨as,q⟩:=aM.reads I (by simpa [PyData.canLay0] using c) rr rv
    exact⟨_,.list ho hc hd q⟩
  | .dict _,_,_,c,_,_=>by simp [PyData.canLay0] at c
theorem aM.reads{X:Cx}{pins:List (Addr × Obj)}{σ:L2.St}{H:Hp}{s:Shared}(I:aA X pins σ H s):∀{ds:List PyData} {xs:List V} {us:List Value},PyData.canLayAll0 ds=true→aM X.K H ds xs→aO xs us→∃as,ReadsAll s.heap us ds as
  | [],_,_,_,q,r=>by
    simp only [aM] at q;subst q;cases r;exact⟨_,.nil⟩
  | d::ds,_,_,c,q,r=>by
    simp only [aM] at q
    simp only [PyData.canLayAll0,Bool.and_eq_true] at c
    obtain⟨x,rr,e,a,b⟩:=q
    subst e
    cases r with
    | cons p p'=>
      obtain⟨as,q1⟩:=DA.reads I c.1 a p
      obtain⟨bs,q2⟩:=aM.reads I c.2 b p'
      exact⟨_,.cons q1 q2⟩
end
def iE(e:En):Rv→Option PyData
  | .d x=>some x
  | .l xs=>some (.list xs)
  | .s i=>match e[i]? with
    | some (some (.l xs))=>some (.list xs)
    | _=>none
theorem iF{K:PySem.W.Frag}{σ:L2.St}{H0 F H:Hp}{e:En}{r:Rv}{v:V}{d:PyData}(R:a9 K F H σ e)(h:bS K σ H0 F H e r v)(q:iE e r=some d):DA K H d v:=by
  cases r with
  | d x=>cases q;exact DA.mono R.sm h
  | l xs=>
    cases q
    obtain⟨l,vs,rfl,h1,h2,h3,h4,_⟩:=h
    exact dg.mpr ⟨l,vs,rfl,.inl (.inl h3),aM.mono R.sm h4⟩
  | s i=>
    obtain⟨h1,ys,h2⟩:=h
    simp only [iE,h2] at q
    cases q
    obtain⟨l,vs,e1,e2,e3,e4⟩:=R.own i _ h2
    rw [h1] at e1;cases e1
    exact dg.mpr ⟨l,vs,rfl,.inl (.inl e3),aM.mono R.sm e4⟩
section
variable{X:Cx}{K:PySem.W.Frag}
def bh:Rv→Option Int
  | .d (.int i)=>some i
  | _=>none
theorem bD{σ:L2.St}{H0 F H:Hp}{e:En}{r:Rv}{v:V}{i:Int}(h:bS K σ H0 F H e r v)(q:bh r=some i):v=.int i:=by
  unfold bh at q
  split at q
  · cases q;exact df.mp (show DA K F (.int _) v from h)
  · cases q
theorem m6{σ:L2.St}{H0 F H:Hp}{e:En}{i:Int}:bS K σ H0 F H e (.d (.int i)) (.int i):=(df (K:=K) (F:=F)).mpr rfl
def gI(C:Int→Int→Bool)(f:Int→Int→PyData):En→Rv→Rv→Option Rv:=fun _ x y=>(bh x).bind fun i=>(bh y).bind fun j=>if C i j=true then some (.d (f i j)) else none
theorem qV{C:Int→Int→Prop}{c:Int→Int→Bool}{g:Int→Int→V}{f:Int→Int→PyData}(hc:∀i j,c i j=true→C i j)(hf:∀F i j,DA K F (f i j) (g i j)):fv K (rI C g) (gI c f):=by
  intro σ H0 F H e x y z v u Q R A B hg q
  unfold gI at hg
  obtain⟨i,h1,hg⟩:=Option.bind_eq_some_iff.mp hg
  obtain⟨j,h2,hg⟩:=Option.bind_eq_some_iff.mp hg
  split at hg
  case isFalse=>cases hg
  case isTrue hh=>
  cases hg
  exact⟨i,j,bD A h1,bD B h2,hc i j hh,q F H _ (dH.refl _ _ _ _) R (hf F i j)⟩
theorem iT{g:Int→Int→V}{f:Int→Int→PyData}(hf:∀F i j,DA K F (f i j) (g i j)):fv K (sC g) (gI (fun _ _=>true) f):=by
  intro σ H0 F H e x y z v u Q R A B hg q
  obtain⟨i,j,h1,h2,h3,h4⟩:=qV (K:=K) (C:=fun _ _=>True) (c:=fun _ _=>true) (g:=g) (f:=f) (fun _ _ _=>trivial) hf σ H0 F H e x y z v u Q R A B hg q
  exact⟨i,j,h1,h2,h4⟩
def vy(g g':En→Rv→Rv→Option Rv):En→Rv→Rv→Option Rv:=fun e x y=>(g e x y).or (g' e x y)
theorem fv.or{r r':R2}{g g':En→Rv→Rv→Option Rv}(h:fv K r g)(h':fv K r' g'):fv K (fun x y H Q=>r x y H Q∨r' x y H Q) (vy g g'):=by
  intro σ H0 F H e x y z v u Q R A B hg q
  unfold vy at hg
  cases e1:g e x y with
  | some w=>
    rw [e1] at hg
    cases hg
    exact .inl (h σ H0 F H e x y _ v u Q R A B e1 q)
  | none=>
    rw [e1] at hg
    exact .inr (h' σ H0 F H e x y _ v u Q R A B hg q)
def wg:=gI (fun _ _=>true) fun i j=>.int (i+j)
def gY:=gI (fun _ _=>true) fun i j=>.int (i - j)
def ib(i:Int):Bool:=decide (-(2 ^ 64) < i)&&decide (i < 2 ^ 64)
def Dx(n:Nat)(i:Int):Bool:=decide (i.natAbs < 2 ^ n)
theorem jH{n:Nat}{i:Int}:Dx n i=true↔ Bt n i:=by unfold Dx Bt;exact decide_eq_true_iff
def ko(i j:Int):Bool:=ib i || ib j || (Dx 4000 i&&Dx 4000 j)
def qu:=gI ko fun i j=>.int (i*j)
def bI:=gI (fun _ j=>j != 0&&Dx 8000 j) fun i j=>.int (i.fdiv j)
def aR:=gI (fun _ j=>j != 0) fun i j=>.int (i.fmod j)
def xk(i j:Int):Bool:=decide (0≤j)&&decide (j≤1000000)&&ib i
def pB:=gI xk fun i j=>.int (i ^ j.toNat)
theorem jC{i:Int}(h:ib i=true): -(2 ^ 64) < i∧i < 2 ^ 64:=by
  unfold ib at h
  rw [Bool.and_eq_true,decide_eq_true_iff,decide_eq_true_iff] at h
  exact h
theorem zu{i j:Int}(h:xk i j=true):AR i j:=by
  unfold xk at h
  rw [Bool.and_eq_true,Bool.and_eq_true,decide_eq_true_iff,decide_eq_true_iff] at h
  have:=jC h.2
  exact⟨h.1.1,h.1.2,by lia⟩
def sU(i j:Int):Prop:=yk i j∨Af i j
theorem y8:eW X (binaryOp .Mult) (rI sU fun i j=>.int (i*j)):=by
  intro pins s σ H x y v u Q I rx ry h
  obtain⟨i,j,e1,e2,h1,q⟩:=h
  rcases h1 with h1 | h1
  · exact BV pins s σ H x y v u Q I rx ry ⟨i,j,e1,e2,h1,q⟩
  · exact y9 pins s σ H x y v u Q I rx ry ⟨i,j,e1,e2,h1,q⟩
theorem yT{i j:Int}(h:ko i j=true):sU i j:=by
  unfold ko at h
  rw [Bool.or_eq_true,Bool.or_eq_true,Bool.and_eq_true] at h
  rcases h with (h | h) | h
  · exact .inl (.inl (jC h))
  · exact .inl (.inr (jC h))
  · exact .inr ⟨jH.mp h.1,jH.mp h.2⟩
theorem Bz:fv K (rI sU fun i j=>.int (i*j)) qu:=qV (fun _ _ h=>yT h) fun _ _ _=>df.mpr rfl
theorem EJ:fv K (sC fun i j=>.int (i - j)) gY:=iT fun _ _ _=>df.mpr rfl
theorem A9:fv K (rI Ae fun i j=>.int (i.fdiv j)) bI:=qV (fun i j h=>by
  rw [Bool.and_eq_true] at h
  exact⟨by simpa using h.1,jH.mp h.2⟩) fun _ _ _=>df.mpr rfl
theorem D2:fv K (rI (fun _ j=>j≠0) fun i j=>.int (i.fmod j)) aR:=qV (fun i j h=>by simpa using h) fun _ _ _=>df.mpr rfl
theorem Ef:fv K (rI AR fun i j=>.int (i ^ j.toNat)) pB:=qV (fun _ _ h=>zu h) fun _ _ _=>df.mpr rfl
def qr:En→Rv→Rv→Option Rv:=fun e x y=>match dU e x,dU e y with
  | some (false,xs),some (false,ys)=>if xs.length+ys.length≤1000000 then some (.d (.tuple (xs++ys))) else none
  | _,_=>none
theorem A6:fv K (xB K) qr:=by
  intro σ H0 F H e x y z v u Q R A B hg q
  unfold qr at hg
  match h1:dU e x,h2:dU e y,hg with
  | some (false,xs),some (false,ys),hg=>
    obtain⟨p,vs,rfl,d1,s1⟩:=cB R A h1
    obtain⟨p',us,rfl,d2,s2⟩:=cB R B h2
    dsimp only at hg
    split at hg
    case isFalse=>cases hg
    case isTrue hl=>
    cases hg
    have l1:=d1.len
    have l2:=d2.len
    have sl:sizeLine=16777216:=sizeLine_eq
    refine⟨p,p',vs,us,rfl,rfl,s1,s2,by lia,fun t H' sm hT=>?_⟩
    obtain⟨F',R',X',hF⟩:=R.growT sm hT
    exact q F' H' _ X' R' (cP.mpr ⟨t,_,rfl,hF,(d1.append d2).mono X'.sf⟩)
def se(e:En):Rv→Option (List PyData)
  | .l xs=>some xs
  | .s i=>match e[i]? with
    | some (some (.l xs))=>some xs
    | _=>none
  | _=>none
theorem pM{σ:L2.St}{H0 F H:Hp}{e:En}{r:Rv}{v:V}(R:a9 K F H σ e)(h:bS K σ H0 F H e r v){xs:List PyData}(q:se e r=some xs):∃p vs,v=.ref p∧F p=none∧H p=some (.lst vs)∧aM K F xs vs:=by
  cases r with
  | d x=>cases q
  | l ys=>
    cases q
    obtain⟨l,vs,e1,h1,h2,h3,h4,_⟩:=h
    exact⟨l,vs,e1,h2,h3,h4⟩
  | s i=>
    obtain⟨h1,ys,h2⟩:=h
    simp only [se,h2] at q
    cases q
    obtain⟨l,vs,e1,e2,e3,e4⟩:=R.own i _ h2
    rw [h1] at e1;cases e1
    exact⟨l,vs,rfl,e2,e3,e4⟩
def tH:En→Rv→Rv→Option Rv:=fun e x y=>(se e x).bind fun xs=>(se e y).bind fun ys=>if xs.length+ys.length≤1000000 then some (.l (xs++ys)) else none
theorem A0:fv K Cv tH:=by
  intro σ H0 F H e x y z v u Q R A B hg q
  unfold tH at hg
  obtain⟨xs,h1,hg⟩:=Option.bind_eq_some_iff.mp hg
  obtain⟨ys,h2,hg⟩:=Option.bind_eq_some_iff.mp hg
  split at hg
  case isFalse=>cases hg
  case isTrue hl=>
  cases hg
  obtain⟨p,vs,rfl,f1,s1,d1⟩:=pM R A h1
  obtain⟨p',us,rfl,f2,s2,d2⟩:=pM R B h2
  have l1:=d1.len
  have l2:=d2.len
  have sl:sizeLine=16777216:=sizeLine_eq
  refine⟨p,p',vs,us,rfl,rfl,s1,s2,by lia,fun t ht=>?_⟩
  obtain⟨R3,X3,hF,no⟩:=R.newL (vs:=vs++us) ht
  exact q _ _ _ X3 R3 ⟨t,_,rfl,ht,hF,aw,d1.append d2,no⟩
def ba:En→Rv→Rv→Option Rv:=vy wg (vy qr tH)
def AH(K:PySem.W.Frag):R2:=fun x y H Q=>sC (fun i j=>.int (i+j)) x y H Q∨(xB K x y H Q∨Cv x y H Q)
theorem y0:eW X (binaryOp .Add) (AH X.K):=BK.or (y2.or BM)
theorem Dr:fv K (AH K) ba:=fv.or (iT fun _ _ _=>df.mpr rfl) (fv.or A6 A0)
def qA:En→Rv→Rv→Option Rv:=fun e x y=>match dU e x,bh y with
  | some (false,[d]),some k=>if 0≤k∧k≤100000 then some (.d (.tuple (List.replicate k.toNat d))) else none
  | _,_=>none
theorem aM.rep{F:Hp}{d:PyData}{v:V}(h:DA K F d v):∀n,aM K F (List.replicate n d) (List.replicate n v)
  | 0=>aM.nil
  | n+1=>aM.cons h (aM.rep h n)
theorem CA:fv K (xD K) qA:=by
  intro σ H0 F H e x y z v u Q R A B hg q
  unfold qA at hg
  match h1:dU e x,h2:bh y,hg with
  | some (false,[d]),some k,hg=>
    obtain⟨p,vs,rfl,d1,s1⟩:=cB R A h1
    dsimp only at hg
    split at hg
    case isFalse=>cases hg
    case isTrue hl=>
    cases hg
    have hd:=d1
    simp only [aM] at hd
    obtain⟨w,r,e1,hw,e2⟩:=hd
    subst e2 e1
    refine⟨p,k,w,rfl,bD B h2,s1,hl.1,hl.2,fun t H' sm hT=>?_⟩
    obtain⟨F',R',X',hF⟩:=R.growT sm hT
    exact q F' H' _ X' R' (cP.mpr ⟨t,_,rfl,hF,(aM.rep hw _).mono X'.sf⟩)
def qz:En→Rv→Rv→Option Rv:=fun e x y=>(se e x).bind fun xs=>(bh y).bind fun k=>if -100000≤k∧k≤100000∧xs.length*k.toNat≤1000000 then some (.l (List.replicate k.toNat xs).flatten) else none
theorem aM.reps{F:Hp}{ds:List PyData}{vs:List V}(h:aM K F ds vs):∀n,aM K F (List.replicate n ds).flatten (List.replicate n vs).flatten
  | 0=>aM.nil
  | n+1=>by simpa [List.replicate_succ] using aM.append h (aM.reps h n)
theorem Cz:fv K Cy qz:=by
  intro σ H0 F H e x y z v u Q R A B hg q
  unfold qz at hg
  obtain⟨xs,h1,hg⟩:=Option.bind_eq_some_iff.mp hg
  obtain⟨k,h2,hg⟩:=Option.bind_eq_some_iff.mp hg
  split at hg
  case isFalse=>cases hg
  case isTrue hl=>
  cases hg
  obtain⟨p,vs,rfl,f1,s1,d1⟩:=pM R A h1
  have l1:=d1.len
  have sl:sizeLine=16777216:=sizeLine_eq
  refine⟨p,k,vs,rfl,bD B h2,s1,by lia,by lia,by rw [←l1];lia,fun t ht=>?_⟩
  obtain⟨R3,X3,hF,no⟩:=R.newL (vs:=(List.replicate k.toNat vs).flatten) ht
  exact q _ _ _ X3 R3 ⟨t,_,rfl,ht,hF,aw,aM.reps d1 _,no⟩
def jx:En→Rv→Rv→Option Rv:=vy qu (vy qA qz)
def AI(K:PySem.W.Frag):R2:=fun x y H Q=>rI sU (fun i j=>.int (i*j)) x y H Q∨(xD K x y H Q∨Cy x y H Q)
theorem y6:eW X (binaryOp .Mult) (AI X.K):=y8.or (za.or BZ)
theorem D3:fv K (AI K) jx:=fv.or Bz (fv.or CA Cz)
def Au:=gI (fun _ _=>true) fun i j=>.bool (decide (i < j))
def Ba:=gI (fun _ _=>true) fun i j=>.bool (decide (i≤j))
def yB:=gI (fun _ _=>true) fun i j=>.bool (decide (j < i))
def Ar:=gI (fun _ _=>true) fun i j=>.bool (decide (j≤i))
theorem Gc:fv K (sC fun i j=>.bl (decide (i < j))) Au:=iT fun _ _ _=>c_.mpr rfl
theorem Gb:fv K (sC fun i j=>.bl (decide (i≤j))) Ba:=iT fun _ _ _=>c_.mpr rfl
theorem FX:fv K (sC fun i j=>.bl (decide (j < i))) yB:=iT fun _ _ _=>c_.mpr rfl
theorem FW:fv K (sC fun i j=>.bl (decide (j≤i))) Ar:=iT fun _ _ _=>c_.mpr rfl
def Cw(K:PySem.W.Frag)(neg:Bool):R2:=fun x y H Q=>∃a b,DA K H a x∧DA K H b y∧SeqAt.shaped a=true∧SeqAt.shaped b=true∧Q (.bl (if neg then !PyData.eqv a b else PyData.eqv a b)) H
theorem BN{k:Nat}(hr:cO k X.A):eW X (compareOp .Eq) (Cw X.K false):=by
  intro pins s σ H x y v u Q I rx ry h
  obtain⟨a,b,ha,hb,s1,s2,q⟩:=h
  obtain⟨as,ra⟩:=DA.reads I (SeqAt.canLay_of_shaped s1) ha rx
  obtain⟨bs,rb⟩:=DA.reads I (SeqAt.canLay_of_shaped s2) hb ry
  exact SeqAt.compareEq_shaped ra rb s1 s2 hr.units ⟨.bl _,H,I,rfl,q⟩
theorem BW{k:Nat}(hr:cO k X.A):eW X (compareOp .NotEq) (Cw X.K true):=by
  intro pins s σ H x y v u Q I rx ry h
  obtain⟨a,b,ha,hb,s1,s2,q⟩:=h
  obtain⟨as,ra⟩:=DA.reads I (SeqAt.canLay_of_shaped s1) ha rx
  obtain⟨bs,rb⟩:=DA.reads I (SeqAt.canLay_of_shaped s2) hb ry
  exact SeqAt.compareNe_shaped ra rb s1 s2 hr.units ⟨.bl _,H,I,rfl,q⟩
def bL(neg:Bool):En→Rv→Rv→Option Rv:=fun e x y=>(iE e x).bind fun a=>(iE e y).bind fun b=>if (SeqAt.shaped a&&SeqAt.shaped b)=true then some (.d (.bool (if neg then !PyData.eqv a b else PyData.eqv a b))) else none
theorem Aq{neg:Bool}:fv K (Cw K neg) (bL neg):=by
  intro σ H0 F H e x y z v u Q R A B hg q
  unfold bL at hg
  obtain⟨a,h1,hg⟩:=Option.bind_eq_some_iff.mp hg
  obtain⟨b,h2,hg⟩:=Option.bind_eq_some_iff.mp hg
  split at hg
  case isFalse=>cases hg
  case isTrue hl=>
  cases hg
  rw [Bool.and_eq_true] at hl
  exact⟨a,b,iF R A h1,iF R B h2,hl.1,hl.2,q F H _ (dH.refl _ _ _ _) R cz⟩
def Em(K:PySem.W.Frag)(neg:Bool):R2:=fun x y H Q=>∃a xs,DA K H a x∧(DA K H (.list xs) y∨DA K H (.tuple xs) y)∧a.canLay0=true∧a.depth≤60∧PyData.canLayAll0 xs=true∧Q (.bl (if neg then !(xs.any fun y=>PyData.eqv y a) else xs.any fun y=>PyData.eqv y a)) H
theorem BQ{k:Nat}(hr:cO k X.A):eW X (compareOp .In) (Em X.K false):=by
  intro pins s σ H x y v u Q I rx ry h
  obtain⟨a,xs,ha,hb,s1,s2,s3,q⟩:=h
  obtain⟨as,ra⟩:=DA.reads I s1 ha rx
  have hu:=hr.units
  rcases hb with hb | hb
  · obtain⟨bs,rb⟩:=DA.reads I (by simpa [PyData.canLay0] using s3) hb ry
    exact PySem.SeqAt.in_list_reads rb ra s3 s1 (by lia) ⟨.bl _,H,I,rfl,q⟩
  · obtain⟨bs,rb⟩:=DA.reads I (by simpa [PyData.canLay0] using s3) hb ry
    exact PySem.SeqAt.in_tuple_reads rb ra s3 s1 (by lia) ⟨.bl _,H,I,rfl,q⟩
def yh(neg:Bool):En→Rv→Rv→Option Rv:=fun e x y=>(iE e x).bind fun a=>(dU e y).bind fun p=>if (a.canLay0&&decide (a.depth≤60)&&PyData.canLayAll0 p.2)=true then some (.d (.bool (if neg then !(p.2.any fun y=>PyData.eqv y a) else p.2.any fun y=>PyData.eqv y a))) else none
theorem FZ{neg:Bool}:fv K (Em K neg) (yh neg):=by
  intro σ H0 F H e x y z v u Q R A B hg q
  unfold yh at hg
  obtain⟨a,h1,hg⟩:=Option.bind_eq_some_iff.mp hg
  obtain⟨⟨b,xs⟩,h2,hg⟩:=Option.bind_eq_some_iff.mp hg
  split at hg
  case isFalse=>cases hg
  case isTrue hl=>
  cases hg
  rw [Bool.and_eq_true,Bool.and_eq_true,decide_eq_true_iff] at hl
  obtain⟨p,vs,rfl,d1,s1⟩:=cB R B h2
  refine⟨a,xs,iF R A h1,?_,hl.1.1,hl.1.2,hl.2,q F H _ (dH.refl _ _ _ _) R cz⟩
  cases b with
  | true=>exact .inl (dg.mpr ⟨p,vs,rfl,s1,d1.mono R.sm⟩)
  | false=>exact .inr (cP.mpr ⟨p,vs,rfl,s1,d1.mono R.sm⟩)
def pF:PyData→Bool
  | .none=>true
  | _=>false
theorem om{F:Hp}{d:PyData}{v:V}(h:DA K F d v):decide (v=.non)=pF d:=by
  cases d with
  | none=>rw [gX.mp h];rfl
  | bool b=>rw [c_.mp h];rfl
  | int b=>rw [df.mp h];rfl
  | str b=>rw [pw.mp h];rfl
  | tuple b=>obtain⟨a,_,e,_⟩:=cP.mp h;rw [e];rfl
  | list b=>obtain⟨a,_,e,_⟩:=dg.mp h;rw [e];rfl
  | dict b=>simp only [DA] at h;obtain⟨a,m,rfl,_⟩:=h;rfl
def uA(neg:Bool):En→Rv→Rv→Option Rv:=fun e x y=>(iE e x).bind fun a=>match y with
  | .d .none=>some (.d (.bool (if neg then !pF a else pF a)))
  | _=>none
def uw(neg:Bool):En→Rv→Rv→Option Rv:=fun e x y=>(cF x).bind fun a=>(cF y).bind fun b=>some (.d (.bool (if neg then !(a==b) else a==b)))
theorem DQ:fv K (fun x y H Q=>y=.non∧Q (.bl (decide (x=.non))) H) (uA false):=by
  intro σ H0 F H e x y z v u Q R A B hg q
  unfold uA at hg
  obtain⟨a,h1,hg⟩:=Option.bind_eq_some_iff.mp hg
  split at hg
  · cases hg
    refine⟨gX.mp (show DA K F .none u from B),?_⟩
    rw [om (iF R A h1)]
    exact q F H _ (dH.refl _ _ _ _) R cz
  · cases hg
theorem BC:fv K (fun x y H Q=>y=.non∧Q (.bl (!decide (x=.non))) H) (uA true):=by
  intro σ H0 F H e x y z v u Q R A B hg q
  unfold uA at hg
  obtain⟨a,h1,hg⟩:=Option.bind_eq_some_iff.mp hg
  split at hg
  · cases hg
    refine⟨gX.mp (show DA K F .none u from B),?_⟩
    rw [om (iF R A h1)]
    exact q F H _ (dH.refl _ _ _ _) R cz
  · cases hg
theorem DP:fv K (fun x y H Q=>∃b c,x=.bl b∧y=.bl c∧Q (.bl (b==c)) H) (uw false):=by
  intro σ H0 F H e x y z v u Q R A B hg q
  unfold uw at hg
  obtain⟨a,h1,hg⟩:=Option.bind_eq_some_iff.mp hg
  obtain⟨b,h2,hg⟩:=Option.bind_eq_some_iff.mp hg
  cases hg
  exact⟨a,b,dq A h1,dq B h2,q F H _ (dH.refl _ _ _ _) R cz⟩
theorem wu:fv K (fun x y H Q=>∃b c,x=.bl b∧y=.bl c∧Q (.bl (!(b==c))) H) (uw true):=by
  intro σ H0 F H e x y z v u Q R A B hg q
  unfold uw at hg
  obtain⟨a,h1,hg⟩:=Option.bind_eq_some_iff.mp hg
  obtain⟨b,h2,hg⟩:=Option.bind_eq_some_iff.mp hg
  cases hg
  exact⟨a,b,dq A h1,dq B h2,q F H _ (dH.refl _ _ _ _) R cz⟩
def DK:En→Rv→Rv→Option Rv:=vy (uA false) (uw false)
def mC:En→Rv→Rv→Option Rv:=vy (uA true) (uw true)
def Eo:R2:=fun x y H Q=>(y=.non∧Q (.bl (decide (x=.non))) H)∨∃b c,x=.bl b∧y=.bl c∧Q (.bl (b==c)) H
def tR:R2:=fun x y H Q=>(y=.non∧Q (.bl (!decide (x=.non))) H)∨∃b c,x=.bl b∧y=.bl c∧Q (.bl (!(b==c))) H
theorem BR:eW X (compareOp .Is) Eo:=BU.or BS
theorem uR:eW X (compareOp .IsNot) tR:=y_.or uS
theorem F8:fv K Eo DK:=fv.or DQ DP
theorem yE:fv K tR mC:=fv.or BC wu
def dZ:En→Rv→Rv→Option Rv:=fun e x y=>(dU e x).bind fun p=>(bh y).bind fun i=>(atI p.2 i).map .d
def Ep(K:PySem.W.Frag):R2:=fun x y H Q=>Er K x y H Q∨Es K x y H Q
theorem F9:ym X (Ep X.K):=yG.or Bj
theorem aM.atI{F:Hp}{ds:List PyData}{vs:List V}(h:aM K F ds vs){i:Int}{d:PyData}(q:atI ds i=some d):∃v,L2.atI vs i=some v∧DA K F d v:=by
  unfold L2.atI at q ⊢
  obtain⟨j,h1,h2⟩:=Option.bind_eq_some_iff.mp q
  obtain⟨v,h3,h4⟩:=h.get h2
  exact⟨v,by rw [←h.len,h1];exact h3,h4⟩
theorem F_:fv K (Ep K) dZ:=by
  intro σ H0 F H e x y z v u Q R A B hg q
  unfold dZ at hg
  obtain⟨⟨b,xs⟩,h1,hg⟩:=Option.bind_eq_some_iff.mp hg
  obtain⟨i,h2,hg⟩:=Option.bind_eq_some_iff.mp hg
  obtain⟨d,h3,hg⟩:=Option.map_eq_some_iff.mp hg
  cases hg
  obtain⟨p,vs,rfl,d1,s1⟩:=cB R A h1
  obtain⟨w,h4,h5⟩:=d1.atI h3
  have fin:=q F H w (dH.refl _ _ _ _) R h5
  cases b with
  | true=>exact .inl ⟨p,vs,i,w,rfl,bD B h2,s1,h4,fin⟩
  | false=>exact .inr ⟨p,vs,i,w,rfl,bD B h2,s1,h4,fin⟩
end
end L2
namespace HT
open PySem PySem.Spec PyProof.Rows
section
variable{prog:Program}{w:World}{A:Around}{E:Value→Shared→Prop}{s:Shared}
theorem getItem_tuple_all{t sl:Addr}{items:Array Value}{vl vu:Value}{lo hi:Option Int}{Q:Value→Shared→Prop}(ht:IsTup s.heap t items)(hs:s.heap.IsSliceOf sl vl vu .none)(pl:IsPart vl lo)(pu:IsPart vu hi)
    (hw:sIx items.size 0 lo=0∧sIx items.size items.size hi=items.size)
    (h:Q (.ref t) s):wpAny (model prog w) A (getItem (.ref t) (.ref sl)) Q E s:=by
  obtain⟨os,hos,hcs,hds⟩:=id hs
  have hTs:s.TypeIs (.ref sl) "slice":=⟨os,hos,hcs⟩
  unfold getItem
  try with_reducible refine wpAny_holding ?_
  first | refine wpAny_bind (wpAny_pure ?_) | skip
  refine wpAny_bind (wpAny_sequenceKey ht.typeIs (by decide) ?_)
  refine wpAny_bind (wpAny_callSpecial?_slot (name:=Str.ofString "__getitem__") ht.typeIs PyProof.Rows.slot_tuple_getitem
    (wpAny_call_entry PyProof.Rows.slot_tuple_getitem ht.typeIs entry_tuple_getitem ?_ (args_tuple_getitem _ _)))
  show wpAny _ _ (Builtin.Tuple.tupleItemsOf (.ref t) >>= _) _ _ s
  refine wpAny_bind (tupleItemsOf_ ht ?_)
  refine wpAny_bind (wpAny_typeOf hTs ?_)
  rw [if_pos (by decide)]
  refine wpAny_bind (gK hs pl pu ?_)
  have hno:(((sIx items.size 0 lo:Nat):Int)==0&&(1:Int)==1&&(sIx items.size items.size hi - sIx items.size 0 lo)==items.size)=true:=by
    rw [hw.1,hw.2];simp
  show wpAny _ _ (if (((sIx items.size 0 lo:Nat):Int)==0&&(1:Int)==1&&(sIx items.size items.size hi - sIx items.size 0 lo)==items.size)=true then _ else _) _ _ s
  rw [if_pos hno]
  unfold Builtin.Tuple.tupleIsExact
  refine wpAny_bind (wpAny_bind (wpAny_typeOf ht.typeIs (wpAny_pure ?_)))
  rw [if_pos (by decide)]
  exact wpAny_bind (wpAny_rule (wpAny_pure ⟨_,rfl,wpAny_pure h⟩))
end
end HT
namespace L2
open PySem PySem.Spec PyProof.Rows
section
variable{X:Cx}{K:PySem.W.Frag}{a:Expr}{fa:FE}{lo hi:Option Expr}{pos p2:Pos}
def cutD(xs:List PyData)(lo hi:Option Int):List PyData:=(xs.drop (HT.sIx xs.length 0 lo)).take (HT.sIx xs.length xs.length hi - HT.sIx xs.length 0 lo)
def EA(K:PySem.W.Frag):V→Option Int→Option Int→Hp→VK→Prop:=fun x lo hi H Q=>∃a xs,x=.ref a∧bX K H a xs∧
  (HT.sIx xs.length 0 lo=0∧HT.sIx xs.length xs.length hi=xs.length)∧Q (.ref a) H
theorem zN:yo X (EA X.K):=by
  intro pins s σ H x v vl vu lo hi sl Q I rx hs pl pu h
  obtain⟨a,xs,rfl,hx,hw,q⟩:=h
  cases rx
  obtain⟨its,r,ht,hz⟩:=I.tuple hx
  have hlen:its.toArray.size=xs.length:=by rw [List.size_toArray];exact r.length.symm
  refine⟨"tuple",_,PyProof.Rows.slot_tuple_getitem.lookup,ht.typeIs,?_⟩
  exact HT.getItem_tuple_all ht hs pl pu (by rw [hlen];exact hw) ⟨.ref a,H,I,rfl,q⟩
def Gh(K:PySem.W.Frag):V→Option Int→Option Int→Hp→VK→Prop:=fun x lo hi H Q=>Ez K x lo hi H Q∨(EA K x lo hi H Q∨Ey K x lo hi H Q)
theorem Gi:yo X (Gh X.K):=CM.or (zN.or zM)
abbrev FO:=En→Option (Option Int × En)
def fO(K:PySem.W.Frag)(f:FO):TO:=fun σ H Q=>∃F e o e',a9 K F H σ e∧f e=some (o,e')∧∀F' H',dH σ F H e F' H' e'→a9 K F' H' σ e'→Q o H'
theorem PO.mono{e:Option Expr}{t t':TO}(h:PO X e t)(m:∀σ H Q,t' σ H Q→t σ H Q):PO X e t':=fun pins s σ H Q I q=>h pins s σ H Q I (m σ H Q q)
def bG:FO:=fun e=>some (none,e)
def bE(f:FE):FO:=fun e=>(f e).bind fun p=>(bh p.1).map fun i=>(some i,p.2)
theorem cx:PO X none (fO K bG):=zq.mono fun σ H Q h=>by
  obtain⟨F,e,o,e',R,hf,q⟩:=h
  cases hf
  exact q F H (dH.refl _ _ _ _) R
theorem cy(h:PE X a (fE K fa)):PO X (some a) (fO K (bE fa)):=(zr h).mono fun σ H Q h=>by
  obtain⟨F,e,o,e',R,hf,q⟩:=h
  unfold bE at hf
  obtain⟨⟨x,e1⟩,h1,hf⟩:=Option.bind_eq_some_iff.mp hf
  obtain⟨i,h2,hf⟩:=Option.map_eq_some_iff.mp hf
  cases hf
  exact⟨F,e,x,_,R,h1,fun F1 H1 v X1 R1 A1=>⟨i,bD A1 h2,q F1 H1 X1 R1⟩⟩
def FU(e:En)(x:Rv)(lo hi:Option Int):Option Rv:=(dU e x).map fun p=>if p.1=true then .l (cutD p.2 lo hi) else .d (.tuple (cutD p.2 lo hi))
def jd(fa:FE)(fl fh:FO):FE:=fun e=>(fa e).bind fun p=>(fl p.2).bind fun l=>(fh l.2).bind fun h=>(FU h.2 p.1 l.1 h.1).map fun z=>(z,h.2)
theorem vY{F:Hp}{ds:List PyData}{vs:List V}(h:aM K F ds vs)(lo hi:Option Int):aM K F (cutD ds lo hi) (nK vs lo hi):=by
  unfold cutD nK
  rw [h.len]
  exact(h.drop _).take _
theorem yv{α:Type}{xs:List α}{lo hi:Option Int}(h:HT.sIx xs.length 0 lo=0∧HT.sIx xs.length xs.length hi=xs.length):(xs.drop (HT.sIx xs.length 0 lo)).take (HT.sIx xs.length xs.length hi - HT.sIx xs.length 0 lo)=xs:=by
  rw [h.1,h.2];simp
theorem xA{fl fh:FO}(he:PE X a (fE X.K fa))(hl:PO X lo (fO X.K fl))(hh:PO X hi (fO X.K fh)):PE X (.Subscript a (.Slice lo hi none p2) pos) (fE X.K (jd fa fl fh)):=(w_ Gi he hl hh).mono fun σ H Q h=>by
  obtain⟨F,e,z,e',R,hf,q⟩:=h
  unfold jd at hf
  obtain⟨⟨x,e1⟩,h1,hf⟩:=Option.bind_eq_some_iff.mp hf
  obtain⟨⟨l,e2⟩,h2,hf⟩:=Option.bind_eq_some_iff.mp hf
  obtain⟨⟨u,e3⟩,h3,hf⟩:=Option.bind_eq_some_iff.mp hf
  obtain⟨z',h4,hf⟩:=Option.map_eq_some_iff.mp hf
  cases hf
  refine⟨F,e,x,e1,R,h1,fun F1 H1 v X1 R1 A1=>⟨F1,e1,l,e2,R1,h2,fun F2 H2 X2 R2=>⟨F2,e2,u,_,R2,h3,fun F3 H3 X3 R3=>?_⟩⟩⟩
  have X12:=X1.trans X2
  have X13:=X12.trans X3
  have A3:=(A1.ext X2).ext X3
  unfold FU at h4
  obtain⟨⟨b,xs⟩,h5,h4⟩:=Option.map_eq_some_iff.mp h4
  obtain⟨p,vs,rfl,d1,s1⟩:=cB R3 A3 h5
  cases b with
  | true=>
    rw [if_pos rfl] at h4;cases h4
    refine .inr (.inr ⟨p,vs,rfl,s1,fun t ht=>?_⟩)
    obtain⟨R4,X4,hF,no⟩:=R3.newL (vs:=nK vs l u) ht
    exact q _ _ _ (X13.trans X4) R4 ⟨t,_,rfl,X13.dom _ ht,hF,aw,vY d1 l u,no⟩
  | false=>
    rw [if_neg (by simp)] at h4;cases h4
    by_cases hw:HT.sIx vs.length 0 l=0∧HT.sIx vs.length vs.length u=vs.length
    · refine .inr (.inl ⟨p,vs,rfl,s1,hw,?_⟩)
      have e5:cutD xs l u=xs:=by unfold cutD;exact yv (by rw [d1.len];exact hw)
      rw [e5] at q
      obtain⟨F4,R4,X4,hF⟩:=R3.growT (au.refl _) s1
      exact q _ _ _ (X13.trans X4) R4 (cP.mpr ⟨p,vs,rfl,hF,d1.mono X4.sf⟩)
    · refine .inl ⟨p,vs,rfl,s1,hw,fun t ht=>?_⟩
      obtain⟨R4,X4⟩:=R3.newT (vs:=nK vs l u) ht
      exact q _ _ _ (X13.trans X4) R4 (cP.mpr ⟨t,_,rfl,.inl (.inl aw),(vY d1 l u).mono X4.sf⟩)
end
section
variable{X:Cx}{K:PySem.W.Frag}
theorem l5{σ:L2.St}{H0 F H:Hp}{e:En}{x:Rv}{vs:List V}(h:cW K σ H0 F H e [x] vs):∃v,vs=[v]∧bS K σ H0 F H e x v:=by
  obtain⟨v,ws,rfl,h1,h2⟩:=h
  have h2':ws=[]:=h2
  subst h2'
  exact⟨v,rfl,h1⟩
theorem l6{σ:L2.St}{H0 F H:Hp}{e:En}{x y:Rv}{vs:List V}(h:cW K σ H0 F H e [x,y] vs):∃v u,vs=[v,u]∧bS K σ H0 F H e x v∧bS K σ H0 F H e y u:=by
  obtain⟨v,ws,rfl,h1,h2⟩:=h
  obtain⟨u,rfl,h3⟩:=l5 h2
  exact⟨v,u,rfl,h1,h3⟩
def g1(g:En→Rv→Option Rv):En→List Rv→Option Rv:=fun e xs=>match xs with
  | [x]=>g e x
  | _=>none
def g2(g:En→Rv→Rv→Option Rv):En→List Rv→Option Rv:=fun e xs=>match xs with
  | [x,y]=>g e x y
  | _=>none
theorem fP{r:List V→Hp→VK→Prop}{g:En→Rv→Option Rv}(h:C' K (fun v H Q=>r [v] H Q) g):dY K r (g1 g):=by
  intro σ H0 F H e xs z vs Q R A hg q
  unfold g1 at hg
  match xs,hg with
  | [x],hg=>
    obtain⟨v,rfl,h1⟩:=l5 A
    exact h σ H0 F H e x z v Q R h1 hg q
theorem tD{r:List V→Hp→VK→Prop}{g:En→Rv→Rv→Option Rv}(h:fv K (fun v u H Q=>r [v,u] H Q) g):dY K r (g2 g):=by
  intro σ H0 F H e xs z vs Q R A hg q
  unfold g2 at hg
  match xs,hg with
  | [x,y],hg=>
    obtain⟨v,u,rfl,h1,h2⟩:=l6 A
    exact h σ H0 F H e x y z v u Q R h1 h2 hg q
def eE:En→Rv→Option Rv:=fun e x=>(dU e x).map fun p=>.d (.int p.2.length)
theorem DX:dY K (fun xs H Q=>∃p ys,xs=[.ref p]∧(cT K H p ys∨bX K H p ys)∧Q (.int ys.length) H) (g1 eE):=fP fun σ H0 F H e x z v Q R A hg q=>by
  obtain⟨⟨b,xs⟩,h5,h4⟩:=Option.map_eq_some_iff.mp hg
  obtain⟨p,vs,rfl,d1,s1⟩:=cB R A h5
  cases h4
  refine⟨p,vs,rfl,?_,?_⟩
  · cases b with
    | true=>exact .inl s1
    | false=>exact .inr s1
  · rw [←d1.len]
    exact q F H _ (dH.refl _ _ _ _) R m6
def ut:En→Rv→Option Rv:=fun _ x=>(bh x).map fun i=>.d (.int (if i < 0 then -i else i))
theorem Dq:dY K (fun xs H Q=>∃i,xs=[.int i]∧Q (.int (if i < 0 then -i else i)) H) (g1 ut):=fP fun σ H0 F H e x z v Q R A hg q=>by
  obtain⟨i,h5,h4⟩:=Option.map_eq_some_iff.mp hg
  cases h4
  exact⟨i,by rw [bD A h5],q F H _ (dH.refl _ _ _ _) R m6⟩
def uv:En→Rv→Option Rv:=fun _ x=>match x with
  | .d (.int i)=>some (.d (.int i))
  | .d (.bool k)=>some (.d (.int (if k then 1 else 0)))
  | _=>none
theorem DO:dY K (fun xs H Q=>(∃i,xs=[.int i]∧Q (.int i) H)∨∃k,xs=[.bl k]∧Q (.int (if k then 1 else 0)) H) (g1 uv):=fP fun σ H0 F H e x z v Q R A hg q=>by
  unfold uv at hg
  split at hg
  · cases hg
    exact .inl ⟨_,by rw [df.mp (show DA K F (.int _) v from A)],q F H _ (dH.refl _ _ _ _) R m6⟩
  · cases hg
    exact .inr ⟨_,by rw [c_.mp (show DA K F (.bool _) v from A)],q F H _ (dH.refl _ _ _ _) R m6⟩
  · cases hg
def wk:=gI (fun _ _=>true) fun i j=>.int (if j < i then j else i)
def pA:=gI (fun _ _=>true) fun i j=>.int (if j > i then j else i)
theorem D1:dY K (fun xs H Q=>∃i j,xs=[.int i,.int j]∧Q (.int (if j < i then j else i)) H) (g2 wk):=tD fun σ H0 F H e x y z v u Q R A B hg q=>by
  obtain⟨i,j,h1,h2,h3⟩:=iT (K:=K) (g:=fun i j=>.int (if j < i then j else i)) (fun _ _ _=>df.mpr rfl) σ H0 F H e x y z v u Q R A B hg q
  exact⟨i,j,by rw [h1,h2],h3⟩
theorem D0:dY K (fun xs H Q=>∃i j,xs=[.int i,.int j]∧Q (.int (if j > i then j else i)) H) (g2 pA):=tD fun σ H0 F H e x y z v u Q R A B hg q=>by
  obtain⟨i,j,h1,h2,h3⟩:=iT (K:=K) (g:=fun i j=>.int (if j > i then j else i)) (fun _ _ _=>df.mpr rfl) σ H0 F H e x y z v u Q R A B hg q
  exact⟨i,j,by rw [h1,h2],h3⟩
def dQ:En→Rv→Option Rv:=fun e x=>(dU e x).map fun p=>.d (.tuple p.2)
theorem zX:dY K (fun xs H Q=>∃p ys,xs=[.ref p]∧((cT K H p ys∧∀l,H l=none→Q (.ref l) (bi H l (.tup ys)))∨(bX K H p ys∧Q (.ref p) H))) (g1 dQ):=fP fun σ H0 F H e x z v Q R A hg q=>by
  obtain⟨⟨b,xs⟩,h5,h4⟩:=Option.map_eq_some_iff.mp hg
  obtain⟨p,vs,rfl,d1,s1⟩:=cB R A h5
  cases h4
  refine⟨p,vs,rfl,?_⟩
  cases b with
  | true=>
    refine .inl ⟨s1,fun t ht=>?_⟩
    obtain⟨R4,X4⟩:=R.newT (vs:=vs) ht
    exact q _ _ _ X4 R4 (cP.mpr ⟨t,_,rfl,.inl (.inl aw),d1.mono X4.sf⟩)
  | false=>
    obtain⟨F4,R4,X4,hF⟩:=R.growT (au.refl _) s1
    exact .inr ⟨s1,q _ _ _ X4 R4 (cP.mpr ⟨p,vs,rfl,hF,d1.mono X4.sf⟩)⟩
def mD:En→Rv→Option Rv:=fun e x=>(dU e x).map fun p=>.l p.2
theorem Bx:dY K (fun xs H Q=>∃p ys,xs=[.ref p]∧(cT K H p ys∨bX K H p ys)∧∀l,H l=none→Q (.ref l) (bi H l (.lst ys))) (g1 mD):=fP fun σ H0 F H e x z v Q R A hg q=>by
  obtain⟨⟨b,xs⟩,h5,h4⟩:=Option.map_eq_some_iff.mp hg
  obtain⟨p,vs,rfl,d1,s1⟩:=cB R A h5
  cases h4
  refine⟨p,vs,rfl,?_,fun t ht=>?_⟩
  · cases b with
    | true=>exact .inl s1
    | false=>exact .inr s1
  · obtain⟨R4,X4,hF,no⟩:=R.newL (vs:=vs) ht
    exact q _ _ _ X4 R4 ⟨t,_,rfl,ht,hF,aw,d1,no⟩
def oz:List PyData→Option (List Int)
  | []=>some []
  | .int i::r=>(oz r).map (i::·)
  | _=>none
theorem mI:∀{ds:List PyData} {ns:List Int},oz ds=some ns→ds=ns.map .int
  | [],_,h=>by cases h;rfl
  | .int i::r,_,h=>by
    obtain⟨ns,h1,rfl⟩:=Option.map_eq_some_iff.mp h
    rw [mI h1];rfl
theorem kl:∀(ns:List Int),oz (ns.map .int)=some ns
  | []=>rfl
  | i::r=>by simp [oz,kl r]
def ml:List PyData→Option (List Bool)
  | []=>some []
  | .bool i::r=>(ml r).map (i::·)
  | _=>none
theorem oj:∀{ds:List PyData} {ns:List Bool},ml ds=some ns→ds=ns.map .bool
  | [],_,h=>by cases h;rfl
  | .bool i::r,_,h=>by
    obtain⟨ns,h1,rfl⟩:=Option.map_eq_some_iff.mp h
    rw [oj h1];rfl
theorem mn:∀(ns:List Bool),ml (ns.map .bool)=some ns
  | []=>rfl
  | i::r=>by simp [ml,mn r]
def jo(g:List PyData→Option PyData):En→Rv→Option Rv:=fun e x=>match dU e x with
  | some (true,xs)=>(g xs).map .d
  | _=>none
theorem CK{r:List V→Hp→VK→Prop}{g:List PyData→Option PyData}(h:∀(F H:Hp) (p:Addr) (xs:List PyData) (vs:List V) (d:PyData) (Q:VK),aM K F xs vs→cT K H p vs→g xs=some d→(∀v,(∀F,DA K F d v)→Q v H)→r [.ref p] H Q):dY K r (g1 (jo g)):=fP fun σ H0 F H e x z v Q R A hg q=>by
  unfold jo at hg
  split at hg
  case h_2=>cases hg
  case h_1 xs h5=>
  obtain⟨p,vs,rfl,d1,s1⟩:=cB R A h5
  obtain⟨d,h6,hg⟩:=Option.map_eq_some_iff.mp hg
  cases hg
  exact h F H p xs vs d Q d1 s1 h6 fun v hv=>q F H v (dH.refl _ _ _ _) R (hv F)
def lj:List PyData→Option PyData:=fun xs=>(ml xs).map fun ns=>.bool (ns.all id)
theorem Dt:dY K (fun xs H Q=>∃(l:Addr) (bs:List Bool),xs=[.ref l]∧cT K H l (bs.map V.bl)∧Q (.bl (bs.all id)) H) (g1 (jo lj)):=CK fun F H p xs vs d Q d1 s1 hg q=>by
  obtain⟨ns,h1,h2⟩:=Option.map_eq_some_iff.mp hg
  cases h2
  rw [oj h1] at d1
  rw [aM.bools.mp d1] at s1
  exact⟨p,ns,rfl,s1,q _ fun _=>c_.mpr rfl⟩
def fH:En→Rv→Option Rv:=fun e x=>match dU e x with
  | some (false,xs)=>(oz xs).bind fun ns=>if ns.length < 64 then some (.l ((ci ns).map .int)) else none
  | _=>none
def xF(K:PySem.W.Frag):List V→Hp→VK→Prop:=fun xs H Q=>∃(a:Addr) (ns:List Int),xs=[.ref a]∧bX K H a (ns.map V.int)∧ns.length < 64∧∀(l:Addr) (H':Hp),au H H'→H l=none→H' l=some (.lst ((ci ns).map V.int))→Q (.ref l) H'
theorem rP:cU X (.builtin "sorted") (xF X.K):=by
  intro pins s σ H xs us Q I rv h
  obtain⟨a,ns,e1,e2,e3,q⟩:=h
  exact qh pins s σ H xs us Q I rv ⟨a,ns,e1,e2,e3,fun l ns' H' sm hn hl hp hs=>q l H' sm hn (by rw [←ni hp hs];exact hl)⟩
theorem zO:dY K (xF K) (g1 fH):=fP fun σ H0 F H e x z v Q R A hg q=>by
  unfold fH at hg
  split at hg
  case h_2=>cases hg
  case h_1 xs h5=>
  obtain⟨p,vs,rfl,d1,s1⟩:=cB R A h5
  obtain⟨ns,h6,hg⟩:=Option.bind_eq_some_iff.mp hg
  split at hg
  case isFalse=>cases hg
  case isTrue hl=>
  cases hg
  rw [mI h6] at d1
  have s1':bX K H p vs:=s1
  rw [aM.ints.mp d1] at s1'
  refine⟨p,ns,rfl,s1',hl,fun l H' sm hn hl'=>?_⟩
  obtain⟨R4,X4⟩:=R.same sm
  exact q F H' _ X4 R4 ⟨l,_,rfl,hn,R.freeF hn,hl',aM.ints.mpr rfl,fun z=>R.ownH l ((R.sameOwn sm l).mp z) hn⟩
mutual
def gy:PyData→Bool
  | .tuple ds=>i6 ds
  | .list _=>false
  | .dict _=>false
  | _=>true
def i6:List PyData→Bool
  | []=>true
  | d::r=>gy d&&i6 r
end
mutual
def fJ:PyData→Bool
  | .list _=>false
  | .tuple ds=>eP ds
  | _=>true
def eP:List PyData→Bool
  | []=>true
  | d::r=>fJ d&&eP r
end
theorem mY{h:Heap}:∀{m:List (Int × vA)} {es:List DictEntry} {vs:List (fM × Value)} {P:Program} {w:World},KV (m.map fun p=>((Sum.inl p.1:fM),p.2.toV)) vs→Pairs (dS P w) es vs→
    ReadsAll h (es.map (·.key)) (m.map fun p=>PyData.int p.1) []∧ReadsAll h (es.map (·.val)) (m.map fun p=>p.2.toD) []
  | [],es,vs,P,w,r,q=>by
    cases r
    cases q
    exact⟨.nil,.nil⟩
  | p::m,es,vs,P,w,r,q=>by
    rw [List.map_cons] at r
    cases r with
    | @cons a b as bs h1 t=>
      cases q with
      | @cons e kv es' kvs' h2 h3 h4=>
        obtain⟨z1,z2⟩:=h1
        obtain⟨c1,c2⟩:=mY t h4
        have k1:mK (Sum.inl p.1) e.key=true:=by
          have:b.1=Sum.inl p.1:=z1.symm
          rw [←this];exact h2
        rcases bF k1 with ⟨i,t',e1,e2⟩ | ⟨x,t',e1,e2⟩
        · cases e1
          refine⟨?_,?_⟩
          · simp only [List.map_cons,e2]
            exact ReadsAll.cons (as:=[]) (bs:=[]) (.int p.1 t') c1
          · simp only [List.map_cons,h3]
            refine ReadsAll.cons (as:=[]) (bs:=[]) ?_ c2
            obtain⟨k,at_⟩:=p
            cases at_ with
            | vi n=>obtain⟨tk,z2⟩:=z2;rw [z2];exact .int n tk
            | vb x=>rw [show b.2=Value.bool x from z2];exact .bool x
            | vn=>rw [show b.2=Value.none from z2];exact .none
        · cases e1
mutual
theorem DA.readsR{X:Cx}{pins:List (Addr × Obj)}{σ:L2.St}{H:Hp}{s:Shared}(I:aA X pins σ H s):∀{d:PyData} {v:V} {u:Value},DA X.K H d v→bw v u→∃as,Reads s.heap u d as∧(fJ d=true→sysModules∉as)
  | .none,_,_,q,r=>by
    simp only [DA] at q;subst q;cases r;exact⟨_,.none,fun _=>by simp⟩
  | .bool b,_,_,q,r=>by
    simp only [DA] at q;subst q;cases r;exact⟨_,.bool b,fun _=>by simp⟩
  | .int i,_,_,q,r=>by
    simp only [DA] at q;subst q;obtain⟨t,rfl⟩:=r;exact⟨_,.int i t,fun _=>by simp⟩
  | .str x,_,_,q,r=>by
    simp only [DA] at q;subst q;obtain⟨t,rfl⟩:=r;exact⟨_,.str x t,fun _=>by simp⟩
  | .tuple ds,_,_,q,r=>by
    simp only [DA] at q
    obtain⟨a,xs,e,hs,rr⟩:=q
    subst e;cases r
    obtain⟨its,rv,⟨o,ho,hc,n,hd⟩,hz⟩:=I.tuple hs
    obtain⟨as,q,z⟩:=aM.readsR I rr rv
    exact⟨_,.tuple ho hc hd q,fun c=>z (by simpa [fJ] using c)⟩
  | .list ds,_,_,q,r=>by
    simp only [DA] at q
    obtain⟨a,xs,e,hs,rr⟩:=q
    subst e;cases r
    obtain⟨its,rv,ht,hz⟩:=I.list hs
    obtain⟨o,ho,hc,n,hd⟩:=ht.isList
    obtain⟨as,q,z⟩:=aM.readsR I rr rv
    exact⟨_,.list ho hc hd q,fun c=>by simp [fJ] at c⟩
  | .dict kvs,_,_,q,r=>by
    simp only [DA] at q
    obtain⟨a,m,e,hs,rfl⟩:=q
    subst e;cases r
    obtain⟨_,hS,vs,kv,o,es,ep,ho,hx,hd,_,hp,_⟩:=(show cV X.prog X.w H s.heap a (.dK (m.map fun p=>(Sum.inl p.1,p.2.toV))) from I.hok a _ hs)
    obtain⟨c1,c2⟩:=mY (h:=s.heap) kv hp
    refine⟨_,Reads.dict (as:=[]) (bs:=[]) ho hx.1 hd ?_ ?_,fun _=>?_⟩
    · rw [List.map_map];exact c1
    · rw [List.map_map];exact c2
    · have:a≠sysModules:=by simpa using hS
      simpa using this.symm
theorem aM.readsR{X:Cx}{pins:List (Addr × Obj)}{σ:L2.St}{H:Hp}{s:Shared}(I:aA X pins σ H s):∀{ds:List PyData} {xs:List V} {us:List Value},aM X.K H ds xs→aO xs us→∃as,ReadsAll s.heap us ds as∧(eP ds=true→sysModules∉as)
  | [],_,_,q,r=>by
    simp only [aM] at q;subst q;cases r;exact⟨_,.nil,fun _=>by simp⟩
  | d::ds,_,_,q,r=>by
    simp only [aM] at q
    obtain⟨x,rr,e,a,b⟩:=q
    subst e
    cases r with
    | cons p p'=>
      obtain⟨as,q1,z1⟩:=DA.readsR I a p
      obtain⟨bs,q2,z2⟩:=aM.readsR I b p'
      refine⟨_,.cons q1 q2,fun c=>?_⟩
      simp only [eP,Bool.and_eq_true] at c
      intro z
      rcases List.mem_append.mp z with z | z
      · exact z1 c.1 z
      · exact z2 c.2 z
end
def j6(d:PyData):Bool:=(gy d || (!d.hasDict || fJ d))&&d.showable&&decide (d.depth≤60)&&decide (d.shown.length≤sizeLine)
def lr:En→Rv→Option Rv:=fun _ x=>match x with
  | .d d=>if j6 d=true then some (.d (.str d.shown)) else none
  | _=>none
def xE(K:PySem.W.Frag):List V→Hp→VK→Prop:=fun xs H Q=>∃x d,xs=[x]∧DA K H d x∧(d.hasDict=true→fJ d=true)∧d.showable=true∧d.depth≤60∧d.shown.length≤sizeLine∧Q (.str d.shown) H
mutual
theorem iH:∀(d:PyData),gy d=true→d.hasDict=false
  | .none,_=>rfl
  | .bool _,_=>rfl
  | .int _,_=>rfl
  | .str _,_=>rfl
  | .tuple ds,h=>by simp only [PyData.hasDict];exact jM ds (by simpa [gy] using h)
  | .list ds,h=>by simp [gy] at h
  | .dict _,h=>by simp [gy] at h
theorem jM:∀(ds:List PyData),i6 ds=true→PyData.hasDictAll ds=false
  | [],_=>rfl
  | d::r,h=>by
    simp only [i6,Bool.and_eq_true] at h
    simp only [PyData.hasDictAll,iH d h.1,jM r h.2,Bool.or_self]
end
theorem rO{X:Cx}{k:Nat}(hr:cO k X.A):cU X (.builtin "repr") (xE X.K):=by
  intro pins s σ H xs us Q I r h
  obtain⟨x,d,rfl,ha,hdl,hsh,hdp,hsz,q⟩:=h
  obtain⟨u,rfl,ru⟩:∃u,us=[u]∧bw x u:=by
    cases r with
    | cons p p'=>cases p';exact⟨_,rfl,p⟩
  have hun:=hr.un
  obtain⟨as,rd,hm⟩:=DA.readsR I ha ru
  have fin:∀a,u=.ref a→wpAny (model X.prog X.w) X.A (call (.builtin "repr") [u]) (EP X pins σ Q) X.xe s:=fun a e=>by
    subst e
    exact repr_of_reads' rd hsh (fun z=>hm (hdl z)) hr.gd (by lia) (fun _ _ e=>e) (fun h' u tk hk=>⟨.str _,H,I.kept hk,⟨_,rfl⟩,q⟩) hsz
  cases d with
  | none=>simp only [DA] at ha;subst ha;cases ru;exact P.repr_of_none ⟨.str _,H,I.tok _,⟨_,rfl⟩,q⟩
  | bool b=>simp only [DA] at ha;subst ha;cases ru;exact P.repr_of_bool ⟨.str _,H,I.tok _,⟨_,rfl⟩,q⟩
  | int i=>
    simp only [DA] at ha;subst ha;obtain⟨t,rfl⟩:=ru
    simp only [PyData.showable,decide_eq_true_eq] at hsh
    exact P.repr_of_int hsh ⟨.str _,H,I.tok _,⟨_,rfl⟩,q⟩
  | str y=>simp only [DA] at ha;subst ha;obtain⟨t,rfl⟩:=ru;exact P.repr_of_str ⟨.str _,H,I.tok _,⟨_,rfl⟩,q⟩ hsz
  | list ds=>obtain⟨a,_,e,_⟩:=dg.mp ha;subst e;exact fin a ru
  | dict ds=>simp only [DA] at ha;obtain⟨a,_,e,_⟩:=ha;subst e;exact fin a ru
  | tuple ds=>obtain⟨a,_,e,_⟩:=cP.mp ha;subst e;exact fin a ru
theorem CF:dY K (xE K) (g1 lr):=fP fun σ H0 F H e x z v Q R A hg q=>by
  unfold lr at hg
  split at hg
  case h_2=>cases hg
  case h_1 d=>
  split at hg
  case isFalse=>cases hg
  case isTrue hl=>
  cases hg
  unfold j6 at hl
  rw [Bool.and_eq_true,Bool.and_eq_true,Bool.and_eq_true,decide_eq_true_iff,decide_eq_true_iff] at hl
  refine⟨v,d,rfl,DA.mono R.sm A,fun z=>?_,hl.1.1.2,hl.1.2,hl.2,q F H _ (dH.refl _ _ _ _) R ((pw (K:=K) (F:=F)).mpr rfl)⟩
  have c:=hl.1.1.1
  cases hf:gy d with
  | true=>rw [iH d hf] at z;cases z
  | false=>rw [hf,z] at c;simpa using c
end
end L2
namespace L2
open PySem PySem.Spec PyProof.Rows
section
variable{K:PySem.W.Frag}{σ:L2.St}{H0 F H F' H':Hp}{e e':En}
theorem a9.upd1(R:a9 K F H σ e){σ':L2.St}(i:Nat)(hl:σ'.length=e'.length)(hσ:∀j,j≠i→σ'[j]?=σ[j]?)(he:∀j,j≠i→e'[j]?=e[j]?)(sF:au F F')(sm:au F' H')(hf:∀j a,j≠i→Fp σ e H j a→F' a=none)
    (hh:∀j a o,j≠i→Fp σ e H j a→H a=some o→H' a=some o)(hd:∀x,e'[i]?=some (some (.d x))→∃v,σ'[i]?=some (some v)∧DA K F' x v)
    (ho:∀xs,e'[i]?=some (some (.l xs))→∃l vs,σ'[i]?=some (some (.ref l))∧F' l=none∧H' l=some (.lst vs)∧aM K F' xs vs)
    (hn:∀xss,e'[i]?=some (some (.n xss))→∃(l:Addr) (bs:List Addr),σ'[i]?=some (some (.ref l))∧F' l=none∧H' l=some (.lst (bs.map V.ref))∧bs.length=xss.length∧bs.Nodup∧l∉bs∧
      ∀(k:Nat) (b:Addr) (ys:List PyData),bs[k]?=some b→xss[k]?=some ys→F' b=none∧∃us,H' b=some (.lst us)∧aM K F' ys us)
    (hi:∀a j,j≠i→Fp σ' e' H' i a→¬Fp σ e H j a):a9 K F' H' σ' e'∧∀j a,j≠i→(Fp σ' e' H' j a↔ Fp σ e H j a):=by
  have fs:∀j a,j≠i→(Fp σ' e' H' j a↔ Fp σ e H j a):=by
    intro j a hj
    have key:∀xss l,e[j]?=some (some (.n xss))→σ[j]?=some (some (.ref l))→H' l=H l:=fun xss l h1 h2=>by
      obtain⟨l',bs,g1,g2,g3,_⟩:=R.nst j xss h1
      rw [h2] at g1;cases g1
      rw [g3]
      exact hh j l _ hj (.inr ⟨xss,l,bs,h1,h2,g3,.inl rfl⟩) g3
    unfold Fp
    rw [he j hj,hσ j hj]
    constructor
    · rintro(h1 | ⟨xss,l,bs,h1,h2,h3,h4⟩)
      · exact .inl h1
      · exact .inr ⟨xss,l,bs,h1,h2,by rw [←key xss l h1 h2];exact h3,h4⟩
    · rintro(h1 | ⟨xss,l,bs,h1,h2,h3,h4⟩)
      · exact .inl h1
      · exact .inr ⟨xss,l,bs,h1,h2,by rw [key xss l h1 h2];exact h3,h4⟩
  refine⟨⟨sm,hl,fun j x q=>?_,fun j xs q=>?_,fun j xss q=>?_,fun j k a q1 q2=>?_⟩,fs⟩
  · by_cases z:j=i
    · subst z;exact hd x q
    · rw [he j z] at q
      obtain⟨v,h1,h2⟩:=R.dat j x q
      exact⟨v,by rw [hσ j z];exact h1,DA.mono sF h2⟩
  · by_cases z:j=i
    · subst z;exact ho xs q
    · rw [he j z] at q
      obtain⟨l,vs,h1,h2,h3,h4⟩:=R.own j xs q
      have o:Fp σ e H j l:=.inl ⟨xs,q,h1⟩
      exact⟨l,vs,by rw [hσ j z];exact h1,hf j l z o,hh j l _ z o h3,h4.mono sF⟩
  · by_cases z:j=i
    · subst z;exact hn xss q
    · rw [he j z] at q
      obtain⟨l,bs,h1,h2,h3,h4,h5,h6,h7⟩:=R.nst j xss q
      have o:Fp σ e H j l:=.inr ⟨xss,l,bs,q,h1,h3,.inl rfl⟩
      refine⟨l,bs,by rw [hσ j z];exact h1,hf j l z o,hh j l _ z o h3,h4,h5,h6,fun k b ys g1 g2=>?_⟩
      obtain⟨c1,us,c2,c3⟩:=h7 k b ys g1 g2
      have ob:Fp σ e H j b:=.inr ⟨xss,l,bs,q,h1,h3,.inr (List.mem_of_getElem? g1)⟩
      exact⟨hf j b z ob,us,hh j b _ z ob c2,c3.mono sF⟩
  · by_cases zj:j=i
    · subst zj
      by_cases zk:k=j
      · exact zk.symm
      · exact absurd ((fs k a zk).mp q2) (hi a k zk q1)
    · by_cases zk:k=i
      · subst zk
        exact absurd ((fs j a zj).mp q1) (hi a j zj q2)
      · exact R.fp j k a ((fs j a zj).mp q1) ((fs k a zk).mp q2)
theorem a9.putL(R:a9 K F H σ e){i:Nat}{xs ys:List PyData}{l:Addr}{vs:List V}(hi:e[i]?=some (some (.l xs)))(hl:σ[i]?=some (some (.ref l)))(hd:aM K F ys vs):
    a9 K F (bi H l (.lst vs)) σ (e.set i (some (.l ys)))∧dH σ F H e F (bi H l (.lst vs)) (e.set i (some (.l ys))):=by
  obtain⟨l',vs',h1,h2,h3,h4⟩:=R.own i xs hi
  rw [hl] at h1;cases h1
  have hlt:i < e.length:=(List.getElem?_eq_some_iff.mp hi).1
  have fi:Fp σ e H i l:=.inl ⟨xs,hi,hl⟩
  have gi:(e.set i (some (Sv.l ys)))[i]?=some (some (.l ys)):=List.getElem?_set_self hlt
  obtain⟨R',fs⟩:=R.upd1 (F':=F) (H':=bi H l (.lst vs)) (e':=e.set i (some (.l ys))) i (by rw [List.length_set];exact R.len) (fun _ _=>rfl) (fun j hj=>List.getElem?_set_ne (Ne.symm hj)) (au.refl F)
    (fun b o q=>by
      have z:b≠l:=fun z=>by rw [z,h2] at q;cases q
      rw [aH z];exact R.sm b o q)
    (fun j a _ q=>(R.fpAt q).1)
    (fun j a o hj q ha=>by
      have z:a≠l:=fun z=>hj (R.fp j i a q (by rw [z];exact fi))
      rw [aH z];exact ha)
    (fun x q=>by rw [gi] at q;cases q) (fun zs q=>by rw [gi] at q;cases q;exact⟨l,vs,hl,h2,aw,hd⟩) (fun xss q=>by rw [gi] at q;cases q)
    (fun a j hj q q2=>by
      rcases q with ⟨zs,_,q⟩ | ⟨xss,_,_,q,_⟩
      · rw [hl] at q;cases q
        exact hj (R.fp j i _ q2 fi)
      · rw [gi] at q;cases q)
  refine⟨R',⟨au.refl _,fun a q=>?_,fun _ _ q _ _=>q,fun a ws q=>?_,fun a o q n=>?_,fun j=>?_,fun a ⟨j,q⟩=>?_,fun _ _ q _ _=>q⟩⟩
  · by_cases z:a=l
    · rw [z,aw] at q;cases q
    · rw [aH z] at q;exact q
  · by_cases z:a=l
    · rw [z];exact⟨vs,aw⟩
    · rw [aH z];exact⟨ws,q⟩
  · have z:a≠l:=fun z=>n ⟨i,by rw [z];exact fi⟩
    rw [aH z];exact q
  · by_cases z:j=i
    · subst z;rw [gi];exact⟨fun _=>⟨xs,hi⟩,fun _=>⟨ys,rfl⟩⟩
    · rw [List.getElem?_set_ne (Ne.symm z)]
  · by_cases z:j=i
    · subst z
      rcases q with ⟨zs,_,q⟩ | ⟨xss,_,_,q,_⟩
      · rw [hl] at q;cases q;exact .inl ⟨j,fi⟩
      · rw [gi] at q;cases q
    · exact .inl ⟨j,(fs j a z).mp q⟩
theorem a9.setD(R:a9 K F H σ e)(i:Nat){x:PyData}{v:V}(h:DA K F x v):a9 K F H (σ.set i (some v)) (e.set i (some (.d x)))∧∀a,de (σ.set i (some v)) (e.set i (some (.d x))) H a→de σ e H a:=by
  have gi:∀s,(e.set i (some (Sv.d x)))[i]?=some (some s)→s=.d x∧i < e.length:=fun s q=>by
    have hlt:i < e.length:=by have:=(List.getElem?_eq_some_iff.mp q).1;simpa using this
    rw [List.getElem?_set_self hlt] at q
    exact⟨(Option.some.inj (Option.some.inj q)).symm,hlt⟩
  have nofp:∀a,¬Fp (σ.set i (some v)) (e.set i (some (.d x))) H i a:=fun a q=>by
    rcases q with ⟨zs,q,_⟩ | ⟨xss,_,_,q,_⟩
    · cases (gi _ q).1
    · cases (gi _ q).1
  obtain⟨R',fs⟩:=R.upd1 (F':=F) (H':=H) (σ':=σ.set i (some v)) (e':=e.set i (some (.d x))) i (by rw [List.length_set,List.length_set];exact R.len) (fun j hj=>List.getElem?_set_ne (Ne.symm hj)) (fun j hj=>List.getElem?_set_ne (Ne.symm hj)) (au.refl F) R.sm
    (fun j a _ q=>(R.fpAt q).1) (fun j a o _ _ ha=>ha)
    (fun y q=>by
      obtain⟨z,hlt⟩:=gi _ q
      cases z
      exact⟨v,List.getElem?_set_self (by rw [R.len];exact hlt),h⟩)
    (fun zs q=>by cases (gi _ q).1) (fun xss q=>by cases (gi _ q).1) (fun a j hj q=>absurd q (nofp a))
  refine⟨R',fun a ⟨j,q⟩=>?_⟩
  by_cases z:j=i
  · subst z;exact absurd q (nofp a)
  · exact⟨j,(fs j a z).mp q⟩
theorem a9.setL(R:a9 K F H σ e)(i:Nat){xs:List PyData}{l:Addr}{vs:List V}(h1:F l=none)(h2:H l=some (.lst vs))(h3:aM K F xs vs)(h4:¬de σ e H l):a9 K F H (σ.set i (some (.ref l))) (e.set i (some (.l xs)))∧∀a,de (σ.set i (some (.ref l))) (e.set i (some (.l xs))) H a→de σ e H a∨a=l:=by
  have gi:∀s,(e.set i (some (Sv.l xs)))[i]?=some (some s)→s=.l xs∧i < e.length:=fun s q=>by
    have hlt:i < e.length:=by have:=(List.getElem?_eq_some_iff.mp q).1;simpa using this
    rw [List.getElem?_set_self hlt] at q
    exact⟨(Option.some.inj (Option.some.inj q)).symm,hlt⟩
  have onefp:∀a,Fp (σ.set i (some (.ref l))) (e.set i (some (.l xs))) H i a→a=l:=fun a q=>by
    rcases q with ⟨zs,q,q2⟩ | ⟨xss,_,_,q,_⟩
    · obtain⟨_,hlt⟩:=gi _ q
      rw [List.getElem?_set_self (by rw [R.len];exact hlt)] at q2
      cases q2;rfl
    · cases (gi _ q).1
  obtain⟨R',fs⟩:=R.upd1 (F':=F) (H':=H) (σ':=σ.set i (some (.ref l))) (e':=e.set i (some (.l xs))) i (by rw [List.length_set,List.length_set];exact R.len) (fun j hj=>List.getElem?_set_ne (Ne.symm hj)) (fun j hj=>List.getElem?_set_ne (Ne.symm hj)) (au.refl F) R.sm
    (fun j a _ q=>(R.fpAt q).1) (fun j a o _ _ ha=>ha) (fun y q=>by cases (gi _ q).1)
    (fun zs q=>by
      obtain⟨z,hlt⟩:=gi _ q
      cases z
      exact⟨l,vs,List.getElem?_set_self (by rw [R.len];exact hlt),h1,h2,h3⟩)
    (fun xss q=>by cases (gi _ q).1) (fun a j hj q q2=>h4 ⟨j,by rw [onefp a q] at q2;exact q2⟩)
  refine⟨R',fun a ⟨j,q⟩=>?_⟩
  by_cases z:j=i
  · subst z;exact .inr (onefp a q)
  · exact .inl ⟨j,(fs j a z).mp q⟩
end
section
variable{X:Cx}{K:PySem.W.Frag}{o a:Expr}{es:List Expr}{fo:FE}{fs:FA}{name:Str}{apos cpos:Pos}{id:String}
def sV(K:PySem.W.Frag)(r:V→List V→Hp→VK→Prop)(g:List PyData→List PyData→Option (PyData × List PyData)):Prop:=
  ∀(F H:Hp) (l:Addr) (xs ys ds:List PyData) (z:PyData) (vs us:List V) (Q:VK),F l=none→au F H→H l=some (.lst vs)→aM K F xs vs→aM K F ds us→g xs ds=some (z,ys)→
    (∀w ws,DA K F z w→aM K F ys ws→Q w (bi H l (.lst ws)))→r (.ref l) us H Q
def dW(g:List PyData→List PyData→Option (PyData × List PyData))(fo:FE)(fs:FA):FE:=fun e=>(fo e).bind fun p=>match p.1 with
  | .s i=>(fs p.2).bind fun q=>(fF q.1).bind fun ds=>match q.2[i]? with
    | some (some (.l xs))=>(g xs ds).map fun z=>(.d z.1,q.2.set i (some (.l z.2)))
    | _=>none
  | _=>none
theorem ye{r:V→List V→Hp→VK→Prop}{g:List PyData→List PyData→Option (PyData × List PyData)}(hm:sV K r g){σ:L2.St}{H:Hp}{Q:VK}(h:fE K (dW g fo fs) σ H Q):GJ K "list" r (fE K fo) (fA K fs) σ H Q:=by
  obtain⟨F,e,z,e',R,hf,q⟩:=h
  unfold dW at hf
  obtain⟨⟨x,e1⟩,h1,hf⟩:=Option.bind_eq_some_iff.mp hf
  match x,h1,hf with
  | .s i,h1,hf=>
  dsimp only at hf
  obtain⟨⟨rs,e2⟩,h2,hf⟩:=Option.bind_eq_some_iff.mp hf
  obtain⟨ds,h3,hf⟩:=Option.bind_eq_some_iff.mp hf
  refine⟨F,e,_,e1,R,h1,fun F1 H1 v X1 R1 A1=>?_⟩
  obtain⟨g1,zs,g2⟩:=A1
  obtain⟨l,vs,c1,c2,c3,c4⟩:=R1.own i zs g2
  rw [g1] at c1;cases c1
  refine⟨.inl ⟨rfl,vs,.inl (.inl c3)⟩,F1,e1,rs,e2,R1,h2,fun F2 H2 us X2 R2 A2=>?_⟩
  match h4:e2[i]?,hf with
  | some (some (.l xs)),hf=>
  dsimp only at hf
  obtain⟨⟨zd,ys⟩,h5,hf⟩:=Option.map_eq_some_iff.mp hf
  cases hf
  obtain⟨F3,R3,s3,d3,f3⟩:=cW.frozen R2 A2 h3
  obtain⟨l',vs',k1,k2,k3,k4⟩:=R3.own i xs h4
  rw [g1] at k1;cases k1
  refine hm F3 H2 l xs ys ds zd vs' us Q k2 R3.sm k3 k4 d3 h5 fun w ws hw hws=>?_
  obtain⟨R4,X4⟩:=R3.putL h4 g1 hws
  exact q _ _ _ ((X1.trans (X2.frz s3 f3)).trans X4) R4 hw
theorem AG{r:V→List V→Hp→VK→Prop}{g:List PyData→List PyData→Option (PyData × List PyData)}(slot:Slot "list" name id)(hty:typeOf (.builtin id)=pure (.type "method_descriptor"))(hm:Gy X id r)(hf:sV X.K r g)(ho:PE X o (fE X.K fo))(ha:PA X (a::es) (fA X.K fs))
    (hbase:attributeBase o name X.env (eval o X.env)=eval o X.env)
    (hfew:((backTo cpos (starEach (a::es) X.env)).all (fun x=> !x.1)&&(backToKw cpos (keywordEach [] X.env)).all (fun x=>x.1.isSome)
      &&decide ((a::es).length+([]:List Keyword).length+(if ([]:List Keyword).isEmpty then 0 else 1) < 30))=true)
    (hline:(apos.endLine==cpos.line)=true)(hs:starEach (a::es) X.env=(false,eval a X.env)::starEach es X.env)(hplain:(backTo cpos (starEach es X.env)).any (·.1)=false):
    PE X (.Call (.Attribute o name apos) (a::es) [] cpos) (fE X.K (dW g fo fs)):=(Eb PySem.F.plainAttrs_list slot hty hm ho ha hbase hfew hline hs hplain).mono fun _ _ _ h=>ye hf h
def bR:List PyData→List PyData→Option (PyData × List PyData):=fun xs ds=>match ds with
  | [d]=>if xs.length < 1000000 then some (.none,xs++[d]) else none
  | _=>none
theorem vF:sV K tQ bR:=by
  intro F H l xs ys ds z vs us Q hF sm hl d1 d2 hg q
  unfold bR at hg
  match ds,hg,d2 with
  | [d],hg,d2=>
    simp only [aM] at d2
    obtain⟨w,r,rfl,hw,rfl⟩:=d2
    dsimp only at hg
    split at hg
    case isFalse=>cases hg
    case isTrue hlt=>
    cases hg
    have:=d1.len
    have sl:sizeLine=16777216:=sizeLine_eq
    exact⟨l,vs,w,rfl,rfl,hl,by lia,q _ _ (gX.mpr rfl) (d1.append (aM.one hw))⟩
def qL:List PyData→List PyData→Option (PyData × List PyData):=fun xs ds=>match ds with
  | []=>(xs[xs.length - 1]?).map fun d=>(d,xs.dropLast)
  | _=>none
def eS:List PyData→List PyData→Option (PyData × List PyData):=fun xs ds=>match ds with
  | [.int i]=>if 0≤i∧i < 1000000000 then(xs[i.toNat]?).map fun d=>(d,xs.eraseIdx i.toNat) else none
  | _=>none
theorem zt:sV K xC eS:=by
  intro F H l xs ys ds z vs us Q hF sm hl d1 d2 hg q
  unfold eS at hg
  match ds,hg,d2 with
  | [.int i],hg,d2=>
    simp only [aM,DA] at d2
    obtain⟨w,r,rfl,rfl,rfl⟩:=d2
    dsimp only at hg
    split at hg
    case isFalse=>cases hg
    case isTrue hlt=>
    obtain⟨d,h1,h2⟩:=Option.map_eq_some_iff.mp hg
    cases h2
    obtain⟨v,g1,g2⟩:=d1.get h1
    have hlt2:i.toNat < vs.length:=(List.getElem?_eq_some_iff.mp g1).1
    exact⟨l,vs,i,i.toNat,v,rfl,rfl,hl,by lia,by lia,seqIndex_of hlt.1 (by lia),g1,q _ _ g2 (d1.erase _)⟩
end
end L2
namespace L2
open PySem PySem.Spec PyProof.Rows
inductive Fl where
  | nx (e:En)
  | bk (e:En)
  | ct (e:En)
  | rt (r:Rv) (e:En)
abbrev FS:=En→Option Fl
structure dI (W:List Nat) (σ:L2.St) (F H:Hp) (e:En) (σ':L2.St) (F' H':Hp) (e':En):Prop where
  sf:au F F'
  dom:∀a,H' a=none→H a=none
  fr:∀a vs,F a=none→H a=some (.lst vs)→¬de σ e H a→F' a=none
  lst:∀a vs,H a=some (.lst vs)→∃vs',H' a=some (.lst vs')
  tmp:∀a o,H a=some o→¬de σ e H a→H' a=some o
  own:∀a,de σ' e' H' a→de σ e H a∨H a=none
  wr:∀j,j∉W→σ'[j]?=σ[j]?
  fd:∀a m,F a=none→H a=some (.dK m)→¬de σ e H a→F' a=none
section
variable{K:PySem.W.Frag}{W W1 W2:List Nat}{σ σ1 σ2 σ':L2.St}{H0 F H F1 H1 F2 H2 F' H':Hp}{e e1 e2 e':En}
theorem dI.refl:dI W σ F H e σ F H e:=⟨au.refl _,fun _ h=>h,fun _ _ h _ _=>h,fun _ vs h=>⟨vs,h⟩,fun _ _ h _=>h,fun _ h=>.inl h,fun _ _=>rfl,fun _ _ h _ _=>h⟩
theorem dH.s(x:dH σ F H e F' H' e'):dI W σ F H e σ F' H' e':=⟨x.sf,x.dom,x.fr,x.lst,x.tmp,x.ow,fun _ _=>rfl,x.fd⟩
theorem dI.trans(x:dI W σ F H e σ1 F1 H1 e1)(y:dI W σ1 F1 H1 e1 σ2 F2 H2 e2):dI W σ F H e σ2 F2 H2 e2:=
  ⟨x.sf.trans y.sf,fun a h=>x.dom a (y.dom a h),fun a vs h n no=>let ⟨vs',q⟩:=x.lst a vs n;y.fr a vs' (x.fr a vs h n no) q (fun z=>(x.own a z).elim no fun z=>by rw [n] at z;cases z),fun a vs h=>let ⟨vs',q⟩:=x.lst a vs h;y.lst a vs' q,
    fun a o h n=>y.tmp a o (x.tmp a o h n) (fun z=>(x.own a z).elim n fun z=>by rw [h] at z;cases z),
    fun a h=>(y.own a h).elim (x.own a) (fun z=>.inr (x.dom a z)),
    fun j h=>(y.wr j h).trans (x.wr j h),
    fun a m h n no=>y.fd a m (x.fd a m h n no) (x.tmp a _ n no) (fun z=>(x.own a z).elim no fun z=>by rw [n] at z;cases z)⟩
theorem dI.mono(x:dI W1 σ F H e σ' F' H' e')(h:∀j,j∈W1→j∈W):dI W σ F H e σ' F' H' e':=⟨x.sf,x.dom,x.fr,x.lst,x.tmp,x.own,fun j n=>x.wr j fun z=>n (h j z),x.fd⟩
end
def my(K:PySem.W.Frag)(W:List Nat)(σ:L2.St)(F H:Hp)(e:En)(D:rJ):Fl→Prop
  | .nx e'=>∀F' H' σ',dI W σ F H e σ' F' H' e'→a9 K F' H' σ' e'→D.nx σ' H'
  | .bk e'=>∀F' H' σ',dI W σ F H e σ' F' H' e'→a9 K F' H' σ' e'→D.bk σ' H'
  | .ct e'=>∀F' H' σ',dI W σ F H e σ' F' H' e'→a9 K F' H' σ' e'→D.ct σ' H'
  | .rt r e'=>∀F' H' σ' v,dI W σ F H e σ' F' H' e'→a9 K F' H' σ' e'→bS K σ' H F' H' e' r v→D.rt v H'
def fS(K:PySem.W.Frag)(f:FS)(W:List Nat):TS:=fun D σ H=>∃F e fl,a9 K F H σ e∧f e=some fl∧my K W σ F H e D fl
theorem PS.mono{X:Cx}{st:Stmt}{t t':TS}(h:PS X st t)(m:∀D σ H,t' D σ H→t D σ H):PS X st t':=fun pins s σ H D I q=>h pins s σ H D I (m D σ H q)
theorem lK.mono{X:Cx}{st:List Stmt}{t t':TS}(h:lK X st t)(m:∀D σ H,t' D σ H→t D σ H):lK X st t':=fun pins s σ H D I q=>h pins s σ H D I (m D σ H q)
theorem my.later{K:PySem.W.Frag}{W W1 W2:List Nat}{σ σ1:L2.St}{F H F1 H1:Hp}{e e1:En}{D:rJ}{fl:Fl}(h:my K W σ F H e D fl)(x:dI W1 σ F H e σ1 F1 H1 e1)(h1:∀j,j∈W1→j∈W)(h2:∀j,j∈W2→j∈W):my K W2 σ1 F1 H1 e1 D fl:=by
  cases fl with
  | nx e'=>exact fun F' H' σ' y R=>h F' H' σ' ((x.mono h1).trans (y.mono h2)) R
  | bk e'=>exact fun F' H' σ' y R=>h F' H' σ' ((x.mono h1).trans (y.mono h2)) R
  | ct e'=>exact fun F' H' σ' y R=>h F' H' σ' ((x.mono h1).trans (y.mono h2)) R
  | rt r e'=>exact fun F' H' σ' v y R A=>h F' H' σ' v ((x.mono h1).trans (y.mono h2)) R (A.weak x.dom)
section
variable{X:Cx}{K:PySem.W.Frag}{W W1 W2:List Nat}{st:Stmt}{fm:List Stmt}{f g:FS}{a b:Expr}{fa:FE}{ft:FT}{pos:Pos}
def bx:FS:=fun e=>some (.nx e)
def az(f g:FS):FS:=fun e=>(f e).bind fun fl=>match fl with
  | .nx e1=>g e1
  | fl=>some fl
theorem aF:lK X [] (fS K bx []):=zx.mono fun D σ H h=>by
  obtain⟨F,e,fl,R,hf,q⟩:=h
  cases hf
  exact q F H σ dI.refl R
theorem af(h1:PS X st (fS K f W1))(h2:lK X fm (fS K g W2)):lK X (st::fm) (fS K (az f g) (W1++W2)):=(xo h1 h2).mono fun D σ H h=>by
  obtain⟨F,e,fl,R,hf,q⟩:=h
  unfold az at hf
  obtain⟨fl1,h1,hf⟩:=Option.bind_eq_some_iff.mp hf
  have s1:∀j,j∈W1→j∈W1++W2:=fun j h=>List.mem_append.mpr (.inl h)
  have s2:∀j,j∈W2→j∈W1++W2:=fun j h=>List.mem_append.mpr (.inr h)
  refine⟨F,e,fl1,R,h1,?_⟩
  cases fl1 with
  | nx e1=>exact fun F' H' σ' x R'=>⟨F',e1,fl,R',hf,q.later x s1 s2⟩
  | bk e1=>cases hf;exact fun F' H' σ' x R'=>q F' H' σ' (x.mono s1) R'
  | ct e1=>cases hf;exact fun F' H' σ' x R'=>q F' H' σ' (x.mono s1) R'
  | rt r e1=>cases hf;exact fun F' H' σ' v x R' A=>q F' H' σ' v (x.mono s1) R' A
theorem ah(h1:PS X st (fS K f W)):lK X [st] (fS K f W):=zy h1
def fY(fa:FE):FS:=fun e=>(fa e).map fun p=>.nx p.2
theorem jX(he:PE X a (fE K fa))(hs:swapsWith a none pos.line X.env=pure false):PS X (.Expr a pos) (fS K (fY fa) []):=(zw he hs).mono fun D σ H h=>by
  obtain⟨F,e,fl,R,hf,q⟩:=h
  obtain⟨⟨x,e1⟩,h1,hf⟩:=Option.map_eq_some_iff.mp hf
  cases hf
  exact⟨F,e,x,e1,R,h1,fun F1 H1 v X1 R1 A1=>q F1 H1 σ X1.s R1⟩
def aQ(fa:FE):FS:=fun e=>(fa e).map fun p=>.rt p.1 p.2
theorem aq(he:PE X a (fE K fa)):PS X (.Return (some a) pos) (fS K (aQ fa) []):=(Ce he).mono fun D σ H h=>by
  obtain⟨F,e,fl,R,hf,q⟩:=h
  obtain⟨⟨x,e1⟩,h1,hf⟩:=Option.map_eq_some_iff.mp hf
  cases hf
  exact⟨F,e,x,e1,R,h1,fun F1 H1 v X1 R1 A1=>q F1 H1 σ v X1.s R1 A1⟩
def dX(ft:FT)(f g:FS):FS:=fun e=>(ft e).bind fun p=>if p.1=true then f p.2 else g p.2
theorem bo{c:Expr}{bs cs:List Stmt}(hc:PT X c (fT K ft))(ha:lK X bs (fS K f W1))(hb:lK X cs (fS K g W2)):PS X (.If c bs cs pos) (fS K (dX ft f g) (W1++W2)):=(Eg hc ha hb).mono fun D σ H h=>by
  obtain⟨F,e,fl,R,hf,q⟩:=h
  unfold dX at hf
  obtain⟨⟨x,e1⟩,h1,hf⟩:=Option.bind_eq_some_iff.mp hf
  refine⟨F,e,x,e1,R,h1,fun F1 H1 X1 R1=>?_⟩
  cases x with
  | true=>exact⟨F1,e1,fl,R1,hf,q.later (W1:=[]) X1.s (fun j h=>by cases h) fun j h=>List.mem_append.mpr (.inl h)⟩
  | false=>exact⟨F1,e1,fl,R1,hf,q.later (W1:=[]) X1.s (fun j h=>by cases h) fun j h=>List.mem_append.mpr (.inr h)⟩
def nP(i:Nat)(r:Rv)(e:En):Option En:=match r with
  | .d x=>some (e.set i (some (.d x)))
  | .l xs=>some (e.set i (some (.l xs)))
  | .s _=>none
theorem Cj{σ:L2.St}{H F H1 F1:Hp}{e e1 e2:En}{i:Nat}{r:Rv}{v:V}(R:a9 K F H σ e)(X1:dH σ F H e F1 H1 e1)(R1:a9 K F1 H1 σ e1)(A1:bS K σ H F1 H1 e1 r v)(h:nP i r e1=some e2):
    dI [i] σ F H e (σ.set i (some v)) F1 H1 e2∧a9 K F1 H1 (σ.set i (some v)) e2:=by
  have wr:∀j,j∉[i]→(σ.set i (some v))[j]?=σ[j]?:=fun j n=>List.getElem?_set_ne (fun z=>n (by simp [z]))
  cases r with
  | d x=>
    cases h
    obtain⟨R2,o2⟩:=R1.setD i A1
    exact⟨⟨X1.sf,X1.dom,X1.fr,X1.lst,X1.tmp,fun a h=>X1.ow a (o2 a h),wr,X1.fd⟩,R2⟩
  | l xs=>
    cases h
    obtain⟨l,vs,rfl,h1,h2,h3,h4,h5⟩:=A1
    obtain⟨R2,o2⟩:=R1.setL i h2 h3 h4 h5
    refine⟨⟨X1.sf,X1.dom,X1.fr,X1.lst,X1.tmp,fun a h=>?_,wr,X1.fd⟩,R2⟩
    rcases o2 a h with z | z
    · exact X1.ow a z
    · exact .inr (by rw [z];exact h1)
  | s j=>cases h
def bv(i:Nat)(fa:FE):FS:=fun e=>(fa e).bind fun p=>(nP i p.1 p.2).map .nx
theorem aJ{i:Nat}{x:Str}{pos':Pos}(hN:X.N.Nodup)(hi:X.N[i]?=some x)(hx:C_ X.env.scope x)(he:PE X a (fE K fa))(hs:swapsWith a (some (.Name x pos')) pos.line X.env=pure false)(hf:X.fn x=true∨X.env.scope.names.lookup x=some .local):
    PS X (.Assign [.Name x pos'] a pos) (fS K (bv i fa) [i]):=(Cf hN hi hx he hs hf).mono fun D σ H h=>by
  obtain⟨F,e,fl,R,hf,q⟩:=h
  unfold bv at hf
  obtain⟨⟨r,e1⟩,h1,hf⟩:=Option.bind_eq_some_iff.mp hf
  obtain⟨e2,h2,hf⟩:=Option.map_eq_some_iff.mp hf
  cases hf
  refine⟨F,e,r,e1,R,h1,fun F1 H1 v X1 R1 A1=>?_⟩
  obtain⟨x,R2⟩:=Cj R X1 R1 A1 h2
  exact q F1 H1 _ x R2
abbrev FG:=PyData→En→Option En
def fG(K:PySem.W.Frag)(g:FG)(W:List Nat):TG:=fun v σ H Q=>∃F e x e',a9 K F H σ e∧DA K F x v∧g x e=some e'∧∀σ',dI W σ F H e σ' F H e'→a9 K F H σ' e'→Q σ' H
abbrev Ag:=List PyData→En→Option En
def Fn(K:PySem.W.Frag)(g:Ag)(W:List Nat):yg:=fun vs σ H Q=>∃F e xs e',a9 K F H σ e∧aM K F xs vs∧g xs e=some e'∧∀σ',dI W σ F H e σ' F H e'→a9 K F H σ' e'→Q σ' H
theorem PG.mono{tg:Expr}{t t':TG}(h:PG X tg t)(m:∀v σ H Q,t' v σ H Q→t v σ H Q):PG X tg t':=fun pins s σ H v u Q I r q=>h pins s σ H v u Q I r (m v σ H Q q)
theorem vx.mono{tg:List Expr}{t t':yg}(h:vx X tg t)(m:∀v σ H Q,t' v σ H Q→t v σ H Q):vx X tg t':=fun pins s σ H v u Q I r q=>h pins s σ H v u Q I r (m v σ H Q q)
def ai(i:Nat):FG:=fun x e=>some (e.set i (some (.d x)))
def cN:Ag:=fun xs e=>match xs with
  | []=>some e
  | _=>none
def aX(g:FG)(gs:Ag):Ag:=fun xs e=>match xs with
  | x::r=>(g x e).bind fun e1=>gs r e1
  | _=>none
def dz(gs:Ag):FG:=fun x e=>match x with
  | .tuple xs=>gs xs e
  | _=>none
theorem aN{i:Nat}{x:Str}(hN:X.N.Nodup)(hi:X.N[i]?=some x)(hx:C_ X.env.scope x)(hf:X.fn x=true∨X.env.scope.names.lookup x=some .local):PG X (.Name x pos) (fG K (ai i) [i]):=(zi hN hi hx hf).mono fun v σ H Q h=>by
  obtain⟨F,e,x,e',R,hx,hg,q⟩:=h
  cases hg
  obtain⟨R2,o2⟩:=R.setD i hx
  exact q _ ⟨au.refl _,fun _ h=>h,fun _ _ h _ _=>h,fun _ vs h=>⟨vs,h⟩,fun _ _ h _=>h,fun a h=>.inl (o2 a h),fun j n=>List.getElem?_set_ne (fun z=>n (by simp [z])),fun _ _ h _ _=>h⟩ R2
theorem hZ:vx X [] (Fn K cN []):=zm.mono fun v σ H Q h=>by
  obtain⟨F,e,x,e',R,hx,hg,q⟩:=h
  unfold cN at hg
  split at hg
  · cases hg
    simp only [aM] at hx
    exact⟨hx,q σ dI.refl R⟩
  · cases hg
theorem bP{es:List Expr}{g1:FG}{gs:Ag}(h1:PG X a (fG K g1 W1))(h2:vx X es (Fn K gs W2))
    (hs:(assignEach (a::es) X.env).map (·.2)=assign a X.env::(assignEach es X.env).map (·.2)):vx X (a::es) (Fn K (aX g1 gs) (W1++W2)):=(xb h1 h2 hs).mono fun v σ H Q h=>by
  obtain⟨F,e,xs,e',R,hx,hg,q⟩:=h
  unfold aX at hg
  match xs,hg,hx with
  | x::r,hg,hx=>
    simp only [aM] at hx
    obtain⟨w,ws,e1,hw,hr⟩:=hx
    dsimp only at hg
    obtain⟨e1',h3,h4⟩:=Option.bind_eq_some_iff.mp hg
    refine⟨w,ws,e1,F,e,x,e1',R,hw,h3,fun σ1 x1 R1=>⟨F,e1',r,e',R1,hr,h4,fun σ2 x2 R2=>?_⟩⟩
    exact q σ2 ((x1.mono fun j h=>List.mem_append.mpr (.inl h)).trans (x2.mono fun j h=>List.mem_append.mpr (.inr h))) R2
theorem jB{es:List Expr}{k n:Nat}{gs:Ag}(hK:X.K=K)(hc:X.calm=true)(h:vx X es (Fn K gs W))(hl:∀xs e e',gs xs e=some e'→xs.length=n)(hn:(assignEach es X.env).length=n)(hst:(assignEach es X.env).findIdx? (·.1)=none):PG X (.Tuple es k pos) (fG K (dz gs) W):=(zl hK hc h hn hst).mono fun v σ H Q h=>by
  obtain⟨F,e,x,e',R,hx,hg,q⟩:=h
  unfold dz at hg
  match x,hg,hx with
  | .tuple xs,hg,hx=>
    obtain⟨p,vs,e1,e2,e3⟩:=cP.mp hx
    exact⟨p,vs,e1,R.sm.tup e2,by rw [←e3.len];exact hl xs e e' hg,F,e,xs,e',R,e3,hg,q⟩
theorem jz(xs:List PyData)(e e':En)(h:cN xs e=some e'):xs.length=0:=by
  unfold cN at h
  split at h
  · rfl
  · cases h
theorem cv{g:FG}{gs:Ag}{n:Nat}(hl:∀xs e e',gs xs e=some e'→xs.length=n)(xs:List PyData)(e e':En)(h:aX g gs xs e=some e'):xs.length=n+1:=by
  unfold aX at h
  match xs,h with
  | x::r,h=>
    obtain⟨e1,h3,h4⟩:=Option.bind_eq_some_iff.mp h
    simp [hl r e1 e' h4]
def jk(fa:FE)(g:FG):FS:=fun e=>(fa e).bind fun p=>match p.1 with
  | .d x=>(g x p.2).map .nx
  | _=>none
theorem kD{tg:Expr}{g:FG}(he:PE X a (fE K fa))(hg:PG X tg (fG K g W))(hs:swapsWithSole [tg] a pos.line X.env=pure false)(hw:swappedStores [tg] a X.env=pure none)
    (h1:(assignEach [tg] X.env).map (·.2)=[assign tg X.env]):PS X (.Assign [tg] a pos) (fS K (jk fa g) W):=(xm he hg hs hw h1).mono fun D σ H h=>by
  obtain⟨F,e,fl,R,hf,q⟩:=h
  unfold jk at hf
  obtain⟨⟨r,e1⟩,h1,hf⟩:=Option.bind_eq_some_iff.mp hf
  match r,h1,hf with
  | .d x,h1,hf=>
    obtain⟨e2,h2,hf⟩:=Option.map_eq_some_iff.mp hf
    cases hf
    exact⟨F,e,_,e1,R,h1,fun F1 H1 v X1 R1 A1=>⟨F1,e1,x,e2,R1,A1,h2,fun σ' x2 R2=>q F1 H1 σ' (X1.s.trans x2) R2⟩⟩
def m7(i j:Nat)(fs:FA):FS:=fun e=>(fs e).bind fun p=>match p.1 with
  | [.d x,.d y]=>some (.nx ((p.2.set i (some (.d x))).set j (some (.d y))))
  | _=>none
theorem Cq{i j:Nat}{x y:Str}{fs:FA}{px py pt:Pos}{kt k2 pt2}(hc:X.calm=true)(hN:X.N.Nodup)(hi:X.N[i]?=some x)(hj:X.N[j]?=some y)(hij:i≠j)
    (hx:X.env.scope.names.lookup x=some .local)(hy:X.env.scope.names.lookup y=some .local)(ha:PA X [a,b] (fA K fs))
    (hw:swappedStores [.Tuple [.Name x px,.Name y py] kt pt] (.Tuple [a,b] k2 pt2) X.env=pure (some [x,y]))
    (hs:swapsWithSole [.Tuple [.Name x px,.Name y py] kt pt] (.Tuple [a,b] k2 pt2) pos.line X.env=pure false):
    PS X (.Assign [.Tuple [.Name x px,.Name y py] kt pt] (.Tuple [a,b] k2 pt2) pos) (fS K (m7 i j fs) [i,j]):=(Cd hc hN hi hj hij hx hy ha hw hs).mono fun D σ H h=>by
  obtain⟨F,e,fl,R,hf,q⟩:=h
  unfold m7 at hf
  obtain⟨⟨rs,e1⟩,h1,hf⟩:=Option.bind_eq_some_iff.mp hf
  refine⟨F,e,rs,e1,R,h1,fun F1 H1 vs X1 R1 A1=>?_⟩
  match rs,hf,A1 with
  | [.d x,.d y],hf,A1=>
    cases hf
    obtain⟨v,u,rfl,a1,a2⟩:=l6 A1
    obtain⟨R2,o2⟩:=R1.setD i a1
    obtain⟨R3,o3⟩:=R2.setD j a2
    refine⟨v,u,rfl,q F1 H1 _ ⟨X1.sf,X1.dom,X1.fr,X1.lst,X1.tmp,fun a h=>X1.ow a (o2 a (o3 a h)),fun m n=>?_,X1.fd⟩ R3⟩
    rw [List.getElem?_set_ne (fun z=>n (by simp [z])),List.getElem?_set_ne (fun z=>n (by simp [z]))]
def lL:Rv→Option PyData
  | .d x=>some x
  | .l xs=>some (.list xs)
  | .s _=>none
theorem oo{r:Rv}{d:PyData}(h:lL r=some d):fF [r]=some [d]:=by
  cases r with
  | d x=>cases h;rfl
  | l xs=>cases h;rfl
  | s i=>cases h
def p0(e:En):Rv→Option (Nat × List PyData)
  | .s n=>match e[n]? with
    | some (some (.l xs))=>some (n,xs)
    | _=>none
  | _=>none
theorem va{e:En}{r:Rv}{n:Nat}{xs:List PyData}(h:p0 e r=some (n,xs)):r=.s n∧e[n]?=some (some (.l xs)):=by
  unfold p0 at h
  split at h
  · split at h
    · rename_i heq
      cases h;exact⟨rfl,heq⟩
    · cases h
  · cases h
def zI(fa fo fi:FE):FS:=fun e=>(fa e).bind fun p=>(lL p.1).bind fun d=>(fo p.2).bind fun o=>(fi o.2).bind fun i=>(bh i.1).bind fun k=>(p0 i.2 o.1).bind fun s=>(yF s.2.length k).map fun j=>.nx (i.2.set s.1 (some (.l (s.2.set j d))))
theorem Cr{o i:Expr}{fo fi:FE}{ps:Pos}(he:PE X a (fE K fa))(ho:PE X o (fE K fo))(hi:PE X i (fE K fi))
    (ha:∀v,assign (.Subscript o i ps) X.env v=(do
      let ov ←holding [v] (eval o X.env)
      let iv ←holding [v,ov] (eval i X.env)
      standAt ps
      holding [v,ov,iv] (setItem ov iv v)
      release [v,ov,iv] []))
    (hs:swapsWithSole [.Subscript o i ps] a pos.line X.env=pure false)(hw:swappedStores [.Subscript o i ps] a X.env=pure none)
    (h1:(assignEach [.Subscript o i ps] X.env).map (·.2)=[assign (.Subscript o i ps) X.env]):PS X (.Assign [.Subscript o i ps] a pos) (fS K (zI fa fo fi) []):=(xm he (B9 ho hi xS ha) hs hw h1).mono fun D σ H h=>by
  obtain⟨F,e,fl,R,hf,q⟩:=h
  unfold zI at hf
  obtain⟨⟨r,e1⟩,g1,hf⟩:=Option.bind_eq_some_iff.mp hf
  obtain⟨d,g2,hf⟩:=Option.bind_eq_some_iff.mp hf
  obtain⟨⟨ro,e2⟩,g3,hf⟩:=Option.bind_eq_some_iff.mp hf
  obtain⟨⟨ri,e3⟩,g4,hf⟩:=Option.bind_eq_some_iff.mp hf
  obtain⟨k,g5,hf⟩:=Option.bind_eq_some_iff.mp hf
  obtain⟨⟨n,xs⟩,g6,hf⟩:=Option.bind_eq_some_iff.mp hf
  obtain⟨j,g7,hf⟩:=Option.map_eq_some_iff.mp hf
  cases hf
  obtain⟨z6,g6'⟩:=va g6
  dsimp only at z6 g6'
  subst z6
  refine⟨F,e,r,e1,R,g1,fun F1 H1 v X1 R1 A1=>?_⟩
  refine⟨F1,e1,_,e2,R1,g3,fun F2 H2 u X2 R2 A2=>⟨F2,e2,ri,e3,R2,g4,fun F3 H3 w X3 R3 A3=>?_⟩⟩
  have X12:=X1.trans X2
  have X13:=X12.trans X3
  have A1':=(A1.ext X2).ext X3
  obtain⟨F4,R4,s4,d4,f4⟩:=cW.frozen R3 (rs:=[r]) (vs:=[v]) ⟨v,[],rfl,A1',rfl⟩ (oo g2)
  obtain⟨h1,_⟩:=A2
  obtain⟨l,vs,k1,k2,k3,k4⟩:=R4.own n xs g6'
  rw [h1] at k1;cases k1
  simp only [aM] at d4
  obtain⟨v',r',e',hv,_⟩:=d4
  cases e'
  refine⟨l,vs,k,j,rfl,bD A3 g5,k3,by rw [←k4.len];exact g7,?_⟩
  obtain⟨R5,X5⟩:=R4.putL g6' h1 (k4.set hv j)
  exact q _ _ σ ((X13.frz s4 f4).trans X5).s R5
def ie(ft:FT)(f:FS):Nat→FS
  | 0,_=>none
  | n+1,e=>(ft e).bind fun p=>if p.1=true then(f p.2).bind fun fl=>match fl with
      | .nx e1=>ie ft f n e1
      | .ct e1=>ie ft f n e1
      | .bk e1=>some (.nx e1)
      | .rt r e1=>some (.rt r e1)
    else some (.nx p.2)
def m8(n:Nat)(ft:FT)(f:FS):FS:=ie ft f n
theorem qZ{n:Nat}{c:Expr}{body:List Stmt}(hp:PassesOwn (model X.prog X.w) X.A X.env X.xe)(hc:PT X c (fT K ft))(hb:lK X body (fS K f W)):PS X (.While c body [] pos) (fS K (m8 n ft f) W):=(xn hp hc hb).mono fun D σ H h=>by
  refine⟨fun m σ H=>∃F e fl,a9 K F H σ e∧ie ft f m e=some fl∧my K W σ F H e D fl,⟨n,h⟩,?_⟩
  rintro m σ H ⟨F,e,fl,R,hf,q⟩
  cases m with
  | zero=>cases hf
  | succ m=>
    unfold ie at hf
    obtain⟨⟨x,e1⟩,h1,hf⟩:=Option.bind_eq_some_iff.mp hf
    refine⟨F,e,x,e1,R,h1,fun F1 H1 X1 R1=>?_⟩
    have sub:∀j,j∈([]:List Nat)→j∈W:=fun j h=>by cases h
    cases x with
    | false=>
      rw [if_neg (by simp)] at hf
      cases hf
      exact DT (q F1 H1 σ X1.s R1)
    | true=>
      rw [if_pos rfl] at hf
      refine DU ?_
      obtain⟨fl1,h2,hf⟩:=Option.bind_eq_some_iff.mp hf
      have q1:my K W σ F1 H1 e1 D fl:=q.later (W1:=[]) X1.s sub fun j h=>h
      refine⟨fun σ' H'=>∃F' e',a9 K F' H' σ' e'∧ie ft f m e'=some fl∧my K W σ' F' H' e' D fl,fun σ' H' ⟨F',e',r1,r2,r3⟩=>⟨m,Nat.lt_succ_self m,F',e',fl,r1,r2,r3⟩,F1,e1,fl1,R1,h2,?_⟩
      cases fl1 with
      | nx e2=>exact fun F2 H2 σ2 x R2=>⟨F2,e2,R2,hf,q1.later x (fun j h=>h) fun j h=>h⟩
      | ct e2=>exact fun F2 H2 σ2 x R2=>⟨F2,e2,R2,hf,q1.later x (fun j h=>h) fun j h=>h⟩
      | bk e2=>cases hf;exact fun F2 H2 σ2 x R2=>q1 F2 H2 σ2 x R2
      | rt r e2=>cases hf;exact fun F2 H2 σ2 v x R2 A=>q1 F2 H2 σ2 v x R2 A
end
end L2
namespace L2
open PySem PySem.Spec PyProof.Rows
theorem PI.mono{X:Cx}{tg iter:Expr}{t t':TI}(h:PI X tg iter t)(m:∀σ H R,t' σ H R→t σ H R):PI X tg iter t':=fun pins s σ H R I q=>h pins s σ H R I (m σ H R q)
theorem PI.or{X:Cx}{tg iter:Expr}{t t':TI}(h:PI X tg iter t)(h':PI X tg iter t'):PI X tg iter (fun σ H R=>t σ H R∨t' σ H R):=fun pins s σ H R I q=>by
  rcases q with q | q
  · exact h pins s σ H R I q
  · exact h' pins s σ H R I q
abbrev iq:=List (Nat × List PyData)
def vB(K:PySem.W.Frag)(σ:L2.St)(F H:Hp)(own:iq):Prop:=∀p∈own,∃l vs,σ[p.1]?=some (some (.ref l))∧H l=some (.lst vs)∧aM K F p.2 vs
def vD(K:PySem.W.Frag)(σ:L2.St)(J:It)(items:List PyData)(own:iq)(F0:Hp):Prop:=∀F H,au F0 F→au F H→vB K σ F H own→
  (∀i,i < items.length→J.go i H)∧(∀i,items.length≤i→J.stop i H)∧∀i d x H',items[i]?=some d→J.yld i H x H'→∃F',au H H'∧au F F'∧au F' H'∧(∀a,F a=none→H a≠none→F' a=none)∧DA K F' d x
abbrev FI:=En→Option (List PyData × iq × En)
def keeps(own:iq)(e:En):Prop:=∀p∈own,e[p.1]?=some (some (.l p.2))
def fI(K:PySem.W.Frag)(f:FI):TI:=fun σ H R=>∃F e items own e',a9 K F H σ e∧f e=some (items,own,e')∧∀J F' H',dH σ F H e F' H' e'→a9 K F' H' σ e'→keeps own e'→vD K σ J items own F'→R J H'
section
variable{K:PySem.W.Frag}{σ:L2.St}{H0 F H F' H':Hp}{e e':En}
theorem a9.held(R:a9 K F H σ e){own:iq}(h:keeps own e):vB K σ F H own:=fun p hp=>by
  obtain⟨l,vs,h1,h2,h3,h4⟩:=R.own p.1 p.2 (h p hp)
  exact⟨l,vs,h1,h3,h4⟩
theorem a9.step(R:a9 K F H σ e)(s:au H H')(sF:au F F')(sm:au F' H')(fz:∀a,F a=none→H a≠none→F' a=none):a9 K F' H' σ e∧dH σ F H e F' H' e:=by
  obtain⟨R',o'⟩:=R.keep sF sm (fun a ⟨i,h⟩=>by
    obtain⟨h1,vs,h2⟩:=R.fpAt h
    exact fz a h1 (by rw [h2];simp)) fun a o _ h=>s a o h
  exact⟨R',⟨sF,fun a h=>s.free h,fun a vs h1 h2 _=>fz a h1 (by rw [h2];simp),fun a vs h=>⟨vs,s _ _ h⟩,fun a o h _=>s a o h,fun _=>Iff.rfl,fun a h=>.inl ((o' a).mp h),fun a m h1 h2 _=>fz a h1 (by rw [h2];simp)⟩⟩
inductive p_ (K:PySem.W.Frag) (σ:L2.St) (F:Hp) (p:Addr):Bool→List PyData→iq→Prop
  | tup {xs vs}:bX K F p vs→aM K F xs vs→p_ K σ F p false xs []
  | lst {xs vs}:cT K F p vs→aM K F xs vs→p_ K σ F p true xs []
  | own {i xs}:σ[i]?=some (some (.ref p))→p_ K σ F p true xs [(i,xs)]
theorem p_.at{p:Addr}{b:Bool}{xs:List PyData}{own:iq}{F0:Hp}(h:p_ K σ F0 p b xs own)(s0:au F0 F)(s1:au F H){own':iq}(hh:vB K σ F H own')(hs:∀q∈own,q∈own'):∃vs,aM K F xs vs∧(if b=true then cT K H p vs else bX K H p vs):=by
  cases h with
  | tup h1 h2=>exact⟨_,h2.mono s0,(s0.trans s1).tup h1⟩
  | lst h1 h2=>exact⟨_,h2.mono s0,(s0.trans s1).seq h1⟩
  | @own i xs h1=>
    obtain⟨l,vs,g1,g2,g3⟩:=hh (i,xs) (hs (i,xs) (by simp))
    dsimp only at g1 g3
    rw [h1] at g1;cases g1
    exact⟨vs,g3,.inl (.inl g2)⟩
def vd(e:En):Rv→Option (Bool × List PyData × iq)
  | .d (.tuple xs)=>some (false,xs,[])
  | .d (.list xs)=>some (true,xs,[])
  | .l xs=>some (true,xs,[])
  | .s i=>match e[i]? with
    | some (some (.l xs))=>some (true,xs,[(i,xs)])
    | _=>none
  | _=>none
theorem l8{r:Rv}{v:V}{b:Bool}{xs:List PyData}{own:iq}(R:a9 K F H σ e)(A:bS K σ H0 F H e r v)(h:vd e r=some (b,xs,own)):
    ∃F' p,a9 K F' H σ e∧au F F'∧(∀a,F a=none→H0 a≠none→F' a=none)∧v=.ref p∧p_ K σ F' p b xs own∧keeps own e:=by
  cases r with
  | d x=>
    cases x with
    | tuple ds=>
      cases h
      obtain⟨a,ys,e1,e2,e3⟩:=cP.mp A
      exact⟨F,a,R,au.refl _,fun _ h _=>h,e1,.tup e2 e3,fun p hp=>by cases hp⟩
    | list ds=>
      cases h
      obtain⟨a,ys,e1,e2,e3⟩:=dg.mp A
      exact⟨F,a,R,au.refl _,fun _ h _=>h,e1,.lst e2 e3,fun p hp=>by cases hp⟩
    | _=>cases h
  | l ys=>
    cases h
    obtain⟨F',R',s',d',f'⟩:=A.frozen R
    obtain⟨a,ys,e1,e2,e3⟩:=dg.mp d'
    exact⟨F',a,R',s',f',e1,.lst e2 e3,fun p hp=>by cases hp⟩
  | s i=>
    obtain⟨h1,ys,h2⟩:=A
    simp only [vd,h2] at h
    cases h
    obtain⟨l,vs,e1,e2,e3,e4⟩:=R.own i _ h2
    rw [h1] at e1;cases e1
    exact⟨F,l,R,au.refl _,fun _ h _=>h,rfl,.own h1,fun p hp=>by simp only [List.mem_singleton] at hp;subst hp;exact h2⟩
theorem uG{p:Addr}{xs:List PyData}{own:iq}{F0:Hp}(h:p_ K σ F0 p true xs own):vD K σ (Fy K p) xs own F0:=by
  intro F H s0 s1 hh
  obtain⟨vs,d,q⟩:=h.at s0 s1 hh fun _ h=>h
  have q:cT K H p vs:=q
  refine⟨fun i hi=>⟨vs,vs[i]'(by rw [←d.len];exact hi),q,List.getElem?_eq_getElem _⟩,fun i hi=>⟨vs,q,by rw [←d.len];exact hi⟩,fun i x v H' hx hy=>?_⟩
  obtain⟨rfl,hy⟩:=hy
  obtain⟨w,g1,g2⟩:=d.get hx
  have e:=hy vs q
  rw [g1] at e;cases e
  exact⟨F,au.refl _,au.refl _,s1,fun _ h _=>h,g2⟩
theorem ww{p:Addr}{xs:List PyData}{own:iq}{F0:Hp}(h:p_ K σ F0 p false xs own):vD K σ (Fz K p) xs own F0:=by
  intro F H s0 s1 hh
  obtain⟨vs,d,q⟩:=h.at s0 s1 hh fun _ h=>h
  have q:bX K H p vs:=q
  refine⟨fun i hi=>⟨vs,vs[i]'(by rw [←d.len];exact hi),q,List.getElem?_eq_getElem _⟩,fun i hi=>⟨vs,q,by rw [←d.len];exact hi⟩,fun i x v H' hx hy=>?_⟩
  obtain⟨rfl,hy⟩:=hy
  obtain⟨w,g1,g2⟩:=d.get hx
  have e:=hy vs q
  rw [g1] at e;cases e
  exact⟨F,au.refl _,au.refl _,s1,fun _ h _=>h,g2⟩
theorem wL{p:Addr}{x y:V}{a b:PyData}(s1:au F H)(hp:H p=none)(hx:DA K F a x)(hy:DA K F b y):∃F',au H (bi H p (.tup [x,y]))∧au F F'∧au F' (bi H p (.tup [x,y]))∧(∀c,F c=none→H c≠none→F' c=none)∧DA K F' (.tuple [a,b]) (.ref p):=by
  have hF:F p=none:=s1.free hp
  have sF:au F (bi F p (.tup [x,y])):=au.new hF
  refine⟨bi F p (.tup [x,y]),au.new hp,sF,fun b o q=>?_,fun c h n=>?_,cP.mpr ⟨p,_,rfl,.inl (.inl aw),.cons (DA.mono sF hx) (.one (DA.mono sF hy))⟩⟩
  · by_cases z:b=p
    · subst z;rw [aw] at q ⊢;exact q
    · rw [aH z] at q ⊢;exact s1 _ _ q
  · have z:c≠p:=fun z=>n (by rw [z];exact hp)
    rw [aH z];exact h
def i4:List PyData→List PyData→List PyData
  | x::r,y::s=>.tuple [x,y]::i4 r s
  | _,_=>[]
theorem rE:∀{xs ys:List PyData} {i:Nat} {d:PyData},(i4 xs ys)[i]?=some d→∃x y,xs[i]?=some x∧ys[i]?=some y∧d=.tuple [x,y]
  | [],ys,i,d,h=>by simp [i4] at h
  | x::r,[],i,d,h=>by simp [i4] at h
  | x::r,y::s,0,d,h=>by
    simp only [i4,List.getElem?_cons_zero] at h
    cases h;exact⟨x,y,rfl,rfl,rfl⟩
  | x::r,y::s,i+1,d,h=>by
    simp only [i4,List.getElem?_cons_succ] at h
    obtain⟨a,b,h1,h2,h3⟩:=rE h
    exact⟨a,b,by simpa using h1,by simpa using h2,h3⟩
theorem rF:∀(xs ys:List PyData),(i4 xs ys).length=min xs.length ys.length
  | [],ys=>by simp [i4]
  | x::r,[]=>by simp [i4]
  | x::r,y::s=>by simp [i4,rF r s]
theorem jQ{P Q:Hp→Addr→List V→Prop}{J:It}{l1 l2:Addr}{b1 b2:Bool}{xs ys:List PyData}{own1 own2:iq}{F0:Hp}(h1:p_ K σ F0 l1 b1 xs own1)(h2:p_ K σ F0 l2 b2 ys own2)
    (hP:∀H vs,(if b1=true then cT K H l1 vs else bX K H l1 vs)→P H l1 vs)(hQ:∀H vs,(if b2=true then cT K H l2 vs else bX K H l2 vs)→Q H l2 vs)
    (go:∀i H vs us x y,P H l1 vs→Q H l2 us→vs[i]?=some x→us[i]?=some y→J.go i H)(stop:∀i H vs us,P H l1 vs→Q H l2 us→(vs.length≤i∨us.length≤i)→J.stop i H)
    (yld:∀i H v H',J.yld i H v H'→∃p x y,v=.ref p∧H p=none∧H'=bi H p (.tup [x,y])∧∀xs ys,P H l1 xs→Q H l2 ys→xs[i]?=some x∧ys[i]?=some y):
    vD K σ J (i4 xs ys) (own1++own2) F0:=by
  intro F H s0 s1 hh
  obtain⟨vs,d1,q1⟩:=h1.at s0 s1 hh fun _ h=>List.mem_append.mpr (.inl h)
  obtain⟨us,d2,q2⟩:=h2.at s0 s1 hh fun _ h=>List.mem_append.mpr (.inr h)
  have q1:=hP H vs q1
  have q2:=hQ H us q2
  have l1':=d1.len
  have l2':=d2.len
  rw [rF]
  refine⟨fun i hi=>go i H vs us (vs[i]'(by lia)) (us[i]'(by lia)) q1 q2 (List.getElem?_eq_getElem _) (List.getElem?_eq_getElem _),fun i hi=>stop i H vs us q1 q2 (by lia),fun i x v H' hx hy=>?_⟩
  obtain⟨t,a,b,rfl,ht,rfl,hy3⟩:=yld i H v H' hy
  obtain⟨x',y',hx2,hy',rfl⟩:=rE hx
  obtain⟨w,g1,g2⟩:=d1.get hx2
  obtain⟨w',g3,g4⟩:=d2.get hy'
  obtain⟨e1,e2⟩:=hy3 vs us q1 q2
  rw [g1] at e1;cases e1
  rw [g3] at e2;cases e2
  exact wL s1 ht g2 g4
def aT(lo:Int)(n:Nat):List PyData:=(List.range n).map fun(i:Nat)=>.int (lo+(i:Int))
theorem rZ{lo:Int}{n:Nat}{F0:Hp}:vD K σ (Fe lo n) (aT lo n) [] F0:=by
  intro F H s0 s1 hh
  unfold aT
  rw [List.length_map,List.length_range]
  refine⟨fun i hi=>hi,fun i hi=>hi,fun i x v H' hx hy=>?_⟩
  obtain⟨rfl,rfl⟩:=hy
  rw [List.getElem?_map] at hx
  obtain⟨k,h1,rfl⟩:=Option.map_eq_some_iff.mp hx
  have h2:=(List.getElem?_eq_some_iff.mp h1).2
  simp at h2
  subst h2
  exact⟨F,au.refl _,au.refl _,s1,fun _ h _=>h,df.mpr rfl⟩
end
inductive Fw (K:PySem.W.Frag) (own:iq) (σ0:L2.St) (F1:Hp) (P:En→Prop) (G:L2.St→Hp→Hp→En→Prop) (σ:L2.St) (H:Hp):Prop
  | mk {F:Hp} {e:En} (R:a9 K F H σ e) (kp:keeps own e) (hσ:∀p∈own,σ[p.1]?=σ0[p.1]?) (sF:au F1 F) (hf:P e) (q:G σ F H e):Fw K own σ0 F1 P G σ H
section
variable{X:Cx}{K:PySem.W.Frag}{tg a b:Expr}{es:List Expr}{fa:FE}{fs:FA}{pos p tp:Pos}{k0:Nat}
def kj(fa:FE):FI:=fun e=>(fa e).bind fun p=>(vd p.2 p.1).map fun s=>(s.2.1,s.2.2,p.2)
theorem h8(hK:X.K=K)(h:PE X a (fE K fa)):PI X tg a (fI K (kj fa)):=((xc (tg:=tg) hK h).or (zp (tg:=tg) hK h)).mono fun σ H R hh=>by
  obtain⟨F,e,items,own,e',R0,hf,q⟩:=hh
  unfold kj at hf
  obtain⟨⟨r,e1⟩,h1,hf⟩:=Option.bind_eq_some_iff.mp hf
  obtain⟨⟨b,xs,ow⟩,h2,hf⟩:=Option.map_eq_some_iff.mp hf
  cases hf
  cases b with
  | true=>
    refine .inl ⟨F,e,r,e1,R0,h1,fun F1 H1 v X1 R1 A1=>?_⟩
    obtain⟨F2,p,R2,s2,f2,rfl,sc,kp⟩:=l8 R1 A1 h2
    obtain⟨vs,_,c⟩:=sc.at (au.refl _) R2.sm (R2.held kp) fun _ h=>h
    exact⟨p,rfl,⟨vs,c⟩,q _ F2 H1 (X1.frz s2 f2) R2 kp (uG sc)⟩
  | false=>
    refine .inr ⟨F,e,r,e1,R0,h1,fun F1 H1 v X1 R1 A1=>?_⟩
    obtain⟨F2,p,R2,s2,f2,rfl,sc,kp⟩:=l8 R1 A1 h2
    obtain⟨vs,_,c⟩:=sc.at (au.refl _) R2.sm (R2.held kp) fun _ h=>h
    exact⟨p,rfl,⟨vs,c⟩,q _ F2 H1 (X1.frz s2 f2) R2 kp (ww sc)⟩
def tK(fs:FA):FI:=fun e=>(fs e).bind fun p=>match p.1 with
  | [r,t]=>(vd p.2 r).bind fun s=>(vd p.2 t).map fun u=>(i4 s.2.1 u.2.1,s.2.2++u.2.2,p.2)
  | _=>none
theorem p_.mono{σ:L2.St}{F F':Hp}{p:Addr}{b:Bool}{xs:List PyData}{own:iq}(h:p_ K σ F p b xs own)(s:au F F'):p_ K σ F' p b xs own:=by
  cases h with
  | tup h1 h2=>exact .tup (s.tup h1) (h2.mono s)
  | lst h1 h2=>exact .lst (s.seq h1) (h2.mono s)
  | own h1=>exact .own h1
theorem Cp(hK:X.K=K)(hg:Gl X "zip")(hm:X.mg "zip"=none)(ha:PA X [a,b] (fA K fs))(hs:starEach [a,b] X.env=[(false,eval a X.env),(false,eval b X.env)])(hs2:starEach [b] X.env=[(false,eval b X.env)]):PI X (.Tuple es k0 tp) (.Call (.Name "zip" p) [a,b] [] pos) (fI K (tK fs)):=
    (((Ca (es:=es) (k0:=k0) (tp:=tp) hK hg hm ha hs hs2).or (xg (es:=es) (k0:=k0) (tp:=tp) hK hg hm ha hs hs2)).or ((xh (es:=es) (k0:=k0) (tp:=tp) hK hg hm ha hs hs2).or (xf (es:=es) (k0:=k0) (tp:=tp) hK hg hm ha hs hs2))).mono fun σ H R hh=>by
  obtain⟨F,e,items,own,e',R0,hf,q⟩:=hh
  unfold tK at hf
  obtain⟨⟨rs,e1⟩,h1,hf⟩:=Option.bind_eq_some_iff.mp hf
  match rs,h1,hf with
  | [r,t],h1,hf=>
  obtain⟨⟨b,xs,ow⟩,h2,hf⟩:=Option.bind_eq_some_iff.mp hf
  obtain⟨⟨b',ys,ow'⟩,h3,hf⟩:=Option.map_eq_some_iff.mp hf
  cases hf
  have key:∀F1 H1 vs,dH σ F H e F1 H1 e1→a9 K F1 H1 σ e1→cW K σ H F1 H1 e1 [r,t] vs→∃p p' F2,vs=[.ref p,.ref p']∧dH σ F H e F2 H1 e1∧a9 K F2 H1 σ e1∧p_ K σ F2 p b xs ow∧p_ K σ F2 p' b' ys ow'∧keeps (ow++ow') e1:=by
    intro F1 H1 vs X1 R1 A1
    obtain⟨v,u,rfl,a1,a2⟩:=l6 A1
    obtain⟨F2,p,R2,s2,f2,rfl,sc,kp⟩:=l8 R1 a1 h2
    have X2:=X1.frz s2 f2
    have a2':bS K σ H F2 H1 e1 t u∨∃zs,t=.l zs∧DA K F2 (.list zs) u:=by
      cases t with
      | d x=>exact .inl (DA.mono s2 a2)
      | s i=>exact .inl a2
      | l zs=>
        obtain⟨l,ws,rfl,g1,g2,g3,g4,g5⟩:=a2
        cases hl:F2 l with
        | none=>exact .inl ⟨l,ws,rfl,g1,hl,g3,aM.mono s2 g4,g5⟩
        | some o=>
          have:=R2.sm _ _ hl
          rw [g3] at this;cases this
          exact .inr ⟨zs,rfl,dg.mpr ⟨l,ws,rfl,.inl (.inl hl),aM.mono s2 g4⟩⟩
    rcases a2' with a2' | ⟨zs,rfl,d2⟩
    · obtain⟨F3,p',R3,s3,f3,rfl,sc',kp'⟩:=l8 R2 a2' h3
      exact⟨p,p',F3,rfl,X2.frz s3 f3,R3,sc.mono s3,sc',fun z hz=>(List.mem_append.mp hz).elim (kp z) (kp' z)⟩
    · cases h3
      obtain⟨p',ws,rfl,g1,g2⟩:=dg.mp d2
      exact⟨p,p',F2,rfl,X2,R2,sc,.lst g1 g2,fun z hz=>(List.mem_append.mp hz).elim (kp z) fun h=>by cases h⟩
  have fin:∀{F2 H1:Hp} {p p':Addr},a9 K F2 H1 σ e1→p_ K σ F2 p b xs ow→p_ K σ F2 p' b' ys ow'→keeps (ow++ow') e1→(∃vs,if b=true then cT K H1 p vs else bX K H1 p vs)∧(∃vs,if b'=true then cT K H1 p' vs else bX K H1 p' vs):=by
    intro F2 H1 p p' R2 s1 s2 kp
    obtain⟨vs,_,c⟩:=s1.at (au.refl _) R2.sm (R2.held kp) fun _ h=>List.mem_append.mpr (.inl h)
    obtain⟨us,_,c'⟩:=s2.at (au.refl _) R2.sm (R2.held kp) fun _ h=>List.mem_append.mpr (.inr h)
    exact⟨⟨vs,c⟩,⟨us,c'⟩⟩
  cases b with
  | false=>cases b' with
    | false=>
      refine .inl (.inl ⟨F,e,_,e1,R0,h1,fun F1 H1 vs X1 R1 A1=>?_⟩)
      obtain⟨p,p',F2,rfl,X2,R2,s1,s2,kp⟩:=key F1 H1 vs X1 R1 A1
      obtain⟨c1,c2⟩:=fin R2 s1 s2 kp
      exact⟨p,p',rfl,c1,c2,q _ F2 H1 X2 R2 kp (jQ (P:=bX K) (Q:=bX K) s1 s2 (fun _ _ h=>h) (fun _ _ h=>h) (fun i H vs us x y h1 h2 h3 h4=>⟨vs,us,x,y,h1,h2,h3,h4⟩) (fun i H vs us h1 h2 h3=>⟨vs,us,h1,h2,h3⟩) fun i H v H' h=>h)⟩
    | true=>
      refine .inr (.inl ⟨F,e,_,e1,R0,h1,fun F1 H1 vs X1 R1 A1=>?_⟩)
      obtain⟨p,p',F2,rfl,X2,R2,s1,s2,kp⟩:=key F1 H1 vs X1 R1 A1
      obtain⟨c1,c2⟩:=fin R2 s1 s2 kp
      exact⟨p,p',rfl,c1,c2,q _ F2 H1 X2 R2 kp (jQ (P:=bX K) (Q:=cT K) s1 s2 (fun _ _ h=>h) (fun _ _ h=>h) (fun i H vs us x y h1 h2 h3 h4=>⟨vs,us,x,y,h1,h2,h3,h4⟩) (fun i H vs us h1 h2 h3=>⟨vs,us,h1,h2,h3⟩) fun i H v H' h=>h)⟩
  | true=>cases b' with
    | false=>
      refine .inl (.inr ⟨F,e,_,e1,R0,h1,fun F1 H1 vs X1 R1 A1=>?_⟩)
      obtain⟨p,p',F2,rfl,X2,R2,s1,s2,kp⟩:=key F1 H1 vs X1 R1 A1
      obtain⟨c1,c2⟩:=fin R2 s1 s2 kp
      exact⟨p,p',rfl,c1,c2,q _ F2 H1 X2 R2 kp (jQ (P:=cT K) (Q:=bX K) s1 s2 (fun _ _ h=>h) (fun _ _ h=>h) (fun i H vs us x y h1 h2 h3 h4=>⟨vs,us,x,y,h1,h2,h3,h4⟩) (fun i H vs us h1 h2 h3=>⟨vs,us,h1,h2,h3⟩) fun i H v H' h=>h)⟩
    | true=>
      refine .inr (.inr ⟨F,e,_,e1,R0,h1,fun F1 H1 vs X1 R1 A1=>?_⟩)
      obtain⟨p,p',F2,rfl,X2,R2,s1,s2,kp⟩:=key F1 H1 vs X1 R1 A1
      obtain⟨c1,c2⟩:=fin R2 s1 s2 kp
      exact⟨p,p',rfl,c1,c2,q _ F2 H1 X2 R2 kp (jQ (P:=cT K) (Q:=cT K) s1 s2 (fun _ _ h=>h) (fun _ _ h=>h) (fun i H vs us x y h1 h2 h3 h4=>⟨vs,us,x,y,h1,h2,h3,h4⟩) (fun i H vs us h1 h2 h3=>⟨vs,us,h1,h2,h3⟩) fun i H v H' h=>h)⟩
def xI(j:Int):Bool:=decide (-1000000≤j)&&decide (j≤1000000)
theorem xJ{j:Int}(h:xI j=true): -1000000≤j∧j≤1000000:=by
  unfold xI at h
  rw [Bool.and_eq_true,decide_eq_true_iff,decide_eq_true_iff] at h
  exact h
def cK(fs:FA):FI:=fun e=>(fs e).bind fun p=>match p.1 with
  | [r]=>(bh r).bind fun j=>if xI j=true then some (aT 0 j.toNat,[],p.2) else none
  | _=>none
theorem cL(hg:Gl X "range")(hm:X.mg "range"=none)(ha:PA X [a] (fA K fs))(hs:starEach [a] X.env=[(false,eval a X.env)]):PI X tg (.Call (.Name "range" p) [a] [] pos) (fI K (cK fs)):=(uT hg hm ha hs).mono fun σ H R hh=>by
  obtain⟨F,e,items,own,e',R0,hf,q⟩:=hh
  unfold cK at hf
  obtain⟨⟨rs,e1⟩,h1,hf⟩:=Option.bind_eq_some_iff.mp hf
  match rs,h1,hf with
  | [r],h1,hf=>
  obtain⟨j,h2,hf⟩:=Option.bind_eq_some_iff.mp hf
  split at hf
  case isFalse=>cases hf
  case isTrue hj=>
  cases hf
  refine⟨F,e,_,e1,R0,h1,fun F1 H1 vs X1 R1 A1=>?_⟩
  obtain⟨v,rfl,A2⟩:=l5 A1
  have:=xJ hj
  exact⟨j,by rw [bD A2 h2],by lia,by lia,q _ F1 H1 X1 R1 (fun _ h=>by cases h) rZ⟩
open Classical in
noncomputable def e_(own:iq)(g:FG)(f:FS):List PyData→FS
  | [],e=>some (.nx e)
  | x::r,e=>(g x e).bind fun e1=>(f e1).bind fun fl=>match fl with
    | .nx e2=>if keeps own e2 then e_ own g f r e2 else none
    | .ct e2=>if keeps own e2 then e_ own g f r e2 else none
    | .bk e2=>some (.nx e2)
    | .rt v e2=>some (.rt v e2)
noncomputable def c7(W:List Nat)(fi:FI)(g:FG)(f:FS):FS:=fun e=>(fi e).bind fun p=>if (p.2.1.all fun q=> !W.contains q.1)=true then e_ p.2.1 g f p.1 p.2.2 else none
theorem ee{W1 W2:List Nat}{iter:Expr}{body:List Stmt}{fi:FI}{g:FG}{f:FS}(hp:PassesOwn (model X.prog X.w) X.A X.env X.xe)(hc:X.calm=true)(hi:PI X tg iter (fI K fi))(hg:PG X tg (fG K g W1))(hb:lK X body (fS K f W2))(hs:∀x,foldedSetIterable iter X.env x=pure x):
    PS X (.For tg iter body [] pos) (fS K (c7 (W1++W2) fi g f) (W1++W2)):=(Cc hp hc hi hg hb hs).mono fun D σ0 H0 hh=>by
  obtain⟨F0,e0,fl,R0,hf,q0⟩:=hh
  unfold c7 at hf
  obtain⟨⟨items,own,e1⟩,h1,hf⟩:=Option.bind_eq_some_iff.mp hf
  dsimp only at hf
  split at hf
  case isFalse=>cases hf
  case isTrue hW=>
  have hW':∀p∈own,p.1∉W1++W2:=fun p hp=>by
    have:=List.all_eq_true.mp hW p hp
    simpa using this
  refine⟨F0,e0,items,own,e1,R0,h1,fun J F1 H1 X1 R1 kp ok=>?_⟩
  have s1:∀j,j∈W1→j∈W1++W2:=fun j h=>List.mem_append.mpr (.inl h)
  have s2:∀j,j∈W2→j∈W1++W2:=fun j h=>List.mem_append.mpr (.inr h)
  have q1:my K (W1++W2) σ0 F1 H1 e1 D fl:=q0.later (W1:=[]) X1.s (fun j h=>by cases h) fun j h=>h
  refine⟨fun i m σ H=>m=items.length - i∧i≤items.length∧Fw K own σ0 F1 (fun e=>e_ own g f (items.drop i) e=some fl) (fun σ F H e=>my K (W1++W2) σ F H e D fl) σ H,
    ⟨items.length,by simp,Nat.zero_le _,.mk R1 kp (fun _ _=>rfl) (au.refl _) hf q1⟩,?_⟩
  rintro i m σ H ⟨rfl,hi,⟨R,kp,hσ,sF,hf,q⟩⟩
  rename_i F e
  have held:vB K σ0 F H own:=fun p hp=>by
    obtain⟨l,vs,g1,g2⟩:=R.held kp p hp
    exact⟨l,vs,by rw [←hσ p hp];exact g1,g2⟩
  obtain⟨go,stop,yld⟩:=ok F H sF R.sm held
  by_cases hlt:i < items.length
  · have hd:items.drop i=items[i]::items.drop (i+1):=List.drop_eq_getElem_cons hlt
    rw [hd] at hf
    unfold e_ at hf
    obtain⟨e2,h2,hf⟩:=Option.bind_eq_some_iff.mp hf
    obtain⟨fl2,h3,hf⟩:=Option.bind_eq_some_iff.mp hf
    refine .inr ⟨go i hlt,Fw K own σ0 F1 (fun e=>e_ own g f (items.drop (i+1)) e=some fl) (fun σ F H e=>my K (W1++W2) σ F H e D fl),
      fun σ' H' r=>⟨items.length - (i+1),by lia,rfl,hlt,r⟩,fun x H' hy=>?_⟩
    obtain⟨F',sH,sF',sm',fz,hx⟩:=yld i items[i] x H' (List.getElem?_eq_getElem hlt) hy
    obtain⟨R',X'⟩:=R.step sH sF' sm' fz
    refine⟨F',e,items[i],e2,R',hx,h2,fun σ2 x2 R2=>⟨F',e2,fl2,R2,h3,?_⟩⟩
    have q2:my K (W1++W2) σ2 F' H' e2 D fl:=(q.later (W1:=[]) (W2:=W1++W2) X'.s (fun j h=>by cases h) fun j h=>h).later x2 s1 fun j h=>h
    have w2:∀p∈own,σ2[p.1]?=σ0[p.1]?:=fun p hp=>(x2.wr p.1 fun z=>hW' p hp (s1 _ z)).trans (hσ p hp)
    cases fl2 with
    | nx e3=>
      intro F3 H3 σ3 x3 R3
      dsimp only at hf
      split at hf
      case isFalse=>cases hf
      case isTrue kp3=>
      exact .mk R3 kp3 (fun p hp=>(x3.wr p.1 fun z=>hW' p hp (s2 _ z)).trans (w2 p hp)) (sF.trans (sF'.trans x3.sf)) hf (q2.later x3 s2 fun j h=>h)
    | ct e3=>
      intro F3 H3 σ3 x3 R3
      dsimp only at hf
      split at hf
      case isFalse=>cases hf
      case isTrue kp3=>
      exact .mk R3 kp3 (fun p hp=>(x3.wr p.1 fun z=>hW' p hp (s2 _ z)).trans (w2 p hp)) (sF.trans (sF'.trans x3.sf)) hf (q2.later x3 s2 fun j h=>h)
    | bk e3=>
      cases hf
      exact fun F3 H3 σ3 x3 R3=>q2 F3 H3 σ3 (x3.mono s2) R3
    | rt r e3=>
      cases hf
      exact fun F3 H3 σ3 v x3 R3 A3=>q2 F3 H3 σ3 v (x3.mono s2) R3 A3
  · have hd:items.drop i=[]:=List.drop_eq_nil_of_le (by lia)
    rw [hd] at hf
    cases hf
    exact .inl ⟨stop i (by lia),q F H σ dI.refl R⟩
end
end L2
namespace L2
open PySem PySem.Spec PyProof.Rows
def yi:Option (Option Sv)→Bool
  | some (some (.l _))=>true
  | _=>false
theorem yD{s:Option (Option Sv)}:yi s=true↔ ∃xs,s=some (some (.l xs)):=by
  unfold yi
  split
  · simp
  · rename_i h
    constructor
    · intro z;cases z
    · rintro⟨xs,rfl⟩;exact absurd rfl (h xs)
def nA(pos:Nat→Option Nat)(ei e:En):En:=e.mapIdx fun i s=>match s with
  | some (.l xs)=>match pos i with
    | some k=>(ei[k]?).join
    | none=>some (.l xs)
  | s=>s
theorem cj{pos:Nat→Option Nat}{ei e:En}{i:Nat}:(nA pos ei e)[i]?=(e[i]?).map fun s=>match s with
  | some (.l xs)=>match pos i with
    | some k=>(ei[k]?).join
    | none=>some (.l xs)
  | s=>s:=by unfold nA;rw [List.getElem?_mapIdx]
structure qc (σ:L2.St) (e:En) (σi:L2.St) (ei:En) (pos:Nat→Option Nat):Prop where
  a:∀(i k:Nat) (xs:List PyData),e[i]?=some (some (.l xs))→pos i=some k→σi[k]?=σ[i]?
  b:∀(k:Nat) (ys:List PyData),ei[k]?=some (some (.l ys))→∃(i:Nat) (xs:List PyData),e[i]?=some (some (.l xs))∧pos i=some k∧σi[k]?=σ[i]?
section
variable{K:PySem.W.Frag}{σ σi σi':L2.St}{F H F' H':Hp}{e ei ei':En}{pos:Nat→Option Nat}
def Dc(e:En):Prop:=∀(i:Nat) (xss:List (List PyData)),e[i]?≠some (some (.n xss))
theorem qc.own(s:qc σ e σi ei pos)(hn:Dc ei){a:Addr}{H H':Hp}(h:de σi ei H a):∃(i k:Nat) (xs:List PyData),e[i]?=some (some (.l xs))∧pos i=some k∧σ[i]?=some (some (.ref a)):=by
  obtain⟨k,⟨ys,h1,h2⟩ | ⟨xss,_,_,h1,_⟩⟩:=h
  · obtain⟨i,xs,g1,g2,g3⟩:=s.b k ys h1
    exact⟨i,k,xs,g1,g2,by rw [←g3];exact h2⟩
  · exact absurd h1 (hn k xss)
theorem rj(R:a9 K F H σ e)(s:qc σ e σi ei pos)(hnn:Dc ei)(sf:au F F')(dom:∀a,H' a=none→H a=none)(fr:∀a vs,F a=none→H a=some (.lst vs)→¬de σi ei H a→F' a=none)(lst:∀a vs,H a=some (.lst vs)→∃vs',H' a=some (.lst vs'))
    (tmp:∀a o,H a=some o→¬de σi ei H a→H' a=some o)(fd:∀a m,F a=none→H a=some (.dK m)→¬de σi ei H a→F' a=none)(R':a9 K F' H' σi' ei')(hσ:∀(i k:Nat) (xs:List PyData),e[i]?=some (some (.l xs))→pos i=some k→σi'[k]?=σi[k]?)(hsh:∀(i k:Nat) (xs:List PyData),e[i]?=some (some (.l xs))→pos i=some k→∃ys,ei'[k]?=some (some (.l ys))):
    a9 K F' H' σ (nA pos ei' e)∧dH σ F H e F' H' (nA pos ei' e)∧∀a,de σ (nA pos ei' e) H' a→de σ e H a:=by
  have shp:∀i:Nat,(∃xs,(nA pos ei' e)[i]?=some (some (.l xs)))↔ (∃xs,e[i]?=some (some (.l xs))):=by
    intro i
    rw [cj]
    match h:e[i]? with
    | none=>simp
    | some none=>simp
    | some (some (.d x))=>simp
    | some (some (.n x))=>simp
    | some (some (.l xs))=>
      simp only [Option.map_some]
      constructor
      · intro _;exact⟨xs,rfl⟩
      · intro _
        match hp:pos i with
        | none=>exact⟨xs,rfl⟩
        | some k=>
          obtain⟨ys,g⟩:=hsh i k xs h hp
          exact⟨ys,by show some ((ei'[k]?).join)=_;rw [g];rfl⟩
  have oth:∀(i:Nat) (s:Sv),(∀xs,s≠.l xs)→((nA pos ei' e)[i]?=some (some s)↔ e[i]?=some (some s)):=by
    intro i s hs
    constructor
    · intro h
      rw [cj] at h
      match h1:e[i]?,h with
      | some (some (.d y)),h=>exact h
      | some (some (.n y)),h=>exact h
      | some (some (.l ys)),h=>
        simp only [Option.map_some,Option.some.injEq] at h
        match hp:pos i,h with
        | none,h=>cases h;exact absurd rfl (hs _)
        | some k,h=>
          obtain⟨zs,g⟩:=hsh i k ys h1 hp
          change (ei'[k]?).join=_ at h
          rw [g] at h;cases h;exact absurd rfl (hs _)
      | some none,h=>simp at h
      | none,h=>simp at h
    · intro h
      rw [cj,h]
      cases s with
      | d y=>rfl
      | n y=>rfl
      | l y=>exact absurd rfl (hs y)
  have out:∀i a,Fp σ e H i a→(∀k xs,e[i]?=some (some (.l xs))→pos i≠some k)→¬de σi ei H a:=by
    intro i a hi hp z
    obtain⟨j,k,ws,d1,d2,d3⟩:=s.own hnn (H':=H') z
    have:i=j:=R.fp i j a hi (.inl ⟨ws,d1,d3⟩)
    subst this
    exact hp k ws d1 d2
  have keep:∀i a o,Fp σ e H i a→(∀k xs,e[i]?=some (some (.l xs))→pos i≠some k)→H a=some o→H' a=some o:=fun i a o hi hp ha=>tmp a o ha (out i a hi hp)
  have sown:∀a,de σi ei H a→de σ e H a:=fun a z=>by
    obtain⟨j,k,ws,d1,d2,d3⟩:=s.own hnn (H':=H') z
    exact⟨j,.inl ⟨ws,d1,d3⟩⟩
  have fs:∀i a,Fp σ (nA pos ei' e) H' i a↔ Fp σ e H i a:=by
    intro i a
    have key:∀xss l,e[i]?=some (some (.n xss))→σ[i]?=some (some (.ref l))→H' l=H l:=fun xss l h1 h2=>by
      obtain⟨l',bs,g1,g2,g3,_⟩:=R.nst i xss h1
      rw [h2] at g1;cases g1
      rw [g3]
      exact keep i l _ (.inr ⟨xss,l,bs,h1,h2,g3,.inl rfl⟩) (fun k xs z=>by rw [h1] at z;cases z) g3
    constructor
    · rintro(⟨xs,h1,h2⟩ | ⟨xss,l,bs,h1,h2,h3,h4⟩)
      · obtain⟨ys,h⟩:=(shp i).mp ⟨xs,h1⟩
        exact .inl ⟨ys,h,h2⟩
      · have h1':=(oth i (.n xss) (fun _ z=>nomatch z)).mp h1
        exact .inr ⟨xss,l,bs,h1',h2,by rw [←key xss l h1' h2];exact h3,h4⟩
    · rintro(⟨xs,h1,h2⟩ | ⟨xss,l,bs,h1,h2,h3,h4⟩)
      · obtain⟨ys,h⟩:=(shp i).mpr ⟨xs,h1⟩
        exact .inl ⟨ys,h,h2⟩
      · exact .inr ⟨xss,l,bs,(oth i (.n xss) (fun _ z=>nomatch z)).mpr h1,h2,by rw [key xss l h1 h2];exact h3,h4⟩
  refine⟨⟨R'.sm,?_,fun i x h=>?_,fun i xs h=>?_,fun i xss h=>?_,fun i j a h1 h2=>R.fp i j a ((fs i a).mp h1) ((fs j a).mp h2)⟩,⟨sf,dom,fun a vs h1 h2 n=>fr a vs h1 h2 fun z=>n (sown a z),lst,fun a o h n=>tmp a o h fun z=>n (sown a z),shp,fun a ⟨i,h⟩=>.inl ⟨i,(fs i a).mp h⟩,fun a m h1 h2 n=>fd a m h1 h2 fun z=>n (sown a z)⟩,fun a ⟨i,h⟩=>⟨i,(fs i a).mp h⟩⟩
  · unfold nA;rw [List.length_mapIdx];exact R.len
  · obtain⟨v,g1,g2⟩:=R.dat i x ((oth i (.d x) (fun _ z=>nomatch z)).mp h)
    exact⟨v,g1,DA.mono sf g2⟩
  · obtain⟨ys,h1⟩:=(shp i).mp ⟨xs,h⟩
    obtain⟨l,vs,g1,g2,g3,g4⟩:=R.own i ys h1
    rw [cj,h1] at h
    simp only [Option.map_some,Option.some.injEq] at h
    match hp:pos i,h with
    | none,h=>
      cases h
      have np:∀k xs,e[i]?=some (some (Sv.l xs))→pos i≠some k:=fun k xs _ z=>by rw [hp] at z;cases z
      have fi:Fp σ e H i l:=.inl ⟨_,h1,g1⟩
      exact⟨l,vs,g1,fr l vs g2 g3 (out i l fi np),keep i l _ fi np g3,g4.mono sf⟩
    | some k,h=>
      obtain⟨zs,c1⟩:=hsh i k ys h1 hp
      change (ei'[k]?).join=_ at h
      rw [c1] at h;cases h
      obtain⟨l',vs',d1,d2,d3,d4⟩:=R'.own k _ c1
      rw [hσ i k ys h1 hp,s.a i k ys h1 hp] at d1
      exact⟨l',vs',d1,d2,d3,d4⟩
  · have h1:=(oth i (.n xss) (fun _ z=>nomatch z)).mp h
    obtain⟨l,bs,g1,g2,g3,g4,g5,g6,g7⟩:=R.nst i xss h1
    have np:∀k xs,e[i]?=some (some (Sv.l xs))→pos i≠some k:=fun k xs z=>by rw [h1] at z;cases z
    have fi:Fp σ e H i l:=.inr ⟨xss,l,bs,h1,g1,g3,.inl rfl⟩
    refine⟨l,bs,g1,fr l _ g2 g3 (out i l fi np),keep i l _ fi np g3,g4,g5,g6,fun k b ys q1 q2=>?_⟩
    obtain⟨c1,us,c2,c3⟩:=g7 k b ys q1 q2
    have fb:Fp σ e H i b:=.inr ⟨xss,l,bs,h1,g1,g3,.inr (List.mem_of_getElem? q1)⟩
    exact⟨fr b _ c1 c2 (out i b fb np),us,keep i b _ fb np c2,c3.mono sf⟩
end
def bT(e:En):List Rv→Option (List Sv)
  | []=>some []
  | .d x::r=>(bT e r).map (.d x::·)
  | .l xs::r=>(bT e r).map (.d (.list xs)::·)
  | .s i::r=>match e[i]? with
    | some (some (.l xs))=>(bT e r).map (.l xs::·)
    | _=>none
def aG:List Rv→List Nat
  | []=>[]
  | .s i::r=>i::aG r
  | .d _::r=>aG r
  | .l _::r=>aG r
def jA(rs:List Rv)(i:Nat):Option Nat:=rs.findIdx? fun r=>match r with
  | .s j=>j==i
  | _=>false
def noS:Rv→Prop
  | .s _=>False
  | _=>True
abbrev FM:=List Sv→Option (Rv × List Sv)
def cM(K:PySem.W.Frag)(n:Nat)(m:FM):Sp:=fun vs H Q _=>vs.length=n∧∃F as r as',a9 K F H (vs.map some) (as.map some)∧Dc (as.map some)∧m as=some (r,as')∧noS r∧
  ∀F' H' v,dH (vs.map some) F H (as.map some) F' H' (as'.map some)→a9 K F' H' (vs.map some) (as'.map some)→bS K (vs.map some) H F' H' (as'.map some) r v→Q v H'
def a8:List Rv→List Sv→Bool
  | [],[]=>true
  | .s _::r,.l _::s=>a8 r s
  | .d _::r,_::s=>a8 r s
  | .l _::r,_::s=>a8 r s
  | _,_=>false
def pO:Rv→Bool
  | .s _=>false
  | _=>true
def dn:List Rv→List Sv→En→En
  | .s i::r,.l ys::s,e=>dn r s (e.set i (some (.l ys)))
  | .d _::r,_::s,e=>dn r s e
  | .l _::r,_::s,e=>dn r s e
  | _,_,e=>e
def dG(n:Nat)(m:FM)(fs:FA):FE:=fun e=>(fs e).bind fun p=>(bT p.2 p.1).bind fun as=>(m as).bind fun z=>if p.1.length=n∧(aG p.1).Nodup∧a8 p.1 z.2=true∧pO z.1=true then some (z.1,dn p.1 z.2 p.2) else none
theorem hJ:∀{rs:List Rv} {as:List Sv},a8 rs as=true→∀(k i:Nat),rs[k]?=some (.s i)→∃ys,as[k]?=some (.l ys)
  | [],[],_,k,i,h=>by simp at h
  | .s j::r,.l ys::s,h,k,i,hk=>by
    cases k with
    | zero=>exact⟨ys,rfl⟩
    | succ k=>simpa using hJ (rs:=r) (as:=s) (by simpa [a8] using h) k i (by simpa using hk)
  | .d x::r,y::s,h,k,i,hk=>by
    cases k with
    | zero=>simp at hk
    | succ k=>simpa using hJ (rs:=r) (as:=s) (by simpa [a8] using h) k i (by simpa using hk)
  | .l x::r,y::s,h,k,i,hk=>by
    cases k with
    | zero=>simp at hk
    | succ k=>simpa using hJ (rs:=r) (as:=s) (by simpa [a8] using h) k i (by simpa using hk)
  | .s _::_,.d _::_,h,_,_,_=>by simp [a8] at h
  | .s _::_,[],h,_,_,_=>by simp [a8] at h
  | .d _::_,[],h,_,_,_=>by simp [a8] at h
  | .l _::_,[],h,_,_,_=>by simp [a8] at h
theorem ky{r0:Rv}{rs:List Rv}{i:Nat}:jA (r0::rs) i=if (match r0 with | .s j=>j==i | _=>false)=true then some 0 else(jA rs i).map (· +1):=by
  unfold jA;rw [List.findIdx?_cons]
theorem kz{rs:List Rv}{i k:Nat}(h:jA rs i=some k):rs[k]?=some (.s i):=by
  unfold jA at h
  rw [List.findIdx?_eq_some_iff_getElem] at h
  obtain⟨hk,h1,_⟩:=h
  rw [List.getElem?_eq_getElem hk]
  split at h1
  · rename_i heq
    rw [heq]
    have:=eq_of_beq h1
    rw [this]
  · cases h1
theorem fC:∀{rs:List Rv} {i:Nat},i∈aG rs↔ Rv.s i∈rs
  | [],i=>by simp [aG]
  | .s j::r,i=>by simp [aG,fC (rs:=r)]
  | .d x::r,i=>by simp [aG,fC (rs:=r)]
  | .l x::r,i=>by simp [aG,fC (rs:=r)]
theorem fK:∀{rs:List Rv} {i k j:Nat},(aG rs).Nodup→rs[k]?=some (.s i)→rs[j]?=some (.s i)→k=j
  | [],i,k,j,_,h,_=>by simp at h
  | .s m::r,i,k,j,hn,h1,h2=>by
    simp only [aG,List.nodup_cons] at hn
    cases k with
    | zero=>
      simp at h1;subst h1
      cases j with
      | zero=>rfl
      | succ j=>exact absurd (fC.mpr (List.mem_of_getElem? (by simpa using h2))) hn.1
    | succ k=>
      cases j with
      | zero=>
        simp at h2;subst h2
        exact absurd (fC.mpr (List.mem_of_getElem? (by simpa using h1))) hn.1
      | succ j=>
        have:=fK (rs:=r) (i:=i) (k:=k) (j:=j) hn.2 (by simpa using h1) (by simpa using h2)
        lia
  | .d x::r,i,k,j,hn,h1,h2=>by
    cases k with
    | zero=>simp at h1
    | succ k=>
      cases j with
      | zero=>simp at h2
      | succ j=>
        have:=fK (rs:=r) (i:=i) (k:=k) (j:=j) (by simpa [aG] using hn) (by simpa using h1) (by simpa using h2)
        lia
  | .l x::r,i,k,j,hn,h1,h2=>by
    cases k with
    | zero=>simp at h1
    | succ k=>
      cases j with
      | zero=>simp at h2
      | succ j=>
        have:=fK (rs:=r) (i:=i) (k:=k) (j:=j) (by simpa [aG] using hn) (by simpa using h1) (by simpa using h2)
        lia
theorem xj{rs:List Rv}{i:Nat}(h:i∉aG rs):jA rs i=none:=by
  unfold jA
  rw [List.findIdx?_eq_none_iff]
  intro r hr
  cases r with
  | d x=>rfl
  | l x=>rfl
  | s j=>
    have:j≠i:=fun z=>h (by rw [←z];exact fC.mpr hr)
    simpa using this
theorem lW:∀{rs:List Rv} {as:List Sv} {e:En},(aG rs).Nodup→a8 rs as=true→(∀j∈aG rs,∃xs,e[j]?=some (some (.l xs)))→dn rs as e=nA (jA rs) (as.map some) e
  | [],[],e,_,_,_=>by
    refine List.ext_getElem? fun i=>?_
    rw [cj]
    have:jA [] i=none:=rfl
    rw [this]
    simp only [dn]
    match e[i]? with
    | none=>rfl
    | some none=>rfl
    | some (some (.d x))=>rfl
    | some (some (.l x))=>rfl
    | some (some (.n x))=>rfl
  | .d x::r,y::s,e,hn,hl,hs=>by
    rw [show dn (.d x::r) (y::s) e=dn r s e from rfl,lW (by simpa [aG] using hn) (by simpa [a8] using hl) (fun j hj=>hs j (by simpa [aG] using hj))]
    refine List.ext_getElem? fun i=>?_
    rw [cj,cj,ky]
    cases jA r i<;>simp
  | .l x::r,y::s,e,hn,hl,hs=>by
    rw [show dn (.l x::r) (y::s) e=dn r s e from rfl,lW (by simpa [aG] using hn) (by simpa [a8] using hl) (fun j hj=>hs j (by simpa [aG] using hj))]
    refine List.ext_getElem? fun i=>?_
    rw [cj,cj,ky]
    cases jA r i<;>simp
  | .s k::r,.l ys::s,e,hn,hl,hs=>by
    simp only [aG,List.nodup_cons] at hn
    obtain⟨xs,hk⟩:=hs k (by simp [aG])
    have hlt:k < e.length:=(List.getElem?_eq_some_iff.mp hk).1
    rw [show dn (.s k::r) (.l ys::s) e=dn r s (e.set k (some (.l ys))) from rfl,lW hn.2 (by simpa [a8] using hl) (fun j hj=>by
      have z:k≠j:=fun z=>hn.1 (by rw [z];exact hj)
      rw [List.getElem?_set_ne z]
      exact hs j (by simp [aG,hj]))]
    refine List.ext_getElem? fun i=>?_
    rw [cj,cj,ky]
    by_cases z:k=i
    · subst z
      rw [List.getElem?_set_self hlt,hk,xj hn.1]
      simp
    · rw [List.getElem?_set_ne z]
      have:((match (Rv.s k) with | .s j=>j==i | _=>false)=true)=False:=by simp [z]
      simp only [this,if_false]
      cases jA r i<;>simp
  | .s _::_,.d _::_,_,_,h,_=>by simp [a8] at h
  | .s _::_,.n _::_,_,_,h,_=>by simp [a8] at h
  | .s _::_,[],_,_,h,_=>by simp [a8] at h
  | .d _::_,[],_,_,h,_=>by simp [a8] at h
  | .l _::_,[],_,_,h,_=>by simp [a8] at h
  | [],_::_,_,_,h,_=>by simp [a8] at h
theorem eX{e:En}:∀{rs:List Rv} {as:List Sv},bT e rs=some as→∀j∈aG rs,∃xs,e[j]?=some (some (.l xs))
  | [],_,_,j,h=>by simp [aG] at h
  | .d x::rs,as,q,j,h=>by
    obtain⟨as',q1,rfl⟩:=Option.map_eq_some_iff.mp q
    exact eX q1 j (by simpa [aG] using h)
  | .l x::rs,as,q,j,h=>by
    obtain⟨as',q1,rfl⟩:=Option.map_eq_some_iff.mp q
    exact eX q1 j (by simpa [aG] using h)
  | .s k::rs,as,q,j,h=>by
    unfold bT at q
    match he:e[k]?,q with
    | some (some (.l xs)),q=>
      obtain⟨as',q1,rfl⟩:=Option.map_eq_some_iff.mp q
      simp only [aG,List.mem_cons] at h
      rcases h with rfl | h
      · exact⟨xs,he⟩
      · exact eX q1 j h
theorem jF{e:En}:∀{rs:List Rv} {as:List Sv} {k i:Nat},bT e rs=some as→rs[k]?=some (.s i)→∃xs,as[k]?=some (.l xs)
  | [],_,k,i,_,h=>by simp at h
  | .d x::rs,as,k,i,q,h=>by
    obtain⟨as',q1,rfl⟩:=Option.map_eq_some_iff.mp q
    cases k with
    | zero=>simp at h
    | succ k=>simpa using jF (k:=k) (i:=i) q1 (by simpa using h)
  | .l x::rs,as,k,i,q,h=>by
    obtain⟨as',q1,rfl⟩:=Option.map_eq_some_iff.mp q
    cases k with
    | zero=>simp at h
    | succ k=>simpa using jF (k:=k) (i:=i) q1 (by simpa using h)
  | .s j::rs,as,k,i,q,h=>by
    unfold bT at q
    match he:e[j]?,q with
    | some (some (.l xs)),q=>
      obtain⟨as',q1,rfl⟩:=Option.map_eq_some_iff.mp q
      cases k with
      | zero=>exact⟨xs,rfl⟩
      | succ k=>simpa using jF (k:=k) (i:=i) q1 (by simpa using h)
section
variable{X:Cx}{K:PySem.W.Frag}{σ:L2.St}{H0 H:Hp}{e:En}
theorem lT:∀{rs:List Rv} {vs:List V} {as:List Sv} {F:Hp},a9 K F H σ e→cW K σ H0 F H e rs vs→bT e rs=some as→
    ∃F',a9 K F' H σ e∧au F F'∧(∀a,F a=none→H0 a≠none→F' a=none)∧vs.length=as.length∧rs.length=as.length∧
      (∀(k:Nat) (x:PyData),as[k]?=some (.d x)→∃v,vs[k]?=some v∧DA K F' x v)∧∀(k:Nat) (xs:List PyData),as[k]?=some (.l xs)→∃i,rs[k]?=some (.s i)∧e[i]?=some (some (.l xs))∧∃v,vs[k]?=some v∧σ[i]?=some (some v)
  | [],vs,as,F,R,h,q=>by
    cases q
    have h':vs=[]:=h
    subst h'
    exact⟨F,R,au.refl _,fun _ h _=>h,rfl,rfl,fun k x h=>by simp at h,fun k x h=>by simp at h⟩
  | .d x::rs,_,as,F,R,h,q=>by
    obtain⟨v,ws,rfl,h1,h2⟩:=h
    obtain⟨as',q1,rfl⟩:=Option.map_eq_some_iff.mp q
    obtain⟨F',R',s',f',l1,l2,d',o'⟩:=lT R h2 q1
    refine⟨F',R',s',f',by simp [l1],by simp [l2],fun k y hk=>?_,fun k ys hk=>?_⟩
    · cases k with
      | zero=>simp at hk;subst hk;exact⟨v,rfl,DA.mono s' h1⟩
      | succ k=>simpa using d' k y (by simpa using hk)
    · cases k with
      | zero=>simp at hk
      | succ k=>simpa using o' k ys (by simpa using hk)
  | .l xs::rs,_,as,F,R,h,q=>by
    obtain⟨v,ws,rfl,h1,h2⟩:=h
    obtain⟨as',q1,rfl⟩:=Option.map_eq_some_iff.mp q
    obtain⟨F',R',s',f',l1,l2,d',o'⟩:=lT R h2 q1
    have key:∃F2,a9 K F2 H σ e∧au F' F2∧(∀a,F' a=none→H0 a≠none→F2 a=none)∧DA K F2 (.list xs) v:=by
      obtain⟨l,us,rfl,g1,g2,g3,g4,g5⟩:=h1
      cases hl:F' l with
      | none=>
        have h1':bS K σ H0 F' H e (.l xs) (.ref l):=⟨l,us,rfl,g1,hl,g3,aM.mono s' g4,g5⟩
        obtain⟨F2,R2,s2,d2,f2⟩:=h1'.frozen R'
        exact⟨F2,R2,s2,f2,d2⟩
      | some o=>
        have:=R'.sm _ _ hl
        rw [g3] at this;cases this
        exact⟨F',R',au.refl _,fun _ h _=>h,dg.mpr ⟨l,us,rfl,.inl (.inl hl),aM.mono s' g4⟩⟩
    obtain⟨F2,R2,s2,f2,d2⟩:=key
    refine⟨F2,R2,s'.trans s2,fun a ha hn=>f2 a (f' a ha hn) hn,by simp [l1],by simp [l2],fun k y hk=>?_,fun k ys hk=>?_⟩
    · cases k with
      | zero=>simp at hk;subst hk;exact⟨v,rfl,d2⟩
      | succ k=>
        obtain⟨u,c1,c2⟩:=d' k y (by simpa using hk)
        exact⟨u,by simpa using c1,DA.mono s2 c2⟩
    · cases k with
      | zero=>simp at hk
      | succ k=>simpa using o' k ys (by simpa using hk)
  | .s i::rs,_,as,F,R,h,q=>by
    obtain⟨v,ws,rfl,h1,h2⟩:=h
    unfold bT at q
    match he:e[i]?,q with
    | some (some (.l xs)),q=>
      obtain⟨as',q1,rfl⟩:=Option.map_eq_some_iff.mp q
      obtain⟨F',R',s',f',l1,l2,d',o'⟩:=lT R h2 q1
      refine⟨F',R',s',f',by simp [l1],by simp [l2],fun k y hk=>?_,fun k ys hk=>?_⟩
      · cases k with
        | zero=>simp at hk
        | succ k=>simpa using d' k y (by simpa using hk)
      · cases k with
        | zero=>simp at hk;subst hk;exact⟨i,rfl,he,v,rfl,h1.1⟩
        | succ k=>simpa using o' k ys (by simpa using hk)
theorem ff{α:Type}{l:List α}{k:Nat}{x:α}:(l.map some)[k]?=some (some x)↔ l[k]?=some x:=by
  rw [List.getElem?_map]
  cases l[k]?<;>simp
theorem bS.noS{σ':L2.St}{e':En}{F H:Hp}{r:Rv}{v:V}(h:bS K σ' H0 F H e' r v)(n:L2.noS r)(ho:∀a,de σ e H a→H0 a≠none):bS K σ H0 F H e r v:=by
  cases r with
  | d x=>exact h
  | l xs=>
    obtain⟨l,vs,e1,h1,h2,h3,h4,_⟩:=h
    exact⟨l,vs,e1,h1,h2,h3,h4,fun z=>ho l z h1⟩
  | s i=>exact absurd n (by simp [L2.noS])
theorem gN:∀{rs:List Rv} {as:List Sv},bT e rs=some as→Dc (as.map some)
  | [],_,q=>by cases q;intro i xss h;simp at h
  | .d x::rs,as,q=>by
    obtain⟨as',q1,rfl⟩:=Option.map_eq_some_iff.mp q
    have ih:=gN q1
    intro i xss h
    cases i with
    | zero=>simp at h
    | succ i=>exact ih i xss (by simpa using h)
  | .l x::rs,as,q=>by
    obtain⟨as',q1,rfl⟩:=Option.map_eq_some_iff.mp q
    have ih:=gN q1
    intro i xss h
    cases i with
    | zero=>simp at h
    | succ i=>exact ih i xss (by simpa using h)
  | .s j::rs,as,q=>by
    unfold bT at q
    match he:e[j]?,q with
    | some (some (.l xs)),q=>
      obtain⟨as',q1,rfl⟩:=Option.map_eq_some_iff.mp q
      have ih:=gN q1
      intro i xss h
      cases i with
      | zero=>simp at h
      | succ i=>exact ih i xss (by simpa using h)
theorem C4{n:Nat}{m:FM}{fs:FA}{Q:VK}{E:XK}(h:fE K (dG n m fs) σ H Q):xX (cM K n m) [] E (fA K fs) σ H Q:=by
  obtain⟨F,e,z,e',R,hf,q⟩:=h
  unfold dG at hf
  obtain⟨⟨rs,e1⟩,h1,hf⟩:=Option.bind_eq_some_iff.mp hf
  obtain⟨as,h2,hf⟩:=Option.bind_eq_some_iff.mp hf
  obtain⟨⟨r,as'⟩,h3,hf⟩:=Option.bind_eq_some_iff.mp hf
  split at hf
  case isFalse=>cases hf
  case isTrue hc=>
  obtain⟨c1,c2,c3,c4⟩:=hc
  cases hf
  refine⟨F,e,rs,e1,R,h1,fun F1 H1 vs X1 R1 A1=>?_⟩
  obtain⟨F2,R2,s2,f2,l1,l2,d2,o2⟩:=lT R1 A1 h2
  have X2:=X1.frz s2 f2
  rw [List.append_nil]
  have hn:L2.noS r:=by
    cases r with
    | d x=>trivial
    | l x=>trivial
    | s i=>cases c4
  have nN:=gN h2
  have RA:a9 K F2 H1 (vs.map some) (as.map some):=by
    refine⟨R2.sm,by simp [l1],fun k x hk=>?_,fun k xs hk=>?_,fun k xss hk=>absurd hk (nN k xss),fun k j l f1 f2=>?_⟩
    · obtain⟨v,g1,g2⟩:=d2 k x (ff.mp hk)
      exact⟨v,ff.mpr g1,g2⟩
    · obtain⟨i,g1,g2,v,g3,g4⟩:=o2 k xs (ff.mp hk)
      obtain⟨l,us,k1,k2,k3,k4⟩:=R2.own i xs g2
      rw [g4] at k1;cases k1
      exact⟨l,us,ff.mpr g3,k2,k3,k4⟩
    · obtain⟨xs,g1,g3⟩:=f1.resolve_right fun⟨xss,_,_,z,_⟩=>nN k xss z
      obtain⟨ys,g2,g4⟩:=f2.resolve_right fun⟨xss,_,_,z,_⟩=>nN j xss z
      obtain⟨i1,a1,a2,v1,a3,a4⟩:=o2 k xs (ff.mp g1)
      obtain⟨i2,b1,b2,v2,b3,b4⟩:=o2 j ys (ff.mp g2)
      have e1:=ff.mp g3
      have e2:=ff.mp g4
      rw [a3] at e1;cases e1
      rw [b3] at e2;cases e2
      have:i1=i2:=R2.inj i1 i2 xs ys l a2 b2 a4 b4
      subst this
      exact fK c2 a1 b1
  have sub:qc σ e1 (vs.map some) (as.map some) (jA rs):=by
    refine⟨fun i k xs g1 g2=>?_,fun k ys g1=>?_⟩
    · have g3:=kz g2
      obtain⟨zs,hs⟩:=jF h2 g3
      obtain⟨i',a1,a2,v,a3,a4⟩:=o2 k zs hs
      rw [g3] at a1;cases a1
      rw [ff.mpr a3,a4]
    · obtain⟨i,a1,a2,v,a3,a4⟩:=o2 k ys (ff.mp g1)
      refine⟨i,ys,a2,?_,by rw [ff.mpr a3,a4]⟩
      cases hp:jA rs i with
      | none=>
        unfold jA at hp
        rw [List.findIdx?_eq_none_iff] at hp
        have:=hp _ (List.mem_of_getElem? a1)
        simp at this
      | some j=>rw [fK c2 (kz hp) a1]
  refine⟨by rw [l1,←l2];exact c1,F2,as,r,as',RA,nN,h3,hn,fun F' H' v X3 R3 A3=>?_⟩
  obtain⟨R4,X4,o4⟩:=rj R2 sub nN X3.sf X3.dom X3.fr X3.lst X3.tmp X3.fd R3 (fun _ _ _ _ _=>rfl) fun i k xs g1 g2=>by
    obtain⟨ys,g3⟩:=hJ c3 k i (kz g2)
    exact⟨ys,ff.mpr g3⟩
  have hb:=lW (e:=e1) c2 c3 (eX h2)
  rw [←hb] at R4 X4 o4
  exact q F' H' v (X2.trans X4) R4 ((A3.noS hn fun a z=>R2.ownH a (o4 a z)).weak X2.dom)
theorem bC{x:Str}{st:Stmt}{f:Addr}{fd:FuncData}{ps:List Str}{k n:Nat}{m:FM}{a:Expr}{es:List Expr}{fs:FA}{p pos:Pos}(h:bH X.K X.mg x st f fd ps)(G:aU X.prog X.w X.K X.mg X.base cD k f fd ps (cM K n m))(hr:cO k X.A)(ha:PA X (a::es) (fA K fs))
    (hg:Gl X x)(hdb:(x==("__debug__":Str))=false)(he:starEach (a::es) X.env=(false,eval a X.env)::starEach es X.env)(hpl:(backTo pos (starEach es X.env)).any (·.1)=false):
    PE X (.Call (.Name x p) (a::es) [] pos) (fE K (dG n m fs)):=(Ge h G hr ha hg hdb he hpl).mono fun _ _ _ h=>C4 h
def p5:List Sv→En→Option (List Sv)
  | [],_=>some []
  | .d x::r,e=>(p5 r e.tail).map (.d x::·)
  | .l _::r,e=>match e.head? with
    | some (some (.l ys))=>(p5 r e.tail).map (.l ys::·)
    | _=>none
  | .n _::_,_=>none
def nL(n:Nat)(e:En):Rv→Option Rv
  | .s i=>if n≤i then match e[i]? with
      | some (some (.l xs))=>some (.l xs)
      | _=>none
    else none
  | r=>some r
def iS(W:List Nat)(as:List Sv):Bool:=W.all fun j=>match as[j]? with
  | some (.l _)=>false
  | _=>true
def hU(n k:Nat)(W:List Nat)(f:FS):FM:=fun as=>if as.length=n∧iS W as=true then(f (as.map some++List.replicate k none)).bind fun fl=>match fl with
    | .rt r e=>(nL n e r).bind fun r'=>(p5 as e).map fun as'=>(r',as')
    | .nx e=>(p5 as e).map fun as'=>(.d .none,as')
    | _=>none
  else none
theorem l9:∀{as as':List Sv} {e:En},p5 as e=some as'→as'.length=as.length∧(∀(j:Nat) (x:PyData),as'[j]?=some (.d x)↔ as[j]?=some (.d x))∧(∀(j:Nat) (ys:List PyData),as'[j]?=some (.l ys)→(∃xs,as[j]?=some (.l xs))∧e[j]?=some (some (.l ys)))∧∀(j:Nat) (xs:List PyData),as[j]?=some (.l xs)→∃ys,as'[j]?=some (.l ys)
  | [],_,e,h=>by cases h;simp
  | .d x::r,_,e,h=>by
    obtain⟨s,h1,rfl⟩:=Option.map_eq_some_iff.mp h
    obtain⟨g1,g2,g3,g4⟩:=l9 h1
    refine⟨by simp [g1],fun j y=>?_,fun j ys hj=>?_,fun j xs hj=>?_⟩
    · cases j with
      | zero=>simp
      | succ j=>simpa using g2 j y
    · cases j with
      | zero=>simp at hj
      | succ j=>
        obtain⟨c1,c2⟩:=g3 j ys (by simpa using hj)
        refine⟨by simpa using c1,?_⟩
        rw [List.getElem?_tail] at c2
        exact c2
    · cases j with
      | zero=>simp at hj
      | succ j=>simpa using g4 j xs (by simpa using hj)
  | .l xs::r,_,e,h=>by
    unfold p5 at h
    match he:e.head?,h with
    | some (some (.l ys)),h=>
      obtain⟨s,h1,rfl⟩:=Option.map_eq_some_iff.mp h
      obtain⟨g1,g2,g3,g4⟩:=l9 h1
      refine⟨by simp [g1],fun j y=>?_,fun j zs hj=>?_,fun j zs hj=>?_⟩
      · cases j with
        | zero=>simp
        | succ j=>simpa using g2 j y
      · cases j with
        | zero=>
          simp at hj;subst hj
          exact⟨⟨xs,rfl⟩,by rw [List.head?_eq_getElem?] at he;exact he⟩
        | succ j=>
          obtain⟨c1,c2⟩:=g3 j zs (by simpa using hj)
          refine⟨by simpa using c1,?_⟩
          rw [List.getElem?_tail] at c2
          exact c2
      · cases j with
        | zero=>exact⟨ys,rfl⟩
        | succ j=>simpa using g4 j zs (by simpa using hj)
  | .n x::r,_,e,h=>by simp [p5] at h
end
end L2
namespace L2
open PySem PySem.Spec PyProof.Rows
theorem et{α:Type}{l:List (Option α)}{k i:Nat}{x:α}(h:(l++List.replicate k none)[i]?=some (some x)):l[i]?=some (some x):=by
  rw [List.getElem?_append] at h
  split at h
  · exact h
  · rw [List.getElem?_replicate] at h
    split at h<;>simp at h
theorem eL{α:Type}{l:List (Option α)}{k i:Nat}{x:α}(h:l[i]?=some (some x)):(l++List.replicate k none)[i]?=some (some x):=by
  have hi:i < l.length:=(List.getElem?_eq_some_iff.mp h).1
  rw [List.getElem?_append_left hi];exact h
section
variable{K:PySem.W.Frag}{F H:Hp}{σ:L2.St}{e:En}{k:Nat}
theorem pz{i:Nat}{a:Addr}:Fp (σ++List.replicate k none) (e++List.replicate k none) H i a↔ Fp σ e H i a:=by
  constructor
  · rintro(⟨xs,h1,h2⟩ | ⟨xss,l,bs,h1,h2,h3⟩)
    · exact .inl ⟨xs,et h1,et h2⟩
    · exact .inr ⟨xss,l,bs,et h1,et h2,h3⟩
  · rintro(⟨xs,h1,h2⟩ | ⟨xss,l,bs,h1,h2,h3⟩)
    · exact .inl ⟨xs,eL h1,eL h2⟩
    · exact .inr ⟨xss,l,bs,eL h1,eL h2,h3⟩
theorem lY{a:Addr}:de (σ++List.replicate k none) (e++List.replicate k none) H a↔ de σ e H a:=⟨fun⟨i,h⟩=>⟨i,pz.mp h⟩,fun⟨i,h⟩=>⟨i,pz.mpr h⟩⟩
theorem a9.pad(R:a9 K F H σ e):a9 K F H (σ++List.replicate k none) (e++List.replicate k none):=by
  refine⟨R.sm,by simp [R.len],fun i x h=>?_,fun i xs h=>?_,fun i xss h=>?_,fun i j a h1 h2=>R.fp i j a (pz.mp h1) (pz.mp h2)⟩
  · obtain⟨v,g1,g2⟩:=R.dat i x (et h)
    exact⟨v,eL g1,g2⟩
  · obtain⟨l,vs,g1,g2⟩:=R.own i xs (et h)
    exact⟨l,vs,eL g1,g2⟩
  · obtain⟨l,bs,g1,g2⟩:=R.nst i xss (et h)
    exact⟨l,bs,eL g1,g2⟩
end
theorem p6:∀{as as':List Sv} {e:En},p5 as e=some as'→Dc (as'.map some)
  | [],_,e,h=>by cases h;intro i xss z;simp at z
  | .d x::r,_,e,h=>by
    obtain⟨s,h1,rfl⟩:=Option.map_eq_some_iff.mp h
    have ih:=p6 h1
    intro i xss z
    cases i with
    | zero=>simp at z
    | succ i=>exact ih i xss (by simpa using z)
  | .l xs::r,_,e,h=>by
    unfold p5 at h
    match he:e.head?,h with
    | some (some (.l ys)),h=>
      obtain⟨s,h1,rfl⟩:=Option.map_eq_some_iff.mp h
      have ih:=p6 h1
      intro i xss z
      cases i with
      | zero=>simp at z
      | succ i=>exact ih i xss (by simpa using z)
  | .n x::r,_,e,h=>by simp [p5] at h
theorem qP{W:List Nat}{as:List Sv}(h:iS W as=true){j:Nat}{xs:List PyData}(hj:as[j]?=some (.l xs)):j∉W:=fun z=>by
  unfold iS at h
  have:=List.all_eq_true.mp h j z
  rw [hj] at this
  cases this
section
variable{P:Program}{w:World}{K:PySem.W.Frag}{mg:Str→Option Value}{base:Heap}
theorem bH.fn{x:Str}{st:Stmt}{f:Addr}{fd:FuncData}{N ps:List Str}{k n k0:Nat}{W:List Nat}{fb:FS}(h:bH K mg x st f fd ps)(S:aL N ps (aj st))(hn:ps.length=n)(hN:N.length=n+k0)
    (hb:∀(cdv:Value) (A:Around) (outer:List Env) (s:Shared) (H:Hp) (E:XK),cO k (A.deeper (envOfC x (aj st) s.heap.objs.size f cdv))→lK (rR cD P w K mg base N x (aj st) f cdv A outer s H E).nox (cJ st) (fS K fb W)):
    aU P w K mg base cD (k+1) f fd ps (cM K n (hU n k0 W fb)):=by
  refine h.F.ok S (fun vs H Q E q=>?_) fun cdv A outer s H vs Q E hr hsp=>⟨_,hb cdv A outer s H E hr,?_⟩
  · rw [hn];exact q.1
  · obtain⟨hl,F,as,r,as',R,nN,hm,nr,q⟩:=hsp
    unfold hU at hm
    split at hm
    case isFalse=>cases hm
    case isTrue hc=>
    obtain⟨la,nl⟩:=hc
    obtain⟨fl,h1,hm⟩:=Option.bind_eq_some_iff.mp hm
    have hst:il N vs=vs.map some++List.replicate k0 none:=by unfold il;rw [hN,hl];congr 2;lia
    rw [hst]
    have key:∀{as':List Sv} {e':En},p5 as e'=some as'→∀F' H' σ',dI W (vs.map some++List.replicate k0 none) F H (as.map some++List.replicate k0 none) σ' F' H' e'→a9 K F' H' σ' e'→
        dH (vs.map some) F H (as.map some) F' H' (as'.map some)∧a9 K F' H' (vs.map some) (as'.map some)∧∀a,de (vs.map some) (as'.map some) H' a→de (vs.map some) (as.map some) H a:=by
      intro as' e' hu F' H' σ' X' R'
      obtain⟨u1,u2,u3,u4⟩:=l9 hu
      have uN:=p6 hu
      have ow:∀a,de (vs.map some) (as'.map some) H' a→de (vs.map some) (as.map some) H a:=by
        rintro a ⟨j,⟨ys,c1,c2⟩ | ⟨xss,_,_,z,_⟩⟩
        · obtain⟨⟨xs,c3⟩,_⟩:=u3 j ys (ff.mp c1)
          exact⟨j,.inl ⟨xs,ff.mpr c3,c2⟩⟩
        · exact absurd z (uN j xss)
      have sg:∀(j:Nat) (xs:List PyData),as[j]?=some (.l xs)→σ'[j]?=(vs.map some)[j]?:=fun j xs hj=>by
        rw [X'.wr j (qP nl hj)]
        have hj2:j < (vs.map some).length:=by rw [List.length_map,hl,←la];exact(List.getElem?_eq_some_iff.mp hj).1
        rw [List.getElem?_append_left hj2]
      refine⟨⟨X'.sf,X'.dom,fun a vs h1 h2 hn=>X'.fr a vs h1 h2 fun z=>hn (lY.mp z),X'.lst,fun a o ha hn=>X'.tmp a o ha fun z=>hn (lY.mp z),fun j=>?_,fun a z=>.inl (ow a z),fun a m h1 h2 hn=>X'.fd a m h1 h2 fun z=>hn (lY.mp z)⟩,⟨R'.sm,?_,fun j y hj=>?_,fun j ys hj=>?_,fun j xss hj=>absurd hj (uN j xss),fun j i l f1 f2=>?_⟩,ow⟩
      · constructor
        · rintro⟨ys,hj⟩
          obtain⟨⟨xs,c⟩,_⟩:=u3 j ys (ff.mp hj)
          exact⟨xs,ff.mpr c⟩
        · rintro⟨xs,hj⟩
          obtain⟨ys,c⟩:=u4 j xs (ff.mp hj)
          exact⟨ys,ff.mpr c⟩
      · simp [u1,hl,la]
      · obtain⟨v,c1,c2⟩:=R.dat j y (ff.mpr ((u2 j y).mp (ff.mp hj)))
        exact⟨v,c1,DA.mono X'.sf c2⟩
      · obtain⟨⟨xs,c1⟩,c2⟩:=u3 j ys (ff.mp hj)
        obtain⟨l,us,d1,d2⟩:=R'.own j ys c2
        exact⟨l,us,by rw [←sg j xs c1];exact d1,d2⟩
      · obtain⟨xs,g1,g3⟩:=f1.resolve_right fun⟨xss,_,_,z,_⟩=>uN j xss z
        obtain⟨ys,g2,g4⟩:=f2.resolve_right fun⟨xss,_,_,z,_⟩=>uN i xss z
        obtain⟨⟨zs,c1⟩,c2⟩:=u3 j xs (ff.mp g1)
        obtain⟨⟨ws,c3⟩,c4⟩:=u3 i ys (ff.mp g2)
        exact R'.inj j i xs ys l c2 c4 (by rw [sg j zs c1];exact g3) (by rw [sg i ws c3];exact g4)
    refine⟨F,as.map some++List.replicate k0 none,fl,R.pad,h1,?_⟩
    cases fl with
    | bk e'=>cases hm
    | ct e'=>cases hm
    | nx e'=>
      obtain⟨as2,h2,hm⟩:=Option.map_eq_some_iff.mp hm
      cases hm
      intro F' H' σ' X' R'
      obtain⟨X2,R2,_⟩:=key h2 F' H' σ' X' R'
      exact q F' H' .non X2 R2 ((gX (K:=K) (F:=F')).mpr rfl)
    | rt r0 e'=>
      obtain⟨r1,h2,hm⟩:=Option.bind_eq_some_iff.mp hm
      obtain⟨as2,h3,hm⟩:=Option.map_eq_some_iff.mp hm
      cases hm
      intro F' H' σ' v X' R' A'
      obtain⟨X2,R2,ow2⟩:=key h3 F' H' σ' X' R'
      have noo:∀l,H l=none→¬de (vs.map some) (as'.map some) H' l:=fun l hl z=>R.ownH l (ow2 l z) hl
      refine q F' H' v X2 R2 ?_
      cases r0 with
      | d y=>cases h2;exact A'
      | l ys=>
        cases h2
        obtain⟨l,us,d0,d1,d2,d3,d4,_⟩:=A'
        exact⟨l,us,d0,d1,d2,d3,d4,noo l d1⟩
      | s i=>
        simp only [nL] at h2
        split at h2
        case isFalse=>cases h2
        case isTrue hi=>
        obtain⟨a1,xs,a2⟩:=A'
        rw [a2] at h2
        cases h2
        obtain⟨l,us,d1,d2,d3,d4⟩:=R'.own i _ a2
        rw [a1] at d1;cases d1
        suffices hl0:H l=none from⟨l,us,rfl,hl0,d2,d3,d4,noo l hl0⟩
        rcases X'.own l ⟨i,.inl ⟨_,a2,a1⟩⟩ with z | z
        · obtain⟨j,zf⟩:=lY.mp z
          obtain⟨ys,z1,z2⟩:=zf.resolve_right fun⟨xss,_,_,z,_⟩=>nN j xss z
          have z1':=ff.mp z1
          obtain⟨u1,u2,u3,u4⟩:=l9 h3
          obtain⟨ws,w1⟩:=u4 j ys z1'
          obtain⟨_,w2⟩:=u3 j ws w1
          have hj2:j < vs.length:=by rw [hl,←la];exact(List.getElem?_eq_some_iff.mp z1').1
          have e3:σ'[j]?=some (some (.ref l)):=by
            rw [X'.wr j (qP nl z1'),List.getElem?_append_left (by simpa using hj2)]
            exact z2
          have:=R'.inj i j _ ws l a2 w2 a1 e3
          lia
        · exact z
end
def DY:Option Sv→Option Sv
  | some (.n _)=>none
  | s=>s
def rX(cp:List (Nat × Str))(nT:Nat)(e:En):En:=cp.map (fun p=>DY (e[p.1]?).join)++List.replicate nT none
def mW(cp:List (Nat × Str))(i:Nat):Option Nat:=cp.findIdx? fun p=>p.1==i
def jL(g:FG)(ft:FT)(fe:FE):List PyData→En→List PyData→Option (List PyData × En)
  | [],e,acc=>some (acc,e)
  | x::r,e,acc=>(g x e).bind fun e1=>(ft e1).bind fun b=>if b.1=true then(fe b.2).bind fun v=>(lL v.1).bind fun d=>if acc.length < 1000000 then jL g ft fe r v.2 (acc++[d]) else none else jL g ft fe r b.2 acc
def pe(cp:List (Nat × Str))(ei e:En):Bool:=cp.all fun p=> !yi e[p.1]? || yi ei[(mW cp p.1).getD 0]?
def iZ(cp:List (Nat × Str))(nT:Nat)(fi:FI)(g:FG)(ft:FT)(fe:FE):FE:=fun e=>(fi e).bind fun p=>if (p.2.1.all fun q=> !(cp.any fun c=>c.1==q.1))=true then(jL g ft fe p.1 (rX cp nT p.2.2) []).bind fun z=>if pe cp z.2 p.2.2=true then some (.l z.1,nA (mW cp) z.2 p.2.2) else none else none
section
variable{K:PySem.W.Frag}{F H:Hp}{σ:L2.St}{e:En}{cp:List (Nat × Str)}{nT:Nat}
theorem gF{i k:Nat}(h:mW cp i=some k):∃s,cp[k]?=some (i,s):=by
  unfold mW at h
  rw [List.findIdx?_eq_some_iff_getElem] at h
  obtain⟨hk,h1,_⟩:=h
  refine⟨cp[k].2,?_⟩
  rw [List.getElem?_eq_getElem hk]
  have:=eq_of_beq h1
  rw [←this]
theorem i9{k:Nat}{x:Sv}(h:(rX cp nT e)[k]?=some (some x)):∃i s,cp[k]?=some (i,s)∧e[i]?=some (some x):=by
  unfold rX at h
  have h:=et h
  rw [List.getElem?_map] at h
  obtain⟨p,h1,h2⟩:=Option.map_eq_some_iff.mp h
  refine⟨p.1,p.2,h1,?_⟩
  cases q:e[p.1]? with
  | none=>rw [q] at h2;cases h2
  | some y=>
    rw [q] at h2
    match y,h2 with
    | some (.d z),h2=>exact congrArg some h2
    | some (.l z),h2=>exact congrArg some h2
    | some (.n z),h2=>cases h2
    | none,h2=>cases h2
theorem jP:Dc (rX cp nT e):=by
  intro k xss h
  unfold rX at h
  have h:=et h
  rw [List.getElem?_map] at h
  obtain⟨p,h1,h2⟩:=Option.map_eq_some_iff.mp h
  match (e[p.1]?).join,h2 with
  | some (.d z),h2=>cases h2
  | some (.l z),h2=>cases h2
  | some (.n z),h2=>cases h2
  | none,h2=>cases h2
theorem l7{k i:Nat}{s:Str}{v:V}(h:cp[k]?=some (i,s))(hv:σ[i]?=some (some v)):(iX cp nT σ)[k]?=some (some v):=by
  unfold iX
  refine eL ?_
  rw [List.getElem?_map,h]
  simp [hv]
theorem ng{k i:Nat}{s:Str}{v:V}(h:cp[k]?=some (i,s))(hv:(iX cp nT σ)[k]?=some (some v)):σ[i]?=some (some v):=by
  unfold iX at hv
  have hv:=et hv
  rw [List.getElem?_map,h] at hv
  simp only [Option.map_some,Option.some.injEq] at hv
  cases q:σ[i]? with
  | none=>rw [q] at hv;cases hv
  | some y=>rw [q] at hv;exact congrArg some hv
theorem pq:∀{cp:List (Nat × Str)} {k j i:Nat} {s t:Str},(cp.map (·.1)).Nodup→cp[k]?=some (i,s)→cp[j]?=some (i,t)→k=j
  | [],k,j,i,s,t,_,h,_=>by simp at h
  | p::r,k,j,i,s,t,hn,h1,h2=>by
    simp only [List.map_cons,List.nodup_cons] at hn
    cases k with
    | zero=>
      simp at h1;subst h1
      cases j with
      | zero=>rfl
      | succ j=>
        have hm:(i,t)∈r:=List.mem_of_getElem? (i:=j) (by simpa using h2)
        exact absurd (List.mem_map.mpr ⟨(i,t),hm,rfl⟩) hn.1
    | succ k=>
      cases j with
      | zero=>
        simp at h2;subst h2
        have hm:(i,s)∈r:=List.mem_of_getElem? (i:=k) (by simpa using h1)
        exact absurd (List.mem_map.mpr ⟨(i,s),hm,rfl⟩) hn.1
      | succ j=>
        have:=pq (cp:=r) (k:=k) (j:=j) hn.2 (by simpa using h1) (by simpa using h2)
        lia
theorem a9.inn(R:a9 K F H σ e)(hn:(cp.map (·.1)).Nodup):a9 K F H (iX cp nT σ) (rX cp nT e)∧qc σ e (iX cp nT σ) (rX cp nT e) (mW cp):=by
  refine⟨⟨R.sm,by simp [iX,rX],fun k x h=>?_,fun k xs h=>?_,fun k xss h=>absurd h (jP k xss),fun k j l f1 f2=>?_⟩,⟨fun i k xs h1 h2=>?_,fun k ys h=>?_⟩⟩
  · obtain⟨i,s,h1,h2⟩:=i9 h
    obtain⟨v,g1,g2⟩:=R.dat i x h2
    exact⟨v,l7 h1 g1,g2⟩
  · obtain⟨i,s,h1,h2⟩:=i9 h
    obtain⟨l,vs,g1,g2⟩:=R.own i xs h2
    exact⟨l,vs,l7 h1 g1,g2⟩
  · obtain⟨xs,h1,h3⟩:=f1.resolve_right fun⟨xss,_,_,z,_⟩=>jP k xss z
    obtain⟨ys,h2,h4⟩:=f2.resolve_right fun⟨xss,_,_,z,_⟩=>jP j xss z
    obtain⟨i,s,a1,a2⟩:=i9 h1
    obtain⟨i',s',b1,b2⟩:=i9 h2
    have:i=i':=R.inj i i' xs ys l a2 b2 (ng a1 h3) (ng b1 h4)
    subst this
    exact pq hn a1 b1
  · obtain⟨s,g⟩:=gF h2
    obtain⟨l,vs,g1,_⟩:=R.own i xs h1
    rw [g1];exact l7 g g1
  · obtain⟨i,s,h1,h2⟩:=i9 h
    obtain⟨l,vs,g1,_⟩:=R.own i ys h2
    refine⟨i,ys,h2,?_,by rw [g1];exact l7 h1 g1⟩
    cases hp:mW cp i with
    | none=>
      unfold mW at hp
      rw [List.findIdx?_eq_none_iff] at hp
      have:=hp _ (List.mem_of_getElem? h1)
      simp at this
    | some j=>
      obtain⟨t,g⟩:=gF hp
      rw [pq hn g h1]
theorem a9.putT(R:a9 K F H σ e){l:Addr}{ws:List V}(h1:F l=none)(h2:¬de σ e H l):a9 K F (bi H l (.lst ws)) σ e∧∀a,de σ e (bi H l (.lst ws)) a↔ de σ e H a:=
  R.keep (au.refl F) (fun b o q=>by
    have z:b≠l:=fun z=>by rw [z,h1] at q;cases q
    rw [aH z];exact R.sm b o q) (fun a ⟨i,h⟩=>(R.fpAt h).1) fun a o ha q=>by
      have z:a≠l:=fun z=>h2 (by rw [←z];exact ha)
      rw [aH z];exact q
theorem dI.putT{W:List Nat}{σ':L2.St}{F' H':Hp}{e':En}(x:dI W σ F H e σ' F' H' e'){l:Addr}{o:HO}(h:H l=none)(ho:∀a,de σ' e' (bi H' l o) a↔ de σ' e' H' a):dI W σ F H e σ' F' (bi H' l o) e':=by
  refine⟨x.sf,fun a q=>?_,x.fr,fun a vs q=>?_,fun a u q n=>?_,fun a q=>x.own a ((ho a).mp q),x.wr,x.fd⟩
  · by_cases z:a=l
    · rw [z];exact h
    · rw [aH z] at q;exact x.dom a q
  · have z:a≠l:=fun z=>by rw [z,h] at q;cases q
    rw [aH z];exact x.lst a vs q
  · have z:a≠l:=fun z=>by rw [z,h] at q;cases q
    rw [aH z];exact x.tmp a u q n
inductive CI (K:PySem.W.Frag) (W:List Nat) (σ0:L2.St) (F1 H1:Hp) (e0:En) (l:Addr) (P:Hp→En→List PyData→Prop) (σ':L2.St) (H':Hp):Prop
  | mk {F':Hp} {ei:En} {acc:List PyData} {vs:List V} (R:a9 K F' H' σ' ei) (X:dI W σ0 F1 H1 e0 σ' F' H' ei) (fl:F' l=none) (no:¬de σ' ei H' l) (hl:H' l=some (.lst vs)) (da:aM K F' acc vs) (hc:P F' ei acc):CI K W σ0 F1 H1 e0 l P σ' H'
theorem yd{Q:VK}{fi:FI}{g:FG}{W:List Nat}{ft:FT}{fe:FE}(hn:(cp.map (·.1)).Nodup)(hW:∀j∈W,cp.length≤j)(h:fE K (iZ cp nT fi g ft fe) σ H Q):AK cp nT (fI K fi) (fG K g W) (fT K ft) (fE K fe) σ H Q:=by
  obtain⟨F0,e0,z,e',R0,hf,q⟩:=h
  unfold iZ at hf
  obtain⟨⟨items,own,e1⟩,h1,hf⟩:=Option.bind_eq_some_iff.mp hf
  dsimp only at hf
  split at hf
  case isFalse=>cases hf
  case isTrue hO=>
  obtain⟨⟨out,eo⟩,h2,hf⟩:=Option.bind_eq_some_iff.mp hf
  dsimp only at hf
  split at hf
  case isFalse=>cases hf
  case isTrue hB=>
  cases hf
  refine⟨⟨F0,e0,items,own,e1,R0,h1,fun J F1 H1 X1 R1 kp ok=>?_⟩⟩
  intro l hl
  obtain⟨Ri,sub⟩:=R1.inn (nT:=nT) hn
  have hFl:F1 l=none:=R1.freeF hl
  let Iv:Nat→L2.St→Hp→Prop:=fun i=>CI K W (iX cp nT σ) F1 H1 (rX cp nT e1) l fun _ ei acc=>jL g ft fe (items.drop i) ei acc=some (out,eo)
  have notown:∀p∈own,∀a,σ[p.1]?=some (some (.ref a))→¬de (iX cp nT σ) (rX cp nT e1) H1 a:=by
    rintro p hp a ha ⟨k,zf⟩
    obtain⟨xs,c1,c2⟩:=zf.resolve_right fun⟨xss,_,_,z,_⟩=>jP k xss z
    obtain⟨i,s,d1,d2⟩:=i9 c1
    have e2:=ng d1 c2
    have:p.1=i:=R1.inj p.1 i p.2 xs a (kp p hp) d2 ha e2
    have hh:=List.all_eq_true.mp hO p hp
    simp only [Bool.not_eq_true',List.any_eq_false,beq_iff_eq] at hh
    exact hh (i,s) (List.mem_of_getElem? d1) this.symm
  refine⟨fun i m σ' H'=>m=items.length - i∧i≤items.length∧Iv i σ' H',⟨items.length,by simp,Nat.zero_le _,.mk (Ri.putT hFl (fun z=>(Ri.ownH l z) hl)).1 (dI.refl.putT hl (Ri.putT hFl (fun z=>(Ri.ownH l z) hl)).2) hFl (fun z=>(Ri.ownH l (((Ri.putT hFl (fun z=>(Ri.ownH l z) hl)).2 l).mp z)) hl) aw aM.nil h2⟩,?_⟩
  rintro i m σ' H' ⟨rfl,hi,⟨R',X',fl,no,hl',da,hc⟩⟩
  rename_i F' ei acc vs
  have held:vB K σ F' H' own:=fun p hp=>by
    obtain⟨a,us,c1,c2,c3,c4⟩:=R1.own p.1 p.2 (kp p hp)
    exact⟨a,us,c1,X'.tmp a _ c3 (notown p hp a c1),c4.mono X'.sf⟩
  obtain⟨go,stop,yld⟩:=ok F' H' X'.sf R'.sm held
  by_cases hlt:i < items.length
  · have hd:items.drop i=items[i]::items.drop (i+1):=List.drop_eq_getElem_cons hlt
    rw [hd] at hc
    unfold jL at hc
    obtain⟨e2,c2,hc⟩:=Option.bind_eq_some_iff.mp hc
    obtain⟨⟨b,e3⟩,c3,hc⟩:=Option.bind_eq_some_iff.mp hc
    refine .inr ⟨go i hlt,Iv (i+1),fun σ2 H2 r=>⟨items.length - (i+1),by lia,rfl,hlt,r⟩,fun x H2 hy=>?_⟩
    obtain⟨F2,sH,sF2,sm2,fz,hx⟩:=yld i items[i] x H2 (List.getElem?_eq_getElem hlt) hy
    obtain⟨R2,X2⟩:=R'.step sH sF2 sm2 fz
    refine⟨F2,ei,items[i],e2,R2,hx,c2,fun σ3 X3 R3=>⟨F2,e2,b,e3,R3,c3,fun F4 H4 X4 R4=>?_⟩⟩
    have hlH2:H2 l=some (.lst vs):=sH _ _ hl'
    have no2:¬de σ' ei H2 l:=fun z=>by
      rcases X2.ow l z with z | z
      · exact no z
      · rw [hl'] at z;cases z
    have no3:¬de σ3 e2 H2 l:=fun z=>by
      rcases X3.own l z with z | z
      · exact no2 z
      · rw [hlH2] at z;cases z
    have fl2:F2 l=none:=fz l fl (by rw [hl'];simp)
    have hlH4:H4 l=some (.lst vs):=X4.tmp l _ hlH2 no3
    have fl4:F4 l=none:=X4.fr l vs fl2 hlH2 no3
    have no4:¬de σ3 e3 H4 l:=fun z=>by
      rcases X4.ow l z with z | z
      · exact no3 z
      · rw [hlH2] at z;cases z
    have E4:dI W (iX cp nT σ) F1 H1 (rX cp nT e1) σ3 F4 H4 e3:=((X'.trans X2.s).trans X3).trans X4.s
    cases b with
    | false=>
      rw [if_neg (by simp)] at hc
      exact DT (.mk R4 E4 fl4 no4 hlH4 (da.mono (sF2.trans X4.sf)) hc)
    | true=>
      rw [if_pos rfl] at hc
      obtain⟨⟨r,e5⟩,c5,hc⟩:=Option.bind_eq_some_iff.mp hc
      obtain⟨d,c6,hc⟩:=Option.bind_eq_some_iff.mp hc
      split at hc
      case isFalse=>cases hc
      case isTrue hlen=>
      refine DU ⟨F4,e3,r,e5,R4,c5,fun F5 H5 v X5 R5 A5=>?_⟩
      have hlH5:H5 l=some (.lst vs):=X5.tmp l _ hlH4 no4
      have fl5:F5 l=none:=X5.fr l vs fl4 hlH4 no4
      have no5:¬de σ3 e5 H5 l:=fun z=>by
        rcases X5.ow l z with z | z
        · exact no4 z
        · rw [hlH4] at z;cases z
      obtain⟨F6,R6,s6,d6,f6⟩:=cW.frozen R5 (rs:=[r]) (vs:=[v]) ⟨v,[],rfl,A5,rfl⟩ (oo c6)
      have fl6:F6 l=none:=f6 l fl5 (by rw [hlH4];simp)
      have X6:=X5.frz s6 f6
      have ll:=da.len
      have sl:sizeLine=16777216:=sizeLine_eq
      have dv:DA K F6 d v:=by
        simp only [aM] at d6
        obtain⟨v',r',e',hv,_⟩:=d6
        cases e';exact hv
      obtain⟨R7,o7⟩:=R6.putT (ws:=vs++[v]) fl6 no5
      exact⟨vs,hlH5,by lia,.mk R7 ((E4.trans X6.s).putT hl o7) fl6 (fun z=>no5 ((o7 l).mp z)) aw ((da.mono (sF2.trans (X4.sf.trans (X5.sf.trans s6)))).append (aM.one dv)) hc⟩
  · have hd:items.drop i=[]:=List.drop_eq_nil_of_le (by lia)
    rw [hd] at hc
    cases hc
    refine .inl ⟨stop i (by lia),?_⟩
    obtain⟨R9,X9,o9⟩:=rj R1 sub jP X'.sf X'.dom X'.fr X'.lst X'.tmp X'.fd R' (fun i k xs g1 g2=>X'.wr k fun z=>by
      obtain⟨s,g⟩:=gF g2
      have:=(List.getElem?_eq_some_iff.mp g).1
      have:=hW k z
      lia) fun i k xs g1 g2=>by
        obtain⟨s,g⟩:=gF g2
        unfold pe at hB
        have hb:=List.all_eq_true.mp hB _ (List.mem_of_getElem? g)
        simp only [g1,g2,Option.getD_some,yi,Bool.not_true,Bool.false_or] at hb
        exact yD.mp hb
    exact q F' H' (.ref l) (X1.trans X9) R9 ⟨l,vs,rfl,X1.dom l hl,fl,hl',da,fun z=>R1.ownH l (o9 l z) hl⟩
end
end L2
namespace L2
open PySem PySem.Spec PyProof.Rows
section
variable{X:Cx}{K:PySem.W.Frag}{a b:Expr}{es:List Expr}{fa fb:FE}{fs:FA}{pos p p2 p3:Pos}{lo hi:Option Expr}
def rT:En→Rv→Option Rv:=fun _ x=>(bh x).map fun i=>.d (.int (-i))
theorem D4:C' K (rU fun i=>.int (-i)) rT:=by
  intro σ H0 F H e x z v Q R A hg q
  obtain⟨i,h5,h4⟩:=Option.map_eq_some_iff.mp hg
  cases h4
  exact⟨i,bD A h5,q F H _ (dH.refl _ _ _ _) R m6⟩
theorem xr(ha:PE X a (fE K fa)):PE X (.UnaryOp .USub a pos) (fE K (kO rT fa)):=Ej C3 D4 ha
theorem bu(hK:X.K=K)(ha:PE X a (fE K fa))(hb:PE X b (fE K fb)):PE X (.BinOp a .Add b pos) (fE K (am ba fa fb)):=oJ (hK ▸ y0) Dr ha hb
theorem qX(ha:PE X a (fE K fa))(hb:PE X b (fE K fb)):PE X (.BinOp a .Sub b pos) (fE K (am gY fa fb)):=oJ B0 EJ ha hb
theorem mX(hK:X.K=K)(ha:PE X a (fE K fa))(hb:PE X b (fE K fb)):PE X (.BinOp a .Mult b pos) (fE K (am jx fa fb)):=oJ (hK ▸ y6) D3 ha hb
theorem cH(ha:PE X a (fE K fa))(hb:PE X b (fE K fb)):PE X (.BinOp a .FloorDiv b pos) (fE K (am bI fa fb)):=oJ wW A9 ha hb
theorem aV(ha:PE X a (fE K fa))(hb:PE X b (fE K fb)):PE X (.BinOp a .Mod b pos) (fE K (am aR fa fb)):=oJ y4 D2 ha hb
theorem xt(ha:PE X a (fE K fa))(hb:PE X b (fE K fb)):PE X (.BinOp a .Pow b pos) (fE K (am pB fa fb)):=oJ BY Ef ha hb
theorem bW(hK:X.K=K)(ha:PE X a (fE K fa))(hb:PE X b (fE K fb))(hs:o8 b):PE X (.Subscript a b pos) (fE K (am dZ fa fb)):=Ei (hK ▸ F9) F_ ha hb hs
theorem cw{fl fh:FO}(hK:X.K=K)(he:PE X a (fE K fa))(hl:PO X lo (fO K fl))(hh:PO X hi (fO K fh)):PE X (.Subscript a (.Slice lo hi none p2) pos) (fE K (jd fa fl fh)):=by subst hK;exact xA he hl hh
structure jE (X:Cx) (K:PySem.W.Frag) (op:CmpOp) (g:En→Rv→Rv→Option Rv):Prop where
  ex:∃r,eW X (compareOp op) r∧fv K r g
theorem yr:jE X K .Lt Au:=⟨_,D_,Gc⟩
theorem AZ:jE X K .LtE Ba:=⟨_,D9,Gb⟩
theorem vN:jE X K .Gt yB:=⟨_,D8,FX⟩
theorem vM:jE X K .GtE Ar:=⟨_,D7,FW⟩
theorem iD{k:Nat}(hK:X.K=K)(hr:cO k X.A):jE X K .Eq (bL false):=⟨_,hK ▸ BN hr,Aq⟩
theorem vO{k:Nat}(hK:X.K=K)(hr:cO k X.A):jE X K .NotEq (bL true):=⟨_,hK ▸ BW hr,Aq⟩
theorem yq{k:Nat}(hK:X.K=K)(hr:cO k X.A):jE X K .In (yh false):=⟨_,hK ▸ BQ hr,FZ⟩
theorem Dz:jE X K .Is DK:=⟨_,BR,F8⟩
theorem tu:jE X K .IsNot mC:=⟨_,uR,yE⟩
theorem jW{op:CmpOp}{g:En→Rv→Rv→Option Rv}(h:jE X K op g)(ha:PE X a (fE K fa))(hb:PE X b (fE K fb))(hm:behindInMarks op b=false):PE X (.Compare a [op] [b] pos) (fE K (am g fa fb)):=by
  obtain⟨r,h1,h2⟩:=h.ex;exact Cn h1 h2 ha hb hm
theorem aS{op:CmpOp}{g:En→Rv→Rv→Option Rv}(h:jE X K op g)(ha:PE X a (fE K fa))(hb:PE X b (fE K fb))(hm:behindInMarks op b=false):PT X (.Compare a [op] [b] pos) (fT K (av (am g fa fb))):=by
  obtain⟨r,h1,h2⟩:=h.ex;exact Cs h1 h2 ha hb hm
theorem zC{op op':CmpOp}{g g':En→Rv→Rv→Option Rv}{c:Expr}{fc:FE}(h:jE X K op g)(h':jE X K op' g')(ha:PE X a (fE K fa))(hb:PE X b (fE K fb))(hc:PE X c (fE K fc))(hm:lastMarks [op,op'] [b,c]=false):PE X (.Compare a [op,op'] [b,c] pos) (fE K (iY g g' fa fb fc)):=by
  obtain⟨r,h1,h2⟩:=h.ex;obtain⟨r',h3,h4⟩:=h'.ex;exact xw h1 h2 h3 h4 ha hb hc hm
structure l_ (X:Cx) (K:PySem.W.Frag) (x:Str) (g:En→List Rv→Option Rv):Prop where
  ex:(∃id r,cU X (.builtin id) r∧dY K r g∧bootBuiltins x=some (.builtin id))∨∃T r,cU X (.type T) r∧dY K r g∧bootBuiltins x=some (.type T)
theorem aZ{x:Str}{g:En→List Rv→Option Rv}(h:l_ X K x g)(hg:Gl X x)(hm:X.mg x=none)(ha:PA X (a::es) (fA K fs))(hn:x≠"__name__")(hdb:(x==("__debug__":Str))=false)
    (he:starEach (a::es) X.env=(false,eval a X.env)::starEach es X.env)(hpl:(backTo pos (starEach es X.env)).any (·.1)=false):PE X (.Call (.Name x p) (a::es) [] pos) (fE K (aE g fs)):=by
  rcases h.ex with ⟨id,r,h1,h2,h3⟩ | ⟨T,r,h1,h2,h3⟩
  · exact xu h1 h2 hg hm h3 ha hn hdb he hpl
  · exact uX h1 h2 hg hm h3 ha hn hdb he hpl
theorem b_len(hK:X.K=K):l_ X K "len" (g1 eE):=⟨.inl ⟨_,_,hK ▸ ph,DX,PySem.boot_len⟩⟩
theorem b_abs:l_ X K "abs" (g1 ut):=⟨.inl ⟨_,_,vP,Dq,PyProof.Rows.boot_abs⟩⟩
theorem b_min(hc:X.calm=true):l_ X K "min" (g2 wk):=⟨.inl ⟨_,_,ul hc,D1,PyProof.Rows.boot_min⟩⟩
theorem b_max(hc:X.calm=true):l_ X K "max" (g2 pA):=⟨.inl ⟨_,_,uk hc,D0,PyProof.Rows.boot_max⟩⟩
theorem b_int:l_ X K "int" (g1 uv):=⟨.inr ⟨_,_,uj,DO,PyProof.Rows.boot_int⟩⟩
theorem b_tuple(hK:X.K=K):l_ X K "tuple" (g1 dQ):=⟨.inr ⟨_,_,hK ▸ nJ,zX,PyProof.Rows.boot_tuple⟩⟩
theorem b_list(hK:X.K=K):l_ X K "list" (g1 mD):=⟨.inr ⟨_,_,hK ▸ pj,Bx,PyProof.Rows.boot_list⟩⟩
theorem b_all{k:Nat}(hK:X.K=K)(hr:cO k X.A):l_ X K "all" (g1 (jo lj)):=⟨.inl ⟨_,_,vQ hr hK,Dt,vL⟩⟩
theorem b_sorted(hK:X.K=K):l_ X K "sorted" (g1 fH):=⟨.inl ⟨_,_,hK ▸ rP,zO,PyProof.Rows.boot_sorted⟩⟩
theorem b_repr{k:Nat}(hK:X.K=K)(hr:cO k X.A):l_ X K "repr" (g1 lr):=⟨.inl ⟨_,_,hK ▸ rO hr,CF,PyProof.Rows.boot_repr⟩⟩
abbrev nv:FT:=fun e=>some (true,e)
theorem yn.mono{ifs:List Expr}{t t':TT}(h:yn X ifs t)(m:∀σ H Q,t' σ H Q→t σ H Q):yn X ifs t':=fun pins s σ H Q I q=>h pins s σ H Q I (m σ H Q q)
theorem tP:yn X [] (fT K nv):=zz.mono fun σ H Q h=>by
  obtain⟨F,e,b,e',R,hf,q⟩:=h
  cases hf
  exact q F H (dH.refl _ _ _ _) R
theorem lZ{c:Expr}{ft:FT}(h:PT X c (fT K ft)):yn X [c] (fT K ft):=zA h
theorem kB{elt iter tg:Expr}{ifs:List Expr}{scope:Scope}{fi:FI}{g:FG}{ft:FT}{fe:FE}{W:List Nat}(sc0:Scope)(N0:List Str)(cp:List (Nat × Str))(tgN:List Str)
    (hc:X.calm=true)(hsc:X.env.scope=sc0)(hN0:X.N=N0)(hi:PI X tg iter (fI K fi))
    (hg:∀C s0 H0 fp,PG (cu X scope cp tgN C s0 H0 fp) tg (fG K g W))
    (ht:∀C s0 H0 fp,yn (cu X scope cp tgN C s0 H0 fp) ifs (fT K ft))
    (he:∀C s0 H0 fp,PE (cu X scope cp tgN C s0 H0 fp) elt (fE K fe))
    (hk:scope.kind=.function)(hcell:∀y∈scope.names,y.2≠.cell)(hnames:∀y∈scope.names,y.2=.local→scope.names.lookup y.1=some .local)
    (hfr:∀y∈scope.names,y.2=.free→scope.names.lookup y.1=some .free∧sc0.names.lookup y.1=some .cell)
    (hcp:∀p∈cp,N0[p.1]?=some p.2)(hcq:∀p∈cp,sc0.names.lookup p.2=some .cell∧scope.names.lookup p.2=some .free)(hnd:(cp.map (·.1)).Nodup)(hW:∀j∈W,cp.length≤j)
    (hs:∀x,foldedSetIterable iter X.env x=pure x):
    PE X (.ListComp elt [⟨tg,iter,ifs,0⟩] scope pos) (fE K (iZ cp tgN.length fi g ft fe)):=(zg sc0 N0 cp tgN hc hsc hN0 hi hg ht he hk hcell hnames hfr hcp hcq hs).mono fun _ _ _ h=>yd hnd hW h
variable{o:Expr}{fo:FE}{apos cpos:Pos}
theorem iU(hK:X.K=K)(ho:PE X o (fE K fo))(ha:PA X (a::es) (fA K fs))(hbase:attributeBase o "append" X.env (eval o X.env)=eval o X.env)
    (hfew:((backTo cpos (starEach (a::es) X.env)).all (fun x=> !x.1)&&(backToKw cpos (keywordEach [] X.env)).all (fun x=>x.1.isSome)
      &&decide ((a::es).length+([]:List Keyword).length+(if ([]:List Keyword).isEmpty then 0 else 1) < 30))=true)
    (hline:(apos.endLine==cpos.line)=true)(hs:starEach (a::es) X.env=(false,eval a X.env)::starEach es X.env)(hplain:(backTo cpos (starEach es X.env)).any (·.1)=false):
    PE X (.Call (.Attribute o "append" apos) (a::es) [] cpos) (fE K (dW bR fo fs)):=by
  subst hK;exact AG PySem.F.slot_list_append PySem.F.type_list_append oF vF ho ha hbase hfew hline hs hplain
theorem zD(hK:X.K=K)(ho:PE X o (fE K fo))(ha:PA X (a::es) (fA K fs))(hbase:attributeBase o "pop" X.env (eval o X.env)=eval o X.env)
    (hfew:((backTo cpos (starEach (a::es) X.env)).all (fun x=> !x.1)&&(backToKw cpos (keywordEach [] X.env)).all (fun x=>x.1.isSome)
      &&decide ((a::es).length+([]:List Keyword).length+(if ([]:List Keyword).isEmpty then 0 else 1) < 30))=true)
    (hline:(apos.endLine==cpos.line)=true)(hs:starEach (a::es) X.env=(false,eval a X.env)::starEach es X.env)(hplain:(backTo cpos (starEach es X.env)).any (·.1)=false):
    PE X (.Call (.Attribute o "pop" apos) (a::es) [] cpos) (fE K (dW eS fo fs)):=by
  subst hK;exact AG PySem.F.slot_list_pop PySem.F.type_list_pop wG zt ho ha hbase hfew hline hs hplain
end
end L2
namespace L2
open PySem PySem.Spec PyProof.Rows
theorem sJ{K:PySem.W.Frag}{H:Hp}{a:Addr}{ns:List Int}{m:FM}{as':List Sv}{Q:VK}{E:XK}(hS:cT K H a (ns.map V.int))(hm:m [.d (.list (ns.map .int))]=some (.d (.bool true),as'))(q:∀H',Q (.bl true) H'):cM K 1 m [.ref a] H Q E:=by
  refine⟨rfl,H,[.d (.list (ns.map .int))],_,as',?_,?_,hm,trivial,fun F' H' v X' R' A'=>?_⟩
  · refine⟨au.refl _,rfl,fun i x h=>?_,fun i xs h=>?_,fun i xss h=>?_,fun i j l f1 _=>?_⟩
    · match i,h with
      | 0,h=>
        simp at h;subst h
        exact⟨.ref a,rfl,dg.mpr ⟨a,_,rfl,hS,aM.ints.mpr rfl⟩⟩
      | i+1,h=>simp at h
    · match i,h with
      | 0,h=>simp at h
      | i+1,h=>simp at h
    · match i,h with
      | 0,h=>simp at h
      | i+1,h=>simp at h
    · rcases f1 with ⟨_,h,_⟩ | ⟨_,_,_,h,_⟩
      · match i,h with
        | 0,h=>simp at h
        | i+1,h=>simp at h
      · match i,h with
        | 0,h=>simp at h
        | i+1,h=>simp at h
  · intro i xss h
    match i,h with
    | 0,h=>simp at h
    | i+1,h=>simp at h
  · rw [c_.mp (show DA K F' (.bool true) v from A')];exact q H'
end L2
namespace L2
open PySem PySem.Spec PyProof.Rows
section
variable{K:PySem.W.Frag}{σ:L2.St}{H0 F H F' H':Hp}{e e':En}
end
section
variable{X:Cx}{K:PySem.W.Frag}{a b:Expr}{es:List Expr}{fa fb:FE}{fs:FA}{pos p p2 p3 pos':Pos}{x:Str}{i:Nat}
def nC(k:Int):En→Option Int:=fun _=>some k
end
end L2
namespace L2
open PySem PySem.Spec PyProof.Rows
theorem kh{C:Int→Int→Bool}{f:Int→Int→PyData}{e:En}{i j:Int}(h:C i j=true):gI C f e (.d (.int i)) (.d (.int j))=some (.d (f i j)):=by simp [gI,bh,h]
theorem bg{e:En}{i j:Int}:ba e (.d (.int i)) (.d (.int j))=some (.d (.int (i+j))):=rfl
theorem bQ{e:En}{i j:Int}:gY e (.d (.int i)) (.d (.int j))=some (.d (.int (i - j))):=rfl
theorem mE{e:En}{i j:Int}(h:ko i j=true):jx e (.d (.int i)) (.d (.int j))=some (.d (.int (i*j))):=by
  unfold jx vy qu;rw [kh h];rfl
theorem wH{i j:Int}(h1: -(2 ^ 64) < i)(h2:i < 2 ^ 64):ko i j=true:=by
  have:ib i=true:=by unfold ib;rw [decide_eq_true h1,decide_eq_true h2];rfl
  unfold ko;rw [this];simp
theorem pN{i j:Int}(h1: -(2 ^ 64) < j)(h2:j < 2 ^ 64):ko i j=true:=by
  have:ib j=true:=by unfold ib;rw [decide_eq_true h1,decide_eq_true h2];rfl
  unfold ko;rw [this];simp
theorem aC{e:En}{i j:Int}(h:0 < j):aR e (.d (.int i)) (.d (.int j))=some (.d (.int (i % j))):=by
  unfold aR;rw [kh (by simp;lia)]
  rw [Int.fmod_eq_emod_of_nonneg i (by lia)]
theorem cn{e:En}{i j:Int}(h:0 < j)(h2:Bt 8000 j):bI e (.d (.int i)) (.d (.int j))=some (.d (.int (i / j))):=by
  unfold bI;rw [kh (by simp [jH.mpr h2];lia)]
  rw [Int.fdiv_eq_ediv_of_nonneg i (by lia)]
theorem bc{e:En}{i j:Int}{neg:Bool}:bL neg e (.d (.int i)) (.d (.int j))=some (.d (.bool (if neg then !(i==j) else i==j))):=by
  unfold bL;simp [iE,SeqAt.shaped,PyData.canLay0,PyData.depth,PyData.eqv]
theorem fX{e:En}{i j:Int}:Au e (.d (.int i)) (.d (.int j))=some (.d (.bool (decide (i < j)))):=rfl
theorem fV{e:En}{i j:Int}:Ba e (.d (.int i)) (.d (.int j))=some (.d (.bool (decide (i≤j)))):=rfl
theorem fR{e:En}{i j:Int}:yB e (.d (.int i)) (.d (.int j))=some (.d (.bool (decide (j < i)))):=rfl
theorem fQ{e:En}{i j:Int}:Ar e (.d (.int i)) (.d (.int j))=some (.d (.bool (decide (j≤i)))):=rfl
theorem eG{e:En}{i j:Int}:g2 wk e [.d (.int i),.d (.int j)]=some (.d (.int (min i j))):=by
  show some (Rv.d (.int (if j < i then j else i)))=_
  congr 3
  split<;>lia
theorem eF{e:En}{i j:Int}:g2 pA e [.d (.int i),.d (.int j)]=some (.d (.int (max i j))):=by
  show some (Rv.d (.int (if j > i then j else i)))=_
  congr 3
  split<;>lia
theorem eH{e:En}{i:Int}:rT e (.d (.int i))=some (.d (.int (-i))):=rfl
theorem dw{e:En}{b:Bool}:g1 uv e [.d (.bool b)]=some (.d (.int (if b then 1 else 0))):=rfl
theorem eD{e:En}{i:Int}:g1 ut e [.d (.int i)]=some (.d (.int i.natAbs)):=by
  show some (Rv.d (.int (if i < 0 then -i else i)))=_
  congr 3
  split<;>lia
theorem gW{j:Int}(h1:0 < j)(h2:j < 2 ^ 64):Bt 8000 j:=Bt.mono (m:=64) (by unfold Bt;lia) (by decide)
theorem iy{α:Type}{xs:List α}{i:Int}(h0:0≤i)(h:i < xs.length):atI xs i=xs[i.toNat]?:=by
  unfold atI yF
  rw [if_pos h0,if_pos h];rfl
theorem qt{e:En}{i:Nat}{xs:List PyData}{neg:Bool}(h:e[i]?=some (some (.l xs)))(hs:SeqAt.shaped (.list xs)=true):bL neg e (.s i) (.l [])=some (.d (.bool (if neg then !xs.isEmpty else xs.isEmpty))):=by
  unfold bL
  simp only [iE,h,Option.bind_some,hs]
  have h0:SeqAt.shaped (.list [])=true:=by simp [SeqAt.shaped,PyData.canLay0,PyData.canLayAll0,PyData.depth,PyData.depthAll]
  rw [h0]
  cases xs<;>simp [PyData.eqv,PyData.eqvAll]
theorem lF(ns:List Int):SeqAt.shaped (.list (ns.map .int))=true∧SeqAt.shaped (.tuple (ns.map .int))=true:=by
  have h1:PyData.canLayAll0 (ns.map PyData.int)=true:=by
    induction ns with
    | nil=>rfl
    | cons n r ih=>simp [PyData.canLayAll0,PyData.canLay0,ih]
  have h2:PyData.depthAll (ns.map PyData.int)=0:=by
    clear h1
    induction ns with
    | nil=>rfl
    | cons n r ih=>simp [PyData.depthAll,PyData.depth,ih]
  constructor<;>simp [SeqAt.shaped,PyData.canLay0,PyData.depth,h1,h2]
theorem dO{own:iq}{g:FG}{f:FS}(P:Nat→En→Prop):∀(items:List PyData) (k:Nat) (e:En),(∀i x e,items[i]?=some x→P (k+i) e→∃e1 e2,g x e=some e1∧f e1=some (.nx e2)∧keeps own e2∧P (k+i+1) e2)→P k e→∃e',e_ own g f items e=some (.nx e')∧P (k+items.length) e'
  | [],k,e,_,h=>⟨e,rfl,h⟩
  | x::r,k,e,hs,h=>by
    obtain⟨e1,e2,h1,h2,h3,h4⟩:=hs 0 x e rfl h
    obtain⟨e',h5,h6⟩:=dO P r (k+1) e2 (fun i y e hy hp=>by
      have:=hs (i+1) y e (by simpa using hy) (by rw [show k+(i+1)=k+1+i by lia];exact hp)
      rw [show k+(i+1)+1=k+1+i+1 by lia] at this
      exact this) h4
    refine⟨e',?_,by rw [List.length_cons,show k+(r.length+1)=k+1+r.length by lia];exact h6⟩
    unfold e_
    simp only [h1,h2,Option.bind_some,if_pos h3]
    exact h5
theorem be{e:En}:keeps [] e:=fun _ h=>by cases h
theorem dc{W:List Nat}{fi:FI}{g:FG}{f:FS}{e e1:En}{items:List PyData}(h:fi e=some (items,[],e1)):c7 W fi g f e=e_ [] g f items e1:=by
  unfold c7;rw [h];rfl
theorem bJ{lo:Int}{n i:Nat}{x:PyData}(h:(aT lo n)[i]?=some x):x=.int (lo+i)∧i < n:=by
  unfold aT at h
  rw [List.getElem?_map] at h
  obtain⟨k,h1,rfl⟩:=Option.map_eq_some_iff.mp h
  obtain⟨h2,h3⟩:=List.getElem?_eq_some_iff.mp h1
  simp at h2 h3
  subst h3
  exact⟨rfl,h2⟩
theorem eh{lo:Int}{n:Nat}:(aT lo n).length=n:=by simp [aT]
theorem dh{fs:FA}{e e1:En}{n:Int}(h:fs e=some ([.d (.int n)],e1))(h1: -1000000≤n)(h2:n≤1000000):cK fs e=some (aT 0 n.toNat,[],e1):=by
  unfold cK;rw [h]
  have:xI n=true:=by unfold xI;rw [decide_eq_true h1,decide_eq_true h2];rfl
  simp [bh,this]
theorem nE{ft:FT}{f:FS}(P:En→Prop)(μ:En→Nat)(hs:∀e,P e→(∃e1,ft e=some (false,e1)∧True)∨∃e1 e2,ft e=some (true,e1)∧f e1=some (.nx e2)∧P e2∧μ e2 < μ e):
    ∀(n:Nat) (e:En),P e→μ e < n→∃e0 e',ie ft f n e=some (.nx e')∧P e0∧ft e0=some (false,e'):=by
  intro n
  induction n with
  | zero=>intro e _ h;lia
  | succ n ih=>
    intro e hp hm
    rcases hs e hp with ⟨e1,h1,_⟩ | ⟨e1,e2,h1,h2,h3,h4⟩
    · exact⟨e,e1,by unfold ie;rw [h1];rfl,hp,h1⟩
    · obtain⟨e0,e',g1,g2⟩:=ih e2 h3 (by lia)
      exact⟨e0,e',by unfold ie;rw [h1];simp only [Option.bind_some,if_true,h2];exact g1,g2⟩
theorem dr{cs:En}{ft:FT}{fe:FE}{b:PyData→Bool}{y:PyData→PyData}:∀(items:List PyData) (t:Option Sv) (acc:List PyData),(∀x∈items,ft (cs++[some (.d x)])=some (b x,cs++[some (.d x)]))→(∀x∈items,b x=true→fe (cs++[some (.d x)])=some (.d (y x),cs++[some (.d x)]))→
    acc.length+items.length≤1000000→∃t',jL (ai cs.length) ft fe items (cs++[t]) acc=some (acc++(items.filter b).map y,cs++[t'])
  | [],t,acc,_,_,_=>⟨t,by simp [jL]⟩
  | x::r,t,acc,h1,h2,hl=>by
    have hg:ai cs.length x (cs++[t])=some (cs++[some (.d x)]):=by simp [ai]
    have h1x:=h1 x (by simp)
    unfold jL
    rw [hg]
    simp only [Option.bind_some,h1x]
    cases hb:b x with
    | true=>
      simp only [if_true,h2 x (by simp) hb,Option.bind_some,lL]
      rw [if_pos (by simp at hl;lia)]
      obtain⟨t',ih⟩:=dr (b:=b) (y:=y) r (some (.d x)) (acc++[y x]) (fun z hz=>h1 z (by simp [hz])) (fun z hz=>h2 z (by simp [hz])) (by simp at hl ⊢;lia)
      exact⟨t',by rw [ih];simp [hb]⟩
    | false=>
      simp only [Bool.false_eq_true,if_false]
      obtain⟨t',ih⟩:=dr (b:=b) (y:=y) r (some (.d x)) acc (fun z hz=>h1 z (by simp [hz])) (fun z hz=>h2 z (by simp [hz])) (by simp at hl;lia)
      exact⟨t',by rw [ih];simp [hb]⟩
theorem hE{fa:FE}{e e1:En}{xs:List PyData}(h:fa e=some (.d (.tuple xs),e1)):kj fa e=some (xs,[],e1):=by
  unfold kj;rw [h];rfl
theorem gM{cp:List (Nat × Str)}{nT:Nat}{fi:FI}{g:FG}{ft:FT}{fe:FE}{e e1 cs:En}{t t':En}{items out:List PyData}(h1:fi e=some (items,[],e1))(hc:rX cp nT e1=cs++t)(hl:cs.length=cp.length)(h3:jL g ft fe items (rX cp nT e1) []=some (out,cs++t')):iZ cp nT fi g ft fe e=some (.l out,e1):=by
  have key:∀i x,e1[i]?=some (some (.l x))→∀k,mW cp i=some k→(cs++t')[k]?=some (some (.l x)):=by
    intro i x hi k hk
    obtain⟨s,hs⟩:=gF hk
    have hk2:k < cp.length:=(List.getElem?_eq_some_iff.mp hs).1
    have:(rX cp nT e1)[k]?=some (some (.l x)):=by
      unfold rX
      rw [List.getElem?_append_left (by simpa using hk2),List.getElem?_map,hs]
      simp [hi,DY]
    rw [hc,List.getElem?_append_left (by lia)] at this
    rw [List.getElem?_append_left (by lia)]
    exact this
  unfold iZ
  rw [h1]
  simp only [Option.bind_some,List.all_nil,if_true,h3]
  have hb:pe cp (cs++t') e1=true:=by
    unfold pe
    rw [List.all_eq_true]
    intro p hp
    match hi:e1[p.1]? with
    | none=>simp [yi]
    | some none=>simp [yi]
    | some (some (.d x))=>simp [yi]
    | some (some (.n x))=>simp [yi]
    | some (some (.l x))=>
      cases hq:mW cp p.1 with
      | none=>
        unfold mW at hq
        rw [List.findIdx?_eq_none_iff] at hq
        have:=hq p hp
        simp at this
      | some k=>simp [key p.1 x hi k hq,yi]
  rw [if_pos hb]
  congr 2
  refine List.ext_getElem? fun i=>?_
  rw [cj]
  match hi:e1[i]? with
  | none=>rfl
  | some none=>rfl
  | some (some (.d x))=>rfl
  | some (some (.n x))=>rfl
  | some (some (.l x))=>
    cases hp:mW cp i with
    | none=>simp [hp]
    | some k=>simp [hp,key i x hi k hp]
theorem iu{α:Type}{xs:List α}{i:Int}(h0:0≤i)(h1:i < xs.length):∃x∈xs,atI xs i=some x:=by
  rw [iy h0 h1]
  exact⟨xs[i.toNat]'(by lia),List.getElem_mem _,List.getElem?_eq_getElem _⟩
theorem lm{e:En}{xs:List PyData}{i:Int}:dZ e (.l xs) (.d (.int i))=(atI xs i).map .d:=rfl
theorem ii{e:En}{xs:List PyData}{i:Int}:dZ e (.d (.tuple xs)) (.d (.int i))=(atI xs i).map .d:=rfl
theorem iI{e:En}{xs:List PyData}{i:Int}:dZ e (.d (.list xs)) (.d (.int i))=(atI xs i).map .d:=rfl
theorem lq{e:En}{j:Nat}{xs:List PyData}{i:Int}(h:e[j]?=some (some (.l xs))):dZ e (.s j) (.d (.int i))=(atI xs i).map .d:=by
  simp [dZ,dU,h,bh]
theorem iL{e:En}{xs:List PyData}:g1 eE e [.d (.tuple xs)]=some (.d (.int xs.length)):=rfl
theorem fW{e:En}{xs:List PyData}:g1 eE e [.d (.list xs)]=some (.d (.int xs.length)):=rfl
theorem iJ{e:En}{xs:List PyData}:g1 eE e [.l xs]=some (.d (.int xs.length)):=rfl
theorem iK{e:En}{j:Nat}{xs:List PyData}(h:e[j]?=some (some (.l xs))):g1 eE e [.s j]=some (.d (.int xs.length)):=by
  simp [g1,eE,dU,h]
theorem eJ{e:En}{j:Nat}{xs:List PyData}(h:e[j]?=some (some (.l xs))):g1 dQ e [.s j]=some (.d (.tuple xs)):=by
  simp [g1,dQ,dU,h]
theorem eI{e:En}{xs:List PyData}:g1 dQ e [.l xs]=some (.d (.tuple xs)):=rfl
theorem dy{e:En}{xs:List PyData}:g1 dQ e [.d (.list xs)]=some (.d (.tuple xs)):=rfl
theorem eK{e:En}{xs:List PyData}:g1 dQ e [.d (.tuple xs)]=some (.d (.tuple xs)):=rfl
theorem ls{e:En}{xs:List PyData}{lo hi:Option Int}:FU e (.d (.tuple xs)) lo hi=some (.d (.tuple (cutD xs lo hi))):=rfl
theorem mB{e:En}{xs ys:List PyData}(h:xs.length+ys.length≤1000000):ba e (.d (.tuple xs)) (.d (.tuple ys))=some (.d (.tuple (xs++ys))):=by
  simp [ba,vy,wg,gI,bh,qr,dU,h]
theorem Bb{e:En}{i j:Int}(h:j≠0):aR e (.d (.int i)) (.d (.int j))=some (.d (.int (i.fmod j))):=by
  unfold aR;rw [kh (by simpa using h)]
theorem yA{e:En}{i j:Int}(h:j≠0)(h2:Bt 8000 j):bI e (.d (.int i)) (.d (.int j))=some (.d (.int (i.fdiv j))):=by
  unfold bI;rw [kh (by simp [jH.mpr h2,h])]
theorem iM{e:En}{i j:Int}(h:xk i j=true):pB e (.d (.int i)) (.d (.int j))=some (.d (.int (i ^ j.toNat))):=by
  unfold pB;rw [kh h]
theorem jV:xk 10 18=true:=by decide
theorem cA{f g:FS}{e e1:En}(h:f e=some (.nx e1)):az f g e=g e1:=by unfold az;rw [h];rfl
theorem EG{ft:FT}{f g:FS}{e e1:En}(h:ft e=some (true,e1)):dX ft f g e=f e1:=by unfold dX;rw [h];rfl
theorem EF{ft:FT}{f g:FS}{e e1:En}(h:ft e=some (false,e1)):dX ft f g e=g e1:=by unfold dX;rw [h];rfl
def Az(i:Nat)(e:En):Nat:=match e[i]? with
  | some (some (.l xs))=>xs.length
  | _=>0
def wJ(i:Nat)(e:En):Nat:=match e[i]? with
  | some (some (.d (.int k)))=>k.natAbs
  | _=>0
theorem tM{n m:Nat}(h:n < 2 ^ m)(hm:m≤4200):n < 2 ^ 4200:=Nat.lt_of_lt_of_le h (Nat.pow_le_pow_right (by decide) hm)
theorem gP{α:Type}{a:α}{r:List α}:atI (a::r) 0=some a:=by
  rw [iy (by decide) (by simp)];rfl
theorem gQ{α:Type}{a b:α}{r:List α}:atI (a::b::r) 1=some b:=by
  rw [iy (by decide) (by simp;lia)];rfl
theorem gR{α:Type}{a b c:α}{r:List α}:atI (a::b::c::r) 2=some c:=by
  rw [iy (by decide) (by simp;lia)];rfl
theorem gS{α:Type}{a b c d:α}{r:List α}:atI (a::b::c::d::r) 3=some d:=by
  rw [iy (by decide) (by simp;lia)];rfl
theorem iz{W:aY}{k:Int}(h:ka W k):atI (W.ties.map cf) k=some (cf (W.tie k)):=by
  rw [iy h.1 (by rw [List.length_map];exact h.2),List.getElem?_map,h.get];rfl
theorem iw{ns:List Int}{k:Int}(h0:0≤k)(h1:k < (ns.length:Int)):atI (ns.map PyData.int) k=some (.int (ns.getD k.toNat 0)):=by
  rw [iy h0 (by rw [List.length_map];exact h1),List.getElem?_map]
  have:k.toNat < ns.length:=by lia
  simp [this]
theorem kU{a b c d:PyData}:cutD [a,b,c,d] none (some 2)=[a,b]:=rfl
theorem du{a b c d:PyData}:cutD [a,b,c,d] (some 2) none=[c,d]:=rfl
theorem dt{a b c:PyData}:cutD [a,b,c] (some 1) none=[b,c]:=rfl
theorem qi(ns:List Int):PyData.canLayAll0 (ns.map PyData.int)=true:=by
  induction ns with
  | nil=>rfl
  | cons n r ih=>simp [PyData.canLayAll0,PyData.canLay0,ih]
theorem qf{x:Int}:∀(ns:List Int),((ns.map PyData.int).any fun y=>PyData.eqv y (.int x))=ns.contains x
  | []=>rfl
  | n::r=>by
    rw [List.map_cons,List.any_cons,qf r,List.contains_cons]
    show(n==x || _)=_
    rw [show(n==x)=(x==n) by rw [Bool.eq_iff_iff];simp;exact eq_comm]
theorem dP{e:En}{x:Int}{ns:List Int}{neg:Bool}:yh neg e (.d (.int x)) (.d (.tuple (ns.map .int)))=some (.d (.bool (if neg then !ns.contains x else ns.contains x))):=by
  unfold yh
  simp only [iE,dU,Option.bind_some,qi,qf]
  simp [PyData.canLay0,PyData.depth]
theorem fU{e:En}{x a b:Int}{neg:Bool}:yh neg e (.d (.int x)) (.d (.tuple [.int a,.int b]))=some (.d (.bool (if neg then !(a==x || b==x) else(a==x || b==x)))):=by
  have h:=dP (e:=e) (x:=x) (ns:=[a,b]) (neg:=neg)
  simp only [List.map_cons,List.map_nil] at h
  rw [h]
  have:[a,b].contains x=(a==x || b==x):=by
    simp only [List.contains_cons,List.contains_nil,Bool.or_false]
    rw [show(x==a)=(a==x) by rw [Bool.eq_iff_iff];simp;exact eq_comm,show(x==b)=(b==x) by rw [Bool.eq_iff_iff];simp;exact eq_comm]
  rw [this]
theorem jy{e:En}{ns:List Int}(h:ns.length < 64):g1 fH e [.d (.tuple (ns.map .int))]=some (.l ((ci ns).map .int)):=by
  simp [g1,fH,dU,kl,h]
def qU(p:Int→Bool):PyData→Bool
  | .int k=>p k
  | _=>false
theorem uY{W:aY}{asked taken:List Int}:((aT 0 W.ties.length).filter (qU fun k=>W.may asked taken k))=(W.can asked taken).map .int:=by
  unfold aT aY.can aY.rng
  rw [List.filter_map,List.filter_map,List.map_map]
  have:(List.range W.ties.length).filter ((qU fun k=>W.may asked taken k) ∘ fun(i:Nat)=>PyData.int (0+(i:Int)))=(List.range W.ties.length).filter ((fun k=>W.may asked taken k) ∘ Int.ofNat):=by
    congr 1
    funext i
    simp [qU]
  rw [this]
  refine List.map_congr_left fun i _=>?_
  simp
theorem eA(W:aY):aP W=.tuple [.int W.things,.tuple (W.ties.map cf),.tuple (W.pat.map .int),.int W.asks]:=rfl
end L2
namespace L2
open PySem PySem.Spec PyProof.Rows
def Sh(n:Nat)(d:PyData):Prop:=d.canLay0=true∧d.depth≤n
theorem Sh.ok{n:Nat}{d:PyData}(h:Sh n d)(l:n≤64):SeqAt.shaped d=true:=by
  unfold SeqAt.shaped;rw [h.1,decide_eq_true (Nat.le_trans h.2 l)];rfl
theorem Sh.int{k:Int}:Sh 2 (.int k):=⟨by simp [PyData.canLay0],by simp [PyData.depth]⟩
theorem Sh.all{n:Nat}:∀{ds:List PyData},(∀d∈ds,Sh n d)→PyData.canLayAll0 ds=true∧PyData.depthAll ds≤n
  | [],_=>⟨rfl,by simp [PyData.depthAll]⟩
  | d::r,h=>by
    obtain⟨a1,a2⟩:=h d (by simp)
    obtain⟨b1,b2⟩:=Sh.all (ds:=r) fun x hx=>h x (by simp [hx])
    exact⟨by simp [PyData.canLayAll0,a1,b1],by simp only [PyData.depthAll];lia⟩
theorem Sh.list{n:Nat}{ds:List PyData}(h:∀d∈ds,Sh n d):Sh (n+2) (.list ds):=by
  obtain⟨b1,b2⟩:=Sh.all h
  exact⟨by simp [PyData.canLay0,b1],by simp only [PyData.depth];lia⟩
theorem eQ:∀(n:Nat) (l:List Int),l.Nodup→(∀k∈l,0≤k∧k < (n:Int))→l.length≤n
  | 0,l,_,h=>by
    cases l with
    | nil=>simp
    | cons a r=>have:=h a (by simp);lia
  | n+1,l,hd,h=>by
    have ih:=eQ n (l.erase (n:Int)) (hd.erase _) fun k hk=>by
      obtain⟨h1,h2⟩:=hd.mem_erase_iff.mp hk
      have:=h k h2
      lia
    by_cases c:(n:Int)∈l
    · rw [List.length_erase_of_mem c] at ih;lia
    · rw [List.erase_of_not_mem c] at ih;lia
abbrev Std:=List Int × List Int
structure Dn (W:aY) (s:Std):Prop where
  inw:∀k∈s.1,ka W k
  nd:s.1.Nodup
  tk:s.2.length≤2*s.1.length
  th:∀t∈s.2,0≤t∧t < W.things
def nxt(W:aY)(s:Std)(k:Int)(b:Bool):Std:=(aY.askd s.1 k,W.took s.2 k b)
structure Nd where
  tie:Int
  yes:Int
  no:Int
def Di(W:aY)(n:Nat)(S:Nat→Std)(i:Nat)(k:Int)(b:Bool)(l:Int):Prop:=l= -1∨(0≤l∧l < (n:Int)∧S l.toNat=nxt W (S i) k b)
structure FD (W:aY) (n:Nat) (S:Nat→Std) (i:Nat) (x:Nd):Prop where
  tie:ka W x.tie
  st:Dn W (S i)
  may:W.may (S i).1 (S i).2 x.tie=true
  yes:Di W n S i x.tie true x.yes
  no:Di W n S i x.tie false x.no
def FK(W:aY)(T:List Nd)(S:Nat→Std):Prop:=∀(i:Nat) (x:Nd),T[i]?=some x→FD W T.length S i x
structure Wt where
  st:Std
  par:Int
  side:Int
structure GR (W:aY) (T:List Nd) (S:Nat→Std) (ws:List Wt):Prop where
  tr:FK W T S
  wt:∀w∈ws,Dn W w.st∧(w.par= -1∨∃(p:Nat) (x:Nd),w.par=(p:Int)∧T[p]?=some x∧((w.side=0∧w.st=L2.nxt W (S p) x.tie true)∨(w.side=1∧w.st=L2.nxt W (S p) x.tie false)))
  side:∀w∈ws,w.side=0∨w.side=1
end L2
namespace L2
open PySem PySem.Spec PyProof.Rows
theorem ox{α:Type}(x:α):∀n,(List.replicate n [x]).flatten=List.replicate n x
  | 0=>rfl
  | n+1=>by rw [List.replicate_succ,List.flatten_cons,ox x n];rfl
theorem DL{e:En}{x:PyData}{n:Int}(h0:0≤n)(h1:n≤100000):jx e (.l [x]) (.d (.int n))=some (.l (List.replicate n.toNat x)):=by
  have a:qz e (.l [x]) (.d (.int n))=some (.l (List.replicate n.toNat [x]).flatten):=by
    simp [qz,se,bh]
    lia
  have b:qu e (.l [x]) (.d (.int n))=none:=by simp [qu,gI,bh]
  have c:qA e (.l [x]) (.d (.int n))=none:=by simp [qA,dU,bh]
  unfold jx vy
  rw [b,c,a,ox]
  rfl
def nm(nums:List Int)(l:Int):Int:=(atI nums l).getD (-1)
structure Gz (order:List Int) (n:Nat) (nums:List Int):Prop where
  len:nums.length=n+1
  top:nums[n]?=some (-1)
  at':∀(j:Nat) (v:Int),j < n→nums[j]?=some v→v= -1∨∃p:Nat,v=(p:Int)∧order[p]?=some (j:Int)
def wK(T:List Nd)(w:Int):Nd:=T.getD w.toNat ⟨0,0,0⟩
end L2
namespace L2
open PySem PySem.Spec PyProof.Rows
structure GY (S:Nat→Std) (n:Nat) (ss:List Std):Prop where
  len:ss.length=n
  at':∀(j:Nat) (s:Std),ss[j]?=some s→s.1.length≤(S j).1.length∧s.2.length≤2*s.1.length∧(∀k∈s.1,0≤k∧k < 16)∧∀t∈s.2,0≤t∧t < 12
end L2
namespace L2
open PySem PySem.Spec PyProof.Rows
theorem c8(s:String):PyData.strOk (Str.ofString s)=true:=by
  rw [Str.ofString_eq_toList]
  unfold PyData.strOk
  simp only [List.size_toArray,List.length_map]
  rw [show(List.map Char.toNat s.toList).toArray.all (fun a=>decide (a < 1114112)) 0 s.toList.length=(List.map Char.toNat s.toList).all (fun a=>decide (a < 1114112)) by simp]
  rw [List.all_map,List.all_eq_true]
  intro c _
  show decide (c.toNat < 1114112)=true
  rw [decide_eq_true_eq]
  have:=c.valid
  unfold UInt32.isValidChar Nat.isValidChar at this
  show c.val.toNat < _
  lia
theorem er{a b:Str}(h1:PyData.strOk a=true)(h2:PyData.strOk b=true):PyData.strOk (a++b)=true:=by
  unfold PyData.strOk at*
  rw [show(a++b).cps=a.cps++b.cps from rfl]
  simp only [Array.all_append,h1,h2,Bool.and_self]
theorem nj{sep:Str}(h:PyData.strOk sep=true):∀(ts:List Str),(∀t∈ts,PyData.strOk t=true)→PyData.strOk (Str.join sep ts)=true
  | [],_=>by show PyData.strOk Str.empty=true;simp [PyData.strOk,Str.empty]
  | [x],hx=>hx x (by simp)
  | x::y::r,hx=>er (er (hx x (by simp)) h) (nj h (y::r) fun t ht=>hx t (by simp at ht ⊢;exact .inr ht))
theorem oW{ts:List Str}(h:∀t∈ts,PyData.strOk t=true):PyData.strOk (tupleText ts)=true:=by
  unfold tupleText
  exact er (er (c8 _) (nj (c8 _) ts h)) (c8 _)
structure Sz (n dep:Nat) (d:PyData):Prop where
  fl:gy d=true
  sh:d.showable=true
  dp:d.depth≤dep
  ln:d.shown.length≤n
  so:PyData.strOk d.shown=true
theorem yC{e:En}{d:PyData}(h:j6 d=true):g1 lr e [.d d]=some (.d (.str d.shown)):=by
  simp [g1,lr,h]
end L2
namespace L2
open PySem PySem.Spec PyProof.Rows
theorem yy{e:En}{i:Nat}{xs ys:List PyData}(h:e[i]?=some (some (.l xs)))(hl:xs.length+ys.length≤1000000):ba e (.s i) (.l ys)=some (.l (xs++ys)):=by
  simp [ba,vy,wg,gI,bh,qr,dU,tH,se,h,hl]
def rn(T:List Nd)(ans:List Bool):Nat→Int→List (Int × Bool)
  | 0,_=>[]
  | f+1,at'=>if at' < 0 then [] else((wK T at').tie,ans.getD (wK T at').tie.toNat false)::rn T ans f (if ans.getD (wK T at').tie.toNat false=true then(wK T at').yes else(wK T at').no)
def rt(T:List Nd):Int:=if T.length=0 then -1 else 0
structure GC (W:aY) (T:List Nd) (S:Nat→Std) (ans:List Bool) (r:List (Int × Bool)) (a:Int):Prop where
  at':a= -1∨(0≤a∧a < (T.length:Int)∧r.length≤(S a.toNat).1.length)
  eq:r++rn T ans (17 - r.length) a=rn T ans 17 (rt T)
  len:r.length≤16
  inw:∀p∈r,ka W p.1
theorem Sz.bool{b:Bool}:Sz 5 2 (.bool b):=by
  cases b
  · exact⟨rfl,rfl,by simp [PyData.depth],by show(Str.ofString "False").length≤5;decide,c8 _⟩
  · exact⟨rfl,rfl,by simp [PyData.depth],by show(Str.ofString "True").length≤5;decide,c8 _⟩
end L2
namespace L2
open PySem PySem.Spec PyProof.Rows
abbrev Fr:=Int × Int
def tm(a b:Fr):Fr:=eR (a.1*b.1) (a.2*b.2)
def pl(a b:Fr):Fr:=eR (a.1*b.2+b.1*a.2) (a.2*b.2)
structure GW (M:Int) (f:Fr):Prop where
  pos:0 < f.2
  lo:0≤f.1
  hi:f.1≤f.2
  dv:f.2 ∣ M
structure Fj (M i:Int) (f:Fr):Prop where
  pos:0 < f.2
  lo:0≤f.1
  hi:f.1≤i*f.2
  dv:f.2 ∣ M
def bp(W:aY):List Int→Int
  | []=>1
  | k::r=>(W.tie k).bot*bp W r
def Dw(W:aY):Int:=bp W W.rng
def ch(W:aY)(k:Int)(b:Bool):Fr:=if b then((W.tie k).top,(W.tie k).bot) else((W.tie k).bot - (W.tie k).top,(W.tie k).bot)
structure GX (W:aY) (S:Nat→Std) (n:Nat) (rs:List Fr):Prop where
  len:rs.length=n
  at':∀(j:Nat) (f:Fr),rs[j]?=some f→GW (bp W (S j).1) f
structure GS (W:aY) (i:Nat) (ss:List Fr):Prop where
  len:ss.length=W.ties.length
  at':∀(j:Nat) (f:Fr),ss[j]?=some f→Fj (Dw W) (i:Int) f
end L2
namespace L2
open PySem PySem.Spec PyProof.Rows
def C6(sc:Scope)(x:Str):Bool:=match sc.names.lookup x with
  | some .local=>true
  | some .cell=>true
  | some .free=>true
  | _=>false
theorem Ab{sc:Scope}{x:Str}(h:C6 sc x=true):Dp sc x:=by
  unfold C6 at h
  unfold Dp
  split at h
  · rename_i e;exact .inl e
  · rename_i e;exact .inr (.inl e)
  · rename_i e;exact .inr (.inr e)
  · cases h
section
variable{X:Cx}{K:PySem.W.Frag}
theorem qw(i:Nat){x:Str}{pos:Pos}(hN:X.N[i]?=some x)(hv:C6 X.env.scope x=true)(hd:((x==("__debug__":Str)) || (x==("__classdict__":Str)))=false):PE X (.Name x pos) (fE K (ac i)):=qv i hN (Ab hv) (Bool.or_eq_false_iff.mp hd).1 (Bool.or_eq_false_iff.mp hd).2
end
end L2
namespace L2
open PySem PySem.Spec PyProof.Rows
section
variable{X:Cx}{tg a b c:Expr}{ta:TA}{p pos p2 pos2:Pos}
end
section
variable{K:PySem.W.Frag}{σ:L2.St}
end
section
variable{X:Cx}{K:PySem.W.Frag}{tg a b c:Expr}{fs:FA}{pos p p2 pos2:Pos}
theorem uZ{σ:L2.St}{H0 F H:Hp}{e:En}{x y z:Rv}{vs:List V}(h:cW K σ H0 F H e [x,y,z] vs):∃v u w,vs=[v,u,w]∧bS K σ H0 F H e x v∧bS K σ H0 F H e y u∧bS K σ H0 F H e z w:=by
  obtain⟨v,ws,rfl,h1,h2⟩:=h
  obtain⟨u,w,rfl,h3,h4⟩:=l6 h2
  exact⟨v,u,w,rfl,h1,h3,h4⟩
end
end L2
namespace L2
open PySem PySem.Spec PyProof.Rows
end L2
namespace L2
open PySem PySem.Spec PyProof.Rows
section
variable(P:Program)(w:World)
end
section
variable{P:Program}{w:World}{H H':Hp}{h h':Heap}{a:Addr}{o:HO}
end
section
variable{P:Program}{w:World}{H:Hp}{h h':Heap}{x e:Addr}{o':HO}
end
section
variable{fs fs' ex ex':List Addr}{H H1 H2:Hp}{h h1 h2 h':Heap}{a x e:Addr}{o:HO}
end
end L2
namespace L2
open PySem PySem.Spec PyProof.Rows
section
variable{X:Cx}{pins:List (Addr × Obj)}{σ:List (Option V)}{H H':Hp}{s:Shared}{h':Heap}
end
end L2
namespace L2
open PySem PySem.Spec PyProof.Rows
section
variable{X:Cx}
variable{a b:Expr}{ta tb:TE}{pos:Pos}
variable{tA tB':TT}{fm:List Expr}
end
end L2
namespace L2
open PySem PySem.Spec PyProof.Rows
section
variable{X:Cx}{pins:List (Addr × Obj)}{σ:St}{H:Hp}{s:Shared}{a:Addr}{xs ys:List V}
end
section
variable{X:Cx}{pins:List (Addr × Obj)}{σ:St}{H:Hp}{s:Shared}{E:Value→Shared→Prop}
end
section
variable{X:Cx}{st:Stmt}{fm:List Stmt}{t u:TS}{e:Expr}{te:TE}{pos:Pos}
end
section
variable{X:Cx}{pos:Pos}
end
section
variable{X:Cx}{pos:Pos}
end
end L2
namespace L2
open PySem PySem.Spec PyProof.Rows
section
variable{X:Cx}{tg:Expr}
end
end L2
namespace L2
open PySem PySem.Spec PyProof.Rows
section
variable{X:Cx}{a b c:Expr}{ta tb tc:TE}{pos:Pos}
end
section
variable{X:Cx}{a b c:Expr}{ta tb tc:TE}{pos:Pos}
end
end L2
namespace L2
open PySem PySem.Spec PyProof.Rows
section
variable{prog:Program}{w:World}{A:Around}{E:Value→Shared→Prop}{s:Shared}{K:PySem.W.Frag}{x dx C f:Addr}{mA:Str→Option Value}{name:Str}{v:Value}
end
section
variable{P:Program}{w:World}{H H':Hp}{h h':Heap}{a C dx:Addr}{fs fs':List (Str × V)}
end
section
variable{X:Cx}{pins:List (Addr × Obj)}{σ:St}{H:Hp}{s:Shared}{a C dx:Addr}{fs:List (Str × V)}{f:Str}{v:V}{A:Around}{E:Value→Shared→Prop}
end
section
variable{X:Cx}{o e value:Expr}{f:Str}{pos pos' tpos:Pos}{ta tv:TE}
end
section
variable{X:Cx}{pins:List (Addr × Obj)}{σ:St}{H:Hp}{s:Shared}{A:Around}{E:Value→Shared→Prop}{Q:Value→Shared→Prop}{c:Value}{b:Bool}
end
end L2
namespace L2
open PySem PySem.Spec PyProof.Rows
section
variable{X:Cx}{e:Expr}{es:List Expr}{te:TE}{t:TA}{pos:Pos}
end
section
variable{X:Cx}{pins:List (Addr × Obj)}{σ:St}{H:Hp}{s s':Shared}
end
section
variable{X:Cx}{CX:ui}{k:Nat}{f C:Addr}{fd:FuncData}{ps:List Str}{sp:Sp}{dvs:List V}{ds:List Value}{E:XK}{x m:Str}{p pos apos:Pos}{e o:Expr}{es:List Expr}{ta:TE}{t:TA}
end
section
variable{X:Cx}{CX:ui}{k:Nat}{f C:Addr}{fd:FuncData}{ps ks:List Str}{sp:Sp}{E:XK}{x m:Str}{p pos apos kpos:Pos}{e o:Expr}{es:List Expr}{kws:List Keyword}{te ta:TE}{t tk:TA}{nm:Option Str}
variable{g:List Value→List Value→List Value}{gV:List V→List V→List V}
end
end L2
namespace L2
open PySem PySem.Spec PyProof.Rows
section
variable{X:Cx}{x:Str}{p pos:Pos}{e:Expr}{es:List Expr}{t:TA}{id T:String}{r:List V→Hp→VK→Prop}
end
end L2
namespace L2
open PySem PySem.Spec PyProof.Rows
section
variable{κ:Type}[DecidableEq κ]
def pV(kvs:List (κ × V))(k:κ)(v:V):List (κ × V):=
  if (kvs.any fun kv=>decide (kv.1=k))=true then kvs.map (fun kv=>if kv.1=k then(kv.1,v) else kv) else kvs++[(k,v)]
theorem qH(kvs:List (κ × V))(k:κ)(v:V):(pV kvs k v).length≤kvs.length+1:=by
  unfold pV
  split
  · rw [List.length_map];lia
  · rw [List.length_append,List.length_cons,List.length_nil];lia
theorem KV.any{kvs:List (κ × V)}{vs:List (κ × Value)}(r:KV kvs vs)(k:κ):(kvs.any fun kv=>decide (kv.1=k))=vs.any fun kv=>decide (kv.1=k):=by
  unfold KV at r
  induction r with
  | nil=>rfl
  | cons h t ih=>rw [List.any_cons,List.any_cons,ih,h.1]
theorem KV.repl{kvs:List (κ × V)}{vs:List (κ × Value)}(r:KV kvs vs)(k:κ){y:V}{u:Value}(ry:bw y u):
    KV (kvs.map fun kv=>if kv.1=k then(kv.1,y) else kv) (vs.map fun kv=>if kv.1=k then(kv.1,u) else kv):=by
  unfold KV at r ⊢
  induction r with
  | nil=>exact .nil
  | @cons p q ps qs h t ih=>
    rw [List.map_cons,List.map_cons]
    refine .cons ?_ ih
    obtain⟨h1,h2⟩:=h
    by_cases e:p.1=k
    · rw [if_pos e,if_pos (h1.symm.trans e)];exact⟨h1,ry⟩
    · rw [if_neg e,if_neg (fun z=>e (h1.trans z))];exact⟨h1,h2⟩
theorem KV.put{kvs:List (κ × V)}{vs:List (κ × Value)}(r:KV kvs vs)(k:κ){y:V}{u:Value}(ry:bw y u):KV (pV kvs k y) (stored vs k u):=by
  unfold pV stored
  rw [r.any k]
  by_cases e:(vs.any fun kv=>decide (kv.1=k))=true
  · rw [if_pos e,if_pos e];exact r.repl k ry
  · rw [if_neg e,if_neg e];exact Paired.snoc r ⟨rfl,ry⟩
end
theorem DV{P:Program}{w:World}{k:fM}{u:Value}(r:bw (kV k) u):(dS P w).is k u=true:=by
  cases k with
  | inl i=>obtain⟨t,e⟩:=(show ∃t,u=Value.int i t from r);subst e;exact qN P w i t
  | inr x=>obtain⟨t,e⟩:=(show ∃t,u=Value.str x t from r);subst e;exact qO P w x t
section
variable{P:Program}{w:World}{H:Hp}{h:Heap}{a:Addr}
theorem EC{u:HO}(ok:kc P w H h)(e:Rd H a u):cV P w H h a u:=e.ok ok
theorem DC{kvs:List (fM × V)}(ok:kc P w H h)(e:Rd H a (.dK kvs)):kvs.length≤sizeLine∧(a==sysModules)=false∧∃vs,KV kvs vs∧h.DictOf (dS P w) a vs:=
  show cV P w H h a (.dK kvs) from EC ok e
theorem DB{kvs:List (fM × V)}(ok:kc P w H h)(e:H a=some (.dK kvs)):kvs.length≤sizeLine∧(a==sysModules)=false∧∃vs,KV kvs vs∧h.DictOf (dS P w) a vs:=DC ok (.inl e)
end
section
variable{X:Cx}{pins:List (Addr × Obj)}{σ:St}{H:Hp}{s:Shared}{a:Addr}{y v:V}{u r:Value}{o:Option V}{A:Around}{E:Value→Shared→Prop}
theorem aA.big(I:aA X pins σ H s):sysModules < s.heap.objs.size:=by
  have h:mainGlobals < s.heap.objs.size:=(I.mod.glob.keeps I.bk).lt
  exact Nat.lt_trans (by decide) h
theorem yw{h':Heap}{t':Nat}{ob:HO}(I:aA X pins σ H s)(mu:Dj (H a))(hs:Heap.SameBut a s.heap h')(he:∃q,h'.get? a=some q)(new:cV X.prog X.w (bi H a ob) h' a ob):
    aA X pins σ (bi H a ob) {s with heap:=h',toks:=t'}:=
  I.write (x:=a) (e:=a) mu (.inl rfl) (fun b q hb z=>(hs.2 b hb).trans z) he new
theorem A8{P:Program}{w:World}{H':Hp}{h':Heap}{kvs:List (fM × V)}{vs:List (fM × Value)}(z:kvs.length≤sizeLine)(hd:(a==sysModules)=false)(rel:KV kvs vs)(dd:h'.DictOf (dS P w) a vs):
    cV P w H' h' a (.dK kvs):=⟨z,hd,vs,rel,dd⟩
end
section
variable{X:Cx}{pins:List (Addr × Obj)}{σ:St}{H:Hp}{s:Shared}{a:Addr}{kvs:List (fM × V)}{k:fM}{u:Value}{A:Around}{E:Value→Shared→Prop}
end
section
variable{X:Cx}{o i e value:Expr}{pos pos' tpos:Pos}{td ty tv:TE}
end
theorem qo{P:Program}{w:World}{H:Hp}(h:Heap)(hb:sysModules < h.objs.size):cV P w H (h.push {cls:=.type "dict",data:=.dict #[]}) h.objs.size (.dK []):=
  ⟨Nat.zero_le _,beq_eq_false_iff_ne.mpr (Ne.symm (Nat.ne_of_lt hb)),[],.nil,Heap.DictOf.new h⟩
def CP:TE:=fun _ H Q=>∀p,H p=none→Q (.ref p) (bi H p (.dK []))
section
variable{X:Cx}{pos:Pos}
theorem wZ:PE X (.Dict [] [] pos) CP:=fun pins s σ H Q I h=>
  wpAny_Dict_empty ⟨.ref s.heap.objs.size,_,I.laid (a:=s.heap.objs.size) (o:=.dK []) (t':=s.toks) (fun _ _ q=>Heap.get?_push_of_some _ q) (Nat.le_refl _) (qo s.heap I.big),rfl,h _ (I.hok.fresh (Nat.le_refl _))⟩
end
def p4:List (TE × TE)→St→Hp→(List (V × V)→Hp→Prop)→Prop
  | [],_,H,Q=>Q [] H
  | (tk,tv)::r,σ,H,Q=>tk σ H fun x H1=>tv σ H1 fun y H2=>p4 r σ H2 fun ps H3=>Q ((x,y)::ps) H3
abbrev VV:List (V × V)→List (Value × Value)→Prop:=Paired fun p q=>bw p.1 q.1∧bw p.2 q.2
def Fg(X:Cx)(pos:Pos)(keys:List (Option Expr))(values:List Expr)(trs:List (TE × TE)):Prop:=
  ∀(pins:List (Addr × Obj)) (s:Shared) (σ:St) (H:Hp) (Q:List (V × V)→Hp→Prop),aA X pins σ H s→p4 trs σ H Q→
    wpAny (model X.prog X.w) X.A (evalPairs (pairTrees keys values X.env pos)) (fun vs s'=>∃ps H',aA X pins σ H' s'∧VV ps vs∧Q ps H') X.xe s
theorem zv{X:Cx}{pos:Pos}:Fg X pos [] [] []:=fun pins s σ H Q I h=>pairTrees_nil_walk ⟨[],H,I,.nil,h⟩
theorem xl{X:Cx}{pos:Pos}{k v:Expr}{ks:List (Option Expr)}{vs:List Expr}{tk tv:TE}{trs:List (TE × TE)}(hk:PE X k tk)(hv:PE X v tv)(hr:Fg X pos ks vs trs):
    Fg X pos (some k::ks) (v::vs) ((tk,tv)::trs):=fun pins s σ H Q I h=>
  pairTrees_cons_walk (cC (hk pins s σ H _ I h) fun u s1 ⟨x,H1,I1,rx,q1⟩=>cC (hv pins s1 σ H1 _ I1 q1) fun w2 s2 ⟨y,H2,I2,ry,q2⟩=>
    cC (hr pins s2 σ H2 _ I2 q2) fun ws s3 ⟨ps,H3,I3,rel,q3⟩=>⟨(x,y)::ps,H3,I3,.cons ⟨rx,ry⟩ rel,q3⟩)
def iR(kvs more:List (fM × V)):List (fM × V):=more.foldl (fun acc kv=>pV acc kv.1 kv.2) kvs
theorem KV.merge:∀{more:List (fM × V)} {rs:List (fM × Value)} {kvs:List (fM × V)} {vs:List (fM × Value)},KV more rs→KV kvs vs→KV (iR kvs more) (merged vs rs):=by
  intro more rs kvs vs r
  unfold KV at r
  induction r generalizing kvs vs with
  | nil=>intro q;exact q
  | @cons p q ps qs h t ih=>
    intro r0
    have e:KV (pV kvs p.1 p.2) (stored vs q.1 q.2):=by
      have:=r0.put p.1 h.2
      rw [←h.1];exact this
    exact ih e
theorem jq:∀(more kvs:List (fM × V)),(iR kvs more).length≤kvs.length+more.length
  | [],kvs=>by show kvs.length≤kvs.length+0;lia
  | p::r,kvs=>by
    have h1:=jq r (pV kvs p.1 p.2)
    have h2:=qH kvs p.1 p.2
    show(iR (pV kvs p.1 p.2) r).length≤_
    rw [List.length_cons];lia
theorem mq{P:Program}{w:World}:∀{kvs:List (fM × V)} {ws:List (Value × Value)},VV (kvs.map fun kv=>(kV kv.1,kv.2)) ws→∃rs,Carries (dS P w) ws rs∧KV kvs rs
  | [],_,r=>by rw [List.map_nil] at r;cases r;exact⟨[],True.intro,.nil⟩
  | p::kvs,_,r=>by
    rw [List.map_cons] at r
    cases r with
    | @cons a b as bs h t=>
      obtain⟨rs,c,q⟩:=mq (P:=P) (w:=w) t
      obtain⟨b1,b2⟩:=b
      exact⟨(p.1,b2)::rs,⟨DV h.1,rfl,c⟩,.cons ⟨rfl,h.2⟩ q⟩
def EN(trs:List (TE × TE)):TE:=fun σ H Q=>∀p,H p=none→p4 trs σ (bi H p (.dK [])) fun ps H2=>H2 p=some (.dK [])∧∃kvs:List (fM × V),ps=kvs.map (fun kv=>(kV kv.1,kv.2))∧kvs.length≤15∧Q (.ref p) (bi H2 p (.dK (iR [] kvs)))
theorem zh{X:Cx}{pos:Pos}{keys:List (Option Expr)}{values:List Expr}{trs:List (TE × TE)}(h:Fg X pos keys values trs)(hall:keys.all (·.isSome)=true)(hl:keys.length=values.length)(h0:keys≠[])
    (h15:keys.length≤15):PE X (.Dict keys values pos) (EN trs):=by
  intro pins s σ H Q I q
  have hn:=I.hok.fresh (Nat.le_refl s.heap.objs.size)
  have I1:=I.laid (a:=s.heap.objs.size) (o:=.dK []) (h':=s.heap.push {cls:=.type "dict",data:=.dict #[]}) (t':=s.toks) (fun _ _ q=>Heap.get?_push_of_some _ q) (Nat.le_refl _) (qo s.heap I.big)
  refine wpAny_Dict_walk (knd:=dS X.prog X.w) hall hl h0 h15 (cC (h pins _ σ _ _ I1 (q _ hn)) fun ws s2 ⟨ps,H2,I2,rel,e,kvs,ep,lk,q2⟩=>?_)
  subst ep
  obtain⟨rs,c,rk⟩:=mq (P:=X.prog) (w:=X.w) rel
  obtain⟨z,hd,vs0,r0,dd⟩:=DB I2.hok e
  cases r0
  refine⟨rs,c,dd,fun h' dd' hs=>⟨.ref s.heap.objs.size,_,?_,rfl,q2⟩⟩
  have hz:(iR [] kvs).length≤sizeLine:=by
    have h1:=jq kvs []
    rw [List.length_nil] at h1
    rw [sizeLine_eq];lia
  have he:∃q,h'.get? s.heap.objs.size=some q:=let ⟨q,_,_,hq,_⟩:=dd';⟨q,hq⟩
  exact yw I2 (by rw [e];exact True.intro) hs he (A8 hz hd (rk.merge .nil) dd')
section
variable{X:Cx}{pins:List (Addr × Obj)}{σ:St}{H:Hp}{s:Shared}{a:Addr}{y d:V}{u r:Value}{o:Option V}{A:Around}{E:Value→Shared→Prop}
end
section
variable{X:Cx}{o e f:Expr}{apos cpos:Pos}{td ty tx:TE}
end
section
variable{X:Cx}{pins:List (Addr × Obj)}{σ:St}{H:Hp}{s:Shared}{a:Addr}{kvs:List (fM × V)}{A:Around}{E:Value→Shared→Prop}
end
section
variable{X:Cx}{pins:List (Addr × Obj)}{σ:St}{H:Hp}{s:Shared}{a:Addr}{y:V}{u:Value}{A:Around}{E:Value→Shared→Prop}
end
end L2
namespace Att
open PySem PySem.W PySem.Calls PyProof.Rows
section
variable{prog:Program}{w:World}{A:Around}{E:Value→Shared→Prop}{s:Shared}{K:Frag}
end
end Att
namespace L2
open PySem PySem.Spec PyProof.Rows
end L2
namespace L2
open PySem PySem.Spec PyProof.Rows
end L2
namespace L2
open PySem PySem.Spec PyProof.Rows
section
variable{P:Program}{w:World}{K:PySem.W.Frag}{mg:Str→Option Value}{base:Heap}
end
section
variable{X:Cx}
end
section
variable{κ:Type}[DecidableEq κ]
end
end L2
namespace L2
open PySem PySem.Spec PyProof.Rows
def Fc:PyData→String
  | .none=>"NoneType"
  | .bool _=>"bool"
  | .int _=>"int"
  | .str _=>"str"
  | .tuple _=>"tuple"
  | .list _=>"list"
  | .dict _=>"dict"
def CO(t T:String):Bool:=t==T || (t=="bool"&&T=="int")
def DR(T:String)(d:PyData):Bool:=CO (Fc d) T
def jO(T:String):En→Rv→Option Rv:=fun _ r=>match r with
  | .d x=>some (.d (.bool (DR T x)))
  | _=>some (.d (.bool (DR T (.list []))))
section
variable{X:Cx}{K:PySem.W.Frag}{a:Expr}{fa:FE}{pos p p2:Pos}
def FL(K:PySem.W.Frag)(H:Hp):V→String→Prop
  | .non,t=>t="NoneType"
  | .bl _,t=>t="bool"
  | .int _,t=>t="int"
  | .str _,t=>t="str"
  | .ref a,t=>(t="tuple"∧∃xs,bX K H a xs)∨(t="list"∧∃xs,cT K H a xs)∨(t="dict"∧∃m,H a=some (.dK m))
  | _,_=>False
theorem vS{T:String}:cU X (.builtin "isinstance") (fun xs H Q=>∃x t b,xs=[x,.ty T]∧FL X.K H x t∧PySem.W.kitOne X.K (.type t) (.type T)=some b∧Q (.bl b) H):=by
  intro pins s σ H xs us Q I r h
  obtain⟨x,t,b,rfl,ht,hk,q⟩:=h
  obtain⟨u1,u2,rfl,r1,r2⟩:∃u1 u2,us=[u1,u2]∧bw x u1∧bw (.ty T) u2:=by
    cases r with
    | cons p q=>cases q with
      | cons p' q'=>cases q';exact⟨_,_,rfl,p,p'⟩
  cases r2
  have q':∀tk,EP X pins σ Q (.bool b) {s with toks:=tk}:=fun tk=>⟨.bl b,H,I.tok _,rfl,q⟩
  cases x with
  | non=>cases (show u1=Value.none from r1);cases (show t=_ from ht);exact PySem.W.kia_one PySem.W.kitx_none I.kIn True.intro hk (fun z=>nomatch z) q'
  | bl y=>cases (show u1=Value.bool y from r1);cases (show t=_ from ht);exact PySem.W.kia_one PySem.W.kitx_bool I.kIn True.intro hk (fun z=>nomatch z) q'
  | int i=>obtain⟨tt,rfl⟩:=r1;cases (show t=_ from ht);exact PySem.W.kia_one PySem.W.kitx_int I.kIn True.intro hk (fun z=>nomatch z) q'
  | str y=>obtain⟨tt,rfl⟩:=r1;cases (show t=_ from ht);exact PySem.W.kia_one PySem.W.kitx_str I.kIn True.intro hk (fun z=>nomatch z) q'
  | ref a=>
    cases (show u1=Value.ref a from r1)
    rcases ht with ⟨rfl,xs,hs⟩ | ⟨rfl,xs,hs⟩ | ⟨rfl,m,hs⟩
    · obtain⟨its,rv,pl,hz⟩:=I.tuple hs
      obtain⟨o,h1,h2⟩:=pl.typeIs
      exact PySem.W.kia_one PySem.W.kitx_tuple I.kIn ⟨o,h1,h2⟩ hk (fun z=>nomatch z) q'
    · obtain⟨its,rv,pl,hz⟩:=I.list hs
      obtain⟨o,h1,h2⟩:=pl.isList.typeIs
      exact PySem.W.kia_one PySem.W.kitx_list I.kIn ⟨o,h1,h2⟩ hk (fun z=>nomatch z) q'
    · obtain⟨_,_,vs,_,pp⟩:=(show cV X.prog X.w H s.heap a (.dK m) from I.hok a _ hs)
      obtain⟨o,es,ep,h1,h2,_⟩:=pp
      exact PySem.W.kia_one PySem.W.kitx_dict I.kIn ⟨o,h1,h2.1⟩ hk (fun z=>nomatch z) q'
  | _=>exact False.elim ht
theorem xa{x:Str}{T:String}(hg:Gl X x)(hm:X.mg x=none)(hv:bootBuiltins x=some (.type T))(hn:x≠"__name__")(hd:(x==("__debug__":Str))=false):PE X (.Name x pos) (tC (.ty T)):=fun pins s σ H Q I h=>
  gj I hg hm hv ⟨.ty T,H,I,rfl,h⟩ hn hd
theorem Bv{t T:String}(ht:t∈["NoneType","bool","int","str","tuple","list","dict"])(hT:T∈["int","bool","tuple","str"]):PySem.W.kitOne K (.type t) (.type T)=some (CO t T):=by
  simp only [List.mem_cons,List.not_mem_nil,or_false] at ht hT
  rcases ht with rfl | rfl | rfl | rfl | rfl | rfl | rfl<;>rcases hT with rfl | rfl | rfl | rfl<;>rfl
theorem zZ(d:PyData):Fc d∈["NoneType","bool","int","str","tuple","list","dict"]:=by cases d<;>simp [Fc]
theorem C1{F H:Hp}{d:PyData}{v:V}(h:DA K F d v)(s:au F H):FL K H v (Fc d):=by
  have h:=DA.mono s h
  cases d with
  | none=>rw [gX.mp h];rfl
  | bool b=>rw [c_.mp h];rfl
  | int b=>rw [df.mp h];rfl
  | str b=>rw [pw.mp h];rfl
  | tuple ds=>obtain⟨a,xs,rfl,h1,_⟩:=cP.mp h;exact .inl ⟨rfl,xs,h1⟩
  | list ds=>obtain⟨a,xs,rfl,h1,_⟩:=dg.mp h;exact .inr (.inl ⟨rfl,xs,h1⟩)
  | dict m=>simp only [DA] at h;obtain⟨a,m,rfl,h1,_⟩:=h;exact .inr (.inr ⟨rfl,_,h1⟩)
theorem tG{f:FE}{σ:L2.St}{H:Hp}{Q Q':VK}(h:fE K f σ H Q)(m:∀v H1,Q v H1→Q' v H1):fE K f σ H Q':=by
  obtain⟨F,e,r,e',R,hf,q⟩:=h
  exact⟨F,e,r,e',R,hf,fun F' H' v x R' A=>m _ _ (q F' H' v x R' A)⟩
theorem DS{T:String}:C' K (fun v H Q=>∃t,t∈["NoneType","bool","int","str","tuple","list","dict"]∧FL K H v t∧Q (.bl (CO t T)) H) (jO T):=by
  intro σ H0 F H e x z v Q R A hg q
  unfold jO at hg
  cases x with
  | d d=>
    cases hg
    exact⟨Fc d,zZ d,C1 A R.sm,q F H _ (dH.refl _ _ _ _) R cz⟩
  | l xs=>
    cases hg
    obtain⟨l,vs,rfl,h1,h2,h3,h4⟩:=A
    exact⟨"list",by simp,.inr (.inl ⟨rfl,vs,cT.of h3⟩),q F H _ (dH.refl _ _ _ _) R cz⟩
  | s i=>
    cases hg
    obtain⟨h1,xs,h2⟩:=A
    obtain⟨l,vs,h3,h4,h5,h6⟩:=R.own i xs h2
    rw [h1] at h3;cases h3
    exact⟨"list",by simp,.inr (.inl ⟨rfl,vs,cT.of h5⟩),q F H _ (dH.refl _ _ _ _) R cz⟩
theorem lw{x:Str}{T:String}(hK:X.K=K)(hT:T∈["int","bool","tuple","str"])(hg:Gl X "isinstance")(hm:X.mg "isinstance"=none)(hgT:Gl X x)(hmT:X.mg x=none)(GG:bootBuiltins x=some (.type T))(hn:x≠"__name__")(hd:(x==("__debug__":Str))=false)
    (ha:PE X a (fE K fa))(he:starEach [a,.Name x p2] X.env=(false,eval a X.env)::starEach [.Name x p2] X.env)(hpl:(backTo pos (starEach [.Name x p2] X.env)).any (·.1)=false):
    PE X (.Call (.Name "isinstance" p) [a,.Name x p2] [] pos) (fE K (kO (jO T) fa)):=
  (mU (vS (T:=T)) hg hm boot_isinstance (jU ha (jU (xa hgT hmT GG hn hd) pU) he) (by decide) (by decide) he hpl).mono fun σ H Q h=>by
    subst hK
    have h1:=sQ (DS (T:=T)) h
    refine tG h1 fun v H1 ⟨t,ht,k,q⟩=>?_
    exact⟨v,t,_,rfl,k,Bv ht hT,q⟩
end
end L2
namespace L2
open PySem PySem.Spec PyProof.Rows
section
variable{X:Cx}{K:PySem.W.Frag}
end
end L2
namespace L2
open PySem PySem.Spec PyProof.Rows
section
variable{X:Cx}{K:PySem.W.Frag}{σ:L2.St}{F H:Hp}{e:En}{pos p1 p2:Pos}
theorem a9.newD(R:a9 K F H σ e){p:Addr}{m:List (fM × V)}(hp:H p=none):a9 K (bi F p (.dK m)) (bi H p (.dK m)) σ e∧dH σ F H e (bi F p (.dK m)) (bi H p (.dK m)) e:=by
  have hF:=R.freeF hp
  obtain⟨R1,X1⟩:=R.same (au.new hp (o:=.dK m))
  obtain⟨R2,s2⟩:=R1.freeze (p:=p) hF aw (R1.notOwn aw (fun _ z=>nomatch z))
  refine⟨R2,⟨s2,X1.dom,fun a ws h n _=>?_,X1.lst,X1.tmp,X1.shp,X1.ow,fun a ws h n _=>?_⟩⟩
  all_goals
    have z:a≠p:=fun z=>by rw [z,hp] at n;cases n
    rw [aH z];exact h
def nB(m:List (Int × Int)):FE:=fun e=>some (.d (.dict (m.map fun p=>(PyData.int p.1,PyData.int p.2))),e)
theorem qY:PE X (.Dict [] [] pos) (fE K (nB [])):=wZ.mono fun σ H Q h=>by
  obtain⟨F,e,z,e2,R,hf,q⟩:=h
  cases hf
  intro p hp
  obtain⟨R3,X3⟩:=R.newD (m:=[]) hp
  exact q _ _ _ X3 R3 (by simp only [bS,DA];exact⟨p,[],rfl,aw,rfl⟩)
theorem xx{i j:Int}{k1 k2}:PE X (.Dict [some (.Constant (.int i) k1 p1)] [.Constant (.int j) k2 p2] pos) (fE K (nB [(i,j)])):=
  (zh (xl (@sr X i k1 p1) (@sr X j k2 p2) zv) rfl rfl (by simp) (by simp)).mono fun σ H Q h=>by
  obtain⟨F,e,z,e2,R,hf,q⟩:=h
  cases hf
  intro p hp
  refine⟨aw,[(Sum.inl i,.int j)],rfl,by simp,?_⟩
  have e1:bi (bi H p (.dK [])) p (.dK (iR [] [((Sum.inl i:fM),V.int j)]))=bi H p (.dK (iR [] [((Sum.inl i:fM),V.int j)])):=by
    funext a;by_cases h:a=p
    · subst h;rw [aw,aw]
    · rw [aH h,aH h,aH h]
  rw [e1]
  obtain⟨R3,X3⟩:=R.newD (m:=iR [] [((Sum.inl i:fM),V.int j)]) hp
  exact q _ _ _ X3 R3 (by simp only [bS,DA];exact⟨p,[(i,.vi j)],rfl,aw,rfl⟩)
end
end L2
namespace L2
open PySem PySem.Spec PyProof.Rows
section
variable{X:Cx}{K:PySem.W.Frag}{a b c d:Expr}{ta tb tc td:TE}{fa fb fc fd:FE}{pos:Pos}
end
end L2
namespace L2
open PySem PySem.Spec PyProof.Rows
section
variable{X:Cx}{K:PySem.W.Frag}{a b:Expr}{es:List Expr}{fa fb:FE}{fs:FA}{pos p apos:Pos}
end
end L2
namespace L2
open PySem PySem.Spec PyProof.Rows
section
variable{X:Cx}{K:PySem.W.Frag}{a b:Expr}{fa fb:FE}{fs:FA}{pos p p2 p3:Pos}
end
end L2
namespace L2
open PySem PySem.Spec PyProof.Rows
def bq(W:aY)(as:List Int):Int:=bp W (W.rng.filter fun k=> !as.contains k)
def wI(l:Nat):Int:=1000*(2 ^ (16 - l) - 1)
structure GN (W:aY) (k:Int) (as:List Int) (y n:Fr):Prop where
  y:Fj (bq W (aY.askd as k)) (wI (as.length+1)) y
  n:Fj (bq W (aY.askd as k)) (wI (as.length+1)) n
  len:as.length≤15
  inw:ka W k
  new:k∉as
def lk(ws:List Fr)(l:Int):Fr:=if l= -1 then(0,1) else ws.getD l.toNat (0,1)
structure GZ (W:aY) (S:Nat→Std) (n:Nat) (ws:List Fr):Prop where
  len:ws.length=n
  at':∀(j:Nat) (f:Fr),ws[j]?=some f→Fj (bq W (S j).1) (wI (S j).1.length) f
theorem Sz.int10{n m:Nat}{k:Int}(hb:Bt m k)(m0:0 < m)(m1:m≤1900)(h:k.natAbs < 10 ^ n)(h0:0 < n):Sz (n+1) 2 (.int k):=by
  refine⟨rfl,?_,by simp [PyData.depth],?_,c8 _⟩
  · show decide (k.natAbs.log2 < 1920)=true
    rw [decide_eq_true_eq]
    have:=hb.log m0
    lia
  · have:=int_text_length_le10 h0 h
    show(Str.ofString (toString k)).length≤n+1
    rw [PySem.ofString_length];exact this
end L2
namespace L2
open PySem PySem.Spec PyProof.Rows
theorem oV{x:Str}(h:PyData.strOk x=true):∀c∈x.cps.toList,c < 1114112:=by
  intro c hc
  unfold PyData.strOk at h
  rw [Array.all_eq_true'] at h
  have:=h c (by simpa using hc)
  simpa using this
theorem xW{l:Array Nat}(h:∀c∈l.toList,c < 1114112):PyData.strOk ⟨l⟩=true:=by
  unfold PyData.strOk
  rw [Array.all_eq_true']
  intro c hc
  simpa using h c (by simpa using hc)
theorem yt(c:Char):c.toNat < 1114112:=by
  have:=c.valid
  unfold UInt32.isValidChar Nat.isValidChar at this
  show c.val.toNat < _
  lia
open PySem.Builtin.Str in
theorem q5{q c:Nat}(hc:c < 1114112):∀d∈reprChar q c,d < 1114112:=by
  intro d hd
  unfold reprChar at hd
  have hx:∀w:Nat,∀d∈(List.replicate (w - ((Nat.toDigits 16 c).map Char.toNat).length) 48++(Nat.toDigits 16 c).map Char.toNat),d < 1114112:=by
    intro w d hd
    rcases List.mem_append.mp hd with h | h
    · have:=List.eq_of_mem_replicate h;lia
    · obtain⟨ch,_,rfl⟩:=List.mem_map.mp h;exact yt ch
  dsimp only at hd
  split at hd
  · simp only [List.mem_cons,List.not_mem_nil,or_false] at hd;lia
  split at hd
  · simp only [List.mem_cons,List.not_mem_nil,or_false] at hd;lia
  split at hd
  · simp only [List.mem_cons,List.not_mem_nil,or_false] at hd;lia
  split at hd
  · simp only [List.mem_cons,List.not_mem_nil,or_false] at hd;lia
  split at hd
  · simp only [List.mem_cons,List.not_mem_nil,or_false] at hd;lia
  split at hd
  · rcases List.mem_append.mp hd with h | h
    · simp only [List.mem_cons,List.not_mem_nil,or_false] at h;lia
    · exact hx 2 d h
  split at hd
  · rcases List.mem_append.mp hd with h | h
    · simp only [List.mem_cons,List.not_mem_nil,or_false] at h;lia
    · exact hx 4 d h
  · rcases List.mem_append.mp hd with h | h
    · simp only [List.mem_cons,List.not_mem_nil,or_false] at h;lia
    · exact hx 8 d h
open PySem.Builtin.Str in
theorem oK{q:Nat}:∀(l:List Nat) (acc:Array Nat),(∀c∈l,c < 1114112)→(∀c∈acc.toList,c < 1114112)→∀c∈(l.foldl (fun out c=>out++(reprChar q c).toArray) acc).toList,c < 1114112
  | [],acc,_,h=>h
  | x::r,acc,h1,h2=>oK r _ (fun c hc=>h1 c (by simp [hc])) fun c hc=>by
    simp only [Array.toList_append,List.mem_append] at hc
    rcases hc with hc | hc
    · exact h2 c hc
    · exact q5 (h1 x (by simp)) c hc
theorem q_{x:Str}(h:PyData.strOk x=true):PyData.strOk (reprText x)=true:=by
  unfold reprText
  refine xW fun c hc=>?_
  have hq:reprQuote x < 1114112:=by unfold reprQuote;split<;>lia
  rw [Array.toList_push] at hc
  rcases List.mem_append.mp hc with hc | hc
  · rw [←Array.foldl_toList] at hc
    exact oK _ _ (oV h) (fun c hc=>by simp at hc;lia) c hc
  · simp at hc;lia
theorem Sz.str{x:Str}{n:Nat}(h:PyData.strOk x=true)(hl:x.length≤n):Sz (10*n+2) 2 (.str x):=by
  refine⟨rfl,rfl,by simp [PyData.depth],?_,q_ h⟩
  have:=PySem.StrLaws.reprText_len x fun c hc=>Nat.lt_of_lt_of_le (oV h c hc) (by decide)
  show(reprText x).length≤_
  lia
end L2
namespace L2
open PySem PySem.Spec PyProof.Rows
section
variable{X:Cx}{K:PySem.W.Frag}{a:Expr}{fa:FE}{pos p pos2 p2:Pos}
def p8(ns:List Int):List Int:=ns.foldl step_dedup []
theorem lg(ns:List Int):firstMet (fun i=>ns.getD i 0) ns.length=p8 ns:=by
  unfold firstMet p8
  congr 1
  refine List.ext_getElem (by simp) fun i h1 h2=>?_
  simp at h1
  simp [h1]
theorem rm:isSubtype (.type "tuple") (.type "set")=pure false:=by rw [isSubtype_type];kernel_rfl
theorem nu:isSubtype (.type "tuple") (.type "frozenset")=pure false:=by rw [isSubtype_type];kernel_rfl
theorem rS(ns:List Int):(p8 ns).length≤ns.length:=by
  have:=firstMet_length_le (fun i=>ns.getD i 0) ns.length
  rw [lg] at this
  exact this
end
end L2
namespace L2
open PySem PySem.Spec PyProof.Rows
section
variable{X:Cx}{K:PySem.W.Frag}{a:Expr}{fa:FE}
end
end L2
namespace L2
open PySem PySem.Spec PyProof.Rows
abbrev Rn:=List (Int × Bool)
def jN(R:Rn):List Int:=R.map (·.1)
def jn(W:aY)(R:Rn):List Int:=(R.filter (·.2)).flatMap fun r=>[(W.tie r.1).one,(W.tie r.1).other]
theorem mw(W:aY)(R:Rn)(k:Int)(b:Bool):jn W (R++[(k,b)])=jn W R++(if b=true then [(W.tie k).one,(W.tie k).other] else []):=by
  unfold jn
  cases b<;>simp [List.filter_append]
theorem kn{W:aY}{a b:List Int}(h:a.Perm b)(t:Int):W.many a t=W.many b t:=by
  unfold aY.many
  rw [(h.filter _).length_eq]
theorem oE{W:aY}{a:List Int}{k t:Int}:W.many (a++[k]) t=W.many a t+(if W.has k t=true then 1 else 0):=by
  unfold aY.many
  rw [List.filter_append]
  by_cases c:W.has k t=true
  · simp [c]
  · simp [c]
theorem ic(ns:List Int):(ci ns).Pairwise (· ≤·):=by
  have:=List.pairwise_mergeSort (le:=fun a b:Int=>decide (a≤b)) (fun a b c h1 h2=>by simp at*;lia) (fun a b=>by simp;lia) ns
  exact this.imp (by simp)
structure io (W:aY) (R:Rn) (asked taken:List Int):Prop where
  pa:asked.Perm (jN R)
  pt:taken.Perm (jn W R)
  inw:∀k∈jN R,ka W k
  nd:(jN R).Nodup
  nk:(jn W R).Nodup
  bd:∀t:Int,0≤t→t < W.things→W.many (jN R) t≤W.pat.getD t.toNat 0
  ak:(R.length:Int)≤W.asks
  sa:asked.Pairwise (· ≤·)
  st:taken.Pairwise (· ≤·)
theorem qM{W:aY}{t:Int}:W.many [] t=0:=rfl
theorem io.first{W:aY}(ok:W.Ok):io W [] [] []:=by
  refine⟨.refl _,.refl _,fun k h=>(by cases h),List.nodup_nil,List.nodup_nil,fun t h0 h1=>?_,ok.a0,List.Pairwise.nil,List.Pairwise.nil⟩
  show W.many [] t≤_
  rw [qM]
  have hp:=ok.pl
  have hl:t.toNat < W.pat.length:=by lia
  have:=ok.pat (W.pat[t.toNat]) (List.getElem_mem hl)
  rw [List.getD_eq_getElem?_getD,List.getElem?_eq_getElem hl]
  exact this.1
theorem i7{W:aY}{k t:Int}:W.has k t=true↔ (W.tie k).one=t∨(W.tie k).other=t:=by
  unfold aY.has;simp
theorem io.more{W:aY}(ok:W.Ok){R:Rn}{asked taken:List Int}(h:io W R asked taken){k:Int}(hk:ka W k)(hm:W.may asked taken k=true)(b:Bool):io W (R++[(k,b)]) (aY.askd asked k) (W.took taken k b):=by
  have o:=hk.ok ok
  have o0:=o.o0;have o1:=o.o1;have o2:=o.o2
  unfold aY.may at hm
  simp only [Bool.and_eq_true,Bool.not_eq_true',Bool.or_eq_false_iff,decide_eq_false_iff_not] at hm
  obtain⟨⟨m1,m2⟩,m3,m4⟩:=hm
  unfold aY.bears at m3 m4
  simp only [Bool.and_eq_true,Bool.not_eq_true',decide_eq_true_eq] at m3 m4
  have m1':k∉jN R:=fun z=>by
    have:k∈asked:=h.pa.mem_iff.mpr z
    simp [this] at m1
  have e1:jN (R++[(k,b)])=jN R++[k]:=by simp [jN]
  have la:asked.length=R.length:=by rw [h.pa.length_eq];simp [jN]
  refine⟨?_,?_,?_,?_,?_,?_,?_,ic _,?_⟩
  · rw [e1];exact(en _).trans (h.pa.append_right _)
  · rw [mw]
    unfold aY.took
    cases b with
    | true=>simp only [if_true];exact(en _).trans (h.pt.append_right _)
    | false=>simp only [Bool.false_eq_true,if_false,List.append_nil];exact h.pt
  · rw [e1]
    intro j hj
    rcases List.mem_append.mp hj with z | z
    · exact h.inw j z
    · simp at z;rw [z];exact hk
  · rw [e1,List.nodup_append]
    refine⟨h.nd,by simp,fun a ha c hc=>?_⟩
    simp at hc
    rintro rfl
    exact m1' (hc ▸ ha)
  · rw [mw]
    cases b with
    | false=>simpa using h.nk
    | true=>
      simp only [if_true]
      rw [List.nodup_append]
      refine⟨h.nk,by simp;lia,fun a ha c hc=>?_⟩
      have ha':a∈taken:=h.pt.mem_iff.mpr ha
      simp at hc
      rintro rfl
      rcases hc with rfl | rfl
      · simp [ha'] at m3
      · simp [ha'] at m4
  · intro t h0 h1
    rw [e1,oE]
    have b0:=h.bd t h0 h1
    have q:=kn (W:=W) h.pa t
    split
    case isTrue c=>
      rcases i7.mp c with rfl | rfl
      · have:=m3.2;lia
      · have:=m4.2;lia
    case isFalse c=>lia
  · simp only [List.length_append,List.length_cons,List.length_nil]
    lia
  · unfold aY.took
    split
    · exact ic _
    · exact h.st
theorem oq{W:aY}{R:Rn}{t:Int}(h:t∈jn W R):∃k∈jN R,W.has k t=true:=by
  unfold jn at h
  simp only [List.mem_flatMap,List.mem_filter] at h
  obtain⟨r,⟨h1,_⟩,h2⟩:=h
  refine⟨r.1,List.mem_map_of_mem h1,i7.mpr ?_⟩
  simp at h2
  rcases h2 with rfl | rfl
  · exact .inl rfl
  · exact .inr rfl
theorem ur{W:aY}{R:Rn}:(jn W R).length=2*(R.filter (·.2)).length:=by
  unfold jn
  induction R.filter (·.2) with
  | nil=>rfl
  | cons a r ih=>simp only [List.flatMap_cons,List.length_append,ih,List.length_cons,List.length_nil];lia
theorem io.len{W:aY}{R:Rn}{asked taken:List Int}(h:io W R asked taken):R.length≤W.ties.length:=by
  have:=eQ W.ties.length (jN R) h.nd fun k hk=>h.inw k hk
  simpa [jN] using this
theorem io.alen{W:aY}{R:Rn}{asked taken:List Int}(h:io W R asked taken):asked.length=R.length:=by rw [h.pa.length_eq];simp [jN]
theorem io.ends{W:aY}(ok:W.Ok){R:Rn}{asked taken:List Int}(h:io W R asked taken):∀t∈jn W R,0≤t∧t < W.things:=fun t ht=>by
  obtain⟨k,h1,h2⟩:=oq ht
  have o:=(h.inw k h1).ok ok
  have:=o.o0;have:=o.o1;have:=o.o2
  rcases i7.mp h2 with rfl | rfl<;>lia
theorem io.tlen{W:aY}(ok:W.Ok){R:Rn}{asked taken:List Int}(h:io W R asked taken):taken.length≤12:=by
  rw [h.pt.length_eq]
  exact eQ 12 _ h.nk fun t ht=>by have:=h.ends ok t ht;have:=ok.t1;lia
def cI(W:aY)(l:List Int):List Int:=(List.range W.things.toNat).map fun t:Nat=>W.many l (t:Int)
theorem ke{W:aY}{l:List Int}:(cI W l).length=W.things.toNat:=by simp [cI]
theorem tj{W:aY}{l:List Int}{t:Int}(h0:0≤t)(h1:t < W.things):(cI W l).getD t.toNat 0=W.many l t:=by
  have:t.toNat < W.things.toNat:=by lia
  simp [cI,List.getD_eq_getElem?_getD,List.getElem?_range this]
  congr 1;lia
theorem AY{W:aY}:cI W []=List.replicate W.things.toNat 0:=by
  unfold cI
  refine List.ext_getElem (by simp) fun i h1 h2=>?_
  simp [qM]
theorem yp{W:aY}{l:List Int}{k:Int}(o:(W.tie k).Ok W.things):cI W (l++[k])=((cI W l).set (W.tie k).one.toNat (W.many l (W.tie k).one+1)).set (W.tie k).other.toNat (W.many l (W.tie k).other+1):=by
  have o0:=o.o0;have o1:=o.o1;have o2:=o.o2
  refine List.ext_getElem (by simp [cI]) fun i h1 h2=>?_
  rw [List.getElem_set,List.getElem_set]
  have hi:i < W.things.toNat:=by simpa [cI] using h1
  simp only [cI,List.getElem_map,List.getElem_range,oE]
  by_cases c1:(W.tie k).other.toNat=i
  · have e:(W.tie k).other=(i:Int):=by lia
    rw [if_pos c1,←e,if_pos (i7.mpr (.inr rfl))]
  · rw [if_neg c1]
    by_cases c2:(W.tie k).one.toNat=i
    · have e:(W.tie k).one=(i:Int):=by lia
      rw [if_pos c2,←e,if_pos (i7.mpr (.inl rfl))]
    · rw [if_neg c2,if_neg (fun z=>by rcases i7.mp z with z | z<;>lia)]
      lia
end L2
namespace L2
open PySem PySem.Spec PyProof.Rows
section
variable{prog:Program}{w:World}{A:Around}{R:Result→Shared→Prop}
end
def CQ(l:Addr)(wi:TI)(g:TG)(tc:TT)(te:TE)(σ:L2.St)(H:Hp)(N:L2.St→Hp→Prop):Prop:=
  wi σ H fun J H1=>∃W:Nat→Nat→L2.St→Hp→Prop,(∃m,W 0 m σ H1)∧∀i m σ' H',W i m σ' H'→
    (J.stop i H'∧N σ' H')∨(J.go i H'∧∃N2:L2.St→Hp→Prop,(∀σ2 H2,N2 σ2 H2→∃m',m' < m∧W (i+1) m' σ2 H2)∧
      ∀x H2,J.yld i H' x H2→g x σ' H2 fun σ2 H3=>tc σ2 H3 fun b H4=>if b=true then te σ2 H4 fun v H5=>∃ys,H5 l=some (.lst ys)∧ys.length < sizeLine∧N2 σ2 (bi H5 l (.lst (ys++[v]))) else N2 σ2 H4)
structure Gj (cp:List (Nat × Str)) (nT:Nat) (wi:TI) (g:TG) (tc:TT) (wi2:TI) (g2:TG) (tc2:TT) (te:TE) (σ:L2.St) (H:Hp) (Q:VK):Prop where
  go:wi σ H fun J H1=>∀l,H1 l=none→
  ∃W:Nat→Nat→L2.St→Hp→Prop,(∃m,W 0 m (iX cp nT σ) (bi H1 l (.lst [])))∧∀i m σ' H',W i m σ' H'→
    (J.stop i H'∧Q (.ref l) H')∨(J.go i H'∧∃N:L2.St→Hp→Prop,(∀σ2 H2,N σ2 H2→∃m',m' < m∧W (i+1) m' σ2 H2)∧
      ∀x H2,J.yld i H' x H2→g x σ' H2 fun σ2 H3=>tc σ2 H3 fun b H4=>if b=true then CQ l wi2 g2 tc2 te σ2 H4 N else N σ2 H4)
section
variable{K:PySem.W.Frag}{F H:Hp}{σ:L2.St}{e:En}{cp:List (Nat × Str)}{nT:Nat}
end
section
variable{X:Cx}{K:PySem.W.Frag}{pos:Pos}
end
section
variable{X:Cx}{K:PySem.W.Frag}{pos:Pos}
variable{o:Expr}{fo:FE}{apos cpos:Pos}
end
end L2
namespace L2
open PySem PySem.Spec PyProof.Rows
section
variable{X:Cx}{K:PySem.W.Frag}
def G5:List Int→Int
  | []=>0
  | x::r=>r.foldl max x
end
end L2
namespace L2
open PySem PySem.Spec PyProof.Rows
structure GT (f:Fr):Prop where
  pos:0 < f.2
  cop:Int.gcd f.1 f.2=1
def G0(t:md)(b:Bool):Fr:=if b then(t.top,t.bot) else(t.bot - t.top,t.bot)
abbrev Pg:=List Int × Int
def G6(t:md)(p:Pg):Bool:= !p.1.contains t.one&& !p.1.contains t.other
def FQ(t:md)(p:Pg):Pg:=(p.1++[t.one,t.other],p.2+t.worth)
def G8(ps:List Pg)(t:md):List Pg:=ps++(ps.filter (G6 t)).map (FQ t)
def G7(ts:List md):List Pg:=ts.foldl G8 [([],0)]
structure GB (k:Nat) (ps:List Pg):Prop where
  ne:ps≠[]
  len:ps.length≤2 ^ k
  pt:∀p∈ps,p.1.length≤2*k∧0≤p.2∧p.2≤1000*(k:Int)
def GG(ts:List md):Int:=G5 ((G7 ts).map (·.2))
end L2
namespace L2
open PySem PySem.Spec PyProof.Rows
end L2
namespace L2
open PySem PySem.Spec PyProof.Rows
section
variable{prog:Program}{w:World}{A:Around}{E:Value→Shared→Prop}{s:Shared}
theorem zF{r:Addr}{b:Int}{t u v:Tok}{n:Nat}{R:Result→Shared→Prop}(hh:A.handled=none)(hr:IsRange s.heap r 0 b 1 t u v)(hsmall:Builtin.Range.small 0 b 1=true)(hn:Builtin.Range.rangeSize 0 b 1=n)(hlen:n≤2 ^ 24)
    (h:∀g tk acc c,(∀b o,s.heap.get? b=some o→g.get? b=some o)→g.get? s.heap.objs.size=some {cls:=.type "list",dict:=none,data:=.seq acc c,slots:=#[]}→ItemsOf (fun i v=>∃t,v=.int (0+i*1) t) acc n→R (.ok (.ret (.ref s.heap.objs.size))) {s with heap:=g,toks:=tk}):codeAny (model prog w) A (.builtin "proto.collect" ⟨[.ref r],[]⟩) R s:=by
  refine codeAny_builtin F.entry_proto_collect ?_
  rw [Around.under_plainId F.plain_proto_collect _]
  show wpAny _ A.in1 (newList [] >>= fun l=>again (.builtin "list.__iadd__" ⟨[l,.ref r],[]⟩)) _ _ s
  refine wpAny_bind (wpAny_newObj_type ?_)
  refine wpAny_pure ⟨plainId_quiet F.plain_list_iadd _,codeAny_builtin F.entry_list_iadd ?_⟩
  rw [Around.under_plainId F.plain_list_iadd _]
  have hS₁:(s.heap.push {cls:=.type "list",data:=.seq ([]:List Value).toArray}).get? s.heap.objs.size=some {cls:=.type "list",data:=.seq ([]:List Value).toArray}:=Heap.get?_push_size _ rfl
  show wpAny _ A.in1 (Builtin.List.listExtendWith (.ref s.heap.objs.size) (.ref r) (.ref s.heap.objs.size)) _ _ _
  exact wpAny_extend_range (R:=R) (s:={s with heap:=s.heap.push {cls:=.type "list",data:=.seq ([]:List Value).toArray}}) hh (Heap.get?_push_of_some _ hr) hsmall hn hlen s.heap.objs.size (.ref s.heap.objs.size) 0 hS₁ fun h' tk acc' c' hk hS' hacc=>h h' tk acc' c' (fun b o e=>hk b o (Nat.ne_of_lt (Heap.lt_size e)) (Heap.get?_push_of_some _ e)) hS' hacc
theorem sE{r:Addr}{b:Int}{t u v:Tok}{n:Nat}{Q:List Value→Shared→Prop}(hh:A.handled=none)(hr:IsRange s.heap r 0 b 1 t u v)(hsmall:Builtin.Range.small 0 b 1=true)(hn:Builtin.Range.rangeSize 0 b 1=n)(hlen:n≤2 ^ 24)
    (h:∀g tk acc,(∀b o,s.heap.get? b=some o→g.get? b=some o)→ItemsOf (fun i v=>∃t,v=.int (0+i*1) t) acc n→Q acc.toList {s with heap:=g,toks:=tk}):wpAny (model prog w) A (collect (.ref r)) Q E s:=by
  unfold collect
  refine wpAny_bind (wpAny_runValue (zF hh hr hsmall hn hlen fun g tk acc c hk hS' hacc=>?_))
  show wpAny _ A (load s.heap.objs.size >>= _) _ _ _
  refine wpAny_bind (wpAny_load hS' ?_)
  exact wpAny_pure (h g tk acc hk hacc)
theorem CZ(r:Addr)(b:Int)(t u v:Tok)(n:Nat)(hsmall:Builtin.Range.small 0 b 1=true)(hn:Builtin.Range.rangeSize 0 b 1=n)(hlen:n≤100000):
    Meets (Builtin.«tuple.__new__» ⟨[.type "tuple",.ref r],[]⟩) (fun A R s=>A.handled=none∧IsRange s.heap r 0 b 1 t u v∧∀(g:Heap) (tk:Nat) (acc:Array Value),(∀b o,s.heap.get? b=some o→g.get? b=some o)→ItemsOf (fun i v=>∃t,v=.int (0+i*1) t) acc n→R (.ok (.ret (.ref g.objs.size))) {s with heap:=g.push {cls:=.type "tuple",data:=.seq acc},toks:=tk}):=
  .of_wp fun prog w A R s h=>by
    obtain⟨hh,hI,h⟩:=h;have a1:=sub_tuple_self;have a2:=init_tuple_lookup;have a3:=madeHere_tuple
    have hT:s.TypeIs (.ref r) "range":=⟨_,hI,rfl⟩
    have hh1:A.in1.handled=none:=hh
    have hl2:n≤2 ^ 24:=Nat.le_trans hlen (by decide)
    wp_walk using wpAny_typeOf hT,sE hh1 hI hsmall hn hl2
    intro g tk acc hm hacc
    show wpAny _ _ (Builtin.Tuple.tupleExact acc.toList.toArray >>= fun v=>ret v) _ _ _
    unfold Builtin.Tuple.tupleExact;refine wpAny_bind (wpAny_newObj_type ?_ (show acc.toList.toArray.size≤sizeLine by simp only [Array.toArray_toList];rw [hacc.1,sizeLine_eq];lia))
    refine wpAny_pure ⟨_,rfl,?_⟩;have e:acc.toList.toArray=acc:=by simp
    rw [e];exact h g tk acc hm hacc
theorem rB{r:Addr}{b:Int}{t u v:Tok}{n:Nat}{Q:Value→Shared→Prop}(hh:A.handled=none)(hr:IsRange s.heap r 0 b 1 t u v)(hsmall:Builtin.Range.small 0 b 1=true)(hn:Builtin.Range.rangeSize 0 b 1=n)(hlen:n≤100000)
    (h:∀(g:Heap) (tk:Nat) (acc:Array Value),(∀b o,s.heap.get? b=some o→g.get? b=some o)→ItemsOf (fun i v=>∃t,v=.int (0+i*1) t) acc n→Q (.ref g.objs.size) {s with heap:=g.push {cls:=.type "tuple",data:=.seq acc},toks:=tk}):wpAny (model prog w) A (call (.type "tuple") [.ref r]) Q E s:=by
  refine callType_new F.called_tuple (by decide) (F.typeCall_tuple_1 _) (F.newCall_tuple_1 _) (fun obj=>F.args_object_init_2 obj _) F.entry_tuple_new (CZ r b t u v n hsmall hn hlen) ⟨hh,hr,fun g tk acc hm hacc=>⟨⟨_,Heap.get?_push_size _ rfl,rfl⟩,?_⟩⟩
  exact h g tk acc hm hacc
end
section
variable{X:Cx}{a:Expr}{ta:TA}{p p2 pos pos2:Pos}
def G_(ta:TA):TE:=fun σ H Q=>ta σ H fun vs H1=>∃j:Int,vs=[.int j]∧(0≤j∧j≤100000∧∀l,H1 l=none→Q (.ref l) (bi H1 l (.tup ((mZ j.toNat).map V.int))))
theorem qW(hc:X.calm=true)(hgl:Gl X "tuple")(hml:X.mg "tuple"=none)(hg:Gl X "range")(hm:X.mg "range"=none)(ha:PA X [a] ta)(hs:starEach [a] X.env=[(false,eval a X.env)])
    (he:starEach [.Call (.Name "range" p) [a] [] pos] X.env=(false,eval (.Call (.Name "range" p) [a] [] pos) X.env)::starEach [] X.env):PE X (.Call (.Name "tuple" p2) [.Call (.Name "range" p) [a] [] pos] [] pos2) (G_ ta):=by
  intro pins s σ H Q I h
  refine wpAny_Call_Name_kw (gj I hgl hml PyProof.Rows.boot_tuple ?_ (by decide) (by decide))
  refine PyProof.Rows.callWith_type1 ?_ he rfl
  rw [he]
  refine Calls.spliced_cons (cC (wa hg hm ha hs I h) fun u s1 ⟨r,j,H1,t,u1,w,e,hr,lt,I1,j0,j1,q⟩=>?_)
  subst e
  refine wpAny_pure ?_
  have hsm:Builtin.Range.small 0 j 1=true:=small_one (by decide) (by decide) (by lia) (by lia)
  refine rB (n:=j.toNat) (I1.ok.hd hc) hr hsm (by rw [rangeSize_one];split<;>lia) (by lia) fun g tk acc hk hacc=>?_
  have I2:aA X pins σ H1 {s1 with heap:=g,toks:=tk}:=I1.kept hk
  have hf:H1 g.objs.size=none:=I2.hok.fresh (Nat.le_refl _)
  have vv:aO ((mZ j.toNat).map V.int) acc.toList:=by
    have z:=ud acc.toList (fun k=>(k:Int)) fun k v e=>by
      obtain⟨t,ht⟩:=hacc.2 k v (by simpa using e)
      exact⟨t,by rw [ht];simp⟩
    rw [Array.length_toList,hacc.1] at z
    rw [mZ,List.map_map]
    exact z
  refine⟨.ref g.objs.size,_,I2.laid (t':=tk) (o:=.tup ((mZ j.toNat).map V.int)) (fun b u e=>Heap.get?_push_of_some _ e) (Nat.le_refl _) ⟨?_,acc.toList,vv,⟨_,Heap.get?_push_size _ rfl,rfl,0,by simp⟩⟩,rfl,q _ hf⟩
  rw [List.length_map,rc,sizeLine_eq];lia
variable{K:PySem.W.Frag}{fs:FA}{p3:Pos}
def je(fs:FA):FE:=fun e=>(fs e).bind fun p=>match p.1 with
  | [r]=>(bh r).bind fun j=>if 0≤j∧j≤100000 then some (.d (.tuple ((mZ j.toNat).map .int)),p.2) else none
  | _=>none
theorem sv(hc:X.calm=true)(hgl:Gl X "tuple")(hml:X.mg "tuple"=none)(hg:Gl X "range")(hm:X.mg "range"=none)(ha:PA X [a] (fA K fs))(hs:starEach [a] X.env=[(false,eval a X.env)])
    (he:starEach [.Call (.Name "range" p2) [a] [] p3] X.env=[(false,eval (.Call (.Name "range" p2) [a] [] p3) X.env)]):PE X (.Call (.Name "tuple" p) [.Call (.Name "range" p2) [a] [] p3] [] pos) (fE K (je fs)):=(qW hc hgl hml hg hm ha hs he).mono fun σ H Q h=>by
  obtain⟨F,e,z,e',R,hf,q⟩:=h
  unfold je at hf
  obtain⟨⟨rs,e1⟩,h1,hf⟩:=Option.bind_eq_some_iff.mp hf
  match rs,h1,hf with
  | [r],h1,hf=>
  obtain⟨j,h2,hf⟩:=Option.bind_eq_some_iff.mp hf
  split at hf
  case isFalse=>cases hf
  case isTrue hj=>
  cases hf
  refine⟨F,e,_,e1,R,h1,fun F1 H1 vs X1 R1 A1=>?_⟩
  obtain⟨v,rfl,A2⟩:=l5 A1
  refine⟨j,by rw [bD A2 h2],hj.1,hj.2,fun t ht=>?_⟩
  obtain⟨R3,X3⟩:=R1.newT (vs:=(mZ j.toNat).map V.int) ht
  exact q _ _ _ (X1.trans X3) R3 (cP.mpr ⟨t,_,rfl,.inl (.inl aw),aM.ints.mpr rfl⟩)
end
end L2
namespace L2
open PySem PySem.Spec PyProof.Rows
def Da:PyData→Bool
  | .int _=>true
  | _=>false
def cZ(lo hi:Int):PyData→Bool
  | .int i=>decide (lo≤i)&&decide (i≤hi)
  | _=>false
theorem cut_len{xs:List PyData}{lo hi:Option Int}:(cutD xs lo hi).length≤xs.length:=by
  unfold cutD
  rw [List.length_take,List.length_drop]
  lia
end L2
namespace L2
open PySem PySem.Spec PyProof.Rows
mutual
def yj:Nat→PyData→Bool
  | _,.none=>true
  | _,.bool _=>true
  | _,.int i=>decide (i.natAbs < 2 ^ 128)
  | _,.str x=>PyData.strOk x&&decide (x.length≤10)
  | k,.list xs=>decide (0 < k)&&oH (k - 1) xs
  | k,.tuple xs=>decide (0 < k)&&oH (k - 1) xs
  | _,.dict _=>false
def oH:Nat→List PyData→Bool
  | _,[]=>true
  | k,x::r=>yj k x&&oH k r
end
mutual
def wt:PyData→Nat
  | .list xs=>o6 xs+1
  | .tuple xs=>o6 xs+1
  | .dict _=>1
  | .none=>1
  | .bool _=>1
  | .int _=>1
  | .str _=>1
def o6:List PyData→Nat
  | []=>0
  | x::r=>wt x+o6 r
end
theorem rA:∀(ts:List Str) (k:Nat) (acc:Str),(textFrom k acc ts).length≤acc.length+piled ts
  | [],_,acc=>by show acc.length≤acc.length+0;lia
  | t::r,k,acc=>by
    have ih:=rA r (k+1) (acc++(if k > 0 then ", " else "":String)++t)
    have e:(acc++(if k > 0 then ", " else "":String)++t).length≤acc.length+2+t.length:=by
      rw [strLen_append,strLen_append]
      have:(Str.ofString (if k > 0 then ", " else "")).length≤2:=by split<;>decide
      lia
    show(textFrom (k+1) _ r).length≤_
    rw [hX];lia
theorem wD(ts:List Str):(listText ts).length≤piled ts+2:=by
  unfold listText
  rw [strLen_append]
  have h:=rA ts 0 "["
  have h1:(("[":Str)).length=1:=by decide
  have h2:(("]":Str)).length=1:=by decide
  lia
theorem nq:∀(ts:List Str) (k:Nat) (acc:Str),PyData.strOk acc=true→(∀t∈ts,PyData.strOk t=true)→PyData.strOk (textFrom k acc ts)=true
  | [],_,acc,h,_=>h
  | t::r,k,acc,h,hs=>nq r (k+1) _ (er (er h (c8 _)) (hs t (by simp))) fun u hu=>hs u (by simp [hu])
theorem vg{ts:List Str}(h:∀t∈ts,PyData.strOk t=true):PyData.strOk (listText ts)=true:=er (nq ts 0 _ (c8 _) h) (c8 _)
structure Fd (d:PyData) (k:Nat):Prop where
  lay:d.canLay0=true
  sh:d.showable=true
  dp:d.depth≤k
  ln:d.shown.length+2≤104*wt d
  so:PyData.strOk d.shown=true
theorem mf{d:PyData}{n:Nat}{k:Nat}(h:Sz n 0 d∨Sz n 2 d)(hn:n≤102)(hw:wt d=1)(hl:d.canLay0=true)(hd:d.depth=0):Fd d k:=by
  rcases h with h | h<;>exact⟨hl,h.sh,by lia,by have:=h.ln;lia,h.so⟩
mutual
theorem rM{k:Nat}:∀{d:PyData},yj k d=true→Fd d k
  | .none,_=>⟨rfl,rfl,by simp [PyData.depth],by show(Str.ofString "None").length+2≤104*1;decide,c8 _⟩
  | .bool b,_=>mf (.inr Sz.bool) (by decide) rfl rfl (by simp [PyData.depth])
  | .int i,h=>by
    simp only [yj,decide_eq_true_eq] at h
    exact mf (.inr (Sz.int10 (n:=39) (m:=128) (show Bt 128 i from h) (by decide) (by decide) (Nat.lt_of_lt_of_le h (by decide)) (by decide))) (by decide) rfl rfl (by simp [PyData.depth])
  | .str x,h=>by
    simp only [yj,Bool.and_eq_true,decide_eq_true_eq] at h
    exact mf (.inr (Sz.str (n:=10) h.1 h.2)) (by decide) rfl (by simpa [PyData.canLay0] using h.1) (by simp [PyData.depth])
  | .dict _,h=>by simp [yj] at h
  | .list xs,h=>by
    simp only [yj,Bool.and_eq_true,decide_eq_true_eq] at h
    obtain⟨a1,a2,a3,a4,a5⟩:=pd h.2
    have:=wD (PyData.shownAll xs)
    refine⟨by simpa [PyData.canLay0] using a1,a2,by simp only [PyData.depth];lia,by simp only [PyData.shown,wt];lia,by simp only [PyData.shown];exact vg a5⟩
  | .tuple xs,h=>by
    simp only [yj,Bool.and_eq_true,decide_eq_true_eq] at h
    obtain⟨a1,a2,a3,a4,a5⟩:=pd h.2
    have:=kN (PyData.shownAll xs)
    refine⟨by simpa [PyData.canLay0] using a1,a2,by simp only [PyData.depth];lia,by simp only [PyData.shown,wt];lia,by simp only [PyData.shown];exact oW a5⟩
theorem pd{k:Nat}:∀{ds:List PyData},oH k ds=true→PyData.canLayAll0 ds=true∧PyData.showableAll ds=true∧PyData.depthAll ds≤k∧piled (PyData.shownAll ds)≤104*o6 ds∧∀t∈PyData.shownAll ds,PyData.strOk t=true
  | [],_=>⟨rfl,rfl,by simp [PyData.depthAll],by simp [PyData.shownAll,piled],by simp [PyData.shownAll]⟩
  | d::r,h=>by
    simp only [oH,Bool.and_eq_true] at h
    obtain⟨a1,a2,a3,a4,a5⟩:=rM h.1
    obtain⟨b1,b2,b3,b4,b5⟩:=pd h.2
    refine⟨by simp only [PyData.canLayAll0,a1,b1,Bool.and_self],by simp only [PyData.showableAll,a2,b2,Bool.and_self],by simp only [PyData.depthAll];lia,by simp only [PyData.shownAll,hX,o6];lia,fun t ht=>?_⟩
    simp only [PyData.shownAll,List.mem_cons] at ht
    rcases ht with rfl | ht
    · exact a5
    · exact b5 t ht
end
def nS(n:Int):PyData→Bool
  | .tuple ds=>(ds.length:Int)==n
  | _=>false
theorem wj{e:En}{s:Str}(h:PyData.strOk s=true):bL true e (.d (.str s)) (.d (.str s))=some (.d (.bool false)):=by
  unfold bL
  simp only [iE,Option.bind_some]
  have h0:SeqAt.shaped (.str s)=true:=by simp [SeqAt.shaped,PyData.canLay0,PyData.depth,h]
  rw [h0]
  simp [PyData.eqv]
theorem fy{lo hi:Int}{d:PyData}(h:cZ lo hi d=true):∃i,d=.int i∧lo≤i∧i≤hi:=by
  cases d with
  | int i=>exact⟨i,rfl,by simpa [cZ] using h⟩
  | _=>simp [cZ] at h
end L2
namespace L2
open PySem PySem.Spec PyProof.Rows
section
variable{X:Cx}{K:PySem.W.Frag}
variable{a b:Expr}{fa fb:FE}{pos:Pos}
end
end L2
namespace L2
open PySem PySem.Spec PyProof.Rows
def tx(s:Str):List Nat:=s.cps.toList
end L2
namespace L2
open PySem PySem.Spec PyProof.Rows
end L2
namespace L2
open PySem PySem.Spec PyProof.Rows
end L2
namespace L2
open PySem PySem.Spec PyProof.Rows
section
variable{X:Cx}{K:PySem.W.Frag}{es:List Expr}{k0:Nat}{tp:Pos}{a b:Expr}{fs:FA}{p pos:Pos}
end
end L2
namespace L2
open PySem PySem.Spec PyProof.Rows
def G3(x:Nd)(b:Bool):Int:=if b=true then x.yes else x.no
def AB(T:List Nd)(i:Nat)(b:Bool):Int:=match T[i]? with
  | some x=>G3 x b
  | none=> -1
def FN(T:List Nd):Prop:=∀(i j:Nat) (a b:Bool),AB T i a=AB T j b→AB T i a≠ -1→i=j∧a=b
def Gu(w:Wt):Int × Int:=(w.par,w.side)
structure Hd (T:List Nd) (ws:List Wt):Prop where
  unq:FN T
  rng:∀i a,AB T i a= -1∨(0 < AB T i a∧AB T i a < (T.length:Int))
  free:∀w∈ws,w.par= -1∨(0≤w.par∧w.par < (T.length:Int)∧AB T w.par.toNat (w.side==0)= -1)
  dst:(ws.map Gu).Nodup
  side:∀w∈ws,w.side=0∨w.side=1
structure Hg (T:List Nd) (w0 ws order:List Int):Prop where
  nd:(order++ws).Nodup
  par:∀v∈order++ws,v=0∨∃u∈order,∃b,AB T u.toNat b=v∧v≠ -1
  fst:(order=[]∧ws=w0)∨order[0]?=some 0
end L2
namespace L2
open PySem PySem.Spec PyProof.Rows
section
variable{prog:Program}{w:World}{A:Around}{E:Value→Shared→Prop}{s:Shared}
end
section
variable{X:Cx}{tg a:Expr}{ta:TA}{p pos:Pos}
end
section
variable{X:Cx}{K:PySem.W.Frag}{σ:L2.St}{tg a:Expr}{fs:FA}{p pos:Pos}
end
end L2
namespace L2
open PySem PySem.Spec PyProof.Rows
section
variable{X:Cx}{a k:Expr}{p2 pos:Pos}{fa fk:FE}{K:PySem.W.Frag}
section
variable{prog:Program}{w:World}{A:Around}{E:Value→Shared→Prop}{s:Shared}
end
end
end L2
namespace L2
open PySem PySem.Spec PyProof.Rows
section
variable{X:Cx}{a b:Expr}{ta:TA}{p p2 pos pos2:Pos}{K:PySem.W.Frag}{fs:FA}
end
section
variable{X:Cx}{o i e:Expr}{fo fi:FE}{tpos pos:Pos}{K:PySem.W.Frag}
end
end L2
namespace L2
open PySem PySem.Spec PyProof.Rows
section
variable{X:Cx}{K:PySem.W.Frag}
def El(K:PySem.W.Frag)(neg:Bool):R2:=fun x y H Q=>∃a b xs,x=.ref a∧y=.ref b∧cT K H a xs∧cT K H b []∧Q (.bl (if neg then !xs.isEmpty else xs.isEmpty)) H
theorem BP(hu:X.A.units < cLine):eW X (compareOp .Eq) (El X.K false):=by
  intro pins s σ H x y v u Q I rx ry h
  exact BO hu pins s σ H x y v u Q I rx ry h
def uu(neg:Bool):En→Rv→Rv→Option Rv:=fun e x y=>(dU e x).bind fun a=>(dU e y).bind fun b=>if a.1=true∧b.1=true∧b.2.isEmpty=true then some (.d (.bool (if neg then !a.2.isEmpty else a.2.isEmpty))) else none
theorem DE{neg:Bool}:fv K (El K neg) (uu neg):=by
  intro σ H0 F H e x y z v u Q R A B hg q
  unfold uu at hg
  obtain⟨⟨b1,xs⟩,h1,hg⟩:=Option.bind_eq_some_iff.mp hg
  obtain⟨⟨b2,ys⟩,h2,hg⟩:=Option.bind_eq_some_iff.mp hg
  split at hg
  case isFalse=>cases hg
  case isTrue hl=>
  cases hg
  obtain⟨z1,z2,z3⟩:=hl
  dsimp only at z1 z2 z3
  subst z1 z2
  have z4:ys=[]:=List.isEmpty_iff.mp z3
  subst z4
  obtain⟨p,vs,rfl,d1,s1⟩:=cB R A h1
  obtain⟨p',vs',rfl,d2,s2⟩:=cB R B h2
  have e2:vs'=[]:=by simpa only [aM] using d2
  subst e2
  rw [if_pos rfl] at s1 s2
  refine⟨p,p',vs,rfl,rfl,s1,s2,?_⟩
  have e1:vs.isEmpty=xs.isEmpty:=by
    have:=d1.len
    cases xs with
    | nil=>cases vs with
      | nil=>rfl
      | cons=>simp at this
    | cons=>cases vs with
      | nil=>simp at this
      | cons=>rfl
  rw [e1]
  exact q F H _ (dH.refl _ _ _ _) R cz
theorem Dy{k:Nat}(hK:X.K=K)(hr:cO k X.A):jE X K .Eq (uu false):=⟨_,hK ▸ BP hr.units0,DE⟩
theorem A_{e:En}{xs:List PyData}{neg:Bool}:uu neg e (.l xs) (.l [])=some (.d (.bool (if neg then !xs.isEmpty else xs.isEmpty))):=by
  simp [uu,dU]
end
end L2
namespace L2
open PySem PySem.Spec PyProof.Rows
section
open PySem.MeetsSeq2 PySem.AutoSeq1 PySem.SeqAt
end
section
variable{X:Cx}{K:PySem.W.Frag}{o a:Expr}{to te:TE}{name:Str}{apos cpos:Pos}{T id:String}{r:V→List V→Hp→VK→Prop}{fo fa:FE}
end
end L2
namespace L2
open PySem PySem.Spec PyProof.Rows
section
variable{X:Cx}{K:PySem.W.Frag}{o a:Expr}{apos cpos:Pos}{fo fa:FE}
end
end L2
namespace L2
open PySem PySem.Spec PyProof.Rows
section
variable{K:PySem.W.Frag}{F H:Hp}{σ:L2.St}{e:En}{cp:List (Nat × Str)}{nT:Nat}
end
section
variable{X:Cx}{K:PySem.W.Frag}{a b:Expr}{es:List Expr}{fa fb:FE}{fs:FA}{pos p p2 p3:Pos}{lo hi:Option Expr}
end
end L2
namespace L2
open PySem PySem.Spec PyProof.Rows
section
variable{X:Cx}{K:PySem.W.Frag}
end
end L2
namespace L2
open PySem PySem.Spec PyProof.Rows
section
variable{X:Cx}{K:PySem.W.Frag}{a b:Expr}{fa fb:FE}{pos:Pos}
end
end L2
namespace L2
open PySem PySem.Spec PyProof.Rows
section
variable{X:Cx}{K:PySem.W.Frag}
end
end L2
namespace L2
open PySem PySem.Spec PyProof.Rows
mutual
theorem mz:∀(d:PyData),gy d=true→fJ d=true
  | .none,_=>rfl
  | .bool _,_=>rfl
  | .int _,_=>rfl
  | .str _,_=>rfl
  | .tuple ds,h=>by simp only [fJ];exact lh ds (by simpa [gy] using h)
  | .list ds,h=>by simp [gy] at h
  | .dict _,h=>by simp [gy] at h
theorem lh:∀(ds:List PyData),i6 ds=true→eP ds=true
  | [],_=>rfl
  | d::r,h=>by
    simp only [i6,Bool.and_eq_true] at h
    simp only [eP,mz d h.1,lh r h.2,Bool.and_self]
end
structure Sw (b:Bool) (n dep:Nat) (d:PyData):Prop where
  dl:bif b then fJ d=true else d.hasDict=false
  sh:d.showable=true
  dp:d.depth≤dep
  ln:d.shown.length+2≤n
  so:PyData.strOk d.shown=true
theorem Sw.mono{b:Bool}{n m dep e:Nat}{d:PyData}(h:Sw b n dep d)(h1:n≤m)(h2:dep≤e):Sw b m e d:=⟨h.dl,h.sh,Nat.le_trans h.dp h2,Nat.le_trans h.ln h1,h.so⟩
theorem Fd.swF{k:Nat}{d:PyData}(h:Fd d k)(f:gy d=true)(b:Bool):Sw b (104*wt d) k d:=⟨by cases b;exact iH d f;exact mz d f,h.sh,h.dp,h.ln,h.so⟩
theorem Sw.all{b:Bool}{n dep:Nat}:∀{ds:List PyData},(∀d∈ds,Sw b n dep d)→(bif b then eP ds=true else PyData.hasDictAll ds=false)∧PyData.showableAll ds=true∧PyData.depthAll ds≤dep∧piled (PyData.shownAll ds)≤ds.length*n∧∀t∈PyData.shownAll ds,PyData.strOk t=true
  | [],_=>⟨by cases b<;>rfl,rfl,by simp [PyData.depthAll],by simp [PyData.shownAll,piled],by simp [PyData.shownAll]⟩
  | d::r,h=>by
    obtain⟨a1,a2,a3,a4,a5⟩:=h d (by simp)
    obtain⟨b1,b2,b3,b4,b5⟩:=Sw.all (ds:=r) fun x hx=>h x (by simp [hx])
    refine⟨?_,?_,?_,?_,?_⟩
    · cases b
      · simp only [cond_false] at a1 b1 ⊢;simp only [PyData.hasDictAll,a1,b1,Bool.or_self]
      · simp only [cond_true] at a1 b1 ⊢;simp only [eP,a1,b1,Bool.and_self]
    · simp only [PyData.showableAll,a2,b2,Bool.and_self]
    · simp only [PyData.depthAll];lia
    · simp only [PyData.shownAll,hX,List.length_cons,Nat.succ_mul];lia
    · intro t ht
      simp only [PyData.shownAll,List.mem_cons] at ht
      rcases ht with rfl | ht
      · exact a5
      · exact b5 t ht
theorem Sw.tup{b:Bool}{n dep m:Nat}{ds:List PyData}(h:∀d∈ds,Sw b n dep d)(hl:ds.length≤m):Sw b (m*n+5) (dep+1) (.tuple ds):=by
  obtain⟨b1,b2,b3,b4,b5⟩:=Sw.all h
  refine⟨by cases b<;>simpa [fJ,PyData.hasDict] using b1,b2,by simp only [PyData.depth];lia,?_,by simp only [PyData.shown];exact oW b5⟩
  have h2:=kN (PyData.shownAll ds)
  have:=Nat.mul_le_mul_right n hl
  simp only [PyData.shown]
  lia
theorem Sw.ok{b:Bool}{n dep:Nat}{d:PyData}(h:Sw b n dep d)(h1:n≤16777216)(h2:dep≤60):j6 d=true:=by
  have sl:sizeLine=16777216:=sizeLine_eq
  have hd:(!d.hasDict || fJ d)=true:=by
    have:=h.dl
    cases b
    · simp only [cond_false] at this;simp [this]
    · simp only [cond_true] at this;simp [this]
  have:=h.ln
  unfold j6
  rw [hd,h.sh,decide_eq_true (Nat.le_trans h.dp h2),decide_eq_true (show d.shown.length≤sizeLine by rw [sl];lia)]
  simp
theorem Sw.repr{b:Bool}{n dep:Nat}{d:PyData}(h:Sw b n dep d)(h1:n≤16777216)(h2:dep≤60)(e:En):g1 lr e [.d d]=some (.d (.str d.shown)):=yC (h.ok h1 h2)
theorem Sw.int{b:Bool}{i:Int}(h:i.natAbs < 2 ^ 128):Sw b 200 0 (.int i):=((rM (k:=0) (d:=.int i) (by simp only [yj,decide_eq_true_eq];exact h)).swF rfl b).mono (by simp [wt]) (by decide)
theorem Sw.ints{b:Bool}{ns:List Int}{m:Nat}(h:∀r∈ns,r.natAbs < 2 ^ 128)(hl:ns.length≤m):Sw b (m*200+5) 1 (.tuple (ns.map .int)):=Sw.tup (n:=200) (dep:=0) (fun d hd=>by
  obtain⟨x,hx,rfl⟩:=List.mem_map.mp hd
  exact Sw.int (h x hx)) (by rw [List.length_map];exact hl)
end L2
namespace L2
open PySem PySem.Spec PyProof.Rows
structure S1 (n:Nat) (f:Fr):Prop where
  low:GT f
  lo:0≤f.1
  hi:f.1≤f.2
  bt:Bt n f.2
def G2(e:Int)(t:md):Bool:=t.one==e || t.other==e
structure Hh (b f g:Fr):Prop where
  pf:0 < f.2
  pg:0 < g.2
  eq:g.1*(f.2*b.1)=g.2*(f.1*b.2)
end L2
namespace L2
open PySem PySem.Spec PyProof.Rows
def vR(f:Fr):Rat:=(f.1:Rat) / (f.2:Rat)
def cR(t:md)(b:Bool):Rat:=vR (G0 t b)
end L2
namespace L2
open PySem PySem.Spec PyProof.Rows
def hR(t:md):Rat:=cR t true*(t.worth:Rat)
end L2
namespace L2
open PySem PySem.Spec PyProof.Rows
structure Hf (O:aY) (ss ws:List Std):Prop where
  len:ss.length=ws.length
  at':∀j,(ss.getD j ([],[])).1=(ws.getD j ([],[])).1∧(ss.getD j ([],[])).2.length≤2*(ss.getD j ([],[])).1.length∧∀k∈(ss.getD j ([],[])).1,ka O k
structure Hc (O:aY) (T:List Nd):Prop where
  tie:∀(i:Nat) (x:Nd),T[i]?=some x→ka O x.tie
  lk:∀(i:Nat) (x:Nd),T[i]?=some x→(-1≤x.yes∧x.yes < (T.length:Int))∧(-1≤x.no∧x.no < (T.length:Int))
end L2
namespace L2
open PySem PySem.Spec PyProof.Rows
section
variable{K:PySem.W.Frag}
variable{X:Cx}{σ:L2.St}{H0 H:Hp}{e:En}
end
end L2
namespace L2
open PySem PySem.Spec PyProof.Rows
section
variable{X:Cx}{a b:Expr}{ta:TA}{p p2 pos pos2:Pos}
end
end L2
namespace L2
open PySem PySem.Spec PyProof.Rows
section
variable{X:Cx}{K:PySem.W.Frag}{fs:FA}{a b:Expr}{p p2 pos pos2:Pos}
end
end L2
namespace L2
open PySem PySem.Spec PyProof.Rows
end L2
namespace L2
open PySem PySem.Spec PyProof.Rows PySem.W
structure FH (lt:Nat→Nat→Bool):Prop where
  irr:∀i,lt i i=false
  tr:∀{i j k},lt i j=false→lt j k=false→lt i k=false
  asy:∀{i j},lt i j=true→lt j i=false
structure He (n:Nat) (p:Array Nat):Prop where
  sz:p.size=n
  pm:p.Perm (List.toArray (List.range n))
section
variable{lt:Nat→Nat→Bool}{n:Nat}(O:FH lt)
include O
end
end L2
namespace L2
open PySem PySem.Spec PyProof.Rows PySem.W
section
variable{prog:Program}{w:World}{A:Around}{E:Value→Shared→Prop}{s:Shared}
end
end L2
namespace L2
open PySem PySem.Spec PyProof.Rows PySem.W
section
variable{X:Cx}{K:PySem.W.Frag}
end
end L2
namespace L2
open PySem PySem.Spec PyProof.Rows
section
variable{X:Cx}{K:PySem.W.Frag}
variable{o a:Expr}{es:List Expr}{fo:FE}{fs:FA}{apos cpos:Pos}
end
end L2
namespace L2
open PySem PySem.Spec PyProof.Rows
end L2
namespace L2
open PySem PySem.Spec PyProof.Rows
section
variable{X:Cx}{K:PySem.W.Frag}{σ σ2:L2.St}{H0 F H F2 H2 F3:Hp}{e e2:En}
end
end L2
namespace L2
open PySem PySem.Spec PyProof.Rows
section
variable{X:Cx}{K:PySem.W.Frag}{a b:Expr}{fa fb:FE}{pos p p1 p2 p3 pos':Pos}{x:Str}{i:Nat}
end
section
variable{X:Cx}{K:PySem.W.Frag}
end
end L2
namespace L2
open PySem PySem.Spec PyProof.Rows
section
variable{prog:Program}{w:World}{A:Around}{R:Result→Shared→Prop}
end
def zQ(l:Addr)(wi:TI)(g:TG)(tc:TT)(tk tv:TE)(σ:L2.St)(H:Hp)(N:L2.St→Hp→Prop):Prop:=
  wi σ H fun J H1=>∃W:Nat→Nat→L2.St→Hp→Prop,(∃m,W 0 m σ H1)∧∀i m σ' H',W i m σ' H'→
    (J.stop i H'∧N σ' H')∨(J.go i H'∧∃N2:L2.St→Hp→Prop,(∀σ2 H2,N2 σ2 H2→∃m',m' < m∧W (i+1) m' σ2 H2)∧
      ∀x H2,J.yld i H' x H2→g x σ' H2 fun σ2 H3=>tc σ2 H3 fun b H4=>if b=true then tk σ2 H4 fun y H5=>tv σ2 H5 fun v H6=>∃(kk:fM) (kvs:List (fM × V)),y=kV kk∧H6 l=some (.dK kvs)∧kvs.length < sizeLine∧N2 σ2 (bi H6 l (.dK (pV kvs kk v))) else N2 σ2 H4)
structure Fu (cp:List (Nat × Str)) (nT:Nat) (wi:TI) (g:TG) (tc:TT) (wi2:TI) (g2:TG) (tc2:TT) (tk tv:TE) (σ:L2.St) (H:Hp) (Q:VK):Prop where
  go:wi σ H fun J H1=>∀l,H1 l=none→
  ∃W:Nat→Nat→L2.St→Hp→Prop,(∃m,W 0 m (iX cp nT σ) (bi H1 l (.dK [])))∧∀i m σ' H',W i m σ' H'→
    (J.stop i H'∧Q (.ref l) H')∨(J.go i H'∧∃N:L2.St→Hp→Prop,(∀σ2 H2,N σ2 H2→∃m',m' < m∧W (i+1) m' σ2 H2)∧
      ∀x H2,J.yld i H' x H2→g x σ' H2 fun σ2 H3=>tc σ2 H3 fun b H4=>if b=true then zQ l wi2 g2 tc2 tk tv σ2 H4 N else N σ2 H4)
end L2
namespace L2
open PySem PySem.Spec PyProof.Rows
def aK(p:Int × vA):fM × V:=(Sum.inl p.1,p.2.toV)
def aD(p:Int × vA):PyData × PyData:=(.int p.1,p.2.toD)
section
variable{K:PySem.W.Frag}{F H F' H':Hp}{σ σ':L2.St}{e e':En}{nT:Nat}
inductive CD (K:PySem.W.Frag) (W:List Nat) (σ0:L2.St) (F1 H1:Hp) (e0:En) (l:Addr) (P:Hp→En→List (Int × vA)→Prop) (σ':L2.St) (H':Hp):Prop
  | mk {F':Hp} {ei:En} {acc:List (Int × vA)} (R:a9 K F' H' σ' ei) (X:dI W σ0 F1 H1 e0 σ' F' H' ei) (fl:F' l=none) (hl:H' l=some (.dK (acc.map aK))) (hc:P F' ei acc):CD K W σ0 F1 H1 e0 l P σ' H'
end
section
variable{X:Cx}{K:PySem.W.Frag}{pos:Pos}
end
end L2
namespace L2
open PySem PySem.Spec PyProof.Rows
section
variable{K:PySem.W.Frag}{F H F' H' F1 H1 F2 H2:Hp}{σ σ' σ1 σ2:L2.St}{e e' e1 e2:En}{i:Nat}{W W1 W2:List Nat}
structure FJ (K:PySem.W.Frag) (i:Nat) (F H:Hp) (σ:L2.St) (e:En):Prop where
  rel:a9 K F H σ (e.set i none)
  dct:∃(l:Addr) (m:List (Int × vA)),e[i]?=some (some (.d (.dict (m.map aD))))∧σ[i]?=some (some (.ref l))∧F l=none∧H l=some (.dK (m.map aK))
structure GQ (i:Nat) (W:List Nat) (σ:L2.St) (F H:Hp) (e:En) (σ':L2.St) (F' H':Hp) (e':En):Prop where
  sf:au F F'
  dom:∀a,H' a=none→H a=none
  fr:∀a vs,F a=none→H a=some (.lst vs)→¬de σ (e.set i none) H a→F' a=none
  lst:∀a vs,H a=some (.lst vs)→∃vs',H' a=some (.lst vs')
  tmp:∀a o,H a=some o→¬de σ (e.set i none) H a→σ[i]?≠some (some (.ref a))→H' a=some o
  own:∀a,de σ' (e'.set i none) H' a→de σ (e.set i none) H a∨H a=none
  wr:∀j,j∉W→σ'[j]?=σ[j]?
  dd:σ'[i]?=σ[i]?
  fd:∀a m,F a=none→H a=some (.dK m)→¬de σ (e.set i none) H a→σ[i]?≠some (some (.ref a))→F' a=none
end
section
variable{X:Cx}{K:PySem.W.Frag}{i:Nat}{W W1 W2:List Nat}{st:Stmt}{fm:List Stmt}{f g:FS}{ft:FT}{pos:Pos}
inductive Fx (K:PySem.W.Frag) (i:Nat) (F1:Hp) (P:En→Prop) (G:L2.St→Hp→Hp→En→Prop) (σ:L2.St) (H:Hp):Prop
  | mk {F:Hp} {e:En} (R:FJ K i F H σ e) (sF:au F1 F) (hf:P e) (q:G σ F H e):Fx K i F1 P G σ H
end
end L2
namespace L2
open PySem PySem.Spec PyProof.Rows
section
variable{X:Cx}{C:Addr}{x:Str}{p pos rp:Pos}{e:Expr}{t:TA}
end
end L2
namespace L2
open PySem PySem.Spec PyProof.Rows
structure Hb (P:Program) (w:World) (fs:List Addr) (H H':Hp) (h b0:Heap):Prop where
  keep:∀b o,h.get? b=some o→H b=none→b∉fs→b0.get? b=some o
  there:∀b o,h.get? b=some o→b∉fs→∃o',b0.get? b=some o'
  free:∀b o,h.get? b=some o→H b=none→H' b=none
  tups:∀b xs,H b=some (.tup xs)→H' b=some (.tup xs)
  frzs:∀b o u,H b=some (.frz o u)→H' b=some (.frz o u)
  tbls:∀b ps,H b=some (.tbl ps)→∃more,H' b=some (.tbl (ps++more))
  hok:kc P w H' b0
section
variable{P:Program}{w:World}{K:PySem.W.Frag}{mg:Str→Option Value}{base:Heap}{N:List Str}{qual:Str}{scope:Scope}{f:Addr}{cd:Value}{A:Around}{outer:List Env}{s:Shared}{H:Hp}{E:XK}{C:Addr}{pins:List (Addr × Obj)}{σ:L2.St}{H1:Hp}{s1:Shared}
end
section
variable{X:Cx}{K:PySem.W.Frag}{st r:Stmt}{fm:List Stmt}{c:Expr}{pos:Pos}{f1:FS}{ft:FT}{W1:List Nat}{g:En→Prop}
end
end L2
namespace L2
open PySem PySem.Spec PyProof.Rows PySem.W
section
variable{prog:Program}{w:World}{A:Around}{E:Value→Shared→Prop}{h:Heap}{g:Array GenState}{d:Drawn}{t:Nat}{os:OsState}{a D:Addr}{o:Obj}{K:Frag}
structure GP (K:Frag) (D:Addr):Prop where
  ga:findIn K (.ref D) "__getattribute__"=some (some (.builtin "BaseException.__getattribute__"))
  gt:findIn K (.ref D) "__getattr__"=some none
  cl:findIn K (.ref D) "__class__"=some (some (.builtin "object.__class__"))
  mo:mroIn K D (.type "object")=some true
  mb:mroIn K D (.type "BaseException")=some true
  cs:(clsIn K D).isSome=true
end
end L2
namespace L2
open PySem PySem.Spec PyProof.Rows
def F7(C a:Addr)(h:Heap):Prop:=∃o,h.get? a=some o∧o.cls=.ref C
def G1(C a:Addr):HO:=.ext (F7 C a)
section
variable{X:Cx}{pins:List (Addr × Obj)}{σ:L2.St}{H H':Hp}{s:Shared}{n:Str}{j:Nat}
end
section
variable{X:Cx}{C Cb f:Addr}{fd:FuncData}{ps:List Str}{k n k0 i j:Nat}{g:En→Prop}{fn B kx nx:Str}{p pos ep bp kp np ap hp tp:Pos}{e:Expr}{es:List Expr}{t:TA}
end
end L2
namespace L2
open PySem PySem.Spec PyProof.Rows
section
variable{X:Cx}{C:Addr}{i:Nat}{x c:Str}{p p1 p2 pos:Pos}{v:V}{u:Value}{b:Bool}
def Gn(i:Nat)(C:Addr)(b:Bool):TE:=fun σ H Q=>∃a,σ[i]?=some (some (.ref a))∧H a=some (G1 C a)∧Q (.bl b) H
end
end L2
namespace L2
open PySem PySem.Spec PyProof.Rows
abbrev t3(C:Addr)(b1 b2 b3:Bool):TE:=EQ (lH (Gn 0 C b1) (lH (Gn 0 C b2) (lH (Gn 0 C b3) zR)))
section
variable{K:PySem.W.Frag}
end
end L2
namespace L2
open PySem PySem.Spec PyProof.Rows
section
variable{X:Cx}{K:PySem.W.Frag}{C:Addr}{x:Str}{p pos rp:Pos}{e:Expr}{fs:FA}
end
section
variable{P:Program}{w:World}{K:PySem.W.Frag}{mg:Str→Option Value}{base:Heap}{N ps:List Str}{qual fn:Str}{scope:Scope}{fa f:Addr}{cd:Value}{A:Around}{outer:List Env}{s:Shared}{H:Hp}{E:XK}{C:Addr}{st:Stmt}{fd:FuncData}{k n k0:Nat}{g:En→Prop}{p pos ep:Pos}{e:Expr}{es:List Expr}{fs:FA}
end
end L2
namespace L2
open PySem PySem.Spec PyProof.Rows
section
variable{X:Cx}{C:Addr}{i:Nat}{x:Str}{p p1 p2 pos:Pos}{vs:List V}{us:List Value}{b:Bool}{cs:List Expr}{ctx:Nat}
end
end L2
namespace L2
open PySem PySem.Spec PyProof.Rows
end L2
namespace L2
open PySem PySem.Spec PyProof.Rows
end L2
namespace L2
open PySem PySem.Spec PyProof.Rows
abbrev f9(l:List Nat):Prop:=l.Pairwise (· < ·)
theorem jY{xs:Array Nat}(hr:f9 xs.toList){i k d:Nat}(h:i < k)(hk:k < xs.size):xs.getD i d < xs.getD k d:=by
  have:=List.pairwise_iff_getElem.mp hr i k (by simpa using Nat.lt_trans h hk) (by simpa using hk) h
  simpa [Array.getD,hk,Nat.lt_trans h hk] using this
theorem mj{xs:Array Nat}{j:Nat}(hr:f9 xs.toList):∀f lo hi:Nat,lo≤hi→hi≤xs.size→hi - lo≤f→(∀i,i < lo→xs.getD i j < j)→(∀i,hi≤i→i < xs.size→j≤xs.getD i j)→
    SetTable.below.go xs j f lo hi≤xs.size∧(∀i,i < SetTable.below.go xs j f lo hi→xs.getD i j < j)∧∀i,SetTable.below.go xs j f lo hi≤i→i < xs.size→j≤xs.getD i j
  | 0,lo,hi,a,b,c,d,e=>by
    have:lo=hi:=by lia
    subst this
    unfold SetTable.below.go
    exact⟨b,d,e⟩
  | f+1,lo,hi,a,b,c,d,e=>by
    unfold SetTable.below.go
    by_cases h:lo < hi
    · rw [if_pos h]
      dsimp only
      by_cases g:xs.getD ((lo+hi) / 2) j < j
      · rw [if_pos g]
        refine mj hr f _ hi (by lia) b (by lia) (fun i hi'=>?_) e
        by_cases q:i=(lo+hi) / 2
        · rw [q];exact g
        · exact Nat.lt_trans (jY hr (by lia:i < (lo+hi) / 2) (by lia)) g
      · rw [if_neg g]
        refine mj hr f lo _ (by lia) (by lia) (by lia) d fun i hi' hs=>?_
        by_cases q:i=(lo+hi) / 2
        · rw [q];exact Nat.le_of_not_lt g
        · exact Nat.le_of_lt (Nat.lt_of_le_of_lt (Nat.le_of_not_lt g) (jY hr (by lia:(lo+hi) / 2 < i) hs))
    · rw [if_neg h]
      have:lo=hi:=by lia
      subst this
      exact⟨b,d,e⟩
theorem qg{xs:Array Nat}{j:Nat}(hr:f9 xs.toList):SetTable.below xs j≤xs.size∧(∀i,i < SetTable.below xs j→xs.getD i j < j)∧∀i,SetTable.below xs j≤i→i < xs.size→j≤xs.getD i j:=
  mj hr _ _ _ (Nat.zero_le _) (Nat.le_refl _) (by lia) (fun i h=>by lia) fun i h g=>by lia
theorem vJ{xs:Array Nat}{j i:Nat}(hr:f9 xs.toList)(hi:i≤xs.size)(a:∀k,k < i→xs.getD k j < j)(b:i < xs.size→j≤xs.getD i j):SetTable.below xs j=i:=by
  obtain⟨c,d,e⟩:=qg (j:=j) hr
  rcases Nat.lt_trichotomy (SetTable.below xs j) i with h | h | h
  · have:=e _ (Nat.le_refl _) (by lia);have:=a _ h;lia
  · exact h
  · have:=d i h;have:=b (by lia);lia
def ma(t:SetTable)(j:Nat):Prop:=t.place[SetTable.below t.place j]?≠some j
theorem oG{t:SetTable}{j:Nat}(h:t.slot j=.empty∨t.slot j=.dummy):ma t j:=by
  intro e
  unfold SetTable.slot at h
  simp [e] at h
theorem qB{xs:Array Nat}{j:Nat}(hr:f9 xs.toList)(hn:xs[SetTable.below xs j]?≠some j):f9 (SetTable.insertAt xs (SetTable.below xs j) j).toList:=by
  obtain⟨c,d,e⟩:=qg (j:=j) hr
  rw [SetTable.toList_insertAt]
  have hd:∀y∈xs.toList.drop (SetTable.below xs j),j < y:=fun y hy=>by
    obtain⟨i,hi⟩:=List.getElem?_of_mem hy
    rw [List.getElem?_drop,Array.getElem?_toList] at hi
    obtain⟨hs,rfl⟩:=Array.getElem?_eq_some_iff.mp hi
    have q:=e _ (Nat.le_add_right _ i) hs
    have e1:xs.getD (SetTable.below xs j+i) j=xs[SetTable.below xs j+i]:=by simp [Array.getD,hs]
    rw [e1] at q
    rcases Nat.lt_or_eq_of_le q with q | q
    · exact q
    · exfalso
      cases i with
      | zero=>exact hn (by rw [Array.getElem?_eq_some_iff];exact⟨hs,q.symm⟩)
      | succ i=>
        have hs':SetTable.below xs j < xs.size:=by lia
        have r:=jY hr (d:=j) (show SetTable.below xs j < SetTable.below xs j+(i+1) by lia) hs
        rw [e1,←q] at r
        have:=e _ (Nat.le_refl _) hs'
        lia
  have ht:∀y∈xs.toList.take (SetTable.below xs j),y < j:=fun y hy=>by
    obtain⟨i,hi⟩:=List.getElem?_of_mem hy
    rw [List.getElem?_take] at hi
    split at hi
    · rename_i g
      rw [Array.getElem?_toList] at hi
      obtain⟨hs,rfl⟩:=Array.getElem?_eq_some_iff.mp hi
      have q:=d i g
      simpa [Array.getD,hs] using q
    · cases hi
  refine List.pairwise_append.mpr ⟨hr.take,List.pairwise_cons.mpr ⟨hd,hr.drop⟩,fun y hy z hz=>?_⟩
  rcases List.mem_cons.mp hz with rfl | hz
  · exact ht y hy
  · exact Nat.lt_trans (ht y hy) (hd z hz)
theorem pC{t:SetTable}{q:Nat→Int}{h:Int}{j:Nat}{dm:Option Nat}:∀(f:Nat) (p:SetTable.Probe),(∀d,p.dummy=some d→ma t d)→SetTable.probe.go t q h f p=some (.empty j dm)→ma t j∧∀d,dm=some d→ma t d
  | 0,p,a,e=>by unfold SetTable.probe.go at e;cases e
  | f+1,p,a,e=>by
    unfold SetTable.probe.go at e
    split at e
    · rename_i c
      cases e
      exact⟨oG (.inl c),a⟩
    · rename_i c
      refine pC f _ (fun d hd=>?_) e
      have:some p.j=some d:=by
        unfold SetTable.advance at hd
        split at hd
        · exact hd
        · exact hd
      cases this
      exact oG (.inr c)
    · split at e
      · cases e
      · refine pC f _ (fun d hd=>a d ?_) e
        unfold SetTable.advance at hd
        split at hd
        · exact hd
        · exact hd
theorem qq{t:SetTable}{h:Int}{j:Nat}{b:Bool}(e:t.freeSlot h=some (j,b)):ma t j:=by
  unfold SetTable.freeSlot at e
  split at e
  · rename_i j' dm c
    obtain⟨x,y⟩:=pC _ _ (fun d hd=>by unfold SetTable.probeStart at hd;cases hd) c
    cases dm with
    | none=>cases e;exact x
    | some d=>cases e;exact y d rfl
  · cases e
theorem fq(t:SetTable)(n:Nat):f9 (t.standIn n).place.toList∧(t.standIn n).led=t.led:=by
  refine⟨?_,rfl⟩
  show f9 (Array.range n).toList
  simpa using List.pairwise_lt_range
theorem mT{t:SetTable}(hr:f9 t.place.toList)(n:Nat):f9 (t.orStandIn n).place.toList∧(t.orStandIn n).led=t.led:=by
  unfold SetTable.orStandIn
  split
  · exact⟨hr,rfl⟩
  · exact fq _ _
theorem qG{t:SetTable}(hr:f9 t.place.toList)(es:Array (Int × Value))(h:Int)(x:Value):f9 (layNew t es h x).2.1.place.toList∧(layNew t es h x).2.1.led=t.led:=by
  unfold layNew
  split
  · rename_i j b e
    exact mT (t:=(t.put j).1) (qB hr (qq e)) _
  · exact fq _ _
theorem mL(f:Nat→Option (Nat × Nat))(hf:∀j p,f j=some p→p.1=j):∀l:List Nat,((l.filterMap f).map (·.1)).Sublist l
  | []=>.slnil
  | j::l=>by
    cases e:f j with
    | none=>rw [List.filterMap_cons_none e];exact(mL f hf l).cons j
    | some p=>
      rw [List.filterMap_cons_some e,List.map_cons,hf j p e]
      exact(mL f hf l).cons_cons j
theorem uL{m fg mv:Nat}{led pl:Bool}{hs:Array Int}{t:SetTable}{od:Array Nat}(e:SetTable.laid m fg mv led pl hs=some (t,od)):f9 t.place.toList∧t.led=led:=by
  unfold SetTable.laid at e
  obtain⟨ow,_,e⟩:=Option.bind_eq_some_iff.mp e
  cases e
  refine⟨?_,rfl⟩
  show f9 (((List.range (m+1)).filterMap fun j=>(ow.getD j none).map (j,·)).map (·.1)).toArray.toList
  rw [List.toList_toArray]
  refine List.Pairwise.sublist (mL _ (fun j p h=>?_) _) List.pairwise_lt_range
  obtain⟨k,_,rfl⟩:=Option.map_eq_some_iff.mp h
  rfl
theorem nR{t:SetTable}(hr:f9 t.place.toList)(es:Array (Int × Value))(n:Nat):f9 (relayAll t es n).2.1.place.toList∧(relayAll t es n).2.1.led=t.led:=by
  unfold relayAll
  split
  · rename_i t' od e
    dsimp only
    split
    · exact uL e
    · exact fq _ _
  · exact fq _ _
end L2
namespace L2
open PySem PySem.Spec PyProof.Rows
def ir(prog:Program)(w:World)(a:Addr)(ms:List Int)(h:Heap):Prop:=∃(es:Array (Int × Value)) (ms':List Int) (o:Obj) (ep:Nat) (t:SetTable),
  h.get? a=some o∧o.ExactSet∧o.data=.set es ep t∧t.fits es.size=true∧f9 t.place.toList∧t.led= !(w.params.followText "set-order")∧ElemsOf (intKind prog w) es.toList∧IntsAre (es.toList.map (·.2)) ms'∧ms'.Perm ms
theorem ir.at{prog:Program}{w:World}{a:Addr}{ms:List Int}{h h':Heap}(x:ir prog w a ms h)(k:∀o,h.get? a=some o→h'.get? a=some o):ir prog w a ms h':=
  let ⟨es,ms',o,ep,t,e,c⟩:=x;⟨es,ms',o,ep,t,k o e,c⟩
section
variable{prog:Program}{w:World}{A:Around}{E:Value→Shared→Prop}{s:Shared}
theorem AF{h:Heap}{a:Addr}{o:Obj}{es es':Array (Int × Value)}{ep:Nat}{t t':SetTable}(ho:h.get? a=some o)(hd:o.data=.set es ep t):(h.update a (Obj.putSet es' t')).get? a=some {o with data:=.set es' (ep+1) t'}:=by
  rw [←putSet_of es' t' hd]
  exact Heap.get?_update_self _ ho (by rw [putSet_of es' t' hd];rfl)
theorem mJ{us vs:List Value}{ms:List Int}(p:us.Perm vs)(hi:IntsAre vs ms):∃ms',IntsAre us ms'∧ms'.Perm ms:=by
  induction p generalizing ms with
  | nil=>exact⟨ms,hi,.rfl⟩
  | cons x _ ih=>
    cases hi with
    | cons _ _ b=>
    obtain⟨m,q,r⟩:=ih b
    exact⟨_,.cons _ _ q,r.cons _⟩
  | swap x y l=>
    cases hi with
    | cons _ _ b=>
    cases b with
    | cons _ _ d=>exact⟨_,.cons _ _ (.cons _ _ d),.swap _ _ _⟩
  | trans _ _ ih1 ih2=>
    obtain⟨m,q,r⟩:=ih2 hi
    obtain⟨m2,q2,r2⟩:=ih1 q
    exact⟨m2,q2,r2.trans r⟩
theorem oA{es es':List (Int × Value)}{ms:List Int}(p:es'.Perm es)(hi:IntsAre (es.map (·.2)) ms):∃ms',IntsAre (es'.map (·.2)) ms'∧ms'.Perm ms:=mJ (p.map _) hi
theorem qC{vs:List Value}{ms:List Int}(hi:IntsAre vs ms)(k:Int):k∈ms↔ ∃u,Value.int k u∈vs:=by
  induction hi with
  | nil=>simp
  | cons n t _ ih=>
    simp only [List.mem_cons,ih]
    constructor
    · rintro(rfl | ⟨u,h⟩)
      · exact⟨_,.inl rfl⟩
      · exact⟨u,.inr h⟩
    · rintro⟨u,h | h⟩
      · cases h;exact .inl rfl
      · exact .inr ⟨u,h⟩
theorem uC{vs:List Value}{ms:List Int}(hi:IntsAre vs ms)(k:Int)(u:Nat):IntsAre (vs++[.int k u]) (ms++[k]):=by
  induction hi with
  | nil=>exact .cons _ _ .nil
  | cons n t _ ih=>exact .cons _ _ ih
theorem x9{g:Bool→Sem Unit}(hg:∀(b:Bool) (s₁:Shared) (Q':Unit→Shared→Prop),Q' () s₁→wpAny (model prog w) A (g b) Q' E s₁){a:Addr}{o:Obj}{es es1:Array (Int × Value)}{ep:Nat}{t t2:SetTable}{ms:List Int}{wd:Bool}{R:Option Bool→Shared→Prop}
    (ho:s.heap.get? a=some o)(hex:o.ExactSet)(hd:o.data=.set es ep t)(hel:ElemsOf (intKind prog w) es1.toList)(hi:∃ms',IntsAre (es1.toList.map (·.2)) ms'∧ms'.Perm ms)(hb:es1.size < scanBound)(hf:t2.fits es1.size=true)(hr:f9 t2.place.toList)(hl:t2.led= !(w.params.followText "set-order"))
    (h:∀h',Heap.SameBut a s.heap h'→ir prog w a ms h'→R (some true) {s with heap:=h'}):
    wpAny (model prog w) A (do storeSet a es1 t2;if (!wd&&t2.tooFull)=true then do g (relayAll t2 es1 (SetTable.grown es1.size)).2.2;storeSet a (relayAll t2 es1 (SetTable.grown es1.size)).1 (relayAll t2 es1 (SetTable.grown es1.size)).2.1;pure (some true) else pure (some true)) R E s:=by
  obtain⟨ms',hi,hp⟩:=hi
  refine wpAny_bind (wpAny_storeSet_of ho hd ?_ (fits_of_scanBound hb))
  have o1:=AF (es':=es1) (t':=t2) ho hd
  have sb:=Heap.SameBut.update s.heap a (Obj.putSet es1 t2)
  by_cases c:(!wd&&t2.tooFull)=true
  · rw [if_pos c]
    have p2:=relayAll_perm t2 es1 (SetTable.grown es1.size)
    have f2:=relayAll_fits t2 es1 (SetTable.grown es1.size)
    obtain⟨r2,l2⟩:=nR hr es1 (SetTable.grown es1.size)
    generalize relayAll t2 es1 (SetTable.grown es1.size)=Rl at p2 f2 r2 l2 ⊢
    obtain⟨es2,t3,gave⟩:=Rl
    dsimp only at p2 f2 r2 l2 ⊢
    have z:es2.size=es1.size:=by rw [←Array.length_toList,p2.length_eq,Array.length_toList]
    refine wpAny_bind (hg _ _ _ ?_)
    refine wpAny_bind (wpAny_storeSet_of o1 rfl ?_ (fits_of_scanBound (by rw [z];exact hb)))
    obtain⟨m2,i2,q2⟩:=oA p2 hi
    exact wpAny_pure (h _ (sb.trans (Heap.SameBut.update _ a _)) ⟨es2,m2,_,_,t3,AF o1 rfl,hex,rfl,f2,r2,l2.trans hl,hel.perm p2,i2,q2.trans hp⟩)
  · rw [if_neg c]
    exact wpAny_pure (h _ sb ⟨es1,ms',_,_,t2,o1,hex,rfl,hf,hr,hl,hel,hi,hp⟩)
theorem Ds{a:Addr}{ms:List Int}{k:Int}{tk:Nat}{Q:Bool→Shared→Prop}(hS:ir prog w a ms s.heap)(hroom:ms.length+1 < scanBound)
    (h:∀b h',Heap.SameBut a s.heap h'→ir prog w a (step_dedup ms k) h'→Q b {s with heap:=h'}):wpAny (model prog w) A (setAddHashed a (.int k tk) ((intKind prog w).hash k)) Q E s:=by
  obtain⟨es,ms',o,ep,t,ho,hex,hd,hf,hrs,hl,hel,hi,hp⟩:=id hS
  have z:es.size=ms.length:=by rw [←Array.length_toList,←hp.length_eq,←hi.length,List.length_map]
  have hb:es.size < scanBound:=by lia
  have hkey:(intKind prog w).is k (.int k tk)=true:=intKind_is _ _ _ _
  unfold setAddHashed setAddHashedIn
  refine wpAny_holding (wpAny_bind (wpAny_setState_of ho hd hf ?_))
  dsimp only
  rw [byScan_of (x:=.int k tk) rfl hb hel,if_pos rfl]
  unfold setAddByScan
  refine wpAny_bind (wpAny_bind (wpAny_rule (wpAny_bind (wpAny_setScan_of hkey ho hd hf hel ?_))))
  cases hr:List.findIdx? (fun e=>(intKind prog w).is k e.2) es.toList with
  | some j=>
    dsimp only
    refine wpAny_pure (wpAny_pure ?_)
    have e:s={s with heap:=s.heap}:=by cases s;rfl
    rw [e]
    refine h _ _ (Heap.SameBut.refl a s.heap) ?_
    obtain⟨hj,hpj,_⟩:=List.findIdx?_eq_some_iff_getElem.mp hr
    obtain⟨u,hu⟩:=Value.isInt_shape hpj
    have hm:k∈ms:=hp.mem_iff.mp ((qC hi k).mpr ⟨u,List.mem_map.mpr ⟨es.toList[j],List.getElem_mem hj,hu⟩⟩)
    have:step_dedup ms k=ms:=if_pos (List.any_eq_true.mpr ⟨k,hm,by simp⟩)
    rw [this]
    exact hS
  | none=>
    dsimp only
    have es':step_dedup ms k=ms++[k]:=if_neg fun c=>by
      obtain⟨k',hk,e⟩:=List.any_eq_true.mp c
      obtain rfl:k'=k:=by simpa using e
      obtain⟨u,hu⟩:=(qC hi k').mp (hp.mem_iff.mpr hk)
      obtain⟨y,hy,ey⟩:=List.mem_map.mp hu
      have:=List.findIdx?_eq_none_iff.mp hr y hy
      rw [ey,intKind_is] at this
      cases this
    rw [es'] at h
    have p1:=layNew_perm t es ((intKind prog w).hash k) (.int k tk)
    have f1:=layNew_fits t es ((intKind prog w).hash k) (.int k tk)
    obtain⟨r1,l1⟩:=qG hrs es ((intKind prog w).hash k) (.int k tk)
    generalize layNew t es ((intKind prog w).hash k) (.int k tk)=L at p1 f1 r1 l1 ⊢
    obtain⟨es1,t1,wd,gave⟩:=L
    dsimp only at p1 f1 r1 l1 ⊢
    rw [Array.toList_push] at p1
    have z1:es1.size=es.size+1:=by rw [←Array.length_toList,p1.length_eq,List.length_append,Array.length_toList];rfl
    have i1:IntsAre ((es.toList++[((intKind prog w).hash k,Value.int k tk)]).map (·.2)) (ms'++[k]):=by
      rw [List.map_append]
      exact uC hi k tk
    obtain⟨m1,j1,q1⟩:=oA p1 i1
    have gw:∀(b:Bool) (s₁:Shared) (Q':Unit→Shared→Prop),Q' () s₁→wpAny (model prog w) A (match b with | true=>rule "set.scan.the-table-gave-way" | false=>pure ()) Q' E s₁:=fun b s₁ Q' q=>by
      cases b
      · exact wpAny_pure q
      · exact wpAny_rule q
    refine wpAny_bind (gw _ _ _ ?_)
    have q2:m1.Perm (ms++[k]):=q1.trans (hp.append_right _)
    split
    · refine wpAny_bind ?_
      rw [hashByValue_scannable 8 (x:=.int k tk) rfl]
      refine wpAny_pure ?_
      refine x9 gw ho hex hd ((hel.push hkey rfl).perm p1) ⟨m1,j1,q2⟩ (by lia) f1 r1 (l1.trans hl) fun h' sb hS'=>?_
      dsimp only
      exact wpAny_pure (h _ h' sb hS')
    · refine wpAny_bind (wpAny_pure ?_)
      rw [if_pos rfl]
      refine x9 gw ho hex hd ((hel.push hkey rfl).perm p1) ⟨m1,j1,q2⟩ (by lia) f1 r1 (l1.trans hl) fun h' sb hS'=>?_
      dsimp only
      exact wpAny_pure (h _ h' sb hS')
end
end L2
namespace L2
open PySem PySem.Spec PyProof.Rows
theorem jw{α:Type}:∀(l:List α) (i:Nat) (h:i < l.length),(l[i]::l.eraseIdx i).Perm l
  | x::l,0,h=>.rfl
  | x::l,i+1,h=>(List.Perm.swap _ _ _).trans ((jw l i (by simpa using h)).cons x)
theorem tN{α:Type}(next:Nat→Nat):∀(f k:Nat) (left:List α) (out:Array α),f=left.length→(pickOrder.go next f k left out).toList.Perm (out.toList++left)
  | 0,k,left,out,e=>by
    have:left=[]:=List.length_eq_zero_iff.mp e.symm
    subst this
    unfold pickOrder.go
    rw [List.append_nil]
  | f+1,k,left,out,e=>by
    unfold pickOrder.go
    have hl:next k % left.length < left.length:=Nat.mod_lt _ (by lia)
    rw [List.getElem?_eq_getElem hl]
    dsimp only
    refine(tN next f (k+1) _ _ (by rw [List.length_eraseIdx_of_lt hl];lia)).trans ?_
    rw [Array.toList_push,List.append_assoc]
    exact(jw _ _ hl).append_left _
theorem uU{α:Type}(next:Nat→Nat)(xs:Array α):(pickOrder next xs).toList.Perm xs.toList:=by
  have:=tN next xs.size 0 xs.toList #[] (by simp)
  rw [show(#[]:Array α).toList++xs.toList=xs.toList from rfl] at this
  exact this
section
variable{prog:Program}{w:World}{A:Around}{E:Value→Shared→Prop}{s:Shared}
theorem vV{src:Source}{n:Nat}{Q:Nat→Shared→Prop}(hn:n≠0)(h:∀i d,i < n→Q i {s with drawn:=d}):wpAny (model prog w) A (choose src n) Q E s:=fun Γ p hΓ=>by
  unfold choose
  rw [Sem.wp_choose]
  exact⟨hn,h _ _ (Nat.mod_lt _ (Nat.pos_of_ne_zero hn))⟩
theorem v_{α:Type}:∀(n:Nat) (xs:List α) (s:Shared) (Q:List α→Shared→Prop),n=xs.length→(∀ys d,ys.Perm xs→Q ys {s with drawn:=d})→wpAny (model prog w) A (drawOrder n xs) Q E s
  | 0,xs,s,Q,e,h=>by
    have:xs=[]:=List.length_eq_zero_iff.mp e.symm
    subst this
    unfold drawOrder
    have:=h [] s.drawn .nil
    exact wpAny_pure this
  | n+1,[],s,Q,e,h=>by cases e
  | n+1,x::xs,s,Q,e,h=>by
    unfold drawOrder
    refine wpAny_bind (vV (by simp) fun i d hi=>?_)
    rw [List.getElem?_eq_getElem hi]
    dsimp only
    refine wpAny_bind (v_ n _ _ _ (by rw [List.length_eraseIdx_of_lt hi];simp at e ⊢;lia) fun ys d' hp=>wpAny_pure (h _ d' ?_))
    exact(hp.cons _).trans (jw _ _ hi)
end
theorem oI:Manifest.owners.lookup (String.ofList ['r', 'o', 't', 'a', 'r', 'e', 't', 'i', '_', 't', 'e', 's'].reverse)=some Manifest.sig_set_iterator:=by kernel_rfl
theorem cq:Slot "set_iterator" "__next__" "set_iterator.__next__":=
  .of (owner:="set_iterator") (n:="__next__") (by rw [typeLookup_type,builtinLookup_eq_fast];kernel_rfl) (by decide+kernel) (by decide+kernel) (by decide+kernel)
    (by first | exact .inl (by decide+kernel) | exact .inr (by decide+kernel)) (by rw [isSubtype_type];kernel_rfl)
theorem iG:entryFor table "set_iterator.__next__"=some Builtin.«set_iterator.__next__»:=entryFor_of_tree (by kernel_rfl)
theorem jm(a:Value):argsOk "set_iterator.__next__" ⟨[a],[]⟩:=by
  unfold argsOk;rw [signature?_of (id:="set_iterator.__next__") (n:=['_', '_', 't', 'x', 'e', 'n', '_', '_']) (o:=['r', 'o', 't', 'a', 'r', 'e', 't', 'i', '_', 't', 'e', 's']) (by kernel_rfl) oI];kernel_rfl
theorem jr:Slot "set_iterator" "__iter__" "set_iterator.__iter__":=
  .of (owner:="set_iterator") (n:="__iter__") (by rw [typeLookup_type,builtinLookup_eq_fast];kernel_rfl) (by decide+kernel) (by decide+kernel) (by decide+kernel)
    (by first | exact .inl (by decide+kernel) | exact .inr (by decide+kernel)) (by rw [isSubtype_type];kernel_rfl)
theorem nH(a:Value):argsOk "set_iterator.__iter__" ⟨[a],[]⟩:=by
  unfold argsOk;rw [signature?_of (id:="set_iterator.__iter__") (n:=['_', '_', 'r', 'e', 't', 'i', '_', '_']) (o:=['r', 'o', 't', 'a', 'r', 'e', 't', 'i', '_', 't', 'e', 's']) (by kernel_rfl) oI];kernel_rfl
theorem mx:entryFor table "set_iterator.__iter__"=some Builtin.«dict_keyiterator.__iter__»:=
  entryFor_alias (id':="dict_keyiterator.__iter__") (by kernel_rfl) (by first | rfl | decide+kernel | (unfold String.splitOn;simp+decide [String.splitOnAux])) (by decide+kernel) (by kernel_rfl)
theorem nM:entryFor table "set.__iter__"=some Builtin.«frozenset.__iter__»:=
  entryFor_alias (id':="frozenset.__iter__") (by kernel_rfl) (by first | rfl | decide+kernel | (unfold String.splitOn;simp+decide [String.splitOnAux])) (by decide+kernel) (by kernel_rfl)
def Dh(h:Heap)(I:Addr)(first:Value)(i:Nat)(a:Addr)(n ep:Nat):Prop:=∃o,h.get? I=some o∧o.cls=.type "set_iterator"∧o.data=.fields #[first,rawInt i,.ref a,rawInt n,rawInt ep]
def EH(t:SetTable):Nat→Nat
  | 0=>0
  | i+1=>t.place.getD i 0+1
inductive sX (w:World) (a:Addr) (es:Array (Int × Value)) (ep:Nat) (t:SetTable) (h:Heap):List Value→Addr→Nat→Value→Prop where
  | text (hb:w.params.followText "set-order"=true) (p:Addr) (i:Nat) (hp:p=a):sX w a es ep t h ((pickOrder (w.params.setOrder a ep) es).toList.map (·.2)) p i (rawInt 0)
  | led (hb:w.params.followText "set-order"=false) (hd:(!t.plain&&es.size > 1)=false) (hl:t.led=true) (hr:f9 t.place.toList) (p:Addr) (i:Nat) (hp:p=a):sX w a es ep t h (es.toList.map (·.2)) p i (rawInt (EH t i))
  | drawn (hb:w.params.followText "set-order"=false) (p:Addr) (i:Nat) (ys:List Nat) (hy:ys.Perm (List.range es.size)) (hp:IsTup h p (ys.map fun(i:Nat)=>rawInt i).toArray):sX w a es ep t h (ys.filterMap fun i=>es[i]?.map (·.2)) p i (.ref p)
theorem sX.len{w:World}{a:Addr}{es:Array (Int × Value)}{ep:Nat}{t:SetTable}{h:Heap}{L:List Value}{p:Addr}{i:Nat}{f:Value}(x:sX w a es ep t h L p i f):L.Perm (es.toList.map (·.2)):=by
  cases x with
  | text=>exact(uU _ es).map _
  | led=>exact .rfl
  | drawn hb p i ys hy hp=>
    refine(hy.filterMap _).trans ?_
    rw [←List.map_filterMap,filterMap_getElem?_range]
end L2
namespace L2
open PySem PySem.Spec PyProof.Rows
section
variable{prog:Program}{w:World}{A:Around}{E:Value→Shared→Prop}{s:Shared}
def p9(w:World)(h:Heap)(a:Addr)(es:Array (Int × Value))(ep:Nat)(t:SetTable):Prop:=∃o,h.get? a=some o∧o.ExactSet∧o.data=.set es ep t∧t.fits es.size=true
def nG(w:World)(I a p:Addr)(es:Array (Int × Value))(ep:Nat)(t:SetTable)(L:List Value)(i:Nat)(h:Heap):Prop:=∃f,Dh h I f i a es.size ep∧p9 w h a es ep t∧sX w a es ep t h L p i f
theorem zL{I a p:Addr}{es:Array (Int × Value)}{ep:Nat}{t:SetTable}{L:List Value}{i:Nat}{Q:Value→Shared→Prop}(x:nG w I a p es ep t L i s.heap)(h:Q (.ref I) s):wpAny (model prog w) A (pyIter (.ref I)) Q E s:=by
  obtain⟨f,⟨o,ho,hc,hd⟩,_⟩:=x
  have hT:s.TypeIs (.ref I) "set_iterator":=⟨o,ho,hc⟩
  refine wpAny_pyIter_slot hT jr (wpAny_call_entry jr hT mx ?_ (nH _))
  show wpAny _ _ (ret (.ref I)) _ _ s
  exact wpAny_pure ⟨_,rfl,"set_iterator",_,hT,cq.lookup,h⟩
theorem jI{Q:Bool→Shared→Prop}(h:Q (w.params.followText "set-order") s):wpAny (model prog w) A setsByText Q E s:=wpAny_bind (wpAny_askSetting (wpAny_pure h))
theorem u_{t:SetTable}(hr:f9 t.place.toList){i:Nat}(hi:i≤t.place.size):SetTable.below t.place (EH t i)=i:=by
  refine vJ hr hi (fun k hk=>?_) fun h=>?_
  · cases i with
    | zero=>lia
    | succ i=>
      show _ < t.place.getD i 0+1
      have e:∀d,t.place.getD k d=t.place.getD k 0:=fun d=>by simp [Array.getD,show k < t.place.size by lia]
      rw [e]
      rcases Nat.lt_or_eq_of_le (Nat.le_of_lt_succ hk) with g | rfl
      · exact Nat.lt_succ_of_lt (jY hr g (by lia))
      · exact Nat.lt_succ_self _
  · cases i with
    | zero=>exact Nat.zero_le _
    | succ i=>
      show t.place.getD i 0+1≤_
      have e:∀d,t.place.getD (i+1) d=t.place.getD (i+1) 0:=fun d=>by simp [Array.getD,h]
      rw [e]
      exact jY hr (Nat.lt_succ_self i) h
theorem wN{a:Addr}{es:Array (Int × Value)}{ep:Nat}{t:SetTable}{L:List Value}{p:Addr}{i k:Nat}{Q:Option (Value × Nat)→Shared→Prop}(x:sX w a es ep t s.heap L p i (rawInt k))(o:p9 w s.heap a es ep t)(hi:i≤es.size)
    (h:∀k':Nat,sX w a es ep t s.heap L p (i+1) (rawInt k')→Q (L[i]?.map fun v=>(v,k')) s):wpAny (model prog w) A (setNext a k i ep) Q E s:=by
  obtain⟨ob,ho,hex,hd,hf⟩:=o
  unfold setNext
  refine wpAny_bind (wpAny_setState_of ho hd hf ?_)
  dsimp only
  generalize ef:rawInt k=f at x
  cases x with
  | text hb p i hp=>
    have e0:k=0:=by simp [rawInt] at ef;lia
    subst e0
    refine wpAny_bind (jI ?_)
    rw [hb,if_pos rfl,if_neg (by simp)]
    refine wpAny_bind ?_
    unfold setWalk
    refine wpAny_bind (wpAny_setState_of ho hd hf ?_)
    dsimp only
    refine wpAny_bind (jI ?_)
    rw [hb,if_pos rfl]
    refine wpAny_bind (wpAny_askSetting (wpAny_pure (wpAny_pure ?_)))
    have:=h 0 (.text hb _ _ hp)
    rw [List.getElem?_map,Array.getElem?_toList] at this
    rw [Option.map_map] at this
    exact this
  | led hb hdr hl hr p i hp=>
    have e0:k=EH t i:=by simp [rawInt] at ef;lia
    subst e0
    refine wpAny_bind (jI ?_)
    rw [hb,if_neg (by simp)]
    refine(show wpAny _ _ (if (!t.plain&&decide (es.size > 1))=true then _ else _) _ _ _ from ?_)
    rw [hdr,if_neg Bool.false_ne_true]
    refine wpAny_bind (show wpAny _ _ (if (!t.led&& !es.isEmpty)=true then unsupported "set:maker-not-led" else pure ()) _ _ _ from ?_)
    rw [hl,if_neg (by simp)]
    refine wpAny_pure (wpAny_pure ?_)
    have hz:t.place.size=es.size:=by
      simp only [SetTable.fits,Bool.and_eq_true,beq_iff_eq] at hf
      exact hf.1
    rw [u_ hr (by lia)]
    have:=h (t.place.getD i 0+1) (.led hb hdr hl hr _ _ hp)
    rw [List.getElem?_map,Array.getElem?_toList] at this
    rcases Nat.lt_or_eq_of_le hi with g | g
    · have g':i < t.place.size:=by lia
      rw [Array.getElem?_eq_getElem g,Array.getElem?_eq_getElem g']
      rw [Array.getElem?_eq_getElem g] at this
      simpa [Array.getD,g'] using this
    · rw [Array.getElem?_eq_none (by lia)]
      rw [Array.getElem?_eq_none (by lia)] at this
      exact this
  | drawn=>cases ef
end
end L2
namespace L2
open PySem PySem.Spec PyProof.Rows
theorem sX.at{w:World}{a:Addr}{es:Array (Int × Value)}{ep:Nat}{t:SetTable}{h h':Heap}{L:List Value}{p:Addr}{i:Nat}{f:Value}(x:sX w a es ep t h L p i f)(k:∀o,h.get? p=some o→h'.get? p=some o):sX w a es ep t h' L p i f:=by
  cases x with
  | text hb p i hp=>exact .text hb _ _ hp
  | led hb hd hl hr p i hp=>exact .led hb hd hl hr _ _ hp
  | drawn hb p i ys hy hp=>exact .drawn hb _ _ ys hy (let ⟨o,e,c⟩:=hp;⟨o,k o e,c⟩)
theorem p9.at{w:World}{a:Addr}{es:Array (Int × Value)}{ep:Nat}{t:SetTable}{h h':Heap}(x:p9 w h a es ep t)(k:∀o,h.get? a=some o→h'.get? a=some o):p9 w h' a es ep t:=let ⟨o,e,c⟩:=x;⟨o,k o e,c⟩
theorem nG.at{w:World}{I a p:Addr}{es:Array (Int × Value)}{ep:Nat}{t:SetTable}{L:List Value}{i:Nat}{h h':Heap}(x:nG w I a p es ep t L i h)(k:∀b∈[I,a,p],∀o,h.get? b=some o→h'.get? b=some o):nG w I a p es ep t L i h':=
  let ⟨f,⟨o,ho,c⟩,y,z⟩:=x;⟨f,⟨o,k I (by simp) o ho,c⟩,y.at (k a (by simp)),z.at (k p (by simp))⟩
section
variable{prog:Program}{w:World}{A:Around}{E:Value→Shared→Prop}{s:Shared}{I a p:Addr}{es:Array (Int × Value)}{ep:Nat}{t:SetTable}{L:List Value}{i:Nat}
theorem kg{Q:Array (Int × Value)→Shared→Prop}(o:p9 w s.heap a es ep t)(h:Q es s):wpAny (model prog w) A (setEntries a) Q E s:=let ⟨_,ho,_,hd,hf⟩:=o;wpAny_bind (wpAny_setState_of ho hd hf (wpAny_pure h))
theorem sG(x:nG w I a p es ep t L i s.heap):L.length=es.size:=by
  obtain⟨f,_,_,y⟩:=x
  rw [y.len.length_eq,List.length_map,Array.length_toList]
theorem qp{ys:List Nat}(hy:ys.Perm (List.range es.size)):(ys.filterMap fun i=>es[i]?.map (·.2))=ys.map fun i=>(es.getD i (0,.none)).2:=by
  have hlt:∀i∈ys,i < es.size:=fun i hi=>List.mem_range.mp (hy.mem_iff.mp hi)
  clear hy
  induction ys with
  | nil=>rfl
  | cons y ys ih=>
    have g:=hlt y (.head _)
    rw [List.filterMap_cons_some (b:=es[y].2) (by rw [Array.getElem?_eq_getElem g];rfl),ih fun i hi=>hlt i (.tail _ hi),List.map_cons]
    simp [Array.getD,g]
theorem zY{f v:Value}{o:Obj}{n:Nat}(ho:s.heap.get? I=some o)(hc:o.cls=.type "set_iterator")(hd:o.data=.fields #[f,rawInt i,.ref a,rawInt n,rawInt ep]){k:Nat}{Q:PySem.Fin→Shared→Prop}
    (h:∀h',Dh h' I (rawInt k) (i+1) a n ep→Heap.SameBut I s.heap h'→Q (.done (.ret v)) {s with heap:=h'}):wpAny (model prog w) A (setField (.ref I) 0 (rawInt k) >>= fun _=>setField (.ref I) 1 (rawInt ((i:Int)+1)) >>= fun _=>ret v) Q E s:=by
  refine wpAny_bind (wpAny_setField ho hd (by simp) ?_)
  have ho1:=Heap.get?_update_self (Obj.mapFields fun x=>x.setIfInBounds 0 (rawInt (k:Int))) ho (Obj.isFreed_of_fields (Obj.data_mapFields hd _))
  have hd1:=Obj.data_mapFields hd fun x=>x.setIfInBounds 0 (rawInt (k:Int))
  have hc1:(Obj.mapFields (fun x=>x.setIfInBounds 0 (rawInt (k:Int))) o).cls=.type "set_iterator":=(Obj.cls_mapFields ..).trans hc
  have k1:Heap.SameBut I s.heap (s.heap.update I (Obj.mapFields fun x=>x.setIfInBounds 0 (rawInt (k:Int)))):=Heap.SameBut.update ..
  generalize s.heap.update I (Obj.mapFields fun x=>x.setIfInBounds 0 (rawInt (k:Int)))=g1 at*
  refine wpAny_bind (wpAny_setField (s:={s with heap:=g1}) ho1 hd1 (by simp) ?_)
  refine wpAny_pure (h _ ?_ (k1.trans (Heap.SameBut.update ..)))
  exact⟨_,Heap.get?_update_self _ ho1 (Obj.isFreed_of_fields (Obj.data_mapFields hd1 _)),(Obj.cls_mapFields ..).trans hc1,by rw [Obj.data_mapFields hd1];simp⟩
theorem zK{Q:Option Value→Shared→Prop}(hne:a≠I)(hnp:p≠I)(x:nG w I a p es ep t L i s.heap)(hi:i < es.size)
    (hQ:∀v h',L[i]?=some v→nG w I a p es ep t L (i+1) h'→Heap.SameBut I s.heap h'→Q (some v) {s with heap:=h'}):wpAny (model prog w) A (pyNext (.ref I)) Q E s:=by
  have hL:=sG x
  obtain⟨f,⟨o,ho,hc,hd⟩,y,z⟩:=x
  have hT:s.TypeIs (.ref I) "set_iterator":=⟨o,ho,hc⟩
  obtain⟨v,hv⟩:∃v,L[i]?=some v:=⟨_,List.getElem?_eq_getElem (by lia)⟩
  unfold pyNext
  refine wpAny_bind (wpAny_attempt (wpAny_callSpecial?_slot (name:=Str.ofString "__next__") hT cq (wpAny_call_entry cq hT iG ?_ (jm _))))
  unfold Builtin.«set_iterator.__next__»
  refine wpAny_bind (wpAny_of_eq (a:=(Value.ref I,[])) rfl ?_)
  dsimp only
  refine wpAny_bind (wpAny_fieldsOf ho hd ?_)
  refine(show wpAny _ _ (setEntries a >>= _) _ _ _ from ?_)
  refine wpAny_bind (kg y ?_)
  rw [if_neg (by simp)]
  have one:∀k:Nat,sX w a es ep t s.heap L p i (rawInt k)→wpAny (model prog w) A.in1 (setNext a k i ep >>= fun r=>match r with
      | some (x,next)=>setField (.ref I) 0 (rawInt next) >>= fun _=>setField (.ref I) 1 (rawInt ((i:Int)+1)) >>= fun _=>ret x
      | none=>setField (.ref I) 2 .none >>= fun _=>newExc (.type "StopIteration") [] >>= fun e=>raiseNew e) (fun fin s'=>∃r,fin=.done (.ret r)∧wpAny (model prog w) A (pure (some r)) Q E s') (fun _ _=>False) s:=fun k z=>by
    refine wpAny_bind (wN z y (by lia) fun k' y'=>?_)
    rw [hv]
    refine zY ho hc hd fun h' u sb=>⟨v,rfl,wpAny_pure (hQ v h' hv ⟨_,u,y.at fun o e=>sb.extBut a o hne e,y'.at fun o e=>sb.extBut p o hnp e⟩ sb)⟩
  cases z with
  | text hb p i hp=>exact wpAny_mono (one 0 (.text hb p i hp)) (fun _ _ h=>h) fun _ _ h=>h.elim
  | led hb hdr hl hr p i hp=>exact wpAny_mono (one (EH t i) (.led hb hdr hl hr p i hp)) (fun _ _ h=>h) fun _ _ h=>h.elim
  | drawn hb p i ys hy hp=>
    obtain⟨op,hop,hcp,np,hdp⟩:=id hp
    rw [qp hy] at hv
    obtain⟨j,hj,rfl⟩:=Option.map_eq_some_iff.mp ((List.getElem?_map ..).symm.trans hv)
    have hlt:j < es.size:=List.mem_range.mp (hy.mem_iff.mp (List.mem_of_getElem? hj))
    refine(show wpAny _ _ (seqItems? (.ref p) >>= _) _ _ _ from wpAny_bind (wpAny_seqItems hop hdp ?_))
    dsimp only
    rw [Int.toNat_natCast,show(ys.map fun(i:Nat)=>rawInt i).toArray[i]?=some (rawInt j) by simp [hj]]
    refine(show wpAny _ _ (setNextDrawn a (Int.toNat j) (Int.toNat ep) >>= _) _ _ _ from ?_)
    rw [Int.toNat_natCast,Int.toNat_natCast]
    obtain⟨ob,hob,hex,hdb,hf⟩:=id y
    refine wpAny_bind ?_
    unfold setNextDrawn
    refine wpAny_bind (wpAny_setState_of hob hdb hf ?_)
    dsimp only
    rw [if_neg (by simp),Array.getElem?_eq_getElem hlt]
    dsimp only
    refine wpAny_pure ?_
    refine wpAny_bind (wpAny_setField ho hd (by simp) ?_)
    have sb:Heap.SameBut I s.heap (s.heap.update I (Obj.mapFields fun x=>x.setIfInBounds 1 (rawInt ((i:Int)+1)))):=Heap.SameBut.update ..
    refine wpAny_pure ⟨_,rfl,wpAny_pure (hQ _ _ ?_ ⟨.ref p,⟨_,Heap.get?_update_self _ ho (Obj.isFreed_of_fields (Obj.data_mapFields hd _)),(Obj.cls_mapFields ..).trans hc,by rw [Obj.data_mapFields hd];simp⟩,y.at fun o e=>sb.extBut a o hne e,.drawn hb _ _ ys hy (let ⟨o,e,c⟩:=hp;⟨o,sb.extBut p o hnp e,c⟩)⟩ sb)⟩
    rw [qp hy,hv]
    simp [Array.getD,hlt]
theorem t9{Q:Option Value→Shared→Prop}{g:Heap}(hh:A.handled=none)(hQ:∀h',(∀b o,g.get? b=some o→h'.get? b=some o)→Q none {s with heap:=h'}):
    wpAny (model prog w) A.in1 (newExc (.type "StopIteration") [] >>= fun e=>raiseNew e) (fun fin s'=>∃r,fin=PySem.Fin.done (.ret r)∧wpAny (model prog w) A (pure (some r)) Q E s') (fun e s'=>wpAny (model prog w) A (isInstance e (.type "StopIteration") >>= fun b=>if b=true then pure none else throw e) Q E s') {s with heap:=g}:=by
  refine wpAny_bind ?_
  simp only [newExc,newTuple]
  refine wpAny_bind (wpAny_newObj_type ?_ (by size_fits))
  refine wpAny_bind (m:=firstArgMember _ _) (wpAny_of_eq (a:=Value.none) (by first | rfl | (simp only [firstArgMember];rfl)) ?_)
  refine wpAny_newObj_type ?_ (by size_fits)
  simp only [raiseNew]
  refine wpAny_bind (wpAny_handled ?_)
  first | rw [show A.in1.handled=none from hh] | rw [hh]
  refine wpAny_bind (wpAny_pure (wpAny_throw ?_))
  refine wpAny_bind (wpAny_isInstance (T:="StopIteration") (b:=true) ⟨_,Heap.get?_push_size _ rfl,rfl⟩ isSubtype_stop ?_)
  exact wpAny_pure (hQ _ fun b o e=>Heap.get?_push_of_some _ (Heap.get?_push_of_some _ e))
theorem CL{Q:Option Value→Shared→Prop}(hh:A.handled=none)(x:nG w I a p es ep t L es.size s.heap)
    (hQ:∀h',Heap.ExtBut I s.heap h'→Q none {s with heap:=h'}):wpAny (model prog w) A (pyNext (.ref I)) Q E s:=by
  have hL:=sG x
  obtain⟨f,⟨o,ho,hc,hd⟩,y,z⟩:=x
  have hT:s.TypeIs (.ref I) "set_iterator":=⟨o,ho,hc⟩
  have hv:L[es.size]?=none:=List.getElem?_eq_none (by lia)
  unfold pyNext
  refine wpAny_bind (wpAny_attempt (wpAny_callSpecial?_slot (name:=Str.ofString "__next__") hT cq (wpAny_call_entry cq hT iG ?_ (jm _))))
  unfold Builtin.«set_iterator.__next__»
  refine wpAny_bind (wpAny_of_eq (a:=(Value.ref I,[])) rfl ?_)
  dsimp only
  refine wpAny_bind (wpAny_fieldsOf ho hd ?_)
  refine(show wpAny _ _ (setEntries a >>= _) _ _ _ from ?_)
  refine wpAny_bind (kg y ?_)
  rw [if_neg (by simp)]
  have one:∀k:Nat,sX w a es ep t s.heap L p es.size (rawInt k)→wpAny (model prog w) A.in1 (setNext a k es.size ep >>= fun r=>match r with
      | some (x,next)=>setField (.ref I) 0 (rawInt next) >>= fun _=>setField (.ref I) 1 (rawInt ((es.size:Int)+1)) >>= fun _=>ret x
      | none=>setField (.ref I) 2 .none >>= fun _=>newExc (.type "StopIteration") [] >>= fun e=>raiseNew e) (fun fin s'=>∃r,fin=PySem.Fin.done (.ret r)∧wpAny (model prog w) A (pure (some r)) Q E s') (fun e s'=>wpAny (model prog w) A (isInstance e (.type "StopIteration") >>= fun b=>if b=true then pure none else throw e) Q E s') s:=fun k z=>by
    refine wpAny_bind (wN z y (Nat.le_refl _) fun k' y'=>?_)
    rw [hv]
    dsimp only [Option.map_none]
    refine wpAny_bind (wpAny_setField ho hd (by simp) ?_)
    exact t9 hh fun h' k=>hQ h' fun b o hb e=>k b o ((Heap.SameBut.update s.heap I _).extBut b o hb e)
  cases z with
  | text hb p i hp=>exact one 0 (.text hb p _ hp)
  | led hb hdr hl hr p i hp=>exact one (EH t es.size) (.led hb hdr hl hr p _ hp)
  | drawn hb p i ys hy hp=>
    obtain⟨op,hop,hcp,np,hdp⟩:=id hp
    refine(show wpAny _ _ (seqItems? (.ref p) >>= _) _ _ _ from wpAny_bind (wpAny_seqItems hop hdp ?_))
    dsimp only
    have hz:ys.length=es.size:=by rw [hy.length_eq,List.length_range]
    rw [Int.toNat_natCast,show(ys.map fun(i:Nat)=>rawInt i).toArray[es.size]?=none by simp [hz]]
    dsimp only
    refine wpAny_bind (wpAny_setField ho hd (by simp) ?_)
    have ho1:=Heap.get?_update_self (Obj.mapFields fun x=>x.setIfInBounds 0 (rawInt 0)) ho (Obj.isFreed_of_fields (Obj.data_mapFields hd _))
    have hd1:=Obj.data_mapFields hd fun x=>x.setIfInBounds 0 (rawInt 0)
    have k1:Heap.SameBut I s.heap (s.heap.update I (Obj.mapFields fun x=>x.setIfInBounds 0 (rawInt 0))):=Heap.SameBut.update ..
    generalize s.heap.update I (Obj.mapFields fun x=>x.setIfInBounds 0 (rawInt 0))=g1 at*
    refine wpAny_bind (wpAny_setField (s:={s with heap:=g1}) ho1 hd1 (by simp) ?_)
    exact t9 hh fun h' k=>hQ h' fun b o hb e=>k b o ((Heap.SameBut.update g1 I _).extBut b o hb (k1.extBut b o hb e))
theorem xU(hh:A.handled=none)(hne:a≠I)(hnp:p≠I):Walks prog w A I [I,a,p] [I] es.size (fun i v=>L[i]?=some v) (fun i h=>nG w I a p es ep t L i h) where
  sub:=fun b hb=>by simp at hb;simp [hb]
  frame:=fun _ _ _ st hk=>st.at hk
  item:=fun i s Q E hi st hQ=>zK hne hnp st hi fun v h' e st' sb=>hQ v h' s.toks e st' fun b o hb q=>sb.extBut b o (fun z=>hb (by simp [z])) q
  done:=fun s Q E st hQ=>CL hh st fun h' k=>hQ h' s.toks fun b o hb q=>k b o (fun z=>hb (by simp [z])) q
  self:=fun _ _ _ _ st hQ=>zL st hQ
end
end L2
namespace L2
open PySem PySem.Spec PyProof.Rows
section
variable{prog:Program}{w:World}{A:Around}{E:Value→Shared→Prop}{s:Shared}{a:Addr}{es:Array (Int × Value)}{ep:Nat}{t:SetTable}
theorem Bi{Q:Value→Shared→Prop}(y:p9 w s.heap a es ep t)(hr:f9 t.place.toList)(hl:t.led= !(w.params.followText "set-order"))(hz:es.size < scanBound)
    (hQ:∀I p L h' d,nG w I a p es ep t L 0 h'→s.heap.objs.size≤I→a≠I→p≠I→I < h'.objs.size→p < h'.objs.size→(∀b o,s.heap.get? b=some o→h'.get? b=some o)→Q (.ref I) {s with heap:=h',drawn:=d}):wpAny (model prog w) A (pyIter (.ref a)) Q E s:=by
  obtain⟨ob,ho,hex,hd,hf⟩:=id y
  have hT:s.TypeIs (.ref a) "set":=⟨ob,ho,hex.1⟩
  have hlt:=Heap.lt_size ho
  refine wpAny_pyIter_slot hT F.slot_set_iter (wpAny_call_entry F.slot_set_iter hT nM ?_ (F.args_set_iter_1 _))
  unfold Builtin.«frozenset.__iter__»
  refine wpAny_bind (wpAny_of_eq (a:=a) rfl ?_)
  refine wpAny_bind (show wpAny _ _ (setEntries a >>= fun e=>pure e.size) _ _ _ from wpAny_bind (kg y (wpAny_pure ?_)))
  unfold setDrawn
  refine wpAny_bind (wpAny_bind (wpAny_setState_of ho hd hf ?_))
  dsimp only
  refine wpAny_bind (jI ?_)
  refine(show wpAny _ _ (pure (!(w.params.followText "set-order")&&(!t.plain&&decide (es.size > 1)))) _ _ _ from wpAny_pure ?_)
  have fin:∀(f:Value) (p:Addr) (L:List Value) (s1:Shared),(∀b o,s.heap.get? b=some o→s1.heap.get? b=some o)→s.heap.objs.size≤s1.heap.objs.size→(∃d,s1={s with heap:=s1.heap,drawn:=d})→p < s1.heap.objs.size→sX w a es ep t s1.heap L p 0 f→
      wpAny (model prog w) A.in1 (setEpoch a >>= fun e=>newFields "set_iterator" [f,rawInt 0,.ref a,rawInt es.size,rawInt e] >>= fun r=>ret r) (fun fin s'=>∃v,fin=PySem.Fin.done (.ret v)∧∃T id,Shared.TypeIs s' v T∧typeLookup (.type T) "__next__"=pure (some id)∧Q v s') E s1:=fun f p L s1 k z ⟨d,e⟩ hp W=>by
    have hk:s1.heap.get? a=some ob:=k a _ ho
    refine wpAny_bind (wpAny_setEpoch_of hk hd hf ?_)
    refine wpAny_bind (wpAny_newObj_type (wpAny_pure ⟨_,rfl,"set_iterator",_,⟨_,Heap.get?_push_size _ rfl,rfl⟩,cq.lookup,?_⟩))
    rw [e]
    have hka:=Heap.lt_size hk
    refine hQ s1.heap.objs.size p L _ d ⟨f,⟨_,Heap.get?_push_size _ rfl,rfl,rfl⟩,⟨ob,Heap.get?_push_of_some _ hk,hex,hd,hf⟩,W.at fun o e=>Heap.get?_push_of_some _ e⟩ z (Nat.ne_of_lt hka) (Nat.ne_of_lt hp) (by rw [Heap.size_push];exact Nat.lt_succ_self _) (by rw [Heap.size_push];exact Nat.lt_succ_of_lt hp) fun b o e=>Heap.get?_push_of_some _ (k b o e)
  cases hb:w.params.followText "set-order" with
  | true=>
    rw [hb] at hl
    rw [if_neg (by simp)]
    refine wpAny_bind (wpAny_pure ?_)
    exact fin _ a _ s (fun b o e=>e) (Nat.le_refl _) ⟨s.drawn,rfl⟩ hlt (.text hb a 0 rfl)
  | false=>
    rw [hb] at hl
    by_cases hdr:(!t.plain&&decide (es.size > 1))=true
    · rw [hdr,if_pos (by rfl)]
      refine wpAny_bind (v_ _ _ _ _ (by simp) fun ys d hy=>?_)
      have hyl:ys.length=es.size:=by rw [hy.length_eq,List.length_range]
      refine wpAny_bind (wpAny_newTuple ?_ (by rw [List.length_map,hyl];exact fits_of_scanBound hz))
      refine fin _ s.heap.objs.size _ _ (fun b o e=>Heap.get?_push_of_some _ e) (by show _≤(Heap.push _ _).objs.size;rw [Heap.size_push];exact Nat.le_succ _) ⟨d,rfl⟩ (by show _ < (Heap.push _ _).objs.size;rw [Heap.size_push];exact Nat.lt_succ_self _) (.drawn hb _ 0 ys hy ⟨_,Heap.get?_push_size _ rfl,rfl,_,rfl⟩)
    · have hdr':(!t.plain&&decide (es.size > 1))=false:=by simpa using hdr
      rw [hdr',if_neg (by simp)]
      refine wpAny_bind (wpAny_pure ?_)
      exact fin _ a _ s (fun b o e=>e) (Nat.le_refl _) ⟨s.drawn,rfl⟩ hlt (.led hb hdr' hl hr a 0 rfl)
end
end L2
namespace L2
open PySem PySem.Spec PyProof.Rows
section
variable{prog:Program}{w:World}{A:Around}{E:Value→Shared→Prop}{s:Shared}
theorem Be{r:Addr}{Q:Bool→Shared→Prop}(hT:s.TypeIs (.ref r) "set")(h:Q false s):wpAny (model prog w) A (Builtin.List.listLengthHint (.ref r)) Q E s:=by
  unfold Builtin.List.listLengthHint
  refine wpAny_bind (wpAny_specialOf hT F.slot_set_len.lookup ?_)
  generalize e:("set.__len__":String)=i0
  wp_delta
  rw [show splitId i0=some ("set","__len__") by subst e;decide+kernel]
  subst e
  refine wpAny_bind (wpAny_isInstance (T:="set") (b:=true) hT (by rw [isSubtype_type];kernel_rfl) ?_)
  refine wpAny_ite_split (fun z=>absurd z (by decide)) (fun _=>?_)
  refine wpAny_ite_split (fun _=>?_) (fun z=>absurd (by decide+kernel) z)
  exact wpAny_bind (wpAny_typeOf hT (wpAny_pure h))
theorem r6{L:List Value}{acc:Array Value}(h:ItemsOf (fun i v=>L[i]?=some v) acc L.length):acc.toList=L:=by
  refine List.ext_getElem? fun i=>?_
  rw [Array.getElem?_toList]
  rcases Nat.lt_or_ge i acc.size with g | g
  · rw [Array.getElem?_eq_getElem g]
    exact(h.2 i acc[i] (Array.getElem?_eq_getElem g)).symm
  · rw [Array.getElem?_eq_none g,List.getElem?_eq_none (by rw [←h.1];exact g)]
theorem uq{a:Addr}{ms:List Int}{Q:List Value→Shared→Prop}(hh:A.handled=none)(hS:ir prog w a ms s.heap)(hz:ms.length < scanBound)
    (hQ:∀L ms' h' tk d,IntsAre L ms'→ms'.Perm ms→s.heap.objs.size≤h'.objs.size→(∀b o,s.heap.get? b=some o→h'.get? b=some o)→Q L {s with heap:=h',toks:=tk,drawn:=d}):wpAny (model prog w) A (collect (.ref a)) Q E s:=by
  obtain⟨es,ms',o,ep,t,ho,hex,hd,hf,hrs,hl,hel,hi,hp⟩:=hS
  have z:es.size=ms.length:=by rw [←Array.length_toList,←hp.length_eq,←hi.length,List.length_map]
  have hlt:=Heap.lt_size ho
  unfold collect
  refine wpAny_bind (wpAny_runValue (codeAny_builtin F.entry_proto_collect ?_))
  rw [Around.under_plainId F.plain_proto_collect _]
  show wpAny _ A.in1 (newList [] >>= fun l=>again (.builtin "list.__iadd__" ⟨[l,.ref a],[]⟩)) _ _ s
  refine wpAny_bind (wpAny_newObj_type ?_)
  refine wpAny_pure ⟨plainId_quiet F.plain_list_iadd _,codeAny_builtin F.entry_list_iadd ?_⟩
  rw [Around.under_plainId F.plain_list_iadd _]
  let o0:Obj:={cls:=.type "list",data:=.seq ([]:List Value).toArray}
  have y1:p9 w (s.heap.push o0) a es ep t:=⟨o,Heap.get?_push_of_some _ ho,hex,hd,hf⟩
  have hT1:Shared.TypeIs {s with heap:=s.heap.push o0} (.ref a) "set":=⟨o,Heap.get?_push_of_some _ ho,hex.1⟩
  show wpAny _ A.in1 (Builtin.List.listExtendWith (.ref s.heap.objs.size) (.ref a) (.ref s.heap.objs.size)) _ _ {s with heap:=s.heap.push o0}
  unfold Builtin.List.listExtendWith
  refine wpAny_bind (wpAny_typeOf hT1 ?_)
  rw [if_neg (by
    have:Builtin.List.listSameRef (.ref s.heap.objs.size) (.ref a)=false:=by simp [Builtin.List.listSameRef,(Nat.ne_of_lt hlt).symm]
    rw [this];decide)]
  refine wpAny_bind (Bi (s:={s with heap:=s.heap.push o0}) y1 hrs hl (by lia) fun I p L h1 d x hI hne hnp hIl hpl k1=>?_)
  have hS1:(s.heap.push o0).get? s.heap.objs.size=some o0:=Heap.get?_push_size _ rfl
  have hS2:h1.get? s.heap.objs.size=some o0:=k1 _ _ hS1
  have hT2:Shared.TypeIs ({s with heap:=h1,drawn:=d}:Shared) (.ref a) "set":=⟨o,k1 _ _ (Heap.get?_push_of_some _ ho),hex.1⟩
  have hIz:(s.heap.push o0).objs.size≤I:=hI
  rw [Heap.size_push] at hIz
  refine wpAny_bind (wpAny_holding (Be hT2 ?_))
  rw [if_pos (by decide+kernel)]
  refine wpAny_bind (wpAny_rule ?_)
  refine wpAny_bind ?_
  show wpAny _ A.in1 (updateSeq s.heap.objs.size (·.push .none) >>= fun _=>updateSeq s.heap.objs.size (·.pop)) _ _ {s with heap:=h1,drawn:=d}
  refine wpAny_bind (wpAny_updateSeq hS2 rfl ?_)
  have hS3:=Heap.get?_update_self (Obj.mapSeq (·.push Value.none)) hS2 rfl
  refine wpAny_updateSeq hS3 rfl ?_
  have hS4:=Heap.get?_update_self (Obj.mapSeq (·.pop)) hS3 rfl
  have oth:∀b o,b≠s.heap.objs.size→h1.get? b=some o→((h1.update s.heap.objs.size (Obj.mapSeq (·.push Value.none))).update s.heap.objs.size (Obj.mapSeq (·.pop))).get? b=some o:=
    fun b o hb e=>(Heap.get?_update_other _ _ (Ne.symm hb)).trans ((Heap.get?_update_other _ _ (Ne.symm hb)).trans e)
  have hpS:p≠s.heap.objs.size:=by
    obtain⟨f,_,_,W⟩:=x
    cases W with
    | text hb p i hp=>rw [hp];exact Nat.ne_of_lt hlt
    | led hb hdr hl hr p i hp=>rw [hp];exact Nat.ne_of_lt hlt
    | drawn hb p i ys hy hp=>
      obtain⟨op,e1,e2,_⟩:=hp
      intro q
      rw [q,hS2] at e1
      cases e1
      exact absurd e2 (by decide)
  have hSf:s.heap.objs.size∉[I,a,p]:=by
    simp only [List.mem_cons,List.not_mem_nil,or_false,not_or]
    exact⟨Nat.ne_of_lt (by lia),(Nat.ne_of_lt hlt).symm,hpS.symm⟩
  have hh2:A.in1.in1.handled=none:=hh
  have hL:=sG (s:={s with heap:=h1,drawn:=d}) x
  have W:=(xU (prog:=prog) (w:=w) (A:=A.in1) (es:=es) (ep:=ep) (t:=t) (L:=L) hh hne hnp).toS
  refine wpAny_pure ⟨plainId_quiet F.plain_extend_loop _,codeAny_extend_loopS W (fits_of_scanBound (by lia)) _ hSf _ es.size 0 _ _ _ rfl (Nat.zero_le _) (x.at fun b hb o e=>oth b o (fun q=>hSf (by rw [←q];exact hb)) e) hS4 (ItemsOf.nil _) fun s' acc' c' hm hS' hacc=>?_⟩
  show wpAny _ A (load s.heap.objs.size >>= _) _ _ s'
  refine wpAny_bind (wpAny_load hS' (wpAny_pure ?_))
  obtain⟨h',g',d',tk',os'⟩:=s'
  have eg:g'=s.gens:=hm.gens
  have ed:d'=d:=hm.drawn
  have eo:os'=s.os:=hm.os
  subst eg;subst ed;subst eo
  rw [←hL] at hacc
  rw [r6 hacc]
  obtain⟨f,_,_,W⟩:=x
  obtain⟨m2,i2,q2⟩:=mJ W.len hi
  refine hQ L m2 h' tk' _ i2 (q2.trans hp) (Nat.le_of_lt (Heap.lt_size hS')) fun b o e=>?_
  have hb:=Heap.lt_size e
  refine hm.heap b o ?_ (oth b o (Nat.ne_of_lt hb) (k1 b o (Heap.get?_push_of_some _ e)))
  simp only [List.mem_cons,List.not_mem_nil,or_false,not_or]
  exact⟨Nat.ne_of_lt hb,Nat.ne_of_lt (Nat.lt_trans hb (by lia))⟩
theorem xV{a:Addr}{ms:List Int}{Q:Value→Shared→Prop}(hh:A.handled=none)(hS:ir prog w a ms s.heap)(hz:ms.length < 64)
    (hQ:∀(q:Addr) (out:Array Value) (ns:List Int) (h':Heap) (tk:Nat) (d:Drawn) (e:Nat),IntsAre out.toList ns→ns.Perm ms→ns.Pairwise (· ≤·)→s.heap.objs.size≤q→(∀b o,s.heap.get? b=some o→h'.get? b=some o)→h'.get? q=some (seqObj "list" out e)→Q (.ref q) {s with heap:=h',toks:=tk,drawn:=d}):wpAny (model prog w) A (call (.builtin "sorted") [.ref a]) Q E s:=by
  refine Calls.call_function_entry kind_sorted plain_sorted entry_sorted (args_sorted1 _) ?_
  unfold Builtin.«sorted»
  refine wpAny_bind (m:=checkCount "sorted" 1 1 _) (wpAny_pure ?_)
  refine wpAny_bind (uq hh hS (Nat.lt_of_lt_of_le hz (by decide)) fun L ms' h1 tk d hI hp hsz k1=>?_)
  have hl:L.length < 64:=by rw [hI.length,hp.length_eq];exact hz
  have o:(h1.push (seqObj "list" L.toArray 0)).get? h1.objs.size=some (seqObj "list" L.toArray 0):=Heap.get?_push_size _ rfl
  refine wpAny_bind (wpAny_newList ?_)
  show wpAny _ _ _ _ _ ({s with heap:=h1.push (seqObj "list" L.toArray 0),toks:=tk,drawn:=d}:Shared)
  refine wpAny_bind (wpAny_holding (wpAny_call_entry slot_list_sort ⟨_,o,rfl⟩ entry_list_sort (list_sort_tree o hI hl fun out ns' b1 b2 b3=>⟨_,rfl,?_⟩) (args_list_sort _)))
  have u1:=Heap.get?_push_of_some (seqObj "list" #[] 0) (Heap.get?_push_of_some (seqObj "tuple" L.toArray 0) (Heap.get?_update_self (Obj.mapSeq fun _=>(#[]:Array Value)) o rfl))
  have u2:=Heap.get?_update_self (Obj.mapSeq fun _=>out) u1 rfl
  refine wpAny_pure ⟨_,rfl,hQ h1.objs.size out ns' _ tk d _ b1 (b2.trans hp) b3 hsz (fun b ob e=>?_) u2⟩
  have hb:h1.objs.size≠b:=(Nat.ne_of_lt (Nat.lt_of_lt_of_le (Heap.lt_size e) hsz)).symm
  exact(Heap.get?_update_other _ _ hb).trans (Heap.get?_push_of_some _ (Heap.get?_push_of_some _ ((Heap.get?_update_other _ _ hb).trans (Heap.get?_push_of_some _ (k1 b ob e)))))
end
end L2
namespace L2
open PySem PySem.Spec PyProof.Rows
section
variable{prog:Program}{w:World}{A:Around}{E:Value→Shared→Prop}{s:Shared}
theorem xT(a:Value){Q₁:Value→Shared→Prop}(h:Q₁ (.ref s.heap.objs.size) {s with heap:=s.heap.push {cls:=.type "set",dict:=none,data:=.set #[] 0 (.fresh 0 0 (!(w.params.followText "set-order")))}}):
    codeAny (model prog w) A (.call (.builtin "set.__new__") ⟨[.type "set",a],[]⟩) (wants Q₁ E) s:=by
  refine codeAny_of_tree (show wpAny _ A.in1 (checkBuiltinCall "set.__new__" ⟨[.type "set",a],[]⟩ >>= fun _=>again (.builtin "set.__new__" ⟨[.type "set",a],[]⟩)) _ _ s from ?_)
  refine wpAny_bind (wpAny_of_eq (F.newCall_set_1 a) (wpAny_pure ⟨plainId_quiet F.plain_set_new _,codeAny_builtin F.entry_set_new ?_⟩));rw [Around.under_plainId F.plain_set_new _]
  unfold Builtin.«set.__new__» Builtin.Frozenset.newClass;have hsub:=sub_set_self
  obtain⟨hp,g,d,tk,os⟩:=s
  wp_walk
  refine wpAny_askSetting (wpAny_pure ?_)
  dsimp only
  unfold newObj;refine wpAny_bind (wpAny_alloc (wpAny_pure (wpAny_pure h)))
theorem u9{R:Result→Shared→Prop}{I:Addr}{fp wr:List Addr}{G:Array GenState→Array GenState→Prop}{n:Nat}{P:Nat→Value→Prop}{St:Nat→Shared→Prop}(W:WalksS prog w A.in1 I fp wr G n P St)(S:Addr)(hSf:S∉fp)(val:Nat→Int)(hval:∀i v,P i v→∃t,v=.int (val i) t)(hb:n+1 < scanBound):
    ∀(k i:Nat) (s:Shared),n - i=k→i≤n→St i s→ir prog w S (firstMet val i) s.heap→(∀s',Moved (S::wr) G s s'→ir prog w S (firstMet val n) s'.heap→R (.ok (.ret .none)) s')→codeAny (model prog w) A (.builtin "set.update.loop" ⟨[.ref S,.ref I],[]⟩) R s:=by
  have hSw:S∉wr:=fun h=>hSf (W.sub _ h)
  have hsub:∀b∈wr,b∈S::wr:=fun b hb=>List.mem_cons_of_mem _ hb
  intro k
  induction k with
  | zero=>
    intro i s hk hi hst hS hR
    obtain rfl:i=n:=by lia
    refine codeAny_builtin F.entry_set_update_loop ?_;rw [Around.under_plainId F.plain_set_update_loop _]
    refine(show wpAny _ A.in1 (pyNext (.ref I) >>= _) _ _ s from wpAny_bind (W.done s _ _ hst fun s' hm=>?_))
    exact(show wpAny _ A.in1 (ret Value.none) _ _ s' from wpAny_pure (hR s' (hm.mono hsub) (hS.at fun o e=>hm.heap S _ hSw e)))
  | succ k ih=>
    intro i s hk hi hst hS hR
    have hlt:i < n:=by lia
    refine codeAny_builtin F.entry_set_update_loop ?_;rw [Around.under_plainId F.plain_set_update_loop _]
    refine(show wpAny _ A.in1 (pyNext (.ref I) >>= _) _ _ s from wpAny_bind (W.item i s _ _ hlt hst fun v s' hP hst' hm=>?_))
    obtain⟨t,rfl⟩:=hval i v hP
    have hS':ir prog w S (firstMet val i) s'.heap:=hS.at fun o e=>hm.heap S _ hSw e
    refine(show wpAny _ A.in1 (holding [Value.int (val i) t] (setAdd S (.int (val i) t)) >>= _) _ _ s' from wpAny_bind (wpAny_holding ?_))
    unfold setAdd
    refine wpAny_holding (wpAny_bind ((intKind prog w).pyHash (k:=val i) (intKind_is _ _ _ _) ?_))
    refine Ds (s:={s' with toks:=s'.toks+1}) hS' (by have:=firstMet_length_le val i;lia) fun b h' sb hS2=>?_
    rw [←firstMet_succ] at hS2
    refine wpAny_pure ⟨plainId_quiet F.plain_set_update_loop _,ih (i+1) _ (by lia) hlt (W.frame _ s' _ _ hst' (Nat.le_succ _) fun b hb o e=>(sb.2 b fun h:b=S=>hSf (by rw [←h];exact hb)) ▸ e) hS2 fun s'' hm'' hS''=>hR s'' (Moved.trans W.gtrans ((hm.mono hsub).then_heap (Nat.le_succ _) fun b o hb e=>(sb.2 b fun h:b=S=>hb (by rw [h];exact List.mem_cons_self)) ▸ e) hm'') hS''⟩
theorem nI{prog:Program}{w:World}{A:Around}{E:Value→Shared→Prop}{s:Shared}{l:Addr}{items:Array Value}{ns:List Int}{Q:Value→Shared→Prop}(hh:A.handled=none)(hl:s.heap.IsTuple l items)(hi:IntsAre items.toList ns)(hb:items.size+1 < scanBound)
    (h:∀(h':Heap) (tk:Nat),ir prog w s.heap.objs.size (firstMet (fun i=>ns.getD i 0) items.size) h'→(∀b o,b < s.heap.objs.size→s.heap.get? b=some o→h'.get? b=some o)→Q (.ref s.heap.objs.size) {s with heap:=h',toks:=tk}):
    wpAny (model prog w) A (call (.type "set") [.ref l]) Q E s:=by
  obtain⟨c,tl,hmro⟩:=F.called_set.mro;have hmade:=F.called_set.made;have hsub:=F.called_set.sub
  refine wpAny_call (codeAny_of_tree ?_);show wpAny _ _ (callAny (.type "set") _) _ _ _
  refine wpAny_pure ⟨Code.quiet_builtin _ (by decide+kernel),codeAny_builtin F.entry_type_call ?_⟩;rw [Around.under_plain (weight_type_call_type "set" [.ref l] []) rfl]
  have h1:=F.called_set.notType;have h2:=F.called_set.canCreate;have hct:=F.typeCall_set_1 (.ref l);repeat (any_goals (first | assumption | wp_step))
  let nw:Bool→Obj:=fun led=>{cls:=.type "set",dict:=none,data:=.set #[] 0 (.fresh 0 0 led)}
  refine codeAny_mono (xT (.ref l) (E:=E) (Q₁:=fun obj s₁=>∃led:Bool,obj=.ref s.heap.objs.size∧s₁={s with heap:=s.heap.push (nw led)}∧led= !(w.params.followText "set-order")) ⟨_,rfl,rfl,rfl⟩) fun r s₁ hr=>?_
  cases r with
  | error e=>exact hr
  | ok fl=>
    cases fl with
    | ret obj=>
      obtain⟨led,rfl,rfl,hld⟩:=hr;have hS:(s.heap.push (nw led)).get? s.heap.objs.size=some (nw led):=Heap.get?_push_size _ rfl
      have hT:Shared.TypeIs {s with heap:=s.heap.push (nw led)} (.ref s.heap.objs.size) "set":=⟨_,hS,rfl⟩
      have hli:=F.called_set.init.lookup;have hbi:=F.called_set.init.bind (.ref s.heap.objs.size);repeat (any_goals (first | assumption | wp_step))
      refine codeAny_mono (codeAny_call_builtin (R:=wants (fun r s₂=>r=.none∧∃h' tk,s₂={s with heap:=h',toks:=tk}∧ir prog w s.heap.objs.size (firstMet (fun i=>ns.getD i 0) items.size) h'∧(∀b o,b < s.heap.objs.size→s.heap.get? b=some o→h'.get? b=some o)) E) F.called_set.init.plain F.entry_set_init (check_set_init_1 hT ?_)) fun r₂ s₂ hr₂=>?_
      · obtain⟨ol,hol,hcl,nl,hdl⟩:=hl;obtain⟨ocls,odict,odata,oslots⟩:=ol;simp only at hcl hdl;subst hcl;subst hdl
        have hol':(s.heap.push (nw led)).get? l=some {cls:=.type "tuple",dict:=odict,data:=.seq items nl,slots:=oslots}:=Heap.get?_push_of_some _ hol
        have hsls:=rm;have hslf:=nu;have hne:(Value.type "tuple"==Value.type "dict")=false:=by decide
        have hl1:(s.heap.push (nw led)).IsTuple l items:=⟨_,hol',rfl,nl,rfl⟩
        unfold Builtin.«set.__init__» noKeywords Builtin.Frozenset.updateFrom;generalize hPI:pyIter=PI
        wp_walk
        subst hPI
        refine wpAny_pyIter_tuple hl1 ?_;refine wpAny_bind (wpAny_runValue ?_);have hlS:l < s.heap.objs.size:=Heap.lt_size hol
        have hh3:A.in1.in1.in1.handled=none:=by simp [hh]
        have hneI:l≠(s.heap.push (nw led)).objs.size:=by rw [Heap.size_push];exact Nat.ne_of_lt (Nat.lt_succ_of_lt hlS)
        have hSf:s.heap.objs.size∉[(s.heap.push (nw led)).objs.size,l]:=by
          rw [Heap.size_push];simp only [List.mem_cons,List.mem_singleton,List.not_mem_nil,or_false,not_or];exact⟨Nat.ne_of_lt (Nat.lt_succ_self _),Nat.ne_of_gt hlS⟩
        have hval:∀(i:Nat) (v:Value),items[i]?=some v→∃t,v=.int ((fun i=>ns.getD i 0) i) t:=fun i v hv=>IntsAre.int_at hi i v (by rw [Array.getElem?_toList];exact hv)
        refine u9 ((Walks.tuple hh3 _ l hneI items).toS) s.heap.objs.size hSf (fun i=>ns.getD i 0) hval hb (items.size - 0) 0 _ (by lia) (Nat.zero_le _) ⟨⟨_,Heap.get?_push_size _ rfl,rfl,rfl⟩,(hl1.at fun o e=>Heap.get?_push_of_some _ e)⟩ ?hS0 ?hR
        case hS0=>exact⟨#[],[],_,0,_,Heap.get?_push_of_some _ hS,⟨rfl,rfl,rfl⟩,rfl,rfl,.nil,hld,(fun e he=>by cases he),.nil,.nil⟩
        case hR=>
          intro s' hm hS';obtain⟨h',g',d',tk',os'⟩:=s';have eg:g'=s.gens:=hm.gens;have ed:d'=s.drawn:=hm.drawn;have eo:os'=s.os:=hm.os
          subst eg;subst ed;subst eo;show wpAny _ _ _ _ _ _
          refine wpAny_pure ?_;show wpAny _ _ (ret Value.none) _ _ _;refine wpAny_pure ⟨rfl,h',tk',rfl,hS',fun b o hb e=>?_⟩
          have hb1:b≠s.heap.objs.size:=Nat.ne_of_lt hb;have hb2:b≠(s.heap.push (nw led)).objs.size:=by rw [Heap.size_push];exact Nat.ne_of_lt (Nat.lt_succ_of_lt hb)
          exact hm.heap b o (by simp only [List.mem_cons,List.mem_singleton,List.not_mem_nil,or_false,not_or];exact⟨hb1,hb2⟩) (Heap.get?_push_of_some _ (Heap.get?_push_of_some _ e))
      · cases r₂ with
        | error e=>exact hr₂
        | ok fl₂=>
          cases fl₂ with
          | ret r=>obtain⟨rfl,h',tk,rfl,hS',hk'⟩:=hr₂;(repeat (any_goals (first | assumption | wp_step)));exact h _ _ hS' hk'
          | next=>exact hr₂.elim
          | brk=>exact hr₂.elim
          | cont=>exact hr₂.elim
    | next=>exact hr.elim
    | brk=>exact hr.elim
    | cont=>exact hr.elim
end
end L2
namespace L2
open PySem PySem.Spec PyProof.Rows
section
variable{X:Cx}{K:PySem.W.Frag}{a:Expr}{fa:FE}{pos p pos2 p2:Pos}
def Ex(X:Cx):List V→Hp→VK→Prop:=fun xs H Q=>∃(l:Addr) (ns:List Int),xs=[.ref l]∧bX X.K H l (ns.map V.int)∧ns.length≤1000∧∀q,H q=none→Q (.ref q) (bi H q (.ext (ir X.prog X.w q (p8 ns))))
theorem um(hc:X.calm=true):cU X (.type "set") (Ex X):=by
  intro pins s σ H xs us Q I r h
  obtain⟨l,ns,rfl,hs,hn,q⟩:=h
  obtain⟨u,rfl,ru⟩:=mS r
  cases ru
  have hf:H s.heap.objs.size=none:=I.hok.fresh (Nat.le_refl _)
  obtain⟨its,rv,pl,hz⟩:=I.tuple hs
  have hl:=rv.length
  rw [List.length_map] at hl
  have e1:its.toArray.size=ns.length:=by simp [hl]
  refine nI (ns:=ns) (I.ok.hd hc) pl (mH rv) (by rw [e1];unfold scanBound;lia) fun h' tk hS hk=>?_
  rw [e1,lg] at hS
  refine⟨.ref s.heap.objs.size,_,I.laid (o:=.ext (ir X.prog X.w s.heap.objs.size (p8 ns))) (fun b o e=>hk b o (Heap.lt_size e) e) (Nat.le_refl _) ⟨hS,?_,fun h1 h2 x k=>x.at k⟩,rfl,q _ hf⟩
  obtain⟨_,_,o,_,_,ho,_⟩:=hS
  exact⟨o,ho⟩
theorem aA.drw{pins:List (Addr × Obj)}{σ:List (Option V)}{H:Hp}{s:Shared}(I:aA X pins σ H s)(d:Drawn):aA X pins σ H {s with drawn:=d}:=⟨I.ok,I.os,I.bare,I.base,I.loc,I.cell,I.free,I.freeC,I.pin,I.hok,I.len⟩
def EB(X:Cx):List V→Hp→VK→Prop:=fun xs H Q=>∃(q:Addr) (ms:List Int),xs=[.ref q]∧H q=some (.ext (ir X.prog X.w q ms))∧ms.length < 64∧∀(l:Addr) (H':Hp),au H H'→H l=none→H' l=some (.lst ((ci ms).map V.int))→Q (.ref l) H'
theorem uo(hc:X.calm=true):cU X (.builtin "sorted") (EB X):=by
  intro pins s σ H xs us Q I r h
  obtain⟨p,ms,rfl,hs,hn,q⟩:=h
  obtain⟨u,rfl,ru⟩:=mS r
  cases ru
  have hS:ir X.prog X.w p ms s.heap:=(I.hok p _ hs).1
  refine xV (I.ok.hd hc) hS hn fun l out ns h' tk d e a1 a2 a3 hl k he=>?_
  have hf:H l=none:=I.hok.fresh hl
  have es:=ni a2 a3
  subst es
  refine⟨.ref l,bi H l (.lst ((ci ms).map V.int)),((I.drw d).laid (t':=tk) (fun b o e=>k b o e) hl ⟨?_,out.toList,e,jf a1,?_⟩),rfl,q _ _ (au.new hf) hf aw⟩
  · rw [List.length_map,a2.length_eq]
    exact Nat.le_trans (Nat.le_of_lt hn) (by decide)
  · simpa [seqObj] using he
def gA:En→Rv→Option Rv:=fun e x=>match x with
  | .d (.tuple ds)=>(oz ds).bind fun ns=>if ns.length < 64 then some (.l ((ci (p8 ns)).map .int)) else none
  | _=>none
theorem vc:C' K (fun v H Q=>∃(l:Addr) (ns:List Int),v=.ref l∧bX K H l (ns.map V.int)∧ns.length < 64∧∀(l:Addr) (H':Hp),au H H'→H l=none→H' l=some (.lst ((ci (p8 ns)).map V.int))→Q (.ref l) H') gA:=by
  intro σ H0 F H e x z v Q R A hg q
  unfold gA at hg
  split at hg
  case h_2=>cases hg
  case h_1 ds=>
  obtain⟨ns,h6,hg⟩:=Option.bind_eq_some_iff.mp hg
  split at hg
  case isFalse=>cases hg
  case isTrue hl=>
  cases hg
  obtain⟨p,vs,rfl,d1,s1⟩:=cB R A (show dU e (.d (.tuple ds))=some (false,ds) from rfl)
  have e1:ds=ns.map .int:=mI h6
  subst e1
  have e2:=aM.ints.mp d1
  subst e2
  refine⟨p,ns,rfl,s1,hl,fun l H' sm hn hl'=>?_⟩
  obtain⟨R4,X4⟩:=R.same sm
  exact q F H' _ X4 R4 ⟨l,_,rfl,hn,R.freeF hn,hl',aM.ints.mpr rfl,fun z=>R.ownH l ((R.sameOwn sm l).mp z) hn⟩
theorem uW(hc:X.calm=true)(hK:X.K=K)(hg:Gl X "sorted")(hm:X.mg "sorted"=none)(hgs:Gl X "set")(hms:X.mg "set"=none)(ha:PE X a (fE K fa))(hs:starEach [a] X.env=(false,eval a X.env)::starEach [] X.env)(hpl:(backTo pos2 (starEach [] X.env)).any (·.1)=false)
    (hs2:starEach [.Call (.Name "set" p2) [a] [] pos2] X.env=(false,eval (.Call (.Name "set" p2) [a] [] pos2) X.env)::starEach [] X.env)(hpl2:(backTo pos (starEach [] X.env)).any (·.1)=false):
    PE X (.Call (.Name "sorted" p) [.Call (.Name "set" p2) [a] [] pos2] [] pos) (fE K (kO gA fa)):=
  (mU (uo hc) hg hm PyProof.Rows.boot_sorted (jU (ku (um hc) hgs hms PyProof.Rows.boot_set (jU ha pU hs) (by decide) (by decide) hs hpl) pU hs2) (by decide) (by decide) hs2 hpl2).mono fun σ H Q h=>by
    subst hK
    refine tG (sQ vc h) fun v H1 ⟨l,ns,e,h1,h2,h3⟩=>?_
    refine⟨l,ns,by rw [e],h1,by lia,fun q hq=>⟨q,p8 ns,rfl,aw,Nat.lt_of_le_of_lt (rS ns) h2,fun l2 H2 sm hn hl=>h3 l2 H2 ((au.new hq).trans sm) ?_ hl⟩⟩
    by_cases c:l2=q
    · rw [c];exact hq
    · rw [aH c] at hn;exact hn
theorem rV{e:En}{ns:List Int}(h:ns.length < 64):gA e (.d (.tuple (ns.map .int)))=some (.l ((ci (p8 ns)).map .int)):=by
  simp [gA,kl,h]
end
end L2
namespace L2
open PySem PySem.Spec PyProof.Rows
def AJ(a b c:Int)(t u v:Tok):Obj:={cls:=.type "range",data:=.fields #[.int a t,.int b u,.int c v]}
theorem ED(r:Addr)(a b c i:Int)(t u v k:Tok):Meets (Builtin.«range.__contains__» ⟨[.ref r,.int i k],[]⟩) (fun _ R s=>s.heap.get? r=some (AJ a b c t u v)∧R (.ok (.ret (.bool (Builtin.Range.rangePlace? a b c i).isSome))) s):=
  .of_wp fun prog w A R s h=>by
    obtain⟨ho,h⟩:=h
    unfold Builtin.«range.__contains__»
    refine wpAny_bind (wpAny_of_eq (a:=(Value.ref r,[Value.int i k])) rfl ?_)
    dsimp only [Builtin.Range.rangeExactInt?]
    refine wpAny_bind (wpAny_rule ?_)
    unfold Builtin.Range.rangeFields
    refine wpAny_bind (wpAny_bind (wpAny_field ho rfl (x:=.int a t) rfl ?_))
    refine wpAny_bind (wpAny_of_eq (a:=some a) rfl ?_)
    refine wpAny_bind (wpAny_field ho rfl (x:=.int b u) rfl ?_)
    refine wpAny_bind (wpAny_of_eq (a:=some b) rfl ?_)
    refine wpAny_bind (wpAny_field ho rfl (x:=.int c v) rfl ?_)
    refine wpAny_bind (wpAny_of_eq (a:=some c) rfl ?_)
    exact wpAny_pure (wpAny_pure ⟨_,rfl,h⟩)
section
variable{X:Cx}{K:PySem.W.Frag}{a b1 b2 b3:Expr}{fa:FE}{fs:FA}{pos p pos2 p2:Pos}
def Fh(q:Addr)(i j k:Int)(h:Heap):Prop:=∃t u v,h.get? q=some (AJ i j k t u v)
def Eu:List V→Hp→VK→Prop:=fun xs H Q=>∃i j k,xs=[.int i,.int j,.int k]∧0 < k∧k < 2 ^ 30∧ -2 ^ 60 < i∧i < 2 ^ 60∧ -2 ^ 60 < j∧j < 2 ^ 60∧∀q,H q=none→Q (.ref q) (bi H q (.ext (Fh q i j k)))
theorem vT:cU X (.type "range") Eu:=by
  intro pins s σ H xs us Q I r h
  obtain⟨i,j,k,rfl,k0,k1,i0,i1,j0,j1,q⟩:=h
  cases r with
  | cons r1 r=>
  cases r with
  | cons r2 r=>
  cases r with
  | cons r3 r=>
  cases r
  obtain⟨t,rfl⟩:=r1
  obtain⟨u,rfl⟩:=r2
  obtain⟨v,rfl⟩:=r3
  have hf:H s.heap.objs.size=none:=I.hok.fresh (Nat.le_refl _)
  refine call_range_3 (by lia) ?_ (.inl (PyProof.noPylong_small (by lia)))
  refine⟨.ref s.heap.objs.size,_,I.laid (o:=.ext (Fh s.heap.objs.size i j k)) (t':=s.toks) (fun b o e=>Heap.get?_push_of_some _ e) (Nat.le_refl _) ⟨⟨t,u,v,Heap.get?_push_size _ rfl⟩,⟨_,Heap.get?_push_size _ rfl⟩,fun h1 h2 ⟨t,u,v,e⟩ k=>⟨t,u,v,k _ e⟩⟩,rfl,q _ hf⟩
def Et:R2:=fun x y H Q=>∃n q i j k,x=.int n∧y=.ref q∧H q=some (.ext (Fh q i j k))∧Q (.bl (!(Builtin.Range.rangePlace? i j k n).isSome)) H
theorem BX:eW X (compareOp .NotIn) Et:=by
  intro pins s σ H x y v u Q I rx ry h
  obtain⟨n,q,i,j,k,rfl,rfl,hq,h⟩:=h
  obtain⟨tk,rfl⟩:=rx
  cases ry
  obtain⟨⟨t1,t2,t3,e⟩,_⟩:=(I.hok q _ hq)
  exact SeqRoads2.notIn_meets ⟨_,e,rfl⟩ F.slot_range_contains F.entry_range_contains (F.args_range_contains_2 _ _) (ED q i j k n t1 t2 t3 tk) ⟨e,_,rfl,.bl _,H,I,rfl,h⟩
def vp(fa:FE)(fs:FA):FE:=fun e=>(fa e).bind fun p=>(fs p.2).bind fun q=>(bh p.1).bind fun n=>match q.1 with
  | [r1,r2,r3]=>(bh r1).bind fun i=>(bh r2).bind fun j=>(bh r3).bind fun k=>if 0 < k∧k < 2 ^ 30∧ -2 ^ 60 < i∧i < 2 ^ 60∧ -2 ^ 60 < j∧j < 2 ^ 60 then some (.d (.bool (!(Builtin.Range.rangePlace? i j k n).isSome)),q.2) else none
  | _=>none
theorem z9{σ:L2.St}{H:Hp}{Q:VK}(h:fE K (vp fa fs) σ H Q):Dg Et (fE K fa) (Ft Eu (fA K fs)) σ H Q:=by
  obtain⟨F,e,z,e2,R,hf,q⟩:=h
  unfold vp at hf
  obtain⟨⟨x,e1⟩,h1,hf⟩:=Option.bind_eq_some_iff.mp hf
  obtain⟨⟨ys,e2'⟩,h2,hf⟩:=Option.bind_eq_some_iff.mp hf
  obtain⟨n,h3,hf⟩:=Option.bind_eq_some_iff.mp hf
  match ys,h2,hf with
  | [r1,r2,r3],h2,hf=>
  obtain⟨i,k1,hf⟩:=Option.bind_eq_some_iff.mp hf
  obtain⟨j,k2,hf⟩:=Option.bind_eq_some_iff.mp hf
  obtain⟨k,k3,hf⟩:=Option.bind_eq_some_iff.mp hf
  split at hf
  case isFalse=>cases hf
  case isTrue hc=>
  obtain⟨c0,c1,c2,c3,c4,c5⟩:=hc
  cases hf
  refine⟨F,e,x,e1,R,h1,fun F1 H1 v X1 R1 A1=>⟨F1,e1,_,_,R1,h2,fun F2 H2 us X2 R2 A2=>?_⟩⟩
  have X12:=X1.trans X2
  obtain⟨u1,u2,u3,rfl,a1,a2,a3⟩:=uZ A2
  obtain rfl:=bD a1 k1
  obtain rfl:=bD a2 k2
  obtain rfl:=bD a3 k3
  obtain rfl:=bD A1 h3
  refine⟨i,j,k,rfl,c0,c1,c2,c3,c4,c5,fun l hl=>⟨n,l,i,j,k,rfl,rfl,aw,?_⟩⟩
  obtain⟨R3,X3⟩:=R2.same (au.new hl (o:=.ext (Fh l i j k)))
  exact q F2 _ _ (X12.trans X3) R3 cz
theorem Ct(hK:X.K=K)(hg:Gl X "range")(hm:X.mg "range"=none)(ha:PE X a (fE K fa))(hb:PA X [b1,b2,b3] (fA K fs))(hs:starEach [b1,b2,b3] X.env=(false,eval b1 X.env)::starEach [b2,b3] X.env)(hpl:(backTo pos2 (starEach [b2,b3] X.env)).any (·.1)=false)(hb2:behindInMarks .NotIn (.Call (.Name "range" p2) [b1,b2,b3] [] pos2)=false):
    PT X (.Compare a [.NotIn] [.Call (.Name "range" p2) [b1,b2,b3] [] pos2] pos) (fT K (av (vp fa fs))):=(tO BX ha (ku vT hg hm PyProof.Rows.boot_range hb (by decide) (by decide) hs hpl) hb2).mono fun σ H Q h=>by
  obtain⟨F,e,z,e2,R,hf,q⟩:=nD h
  exact z9 ⟨F,e,z,e2,R,hf,q⟩
end
end L2
namespace V03
open PySem PySem.Spec PyProof.Rows L2
variable{P:Program}{w:World}{K:W.Frag}{mg:Str→Option Value}{base:Heap}{f:Addr}{fd:FuncData}
local macro_rules|`(tactic|trivial)=>`(tactic|first|exact .inl rfl|exact .inr rfl|assumption)
local macro_rules|`(¬$n:num)=>`(@qw _ _ $n _ _ (by rfl) (by rfl) (by decide))
local macro_rules|`($a∘$b)=>`(@Gf _ _ _ _ _ _ $a $b (by rfl))
def top(i:Nat):Stmt:=PySem.Challenge.pw_askedpairs_k03_stands_of_anything.main.body.getD i (.Pass ⟨0,0,0,0⟩)
theorem k_{α:Type u}{β:Type v}{f:α→β}:List.map f []=[]:=rfl
theorem k9{α:Type u}{β:Type v}{f:α→β}{a:α}{l:List α}:List.map f (a::l)=f a::List.map f l:=rfl
theorem kX{α:Type u}{l:List α}:[]++l=l:=rfl
theorem kW{α:Type u}{a:α}{l m:List α}:(a::l)++m=a::(l++m):=rfl
theorem kZ{α:Type u}{a:α}{l:List α}:(a::l)[0]?=some a:=rfl
theorem k8{α:Type u}{a:α}{l:List α}{i:Nat}:(a::l)[i+1]?=l[i]?:=rfl
theorem kY{α:Type u}{β:Type v}{a:α}{f:α→Option β}:Option.bind (some a) f=f a:=rfl
theorem lc{α:Type u}{β:Type v}{a:α}{f:α→β}:Option.map f (some a)=some (f a):=rfl
abbrev dC:Stmt:=top 1
abbrev bj:Stmt:=top 2
abbrev dD:Stmt:=top 3
abbrev bO:Stmt:=top 4
abbrev dF:Stmt:=top 6
abbrev bZ:Stmt:=top 7
abbrev bK:Stmt:=top 8
abbrev dk:Stmt:=top 9
abbrev jb:Stmt:=top 11
abbrev ja:Stmt:=top 12
abbrev ia:Stmt:=top 13
abbrev oM:Stmt:=top 14
abbrev oN:Stmt:=top 15
abbrev kL:Stmt:=top 16
abbrev gH:Stmt:=top 17
abbrev jc:Stmt:=top 18
abbrev kM:Stmt:=top 19
abbrev oQ:Stmt:=top 20
abbrev ek:Stmt:=top 21
abbrev oO:Stmt:=top 22
abbrev gG:Stmt:=top 23
abbrev ej:Stmt:=top 24
abbrev oP:Stmt:=top 25
abbrev dB:Stmt:=top 26
abbrev dj:Stmt:=top 27
abbrev kJ:Stmt:=top 28
abbrev el:Stmt:=top 29
abbrev kG:Stmt:=top 30
abbrev ly:Stmt:=top 31
structure jD (mg:Str→Option Value):Prop where
  b_abs:mg "abs"=none
  b_len:mg "len"=none
  b_min:mg "min"=none
  b_max:mg "max"=none
  b_range:mg "range"=none
  b_repr:mg "repr"=none
  b_tuple:mg "tuple"=none
  b_int:mg "int"=none
  b_sorted:mg "sorted"=none
  b_zip:mg "zip"=none
  b_isinstance:mg "isinstance"=none
  b_bool:mg "bool"=none
  b_set:mg "set"=none
  b_all:mg "all"=none
  b_list:mg "list"=none
noncomputable def kQ:FS:=(aQ (gL (kO (jO "int") (ac 0)) (i3 (kO (jO "bool") (ac 0)))))
noncomputable def eN:FM:=hU 1 0 [] kQ
theorem j2:aL ["thing"] ["thing"] (aj dC):=⟨rfl,rfl,rfl,by decide+kernel,rfl,by decide+kernel,by decide+kernel⟩
theorem pQ(h:bH K mg "is_number" dC f fd ["thing"])(T:jD mg):aU P w K mg base cD 1 f fd ["thing"] (cM K 1 eN):=by
  have nd:=j2.nd
  exact h.fn j2 rfl rfl (fun cdv A outer s H E hr=>(@ah _ _ _ _ _ (@aq _ _ _ _ _ (@sx _ _ _ _ _ _ _ _ (@lw _ _ _ _ _ _ _ _ "int" rfl (by decide) rfl T.b_isinstance rfl T.b_int PyProof.Rows.boot_int (by decide) (by decide) (¬0) (by rfl) (by rfl)) (@sA _ _ _ _ _ _ (@Co _ _ _ _ _ (@lw _ _ _ _ _ _ _ _ "bool" rfl (by decide) rfl T.b_isinstance rfl T.b_bool PyProof.Rows.boot_bool (by decide) (by decide) (¬0) (by rfl) (by rfl))))))))
noncomputable def ce:FS:=(aQ (gL (dG 1 eN (aa (ac 0) ag)) (iY Ba Ba (ac 1) (ac 0) (ac 2))))
noncomputable def a7:FM:=hU 3 0 [] ce
theorem eV:aL ["thing","low","high"] ["thing","low","high"] (aj bj):=⟨rfl,rfl,rfl,by decide+kernel,rfl,by decide+kernel,by decide+kernel⟩
theorem ji(h:bH K mg "is_number_within" bj f fd ["thing","low","high"])(T:jD mg){f_is_number:Addr}{e_is_number:FuncData}(h_is_number:bH K mg "is_number" dC f_is_number e_is_number ["thing"])(G_is_number:aU P w K mg base cD 1 f_is_number e_is_number ["thing"] (cM K 1 eN)):aU P w K mg base cD 2 f fd ["thing","low","high"] (cM K 3 a7):=by
  have nd:=eV.nd
  exact h.fn eV rfl rfl (fun cdv A outer s H E hr=>(@ah _ _ _ _ _ (@aq _ _ _ _ _ (@sx _ _ _ _ _ _ _ _ (@bC _ _ _ _ _ _ _ _ _ _ _ _ _ _ _ h_is_number G_is_number (hr.mono (by decide)) ((¬0)∘ab) (by rfl) (by decide) (by rfl) (by rfl)) (@sA _ _ _ _ _ _ (@zC _ _ _ _ _ _ _ _ _ _ _ _ _ (@AZ _ _) (@AZ _ _) (¬1) (¬0) (¬2) (by with_unfolding_all rfl)))))))
noncomputable def iC:FS:=(aQ (gL (kO (jO "tuple") (ac 0)) (am (bL false) (aE (g1 eE) (aa (ac 0) ag)) (ac 1))))
noncomputable def dA:FM:=hU 2 0 [] iC
theorem j3:aL ["thing","many"] ["thing","many"] (aj dD):=⟨rfl,rfl,rfl,by decide+kernel,rfl,by decide+kernel,by decide+kernel⟩
theorem pR(h:bH K mg "is_row_of" dD f fd ["thing","many"])(T:jD mg):aU P w K mg base cD 1 f fd ["thing","many"] (cM K 2 dA):=by
  have nd:=j3.nd
  exact h.fn j3 rfl rfl (fun cdv A outer s H E hr=>(@ah _ _ _ _ _ (@aq _ _ _ _ _ (@sx _ _ _ _ _ _ _ _ (@lw _ _ _ _ _ _ _ _ "tuple" rfl (by decide) rfl T.b_isinstance rfl T.b_tuple PyProof.Rows.boot_tuple (by decide) (by decide) (¬0) (by rfl) (by rfl)) (@sA _ _ _ _ _ _ (@jW _ _ _ _ _ _ _ _ _ (@iD _ _ _ rfl hr) (@aZ _ _ _ _ _ _ _ _ _ (@b_len _ _ rfl) (by rfl) T.b_len ((¬0)∘ab) (by decide) (by decide) (by rfl) (by rfl)) (¬1) (aI _)))))))
noncomputable def dR:FI:=(kj (ac 0))
noncomputable def a_:FS:=(az (dX (fL (av (dG 3 a7 (aa (ac 3) (aa (ac 2) (aa (am gY (ac 1) (vC (.int 1))) ag))))))
    (aQ (vC (.bool false)))
    bx)
    (bv 2 (am ba (ac 3) (vC (.int 1)))))
noncomputable def c9:FS:=(az (dX (fL (av (kO (jO "tuple") (ac 0))))
    (aQ (vC (.bool false)))
    bx)
    (az (bv 2 (vC (.int 0)))
    (az (c7 ([3]++(([]++[])++[2])) dR (ai 3) a_)
    (aQ (vC (.bool true))))))
noncomputable def bf:FM:=hU 2 2 (([]++[])++([2]++(([3]++(([]++[])++[2]))++[]))) c9
theorem gJ:aL ["thing","many","least","part"] ["thing","many"] (aj bO):=⟨rfl,rfl,rfl,by decide+kernel,rfl,by decide+kernel,by decide+kernel⟩
theorem kr(h:bH K mg "is_rising_row" bO f fd ["thing","many"])(T:jD mg){f_is_number_within:Addr}{e_is_number_within:FuncData}(h_is_number_within:bH K mg "is_number_within" bj f_is_number_within e_is_number_within ["thing","low","high"])(G_is_number_within:aU P w K mg base cD 2 f_is_number_within e_is_number_within ["thing","low","high"] (cM K 3 a7)):aU P w K mg base cD 3 f fd ["thing","many"] (cM K 2 bf):=by
  have nd:=gJ.nd
  exact h.fn gJ rfl rfl (fun cdv A outer s H E hr=>(@af _ _ _ _ _ _ _ _ (@bo _ _ _ _ _ _ _ _ _ _ _ (@eT _ _ _ _ _ (@cQ _ _ _ _ (@lw _ _ _ _ _ _ _ _ "tuple" rfl (by decide) rfl T.b_isinstance rfl T.b_tuple PyProof.Rows.boot_tuple (by decide) (by decide) (¬0) (by rfl) (by rfl)) (by intro _;rfl)))
      (@ah _ _ _ _ _ (@aq _ _ _ _ _ (@bM _ _ _ _ _)))
      (@aF _ _))
      (@af _ _ _ _ _ _ _ _ (@aJ _ _ _ _ _ 2 _ _ nd rfl (Or.inl rfl) ae (by rfl) (by trivial))
      (@af _ _ _ _ _ _ _ _ (@ee _ _ _ _ _ _ _ _ _ _ _ PassesOwn.never rfl (@h8 _ _ _ _ _ rfl (¬0)) (@aN _ _ _ 3 _ nd rfl (Or.inl rfl) (by trivial))
      (@af _ _ _ _ _ _ _ _ (@bo _ _ _ _ _ _ _ _ _ _ _ (@eT _ _ _ _ _ (@cQ _ _ _ _ (@bC _ _ _ _ _ _ _ _ _ _ _ _ _ _ _ h_is_number_within G_is_number_within (hr.mono (by decide)) ((¬3)∘((¬2)∘((@qX _ _ _ _ _ _ _ (¬1) ae)∘ab))) (by rfl) (by decide) (by rfl) (by rfl)) (by intro _;rfl)))
      (@ah _ _ _ _ _ (@aq _ _ _ _ _ (@bM _ _ _ _ _)))
      (@aF _ _))
      (@ah _ _ _ _ _ (@aJ _ _ _ _ _ 2 _ _ nd rfl (Or.inl rfl) (@bu _ _ _ _ _ _ _ rfl (¬3) ae) (by rfl) (by trivial)))) (by intro _;rfl))
      (@ah _ _ _ _ _ (@aq _ _ _ _ _ (@bM _ _ _ _ _)))))))
noncomputable def kS:FS:=(aQ (jd (am dZ (am dZ (ac 0) (vC (.int 1))) (ac 1)) bG (bE (vC (.int 2)))))
noncomputable def eO:FM:=hU 2 0 [] kS
theorem j5:aL ["web","tie"] ["web","tie"] (aj dF):=⟨rfl,rfl,rfl,by decide+kernel,rfl,by decide+kernel,by decide+kernel⟩
theorem pT(h:bH K mg "things_of" dF f fd ["web","tie"])(T:jD mg):aU P w K mg base cD 1 f fd ["web","tie"] (cM K 2 eO):=by
  have nd:=j5.nd
  exact h.fn j5 rfl rfl (fun cdv A outer s H E hr=>(@ah _ _ _ _ _ (@aq _ _ _ _ _ (@cw _ _ _ _ _ _ _ _ _ _ rfl (@bW _ _ _ _ _ _ _ rfl (@bW _ _ _ _ _ _ _ rfl (¬0) ae (fun _ _=>rfl)) (¬1) (fun _ _=>rfl)) (@cx _ _) (@cy _ _ _ _ ae)))))
noncomputable def jp:FI:=(kj (ac 1))
noncomputable def cX:FT:=(av (am (yh false) (ac 0) (dG 2 eO (aa (ac 1) (aa (ac 2) ag)))))
noncomputable def cY:FE:=(ac 2)
noncomputable def kR:FS:=(aQ (aE (g1 eE) (aa (iZ [(2,"thing"),(0,"web")] 1 jp (ai 2) cX cY) ag)))
noncomputable def cG:FM:=hU 3 0 [] kR
theorem j4:aL ["web","asked","thing"] ["web","asked","thing"] (aj bZ):=⟨rfl,rfl,rfl,by decide+kernel,rfl,by decide+kernel,by decide+kernel⟩
theorem pS(h:bH K mg "many_asks" bZ f fd ["web","asked","thing"])(T:jD mg){f_things_of:Addr}{e_things_of:FuncData}(h_things_of:bH K mg "things_of" dF f_things_of e_things_of ["web","tie"])(G_things_of:aU P w K mg base cD 1 f_things_of e_things_of ["web","tie"] (cM K 2 eO)):aU P w K mg base cD 2 f fd ["web","asked","thing"] (cM K 3 cG):=by
  have nd:=j4.nd
  exact h.fn j4 rfl rfl (fun cdv A outer s H E hr=>(@ah _ _ _ _ _ (@aq _ _ _ _ _ (@aZ _ _ _ _ _ _ _ _ _ (@b_len _ _ rfl) (by rfl) T.b_len ((@kB _ _ _ _ _ _ _ _ _ _ _ _ _ (aj bZ) ["web","asked","thing"] [(2,"thing"),(0,"web")] ["tie"] rfl rfl rfl (@h8 _ _ _ _ _ rfl (¬1))
        (fun C s0 H0 fp=>(@aN _ _ _ 2 _ (show List.Nodup (["thing","web","tie"]:List Str) by decide+kernel) rfl (Or.inl rfl) (by trivial))) (fun C s0 H0 fp=>(@lZ _ _ _ _ (@aS _ _ _ _ _ _ _ _ _ (@yq _ _ _ rfl hr) (¬0) (@bC _ _ _ _ _ _ _ _ _ _ _ _ _ _ _ h_things_of G_things_of (hr.mono (by decide)) ((¬1)∘((¬2)∘ab)) (by rfl) (by decide) (by rfl) (by rfl)) (by with_unfolding_all rfl))))
        (fun C s0 H0 fp=>(¬2)) rfl (by decide+kernel) (by decide+kernel) (by decide+kernel) (by decide+kernel) (by decide+kernel) (by decide+kernel) (by decide+kernel) (by intro _;rfl))∘ab) (by decide) (by decide) (by rfl) (by rfl)))))
noncomputable def d_:FI:=(cK (aa (am dZ (ac 0) (vC (.int 0))) ag))
noncomputable def bU:FE:=(am Ba (dG 3 cG (aa (ac 0) (aa (ac 1) (aa (ac 2) ag)))) (am dZ (am dZ (ac 0) (vC (.int 2))) (ac 2)))
noncomputable def fD:FS:=(az (dX (av (am yB (aE (g1 eE) (aa (ac 1) ag)) (am dZ (ac 0) (vC (.int 3)))))
    (aQ (vC (.bool false)))
    bx)
    (aQ (aE (g1 (jo lj)) (aa (iZ [(0,"web"),(1,"asked")] 1 d_ (ai 2) nv bU) ag))))
noncomputable def bV:FM:=hU 2 0 (([]++[])++[]) fD
theorem ik:aL ["web","asked"] ["web","asked"] (aj bK):=⟨rfl,rfl,rfl,by decide+kernel,rfl,by decide+kernel,by decide+kernel⟩
theorem lP(h:bH K mg "keeps_bounds" bK f fd ["web","asked"])(T:jD mg){f_many_asks:Addr}{e_many_asks:FuncData}(h_many_asks:bH K mg "many_asks" bZ f_many_asks e_many_asks ["web","asked","thing"])(G_many_asks:aU P w K mg base cD 2 f_many_asks e_many_asks ["web","asked","thing"] (cM K 3 cG)):aU P w K mg base cD 3 f fd ["web","asked"] (cM K 2 bV):=by
  have nd:=ik.nd
  exact h.fn ik rfl rfl (fun cdv A outer s H E hr=>(@af _ _ _ _ _ _ _ _ (@bo _ _ _ _ _ _ _ _ _ _ _ (@aS _ _ _ _ _ _ _ _ _ (@vN _ _) (@aZ _ _ _ _ _ _ _ _ _ (@b_len _ _ rfl) (by rfl) T.b_len ((¬1)∘ab) (by decide) (by decide) (by rfl) (by rfl)) (@bW _ _ _ _ _ _ _ rfl (¬0) ae (fun _ _=>rfl)) (aI _))
      (@ah _ _ _ _ _ (@aq _ _ _ _ _ (@bM _ _ _ _ _)))
      (@aF _ _))
      (@ah _ _ _ _ _ (@aq _ _ _ _ _ (@aZ _ _ _ _ _ _ _ _ _ (@b_all _ _ _ rfl hr) (by rfl) T.b_all ((@kB _ _ _ _ _ _ _ _ _ _ _ _ _ (aj bK) ["web","asked"] [(0,"web"),(1,"asked")] ["thing"] rfl rfl rfl (@cL _ _ _ _ _ _ _ rfl T.b_range ((@bW _ _ _ _ _ _ _ rfl (¬0) ae (fun _ _=>rfl))∘ab) (by rfl))
        (fun C s0 H0 fp=>(@aN _ _ _ 2 _ (show List.Nodup (["web","asked","thing"]:List Str) by decide+kernel) rfl (Or.inl rfl) (by trivial))) (fun C s0 H0 fp=>(@tP _ _))
        (fun C s0 H0 fp=>(@jW _ _ _ _ _ _ _ _ _ (@AZ _ _) (@bC _ _ _ _ _ _ _ _ _ _ _ _ _ _ _ h_many_asks G_many_asks (hr.mono (by decide)) ((¬0)∘((¬1)∘((¬2)∘ab))) (by rfl) (by decide) (by rfl) (by rfl)) (@bW _ _ _ _ _ _ _ rfl (@bW _ _ _ _ _ _ _ rfl (¬0) ae (fun _ _=>rfl)) (¬2) (fun _ _=>rfl)) (aI _))) rfl (by decide+kernel) (by decide+kernel) (by decide+kernel) (by decide+kernel) (by decide+kernel) (by decide+kernel) (by decide+kernel) (by intro _;rfl))∘ab) (by decide) (by decide) (by rfl) (by rfl))))))
noncomputable def hG:FI:=(kj (ac 3))
noncomputable def dN:FE:=(am yB (dG 3 cG (aa (ac 0) (aa (ac 1) (aa (ac 2) ag)))) (vC (.int 0)))
noncomputable def d9:FS:=(az (dX (fL (av (dG 2 dA (aa (ac 1) (aa (vC (.int 2)) ag)))))
    (aQ (vC (.bool false)))
    bx)
    (az (jk (ac 1) (dz (aX (ai 2) (aX (ai 3) cN))))
    (az (dX (nF (fL (av (dG 2 bf (aa (ac 2) (aa (aE (g1 eE) (aa (am dZ (ac 0) (vC (.int 1))) ag)) ag))))) (fL (av (dG 2 bf (aa (ac 3) (aa (am dZ (ac 0) (vC (.int 0))) ag))))))
    (aQ (vC (.bool false)))
    bx)
    (az (dX (nF (fL (av (dG 2 bV (aa (ac 0) (aa (ac 2) ag))))) (av (am (bL true) (am aR (aE (g1 eE) (aa (ac 3) ag)) (vC (.int 2))) (vC (.int 0)))))
    (aQ (vC (.bool false)))
    bx)
    (aQ (aE (g1 (jo lj)) (aa (iZ [(0,"web"),(2,"asked")] 1 hG (ai 2) nv dN) ag)))))))
noncomputable def bB:FM:=hU 2 2 (([]++[])++(([2]++([3]++[]))++(([]++[])++(([]++[])++[])))) d9
theorem lE:aL ["web","thing","asked","taken"] ["web","thing"] (aj dk):=⟨rfl,rfl,rfl,by decide+kernel,rfl,by decide+kernel,by decide+kernel⟩
theorem qT(h:bH K mg "is_stand" dk f fd ["web","thing"])(T:jD mg){f_is_row_of:Addr}{e_is_row_of:FuncData}(h_is_row_of:bH K mg "is_row_of" dD f_is_row_of e_is_row_of ["thing","many"])(G_is_row_of:aU P w K mg base cD 1 f_is_row_of e_is_row_of ["thing","many"] (cM K 2 dA)){f_is_rising_row:Addr}{e_is_rising_row:FuncData}(h_is_rising_row:bH K mg "is_rising_row" bO f_is_rising_row e_is_rising_row ["thing","many"])(G_is_rising_row:aU P w K mg base cD 3 f_is_rising_row e_is_rising_row ["thing","many"] (cM K 2 bf)){f_keeps_bounds:Addr}{e_keeps_bounds:FuncData}(h_keeps_bounds:bH K mg "keeps_bounds" bK f_keeps_bounds e_keeps_bounds ["web","asked"])(G_keeps_bounds:aU P w K mg base cD 3 f_keeps_bounds e_keeps_bounds ["web","asked"] (cM K 2 bV)){f_many_asks:Addr}{e_many_asks:FuncData}(h_many_asks:bH K mg "many_asks" bZ f_many_asks e_many_asks ["web","asked","thing"])(G_many_asks:aU P w K mg base cD 2 f_many_asks e_many_asks ["web","asked","thing"] (cM K 3 cG)):aU P w K mg base cD 4 f fd ["web","thing"] (cM K 2 bB):=by
  have nd:=lE.nd
  exact h.fn lE rfl rfl (fun cdv A outer s H E hr=>(@af _ _ _ _ _ _ _ _ (@bo _ _ _ _ _ _ _ _ _ _ _ (@eT _ _ _ _ _ (@cQ _ _ _ _ (@bC _ _ _ _ _ _ _ _ _ _ _ _ _ _ _ h_is_row_of G_is_row_of (hr.mono (by decide)) ((¬1)∘(ae∘ab)) (by rfl) (by decide) (by rfl) (by rfl)) (by intro _;rfl)))
      (@ah _ _ _ _ _ (@aq _ _ _ _ _ (@bM _ _ _ _ _)))
      (@aF _ _))
      (@af _ _ _ _ _ _ _ _ (@kD _ _ _ _ _ _ _ _ (¬1) (@jB _ _ _ _ _ _ _ _ rfl rfl (@bP _ _ _ _ _ _ _ _ (@aN _ _ _ 2 _ nd rfl (Or.inr rfl) (by trivial)) (@bP _ _ _ _ _ _ _ _ (@aN _ _ _ 3 _ nd rfl (Or.inl rfl) (by trivial)) (@hZ _ _) (by rfl)) (by rfl)) (cv (cv jz)) (by rfl) (by rfl)) (by rfl) (by rfl) (by rfl))
      (@af _ _ _ _ _ _ _ _ (@bo _ _ _ _ _ _ _ _ _ _ _ (@nQ _ _ _ _ (@iV _ _ _ _ _ _ _ _ (@eT _ _ _ _ _ (@cQ _ _ _ _ (@bC _ _ _ _ _ _ _ _ _ _ _ _ _ _ _ h_is_rising_row G_is_rising_row (hr.mono (by decide)) ((¬2)∘((@aZ _ _ _ _ _ _ _ _ _ (@b_len _ _ rfl) (by rfl) T.b_len ((@bW _ _ _ _ _ _ _ rfl (¬0) ae (fun _ _=>rfl))∘ab) (by decide) (by decide) (by rfl) (by rfl))∘ab)) (by rfl) (by decide) (by rfl) (by rfl)) (by intro _;rfl))) (@h9 _ _ _ _ _ (@eT _ _ _ _ _ (@cQ _ _ _ _ (@bC _ _ _ _ _ _ _ _ _ _ _ _ _ _ _ h_is_rising_row G_is_rising_row (hr.mono (by decide)) ((¬3)∘((@bW _ _ _ _ _ _ _ rfl (¬0) ae (fun _ _=>rfl))∘ab)) (by rfl) (by decide) (by rfl) (by rfl)) (by intro _;rfl))))))
      (@ah _ _ _ _ _ (@aq _ _ _ _ _ (@bM _ _ _ _ _)))
      (@aF _ _))
      (@af _ _ _ _ _ _ _ _ (@bo _ _ _ _ _ _ _ _ _ _ _ (@nQ _ _ _ _ (@iV _ _ _ _ _ _ _ _ (@eT _ _ _ _ _ (@cQ _ _ _ _ (@bC _ _ _ _ _ _ _ _ _ _ _ _ _ _ _ h_keeps_bounds G_keeps_bounds (hr.mono (by decide)) ((¬0)∘((¬2)∘ab)) (by rfl) (by decide) (by rfl) (by rfl)) (by intro _;rfl))) (@h9 _ _ _ _ _ (@aS _ _ _ _ _ _ _ _ _ (@vO _ _ _ rfl hr) (@aV _ _ _ _ _ _ _ (@aZ _ _ _ _ _ _ _ _ _ (@b_len _ _ rfl) (by rfl) T.b_len ((¬3)∘ab) (by decide) (by decide) (by rfl) (by rfl)) ae) ae (aI _)))))
      (@ah _ _ _ _ _ (@aq _ _ _ _ _ (@bM _ _ _ _ _)))
      (@aF _ _))
      (@ah _ _ _ _ _ (@aq _ _ _ _ _ (@aZ _ _ _ _ _ _ _ _ _ (@b_all _ _ _ rfl hr) (by rfl) T.b_all ((@kB _ _ _ _ _ _ _ _ _ _ _ _ _ (aj dk) ["web","thing","asked","taken"] [(0,"web"),(2,"asked")] ["part"] rfl rfl rfl (@h8 _ _ _ _ _ rfl (¬3))
        (fun C s0 H0 fp=>(@aN _ _ _ 2 _ (show List.Nodup (["web","asked","part"]:List Str) by decide+kernel) rfl (Or.inl rfl) (by trivial))) (fun C s0 H0 fp=>(@tP _ _))
        (fun C s0 H0 fp=>(@jW _ _ _ _ _ _ _ _ _ (@vN _ _) (@bC _ _ _ _ _ _ _ _ _ _ _ _ _ _ _ h_many_asks G_many_asks (hr.mono (by decide)) ((¬0)∘((¬1)∘((¬2)∘ab))) (by rfl) (by decide) (by rfl) (by rfl)) ae (aI _))) rfl (by decide+kernel) (by decide+kernel) (by decide+kernel) (by decide+kernel) (by decide+kernel) (by decide+kernel) (by decide+kernel) (by intro _;rfl))∘ab) (by decide) (by decide) (by rfl) (by rfl)))))))))
noncomputable def s_:FS:=(az (bv 2 (am aR (am ba (am ba (am jx (am aR (ac 0) (vC (.int 2147483647))) (vC (.int 48271))) (am jx (am jx (vC (.int 7919)) (ac 1)) (ac 1))) (vC (.int 104729))) (vC (.int 2147483647))))
    (aQ (am aR (am jx (ac 2) (ac 2)) (vC (.int 2147483629)))))
noncomputable def i_:FM:=hU 2 1 ([2]++[]) s_
theorem rg:aL ["_law_cell","_law_k","_law_number"] ["_law_cell","_law_k"] (aj jb):=⟨rfl,rfl,rfl,by decide+kernel,rfl,by decide+kernel,by decide+kernel⟩
theorem wU(h:bH K mg "_law_mixed" jb f fd ["_law_cell","_law_k"])(T:jD mg):aU P w K mg base cD 1 f fd ["_law_cell","_law_k"] (cM K 2 i_):=by
  have nd:=rg.nd
  exact h.fn rg rfl rfl (fun cdv A outer s H E hr=>(@af _ _ _ _ _ _ _ _ (@aJ _ _ _ _ _ 2 _ _ nd rfl (Or.inl rfl) (@aV _ _ _ _ _ _ _ (@bu _ _ _ _ _ _ _ rfl (@bu _ _ _ _ _ _ _ rfl (@mX _ _ _ _ _ _ _ rfl (@aV _ _ _ _ _ _ _ (¬0) ae) ae) (@mX _ _ _ _ _ _ _ rfl (@mX _ _ _ _ _ _ _ rfl ae (¬1)) (¬1))) ae) ae) (by rfl) (by trivial))
      (@ah _ _ _ _ _ (@aq _ _ _ _ _ (@aV _ _ _ _ _ _ _ (@mX _ _ _ _ _ _ _ rfl (¬2) (¬2)) ae)))))
noncomputable def fx:FT:=(lQ (av (am Ar (ac 3) (am pB (vC (.int 10)) (vC (.int 18))))) (av (am Au (aE (g1 eE) (aa (ac 1) ag)) (vC (.int 900)))))
noncomputable def i5:FS:=(az (fY (dW bR (ac 1) (aa (am aR (ac 3) (vC (.int 2147483629))) ag)))
    (bv 3 (am bI (ac 3) (vC (.int 2147483629)))))
noncomputable def i8:FI:=(cK (aa (vC (.int 12)) ag))
noncomputable def gu:FS:=(fY (dW bR (ac 1) (aa (dG 2 i_ (aa (dG 2 i_ (aa (ac 3) (aa (am ba (am jx (vC (.int 3)) (ac 4)) (vC (.int 1))) ag))) (aa (am ba (am ba (ac 4) (ac 2)) (vC (.int 2))) ag))) ag)))
noncomputable def ki:FI:=(cK (aa (aE (g2 wk) (aa (aE (g1 eE) (aa (ac 0) ag)) (aa (vC (.int 63)) ag))) ag))
noncomputable def fw:FS:=(az (bv 3 (aE (g1 ut) (aa (am dZ (ac 0) (ac 2)) ag)))
    (az (dX (av (am Au (ac 3) (am pB (vC (.int 10)) (vC (.int 18)))))
    (c7 ([4]++[]) i8 (ai 4) gu)
    bx)
    (az (m8 (2 ^ 4200) fx i5)
    (dX (av (am Ar (ac 3) (vC (.int 2147483629))))
    (fY (dW bR (ac 1) (aa (am aR (ac 3) (vC (.int 2147483629))) ag)))
    bx))))
noncomputable def sZ:FS:=(az (bv 1 (cS ag))
    (az (c7 ([2]++([3]++((([4]++[])++[])++(([]++[3])++([]++[]))))) ki (ai 2) fw)
    (aQ (ac 1))))
noncomputable def jR:FM:=hU 1 4 ([1]++(([2]++([3]++((([4]++[])++[])++(([]++[3])++([]++[])))))++[])) sZ
theorem rf:aL ["_law_script","_law_drawn","_law_k","_law_cell","_law_j"] ["_law_script"] (aj ja):=⟨rfl,rfl,rfl,by decide+kernel,rfl,by decide+kernel,by decide+kernel⟩
theorem wR(h:bH K mg "_law_draws" ja f fd ["_law_script"])(T:jD mg){fLmixed:Addr}{eLmixed:FuncData}(hLmixed:bH K mg "_law_mixed" jb fLmixed eLmixed ["_law_cell","_law_k"])(GLmixed:aU P w K mg base cD 1 fLmixed eLmixed ["_law_cell","_law_k"] (cM K 2 i_)):aU P w K mg base cD 2 f fd ["_law_script"] (cM K 1 jR):=by
  have nd:=rf.nd
  exact h.fn rf rfl rfl (fun cdv A outer s H E hr=>(@af _ _ _ _ _ _ _ _ (@aJ _ _ _ _ _ 1 _ _ nd rfl (Or.inl rfl) (@bN _ _ _ _ _ ab) (by rfl) (by trivial))
      (@af _ _ _ _ _ _ _ _ (@ee _ _ _ _ _ _ _ _ _ _ _ PassesOwn.never rfl (@cL _ _ _ _ _ _ _ rfl T.b_range ((@aZ _ _ _ _ _ _ _ _ _ (@b_min _ _ rfl) (by rfl) T.b_min ((@aZ _ _ _ _ _ _ _ _ _ (@b_len _ _ rfl) (by rfl) T.b_len ((¬0)∘ab) (by decide) (by decide) (by rfl) (by rfl))∘(ae∘ab)) (by decide) (by decide) (by rfl) (by rfl))∘ab) (by rfl)) (@aN _ _ _ 2 _ nd rfl (Or.inl rfl) (by trivial))
      (@af _ _ _ _ _ _ _ _ (@aJ _ _ _ _ _ 3 _ _ nd rfl (Or.inl rfl) (@aZ _ _ _ _ _ _ _ _ _ (@b_abs _ _) (by rfl) T.b_abs ((@bW _ _ _ _ _ _ _ rfl (¬0) (¬2) (fun _ _=>rfl))∘ab) (by decide) (by decide) (by rfl) (by rfl)) (by rfl) (by trivial))
      (@af _ _ _ _ _ _ _ _ (@bo _ _ _ _ _ _ _ _ _ _ _ (@aS _ _ _ _ _ _ _ _ _ (@yr _ _) (¬3) (@xt _ _ _ _ _ _ _ ae ae) (aI _))
      (@ah _ _ _ _ _ (@ee _ _ _ _ _ _ _ _ _ _ _ PassesOwn.never rfl (@cL _ _ _ _ _ _ _ rfl T.b_range (ae∘ab) (by rfl)) (@aN _ _ _ 4 _ nd rfl (Or.inl rfl) (by trivial))
      (@ah _ _ _ _ _ (@jX _ _ _ _ _ (@iU _ _ _ _ _ _ _ _ _ rfl (¬1) ((@bC _ _ _ _ _ _ _ _ _ _ _ _ _ _ _ hLmixed GLmixed (hr.mono (by decide)) ((@bC _ _ _ _ _ _ _ _ _ _ _ _ _ _ _ hLmixed GLmixed (hr.mono (by decide)) ((¬3)∘((@bu _ _ _ _ _ _ _ rfl (@mX _ _ _ _ _ _ _ rfl ae (¬4)) ae)∘ab)) (by rfl) (by decide) (by rfl) (by rfl))∘((@bu _ _ _ _ _ _ _ rfl (@bu _ _ _ _ _ _ _ rfl (¬4) (¬2)) ae)∘ab)) (by rfl) (by decide) (by rfl) (by rfl))∘ab) (by rfl) (by rfl) (by rfl) (by rfl) (by rfl)) (by rfl))) (by intro _;rfl)))
      (@aF _ _))
      (@af _ _ _ _ _ _ _ _ (@qZ _ _ _ _ _ _ _ _ _ PassesOwn.never (@nQ _ _ _ _ (@Cu _ _ _ _ _ _ _ _ (@aS _ _ _ _ _ _ _ _ _ (@vM _ _) (¬3) (@xt _ _ _ _ _ _ _ ae ae) (aI _)) (@zE _ _ _ _ _ (@aS _ _ _ _ _ _ _ _ _ (@yr _ _) (@aZ _ _ _ _ _ _ _ _ _ (@b_len _ _ rfl) (by rfl) T.b_len ((¬1)∘ab) (by decide) (by decide) (by rfl) (by rfl)) ae (aI _)))))
      (@af _ _ _ _ _ _ _ _ (@jX _ _ _ _ _ (@iU _ _ _ _ _ _ _ _ _ rfl (¬1) ((@aV _ _ _ _ _ _ _ (¬3) ae)∘ab) (by rfl) (by rfl) (by rfl) (by rfl) (by rfl)) (by rfl))
      (@ah _ _ _ _ _ (@aJ _ _ _ _ _ 3 _ _ nd rfl (Or.inl rfl) (@cH _ _ _ _ _ _ _ (¬3) ae) (by rfl) (by trivial)))))
      (@ah _ _ _ _ _ (@bo _ _ _ _ _ _ _ _ _ _ _ (@aS _ _ _ _ _ _ _ _ _ (@vM _ _) (¬3) ae (aI _))
      (@ah _ _ _ _ _ (@jX _ _ _ _ _ (@iU _ _ _ _ _ _ _ _ _ rfl (¬1) ((@aV _ _ _ _ _ _ _ (¬3) ae)∘ab) (by rfl) (by rfl) (by rfl) (by rfl) (by rfl)) (by rfl)))
      (@aF _ _)))))) (by intro _;rfl))
      (@ah _ _ _ _ _ (@aq _ _ _ _ _ (¬1))))))
noncomputable def rN:FS:=(az (dX (av (am (bL false) (ac 0) (cS ag)))
    (aQ (vC (.int 0)))
    bx)
    (aQ (dW eS (ac 0) (aa (vC (.int 0)) ag))))
noncomputable def bA:FM:=hU 1 0 (([]++[])++[]) rN
theorem tY:aL ["_law_drawn"] ["_law_drawn"] (aj ia):=⟨rfl,rfl,rfl,by decide+kernel,rfl,by decide+kernel,by decide+kernel⟩
theorem yW(h:bH K mg "_law_next" ia f fd ["_law_drawn"])(T:jD mg):aU P w K mg base cD 1 f fd ["_law_drawn"] (cM K 1 bA):=by
  have nd:=tY.nd
  exact h.fn tY rfl rfl (fun cdv A outer s H E hr=>(@af _ _ _ _ _ _ _ _ (@bo _ _ _ _ _ _ _ _ _ _ _ (@aS _ _ _ _ _ _ _ _ _ (@iD _ _ _ rfl hr) (¬0) (@bN _ _ _ _ _ ab) (aI _))
      (@ah _ _ _ _ _ (@aq _ _ _ _ _ ae))
      (@aF _ _))
      (@ah _ _ _ _ _ (@aq _ _ _ _ _ (@zD _ _ _ _ _ _ _ _ _ rfl (¬0) (ae∘ab) (by rfl) (by rfl) (by rfl) (by rfl) (by rfl))))))
noncomputable def jJ:FT:=(av (am (bL true) (ac 1) (vC (.int 0))))
noncomputable def lU:FS:=(m7 0 1 (aa (ac 1) (aa (am aR (ac 0) (ac 1)) ag)))
noncomputable def Ak:FS:=(az (m8 (2 ^ 4200) jJ lU)
    (aQ (aE (g1 ut) (aa (ac 0) ag))))
noncomputable def qI:FM:=hU 2 0 ([0,1]++[]) Ak
theorem xM:aL ["_law_one","_law_other"] ["_law_one","_law_other"] (aj oM):=⟨rfl,rfl,rfl,by decide+kernel,rfl,by decide+kernel,by decide+kernel⟩
theorem BE(h:bH K mg "_law_gcd" oM f fd ["_law_one","_law_other"])(T:jD mg):aU P w K mg base cD 1 f fd ["_law_one","_law_other"] (cM K 2 qI):=by
  have nd:=xM.nd
  exact h.fn xM rfl rfl (fun cdv A outer s H E hr=>(@af _ _ _ _ _ _ _ _ (@qZ _ _ _ _ _ _ _ _ _ PassesOwn.never (@aS _ _ _ _ _ _ _ _ _ (@vO _ _ _ rfl hr) (¬1) ae (aI _))
      (@ah _ _ _ _ _ (@Cq _ _ _ _ _ 0 1 _ _ _ _ _ _ _ _ _ rfl nd rfl rfl (by decide) rfl rfl ((¬1)∘((@aV _ _ _ _ _ _ _ (¬0) (¬1))∘ab)) (by rfl) (by rfl))))
      (@ah _ _ _ _ _ (@aq _ _ _ _ _ (@aZ _ _ _ _ _ _ _ _ _ (@b_abs _ _) (by rfl) T.b_abs ((¬0)∘ab) (by decide) (by decide) (by rfl) (by rfl))))))
noncomputable def Al:FS:=(az (bv 2 (dG 2 qI (aa (ac 0) (aa (ac 1) ag))))
    (aQ (aW (aa (am bI (ac 0) (ac 2)) (aa (am bI (ac 1) (ac 2)) ag)))))
noncomputable def oD:FM:=hU 2 1 ([2]++[]) Al
theorem xN:aL ["_law_top","_law_bottom","_law_common"] ["_law_top","_law_bottom"] (aj oN):=⟨rfl,rfl,rfl,by decide+kernel,rfl,by decide+kernel,by decide+kernel⟩
theorem BF(h:bH K mg "_law_low" oN f fd ["_law_top","_law_bottom"])(T:jD mg){fLgcd:Addr}{eLgcd:FuncData}(hLgcd:bH K mg "_law_gcd" oM fLgcd eLgcd ["_law_one","_law_other"])(GLgcd:aU P w K mg base cD 1 fLgcd eLgcd ["_law_one","_law_other"] (cM K 2 qI)):aU P w K mg base cD 2 f fd ["_law_top","_law_bottom"] (cM K 2 oD):=by
  have nd:=xN.nd
  exact h.fn xN rfl rfl (fun cdv A outer s H E hr=>(@af _ _ _ _ _ _ _ _ (@aJ _ _ _ _ _ 2 _ _ nd rfl (Or.inl rfl) (@bC _ _ _ _ _ _ _ _ _ _ _ _ _ _ _ hLgcd GLgcd (hr.mono (by decide)) ((¬0)∘((¬1)∘ab)) (by rfl) (by decide) (by rfl) (by rfl)) (by rfl) (by trivial))
      (@ah _ _ _ _ _ (@aq _ _ _ _ _ (@ay _ _ _ _ _ _ ((@cH _ _ _ _ _ _ _ (¬0) (¬2))∘((@cH _ _ _ _ _ _ _ (¬1) (¬2))∘ab)))))))
noncomputable def vH:FS:=(az (dX (av (ac 1))
    (aQ (am DK (ac 0) (vC (.bool true))))
    bx)
    (aQ (am DK (ac 0) (vC (.bool false)))))
noncomputable def mN:FM:=hU 2 0 (([]++[])++[]) vH
theorem tZ:aL ["_law_found","_law_due"] ["_law_found","_law_due"] (aj kL):=⟨rfl,rfl,rfl,by decide+kernel,rfl,by decide+kernel,by decide+kernel⟩
theorem yX(h:bH K mg "_law_says" kL f fd ["_law_found","_law_due"])(T:jD mg):aU P w K mg base cD 1 f fd ["_law_found","_law_due"] (cM K 2 mN):=by
  have nd:=tZ.nd
  exact h.fn tZ rfl rfl (fun cdv A outer s H E hr=>(@af _ _ _ _ _ _ _ _ (@bo _ _ _ _ _ _ _ _ _ _ _ (@cQ _ _ _ _ (¬1) (by intro _;rfl))
      (@ah _ _ _ _ _ (@aq _ _ _ _ _ (@jW _ _ _ _ _ _ _ _ _ (@Dz _ _) (¬0) (@bM _ _ _ _ _) (aI _))))
      (@aF _ _))
      (@ah _ _ _ _ _ (@aq _ _ _ _ _ (@jW _ _ _ _ _ _ _ _ _ (@Dz _ _) (¬0) (@bM _ _ _ _ _) (aI _))))))
noncomputable def iA:FS:=(az (dX (av (am (bL false) (ac 1) (vC (.int 0))))
    (aQ (am dZ (cS (aa (aW (aa (vC (.int 1)) (aa (vC (.int 2)) ag))) (aa (aW (aa (vC (.int 1)) (aa (vC (.int 3)) ag))) (aa (aW (aa (vC (.int 2)) (aa (vC (.int 3)) ag))) (aa (aW (aa (vC (.int 1)) (aa (vC (.int 1)) ag))) (aa (aW (aa (vC (.int 0)) (aa (vC (.int 1)) ag))) (aa (aW (aa (vC (.int 3)) (aa (vC (.int 4)) ag))) ag))))))) (am aR (ac 0) (vC (.int 6)))))
    bx)
    (az (dX (av (am (bL false) (ac 1) (vC (.int 1))))
    (az (bv 2 (am ba (vC (.int 2)) (am aR (ac 0) (vC (.int 9)))))
    (aQ (dG 2 oD (aa (am ba (vC (.int 1)) (am aR (am bI (ac 0) (vC (.int 9))) (am gY (ac 2) (vC (.int 1))))) (aa (ac 2) ag)))))
    bx)
    (az (dX (av (am (bL false) (ac 1) (vC (.int 2))))
    (az (bv 2 (am ba (vC (.int 1)) (am aR (ac 0) (vC (.int 100)))))
    (aQ (dG 2 oD (aa (am aR (am bI (ac 0) (vC (.int 100))) (am ba (ac 2) (vC (.int 1)))) (aa (ac 2) ag)))))
    bx)
    (aQ (aW (aa (vC (.int 1)) (aa (vC (.int 1)) ag)))))))
noncomputable def eM:FM:=hU 2 1 (([]++[])++((([2]++[])++[])++((([2]++[])++[])++[]))) iA
theorem oS:aL ["_law_number","_law_kind","_law_bottom"] ["_law_number","_law_kind"] (aj gH):=⟨rfl,rfl,rfl,by decide+kernel,rfl,by decide+kernel,by decide+kernel⟩
theorem uQ(h:bH K mg "_law_chance" gH f fd ["_law_number","_law_kind"])(T:jD mg){fLlow:Addr}{eLlow:FuncData}(hLlow:bH K mg "_law_low" oN fLlow eLlow ["_law_top","_law_bottom"])(GLlow:aU P w K mg base cD 2 fLlow eLlow ["_law_top","_law_bottom"] (cM K 2 oD)):aU P w K mg base cD 3 f fd ["_law_number","_law_kind"] (cM K 2 eM):=by
  have nd:=oS.nd
  exact h.fn oS rfl rfl (fun cdv A outer s H E hr=>(@af _ _ _ _ _ _ _ _ (@bo _ _ _ _ _ _ _ _ _ _ _ (@aS _ _ _ _ _ _ _ _ _ (@iD _ _ _ rfl hr) (¬1) ae (aI _))
      (@ah _ _ _ _ _ (@aq _ _ _ _ _ (@bW _ _ _ _ _ _ _ rfl (@bN _ _ _ _ _ ((@ay _ _ _ _ _ _ (ae∘(ae∘ab)))∘((@ay _ _ _ _ _ _ (ae∘(ae∘ab)))∘((@ay _ _ _ _ _ _ (ae∘(ae∘ab)))∘((@ay _ _ _ _ _ _ (ae∘(ae∘ab)))∘((@ay _ _ _ _ _ _ (ae∘(ae∘ab)))∘((@ay _ _ _ _ _ _ (ae∘(ae∘ab)))∘ab))))))) (@aV _ _ _ _ _ _ _ (¬0) ae) (fun _ _=>rfl))))
      (@aF _ _))
      (@af _ _ _ _ _ _ _ _ (@bo _ _ _ _ _ _ _ _ _ _ _ (@aS _ _ _ _ _ _ _ _ _ (@iD _ _ _ rfl hr) (¬1) ae (aI _))
      (@af _ _ _ _ _ _ _ _ (@aJ _ _ _ _ _ 2 _ _ nd rfl (Or.inl rfl) (@bu _ _ _ _ _ _ _ rfl ae (@aV _ _ _ _ _ _ _ (¬0) ae)) (by rfl) (by trivial))
      (@ah _ _ _ _ _ (@aq _ _ _ _ _ (@bC _ _ _ _ _ _ _ _ _ _ _ _ _ _ _ hLlow GLlow (hr.mono (by decide)) ((@bu _ _ _ _ _ _ _ rfl ae (@aV _ _ _ _ _ _ _ (@cH _ _ _ _ _ _ _ (¬0) ae) (@qX _ _ _ _ _ _ _ (¬2) ae)))∘((¬2)∘ab)) (by rfl) (by decide) (by rfl) (by rfl)))))
      (@aF _ _))
      (@af _ _ _ _ _ _ _ _ (@bo _ _ _ _ _ _ _ _ _ _ _ (@aS _ _ _ _ _ _ _ _ _ (@iD _ _ _ rfl hr) (¬1) ae (aI _))
      (@af _ _ _ _ _ _ _ _ (@aJ _ _ _ _ _ 2 _ _ nd rfl (Or.inl rfl) (@bu _ _ _ _ _ _ _ rfl ae (@aV _ _ _ _ _ _ _ (¬0) ae)) (by rfl) (by trivial))
      (@ah _ _ _ _ _ (@aq _ _ _ _ _ (@bC _ _ _ _ _ _ _ _ _ _ _ _ _ _ _ hLlow GLlow (hr.mono (by decide)) ((@aV _ _ _ _ _ _ _ (@cH _ _ _ _ _ _ _ (¬0) ae) (@bu _ _ _ _ _ _ _ rfl (¬2) ae))∘((¬2)∘ab)) (by rfl) (by decide) (by rfl) (by rfl)))))
      (@aF _ _))
      (@ah _ _ _ _ _ (@aq _ _ _ _ _ (@ay _ _ _ _ _ _ (ae∘(ae∘ab)))))))))
noncomputable def tf:FS:=(aQ (am dZ (cS (aa (am aR (ac 0) (vC (.int 7))) (aa (am ba (vC (.int 5)) (am aR (ac 0) (vC (.int 2)))) (aa (am aR (ac 0) (vC (.int 1001))) (aa (am gY (vC (.int 1000)) (am aR (ac 0) (vC (.int 3)))) ag))))) (am aR (ac 1) (vC (.int 4)))))
noncomputable def jT:FM:=hU 2 0 [] tf
theorem rh:aL ["_law_number","_law_kind"] ["_law_number","_law_kind"] (aj jc):=⟨rfl,rfl,rfl,by decide+kernel,rfl,by decide+kernel,by decide+kernel⟩
theorem wV(h:bH K mg "_law_worth" jc f fd ["_law_number","_law_kind"])(T:jD mg):aU P w K mg base cD 1 f fd ["_law_number","_law_kind"] (cM K 2 jT):=by
  have nd:=rh.nd
  exact h.fn rh rfl rfl (fun cdv A outer s H E hr=>(@ah _ _ _ _ _ (@aq _ _ _ _ _ (@bW _ _ _ _ _ _ _ rfl (@bN _ _ _ _ _ ((@aV _ _ _ _ _ _ _ (¬0) ae)∘((@bu _ _ _ _ _ _ _ rfl ae (@aV _ _ _ _ _ _ _ (¬0) ae))∘((@aV _ _ _ _ _ _ _ (¬0) ae)∘((@qX _ _ _ _ _ _ _ ae (@aV _ _ _ _ _ _ _ (¬0) ae))∘ab))))) (@aV _ _ _ _ _ _ _ (¬1) ae) (fun _ _=>rfl)))))
noncomputable def mG:FI:=(cK (aa (ac 2) ag))
noncomputable def gv:FS:=(az (bv 8 (dG 1 bA (aa (ac 0) ag)))
    (az (bv 9 (am dZ (cS (aa (am aR (ac 8) (ac 1)) (aa (vC (.int 0)) (aa (am aR (ac 7) (ac 1)) (aa (am aR (ac 8) (ac 1)) (aa (am aR (ac 8) (vC (.int 2))) (aa (am aR (ac 8) (ac 1)) ag))))))) (ac 3)))
    (az (bv 10 (am aR (am ba (am ba (ac 9) (vC (.int 1))) (am aR (am bI (ac 8) (vC (.int 12))) (am gY (ac 1) (vC (.int 1))))) (ac 1)))
    (az (dX (av (am (bL false) (ac 3) (vC (.int 4))))
    (jk (aW (aa (vC (.int 0)) (aa (vC (.int 1)) ag))) (dz (aX (ai 9) (aX (ai 10) cN))))
    bx)
    (az (bv 11 (dG 1 bA (aa (ac 0) ag)))
    (az (bv 12 (aW (aa (aE (g2 wk) (aa (ac 9) (aa (ac 10) ag))) (aa (aE (g2 pA) (aa (ac 9) (aa (ac 10) ag))) ag))))
    (fY (dW bR (ac 6) (aa (am ba (ac 12) (aW (aa (dG 2 eM (aa (ac 11) (aa (ac 4) ag))) (aa (dG 2 jT (aa (am bI (ac 11) (vC (.int 10007))) (aa (ac 5) ag))) ag)))) ag)))))))))
noncomputable def vI:FS:=(az (bv 3 (am aR (dG 1 bA (aa (ac 0) ag)) (vC (.int 6))))
    (az (bv 4 (am aR (dG 1 bA (aa (ac 0) ag)) (vC (.int 4))))
    (az (bv 5 (am aR (dG 1 bA (aa (ac 0) ag)) (vC (.int 4))))
    (az (bv 6 (cS ag))
    (az (c7 ([7]++([8]++([9]++([10]++((([9]++([10]++[]))++[])++([11]++([12]++[]))))))) mG (ai 7) gv)
    (aQ (aE (g1 dQ) (aa (ac 6) ag))))))))
noncomputable def mO:FM:=hU 3 10 ([3]++([4]++([5]++([6]++(([7]++([8]++([9]++([10]++((([9]++([10]++[]))++[])++([11]++([12]++[])))))))++[]))))) vI
theorem t5:aL ["_law_drawn","_law_things","_law_many","_law_shape","_law_odds","_law_worths","_law_found","_law_k","_law_number","_law_one","_law_other","_law_cell","_law_ends"] ["_law_drawn","_law_things","_law_many"] (aj kM):=⟨rfl,rfl,rfl,by decide+kernel,rfl,by decide+kernel,by decide+kernel⟩
theorem yY(h:bH K mg "_law_ties" kM f fd ["_law_drawn","_law_things","_law_many"])(T:jD mg){fLnext:Addr}{eLnext:FuncData}(hLnext:bH K mg "_law_next" ia fLnext eLnext ["_law_drawn"])(GLnext:aU P w K mg base cD 1 fLnext eLnext ["_law_drawn"] (cM K 1 bA)){fLchance:Addr}{eLchance:FuncData}(hLchance:bH K mg "_law_chance" gH fLchance eLchance ["_law_number","_law_kind"])(GLchance:aU P w K mg base cD 3 fLchance eLchance ["_law_number","_law_kind"] (cM K 2 eM)){fLworth:Addr}{eLworth:FuncData}(hLworth:bH K mg "_law_worth" jc fLworth eLworth ["_law_number","_law_kind"])(GLworth:aU P w K mg base cD 1 fLworth eLworth ["_law_number","_law_kind"] (cM K 2 jT)):aU P w K mg base cD 4 f fd ["_law_drawn","_law_things","_law_many"] (cM K 3 mO):=by
  have nd:=t5.nd
  exact h.fn t5 rfl rfl (fun cdv A outer s H E hr=>(@af _ _ _ _ _ _ _ _ (@aJ _ _ _ _ _ 3 _ _ nd rfl (Or.inl rfl) (@aV _ _ _ _ _ _ _ (@bC _ _ _ _ _ _ _ _ _ _ _ _ _ _ _ hLnext GLnext (hr.mono (by decide)) ((¬0)∘ab) (by rfl) (by decide) (by rfl) (by rfl)) ae) (by rfl) (by trivial))
      (@af _ _ _ _ _ _ _ _ (@aJ _ _ _ _ _ 4 _ _ nd rfl (Or.inl rfl) (@aV _ _ _ _ _ _ _ (@bC _ _ _ _ _ _ _ _ _ _ _ _ _ _ _ hLnext GLnext (hr.mono (by decide)) ((¬0)∘ab) (by rfl) (by decide) (by rfl) (by rfl)) ae) (by rfl) (by trivial))
      (@af _ _ _ _ _ _ _ _ (@aJ _ _ _ _ _ 5 _ _ nd rfl (Or.inl rfl) (@aV _ _ _ _ _ _ _ (@bC _ _ _ _ _ _ _ _ _ _ _ _ _ _ _ hLnext GLnext (hr.mono (by decide)) ((¬0)∘ab) (by rfl) (by decide) (by rfl) (by rfl)) ae) (by rfl) (by trivial))
      (@af _ _ _ _ _ _ _ _ (@aJ _ _ _ _ _ 6 _ _ nd rfl (Or.inl rfl) (@bN _ _ _ _ _ ab) (by rfl) (by trivial))
      (@af _ _ _ _ _ _ _ _ (@ee _ _ _ _ _ _ _ _ _ _ _ PassesOwn.never rfl (@cL _ _ _ _ _ _ _ rfl T.b_range ((¬2)∘ab) (by rfl)) (@aN _ _ _ 7 _ nd rfl (Or.inl rfl) (by trivial))
      (@af _ _ _ _ _ _ _ _ (@aJ _ _ _ _ _ 8 _ _ nd rfl (Or.inl rfl) (@bC _ _ _ _ _ _ _ _ _ _ _ _ _ _ _ hLnext GLnext (hr.mono (by decide)) ((¬0)∘ab) (by rfl) (by decide) (by rfl) (by rfl)) (by rfl) (by trivial))
      (@af _ _ _ _ _ _ _ _ (@aJ _ _ _ _ _ 9 _ _ nd rfl (Or.inl rfl) (@bW _ _ _ _ _ _ _ rfl (@bN _ _ _ _ _ ((@aV _ _ _ _ _ _ _ (¬8) (¬1))∘(ae∘((@aV _ _ _ _ _ _ _ (¬7) (¬1))∘((@aV _ _ _ _ _ _ _ (¬8) (¬1))∘((@aV _ _ _ _ _ _ _ (¬8) ae)∘((@aV _ _ _ _ _ _ _ (¬8) (¬1))∘ab))))))) (¬3) (fun _ _=>rfl)) (by rfl) (by trivial))
      (@af _ _ _ _ _ _ _ _ (@aJ _ _ _ _ _ 10 _ _ nd rfl (Or.inl rfl) (@aV _ _ _ _ _ _ _ (@bu _ _ _ _ _ _ _ rfl (@bu _ _ _ _ _ _ _ rfl (¬9) ae) (@aV _ _ _ _ _ _ _ (@cH _ _ _ _ _ _ _ (¬8) ae) (@qX _ _ _ _ _ _ _ (¬1) ae))) (¬1)) (by rfl) (by trivial))
      (@af _ _ _ _ _ _ _ _ (@bo _ _ _ _ _ _ _ _ _ _ _ (@aS _ _ _ _ _ _ _ _ _ (@iD _ _ _ rfl hr) (¬3) ae (aI _))
      (@ah _ _ _ _ _ (@kD _ _ _ _ _ _ _ _ (@ay _ _ _ _ _ _ (ae∘(ae∘ab))) (@jB _ _ _ _ _ _ _ _ rfl rfl (@bP _ _ _ _ _ _ _ _ (@aN _ _ _ 9 _ nd rfl (Or.inl rfl) (by trivial)) (@bP _ _ _ _ _ _ _ _ (@aN _ _ _ 10 _ nd rfl (Or.inl rfl) (by trivial)) (@hZ _ _) (by rfl)) (by rfl)) (cv (cv jz)) (by rfl) (by rfl)) (by rfl) (by rfl) (by rfl)))
      (@aF _ _))
      (@af _ _ _ _ _ _ _ _ (@aJ _ _ _ _ _ 11 _ _ nd rfl (Or.inl rfl) (@bC _ _ _ _ _ _ _ _ _ _ _ _ _ _ _ hLnext GLnext (hr.mono (by decide)) ((¬0)∘ab) (by rfl) (by decide) (by rfl) (by rfl)) (by rfl) (by trivial))
      (@af _ _ _ _ _ _ _ _ (@aJ _ _ _ _ _ 12 _ _ nd rfl (Or.inl rfl) (@ay _ _ _ _ _ _ ((@aZ _ _ _ _ _ _ _ _ _ (@b_min _ _ rfl) (by rfl) T.b_min ((¬9)∘((¬10)∘ab)) (by decide) (by decide) (by rfl) (by rfl))∘((@aZ _ _ _ _ _ _ _ _ _ (@b_max _ _ rfl) (by rfl) T.b_max ((¬9)∘((¬10)∘ab)) (by decide) (by decide) (by rfl) (by rfl))∘ab))) (by rfl) (by trivial))
      (@ah _ _ _ _ _ (@jX _ _ _ _ _ (@iU _ _ _ _ _ _ _ _ _ rfl (¬6) ((@bu _ _ _ _ _ _ _ rfl (¬12) (@ay _ _ _ _ _ _ ((@bC _ _ _ _ _ _ _ _ _ _ _ _ _ _ _ hLchance GLchance (hr.mono (by decide)) ((¬11)∘((¬4)∘ab)) (by rfl) (by decide) (by rfl) (by rfl))∘((@bC _ _ _ _ _ _ _ _ _ _ _ _ _ _ _ hLworth GLworth (hr.mono (by decide)) ((@cH _ _ _ _ _ _ _ (¬11) ae)∘((¬5)∘ab)) (by rfl) (by decide) (by rfl) (by rfl))∘ab))))∘ab) (by rfl) (by rfl) (by rfl) (by rfl) (by rfl)) (by rfl))))))))) (by intro _;rfl))
      (@ah _ _ _ _ _ (@aq _ _ _ _ _ (@aZ _ _ _ _ _ _ _ _ _ (@b_tuple _ _ rfl) (by rfl) T.b_tuple ((¬6)∘ab) (by decide) (by decide) (by rfl) (by rfl))))))))))
noncomputable def pE:FI:=(cK (aa (ac 3) ag))
noncomputable def lV:FS:=(fY (dW bR (ac 7) (aa (am dZ (cS (aa (vC (.int 20)) (aa (am ba (vC (.int 1)) (am aR (dG 1 bA (aa (ac 0) ag)) (vC (.int 3)))) (aa (am aR (dG 1 bA (aa (ac 0) ag)) (vC (.int 21))) ag)))) (ac 6)) ag)))
noncomputable def An:FS:=(az (bv 3 (am aR (dG 1 bA (aa (ac 0) ag)) (am ba (ac 1) (vC (.int 1)))))
    (az (bv 4 (am jx (am aR (dG 1 bA (aa (ac 0) ag)) (am ba (ac 2) (vC (.int 1)))) (aE (g1 uv) (aa (am yB (ac 3) (vC (.int 1))) ag))))
    (az (bv 5 (dG 3 mO (aa (ac 0) (aa (aE (g2 pA) (aa (vC (.int 2)) (aa (ac 3) ag))) (aa (ac 4) ag)))))
    (az (bv 6 (am aR (dG 1 bA (aa (ac 0) ag)) (vC (.int 3))))
    (az (bv 7 (cS ag))
    (az (c7 ([8]++[]) pE (ai 8) lV)
    (az (bv 9 (am dZ (cS (aa (vC (.int 40)) (aa (am ba (vC (.int 1)) (am aR (dG 1 bA (aa (ac 0) ag)) (aE (g2 pA) (aa (vC (.int 1)) (aa (ac 4) ag))))) (aa (am aR (dG 1 bA (aa (ac 0) ag)) (vC (.int 41))) ag)))) (am aR (dG 1 bA (aa (ac 0) ag)) (vC (.int 3)))))
    (aQ (aW (aa (ac 3) (aa (ac 5) (aa (aE (g1 dQ) (aa (ac 7) ag)) (aa (ac 9) ag)))))))))))))
noncomputable def qK:FM:=hU 3 7 ([3]++([4]++([5]++([6]++([7]++(([8]++[])++([9]++[]))))))) An
theorem xQ:aL ["_law_drawn","_law_most","_law_ties_here","_law_things","_law_many","_law_rows","_law_way","_law_patience","_law_k","_law_asks"] ["_law_drawn","_law_most","_law_ties_here"] (aj oQ):=⟨rfl,rfl,rfl,by decide+kernel,rfl,by decide+kernel,by decide+kernel⟩
theorem BI(h:bH K mg "_law_web" oQ f fd ["_law_drawn","_law_most","_law_ties_here"])(T:jD mg){fLties:Addr}{eLties:FuncData}(hLties:bH K mg "_law_ties" kM fLties eLties ["_law_drawn","_law_things","_law_many"])(GLties:aU P w K mg base cD 4 fLties eLties ["_law_drawn","_law_things","_law_many"] (cM K 3 mO)){fLnext:Addr}{eLnext:FuncData}(hLnext:bH K mg "_law_next" ia fLnext eLnext ["_law_drawn"])(GLnext:aU P w K mg base cD 1 fLnext eLnext ["_law_drawn"] (cM K 1 bA)):aU P w K mg base cD 5 f fd ["_law_drawn","_law_most","_law_ties_here"] (cM K 3 qK):=by
  have nd:=xQ.nd
  exact h.fn xQ rfl rfl (fun cdv A outer s H E hr=>(@af _ _ _ _ _ _ _ _ (@aJ _ _ _ _ _ 3 _ _ nd rfl (Or.inl rfl) (@aV _ _ _ _ _ _ _ (@bC _ _ _ _ _ _ _ _ _ _ _ _ _ _ _ hLnext GLnext (hr.mono (by decide)) ((¬0)∘ab) (by rfl) (by decide) (by rfl) (by rfl)) (@bu _ _ _ _ _ _ _ rfl (¬1) ae)) (by rfl) (by trivial))
      (@af _ _ _ _ _ _ _ _ (@aJ _ _ _ _ _ 4 _ _ nd rfl (Or.inl rfl) (@mX _ _ _ _ _ _ _ rfl (@aV _ _ _ _ _ _ _ (@bC _ _ _ _ _ _ _ _ _ _ _ _ _ _ _ hLnext GLnext (hr.mono (by decide)) ((¬0)∘ab) (by rfl) (by decide) (by rfl) (by rfl)) (@bu _ _ _ _ _ _ _ rfl (¬2) ae)) (@aZ _ _ _ _ _ _ _ _ _ (@b_int _ _) (by rfl) T.b_int ((@jW _ _ _ _ _ _ _ _ _ (@vN _ _) (¬3) ae (aI _))∘ab) (by decide) (by decide) (by rfl) (by rfl))) (by rfl) (by trivial))
      (@af _ _ _ _ _ _ _ _ (@aJ _ _ _ _ _ 5 _ _ nd rfl (Or.inl rfl) (@bC _ _ _ _ _ _ _ _ _ _ _ _ _ _ _ hLties GLties (hr.mono (by decide)) ((¬0)∘((@aZ _ _ _ _ _ _ _ _ _ (@b_max _ _ rfl) (by rfl) T.b_max (ae∘((¬3)∘ab)) (by decide) (by decide) (by rfl) (by rfl))∘((¬4)∘ab))) (by rfl) (by decide) (by rfl) (by rfl)) (by rfl) (by trivial))
      (@af _ _ _ _ _ _ _ _ (@aJ _ _ _ _ _ 6 _ _ nd rfl (Or.inl rfl) (@aV _ _ _ _ _ _ _ (@bC _ _ _ _ _ _ _ _ _ _ _ _ _ _ _ hLnext GLnext (hr.mono (by decide)) ((¬0)∘ab) (by rfl) (by decide) (by rfl) (by rfl)) ae) (by rfl) (by trivial))
      (@af _ _ _ _ _ _ _ _ (@aJ _ _ _ _ _ 7 _ _ nd rfl (Or.inl rfl) (@bN _ _ _ _ _ ab) (by rfl) (by trivial))
      (@af _ _ _ _ _ _ _ _ (@ee _ _ _ _ _ _ _ _ _ _ _ PassesOwn.never rfl (@cL _ _ _ _ _ _ _ rfl T.b_range ((¬3)∘ab) (by rfl)) (@aN _ _ _ 8 _ nd rfl (Or.inl rfl) (by trivial))
      (@ah _ _ _ _ _ (@jX _ _ _ _ _ (@iU _ _ _ _ _ _ _ _ _ rfl (¬7) ((@bW _ _ _ _ _ _ _ rfl (@bN _ _ _ _ _ (ae∘((@bu _ _ _ _ _ _ _ rfl ae (@aV _ _ _ _ _ _ _ (@bC _ _ _ _ _ _ _ _ _ _ _ _ _ _ _ hLnext GLnext (hr.mono (by decide)) ((¬0)∘ab) (by rfl) (by decide) (by rfl) (by rfl)) ae))∘((@aV _ _ _ _ _ _ _ (@bC _ _ _ _ _ _ _ _ _ _ _ _ _ _ _ hLnext GLnext (hr.mono (by decide)) ((¬0)∘ab) (by rfl) (by decide) (by rfl) (by rfl)) ae)∘ab)))) (¬6) (fun _ _=>rfl))∘ab) (by rfl) (by rfl) (by rfl) (by rfl) (by rfl)) (by rfl))) (by intro _;rfl))
      (@af _ _ _ _ _ _ _ _ (@aJ _ _ _ _ _ 9 _ _ nd rfl (Or.inl rfl) (@bW _ _ _ _ _ _ _ rfl (@bN _ _ _ _ _ (ae∘((@bu _ _ _ _ _ _ _ rfl ae (@aV _ _ _ _ _ _ _ (@bC _ _ _ _ _ _ _ _ _ _ _ _ _ _ _ hLnext GLnext (hr.mono (by decide)) ((¬0)∘ab) (by rfl) (by decide) (by rfl) (by rfl)) (@aZ _ _ _ _ _ _ _ _ _ (@b_max _ _ rfl) (by rfl) T.b_max (ae∘((¬4)∘ab)) (by decide) (by decide) (by rfl) (by rfl))))∘((@aV _ _ _ _ _ _ _ (@bC _ _ _ _ _ _ _ _ _ _ _ _ _ _ _ hLnext GLnext (hr.mono (by decide)) ((¬0)∘ab) (by rfl) (by decide) (by rfl) (by rfl)) ae)∘ab)))) (@aV _ _ _ _ _ _ _ (@bC _ _ _ _ _ _ _ _ _ _ _ _ _ _ _ hLnext GLnext (hr.mono (by decide)) ((¬0)∘ab) (by rfl) (by decide) (by rfl) (by rfl)) ae) (fun _ _=>rfl)) (by rfl) (by trivial))
      (@ah _ _ _ _ _ (@aq _ _ _ _ _ (@ay _ _ _ _ _ _ ((¬3)∘((¬5)∘((@aZ _ _ _ _ _ _ _ _ _ (@b_tuple _ _ rfl) (by rfl) T.b_tuple ((¬7)∘ab) (by decide) (by decide) (by rfl) (by rfl))∘((¬9)∘ab)))))))))))))))
noncomputable def lu:FI:=(kj (ac 1))
noncomputable def ez:FT:=(av (am (yh false) (ac 0) (jd (am dZ (am dZ (ac 1) (vC (.int 1))) (ac 2)) bG (bE (vC (.int 2))))))
noncomputable def eC:FE:=(ac 2)
noncomputable def nY:FS:=(aQ (aE (g1 eE) (aa (iZ [(2,"_law_thing"),(0,"_law_web_here")] 1 lu (ai 2) ez eC) ag)))
noncomputable def fB:FM:=hU 3 0 [] nY
theorem m_:aL ["_law_web_here","_law_asked","_law_thing"] ["_law_web_here","_law_asked","_law_thing"] (aj ek):=⟨rfl,rfl,rfl,by decide+kernel,rfl,by decide+kernel,by decide+kernel⟩
theorem sk(h:bH K mg "_law_asks_of" ek f fd ["_law_web_here","_law_asked","_law_thing"])(T:jD mg):aU P w K mg base cD 1 f fd ["_law_web_here","_law_asked","_law_thing"] (cM K 3 fB):=by
  have nd:=m_.nd
  exact h.fn m_ rfl rfl (fun cdv A outer s H E hr=>(@ah _ _ _ _ _ (@aq _ _ _ _ _ (@aZ _ _ _ _ _ _ _ _ _ (@b_len _ _ rfl) (by rfl) T.b_len ((@kB _ _ _ _ _ _ _ _ _ _ _ _ _ (aj ek) ["_law_web_here","_law_asked","_law_thing"] [(2,"_law_thing"),(0,"_law_web_here")] ["_law_tie"] rfl rfl rfl (@h8 _ _ _ _ _ rfl (¬1))
        (fun C s0 H0 fp=>(@aN _ _ _ 2 _ (show List.Nodup (["_law_thing","_law_web_here","_law_tie"]:List Str) by decide+kernel) rfl (Or.inl rfl) (by trivial))) (fun C s0 H0 fp=>(@lZ _ _ _ _ (@aS _ _ _ _ _ _ _ _ _ (@yq _ _ _ rfl hr) (¬0) (@cw _ _ _ _ _ _ _ _ _ _ rfl (@bW _ _ _ _ _ _ _ rfl (@bW _ _ _ _ _ _ _ rfl (¬1) ae (fun _ _=>rfl)) (¬2) (fun _ _=>rfl)) (@cx _ _) (@cy _ _ _ _ ae)) (by with_unfolding_all rfl))))
        (fun C s0 H0 fp=>(¬2)) rfl (by decide+kernel) (by decide+kernel) (by decide+kernel) (by decide+kernel) (by decide+kernel) (by decide+kernel) (by decide+kernel) (by intro _;rfl))∘ab) (by decide) (by decide) (by rfl) (by rfl)))))
noncomputable def tJ:FI:=(kj (jd (am dZ (am dZ (ac 0) (vC (.int 1))) (ac 2)) bG (bE (vC (.int 2)))))
noncomputable def gU:FS:=(dX (nF (av (am (yh false) (ac 5) (ac 4))) (av (am Ar (dG 3 fB (aa (ac 0) (aa (ac 3) (aa (ac 5) ag)))) (am dZ (am dZ (ac 0) (vC (.int 2))) (ac 5)))))
    (aQ (vC (.bool false)))
    bx)
noncomputable def nZ:FS:=(az (jk (ac 1) (dz (aX (ai 3) (aX (ai 4) cN))))
    (az (dX (nF (av (am (yh false) (ac 2) (ac 3))) (av (am Ar (aE (g1 eE) (aa (ac 3) ag)) (am dZ (ac 0) (vC (.int 3))))))
    (aQ (vC (.bool false)))
    bx)
    (az (c7 ([5]++([]++[])) tJ (ai 5) gU)
    (aQ (vC (.bool true))))))
noncomputable def jS:FM:=hU 3 3 (([3]++([4]++[]))++(([]++[])++(([5]++([]++[]))++[]))) nZ
theorem xO:aL ["_law_web_here","_law_stand","_law_tie","_law_asked","_law_taken","_law_thing"] ["_law_web_here","_law_stand","_law_tie"] (aj oO):=⟨rfl,rfl,rfl,by decide+kernel,rfl,by decide+kernel,by decide+kernel⟩
theorem BG(h:bH K mg "_law_may" oO f fd ["_law_web_here","_law_stand","_law_tie"])(T:jD mg){fLasks_of:Addr}{eLasks_of:FuncData}(hLasks_of:bH K mg "_law_asks_of" ek fLasks_of eLasks_of ["_law_web_here","_law_asked","_law_thing"])(GLasks_of:aU P w K mg base cD 1 fLasks_of eLasks_of ["_law_web_here","_law_asked","_law_thing"] (cM K 3 fB)):aU P w K mg base cD 2 f fd ["_law_web_here","_law_stand","_law_tie"] (cM K 3 jS):=by
  have nd:=xO.nd
  exact h.fn xO rfl rfl (fun cdv A outer s H E hr=>(@af _ _ _ _ _ _ _ _ (@kD _ _ _ _ _ _ _ _ (¬1) (@jB _ _ _ _ _ _ _ _ rfl rfl (@bP _ _ _ _ _ _ _ _ (@aN _ _ _ 3 _ nd rfl (Or.inl rfl) (by trivial)) (@bP _ _ _ _ _ _ _ _ (@aN _ _ _ 4 _ nd rfl (Or.inl rfl) (by trivial)) (@hZ _ _) (by rfl)) (by rfl)) (cv (cv jz)) (by rfl) (by rfl)) (by rfl) (by rfl) (by rfl))
      (@af _ _ _ _ _ _ _ _ (@bo _ _ _ _ _ _ _ _ _ _ _ (@nQ _ _ _ _ (@iV _ _ _ _ _ _ _ _ (@aS _ _ _ _ _ _ _ _ _ (@yq _ _ _ rfl hr) (¬2) (¬3) (by with_unfolding_all rfl)) (@h9 _ _ _ _ _ (@aS _ _ _ _ _ _ _ _ _ (@vM _ _) (@aZ _ _ _ _ _ _ _ _ _ (@b_len _ _ rfl) (by rfl) T.b_len ((¬3)∘ab) (by decide) (by decide) (by rfl) (by rfl)) (@bW _ _ _ _ _ _ _ rfl (¬0) ae (fun _ _=>rfl)) (aI _)))))
      (@ah _ _ _ _ _ (@aq _ _ _ _ _ (@bM _ _ _ _ _)))
      (@aF _ _))
      (@af _ _ _ _ _ _ _ _ (@ee _ _ _ _ _ _ _ _ _ _ _ PassesOwn.never rfl (@h8 _ _ _ _ _ rfl (@cw _ _ _ _ _ _ _ _ _ _ rfl (@bW _ _ _ _ _ _ _ rfl (@bW _ _ _ _ _ _ _ rfl (¬0) ae (fun _ _=>rfl)) (¬2) (fun _ _=>rfl)) (@cx _ _) (@cy _ _ _ _ ae))) (@aN _ _ _ 5 _ nd rfl (Or.inl rfl) (by trivial))
      (@ah _ _ _ _ _ (@bo _ _ _ _ _ _ _ _ _ _ _ (@nQ _ _ _ _ (@iV _ _ _ _ _ _ _ _ (@aS _ _ _ _ _ _ _ _ _ (@yq _ _ _ rfl hr) (¬5) (¬4) (by with_unfolding_all rfl)) (@h9 _ _ _ _ _ (@aS _ _ _ _ _ _ _ _ _ (@vM _ _) (@bC _ _ _ _ _ _ _ _ _ _ _ _ _ _ _ hLasks_of GLasks_of (hr.mono (by decide)) ((¬0)∘((¬3)∘((¬5)∘ab))) (by rfl) (by decide) (by rfl) (by rfl)) (@bW _ _ _ _ _ _ _ rfl (@bW _ _ _ _ _ _ _ rfl (¬0) ae (fun _ _=>rfl)) (¬5) (fun _ _=>rfl)) (aI _)))))
      (@ah _ _ _ _ _ (@aq _ _ _ _ _ (@bM _ _ _ _ _)))
      (@aF _ _))) (by intro _;rfl))
      (@ah _ _ _ _ _ (@aq _ _ _ _ _ (@bM _ _ _ _ _)))))))
noncomputable def mh:FS:=(az (jk (ac 1) (dz (aX (ai 4) (aX (ai 5) cN))))
    (az (bv 6 (ac 5))
    (az (dX (av (ac 3))
    (bv 6 (aE (g1 dQ) (aa (aE (g1 fH) (aa (am ba (ac 5) (jd (am dZ (am dZ (ac 0) (vC (.int 1))) (ac 2)) bG (bE (vC (.int 2))))) ag)) ag)))
    bx)
    (aQ (aW (aa (aE (g1 dQ) (aa (aE (g1 fH) (aa (am ba (ac 4) (aW (aa (ac 2) ag))) ag)) ag)) (aa (ac 6) ag)))))))
noncomputable def gD:FM:=hU 4 3 (([4]++([5]++[]))++([6]++(([6]++[])++[]))) mh
theorem oR:aL ["_law_web_here","_law_stand","_law_tie","_law_truth","_law_asked","_law_taken","_law_more"] ["_law_web_here","_law_stand","_law_tie","_law_truth"] (aj gG):=⟨rfl,rfl,rfl,by decide+kernel,rfl,by decide+kernel,by decide+kernel⟩
theorem uP(h:bH K mg "_law_behind" gG f fd ["_law_web_here","_law_stand","_law_tie","_law_truth"])(T:jD mg):aU P w K mg base cD 1 f fd ["_law_web_here","_law_stand","_law_tie","_law_truth"] (cM K 4 gD):=by
  have nd:=oR.nd
  exact h.fn oR rfl rfl (fun cdv A outer s H E hr=>(@af _ _ _ _ _ _ _ _ (@kD _ _ _ _ _ _ _ _ (¬1) (@jB _ _ _ _ _ _ _ _ rfl rfl (@bP _ _ _ _ _ _ _ _ (@aN _ _ _ 4 _ nd rfl (Or.inl rfl) (by trivial)) (@bP _ _ _ _ _ _ _ _ (@aN _ _ _ 5 _ nd rfl (Or.inl rfl) (by trivial)) (@hZ _ _) (by rfl)) (by rfl)) (cv (cv jz)) (by rfl) (by rfl)) (by rfl) (by rfl) (by rfl))
      (@af _ _ _ _ _ _ _ _ (@aJ _ _ _ _ _ 6 _ _ nd rfl (Or.inl rfl) (¬5) (by rfl) (by trivial))
      (@af _ _ _ _ _ _ _ _ (@bo _ _ _ _ _ _ _ _ _ _ _ (@cQ _ _ _ _ (¬3) (by intro _;rfl))
      (@ah _ _ _ _ _ (@aJ _ _ _ _ _ 6 _ _ nd rfl (Or.inl rfl) (@aZ _ _ _ _ _ _ _ _ _ (@b_tuple _ _ rfl) (by rfl) T.b_tuple ((@aZ _ _ _ _ _ _ _ _ _ (@b_sorted _ _ rfl) (by rfl) T.b_sorted ((@bu _ _ _ _ _ _ _ rfl (¬5) (@cw _ _ _ _ _ _ _ _ _ _ rfl (@bW _ _ _ _ _ _ _ rfl (@bW _ _ _ _ _ _ _ rfl (¬0) ae (fun _ _=>rfl)) (¬2) (fun _ _=>rfl)) (@cx _ _) (@cy _ _ _ _ ae)))∘ab) (by decide) (by decide) (by rfl) (by rfl))∘ab) (by decide) (by decide) (by rfl) (by rfl)) (by rfl) (by trivial)))
      (@aF _ _))
      (@ah _ _ _ _ _ (@aq _ _ _ _ _ (@ay _ _ _ _ _ _ ((@aZ _ _ _ _ _ _ _ _ _ (@b_tuple _ _ rfl) (by rfl) T.b_tuple ((@aZ _ _ _ _ _ _ _ _ _ (@b_sorted _ _ rfl) (by rfl) T.b_sorted ((@bu _ _ _ _ _ _ _ rfl (¬4) (@ay _ _ _ _ _ _ ((¬2)∘ab)))∘ab) (by decide) (by decide) (by rfl) (by rfl))∘ab) (by decide) (by decide) (by rfl) (by rfl))∘((¬6)∘ab)))))))))
noncomputable def iN:FI:=(cK (aa (aE (g1 eE) (aa (am dZ (ac 0) (vC (.int 1))) ag)) ag))
noncomputable def eu:FT:=(av (dG 3 jS (aa (ac 0) (aa (ac 1) (aa (ac 2) ag)))))
noncomputable def eB:FE:=(ac 2)
noncomputable def nX:FS:=(aQ (iZ [(0,"_law_web_here"),(1,"_law_stand")] 1 iN (ai 2) eu eB))
noncomputable def gC:FM:=hU 2 0 [] nX
theorem m9:aL ["_law_web_here","_law_stand"] ["_law_web_here","_law_stand"] (aj ej):=⟨rfl,rfl,rfl,by decide+kernel,rfl,by decide+kernel,by decide+kernel⟩
theorem sj(h:bH K mg "_law_askable" ej f fd ["_law_web_here","_law_stand"])(T:jD mg){fLmay:Addr}{eLmay:FuncData}(hLmay:bH K mg "_law_may" oO fLmay eLmay ["_law_web_here","_law_stand","_law_tie"])(GLmay:aU P w K mg base cD 2 fLmay eLmay ["_law_web_here","_law_stand","_law_tie"] (cM K 3 jS)):aU P w K mg base cD 3 f fd ["_law_web_here","_law_stand"] (cM K 2 gC):=by
  have nd:=m9.nd
  exact h.fn m9 rfl rfl (fun cdv A outer s H E hr=>(@ah _ _ _ _ _ (@aq _ _ _ _ _ (@kB _ _ _ _ _ _ _ _ _ _ _ _ _ (aj ej) ["_law_web_here","_law_stand"] [(0,"_law_web_here"),(1,"_law_stand")] ["_law_tie"] rfl rfl rfl (@cL _ _ _ _ _ _ _ rfl T.b_range ((@aZ _ _ _ _ _ _ _ _ _ (@b_len _ _ rfl) (by rfl) T.b_len ((@bW _ _ _ _ _ _ _ rfl (¬0) ae (fun _ _=>rfl))∘ab) (by decide) (by decide) (by rfl) (by rfl))∘ab) (by rfl))
        (fun C s0 H0 fp=>(@aN _ _ _ 2 _ (show List.Nodup (["_law_web_here","_law_stand","_law_tie"]:List Str) by decide+kernel) rfl (Or.inl rfl) (by trivial))) (fun C s0 H0 fp=>(@lZ _ _ _ _ (@cQ _ _ _ _ (@bC _ _ _ _ _ _ _ _ _ _ _ _ _ _ _ hLmay GLmay (hr.mono (by decide)) ((¬0)∘((¬1)∘((¬2)∘ab))) (by rfl) (by decide) (by rfl) (by rfl)) (by intro _;rfl))))
        (fun C s0 H0 fp=>(¬2)) rfl (by decide+kernel) (by decide+kernel) (by decide+kernel) (by decide+kernel) (by decide+kernel) (by decide+kernel) (by decide+kernel) (by intro _;rfl)))))
noncomputable def Am:FS:=(az (bv 1 (cS (aa (vC .none) (aa (vC (.bool true)) (aa (vC (.bool false)) (aa (vC (.int 0)) (aa (vC (.int 1)) (aa (kO rT (vC (.int 1))) (aa (vC (.int 5)) (aa (vC (.str ("":Str))) (aa (vC (.str ("a":Str))) (aa (vC (.str ("0":Str))) (aa (aW ag) (aa (aW (aa (vC (.int 0)) ag)) (aa (aW (aa (vC (.int 0)) (aa (vC (.int 1)) ag))) (aa (aW (aa (aW ag) (aa (aW ag) ag))) (aa (cS ag) (aa (cS (aa (vC (.int 0)) ag)) (aa (nB []) (aa (nB [(0,1)]) ag))))))))))))))))))))
    (az (bv 1 (am ba (ac 1) (cS (aa (aW (aa (vC .none) ag)) (aa (aW (aa (aW ag) ag)) (aa (cS (aa (aW ag) ag)) (aa (aW (aa (vC (.bool true)) (aa (vC (.bool false)) ag))) (aa (aW (aa (aW (aa (vC (.int 0)) (aa (vC (.int 1)) ag))) (aa (aW (aa (vC (.int 1)) (aa (vC (.int 2)) ag))) ag))) (aa (aW (aa (aW (aa (aW ag) (aa (aW ag) ag))) ag)) (aa (aW (aa (vC (.str ("a":Str))) (aa (vC (.int 1)) ag))) (aa (aW (aa (aW (aa (vC (.int 0)) (aa (vC (.int 1)) ag))) ag)) (aa (am pB (vC (.int 10)) (vC (.int 30))) ag))))))))))))
    (aQ (am dZ (ac 1) (am aR (ac 0) (aE (g1 eE) (aa (ac 1) ag)))))))
noncomputable def qJ:FM:=hU 1 1 ([1]++([1]++[])) Am
theorem xP:aL ["_law_number","_law_odd_here"] ["_law_number"] (aj oP):=⟨rfl,rfl,rfl,by decide+kernel,rfl,by decide+kernel,by decide+kernel⟩
theorem BH(h:bH K mg "_law_odd" oP f fd ["_law_number"])(T:jD mg):aU P w K mg base cD 1 f fd ["_law_number"] (cM K 1 qJ):=by
  have nd:=xP.nd
  exact h.fn xP rfl rfl (fun cdv A outer s H E hr=>(@af _ _ _ _ _ _ _ _ (@aJ _ _ _ _ _ 1 _ _ nd rfl (Or.inl rfl) (@bN _ _ _ _ _ ((@sy _ _ _ _)∘((@bM _ _ _ _ _)∘((@bM _ _ _ _ _)∘(ae∘(ae∘((@xr _ _ _ _ _ ae)∘(ae∘((@pW _ _ _ _ _)∘((@pW _ _ _ _ _)∘((@pW _ _ _ _ _)∘((@ay _ _ _ _ _ _ ab)∘((@ay _ _ _ _ _ _ (ae∘ab))∘((@ay _ _ _ _ _ _ (ae∘(ae∘ab)))∘((@ay _ _ _ _ _ _ ((@ay _ _ _ _ _ _ ab)∘((@ay _ _ _ _ _ _ ab)∘ab)))∘((@bN _ _ _ _ _ ab)∘((@bN _ _ _ _ _ (ae∘ab))∘((@qY _ _ _)∘((@xx _ _ _ _ _ _ _ _ _)∘ab))))))))))))))))))) (by rfl) (by trivial))
      (@af _ _ _ _ _ _ _ _ (@aJ _ _ _ _ _ 1 _ _ nd rfl (Or.inl rfl) (@bu _ _ _ _ _ _ _ rfl (¬1) (@bN _ _ _ _ _ ((@ay _ _ _ _ _ _ ((@sy _ _ _ _)∘ab))∘((@ay _ _ _ _ _ _ ((@ay _ _ _ _ _ _ ab)∘ab))∘((@bN _ _ _ _ _ ((@ay _ _ _ _ _ _ ab)∘ab))∘((@ay _ _ _ _ _ _ ((@bM _ _ _ _ _)∘((@bM _ _ _ _ _)∘ab)))∘((@ay _ _ _ _ _ _ ((@ay _ _ _ _ _ _ (ae∘(ae∘ab)))∘((@ay _ _ _ _ _ _ (ae∘(ae∘ab)))∘ab)))∘((@ay _ _ _ _ _ _ ((@ay _ _ _ _ _ _ ((@ay _ _ _ _ _ _ ab)∘((@ay _ _ _ _ _ _ ab)∘ab)))∘ab))∘((@ay _ _ _ _ _ _ ((@pW _ _ _ _ _)∘(ae∘ab)))∘((@ay _ _ _ _ _ _ ((@ay _ _ _ _ _ _ (ae∘(ae∘ab)))∘ab))∘((@xt _ _ _ _ _ _ _ ae ae)∘ab))))))))))) (by rfl) (by trivial))
      (@ah _ _ _ _ _ (@aq _ _ _ _ _ (@bW _ _ _ _ _ _ _ rfl (¬1) (@aV _ _ _ _ _ _ _ (¬0) (@aZ _ _ _ _ _ _ _ _ _ (@b_len _ _ rfl) (by rfl) T.b_len ((¬1)∘ab) (by decide) (by decide) (by rfl) (by rfl))) (fun _ _=>rfl)))))))
noncomputable def f_:FI:=(kj (ac 0))
noncomputable def br:FS:=(dX (nF (fL (av (kO (jO "int") (ac 2)))) (nF (av (kO (jO "bool") (ac 2))) (nF (av (am Au (ac 2) (vC (.int 0)))) (av (am Ar (ac 2) (ac 1))))))
    (aQ (vC (.bool false)))
    bx)
noncomputable def fN:FS:=(az (dX (fL (av (kO (jO "tuple") (ac 0))))
    (aQ (vC (.bool false)))
    bx)
    (az (c7 ([2]++([]++[])) f_ (ai 2) br)
    (aQ (am (bL false) (aE (g1 mD) (aa (ac 0) ag)) (kO gA (ac 0))))))
noncomputable def bY:FM:=hU 2 1 (([]++[])++(([2]++([]++[]))++[])) fN
theorem jZ:aL ["_law_thing","_law_many","_law_one"] ["_law_thing","_law_many"] (aj dB):=⟨rfl,rfl,rfl,by decide+kernel,rfl,by decide+kernel,by decide+kernel⟩
theorem pP(h:bH K mg "_law_is_rising" dB f fd ["_law_thing","_law_many"])(T:jD mg):aU P w K mg base cD 1 f fd ["_law_thing","_law_many"] (cM K 2 bY):=by
  have nd:=jZ.nd
  exact h.fn jZ rfl rfl (fun cdv A outer s H E hr=>(@af _ _ _ _ _ _ _ _ (@bo _ _ _ _ _ _ _ _ _ _ _ (@eT _ _ _ _ _ (@cQ _ _ _ _ (@lw _ _ _ _ _ _ _ _ "tuple" rfl (by decide) rfl T.b_isinstance rfl T.b_tuple PyProof.Rows.boot_tuple (by decide) (by decide) (¬0) (by rfl) (by rfl)) (by intro _;rfl)))
      (@ah _ _ _ _ _ (@aq _ _ _ _ _ (@bM _ _ _ _ _)))
      (@aF _ _))
      (@af _ _ _ _ _ _ _ _ (@ee _ _ _ _ _ _ _ _ _ _ _ PassesOwn.never rfl (@h8 _ _ _ _ _ rfl (¬0)) (@aN _ _ _ 2 _ nd rfl (Or.inl rfl) (by trivial))
      (@ah _ _ _ _ _ (@bo _ _ _ _ _ _ _ _ _ _ _ (@nQ _ _ _ _ (@iV _ _ _ _ _ _ _ _ (@eT _ _ _ _ _ (@cQ _ _ _ _ (@lw _ _ _ _ _ _ _ _ "int" rfl (by decide) rfl T.b_isinstance rfl T.b_int PyProof.Rows.boot_int (by decide) (by decide) (¬2) (by rfl) (by rfl)) (by intro _;rfl))) (@iV _ _ _ _ _ _ _ _ (@cQ _ _ _ _ (@lw _ _ _ _ _ _ _ _ "bool" rfl (by decide) rfl T.b_isinstance rfl T.b_bool PyProof.Rows.boot_bool (by decide) (by decide) (¬2) (by rfl) (by rfl)) (by intro _;rfl)) (@iV _ _ _ _ _ _ _ _ (@aS _ _ _ _ _ _ _ _ _ (@yr _ _) (¬2) ae (aI _)) (@h9 _ _ _ _ _ (@aS _ _ _ _ _ _ _ _ _ (@vM _ _) (¬2) (¬1) (aI _)))))))
      (@ah _ _ _ _ _ (@aq _ _ _ _ _ (@bM _ _ _ _ _)))
      (@aF _ _))) (by intro _;rfl))
      (@ah _ _ _ _ _ (@aq _ _ _ _ _ (@jW _ _ _ _ _ _ _ _ _ (@iD _ _ _ rfl hr) (@aZ _ _ _ _ _ _ _ _ _ (@b_list _ _ rfl) (by rfl) T.b_list ((¬0)∘ab) (by decide) (by decide) (by rfl) (by rfl)) (@uW _ _ _ _ _ _ _ _ rfl rfl rfl T.b_sorted rfl T.b_set (¬0) (by rfl) (by rfl) (by rfl) (by rfl)) (aI _)))))))
noncomputable def gZ:FI:=(kj (ac 3))
noncomputable def dJ:FT:=(av (am (bL false) (am dZ (ac 0) (ac 1)) (vC (.int 0))))
noncomputable def e6:FE:=(ac 1)
noncomputable def fj:FI:=(tK (aa (ac 4) (aa (am dZ (ac 0) (vC (.int 2))) ag)))
noncomputable def b_:FS:=(dX (av (am yB (ac 7) (ac 8)))
    (aQ (vC (.bool false)))
    bx)
noncomputable def g9:FI:=(kj (jd (am dZ (am dZ (ac 0) (vC (.int 1))) (ac 5)) bG (bE (vC (.int 2)))))
noncomputable def eY:FS:=(zI (am ba (am dZ (ac 4) (ac 6)) (vC (.int 1))) (ac 4) (ac 6))
noncomputable def g_:FI:=(kj (ac 2))
noncomputable def eZ:FS:=(c7 ([6]++[]) g9 (ai 6) eY)
noncomputable def cE:FS:=(az (dX (nF (fL (av (kO (jO "tuple") (ac 1)))) (av (am (bL true) (aE (g1 eE) (aa (ac 1) ag)) (vC (.int 2)))))
    (aQ (vC (.bool false)))
    bx)
    (az (jk (ac 1) (dz (aX (ai 2) (aX (ai 3) cN))))
    (az (dX (nF (fL (av (dG 2 bY (aa (ac 2) (aa (aE (g1 eE) (aa (am dZ (ac 0) (vC (.int 1))) ag)) ag))))) (fL (av (dG 2 bY (aa (ac 3) (aa (am dZ (ac 0) (vC (.int 0))) ag))))))
    (aQ (vC (.bool false)))
    bx)
    (az (bv 4 (am jx (cS (aa (vC (.int 0)) ag)) (am dZ (ac 0) (vC (.int 0)))))
    (az (c7 ([5]++([6]++[])) g_ (ai 5) eZ)
    (az (c7 (([7]++([8]++[]))++([]++[])) fj (dz (aX (ai 7) (aX (ai 8) cN))) b_)
    (az (dX (nF (av (am yB (aE (g1 eE) (aa (ac 2) ag)) (am dZ (ac 0) (vC (.int 3))))) (av (vp (aE (g1 eE) (aa (ac 3) ag)) (aa (vC (.int 0)) (aa (am ba (am dZ (ac 0) (vC (.int 0))) (vC (.int 1))) (aa (vC (.int 2)) ag))))))
    (aQ (vC (.bool false)))
    bx)
    (aQ (am (uu false) (iZ [(4,"_law_counts")] 1 gZ (ai 1) dJ e6) (cS ag))))))))))
noncomputable def bz:FM:=hU 2 7 (([]++[])++(([2]++([3]++[]))++(([]++[])++([4]++(([5]++([6]++[]))++((([7]++([8]++[]))++([]++[]))++(([]++[])++[]))))))) cE
theorem lD:aL ["_law_web_here","_law_thing","_law_asked","_law_taken","_law_counts","_law_tie","_law_end","_law_count","_law_most"] ["_law_web_here","_law_thing"] (aj dj):=⟨rfl,rfl,rfl,by decide+kernel,rfl,by decide+kernel,by decide+kernel⟩
theorem qS(h:bH K mg "_law_is_stand" dj f fd ["_law_web_here","_law_thing"])(T:jD mg){fLis_rising:Addr}{eLis_rising:FuncData}(hLis_rising:bH K mg "_law_is_rising" dB fLis_rising eLis_rising ["_law_thing","_law_many"])(GLis_rising:aU P w K mg base cD 1 fLis_rising eLis_rising ["_law_thing","_law_many"] (cM K 2 bY)):aU P w K mg base cD 2 f fd ["_law_web_here","_law_thing"] (cM K 2 bz):=by
  have nd:=lD.nd
  exact h.fn lD rfl rfl (fun cdv A outer s H E hr=>(@af _ _ _ _ _ _ _ _ (@bo _ _ _ _ _ _ _ _ _ _ _ (@nQ _ _ _ _ (@iV _ _ _ _ _ _ _ _ (@eT _ _ _ _ _ (@cQ _ _ _ _ (@lw _ _ _ _ _ _ _ _ "tuple" rfl (by decide) rfl T.b_isinstance rfl T.b_tuple PyProof.Rows.boot_tuple (by decide) (by decide) (¬1) (by rfl) (by rfl)) (by intro _;rfl))) (@h9 _ _ _ _ _ (@aS _ _ _ _ _ _ _ _ _ (@vO _ _ _ rfl hr) (@aZ _ _ _ _ _ _ _ _ _ (@b_len _ _ rfl) (by rfl) T.b_len ((¬1)∘ab) (by decide) (by decide) (by rfl) (by rfl)) ae (aI _)))))
      (@ah _ _ _ _ _ (@aq _ _ _ _ _ (@bM _ _ _ _ _)))
      (@aF _ _))
      (@af _ _ _ _ _ _ _ _ (@kD _ _ _ _ _ _ _ _ (¬1) (@jB _ _ _ _ _ _ _ _ rfl rfl (@bP _ _ _ _ _ _ _ _ (@aN _ _ _ 2 _ nd rfl (Or.inl rfl) (by trivial)) (@bP _ _ _ _ _ _ _ _ (@aN _ _ _ 3 _ nd rfl (Or.inl rfl) (by trivial)) (@hZ _ _) (by rfl)) (by rfl)) (cv (cv jz)) (by rfl) (by rfl)) (by rfl) (by rfl) (by rfl))
      (@af _ _ _ _ _ _ _ _ (@bo _ _ _ _ _ _ _ _ _ _ _ (@nQ _ _ _ _ (@iV _ _ _ _ _ _ _ _ (@eT _ _ _ _ _ (@cQ _ _ _ _ (@bC _ _ _ _ _ _ _ _ _ _ _ _ _ _ _ hLis_rising GLis_rising (hr.mono (by decide)) ((¬2)∘((@aZ _ _ _ _ _ _ _ _ _ (@b_len _ _ rfl) (by rfl) T.b_len ((@bW _ _ _ _ _ _ _ rfl (¬0) ae (fun _ _=>rfl))∘ab) (by decide) (by decide) (by rfl) (by rfl))∘ab)) (by rfl) (by decide) (by rfl) (by rfl)) (by intro _;rfl))) (@h9 _ _ _ _ _ (@eT _ _ _ _ _ (@cQ _ _ _ _ (@bC _ _ _ _ _ _ _ _ _ _ _ _ _ _ _ hLis_rising GLis_rising (hr.mono (by decide)) ((¬3)∘((@bW _ _ _ _ _ _ _ rfl (¬0) ae (fun _ _=>rfl))∘ab)) (by rfl) (by decide) (by rfl) (by rfl)) (by intro _;rfl))))))
      (@ah _ _ _ _ _ (@aq _ _ _ _ _ (@bM _ _ _ _ _)))
      (@aF _ _))
      (@af _ _ _ _ _ _ _ _ (@aJ _ _ _ _ _ 4 _ _ nd rfl (Or.inr rfl) (@mX _ _ _ _ _ _ _ rfl (@bN _ _ _ _ _ (ae∘ab)) (@bW _ _ _ _ _ _ _ rfl (¬0) ae (fun _ _=>rfl))) (by rfl) (by trivial))
      (@af _ _ _ _ _ _ _ _ (@ee _ _ _ _ _ _ _ _ _ _ _ PassesOwn.never rfl (@h8 _ _ _ _ _ rfl (¬2)) (@aN _ _ _ 5 _ nd rfl (Or.inl rfl) (by trivial))
      (@ah _ _ _ _ _ (@ee _ _ _ _ _ _ _ _ _ _ _ PassesOwn.never rfl (@h8 _ _ _ _ _ rfl (@cw _ _ _ _ _ _ _ _ _ _ rfl (@bW _ _ _ _ _ _ _ rfl (@bW _ _ _ _ _ _ _ rfl (¬0) ae (fun _ _=>rfl)) (¬5) (fun _ _=>rfl)) (@cx _ _) (@cy _ _ _ _ ae))) (@aN _ _ _ 6 _ nd rfl (Or.inl rfl) (by trivial))
      (@ah _ _ _ _ _ (@Cr _ _ _ _ _ _ _ _ _ _ (@bu _ _ _ _ _ _ _ rfl (@bW _ _ _ _ _ _ _ rfl (¬4) (¬6) (fun _ _=>rfl)) ae) (¬4) (¬6) (by intro _;rfl) (by rfl) (by rfl) (by rfl))) (by intro _;rfl))) (by intro _;rfl))
      (@af _ _ _ _ _ _ _ _ (@ee _ _ _ _ _ _ _ _ _ _ _ PassesOwn.never rfl (@Cp _ _ _ _ _ _ _ _ _ _ rfl rfl T.b_zip ((¬4)∘((@bW _ _ _ _ _ _ _ rfl (¬0) ae (fun _ _=>rfl))∘ab)) (by rfl) (by rfl)) (@jB _ _ _ _ _ _ _ _ rfl rfl (@bP _ _ _ _ _ _ _ _ (@aN _ _ _ 7 _ nd rfl (Or.inl rfl) (by trivial)) (@bP _ _ _ _ _ _ _ _ (@aN _ _ _ 8 _ nd rfl (Or.inl rfl) (by trivial)) (@hZ _ _) (by rfl)) (by rfl)) (cv (cv jz)) (by rfl) (by rfl))
      (@ah _ _ _ _ _ (@bo _ _ _ _ _ _ _ _ _ _ _ (@aS _ _ _ _ _ _ _ _ _ (@vN _ _) (¬7) (¬8) (aI _))
      (@ah _ _ _ _ _ (@aq _ _ _ _ _ (@bM _ _ _ _ _)))
      (@aF _ _))) (by intro _;rfl))
      (@af _ _ _ _ _ _ _ _ (@bo _ _ _ _ _ _ _ _ _ _ _ (@nQ _ _ _ _ (@iV _ _ _ _ _ _ _ _ (@aS _ _ _ _ _ _ _ _ _ (@vN _ _) (@aZ _ _ _ _ _ _ _ _ _ (@b_len _ _ rfl) (by rfl) T.b_len ((¬2)∘ab) (by decide) (by decide) (by rfl) (by rfl)) (@bW _ _ _ _ _ _ _ rfl (¬0) ae (fun _ _=>rfl)) (aI _)) (@h9 _ _ _ _ _ (@Ct _ _ _ _ _ _ _ _ _ _ _ rfl rfl T.b_range (@aZ _ _ _ _ _ _ _ _ _ (@b_len _ _ rfl) (by rfl) T.b_len ((¬3)∘ab) (by decide) (by decide) (by rfl) (by rfl)) (ae∘((@bu _ _ _ _ _ _ _ rfl (@bW _ _ _ _ _ _ _ rfl (¬0) ae (fun _ _=>rfl)) ae)∘(ae∘ab))) (by rfl) (by rfl) (by with_unfolding_all rfl)))))
      (@ah _ _ _ _ _ (@aq _ _ _ _ _ (@bM _ _ _ _ _)))
      (@aF _ _))
      (@ah _ _ _ _ _ (@aq _ _ _ _ _ (@jW _ _ _ _ _ _ _ _ _ (@Dy _ _ _ rfl hr) (@kB _ _ _ _ _ _ _ _ _ _ _ _ _ (aj dj) ["_law_web_here","_law_thing","_law_asked","_law_taken","_law_counts","_law_tie","_law_end","_law_count","_law_most"] [(4,"_law_counts")] ["_law_end"] rfl rfl rfl (@h8 _ _ _ _ _ rfl (¬3))
        (fun C s0 H0 fp=>(@aN _ _ _ 1 _ (show List.Nodup (["_law_counts","_law_end"]:List Str) by decide+kernel) rfl (Or.inl rfl) (by trivial))) (fun C s0 H0 fp=>(@lZ _ _ _ _ (@aS _ _ _ _ _ _ _ _ _ (@iD _ _ _ rfl hr) (@bW _ _ _ _ _ _ _ rfl (¬0) (¬1) (fun _ _=>rfl)) ae (aI _))))
        (fun C s0 H0 fp=>(¬1)) rfl (by decide+kernel) (by decide+kernel) (by decide+kernel) (by decide+kernel) (by decide+kernel) (by decide+kernel) (by decide+kernel) (by intro _;rfl)) (@bN _ _ _ _ _ ab) (aI _))))))))))))
noncomputable def mF:FI:=(cK (aa (am aR (dG 1 bA (aa (ac 0) ag)) (vC (.int 11))) ag))
noncomputable def iB:FS:=(az (bv 4 (dG 2 gC (aa (ac 1) (aa (ac 2) ag))))
    (dX (av (am (bL true) (ac 4) (cS ag)))
    (az (bv 5 (dG 1 bA (aa (ac 0) ag)))
    (bv 2 (dG 4 gD (aa (ac 1) (aa (ac 2) (aa (am dZ (ac 4) (am aR (am bI (ac 5) (vC (.int 2))) (aE (g1 eE) (aa (ac 4) ag)))) (aa (am (bL false) (am aR (ac 5) (vC (.int 2))) (vC (.int 1))) ag)))))))
    bx))
noncomputable def vG:FS:=(az (bv 2 (aW (aa (aW ag) (aa (aW ag) ag))))
    (az (c7 ([3]++([4]++(([5]++[2])++[]))) mF (ai 3) iB)
    (aQ (ac 2))))
noncomputable def mM:FM:=hU 2 4 ([2]++(([3]++([4]++(([5]++[2])++[])))++[])) vG
theorem tX:aL ["_law_drawn","_law_web_here","_law_stand","_law_k","_law_some","_law_number"] ["_law_drawn","_law_web_here"] (aj kJ):=⟨rfl,rfl,rfl,by decide+kernel,rfl,by decide+kernel,by decide+kernel⟩
theorem yV(h:bH K mg "_law_come" kJ f fd ["_law_drawn","_law_web_here"])(T:jD mg){fLaskable:Addr}{eLaskable:FuncData}(hLaskable:bH K mg "_law_askable" ej fLaskable eLaskable ["_law_web_here","_law_stand"])(GLaskable:aU P w K mg base cD 3 fLaskable eLaskable ["_law_web_here","_law_stand"] (cM K 2 gC)){fLnext:Addr}{eLnext:FuncData}(hLnext:bH K mg "_law_next" ia fLnext eLnext ["_law_drawn"])(GLnext:aU P w K mg base cD 1 fLnext eLnext ["_law_drawn"] (cM K 1 bA)){fLbehind:Addr}{eLbehind:FuncData}(hLbehind:bH K mg "_law_behind" gG fLbehind eLbehind ["_law_web_here","_law_stand","_law_tie","_law_truth"])(GLbehind:aU P w K mg base cD 1 fLbehind eLbehind ["_law_web_here","_law_stand","_law_tie","_law_truth"] (cM K 4 gD)):aU P w K mg base cD 4 f fd ["_law_drawn","_law_web_here"] (cM K 2 mM):=by
  have nd:=tX.nd
  exact h.fn tX rfl rfl (fun cdv A outer s H E hr=>(@af _ _ _ _ _ _ _ _ (@aJ _ _ _ _ _ 2 _ _ nd rfl (Or.inl rfl) (@ay _ _ _ _ _ _ ((@ay _ _ _ _ _ _ ab)∘((@ay _ _ _ _ _ _ ab)∘ab))) (by rfl) (by trivial))
      (@af _ _ _ _ _ _ _ _ (@ee _ _ _ _ _ _ _ _ _ _ _ PassesOwn.never rfl (@cL _ _ _ _ _ _ _ rfl T.b_range ((@aV _ _ _ _ _ _ _ (@bC _ _ _ _ _ _ _ _ _ _ _ _ _ _ _ hLnext GLnext (hr.mono (by decide)) ((¬0)∘ab) (by rfl) (by decide) (by rfl) (by rfl)) ae)∘ab) (by rfl)) (@aN _ _ _ 3 _ nd rfl (Or.inl rfl) (by trivial))
      (@af _ _ _ _ _ _ _ _ (@aJ _ _ _ _ _ 4 _ _ nd rfl (Or.inl rfl) (@bC _ _ _ _ _ _ _ _ _ _ _ _ _ _ _ hLaskable GLaskable (hr.mono (by decide)) ((¬1)∘((¬2)∘ab)) (by rfl) (by decide) (by rfl) (by rfl)) (by rfl) (by trivial))
      (@ah _ _ _ _ _ (@bo _ _ _ _ _ _ _ _ _ _ _ (@aS _ _ _ _ _ _ _ _ _ (@vO _ _ _ rfl hr) (¬4) (@bN _ _ _ _ _ ab) (aI _))
      (@af _ _ _ _ _ _ _ _ (@aJ _ _ _ _ _ 5 _ _ nd rfl (Or.inl rfl) (@bC _ _ _ _ _ _ _ _ _ _ _ _ _ _ _ hLnext GLnext (hr.mono (by decide)) ((¬0)∘ab) (by rfl) (by decide) (by rfl) (by rfl)) (by rfl) (by trivial))
      (@ah _ _ _ _ _ (@aJ _ _ _ _ _ 2 _ _ nd rfl (Or.inl rfl) (@bC _ _ _ _ _ _ _ _ _ _ _ _ _ _ _ hLbehind GLbehind (hr.mono (by decide)) ((¬1)∘((¬2)∘((@bW _ _ _ _ _ _ _ rfl (¬4) (@aV _ _ _ _ _ _ _ (@cH _ _ _ _ _ _ _ (¬5) ae) (@aZ _ _ _ _ _ _ _ _ _ (@b_len _ _ rfl) (by rfl) T.b_len ((¬4)∘ab) (by decide) (by decide) (by rfl) (by rfl))) (fun _ _=>rfl))∘((@jW _ _ _ _ _ _ _ _ _ (@iD _ _ _ rfl hr) (@aV _ _ _ _ _ _ _ (¬5) ae) ae (aI _))∘ab)))) (by rfl) (by decide) (by rfl) (by rfl)) (by rfl) (by trivial))))
      (@aF _ _)))) (by intro _;rfl))
      (@ah _ _ _ _ _ (@aq _ _ _ _ _ (¬2))))))
noncomputable def jt:FS:=(az (bv 3 (am aR (am bI (ac 0) (vC (.int 16))) (am ba (aE (g1 eE) (aa (ac 1) ag)) (vC (.int 1)))))
    (az (bv 4 (am dZ (cS (aa (am aR (am bI (ac 0) (vC (.int 300))) (aE (g2 pA) (aa (vC (.int 1)) (aa (ac 2) ag)))) (aa (ac 2) (aa (kO rT (vC (.int 1))) (aa (vC (.bool true)) (aa (vC .none) (aa (vC (.int 0)) (aa (cS (aa (vC (.int 0)) ag)) (aa (nB []) (aa (vC (.bool false)) ag)))))))))) (am aR (am bI (ac 0) (vC (.int 50))) (vC (.int 9)))))
    (az (bv 5 (am aR (ac 0) (vC (.int 8))))
    (az (dX (av (am (bL false) (ac 5) (vC (.int 0))))
    (aQ (aE (g1 dQ) (aa (aE (g1 fH) (aa (am ba (ac 1) (aW (aa (am aR (am bI (ac 0) (vC (.int 300))) (aE (g2 pA) (aa (vC (.int 1)) (aa (ac 2) ag)))) ag))) ag)) ag)))
    bx)
    (az (dX (av (am (bL false) (ac 5) (vC (.int 1))))
    (aQ (am ba (am ba (jd (ac 1) bG (bE (ac 3))) (aW (aa (ac 4) ag))) (jd (ac 1) (bE (ac 3)) bG)))
    bx)
    (az (dX (av (am (bL false) (ac 5) (vC (.int 2))))
    (aQ (am ba (jd (ac 1) bG (bE (ac 3))) (jd (ac 1) (bE (am ba (ac 3) (vC (.int 1)))) bG)))
    bx)
    (az (dX (av (am (bL false) (ac 5) (vC (.int 3))))
    (aQ (am ba (am ba (jd (ac 1) bG (bE (ac 3))) (aW (aa (ac 4) ag))) (jd (ac 1) (bE (am ba (ac 3) (vC (.int 1)))) bG)))
    bx)
    (az (dX (av (am (bL false) (ac 5) (vC (.int 4))))
    (aQ (am ba (jd (ac 1) (bE (ac 3)) bG) (jd (ac 1) bG (bE (ac 3)))))
    bx)
    (az (dX (av (am (bL false) (ac 5) (vC (.int 5))))
    (aQ (je (aa (am aR (am bI (ac 0) (vC (.int 300))) (am ba (ac 2) (vC (.int 1)))) ag)))
    bx)
    (aQ (am dZ (cS (aa (aE (g1 mD) (aa (ac 1) ag)) (aa (am ba (ac 1) (jd (ac 1) (bE (kO rT (vC (.int 1)))) bG)) ag))) (am gY (ac 5) (vC (.int 6))))))))))))))
noncomputable def di:FM:=hU 3 3 ([3]++([4]++([5]++(([]++[])++(([]++[])++(([]++[])++(([]++[])++(([]++[])++(([]++[])++[]))))))))) jt
theorem lC:aL ["_law_number","_law_row","_law_many","_law_at","_law_thing","_law_way"] ["_law_number","_law_row","_law_many"] (aj el):=⟨rfl,rfl,rfl,by decide+kernel,rfl,by decide+kernel,by decide+kernel⟩
theorem qR(h:bH K mg "_law_bent_row" el f fd ["_law_number","_law_row","_law_many"])(T:jD mg):aU P w K mg base cD 1 f fd ["_law_number","_law_row","_law_many"] (cM K 3 di):=by
  have nd:=lC.nd
  exact h.fn lC rfl rfl (fun cdv A outer s H E hr=>(@af _ _ _ _ _ _ _ _ (@aJ _ _ _ _ _ 3 _ _ nd rfl (Or.inl rfl) (@aV _ _ _ _ _ _ _ (@cH _ _ _ _ _ _ _ (¬0) ae) (@bu _ _ _ _ _ _ _ rfl (@aZ _ _ _ _ _ _ _ _ _ (@b_len _ _ rfl) (by rfl) T.b_len ((¬1)∘ab) (by decide) (by decide) (by rfl) (by rfl)) ae)) (by rfl) (by trivial))
      (@af _ _ _ _ _ _ _ _ (@aJ _ _ _ _ _ 4 _ _ nd rfl (Or.inl rfl) (@bW _ _ _ _ _ _ _ rfl (@bN _ _ _ _ _ ((@aV _ _ _ _ _ _ _ (@cH _ _ _ _ _ _ _ (¬0) ae) (@aZ _ _ _ _ _ _ _ _ _ (@b_max _ _ rfl) (by rfl) T.b_max (ae∘((¬2)∘ab)) (by decide) (by decide) (by rfl) (by rfl)))∘((¬2)∘((@xr _ _ _ _ _ ae)∘((@bM _ _ _ _ _)∘((@sy _ _ _ _)∘(ae∘((@bN _ _ _ _ _ (ae∘ab))∘((@qY _ _ _)∘((@bM _ _ _ _ _)∘ab)))))))))) (@aV _ _ _ _ _ _ _ (@cH _ _ _ _ _ _ _ (¬0) ae) ae) (fun _ _=>rfl)) (by rfl) (by trivial))
      (@af _ _ _ _ _ _ _ _ (@aJ _ _ _ _ _ 5 _ _ nd rfl (Or.inl rfl) (@aV _ _ _ _ _ _ _ (¬0) ae) (by rfl) (by trivial))
      (@af _ _ _ _ _ _ _ _ (@bo _ _ _ _ _ _ _ _ _ _ _ (@aS _ _ _ _ _ _ _ _ _ (@iD _ _ _ rfl hr) (¬5) ae (aI _))
      (@ah _ _ _ _ _ (@aq _ _ _ _ _ (@aZ _ _ _ _ _ _ _ _ _ (@b_tuple _ _ rfl) (by rfl) T.b_tuple ((@aZ _ _ _ _ _ _ _ _ _ (@b_sorted _ _ rfl) (by rfl) T.b_sorted ((@bu _ _ _ _ _ _ _ rfl (¬1) (@ay _ _ _ _ _ _ ((@aV _ _ _ _ _ _ _ (@cH _ _ _ _ _ _ _ (¬0) ae) (@aZ _ _ _ _ _ _ _ _ _ (@b_max _ _ rfl) (by rfl) T.b_max (ae∘((¬2)∘ab)) (by decide) (by decide) (by rfl) (by rfl)))∘ab)))∘ab) (by decide) (by decide) (by rfl) (by rfl))∘ab) (by decide) (by decide) (by rfl) (by rfl))))
      (@aF _ _))
      (@af _ _ _ _ _ _ _ _ (@bo _ _ _ _ _ _ _ _ _ _ _ (@aS _ _ _ _ _ _ _ _ _ (@iD _ _ _ rfl hr) (¬5) ae (aI _))
      (@ah _ _ _ _ _ (@aq _ _ _ _ _ (@bu _ _ _ _ _ _ _ rfl (@bu _ _ _ _ _ _ _ rfl (@cw _ _ _ _ _ _ _ _ _ _ rfl (¬1) (@cx _ _) (@cy _ _ _ _ (¬3))) (@ay _ _ _ _ _ _ ((¬4)∘ab))) (@cw _ _ _ _ _ _ _ _ _ _ rfl (¬1) (@cy _ _ _ _ (¬3)) (@cx _ _)))))
      (@aF _ _))
      (@af _ _ _ _ _ _ _ _ (@bo _ _ _ _ _ _ _ _ _ _ _ (@aS _ _ _ _ _ _ _ _ _ (@iD _ _ _ rfl hr) (¬5) ae (aI _))
      (@ah _ _ _ _ _ (@aq _ _ _ _ _ (@bu _ _ _ _ _ _ _ rfl (@cw _ _ _ _ _ _ _ _ _ _ rfl (¬1) (@cx _ _) (@cy _ _ _ _ (¬3))) (@cw _ _ _ _ _ _ _ _ _ _ rfl (¬1) (@cy _ _ _ _ (@bu _ _ _ _ _ _ _ rfl (¬3) ae)) (@cx _ _)))))
      (@aF _ _))
      (@af _ _ _ _ _ _ _ _ (@bo _ _ _ _ _ _ _ _ _ _ _ (@aS _ _ _ _ _ _ _ _ _ (@iD _ _ _ rfl hr) (¬5) ae (aI _))
      (@ah _ _ _ _ _ (@aq _ _ _ _ _ (@bu _ _ _ _ _ _ _ rfl (@bu _ _ _ _ _ _ _ rfl (@cw _ _ _ _ _ _ _ _ _ _ rfl (¬1) (@cx _ _) (@cy _ _ _ _ (¬3))) (@ay _ _ _ _ _ _ ((¬4)∘ab))) (@cw _ _ _ _ _ _ _ _ _ _ rfl (¬1) (@cy _ _ _ _ (@bu _ _ _ _ _ _ _ rfl (¬3) ae)) (@cx _ _)))))
      (@aF _ _))
      (@af _ _ _ _ _ _ _ _ (@bo _ _ _ _ _ _ _ _ _ _ _ (@aS _ _ _ _ _ _ _ _ _ (@iD _ _ _ rfl hr) (¬5) ae (aI _))
      (@ah _ _ _ _ _ (@aq _ _ _ _ _ (@bu _ _ _ _ _ _ _ rfl (@cw _ _ _ _ _ _ _ _ _ _ rfl (¬1) (@cy _ _ _ _ (¬3)) (@cx _ _)) (@cw _ _ _ _ _ _ _ _ _ _ rfl (¬1) (@cx _ _) (@cy _ _ _ _ (¬3))))))
      (@aF _ _))
      (@af _ _ _ _ _ _ _ _ (@bo _ _ _ _ _ _ _ _ _ _ _ (@aS _ _ _ _ _ _ _ _ _ (@iD _ _ _ rfl hr) (¬5) ae (aI _))
      (@ah _ _ _ _ _ (@aq _ _ _ _ _ (@sv _ _ _ _ _ _ _ _ rfl rfl T.b_tuple rfl T.b_range ((@aV _ _ _ _ _ _ _ (@cH _ _ _ _ _ _ _ (¬0) ae) (@bu _ _ _ _ _ _ _ rfl (¬2) ae))∘ab) (by rfl) (by rfl))))
      (@aF _ _))
      (@ah _ _ _ _ _ (@aq _ _ _ _ _ (@bW _ _ _ _ _ _ _ rfl (@bN _ _ _ _ _ ((@aZ _ _ _ _ _ _ _ _ _ (@b_list _ _ rfl) (by rfl) T.b_list ((¬1)∘ab) (by decide) (by decide) (by rfl) (by rfl))∘((@bu _ _ _ _ _ _ _ rfl (¬1) (@cw _ _ _ _ _ _ _ _ _ _ rfl (¬1) (@cy _ _ _ _ (@xr _ _ _ _ _ ae)) (@cx _ _)))∘ab))) (@qX _ _ _ _ _ _ _ (¬5) ae) (fun _ _=>rfl))))))))))))))
noncomputable def mi:FS:=(az (jk (ac 2) (dz (aX (ai 3) (aX (ai 4) cN))))
    (az (bv 5 (am aR (ac 0) (vC (.int 5))))
    (az (dX (av (am Au (ac 5) (vC (.int 2))))
    (aQ (aW (aa (dG 3 di (aa (am bI (ac 0) (vC (.int 5))) (aa (ac 3) (aa (aE (g1 eE) (aa (am dZ (ac 1) (vC (.int 1))) ag)) ag)))) (aa (ac 4) ag))))
    bx)
    (az (dX (av (am (bL false) (ac 5) (vC (.int 2))))
    (aQ (aW (aa (ac 3) (aa (dG 3 di (aa (am bI (ac 0) (vC (.int 5))) (aa (ac 4) (aa (am dZ (ac 1) (vC (.int 0))) ag)))) ag))))
    bx)
    (az (dX (av (am (bL false) (ac 5) (vC (.int 3))))
    (aQ (am dZ (cS (aa (aW (aa (ac 4) (aa (ac 3) ag))) (aa (aW (aa (ac 3) ag)) (aa (aW (aa (ac 3) (aa (ac 4) (aa (aW ag) ag)))) (aa (cS (aa (ac 3) (aa (ac 4) ag))) (aa (aW (aa (ac 3) (aa (aW ag) ag))) (aa (aW (aa (aW ag) (aa (ac 4) ag))) ag))))))) (am aR (am bI (ac 0) (vC (.int 5))) (vC (.int 6)))))
    bx)
    (aQ (dG 1 qJ (aa (am bI (ac 0) (vC (.int 5))) ag))))))))
noncomputable def iQ:FM:=hU 3 3 (([3]++([4]++[]))++([5]++(([]++[])++(([]++[])++(([]++[])++[]))))) mi
theorem tW:aL ["_law_number","_law_web_here","_law_stand","_law_asked","_law_taken","_law_kind"] ["_law_number","_law_web_here","_law_stand"] (aj kG):=⟨rfl,rfl,rfl,by decide+kernel,rfl,by decide+kernel,by decide+kernel⟩
theorem yU(h:bH K mg "_law_bent" kG f fd ["_law_number","_law_web_here","_law_stand"])(T:jD mg){fLodd:Addr}{eLodd:FuncData}(hLodd:bH K mg "_law_odd" oP fLodd eLodd ["_law_number"])(GLodd:aU P w K mg base cD 1 fLodd eLodd ["_law_number"] (cM K 1 qJ)){fLbent_row:Addr}{eLbent_row:FuncData}(hLbent_row:bH K mg "_law_bent_row" el fLbent_row eLbent_row ["_law_number","_law_row","_law_many"])(GLbent_row:aU P w K mg base cD 1 fLbent_row eLbent_row ["_law_number","_law_row","_law_many"] (cM K 3 di)):aU P w K mg base cD 2 f fd ["_law_number","_law_web_here","_law_stand"] (cM K 3 iQ):=by
  have nd:=tW.nd
  exact h.fn tW rfl rfl (fun cdv A outer s H E hr=>(@af _ _ _ _ _ _ _ _ (@kD _ _ _ _ _ _ _ _ (¬2) (@jB _ _ _ _ _ _ _ _ rfl rfl (@bP _ _ _ _ _ _ _ _ (@aN _ _ _ 3 _ nd rfl (Or.inl rfl) (by trivial)) (@bP _ _ _ _ _ _ _ _ (@aN _ _ _ 4 _ nd rfl (Or.inl rfl) (by trivial)) (@hZ _ _) (by rfl)) (by rfl)) (cv (cv jz)) (by rfl) (by rfl)) (by rfl) (by rfl) (by rfl))
      (@af _ _ _ _ _ _ _ _ (@aJ _ _ _ _ _ 5 _ _ nd rfl (Or.inl rfl) (@aV _ _ _ _ _ _ _ (¬0) ae) (by rfl) (by trivial))
      (@af _ _ _ _ _ _ _ _ (@bo _ _ _ _ _ _ _ _ _ _ _ (@aS _ _ _ _ _ _ _ _ _ (@yr _ _) (¬5) ae (aI _))
      (@ah _ _ _ _ _ (@aq _ _ _ _ _ (@ay _ _ _ _ _ _ ((@bC _ _ _ _ _ _ _ _ _ _ _ _ _ _ _ hLbent_row GLbent_row (hr.mono (by decide)) ((@cH _ _ _ _ _ _ _ (¬0) ae)∘((¬3)∘((@aZ _ _ _ _ _ _ _ _ _ (@b_len _ _ rfl) (by rfl) T.b_len ((@bW _ _ _ _ _ _ _ rfl (¬1) ae (fun _ _=>rfl))∘ab) (by decide) (by decide) (by rfl) (by rfl))∘ab))) (by rfl) (by decide) (by rfl) (by rfl))∘((¬4)∘ab)))))
      (@aF _ _))
      (@af _ _ _ _ _ _ _ _ (@bo _ _ _ _ _ _ _ _ _ _ _ (@aS _ _ _ _ _ _ _ _ _ (@iD _ _ _ rfl hr) (¬5) ae (aI _))
      (@ah _ _ _ _ _ (@aq _ _ _ _ _ (@ay _ _ _ _ _ _ ((¬3)∘((@bC _ _ _ _ _ _ _ _ _ _ _ _ _ _ _ hLbent_row GLbent_row (hr.mono (by decide)) ((@cH _ _ _ _ _ _ _ (¬0) ae)∘((¬4)∘((@bW _ _ _ _ _ _ _ rfl (¬1) ae (fun _ _=>rfl))∘ab))) (by rfl) (by decide) (by rfl) (by rfl))∘ab)))))
      (@aF _ _))
      (@af _ _ _ _ _ _ _ _ (@bo _ _ _ _ _ _ _ _ _ _ _ (@aS _ _ _ _ _ _ _ _ _ (@iD _ _ _ rfl hr) (¬5) ae (aI _))
      (@ah _ _ _ _ _ (@aq _ _ _ _ _ (@bW _ _ _ _ _ _ _ rfl (@bN _ _ _ _ _ ((@ay _ _ _ _ _ _ ((¬4)∘((¬3)∘ab)))∘((@ay _ _ _ _ _ _ ((¬3)∘ab))∘((@ay _ _ _ _ _ _ ((¬3)∘((¬4)∘((@ay _ _ _ _ _ _ ab)∘ab))))∘((@bN _ _ _ _ _ ((¬3)∘((¬4)∘ab)))∘((@ay _ _ _ _ _ _ ((¬3)∘((@ay _ _ _ _ _ _ ab)∘ab)))∘((@ay _ _ _ _ _ _ ((@ay _ _ _ _ _ _ ab)∘((¬4)∘ab)))∘ab))))))) (@aV _ _ _ _ _ _ _ (@cH _ _ _ _ _ _ _ (¬0) ae) ae) (fun _ _=>rfl))))
      (@aF _ _))
      (@ah _ _ _ _ _ (@aq _ _ _ _ _ (@bC _ _ _ _ _ _ _ _ _ _ _ _ _ _ _ hLodd GLodd (hr.mono (by decide)) ((@cH _ _ _ _ _ _ _ (¬0) ae)∘ab) (by rfl) (by decide) (by rfl) (by rfl))))))))))
noncomputable def GH:FI:=(cK (aa (vC (.int 6)) ag))
noncomputable def Fm:FS:=(az (bv 7 (dG 3 iQ (aa (dG 1 bA (aa (ac 1) ag)) (aa (ac 3) (aa (ac 5) ag)))))
    (dX (fL (av (dG 2 mN (aa (dG 2 bB (aa (ac 3) (aa (ac 7) ag))) (aa (dG 2 bz (aa (ac 3) (aa (ac 7) ag))) ag)))))
    (aQ (vC (.bool false)))
    bx))
noncomputable def GI:FI:=(cK (aa (vC (.int 4)) ag))
noncomputable def Du:FS:=(az (bv 3 (dG 3 qK (aa (ac 1) (aa (vC (.int 12)) (aa (vC (.int 16)) ag)))))
    (az (bv 4 (aE (g1 lr) (aa (ac 3) ag)))
    (az (bv 5 (dG 2 mM (aa (ac 1) (aa (ac 3) ag))))
    (az (dX (nF (av (am mC (dG 2 bB (aa (ac 3) (aa (ac 5) ag))) (vC (.bool true)))) (av (am mC (dG 2 bB (aa (ac 3) (aa (aW (aa (aW ag) (aa (aW ag) ag))) ag))) (vC (.bool true)))))
    (aQ (vC (.bool false)))
    bx)
    (az (c7 ([6]++([7]++([]++[]))) GH (ai 6) Fm)
    (dX (av (am (bL true) (aE (g1 lr) (aa (ac 3) ag)) (ac 4)))
    (aQ (vC (.bool false)))
    bx))))))
noncomputable def Ao:FS:=(az (bv 1 (dG 1 jR (aa (ac 0) ag)))
    (az (c7 ([2]++([3]++([4]++([5]++(([]++[])++(([6]++([7]++([]++[])))++([]++[]))))))) GI (ai 2) Du)
    (aQ (vC (.bool true)))))
noncomputable def mP:FM:=hU 1 7 ([1]++(([2]++([3]++([4]++([5]++(([]++[])++(([6]++([7]++([]++[])))++([]++[])))))))++[])) Ao
theorem xR:aL ["_law_script","_law_drawn","_law_k","_law_web_here","_law_mark","_law_stand","_law_j","_law_thing"] ["_law_script"] (aj ly):=⟨rfl,rfl,rfl,by decide+kernel,rfl,by decide+kernel,by decide+kernel⟩
theorem BJ(h:bH K mg "law" ly f fd ["_law_script"])(T:jD mg){fLdraws:Addr}{eLdraws:FuncData}(hLdraws:bH K mg "_law_draws" ja fLdraws eLdraws ["_law_script"])(GLdraws:aU P w K mg base cD 2 fLdraws eLdraws ["_law_script"] (cM K 1 jR)){fLweb:Addr}{eLweb:FuncData}(hLweb:bH K mg "_law_web" oQ fLweb eLweb ["_law_drawn","_law_most","_law_ties_here"])(GLweb:aU P w K mg base cD 5 fLweb eLweb ["_law_drawn","_law_most","_law_ties_here"] (cM K 3 qK)){fLcome:Addr}{eLcome:FuncData}(hLcome:bH K mg "_law_come" kJ fLcome eLcome ["_law_drawn","_law_web_here"])(GLcome:aU P w K mg base cD 4 fLcome eLcome ["_law_drawn","_law_web_here"] (cM K 2 mM)){fLbent:Addr}{eLbent:FuncData}(hLbent:bH K mg "_law_bent" kG fLbent eLbent ["_law_number","_law_web_here","_law_stand"])(GLbent:aU P w K mg base cD 2 fLbent eLbent ["_law_number","_law_web_here","_law_stand"] (cM K 3 iQ)){f_is_stand:Addr}{e_is_stand:FuncData}(h_is_stand:bH K mg "is_stand" dk f_is_stand e_is_stand ["web","thing"])(G_is_stand:aU P w K mg base cD 4 f_is_stand e_is_stand ["web","thing"] (cM K 2 bB)){fLnext:Addr}{eLnext:FuncData}(hLnext:bH K mg "_law_next" ia fLnext eLnext ["_law_drawn"])(GLnext:aU P w K mg base cD 1 fLnext eLnext ["_law_drawn"] (cM K 1 bA)){fLsays:Addr}{eLsays:FuncData}(hLsays:bH K mg "_law_says" kL fLsays eLsays ["_law_found","_law_due"])(GLsays:aU P w K mg base cD 1 fLsays eLsays ["_law_found","_law_due"] (cM K 2 mN)){fLis_stand:Addr}{eLis_stand:FuncData}(hLis_stand:bH K mg "_law_is_stand" dj fLis_stand eLis_stand ["_law_web_here","_law_thing"])(GLis_stand:aU P w K mg base cD 2 fLis_stand eLis_stand ["_law_web_here","_law_thing"] (cM K 2 bz)):aU P w K mg base cD 6 f fd ["_law_script"] (cM K 1 mP):=by
  have nd:=xR.nd
  exact h.fn xR rfl rfl (fun cdv A outer s H E hr=>(@af _ _ _ _ _ _ _ _ (@aJ _ _ _ _ _ 1 _ _ nd rfl (Or.inl rfl) (@bC _ _ _ _ _ _ _ _ _ _ _ _ _ _ _ hLdraws GLdraws (hr.mono (by decide)) ((¬0)∘ab) (by rfl) (by decide) (by rfl) (by rfl)) (by rfl) (by trivial))
      (@af _ _ _ _ _ _ _ _ (@ee _ _ _ _ _ _ _ _ _ _ _ PassesOwn.never rfl (@cL _ _ _ _ _ _ _ rfl T.b_range (ae∘ab) (by rfl)) (@aN _ _ _ 2 _ nd rfl (Or.inl rfl) (by trivial))
      (@af _ _ _ _ _ _ _ _ (@aJ _ _ _ _ _ 3 _ _ nd rfl (Or.inl rfl) (@bC _ _ _ _ _ _ _ _ _ _ _ _ _ _ _ hLweb GLweb (hr.mono (by decide)) ((¬1)∘(ae∘(ae∘ab))) (by rfl) (by decide) (by rfl) (by rfl)) (by rfl) (by trivial))
      (@af _ _ _ _ _ _ _ _ (@aJ _ _ _ _ _ 4 _ _ nd rfl (Or.inl rfl) (@aZ _ _ _ _ _ _ _ _ _ (@b_repr _ _ _ rfl hr) (by rfl) T.b_repr ((¬3)∘ab) (by decide) (by decide) (by rfl) (by rfl)) (by rfl) (by trivial))
      (@af _ _ _ _ _ _ _ _ (@aJ _ _ _ _ _ 5 _ _ nd rfl (Or.inl rfl) (@bC _ _ _ _ _ _ _ _ _ _ _ _ _ _ _ hLcome GLcome (hr.mono (by decide)) ((¬1)∘((¬3)∘ab)) (by rfl) (by decide) (by rfl) (by rfl)) (by rfl) (by trivial))
      (@af _ _ _ _ _ _ _ _ (@bo _ _ _ _ _ _ _ _ _ _ _ (@nQ _ _ _ _ (@iV _ _ _ _ _ _ _ _ (@aS _ _ _ _ _ _ _ _ _ (@tu _ _) (@bC _ _ _ _ _ _ _ _ _ _ _ _ _ _ _ h_is_stand G_is_stand (hr.mono (by decide)) ((¬3)∘((¬5)∘ab)) (by rfl) (by decide) (by rfl) (by rfl)) (@bM _ _ _ _ _) (aI _)) (@h9 _ _ _ _ _ (@aS _ _ _ _ _ _ _ _ _ (@tu _ _) (@bC _ _ _ _ _ _ _ _ _ _ _ _ _ _ _ h_is_stand G_is_stand (hr.mono (by decide)) ((¬3)∘((@ay _ _ _ _ _ _ ((@ay _ _ _ _ _ _ ab)∘((@ay _ _ _ _ _ _ ab)∘ab)))∘ab)) (by rfl) (by decide) (by rfl) (by rfl)) (@bM _ _ _ _ _) (aI _)))))
      (@ah _ _ _ _ _ (@aq _ _ _ _ _ (@bM _ _ _ _ _)))
      (@aF _ _))
      (@af _ _ _ _ _ _ _ _ (@ee _ _ _ _ _ _ _ _ _ _ _ PassesOwn.never rfl (@cL _ _ _ _ _ _ _ rfl T.b_range (ae∘ab) (by rfl)) (@aN _ _ _ 6 _ nd rfl (Or.inl rfl) (by trivial))
      (@af _ _ _ _ _ _ _ _ (@aJ _ _ _ _ _ 7 _ _ nd rfl (Or.inl rfl) (@bC _ _ _ _ _ _ _ _ _ _ _ _ _ _ _ hLbent GLbent (hr.mono (by decide)) ((@bC _ _ _ _ _ _ _ _ _ _ _ _ _ _ _ hLnext GLnext (hr.mono (by decide)) ((¬1)∘ab) (by rfl) (by decide) (by rfl) (by rfl))∘((¬3)∘((¬5)∘ab))) (by rfl) (by decide) (by rfl) (by rfl)) (by rfl) (by trivial))
      (@ah _ _ _ _ _ (@bo _ _ _ _ _ _ _ _ _ _ _ (@eT _ _ _ _ _ (@cQ _ _ _ _ (@bC _ _ _ _ _ _ _ _ _ _ _ _ _ _ _ hLsays GLsays (hr.mono (by decide)) ((@bC _ _ _ _ _ _ _ _ _ _ _ _ _ _ _ h_is_stand G_is_stand (hr.mono (by decide)) ((¬3)∘((¬7)∘ab)) (by rfl) (by decide) (by rfl) (by rfl))∘((@bC _ _ _ _ _ _ _ _ _ _ _ _ _ _ _ hLis_stand GLis_stand (hr.mono (by decide)) ((¬3)∘((¬7)∘ab)) (by rfl) (by decide) (by rfl) (by rfl))∘ab)) (by rfl) (by decide) (by rfl) (by rfl)) (by intro _;rfl)))
      (@ah _ _ _ _ _ (@aq _ _ _ _ _ (@bM _ _ _ _ _)))
      (@aF _ _)))) (by intro _;rfl))
      (@ah _ _ _ _ _ (@bo _ _ _ _ _ _ _ _ _ _ _ (@aS _ _ _ _ _ _ _ _ _ (@vO _ _ _ rfl hr) (@aZ _ _ _ _ _ _ _ _ _ (@b_repr _ _ _ rfl hr) (by rfl) T.b_repr ((¬3)∘ab) (by decide) (by decide) (by rfl) (by rfl)) (¬4) (aI _))
      (@ah _ _ _ _ _ (@aq _ _ _ _ _ (@bM _ _ _ _ _)))
      (@aF _ _)))))))) (by intro _;rfl))
      (@ah _ _ _ _ _ (@aq _ _ _ _ _ (@bM _ _ _ _ _))))))
local macro_rules | `(tactic| simp? [$ts,*]) => `(tactic| simp [$ts,*, hU, iS, az, dX, aQ, bx, bv, fY, jk, m7, nP, av, am, kO, ac, vC, cS, ag, aa, aW, aE, dG, lQ, nF, fL, AN, gL, rD, i3, jd, bG, bE, dW, bR, qL, eS, fF, lL, cF, bh, nL, p5, dz, aX, ai, cN, bT, aG, a8, pO, dn, bg, bQ, bc, fX, fV, fR, fQ, eG, eF, eH, dw, eD, lm, ii, iI, lq, iL, fW, iJ, iK, eJ, eI, dy, eK, ls, gP, gQ, gR, gS, kU, du, dt, dP, fU, List.replicate, -List.map_nil, -List.map_cons, -List.nil_append, -List.cons_append, -Option.bind_some, -Option.map_some, -getElem?_pos, -List.append_nil, k_, k9, kX, kW, kZ, k8, kY, lc])
theorem rG{n k:Int}(h:0 < k):0≤n % k:=Int.emod_nonneg _ (Int.ne_of_gt h)
theorem rH{n k:Int}(h:0 < k):n % k < k:=Int.emod_lt_of_pos _ h
def nx:List Int→Int
  | []=>0
  | d::_=>d
def jg(ds:List Int):Prop:=∀d∈ds,0≤d∧d < 2147483648
theorem AE{ds:List Int}(h:jg ds):0≤nx ds∧nx ds < 2147483648:=by
  cases ds with
  | nil=>exact⟨Int.le_refl 0,by show(0:Int) < 2147483648;decide⟩
  | cons d r=>exact h d (by simp)
theorem Fb{ds:List Int}(h:jg ds):jg ds.tail:=fun d hd=>h d (List.mem_of_mem_tail hd)
theorem CU(ds:List Int):bA [.l (ds.map .int)]=some (.d (.int (nx ds)),[.l (ds.tail.map .int)]):=by
  have hq:∀e:En,e[0]?=some (some (.l (ds.map .int)))→bL false e (.s 0) (.l [])=some (.d (.bool (ds.map PyData.int).isEmpty)):=fun e he=>qt he (lF ds).1
  cases ds with
  | nil=>simp? [bA,rN,hq,nx]
  | cons d r=>simp? [bA,rN,hq,nx]
theorem jl{ds:List Int}(hd:jg ds):∃(n:Int) (ds':List Int),bA [.l (ds.map .int)]=some (.d (.int n),[.l (ds'.map .int)])∧0≤n∧n < 2147483648∧jg ds':=⟨nx ds,ds.tail,CU ds,(AE hd).1,(AE hd).2,Fb hd⟩
theorem ua(cell k:Int)(h0:0≤k)(h1:k≤1000):∃r,i_ [.d (.int cell),.d (.int k)]=some (.d (.int r),[.d (.int cell),.d (.int k)])∧0≤r∧r < 2147483648:=by
  have a1:ko (cell % 2147483647) 48271=true:=pN (by decide) (by decide)
  have a2:ko 7919 k=true:=wH (by decide) (by decide)
  have a3:ko (7919*k) k=true:=pN (by lia) (by lia)
  have a4:ko ((cell % 2147483647*48271+7919*k*k+104729) % 2147483647) ((cell % 2147483647*48271+7919*k*k+104729) % 2147483647)=true:=pN (by lia) (by lia)
  refine⟨_,by simp? [i_,s_,aC,mE,a1,a2,a3,a4];rfl,?_,?_⟩
  · lia
  · lia
theorem pv{ds:List Int}(h:jg ds){r:Int}(h0:0≤r)(h1:r < 2147483648):jg (ds++[r]):=fun d hd=>by
  rcases List.mem_append.mp hd with hd | hd
  · exact h d hd
  · simp at hd;subst hd;exact⟨h0,h1⟩
abbrev dE(ns ds:List Int)(v2 v3 v4:Option Sv):En:=[some (.d (.list (ns.map .int))),some (.l (ds.map .int)),v2,v3,v4]
inductive DI (ns:List Int) (i:Nat):En→Prop
  | mk {ds v2 v3 v4} (hd:jg ds) (hl:ds.length≤1000*i):DI ns i (dE ns ds v2 v3 v4)
inductive DJ (ns:List Int) (k cell:Int) (n i:Nat):En→Prop
  | mk {ds v4} (hd:jg ds) (hl:ds.length=n+i):DJ ns k cell n i (dE ns ds (some (.d (.int k))) (some (.d (.int cell))) v4)
inductive DW (ns:List Int) (k:Int) (v4:Option Sv) (n:Nat):En→Prop
  | mk {cell ds} (hc:0≤cell) (hd:jg ds) (hl:ds.length≤max n 900):DW ns k v4 n (dE ns ds (some (.d (.int k))) (some (.d (.int cell))) v4)
theorem zU(ns:List Int)(hn:ns.length≤63):∃ds,jR [.d (.list (ns.map .int))]=some (.l (ds.map .int),[.d (.list (ns.map .int))])∧jg ds:=by
  have inner:∀(cell k:Int) (ds:List Int) (v4:Option Sv),0≤k→k≤63→jg ds→ds.length≤63000→∃ds' v4',(∀W,c7 W i8 (ai 4) gu (dE ns ds (some (.d (.int k))) (some (.d (.int cell))) v4)=some (.nx (dE ns ds' (some (.d (.int k))) (some (.d (.int cell))) v4')))∧jg ds'∧ds'.length=ds.length+12:=by
    intro cell k ds v4 k0 k1 hd hl
    obtain⟨e',h1,h2⟩:=dO (own:=[]) (g:=ai 4) (f:=gu) (DJ ns k cell ds.length) (aT 0 12) 0 (dE ns ds (some (.d (.int k))) (some (.d (.int cell))) v4) (fun i x e hx hI=>by
      obtain⟨rfl,hi⟩:=bJ hx
      obtain⟨hd',hl'⟩:=hI
      rename_i ds' v4'
      obtain⟨r1,c1,_,_⟩:=ua cell (3*(0+(i:Int))+1) (by lia) (by lia)
      obtain⟨r2,c2,c3,c4⟩:=ua r1 (0+(i:Int)+k+2) (by lia) (by lia)
      have a1:ko 3 (0+(i:Int))=true:=wH (by decide) (by decide)
      refine⟨_,dE ns (ds'++[r2]) (some (.d (.int k))) (some (.d (.int cell))) (some (.d (.int (0+(i:Int))))),rfl,?_,be,.mk (pv hd' c3 c4) (by simp;lia)⟩
      have hlen:ds'.length < 1000000:=by lia
      simp only [Int.zero_add] at a1 c1 c2
      simp? [dE,gu,c1,c2,mE,a1,hlen]) (.mk hd rfl)
    obtain⟨hd',hl'⟩:=h2
    rename_i ds' v4'
    rw [eh] at hl'
    refine⟨ds',v4',fun W=>?_,hd',by lia⟩
    rw [dc (show i8 _=some (aT 0 12,[],_) from dh (n:=12) rfl (by decide) (by decide))]
    exact h1
  have wh:∀(cell k:Int) (ds:List Int) (v4:Option Sv),0≤cell→jg ds→ds.length≤63100→∃cell' ds',m8 (2 ^ 4200) fx i5 (dE ns ds (some (.d (.int k))) (some (.d (.int cell))) v4)=some (.nx (dE ns ds' (some (.d (.int k))) (some (.d (.int cell'))) v4))∧0≤cell'∧jg ds'∧ds'.length≤max ds.length 900:=by
    intro cell k ds v4 hc hd hl
    have tst:∀(cell:Int) (ds:List Int),fx (dE ns ds (some (.d (.int k))) (some (.d (.int cell))) v4)=some (decide (1000000000000000000≤cell)&&decide ((ds.length:Int) < 900),dE ns ds (some (.d (.int k))) (some (.d (.int cell))) v4):=by
      intro cell ds
      by_cases h:(1000000000000000000:Int)≤cell
      · simp? [dE,fx,iM,jV,h]
      · simp? [dE,fx,iM,jV,h]
    obtain⟨e0,e',h1,hI,h3⟩:=nE (ft:=fx) (f:=i5) (DW ns k v4 ds.length)
      (fun e=>1000000 - Az 1 e) (fun e hI=>by
        obtain⟨hc',hd',hl'⟩:=hI
        rename_i cell' ds'
        rw [tst]
        by_cases c1:(1000000000000000000:Int)≤cell'
        · by_cases c2:(ds'.length:Int) < 900
          · refine .inr ⟨_,dE ns (ds'++[cell' % 2147483629]) (some (.d (.int k))) (some (.d (.int (cell' / 2147483629)))) v4,by rw [decide_eq_true c1,decide_eq_true c2];rfl,?_,.mk (by lia) (pv hd' (by lia) (by lia)) (by simp;lia),?_⟩
            · have hlen:ds'.length < 1000000:=by lia
              have b8:Bt 8000 2147483629:=gW (by decide) (by decide)
              simp? [dE,i5,aC,cn,b8,hlen]
            · simp [Az,dE];lia
          · exact .inl ⟨_,by rw [decide_eq_true c1,decide_eq_false c2];rfl,trivial⟩
        · exact .inl ⟨_,by rw [decide_eq_false c1];rfl,trivial⟩) (2 ^ 4200) _ (.mk hc hd (by lia)) (tM (m:=20) (Nat.lt_of_le_of_lt (Nat.sub_le _ _) (by decide)) (by decide))
    obtain⟨hc',hd',hl'⟩:=hI
    rename_i cell' ds'
    rw [tst] at h3
    have h4:=(Prod.mk.inj (Option.some.inj h3)).2
    subst h4
    exact⟨cell',ds',h1,hc',hd',hl'⟩
  have turn:∀(i:Nat) (ds:List Int) (v3 v4:Option Sv) (hi:i < ns.length),jg ds→ds.length≤1000*i→∃ds2 v3' v4',fw (dE ns ds (some (.d (.int (i:Int)))) v3 v4)=some (.nx (dE ns ds2 (some (.d (.int (i:Int)))) v3' v4'))∧jg ds2∧ds2.length≤1000*(i+1):=by
    intro i ds v3 v4 hi hd hl
    have hcell:atI (ns.map PyData.int) (i:Int)=some (.int ns[i]):=by
      rw [iy (by lia) (by rw [List.length_map];lia)]
      simp [hi]
    have c0:(0:Int)≤(ns[i].natAbs:Int):=by lia
    have st:bv 3 (aE (g1 ut) (aa (am dZ (ac 0) (ac 2)) ag)) (dE ns ds (some (.d (.int (i:Int)))) v3 v4)=some (.nx (dE ns ds (some (.d (.int (i:Int)))) (some (.d (.int (ns[i].natAbs:Int)))) v4)):=by
      simp? [dE,hcell]
    generalize (ns[i].natAbs:Int)=cell at c0 st
    have mid:∃ds1 v4',dX (av (am Au (ac 3) (am pB (vC (.int 10)) (vC (.int 18))))) (c7 ([4]++[]) i8 (ai 4) gu) bx (dE ns ds (some (.d (.int (i:Int)))) (some (.d (.int cell))) v4)=some (.nx (dE ns ds1 (some (.d (.int (i:Int)))) (some (.d (.int cell))) v4'))∧jg ds1∧ds1.length≤ds.length+12:=by
      by_cases cb:cell < 1000000000000000000
      · obtain⟨ds1,v4',f1,f2,f3⟩:=inner cell (i:Int) ds v4 (by lia) (by lia) hd (by lia)
        refine⟨ds1,v4',?_,f2,by lia⟩
        rw [EG (e1:=dE ns ds (some (.d (.int (i:Int)))) (some (.d (.int cell))) v4) (by simp? [dE,iM,jV,cb])]
        exact f1 _
      · refine⟨ds,v4,?_,hd,by lia⟩
        rw [EF (e1:=dE ns ds (some (.d (.int (i:Int)))) (some (.d (.int cell))) v4) (by simp? [dE,iM,jV,cb])]
        rfl
    obtain⟨ds1,v4',m1,m2,m3⟩:=mid
    obtain⟨cell2,ds2,w1,w2,w3,w4⟩:=wh cell (i:Int) ds1 v4' c0 m2 (by lia)
    by_cases c2:(2147483629:Int)≤cell2
    · refine⟨ds2++[cell2 % 2147483629],some (.d (.int cell2)),v4',?_,pv w3 (by lia) (by lia),by simp;lia⟩
      have hlen:ds2.length < 1000000:=by lia
      unfold fw
      rw [cA st,cA m1,cA w1]
      simp? [dE,c2,aC,hlen]
    · refine⟨ds2,some (.d (.int cell2)),v4',?_,w3,by lia⟩
      unfold fw
      rw [cA st,cA m1,cA w1]
      simp? [dE,c2]
  obtain⟨e',h1,hI⟩:=dO (own:=[]) (g:=ai 2) (f:=fw) (DI ns) (aT 0 (min (ns.length:Int) 63).toNat) 0 (dE ns [] none none none) (fun i x e hx hI=>by
    obtain⟨rfl,hi⟩:=bJ hx
    obtain⟨hd,hl⟩:=hI
    rename_i ds v2 v3 v4
    rw [Nat.zero_add] at hl ⊢
    obtain⟨ds2,v3',v4',t1,t2,t3⟩:=turn i ds v3 v4 (by lia) hd hl
    exact⟨dE ns ds (some (.d (.int (i:Int)))) v3 v4,_,by simp [ai,dE],t1,be,.mk t2 t3⟩) (.mk (fun d hd=>by cases hd) (by simp))
  obtain⟨hd,hl⟩:=hI
  rename_i ds v2 v3 v4
  refine⟨ds,?_,hd⟩
  have hf:∀W,c7 W ki (ai 2) fw (dE ns [] none none none)=some (.nx (dE ns ds v2 v3 v4)):=fun W=>by
    rw [dc (show ki _=some (aT 0 (min (ns.length:Int) 63).toNat,[],dE ns [] none none none) from dh (n:=min (ns.length:Int) 63) (by simp? [dE]) (by lia) (by lia))]
    exact h1
  unfold dE at hf
  simp only [List.map_nil] at hf
  simp? [jR,sZ,hf]
theorem EY(a b:Int)(hb:Bt 4000 b):qI [.d (.int a),.d (.int b)]=some (.d (.int (Int.gcd a b)),[.d (.int a),.d (.int b)]):=by
  have tst:∀x y:Int,jJ [some (.d (.int x)),some (.d (.int y))]=some (!(y==0),[some (.d (.int x)),some (.d (.int y))]):=fun x y=>by simp? [jJ]
  obtain⟨e0,e',h1,⟨x,y,he,hg,hy⟩,h3⟩:=nE (ft:=jJ) (f:=lU) (fun e=>∃x y,e=[some (.d (.int x)),some (.d (.int y))]∧Int.gcd x y=Int.gcd a b∧Bt 4000 y) (wJ 1) (fun e ⟨x,y,he,hg,hy⟩=>by
    subst he
    rw [tst]
    by_cases c:y=0
    · subst c;exact .inl ⟨_,rfl,trivial⟩
    · refine .inr ⟨_,[some (.d (.int y)),some (.d (.int (x.fmod y)))],by rw [beq_false_of_ne c];rfl,by simp? [lU,Bb c],⟨y,x.fmod y,rfl,by rw [wm,hg],?_⟩,?_⟩
      · have:=li x c
        exact Bt.of_le hy (by lia)
      · have:=li x c
        simpa [wJ] using this) (2 ^ 4200) _ ⟨a,b,rfl,rfl,hb⟩ (tM (m:=4000) (by simpa [wJ,Bt] using hb) (by decide))
  subst he
  rw [tst] at h3
  have h4:=Prod.mk.inj (Option.some.inj h3)
  have hy0:y=0:=by simpa using h4.1
  subst hy0
  have h5:=h4.2
  subst h5
  have hs:m8 (2 ^ 4200) jJ lU [some (.d (.int a)),some (.d (.int b))]=some (.nx [some (.d (.int x)),some (.d (.int 0))]):=h1
  have hg':(x.natAbs:Int)=(Int.gcd a b:Int):=by rw [←hg];simp
  simp only [qI,Ak,hU,iS,az,dX,aQ,bx,bv,fY,jk,m7,nP,av,am,kO,ac,vC,cS,ag,aa,aW,aE,dG,lQ,nF,fL,AN,gL,rD,i3,jd,bG,bE,dW,bR,qL,eS,fF,lL,cF,bh,nL,p5,dz,aX,ai,cN,bT,aG,a8,pO,dn,bg,bQ,bc,fX,fV,fR,fQ,eG,eF,eH,dw,eD,lm,ii,iI,lq,iL,fW,iJ,iK,eJ,eI,dy,eK,ls,gP,gQ,gR,gS,kU,du,dt,dP,fU,List.replicate, -List.map_nil, -List.map_cons, -List.nil_append, -List.cons_append, -Option.bind_some, -Option.map_some, -getElem?_pos, -List.append_nil,k_,k9,kX,kW,kZ,k8,kY,lc]
  simp? [hs,hg']
theorem AM(t b:Int)(hb:0 < b)(h:Bt 4000 b):oD [.d (.int t),.d (.int b)]=some (.d (.tuple [.int (eR t b).1,.int (eR t b).2]),[.d (.int t),.d (.int b)]):=by
  have g0:=tI (t:=t) (b:=b) (by lia)
  have g1:(Int.gcd t b:Int)≠0:=by lia
  have g8:Bt 8000 (Int.gcd t b:Int):=(Bc (t:=t) (by lia) h).mono (by decide)
  have e:eR t b=(t.fdiv (Int.gcd t b:Int),b.fdiv (Int.gcd t b:Int)):=by unfold eR;rw [if_neg (by lia)]
  rw [e]
  simp? [oD,Al,EY t b h,yA g1 g8]
theorem Ap{i:Int}{n:Nat}(h1: -2147483648 < i)(h2:i < 2147483648)(hn:31≤n):Bt n i:=Bt.mono (m:=31) (by unfold Bt;lia) hn
def vU(t b:Int):Prop:=0≤t∧t≤b∧1≤b∧b≤100∧Int.gcd t b=1
theorem x5(n k:Int)(hn:0≤n):∃t b,eM [.d (.int n),.d (.int k)]=some (.d (.tuple [.int t,.int b]),[.d (.int n),.d (.int k)])∧vU t b:=by
  have b9:Bt 8000 9:=gW (by decide) (by decide)
  have b100:Bt 8000 100:=gW (by decide) (by decide)
  have low:∀t b:Int,0 < b→0≤t→t≤b→b≤100→vU (eR t b).1 (eR t b).2:=fun t b hb h0 h1 h2=>by
    obtain⟨r1,r2,r3,r4⟩:=sd hb h0 h1 h2
    exact⟨r1,r2,r3,r4,wF (by lia)⟩
  by_cases c0:k=0
  · subst c0
    obtain⟨x,hx,ha⟩:=iu (xs:=[PyData.tuple [.int 1,.int 2],.tuple [.int 1,.int 3],.tuple [.int 2,.int 3],.tuple [.int 1,.int 1],.tuple [.int 0,.int 1],.tuple [.int 3,.int 4]]) (i:=n % 6) (by lia) (by simp;lia)
    obtain⟨t,b,rfl,hc⟩:∃t b,x=.tuple [.int t,.int b]∧vU t b:=by
      simp only [List.mem_cons,List.not_mem_nil,or_false] at hx
      rcases hx with rfl | rfl | rfl | rfl | rfl | rfl<;>exact⟨_,_,rfl,by unfold vU;decide⟩
    exact⟨t,b,by simp? [eM,iA,aC,ha],hc⟩
  · by_cases c1:k=1
    · subst c1
      have hm:(n / 9) % (2+n % 9 - 1) < 2+n % 9 - 1:=Int.emod_lt_of_pos _ (by lia)
      have hm0:0≤(n / 9) % (2+n % 9 - 1):=Int.emod_nonneg _ (by lia)
      refine⟨_,_,?_,low (1+(n / 9) % (2+n % 9 - 1)) (2+n % 9) (by lia) (by lia) (by lia) (by lia)⟩
      have hpos:∀e:En,aR e (.d (.int (n / 9))) (.d (.int (2+n % 9 - 1)))=_:=fun e=>aC (by lia)
      have hl:=AM (1+(n / 9) % (2+n % 9 - 1)) (2+n % 9) (by lia) (Ap (by lia) (by lia) (by decide))
      simp? [eM,iA,aC,cn,b9,hpos,hl]
    · by_cases c2:k=2
      · subst c2
        have hm:(n / 100) % (1+n % 100+1) < 1+n % 100+1:=Int.emod_lt_of_pos _ (by lia)
        have hm0:0≤(n / 100) % (1+n % 100+1):=Int.emod_nonneg _ (by lia)
        refine⟨_,_,?_,low ((n / 100) % (1+n % 100+1)) (1+n % 100) (by lia) (by lia) (by lia) (by lia)⟩
        have hpos:∀e:En,aR e (.d (.int (n / 100))) (.d (.int (1+n % 100+1)))=_:=fun e=>aC (by lia)
        have hl:=AM ((n / 100) % (1+n % 100+1)) (1+n % 100) (by lia) (Ap (by lia) (by lia) (by decide))
        simp? [eM,iA,aC,cn,b100,hpos,hl]
      · refine⟨1,1,?_,by unfold vU;decide⟩
        simp? [eM,iA,c0,c1,c2]
theorem zV(n k:Int):∃r,jT [.d (.int n),.d (.int k)]=some (.d (.int r),[.d (.int n),.d (.int k)])∧0≤r∧r≤1000:=by
  obtain⟨x,hx,ha⟩:=iu (xs:=[PyData.int (n % 7),.int (5+n % 2),.int (n % 1001),.int (1000 - n % 3)]) (i:=k % 4) (by lia) (by simp;lia)
  obtain⟨r,rfl,hr⟩:∃r,x=.int r∧0≤r∧r≤1000:=by
    simp only [List.mem_cons,List.not_mem_nil,or_false] at hx
    rcases hx with rfl | rfl | rfl | rfl<;>exact⟨_,rfl,by lia,by lia⟩
  exact⟨r,by simp? [jT,tf,aC,ha],hr⟩
abbrev tE(ds:List Int)(things many shape odds ws:Int)(ts:List md)(v7 v8 v9 v10 v11 v12:Option Sv):En:=[some (.l (ds.map .int)),some (.d (.int things)),some (.d (.int many)),some (.d (.int shape)),some (.d (.int odds)),some (.d (.int ws)),some (.l (ts.map cf)),v7,v8,v9,v10,v11,v12]
inductive TR (things many shape odds ws:Int) (ts:List md) (k:Option Sv):En→Prop
  | mk {t ds w8 w9 w10 w11 w12} (hd:jg ds) (ht:t.Ok things):TR things many shape odds ws ts k (tE ds things many shape odds ws (ts++[t]) k w8 w9 w10 w11 w12)
inductive TI (things many a b c:Int) (i:Nat):En→Prop
  | mk {ts ds w7 w8 w9 w10 w11 w12} (hd:jg ds) (hl:ts.length=i) (ht:∀t∈ts,t.Ok things):TI things many a b c i (tE ds things many a b c ts w7 w8 w9 w10 w11 w12)
theorem E9(ds:List Int)(things many shape odds ws:Int)(ts:List md)(k:Int)(v8 v9 v10 v11 v12:Option Sv)(hd:jg ds)(h2:2≤things)(h12:things≤100)(s0:0≤shape)(s1:shape < 6)(k0:0≤k)(hl:ts.length≤1000):
    ∃e',gv (tE ds things many shape odds ws ts (some (.d (.int k))) v8 v9 v10 v11 v12)=some (.nx e')∧TR things many shape odds ws ts (some (.d (.int k))) e':=by
  obtain⟨n,d1,tn, -, -,hd1⟩:=jl hd
  obtain⟨m,d2,tm,m0, -,hd2⟩:=jl hd1
  obtain⟨x,hx,ha⟩:=iu (xs:=[PyData.int (n % things),.int 0,.int (k % things),.int (n % things),.int (n % 2),.int (n % things)]) (i:=shape) s0 (by simp;lia)
  have tp:0 < things:=Int.lt_of_lt_of_le (by decide) h2
  have tq:0 < things - 1:=Int.sub_pos_of_lt (Int.lt_of_lt_of_le (by decide) h2)
  have nt:0≤n % things∧n % things < things:=⟨rG tp,rH tp⟩
  have kt:0≤k % things∧k % things < things:=⟨rG tp,rH tp⟩
  obtain⟨one,rfl,o0,o1⟩:∃r,x=.int r∧0≤r∧r < things:=by
    simp only [List.mem_cons,List.not_mem_nil,or_false] at hx
    rcases hx with rfl | rfl | rfl | rfl | rfl | rfl<;>exact⟨_,rfl,by lia,by lia⟩
  have r0:0≤(n / 12) % (things - 1):=rG tq
  have r1:(n / 12) % (things - 1) < things - 1:=rH tq
  have q0:0≤(one+1+(n / 12) % (things - 1)) % things:=rG tp
  have q1:(one+1+(n / 12) % (things - 1)) % things < things:=rH tp
  have qn:(one+1+(n / 12) % (things - 1)) % things≠one:=fun z=>by
    by_cases c:one+1+(n / 12) % (things - 1) < things
    · rw [Int.emod_eq_of_lt (by lia) c] at z;lia
    · have e:(one+1+(n / 12) % (things - 1)) % things=(one+1+(n / 12) % (things - 1) - things) % things:=by rw [Int.sub_emod_right]
      rw [e,Int.emod_eq_of_lt (by lia) (by lia)] at z;lia
  obtain⟨t,b,c1,c2,c3,c4,c5,c6⟩:=x5 m odds m0
  obtain⟨w,w1,w2,w3⟩:=zV (m / 10007) ws
  have b12:Bt 8000 12:=gW (by decide) (by decide)
  have b107:Bt 8000 10007:=gW (by decide) (by decide)
  have g1:∀(e:En) (i:Int),aR e (.d (.int i)) (.d (.int things))=some (.d (.int (i % things))):=fun e i=>aC tp
  have g2:∀(e:En) (i:Int),aR e (.d (.int i)) (.d (.int (things - 1)))=some (.d (.int (i % (things - 1)))):=fun e i=>aC tq
  have hlen:ts.length < 1000000:=by lia
  by_cases c:shape=4
  · subst c
    refine⟨tE d2 things many 4 odds ws (ts++[⟨0,1,t,b,w⟩]) (some (.d (.int k))) (some (.d (.int n))) (some (.d (.int 0))) (some (.d (.int 1))) (some (.d (.int m))) (some (.d (.tuple [.int 0,.int 1]))),?_,.mk hd2 ⟨by show(0:Int)≤0;decide,by show(0:Int) < 1;decide,by show(1:Int) < things;lia,c2,c3,c4,c5,w2,w3,c6⟩⟩
    simp? [tE,gv,tn,tm,aC,g1,g2,cn,b12,b107,ha,c1,w1,mB,cf,hlen]
    decide
  · refine⟨tE d2 things many shape odds ws (ts++[⟨min one ((one+1+(n / 12) % (things - 1)) % things),max one ((one+1+(n / 12) % (things - 1)) % things),t,b,w⟩]) (some (.d (.int k))) (some (.d (.int n))) (some (.d (.int one))) (some (.d (.int ((one+1+(n / 12) % (things - 1)) % things)))) (some (.d (.int m))) (some (.d (.tuple [.int (min one ((one+1+(n / 12) % (things - 1)) % things)),.int (max one ((one+1+(n / 12) % (things - 1)) % things))]))),?_,.mk hd2 ⟨by show 0≤min _ _;lia,by show min _ _ < max _ _;lia,by show max _ _ < _;lia,c2,c3,c4,c5,w2,w3,c6⟩⟩
    simp? [tE,gv,tn,tm,aC,g1,g2,cn,b12,b107,ha,c1,w1,mB,cf,hlen,c]
theorem CY(ds:List Int)(things many:Int)(hd:jg ds)(h2:2≤things)(h12:things≤100)(m0:0≤many)(m1:many≤1000):∃(ts:List md) (ds':List Int),mO [.l (ds.map .int),.d (.int things),.d (.int many)]=some (.d (.tuple (ts.map cf)),[.l (ds'.map .int),.d (.int things),.d (.int many)])∧jg ds'∧(ts.length:Int)=many∧∀t∈ts,t.Ok things:=by
  obtain⟨n0,d1,t0, -, -,hd1⟩:=jl hd
  obtain⟨n1,d2,t1, -, -,hd2⟩:=jl hd1
  obtain⟨n2,d3,t2, -, -,hd3⟩:=jl hd2
  obtain⟨e',h1,hI⟩:=dO (own:=[]) (g:=ai 7) (f:=gv) (TI things many (n0 % 6) (n1 % 4) (n2 % 4)) (aT 0 many.toNat) 0 (tE d3 things many (n0 % 6) (n1 % 4) (n2 % 4) [] none none none none none none) (fun i x e hx hI=>by
    obtain⟨rfl,hi⟩:=bJ hx
    obtain⟨hd',hl,ht⟩:=hI
    rename_i ts ds' w7 w8 w9 w10 w11 w12
    obtain⟨e9,s1,⟨s2,s3⟩⟩:=E9 ds' things many (n0 % 6) (n1 % 4) (n2 % 4) ts (0+(i:Int)) w8 w9 w10 w11 w12 hd' h2 h12 (rG (by decide)) (rH (by decide)) (by lia) (by lia)
    exact⟨_,_,rfl,s1,be,.mk s2 (by simp;lia) fun z hz=>by
      rcases List.mem_append.mp hz with hz | hz
      · exact ht z hz
      · simp at hz;subst hz;exact s3⟩) (.mk hd3 rfl fun t ht=>by cases ht)
  obtain⟨hd',hl,ht⟩:=hI
  rename_i ts ds' w7 w8 w9 w10 w11 w12
  refine⟨ts,ds',?_,hd',by rw [hl,eh];lia,ht⟩
  have hf:∀W,c7 W mG (ai 7) gv (tE d3 things many (n0 % 6) (n1 % 4) (n2 % 4) [] none none none none none none)=some (.nx (tE ds' things many (n0 % 6) (n1 % 4) (n2 % 4) ts w7 w8 w9 w10 w11 w12)):=fun W=>by
    rw [dc (show mG _=some (aT 0 many.toNat,[],tE d3 things many (n0 % 6) (n1 % 4) (n2 % 4) [] none none none none none none) from dh (n:=many) (by simp? [tE]) (by lia) (by lia))]
    exact h1
  unfold tE at hf
  simp only [List.map_nil] at hf
  simp? [mO,vI,t0,t1,t2,aC,hf]
abbrev wE(ds:List Int)(most tn things many:Int)(ts:List md)(way:Int)(ps:List Int)(v8 v9:Option Sv):En:=[some (.l (ds.map .int)),some (.d (.int most)),some (.d (.int tn)),some (.d (.int things)),some (.d (.int many)),some (.d (.tuple (ts.map cf))),some (.d (.int way)),some (.l (ps.map .int)),v8,v9]
inductive WI (most tn things many:Int) (ts:List md) (way:Int) (i:Nat):En→Prop
  | mk {ps ds w8} (hd:jg ds) (hpl:ps.length=i) (hps:∀p∈ps,0≤p∧p≤20):WI most tn things many ts way i (wE ds most tn things many ts way ps w8 none)
theorem E_(ds:List Int)(most tn:Int)(hd:jg ds)(m0:0≤most)(m1:most≤12)(k0:0≤tn)(k1:tn≤16):∃(W:aY) (ds':List Int),qK [.l (ds.map .int),.d (.int most),.d (.int tn)]=some (.d (aP W),[.l (ds'.map .int),.d (.int most),.d (.int tn)])∧jg ds'∧W.Ok∧W.things≤most∧(W.ties.length:Int)≤tn:=by
  obtain⟨n0,d1,t0, -, -,hd1⟩:=jl hd
  obtain⟨n1,d2,t1, -, -,hd2⟩:=jl hd1
  have mp:0 < most+1:=Int.lt_add_one_of_le m0
  have kp:0 < tn+1:=Int.lt_add_one_of_le k0
  have g0:∀(e:En),aR e (.d (.int n0)) (.d (.int (most+1)))=some (.d (.int (n0 % (most+1)))):=fun e=>aC mp
  have g1':∀(e:En),aR e (.d (.int n1)) (.d (.int (tn+1)))=some (.d (.int (n1 % (tn+1)))):=fun e=>aC kp
  have th0:0≤n0 % (most+1):=rG mp
  have th1:n0 % (most+1) < most+1:=rH mp
  have ti0:0≤n1 % (tn+1):=rG kp
  have ti1:n1 % (tn+1) < tn+1:=rH kp
  clear mp kp
  generalize n0 % (most+1)=things at th0 th1 g0
  generalize n1 % (tn+1)=tm at ti0 ti1 g1'
  obtain⟨many,hmany,mm,m00,m01⟩:∃many:Int,many=tm*(if decide (1 < things)=true then 1 else 0)∧(1 < things∨many=0)∧0≤many∧many≤tn:=by
    by_cases c:1 < things
    · exact⟨tm,by simp [c],.inl c,ti0,by lia⟩
    · exact⟨0,by simp [c],.inr rfl,by lia,by lia⟩
  have gm:∀e:En,jx e (.d (.int tm)) (.d (.int (if decide (1 < things)=true then 1 else 0)))=some (.d (.int many)):=fun e=>by
    rw [mE (pN (by split<;>decide) (by split<;>decide)),hmany]
  have gi:∀e:En,g1 uv e [.d (.bool (decide (1 < things)))]=some (.d (.int (if decide (1 < things)=true then 1 else 0))):=fun e=>rfl
  generalize (if decide (1 < things)=true then 1 else 0:Int)=one at gm gi
  obtain⟨ts,d3,t3,hd3,hlen,hts⟩:=CY d2 (max 2 things) many hd2 (by lia) (by lia) m00 (by lia)
  obtain⟨n4,d4,t4, -, -,hd4⟩:=jl hd3
  obtain⟨e',h1,hI⟩:=dO (own:=[]) (g:=ai 8) (f:=lV) (WI most tn things many ts (n4 % 3)) (aT 0 things.toNat) 0 (wE d4 most tn things many ts (n4 % 3) [] none none) (fun i x e hx hI=>by
    obtain⟨rfl,hi⟩:=bJ hx
    obtain⟨hd5,hpl,hps⟩:=hI
    rename_i ps d5 w8
    obtain⟨p1,d6,t6, -, -,hd6⟩:=jl hd5
    obtain⟨p2,d7,t7, -, -,hd7⟩:=jl hd6
    obtain⟨z,hz,ha⟩:=iu (xs:=[PyData.int 20,.int (1+p1 % 3),.int (p2 % 21)]) (i:=n4 % 3) (rG (by decide)) (rH (k:=3) (by decide))
    obtain⟨p,rfl,hp⟩:∃r,z=.int r∧0≤r∧r≤20:=by
      simp only [List.mem_cons,List.not_mem_nil,or_false] at hz
      rcases hz with rfl | rfl | rfl<;>exact⟨_,rfl,by lia,by lia⟩
    refine⟨wE d5 most tn things many ts (n4 % 3) ps (some (.d (.int (0+(i:Int))))) none,wE d7 most tn things many ts (n4 % 3) (ps++[p]) (some (.d (.int (0+(i:Int))))) none,rfl,?_,be,.mk hd7 (by simp;lia) fun q hq=>by
      rcases List.mem_append.mp hq with hq | hq
      · exact hps q hq
      · simp at hq;subst hq;exact hp⟩
    have hlen:ps.length < 1000000:=by lia
    simp? [wE,lV,t6,t7,aC,ha,hlen]) (.mk hd4 rfl fun p hp=>by cases hp)
  obtain⟨hd5,hpl,hps⟩:=hI
  rename_i ps d5 w8
  have hf:∀W,c7 W pE (ai 8) lV (wE d4 most tn things many ts (n4 % 3) [] none none)=some (.nx (wE d5 most tn things many ts (n4 % 3) ps w8 none)):=fun W=>by
    rw [dc (show pE _=some (aT 0 things.toNat,[],wE d4 most tn things many ts (n4 % 3) [] none none) from dh (n:=things) (by simp? [wE]) (by lia) (by lia))]
    exact h1
  obtain⟨p1,d6,t6, -, -,hd6⟩:=jl hd5
  obtain⟨p2,d7,t7, -, -,hd7⟩:=jl hd6
  obtain⟨p3,d8,t8, -, -,hd8⟩:=jl hd7
  have xp:0 < max 1 many:=Int.lt_of_lt_of_le Int.zero_lt_one (Int.le_max_left _ _)
  have gx:∀(e:En),aR e (.d (.int p1)) (.d (.int (max 1 many)))=some (.d (.int (p1 % max 1 many))):=fun e=>aC xp
  have x0:0≤p1 % max 1 many:=rG xp
  have x1:p1 % max 1 many < max 1 many:=rH xp
  obtain⟨z,hz,ha⟩:=iu (xs:=[PyData.int 40,.int (1+p1 % max 1 many),.int (p2 % 41)]) (i:=p3 % 3) (rG (by decide)) (rH (k:=3) (by decide))
  obtain⟨asks,rfl,hasks⟩:∃r,z=.int r∧0≤r∧r≤40:=by
    simp only [List.mem_cons,List.not_mem_nil,or_false] at hz
    rcases hz with rfl | rfl | rfl<;>exact⟨_,rfl,by lia,by lia⟩
  rw [eh] at hpl
  refine⟨⟨things,ts,ps,asks⟩,d8,?_,hd8,⟨th0,by show things≤12;lia,fun t ht=>?_,by show ts.length≤16;lia,by show(ps.length:Int)=things;lia,hps,hasks.1,hasks.2⟩,by show things≤most;lia,by show(ts.length:Int)≤tn;lia⟩
  · unfold wE at hf
    simp only [List.map_nil] at hf
    simp? [qK,An,t0,t1,g0,g1',gm,gi,t3,t4,aC,hf,t6,t7,t8,gx,ha,aP]
  · rcases mm with c | c
    · have:=hts t ht
      rw [show max 2 things=things by lia] at this
      exact this
    · have:ts=[]:=List.length_eq_zero_iff.mp (by lia)
      subst this;cases ht
def uF:PyData→Bool
  | .int _=>true
  | .bool _=>true
  | _=>false
def uE:PyData→Bool
  | .bool _=>true
  | _=>false
def rY:PyData→Bool
  | .tuple _=>true
  | _=>false
theorem As{e:En}{d:PyData}:jO "int" e (.d d)=some (.d (.bool (uF d))):=by cases d<;>rfl
theorem DG{e:En}{d:PyData}:jO "bool" e (.d d)=some (.d (.bool (uE d))):=by cases d<;>rfl
theorem rW{e:En}{d:PyData}:jO "tuple" e (.d d)=some (.d (.bool (rY d))):=by cases d<;>rfl
theorem lX{d:PyData}(h:rY d=true):∃ds,d=.tuple ds:=by cases d<;>first | exact⟨_,rfl⟩ | cases h
theorem wq(d:PyData):Da d=(uF d&& !uE d):=by cases d<;>rfl
theorem CV(d:PyData):eN [.d d]=some (.d (.bool (Da d)),[.d d]):=by
  rw [wq]
  have g1:=fun e=>As (e:=e) (d:=d)
  have g2:=fun e=>DG (e:=e) (d:=d)
  generalize uF d=a at*
  generalize uE d=b at*
  cases a<;>simp? [eN,kQ,g1,g2]
def wQ:List PyData:=[.none,.bool true,.bool false,.int 0,.int 1,.int (-1),.int 5,.str "",.str "a",.str "0",.tuple [],.tuple [.int 0],.tuple [.int 0,.int 1],.tuple [.tuple [],.tuple []],.list [],.list [.int 0],.dict [],.dict [(.int 0,.int 1)],.tuple [.none],.tuple [.tuple []],.list [.tuple []],.tuple [.bool true,.bool false],.tuple [.tuple [.int 0,.int 1],.tuple [.int 1,.int 2]],.tuple [.tuple [.tuple [],.tuple []]],.tuple [.str "a",.int 1],.tuple [.tuple [.int 0,.int 1]],.int (10 ^ 30)]
theorem E8(n:Int):∃d∈wQ,qJ [.d (.int n)]=some (.d d,[.d (.int n)]):=by
  have m0:0≤n % 27:=Int.emod_nonneg _ (by decide)
  have m1:n % 27 < 27:=Int.emod_lt_of_pos _ (by decide)
  obtain⟨d,hd,ha⟩:=iu (xs:=wQ) m0 (by show n % 27 < 27;exact m1)
  have gm:∀e,aR e (.d (.int n)) (.d (.int 27))=some (.d (.int (n % 27))):=fun e=>aC (by decide)
  have gp:∀e,pB e (.d (.int 10)) (.d (.int 30))=some (.d (.int (10 ^ 30))):=fun e=>iM (i:=10) (j:=30) (by decide)
  refine⟨d,hd,?_⟩
  generalize n % 27=k at*
  generalize hb:(10 ^ 30:Int)=big at*
  rw [show wQ=[.none,.bool true,.bool false,.int 0,.int 1,.int (-1),.int 5,.str "",.str "a",.str "0",.tuple [],.tuple [.int 0],.tuple [.int 0,.int 1],.tuple [.tuple [],.tuple []],.list [],.list [.int 0],.dict [],.dict [(.int 0,.int 1)],.tuple [.none],.tuple [.tuple []],.list [.tuple []],.tuple [.bool true,.bool false],.tuple [.tuple [.int 0,.int 1],.tuple [.int 1,.int 2]],.tuple [.tuple [.tuple [],.tuple []]],.tuple [.str "a",.int 1],.tuple [.tuple [.int 0,.int 1]],.int big] by rw [←hb];rfl] at ha
  have gc:∀(e:En) (xs ys:List PyData),e[1]?=some (some (.l xs))→xs.length+ys.length≤1000000→ba e (.s 1) (.l ys)=some (.l (xs++ys)):=fun e xs ys he h=>yy he h
  simp? [qJ,Am,gm,gp,gc,ha,nB]
theorem CW(a b:Bool):mN [.d (.bool a),.d (.bool b)]=some (.d (.bool (a==b)),[.d (.bool a),.d (.bool b)]):=by
  have gi:∀(e:En) (x y:Bool),DK e (.d (.bool x)) (.d (.bool y))=some (.d (.bool (x==y))):=fun e x y=>rfl
  cases a<;>cases b<;>simp? [mN,vH,gi]
theorem oX{W:aY}{asked:List Int}{thing:Int}(h:∀k∈asked,ka W k)(hl:asked.length≤1000):fB [.d (aP W),.d (.tuple (asked.map .int)),.d (.int thing)]=some (.d (.int (W.many asked thing)),[.d (aP W),.d (.tuple (asked.map .int)),.d (.int thing)]):=by
  let cs:En:=[some (.d (.int thing)),some (.d (aP W))]
  have hc:∀x∈asked.map PyData.int,ez (cs++[some (.d x)])=some (qU (fun k=>W.has k thing) x,cs++[some (.d x)]):=fun x hx=>by
    obtain⟨k,hk,rfl⟩:=List.mem_map.mp hx
    simp? [qU,cs,ez,aP,iz (h k hk),cf,aY.has]
  have he:∀x∈asked.map PyData.int,qU (fun k=>W.has k thing) x=true→eC (cs++[some (.d x)])=some (.d (id x),cs++[some (.d x)]):=fun x hx _=>by
    simp? [cs,eC]
  obtain⟨t',hf⟩:=dr (cs:=cs) (ft:=ez) (fe:=eC) (b:=qU (fun k=>W.has k thing)) (y:=id) (asked.map PyData.int) none [] hc he (by simp;lia)
  have hv:=gM (cp:=[(2,"_law_thing"),(0,"_law_web_here")]) (nT:=1) (fi:=lu) (g:=ai 2) (ft:=ez) (fe:=eC) (e:=[some (.d (aP W)),some (.d (.tuple (asked.map PyData.int))),some (.d (.int thing))]) (cs:=cs) (t:=[none]) (t':=[t']) (hE (fa:=ac 1) rfl) rfl rfl hf
  have hlen:(([]++List.map id (List.filter (qU (fun k=>W.has k thing)) (asked.map PyData.int))).length:Int)=W.many asked thing:=by
    unfold aY.many
    simp [List.filter_map]
    rfl
  simp only [fB,nY,hU,iS,az,dX,aQ,bx,bv,fY,jk,m7,nP,av,am,kO,ac,vC,cS,ag,aa,aW,aE,dG,lQ,nF,fL,AN,gL,rD,i3,jd,bG,bE,dW,bR,qL,eS,fF,lL,cF,bh,nL,p5,dz,aX,ai,cN,bT,aG,a8,pO,dn,bg,bQ,bc,fX,fV,fR,fQ,eG,eF,eH,dw,eD,lm,ii,iI,lq,iL,fW,iJ,iK,eJ,eI,dy,eK,ls,gP,gQ,gR,gS,kU,du,dt,dP,fU,List.replicate, -List.map_nil, -List.map_cons, -List.nil_append, -List.cons_append, -Option.bind_some, -Option.map_some, -getElem?_pos, -List.append_nil,k_,k9,kX,kW,kZ,k8,kY,lc]
  simp? [hv]
  simpa using hlen
theorem wX{W:aY}(ok:W.Ok){thing:Int}(h0:0≤thing)(h1:thing < W.things):atI (W.pat.map PyData.int) thing=some (.int (W.pat.getD thing.toNat 0)):=iw h0 (by have:=ok.pl;lia)
theorem EZ{W:aY}(ok:W.Ok){asked taken:List Int}{k:Int}(h:∀k∈asked,ka W k)(hl:asked.length≤1000)(hk:ka W k):jS [.d (aP W),.d (eU asked taken),.d (.int k)]=some (.d (.bool (W.may asked taken k)),[.d (aP W),.d (eU asked taken),.d (.int k)]):=by
  have tk:=hk.ok ok
  have t0:=tk.o0
  have t1:=tk.o1
  have t2:=tk.o2
  have p1:=wX ok (thing:=(W.tie k).one) (by lia) (by lia)
  have p2:=wX ok (thing:=(W.tie k).other) (by lia) (by lia)
  have a1:=oX (W:=W) (asked:=asked) (thing:=(W.tie k).one) h hl
  have a2:=oX (W:=W) (asked:=asked) (thing:=(W.tie k).other) h hl
  rw [eA] at a1 a2 ⊢
  unfold aY.may aY.bears
  by_cases c1:asked.contains k=true
  · simp? [jS,nZ,eU,c1]
    simp at c1
    simp [c1]
  · by_cases c2:W.asks≤(asked.length:Int)
    · have c1':k∉asked:=by simpa using c1
      simp? [jS,nZ,eU,c1',c2]
    · have c1':k∉asked:=by simpa using c1
      have turn:∀(thing:Int) (v5:Option Sv),fB [.d (.tuple [.int W.things,.tuple (W.ties.map cf),.tuple (W.pat.map .int),.int W.asks]),.d (.tuple (asked.map .int)),.d (.int thing)]=some (.d (.int (W.many asked thing)),[.d (.tuple [.int W.things,.tuple (W.ties.map cf),.tuple (W.pat.map .int),.int W.asks]),.d (.tuple (asked.map .int)),.d (.int thing)])→atI (W.pat.map PyData.int) thing=some (.int (W.pat.getD thing.toNat 0))→
          gU [some (.d (.tuple [.int W.things,.tuple (W.ties.map cf),.tuple (W.pat.map .int),.int W.asks])),some (.d (eU asked taken)),some (.d (.int k)),some (.d (.tuple (asked.map .int))),some (.d (.tuple (taken.map .int))),some (.d (.int thing))]=(if (!taken.contains thing&&decide (W.many asked thing < W.pat.getD thing.toNat 0))=true then some (.nx [some (.d (.tuple [.int W.things,.tuple (W.ties.map cf),.tuple (W.pat.map .int),.int W.asks])),some (.d (eU asked taken)),some (.d (.int k)),some (.d (.tuple (asked.map .int))),some (.d (.tuple (taken.map .int))),some (.d (.int thing))]) else some (.rt (.d (.bool false)) [some (.d (.tuple [.int W.things,.tuple (W.ties.map cf),.tuple (W.pat.map .int),.int W.asks])),some (.d (eU asked taken)),some (.d (.int k)),some (.d (.tuple (asked.map .int))),some (.d (.tuple (taken.map .int))),some (.d (.int thing))])):=by
        intro thing v5 ha hp
        by_cases d1:taken.contains thing=true
        · have d1':thing∈taken:=by simpa using d1
          simp? [gU,d1']
        · have d1':thing∉taken:=by simpa using d1
          by_cases d2:W.many asked thing < W.pat.getD thing.toNat 0
          · have d2':¬W.pat.getD thing.toNat 0≤W.many asked thing:=by lia
            simp only [List.getD_eq_getElem?_getD] at d2 d2' hp
            simp? [gU,d1',ha,hp,d2,d2']
          · have d2':W.pat.getD thing.toNat 0≤W.many asked thing:=by lia
            simp only [List.getD_eq_getElem?_getD] at d2 d2' hp
            simp? [gU,d1',ha,hp,d2,d2']
      have u1:=turn (W.tie k).one none a1 p1
      have u2:=turn (W.tie k).other none a2 p2
      have hf:∀Wl,c7 Wl tJ (ai 5) gU [some (.d (.tuple [.int W.things,.tuple (W.ties.map cf),.tuple (W.pat.map .int),.int W.asks])),some (.d (eU asked taken)),some (.d (.int k)),some (.d (.tuple (asked.map .int))),some (.d (.tuple (taken.map .int))),none]=e_ [] (ai 5) gU [.int (W.tie k).one,.int (W.tie k).other] [some (.d (.tuple [.int W.things,.tuple (W.ties.map cf),.tuple (W.pat.map .int),.int W.asks])),some (.d (eU asked taken)),some (.d (.int k)),some (.d (.tuple (asked.map .int))),some (.d (.tuple (taken.map .int))),none]:=fun Wl=>by
        rw [dc]
        exact hE (by simp? [iz hk,cf])
      unfold eU at u1 u2 hf ⊢
      by_cases e1:(!taken.contains (W.tie k).one&&decide (W.many asked (W.tie k).one < W.pat.getD (W.tie k).one.toNat 0))=true
      · by_cases e2:(!taken.contains (W.tie k).other&&decide (W.many asked (W.tie k).other < W.pat.getD (W.tie k).other.toNat 0))=true
        · rw [if_pos e1] at u1
          rw [if_pos e2] at u2
          rw [e1,e2]
          simp only [jS,nZ,hU,iS,az,dX,aQ,bx,bv,fY,jk,m7,nP,av,am,kO,ac,vC,cS,ag,aa,aW,aE,dG,lQ,nF,fL,AN,gL,rD,i3,jd,bG,bE,dW,bR,qL,eS,fF,lL,cF,bh,nL,p5,dz,aX,ai,cN,bT,aG,a8,pO,dn,bg,bQ,bc,fX,fV,fR,fQ,eG,eF,eH,dw,eD,lm,ii,iI,lq,iL,fW,iJ,iK,eJ,eI,dy,eK,ls,gP,gQ,gR,gS,kU,du,dt,dP,fU,List.replicate, -List.map_nil, -List.map_cons, -List.nil_append, -List.cons_append, -Option.bind_some, -Option.map_some, -getElem?_pos, -List.append_nil,k_,k9,kX,kW,kZ,k8,kY,lc]
          simp? [c1',c2,hf,e_,u1,u2,be]
        · rw [if_pos e1] at u1
          rw [if_neg e2] at u2
          rw [e1,Bool.not_eq_true _ |>.mp e2]
          simp only [jS,nZ,hU,iS,az,dX,aQ,bx,bv,fY,jk,m7,nP,av,am,kO,ac,vC,cS,ag,aa,aW,aE,dG,lQ,nF,fL,AN,gL,rD,i3,jd,bG,bE,dW,bR,qL,eS,fF,lL,cF,bh,nL,p5,dz,aX,ai,cN,bT,aG,a8,pO,dn,bg,bQ,bc,fX,fV,fR,fQ,eG,eF,eH,dw,eD,lm,ii,iI,lq,iL,fW,iJ,iK,eJ,eI,dy,eK,ls,gP,gQ,gR,gS,kU,du,dt,dP,fU,List.replicate, -List.map_nil, -List.map_cons, -List.nil_append, -List.cons_append, -Option.bind_some, -Option.map_some, -getElem?_pos, -List.append_nil,k_,k9,kX,kW,kZ,k8,kY,lc]
          simp? [c1',c2,hf,e_,u1,u2,be]
      · rw [if_neg e1] at u1
        rw [Bool.not_eq_true _ |>.mp e1]
        simp only [jS,nZ,hU,iS,az,dX,aQ,bx,bv,fY,jk,m7,nP,av,am,kO,ac,vC,cS,ag,aa,aW,aE,dG,lQ,nF,fL,AN,gL,rD,i3,jd,bG,bE,dW,bR,qL,eS,fF,lL,cF,bh,nL,p5,dz,aX,ai,cN,bT,aG,a8,pO,dn,bg,bQ,bc,fX,fV,fR,fQ,eG,eF,eH,dw,eD,lm,ii,iI,lq,iL,fW,iJ,iK,eJ,eI,dy,eK,ls,gP,gQ,gR,gS,kU,du,dt,dP,fU,List.replicate, -List.map_nil, -List.map_cons, -List.nil_append, -List.cons_append, -Option.bind_some, -Option.map_some, -getElem?_pos, -List.append_nil,k_,k9,kX,kW,kZ,k8,kY,lc]
        simp? [c1',c2,hf,e_,u1,be]
theorem xZ{W:aY}{asked taken:List Int}{k:Int}(truth:Bool)(hk:ka W k)(h1:asked.length < 60)(h2:taken.length < 60):gD [.d (aP W),.d (eU asked taken),.d (.int k),.d (.bool truth)]=some (.d (eU (aY.askd asked k) (W.took taken k truth)),[.d (aP W),.d (eU asked taken),.d (.int k),.d (.bool truth)]):=by
  have s1:∀e,g1 fH e [.d (.tuple (asked.map PyData.int++[.int k]))]=some (.l ((ci (asked++[k])).map .int)):=fun e=>by
    have:=jy (e:=e) (ns:=asked++[k]) (by simp;lia)
    simpa using this
  have s2:∀e,g1 fH e [.d (.tuple (taken.map PyData.int++[.int (W.tie k).one,.int (W.tie k).other]))]=some (.l ((ci (taken++[(W.tie k).one,(W.tie k).other])).map .int)):=fun e=>by
    have:=jy (e:=e) (ns:=taken++[(W.tie k).one,(W.tie k).other]) (by simp;lia)
    simpa using this
  have g1':∀e,ba e (.d (.tuple (asked.map .int))) (.d (.tuple [.int k]))=some (.d (.tuple (asked.map .int++[.int k]))):=fun e=>mB (by simp;lia)
  have g2':∀e,ba e (.d (.tuple (taken.map .int))) (.d (.tuple [.int (W.tie k).one,.int (W.tie k).other]))=some (.d (.tuple (taken.map .int++[.int (W.tie k).one,.int (W.tie k).other]))):=fun e=>mB (by simp;lia)
  rw [eA]
  cases truth with
  | true=>simp? [gD,mh,eU,iz hk,cf,g1',g2',s1,s2,aY.askd,aY.took]
  | false=>simp? [gD,mh,eU,g1',s1,aY.askd,aY.took]
theorem vh{W:aY}(ok:W.Ok){asked taken:List Int}(h:∀k∈asked,ka W k)(hl:asked.length≤1000):gC [.d (aP W),.d (eU asked taken)]=some (.l ((W.can asked taken).map .int),[.d (aP W),.d (eU asked taken)]):=by
  let cs:En:=[some (.d (aP W)),some (.d (eU asked taken))]
  have wl:=ok.len
  have hc:∀x∈aT 0 W.ties.length,eu (cs++[some (.d x)])=some (qU (fun k=>W.may asked taken k) x,cs++[some (.d x)]):=fun x hx=>by
    obtain⟨i,hi⟩:=List.getElem?_of_mem hx
    obtain⟨rfl,hi⟩:=bJ hi
    have:=EZ ok (taken:=taken) h hl (k:=0+(i:Int)) ⟨by lia,by lia⟩
    simp only [Int.zero_add] at this
    simp? [qU,cs,eu,this]
  have he:∀x∈aT 0 W.ties.length,qU (fun k=>W.may asked taken k) x=true→eB (cs++[some (.d x)])=some (.d (id x),cs++[some (.d x)]):=fun x hx _=>by
    simp? [cs,eB]
  obtain⟨t',hf⟩:=dr (cs:=cs) (ft:=eu) (fe:=eB) (b:=qU (fun k=>W.may asked taken k)) (y:=id) (aT 0 W.ties.length) none [] hc he (by rw [eh];simp;lia)
  have hv:=gM (cp:=[(0,"_law_web_here"),(1,"_law_stand")]) (nT:=1) (fi:=iN) (g:=ai 2) (ft:=eu) (fe:=eB) (e:=[some (.d (aP W)),some (.d (eU asked taken))]) (cs:=cs) (t:=[none]) (t':=[t']) (show iN [some (.d (aP W)),some (.d (eU asked taken))]=some (aT 0 W.ties.length,[],[some (.d (aP W)),some (.d (eU asked taken))]) from dh (n:=(W.ties.length:Int)) (by rw [eA];simp? [List.replicate]) (by lia) (by lia)) rfl rfl hf
  rw [List.nil_append,List.map_id,uY] at hv
  simp only [gC,nX,hU,iS,az,dX,aQ,bx,bv,fY,jk,m7,nP,av,am,kO,ac,vC,cS,ag,aa,aW,aE,dG,lQ,nF,fL,AN,gL,rD,i3,jd,bG,bE,dW,bR,qL,eS,fF,lL,cF,bh,nL,p5,dz,aX,ai,cN,bT,aG,a8,pO,dn,bg,bQ,bc,fX,fV,fR,fQ,eG,eF,eH,dw,eD,lm,ii,iI,lq,iL,fW,iJ,iK,eJ,eI,dy,eK,ls,gP,gQ,gR,gS,kU,du,dt,dP,fU,List.replicate, -List.map_nil, -List.map_cons, -List.nil_append, -List.cons_append, -Option.bind_some, -Option.map_some, -getElem?_pos, -List.append_nil,k_,k9,kX,kW,kZ,k8,kY,lc]
  simp? [hv]
theorem vj(d:PyData)(lo hi:Int):a7 [.d d,.d (.int lo),.d (.int hi)]=some (.d (.bool (cZ lo hi d)),[.d d,.d (.int lo),.d (.int hi)]):=by
  have t:=CV d
  cases d with
  | int i=>
    by_cases c:lo≤i
    · simp? [a7,ce,t,Da,cZ,iY,c]
    · simp? [a7,ce,t,Da,cZ,iY,c]
  | _=>simp? [a7,ce,t,Da,cZ,iY]
theorem vk(d:PyData)(n:Int):dA [.d d,.d (.int n)]=some (.d (.bool (nS n d)),[.d d,.d (.int n)]):=by
  have g:=fun e=>rW (e:=e) (d:=d)
  cases c:rY d with
  | false=>
    rw [c] at g
    have e:nS n d=false:=by cases d<;>first | rfl | cases c
    rw [e]
    simp? [dA,iC,g]
  | true=>
    rw [c] at g
    obtain⟨ds,rfl⟩:=lX c
    simp? [dA,iC,g,nS]
theorem Fo{W:aY}(e:En):dZ e (.d (aP W)) (.d (.int 0))=some (.d (.int W.things)):=by rw [eA,ii,gP];rfl
theorem Fq{W:aY}(e:En):dZ e (.d (aP W)) (.d (.int 1))=some (.d (.tuple (W.ties.map cf))):=by rw [eA,ii,gQ];rfl
def iO:PyData→Int
  | .int i=>i
  | _=>0
def m5(many:Int):Int→List PyData→Bool
  | _,[]=>true
  | lo,d::r=>cZ lo (many - 1) d&&m5 many (iO d+1) r
theorem fy{lo hi:Int}{d:PyData}(h:cZ lo hi d=true):∃i,d=.int i∧lo≤i∧i≤hi:=by
  cases d with
  | int i=>exact⟨i,rfl,by simpa [cZ] using h⟩
  | _=>cases h
theorem tS{thing:Sv}{many:Int}:∀(ds:List PyData) (lo:Int) (v3:Option Sv),∃w2 w3,e_ [] (ai 3) a_ ds [some thing,some (.d (.int many)),some (.d (.int lo)),v3]=some (if m5 many lo ds=true then .nx [some thing,some (.d (.int many)),w2,w3] else .rt (.d (.bool false)) [some thing,some (.d (.int many)),w2,w3])
  | [],lo,v3=>⟨_,_,rfl⟩
  | x::r,lo,v3=>by
    have t:=vj x lo (many - 1)
    have hg:ai 3 x [some thing,some (.d (.int many)),some (.d (.int lo)),v3]=some [some thing,some (.d (.int many)),some (.d (.int lo)),some (.d x)]:=rfl
    cases c:cZ lo (many - 1) x with
    | false=>
      rw [c] at t
      have hb:a_ [some thing,some (.d (.int many)),some (.d (.int lo)),some (.d x)]=some (.rt (.d (.bool false)) [some thing,some (.d (.int many)),some (.d (.int lo)),some (.d x)]):=by
        simp? [a_,t]
      refine⟨some (.d (.int lo)),some (.d x),?_⟩
      simp only [e_,hg,Option.bind_some,hb,m5,c,Bool.false_and,Bool.false_eq_true,if_false]
    | true=>
      rw [c] at t
      obtain⟨i,rfl,_,_⟩:=fy c
      have hb:a_ [some thing,some (.d (.int many)),some (.d (.int lo)),some (.d (.int i))]=some (.nx [some thing,some (.d (.int many)),some (.d (.int (i+1))),some (.d (.int i))]):=by
        simp? [a_,t]
      obtain⟨w2,w3,ih⟩:=tS (thing:=thing) (many:=many) r (i+1) (some (.d (.int i)))
      refine⟨w2,w3,?_⟩
      simp only [e_,hg,Option.bind_some,hb,m5,c,Bool.true_and,iO]
      rw [if_pos be]
      exact ih
def nU(many:Int):PyData→Bool
  | .tuple ds=>m5 many 0 ds
  | _=>false
theorem oZ{d:PyData}{many:Int}:bf [.d d,.d (.int many)]=some (.d (.bool (nU many d)),[.d d,.d (.int many)]):=by
  have gt:=fun e=>rW (e:=e) (d:=d)
  cases c:rY d with
  | false=>
    rw [c] at gt
    have e:nU many d=false:=by cases d<;>first | rfl | cases c
    rw [e]
    simp? [bf,c9,gt]
  | true=>
    rw [c] at gt
    obtain⟨ds,rfl⟩:=lX c
    obtain⟨w2,w3,hf⟩:=tS (thing:=.d (.tuple ds)) (many:=many) ds 0 none
    have hs:∀Wl,c7 Wl dR (ai 3) a_ [some (.d (.tuple ds)),some (.d (.int many)),some (.d (.int 0)),none]=some (if m5 many 0 ds=true then .nx [some (.d (.tuple ds)),some (.d (.int many)),w2,w3] else .rt (.d (.bool false)) [some (.d (.tuple ds)),some (.d (.int many)),w2,w3]):=fun Wl=>by
      rw [dc (show dR _=_ from hE rfl)]
      exact hf
    rw [show nU many (.tuple ds)=m5 many 0 ds from rfl]
    cases c2:m5 many 0 ds with
    | false=>
      rw [c2] at hs
      simp only [Bool.false_eq_true,if_false] at hs
      simp? [bf,c9,gt,hs]
    | true=>
      rw [c2] at hs
      simp only [if_true] at hs
      simp? [bf,c9,gt,hs]
theorem tV{many:Int}:∀{ds:List PyData} {lo:Int},m5 many lo ds=true→∃ns:List Int,ds=ns.map .int∧ns.Nodup∧∀k∈ns,lo≤k∧k < many
  | [],lo,_=>⟨[],rfl,List.nodup_nil,fun _ h=>by cases h⟩
  | d::r,lo,h=>by
    simp only [m5,Bool.and_eq_true] at h
    obtain⟨i,rfl,h1,h2⟩:=fy h.1
    obtain⟨ns,rfl,nd,hk⟩:=tV h.2
    refine⟨i::ns,rfl,List.nodup_cons.mpr ⟨fun hi=>?_,nd⟩,fun k hk'=>?_⟩
    · have:=hk i hi
      simp only [iO] at this
      lia
    · rcases List.mem_cons.mp hk' with rfl | hk'
      · lia
      · have:=hk k hk'
        simp only [iO] at this
        lia
theorem gB(ns:List Int):(ns.map PyData.int).map iO=ns:=by
  rw [List.map_map]
  exact List.map_id' ns
theorem rq{W:aY}{k:Int}(hk:ka W k):eO [.d (aP W),.d (.int k)]=some (.d (.tuple [.int (W.tie k).one,.int (W.tie k).other]),[.d (aP W),.d (.int k)]):=by
  rw [eA]
  simp? [eO,kS,iz hk,cf]
theorem lI{W:aY}{asked:List Int}{thing:Int}(h:∀k∈asked,ka W k)(hl:asked.length≤1000):cG [.d (aP W),.d (.tuple (asked.map .int)),.d (.int thing)]=some (.d (.int (W.many asked thing)),[.d (aP W),.d (.tuple (asked.map .int)),.d (.int thing)]):=by
  let cs:En:=[some (.d (.int thing)),some (.d (aP W))]
  have hc:∀x∈asked.map PyData.int,cX (cs++[some (.d x)])=some (qU (fun k=>W.has k thing) x,cs++[some (.d x)]):=fun x hx=>by
    obtain⟨k,hk,rfl⟩:=List.mem_map.mp hx
    have t:=rq (h k hk)
    simp? [qU,cs,cX,t,aY.has]
  have he:∀x∈asked.map PyData.int,qU (fun k=>W.has k thing) x=true→cY (cs++[some (.d x)])=some (.d (id x),cs++[some (.d x)]):=fun x hx _=>by
    simp? [cs,cY]
  obtain⟨t',hf⟩:=dr (cs:=cs) (ft:=cX) (fe:=cY) (b:=qU (fun k=>W.has k thing)) (y:=id) (asked.map PyData.int) none [] hc he (by simp;lia)
  have hv:=gM (cp:=[(2,"thing"),(0,"web")]) (nT:=1) (fi:=jp) (g:=ai 2) (ft:=cX) (fe:=cY) (e:=[some (.d (aP W)),some (.d (.tuple (asked.map PyData.int))),some (.d (.int thing))]) (cs:=cs) (t:=[none]) (t':=[t']) (hE (fa:=ac 1) rfl) rfl rfl hf
  have hlen:(([]++List.map id (List.filter (qU (fun k=>W.has k thing)) (asked.map PyData.int))).length:Int)=W.many asked thing:=by
    unfold aY.many
    simp [List.filter_map]
    rfl
  simp only [cG,kR,hU,iS,az,dX,aQ,bx,bv,fY,jk,m7,nP,av,am,kO,ac,vC,cS,ag,aa,aW,aE,dG,lQ,nF,fL,AN,gL,rD,i3,jd,bG,bE,dW,bR,qL,eS,fF,lL,cF,bh,nL,p5,dz,aX,ai,cN,bT,aG,a8,pO,dn,bg,bQ,bc,fX,fV,fR,fQ,eG,eF,eH,dw,eD,lm,ii,iI,lq,iL,fW,iJ,iK,eJ,eI,dy,eK,ls,gP,gQ,gR,gS,kU,du,dt,dP,fU,List.replicate, -List.map_nil, -List.map_cons, -List.nil_append, -List.cons_append, -Option.bind_some, -Option.map_some, -getElem?_pos, -List.append_nil,k_,k9,kX,kW,kZ,k8,kY,lc]
  simp? [hv]
  simpa using hlen
theorem zb{W:aY}(ok:W.Ok){thing:Int}(h0:0≤thing)(h1:thing < W.things):atI (W.pat.map PyData.int) thing=some (.int (W.pat.getD thing.toNat 0)):=iw h0 (by have:=ok.pl;lia)
theorem xq{ns:List Int}(h:ns.Pairwise (· ≤·))(nd:ns.Nodup):ns.Pairwise (· < ·):=by
  have:=h.and nd
  exact this.imp fun⟨a,b⟩=>by lia
theorem ou:∀(ns ms:List Int),PyData.eqvAll (ns.map .int) (ms.map .int)=(ns==ms)
  | [],[]=>by simp [PyData.eqvAll]
  | [],_::_=>by simp [PyData.eqvAll]
  | _::_,[]=>by simp [PyData.eqvAll]
  | x::r,y::s=>by simp [PyData.eqvAll,PyData.eqv,ou r s]
theorem zJ(ns:List Int):SeqAt.shaped (.list (ns.map .int))=true:=(Sh.list (n:=2) fun d hd=>by
  obtain⟨x,_,rfl⟩:=List.mem_map.mp hd
  exact Sh.int).ok (by decide)
theorem yz{e:En}{ns ms:List Int}:bL false e (.l (ns.map .int)) (.l (ms.map .int))=some (.d (.bool (ns==ms))):=by
  unfold bL
  simp only [iE,Option.bind_some,zJ,Bool.and_self,if_true,PyData.eqv,ou]
  rfl
theorem v0:∀(ns acc:List Int),acc.Nodup→(ns.foldl step_dedup acc).Nodup
  | [],acc,h=>h
  | x::r,acc,h=>by
    refine v0 r _ ?_
    unfold step_dedup
    split
    · exact h
    · rename_i c
      refine List.nodup_append.mpr ⟨h,by simp,fun a ha b hb e=>c ?_⟩
      simp at hb
      subst hb;subst e
      exact List.any_eq_true.mpr ⟨a,ha,by simp⟩
theorem vZ:∀(ns acc:List Int),ns.Nodup→(∀x∈ns,x∉acc)→ns.foldl step_dedup acc=acc++ns
  | [],acc,_,_=>by simp
  | x::r,acc,nd,h=>by
    obtain⟨n1,n2⟩:=List.nodup_cons.mp nd
    have e:step_dedup acc x=acc++[x]:=if_neg fun c=>by
      obtain⟨y,hy,e⟩:=List.any_eq_true.mp c
      obtain rfl:y=x:=by simpa using e
      exact h y (by simp) hy
    rw [List.foldl_cons,e,vZ r _ n2 fun y hy hm=>by
      rcases List.mem_append.mp hm with hm | hm
      · exact h y (by simp [hy]) hm
      · simp at hm;subst hm;exact n1 hy]
    simp
theorem zP{ns:List Int}:(ns==ci (p8 ns))=decide (ns.Pairwise (· < ·)):=by
  rw [Bool.eq_iff_iff,beq_iff_eq,decide_eq_true_iff]
  constructor
  · intro e
    have hp:=en (p8 ns)
    have nd:(ci (p8 ns)).Nodup:=hp.nodup_iff.mpr (v0 ns [] List.nodup_nil)
    have hs:=ic (p8 ns)
    rw [←e] at nd hs
    exact xq hs nd
  · intro h
    have nd:ns.Nodup:=h.imp fun{a b} h e=>by lia
    have e:p8 ns=ns:=by
      have:=vZ ns [] nd fun x _ h=>by cases h
      simpa [p8] using this
    rw [e]
    exact ni .rfl (h.imp fun{a b} h=>by lia)
theorem pY{many:Int}:∀(ns:List Int) (lo:Int),(∀k∈ns,k < many)→m5 many lo (ns.map .int)=decide (ns.Pairwise (· < ·)∧∀k∈ns,lo≤k)
  | [],lo,_=>by simp [m5]
  | x::r,lo,h=>by
    rw [List.map_cons,m5,pY r _ fun k hk=>h k (by simp [hk]),Bool.eq_iff_iff,Bool.and_eq_true,decide_eq_true_iff,decide_eq_true_iff]
    have hx:=h x (by simp)
    simp only [cZ,iO,Bool.and_eq_true,decide_eq_true_eq,List.pairwise_cons,List.mem_cons]
    constructor
    · rintro⟨⟨a,b⟩,c,d⟩
      refine⟨⟨fun k hk=>by have:=d k hk;lia,c⟩,fun k hk=>?_⟩
      rcases hk with rfl | hk
      · exact a
      · have:=d k hk;lia
    · rintro⟨⟨a,b⟩,c⟩
      exact⟨⟨c x (.inl rfl),by lia⟩,b,fun k hk=>by have:=a k hk;lia⟩
theorem CG{many:Int}{ns:List Int}(h:∀k∈ns,0≤k∧k < many):(ns==ci (p8 ns))=m5 many 0 (ns.map .int):=by
  rw [zP,pY ns 0 fun k hk=>(h k hk).2,Bool.eq_iff_iff,decide_eq_true_iff,decide_eq_true_iff]
  exact⟨fun a=>⟨a,fun k hk=>(h k hk).1⟩,fun a=>a.1⟩
theorem xK{many:Int}:∀{ds:List PyData} {lo:Int},0≤lo→m5 many lo ds=true→ds.all (cZ 0 (many - 1))=true
  | [],lo,_,_=>rfl
  | d::r,lo,h0,h=>by
    simp only [m5,Bool.and_eq_true] at h
    obtain⟨i,rfl,h1,h2⟩:=fy h.1
    rw [List.all_cons,xK (by simp only [iO];lia) h.2,Bool.and_true]
    simp only [cZ,Bool.and_eq_true,decide_eq_true_eq]
    lia
theorem qe{many:Int}:∀{ds:List PyData},ds.all (cZ 0 (many - 1))=true→∃ns:List Int,ds=ns.map .int∧∀k∈ns,0≤k∧k < many
  | [],_=>⟨[],rfl,fun _ h=>by cases h⟩
  | d::r,h=>by
    simp only [List.all_cons,Bool.and_eq_true] at h
    obtain⟨i,rfl,h1,h2⟩:=fy h.1
    obtain⟨ns,rfl,hk⟩:=qe h.2
    exact⟨i::ns,rfl,fun k hk'=>by
      rcases List.mem_cons.mp hk' with rfl | hk'
      · lia
      · exact hk k hk'⟩
def Ln(d:PyData):Prop:=∀ds,d=.tuple ds→ds.length≤60
theorem GE{W:aY}(e:En):dZ e (.d (aP W)) (.d (.int 2))=some (.d (.tuple (W.pat.map .int))):=by rw [eA,ii,gR];rfl
theorem GF{W:aY}(e:En):dZ e (.d (aP W)) (.d (.int 3))=some (.d (.int W.asks)):=by rw [eA,ii,gS];rfl
theorem vE{e:En}{bs:List Bool}:g1 (jo lj) e [.l (bs.map .bool)]=some (.d (.bool (bs.all id))):=by
  simp [g1,jo,dU,lj,mn]
theorem sD{n i:Nat}(h:i < n):(aT 0 n)[i]?=some (.int (0+(i:Int))):=by
  cases c:(aT 0 n)[i]? with
  | none=>
    have:=List.getElem?_eq_none_iff.mp c
    rw [eh] at this
    lia
  | some x=>rw [(bJ c).1]
def yP(W:aY)(as:List Int):Bool:=(List.range W.things.toNat).all fun t:Nat=>decide (W.many as (t:Int)≤W.pat.getD t 0)
def vz(W:aY)(as:List Int):Bool:=decide ((as.length:Int)≤W.asks)&&yP W as
def zW(W:aY)(as bs:List Int):Bool:=decide ((bs.length:Int) % 2=0)&&bs.all fun t=>decide (0 < W.many as t)
theorem x6{W:aY}(ok:W.Ok){asked:List Int}(h:∀k∈asked,ka W k)(hl:asked.length≤1000):bV [.d (aP W),.d (.tuple (asked.map .int))]=some (.d (.bool (vz W asked)),[.d (aP W),.d (.tuple (asked.map .int))]):=by
  have g0:=Fo (W:=W)
  have g2:=GE (W:=W)
  have g3:=GF (W:=W)
  have t0:=ok.t0;have t1:=ok.t1
  let cs:En:=[some (.d (aP W)),some (.d (.tuple (asked.map .int)))]
  let yb:PyData→Bool:=fun x=>decide (W.many asked (iO x)≤W.pat.getD (iO x).toNat 0)
  obtain⟨t',hf⟩:=dr (cs:=cs) (ft:=nv) (fe:=bU) (b:=fun _=>true) (y:=fun x=>.bool (yb x)) (aT 0 W.things.toNat) none [] (fun _ _=>rfl) (fun x hx _=>by
    obtain⟨i,hi⟩:=List.getElem?_of_mem hx
    obtain⟨rfl,hi⟩:=bJ hi
    have a:=lI (thing:=0+(i:Int)) h hl
    have p:=zb ok (thing:=0+(i:Int)) (by lia) (by lia)
    show bU (cs++[some (.d (.int (0+(i:Int))))])=some (.d (.bool (decide (W.many asked (0+(i:Int))≤W.pat.getD (0+(i:Int)).toNat 0))),cs++[some (.d (.int (0+(i:Int))))])
    generalize (0+(i:Int))=j at a p ⊢
    generalize W.pat.getD j.toNat 0=z at p ⊢
    have gl:∀e:En,Ba e (.d (.int (W.many asked j))) (.d (.int z))=some (.d (.bool (decide (W.many asked j≤z)))):=fun e=>rfl
    generalize decide (W.many asked j≤z)=bb at*
    simp? [cs,bU,a,g2,p,gl]) (by rw [eh];simp;lia)
  have hv:=gM (cp:=[(0,"web"),(1,"asked")]) (nT:=1) (fi:=d_) (g:=ai 2) (ft:=nv) (fe:=bU) (e:=[some (.d (aP W)),some (.d (.tuple (asked.map PyData.int)))]) (cs:=cs) (t:=[none]) (t':=[t']) (show d_ _=some (aT 0 W.things.toNat,[],[some (.d (aP W)),some (.d (.tuple (asked.map PyData.int)))]) from dh (n:=W.things) (by simp? [g0]) (by lia) (by lia)) rfl rfl hf
  rw [List.filter_eq_self.mpr (fun _ _=>rfl),List.nil_append] at hv
  have eb:(aT 0 W.things.toNat).map (fun x=>PyData.bool (yb x))=((aT 0 W.things.toNat).map yb).map .bool:=by rw [List.map_map];rfl
  rw [eb] at hv
  have ga:∀e:En,g1 (jo lj) e [.l (((aT 0 W.things.toNat).map yb).map .bool)]=some (.d (.bool (yP W asked))):=fun e=>by
    rw [vE]
    refine congrArg (fun z=>some (Rv.d (.bool z))) ?_
    unfold yP
    rw [Bool.eq_iff_iff,List.all_eq_true,List.all_eq_true]
    constructor
    · intro q t ht
      have:=q (yb (.int (t:Int))) (List.mem_map.mpr ⟨.int (t:Int),by
        refine List.mem_of_getElem? (i:=t) ?_
        rw [sD (List.mem_range.mp ht)]
        simp,rfl⟩)
      simpa [yb,iO] using this
    · intro q b hb
      obtain⟨x,hx,rfl⟩:=List.mem_map.mp hb
      obtain⟨i,hi⟩:=List.getElem?_of_mem hx
      obtain⟨rfl,hi2⟩:=bJ hi
      have:=q i (List.mem_range.mpr hi2)
      simpa [yb,iO] using this
  generalize ((aT 0 W.things.toNat).map yb).map PyData.bool=L at hv ga
  unfold vz
  generalize yP W asked=mb at*
  by_cases c:(asked.length:Int)≤W.asks
  · have na:¬W.asks < (asked.length:Int):=by lia
    simp? [bV,fD,g3,na,c,hv,ga]
  · have na:W.asks < (asked.length:Int):=by lia
    simp? [bV,fD,g3,na,c]
def ip:PyData→List Int
  | .tuple ds=>ds.map iO
  | _=>[]
def CN(W:aY):PyData→Bool
  | .tuple [a,b]=>nU (W.ties.length:Int) a&&(nU W.things b&&(vz W (ip a)&&zW W (ip a) (ip b)))
  | _=>false
theorem pX{many:Int}{d:PyData}(h:nU many d=true):∃ns:List Int,d=.tuple (ns.map .int)∧ns.Nodup∧∀k∈ns,0≤k∧k < many:=by
  cases d with
  | tuple ds=>
    obtain⟨ns,rfl,nd,hk⟩:=tV (show m5 many 0 ds=true from h)
    exact⟨ns,rfl,nd,hk⟩
  | _=>cases h
theorem tT{d:PyData}(h:nS 2 d=true):∃a b,d=.tuple [a,b]:=by
  cases d with
  | tuple ds=>
    have:ds.length=2:=by
      have:(ds.length:Int)=2:=by simpa [nS] using h
      lia
    match ds,this with
    | [a,b],_=>exact⟨a,b,rfl⟩
  | _=>cases h
theorem tU{W:aY}{d:PyData}(h:nS 2 d=false):CN W d=false:=by
  cases d with
  | tuple ds=>
    match ds with
    | [a,b]=>simp [nS] at h
    | []=>rfl
    | [_]=>rfl
    | _::_::_::_=>rfl
  | _=>rfl
theorem ny{W:aY}(ok:W.Ok)(d:PyData):bB [.d (aP W),.d d]=some (.d (.bool (CN W d)),[.d (aP W),.d d]):=by
  have g0:=Fo (W:=W)
  have g1':=Fq (W:=W)
  have wl:=ok.len;have t0:=ok.t0;have t1:=ok.t1
  have ql:(((W.ties.map cf).length:Nat):Int)=(W.ties.length:Int):=by simp
  have r0:=vk d 2
  cases c0:nS 2 d with
  | false=>
    rw [c0] at r0
    rw [tU c0]
    simp? [bB,d9,r0]
  | true=>
    rw [c0] at r0
    obtain⟨a,b,rfl⟩:=tT c0
    have ra:=oZ (d:=a) (many:=(W.ties.length:Int))
    have rb:=oZ (d:=b) (many:=W.things)
    show bB [.d (aP W),.d (.tuple [a,b])]=some (.d (.bool (nU (W.ties.length:Int) a&&(nU W.things b&&(vz W (ip a)&&zW W (ip a) (ip b))))),[.d (aP W),.d (.tuple [a,b])])
    cases ca:nU (W.ties.length:Int) a with
    | false=>
      rw [ca] at ra
      generalize W.ties.map cf=TT at*
      simp? [bB,d9,r0,g1',ql,ra]
    | true=>
    rw [ca] at ra
    cases cb:nU W.things b with
    | false=>
      rw [cb] at rb
      generalize W.ties.map cf=TT at*
      simp? [bB,d9,r0,g0,g1',ql,ra,rb]
    | true=>
    rw [cb] at rb
    obtain⟨as,rfl,na,ha⟩:=pX ca
    obtain⟨bs,rfl,nb,hb⟩:=pX cb
    have la:as.length≤16:=Nat.le_trans (eQ W.ties.length as na ha) wl
    have lb:bs.length≤12:=eQ 12 bs nb fun t ht=>by have:=hb t ht;lia
    rw [show ip (.tuple (as.map .int))=as from gB as,show ip (.tuple (bs.map .int))=bs from gB bs]
    have kb:=x6 ok (asked:=as) ha (by lia)
    cases ck:vz W as with
    | false=>
      rw [ck] at kb
      generalize as.map PyData.int=AA at*
      generalize bs.map PyData.int=BB at*
      generalize W.ties.map cf=TT at*
      simp? [bB,d9,r0,g0,g1',ql,ra,rb,kb]
    | true=>
    rw [ck] at kb
    let cs:En:=[some (.d (aP W)),some (.d (.tuple (as.map .int)))]
    let yb:PyData→Bool:=fun x=>decide (0 < W.many as (iO x))
    obtain⟨t',hf⟩:=dr (cs:=cs) (ft:=nv) (fe:=dN) (b:=fun _=>true) (y:=fun x=>.bool (yb x)) (bs.map .int) none [] (fun _ _=>rfl) (fun x hx _=>by
      obtain⟨t,ht,rfl⟩:=List.mem_map.mp hx
      have a:=lI (thing:=t) (asked:=as) ha (by lia)
      show dN (cs++[some (.d (.int t))])=some (.d (.bool (decide (0 < W.many as t))),cs++[some (.d (.int t))])
      have gg:∀e:En,yB e (.d (.int (W.many as t))) (.d (.int 0))=some (.d (.bool (decide (0 < W.many as t)))):=fun e=>rfl
      generalize decide (0 < W.many as t)=bb at*
      simp? [cs,dN,a,gg]) (by simp;lia)
    have hv:=gM (cp:=[(0,"web"),(2,"asked")]) (nT:=1) (fi:=hG) (g:=ai 2) (ft:=nv) (fe:=dN) (e:=[some (.d (aP W)),some (.d (.tuple [.tuple (as.map .int),.tuple (bs.map .int)])),some (.d (.tuple (as.map PyData.int))),some (.d (.tuple (bs.map PyData.int)))]) (cs:=cs) (t:=[none]) (t':=[t']) (show hG _=some (bs.map .int,[],_) from hE rfl) rfl rfl hf
    rw [List.filter_eq_self.mpr (fun _ _=>rfl),List.nil_append,show(bs.map PyData.int).map (fun x=>PyData.bool (yb x))=((bs.map fun t=>decide (0 < W.many as t)).map .bool) by rw [List.map_map,List.map_map];rfl] at hv
    have ga:∀e:En,g1 (jo lj) e [.l ((bs.map fun t=>decide (0 < W.many as t)).map .bool)]=some (.d (.bool (bs.all fun t=>decide (0 < W.many as t)))):=fun e=>by
      rw [vE,List.all_map]
      rfl
    have gm:∀e:En,aR e (.d (.int (bs.length:Int))) (.d (.int 2))=some (.d (.int ((bs.length:Int) % 2))):=fun e=>aC (by decide)
    have qb:((bs.map PyData.int).length:Int)=(bs.length:Int):=by simp
    have ge:∀e:En,bL true e (.d (.int ((bs.length:Int) % 2))) (.d (.int 0))=some (.d (.bool (!decide ((bs.length:Int) % 2=0)))):=fun e=>by rw [bc];rfl
    unfold zW
    generalize decide ((bs.length:Int) % 2=0)=b2 at*
    generalize (bs.length:Int) % 2=m2 at*
    generalize (bs.all fun t=>decide (0 < W.many as t))=b1 at*
    generalize (bs.map fun t=>decide (0 < W.many as t)).map PyData.bool=LB at*
    generalize (bs.length:Int)=BL at*
    generalize as.map PyData.int=AA at*
    generalize bs.map PyData.int=BB at*
    generalize W.ties.map cf=TT at*
    cases b2<;>simp? [bB,d9,r0,g0,g1',ql,ra,rb,kb,qb,gm,ge,hv,ga]
theorem AD{thing:PyData}{many:Int}:∀(ds:List PyData) (v2:Option Sv),∃w2,e_ [] (ai 2) br ds [some (.d thing),some (.d (.int many)),v2]=some (if ds.all (cZ 0 (many - 1))=true then .nx [some (.d thing),some (.d (.int many)),w2] else .rt (.d (.bool false)) [some (.d thing),some (.d (.int many)),w2])
  | [],v2=>⟨v2,rfl⟩
  | x::r,v2=>by
    have q1:=fun e=>As (e:=e) (d:=x)
    have q2:=fun e=>DG (e:=e) (d:=x)
    have hg:ai 2 x [some (.d thing),some (.d (.int many)),v2]=some [some (.d thing),some (.d (.int many)),some (.d x)]:=rfl
    cases c:cZ 0 (many - 1) x with
    | false=>
      have hb:br [some (.d thing),some (.d (.int many)),some (.d x)]=some (.rt (.d (.bool false)) [some (.d thing),some (.d (.int many)),some (.d x)]):=by
        cases hn:Da x with
        | false=>
          rw [wq] at hn
          generalize uF x=a at*
          generalize uE x=b at*
          cases a<;>cases b<;>first | (simp at hn;done) | simp? [br,q1,q2]
        | true=>
          cases x with
          | int i=>
            rw [show uF (.int i)=true from rfl] at q1
            rw [show uE (.int i)=false from rfl] at q2
            by_cases k3:i < 0
            · simp? [br,q1,q2,k3]
            · have k4:many≤i:=by
                by_cases q:many≤i
                · exact q
                · have:cZ 0 (many - 1) (.int i)=true:=by
                    simp only [cZ,Bool.and_eq_true,decide_eq_true_eq]
                    lia
                  rw [this] at c;cases c
              simp? [br,q1,q2,k3,k4]
          | _=>cases hn
      refine⟨some (.d x),?_⟩
      simp only [e_,hg,Option.bind_some,hb,List.all_cons,c,Bool.false_and,Bool.false_eq_true,if_false]
    | true=>
      obtain⟨i,rfl,i0,i1⟩:=fy c
      rw [show uF (.int i)=true from rfl] at q1
      rw [show uE (.int i)=false from rfl] at q2
      have k3:¬i < 0:=by lia
      have k4:¬many≤i:=by lia
      have hb:br [some (.d thing),some (.d (.int many)),some (.d (.int i))]=some (.nx [some (.d thing),some (.d (.int many)),some (.d (.int i))]):=by
        simp? [br,q1,q2,k3,k4]
      obtain⟨w2,ih⟩:=AD (thing:=thing) (many:=many) r (some (.d (.int i)))
      refine⟨w2,?_⟩
      simp only [e_,hg,Option.bind_some,hb,List.all_cons,c,Bool.true_and]
      rw [if_pos be,ih]
theorem oY{d:PyData}{many:Int}(hl:Ln d):bY [.d d,.d (.int many)]=some (.d (.bool (nU many d)),[.d d,.d (.int many)]):=by
  have gt:=fun e=>rW (e:=e) (d:=d)
  cases c0:rY d with
  | false=>
    rw [c0] at gt
    have e:nU many d=false:=by cases d<;>first | rfl | cases c0
    rw [e]
    simp? [bY,fN,gt]
  | true=>
    rw [c0] at gt
    obtain⟨ds,rfl⟩:=lX c0
    have hz:=hl ds rfl
    obtain⟨w2,hf⟩:=AD (thing:=.tuple ds) (many:=many) ds none
    have hs:∀Wl,c7 Wl f_ (ai 2) br [some (.d (.tuple ds)),some (.d (.int many)),none]=some (if ds.all (cZ 0 (many - 1))=true then .nx [some (.d (.tuple ds)),some (.d (.int many)),w2] else .rt (.d (.bool false)) [some (.d (.tuple ds)),some (.d (.int many)),w2]):=fun Wl=>by
      rw [dc (show f_ _=_ from hE rfl)]
      exact hf
    rw [show nU many (.tuple ds)=m5 many 0 ds from rfl]
    cases c:ds.all (cZ 0 (many - 1)) with
    | false=>
      rw [c] at hs
      simp only [Bool.false_eq_true,if_false] at hs
      have e:m5 many 0 ds=false:=by
        cases c2:m5 many 0 ds with
        | false=>rfl
        | true=>rw [xK (Int.le_refl _) c2] at c;cases c
      rw [e]
      simp? [bY,fN,gt,hs]
    | true=>
      rw [c] at hs
      simp only [if_true] at hs
      obtain⟨ns,rfl,hk⟩:=qe c
      rw [List.length_map] at hz
      have gl:∀(e:En),g1 mD e [.d (.tuple (ns.map .int))]=some (.l (ns.map .int)):=fun e=>rfl
      have gs:=fun e=>rV (e:=e) (ns:=ns) (by lia)
      have gq:=fun e=>yz (e:=e) (ns:=ns) (ms:=ci (p8 ns))
      rw [CG hk] at gq
      generalize m5 many 0 (ns.map .int)=b1 at*
      generalize (ci (p8 ns)).map PyData.int=SS at*
      generalize ns.map PyData.int=NN at*
      simp? [bY,fN,gt,hs,gl,gs,gq]
abbrev cg(W:aY)(th:PyData)(as bs cs:List Int)(v5 v6 v7 v8:Option Sv):En:=[some (.d (aP W)),some (.d th),some (.d (.tuple (as.map .int))),some (.d (.tuple (bs.map .int))),some (.l (cs.map .int)),v5,v6,v7,v8]
theorem vX{W:aY}(ok:W.Ok){th:PyData}{as bs l:List Int}{k:Int}(hk:ka W k)(v6 v7 v8:Option Sv):∃w6,eZ (cg W th as bs (cI W l) (some (.d (.int k))) v6 v7 v8)=some (.nx (cg W th as bs (cI W (l++[k])) (some (.d (.int k))) w6 v7 v8)):=by
  have o:=hk.ok ok
  have o0:=o.o0;have o1:=o.o1;have o2:=o.o2
  have g1':=Fq (W:=W)
  have hi:g9 (cg W th as bs (cI W l) (some (.d (.int k))) v6 v7 v8)=some ([.int (W.tie k).one,.int (W.tie k).other],[],cg W th as bs (cI W l) (some (.d (.int k))) v6 v7 v8):=hE (by
    simp? [g1',iz hk,cf])
  have step:∀(cs:List Int) (t:Int),0≤t→t < W.things→cs.length=W.things.toNat→eY (cg W th as bs cs (some (.d (.int k))) (some (.d (.int t))) v7 v8)=some (.nx (cg W th as bs (cs.set t.toNat (cs.getD t.toNat 0+1)) (some (.d (.int k))) (some (.d (.int t))) v7 v8)):=by
    intro cs t h0 h1 hl
    have hlt:t < (cs.length:Int):=by lia
    have ha:=iw (ns:=cs) h0 hlt
    have hix:yF cs.length t=some t.toNat:=by unfold yF;rw [if_pos h0,if_pos hlt]
    generalize cs.getD t.toNat 0=q at ha ⊢
    simp? [eY,ha,zI,p0,hix,List.map_set]
  have s1:=step (cI W l) (W.tie k).one (by lia) (by lia) ke
  rw [tj (by lia) (by lia)] at s1
  have s2:=step ((cI W l).set (W.tie k).one.toNat (W.many l (W.tie k).one+1)) (W.tie k).other (by lia) (by lia) (by rw [List.length_set,ke])
  have e2:((cI W l).set (W.tie k).one.toNat (W.many l (W.tie k).one+1)).getD (W.tie k).other.toNat 0=W.many l (W.tie k).other:=by
    rw [←tj (W:=W) (l:=l) (t:=(W.tie k).other) (by lia) (by lia)]
    simp only [List.getD_eq_getElem?_getD]
    rw [List.getElem?_set_ne (by lia)]
  rw [e2,←yp o] at s2
  refine⟨some (.d (.int (W.tie k).other)),?_⟩
  have hs:∀Wl,c7 Wl g9 (ai 6) eY (cg W th as bs (cI W l) (some (.d (.int k))) v6 v7 v8)=some (.nx (cg W th as bs (cI W (l++[k])) (some (.d (.int k))) (some (.d (.int (W.tie k).other))) v7 v8)):=fun Wl=>by
    rw [dc hi]
    have ga:∀cs v,ai 6 (.int (W.tie k).one) (cg W th as bs cs (some (.d (.int k))) v v7 v8)=some (cg W th as bs cs (some (.d (.int k))) (some (.d (.int (W.tie k).one))) v7 v8):=fun cs v=>rfl
    have gb:∀cs v,ai 6 (.int (W.tie k).other) (cg W th as bs cs (some (.d (.int k))) v v7 v8)=some (cg W th as bs cs (some (.d (.int k))) (some (.d (.int (W.tie k).other))) v7 v8):=fun cs v=>rfl
    simp only [e_,ga,gb,Option.bind_some,s1,s2]
    rw [if_pos be,if_pos be]
  exact hs _
theorem yu{W:aY}(ok:W.Ok){th:PyData}{as bs:List Int}(ha:∀k∈as,ka W k):∃w5 w6,∀Wl,c7 Wl g_ (ai 5) eZ (cg W th as bs (cI W []) none none none none)=some (.nx (cg W th as bs (cI W as) w5 w6 none none)):=by
  obtain⟨e2,h1,⟨w5,w6,rfl⟩⟩:=dO (own:=[]) (g:=ai 5) (f:=eZ) (fun i e=>∃v5 v6,e=cg W th as bs (cI W (as.take i)) v5 v6 none none) (as.map .int) 0 (cg W th as bs (cI W (as.take 0)) none none none none) (fun i x e hx ⟨v5,v6,he⟩=>by
    subst he
    rw [List.getElem?_map] at hx
    obtain⟨k,hki,rfl⟩:=Option.map_eq_some_iff.mp hx
    obtain⟨w6,hs⟩:=vX ok (th:=th) (as:=as) (bs:=bs) (l:=as.take (0+i)) (ha k (List.mem_of_getElem? hki)) v6 none none
    have e2:as.take (0+i+1)=as.take (0+i)++[k]:=by
      rw [List.take_succ,show as[0+i]?=some k by simpa using hki]
      rfl
    rw [←e2] at hs
    exact⟨_,_,rfl,hs,be,_,_,rfl⟩) ⟨_,_,rfl⟩
  rw [show as.take (0+(as.map PyData.int).length)=as by simp] at h1
  refine⟨w5,w6,fun Wl=>?_⟩
  rw [dc (items:=as.map .int) (e1:=cg W th as bs (cI W []) none none none none) (show g_ (cg W th as bs (cI W []) none none none none)=some (as.map .int,[],cg W th as bs (cI W []) none none none none) from hE rfl)]
  exact h1
theorem uh{W:aY}{th:PyData}{as bs cs:List Int}{v5 v6:Option Sv}:∀(xs ys:List Int) (v7 v8:Option Sv),xs.length=ys.length→∃w7 w8,e_ [(4,cs.map .int)] (dz (aX (ai 7) (aX (ai 8) cN))) b_ (i4 (xs.map .int) (ys.map .int)) (cg W th as bs cs v5 v6 v7 v8)=some (if (List.zip xs ys).all (fun p=>decide (p.1≤p.2))=true then .nx (cg W th as bs cs v5 v6 w7 w8) else .rt (.d (.bool false)) (cg W th as bs cs v5 v6 w7 w8))
  | [],ys,v7,v8,_=>⟨v7,v8,by simp [i4,e_]⟩
  | x::r,[],v7,v8,h=>by cases h
  | x::r,y::s,v7,v8,h=>by
    have hg:dz (aX (ai 7) (aX (ai 8) cN)) (.tuple [.int x,.int y]) (cg W th as bs cs v5 v6 v7 v8)=some (cg W th as bs cs v5 v6 (some (.d (.int x))) (some (.d (.int y)))):=rfl
    by_cases c:x≤y
    · have n:¬y < x:=by lia
      have hb:b_ (cg W th as bs cs v5 v6 (some (.d (.int x))) (some (.d (.int y))))=some (.nx (cg W th as bs cs v5 v6 (some (.d (.int x))) (some (.d (.int y))))):=by
        simp? [b_,n]
      obtain⟨w7,w8,ih⟩:=uh (W:=W) (th:=th) (as:=as) (bs:=bs) (cs:=cs) (v5:=v5) (v6:=v6) r s (some (.d (.int x))) (some (.d (.int y))) (by simpa using h)
      refine⟨w7,w8,?_⟩
      simp only [List.map_cons,i4,e_,hg,Option.bind_some,hb,List.zip_cons_cons,List.all_cons,c,decide_true,Bool.true_and]
      rw [if_pos (show keeps [(4,cs.map .int)] _ from fun p hp=>by simp at hp;subst hp;rfl)]
      exact ih
    · have n:y < x:=by lia
      have hb:b_ (cg W th as bs cs v5 v6 (some (.d (.int x))) (some (.d (.int y))))=some (.rt (.d (.bool false)) (cg W th as bs cs v5 v6 (some (.d (.int x))) (some (.d (.int y))))):=by
        simp? [b_,n]
      refine⟨some (.d (.int x)),some (.d (.int y)),?_⟩
      simp only [List.map_cons,i4,e_,hg,Option.bind_some,hb,List.zip_cons_cons,List.all_cons,c,decide_false,Bool.false_and,Bool.false_eq_true,if_false]
theorem By{W:aY}(ok:W.Ok)(as:List Int):(List.zip (cI W as) W.pat).all (fun p=>decide (p.1≤p.2))=yP W as:=by
  have hp:=ok.pl;have t0:=ok.t0
  unfold yP
  rw [Bool.eq_iff_iff,List.all_eq_true,List.all_eq_true]
  have at_:∀t:Nat,t < W.things.toNat→(List.zip (cI W as) W.pat)[t]?=some (W.many as (t:Int),W.pat.getD t 0):=fun t ht=>by
    have a1:=tj (W:=W) (l:=as) (t:=(t:Int)) (by lia) (by lia)
    have l1:=ke (W:=W) (l:=as)
    rw [List.getElem?_zip_eq_some]
    refine⟨?_,?_⟩
    · rw [Int.toNat_natCast,List.getD_eq_getElem?_getD,List.getElem?_eq_getElem (by lia)] at a1
      rw [List.getElem?_eq_getElem (by lia)]
      exact congrArg some a1
    · rw [List.getD_eq_getElem?_getD,List.getElem?_eq_getElem (by lia)]
      rfl
  constructor
  · intro h t ht
    exact h _ (List.mem_of_getElem? (at_ t (List.mem_range.mp ht)))
  · intro h p hpm
    obtain⟨t,ht⟩:=List.getElem?_of_mem hpm
    have hlt:t < W.things.toNat:=by
      have:=(List.getElem?_eq_some_iff.mp ht).1
      rw [List.length_zip,ke] at this
      lia
    have e:=at_ t hlt
    rw [ht] at e
    cases e
    exact h t (List.mem_range.mpr hlt)
theorem wb{α:Type}(p:α→Bool)(l:List α):(l.filter fun x=> !p x).isEmpty=l.all p:=by
  rw [Bool.eq_iff_iff]
  simp [List.isEmpty_iff,List.filter_eq_nil_iff,List.all_eq_true]
theorem yO{W:aY}(as:List Int)(t:Int):0≤W.many as t:=by unfold aY.many;lia
theorem EE{n m:Int}(h0:0≤n)(h1:n≤m):(Builtin.Range.rangePlace? 0 (m+1) 2 n).isSome=decide (n % 2=0):=by
  unfold Builtin.Range.rangePlace?
  have a:decide (n < m+1)=true:=decide_eq_true (by lia)
  by_cases c:n % 2=0
  · simp [h0,a,c]<;>lia
  · simp [h0,a,c]<;>lia
def Ff(d:PyData):Prop:=∀a b,d=.tuple [a,b]→Ln a∧Ln b
theorem x8{W:aY}(ok:W.Ok){d:PyData}(hl:Ff d):bz [.d (aP W),.d d]=some (.d (.bool (CN W d)),[.d (aP W),.d d]):=by
  have g0:=Fo (W:=W)
  have g1':=Fq (W:=W)
  have g2:=GE (W:=W)
  have g3:=GF (W:=W)
  have wl:=ok.len;have t0:=ok.t0;have t1:=ok.t1
  have ql:(((W.ties.map cf).length:Nat):Int)=(W.ties.length:Int):=by simp
  have gt:=fun e=>rW (e:=e) (d:=d)
  cases c0:nS 2 d with
  | false=>
    rw [tU c0]
    cases c1:rY d with
    | false=>
      rw [c1] at gt
      simp? [bz,cE,gt]
    | true=>
      rw [c1] at gt
      obtain⟨ds,rfl⟩:=lX c1
      have hn:¬((ds.length:Int)=2):=by simpa [nS] using c0
      have ge:∀e:En,bL true e (.d (.int (ds.length:Int))) (.d (.int 2))=some (.d (.bool true)):=fun e=>by
        rw [bc]
        have:((ds.length:Int)==2)=false:=by simpa using hn
        rw [this];rfl
      simp? [bz,cE,gt,ge]
  | true=>
    obtain⟨a,b,rfl⟩:=tT c0
    obtain⟨ha1,hb1⟩:=hl a b rfl
    rw [show rY (.tuple [a,b])=true from rfl] at gt
    have ra:=oY (many:=(W.ties.length:Int)) ha1
    have rb:=oY (many:=W.things) hb1
    show bz [.d (aP W),.d (.tuple [a,b])]=some (.d (.bool (nU (W.ties.length:Int) a&&(nU W.things b&&(vz W (ip a)&&zW W (ip a) (ip b))))),[.d (aP W),.d (.tuple [a,b])])
    cases ca:nU (W.ties.length:Int) a with
    | false=>
      rw [ca] at ra
      generalize W.ties.map cf=TT at*
      simp? [bz,cE,gt,g1',ql,ra]
    | true=>
    rw [ca] at ra
    cases cb:nU W.things b with
    | false=>
      rw [cb] at rb
      generalize W.ties.map cf=TT at*
      simp? [bz,cE,gt,g0,g1',ql,ra,rb]
    | true=>
    rw [cb] at rb
    obtain⟨as,rfl,na,ha⟩:=pX ca
    obtain⟨bs,rfl,nb,hb⟩:=pX cb
    have la:as.length≤16:=Nat.le_trans (eQ W.ties.length as na ha) wl
    have lb:bs.length≤12:=eQ 12 bs nb fun t ht=>by have:=hb t ht;lia
    have lb2:(bs.length:Int)≤W.things:=by
      have:=eQ W.things.toNat bs nb fun t ht=>by have:=hb t ht;lia
      lia
    rw [show ip (.tuple (as.map .int))=as from gB as,show ip (.tuple (bs.map .int))=bs from gB bs]
    have gr:∀e:En,jx e (.l [.int 0]) (.d (.int W.things))=some (.l ((cI W []).map .int)):=fun e=>by
      rw [DL t0 (by lia),AY,List.map_replicate]
    obtain⟨w5,w6,hc⟩:=yu ok (th:=.tuple [.tuple (as.map .int),.tuple (bs.map .int)]) (as:=as) (bs:=bs) ha
    obtain⟨w7,w8,hz⟩:=uh (W:=W) (th:=.tuple [.tuple (as.map .int),.tuple (bs.map .int)]) (as:=as) (bs:=bs) (cs:=cI W as) (v5:=w5) (v6:=w6) (cI W as) W.pat none none (by rw [ke];have:=ok.pl;lia)
    rw [By ok] at hz
    have hs:∀Wl,(Wl.contains 4=false)→c7 Wl fj (dz (aX (ai 7) (aX (ai 8) cN))) b_ (cg W (.tuple [.tuple (as.map .int),.tuple (bs.map .int)]) as bs (cI W as) w5 w6 none none)=some (if yP W as=true then .nx (cg W (.tuple [.tuple (as.map .int),.tuple (bs.map .int)]) as bs (cI W as) w5 w6 w7 w8) else .rt (.d (.bool false)) (cg W (.tuple [.tuple (as.map .int),.tuple (bs.map .int)]) as bs (cI W as) w5 w6 w7 w8)):=fun Wl hw=>by
      unfold c7
      rw [show fj (cg W (.tuple [.tuple (as.map .int),.tuple (bs.map .int)]) as bs (cI W as) w5 w6 none none)=some (i4 ((cI W as).map .int) (W.pat.map .int),[(4,(cI W as).map .int)],cg W (.tuple [.tuple (as.map .int),.tuple (bs.map .int)]) as bs (cI W as) w5 w6 none none) by simp? [fj,tK,vd,g2]]
      simp only [Option.bind_some,List.all_cons,List.all_nil,hw]
      exact hz
    have hs':=hs (([7]++([8]++[]))++([]++[])) rfl
    have hc':=hc ([5]++([6]++[]))
    have qa:((as.map PyData.int).length:Int)=(as.length:Int):=by simp
    have qb:((bs.map PyData.int).length:Int)=(bs.length:Int):=by simp
    cases cm:yP W as with
    | false=>
      rw [cm] at hs'
      simp only [Bool.false_eq_true,if_false] at hs'
      have e:(vz W as&&zW W as bs)=false:=by unfold vz;rw [cm];simp
      rw [e]
      simp only [cg] at hc' hs'
      generalize as.map PyData.int=AA at*
      generalize bs.map PyData.int=BB at*
      generalize (cI W as).map PyData.int=CC at*
      generalize (cI W []).map PyData.int=C0 at*
      generalize W.ties.map cf=TT at*
      simp at hc' hs'
      simp? [bz,cE,gt,g0,g1',ql,ra,rb,gr,hc',hs']
    | true=>
    rw [cm] at hs'
    simp only [if_true] at hs'
    let cs:En:=[some (.l ((cI W as).map .int))]
    obtain⟨t',hf⟩:=dr (cs:=cs) (ft:=dJ) (fe:=e6) (b:=fun x=> !decide (0 < W.many as (iO x))) (y:=fun x=>x) (bs.map .int) none [] (fun x hx=>by
      obtain⟨t,ht,rfl⟩:=List.mem_map.mp hx
      have hbt:=hb t ht
      have a:=iw (ns:=cI W as) hbt.1 (by rw [ke];lia)
      rw [tj hbt.1 hbt.2] at a
      have nn:=yO (W:=W) as t
      show dJ (cs++[some (.d (.int t))])=some (!decide (0 < W.many as t),cs++[some (.d (.int t))])
      have ge:∀e:En,bL false e (.d (.int (W.many as t))) (.d (.int 0))=some (.d (.bool (!decide (0 < W.many as t)))):=fun e=>by
        rw [bc]
        refine congrArg (fun z=>some (Rv.d (.bool z))) ?_
        rw [Bool.eq_iff_iff]
        simp
        lia
      generalize (!decide (0 < W.many as t))=bb at*
      generalize W.many as t=mm at*
      simp? [cs,dJ,a,ge]) (fun x hx _=>by
      generalize (cI W as).map PyData.int=CC at*
      simp? [cs,e6]) (by simp;lia)
    rw [List.nil_append,List.map_id'] at hf
    have hv:=gM (cp:=[(4,"_law_counts")]) (nT:=1) (fi:=gZ) (g:=ai 1) (ft:=dJ) (fe:=e6) (e:=cg W (.tuple [.tuple (as.map .int),.tuple (bs.map .int)]) as bs (cI W as) w5 w6 w7 w8) (cs:=cs) (t:=[none]) (t':=[t']) (show gZ _=some (bs.map .int,[],_) from hE rfl) rfl rfl hf
    have gz:=fun e=>A_ (e:=e) (xs:=(bs.map PyData.int).filter fun x=> !decide (0 < W.many as (iO x))) (neg:=false)
    have em:((bs.map PyData.int).filter fun x=> !decide (0 < W.many as (iO x))).isEmpty=bs.all fun t=>decide (0 < W.many as t):=by
      rw [List.filter_map,List.isEmpty_map]
      exact wb (fun t=>decide (0 < W.many as t)) bs
    simp only [Bool.false_eq_true,if_false,em] at gz
    have np:=EE (n:=(bs.length:Int)) (m:=W.things) (by lia) lb2
    unfold vz zW
    rw [cm]
    generalize ((bs.map PyData.int).filter fun x=> !decide (0 < W.many as (iO x)))=FF at*
    generalize (bs.all fun t=>decide (0 < W.many as t))=b1 at*
    simp only [cg] at hc' hs' hv
    have k1:(0:Int) < 2:=by decide
    have k3: -2 ^ 60 < (0:Int):=by decide
    have k4:(0:Int) < 2 ^ 60:=by decide
    have nr:∀(e:En) (bl:Int),bh (.d (.int bl))=some bl:=fun e bl=>rfl
    have hni:vp (aE (g1 eE) (aa (ac 3) ag)) (aa (vC (.int 0)) (aa (am ba (am dZ (ac 0) (vC (.int 0))) (vC (.int 1))) (aa (vC (.int 2)) ag))) (cg W (.tuple [.tuple (as.map .int),.tuple (bs.map .int)]) as bs (cI W as) w5 w6 w7 w8)=some (.d (.bool (!decide ((bs.length:Int) % 2=0))),cg W (.tuple [.tuple (as.map .int),.tuple (bs.map .int)]) as bs (cI W as) w5 w6 w7 w8):=by
      have kk:(0:Int) < 2∧(2:Int) < 2 ^ 30∧ -2 ^ 60 < (0:Int)∧(0:Int) < 2 ^ 60∧ -2 ^ 60 < W.things+1∧W.things+1 < 2 ^ 60:=⟨by decide,by decide,by decide,by decide,by lia,by lia⟩
      rw [←np]
      generalize (cI W as).map PyData.int=CC at*
      generalize as.map PyData.int=AA at*
      generalize bs.map PyData.int=BB at*
      simp? [vp,g0,qb,bh]
      exact⟨by lia,by lia⟩
    simp only [cg] at hni
    generalize decide ((bs.length:Int) % 2=0)=b2 at*
    generalize as.map PyData.int=AA at*
    generalize bs.map PyData.int=BB at*
    generalize (cI W as).map PyData.int=CC at*
    generalize (cI W []).map PyData.int=C0 at*
    generalize W.ties.map cf=TT at*
    simp at hc' hs'
    by_cases c:(as.length:Int)≤W.asks
    · have n:¬W.asks < (as.length:Int):=by lia
      generalize (as.length:Int)=AL at*
      cases b2<;>simp? [bz,cE,gt,g0,g1',g3,ql,ra,rb,gr,hc',hs',qa,c,n,hni,hv,gz]
    · have n:W.asks < (as.length:Int):=by lia
      generalize (as.length:Int)=AL at*
      simp? [bz,cE,gt,g0,g1',g3,ql,ra,rb,gr,hc',hs',qa,c,n]
theorem xH{W:aY}(ok:W.Ok){R:Rn}{a t:List Int}(h:io W R a t):CN W (eU a t)=true:=by
  have inw:∀k∈a,ka W k:=fun k hk=>h.inw k (h.pa.mem_iff.mp hk)
  have na:a.Nodup:=h.pa.nodup_iff.mpr h.nd
  have nt:t.Nodup:=h.pt.nodup_iff.mpr h.nk
  have th:∀x∈t,0≤x∧x < W.things:=fun x hx=>h.ends ok x (h.pt.mem_iff.mp hx)
  have ak:=h.ak
  have al:=h.alen
  show(nU (W.ties.length:Int) (.tuple (a.map .int))&&(nU W.things (.tuple (t.map .int))&&(vz W (ip (.tuple (a.map .int)))&&zW W (ip (.tuple (a.map .int))) (ip (.tuple (t.map .int))))))=true
  rw [show ip (.tuple (a.map .int))=a from gB a,show ip (.tuple (t.map .int))=t from gB t]
  have r1:nU (W.ties.length:Int) (.tuple (a.map .int))=true:=by
    show m5 (W.ties.length:Int) 0 (a.map .int)=true
    rw [pY a 0 fun k hk=>(inw k hk).2,decide_eq_true_iff]
    exact⟨xq h.sa na,fun k hk=>(inw k hk).1⟩
  have r2:nU W.things (.tuple (t.map .int))=true:=by
    show m5 W.things 0 (t.map .int)=true
    rw [pY t 0 fun k hk=>(th k hk).2,decide_eq_true_iff]
    exact⟨xq h.st nt,fun k hk=>(th k hk).1⟩
  have r3:vz W a=true:=by
    unfold vz yP
    rw [Bool.and_eq_true,decide_eq_true_iff,List.all_eq_true]
    refine⟨by lia,fun x hx=>?_⟩
    rw [decide_eq_true_iff,kn h.pa]
    have hx':=List.mem_range.mp hx
    have:=h.bd (x:Int) (by lia) (by lia)
    simpa using this
  have r4:zW W a t=true:=by
    unfold zW
    rw [Bool.and_eq_true,decide_eq_true_iff,List.all_eq_true]
    refine⟨by rw [h.pt.length_eq,ur];lia,fun x hx=>?_⟩
    obtain⟨k,h1,h2⟩:=oq (h.pt.mem_iff.mp hx)
    rw [decide_eq_true_iff,kn h.pa]
    unfold aY.many
    have:0 < ((jN R).filter fun k=>W.has k x).length:=List.length_pos_of_mem (List.mem_filter.mpr ⟨h1,h2⟩)
    lia
  rw [r1,r2,r3,r4]
  rfl
inductive CI (W:aY):En→Prop
  | mk {ds a t R v3 v4 v5} (hd:jg ds) (h:io W R a t):CI W [some (.l (ds.map .int)),some (.d (aP W)),some (.d (eU a t)),v3,v4,v5]
theorem CT{W:aY}(ok:W.Ok){ds:List Int}(hd:jg ds):∃a t R ds',mM [.l (ds.map .int),.d (aP W)]=some (.d (eU a t),[.l (ds'.map .int),.d (aP W)])∧jg ds'∧io W R a t:=by
  obtain⟨n0,d0,t0,a0,b0,hd0⟩:=jl hd
  have g11:∀e:En,aR e (.d (.int n0)) (.d (.int 11))=some (.d (.int (n0 % 11))):=fun e=>aC (by decide)
  have c0:=rG (n:=n0) (k:=11) (by decide);have c1:=rH (n:=n0) (k:=11) (by decide)
  generalize n0 % 11=q at*
  obtain⟨e2,h1,hI⟩:=dO (own:=[]) (g:=ai 3) (f:=iB) (fun _=>CI W) (aT 0 q.toNat) 0 [some (.l (d0.map .int)),some (.d (aP W)),some (.d (eU [] [])),none,none,none] (fun i x e hx hI=>by
    obtain⟨hd,h⟩:=hI
    rename_i ds a t R v3 v4 v5
    obtain⟨rfl,hi⟩:=bJ hx
    generalize (0+(i:Int))=j at*
    have hR:=h.len;have wl:=ok.len;have la:=h.alen;have lt:=h.tlen ok
    have inw:∀k∈a,ka W k:=fun k hk=>h.inw k (h.pa.mem_iff.mp hk)
    have ta:=vh ok (taken:=t) inw (by lia)
    have gn:∀(e:En),e[4]?=some (some (.l ((W.can a t).map .int)))→bL true e (.s 4) (.l [])=some (.d (.bool (!((W.can a t).map PyData.int).isEmpty))):=fun e he=>qt he (lF (W.can a t)).1
    have cin:∀k∈W.can a t,ka W k∧W.may a t k=true:=fun k hk=>by
      unfold aY.can aY.rng at hk
      obtain⟨h1,h2⟩:=List.mem_filter.mp hk
      obtain⟨i,h3,rfl⟩:=List.mem_map.mp h1
      rw [List.mem_range] at h3
      exact⟨⟨by show(0:Int)≤(i:Int);lia,by show(i:Int) < _;lia⟩,h2⟩
    by_cases cc:W.can a t=[]
    · rw [cc] at ta gn
      simp only [List.map_nil,List.isEmpty_nil,Bool.not_true] at ta gn
      refine⟨[some (.l (ds.map .int)),some (.d (aP W)),some (.d (eU a t)),some (.d (.int j)),v4,v5],[some (.l (ds.map .int)),some (.d (aP W)),some (.d (eU a t)),some (.d (.int j)),some (.l []),v5],rfl,?_,be,.mk hd h⟩
      simp? [iB,ta,gn]
    · have pos:0 < (W.can a t).length:=List.length_pos_iff.mpr cc
      obtain⟨n,d1,t1,a1,b1,hd1⟩:=jl hd
      have m0:0≤n / 2 % ((W.can a t).length:Int):=Int.emod_nonneg _ (by lia)
      have m1:n / 2 % ((W.can a t).length:Int) < ((W.can a t).length:Int):=Int.emod_lt_of_pos _ (by lia)
      have ha:=iw (ns:=W.can a t) m0 m1
      have hmem:(W.can a t).getD (n / 2 % ((W.can a t).length:Int)).toNat 0∈W.can a t:=by
        rw [List.getD_eq_getElem?_getD,List.getElem?_eq_getElem (by lia)]
        exact List.getElem_mem _
      obtain⟨hk,hm⟩:=cin _ hmem
      generalize (W.can a t).getD (n / 2 % ((W.can a t).length:Int)).toNat 0=kk at ha hk hm
      have hb:=xZ (W:=W) (asked:=a) (taken:=t) (k:=kk) (n % 2==1) hk (by lia) (by lia)
      have ok':=h.more ok hk hm (n % 2==1)
      have gf:∀e,bI e (.d (.int n)) (.d (.int 2))=some (.d (.int (n / 2))):=fun e=>cn (by decide) (Bt.mono (m:=7) (by unfold Bt;lia) (by decide))
      have gm:∀e,aR e (.d (.int (n / 2))) (.d (.int ((W.can a t).length:Int)))=some (.d (.int (n / 2 % ((W.can a t).length:Int)))):=fun e=>aC (by lia)
      have gm2:∀e,aR e (.d (.int n)) (.d (.int 2))=some (.d (.int (n % 2))):=fun e=>aC (by decide)
      have ne:((W.can a t).map PyData.int).isEmpty=false:=by
        cases hq:W.can a t with
        | nil=>exact absurd hq cc
        | cons x r=>rfl
      rw [ne] at gn
      have ql:(((W.can a t).map PyData.int).length:Int)=((W.can a t).length:Int):=by simp
      have geq:∀e,bL false e (.d (.int (n % 2))) (.d (.int 1))=some (.d (.bool (n % 2==1))):=fun e=>bc
      refine⟨[some (.l (ds.map .int)),some (.d (aP W)),some (.d (eU a t)),some (.d (.int j)),v4,v5],[some (.l (d1.map .int)),some (.d (aP W)),some (.d (eU (aY.askd a kk) (W.took t kk (n % 2==1)))),some (.d (.int j)),some (.l ((W.can a t).map .int)),some (.d (.int n))],rfl,?_,be,.mk hd1 ok'⟩
      generalize (n % 2==1)=bb at*
      generalize n / 2 % ((W.can a t).length:Int)=ix at*
      generalize ((W.can a t).length:Int)=L at*
      generalize (W.can a t).map PyData.int=C at*
      simp? [iB,ta,gn,t1,gf,gm,gm2,geq,ql,ha,hb]) (.mk hd0 (io.first ok))
  obtain⟨hd2,h⟩:=hI
  rename_i d2 a t R v3 v4 v5
  refine⟨a,t,R,d2,?_,hd2,h⟩
  have hs:∀Wl,c7 Wl mF (ai 3) iB [some (.l (ds.map .int)),some (.d (aP W)),some (.d (eU [] [])),none,none,none]=some (.nx [some (.l (d2.map .int)),some (.d (aP W)),some (.d (eU a t)),v3,v4,v5]):=fun Wl=>by
    rw [dc (items:=aT 0 q.toNat) (e1:=[some (.l (d0.map .int)),some (.d (aP W)),some (.d (eU [] [])),none,none,none]) (show mF _=_ from dh (n:=q) (by simp? [t0,g11]) (by lia) (by lia))]
    exact h1
  have e0:eU [] []=.tuple [.tuple [],.tuple []]:=rfl
  rw [e0] at hs
  generalize eU a t=DD at*
  simp? [mM,vG,hs]
theorem x4{rs:List Int}{n many:Int}(hn:0≤n)(hrl:rs.length≤16)(h0:0≤many)(h1:many≤16):
    ∃d,di [.d (.int n),.d (.tuple (rs.map .int)),.d (.int many)]=some (.d d,[.d (.int n),.d (.tuple (rs.map .int)),.d (.int many)])∧Ln d:=by
  have lp:0 < (rs.length:Int)+1:=by lia
  have mp:0 < max 1 many:=by lia
  have f16:∀e:En,bI e (.d (.int n)) (.d (.int 16))=some (.d (.int (n / 16))):=fun e=>cn (by decide) (gW (by decide) (by decide))
  have f50:∀e:En,bI e (.d (.int n)) (.d (.int 50))=some (.d (.int (n / 50))):=fun e=>cn (by decide) (gW (by decide) (by decide))
  have f300:∀e:En,bI e (.d (.int n)) (.d (.int 300))=some (.d (.int (n / 300))):=fun e=>cn (by decide) (gW (by decide) (by decide))
  have gm1:∀e:En,aR e (.d (.int (n / 16))) (.d (.int ((rs.length:Int)+1)))=some (.d (.int (n / 16 % ((rs.length:Int)+1)))):=fun e=>aC lp
  generalize n / 16 % ((rs.length:Int)+1)=at_ at*
  have gm2:∀e:En,aR e (.d (.int (n / 300))) (.d (.int (max 1 many)))=some (.d (.int (n / 300 % max 1 many))):=fun e=>aC mp
  generalize n / 300 % max 1 many=tie at*
  have gm4:∀e:En,aR e (.d (.int (n / 300))) (.d (.int (many+1)))=some (.d (.int (n / 300 % (many+1)))):=fun e=>aC (by lia)
  have j0:=rG (n:=n / 300) (k:=many+1) (by lia);have j1:=rH (n:=n / 300) (k:=many+1) (by lia)
  generalize n / 300 % (many+1)=jj at*
  have gm3:∀e:En,aR e (.d (.int (n / 50))) (.d (.int 9))=some (.d (.int (n / 50 % 9))):=fun e=>aC (by decide)
  have c0:=rG (n:=n / 50) (k:=9) (by decide);have c1:=rH (n:=n / 50) (k:=9) (by decide)
  generalize n / 50 % 9=q at*
  have gm5:∀e:En,aR e (.d (.int n)) (.d (.int 8))=some (.d (.int (n % 8))):=fun e=>aC (by decide)
  have w0:=rG (n:=n) (k:=8) (by decide);have w1:=rH (n:=n) (k:=8) (by decide)
  generalize n % 8=w at*
  obtain⟨o,ho,ao⟩:=iu (xs:=[PyData.int tie,.int many,.int (-1),.bool true,.none,.int 0,.list [.int 0],.dict [],.bool false]) (i:=q) c0 c1
  have s1:=fun e=>jy (e:=e) (ns:=rs++[tie]) (by simp;lia)
  simp only [List.map_append,List.map_cons,List.map_nil] at s1
  have m1:(ci (rs++[tie])).length≤17:=by rw [(en _).length_eq];simp;lia
  have lS:((ci (rs++[tie])).map PyData.int).length≤17:=by simpa using m1
  have qrl:((rs.map PyData.int).length:Int)=(rs.length:Int):=by simp
  have lN:(rs.map PyData.int).length≤16:=by simpa using hrl
  have tr:∀e:En,je (aa (am aR (am bI (ac 0) (vC (.int 300))) (am ba (ac 2) (vC (.int 1)))) ag) [some (.d (.int n)),some (.d (.tuple (rs.map .int))),some (.d (.int many)),some (.d (.int at_)),some (.d o),some (.d (.int w))]=some (.d (.tuple ((mZ jj.toNat).map .int)),[some (.d (.int n)),some (.d (.tuple (rs.map .int))),some (.d (.int many)),some (.d (.int at_)),some (.d o),some (.d (.int w))]):=fun e=>by
    have:0≤jj∧jj≤100000:=⟨j0,by lia⟩
    generalize rs.map PyData.int=NN at*
    simp? [je,f300,gm4,bh,this]
  have lR:((mZ jj.toNat).map PyData.int).length≤17:=by rw [List.length_map,rc];lia
  generalize (mZ jj.toNat).map PyData.int=RR at*
  generalize (ci (rs++[tie])).map PyData.int=SS at*
  generalize rs.map PyData.int=NN at*
  generalize (rs.length:Int)=RL at*
  have cl:∀lo hi,(L2.cutD NN lo hi).length≤16:=fun lo hi=>Nat.le_trans L2.cut_len lN
  have l1:=cl none (some at_);have l2:=cl (some (at_+1)) none;have l3:=cl (some (-1)) none;have l4:=cl (some at_) none
  have gc:∀(xs ys:List PyData),xs.length≤100→ys.length≤100→∀e:En,ba e (.d (.tuple xs)) (.d (.tuple ys))=some (.d (.tuple (xs++ys))):=fun xs ys h1 h2 e=>mB (by lia)
  have gl:∀(e:En),g1 mD e [.d (.tuple NN)]=some (.l NN):=fun e=>rfl
  have gt:∀(e:En) (xs:List PyData),g1 dQ e [.l xs]=some (.d (.tuple xs)):=fun e xs=>rfl
  have k1:=gc NN [.int tie] (by lia) (by simp)
  have k2:=gc (L2.cutD NN none (some at_)) [o] (by lia) (by simp)
  have k3:=gc (L2.cutD NN none (some at_)++[o]) (L2.cutD NN (some at_) none) (by simp;lia) (by lia)
  have k4:=gc (L2.cutD NN none (some at_)) (L2.cutD NN (some (at_+1)) none) (by lia) (by lia)
  have k5:=gc (L2.cutD NN none (some at_)++[o]) (L2.cutD NN (some (at_+1)) none) (by simp;lia) (by lia)
  have k6:=gc (L2.cutD NN (some at_) none) (L2.cutD NN none (some at_)) (by lia) (by lia)
  have k7:=gc NN (L2.cutD NN (some (-1)) none) (by lia) (by lia)
  have up:∀{xs:List PyData},xs.length≤60→Ln (.tuple xs):=fun h ds e=>by cases e;exact h
  have z3:(L2.cutD NN none (some at_)++[o]++L2.cutD NN (some at_) none).length≤60:=by simp;lia
  have z4:(L2.cutD NN none (some at_)++L2.cutD NN (some (at_+1)) none).length≤60:=by simp;lia
  have z5:(L2.cutD NN none (some at_)++[o]++L2.cutD NN (some (at_+1)) none).length≤60:=by simp;lia
  have z6:(L2.cutD NN (some at_) none++L2.cutD NN none (some at_)).length≤60:=by simp;lia
  have z7:(NN++L2.cutD NN (some (-1)) none).length≤60:=by simp;lia
  generalize L2.cutD NN none (some at_)++[o]++L2.cutD NN (some at_) none=E3 at*
  generalize L2.cutD NN none (some at_)++[o]++L2.cutD NN (some (at_+1)) none=E5 at*
  generalize L2.cutD NN none (some at_)++L2.cutD NN (some (at_+1)) none=E4 at*
  generalize L2.cutD NN (some at_) none++L2.cutD NN none (some at_)=E6 at*
  generalize NN++L2.cutD NN (some (-1)) none=E7 at*
  generalize L2.cutD NN none (some at_)++[o]=E2 at*
  generalize NN++[.int tie]=E1 at*
  generalize hA:L2.cutD NN none (some at_)=A at*
  generalize hB:L2.cutD NN (some (at_+1)) none=B at*
  generalize hF:L2.cutD NN (some at_) none=F at*
  generalize hC:L2.cutD NN (some (-1)) none=C at*
  have body:∀d:PyData,(∃e2,(az (dX (av (am (bL false) (ac 5) (vC (.int 0))))
    (aQ (aE (g1 dQ) (aa (aE (g1 fH) (aa (am ba (ac 1) (aW (aa (am aR (am bI (ac 0) (vC (.int 300))) (aE (g2 pA) (aa (vC (.int 1)) (aa (ac 2) ag)))) ag))) ag)) ag)))
    bx)
    (az (dX (av (am (bL false) (ac 5) (vC (.int 1))))
    (aQ (am ba (am ba (jd (ac 1) bG (bE (ac 3))) (aW (aa (ac 4) ag))) (jd (ac 1) (bE (ac 3)) bG)))
    bx)
    (az (dX (av (am (bL false) (ac 5) (vC (.int 2))))
    (aQ (am ba (jd (ac 1) bG (bE (ac 3))) (jd (ac 1) (bE (am ba (ac 3) (vC (.int 1)))) bG)))
    bx)
    (az (dX (av (am (bL false) (ac 5) (vC (.int 3))))
    (aQ (am ba (am ba (jd (ac 1) bG (bE (ac 3))) (aW (aa (ac 4) ag))) (jd (ac 1) (bE (am ba (ac 3) (vC (.int 1)))) bG)))
    bx)
    (az (dX (av (am (bL false) (ac 5) (vC (.int 4))))
    (aQ (am ba (jd (ac 1) (bE (ac 3)) bG) (jd (ac 1) bG (bE (ac 3)))))
    bx)
    (az (dX (av (am (bL false) (ac 5) (vC (.int 5))))
    (aQ (je (aa (am aR (am bI (ac 0) (vC (.int 300))) (am ba (ac 2) (vC (.int 1)))) ag)))
    bx)
    (aQ (am dZ (cS (aa (aE (g1 mD) (aa (ac 1) ag)) (aa (am ba (ac 1) (jd (ac 1) (bE (kO rT (vC (.int 1)))) bG)) ag))) (am gY (ac 5) (vC (.int 6))))))))))) [some (.d (.int n)),some (.d (.tuple NN)),some (.d (.int many)),some (.d (.int at_)),some (.d o),some (.d (.int w))]=some (.rt (.d d) e2)∧e2=[some (.d (.int n)),some (.d (.tuple NN)),some (.d (.int many)),some (.d (.int at_)),some (.d o),some (.d (.int w))])→di [.d (.int n),.d (.tuple NN),.d (.int many)]=some (.d d,[.d (.int n),.d (.tuple NN),.d (.int many)]):=fun d ⟨e2,hb,he⟩=>by
    subst he
    have hm:∀(v3 v4 v5:Option Sv),jt [some (.d (.int n)),some (.d (.tuple NN)),some (.d (.int many)),v3,v4,v5]=some (.rt (.d d) [some (.d (.int n)),some (.d (.tuple NN)),some (.d (.int many)),some (.d (.int at_)),some (.d o),some (.d (.int w))]):=fun v3 v4 v5=>by
      unfold jt
      refine(cA (e1:=[some (.d (.int n)),some (.d (.tuple NN)),some (.d (.int many)),some (.d (.int at_)),v4,v5]) ?_).trans ?_
      · simp? [qrl,f16,gm1]
      refine(cA (e1:=[some (.d (.int n)),some (.d (.tuple NN)),some (.d (.int many)),some (.d (.int at_)),some (.d o),v5]) ?_).trans ?_
      · simp? [f300,f50,gm2,gm3,ao,nB]
      refine(cA (e1:=[some (.d (.int n)),some (.d (.tuple NN)),some (.d (.int many)),some (.d (.int at_)),some (.d o),some (.d (.int w))]) ?_).trans hb
      · simp? [gm5]
    simp? [di,hm]
  rcases(by lia:w=0∨w=1∨w=2∨w=3∨w=4∨w=5∨w=6∨w=7) with rfl | rfl | rfl | rfl | rfl | rfl | rfl | rfl
  · exact⟨.tuple SS,body _ ⟨_,by simp? [f300,gm2,k1,s1,gt,bc, -bg],rfl⟩,up (by lia)⟩
  · exact⟨.tuple E3,body _ ⟨_,by simp? [hA,hF,k2,k3,bc, -bg],rfl⟩,up z3⟩
  · exact⟨.tuple E4,body _ ⟨_,by simp? [hA,hB,k4,bc, -bg,bg],rfl⟩,up z4⟩
  · exact⟨.tuple E5,body _ ⟨_,by simp? [hA,hB,k2,k5,bc, -bg,bg],rfl⟩,up z5⟩
  · exact⟨.tuple E6,body _ ⟨_,by simp? [hA,hF,k6,bc, -bg],rfl⟩,up z6⟩
  · exact⟨.tuple RR,body _ ⟨_,by simp? [tr [],bc, -bg],rfl⟩,up (by lia)⟩
  · exact⟨.list NN,body _ ⟨_,by simp? [hC,k7,gl,bc,bQ, -bg],rfl⟩,fun ds e=>by cases e⟩
  · exact⟨.tuple E7,body _ ⟨_,by simp? [hC,k7,gl,bc,bQ, -bg],rfl⟩,up z7⟩
theorem C7{W:aY}(ok:W.Ok)(b:Bool):Sw b 64025 5 (aP W):=by
  have t0:=ok.t0;have t1:=ok.t1;have a0:=ok.a0;have a1:=ok.a1;have wl:=ok.len;have pl:=ok.pl
  have T2:∀d∈W.ties.map cf,Sw b 1000 3 d:=fun d hd=>by
    obtain⟨t,ht,rfl⟩:=List.mem_map.mp hd
    have o:=ok.ties t ht
    have o0:=o.o0;have o1:=o.o1;have o2:=o.o2;have c0:=o.c0;have c1:=o.c1;have b1:=o.b1;have w0:=o.w0;have w1:=o.w1
    have hd:yj 2 (cf t)=true:=by
      simp only [cf,yj,oH,Bool.and_eq_true,decide_eq_true_eq,Nat.reducePow]
      exact⟨by decide,by lia,by lia,⟨by decide,by lia,by lia,trivial⟩,by lia,trivial⟩
    exact((rM hd).swF rfl b).mono (by simp [cf,wt,o6]) (by decide)
  have T3:Sw b 16005 4 (.tuple (W.ties.map cf)):=Sw.tup (n:=1000) (dep:=3) (m:=16) T2 (by simpa using wl)
  have P1:Sw b 16005 4 (.tuple (W.pat.map .int)):=(Sw.ints (m:=12) (fun r hr=>by have:=ok.pat r hr;lia) (by lia)).mono (by decide) (by decide)
  have i1:Sw b 16005 4 (.int W.things):=(Sw.int (by lia)).mono (by decide) (by decide)
  have i2:Sw b 16005 4 (.int W.asks):=(Sw.int (by lia)).mono (by decide) (by decide)
  exact Sw.tup (n:=16005) (dep:=4) (m:=4) (fun d hd=>by
    simp only [List.mem_cons,List.not_mem_nil,or_false] at hd
    rcases hd with rfl | rfl | rfl | rfl
    · exact i1
    · exact T3
    · exact P1
    · exact i2) (by simp)
theorem BD:∀d∈wQ,Ff d:=fun d h=>by
  unfold wQ at h
  simp only [List.mem_cons,List.not_mem_nil,or_false] at h
  rcases h with rfl | rfl | rfl | rfl | rfl | rfl | rfl | rfl | rfl | rfl | rfl | rfl | rfl | rfl | rfl | rfl | rfl | rfl | rfl | rfl | rfl | rfl | rfl | rfl | rfl | rfl | rfl
  all_goals (intro a b e;first | (cases e;done) | (cases e;exact⟨fun ds q=>by first | (cases q;done) | (cases q;decide),fun ds q=>by first | (cases q;done) | (cases q;decide)⟩))
theorem zT{W:aY}(ok:W.Ok){as bs:List Int}{n:Int}(hn:0≤n)(la:as.length≤16)(lb:bs.length≤12):
    ∃d,iQ [.d (.int n),.d (aP W),.d (eU as bs)]=some (.d d,[.d (.int n),.d (aP W),.d (eU as bs)])∧Ff d:=by
  have g0:=Fo (W:=W)
  have g1':=Fq (W:=W)
  have wl:=ok.len;have t0:=ok.t0;have t1:=ok.t1
  have ql:(((W.ties.map cf).length:Nat):Int)=(W.ties.length:Int):=by simp
  have f5:∀e:En,bI e (.d (.int n)) (.d (.int 5))=some (.d (.int (n / 5))):=fun e=>cn (by decide) (gW (by decide) (by decide))
  have gm5:∀e:En,aR e (.d (.int n)) (.d (.int 5))=some (.d (.int (n % 5))):=fun e=>aC (by decide)
  have w0:=rG (n:=n) (k:=5) (by decide);have w1:=rH (n:=n) (k:=5) (by decide)
  generalize n % 5=w at*
  have gm6:∀e:En,aR e (.d (.int (n / 5))) (.d (.int 6))=some (.d (.int (n / 5 % 6))):=fun e=>aC (by decide)
  have q0:=rG (n:=n / 5) (k:=6) (by decide);have q1:=rH (n:=n / 5) (k:=6) (by decide)
  obtain⟨r1,tr1,lr1⟩:=x4 (rs:=as) (n:=n / 5) (many:=(W.ties.length:Int)) (by lia) la (by lia) (by lia)
  obtain⟨r2,tr2,lr2⟩:=x4 (rs:=bs) (n:=n / 5) (many:=W.things) (by lia) (by lia) t0 (by lia)
  obtain⟨o,ho,to⟩:=E8 (n / 5)
  generalize n / 5 % 6=q at*
  have lA:Ln (.tuple (as.map .int)):=fun ds e=>by cases e;simp;lia
  have lB:Ln (.tuple (bs.map .int)):=fun ds e=>by cases e;simp;lia
  have l0:Ln (.tuple []):=fun ds e=>by cases e;decide
  unfold eU
  generalize as.map PyData.int=AA at*
  generalize bs.map PyData.int=BB at*
  obtain⟨x,hx,ax⟩:=iu (xs:=[PyData.tuple [.tuple BB,.tuple AA],.tuple [.tuple AA],.tuple [.tuple AA,.tuple BB,.tuple []],.list [.tuple AA,.tuple BB],.tuple [.tuple AA,.tuple []],.tuple [.tuple [],.tuple BB]]) (i:=q) q0 q1
  have lx:Ff x:=by
    simp only [List.mem_cons,List.not_mem_nil,or_false] at hx
    rcases hx with rfl | rfl | rfl | rfl | rfl | rfl
    · intro a b e;cases e;exact⟨lB,lA⟩
    · intro a b e;cases e
    · intro a b e;cases e
    · intro a b e;cases e
    · intro a b e;cases e;exact⟨lA,l0⟩
    · intro a b e;cases e;exact⟨l0,lB⟩
  generalize W.ties.map cf=TT at*
  rcases(by lia:w < 2∨w=2∨w=3∨w=4) with h | rfl | rfl | rfl
  · refine⟨.tuple [r1,.tuple BB],?_,fun a b e=>by cases e;exact⟨lr1,lB⟩⟩
    simp? [iQ,mi,gm5,h,f5,g1',ql,tr1]
  · refine⟨.tuple [.tuple AA,r2],?_,fun a b e=>by cases e;exact⟨lA,lr2⟩⟩
    simp? [iQ,mi,gm5,f5,g0,tr2,bc]
  · refine⟨x,?_,lx⟩
    simp? [iQ,mi,gm5,f5,gm6,ax,bc]
  · refine⟨o,?_,BD o ho⟩
    simp? [iQ,mi,gm5,f5,to,bc]
abbrev iP(ns ds:List Int)(v2 v3 v4 v5 v6 v7:Option Sv):En:=[some (.d (.list (ns.map .int))),some (.l (ds.map .int)),v2,v3,v4,v5,v6,v7]
inductive LI (ns:List Int):En→Prop
  | mk {ds v2 v3 v4 v5 v6 v7} (hd:jg ds):LI ns (iP ns ds v2 v3 v4 v5 v6 v7)
inductive LJ (ns:List Int) (v2 v3 v4 v5:Option Sv):En→Prop
  | mk {ds v6 v7} (hd:jg ds):LJ ns v2 v3 v4 v5 (iP ns ds v2 v3 v4 v5 v6 v7)
theorem Dv{ns ds as bs:List Int}{W:aY}(ok:W.Ok){v2 v4 v6 v7:Option Sv}(hd:jg ds)(la:as.length≤16)(lb:bs.length≤12):∃e2,LJ ns v2 (some (.d (aP W))) v4 (some (.d (eU as bs))) e2∧∀Wl,c7 Wl GH (ai 6) Fm (iP ns ds v2 (some (.d (aP W))) v4 (some (.d (eU as bs))) v6 v7)=some (.nx e2):=by
  obtain⟨e2,h1,hI⟩:=dO (own:=[]) (g:=ai 6) (f:=Fm) (fun _=>LJ ns v2 (some (.d (aP W))) v4 (some (.d (eU as bs)))) (aT 0 6) 0 (iP ns ds v2 (some (.d (aP W))) v4 (some (.d (eU as bs))) v6 v7) (fun i x e hx hI=>by
    obtain⟨hd⟩:=hI
    rename_i ds v6 v7
    obtain⟨rfl,hi⟩:=bJ hx
    generalize (0+(i:Int))=j at*
    obtain⟨n,d1,t1,a1,b1,hd1⟩:=jl hd
    obtain⟨d,tb,hln⟩:=zT ok (as:=as) (bs:=bs) a1 la lb
    have p1:=ny ok d
    have p2:=x8 ok hln
    have s1:=CW (CN W d) (CN W d)
    rw [beq_self_eq_true] at s1
    refine⟨iP ns ds v2 (some (.d (aP W))) v4 (some (.d (eU as bs))) (some (.d (.int j))) v7,iP ns d1 v2 (some (.d (aP W))) v4 (some (.d (eU as bs))) (some (.d (.int j))) (some (.d d)),rfl,?_,be,.mk hd1⟩
    generalize CN W d=bb at*
    generalize eU as bs=SS at*
    generalize aP W=WW at*
    simp? [Fm,t1,tb,p1,p2,s1]) (.mk hd)
  refine⟨e2,hI,fun Wl=>?_⟩
  rw [dc (items:=aT 0 6) (e1:=iP ns ds v2 (some (.d (aP W))) v4 (some (.d (eU as bs))) v6 v7) rfl]
  exact h1
theorem wC{ns ds:List Int}{j:Int}{v3 v4 v5 v6 v7:Option Sv}(hd:jg ds):∃e2,Du (iP ns ds (some (.d (.int j))) v3 v4 v5 v6 v7)=some (.nx e2)∧LI ns e2:=by
  obtain⟨W,d1,tw,hd1,ok, -, -⟩:=E_ ds 12 16 hd (by decide) (by decide) (by decide) (by decide)
  obtain⟨as,bs,R,d2,t2,hd2,hR⟩:=CT ok hd1
  have sW:=C7 ok true
  have gr:=sW.repr (by decide) (by decide)
  have ge:=fun e=>wj (e:=e) sW.so
  have wl:=ok.len;have rl:=hR.len;have al:=hR.alen;have tl:=hR.tlen ok
  have p1:=ny ok (eU as bs)
  rw [xH ok hR] at p1
  have p2:=ny ok (eU [] [])
  rw [xH ok (io.first ok)] at p2
  rw [show eU [] []=.tuple [.tuple [],.tuple []] from rfl] at p2
  obtain⟨e2,hI,h6⟩:=Dv (ns:=ns) (as:=as) (bs:=bs) ok (v2:=some (.d (.int j))) (v4:=some (.d (.str (aP W).shown))) (v6:=v6) (v7:=v7) hd2 (by lia) tl
  have gi:∀e:En,mC e (.d (.bool true)) (.d (.bool true))=some (.d (.bool false)):=fun e=>rfl
  obtain⟨hd3⟩:=hI
  rename_i d3 w6 w7
  refine⟨iP ns d3 (some (.d (.int j))) (some (.d (aP W))) (some (.d (.str (aP W).shown))) (some (.d (eU as bs))) w6 w7,?_,.mk hd3⟩
  generalize (aP W).shown=SH at*
  generalize eU as bs=SS at*
  unfold Du
  refine(cA (e1:=iP ns d1 (some (.d (.int j))) (some (.d (aP W))) v4 v5 v6 v7) ?_).trans ?_
  · simp? [tw]
  refine(cA (e1:=iP ns d1 (some (.d (.int j))) (some (.d (aP W))) (some (.d (.str SH))) v5 v6 v7) ?_).trans ?_
  · generalize aP W=WW at*
    simp? [gr]
  refine(cA (e1:=iP ns d2 (some (.d (.int j))) (some (.d (aP W))) (some (.d (.str SH))) (some (.d SS)) v6 v7) ?_).trans ?_
  · generalize aP W=WW at*
    simp? [t2]
  refine(cA (e1:=iP ns d2 (some (.d (.int j))) (some (.d (aP W))) (some (.d (.str SH))) (some (.d SS)) v6 v7) ?_).trans ?_
  · generalize aP W=WW at*
    simp? [p1,p2,gi]
  refine(cA (h6 _)).trans ?_
  generalize aP W=WW at*
  simp? [gr,ge]
theorem wB(ns:List Int)(hl:ns.length≤63):∃as',mP [.d (.list (ns.map .int))]=some (.d (.bool true),as'):=by
  obtain⟨ds,td,hd⟩:=zU ns hl
  obtain⟨e2,h1,hI⟩:=dO (own:=[]) (g:=ai 2) (f:=Du) (fun _=>LI ns) (aT 0 4) 0 (iP ns ds none none none none none none) (fun i x e hx hI=>by
    obtain⟨hd⟩:=hI
    rename_i ds v2 v3 v4 v5 v6 v7
    obtain⟨rfl, -⟩:=bJ hx
    obtain⟨e2,k1,k2⟩:=wC (ns:=ns) (j:=0+(i:Int)) (v3:=v3) (v4:=v4) (v5:=v5) (v6:=v6) (v7:=v7) hd
    exact⟨_,e2,rfl,k1,be,k2⟩) (.mk hd)
  obtain⟨hd2⟩:=hI
  rename_i ds2 v2 v3 v4 v5 v6 v7
  have hfor:∀Wl,c7 Wl GI (ai 2) Du (iP ns ds none none none none none none)=some (.nx (iP ns ds2 v2 v3 v4 v5 v6 v7)):=fun Wl=>by
    rw [dc (items:=aT 0 4) (e1:=iP ns ds none none none none none none) rfl]
    exact h1
  simp? [mP,Ao,td,hfor]
def kE(P:Params)(k:Str)(t:Tok)(v:Value):DictEntry:=⟨PyData.keyHash P k,.str k t,v⟩
def kF(n:Str)(s:Stmt)(doc pm:Value)(c:Addr):Obj:=⟨.type "function",none,.func (W.fnOf n n (dM s) (cJ s) (aj s) .none .none doc pm none (.ref c) .none),#[]⟩
def kI(n:Int):Value:=.int n 0
def kC(n:Str)(a:Nat)(l:List Value)(z:Nat):Obj:=⟨.type "code",none,.fields (Value.str n a::Value.str n (a+1)::Value.str "/claim/cut.py" (a+2)::l++[Value.str "/claim/cut.py" z]).toArray,#[]⟩
def Ax:Value:=.str "askedpairs.forms" 187
def Ay:Value:=.str "askedpairs.stands" 223
def gh:Value:=.str "law_askedpairs_k03_stands_of_anything" 251
def kK(P:Params):W.Frag:=[(3,⟨.type "dict",none,.dict (List.toArray [kE P "__name__" 165 (.str "law_askedpairs_k03_stands_of_anything" 251),kE P "__doc__" 166 (.none),kE P "__package__" 167 (.none),kE P "__loader__" 168 (.builtin "__main__.__loader__#opaque"),kE P "__spec__" 169 (.none),kE P "__annotations__" 170 (.ref 6),kE P "__builtins__" 171 (.ref 4),kE P "__file__" 173 (.str "/claim/cut.py" 172),kE P "__cached__" 174 (.none),kE P "is_number" 195 (.ref 21),kE P "is_number_within" 204 (.ref 28),kE P "is_row_of" 212 (.ref 35),kE P "is_rising_row" 222 (.ref 42),kE P "things_of" 232 (.ref 49),kE P "many_asks" 238 (.ref 54),kE P "keeps_bounds" 244 (.ref 59),kE P "is_stand" 250 (.ref 64),kE P "_law_mixed" 261 (.ref 71),kE P "_law_draws" 272 (.ref 78),kE P "_law_next" 279 (.ref 85),kE P "_law_gcd" 287 (.ref 92),kE P "_law_low" 296 (.ref 99),kE P "_law_says" 304 (.ref 106),kE P "_law_chance" 313 (.ref 113),kE P "_law_worth" 321 (.ref 120),kE P "_law_ties" 340 (.ref 127),kE P "_law_web" 356 (.ref 134),kE P "_law_asks_of" 362 (.ref 139),kE P "_law_may" 374 (.ref 146),kE P "_law_behind" 387 (.ref 153),kE P "_law_askable" 393 (.ref 158),kE P "_law_odd" 401 (.ref 165),kE P "_law_is_rising" 410 (.ref 172),kE P "_law_is_stand" 416 (.ref 177),kE P "_law_come" 428 (.ref 184),kE P "_law_bent_row" 440 (.ref 191),kE P "_law_bent" 452 (.ref 198),kE P "law" 466 (.ref 205)]) 38,#[]⟩),
  (21,kF "is_number" dC (.none) Ax 20),
  (20,kC "is_number" 189 [kI 2,kI 1,kI 0,kI 0,kI 3,.ref 15,.bool true,kI 181,.ref 16,.none,.ref 17,.ref 18,.ref 19,kI 193,kI 2] 194),
  (28,kF "is_number_within" bj (.none) Ax 27),
  (27,kC "is_number_within" 196 [kI 4,kI 3,kI 0,kI 0,kI 3,.ref 22,.bool true,kI 181,.ref 23,.none,.ref 24,.ref 25,.ref 26,kI 202,kI 4] 203),
  (35,kF "is_row_of" dD (.none) Ax 34),
  (34,kC "is_row_of" 205 [kI 6,kI 2,kI 0,kI 0,kI 3,.ref 29,.bool true,kI 181,.ref 30,.none,.ref 31,.ref 32,.ref 33,kI 210,kI 6] 211),
  (42,kF "is_rising_row" bO (.none) Ax 41),
  (41,kC "is_rising_row" 213 [kI 8,kI 2,kI 0,kI 0,kI 3,.ref 36,.bool true,kI 181,.ref 37,.none,.ref 38,.ref 39,.ref 40,kI 220,kI 8] 221),
  (49,kF "things_of" dF (.none) Ay 48),
  (48,kC "things_of" 225 [kI 18,kI 2,kI 0,kI 0,kI 3,.ref 43,.bool true,kI 181,.ref 44,.none,.ref 45,.ref 46,.ref 47,kI 230,kI 18] 231),
  (54,kF "many_asks" bZ (.none) Ay 53),
  (53,kC "many_asks" 233 [kI 20,kI 3,kI 0,kI 0,kI 3,.ref 50,.bool true,kI 181,.ref 51,.none,.none,.none,.ref 52,kI 236,kI 20] 237),
  (59,kF "keeps_bounds" bK (.none) Ay 58),
  (58,kC "keeps_bounds" 239 [kI 22,kI 2,kI 0,kI 0,kI 3,.ref 55,.bool true,kI 181,.ref 56,.none,.none,.none,.ref 57,kI 242,kI 22] 243),
  (64,kF "is_stand" dk (.none) Ay 63),
  (63,kC "is_stand" 245 [kI 26,kI 2,kI 0,kI 0,kI 3,.ref 60,.bool true,kI 181,.ref 61,.none,.none,.none,.ref 62,kI 248,kI 26] 249),
  (71,kF "_law_mixed" jb (.none) gh 70),
  (70,kC "_law_mixed" 253 [kI 36,kI 2,kI 0,kI 0,kI 3,.ref 65,.bool true,kI 181,.ref 66,.none,.ref 67,.ref 68,.ref 69,kI 259,kI 36] 260),
  (78,kF "_law_draws" ja (.none) gh 77),
  (77,kC "_law_draws" 262 [kI 39,kI 1,kI 0,kI 0,kI 3,.ref 72,.bool true,kI 181,.ref 73,.none,.ref 74,.ref 75,.ref 76,kI 270,kI 39] 271),
  (85,kF "_law_next" ia (.none) gh 84),
  (84,kC "_law_next" 273 [kI 52,kI 1,kI 0,kI 0,kI 3,.ref 79,.bool true,kI 181,.ref 80,.none,.ref 81,.ref 82,.ref 83,kI 277,kI 52] 278),
  (92,kF "_law_gcd" oM (.none) gh 91),
  (91,kC "_law_gcd" 280 [kI 56,kI 2,kI 0,kI 0,kI 3,.ref 86,.bool true,kI 181,.ref 87,.none,.ref 88,.ref 89,.ref 90,kI 285,kI 56] 286),
  (99,kF "_law_low" oN (.none) gh 98),
  (98,kC "_law_low" 288 [kI 60,kI 2,kI 0,kI 0,kI 3,.ref 93,.bool true,kI 181,.ref 94,.none,.ref 95,.ref 96,.ref 97,kI 294,kI 60] 295),
  (106,kF "_law_says" kL (.none) gh 105),
  (105,kC "_law_says" 297 [kI 63,kI 2,kI 0,kI 0,kI 3,.ref 100,.bool true,kI 181,.ref 101,.none,.ref 102,.ref 103,.ref 104,kI 302,kI 63] 303),
  (113,kF "_law_chance" gH (.none) gh 112),
  (112,kC "_law_chance" 305 [kI 67,kI 2,kI 0,kI 0,kI 3,.ref 107,.bool true,kI 181,.ref 108,.none,.ref 109,.ref 110,.ref 111,kI 311,kI 67] 312),
  (120,kF "_law_worth" jc (.none) gh 119),
  (119,kC "_law_worth" 314 [kI 77,kI 2,kI 0,kI 0,kI 3,.ref 114,.bool true,kI 181,.ref 115,.none,.ref 116,.ref 117,.ref 118,kI 319,kI 77] 320),
  (127,kF "_law_ties" kM (.none) gh 126),
  (126,kC "_law_ties" 322 [kI 79,kI 3,kI 0,kI 0,kI 3,.ref 121,.bool true,kI 181,.ref 122,.none,.ref 123,.ref 124,.ref 125,kI 338,kI 79] 339),
  (134,kF "_law_web" oQ (.none) gh 133),
  (133,kC "_law_web" 341 [kI 94,kI 3,kI 0,kI 0,kI 3,.ref 128,.bool true,kI 181,.ref 129,.none,.ref 130,.ref 131,.ref 132,kI 354,kI 94] 355),
  (139,kF "_law_asks_of" ek (.none) gh 138),
  (138,kC "_law_asks_of" 357 [kI 104,kI 3,kI 0,kI 0,kI 3,.ref 135,.bool true,kI 181,.ref 136,.none,.none,.none,.ref 137,kI 360,kI 104] 361),
  (146,kF "_law_may" oO (.none) gh 145),
  (145,kC "_law_may" 363 [kI 106,kI 3,kI 0,kI 0,kI 3,.ref 140,.bool true,kI 181,.ref 141,.none,.ref 142,.ref 143,.ref 144,kI 372,kI 106] 373),
  (153,kF "_law_behind" gG (.none) gh 152),
  (152,kC "_law_behind" 375 [kI 114,kI 4,kI 0,kI 0,kI 3,.ref 147,.bool true,kI 181,.ref 148,.none,.ref 149,.ref 150,.ref 151,kI 385,kI 114] 386),
  (158,kF "_law_askable" ej (.none) gh 157),
  (157,kC "_law_askable" 388 [kI 120,kI 2,kI 0,kI 0,kI 3,.ref 154,.bool true,kI 181,.ref 155,.none,.none,.none,.ref 156,kI 391,kI 120] 392),
  (165,kF "_law_odd" oP (.none) gh 164),
  (164,kC "_law_odd" 394 [kI 122,kI 1,kI 0,kI 0,kI 3,.ref 159,.bool true,kI 181,.ref 160,.none,.ref 161,.ref 162,.ref 163,kI 399,kI 122] 400),
  (172,kF "_law_is_rising" dB (.none) gh 171),
  (171,kC "_law_is_rising" 402 [kI 126,kI 2,kI 0,kI 0,kI 3,.ref 166,.bool true,kI 181,.ref 167,.none,.ref 168,.ref 169,.ref 170,kI 408,kI 126] 409),
  (177,kF "_law_is_stand" dj (.none) gh 176),
  (176,kC "_law_is_stand" 411 [kI 133,kI 2,kI 0,kI 0,kI 3,.ref 173,.bool true,kI 181,.ref 174,.none,.none,.none,.ref 175,kI 414,kI 133] 415),
  (184,kF "_law_come" kJ (.none) gh 183),
  (183,kC "_law_come" 417 [kI 149,kI 2,kI 0,kI 0,kI 3,.ref 178,.bool true,kI 181,.ref 179,.none,.ref 180,.ref 181,.ref 182,kI 426,kI 149] 427),
  (191,kF "_law_bent_row" el (.none) gh 190),
  (190,kC "_law_bent_row" 429 [kI 157,kI 3,kI 0,kI 0,kI 3,.ref 185,.bool true,kI 181,.ref 186,.none,.ref 187,.ref 188,.ref 189,kI 438,kI 157] 439),
  (198,kF "_law_bent" kG (.none) gh 197),
  (197,kC "_law_bent" 441 [kI 174,kI 3,kI 0,kI 0,kI 3,.ref 192,.bool true,kI 181,.ref 193,.none,.ref 194,.ref 195,.ref 196,kI 450,kI 174] 451),
  (205,kF "law" ly (.none) gh 204),
  (204,kC "law" 453 [kI 184,kI 1,kI 0,kI 0,kI 3,.ref 199,.bool true,kI 181,.ref 200,.none,.ref 201,.ref 202,.ref 203,kI 464,kI 184] 465)]
def kA:List Addr:=[3,21,20,28,27,35,34,42,41,49,48,54,53,59,58,64,63,71,70,78,77,85,84,92,91,99,98,106,105,113,112,120,119,127,126,134,133,139,138,146,145,153,152,158,157,165,164,172,171,177,176,184,183,191,190,198,197,205,204]
def kq:Program:={PySem.Challenge.pw_askedpairs_k03_stands_of_anything with main:={PySem.Challenge.pw_askedpairs_k03_stands_of_anything.main with body:=[top 1,top 2,top 3,top 4,top 6,top 7,top 8,top 9,top 11,top 12,top 13,top 14,top 15,top 16,top 17,top 18,top 19,top 20,top 21,top 22,top 23,top 24,top 25,top 26,top 27,top 28,top 29,top 30,top 31]}}
def kH:W.Hook:=W.kHook kK kA (fun _=>by kernel_rfl)
theorem left:W.LeftO PySem.Challenge.pw_askedpairs_k03_stands_of_anything kq [] (fun s=>W.xlAt kq [] s&&W.recOk (W.RowW.records (W.OpenRow.toRowW (W.OpenLaw.row PySem.Challenge.rw_askedpairs_k03_stands_of_anything))) s) (W.Hook.obs kH) (W.Hook.val kH) 1980:=fun w=>by kernel_rfl
theorem DZ{P:List Value→Prop}(h:∀a0,P [a0]):∀us:List Value,us.length=1→P us:=fun us e=>match us,e with | [a0],_=>h a0
theorem r_{P:List Value→Prop}(h:∀a0 a1,P [a0,a1]):∀us:List Value,us.length=2→P us:=fun us e=>match us,e with | [a0,a1],_=>h a0 a1
theorem AC{P:List Value→Prop}(h:∀a0 a1 a2,P [a0,a1,a2]):∀us:List Value,us.length=3→P us:=fun us e=>match us,e with | [a0,a1,a2],_=>h a0 a1 a2
theorem G4{P:List Value→Prop}(h:∀a0 a1 a2 a3,P [a0,a1,a2,a3]):∀us:List Value,us.length=4→P us:=fun us e=>match us,e with | [a0,a1,a2,a3],_=>h a0 a1 a2 a3
abbrev hQ(w:World)(n:Str)(s:Stmt)(a c:Addr)(d p:Value):Prop:=(W.nsIn (kK w.params) mainGlobals n,List.lookup a (kK w.params),W.codeIn (kK w.params) (.ref c) n,W.keepIn (kK w.params) (.ref a))=(some (some (.ref a)),some (kF n s d p c),true,true)
theorem hm{w:World}{h:Heap}{mg:Str→Option Value}{n:Str}{s:Stmt}{a c:Addr}{d p:Value}{ps:List Str}(X:(kK w.params).In h)(G:h.Ns mainGlobals mg)
    (e:hQ w n s a c d p)
    (b:∀(kV doc pm:Value) (an:Option Addr) (cdv ct:Value) (us:List Value),us.length=ps.length→bindArgs (W.fnOf n n (dM s) (cJ s) (aj s) .none kV doc pm an cdv ct) ⟨us,[]⟩=pure (ps.zip us)):
    bH (kK w.params) mg n s a (W.fnOf n n (dM s) (cJ s) (aj s) .none .none d p none (.ref c) .none) ps:=Bd X G (congrArg (·.1) e) (congrArg (·.2.1) e) (congrArg (·.2.2.1) e) (congrArg (·.2.2.2) e) b
theorem pH(w:World):hQ w "is_number" dC 21 20 (.none) Ax:=by kernel_rfl
theorem jh(w:World):hQ w "is_number_within" bj 28 27 (.none) Ax:=by kernel_rfl
theorem pI(w:World):hQ w "is_row_of" dD 35 34 (.none) Ax:=by kernel_rfl
theorem km(w:World):hQ w "is_rising_row" bO 42 41 (.none) Ax:=by kernel_rfl
theorem pK(w:World):hQ w "things_of" dF 49 48 (.none) Ay:=by kernel_rfl
theorem pJ(w:World):hQ w "many_asks" bZ 54 53 (.none) Ay:=by kernel_rfl
theorem lO(w:World):hQ w "keeps_bounds" bK 59 58 (.none) Ay:=by kernel_rfl
theorem qF(w:World):hQ w "is_stand" dk 64 63 (.none) Ay:=by kernel_rfl
theorem wy(w:World):hQ w "_law_mixed" jb 71 70 (.none) gh:=by kernel_rfl
theorem wx(w:World):hQ w "_law_draws" ja 78 77 (.none) gh:=by kernel_rfl
theorem yJ(w:World):hQ w "_law_next" ia 85 84 (.none) gh:=by kernel_rfl
theorem Bo(w:World):hQ w "_law_gcd" oM 92 91 (.none) gh:=by kernel_rfl
theorem Bp(w:World):hQ w "_law_low" oN 99 98 (.none) gh:=by kernel_rfl
theorem yK(w:World):hQ w "_law_says" kL 106 105 (.none) gh:=by kernel_rfl
theorem uK(w:World):hQ w "_law_chance" gH 113 112 (.none) gh:=by kernel_rfl
theorem wz(w:World):hQ w "_law_worth" jc 120 119 (.none) gh:=by kernel_rfl
theorem yL(w:World):hQ w "_law_ties" kM 127 126 (.none) gh:=by kernel_rfl
theorem Bs(w:World):hQ w "_law_web" oQ 134 133 (.none) gh:=by kernel_rfl
theorem r9(w:World):hQ w "_law_asks_of" ek 139 138 (.none) gh:=by kernel_rfl
theorem Bq(w:World):hQ w "_law_may" oO 146 145 (.none) gh:=by kernel_rfl
theorem uJ(w:World):hQ w "_law_behind" gG 153 152 (.none) gh:=by kernel_rfl
theorem r8(w:World):hQ w "_law_askable" ej 158 157 (.none) gh:=by kernel_rfl
theorem Br(w:World):hQ w "_law_odd" oP 165 164 (.none) gh:=by kernel_rfl
theorem pG(w:World):hQ w "_law_is_rising" dB 172 171 (.none) gh:=by kernel_rfl
theorem qE(w:World):hQ w "_law_is_stand" dj 177 176 (.none) gh:=by kernel_rfl
theorem yI(w:World):hQ w "_law_come" kJ 184 183 (.none) gh:=by kernel_rfl
theorem qD(w:World):hQ w "_law_bent_row" el 191 190 (.none) gh:=by kernel_rfl
theorem yH(w:World):hQ w "_law_bent" kG 198 197 (.none) gh:=by kernel_rfl
theorem Bu(w:World):hQ w "law" ly 205 204 (.none) gh:=by kernel_rfl
theorem all_mk{l:W.OpenLaw}{w:World}{h:Heap}{mg:Str→Option Value}{fa:Addr}(X:(kK w.params).In h)(G:h.Ns mainGlobals mg)(hfa:mg "law"=some (.ref fa)):
    ∃fd:FuncData,(∀(s:Shared) (v:Value),BindsTo s fd ⟨[v],[]⟩ [("_law_script",v)])∧∀base:Heap,(kK w.params).In base→base.Ns mainGlobals mg→aU l.prog w (kK w.params) mg base cD 6 fa fd ["_law_script"] (cM (kK w.params) 1 mP):=by
  have e:=hfa.symm.trans (W.mg_of X G (show W.nsIn (kK w.params) mainGlobals "law"=some (some (.ref 205)) by kernel_rfl))
  cases e
  have T:jD mg:=⟨W.mg_none_of X G (show W.nsIn (kK w.params) mainGlobals "abs"=some none by kernel_rfl),W.mg_none_of X G (show W.nsIn (kK w.params) mainGlobals "len"=some none by kernel_rfl),W.mg_none_of X G (show W.nsIn (kK w.params) mainGlobals "min"=some none by kernel_rfl),W.mg_none_of X G (show W.nsIn (kK w.params) mainGlobals "max"=some none by kernel_rfl),W.mg_none_of X G (show W.nsIn (kK w.params) mainGlobals "range"=some none by kernel_rfl),W.mg_none_of X G (show W.nsIn (kK w.params) mainGlobals "repr"=some none by kernel_rfl),W.mg_none_of X G (show W.nsIn (kK w.params) mainGlobals "tuple"=some none by kernel_rfl),W.mg_none_of X G (show W.nsIn (kK w.params) mainGlobals "int"=some none by kernel_rfl),W.mg_none_of X G (show W.nsIn (kK w.params) mainGlobals "sorted"=some none by kernel_rfl),W.mg_none_of X G (show W.nsIn (kK w.params) mainGlobals "zip"=some none by kernel_rfl),W.mg_none_of X G (show W.nsIn (kK w.params) mainGlobals "isinstance"=some none by kernel_rfl),W.mg_none_of X G (show W.nsIn (kK w.params) mainGlobals "bool"=some none by kernel_rfl),W.mg_none_of X G (show W.nsIn (kK w.params) mainGlobals "set"=some none by kernel_rfl),W.mg_none_of X G (show W.nsIn (kK w.params) mainGlobals "all"=some none by kernel_rfl),W.mg_none_of X G (show W.nsIn (kK w.params) mainGlobals "list"=some none by kernel_rfl)⟩
  have h_is_number:bH (kK w.params) mg "is_number" dC 21 _ ["thing"]:=hm X G (pH w) fun _ _ _ _ _ _=>DZ fun _=>rfl
  have h_is_number_within:bH (kK w.params) mg "is_number_within" bj 28 _ ["thing","low","high"]:=hm X G (jh w) fun _ _ _ _ _ _=>AC fun _ _ _=>rfl
  have h_is_row_of:bH (kK w.params) mg "is_row_of" dD 35 _ ["thing","many"]:=hm X G (pI w) fun _ _ _ _ _ _=>r_ fun _ _=>rfl
  have h_is_rising_row:bH (kK w.params) mg "is_rising_row" bO 42 _ ["thing","many"]:=hm X G (km w) fun _ _ _ _ _ _=>r_ fun _ _=>rfl
  have h_things_of:bH (kK w.params) mg "things_of" dF 49 _ ["web","tie"]:=hm X G (pK w) fun _ _ _ _ _ _=>r_ fun _ _=>rfl
  have h_many_asks:bH (kK w.params) mg "many_asks" bZ 54 _ ["web","asked","thing"]:=hm X G (pJ w) fun _ _ _ _ _ _=>AC fun _ _ _=>rfl
  have h_keeps_bounds:bH (kK w.params) mg "keeps_bounds" bK 59 _ ["web","asked"]:=hm X G (lO w) fun _ _ _ _ _ _=>r_ fun _ _=>rfl
  have h_is_stand:bH (kK w.params) mg "is_stand" dk 64 _ ["web","thing"]:=hm X G (qF w) fun _ _ _ _ _ _=>r_ fun _ _=>rfl
  have hLmixed:bH (kK w.params) mg "_law_mixed" jb 71 _ ["_law_cell","_law_k"]:=hm X G (wy w) fun _ _ _ _ _ _=>r_ fun _ _=>rfl
  have hLdraws:bH (kK w.params) mg "_law_draws" ja 78 _ ["_law_script"]:=hm X G (wx w) fun _ _ _ _ _ _=>DZ fun _=>rfl
  have hLnext:bH (kK w.params) mg "_law_next" ia 85 _ ["_law_drawn"]:=hm X G (yJ w) fun _ _ _ _ _ _=>DZ fun _=>rfl
  have hLgcd:bH (kK w.params) mg "_law_gcd" oM 92 _ ["_law_one","_law_other"]:=hm X G (Bo w) fun _ _ _ _ _ _=>r_ fun _ _=>rfl
  have hLlow:bH (kK w.params) mg "_law_low" oN 99 _ ["_law_top","_law_bottom"]:=hm X G (Bp w) fun _ _ _ _ _ _=>r_ fun _ _=>rfl
  have hLsays:bH (kK w.params) mg "_law_says" kL 106 _ ["_law_found","_law_due"]:=hm X G (yK w) fun _ _ _ _ _ _=>r_ fun _ _=>rfl
  have hLchance:bH (kK w.params) mg "_law_chance" gH 113 _ ["_law_number","_law_kind"]:=hm X G (uK w) fun _ _ _ _ _ _=>r_ fun _ _=>rfl
  have hLworth:bH (kK w.params) mg "_law_worth" jc 120 _ ["_law_number","_law_kind"]:=hm X G (wz w) fun _ _ _ _ _ _=>r_ fun _ _=>rfl
  have hLties:bH (kK w.params) mg "_law_ties" kM 127 _ ["_law_drawn","_law_things","_law_many"]:=hm X G (yL w) fun _ _ _ _ _ _=>AC fun _ _ _=>rfl
  have hLweb:bH (kK w.params) mg "_law_web" oQ 134 _ ["_law_drawn","_law_most","_law_ties_here"]:=hm X G (Bs w) fun _ _ _ _ _ _=>AC fun _ _ _=>rfl
  have hLasks_of:bH (kK w.params) mg "_law_asks_of" ek 139 _ ["_law_web_here","_law_asked","_law_thing"]:=hm X G (r9 w) fun _ _ _ _ _ _=>AC fun _ _ _=>rfl
  have hLmay:bH (kK w.params) mg "_law_may" oO 146 _ ["_law_web_here","_law_stand","_law_tie"]:=hm X G (Bq w) fun _ _ _ _ _ _=>AC fun _ _ _=>rfl
  have hLbehind:bH (kK w.params) mg "_law_behind" gG 153 _ ["_law_web_here","_law_stand","_law_tie","_law_truth"]:=hm X G (uJ w) fun _ _ _ _ _ _=>G4 fun _ _ _ _=>rfl
  have hLaskable:bH (kK w.params) mg "_law_askable" ej 158 _ ["_law_web_here","_law_stand"]:=hm X G (r8 w) fun _ _ _ _ _ _=>r_ fun _ _=>rfl
  have hLodd:bH (kK w.params) mg "_law_odd" oP 165 _ ["_law_number"]:=hm X G (Br w) fun _ _ _ _ _ _=>DZ fun _=>rfl
  have hLis_rising:bH (kK w.params) mg "_law_is_rising" dB 172 _ ["_law_thing","_law_many"]:=hm X G (pG w) fun _ _ _ _ _ _=>r_ fun _ _=>rfl
  have hLis_stand:bH (kK w.params) mg "_law_is_stand" dj 177 _ ["_law_web_here","_law_thing"]:=hm X G (qE w) fun _ _ _ _ _ _=>r_ fun _ _=>rfl
  have hLcome:bH (kK w.params) mg "_law_come" kJ 184 _ ["_law_drawn","_law_web_here"]:=hm X G (yI w) fun _ _ _ _ _ _=>r_ fun _ _=>rfl
  have hLbent_row:bH (kK w.params) mg "_law_bent_row" el 191 _ ["_law_number","_law_row","_law_many"]:=hm X G (qD w) fun _ _ _ _ _ _=>AC fun _ _ _=>rfl
  have hLbent:bH (kK w.params) mg "_law_bent" kG 198 _ ["_law_number","_law_web_here","_law_stand"]:=hm X G (yH w) fun _ _ _ _ _ _=>AC fun _ _ _=>rfl
  have h_law:bH (kK w.params) mg "law" ly 205 _ ["_law_script"]:=hm X G (Bu w) fun _ _ _ _ _ _=>DZ fun _=>rfl
  refine⟨W.fnOf "law" "law" (dM ly) (cJ ly) (aj ly) .none .none (.none) gh none (.ref 204) .none,fun s v=>.of_eq rfl,fun base _ _=>?_⟩
  have G_is_number:=pQ (P:=l.prog) (w:=w) (base:=base) h_is_number T
  have G_is_number_within:=ji (P:=l.prog) (w:=w) (base:=base) h_is_number_within T h_is_number G_is_number
  have G_is_row_of:=pR (P:=l.prog) (w:=w) (base:=base) h_is_row_of T
  have G_is_rising_row:=kr (P:=l.prog) (w:=w) (base:=base) h_is_rising_row T h_is_number_within G_is_number_within
  have G_things_of:=pT (P:=l.prog) (w:=w) (base:=base) h_things_of T
  have G_many_asks:=pS (P:=l.prog) (w:=w) (base:=base) h_many_asks T h_things_of G_things_of
  have G_keeps_bounds:=lP (P:=l.prog) (w:=w) (base:=base) h_keeps_bounds T h_many_asks G_many_asks
  have G_is_stand:=qT (P:=l.prog) (w:=w) (base:=base) h_is_stand T h_is_row_of G_is_row_of h_is_rising_row G_is_rising_row h_keeps_bounds G_keeps_bounds h_many_asks G_many_asks
  have GLmixed:=wU (P:=l.prog) (w:=w) (base:=base) hLmixed T
  have GLdraws:=wR (P:=l.prog) (w:=w) (base:=base) hLdraws T hLmixed GLmixed
  have GLnext:=yW (P:=l.prog) (w:=w) (base:=base) hLnext T
  have GLgcd:=BE (P:=l.prog) (w:=w) (base:=base) hLgcd T
  have GLlow:=BF (P:=l.prog) (w:=w) (base:=base) hLlow T hLgcd GLgcd
  have GLsays:=yX (P:=l.prog) (w:=w) (base:=base) hLsays T
  have GLchance:=uQ (P:=l.prog) (w:=w) (base:=base) hLchance T hLlow GLlow
  have GLworth:=wV (P:=l.prog) (w:=w) (base:=base) hLworth T
  have GLties:=yY (P:=l.prog) (w:=w) (base:=base) hLties T hLnext GLnext hLchance GLchance hLworth GLworth
  have GLweb:=BI (P:=l.prog) (w:=w) (base:=base) hLweb T hLties GLties hLnext GLnext
  have GLasks_of:=sk (P:=l.prog) (w:=w) (base:=base) hLasks_of T
  have GLmay:=BG (P:=l.prog) (w:=w) (base:=base) hLmay T hLasks_of GLasks_of
  have GLbehind:=uP (P:=l.prog) (w:=w) (base:=base) hLbehind T
  have GLaskable:=sj (P:=l.prog) (w:=w) (base:=base) hLaskable T hLmay GLmay
  have GLodd:=BH (P:=l.prog) (w:=w) (base:=base) hLodd T
  have GLis_rising:=pP (P:=l.prog) (w:=w) (base:=base) hLis_rising T
  have GLis_stand:=qS (P:=l.prog) (w:=w) (base:=base) hLis_stand T hLis_rising GLis_rising
  have GLcome:=yV (P:=l.prog) (w:=w) (base:=base) hLcome T hLaskable GLaskable hLnext GLnext hLbehind GLbehind
  have GLbent_row:=qR (P:=l.prog) (w:=w) (base:=base) hLbent_row T
  have GLbent:=yU (P:=l.prog) (w:=w) (base:=base) hLbent T hLodd GLodd hLbent_row GLbent_row
  have G_law:=BJ (P:=l.prog) (w:=w) (base:=base) h_law T hLdraws GLdraws hLweb GLweb hLcome GLcome hLbent GLbent h_is_stand G_is_stand hLnext GLnext hLsays GLsays hLis_stand GLis_stand
  exact G_law
def EI(K:W.Frag):Sp:=fun vs H Q _=>∃(a:Addr) (ns:List Int),vs=[.ref a]∧cT K H a (ns.map V.int)∧ns.length≤63∧∀H',Q (.bl true) H'
theorem Bw{K:W.Frag}{vs:List V}{H:Hp}{Q:VK}{E:XK}(h:EI K vs H Q E):cM K 1 mP vs H Q E:=by
  obtain⟨a,ns,rfl,hS,hl,q⟩:=h
  obtain⟨as',hm⟩:=wB ns hl
  exact sJ hS hm q
theorem walk{l:W.OpenLaw}{q:Program}{loose:List Str}{XP:(Str→Option Value)→Heap→Prop}{YP:World→Heap→Prop}{d:DefRec}{K:Params→W.Frag}(hn:l.most=some 63)(hdf:d.params.defaults=[])
    (hY:∀(w:World) (h:Heap),YP w h→(K w.params).In h)
    (F:∀(w:World) (mg:Str→Option Value) (fa:Addr) (h:Heap),(K w.params).In h→h.Ns mainGlobals mg→mg d.name=some (.ref fa)→
      ∃fd:FuncData,(∀(s:Shared) (u:Value),BindsTo s fd ⟨[u],[]⟩ [("_law_script",u)])∧∀base:Heap,(K w.params).In base→base.Ns mainGlobals mg→aU l.prog w (K w.params) mg base cD 6 fa fd ["_law_script"] (cM (K w.params) 1 mP)):
    W.WalkO q loose XP YP l.row.toRowW d [] (fun f vs=>PySem.call f vs):=
  L2.walk_of (n:=63) (k:=6) (x:="_law_script") (CX:=fun _=>cD) (sp:=fun w=>cM (K w.params) 1 mP) hn (by decide) hdf ⟨rfl,by decide,by decide,rfl⟩ hY F (fun _ _ a ns hl _ hS=>Bw ⟨a,ns,rfl,hS,hl,fun _=>rfl⟩) fun _ _ _ _ _ z=>z
end V03
open PySem PySem.W PyProof.Rows
set_option maxRecDepth 100000 in
set_option maxHeartbeats 0 in
theorem PySem.Challenge.cw_askedpairs_k03_stands_of_anything_holds : PySem.Challenge.rw_askedpairs_k03_stands_of_anything.Holds := by
  w_on;o_law
  refine holds_open (q:=V03.kq) (loose:=[]) (Xt:=fun s=>xlAt V03.kq [] s&&recOk (RowW.records (OpenRow.toRowW (OpenLaw.row PySem.Challenge.rw_askedpairs_k03_stands_of_anything))) s) (XP:=XL V03.kq []) (Yf:=Hook.obs V03.kH) (Ya:=Hook.val V03.kH) (YP:=Hook.says V03.kH) (N:=1980) V03.left (Hook.of V03.kH) (Hook.keeps V03.kH) (fun s e=>xl_of s (Bool.and_eq_true_iff.mp e).1) XL.keeps (by rfl) (by rfl) (by rfl) (fun s e=>recFacts_of (Bool.and_eq_true_iff.mp e).2) (by rfl) (by assumption) (by decide+kernel) ⟨rfl,rfl,rfl,rfl,rfl,by decide+kernel⟩ ?hw ?hc
  case hw=>w_witness2
  case hc=>exact V03.walk (l:=PySem.Challenge.rw_askedpairs_k03_stands_of_anything) rfl rfl (fun w h Y=>kIn_of Y) (fun w mg fa h KX G hmg=>V03.all_mk KX G hmg)
