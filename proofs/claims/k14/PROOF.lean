import PyProof.Rows.All
import Wide.All
import OpenK.AllK
import Wide.FinOn
import Lean
import PyProof.EqAt
import PyProof.EqKinds
import PyProof.TupleCall
import PyProof.ReprRoads
import PyProof.IsInstance
import PyProof.IsInstanceH
import PyProof.FitsBits
import PyProof.CompFree
import PyProof.Rows.SumAny
import PyProof.Rows.SortShell
import PyProof.Rows.TupAdd
import PyProof.NeKinds
import PyProof.ConsumeWalk
import PyProof.ZipIter
import PyProof.TupleIter
import PyProof.LayNew
import PyProof.Draws
import PyProof.EnumFor
import PyProof.EnumMake
import PyProof.ListRange
import PyProof.CollectIter
import KE.KRevIter
import PyProof.ListMulRoad
import PyProof.TupleOps
import PyProof.TupleOfStr
import PyProof.WalksMore
import PyProof.FactsAll.range_iterator
import PyProof.IsRules
import PyProof.CompUse
import PyProof.P3In
import PyProof.EqLayable
import KE.KIsAll
import PyProof.Rows.FactsN_isinstance
import PyProof.CallStr
import PyProof.Rows.StrWeight2
import PyProof.Rows.FStr
import PyProof.StrLawsRepr
import PyProof.Rows.SetFrom
import KE.KIntText
import KE.KRevSl
import PyProof.Rows.SeqMore2
import PySem.Challenge.RW_askedpairs_k14_trees_in_other_webs
set_option Elab.async false
set_option linter.all false
set_option maxRecDepth 100000
namespace L2
open PySem PySem.Spec PyProof.Rows
theorem KU{α:Type _}{β:Type _}{o:Option α}{f:α→Option β}{b:β}(h:o.bind f=some b):∃a,o=some a∧f a=some b:=Option.bind_eq_some_iff.mp h
theorem KW{α:Type _}{β:Type _}{o:Option α}{f:α→β}{b:β}(h:o.map f=some b):∃a,o=some a∧f a=b:=Option.map_eq_some_iff.mp h
theorem KY{α:Type _}{l:List α}{i:Nat}{a:α}(h:l[i]?=some a):∃w:i<l.length,l[i]=a:=List.getElem?_eq_some_iff.mp h
theorem KZ{α:Type _}{a:α}{s t:List α}(h:a∈s++t):a∈s∨a∈t:=List.mem_append.mp h
theorem K0{α:Type _}{β:Type _}{b:β}{f:α→β}{l:List α}(h:b∈l.map f):∃a,a∈l∧f a=b:=List.mem_map.mp h
theorem K1{α:Type _}{a b:α}{l:List α}(h:a∈b::l):a=b∨a∈l:=List.mem_cons.mp h
theorem K2{α:Type _}{l:List α}{i:Nat}{a:α}(h:l[i]?=some a):a∈l:=List.mem_of_getElem? h
abbrev p8:=Sum Int Str
def Cz:p8→Value→Bool
  | .inl k,v=>Value.isInt k v
  | .inr x,v=>Value.isStrOf x v
def G4(w:World):p8→Int
  | .inl k=>hashInt k
  | .inr x=>hashStr w x
theorem bZ:∀{k:p8} {v:Value},Cz k v=true→(∃i t,k=Sum.inl i∧v=Value.int i t)∨(∃x t,k=Sum.inr x∧v=Value.str x t)
  | .inl i,v,h=>by
    obtain⟨t,e⟩:=Value.isInt_shape (k:=i) (v:=v) h
    exact .inl ⟨i,t,rfl,e⟩
  | .inr x,v,h=>by
    obtain⟨t,e⟩:=Value.isStrOf_shape (x:=x) (v:=v) h
    exact .inr ⟨x,t,rfl,e⟩
theorem Di(a b:Int):decide ((Sum.inl a:p8)=Sum.inl b)=(a==b):=by
  by_cases e:a=b
  · subst e;simp
  · have h:¬(Sum.inl a:p8)=Sum.inl b:=fun q=>e (Sum.inl.inj q)
    rw [decide_eq_false h]
    exact(beq_eq_false_iff_ne.mpr e).symm
theorem Dm(a b:Str):decide ((Sum.inr a:p8)=Sum.inr b)=decide (a=b):=by
  by_cases e:a=b
  · subst e;simp
  · have h:¬(Sum.inr a:p8)=Sum.inr b:=fun q=>e (Sum.inr.inj q)
    rw [decide_eq_false h,decide_eq_false e]
theorem Dj(a:Int)(b:Str):decide ((Sum.inl a:p8)=Sum.inr b)=false:=decide_eq_false (fun q=>nomatch q)
theorem Dl(a:Str)(b:Int):decide ((Sum.inr a:p8)=Sum.inl b)=false:=decide_eq_false (fun q=>nomatch q)
def vZ(prog:Program)(w:World):PySem.KeyKind prog w p8 where
  is:=Cz
  hash:=G4 w
  inj:=fun v a b ha hb=>by
    rcases bZ ha with ⟨i,t,rfl,rfl⟩ | ⟨x,t,rfl,rfl⟩
    · rcases bZ hb with ⟨j,u,rfl,e⟩ | ⟨y,u,rfl,e⟩
      · injection e with e1 _;rw [e1]
      · exact nomatch e
    · rcases bZ hb with ⟨j,u,rfl,e⟩ | ⟨y,u,rfl,e⟩
      · exact nomatch e
      · injection e with e1 _;rw [e1]
  byValue:=fun k v h=>by
    rcases bZ h with ⟨i,t,rfl,rfl⟩ | ⟨x,t,rfl,rfl⟩<;>rfl
  pyHash:=fun hv h=>by
    rcases bZ hv with ⟨i,t,rfl,rfl⟩ | ⟨x,t,rfl,rfl⟩
    · exact wpAny_pyHash_int h
    · exact wpAny_pyHash_str h
  eqBool:=fun hu hv h=>by
    rcases bZ hu with ⟨i,t,rfl,rfl⟩ | ⟨x,t,rfl,rfl⟩
    · rcases bZ hv with ⟨j,u,rfl,rfl⟩ | ⟨y,u,rfl,rfl⟩
      · rw [Di] at h;exact wpAny_eqBool_int h
      · rw [Dj] at h;exact SeqAt.EqAt.int_str i t y u _ _ _ _ h
    · rcases bZ hv with ⟨j,u,rfl,rfl⟩ | ⟨y,u,rfl,rfl⟩
      · rw [Dl] at h;exact SeqAt.EqAt.str_int x t j u _ _ _ _ h
      · rw [Dm] at h;exact wpAny_eqBool_str h
  «strs»:=fun k x t v h=>by
    rcases bZ h with ⟨i,u,rfl,e⟩ | ⟨y,u,rfl,e⟩
    · exact nomatch e
    · injection e with e1 _
      subst e1
      cases v<;>rfl
inductive V where
  | non | bl (b:Bool) | int (i:Int) | str (x:Str) | byt (b:Array UInt8) | flt (b:UInt64) | ref (a:Addr) | ty (n:String)
  deriving DecidableEq
def bD:V→Value→Prop
  | .non,u=>u=Value.none
  | .bl b,u=>u=Value.bool b
  | .int i,u=>∃t,u=Value.int i t
  | .str x,u=>∃t,u=Value.str x t
  | .byt b,u=>∃t,u=Value.bytes b t
  | .flt b,u=>∃t,u=Value.float b t
  | .ref a,u=>u=Value.ref a
  | .ty n,u=>u=Value.type n
abbrev aW:List V→List Value→Prop:=Paired bD
theorem aW.length{xs:List V}{us:List Value}(r:aW xs us):xs.length=us.length:=Paired.length r
theorem aW.get:∀{xs:List V} {us:List Value} {i:Nat} {x:V},aW xs us→xs[i]?=some x→∃u,us[i]?=some u∧bD x u
  | _,_,_,_,.nil,e=>by simp at e
  | _,_,0,_,.cons r _,e=>by simp at e;subst e;exact⟨_,rfl,r⟩
  | _,_,i+1,x,.cons _ t,e=>by
    obtain⟨u,h1,h2⟩:=aW.get (i:=i) (x:=x) t (by simpa using e)
    exact⟨u,by simpa using h1,h2⟩
theorem aW.set{x:V}{u:Value}(r:bD x u):∀{xs:List V} {us:List Value} (i:Nat),aW xs us→aW (xs.set i x) (us.set i u)
  | _,_,_,.nil=>.nil
  | _,_,0,.cons _ t=>.cons r t
  | _,_,i+1,.cons q t=>.cons q (aW.set r i t)
theorem aW.append:∀{xs ys:List V} {us ws:List Value},aW xs us→aW ys ws→aW (xs++ys) (us++ws)
  | _,_,_,_,.nil,s=>s
  | _,_,_,_,.cons r t,s=>.cons r (aW.append t s)
theorem aW.take:∀{xs:List V} {us:List Value} (n:Nat),aW xs us→aW (xs.take n) (us.take n)
  | _,_,0,_=>.nil
  | _,_,_+1,.nil=>.nil
  | _,_,n+1,.cons r t=>.cons r (aW.take n t)
theorem aW.drop:∀{xs:List V} {us:List Value} (n:Nat),aW xs us→aW (xs.drop n) (us.drop n)
  | _,_,0,r=>r
  | _,_,_+1,.nil=>.nil
  | _,_,n+1,.cons _ t=>aW.drop n t
def EU:Option V→Option Value→Prop
  | some v,some u=>bD v u
  | none,none=>True
  | _,_=>False
def KV{κ:Type}:List (κ × V)→List (κ × Value)→Prop:=Paired fun(p:κ × V) (q:κ × Value)=>p.1=q.1∧bD p.2 q.2
def kV:p8→V
  | .inl i=>.int i
  | .inr x=>.str x
inductive HO where
  /-- a list -/
  | lst (xs:List V)
  /-- a tuple (never changes) -/
  | tup (xs:List V)
  /-- a dict whose keys are ints and texts; one whose keys are tuples of ints and texts (the empty one is both) -/
  | dK (kvs:List (p8 × V)) | dT (kvs:List (List p8 × V))
  /-- a set of ints: its members, its size -/
  | set (S:Int→Bool) (n:Nat)
  /-- an instance of the class at C, its dict at dx, its attributes -/
  | ins (C dx:Addr) (fs:List (Str × V))
  /-- the dict of the instance at x -/
  | own (x:Addr)
  /-- the dict of an exception -/
  | xd (fs:List (Str × V))
  /-- a bound method, f of x -/
  | met (f x:Addr)
  /-- a range object lo, lo + 1, .. below hi -/
  | rng (lo hi:Int)
  /-- a thing that is known to the object (the script; a dict while a loop walks it): read, never written while it is so -/
  | frz (o:Obj) (u:HO)
  /-- a code object's table -/
  | tbl (ps:Array Value)
  /-- any other thing, by what is true of its one object (a def of one's own: SetO a S n := HO.ext fun h => ..) -/
  | ext (φ:Heap→Prop)
abbrev Hp:=Addr→Option HO
def be(H:Hp)(a:Addr)(o:HO):Hp:=fun b=>if b=a then some o else H b
theorem ay{H:Hp}{a:Addr}{o:HO}:be H a o a=some o:=by unfold be;rw [if_pos rfl]
theorem aG{H:Hp}{a b:Addr}{o:HO}(h:b≠a):be H a o b=H b:=by unfold be;rw [if_neg h]
theorem e_{H:Hp}{a b:Addr}{o:HO}(h:H a=some o)(h':H b=none):a≠b:=by
  intro e;subst e;rw [h] at h';cases h'
def oi(h:Heap)(a:Addr)(items:Array Value):Prop:=∃o,h.get? a=some o∧o.cls=.type "tuple"∧∃n,o.data=.seq items n∧o.dict=none
theorem oi.tup{h:Heap}{a:Addr}{items:Array Value}(x:oi h a items):IsTup h a items:=let ⟨o,ho,hc,n,hd,_⟩:=x;⟨o,ho,hc,n,hd⟩
theorem oi.new(h:Heap)(items:Array Value):oi (h.push {cls:=.type "tuple",data:=.seq items}) h.objs.size items:=⟨_,Heap.get?_push_size _ rfl,rfl,_,rfl,rfl⟩
section
variable(P:Program)(w:World)
def hV(H:Hp)(h:Heap)(a:Addr):HO→Prop
  | .lst xs=>xs.length≤sizeLine∧∃(its:List Value) (n:Nat),aW xs its∧h.get? a=some {cls:=.type "list",data:=.seq its.toArray n}
  | .tup xs=>xs.length≤sizeLine∧∃its:List Value,aW xs its∧oi h a its.toArray
  | .dK kvs=>kvs.length≤sizeLine∧(a==sysModules)=false∧∃vs,KV kvs vs∧h.DictOf (vZ P w) a vs
  | .dT kvs=>kvs.length≤sizeLine∧(a==sysModules)=false∧∃xs:List (List p8 × Addr × Value),
      Paired (fun(p:List p8 × V) (q:List p8 × Addr × Value)=>p.1=q.1∧H q.2.1=some (.tup (p.1.map kV))∧bD p.2 q.2.2) kvs xs∧
      ∃o es ep,h.get? a=some o∧o.ExactDict∧o.data=.dict es ep∧es.toList=xs.map (entryOfKey (tupleKind (vZ P w)))∧(xs.map (·.1)).Nodup
  | .set S n=>h.SetOf (intKind P w) a S n
  | .ins C dx fs=>H dx=some (.own a)∧fs.length≤1000∧dx≠a∧h.get? a=some (PySem.W.instObj C dx)∧
      ∃mA,h.Ns1 dx mA∧(∀f,EU (fs.lookup f) (mA f))∧PySem.Within mA (fs.map (·.1))
  | .own _=>∃o,h.get? a=some o
  | .xd fs=>∃mA,h.Ns1 a mA∧∀f,EU (fs.lookup f) (mA f)
  | .rng lo hi=>∃t u v,h.get? a=some {cls:=.type "range",data:=.fields #[.int lo t,.int hi u,.int 1 v]}
  | .frz o u=>h.get? a=some o∧hV H h a u
  | .tbl ps=>h.get? a=some {cls:=.none,data:=.fields ps}
  | .met f x=>h.get? a=some (PySem.W.methodObj (.ref f) (.ref x))
  | .ext φ=>φ h∧(∃o,h.get? a=some o)∧∀h1 h2:Heap,φ h1→(∀o,h1.get? a=some o→h2.get? a=some o)→φ h2
def oS(H:Hp)(h:Heap):Prop:=∀a o,H a=some o→hV P w H h a o
end
section
variable{P:Program}{w:World}{H H':Hp}{h h':Heap}{a:Addr}{o:HO}
theorem hV.lt(x:hV P w H h a o):a < h.objs.size:=by
  cases o with
  | lst xs=>obtain⟨_,_,_,_,e⟩:=x;exact Heap.lt_size e
  | tup xs=>obtain⟨_,_,_,p⟩:=x;exact p.tup.lt
  | dK kvs=>obtain⟨_,_,_,_,o,_,_,e,_⟩:=x;exact Heap.lt_size e
  | dT kvs=>obtain⟨_,_,_,_,o,_,_,e,_⟩:=x;exact Heap.lt_size e
  | set S n=>obtain⟨o,_,_,_,e,_⟩:=x;exact Heap.lt_size e
  | ins C dx fs=>obtain⟨_,_,_,e,_⟩:=x;exact Heap.lt_size e
  | own y=>obtain⟨_,e⟩:=x;exact Heap.lt_size e
  | xd fs=>obtain⟨_,⟨_,_,_,e,_⟩,_⟩:=x;exact Heap.lt_size e
  | rng lo hi=>obtain⟨_,_,_,e⟩:=x;exact Heap.lt_size e
  | frz ob u=>obtain⟨e,_⟩:=x;exact Heap.lt_size e
  | tbl ps=>exact Heap.lt_size (show h.get? a=some _ from x)
  | met f y=>exact Heap.lt_size (show h.get? a=some _ from x)
  | ext φ=>obtain⟨_,⟨_,e⟩,_⟩:=x;exact Heap.lt_size e
theorem Paired.mapP{α β:Type}{F G:α→β→Prop}:∀{l₁:List α} {l₂:List β},Paired F l₁ l₂→(∀a b,F a b→G a b)→Paired G l₁ l₂
  | _,_,.nil,_=>.nil
  | _,_,.cons r t,f=>.cons (f _ _ r) (Paired.mapP t f)
theorem hV.stay(x:hV P w H h a o)(k:∀b u,(b=a∨H b=some (.own a))→h.get? b=some u→h'.get? b=some u)
    (ho:∀b,H b=some (.own a)→H' b=some (.own a))(ht:∀b xs,H b=some (.tup xs)→H' b=some (.tup xs)):hV P w H' h' a o:=by
  induction o with
  | lst xs=>obtain⟨z,its,n,r,e⟩:=x;exact⟨z,its,n,r,k _ _ (.inl rfl) e⟩
  | tup xs=>obtain⟨z,its,r,ob,e,c⟩:=x;exact⟨z,its,r,ob,k _ _ (.inl rfl) e,c⟩
  | dK kvs=>obtain⟨z,y,vs,r,ob,es,ep,e,c⟩:=x;exact⟨z,y,vs,r,ob,es,ep,k _ _ (.inl rfl) e,c⟩
  | dT kvs=>
    obtain⟨z,y,xs,r,ob,es,ep,e,c⟩:=x
    exact⟨z,y,xs,Paired.mapP r fun p q z=>⟨z.1,ht _ _ z.2.1,z.2.2⟩,ob,es,ep,k _ _ (.inl rfl) e,c⟩
  | set S n=>obtain⟨ob,es,ep,t,e,c⟩:=x;exact⟨ob,es,ep,t,k _ _ (.inl rfl) e,c⟩
  | ins C dx fs=>
    obtain⟨d,z,ne,e,mA,⟨od,es,ep,e2,c⟩,r⟩:=x
    exact⟨ho _ d,z,ne,k _ _ (.inl rfl) e,mA,⟨od,es,ep,k _ _ (.inr d) e2,c⟩,r⟩
  | own y=>obtain⟨ob,e⟩:=x;exact⟨ob,k _ _ (.inl rfl) e⟩
  | xd fs=>obtain⟨mA,⟨od,es,ep,e,c⟩,r⟩:=x;exact⟨mA,⟨od,es,ep,k _ _ (.inl rfl) e,c⟩,r⟩
  | rng lo hi=>obtain⟨t,u,v,e⟩:=x;exact⟨t,u,v,k _ _ (.inl rfl) e⟩
  | frz ob u ih=>obtain⟨e,q⟩:=x;exact⟨k _ _ (.inl rfl) e,ih q⟩
  | tbl ps=>
    have e:h.get? a=some {cls:=.none,data:=.fields ps}:=x
    show h'.get? a=some {cls:=.none,data:=.fields ps}
    exact k a _ (.inl rfl) e
  | met f y=>
    have e:h.get? a=some (PySem.W.methodObj (.ref f) (.ref y)):=x
    show h'.get? a=some (PySem.W.methodObj (.ref f) (.ref y))
    exact k a _ (.inl rfl) e
  | ext φ=>obtain⟨p,⟨o,e⟩,st⟩:=x;exact⟨st _ _ p fun o q=>k _ _ (.inl rfl) q,⟨o,k _ _ (.inl rfl) e⟩,st⟩
theorem oS.lt(x:oS P w H h)(e:H a=some o):a < h.objs.size:=(x a o e).lt
theorem oS.fresh(x:oS P w H h)(e:h.objs.size≤a):H a=none:=by
  cases q:H a with
  | none=>rfl
  | some u=>exact absurd (Nat.lt_of_lt_of_le (x.lt q) e) (Nat.lt_irrefl _)
theorem oS.kept(x:oS P w H h)(k:∀b u,h.get? b=some u→h'.get? b=some u):oS P w H h':=fun a o e=>
  (x a o e).stay (fun b u _ q=>k b u q) (fun _ q=>q) fun _ _ q=>q
theorem oS.laid(x:oS P w H h)(k:∀b u,h.get? b=some u→h'.get? b=some u)(hp:h.objs.size≤a)(new:hV P w (be H a o) h' a o):oS P w (be H a o) h':=fun b u e=>by
  have hn:=x.fresh hp
  by_cases hb:b=a
  · subst hb;rw [ay] at e;cases e;exact new
  · rw [aG hb] at e
    exact(x b u e).stay (fun c v _ q=>k c v q) (fun c q=>by rw [aG (e_ q hn)];exact q) fun c xs q=>by rw [aG (e_ q hn)];exact q
end
def Rd(H:Hp)(a:Addr)(u:HO):Prop:=H a=some u∨∃o,H a=some (.frz o u)
theorem Rd.ok{P:Program}{w:World}{H:Hp}{h:Heap}{a:Addr}{u:HO}(r:Rd H a u)(x:oS P w H h):hV P w H h a u:=by
  rcases r with r | ⟨o,r⟩
  · exact x a u r
  · obtain⟨_,q⟩:=x a _ r
    exact q
def GA:Option HO→Prop
  | some (.lst _)=>True
  | some (.dK _)=>True
  | some (.dT _)=>True
  | some (.set _ _)=>True
  | some (.ins _ _ _)=>True
  | some (.ext _)=>True
  | _=>False
section
variable{P:Program}{w:World}{H:Hp}{h h':Heap}{x e:Addr}{o':HO}
theorem oS.write(ok:oS P w H h)(mu:GA (H x))(he:e=x∨H e=some (.own x))(k:∀b u,b≠e→h.get? b=some u→h'.get? b=some u)(heo:∃u,h'.get? e=some u)
    (new:hV P w (be H x o') h' x o'):oS P w (be H x o') h':=fun b u q=>by
  have nown:∀c y,H c=some (.own y)→c≠x:=fun c y r z=>by subst z;rw [r] at mu;exact mu
  have ntup:∀c xs,H c=some (.tup xs)→c≠x:=fun c xs r z=>by subst z;rw [r] at mu;exact mu
  by_cases hb:b=x
  · subst hb;rw [ay] at q;cases q;exact new
  · rw [aG hb] at q
    by_cases hbe:b=e
    · have q':H b=some (.own x):=by
        rcases he with z | z
        · exact absurd (hbe.trans z) hb
        · rw [hbe];exact z
      rw [q] at q';cases q'
      obtain⟨v,hv⟩:=heo
      exact⟨v,by rw [hbe];exact hv⟩
    · refine(ok b u q).stay (fun c v hc r=>k c v ?_ r) (fun c r=>by rw [aG (nown c b r)];exact r) fun c xs r=>by rw [aG (ntup c xs r)];exact r
      rcases hc with rfl | hc
      · exact hbe
      · rintro rfl
        rcases he with z | z
        · exact nown c b hc z
        · rw [hc] at z;cases z;exact hb rfl
end
structure Un (fs ex:List Addr) (H H':Hp) (h h':Heap):Prop where
  keep:∀b o,h.get? b=some o→H b=none→b∉fs→b∉ex→h'.get? b=some o
  slot:∀b o,h.get? b=some o→H b=none→b∈fs→b∉ex→∃sl,h'.get? b=some {o with slots:=sl}
  free:∀b o,h.get? b=some o→H b=none→b∉ex→H' b=none
  there:∀b o,h.get? b=some o→b∉ex→∃o',h'.get? b=some o'
  tups:∀b xs,H b=some (.tup xs)→H' b=some (.tup xs)
  frzs:∀b o u,H b=some (.frz o u)→H' b=some (.frz o u)
  tbls:∀b ps,H b=some (.tbl ps)→∃more,H' b=some (.tbl (ps++more))
section
variable{fs fs' ex ex':List Addr}{H H1 H2:Hp}{h h1 h2 h':Heap}{a x e:Addr}{o:HO}
theorem Un.any(u:Un fs ex H H1 h h1){b:Addr}{ob:Obj}(q:h.get? b=some ob)(n:H b=none)(hx:b∉ex):∃sl,h1.get? b=some {ob with slots:=sl}:=by
  by_cases hb:b∈fs
  · exact u.slot b ob q n hb hx
  · exact⟨ob.slots,u.keep b ob q n hb hx⟩
theorem Un.kept(k:∀b u,h.get? b=some u→h'.get? b=some u):Un fs ex H H h h':=
  ⟨fun b ob q _ _ _=>k b ob q,fun b ob q _ _ _=>⟨ob.slots,k b ob q⟩,fun _ _ _ n _=>n,fun b ob q _=>⟨ob,k b ob q⟩,fun _ _ q=>q,fun _ _ _ q=>q,fun _ ps q=>⟨#[],by rw [q];simp⟩⟩
theorem Un.refl:Un fs ex H H h h:=Un.kept fun _ _ q=>q
theorem Un.laid(k:∀b u,h.get? b=some u→h'.get? b=some u)(hp:h.objs.size≤a)(hn:H a=none):Un fs ex H (be H a o) h h' where
  keep:=fun b u q _ _ _=>k b u q
  slot:=fun b u q _ _ _=>⟨u.slots,k b u q⟩
  free:=fun b u q n _=>by rw [aG (Nat.ne_of_lt (Nat.lt_of_lt_of_le (Heap.lt_size q) hp))];exact n
  there:=fun b u q _=>⟨u,k b u q⟩
  tups:=fun b xs q=>by rw [aG (e_ q hn)];exact q
  frzs:=fun b u xs q=>by rw [aG (e_ q hn)];exact q
  tbls:=fun b ps q=>⟨#[],by rw [aG (e_ q hn),q];simp⟩
theorem Un.write(mu:GA (H x))(he:e=x∨H e=some (.own x))(k:∀b u,b≠e→h.get? b=some u→h'.get? b=some u)(heo:∃u,h'.get? e=some u):Un fs ex H (be H x o) h h':=by
  have hx:∀b,H b=none→b≠x:=fun b n z=>by subst z;rw [n] at mu;exact mu
  have hb:∀b,H b=none→b≠e:=fun b n z=>by
    subst z
    rcases he with r | r
    · exact hx b n r
    · rw [n] at r;cases r
  have hm:∀b u,H b=some u→¬GA (some u)→b≠x:=fun b u q nm z=>by subst z;rw [q] at mu;exact nm mu
  refine⟨fun b u q n _ _=>k b u (hb b n) q,fun b u q n _ _=>⟨u.slots,k b u (hb b n) q⟩,fun b u q n _=>by rw [aG (hx b n)];exact n,fun b u q _=>?_,
    fun b xs q=>by rw [aG (hm b _ q fun z=>z)];exact q,fun b u xs q=>by rw [aG (hm b _ q fun z=>z)];exact q,fun b ps q=>⟨#[],by rw [aG (hm b _ q fun z=>z),q];simp⟩⟩
  by_cases hbe:b=e
  · subst hbe;exact heo
  · exact⟨u,k b u hbe q⟩
end
def GH(h:Heap)(H:Hp):List Addr:=(List.range h.objs.size).filter fun a=>(H a).isSome
def rR(h:Heap)(H:Hp):Heap:=PySem.W.hideAll h (GH h H)
theorem wO(h:Heap)(H:Hp):(rR h H).objs.size=h.objs.size:=PySem.W.hideAll_size _ _
theorem yn{h:Heap}{H:Hp}{b:Addr}{o:Obj}(e:h.get? b=some o)(n:H b=none):(rR h H).get? b=some o:=
  PySem.W.hideAll_get _ e fun hm=>by
    have q:(H b).isSome=true:=(List.mem_filter.mp hm).2
    rw [n] at q;simp at q
theorem A6{h:Heap}{H:Hp}{b:Addr}{o:Obj}(e:(rR h H).get? b=some o):h.get? b=some o∧H b=none:=by
  have e':h.get? b=some o:=PySem.W.of_hideAll (GH h H) e
  refine⟨e',?_⟩
  cases q:H b with
  | none=>rfl
  | some x=>
    have hm:b∈GH h H:=List.mem_filter.mpr ⟨List.mem_range.mpr (Heap.lt_size e'),by simp [q]⟩
    have z:(rR h H).get? b=none:=PySem.W.hideAll_none (GH h H) hm
    rw [z] at e;cases e
def rG(g h:Heap)(L:Addr):List (Addr × Obj):=(List.range h.objs.size).filterMap fun a=>if a=L∨(g.get? a).isSome=true then none else(h.get? a).map fun o=>(a,o)
theorem pI{g h:Heap}{L:Addr}{p:Addr × Obj}(hp:p∈rG g h L):p.1≠L∧g.get? p.1=none∧h.get? p.1=some p.2:=by
  obtain⟨b,_,e⟩:=List.mem_filterMap.mp hp
  split at e
  · cases e
  · rename_i hn
    cases q:h.get? b with
    | none=>rw [q] at e;simp at e
    | some u=>
      rw [q] at e
      simp only [Option.map_some,Option.some.injEq] at e
      subst e
      refine⟨fun z=>hn (.inl z),?_,q⟩
      show g.get? b=none
      cases r:g.get? b with
      | none=>rfl
      | some v=>exact(hn (.inr (by simp [r]))).elim
def gf(g h:Heap)(L d:Addr):List (Addr × Obj):=(rG g h L).filter fun p=>decide (p.1≠d)
theorem yJ{g h:Heap}{L:Addr}:News g L h (rG g h L):=fun p hp=>let ⟨a,b,c⟩:=pI hp;⟨c,a,b⟩
structure Mod (K:PySem.W.Frag) (mg:Str→Option Value) (base:Heap):Prop where
  kin:K.In base
  glob:base.Ns mainGlobals mg
  blt:∃mb,base.Ns builtinsNs mb∧∀x:Str,x≠"__name__"→mb x=bootBuiltins x
  nolimit:base.NoLimit
structure Cx where
  prog:Program
  w:World
  K:PySem.W.Frag
  mg:Str→Option Value
  base:Heap
  A:Around
  N:List Str
  s₀:Shared
  H₀:Hp
  env:Env
  outer:List Env
  stack:List Env
  ex:List Addr
  fn:Str→Bool
  calm:Bool
  pn:List (Addr × Obj)
  xe:Value→Shared→Prop
def yg(l:List Env):List Addr:=l.filterMap (·.frame)
abbrev Cx.fs(X:Cx):List Addr:=yg X.outer
def Ai(sc:Scope)(x:Str):Prop:=sc.names.lookup x=some .local∨sc.names.lookup x=some .cell∨sc.names.lookup x=some .free
def C3(sc:Scope)(x:Str):Prop:=sc.names.lookup x=some .local∨sc.names.lookup x=some .cell
def GN(env:Env)(h:Heap)(m:Str→Option Value)(x:Str)(u:Value):Prop:=
  (env.kindOf x=some .local∧m x=some u)∨((env.kindOf x=some .cell∨env.kindOf x=some .free)∧∃c,env.cells.lookup x=some c∧h.IsCell c (some u))
structure Cx.Ok (X:Cx):Prop where
  mod:Mod X.K X.mg X.base
  kind:X.env.scope.kind=.function
  glob:X.env.globals=mainGlobals
  blt:X.env.builtins=builtinsNs
  above:X.s₀.heap.objs.size≤X.env.locals
  inj:∀x y c,X.env.cells.lookup x=some c→X.env.cells.lookup y=some c→x=y
  has:∀x,(X.env.kindOf x=some .cell∨X.env.kindOf x=some .free)→∃c,X.env.cells.lookup x=some c
  cab:∀x c,X.fn x=true→X.env.cells.lookup x=some c→X.s₀.heap.objs.size≤c
  hd:X.calm=true→X.A.handled=none
  frames:X.A.frames=some X.stack
  stk:X.stack=X.outer∨(X.stack=X.env::X.outer∧X.env.frame=some X.env.locals)
  exf:∀b∈X.ex,b≠X.env.locals∧∀x c,X.env.cells.lookup x=some c→c≠b
  bs:∀b o,X.base.get? b=some o→X.s₀.heap.get? b=some o∧X.H₀ b=none
  bsz:X.base.objs.size≤X.s₀.heap.objs.size
  noex:∀b o,X.base.get? b=some o→b∉X.ex
  exfs:∀b∈X.ex,b∉X.fs
  funs:X.s₀.heap.FunFrames X.base X.outer
  frf:∀b∈X.fs,X.H₀ b=none
structure aH (X:Cx) (pins:List (Addr × Obj)) (σ:List (Option V)) (H:Hp) (s:Shared):Prop where
  ok:X.Ok
  os:s.os=X.s₀.os
  bare:AllBare s.gens
  base:Un X.fs X.ex X.H₀ H X.s₀.heap s.heap
  loc:∃m,s.heap.Ns X.env.locals m∧∀(i:Nat) (x:Str) (v:V),X.N[i]?=some x→σ[i]?=some (some v)→Ai X.env.scope x→∃u,bD v u∧GN X.env s.heap m x u
  cell:∀x c,X.env.cells.lookup x=some c→∃v,s.heap.IsCell c v
  free:H X.env.locals=none
  freeC:∀x c,X.env.cells.lookup x=some c→H c=none
  pin:∀p∈X.pn++pins,s.heap.get? p.1=some p.2∧H p.1=none∧p.1≠X.env.locals∧p.1∉X.fs∧∀v,p.2.data≠.cell v
  hok:oS X.prog X.w H s.heap
  len:σ.length=X.N.length
section
variable{X:Cx}{pins:List (Addr × Obj)}{σ:List (Option V)}{H H':Hp}{s:Shared}{h':Heap}
theorem Cx.Ok.nofr(ok:X.Ok){b:Addr}{o:Obj}(e:X.base.get? b=some o):b∉X.fs:=fun hb=>by
  have:=(ok.funs.mem hb).1
  rw [e] at this;cases this
theorem aH.bs(I:aH X pins σ H s):∀b o,X.base.get? b=some o→s.heap.get? b=some o∧H b=none:=fun b o e=>
  ⟨I.base.keep b o (I.ok.bs b o e).1 (I.ok.bs b o e).2 (I.ok.nofr e) (I.ok.noex b o e),I.base.free b o (I.ok.bs b o e).1 (I.ok.bs b o e).2 (I.ok.noex b o e)⟩
theorem aH.bk(I:aH X pins σ H s):∀b o,X.base.get? b=some o→s.heap.get? b=some o:=fun b o e=>(I.bs b o e).1
theorem aH.mod(I:aH X pins σ H s):Mod X.K X.mg X.base:=I.ok.mod
theorem aH.kIn(I:aH X pins σ H s):X.K.In s.heap:=I.ok.mod.kin.keeps I.bk
theorem aH.fr(I:aH X pins σ H s):∃m,Fr X.base X.env.locals s.heap m:=
  let ⟨m,hn,_⟩:=I.loc
  ⟨m,hn,I.bk,Nat.le_trans I.ok.bsz I.ok.above⟩
theorem aH.lt(I:aH X pins σ H s):X.env.locals < s.heap.objs.size:=let ⟨_,hn,_⟩:=I.loc;hn.lt
theorem aH.sz(I:aH X pins σ H s):X.s₀.heap.objs.size≤s.heap.objs.size:=Nat.le_trans I.ok.above (Nat.le_of_lt I.lt)
theorem aH.nofs(I:aH X pins σ H s){a:Addr}(h:s.heap.objs.size≤a):a∉X.fs:=fun hb=>by
  obtain⟨_,o,ho,_⟩:=I.ok.funs.mem hb
  exact absurd (Nat.lt_of_lt_of_le (Heap.lt_size ho) (Nat.le_trans I.sz h)) (Nat.lt_irrefl _)
theorem aH.cne(I:aH X pins σ H s):∀x c,X.env.cells.lookup x=some c→c≠X.env.locals:=fun x c e z=>by
  obtain⟨v,o,ho,hd⟩:=I.cell x c e
  obtain⟨m,⟨o',es,ep,ho',hd',_⟩,_⟩:=I.loc
  rw [z,ho'] at ho;cases ho;rw [hd'] at hd;cases hd
theorem aH.funs(I:aH X pins σ H s):s.heap.FunFrames X.base X.outer:=by
  have all:∀(l:List Env),(∀b∈yg l,b∈X.fs)→X.s₀.heap.FunFrames X.base l→s.heap.FunFrames X.base l:=by
    intro l
    induction l with
    | nil=>intro _ _;trivial
    | cons env r ih=>
      intro hs hl
      obtain⟨hk,⟨L,o,hf,hn,ho,hd⟩,hr⟩:=hl
      have hL:L∈X.fs:=hs L (by unfold yg;rw [List.filterMap_cons,hf];exact List.mem_cons_self)
      obtain⟨sl,e⟩:=I.base.slot L o ho (I.ok.frf L hL) hL fun z=>I.ok.exfs L z hL
      exact⟨hk,⟨L,_,hf,hn,e,hd⟩,ih (fun b hb=>hs b (by unfold yg;rw [List.filterMap_cons,hf];exact List.mem_cons_of_mem _ hb)) hr⟩
  exact all X.outer (fun _ hb=>hb) I.ok.funs
theorem aH.stack(I:aH X pins σ H s):s.heap.FunFrames X.base X.stack:=by
  rcases I.ok.stk with e | ⟨e,hf⟩
  · rw [e];exact I.funs
  · rw [e]
    obtain⟨m,hn,_⟩:=I.loc
    refine .cons (by rw [I.ok.kind];decide) hf hn ?_ I.funs
    exact Heap.get?_none_of_le (Nat.le_trans I.ok.bsz I.ok.above)
theorem aH.stkSub(I:aH X pins σ H s):∀b∈yg X.stack,b∈X.env.locals::X.fs:=fun b hb=>by
  rcases I.ok.stk with e | ⟨e,hf⟩
  · rw [e] at hb;exact List.mem_cons_of_mem _ hb
  · rw [e] at hb
    unfold yg at hb
    rw [List.filterMap_cons,hf] at hb
    exact hb
theorem aH.stkFree(I:aH X pins σ H s):∀b∈yg X.stack,H b=none:=fun b hb=>by
  rcases K1 (I.stkSub b hb) with e | hb
  · rw [e];exact I.free
  · obtain⟨_,o,ho,_⟩:=I.ok.funs.mem hb
    exact I.base.free b o ho (I.ok.frf b hb) fun z=>I.ok.exfs b z hb
theorem aH.step{g':Array GenState}{t':Nat}{d':Drawn}{ch:List Addr}(I:aH X pins σ H s)
    (hch:∀b∈ch,(b∈X.ex∨X.s₀.heap.objs.size≤b)∧b≠X.env.locals∧(∀x c,X.env.cells.lookup x=some c→c≠b)∧∀p∈X.pn++pins,p.1≠b)
    (keep:∀b o,b≠X.env.locals→b∉X.fs→b∉ch→s.heap.get? b=some o→H b=none→h'.get? b=some o)
    (slot:∀b o,b≠X.env.locals→b∈X.fs→b∉ch→s.heap.get? b=some o→H b=none→∃sl,h'.get? b=some {o with slots:=sl})(free:∀b o,b∉ch→s.heap.get? b=some o→H b=none→H' b=none)
    (there:∀b o,b∉ch→s.heap.get? b=some o→∃o',h'.get? b=some o')
    (tups:∀b xs,H b=some (.tup xs)→H' b=some (.tup xs))(frzs:∀b o u,H b=some (.frz o u)→H' b=some (.frz o u))(tbls:∀b ps,H b=some (.tbl ps)→∃more,H' b=some (.tbl (ps++more)))
    (ns:∀m,s.heap.Ns X.env.locals m→h'.Ns X.env.locals m)(hok:oS X.prog X.w H' h')(hg:AllBare g'):
    aH X pins σ H' {s with heap:=h',gens:=g',drawn:=d',toks:=t'}:=by
  have neL:∀b o,X.s₀.heap.get? b=some o→b≠X.env.locals:=fun b o e=>Nat.ne_of_lt (Nat.lt_of_lt_of_le (Heap.lt_size e) I.ok.above)
  have neC:∀b o,X.s₀.heap.get? b=some o→b∉X.ex→b∉ch:=fun b o e hx hb=>by
    rcases(hch b hb).1 with z | z
    · exact hx z
    · exact absurd (Nat.lt_of_lt_of_le (Heap.lt_size e) z) (Nat.lt_irrefl _)
  have cellK:∀x c,X.env.cells.lookup x=some c→∀v,s.heap.IsCell c v→h'.IsCell c v:=fun x c e v ⟨o,ho,hd⟩=>by
    have nch:c∉ch:=fun z=>(hch c z).2.2.1 x c e rfl
    by_cases hc:c∈X.fs
    · obtain⟨sl,q⟩:=slot c o (I.cne x c e) hc nch ho (I.freeC x c e)
      exact⟨_,q,hd⟩
    · exact⟨o,keep c o (I.cne x c e) hc nch ho (I.freeC x c e),hd⟩
  refine⟨I.ok,I.os,hg,⟨fun b o e n hb hx=>?_,fun b o e n hb hx=>?_,fun b o e n hx=>?_,fun b o e hx=>?_,fun b xs e=>tups b xs (I.base.tups b xs e),fun b o xs e=>frzs b o xs (I.base.frzs b o xs e),fun b ps e=>?_⟩,?_,fun x c e=>?_,?_,fun x c e=>?_,fun p hp=>?_,hok,I.len⟩
  · exact keep b o (neL b o e) hb (neC b o e hx) (I.base.keep b o e n hb hx) (I.base.free b o e n hx)
  · obtain⟨sl,e1⟩:=I.base.slot b o e n hb hx
    obtain⟨sl',e2⟩:=slot b _ (neL b o e) hb (neC b o e hx) e1 (I.base.free b o e n hx)
    exact⟨sl',e2⟩
  · obtain⟨o',e1⟩:=I.base.there b o e hx
    exact free b o' (neC b o e hx) e1 (I.base.free b o e n hx)
  · obtain⟨o',e1⟩:=I.base.there b o e hx
    exact there b o' (neC b o e hx) e1
  · obtain⟨m1,e1⟩:=I.base.tbls b ps e
    obtain⟨m2,e2⟩:=tbls b _ e1
    exact⟨m1++m2,by rw [e2,Array.append_assoc]⟩
  · obtain⟨m,hn,hl⟩:=I.loc
    refine⟨m,ns m hn,fun i x v e1 e2 e3=>?_⟩
    obtain⟨u,r,l⟩:=hl i x v e1 e2 e3
    refine⟨u,r,?_⟩
    rcases l with l | ⟨k,c,e,z⟩
    · exact .inl l
    · exact .inr ⟨k,c,e,cellK x c e _ z⟩
  · obtain⟨v,z⟩:=I.cell x c e
    exact⟨v,cellK x c e v z⟩
  · obtain⟨m,⟨o,_,_,ho,_⟩,_⟩:=I.loc
    exact free _ o (fun z=>(hch _ z).2.1 rfl) ho I.free
  · obtain⟨v,o,ho,hd⟩:=I.cell x c e
    exact free c o (fun z=>(hch c z).2.2.1 x c e rfl) ho (I.freeC x c e)
  · obtain⟨e,n,ne,nf,d⟩:=I.pin p hp
    have nch:p.1∉ch:=fun z=>(hch p.1 z).2.2.2 p hp rfl
    exact⟨keep p.1 p.2 ne nf nch e n,free p.1 p.2 nch e n,ne,nf,d⟩
theorem aH.un{t':Nat}(I:aH X pins σ H s)(u:Un X.fs [] H H' s.heap h')(hok:oS X.prog X.w H' h'):aH X pins σ H' {s with heap:=h',toks:=t'}:=by
  obtain⟨m,⟨o,es,ep,ho,r⟩,_⟩:=id I.loc
  obtain⟨sl,hL⟩:=u.any ho I.free (by simp)
  exact I.step (g':=s.gens) (d':=s.drawn) (ch:=[]) (fun _ z=>nomatch z) (fun b o _ hb _ e n=>u.keep b o e n hb (by simp)) (fun b o _ hb _ e n=>u.slot b o e n hb (by simp)) (fun b o _ e n=>u.free b o e n (by simp)) (fun b o _ e=>u.there b o e (by simp)) u.tups u.frzs u.tbls (fun m' hm=>by
    obtain⟨o',es',ep',ho',r'⟩:=hm
    rw [ho] at ho';cases ho'
    exact⟨_,es',ep',hL,r'⟩) hok I.bare
theorem aH.call{g':Array GenState}{t':Nat}{d':Drawn}{ch:List Addr}(I:aH X pins σ H s)(u:Un (yg X.stack) ch H H' s.heap h')(hok:oS X.prog X.w H' h')(hg:AllBare g')
    (hch:∀b∈ch,(b∈X.ex∨X.s₀.heap.objs.size≤b)∧b≠X.env.locals∧(∀x c,X.env.cells.lookup x=some c→c≠b)∧∀p∈X.pn++pins,p.1≠b):
    aH X pins σ H' {s with heap:=h',gens:=g',drawn:=d',toks:=t'}:=by
  obtain⟨m,⟨o,es,ep,ho,r⟩,_⟩:=id I.loc
  obtain⟨sl,hL⟩:=u.any ho I.free fun z=>(hch _ z).2.1 rfl
  exact I.step (ch:=ch) hch (fun b o hL hb hc e n=>u.keep b o e n (fun z=>(K1 (I.stkSub b z)).elim hL hb) hc) (fun b o _ _ hc e n=>u.any e n hc) (fun b o hc e n=>u.free b o e n hc) (fun b o hc e=>u.there b o e hc) u.tups u.frzs u.tbls (fun m' hm=>by
    obtain⟨o',es',ep',ho',r'⟩:=hm
    rw [ho] at ho';cases ho'
    exact⟨_,es',ep',hL,r'⟩) hok hg
theorem aH.turned{t':Nat}{it:Addr}(I:aH X pins σ H s)(k:∀b o,b≠it→s.heap.get? b=some o→h'.get? b=some o)(hn:H it=none)(hL:it≠X.env.locals)
    (h1:it∈X.ex∨X.s₀.heap.objs.size≤it)(h2:∀x c,X.env.cells.lookup x=some c→c≠it)(h3:∀p∈X.pn++pins,p.1≠it):aH X pins σ H {s with heap:=h',toks:=t'}:=by
  have nit:∀b u,H b=some u→b≠it:=fun b u e z=>by rw [z,hn] at e;cases e
  refine I.step (g':=s.gens) (d':=s.drawn) (ch:=[it]) (fun b hb=>?_) (fun b o _ _ hc e _=>k b o (fun z=>hc (by simp [z])) e) (fun b o _ _ hc e _=>⟨o.slots,k b o (fun z=>hc (by simp [z])) e⟩) (fun _ _ _ _ n=>n)
    (fun b o hc e=>⟨o,k b o (fun z=>hc (by simp [z])) e⟩) (fun _ _ e=>e) (fun _ _ _ e=>e) (fun b ps e=>⟨#[],by rw [e];simp⟩) (fun m hm=>?_) (fun b u e=>?_) I.bare
  · have e:b=it:=by simpa using hb
    subst e
    exact⟨h1,hL,h2,h3⟩
  · obtain⟨o,es,ep,ho,r⟩:=hm
    exact⟨o,es,ep,k _ o (Ne.symm hL) ho,r⟩
  · refine(I.hok b u e).stay (fun c v hc q=>k c v ?_ q) (fun _ q=>q) fun _ _ q=>q
    rcases hc with z | z
    · rw [z];exact nit b u e
    · exact nit c _ z
theorem aH.tok(I:aH X pins σ H s)(t:Nat):aH X pins σ H {s with toks:=t}:=I.un (h':=s.heap) (t':=t) Un.refl I.hok
theorem aH.kept{t':Nat}(I:aH X pins σ H s)(k:∀b u,s.heap.get? b=some u→h'.get? b=some u):aH X pins σ H {s with heap:=h',toks:=t'}:=I.un (Un.kept k) (I.hok.kept k)
theorem aH.laid{a:Addr}{o:HO}{t':Nat}(I:aH X pins σ H s)(k:∀b u,s.heap.get? b=some u→h'.get? b=some u)(hp:s.heap.objs.size≤a)(new:hV X.prog X.w (be H a o) h' a o):
    aH X pins σ (be H a o) {s with heap:=h',toks:=t'}:=I.un (Un.laid k hp (I.hok.fresh hp)) (I.hok.laid k hp new)
theorem aH.write{x e:Addr}{o:HO}{t':Nat}(I:aH X pins σ H s)(mu:GA (H x))(he:e=x∨H e=some (.own x))(k:∀b u,b≠e→s.heap.get? b=some u→h'.get? b=some u)(heo:∃u,h'.get? e=some u)
    (new:hV X.prog X.w (be H x o) h' x o):aH X pins σ (be H x o) {s with heap:=h',toks:=t'}:=I.un (Un.write mu he k heo) (I.hok.write mu he k heo new)
theorem aH.pins_of{pins':List (Addr × Obj)}(I:aH X pins σ H s)(h:∀p∈pins',s.heap.get? p.1=some p.2∧H p.1=none∧p.1≠X.env.locals∧p.1∉X.fs∧∀v,p.2.data≠.cell v):aH X pins' σ H s:=
  ⟨I.ok,I.os,I.bare,I.base,I.loc,I.cell,I.free,I.freeC,fun p hp=>(KZ hp).elim (fun z=>I.pin p (List.mem_append_left _ z)) (h p),I.hok,I.len⟩
theorem tN{N:List Str}(hN:N.Nodup){i j:Nat}{x:Str}(a:N[i]?=some x)(b:N[j]?=some x):i=j:=by
  obtain⟨h1,e1⟩:=KY a
  obtain⟨h2,e2⟩:=KY b
  exact(List.getElem_inj hN).mp (e1.trans e2.symm)
theorem nh{M:Model}{A:Around}{E:Value→Shared→Prop}{i:Nat}{x:Str}{v:V}{u:Value}{Q:Unit→Shared→Prop}(I:aH X pins σ H s)(hN:X.N.Nodup)(hi:X.N[i]?=some x)(hx:C3 X.env.scope x)(r:bD v u)
    (h:∀s',aH X pins (σ.set i (some v)) H s'→(∃a,Heap.SameBut a s.heap s'.heap∧(a=X.env.locals∨X.env.cells.lookup x=some a))→Q () s')(hf:X.fn x=true∨X.env.scope.names.lookup x=some .local:=by first | exact .inl rfl | exact .inr rfl | assumption):wpAny M A (storeName X.env x u) Q E s:=by
  obtain⟨m,hn,hl⟩:=id I.loc
  have hcls:(X.env.scope.kind==.class || (X.env.scope.kind==.module&&X.env.locals != X.env.globals))=false:=by rw [I.ok.kind];rfl
  have hiσ:i < σ.length:=by rw [I.len];exact(KY hi).1
  have cne:=I.cne
  have tracked:∀{a:Addr} {h':Heap},(∃o,s.heap.get? a=some o∧H a=none)→Heap.SameBut a s.heap h'→oS X.prog X.w H h':=fun{a h'} ha hs b ob e=>by
    obtain⟨_,_,hfree⟩:=ha
    refine(I.hok b ob e).stay (fun c w' hc q=>(hs.2 c ?_).trans q) (fun _ q=>q) fun _ _ q=>q
    rintro rfl
    rcases hc with rfl | hc
    · rw [hfree] at e;cases e
    · rw [hfree] at hc;cases hc
  rcases hx with hk | hk
  · refine wpAny_storeName_local hk hn (fun h' hn' hs=>?_) hcls
    obtain⟨oL,_,_,hoL,_⟩:=id hn
    refine h _ ⟨I.ok,I.os,I.bare,⟨fun b o e n hb hx=>?_,fun b o e n hb hx=>?_,I.base.free,fun b o e hx=>?_,I.base.tups,I.base.frzs,I.base.tbls⟩,⟨_,hn',fun j y v' e1 e2 e3=>?_⟩,fun y c e=>?_,I.free,I.freeC,fun p hp=>?_,tracked ⟨oL,hoL,I.free⟩ hs,by simpa using I.len⟩ ⟨_,hs,.inl rfl⟩
    · exact(hs.2 b (Nat.ne_of_lt (Nat.lt_of_lt_of_le (Heap.lt_size e) I.ok.above))).trans (I.base.keep b o e n hb hx)
    · obtain⟨sl,e1⟩:=I.base.slot b o e n hb hx
      exact⟨sl,(hs.2 b (Nat.ne_of_lt (Nat.lt_of_lt_of_le (Heap.lt_size e) I.ok.above))).trans e1⟩
    · obtain⟨o',e1⟩:=I.base.there b o e hx
      exact⟨o',(hs.2 b (Nat.ne_of_lt (Nat.lt_of_lt_of_le (Heap.lt_size e) I.ok.above))).trans e1⟩
    · by_cases hj:j=i
      · subst hj
        rw [hi] at e1;cases e1
        rw [List.getElem?_set_self hiσ] at e2
        cases e2
        exact⟨u,r,.inl ⟨hk,by simp⟩⟩
      · rw [List.getElem?_set_ne (Ne.symm hj)] at e2
        obtain⟨u',r',q⟩:=hl j y v' e1 e2 e3
        refine⟨u',r',?_⟩
        rcases q with ⟨k,e⟩ | ⟨k,c,e,z⟩
        · refine .inl ⟨k,?_⟩
          have:y≠x:=fun e=>hj (tN hN e1 (e ▸ hi))
          simp [this,e]
        · exact .inr ⟨k,c,e,z.sameBut hs (cne y c e)⟩
    · obtain⟨w',z⟩:=I.cell y c e
      exact⟨w',z.sameBut hs (cne y c e)⟩
    · obtain⟨e,n,ne,nf,d⟩:=I.pin p hp
      exact⟨(hs.2 p.1 ne).trans e,n,ne,nf,d⟩
  · have hfn:X.fn x=true:=by
      rcases hf with z | z
      · exact z
      · rw [z] at hk;cases hk
    obtain⟨c,hc⟩:=I.ok.has x (.inl hk)
    obtain⟨w',z⟩:=I.cell x c hc
    refine wpAny_storeName_cell I.ok.kind hk hc z (fun h' hc' hs=>?_)
    obtain⟨oc,hoc,hocd⟩:=id z
    refine h {s with heap:=h'} ⟨I.ok,I.os,I.bare,⟨fun b o e n hb hx=>?_,fun b o e n hb hx=>?_,I.base.free,fun b o e hx=>?_,I.base.tups,I.base.frzs,I.base.tbls⟩,⟨m,hn.sameBut hs (Ne.symm (cne x c hc)),fun j y v' e1 e2 e3=>?_⟩,fun y c' e=>?_,I.free,I.freeC,fun p hp=>?_,tracked ⟨oc,hoc,I.freeC x c hc⟩ hs,by simpa using I.len⟩ ⟨c,hs,.inr hc⟩
    · exact(hs.2 b (Nat.ne_of_lt (Nat.lt_of_lt_of_le (Heap.lt_size e) (I.ok.cab x c hfn hc)))).trans (I.base.keep b o e n hb hx)
    · obtain⟨sl,e1⟩:=I.base.slot b o e n hb hx
      exact⟨sl,(hs.2 b (Nat.ne_of_lt (Nat.lt_of_lt_of_le (Heap.lt_size e) (I.ok.cab x c hfn hc)))).trans e1⟩
    · obtain⟨o',e1⟩:=I.base.there b o e hx
      exact⟨o',(hs.2 b (Nat.ne_of_lt (Nat.lt_of_lt_of_le (Heap.lt_size e) (I.ok.cab x c hfn hc)))).trans e1⟩
    · by_cases hj:j=i
      · subst hj
        rw [hi] at e1;cases e1
        rw [List.getElem?_set_self hiσ] at e2
        cases e2
        exact⟨u,r,.inr ⟨.inl hk,c,hc,hc'⟩⟩
      · rw [List.getElem?_set_ne (Ne.symm hj)] at e2
        obtain⟨u',r',q⟩:=hl j y v' e1 e2 e3
        refine⟨u',r',?_⟩
        rcases q with q | ⟨k,c',e,z'⟩
        · exact .inl q
        · refine .inr ⟨k,c',e,z'.sameBut hs ?_⟩
          rintro rfl
          exact hj (tN hN e1 (I.ok.inj _ _ _ e hc ▸ hi))
    · by_cases hcc:c'=c
      · subst hcc;exact⟨_,hc'⟩
      · obtain⟨w2,z2⟩:=I.cell y c' e
        exact⟨w2,z2.sameBut hs hcc⟩
    · obtain⟨e,n,ne,nf,d⟩:=I.pin p hp
      refine⟨(hs.2 p.1 ?_).trans e,n,ne,nf,d⟩
      intro q
      rw [q,hoc] at e
      have q':oc=p.2:=Option.some.inj e
      exact d w' (by rw [←q'];exact hocd)
theorem mM{M:Model}{A:Around}{E:Value→Shared→Prop}{i:Nat}{x:Str}{v:V}{u:Value}{Q:Unit→Shared→Prop}(I:aH X pins σ H s)(hN:X.N.Nodup)(hi:X.N[i]?=some x)(hx:C3 X.env.scope x)(r:bD v u)
    (h:∀s',aH X pins (σ.set i (some v)) H s'→Q () s')(hf:X.fn x=true∨X.env.scope.names.lookup x=some .local:=by first | exact .inl rfl | exact .inr rfl | assumption):wpAny M A (storeName X.env x u) Q E s:=
  nh I hN hi hx r (fun s' I' _=>h s' I') hf
theorem aH.call'{s':Shared}{ch:List Addr}(I:aH X pins σ H s)(ho:s'.os=s.os)(u:Un (yg X.stack) ch H H' s.heap s'.heap)(hok:oS X.prog X.w H' s'.heap)(hg:AllBare s'.gens)
    (hch:∀b∈ch,(b∈X.ex∨X.s₀.heap.objs.size≤b)∧b≠X.env.locals∧(∀x c,X.env.cells.lookup x=some c→c≠b)∧∀p∈X.pn++pins,p.1≠b):aH X pins σ H' s':=by
  obtain⟨h',g',d',t',o'⟩:=s'
  have e:o'=s.os:=ho
  subst e
  exact I.call (g':=g') (t':=t') (d':=d') u hok hg hch
end
abbrev XK:=Value→Option Addr→Hp→Prop
abbrev St:=List (Option V)
abbrev VK:=V→Hp→Prop
abbrev TE:=St→Hp→VK→Prop
abbrev TT:=St→Hp→(Bool→Hp→Prop)→Prop
abbrev TA:=St→Hp→(List V→Hp→Prop)→Prop
structure ur where
  nx:St→Hp→Prop
  rt:VK
  bk:St→Hp→Prop:=fun _ _=>False
  ct:St→Hp→Prop:=fun _ _=>False
abbrev TS:=ur→St→Hp→Prop
def EP(X:Cx)(pins:List (Addr × Obj))(σ:St)(Q:VK)(u:Value)(s':Shared):Prop:=∃v H',aH X pins σ H' s'∧bD v u∧Q v H'
def TP(X:Cx)(pins:List (Addr × Obj))(σ:St)(Q:Bool→Hp→Prop)(b:Bool)(s':Shared):Prop:=∃H',aH X pins σ H' s'∧Q b H'
def AP(X:Cx)(pins:List (Addr × Obj))(σ:St)(Q:List V→Hp→Prop)(us:List Value)(s':Shared):Prop:=∃vs H',aH X pins σ H' s'∧aW vs us∧Q vs H'
def SP(X:Cx)(pins:List (Addr × Obj))(D:ur)(f:Flow)(s':Shared):Prop:=
  match f with
  | .next=>∃σ' H',aH X pins σ' H' s'∧D.nx σ' H'
  | .brk=>∃σ' H',aH X pins σ' H' s'∧D.bk σ' H'
  | .cont=>∃σ' H',aH X pins σ' H' s'∧D.ct σ' H'
  | .ret u=>∃v σ' H',aH X pins σ' H' s'∧bD v u∧D.rt v H'
def PE(X:Cx)(e:Expr)(t:TE):Prop:=
  ∀(pins:List (Addr × Obj)) (s:Shared) (σ:St) (H:Hp) (Q:VK),aH X pins σ H s→t σ H Q→wpAny (model X.prog X.w) X.A (eval e X.env) (EP X pins σ Q) X.xe s
def PT(X:Cx)(e:Expr)(t:TT):Prop:=
  ∀(pins:List (Addr × Obj)) (s:Shared) (σ:St) (H:Hp) (Q:Bool→Hp→Prop),aH X pins σ H s→t σ H Q→wpAny (model X.prog X.w) X.A (isTrue e X.env (eval e X.env)) (TP X pins σ Q) X.xe s
def PW(X:Cx)(e:Expr)(t:TT):Prop:=
  ∀(whole:Sem Value) (pins:List (Addr × Obj)) (s:Shared) (σ:St) (H:Hp) (Q:Bool→Hp→Prop),aH X pins σ H s→t σ H Q→wpAny (model X.prog X.w) X.A (isTrue e X.env whole) (TP X pins σ Q) X.xe s
theorem PW.pt{X:Cx}{e:Expr}{t:TT}(h:PW X e t):PT X e t:=h _
def PA(X:Cx)(es:List Expr)(t:TA):Prop:=
  ∀(pos:Pos) (pins:List (Addr × Obj)) (s:Shared) (σ:St) (H:Hp) (Q:List V→Hp→Prop),aH X pins σ H s→t σ H Q→wpAny (model X.prog X.w) X.A (spliced (backTo pos (starEach es X.env))) (AP X pins σ Q) X.xe s
def PS(X:Cx)(st:Stmt)(t:TS):Prop:=
  ∀(pins:List (Addr × Obj)) (s:Shared) (σ:St) (H:Hp) (D:ur),aH X pins σ H s→t D σ H→wpAny (model X.prog X.w) X.A (exec st X.env) (SP X pins D) X.xe s
def oj(X:Cx)(st:List Stmt)(t:TS):Prop:=
  ∀(pins:List (Addr × Obj)) (s:Shared) (σ:St) (H:Hp) (D:ur),aH X pins σ H s→t D σ H→wpAny (model X.prog X.w) X.A (execs st X.env) (SP X pins D) X.xe s
theorem bU{α:Type}{t:Sem α}{Q Q':α→Shared→Prop}{M:Model}{A:Around}{E:Value→Shared→Prop}{s:Shared}(h:wpAny M A t Q E s)(hQ:∀a s,Q a s→Q' a s):wpAny M A t Q' E s:=wpAny_mono h hQ fun _ _ x=>x
section
variable{X:Cx}
def Gu(i:Nat):TE:=fun σ H Q=>∃v,σ[i]?=some (some v)∧Q v H
def tC(v:V):TE:=fun _ H Q=>Q v H
theorem m4{i:Nat}{x:Str}{pos:Pos}(hN:X.N[i]?=some x)(hv:Ai X.env.scope x)(hd:(x==("__debug__":Str))=false:=by decide)(hcd:(x==("__classdict__":Str))=false:=by decide):PE X (.Name x pos) (Gu i):=by
  intro pins s σ H Q I h
  obtain⟨v,e,h⟩:=h
  obtain⟨m,hn,hl⟩:=I.loc
  obtain⟨u,r,l⟩:=hl i x v hN e hv
  have fin:EP X pins σ Q u s:=⟨v,H,I,r,h⟩
  rcases l with ⟨hk,hm⟩ | ⟨hk,c,hc,hcell⟩
  · exact wpAny_Name (wpAny_loadName_local I.ok.kind hk hn hm fin) hd
  · rcases hk with hk | hk
    · exact wpAny_Name (wpAny_loadName_cell I.ok.kind hk hc hcell fin) hd
    · exact wpAny_Name (wpAny_loadName_free I.ok.kind hk hc hcell fin hcd) hd
theorem yY{i j pos}:PE X (.Constant (.int i) j pos) (tC (.int i)):=fun _ _ _ H _ I h=>wpAny_Constant_int ⟨.int i,H,I.tok _,⟨_,rfl⟩,h⟩
theorem FK{b j pos}:PE X (.Constant (.bool b) j pos) (tC (.bl b)):=fun _ _ _ H _ I h=>Constant_bool ⟨.bl b,H,I,rfl,h⟩
def Gl(X:Cx)(x:Str):Prop:=X.env.kindOf x=some .globalImplicit
theorem vV{E:Value→Shared→Prop}{pins:List (Addr × Obj)}{s:Shared}{σ:St}{H:Hp}{x:Str}{u:Value}{pos:Pos}{Q:Value→Shared→Prop}(I:aH X pins σ H s)(hg:Gl X x)(hm:X.mg x=some u)(h:Q u s)
    (hd:(x==("__debug__":Str))=false:=by decide):wpAny (model X.prog X.w) X.A (eval (.Name x pos) X.env) Q E s:=
  Calls.Name_function_global I.ok.kind hg (Calls.loadGlobal_global (by rw [I.ok.glob];exact I.mod.glob.keeps I.bk) hm h) hd
theorem jy{E:Value→Shared→Prop}{pins:List (Addr × Obj)}{s:Shared}{σ:St}{H:Hp}{x:Str}{u:Value}{pos:Pos}{Q:Value→Shared→Prop}(I:aH X pins σ H s)(hg:Gl X x)(hm:X.mg x=none)(hv:bootBuiltins x=some u)(h:Q u s)
    (hn:x≠"__name__":=by decide)(hd:(x==("__debug__":Str))=false:=by decide):wpAny (model X.prog X.w) X.A (eval (.Name x pos) X.env) Q E s:=by
  obtain⟨mb,h1,h2⟩:=I.mod.blt
  exact Calls.Name_function_global I.ok.kind hg (Calls.loadGlobal_builtin (by rw [I.ok.glob];exact I.mod.glob.keeps I.bk) hm (by rw [I.ok.blt];exact h1.keeps I.bk) ((h2 x hn).trans hv) h) hd
theorem Bq{x:Str}{v:V}{u:Value}{pos:Pos}(hg:Gl X x)(hm:X.mg x=some u)(r:bD v u)(hd:(x==("__debug__":Str))=false:=by decide):PE X (.Name x pos) (tC v):=
  fun _ _ _ H _ I h=>vV I hg hm ⟨v,H,I,r,h⟩ hd
variable{a b:Expr}{ta tb:TE}{pos:Pos}
def tB(t:TE):TT:=fun σ H Q=>t σ H fun x H1=>∃c,x=.bl c∧Q c H1
theorem D6{e:Expr}{t:TE}(h:PE X e t)(he:∀whole,isTrue e X.env whole=(do let v ←whole;standAt e.pos;holding [v] (truthy v)):=by intro _;rfl):PT X e (tB t):=by
  intro pins s σ H Q I hw
  refine isTrue_plain (bU (h pins s σ H _ I hw) fun v s1 ⟨x,H1,I1,r1,q1⟩=>?_) (he _)
  obtain⟨d,rfl,q⟩:=q1
  cases r1
  exact wpAny_truthy_bool ⟨H1,I1,q⟩
variable{tA tB':TT}{gf:List Expr}
def Gg(t u:TT):TT:=fun σ H Q=>t σ H fun c H1=>if c=true then u σ H1 Q else Q false H1
def Hx(t u:TT):TT:=fun σ H Q=>t σ H fun c H1=>if c=true then Q true H1 else u σ H1 Q
def Gm(t:TT):TT:=fun σ H Q=>t σ H fun c H1=>Q (!c) H1
theorem BJ(ha:PT X a tA):PW X (.BoolOp .And [a] pos) tA:=by
  intro wh pins s σ H Q I h
  refine isTrue_and (bU (ha pins s σ H Q I h) fun c s1 e=>?_)
  cases c with
  | true=>exact isTrue_and_nil e
  | false=>exact e
theorem D8(ha:PT X a tA):PW X (.BoolOp .Or [a] pos) tA:=by
  intro wh pins s σ H Q I h
  refine isTrue_or (bU (ha pins s σ H Q I h) fun c s1 e=>?_)
  cases c with
  | false=>exact isTrue_or_nil e
  | true=>exact e
theorem D7(ha:PT X a tA)(hb:PW X (.BoolOp .And (b::gf) pos) tB'):PW X (.BoolOp .And (a::b::gf) pos) (Gg tA tB'):=by
  intro wh pins s σ H Q I h
  refine isTrue_and (bU (ha pins s σ H _ I h) fun c s1 ⟨H1,I1,q1⟩=>?_)
  cases c with
  | true=>exact hb wh pins s1 σ H1 Q I1 q1
  | false=>exact⟨H1,I1,q1⟩
theorem FR(ha:PT X a tA)(hb:PW X (.BoolOp .Or (b::gf) pos) tB'):PW X (.BoolOp .Or (a::b::gf) pos) (Hx tA tB'):=by
  intro wh pins s σ H Q I h
  refine isTrue_or (bU (ha pins s σ H _ I h) fun c s1 ⟨H1,I1,q1⟩=>?_)
  cases c with
  | true=>exact⟨H1,I1,q1⟩
  | false=>exact hb wh pins s1 σ H1 Q I1 q1
theorem D5(ha:PT X a tA):PT X (.UnaryOp .Not a pos) (Gm tA):=by
  intro pins s σ H Q I h
  exact isTrue_not (ha pins s σ H (fun c H1=>Q (!c) H1) I h)
def Gh(ta tb:TE):TE:=fun σ H Q=>ta σ H fun x H1=>∃c,x=.bl c∧if c=true then tb σ H1 Q else Q (.bl false) H1
def Hh(ta tb:TE):TE:=fun σ H Q=>ta σ H fun x H1=>∃c,x=.bl c∧if c=true then Q (.bl true) H1 else tb σ H1 Q
def Gn(ta:TE):TE:=fun σ H Q=>ta σ H fun x H1=>∃c,x=.bl c∧Q (.bl (!c)) H1
theorem DT{op}{t:TE}(h:PE X a t):PE X (.BoolOp op [a] pos) t:=fun pins s σ H Q I hw=>BoolOp_one (h pins s σ H Q I hw)
theorem DQ(ha:PE X a ta)(hb:PE X (.BoolOp .And (b::gf) pos) tb):PE X (.BoolOp .And (a::b::gf) pos) (Gh ta tb):=by
  intro pins s σ H Q I h
  refine BoolOp_and (bU (ha pins s σ H _ I h) fun v s1 ⟨x,H1,I1,r1,q1⟩=>?_)
  obtain⟨c,rfl,q1⟩:=q1
  cases r1
  refine wpAny_truthy_bool ?_
  cases c with
  | true=>exact hb pins s1 σ H1 Q I1 q1
  | false=>exact⟨.bl false,H1,I1,rfl,q1⟩
theorem FL(ha:PE X a ta)(hb:PE X (.BoolOp .Or (b::gf) pos) tb):PE X (.BoolOp .Or (a::b::gf) pos) (Hh ta tb):=by
  intro pins s σ H Q I h
  refine BoolOp_or (bU (ha pins s σ H _ I h) fun v s1 ⟨x,H1,I1,r1,q1⟩=>?_)
  obtain⟨c,rfl,q1⟩:=q1
  cases r1
  refine wpAny_truthy_bool ?_
  cases c with
  | false=>exact hb pins s1 σ H1 Q I1 q1
  | true=>exact⟨.bl true,H1,I1,rfl,q1⟩
theorem DR(ha:PE X a ta):PE X (.UnaryOp .Not a pos) (Gn ta):=by
  intro pins s σ H Q I h
  refine UnaryOp_ (bU (ha pins s σ H _ I h) fun v s1 ⟨x,H1,I1,r1,q1⟩=>?_)
  obtain⟨c,rfl,q1⟩:=q1
  cases r1
  exact not_of (wpAny_truthy_bool ⟨.bl (!c),H1,I1,rfl,q1⟩)
end
def gH(K:PySem.W.Frag)(H:Hp)(a:Addr)(xs:List V):Prop:=
  Rd H a (.lst xs)∨
    ∃(o:Obj) (its:Array Value) (n:Nat),K.lookup a=some o∧o.cls=.type "list"∧o.dict=none∧o.data=.seq its n∧its.size≤sizeLine∧aW xs its.toList
def cS(K:PySem.W.Frag)(H:Hp)(a:Addr)(xs:List V):Prop:=
  Rd H a (.tup xs)∨
    ∃(o:Obj) (its:Array Value) (n:Nat),K.lookup a=some o∧o.cls=.type "tuple"∧o.dict=none∧o.data=.seq its n∧its.size≤sizeLine∧aW xs its.toList
def GQ:Value→Option V
  | .none=>some .non
  | .bool b=>some (.bl b)
  | .int i _=>some (.int i)
  | .str x _=>some (.str x)
  | .bytes b _=>some (.byt b)
  | .float b _=>some (.flt b)
  | .ref a=>some (.ref a)
  | .type n=>some (.ty n)
  | _=>none
theorem bD.abs{x:V}{u:Value}(r:bD x u):GQ u=some x:=by
  cases x with
  | non=>cases r;rfl
  | bl _=>cases r;rfl
  | int _=>obtain⟨t,rfl⟩:=r;rfl
  | str _=>obtain⟨t,rfl⟩:=r;rfl
  | byt _=>obtain⟨t,rfl⟩:=r;rfl
  | flt _=>obtain⟨t,rfl⟩:=r;rfl
  | ref _=>cases r;rfl
  | ty _=>cases r;rfl
theorem bD.inj{x y:V}{u:Value}(r:bD x u)(q:bD y u):x=y:=Option.some.inj (r.abs.symm.trans q.abs)
theorem aW.inj:∀{xs ys:List V} {us:List Value},aW xs us→aW ys us→xs=ys
  | _,_,_,.nil,.nil=>rfl
  | _,_,_,.cons r t,.cons r' t'=>by rw [r.inj r',aW.inj t t']
section
variable{X:Cx}{pins:List (Addr × Obj)}{σ:St}{H:Hp}{s:Shared}{a:Addr}{xs ys:List V}
theorem gH.of{K:PySem.W.Frag}(h:H a=some (.lst xs)):gH K H a xs:=.inl (.inl h)
theorem cS.of{K:PySem.W.Frag}(h:H a=some (.tup xs)):cS K H a xs:=.inl (.inl h)
theorem aH.list(I:aH X pins σ H s)(h:gH X.K H a xs):∃its:List Value,aW xs its∧PlainL s.heap a its.toArray∧xs.length≤sizeLine:=by
  rcases h with h | ⟨o,its,n,hk,hc,hd,hs,hz,r⟩
  · obtain⟨z,its,n,r,e⟩:=h.ok I.hok
    exact⟨its,r,⟨_,n,e,rfl,rfl,rfl⟩,z⟩
  · refine⟨its.toList,r,⟨o,n,I.kIn a o hk,hc,hd,by simpa using hs⟩,?_⟩
    have e:=r.length
    simp only [Array.length_toList] at e
    lia
theorem aH.tuple(I:aH X pins σ H s)(h:cS X.K H a xs):∃its:List Value,aW xs its∧IsTup s.heap a its.toArray∧xs.length≤sizeLine:=by
  rcases h with h | ⟨o,its,n,hk,hc,_,hs,hz,r⟩
  · obtain⟨z,its,r,p⟩:=h.ok I.hok
    exact⟨its,r,p.tup,z⟩
  · refine⟨its.toList,r,⟨o,I.kIn a o hk,hc,n,by simpa using hs⟩,?_⟩
    have e:=r.length
    simp only [Array.length_toList] at e
    lia
theorem aH.list_inj(I:aH X pins σ H s)(h:gH X.K H a xs)(h':gH X.K H a ys):xs=ys:=by
  obtain⟨its,r,⟨o,n,e,_,_,d⟩,_⟩:=I.list h
  obtain⟨its',r',⟨o',n',e',_,_,d'⟩,_⟩:=I.list h'
  rw [e] at e';cases e'
  rw [d] at d'
  injection d' with d1 _
  have:its=its':=by simpa using congrArg Array.toList d1
  subst this
  exact r.inj r'
theorem aH.tuple_inj(I:aH X pins σ H s)(h:cS X.K H a xs)(h':cS X.K H a ys):xs=ys:=by
  obtain⟨its,r,⟨o,e,_,n,d⟩,_⟩:=I.tuple h
  obtain⟨its',r',⟨o',e',_,n',d'⟩,_⟩:=I.tuple h'
  rw [e] at e';cases e'
  rw [d] at d'
  injection d' with d1 _
  have:its=its':=by simpa using congrArg Array.toList d1
  subst this
  exact r.inj r'
end
abbrev Cx.wish(X:Cx)(E:Value→Shared→Prop):Cx:={X with xe:=E}
abbrev Cx.nox(X:Cx):Cx:=X.wish fun _ _=>False
theorem Cx.Ok.wish{X:Cx}(ok:X.Ok)(E:Value→Shared→Prop):(X.wish E).Ok:=
  ⟨ok.mod,ok.kind,ok.glob,ok.blt,ok.above,ok.inj,ok.has,ok.cab,ok.hd,ok.frames,ok.stk,ok.exf,ok.bs,ok.bsz,ok.noex,ok.exfs,ok.funs,ok.frf⟩
theorem Cx.Ok.unwish{X:Cx}{E:Value→Shared→Prop}(ok:(X.wish E).Ok):X.Ok:=
  ⟨ok.mod,ok.kind,ok.glob,ok.blt,ok.above,ok.inj,ok.has,ok.cab,ok.hd,ok.frames,ok.stk,ok.exf,ok.bs,ok.bsz,ok.noex,ok.exfs,ok.funs,ok.frf⟩
section
variable{X:Cx}{pins:List (Addr × Obj)}{σ:St}{H:Hp}{s:Shared}{E:Value→Shared→Prop}
theorem aH.wish(I:aH X pins σ H s)(E:Value→Shared→Prop):aH (X.wish E) pins σ H s:=⟨I.ok.wish E,I.os,I.bare,I.base,I.loc,I.cell,I.free,I.freeC,I.pin,I.hok,I.len⟩
theorem aH.unwish(I:aH (X.wish E) pins σ H s):aH X pins σ H s:=⟨I.ok.unwish,I.os,I.bare,I.base,I.loc,I.cell,I.free,I.freeC,I.pin,I.hok,I.len⟩
theorem SP.unwish{D:ur}{f:Flow}{s':Shared}(h:SP (X.wish E) pins D f s'):SP X pins D f s':=by
  cases f with
  | next=>obtain⟨σ',H',I,q⟩:=h;exact⟨σ',H',I.unwish,q⟩
  | brk=>obtain⟨σ',H',I,q⟩:=h;exact⟨σ',H',I.unwish,q⟩
  | cont=>obtain⟨σ',H',I,q⟩:=h;exact⟨σ',H',I.unwish,q⟩
  | ret u=>obtain⟨v,σ',H',I,r,q⟩:=h;exact⟨v,σ',H',I.unwish,r,q⟩
theorem oj.nox{st:List Stmt}{t:TS}(h:oj X.nox st t):oj X st t:=fun pins s σ H D I hw=>
  wpAny_mono (h pins s σ H D (I.wish _) hw) (fun _ _ q=>q.unwish) fun _ _ z=>False.elim z
end
section
variable{X:Cx}{st:Stmt}{gf:List Stmt}{t u:TS}{e:Expr}{te:TE}{pos:Pos}
def Gk:TS:=fun D σ H=>D.nx σ H
def Hl(t u:TS):TS:=fun D σ H=>t {D with nx:=u D} σ H
theorem BE:oj X [] Gk:=fun _ _ σ H _ I h=>wpAny_execs_nil ⟨σ,H,I,h⟩
theorem ze(h1:PS X st t)(h2:oj X gf u):oj X (st::gf) (Hl t u):=by
  intro pins s σ H D I h
  refine wpAny_execs_cons (bU (h1 pins s σ H {D with nx:=u D} I h) fun f s1 q=>?_)
  cases f with
  | next=>
    obtain⟨σ',H',I',q⟩:=q
    exact h2 pins s1 σ' H' D I' q
  | ret v=>exact q
  | brk=>exact q
  | cont=>exact q
theorem BF(h1:PS X st t):oj X [st] t:=by
  intro pins s σ H D I h
  refine wpAny_execs_cons (bU (h1 pins s σ H D I h) fun f s1 q=>?_)
  cases f with
  | next=>exact wpAny_execs_nil q
  | ret v=>exact q
  | brk=>exact q
  | cont=>exact q
theorem aH.quiet{pins:List (Addr × Obj)}{σ:St}{H:Hp}{s:Shared}(I:aH X pins σ H s):interactive X.env=false:=by simp [interactive,I.ok.kind]
def Gj(te:TE):TS:=fun D σ H=>te σ H fun _ H1=>D.nx σ H1
theorem BD(he:PE X e te)(hs:swapsWith e none pos.line X.env=pure false:=by rfl):PS X (.Expr e pos) (Gj te):=by
  intro pins s σ H D I h
  exact wpAny_Expr_any (bU (he pins s σ H _ I h) fun v s1 ⟨x,H1,I1,r1,q1⟩=>⟨σ,H1,I1,q1⟩) I.quiet hs
def Hk(te:TE):TS:=fun D σ H=>te σ H D.rt
theorem D4(he:PE X e te):PS X (.Return (some e) pos) (Hk te):=by
  intro pins s σ H D I h
  exact wpAny_Return_some (bU (he pins s σ H _ I h) fun v s1 ⟨x,H1,I1,r1,q1⟩=>⟨x,σ,H1,I1,r1,q1⟩)
def He(c:TT)(t u:TS):TS:=fun D σ H=>c σ H fun b H1=>if b=true then t D σ H1 else u D σ H1
theorem FQ{c:Expr}{a b:List Stmt}{tc:TT}(hc:PT X c tc)(ha:oj X a t)(hb:oj X b u):PS X (.If c a b pos) (He tc t u):=by
  intro pins s σ H D I h
  refine wpAny_If (bU (hc pins s σ H _ I h) fun d s1 ⟨H1,I1,q1⟩=>?_)
  cases d with
  | true=>exact ha pins s1 σ H1 D I1 q1
  | false=>exact hb pins s1 σ H1 D I1 q1
end
abbrev TG:=V→St→Hp→(St→Hp→Prop)→Prop
abbrev Ah:=List V→St→Hp→(St→Hp→Prop)→Prop
def PG(X:Cx)(target:Expr)(t:TG):Prop:=
  ∀(pins:List (Addr × Obj)) (s:Shared) (σ:St) (H:Hp) (v:V) (u:Value) (Q:St→Hp→Prop),aH X pins σ H s→bD v u→t v σ H Q→
    wpAny (model X.prog X.w) X.A (assign target X.env u) (fun _ s'=>∃σ' H',aH X pins σ' H' s'∧Q σ' H') X.xe s
def xK(X:Cx)(ts:List Expr)(t:Ah):Prop:=
  ∀(pins:List (Addr × Obj)) (s:Shared) (σ:St) (H:Hp) (vs:List V) (us:List Value) (Q:St→Hp→Prop),aH X pins σ H s→aW vs us→t vs σ H Q→
    wpAny (model X.prog X.w) X.A (assignInOrder ((assignEach ts X.env).map (·.2)) us) (fun _ s'=>∃σ' H',aH X pins σ' H' s'∧Q σ' H') X.xe s
abbrev xP:=V→V→V→Hp→(Hp→Prop)→Prop
def C5(X:Cx)(t:xP):Prop:=
  ∀(pins:List (Addr × Obj)) (s:Shared) (σ:St) (H:Hp) (o i v:V) (ov iv u:Value) (Q:Hp→Prop),aH X pins σ H s→bD o ov→bD i iv→bD v u→t o i v H Q→
    wpAny (model X.prog X.w) X.A (setItem ov iv u) (fun _ s'=>∃H',aH X pins σ H' s'∧Q H') X.xe s
abbrev GD:=V→V→Hp→VK→Prop
def Hq(X:Cx)(op:Operator)(t:GD):Prop:=
  ∀(pins:List (Addr × Obj)) (s:Shared) (σ:St) (H:Hp) (x y:V) (v u:Value) (Q:VK),aH X pins σ H s→bD x v→bD y u→t x y H Q→
    wpAny (model X.prog X.w) X.A (inplaceOp op v u) (EP X pins σ Q) X.xe s
section
variable{X:Cx}{pos:Pos}
def vM(i:Nat):TG:=fun v σ H Q=>Q (σ.set i (some v)) H
theorem Bs{i:Nat}{x:Str}(hN:X.N.Nodup)(hi:X.N[i]?=some x)(hx:C3 X.env.scope x)(hf:X.fn x=true∨X.env.scope.names.lookup x=some .local:=by first | exact .inl rfl | exact .inr rfl | assumption):PG X (.Name x pos) (vM i):=by
  intro pins s σ H v u Q I r h
  exact wpAny_assign_Name (mM I hN hi hx r (fun s' I'=>⟨_,H,I',h⟩) hf)
def GS:Ah:=fun vs σ H Q=>vs=[]∧Q σ H
def Fc(t:TG)(u:Ah):Ah:=fun vs σ H Q=>∃v r,vs=v::r∧t v σ H fun σ' H'=>u r σ' H' Q
theorem Bv:xK X [] GS:=by
  intro pins s σ H vs us Q I r h
  obtain⟨e,h⟩:=h
  subst e
  cases r
  exact assignInOrder_nil ⟨σ,H,I,h⟩
theorem y3{e:Expr}{es:List Expr}{t:TG}{u:Ah}(h1:PG X e t)(h2:xK X es u)
    (hs:(assignEach (e::es) X.env).map (·.2)=assign e X.env::(assignEach es X.env).map (·.2):=by rfl):xK X (e::es) (Fc t u):=by
  intro pins s σ H vs us Q I r h
  obtain⟨v,vr,e1,h⟩:=h
  subst e1
  cases r with
  | cons r rr=>
    rw [hs]
    refine assignInOrder_cons (bU (h1 pins s σ H _ _ _ I r h) fun _ s1 ⟨σ1,H1,I1,q1⟩=>?_)
    exact h2 pins s1 σ1 H1 _ _ Q I1 rr q1
def Fg(K:PySem.W.Frag)(n:Nat)(t:Ah):TG:=fun v σ H Q=>∃a xs,v=.ref a∧cS K H a xs∧xs.length=n∧t xs σ H Q
theorem DV{es:List Expr}{k:Nat}{t:Ah}{n:Nat}(hc:X.calm=true)(h:xK X es t)
    (hn:(assignEach es X.env).length=n:=by rfl)(hst:(assignEach es X.env).findIdx? (·.1)=none:=by rfl):PG X (.Tuple es k pos) (Fg X.K n t):=by
  intro pins s σ H v u Q I r hw
  obtain⟨a,xs,e1,hq,hl,hw⟩:=hw
  subst e1
  cases r
  obtain⟨its,rv,ht,hz⟩:=I.tuple hq
  refine assign_Tuple_tuple (I.ok.hd hc) ht (by simp [hn,←hl,rv.length]) hst fun h' hx=>?_
  have I1:aH X pins σ H {s with heap:=h'}:=I.kept (t':=s.toks) fun b o e=>hx b o (Nat.ne_of_lt (Heap.lt_size e)) e
  exact h pins _ σ H xs _ Q I1 (by simpa using rv) hw
def GU(to ti:TE)(t:xP):TG:=fun v σ H Q=>to σ H fun o H1=>ti σ H1 fun i H2=>t o i v H2 fun H3=>Q σ H3
theorem y2{o i:Expr}{to ti:TE}{t:xP}(ho:PE X o to)(hi:PE X i ti)(hs:C5 X t)
    (ha:∀v,assign (.Subscript o i pos) X.env v=(do
      let ov ←holding [v] (eval o X.env)
      let iv ←holding [v,ov] (eval i X.env)
      standAt pos
      holding [v,ov,iv] (setItem ov iv v)
      release [v,ov,iv] []):=by intro _;rfl):PG X (.Subscript o i pos) (GU to ti t):=by
  intro pins s σ H v u Q I r h
  rw [ha]
  refine wpAny_bind (wpAny_holding (bU (ho pins s σ H _ I h) fun ov s1 ⟨x,H1,I1,r1,q1⟩=>?_))
  refine wpAny_bind (wpAny_holding (bU (hi pins s1 σ H1 _ I1 q1) fun iv s2 ⟨y,H2,I2,r2,q2⟩=>?_))
  refine wpAny_bind (wpAny_standAt (wpAny_bind (wpAny_holding (bU (hs pins s2 σ H2 x y v ov iv u _ I2 r1 r2 r q2) fun _ s3 ⟨H3,I3,q3⟩=>?_))))
  exact wpAny_release ⟨σ,H3,I3,q3⟩
def BX(te:TE)(g:TG):TS:=fun D σ H=>te σ H fun x H1=>g x σ H1 D.nx
theorem u_{tg e:Expr}{te:TE}{g:TG}(he:PE X e te)(hg:PG X tg g)(hs:swapsWithSole [tg] e pos.line X.env=pure false:=by rfl)(hw:swappedStores [tg] e X.env=pure none:=by rfl)
    (h1:(assignEach [tg] X.env).map (·.2)=[assign tg X.env]:=by rfl):PS X (.Assign [tg] e pos) (BX te g):=by
  intro pins s σ H D I h
  refine wpAny_Assign_stores (bU (he pins s σ H _ I h) fun v s1 ⟨x,H1,I1,r1,q1⟩=>?_) hs hw
  rw [h1]
  exact bU (hg pins s1 σ H1 x v _ I1 r1 q1) fun _ s2 q=>q
theorem za{i:Nat}{x:Str}{e:Expr}{te:TE}{pos':Pos}(hN:X.N.Nodup)(hi:X.N[i]?=some x)(hx:C3 X.env.scope x)(he:PE X e te)(hs:swapsWith e (some (.Name x pos')) pos.line X.env=pure false:=by rfl)(hf:X.fn x=true∨X.env.scope.names.lookup x=some .local:=by first | exact .inl rfl | exact .inr rfl | assumption):
    PS X (.Assign [.Name x pos'] e pos) (BX te (vM i)):=by
  intro pins s σ H D I h
  refine wpAny_Assign_Name (bU (he pins s σ H _ I h) fun v s1 ⟨y,H1,I1,r1,q1⟩=>?_) hs
  exact mM I1 hN hi hx r1 (fun s2 I2=>⟨_,H1,I2,q1⟩) hf
def Hj(i j:Nat)(ta:TA):TS:=fun D σ H=>ta σ H fun vs H1=>∃v w,vs=[v,w]∧D.nx ((σ.set i (some v)).set j (some w)) H1
theorem D3{i j:Nat}{x y:Str}{a b:Expr}{ta:TA}{px py pt:Pos}{kt k2 pt2}(hc:X.calm=true)(hN:X.N.Nodup)(hi:X.N[i]?=some x)(hj:X.N[j]?=some y)(hij:i≠j)
    (hx:X.env.scope.names.lookup x=some .local)(hy:X.env.scope.names.lookup y=some .local)(ha:PA X [a,b] ta)
    (hw:swappedStores [.Tuple [.Name x px,.Name y py] kt pt] (.Tuple [a,b] k2 pt2) X.env=pure (some [x,y]))
    (hs:swapsWithSole [.Tuple [.Name x px,.Name y py] kt pt] (.Tuple [a,b] k2 pt2) pos.line X.env=pure false:=by rfl):
    PS X (.Assign [.Tuple [.Name x px,.Name y py] kt pt] (.Tuple [a,b] k2 pt2) pos) (Hj i j ta):=by
  intro pins s σ H D I h
  rw [exec_Assign_arm]
  refine wpAny_bind (wpAny_standAt ?_)
  rw [hs]
  refine wpAny_bind (wpAny_pure ?_)
  rw [if_neg (by decide)]
  refine wpAny_bind (Tuple_ (bU (ha _ pins s σ H _ I h) fun us s1 ⟨vs,H1,I1,r1,q1⟩=>?_))
  obtain⟨v,w,e1,q1⟩:=q1
  subst e1
  obtain⟨u1,u2,rfl,rv,rw'⟩:∃u1 u2,us=[u1,u2]∧bD v u1∧bD w u2:=by
    cases r1 with
    | cons p q=>
      cases q with
      | cons p' q'=>
        cases q'
        exact⟨_,_,rfl,p,p'⟩
  refine wpAny_newObj_type ?_ (by show 2≤sizeLine;decide)
  have I2:aH X pins σ H1 {s1 with heap:=s1.heap.push {cls:=.type "tuple",data:=.seq [u1,u2].toArray}}:=I1.kept (t':=s1.toks) fun b o e=>Heap.get?_push_of_some _ e
  rw [hw]
  refine wpAny_bind (wpAny_pure ?_)
  show wpAny (model X.prog X.w) X.A (do rule "assign.swapped-stores";let items ←unpackItems (.ref s1.heap.objs.size) 2 none;assignInOrder [fun v=>bindName X.env y v,fun v=>bindName X.env x v] items.reverse;pure Flow.next) _ _ _
  refine wpAny_bind (wpAny_rule (wpAny_bind (unpackItems_tuple (items:=#[u1,u2]) (I.ok.hd hc) (IsTup.new s1.heap _) fun h' hx'=>?_)))
  have I3:=I2.kept (h':=h') (t':=s1.toks) fun b o e=>hx' b o (Nat.ne_of_lt (Heap.lt_size e)) e
  show wpAny _ _ (assignInOrder [fun v=>bindName X.env y v,fun v=>bindName X.env x v] [u2,u1] >>= fun _=>pure Flow.next) _ _ _
  refine wpAny_bind (assignInOrder_cons (wpAny_bindName (mM I3 hN hj (.inl hy) rw' (fun s2 I4=>?_) (.inr hy))))
  refine assignInOrder_cons (wpAny_bindName (mM I4 hN hi (.inl hx) rv (fun s3 I5=>assignInOrder_nil (wpAny_pure ?_)) (.inr hx)))
  rw [List.set_comm _ _ (Ne.symm hij)] at I5
  exact⟨_,H1,I5,q1⟩
def Gi(to ti te:TE)(tget:V→V→Hp→VK→Prop)(tip:GD)(tset:xP):TS:=fun D σ H=>to σ H fun o H1=>ti σ H1 fun i H2=>tget o i H2 fun x H3=>te σ H3 fun y H4=>tip x y H4 fun z H5=>tset o i z H5 fun H6=>D.nx σ H6
def ET(X:Cx)(t:V→V→Hp→VK→Prop):Prop:=
  ∀(pins:List (Addr × Obj)) (s:Shared) (σ:St) (H:Hp) (o i:V) (ov iv:Value) (Q:VK),aH X pins σ H s→bD o ov→bD i iv→t o i H Q→
    wpAny (model X.prog X.w) X.A (getItem ov iv) (EP X pins σ Q) X.xe s
theorem BC{o i e:Expr}{to ti te:TE}{tget:V→V→Hp→VK→Prop}{tip:GD}{tset:xP}{op:Operator}{tpos:Pos}(ho:PE X o to)(hi:PE X i ti)(hg:ET X tget)(he:PE X e te)(hp:Hq X op tip)(hs:C5 X tset)
    (ha:∀ov iv new,augStore i ov iv new=(do holding [new,ov,iv] (setItem ov iv new);release [new,ov,iv] [];pure .next):=by intros;rfl):PS X (.AugAssign (.Subscript o i tpos) op e pos) (Gi to ti te tget tip tset):=by
  intro pins s σ H D I h
  refine wpAny_AugAssign_SubscriptAny (bU (ho pins s σ H _ I h) fun ov s1 ⟨x1,H1,I1,r1,q1⟩=>?_) ha
  refine bU (hi pins s1 σ H1 _ I1 q1) fun iv s2 ⟨x2,H2,I2,r2,q2⟩=>?_
  refine bU (hg pins s2 σ H2 x1 x2 ov iv _ I2 r1 r2 q2) fun old s3 ⟨x3,H3,I3,r3,q3⟩=>?_
  refine bU (he pins s3 σ H3 _ I3 q3) fun v s4 ⟨x4,H4,I4,r4,q4⟩=>?_
  refine bU (hp pins s4 σ H4 x3 x4 old v _ I4 r3 r4 q4) fun new s5 ⟨x5,H5,I5,r5,q5⟩=>?_
  exact bU (hs pins s5 σ H5 x1 x2 x5 ov iv new _ I5 r1 r2 r5 q5) fun _ s6 ⟨H6,I6,q6⟩=>⟨σ,H6,I6,q6⟩
def HM(f:Int→Int→Int):GD:=fun x y H Q=>∃i j,x=.int i∧y=.int j∧Q (.int (f i j)) H
theorem Dg:Hq X .Add (HM fun i j=>i+j):=by
  intro pins s σ H x y v u Q I r1 r2 h
  obtain⟨i,j,e1,e2,q⟩:=h
  subst e1;subst e2
  obtain⟨t,rfl⟩:=r1
  obtain⟨t',rfl⟩:=r2
  exact iadd_int ⟨.int _,H,I.tok _,⟨_,rfl⟩,q⟩
end
section
variable{X:Cx}{pos:Pos}
def Ew(c:TT)(tb:TS):TS:=fun D σ H=>∃W:Nat→St→Hp→Prop,(∃m,W m σ H)∧∀m σ H,W m σ H→
  c σ H fun b H1=>if b=true then ∃N:St→Hp→Prop,(∀σ' H',N σ' H'→∃m',m' < m∧W m' σ' H')∧tb {D with nx:=N,ct:=N,bk:=D.nx} σ H1 else D.nx σ H1
theorem zc{c:Expr}{body:List Stmt}{tc:TT}{tb:TS}(hp:PassesOwn (model X.prog X.w) X.A X.env X.xe)(hc:PT X c tc)(hb:oj X body tb):PS X (.While c body [] pos) (Ew tc tb):=by
  intro pins s σ H D I h
  obtain⟨W,⟨m0,w0⟩,turn⟩:=h
  refine wpAny_While (codeAny_whileLoop (fun n s'=>∃σ' H',aH X pins σ' H' s'∧W n σ' H') ?_ m0 ⟨σ,H,I,w0⟩)
  rintro n s1 ⟨σ1,H1,I1,w1⟩
  refine wpAny_passesOwn hp (bU (hc pins s1 σ1 H1 _ I1 (turn n σ1 H1 w1)) fun b s2 ⟨H2,I2,q2⟩=>?_)
  cases b with
  | true=>
    obtain⟨N,hN,q2⟩:=q2
    rw [if_pos rfl]
    refine wpAny_passesOwn hp (bU (hb pins s2 σ1 H2 _ I2 q2) fun f s3 q3=>?_)
    cases f with
    | next=>
      obtain⟨σ3,H3,I3,n3⟩:=q3
      obtain⟨m',hm,w3⟩:=hN σ3 H3 n3
      exact⟨m',hm,σ3,H3,I3,w3⟩
    | cont=>
      obtain⟨σ3,H3,I3,n3⟩:=q3
      obtain⟨m',hm,w3⟩:=hN σ3 H3 n3
      exact⟨m',hm,σ3,H3,I3,w3⟩
    | brk=>exact q3
    | ret v=>exact q3
  | false=>
    rw [if_neg Bool.false_ne_true]
    exact wpAny_execs_nil ⟨σ1,H2,I2,q2⟩
end
structure It where
  go:Nat→Hp→Prop
  yld:Nat→Hp→V→Hp→Prop
  stop:Nat→Hp→Prop
def iL(X:Cx)(pins:List (Addr × Obj))(H:Hp)(b:Addr):Prop:=
  H b=none∧b≠X.env.locals∧b∉X.fs∧(b∈X.ex∨X.s₀.heap.objs.size≤b)∧(∀x c,X.env.cells.lookup x=some c→c≠b)∧∀p∈X.pn++pins,p.1≠b
theorem aH.fpOk{X:Cx}{pins:List (Addr × Obj)}{σ:St}{H H':Hp}{s:Shared}{b:Addr}(I:aH X pins σ H s)(hb:s.heap.objs.size≤b)(hn:H' b=none):iL X pins H' b:=by
  refine⟨hn,Nat.ne_of_gt (Nat.lt_of_lt_of_le I.lt hb),I.nofs hb,.inr (Nat.le_trans I.sz hb),fun x c e z=>?_,fun p hp z=>?_⟩
  · obtain⟨v,q⟩:=I.cell x c e
    exact absurd (Nat.lt_of_lt_of_le q.lt (by rw [z];exact hb)) (Nat.lt_irrefl _)
  · exact absurd (Nat.lt_of_lt_of_le (Heap.lt_size (I.pin p hp).1) (by rw [z];exact hb)) (Nat.lt_irrefl _)
structure uv (P:Program) (w:World) (K:PySem.W.Frag) (tg:Expr) (J:It) (fp:List Addr) (it:Addr) (tn:Nat→Heap→Prop):Prop where
  mem:it∈fp
  obj:∀i h,tn i h→∀b∈fp,∃o,h.get? b=some o∧∀v,o.data≠.cell v
  keep:∀i h h',tn i h→(∀b∈fp,∀o,h.get? b=some o→h'.get? b=some o)→tn i h'
  item:∀(X:Cx),X.prog=P→X.w=w→X.K=K→X.calm=true→∀(i:Nat) (pins:List (Addr × Obj)) (s:Shared) (σ:St) (H:Hp) (E:Value→Shared→Prop),aH X pins σ H s→(∀b∈fp,iL X pins H b)→tn i s.heap→J.go i H→
    wpAny (model P w) X.A (pyNext (.ref it)) (fun r s1=>∃u,r=some u∧
      wpAny (model P w) X.A (letOwnedTupleGo tg (.ref it) u) (fun _ s2=>∃x H',aH X pins σ H' s2∧bD x u∧J.yld i H x H'∧tn (i+1) s2.heap∧∀b∈fp,H' b=none) E s1) E s
  done:∀(X:Cx),X.prog=P→X.w=w→X.K=K→X.calm=true→∀(i:Nat) (pins:List (Addr × Obj)) (s:Shared) (σ:St) (H:Hp) (E:Value→Shared→Prop),aH X pins σ H s→(∀b∈fp,iL X pins H b)→tn i s.heap→J.stop i H→
    wpAny (model P w) X.A (pyNext (.ref it)) (fun r s1=>r=none∧aH X pins σ H s1) E s
  self:∀(A:Around) (i:Nat) (s:Shared) (Q:Value→Shared→Prop) (E:Value→Shared→Prop),tn i s.heap→Q (.ref it) s→wpAny (model P w) A (pyIter (.ref it)) Q E s
abbrev TI:=St→Hp→(It→Hp→Prop)→Prop
def Ho(X:Cx)(pins:List (Addr × Obj))(σ:St)(tg:Expr)(R:It→Hp→Prop)(itv:Value)(s2:Shared):Prop:=
  ∃(it:Addr) (fp:List Addr) (tn:Nat→Heap→Prop) (J:It) (H':Hp),itv=.ref it∧aH X pins σ H' s2∧uv X.prog X.w X.K tg J fp it tn∧tn 0 s2.heap∧(∀b∈fp,iL X pins H' b)∧R J H'
def PI(X:Cx)(tg iter:Expr)(wi:TI):Prop:=
  ∀(pins:List (Addr × Obj)) (s:Shared) (σ:St) (H:Hp) (R:It→Hp→Prop),aH X pins σ H s→wi σ H R→
    wpAny (model X.prog X.w) X.A (eval iter X.env) (fun v s1=>wpAny (model X.prog X.w) X.A (pyIter v) (Ho X pins σ tg R) X.xe s1) X.xe s
theorem ym{M:Model}{A:Around}{E:Value→Shared→Prop}{s:Shared}{tg:Expr}{it:Addr}{u:Value}{o:Obj}{n:String}{vs:Array Value}{Q:Unit→Shared→Prop}(ho:s.heap.get? it=some o)(hc:o.cls=.type n)(hd:o.data=.fields vs)
    (hn:["enumerate","zip","dict_itemiterator","dict_reverseitemiterator","odict_iterator","itertools.zip_longest","itertools.pairwise"].contains n=false)(hQ:Q () s):wpAny M A (letOwnedTupleGo tg (.ref it) u) Q E s:=by
  unfold letOwnedTupleGo
  cases tg<;>first
    | exact wpAny_pure hQ
    | (cases u<;>first
        | exact wpAny_pure hQ
        | (refine wpAny_bind (wpAny_load ho ?_)
           rw [hc,hd]
           show wpAny M A (if (["enumerate","zip","dict_itemiterator","dict_reverseitemiterator","odict_iterator","itertools.zip_longest","itertools.pairwise"].contains n&&vs[0]?==some (rawInt _))=true then _ else _) Q E s
           rw [if_neg (by intro h;rw [hn,Bool.false_and] at h;cases h)]
           exact wpAny_pure hQ))
def GK(K:PySem.W.Frag)(a:Addr):It:=
  ⟨fun i H=>∃xs x,gH K H a xs∧xs[i]?=some x,fun i H x H'=>H'=H∧∀xs,gH K H a xs→xs[i]?=some x,fun i H=>∃xs,gH K H a xs∧xs.length≤i⟩
def GL(K:PySem.W.Frag)(a:Addr):It:=
  ⟨fun i H=>∃xs x,cS K H a xs∧xs[i]?=some x,fun i H x H'=>H'=H∧∀xs,cS K H a xs→xs[i]?=some x,fun i H=>∃xs,cS K H a xs∧xs.length≤i⟩
def Gz(lo:Int)(n:Nat):It:=⟨fun i _=>i < n,fun i H x H'=>H'=H∧x=.int (lo+i),fun i _=>n≤i⟩
theorem xG{P:Program}{w:World}{K:PySem.W.Frag}{tg:Expr}(a it:Addr):uv P w K tg (GK K a) [it] it (fun i h=>h.IsListIter it a i) where
  mem:=by simp
  obj:=fun i h st b hb=>by
    have e:b=it:=by simpa using hb
    subst e
    obtain⟨o,e,c,d⟩:=st
    exact⟨o,e,fun v z=>by rw [d] at z;cases z⟩
  keep:=fun i h h' st k=>st.at fun o e=>k it (by simp) o e
  item:=by
    intro X hP hw hK hc i pins s σ H E I hf st hg
    subst hP hw hK
    obtain⟨xs,x,hq,hx⟩:=hg
    obtain⟨its,rv,p,hz⟩:=I.list hq
    obtain⟨u,hu,ru⟩:=rv.get hx
    obtain⟨f0,f1,f2,f3,f4,f5⟩:=hf it (by simp)
    refine wpAny_pyNext_list_item st p.isList (x:=u) (by simpa using hu) fun h' st' sb=>?_
    have I1:aH X pins σ H {s with heap:=h'}:=I.turned (t':=s.toks) (fun b o hb e=>(sb.2 b hb).trans e) f0 f1 f3 f4 f5
    obtain⟨o,e,c,d⟩:=id st'
    exact⟨u,rfl,ym (s:={s with heap:=h'}) e c d (by decide) ⟨x,H,I1,ru,⟨rfl,fun ys hy=>by rw [I.list_inj hy hq];exact hx⟩,st',fun b hb=>(hf b hb).1⟩⟩
  done:=by
    intro X hP hw hK hc i pins s σ H E I hf st hg
    subst hP hw hK
    obtain⟨xs,hq,hx⟩:=hg
    obtain⟨its,rv,p,hz⟩:=I.list hq
    obtain⟨f0,f1,f2,f3,f4,f5⟩:=hf it (by simp)
    have hl:=rv.length
    exact wpAny_pyNext_list_end (I.ok.hd hc) st p.isList (by simp;lia) fun h' eb=>⟨rfl,I.turned (t':=s.toks) (fun b o hb e=>eb b o hb e) f0 f1 f3 f4 f5⟩
  self:=fun _ _ _ _ _ st h=>wpAny_pyIter_listiter st h
theorem vp{P:Program}{w:World}{K:PySem.W.Frag}{tg:Expr}(a it:Addr):uv P w K tg (GL K a) [it] it (fun i h=>h.IsTupleIter it a i) where
  mem:=by simp
  obj:=fun i h st b hb=>by
    have e:b=it:=by simpa using hb
    subst e
    obtain⟨o,e,c,d⟩:=st
    exact⟨o,e,fun v z=>by rw [d] at z;cases z⟩
  keep:=fun i h h' st k=>st.at fun o e=>k it (by simp) o e
  item:=by
    intro X hP hw hK hc i pins s σ H E I hf st hg
    subst hP hw hK
    obtain⟨xs,x,hq,hx⟩:=hg
    obtain⟨its,rv,p,hz⟩:=I.tuple hq
    obtain⟨u,hu,ru⟩:=rv.get hx
    obtain⟨f0,f1,f2,f3,f4,f5⟩:=hf it (by simp)
    refine wpAny_pyNext_tuple_item st (show s.heap.IsTuple a its.toArray from p) (x:=u) (by simpa using hu) fun h' st' sb=>?_
    have I1:aH X pins σ H {s with heap:=h'}:=I.turned (t':=s.toks) (fun b o hb e=>(sb.2 b hb).trans e) f0 f1 f3 f4 f5
    obtain⟨o,e,c,d⟩:=id st'
    exact⟨u,rfl,ym (s:={s with heap:=h'}) e c d (by decide) ⟨x,H,I1,ru,⟨rfl,fun ys hy=>by rw [I.tuple_inj hy hq];exact hx⟩,st',fun b hb=>(hf b hb).1⟩⟩
  done:=by
    intro X hP hw hK hc i pins s σ H E I hf st hg
    subst hP hw hK
    obtain⟨xs,hq,hx⟩:=hg
    obtain⟨its,rv,p,hz⟩:=I.tuple hq
    obtain⟨f0,f1,f2,f3,f4,f5⟩:=hf it (by simp)
    have hl:=rv.length
    exact wpAny_pyNext_tuple_end (I.ok.hd hc) st (show s.heap.IsTuple a its.toArray from p) (by simp;lia) fun h' eb=>⟨rfl,I.turned (t':=s.toks) (fun b o hb e=>eb b o hb e) f0 f1 f3 f4 f5⟩
  self:=fun _ _ _ _ _ st h=>wpAny_pyIter_tupleiter st h
theorem vo{P:Program}{w:World}{K:PySem.W.Frag}{tg:Expr}(it:Addr)(lo:Int)(n:Nat):uv P w K tg (Gz lo n) [it] it (fun i h=>IsRangeIter h it (lo+(i:Nat)*1) ((n:Int) - (i:Nat)) 1) where
  mem:=by simp
  obj:=fun i h st b hb=>by
    have e:b=it:=by simpa using hb
    subst e
    exact⟨_,st,fun v z=>by
      have z':Data.fields _=Data.cell v:=z
      cases z'⟩
  keep:=fun i h h' st k=>k it (by simp) _ st
  item:=by
    intro X hP hw hK hc i pins s σ H E I hf st hg
    subst hP hw hK
    obtain⟨f0,f1,f2,f3,f4,f5⟩:=hf it (by simp)
    have W:=Walks.range (prog:=X.prog) (w:=X.w) (I.ok.hd hc) it lo 1 n
    refine W.item i s _ _ hg st fun v h' tk hv st' kk=>?_
    obtain⟨t,rfl⟩:=hv
    have I1:aH X pins σ H {s with heap:=h',toks:=tk}:=I.turned (fun b o hb e=>kk b o (by simpa using hb) e) f0 f1 f3 f4 f5
    refine⟨_,rfl,ym (s:={s with heap:=h',toks:=tk}) (n:="range_iterator") st' rfl rfl (by decide) ⟨.int (lo+i),H,I1,⟨t,?_⟩,⟨rfl,rfl⟩,st',fun b hb=>(hf b hb).1⟩⟩
    rw [Int.mul_one]
  done:=by
    intro X hP hw hK hc i pins s σ H E I hf st hg
    subst hP hw hK
    obtain⟨f0,f1,f2,f3,f4,f5⟩:=hf it (by simp)
    exact wpAny_pyNext_range_end (I.ok.hd hc) st (by have:n≤i:=hg;lia) fun h' eb=>⟨rfl,I.turned (t':=s.toks) (fun b o hb e=>eb b o hb e) f0 f1 f3 f4 f5⟩
  self:=fun _ _ _ _ _ st h=>wpAny_pyIter_rangeiter st h
section
variable{X:Cx}{tg:Expr}
def Cy(K:PySem.W.Frag)(tl:TE):TI:=fun σ H R=>tl σ H fun x H1=>∃a,x=.ref a∧(∃xs,gH K H1 a xs)∧R (GK K a) H1
def Fi(K:PySem.W.Frag)(tl:TE):TI:=fun σ H R=>tl σ H fun x H1=>∃a,x=.ref a∧(∃xs,cS K H1 a xs)∧R (GL K a) H1
theorem Bw{l:Expr}{tl:TE}(hl:PE X l tl):PI X tg l (Cy X.K tl):=by
  intro pins s σ H R I h
  refine bU (hl pins s σ H _ I h) fun v s1 ⟨x,H1,I1,r1,q1⟩=>?_
  obtain⟨a,e,⟨xs,hq⟩,q⟩:=q1
  subst e
  cases r1
  obtain⟨its,rv,p,hz⟩:=I1.list hq
  refine wpAny_pyIter_list p.isList ?_
  refine⟨s1.heap.objs.size,[s1.heap.objs.size],_,_,H1,rfl,I1.kept (t':=s1.toks) fun b o e=>Heap.get?_push_of_some _ e,xG a _,⟨_,Heap.get?_push_size _ rfl,rfl,rfl⟩,fun b hb=>?_,q⟩
  have e:b=s1.heap.objs.size:=by simpa using hb
  subst e
  exact I1.fpOk (Nat.le_refl _) (I1.hok.fresh (Nat.le_refl _))
theorem DX{l:Expr}{tl:TE}(hl:PE X l tl):PI X tg l (Fi X.K tl):=by
  intro pins s σ H R I h
  refine bU (hl pins s σ H _ I h) fun v s1 ⟨x,H1,I1,r1,q1⟩=>?_
  obtain⟨a,e,⟨xs,hq⟩,q⟩:=q1
  subst e
  cases r1
  obtain⟨its,rv,p,hz⟩:=I1.tuple hq
  refine wpAny_pyIter_tuple (show s1.heap.IsTuple a its.toArray from p) ?_
  refine⟨s1.heap.objs.size,[s1.heap.objs.size],_,_,H1,rfl,I1.kept (t':=s1.toks) fun b o e=>Heap.get?_push_of_some _ e,vp a _,⟨_,Heap.get?_push_size _ rfl,rfl,rfl⟩,fun b hb=>?_,q⟩
  have e:b=s1.heap.objs.size:=by simpa using hb
  subst e
  exact I1.fpOk (Nat.le_refl _) (I1.hok.fresh (Nat.le_refl _))
theorem zu{pins:List (Addr × Obj)}{σ:St}{H:Hp}{s:Shared}{R:It→Hp→Prop}{E:Value→Shared→Prop}{lo hi:Int}{t u v:Tok}{tk:Nat}(I:aH X pins σ H s)(h1: -(2 ^ 62)≤lo)(h2:lo < 2 ^ 62)(h3: -(2 ^ 62)≤hi)(h4:hi < 2 ^ 62)
    (q:R (Gz lo (hi - lo).toNat) H):wpAny (model X.prog X.w) X.A (pyIter (.ref s.heap.objs.size)) (Ho X pins σ tg R) E {s with heap:=s.heap.push {cls:=.type "range",data:=.fields #[.int lo t,.int hi u,.int 1 v]},toks:=tk}:=by
  refine wpAny_pyIter_range (IsRange.new ..) (small_one h1 h2 h3 h4) ?_
  have I1:aH X pins σ H {s with heap:=s.heap.push {cls:=.type "range",data:=.fields #[.int lo t,.int hi u,.int 1 v]},toks:=tk}:=I.kept fun b o e=>Heap.get?_push_of_some _ e
  refine⟨(s.heap.push {cls:=.type "range",data:=.fields #[.int lo t,.int hi u,.int 1 v]}).objs.size,[(s.heap.push {cls:=.type "range",data:=.fields #[.int lo t,.int hi u,.int 1 v]}).objs.size],_,_,H,rfl,
    I1.kept (t':=tk) fun b o e=>Heap.get?_push_of_some _ e,vo _ lo (hi - lo).toNat,?_,fun b hb=>?_,q⟩
  · have e1:lo+((0:Nat):Int)*1=lo:=by simp
    have e2:(((hi - lo).toNat:Nat):Int) - ((0:Nat):Int)=Builtin.Range.rangeSize lo hi 1:=by rw [rangeSize_one];split<;>lia
    show IsRangeIter _ _ (lo+((0:Nat):Int)*1) ((((hi - lo).toNat:Nat):Int) - ((0:Nat):Int)) 1
    rw [e1,e2]
    exact Heap.get?_push_size _ rfl
  · have e:b=(s.heap.push {cls:=.type "range",data:=.fields #[.int lo t,.int hi u,.int 1 v]}).objs.size:=by simpa using hb
    subst e
    exact I1.fpOk (Nat.le_refl _) (I1.hok.fresh (Nat.le_refl _))
def Fh(ta:TA):TI:=fun σ H R=>ta σ H fun vs H1=>∃j:Int,vs=[.int j]∧ -(2 ^ 62)≤j∧j < 2 ^ 62∧R (Gz 0 j.toNat) H1
theorem xq{a:Expr}{ta:TA}{p pos:Pos}(hg:Gl X "range")(hm:X.mg "range"=none)(ha:PA X [a] ta)(hs:starEach [a] X.env=[(false,eval a X.env)]:=by rfl):PI X tg (.Call (.Name "range" p) [a] [] pos) (Fh ta):=by
  intro pins s σ H R I h
  refine Call_ (jy I hg hm boot_range (PyProof.Rows.callWith_type1 (bU (ha pos pins s σ H _ I h) fun us s1 ⟨vs,H1,I1,r1,q1⟩=>?_) hs rfl))
  obtain⟨j,e,q1,q2,q⟩:=q1
  subst e
  cases r1 with
  | cons r rr=>
    cases rr
    obtain⟨t,rfl⟩:=r
    exact call_range_1 (zu I1 (by lia) (by lia) q1 q2 (by simpa using q))
def Hd(wi:TI)(g:TG)(tb:TS):TS:=fun D σ H=>wi σ H fun J H1=>∃W:Nat→Nat→St→Hp→Prop,(∃m,W 0 m σ H1)∧∀i m σ H,W i m σ H→
  (J.stop i H∧D.nx σ H)∨(J.go i H∧∃N:St→Hp→Prop,(∀σ' H',N σ' H'→∃m',m' < m∧W (i+1) m' σ' H')∧∀x H',J.yld i H x H'→g x σ H' fun σ2 H2=>tb {D with nx:=N,ct:=N,bk:=D.nx} σ2 H2)
def kv(fp:List Addr)(h:Heap):List (Addr × Obj):=fp.filterMap fun b=>(h.get? b).map fun o=>(b,o)
theorem ce{fp:List Addr}{h:Heap}{b:Addr}{o:Obj}(hb:b∈fp)(e:h.get? b=some o):(b,o)∈kv fp h:=List.mem_filterMap.mpr ⟨b,hb,by rw [e];rfl⟩
theorem xc{fp:List Addr}{h:Heap}{p:Addr × Obj}(hp:p∈kv fp h):p.1∈fp∧h.get? p.1=some p.2:=by
  obtain⟨b,hb,e⟩:=List.mem_filterMap.mp hp
  cases q:h.get? b with
  | none=>rw [q] at e;cases e
  | some o=>
    rw [q] at e
    have e':(b,o)=p:=Option.some.inj e
    subst e'
    exact⟨hb,q⟩
theorem aH.pinned{pins:List (Addr × Obj)}{σ:St}{H:Hp}{s:Shared}{fp:List Addr}(I:aH X pins σ H s)(hf:∀b∈fp,iL X pins H b)(ho:∀b∈fp,∃o,s.heap.get? b=some o∧∀v,o.data≠.cell v):aH X (pins++kv fp s.heap) σ H s:=
  I.pins_of fun p hp=>(KZ hp).elim (fun z=>I.pin p (List.mem_append_right _ z)) fun z=>by
    obtain⟨hb,e⟩:=xc z
    obtain⟨f0,f1,f2,_⟩:=hf p.1 hb
    obtain⟨o,e',d⟩:=ho p.1 hb
    rw [e] at e';cases e'
    exact⟨e,f0,f1,f2,d⟩
theorem aH.unpinned{pins pl:List (Addr × Obj)}{σ:St}{H:Hp}{s:Shared}(I:aH X (pins++pl) σ H s):aH X pins σ H s:=I.pins_of fun p hp=>I.pin p (List.mem_append_right _ (List.mem_append_left _ hp))
theorem DZ{iter:Expr}{body:List Stmt}{wi:TI}{g:TG}{tb:TS}{pos:Pos}(hp:PassesOwn (model X.prog X.w) X.A X.env X.xe)(hc:X.calm=true)(hi:PI X tg iter wi)(hg:PG X tg g)(hb:oj X body tb)
    (hs:∀x,foldedSetIterable iter X.env x=pure x:=by intro _;rfl):PS X (.For tg iter body [] pos) (Hd wi g tb):=by
  intro pins s σ H D I h
  refine wpAny_For (bU (hi pins s σ H _ I h) fun v s1 h1=>bU h1 fun itv s2 h2=>?_) hs
  obtain⟨it,fp,tn,J,H2,e,I2,T,st2,f2,W,⟨m0,w0⟩,turn⟩:=h2
  subst e
  have stat:∀{H':Hp},(∀b∈fp,H' b=none)→∀b∈fp,iL X pins H' b:=fun hn b hb=>⟨hn b hb,(f2 b hb).2⟩
  refine codeAny_forLoop_any (fun n s'=>∃i σ' H',aH X pins σ' H' s'∧tn i s'.heap∧(∀b∈fp,H' b=none)∧W i n σ' H') ?_ m0 ⟨0,σ,H2,I2,st2,fun b hb=>(f2 b hb).1,w0⟩
  rintro n s3 ⟨i,σ3,H3,I3,st3,fr3,w3⟩
  rcases turn i n σ3 H3 w3 with ⟨stop,qn⟩ | ⟨go,N,hN,step⟩
  · refine wpAny_passesOwn hp (bU (T.done X rfl rfl rfl hc i pins s3 σ3 H3 X.xe I3 (stat fr3) st3 stop) fun r s4 ⟨hr,I4⟩=>?_)
    subst hr
    exact wpAny_execs_nil ⟨σ3,H3,I4,qn⟩
  · refine wpAny_passesOwn hp (bU (T.item X rfl rfl rfl hc i pins s3 σ3 H3 X.xe I3 (stat fr3) st3 go) fun r s4 ⟨u,hr,h4⟩=>?_)
    subst hr
    refine wpAny_passesOwn hp (bU h4 fun _ s5 ⟨x,H5,I5,r5,y5,st5,fr5⟩=>?_)
    have I5':=I5.pinned (stat fr5) (T.obj _ _ st5)
    refine wpAny_passesOwn hp (bU (hg _ s5 σ3 H5 x u _ I5' r5 (step x H5 y5)) fun _ s6 ⟨σ6,H6,I6,q6⟩=>?_)
    refine wpAny_passesOwn hp (bU (hb _ s6 σ6 H6 _ I6 q6) fun f s7 q7=>?_)
    have again:∀{σ7:St} {H7:Hp},aH X (pins++kv fp s5.heap) σ7 H7 s7→N σ7 H7→∃m,m < n∧∃i σ' H',aH X pins σ' H' s7∧tn i s7.heap∧(∀b∈fp,H' b=none)∧W i m σ' H':=fun{σ7 H7} I7 n7=>by
      obtain⟨m',hm,w7⟩:=hN σ7 H7 n7
      refine⟨m',hm,i+1,σ7,H7,I7.unpinned,T.keep _ _ _ st5 fun b hb o e=>(I7.pin (b,o) (List.mem_append_right _ (List.mem_append_right _ (ce hb e)))).1,fun b hb=>?_,w7⟩
      obtain⟨o,e,d⟩:=T.obj _ _ st5 b hb
      exact(I7.pin (b,o) (List.mem_append_right _ (List.mem_append_right _ (ce hb e)))).2.1
    cases f with
    | next=>obtain⟨σ7,H7,I7,n7⟩:=q7;exact again I7 n7
    | cont=>obtain⟨σ7,H7,I7,n7⟩:=q7;exact again I7 n7
    | brk=>obtain⟨σ7,H7,I7,q7⟩:=q7;exact⟨σ7,H7,I7.unpinned,q7⟩
    | ret v=>obtain⟨x7,σ7,H7,I7,r7,q7⟩:=q7;exact⟨x7,σ7,H7,I7.unpinned,r7,q7⟩
end
abbrev R2:=V→V→Hp→VK→Prop
def h8(X:Cx)(f:Value→Value→Sem Value)(r:R2):Prop:=
  ∀(pins:List (Addr × Obj)) (s:Shared) (σ:St) (H:Hp) (x y:V) (v u:Value) (Q:VK),aH X pins σ H s→bD x v→bD y u→r x y H Q→
    wpAny (model X.prog X.w) X.A (f v u) (EP X pins σ Q) X.xe s
def GE(X:Cx)(f:Value→Sem Value)(r:V→Hp→VK→Prop):Prop:=
  ∀(pins:List (Addr × Obj)) (s:Shared) (σ:St) (H:Hp) (x:V) (v:Value) (Q:VK),aH X pins σ H s→bD x v→r x H Q→
    wpAny (model X.prog X.w) X.A (f v) (EP X pins σ Q) X.xe s
def d_(X:Cx)(f:Value)(r:List V→Hp→VK→Prop):Prop:=
  ∀(pins:List (Addr × Obj)) (s:Shared) (σ:St) (H:Hp) (xs:List V) (us:List Value) (Q:VK),aH X pins σ H s→aW xs us→r xs H Q→
    wpAny (model X.prog X.w) X.A (call f us) (EP X pins σ Q) X.xe s
def Gp(r:R2)(ta tb:TE):TE:=fun σ H Q=>ta σ H fun x H1=>tb σ H1 fun y H2=>r x y H2 Q
def Hy(r:V→Hp→VK→Prop)(ta:TE):TE:=fun σ H Q=>ta σ H fun x H1=>r x H1 Q
def rI(C:Int→Int→Prop)(g:Int→Int→V):R2:=fun x y H Q=>∃i j,x=.int i∧y=.int j∧C i j∧Q (g i j) H
def ve(g:Int→Int→V):R2:=fun x y H Q=>∃i j,x=.int i∧y=.int j∧Q (g i j) H
def rU(g:Int→V):V→Hp→VK→Prop:=fun x H Q=>∃i,x=.int i∧Q (g i) H
section
variable{X:Cx}{a b c:Expr}{ta tb tc:TE}{pos:Pos}
theorem C7(ha:PE X a ta)(hb:PE X b tb){pins:List (Addr × Obj)}{s:Shared}{σ:St}{H:Hp}{R:V→V→Hp→Prop}(I:aH X pins σ H s)
    (h:ta σ H fun x H1=>tb σ H1 fun y H2=>R x y H2){Q:Value→Shared→Prop}{f:Value→Value→Sem Value}
    (hf:∀v u s2 x y H2,aH X pins σ H2 s2→bD x v→bD y u→R x y H2→wpAny (model X.prog X.w) X.A (f v u) Q X.xe s2):
    wpAny (model X.prog X.w) X.A (eval a X.env) (fun v s₁=>wpAny (model X.prog X.w) X.A (eval b X.env) (fun u s₂=>wpAny (model X.prog X.w) X.A (f v u) Q X.xe s₂) X.xe s₁) X.xe s:=by
  refine bU (ha pins s σ H _ I h) fun v s1 ⟨x,H1,I1,r1,q1⟩=>?_
  refine bU (hb pins s1 σ H1 _ I1 q1) fun u s2 ⟨y,H2,I2,r2,q2⟩=>?_
  exact hf v u s2 x y H2 I2 r1 r2 q2
theorem CF{op:Operator}{r:R2}(ho:h8 X (binaryOp op) r)(ha:PE X a ta)(hb:PE X b tb):PE X (.BinOp a op b pos) (Gp r ta tb):=by
  intro pins s σ H Q I h
  exact wpAny_BinOp (C7 ha hb I h fun v u s2 x y H2 I2 rx ry q=>ho pins s2 σ H2 x y v u Q I2 rx ry q)
theorem FN{op:UnaryOp}{r:V→Hp→VK→Prop}(ho:GE X (unaryOp op) r)(ha:PE X a ta):PE X (.UnaryOp op a pos) (Hy r ta):=by
  intro pins s σ H Q I h
  exact UnaryOp_ (bU (ha pins s σ H _ I h) fun v s1 ⟨x,H1,I1,r1,q1⟩=>ho pins s1 σ H1 x v Q I1 r1 q1)
theorem Fz{f:Value→Value→Sem Value}{C:Int→Int→Prop}{g:Int→Int→Int}
    (rule:∀(i j:Int) (t u:Tok) (s:Shared) (Q:Value→Shared→Prop) (E:Value→Shared→Prop),C i j→Q (.int (g i j) s.toks) {s with toks:=s.toks+1}→wpAny (model X.prog X.w) X.A (f (.int i t) (.int j u)) Q E s):
    h8 X f (rI C fun i j=>.int (g i j)):=by
  intro pins s σ H x y v u Q I rx ry h
  obtain⟨i,j,rfl,rfl,hc,q⟩:=h
  obtain⟨t,rfl⟩:=rx
  obtain⟨t',rfl⟩:=ry
  exact rule i j t t' s _ _ hc ⟨.int (g i j),H,I.tok _,⟨_,rfl⟩,q⟩
theorem FB{f:Value→Value→Sem Value}{g:Int→Int→Int}
    (rule:∀(i j:Int) (t u:Tok) (s:Shared) (Q:Value→Shared→Prop) (E:Value→Shared→Prop),Q (.int (g i j) s.toks) {s with toks:=s.toks+1}→wpAny (model X.prog X.w) X.A (f (.int i t) (.int j u)) Q E s):
    h8 X f (ve fun i j=>.int (g i j)):=by
  intro pins s σ H x y v u Q I rx ry h
  obtain⟨i,j,rfl,rfl,q⟩:=h
  obtain⟨t,rfl⟩:=rx
  obtain⟨t',rfl⟩:=ry
  exact rule i j t t' s _ _ ⟨.int (g i j),H,I.tok _,⟨_,rfl⟩,q⟩
theorem Ba{f:Value→Value→Sem Value}{g:Int→Int→Bool}
    (rule:∀(i j:Int) (t u:Tok) (s:Shared) (Q:Value→Shared→Prop) (E:Value→Shared→Prop),Q (.bool (g i j)) s→wpAny (model X.prog X.w) X.A (f (.int i t) (.int j u)) Q E s):
    h8 X f (ve fun i j=>.bl (g i j)):=by
  intro pins s σ H x y v u Q I rx ry h
  obtain⟨i,j,rfl,rfl,q⟩:=h
  obtain⟨t,rfl⟩:=rx
  obtain⟨t',rfl⟩:=ry
  exact rule i j t t' s _ _ ⟨.bl (g i j),H,I,rfl,q⟩
def CZ(i j:Int):Prop:=0≤j∧j≤1000000∧i.natAbs < 2 ^ 64
def Ak(i j:Int):Prop:=(-(2 ^ 64) < i∧i < 2 ^ 64)∨(-(2 ^ 64) < j∧j < 2 ^ 64)
theorem Ak.ok{i j:Int}(h:Ak i j):IntMulOk i j:=by
  rcases h with ⟨h1,h2⟩ | ⟨h1,h2⟩
  · exact .of_left (intBits_le_64 h1 h2)
  · exact .of_right (intBits_le_64 h1 h2)
theorem yQ:h8 X (binaryOp .Add) (ve fun i j=>.int (i+j)):=FB fun _ _ _ _ _ _ _ q=>add_int q
theorem DP:h8 X (binaryOp .Sub) (ve fun i j=>.int (i - j)):=FB fun _ _ _ _ _ _ _ q=>sub_int q
theorem DK:h8 X (binaryOp .Mult) (rI Ak fun i j=>.int (i*j)):=Fz fun _ _ _ _ _ _ _ hc q=>mul_int q hc.ok
theorem Be:h8 X (binaryOp .Mod) (rI (fun _ j=>j≠0) fun i j=>.int (i.fmod j)):=Fz fun _ _ _ _ _ _ _ hc q=>mod_int' hc q
theorem DM:h8 X (binaryOp .Pow) (rI CZ fun i j=>.int (i ^ j.toNat)):=Fz fun _ _ _ _ _ _ _ hc q=>pow_int_small hc.1 hc.2.1 hc.2.2 q
theorem HU{f:Value→Sem Value}{g:Int→Int}
    (rule:∀(i:Int) (t:Tok) (s:Shared) (Q:Value→Shared→Prop) (E:Value→Shared→Prop),Q (.int (g i) s.toks) {s with toks:=s.toks+1}→wpAny (model X.prog X.w) X.A (f (.int i t)) Q E s):
    GE X f (rU fun i=>.int (g i)):=by
  intro pins s σ H x v Q I rx h
  obtain⟨i,rfl,q⟩:=h
  obtain⟨t,rfl⟩:=rx
  exact rule i t s _ _ ⟨.int (g i),H,I.tok _,⟨_,rfl⟩,q⟩
theorem EH:GE X (unaryOp .USub) (rU fun i=>.int (-i)):=HU fun _ _ _ _ _ q=>neg_int q
end
section
variable{X:Cx}{a b c:Expr}{ta tb tc:TE}{pos:Pos}
theorem yf{pins:List (Addr × Obj)}{σ:St}{H:Hp}{s:Shared}{Q:VK}{k k':Bool}(I:aH X pins σ H s)(q:Q (.bl k) H)(e:k=k'):EP X pins σ Q (.bool k') s:=by
  subst e
  exact⟨.bl k,H,I,rfl,q⟩
theorem FH:h8 X (compareOp .Lt) (ve fun i j=>.bl (decide (i < j))):=Ba fun _ _ _ _ _ _ _ q=>lt_int q
theorem FF:h8 X (compareOp .LtE) (ve fun i j=>.bl (decide (i≤j))):=Ba fun _ _ _ _ _ _ _ q=>le_int q
theorem FD:h8 X (compareOp .Gt) (ve fun i j=>.bl (decide (j < i))):=Ba fun _ _ _ _ _ _ _ q=>gt_int q
theorem FC:h8 X (compareOp .GtE) (ve fun i j=>.bl (decide (j≤i))):=Ba fun _ _ _ _ _ _ _ q=>ge_int q
theorem DH:h8 X (compareOp .Is) (fun x y H Q=>y=.non∧Q (.bl (decide (x=.non))) H):=by
  intro pins s σ H x y v u Q I rx ry h
  obtain⟨rfl,q⟩:=h
  cases ry
  refine is_none_gen (yf I q ?_)
  cases x<;>first
    | (cases rx;rfl)
    | (obtain⟨t,rfl⟩:=rx;rfl)
theorem Bi:h8 X (compareOp .IsNot) (fun x y H Q=>y=.non∧Q (.bl (!decide (x=.non))) H):=by
  intro pins s σ H x y v u Q I rx ry h
  obtain⟨rfl,q⟩:=h
  cases ry
  refine isnot_none_gen (yf I q ?_)
  cases x<;>first
    | (cases rx;rfl)
    | (obtain⟨t,rfl⟩:=rx;rfl)
theorem h8.or{f:Value→Value→Sem Value}{r r':R2}(h:h8 X f r)(h':h8 X f r'):h8 X f (fun x y H Q=>r x y H Q∨r' x y H Q):=by
  intro pins s σ H x y v u Q I rx ry q
  rcases q with q | q
  · exact h pins s σ H x y v u Q I rx ry q
  · exact h' pins s σ H x y v u Q I rx ry q
theorem aM(b:Expr){op:CmpOp}(h:op≠.In:=by decide)(h2:op≠.NotIn:=by decide):behindInMarks op b=false:=by
  have e1:(op==CmpOp.In)=false:=by cases op<;>first | rfl | exact absurd rfl h
  have e2:(op==CmpOp.NotIn)=false:=by cases op<;>first | rfl | exact absurd rfl h2
  cases b<;>simp [behindInMarks,e1,e2]
theorem Bo{op:CmpOp}{r:R2}(ho:h8 X (compareOp op) r)(ha:PE X a ta)(hb:PE X b tb)(hm:behindInMarks op b=false):PE X (.Compare a [op] [b] pos) (Gp r ta tb):=by
  intro pins s σ H Q I h
  exact wpAny_Compare1 (C7 ha hb I h fun v u s2 x y H2 I2 rx ry q=>ho pins s2 σ H2 x y v u Q I2 rx ry q) hm
def Gr(t:TE):TT:=fun σ H Q=>t σ H fun x H'=>∃k,x=.bl k∧Q k H'
theorem BG{op:CmpOp}{r:R2}(ho:h8 X (compareOp op) r)(ha:PE X a ta)(hb:PE X b tb)(hm:behindInMarks op b=false):PT X (.Compare a [op] [b] pos) (Gr (Gp r ta tb)):=by
  intro pins s σ H Q I h
  refine wpAny_isTrue_Compare1 (bU (ha pins s σ H _ I h) fun v s1 ⟨x,H1,I1,r1,q1⟩=>bU (hb pins s1 σ H1 _ I1 q1) fun u s2 ⟨y,H2,I2,r2,q2⟩=>
    bU (ho pins s2 σ H2 x y v u _ I2 r1 r2 q2) fun c s3 ⟨z,H3,I3,r3,k,e,q3⟩=>?_) hm
  subst e
  cases r3
  exact wpAny_truthy_bool ⟨H3,I3,q3⟩
def zJ(r r':R2)(ta tb tc:TE):TE:=fun σ H Q=>ta σ H fun x H1=>tb σ H1 fun y H2=>r x y H2 fun z H3=>∃k,z=.bl k∧
  (if k=true then tc σ H3 fun w' H4=>r' y w' H4 Q else Q (.bl false) H3)
theorem yX{op op':CmpOp}{r r':R2}(ho:h8 X (compareOp op) r)(ho':h8 X (compareOp op') r')(ha:PE X a ta)(hb:PE X b tb)(hc:PE X c tc)
    (hm:lastMarks [op,op'] [b,c]=false:=by with_unfolding_all rfl):PE X (.Compare a [op,op'] [b,c] pos) (zJ r r' ta tb tc):=by
  intro pins s σ H Q I h
  refine Compare_chain (bU (ha pins s σ H _ I h) fun v s1 ⟨x,H1,I1,r1,q1⟩=>chain_link (bU (hb pins s1 σ H1 _ I1 q1) fun u s2 ⟨y,H2,I2,r2,q2⟩=>
    bU (ho pins s2 σ H2 x y v u _ I2 r1 r2 q2) fun d s3 ⟨z,H3,I3,r3,k,e,q3⟩=>?_)) hm
  subst e
  cases r3
  refine wpAny_truthy_bool ?_
  cases k with
  | false=>exact ite_ff ⟨.bl false,H3,I3,rfl,q3⟩
  | true=>exact ite_tt (chain_last (bU (hc pins s3 σ H3 _ I3 q3) fun w' s4 ⟨z',H4,I4,r4,q4⟩=>ho' pins s4 σ H4 y z' u w' Q I4 r2 r4 q4))
theorem pv:(sizeLine:Nat) < 2 ^ 63:=by rw [sizeLine_eq];decide
theorem rA{x:V}{us:List Value}(r:aW [x] us):∃u,us=[u]∧bD x u:=by
  cases r with
  | cons r1 r2=>cases r2;exact⟨_,rfl,r1⟩
theorem CV{x y:V}{us:List Value}(r:aW [x,y] us):∃u w',us=[u,w']∧bD x u∧bD y w':=by
  cases r with
  | cons r1 r2=>
    cases r2 with
    | cons r3 r4=>cases r4;exact⟨_,_,rfl,r1,r3⟩
theorem x8:d_ X (.builtin "abs") (fun xs H Q=>∃i,xs=[.int i]∧Q (.int (if i < 0 then -i else i)) H):=by
  intro pins s σ H xs us Q I r h
  obtain⟨i,rfl,q⟩:=h
  obtain⟨u,rfl,t,rfl⟩:=rA r
  exact call_abs_int fun u tk=>⟨.int (if i < 0 then -i else i),H,I.tok _,⟨_,rfl⟩,q⟩
theorem wB(hc:X.calm=true):d_ X (.builtin "max") (fun xs H Q=>∃i j,xs=[.int i,.int j]∧Q (.int (if j > i then j else i)) H):=by
  intro pins s σ H xs us Q I r h
  obtain⟨i,j,rfl,q⟩:=h
  obtain⟨u,w',rfl,⟨t,rfl⟩,⟨t',rfl⟩⟩:=CV r
  refine max_two_ints (I.ok.hd hc) fun h' tk k=>⟨_,H,I.kept k,?_,q⟩
  by_cases hj:j > i
  · rw [if_pos hj,if_pos hj];exact⟨_,rfl⟩
  · rw [if_neg hj,if_neg hj];exact⟨_,rfl⟩
theorem wC(hc:X.calm=true):d_ X (.builtin "min") (fun xs H Q=>∃i j,xs=[.int i,.int j]∧Q (.int (if j < i then j else i)) H):=by
  intro pins s σ H xs us Q I r h
  obtain⟨i,j,rfl,q⟩:=h
  obtain⟨u,w',rfl,⟨t,rfl⟩,⟨t',rfl⟩⟩:=CV r
  refine min_two_ints (I.ok.hd hc) fun h' tk k=>⟨_,H,I.kept k,?_,q⟩
  by_cases hj:j < i
  · rw [if_pos hj,if_pos hj];exact⟨_,rfl⟩
  · rw [if_neg hj,if_neg hj];exact⟨_,rfl⟩
theorem wz:d_ X (.type "int") (fun xs H Q=>(∃i,xs=[.int i]∧Q (.int i) H)∨∃k,xs=[.bl k]∧Q (.int (if k then 1 else 0)) H):=by
  intro pins s σ H xs us Q I r h
  rcases h with ⟨i,rfl,q⟩ | ⟨k,rfl,q⟩
  · obtain⟨u,rfl,t,rfl⟩:=rA r
    exact call_int_int ⟨.int i,H,I,⟨_,rfl⟩,q⟩
  · obtain⟨u,rfl,r1⟩:=rA r
    cases r1
    exact call_int_bool ⟨.int (if k then 1 else 0),H,I.tok _,⟨_,rfl⟩,q⟩
end
structure HF (h:Heap) (x dx C:Addr) (mA:Str→Option Value):Prop where
  obj:h.get? x=some (PySem.W.instObj C dx)
  ns:h.Ns1 dx mA
  ne:dx≠x
section
variable{prog:Program}{w:World}{A:Around}{E:Value→Shared→Prop}{s:Shared}{K:PySem.W.Frag}{x dx C f:Addr}{mA:Str→Option Value}{name:Str}{v:Value}
end
section
variable{P:Program}{w:World}{H H':Hp}{h h':Heap}{a C dx:Addr}{fs fs':List (Str × V)}
end
structure HB (K:PySem.W.Frag) (C:Addr):Prop where
  pg:PySem.W.plainGet K C Str.empty=true
  hd:PySem.W.hasDictIn K C=true
  po:PySem.W.plainOver K C=true
  sa:PySem.W.findIn K (.ref C) "__setattr__"=some (some (.builtin "object.__setattr__"))
structure HW (K:PySem.W.Frag) (C:Addr) (f:Str) (v:V) (u:Value):Prop where
  at_:PySem.W.findIn K (.ref C) f=some (some u)
  rel:bD v u
  get:PySem.W.specialIn K u "__get__"=some none
  cp:PySem.W.copiedNames.contains f=false
structure HE (K:PySem.W.Frag) (C:Addr) (m:Str) (f:Addr):Prop where
  at_:PySem.W.findIn K (.ref C) m=some (some (.ref f))
  fn:PySem.W.isFn K (.ref f)=true
  kp:PySem.W.keepIn K (.ref f)=true
section
variable{X:Cx}{pins:List (Addr × Obj)}{σ:St}{H:Hp}{s:Shared}{a C dx:Addr}{fs:List (Str × V)}{f:Str}{v:V}{A:Around}{E:Value→Shared→Prop}
end
section
variable{X:Cx}{o e value:Expr}{f:Str}{pos pos' tpos:Pos}{ta tv:TE}
end
section
variable{X:Cx}{pins:List (Addr × Obj)}{σ:St}{H:Hp}{s:Shared}{A:Around}{E:Value→Shared→Prop}{Q:Value→Shared→Prop}{c:Value}{b:Bool}
inductive oU (K:PySem.W.Frag) (H:Hp):V→Value→Prop where
  | non:oU K H .non (.type "NoneType")
  | bl (x:Bool):oU K H (.bl x) (.type "bool")
  | int (i:Int):oU K H (.int i) (.type "int")
  | str (x:Str):oU K H (.str x) (.type "str")
  | flt (x:UInt64):oU K H (.flt x) (.type "float")
  | lst {a:Addr} {xs:List V} (e:H a=some (.lst xs)):oU K H (.ref a) (.type "list")
  | frz {a:Addr} {o:Obj} {xs:List V} (e:H a=some (.frz o (.lst xs))):oU K H (.ref a) (.type "list")
  | tup {a:Addr} {xs:List V} (e:H a=some (.tup xs)):oU K H (.ref a) (.type "tuple")
  | dK {a:Addr} {kvs:List (p8 × V)} (e:H a=some (.dK kvs)):oU K H (.ref a) (.type "dict")
  | dT {a:Addr} {kvs:List (List p8 × V)} (e:H a=some (.dT kvs)):oU K H (.ref a) (.type "dict")
  | ins {a C dx:Addr} {fs:List (Str × V)} (e:H a=some (.ins C dx fs)) (cl:HB K C) (ha:PySem.W.findIn K (.ref C) "__class__"=some (some (.builtin "object.__class__")))
      (hn:PySem.W.specialIn K (.builtin "object.__class__") "__get__"=some (some (.builtin "getset_descriptor.__get__"))) (htk:PySem.W.takesIn K (.builtin "object.__class__")=some true)
      (hm:PySem.W.mroIn K C (.type "object")=some true):oU K H (.ref a) (.ref C)
end
structure eA (k:Nat) (A:Around):Prop where
  hd:A.handled=none
  dp:A.depth+3*k+5 < recursionLimit
  un:A.units+16*k+200 < cLine
  gd:A.guards=some []
theorem eA.mono{j k:Nat}{A:Around}(r:eA k A)(h:j≤k):eA j A:=⟨r.hd,by have:=r.dp;lia,by have:=r.un;lia,r.gd⟩
theorem eA.deeper{k:Nat}{A:Around}(r:eA (k+1) A)(env:Env):eA k (A.deeper env):=
  ⟨r.hd,by have:=r.dp;show A.depth+1+3*k+5 < _;lia,by have:=r.un;show A.units+3+16*k+200 < _;lia,r.gd⟩
theorem eA.depth{k:Nat}{A:Around}(r:eA k A):A.depth < recursionLimit:=by have:=r.dp;lia
theorem eA.units{k:Nat}{A:Around}(r:eA k A):A.units+64 < cLine:=by have:=r.un;lia
def Eu:TA:=fun _ H Q=>Q [] H
def uc(ta:TE)(tr:TA):TA:=fun σ H Q=>ta σ H fun x H1=>tr σ H1 fun xs H2=>Q (x::xs) H2
section
variable{X:Cx}{e:Expr}{es:List Expr}{te:TE}{t:TA}{pos:Pos}
theorem mZ:PA X [] Eu:=fun _ _ _ _ H Q I h=>Calls.spliced_nil ⟨[],H,I,.nil,h⟩
theorem sk(ha:PE X e te)(hr:PA X es t)(hs:starEach (e::es) X.env=(false,eval e X.env)::starEach es X.env:=by rfl):PA X (e::es) (uc te t):=by
  intro pos pins s σ H Q I h
  rw [hs]
  show wpAny _ _ (spliced ((false,eval e X.env)::backTo pos (starEach es X.env))) _ _ s
  refine Calls.spliced_cons (bU (ha pins s σ H _ I h) fun u s1 ⟨x,H1,I1,r1,q1⟩=>?_)
  exact bU (hr pos pins s1 σ H1 _ I1 q1) fun us s2 ⟨xs,H2,I2,r2,q2⟩=>⟨x::xs,H2,I2,.cons r1 r2,q2⟩
def Gs(t:TA):TE:=fun σ H Q=>t σ H fun xs H1=>xs.length≤sizeLine∧∀p,H1 p=none→Q (.ref p) (be H1 p (.tup xs))
def Hg(t:TA):TE:=fun σ H Q=>t σ H fun xs H1=>xs.length≤sizeLine∧∀p,H1 p=none→Q (.ref p) (be H1 p (.lst xs))
theorem DU{x1}(h:PA X es t):PE X (.Tuple es x1 pos) (Gs t):=by
  intro pins s σ H Q I hq
  refine wpAny_Tuple_spliced (bU (h pos pins s σ H _ I hq) fun us s1 ⟨xs,H1,I1,r,z,q⟩=>⟨by rw [←r.length];exact z,?_⟩)
  have hf:H1 s1.heap.objs.size=none:=I1.hok.fresh (Nat.le_refl _)
  refine⟨.ref s1.heap.objs.size,be H1 s1.heap.objs.size (.tup xs),I1.laid (t':=s1.toks) (fun b u e=>Heap.get?_push_of_some _ e) (Nat.le_refl _) ?_,rfl,q _ hf⟩
  exact⟨z,us,r,⟨_,Heap.get?_push_size _ rfl,rfl,_,rfl,rfl⟩⟩
theorem yZ(h:PA X es t):PE X (.List es pos) (Hg t):=by
  intro pins s σ H Q I hq
  refine wpAny_List_spliced (bU (h pos pins s σ H _ I hq) fun us s1 ⟨xs,H1,I1,r,z,q⟩=>⟨by rw [←r.length];exact z,?_⟩)
  have hf:H1 s1.heap.objs.size=none:=I1.hok.fresh (Nat.le_refl _)
  refine⟨.ref s1.heap.objs.size,be H1 s1.heap.objs.size (.lst xs),I1.laid (t':=s1.toks) (fun b u e=>Heap.get?_push_of_some _ e) (Nat.le_refl _) ?_,rfl,q _ hf⟩
  exact⟨z,us,0,r,Heap.get?_push_size _ rfl⟩
end
abbrev Sp:=List V→Hp→VK→XK→Prop
abbrev wu:=List Env→Hp→Shared→XK→Value→Shared→Prop
structure Al (P:Program) (w:World) (K:PySem.W.Frag) (mg:Str→Option Value) (base:Heap) (A:Around) (outer:List Env) (s:Shared) (H:Hp):Prop where
  frames:A.frames=some outer
  mod:Mod K mg base
  bs:∀b o,base.get? b=some o→s.heap.get? b=some o∧H b=none
  bsz:base.objs.size≤s.heap.objs.size
  funs:s.heap.FunFrames base outer
  frf:∀b∈yg outer,H b=none
  hok:oS P w H s.heap
  bare:AllBare s.gens
def CE(outer:List Env)(P:Program)(w:World)(H:Hp)(s:Shared)(Q:VK)(u:Value)(s':Shared):Prop:=
  ∃v H',s'.os=s.os∧AllBare s'.gens∧Un (yg outer) [] H H' s.heap s'.heap∧oS P w H' s'.heap∧bD v u∧Q v H'
def CR(CX:wu)(outer:List Env)(P:Program)(w:World)(H:Hp)(s:Shared)(Q:VK)(E:XK)(r:Result)(s':Shared):Prop:=
  match r with
  | .ok (.ret u)=>CE outer P w H s Q u s'
  | .ok _=>False
  | .error e=>CX outer H s E e s'
structure aJ (P:Program) (w:World) (K:PySem.W.Frag) (mg:Str→Option Value) (base:Heap) (CX:wu) (k:Nat) (f:Addr) (fd:FuncData) (ps:List Str) (sp:Sp):Prop where
  len:∀vs H Q E,sp vs H Q E→vs.length=ps.length
  run:∀(A:Around) (outer:List Env) (s:Shared) (H:Hp) (args:Args) (us:List Value) (vs:List V) (Q:VK) (E:XK),eA k A→Al P w K mg base A outer s H→BindsTo s fd args (ps.zip us)→aW vs us→sp vs H Q E→
    codeAny (model P w) A (.call (.ref f) args) (CR CX outer P w H s Q E) s
section
variable{X:Cx}{pins:List (Addr × Obj)}{σ:St}{H:Hp}{s s':Shared}
theorem aH.env0(I:aH X pins σ H s):Al X.prog X.w X.K X.mg X.base X.A X.stack s H:=
  ⟨I.ok.frames,I.ok.mod,I.bs,Nat.le_trans I.ok.bsz I.sz,I.stack,I.stkFree,I.hok,I.bare⟩
theorem aH.after{Q:VK}{u:Value}(I:aH X pins σ H s)(h:CE X.stack X.prog X.w H s Q u s'):EP X pins σ Q u s':=by
  obtain⟨v,H',os,bare,un,hok,r,q⟩:=h
  obtain⟨hh,g,d,t,os'⟩:=s'
  obtain rfl:os'=s.os:=os
  exact⟨v,H',I.call (h':=hh) (g':=g) (d':=d) (t':=t) (ch:=[]) un hok bare (fun b z=>absurd z (by simp)),r,q⟩
end
def zI(sp:Sp)(dvs:List V)(E:XK)(t:TA):TE:=fun σ H Q=>t σ H fun vs H1=>sp (vs++dvs) H1 Q E
def qm(K:PySem.W.Frag)(fd:FuncData)(ps:List Str)(ds:List Value):Prop:=
  ∀(s:Shared) (us:List Value),K.In s.heap→(us++ds).length=ps.length→BindsTo s fd ⟨us,[]⟩ (ps.zip (us++ds))
theorem qm.all{K:PySem.W.Frag}{fd:FuncData}{ps:List Str}(h:∀us:List Value,us.length=ps.length→bindArgs fd ⟨us,[]⟩=pure (ps.zip us)):qm K fd ps []:=fun s us _ hl=>by
  rw [List.append_nil] at hl ⊢
  exact .of_eq (h us hl)
def uu(CX:wu)(X:Cx)(E:XK):Prop:=∀(pins:List (Addr × Obj)) (σ:St) (H:Hp) (s:Shared) (e:Value) (s':Shared),aH X pins σ H s→CX X.stack H s E e s'→X.xe e s'
section
variable{X:Cx}{CX:wu}{k:Nat}{f C:Addr}{fd:FuncData}{ps:List Str}{sp:Sp}{dvs:List V}{ds:List Value}{E:XK}{x m:Str}{p pos apos:Pos}{e o:Expr}{es:List Expr}{ta:TE}{t:TA}
theorem Eo{pins:List (Addr × Obj)}{σ:St}{H:Hp}{s:Shared}{Q:VK}{us:List Value}{vs:List V}(F:aJ X.prog X.w X.K X.mg X.base CX k f fd ps sp)(hr:eA k X.A)(hb:qm X.K fd ps ds)(hd:aW dvs ds)(hx:uu CX X E)
    (I:aH X pins σ H s)(r:aW vs us)(h:sp (vs++dvs) H Q E):wpAny (model X.prog X.w) X.A (call (.ref f) us) (EP X pins σ Q) X.xe s:=by
  have r2:aW (vs++dvs) (us++ds):=r.append hd
  have hl:(us++ds).length=ps.length:=by rw [←r2.length];exact F.len _ _ _ _ h
  refine wpAny_call (codeAny_mono (F.run X.A X.stack s H ⟨us,[]⟩ (us++ds) (vs++dvs) Q E hr I.env0 (hb s us I.kIn hl) r2 h) fun r s' hq=>?_)
  cases r with
  | error e=>exact hx pins σ H s e s' I hq
  | ok fl=>
    cases fl with
    | ret u=>exact I.after hq
    | next=>exact False.elim hq
    | brk=>exact False.elim hq
    | cont=>exact False.elim hq
theorem Bn(F:aJ X.prog X.w X.K X.mg X.base CX k f fd ps sp)(hr:eA k X.A)(hg:Gl X x)(hm:X.mg x=some (.ref f))(hk:PySem.W.keepIn X.K (.ref f)=true)(hb:qm X.K fd ps ds)(hd:aW dvs ds)(hx:uu CX X E)
    (ha:PA X (e::es) t)(hdb:(x==("__debug__":Str))=false:=by decide)(he:starEach (e::es) X.env=(false,eval e X.env)::starEach es X.env:=by rfl)(hpl:(backTo pos (starEach es X.env)).any (·.1)=false:=by rfl):
    PE X (.Call (.Name x p) (e::es) [] pos) (zI sp dvs E t):=by
  intro pins s σ H Q I h
  refine wpAny_Call_Name_kw (vV I hg hm ?_ hdb)
  refine PySem.W.callWith_K (h₀:=X.base) I.ok.mod.kin hk (bU (ha pos pins s σ H _ I h) fun us s1 ⟨vs,H1,I1,r,q⟩=>⟨I1.kIn,?_⟩) he hpl
  exact Eo F hr hb hd hx I1 r q
structure Mk (K:PySem.W.Frag) (C f:Addr):Prop where
  makes:PySem.W.makesIn K C=true
  init:PySem.W.findIn K (.ref C) "__init__"=some (some (.ref f))
  fn:PySem.W.isFn K (.ref f)=true
  kp:PySem.W.keepIn K (.ref C)=true
end
section
variable{X:Cx}{CX:wu}{k:Nat}{f C:Addr}{fd:FuncData}{ps ks:List Str}{sp:Sp}{E:XK}{x m:Str}{p pos apos kpos:Pos}{e o:Expr}{es:List Expr}{kws:List Keyword}{te ta:TE}{t tk:TA}{nm:Option Str}
structure GM (K:PySem.W.Frag) (fd:FuncData) (ps ks:List Str) (g:List Value→List Value→List Value) (gV:List V→List V→List V):Prop where
  to:∀(s:Shared) (us ws:List Value),K.In s.heap→(g us ws).length=ps.length→BindsTo s fd ⟨us,ks.zip ws⟩ (ps.zip (g us ws))
  rel:∀{vs:List V} {us:List Value} {zs:List V} {ws:List Value},aW vs us→aW zs ws→aW (gV vs zs) (g us ws)
variable{g:List Value→List Value→List Value}{gV:List V→List V→List V}
end
structure aF (N P:List Str) (sc:Scope):Prop where
  kind:sc.kind=.function
  co:sc.isCoroutine=false
  gen:sc.isGenerator=false
  nd:N.Nodup
  pre:N.take P.length=P
  par:∀x∈P,sc.names.lookup x=some .local∨sc.names.lookup x=some .cell
  nofree:∀y∈sc.names,y.2≠.free
theorem qB{kindOf:Str→Option NameKind}{x:Str}:∀{binds:List (Str × Value)} {m:Str→Option Value},(∀v,(x,v)∉binds)→bindL kindOf binds m x=m x
  | [],_,_=>rfl
  | (n,v)::r,m,h=>by
    unfold bindL
    rw [qB fun w hw=>h w (List.mem_cons_of_mem _ hw)]
    split
    · have:x≠n:=by rintro rfl;exact h v List.mem_cons_self
      simp [this]
    · rfl
theorem qz{kindOf:Str→Option NameKind}{x:Str}:∀{binds:List (Str × Value)} {m:Str→Option Value},(∀v,(x,v)∉binds)→bindC kindOf binds m x=m x
  | [],_,_=>rfl
  | (n,v)::r,m,h=>by
    unfold bindC
    rw [qz fun w hw=>h w (List.mem_cons_of_mem _ hw)]
    split
    · rfl
    · have:x≠n:=by rintro rfl;exact h v List.mem_cons_self
      simp [this]
theorem qA{kindOf:Str→Option NameKind}{x:Str}{v:Value}:∀{P:List Str} {vs:List Value} {i:Nat} {m:Str→Option Value},P.Nodup→P[i]?=some x→vs[i]?=some v→kindOf x=some .local→
    bindL kindOf (P.zip vs) m x=some v
  | [],_,_,_,_,h,_,_=>by simp at h
  | _::_,[],_,_,_,_,h,_=>by simp at h
  | p::P,w::vs,0,m,nd,h1,h2,hk=>by
    simp at h1 h2;subst h1;subst h2
    show bindL kindOf ((p,w)::P.zip vs) m p=_
    unfold bindL
    rw [qB fun v hv=>(List.nodup_cons.mp nd).1 (List.of_mem_zip hv).1,if_pos hk]
    simp
  | p::P,w::vs,i+1,m,nd,h1,h2,hk=>by
    show bindL kindOf ((p,w)::P.zip vs) m x=_
    unfold bindL
    exact qA (i:=i) (List.nodup_cons.mp nd).2 (by simpa using h1) (by simpa using h2) hk
theorem qu{kindOf:Str→Option NameKind}{x:Str}{v:Value}:∀{P:List Str} {vs:List Value} {i:Nat} {m:Str→Option Value},P.Nodup→P[i]?=some x→vs[i]?=some v→kindOf x≠some .local→
    bindC kindOf (P.zip vs) m x=some v
  | [],_,_,_,_,h,_,_=>by simp at h
  | _::_,[],_,_,_,_,h,_=>by simp at h
  | p::P,w::vs,0,m,nd,h1,h2,hk=>by
    simp at h1 h2;subst h1;subst h2
    show bindC kindOf ((p,w)::P.zip vs) m p=_
    unfold bindC
    rw [qz fun v hv=>(List.nodup_cons.mp nd).1 (List.of_mem_zip hv).1,if_neg hk]
    simp
  | p::P,w::vs,i+1,m,nd,h1,h2,hk=>by
    show bindC kindOf ((p,w)::P.zip vs) m x=_
    unfold bindC
    exact qu (i:=i) (List.nodup_cons.mp nd).2 (by simpa using h1) (by simpa using h2) hk
def gF(N:List Str)(vs:List V):St:=vs.map some++List.replicate (N.length - vs.length) none
def uF(CX:wu)(P:Program)(w:World)(K:PySem.W.Frag)(mg:Str→Option Value)(base:Heap)(N:List Str)(qual:Str)(scope:Scope)(f:Addr)(cd:Value)(A:Around)(outer:List Env)(s:Shared)(H:Hp)(E:XK):Cx where
  prog:=P
  w:=w
  K:=K
  mg:=mg
  base:=base
  A:=A.deeper (envOfC qual scope s.heap.objs.size f cd)
  N:=N
  s₀:=s
  H₀:=H
  env:=envOfC qual scope s.heap.objs.size f cd
  outer:=outer
  stack:=envOfC qual scope s.heap.objs.size f cd::outer
  ex:=[]
  calm:=true
  fn:=fun _=>true
  pn:=[]
  xe:=fun e s'=>wpAny (model P w) (A.deeper (envOfC qual scope s.heap.objs.size f cd)) (leaving (envOfC qual scope s.heap.objs.size f cd) e) (fun _ s''=>CX outer H s E e s'') (fun e' s''=>CX outer H s E e' s'') s'
theorem sU{sc:Scope}{n:Nat}{x:Str}(h:sc.names.lookup x=some .cell):∃c,(cellsFrom n sc.names []).lookup x=some c:=by
  have q:=PySem.W.cellsFrom_some sc.names n [] (.inl h)
  exact Option.isSome_iff_exists.mp q
theorem wQ{CX:wu}{P:Program}{w:World}{K:PySem.W.Frag}{mg:Str→Option Value}{base:Heap}{N ps:List Str}{qual:Str}{scope:Scope}{f:Addr}{cd:Value}{A:Around}{outer:List Env}{s s1:Shared}{H:Hp}{E:XK}{us:List Value}{vs:List V}
    (S:aF N ps scope)(hd:A.handled=none)(e0:Al P w K mg base A outer s H)(hl:vs.length=ps.length)(r:aW vs us)
    (x:InCallC s s.heap.objs.size (bindL (envOfC qual scope s.heap.objs.size f cd).kindOf (ps.zip us) fun _=>none) (cellsFrom (s.heap.objs.size+1) scope.names []) (bindC (envOfC qual scope s.heap.objs.size f cd).kindOf (ps.zip us) fun _=>none) s1):
    aH (uF CX P w K mg base N qual scope f cd A outer s H E) [] (gF N vs) H s1:=by
  have hpl:ps.length≤N.length:=by have:=congrArg List.length S.pre;rw [List.length_take] at this;lia
  obtain⟨h1,tk,rfl,hk⟩:=x.done
  have noA:∀b:Addr,b∉(uF CX P w K mg base N qual scope f cd A outer s H E).ex:=fun b z=>absurd (show b∈([]:List Addr) from z) (by simp)
  refine⟨⟨e0.mod,S.kind,rfl,rfl,Nat.le_refl _,fun y z c h1 h2=>?_,fun y hy=>?_,fun y c _ h=>?_,fun _=>hd,Around.frames_deeper e0.frames,.inr ⟨rfl,rfl⟩,fun b z=>absurd z (noA b),e0.bs,e0.bsz,fun b _ _=>noA b,fun b z=>absurd z (noA b),e0.funs,e0.frf⟩,
    rfl,e0.bare,Un.kept hk,⟨_,x.toInCall.ns,fun i y v h1 h2 h3=>?_⟩,fun y c h=>⟨_,x.cell y c h⟩,e0.hok.fresh (Nat.le_refl _),fun y c h=>?_,fun p hp=>absurd (show p∈([]:List (Addr × Obj)) from hp) (by simp),e0.hok.kept hk,?_⟩
  · exact name_of_addr x.apart (PySem.mem_of_lookup h1) (PySem.mem_of_lookup h2)
  · have hy:scope.names.lookup y=some .cell∨scope.names.lookup y=some .free:=hy
    rcases hy with hy | hy
    · exact sU hy
    · exact absurd rfl (S.nofree _ (PySem.mem_of_lookup hy))
  · exact Nat.le_of_lt (x.above y c (PySem.mem_of_lookup h))
  · have hi:i < vs.length:=by
      unfold gF at h2
      by_cases hi:i < vs.length
      · exact hi
      · rw [List.getElem?_append_right (by simpa using hi)] at h2
        rw [List.getElem?_replicate] at h2
        split at h2<;>cases h2
    have ha:vs[i]?=some v:=by
      unfold gF at h2
      rw [List.getElem?_append_left (by simpa using hi),List.getElem?_map] at h2
      cases e:vs[i]? with
      | none=>rw [e] at h2;cases h2
      | some a=>rw [e] at h2;cases h2;rfl
    obtain⟨u,hu,rv⟩:=r.get ha
    have hp:ps[i]?=some y:=by
      rw [←S.pre,List.getElem?_take_of_lt (by lia)];exact h1
    have ndP:ps.Nodup:=by rw [←S.pre];exact S.nd.sublist (List.take_sublist _ _)
    refine⟨u,rv,?_⟩
    rcases S.par y (K2 hp) with k | k
    · exact .inl ⟨k,qA ndP hp hu k⟩
    · obtain⟨c,e⟩:=sU (n:=s.heap.objs.size+1) k
      refine .inr ⟨.inl k,c,e,?_⟩
      have q:=x.cell y c e
      rw [qu ndP hp hu (by show scope.names.lookup y≠_;rw [k];decide)] at q
      exact q
  · exact e0.hok.fresh (Nat.le_of_lt (x.above y c (PySem.mem_of_lookup h)))
  · unfold gF
    show _=N.length
    rw [List.length_append,List.length_map,List.length_replicate]
    lia
theorem E_{CX:wu}{P:Program}{w:World}{K:PySem.W.Frag}{mg:Str→Option Value}{base:Heap}{k:Nat}{f:Addr}{name qual:Str}{params:Arguments}{body:List Stmt}{scope:Scope}{dV kV doc pm cdv ct oc:Value}{an od:Option Addr}
    {osl:Array (Option Value)}{N ps:List Str}{sp:Sp}(lk:K.lookup f=some ⟨oc,od,.func (PySem.W.fnOf name qual params body scope dV kV doc pm an cdv ct),osl⟩)(hcd:PySem.W.codeIn K cdv qual=true)(S:aF N ps scope)
    (len:∀vs H Q E,sp vs H Q E→vs.length=ps.length)
    (hbody:∀(A:Around) (outer:List Env) (s:Shared) (H:Hp) (vs:List V) (Q:VK) (E:XK),eA k (A.deeper (envOfC qual scope s.heap.objs.size f cdv))→sp vs H Q E→
      ∃t,oj (uF CX P w K mg base N qual scope f cdv A outer s H E) body t∧t {nx:=fun _ H'=>Q .non H',rt:=Q} (gF N vs) H):
    aJ P w K mg base CX (k+1) f (PySem.W.fnOf name qual params body scope dV kV doc pm an cdv ct) ps sp:=by
  refine⟨len,fun A outer s H args us vs Q E hr e0 hb r hsp=>?_⟩
  have hl:=len _ _ _ _ hsp
  have KX:K.In s.heap:=e0.mod.kin.keeps fun b o e=>(e0.bs b o e).1
  have lim:s.heap.NoLimit:=e0.mod.nolimit.keeps fun b o e=>(e0.bs b o e).1
  have hkind:∀y∈ps.zip us,scope.names.lookup y.1=some .local∨(scope.names.lookup y.1=some .cell∧((cellsFrom (s.heap.objs.size+1) scope.names []).lookup y.1).isSome=true):=fun⟨n,v⟩ hy=>by
    rcases S.par n (List.of_mem_zip hy).1 with q | q
    · exact .inl q
    · exact .inr ⟨q,PySem.W.cellsFrom_some _ _ _ (.inl q)⟩
  refine codeAny_call_function hr.depth (KX _ _ lk) rfl S.co S.gen rfl (PySem.W.codeRec_of KX hcd) (hb _ _ _ _ ?_)
  refine wpAny_newFunctionEnv_cells S.kind hkind fun env he s1 x=>?_
  subst he
  refine⟨lim.keeps x.toInCall.keep,codeAny_func ?_⟩
  obtain⟨t,ht,hq⟩:=hbody A outer s H vs Q E (hr.deeper _) hsp
  have I:aH (uF CX P w K mg base N qual scope f cdv A outer s H E) [] (gF N vs) H s1:=wQ S hr.hd e0 hl r x
  refine wpAny_mono (ht [] s1 (gF N vs) H _ I hq) (fun fl s' hs=>?_) fun e s' hs=>hs
  have fin:∀{σ':St} {H':Hp} {v:V} {u:Value},aH (uF CX P w K mg base N qual scope f cdv A outer s H E) [] σ' H' s'→bD v u→Q v H'→CE outer P w H s Q u s':=
    fun{σ' H' v u} J rv q=>⟨v,H',J.os,J.bare,J.base,J.hok,rv,q⟩
  cases fl with
  | ret u=>
    obtain⟨v,σ',H',J,rv,q⟩:=hs
    exact fin J rv q
  | next=>
    obtain⟨σ',H',J,q⟩:=hs
    exact fin (v:=V.non) (u:=Value.none) J rfl q
  | brk=>
    obtain⟨_,_,_,q⟩:=hs
    exact False.elim q
  | cont=>
    obtain⟨_,_,_,q⟩:=hs
    exact False.elim q
section
variable{X:Cx}{x:Str}{p pos:Pos}{e:Expr}{es:List Expr}{t:TA}{id T:String}{r:List V→Hp→VK→Prop}
def Hc(r:List V→Hp→VK→Prop)(t:TA):TE:=fun σ H Q=>t σ H fun vs H1=>r vs H1 Q
theorem pK(hc:d_ X (.builtin id) r)(hg:Gl X x)(hm:X.mg x=none)(hv:bootBuiltins x=some (.builtin id))(ha:PA X (e::es) t)(hn:x≠"__name__":=by decide)(hdb:(x==("__debug__":Str))=false:=by decide)
    (he:starEach (e::es) X.env=(false,eval e X.env)::starEach es X.env:=by rfl)(hpl:(backTo pos (starEach es X.env)).any (·.1)=false:=by rfl):PE X (.Call (.Name x p) (e::es) [] pos) (Hc r t):=by
  intro pins s σ H Q I h
  refine wpAny_Call_Name_kw (jy I hg hm hv ?_ hn hdb)
  exact PyProof.Rows.callWith_builtin1 (bU (ha pos pins s σ H _ I h) fun us s1 ⟨vs,H1,I1,r1,q1⟩=>hc pins s1 σ H1 vs us Q I1 r1 q1) he hpl
theorem xo(hc:d_ X (.type T) r)(hg:Gl X x)(hm:X.mg x=none)(hv:bootBuiltins x=some (.type T))(ha:PA X (e::es) t)(hn:x≠"__name__":=by decide)(hdb:(x==("__debug__":Str))=false:=by decide)
    (he:starEach (e::es) X.env=(false,eval e X.env)::starEach es X.env:=by rfl)(hpl:(backTo pos (starEach es X.env)).any (·.1)=false:=by rfl):PE X (.Call (.Name x p) (e::es) [] pos) (Hc r t):=by
  intro pins s σ H Q I h
  refine wpAny_Call_Name_kw (jy I hg hm hv ?_ hn hdb)
  exact PyProof.Rows.callWith_type1 (bU (ha pos pins s σ H _ I h) fun us s1 ⟨vs,H1,I1,r1,q1⟩=>hc pins s1 σ H1 vs us Q I1 r1 q1) he hpl
end
end L2
namespace HT
open PySem PyProof.Rows
section
open PySem.SeqAt
open PySem.AutoSeq1 (wpAny_loadPart')
open PySem.MeetsSeq PySem.MeetsSeq2 PySem.MeetsSeq3
end
section
variable{prog:Program}{w:World}{A:Around}{E:Value→Shared→Prop}{s:Shared}
theorem cat_tup{t b:Addr}{vs ws:List Value}{Q:Value→Shared→Prop}(ht:IsTup s.heap t vs.toArray)(hb:IsTup s.heap b ws.toArray)(hv:vs≠[])
    (h1:ws=[]→Q (.ref t) s)(h2:ws≠[]→Q (.ref s.heap.objs.size) {s with heap:=s.heap.push {cls:=.type "tuple",data:=.seq (vs++ws).toArray}})
    (hsz:vs.length+ws.length≤sizeLine):wpAny (model prog w) A (binaryOp .Add (.ref t) (.ref b)) Q E s:=by
  obtain⟨⟨cls,dd,data,sl⟩,ho,hc,n,hd⟩:=id ht
  obtain⟨⟨cls2,dd2,data2,sl2⟩,ho2,hc2,n2,hd2⟩:=id hb
  simp only at hc hd hc2 hd2
  subst hc hd hc2 hd2
  have e:vs.toArray++ws.toArray=(vs++ws).toArray:=by simp
  by_cases hw:ws=[]
  · exact concat_meets ⟨_,ho,rfl⟩ ⟨_,ho2,rfl⟩ noFill_tuple_add seq_tuple_add PySem.F.slot_tuple_add PySem.F.entry_tuple_add (PySem.F.args_tuple_add_2 _ _)
      (tuple_addW1 t b vs.toArray ws.toArray n n2 dd dd2 sl sl2 (by simpa using hv) (by simp [hw])) ⟨ho,ho2,h1 hw⟩
  · refine concat_meets ⟨_,ho,rfl⟩ ⟨_,ho2,rfl⟩ noFill_tuple_add seq_tuple_add PySem.F.slot_tuple_add PySem.F.entry_tuple_add (PySem.F.args_tuple_add_2 _ _)
      (tuple_addW2 t b vs.toArray ws.toArray n n2 dd dd2 sl sl2 (by simpa using hv) (by simpa using hw) (by rw [List.size_toArray,List.size_toArray];exact hsz)) ⟨ho,ho2,?_⟩
    rw [e]
    exact h2 hw
def sIx(n d:Nat):Option Int→Nat
  | none=>d
  | some v=>if v < 0 then(v+(n:Int)).toNat else min v.toNat n
theorem sIx_none(n d:Nat):sIx n d none=d:=rfl
theorem sIx_nat(n d k:Nat):sIx n d (some (k:Int))=min k n:=by
  show(if (k:Int) < 0 then((k:Int)+(n:Int)).toNat else min (k:Int).toNat n)=min k n
  rw [if_neg (by lia),Int.toNat_natCast]
theorem Ep(n d:Nat)(hd:d≤n)(o:Option Int):sIx n d o≤n:=by
  cases o with
  | none=>exact hd
  | some v=>
    show(if v < 0 then(v+(n:Int)).toNat else min v.toNat n)≤n
    by_cases hv:v < 0
    · rw [if_pos hv];lia
    · rw [if_neg hv];exact Nat.min_le_right _ _
theorem vG(v:Int)(n d:Nat):(if v < 0 then max (v+(n:Int)) 0 else min v (n:Int))=((sIx n d (some v):Nat):Int):=by
  show(if v < 0 then max (v+(n:Int)) 0 else min v (n:Int))=(((if v < 0 then(v+(n:Int)).toNat else min v.toNat n):Nat):Int)
  by_cases hv:v < 0
  · simp only [if_pos hv];lia
  · simp only [if_neg hv];lia
theorem uA(lo hi:Option Int)(n:Nat):Builtin.Slice.sliceAdjust lo hi 1 (n:Int)=(((sIx n 0 lo:Nat):Int),((sIx n n hi:Nat):Int)):=by
  have h1:¬((1:Int) < 0):=by lia
  unfold Builtin.Slice.sliceAdjust
  simp only [h1,if_false]
  refine Prod.ext ?_ ?_
  · cases lo with
    | none=>rfl
    | some v=>exact vG v n 0
  · cases hi with
    | none=>rfl
    | some v=>exact vG v n n
theorem uZ(i j:Nat):Builtin.Slice.slicePlaces (i:Int) (j:Int) 1=j - i:=by
  unfold Builtin.Slice.slicePlaces
  have h1:(1:Int) > 0:=by lia
  simp only [h1,if_true,Int.ediv_one]
  split<;>lia
theorem pY{v:Value}{o:Option Int}{Q:Option Int→Shared→Prop}(p:IsPart v o)(h:Q o s):wpAny (model prog w) A (Builtin.Slice.slicePartIndex v) Q E s:=by
  cases p with
  | none=>exact slicePart_none h
  | int i t=>exact slicePart_int h
theorem jf{sl:Addr}{vl vu:Value}{lo hi:Option Int}{n:Nat}{Q:Int × Int × Nat→Shared→Prop}(hs:s.heap.IsSliceOf sl vl vu .none)(pl:IsPart vl lo)(pu:IsPart vu hi)
    (h:Q (((sIx n 0 lo:Nat):Int),1,sIx n n hi - sIx n 0 lo) s):wpAny (model prog w) A (Builtin.Slice.sliceApplied (.ref sl) (pure (n:Int))) Q E s:=by
  obtain⟨os,hos,hcs,hds⟩:=id hs
  unfold Builtin.Slice.sliceApplied Builtin.Slice.sliceFields
  refine wpAny_bind (wpAny_bind (wpAny_field hos hds (x:=vl) rfl (wpAny_bind (wpAny_field hos hds (x:=vu) rfl (wpAny_bind (wpAny_field hos hds (x:=.none) rfl (wpAny_pure ?_)))))))
  refine wpAny_bind (slicePart_none ?_)
  show wpAny _ _ (if ((1:Int)==0)=true then _ else _) _ _ s
  rw [if_neg (by decide)]
  refine wpAny_bind (pY pl (wpAny_bind (pY pu (wpAny_bind (wpAny_pure ?_)))))
  show wpAny _ _ (match Builtin.Slice.sliceAdjust lo hi 1 (n:Int) with | (lo,hi)=>pure (lo,(1:Int),Builtin.Slice.slicePlaces lo hi 1)) _ _ s
  rw [uA lo hi n]
  show wpAny _ _ (pure (((sIx n 0 lo:Nat):Int),(1:Int),Builtin.Slice.slicePlaces ((sIx n 0 lo:Nat):Int) ((sIx n n hi:Nat):Int) 1)) _ _ s
  rw [uZ]
  exact wpAny_pure h
theorem y8(xs:Array Value)(i k:Nat):((List.range k).filterMap fun(m:Nat)=>xs[((i:Int)+(m:Int)*1).toNat]?).toArray=((xs.toList.drop i).take k).toArray:=by
  have e:(fun(m:Nat)=>xs[((i:Int)+(m:Int)*1).toNat]?)=fun m=>xs[i+m]?:=by
    funext m
    have:((i:Int)+(m:Int)*1).toNat=i+m:=by lia
    rw [this]
  rw [e]
  have:=pick_run xs i k
  rw [List.filterMap_map] at this
  have e2:((fun x=>xs[x]?) ∘ fun x=>i+x)=fun m=>xs[i+m]?:=rfl
  rw [e2] at this
  rw [this]
theorem getItem_tuple_cut{t sl:Addr}{items:Array Value}{vl vu:Value}{lo hi:Option Int}{Q:Value→Shared→Prop}(ht:IsTup s.heap t items)(hs:s.heap.IsSliceOf sl vl vu .none)(pl:IsPart vl lo)(pu:IsPart vu hi)
    (hw:¬(sIx items.size 0 lo=0∧sIx items.size items.size hi=items.size))
    (h:Q (.ref s.heap.objs.size) {s with heap:=s.heap.push {cls:=.type "tuple",data:=.seq ((items.toList.drop (sIx items.size 0 lo)).take (sIx items.size items.size hi - sIx items.size 0 lo)).toArray}})
    (hsz:items.size≤sizeLine):wpAny (model prog w) A (getItem (.ref t) (.ref sl)) Q E s:=by
  have htake:sizeOk (.seq ((items.toList.drop (sIx items.size 0 lo)).take (sIx items.size items.size hi - sIx items.size 0 lo)).toArray):=by
    show((items.toList.drop (sIx items.size 0 lo)).take (sIx items.size items.size hi - sIx items.size 0 lo)).toArray.size≤sizeLine
    rw [List.size_toArray,List.length_take,List.length_drop,Array.length_toList]
    lia
  have hj:sIx items.size items.size hi≤items.size:=Ep _ _ (Nat.le_refl _) hi
  obtain⟨os,hos,hcs,hds⟩:=id hs
  have hTs:s.TypeIs (.ref sl) "slice":=⟨os,hos,hcs⟩
  unfold getItem
  try with_reducible refine wpAny_holding ?_
  first | refine wpAny_bind (wpAny_pure ?_) | skip
  refine wpAny_bind (wpAny_sequenceKey ht.typeIs (by decide) ?_)
  refine wpAny_bind (wpAny_callSpecial?_slot (name:=Str.ofString "__getitem__") ht.typeIs PyProof.Rows.slot_tuple_getitem
    (wpAny_call_entry PyProof.Rows.slot_tuple_getitem ht.typeIs entry_tuple_getitem ?_ (args_tuple_getitem _ _)))
  show wpAny _ _ (Builtin.Tuple.tupleItemsOf (.ref t) >>= _) _ _ s
  refine wpAny_bind (tupleItemsOf_ ht ?_)
  refine wpAny_bind (wpAny_typeOf hTs ?_)
  rw [if_pos (by decide)]
  refine wpAny_bind (jf hs pl pu ?_)
  have hno:¬((((sIx items.size 0 lo:Nat):Int)==0&&(1:Int)==1&&(sIx items.size items.size hi - sIx items.size 0 lo)==items.size)=true):=by
    intro q
    rw [Bool.and_eq_true,Bool.and_eq_true] at q
    have q1:((sIx items.size 0 lo:Nat):Int)=0:=eq_of_beq q.1.1
    have q2:sIx items.size items.size hi - sIx items.size 0 lo=items.size:=eq_of_beq q.2
    exact hw ⟨by lia,by lia⟩
  show wpAny _ _ (if (((sIx items.size 0 lo:Nat):Int)==0&&(1:Int)==1&&(sIx items.size items.size hi - sIx items.size 0 lo)==items.size)=true then _ else _) _ _ s
  rw [if_neg hno,y8]
  first
    | exact wpAny_bind (m:=Builtin.Tuple.tupleExact _) (wpAny_newObj_type (wpAny_pure ⟨_,rfl,wpAny_pure h⟩) htake)
    | exact wpAny_bind (m:=Builtin.Tuple.tupleExact _) (wpAny_newObj_type (wpAny_bind (wpAny_pure (wpAny_pure ⟨_,rfl,wpAny_pure h⟩))) htake)
    | exact wpAny_bind (wpAny_bind (m:=Builtin.Tuple.tupleExact _) (wpAny_newObj_type (wpAny_pure (wpAny_pure ⟨_,rfl,wpAny_pure h⟩)) htake))
    | exact wpAny_bind (wpAny_bind (m:=Builtin.Tuple.tupleExact _) (wpAny_newObj_type (wpAny_pure ⟨_,rfl,wpAny_pure h⟩) htake))
end
end HT
namespace L2
open PySem PySem.Spec PyProof.Rows
abbrev TO:=St→Hp→(Option Int→Hp→Prop)→Prop
def PO(X:Cx)(e:Option Expr)(t:TO):Prop:=
  ∀(pins:List (Addr × Obj)) (s:Shared) (σ:St) (H:Hp) (Q:Option Int→Hp→Prop),aH X pins σ H s→t σ H Q→
    wpAny (model X.prog X.w) X.A (evalPart e X.env) (fun u s'=>∃o H',aH X pins σ H' s'∧IsPart u o∧Q o H') X.xe s
def BY:TO:=fun _ H Q=>Q none H
def Gq(t:TE):TO:=fun σ H Q=>t σ H fun x H1=>∃i,x=.int i∧Q (some i) H1
theorem pj{ns:List Int}:∀{us:List Value},aW (ns.map V.int) us→IntsAre us ns:=by
  induction ns with
  | nil=>intro us r;rw [List.map_nil] at r;cases r;exact .nil
  | cons n ns ih=>
    intro us r
    rw [List.map_cons] at r
    cases r with
    | cons r1 r2=>
      obtain⟨t,e⟩:=r1
      subst e
      exact .cons n t (ih r2)
section
variable{X:Cx}{e:Expr}{te:TE}{lo hi:Option Expr}{tl th:TO}{pos p2:Pos}
theorem By:PO X none BY:=by
  intro pins s σ H Q I h
  rw [evalPart_none]
  exact wpAny_pure ⟨none,H,I,.none,h⟩
theorem Bz(h:PE X e te):PO X (some e) (Gq te):=by
  intro pins s σ H Q I hw
  rw [evalPart_some]
  refine bU (h pins s σ H _ I hw) fun u s1 ⟨x,H1,I1,r1,q1⟩=>?_
  obtain⟨i,rfl,q⟩:=q1
  obtain⟨t,rfl⟩:=r1
  exact⟨some i,H1,I1,.int i t,q⟩
def Ap(X:Cx)(r:V→Option Int→Option Int→Hp→VK→Prop):Prop:=
  ∀(pins:List (Addr × Obj)) (s:Shared) (σ:St) (H:Hp) (x:V) (v vl vu:Value) (lo hi:Option Int) (sl:Addr) (Q:VK),aH X pins σ H s→bD x v→s.heap.IsSliceOf sl vl vu .none→IsPart vl lo→IsPart vu hi→r x lo hi H Q→
    ∃T id,typeLookup (.type T) "__getitem__"=pure (some (.builtin id))∧s.TypeIs v T∧wpAny (model X.prog X.w) X.A (getItem v (.ref sl)) (EP X pins σ Q) X.xe s
theorem Ap.or{r r':V→Option Int→Option Int→Hp→VK→Prop}(h:Ap X r)(h':Ap X r'):Ap X (fun x lo hi H Q=>r x lo hi H Q∨r' x lo hi H Q):=by
  intro pins s σ H x v vl vu lo hi sl Q I rx hs pl pu q
  rcases q with q | q
  · exact h pins s σ H x v vl vu lo hi sl Q I rx hs pl pu q
  · exact h' pins s σ H x v vl vu lo hi sl Q I rx hs pl pu q
def HS(r:V→Option Int→Option Int→Hp→VK→Prop)(te:TE)(tl th:TO):TE:=fun σ H Q=>te σ H fun x H1=>tl σ H1 fun l H2=>th σ H2 fun u H3=>r x l u H3 Q
theorem y0{r:V→Option Int→Option Int→Hp→VK→Prop}(hr:Ap X r)(he:PE X e te)(hl:PO X lo tl)(hu:PO X hi th):PE X (.Subscript e (.Slice lo hi none p2) pos) (HS r te tl th):=by
  intro pins s σ H Q I h
  refine Subscript_ (bU (he pins s σ H _ I h) fun v s1 ⟨x,H1,I1,r1,q1⟩=>?_)
  refine wpAny_Slice (bU (hl pins s1 σ H1 _ I1 q1) fun vl s2 ⟨l,H2,I2,pl,q2⟩=>bU (hu pins s2 σ H2 _ I2 q2) fun vu s3 ⟨u,H3,I3,pu,q3⟩=>?_)
  rw [evalPart_none]
  refine wpAny_pure ?_
  have I4:aH X pins σ H3 {s3 with heap:=s3.heap.push {cls:=.type "slice",data:=.fields #[vl,vu,.none]}}:=I3.kept (t':=s3.toks) fun b ob q=>Heap.get?_push_of_some _ q
  obtain⟨T,id,hT,ht,hg⟩:=hr pins {s3 with heap:=s3.heap.push {cls:=.type "slice",data:=.fields #[vl,vu,.none]}} σ H3 x v vl vu l u s3.heap.objs.size Q I4 r1 (Heap.IsSliceOf.new ..) pl pu q3
  show wpAny (model X.prog X.w) X.A (subscriptTail e (.Slice lo hi none p2) v (.ref s3.heap.objs.size)) (EP X pins σ Q) X.xe {s3 with heap:=s3.heap.push {cls:=.type "slice",data:=.fields #[vl,vu,.none]}}
  exact tail_any (ops:=[.ref s3.heap.objs.size,v]) ht hT hg (by with_unfolding_all rfl)
def qa(xs:List V)(lo hi:Option Int):List V:=(xs.drop (HT.sIx xs.length 0 lo)).take (HT.sIx xs.length xs.length hi - HT.sIx xs.length 0 lo)
theorem nJ(xs:List V)(lo hi:Option Int):(qa xs lo hi).length≤xs.length:=by
  unfold qa
  rw [List.length_take,List.length_drop]
  lia
def Gc(K:PySem.W.Frag):V→Option Int→Option Int→Hp→VK→Prop:=fun x lo hi H Q=>∃a xs,x=.ref a∧cS K H a xs∧
  ¬(HT.sIx xs.length 0 lo=0∧HT.sIx xs.length xs.length hi=xs.length)∧∀p,H p=none→Q (.ref p) (be H p (.tup (qa xs lo hi)))
theorem Es:Ap X (Gc X.K):=by
  intro pins s σ H x v vl vu lo hi sl Q I rx hs pl pu h
  obtain⟨a,xs,rfl,hx,hw,q⟩:=h
  cases rx
  obtain⟨its,r,ht,hz⟩:=I.tuple hx
  have hlen:its.toArray.size=xs.length:=by rw [List.size_toArray];exact r.length.symm
  refine⟨"tuple",_,PyProof.Rows.slot_tuple_getitem.lookup,ht.typeIs,?_⟩
  refine HT.getItem_tuple_cut ht hs pl pu (by rw [hlen];exact hw) ?_ (by rw [hlen];exact hz)
  rw [hlen]
  refine⟨.ref s.heap.objs.size,_,I.laid (t':=s.toks) (o:=.tup (qa xs lo hi)) (fun b ob q=>Heap.get?_push_of_some _ q) (Nat.le_refl _) ?_,rfl,q _ (I.hok.fresh (Nat.le_refl _))⟩
  exact⟨Nat.le_trans (nJ xs lo hi) hz,_,(r.drop (HT.sIx xs.length 0 lo)).take (HT.sIx xs.length xs.length hi - HT.sIx xs.length 0 lo),oi.new _ _⟩
def FX(K:PySem.W.Frag):R2:=fun x y H Q=>∃a b xs ys,x=.ref a∧y=.ref b∧cS K H a xs∧cS K H b ys∧xs≠[]∧xs.length+ys.length≤sizeLine∧
  (ys=[]→Q (.ref a) H)∧(ys≠[]→∀p,H p=none→Q (.ref p) (be H p (.tup (xs++ys))))
theorem aW.nil_iff{xs:List V}{us:List Value}(r:aW xs us):us=[]↔ xs=[]:=by
  cases r with
  | nil=>simp
  | cons _ _=>simp
theorem Bd:h8 X (binaryOp .Add) (FX X.K):=by
  intro pins s σ H x y v u Q I rx ry h
  obtain⟨a,b,xs,ys,rfl,rfl,ha,hb,hx,hz,q1,q2⟩:=h
  cases rx
  cases ry
  obtain⟨its,r1,p1,_⟩:=I.tuple ha
  obtain⟨its2,r2,p2,_⟩:=I.tuple hb
  refine HT.cat_tup p1 p2 (fun z=>hx (r1.nil_iff.mp z)) (fun z=>⟨.ref a,H,I,rfl,q1 (r2.nil_iff.mp z)⟩) (fun z=>?_) (by rw [←r1.length,←r2.length];exact hz)
  refine⟨.ref s.heap.objs.size,_,I.laid (t':=s.toks) (o:=.tup (xs++ys)) (fun b ob q=>Heap.get?_push_of_some _ q) (Nat.le_refl _) ?_,rfl,q2 (fun w=>z (r2.nil_iff.mpr w)) _ (I.hok.fresh (Nat.le_refl _))⟩
  exact⟨by rw [List.length_append];exact hz,_,r1.append r2,oi.new _ _⟩
end
def ma(n:Nat)(i:Int):Option Nat:=if 0≤i then(if i < n then some i.toNat else none) else if -(n:Int)≤i then some (i+n).toNat else none
def atI{α:Type}(xs:List α)(i:Int):Option α:=(ma xs.length i).bind fun j=>xs[j]?
theorem vT{n:Nat}{i:Int}{j:Nat}(h:ma n i=some j):seqIndex? i n=some j∧j < n∧ -(n:Int)≤i∧i < n:=by
  unfold ma at h
  by_cases h0:0≤i
  · rw [if_pos h0] at h
    by_cases h1:i < n
    · rw [if_pos h1] at h
      have e:i.toNat=j:=Option.some.inj h
      exact⟨by rw [seqIndex_of h0 h1,e],by lia,by lia,h1⟩
    · rw [if_neg h1] at h;cases h
  · rw [if_neg h0] at h
    by_cases h1: -(n:Int)≤i
    · rw [if_pos h1] at h
      have e:(i+n).toNat=j:=Option.some.inj h
      exact⟨by rw [seqIndex_neg (by lia) h1,e],by lia,h1,by lia⟩
    · rw [if_neg h1] at h;cases h
theorem vz{α:Type}{xs:List α}{i:Int}{v:α}(h:atI xs i=some v):∃j,seqIndex? i xs.length=some j∧xs[j]?=some v∧j < xs.length∧ -(xs.length:Int)≤i∧i < xs.length:=by
  unfold atI at h
  cases e:ma xs.length i with
  | none=>rw [e] at h;cases h
  | some j=>
    rw [e] at h
    obtain⟨h1,h2,h3,h4⟩:=vT e
    exact⟨j,h1,h,h2,h3,h4⟩
def oA(b:Expr):Prop:=∀o i,subscripted b false o i=operate [o,i] (getItem o i)
def Ag(X:Cx)(r:R2):Prop:=
  ∀(value slice:Expr) (pins:List (Addr × Obj)) (s:Shared) (σ:St) (H:Hp) (x y:V) (v u:Value) (Q:VK),aH X pins σ H s→bD x v→bD y u→r x y H Q→
    subscripted slice false v u=operate [v,u] (getItem v u)→wpAny (model X.prog X.w) X.A (subscriptTail value slice v u) (EP X pins σ Q) X.xe s
def Hn(X:Cx)(id:String)(r:V→List V→Hp→VK→Prop):Prop:=
  ∀(pins:List (Addr × Obj)) (s:Shared) (σ:St) (H:Hp) (x:V) (xs:List V) (v:Value) (us:List Value) (Q:VK),aH X pins σ H s→bD x v→aW xs us→r x xs H Q→
    wpAny (model X.prog X.w) X.A (call (.builtin id) (v::us)) (EP X pins σ Q) X.xe s
section
variable{X:Cx}{a b:Expr}{ta tb:TE}{pos:Pos}
theorem Ag.or{r r':R2}(h:Ag X r)(h':Ag X r'):Ag X (fun x y H Q=>r x y H Q∨r' x y H Q):=by
  intro value slice pins s σ H x y v u Q I rx ry q hs
  rcases q with q | q
  · exact h value slice pins s σ H x y v u Q I rx ry q hs
  · exact h' value slice pins s σ H x y v u Q I rx ry q hs
theorem CD{r:R2}(hr:Ag X r)(ha:PE X a ta)(hb:PE X b tb)(hs:oA b):PE X (.Subscript a b pos) (Gp r ta tb):=by
  intro pins s σ H Q I h
  exact Subscript_ (C7 ha hb I h fun v u s2 x y H2 I2 rx ry q=>hr a b pins s2 σ H2 x y v u Q I2 rx ry q (hs _ _))
def Eh(K:PySem.W.Frag):R2:=fun x y H Q=>∃p xs i v,x=.ref p∧y=.int i∧gH K H p xs∧atI xs i=some v∧Q v H
def F_(K:PySem.W.Frag):R2:=fun x y H Q=>∃p xs i v,x=.ref p∧y=.int i∧cS K H p xs∧atI xs i=some v∧Q v H
theorem vU:Ag X (Eh X.K):=by
  intro value slice pins s σ H x y v u Q I rx ry h hs
  obtain⟨p,xs,i,z,rfl,rfl,hq,he,q⟩:=h
  cases rx
  obtain⟨t,rfl⟩:=ry
  obtain⟨its,r,pl,hz⟩:=I.list hq
  obtain⟨j,h1,h2,h3,h4,h5⟩:=vz he
  obtain⟨w,ew,rw'⟩:=r.get h2
  have hl:=r.length
  have hn:=pv
  have fin:EP X pins σ Q w s:=⟨z,H,I,rw',q⟩
  by_cases h0:0≤i
  · have hj:i.toNat=j:=by
      rw [seqIndex_of h0 h5] at h1
      exact Option.some.inj h1
    exact item_listR pl.isList h0 (by lia) (by rw [hj];simpa using ew) fin hs
  · have hj:(i+(its.toArray.size:Int)).toNat=j:=by
      rw [seqIndex_neg (by lia) h4] at h1
      rw [List.size_toArray,←hl]
      exact Option.some.inj h1
    exact subscriptTail_builtinR (x:=w) pl.isList.typeIs slot_list_getitem.lookup
      (wpAny_getItem_list_neg (Q:=fun r s'=>r=w∧EP X pins σ Q r s') pl.isList (by lia) (by rw [List.size_toArray]<;>lia) (by lia) (by rw [hj];simpa using ew) ⟨rfl,fin⟩) hs
theorem Dh:Ag X (F_ X.K):=by
  intro value slice pins s σ H x y v u Q I rx ry h hs
  obtain⟨p,xs,i,z,rfl,rfl,hq,he,q⟩:=h
  cases rx
  obtain⟨t,rfl⟩:=ry
  obtain⟨its,r,pl,hz⟩:=I.tuple hq
  obtain⟨j,h1,h2,h3,h4,h5⟩:=vz he
  obtain⟨w,ew,rw'⟩:=r.get h2
  have hl:=r.length
  have hn:=pv
  have fin:EP X pins σ Q w s:=⟨z,H,I,rw',q⟩
  exact subscriptTail_builtinR (x:=w) pl.typeIs slot_tuple_getitem.lookup
    (getItem_tuple (j:=j) (Q:=fun r s'=>r=w∧EP X pins σ Q r s') pl (by lia) (by lia) (by rw [List.size_toArray,←hl];exact h1) (by simpa using ew) ⟨rfl,fin⟩) hs
theorem uQ(its:List Value)(n j:Nat)(u:Value):Obj.mapSeq (·.setIfInBounds j u) {cls:=.type "list",data:=.seq its.toArray n}={cls:=.type "list",data:=.seq (its.set j u).toArray n}:=by
  simp [Obj.mapSeq]
theorem aH.lst{pins:List (Addr × Obj)}{σ:St}{H:Hp}{s:Shared}{p:Addr}{xs:List V}(I:aH X pins σ H s)(h:H p=some (.lst xs)):
    ∃(its:List Value) (n:Nat),aW xs its∧s.heap.get? p=some {cls:=.type "list",data:=.seq its.toArray n}∧xs.length≤sizeLine:=by
  obtain⟨z,its,n,r,e⟩:=I.hok p _ h
  exact⟨its,n,r,e,z⟩
theorem aH.lstUpd{pins:List (Addr × Obj)}{σ:St}{H:Hp}{s:Shared}{p:Addr}{xs ys:List V}{its its':List Value}{n n':Nat}{f:Obj→Obj}(I:aH X pins σ H s)(h:H p=some (.lst xs))
    (ho:s.heap.get? p=some {cls:=.type "list",data:=.seq its.toArray n})(hf:f {cls:=.type "list",data:=.seq its.toArray n}={cls:=.type "list",data:=.seq its'.toArray n'})(r:aW ys its')(hz:ys.length≤sizeLine)(t:Nat):
    aH X pins σ (be H p (.lst ys)) {s with heap:=s.heap.update p f,toks:=t}:=by
  have e:(s.heap.update p f).get? p=some {cls:=.type "list",data:=.seq its'.toArray n'}:=by
    rw [Heap.get?_update_self f ho (by rw [hf]<;>rfl),hf]
  refine I.write (x:=p) (e:=p) (by rw [h];trivial) (.inl rfl) (fun b u hb q=>(Heap.get?_update_other _ _ (Ne.symm hb)).trans q) ⟨_,e⟩ ?_
  exact⟨hz,its',n',r,e⟩
def Ga:V→V→V→Hp→(Hp→Prop)→Prop:=fun o i v H Q=>∃p xs k j,o=.ref p∧i=.int k∧H p=some (.lst xs)∧ma xs.length k=some j∧Q (be H p (.lst (xs.set j v)))
theorem pX:C5 X Ga:=by
  intro pins s σ H o i v ov iv u Q I ro ri rv h
  obtain⟨p,xs,k,j,rfl,rfl,hp,hj,q⟩:=h
  cases ro
  obtain⟨t,rfl⟩:=ri
  obtain⟨its,n,r,ho,hz⟩:=I.lst hp
  obtain⟨h1,h2,h3,h4⟩:=vT hj
  have hl:=r.length
  have hn:=pv
  have I':aH X pins σ (be H p (.lst (xs.set j v))) {s with heap:=s.heap.update p (Obj.mapSeq (·.setIfInBounds j u))}:=
    I.lstUpd hp ho (uQ its n j u) (r.set rv j) (by rw [List.length_set];exact hz) s.toks
  by_cases h0:0≤k
  · have hk:k.toNat=j:=by
      rw [seqIndex_of h0 h4] at h1
      exact Option.some.inj h1
    exact PySem.W.ki_setAt ho h0 (by lia) (by rw [List.size_toArray,←hl];exact h4) (by rw [hk];exact⟨_,I',q⟩)
  · have hk:(k+(its.toArray.size:Int)).toNat=j:=by
      rw [seqIndex_neg (by lia) h3] at h1
      rw [List.size_toArray,←hl]
      exact Option.some.inj h1
    exact PySem.W.ki_setBack ho (by lia) (by rw [List.size_toArray,←hl];exact h3) (by lia) (by rw [hk];exact⟨_,I',q⟩)
theorem sC(lo hi:Option Int)(n:Nat):(sliceBounds lo hi none n).1=((HT.sIx n 0 lo:Nat):Int)∧(sliceBounds lo hi none n).2.1=((HT.sIx n n hi:Nat):Int)∧(sliceBounds lo hi none n).2.2=1:=by
  refine⟨?_,?_,rfl⟩
  · cases lo with
    | none=>simp [sliceBounds,HT.sIx]
    | some i=>
      simp only [sliceBounds,HT.sIx,Option.getD_none,show(1:Int) > 0 by decide,if_true]
      by_cases h:i < 0
      · simp only [h,if_true]<;>lia
      · simp only [h,if_false]<;>lia
  · cases hi with
    | none=>simp [sliceBounds,HT.sIx]
    | some i=>
      simp only [sliceBounds,HT.sIx,Option.getD_none,show(1:Int) > 0 by decide,if_true]
      by_cases h:i < 0
      · simp only [h,if_true]<;>lia
      · simp only [h,if_false]<;>lia
theorem qj(its:List Value)(lo hi:Option Int):slicePick its.toArray lo hi none=((its.drop (HT.sIx its.length 0 lo)).take (HT.sIx its.length its.length hi - HT.sIx its.length 0 lo)).toArray:=by
  obtain⟨h1,h2,h3⟩:=sC lo hi its.toArray.size
  unfold slicePick
  rw [h1,h2,h3]
  simp only [sliceRange_one,pick_run,List.size_toArray]<;>rfl
def Gb(K:PySem.W.Frag):V→Option Int→Option Int→Hp→VK→Prop:=fun x lo hi H Q=>∃a xs,x=.ref a∧gH K H a xs∧∀p,H p=none→Q (.ref p) (be H p (.lst (qa xs lo hi)))
theorem BR:Ap X (Gb X.K):=by
  intro pins s σ H x v vl vu lo hi sl Q I rx hs pl pu h
  obtain⟨a,xs,rfl,hx,q⟩:=h
  cases rx
  obtain⟨its,r,ht,hz⟩:=I.list hx
  have hlen:=r.length
  refine⟨"list",_,slot_list_getitem.lookup,ht.isList.typeIs,?_⟩
  refine wpAny_getItem_list_slice ht.isList hs pl pu .none (by simp) ?_ (by rw [List.size_toArray]<;>lia)
  rw [qj,←hlen]
  refine⟨.ref s.heap.objs.size,_,I.laid (t':=s.toks) (o:=.lst (qa xs lo hi)) (fun b ob q=>Heap.get?_push_of_some _ q) (Nat.le_refl _) ?_,rfl,q _ (I.hok.fresh (Nat.le_refl _))⟩
  exact⟨Nat.le_trans (nJ xs lo hi) hz,_,0,(r.drop (HT.sIx xs.length 0 lo)).take (HT.sIx xs.length xs.length hi - HT.sIx xs.length 0 lo),Heap.get?_push_size _ rfl⟩
theorem lW:d_ X (.builtin "len") (fun xs H Q=>∃p ys,xs=[.ref p]∧(gH X.K H p ys∨cS X.K H p ys)∧Q (.int ys.length) H):=by
  intro pins s σ H xs us Q I r h
  obtain⟨p,ys,rfl,hq,q⟩:=h
  obtain⟨u,rfl,rx⟩:=rA r
  cases rx
  have hn:=pv
  rcases hq with hq | hq
  · obtain⟨its,r',pl,hz⟩:=I.list hq
    have hlen:=r'.length
    exact Calls.call_len_list pl.isList (by simp only [List.size_toArray]<;>lia) ⟨.int ys.length,H,I.tok _,⟨s.toks+1,by rw [List.size_toArray,hlen]⟩,q⟩
  · obtain⟨its,r',pl,hz⟩:=I.tuple hq
    have hlen:=r'.length
    exact len_tuple pl (by simp only [List.size_toArray]<;>lia) ⟨.int ys.length,H,I.tok _,⟨s.toks+1,by rw [List.size_toArray,hlen]⟩,q⟩
theorem rH:d_ X (.type "list") (fun xs H Q=>∃p ys,xs=[.ref p]∧(gH X.K H p ys∨cS X.K H p ys)∧∀l,H l=none→Q (.ref l) (be H l (.lst ys))):=by
  intro pins s σ H xs us Q I r h
  obtain⟨p,ys,rfl,hq,q⟩:=h
  obtain⟨u,rfl,rx⟩:=rA r
  cases rx
  have fin:∀(its:List Value),aW ys its→ys.length≤sizeLine→∀(h':Heap) (c':Nat),(∀b o',s.heap.get? b=some o'→h'.get? b=some o')→
      h'.get? s.heap.objs.size=some {cls:=.type "list",dict:=none,data:=.seq its.toArray c',slots:=#[]}→EP X pins σ Q (.ref s.heap.objs.size) {s with heap:=h'}:=fun its r' hz h' c' kp e=>
    ⟨.ref s.heap.objs.size,_,I.laid (t':=s.toks) kp (Nat.le_refl _) (show hV X.prog X.w _ h' _ (.lst ys) from⟨hz,its,c',r',e⟩),rfl,q _ (I.hok.fresh (Nat.le_refl _))⟩
  rcases hq with hq | hq
  · obtain⟨its,r',pl,hz⟩:=I.list hq
    have hlen:=r'.length
    obtain⟨o,ho,hc,n,hd⟩:=pl.isList
    exact call_list_seq p (.inl rfl) ho hc hd (fun h' c' kp e=>fin its r' hz h' c' kp e) (by simp only [List.size_toArray]<;>lia)
  · obtain⟨its,r',pl,hz⟩:=I.tuple hq
    have hlen:=r'.length
    obtain⟨o,ho,hc,n,hd⟩:=pl
    exact call_list_seq p (.inr rfl) ho hc hd (fun h' c' kp e=>fin its r' hz h' c' kp e) (by simp only [List.size_toArray]<;>lia)
theorem p_:d_ X (.type "tuple") (fun xs H Q=>∃p ys,xs=[.ref p]∧((gH X.K H p ys∧∀l,H l=none→Q (.ref l) (be H l (.tup ys)))∨(cS X.K H p ys∧Q (.ref p) H))):=by
  intro pins s σ H xs us Q I r h
  obtain⟨p,ys,rfl,h⟩:=h
  obtain⟨u,rfl,rx⟩:=rA r
  cases rx
  rcases h with ⟨hq,q⟩ | ⟨hq,q⟩
  · obtain⟨its,r',pl,hz⟩:=I.list hq
    have hlen:=r'.length
    refine call_tuple_list pl.isList (fun h' kp=>?_) (by simp only [List.size_toArray]<;>lia)
    have I1:aH X pins σ H {s with heap:=h'}:=I.kept (t':=s.toks) kp
    have I2:aH X pins σ (be H h'.objs.size (.tup ys)) {s with heap:=h'.push {cls:=.type "tuple",data:=.seq its.toArray}}:=
      I1.laid (t':=s.toks) (fun b o e=>Heap.get?_push_of_some _ e) (Nat.le_refl _) (show hV X.prog X.w _ _ _ (.tup ys) from⟨hz,its,r',oi.new _ _⟩)
    exact⟨.ref h'.objs.size,_,I2,rfl,q _ (I1.hok.fresh (Nat.le_refl _))⟩
  · obtain⟨its,r',pl,hz⟩:=I.tuple hq
    exact call_tuple_same pl ⟨.ref p,H,I,rfl,q⟩
def Hz(K:PySem.W.Frag)(T:String)(x:V)(H:Hp):Prop:=match x with
  | .str _=>T="str"
  | .int _=>T="int"
  | .ref p=>(T="list"∧∃xs,gH K H p xs)∨(T="tuple"∧∃o,K.lookup p=some o∧o.cls=.type "tuple"∧o.dict=none)∨
      (T="dict"∧((∃kvs,H p=some (.dK kvs))∨∃kvs,H p=some (.dT kvs)))∨(T="set"∧∃S n,H p=some (.set S n))
  | _=>False
theorem EG{pins:List (Addr × Obj)}{σ:St}{H:Hp}{s:Shared}{T:String}{x:V}{v:Value}(I:aH X pins σ H s)(r:bD x v)(ty:Hz X.K T x H):
    s.TypeIs v T∧∀a,v=.ref a→∃ob,s.heap.get? a=some ob∧ob.dict=none:=by
  cases x with
  | str z=>
    obtain⟨t,rfl⟩:=r
    cases (show T="str" from ty)
    exact⟨typeIs_str s z t,fun _ e=>nomatch e⟩
  | int i=>
    obtain⟨t,rfl⟩:=r
    cases (show T="int" from ty)
    exact⟨typeIs_int s i t,fun _ e=>nomatch e⟩
  | ref p=>
    cases r
    rcases ty with ⟨rfl,xs,hq⟩ | ⟨rfl,o,hk,hc,hd⟩ | ⟨rfl,hk⟩ | ⟨rfl,S,n,hk⟩
    · obtain⟨its,_,pl,_⟩:=I.list hq
      refine⟨pl.isList.typeIs,fun a e=>?_⟩
      cases e
      obtain⟨o,n,e,c,hd,_⟩:=pl
      exact⟨o,e,hd⟩
    · refine⟨⟨o,I.kIn p o hk,hc⟩,fun a e=>?_⟩
      cases e
      exact⟨o,I.kIn _ o hk,hd⟩
    · have z:∃o,s.heap.get? p=some o∧o.ExactDict:=by
        rcases hk with ⟨kvs,hk⟩ | ⟨kvs,hk⟩
        · obtain⟨_,_,_,_,o,_,_,e,ex,_⟩:=I.hok p _ hk
          exact⟨o,e,ex⟩
        · obtain⟨_,_,_,_,o,_,_,e,ex,_⟩:=I.hok p _ hk
          exact⟨o,e,ex⟩
      obtain⟨o,e,ex⟩:=z
      refine⟨⟨o,e,ex.1⟩,fun a e2=>?_⟩
      cases e2
      exact⟨o,e,ex.2.1⟩
    · obtain⟨o,_,_,_,e,ex,_⟩:=I.hok p _ hk
      refine⟨⟨o,e,ex.1⟩,fun a e2=>?_⟩
      cases e2
      exact⟨o,e,ex.2.1⟩
  | _=>exact False.elim ty
def Hw(K:PySem.W.Frag)(T:String)(r:V→List V→Hp→VK→Prop)(to:TE)(t:TA):TE:=fun σ H Q=>to σ H fun x H1=>Hz K T x H1∧t σ H1 fun xs H2=>r x xs H2 Q
variable{o e:Expr}{es:List Expr}{to:TE}{t:TA}{name:Str}{apos cpos:Pos}{T id:String}{r:V→List V→Hp→VK→Prop}
theorem yW(pa:PlainAttrs T)(slot:Slot T name id)(hty:typeOf (.builtin id)=pure (.type "method_descriptor"))(hm:Hn X id r)(ho:PE X o to)(ha:PA X (e::es) t)
    (hbase:attributeBase o name X.env (eval o X.env)=eval o X.env:=by rfl)
    (hfew:((backTo cpos (starEach (e::es) X.env)).all (fun x=> !x.1)&&(backToKw cpos (keywordEach [] X.env)).all (fun x=>x.1.isSome)
      &&decide ((e::es).length+([]:List Keyword).length+(if ([]:List Keyword).isEmpty then 0 else 1) < 30))=true:=by rfl)
    (hline:(apos.endLine==cpos.line)=true:=by rfl)(hs:starEach (e::es) X.env=(false,eval e X.env)::starEach es X.env:=by rfl)(hplain:(backTo cpos (starEach es X.env)).any (·.1)=false:=by rfl):
    PE X (.Call (.Attribute o name apos) (e::es) [] cpos) (Hw X.K T r to t):=by
  intro pins s σ H Q I h
  refine wpAny_Call_method_late hbase hfew hline rfl (bU (ho pins s σ H _ I h) fun v s1 ⟨x,H1,I1,r1,ty,q1⟩=>?_)
  obtain⟨h1,h2⟩:=EG I1 r1 ty
  refine⟨T,id,pa,slot,hty,h1,h2,?_⟩
  have hA:=ha cpos pins s1 σ H1 _ I1 q1
  rw [hs] at hA ⊢
  refine Calls.callWith_builtin (by show(false || (backTo cpos (starEach es X.env)).any (·.1))=false;rw [hplain]<;>rfl) (Calls.evalArgs_plain ?_)
  exact bU hA fun us s2 ⟨vs,H2,I2,r2,q2⟩=>hm pins s2 σ H2 x vs v us Q I2 r1 r2 q2
end
def GO(X:Cx)(id:String)(r:V→List V→Hp→VK→Prop):Prop:=
  ∀(pins:List (Addr × Obj)) (s:Shared) (σ:St) (H:Hp) (x:V) (xs:List V) (v:Value) (us:List Value) (Q:VK),aH X pins σ H s→bD x v→aW xs us→r x xs H Q→
    wpAny (model X.prog X.w) X.A (call (.builtin id) (v::us)) (EP X pins σ Q) X.xe s
theorem aW.one:∀{x:V} {us:List Value},aW [x] us→∃u,us=[u]∧bD x u
  | _,_,.cons r .nil=>⟨_,rfl,r⟩
theorem aW.eraseIdx:∀{xs:List V} {us:List Value} (i:Nat),aW xs us→aW (xs.eraseIdx i) (us.eraseIdx i)
  | _,_,_,.nil=>.nil
  | _,_,0,.cons _ t=>t
  | _,_,i+1,.cons r t=>.cons r (aW.eraseIdx i t)
theorem aW.rep{xs:List V}{us:List Value}(h:aW xs us):∀k:Nat,aW (List.replicate k xs).flatten (List.replicate k us).flatten
  | 0=>.nil
  | k+1=>by
    rw [List.replicate_succ,List.replicate_succ,List.flatten_cons,List.flatten_cons]
    exact aW.append h (aW.rep h k)
theorem qO{α:Type}:∀(l:List α) (i:Nat),(l.eraseIdx i).length≤l.length
  | [],_=>Nat.le_refl _
  | _::_,0=>Nat.le_succ _
  | _::r,i+1=>Nat.succ_le_succ (qO r i)
theorem qJ(its:List Value):∀(k:Nat) (acc:List Value),
    List.foldl (fun x1 x2=>x1++x2) acc.toArray (List.replicate k its.toArray)=(acc++(List.replicate k its).flatten).toArray
  | 0,acc=>by simp
  | k+1,acc=>by
    have e:acc.toArray++its.toArray=(acc++its).toArray:=by simp
    have e2:(acc++its)++(List.replicate k its).flatten=acc++(List.replicate (k+1) its).flatten:=by
      rw [List.replicate_succ,List.flatten_cons,List.append_assoc]
    rw [←e2,←qJ its k (acc++its),←e,List.replicate_succ,List.foldl_cons]
section
variable{X:Cx}{pins:List (Addr × Obj)}{σ:St}{H:Hp}{s:Shared}{l b:Addr}{xs ys zs:List V}
theorem aH.lset{its its':List Value}{n:Nat}{f:Array Value→Array Value}{t':Nat}(I:aH X pins σ H s)(hH:H l=some (.lst xs))
    (e:s.heap.get? l=some {cls:=.type "list",data:=.seq its.toArray n})(hf:f its.toArray=its'.toArray)(hv:aW ys its')(hz:ys.length≤sizeLine):
    aH X pins σ (be H l (.lst ys)) {s with heap:=s.heap.update l (Obj.mapSeq f),toks:=t'}:=by
  have q:=PySem.IsL.update e f
  rw [hf] at q
  refine I.write (x:=l) (e:=l) (by rw [hH];exact trivial) (.inl rfl) (fun b' u hb hu=>(Heap.get?_update_other s.heap (Obj.mapSeq f) (Ne.symm hb)).trans hu) ⟨_,q⟩ ?_
  exact⟨hz,its',_,hv,q⟩
theorem aH.lnew{its:List Value}{t':Nat}(I:aH X pins σ H s)(hv:aW ys its)(hz:ys.length≤sizeLine):
    aH X pins σ (be H s.heap.objs.size (.lst ys)) {s with heap:=s.heap.push {cls:=.type "list",data:=.seq its.toArray},toks:=t'}:=
  I.laid (fun _ _ q=>Heap.get?_push_of_some _ q) (Nat.le_refl _) ⟨hz,its,0,hv,Heap.get?_push_size _ rfl⟩
theorem aH.fresh(I:aH X pins σ H s):H s.heap.objs.size=none:=I.hok.fresh (Nat.le_refl _)
theorem aH.lstM(I:aH X pins σ H s)(hH:H l=some (.lst xs)):xs.length≤sizeLine∧∃(its:List Value) (n:Nat),aW xs its∧xs.length=its.length∧s.heap.get? l=some {cls:=.type "list",data:=.seq its.toArray n}:=by
  obtain⟨z,its,n,r,e⟩:=I.hok l _ hH
  exact⟨z,its,n,r,r.length,e⟩
theorem tO{n:Nat}(h:n≤sizeLine):Builtin.List.listTooLong n=false:=by
  unfold Builtin.List.listTooLong
  exact decide_eq_false (by lia)
end
section
variable{X:Cx}
def wb:V→List V→Hp→VK→Prop:=fun x vs H Q=>∃l xs y,x=.ref l∧vs=[y]∧H l=some (.lst xs)∧xs.length < sizeLine∧Q .non (be H l (.lst (xs++[y])))
theorem i9:GO X "list.append" wb:=by
  intro pins s σ H x vs v us Q I rx rv h
  obtain⟨l,xs,y,rfl,rfl,hH,hz,q⟩:=h
  cases rx
  obtain⟨u,rfl,ru⟩:=rv.one
  obtain⟨z,its,n,r,hl,e⟩:=I.lstM hH
  refine call_meets F.slot_list_append ⟨_,e,rfl⟩ F.entry_list_append (F.args_list_append_2 _ _) (PySem.list_append l its.toArray n u (by rw [List.size_toArray];lia)) ⟨e,?_⟩
  refine⟨.non,_,I.lset (its':=its++[u]) hH e (by simp) (r.append (.cons ru .nil)) ?_,rfl,q⟩
  rw [List.length_append,List.length_singleton]
  lia
def BO:V→List V→Hp→VK→Prop:=fun x vs H Q=>∃l b xs zs,x=.ref l∧vs=[.ref b]∧H l=some (.lst xs)∧H b=some (.lst zs)∧xs.length+zs.length≤sizeLine∧Q .non (be H l (.lst (xs++zs)))
theorem w6:GO X "list.extend" BO:=by
  intro pins s σ H x vs v us Q I rx rv h
  obtain⟨l,b,xs,zs,rfl,rfl,hH,hB,hz,q⟩:=h
  cases rx
  obtain⟨u,rfl,ru⟩:=rv.one
  cases ru
  obtain⟨z,its,n,r,hl,e⟩:=I.lstM hH
  obtain⟨z2,its2,n2,r2,hl2,e2⟩:=I.lstM hB
  have hsz:its.toArray.size+its2.toArray.size≤sizeLine:=by rw [List.size_toArray,List.size_toArray];lia
  have hlong:¬(!its.toArray.isEmpty&&Builtin.List.listTooLong (its.toArray.size+its2.toArray.size))=true:=by
    rw [tO hsz,Bool.and_false]
    exact Bool.false_ne_true
  refine call_meets F.slot_list_extend ⟨_,e,rfl⟩ F.entry_list_extend (F.args_list_extend_2 _ _)
    (AutoSeq1.list_extend_list_list_0 l its.toArray n b its2.toArray n2 hlong (by rw [List.size_toArray];lia) (by lia)) ⟨e,e2,?_⟩
  refine⟨.non,_,I.lset (its':=its++its2) hH e (by simp) (r.append r2) ?_,rfl,q⟩
  rw [List.length_append]
  lia
def zp:V→List V→Hp→VK→Prop:=fun x vs H Q=>∃l xs i k y,x=.ref l∧vs=[.int i]∧H l=some (.lst xs)∧ -(2 ^ 63)≤i∧i < 2 ^ 63∧seqIndex? i xs.length=some k∧xs[k]?=some y∧Q y (be H l (.lst (xs.eraseIdx k)))
theorem yG:GO X "list.pop" zp:=by
  intro pins s σ H x vs v us Q I rx rv h
  obtain⟨l,xs,i,k,y,rfl,rfl,hH,h1,h2,hk,hy,q⟩:=h
  cases rx
  obtain⟨u,rfl,ru⟩:=rv.one
  obtain⟨t,rfl⟩:=ru
  obtain⟨z,its,n,r,hl,e⟩:=I.lstM hH
  obtain⟨w,hw,rw'⟩:=r.get hy
  refine call_meets F.slot_list_pop ⟨_,e,rfl⟩ F.entry_list_pop (F.args_list_pop_2 _ _)
    (MeetsSeq.list_pop_at l its.toArray n i t k w (fitsIndex_both h1 h2) (by rw [List.size_toArray,←hl];exact hk) (by rw [←Array.getElem?_toList];exact hw) (by rw [List.size_toArray];lia)) ⟨e,?_⟩
  refine⟨y,_,I.lset (its':=its.eraseIdx k) hH e ?_ (r.eraseIdx k) ?_,rw',q⟩
  · show its.toArray.eraseIdxIfInBounds k=(its.eraseIdx k).toArray
    rw [List.eraseIdxIfInBounds_toArray]
  · have:=qO xs k
    lia
def Ee:R2:=fun x y H Q=>∃l b xs zs,x=.ref l∧y=.ref b∧H l=some (.lst xs)∧H b=some (.lst zs)∧xs.length+zs.length≤sizeLine∧∀p,H p=none→Q (.ref p) (be H p (.lst (xs++zs)))
theorem DC:h8 X (binaryOp .Add) Ee:=by
  intro pins s σ H x y v u Q I rx ry h
  obtain⟨l,b,xs,zs,rfl,rfl,hH,hB,hz,q⟩:=h
  cases rx
  cases ry
  obtain⟨z,its,n,r,hl,e⟩:=I.lstM hH
  obtain⟨z2,its2,n2,r2,hl2,e2⟩:=I.lstM hB
  refine PySem.P.add_list e e2 ?_ (by rw [List.size_toArray,List.size_toArray];lia)
  have ea:its.toArray++its2.toArray=(its++its2).toArray:=by simp
  rw [ea]
  exact⟨.ref _,_,I.lnew (t':=s.toks) (r.append r2) (by rw [List.length_append];lia),rfl,q _ I.fresh⟩
def Ei:R2:=fun x y H Q=>∃l k xs,x=.ref l∧y=.int k∧H l=some (.lst xs)∧ -(2 ^ 63)≤k∧k < 2 ^ 63∧xs.length*k.toNat≤sizeLine∧
  ∀p,H p=none→Q (.ref p) (be H p (.lst (List.replicate k.toNat xs).flatten))
theorem AS{α:Type}(xs:List α)(k:Nat):(List.replicate k xs).flatten.length=k*xs.length:=by
  induction k with
  | zero=>simp
  | succ k ih=>rw [List.replicate_succ,List.flatten_cons,List.length_append,ih,Nat.succ_mul,Nat.add_comm]
theorem DO:h8 X (binaryOp .Mult) Ei:=by
  intro pins s σ H x y v u Q I rx ry h
  obtain⟨l,k,xs,rfl,rfl,hH,h1,h2,hz,q⟩:=h
  cases rx
  obtain⟨t,rfl⟩:=ry
  obtain⟨z,its,n,r,hl,e⟩:=I.lstM hH
  have hlen:its.toArray.size*k.toNat≤sizeLine:=by rw [List.size_toArray,←hl];exact hz
  have hcap:¬its.toArray.size*k.toNat > (2 ^ 63 - 1) / 8:=by
    have:(sizeLine:Nat)≤(2 ^ 63 - 1) / 8:=by decide
    lia
  have hfit:¬(!Builtin.List.listFitsIndex k)=true:=by
    rw [fitsIndex_both h1 h2]
    exact Bool.false_ne_true
  have hlong:¬Builtin.List.listTooLong (its.toArray.size*k.toNat)=true:=by
    rw [tO hlen]
    exact Bool.false_ne_true
  have hnew:List.foldl (fun x1 x2=>x1++x2) #[] (List.replicate (if its.toArray.isEmpty=true then 0 else k.toNat) its.toArray)=(List.replicate k.toNat its).flatten.toArray:=by
    have f0:∀m:Nat,List.foldl (fun x1 x2=>x1++x2) #[] (List.replicate m its.toArray)=(List.replicate m its).flatten.toArray:=fun m=>by
      have:=qJ its m []
      rw [List.nil_append] at this
      exact this
    rw [f0]
    cases its with
    | nil=>simp
    | cons a r'=>rw [if_neg (by simp)]
  refine wpAny_binaryOp_repeat_ref (T:="list") (U:="int") (by decide) ⟨_,e,rfl⟩ (fun s'=>typeIs_int s' k t) noFill_list_mul F.fills_int_mul F.slot_int_rmul repeat_list F.slot_int_index.lookup
    (call_meets F.slot_int_rmul (typeIs_int s k t) F.entry_int_rmul (F.args_int_rmul_2 _ _) (int___rmul___int_list k t l its.toArray n)
      ⟨e,rfl,⟨_,e,rfl⟩,call_meets F.slot_list_mul ⟨_,e,rfl⟩ F.entry_list_mul (F.args_list_mul_2 _ _) (AutoListH.list___mul___list_int_3 l its.toArray n k t hfit hcap hlong) ⟨e,?_⟩⟩)
  rw [hnew]
  exact⟨.ref _,_,I.lnew (t':=s.toks) (r.rep k.toNat) (by rw [AS,Nat.mul_comm];exact hz),rfl,q _ I.fresh⟩
end
section
variable{prog:Program}{w:World}{A:Around}{E:Value→Shared→Prop}{s:Shared}
end
section
variable{X:Cx}
end
end L2
namespace Att
open PySem PySem.W PySem.Calls PyProof.Rows
theorem oq{P:Params}{h:Heap}:∀(ns:List Int) (vs:List Value),WellAll P h vs (ns.map WData.int)→IntsAre vs ns:=by
  intro ns
  induction ns with
  | nil=>
    intro vs w
    rw [List.map_nil] at w
    cases w
    exact .nil
  | cons n ns ih=>
    intro vs w
    rw [List.map_cons] at w
    cases w with
    | cons a b=>
      cases a
      exact .cons _ _ (ih _ b)
theorem xw{l:OpenLaw}{n:Nat}(hn:l.most=some n){P:Params}{h:Heap}{args:List WData}{vals:List Value}
    (hpre:l.row.toRowW.claim.pre args=true)(hwl:WellAll P h vals args):
    ∃a vs ns,vals=[Value.ref a]∧args=[WData.list (ns.map WData.int)]∧h.get? a=some {cls:=.type "list",data:=.seq vs.toArray}∧IntsAre vs ns∧ns.length≤n:=by
  have hsh:WShape.hasAll [] args [.list .int]=true:=(pre_splitW hpre).1
  have hc:l.pre.holds [] {args:=args}=true:=(pre_splitW hpre).2
  obtain⟨d,r,rfl,h1,h2⟩:=hasAllW_cons hsh
  obtain rfl:=hasAllW_nil h2
  obtain⟨xs,rfl,h3⟩:=hasW_list h1
  obtain⟨ns,rfl⟩:=items_int h3
  have hlen:ns.length≤n:=by
    unfold OpenLaw.pre at hc
    have h4:(WTm.not (.lt (.lit (.int (n:Int))) (.len (.arg 0)))).holds [] {args:=[.list (ns.map .int)]}=true:=by
      have h4:=(holds_andW hc).1
      rw [hn] at h4
      exact h4
    have h5:=condW_of h4 (w_not (w_lt w_lit (w_len_list (w_arg rfl))))
    rw [List.length_map] at h5
    refine Nat.le_of_not_lt fun q=>?_
    have q':(n:Int) < ((ns.length:Nat):Int):=by lia
    first
      | (rw [decide_eq_true q'] at h5;exact absurd h5 (by decide))
      | (simp at h5;lia)
  cases hwl with
  | cons w1 w2=>
    cases w2
    cases w1 with
    | list ho hall=>exact⟨_,_,ns,rfl,rfl,ho,oq ns _ hall,hlen⟩
theorem xr(l:OpenLaw)(args:List WData):l.row.toRowW.claim.post args (.bool true) args=true:=
  postW_of (r:=l.row.toRowW) (X:=(true==true))
    (show WShape.has [] (.bool true) .bool=true by first | rfl | decide | simp [WShape.has,WShape.arms,WShape.armsAll])
    (show(WTm.eq .res (.lit (.bool true))).value [] {args:=args,res:=some (.bool true),after:=args}=some (.bool (true==true)) from w_eq_bool (w_res rfl) w_lit) rfl
theorem attach_call{l:OpenLaw}{n:Nat}{q:Program}{loose:List Str}{XP:(Str→Option Value)→Heap→Prop}{YP:World→Heap→Prop}{d:DefRec}
    (hn:l.most=some n)(hdf:d.params.defaults=[])
    (call:∀(w:World) (s₀ s₁:Shared) (mg mb:Str→Option Value) (fa:Addr) (o:Obj) (pm cd doc:Value) (a:Addr) (vs:List Value) (ns:List Int),
      Ground q loose [] XP w s₀ mg mb s₁.heap→YP w s₁.heap→
      s₁.heap.get? fa=some o→o.data=.func (docDef d.name d.params d.body d.scope pm cd doc)→s₁.heap.CodeRec cd d.name→mg d.name=some (.ref fa)→
      s₁.heap.get? a=some {cls:=.type "list",data:=.seq vs.toArray}→IntsAre vs ns→ns.length≤n→s₁.gens=#[]→
      codeAny (model l.prog w) callerA (.call (.ref fa) ⟨[.ref a],[]⟩) (fun r s'=>r=.ok (.ret (.bool true))∧OldK s₁.heap s'.heap∧s'.os=s₁.os∧AllBare s'.gens) s₁):
    WalkO q loose XP YP l.row.toRowW d [] (fun f vs=>PySem.call f vs):=by
  intro w s₀ s₁ mg mb G Y fa o pm cd doc dV kV ho hd hcd hD hmg hg args vals as hpre hlay hrd hwl hlo
  obtain rfl:dV=.none:=Dflts.none hD hdf
  obtain rfl:kV=.none:=Dflts.noKw hD
  obtain⟨a,vs,ns,rfl,rfl,hobj,hints,hlen⟩:=xw hn hpre hwl
  refine enter_call (codeAny_mono (call w s₀ s₁ mg mb fa o pm cd doc a vs ns G Y ho (fd_plain hd) hcd hmg hobj hints hlen hg) fun r s' hq=>?_)
  obtain⟨rfl,h2,h3,h4⟩:=hq
  exact⟨.inl ⟨.bool true,.bool true,[],rfl,fun _=>rfl,.bool true,xr l _,fun _=>⟨List.Pairwise.nil,fun _ hm=>(nomatch hm)⟩⟩,h2,h3,h4⟩
section
variable{prog:Program}{w:World}{A:Around}{E:Value→Shared→Prop}{s:Shared}{K:Frag}
end
end Att
namespace L2
open PySem PySem.Spec PyProof.Rows
theorem lc:∀{vs:List Value} {ns:List Int},IntsAre vs ns→aW (ns.map V.int) vs
  | _,_,.nil=>.nil
  | _,_,.cons n t h=>.cons ⟨t,rfl⟩ (lc h)
def C4(H:Hp):Prop:=∀b,H b=none∨∃o xs,H b=some (.frz o (.lst xs))
theorem yv{P:Program}{w:World}{K:PySem.W.Frag}{mg mb:Str→Option Value}{CX:wu}{k:Nat}{fa a:Addr}{fd:FuncData}{x:Str}{sp:Sp}{s₁:Shared}{vs:List Value}{ns:List Int}
    (KX:K.In s₁.heap)(hns:s₁.heap.Ns mainGlobals mg)(hb:s₁.heap.Ns builtinsNs mb)(hbb:∀x:Str,x≠"__name__"→mb x=bootBuiltins x)(hlim:s₁.heap.NoLimit)(hg:s₁.gens=#[])
    (ha:s₁.heap.get? a=some {cls:=.type "list",data:=.seq vs.toArray})(hi:IntsAre vs ns)(hl:ns.length≤sizeLine)(hr:eA k callerA)
    (F:∀base:Heap,K.In base→base.Ns mainGlobals mg→aJ P w K mg base CX k fa fd [x] sp)(hbind:∀(s:Shared) (u:Value),BindsTo s fd ⟨[u],[]⟩ [(x,u)])
    (hsp:∀H:Hp,C4 H→gH K H a (ns.map V.int)→sp [.ref a] H (fun v _=>v=.bl true) fun _ _ _=>False)
    (hCX:∀H e s',CX [] H s₁ (fun _ _ _=>False) e s'→False):
    codeAny (model P w) callerA (.call (.ref fa) ⟨[.ref a],[]⟩) (fun r s'=>r=.ok (.ret (.bool true))∧OldK s₁.heap s'.heap∧s'.os=s₁.os∧AllBare s'.gens) s₁:=by
  have rv:=lc hi
  have lenV:=hi.length
  have core:∀H:Hp,C4 H→gH K H a (ns.map V.int)→oS P w H s₁.heap→(∀b,H b≠none→b=a)→(H a≠none→K.lookup a=none)→
      codeAny (model P w) callerA (.call (.ref fa) ⟨[.ref a],[]⟩) (fun r s'=>r=.ok (.ret (.bool true))∧OldK s₁.heap s'.heap∧s'.os=s₁.os∧AllBare s'.gens) s₁:=by
    intro H hO hS hok hA hK
    have base_of:∀{b:Addr} {o:Obj},s₁.heap.get? b=some o→H b=none→(rR s₁.heap H).get? b=some o:=fun e n=>yn e n
    have noA:∀{b:Addr} {o:Obj} {es:Array DictEntry} {ep:Nat},s₁.heap.get? b=some o→o.data=.dict es ep→H b=none:=fun{b o es ep} e d=>by
      cases q:H b with
      | none=>rfl
      | some u=>
        have e':b=a:=hA b (by rw [q];simp)
        subst e'
        rw [ha] at e;cases e
        have d':Data.seq vs.toArray _=Data.dict es ep:=d
        cases d'
    have nsK:∀{b:Addr} {m:Str→Option Value},s₁.heap.Ns b m→(rR s₁.heap H).Ns b m:=fun{b m} ⟨o,es,ep,e,d,r⟩=>⟨o,es,ep,base_of e (noA e d),d,r⟩
    have hKb:K.In (rR s₁.heap H):=fun b o e=>base_of (KX b o e) (by
      cases q:H b with
      | none=>rfl
      | some u=>
        have e':b=a:=hA b (by rw [q];simp)
        subst e'
        rw [hK (by rw [q];simp)] at e;cases e)
    have hM:Mod K mg (rR s₁.heap H):=⟨hKb,nsK hns,⟨mb,nsK hb,hbb⟩,let ⟨mc,h1,h2⟩:=hlim;⟨mc,nsK h1,h2⟩⟩
    have e0:Al P w K mg (rR s₁.heap H) callerA [] s₁ H:=⟨rfl,hM,fun b o e=>A6 e,Nat.le_of_eq (wO _ _),trivial,fun b hb=>absurd (show b∈([]:List Addr) from hb) (by simp),hok,.of_eq hg⟩
    refine codeAny_mono ((F _ hKb (nsK hns)).run callerA [] s₁ H ⟨[.ref a],[]⟩ [.ref a] [.ref a] _ _ hr e0 (hbind s₁ (.ref a)) (.cons rfl .nil) (hsp H hO hS)) fun r s' h=>?_
    cases r with
    | error e=>exact(hCX H e s' h).elim
    | ok fl=>
      cases fl with
      | next=>exact False.elim h
      | brk=>exact False.elim h
      | cont=>exact False.elim h
      | ret u=>
        obtain⟨v,H',os,bare,un,hok',r',q⟩:=h
        have q':v=.bl true:=q
        subst q'
        obtain rfl:u=Value.bool true:=r'
        refine⟨rfl,OldK.of_keep fun b o e=>?_,os,bare⟩
        cases q:H b with
        | none=>exact un.keep b o e q (by intro z;exact absurd (show b∈([]:List Addr) from z) (by simp)) (by simp)
        | some u=>
          rcases hO b with z | ⟨ob,xs,z⟩
          · rw [q] at z;cases z
          · have z2:=un.frzs b ob _ z
            obtain⟨e1,_⟩:=hok b _ z
            obtain⟨e2,_⟩:=hok' b _ z2
            rw [e] at e1;cases e1
            exact e2
  cases hk:K.lookup a with
  | some o=>
    have e:=KX a o hk
    rw [ha] at e
    cases e
    refine core (fun _=>none) (fun _=>.inl rfl) (.inr ⟨_,vs.toArray,_,hk,rfl,rfl,rfl,by rw [List.size_toArray,lenV];exact hl,by simpa using rv⟩) (fun b u z=>by have z':(none:Option HO)=some u:=z;cases z') (fun b z=>absurd rfl z) fun z=>absurd rfl z
  | none=>
    refine core (fun b=>if b=a then some (.frz {cls:=.type "list",data:=.seq vs.toArray} (.lst (ns.map V.int))) else none) (fun b=>?_) (.inl (.inr ⟨{cls:=.type "list",data:=.seq vs.toArray},if_pos rfl⟩)) (fun b u z=>?_) (fun b z=>?_) fun _=>hk
    · by_cases hb:b=a
      · exact .inr ⟨_,_,if_pos hb⟩
      · exact .inl (if_neg hb)
    · by_cases hb:b=a
      · have z':=(if_pos hb).symm.trans z
        cases z'
        subst hb
        exact⟨ha,by rw [List.length_map];exact hl,vs,_,rv,ha⟩
      · have z':=(if_neg hb).symm.trans z
        cases z'
    · by_cases hb:b=a
      · exact hb
      · exact absurd (if_neg hb) z
theorem walk_of{l:PySem.W.OpenLaw}{n k:Nat}{q:Program}{loose:List Str}{XP:(Str→Option Value)→Heap→Prop}{YP:World→Heap→Prop}{d:DefRec}{K:Params→PySem.W.Frag}{CX:World→wu}{sp:World→Sp}{x:Str}
    (hn:l.most=some n)(hn2:n≤sizeLine)(hdf:d.params.defaults=[])(hr:eA k callerA)
    (hY:∀(w:World) (h:Heap),YP w h→(K w.params).In h)
    (F:∀(w:World) (mg:Str→Option Value) (fa:Addr) (h:Heap),(K w.params).In h→h.Ns mainGlobals mg→mg d.name=some (.ref fa)→
      ∃fd:FuncData,(∀(s:Shared) (u:Value),BindsTo s fd ⟨[u],[]⟩ [(x,u)])∧
        ∀base:Heap,(K w.params).In base→base.Ns mainGlobals mg→aJ l.prog w (K w.params) mg base (CX w) k fa fd [x] (sp w))
    (hsp:∀(w:World) (H:Hp) (a:Addr) (ns:List Int),ns.length≤n→C4 H→gH (K w.params) H a (ns.map V.int)→sp w [.ref a] H (fun v _=>v=.bl true) fun _ _ _=>False)
    (hCX:∀(w:World) (H:Hp) (s:Shared) (e:Value) (s':Shared),CX w [] H s (fun _ _ _=>False) e s'→False):
    PySem.W.WalkO q loose XP YP l.row.toRowW d [] (fun f vs=>PySem.call f vs):=by
  refine Att.attach_call hn hdf fun w s₀ s₁ mg mb fa o pm cd doc a vs ns G Y ho hd hcd hmg hobj hints hlen hg=>?_
  have KX:=hY w _ Y
  obtain⟨fd,hb,hF⟩:=F w mg fa _ KX G.T.g hmg
  exact yv KX G.T.g G.T.b G.T.builtins G.T.nolimit hg hobj hints (Nat.le_trans hlen hn2) hr hF hb (fun H hO hS=>hsp w H a ns hlen hO hS) fun H e s'=>hCX w H s₁ e s'
def eE(s:Stmt):Arguments:=match s with
  | .FunctionDef _ a _ _ _ _ _ _ _ _=>a
  | _=>{posonlyargs:=[],args:=[],vararg:=none,kwonlyargs:=[],kw_defaults:=[],kwarg:=none,defaults:=[]}
def dr(s:Stmt):List Stmt:=match s with
  | .FunctionDef _ _ b _ _ _ _ _ _ _=>b
  | _=>[]
def am(s:Stmt):Scope:=match s with
  | .FunctionDef _ _ _ _ _ _ sc _ _ _=>sc
  | _=>{kind:=.function,names:=[],isGenerator:=false,isCoroutine:=false}
abbrev bG:wu:=fun _ _ _ _ _ _=>False
abbrev E0:XK:=fun _ _ _=>False
theorem FJ{X:Cx}:uu bG X E0:=fun _ _ _ _ _ _ _ h=>h.elim
structure EM (K:PySem.W.Frag) (x qual:Str) (st:Stmt) (f:Addr) (fd:FuncData):Prop where
  ex:∃(oc:Value) (od:Option Addr) (kV doc pm:Value) (an:Option Addr) (cdv ct:Value) (osl:Array (Option Value)),
    fd=PySem.W.fnOf x qual (eE st) (dr st) (am st) .none kV doc pm an cdv ct∧K.lookup f=some ⟨oc,od,.func fd,osl⟩∧PySem.W.codeIn K cdv qual=true
  kp:PySem.W.keepIn K (.ref f)=true
section
variable{P:Program}{w:World}{K:PySem.W.Frag}{mg:Str→Option Value}{base:Heap}
theorem EM.ok{x qual:Str}{st:Stmt}{f:Addr}{fd:FuncData}{N ps:List Str}{k:Nat}{sp:Sp}(F:EM K x qual st f fd)(S:aF N ps (am st))(len:∀vs H Q E,sp vs H Q E→vs.length=ps.length)
    (hbody:∀(cdv:Value) (A:Around) (outer:List Env) (s:Shared) (H:Hp) (vs:List V) (Q:VK) (E:XK),eA k (A.deeper (envOfC qual (am st) s.heap.objs.size f cdv))→sp vs H Q E→
      ∃t,oj (uF bG P w K mg base N qual (am st) f cdv A outer s H E).nox (dr st) t∧t {nx:=fun _ H'=>Q .non H',rt:=Q} (gF N vs) H):aJ P w K mg base bG (k+1) f fd ps sp:=by
  obtain⟨oc,od,kV,doc,pm,an,cdv,ct,osl,rfl,lk,hcd⟩:=F.ex
  refine E_ lk hcd S len fun A outer s H vs Q E hr hsp=>?_
  obtain⟨t,h,q⟩:=hbody cdv A outer s H vs Q E hr hsp
  exact⟨t,h.nox,q⟩
theorem EM.binds{x qual:Str}{st:Stmt}{f:Addr}{fd:FuncData}{ps:List Str}(F:EM K x qual st f fd)
    (h:∀(kV doc pm:Value) (an:Option Addr) (cdv ct:Value) (us:List Value),us.length=ps.length→bindArgs (PySem.W.fnOf x qual (eE st) (dr st) (am st) .none kV doc pm an cdv ct) ⟨us,[]⟩=pure (ps.zip us)):qm K fd ps []:=by
  obtain⟨oc,od,kV,doc,pm,an,cdv,ct,osl,rfl,lk,hcd⟩:=F.ex
  exact .all (h kV doc pm an cdv ct)
theorem yh{x qual:Str}{st:Stmt}{f:Addr}{oc:Value}{od an:Option Addr}{osl:Array (Option Value)}{kV doc pm cdv ct:Value}(l:K.lookup f=some ⟨oc,od,.func (PySem.W.fnOf x qual (eE st) (dr st) (am st) .none kV doc pm an cdv ct),osl⟩)
    (c:PySem.W.codeIn K cdv qual=true)(k:PySem.W.keepIn K (.ref f)=true):EM K x qual st f (PySem.W.fnOf x qual (eE st) (dr st) (am st) .none kV doc pm an cdv ct):=⟨⟨oc,od,kV,doc,pm,an,cdv,ct,osl,rfl,l,c⟩,k⟩
end
theorem rh{n:Nat}(h:n≤1000):n < sizeLine:=Nat.lt_of_le_of_lt h (by decide)
section
variable{X:Cx}
end
theorem AQ{A B:Prop}(h:B):if false=true then A else B:=by
  rw [if_neg Bool.false_ne_true]
  exact h
theorem AR{A B:Prop}(h:A):if true=true then A else B:=by
  rw [if_pos rfl]
  exact h
def aD(H H':Hp):Prop:=∀b o,H b=some o→H' b=some o
theorem aD.refl(H:Hp):aD H H:=fun _ _ h=>h
theorem aD.trans{H H1 H2:Hp}(a:aD H H1)(b:aD H1 H2):aD H H2:=fun c o h=>b c o (a c o h)
theorem aD.free{H H':Hp}(e:aD H H'){l:Addr}(h:H' l=Option.none):H l=Option.none:=by
  cases q:H l with
  | none=>rfl
  | some o=>
    rw [e l o q] at h
    cases h
theorem aD.seq{K:PySem.W.Frag}{H H':Hp}{a:Addr}{xs:List V}(e:aD H H')(h:gH K H a xs):gH K H' a xs:=by
  rcases h with (h | ⟨o,h⟩) | h
  · exact .inl (.inl (e _ _ h))
  · exact .inl (.inr ⟨o,e _ _ h⟩)
  · exact .inr h
end L2
set_option maxHeartbeats 4000000
namespace L2
open PySem PySem.Spec PyProof.Rows
def Bt(n:Nat)(i:Int):Prop:=i.natAbs < 2 ^ n
theorem Bt.mono{m n:Nat}{i:Int}(h:Bt m i)(hm:m≤n):Bt n i:=Nat.lt_of_lt_of_le h (Nat.pow_le_pow_right (by decide) hm)
theorem Bt.log{m:Nat}{i:Int}(h:Bt m i)(hm:0 < m):i.natAbs.log2 < m:=by
  unfold Bt at h
  rcases Nat.eq_zero_or_pos i.natAbs with h0 | hp
  · rw [h0];exact hm
  · exact(Nat.log2_lt (by lia)).mpr h
theorem Bt.bits{m:Nat}{i:Int}(h:Bt m i)(hm:0 < m):Builtin.Int.intBits i≤m:=by
  unfold Builtin.Int.intBits
  split
  · exact Nat.zero_le _
  · exact h.log hm
theorem Bt.of_le{m:Nat}{i:Int}{j:Int}(h:Bt m j)(e:i.natAbs≤j.natAbs):Bt m i:=Nat.lt_of_le_of_lt e h
section
variable{X:Cx}
def Ce(i j:Int):Prop:=Bt 4000 i∧Bt 4000 j
theorem Bh:h8 X (binaryOp .Mult) (rI Ce fun i j=>.int (i*j)):=Fz fun _ _ _ _ _ _ _ hc q=>
  mul_int q (.of_bits (Nat.le_trans (hc.1.bits (by decide)) (by decide)) (Nat.le_trans (hc.2.bits (by decide)) (by decide)))
def Cd(i j:Int):Prop:=j≠0∧Bt 8000 j
theorem yR:h8 X (binaryOp .FloorDiv) (rI Cd fun i j=>.int (i.fdiv j)):=Fz fun _ _ _ _ _ _ _ hc q=>
  floordiv_int hc.1 q (.inl (PyProof.noPylong_of_log2 (Nat.lt_trans (hc.2.log (by decide)) (by decide))))
theorem DG:h8 X (compareOp .Is) (fun x y H Q=>∃b c,x=.bl b∧y=.bl c∧Q (.bl (b==c)) H):=by
  intro pins s σ H x y v u Q I rx ry h
  obtain⟨b,c,rfl,rfl,q⟩:=h
  cases rx;cases ry
  exact is_bool ⟨.bl _,H,I,rfl,q⟩
end
def nv(H H':Hp):Prop:=∀a o,H a=some o→(∀xs,o≠.lst xs)→(∀ob xs,o≠.frz ob (.lst xs))→H' a=some o
theorem nv.trans{H H1 H2:Hp}(a:nv H H1)(b:nv H1 H2):nv H H2:=fun c o h n m=>b c o (a c o h n m) n m
theorem aD.ts{H H':Hp}(h:aD H H'):nv H H':=fun a o e _ _=>h a o e
theorem nv.tup{K:PySem.W.Frag}{H H':Hp}(h:nv H H'){a:Addr}{xs:List V}(q:cS K H a xs):cS K H' a xs:=by
  rcases q with (q | ⟨o,q⟩) | q
  · exact .inl (.inl (h _ _ q (fun _ e=>nomatch e) (fun _ _ e=>nomatch e)))
  · exact .inl (.inr ⟨o,h _ _ q (fun _ e=>nomatch e) (fun _ _ e=>nomatch e)⟩)
  · exact .inr q
section
variable{X:Cx}
end
structure a' (K:PySem.W.Frag) (mg:Str→Option Value) (x:Str) (st:Stmt) (f:Addr) (fd:FuncData) (ps:List Str):Prop where
  F:EM K x x st f fd
  m:mg x=some (.ref f)
  b:qm K fd ps []
theorem Df{K:PySem.W.Frag}{mg:Str→Option Value}{h:Heap}{x:Str}{st:Stmt}{f:Addr}{ps:List Str}{oc:Value}{od an:Option Addr}{osl:Array (Option Value)}{kV doc pm cdv ct:Value}(X:K.In h)(G:h.Ns mainGlobals mg)(a:PySem.W.nsIn K mainGlobals x=some (some (.ref f)))
    (l:K.lookup f=some ⟨oc,od,.func (PySem.W.fnOf x x (eE st) (dr st) (am st) .none kV doc pm an cdv ct),osl⟩)(c:PySem.W.codeIn K cdv x=true)(k:PySem.W.keepIn K (.ref f)=true)
    (hb:∀(kV doc pm:Value) (an:Option Addr) (cdv ct:Value) (us:List Value),us.length=ps.length→bindArgs (PySem.W.fnOf x x (eE st) (dr st) (am st) .none kV doc pm an cdv ct) ⟨us,[]⟩=pure (ps.zip us)):
    a' K mg x st f (PySem.W.fnOf x x (eE st) (dr st) (am st) .none kV doc pm an cdv ct) ps:=⟨yh l c k,PySem.W.mg_of X G a,(yh l c k).binds hb⟩
theorem G9{X:Cx}{x:Str}{st:Stmt}{f:Addr}{fd:FuncData}{ps:List Str}{k:Nat}{sp:Sp}{e:Expr}{es:List Expr}{t:TA}{p pos:Pos}(h:a' X.K X.mg x st f fd ps)(G:aJ X.prog X.w X.K X.mg X.base bG k f fd ps sp)(hr:eA k X.A)(ha:PA X (e::es) t)
    (hg:Gl X x:=by rfl)(hdb:(x==("__debug__":Str))=false:=by decide)(he:starEach (e::es) X.env=(false,eval e X.env)::starEach es X.env:=by rfl)(hpl:(backTo pos (starEach es X.env)).any (·.1)=false:=by rfl):
    PE X (.Call (.Name x p) (e::es) [] pos) (zI sp [] E0 t):=Bn G hr hg h.m h.F.kp h.b .nil FJ ha hdb he hpl
theorem aD.new{H:Hp}{p:Addr}{o:HO}(h:H p=none):aD H (be H p o):=fun b u e=>by
  rw [aG (e_ e h)];exact e
theorem aD.tup{K:PySem.W.Frag}{H H':Hp}{a:Addr}{xs:List V}(e:aD H H')(h:cS K H a xs):cS K H' a xs:=e.ts.tup h
def gw(t b:Int):Int × Int:=if b < 0 then(t.fdiv (-(Int.gcd t b:Int)),b.fdiv (-(Int.gcd t b:Int))) else(t.fdiv (Int.gcd t b:Int),b.fdiv (Int.gcd t b:Int))
theorem yl(x y:Int):Int.gcd y (x.fmod y)=Int.gcd x y:=by
  rw [Int.fmod_def,Int.gcd_sub_mul_left_right,Int.gcd_comm]
theorem nV(x:Int){y:Int}(h:y≠0):(x.fmod y).natAbs < y.natAbs:=by
  rcases Int.lt_or_gt_of_ne h with h | h
  · have h1:x.fmod y= -((-x).fmod (-y)):=by
      have:=Int.neg_fmod_neg x y
      lia
    have h2:=Int.fmod_nonneg_of_pos (-x) (b:= -y) (by lia)
    have h3:=Int.fmod_lt_of_pos (-x) (b:= -y) (by lia)
    lia
  · have h2:=Int.fmod_nonneg_of_pos x h
    have h3:=Int.fmod_lt_of_pos x h
    lia
theorem vO{t b:Int}(h:b≠0):(0:Int) < Int.gcd t b:=by
  have:=Int.gcd_pos_of_ne_zero_right t h
  lia
theorem qQ{t b:Int}(h:b≠0):∃d:Int,d.natAbs=Int.gcd t b∧d≠0∧(gw t b).1*d=t∧(gw t b).2*d=b∧0 < (gw t b).2:=by
  have hg:=vO (t:=t) h
  have d1:(Int.gcd t b:Int) ∣ t:=Int.gcd_dvd_left ..
  have d2:(Int.gcd t b:Int) ∣ b:=Int.gcd_dvd_right ..
  unfold gw
  split
  · rename_i hb
    have e1:t.fdiv (-(Int.gcd t b:Int))*(-(Int.gcd t b:Int))=t:=Int.fdiv_mul_cancel (Int.neg_dvd.mpr d1)
    have e2:b.fdiv (-(Int.gcd t b:Int))*(-(Int.gcd t b:Int))=b:=Int.fdiv_mul_cancel (Int.neg_dvd.mpr d2)
    refine⟨-(Int.gcd t b:Int),by lia,by lia,e1,e2,?_⟩
    show 0 < b.fdiv (-(Int.gcd t b:Int))
    have h3:b.fdiv (-(Int.gcd t b:Int))*(Int.gcd t b:Int)= -b:=by rw [Int.mul_neg] at e2;lia
    exact Int.pos_of_mul_pos_left (by lia) (by lia) (b:=(Int.gcd t b:Int))
  · rename_i hb
    have e1:t.fdiv (Int.gcd t b:Int)*(Int.gcd t b:Int)=t:=Int.fdiv_mul_cancel d1
    have e2:b.fdiv (Int.gcd t b:Int)*(Int.gcd t b:Int)=b:=Int.fdiv_mul_cancel d2
    refine⟨(Int.gcd t b:Int),by lia,by lia,e1,e2,?_⟩
    show 0 < b.fdiv (Int.gcd t b:Int)
    exact Int.pos_of_mul_pos_left (by lia) (by lia) (b:=(Int.gcd t b:Int))
theorem yE{t b:Int}(h:b≠0):Int.gcd (gw t b).1 (gw t b).2=1:=by
  obtain⟨d,h1,h2,h3,h4,h5⟩:=qQ (t:=t) h
  have e:Int.gcd ((gw t b).1*d) ((gw t b).2*d)=Int.gcd (gw t b).1 (gw t b).2*d.natAbs:=Int.gcd_mul_right ..
  rw [h3,h4,←h1] at e
  have hd:0 < d.natAbs:=by lia
  exact(Nat.eq_of_mul_eq_mul_right hd (by rw [Nat.one_mul];exact e)).symm
theorem De{t b:Int}(h:b≠0){n:Nat}(hb:Bt n b):Bt n (Int.gcd t b:Int):=by
  refine hb.of_le ?_
  have h1:=Nat.le_of_dvd (show 0 < b.natAbs by lia) (Int.ofNat_dvd.mp (by rw [Int.dvd_natAbs];exact Int.gcd_dvd_right t b))
  lia
mutual
def cnt:PyData→Nat
  | .tuple ds=>1+lH ds
  | .str _=>0
  | _=>1
def lH:List PyData→Nat
  | []=>0
  | d::ds=>cnt d+lH ds
end
mutual
def pF:PyData→Bool
  | .tuple ds=>i_ ds
  | .str _=>false
  | .list _=>false
  | .dict _=>false
  | _=>true
def i_:List PyData→Bool
  | []=>true
  | d::ds=>pF d&&i_ ds
end
theorem qc{a:Int}(h:a.natAbs.log2 < 1920):(Str.ofString (toString a)).length≤1921:=by
  have e:=int_text_length_le (k:=1920) (by decide) h
  rw [PySem.ofString_length];lia
theorem uY(x:Str)(r:List Str):piled (x::r)=x.length+2+piled r:=by
  simp [piled]
theorem xF(ts:List Str):(tupleText ts).length≤piled ts+3:=by
  unfold tupleText
  rw [strLen_append,strLen_append]
  have h1:(("(":Str)).length=1:=by decide
  have h2:(Str.ofString (if (ts.length==1)=true then ",)" else ")")).length≤2:=by split<;>decide
  have h3:(Str.join ", " ts).length≤piled ts:=by
    cases ts with
    | nil=>show(Str.join ", " []).length≤0;decide
    | cons x r=>have:=join_length_add (x::r) (by simp);lia
  lia
mutual
theorem rf:∀{d:PyData},pF d=true→d.showable=true→d.shown.length+2≤2000*cnt d
  | .none,_,_=>by show(Str.ofString "None").length+2≤2000*1;decide
  | .bool b,_,_=>by
    cases b
    · show(Str.ofString "False").length+2≤2000*1;decide
    · show(Str.ofString "True").length+2≤2000*1;decide
  | .int i,_,hs=>by
    simp only [PyData.showable,decide_eq_true_eq] at hs
    have:=qc hs
    show(Str.ofString (toString i)).length+2≤2000*1
    lia
  | .tuple ds,hn,hs=>by
    simp only [PyData.showable] at hs
    simp only [pF] at hn
    have h1:=mJ hn hs
    have h2:=xF (PyData.shownAll ds)
    simp only [PyData.shown,cnt]
    lia
  | .str _,hn,_=>by simp [pF] at hn
  | .list _,hn,_=>by simp [pF] at hn
  | .dict _,hn,_=>by simp [pF] at hn
theorem mJ:∀{ds:List PyData},i_ ds=true→PyData.showableAll ds=true→piled (PyData.shownAll ds)≤2000*lH ds
  | [],_,_=>by simp [PyData.shownAll,piled]
  | d::ds,hn,hs=>by
    simp only [i_,Bool.and_eq_true] at hn
    simp only [PyData.showableAll,Bool.and_eq_true] at hs
    have h1:=rf hn.1 hs.1
    have h2:=mJ hn.2 hs.2
    simp only [PyData.shownAll,lH,uY]
    lia
end
def ia(env:Env):List (Str × NameKind)→List (Str × Addr)→List (Str × Addr)
  | [],cs=>cs
  | (n,k)::r,cs=>ia env r (if k==.free then(n,(env.cells.lookup n).getD 0)::cs else cs)
theorem lY{env:Env}:∀(names:List (Str × NameKind)) (cs:List (Str × Addr)),(∀y∈names,y.2=.free→∃c,env.cells.lookup y.1=some c)→
    (forIn names cs (fun(x:Str × NameKind) (r:List (Str × Addr))=>(if (x.2==NameKind.free)=true then do let a ←cellOf env x.1;pure (ForInStep.yield ((x.1,a)::r)) else pure (ForInStep.yield r):Sem (ForInStep (List (Str × Addr))))):Sem (List (Str × Addr)))=pure (ia env names cs)
  | [],cs,_=>rfl
  | (n,k)::r,cs,h=>by
    rw [List.forIn_cons]
    have ih:=fun cs'=>lY (env:=env) r cs' (fun y hy=>h y (List.mem_cons_of_mem _ hy))
    by_cases hk:(k==NameKind.free)=true
    · have hk':k=.free:=by simpa using hk
      obtain⟨c,hc⟩:=h (n,k) List.mem_cons_self hk'
      have e:cellOf env n=pure c:=by unfold cellOf;rw [hc]
      simp only [hk,if_true,e,pure_bind,ia,hc,Option.getD_some]
      exact ih _
    · have hk':(k==NameKind.free)=false:=by simpa using hk
      simp only [hk',Bool.false_eq_true,if_false,pure_bind,ia]
      exact ih _
theorem lG{scope:Scope}{env:Env}(h:∀y∈scope.names,y.2=.free→∃c,env.cells.lookup y.1=some c):closureFor scope env=pure (ia env scope.names []):=by
  have e:=lY (env:=env) scope.names [] h
  unfold closureFor
  simp only [pure_bind,bind_pure] at e ⊢
  exact e
theorem jr{env:Env}:∀(names:List (Str × NameKind)) (cs:List (Str × Addr)) (x:Str) (c:Addr),(∀y∈names,y.2=.free→∃c,env.cells.lookup y.1=some c)→(∀x c,cs.lookup x=some c→env.cells.lookup x=some c)→(ia env names cs).lookup x=some c→env.cells.lookup x=some c
  | [],cs,x,c,_,hs,h=>hs x c h
  | (n,k)::r,cs,x,c,hn,hs,h=>by
    refine jr r _ x c (fun y hy=>hn y (List.mem_cons_of_mem _ hy)) (fun x' c' e=>?_) h
    by_cases hk:(k==NameKind.free)=true
    · rw [if_pos hk] at e
      obtain⟨c0,hc⟩:=hn (n,k) List.mem_cons_self (by simpa using hk)
      rw [List.lookup_cons] at e
      cases hx:x'==n with
      | true=>
        rw [hx] at e
        have e1:x'=n:=by simpa using hx
        subst e1
        simp only [hc,Option.getD_some,Option.some.injEq] at e
        rw [←e];exact hc
      | false=>rw [hx] at e;exact hs x' c' e
    · rw [if_neg hk] at e
      exact hs x' c' e
theorem lX{env:Env}:∀(names:List (Str × NameKind)) (cs:List (Str × Addr)) (x:Str),((∃y∈names,y.1=x∧y.2=.free)∨∃c,cs.lookup x=some c)→∃c,(ia env names cs).lookup x=some c
  | [],cs,x,h=>by
    rcases h with ⟨y,hy,_⟩ | h
    · cases hy
    · exact h
  | (n,k)::r,cs,x,h=>by
    refine lX r _ x ?_
    by_cases hk:(k==NameKind.free)=true
    · rw [if_pos hk,List.lookup_cons]
      cases hx:x==n with
      | true=>exact .inr ⟨_,rfl⟩
      | false=>
        rcases h with ⟨y,hy,e1,e2⟩ | h
        · rcases K1 hy with z | z
          · subst z;subst e1;simp at hx
          · exact .inl ⟨y,z,e1,e2⟩
        · exact .inr h
    · rw [if_neg hk]
      rcases h with ⟨y,hy,e1,e2⟩ | h
      · rcases K1 hy with z | z
        · subst z;exact absurd (by simpa using e2) hk
        · exact .inl ⟨y,z,e1,e2⟩
      · exact .inr h
theorem cG{env:Env}:∀{names:List (Str × NameKind)} {x:Str},(∀y∈names,y.2≠.cell)→(names.map fun(n,k)=>if (k==NameKind.free&&env.scope.kind==.function&&env.kindOf n==some .cell) then(n,NameKind.cell) else(n,k)).lookup x=some .cell∨
    (names.map fun(n,k)=>if (k==NameKind.free&&env.scope.kind==.function&&env.kindOf n==some .cell) then(n,NameKind.cell) else(n,k)).lookup x=some .free→∃y∈names,y.1=x∧y.2=.free
  | [],x,_,h=>by simp at h
  | (n,k)::r,x,hc,h=>by
    have ih:=@cG env r x (fun y hy=>hc y (List.mem_cons_of_mem _ hy))
    have nc:k≠.cell:=hc (n,k) List.mem_cons_self
    rw [List.map_cons] at h
    cases hx:x==n with
    | true=>
      have e1:x=n:=by simpa using hx
      subst e1
      refine⟨(x,k),List.mem_cons_self,rfl,?_⟩
      by_cases q:(k==NameKind.free&&env.scope.kind==.function&&env.kindOf x==some .cell)=true
      · simp only [Bool.and_eq_true,beq_iff_eq] at q;exact q.1.1
      · simp only [q,Bool.false_eq_true,if_false,List.lookup_cons,beq_self_eq_true,Option.some.injEq] at h
        rcases h with h | h
        · exact absurd h nc
        · exact h
    | false=>
      have e2:∀(l:List (Str × NameKind)),((if (k==NameKind.free&&env.scope.kind==.function&&env.kindOf n==some .cell)=true then(n,NameKind.cell) else(n,k))::l).lookup x=l.lookup x:=fun l=>by
        split<;>simp [List.lookup_cons,hx]
      simp only [e2] at h
      obtain⟨y,hy,z⟩:=ih h
      exact⟨y,List.mem_cons_of_mem _ hy,z⟩
theorem dW{env:Env}:∀{names:List (Str × NameKind)} {x:Str},names.lookup x=some .free→
    (names.map fun(n,k)=>if (k==NameKind.free&&env.scope.kind==.function&&env.kindOf n==some .cell) then(n,NameKind.cell) else(n,k)).lookup x≠some .local
  | [],x,h=>by simp at h
  | (n,k)::r,x,h=>by
    rw [List.map_cons]
    cases hx:x==n with
    | true=>
      simp only [hx,List.lookup_cons] at h
      cases h
      show List.lookup x ((if (NameKind.free==NameKind.free&&env.scope.kind==.function&&env.kindOf n==some .cell)=true then(n,NameKind.cell) else(n,NameKind.free))::_)≠_
      split<;>simp [List.lookup_cons,hx]
    | false=>
      simp only [hx,List.lookup_cons] at h
      have ih:=@dW env r x h
      have e2:∀(l:List (Str × NameKind)),((if (k==NameKind.free&&env.scope.kind==.function&&env.kindOf n==some .cell)=true then(n,NameKind.cell) else(n,k))::l).lookup x=l.lookup x:=fun l=>by
        split<;>simp [List.lookup_cons,hx]
      simp only [e2]
      exact ih
def aw(X:Cx)(scope:Scope)(cp:List (Nat × Str))(tgN:List Str)(C:Addr)(s0:Shared)(H0:Hp)(fp:List Addr):Cx where
  prog:=X.prog
  w:=X.w
  K:=X.K
  mg:=X.mg
  base:=X.base
  A:=X.A
  N:=cp.map (·.2)++tgN
  s₀:=s0
  H₀:=H0
  env:=compEnvC scope (ia X.env scope.names []) C X.env
  outer:=X.stack
  stack:=X.stack
  ex:=fp
  fn:=fun x=>scope.names.lookup x==some .local
  calm:=X.calm
  pn:=[]
  xe:=fun _ _=>False
def uq(X:Cx)(ifs:List Expr)(t:TT):Prop:=
  ∀(pins:List (Addr × Obj)) (s:Shared) (σ:L2.St) (H:Hp) (Q:Bool→Hp→Prop),aH X pins σ H s→t σ H Q→
    wpAny (model X.prog X.w) X.A (forIn ifs true fun c r=>if r=true then do let ok ←isTrue c X.env (eval c X.env);pure (ForInStep.yield ok) else pure (ForInStep.yield r)) (TP X pins σ Q) X.xe s
theorem BH{X:Cx}:uq X [] (fun _ H Q=>Q true H):=fun _ _ _ H _ I h=>wpAny_tests_nil ⟨H,I,h⟩
theorem BI{X:Cx}{c:Expr}{t:TT}(h:PT X c t):uq X [c] t:=fun pins s σ H Q I q=>wpAny_tests_one (h pins s σ H Q I q)
abbrev v_:Value→Shared→Prop:=fun _ _=>False
def yc(prog:Program)(w:World)(A:Around)(elt tg:Expr)(ifs:List Expr)(env:Env)(it acc:Value)(onward:Shared→Prop)(v:Value)(u:Shared):Prop:=
  wpAny (model prog w) A (letOwnedTupleGo tg it v) (fun _ u1=>wpAny (model prog w) A (assign tg env v) (fun _ u2=>wpAny (model prog w) A
    (forIn ifs true fun c r=>if r=true then do let ok ←isTrue c env (eval c env);pure (ForInStep.yield ok) else pure (ForInStep.yield r)) (fun ok u3=>if ok=true then wpAny (model prog w) A (eval elt env) (fun x u4=>wpAny (model prog w) A (call (.builtin "list.append") [acc,x]) (fun _ u5=>onward u5) v_ u4) v_ u3 else onward u3) v_ u2) v_ u1) v_ u
theorem lZ{prog:Program}{w:World}{A:Around}{R:Result→Shared→Prop}{elt tg iter:Expr}{ifs:List Expr}{scope:Scope}{pos:Pos}{it acc:Value}{env:Env}(J:Nat→Shared→Prop)
    (turn:∀n u,J n u→wpAny (model prog w) A (pyNext it) (fun r u1=>(r=none→R (.ok .next) u1)∧∀v,r=some v→yc prog w A elt tg ifs env it acc (fun u2=>∃m,m < n∧J m u2) v u1) v_ u){n0:Nat}{u0:Shared}(gF:J n0 u0):
    codeAny (model prog w) A (.compLoop (.ListComp elt [⟨tg,iter,ifs,0⟩] scope pos) 0 it acc env) R u0:=by
  refine codeAny_loop rfl J (fun n u ju=>?_) n0 gF
  show wpAny _ A ((compTurn (.ListComp elt [⟨tg,iter,ifs,0⟩] scope pos) 0 it acc env).onRaise _) _ _ u;refine wpAny_noted ?_;rw [compTurn_list]
  refine wpAny_bind (wpAny_standAt (wpAny_bind (wpAny_mono (turn n u ju) (fun r u1 k1=>?_) fun _ _ z=>z.elim)))
  cases r with
  | none=>exact wpAny_pure (k1.1 rfl)
  | some v=>
    refine wpAny_bind (wpAny_mono (k1.2 v rfl) (fun _ u2 k2=>wpAny_bind (wpAny_mono k2 (fun _ u3 k3=>wpAny_bind (wpAny_mono k3 (fun ok u4 k4=>?_) fun _ _ z=>z.elim)) fun _ _ z=>z.elim)) fun _ _ z=>z.elim)
    cases ok with
    | false=>rw [if_neg Bool.false_ne_true] at k4;exact wpAny_pure ⟨rfl,k4⟩
    | true=>
      rw [if_pos rfl] at k4
      refine wpAny_bind (wpAny_bind (wpAny_mono k4 (fun x u5 k5=>wpAny_bind (wpAny_mono k5 (fun _ u6 k6=>?_) fun _ _ z=>z.elim)) fun _ _ z=>z.elim));exact wpAny_pure (wpAny_pure ⟨rfl,k6⟩)
def eP(cp:List (Nat × Str))(nT:Nat)(σ:L2.St):L2.St:=cp.map (fun p=>(σ[p.1]?).join)++List.replicate nT none
structure wk (cp:List (Nat × Str)) (nT:Nat) (wi:TI) (g:TG) (tc:TT) (te:TE) (σ:L2.St) (H:Hp) (Q:VK):Prop where
  go:wi σ H fun J H1=>∀l,H1 l=none→
  ∃W:Nat→Nat→L2.St→Hp→Prop,(∃m,W 0 m (eP cp nT σ) (be H1 l (.lst [])))∧∀i m σ' H',W i m σ' H'→
    (J.stop i H'∧Q (.ref l) H')∨(J.go i H'∧∃N:L2.St→Hp→Prop,(∀σ2 H2,N σ2 H2→∃m',m' < m∧W (i+1) m' σ2 H2)∧
      ∀x H2,J.yld i H' x H2→g x σ' H2 fun σ2 H3=>tc σ2 H3 fun b H4=>if b=true then te σ2 H4 fun v H5=>∃ys,H5 l=some (.lst ys)∧ys.length < sizeLine∧N σ2 (be H5 l (.lst (ys++[v]))) else N σ2 H4)
theorem Bp{X:Cx}{elt iter tg:Expr}{ifs:List Expr}{scope:Scope}{pos:Pos}{wi:TI}{g:TG}{tc:TT}{te:TE}(sc0:Scope)(N0:List Str)(cp:List (Nat × Str))(tgN:List Str)
    (hc:X.calm=true)(hsc:X.env.scope=sc0)(hN0:X.N=N0)(hi:PI X tg iter wi)
    (hg:∀C s0 H0 fp,PG (aw X scope cp tgN C s0 H0 fp) tg g)
    (ht:∀C s0 H0 fp,uq (aw X scope cp tgN C s0 H0 fp) ifs tc)
    (he:∀C s0 H0 fp,PE (aw X scope cp tgN C s0 H0 fp) elt te)
    (hk:scope.kind=.function)(hcell:∀y∈scope.names,y.2≠.cell)(hnames:∀y∈scope.names,y.2=.local→scope.names.lookup y.1=some .local)
    (hfr:∀y∈scope.names,y.2=.free→scope.names.lookup y.1=some .free∧sc0.names.lookup y.1=some .cell)
    (hcp:∀p∈cp,N0[p.1]?=some p.2)(hcq:∀p∈cp,sc0.names.lookup p.2=some .cell∧scope.names.lookup p.2=some .free)
    (hs:∀x,foldedSetIterable iter X.env x=pure x:=by intro _;rfl):
    PE X (.ListComp elt [⟨tg,iter,ifs,0⟩] scope pos) (wk cp tgN.length wi g tc te):=by
  intro pins s σ H Q I h
  have hkind:∀x,X.env.kindOf x=sc0.names.lookup x:=fun x=>by unfold Env.kindOf;rw [hsc]
  have hfree:∀y∈scope.names,y.2=.free→∃c,X.env.cells.lookup y.1=some c:=fun y hy e=>I.ok.has y.1 (.inl (by rw [hkind];exact(hfr y hy e).2))
  rw [eval_ListComp]
  refine wpAny_comprehension_free (use:=none) rfl hs (lG hfree) hk hnames (wpAny_mono (hi pins s σ H _ I h.go) (fun xv s₁ h₁=>wpAny_mono h₁ (fun itv s₂ h₂=>?_) fun _ _ e=>e) fun _ _ e=>e)
  obtain⟨it,fp,tn,J,H2,rfl,I2,T,st2,f2,hq⟩:=h₂
  refine wpAny_newObj_type ?_
  have hlF:H2 s₂.heap.objs.size=none:=I2.hok.fresh (Nat.le_refl _)
  have I3:aH X pins σ (be H2 s₂.heap.objs.size (.lst [])) {s₂ with heap:=s₂.heap.push {cls:=.type "list",data:=.seq ([]:List Value).toArray}}:=I2.lnew (t':=s₂.toks) .nil (Nat.zero_le _)
  obtain⟨W,⟨m0,w0⟩,turn⟩:=hq _ hlF
  have f3:∀b∈fp,iL X pins (be H2 s₂.heap.objs.size (.lst [])) b:=fun b hb=>by
    obtain⟨f0,fr⟩:=f2 b hb
    obtain⟨o,ho,_⟩:=T.obj _ _ st2 b hb
    exact⟨by rw [aG (Nat.ne_of_lt (Heap.lt_size ho))];exact f0,fr⟩
  have st3:tn 0 (s₂.heap.push {cls:=.type "list",data:=.seq ([]:List Value).toArray}):=T.keep _ _ _ st2 fun b _ o e=>Heap.get?_push_of_some _ e
  generalize hD:s₂.heap.objs.size=D at*
  generalize hs3:({s₂ with heap:=s₂.heap.push {cls:=.type "list",data:=.seq ([]:List Value).toArray}}:Shared)=s₃ at*
  have hst3:tn 0 s₃.heap:=by rw [←hs3];exact st3
  refine wpAny_newFunctionEnv hcell (by intro y hy;simp at hy) (fun h₁ hns₁ hsb₁=>?_) hk
  generalize hC:s₃.heap.objs.size=C at*
  have old:∀b o,s₃.heap.get? b=some o→h₁.get? b=some o:=fun b o e=>hsb₁.extBut b o (by rw [←hC];exact Nat.ne_of_lt (Heap.lt_size e)) (Heap.get?_push_of_some _ e)
  have nC:∀b o,s₃.heap.get? b=some o→b≠C:=fun b o e=>by rw [←hC];exact Nat.ne_of_lt (Heap.lt_size e)
  have hHC:(be H2 D (.lst [])) C=none:=I3.hok.fresh (by rw [hC];exact Nat.le_refl _)
  have clS:∀x c,(ia X.env scope.names []).lookup x=some c→X.env.cells.lookup x=some c:=fun x c e=>jr _ _ x c hfree (fun _ _ z=>by simp at z) e
  have clH:∀x,(∃y∈scope.names,y.1=x∧y.2=.free)→∃c,(ia X.env scope.names []).lookup x=some c:=fun x e=>lX _ _ x (.inl e)
  have ok':(aw X scope cp tgN C s₃ (be H2 D (.lst [])) fp).Ok:=by
    refine⟨I.ok.mod,hk,I.ok.glob,I.ok.blt,by rw [←hC];exact Nat.le_refl _,fun x y c e1 e2=>I.ok.inj x y c (clS _ _ e1) (clS _ _ e2),fun x e=>clH x (cG hcell e),fun x c e1 e2=>?_,I.ok.hd,I.ok.frames,.inl rfl,fun b hb=>?_,fun b o e=>I3.bs b o e,?_,fun b o e hb=>?_,fun b hb z=>?_,I3.stack,fun b hb=>I3.stkFree b hb⟩
    · exfalso
      have e1':scope.names.lookup x=some .local:=by simpa [aw] using e1
      have e2':=clS x c e2
      obtain⟨c',hc'⟩:∃y∈scope.names,y.1=x∧y.2=.free:=by
        by_cases q:∃y∈scope.names,y.1=x∧y.2=.free
        · exact q
        · exfalso
          have:∀(names:List (Str × NameKind)) (cs:List (Str × Addr)),(¬∃y∈names,y.1=x∧y.2=.free)→cs.lookup x=none→(ia X.env names cs).lookup x=none:=by
            intro names
            induction names with
            | nil=>intro cs _ h;exact h
            | cons y r ih=>
              intro cs hn hcs
              obtain⟨n,k⟩:=y
              refine ih _ (fun⟨y,hy,z⟩=>hn ⟨y,List.mem_cons_of_mem _ hy,z⟩) ?_
              by_cases hk:(k==NameKind.free)=true
              · rw [if_pos hk,List.lookup_cons]
                cases hx:x==n with
                | true=>exact absurd ⟨(n,k),List.mem_cons_self,(by simpa using hx:x=n).symm,by simpa using hk⟩ hn
                | false=>exact hcs
              · rw [if_neg hk];exact hcs
          have z:=this scope.names [] q rfl
          have e2'':(ia X.env scope.names []).lookup x=some c:=e2
          rw [z] at e2'';cases e2''
      have z:=(hfr c' hc'.1 hc'.2.2).1
      rw [hc'.2.1,e1'] at z;cases z
    · obtain⟨f0,f1,f4,f5,f6,f7⟩:=f3 b hb
      obtain⟨o,ho,_⟩:=T.obj _ _ hst3 b hb
      exact⟨nC b o ho,fun x c e=>f6 x c (clS x c e)⟩
    · exact Nat.le_trans I.ok.bsz I3.sz
    · obtain⟨f0,f1,f4,f5,f6,f7⟩:=f3 b hb
      rcases f5 with z | z
      · exact I.ok.noex b o e z
      · have:=(I.ok.bs b o e).1
        exact absurd (Nat.lt_of_lt_of_le (Heap.lt_size this) z) (Nat.lt_irrefl _)
    · obtain⟨f0,f1,f4,f5,f6,f7⟩:=f3 b hb
      rcases K1 (I3.stkSub b z) with z | z
      · exact f1 z
      · exact f4 z
  have I4:aH (aw X scope cp tgN C s₃ (be H2 D (.lst [])) fp) [] (eP cp tgN.length σ) (be H2 D (.lst [])) {s₃ with heap:=h₁,toks:=s₃.toks+([]:List (Str × Value)).length}:=by
    refine⟨ok',rfl,I3.bare,Un.kept old,⟨_,hns₁,fun i x v e1 e2 e3=>?_⟩,fun x c e=>?_,hHC,fun x c e=>I3.freeC x c (clS x c e),fun p hp=>by simp [aw] at hp,I3.hok.kept old,by simp [eP,aw]⟩
    · have hlt:i < cp.length:=by
        by_cases q:i < cp.length
        · exact q
        · exfalso
          unfold eP at e2
          rw [List.getElem?_append_right (by simp;lia)] at e2
          rw [List.getElem?_replicate] at e2
          split at e2<;>cases e2
      have e1':(cp.map (·.2))[i]?=some x:=by
        have e1'':(cp.map (·.2)++tgN)[i]?=some x:=e1
        rwa [List.getElem?_append_left (by simp;exact hlt)] at e1''
      have e2':(cp.map (fun p=>(σ[p.1]?).join))[i]?=some (some v):=by
        unfold eP at e2
        rwa [List.getElem?_append_left (by simp;exact hlt)] at e2
      rw [List.getElem?_map,List.getElem?_eq_getElem hlt] at e1' e2'
      have ex:(cp[i]).2=x:=by simpa using e1'
      have ev:(σ[(cp[i]).1]?).join=some v:=by simpa using e2'
      have ev':σ[(cp[i]).1]?=some (some v):=by
        cases q:σ[(cp[i]).1]? with
        | none=>rw [q] at ev;cases ev
        | some z=>rw [q] at ev;simp only [Option.join_some] at ev;rw [ev]
      have hN:=hcp cp[i] (List.getElem_mem hlt)
      rw [←hN0] at hN
      obtain⟨hcl,hcf⟩:=hcq cp[i] (List.getElem_mem hlt)
      rw [ex] at hN hcl hcf
      obtain⟨m,hn,hl⟩:=I3.loc
      obtain⟨u,r,l⟩:=hl _ x v hN ev' (.inr (.inl (by rw [hsc];exact hcl)))
      refine⟨u,r,.inr ?_⟩
      rcases l with ⟨k1,_⟩ | ⟨k1,c,hcc,o,ho,hd⟩
      · rw [hkind,hcl] at k1;cases k1
      · have e3':(relabel scope X.env).names.lookup x=some .local∨(relabel scope X.env).names.lookup x=some .cell∨(relabel scope X.env).names.lookup x=some .free:=e3
        have nl:(relabel scope X.env).names.lookup x=some .cell∨(relabel scope X.env).names.lookup x=some .free:=by
          rcases e3' with z | z | z
          · exact absurd z (dW hcf)
          · exact .inl z
          · exact .inr z
        obtain⟨c',hc'⟩:=clH x (cG hcell nl)
        have:=clS x c' hc'
        rw [hcc] at this;cases this
        exact⟨nl,c,hc',o,old c o ho,hd⟩
    · obtain⟨v,o,ho,hd⟩:=I3.cell x c (clS x c e)
      exact⟨v,o,old c o ho,hd⟩
  have hst4:tn 0 h₁:=T.keep _ _ _ hst3 fun b _ o e=>old b o e
  have loop:codeAny (model X.prog X.w) X.A (.compLoop (.ListComp elt [⟨tg,iter,ifs,0⟩] scope pos) 0 (.ref it) (.ref D) (compEnvC scope (ia X.env scope.names []) C X.env))
      (compPost (model X.prog X.w) X.A X.xe none (EP X pins σ Q) (.ref D) C) {s₃ with heap:=h₁,toks:=s₃.toks+([]:List (Str × Value)).length}:=by
    refine lZ (fun n s'=>∃i σ' H',aH (aw X scope cp tgN C s₃ (be H2 D (.lst [])) fp) [] σ' H' s'∧tn i s'.heap∧(∀b∈fp,H' b=none)∧W i n σ' H') ?_ (n0:=m0) ⟨0,_,_,I4,hst4,fun b hb=>(f3 b hb).1,w0⟩
    rintro n s5 ⟨i,σ5,H5,I5,st5,fr5,w5⟩
    have stat:∀{H':Hp},(∀b∈fp,H' b=none)→∀b∈fp,iL (aw X scope cp tgN C s₃ (be H2 D (.lst [])) fp) [] H' b:=fun hn b hb=>
      ⟨hn b hb,(ok'.exf b hb).1,ok'.exfs b hb,.inl hb,(ok'.exf b hb).2,fun p hp=>by simp [aw] at hp⟩
    rcases turn i n σ5 H5 w5 with ⟨stop,qn⟩ | ⟨go,N,hN,step⟩
    · refine bU (T.done (aw X scope cp tgN C s₃ (be H2 D (.lst [])) fp) rfl rfl rfl hc i [] s5 σ5 H5 (fun _ _=>False) I5 (stat fr5) st5 stop) fun r s6 ⟨hr,I6⟩=>?_
      subst hr
      refine⟨fun _=>?_,fun v z=>by cases z⟩
      obtain⟨m,hn,_⟩:=I6.loc
      refine⟨m,hn,fun h' sb=>⟨.ref D,H5,?_,rfl,qn⟩⟩
      have ub:=I6.base
      have kp:∀b u,b≠C→s6.heap.get? b=some u→h'.get? b=some u:=fun b u ne e=>sb.extBut b u ne e
      have nit:∀b u,H5 b=some u→b≠C:=fun b u e z=>by
        have:=I6.free
        rw [z] at e
        rw [show H5 C=none from this] at e;cases e
      refine I3.call' (s':={s6 with heap:=h'}) (ch:=fp) I6.os ⟨fun b o e n hb hx=>kp b o (nC b o e) (ub.keep b o e n hb hx),fun b o e n hb hx=>?_,ub.free,fun b o e hx=>?_,ub.tups,ub.frzs,ub.tbls⟩ (fun b u e=>?_) I6.bare (fun b hb=>?_)
      · obtain⟨sl,q⟩:=ub.slot b o e n hb hx
        exact⟨sl,kp b _ (nC b o e) q⟩
      · obtain⟨o',q⟩:=ub.there b o e hx
        exact⟨o',kp b _ (nC b o e) q⟩
      · refine(I6.hok b u e).stay (fun c v hc q=>kp c v ?_ q) (fun _ q=>q) fun _ _ q=>q
        rcases hc with z | z
        · rw [z];exact nit b u e
        · exact nit c _ z
      · obtain⟨f0,f1,f4,f5,f6,f7⟩:=f3 b hb
        exact⟨f5,f1,f6,f7⟩
    · refine bU (T.item (aw X scope cp tgN C s₃ (be H2 D (.lst [])) fp) rfl rfl rfl hc i [] s5 σ5 H5 (fun _ _=>False) I5 (stat fr5) st5 go) fun r s6 ⟨u,hr,h6⟩=>?_
      subst hr
      refine⟨fun z=>(by cases z),fun v z=>?_⟩
      cases z
      refine bU h6 fun _ s7 ⟨x,H7,I7,r7,y7,st7,fr7⟩=>?_
      have I7':=I7.pinned (stat fr7) (T.obj _ _ st7)
      have again:∀{σ8:L2.St} {H8:Hp} {s8:Shared},aH (aw X scope cp tgN C s₃ (be H2 D (.lst [])) fp) ([]++kv fp s7.heap) σ8 H8 s8→N σ8 H8→∃m,m < n∧∃i σ' H',aH (aw X scope cp tgN C s₃ (be H2 D (.lst [])) fp) [] σ' H' s8∧tn i s8.heap∧(∀b∈fp,H' b=none)∧W i m σ' H':=fun{σ8 H8 s8} I8 n8=>by
        obtain⟨m',hm,w8⟩:=hN σ8 H8 n8
        refine⟨m',hm,i+1,σ8,H8,I8.unpinned,T.keep _ _ _ st7 fun b hb o e=>(I8.pin (b,o) (List.mem_append_right _ (List.mem_append_right _ (ce hb e)))).1,fun b hb=>?_,w8⟩
        obtain⟨o,e,d⟩:=T.obj _ _ st7 b hb
        exact(I8.pin (b,o) (List.mem_append_right _ (List.mem_append_right _ (ce hb e)))).2.1
      refine bU (hg C s₃ (be H2 D (.lst [])) fp _ s7 σ5 H7 x u _ I7' r7 (step x H7 y7)) fun _ s8 ⟨σ8,H8,I8,q8⟩=>?_
      refine bU (ht C s₃ (be H2 D (.lst [])) fp _ s8 σ8 H8 _ I8 q8) fun ok s9 ⟨H9,I9,q9⟩=>?_
      cases ok with
      | false=>
        rw [if_neg Bool.false_ne_true] at q9 ⊢
        exact again I9 q9
      | true=>
        rw [if_pos rfl] at q9 ⊢
        refine bU (he C s₃ (be H2 D (.lst [])) fp _ s9 σ8 H9 _ I9 q9) fun v s10 ⟨xv,H10,I10,r10,ys,hl,hz,n10⟩=>?_
        refine bU (i9 _ s10 σ8 H10 (.ref D) [xv] (.ref D) [v] (fun _ H=>N σ8 H) I10 rfl (.cons r10 .nil) ⟨D,ys,xv,rfl,rfl,hl,hz,n10⟩) fun _ s11 ⟨_,H11,I11,_,q11⟩=>?_
        exact again I11 q11
  exact codeAny_compStart_list loop (T.self X.A 0 _ _ _ hst4 loop)
section
variable{X:Cx}
def zo(K:PySem.W.Frag):R2:=fun x y H Q=>∃a b xs ys,x=.ref a∧y=.ref b∧cS K H a xs∧cS K H b ys∧xs.length+ys.length≤sizeLine∧∀p H',aD H H'→cS K H' p (xs++ys)→Q (.ref p) H'
theorem Bc:h8 X (binaryOp .Add) (zo X.K):=by
  intro pins s σ H x y v u Q I rx ry h
  obtain⟨a,b,xs,ys,rfl,rfl,ha,hb,hz,q⟩:=h
  cases rx;cases ry
  by_cases hx:xs=[]
  · obtain⟨i1,r1,p1,_⟩:=I.tuple ha
    obtain⟨i2,r2,p2,_⟩:=I.tuple hb
    obtain⟨m,F⟩:=I.fr
    have e1:i1=[]:=by subst hx;cases r1;rfl
    refine add_tuples F (yJ (g:=X.base)) p1 p2 (fun _=>?_) (fun z1 _=>absurd e1 z1) (fun z1 _ _ _ _=>absurd e1 z1) (by rw [←r1.length,←r2.length];exact hz)
    exact⟨.ref b,H,I,rfl,q b H (aD.refl H) (by rw [hx];exact hb)⟩
  · exact Bd pins s σ H (.ref a) (.ref b) _ _ Q I rfl rfl ⟨a,b,xs,ys,rfl,rfl,ha,hb,hx,hz,fun z=>q a H (aD.refl H) (by rw [z,List.append_nil];exact ha),fun _ p hp=>q p _ (aD.new hp) (cS.of ay)⟩
theorem mY{x:V}{us:List Value}(r:aW [x] us):∃u,us=[u]∧bD x u:=by
  cases r with
  | cons p p'=>cases p';exact⟨_,rfl,p⟩
theorem sW{prog:Program}{w:World}{A:Around}{E:Value→Shared→Prop}{s:Shared}{t:Addr}{vs:List Value}{Q:List Value→Shared→Prop}(ht:IsTup s.heap t vs.toArray)
    (h:Q vs {s with heap:=(s.heap.push (seqObj "list" #[] 0)).update s.heap.objs.size (Obj.mapSeq (· ++vs.toArray))})(hsz:vs.length≤sizeLine):wpAny (model prog w) A (collect (.ref t)) Q E s:=by
  obtain⟨o,ho,hc,n,hd⟩:=id ht;unfold collect;refine wpAny_bind (wpAny_runValue (codeAny_builtin entry_proto_collect' ?_))
  show wpAny _ _ (do again (.builtin "list.__iadd__" ⟨[←newList [],.ref t],[]⟩)) _ _ s
  refine wpAny_bind (wpAny_newList (wpAny_pure ⟨Code.quiet_builtin _ (by decide+kernel),?_⟩));refine codeAny_builtin entry_list_iadd' ?_
  show wpAny _ _ (Builtin.List.listExtendWith (.ref s.heap.objs.size) (.ref t) (.ref s.heap.objs.size)) _ _ {s with heap:=s.heap.push (seqObj "list" #[] 0)}
  unfold Builtin.List.listExtendWith;have ho':(s.heap.push (seqObj "list" #[] 0)).get? t=some o:=Heap.get?_push_of_some _ ho
  refine wpAny_bind (wpAny_typeOf (T:="tuple") ⟨o,ho',hc⟩ ?_)
  rw [if_pos (by rw [show(Value.type "tuple"==Value.type "tuple")=true from rfl,Bool.or_true])]
  refine wpAny_bind (listItems_at ho' hd ?_);refine wpAny_bind (listItems_at (xs:=#[]) (n:=0) (Heap.get?_push_size _ rfl) rfl ?_)
  rw [if_neg (by simp)];refine wpAny_bind (listUpdate_at (xs:=#[]) (n:=0) (Heap.get?_push_size _ rfl) rfl ?_ (Nat.zero_le _) (by show(#[]++vs.toArray).size≤sizeLine+1;simp only [Array.size_append,List.size_toArray,List.length_nil];lia))
  refine wpAny_pure ?_
  show wpAny (model prog w) A (load s.heap.objs.size >>= fun o=>match o.data with | .seq xs _=>pure xs.toList | _=>unsupported "internal:collect") Q E {s with heap:=(s.heap.push (seqObj "list" #[] 0)).update s.heap.objs.size (Obj.mapSeq (· ++vs.toArray))}
  refine wpAny_bind (wpAny_load (get?_update_seq (Heap.get?_push_size _ rfl) _) ?_);show wpAny _ _ (pure ((#[]:Array Value)++vs.toArray).toList) Q E _;rw [show((#[]:Array Value)++vs.toArray).toList=vs by simp];exact wpAny_pure h
theorem vg{prog:Program}{w:World}{A:Around}{E:Value→Shared→Prop}{s:Shared}{t:Addr}{vs:List Value}{ns:List Int}{Q:Value→Shared→Prop}(ht:IsTup s.heap t vs.toArray)(hI:IntsAre vs ns)(h64:vs.length < 64)
    (h:∀(out:Array Value) (ns':List Int),IntsAre out.toList ns'→ns'.Perm ns→ns'.Pairwise (· ≤·)→Q (.ref (s.heap.objs.size+1)) {s with heap:=sortedAll s.heap vs out}):wpAny (model prog w) A (call (.builtin "sorted") [.ref t]) Q E s:=by
  refine Calls.call_function_entry kind_sorted plain_sorted entry_sorted (args_sorted1 _) ?_;unfold Builtin.«sorted»
  refine wpAny_bind (m:=checkCount "sorted" 1 1 _) (wpAny_pure ?_);refine wpAny_bind (sW ht ?_ (Nat.le_trans (Nat.le_of_lt h64) (by decide)))
  have z:((s.heap.push (seqObj "list" #[] 0)).update s.heap.objs.size (Obj.mapSeq (· ++vs.toArray))).objs.size=s.heap.objs.size+1:=by rw [Heap.size_update,size_push']
  have o:(((s.heap.push (seqObj "list" #[] 0)).update s.heap.objs.size (Obj.mapSeq (· ++vs.toArray))).push (seqObj "list" vs.toArray 0)).get? (s.heap.objs.size+1)=some (seqObj "list" vs.toArray 0):=by rw [←z];exact Heap.get?_push_size _ rfl
  refine wpAny_bind (wpAny_newList ?_);show wpAny _ _ _ _ _ {s with heap:=((s.heap.push (seqObj "list" #[] 0)).update s.heap.objs.size (Obj.mapSeq (· ++vs.toArray))).push (seqObj "list" vs.toArray 0)}
  rw [z];refine wpAny_bind (wpAny_holding (wpAny_call_entry slot_list_sort ⟨_,o,rfl⟩ entry_list_sort (list_sort_tree o hI h64 fun out ns' b1 b2 b3=>⟨_,rfl,?_⟩) (args_list_sort _)))
  exact wpAny_pure ⟨_,rfl,h out ns' b1 b2 b3⟩
theorem nH:d_ X (.builtin "sorted") (fun xs H Q=>∃(a:Addr) (ns:List Int),xs=[.ref a]∧cS X.K H a (ns.map V.int)∧ns.length < 64∧∀(l:Addr) (ns':List Int) (H':Hp),aD H H'→H l=none→H' l=some (.lst (ns'.map V.int))→ns'.Perm ns→ns'.Pairwise (· ≤·)→Q (.ref l) H'):=by
  intro pins s σ H xs us Q I r h
  obtain⟨a,ns,rfl,hs,h64,q⟩:=h
  obtain⟨u,rfl,ru⟩:=mY r
  cases ru
  obtain⟨its,rv,p,hz⟩:=I.tuple hs
  have hl:=rv.length
  rw [List.length_map] at hl
  refine vg p (pj rv) (by lia) fun out ns' a1 a2 a3=>?_
  obtain⟨e,he⟩:=sortedAll_at s.heap its out
  have hf:H (s.heap.objs.size+1)=none:=I.hok.fresh (Nat.le_succ _)
  refine⟨.ref (s.heap.objs.size+1),be H (s.heap.objs.size+1) (.lst (ns'.map V.int)),I.laid (t':=s.toks) (fun _ _=>sortedAll_old) (Nat.le_succ _) ⟨?_,out.toList,e,lc a1,?_⟩,rfl,q _ ns' _ (aD.new hf) hf ay a2 a3⟩
  · rw [List.length_map,a2.length_eq]
    exact Nat.le_trans (Nat.le_of_lt h64) (by decide)
  · simpa [seqObj] using he
end
section
variable{X:Cx}
end
theorem xB{e:Expr}{es:List Expr}{env:Env}(h:PySem.W.isStarred e=false):starEach (e::es) env=(false,eval e env)::starEach es env:=by
  cases e<;>first | rfl | cases h
theorem Bl{X:Cx}{e:Expr}{es:List Expr}{te:TE}{t:TA}(ha:PE X e te)(hr:PA X es t)(h:PySem.W.isStarred e=false:=by rfl):PA X (e::es) (uc te t):=sk ha hr (xB h)
def wm:List (Int × Int)→TA
  | []=>Eu
  | p::r=>uc (Gs (uc (tC (.int p.1)) (uc (tC (.int p.2)) Eu))) (wm r)
@[irreducible] def Hi(ps:List (Int × Int)):TA:=wm ps
structure om where
  one:Int
  other:Int
  top:Int
  bot:Int
  worth:Int
structure aK where
  things:Int
  ties:List om
  pat:List Int
  asks:Int
structure om.Ok (n:Int) (t:om):Prop where
  o0:0≤t.one
  o1:t.one < t.other
  o2:t.other < n
  c0:0≤t.top
  c1:t.top≤t.bot
  b0:1≤t.bot
  b1:t.bot≤100
  w0:0≤t.worth
  w1:t.worth≤1000
  cop:Int.gcd t.top t.bot=1
structure aK.Ok (w:aK):Prop where
  t0:0≤w.things
  t1:w.things≤12
  ties:∀t∈w.ties,t.Ok w.things
  len:w.ties.length≤16
  pl:(w.pat.length:Int)=w.things
  pat:∀p∈w.pat,0≤p∧p≤20
  a0:0≤w.asks
  a1:w.asks≤40
def EV(K:PySem.W.Frag)(H:Hp)(v:V)(t:om):Prop:=∃p q,v=.ref p∧cS K H p [.int t.one,.int t.other,.ref q,.int t.worth]∧cS K H q [.int t.top,.int t.bot]
inductive rF (K:PySem.W.Frag) (H:Hp):List V→List om→Prop
  | nil:rF K H [] []
  | cons {v vs t ts}:EV K H v t→rF K H vs ts→rF K H (v::vs) (t::ts)
structure Ht (K:PySem.W.Frag) (H:Hp) (v:V) (w:aK):Prop where
  ex:∃a b c ts,v=.ref a∧cS K H a [.int w.things,.ref b,.ref c,.int w.asks]∧cS K H b ts∧rF K H ts w.ties∧cS K H c (w.pat.map V.int)
section
variable{K:PySem.W.Frag}{H H':Hp}
end
theorem uP{t b:Int}(hb:0 < b)(h0:0≤t)(h1:t≤b)(h2:b≤100):0≤(gw t b).1∧(gw t b).1≤(gw t b).2∧1≤(gw t b).2∧(gw t b).2≤100:=by
  obtain⟨d,e1,e2,e3,e4,e5⟩:=qQ (t:=t) (b:=b) (by lia)
  generalize (gw t b).1=x at*
  generalize (gw t b).2=y at*
  have dp:0 < d:=by
    rcases Int.lt_or_gt_of_ne e2 with z | z
    · exfalso
      have:y*d < 0:=Int.mul_neg_of_pos_of_neg e5 z
      lia
    · exact z
  have x0:0≤x:=by
    rcases Int.lt_or_le x 0 with z | z
    · have:x*d < 0:=Int.mul_neg_of_neg_of_pos z dp
      lia
    · exact z
  have xy:x≤y:=by
    rcases Int.lt_or_le y x with z | z
    · have:y*d < x*d:=Int.mul_lt_mul_of_pos_right z dp
      lia
    · exact z
  have yb:y≤y*d:=by
    have:=Int.mul_le_mul_of_nonneg_left (show(1:Int)≤d by lia) (show 0≤y by lia)
    lia
  exact⟨x0,xy,by lia,by lia⟩
inductive p7 {α β:Type} (R:α→β→Prop):List α→List β→Prop
  | nil:p7 R [] []
  | cons {a b as bs}:R a b→p7 R as bs→p7 R (a::as) (b::bs)
namespace p7
variable{α β:Type}{R S:α→β→Prop}
theorem mono(h:∀a b,R a b→S a b):∀{as:List α} {bs:List β},p7 R as bs→p7 S as bs
  | _,_,.nil=>.nil
  | _,_,.cons x r=>.cons (h _ _ x) (mono h r)
theorem len:∀{as:List α} {bs:List β},p7 R as bs→as.length=bs.length
  | _,_,.nil=>rfl
  | _,_,.cons _ r=>by simp [len r]
theorem get:∀{as:List α} {bs:List β} {i:Nat} {b:β},p7 R as bs→bs[i]?=some b→∃a,as[i]?=some a∧R a b
  | _,_,_,_,.nil,e=>by simp at e
  | _,_,0,_,.cons x _,e=>by simp at e;subst e;exact⟨_,rfl,x⟩
  | _,_,i+1,b,.cons _ r,e=>by
    obtain⟨v,h1,h2⟩:=get (i:=i) (b:=b) r (by simpa using e)
    exact⟨v,by simpa using h1,h2⟩
end p7
section
variable{K:PySem.W.Frag}{a l:Addr}{xs:List V}{g:TG}{tc:TT}{te:TE}{Q:VK}{σ:L2.St}{H:Hp}{α β:Type}{us:List α}{cp:List (Nat × Str)}{nT:Nat}
def GB(bh:Hp→V→β→Prop)(SI:L2.St→Prop)(us:List α)(f:α→Option β)(H:Hp)(l:Addr)(i:Nat)(σ:L2.St)(H':Hp):Prop:=SI σ∧aD H H'∧∃vs,H' l=some (.lst vs)∧vs.length≤i∧p7 (bh H') vs ((us.take i).filterMap f)
end
theorem oh:∀{a b:List Int},a.Perm b→a.Pairwise (· ≤·)→b.Pairwise (· ≤·)→a=b
  | [],b,p,_,_=>by
    have:=p.length_eq
    exact(List.length_eq_zero_iff.mp this.symm).symm
  | x::a,b,p,h1,h2=>by
    cases b with
    | nil=>have:=p.length_eq;simp at this
    | cons y b=>
      have h1':=List.pairwise_cons.mp h1
      have h2':=List.pairwise_cons.mp h2
      have e:x=y:=by
        have m1:y∈x::a:=p.mem_iff.mpr (by simp)
        have m2:x∈y::b:=p.mem_iff.mp (by simp)
        rcases K1 m1 with z | z
        · exact z.symm
        · rcases K1 m2 with z2 | z2
          · exact z2
          · have:=h1'.1 y z
            have:=h2'.1 x z2
            lia
      subst e
      rw [oh ((List.perm_cons x).mp p) h1'.2 h2'.2]
def eV(ns:List Int):List Int:=ns.mergeSort
theorem mL{ns ns':List Int}(p:ns'.Perm ns)(h:ns'.Pairwise (· ≤·)):ns'=eV ns:=by
  refine oh (p.trans (List.mergeSort_perm ns _).symm) h ?_
  have:=List.pairwise_mergeSort (le:=fun a b:Int=>decide (a≤b)) (fun a b c h1 h2=>by simp at*;lia) (fun a b=>by simp;lia) ns
  exact this.imp fun h=>by simpa using h
theorem iq(ns:List Int):(eV ns).Perm ns:=List.mergeSort_perm ns _
theorem k9{ns:List Int}{x:Int}:x∈eV ns↔ x∈ns:=(iq ns).mem_iff
theorem ng(ns:List Int):(eV ns).length=ns.length:=(iq ns).length_eq
section
variable{X:Cx}{K:PySem.W.Frag}{pos:Pos}
theorem yu(h:X.K=K):Ag X (Eh K):=h ▸ vU
theorem wA(h:X.K=K):d_ X (.builtin "len") (fun xs H Q=>∃p ys,xs=[.ref p]∧(gH K H p ys∨cS K H p ys)∧Q (.int ys.length) H):=h ▸ lW
theorem Bu{es:List Expr}{k:Nat}{t:Ah}{n:Nat}(hK:X.K=K)(hc:X.calm=true)(h:xK X es t)(hn:(assignEach es X.env).length=n:=by rfl)(hst:(assignEach es X.env).findIdx? (·.1)=none:=by rfl):PG X (.Tuple es k pos) (Fg K n t):=hK ▸ DV hc h hn hst
theorem Bx{tg l:Expr}{tl:TE}(h:X.K=K)(hl:PE X l tl):PI X tg l (Fi K tl):=h ▸ DX hl
theorem tQ{tg l:Expr}{tl:TE}(h:X.K=K)(hl:PE X l tl):PI X tg l (Cy K tl):=h ▸ Bw hl
end
instance:Inhabited om:=⟨⟨0,1,1,1,0⟩⟩
def aK.tie(W:aK)(k:Int):om:=W.ties.getD k.toNat default
def aK.has(W:aK)(k thing:Int):Bool:=(W.tie k).one==thing || (W.tie k).other==thing
def aK.many(W:aK)(asked:List Int)(thing:Int):Int:=((asked.filter fun k=>W.has k thing).length:Nat)
def aK.bears(W:aK)(asked taken:List Int)(thing:Int):Bool:= !taken.contains thing&&decide (W.many asked thing < W.pat.getD thing.toNat 0)
def aK.may(W:aK)(asked taken:List Int)(k:Int):Bool:= !(asked.contains k || decide (W.asks≤(asked.length:Int)))&&(W.bears asked taken (W.tie k).one&&W.bears asked taken (W.tie k).other)
def aK.askd(asked:List Int)(k:Int):List Int:=eV (asked++[k])
def aK.took(W:aK)(taken:List Int)(k:Int)(truth:Bool):List Int:=if truth then eV (taken++[(W.tie k).one,(W.tie k).other]) else taken
def aK.rng(W:aK):List Int:=(List.range W.ties.length).map Int.ofNat
def aK.can(W:aK)(asked taken:List Int):List Int:=W.rng.filter fun k=>W.may asked taken k
def jK(W:aK)(k:Int):Prop:=0≤k∧k < (W.ties.length:Int)
theorem jK.get{W:aK}{k:Int}(h:jK W k):W.ties[k.toNat]?=some (W.tie k):=by
  have hk:k.toNat < W.ties.length:=by have:=h.1;have:=h.2;lia
  unfold aK.tie
  rw [List.getD_eq_getElem?_getD,List.getElem?_eq_getElem hk];rfl
theorem jK.ok{W:aK}{k:Int}(h:jK W k)(o:W.Ok):(W.tie k).Ok W.things:=o.ties _ (K2 h.get)
theorem AW{W:aK}{k:Int}:k∈W.rng↔ jK W k:=by
  unfold aK.rng jK
  rw [List.mem_map]
  constructor
  · rintro⟨n,hn,rfl⟩
    have:=List.mem_range.mp hn
    exact⟨Int.natCast_nonneg n,by simp;lia⟩
  · rintro⟨h0,h1⟩
    exact⟨k.toNat,List.mem_range.mpr (by lia),by simp;lia⟩
def C6(K:PySem.W.Frag)(H:Hp)(v:V)(asked taken:List Int):Prop:=∃a b c,v=.ref a∧cS K H a [.ref b,.ref c]∧cS K H b (asked.map V.int)∧cS K H c (taken.map V.int)
theorem C6.ts{K:PySem.W.Frag}{H H':Hp}(s:nv H H'){v:V}{asked taken:List Int}(h:C6 K H v asked taken):C6 K H' v asked taken:=by
  obtain⟨a,b,c,e,h1,h2,h3⟩:=h
  exact⟨a,b,c,e,s.tup h1,s.tup h2,s.tup h3⟩
section
variable{K:PySem.W.Frag}{σ:L2.St}{H:Hp}{Q:VK}{i j:Nat}{vW:V}{W:aK}{k:Int}
end
def small(k:Int):Prop:= -1000000≤k∧k≤1000000
def Dk(n dep:Nat)(d:PyData):Prop:=d.showable=true∧pF d=true∧L2.cnt d≤n∧d.depth≤dep
theorem Dk.mono{n m dep e:Nat}{d:PyData}(h:Dk n dep d)(h1:n≤m)(h2:dep≤e):Dk m e d:=⟨h.1,h.2.1,Nat.le_trans h.2.2.1 h1,Nat.le_trans h.2.2.2 h2⟩
theorem Dk.int{k:Int}(h:small k):Dk 1 2 (.int k):=by
  refine⟨?_,rfl,Nat.le_refl _,by simp [PyData.depth]⟩
  show decide (k.natAbs.log2 < 1920)=true
  rw [decide_eq_true_eq]
  exact Nat.lt_trans ((show Bt 64 k by have:=h.1;have:=h.2;unfold Bt;lia).log (by decide)) (by decide)
theorem Dk.bool(b:Bool):Dk 1 2 (.bool b):=⟨rfl,rfl,Nat.le_refl _,by simp [PyData.depth]⟩
theorem Dk.none:Dk 1 2 .none:=⟨rfl,rfl,Nat.le_refl _,by simp [PyData.depth]⟩
theorem Dk.all{n dep:Nat}:∀{ds:List PyData},(∀d∈ds,Dk n dep d)→PyData.showableAll ds=true∧i_ ds=true∧lH ds≤ds.length*n∧PyData.depthAll ds≤dep
  | [],_=>⟨rfl,rfl,by simp [lH],by simp [PyData.depthAll]⟩
  | d::r,h=>by
    obtain⟨a1,a2,a3,a4⟩:=h d (by simp)
    obtain⟨b1,b2,b3,b4⟩:=Dk.all (ds:=r) fun x hx=>h x (by simp [hx])
    refine⟨?_,?_,?_,?_⟩
    · simp only [PyData.showableAll,a1,b1,Bool.and_self]
    · simp only [i_,a2,b2,Bool.and_self]
    · simp only [lH,List.length_cons,Nat.succ_mul]
      lia
    · simp only [PyData.depthAll];lia
theorem Dk.tup{n dep m:Nat}{ds:List PyData}(h:∀d∈ds,Dk n dep d)(hl:ds.length≤m):Dk (1+m*n) (dep+2) (.tuple ds):=by
  obtain⟨b1,b2,b3,b4⟩:=Dk.all h
  refine⟨b1,b2,?_,?_⟩
  · simp only [L2.cnt]
    have:=Nat.mul_le_mul_right n hl
    lia
  · simp only [PyData.depth];lia
theorem Dk.ok{n dep:Nat}{d:PyData}(h:Dk n dep d)(h1:n≤8000)(h2:dep≤60):d.showable=true∧d.depth≤60∧d.shown.length≤sizeLine:=by
  have:=rf h.2.1 h.1
  have sl:sizeLine=16777216:=sizeLine_eq
  have:=h.2.2.1
  exact⟨h.1,Nat.le_trans h.2.2.2 h2,by lia⟩
theorem Dk.ints{ns:List Int}{m:Nat}(hl:ns.length≤m)(h:∀r∈ns,small r):Dk (1+m) 4 (.tuple (ns.map .int)):=by
  have:=Dk.tup (n:=1) (dep:=2) (m:=m) (ds:=ns.map PyData.int) (fun d hd=>by
    obtain⟨x,hx,rfl⟩:=K0 hd
    exact Dk.int (h x hx)) (by rw [List.length_map];exact hl)
  simpa using this
section
variable{K:PySem.W.Frag}{H:Hp}
theorem Dk.bools{ns:List Bool}{m:Nat}(hl:ns.length≤m):Dk (1+m) 4 (.tuple (ns.map .bool)):=by
  have:=Dk.tup (n:=1) (dep:=2) (m:=m) (ds:=ns.map PyData.bool) (fun d hd=>by
    obtain⟨x,hx,rfl⟩:=K0 hd
    exact Dk.bool x) (by rw [List.length_map];exact hl)
  simpa using this
def aO(t:om):PyData:=.tuple [.int t.one,.int t.other,.tuple [.int t.top,.int t.bot],.int t.worth]
def aq(W:aK):PyData:=.tuple [.int W.things,.tuple (W.ties.map aO),.tuple (W.pat.map .int),.int W.asks]
def gp(asked taken:List Int):PyData:=.tuple [.tuple (asked.map .int),.tuple (taken.map .int)]
end
theorem xX:∀{bs:List Bool} {us:List Value} {i:Nat} {v:Value},aW (bs.map V.bl) us→us[i]?=some v→∃b,bs[i]?=some b∧v=.bool b
  | [],us,i,v,r,e=>by cases r;simp at e
  | b::bs,us,i,v,r,e=>by
    cases r with
    | cons p q=>
      cases i with
      | zero=>simp at e;subst e;cases p;exact⟨b,rfl,rfl⟩
      | succ i=>
        obtain⟨c,h1,h2⟩:=xX (bs:=bs) (i:=i) (v:=v) q (by simpa using e)
        exact⟨c,by simpa using h1,h2⟩
theorem BQ(bs:List Bool):((List.range bs.length).all fun i=>(bs[i]?).getD true)=bs.all id:=by
  rw [Bool.eq_iff_iff,List.all_eq_true,List.all_eq_true]
  constructor
  · intro h b hb
    obtain⟨i,hi,rfl⟩:=List.getElem_of_mem hb
    have:=h i (List.mem_range.mpr hi)
    rw [List.getElem?_eq_getElem hi] at this
    exact this
  · intro h i hi
    have hi':=List.mem_range.mp hi
    rw [List.getElem?_eq_getElem hi']
    exact h _ (List.getElem_mem hi')
section
variable{X:Cx}
theorem x9{k:Nat}{K:PySem.W.Frag}(hr:eA k X.A)(hK:X.K=K):d_ X (.builtin "all") (fun xs H Q=>∃(l:Addr) (bs:List Bool),xs=[.ref l]∧gH K H l (bs.map V.bl)∧Q (.bl (bs.all id)) H):=by
  intro pins s σ H xs us Q I r h
  subst hK
  obtain⟨l,bs,rfl,hs,q⟩:=h
  obtain⟨u,rfl,ru⟩:=mY r
  cases ru
  obtain⟨its,rv,p,hz⟩:=I.list hs
  have hl:=p.isList
  have lt:l < s.heap.objs.size:=by obtain⟨_,e,_⟩:=hl;exact Heap.lt_size e
  refine PySem.call_all_walk (wpAny_pyIter_list hl ?_)
  refine⟨s.heap.objs.size,[s.heap.objs.size,l],[s.heap.objs.size],its.toArray.size,_,_,fun i=>(bs[i]?).getD true,rfl,Walks.list (A:=X.A.in1) hr.hd _ l (Nat.ne_of_lt lt) its.toArray,⟨⟨_,Heap.get?_push_size _ rfl,rfl,rfl⟩,hl.push _⟩,fun i v s' Q' E' hP hQ=>?_,fun h' tk hk=>?_⟩
  · obtain⟨b,e,rfl⟩:=xX rv (by simpa using hP)
    simp only [e,Option.getD_some] at hQ
    exact wpAny_truthy_bool hQ
  · have e:its.toArray.size=bs.length:=by have:=rv.length;rw [List.length_map] at this;simpa using this.symm
    rw [e,BQ]
    refine⟨.bl (bs.all id),H,I.kept fun b x e=>hk b x (fun hm=>?_) (Heap.get?_push_of_some _ e),rfl,q⟩
    rw [List.mem_singleton.mp hm] at e
    exact Nat.lt_irrefl _ (Heap.lt_size e)
end
theorem xY:PySem.bootBuiltins "all"=some (.builtin "all"):=by decide+kernel
section
variable{prog:Program}{w:World}{A:Around}{E:Value→Shared→Prop}{s:Shared}
theorem zX{it t:Addr}{i:Nat}{ys}{x:Value}{Q:Value→Shared→Prop}(hi:s.heap.IsTupleIter it t i)(ht:s.heap.IsTuple t ys)(hx:ys[i]?=some x)
    (q:∀g,g.IsTupleIter it t (i+1)→Heap.SameBut it s.heap g→Q x {s with heap:=g}):wpAny (model prog w) A (Builtin.SmallTypes.nextOf (.ref it)) Q E s:=by
  obtain⟨o,ho,hc,hd⟩:=id hi;obtain⟨p,hp,_,n,hpd⟩:=ht;unfold Builtin.SmallTypes.nextOf
  refine wpAny_bind (wpAny_callSpecial?_slot (name:=Str.ofString "__next__") hi.typeIs F.slot_tuple_iterator_next (wpAny_call_entry F.slot_tuple_iterator_next hi.typeIs F.entry_tuple_iterator_next ?_ (F.args_tuple_iterator_next_1 _)))
  show wpAny _ _ (field (.ref it) 0 >>= _) _ _ s;refine wpAny_bind (wpAny_field ho hd (x:=.ref t) rfl ?_)
  show wpAny _ _ (if (Value.ref t==Value.none)=true then _ else _) _ _ s;rw [if_neg (show ¬((Value.ref t==Value.none)=true) from Bool.false_ne_true)]
  show wpAny _ _ (field (.ref it) 1 >>= _) _ _ s;refine wpAny_bind (wpAny_field ho hd (x:=.int i 0) rfl ?_)
  show wpAny _ _ (seqItems? (.ref t) >>= _) _ _ s;refine wpAny_bind (wpAny_seqItems hp hpd ?_)
  simp only [Int.toNat_natCast,hx];refine wpAny_bind (wpAny_setField ho hd (by simp) (wpAny_pure ⟨x,rfl,wpAny_pure (q _ ?_ (Heap.SameBut.update ..))⟩))
  refine⟨_,Heap.get?_update_self _ ho (Obj.isFreed_of_fields (Obj.data_mapFields hd _)),(Obj.cls_mapFields ..).trans hc,?_⟩;rw [Obj.data_mapFields hd];simp [rawInt]
theorem zW{it t:Addr}{i:Nat}{ys}{Q:Value→Shared→Prop}(hh:A.handled=none)(hi:s.heap.IsTupleIter it t i)(ht:s.heap.IsTuple t ys)(hx:ys[i]?=none)
    (q:∀g e,Heap.ExtBut it s.heap g→(∃o,g.get? e=some o∧o.cls=.type "StopIteration")→E (.ref e) {s with heap:=g}):wpAny (model prog w) A (Builtin.SmallTypes.nextOf (.ref it)) Q E s:=by
  obtain⟨o,ho,hc,hd⟩:=id hi;obtain⟨p,hp,_,n,hpd⟩:=ht;unfold Builtin.SmallTypes.nextOf
  refine wpAny_bind (wpAny_callSpecial?_slot (name:=Str.ofString "__next__") hi.typeIs F.slot_tuple_iterator_next (wpAny_call_entry F.slot_tuple_iterator_next hi.typeIs F.entry_tuple_iterator_next ?_ (F.args_tuple_iterator_next_1 _)))
  show wpAny _ _ (field (.ref it) 0 >>= _) _ _ s;refine wpAny_bind (wpAny_field ho hd (x:=.ref t) rfl ?_)
  show wpAny _ _ (if (Value.ref t==Value.none)=true then _ else _) _ _ s;rw [if_neg (show ¬((Value.ref t==Value.none)=true) from Bool.false_ne_true)]
  show wpAny _ _ (field (.ref it) 1 >>= _) _ _ s;refine wpAny_bind (wpAny_field ho hd (x:=.int i 0) rfl ?_)
  show wpAny _ _ (seqItems? (.ref t) >>= _) _ _ s;refine wpAny_bind (wpAny_seqItems hp hpd ?_)
  simp only [Int.toNat_natCast,hx];refine wpAny_bind (wpAny_rule (wpAny_bind (wpAny_setField ho hd (by simp) ?_)))
  show wpAny _ _ (newExc (.type "StopIteration") [] >>= _) _ _ _;refine wpAny_bind ?_;simp only [newExc,newTuple]
  refine wpAny_bind (wpAny_newObj_type ?_ (by size_fits));refine wpAny_bind (m:=firstArgMember _ _) (wpAny_of_eq (a:=Value.none) (by first | rfl | (simp only [firstArgMember];rfl)) ?_)
  refine wpAny_newObj_type ?_ (by size_fits);simp only [raiseNew];refine wpAny_bind (wpAny_handled ?_);first | rw [show A.in1.handled=none from hh] | rw [hh]
  refine wpAny_bind (wpAny_pure (wpAny_throw ?_));exact q _ _ (((Heap.SameBut.update ..).extBut.push _).push _) ⟨_,Heap.get?_push_size _ rfl,rfl⟩
end
structure Sc (prog:Program) (w:World) (it l:Addr) (St:Nat→Heap→Prop) (Sq:Heap→Array Value→Prop):Prop where
  stay:∀{k h h'},St k h→(∀o,h.get? it=some o→h'.get? it=some o)→St k h'
  live:∀{k h},St k h→∃o,h.get? it=some o∧∀v,o.data≠.cell v
  row:∀{h h' xs},Sq h xs→(∀o,h.get? l=some o→h'.get? l=some o)→Sq h' xs
  next:∀{A:Around} {s:Shared} {E:Value→Shared→Prop} {Q:Value→Shared→Prop} {k:Nat} {xs:Array Value} {x:Value},St k s.heap→Sq s.heap xs→xs[k]?=some x→(∀g,St (k+1) g→Heap.SameBut it s.heap g→Q x {s with heap:=g})→wpAny (model prog w) A (Builtin.SmallTypes.nextOf (.ref it)) Q E s
  last:∀{A:Around} {s:Shared} {E:Value→Shared→Prop} {Q:Value→Shared→Prop} {k:Nat} {xs:Array Value},A.handled=none→St k s.heap→Sq s.heap xs→xs[k]?=none→(∀g e,Heap.ExtBut it s.heap g→(∃o,g.get? e=some o∧o.cls=.type "StopIteration")→E (.ref e) {s with heap:=g})→wpAny (model prog w) A (Builtin.SmallTypes.nextOf (.ref it)) Q E s
theorem m9{prog:Program}{w:World}(it l:Addr):Sc prog w it l (fun k h=>h.IsTupleIter it l k) (fun h xs=>h.IsTuple l xs) where
  stay:=fun st k=>st.at fun o e=>k o e
  live:=fun st=>by
    obtain⟨o,e,c,d⟩:=st
    exact⟨o,e,fun v z=>by rw [d] at z;cases z⟩
  row:=fun q k=>by
    obtain⟨o,e,r⟩:=q
    exact⟨o,k o e,r⟩
  next:=fun st sq hx q=>zX st sq hx q
  last:=fun hh st sq hx q=>zW hh st sq hx q
theorem wj{prog:Program}{w:World}(it l:Addr):Sc prog w it l (fun k h=>h.IsListIter it l k) (fun h xs=>h.IsList l xs) where
  stay:=fun st k=>st.at fun o e=>k o e
  live:=fun st=>by
    obtain⟨o,e,c,d⟩:=st
    exact⟨o,e,fun v z=>by rw [d] at z;cases z⟩
  row:=fun q k=>by
    obtain⟨o,e,r⟩:=q
    exact⟨o,k o e,r⟩
  next:=fun st sq hx q=>wpAny_nextOf_list_item st sq hx q
  last:=fun hh st sq hx q=>wpAny_nextOf_list_end hh st sq hx q
structure qk (z TI TO i1 i2 l1 l2:Addr):Prop where
  a1:TO≠z
  a2:i1≠z
  a3:i2≠z
  a4:TO≠i1
  a5:TO≠i2
  a6:i1≠i2
  b1:l1≠z
  b2:l1≠TO
  b3:l1≠i1
  b4:l1≠i2
  c1:l2≠z
  c2:l2≠TO
  c3:l2≠i1
  c4:l2≠i2
section
variable{prog:Program}{w:World}{A:Around}{E:Value→Shared→Prop}{s:Shared}{z TI TO i1 i2 l1 l2:Addr}{k:Nat}{xs ys:Array Value}{a b:Value}{S1 S2:Nat→Heap→Prop}{R1 R2:Heap→Array Value→Prop}
theorem EL{x y:Value}{Q:Value→Shared→Prop}(P1:Sc prog w i1 l1 S1 R1)(P2:Sc prog w i2 l2 S2 R2)(D:qk z TI TO i1 i2 l1 l2)(hz:IsZip s.heap z TI TO .none)(hI:IsPair s.heap TI (.ref i1) (.ref i2))(hO:IsPair s.heap TO a b)(u1:S1 k s.heap)(u2:S2 k s.heap)(r1:R1 s.heap xs)(r2:R2 s.heap ys)(hx:xs[k]?=some x)(hy:ys[k]?=some y)
    (q:∀g,IsZip g z TI TO (rawInt s.heap.objs.size)→IsPair g TO x y→S1 (k+1) g→S2 (k+1) g→IsPair g s.heap.objs.size x y→g.objs.size=s.heap.objs.size+1→(∀c o,c≠z→c≠TO→c≠i1→c≠i2→s.heap.get? c=some o→g.get? c=some o)→Q (.ref s.heap.objs.size) {s with heap:=g}):
    wpAny (model prog w) A (Builtin.«zip.__next__» ⟨[.ref z],[]⟩) (fun f s'=>∃v,f=.done (.ret v)∧Q v s') E s:=by
  show wpAny _ _ (field (.ref z) 2 >>= _) _ _ _;refine wpAny_bind (wpAny_field hz rfl (x:=.bool false) rfl ?_)
  show wpAny _ _ (field (.ref z) 3 >>= _) _ _ _;refine wpAny_bind (wpAny_field hz rfl (x:=.ref TI) rfl ?_);refine wpAny_bind (wpAny_seqItems hI rfl ?_)
  show wpAny _ _ (Builtin.SmallTypes.ownedTupleIsFree (.ref z) >>= _) _ _ _;refine wpAny_bind ?_;unfold Builtin.SmallTypes.ownedTupleIsFree
  refine wpAny_bind (wpAny_field hz rfl (x:=.none) rfl (wpAny_pure ?_));simp only [if_true];refine wpAny_bind (wpAny_rule ?_)
  refine wpAny_bind (wpAny_field hz rfl (x:=.ref TO) rfl ?_);refine wpAny_bind (wpAny_setField_rec hz (by simp) fun g1 z1 e1=>?_)
  replace z1:IsZip g1 z TI TO .ellipsis:=z1;refine wpAny_bind ?_;simp only [List.zipIdx_cons,List.zipIdx_nil,List.forIn_cons,List.forIn_nil]
  refine wpAny_bind (wpAny_bind (wpAny_onRaise ?_));show wpAny _ _ (Builtin.SmallTypes.nextOf (.ref i1) >>= _) _ _ _
  refine wpAny_bind (P1.next (P1.stay u1 fun o e=>e1.extBut _ _ D.a2 e) (P1.row r1 fun o e=>e1.extBut _ _ D.b1 e) hx fun g2 v1 e2=>wpAny_pure ?_)
  have O2:IsPair g2 TO a b:=e2.extBut _ _ D.a4 (e1.extBut _ _ D.a1 hO)
  refine wpAny_bind (wpAny_seqItems O2 rfl ?_);refine wpAny_bind (wpAny_updateSeq_pair O2 fun g3 O3 e3=>?_);replace O3:IsPair g3 TO x b:=O3;refine wpAny_bind (wpAny_letGo (wpAny_pure ?_))
  refine wpAny_bind (wpAny_bind (wpAny_onRaise ?_));show wpAny _ _ (Builtin.SmallTypes.nextOf (.ref i2) >>= _) _ _ _
  have up3:∀c o,c≠z→c≠i1→c≠TO→s.heap.get? c=some o→g3.get? c=some o:=fun c o n1 n2 n3 e=>e3.extBut _ _ n3 (e2.extBut _ _ n2 (e1.extBut _ _ n1 e))
  refine wpAny_bind (P2.next (P2.stay u2 fun o e=>up3 _ _ D.a3 D.a6.symm D.a5.symm e) (P2.row r2 fun o e=>up3 _ _ D.c1 D.c3 D.c2 e) hy fun g4 v2 e4=>wpAny_pure ?_)
  have O4:IsPair g4 TO x b:=e4.extBut _ _ D.a5 O3
  refine wpAny_bind (wpAny_seqItems O4 rfl ?_);refine wpAny_bind (wpAny_updateSeq_pair O4 fun g5 O5 e5=>?_);replace O5:IsPair g5 TO x y:=O5;refine wpAny_bind (wpAny_letGo (wpAny_pure (wpAny_pure ?_)))
  refine wpAny_bind (wpAny_seqItems O5 rfl ?_);refine wpAny_bind (wpAny_newTuple ?_)
  have sz:g5.objs.size=s.heap.objs.size:=by rw [e5.1,e4.1,e3.1,e2.1,e1.1]
  have z5:IsZip g5 z TI TO .ellipsis:=e5.extBut _ _ D.a1.symm (e4.extBut _ _ D.a3.symm (e3.extBut _ _ D.a1.symm (e2.extBut _ _ D.a2.symm z1)))
  have k5:∀c o,c≠z→c≠TO→c≠i1→c≠i2→s.heap.get? c=some o→g5.get? c=some o:=fun c o n1 n2 n3 n4 e=>e5.extBut _ _ n2 (e4.extBut _ _ n4 (up3 c o n1 n3 n2 e))
  have w1:S1 (k+1) g5:=P1.stay v1 fun o e=>e5.extBut _ _ D.a4.symm (e4.extBut _ _ D.a6 (e3.extBut _ _ D.a4.symm e))
  have w2:S2 (k+1) g5:=P2.stay v2 fun o e=>e5.extBut _ _ D.a5.symm e
  have lz:z < g5.objs.size:=Heap.lt_size z5
  show wpAny _ _ (Builtin.SmallTypes.ownedTupleHandOut (.ref z) (.ref g5.objs.size) >>= _) _ _ _;refine wpAny_bind ?_;unfold Builtin.SmallTypes.ownedTupleHandOut
  have z6:IsZip (g5.push {cls:=.type "tuple",data:=.seq #[x,y]}) z TI TO .ellipsis:=Heap.get?_push_of_some _ z5
  refine wpAny_bind (wpAny_setField_rec z6 (by simp) fun g7 z7 e7=>?_);replace z7:IsZip g7 z TI TO (rawInt g5.objs.size):=z7
  refine wpAny_setField_rec z7 (by simp) fun g8 z8 e8=>?_;replace z8:IsZip g8 z TI TO (rawInt g5.objs.size):=z8
  have up:∀c o,c≠z→g5.get? c=some o→g8.get? c=some o:=fun c o n e=>e8.extBut _ _ n (e7.extBut _ _ n (Heap.get?_push_of_some _ e))
  have T8:IsPair g8 g5.objs.size x y:=e8.extBut _ _ (Nat.ne_of_gt lz) (e7.extBut _ _ (Nat.ne_of_gt lz) (Heap.get?_push_size _ rfl))
  have n8:g8.objs.size=g5.objs.size+1:=by rw [e8.1,e7.1,Heap.size_push]
  rw [sz] at z8 T8 n8;refine wpAny_pure ⟨_,rfl,?_⟩;show Q (.ref g5.objs.size) _;rw [sz]
  exact q g8 z8 (up _ _ D.a1 O5) (P1.stay w1 fun o e=>up _ o D.a2 e) (P2.stay w2 fun o e=>up _ o D.a3 e) T8 n8 fun c o n1 n2 n3 n4 e=>up c o n1 (k5 c o n1 n2 n3 n4 e)
theorem Cb{Q:Fin→Shared→Prop}(hh:A.handled=none)(P1:Sc prog w i1 l1 S1 R1)(P2:Sc prog w i2 l2 S2 R2)(D:qk z TI TO i1 i2 l1 l2)(hz:IsZip s.heap z TI TO .none)(hI:IsPair s.heap TI (.ref i1) (.ref i2))(hO:IsPair s.heap TO a b)(u1:S1 k s.heap)(u2:S2 k s.heap)(r1:R1 s.heap xs)(r2:R2 s.heap ys)(hn:xs[k]?=none∨ys[k]?=none)
    (q:∀g e,(∀c o,c≠z→c≠TO→c≠i1→c≠i2→s.heap.get? c=some o→g.get? c=some o)→(∃o,g.get? e=some o∧o.cls=.type "StopIteration")→E (.ref e) {s with heap:=g}):
    wpAny (model prog w) A (Builtin.«zip.__next__» ⟨[.ref z],[]⟩) Q E s:=by
  show wpAny _ _ (field (.ref z) 2 >>= _) _ _ _;refine wpAny_bind (wpAny_field hz rfl (x:=.bool false) rfl ?_)
  show wpAny _ _ (field (.ref z) 3 >>= _) _ _ _;refine wpAny_bind (wpAny_field hz rfl (x:=.ref TI) rfl ?_);refine wpAny_bind (wpAny_seqItems hI rfl ?_)
  show wpAny _ _ (Builtin.SmallTypes.ownedTupleIsFree (.ref z) >>= _) _ _ _;refine wpAny_bind ?_;unfold Builtin.SmallTypes.ownedTupleIsFree
  refine wpAny_bind (wpAny_field hz rfl (x:=.none) rfl (wpAny_pure ?_));simp only [if_true];refine wpAny_bind (wpAny_rule ?_)
  refine wpAny_bind (wpAny_field hz rfl (x:=.ref TO) rfl ?_);refine wpAny_bind (wpAny_setField_rec hz (by simp) fun g1 z1 e1=>?_)
  replace z1:IsZip g1 z TI TO .ellipsis:=z1;refine wpAny_bind ?_;simp only [List.zipIdx_cons,List.zipIdx_nil,List.forIn_cons,List.forIn_nil]
  refine wpAny_bind (wpAny_bind (wpAny_onRaise ?_));show wpAny _ _ (Builtin.SmallTypes.nextOf (.ref i1) >>= _) _ _ _
  cases hx:xs[k]? with
  | none=>
    refine wpAny_bind (P1.last hh (P1.stay u1 fun o e=>e1.extBut _ _ D.a2 e) (P1.row r1 fun o e=>e1.extBut _ _ D.b1 e) hx fun g2 e e2 he=>?_)
    obtain⟨oe,h1,h2⟩:=he;have z2:IsZip g2 z TI TO .ellipsis:=e2 _ _ D.a2.symm z1
    have nz:e≠z:=fun x=>by subst x;rw [z2] at h1;cases h1;simp at h2
    refine wpAny_setField_rec z2 (by simp) fun g3 _ e3=>q g3 e (fun c o n1 _ n3 _ x=>e3.extBut _ _ n1 (e2 _ _ n3 (e1.extBut _ _ n1 x))) ⟨oe,e3.extBut _ _ nz h1,h2⟩
  | some x=>
    have hy:ys[k]?=none:=by
      rcases hn with h | h
      · rw [hx] at h;cases h
      · exact h
    refine wpAny_bind (P1.next (P1.stay u1 fun o e=>e1.extBut _ _ D.a2 e) (P1.row r1 fun o e=>e1.extBut _ _ D.b1 e) hx fun g2 v1 e2=>wpAny_pure ?_)
    have O2:IsPair g2 TO a b:=e2.extBut _ _ D.a4 (e1.extBut _ _ D.a1 hO)
    refine wpAny_bind (wpAny_seqItems O2 rfl ?_);refine wpAny_bind (wpAny_updateSeq_pair O2 fun g3 O3 e3=>?_);refine wpAny_bind (wpAny_letGo (wpAny_pure ?_))
    refine wpAny_bind (wpAny_bind (wpAny_onRaise ?_));show wpAny _ _ (Builtin.SmallTypes.nextOf (.ref i2) >>= _) _ _ _
    have up3:∀c o,c≠z→c≠i1→c≠TO→s.heap.get? c=some o→g3.get? c=some o:=fun c o n1 n2 n3 e=>e3.extBut _ _ n3 (e2.extBut _ _ n2 (e1.extBut _ _ n1 e))
    refine wpAny_bind (P2.last hh (P2.stay u2 fun o e=>up3 _ _ D.a3 D.a6.symm D.a5.symm e) (P2.row r2 fun o e=>up3 _ _ D.c1 D.c3 D.c2 e) hy fun g4 e e4 he=>?_)
    obtain⟨oe,h1,h2⟩:=he;have z4:IsZip g4 z TI TO .ellipsis:=e4 _ _ D.a3.symm (e3.extBut _ _ D.a1.symm (e2.extBut _ _ D.a2.symm z1))
    have nz:e≠z:=fun x=>by subst x;rw [z4] at h1;cases h1;simp at h2
    refine wpAny_setField_rec z4 (by simp) fun g5 _ e5=>q g5 e (fun c o n1 n2 n3 n4 x=>e5.extBut _ _ n1 (e4 _ _ n4 (up3 c o n1 n3 n2 x))) ⟨oe,e5.extBut _ _ nz h1,h2⟩
theorem Ae{x y:Value}{Q:Option Value→Shared→Prop}(P1:Sc prog w i1 l1 S1 R1)(P2:Sc prog w i2 l2 S2 R2)(D:qk z TI TO i1 i2 l1 l2)(hz:IsZip s.heap z TI TO .none)(hI:IsPair s.heap TI (.ref i1) (.ref i2))(hO:IsPair s.heap TO a b)(u1:S1 k s.heap)(u2:S2 k s.heap)(r1:R1 s.heap xs)(r2:R2 s.heap ys)(hx:xs[k]?=some x)(hy:ys[k]?=some y)
    (q:∀g,IsZip g z TI TO (rawInt s.heap.objs.size)→IsPair g TO x y→S1 (k+1) g→S2 (k+1) g→IsPair g s.heap.objs.size x y→g.objs.size=s.heap.objs.size+1→(∀c o,c≠z→c≠TO→c≠i1→c≠i2→s.heap.get? c=some o→g.get? c=some o)→Q (some (.ref s.heap.objs.size)) {s with heap:=g}):
    wpAny (model prog w) A (pyNext (.ref z)) Q E s:=by
  have hT:s.TypeIs (.ref z) "zip":=⟨_,hz,rfl⟩;unfold pyNext
  refine wpAny_bind (wpAny_attempt (wpAny_callSpecial?_slot (name:=Str.ofString "__next__") hT F.slot_zip_next (wpAny_call_entry F.slot_zip_next hT F.entry_zip_next ?_ (F.args_zip_next_1 _))))
  exact EL P1 P2 D hz hI hO u1 u2 r1 r2 hx hy fun g b1 b2 b3 b4 b5 b6 b7=>wpAny_pure (q g b1 b2 b3 b4 b5 b6 b7)
theorem Af{Q:Option Value→Shared→Prop}(hh:A.handled=none)(P1:Sc prog w i1 l1 S1 R1)(P2:Sc prog w i2 l2 S2 R2)(D:qk z TI TO i1 i2 l1 l2)(hz:IsZip s.heap z TI TO .none)(hI:IsPair s.heap TI (.ref i1) (.ref i2))(hO:IsPair s.heap TO a b)(u1:S1 k s.heap)(u2:S2 k s.heap)(r1:R1 s.heap xs)(r2:R2 s.heap ys)(hn:xs[k]?=none∨ys[k]?=none)
    (q:∀g,(∀c o,c≠z→c≠TO→c≠i1→c≠i2→s.heap.get? c=some o→g.get? c=some o)→Q none {s with heap:=g}):wpAny (model prog w) A (pyNext (.ref z)) Q E s:=by
  have hT:s.TypeIs (.ref z) "zip":=⟨_,hz,rfl⟩;unfold pyNext
  refine wpAny_bind (wpAny_attempt (wpAny_callSpecial?_slot (name:=Str.ofString "__next__") hT F.slot_zip_next (wpAny_call_entry F.slot_zip_next hT F.entry_zip_next (Cb hh P1 P2 D hz hI hO u1 u2 r1 r2 hn fun g e hk he=>?_) (F.args_zip_next_1 _))))
  obtain⟨o,ho,hc⟩:=he;refine wpAny_bind (wpAny_isInstance (T:="StopIteration") (b:=true) ⟨o,ho,hc⟩ isSubtype_stop ?_);exact wpAny_pure (q _ hk)
end
section
variable{X:Cx}{pins:List (Addr × Obj)}{σ:L2.St}{H:Hp}{s:Shared}{h':Heap}
theorem aH.turnedL{t':Nat}{fp:List Addr}(I:aH X pins σ H s)(hf:∀b∈fp,iL X pins H b)(k:∀b o,b∉fp→s.heap.get? b=some o→h'.get? b=some o):aH X pins σ H {s with heap:=h',toks:=t'}:=by
  have hL:X.env.locals∉fp:=fun z=>(hf _ z).2.1 rfl
  have nit:∀b u,H b=some u→b∉fp:=fun b u e z=>by have:=(hf b z).1;rw [this] at e;cases e
  refine I.step (g':=s.gens) (d':=s.drawn) (ch:=fp) (fun b hb=>?_) (fun b o _ _ hc e _=>k b o hc e) (fun b o _ _ hc e _=>⟨o.slots,k b o hc e⟩) (fun _ _ _ _ n=>n) (fun b o hc e=>⟨o,k b o hc e⟩) (fun _ _ e=>e) (fun _ _ _ e=>e) (fun b ps e=>⟨#[],by rw [e];simp⟩) (fun m hm=>?_) (fun b u e=>?_) I.bare
  · obtain⟨f0,f1,f2,f3,f4,f5⟩:=hf b hb
    exact⟨f3,f1,f4,f5⟩
  · obtain⟨o,es,ep,ho,r⟩:=hm
    exact⟨o,es,ep,k _ o hL ho,r⟩
  · refine(I.hok b u e).stay (fun c v hc q=>k c v ?_ q) (fun _ q=>q) fun _ _ q=>q
    rcases hc with z | z
    · rw [z];exact nit b u e
    · exact nit c _ z
theorem bo(I:aH X pins σ H s){b l:Addr}{xs:List V}(f:iL X pins H b)(q:cS X.K H l xs):l≠b:=by
  intro z
  subst z
  rcases q with (q | ⟨o,q⟩) | ⟨o,its,n,hk,_⟩
  · rw [f.1] at q;cases q
  · rw [f.1] at q;cases q
  · have hb:X.base.get? l=some o:=I.ok.mod.kin l o hk
    rcases f.2.2.2.1 with z | z
    · exact I.ok.noex l o hb z
    · exact absurd (Nat.lt_of_lt_of_le (Heap.lt_size (I.ok.bs l o hb).1) z) (Nat.lt_irrefl _)
end
def Hm(K:PySem.W.Frag)(l1 l2:Addr):It:=
  ⟨fun i H=>∃xs ys x y,cS K H l1 xs∧cS K H l2 ys∧xs[i]?=some x∧ys[i]?=some y,
   fun i H v H'=>∃p x y,v=.ref p∧H p=none∧H'=be H p (.tup [x,y])∧∀xs ys,cS K H l1 xs→cS K H l2 ys→xs[i]?=some x∧ys[i]?=some y,
   fun i H=>∃xs ys,cS K H l1 xs∧cS K H l2 ys∧(xs.length≤i∨ys.length≤i)⟩
def CY(z TI TO i1 i2 l1 l2:Addr)(i:Nat)(h:Heap):Prop:=IsZip h z TI TO .none∧IsPair h TI (.ref i1) (.ref i2)∧(∃a b,IsPair h TO a b)∧h.IsTupleIter i1 l1 i∧h.IsTupleIter i2 l2 i
theorem zY{P:Program}{w:World}{K:PySem.W.Frag}{es:List Expr}{k0:Nat}{pos:Pos}{z TI TO i1 i2:Addr}(l1 l2:Addr)(n1:TO≠z)(n2:i1≠z)(n3:i2≠z)(n4:TO≠i1)(n5:TO≠i2)(n6:i1≠i2)(n7:TI≠z)(n8:TI≠TO)(n9:TI≠i1)(n10:TI≠i2):
    uv P w K (.Tuple es k0 pos) (Hm K l1 l2) [z,TI,TO,i1,i2] z (CY z TI TO i1 i2 l1 l2) where
  mem:=by simp
  obj:=fun i h st b hb=>by
    obtain⟨hz,hI,⟨a,c,hO⟩,u1,u2⟩:=st
    simp only [List.mem_cons,List.not_mem_nil,or_false] at hb
    rcases hb with rfl | rfl | rfl | rfl | rfl
    · exact⟨_,hz,fun v z=>by cases z⟩
    · exact⟨_,hI,fun v z=>by cases z⟩
    · exact⟨_,hO,fun v z=>by cases z⟩
    · obtain⟨o,e,c,d⟩:=u1
      exact⟨o,e,fun v z=>by rw [d] at z;cases z⟩
    · obtain⟨o,e,c,d⟩:=u2
      exact⟨o,e,fun v z=>by rw [d] at z;cases z⟩
  keep:=fun i h h' st k=>by
    obtain⟨hz,hI,⟨a,c,hO⟩,u1,u2⟩:=st
    exact⟨k _ (by simp) _ hz,k _ (by simp) _ hI,⟨a,c,k _ (by simp) _ hO⟩,u1.at fun o e=>k _ (by simp) o e,u2.at fun o e=>k _ (by simp) o e⟩
  item:=by
    intro X hP hw hK hc i pins s σ H E I hf st hg
    subst hP hw hK
    obtain⟨xs,ys,x,y,q1,q2,hx,hy⟩:=hg
    obtain⟨hz,hI,⟨a,b,hO⟩,u1,u2⟩:=id st
    obtain⟨its1,rv1,p1,z1⟩:=I.tuple q1
    obtain⟨its2,rv2,p2,z2⟩:=I.tuple q2
    obtain⟨ux,hux,rux⟩:=rv1.get hx
    obtain⟨uy,huy,ruy⟩:=rv2.get hy
    have fz:=hf z (by simp);have fO:=hf TO (by simp);have f1:=hf i1 (by simp);have f2:=hf i2 (by simp)
    have D:qk z TI TO i1 i2 l1 l2:=⟨n1,n2,n3,n4,n5,n6,bo I fz q1,bo I fO q1,bo I f1 q1,bo I f2 q1,bo I fz q2,bo I fO q2,bo I f1 q2,bo I f2 q2⟩
    refine Ae (xs:=its1.toArray) (ys:=its2.toArray) (m9 i1 l1) (m9 i2 l2) D hz hI hO u1 u2 p1 p2 (by simpa using hux) (by simpa using huy) fun g gz gO g1 g2 gT gs gk=>?_
    refine⟨_,rfl,wpAny_letOwnedTupleGo_zip gz fun g' gz' ge=>?_⟩
    have lt:∀b∈[z,TI,TO,i1,i2],b < s.heap.objs.size:=fun b hb=>by
      simp only [List.mem_cons,List.not_mem_nil,or_false] at hb
      rcases hb with rfl | rfl | rfl | rfl | rfl
      · exact Heap.lt_size hz
      · exact Heap.lt_size hI
      · exact Heap.lt_size hO
      · obtain⟨o,e,_⟩:=u1;exact Heap.lt_size e
      · obtain⟨o,e,_⟩:=u2;exact Heap.lt_size e
    have hT:H s.heap.objs.size=none:=I.hok.fresh (Nat.le_refl _)
    have vv:aW [x,y] [ux,uy]:=.cons rux (.cons ruy .nil)
    have I1:aH X pins σ (be H s.heap.objs.size (.tup [x,y])) {s with heap:=s.heap.push {cls:=.type "tuple",data:=.seq #[ux,uy]},toks:=s.toks}:=
      I.laid (t':=s.toks) (fun b u e=>Heap.get?_push_of_some _ e) (Nat.le_refl _) ⟨(by show 2≤sizeLine;decide),[ux,uy],vv,oi.new _ _⟩
    have hf1:∀b∈[z,TI,TO,i1,i2],iL X pins (be H s.heap.objs.size (.tup [x,y])) b:=fun b hb=>by
      obtain⟨f0,fr⟩:=hf b hb
      exact⟨by rw [aG (Nat.ne_of_lt (lt b hb))];exact f0,fr⟩
    have nzT:s.heap.objs.size≠z:=Nat.ne_of_gt (lt z (by simp))
    have I2:aH X pins σ (be H s.heap.objs.size (.tup [x,y])) {s with heap:=g',toks:=s.toks}:=by
      refine I1.turnedL (t':=s.toks) hf1 fun b o nb e=>?_
      have nb':b≠z∧b≠TI∧b≠TO∧b≠i1∧b≠i2:=by simpa using nb
      refine ge.extBut _ _ nb'.1 ?_
      rcases Heap.get?_push_cases e with ⟨rfl,rfl⟩ | e
      · exact gT
      · exact gk b o nb'.1 nb'.2.2.1 nb'.2.2.2.1 nb'.2.2.2.2 e
    refine⟨.ref s.heap.objs.size,_,I2,rfl,⟨_,x,y,rfl,hT,rfl,fun xs' ys' w1 w2=>?_⟩,⟨gz',ge.extBut _ _ n7 (gk _ _ n7 n8 n9 n10 hI),⟨ux,uy,ge.extBut _ _ n1 gO⟩,g1.at fun o e=>ge.extBut _ _ n2 e,g2.at fun o e=>ge.extBut _ _ n3 e⟩,fun b hb=>(hf1 b hb).1⟩
    rw [I.tuple_inj w1 q1,I.tuple_inj w2 q2]
    exact⟨hx,hy⟩
  done:=by
    intro X hP hw hK hc i pins s σ H E I hf st hg
    subst hP hw hK
    obtain⟨xs,ys,q1,q2,hn⟩:=hg
    obtain⟨hz,hI,⟨a,b,hO⟩,u1,u2⟩:=id st
    obtain⟨its1,rv1,p1,z1⟩:=I.tuple q1
    obtain⟨its2,rv2,p2,z2⟩:=I.tuple q2
    have fz:=hf z (by simp);have fO:=hf TO (by simp);have f1:=hf i1 (by simp);have f2:=hf i2 (by simp)
    have D:qk z TI TO i1 i2 l1 l2:=⟨n1,n2,n3,n4,n5,n6,bo I fz q1,bo I fO q1,bo I f1 q1,bo I f2 q1,bo I fz q2,bo I fO q2,bo I f1 q2,bo I f2 q2⟩
    have e1:=rv1.length
    have e2:=rv2.length
    refine Af (xs:=its1.toArray) (ys:=its2.toArray) (I.ok.hd hc) (m9 i1 l1) (m9 i2 l2) D hz hI hO u1 u2 p1 p2 ?_ fun g gk=>⟨rfl,I.turnedL (t':=s.toks) hf fun b o nb e=>?_⟩
    · rcases hn with hn | hn
      · exact .inl (by simp;lia)
      · exact .inr (by simp;lia)
    · have nb':b≠z∧b≠TI∧b≠TO∧b≠i1∧b≠i2:=by simpa using nb
      exact gk b o nb'.1 nb'.2.2.1 nb'.2.2.2.1 nb'.2.2.2.2 e
  self:=fun A i s Q E st h=>wpAny_pyIter_zip st.1 h
theorem Cc(l1 l2:Addr)(xs ys:Array Value):
    Meets (Builtin.«zip.__new__» ⟨[.type "zip",.ref l1,.ref l2],[]⟩) (fun _ R s=>s.heap.IsTuple l1 xs∧s.heap.IsTuple l2 ys∧
      R (.ok (.ret (.ref (s.heap.objs.size+4)))) {s with heap:=((((s.heap.push {cls:=.type "tuple_iterator",data:=.fields #[.ref l1,.int 0 0]}).push {cls:=.type "tuple_iterator",data:=.fields #[.ref l2,.int 0 0]}).push {cls:=.type "tuple",data:=.seq #[.ref s.heap.objs.size,.ref (s.heap.objs.size+1)]}).push {cls:=.type "tuple",data:=.seq #[.none,.none]}).push {cls:=.type "zip",data:=.fields #[.none,.bool false,.bool false,.ref (s.heap.objs.size+2),.ref (s.heap.objs.size+3)]}}):=
  .of_wp fun prog w A R s h=>by
    obtain⟨hp,g,d,tk,os⟩:=s;obtain⟨t1,t2,h⟩:=h;have sz:=PySem.sub_zip
    have T1:Heap.IsTuple (Shared.heap ⟨hp,g,d,tk,os⟩) l1 xs:=t1
    have T2:Heap.IsTuple (Shared.heap ⟨hp.push {cls:=.type "tuple_iterator",data:=.fields #[.ref l1,.int 0 0]},g,d,tk,os⟩) l2 ys:=Heap.IsTuple.push t2 _
    wp_walk using wpAny_pyIter_tuple T1,wpAny_pyIter_tuple T2
    refine⟨_,rfl,?_⟩
    simp only [Heap.size_push]
    exact h
section
variable{prog:Program}{w:World}{A:Around}{E:Value→Shared→Prop}{s:Shared}
theorem Ac{l1 l2:Addr}{xs ys:Array Value}{Q:Value→Shared→Prop}(t1:s.heap.IsTuple l1 xs)(t2:s.heap.IsTuple l2 ys)
    (h:∀g,CY (s.heap.objs.size+4) (s.heap.objs.size+2) (s.heap.objs.size+3) s.heap.objs.size (s.heap.objs.size+1) l1 l2 0 g→(∀c o,s.heap.get? c=some o→g.get? c=some o)→Q (.ref (s.heap.objs.size+4)) {s with heap:=g}):
    wpAny (model prog w) A (call (.type "zip") [.ref l1,.ref l2]) Q E s:=by
  refine callType_new F.called_zip (by decide) (F.typeCall_zip_2 _ _) (F.newCall_zip_2 _ _) (fun obj=>F.args_object_init_3 obj _ _) F.entry_zip_new (Cc l1 l2 xs ys) ⟨t1,t2,?_⟩
  have at5:∀(g:Heap) (o:Obj) (a:Addr),o.isFreed=false→a=g.objs.size→(g.push o).get? a=some o:=fun g o a hf e=>by rw [e];exact Heap.get?_push_size _ hf
  have g5:=at5 ((((s.heap.push {cls:=.type "tuple_iterator",data:=.fields #[.ref l1,.int 0 0]}).push {cls:=.type "tuple_iterator",data:=.fields #[.ref l2,.int 0 0]}).push {cls:=.type "tuple",data:=.seq #[.ref s.heap.objs.size,.ref (s.heap.objs.size+1)]}).push {cls:=.type "tuple",data:=.seq #[.none,.none]}) {cls:=.type "zip",data:=.fields #[.none,.bool false,.bool false,.ref (s.heap.objs.size+2),.ref (s.heap.objs.size+3)]} (s.heap.objs.size+4) rfl (by simp only [Heap.size_push])
  have g4:=at5 (((s.heap.push {cls:=.type "tuple_iterator",data:=.fields #[.ref l1,.int 0 0]}).push {cls:=.type "tuple_iterator",data:=.fields #[.ref l2,.int 0 0]}).push {cls:=.type "tuple",data:=.seq #[.ref s.heap.objs.size,.ref (s.heap.objs.size+1)]}) {cls:=.type "tuple",data:=.seq #[.none,.none]} (s.heap.objs.size+3) rfl (by simp only [Heap.size_push])
  have g3:=at5 ((s.heap.push {cls:=.type "tuple_iterator",data:=.fields #[.ref l1,.int 0 0]}).push {cls:=.type "tuple_iterator",data:=.fields #[.ref l2,.int 0 0]}) {cls:=.type "tuple",data:=.seq #[.ref s.heap.objs.size,.ref (s.heap.objs.size+1)]} (s.heap.objs.size+2) rfl (by simp only [Heap.size_push])
  have g2:=at5 (s.heap.push {cls:=.type "tuple_iterator",data:=.fields #[.ref l1,.int 0 0]}) {cls:=.type "tuple_iterator",data:=.fields #[.ref l2,.int 0 0]} (s.heap.objs.size+1) rfl (by simp only [Heap.size_push])
  have g1:=at5 s.heap {cls:=.type "tuple_iterator",data:=.fields #[.ref l1,.int 0 0]} s.heap.objs.size rfl rfl
  have up:∀{g:Heap} {a:Addr} {u:Obj} (o:Obj),g.get? a=some u→(g.push o).get? a=some u:=fun o e=>Heap.get?_push_of_some o e
  refine⟨⟨_,g5,rfl⟩,h _ ⟨g5,up _ (up _ g3),⟨_,_,up _ g4⟩,⟨_,up _ (up _ (up _ (up _ g1))),rfl,rfl⟩,⟨_,up _ (up _ (up _ g2)),rfl,rfl⟩⟩ fun c o x=>up _ (up _ (up _ (up _ (up _ x))))⟩
end
theorem xZ:PySem.bootBuiltins "zip"=some (.type "zip"):=by decide+kernel
def G0(K:PySem.W.Frag)(ta:TA):TI:=fun σ H R=>ta σ H fun vs H1=>∃a b,vs=[.ref a,.ref b]∧(∃xs,cS K H1 a xs)∧(∃ys,cS K H1 b ys)∧R (Hm K a b) H1
theorem DY{X:Cx}{K:PySem.W.Frag}{es:List Expr}{k0:Nat}{tp:Pos}{a b:Expr}{ta:TA}{p pos:Pos}(hK:X.K=K)(hg:Gl X "zip")(hm:X.mg "zip"=none)(ha:PA X [a,b] ta)(hs:starEach [a,b] X.env=[(false,eval a X.env),(false,eval b X.env)]:=by rfl)(hs2:starEach [b] X.env=[(false,eval b X.env)]:=by rfl):
    PI X (.Tuple es k0 tp) (.Call (.Name "zip" p) [a,b] [] pos) (G0 K ta):=by
  intro pins s σ H R I h
  subst hK
  refine Call_ (jy I hg hm xZ (PyProof.Rows.callWith_type1 (bU (ha pos pins s σ H _ I h) fun us s1 ⟨vs,H1,I1,r1,q1⟩=>?_) (by rw [hs,hs2]) (by rw [hs2];rfl)))
  obtain⟨a,b,e,⟨xs,qx⟩,⟨ys,qy⟩,q⟩:=q1
  subst e
  cases r1 with
  | cons r rr=>
    cases rr with
    | cons r' rr=>
      cases rr
      cases r
      cases r'
      obtain⟨i1,v1,p1,_⟩:=I1.tuple qx
      obtain⟨i2,v2,p2,_⟩:=I1.tuple qy
      refine Ac p1 p2 fun g st hk=>wpAny_pyIter_zip st.1 ?_
      have I2:aH X pins σ H1 {s1 with heap:=g,toks:=s1.toks}:=I1.kept (t':=s1.toks) fun b o e=>hk b o e
      refine⟨s1.heap.objs.size+4,[s1.heap.objs.size+4,s1.heap.objs.size+2,s1.heap.objs.size+3,s1.heap.objs.size,s1.heap.objs.size+1],_,_,H1,rfl,I2,zY a b (show((s1.heap.objs.size+3:Nat)≠s1.heap.objs.size+4) by lia) (show((s1.heap.objs.size:Nat)≠s1.heap.objs.size+4) by lia) (show((s1.heap.objs.size+1:Nat)≠s1.heap.objs.size+4) by lia) (show((s1.heap.objs.size+3:Nat)≠s1.heap.objs.size) by lia) (show((s1.heap.objs.size+3:Nat)≠s1.heap.objs.size+1) by lia) (show((s1.heap.objs.size:Nat)≠s1.heap.objs.size+1) by lia) (show((s1.heap.objs.size+2:Nat)≠s1.heap.objs.size+4) by lia) (show((s1.heap.objs.size+2:Nat)≠s1.heap.objs.size+3) by lia) (show((s1.heap.objs.size+2:Nat)≠s1.heap.objs.size) by lia) (show((s1.heap.objs.size+2:Nat)≠s1.heap.objs.size+1) by lia),st,fun c hc=>?_,q⟩
      have le:s1.heap.objs.size≤c:=by
        simp only [List.mem_cons,List.not_mem_nil,or_false] at hc
        rcases hc with rfl | rfl | rfl | rfl | rfl
        · exact Nat.le_add_right _ 4
        · exact Nat.le_add_right _ 2
        · exact Nat.le_add_right _ 3
        · exact Nat.le_refl _
        · exact Nat.le_add_right _ 1
      have f:=I1.fpOk (H':=H1) le (I1.hok.fresh le)
      exact f
section
variable{prog:Program}{w:World}{A:Around}{E:Value→Shared→Prop}{s:Shared}{e it l:Addr}{k:Nat}{xs:Array Value}{S:Nat→Heap→Prop}{R:Heap→Array Value→Prop}
theorem t9(P1:Sc prog w it l S R)(hh:A.handled=none)(hne:l≠it)(xs:Array Value):Draws prog w A it [it,l] xs.size (fun i v=>xs[i]?=some v) (fun i h=>S i h∧R h xs) where
  live:=fun _ _ st=>let ⟨o,ho,_⟩:=P1.live st.1;⟨o,ho⟩
  frame:=fun _ _ _ st hk=>⟨P1.stay st.1 fun o e=>hk it (by simp) o e,P1.row st.2 fun o e=>hk l (by simp) o e⟩
  item:=fun i s Q E hi st hQ=>P1.next st.1 st.2 (x:=xs[i]) (by simp [hi]) fun g h1 h2=>hQ _ g s.toks (by simp [hi]) ⟨h1,P1.row st.2 fun o e=>h2.extBut _ _ hne e⟩ h2
  done:=fun s Q E st hE=>P1.last hh st.1 st.2 (by simp) hE
theorem qG{i:Int}{old:Value}{Q:Option Value→Shared→Prop}(P1:Sc prog w it l S R)(hh:A.handled=none)(he:IsEnum s.heap e it i old)(st:S k s.heap)(sq:R s.heap xs)(hx:xs[k]?=none)(q:∀g,Heap.ExtBut it s.heap g→Q none {s with heap:=g}):wpAny (model prog w) A (pyNext (.ref e)) Q E s:=by
  have hT:s.TypeIs (.ref e) "enumerate":=⟨_,he,rfl⟩;unfold pyNext
  refine wpAny_bind (wpAny_attempt (wpAny_callSpecial?_slot (name:=Str.ofString "__next__") hT F.slot_enumerate_next (wpAny_call_entry F.slot_enumerate_next hT F.entry_enumerate_next ?_ (F.args_enumerate_next_1 _))))
  show wpAny _ _ (field (.ref e) 2 >>= _) _ _ _;refine wpAny_bind (wpAny_field he rfl (x:=.ref it) rfl ?_)
  refine wpAny_bind (P1.last hh st sq hx fun g x hk hx'=>?_);obtain⟨o,ho,hc⟩:=hx'
  refine wpAny_bind (wpAny_isInstance (T:="StopIteration") (b:=true) ⟨o,ho,hc⟩ isSubtype_stop ?_);exact wpAny_pure (q _ hk)
theorem kX{i:Int}{old:Value}{Q:Value→Shared→Prop}(he:IsEnum s.heap e it i old)(h:Q (.ref e) s):wpAny (model prog w) A (pyIter (.ref e)) Q E s:=by
  have hT:s.TypeIs (.ref e) "enumerate":=⟨_,he,rfl⟩
  refine wpAny_pyIter_slot hT F.slot_enumerate_iter (wpAny_call_entry F.slot_enumerate_iter hT F.entry_enumerate_iter ?_ (F.args_enumerate_iter_1 _))
  show wpAny _ _ (ret (.ref e)) _ _ s;exact wpAny_pure ⟨_,rfl,"enumerate",_,hT,F.slot_enumerate_next.lookup,h⟩
end
section
variable{X:Cx}{pins:List (Addr × Obj)}{σ:L2.St}{H:Hp}{s:Shared}
theorem qo(I:aH X pins σ H s){b l:Addr}{xs:List V}(f:iL X pins H b)(q:gH X.K H l xs):l≠b:=by
  intro z
  subst z
  rcases q with (q | ⟨o,q⟩) | ⟨o,its,n,hk,_⟩
  · rw [f.1] at q;cases q
  · rw [f.1] at q;cases q
  · have hb:X.base.get? l=some o:=I.ok.mod.kin l o hk
    rcases f.2.2.2.1 with z | z
    · exact I.ok.noex l o hb z
    · exact absurd (Nat.lt_of_lt_of_le (Heap.lt_size (I.ok.bs l o hb).1) z) (Nat.lt_irrefl _)
end
def C2(K:PySem.W.Frag)(l:Addr):It:=
  ⟨fun i H=>∃xs x,cS K H l xs∧xs[i]?=some x,fun i H v H'=>∃p x,v=.ref p∧H p=none∧H'=be H p (.tup [.int i,x])∧∀xs,cS K H l xs→xs[i]?=some x,fun i H=>∃xs,cS K H l xs∧xs.length≤i⟩
def vJ(e it l:Addr)(i:Nat)(h:Heap):Prop:=(∃old,IsEnum h e it i old)∧h.IsTupleIter it l i
theorem vn{P:Program}{w:World}{K:PySem.W.Frag}{es:List Expr}{k0:Nat}{pos:Pos}{e it:Addr}(l:Addr)(ne:e≠it):uv P w K (.Tuple es k0 pos) (C2 K l) [e,it] e (vJ e it l) where
  mem:=by simp
  obj:=fun i h st b hb=>by
    obtain⟨⟨old,he⟩,u⟩:=st
    simp only [List.mem_cons,List.not_mem_nil,or_false] at hb
    rcases hb with rfl | rfl
    · exact⟨_,he,fun v z=>by cases z⟩
    · obtain⟨o,e,c,d⟩:=u
      exact⟨o,e,fun v z=>by rw [d] at z;cases z⟩
  keep:=fun i h h' st k=>by
    obtain⟨⟨old,he⟩,u⟩:=st
    exact⟨⟨old,k _ (by simp) _ he⟩,u.at fun o e=>k _ (by simp) o e⟩
  item:=by
    intro X hP hw hK hc i pins s σ H E I hf st hg
    subst hP hw hK
    obtain⟨xs,x,q1,hx⟩:=hg
    obtain⟨⟨old,he⟩,u⟩:=id st
    obtain⟨its,rv,p,hz⟩:=I.tuple q1
    obtain⟨ux,hux,rux⟩:=rv.get hx
    have fe:=hf e (by simp);have ft:=hf it (by simp)
    have n1:l≠e:=bo I fe q1
    have n2:l≠it:=bo I ft q1
    have hi:i < its.toArray.size:=by have:=(KY hux).1;simpa using this
    refine wpAny_pyNext_enum_itemD (t9 (A:=X.A.in1) (m9 it l) (show X.A.in1.handled=none from I.ok.hd hc) n2 its.toArray) he ⟨u,p⟩ hi ne (by simpa using ⟨ne,fun z=>n1 z.symm⟩) fun x' g tk hP ho hs hT hsz hk=>?_
    have ex:x'=ux:=by
      have:its[i]?=some x':=by simpa using hP
      rw [hux] at this;exact(Option.some.inj this).symm
    subst ex
    refine⟨_,rfl,wpAny_letOwnedTupleGo_enum ho fun g' he' ge=>?_⟩
    have lt:∀b∈[e,it],b < s.heap.objs.size:=fun b hb=>by
      simp only [List.mem_cons,List.not_mem_nil,or_false] at hb
      rcases hb with rfl | rfl
      · exact Heap.lt_size he
      · obtain⟨o,e,_⟩:=u;exact Heap.lt_size e
    have hTn:H s.heap.objs.size=none:=I.hok.fresh (Nat.le_refl _)
    have vv:aW [.int i,x] [.int i tk,x']:=.cons ⟨tk,rfl⟩ (.cons rux .nil)
    have I1:aH X pins σ (be H s.heap.objs.size (.tup [.int i,x])) {s with heap:=s.heap.push {cls:=.type "tuple",data:=.seq #[.int i tk,x']},toks:=s.toks}:=
      I.laid (t':=s.toks) (fun b u e=>Heap.get?_push_of_some _ e) (Nat.le_refl _) ⟨(by show 2≤sizeLine;decide),[.int i tk,x'],vv,oi.new _ _⟩
    have hf1:∀b∈[e,it],iL X pins (be H s.heap.objs.size (.tup [.int i,x])) b:=fun b hb=>by
      obtain⟨f0,fr⟩:=hf b hb
      exact⟨by rw [aG (Nat.ne_of_lt (lt b hb))];exact f0,fr⟩
    have I2:aH X pins σ (be H s.heap.objs.size (.tup [.int i,x])) {s with heap:=g',toks:=tk+1}:=by
      refine I1.turnedL (t':=tk+1) hf1 fun b o nb eb=>?_
      have nb':b≠e∧b≠it:=by simpa using nb
      refine ge.extBut _ _ nb'.1 ?_
      rcases Heap.get?_push_cases eb with ⟨rfl,rfl⟩ | eb
      · exact hT
      · exact hk b o nb'.1 nb'.2 eb
    refine⟨.ref s.heap.objs.size,_,I2,rfl,⟨_,x,rfl,hTn,rfl,fun xs' w1=>by rw [I.tuple_inj w1 q1];exact hx⟩,⟨⟨_,by simpa using he'⟩,hs.1.at fun o e=>ge.extBut _ _ (fun z=>ne z.symm) e⟩,fun b hb=>(hf1 b hb).1⟩
  done:=by
    intro X hP hw hK hc i pins s σ H E I hf st hg
    subst hP hw hK
    obtain⟨xs,q1,hn⟩:=hg
    obtain⟨⟨old,he⟩,u⟩:=id st
    obtain⟨its,rv,p,hz⟩:=I.tuple q1
    have e1:=rv.length
    refine qG (xs:=its.toArray) (m9 it l) (I.ok.hd hc) he u p (by simp;lia) fun g gk=>⟨rfl,I.turnedL (t':=s.toks) hf fun b o nb eb=>?_⟩
    have nb':b≠e∧b≠it:=by simpa using nb
    exact gk b o nb'.2 eb
  self:=fun A i s Q E st h=>by
    obtain⟨⟨old,he⟩,u⟩:=st
    exact kX he h
def C1(K:PySem.W.Frag)(l:Addr):It:=
  ⟨fun i H=>∃xs x,gH K H l xs∧xs[i]?=some x,fun i H v H'=>∃p x,v=.ref p∧H p=none∧H'=be H p (.tup [.int i,x])∧∀xs,gH K H l xs→xs[i]?=some x,fun i H=>∃xs,gH K H l xs∧xs.length≤i⟩
def AE(e it l:Addr)(i:Nat)(h:Heap):Prop:=(∃old,IsEnum h e it i old)∧h.IsListIter it l i
theorem vm{P:Program}{w:World}{K:PySem.W.Frag}{es:List Expr}{k0:Nat}{pos:Pos}{e it:Addr}(l:Addr)(ne:e≠it):uv P w K (.Tuple es k0 pos) (C1 K l) [e,it] e (AE e it l) where
  mem:=by simp
  obj:=fun i h st b hb=>by
    obtain⟨⟨old,he⟩,u⟩:=st
    simp only [List.mem_cons,List.not_mem_nil,or_false] at hb
    rcases hb with rfl | rfl
    · exact⟨_,he,fun v z=>by cases z⟩
    · obtain⟨o,e,c,d⟩:=u
      exact⟨o,e,fun v z=>by rw [d] at z;cases z⟩
  keep:=fun i h h' st k=>by
    obtain⟨⟨old,he⟩,u⟩:=st
    exact⟨⟨old,k _ (by simp) _ he⟩,u.at fun o e=>k _ (by simp) o e⟩
  item:=by
    intro X hP hw hK hc i pins s σ H E I hf st hg
    subst hP hw hK
    obtain⟨xs,x,q1,hx⟩:=hg
    obtain⟨⟨old,he⟩,u⟩:=id st
    obtain⟨its,rv,p,hz⟩:=I.list q1
    obtain⟨ux,hux,rux⟩:=rv.get hx
    have fe:=hf e (by simp);have ft:=hf it (by simp)
    have n1:l≠e:=qo I fe q1
    have n2:l≠it:=qo I ft q1
    have hi:i < its.toArray.size:=by have:=(KY hux).1;simpa using this
    refine wpAny_pyNext_enum_itemD (t9 (A:=X.A.in1) (wj it l) (show X.A.in1.handled=none from I.ok.hd hc) n2 its.toArray) he ⟨u,p.isList⟩ hi ne (by simpa using ⟨ne,fun z=>n1 z.symm⟩) fun x' g tk hP ho hs hT hsz hk=>?_
    have ex:x'=ux:=by
      have:its[i]?=some x':=by simpa using hP
      rw [hux] at this;exact(Option.some.inj this).symm
    subst ex
    refine⟨_,rfl,wpAny_letOwnedTupleGo_enum ho fun g' he' ge=>?_⟩
    have lt:∀b∈[e,it],b < s.heap.objs.size:=fun b hb=>by
      simp only [List.mem_cons,List.not_mem_nil,or_false] at hb
      rcases hb with rfl | rfl
      · exact Heap.lt_size he
      · obtain⟨o,e,_⟩:=u;exact Heap.lt_size e
    have hTn:H s.heap.objs.size=none:=I.hok.fresh (Nat.le_refl _)
    have vv:aW [.int i,x] [.int i tk,x']:=.cons ⟨tk,rfl⟩ (.cons rux .nil)
    have I1:aH X pins σ (be H s.heap.objs.size (.tup [.int i,x])) {s with heap:=s.heap.push {cls:=.type "tuple",data:=.seq #[.int i tk,x']},toks:=s.toks}:=
      I.laid (t':=s.toks) (fun b u e=>Heap.get?_push_of_some _ e) (Nat.le_refl _) ⟨(by show 2≤sizeLine;decide),[.int i tk,x'],vv,oi.new _ _⟩
    have hf1:∀b∈[e,it],iL X pins (be H s.heap.objs.size (.tup [.int i,x])) b:=fun b hb=>by
      obtain⟨f0,fr⟩:=hf b hb
      exact⟨by rw [aG (Nat.ne_of_lt (lt b hb))];exact f0,fr⟩
    have I2:aH X pins σ (be H s.heap.objs.size (.tup [.int i,x])) {s with heap:=g',toks:=tk+1}:=by
      refine I1.turnedL (t':=tk+1) hf1 fun b o nb eb=>?_
      have nb':b≠e∧b≠it:=by simpa using nb
      refine ge.extBut _ _ nb'.1 ?_
      rcases Heap.get?_push_cases eb with ⟨rfl,rfl⟩ | eb
      · exact hT
      · exact hk b o nb'.1 nb'.2 eb
    refine⟨.ref s.heap.objs.size,_,I2,rfl,⟨_,x,rfl,hTn,rfl,fun xs' w1=>by rw [I.list_inj w1 q1];exact hx⟩,⟨⟨_,by simpa using he'⟩,hs.1.at fun o e=>ge.extBut _ _ (fun z=>ne z.symm) e⟩,fun b hb=>(hf1 b hb).1⟩
  done:=by
    intro X hP hw hK hc i pins s σ H E I hf st hg
    subst hP hw hK
    obtain⟨xs,q1,hn⟩:=hg
    obtain⟨⟨old,he⟩,u⟩:=id st
    obtain⟨its,rv,p,hz⟩:=I.list q1
    have e1:=rv.length
    refine qG (xs:=its.toArray) (wj it l) (I.ok.hd hc) he u p.isList (by simp;lia) fun g gk=>⟨rfl,I.turnedL (t':=s.toks) hf fun b o nb eb=>?_⟩
    have nb':b≠e∧b≠it:=by simpa using nb
    exact gk b o nb'.2 eb
  self:=fun A i s Q E st h=>by
    obtain⟨⟨old,he⟩,u⟩:=st
    exact kX he h
theorem wq:∀(us:List Value) (f:Nat→Int),(∀(j:Nat) (v:Value),us[j]?=some v→∃t,v=Value.int (f j) t)→aW ((List.range us.length).map fun j=>V.int (f j)) us
  | [],_,_=>.nil
  | u::us,f,h=>by
    rw [List.length_cons,List.range_succ_eq_map,List.map_cons,List.map_map]
    refine .cons (h 0 u rfl) (wq us (fun j=>f (j+1)) fun j v e=>h (j+1) v (by simpa using e))
section
variable{X:Cx}{a:Expr}{ta:TA}{p p2 pos pos2:Pos}
end
theorem xb:fillsNumberSlot (.type "tuple") "mul"=pure false:=
  PySem.fillsNumberSlot_seq (id:="tuple.__mul__") (r:=some (.builtin "tuple.__rmul__")) F.slot_tuple_mul.lookup (by decide+kernel) F.slot_tuple_rmul.lookup (by decide+kernel)
theorem El:seqRepeat? (.type "tuple")=pure (some (.builtin "tuple.__mul__")):=by
  unfold seqRepeat?;rw [PySem.seqSlot_of (T:="tuple") (name:="__mul__") (id:="tuple.__mul__") F.slot_tuple_mul.lookup (by decide+kernel),PySem.seqSlot_of (T:="tuple") (name:="__rmul__") (id:="tuple.__rmul__") F.slot_tuple_rmul.lookup (by decide+kernel)];rfl
theorem BP(a:Int)(t:Tok)(l:Addr)(items:Array Value)(n:Nat)(dd:Option Addr)(sl:Array (Option Value)):
    Meets (Builtin.«int.__rmul__» ⟨[.int a t,.ref l],[]⟩) (fun _ R s=>s.heap.get? l=some {cls:=.type "tuple",dict:=dd,data:=.seq items n,slots:=sl}∧R (.ok (.ret Value.notImplemented)) s):=
  .of_wp fun prog w A R s h=>by obtain⟨hp,g,d,tk,os⟩:=s;obtain⟨hl,h⟩:=h;wp_walk;exact⟨_,rfl,h⟩
theorem Du(l:Addr)(x:Value)(n:Nat)(k:Int)(u:Tok)(dd:Option Addr)(sl:Array (Option Value))(h0:2≤k)(h1:k≤100000):
    Meets (Builtin.«tuple.__mul__» ⟨[.ref l,.int k u],[]⟩) (fun _ R s=>s.heap.get? l=some {cls:=.type "tuple",dict:=dd,data:=.seq #[x] n,slots:=sl}∧
      R (.ok (.ret (.ref s.heap.objs.size))) {s with heap:=s.heap.push {cls:=.type "tuple",data:=.seq (List.replicate k.toNat x).toArray}}):=
  .of_wp fun prog w A R s h=>by
    obtain⟨hp,g,d,tk,os⟩:=s;obtain⟨hl,h⟩:=h
    have f1:=AutoSeq1.idx_int
    have c1:¬(decide (k < -(2 ^ 63)) || decide (k≥2 ^ 63))=true:=by simp;lia
    have c2:¬((#[x]:Array Value).isEmpty || k==1)=true:=by simp;lia
    have c3:¬(decide (k≤0) || (#[x]:Array Value).isEmpty)=true:=by simp;lia
    have c4:¬(((#[x]:Array Value).size:Int)*k > (2 ^ 63 - 1) / 8):=by simp;lia
    have c5:¬Builtin.Tuple.tupleTooMany (((#[x]:Array Value).size:Int)*k)=true:=by
      unfold Builtin.Tuple.tupleTooMany;rw [sizeLine_eq];simp;lia
    wp_walk using wpAny_loadPart' hl
    rw [if_neg c1]
    wp_walk using wpAny_loadPart' hl
    rw [if_neg c2]
    wp_walk using wpAny_loadPart' hl
    rw [if_neg c3]
    wp_walk using wpAny_loadPart' hl
    rw [if_neg c4]
    show wpAny _ _ (if Builtin.Tuple.tupleTooMany (((#[x]:Array Value).size:Int)*k)=true then _ else _) _ _ _
    rw [if_neg c5]
    have f0:∀(m:Nat) (acc:Array Value),List.foldl (fun x1 x2=>x1++x2) acc (List.replicate m #[x])=acc++(List.replicate m x).toArray:=by
      intro m
      induction m with
      | zero=>intro acc;simp
      | succ m ih=>intro acc;rw [List.replicate_succ,List.foldl_cons,ih,List.replicate_succ];apply Array.toList_inj.mp;simp
    have e:List.foldl (fun x1 x2=>x1++x2) #[] (List.replicate k.toNat #[x])=(List.replicate k.toNat x).toArray:=by rw [f0];simp
    show wpAny _ _ (Builtin.Tuple.tupleExact (List.foldl (fun x1 x2=>x1++x2) #[] (List.replicate k.toNat #[x])) >>= fun v=>ret v) _ _ _
    rw [e]
    unfold Builtin.Tuple.tupleExact
    refine wpAny_bind (wpAny_newObj_type ?_ (by show(List.replicate k.toNat x).toArray.size≤sizeLine;rw [List.size_toArray,List.length_replicate,sizeLine_eq];lia))
    exact wpAny_pure ⟨_,rfl,h⟩
theorem AX(l:Addr)(x:Value)(n:Nat)(u:Tok)(dd:Option Addr)(sl:Array (Option Value)):
    Meets (Builtin.«tuple.__mul__» ⟨[.ref l,.int 0 u],[]⟩) (fun _ R s=>s.heap.get? l=some {cls:=.type "tuple",dict:=dd,data:=.seq #[x] n,slots:=sl}∧R (.ok (.ret (.ref s.heap.objs.size))) {s with heap:=s.heap.push {cls:=.type "tuple",data:=.seq #[]}}):=
  .of_wp fun prog w A R s h=>by
    obtain⟨hp,g,d,tk,os⟩:=s;obtain⟨hl,h⟩:=h;have f1:=AutoSeq1.idx_int
    have c2:¬((#[x]:Array Value).isEmpty || (0:Int)==1)=true:=by simp
    wp_walk using wpAny_loadPart' hl
    first | rw [if_neg c2] | skip
    wp_walk using wpAny_loadPart' hl
    exact⟨_,rfl,h⟩
theorem AY(l:Addr)(x:Value)(n:Nat)(u:Tok)(dd:Option Addr)(sl:Array (Option Value)):
    Meets (Builtin.«tuple.__mul__» ⟨[.ref l,.int 1 u],[]⟩) (fun _ R s=>s.heap.get? l=some {cls:=.type "tuple",dict:=dd,data:=.seq #[x] n,slots:=sl}∧R (.ok (.ret (.ref l))) s):=
  .of_wp fun prog w A R s h=>by
    obtain⟨hp,g,d,tk,os⟩:=s;obtain⟨hl,h⟩:=h;have f1:=AutoSeq1.idx_int
    wp_walk using wpAny_loadPart' hl
    exact⟨_,rfl,h⟩
section
variable{X:Cx}
def zq(K:PySem.W.Frag):R2:=fun x y H Q=>∃a k v,x=.ref a∧y=.int k∧cS K H a [v]∧0≤k∧k≤100000∧∀p H',aD H H'→cS K H' p (List.replicate k.toNat v)→Q (.ref p) H'
theorem Bj:h8 X (binaryOp .Mult) (zq X.K):=by
  intro pins s σ H x y v u Q I rx ry h
  obtain⟨a,k,z,rfl,rfl,ha,k0,k1,q⟩:=h
  cases rx
  obtain⟨t,rfl⟩:=ry
  obtain⟨its,r,p,hz⟩:=I.tuple ha
  obtain⟨uz,rfl,rz⟩:=mY r
  obtain⟨⟨cls,dd,data,sl⟩,ho,hc,n,hd⟩:=id p
  simp only at hc hd
  subst hc hd
  refine wpAny_binaryOp_repeat_ref (T:="tuple") (U:="int") (by decide) ⟨_,ho,rfl⟩ (fun s'=>PySem.typeIs_int s' k t) xb F.fills_int_mul F.slot_int_rmul El F.slot_int_index.lookup (call_meets F.slot_int_rmul (PySem.typeIs_int s k t) F.entry_int_rmul (F.args_int_rmul_2 _ _) (BP k t a #[uz] n dd sl) ⟨ho,rfl,⟨_,ho,rfl⟩,?_⟩)
  have new:∀m:Nat,m=k.toNat→EP X pins σ Q (.ref s.heap.objs.size) {s with heap:=s.heap.push {cls:=.type "tuple",data:=.seq (List.replicate m uz).toArray},toks:=s.toks}:=fun m hm=>by
    have hf:H s.heap.objs.size=none:=I.hok.fresh (Nat.le_refl _)
    have vv:∀j:Nat,aW (List.replicate j z) (List.replicate j uz):=fun j=>by
      induction j with
      | zero=>exact .nil
      | succ j ih=>exact .cons rz ih
    refine⟨.ref s.heap.objs.size,_,I.laid (t':=s.toks) (o:=.tup (List.replicate m z)) (fun b ob q=>Heap.get?_push_of_some _ q) (Nat.le_refl _) ⟨by rw [List.length_replicate,sizeLine_eq];lia,_,vv m,oi.new _ _⟩,rfl,q _ _ (aD.new hf) (cS.of (by rw [ay,hm]))⟩
  rcases(by lia:k=0∨k=1∨2≤k) with e | e | e
  · subst e
    exact call_meets F.slot_tuple_mul ⟨_,ho,rfl⟩ F.entry_tuple_mul (F.args_tuple_mul_2 _ _) (AX a uz n t dd sl) ⟨ho,new 0 rfl⟩
  · subst e
    exact call_meets F.slot_tuple_mul ⟨_,ho,rfl⟩ F.entry_tuple_mul (F.args_tuple_mul_2 _ _) (AY a uz n t dd sl) ⟨ho,⟨.ref a,H,I,rfl,q a H (aD.refl H) ha⟩⟩
  · exact call_meets F.slot_tuple_mul ⟨_,ho,rfl⟩ F.entry_tuple_mul (F.args_tuple_mul_2 _ _) (Du a uz n k t dd sl e k1) ⟨ho,new _ rfl⟩
end
section
variable{prog:Program}{w:World}{A:Around}{E:Value→Shared→Prop}{s:Shared}
end
section
variable{X:Cx}{a:Expr}{ta:TA}{p p2 p3 pos pos2 pos3:Pos}
end
theorem wD(l:Addr)(xs:Array Value):
    Meets (Builtin.«enumerate.__new__» ⟨[.type "enumerate",.ref l],[]⟩) (fun _ R s=>s.heap.IsTuple l xs∧R (.ok (.ret (.ref (s.heap.objs.size+1)))) {s with heap:=(s.heap.push {cls:=.type "tuple_iterator",data:=.fields #[.ref l,.int 0 0]}).push {cls:=.type "enumerate",data:=.fields #[.none,.bool false,.ref s.heap.objs.size,rawInt 0,.none,.none]}}):=
  .of_wp fun prog w A R s h=>by
    obtain⟨hp,g,d,tk,os⟩:=s;obtain⟨ht,h⟩:=h;have a1:=sub_enumerate
    have T1:Heap.IsTuple (Shared.heap ⟨hp,g,d,tk,os⟩) l xs:=ht
    obtain⟨⟨cls,dd,data,sl⟩,ho,hc,n,hd⟩:=id ht
    simp only at hc hd
    subst hc hd
    wp_walk using wpAny_loadPart' ho
    refine wpAny_stack_any fun st=>wpAny_pure ?_
    split
    · rename_i c _ _ _ _ _
      cases (c==Value.type "enumerate")
      · wp_walk using wpAny_loadPart' ho,wpAny_pyIter_tuple T1
        refine⟨_,rfl,?_⟩
        simp only [Heap.size_push]
        exact h
      · wp_walk using wpAny_loadPart' ho,wpAny_pyIter_tuple T1
        refine⟨_,rfl,?_⟩
        simp only [Heap.size_push]
        exact h
    · wp_walk using wpAny_loadPart' ho,wpAny_pyIter_tuple T1
      refine⟨_,rfl,?_⟩
      simp only [Heap.size_push]
      exact h
section
variable{prog:Program}{w:World}{A:Around}{E:Value→Shared→Prop}{s:Shared}
theorem uG{l:Addr}{xs:Array Value}{Q:Value→Shared→Prop}(t1:s.heap.IsTuple l xs)(h:∀g,vJ (s.heap.objs.size+1) s.heap.objs.size l 0 g→(∀c o,s.heap.get? c=some o→g.get? c=some o)→Q (.ref (s.heap.objs.size+1)) {s with heap:=g}):wpAny (model prog w) A (call (.type "enumerate") [.ref l]) Q E s:=by
  refine callType_new F.called_enumerate (by decide) (F.typeCall_enumerate_1 _) (F.newCall_enumerate_1 _) (fun obj=>F.args_object_init_2 obj _) F.entry_enumerate_new (wD l xs) ⟨t1,?_⟩
  have g2:((s.heap.push {cls:=.type "tuple_iterator",data:=.fields #[.ref l,.int 0 0]}).push {cls:=.type "enumerate",data:=.fields #[.none,.bool false,.ref s.heap.objs.size,rawInt 0,.none,.none]}).get? (s.heap.objs.size+1)=some {cls:=.type "enumerate",data:=.fields #[.none,.bool false,.ref s.heap.objs.size,rawInt 0,.none,.none]}:=by
    have e:s.heap.objs.size+1=(s.heap.push {cls:=.type "tuple_iterator",data:=.fields #[.ref l,.int 0 0]}).objs.size:=by simp only [Heap.size_push]
    rw [e];exact Heap.get?_push_size _ rfl
  exact⟨⟨_,g2,rfl⟩,h _ ⟨⟨.none,g2⟩,⟨_,Heap.get?_push_of_some _ (Heap.get?_push_size _ rfl),rfl,rfl⟩⟩ fun c o x=>Heap.get?_push_of_some _ (Heap.get?_push_of_some _ x)⟩
end
theorem j7:PySem.bootBuiltins "enumerate"=some (.type "enumerate"):=by decide+kernel
def GZ(K:PySem.W.Frag)(ta:TA):TI:=fun σ H R=>ta σ H fun vs H1=>∃a,vs=[.ref a]∧(∃xs,cS K H1 a xs)∧R (C2 K a) H1
def GY(K:PySem.W.Frag)(ta:TA):TI:=fun σ H R=>ta σ H fun vs H1=>∃a,vs=[.ref a]∧(∃xs,gH K H1 a xs)∧R (C1 K a) H1
section
variable{X:Cx}{K:PySem.W.Frag}{es:List Expr}{k0:Nat}{tp:Pos}{a:Expr}{ta:TA}{p pos:Pos}
theorem y6(hK:X.K=K)(hg:Gl X "enumerate")(hm:X.mg "enumerate"=none)(ha:PA X [a] ta)(hs:starEach [a] X.env=[(false,eval a X.env)]:=by rfl):PI X (.Tuple es k0 tp) (.Call (.Name "enumerate" p) [a] [] pos) (GZ K ta):=by
  intro pins s σ H R I h
  subst hK
  refine Call_ (jy I hg hm j7 (PyProof.Rows.callWith_type1 (bU (ha pos pins s σ H _ I h) fun us s1 ⟨vs,H1,I1,r1,q1⟩=>?_) hs rfl))
  obtain⟨a,e,⟨xs,qx⟩,q⟩:=q1
  subst e
  obtain⟨u,rfl,ru⟩:=mY r1
  cases ru
  obtain⟨i1,v1,p1,_⟩:=I1.tuple qx
  refine uG p1 fun g st hk=>?_
  obtain⟨⟨old,he⟩,hit⟩:=id st
  refine kX he ?_
  have I2:aH X pins σ H1 {s1 with heap:=g,toks:=s1.toks}:=I1.kept (t':=s1.toks) fun b o e=>hk b o e
  refine⟨s1.heap.objs.size+1,[s1.heap.objs.size+1,s1.heap.objs.size],_,_,H1,rfl,I2,vn a (show((s1.heap.objs.size+1:Nat)≠s1.heap.objs.size) by lia),st,fun c hc=>?_,q⟩
  have le:s1.heap.objs.size≤c:=by
    simp only [List.mem_cons,List.not_mem_nil,or_false] at hc
    rcases hc with rfl | rfl
    · exact Nat.le_add_right _ 1
    · exact Nat.le_refl _
  exact I1.fpOk (H':=H1) le (I1.hok.fresh le)
theorem y4(hK:X.K=K)(hg:Gl X "enumerate")(hm:X.mg "enumerate"=none)(ha:PA X [a] ta)(hs:starEach [a] X.env=[(false,eval a X.env)]:=by rfl):PI X (.Tuple es k0 tp) (.Call (.Name "enumerate" p) [a] [] pos) (GY K ta):=by
  intro pins s σ H R I h
  subst hK
  refine Call_ (jy I hg hm j7 (PyProof.Rows.callWith_type1 (bU (ha pos pins s σ H _ I h) fun us s1 ⟨vs,H1,I1,r1,q1⟩=>?_) hs rfl))
  obtain⟨a,e,⟨xs,qx⟩,q⟩:=q1
  subst e
  obtain⟨u,rfl,ru⟩:=mY r1
  cases ru
  obtain⟨i1,v1,p1,_⟩:=I1.list qx
  refine call_enumerate_list p1.isList fun g he hit hsz hk=>?_
  refine kX he ?_
  have I2:aH X pins σ H1 {s1 with heap:=g,toks:=s1.toks}:=I1.kept (t':=s1.toks) fun b o e=>hk b o e
  refine⟨s1.heap.objs.size+1,[s1.heap.objs.size+1,s1.heap.objs.size],_,_,H1,rfl,I2,vm a (show((s1.heap.objs.size+1:Nat)≠s1.heap.objs.size) by lia),⟨⟨_,he⟩,hit⟩,fun c hc=>?_,q⟩
  have le:s1.heap.objs.size≤c:=by
    simp only [List.mem_cons,List.not_mem_nil,or_false] at hc
    rcases hc with rfl | rfl
    · exact Nat.le_add_right _ 1
    · exact Nat.le_refl _
  exact I1.fpOk (H':=H1) le (I1.hok.fresh le)
end
theorem xl{X:Cx}:h8 X (compareOp .IsNot) (fun x y H Q=>∃b c,x=.bl b∧y=.bl c∧Q (.bl (!(b==c))) H):=by
  intro pins s σ H x y v u Q I rx ry h
  obtain⟨b,c,rfl,rfl,q⟩:=h
  cases rx;cases ry
  refine wpAny_isNot_plain (by cases b<;>cases c<;>rfl) ⟨.bl (!(b==c)),H,I,?_,q⟩
  show Value.bool _=Value.bool _
  cases b<;>cases c<;>rfl
section
variable{prog:Program}{w:World}{A:Around}{E:Value→Shared→Prop}{s:Shared}
end
section
variable{prog:Program}{w:World}{A:Around}{E:Value→Shared→Prop}{s:Shared}
end
section
variable{prog:Program}{w:World}{A:Around}{E:Value→Shared→Prop}{s:Shared}
end
theorem va{X:Cx}{ix:Nat}{nm:Str}{posn poss:Pos}{elt iter tg:Expr}{ifs:List Expr}{scope:Scope}{pos:Pos}{wi:TI}{g:TG}{tc:TT}{te:TE}(sc0:Scope)(N0:List Str)(cp:List (Nat × Str))(tgN:List Str)
    (hc:X.calm=true)(hsc:X.env.scope=sc0)(hN0:X.N=N0)(hi:PI X tg iter wi)
    (hg:∀C s0 H0 fp,PG (aw X scope cp tgN C s0 H0 fp) tg g)
    (ht:∀C s0 H0 fp,uq (aw X scope cp tgN C s0 H0 fp) ifs tc)
    (he:∀C s0 H0 fp,PE (aw X scope cp tgN C s0 H0 fp) elt te)
    (hk:scope.kind=.function)(hcell:∀y∈scope.names,y.2≠.cell)(hnames:∀y∈scope.names,y.2=.local→scope.names.lookup y.1=some .local)
    (hfr:∀y∈scope.names,y.2=.free→scope.names.lookup y.1=some .free∧sc0.names.lookup y.1=some .cell)
    (hcp:∀p∈cp,N0[p.1]?=some p.2)(hcq:∀p∈cp,sc0.names.lookup p.2=some .cell∧scope.names.lookup p.2=some .free)
    (hNd:X.N.Nodup)(hix:X.N[ix]?=some nm)(hlc:X.env.scope.names.lookup nm=some .local)(hsw:swapsWith (.ListComp elt [⟨tg,iter,ifs,0⟩] scope pos) (some (.Name nm posn)) poss.line X.env=pure true)
    (hs:∀x,foldedSetIterable iter X.env x=pure x:=by intro _;rfl):
    PS X (.Assign [.Name nm posn] (.ListComp elt [⟨tg,iter,ifs,0⟩] scope pos) poss) (BX (wk cp tgN.length wi g tc te) (vM ix)):=by
  intro pins s σ H D0 I h
  let Q:VK:=fun x H1=>D0.nx (σ.set ix (some x)) H1
  have h:wk cp tgN.length wi g tc te σ H Q:=h
  have hkind:∀x,X.env.kindOf x=sc0.names.lookup x:=fun x=>by unfold Env.kindOf;rw [hsc]
  have hfree:∀y∈scope.names,y.2=.free→∃c,X.env.cells.lookup y.1=some c:=fun y hy e=>I.ok.has y.1 (.inl (by rw [hkind];exact(hfr y hy e).2))
  rw [exec_Assign_Name_used _ _ _ _ hsw]
  refine wpAny_bind (wpAny_standAt (wpAny_bind ?_))
  unfold evalThenUse
  refine wpAny_bind ?_
  refine wpAny_comprehension_free (use:=some (assign (.Name nm posn) X.env)) rfl hs (lG hfree) hk hnames (wpAny_mono (hi pins s σ H _ I h.go) (fun xv s₁ h₁=>wpAny_mono h₁ (fun itv s₂ h₂=>?_) fun _ _ e=>e) fun _ _ e=>e)
  obtain⟨it,fp,tn,J,H2,rfl,I2,T,st2,f2,hq⟩:=h₂
  refine wpAny_newObj_type ?_
  have hlF:H2 s₂.heap.objs.size=none:=I2.hok.fresh (Nat.le_refl _)
  have I3:aH X pins σ (be H2 s₂.heap.objs.size (.lst [])) {s₂ with heap:=s₂.heap.push {cls:=.type "list",data:=.seq ([]:List Value).toArray}}:=I2.lnew (t':=s₂.toks) .nil (Nat.zero_le _)
  obtain⟨W,⟨m0,w0⟩,turn⟩:=hq _ hlF
  have f3:∀b∈fp,iL X pins (be H2 s₂.heap.objs.size (.lst [])) b:=fun b hb=>by
    obtain⟨f0,fr⟩:=f2 b hb
    obtain⟨o,ho,_⟩:=T.obj _ _ st2 b hb
    exact⟨by rw [aG (Nat.ne_of_lt (Heap.lt_size ho))];exact f0,fr⟩
  have st3:tn 0 (s₂.heap.push {cls:=.type "list",data:=.seq ([]:List Value).toArray}):=T.keep _ _ _ st2 fun b _ o e=>Heap.get?_push_of_some _ e
  generalize hD:s₂.heap.objs.size=D at*
  generalize hs3:({s₂ with heap:=s₂.heap.push {cls:=.type "list",data:=.seq ([]:List Value).toArray}}:Shared)=s₃ at*
  have hst3:tn 0 s₃.heap:=by rw [←hs3];exact st3
  refine wpAny_newFunctionEnv hcell (by intro y hy;simp at hy) (fun h₁ hns₁ hsb₁=>?_) hk
  generalize hC:s₃.heap.objs.size=C at*
  have old:∀b o,s₃.heap.get? b=some o→h₁.get? b=some o:=fun b o e=>hsb₁.extBut b o (by rw [←hC];exact Nat.ne_of_lt (Heap.lt_size e)) (Heap.get?_push_of_some _ e)
  have nC:∀b o,s₃.heap.get? b=some o→b≠C:=fun b o e=>by rw [←hC];exact Nat.ne_of_lt (Heap.lt_size e)
  have hHC:(be H2 D (.lst [])) C=none:=I3.hok.fresh (by rw [hC];exact Nat.le_refl _)
  have clS:∀x c,(ia X.env scope.names []).lookup x=some c→X.env.cells.lookup x=some c:=fun x c e=>jr _ _ x c hfree (fun _ _ z=>by simp at z) e
  have clH:∀x,(∃y∈scope.names,y.1=x∧y.2=.free)→∃c,(ia X.env scope.names []).lookup x=some c:=fun x e=>lX _ _ x (.inl e)
  have ok':(aw X scope cp tgN C s₃ (be H2 D (.lst [])) fp).Ok:=by
    refine⟨I.ok.mod,hk,I.ok.glob,I.ok.blt,by rw [←hC];exact Nat.le_refl _,fun x y c e1 e2=>I.ok.inj x y c (clS _ _ e1) (clS _ _ e2),fun x e=>clH x (cG hcell e),fun x c e1 e2=>?_,I.ok.hd,I.ok.frames,.inl rfl,fun b hb=>?_,fun b o e=>I3.bs b o e,?_,fun b o e hb=>?_,fun b hb z=>?_,I3.stack,fun b hb=>I3.stkFree b hb⟩
    · exfalso
      have e1':scope.names.lookup x=some .local:=by simpa [aw] using e1
      have e2':=clS x c e2
      obtain⟨c',hc'⟩:∃y∈scope.names,y.1=x∧y.2=.free:=by
        by_cases q:∃y∈scope.names,y.1=x∧y.2=.free
        · exact q
        · exfalso
          have:∀(names:List (Str × NameKind)) (cs:List (Str × Addr)),(¬∃y∈names,y.1=x∧y.2=.free)→cs.lookup x=none→(ia X.env names cs).lookup x=none:=by
            intro names
            induction names with
            | nil=>intro cs _ h;exact h
            | cons y r ih=>
              intro cs hn hcs
              obtain⟨n,k⟩:=y
              refine ih _ (fun⟨y,hy,z⟩=>hn ⟨y,List.mem_cons_of_mem _ hy,z⟩) ?_
              by_cases hk:(k==NameKind.free)=true
              · rw [if_pos hk,List.lookup_cons]
                cases hx:x==n with
                | true=>exact absurd ⟨(n,k),List.mem_cons_self,(by simpa using hx:x=n).symm,by simpa using hk⟩ hn
                | false=>exact hcs
              · rw [if_neg hk];exact hcs
          have z:=this scope.names [] q rfl
          have e2'':(ia X.env scope.names []).lookup x=some c:=e2
          rw [z] at e2'';cases e2''
      have z:=(hfr c' hc'.1 hc'.2.2).1
      rw [hc'.2.1,e1'] at z;cases z
    · obtain⟨f0,f1,f4,f5,f6,f7⟩:=f3 b hb
      obtain⟨o,ho,_⟩:=T.obj _ _ hst3 b hb
      exact⟨nC b o ho,fun x c e=>f6 x c (clS x c e)⟩
    · exact Nat.le_trans I.ok.bsz I3.sz
    · obtain⟨f0,f1,f4,f5,f6,f7⟩:=f3 b hb
      rcases f5 with z | z
      · exact I.ok.noex b o e z
      · have:=(I.ok.bs b o e).1
        exact absurd (Nat.lt_of_lt_of_le (Heap.lt_size this) z) (Nat.lt_irrefl _)
    · obtain⟨f0,f1,f4,f5,f6,f7⟩:=f3 b hb
      rcases K1 (I3.stkSub b z) with z | z
      · exact f1 z
      · exact f4 z
  have I4:aH (aw X scope cp tgN C s₃ (be H2 D (.lst [])) fp) [] (eP cp tgN.length σ) (be H2 D (.lst [])) {s₃ with heap:=h₁,toks:=s₃.toks+([]:List (Str × Value)).length}:=by
    refine⟨ok',rfl,I3.bare,Un.kept old,⟨_,hns₁,fun i x v e1 e2 e3=>?_⟩,fun x c e=>?_,hHC,fun x c e=>I3.freeC x c (clS x c e),fun p hp=>by simp [aw] at hp,I3.hok.kept old,by simp [eP,aw]⟩
    · have hlt:i < cp.length:=by
        by_cases q:i < cp.length
        · exact q
        · exfalso
          unfold eP at e2
          rw [List.getElem?_append_right (by simp;lia)] at e2
          rw [List.getElem?_replicate] at e2
          split at e2<;>cases e2
      have e1':(cp.map (·.2))[i]?=some x:=by
        have e1'':(cp.map (·.2)++tgN)[i]?=some x:=e1
        rwa [List.getElem?_append_left (by simp;exact hlt)] at e1''
      have e2':(cp.map (fun p=>(σ[p.1]?).join))[i]?=some (some v):=by
        unfold eP at e2
        rwa [List.getElem?_append_left (by simp;exact hlt)] at e2
      rw [List.getElem?_map,List.getElem?_eq_getElem hlt] at e1' e2'
      have ex:(cp[i]).2=x:=by simpa using e1'
      have ev:(σ[(cp[i]).1]?).join=some v:=by simpa using e2'
      have ev':σ[(cp[i]).1]?=some (some v):=by
        cases q:σ[(cp[i]).1]? with
        | none=>rw [q] at ev;cases ev
        | some z=>rw [q] at ev;simp only [Option.join_some] at ev;rw [ev]
      have hN:=hcp cp[i] (List.getElem_mem hlt)
      rw [←hN0] at hN
      obtain⟨hcl,hcf⟩:=hcq cp[i] (List.getElem_mem hlt)
      rw [ex] at hN hcl hcf
      obtain⟨m,hn,hl⟩:=I3.loc
      obtain⟨u,r,l⟩:=hl _ x v hN ev' (.inr (.inl (by rw [hsc];exact hcl)))
      refine⟨u,r,.inr ?_⟩
      rcases l with ⟨k1,_⟩ | ⟨k1,c,hcc,o,ho,hd⟩
      · rw [hkind,hcl] at k1;cases k1
      · have e3':(relabel scope X.env).names.lookup x=some .local∨(relabel scope X.env).names.lookup x=some .cell∨(relabel scope X.env).names.lookup x=some .free:=e3
        have nl:(relabel scope X.env).names.lookup x=some .cell∨(relabel scope X.env).names.lookup x=some .free:=by
          rcases e3' with z | z | z
          · exact absurd z (dW hcf)
          · exact .inl z
          · exact .inr z
        obtain⟨c',hc'⟩:=clH x (cG hcell nl)
        have:=clS x c' hc'
        rw [hcc] at this;cases this
        exact⟨nl,c,hc',o,old c o ho,hd⟩
    · obtain⟨v,o,ho,hd⟩:=I3.cell x c (clS x c e)
      exact⟨v,o,old c o ho,hd⟩
  have hst4:tn 0 h₁:=T.keep _ _ _ hst3 fun b _ o e=>old b o e
  have loop:codeAny (model X.prog X.w) X.A (.compLoop (.ListComp elt [⟨tg,iter,ifs,0⟩] scope pos) 0 (.ref it) (.ref D) (compEnvC scope (ia X.env scope.names []) C X.env))
      (compPost (model X.prog X.w) X.A X.xe (some (assign (.Name nm posn) X.env)) (fun _ s'=>wpAny (model X.prog X.w) X.A (pure ()) (fun _ s''=>wpAny (model X.prog X.w) X.A (pure Flow.next) (SP X pins D0) X.xe s'') X.xe s') (.ref D) C) {s₃ with heap:=h₁,toks:=s₃.toks+([]:List (Str × Value)).length}:=by
    refine lZ (fun n s'=>∃i σ' H',aH (aw X scope cp tgN C s₃ (be H2 D (.lst [])) fp) [] σ' H' s'∧tn i s'.heap∧(∀b∈fp,H' b=none)∧W i n σ' H') ?_ (n0:=m0) ⟨0,_,_,I4,hst4,fun b hb=>(f3 b hb).1,w0⟩
    rintro n s5 ⟨i,σ5,H5,I5,st5,fr5,w5⟩
    have stat:∀{H':Hp},(∀b∈fp,H' b=none)→∀b∈fp,iL (aw X scope cp tgN C s₃ (be H2 D (.lst [])) fp) [] H' b:=fun hn b hb=>
      ⟨hn b hb,(ok'.exf b hb).1,ok'.exfs b hb,.inl hb,(ok'.exf b hb).2,fun p hp=>by simp [aw] at hp⟩
    rcases turn i n σ5 H5 w5 with ⟨stop,qn⟩ | ⟨go,N,hN,step⟩
    · refine bU (T.done (aw X scope cp tgN C s₃ (be H2 D (.lst [])) fp) rfl rfl rfl hc i [] s5 σ5 H5 (fun _ _=>False) I5 (stat fr5) st5 stop) fun r s6 ⟨hr,I6⟩=>?_
      subst hr
      refine⟨fun _=>?_,fun v z=>by cases z⟩
      obtain⟨m,hn,_⟩:=I6.loc
      have I7:aH X pins σ H5 s6:=by
        have key:∀h':Heap,Heap.SameBut C s6.heap h'→aH X pins σ H5 {s6 with heap:=h'}:=fun h' sb=>by
          have ub:=I6.base
          have kp:∀b u,b≠C→s6.heap.get? b=some u→h'.get? b=some u:=fun b u ne e=>sb.extBut b u ne e
          have nit:∀b u,H5 b=some u→b≠C:=fun b u e z=>by
            have:=I6.free
            rw [z] at e
            rw [show H5 C=none from this] at e;cases e
          refine I3.call' (s':={s6 with heap:=h'}) (ch:=fp) I6.os ⟨fun b o e n hb hx=>kp b o (nC b o e) (ub.keep b o e n hb hx),fun b o e n hb hx=>?_,ub.free,fun b o e hx=>?_,ub.tups,ub.frzs,ub.tbls⟩ (fun b u e=>?_) I6.bare (fun b hb=>?_)
          · obtain⟨sl,q⟩:=ub.slot b o e n hb hx
            exact⟨sl,kp b _ (nC b o e) q⟩
          · obtain⟨o',q⟩:=ub.there b o e hx
            exact⟨o',kp b _ (nC b o e) q⟩
          · refine(I6.hok b u e).stay (fun c v hc q=>kp c v ?_ q) (fun _ q=>q) fun _ _ q=>q
            rcases hc with z | z
            · rw [z];exact nit b u e
            · exact nit c _ z
          · obtain⟨f0,f1,f4,f5,f6,f7⟩:=f3 b hb
            exact⟨f5,f1,f6,f7⟩
        exact key s6.heap ⟨rfl,fun _ _=>rfl⟩
      have fC:iL X pins H5 C:=I3.fpOk (by rw [hC];exact Nat.le_refl _) I6.free
      show wpAny (model X.prog X.w) X.A (assign (.Name nm posn) X.env (.ref D)) _ X.xe s6
      refine wpAny_assign_Name (nh (v:=.ref D) I7 hNd hix (Or.inl hlc) rfl (fun s' I' hsb=>?_) (Or.inr hlc))
      obtain⟨a,sb,ha⟩:=hsb
      have nCa:C≠a:=by
        rcases ha with z | z
        · rw [z];exact fC.2.1
        · exact fun e=>fC.2.2.2.2.1 _ _ z e.symm
      obtain⟨oN,esN,epN,hoN,rN⟩:=hn
      refine⟨m,⟨oN,esN,epN,(sb.2 C nCa).trans hoN,rN⟩,fun h' sb'=>wpAny_pure (wpAny_pure ?_)⟩
      have I8:aH X pins (σ.set ix (some (.ref D))) H5 {s' with heap:=h',toks:=s'.toks}:=I'.turnedL (t':=s'.toks) (fp:=[C]) (fun b hb=>by rw [List.mem_singleton.mp hb];exact fC) fun b o nb e=>sb'.extBut b o (by simpa using nb) e
      exact⟨_,H5,I8,qn⟩
    · refine bU (T.item (aw X scope cp tgN C s₃ (be H2 D (.lst [])) fp) rfl rfl rfl hc i [] s5 σ5 H5 (fun _ _=>False) I5 (stat fr5) st5 go) fun r s6 ⟨u,hr,h6⟩=>?_
      subst hr
      refine⟨fun z=>(by cases z),fun v z=>?_⟩
      cases z
      refine bU h6 fun _ s7 ⟨x,H7,I7,r7,y7,st7,fr7⟩=>?_
      have I7':=I7.pinned (stat fr7) (T.obj _ _ st7)
      have again:∀{σ8:L2.St} {H8:Hp} {s8:Shared},aH (aw X scope cp tgN C s₃ (be H2 D (.lst [])) fp) ([]++kv fp s7.heap) σ8 H8 s8→N σ8 H8→∃m,m < n∧∃i σ' H',aH (aw X scope cp tgN C s₃ (be H2 D (.lst [])) fp) [] σ' H' s8∧tn i s8.heap∧(∀b∈fp,H' b=none)∧W i m σ' H':=fun{σ8 H8 s8} I8 n8=>by
        obtain⟨m',hm,w8⟩:=hN σ8 H8 n8
        refine⟨m',hm,i+1,σ8,H8,I8.unpinned,T.keep _ _ _ st7 fun b hb o e=>(I8.pin (b,o) (List.mem_append_right _ (List.mem_append_right _ (ce hb e)))).1,fun b hb=>?_,w8⟩
        obtain⟨o,e,d⟩:=T.obj _ _ st7 b hb
        exact(I8.pin (b,o) (List.mem_append_right _ (List.mem_append_right _ (ce hb e)))).2.1
      refine bU (hg C s₃ (be H2 D (.lst [])) fp _ s7 σ5 H7 x u _ I7' r7 (step x H7 y7)) fun _ s8 ⟨σ8,H8,I8,q8⟩=>?_
      refine bU (ht C s₃ (be H2 D (.lst [])) fp _ s8 σ8 H8 _ I8 q8) fun ok s9 ⟨H9,I9,q9⟩=>?_
      cases ok with
      | false=>
        rw [if_neg Bool.false_ne_true] at q9 ⊢
        exact again I9 q9
      | true=>
        rw [if_pos rfl] at q9 ⊢
        refine bU (he C s₃ (be H2 D (.lst [])) fp _ s9 σ8 H9 _ I9 q9) fun v s10 ⟨xv,H10,I10,r10,ys,hl,hz,n10⟩=>?_
        refine bU (i9 _ s10 σ8 H10 (.ref D) [xv] (.ref D) [v] (fun _ H=>N σ8 H) I10 rfl (.cons r10 .nil) ⟨D,ys,xv,rfl,rfl,hl,hz,n10⟩) fun _ s11 ⟨_,H11,I11,_,q11⟩=>?_
        exact again I11 q11
  exact codeAny_compStart_list loop (T.self X.A 0 _ _ _ hst4 loop)
mutual
def DA(K:PySem.W.Frag)(F:Hp):PyData→V→Prop
  | .none,v=>v=.non
  | .bool b,v=>v=.bl b
  | .int i,v=>v=.int i
  | .str x,v=>v=.str x
  | .tuple ds,v=>∃a xs,v=.ref a∧cS K F a xs∧aS K F ds xs
  | .list ds,v=>∃a xs,v=.ref a∧gH K F a xs∧aS K F ds xs
  | .dict kvs,v=>∃(a:Addr) (m:List (Int × Int)),v=.ref a∧F a=some (.dK (m.map fun p=>(Sum.inl p.1,V.int p.2)))∧kvs=m.map fun p=>(PyData.int p.1,PyData.int p.2)
def aS(K:PySem.W.Frag)(F:Hp):List PyData→List V→Prop
  | [],xs=>xs=[]
  | d::ds,xs=>∃x r,xs=x::r∧DA K F d x∧aS K F ds r
end
mutual
theorem DA.mono{K:PySem.W.Frag}{F F':Hp}(h:aD F F'):∀{d:PyData} {v:V},DA K F d v→DA K F' d v
  | .none,_,q=>by simp only [DA] at q ⊢;exact q
  | .bool b,_,q=>by simp only [DA] at q ⊢;exact q
  | .int i,_,q=>by simp only [DA] at q ⊢;exact q
  | .str x,_,q=>by simp only [DA] at q ⊢;exact q
  | .tuple ds,_,q=>by
    simp only [DA] at q ⊢
    obtain⟨a,xs,e,s,r⟩:=q
    exact⟨a,xs,e,h.tup s,aS.mono h r⟩
  | .list ds,_,q=>by
    simp only [DA] at q ⊢
    obtain⟨a,xs,e,s,r⟩:=q
    exact⟨a,xs,e,h.seq s,aS.mono h r⟩
  | .dict _,_,q=>by
    simp only [DA] at q ⊢
    obtain⟨a,m,e,s,k⟩:=q
    exact⟨a,m,e,h _ _ s,k⟩
theorem aS.mono{K:PySem.W.Frag}{F F':Hp}(h:aD F F'):∀{ds:List PyData} {xs:List V},aS K F ds xs→aS K F' ds xs
  | [],_,q=>by simp only [aS] at q ⊢;exact q
  | d::ds,_,q=>by
    simp only [aS] at q ⊢
    obtain⟨x,r,e,a,b⟩:=q
    exact⟨x,r,e,DA.mono h a,aS.mono h b⟩
end
section
variable{K:PySem.W.Frag}{F:Hp}
theorem aS.len:∀{ds:List PyData} {xs:List V},aS K F ds xs→ds.length=xs.length
  | [],_,q=>by simp only [aS] at q;subst q;rfl
  | d::ds,_,q=>by
    simp only [aS] at q
    obtain⟨x,r,e,a,b⟩:=q
    subst e
    simp [aS.len b]
theorem aS.get:∀{ds:List PyData} {xs:List V} {i:Nat} {d:PyData},aS K F ds xs→ds[i]?=some d→∃v,xs[i]?=some v∧DA K F d v
  | [],_,_,_,_,h=>by simp at h
  | d::ds,_,i,d',q,h=>by
    simp only [aS] at q
    obtain⟨x,r,e,a,b⟩:=q
    subst e
    cases i with
    | zero=>simp at h;subst h;exact⟨x,rfl,a⟩
    | succ i=>
      obtain⟨v,h1,h2⟩:=aS.get (i:=i) b (by simpa using h)
      exact⟨v,by simpa using h1,h2⟩
theorem aS.append:∀{ds es:List PyData} {xs ys:List V},aS K F ds xs→aS K F es ys→aS K F (ds++es) (xs++ys)
  | [],_,_,_,q,s=>by simp only [aS] at q;subst q;simpa using s
  | d::ds,es,_,ys,q,s=>by
    simp only [aS] at q
    obtain⟨x,r,e,a,b⟩:=q
    subst e
    simp only [List.cons_append,aS]
    exact⟨x,_,rfl,a,aS.append b s⟩
theorem aS.one{d:PyData}{v:V}(h:DA K F d v):aS K F [d] [v]:=by simp only [aS];exact⟨_,_,rfl,h,rfl⟩
theorem aS.nil:aS K F [] []:=by simp only [aS]
theorem aS.cons{d:PyData}{v:V}{ds:List PyData}{vs:List V}(h:DA K F d v)(r:aS K F ds vs):aS K F (d::ds) (v::vs):=by simp only [aS];exact⟨_,_,rfl,h,r⟩
theorem aS.drop:∀{ds:List PyData} {xs:List V} (n:Nat),aS K F ds xs→aS K F (ds.drop n) (xs.drop n)
  | _,_,0,q=>q
  | [],_,n+1,q=>by simp only [aS] at q;subst q;exact aS.nil
  | d::ds,_,n+1,q=>by
    simp only [aS] at q
    obtain⟨x,r,e,a,b⟩:=q
    subst e
    simpa using aS.drop n b
theorem aS.take:∀{ds:List PyData} {xs:List V} (n:Nat),aS K F ds xs→aS K F (ds.take n) (xs.take n)
  | _,_,0,q=>by simpa using aS.nil
  | [],_,n+1,q=>by simp only [aS] at q;subst q;exact aS.nil
  | d::ds,_,n+1,q=>by
    simp only [aS] at q
    obtain⟨x,r,e,a,b⟩:=q
    subst e
    simpa using aS.cons a (aS.take n b)
theorem aS.set{d:PyData}{v:V}(h:DA K F d v):∀{ds:List PyData} {xs:List V} (n:Nat),aS K F ds xs→aS K F (ds.set n d) (xs.set n v)
  | [],_,_,q=>by simp only [aS] at q;subst q;exact aS.nil
  | e::ds,_,n,q=>by
    simp only [aS] at q
    obtain⟨x,r,e,a,b⟩:=q
    subst e
    cases n with
    | zero=>exact aS.cons h b
    | succ n=>exact aS.cons a (aS.set h n b)
theorem aS.erase:∀{ds:List PyData} {xs:List V} (n:Nat),aS K F ds xs→aS K F (ds.eraseIdx n) (xs.eraseIdx n)
  | [],_,_,q=>by simp only [aS] at q;subst q;exact aS.nil
  | e::ds,_,n,q=>by
    simp only [aS] at q
    obtain⟨x,r,e,a,b⟩:=q
    subst e
    cases n with
    | zero=>exact b
    | succ n=>exact aS.cons a (aS.erase n b)
theorem aS.ints:∀{ns:List Int} {xs:List V},aS K F (ns.map .int) xs↔ xs=ns.map V.int
  | [],xs=>by simp [aS]
  | n::ns,xs=>by
    simp only [List.map_cons,aS,DA]
    constructor
    · rintro⟨x,r,e,rfl,q⟩;rw [e,aS.ints.mp q]
    · rintro rfl;exact⟨_,_,rfl,rfl,aS.ints.mpr rfl⟩
theorem aS.bools:∀{ns:List Bool} {xs:List V},aS K F (ns.map .bool) xs↔ xs=ns.map V.bl
  | [],xs=>by simp [aS]
  | n::ns,xs=>by
    simp only [List.map_cons,aS,DA]
    constructor
    · rintro⟨x,r,e,rfl,q⟩;rw [e,aS.bools.mp q]
    · rintro rfl;exact⟨_,_,rfl,rfl,aS.bools.mpr rfl⟩
theorem bX{i:Int}{v:V}:DA K F (.int i) v↔ v=.int i:=by simp only [DA]
theorem dR{b:Bool}{v:V}:DA K F (.bool b) v↔ v=.bl b:=by simp only [DA]
theorem iA{v:V}:DA K F .none v↔ v=.non:=by simp only [DA]
theorem ye{x:Str}{v:V}:DA K F (.str x) v↔ v=.str x:=by simp only [DA]
theorem dG{ds:List PyData}{v:V}:DA K F (.tuple ds) v↔ ∃a xs,v=.ref a∧cS K F a xs∧aS K F ds xs:=by simp only [DA]
theorem d9{ds:List PyData}{v:V}:DA K F (.list ds) v↔ ∃a xs,v=.ref a∧gH K F a xs∧aS K F ds xs:=by simp only [DA]
end
inductive Sv where
  | d (x:PyData)
  | l (xs:List PyData)
  /-- a list of lists that nobody else holds -/
  | n (xss:List (List PyData))
abbrev En:=List (Option Sv)
inductive Rv where
  | d (x:PyData)
  | l (xs:List PyData)
  | s (i:Nat)
def Fp(σ:L2.St)(e:En)(H:Hp)(i:Nat)(a:Addr):Prop:=(∃xs:List PyData,e[i]?=some (some (Sv.l xs))∧σ[i]?=some (some (.ref a)))∨
  ∃(xss:List (List PyData)) (l:Addr) (bs:List Addr),e[i]?=some (some (Sv.n xss))∧σ[i]?=some (some (.ref l))∧H l=some (.lst (bs.map V.ref))∧(a=l∨a∈bs)
def dn(σ:L2.St)(e:En)(H:Hp)(a:Addr):Prop:=∃i,Fp σ e H i a
structure bh (K:PySem.W.Frag) (F H:Hp) (σ:L2.St) (e:En):Prop where
  sm:aD F H
  len:σ.length=e.length
  dat:∀(i:Nat) (x:PyData),e[i]?=some (some (.d x))→∃v,σ[i]?=some (some v)∧DA K F x v
  own:∀(i:Nat) (xs:List PyData),e[i]?=some (some (.l xs))→∃l vs,σ[i]?=some (some (.ref l))∧F l=none∧H l=some (.lst vs)∧aS K F xs vs
  nst:∀(i:Nat) (xss:List (List PyData)),e[i]?=some (some (.n xss))→∃(l:Addr) (bs:List Addr),σ[i]?=some (some (.ref l))∧F l=none∧H l=some (.lst (bs.map V.ref))∧bs.length=xss.length∧bs.Nodup∧l∉bs∧
    ∀(k:Nat) (b:Addr) (ys:List PyData),bs[k]?=some b→xss[k]?=some ys→F b=none∧∃us,H b=some (.lst us)∧aS K F ys us
  fp:∀(i j:Nat) (a:Addr),Fp σ e H i a→Fp σ e H j a→i=j
theorem bh.inj{K:PySem.W.Frag}{F H:Hp}{σ:L2.St}{e:En}(R:bh K F H σ e)(i j:Nat)(xs ys:List PyData)(l:Addr)(h1:e[i]?=some (some (.l xs)))(h2:e[j]?=some (some (.l ys)))(h3:σ[i]?=some (some (.ref l)))(h4:σ[j]?=some (some (.ref l))):i=j:=R.fp i j l (.inl ⟨xs,h1,h3⟩) (.inl ⟨ys,h2,h4⟩)
theorem bh.fpAt{K:PySem.W.Frag}{F H:Hp}{σ:L2.St}{e:En}(R:bh K F H σ e){i:Nat}{a:Addr}(h:Fp σ e H i a):F a=none∧∃vs,H a=some (.lst vs):=by
  rcases h with ⟨xs,h1,h2⟩ | ⟨xss,l,bs,h1,h2,h3,h4⟩
  · obtain⟨l,vs,g1,g2,g3,_⟩:=R.own i xs h1
    rw [h2] at g1;cases g1
    exact⟨g2,vs,g3⟩
  · obtain⟨l',bs',g1,g2,g3,g4,g5,g6,g7⟩:=R.nst i xss h1
    rw [h2] at g1;cases g1
    rw [h3] at g3
    have e1:bs=bs':=by
      have:=HO.lst.inj (Option.some.inj g3)
      exact List.map_inj_right (fun _ _ z=>V.ref.inj z) |>.mp this
    subst e1
    rcases h4 with rfl | h4
    · exact⟨g2,_,h3⟩
    · obtain⟨k,hk⟩:=List.getElem?_of_mem h4
      have hk2:k < xss.length:=by rw [←g4];exact(KY hk).1
      obtain⟨c1,us,c2,_⟩:=g7 k a xss[k] hk (List.getElem?_eq_getElem hk2)
      exact⟨c1,us,c2⟩
structure eS (σ:L2.St) (F H:Hp) (e:En) (F' H':Hp) (e':En):Prop where
  sf:aD F F'
  dom:∀a,H' a=none→H a=none
  fr:∀a vs,F a=none→H a=some (.lst vs)→¬dn σ e H a→F' a=none
  lst:∀a vs,H a=some (.lst vs)→∃vs',H' a=some (.lst vs')
  tmp:∀a o,H a=some o→¬dn σ e H a→H' a=some o
  shp:∀i:Nat,(∃xs,e'[i]?=some (some (.l xs)))↔ (∃xs,e[i]?=some (some (.l xs)))
  ow:∀a,dn σ e' H' a→dn σ e H a∨H a=none
theorem eS.refl(σ:L2.St)(F H:Hp)(e:En):eS σ F H e F H e:=⟨aD.refl _,fun _ h=>h,fun _ _ h _ _=>h,fun _ vs h=>⟨vs,h⟩,fun _ _ h _=>h,fun _=>Iff.rfl,fun _ h=>.inl h⟩
theorem eS.trans{σ:L2.St}{F H F1 H1 F2 H2:Hp}{e e1 e2:En}(x:eS σ F H e F1 H1 e1)(y:eS σ F1 H1 e1 F2 H2 e2):eS σ F H e F2 H2 e2:=
  ⟨x.sf.trans y.sf,fun a h=>x.dom a (y.dom a h),fun a vs h n no=>let ⟨vs',q⟩:=x.lst a vs n;y.fr a vs' (x.fr a vs h n no) q (fun z=>(x.ow a z).elim no fun z=>by rw [n] at z;cases z),fun a vs h=>let ⟨vs',q⟩:=x.lst a vs h;y.lst a vs' q,
    fun a o h n=>y.tmp a o (x.tmp a o h n) (fun z=>(x.ow a z).elim n fun z=>by rw [h] at z;cases z),fun i=>(y.shp i).trans (x.shp i),fun a h=>(y.ow a h).elim (x.ow a) fun z=>.inr (x.dom a z)⟩
def cU(K:PySem.W.Frag)(σ:L2.St)(H0 F H:Hp)(e:En):Rv→V→Prop
  | .d x,v=>DA K F x v
  | .l xs,v=>∃l vs,v=.ref l∧H0 l=none∧F l=none∧H l=some (.lst vs)∧aS K F xs vs∧¬dn σ e H l
  | .s i,v=>σ[i]?=some (some v)∧∃xs,e[i]?=some (some (.l xs))
section
variable{K:PySem.W.Frag}{σ:L2.St}{H0 F H F' H':Hp}{e e':En}{r:Rv}{v:V}
theorem cU.ext(h:cU K σ H0 F H e r v)(x:eS σ F H e F' H' e'):cU K σ H0 F' H' e' r v:=by
  cases r with
  | d y=>exact DA.mono x.sf h
  | l xs=>
    obtain⟨l,vs,e1,h1,h2,h3,h4,h5⟩:=h
    exact⟨l,vs,e1,h1,x.fr l _ h2 h3 h5,x.tmp l _ h3 h5,aS.mono x.sf h4,fun z=>(x.ow l z).elim h5 fun z=>by rw [h3] at z;cases z⟩
  | s i=>exact⟨h.1,(x.shp i).mpr h.2⟩
theorem cU.weak{H1:Hp}(h:cU K σ H1 F H e r v)(d:∀a,H1 a=none→H0 a=none):cU K σ H0 F H e r v:=by
  cases r with
  | d y=>exact h
  | l xs=>
    obtain⟨l,vs,e1,h1,r⟩:=h
    exact⟨l,vs,e1,d l h1,r⟩
  | s i=>exact h
theorem bh.ownH(R:bh K F H σ e)(a:Addr)(h:dn σ e H a):H a≠none:=by
  obtain⟨i,h⟩:=h
  obtain⟨_,vs,h2⟩:=R.fpAt h
  rw [h2];simp
theorem bh.freeF(R:bh K F H σ e){p:Addr}(hp:H p=none):F p=none:=R.sm.free hp
theorem AG(R:bh K F H σ e)(h:∀l bs,H l=some (.lst bs)→dn σ e H l→H' l=some (.lst bs)){i:Nat}{a:Addr}:Fp σ e H' i a↔ Fp σ e H i a:=by
  have key:∀xss l,e[i]?=some (some (.n xss))→σ[i]?=some (some (.ref l))→H' l=H l:=fun xss l h1 h2=>by
    obtain⟨l',bs,g1,g2,g3,_⟩:=R.nst i xss h1
    rw [h2] at g1;cases g1
    rw [g3]
    exact h l _ g3 ⟨i,.inr ⟨xss,l,bs,h1,h2,g3,.inl rfl⟩⟩
  constructor
  · rintro(h1 | ⟨xss,l,bs,h1,h2,h3,h4⟩)
    · exact .inl h1
    · exact .inr ⟨xss,l,bs,h1,h2,by rw [←key xss l h1 h2];exact h3,h4⟩
  · rintro(h1 | ⟨xss,l,bs,h1,h2,h3,h4⟩)
    · exact .inl h1
    · exact .inr ⟨xss,l,bs,h1,h2,by rw [key xss l h1 h2];exact h3,h4⟩
theorem bh.keep(R:bh K F H σ e)(sF:aD F F')(sm:aD F' H')(hf:∀a,dn σ e H a→F' a=none)(hh:∀a o,dn σ e H a→H a=some o→H' a=some o):bh K F' H' σ e∧∀a,dn σ e H' a↔ dn σ e H a:=by
  have fs:∀{i a},Fp σ e H' i a↔ Fp σ e H i a:=fun{i a}=>AG R fun l bs h1 h2=>hh l _ h2 h1
  refine⟨⟨sm,R.len,fun i x h=>let ⟨v,h1,h2⟩:=R.dat i x h;⟨v,h1,DA.mono sF h2⟩,fun i xs h=>?_,fun i xss h=>?_,fun i j a h1 h2=>R.fp i j a (fs.mp h1) (fs.mp h2)⟩,fun a=>⟨fun⟨i,h⟩=>⟨i,fs.mp h⟩,fun⟨i,h⟩=>⟨i,fs.mpr h⟩⟩⟩
  · obtain⟨l,vs,h1,h2,h3,h4⟩:=R.own i xs h
    have o:dn σ e H l:=⟨i,.inl ⟨xs,h,h1⟩⟩
    exact⟨l,vs,h1,hf l o,hh l _ o h3,h4.mono sF⟩
  · obtain⟨l,bs,h1,h2,h3,h4,h5,h6,h7⟩:=R.nst i xss h
    have o:dn σ e H l:=⟨i,.inr ⟨xss,l,bs,h,h1,h3,.inl rfl⟩⟩
    refine⟨l,bs,h1,hf l o,hh l _ o h3,h4,h5,h6,fun k b ys g1 g2=>?_⟩
    obtain⟨c1,us,c2,c3⟩:=h7 k b ys g1 g2
    have ob:dn σ e H b:=⟨i,.inr ⟨xss,l,bs,h,h1,h3,.inr (K2 g1)⟩⟩
    exact⟨hf b ob,us,hh b _ ob c2,c3.mono sF⟩
theorem bh.same(R:bh K F H σ e)(s:aD H H'):bh K F H' σ e∧eS σ F H e F H' e:=by
  obtain⟨R',o'⟩:=R.keep (aD.refl F) (R.sm.trans s) (fun a ⟨i,h⟩=>(R.fpAt h).1) fun a o _ h=>s a o h
  exact⟨R',⟨aD.refl _,fun a h=>s.free h,fun _ _ h _ _=>h,fun a vs h=>⟨vs,s _ _ h⟩,fun a o h _=>s a o h,fun _=>Iff.rfl,fun a h=>.inl ((o' a).mp h)⟩⟩
theorem bh.freeze(R:bh K F H σ e){p:Addr}{o:HO}(hF:F p=none)(hp:H p=some o)(hn:¬dn σ e H p):bh K (be F p o) H σ e∧aD F (be F p o):=by
  have sF:aD F (be F p o):=aD.new hF
  refine⟨(R.keep sF (fun b u q=>?_) (fun a ha=>?_) fun _ _ _ h=>h).1,sF⟩
  · by_cases z:b=p
    · subst z;rw [ay] at q;cases q;exact hp
    · rw [aG z] at q;exact R.sm _ _ q
  · obtain⟨i,hi⟩:=ha
    have z:a≠p:=fun z=>hn ⟨i,by rw [←z];exact hi⟩
    rw [aG z];exact(R.fpAt hi).1
theorem bh.notOwn(R:bh K F H σ e){p:Addr}{o:HO}(hp:H p=some o)(hl:∀vs,o≠.lst vs):¬dn σ e H p:=fun⟨i,h⟩=>by
  obtain⟨_,vs,g⟩:=R.fpAt h
  rw [hp] at g;cases g
  exact hl _ rfl
theorem bh.newT(R:bh K F H σ e){p:Addr}{vs:List V}(hp:H p=none):bh K (be F p (.tup vs)) (be H p (.tup vs)) σ e∧eS σ F H e (be F p (.tup vs)) (be H p (.tup vs)) e:=by
  have hF:=R.freeF hp
  obtain⟨R1,X1⟩:=R.same (aD.new hp (o:=.tup vs))
  obtain⟨R2,s2⟩:=R1.freeze (p:=p) hF ay (R1.notOwn ay (fun _ z=>nomatch z))
  refine⟨R2,⟨s2,X1.dom,fun a ws h n _=>?_,X1.lst,X1.tmp,X1.shp,X1.ow⟩⟩
  have z:a≠p:=fun z=>by rw [z,hp] at n;cases n
  rw [aG z];exact h
theorem bh.sameOwn(R:bh K F H σ e)(s:aD H H')(a:Addr):dn σ e H' a↔ dn σ e H a:=(R.keep (aD.refl F) (R.sm.trans s) (fun a ⟨i,h⟩=>(R.fpAt h).1) fun a o _ h=>s a o h).2 a
theorem bh.newL(R:bh K F H σ e){p:Addr}{vs:List V}(hp:H p=none):bh K F (be H p (.lst vs)) σ e∧eS σ F H e F (be H p (.lst vs)) e∧F p=none∧¬dn σ e (be H p (.lst vs)) p:=
  ⟨(R.same (aD.new hp)).1,(R.same (aD.new hp)).2,R.freeF hp,fun z=>R.ownH p ((R.sameOwn (aD.new hp) p).mp z) hp⟩
theorem bh.growT(R:bh K F H σ e){p:Addr}{xs:List V}(s:aD H H')(hp:cS K H' p xs):∃F',bh K F' H' σ e∧eS σ F H e F' H' e∧cS K F' p xs:=by
  obtain⟨R1,X1⟩:=R.same s
  rcases hp with hp | hp
  · have key:∀o,H' p=some o→(∀vs,o≠.lst vs)→(∀G:Hp,G p=some o→Rd G p (.tup xs))→∃F',bh K F' H' σ e∧eS σ F H e F' H' e∧cS K F' p xs:=by
      intro o ho hl hr
      cases q:F p with
      | some u=>
        have:=R1.sm _ _ q
        rw [ho] at this;cases this
        exact⟨F,R1,X1,.inl (hr F q)⟩
      | none=>
        obtain⟨R2,s2⟩:=R1.freeze q ho (R1.notOwn ho hl)
        refine⟨_,R2,⟨s2,X1.dom,fun a ws h n _=>?_,X1.lst,X1.tmp,X1.shp,X1.ow⟩,.inl (hr _ ay)⟩
        have z:a≠p:=fun z=>by rw [z] at n;rw [s _ _ n] at ho;cases ho;exact hl _ rfl
        rw [aG z];exact h
    rcases hp with hp | ⟨ob,hp⟩
    · exact key _ hp (fun _ z=>nomatch z) fun G g=>.inl g
    · exact key _ hp (fun _ z=>nomatch z) fun G g=>.inr ⟨ob,g⟩
  · exact⟨F,R1,X1,.inr hp⟩
theorem cU.frozen(R:bh K F H σ e){xs:List PyData}(h:cU K σ H0 F H e (.l xs) v):∃F',bh K F' H σ e∧aD F F'∧DA K F' (.list xs) v∧(∀a,F a=none→H0 a≠none→F' a=none):=by
  obtain⟨l,vs,rfl,h1,h2,h3,h4,h5⟩:=h
  obtain⟨R2,s2⟩:=R.freeze h2 h3 h5
  refine⟨_,R2,s2,?_,fun a ha hn=>?_⟩
  · rw [d9]
    exact⟨l,vs,rfl,.inl (.inl ay),aS.mono s2 h4⟩
  · have z:a≠l:=fun z=>hn (by rw [z];exact h1)
    rw [aG z];exact ha
def eO(e:En):Rv→Option (Bool × List PyData)
  | .d (.tuple xs)=>some (false,xs)
  | .d (.list xs)=>some (true,xs)
  | .l xs=>some (true,xs)
  | .s i=>match e[i]? with
    | some (some (.l xs))=>some (true,xs)
    | _=>none
  | _=>none
theorem dX(R:bh K F H σ e)(h:cU K σ H0 F H e r v){b:Bool}{xs:List PyData}(q:eO e r=some (b,xs)):
    ∃p vs,v=.ref p∧aS K F xs vs∧(if b=true then gH K H p vs else cS K H p vs):=by
  cases r with
  | d x=>
    cases x with
    | tuple ds=>
      cases q
      obtain⟨a,ys,e1,e2,e3⟩:=dG.mp h
      exact⟨a,ys,e1,e3,R.sm.tup e2⟩
    | list ds=>
      cases q
      obtain⟨a,ys,e1,e2,e3⟩:=d9.mp h
      exact⟨a,ys,e1,e3,R.sm.seq e2⟩
    | _=>cases q
  | l ys=>
    cases q
    obtain⟨l,vs,e1,h1,h2,h3,h4,_⟩:=h
    exact⟨l,vs,e1,h4,.inl (.inl h3)⟩
  | s i=>
    obtain⟨h1,ys,h2⟩:=h
    simp only [eO,h2] at q
    cases q
    obtain⟨l,vs,e1,e2,e3,e4⟩:=R.own i _ h2
    rw [h1] at e1;cases e1
    exact⟨l,vs,rfl,e4,.inl (.inl e3)⟩
end
abbrev FE:=En→Option (Rv × En)
abbrev FT:=En→Option (Bool × En)
abbrev FA:=En→Option (List Rv × En)
def dI(K:PySem.W.Frag)(σ:L2.St)(H0 F H:Hp)(e:En):List Rv→List V→Prop
  | [],vs=>vs=[]
  | r::rs,vs=>∃v ws,vs=v::ws∧cU K σ H0 F H e r v∧dI K σ H0 F H e rs ws
def fE(K:PySem.W.Frag)(f:FE):TE:=fun σ H Q=>∃F e r e',bh K F H σ e∧f e=some (r,e')∧∀F' H' v,eS σ F H e F' H' e'→bh K F' H' σ e'→cU K σ H F' H' e' r v→Q v H'
def fT(K:PySem.W.Frag)(f:FT):TT:=fun σ H Q=>∃F e b e',bh K F H σ e∧f e=some (b,e')∧∀F' H',eS σ F H e F' H' e'→bh K F' H' σ e'→Q b H'
def fA(K:PySem.W.Frag)(f:FA):TA:=fun σ H Q=>∃F e rs e',bh K F H σ e∧f e=some (rs,e')∧∀F' H' vs,eS σ F H e F' H' e'→bh K F' H' σ e'→dI K σ H F' H' e' rs vs→Q vs H'
theorem PE.mono{X:Cx}{e:Expr}{t t':TE}(h:PE X e t)(m:∀σ H Q,t' σ H Q→t σ H Q):PE X e t':=fun pins s σ H Q I q=>h pins s σ H Q I (m σ H Q q)
theorem PT.mono{X:Cx}{e:Expr}{t t':TT}(h:PT X e t)(m:∀σ H Q,t' σ H Q→t σ H Q):PT X e t':=fun pins s σ H Q I q=>h pins s σ H Q I (m σ H Q q)
theorem PW.mono{X:Cx}{e:Expr}{t t':TT}(h:PW X e t)(m:∀σ H Q,t' σ H Q→t σ H Q):PW X e t':=fun wh pins s σ H Q I q=>h wh pins s σ H Q I (m σ H Q q)
theorem PA.mono{X:Cx}{es:List Expr}{t t':TA}(h:PA X es t)(m:∀σ H Q,t' σ H Q→t σ H Q):PA X es t':=fun pos pins s σ H Q I q=>h pos pins s σ H Q I (m σ H Q q)
section
variable{K:PySem.W.Frag}{σ:L2.St}{H0 F H F' H':Hp}{e e':En}
theorem dI.weak{H1:Hp}(d:∀a,H1 a=none→H0 a=none):∀{rs:List Rv} {vs:List V},dI K σ H1 F H e rs vs→dI K σ H0 F H e rs vs
  | [],_,h=>h
  | r::rs,_,h=>by
    obtain⟨v,ws,rfl,h1,h2⟩:=h
    exact⟨v,ws,rfl,h1.weak d,dI.weak d h2⟩
theorem eS.frz{F'':Hp}(x:eS σ F H e F' H' e')(s:aD F' F'')(h:∀a,F' a=none→H a≠none→F'' a=none):eS σ F H e F'' H' e':=
  ⟨x.sf.trans s,x.dom,fun a vs h1 h2 h3=>h a (x.fr a vs h1 h2 h3) (by rw [h2];simp),x.lst,x.tmp,x.shp,x.ow⟩
def ib:List Rv→Option (List PyData)
  | []=>some []
  | .d x::rs=>(ib rs).map (x::·)
  | .l xs::rs=>(ib rs).map (.list xs::·)
  | .s _::_=>none
theorem dI.frozen:∀{rs:List Rv} {vs:List V} {ds:List PyData} {F:Hp},bh K F H σ e→dI K σ H0 F H e rs vs→ib rs=some ds→
    ∃F',bh K F' H σ e∧aD F F'∧aS K F' ds vs∧(∀a,F a=none→H0 a≠none→F' a=none)
  | [],_,_,F,R,h,q=>by
    cases q
    have h':_=[]:=h
    subst h'
    exact⟨F,R,aD.refl _,aS.nil,fun _ h _=>h⟩
  | .d x::rs,_,ds,F,R,h,q=>by
    obtain⟨v,ws,rfl,h1,h2⟩:=h
    obtain⟨ds',q1,rfl⟩:=KW q
    obtain⟨F',R',s',d',f'⟩:=dI.frozen R h2 q1
    exact⟨F',R',s',.cons (DA.mono s' h1) d',f'⟩
  | .l xs::rs,_,ds,F,R,h,q=>by
    obtain⟨v,ws,rfl,h1,h2⟩:=h
    obtain⟨ds',q1,rfl⟩:=KW q
    obtain⟨F',R',s',d',f'⟩:=dI.frozen R h2 q1
    obtain⟨l,us,rfl,g1,g2,g3,g4,g5⟩:=h1
    cases hl:F' l with
    | none=>
      have h1':cU K σ H0 F' H e (.l xs) (.ref l):=⟨l,us,rfl,g1,hl,g3,aS.mono s' g4,g5⟩
      obtain⟨F2,R2,s2,d2,f2⟩:=h1'.frozen R'
      exact⟨F2,R2,s'.trans s2,.cons d2 (aS.mono s2 d'),fun a ha hn=>f2 a (f' a ha hn) hn⟩
    | some o=>
      have:=R'.sm _ _ hl
      rw [g3] at this;cases this
      exact⟨F',R',s',.cons (d9.mpr ⟨l,us,rfl,.inl (.inl hl),aS.mono s' g4⟩) d',f'⟩
end
section
variable{X:Cx}{K:PySem.W.Frag}{a b c:Expr}{fa fb:FE}{ft fu:FT}{pos:Pos}{es:List Expr}{fs:FA}
def ab(i:Nat):FE:=fun e=>match e[i]? with
  | some (some (.d x))=>some (.d x,e)
  | some (some (.l _))=>some (.s i,e)
  | _=>none
def vC(x:PyData):FE:=fun e=>some (.d x,e)
theorem B_{i:Nat}{σ:L2.St}{H:Hp}{Q:VK}(h:fE K (ab i) σ H Q):Gu i σ H Q:=by
  obtain⟨F,e,r,e',R,hf,q⟩:=h
  unfold ab at hf
  match h1:e[i]?,hf with
  | some (some (.d x)),hf=>
    cases hf
    obtain⟨v,h2,h3⟩:=R.dat i x h1
    exact⟨v,h2,q F H v (eS.refl _ _ _ _) R h3⟩
  | some (some (.n _)),hf=>cases hf
  | some (some (.l xs)),hf=>
    cases hf
    obtain⟨l,vs,h2,h3⟩:=R.own i xs h1
    exact⟨_,h2,q F H _ (eS.refl _ _ _ _) R ⟨h2,xs,h1⟩⟩
  | some none,hf=>cases hf
  | none,hf=>cases hf
theorem qv(i:Nat){x:Str}{pos:Pos}(hN:X.N[i]?=some x)(hv:Ai X.env.scope x)(hd:(x==("__debug__":Str))=false)(hcd:(x==("__classdict__":Str))=false):PE X (.Name x pos) (fE K (ab i)):=(m4 hN hv hd hcd).mono fun _ _ _ h=>B_ h
theorem zZ{x:PyData}{v:V}{σ:L2.St}{H:Hp}{Q:VK}(hx:∀F,DA K F x v)(h:fE K (vC x) σ H Q):tC v σ H Q:=by
  obtain⟨F,e,r,e',R,hf,q⟩:=h
  cases hf
  exact q F H v (eS.refl _ _ _ _) R (hx F)
theorem ae{i j pos}:PE X (.Constant (.int i) j pos) (fE K (vC (.int i))):=yY.mono fun _ _ _ h=>zZ (fun _=>bX.mpr rfl) h
theorem cc{b j pos}:PE X (.Constant (.bool b) j pos) (fE K (vC (.bool b))):=FK.mono fun _ _ _ h=>zZ (fun _=>dR.mpr rfl) h
theorem mq{x:Str}{v:V}{u:Value}{pos:Pos}{y:PyData}(hg:Gl X x)(hm:X.mg x=some u)(r:bD v u)(hy:∀F,DA K F y v)(hd:(x==("__debug__":Str))=false):PE X (.Name x pos) (fE K (vC y)):=(Bq hg hm r hd).mono fun _ _ _ h=>zZ hy h
def hX(K:PySem.W.Frag)(r:R2)(g:En→Rv→Rv→Option Rv):Prop:=
  ∀(σ:L2.St) (H0 F H:Hp) (e:En) (x y z:Rv) (v u:V) (Q:VK),bh K F H σ e→cU K σ H0 F H e x v→cU K σ H0 F H e y u→g e x y=some z→
    (∀F' H' w,eS σ F H e F' H' e→bh K F' H' σ e→cU K σ H F' H' e z w→Q w H')→r v u H Q
def av(g:En→Rv→Rv→Option Rv)(fa fb:FE):FE:=fun e=>(fa e).bind fun p=>(fb p.2).bind fun q=>(g q.2 p.1 q.1).map fun z=>(z,q.2)
theorem sJ{r:R2}{g:En→Rv→Rv→Option Rv}(ho:hX K r g){σ:L2.St}{H:Hp}{Q:VK}(h:fE K (av g fa fb) σ H Q):Gp r (fE K fa) (fE K fb) σ H Q:=by
  obtain⟨F,e,z,e2,R,hf,q⟩:=h
  unfold av at hf
  obtain⟨⟨x,e1⟩,h1,hf⟩:=KU hf
  obtain⟨⟨y,e2'⟩,h2,hf⟩:=KU hf
  obtain⟨z',h3,hf⟩:=KW hf
  cases hf
  refine⟨F,e,x,e1,R,h1,fun F1 H1 v X1 R1 A1=>⟨F1,e1,y,_,R1,h2,fun F2 H2 u X2 R2 A2=>?_⟩⟩
  have X12:=X1.trans X2
  refine ho σ H F2 H2 _ x y _ v u Q R2 (A1.ext X2) (A2.weak X1.dom) h3 fun F3 H3 w X3 R3 A3=>?_
  exact q F3 H3 w (X12.trans X3) R3 (A3.weak X12.dom)
theorem qV{op:Operator}{r:R2}{g:En→Rv→Rv→Option Rv}(hr:h8 X (binaryOp op) r)(ho:hX K r g)(ha:PE X a (fE K fa))(hb:PE X b (fE K fb)):PE X (.BinOp a op b pos) (fE K (av g fa fb)):=(CF hr ha hb).mono fun _ _ _ h=>sJ ho h
theorem D_{op:CmpOp}{r:R2}{g:En→Rv→Rv→Option Rv}(hr:h8 X (compareOp op) r)(ho:hX K r g)(ha:PE X a (fE K fa))(hb:PE X b (fE K fb))(hm:behindInMarks op b=false):PE X (.Compare a [op] [b] pos) (fE K (av g fa fb)):=(Bo hr ha hb hm).mono fun _ _ _ h=>sJ ho h
theorem FU{r:R2}{g:En→Rv→Rv→Option Rv}(hr:Ag X r)(ho:hX K r g)(ha:PE X a (fE K fa))(hb:PE X b (fE K fb))(hs:oA b):PE X (.Subscript a b pos) (fE K (av g fa fb)):=(CD hr ha hb hs).mono fun _ _ _ h=>sJ ho h
def jS(g:En→Rv→Option Rv)(fa:FE):FE:=fun e=>(fa e).bind fun p=>(g p.2 p.1).map fun z=>(z,p.2)
def EW(K:PySem.W.Frag)(r:V→Hp→VK→Prop)(g:En→Rv→Option Rv):Prop:=
  ∀(σ:L2.St) (H0 F H:Hp) (e:En) (x z:Rv) (v:V) (Q:VK),bh K F H σ e→cU K σ H0 F H e x v→g e x=some z→
    (∀F' H' w,eS σ F H e F' H' e→bh K F' H' σ e→cU K σ H F' H' e z w→Q w H')→r v H Q
theorem z_{r:V→Hp→VK→Prop}{g:En→Rv→Option Rv}(ho:EW K r g){σ:L2.St}{H:Hp}{Q:VK}(h:fE K (jS g fa) σ H Q):Hy r (fE K fa) σ H Q:=by
  obtain⟨F,e,z,e2,R,hf,q⟩:=h
  unfold jS at hf
  obtain⟨⟨x,e1⟩,h1,hf⟩:=KU hf
  obtain⟨z',h3,hf⟩:=KW hf
  cases hf
  refine⟨F,e,x,_,R,h1,fun F1 H1 v X1 R1 A1=>?_⟩
  refine ho σ H F1 H1 _ x _ v Q R1 A1 h3 fun F3 H3 w X3 R3 A3=>?_
  exact q F3 H3 w (X1.trans X3) R3 (A3.weak X1.dom)
theorem FW{op:UnaryOp}{r:V→Hp→VK→Prop}{g:En→Rv→Option Rv}(hr:GE X (unaryOp op) r)(ho:EW K r g)(ha:PE X a (fE K fa)):PE X (.UnaryOp op a pos) (fE K (jS g fa)):=(FN hr ha).mono fun _ _ _ h=>z_ ho h
def cY:Rv→Option Bool
  | .d (.bool b)=>some b
  | _=>none
theorem dq{σ:L2.St}{H0 F H:Hp}{e:En}{r:Rv}{v:V}{b:Bool}(h:cU K σ H0 F H e r v)(q:cY r=some b):v=.bl b:=by
  unfold cY at q
  split at q
  · cases q;exact dR.mp (show DA K F (.bool _) v from h)
  · cases q
theorem dC{σ:L2.St}{H0 F H:Hp}{e:En}{b:Bool}:cU K σ H0 F H e (.d (.bool b)) (.bl b):=(dR (K:=K) (F:=F)).mpr rfl
def ax(f:FE):FT:=fun e=>(f e).bind fun p=>(cY p.1).map fun b=>(b,p.2)
theorem ul{σ:L2.St}{H:Hp}{Q:Bool→Hp→Prop}(h:fT K (ax fa) σ H Q):fE K fa σ H fun x H'=>∃k,x=.bl k∧Q k H':=by
  obtain⟨F,e,b,e1,R,hf,q⟩:=h
  unfold ax at hf
  obtain⟨⟨x,e1'⟩,h1,hf⟩:=KU hf
  obtain⟨b',h3,hf⟩:=KW hf
  cases hf
  exact⟨F,e,x,_,R,h1,fun F1 H1 v X1 R1 A1=>⟨_,dq A1 h3,q F1 H1 X1 R1⟩⟩
theorem Ed{op:CmpOp}{r:R2}{g:En→Rv→Rv→Option Rv}(hr:h8 X (compareOp op) r)(ho:hX K r g)(ha:PE X a (fE K fa))(hb:PE X b (fE K fb))(hm:behindInMarks op b=false):PT X (.Compare a [op] [b] pos) (fT K (ax (av g fa fb))):=
  (BG hr ha hb hm).mono fun σ H Q h=>by
    obtain⟨F,e,z,e2,R,hf,q⟩:=ul h
    exact sJ ho ⟨F,e,z,e2,R,hf,q⟩
theorem cO{e:Expr}(h:PE X e (fE K fa))(he:∀whole,isTrue e X.env whole=(do let v ←whole;standAt e.pos;holding [v] (truthy v))):PT X e (fT K (ax fa)):=(D6 h he).mono fun _ _ _ h=>ul h
def jH(f g:FT):FT:=fun e=>(f e).bind fun p=>if p.1=true then g p.2 else some (false,p.2)
def oQ(f g:FT):FT:=fun e=>(f e).bind fun p=>if p.1=true then some (true,p.2) else g p.2
def gy(f:FT):FT:=fun e=>(f e).map fun p=>(!p.1,p.2)
theorem B7{σ:L2.St}{H:Hp}{Q:Bool→Hp→Prop}(h:fT K (jH ft fu) σ H Q):Gg (fT K ft) (fT K fu) σ H Q:=by
  obtain⟨F,e,b,e1,R,hf,q⟩:=h
  unfold jH at hf
  obtain⟨⟨x,e1'⟩,h1,hf⟩:=KU hf
  refine⟨F,e,x,e1',R,h1,fun F1 H1 X1 R1=>?_⟩
  cases x with
  | true=>exact⟨F1,e1',b,e1,R1,hf,fun F2 H2 X2 R2=>q F2 H2 (X1.trans X2) R2⟩
  | false=>cases hf;exact q F1 H1 X1 R1
theorem EJ{σ:L2.St}{H:Hp}{Q:Bool→Hp→Prop}(h:fT K (oQ ft fu) σ H Q):Hx (fT K ft) (fT K fu) σ H Q:=by
  obtain⟨F,e,b,e1,R,hf,q⟩:=h
  unfold oQ at hf
  obtain⟨⟨x,e1'⟩,h1,hf⟩:=KU hf
  refine⟨F,e,x,e1',R,h1,fun F1 H1 X1 R1=>?_⟩
  cases x with
  | false=>exact⟨F1,e1',b,e1,R1,hf,fun F2 H2 X2 R2=>q F2 H2 (X1.trans X2) R2⟩
  | true=>cases hf;exact q F1 H1 X1 R1
theorem B9{σ:L2.St}{H:Hp}{Q:Bool→Hp→Prop}(h:fT K (gy ft) σ H Q):Gm (fT K ft) σ H Q:=by
  obtain⟨F,e,b,e1,R,hf,q⟩:=h
  unfold gy at hf
  obtain⟨⟨x,e1'⟩,h1,hf⟩:=KW hf
  cases hf
  exact⟨F,e,x,_,R,h1,fun F1 H1 X1 R1=>q F1 H1 X1 R1⟩
variable{gf:List Expr}
theorem oJ(ha:PT X a (fT K ft)):PW X (.BoolOp .And [a] pos) (fT K ft):=BJ ha
theorem jD(ha:PT X a (fT K ft)):PW X (.BoolOp .Or [a] pos) (fT K ft):=D8 ha
theorem pL(ha:PT X a (fT K ft))(hb:PW X (.BoolOp .And (b::gf) pos) (fT K fu)):PW X (.BoolOp .And (a::b::gf) pos) (fT K (jH ft fu)):=(D7 ha hb).mono fun _ _ _ h=>B7 h
theorem kD(ha:PT X a (fT K ft))(hb:PW X (.BoolOp .Or (b::gf) pos) (fT K fu)):PW X (.BoolOp .Or (a::b::gf) pos) (fT K (oQ ft fu)):=(FR ha hb).mono fun _ _ _ h=>EJ h
theorem fg(ha:PT X a (fT K ft)):PT X (.UnaryOp .Not a pos) (fT K (gy ft)):=(D5 ha).mono fun _ _ _ h=>B9 h
theorem m7{e:Expr}(h:PW X e (fT K ft)):PT X e (fT K ft):=h.pt
def eQ(f g:FE):FE:=fun e=>(f e).bind fun p=>(cY p.1).bind fun b=>if b=true then g p.2 else some (.d (.bool false),p.2)
def p6(f g:FE):FE:=fun e=>(f e).bind fun p=>(cY p.1).bind fun b=>if b=true then some (.d (.bool true),p.2) else g p.2
def jR(f:FE):FE:=fun e=>(f e).bind fun p=>(cY p.1).map fun b=>(.d (.bool (!b)),p.2)
theorem jB(ha:PE X a (fE K fa))(hb:PE X (.BoolOp .And (b::gf) pos) (fE K fb)):PE X (.BoolOp .And (a::b::gf) pos) (fE K (eQ fa fb)):=(DQ ha hb).mono fun σ H Q h=>by
  obtain⟨F,e,z,e2,R,hf,q⟩:=h
  unfold eQ at hf
  obtain⟨⟨x,e1⟩,h1,hf⟩:=KU hf
  obtain⟨b,h2,hf⟩:=KU hf
  refine⟨F,e,x,e1,R,h1,fun F1 H1 v X1 R1 A1=>⟨b,dq A1 h2,?_⟩⟩
  cases b with
  | true=>exact⟨F1,e1,z,e2,R1,hf,fun F2 H2 w X2 R2 A2=>q F2 H2 w (X1.trans X2) R2 (A2.weak X1.dom)⟩
  | false=>cases hf;exact q F1 H1 _ X1 R1 dC
theorem FV(ha:PE X a (fE K fa))(hb:PE X (.BoolOp .Or (b::gf) pos) (fE K fb)):PE X (.BoolOp .Or (a::b::gf) pos) (fE K (p6 fa fb)):=(FL ha hb).mono fun σ H Q h=>by
  obtain⟨F,e,z,e2,R,hf,q⟩:=h
  unfold p6 at hf
  obtain⟨⟨x,e1⟩,h1,hf⟩:=KU hf
  obtain⟨b,h2,hf⟩:=KU hf
  refine⟨F,e,x,e1,R,h1,fun F1 H1 v X1 R1 A1=>⟨b,dq A1 h2,?_⟩⟩
  cases b with
  | false=>exact⟨F1,e1,z,e2,R1,hf,fun F2 H2 w X2 R2 A2=>q F2 H2 w (X1.trans X2) R2 (A2.weak X1.dom)⟩
  | true=>cases hf;exact q F1 H1 _ X1 R1 dC
theorem kB{op}(h:PE X a (fE K fa)):PE X (.BoolOp op [a] pos) (fE K fa):=DT h
theorem zl(ha:PE X a (fE K fa)):PE X (.UnaryOp .Not a pos) (fE K (jR fa)):=(DR ha).mono fun σ H Q h=>by
  obtain⟨F,e,z,e2,R,hf,q⟩:=h
  unfold jR at hf
  obtain⟨⟨x,e1⟩,h1,hf⟩:=KU hf
  obtain⟨b,h2,hf⟩:=KW hf
  cases hf
  exact⟨F,e,x,_,R,h1,fun F1 H1 v X1 R1 A1=>⟨b,dq A1 h2,q F1 H1 _ X1 R1 dC⟩⟩
def CU(t:FT)(f g:FE):FE:=fun e=>(t e).bind fun p=>if p.1=true then f p.2 else g p.2
def ir(g g':En→Rv→Rv→Option Rv)(fa fb fc:FE):FE:=fun e=>(fa e).bind fun p=>(fb p.2).bind fun q=>(g q.2 p.1 q.1).bind fun z=>(cY z).bind fun k=>if k=true then(fc q.2).bind fun w=>(g' w.2 q.1 w.1).map fun z'=>(z',w.2) else some (.d (.bool false),q.2)
theorem xH{r r':R2}{g g':En→Rv→Rv→Option Rv}{fc:FE}(ho:hX K r g)(ho':hX K r' g'){σ:L2.St}{H:Hp}{Q:VK}(h:fE K (ir g g' fa fb fc) σ H Q):zJ r r' (fE K fa) (fE K fb) (fE K fc) σ H Q:=by
  obtain⟨F,e,z,e4,R,hf,q⟩:=h
  unfold ir at hf
  obtain⟨⟨x,e1⟩,h1,hf⟩:=KU hf
  obtain⟨⟨y,e2⟩,h2,hf⟩:=KU hf
  obtain⟨z',h3,hf⟩:=KU hf
  obtain⟨k,h4,hf⟩:=KU hf
  refine⟨F,e,x,e1,R,h1,fun F1 H1 v X1 R1 A1=>⟨F1,e1,y,e2,R1,h2,fun F2 H2 u X2 R2 A2=>?_⟩⟩
  have X12:=X1.trans X2
  refine ho σ H F2 H2 e2 x y z' v u _ R2 (A1.ext X2) (A2.weak X1.dom) h3 fun F3 H3 w X3 R3 A3=>⟨k,dq A3 h4,?_⟩
  have X13:=X12.trans X3
  cases k with
  | false=>
    cases hf
    exact q F3 H3 _ X13 R3 dC
  | true=>
    obtain⟨⟨w',e3⟩,h5,hf⟩:=KU hf
    obtain⟨z2,h6,hf⟩:=KW hf
    cases hf
    refine⟨F3,_,w',_,R3,h5,fun F4 H4 u4 X4 R4 A4=>?_⟩
    have X14:=X13.trans X4
    refine ho' σ H F4 H4 _ y w' _ u u4 Q R4 (((A2.weak X1.dom).ext X3).ext X4) (A4.weak X13.dom) h6 fun F5 H5 w5 X5 R5 A5=>?_
    exact q F5 H5 w5 (X14.trans X5) R5 (A5.weak X14.dom)
theorem zi{op op':CmpOp}{r r':R2}{g g':En→Rv→Rv→Option Rv}{fc:FE}(hr:h8 X (compareOp op) r)(ho:hX K r g)(hr':h8 X (compareOp op') r')(ho':hX K r' g')(ha:PE X a (fE K fa))(hb:PE X b (fE K fb))(hc:PE X c (fE K fc))
    (hm:lastMarks [op,op'] [b,c]=false):PE X (.Compare a [op,op'] [b,c] pos) (fE K (ir g g' fa fb fc)):=(yX hr hr' ha hb hc hm).mono fun _ _ _ h=>xH ho ho' h
def ah:FA:=fun e=>some ([],e)
def aa(fa:FE)(fs:FA):FA:=fun e=>(fa e).bind fun p=>(fs p.2).map fun q=>(p.1::q.1,q.2)
theorem ac:PA X [] (fA K ah):=mZ.mono fun σ H Q h=>by
  obtain⟨F,e,r,e',R,hf,q⟩:=h
  cases hf
  exact q F H [] (eS.refl _ _ _ _) R rfl
theorem G_(ha:PE X a (fE K fa))(hr:PA X es (fA K fs))(h:PySem.W.isStarred a=false):PA X (a::es) (fA K (aa fa fs)):=(Bl ha hr h).mono fun σ H Q h=>by
  obtain⟨F,e,z,e2,R,hf,q⟩:=h
  unfold aa at hf
  obtain⟨⟨x,e1⟩,h1,hf⟩:=KU hf
  obtain⟨⟨xs,e2'⟩,h2,hf⟩:=KW hf
  cases hf
  refine⟨F,e,x,e1,R,h1,fun F1 H1 v X1 R1 A1=>⟨F1,e1,xs,_,R1,h2,fun F2 H2 vs X2 R2 A2=>?_⟩⟩
  exact q F2 H2 (v::vs) (X1.trans X2) R2 ⟨v,vs,rfl,A1.ext X2,A2.weak X1.dom⟩
def bj(fs:FA):FE:=fun e=>(fs e).bind fun p=>(ib p.1).bind fun ds=>if ds.length≤1000 then some (.d (.tuple ds),p.2) else none
def dm(fs:FA):FE:=fun e=>(fs e).bind fun p=>(ib p.1).bind fun ds=>if ds.length≤1000 then some (.l ds,p.2) else none
theorem aR{x1}(h:PA X es (fA K fs)):PE X (.Tuple es x1 pos) (fE K (bj fs)):=(DU h).mono fun σ H Q h=>by
  obtain⟨F,e,z,e2,R,hf,q⟩:=h
  unfold bj at hf
  obtain⟨⟨rs,e1⟩,h1,hf⟩:=KU hf
  obtain⟨ds,h2,hf⟩:=KU hf
  split at hf
  case isFalse=>cases hf
  case isTrue hl=>
  cases hf
  refine⟨F,e,rs,_,R,h1,fun F1 H1 vs X1 R1 A1=>?_⟩
  obtain⟨F2,R2,s2,d2,f2⟩:=dI.frozen R1 A1 h2
  have hlen:=d2.len
  refine⟨Nat.le_of_lt (rh (by lia)),fun p hp=>?_⟩
  obtain⟨R3,X3⟩:=R2.newT (vs:=vs) hp
  exact q _ _ _ ((X1.frz s2 f2).trans X3) R3 (dG.mpr ⟨p,vs,rfl,.inl (.inl ay),aS.mono X3.sf d2⟩)
theorem bN(h:PA X es (fA K fs)):PE X (.List es pos) (fE K (dm fs)):=(yZ h).mono fun σ H Q h=>by
  obtain⟨F,e,z,e2,R,hf,q⟩:=h
  unfold dm at hf
  obtain⟨⟨rs,e1⟩,h1,hf⟩:=KU hf
  obtain⟨ds,h2,hf⟩:=KU hf
  split at hf
  case isFalse=>cases hf
  case isTrue hl=>
  cases hf
  refine⟨F,e,rs,_,R,h1,fun F1 H1 vs X1 R1 A1=>?_⟩
  obtain⟨F2,R2,s2,d2,f2⟩:=dI.frozen R1 A1 h2
  have hlen:=d2.len
  refine⟨Nat.le_of_lt (rh (by lia)),fun p hp=>?_⟩
  obtain⟨R3,X3,hF,no⟩:=R2.newL (vs:=vs) hp
  exact q _ _ _ ((X1.frz s2 f2).trans X3) R3 ⟨p,vs,rfl,X1.dom p hp,hF,ay,d2,no⟩
def eR(K:PySem.W.Frag)(r:List V→Hp→VK→Prop)(g:En→List Rv→Option Rv):Prop:=
  ∀(σ:L2.St) (H0 F H:Hp) (e:En) (xs:List Rv) (z:Rv) (vs:List V) (Q:VK),bh K F H σ e→dI K σ H0 F H e xs vs→g e xs=some z→
    (∀F' H' w,eS σ F H e F' H' e→bh K F' H' σ e→cU K σ H F' H' e z w→Q w H')→r vs H Q
def aB(g:En→List Rv→Option Rv)(fs:FA):FE:=fun e=>(fs e).bind fun p=>(g p.2 p.1).map fun z=>(z,p.2)
theorem ui{r:List V→Hp→VK→Prop}{g:En→List Rv→Option Rv}(ho:eR K r g){σ:L2.St}{H:Hp}{Q:VK}(h:fE K (aB g fs) σ H Q):Hc r (fA K fs) σ H Q:=by
  obtain⟨F,e,z,e2,R,hf,q⟩:=h
  unfold aB at hf
  obtain⟨⟨x,e1⟩,h1,hf⟩:=KU hf
  obtain⟨z',h3,hf⟩:=KW hf
  cases hf
  refine⟨F,e,x,_,R,h1,fun F1 H1 vs X1 R1 A1=>?_⟩
  refine ho σ H F1 H1 _ x _ vs Q R1 A1 h3 fun F3 H3 w X3 R3 A3=>?_
  exact q F3 H3 w (X1.trans X3) R3 (A3.weak X1.dom)
theorem zh{x:Str}{p pos:Pos}{id:String}{r:List V→Hp→VK→Prop}{g:En→List Rv→Option Rv}(hc:d_ X (.builtin id) r)(ho:eR K r g)(hg:Gl X x)(hm:X.mg x=none)(hv:bootBuiltins x=some (.builtin id))(ha:PA X (a::es) (fA K fs))(hn:x≠"__name__")(hdb:(x==("__debug__":Str))=false)
    (he:starEach (a::es) X.env=(false,eval a X.env)::starEach es X.env)(hpl:(backTo pos (starEach es X.env)).any (·.1)=false):PE X (.Call (.Name x p) (a::es) [] pos) (fE K (aB g fs)):=(pK hc hg hm hv ha hn hdb he hpl).mono fun _ _ _ h=>ui ho h
theorem xt{x:Str}{p pos:Pos}{T:String}{r:List V→Hp→VK→Prop}{g:En→List Rv→Option Rv}(hc:d_ X (.type T) r)(ho:eR K r g)(hg:Gl X x)(hm:X.mg x=none)(hv:bootBuiltins x=some (.type T))(ha:PA X (a::es) (fA K fs))(hn:x≠"__name__")(hdb:(x==("__debug__":Str))=false)
    (he:starEach (a::es) X.env=(false,eval a X.env)::starEach es X.env)(hpl:(backTo pos (starEach es X.env)).any (·.1)=false):PE X (.Call (.Name x p) (a::es) [] pos) (fE K (aB g fs)):=(xo hc hg hm hv ha hn hdb he hpl).mono fun _ _ _ h=>ui ho h
end
mutual
theorem DA.reads{X:Cx}{pins:List (Addr × Obj)}{σ:L2.St}{H:Hp}{s:Shared}(I:aH X pins σ H s):∀{d:PyData} {v:V} {u:Value},d.canLay0=true→DA X.K H d v→bD v u→∃as,Reads s.heap u d as
  | .none,_,_,_,q,r=>by
    simp only [DA] at q;subst q;cases r;exact⟨_,.none⟩
  | .bool b,_,_,_,q,r=>by
    simp only [DA] at q;subst q;cases r;exact⟨_,.bool b⟩
  | .int i,_,_,_,q,r=>by
    simp only [DA] at q;subst q;obtain⟨t,rfl⟩:=r;exact⟨_,.int i t⟩
  | .str x,_,_,_,q,r=>by
    simp only [DA] at q;subst q;obtain⟨t,rfl⟩:=r;exact⟨_,.str x t⟩
  | .tuple ds,_,_,c,q,r=>by
    simp only [DA] at q
    obtain⟨a,xs,e,hs,rr⟩:=q
    subst e;cases r
    obtain⟨its,rv,⟨o,ho,hc,n,hd⟩,hz⟩:=I.tuple hs
    obtain⟨as,q⟩:=aS.reads I (by simpa [PyData.canLay0] using c) rr rv
    exact⟨_,.tuple ho hc hd q⟩
  | .list ds,_,_,c,q,r=>by
    simp only [DA] at q
    obtain⟨a,xs,e,hs,rr⟩:=q
    subst e;cases r
    obtain⟨its,rv,ht,hz⟩:=I.list hs
    obtain⟨o,ho,hc,n,hd⟩:=ht.isList
    obtain⟨as,q⟩:=aS.reads I (by simpa [PyData.canLay0] using c) rr rv
    exact⟨_,.list ho hc hd q⟩
  | .dict _,_,_,c,_,_=>by simp [PyData.canLay0] at c
theorem aS.reads{X:Cx}{pins:List (Addr × Obj)}{σ:L2.St}{H:Hp}{s:Shared}(I:aH X pins σ H s):∀{ds:List PyData} {xs:List V} {us:List Value},PyData.canLayAll0 ds=true→aS X.K H ds xs→aW xs us→∃as,ReadsAll s.heap us ds as
  | [],_,_,_,q,r=>by
    simp only [aS] at q;subst q;cases r;exact⟨_,.nil⟩
  | d::ds,_,_,c,q,r=>by
    simp only [aS] at q
    simp only [PyData.canLayAll0,Bool.and_eq_true] at c
    obtain⟨x,rr,e,a,b⟩:=q
    subst e
    cases r with
    | cons p p'=>
      obtain⟨as,q1⟩:=DA.reads I c.1 a p
      obtain⟨bs,q2⟩:=aS.reads I c.2 b p'
      exact⟨_,.cons q1 q2⟩
end
def j8(e:En):Rv→Option PyData
  | .d x=>some x
  | .l xs=>some (.list xs)
  | .s i=>match e[i]? with
    | some (some (.l xs))=>some (.list xs)
    | _=>none
theorem j_{K:PySem.W.Frag}{σ:L2.St}{H0 F H:Hp}{e:En}{r:Rv}{v:V}{d:PyData}(R:bh K F H σ e)(h:cU K σ H0 F H e r v)(q:j8 e r=some d):DA K H d v:=by
  cases r with
  | d x=>cases q;exact DA.mono R.sm h
  | l xs=>
    cases q
    obtain⟨l,vs,rfl,h1,h2,h3,h4,_⟩:=h
    exact d9.mpr ⟨l,vs,rfl,.inl (.inl h3),aS.mono R.sm h4⟩
  | s i=>
    obtain⟨h1,ys,h2⟩:=h
    simp only [j8,h2] at q
    cases q
    obtain⟨l,vs,e1,e2,e3,e4⟩:=R.own i _ h2
    rw [h1] at e1;cases e1
    exact d9.mpr ⟨l,vs,rfl,.inl (.inl e3),aS.mono R.sm e4⟩
section
variable{X:Cx}{K:PySem.W.Frag}
def bz:Rv→Option Int
  | .d (.int i)=>some i
  | _=>none
theorem bw{σ:L2.St}{H0 F H:Hp}{e:En}{r:Rv}{v:V}{i:Int}(h:cU K σ H0 F H e r v)(q:bz r=some i):v=.int i:=by
  unfold bz at q
  split at q
  · cases q;exact bX.mp (show DA K F (.int _) v from h)
  · cases q
theorem m8{σ:L2.St}{H0 F H:Hp}{e:En}{i:Int}:cU K σ H0 F H e (.d (.int i)) (.int i):=(bX (K:=K) (F:=F)).mpr rfl
def gI(C:Int→Int→Bool)(f:Int→Int→PyData):En→Rv→Rv→Option Rv:=fun _ x y=>(bz x).bind fun i=>(bz y).bind fun j=>if C i j=true then some (.d (f i j)) else none
theorem tP{C:Int→Int→Prop}{c:Int→Int→Bool}{g:Int→Int→V}{f:Int→Int→PyData}(hc:∀i j,c i j=true→C i j)(hf:∀F i j,DA K F (f i j) (g i j)):hX K (rI C g) (gI c f):=by
  intro σ H0 F H e x y z v u Q R A B hg q
  unfold gI at hg
  obtain⟨i,h1,hg⟩:=KU hg
  obtain⟨j,h2,hg⟩:=KU hg
  split at hg
  case isFalse=>cases hg
  case isTrue hh=>
  cases hg
  exact⟨i,j,bw A h1,bw B h2,hc i j hh,q F H _ (eS.refl _ _ _ _) R (hf F i j)⟩
theorem ku{g:Int→Int→V}{f:Int→Int→PyData}(hf:∀F i j,DA K F (f i j) (g i j)):hX K (ve g) (gI (fun _ _=>true) f):=by
  intro σ H0 F H e x y z v u Q R A B hg q
  obtain⟨i,j,h1,h2,h3,h4⟩:=tP (K:=K) (C:=fun _ _=>True) (c:=fun _ _=>true) (g:=g) (f:=f) (fun _ _ _=>trivial) hf σ H0 F H e x y z v u Q R A B hg q
  exact⟨i,j,h1,h2,h4⟩
def xN(g g':En→Rv→Rv→Option Rv):En→Rv→Rv→Option Rv:=fun e x y=>(g e x y).or (g' e x y)
theorem hX.or{r r':R2}{g g':En→Rv→Rv→Option Rv}(h:hX K r g)(h':hX K r' g'):hX K (fun x y H Q=>r x y H Q∨r' x y H Q) (xN g g'):=by
  intro σ H0 F H e x y z v u Q R A B hg q
  unfold xN at hg
  cases e1:g e x y with
  | some w=>
    rw [e1] at hg
    cases hg
    exact .inl (h σ H0 F H e x y _ v u Q R A B e1 q)
  | none=>
    rw [e1] at hg
    exact .inr (h' σ H0 F H e x y _ v u Q R A B hg q)
def Cu:=gI (fun _ _=>true) fun i j=>.int (i+j)
def gq:=gI (fun _ _=>true) fun i j=>.int (i - j)
def jG(i:Int):Bool:=decide (-(2 ^ 64) < i)&&decide (i < 2 ^ 64)
def E6(n:Nat)(i:Int):Bool:=decide (i.natAbs < 2 ^ n)
theorem lS{n:Nat}{i:Int}:E6 n i=true↔ Bt n i:=by unfold E6 Bt;exact decide_eq_true_iff
def mX(i j:Int):Bool:=jG i || jG j || (E6 4000 i&&E6 4000 j)
def oZ:=gI mX fun i j=>.int (i*j)
def gB:=gI (fun _ j=>j != 0&&E6 8000 j) fun i j=>.int (i.fdiv j)
def aZ:=gI (fun _ j=>j != 0) fun i j=>.int (i.fmod j)
def y_(i j:Int):Bool:=decide (0≤j)&&decide (j≤1000000)&&jG i
def uI:=gI y_ fun i j=>.int (i ^ j.toNat)
theorem lK{i:Int}(h:jG i=true): -(2 ^ 64) < i∧i < 2 ^ 64:=by
  unfold jG at h
  rw [Bool.and_eq_true,decide_eq_true_iff,decide_eq_true_iff] at h
  exact h
theorem BB{i j:Int}(h:y_ i j=true):CZ i j:=by
  unfold y_ at h
  rw [Bool.and_eq_true,Bool.and_eq_true,decide_eq_true_iff,decide_eq_true_iff] at h
  have:=lK h.2
  exact⟨h.1.1,h.1.2,by lia⟩
def vw(i j:Int):Prop:=Ak i j∨Ce i j
theorem Bg:h8 X (binaryOp .Mult) (rI vw fun i j=>.int (i*j)):=by
  intro pins s σ H x y v u Q I rx ry h
  obtain⟨i,j,e1,e2,h1,q⟩:=h
  rcases h1 with h1 | h1
  · exact DK pins s σ H x y v u Q I rx ry ⟨i,j,e1,e2,h1,q⟩
  · exact Bh pins s σ H x y v u Q I rx ry ⟨i,j,e1,e2,h1,q⟩
theorem A7{i j:Int}(h:mX i j=true):vw i j:=by
  unfold mX at h
  rw [Bool.or_eq_true,Bool.or_eq_true,Bool.and_eq_true] at h
  rcases h with (h | h) | h
  · exact .inl (.inl (lK h))
  · exact .inl (.inr (lK h))
  · exact .inr ⟨lS.mp h.1,lS.mp h.2⟩
theorem Dt:hX K (rI vw fun i j=>.int (i*j)) oZ:=tP (fun _ _ h=>A7 h) fun _ _ _=>bX.mpr rfl
theorem Gf:hX K (ve fun i j=>.int (i - j)) gq:=ku fun _ _ _=>bX.mpr rfl
theorem Da:hX K (rI Cd fun i j=>.int (i.fdiv j)) gB:=tP (fun i j h=>by
  rw [Bool.and_eq_true] at h
  exact⟨by simpa using h.1,lS.mp h.2⟩) fun _ _ _=>bX.mpr rfl
theorem Fw:hX K (rI (fun _ j=>j≠0) fun i j=>.int (i.fmod j)) aZ:=tP (fun i j h=>by simpa using h) fun _ _ _=>bX.mpr rfl
theorem FP:hX K (rI CZ fun i j=>.int (i ^ j.toNat)) uI:=tP (fun _ _ h=>BB h) fun _ _ _=>bX.mpr rfl
def vL:En→Rv→Rv→Option Rv:=fun e x y=>match eO e x,eO e y with
  | some (false,xs),some (false,ys)=>if xs.length+ys.length≤1000000 then some (.d (.tuple (xs++ys))) else none
  | _,_=>none
theorem C_:hX K (zo K) vL:=by
  intro σ H0 F H e x y z v u Q R A B hg q
  unfold vL at hg
  match h1:eO e x,h2:eO e y,hg with
  | some (false,xs),some (false,ys),hg=>
    obtain⟨p,vs,rfl,d1,s1⟩:=dX R A h1
    obtain⟨p',us,rfl,d2,s2⟩:=dX R B h2
    dsimp only at hg
    split at hg
    case isFalse=>cases hg
    case isTrue hl=>
    cases hg
    have l1:=d1.len
    have l2:=d2.len
    have sl:sizeLine=16777216:=sizeLine_eq
    refine⟨p,p',vs,us,rfl,rfl,s1,s2,by lia,fun t H' sm hT=>?_⟩
    obtain⟨F',R',X',hF⟩:=R.growT sm hT
    exact q F' H' _ X' R' (dG.mpr ⟨t,_,rfl,hF,(d1.append d2).mono X'.sf⟩)
def wY(e:En):Rv→Option (List PyData)
  | .l xs=>some xs
  | .s i=>match e[i]? with
    | some (some (.l xs))=>some xs
    | _=>none
  | _=>none
theorem rX{σ:L2.St}{H0 F H:Hp}{e:En}{r:Rv}{v:V}(R:bh K F H σ e)(h:cU K σ H0 F H e r v){xs:List PyData}(q:wY e r=some xs):∃p vs,v=.ref p∧F p=none∧H p=some (.lst vs)∧aS K F xs vs:=by
  cases r with
  | d x=>cases q
  | l ys=>
    cases q
    obtain⟨l,vs,e1,h1,h2,h3,h4,_⟩:=h
    exact⟨l,vs,e1,h2,h3,h4⟩
  | s i=>
    obtain⟨h1,ys,h2⟩:=h
    simp only [wY,h2] at q
    cases q
    obtain⟨l,vs,e1,e2,e3,e4⟩:=R.own i _ h2
    rw [h1] at e1;cases e1
    exact⟨l,vs,rfl,e2,e3,e4⟩
def yi:En→Rv→Rv→Option Rv:=fun e x y=>(wY e x).bind fun xs=>(wY e y).bind fun ys=>if xs.length+ys.length≤1000000 then some (.l (xs++ys)) else none
theorem C9:hX K Ee yi:=by
  intro σ H0 F H e x y z v u Q R A B hg q
  unfold yi at hg
  obtain⟨xs,h1,hg⟩:=KU hg
  obtain⟨ys,h2,hg⟩:=KU hg
  split at hg
  case isFalse=>cases hg
  case isTrue hl=>
  cases hg
  obtain⟨p,vs,rfl,f1,s1,d1⟩:=rX R A h1
  obtain⟨p',us,rfl,f2,s2,d2⟩:=rX R B h2
  have l1:=d1.len
  have l2:=d2.len
  have sl:sizeLine=16777216:=sizeLine_eq
  refine⟨p,p',vs,us,rfl,rfl,s1,s2,by lia,fun t ht=>?_⟩
  obtain⟨R3,X3,hF,no⟩:=R.newL (vs:=vs++us) ht
  exact q _ _ _ X3 R3 ⟨t,_,rfl,ht,hF,ay,d1.append d2,no⟩
def bu:En→Rv→Rv→Option Rv:=xN Cu (xN vL yi)
def CJ(K:PySem.W.Frag):R2:=fun x y H Q=>ve (fun i j=>.int (i+j)) x y H Q∨(zo K x y H Q∨Ee x y H Q)
theorem Bb:h8 X (binaryOp .Add) (CJ X.K):=yQ.or (Bc.or DC)
theorem EY:hX K (CJ K) bu:=hX.or (ku fun _ _ _=>bX.mpr rfl) (hX.or C_ C9)
def o6:En→Rv→Rv→Option Rv:=fun e x y=>match eO e x,bz y with
  | some (false,[d]),some k=>if 0≤k∧k≤100000 then some (.d (.tuple (List.replicate k.toNat d))) else none
  | _,_=>none
theorem aS.rep{F:Hp}{d:PyData}{v:V}(h:DA K F d v):∀n,aS K F (List.replicate n d) (List.replicate n v)
  | 0=>aS.nil
  | n+1=>aS.cons h (aS.rep h n)
theorem Ek:hX K (zq K) o6:=by
  intro σ H0 F H e x y z v u Q R A B hg q
  unfold o6 at hg
  match h1:eO e x,h2:bz y,hg with
  | some (false,[d]),some k,hg=>
    obtain⟨p,vs,rfl,d1,s1⟩:=dX R A h1
    dsimp only at hg
    split at hg
    case isFalse=>cases hg
    case isTrue hl=>
    cases hg
    have hd:=d1
    simp only [aS] at hd
    obtain⟨w,r,e1,hw,e2⟩:=hd
    subst e2 e1
    refine⟨p,k,w,rfl,bw B h2,s1,hl.1,hl.2,fun t H' sm hT=>?_⟩
    obtain⟨F',R',X',hF⟩:=R.growT sm hT
    exact q F' H' _ X' R' (dG.mpr ⟨t,_,rfl,hF,(aS.rep hw _).mono X'.sf⟩)
def tG:En→Rv→Rv→Option Rv:=fun e x y=>(wY e x).bind fun xs=>(bz y).bind fun k=>if -100000≤k∧k≤100000∧xs.length*k.toNat≤1000000 then some (.l (List.replicate k.toNat xs).flatten) else none
theorem aS.reps{F:Hp}{ds:List PyData}{vs:List V}(h:aS K F ds vs):∀n,aS K F (List.replicate n ds).flatten (List.replicate n vs).flatten
  | 0=>aS.nil
  | n+1=>by simpa [List.replicate_succ] using aS.append h (aS.reps h n)
theorem Ej:hX K Ei tG:=by
  intro σ H0 F H e x y z v u Q R A B hg q
  unfold tG at hg
  obtain⟨xs,h1,hg⟩:=KU hg
  obtain⟨k,h2,hg⟩:=KU hg
  split at hg
  case isFalse=>cases hg
  case isTrue hl=>
  cases hg
  obtain⟨p,vs,rfl,f1,s1,d1⟩:=rX R A h1
  have l1:=d1.len
  have sl:sizeLine=16777216:=sizeLine_eq
  refine⟨p,k,vs,rfl,bw B h2,s1,by lia,by lia,by rw [←l1];lia,fun t ht=>?_⟩
  obtain⟨R3,X3,hF,no⟩:=R.newL (vs:=(List.replicate k.toNat vs).flatten) ht
  exact q _ _ _ X3 R3 ⟨t,_,rfl,ht,hF,ay,aS.reps d1 _,no⟩
def gu:En→Rv→Rv→Option Rv:=xN oZ (xN o6 tG)
def CK(K:PySem.W.Frag):R2:=fun x y H Q=>rI vw (fun i j=>.int (i*j)) x y H Q∨(zq K x y H Q∨Ei x y H Q)
theorem Bf:h8 X (binaryOp .Mult) (CK X.K):=Bg.or (Bj.or DO)
theorem Fx:hX K (CK K) gu:=hX.or Dt (hX.or Ek Ej)
def tD:=gI (fun _ _=>true) fun i j=>.bool (decide (i < j))
def AJ:=gI (fun _ _=>true) fun i j=>.bool (decide (i≤j))
def Cv:=gI (fun _ _=>true) fun i j=>.bool (decide (j < i))
def uH:=gI (fun _ _=>true) fun i j=>.bool (decide (j≤i))
theorem G7:hX K (ve fun i j=>.bl (decide (i < j))) tD:=ku fun _ _ _=>dR.mpr rfl
theorem G5:hX K (ve fun i j=>.bl (decide (i≤j))) AJ:=ku fun _ _ _=>dR.mpr rfl
theorem GW:hX K (ve fun i j=>.bl (decide (j < i))) Cv:=ku fun _ _ _=>dR.mpr rfl
theorem GV:hX K (ve fun i j=>.bl (decide (j≤i))) uH:=ku fun _ _ _=>dR.mpr rfl
def Ef(K:PySem.W.Frag)(neg:Bool):R2:=fun x y H Q=>∃a b,DA K H a x∧DA K H b y∧SeqAt.shaped a=true∧SeqAt.shaped b=true∧Q (.bl (if neg then !PyData.eqv a b else PyData.eqv a b)) H
theorem DD{k:Nat}(hr:eA k X.A):h8 X (compareOp .Eq) (Ef X.K false):=by
  intro pins s σ H x y v u Q I rx ry h
  obtain⟨a,b,ha,hb,s1,s2,q⟩:=h
  obtain⟨as,ra⟩:=DA.reads I (SeqAt.canLay_of_shaped s1) ha rx
  obtain⟨bs,rb⟩:=DA.reads I (SeqAt.canLay_of_shaped s2) hb ry
  exact SeqAt.compareEq_shaped ra rb s1 s2 hr.units ⟨.bl _,H,I,rfl,q⟩
theorem DL{k:Nat}(hr:eA k X.A):h8 X (compareOp .NotEq) (Ef X.K true):=by
  intro pins s σ H x y v u Q I rx ry h
  obtain⟨a,b,ha,hb,s1,s2,q⟩:=h
  obtain⟨as,ra⟩:=DA.reads I (SeqAt.canLay_of_shaped s1) ha rx
  obtain⟨bs,rb⟩:=DA.reads I (SeqAt.canLay_of_shaped s2) hb ry
  exact SeqAt.compareNe_shaped ra rb s1 s2 hr.units ⟨.bl _,H,I,rfl,q⟩
def bv(neg:Bool):En→Rv→Rv→Option Rv:=fun e x y=>(j8 e x).bind fun a=>(j8 e y).bind fun b=>if (SeqAt.shaped a&&SeqAt.shaped b)=true then some (.d (.bool (if neg then !PyData.eqv a b else PyData.eqv a b))) else none
theorem Cs{neg:Bool}:hX K (Ef K neg) (bv neg):=by
  intro σ H0 F H e x y z v u Q R A B hg q
  unfold bv at hg
  obtain⟨a,h1,hg⟩:=KU hg
  obtain⟨b,h2,hg⟩:=KU hg
  split at hg
  case isFalse=>cases hg
  case isTrue hl=>
  cases hg
  rw [Bool.and_eq_true] at hl
  exact⟨a,b,j_ R A h1,j_ R B h2,hl.1,hl.2,q F H _ (eS.refl _ _ _ _) R dC⟩
def Eg(K:PySem.W.Frag)(neg:Bool):R2:=fun x y H Q=>∃a xs,DA K H a x∧(DA K H (.list xs) y∨DA K H (.tuple xs) y)∧a.canLay0=true∧a.depth≤60∧PyData.canLayAll0 xs=true∧Q (.bl (if neg then !(xs.any fun y=>PyData.eqv y a) else xs.any fun y=>PyData.eqv y a)) H
theorem DE{k:Nat}(hr:eA k X.A):h8 X (compareOp .In) (Eg X.K false):=by
  intro pins s σ H x y v u Q I rx ry h
  obtain⟨a,xs,ha,hb,s1,s2,s3,q⟩:=h
  obtain⟨as,ra⟩:=DA.reads I s1 ha rx
  have hu:=hr.units
  rcases hb with hb | hb
  · obtain⟨bs,rb⟩:=DA.reads I (by simpa [PyData.canLay0] using s3) hb ry
    exact PySem.SeqAt.in_list_reads rb ra s3 s1 (by lia) ⟨.bl _,H,I,rfl,q⟩
  · obtain⟨bs,rb⟩:=DA.reads I (by simpa [PyData.canLay0] using s3) hb ry
    exact PySem.SeqAt.in_tuple_reads rb ra s3 s1 (by lia) ⟨.bl _,H,I,rfl,q⟩
theorem xm{k:Nat}(hr:eA k X.A):h8 X (compareOp .NotIn) (Eg X.K true):=by
  intro pins s σ H x y v u Q I rx ry h
  obtain⟨a,xs,ha,hb,s1,s2,s3,q⟩:=h
  obtain⟨as,ra⟩:=DA.reads I s1 ha rx
  have hu:=hr.units
  rcases hb with hb | hb
  · obtain⟨bs,rb⟩:=DA.reads I (by simpa [PyData.canLay0] using s3) hb ry
    exact PySem.SeqAt.notIn_list_reads rb ra s3 s1 (by lia) ⟨.bl _,H,I,rfl,q⟩
  · obtain⟨bs,rb⟩:=DA.reads I (by simpa [PyData.canLay0] using s3) hb ry
    exact PySem.SeqAt.notIn_tuple_reads rb ra s3 s1 (by lia) ⟨.bl _,H,I,rfl,q⟩
def wH(neg:Bool):En→Rv→Rv→Option Rv:=fun e x y=>(j8 e x).bind fun a=>(eO e y).bind fun p=>if (a.canLay0&&decide (a.depth≤60)&&PyData.canLayAll0 p.2)=true then some (.d (.bool (if neg then !(p.2.any fun y=>PyData.eqv y a) else p.2.any fun y=>PyData.eqv y a))) else none
theorem Fj{neg:Bool}:hX K (Eg K neg) (wH neg):=by
  intro σ H0 F H e x y z v u Q R A B hg q
  unfold wH at hg
  obtain⟨a,h1,hg⟩:=KU hg
  obtain⟨⟨b,xs⟩,h2,hg⟩:=KU hg
  split at hg
  case isFalse=>cases hg
  case isTrue hl=>
  cases hg
  rw [Bool.and_eq_true,Bool.and_eq_true,decide_eq_true_iff] at hl
  obtain⟨p,vs,rfl,d1,s1⟩:=dX R B h2
  refine⟨a,xs,j_ R A h1,?_,hl.1.1,hl.1.2,hl.2,q F H _ (eS.refl _ _ _ _) R dC⟩
  cases b with
  | true=>exact .inl (d9.mpr ⟨p,vs,rfl,s1,d1.mono R.sm⟩)
  | false=>exact .inr (dG.mpr ⟨p,vs,rfl,s1,d1.mono R.sm⟩)
def rT:PyData→Bool
  | .none=>true
  | _=>false
theorem qF{F:Hp}{d:PyData}{v:V}(h:DA K F d v):decide (v=.non)=rT d:=by
  cases d with
  | none=>rw [iA.mp h];rfl
  | bool b=>rw [dR.mp h];rfl
  | int b=>rw [bX.mp h];rfl
  | str b=>rw [ye.mp h];rfl
  | tuple b=>obtain⟨a,_,e,_⟩:=dG.mp h;rw [e];rfl
  | list b=>obtain⟨a,_,e,_⟩:=d9.mp h;rw [e];rfl
  | dict b=>simp only [DA] at h;obtain⟨a,m,rfl,_⟩:=h;rfl
def wL(neg:Bool):En→Rv→Rv→Option Rv:=fun e x y=>(j8 e x).bind fun a=>match y with
  | .d .none=>some (.d (.bool (if neg then !rT a else rT a)))
  | _=>none
def wK(neg:Bool):En→Rv→Rv→Option Rv:=fun e x y=>(cY x).bind fun a=>(cY y).bind fun b=>some (.d (.bool (if neg then !(a==b) else a==b)))
theorem Fn:hX K (fun x y H Q=>y=.non∧Q (.bl (decide (x=.non))) H) (wL false):=by
  intro σ H0 F H e x y z v u Q R A B hg q
  unfold wL at hg
  obtain⟨a,h1,hg⟩:=KU hg
  split at hg
  · cases hg
    refine⟨iA.mp (show DA K F .none u from B),?_⟩
    rw [qF (j_ R A h1)]
    exact q F H _ (eS.refl _ _ _ _) R dC
  · cases hg
theorem Dv:hX K (fun x y H Q=>y=.non∧Q (.bl (!decide (x=.non))) H) (wL true):=by
  intro σ H0 F H e x y z v u Q R A B hg q
  unfold wL at hg
  obtain⟨a,h1,hg⟩:=KU hg
  split at hg
  · cases hg
    refine⟨iA.mp (show DA K F .none u from B),?_⟩
    rw [qF (j_ R A h1)]
    exact q F H _ (eS.refl _ _ _ _) R dC
  · cases hg
theorem Fm:hX K (fun x y H Q=>∃b c,x=.bl b∧y=.bl c∧Q (.bl (b==c)) H) (wK false):=by
  intro σ H0 F H e x y z v u Q R A B hg q
  unfold wK at hg
  obtain⟨a,h1,hg⟩:=KU hg
  obtain⟨b,h2,hg⟩:=KU hg
  cases hg
  exact⟨a,b,dq A h1,dq B h2,q F H _ (eS.refl _ _ _ _) R dC⟩
theorem yq:hX K (fun x y H Q=>∃b c,x=.bl b∧y=.bl c∧Q (.bl (!(b==c))) H) (wK true):=by
  intro σ H0 F H e x y z v u Q R A B hg q
  unfold wK at hg
  obtain⟨a,h1,hg⟩:=KU hg
  obtain⟨b,h2,hg⟩:=KU hg
  cases hg
  exact⟨a,b,dq A h1,dq B h2,q F H _ (eS.refl _ _ _ _) R dC⟩
def Fd:En→Rv→Rv→Option Rv:=xN (wL false) (wK false)
def oY:En→Rv→Rv→Option Rv:=xN (wL true) (wK true)
def FZ:R2:=fun x y H Q=>(y=.non∧Q (.bl (decide (x=.non))) H)∨∃b c,x=.bl b∧y=.bl c∧Q (.bl (b==c)) H
def wc:R2:=fun x y H Q=>(y=.non∧Q (.bl (!decide (x=.non))) H)∨∃b c,x=.bl b∧y=.bl c∧Q (.bl (!(b==c))) H
theorem DF:h8 X (compareOp .Is) FZ:=DH.or DG
theorem xk:h8 X (compareOp .IsNot) wc:=Bi.or xl
theorem G1:hX K FZ Fd:=hX.or Fn Fm
theorem AL:hX K wc oY:=hX.or Dv yq
def dU:En→Rv→Rv→Option Rv:=fun e x y=>(eO e x).bind fun p=>(bz y).bind fun i=>(atI p.2 i).map .d
def F8(K:PySem.W.Frag):R2:=fun x y H Q=>Eh K x y H Q∨F_ K x y H Q
theorem G2:Ag X (F8 X.K):=vU.or Dh
theorem aS.atI{F:Hp}{ds:List PyData}{vs:List V}(h:aS K F ds vs){i:Int}{d:PyData}(q:atI ds i=some d):∃v,L2.atI vs i=some v∧DA K F d v:=by
  unfold L2.atI at q ⊢
  obtain⟨j,h1,h2⟩:=KU q
  obtain⟨v,h3,h4⟩:=h.get h2
  exact⟨v,by rw [←h.len,h1];exact h3,h4⟩
theorem G3:hX K (F8 K) dU:=by
  intro σ H0 F H e x y z v u Q R A B hg q
  unfold dU at hg
  obtain⟨⟨b,xs⟩,h1,hg⟩:=KU hg
  obtain⟨i,h2,hg⟩:=KU hg
  obtain⟨d,h3,hg⟩:=KW hg
  cases hg
  obtain⟨p,vs,rfl,d1,s1⟩:=dX R A h1
  obtain⟨w,h4,h5⟩:=d1.atI h3
  have fin:=q F H w (eS.refl _ _ _ _) R h5
  cases b with
  | true=>exact .inl ⟨p,vs,i,w,rfl,bw B h2,s1,h4,fin⟩
  | false=>exact .inr ⟨p,vs,i,w,rfl,bw B h2,s1,h4,fin⟩
end
end L2
namespace HT
open PySem PySem.Spec PyProof.Rows
section
variable{prog:Program}{w:World}{A:Around}{E:Value→Shared→Prop}{s:Shared}
theorem getItem_tuple_all{t sl:Addr}{items:Array Value}{vl vu:Value}{lo hi:Option Int}{Q:Value→Shared→Prop}(ht:IsTup s.heap t items)(hs:s.heap.IsSliceOf sl vl vu .none)(pl:IsPart vl lo)(pu:IsPart vu hi)
    (hw:sIx items.size 0 lo=0∧sIx items.size items.size hi=items.size)
    (h:Q (.ref t) s):wpAny (model prog w) A (getItem (.ref t) (.ref sl)) Q E s:=by
  obtain⟨os,hos,hcs,hds⟩:=id hs
  have hTs:s.TypeIs (.ref sl) "slice":=⟨os,hos,hcs⟩
  unfold getItem
  try with_reducible refine wpAny_holding ?_
  first | refine wpAny_bind (wpAny_pure ?_) | skip
  refine wpAny_bind (wpAny_sequenceKey ht.typeIs (by decide) ?_)
  refine wpAny_bind (wpAny_callSpecial?_slot (name:=Str.ofString "__getitem__") ht.typeIs PyProof.Rows.slot_tuple_getitem
    (wpAny_call_entry PyProof.Rows.slot_tuple_getitem ht.typeIs entry_tuple_getitem ?_ (args_tuple_getitem _ _)))
  show wpAny _ _ (Builtin.Tuple.tupleItemsOf (.ref t) >>= _) _ _ s
  refine wpAny_bind (tupleItemsOf_ ht ?_)
  refine wpAny_bind (wpAny_typeOf hTs ?_)
  rw [if_pos (by decide)]
  refine wpAny_bind (jf hs pl pu ?_)
  have hno:(((sIx items.size 0 lo:Nat):Int)==0&&(1:Int)==1&&(sIx items.size items.size hi - sIx items.size 0 lo)==items.size)=true:=by
    rw [hw.1,hw.2];simp
  show wpAny _ _ (if (((sIx items.size 0 lo:Nat):Int)==0&&(1:Int)==1&&(sIx items.size items.size hi - sIx items.size 0 lo)==items.size)=true then _ else _) _ _ s
  rw [if_pos hno]
  unfold Builtin.Tuple.tupleIsExact
  refine wpAny_bind (wpAny_bind (wpAny_typeOf ht.typeIs (wpAny_pure ?_)))
  rw [if_pos (by decide)]
  exact wpAny_bind (wpAny_rule (wpAny_pure ⟨_,rfl,wpAny_pure h⟩))
end
end HT
namespace L2
open PySem PySem.Spec PyProof.Rows
section
variable{X:Cx}{K:PySem.W.Frag}{a:Expr}{fa:FE}{lo hi:Option Expr}{pos p2:Pos}
def cutD(xs:List PyData)(lo hi:Option Int):List PyData:=(xs.drop (HT.sIx xs.length 0 lo)).take (HT.sIx xs.length xs.length hi - HT.sIx xs.length 0 lo)
def Gd(K:PySem.W.Frag):V→Option Int→Option Int→Hp→VK→Prop:=fun x lo hi H Q=>∃a xs,x=.ref a∧cS K H a xs∧
  (HT.sIx xs.length 0 lo=0∧HT.sIx xs.length xs.length hi=xs.length)∧Q (.ref a) H
theorem BS:Ap X (Gd X.K):=by
  intro pins s σ H x v vl vu lo hi sl Q I rx hs pl pu h
  obtain⟨a,xs,rfl,hx,hw,q⟩:=h
  cases rx
  obtain⟨its,r,ht,hz⟩:=I.tuple hx
  have hlen:its.toArray.size=xs.length:=by rw [List.size_toArray];exact r.length.symm
  refine⟨"tuple",_,PyProof.Rows.slot_tuple_getitem.lookup,ht.typeIs,?_⟩
  exact HT.getItem_tuple_all ht hs pl pu (by rw [hlen];exact hw) ⟨.ref a,H,I,rfl,q⟩
def G'(K:PySem.W.Frag):V→Option Int→Option Int→Hp→VK→Prop:=fun x lo hi H Q=>Gc K x lo hi H Q∨(Gd K x lo hi H Q∨Gb K x lo hi H Q)
theorem Hb:Ap X (G' X.K):=Es.or (BS.or BR)
abbrev FO:=En→Option (Option Int × En)
def fO(K:PySem.W.Frag)(f:FO):TO:=fun σ H Q=>∃F e o e',bh K F H σ e∧f e=some (o,e')∧∀F' H',eS σ F H e F' H' e'→bh K F' H' σ e'→Q o H'
theorem PO.mono{e:Option Expr}{t t':TO}(h:PO X e t)(m:∀σ H Q,t' σ H Q→t σ H Q):PO X e t':=fun pins s σ H Q I q=>h pins s σ H Q I (m σ H Q q)
def bM:FO:=fun e=>some (none,e)
def bI(f:FE):FO:=fun e=>(f e).bind fun p=>(bz p.1).map fun i=>(some i,p.2)
theorem bQ:PO X none (fO K bM):=By.mono fun σ H Q h=>by
  obtain⟨F,e,o,e',R,hf,q⟩:=h
  cases hf
  exact q F H (eS.refl _ _ _ _) R
theorem bR(h:PE X a (fE K fa)):PO X (some a) (fO K (bI fa)):=(Bz h).mono fun σ H Q h=>by
  obtain⟨F,e,o,e',R,hf,q⟩:=h
  unfold bI at hf
  obtain⟨⟨x,e1⟩,h1,hf⟩:=KU hf
  obtain⟨i,h2,hf⟩:=KW hf
  cases hf
  exact⟨F,e,x,_,R,h1,fun F1 H1 v X1 R1 A1=>⟨i,bw A1 h2,q F1 H1 X1 R1⟩⟩
def AK(e:En)(x:Rv)(lo hi:Option Int):Option Rv:=(eO e x).map fun p=>if p.1=true then .l (cutD p.2 lo hi) else .d (.tuple (cutD p.2 lo hi))
def li(fa:FE)(fl fh:FO):FE:=fun e=>(fa e).bind fun p=>(fl p.2).bind fun l=>(fh l.2).bind fun h=>(AK h.2 p.1 l.1 h.1).map fun z=>(z,h.2)
theorem yd{F:Hp}{ds:List PyData}{vs:List V}(h:aS K F ds vs)(lo hi:Option Int):aS K F (cutD ds lo hi) (qa vs lo hi):=by
  unfold cutD qa
  rw [h.len]
  exact(h.drop _).take _
theorem AB{α:Type}{xs:List α}{lo hi:Option Int}(h:HT.sIx xs.length 0 lo=0∧HT.sIx xs.length xs.length hi=xs.length):(xs.drop (HT.sIx xs.length 0 lo)).take (HT.sIx xs.length xs.length hi - HT.sIx xs.length 0 lo)=xs:=by
  rw [h.1,h.2];simp
theorem zm{fl fh:FO}(he:PE X a (fE X.K fa))(hl:PO X lo (fO X.K fl))(hh:PO X hi (fO X.K fh)):PE X (.Subscript a (.Slice lo hi none p2) pos) (fE X.K (li fa fl fh)):=(y0 Hb he hl hh).mono fun σ H Q h=>by
  obtain⟨F,e,z,e',R,hf,q⟩:=h
  unfold li at hf
  obtain⟨⟨x,e1⟩,h1,hf⟩:=KU hf
  obtain⟨⟨l,e2⟩,h2,hf⟩:=KU hf
  obtain⟨⟨u,e3⟩,h3,hf⟩:=KU hf
  obtain⟨z',h4,hf⟩:=KW hf
  cases hf
  refine⟨F,e,x,e1,R,h1,fun F1 H1 v X1 R1 A1=>⟨F1,e1,l,e2,R1,h2,fun F2 H2 X2 R2=>⟨F2,e2,u,_,R2,h3,fun F3 H3 X3 R3=>?_⟩⟩⟩
  have X12:=X1.trans X2
  have X13:=X12.trans X3
  have A3:=(A1.ext X2).ext X3
  unfold AK at h4
  obtain⟨⟨b,xs⟩,h5,h4⟩:=KW h4
  obtain⟨p,vs,rfl,d1,s1⟩:=dX R3 A3 h5
  cases b with
  | true=>
    rw [if_pos rfl] at h4;cases h4
    refine .inr (.inr ⟨p,vs,rfl,s1,fun t ht=>?_⟩)
    obtain⟨R4,X4,hF,no⟩:=R3.newL (vs:=qa vs l u) ht
    exact q _ _ _ (X13.trans X4) R4 ⟨t,_,rfl,X13.dom _ ht,hF,ay,yd d1 l u,no⟩
  | false=>
    rw [if_neg (by simp)] at h4;cases h4
    by_cases hw:HT.sIx vs.length 0 l=0∧HT.sIx vs.length vs.length u=vs.length
    · refine .inr (.inl ⟨p,vs,rfl,s1,hw,?_⟩)
      have e5:cutD xs l u=xs:=by unfold cutD;exact AB (by rw [d1.len];exact hw)
      rw [e5] at q
      obtain⟨F4,R4,X4,hF⟩:=R3.growT (aD.refl _) s1
      exact q _ _ _ (X13.trans X4) R4 (dG.mpr ⟨p,vs,rfl,hF,d1.mono X4.sf⟩)
    · refine .inl ⟨p,vs,rfl,s1,hw,fun t ht=>?_⟩
      obtain⟨R4,X4⟩:=R3.newT (vs:=qa vs l u) ht
      exact q _ _ _ (X13.trans X4) R4 (dG.mpr ⟨t,_,rfl,.inl (.inl ay),(yd d1 l u).mono X4.sf⟩)
end
section
variable{X:Cx}{K:PySem.W.Frag}
theorem mw{σ:L2.St}{H0 F H:Hp}{e:En}{x:Rv}{vs:List V}(h:dI K σ H0 F H e [x] vs):∃v,vs=[v]∧cU K σ H0 F H e x v:=by
  obtain⟨v,ws,rfl,h1,h2⟩:=h
  have h2':ws=[]:=h2
  subst h2'
  exact⟨v,rfl,h1⟩
theorem oK{σ:L2.St}{H0 F H:Hp}{e:En}{x y:Rv}{vs:List V}(h:dI K σ H0 F H e [x,y] vs):∃v u,vs=[v,u]∧cU K σ H0 F H e x v∧cU K σ H0 F H e y u:=by
  obtain⟨v,ws,rfl,h1,h2⟩:=h
  obtain⟨u,rfl,h3⟩:=mw h2
  exact⟨v,u,rfl,h1,h3⟩
def g1(g:En→Rv→Option Rv):En→List Rv→Option Rv:=fun e xs=>match xs with
  | [x]=>g e x
  | _=>none
def g2(g:En→Rv→Rv→Option Rv):En→List Rv→Option Rv:=fun e xs=>match xs with
  | [x,y]=>g e x y
  | _=>none
theorem iz{r:List V→Hp→VK→Prop}{g:En→Rv→Option Rv}(h:EW K (fun v H Q=>r [v] H Q) g):eR K r (g1 g):=by
  intro σ H0 F H e xs z vs Q R A hg q
  unfold g1 at hg
  match xs,hg with
  | [x],hg=>
    obtain⟨v,rfl,h1⟩:=mw A
    exact h σ H0 F H e x z v Q R h1 hg q
theorem vF{r:List V→Hp→VK→Prop}{g:En→Rv→Rv→Option Rv}(h:hX K (fun v u H Q=>r [v,u] H Q) g):eR K r (g2 g):=by
  intro σ H0 F H e xs z vs Q R A hg q
  unfold g2 at hg
  match xs,hg with
  | [x,y],hg=>
    obtain⟨v,u,rfl,h1,h2⟩:=oK A
    exact h σ H0 F H e x y z v u Q R h1 h2 hg q
def cT:En→Rv→Option Rv:=fun e x=>(eO e x).map fun p=>.d (.int p.2.length)
theorem Fs:eR K (fun xs H Q=>∃p ys,xs=[.ref p]∧(gH K H p ys∨cS K H p ys)∧Q (.int ys.length) H) (g1 cT):=iz fun σ H0 F H e x z v Q R A hg q=>by
  obtain⟨⟨b,xs⟩,h5,h4⟩:=KW hg
  obtain⟨p,vs,rfl,d1,s1⟩:=dX R A h5
  cases h4
  refine⟨p,vs,rfl,?_,?_⟩
  · cases b with
    | true=>exact .inl s1
    | false=>exact .inr s1
  · rw [←d1.len]
    exact q F H _ (eS.refl _ _ _ _) R m8
def wG:En→Rv→Option Rv:=fun _ x=>(bz x).map fun i=>.d (.int (if i < 0 then -i else i))
theorem EX:eR K (fun xs H Q=>∃i,xs=[.int i]∧Q (.int (if i < 0 then -i else i)) H) (g1 wG):=iz fun σ H0 F H e x z v Q R A hg q=>by
  obtain⟨i,h5,h4⟩:=KW hg
  cases h4
  exact⟨i,by rw [bw A h5],q F H _ (eS.refl _ _ _ _) R m8⟩
def wJ:En→Rv→Option Rv:=fun _ x=>match x with
  | .d (.int i)=>some (.d (.int i))
  | .d (.bool k)=>some (.d (.int (if k then 1 else 0)))
  | _=>none
theorem Fk:eR K (fun xs H Q=>(∃i,xs=[.int i]∧Q (.int i) H)∨∃k,xs=[.bl k]∧Q (.int (if k then 1 else 0)) H) (g1 wJ):=iz fun σ H0 F H e x z v Q R A hg q=>by
  unfold wJ at hg
  split at hg
  · cases hg
    exact .inl ⟨_,by rw [bX.mp (show DA K F (.int _) v from A)],q F H _ (eS.refl _ _ _ _) R m8⟩
  · cases hg
    exact .inr ⟨_,by rw [dR.mp (show DA K F (.bool _) v from A)],q F H _ (eS.refl _ _ _ _) R m8⟩
  · cases hg
def tF:=gI (fun _ _=>true) fun i j=>.int (if j < i then j else i)
def oo:=gI (fun _ _=>true) fun i j=>.int (if j > i then j else i)
theorem Fv:eR K (fun xs H Q=>∃i j,xs=[.int i,.int j]∧Q (.int (if j < i then j else i)) H) (g2 tF):=vF fun σ H0 F H e x y z v u Q R A B hg q=>by
  obtain⟨i,j,h1,h2,h3⟩:=ku (K:=K) (g:=fun i j=>.int (if j < i then j else i)) (fun _ _ _=>bX.mpr rfl) σ H0 F H e x y z v u Q R A B hg q
  exact⟨i,j,by rw [h1,h2],h3⟩
theorem Fu:eR K (fun xs H Q=>∃i j,xs=[.int i,.int j]∧Q (.int (if j > i then j else i)) H) (g2 oo):=vF fun σ H0 F H e x y z v u Q R A B hg q=>by
  obtain⟨i,j,h1,h2,h3⟩:=ku (K:=K) (g:=fun i j=>.int (if j > i then j else i)) (fun _ _ _=>bX.mpr rfl) σ H0 F H e x y z v u Q R A B hg q
  exact⟨i,j,by rw [h1,h2],h3⟩
def cN:En→Rv→Option Rv:=fun e x=>(eO e x).map fun p=>.d (.tuple p.2)
theorem B4:eR K (fun xs H Q=>∃p ys,xs=[.ref p]∧((gH K H p ys∧∀l,H l=none→Q (.ref l) (be H l (.tup ys)))∨(cS K H p ys∧Q (.ref p) H))) (g1 cN):=iz fun σ H0 F H e x z v Q R A hg q=>by
  obtain⟨⟨b,xs⟩,h5,h4⟩:=KW hg
  obtain⟨p,vs,rfl,d1,s1⟩:=dX R A h5
  cases h4
  refine⟨p,vs,rfl,?_⟩
  cases b with
  | true=>
    refine .inl ⟨s1,fun t ht=>?_⟩
    obtain⟨R4,X4⟩:=R.newT (vs:=vs) ht
    exact q _ _ _ X4 R4 (dG.mpr ⟨t,_,rfl,.inl (.inl ay),d1.mono X4.sf⟩)
  | false=>
    obtain⟨F4,R4,X4,hF⟩:=R.growT (aD.refl _) s1
    exact .inr ⟨s1,q _ _ _ X4 R4 (dG.mpr ⟨p,vs,rfl,hF,d1.mono X4.sf⟩)⟩
def Cw:En→Rv→Option Rv:=fun e x=>(eO e x).map fun p=>.l p.2
theorem Dp:eR K (fun xs H Q=>∃p ys,xs=[.ref p]∧(gH K H p ys∨cS K H p ys)∧∀l,H l=none→Q (.ref l) (be H l (.lst ys))) (g1 Cw):=iz fun σ H0 F H e x z v Q R A hg q=>by
  obtain⟨⟨b,xs⟩,h5,h4⟩:=KW hg
  obtain⟨p,vs,rfl,d1,s1⟩:=dX R A h5
  cases h4
  refine⟨p,vs,rfl,?_,fun t ht=>?_⟩
  · cases b with
    | true=>exact .inl s1
    | false=>exact .inr s1
  · obtain⟨R4,X4,hF,no⟩:=R.newL (vs:=vs) ht
    exact q _ _ _ X4 R4 ⟨t,_,rfl,ht,hF,ay,d1,no⟩
def eU:List PyData→Option (List Int)
  | []=>some []
  | .int i::r=>(eU r).map (i::·)
  | _=>none
theorem pk:∀{ds:List PyData} {ns:List Int},eU ds=some ns→ds=ns.map .int
  | [],_,h=>by cases h;rfl
  | .int i::r,_,h=>by
    obtain⟨ns,h1,rfl⟩:=KW h
    rw [pk h1];rfl
theorem du:∀(ns:List Int),eU (ns.map .int)=some ns
  | []=>rfl
  | i::r=>by simp [eU,du r]
def mQ:List PyData→Option (List Bool)
  | []=>some []
  | .bool i::r=>(mQ r).map (i::·)
  | _=>none
theorem qC:∀{ds:List PyData} {ns:List Bool},mQ ds=some ns→ds=ns.map .bool
  | [],_,h=>by cases h;rfl
  | .bool i::r,_,h=>by
    obtain⟨ns,h1,rfl⟩:=KW h
    rw [qC h1];rfl
def jL(g:List PyData→Option PyData):En→Rv→Option Rv:=fun e x=>match eO e x with
  | some (true,xs)=>(g xs).map .d
  | _=>none
theorem Er{r:List V→Hp→VK→Prop}{g:List PyData→Option PyData}(h:∀(F H:Hp) (p:Addr) (xs:List PyData) (vs:List V) (d:PyData) (Q:VK),aS K F xs vs→gH K H p vs→g xs=some d→(∀v,(∀F,DA K F d v)→Q v H)→r [.ref p] H Q):eR K r (g1 (jL g)):=iz fun σ H0 F H e x z v Q R A hg q=>by
  unfold jL at hg
  split at hg
  case h_2=>cases hg
  case h_1 xs h5=>
  obtain⟨p,vs,rfl,d1,s1⟩:=dX R A h5
  obtain⟨d,h6,hg⟩:=KW hg
  cases hg
  exact h F H p xs vs d Q d1 s1 h6 fun v hv=>q F H v (eS.refl _ _ _ _) R (hv F)
def lm:List PyData→Option PyData:=fun xs=>(mQ xs).map fun ns=>.bool (ns.all id)
theorem EZ:eR K (fun xs H Q=>∃(l:Addr) (bs:List Bool),xs=[.ref l]∧gH K H l (bs.map V.bl)∧Q (.bl (bs.all id)) H) (g1 (jL lm)):=Er fun F H p xs vs d Q d1 s1 hg q=>by
  obtain⟨ns,h1,h2⟩:=KW hg
  cases h2
  rw [qC h1] at d1
  rw [aS.bools.mp d1] at s1
  exact⟨p,ns,rfl,s1,q _ fun _=>dR.mpr rfl⟩
def uJ:En→Rv→Option Rv:=fun e x=>match eO e x with
  | some (false,xs)=>(eU xs).bind fun ns=>if ns.length < 64 then some (.l ((eV ns).map .int)) else none
  | _=>none
def zr(K:PySem.W.Frag):List V→Hp→VK→Prop:=fun xs H Q=>∃(a:Addr) (ns:List Int),xs=[.ref a]∧cS K H a (ns.map V.int)∧ns.length < 64∧∀(l:Addr) (H':Hp),aD H H'→H l=none→H' l=some (.lst ((eV ns).map V.int))→Q (.ref l) H'
theorem uD:d_ X (.builtin "sorted") (zr X.K):=by
  intro pins s σ H xs us Q I rv h
  obtain⟨a,ns,e1,e2,e3,q⟩:=h
  exact nH pins s σ H xs us Q I rv ⟨a,ns,e1,e2,e3,fun l ns' H' sm hn hl hp hs=>q l H' sm hn (by rw [←mL hp hs];exact hl)⟩
theorem BU:eR K (zr K) (g1 uJ):=iz fun σ H0 F H e x z v Q R A hg q=>by
  unfold uJ at hg
  split at hg
  case h_2=>cases hg
  case h_1 xs h5=>
  obtain⟨p,vs,rfl,d1,s1⟩:=dX R A h5
  obtain⟨ns,h6,hg⟩:=KU hg
  split at hg
  case isFalse=>cases hg
  case isTrue hl=>
  cases hg
  rw [pk h6] at d1
  have s1':cS K H p vs:=s1
  rw [aS.ints.mp d1] at s1'
  refine⟨p,ns,rfl,s1',hl,fun l H' sm hn hl'=>?_⟩
  obtain⟨R4,X4⟩:=R.same sm
  exact q F H' _ X4 R4 ⟨l,_,rfl,hn,R.freeF hn,hl',aS.ints.mpr rfl,fun z=>R.ownH l ((R.sameOwn sm l).mp z) hn⟩
mutual
def Ct:PyData→Bool
  | .tuple ds=>vK ds
  | .list _=>false
  | .dict _=>false
  | _=>true
def vK:List PyData→Bool
  | []=>true
  | d::r=>Ct d&&vK r
end
mutual
def yK:PyData→Bool
  | .list _=>false
  | .tuple ds=>tL ds
  | _=>true
def tL:List PyData→Bool
  | []=>true
  | d::r=>yK d&&tL r
end
end
section
variable{K:PySem.W.Frag}{σ:L2.St}{H0 F H F' H':Hp}{e e':En}
theorem bh.upd1(R:bh K F H σ e){σ':L2.St}(i:Nat)(hl:σ'.length=e'.length)(hσ:∀j,j≠i→σ'[j]?=σ[j]?)(he:∀j,j≠i→e'[j]?=e[j]?)(sF:aD F F')(sm:aD F' H')(hf:∀j a,j≠i→Fp σ e H j a→F' a=none)
    (hh:∀j a o,j≠i→Fp σ e H j a→H a=some o→H' a=some o)(hd:∀x,e'[i]?=some (some (.d x))→∃v,σ'[i]?=some (some v)∧DA K F' x v)
    (ho:∀xs,e'[i]?=some (some (.l xs))→∃l vs,σ'[i]?=some (some (.ref l))∧F' l=none∧H' l=some (.lst vs)∧aS K F' xs vs)
    (hn:∀xss,e'[i]?=some (some (.n xss))→∃(l:Addr) (bs:List Addr),σ'[i]?=some (some (.ref l))∧F' l=none∧H' l=some (.lst (bs.map V.ref))∧bs.length=xss.length∧bs.Nodup∧l∉bs∧
      ∀(k:Nat) (b:Addr) (ys:List PyData),bs[k]?=some b→xss[k]?=some ys→F' b=none∧∃us,H' b=some (.lst us)∧aS K F' ys us)
    (hi:∀a j,j≠i→Fp σ' e' H' i a→¬Fp σ e H j a):bh K F' H' σ' e'∧∀j a,j≠i→(Fp σ' e' H' j a↔ Fp σ e H j a):=by
  have fs:∀j a,j≠i→(Fp σ' e' H' j a↔ Fp σ e H j a):=by
    intro j a hj
    have key:∀xss l,e[j]?=some (some (.n xss))→σ[j]?=some (some (.ref l))→H' l=H l:=fun xss l h1 h2=>by
      obtain⟨l',bs,g1,g2,g3,_⟩:=R.nst j xss h1
      rw [h2] at g1;cases g1
      rw [g3]
      exact hh j l _ hj (.inr ⟨xss,l,bs,h1,h2,g3,.inl rfl⟩) g3
    unfold Fp
    rw [he j hj,hσ j hj]
    constructor
    · rintro(h1 | ⟨xss,l,bs,h1,h2,h3,h4⟩)
      · exact .inl h1
      · exact .inr ⟨xss,l,bs,h1,h2,by rw [←key xss l h1 h2];exact h3,h4⟩
    · rintro(h1 | ⟨xss,l,bs,h1,h2,h3,h4⟩)
      · exact .inl h1
      · exact .inr ⟨xss,l,bs,h1,h2,by rw [key xss l h1 h2];exact h3,h4⟩
  refine⟨⟨sm,hl,fun j x q=>?_,fun j xs q=>?_,fun j xss q=>?_,fun j k a q1 q2=>?_⟩,fs⟩
  · by_cases z:j=i
    · subst z;exact hd x q
    · rw [he j z] at q
      obtain⟨v,h1,h2⟩:=R.dat j x q
      exact⟨v,by rw [hσ j z];exact h1,DA.mono sF h2⟩
  · by_cases z:j=i
    · subst z;exact ho xs q
    · rw [he j z] at q
      obtain⟨l,vs,h1,h2,h3,h4⟩:=R.own j xs q
      have o:Fp σ e H j l:=.inl ⟨xs,q,h1⟩
      exact⟨l,vs,by rw [hσ j z];exact h1,hf j l z o,hh j l _ z o h3,h4.mono sF⟩
  · by_cases z:j=i
    · subst z;exact hn xss q
    · rw [he j z] at q
      obtain⟨l,bs,h1,h2,h3,h4,h5,h6,h7⟩:=R.nst j xss q
      have o:Fp σ e H j l:=.inr ⟨xss,l,bs,q,h1,h3,.inl rfl⟩
      refine⟨l,bs,by rw [hσ j z];exact h1,hf j l z o,hh j l _ z o h3,h4,h5,h6,fun k b ys g1 g2=>?_⟩
      obtain⟨c1,us,c2,c3⟩:=h7 k b ys g1 g2
      have ob:Fp σ e H j b:=.inr ⟨xss,l,bs,q,h1,h3,.inr (K2 g1)⟩
      exact⟨hf j b z ob,us,hh j b _ z ob c2,c3.mono sF⟩
  · by_cases zj:j=i
    · subst zj
      by_cases zk:k=j
      · exact zk.symm
      · exact absurd ((fs k a zk).mp q2) (hi a k zk q1)
    · by_cases zk:k=i
      · subst zk
        exact absurd ((fs j a zj).mp q1) (hi a j zj q2)
      · exact R.fp j k a ((fs j a zj).mp q1) ((fs k a zk).mp q2)
theorem bh.putL(R:bh K F H σ e){i:Nat}{xs ys:List PyData}{l:Addr}{vs:List V}(hi:e[i]?=some (some (.l xs)))(hl:σ[i]?=some (some (.ref l)))(hd:aS K F ys vs):
    bh K F (be H l (.lst vs)) σ (e.set i (some (.l ys)))∧eS σ F H e F (be H l (.lst vs)) (e.set i (some (.l ys))):=by
  obtain⟨l',vs',h1,h2,h3,h4⟩:=R.own i xs hi
  rw [hl] at h1;cases h1
  have hlt:i < e.length:=(KY hi).1
  have fi:Fp σ e H i l:=.inl ⟨xs,hi,hl⟩
  have gi:(e.set i (some (Sv.l ys)))[i]?=some (some (.l ys)):=List.getElem?_set_self hlt
  obtain⟨R',fs⟩:=R.upd1 (F':=F) (H':=be H l (.lst vs)) (e':=e.set i (some (.l ys))) i (by rw [List.length_set];exact R.len) (fun _ _=>rfl) (fun j hj=>List.getElem?_set_ne (Ne.symm hj)) (aD.refl F)
    (fun b o q=>by
      have z:b≠l:=fun z=>by rw [z,h2] at q;cases q
      rw [aG z];exact R.sm b o q)
    (fun j a _ q=>(R.fpAt q).1)
    (fun j a o hj q ha=>by
      have z:a≠l:=fun z=>hj (R.fp j i a q (by rw [z];exact fi))
      rw [aG z];exact ha)
    (fun x q=>by rw [gi] at q;cases q) (fun zs q=>by rw [gi] at q;cases q;exact⟨l,vs,hl,h2,ay,hd⟩) (fun xss q=>by rw [gi] at q;cases q)
    (fun a j hj q q2=>by
      rcases q with ⟨zs,_,q⟩ | ⟨xss,_,_,q,_⟩
      · rw [hl] at q;cases q
        exact hj (R.fp j i _ q2 fi)
      · rw [gi] at q;cases q)
  refine⟨R',⟨aD.refl _,fun a q=>?_,fun _ _ q _ _=>q,fun a ws q=>?_,fun a o q n=>?_,fun j=>?_,fun a ⟨j,q⟩=>?_⟩⟩
  · by_cases z:a=l
    · rw [z,ay] at q;cases q
    · rw [aG z] at q;exact q
  · by_cases z:a=l
    · rw [z];exact⟨vs,ay⟩
    · rw [aG z];exact⟨ws,q⟩
  · have z:a≠l:=fun z=>n ⟨i,by rw [z];exact fi⟩
    rw [aG z];exact q
  · by_cases z:j=i
    · subst z;rw [gi];exact⟨fun _=>⟨xs,hi⟩,fun _=>⟨ys,rfl⟩⟩
    · rw [List.getElem?_set_ne (Ne.symm z)]
  · by_cases z:j=i
    · subst z
      rcases q with ⟨zs,_,q⟩ | ⟨xss,_,_,q,_⟩
      · rw [hl] at q;cases q;exact .inl ⟨j,fi⟩
      · rw [gi] at q;cases q
    · exact .inl ⟨j,(fs j a z).mp q⟩
theorem bh.setD(R:bh K F H σ e)(i:Nat){x:PyData}{v:V}(h:DA K F x v):bh K F H (σ.set i (some v)) (e.set i (some (.d x)))∧∀a,dn (σ.set i (some v)) (e.set i (some (.d x))) H a→dn σ e H a:=by
  have gi:∀s,(e.set i (some (Sv.d x)))[i]?=some (some s)→s=.d x∧i < e.length:=fun s q=>by
    have hlt:i < e.length:=by have:=(KY q).1;simpa using this
    rw [List.getElem?_set_self hlt] at q
    exact⟨(Option.some.inj (Option.some.inj q)).symm,hlt⟩
  have nofp:∀a,¬Fp (σ.set i (some v)) (e.set i (some (.d x))) H i a:=fun a q=>by
    rcases q with ⟨zs,q,_⟩ | ⟨xss,_,_,q,_⟩
    · cases (gi _ q).1
    · cases (gi _ q).1
  obtain⟨R',fs⟩:=R.upd1 (F':=F) (H':=H) (σ':=σ.set i (some v)) (e':=e.set i (some (.d x))) i (by rw [List.length_set,List.length_set];exact R.len) (fun j hj=>List.getElem?_set_ne (Ne.symm hj)) (fun j hj=>List.getElem?_set_ne (Ne.symm hj)) (aD.refl F) R.sm
    (fun j a _ q=>(R.fpAt q).1) (fun j a o _ _ ha=>ha)
    (fun y q=>by
      obtain⟨z,hlt⟩:=gi _ q
      cases z
      exact⟨v,List.getElem?_set_self (by rw [R.len];exact hlt),h⟩)
    (fun zs q=>by cases (gi _ q).1) (fun xss q=>by cases (gi _ q).1) (fun a j hj q=>absurd q (nofp a))
  refine⟨R',fun a ⟨j,q⟩=>?_⟩
  by_cases z:j=i
  · subst z;exact absurd q (nofp a)
  · exact⟨j,(fs j a z).mp q⟩
theorem bh.setL(R:bh K F H σ e)(i:Nat){xs:List PyData}{l:Addr}{vs:List V}(h1:F l=none)(h2:H l=some (.lst vs))(h3:aS K F xs vs)(h4:¬dn σ e H l):bh K F H (σ.set i (some (.ref l))) (e.set i (some (.l xs)))∧∀a,dn (σ.set i (some (.ref l))) (e.set i (some (.l xs))) H a→dn σ e H a∨a=l:=by
  have gi:∀s,(e.set i (some (Sv.l xs)))[i]?=some (some s)→s=.l xs∧i < e.length:=fun s q=>by
    have hlt:i < e.length:=by have:=(KY q).1;simpa using this
    rw [List.getElem?_set_self hlt] at q
    exact⟨(Option.some.inj (Option.some.inj q)).symm,hlt⟩
  have onefp:∀a,Fp (σ.set i (some (.ref l))) (e.set i (some (.l xs))) H i a→a=l:=fun a q=>by
    rcases q with ⟨zs,q,q2⟩ | ⟨xss,_,_,q,_⟩
    · obtain⟨_,hlt⟩:=gi _ q
      rw [List.getElem?_set_self (by rw [R.len];exact hlt)] at q2
      cases q2;rfl
    · cases (gi _ q).1
  obtain⟨R',fs⟩:=R.upd1 (F':=F) (H':=H) (σ':=σ.set i (some (.ref l))) (e':=e.set i (some (.l xs))) i (by rw [List.length_set,List.length_set];exact R.len) (fun j hj=>List.getElem?_set_ne (Ne.symm hj)) (fun j hj=>List.getElem?_set_ne (Ne.symm hj)) (aD.refl F) R.sm
    (fun j a _ q=>(R.fpAt q).1) (fun j a o _ _ ha=>ha) (fun y q=>by cases (gi _ q).1)
    (fun zs q=>by
      obtain⟨z,hlt⟩:=gi _ q
      cases z
      exact⟨l,vs,List.getElem?_set_self (by rw [R.len];exact hlt),h1,h2,h3⟩)
    (fun xss q=>by cases (gi _ q).1) (fun a j hj q q2=>h4 ⟨j,by rw [onefp a q] at q2;exact q2⟩)
  refine⟨R',fun a ⟨j,q⟩=>?_⟩
  by_cases z:j=i
  · subst z;exact .inr (onefp a q)
  · exact .inl ⟨j,(fs j a z).mp q⟩
end
section
variable{X:Cx}{K:PySem.W.Frag}{o a:Expr}{es:List Expr}{fo:FE}{fs:FA}{name:Str}{apos cpos:Pos}{id:String}
def vy(K:PySem.W.Frag)(r:V→List V→Hp→VK→Prop)(g:List PyData→List PyData→Option (PyData × List PyData)):Prop:=
  ∀(F H:Hp) (l:Addr) (xs ys ds:List PyData) (z:PyData) (vs us:List V) (Q:VK),F l=none→aD F H→H l=some (.lst vs)→aS K F xs vs→aS K F ds us→g xs ds=some (z,ys)→
    (∀w ws,DA K F z w→aS K F ys ws→Q w (be H l (.lst ws)))→r (.ref l) us H Q
def bW(g:List PyData→List PyData→Option (PyData × List PyData))(fo:FE)(fs:FA):FE:=fun e=>(fo e).bind fun p=>match p.1 with
  | .s i=>(fs p.2).bind fun q=>(ib q.1).bind fun ds=>match q.2[i]? with
    | some (some (.l xs))=>(g xs ds).map fun z=>(.d z.1,q.2.set i (some (.l z.2)))
    | _=>none
  | _=>none
theorem z9{r:V→List V→Hp→VK→Prop}{g:List PyData→List PyData→Option (PyData × List PyData)}(hm:vy K r g){σ:L2.St}{H:Hp}{Q:VK}(h:fE K (bW g fo fs) σ H Q):Hw K "list" r (fE K fo) (fA K fs) σ H Q:=by
  obtain⟨F,e,z,e',R,hf,q⟩:=h
  unfold bW at hf
  obtain⟨⟨x,e1⟩,h1,hf⟩:=KU hf
  match x,h1,hf with
  | .s i,h1,hf=>
  dsimp only at hf
  obtain⟨⟨rs,e2⟩,h2,hf⟩:=KU hf
  obtain⟨ds,h3,hf⟩:=KU hf
  refine⟨F,e,_,e1,R,h1,fun F1 H1 v X1 R1 A1=>?_⟩
  obtain⟨g1,zs,g2⟩:=A1
  obtain⟨l,vs,c1,c2,c3,c4⟩:=R1.own i zs g2
  rw [g1] at c1;cases c1
  refine⟨.inl ⟨rfl,vs,.inl (.inl c3)⟩,F1,e1,rs,e2,R1,h2,fun F2 H2 us X2 R2 A2=>?_⟩
  match h4:e2[i]?,hf with
  | some (some (.l xs)),hf=>
  dsimp only at hf
  obtain⟨⟨zd,ys⟩,h5,hf⟩:=KW hf
  cases hf
  obtain⟨F3,R3,s3,d3,f3⟩:=dI.frozen R2 A2 h3
  obtain⟨l',vs',k1,k2,k3,k4⟩:=R3.own i xs h4
  rw [g1] at k1;cases k1
  refine hm F3 H2 l xs ys ds zd vs' us Q k2 R3.sm k3 k4 d3 h5 fun w ws hw hws=>?_
  obtain⟨R4,X4⟩:=R3.putL h4 g1 hws
  exact q _ _ _ ((X1.trans (X2.frz s3 f3)).trans X4) R4 hw
theorem CH{r:V→List V→Hp→VK→Prop}{g:List PyData→List PyData→Option (PyData × List PyData)}(slot:Slot "list" name id)(hty:typeOf (.builtin id)=pure (.type "method_descriptor"))(hm:Hn X id r)(hf:vy X.K r g)(ho:PE X o (fE X.K fo))(ha:PA X (a::es) (fA X.K fs))
    (hbase:attributeBase o name X.env (eval o X.env)=eval o X.env)
    (hfew:((backTo cpos (starEach (a::es) X.env)).all (fun x=> !x.1)&&(backToKw cpos (keywordEach [] X.env)).all (fun x=>x.1.isSome)
      &&decide ((a::es).length+([]:List Keyword).length+(if ([]:List Keyword).isEmpty then 0 else 1) < 30))=true)
    (hline:(apos.endLine==cpos.line)=true)(hs:starEach (a::es) X.env=(false,eval a X.env)::starEach es X.env)(hplain:(backTo cpos (starEach es X.env)).any (·.1)=false):
    PE X (.Call (.Attribute o name apos) (a::es) [] cpos) (fE X.K (bW g fo fs)):=(yW PySem.F.plainAttrs_list slot hty hm ho ha hbase hfew hline hs hplain).mono fun _ _ _ h=>z9 hf h
def bc:List PyData→List PyData→Option (PyData × List PyData):=fun xs ds=>match ds with
  | [d]=>if xs.length < 1000000 then some (.none,xs++[d]) else none
  | _=>none
theorem xQ:vy K wb bc:=by
  intro F H l xs ys ds z vs us Q hF sm hl d1 d2 hg q
  unfold bc at hg
  match ds,hg,d2 with
  | [d],hg,d2=>
    simp only [aS] at d2
    obtain⟨w,r,rfl,hw,rfl⟩:=d2
    dsimp only at hg
    split at hg
    case isFalse=>cases hg
    case isTrue hlt=>
    cases hg
    have:=d1.len
    have sl:sizeLine=16777216:=sizeLine_eq
    exact⟨l,vs,w,rfl,rfl,hl,by lia,q _ _ (iA.mpr rfl) (d1.append (aS.one hw))⟩
def tK:List PyData→List PyData→Option (PyData × List PyData):=fun xs ds=>match ds with
  | []=>(xs[xs.length - 1]?).map fun d=>(d,xs.dropLast)
  | _=>none
def eL:List PyData→List PyData→Option (PyData × List PyData):=fun xs ds=>match ds with
  | [.int i]=>if 0≤i∧i < 1000000000 then(xs[i.toNat]?).map fun d=>(d,xs.eraseIdx i.toNat) else none
  | _=>none
theorem BA:vy K zp eL:=by
  intro F H l xs ys ds z vs us Q hF sm hl d1 d2 hg q
  unfold eL at hg
  match ds,hg,d2 with
  | [.int i],hg,d2=>
    simp only [aS,DA] at d2
    obtain⟨w,r,rfl,rfl,rfl⟩:=d2
    dsimp only at hg
    split at hg
    case isFalse=>cases hg
    case isTrue hlt=>
    obtain⟨d,h1,h2⟩:=KW hg
    cases h2
    obtain⟨v,g1,g2⟩:=d1.get h1
    have hlt2:i.toNat < vs.length:=(KY g1).1
    exact⟨l,vs,i,i.toNat,v,rfl,rfl,hl,by lia,by lia,seqIndex_of hlt.1 (by lia),g1,q _ _ g2 (d1.erase _)⟩
end
inductive Fl where
  | nx (e:En)
  | bk (e:En)
  | ct (e:En)
  | rt (r:Rv) (e:En)
abbrev FS:=En→Option Fl
structure dY (W:List Nat) (σ:L2.St) (F H:Hp) (e:En) (σ':L2.St) (F' H':Hp) (e':En):Prop where
  sf:aD F F'
  dom:∀a,H' a=none→H a=none
  fr:∀a vs,F a=none→H a=some (.lst vs)→¬dn σ e H a→F' a=none
  lst:∀a vs,H a=some (.lst vs)→∃vs',H' a=some (.lst vs')
  tmp:∀a o,H a=some o→¬dn σ e H a→H' a=some o
  own:∀a,dn σ' e' H' a→dn σ e H a∨H a=none
  wr:∀j,j∉W→σ'[j]?=σ[j]?
section
variable{K:PySem.W.Frag}{W W1 W2:List Nat}{σ σ1 σ2 σ':L2.St}{H0 F H F1 H1 F2 H2 F' H':Hp}{e e1 e2 e':En}
theorem dY.refl:dY W σ F H e σ F H e:=⟨aD.refl _,fun _ h=>h,fun _ _ h _ _=>h,fun _ vs h=>⟨vs,h⟩,fun _ _ h _=>h,fun _ h=>.inl h,fun _ _=>rfl⟩
theorem eS.s(x:eS σ F H e F' H' e'):dY W σ F H e σ F' H' e':=⟨x.sf,x.dom,x.fr,x.lst,x.tmp,x.ow,fun _ _=>rfl⟩
theorem dY.trans(x:dY W σ F H e σ1 F1 H1 e1)(y:dY W σ1 F1 H1 e1 σ2 F2 H2 e2):dY W σ F H e σ2 F2 H2 e2:=
  ⟨x.sf.trans y.sf,fun a h=>x.dom a (y.dom a h),fun a vs h n no=>let ⟨vs',q⟩:=x.lst a vs n;y.fr a vs' (x.fr a vs h n no) q (fun z=>(x.own a z).elim no fun z=>by rw [n] at z;cases z),fun a vs h=>let ⟨vs',q⟩:=x.lst a vs h;y.lst a vs' q,
    fun a o h n=>y.tmp a o (x.tmp a o h n) (fun z=>(x.own a z).elim n fun z=>by rw [h] at z;cases z),
    fun a h=>(y.own a h).elim (x.own a) (fun z=>.inr (x.dom a z)),
    fun j h=>(y.wr j h).trans (x.wr j h)⟩
theorem dY.mono(x:dY W1 σ F H e σ' F' H' e')(h:∀j,j∈W1→j∈W):dY W σ F H e σ' F' H' e':=⟨x.sf,x.dom,x.fr,x.lst,x.tmp,x.own,fun j n=>x.wr j fun z=>n (h j z)⟩
end
def oW(K:PySem.W.Frag)(W:List Nat)(σ:L2.St)(F H:Hp)(e:En)(D:ur):Fl→Prop
  | .nx e'=>∀F' H' σ',dY W σ F H e σ' F' H' e'→bh K F' H' σ' e'→D.nx σ' H'
  | .bk e'=>∀F' H' σ',dY W σ F H e σ' F' H' e'→bh K F' H' σ' e'→D.bk σ' H'
  | .ct e'=>∀F' H' σ',dY W σ F H e σ' F' H' e'→bh K F' H' σ' e'→D.ct σ' H'
  | .rt r e'=>∀F' H' σ' v,dY W σ F H e σ' F' H' e'→bh K F' H' σ' e'→cU K σ' H F' H' e' r v→D.rt v H'
def fS(K:PySem.W.Frag)(f:FS)(W:List Nat):TS:=fun D σ H=>∃F e fl,bh K F H σ e∧f e=some fl∧oW K W σ F H e D fl
theorem PS.mono{X:Cx}{st:Stmt}{t t':TS}(h:PS X st t)(m:∀D σ H,t' D σ H→t D σ H):PS X st t':=fun pins s σ H D I q=>h pins s σ H D I (m D σ H q)
theorem oj.mono{X:Cx}{st:List Stmt}{t t':TS}(h:oj X st t)(m:∀D σ H,t' D σ H→t D σ H):oj X st t':=fun pins s σ H D I q=>h pins s σ H D I (m D σ H q)
theorem oW.later{K:PySem.W.Frag}{W W1 W2:List Nat}{σ σ1:L2.St}{F H F1 H1:Hp}{e e1:En}{D:ur}{fl:Fl}(h:oW K W σ F H e D fl)(x:dY W1 σ F H e σ1 F1 H1 e1)(h1:∀j,j∈W1→j∈W)(h2:∀j,j∈W2→j∈W):oW K W2 σ1 F1 H1 e1 D fl:=by
  cases fl with
  | nx e'=>exact fun F' H' σ' y R=>h F' H' σ' ((x.mono h1).trans (y.mono h2)) R
  | bk e'=>exact fun F' H' σ' y R=>h F' H' σ' ((x.mono h1).trans (y.mono h2)) R
  | ct e'=>exact fun F' H' σ' y R=>h F' H' σ' ((x.mono h1).trans (y.mono h2)) R
  | rt r e'=>exact fun F' H' σ' v y R A=>h F' H' σ' v ((x.mono h1).trans (y.mono h2)) R (A.weak x.dom)
section
variable{X:Cx}{K:PySem.W.Frag}{W W1 W2:List Nat}{st:Stmt}{gf:List Stmt}{f g:FS}{a b:Expr}{fa:FE}{ft:FT}{pos:Pos}
def bH:FS:=fun e=>some (.nx e)
def au(f g:FS):FS:=fun e=>(f e).bind fun fl=>match fl with
  | .nx e1=>g e1
  | fl=>some fl
theorem aP:oj X [] (fS K bH []):=BE.mono fun D σ H h=>by
  obtain⟨F,e,fl,R,hf,q⟩:=h
  cases hf
  exact q F H σ dY.refl R
theorem ag(h1:PS X st (fS K f W1))(h2:oj X gf (fS K g W2)):oj X (st::gf) (fS K (au f g) (W1++W2)):=(ze h1 h2).mono fun D σ H h=>by
  obtain⟨F,e,fl,R,hf,q⟩:=h
  unfold au at hf
  obtain⟨fl1,h1,hf⟩:=KU hf
  have s1:∀j,j∈W1→j∈W1++W2:=fun j h=>List.mem_append.mpr (.inl h)
  have s2:∀j,j∈W2→j∈W1++W2:=fun j h=>List.mem_append.mpr (.inr h)
  refine⟨F,e,fl1,R,h1,?_⟩
  cases fl1 with
  | nx e1=>exact fun F' H' σ' x R'=>⟨F',e1,fl,R',hf,q.later x s1 s2⟩
  | bk e1=>cases hf;exact fun F' H' σ' x R'=>q F' H' σ' (x.mono s1) R'
  | ct e1=>cases hf;exact fun F' H' σ' x R'=>q F' H' σ' (x.mono s1) R'
  | rt r e1=>cases hf;exact fun F' H' σ' v x R' A=>q F' H' σ' v (x.mono s1) R' A
theorem aj(h1:PS X st (fS K f W)):oj X [st] (fS K f W):=BF h1
def cC(fa:FE):FS:=fun e=>(fa e).map fun p=>.nx p.2
theorem dB(he:PE X a (fE K fa))(hs:swapsWith a none pos.line X.env=pure false):PS X (.Expr a pos) (fS K (cC fa) []):=(BD he hs).mono fun D σ H h=>by
  obtain⟨F,e,fl,R,hf,q⟩:=h
  obtain⟨⟨x,e1⟩,h1,hf⟩:=KW hf
  cases hf
  exact⟨F,e,x,e1,R,h1,fun F1 H1 v X1 R1 A1=>q F1 H1 σ X1.s R1⟩
def a_(fa:FE):FS:=fun e=>(fa e).map fun p=>.rt p.1 p.2
theorem az(he:PE X a (fE K fa)):PS X (.Return (some a) pos) (fS K (a_ fa) []):=(D4 he).mono fun D σ H h=>by
  obtain⟨F,e,fl,R,hf,q⟩:=h
  obtain⟨⟨x,e1⟩,h1,hf⟩:=KW hf
  cases hf
  exact⟨F,e,x,e1,R,h1,fun F1 H1 v X1 R1 A1=>q F1 H1 σ v X1.s R1 A1⟩
def fB(ft:FT)(f g:FS):FS:=fun e=>(ft e).bind fun p=>if p.1=true then f p.2 else g p.2
theorem bC{c:Expr}{bs cs:List Stmt}(hc:PT X c (fT K ft))(ha:oj X bs (fS K f W1))(hb:oj X cs (fS K g W2)):PS X (.If c bs cs pos) (fS K (fB ft f g) (W1++W2)):=(FQ hc ha hb).mono fun D σ H h=>by
  obtain⟨F,e,fl,R,hf,q⟩:=h
  unfold fB at hf
  obtain⟨⟨x,e1⟩,h1,hf⟩:=KU hf
  refine⟨F,e,x,e1,R,h1,fun F1 H1 X1 R1=>?_⟩
  cases x with
  | true=>exact⟨F1,e1,fl,R1,hf,q.later (W1:=[]) X1.s (fun j h=>by cases h) fun j h=>List.mem_append.mpr (.inl h)⟩
  | false=>exact⟨F1,e1,fl,R1,hf,q.later (W1:=[]) X1.s (fun j h=>by cases h) fun j h=>List.mem_append.mpr (.inr h)⟩
def qi(i:Nat)(r:Rv)(e:En):Option En:=match r with
  | .d x=>some (e.set i (some (.d x)))
  | .l xs=>some (e.set i (some (.l xs)))
  | .s _=>none
theorem vb{σ:L2.St}{H F H1 F1:Hp}{e e1 e2:En}{i:Nat}{r:Rv}{v:V}(R:bh K F H σ e)(X1:eS σ F H e F1 H1 e1)(R1:bh K F1 H1 σ e1)(A1:cU K σ H F1 H1 e1 r v)(h:qi i r e1=some e2):
    dY [i] σ F H e (σ.set i (some v)) F1 H1 e2∧bh K F1 H1 (σ.set i (some v)) e2:=by
  have wr:∀j,j∉[i]→(σ.set i (some v))[j]?=σ[j]?:=fun j n=>List.getElem?_set_ne (fun z=>n (by simp [z]))
  cases r with
  | d x=>
    cases h
    obtain⟨R2,o2⟩:=R1.setD i A1
    exact⟨⟨X1.sf,X1.dom,X1.fr,X1.lst,X1.tmp,fun a h=>X1.ow a (o2 a h),wr⟩,R2⟩
  | l xs=>
    cases h
    obtain⟨l,vs,rfl,h1,h2,h3,h4,h5⟩:=A1
    obtain⟨R2,o2⟩:=R1.setL i h2 h3 h4 h5
    refine⟨⟨X1.sf,X1.dom,X1.fr,X1.lst,X1.tmp,fun a h=>?_,wr⟩,R2⟩
    rcases o2 a h with z | z
    · exact X1.ow a z
    · exact .inr (by rw [z];exact h1)
  | s j=>cases h
def aY(i:Nat)(fa:FE):FS:=fun e=>(fa e).bind fun p=>(qi i p.1 p.2).map .nx
theorem aI{i:Nat}{x:Str}{pos':Pos}(hN:X.N.Nodup)(hi:X.N[i]?=some x)(hx:C3 X.env.scope x)(he:PE X a (fE K fa))(hs:swapsWith a (some (.Name x pos')) pos.line X.env=pure false)(hf:X.fn x=true∨X.env.scope.names.lookup x=some .local):
    PS X (.Assign [.Name x pos'] a pos) (fS K (aY i fa) [i]):=(za hN hi hx he hs hf).mono fun D σ H h=>by
  obtain⟨F,e,fl,R,hf,q⟩:=h
  unfold aY at hf
  obtain⟨⟨r,e1⟩,h1,hf⟩:=KU hf
  obtain⟨e2,h2,hf⟩:=KW hf
  cases hf
  refine⟨F,e,r,e1,R,h1,fun F1 H1 v X1 R1 A1=>?_⟩
  obtain⟨x,R2⟩:=vb R X1 R1 A1 h2
  exact q F1 H1 _ x R2
abbrev FG:=PyData→En→Option En
def fG(K:PySem.W.Frag)(g:FG)(W:List Nat):TG:=fun v σ H Q=>∃F e x e',bh K F H σ e∧DA K F x v∧g x e=some e'∧∀σ',dY W σ F H e σ' F H e'→bh K F H σ' e'→Q σ' H
abbrev Cf:=List PyData→En→Option En
def GF(K:PySem.W.Frag)(g:Cf)(W:List Nat):Ah:=fun vs σ H Q=>∃F e xs e',bh K F H σ e∧aS K F xs vs∧g xs e=some e'∧∀σ',dY W σ F H e σ' F H e'→bh K F H σ' e'→Q σ' H
theorem PG.mono{tg:Expr}{t t':TG}(h:PG X tg t)(m:∀v σ H Q,t' v σ H Q→t v σ H Q):PG X tg t':=fun pins s σ H v u Q I r q=>h pins s σ H v u Q I r (m v σ H Q q)
theorem xK.mono{tg:List Expr}{t t':Ah}(h:xK X tg t)(m:∀v σ H Q,t' v σ H Q→t v σ H Q):xK X tg t':=fun pins s σ H v u Q I r q=>h pins s σ H v u Q I r (m v σ H Q q)
def af(i:Nat):FG:=fun x e=>some (e.set i (some (.d x)))
def aU:Cf:=fun xs e=>match xs with
  | []=>some e
  | _=>none
def ao(g:FG)(gs:Cf):Cf:=fun xs e=>match xs with
  | x::r=>(g x e).bind fun e1=>gs r e1
  | _=>none
def aX(gs:Cf):FG:=fun x e=>match x with
  | .tuple xs=>gs xs e
  | _=>none
theorem ap{i:Nat}{x:Str}(hN:X.N.Nodup)(hi:X.N[i]?=some x)(hx:C3 X.env.scope x)(hf:X.fn x=true∨X.env.scope.names.lookup x=some .local):PG X (.Name x pos) (fG K (af i) [i]):=(Bs hN hi hx hf).mono fun v σ H Q h=>by
  obtain⟨F,e,x,e',R,hx,hg,q⟩:=h
  cases hg
  obtain⟨R2,o2⟩:=R.setD i hx
  exact q _ ⟨aD.refl _,fun _ h=>h,fun _ _ h _ _=>h,fun _ vs h=>⟨vs,h⟩,fun _ _ h _=>h,fun a h=>.inl (o2 a h),fun j n=>List.getElem?_set_ne (fun z=>n (by simp [z]))⟩ R2
theorem bB:xK X [] (GF K aU []):=Bv.mono fun v σ H Q h=>by
  obtain⟨F,e,x,e',R,hx,hg,q⟩:=h
  unfold aU at hg
  split at hg
  · cases hg
    simp only [aS] at hx
    exact⟨hx,q σ dY.refl R⟩
  · cases hg
theorem ar{es:List Expr}{g1:FG}{gs:Cf}(h1:PG X a (fG K g1 W1))(h2:xK X es (GF K gs W2))
    (hs:(assignEach (a::es) X.env).map (·.2)=assign a X.env::(assignEach es X.env).map (·.2)):xK X (a::es) (GF K (ao g1 gs) (W1++W2)):=(y3 h1 h2 hs).mono fun v σ H Q h=>by
  obtain⟨F,e,xs,e',R,hx,hg,q⟩:=h
  unfold ao at hg
  match xs,hg,hx with
  | x::r,hg,hx=>
    simp only [aS] at hx
    obtain⟨w,ws,e1,hw,hr⟩:=hx
    dsimp only at hg
    obtain⟨e1',h3,h4⟩:=KU hg
    refine⟨w,ws,e1,F,e,x,e1',R,hw,h3,fun σ1 x1 R1=>⟨F,e1',r,e',R1,hr,h4,fun σ2 x2 R2=>?_⟩⟩
    exact q σ2 ((x1.mono fun j h=>List.mem_append.mpr (.inl h)).trans (x2.mono fun j h=>List.mem_append.mpr (.inr h))) R2
theorem cw{es:List Expr}{k n:Nat}{gs:Cf}(hK:X.K=K)(hc:X.calm=true)(h:xK X es (GF K gs W))(hl:∀xs e e',gs xs e=some e'→xs.length=n)(hn:(assignEach es X.env).length=n)(hst:(assignEach es X.env).findIdx? (·.1)=none):PG X (.Tuple es k pos) (fG K (aX gs) W):=(Bu hK hc h hn hst).mono fun v σ H Q h=>by
  obtain⟨F,e,x,e',R,hx,hg,q⟩:=h
  unfold aX at hg
  match x,hg,hx with
  | .tuple xs,hg,hx=>
    obtain⟨p,vs,e1,e2,e3⟩:=dG.mp hx
    exact⟨p,vs,e1,R.sm.tup e2,by rw [←e3.len];exact hl xs e e' hg,F,e,xs,e',R,e3,hg,q⟩
theorem cq(xs:List PyData)(e e':En)(h:aU xs e=some e'):xs.length=0:=by
  unfold aU at h
  split at h
  · rfl
  · cases h
theorem aA{g:FG}{gs:Cf}{n:Nat}(hl:∀xs e e',gs xs e=some e'→xs.length=n)(xs:List PyData)(e e':En)(h:ao g gs xs e=some e'):xs.length=n+1:=by
  unfold ao at h
  match xs,h with
  | x::r,h=>
    obtain⟨e1,h3,h4⟩:=KU h
    simp [hl r e1 e' h4]
def jE(fa:FE)(g:FG):FS:=fun e=>(fa e).bind fun p=>match p.1 with
  | .d x=>(g x p.2).map .nx
  | _=>none
theorem jC{tg:Expr}{g:FG}(he:PE X a (fE K fa))(hg:PG X tg (fG K g W))(hs:swapsWithSole [tg] a pos.line X.env=pure false)(hw:swappedStores [tg] a X.env=pure none)
    (h1:(assignEach [tg] X.env).map (·.2)=[assign tg X.env]):PS X (.Assign [tg] a pos) (fS K (jE fa g) W):=(u_ he hg hs hw h1).mono fun D σ H h=>by
  obtain⟨F,e,fl,R,hf,q⟩:=h
  unfold jE at hf
  obtain⟨⟨r,e1⟩,h1,hf⟩:=KU hf
  match r,h1,hf with
  | .d x,h1,hf=>
    obtain⟨e2,h2,hf⟩:=KW hf
    cases hf
    exact⟨F,e,_,e1,R,h1,fun F1 H1 v X1 R1 A1=>⟨F1,e1,x,e2,R1,A1,h2,fun σ' x2 R2=>q F1 H1 σ' (X1.s.trans x2) R2⟩⟩
def pO(i j:Nat)(fs:FA):FS:=fun e=>(fs e).bind fun p=>match p.1 with
  | [.d x,.d y]=>some (.nx ((p.2.set i (some (.d x))).set j (some (.d y))))
  | _=>none
theorem Ec{i j:Nat}{x y:Str}{fs:FA}{px py pt:Pos}{kt k2 pt2}(hc:X.calm=true)(hN:X.N.Nodup)(hi:X.N[i]?=some x)(hj:X.N[j]?=some y)(hij:i≠j)
    (hx:X.env.scope.names.lookup x=some .local)(hy:X.env.scope.names.lookup y=some .local)(ha:PA X [a,b] (fA K fs))
    (hw:swappedStores [.Tuple [.Name x px,.Name y py] kt pt] (.Tuple [a,b] k2 pt2) X.env=pure (some [x,y]))
    (hs:swapsWithSole [.Tuple [.Name x px,.Name y py] kt pt] (.Tuple [a,b] k2 pt2) pos.line X.env=pure false):
    PS X (.Assign [.Tuple [.Name x px,.Name y py] kt pt] (.Tuple [a,b] k2 pt2) pos) (fS K (pO i j fs) [i,j]):=(D3 hc hN hi hj hij hx hy ha hw hs).mono fun D σ H h=>by
  obtain⟨F,e,fl,R,hf,q⟩:=h
  unfold pO at hf
  obtain⟨⟨rs,e1⟩,h1,hf⟩:=KU hf
  refine⟨F,e,rs,e1,R,h1,fun F1 H1 vs X1 R1 A1=>?_⟩
  match rs,hf,A1 with
  | [.d x,.d y],hf,A1=>
    cases hf
    obtain⟨v,u,rfl,a1,a2⟩:=oK A1
    obtain⟨R2,o2⟩:=R1.setD i a1
    obtain⟨R3,o3⟩:=R2.setD j a2
    refine⟨v,u,rfl,q F1 H1 _ ⟨X1.sf,X1.dom,X1.fr,X1.lst,X1.tmp,fun a h=>X1.ow a (o2 a (o3 a h)),fun m n=>?_⟩ R3⟩
    rw [List.getElem?_set_ne (fun z=>n (by simp [z])),List.getElem?_set_ne (fun z=>n (by simp [z]))]
def l4:Rv→Option PyData
  | .d x=>some x
  | .l xs=>some (.list xs)
  | .s _=>none
theorem kU{r:Rv}{d:PyData}(h:l4 r=some d):ib [r]=some [d]:=by
  cases r with
  | d x=>cases h;rfl
  | l xs=>cases h;rfl
  | s i=>cases h
def iS(e:En):Rv→Option (Nat × List PyData)
  | .s n=>match e[n]? with
    | some (some (.l xs))=>some (n,xs)
    | _=>none
  | _=>none
theorem m_{e:En}{r:Rv}{n:Nat}{xs:List PyData}(h:iS e r=some (n,xs)):r=.s n∧e[n]?=some (some (.l xs)):=by
  unfold iS at h
  split at h
  · split at h
    · rename_i heq
      cases h;exact⟨rfl,heq⟩
    · cases h
  · cases h
def tV(fa fo fi:FE):FS:=fun e=>(fa e).bind fun p=>(l4 p.1).bind fun d=>(fo p.2).bind fun o=>(fi o.2).bind fun i=>(bz i.1).bind fun k=>(iS i.2 o.1).bind fun s=>(ma s.2.length k).map fun j=>.nx (i.2.set s.1 (some (.l (s.2.set j d))))
theorem vd{o i:Expr}{fo fi:FE}{ps:Pos}(he:PE X a (fE K fa))(ho:PE X o (fE K fo))(hi:PE X i (fE K fi))
    (ha:∀v,assign (.Subscript o i ps) X.env v=(do
      let ov ←holding [v] (eval o X.env)
      let iv ←holding [v,ov] (eval i X.env)
      standAt ps
      holding [v,ov,iv] (setItem ov iv v)
      release [v,ov,iv] []))
    (hs:swapsWithSole [.Subscript o i ps] a pos.line X.env=pure false)(hw:swappedStores [.Subscript o i ps] a X.env=pure none)
    (h1:(assignEach [.Subscript o i ps] X.env).map (·.2)=[assign (.Subscript o i ps) X.env]):PS X (.Assign [.Subscript o i ps] a pos) (fS K (tV fa fo fi) []):=(u_ he (y2 ho hi pX ha) hs hw h1).mono fun D σ H h=>by
  obtain⟨F,e,fl,R,hf,q⟩:=h
  unfold tV at hf
  obtain⟨⟨r,e1⟩,g1,hf⟩:=KU hf
  obtain⟨d,g2,hf⟩:=KU hf
  obtain⟨⟨ro,e2⟩,g3,hf⟩:=KU hf
  obtain⟨⟨ri,e3⟩,g4,hf⟩:=KU hf
  obtain⟨k,g5,hf⟩:=KU hf
  obtain⟨⟨n,xs⟩,g6,hf⟩:=KU hf
  obtain⟨j,g7,hf⟩:=KW hf
  cases hf
  obtain⟨z6,g6'⟩:=m_ g6
  dsimp only at z6 g6'
  subst z6
  refine⟨F,e,r,e1,R,g1,fun F1 H1 v X1 R1 A1=>?_⟩
  refine⟨F1,e1,_,e2,R1,g3,fun F2 H2 u X2 R2 A2=>⟨F2,e2,ri,e3,R2,g4,fun F3 H3 w X3 R3 A3=>?_⟩⟩
  have X12:=X1.trans X2
  have X13:=X12.trans X3
  have A1':=(A1.ext X2).ext X3
  obtain⟨F4,R4,s4,d4,f4⟩:=dI.frozen R3 (rs:=[r]) (vs:=[v]) ⟨v,[],rfl,A1',rfl⟩ (kU g2)
  obtain⟨h1,_⟩:=A2
  obtain⟨l,vs,k1,k2,k3,k4⟩:=R4.own n xs g6'
  rw [h1] at k1;cases k1
  simp only [aS] at d4
  obtain⟨v',r',e',hv,_⟩:=d4
  cases e'
  refine⟨l,vs,k,j,rfl,bw A3 g5,k3,by rw [←k4.len];exact g7,?_⟩
  obtain⟨R5,X5⟩:=R4.putL g6' h1 (k4.set hv j)
  exact q _ _ σ ((X13.frz s4 f4).trans X5).s R5
def jI(ft:FT)(f:FS):Nat→FS
  | 0,_=>none
  | n+1,e=>(ft e).bind fun p=>if p.1=true then(f p.2).bind fun fl=>match fl with
      | .nx e1=>jI ft f n e1
      | .ct e1=>jI ft f n e1
      | .bk e1=>some (.nx e1)
      | .rt r e1=>some (.rt r e1)
    else some (.nx p.2)
def jF(n:Nat)(ft:FT)(f:FS):FS:=jI ft f n
theorem ms{n:Nat}{c:Expr}{body:List Stmt}(hp:PassesOwn (model X.prog X.w) X.A X.env X.xe)(hc:PT X c (fT K ft))(hb:oj X body (fS K f W)):PS X (.While c body [] pos) (fS K (jF n ft f) W):=(zc hp hc hb).mono fun D σ H h=>by
  refine⟨fun m σ H=>∃F e fl,bh K F H σ e∧jI ft f m e=some fl∧oW K W σ F H e D fl,⟨n,h⟩,?_⟩
  rintro m σ H ⟨F,e,fl,R,hf,q⟩
  cases m with
  | zero=>cases hf
  | succ m=>
    unfold jI at hf
    obtain⟨⟨x,e1⟩,h1,hf⟩:=KU hf
    refine⟨F,e,x,e1,R,h1,fun F1 H1 X1 R1=>?_⟩
    have sub:∀j,j∈([]:List Nat)→j∈W:=fun j h=>by cases h
    cases x with
    | false=>
      rw [if_neg (by simp)] at hf
      cases hf
      exact AQ (q F1 H1 σ X1.s R1)
    | true=>
      rw [if_pos rfl] at hf
      refine AR ?_
      obtain⟨fl1,h2,hf⟩:=KU hf
      have q1:oW K W σ F1 H1 e1 D fl:=q.later (W1:=[]) X1.s sub fun j h=>h
      refine⟨fun σ' H'=>∃F' e',bh K F' H' σ' e'∧jI ft f m e'=some fl∧oW K W σ' F' H' e' D fl,fun σ' H' ⟨F',e',r1,r2,r3⟩=>⟨m,Nat.lt_succ_self m,F',e',fl,r1,r2,r3⟩,F1,e1,fl1,R1,h2,?_⟩
      cases fl1 with
      | nx e2=>exact fun F2 H2 σ2 x R2=>⟨F2,e2,R2,hf,q1.later x (fun j h=>h) fun j h=>h⟩
      | ct e2=>exact fun F2 H2 σ2 x R2=>⟨F2,e2,R2,hf,q1.later x (fun j h=>h) fun j h=>h⟩
      | bk e2=>cases hf;exact fun F2 H2 σ2 x R2=>q1 F2 H2 σ2 x R2
      | rt r e2=>cases hf;exact fun F2 H2 σ2 v x R2 A=>q1 F2 H2 σ2 v x R2 A
end
theorem PI.mono{X:Cx}{tg iter:Expr}{t t':TI}(h:PI X tg iter t)(m:∀σ H R,t' σ H R→t σ H R):PI X tg iter t':=fun pins s σ H R I q=>h pins s σ H R I (m σ H R q)
theorem PI.or{X:Cx}{tg iter:Expr}{t t':TI}(h:PI X tg iter t)(h':PI X tg iter t'):PI X tg iter (fun σ H R=>t σ H R∨t' σ H R):=fun pins s σ H R I q=>by
  rcases q with q | q
  · exact h pins s σ H R I q
  · exact h' pins s σ H R I q
abbrev iM:=List (Nat × List PyData)
def ww(K:PySem.W.Frag)(σ:L2.St)(F H:Hp)(own:iM):Prop:=∀p∈own,∃l vs,σ[p.1]?=some (some (.ref l))∧H l=some (.lst vs)∧aS K F p.2 vs
def ut(K:PySem.W.Frag)(σ:L2.St)(J:It)(items:List PyData)(own:iM)(F0:Hp):Prop:=∀F H,aD F0 F→aD F H→ww K σ F H own→
  (∀i,i < items.length→J.go i H)∧(∀i,items.length≤i→J.stop i H)∧∀i d x H',items[i]?=some d→J.yld i H x H'→∃F',aD H H'∧aD F F'∧aD F' H'∧(∀a,F a=none→H a≠none→F' a=none)∧DA K F' d x
abbrev FI:=En→Option (List PyData × iM × En)
def keeps(own:iM)(e:En):Prop:=∀p∈own,e[p.1]?=some (some (.l p.2))
def fI(K:PySem.W.Frag)(f:FI):TI:=fun σ H R=>∃F e items own e',bh K F H σ e∧f e=some (items,own,e')∧∀J F' H',eS σ F H e F' H' e'→bh K F' H' σ e'→keeps own e'→ut K σ J items own F'→R J H'
section
variable{K:PySem.W.Frag}{σ:L2.St}{H0 F H F' H':Hp}{e e':En}
theorem bh.held(R:bh K F H σ e){own:iM}(h:keeps own e):ww K σ F H own:=fun p hp=>by
  obtain⟨l,vs,h1,h2,h3,h4⟩:=R.own p.1 p.2 (h p hp)
  exact⟨l,vs,h1,h3,h4⟩
theorem bh.step(R:bh K F H σ e)(s:aD H H')(sF:aD F F')(sm:aD F' H')(fz:∀a,F a=none→H a≠none→F' a=none):bh K F' H' σ e∧eS σ F H e F' H' e:=by
  obtain⟨R',o'⟩:=R.keep sF sm (fun a ⟨i,h⟩=>by
    obtain⟨h1,vs,h2⟩:=R.fpAt h
    exact fz a h1 (by rw [h2];simp)) fun a o _ h=>s a o h
  exact⟨R',⟨sF,fun a h=>s.free h,fun a vs h1 h2 _=>fz a h1 (by rw [h2];simp),fun a vs h=>⟨vs,s _ _ h⟩,fun a o h _=>s a o h,fun _=>Iff.rfl,fun a h=>.inl ((o' a).mp h)⟩⟩
inductive xM (K:PySem.W.Frag) (σ:L2.St) (F:Hp) (p:Addr):Bool→List PyData→iM→Prop
  | tup {xs vs}:cS K F p vs→aS K F xs vs→xM K σ F p false xs []
  | lst {xs vs}:gH K F p vs→aS K F xs vs→xM K σ F p true xs []
  | own {i xs}:σ[i]?=some (some (.ref p))→xM K σ F p true xs [(i,xs)]
theorem xM.at{p:Addr}{b:Bool}{xs:List PyData}{own:iM}{F0:Hp}(h:xM K σ F0 p b xs own)(s0:aD F0 F)(s1:aD F H){own':iM}(hh:ww K σ F H own')(hs:∀q∈own,q∈own'):∃vs,aS K F xs vs∧(if b=true then gH K H p vs else cS K H p vs):=by
  cases h with
  | tup h1 h2=>exact⟨_,h2.mono s0,(s0.trans s1).tup h1⟩
  | lst h1 h2=>exact⟨_,h2.mono s0,(s0.trans s1).seq h1⟩
  | @own i xs h1=>
    obtain⟨l,vs,g1,g2,g3⟩:=hh (i,xs) (hs (i,xs) (by simp))
    dsimp only at g1 g3
    rw [h1] at g1;cases g1
    exact⟨vs,g3,.inl (.inl g2)⟩
def BW(e:En):Rv→Option (Bool × List PyData × iM)
  | .d (.tuple xs)=>some (false,xs,[])
  | .d (.list xs)=>some (true,xs,[])
  | .l xs=>some (true,xs,[])
  | .s i=>match e[i]? with
    | some (some (.l xs))=>some (true,xs,[(i,xs)])
    | _=>none
  | _=>none
theorem oO{r:Rv}{v:V}{b:Bool}{xs:List PyData}{own:iM}(R:bh K F H σ e)(A:cU K σ H0 F H e r v)(h:BW e r=some (b,xs,own)):
    ∃F' p,bh K F' H σ e∧aD F F'∧(∀a,F a=none→H0 a≠none→F' a=none)∧v=.ref p∧xM K σ F' p b xs own∧keeps own e:=by
  cases r with
  | d x=>
    cases x with
    | tuple ds=>
      cases h
      obtain⟨a,ys,e1,e2,e3⟩:=dG.mp A
      exact⟨F,a,R,aD.refl _,fun _ h _=>h,e1,.tup e2 e3,fun p hp=>by cases hp⟩
    | list ds=>
      cases h
      obtain⟨a,ys,e1,e2,e3⟩:=d9.mp A
      exact⟨F,a,R,aD.refl _,fun _ h _=>h,e1,.lst e2 e3,fun p hp=>by cases hp⟩
    | _=>cases h
  | l ys=>
    cases h
    obtain⟨F',R',s',d',f'⟩:=A.frozen R
    obtain⟨a,ys,e1,e2,e3⟩:=d9.mp d'
    exact⟨F',a,R',s',f',e1,.lst e2 e3,fun p hp=>by cases hp⟩
  | s i=>
    obtain⟨h1,ys,h2⟩:=A
    simp only [BW,h2] at h
    cases h
    obtain⟨l,vs,e1,e2,e3,e4⟩:=R.own i _ h2
    rw [h1] at e1;cases e1
    exact⟨F,l,R,aD.refl _,fun _ h _=>h,rfl,.own h1,fun p hp=>by simp only [List.mem_singleton] at hp;subst hp;exact h2⟩
theorem qN{p:Addr}{xs:List PyData}{own:iM}{F0:Hp}(h:xM K σ F0 p true xs own):ut K σ (GK K p) xs own F0:=by
  intro F H s0 s1 hh
  obtain⟨vs,d,q⟩:=h.at s0 s1 hh fun _ h=>h
  have q:gH K H p vs:=q
  refine⟨fun i hi=>⟨vs,vs[i]'(by rw [←d.len];exact hi),q,List.getElem?_eq_getElem _⟩,fun i hi=>⟨vs,q,by rw [←d.len];exact hi⟩,fun i x v H' hx hy=>?_⟩
  obtain⟨rfl,hy⟩:=hy
  obtain⟨w,g1,g2⟩:=d.get hx
  have e:=hy vs q
  rw [g1] at e;cases e
  exact⟨F,aD.refl _,aD.refl _,s1,fun _ h _=>h,g2⟩
theorem yr{p:Addr}{xs:List PyData}{own:iM}{F0:Hp}(h:xM K σ F0 p false xs own):ut K σ (GL K p) xs own F0:=by
  intro F H s0 s1 hh
  obtain⟨vs,d,q⟩:=h.at s0 s1 hh fun _ h=>h
  have q:cS K H p vs:=q
  refine⟨fun i hi=>⟨vs,vs[i]'(by rw [←d.len];exact hi),q,List.getElem?_eq_getElem _⟩,fun i hi=>⟨vs,q,by rw [←d.len];exact hi⟩,fun i x v H' hx hy=>?_⟩
  obtain⟨rfl,hy⟩:=hy
  obtain⟨w,g1,g2⟩:=d.get hx
  have e:=hy vs q
  rw [g1] at e;cases e
  exact⟨F,aD.refl _,aD.refl _,s1,fun _ h _=>h,g2⟩
theorem pE{p:Addr}{x y:V}{a b:PyData}(s1:aD F H)(hp:H p=none)(hx:DA K F a x)(hy:DA K F b y):∃F',aD H (be H p (.tup [x,y]))∧aD F F'∧aD F' (be H p (.tup [x,y]))∧(∀c,F c=none→H c≠none→F' c=none)∧DA K F' (.tuple [a,b]) (.ref p):=by
  have hF:F p=none:=s1.free hp
  have sF:aD F (be F p (.tup [x,y])):=aD.new hF
  refine⟨be F p (.tup [x,y]),aD.new hp,sF,fun b o q=>?_,fun c h n=>?_,dG.mpr ⟨p,_,rfl,.inl (.inl ay),.cons (DA.mono sF hx) (.one (DA.mono sF hy))⟩⟩
  · by_cases z:b=p
    · subst z;rw [ay] at q ⊢;exact q
    · rw [aG z] at q ⊢;exact s1 _ _ q
  · have z:c≠p:=fun z=>n (by rw [z];exact hp)
    rw [aG z];exact h
def ck:Nat→List PyData→List PyData
  | _,[]=>[]
  | n,x::r=>.tuple [.int n,x]::ck (n+1) r
theorem i4:∀{xs:List PyData} {n i:Nat},(ck n xs)[i]?=(xs[i]?).map fun x=>.tuple [.int ((n+i:Nat):Int),x]
  | [],n,i=>by simp [ck]
  | x::r,n,0=>by simp [ck]
  | x::r,n,i+1=>by
    simp only [ck,List.getElem?_cons_succ]
    rw [i4 (xs:=r) (n:=n+1) (i:=i)]
    congr 1
    funext y
    rw [show n+1+i=n+(i+1) by lia]
theorem eg:∀(xs:List PyData) (n:Nat),(ck n xs).length=xs.length
  | [],_=>rfl
  | x::r,n=>by simp [ck,eg r (n+1)]
theorem uL{p:Addr}{xs:List PyData}{own:iM}{F0:Hp}(h:xM K σ F0 p true xs own):ut K σ (C1 K p) (ck 0 xs) own F0:=by
  intro F H s0 s1 hh
  obtain⟨vs,d,q⟩:=h.at s0 s1 hh fun _ h=>h
  have q:gH K H p vs:=q
  rw [eg]
  refine⟨fun i hi=>⟨vs,vs[i]'(by rw [←d.len];exact hi),q,List.getElem?_eq_getElem _⟩,fun i hi=>⟨vs,q,by rw [←d.len];exact hi⟩,fun i x v H' hx hy=>?_⟩
  obtain⟨t,y,rfl,ht,rfl,hy⟩:=hy
  rw [i4] at hx
  obtain⟨x',hx2,rfl⟩:=KW hx
  obtain⟨w,g1,g2⟩:=d.get hx2
  have e:=hy vs q
  rw [g1] at e;cases e
  exact pE s1 ht (bX.mpr (by simp)) g2
theorem uM{p:Addr}{xs:List PyData}{own:iM}{F0:Hp}(h:xM K σ F0 p false xs own):ut K σ (C2 K p) (ck 0 xs) own F0:=by
  intro F H s0 s1 hh
  obtain⟨vs,d,q⟩:=h.at s0 s1 hh fun _ h=>h
  have q:cS K H p vs:=q
  rw [eg]
  refine⟨fun i hi=>⟨vs,vs[i]'(by rw [←d.len];exact hi),q,List.getElem?_eq_getElem _⟩,fun i hi=>⟨vs,q,by rw [←d.len];exact hi⟩,fun i x v H' hx hy=>?_⟩
  obtain⟨t,y,rfl,ht,rfl,hy⟩:=hy
  rw [i4] at hx
  obtain⟨x',hx2,rfl⟩:=KW hx
  obtain⟨w,g1,g2⟩:=d.get hx2
  have e:=hy vs q
  rw [g1] at e;cases e
  exact pE s1 ht (bX.mpr (by simp)) g2
def jT:List PyData→List PyData→List PyData
  | x::r,y::s=>.tuple [x,y]::jT r s
  | _,_=>[]
theorem um:∀{xs ys:List PyData} {i:Nat} {d:PyData},(jT xs ys)[i]?=some d→∃x y,xs[i]?=some x∧ys[i]?=some y∧d=.tuple [x,y]
  | [],ys,i,d,h=>by simp [jT] at h
  | x::r,[],i,d,h=>by simp [jT] at h
  | x::r,y::s,0,d,h=>by
    simp only [jT,List.getElem?_cons_zero] at h
    cases h;exact⟨x,y,rfl,rfl,rfl⟩
  | x::r,y::s,i+1,d,h=>by
    simp only [jT,List.getElem?_cons_succ] at h
    obtain⟨a,b,h1,h2,h3⟩:=um h
    exact⟨a,b,by simpa using h1,by simpa using h2,h3⟩
theorem uo:∀(xs ys:List PyData),(jT xs ys).length=min xs.length ys.length
  | [],ys=>by simp [jT]
  | x::r,[]=>by simp [jT]
  | x::r,y::s=>by simp [jT,uo r s]
theorem yt{P Q:Hp→Addr→List V→Prop}{J:It}{l1 l2:Addr}{b1 b2:Bool}{xs ys:List PyData}{own1 own2:iM}{F0:Hp}(h1:xM K σ F0 l1 b1 xs own1)(h2:xM K σ F0 l2 b2 ys own2)
    (hP:∀H vs,(if b1=true then gH K H l1 vs else cS K H l1 vs)→P H l1 vs)(hQ:∀H vs,(if b2=true then gH K H l2 vs else cS K H l2 vs)→Q H l2 vs)
    (go:∀i H vs us x y,P H l1 vs→Q H l2 us→vs[i]?=some x→us[i]?=some y→J.go i H)(stop:∀i H vs us,P H l1 vs→Q H l2 us→(vs.length≤i∨us.length≤i)→J.stop i H)
    (yld:∀i H v H',J.yld i H v H'→∃p x y,v=.ref p∧H p=none∧H'=be H p (.tup [x,y])∧∀xs ys,P H l1 xs→Q H l2 ys→xs[i]?=some x∧ys[i]?=some y):
    ut K σ J (jT xs ys) (own1++own2) F0:=by
  intro F H s0 s1 hh
  obtain⟨vs,d1,q1⟩:=h1.at s0 s1 hh fun _ h=>List.mem_append.mpr (.inl h)
  obtain⟨us,d2,q2⟩:=h2.at s0 s1 hh fun _ h=>List.mem_append.mpr (.inr h)
  have q1:=hP H vs q1
  have q2:=hQ H us q2
  have l1':=d1.len
  have l2':=d2.len
  rw [uo]
  refine⟨fun i hi=>go i H vs us (vs[i]'(by lia)) (us[i]'(by lia)) q1 q2 (List.getElem?_eq_getElem _) (List.getElem?_eq_getElem _),fun i hi=>stop i H vs us q1 q2 (by lia),fun i x v H' hx hy=>?_⟩
  obtain⟨t,a,b,rfl,ht,rfl,hy3⟩:=yld i H v H' hy
  obtain⟨x',y',hx2,hy',rfl⟩:=um hx
  obtain⟨w,g1,g2⟩:=d1.get hx2
  obtain⟨w',g3,g4⟩:=d2.get hy'
  obtain⟨e1,e2⟩:=hy3 vs us q1 q2
  rw [g1] at e1;cases e1
  rw [g3] at e2;cases e2
  exact pE s1 ht g2 g4
def bx(lo:Int)(n:Nat):List PyData:=(List.range n).map fun(i:Nat)=>.int (lo+(i:Int))
theorem uO{lo:Int}{n:Nat}{F0:Hp}:ut K σ (Gz lo n) (bx lo n) [] F0:=by
  intro F H s0 s1 hh
  unfold bx
  rw [List.length_map,List.length_range]
  refine⟨fun i hi=>hi,fun i hi=>hi,fun i x v H' hx hy=>?_⟩
  obtain⟨rfl,rfl⟩:=hy
  rw [List.getElem?_map] at hx
  obtain⟨k,h1,rfl⟩:=KW hx
  have h2:=(KY h1).2
  simp at h2
  subst h2
  exact⟨F,aD.refl _,aD.refl _,s1,fun _ h _=>h,bX.mpr rfl⟩
end
inductive GJ (K:PySem.W.Frag) (own:iM) (σ0:L2.St) (F1:Hp) (P:En→Prop) (G:L2.St→Hp→Hp→En→Prop) (σ:L2.St) (H:Hp):Prop
  | mk {F:Hp} {e:En} (R:bh K F H σ e) (kp:keeps own e) (hσ:∀p∈own,σ[p.1]?=σ0[p.1]?) (sF:aD F1 F) (hf:P e) (q:G σ F H e):GJ K own σ0 F1 P G σ H
section
variable{X:Cx}{K:PySem.W.Frag}{tg a b:Expr}{es:List Expr}{fa:FE}{fs:FA}{pos p tp:Pos}{k0:Nat}
def iw(fa:FE):FI:=fun e=>(fa e).bind fun p=>(BW p.2 p.1).map fun s=>(s.2.1,s.2.2,p.2)
theorem dH(hK:X.K=K)(h:PE X a (fE K fa)):PI X tg a (fI K (iw fa)):=((tQ (tg:=tg) hK h).or (Bx (tg:=tg) hK h)).mono fun σ H R hh=>by
  obtain⟨F,e,items,own,e',R0,hf,q⟩:=hh
  unfold iw at hf
  obtain⟨⟨r,e1⟩,h1,hf⟩:=KU hf
  obtain⟨⟨b,xs,ow⟩,h2,hf⟩:=KW hf
  cases hf
  cases b with
  | true=>
    refine .inl ⟨F,e,r,e1,R0,h1,fun F1 H1 v X1 R1 A1=>?_⟩
    obtain⟨F2,p,R2,s2,f2,rfl,sc,kp⟩:=oO R1 A1 h2
    obtain⟨vs,_,c⟩:=sc.at (aD.refl _) R2.sm (R2.held kp) fun _ h=>h
    exact⟨p,rfl,⟨vs,c⟩,q _ F2 H1 (X1.frz s2 f2) R2 kp (qN sc)⟩
  | false=>
    refine .inr ⟨F,e,r,e1,R0,h1,fun F1 H1 v X1 R1 A1=>?_⟩
    obtain⟨F2,p,R2,s2,f2,rfl,sc,kp⟩:=oO R1 A1 h2
    obtain⟨vs,_,c⟩:=sc.at (aD.refl _) R2.sm (R2.held kp) fun _ h=>h
    exact⟨p,rfl,⟨vs,c⟩,q _ F2 H1 (X1.frz s2 f2) R2 kp (yr sc)⟩
def o_(fs:FA):FI:=fun e=>(fs e).bind fun p=>match p.1 with
  | [r]=>(BW p.2 r).map fun s=>(ck 0 s.2.1,s.2.2,p.2)
  | _=>none
theorem mr(hK:X.K=K)(hg:Gl X "enumerate")(hm:X.mg "enumerate"=none)(ha:PA X [a] (fA K fs))(hs:starEach [a] X.env=[(false,eval a X.env)]):PI X (.Tuple es k0 tp) (.Call (.Name "enumerate" p) [a] [] pos) (fI K (o_ fs)):=((y4 (es:=es) (k0:=k0) (tp:=tp) hK hg hm ha hs).or (y6 (es:=es) (k0:=k0) (tp:=tp) hK hg hm ha hs)).mono fun σ H R hh=>by
  obtain⟨F,e,items,own,e',R0,hf,q⟩:=hh
  unfold o_ at hf
  obtain⟨⟨rs,e1⟩,h1,hf⟩:=KU hf
  match rs,h1,hf with
  | [r],h1,hf=>
  obtain⟨⟨b,xs,ow⟩,h2,hf⟩:=KW hf
  cases hf
  cases b with
  | true=>
    refine .inl ⟨F,e,_,e1,R0,h1,fun F1 H1 vs X1 R1 A1=>?_⟩
    obtain⟨v,rfl,A2⟩:=mw A1
    obtain⟨F2,p,R2,s2,f2,rfl,sc,kp⟩:=oO R1 A2 h2
    obtain⟨vs,_,c⟩:=sc.at (aD.refl _) R2.sm (R2.held kp) fun _ h=>h
    exact⟨p,rfl,⟨vs,c⟩,q _ F2 H1 (X1.frz s2 f2) R2 kp (uL sc)⟩
  | false=>
    refine .inr ⟨F,e,_,e1,R0,h1,fun F1 H1 vs X1 R1 A1=>?_⟩
    obtain⟨v,rfl,A2⟩:=mw A1
    obtain⟨F2,p,R2,s2,f2,rfl,sc,kp⟩:=oO R1 A2 h2
    obtain⟨vs,_,c⟩:=sc.at (aD.refl _) R2.sm (R2.held kp) fun _ h=>h
    exact⟨p,rfl,⟨vs,c⟩,q _ F2 H1 (X1.frz s2 f2) R2 kp (uM sc)⟩
def zw(j:Int):Bool:=decide (-1000000≤j)&&decide (j≤1000000)
theorem zx{j:Int}(h:zw j=true): -1000000≤j∧j≤1000000:=by
  unfold zw at h
  rw [Bool.and_eq_true,decide_eq_true_iff,decide_eq_true_iff] at h
  exact h
def eK(fs:FA):FI:=fun e=>(fs e).bind fun p=>match p.1 with
  | [r]=>(bz r).bind fun j=>if zw j=true then some (bx 0 j.toNat,[],p.2) else none
  | _=>none
theorem ff(hg:Gl X "range")(hm:X.mg "range"=none)(ha:PA X [a] (fA K fs))(hs:starEach [a] X.env=[(false,eval a X.env)]):PI X tg (.Call (.Name "range" p) [a] [] pos) (fI K (eK fs)):=(xq hg hm ha hs).mono fun σ H R hh=>by
  obtain⟨F,e,items,own,e',R0,hf,q⟩:=hh
  unfold eK at hf
  obtain⟨⟨rs,e1⟩,h1,hf⟩:=KU hf
  match rs,h1,hf with
  | [r],h1,hf=>
  obtain⟨j,h2,hf⟩:=KU hf
  split at hf
  case isFalse=>cases hf
  case isTrue hj=>
  cases hf
  refine⟨F,e,_,e1,R0,h1,fun F1 H1 vs X1 R1 A1=>?_⟩
  obtain⟨v,rfl,A2⟩:=mw A1
  have:=zx hj
  exact⟨j,by rw [bw A2 h2],by lia,by lia,q _ F1 H1 X1 R1 (fun _ h=>by cases h) uO⟩
open Classical in
noncomputable def eX(own:iM)(g:FG)(f:FS):List PyData→FS
  | [],e=>some (.nx e)
  | x::r,e=>(g x e).bind fun e1=>(f e1).bind fun fl=>match fl with
    | .nx e2=>if keeps own e2 then eX own g f r e2 else none
    | .ct e2=>if keeps own e2 then eX own g f r e2 else none
    | .bk e2=>some (.nx e2)
    | .rt v e2=>some (.rt v e2)
noncomputable def di(W:List Nat)(fi:FI)(g:FG)(f:FS):FS:=fun e=>(fi e).bind fun p=>if (p.2.1.all fun q=> !W.contains q.1)=true then eX p.2.1 g f p.1 p.2.2 else none
theorem cF{W1 W2:List Nat}{iter:Expr}{body:List Stmt}{fi:FI}{g:FG}{f:FS}(hp:PassesOwn (model X.prog X.w) X.A X.env X.xe)(hc:X.calm=true)(hi:PI X tg iter (fI K fi))(hg:PG X tg (fG K g W1))(hb:oj X body (fS K f W2))(hs:∀x,foldedSetIterable iter X.env x=pure x):
    PS X (.For tg iter body [] pos) (fS K (di (W1++W2) fi g f) (W1++W2)):=(DZ hp hc hi hg hb hs).mono fun D σ0 H0 hh=>by
  obtain⟨F0,e0,fl,R0,hf,q0⟩:=hh
  unfold di at hf
  obtain⟨⟨items,own,e1⟩,h1,hf⟩:=KU hf
  dsimp only at hf
  split at hf
  case isFalse=>cases hf
  case isTrue hW=>
  have hW':∀p∈own,p.1∉W1++W2:=fun p hp=>by
    have:=List.all_eq_true.mp hW p hp
    simpa using this
  refine⟨F0,e0,items,own,e1,R0,h1,fun J F1 H1 X1 R1 kp ok=>?_⟩
  have s1:∀j,j∈W1→j∈W1++W2:=fun j h=>List.mem_append.mpr (.inl h)
  have s2:∀j,j∈W2→j∈W1++W2:=fun j h=>List.mem_append.mpr (.inr h)
  have q1:oW K (W1++W2) σ0 F1 H1 e1 D fl:=q0.later (W1:=[]) X1.s (fun j h=>by cases h) fun j h=>h
  refine⟨fun i m σ H=>m=items.length - i∧i≤items.length∧GJ K own σ0 F1 (fun e=>eX own g f (items.drop i) e=some fl) (fun σ F H e=>oW K (W1++W2) σ F H e D fl) σ H,
    ⟨items.length,by simp,Nat.zero_le _,.mk R1 kp (fun _ _=>rfl) (aD.refl _) hf q1⟩,?_⟩
  rintro i m σ H ⟨rfl,hi,⟨R,kp,hσ,sF,hf,q⟩⟩
  rename_i F e
  have held:ww K σ0 F H own:=fun p hp=>by
    obtain⟨l,vs,g1,g2⟩:=R.held kp p hp
    exact⟨l,vs,by rw [←hσ p hp];exact g1,g2⟩
  obtain⟨go,stop,yld⟩:=ok F H sF R.sm held
  by_cases hlt:i < items.length
  · have hd:items.drop i=items[i]::items.drop (i+1):=List.drop_eq_getElem_cons hlt
    rw [hd] at hf
    unfold eX at hf
    obtain⟨e2,h2,hf⟩:=KU hf
    obtain⟨fl2,h3,hf⟩:=KU hf
    refine .inr ⟨go i hlt,GJ K own σ0 F1 (fun e=>eX own g f (items.drop (i+1)) e=some fl) (fun σ F H e=>oW K (W1++W2) σ F H e D fl),
      fun σ' H' r=>⟨items.length - (i+1),by lia,rfl,hlt,r⟩,fun x H' hy=>?_⟩
    obtain⟨F',sH,sF',sm',fz,hx⟩:=yld i items[i] x H' (List.getElem?_eq_getElem hlt) hy
    obtain⟨R',X'⟩:=R.step sH sF' sm' fz
    refine⟨F',e,items[i],e2,R',hx,h2,fun σ2 x2 R2=>⟨F',e2,fl2,R2,h3,?_⟩⟩
    have q2:oW K (W1++W2) σ2 F' H' e2 D fl:=(q.later (W1:=[]) (W2:=W1++W2) X'.s (fun j h=>by cases h) fun j h=>h).later x2 s1 fun j h=>h
    have w2:∀p∈own,σ2[p.1]?=σ0[p.1]?:=fun p hp=>(x2.wr p.1 fun z=>hW' p hp (s1 _ z)).trans (hσ p hp)
    cases fl2 with
    | nx e3=>
      intro F3 H3 σ3 x3 R3
      dsimp only at hf
      split at hf
      case isFalse=>cases hf
      case isTrue kp3=>
      exact .mk R3 kp3 (fun p hp=>(x3.wr p.1 fun z=>hW' p hp (s2 _ z)).trans (w2 p hp)) (sF.trans (sF'.trans x3.sf)) hf (q2.later x3 s2 fun j h=>h)
    | ct e3=>
      intro F3 H3 σ3 x3 R3
      dsimp only at hf
      split at hf
      case isFalse=>cases hf
      case isTrue kp3=>
      exact .mk R3 kp3 (fun p hp=>(x3.wr p.1 fun z=>hW' p hp (s2 _ z)).trans (w2 p hp)) (sF.trans (sF'.trans x3.sf)) hf (q2.later x3 s2 fun j h=>h)
    | bk e3=>
      cases hf
      exact fun F3 H3 σ3 x3 R3=>q2 F3 H3 σ3 (x3.mono s2) R3
    | rt r e3=>
      cases hf
      exact fun F3 H3 σ3 v x3 R3 A3=>q2 F3 H3 σ3 v (x3.mono s2) R3 A3
  · have hd:items.drop i=[]:=List.drop_eq_nil_of_le (by lia)
    rw [hd] at hf
    cases hf
    exact .inl ⟨stop i (by lia),q F H σ dY.refl R⟩
end
def wR:Option (Option Sv)→Bool
  | some (some (.l _))=>true
  | _=>false
theorem vS{s:Option (Option Sv)}:wR s=true↔ ∃xs,s=some (some (.l xs)):=by
  unfold wR
  split
  · simp
  · rename_i h
    constructor
    · intro z;cases z
    · rintro⟨xs,rfl⟩;exact absurd rfl (h xs)
def nq(pos:Nat→Option Nat)(ei e:En):En:=e.mapIdx fun i s=>match s with
  | some (.l xs)=>match pos i with
    | some k=>(ei[k]?).join
    | none=>some (.l xs)
  | s=>s
theorem cB{pos:Nat→Option Nat}{ei e:En}{i:Nat}:(nq pos ei e)[i]?=(e[i]?).map fun s=>match s with
  | some (.l xs)=>match pos i with
    | some k=>(ei[k]?).join
    | none=>some (.l xs)
  | s=>s:=by unfold nq;rw [List.getElem?_mapIdx]
structure sL (σ:L2.St) (e:En) (σi:L2.St) (ei:En) (pos:Nat→Option Nat):Prop where
  a:∀(i k:Nat) (xs:List PyData),e[i]?=some (some (.l xs))→pos i=some k→σi[k]?=σ[i]?
  b:∀(k:Nat) (ys:List PyData),ei[k]?=some (some (.l ys))→∃(i:Nat) (xs:List PyData),e[i]?=some (some (.l xs))∧pos i=some k∧σi[k]?=σ[i]?
section
variable{K:PySem.W.Frag}{σ σi σi':L2.St}{F H F' H':Hp}{e ei ei':En}{pos:Nat→Option Nat}
def ES(e:En):Prop:=∀(i:Nat) (xss:List (List PyData)),e[i]?≠some (some (.n xss))
theorem sL.own(s:sL σ e σi ei pos)(hn:ES ei){a:Addr}{H H':Hp}(h:dn σi ei H a):∃(i k:Nat) (xs:List PyData),e[i]?=some (some (.l xs))∧pos i=some k∧σ[i]?=some (some (.ref a)):=by
  obtain⟨k,⟨ys,h1,h2⟩ | ⟨xss,_,_,h1,_⟩⟩:=h
  · obtain⟨i,xs,g1,g2,g3⟩:=s.b k ys h1
    exact⟨i,k,xs,g1,g2,by rw [←g3];exact h2⟩
  · exact absurd h1 (hn k xss)
theorem pZ(R:bh K F H σ e)(s:sL σ e σi ei pos)(hnn:ES ei)(sf:aD F F')(dom:∀a,H' a=none→H a=none)(fr:∀a vs,F a=none→H a=some (.lst vs)→¬dn σi ei H a→F' a=none)(lst:∀a vs,H a=some (.lst vs)→∃vs',H' a=some (.lst vs'))
    (tmp:∀a o,H a=some o→¬dn σi ei H a→H' a=some o)(R':bh K F' H' σi' ei')(hσ:∀(i k:Nat) (xs:List PyData),e[i]?=some (some (.l xs))→pos i=some k→σi'[k]?=σi[k]?)(hsh:∀(i k:Nat) (xs:List PyData),e[i]?=some (some (.l xs))→pos i=some k→∃ys,ei'[k]?=some (some (.l ys))):
    bh K F' H' σ (nq pos ei' e)∧eS σ F H e F' H' (nq pos ei' e)∧∀a,dn σ (nq pos ei' e) H' a→dn σ e H a:=by
  have shp:∀i:Nat,(∃xs,(nq pos ei' e)[i]?=some (some (.l xs)))↔ (∃xs,e[i]?=some (some (.l xs))):=by
    intro i
    rw [cB]
    match h:e[i]? with
    | none=>simp
    | some none=>simp
    | some (some (.d x))=>simp
    | some (some (.n x))=>simp
    | some (some (.l xs))=>
      simp only [Option.map_some]
      constructor
      · intro _;exact⟨xs,rfl⟩
      · intro _
        match hp:pos i with
        | none=>exact⟨xs,rfl⟩
        | some k=>
          obtain⟨ys,g⟩:=hsh i k xs h hp
          exact⟨ys,by show some ((ei'[k]?).join)=_;rw [g];rfl⟩
  have oth:∀(i:Nat) (s:Sv),(∀xs,s≠.l xs)→((nq pos ei' e)[i]?=some (some s)↔ e[i]?=some (some s)):=by
    intro i s hs
    constructor
    · intro h
      rw [cB] at h
      match h1:e[i]?,h with
      | some (some (.d y)),h=>exact h
      | some (some (.n y)),h=>exact h
      | some (some (.l ys)),h=>
        simp only [Option.map_some,Option.some.injEq] at h
        match hp:pos i,h with
        | none,h=>cases h;exact absurd rfl (hs _)
        | some k,h=>
          obtain⟨zs,g⟩:=hsh i k ys h1 hp
          change (ei'[k]?).join=_ at h
          rw [g] at h;cases h;exact absurd rfl (hs _)
      | some none,h=>simp at h
      | none,h=>simp at h
    · intro h
      rw [cB,h]
      cases s with
      | d y=>rfl
      | n y=>rfl
      | l y=>exact absurd rfl (hs y)
  have out:∀i a,Fp σ e H i a→(∀k xs,e[i]?=some (some (.l xs))→pos i≠some k)→¬dn σi ei H a:=by
    intro i a hi hp z
    obtain⟨j,k,ws,d1,d2,d3⟩:=s.own hnn (H':=H') z
    have:i=j:=R.fp i j a hi (.inl ⟨ws,d1,d3⟩)
    subst this
    exact hp k ws d1 d2
  have keep:∀i a o,Fp σ e H i a→(∀k xs,e[i]?=some (some (.l xs))→pos i≠some k)→H a=some o→H' a=some o:=fun i a o hi hp ha=>tmp a o ha (out i a hi hp)
  have sown:∀a,dn σi ei H a→dn σ e H a:=fun a z=>by
    obtain⟨j,k,ws,d1,d2,d3⟩:=s.own hnn (H':=H') z
    exact⟨j,.inl ⟨ws,d1,d3⟩⟩
  have fs:∀i a,Fp σ (nq pos ei' e) H' i a↔ Fp σ e H i a:=by
    intro i a
    have key:∀xss l,e[i]?=some (some (.n xss))→σ[i]?=some (some (.ref l))→H' l=H l:=fun xss l h1 h2=>by
      obtain⟨l',bs,g1,g2,g3,_⟩:=R.nst i xss h1
      rw [h2] at g1;cases g1
      rw [g3]
      exact keep i l _ (.inr ⟨xss,l,bs,h1,h2,g3,.inl rfl⟩) (fun k xs z=>by rw [h1] at z;cases z) g3
    constructor
    · rintro(⟨xs,h1,h2⟩ | ⟨xss,l,bs,h1,h2,h3,h4⟩)
      · obtain⟨ys,h⟩:=(shp i).mp ⟨xs,h1⟩
        exact .inl ⟨ys,h,h2⟩
      · have h1':=(oth i (.n xss) (fun _ z=>nomatch z)).mp h1
        exact .inr ⟨xss,l,bs,h1',h2,by rw [←key xss l h1' h2];exact h3,h4⟩
    · rintro(⟨xs,h1,h2⟩ | ⟨xss,l,bs,h1,h2,h3,h4⟩)
      · obtain⟨ys,h⟩:=(shp i).mpr ⟨xs,h1⟩
        exact .inl ⟨ys,h,h2⟩
      · exact .inr ⟨xss,l,bs,(oth i (.n xss) (fun _ z=>nomatch z)).mpr h1,h2,by rw [key xss l h1 h2];exact h3,h4⟩
  refine⟨⟨R'.sm,?_,fun i x h=>?_,fun i xs h=>?_,fun i xss h=>?_,fun i j a h1 h2=>R.fp i j a ((fs i a).mp h1) ((fs j a).mp h2)⟩,⟨sf,dom,fun a vs h1 h2 n=>fr a vs h1 h2 fun z=>n (sown a z),lst,fun a o h n=>tmp a o h fun z=>n (sown a z),shp,fun a ⟨i,h⟩=>.inl ⟨i,(fs i a).mp h⟩⟩,fun a ⟨i,h⟩=>⟨i,(fs i a).mp h⟩⟩
  · unfold nq;rw [List.length_mapIdx];exact R.len
  · obtain⟨v,g1,g2⟩:=R.dat i x ((oth i (.d x) (fun _ z=>nomatch z)).mp h)
    exact⟨v,g1,DA.mono sf g2⟩
  · obtain⟨ys,h1⟩:=(shp i).mp ⟨xs,h⟩
    obtain⟨l,vs,g1,g2,g3,g4⟩:=R.own i ys h1
    rw [cB,h1] at h
    simp only [Option.map_some,Option.some.injEq] at h
    match hp:pos i,h with
    | none,h=>
      cases h
      have np:∀k xs,e[i]?=some (some (Sv.l xs))→pos i≠some k:=fun k xs _ z=>by rw [hp] at z;cases z
      have fi:Fp σ e H i l:=.inl ⟨_,h1,g1⟩
      exact⟨l,vs,g1,fr l vs g2 g3 (out i l fi np),keep i l _ fi np g3,g4.mono sf⟩
    | some k,h=>
      obtain⟨zs,c1⟩:=hsh i k ys h1 hp
      change (ei'[k]?).join=_ at h
      rw [c1] at h;cases h
      obtain⟨l',vs',d1,d2,d3,d4⟩:=R'.own k _ c1
      rw [hσ i k ys h1 hp,s.a i k ys h1 hp] at d1
      exact⟨l',vs',d1,d2,d3,d4⟩
  · have h1:=(oth i (.n xss) (fun _ z=>nomatch z)).mp h
    obtain⟨l,bs,g1,g2,g3,g4,g5,g6,g7⟩:=R.nst i xss h1
    have np:∀k xs,e[i]?=some (some (Sv.l xs))→pos i≠some k:=fun k xs z=>by rw [h1] at z;cases z
    have fi:Fp σ e H i l:=.inr ⟨xss,l,bs,h1,g1,g3,.inl rfl⟩
    refine⟨l,bs,g1,fr l _ g2 g3 (out i l fi np),keep i l _ fi np g3,g4,g5,g6,fun k b ys q1 q2=>?_⟩
    obtain⟨c1,us,c2,c3⟩:=g7 k b ys q1 q2
    have fb:Fp σ e H i b:=.inr ⟨xss,l,bs,h1,g1,g3,.inr (K2 q1)⟩
    exact⟨fr b _ c1 c2 (out i b fb np),us,keep i b _ fb np c2,c3.mono sf⟩
end
def cf(e:En):List Rv→Option (List Sv)
  | []=>some []
  | .d x::r=>(cf e r).map (.d x::·)
  | .l xs::r=>(cf e r).map (.d (.list xs)::·)
  | .s i::r=>match e[i]? with
    | some (some (.l xs))=>(cf e r).map (.l xs::·)
    | _=>none
def aL:List Rv→List Nat
  | []=>[]
  | .s i::r=>i::aL r
  | .d _::r=>aL r
  | .l _::r=>aL r
def lJ(rs:List Rv)(i:Nat):Option Nat:=rs.findIdx? fun r=>match r with
  | .s j=>j==i
  | _=>false
def noS:Rv→Prop
  | .s _=>False
  | _=>True
abbrev FM:=List Sv→Option (Rv × List Sv)
def bL(K:PySem.W.Frag)(n:Nat)(m:FM):Sp:=fun vs H Q _=>vs.length=n∧∃F as r as',bh K F H (vs.map some) (as.map some)∧ES (as.map some)∧m as=some (r,as')∧noS r∧
  ∀F' H' v,eS (vs.map some) F H (as.map some) F' H' (as'.map some)→bh K F' H' (vs.map some) (as'.map some)→cU K (vs.map some) H F' H' (as'.map some) r v→Q v H'
def bg:List Rv→List Sv→Bool
  | [],[]=>true
  | .s _::r,.l _::s=>bg r s
  | .d _::r,_::s=>bg r s
  | .l _::r,_::s=>bg r s
  | _,_=>false
def rZ:Rv→Bool
  | .s _=>false
  | _=>true
def ed:List Rv→List Sv→En→En
  | .s i::r,.l ys::s,e=>ed r s (e.set i (some (.l ys)))
  | .d _::r,_::s,e=>ed r s e
  | .l _::r,_::s,e=>ed r s e
  | _,_,e=>e
def bV(n:Nat)(m:FM)(fs:FA):FE:=fun e=>(fs e).bind fun p=>(cf p.2 p.1).bind fun as=>(m as).bind fun z=>if p.1.length=n∧(aL p.1).Nodup∧bg p.1 z.2=true∧rZ z.1=true then some (z.1,ed p.1 z.2 p.2) else none
theorem jz:∀{rs:List Rv} {as:List Sv},bg rs as=true→∀(k i:Nat),rs[k]?=some (.s i)→∃ys,as[k]?=some (.l ys)
  | [],[],_,k,i,h=>by simp at h
  | .s j::r,.l ys::s,h,k,i,hk=>by
    cases k with
    | zero=>exact⟨ys,rfl⟩
    | succ k=>simpa using jz (rs:=r) (as:=s) (by simpa [bg] using h) k i (by simpa using hk)
  | .d x::r,y::s,h,k,i,hk=>by
    cases k with
    | zero=>simp at hk
    | succ k=>simpa using jz (rs:=r) (as:=s) (by simpa [bg] using h) k i (by simpa using hk)
  | .l x::r,y::s,h,k,i,hk=>by
    cases k with
    | zero=>simp at hk
    | succ k=>simpa using jz (rs:=r) (as:=s) (by simpa [bg] using h) k i (by simpa using hk)
  | .s _::_,.d _::_,h,_,_,_=>by simp [bg] at h
  | .s _::_,[],h,_,_,_=>by simp [bg] at h
  | .d _::_,[],h,_,_,_=>by simp [bg] at h
  | .l _::_,[],h,_,_,_=>by simp [bg] at h
theorem m5{r0:Rv}{rs:List Rv}{i:Nat}:lJ (r0::rs) i=if (match r0 with | .s j=>j==i | _=>false)=true then some 0 else(lJ rs i).map (· +1):=by
  unfold lJ;rw [List.findIdx?_cons]
theorem m6{rs:List Rv}{i k:Nat}(h:lJ rs i=some k):rs[k]?=some (.s i):=by
  unfold lJ at h
  rw [List.findIdx?_eq_some_iff_getElem] at h
  obtain⟨hk,h1,_⟩:=h
  rw [List.getElem?_eq_getElem hk]
  split at h1
  · rename_i heq
    rw [heq]
    have:=eq_of_beq h1
    rw [this]
  · cases h1
theorem gW:∀{rs:List Rv} {i:Nat},i∈aL rs↔ Rv.s i∈rs
  | [],i=>by simp [aL]
  | .s j::r,i=>by simp [aL,gW (rs:=r)]
  | .d x::r,i=>by simp [aL,gW (rs:=r)]
  | .l x::r,i=>by simp [aL,gW (rs:=r)]
theorem ip:∀{rs:List Rv} {i k j:Nat},(aL rs).Nodup→rs[k]?=some (.s i)→rs[j]?=some (.s i)→k=j
  | [],i,k,j,_,h,_=>by simp at h
  | .s m::r,i,k,j,hn,h1,h2=>by
    simp only [aL,List.nodup_cons] at hn
    cases k with
    | zero=>
      simp at h1;subst h1
      cases j with
      | zero=>rfl
      | succ j=>exact absurd (gW.mpr (K2 (by simpa using h2))) hn.1
    | succ k=>
      cases j with
      | zero=>
        simp at h2;subst h2
        exact absurd (gW.mpr (K2 (by simpa using h1))) hn.1
      | succ j=>
        have:=ip (rs:=r) (i:=i) (k:=k) (j:=j) hn.2 (by simpa using h1) (by simpa using h2)
        lia
  | .d x::r,i,k,j,hn,h1,h2=>by
    cases k with
    | zero=>simp at h1
    | succ k=>
      cases j with
      | zero=>simp at h2
      | succ j=>
        have:=ip (rs:=r) (i:=i) (k:=k) (j:=j) (by simpa [aL] using hn) (by simpa using h1) (by simpa using h2)
        lia
  | .l x::r,i,k,j,hn,h1,h2=>by
    cases k with
    | zero=>simp at h1
    | succ k=>
      cases j with
      | zero=>simp at h2
      | succ j=>
        have:=ip (rs:=r) (i:=i) (k:=k) (j:=j) (by simpa [aL] using hn) (by simpa using h1) (by simpa using h2)
        lia
theorem y9{rs:List Rv}{i:Nat}(h:i∉aL rs):lJ rs i=none:=by
  unfold lJ
  rw [List.findIdx?_eq_none_iff]
  intro r hr
  cases r with
  | d x=>rfl
  | l x=>rfl
  | s j=>
    have:j≠i:=fun z=>h (by rw [←z];exact gW.mpr hr)
    simpa using this
theorem oF:∀{rs:List Rv} {as:List Sv} {e:En},(aL rs).Nodup→bg rs as=true→(∀j∈aL rs,∃xs,e[j]?=some (some (.l xs)))→ed rs as e=nq (lJ rs) (as.map some) e
  | [],[],e,_,_,_=>by
    refine List.ext_getElem? fun i=>?_
    rw [cB]
    have:lJ [] i=none:=rfl
    rw [this]
    simp only [ed]
    match e[i]? with
    | none=>rfl
    | some none=>rfl
    | some (some (.d x))=>rfl
    | some (some (.l x))=>rfl
    | some (some (.n x))=>rfl
  | .d x::r,y::s,e,hn,hl,hs=>by
    rw [show ed (.d x::r) (y::s) e=ed r s e from rfl,oF (by simpa [aL] using hn) (by simpa [bg] using hl) (fun j hj=>hs j (by simpa [aL] using hj))]
    refine List.ext_getElem? fun i=>?_
    rw [cB,cB,m5]
    cases lJ r i<;>simp
  | .l x::r,y::s,e,hn,hl,hs=>by
    rw [show ed (.l x::r) (y::s) e=ed r s e from rfl,oF (by simpa [aL] using hn) (by simpa [bg] using hl) (fun j hj=>hs j (by simpa [aL] using hj))]
    refine List.ext_getElem? fun i=>?_
    rw [cB,cB,m5]
    cases lJ r i<;>simp
  | .s k::r,.l ys::s,e,hn,hl,hs=>by
    simp only [aL,List.nodup_cons] at hn
    obtain⟨xs,hk⟩:=hs k (by simp [aL])
    have hlt:k < e.length:=(KY hk).1
    rw [show ed (.s k::r) (.l ys::s) e=ed r s (e.set k (some (.l ys))) from rfl,oF hn.2 (by simpa [bg] using hl) (fun j hj=>by
      have z:k≠j:=fun z=>hn.1 (by rw [z];exact hj)
      rw [List.getElem?_set_ne z]
      exact hs j (by simp [aL,hj]))]
    refine List.ext_getElem? fun i=>?_
    rw [cB,cB,m5]
    by_cases z:k=i
    · subst z
      rw [List.getElem?_set_self hlt,hk,y9 hn.1]
      simp
    · rw [List.getElem?_set_ne z]
      have:((match (Rv.s k) with | .s j=>j==i | _=>false)=true)=False:=by simp [z]
      simp only [this,if_false]
      cases lJ r i<;>simp
  | .s _::_,.d _::_,_,_,h,_=>by simp [bg] at h
  | .s _::_,.n _::_,_,_,h,_=>by simp [bg] at h
  | .s _::_,[],_,_,h,_=>by simp [bg] at h
  | .d _::_,[],_,_,h,_=>by simp [bg] at h
  | .l _::_,[],_,_,h,_=>by simp [bg] at h
  | [],_::_,_,_,h,_=>by simp [bg] at h
theorem gJ{e:En}:∀{rs:List Rv} {as:List Sv},cf e rs=some as→∀j∈aL rs,∃xs,e[j]?=some (some (.l xs))
  | [],_,_,j,h=>by simp [aL] at h
  | .d x::rs,as,q,j,h=>by
    obtain⟨as',q1,rfl⟩:=KW q
    exact gJ q1 j (by simpa [aL] using h)
  | .l x::rs,as,q,j,h=>by
    obtain⟨as',q1,rfl⟩:=KW q
    exact gJ q1 j (by simpa [aL] using h)
  | .s k::rs,as,q,j,h=>by
    unfold cf at q
    match he:e[k]?,q with
    | some (some (.l xs)),q=>
      obtain⟨as',q1,rfl⟩:=KW q
      simp only [aL,List.mem_cons] at h
      rcases h with rfl | h
      · exact⟨xs,he⟩
      · exact gJ q1 j h
theorem lO{e:En}:∀{rs:List Rv} {as:List Sv} {k i:Nat},cf e rs=some as→rs[k]?=some (.s i)→∃xs,as[k]?=some (.l xs)
  | [],_,k,i,_,h=>by simp at h
  | .d x::rs,as,k,i,q,h=>by
    obtain⟨as',q1,rfl⟩:=KW q
    cases k with
    | zero=>simp at h
    | succ k=>simpa using lO (k:=k) (i:=i) q1 (by simpa using h)
  | .l x::rs,as,k,i,q,h=>by
    obtain⟨as',q1,rfl⟩:=KW q
    cases k with
    | zero=>simp at h
    | succ k=>simpa using lO (k:=k) (i:=i) q1 (by simpa using h)
  | .s j::rs,as,k,i,q,h=>by
    unfold cf at q
    match he:e[j]?,q with
    | some (some (.l xs)),q=>
      obtain⟨as',q1,rfl⟩:=KW q
      cases k with
      | zero=>exact⟨xs,rfl⟩
      | succ k=>simpa using lO (k:=k) (i:=i) q1 (by simpa using h)
section
variable{X:Cx}{K:PySem.W.Frag}{σ:L2.St}{H0 H:Hp}{e:En}
theorem oB:∀{rs:List Rv} {vs:List V} {as:List Sv} {F:Hp},bh K F H σ e→dI K σ H0 F H e rs vs→cf e rs=some as→
    ∃F',bh K F' H σ e∧aD F F'∧(∀a,F a=none→H0 a≠none→F' a=none)∧vs.length=as.length∧rs.length=as.length∧
      (∀(k:Nat) (x:PyData),as[k]?=some (.d x)→∃v,vs[k]?=some v∧DA K F' x v)∧∀(k:Nat) (xs:List PyData),as[k]?=some (.l xs)→∃i,rs[k]?=some (.s i)∧e[i]?=some (some (.l xs))∧∃v,vs[k]?=some v∧σ[i]?=some (some v)
  | [],vs,as,F,R,h,q=>by
    cases q
    have h':vs=[]:=h
    subst h'
    exact⟨F,R,aD.refl _,fun _ h _=>h,rfl,rfl,fun k x h=>by simp at h,fun k x h=>by simp at h⟩
  | .d x::rs,_,as,F,R,h,q=>by
    obtain⟨v,ws,rfl,h1,h2⟩:=h
    obtain⟨as',q1,rfl⟩:=KW q
    obtain⟨F',R',s',f',l1,l2,d',o'⟩:=oB R h2 q1
    refine⟨F',R',s',f',by simp [l1],by simp [l2],fun k y hk=>?_,fun k ys hk=>?_⟩
    · cases k with
      | zero=>simp at hk;subst hk;exact⟨v,rfl,DA.mono s' h1⟩
      | succ k=>simpa using d' k y (by simpa using hk)
    · cases k with
      | zero=>simp at hk
      | succ k=>simpa using o' k ys (by simpa using hk)
  | .l xs::rs,_,as,F,R,h,q=>by
    obtain⟨v,ws,rfl,h1,h2⟩:=h
    obtain⟨as',q1,rfl⟩:=KW q
    obtain⟨F',R',s',f',l1,l2,d',o'⟩:=oB R h2 q1
    have key:∃F2,bh K F2 H σ e∧aD F' F2∧(∀a,F' a=none→H0 a≠none→F2 a=none)∧DA K F2 (.list xs) v:=by
      obtain⟨l,us,rfl,g1,g2,g3,g4,g5⟩:=h1
      cases hl:F' l with
      | none=>
        have h1':cU K σ H0 F' H e (.l xs) (.ref l):=⟨l,us,rfl,g1,hl,g3,aS.mono s' g4,g5⟩
        obtain⟨F2,R2,s2,d2,f2⟩:=h1'.frozen R'
        exact⟨F2,R2,s2,f2,d2⟩
      | some o=>
        have:=R'.sm _ _ hl
        rw [g3] at this;cases this
        exact⟨F',R',aD.refl _,fun _ h _=>h,d9.mpr ⟨l,us,rfl,.inl (.inl hl),aS.mono s' g4⟩⟩
    obtain⟨F2,R2,s2,f2,d2⟩:=key
    refine⟨F2,R2,s'.trans s2,fun a ha hn=>f2 a (f' a ha hn) hn,by simp [l1],by simp [l2],fun k y hk=>?_,fun k ys hk=>?_⟩
    · cases k with
      | zero=>simp at hk;subst hk;exact⟨v,rfl,d2⟩
      | succ k=>
        obtain⟨u,c1,c2⟩:=d' k y (by simpa using hk)
        exact⟨u,by simpa using c1,DA.mono s2 c2⟩
    · cases k with
      | zero=>simp at hk
      | succ k=>simpa using o' k ys (by simpa using hk)
  | .s i::rs,_,as,F,R,h,q=>by
    obtain⟨v,ws,rfl,h1,h2⟩:=h
    unfold cf at q
    match he:e[i]?,q with
    | some (some (.l xs)),q=>
      obtain⟨as',q1,rfl⟩:=KW q
      obtain⟨F',R',s',f',l1,l2,d',o'⟩:=oB R h2 q1
      refine⟨F',R',s',f',by simp [l1],by simp [l2],fun k y hk=>?_,fun k ys hk=>?_⟩
      · cases k with
        | zero=>simp at hk
        | succ k=>simpa using d' k y (by simpa using hk)
      · cases k with
        | zero=>simp at hk;subst hk;exact⟨i,rfl,he,v,rfl,h1.1⟩
        | succ k=>simpa using o' k ys (by simpa using hk)
theorem gL{α:Type}{l:List α}{k:Nat}{x:α}:(l.map some)[k]?=some (some x)↔ l[k]?=some x:=by
  rw [List.getElem?_map]
  cases l[k]?<;>simp
theorem cU.noS{σ':L2.St}{e':En}{F H:Hp}{r:Rv}{v:V}(h:cU K σ' H0 F H e' r v)(n:L2.noS r)(ho:∀a,dn σ e H a→H0 a≠none):cU K σ H0 F H e r v:=by
  cases r with
  | d x=>exact h
  | l xs=>
    obtain⟨l,vs,e1,h1,h2,h3,h4,_⟩:=h
    exact⟨l,vs,e1,h1,h2,h3,h4,fun z=>ho l z h1⟩
  | s i=>exact absurd n (by simp [L2.noS])
theorem jj:∀{rs:List Rv} {as:List Sv},cf e rs=some as→ES (as.map some)
  | [],_,q=>by cases q;intro i xss h;simp at h
  | .d x::rs,as,q=>by
    obtain⟨as',q1,rfl⟩:=KW q
    have ih:=jj q1
    intro i xss h
    cases i with
    | zero=>simp at h
    | succ i=>exact ih i xss (by simpa using h)
  | .l x::rs,as,q=>by
    obtain⟨as',q1,rfl⟩:=KW q
    have ih:=jj q1
    intro i xss h
    cases i with
    | zero=>simp at h
    | succ i=>exact ih i xss (by simpa using h)
  | .s j::rs,as,q=>by
    unfold cf at q
    match he:e[j]?,q with
    | some (some (.l xs)),q=>
      obtain⟨as',q1,rfl⟩:=KW q
      have ih:=jj q1
      intro i xss h
      cases i with
      | zero=>simp at h
      | succ i=>exact ih i xss (by simpa using h)
theorem EI{n:Nat}{m:FM}{fs:FA}{Q:VK}{E:XK}(h:fE K (bV n m fs) σ H Q):zI (bL K n m) [] E (fA K fs) σ H Q:=by
  obtain⟨F,e,z,e',R,hf,q⟩:=h
  unfold bV at hf
  obtain⟨⟨rs,e1⟩,h1,hf⟩:=KU hf
  obtain⟨as,h2,hf⟩:=KU hf
  obtain⟨⟨r,as'⟩,h3,hf⟩:=KU hf
  split at hf
  case isFalse=>cases hf
  case isTrue hc=>
  obtain⟨c1,c2,c3,c4⟩:=hc
  cases hf
  refine⟨F,e,rs,e1,R,h1,fun F1 H1 vs X1 R1 A1=>?_⟩
  obtain⟨F2,R2,s2,f2,l1,l2,d2,o2⟩:=oB R1 A1 h2
  have X2:=X1.frz s2 f2
  rw [List.append_nil]
  have hn:L2.noS r:=by
    cases r with
    | d x=>trivial
    | l x=>trivial
    | s i=>cases c4
  have nN:=jj h2
  have RA:bh K F2 H1 (vs.map some) (as.map some):=by
    refine⟨R2.sm,by simp [l1],fun k x hk=>?_,fun k xs hk=>?_,fun k xss hk=>absurd hk (nN k xss),fun k j l f1 f2=>?_⟩
    · obtain⟨v,g1,g2⟩:=d2 k x (gL.mp hk)
      exact⟨v,gL.mpr g1,g2⟩
    · obtain⟨i,g1,g2,v,g3,g4⟩:=o2 k xs (gL.mp hk)
      obtain⟨l,us,k1,k2,k3,k4⟩:=R2.own i xs g2
      rw [g4] at k1;cases k1
      exact⟨l,us,gL.mpr g3,k2,k3,k4⟩
    · obtain⟨xs,g1,g3⟩:=f1.resolve_right fun⟨xss,_,_,z,_⟩=>nN k xss z
      obtain⟨ys,g2,g4⟩:=f2.resolve_right fun⟨xss,_,_,z,_⟩=>nN j xss z
      obtain⟨i1,a1,a2,v1,a3,a4⟩:=o2 k xs (gL.mp g1)
      obtain⟨i2,b1,b2,v2,b3,b4⟩:=o2 j ys (gL.mp g2)
      have e1:=gL.mp g3
      have e2:=gL.mp g4
      rw [a3] at e1;cases e1
      rw [b3] at e2;cases e2
      have:i1=i2:=R2.inj i1 i2 xs ys l a2 b2 a4 b4
      subst this
      exact ip c2 a1 b1
  have sub:sL σ e1 (vs.map some) (as.map some) (lJ rs):=by
    refine⟨fun i k xs g1 g2=>?_,fun k ys g1=>?_⟩
    · have g3:=m6 g2
      obtain⟨zs,hs⟩:=lO h2 g3
      obtain⟨i',a1,a2,v,a3,a4⟩:=o2 k zs hs
      rw [g3] at a1;cases a1
      rw [gL.mpr a3,a4]
    · obtain⟨i,a1,a2,v,a3,a4⟩:=o2 k ys (gL.mp g1)
      refine⟨i,ys,a2,?_,by rw [gL.mpr a3,a4]⟩
      cases hp:lJ rs i with
      | none=>
        unfold lJ at hp
        rw [List.findIdx?_eq_none_iff] at hp
        have:=hp _ (K2 a1)
        simp at this
      | some j=>rw [ip c2 (m6 hp) a1]
  refine⟨by rw [l1,←l2];exact c1,F2,as,r,as',RA,nN,h3,hn,fun F' H' v X3 R3 A3=>?_⟩
  obtain⟨R4,X4,o4⟩:=pZ R2 sub nN X3.sf X3.dom X3.fr X3.lst X3.tmp R3 (fun _ _ _ _ _=>rfl) fun i k xs g1 g2=>by
    obtain⟨ys,g3⟩:=jz c3 k i (m6 g2)
    exact⟨ys,gL.mpr g3⟩
  have hb:=oF (e:=e1) c2 c3 (gJ h2)
  rw [←hb] at R4 X4 o4
  exact q F' H' v (X2.trans X4) R4 ((A3.noS hn fun a z=>R2.ownH a (o4 a z)).weak X2.dom)
theorem a9{x:Str}{st:Stmt}{f:Addr}{fd:FuncData}{ps:List Str}{k n:Nat}{m:FM}{a:Expr}{es:List Expr}{fs:FA}{p pos:Pos}(h:a' X.K X.mg x st f fd ps)(G:aJ X.prog X.w X.K X.mg X.base bG k f fd ps (bL K n m))(hr:eA k X.A)(ha:PA X (a::es) (fA K fs))
    (hg:Gl X x)(hdb:(x==("__debug__":Str))=false)(he:starEach (a::es) X.env=(false,eval a X.env)::starEach es X.env)(hpl:(backTo pos (starEach es X.env)).any (·.1)=false):
    PE X (.Call (.Name x p) (a::es) [] pos) (fE K (bV n m fs)):=(G9 h G hr ha hg hdb he hpl).mono fun _ _ _ h=>EI h
def sG:List Sv→En→Option (List Sv)
  | [],_=>some []
  | .d x::r,e=>(sG r e.tail).map (.d x::·)
  | .l _::r,e=>match e.head? with
    | some (some (.l ys))=>(sG r e.tail).map (.l ys::·)
    | _=>none
  | .n _::_,_=>none
def qb(n:Nat)(e:En):Rv→Option Rv
  | .s i=>if n≤i then match e[i]? with
      | some (some (.l xs))=>some (.l xs)
      | _=>none
    else none
  | r=>some r
def kr(W:List Nat)(as:List Sv):Bool:=W.all fun j=>match as[j]? with
  | some (.l _)=>false
  | _=>true
def gM(n k:Nat)(W:List Nat)(f:FS):FM:=fun as=>if as.length=n∧kr W as=true then(f (as.map some++List.replicate k none)).bind fun fl=>match fl with
    | .rt r e=>(qb n e r).bind fun r'=>(sG as e).map fun as'=>(r',as')
    | .nx e=>(sG as e).map fun as'=>(.d .none,as')
    | _=>none
  else none
theorem oP:∀{as as':List Sv} {e:En},sG as e=some as'→as'.length=as.length∧(∀(j:Nat) (x:PyData),as'[j]?=some (.d x)↔ as[j]?=some (.d x))∧(∀(j:Nat) (ys:List PyData),as'[j]?=some (.l ys)→(∃xs,as[j]?=some (.l xs))∧e[j]?=some (some (.l ys)))∧∀(j:Nat) (xs:List PyData),as[j]?=some (.l xs)→∃ys,as'[j]?=some (.l ys)
  | [],_,e,h=>by cases h;simp
  | .d x::r,_,e,h=>by
    obtain⟨s,h1,rfl⟩:=KW h
    obtain⟨g1,g2,g3,g4⟩:=oP h1
    refine⟨by simp [g1],fun j y=>?_,fun j ys hj=>?_,fun j xs hj=>?_⟩
    · cases j with
      | zero=>simp
      | succ j=>simpa using g2 j y
    · cases j with
      | zero=>simp at hj
      | succ j=>
        obtain⟨c1,c2⟩:=g3 j ys (by simpa using hj)
        refine⟨by simpa using c1,?_⟩
        rw [List.getElem?_tail] at c2
        exact c2
    · cases j with
      | zero=>simp at hj
      | succ j=>simpa using g4 j xs (by simpa using hj)
  | .l xs::r,_,e,h=>by
    unfold sG at h
    match he:e.head?,h with
    | some (some (.l ys)),h=>
      obtain⟨s,h1,rfl⟩:=KW h
      obtain⟨g1,g2,g3,g4⟩:=oP h1
      refine⟨by simp [g1],fun j y=>?_,fun j zs hj=>?_,fun j zs hj=>?_⟩
      · cases j with
        | zero=>simp
        | succ j=>simpa using g2 j y
      · cases j with
        | zero=>
          simp at hj;subst hj
          exact⟨⟨xs,rfl⟩,by rw [List.head?_eq_getElem?] at he;exact he⟩
        | succ j=>
          obtain⟨c1,c2⟩:=g3 j zs (by simpa using hj)
          refine⟨by simpa using c1,?_⟩
          rw [List.getElem?_tail] at c2
          exact c2
      · cases j with
        | zero=>exact⟨ys,rfl⟩
        | succ j=>simpa using g4 j zs (by simpa using hj)
  | .n x::r,_,e,h=>by simp [sG] at h
end
theorem fy{α:Type}{l:List (Option α)}{k i:Nat}{x:α}(h:(l++List.replicate k none)[i]?=some (some x)):l[i]?=some (some x):=by
  rw [List.getElem?_append] at h
  split at h
  · exact h
  · rw [List.getElem?_replicate] at h
    split at h<;>simp at h
theorem fW{α:Type}{l:List (Option α)}{k i:Nat}{x:α}(h:l[i]?=some (some x)):(l++List.replicate k none)[i]?=some (some x):=by
  have hi:i < l.length:=(KY h).1
  rw [List.getElem?_append_left hi];exact h
section
variable{K:PySem.W.Frag}{F H:Hp}{σ:L2.St}{e:En}{k:Nat}
theorem rQ{i:Nat}{a:Addr}:Fp (σ++List.replicate k none) (e++List.replicate k none) H i a↔ Fp σ e H i a:=by
  constructor
  · rintro(⟨xs,h1,h2⟩ | ⟨xss,l,bs,h1,h2,h3⟩)
    · exact .inl ⟨xs,fy h1,fy h2⟩
    · exact .inr ⟨xss,l,bs,fy h1,fy h2,h3⟩
  · rintro(⟨xs,h1,h2⟩ | ⟨xss,l,bs,h1,h2,h3⟩)
    · exact .inl ⟨xs,fW h1,fW h2⟩
    · exact .inr ⟨xss,l,bs,fW h1,fW h2,h3⟩
theorem sj{a:Addr}:dn (σ++List.replicate k none) (e++List.replicate k none) H a↔ dn σ e H a:=⟨fun⟨i,h⟩=>⟨i,rQ.mp h⟩,fun⟨i,h⟩=>⟨i,rQ.mpr h⟩⟩
theorem bh.pad(R:bh K F H σ e):bh K F H (σ++List.replicate k none) (e++List.replicate k none):=by
  refine⟨R.sm,by simp [R.len],fun i x h=>?_,fun i xs h=>?_,fun i xss h=>?_,fun i j a h1 h2=>R.fp i j a (rQ.mp h1) (rQ.mp h2)⟩
  · obtain⟨v,g1,g2⟩:=R.dat i x (fy h)
    exact⟨v,fW g1,g2⟩
  · obtain⟨l,vs,g1,g2⟩:=R.own i xs (fy h)
    exact⟨l,vs,fW g1,g2⟩
  · obtain⟨l,bs,g1,g2⟩:=R.nst i xss (fy h)
    exact⟨l,bs,fW g1,g2⟩
end
theorem sI:∀{as as':List Sv} {e:En},sG as e=some as'→ES (as'.map some)
  | [],_,e,h=>by cases h;intro i xss z;simp at z
  | .d x::r,_,e,h=>by
    obtain⟨s,h1,rfl⟩:=KW h
    have ih:=sI h1
    intro i xss z
    cases i with
    | zero=>simp at z
    | succ i=>exact ih i xss (by simpa using z)
  | .l xs::r,_,e,h=>by
    unfold sG at h
    match he:e.head?,h with
    | some (some (.l ys)),h=>
      obtain⟨s,h1,rfl⟩:=KW h
      have ih:=sI h1
      intro i xss z
      cases i with
      | zero=>simp at z
      | succ i=>exact ih i xss (by simpa using z)
  | .n x::r,_,e,h=>by simp [sG] at h
theorem tM{W:List Nat}{as:List Sv}(h:kr W as=true){j:Nat}{xs:List PyData}(hj:as[j]?=some (.l xs)):j∉W:=fun z=>by
  unfold kr at h
  have:=List.all_eq_true.mp h j z
  rw [hj] at this
  cases this
section
variable{P:Program}{w:World}{K:PySem.W.Frag}{mg:Str→Option Value}{base:Heap}
theorem a'.fn{x:Str}{st:Stmt}{f:Addr}{fd:FuncData}{N ps:List Str}{k n k0:Nat}{W:List Nat}{fb:FS}(h:a' K mg x st f fd ps)(S:aF N ps (am st))(hn:ps.length=n)(hN:N.length=n+k0)
    (hb:∀(cdv:Value) (A:Around) (outer:List Env) (s:Shared) (H:Hp) (E:XK),eA k (A.deeper (envOfC x (am st) s.heap.objs.size f cdv))→oj (uF bG P w K mg base N x (am st) f cdv A outer s H E).nox (dr st) (fS K fb W)):
    aJ P w K mg base bG (k+1) f fd ps (bL K n (gM n k0 W fb)):=by
  refine h.F.ok S (fun vs H Q E q=>?_) fun cdv A outer s H vs Q E hr hsp=>⟨_,hb cdv A outer s H E hr,?_⟩
  · rw [hn];exact q.1
  · obtain⟨hl,F,as,r,as',R,nN,hm,nr,q⟩:=hsp
    unfold gM at hm
    split at hm
    case isFalse=>cases hm
    case isTrue hc=>
    obtain⟨la,nl⟩:=hc
    obtain⟨fl,h1,hm⟩:=KU hm
    have hst:gF N vs=vs.map some++List.replicate k0 none:=by unfold gF;rw [hN,hl];congr 2;lia
    rw [hst]
    have key:∀{as':List Sv} {e':En},sG as e'=some as'→∀F' H' σ',dY W (vs.map some++List.replicate k0 none) F H (as.map some++List.replicate k0 none) σ' F' H' e'→bh K F' H' σ' e'→
        eS (vs.map some) F H (as.map some) F' H' (as'.map some)∧bh K F' H' (vs.map some) (as'.map some)∧∀a,dn (vs.map some) (as'.map some) H' a→dn (vs.map some) (as.map some) H a:=by
      intro as' e' hu F' H' σ' X' R'
      obtain⟨u1,u2,u3,u4⟩:=oP hu
      have uN:=sI hu
      have ow:∀a,dn (vs.map some) (as'.map some) H' a→dn (vs.map some) (as.map some) H a:=by
        rintro a ⟨j,⟨ys,c1,c2⟩ | ⟨xss,_,_,z,_⟩⟩
        · obtain⟨⟨xs,c3⟩,_⟩:=u3 j ys (gL.mp c1)
          exact⟨j,.inl ⟨xs,gL.mpr c3,c2⟩⟩
        · exact absurd z (uN j xss)
      have sg:∀(j:Nat) (xs:List PyData),as[j]?=some (.l xs)→σ'[j]?=(vs.map some)[j]?:=fun j xs hj=>by
        rw [X'.wr j (tM nl hj)]
        have hj2:j < (vs.map some).length:=by rw [List.length_map,hl,←la];exact(KY hj).1
        rw [List.getElem?_append_left hj2]
      refine⟨⟨X'.sf,X'.dom,fun a vs h1 h2 hn=>X'.fr a vs h1 h2 fun z=>hn (sj.mp z),X'.lst,fun a o ha hn=>X'.tmp a o ha fun z=>hn (sj.mp z),fun j=>?_,fun a z=>.inl (ow a z)⟩,⟨R'.sm,?_,fun j y hj=>?_,fun j ys hj=>?_,fun j xss hj=>absurd hj (uN j xss),fun j i l f1 f2=>?_⟩,ow⟩
      · constructor
        · rintro⟨ys,hj⟩
          obtain⟨⟨xs,c⟩,_⟩:=u3 j ys (gL.mp hj)
          exact⟨xs,gL.mpr c⟩
        · rintro⟨xs,hj⟩
          obtain⟨ys,c⟩:=u4 j xs (gL.mp hj)
          exact⟨ys,gL.mpr c⟩
      · simp [u1,hl,la]
      · obtain⟨v,c1,c2⟩:=R.dat j y (gL.mpr ((u2 j y).mp (gL.mp hj)))
        exact⟨v,c1,DA.mono X'.sf c2⟩
      · obtain⟨⟨xs,c1⟩,c2⟩:=u3 j ys (gL.mp hj)
        obtain⟨l,us,d1,d2⟩:=R'.own j ys c2
        exact⟨l,us,by rw [←sg j xs c1];exact d1,d2⟩
      · obtain⟨xs,g1,g3⟩:=f1.resolve_right fun⟨xss,_,_,z,_⟩=>uN j xss z
        obtain⟨ys,g2,g4⟩:=f2.resolve_right fun⟨xss,_,_,z,_⟩=>uN i xss z
        obtain⟨⟨zs,c1⟩,c2⟩:=u3 j xs (gL.mp g1)
        obtain⟨⟨ws,c3⟩,c4⟩:=u3 i ys (gL.mp g2)
        exact R'.inj j i xs ys l c2 c4 (by rw [sg j zs c1];exact g3) (by rw [sg i ws c3];exact g4)
    refine⟨F,as.map some++List.replicate k0 none,fl,R.pad,h1,?_⟩
    cases fl with
    | bk e'=>cases hm
    | ct e'=>cases hm
    | nx e'=>
      obtain⟨as2,h2,hm⟩:=KW hm
      cases hm
      intro F' H' σ' X' R'
      obtain⟨X2,R2,_⟩:=key h2 F' H' σ' X' R'
      exact q F' H' .non X2 R2 ((iA (K:=K) (F:=F')).mpr rfl)
    | rt r0 e'=>
      obtain⟨r1,h2,hm⟩:=KU hm
      obtain⟨as2,h3,hm⟩:=KW hm
      cases hm
      intro F' H' σ' v X' R' A'
      obtain⟨X2,R2,ow2⟩:=key h3 F' H' σ' X' R'
      have noo:∀l,H l=none→¬dn (vs.map some) (as'.map some) H' l:=fun l hl z=>R.ownH l (ow2 l z) hl
      refine q F' H' v X2 R2 ?_
      cases r0 with
      | d y=>cases h2;exact A'
      | l ys=>
        cases h2
        obtain⟨l,us,d0,d1,d2,d3,d4,_⟩:=A'
        exact⟨l,us,d0,d1,d2,d3,d4,noo l d1⟩
      | s i=>
        simp only [qb] at h2
        split at h2
        case isFalse=>cases h2
        case isTrue hi=>
        obtain⟨a1,xs,a2⟩:=A'
        rw [a2] at h2
        cases h2
        obtain⟨l,us,d1,d2,d3,d4⟩:=R'.own i _ a2
        rw [a1] at d1;cases d1
        suffices hl0:H l=none from⟨l,us,rfl,hl0,d2,d3,d4,noo l hl0⟩
        rcases X'.own l ⟨i,.inl ⟨_,a2,a1⟩⟩ with z | z
        · obtain⟨j,zf⟩:=sj.mp z
          obtain⟨ys,z1,z2⟩:=zf.resolve_right fun⟨xss,_,_,z,_⟩=>nN j xss z
          have z1':=gL.mp z1
          obtain⟨u1,u2,u3,u4⟩:=oP h3
          obtain⟨ws,w1⟩:=u4 j ys z1'
          obtain⟨_,w2⟩:=u3 j ws w1
          have hj2:j < vs.length:=by rw [hl,←la];exact(KY z1').1
          have e3:σ'[j]?=some (some (.ref l)):=by
            rw [X'.wr j (tM nl z1'),List.getElem?_append_left (by simpa using hj2)]
            exact z2
          have:=R'.inj i j _ ws l a2 w2 a1 e3
          lia
        · exact z
end
def Ft:Option Sv→Option Sv
  | some (.n _)=>none
  | s=>s
def mN(cp:List (Nat × Str))(nT:Nat)(e:En):En:=cp.map (fun p=>Ft (e[p.1]?).join)++List.replicate nT none
def mi(cp:List (Nat × Str))(i:Nat):Option Nat:=cp.findIdx? fun p=>p.1==i
def cI(g:FG)(ft:FT)(fe:FE):List PyData→En→List PyData→Option (List PyData × En)
  | [],e,acc=>some (acc,e)
  | x::r,e,acc=>(g x e).bind fun e1=>(ft e1).bind fun b=>if b.1=true then(fe b.2).bind fun v=>(l4 v.1).bind fun d=>if acc.length < 1000000 then cI g ft fe r v.2 (acc++[d]) else none else cI g ft fe r b.2 acc
def j6(cp:List (Nat × Str))(ei e:En):Bool:=cp.all fun p=> !wR e[p.1]? || wR ei[(mi cp p.1).getD 0]?
def cQ(cp:List (Nat × Str))(nT:Nat)(fi:FI)(g:FG)(ft:FT)(fe:FE):FE:=fun e=>(fi e).bind fun p=>if (p.2.1.all fun q=> !(cp.any fun c=>c.1==q.1))=true then(cI g ft fe p.1 (mN cp nT p.2.2) []).bind fun z=>if j6 cp z.2 p.2.2=true then some (.l z.1,nq (mi cp) z.2 p.2.2) else none else none
section
variable{K:PySem.W.Frag}{F H:Hp}{σ:L2.St}{e:En}{cp:List (Nat × Str)}{nT:Nat}
theorem er{i k:Nat}(h:mi cp i=some k):∃s,cp[k]?=some (i,s):=by
  unfold mi at h
  rw [List.findIdx?_eq_some_iff_getElem] at h
  obtain⟨hk,h1,_⟩:=h
  refine⟨cp[k].2,?_⟩
  rw [List.getElem?_eq_getElem hk]
  have:=eq_of_beq h1
  rw [←this]
theorem jw{k:Nat}{x:Sv}(h:(mN cp nT e)[k]?=some (some x)):∃i s,cp[k]?=some (i,s)∧e[i]?=some (some x):=by
  unfold mN at h
  have h:=fy h
  rw [List.getElem?_map] at h
  obtain⟨p,h1,h2⟩:=KW h
  refine⟨p.1,p.2,h1,?_⟩
  cases q:e[p.1]? with
  | none=>rw [q] at h2;cases h2
  | some y=>
    rw [q] at h2
    match y,h2 with
    | some (.d z),h2=>exact congrArg some h2
    | some (.l z),h2=>exact congrArg some h2
    | some (.n z),h2=>cases h2
    | none,h2=>cases h2
theorem jx:ES (mN cp nT e):=by
  intro k xss h
  unfold mN at h
  have h:=fy h
  rw [List.getElem?_map] at h
  obtain⟨p,h1,h2⟩:=KW h
  match (e[p.1]?).join,h2 with
  | some (.d z),h2=>cases h2
  | some (.l z),h2=>cases h2
  | some (.n z),h2=>cases h2
  | none,h2=>cases h2
theorem oM{k i:Nat}{s:Str}{v:V}(h:cp[k]?=some (i,s))(hv:σ[i]?=some (some v)):(eP cp nT σ)[k]?=some (some v):=by
  unfold eP
  refine fW ?_
  rw [List.getElem?_map,h]
  simp [hv]
theorem mK{k i:Nat}{s:Str}{v:V}(h:cp[k]?=some (i,s))(hv:(eP cp nT σ)[k]?=some (some v)):σ[i]?=some (some v):=by
  unfold eP at hv
  have hv:=fy hv
  rw [List.getElem?_map,h] at hv
  simp only [Option.map_some,Option.some.injEq] at hv
  cases q:σ[i]? with
  | none=>rw [q] at hv;cases hv
  | some y=>rw [q] at hv;exact congrArg some hv
theorem rO:∀{cp:List (Nat × Str)} {k j i:Nat} {s t:Str},(cp.map (·.1)).Nodup→cp[k]?=some (i,s)→cp[j]?=some (i,t)→k=j
  | [],k,j,i,s,t,_,h,_=>by simp at h
  | p::r,k,j,i,s,t,hn,h1,h2=>by
    simp only [List.map_cons,List.nodup_cons] at hn
    cases k with
    | zero=>
      simp at h1;subst h1
      cases j with
      | zero=>rfl
      | succ j=>
        have hm:(i,t)∈r:=K2 (i:=j) (by simpa using h2)
        exact absurd (List.mem_map.mpr ⟨(i,t),hm,rfl⟩) hn.1
    | succ k=>
      cases j with
      | zero=>
        simp at h2;subst h2
        have hm:(i,s)∈r:=K2 (i:=k) (by simpa using h1)
        exact absurd (List.mem_map.mpr ⟨(i,s),hm,rfl⟩) hn.1
      | succ j=>
        have:=rO (cp:=r) (k:=k) (j:=j) hn.2 (by simpa using h1) (by simpa using h2)
        lia
theorem bh.inn(R:bh K F H σ e)(hn:(cp.map (·.1)).Nodup):bh K F H (eP cp nT σ) (mN cp nT e)∧sL σ e (eP cp nT σ) (mN cp nT e) (mi cp):=by
  refine⟨⟨R.sm,by simp [eP,mN],fun k x h=>?_,fun k xs h=>?_,fun k xss h=>absurd h (jx k xss),fun k j l f1 f2=>?_⟩,⟨fun i k xs h1 h2=>?_,fun k ys h=>?_⟩⟩
  · obtain⟨i,s,h1,h2⟩:=jw h
    obtain⟨v,g1,g2⟩:=R.dat i x h2
    exact⟨v,oM h1 g1,g2⟩
  · obtain⟨i,s,h1,h2⟩:=jw h
    obtain⟨l,vs,g1,g2⟩:=R.own i xs h2
    exact⟨l,vs,oM h1 g1,g2⟩
  · obtain⟨xs,h1,h3⟩:=f1.resolve_right fun⟨xss,_,_,z,_⟩=>jx k xss z
    obtain⟨ys,h2,h4⟩:=f2.resolve_right fun⟨xss,_,_,z,_⟩=>jx j xss z
    obtain⟨i,s,a1,a2⟩:=jw h1
    obtain⟨i',s',b1,b2⟩:=jw h2
    have:i=i':=R.inj i i' xs ys l a2 b2 (mK a1 h3) (mK b1 h4)
    subst this
    exact rO hn a1 b1
  · obtain⟨s,g⟩:=er h2
    obtain⟨l,vs,g1,_⟩:=R.own i xs h1
    rw [g1];exact oM g g1
  · obtain⟨i,s,h1,h2⟩:=jw h
    obtain⟨l,vs,g1,_⟩:=R.own i ys h2
    refine⟨i,ys,h2,?_,by rw [g1];exact oM h1 g1⟩
    cases hp:mi cp i with
    | none=>
      unfold mi at hp
      rw [List.findIdx?_eq_none_iff] at hp
      have:=hp _ (K2 h1)
      simp at this
    | some j=>
      obtain⟨t,g⟩:=er hp
      rw [rO hn g h1]
theorem bh.putT(R:bh K F H σ e){l:Addr}{ws:List V}(h1:F l=none)(h2:¬dn σ e H l):bh K F (be H l (.lst ws)) σ e∧∀a,dn σ e (be H l (.lst ws)) a↔ dn σ e H a:=
  R.keep (aD.refl F) (fun b o q=>by
    have z:b≠l:=fun z=>by rw [z,h1] at q;cases q
    rw [aG z];exact R.sm b o q) (fun a ⟨i,h⟩=>(R.fpAt h).1) fun a o ha q=>by
      have z:a≠l:=fun z=>h2 (by rw [←z];exact ha)
      rw [aG z];exact q
theorem dY.putT{W:List Nat}{σ':L2.St}{F' H':Hp}{e':En}(x:dY W σ F H e σ' F' H' e'){l:Addr}{o:HO}(h:H l=none)(ho:∀a,dn σ' e' (be H' l o) a↔ dn σ' e' H' a):dY W σ F H e σ' F' (be H' l o) e':=by
  refine⟨x.sf,fun a q=>?_,x.fr,fun a vs q=>?_,fun a u q n=>?_,fun a q=>x.own a ((ho a).mp q),x.wr⟩
  · by_cases z:a=l
    · rw [z];exact h
    · rw [aG z] at q;exact x.dom a q
  · have z:a≠l:=fun z=>by rw [z,h] at q;cases q
    rw [aG z];exact x.lst a vs q
  · have z:a≠l:=fun z=>by rw [z,h] at q;cases q
    rw [aG z];exact x.tmp a u q n
inductive CI (K:PySem.W.Frag) (W:List Nat) (σ0:L2.St) (F1 H1:Hp) (e0:En) (l:Addr) (P:Hp→En→List PyData→Prop) (σ':L2.St) (H':Hp):Prop
  | mk {F':Hp} {ei:En} {acc:List PyData} {vs:List V} (R:bh K F' H' σ' ei) (X:dY W σ0 F1 H1 e0 σ' F' H' ei) (fl:F' l=none) (no:¬dn σ' ei H' l) (hl:H' l=some (.lst vs)) (da:aS K F' acc vs) (hc:P F' ei acc):CI K W σ0 F1 H1 e0 l P σ' H'
theorem uj{Q:VK}{fi:FI}{g:FG}{W:List Nat}{ft:FT}{fe:FE}(hn:(cp.map (·.1)).Nodup)(hW:∀j∈W,cp.length≤j)(h:fE K (cQ cp nT fi g ft fe) σ H Q):wk cp nT (fI K fi) (fG K g W) (fT K ft) (fE K fe) σ H Q:=by
  obtain⟨F0,e0,z,e',R0,hf,q⟩:=h
  unfold cQ at hf
  obtain⟨⟨items,own,e1⟩,h1,hf⟩:=KU hf
  dsimp only at hf
  split at hf
  case isFalse=>cases hf
  case isTrue hO=>
  obtain⟨⟨out,eo⟩,h2,hf⟩:=KU hf
  dsimp only at hf
  split at hf
  case isFalse=>cases hf
  case isTrue hB=>
  cases hf
  refine⟨⟨F0,e0,items,own,e1,R0,h1,fun J F1 H1 X1 R1 kp ok=>?_⟩⟩
  intro l hl
  obtain⟨Ri,sub⟩:=R1.inn (nT:=nT) hn
  have hFl:F1 l=none:=R1.freeF hl
  let Iv:Nat→L2.St→Hp→Prop:=fun i=>CI K W (eP cp nT σ) F1 H1 (mN cp nT e1) l fun _ ei acc=>cI g ft fe (items.drop i) ei acc=some (out,eo)
  have notown:∀p∈own,∀a,σ[p.1]?=some (some (.ref a))→¬dn (eP cp nT σ) (mN cp nT e1) H1 a:=by
    rintro p hp a ha ⟨k,zf⟩
    obtain⟨xs,c1,c2⟩:=zf.resolve_right fun⟨xss,_,_,z,_⟩=>jx k xss z
    obtain⟨i,s,d1,d2⟩:=jw c1
    have e2:=mK d1 c2
    have:p.1=i:=R1.inj p.1 i p.2 xs a (kp p hp) d2 ha e2
    have hh:=List.all_eq_true.mp hO p hp
    simp only [Bool.not_eq_true',List.any_eq_false,beq_iff_eq] at hh
    exact hh (i,s) (K2 d1) this.symm
  refine⟨fun i m σ' H'=>m=items.length - i∧i≤items.length∧Iv i σ' H',⟨items.length,by simp,Nat.zero_le _,.mk (Ri.putT hFl (fun z=>(Ri.ownH l z) hl)).1 (dY.refl.putT hl (Ri.putT hFl (fun z=>(Ri.ownH l z) hl)).2) hFl (fun z=>(Ri.ownH l (((Ri.putT hFl (fun z=>(Ri.ownH l z) hl)).2 l).mp z)) hl) ay aS.nil h2⟩,?_⟩
  rintro i m σ' H' ⟨rfl,hi,⟨R',X',fl,no,hl',da,hc⟩⟩
  rename_i F' ei acc vs
  have held:ww K σ F' H' own:=fun p hp=>by
    obtain⟨a,us,c1,c2,c3,c4⟩:=R1.own p.1 p.2 (kp p hp)
    exact⟨a,us,c1,X'.tmp a _ c3 (notown p hp a c1),c4.mono X'.sf⟩
  obtain⟨go,stop,yld⟩:=ok F' H' X'.sf R'.sm held
  by_cases hlt:i < items.length
  · have hd:items.drop i=items[i]::items.drop (i+1):=List.drop_eq_getElem_cons hlt
    rw [hd] at hc
    unfold cI at hc
    obtain⟨e2,c2,hc⟩:=KU hc
    obtain⟨⟨b,e3⟩,c3,hc⟩:=KU hc
    refine .inr ⟨go i hlt,Iv (i+1),fun σ2 H2 r=>⟨items.length - (i+1),by lia,rfl,hlt,r⟩,fun x H2 hy=>?_⟩
    obtain⟨F2,sH,sF2,sm2,fz,hx⟩:=yld i items[i] x H2 (List.getElem?_eq_getElem hlt) hy
    obtain⟨R2,X2⟩:=R'.step sH sF2 sm2 fz
    refine⟨F2,ei,items[i],e2,R2,hx,c2,fun σ3 X3 R3=>⟨F2,e2,b,e3,R3,c3,fun F4 H4 X4 R4=>?_⟩⟩
    have hlH2:H2 l=some (.lst vs):=sH _ _ hl'
    have no2:¬dn σ' ei H2 l:=fun z=>by
      rcases X2.ow l z with z | z
      · exact no z
      · rw [hl'] at z;cases z
    have no3:¬dn σ3 e2 H2 l:=fun z=>by
      rcases X3.own l z with z | z
      · exact no2 z
      · rw [hlH2] at z;cases z
    have fl2:F2 l=none:=fz l fl (by rw [hl'];simp)
    have hlH4:H4 l=some (.lst vs):=X4.tmp l _ hlH2 no3
    have fl4:F4 l=none:=X4.fr l vs fl2 hlH2 no3
    have no4:¬dn σ3 e3 H4 l:=fun z=>by
      rcases X4.ow l z with z | z
      · exact no3 z
      · rw [hlH2] at z;cases z
    have E4:dY W (eP cp nT σ) F1 H1 (mN cp nT e1) σ3 F4 H4 e3:=((X'.trans X2.s).trans X3).trans X4.s
    cases b with
    | false=>
      rw [if_neg (by simp)] at hc
      exact AQ (.mk R4 E4 fl4 no4 hlH4 (da.mono (sF2.trans X4.sf)) hc)
    | true=>
      rw [if_pos rfl] at hc
      obtain⟨⟨r,e5⟩,c5,hc⟩:=KU hc
      obtain⟨d,c6,hc⟩:=KU hc
      split at hc
      case isFalse=>cases hc
      case isTrue hlen=>
      refine AR ⟨F4,e3,r,e5,R4,c5,fun F5 H5 v X5 R5 A5=>?_⟩
      have hlH5:H5 l=some (.lst vs):=X5.tmp l _ hlH4 no4
      have fl5:F5 l=none:=X5.fr l vs fl4 hlH4 no4
      have no5:¬dn σ3 e5 H5 l:=fun z=>by
        rcases X5.ow l z with z | z
        · exact no4 z
        · rw [hlH4] at z;cases z
      obtain⟨F6,R6,s6,d6,f6⟩:=dI.frozen R5 (rs:=[r]) (vs:=[v]) ⟨v,[],rfl,A5,rfl⟩ (kU c6)
      have fl6:F6 l=none:=f6 l fl5 (by rw [hlH4];simp)
      have X6:=X5.frz s6 f6
      have ll:=da.len
      have sl:sizeLine=16777216:=sizeLine_eq
      have dv:DA K F6 d v:=by
        simp only [aS] at d6
        obtain⟨v',r',e',hv,_⟩:=d6
        cases e';exact hv
      obtain⟨R7,o7⟩:=R6.putT (ws:=vs++[v]) fl6 no5
      exact⟨vs,hlH5,by lia,.mk R7 ((E4.trans X6.s).putT hl o7) fl6 (fun z=>no5 ((o7 l).mp z)) ay ((da.mono (sF2.trans (X4.sf.trans (X5.sf.trans s6)))).append (aS.one dv)) hc⟩
  · have hd:items.drop i=[]:=List.drop_eq_nil_of_le (by lia)
    rw [hd] at hc
    cases hc
    refine .inl ⟨stop i (by lia),?_⟩
    obtain⟨R9,X9,o9⟩:=pZ R1 sub jx X'.sf X'.dom X'.fr X'.lst X'.tmp R' (fun i k xs g1 g2=>X'.wr k fun z=>by
      obtain⟨s,g⟩:=er g2
      have:=(KY g).1
      have:=hW k z
      lia) fun i k xs g1 g2=>by
        obtain⟨s,g⟩:=er g2
        unfold j6 at hB
        have hb:=List.all_eq_true.mp hB _ (K2 g)
        simp only [g1,g2,Option.getD_some,wR,Bool.not_true,Bool.false_or] at hb
        exact vS.mp hb
    exact q F' H' (.ref l) (X1.trans X9) R9 ⟨l,vs,rfl,X1.dom l hl,fl,hl',da,fun z=>R1.ownH l (o9 l z) hl⟩
end
section
variable{X:Cx}{K:PySem.W.Frag}{a b:Expr}{es:List Expr}{fa fb:FE}{fs:FA}{pos p p2 p3:Pos}{lo hi:Option Expr}
def kg:En→Rv→Option Rv:=fun _ x=>(bz x).map fun i=>.d (.int (-i))
theorem Fy:EW K (rU fun i=>.int (-i)) kg:=by
  intro σ H0 F H e x z v Q R A hg q
  obtain⟨i,h5,h4⟩:=KW hg
  cases h4
  exact⟨i,bw A h5,q F H _ (eS.refl _ _ _ _) R m8⟩
theorem kz(ha:PE X a (fE K fa)):PE X (.UnaryOp .USub a pos) (fE K (jS kg fa)):=FW EH Fy ha
theorem bA(hK:X.K=K)(ha:PE X a (fE K fa))(hb:PE X b (fE K fb)):PE X (.BinOp a .Add b pos) (fE K (av bu fa fb)):=qV (hK ▸ Bb) EY ha hb
theorem og(ha:PE X a (fE K fa))(hb:PE X b (fE K fb)):PE X (.BinOp a .Sub b pos) (fE K (av gq fa fb)):=qV DP Gf ha hb
theorem ky(hK:X.K=K)(ha:PE X a (fE K fa))(hb:PE X b (fE K fb)):PE X (.BinOp a .Mult b pos) (fE K (av gu fa fb)):=qV (hK ▸ Bf) Fx ha hb
theorem kx(ha:PE X a (fE K fa))(hb:PE X b (fE K fb)):PE X (.BinOp a .FloorDiv b pos) (fE K (av gB fa fb)):=qV yR Da ha hb
theorem ba(ha:PE X a (fE K fa))(hb:PE X b (fE K fb)):PE X (.BinOp a .Mod b pos) (fE K (av aZ fa fb)):=qV Be Fw ha hb
theorem CG(ha:PE X a (fE K fa))(hb:PE X b (fE K fb)):PE X (.BinOp a .Pow b pos) (fE K (av uI fa fb)):=qV DM FP ha hb
theorem bT(hK:X.K=K)(ha:PE X a (fE K fa))(hb:PE X b (fE K fb))(hs:oA b):PE X (.Subscript a b pos) (fE K (av dU fa fb)):=FU (hK ▸ G2) G3 ha hb hs
theorem bP{fl fh:FO}(hK:X.K=K)(he:PE X a (fE K fa))(hl:PO X lo (fO K fl))(hh:PO X hi (fO K fh)):PE X (.Subscript a (.Slice lo hi none p2) pos) (fE K (li fa fl fh)):=by subst hK;exact zm he hl hh
structure lM (X:Cx) (K:PySem.W.Frag) (op:CmpOp) (g:En→Rv→Rv→Option Rv):Prop where
  ex:∃r,h8 X (compareOp op) r∧hX K r g
theorem sS:lM X K .Lt tD:=⟨_,FH,G7⟩
theorem Au:lM X K .LtE AJ:=⟨_,FF,G5⟩
theorem C8:lM X K .Gt Cv:=⟨_,FD,GW⟩
theorem sR:lM X K .GtE uH:=⟨_,FC,GV⟩
theorem p9{k:Nat}(hK:X.K=K)(hr:eA k X.A):lM X K .Eq (bv false):=⟨_,hK ▸ DD hr,Cs⟩
theorem lV{k:Nat}(hK:X.K=K)(hr:eA k X.A):lM X K .NotEq (bv true):=⟨_,hK ▸ DL hr,Cs⟩
theorem x6{k:Nat}(hK:X.K=K)(hr:eA k X.A):lM X K .In (wH false):=⟨_,hK ▸ DE hr,Fj⟩
theorem Av{k:Nat}(hK:X.K=K)(hr:eA k X.A):lM X K .NotIn (wH true):=⟨_,hK ▸ xm hr,Fj⟩
theorem E7:lM X K .Is Fd:=⟨_,DF,G1⟩
theorem As:lM X K .IsNot oY:=⟨_,xk,AL⟩
theorem mn{op:CmpOp}{g:En→Rv→Rv→Option Rv}(h:lM X K op g)(ha:PE X a (fE K fa))(hb:PE X b (fE K fb))(hm:behindInMarks op b=false):PE X (.Compare a [op] [b] pos) (fE K (av g fa fb)):=by
  obtain⟨r,h1,h2⟩:=h.ex;exact D_ h1 h2 ha hb hm
theorem aT{op:CmpOp}{g:En→Rv→Rv→Option Rv}(h:lM X K op g)(ha:PE X a (fE K fa))(hb:PE X b (fE K fb))(hm:behindInMarks op b=false):PT X (.Compare a [op] [b] pos) (fT K (ax (av g fa fb))):=by
  obtain⟨r,h1,h2⟩:=h.ex;exact Ed h1 h2 ha hb hm
theorem sr{op op':CmpOp}{g g':En→Rv→Rv→Option Rv}{c:Expr}{fc:FE}(h:lM X K op g)(h':lM X K op' g')(ha:PE X a (fE K fa))(hb:PE X b (fE K fb))(hc:PE X c (fE K fc))(hm:lastMarks [op,op'] [b,c]=false):PE X (.Compare a [op,op'] [b,c] pos) (fE K (ir g g' fa fb fc)):=by
  obtain⟨r,h1,h2⟩:=h.ex;obtain⟨r',h3,h4⟩:=h'.ex;exact zi h1 h2 h3 h4 ha hb hc hm
structure oR (X:Cx) (K:PySem.W.Frag) (x:Str) (g:En→List Rv→Option Rv):Prop where
  ex:(∃id r,d_ X (.builtin id) r∧eR K r g∧bootBuiltins x=some (.builtin id))∨∃T r,d_ X (.type T) r∧eR K r g∧bootBuiltins x=some (.type T)
theorem aN{x:Str}{g:En→List Rv→Option Rv}(h:oR X K x g)(hg:Gl X x)(hm:X.mg x=none)(ha:PA X (a::es) (fA K fs))(hn:x≠"__name__")(hdb:(x==("__debug__":Str))=false)
    (he:starEach (a::es) X.env=(false,eval a X.env)::starEach es X.env)(hpl:(backTo pos (starEach es X.env)).any (·.1)=false):PE X (.Call (.Name x p) (a::es) [] pos) (fE K (aB g fs)):=by
  rcases h.ex with ⟨id,r,h1,h2,h3⟩ | ⟨T,r,h1,h2,h3⟩
  · exact zh h1 h2 hg hm h3 ha hn hdb he hpl
  · exact xt h1 h2 hg hm h3 ha hn hdb he hpl
theorem b_len(hK:X.K=K):oR X K "len" (g1 cT):=⟨.inl ⟨_,_,hK ▸ lW,Fs,PySem.boot_len⟩⟩
theorem b_abs:oR X K "abs" (g1 wG):=⟨.inl ⟨_,_,x8,EX,PyProof.Rows.boot_abs⟩⟩
theorem b_min(hc:X.calm=true):oR X K "min" (g2 tF):=⟨.inl ⟨_,_,wC hc,Fv,PyProof.Rows.boot_min⟩⟩
theorem b_max(hc:X.calm=true):oR X K "max" (g2 oo):=⟨.inl ⟨_,_,wB hc,Fu,PyProof.Rows.boot_max⟩⟩
theorem b_int:oR X K "int" (g1 wJ):=⟨.inr ⟨_,_,wz,Fk,PyProof.Rows.boot_int⟩⟩
theorem b_tuple(hK:X.K=K):oR X K "tuple" (g1 cN):=⟨.inr ⟨_,_,hK ▸ p_,B4,PyProof.Rows.boot_tuple⟩⟩
theorem b_list(hK:X.K=K):oR X K "list" (g1 Cw):=⟨.inr ⟨_,_,hK ▸ rH,Dp,PyProof.Rows.boot_list⟩⟩
theorem b_all{k:Nat}(hK:X.K=K)(hr:eA k X.A):oR X K "all" (g1 (jL lm)):=⟨.inl ⟨_,_,x9 hr hK,EZ,xY⟩⟩
theorem b_sorted(hK:X.K=K):oR X K "sorted" (g1 uJ):=⟨.inl ⟨_,_,hK ▸ uD,BU,PyProof.Rows.boot_sorted⟩⟩
abbrev cD:FT:=fun e=>some (true,e)
theorem uq.mono{ifs:List Expr}{t t':TT}(h:uq X ifs t)(m:∀σ H Q,t' σ H Q→t σ H Q):uq X ifs t':=fun pins s σ H Q I q=>h pins s σ H Q I (m σ H Q q)
theorem iI:uq X [] (fT K cD):=BH.mono fun σ H Q h=>by
  obtain⟨F,e,b,e',R,hf,q⟩:=h
  cases hf
  exact q F H (eS.refl _ _ _ _) R
theorem mv{c:Expr}{ft:FT}(h:PT X c (fT K ft)):uq X [c] (fT K ft):=BI h
theorem jA{elt iter tg:Expr}{ifs:List Expr}{scope:Scope}{fi:FI}{g:FG}{ft:FT}{fe:FE}{W:List Nat}(sc0:Scope)(N0:List Str)(cp:List (Nat × Str))(tgN:List Str)
    (hc:X.calm=true)(hsc:X.env.scope=sc0)(hN0:X.N=N0)(hi:PI X tg iter (fI K fi))
    (hg:∀C s0 H0 fp,PG (aw X scope cp tgN C s0 H0 fp) tg (fG K g W))
    (ht:∀C s0 H0 fp,uq (aw X scope cp tgN C s0 H0 fp) ifs (fT K ft))
    (he:∀C s0 H0 fp,PE (aw X scope cp tgN C s0 H0 fp) elt (fE K fe))
    (hk:scope.kind=.function)(hcell:∀y∈scope.names,y.2≠.cell)(hnames:∀y∈scope.names,y.2=.local→scope.names.lookup y.1=some .local)
    (hfr:∀y∈scope.names,y.2=.free→scope.names.lookup y.1=some .free∧sc0.names.lookup y.1=some .cell)
    (hcp:∀p∈cp,N0[p.1]?=some p.2)(hcq:∀p∈cp,sc0.names.lookup p.2=some .cell∧scope.names.lookup p.2=some .free)(hnd:(cp.map (·.1)).Nodup)(hW:∀j∈W,cp.length≤j)
    (hs:∀x,foldedSetIterable iter X.env x=pure x):
    PE X (.ListComp elt [⟨tg,iter,ifs,0⟩] scope pos) (fE K (cQ cp tgN.length fi g ft fe)):=(Bp sc0 N0 cp tgN hc hsc hN0 hi hg ht he hk hcell hnames hfr hcp hcq hs).mono fun _ _ _ h=>uj hnd hW h
theorem qU{ix:Nat}{nm:Str}{posn poss:Pos}{elt iter tg:Expr}{ifs:List Expr}{scope:Scope}{fi:FI}{g:FG}{ft:FT}{fe:FE}{W:List Nat}(sc0:Scope)(N0:List Str)(cp:List (Nat × Str))(tgN:List Str)
    (hc:X.calm=true)(hsc:X.env.scope=sc0)(hN0:X.N=N0)(hi:PI X tg iter (fI K fi))
    (hg:∀C s0 H0 fp,PG (aw X scope cp tgN C s0 H0 fp) tg (fG K g W))
    (ht:∀C s0 H0 fp,uq (aw X scope cp tgN C s0 H0 fp) ifs (fT K ft))
    (he:∀C s0 H0 fp,PE (aw X scope cp tgN C s0 H0 fp) elt (fE K fe))
    (hk:scope.kind=.function)(hcell:∀y∈scope.names,y.2≠.cell)(hnames:∀y∈scope.names,y.2=.local→scope.names.lookup y.1=some .local)
    (hfr:∀y∈scope.names,y.2=.free→scope.names.lookup y.1=some .free∧sc0.names.lookup y.1=some .cell)
    (hcp:∀p∈cp,N0[p.1]?=some p.2)(hcq:∀p∈cp,sc0.names.lookup p.2=some .cell∧scope.names.lookup p.2=some .free)(hnd:(cp.map (·.1)).Nodup)(hW:∀j∈W,cp.length≤j)
    (hNd:X.N.Nodup)(hix:X.N[ix]?=some nm)(hlc:X.env.scope.names.lookup nm=some .local)(hsw:swapsWith (.ListComp elt [⟨tg,iter,ifs,0⟩] scope pos) (some (.Name nm posn)) poss.line X.env=pure true)
    (hs:∀x,foldedSetIterable iter X.env x=pure x):
    PS X (.Assign [.Name nm posn] (.ListComp elt [⟨tg,iter,ifs,0⟩] scope pos) poss) (fS K (aY ix (cQ cp tgN.length fi g ft fe)) [ix]):=(va sc0 N0 cp tgN hc hsc hN0 hi hg ht he hk hcell hnames hfr hcp hcq hNd hix hlc hsw hs).mono fun D σ H h=>by
  obtain⟨F,e,fl,R,hf,q⟩:=h
  unfold aY at hf
  obtain⟨⟨r,e1⟩,h1,hf⟩:=KU hf
  obtain⟨e2,h2,hf⟩:=KW hf
  cases hf
  refine uj hnd hW ⟨F,e,r,e1,R,h1,fun F1 H1 v X1 R1 A1=>?_⟩
  obtain⟨x,R2⟩:=vb R X1 R1 A1 h2
  exact q F1 H1 _ x R2
variable{o:Expr}{fo:FE}{apos cpos:Pos}
theorem dh(hK:X.K=K)(ho:PE X o (fE K fo))(ha:PA X (a::es) (fA K fs))(hbase:attributeBase o "append" X.env (eval o X.env)=eval o X.env)
    (hfew:((backTo cpos (starEach (a::es) X.env)).all (fun x=> !x.1)&&(backToKw cpos (keywordEach [] X.env)).all (fun x=>x.1.isSome)
      &&decide ((a::es).length+([]:List Keyword).length+(if ([]:List Keyword).isEmpty then 0 else 1) < 30))=true)
    (hline:(apos.endLine==cpos.line)=true)(hs:starEach (a::es) X.env=(false,eval a X.env)::starEach es X.env)(hplain:(backTo cpos (starEach es X.env)).any (·.1)=false):
    PE X (.Call (.Attribute o "append" apos) (a::es) [] cpos) (fE K (bW bc fo fs)):=by
  subst hK;exact CH PySem.F.slot_list_append PySem.F.type_list_append i9 xQ ho ha hbase hfew hline hs hplain
theorem sx(hK:X.K=K)(ho:PE X o (fE K fo))(ha:PA X (a::es) (fA K fs))(hbase:attributeBase o "pop" X.env (eval o X.env)=eval o X.env)
    (hfew:((backTo cpos (starEach (a::es) X.env)).all (fun x=> !x.1)&&(backToKw cpos (keywordEach [] X.env)).all (fun x=>x.1.isSome)
      &&decide ((a::es).length+([]:List Keyword).length+(if ([]:List Keyword).isEmpty then 0 else 1) < 30))=true)
    (hline:(apos.endLine==cpos.line)=true)(hs:starEach (a::es) X.env=(false,eval a X.env)::starEach es X.env)(hplain:(backTo cpos (starEach es X.env)).any (·.1)=false):
    PE X (.Call (.Attribute o "pop" apos) (a::es) [] cpos) (fE K (bW eL fo fs)):=by
  subst hK;exact CH PySem.F.slot_list_pop PySem.F.type_list_pop yG BA ho ha hbase hfew hline hs hplain
end
theorem vh{K:PySem.W.Frag}{H:Hp}{a:Addr}{ns:List Int}{m:FM}{as':List Sv}{Q:VK}{E:XK}(hS:gH K H a (ns.map V.int))(hm:m [.d (.list (ns.map .int))]=some (.d (.bool true),as'))(q:∀H',Q (.bl true) H'):bL K 1 m [.ref a] H Q E:=by
  refine⟨rfl,H,[.d (.list (ns.map .int))],_,as',?_,?_,hm,trivial,fun F' H' v X' R' A'=>?_⟩
  · refine⟨aD.refl _,rfl,fun i x h=>?_,fun i xs h=>?_,fun i xss h=>?_,fun i j l f1 _=>?_⟩
    · match i,h with
      | 0,h=>
        simp at h;subst h
        exact⟨.ref a,rfl,d9.mpr ⟨a,_,rfl,hS,aS.ints.mpr rfl⟩⟩
      | i+1,h=>simp at h
    · match i,h with
      | 0,h=>simp at h
      | i+1,h=>simp at h
    · match i,h with
      | 0,h=>simp at h
      | i+1,h=>simp at h
    · rcases f1 with ⟨_,h,_⟩ | ⟨_,_,_,h,_⟩
      · match i,h with
        | 0,h=>simp at h
        | i+1,h=>simp at h
      · match i,h with
        | 0,h=>simp at h
        | i+1,h=>simp at h
  · intro i xss h
    match i,h with
    | 0,h=>simp at h
    | i+1,h=>simp at h
  · rw [dR.mp (show DA K F' (.bool true) v from A')];exact q H'
section
variable{K:PySem.W.Frag}{σ:L2.St}{H0 F H F' H':Hp}{e e':En}
theorem bh.putN(R:bh K F H σ e){i:Nat}{xss yss:List (List PyData)}{l:Addr}{bs:List Addr}{H':Hp}(hi:e[i]?=some (some (.n xss)))(hs:σ[i]?=some (some (.ref l)))
    (hF:F l=none)(hl:H' l=some (.lst (bs.map V.ref)))(hlen:bs.length=yss.length)(hnd:bs.Nodup)(hnl:l∉bs)(hin:∀(k:Nat) (b:Addr) (ys:List PyData),bs[k]?=some b→yss[k]?=some ys→F b=none∧∃us,H' b=some (.lst us)∧aS K F ys us)
    (hbs:∀b∈bs,Fp σ e H i b∨¬dn σ e H b)(hdom:∀a,H' a=none→H a=none)(hst:∀a o,H a=some o→a≠l→a∉bs→H' a=some o)(hlst:∀a vs,H a=some (.lst vs)→∃vs',H' a=some (.lst vs')):
    bh K F H' σ (e.set i (some (.n yss)))∧(∀a,dn σ (e.set i (some (.n yss))) H' a→dn σ e H a∨a∈bs)∧∀j:Nat,(∃xs,(e.set i (some (Sv.n yss)))[j]?=some (some (.l xs)))↔ (∃xs,e[j]?=some (some (.l xs))):=by
  have hlt:i < e.length:=(KY hi).1
  have gi:(e.set i (some (Sv.n yss)))[i]?=some (some (.n yss)):=List.getElem?_set_self hlt
  obtain⟨l0,bs0,a1,a2,a3,_⟩:=R.nst i xss hi
  rw [hs] at a1;cases a1
  have fl:Fp σ e H i l:=.inr ⟨xss,l,bs0,hi,hs,a3,.inl rfl⟩
  have own:∀j a,j≠i→Fp σ e H j a→a≠l∧a∉bs:=fun j a hj hq=>by
    refine⟨fun z=>hj (R.fp j i a hq (by rw [z];exact fl)),fun z=>?_⟩
    rcases hbs a z with h | h
    · exact hj (R.fp j i a hq h)
    · exact h ⟨j,hq⟩
  have fpi:∀a,Fp σ (e.set i (some (.n yss))) H' i a→a=l∨a∈bs:=fun a q=>by
    rcases q with ⟨zs,q,_⟩ | ⟨zss,l',bs',q,q2,q3,q4⟩
    · rw [gi] at q;cases q
    · rw [hs] at q2;cases q2
      rw [hl] at q3
      have e1:bs=bs':=List.map_inj_right (fun _ _ z=>V.ref.inj z) |>.mp (HO.lst.inj (Option.some.inj q3))
      subst e1;exact q4
  obtain⟨R',fs⟩:=R.upd1 (F':=F) (H':=H') (e':=e.set i (some (.n yss))) i (by rw [List.length_set];exact R.len) (fun _ _=>rfl) (fun j hj=>List.getElem?_set_ne (Ne.symm hj)) (aD.refl F)
    (fun b o q=>by
      have z1:b≠l:=fun z=>by rw [z,hF] at q;cases q
      have z2:b∉bs:=fun z=>by
        obtain⟨k,hk⟩:=List.getElem?_of_mem z
        have hk2:k < yss.length:=by rw [←hlen];exact(KY hk).1
        rw [(hin k b yss[k] hk (List.getElem?_eq_getElem hk2)).1] at q;cases q
      exact hst b o (R.sm b o q) z1 z2)
    (fun j a _ q=>(R.fpAt q).1) (fun j a o hj q ha=>let ⟨z1,z2⟩:=own j a hj q;hst a o ha z1 z2)
    (fun x q=>by rw [gi] at q;cases q) (fun zs q=>by rw [gi] at q;cases q) (fun zss q=>by rw [gi] at q;cases q;exact⟨l,bs,hs,hF,hl,hlen,hnd,hnl,hin⟩)
    (fun a j hj q q2=>by
      obtain⟨z1,z2⟩:=own j a hj q2
      exact(fpi a q).elim z1 z2)
  refine⟨R',fun a ⟨j,q⟩=>?_,fun j=>?_⟩
  · by_cases z:j=i
    · subst z
      rcases fpi a q with z | z
      · exact .inl ⟨j,by rw [z];exact fl⟩
      · exact .inr z
    · exact .inl ⟨j,(fs j a z).mp q⟩
  · by_cases z:j=i
    · subst z;rw [gi,hi];simp
    · rw [List.getElem?_set_ne (Ne.symm z)]
theorem bh.frzN(R:bh K F H σ e){i:Nat}{xss:List (List PyData)}(hi:e[i]?=some (some (.n xss))):∃F' v,σ[i]?=some (some v)∧DA K F' (.list (xss.map .list)) v∧bh K F' H σ (e.set i (some (.d (.list (xss.map .list)))))∧eS σ F H e F' H (e.set i (some (.d (.list (xss.map .list))))):=by
  obtain⟨l,bs,a1,a2,a3,a4,a5,a6,a7⟩:=R.nst i xss hi
  have hlt:i < e.length:=(KY hi).1
  have inF:∀a,a=l∨a∈bs→Fp σ e H i a:=fun a h=>.inr ⟨xss,l,bs,hi,a1,a3,h⟩
  let F':Hp:=fun a=>if a=l∨a∈bs then H a else F a
  have pos:∀a,(a=l∨a∈bs)→F' a=H a:=fun a h=>if_pos h
  have neg:∀a,¬(a=l∨a∈bs)→F' a=F a:=fun a h=>if_neg h
  have sF:aD F F':=fun b o q=>by
    have z:¬(b=l∨b∈bs):=fun z=>by rw [(R.fpAt (inF b z)).1] at q;cases q
    rw [neg b z];exact q
  have sm:aD F' H:=fun b o q=>by
    by_cases z:b=l∨b∈bs
    · rw [pos b z] at q;exact q
    · rw [neg b z] at q;exact R.sm b o q
  have dd:∀(cs:List Addr) (yss:List (List PyData)),cs.length=yss.length→(∀(k:Nat) (b:Addr) (ys:List PyData),cs[k]?=some b→yss[k]?=some ys→b∈bs∧∃us,H b=some (.lst us)∧aS K F ys us)→aS K F' (yss.map .list) (cs.map V.ref):=by
    intro cs
    induction cs with
    | nil=>
      intro yss h _
      cases yss with
      | nil=>exact aS.nil
      | cons _ _=>simp at h
    | cons c cs ih=>
      intro yss h hh
      cases yss with
      | nil=>simp at h
      | cons ys yss=>
        obtain⟨c1,us,c2,c3⟩:=hh 0 c ys rfl rfl
        refine aS.cons (d9.mpr ⟨c,us,rfl,.inl (.inl ?_),c3.mono sF⟩) (ih yss (by simpa using h) fun k b zs q1 q2=>hh (k+1) b zs (by simpa using q1) (by simpa using q2))
        rw [pos c (.inr c1)];exact c2
  have da:DA K F' (.list (xss.map .list)) (.ref l):=d9.mpr ⟨l,_,rfl,.inl (.inl (by rw [pos l (.inl rfl)];exact a3)),dd bs xss a4 fun k b ys q1 q2=>by
    obtain⟨_,us,c2,c3⟩:=a7 k b ys q1 q2
    exact⟨K2 q1,us,c2,c3⟩⟩
  have gi:(e.set i (some (Sv.d (.list (xss.map .list)))))[i]?=some (some (.d (.list (xss.map .list)))):=List.getElem?_set_self hlt
  have nofp:∀a,¬Fp σ (e.set i (some (.d (.list (xss.map .list))))) H i a:=fun a q=>by
    rcases q with ⟨zs,q,_⟩ | ⟨xss,_,_,q,_⟩
    · rw [gi] at q;cases q
    · rw [gi] at q;cases q
  obtain⟨R',fs⟩:=R.upd1 (F':=F') (H':=H) (e':=e.set i (some (.d (.list (xss.map .list))))) i (by rw [List.length_set];exact R.len) (fun _ _=>rfl) (fun j hj=>List.getElem?_set_ne (Ne.symm hj)) sF sm
    (fun j a hj q=>by
      rw [neg a fun z=>hj (R.fp j i a q (inF a z))]
      exact(R.fpAt q).1)
    (fun j a o _ _ ha=>ha) (fun x q=>by rw [gi] at q;cases q;exact⟨_,a1,da⟩) (fun zs q=>by rw [gi] at q;cases q) (fun zss q=>by rw [gi] at q;cases q) (fun a j hj q=>absurd q (nofp a))
  refine⟨F',.ref l,a1,da,R',⟨sF,fun _ h=>h,fun a vs h1 h2 h3=>?_,fun a vs h=>⟨vs,h⟩,fun _ _ h _=>h,fun j=>?_,fun a ⟨j,q⟩=>?_⟩⟩
  · rw [neg a fun z=>h3 ⟨i,inF a z⟩];exact h1
  · by_cases z:j=i
    · subst z;rw [gi,hi];simp
    · rw [List.getElem?_set_ne (Ne.symm z)]
  · by_cases z:j=i
    · subst z;exact absurd q (nofp a)
    · exact .inl ⟨j,(fs j a z).mp q⟩
theorem bh.setN(R:bh K F H σ e)(i:Nat){l:Addr}(h1:F l=none)(h2:H l=some (.lst []))(h4:¬dn σ e H l):bh K F H (σ.set i (some (.ref l))) (e.set i (some (.n [])))∧∀a,dn (σ.set i (some (.ref l))) (e.set i (some (.n []))) H a→dn σ e H a∨a=l:=by
  have gi:∀s,(e.set i (some (Sv.n [])))[i]?=some (some s)→s=.n []∧i < e.length:=fun s q=>by
    have hlt:i < e.length:=by have:=(KY q).1;simpa using this
    rw [List.getElem?_set_self hlt] at q
    exact⟨(Option.some.inj (Option.some.inj q)).symm,hlt⟩
  have onefp:∀a,Fp (σ.set i (some (.ref l))) (e.set i (some (.n []))) H i a→a=l:=fun a q=>by
    rcases q with ⟨zs,q,q2⟩ | ⟨xss,l',bs,q,q2,q3,q4⟩
    · cases (gi _ q).1
    · obtain⟨_,hlt⟩:=gi _ q
      rw [List.getElem?_set_self (by rw [R.len];exact hlt)] at q2
      cases q2
      rw [h2] at q3
      have:bs=[]:=by
        cases bs with
        | nil=>rfl
        | cons _ _=>have z:=HO.lst.inj (Option.some.inj q3);simp at z
      subst this
      exact q4.elim id fun z=>by cases z
  obtain⟨R',fs⟩:=R.upd1 (F':=F) (H':=H) (σ':=σ.set i (some (.ref l))) (e':=e.set i (some (.n []))) i (by rw [List.length_set,List.length_set];exact R.len) (fun j hj=>List.getElem?_set_ne (Ne.symm hj)) (fun j hj=>List.getElem?_set_ne (Ne.symm hj)) (aD.refl F) R.sm
    (fun j a _ q=>(R.fpAt q).1) (fun j a o _ _ ha=>ha) (fun y q=>by cases (gi _ q).1) (fun zs q=>by cases (gi _ q).1)
    (fun zss q=>by
      obtain⟨z,hlt⟩:=gi _ q
      cases z
      exact⟨l,[],List.getElem?_set_self (by rw [R.len];exact hlt),h1,h2,rfl,List.nodup_nil,by simp,fun k b ys q=>by simp at q⟩)
    (fun a j hj q q2=>h4 ⟨j,by rw [onefp a q] at q2;exact q2⟩)
  refine⟨R',fun a ⟨j,q⟩=>?_⟩
  by_cases z:j=i
  · subst z;exact .inr (onefp a q)
  · exact .inl ⟨j,(fs j a z).mp q⟩
end
def cE(e:En)(i:Nat):Option (List (List PyData)):=match e[i]? with
  | some (some (.n xss))=>some xss
  | _=>none
theorem gX{e:En}{i:Nat}{xss:List (List PyData)}(h:cE e i=some xss):e[i]?=some (some (.n xss)):=by
  unfold cE at h
  split at h
  · rename_i heq;cases h;exact heq
  · cases h
section
variable{X:Cx}{K:PySem.W.Frag}{a b:Expr}{es:List Expr}{fa fb:FE}{fs:FA}{pos p p2 p3 pos':Pos}{x:Str}{i:Nat}
def zz(i:Nat):FS:=fun e=>some (.nx (e.set i (some (.n []))))
theorem BM(hN:X.N.Nodup)(hi:X.N[i]?=some x)(hx:C3 X.env.scope x)(hs:swapsWith (.List [] p) (some (.Name x pos')) pos.line X.env=pure false)(hf:X.fn x=true∨X.env.scope.names.lookup x=some .local):
    PS X (.Assign [.Name x pos'] (.List [] p) pos) (fS K (zz i) [i]):=(za hN hi hx (yZ mZ) hs hf).mono fun D σ H h=>by
  obtain⟨F,e,fl,R,hf,q⟩:=h
  cases hf
  refine⟨Nat.zero_le _,fun l hl=>?_⟩
  obtain⟨R1,X1,f1,n1⟩:=R.newL (vs:=[]) hl
  obtain⟨R2,o2⟩:=R1.setN i f1 ay n1
  refine q F _ _ ⟨X1.sf,X1.dom,X1.fr,X1.lst,X1.tmp,fun a h=>?_,fun j n=>List.getElem?_set_ne (fun z=>n (by simp [z]))⟩ R2
  rcases o2 a h with z | z
  · exact X1.ow a z
  · exact .inr (by rw [z];exact hl)
def gG(i:Nat):FE:=fun e=>(cE e i).map fun xss=>(.d (.int xss.length),e)
theorem sv(hK:X.K=K)(hN:X.N[i]?=some x)(hv:Ai X.env.scope x)(hd:(x==("__debug__":Str))=false)(hcd:(x==("__classdict__":Str))=false)(hg:Gl X "len")(hm:X.mg "len"=none)(hst:PySem.W.isStarred (.Name x p2)=false)
    (he:starEach [.Name x p2] X.env=(false,eval (.Name x p2) X.env)::starEach [] X.env)(hpl:(backTo pos (starEach [] X.env)).any (·.1)=false):PE X (.Call (.Name "len" p) [.Name x p2] [] pos) (fE K (gG i)):=
  (pK (wA hK) hg hm PySem.boot_len (Bl (m4 hN hv hd hcd) mZ hst) (by decide) (by decide) he hpl).mono fun σ H Q h=>by
  obtain⟨F,e,z,e',R,hf,q⟩:=h
  unfold gG at hf
  obtain⟨xss,h1,hf⟩:=KW hf
  cases hf
  obtain⟨l,bs,a1,a2,a3,a4,_⟩:=R.nst i xss (gX h1)
  refine⟨_,a1,l,_,rfl,.inl (.inl (.inl a3)),?_⟩
  rw [List.length_map,a4]
  exact q F H _ (eS.refl _ _ _ _) R m8
def uk(i:Nat)(fa:FE):FE:=fun e=>(cE e i).bind fun _=>(fa e).bind fun p=>match p.1 with
  | .l ys=>(cE p.2 i).bind fun xss=>if xss.length < 1000000 then some (.d .none,p.2.set i (some (.n (xss++[ys])))) else none
  | _=>none
theorem D9{apos cpos:Pos}(hK:X.K=K)(hN:X.N[i]?=some x)(hv:Ai X.env.scope x)(hd:(x==("__debug__":Str))=false)(hcd:(x==("__classdict__":Str))=false)(ha:PE X a (fE K fa))(hst:PySem.W.isStarred a=false)
    (hbase:attributeBase (.Name x p) "append" X.env (eval (.Name x p) X.env)=eval (.Name x p) X.env)
    (hfew:((backTo cpos (starEach [a] X.env)).all (fun x=> !x.1)&&(backToKw cpos (keywordEach [] X.env)).all (fun x=>x.1.isSome)
      &&decide ([a].length+([]:List Keyword).length+(if ([]:List Keyword).isEmpty then 0 else 1) < 30))=true)
    (hline:(apos.endLine==cpos.line)=true)(hs:starEach [a] X.env=(false,eval a X.env)::starEach [] X.env)(hplain:(backTo cpos (starEach [] X.env)).any (·.1)=false):
    PE X (.Call (.Attribute (.Name x p) "append" apos) [a] [] cpos) (fE K (uk i fa)):=by
  subst hK
  refine(yW PySem.F.plainAttrs_list PySem.F.slot_list_append PySem.F.type_list_append i9 (m4 hN hv hd hcd) (Bl ha mZ hst) hbase hfew hline hs hplain).mono fun σ H Q h=>?_
  obtain⟨F,e,z,e',R,hf,q⟩:=h
  unfold uk at hf
  obtain⟨xss0,h0,hf⟩:=KU hf
  obtain⟨⟨r,e1⟩,h1,hf⟩:=KU hf
  match r,h1,hf with
  | .l ys,h1,hf=>
  obtain⟨xss,h2,hf⟩:=KU hf
  split at hf
  case isFalse=>cases hf
  case isTrue hlen=>
  cases hf
  obtain⟨l,bs0,a1,_,a3,_⟩:=R.nst i xss0 (gX h0)
  refine⟨_,a1,.inl ⟨rfl,_,.inl (.inl a3)⟩,F,e,_,e1,R,h1,fun F1 H1 v X1 R1 A1=>?_⟩
  obtain⟨t,us,rfl,t1,t2,t3,t4,t5⟩:=A1
  have h2':=gX h2
  obtain⟨l',bs,c1,c2,c3,c4,c5,c6,c7⟩:=R1.nst i xss h2'
  rw [a1] at c1;cases c1
  have fi:∀z,z=l∨z∈bs→Fp σ e1 H1 i z:=fun z h=>.inr ⟨xss,l,bs,h2',a1,c3,h⟩
  have tl:t≠l:=fun z=>t5 ⟨i,fi t (.inl z)⟩
  have tb:t∉bs:=fun z=>t5 ⟨i,fi t (.inr z)⟩
  have sl:sizeLine=16777216:=sizeLine_eq
  refine⟨l,_,_,rfl,rfl,c3,by rw [List.length_map,c4];lia,?_⟩
  have em:bs.map V.ref++[V.ref t]=(bs++[t]).map V.ref:=by simp
  rw [em]
  obtain⟨R2,o2,s2⟩:=R1.putN (yss:=xss++[ys]) (bs:=bs++[t]) (H':=be H1 l (.lst ((bs++[t]).map V.ref))) h2' a1 c2 ay (by simp [c4]) (by
      rw [List.nodup_append]
      exact⟨c5,by simp,fun x hx y hy=>by simp at hy;subst hy;exact fun z=>tb (z ▸ hx)⟩) (by simp [c6,Ne.symm tl]) (fun k b zs q1 q2=>by
      rw [List.getElem?_append] at q1 q2
      rw [c4] at q1
      by_cases hk:k < xss.length
      · rw [if_pos hk] at q1 q2
        obtain⟨d1,us',d2,d3⟩:=c7 k b zs q1 q2
        have zb:b≠l:=fun z=>c6 (z ▸ K2 q1)
        exact⟨d1,us',by rw [aG zb];exact d2,d3⟩
      · rw [if_neg hk] at q1 q2
        have hk0:k - xss.length=0:=by
          have:=(KY q1).1
          simp at this;lia
        rw [hk0] at q1 q2
        simp at q1 q2
        subst q1 q2
        exact⟨t2,us,by rw [aG tl];exact t3,t4⟩)
    (fun b hb=>by
      rcases KZ hb with hb | hb
      · exact .inl (fi b (.inr hb))
      · simp at hb;subst hb;exact .inr t5)
    (fun z q=>by
      by_cases e0:z=l
      · rw [e0,ay] at q;cases q
      · rw [aG e0] at q;exact q)
    (fun z o q n1 _=>by rw [aG n1];exact q) (fun z vs q=>by
      by_cases e0:z=l
      · rw [e0];exact⟨_,ay⟩
      · rw [aG e0];exact⟨vs,q⟩)
  refine q F1 _ .non ⟨X1.sf,fun z q=>X1.dom z ?_,X1.fr,fun z vs h=>?_,fun z o h n=>?_,fun j=>(s2 j).trans (X1.shp j),fun z h=>?_⟩ R2 ((iA (K:=X.K) (F:=F1)).mpr rfl)
  · by_cases e0:z=l
    · rw [e0,ay] at q;cases q
    · rw [aG e0] at q;exact q
  · obtain⟨vs',h'⟩:=X1.lst z vs h
    by_cases e0:z=l
    · rw [e0];exact⟨_,ay⟩
    · rw [aG e0];exact⟨vs',h'⟩
  · have e0:z≠l:=fun e0=>by
      rcases X1.ow z ⟨i,fi z (.inl e0)⟩ with w | w
      · exact n w
      · rw [h] at w;cases w
    rw [aG e0];exact X1.tmp z o h n
  · rcases o2 z h with w | w
    · exact X1.ow z w
    · rcases KZ w with w | w
      · exact X1.ow z ⟨i,fi z (.inr w)⟩
      · simp at w;subst w;exact .inr t1
def Qt(X:Cx)(K:PySem.W.Frag)(a:Expr)(f:En→Option Int):Prop:=∃t:TE,PE X a t∧∀σ F H e i (Q:VK),bh K F H σ e→f e=some i→Q (.int i) H→t σ H Q
def xa(i:Nat):En→Option Int:=fun e=>match e[i]? with
  | some (some (.d (.int k)))=>some k
  | _=>none
theorem Eb(i:Nat)(hN:X.N[i]?=some x)(hv:Ai X.env.scope x)(hd:(x==("__debug__":Str))=false)(hcd:(x==("__classdict__":Str))=false):Qt X K (.Name x pos) (xa i):=⟨_,m4 hN hv hd hcd,fun σ F H e k Q R hf q=>by
  unfold xa at hf
  split at hf
  · rename_i heq
    cases hf
    obtain⟨v,h1,h2⟩:=R.dat i _ heq
    exact⟨v,h1,by rw [bX.mp h2];exact q⟩
  · cases hf⟩
def nC(k:Int):En→Option Int:=fun _=>some k
theorem Ea{k:Int}{j}:Qt X K (.Constant (.int k) j pos) (nC k):=⟨_,yY,fun σ F H e i Q R hf q=>by cases hf;exact q⟩
def w_(f g:En→Option Int):En→Option Int:=fun e=>(f e).bind fun i=>(g e).map fun j=>i+j
theorem D'{f g:En→Option Int}(ha:Qt X K a f)(hb:Qt X K b g):Qt X K (.BinOp a .Add b pos) (w_ f g):=by
  obtain⟨ta,h1,h2⟩:=ha
  obtain⟨tb,h3,h4⟩:=hb
  refine⟨_,CF yQ h1 h3,fun σ F H e k Q R hf q=>?_⟩
  unfold w_ at hf
  obtain⟨i,g1,hf⟩:=KU hf
  obtain⟨j,g2,hf⟩:=KW hf
  cases hf
  exact h2 σ F H e i _ R g1 (h4 σ F H e j _ R g2 ⟨i,j,rfl,rfl,q⟩)
def qX(i:Nat)(fv fp:FE)(fq:En→Option Int):FS:=fun e=>(fv e).bind fun r=>(l4 r.1).bind fun d=>(cE r.2 i).bind fun _=>(fp r.2).bind fun p=>(bz p.1).bind fun k=>(cE p.2 i).bind fun xss=>(ma xss.length k).bind fun kn=>(xss[kn]?).bind fun ys=>(fq p.2).bind fun j=>(ma ys.length j).map fun jn=>.nx (p.2.set i (some (.n (xss.set kn (ys.set jn d)))))
theorem BN{c pq:Expr}{fv fp:FE}{fq:En→Option Int}{ps ps2:Pos}(hK:X.K=K)(he:PE X c (fE K fv))(hN:X.N[i]?=some x)(hv:Ai X.env.scope x)(hd:(x==("__debug__":Str))=false)(hcd:(x==("__classdict__":Str))=false)(hp:PE X a (fE K fp))(hpl:oA a)(hq:Qt X K pq fq)
    (ha:∀v,assign (.Subscript (.Subscript (.Name x p) a ps2) pq ps) X.env v=(do
      let ov ←holding [v] (eval (.Subscript (.Name x p) a ps2) X.env)
      let iv ←holding [v,ov] (eval pq X.env)
      standAt ps
      holding [v,ov,iv] (setItem ov iv v)
      release [v,ov,iv] []))
    (hs:swapsWithSole [.Subscript (.Subscript (.Name x p) a ps2) pq ps] c pos.line X.env=pure false)(hw:swappedStores [.Subscript (.Subscript (.Name x p) a ps2) pq ps] c X.env=pure none)
    (h1:(assignEach [.Subscript (.Subscript (.Name x p) a ps2) pq ps] X.env).map (·.2)=[assign (.Subscript (.Subscript (.Name x p) a ps2) pq ps) X.env]):
    PS X (.Assign [.Subscript (.Subscript (.Name x p) a ps2) pq ps] c pos) (fS K (qX i fv fp fq) []):=by
  obtain⟨tq,q1,q2⟩:=hq
  refine(u_ he (y2 (CD (yu hK) (m4 hN hv hd hcd) hp hpl) q1 pX ha) hs hw h1).mono fun D σ H h=>?_
  obtain⟨F,e,fl,R,hf,q⟩:=h
  unfold qX at hf
  obtain⟨⟨r,e1⟩,g1,hf⟩:=KU hf
  obtain⟨d,g2,hf⟩:=KU hf
  obtain⟨xs0,g3,hf⟩:=KU hf
  obtain⟨⟨rp,e2⟩,g4,hf⟩:=KU hf
  obtain⟨k,g5,hf⟩:=KU hf
  obtain⟨xss,g6,hf⟩:=KU hf
  obtain⟨kn,g7,hf⟩:=KU hf
  obtain⟨ys,g8,hf⟩:=KU hf
  obtain⟨j,g9,hf⟩:=KU hf
  obtain⟨jn,g10,hf⟩:=KW hf
  cases hf
  refine⟨F,e,r,e1,R,g1,fun F1 H1 v X1 R1 A1=>?_⟩
  obtain⟨l,bs0,a1,_⟩:=R1.nst i xs0 (gX g3)
  refine⟨_,a1,F1,e1,rp,e2,R1,g4,fun F2 H2 w X2 R2 A2=>?_⟩
  have X12:=X1.trans X2
  obtain⟨F3,R3,s3,d3,f3⟩:=dI.frozen R2 (rs:=[r]) (vs:=[v]) ⟨v,[],rfl,A1.ext X2,rfl⟩ (kU g2)
  have X13:=X12.frz s3 f3
  have g6':=gX g6
  obtain⟨l',bs,c1,c2,c3,c4,c5,c6,c7⟩:=R3.nst i xss g6'
  rw [a1] at c1;cases c1
  obtain⟨b,hb⟩:∃b,bs[kn]?=some b:=⟨bs[kn]'(by rw [c4];exact(KY g8).1),List.getElem?_eq_getElem _⟩
  obtain⟨b1,us,b2,b3⟩:=c7 kn b ys hb g8
  have fi:∀z,z=l∨z∈bs→Fp σ e2 H2 i z:=fun z h=>.inr ⟨xss,l,bs,g6',a1,c3,h⟩
  have bm:b∈bs:=K2 hb
  have bl:b≠l:=fun z=>c6 (z ▸ bm)
  refine⟨l,_,k,.ref b,rfl,bw A2 g5,.inl (.inl c3),?_,q2 σ F3 H2 e2 j _ R3 g9 ?_⟩
  · unfold atI
    rw [List.length_map,c4,g7]
    show(bs.map V.ref)[kn]?=_
    rw [List.getElem?_map,hb];rfl
  refine⟨b,us,j,jn,rfl,rfl,b2,by rw [←b3.len];exact g10,?_⟩
  have dv:DA K F3 d v:=by
    simp only [aS] at d3
    obtain⟨v',r',e',hv,_⟩:=d3
    cases e';exact hv
  obtain⟨R4,o4,s4⟩:=R3.putN (yss:=xss.set kn (ys.set jn d)) (bs:=bs) (H':=be H2 b (.lst (us.set jn v))) g6' a1 c2 (by rw [aG (Ne.symm bl)];exact c3) (by simp [c4]) c5 c6 (fun m z zs z1 z2=>by
      by_cases em:m=kn
      · subst em
        rw [hb] at z1;cases z1
        rw [List.getElem?_set_self (by exact(KY g8).1)] at z2
        cases z2
        exact⟨b1,_,ay,b3.set dv jn⟩
      · rw [List.getElem?_set_ne (Ne.symm em)] at z2
        obtain⟨d1,us',d2,d3⟩:=c7 m z zs z1 z2
        have zb:z≠b:=fun ez=>by
          subst ez
          exact em ((List.getElem?_inj (KY z1).1 c5).mp (z1.trans hb.symm))
        exact⟨d1,us',by rw [aG zb];exact d2,d3⟩)
    (fun z hz=>.inl (fi z (.inr hz)))
    (fun z q=>by
      by_cases e0:z=b
      · rw [e0,ay] at q;cases q
      · rw [aG e0] at q;exact q)
    (fun z o q _ n2=>by
      have e0:z≠b:=fun e0=>n2 (by rw [e0];exact bm)
      rw [aG e0];exact q) (fun z vs q=>by
      by_cases e0:z=b
      · rw [e0];exact⟨_,ay⟩
      · rw [aG e0];exact⟨vs,q⟩)
  refine q F3 _ σ ⟨X13.sf,fun z q=>X13.dom z ?_,X13.fr,fun z vs h=>?_,fun z o h n=>?_,fun z h=>?_,fun _ _=>rfl⟩ R4
  · by_cases e0:z=b
    · rw [e0,ay] at q;cases q
    · rw [aG e0] at q;exact q
  · obtain⟨vs',h'⟩:=X13.lst z vs h
    by_cases e0:z=b
    · rw [e0];exact⟨_,ay⟩
    · rw [aG e0];exact⟨vs',h'⟩
  · have e0:z≠b:=fun e0=>by
      rcases X13.ow z ⟨i,fi z (.inr (by rw [e0];exact bm))⟩ with w | w
      · exact n w
      · rw [h] at w;cases w
    rw [aG e0];exact X13.tmp z o h n
  · rcases o4 z h with w | w
    · exact X13.ow z w
    · exact X13.ow z ⟨i,fi z (.inr w)⟩
def yo(i:Nat):FI:=fun e=>(cE e i).map fun xss=>(xss.map .list,[],e.set i (some (.d (.list (xss.map .list)))))
theorem BK{tg:Expr}(hK:X.K=K)(hN:X.N[i]?=some x)(hv:Ai X.env.scope x)(hd:(x==("__debug__":Str))=false)(hcd:(x==("__classdict__":Str))=false):PI X tg (.Name x pos) (fI K (yo i)):=(tQ (tg:=tg) hK (m4 hN hv hd hcd)).mono fun σ H R hh=>by
  obtain⟨F,e,items,own,e',R0,hf,q⟩:=hh
  unfold yo at hf
  obtain⟨xss,h1,hf⟩:=KW hf
  cases hf
  obtain⟨F',v,c1,c2,R1,X1⟩:=R0.frzN (gX h1)
  obtain⟨l,vs,rfl,d1,d2⟩:=d9.mp c2
  exact⟨_,c1,l,rfl,⟨vs,R1.sm.seq d1⟩,q _ F' H X1 R1 (fun _ h=>by cases h) (qN (.lst d1 d2))⟩
def B8(fo fa:FE):FE:=fun e=>(fo e).bind fun o=>(fa o.2).bind fun p=>match p.1 with
  | .l ys=>(iS p.2 o.1).bind fun s=>if s.2.length+ys.length≤1000000 then some (.d .none,p.2.set s.1 (some (.l (s.2++ys)))) else none
  | _=>none
theorem zg{o:Expr}{fo:FE}{apos cpos:Pos}(hK:X.K=K)(ho:PE X o (fE K fo))(ha:PE X a (fE K fa))(hst:PySem.W.isStarred a=false)
    (hbase:attributeBase o "extend" X.env (eval o X.env)=eval o X.env)
    (hfew:((backTo cpos (starEach [a] X.env)).all (fun x=> !x.1)&&(backToKw cpos (keywordEach [] X.env)).all (fun x=>x.1.isSome)
      &&decide ([a].length+([]:List Keyword).length+(if ([]:List Keyword).isEmpty then 0 else 1) < 30))=true)
    (hline:(apos.endLine==cpos.line)=true)(hs:starEach [a] X.env=(false,eval a X.env)::starEach [] X.env)(hplain:(backTo cpos (starEach [] X.env)).any (·.1)=false):
    PE X (.Call (.Attribute o "extend" apos) [a] [] cpos) (fE K (B8 fo fa)):=by
  subst hK
  refine(yW PySem.F.plainAttrs_list PySem.F.slot_list_extend PySem.F.type_list_extend w6 ho (Bl ha mZ hst) hbase hfew hline hs hplain).mono fun σ H Q h=>?_
  obtain⟨F,e,z,e',R,hf,q⟩:=h
  unfold B8 at hf
  obtain⟨⟨ro,e1⟩,h1,hf⟩:=KU hf
  obtain⟨⟨r,e2⟩,h2,hf⟩:=KU hf
  match r,h2,hf with
  | .l ys,h2,hf=>
  obtain⟨⟨n,xs⟩,h3,hf⟩:=KU hf
  split at hf
  case isFalse=>cases hf
  case isTrue hlen=>
  cases hf
  obtain⟨z3,h3'⟩:=m_ h3
  dsimp only at z3 h3'
  subst z3
  refine⟨F,e,_,e1,R,h1,fun F1 H1 v X1 R1 A1=>?_⟩
  obtain⟨s1,zs,s2⟩:=A1
  obtain⟨l,vs,c1,c2,c3,c4⟩:=R1.own n zs s2
  rw [s1] at c1;cases c1
  refine⟨.inl ⟨rfl,vs,.inl (.inl c3)⟩,F1,e1,_,e2,R1,h2,fun F2 H2 w X2 R2 A2=>?_⟩
  obtain⟨t,us,rfl,t1,t2,t3,t4,t5⟩:=A2
  obtain⟨l',vs',d1,d2,d3,d4⟩:=R2.own n xs h3'
  rw [s1] at d1;cases d1
  have l1:=d4.len
  have l2:=t4.len
  have sl:sizeLine=16777216:=sizeLine_eq
  dsimp only at hlen
  refine⟨l,t,vs',us,rfl,rfl,d3,t3,by lia,?_⟩
  obtain⟨R3,X3⟩:=R2.putL h3' s1 (d4.append t4)
  exact q _ _ _ ((X1.trans X2).trans X3) R3 ((iA (K:=X.K) (F:=F2)).mpr rfl)
end
theorem mU{C:Int→Int→Bool}{f:Int→Int→PyData}{e:En}{i j:Int}(h:C i j=true):gI C f e (.d (.int i)) (.d (.int j))=some (.d (f i j)):=by simp [gI,bz,h]
theorem bE{e:En}{i j:Int}:bu e (.d (.int i)) (.d (.int j))=some (.d (.int (i+j))):=rfl
theorem c9{e:En}{i j:Int}:gq e (.d (.int i)) (.d (.int j))=some (.d (.int (i - j))):=rfl
theorem o5{e:En}{i j:Int}(h:mX i j=true):gu e (.d (.int i)) (.d (.int j))=some (.d (.int (i*j))):=by
  unfold gu xN oZ;rw [mU h];rfl
theorem yH{i j:Int}(h1: -(2 ^ 64) < i)(h2:i < 2 ^ 64):mX i j=true:=by
  have:jG i=true:=by unfold jG;rw [decide_eq_true h1,decide_eq_true h2];rfl
  unfold mX;rw [this];simp
theorem rY{i j:Int}(h1: -(2 ^ 64) < j)(h2:j < 2 ^ 64):mX i j=true:=by
  have:jG j=true:=by unfold jG;rw [decide_eq_true h1,decide_eq_true h2];rfl
  unfold mX;rw [this];simp
theorem aQ{e:En}{i j:Int}(h:0 < j):aZ e (.d (.int i)) (.d (.int j))=some (.d (.int (i % j))):=by
  unfold aZ;rw [mU (by simp;lia)]
  rw [Int.fmod_eq_emod_of_nonneg i (by lia)]
theorem gS{e:En}{i j:Int}(h:0 < j)(h2:Bt 8000 j):gB e (.d (.int i)) (.d (.int j))=some (.d (.int (i / j))):=by
  unfold gB;rw [mU (by simp [lS.mpr h2];lia)]
  rw [Int.fdiv_eq_ediv_of_nonneg i (by lia)]
theorem cP{e:En}{i j:Int}{neg:Bool}:bv neg e (.d (.int i)) (.d (.int j))=some (.d (.bool (if neg then !(i==j) else i==j))):=by
  unfold bv;simp [j8,SeqAt.shaped,PyData.canLay0,PyData.depth,PyData.eqv]
theorem iG{e:En}{i j:Int}:tD e (.d (.int i)) (.d (.int j))=some (.d (.bool (decide (i < j)))):=rfl
theorem iE{e:En}{i j:Int}:AJ e (.d (.int i)) (.d (.int j))=some (.d (.bool (decide (i≤j)))):=rfl
theorem iC{e:En}{i j:Int}:Cv e (.d (.int i)) (.d (.int j))=some (.d (.bool (decide (j < i)))):=rfl
theorem iB{e:En}{i j:Int}:uH e (.d (.int i)) (.d (.int j))=some (.d (.bool (decide (j≤i)))):=rfl
theorem fP{e:En}{i j:Int}:g2 tF e [.d (.int i),.d (.int j)]=some (.d (.int (min i j))):=by
  show some (Rv.d (.int (if j < i then j else i)))=_
  congr 3
  split<;>lia
theorem fN{e:En}{i j:Int}:g2 oo e [.d (.int i),.d (.int j)]=some (.d (.int (max i j))):=by
  show some (Rv.d (.int (if j > i then j else i)))=_
  congr 3
  split<;>lia
theorem fQ{e:En}{i:Int}:kg e (.d (.int i))=some (.d (.int (-i))):=rfl
theorem eh{e:En}{b:Bool}:g1 wJ e [.d (.bool b)]=some (.d (.int (if b then 1 else 0))):=rfl
theorem fM{e:En}{i:Int}:g1 wG e [.d (.int i)]=some (.d (.int i.natAbs)):=by
  show some (Rv.d (.int (if i < 0 then -i else i)))=_
  congr 3
  split<;>lia
theorem mR{j:Int}(h1:0 < j)(h2:j < 2 ^ 64):Bt 8000 j:=Bt.mono (m:=64) (by unfold Bt;lia) (by decide)
theorem h9{α:Type}{xs:List α}{i:Int}(h0:0≤i)(h:i < xs.length):atI xs i=xs[i.toNat]?:=by
  unfold atI ma
  rw [if_pos h0,if_pos h];rfl
theorem l6{e:En}{i:Nat}{xs:List PyData}{neg:Bool}(h:e[i]?=some (some (.l xs)))(hs:SeqAt.shaped (.list xs)=true):bv neg e (.s i) (.l [])=some (.d (.bool (if neg then !xs.isEmpty else xs.isEmpty))):=by
  unfold bv
  simp only [j8,h,Option.bind_some,hs]
  have h0:SeqAt.shaped (.list [])=true:=by simp [SeqAt.shaped,PyData.canLay0,PyData.canLayAll0,PyData.depth,PyData.depthAll]
  rw [h0]
  cases xs<;>simp [PyData.eqv,PyData.eqvAll]
theorem iK(ns:List Int):SeqAt.shaped (.list (ns.map .int))=true∧SeqAt.shaped (.tuple (ns.map .int))=true:=by
  have h1:PyData.canLayAll0 (ns.map PyData.int)=true:=by
    induction ns with
    | nil=>rfl
    | cons n r ih=>simp [PyData.canLayAll0,PyData.canLay0,ih]
  have h2:PyData.depthAll (ns.map PyData.int)=0:=by
    clear h1
    induction ns with
    | nil=>rfl
    | cons n r ih=>simp [PyData.depthAll,PyData.depth,ih]
  constructor<;>simp [SeqAt.shaped,PyData.canLay0,PyData.depth,h1,h2]
theorem cm{own:iM}{g:FG}{f:FS}(P:Nat→En→Prop):∀(items:List PyData) (k:Nat) (e:En),(∀i x e,items[i]?=some x→P (k+i) e→∃e1 e2,g x e=some e1∧f e1=some (.nx e2)∧keeps own e2∧P (k+i+1) e2)→P k e→∃e',eX own g f items e=some (.nx e')∧P (k+items.length) e'
  | [],k,e,_,h=>⟨e,rfl,h⟩
  | x::r,k,e,hs,h=>by
    obtain⟨e1,e2,h1,h2,h3,h4⟩:=hs 0 x e rfl h
    obtain⟨e',h5,h6⟩:=cm P r (k+1) e2 (fun i y e hy hp=>by
      have:=hs (i+1) y e (by simpa using hy) (by rw [show k+(i+1)=k+1+i by lia];exact hp)
      rw [show k+(i+1)+1=k+1+i+1 by lia] at this
      exact this) h4
    refine⟨e',?_,by rw [List.length_cons,show k+(r.length+1)=k+1+r.length by lia];exact h6⟩
    unfold eX
    simp only [h1,h2,Option.bind_some,if_pos h3]
    exact h5
theorem aV{e:En}:keeps [] e:=fun _ h=>by cases h
theorem bS{W:List Nat}{fi:FI}{g:FG}{f:FS}{e e1:En}{items:List PyData}(h:fi e=some (items,[],e1)):di W fi g f e=eX [] g f items e1:=by
  unfold di;rw [h];rfl
theorem fj{lo:Int}{n i:Nat}{x:PyData}(h:(bx lo n)[i]?=some x):x=.int (lo+i)∧i < n:=by
  unfold bx at h
  rw [List.getElem?_map] at h
  obtain⟨k,h1,rfl⟩:=KW h
  obtain⟨h2,h3⟩:=KY h1
  simp at h2 h3
  subst h3
  exact⟨rfl,h2⟩
theorem io{lo:Int}{n:Nat}:(bx lo n).length=n:=by simp [bx]
theorem eY{fs:FA}{e e1:En}{n:Int}(h:fs e=some ([.d (.int n)],e1))(h1: -1000000≤n)(h2:n≤1000000):eK fs e=some (bx 0 n.toNat,[],e1):=by
  unfold eK;rw [h]
  have:zw n=true:=by unfold zw;rw [decide_eq_true h1,decide_eq_true h2];rfl
  simp [bz,this]
theorem jJ{ft:FT}{f:FS}(P:En→Prop)(μ:En→Nat)(hs:∀e,P e→(∃e1,ft e=some (false,e1)∧True)∨∃e1 e2,ft e=some (true,e1)∧f e1=some (.nx e2)∧P e2∧μ e2 < μ e):
    ∀(n:Nat) (e:En),P e→μ e < n→∃e0 e',jI ft f n e=some (.nx e')∧P e0∧ft e0=some (false,e'):=by
  intro n
  induction n with
  | zero=>intro e _ h;lia
  | succ n ih=>
    intro e hp hm
    rcases hs e hp with ⟨e1,h1,_⟩ | ⟨e1,e2,h1,h2,h3,h4⟩
    · exact⟨e,e1,by unfold jI;rw [h1];rfl,hp,h1⟩
    · obtain⟨e0,e',g1,g2⟩:=ih e2 h3 (by lia)
      exact⟨e0,e',by unfold jI;rw [h1];simp only [Option.bind_some,if_true,h2];exact g1,g2⟩
theorem cM{cs:En}{ft:FT}{fe:FE}{b:PyData→Bool}{y:PyData→PyData}:∀(items:List PyData) (t:Option Sv) (acc:List PyData),(∀x∈items,ft (cs++[some (.d x)])=some (b x,cs++[some (.d x)]))→(∀x∈items,b x=true→fe (cs++[some (.d x)])=some (.d (y x),cs++[some (.d x)]))→
    acc.length+items.length≤1000000→∃t',cI (af cs.length) ft fe items (cs++[t]) acc=some (acc++(items.filter b).map y,cs++[t'])
  | [],t,acc,_,_,_=>⟨t,by simp [cI]⟩
  | x::r,t,acc,h1,h2,hl=>by
    have hg:af cs.length x (cs++[t])=some (cs++[some (.d x)]):=by simp [af]
    have h1x:=h1 x (by simp)
    unfold cI
    rw [hg]
    simp only [Option.bind_some,h1x]
    cases hb:b x with
    | true=>
      simp only [if_true,h2 x (by simp) hb,Option.bind_some,l4]
      rw [if_pos (by simp at hl;lia)]
      obtain⟨t',ih⟩:=cM (b:=b) (y:=y) r (some (.d x)) (acc++[y x]) (fun z hz=>h1 z (by simp [hz])) (fun z hz=>h2 z (by simp [hz])) (by simp at hl ⊢;lia)
      exact⟨t',by rw [ih];simp [hb]⟩
    | false=>
      simp only [Bool.false_eq_true,if_false]
      obtain⟨t',ih⟩:=cM (b:=b) (y:=y) r (some (.d x)) acc (fun z hz=>h1 z (by simp [hz])) (fun z hz=>h2 z (by simp [hz])) (by simp at hl;lia)
      exact⟨t',by rw [ih];simp [hb]⟩
theorem vq{cp:List (Nat × Str)}{nT:Nat}{fi:FI}{g:FG}{ft:FT}{fe:FE}{e e1 eo:En}{items out:List PyData}(h1:fi e=some (items,[],e1))(h3:cI g ft fe items (mN cp nT e1) []=some (out,eo))(h4:(cp.all fun p=> !wR e1[p.1]?)=true):cQ cp nT fi g ft fe e=some (.l out,e1):=by
  unfold cQ
  rw [h1]
  simp only [Option.bind_some,List.all_nil,if_true,h3]
  have hb:j6 cp eo e1=true:=by
    unfold j6
    rw [List.all_eq_true] at h4 ⊢
    intro p hp
    rw [h4 p hp];rfl
  rw [if_pos hb]
  congr 2
  refine List.ext_getElem? fun i=>?_
  rw [cB]
  match hi:e1[i]? with
  | none=>rfl
  | some none=>rfl
  | some (some (.d x))=>rfl
  | some (some (.n x))=>rfl
  | some (some (.l x))=>
    cases hp:mi cp i with
    | none=>simp [hp]
    | some k=>
      obtain⟨s,hs⟩:=er hp
      have:=List.all_eq_true.mp h4 _ (K2 hs)
      simp [hi,wR] at this
theorem iQ{fa:FE}{e e1:En}{xs:List PyData}(h:fa e=some (.d (.tuple xs),e1)):iw fa e=some (xs,[],e1):=by
  unfold iw;rw [h];rfl
theorem uK{fa:FE}{e e1:En}{xs:List PyData}(h:fa e=some (.l xs,e1)):iw fa e=some (xs,[],e1):=by
  unfold iw;rw [h];rfl
theorem dQ{cp:List (Nat × Str)}{nT:Nat}{fi:FI}{g:FG}{ft:FT}{fe:FE}{e e1 cs:En}{t t':En}{items out:List PyData}(h1:fi e=some (items,[],e1))(hc:mN cp nT e1=cs++t)(hl:cs.length=cp.length)(h3:cI g ft fe items (mN cp nT e1) []=some (out,cs++t')):cQ cp nT fi g ft fe e=some (.l out,e1):=by
  have key:∀i x,e1[i]?=some (some (.l x))→∀k,mi cp i=some k→(cs++t')[k]?=some (some (.l x)):=by
    intro i x hi k hk
    obtain⟨s,hs⟩:=er hk
    have hk2:k < cp.length:=(KY hs).1
    have:(mN cp nT e1)[k]?=some (some (.l x)):=by
      unfold mN
      rw [List.getElem?_append_left (by simpa using hk2),List.getElem?_map,hs]
      simp [hi,Ft]
    rw [hc,List.getElem?_append_left (by lia)] at this
    rw [List.getElem?_append_left (by lia)]
    exact this
  unfold cQ
  rw [h1]
  simp only [Option.bind_some,List.all_nil,if_true,h3]
  have hb:j6 cp (cs++t') e1=true:=by
    unfold j6
    rw [List.all_eq_true]
    intro p hp
    match hi:e1[p.1]? with
    | none=>simp [wR]
    | some none=>simp [wR]
    | some (some (.d x))=>simp [wR]
    | some (some (.n x))=>simp [wR]
    | some (some (.l x))=>
      cases hq:mi cp p.1 with
      | none=>
        unfold mi at hq
        rw [List.findIdx?_eq_none_iff] at hq
        have:=hq p hp
        simp at this
      | some k=>simp [key p.1 x hi k hq,wR]
  rw [if_pos hb]
  congr 2
  refine List.ext_getElem? fun i=>?_
  rw [cB]
  match hi:e1[i]? with
  | none=>rfl
  | some none=>rfl
  | some (some (.d x))=>rfl
  | some (some (.n x))=>rfl
  | some (some (.l x))=>
    cases hp:mi cp i with
    | none=>simp [hp]
    | some k=>simp [hp,key i x hi k hp]
theorem mO{α:Type}{xs:List α}{i:Int}(h0:0≤i)(h1:i < xs.length):∃x∈xs,atI xs i=some x:=by
  rw [h9 h0 h1]
  exact⟨xs[i.toNat]'(by lia),List.getElem_mem _,List.getElem?_eq_getElem _⟩
theorem nW{e:En}{xs:List PyData}{i:Int}:dU e (.l xs) (.d (.int i))=(atI xs i).map .d:=rfl
theorem kc{e:En}{xs:List PyData}{i:Int}:dU e (.d (.tuple xs)) (.d (.int i))=(atI xs i).map .d:=rfl
theorem kb{e:En}{xs:List PyData}{i:Int}:dU e (.d (.list xs)) (.d (.int i))=(atI xs i).map .d:=rfl
theorem nX{e:En}{j:Nat}{xs:List PyData}{i:Int}(h:e[j]?=some (some (.l xs))):dU e (.s j) (.d (.int i))=(atI xs i).map .d:=by
  simp [dU,eO,h,bz]
theorem kf{e:En}{xs:List PyData}:g1 cT e [.d (.tuple xs)]=some (.d (.int xs.length)):=rfl
theorem iF{e:En}{xs:List PyData}:g1 cT e [.d (.list xs)]=some (.d (.int xs.length)):=rfl
theorem kd{e:En}{xs:List PyData}:g1 cT e [.l xs]=some (.d (.int xs.length)):=rfl
theorem ke{e:En}{j:Nat}{xs:List PyData}(h:e[j]?=some (some (.l xs))):g1 cT e [.s j]=some (.d (.int xs.length)):=by
  simp [g1,cT,eO,h]
theorem fU{e:En}{j:Nat}{xs:List PyData}(h:e[j]?=some (some (.l xs))):g1 cN e [.s j]=some (.d (.tuple xs)):=by
  simp [g1,cN,eO,h]
theorem fR{e:En}{xs:List PyData}:g1 cN e [.l xs]=some (.d (.tuple xs)):=rfl
theorem ej{e:En}{xs:List PyData}:g1 cN e [.d (.list xs)]=some (.d (.tuple xs)):=rfl
theorem fV{e:En}{xs:List PyData}:g1 cN e [.d (.tuple xs)]=some (.d (.tuple xs)):=rfl
theorem nY{e:En}{xs:List PyData}{lo hi:Option Int}:AK e (.d (.tuple xs)) lo hi=some (.d (.tuple (cutD xs lo hi))):=rfl
theorem jv{e:En}{xs ys:List PyData}(h:xs.length+ys.length≤1000000):bu e (.d (.tuple xs)) (.d (.tuple ys))=some (.d (.tuple (xs++ys))):=by
  simp [bu,xN,Cu,gI,bz,vL,eO,h]
theorem Dc{e:En}{i j:Int}(h:j≠0):aZ e (.d (.int i)) (.d (.int j))=some (.d (.int (i.fmod j))):=by
  unfold aZ;rw [mU (by simpa using h)]
theorem AI{e:En}{i j:Int}(h:j≠0)(h2:Bt 8000 j):gB e (.d (.int i)) (.d (.int j))=some (.d (.int (i.fdiv j))):=by
  unfold gB;rw [mU (by simp [lS.mpr h2,h])]
theorem l7{e:En}{i j:Int}(h:y_ i j=true):uI e (.d (.int i)) (.d (.int j))=some (.d (.int (i ^ j.toNat))):=by
  unfold uI;rw [mU h]
theorem mj:y_ 10 18=true:=by decide
theorem bi{f g:FS}{e e1:En}(h:f e=some (.nx e1)):au f g e=g e1:=by unfold au;rw [h];rfl
theorem CN{ft:FT}{f g:FS}{e e1:En}(h:ft e=some (true,e1)):fB ft f g e=f e1:=by unfold fB;rw [h];rfl
theorem CM{ft:FT}{f g:FS}{e e1:En}(h:ft e=some (false,e1)):fB ft f g e=g e1:=by unfold fB;rw [h];rfl
def lA(i:Nat)(e:En):Nat:=match e[i]? with
  | some (some (.l xs))=>xs.length
  | _=>0
def yI(i:Nat)(e:En):Nat:=match e[i]? with
  | some (some (.d (.int k)))=>k.natAbs
  | _=>0
theorem oI{n m:Nat}(h:n < 2 ^ m)(hm:m≤4200):n < 2 ^ 4200:=Nat.lt_of_lt_of_le h (Nat.pow_le_pow_right (by decide) hm)
theorem jV{α:Type}{a:α}{r:List α}:atI (a::r) 0=some a:=by
  rw [h9 (by decide) (by simp)];rfl
theorem jk{α:Type}{a b:α}{r:List α}:atI (a::b::r) 1=some b:=by
  rw [h9 (by decide) (by simp;lia)];rfl
theorem jl{α:Type}{a b c:α}{r:List α}:atI (a::b::c::r) 2=some c:=by
  rw [h9 (by decide) (by simp;lia)];rfl
theorem jm{α:Type}{a b c d:α}{r:List α}:atI (a::b::c::d::r) 3=some d:=by
  rw [h9 (by decide) (by simp;lia)];rfl
theorem jW{W:aK}{k:Int}(h:jK W k):atI (W.ties.map aO) k=some (aO (W.tie k)):=by
  rw [h9 h.1 (by rw [List.length_map];exact h.2),List.getElem?_map,h.get];rfl
theorem sN{ns:List Int}{k:Int}(h0:0≤k)(h1:k < (ns.length:Int)):atI (ns.map PyData.int) k=some (.int (ns.getD k.toNat 0)):=by
  rw [h9 h0 (by rw [List.length_map];exact h1),List.getElem?_map]
  have:k.toNat < ns.length:=by lia
  simp [this]
theorem nK{a b c d:PyData}:cutD [a,b,c,d] none (some 2)=[a,b]:=rfl
theorem ef{a b c d:PyData}:cutD [a,b,c,d] (some 2) none=[c,d]:=rfl
theorem ee{a b c:PyData}:cutD [a,b,c] (some 1) none=[b,c]:=rfl
theorem sT(ns:List Int):PyData.canLayAll0 (ns.map PyData.int)=true:=by
  induction ns with
  | nil=>rfl
  | cons n r ih=>simp [PyData.canLayAll0,PyData.canLay0,ih]
theorem sM{x:Int}:∀(ns:List Int),((ns.map PyData.int).any fun y=>PyData.eqv y (.int x))=ns.contains x
  | []=>rfl
  | n::r=>by
    rw [List.map_cons,List.any_cons,sM r,List.contains_cons]
    show(n==x || _)=_
    rw [show(n==x)=(x==n) by rw [Bool.eq_iff_iff];simp;exact eq_comm]
theorem eH{e:En}{x:Int}{ns:List Int}{neg:Bool}:wH neg e (.d (.int x)) (.d (.tuple (ns.map .int)))=some (.d (.bool (if neg then !ns.contains x else ns.contains x))):=by
  unfold wH
  simp only [j8,eO,Option.bind_some,sT,sM]
  simp [PyData.canLay0,PyData.depth]
theorem iD{e:En}{x a b:Int}{neg:Bool}:wH neg e (.d (.int x)) (.d (.tuple [.int a,.int b]))=some (.d (.bool (if neg then !(a==x || b==x) else(a==x || b==x)))):=by
  have h:=eH (e:=e) (x:=x) (ns:=[a,b]) (neg:=neg)
  simp only [List.map_cons,List.map_nil] at h
  rw [h]
  have:[a,b].contains x=(a==x || b==x):=by
    simp only [List.contains_cons,List.contains_nil,Bool.or_false]
    rw [show(x==a)=(a==x) by rw [Bool.eq_iff_iff];simp;exact eq_comm,show(x==b)=(b==x) by rw [Bool.eq_iff_iff];simp;exact eq_comm]
  rw [this]
def qT(p:Int→Bool):PyData→Bool
  | .int k=>p k
  | _=>false
theorem xu{W:aK}{asked taken:List Int}:((bx 0 W.ties.length).filter (qT fun k=>W.may asked taken k))=(W.can asked taken).map .int:=by
  unfold bx aK.can aK.rng
  rw [List.filter_map,List.filter_map,List.map_map]
  have:(List.range W.ties.length).filter ((qT fun k=>W.may asked taken k) ∘ fun(i:Nat)=>PyData.int (0+(i:Int)))=(List.range W.ties.length).filter ((fun k=>W.may asked taken k) ∘ Int.ofNat):=by
    congr 1
    funext i
    simp [qT]
  rw [this]
  refine List.map_congr_left fun i _=>?_
  simp
theorem dN(W:aK):aq W=.tuple [.int W.things,.tuple (W.ties.map aO),.tuple (W.pat.map .int),.int W.asks]:=rfl
def Sh(n:Nat)(d:PyData):Prop:=d.canLay0=true∧d.depth≤n
theorem Sh.mono{n m:Nat}{d:PyData}(h:Sh n d)(l:n≤m):Sh m d:=⟨h.1,Nat.le_trans h.2 l⟩
theorem Sh.ok{n:Nat}{d:PyData}(h:Sh n d)(l:n≤64):SeqAt.shaped d=true:=by
  unfold SeqAt.shaped;rw [h.1,decide_eq_true (Nat.le_trans h.2 l)];rfl
theorem Sh.int{k:Int}:Sh 2 (.int k):=⟨by simp [PyData.canLay0],by simp [PyData.depth]⟩
theorem Sh.all{n:Nat}:∀{ds:List PyData},(∀d∈ds,Sh n d)→PyData.canLayAll0 ds=true∧PyData.depthAll ds≤n
  | [],_=>⟨rfl,by simp [PyData.depthAll]⟩
  | d::r,h=>by
    obtain⟨a1,a2⟩:=h d (by simp)
    obtain⟨b1,b2⟩:=Sh.all (ds:=r) fun x hx=>h x (by simp [hx])
    exact⟨by simp [PyData.canLayAll0,a1,b1],by simp only [PyData.depthAll];lia⟩
theorem Sh.tup{n:Nat}{ds:List PyData}(h:∀d∈ds,Sh n d):Sh (n+2) (.tuple ds):=by
  obtain⟨b1,b2⟩:=Sh.all h
  exact⟨by simp [PyData.canLay0,b1],by simp only [PyData.depth];lia⟩
theorem Sh.list{n:Nat}{ds:List PyData}(h:∀d∈ds,Sh n d):Sh (n+2) (.list ds):=by
  obtain⟨b1,b2⟩:=Sh.all h
  exact⟨by simp [PyData.canLay0,b1],by simp only [PyData.depth];lia⟩
theorem Sh.ints{ns:List Int}:Sh 4 (.tuple (ns.map .int)):=Sh.tup (n:=2) fun d hd=>by
  obtain⟨k,_,rfl⟩:=K0 hd
  exact Sh.int
theorem Sh.st{a b:List Int}:Sh 6 (gp a b):=Sh.tup (n:=4) fun d hd=>by
  simp only [List.mem_cons,List.not_mem_nil,or_false] at hd
  rcases hd with rfl | rfl<;>exact Sh.ints
theorem Sh.tie{t:om}:Sh 6 (aO t):=Sh.tup (n:=4) fun d hd=>by
  simp only [List.mem_cons,List.not_mem_nil,or_false] at hd
  rcases hd with rfl | rfl | rfl | rfl
  · exact Sh.int.mono (by decide)
  · exact Sh.int.mono (by decide)
  · exact Sh.ints (ns:=[t.top,t.bot])
  · exact Sh.int.mono (by decide)
theorem pH:∀(n:Nat) (l:List Int),l.Nodup→(∀k∈l,0≤k∧k < (n:Int))→l.length≤n
  | 0,l,_,h=>by
    cases l with
    | nil=>simp
    | cons a r=>have:=h a (by simp);lia
  | n+1,l,hd,h=>by
    have ih:=pH n (l.erase (n:Int)) (hd.erase _) fun k hk=>by
      obtain⟨h1,h2⟩:=hd.mem_erase_iff.mp hk
      have:=h k h2
      lia
    by_cases c:(n:Int)∈l
    · rw [List.length_erase_of_mem c] at ih;lia
    · rw [List.erase_of_not_mem c] at ih;lia
abbrev Std:=List Int × List Int
structure oT (W:aK) (s:Std):Prop where
  inw:∀k∈s.1,jK W k
  nd:s.1.Nodup
  tk:s.2.length≤2*s.1.length
  th:∀t∈s.2,0≤t∧t < W.things
def nxt(W:aK)(s:Std)(k:Int)(b:Bool):Std:=(aK.askd s.1 k,W.took s.2 k b)
theorem oT.len{W:aK}{s:Std}(h:oT W s):s.1.length≤W.ties.length:=pH _ _ h.nd fun k hk=>h.inw k hk
theorem oT.first(W:aK):oT W ([],[]):=⟨fun k h=>(by cases h),List.nodup_nil,Nat.le_refl _,fun k h=>(by cases h)⟩
theorem iW{a:List Int}{k:Int}:(aK.askd a k).length=a.length+1:=by unfold aK.askd;rw [ng];simp
theorem oT.nxt{W:aK}{s:Std}{k:Int}(b:Bool)(ok:W.Ok)(h:oT W s)(hk:jK W k)(hn:k∉s.1):oT W (nxt W s k b):=by
  refine⟨fun j hj=>?_,?_,?_,?_⟩
  · have:=k9.mp hj
    rcases KZ this with z | z
    · exact h.inw j z
    · simp at z;rw [z];exact hk
  · refine(iq _).nodup_iff.mpr ?_
    rw [List.nodup_append]
    refine⟨h.nd,by simp,fun a ha b hb=>?_⟩
    simp at hb
    rintro rfl
    exact hn (hb ▸ ha)
  · have:=h.tk
    show(W.took s.2 k b).length≤2*(aK.askd s.1 k).length
    rw [iW]
    unfold aK.took
    split
    · rw [ng];simp;lia
    · lia
  · intro t ht
    have o:=hk.ok ok
    have:=o.o0;have:=o.o1;have:=o.o2
    change t∈W.took s.2 k b at ht
    unfold aK.took at ht
    split at ht
    · rcases KZ (k9.mp ht) with z | z
      · exact h.th t z
      · simp at z
        rcases z with rfl | rfl<;>lia
    · exact h.th t ht
theorem vY{W:aK}{a t:List Int}{k:Int}(h:W.may a t k=true):k∉a:=by
  unfold aK.may at h
  intro c
  have:a.contains k=true:=by simpa using c
  simp [c] at h
structure Nd where
  tie:Int
  yes:Int
  no:Int
def aE(x:Nd):PyData:=.tuple [.int x.tie,.int x.yes,.int x.no]
def wU(x:Nd):List PyData:=[.int x.tie,.int x.yes,.int x.no]
def lN(W:aK)(n:Nat)(S:Nat→Std)(i:Nat)(k:Int)(b:Bool)(l:Int):Prop:=l= -1∨(0≤l∧l < (n:Int)∧S l.toNat=nxt W (S i) k b)
structure rC (W:aK) (n:Nat) (S:Nat→Std) (i:Nat) (x:Nd):Prop where
  tie:jK W x.tie
  st:oT W (S i)
  may:W.may (S i).1 (S i).2 x.tie=true
  yes:lN W n S i x.tie true x.yes
  no:lN W n S i x.tie false x.no
def dJ(W:aK)(T:List Nd)(S:Nat→Std):Prop:=∀(i:Nat) (x:Nd),T[i]?=some x→rC W T.length S i x
structure Wt where
  st:Std
  par:Int
  side:Int
def AD(w:Wt):PyData:=.tuple [gp w.st.1 w.st.2,.int w.par,.int w.side]
theorem Sh.wt{w:Wt}:Sh 8 (AD w):=Sh.tup (n:=6) fun d hd=>by
  simp only [List.mem_cons,List.not_mem_nil,or_false] at hd
  rcases hd with rfl | rfl | rfl
  · exact Sh.st
  · exact Sh.int.mono (by decide)
  · exact Sh.int.mono (by decide)
def upS(S:Nat→Std)(n:Nat)(s:Std):Nat→Std:=fun i=>if i=n then s else S i
structure rB (W:aK) (T:List Nd) (S:Nat→Std) (ws:List Wt):Prop where
  tr:dJ W T S
  wt:∀w∈ws,oT W w.st∧(w.par= -1∨∃(p:Nat) (x:Nd),w.par=(p:Int)∧T[p]?=some x∧((w.side=0∧w.st=L2.nxt W (S p) x.tie true)∨(w.side=1∧w.st=L2.nxt W (S p) x.tie false)))
  side:∀w∈ws,w.side=0∨w.side=1
theorem lN.up{W:aK}{n:Nat}{S:Nat→Std}{i:Nat}{k:Int}{b:Bool}{l:Int}{s:Std}(h:lN W n S i k b l)(hi:i < n):lN W (n+1) (upS S n s) i k b l:=by
  rcases h with h | ⟨h1,h2,h3⟩
  · exact .inl h
  · refine .inr ⟨h1,by lia,?_⟩
    unfold upS
    rw [if_neg (by lia),if_neg (by lia)]
    exact h3
def iy(x:Nd)(side n:Int):Nd:=if side=0 then{x with yes:=n} else{x with no:=n}
theorem yz{x:Nd}{s n:Int}:(iy x s n).tie=x.tie:=by unfold iy;split<;>rfl
theorem rB.more{W:aK}{T:List Nd}{S:Nat→Std}{w:Wt}{ws:List Wt}{k:Int}(ok:W.Ok)(h:rB W T S (w::ws))(hk:jK W k)(hm:W.may w.st.1 w.st.2 k=true):
    rB W ((if 0≤w.par then T.modify w.par.toNat (fun x=>iy x w.side T.length) else T)++[⟨k, -1, -1⟩]) (upS S T.length w.st) (ws++[⟨L2.nxt W w.st k true,T.length,0⟩,⟨L2.nxt W w.st k false,T.length,1⟩]):=by
  obtain⟨ws1,ws2⟩:=h.wt w (by simp)
  generalize hT:(if 0≤w.par then T.modify w.par.toNat (fun x=>iy x w.side T.length) else T)=T'
  have len:T'.length=T.length:=by rw [←hT];split<;>simp
  have old:∀(i:Nat) (y:Nd),T'[i]?=some y→i < T.length∧∃x,T[i]?=some x∧y.tie=x.tie:=by
    intro i y hy
    have hi:i < T.length:=by rw [←len];exact(KY hy).1
    refine⟨hi,?_⟩
    rw [←hT] at hy
    split at hy
    · rw [List.getElem?_modify] at hy
      obtain⟨x,hx,e⟩:=KW hy
      refine⟨x,hx,?_⟩
      rw [←e]
      split
      · exact yz
      · rfl
    · exact⟨y,hy,rfl⟩
  have keep:∀(i:Nat) (x:Nd),T[i]?=some x→∃y,T'[i]?=some y∧y.tie=x.tie:=by
    intro i x hx
    have hi:i < T'.length:=by rw [len];exact(KY hx).1
    obtain⟨_,x',hx',e⟩:=old i _ (List.getElem?_eq_getElem hi)
    rw [hx] at hx'
    cases hx'
    exact⟨_,List.getElem?_eq_getElem hi,e⟩
  have up:∀i,i < T.length→upS S T.length w.st i=S i:=fun i hi=>by unfold upS;rw [if_neg (by lia)]
  have upn:upS S T.length w.st T.length=w.st:=by unfold upS;rw [if_pos rfl]
  refine⟨fun i y hy=>?_,fun v hv=>?_,fun v hv=>?_⟩
  · rw [List.length_append,len]
    show rC W (T.length+1) _ i y
    by_cases c:i < T.length
    · rw [List.getElem?_append_left (by lia)] at hy
      have hy0:=hy
      rw [←hT] at hy
      split at hy
      case isFalse=>
        have o:=h.tr i y hy
        exact⟨o.tie,by rw [up i c];exact o.st,by rw [up i c];exact o.may,o.yes.up c,o.no.up c⟩
      case isTrue hp=>
        rw [List.getElem?_modify] at hy
        obtain⟨x,hx,e⟩:=KW hy
        have o:=h.tr i x hx
        split at e
        case isFalse=>
          subst e
          exact⟨o.tie,by rw [up i c];exact o.st,by rw [up i c];exact o.may,o.yes.up c,o.no.up c⟩
        case isTrue hi=>
          rcases ws2 with z | ⟨p,x2,z1,z2,z3⟩
          · lia
          · have:i=p:=by lia
            subst this
            rw [hx] at z2
            cases z2
            have new:∀b,w.st=L2.nxt W (S i) x.tie b→lN W (T.length+1) (upS S T.length w.st) i x.tie b (T.length:Int):=fun b hb=>.inr ⟨by lia,by lia,by
              rw [show((T.length:Int)).toNat=T.length by lia,upn,up i c];exact hb⟩
            rw [←e]
            rcases z3 with ⟨s0,s1⟩ | ⟨s0,s1⟩
            · have:iy x w.side T.length={x with yes:=T.length}:=by unfold iy;rw [if_pos s0]
              rw [this]
              exact⟨o.tie,by rw [up i c];exact o.st,by rw [up i c];exact o.may,new true s1,o.no.up c⟩
            · have:iy x w.side T.length={x with no:=T.length}:=by unfold iy;rw [if_neg (by lia)]
              rw [this]
              exact⟨o.tie,by rw [up i c];exact o.st,by rw [up i c];exact o.may,o.yes.up c,new false s1⟩
    · rw [List.getElem?_append_right (by lia)] at hy
      have:i=T.length:=by
        have:=(KY hy).1
        simp at this;lia
      subst this
      rw [len] at hy
      simp at hy
      subst hy
      exact⟨hk,by rw [upn];exact ws1,by rw [upn];exact hm,.inl rfl,.inl rfl⟩
  · rcases KZ hv with hv | hv
    · obtain⟨v1,v2⟩:=h.wt v (by simp [hv])
      refine⟨v1,?_⟩
      rcases v2 with z | ⟨p,x,z1,z2,z3⟩
      · exact .inl z
      · obtain⟨y,hy,e⟩:=keep p x z2
        have hp:p < T.length:=(KY z2).1
        refine .inr ⟨p,y,z1,by rw [List.getElem?_append_left (by lia)];exact hy,?_⟩
        rw [up p hp,e]
        exact z3
    · have key:∀b,oT W (L2.nxt W w.st k b):=fun b=>ws1.nxt b ok hk (vY hm)
      have at':(T'++[(⟨k, -1, -1⟩:Nd)])[T.length]?=some ⟨k, -1, -1⟩:=by rw [List.getElem?_append_right (by lia),len];simp
      simp only [List.mem_cons,List.not_mem_nil,or_false] at hv
      rcases hv with rfl | rfl
      · exact⟨key true,.inr ⟨T.length,_,rfl,at',.inl ⟨rfl,by rw [upn]⟩⟩⟩
      · exact⟨key false,.inr ⟨T.length,_,rfl,at',.inr ⟨rfl,by rw [upn]⟩⟩⟩
  · rcases KZ hv with hv | hv
    · exact h.side v (by simp [hv])
    · simp only [List.mem_cons,List.not_mem_nil,or_false] at hv
      rcases hv with rfl | rfl
      · exact .inl rfl
      · exact .inr rfl
theorem rB.less{W:aK}{T:List Nd}{S:Nat→Std}{w:Wt}{ws:List Wt}(h:rB W T S (w::ws)):rB W T S ws:=⟨h.tr,fun v hv=>h.wt v (by simp [hv]),fun v hv=>h.side v (by simp [hv])⟩
theorem xx{T:List Nd}{p:Nat}{x:Nd}{n:Int}(h:T[p]?=some x):(T.map wU).set p [.int x.tie,.int n,.int x.no]=(T.modify p (fun x=>iy x 0 n)).map wU:=by
  refine List.ext_getElem? fun i=>?_
  rw [List.getElem?_set,List.getElem?_map,List.getElem?_map,List.getElem?_modify]
  by_cases c:p=i
  · subst c
    obtain⟨hp,e⟩:=KY h
    simp [h,hp,iy,wU,e]
  · simp [c]
theorem xA{T:List Nd}{p:Nat}{x:Nd}{n:Int}(h:T[p]?=some x):(T.map wU).set p [.int x.tie,.int x.yes,.int n]=(T.modify p (fun x=>iy x 1 n)).map wU:=by
  refine List.ext_getElem? fun i=>?_
  rw [List.getElem?_set,List.getElem?_map,List.getElem?_map,List.getElem?_modify]
  by_cases c:p=i
  · subst c
    obtain⟨hp,e⟩:=KY h
    simp [h,hp,iy,wU,e]
  · simp [c]
theorem Aw{W:aK}{a t:List Int}{k:Int}(h:k∈W.can a t):jK W k∧W.may a t k=true:=by
  unfold aK.can at h
  rw [List.mem_filter] at h
  exact⟨AW.mp h.1,h.2⟩
theorem rq{cp:List (Nat × Str)}{nT:Nat}{fi:FI}{g:FG}{ft:FT}{fe:FE}{e e1 cs:En}{t t':En}{items out:List PyData}{own:iM}(h1:fi e=some (items,own,e1))(ho:(own.all fun q=> !(cp.any fun c=>c.1==q.1))=true)(hc:mN cp nT e1=cs++t)(hl:cs.length=cp.length)(h3:cI g ft fe items (mN cp nT e1) []=some (out,cs++t')):cQ cp nT fi g ft fe e=some (.l out,e1):=by
  have key:=dQ (cp:=cp) (nT:=nT) (fi:=fun _=>some (items,[],e1)) (g:=g) (ft:=ft) (fe:=fe) (e:=e) rfl hc hl h3
  unfold cQ at key ⊢
  rw [h1]
  simp only [Option.bind_some,List.all_nil,if_true] at key
  simp only [Option.bind_some,ho,if_true]
  exact key
theorem zy{W:List Nat}{fi:FI}{g:FG}{f:FS}{e e1:En}{items:List PyData}{own:iM}(h:fi e=some (items,own,e1))(ho:(own.all fun q=> !W.contains q.1)=true):di W fi g f e=eX own g f items e1:=by
  unfold di;rw [h];simp only [Option.bind_some,ho,if_true]
theorem qI{α:Type}(x:α):∀n,(List.replicate n [x]).flatten=List.replicate n x
  | 0=>rfl
  | n+1=>by rw [List.replicate_succ,List.flatten_cons,qI x n];rfl
theorem vN{e:En}{x:PyData}{n:Int}(h0:0≤n)(h1:n≤100000):gu e (.l [x]) (.d (.int n))=some (.l (List.replicate n.toNat x)):=by
  have a:tG e (.l [x]) (.d (.int n))=some (.l (List.replicate n.toNat [x]).flatten):=by
    simp [tG,wY,bz]
    lia
  have b:oZ e (.l [x]) (.d (.int n))=none:=by simp [oZ,gI,bz]
  have c:o6 e (.l [x]) (.d (.int n))=none:=by simp [o6,eO,bz]
  unfold gu xN
  rw [b,c,a,qI]
  rfl
theorem wy{α:Type}{xs:List α}{x:α}:atI (xs++[x]) (-1)=some x:=by
  unfold atI ma
  rw [if_neg (by decide),if_pos (by simp;lia)]
  simp
  rw [show(-1+((xs.length:Int)+1)).toNat=xs.length by lia]
  simp
theorem E8{n:Nat}:cutD [.int 0] none (some (n:Int))=(if n=0 then [] else [.int 0]):=by
  unfold cutD
  rw [HT.sIx_none,HT.sIx_nat]
  cases n with
  | zero=>simp
  | succ n=>simp
def nm(nums:List Int)(l:Int):Int:=(atI nums l).getD (-1)
theorem Ar{α β:Type}{f:α→β}{xs:List α}{i:Int}:atI (xs.map f) i=(atI xs i).map f:=by
  unfold atI
  rw [List.length_map]
  cases ma xs.length i with
  | none=>rfl
  | some j=>simp
theorem xT{α:Type}{xs:List α}{i:Int}(h0: -(xs.length:Int)≤i)(h1:i < xs.length):∃x,atI xs i=some x:=by
  unfold atI ma
  split
  · simp only [if_pos h1,Option.bind_some]
    exact⟨_,List.getElem?_eq_getElem (by lia)⟩
  · simp only [if_pos h0,Option.bind_some]
    exact⟨_,List.getElem?_eq_getElem (by lia)⟩
theorem CB{nums:List Int}{l:Int}(h0: -(nums.length:Int)≤l)(h1:l < nums.length):atI (nums.map PyData.int) l=some (.int (nm nums l)):=by
  obtain⟨x,hx⟩:=xT h0 h1
  unfold nm
  rw [Ar,hx];rfl
structure jU (order:List Int) (n:Nat) (nums:List Int):Prop where
  len:nums.length=n+1
  top:nums[n]?=some (-1)
  at':∀(j:Nat) (v:Int),j < n→nums[j]?=some v→v= -1∨∃p:Nat,v=(p:Int)∧order[p]?=some (j:Int)
theorem jU.first{order:List Int}{n:Nat}:jU order n (List.replicate (n+1) (-1)):=⟨by simp,by simp [List.getElem?_replicate],fun j v hj h=>by
  rw [List.getElem?_replicate] at h
  split at h
  · cases h;exact .inl rfl
  · cases h⟩
theorem jU.set{order:List Int}{n:Nat}{nums:List Int}(h:jU order n nums){i:Nat}{w:Int}(hw:order[i]?=some w)(w0:0≤w)(w1:w < (n:Int)):jU order n (nums.set w.toNat (i:Int)):=by
  refine⟨by rw [List.length_set];exact h.len,by rw [List.getElem?_set_ne (by lia)];exact h.top,fun j v hj hv=>?_⟩
  rw [List.getElem?_set] at hv
  split at hv
  case isTrue c=>
    rw [if_pos (by rw [h.len];lia)] at hv
    cases hv
    exact .inr ⟨i,rfl,by rw [hw];congr 1;lia⟩
  case isFalse c=>exact h.at' j v hj hv
def bF(T:List Nd)(w:Int):Nd:=T.getD w.toNat ⟨0,0,0⟩
theorem eM{T:List Nd}{w:Int}(h0:0≤w)(h1:w < (T.length:Int)):T[w.toNat]?=some (bF T w):=by
  have:w.toNat < T.length:=by lia
  simp [bF,this]
theorem xS{T:List Nd}{w:Int}(h0:0≤w)(h1:w < (T.length:Int)):atI (T.map aE) w=some (aE (bF T w)):=by
  rw [h9 h0 (by rw [List.length_map];exact h1),List.getElem?_map,eM h0 h1];rfl
def renum(T:List Nd)(nums:List Int)(w:Int):Nd:=⟨(bF T w).tie,nm nums (bF T w).yes,nm nums (bF T w).no⟩
theorem lN.rng{W:aK}{n:Nat}{S:Nat→Std}{i:Nat}{k:Int}{b:Bool}{l:Int}(h:lN W n S i k b l): -1≤l∧l < (n:Int):=by
  rcases h with h | h<;>lia
theorem lN.renum{W:aK}{n:Nat}{S:Nat→Std}{order nums:List Int}{i j:Nat}{w:Int}{k:Int}{b:Bool}{l:Int}(hn:jU order n nums)(hj:order[j]?=some w)(hi:w.toNat=i)(h:lN W n S i k b l):lN W order.length (fun j=>S (order.getD j 0).toNat) j k b (nm nums l):=by
  have hj2:(fun j=>S (order.getD j 0).toNat) j=S i:=by
    simp only [List.getD_eq_getElem?_getD,hj,Option.getD_some,hi]
  rcases h with h | ⟨h1,h2,h3⟩
  · left
    subst h
    unfold nm atI ma
    rw [if_neg (by decide),if_pos (by rw [hn.len];lia)]
    simp only [Option.bind_some]
    rw [show(-1+(nums.length:Int)).toNat=n by rw [hn.len];lia,hn.top]
    rfl
  · have hl:l.toNat < n:=by lia
    have e:nm nums l=nums.getD l.toNat (-1):=by
      unfold nm
      rw [h9 h1 (by rw [hn.len];lia)]
      simp
    have hx:nums[l.toNat]?=some (nums.getD l.toNat (-1)):=by
      have:l.toNat < nums.length:=by rw [hn.len];lia
      simp [this]
    rcases hn.at' l.toNat _ hl hx with z | ⟨p,z1,z2⟩
    · left;rw [e];exact z
    · right
      rw [e,z1]
      have hp:p < order.length:=(KY z2).1
      refine⟨by lia,by lia,?_⟩
      rw [hj2]
      have:(fun j=>S (order.getD j 0).toNat) ((p:Int)).toNat=S l.toNat:=by
        simp only [Int.toNat_natCast,List.getD_eq_getElem?_getD,z2,Option.getD_some]
      rw [this]
      exact h3
theorem dJ.renum{W:aK}{T:List Nd}{S:Nat→Std}{order nums:List Int}(h:dJ W T S)(ho:∀w∈order,0≤w∧w < (T.length:Int))(hn:jU order T.length nums):dJ W (order.map (L2.renum T nums)) (fun j=>S (order.getD j 0).toNat):=by
  intro j y hy
  rw [List.getElem?_map] at hy
  obtain⟨w,hw,rfl⟩:=KW hy
  obtain⟨w0,w1⟩:=ho w (K2 hw)
  have o:=h w.toNat _ (eM w0 w1)
  have hj2:S (order.getD j 0).toNat=S w.toNat:=by
    simp only [List.getD_eq_getElem?_getD,hw,Option.getD_some]
  rw [List.length_map]
  exact⟨o.tie,by rw [hj2];exact o.st,by rw [hj2];exact o.may,o.yes.renum hn hw rfl,o.no.renum hn hw rfl⟩
def hang(S:Nat→Std)(w:Int):Nat:=2 ^ (16 - (S w.toNat).1.length) - 1
def eI(S:Nat→Std)(ws:List Int):Nat:=(ws.map (hang S)).sum
theorem rC.room{W:aK}{n:Nat}{S:Nat→Std}{i:Nat}{x:Nd}(ok:W.Ok)(h:rC W n S i x):(S i).1.length≤15:=by
  have h1:=(h.st.nxt true ok h.tie (vY h.may)).len
  have h2:=ok.len
  have:(nxt W (S i) x.tie true).1.length=(S i).1.length+1:=iW
  lia
theorem mV{W:aK}{n:Nat}{S:Nat→Std}{i:Nat}{k:Int}{b:Bool}{l:Int}(hi:(S i).1.length≤15)(h:lN W n S i k b l)(hn:l≠ -1):hang S l=2 ^ (15 - (S i).1.length) - 1:=by
  rcases h with h | ⟨h1,h2,h3⟩
  · exact absurd h hn
  · unfold hang
    rw [h3]
    have:(nxt W (S i) k b).1.length=(S i).1.length+1:=iW
    rw [this,show 16 - ((S i).1.length+1)=15 - (S i).1.length by lia]
def rV(x:Nd):List Int:=[x.yes,x.no].filter fun l=>l != -1
theorem rC.hang{W:aK}{n:Nat}{S:Nat→Std}{w:Int}{x:Nd}(ok:W.Ok)(h:rC W n S w.toNat x):eI S (rV x)+1≤L2.hang S w:=by
  have r:=h.room ok
  have e:L2.hang S w=2*2 ^ (15 - (S w.toNat).1.length) - 1:=by
    unfold L2.hang
    rw [show 16 - (S w.toNat).1.length=(15 - (S w.toNat).1.length)+1 by lia,Nat.pow_succ,Nat.mul_comm]
  have p:1≤2 ^ (15 - (S w.toNat).1.length):=Nat.one_le_two_pow
  rw [e]
  unfold eI rV
  by_cases c1:x.yes= -1
  · by_cases c2:x.no= -1
    · simp [c1,c2];lia
    · have:=mV r h.no c2
      simp [c1,c2,this];lia
  · have l1:=mV r h.yes c1
    by_cases c2:x.no= -1
    · simp [c1,c2,l1];lia
    · have:=mV r h.no c2
      simp [c1,c2,l1,this];lia
theorem Dr{W:aK}{n:Nat}{S:Nat→Std}{i:Nat}{x:Nd}(h:rC W n S i x):∀l∈rV x,0≤l∧l < (n:Int):=by
  intro l hl
  unfold rV at hl
  rw [List.mem_filter] at hl
  obtain⟨h1,h2⟩:=hl
  simp at h1 h2
  rcases h1 with rfl | rfl
  · have:=h.yes.rng;lia
  · have:=h.no.rng;lia
theorem qH{α β:Type}{f:α→β}:∀{xs:List α} {i:Nat},(xs.map f).eraseIdx i=(xs.eraseIdx i).map f
  | [],_=>by simp
  | x::r,0=>by simp
  | x::r,i+1=>by simp [qH (xs:=r) (i:=i)]
def G8(f:Int→PyData):PyData→PyData
  | .int k=>f k
  | d=>d
theorem Fe{e:En}{xs:List PyData}{lo hi:Option Int}:AK e (.l xs) lo hi=some (.l (cutD xs lo hi)):=rfl
theorem qL{S:Nat→Std}:∀{ws:List Int} {j:Nat} (h:j < ws.length),eI S (ws.eraseIdx j)+hang S ws[j]=eI S ws
  | [],j,h=>by simp at h
  | w::r,0,h=>by simp [eI];lia
  | w::r,j+1,h=>by
    have:=qL (S:=S) (ws:=r) (j:=j) (by simpa using h)
    simp [eI] at this ⊢
    lia
theorem wN{S:Nat→Std}{a b:List Int}:eI S (a++b)=eI S a+eI S b:=by
  unfold eI;rw [List.map_append,List.sum_append]
theorem qK{W:aK}{T:List Nd}{S:Nat→Std}{ws:List Int}(ok:W.Ok)(h:dJ W T S)(hw:∀w∈ws,0≤w∧w < (T.length:Int)):ws.length≤eI S ws:=by
  induction ws with
  | nil=>simp
  | cons w r ih=>
    have i:=ih fun v hv=>hw v (by simp [hv])
    obtain⟨w0,w1⟩:=hw w (by simp)
    have:=(h _ _ (eM w0 w1)).hang ok
    unfold eI at i ⊢
    rw [List.map_cons,List.sum_cons,List.length_cons]
    lia
def dS(s:Std):PyData:=gp s.1 s.2
def stp(W:aK)(ss:List Std)(i:Nat)(k:Int)(b:Bool)(l:Int):List Std:=if l= -1 then ss else ss.set l.toNat (nxt W (ss.getD i ([],[])) k b)
def std1(W:aK)(ss:List Std)(i:Nat)(x:Nd):List Std:=stp W (stp W ss i x.tie true x.yes) i x.tie false x.no
def aC(W:aK)(T:List Nd):Nat→List Std
  | 0=>List.replicate T.length ([],[])
  | i+1=>match T[i]? with
    | some x=>std1 W (aC W T i) i x
    | none=>aC W T i
structure lg (S:Nat→Std) (n:Nat) (ss:List Std):Prop where
  len:ss.length=n
  at':∀(j:Nat) (s:Std),ss[j]?=some s→s.1.length≤(S j).1.length∧s.2.length≤2*s.1.length∧(∀k∈s.1,0≤k∧k < 16)∧∀t∈s.2,0≤t∧t < 12
theorem k_{W:aK}{ss:List Std}{i:Nat}{k:Int}{b:Bool}{l:Int}:(stp W ss i k b l).length=ss.length:=by unfold stp;split<;>simp
theorem lg.stp{W:aK}(ok:W.Ok){S:Nat→Std}{n:Nat}{ss:List Std}{i:Nat}{k:Int}{b:Bool}{l:Int}(h:lg S n ss)(hi:i < n)(hk:jK W k)(hl:lN W n S i k b l):lg S n (stp W ss i k b l):=by
  refine⟨by rw [k_];exact h.len,fun j s hs=>?_⟩
  unfold L2.stp at hs
  split at hs
  · exact h.at' j s hs
  case isFalse c=>
    rw [List.getElem?_set] at hs
    split at hs
    case isFalse=>exact h.at' j s hs
    case isTrue cj=>
      split at hs
      case isFalse=>cases hs
      case isTrue=>
      cases hs
      have hil:i < ss.length:=by rw [h.len];exact hi
      have e:ss[i]?=some (ss.getD i ([],[])):=by simp [hil]
      obtain⟨a1,a2,a3,a4⟩:=h.at' i _ e
      generalize ss.getD i ([],[])=s at a1 a2 a3 a4
      have o:=hk.ok ok
      have o0:=o.o0;have o1:=o.o1;have o2:=o.o2;have t1:=ok.t1;have wl:=ok.len
      have k0:=hk.1;have k1:=hk.2
      rcases hl with hl | ⟨h1,h2,h3⟩
      · exact absurd hl c
      · rw [←cj,h3]
        have e1:(nxt W s k b).1.length=s.1.length+1:=iW
        have e2:(nxt W (S i) k b).1.length=(S i).1.length+1:=iW
        have e3:(nxt W s k b).2.length≤s.2.length+2:=by
          show(W.took s.2 k b).length≤_
          unfold aK.took
          split
          · rw [ng];simp
          · lia
        refine⟨by lia,by lia,fun q hq=>?_,fun q hq=>?_⟩
        · rcases KZ (k9.mp hq) with z | z
          · exact a3 q z
          · simp at z;lia
        · change q∈W.took s.2 k b at hq
          unfold aK.took at hq
          split at hq
          · rcases KZ (k9.mp hq) with z | z
            · exact a4 q z
            · simp at z
              rcases z with rfl | rfl<;>lia
          · exact a4 q hq
theorem lg.std1{W:aK}(ok:W.Ok){S:Nat→Std}{n:Nat}{ss:List Std}{i:Nat}{x:Nd}(h:lg S n ss)(hi:i < n)(o:rC W n S i x):lg S n (std1 W ss i x):=(h.stp ok hi o.tie o.yes).stp ok hi o.tie o.no
theorem lg.first{S:Nat→Std}{n:Nat}:lg S n (List.replicate n ([],[])):=⟨by simp,fun j s hs=>by
  rw [List.getElem?_replicate] at hs
  split at hs
  · cases hs;simp
  · cases hs⟩
theorem lg.all{W:aK}(ok:W.Ok){S:Nat→Std}{T:List Nd}(h:dJ W T S):∀i,lg S T.length (aC W T i)
  | 0=>lg.first
  | i+1=>by
    unfold aC
    split
    · rename_i x hx
      exact(lg.all ok h i).std1 ok (KY hx).1 (h i x hx)
    · exact lg.all ok h i
theorem kM{W:aK}{T:List Nd}{i:Nat}{x:Nd}(h:T[i]?=some x):aC W T (i+1)=std1 W (aC W T i) i x:=by
  rw [aC,h]
theorem xU{ss:List Std}{i:Nat}(h:i < ss.length):atI (ss.map dS) (i:Int)=some (gp (ss.getD i ([],[])).1 (ss.getD i ([],[])).2):=by
  rw [h9 (by lia) (by rw [List.length_map];lia),List.getElem?_map]
  simp [h,dS]
theorem lg.short{W:aK}(ok:W.Ok){S:Nat→Std}{T:List Nd}{ss:List Std}(h:dJ W T S)(hs:lg S T.length ss){i:Nat}(hi:i < T.length):(ss.getD i ([],[])).1.length≤15∧(ss.getD i ([],[])).2.length≤30:=by
  have hil:i < ss.length:=by rw [hs.len];exact hi
  have e:ss[i]?=some (ss.getD i ([],[])):=by simp [hil]
  obtain⟨a1,a2,_⟩:=hs.at' i _ e
  have:=(h i _ (List.getElem?_eq_getElem hi)).room ok
  lia
theorem ic{T:List Nd}{i:Nat}{x:PyData}(h:(ck 0 (T.map aE))[i]?=some x):∃y,T[i]?=some y∧x=.tuple [.int (i:Int),aE y]:=by
  rw [i4,List.getElem?_map,Option.map_map] at h
  obtain⟨y,hy,rfl⟩:=KW h
  exact⟨y,hy,by simp⟩
structure Sz (n dep:Nat) (d:PyData):Prop where
  fl:Ct d=true
  sh:d.showable=true
  dp:d.depth≤dep
  ln:d.shown.length≤n
  so:PyData.strOk d.shown=true
theorem Dd{e:En}{d:PyData}{n:Int}(h0:0≤n)(h1:n≤100000):gu e (.d (.tuple [d])) (.d (.int n))=some (.d (.tuple (List.replicate n.toNat d))):=by
  have a:o6 e (.d (.tuple [d])) (.d (.int n))=some (.d (.tuple (List.replicate n.toNat d))):=by
    simp [o6,eO,bz,h0,h1]
  have b:oZ e (.d (.tuple [d])) (.d (.int n))=none:=by simp [oZ,gI,bz]
  unfold gu xN
  rw [b,a]
  rfl
theorem Ff{e:En}{i:Nat}{xs:List PyData}{lo hi:Option Int}(h:e[i]?=some (some (.l xs))):AK e (.s i) lo hi=some (.l (cutD xs lo hi)):=by
  simp [AK,eO,h]
def rn(T:List Nd)(ans:List Bool):Nat→Int→List (Int × Bool)
  | 0,_=>[]
  | f+1,at'=>if at' < 0 then [] else((bF T at').tie,ans.getD (bF T at').tie.toNat false)::rn T ans f (if ans.getD (bF T at').tie.toNat false=true then(bF T at').yes else(bF T at').no)
def rt(T:List Nd):Int:=if T.length=0 then -1 else 0
structure Hs (W:aK) (T:List Nd) (S:Nat→Std) (ans:List Bool) (r:List (Int × Bool)) (a:Int):Prop where
  at':a= -1∨(0≤a∧a < (T.length:Int)∧r.length≤(S a.toNat).1.length)
  eq:r++rn T ans (17 - r.length) a=rn T ans 17 (rt T)
  len:r.length≤16
  inw:∀p∈r,jK W p.1
abbrev Fr:=Int × Int
def tm(a b:Fr):Fr:=gw (a.1*b.1) (a.2*b.2)
def pl(a b:Fr):Fr:=gw (a.1*b.2+b.1*a.2) (a.2*b.2)
structure HG (M:Int) (f:Fr):Prop where
  pos:0 < f.2
  lo:0≤f.1
  hi:f.1≤f.2
  dv:f.2 ∣ M
structure GC (M i:Int) (f:Fr):Prop where
  pos:0 < f.2
  lo:0≤f.1
  hi:f.1≤i*f.2
  dv:f.2 ∣ M
def bp(W:aK):List Int→Int
  | []=>1
  | k::r=>(W.tie k).bot*bp W r
def E5(W:aK):Int:=bp W W.rng
def ch(W:aK)(k:Int)(b:Bool):Fr:=if b then((W.tie k).top,(W.tie k).bot) else((W.tie k).bot - (W.tie k).top,(W.tie k).bot)
structure HI (W:aK) (S:Nat→Std) (n:Nat) (rs:List Fr):Prop where
  len:rs.length=n
  at':∀(j:Nat) (f:Fr),rs[j]?=some f→HG (bp W (S j).1) f
structure HC (W:aK) (i:Nat) (ss:List Fr):Prop where
  len:ss.length=W.ties.length
  at':∀(j:Nat) (f:Fr),ss[j]?=some f→GC (E5 W) (i:Int) f
def EK(sc:Scope)(x:Str):Bool:=match sc.names.lookup x with
  | some .local=>true
  | some .cell=>true
  | some .free=>true
  | _=>false
theorem B'{sc:Scope}{x:Str}(h:EK sc x=true):Ai sc x:=by
  unfold EK at h
  unfold Ai
  split at h
  · rename_i e;exact .inl e
  · rename_i e;exact .inr (.inl e)
  · rename_i e;exact .inr (.inr e)
  · cases h
section
variable{X:Cx}{K:PySem.W.Frag}
theorem qw(i:Nat){x:Str}{pos:Pos}(hN:X.N[i]?=some x)(hv:EK X.env.scope x=true)(hd:((x==("__debug__":Str)) || (x==("__classdict__":Str)))=false):PE X (.Name x pos) (fE K (ab i)):=qv i hN (B' hv) (Bool.or_eq_false_iff.mp hd).1 (Bool.or_eq_false_iff.mp hd).2
end
section
variable{X:Cx}{tg a b c:Expr}{ta:TA}{p pos p2 pos2:Pos}
end
section
variable{K:PySem.W.Frag}{σ:L2.St}
end
section
variable{X:Cx}{K:PySem.W.Frag}{tg a b c:Expr}{fs:FA}{pos p p2 pos2:Pos}
end
section
variable(P:Program)(w:World)
end
section
variable{P:Program}{w:World}{H H':Hp}{h h':Heap}{a:Addr}{o:HO}
end
section
variable{P:Program}{w:World}{H:Hp}{h h':Heap}{x e:Addr}{o':HO}
end
section
variable{fs fs' ex ex':List Addr}{H H1 H2:Hp}{h h1 h2 h':Heap}{a x e:Addr}{o:HO}
end
section
variable{X:Cx}{pins:List (Addr × Obj)}{σ:List (Option V)}{H H':Hp}{s:Shared}{h':Heap}
end
section
variable{X:Cx}
variable{a b:Expr}{ta tb:TE}{pos:Pos}
variable{tA tB':TT}{gf:List Expr}
end
section
variable{X:Cx}{pins:List (Addr × Obj)}{σ:St}{H:Hp}{s:Shared}{a:Addr}{xs ys:List V}
end
section
variable{X:Cx}{pins:List (Addr × Obj)}{σ:St}{H:Hp}{s:Shared}{E:Value→Shared→Prop}
end
section
variable{X:Cx}{st:Stmt}{gf:List Stmt}{t u:TS}{e:Expr}{te:TE}{pos:Pos}
end
section
variable{X:Cx}{pos:Pos}
end
section
variable{X:Cx}{pos:Pos}
end
section
variable{X:Cx}{tg:Expr}
end
section
variable{X:Cx}{a b c:Expr}{ta tb tc:TE}{pos:Pos}
end
section
variable{X:Cx}{a b c:Expr}{ta tb tc:TE}{pos:Pos}
end
section
variable{prog:Program}{w:World}{A:Around}{E:Value→Shared→Prop}{s:Shared}{K:PySem.W.Frag}{x dx C f:Addr}{mA:Str→Option Value}{name:Str}{v:Value}
end
section
variable{P:Program}{w:World}{H H':Hp}{h h':Heap}{a C dx:Addr}{fs fs':List (Str × V)}
end
section
variable{X:Cx}{pins:List (Addr × Obj)}{σ:St}{H:Hp}{s:Shared}{a C dx:Addr}{fs:List (Str × V)}{f:Str}{v:V}{A:Around}{E:Value→Shared→Prop}
end
section
variable{X:Cx}{o e value:Expr}{f:Str}{pos pos' tpos:Pos}{ta tv:TE}
end
section
variable{X:Cx}{pins:List (Addr × Obj)}{σ:St}{H:Hp}{s:Shared}{A:Around}{E:Value→Shared→Prop}{Q:Value→Shared→Prop}{c:Value}{b:Bool}
end
section
variable{X:Cx}{e:Expr}{es:List Expr}{te:TE}{t:TA}{pos:Pos}
end
section
variable{X:Cx}{pins:List (Addr × Obj)}{σ:St}{H:Hp}{s s':Shared}
end
section
variable{X:Cx}{CX:wu}{k:Nat}{f C:Addr}{fd:FuncData}{ps:List Str}{sp:Sp}{dvs:List V}{ds:List Value}{E:XK}{x m:Str}{p pos apos:Pos}{e o:Expr}{es:List Expr}{ta:TE}{t:TA}
end
section
variable{X:Cx}{CX:wu}{k:Nat}{f C:Addr}{fd:FuncData}{ps ks:List Str}{sp:Sp}{E:XK}{x m:Str}{p pos apos kpos:Pos}{e o:Expr}{es:List Expr}{kws:List Keyword}{te ta:TE}{t tk:TA}{nm:Option Str}
variable{g:List Value→List Value→List Value}{gV:List V→List V→List V}
end
section
variable{X:Cx}{x:Str}{p pos:Pos}{e:Expr}{es:List Expr}{t:TA}{id T:String}{r:List V→Hp→VK→Prop}
end
section
variable{κ:Type}[DecidableEq κ]
end
section
variable{P:Program}{w:World}{H:Hp}{h:Heap}{a:Addr}
end
section
variable{X:Cx}{pins:List (Addr × Obj)}{σ:St}{H:Hp}{s:Shared}{a:Addr}{y v:V}{u r:Value}{o:Option V}{A:Around}{E:Value→Shared→Prop}
end
section
variable{X:Cx}{pins:List (Addr × Obj)}{σ:St}{H:Hp}{s:Shared}{a:Addr}{kvs:List (p8 × V)}{k:p8}{u:Value}{A:Around}{E:Value→Shared→Prop}
end
section
variable{X:Cx}{o i e value:Expr}{pos pos' tpos:Pos}{td ty tv:TE}
end
section
variable{X:Cx}{pos:Pos}
end
section
variable{X:Cx}{pins:List (Addr × Obj)}{σ:St}{H:Hp}{s:Shared}{a:Addr}{y d:V}{u r:Value}{o:Option V}{A:Around}{E:Value→Shared→Prop}
end
section
variable{X:Cx}{o e f:Expr}{apos cpos:Pos}{td ty tx:TE}
end
section
variable{X:Cx}{pins:List (Addr × Obj)}{σ:St}{H:Hp}{s:Shared}{a:Addr}{kvs:List (p8 × V)}{A:Around}{E:Value→Shared→Prop}
end
section
variable{X:Cx}{pins:List (Addr × Obj)}{σ:St}{H:Hp}{s:Shared}{a:Addr}{y:V}{u:Value}{A:Around}{E:Value→Shared→Prop}
end
end L2
namespace Att
open PySem PySem.W PySem.Calls PyProof.Rows
section
variable{prog:Program}{w:World}{A:Around}{E:Value→Shared→Prop}{s:Shared}{K:Frag}
end
end Att
namespace L2
open PySem PySem.Spec PyProof.Rows
section
variable{P:Program}{w:World}{K:PySem.W.Frag}{mg:Str→Option Value}{base:Heap}
end
section
variable{X:Cx}
end
section
variable{κ:Type}[DecidableEq κ]
end
def EF:PyData→String
  | .none=>"NoneType"
  | .bool _=>"bool"
  | .int _=>"int"
  | .str _=>"str"
  | .tuple _=>"tuple"
  | .list _=>"list"
  | .dict _=>"dict"
def zH(t T:String):Bool:=t==T || (t=="bool"&&T=="int")
def AO(T:String)(d:PyData):Bool:=zH (EF d) T
def iu(T:String):En→Rv→Option Rv:=fun _ r=>match r with
  | .d x=>some (.d (.bool (AO T x)))
  | _=>some (.d (.bool (AO T (.list []))))
section
variable{X:Cx}{K:PySem.W.Frag}{a:Expr}{fa:FE}{pos p p2:Pos}
def GP(K:PySem.W.Frag)(H:Hp):V→String→Prop
  | .non,t=>t="NoneType"
  | .bl _,t=>t="bool"
  | .int _,t=>t="int"
  | .str _,t=>t="str"
  | .ref a,t=>(t="tuple"∧∃xs,cS K H a xs)∨(t="list"∧∃xs,gH K H a xs)∨(t="dict"∧∃m,H a=some (.dK m))
  | _,_=>False
theorem x_{T:String}:d_ X (.builtin "isinstance") (fun xs H Q=>∃x t b,xs=[x,.ty T]∧GP X.K H x t∧PySem.W.kitOne X.K (.type t) (.type T)=some b∧Q (.bl b) H):=by
  intro pins s σ H xs us Q I r h
  obtain⟨x,t,b,rfl,ht,hk,q⟩:=h
  obtain⟨u1,u2,rfl,r1,r2⟩:∃u1 u2,us=[u1,u2]∧bD x u1∧bD (.ty T) u2:=by
    cases r with
    | cons p q=>cases q with
      | cons p' q'=>cases q';exact⟨_,_,rfl,p,p'⟩
  cases r2
  have q':∀tk,EP X pins σ Q (.bool b) {s with toks:=tk}:=fun tk=>⟨.bl b,H,I.tok _,rfl,q⟩
  cases x with
  | non=>cases (show u1=Value.none from r1);cases (show t=_ from ht);exact PySem.W.kia_one PySem.W.kitx_none I.kIn True.intro hk (fun z=>nomatch z) q'
  | bl y=>cases (show u1=Value.bool y from r1);cases (show t=_ from ht);exact PySem.W.kia_one PySem.W.kitx_bool I.kIn True.intro hk (fun z=>nomatch z) q'
  | int i=>obtain⟨tt,rfl⟩:=r1;cases (show t=_ from ht);exact PySem.W.kia_one PySem.W.kitx_int I.kIn True.intro hk (fun z=>nomatch z) q'
  | str y=>obtain⟨tt,rfl⟩:=r1;cases (show t=_ from ht);exact PySem.W.kia_one PySem.W.kitx_str I.kIn True.intro hk (fun z=>nomatch z) q'
  | ref a=>
    cases (show u1=Value.ref a from r1)
    rcases ht with ⟨rfl,xs,hs⟩ | ⟨rfl,xs,hs⟩ | ⟨rfl,m,hs⟩
    · obtain⟨its,rv,pl,hz⟩:=I.tuple hs
      obtain⟨o,h1,h2⟩:=pl.typeIs
      exact PySem.W.kia_one PySem.W.kitx_tuple I.kIn ⟨o,h1,h2⟩ hk (fun z=>nomatch z) q'
    · obtain⟨its,rv,pl,hz⟩:=I.list hs
      obtain⟨o,h1,h2⟩:=pl.isList.typeIs
      exact PySem.W.kia_one PySem.W.kitx_list I.kIn ⟨o,h1,h2⟩ hk (fun z=>nomatch z) q'
    · obtain⟨_,_,vs,_,pp⟩:=(show hV X.prog X.w H s.heap a (.dK m) from I.hok a _ hs)
      obtain⟨o,es,ep,h1,h2,_⟩:=pp
      exact PySem.W.kia_one PySem.W.kitx_dict I.kIn ⟨o,h1,h2.1⟩ hk (fun z=>nomatch z) q'
  | _=>exact False.elim ht
theorem y1{x:Str}{T:String}(hg:Gl X x)(hm:X.mg x=none)(hv:bootBuiltins x=some (.type T))(hn:x≠"__name__")(hd:(x==("__debug__":Str))=false):PE X (.Name x pos) (tC (.ty T)):=fun pins s σ H Q I h=>
  jy I hg hm hv ⟨.ty T,H,I,rfl,h⟩ hn hd
theorem Dn{t T:String}(ht:t∈["NoneType","bool","int","str","tuple","list","dict"])(hT:T∈["int","bool","tuple","str"]):PySem.W.kitOne K (.type t) (.type T)=some (zH t T):=by
  simp only [List.mem_cons,List.not_mem_nil,or_false] at ht hT
  rcases ht with rfl | rfl | rfl | rfl | rfl | rfl | rfl<;>rcases hT with rfl | rfl | rfl | rfl<;>rfl
theorem B6(d:PyData):EF d∈["NoneType","bool","int","str","tuple","list","dict"]:=by cases d<;>simp [EF]
theorem EE{F H:Hp}{d:PyData}{v:V}(h:DA K F d v)(s:aD F H):GP K H v (EF d):=by
  have h:=DA.mono s h
  cases d with
  | none=>rw [iA.mp h];rfl
  | bool b=>rw [dR.mp h];rfl
  | int b=>rw [bX.mp h];rfl
  | str b=>rw [ye.mp h];rfl
  | tuple ds=>obtain⟨a,xs,rfl,h1,_⟩:=dG.mp h;exact .inl ⟨rfl,xs,h1⟩
  | list ds=>obtain⟨a,xs,rfl,h1,_⟩:=d9.mp h;exact .inr (.inl ⟨rfl,xs,h1⟩)
  | dict m=>simp only [DA] at h;obtain⟨a,m,rfl,h1,_⟩:=h;exact .inr (.inr ⟨rfl,_,h1⟩)
theorem AF{f:FE}{σ:L2.St}{H:Hp}{Q Q':VK}(h:fE K f σ H Q)(m:∀v H1,Q v H1→Q' v H1):fE K f σ H Q':=by
  obtain⟨F,e,r,e',R,hf,q⟩:=h
  exact⟨F,e,r,e',R,hf,fun F' H' v x R' A=>m _ _ (q F' H' v x R' A)⟩
theorem Fq{T:String}:EW K (fun v H Q=>∃t,t∈["NoneType","bool","int","str","tuple","list","dict"]∧GP K H v t∧Q (.bl (zH t T)) H) (iu T):=by
  intro σ H0 F H e x z v Q R A hg q
  unfold iu at hg
  cases x with
  | d d=>
    cases hg
    exact⟨EF d,B6 d,EE A R.sm,q F H _ (eS.refl _ _ _ _) R dC⟩
  | l xs=>
    cases hg
    obtain⟨l,vs,rfl,h1,h2,h3,h4⟩:=A
    exact⟨"list",by simp,.inr (.inl ⟨rfl,vs,gH.of h3⟩),q F H _ (eS.refl _ _ _ _) R dC⟩
  | s i=>
    cases hg
    obtain⟨h1,xs,h2⟩:=A
    obtain⟨l,vs,h3,h4,h5,h6⟩:=R.own i xs h2
    rw [h1] at h3;cases h3
    exact⟨"list",by simp,.inr (.inl ⟨rfl,vs,gH.of h5⟩),q F H _ (eS.refl _ _ _ _) R dC⟩
theorem lB{x:Str}{T:String}(hK:X.K=K)(hT:T∈["int","bool","tuple","str"])(hg:Gl X "isinstance")(hm:X.mg "isinstance"=none)(hgT:Gl X x)(hmT:X.mg x=none)(Hu:bootBuiltins x=some (.type T))(hn:x≠"__name__")(hd:(x==("__debug__":Str))=false)
    (ha:PE X a (fE K fa))(he:starEach [a,.Name x p2] X.env=(false,eval a X.env)::starEach [.Name x p2] X.env)(hpl:(backTo pos (starEach [.Name x p2] X.env)).any (·.1)=false):
    PE X (.Call (.Name "isinstance" p) [a,.Name x p2] [] pos) (fE K (jS (iu T) fa)):=
  (pK (x_ (T:=T)) hg hm boot_isinstance (sk ha (sk (y1 hgT hmT Hu hn hd) mZ) he) (by decide) (by decide) he hpl).mono fun σ H Q h=>by
    subst hK
    have h1:=z_ (Fq (T:=T)) h
    refine AF h1 fun v H1 ⟨t,ht,k,q⟩=>?_
    exact⟨v,t,_,rfl,k,Dn ht hT,q⟩
end
section
variable{X:Cx}{K:PySem.W.Frag}
end
section
variable{X:Cx}{K:PySem.W.Frag}{σ:L2.St}{F H:Hp}{e:En}{pos p1 p2:Pos}
end
section
variable{X:Cx}{K:PySem.W.Frag}{a b c d:Expr}{ta tb tc td:TE}{fa fb fc fd:FE}{pos:Pos}
end
section
variable{X:Cx}{K:PySem.W.Frag}{a b:Expr}{es:List Expr}{fa fb:FE}{fs:FA}{pos p apos:Pos}
end
section
variable{X:Cx}{K:PySem.W.Frag}{a b:Expr}{fa fb:FE}{fs:FA}{pos p p2 p3:Pos}
end
def bq(W:aK)(as:List Int):Int:=bp W (W.rng.filter fun k=> !as.contains k)
def wI(l:Nat):Int:=1000*(2 ^ (16 - l) - 1)
structure HA (W:aK) (k:Int) (as:List Int) (y n:Fr):Prop where
  y:GC (bq W (aK.askd as k)) (wI (as.length+1)) y
  n:GC (bq W (aK.askd as k)) (wI (as.length+1)) n
  len:as.length≤15
  inw:jK W k
  new:k∉as
def lk(ws:List Fr)(l:Int):Fr:=if l= -1 then(0,1) else ws.getD l.toNat (0,1)
structure HJ (W:aK) (S:Nat→Std) (n:Nat) (ws:List Fr):Prop where
  len:ws.length=n
  at':∀(j:Nat) (f:Fr),ws[j]?=some f→GC (bq W (S j).1) (wI (S j).1.length) f
theorem jt{cs:En}{g:FG}{ft:FT}{fe:FE}{b:PyData→Bool}{y:PyData→PyData}{u:PyData→En}(n:Nat):∀(items:List PyData) (t:En) (acc:List PyData),t.length=n→(∀x∈items,∀t:En,t.length=n→g x (cs++t)=some (cs++u x))→(∀x∈items,(u x).length=n)→
    (∀x∈items,ft (cs++u x)=some (b x,cs++u x))→(∀x∈items,b x=true→fe (cs++u x)=some (.d (y x),cs++u x))→acc.length+items.length≤1000000→
    ∃t',t'.length=n∧cI g ft fe items (cs++t) acc=some (acc++(items.filter b).map y,cs++t')
  | [],t,acc,h,_,_,_,_,_=>⟨t,h,by simp [cI]⟩
  | x::r,t,acc,h,hg,hu,h1,h2,hl=>by
    have h1x:=h1 x (by simp)
    unfold cI
    rw [hg x (by simp) t h]
    simp only [Option.bind_some,h1x]
    cases hb:b x with
    | true=>
      simp only [if_true,h2 x (by simp) hb,Option.bind_some,l4]
      rw [if_pos (by simp at hl;lia)]
      obtain⟨t',e1,ih⟩:=jt (b:=b) (y:=y) (u:=u) n r (u x) (acc++[y x]) (hu x (by simp)) (fun z hz=>hg z (by simp [hz])) (fun z hz=>hu z (by simp [hz])) (fun z hz=>h1 z (by simp [hz])) (fun z hz=>h2 z (by simp [hz])) (by simp at hl ⊢;lia)
      exact⟨t',e1,by rw [ih];simp [hb]⟩
    | false=>
      simp only [Bool.false_eq_true,if_false]
      obtain⟨t',e1,ih⟩:=jt (b:=b) (y:=y) (u:=u) n r (u x) acc (hu x (by simp)) (fun z hz=>hg z (by simp [hz])) (fun z hz=>hu z (by simp [hz])) (fun z hz=>h1 z (by simp [hz])) (fun z hz=>h2 z (by simp [hz])) (by simp at hl;lia)
      exact⟨t',e1,by rw [ih];simp [hb]⟩
section
variable{X:Cx}{K:PySem.W.Frag}{a:Expr}{fa:FE}{pos p pos2 p2:Pos}
end
section
variable{X:Cx}{K:PySem.W.Frag}{a:Expr}{fa:FE}
end
abbrev Rn:=List (Int × Bool)
def AH(R:Rn):List Int:=R.map (·.1)
def Cr(W:aK)(R:Rn):List Int:=(R.filter (·.2)).flatMap fun r=>[(W.tie r.1).one,(W.tie r.1).other]
structure HH (W:aK) (R:Rn) (asked taken:List Int):Prop where
  pa:asked.Perm (AH R)
  pt:taken.Perm (Cr W R)
  inw:∀k∈AH R,jK W k
  nd:(AH R).Nodup
  nk:(Cr W R).Nodup
  bd:∀t:Int,0≤t→t < W.things→W.many (AH R) t≤W.pat.getD t.toNat 0
  ak:(R.length:Int)≤W.asks
  sa:asked.Pairwise (· ≤·)
  st:taken.Pairwise (· ≤·)
section
variable{prog:Program}{w:World}{A:Around}{R:Result→Shared→Prop}
def l_(elt tg iter tg2 iter2:Expr)(ifs ifs2:List Expr)(scope:Scope)(pos:Pos)(acc:Value)(env:Env)(k:Sem PySem.Fin):Sem PySem.Fin:=do
  let x ←eval iter2 env
  standAt iter2.pos
  let x ←foldedSetIterable iter2 env x
  let _ ←runOwn (.compStart (.ListComp elt [⟨tg,iter,ifs,0⟩,⟨tg2,iter2,ifs2,0⟩] scope pos) 1 (←holding [x] (pyIter x)) acc env) env
  k
theorem rM(elt tg iter tg2 iter2:Expr)(ifs ifs2:List Expr)(scope:Scope)(pos:Pos)(it acc:Value)(env:Env):
    compTurn (.ListComp elt [⟨tg,iter,ifs,0⟩,⟨tg2,iter2,ifs2,0⟩] scope pos) 0 it acc env=(do
      standAt iter.pos
      match ←pyNext it with
      | none=>pure (.done .next)
      | some v=>
        letOwnedTupleGo tg it v
        assign tg env v
        let mut ok:=true
        for c in ifs do
          if ok then ok ←isTrue c env (eval c env)
        if ok then l_ elt tg iter tg2 iter2 ifs ifs2 scope pos acc env (again (.compLoop (.ListComp elt [⟨tg,iter,ifs,0⟩,⟨tg2,iter2,ifs2,0⟩] scope pos) 0 it acc env))
        else again (.compLoop (.ListComp elt [⟨tg,iter,ifs,0⟩,⟨tg2,iter2,ifs2,0⟩] scope pos) 0 it acc env)):=by rfl
theorem sY(elt tg iter tg2 iter2:Expr)(ifs ifs2:List Expr)(scope:Scope)(pos:Pos)(it acc:Value)(env:Env):
    compTurn (.ListComp elt [⟨tg,iter,ifs,0⟩,⟨tg2,iter2,ifs2,0⟩] scope pos) 1 it acc env=(do
      standAt iter2.pos
      match ←pyNext it with
      | none=>pure (.done .next)
      | some v=>
        letOwnedTupleGo tg2 it v
        assign tg2 env v
        let mut ok:=true
        for c in ifs2 do
          if ok then ok ←isTrue c env (eval c env)
        if ok then
          (do let _ ←call (.builtin "list.append") [acc,←eval elt env])
        again (.compLoop (.ListComp elt [⟨tg,iter,ifs,0⟩,⟨tg2,iter2,ifs2,0⟩] scope pos) 1 it acc env)):=by rfl
def Az(prog:Program)(w:World)(A:Around)(B:Sem PySem.Fin→Sem PySem.Fin)(tg:Expr)(ifs:List Expr)(env:Env)(it:Value)(onward:Shared→Prop)(v:Value)(u:Shared):Prop:=
  wpAny (model prog w) A (letOwnedTupleGo tg it v) (fun _ u1=>wpAny (model prog w) A (assign tg env v) (fun _ u2=>wpAny (model prog w) A
    (forIn ifs true fun c r=>if r=true then do let ok ←isTrue c env (eval c env);pure (ForInStep.yield ok) else pure (ForInStep.yield r)) (fun ok u3=>if ok=true then(∀(k:Sem PySem.Fin) (Q:PySem.Fin→Shared→Prop) (E:Value→Shared→Prop),(∀u5,onward u5→wpAny (model prog w) A k Q E u5)→wpAny (model prog w) A (B k) Q E u3) else onward u3) v_ u2) v_ u1) v_ u
theorem rK{elt tg iter tg2 iter2:Expr}{ifs ifs2:List Expr}{scope:Scope}{pos:Pos}{it acc:Value}{env:Env}(J:Nat→Shared→Prop)
    (turn:∀n u,J n u→wpAny (model prog w) A (pyNext it) (fun r u1=>(r=none→R (.ok .next) u1)∧∀v,r=some v→Az prog w A (l_ elt tg iter tg2 iter2 ifs ifs2 scope pos acc env) tg ifs env it (fun u2=>∃m,m < n∧J m u2) v u1) v_ u){n0:Nat}{u0:Shared}(gF:J n0 u0):
    codeAny (model prog w) A (.compLoop (.ListComp elt [⟨tg,iter,ifs,0⟩,⟨tg2,iter2,ifs2,0⟩] scope pos) 0 it acc env) R u0:=by
  refine codeAny_loop rfl J (fun n u ju=>?_) n0 gF
  show wpAny _ A ((compTurn (.ListComp elt [⟨tg,iter,ifs,0⟩,⟨tg2,iter2,ifs2,0⟩] scope pos) 0 it acc env).onRaise _) _ _ u;refine wpAny_noted ?_;rw [rM]
  refine wpAny_bind (wpAny_standAt (wpAny_bind (wpAny_mono (turn n u ju) (fun r u1 k1=>?_) fun _ _ z=>z.elim)))
  cases r with
  | none=>exact wpAny_pure (k1.1 rfl)
  | some v=>
    refine wpAny_bind (wpAny_mono (k1.2 v rfl) (fun _ u2 k2=>wpAny_bind (wpAny_mono k2 (fun _ u3 k3=>wpAny_bind (wpAny_mono k3 (fun ok u4 k4=>?_) fun _ _ z=>z.elim)) fun _ _ z=>z.elim)) fun _ _ z=>z.elim)
    cases ok with
    | false=>rw [if_neg Bool.false_ne_true] at k4;exact wpAny_pure ⟨rfl,k4⟩
    | true=>
      rw [if_pos rfl] at k4
      exact k4 _ _ _ fun u6 k6=>wpAny_pure ⟨rfl,k6⟩
theorem sX{elt tg iter tg2 iter2:Expr}{ifs ifs2:List Expr}{scope:Scope}{pos:Pos}{it acc:Value}{env:Env}(J:Nat→Shared→Prop)
    (turn:∀n u,J n u→wpAny (model prog w) A (pyNext it) (fun r u1=>(r=none→R (.ok .next) u1)∧∀v,r=some v→yc prog w A elt tg2 ifs2 env it acc (fun u2=>∃m,m < n∧J m u2) v u1) v_ u){n0:Nat}{u0:Shared}(gF:J n0 u0):
    codeAny (model prog w) A (.compLoop (.ListComp elt [⟨tg,iter,ifs,0⟩,⟨tg2,iter2,ifs2,0⟩] scope pos) 1 it acc env) R u0:=by
  refine codeAny_loop rfl J (fun n u ju=>?_) n0 gF
  show wpAny _ A ((compTurn (.ListComp elt [⟨tg,iter,ifs,0⟩,⟨tg2,iter2,ifs2,0⟩] scope pos) 1 it acc env).onRaise _) _ _ u;refine wpAny_noted ?_;rw [sY]
  refine wpAny_bind (wpAny_standAt (wpAny_bind (wpAny_mono (turn n u ju) (fun r u1 k1=>?_) fun _ _ z=>z.elim)))
  cases r with
  | none=>exact wpAny_pure (k1.1 rfl)
  | some v=>
    refine wpAny_bind (wpAny_mono (k1.2 v rfl) (fun _ u2 k2=>wpAny_bind (wpAny_mono k2 (fun _ u3 k3=>wpAny_bind (wpAny_mono k3 (fun ok u4 k4=>?_) fun _ _ z=>z.elim)) fun _ _ z=>z.elim)) fun _ _ z=>z.elim)
    cases ok with
    | false=>rw [if_neg Bool.false_ne_true] at k4;exact wpAny_pure ⟨rfl,k4⟩
    | true=>
      rw [if_pos rfl] at k4
      refine wpAny_bind (wpAny_bind (wpAny_mono k4 (fun x u5 k5=>wpAny_bind (wpAny_mono k5 (fun _ u6 k6=>?_) fun _ _ z=>z.elim)) fun _ _ z=>z.elim));exact wpAny_pure (wpAny_pure ⟨rfl,k6⟩)
theorem rL{elt tg iter tg2 iter2:Expr}{ifs ifs2:List Expr}{scope:Scope}{pos:Pos}{it acc:Value}{env:Env}{s:Shared}
    (h0:codeAny (model prog w) A (.compLoop (.ListComp elt [⟨tg,iter,ifs,0⟩,⟨tg2,iter2,ifs2,0⟩] scope pos) 1 it acc env) R s)
    (h:wpAny (model prog w) A (pyIter it) (fun it' s'=>codeAny (model prog w) A (.compLoop (.ListComp elt [⟨tg,iter,ifs,0⟩,⟨tg2,iter2,ifs2,0⟩] scope pos) 1 it' acc env) R s') (notedBy (model prog w) A env fun x s'=>R (.error x) s') s):
    codeAny (model prog w) A (.compStart (.ListComp elt [⟨tg,iter,ifs,0⟩,⟨tg2,iter2,ifs2,0⟩] scope pos) 1 it acc env) R s:=by
  refine codeAny_of_tree ?_;show wpAny _ _ ((compStart (.ListComp elt [⟨tg,iter,ifs,0⟩,⟨tg2,iter2,ifs2,0⟩] scope pos) 1 it acc env).onRaise (fun x=>do noteFrame x env;standAt theWindowsPlace)) _ _ s
  refine wpAny_notedAt ?_;unfold compStart
  show wpAny _ _ (ask >>= _) _ _ s
  refine wpAny_bind (wpAny_askSetting (wpAny_ite ?_));split
  · first | exact wpAny_bind (wpAny_pure (wpAny_pure (And.intro rfl h0))) | exact wpAny_pure (And.intro rfl h0)
  · first | exact wpAny_bind (wpAny_rule (wpAny_bind (wpAny_standAt (wpAny_bind (wpAny_mono h (fun it' s' h'=>wpAny_pure (And.intro rfl h')) fun _ _ x=>x))))) | (refine wpAny_bind (wpAny_rule ?_);show wpAny _ _ (standAt iter2.pos >>= _) _ _ s;exact wpAny_bind (wpAny_standAt (wpAny_bind (wpAny_mono h (fun it' s' h'=>wpAny_pure (And.intro rfl h')) fun _ _ x=>x))))
end
def zK(l:Addr)(wi:TI)(g:TG)(tc:TT)(te:TE)(σ:L2.St)(H:Hp)(N:L2.St→Hp→Prop):Prop:=
  wi σ H fun J H1=>∃W:Nat→Nat→L2.St→Hp→Prop,(∃m,W 0 m σ H1)∧∀i m σ' H',W i m σ' H'→
    (J.stop i H'∧N σ' H')∨(J.go i H'∧∃N2:L2.St→Hp→Prop,(∀σ2 H2,N2 σ2 H2→∃m',m' < m∧W (i+1) m' σ2 H2)∧
      ∀x H2,J.yld i H' x H2→g x σ' H2 fun σ2 H3=>tc σ2 H3 fun b H4=>if b=true then te σ2 H4 fun v H5=>∃ys,H5 l=some (.lst ys)∧ys.length < sizeLine∧N2 σ2 (be H5 l (.lst (ys++[v]))) else N2 σ2 H4)
theorem yp{Y:Cx}{elt tg iter tg2 iter2:Expr}{ifs ifs2:List Expr}{scope:Scope}{pos:Pos}{wi:TI}{g:TG}{tc:TT}{te:TE}(hc:Y.calm=true)(hxe:Y.xe=v_)(hi:PI Y tg2 iter2 wi)(hg:PG Y tg2 g)(ht:uq Y ifs2 tc)(he:PE Y elt te)
    (hs:∀x,foldedSetIterable iter2 Y.env x=pure x){pins:List (Addr × Obj)}{s:Shared}{σ:L2.St}{H:Hp}{D:Addr}{N:L2.St→Hp→Prop}(I:aH Y pins σ H s)(h:zK D wi g tc te σ H N)(k:Sem PySem.Fin)(Q:PySem.Fin→Shared→Prop)(E:Value→Shared→Prop)(hk:∀s',(∃σ' H',aH Y pins σ' H' s'∧N σ' H')→wpAny (model Y.prog Y.w) Y.A k Q E s'):
    wpAny (model Y.prog Y.w) Y.A (l_ elt tg iter tg2 iter2 ifs ifs2 scope pos (.ref D) Y.env k) Q E s:=by
  unfold l_
  have hi':=hi pins s σ H _ I h
  rw [hxe] at hi'
  refine wpAny_bind (wpAny_mono hi' (fun v s1 h1=>wpAny_bind (wpAny_standAt (wpAny_bind (wpAny_of_eq (hs v) (wpAny_bind (wpAny_holding (wpAny_mono h1 (fun itv s2 h2=>?_) fun _ _ z=>z.elim))))))) fun _ _ z=>z.elim)
  obtain⟨it,fp,tn,J,H2,rfl,I2,T,st2,f2,W,⟨m0,w0⟩,turn⟩:=h2
  have stat:∀{H':Hp},(∀b∈fp,H' b=none)→∀b∈fp,iL Y pins H' b:=fun hn b hb=>⟨hn b hb,(f2 b hb).2⟩
  have loop:codeAny (model Y.prog Y.w) Y.A (.compLoop (.ListComp elt [⟨tg,iter,ifs,0⟩,⟨tg2,iter2,ifs2,0⟩] scope pos) 1 (.ref it) (.ref D) Y.env) (fun r s'=>match r with | .ok f=>wpAny (model Y.prog Y.w) Y.A k Q E s' | .error e=>cameBackBy (model Y.prog Y.w) Y.A Y.env E e s') s2:=by
    refine sX (fun n s'=>∃i σ' H',aH Y pins σ' H' s'∧tn i s'.heap∧(∀b∈fp,H' b=none)∧W i n σ' H') ?_ (n0:=m0) ⟨0,σ,H2,I2,st2,fun b hb=>(f2 b hb).1,w0⟩
    rintro n s3 ⟨i,σ3,H3,I3,st3,fr3,w3⟩
    rcases turn i n σ3 H3 w3 with ⟨stop,qn⟩ | ⟨go,N2,hN,step⟩
    · refine bU (T.done Y rfl rfl rfl hc i pins s3 σ3 H3 v_ I3 (stat fr3) st3 stop) fun r s4 ⟨hr,I4⟩=>?_
      subst hr
      exact⟨fun _=>hk _ ⟨σ3,H3,I4,qn⟩,fun v z=>by cases z⟩
    · refine bU (T.item Y rfl rfl rfl hc i pins s3 σ3 H3 v_ I3 (stat fr3) st3 go) fun r s4 ⟨u,hr,h4⟩=>?_
      subst hr
      refine⟨fun z=>(by cases z),fun v z=>?_⟩
      cases z
      refine bU h4 fun _ s5 ⟨x,H5,I5,r5,y5,st5,fr5⟩=>?_
      have I5':=I5.pinned (stat fr5) (T.obj _ _ st5)
      have again:∀{σ8:L2.St} {H8:Hp} {s8:Shared},aH Y (pins++kv fp s5.heap) σ8 H8 s8→N2 σ8 H8→∃m,m < n∧∃i σ' H',aH Y pins σ' H' s8∧tn i s8.heap∧(∀b∈fp,H' b=none)∧W i m σ' H':=fun{σ8 H8 s8} I8 n8=>by
        obtain⟨m',hm,w8⟩:=hN σ8 H8 n8
        refine⟨m',hm,i+1,σ8,H8,I8.unpinned,T.keep _ _ _ st5 fun b hb o e=>(I8.pin (b,o) (List.mem_append_right _ (List.mem_append_right _ (ce hb e)))).1,fun b hb=>?_,w8⟩
        obtain⟨o,e,d⟩:=T.obj _ _ st5 b hb
        exact(I8.pin (b,o) (List.mem_append_right _ (List.mem_append_right _ (ce hb e)))).2.1
      have hg':=hg _ s5 σ3 H5 x u _ I5' r5 (step x H5 y5)
      rw [hxe] at hg'
      refine bU hg' fun _ s8 ⟨σ8,H8,I8,q8⟩=>?_
      have ht':=ht _ s8 σ8 H8 _ I8 q8
      rw [hxe] at ht'
      refine bU ht' fun ok s9 ⟨H9,I9,q9⟩=>?_
      cases ok with
      | false=>
        rw [if_neg Bool.false_ne_true] at q9 ⊢
        exact again I9 q9
      | true=>
        rw [if_pos rfl] at q9 ⊢
        have he':=he _ s9 σ8 H9 _ I9 q9
        rw [hxe] at he'
        refine bU he' fun v s10 ⟨xv,H10,I10,r10,ys,hl,hz,n10⟩=>?_
        have ha:=i9 _ s10 σ8 H10 (.ref D) [xv] (.ref D) [v] (fun _ H=>N2 σ8 H) I10 rfl (.cons r10 .nil) ⟨D,ys,xv,rfl,rfl,hl,hz,n10⟩
        rw [hxe] at ha
        refine bU ha fun _ s11 ⟨_,H11,I11,_,q11⟩=>?_
        exact again I11 q11
  exact wpAny_bind (wpAny_runOwn (rL loop (T.self Y.A 0 _ _ _ st2 loop)))
structure vj (cp:List (Nat × Str)) (nT:Nat) (wi:TI) (g:TG) (tc:TT) (wi2:TI) (g2:TG) (tc2:TT) (te:TE) (σ:L2.St) (H:Hp) (Q:VK):Prop where
  go:wi σ H fun J H1=>∀l,H1 l=none→
  ∃W:Nat→Nat→L2.St→Hp→Prop,(∃m,W 0 m (eP cp nT σ) (be H1 l (.lst [])))∧∀i m σ' H',W i m σ' H'→
    (J.stop i H'∧Q (.ref l) H')∨(J.go i H'∧∃N:L2.St→Hp→Prop,(∀σ2 H2,N σ2 H2→∃m',m' < m∧W (i+1) m' σ2 H2)∧
      ∀x H2,J.yld i H' x H2→g x σ' H2 fun σ2 H3=>tc σ2 H3 fun b H4=>if b=true then zK l wi2 g2 tc2 te σ2 H4 N else N σ2 H4)
def js(g:FG)(ft:FT)(fi2:FI)(g2:FG)(ft2:FT)(fe:FE):List PyData→En→List PyData→Option (List PyData × En)
  | [],e,acc=>some (acc,e)
  | x::r,e,acc=>(g x e).bind fun e1=>(ft e1).bind fun b=>if b.1=true then(fi2 b.2).bind fun p=>if p.2.1=[] then(cI g2 ft2 fe p.1 p.2.2 acc).bind fun z=>js g ft fi2 g2 ft2 fe r z.2 z.1 else none else js g ft fi2 g2 ft2 fe r b.2 acc
def nu(cp:List (Nat × Str))(nT:Nat)(fi:FI)(g:FG)(ft:FT)(fi2:FI)(g2:FG)(ft2:FT)(fe:FE):FE:=fun e=>(fi e).bind fun p=>if (p.2.1.all fun q=> !(cp.any fun c=>c.1==q.1))=true then(js g ft fi2 g2 ft2 fe p.1 (mN cp nT p.2.2) []).bind fun z=>if j6 cp z.2 p.2.2=true then some (.l z.1,nq (mi cp) z.2 p.2.2) else none else none
section
variable{K:PySem.W.Frag}{F H:Hp}{σ:L2.St}{e:En}{cp:List (Nat × Str)}{nT:Nat}
theorem xJ{Q:VK}{fi fi2:FI}{g g2:FG}{W:List Nat}{ft ft2:FT}{fe:FE}(hn:(cp.map (·.1)).Nodup)(hW:∀j∈W,cp.length≤j)(h:fE K (nu cp nT fi g ft fi2 g2 ft2 fe) σ H Q):vj cp nT (fI K fi) (fG K g W) (fT K ft) (fI K fi2) (fG K g2 W) (fT K ft2) (fE K fe) σ H Q:=by
  obtain⟨F0,e0,z,e',R0,hf,q⟩:=h
  unfold nu at hf
  obtain⟨⟨items,own,e1⟩,h1,hf⟩:=KU hf
  dsimp only at hf
  split at hf
  case isFalse=>cases hf
  case isTrue hO=>
  obtain⟨⟨out,eo⟩,h2,hf⟩:=KU hf
  dsimp only at hf
  split at hf
  case isFalse=>cases hf
  case isTrue hB=>
  cases hf
  refine⟨⟨F0,e0,items,own,e1,R0,h1,fun J F1 H1 X1 R1 kp ok=>?_⟩⟩
  intro l hl
  obtain⟨Ri,sub⟩:=R1.inn (nT:=nT) hn
  have hFl:F1 l=none:=R1.freeF hl
  let Iv:Nat→L2.St→Hp→Prop:=fun i=>CI K W (eP cp nT σ) F1 H1 (mN cp nT e1) l fun _ ei acc=>js g ft fi2 g2 ft2 fe (items.drop i) ei acc=some (out,eo)
  have notown:∀p∈own,∀a,σ[p.1]?=some (some (.ref a))→¬dn (eP cp nT σ) (mN cp nT e1) H1 a:=by
    rintro p hp a ha ⟨k,zf⟩
    obtain⟨xs,c1,c2⟩:=zf.resolve_right fun⟨xss,_,_,z,_⟩=>jx k xss z
    obtain⟨i,s,d1,d2⟩:=jw c1
    have e2:=mK d1 c2
    have:p.1=i:=R1.inj p.1 i p.2 xs a (kp p hp) d2 ha e2
    have hh:=List.all_eq_true.mp hO p hp
    simp only [Bool.not_eq_true',List.any_eq_false,beq_iff_eq] at hh
    exact hh (i,s) (K2 d1) this.symm
  refine⟨fun i m σ' H'=>m=items.length - i∧i≤items.length∧Iv i σ' H',⟨items.length,by simp,Nat.zero_le _,.mk (Ri.putT hFl (fun z=>(Ri.ownH l z) hl)).1 (dY.refl.putT hl (Ri.putT hFl (fun z=>(Ri.ownH l z) hl)).2) hFl (fun z=>(Ri.ownH l (((Ri.putT hFl (fun z=>(Ri.ownH l z) hl)).2 l).mp z)) hl) ay aS.nil h2⟩,?_⟩
  rintro i m σ' H' ⟨rfl,hi,⟨R',X',fl,no,hl',da,hc⟩⟩
  rename_i F' ei acc vs
  have held:ww K σ F' H' own:=fun p hp=>by
    obtain⟨a,us,c1,c2,c3,c4⟩:=R1.own p.1 p.2 (kp p hp)
    exact⟨a,us,c1,X'.tmp a _ c3 (notown p hp a c1),c4.mono X'.sf⟩
  obtain⟨go,stop,yld⟩:=ok F' H' X'.sf R'.sm held
  by_cases hlt:i < items.length
  · have hd:items.drop i=items[i]::items.drop (i+1):=List.drop_eq_getElem_cons hlt
    rw [hd] at hc
    unfold js at hc
    obtain⟨e2,c2,hc⟩:=KU hc
    obtain⟨⟨b,e3⟩,c3,hc⟩:=KU hc
    refine .inr ⟨go i hlt,Iv (i+1),fun σ2 H2 r=>⟨items.length - (i+1),by lia,rfl,hlt,r⟩,fun x H2 hy=>?_⟩
    obtain⟨F2,sH,sF2,sm2,fz,hx⟩:=yld i items[i] x H2 (List.getElem?_eq_getElem hlt) hy
    obtain⟨R2,X2⟩:=R'.step sH sF2 sm2 fz
    refine⟨F2,ei,items[i],e2,R2,hx,c2,fun σ3 X3 R3=>⟨F2,e2,b,e3,R3,c3,fun F4 H4 X4 R4=>?_⟩⟩
    have hlH2:H2 l=some (.lst vs):=sH _ _ hl'
    have no2:¬dn σ' ei H2 l:=fun z=>by
      rcases X2.ow l z with z | z
      · exact no z
      · rw [hl'] at z;cases z
    have no3:¬dn σ3 e2 H2 l:=fun z=>by
      rcases X3.own l z with z | z
      · exact no2 z
      · rw [hlH2] at z;cases z
    have fl2:F2 l=none:=fz l fl (by rw [hl'];simp)
    have hlH4:H4 l=some (.lst vs):=X4.tmp l _ hlH2 no3
    have fl4:F4 l=none:=X4.fr l vs fl2 hlH2 no3
    have no4:¬dn σ3 e3 H4 l:=fun z=>by
      rcases X4.ow l z with z | z
      · exact no3 z
      · rw [hlH2] at z;cases z
    have E4:dY W (eP cp nT σ) F1 H1 (mN cp nT e1) σ3 F4 H4 e3:=((X'.trans X2.s).trans X3).trans X4.s
    have da4:=da.mono (sF2.trans X4.sf)
    cases b with
    | false=>
      rw [if_neg (by simp)] at hc
      exact AQ (.mk R4 E4 fl4 no4 hlH4 da4 hc)
    | true=>
      rw [if_pos rfl] at hc
      obtain⟨⟨its2,own2,e5⟩,c5,hc⟩:=KU hc
      dsimp only at hc
      split at hc
      case isFalse=>cases hc
      case isTrue ho2=>
      subst ho2
      obtain⟨⟨acc2,e6⟩,c6,hc⟩:=KU hc
      refine AR ⟨F4,e3,its2,[],e5,R4,c5,fun J2 F5 H5 X5 R5 _ ok2=>?_⟩
      have hlH5:H5 l=some (.lst vs):=X5.tmp l _ hlH4 no4
      have fl5:F5 l=none:=X5.fr l vs fl4 hlH4 no4
      have no5:¬dn σ3 e5 H5 l:=fun z=>by
        rcases X5.ow l z with z | z
        · exact no4 z
        · rw [hlH4] at z;cases z
      let Iv2:Nat→L2.St→Hp→Prop:=fun j=>CI K W (eP cp nT σ) F1 H1 (mN cp nT e1) l fun F' ei acc=>aD F5 F'∧cI g2 ft2 fe (its2.drop j) ei acc=some (acc2,e6)
      refine⟨fun j m σ' H'=>m=its2.length - j∧j≤its2.length∧Iv2 j σ' H',⟨its2.length,by simp,Nat.zero_le _,.mk R5 (E4.trans X5.s) fl5 no5 hlH5 (da4.mono X5.sf) ⟨aD.refl _,c6⟩⟩,?_⟩
      rintro j m σ6 H6 ⟨rfl,hj,⟨R6,X6,fl6,no6,hl6,da6,s6,hc6⟩⟩
      rename_i F6 ei6 acc6 vs6
      obtain⟨go2,stop2,yld2⟩:=ok2 F6 H6 s6 R6.sm (fun p hp=>by cases hp)
      by_cases hjt:j < its2.length
      · have hd2:its2.drop j=its2[j]::its2.drop (j+1):=List.drop_eq_getElem_cons hjt
        rw [hd2] at hc6
        unfold cI at hc6
        obtain⟨e7,c7,hc6⟩:=KU hc6
        obtain⟨⟨b8,e8⟩,c8,hc6⟩:=KU hc6
        refine .inr ⟨go2 j hjt,Iv2 (j+1),fun σ2 H2 r=>⟨its2.length - (j+1),by lia,rfl,hjt,r⟩,fun x7 H7 hy7=>?_⟩
        obtain⟨F7,sH7,sF7,sm7,fz7,hx7⟩:=yld2 j its2[j] x7 H7 (List.getElem?_eq_getElem hjt) hy7
        obtain⟨R7,X7⟩:=R6.step sH7 sF7 sm7 fz7
        refine⟨F7,ei6,its2[j],e7,R7,hx7,c7,fun σ8 X8 R8=>⟨F7,e7,b8,e8,R8,c8,fun F9 H9 X9 R9=>?_⟩⟩
        have hlH7:H7 l=some (.lst vs6):=sH7 _ _ hl6
        have no7:¬dn σ6 ei6 H7 l:=fun z=>by
          rcases X7.ow l z with z | z
          · exact no6 z
          · rw [hl6] at z;cases z
        have no8:¬dn σ8 e7 H7 l:=fun z=>by
          rcases X8.own l z with z | z
          · exact no7 z
          · rw [hlH7] at z;cases z
        have fl7:F7 l=none:=fz7 l fl6 (by rw [hl6];simp)
        have hlH9:H9 l=some (.lst vs6):=X9.tmp l _ hlH7 no8
        have fl9:F9 l=none:=X9.fr l vs6 fl7 hlH7 no8
        have no9:¬dn σ8 e8 H9 l:=fun z=>by
          rcases X9.ow l z with z | z
          · exact no8 z
          · rw [hlH7] at z;cases z
        have E9:dY W (eP cp nT σ) F1 H1 (mN cp nT e1) σ8 F9 H9 e8:=((X6.trans X7.s).trans X8).trans X9.s
        have s9:aD F5 F9:=(s6.trans sF7).trans X9.sf
        cases b8 with
        | false=>
          rw [if_neg (by simp)] at hc6
          exact AQ (.mk R9 E9 fl9 no9 hlH9 (da6.mono (sF7.trans X9.sf)) ⟨s9,hc6⟩)
        | true=>
          rw [if_pos rfl] at hc6
          obtain⟨⟨r,e10⟩,c10,hc6⟩:=KU hc6
          obtain⟨d,c11,hc6⟩:=KU hc6
          split at hc6
          case isFalse=>cases hc6
          case isTrue hlen=>
          refine AR ⟨F9,e8,r,e10,R9,c10,fun Fa Ha v Xa Ra Aa=>?_⟩
          have hlHa:Ha l=some (.lst vs6):=Xa.tmp l _ hlH9 no9
          have fla:Fa l=none:=Xa.fr l vs6 fl9 hlH9 no9
          have noa:¬dn σ8 e10 Ha l:=fun z=>by
            rcases Xa.ow l z with z | z
            · exact no9 z
            · rw [hlH9] at z;cases z
          obtain⟨Fb,Rb,sb,db,fb⟩:=dI.frozen Ra (rs:=[r]) (vs:=[v]) ⟨v,[],rfl,Aa,rfl⟩ (kU c11)
          have flb:Fb l=none:=fb l fla (by rw [hlH9];simp)
          have Xb:=Xa.frz sb fb
          have ll:=da6.len
          have sl:sizeLine=16777216:=sizeLine_eq
          have dv:DA K Fb d v:=by
            simp only [aS] at db
            obtain⟨v',r',e',hv,_⟩:=db
            cases e';exact hv
          obtain⟨Rc,oc⟩:=Rb.putT (ws:=vs6++[v]) flb noa
          exact⟨vs6,hlHa,by lia,.mk Rc ((E9.trans Xb.s).putT hl oc) flb (fun z=>noa ((oc l).mp z)) ay ((da6.mono (sF7.trans (X9.sf.trans (Xa.sf.trans sb)))).append (aS.one dv)) ⟨s9.trans (Xa.sf.trans sb),hc6⟩⟩
      · have hd2:its2.drop j=[]:=List.drop_eq_nil_of_le (by lia)
        rw [hd2] at hc6
        cases hc6
        exact .inl ⟨stop2 j (by lia),.mk R6 X6 fl6 no6 hl6 da6 hc⟩
  · have hd:items.drop i=[]:=List.drop_eq_nil_of_le (by lia)
    rw [hd] at hc
    cases hc
    refine .inl ⟨stop i (by lia),?_⟩
    obtain⟨R9,X9,o9⟩:=pZ R1 sub jx X'.sf X'.dom X'.fr X'.lst X'.tmp R' (fun i k xs g1 g2=>X'.wr k fun z=>by
      obtain⟨s,g⟩:=er g2
      have:=(KY g).1
      have:=hW k z
      lia) fun i k xs g1 g2=>by
        obtain⟨s,g⟩:=er g2
        unfold j6 at hB
        have hb:=List.all_eq_true.mp hB _ (K2 g)
        simp only [g1,g2,Option.getD_some,wR,Bool.not_true,Bool.false_or] at hb
        exact vS.mp hb
    exact q F' H' (.ref l) (X1.trans X9) R9 ⟨l,vs,rfl,X1.dom l hl,fl,hl',da,fun z=>R1.ownH l (o9 l z) hl⟩
end
theorem PG.wide{X:Cx}{K:PySem.W.Frag}{tg:Expr}{g:FG}{W W':List Nat}(h:PG X tg (fG K g W))(hw:∀j,j∈W→j∈W'):PG X tg (fG K g W'):=h.mono fun v σ H Q ⟨F,e,x,e',R,d,hg,q⟩=>⟨F,e,x,e',R,d,hg,fun σ' x=>q σ' (x.mono hw)⟩
section
variable{X:Cx}{K:PySem.W.Frag}{pos:Pos}
end
theorem tR{X:Cx}{ix:Nat}{nm:Str}{posn poss:Pos}{elt iter tg iter2 tg2:Expr}{ifs ifs2:List Expr}{scope:Scope}{pos:Pos}{wi wi2:TI}{g g2:TG}{tc tc2:TT}{te:TE}(sc0:Scope)(N0:List Str)(cp:List (Nat × Str))(tgN:List Str)
    (hc:X.calm=true)(hsc:X.env.scope=sc0)(hN0:X.N=N0)(hi:PI X tg iter wi)
    (hg:∀C s0 H0 fp,PG (aw X scope cp tgN C s0 H0 fp) tg g)
    (ht:∀C s0 H0 fp,uq (aw X scope cp tgN C s0 H0 fp) ifs tc)
    (hi2:∀C s0 H0 fp,PI (aw X scope cp tgN C s0 H0 fp) tg2 iter2 wi2)
    (hg2:∀C s0 H0 fp,PG (aw X scope cp tgN C s0 H0 fp) tg2 g2)
    (ht2:∀C s0 H0 fp,uq (aw X scope cp tgN C s0 H0 fp) ifs2 tc2)
    (he:∀C s0 H0 fp,PE (aw X scope cp tgN C s0 H0 fp) elt te)
    (hk:scope.kind=.function)(hcell:∀y∈scope.names,y.2≠.cell)(hnames:∀y∈scope.names,y.2=.local→scope.names.lookup y.1=some .local)
    (hfr:∀y∈scope.names,y.2=.free→scope.names.lookup y.1=some .free∧sc0.names.lookup y.1=some .cell)
    (hcp:∀p∈cp,N0[p.1]?=some p.2)(hcq:∀p∈cp,sc0.names.lookup p.2=some .cell∧scope.names.lookup p.2=some .free)
    (hNd:X.N.Nodup)(hix:X.N[ix]?=some nm)(hlc:X.env.scope.names.lookup nm=some .local)(hsw:swapsWith (.ListComp elt [⟨tg,iter,ifs,0⟩,⟨tg2,iter2,ifs2,0⟩] scope pos) (some (.Name nm posn)) poss.line X.env=pure true)
    (hs2:∀C s0 H0 fp x,foldedSetIterable iter2 (aw X scope cp tgN C s0 H0 fp).env x=pure x)(hs:∀x,foldedSetIterable iter X.env x=pure x:=by intro _;rfl):
    PS X (.Assign [.Name nm posn] (.ListComp elt [⟨tg,iter,ifs,0⟩,⟨tg2,iter2,ifs2,0⟩] scope pos) poss) (BX (vj cp tgN.length wi g tc wi2 g2 tc2 te) (vM ix)):=by
  intro pins s σ H D0 I h
  let Q:VK:=fun x H1=>D0.nx (σ.set ix (some x)) H1
  have h:vj cp tgN.length wi g tc wi2 g2 tc2 te σ H Q:=h
  have hkind:∀x,X.env.kindOf x=sc0.names.lookup x:=fun x=>by unfold Env.kindOf;rw [hsc]
  have hfree:∀y∈scope.names,y.2=.free→∃c,X.env.cells.lookup y.1=some c:=fun y hy e=>I.ok.has y.1 (.inl (by rw [hkind];exact(hfr y hy e).2))
  rw [exec_Assign_Name_used _ _ _ _ hsw]
  refine wpAny_bind (wpAny_standAt (wpAny_bind ?_))
  unfold evalThenUse
  refine wpAny_bind ?_
  refine wpAny_comprehension_free (use:=some (assign (.Name nm posn) X.env)) rfl hs (lG hfree) hk hnames (wpAny_mono (hi pins s σ H _ I h.go) (fun xv s₁ h₁=>wpAny_mono h₁ (fun itv s₂ h₂=>?_) fun _ _ e=>e) fun _ _ e=>e)
  obtain⟨it,fp,tn,J,H2,rfl,I2,T,st2,f2,hq⟩:=h₂
  refine wpAny_newObj_type ?_
  have hlF:H2 s₂.heap.objs.size=none:=I2.hok.fresh (Nat.le_refl _)
  have I3:aH X pins σ (be H2 s₂.heap.objs.size (.lst [])) {s₂ with heap:=s₂.heap.push {cls:=.type "list",data:=.seq ([]:List Value).toArray}}:=I2.lnew (t':=s₂.toks) .nil (Nat.zero_le _)
  obtain⟨W,⟨m0,w0⟩,turn⟩:=hq _ hlF
  have f3:∀b∈fp,iL X pins (be H2 s₂.heap.objs.size (.lst [])) b:=fun b hb=>by
    obtain⟨f0,fr⟩:=f2 b hb
    obtain⟨o,ho,_⟩:=T.obj _ _ st2 b hb
    exact⟨by rw [aG (Nat.ne_of_lt (Heap.lt_size ho))];exact f0,fr⟩
  have st3:tn 0 (s₂.heap.push {cls:=.type "list",data:=.seq ([]:List Value).toArray}):=T.keep _ _ _ st2 fun b _ o e=>Heap.get?_push_of_some _ e
  generalize hD:s₂.heap.objs.size=D at*
  generalize hs3:({s₂ with heap:=s₂.heap.push {cls:=.type "list",data:=.seq ([]:List Value).toArray}}:Shared)=s₃ at*
  have hst3:tn 0 s₃.heap:=by rw [←hs3];exact st3
  refine wpAny_newFunctionEnv hcell (by intro y hy;simp at hy) (fun h₁ hns₁ hsb₁=>?_) hk
  generalize hC:s₃.heap.objs.size=C at*
  have old:∀b o,s₃.heap.get? b=some o→h₁.get? b=some o:=fun b o e=>hsb₁.extBut b o (by rw [←hC];exact Nat.ne_of_lt (Heap.lt_size e)) (Heap.get?_push_of_some _ e)
  have nC:∀b o,s₃.heap.get? b=some o→b≠C:=fun b o e=>by rw [←hC];exact Nat.ne_of_lt (Heap.lt_size e)
  have hHC:(be H2 D (.lst [])) C=none:=I3.hok.fresh (by rw [hC];exact Nat.le_refl _)
  have clS:∀x c,(ia X.env scope.names []).lookup x=some c→X.env.cells.lookup x=some c:=fun x c e=>jr _ _ x c hfree (fun _ _ z=>by simp at z) e
  have clH:∀x,(∃y∈scope.names,y.1=x∧y.2=.free)→∃c,(ia X.env scope.names []).lookup x=some c:=fun x e=>lX _ _ x (.inl e)
  have ok':(aw X scope cp tgN C s₃ (be H2 D (.lst [])) fp).Ok:=by
    refine⟨I.ok.mod,hk,I.ok.glob,I.ok.blt,by rw [←hC];exact Nat.le_refl _,fun x y c e1 e2=>I.ok.inj x y c (clS _ _ e1) (clS _ _ e2),fun x e=>clH x (cG hcell e),fun x c e1 e2=>?_,I.ok.hd,I.ok.frames,.inl rfl,fun b hb=>?_,fun b o e=>I3.bs b o e,?_,fun b o e hb=>?_,fun b hb z=>?_,I3.stack,fun b hb=>I3.stkFree b hb⟩
    · exfalso
      have e1':scope.names.lookup x=some .local:=by simpa [aw] using e1
      have e2':=clS x c e2
      obtain⟨c',hc'⟩:∃y∈scope.names,y.1=x∧y.2=.free:=by
        by_cases q:∃y∈scope.names,y.1=x∧y.2=.free
        · exact q
        · exfalso
          have:∀(names:List (Str × NameKind)) (cs:List (Str × Addr)),(¬∃y∈names,y.1=x∧y.2=.free)→cs.lookup x=none→(ia X.env names cs).lookup x=none:=by
            intro names
            induction names with
            | nil=>intro cs _ h;exact h
            | cons y r ih=>
              intro cs hn hcs
              obtain⟨n,k⟩:=y
              refine ih _ (fun⟨y,hy,z⟩=>hn ⟨y,List.mem_cons_of_mem _ hy,z⟩) ?_
              by_cases hk:(k==NameKind.free)=true
              · rw [if_pos hk,List.lookup_cons]
                cases hx:x==n with
                | true=>exact absurd ⟨(n,k),List.mem_cons_self,(by simpa using hx:x=n).symm,by simpa using hk⟩ hn
                | false=>exact hcs
              · rw [if_neg hk];exact hcs
          have z:=this scope.names [] q rfl
          have e2'':(ia X.env scope.names []).lookup x=some c:=e2
          rw [z] at e2'';cases e2''
      have z:=(hfr c' hc'.1 hc'.2.2).1
      rw [hc'.2.1,e1'] at z;cases z
    · obtain⟨f0,f1,f4,f5,f6,f7⟩:=f3 b hb
      obtain⟨o,ho,_⟩:=T.obj _ _ hst3 b hb
      exact⟨nC b o ho,fun x c e=>f6 x c (clS x c e)⟩
    · exact Nat.le_trans I.ok.bsz I3.sz
    · obtain⟨f0,f1,f4,f5,f6,f7⟩:=f3 b hb
      rcases f5 with z | z
      · exact I.ok.noex b o e z
      · have:=(I.ok.bs b o e).1
        exact absurd (Nat.lt_of_lt_of_le (Heap.lt_size this) z) (Nat.lt_irrefl _)
    · obtain⟨f0,f1,f4,f5,f6,f7⟩:=f3 b hb
      rcases K1 (I3.stkSub b z) with z | z
      · exact f1 z
      · exact f4 z
  have I4:aH (aw X scope cp tgN C s₃ (be H2 D (.lst [])) fp) [] (eP cp tgN.length σ) (be H2 D (.lst [])) {s₃ with heap:=h₁,toks:=s₃.toks+([]:List (Str × Value)).length}:=by
    refine⟨ok',rfl,I3.bare,Un.kept old,⟨_,hns₁,fun i x v e1 e2 e3=>?_⟩,fun x c e=>?_,hHC,fun x c e=>I3.freeC x c (clS x c e),fun p hp=>by simp [aw] at hp,I3.hok.kept old,by simp [eP,aw]⟩
    · have hlt:i < cp.length:=by
        by_cases q:i < cp.length
        · exact q
        · exfalso
          unfold eP at e2
          rw [List.getElem?_append_right (by simp;lia)] at e2
          rw [List.getElem?_replicate] at e2
          split at e2<;>cases e2
      have e1':(cp.map (·.2))[i]?=some x:=by
        have e1'':(cp.map (·.2)++tgN)[i]?=some x:=e1
        rwa [List.getElem?_append_left (by simp;exact hlt)] at e1''
      have e2':(cp.map (fun p=>(σ[p.1]?).join))[i]?=some (some v):=by
        unfold eP at e2
        rwa [List.getElem?_append_left (by simp;exact hlt)] at e2
      rw [List.getElem?_map,List.getElem?_eq_getElem hlt] at e1' e2'
      have ex:(cp[i]).2=x:=by simpa using e1'
      have ev:(σ[(cp[i]).1]?).join=some v:=by simpa using e2'
      have ev':σ[(cp[i]).1]?=some (some v):=by
        cases q:σ[(cp[i]).1]? with
        | none=>rw [q] at ev;cases ev
        | some z=>rw [q] at ev;simp only [Option.join_some] at ev;rw [ev]
      have hN:=hcp cp[i] (List.getElem_mem hlt)
      rw [←hN0] at hN
      obtain⟨hcl,hcf⟩:=hcq cp[i] (List.getElem_mem hlt)
      rw [ex] at hN hcl hcf
      obtain⟨m,hn,hl⟩:=I3.loc
      obtain⟨u,r,l⟩:=hl _ x v hN ev' (.inr (.inl (by rw [hsc];exact hcl)))
      refine⟨u,r,.inr ?_⟩
      rcases l with ⟨k1,_⟩ | ⟨k1,c,hcc,o,ho,hd⟩
      · rw [hkind,hcl] at k1;cases k1
      · have e3':(relabel scope X.env).names.lookup x=some .local∨(relabel scope X.env).names.lookup x=some .cell∨(relabel scope X.env).names.lookup x=some .free:=e3
        have nl:(relabel scope X.env).names.lookup x=some .cell∨(relabel scope X.env).names.lookup x=some .free:=by
          rcases e3' with z | z | z
          · exact absurd z (dW hcf)
          · exact .inl z
          · exact .inr z
        obtain⟨c',hc'⟩:=clH x (cG hcell nl)
        have:=clS x c' hc'
        rw [hcc] at this;cases this
        exact⟨nl,c,hc',o,old c o ho,hd⟩
    · obtain⟨v,o,ho,hd⟩:=I3.cell x c (clS x c e)
      exact⟨v,o,old c o ho,hd⟩
  have hst4:tn 0 h₁:=T.keep _ _ _ hst3 fun b _ o e=>old b o e
  have loop:codeAny (model X.prog X.w) X.A (.compLoop (.ListComp elt [⟨tg,iter,ifs,0⟩,⟨tg2,iter2,ifs2,0⟩] scope pos) 0 (.ref it) (.ref D) (compEnvC scope (ia X.env scope.names []) C X.env))
      (compPost (model X.prog X.w) X.A X.xe (some (assign (.Name nm posn) X.env)) (fun _ s'=>wpAny (model X.prog X.w) X.A (pure ()) (fun _ s''=>wpAny (model X.prog X.w) X.A (pure Flow.next) (SP X pins D0) X.xe s'') X.xe s') (.ref D) C) {s₃ with heap:=h₁,toks:=s₃.toks+([]:List (Str × Value)).length}:=by
    refine rK (fun n s'=>∃i σ' H',aH (aw X scope cp tgN C s₃ (be H2 D (.lst [])) fp) [] σ' H' s'∧tn i s'.heap∧(∀b∈fp,H' b=none)∧W i n σ' H') ?_ (n0:=m0) ⟨0,_,_,I4,hst4,fun b hb=>(f3 b hb).1,w0⟩
    rintro n s5 ⟨i,σ5,H5,I5,st5,fr5,w5⟩
    have stat:∀{H':Hp},(∀b∈fp,H' b=none)→∀b∈fp,iL (aw X scope cp tgN C s₃ (be H2 D (.lst [])) fp) [] H' b:=fun hn b hb=>
      ⟨hn b hb,(ok'.exf b hb).1,ok'.exfs b hb,.inl hb,(ok'.exf b hb).2,fun p hp=>by simp [aw] at hp⟩
    rcases turn i n σ5 H5 w5 with ⟨stop,qn⟩ | ⟨go,N,hN,step⟩
    · refine bU (T.done (aw X scope cp tgN C s₃ (be H2 D (.lst [])) fp) rfl rfl rfl hc i [] s5 σ5 H5 (fun _ _=>False) I5 (stat fr5) st5 stop) fun r s6 ⟨hr,I6⟩=>?_
      subst hr
      refine⟨fun _=>?_,fun v z=>by cases z⟩
      obtain⟨m,hn,_⟩:=I6.loc
      have I7:aH X pins σ H5 s6:=by
        have key:∀h':Heap,Heap.SameBut C s6.heap h'→aH X pins σ H5 {s6 with heap:=h'}:=fun h' sb=>by
          have ub:=I6.base
          have kp:∀b u,b≠C→s6.heap.get? b=some u→h'.get? b=some u:=fun b u ne e=>sb.extBut b u ne e
          have nit:∀b u,H5 b=some u→b≠C:=fun b u e z=>by
            have:=I6.free
            rw [z] at e
            rw [show H5 C=none from this] at e;cases e
          refine I3.call' (s':={s6 with heap:=h'}) (ch:=fp) I6.os ⟨fun b o e n hb hx=>kp b o (nC b o e) (ub.keep b o e n hb hx),fun b o e n hb hx=>?_,ub.free,fun b o e hx=>?_,ub.tups,ub.frzs,ub.tbls⟩ (fun b u e=>?_) I6.bare (fun b hb=>?_)
          · obtain⟨sl,q⟩:=ub.slot b o e n hb hx
            exact⟨sl,kp b _ (nC b o e) q⟩
          · obtain⟨o',q⟩:=ub.there b o e hx
            exact⟨o',kp b _ (nC b o e) q⟩
          · refine(I6.hok b u e).stay (fun c v hc q=>kp c v ?_ q) (fun _ q=>q) fun _ _ q=>q
            rcases hc with z | z
            · rw [z];exact nit b u e
            · exact nit c _ z
          · obtain⟨f0,f1,f4,f5,f6,f7⟩:=f3 b hb
            exact⟨f5,f1,f6,f7⟩
        exact key s6.heap ⟨rfl,fun _ _=>rfl⟩
      have fC:iL X pins H5 C:=I3.fpOk (by rw [hC];exact Nat.le_refl _) I6.free
      show wpAny (model X.prog X.w) X.A (assign (.Name nm posn) X.env (.ref D)) _ X.xe s6
      refine wpAny_assign_Name (nh (v:=.ref D) I7 hNd hix (Or.inl hlc) rfl (fun s' I' hsb=>?_) (Or.inr hlc))
      obtain⟨a,sb,ha⟩:=hsb
      have nCa:C≠a:=by
        rcases ha with z | z
        · rw [z];exact fC.2.1
        · exact fun e=>fC.2.2.2.2.1 _ _ z e.symm
      obtain⟨oN,esN,epN,hoN,rN⟩:=hn
      refine⟨m,⟨oN,esN,epN,(sb.2 C nCa).trans hoN,rN⟩,fun h' sb'=>wpAny_pure (wpAny_pure ?_)⟩
      have I8:aH X pins (σ.set ix (some (.ref D))) H5 {s' with heap:=h',toks:=s'.toks}:=I'.turnedL (t':=s'.toks) (fp:=[C]) (fun b hb=>by rw [List.mem_singleton.mp hb];exact fC) fun b o nb e=>sb'.extBut b o (by simpa using nb) e
      exact⟨_,H5,I8,qn⟩
    · refine bU (T.item (aw X scope cp tgN C s₃ (be H2 D (.lst [])) fp) rfl rfl rfl hc i [] s5 σ5 H5 (fun _ _=>False) I5 (stat fr5) st5 go) fun r s6 ⟨u,hr,h6⟩=>?_
      subst hr
      refine⟨fun z=>(by cases z),fun v z=>?_⟩
      cases z
      refine bU h6 fun _ s7 ⟨x,H7,I7,r7,y7,st7,fr7⟩=>?_
      have I7':=I7.pinned (stat fr7) (T.obj _ _ st7)
      have again:∀{σ8:L2.St} {H8:Hp} {s8:Shared},aH (aw X scope cp tgN C s₃ (be H2 D (.lst [])) fp) ([]++kv fp s7.heap) σ8 H8 s8→N σ8 H8→∃m,m < n∧∃i σ' H',aH (aw X scope cp tgN C s₃ (be H2 D (.lst [])) fp) [] σ' H' s8∧tn i s8.heap∧(∀b∈fp,H' b=none)∧W i m σ' H':=fun{σ8 H8 s8} I8 n8=>by
        obtain⟨m',hm,w8⟩:=hN σ8 H8 n8
        refine⟨m',hm,i+1,σ8,H8,I8.unpinned,T.keep _ _ _ st7 fun b hb o e=>(I8.pin (b,o) (List.mem_append_right _ (List.mem_append_right _ (ce hb e)))).1,fun b hb=>?_,w8⟩
        obtain⟨o,e,d⟩:=T.obj _ _ st7 b hb
        exact(I8.pin (b,o) (List.mem_append_right _ (List.mem_append_right _ (ce hb e)))).2.1
      refine bU (hg C s₃ (be H2 D (.lst [])) fp _ s7 σ5 H7 x u _ I7' r7 (step x H7 y7)) fun _ s8 ⟨σ8,H8,I8,q8⟩=>?_
      refine bU (ht C s₃ (be H2 D (.lst [])) fp _ s8 σ8 H8 _ I8 q8) fun ok s9 ⟨H9,I9,q9⟩=>?_
      cases ok with
      | false=>
        rw [if_neg Bool.false_ne_true] at q9 ⊢
        exact again I9 q9
      | true=>
        rw [if_pos rfl] at q9 ⊢
        exact fun k Q' E' hk=>yp (Y:=aw X scope cp tgN C s₃ (be H2 D (.lst [])) fp) hc rfl (hi2 C s₃ _ fp) (hg2 C s₃ _ fp) (ht2 C s₃ _ fp) (he C s₃ _ fp) (hs2 C s₃ _ fp) I9 q9 k Q' E' fun s' ⟨σ11,H11,I11,q11⟩=>hk s' (again I11 q11)
  exact codeAny_compStart_list loop (T.self X.A 0 _ _ _ hst4 loop)
section
variable{X:Cx}{K:PySem.W.Frag}{pos:Pos}
theorem vc{ix:Nat}{nm:Str}{posn poss:Pos}{elt iter tg iter2 tg2:Expr}{ifs ifs2:List Expr}{scope:Scope}{fi fi2:FI}{g g2:FG}{ft ft2:FT}{fe:FE}{W W2:List Nat}(sc0:Scope)(N0:List Str)(cp:List (Nat × Str))(tgN:List Str)
    (hc:X.calm=true)(hsc:X.env.scope=sc0)(hN0:X.N=N0)(hi:PI X tg iter (fI K fi))
    (hg:∀C s0 H0 fp,PG (aw X scope cp tgN C s0 H0 fp) tg (fG K g W))
    (ht:∀C s0 H0 fp,uq (aw X scope cp tgN C s0 H0 fp) ifs (fT K ft))
    (hi2:∀C s0 H0 fp,PI (aw X scope cp tgN C s0 H0 fp) tg2 iter2 (fI K fi2))
    (hg2:∀C s0 H0 fp,PG (aw X scope cp tgN C s0 H0 fp) tg2 (fG K g2 W2))
    (ht2:∀C s0 H0 fp,uq (aw X scope cp tgN C s0 H0 fp) ifs2 (fT K ft2))
    (he:∀C s0 H0 fp,PE (aw X scope cp tgN C s0 H0 fp) elt (fE K fe))
    (hk:scope.kind=.function)(hcell:∀y∈scope.names,y.2≠.cell)(hnames:∀y∈scope.names,y.2=.local→scope.names.lookup y.1=some .local)
    (hfr:∀y∈scope.names,y.2=.free→scope.names.lookup y.1=some .free∧sc0.names.lookup y.1=some .cell)
    (hcp:∀p∈cp,N0[p.1]?=some p.2)(hcq:∀p∈cp,sc0.names.lookup p.2=some .cell∧scope.names.lookup p.2=some .free)(hnd:(cp.map (·.1)).Nodup)(hW:∀j∈W++W2,cp.length≤j)
    (hNd:X.N.Nodup)(hix:X.N[ix]?=some nm)(hlc:X.env.scope.names.lookup nm=some .local)(hsw:swapsWith (.ListComp elt [⟨tg,iter,ifs,0⟩,⟨tg2,iter2,ifs2,0⟩] scope pos) (some (.Name nm posn)) poss.line X.env=pure true)
    (hs2:∀C s0 H0 fp x,foldedSetIterable iter2 (aw X scope cp tgN C s0 H0 fp).env x=pure x)(hs:∀x,foldedSetIterable iter X.env x=pure x):
    PS X (.Assign [.Name nm posn] (.ListComp elt [⟨tg,iter,ifs,0⟩,⟨tg2,iter2,ifs2,0⟩] scope pos) poss) (fS K (aY ix (nu cp tgN.length fi g ft fi2 g2 ft2 fe)) [ix]):=(tR sc0 N0 cp tgN hc hsc hN0 hi (fun C s0 H0 fp=>(hg C s0 H0 fp).wide fun j hj=>List.mem_append_left W2 hj) ht hi2 (fun C s0 H0 fp=>(hg2 C s0 H0 fp).wide fun j hj=>List.mem_append_right W hj) ht2 he hk hcell hnames hfr hcp hcq hNd hix hlc hsw hs2 hs).mono fun D σ H h=>by
  obtain⟨F,e,fl,R,hf,q⟩:=h
  unfold aY at hf
  obtain⟨⟨r,e1⟩,h1,hf⟩:=KU hf
  obtain⟨e2,h2,hf⟩:=KW hf
  cases hf
  refine xJ hnd hW ⟨F,e,r,e1,R,h1,fun F1 H1 v X1 R1 A1=>?_⟩
  obtain⟨x,R2⟩:=vb R X1 R1 A1 h2
  exact q F1 H1 _ x R2
variable{o:Expr}{fo:FE}{apos cpos:Pos}
end
section
variable{X:Cx}{K:PySem.W.Frag}
def HN:List Int→Int
  | []=>0
  | x::r=>r.foldl max x
end
structure HD (f:Fr):Prop where
  pos:0 < f.2
  cop:Int.gcd f.1 f.2=1
def HL(t:om)(b:Bool):Fr:=if b then(t.top,t.bot) else(t.bot - t.top,t.bot)
abbrev Pg:=List Int × Int
def HP(t:om)(p:Pg):Bool:= !p.1.contains t.one&& !p.1.contains t.other
def GR(t:om)(p:Pg):Pg:=(p.1++[t.one,t.other],p.2+t.worth)
def HR(ps:List Pg)(t:om):List Pg:=ps++(ps.filter (HP t)).map (GR t)
def HQ(ts:List om):List Pg:=ts.foldl HR [([],0)]
structure Hr (k:Nat) (ps:List Pg):Prop where
  ne:ps≠[]
  len:ps.length≤2 ^ k
  pt:∀p∈ps,p.1.length≤2*k∧0≤p.2∧p.2≤1000*(k:Int)
def Hu(ts:List om):Int:=HN ((HQ ts).map (·.2))
section
variable{prog:Program}{w:World}{A:Around}{E:Value→Shared→Prop}{s:Shared}
end
section
variable{X:Cx}{a:Expr}{ta:TA}{p p2 pos pos2:Pos}
variable{K:PySem.W.Frag}{fs:FA}{p3:Pos}
end
def Fo(lo hi:Int):PyData→Bool
  | .int i=>decide (lo≤i)&&decide (i≤hi)
  | _=>false
theorem qE{α:Type}(p:α→Bool):∀(ds:List α),mQ (ds.map fun d=>PyData.bool (p d))=some (ds.map p)
  | []=>rfl
  | d::r=>by simp [mQ,qE p r]
theorem tj{α:Type}{e:En}(p:α→Bool)(ds:List α):g1 (jL lm) e [.l (ds.map fun d=>.bool (p d))]=some (.d (.bool (ds.all p))):=by
  simp [g1,jL,eO,lm,qE p,List.all_map]
theorem lI{α:Type}:∀(l:List α) (i:Nat) (h:i < l.length),(l[i]::l.eraseIdx i).Perm l
  | x::r,0,_=>.refl _
  | x::r,i+1,h=>(List.Perm.swap x _ _).trans ((lI r i (by simpa using h)).cons x)
  | [],_,h=>by simp at h
theorem cut_len{xs:List PyData}{lo hi:Option Int}:(cutD xs lo hi).length≤xs.length:=by
  unfold cutD
  rw [List.length_take,List.length_drop]
  lia
theorem mT{own:iM}{g:FG}{f:FS}{Z:Rv}(ok:PyData→Bool)(P Q:En→Prop):∀(items:List PyData) (e:En),(∀x∈items,∀e,P e→∃e1,g x e=some e1∧(ok x=true→∃e2,f e1=some (.nx e2)∧keeps own e2∧P e2)∧(ok x=false→∃e2,f e1=some (.rt Z e2)∧Q e2))→P e→
    (items.all ok=true→∃e',eX own g f items e=some (.nx e')∧P e')∧(items.all ok=false→∃e',eX own g f items e=some (.rt Z e')∧Q e')
  | [],e,_,h=>⟨fun _=>⟨e,rfl,h⟩,fun z=>by simp at z⟩
  | x::r,e,hs,h=>by
    obtain⟨e1,h1,h2,h3⟩:=hs x (by simp) e h
    rw [List.all_cons]
    cases c:ok x with
    | true=>
      obtain⟨e2,h4,h5,h6⟩:=h2 c
      have ih:=mT ok P Q r e2 (fun y hy=>hs y (by simp [hy])) h6
      rw [Bool.true_and]
      have e0:eX own g f (x::r) e=eX own g f r e2:=by
        simp only [eX,h1,h4,Option.bind_some]
        rw [if_pos h5]
      rw [e0]
      exact ih
    | false=>
      obtain⟨e2,h4,h5⟩:=h3 c
      refine⟨fun z=>by simp at z,fun _=>⟨e2,?_,h5⟩⟩
      simp only [eX,h1,h4,Option.bind_some]
mutual
def wt:PyData→Nat
  | .list xs=>Ab xs+1
  | .tuple xs=>Ab xs+1
  | .dict _=>1
  | .none=>1
  | .bool _=>1
  | .int _=>1
  | .str _=>1
def Ab:List PyData→Nat
  | []=>0
  | x::r=>wt x+Ab r
end
structure HV (d:PyData) (k:Nat):Prop where
  lay:d.canLay0=true
  sh:d.showable=true
  dp:d.depth≤k
  ln:d.shown.length+2≤104*wt d
  so:PyData.strOk d.shown=true
def HK:PyData→Bool
  | .tuple [.int t,.int b]=>decide (0≤t)&&(decide (t≤b)&&(decide (1≤b)&&(decide (b≤100)&&decide (Int.gcd t b=1))))
  | _=>false
def uh(n:Int):PyData→Bool
  | .tuple [.int a,.int b,c,w]=>decide (0≤a)&&(decide (a < b)&&(decide (b≤n - 1)&&(HK c&&Fo 0 1000 w)))
  | _=>false
theorem tu{e:En}{xs:List PyData}{neg:Bool}(hs:SeqAt.shaped (.tuple xs)=true):bv neg e (.d (.tuple xs)) (.d (.tuple []))=some (.d (.bool (if neg then !xs.isEmpty else xs.isEmpty))):=by
  unfold bv
  simp only [j8,Option.bind_some,hs]
  have h0:SeqAt.shaped (.tuple [])=true:=by simp [SeqAt.shaped,PyData.canLay0,PyData.canLayAll0,PyData.depth,PyData.depthAll]
  rw [h0]
  cases xs<;>simp [PyData.eqv,PyData.eqvAll]
section
variable{X:Cx}{K:PySem.W.Frag}
variable{a b:Expr}{fa fb:FE}{pos:Pos}
end
def tx(s:Str):List Nat:=s.cps.toList
def wx(i:Nat)(l:Int):Prop:=l= -1∨(i:Int) < l
def iU(T:List Nd):Prop:=∀(i:Nat) (x:Nd),T[i]?=some x→wx i x.yes∧wx i x.no
theorem wZ{ws:List Int}{k:Nat}{w v:Int}(hw:ws[k]?=some w)(hv:v∈ws):v=w∨v∈ws.eraseIdx k:=by
  obtain⟨hk,e⟩:=KY hw
  have:=(lI ws k hk).mem_iff (a:=v)
  rw [List.mem_cons,e] at this
  exact this.mpr hv
def rD(T:List Nd)(ws order:List Int):Prop:=∀(j:Nat) (w:Int),order[j]?=some w→∀l∈rV (bF T w),l∈ws∨∃j':Nat,j < j'∧order[j']?=some l
theorem rD.first{T:List Nd}{ws:List Int}:rD T ws []:=fun j w h=>by simp at h
theorem rD.turn{T:List Nd}{ws ws' order:List Int}{w:Int}(h:rD T ws order)(h1:∀v∈ws,v=w∨v∈ws')(h2:∀l∈rV (bF T w),l∈ws'):rD T ws' (order++[w]):=fun j u hj l hl=>by
  by_cases c:j < order.length
  · rw [List.getElem?_append_left c] at hj
    rcases h j u hj l hl with q | ⟨j',a,b⟩
    · rcases h1 l q with rfl | q
      · exact .inr ⟨order.length,c,by simp⟩
      · exact .inl q
    · exact .inr ⟨j',a,by rw [List.getElem?_append_left (KY b).1];exact b⟩
  · have hj':=(KY hj).1
    simp at hj'
    have:j=order.length:=by lia
    subst this
    simp at hj
    subst hj
    exact .inl (h2 l hl)
def lj(order nums:List Int)(i:Nat):Prop:=∀(j:Nat) (l:Int),j < i→order[j]?=some l→(j:Int)≤nums.getD l.toNat (-1)
theorem lj.first{order nums:List Int}:lj order nums 0:=fun j l h=>by lia
theorem lj.set{order nums:List Int}{i:Nat}{w:Int}(h:lj order nums i)(hw:order[i]?=some w)(hl:w.toNat < nums.length):lj order (nums.set w.toNat (i:Int)) (i+1):=fun j l hj e=>by
  rw [List.getD_eq_getElem?_getD]
  by_cases c:w.toNat=l.toNat
  · rw [←c,List.getElem?_set_self hl]
    show(j:Int)≤(i:Int)
    lia
  · rw [List.getElem?_set_ne c]
    by_cases d:j < i
    · have:=h j l d e
      rwa [List.getD_eq_getElem?_getD] at this
    · have:j=i:=by lia
      subst this
      rw [hw] at e
      cases e
      exact absurd rfl c
theorem xn{T:List Nd}{order nums:List Int}{W:aK}{S:Nat→Std}(h:dJ W T S)(ho:∀w∈order,0≤w∧w < (T.length:Int))(hn:jU order T.length nums)(hg:lj order nums order.length)(hw:rD T [] order):iU (order.map (renum T nums)):=fun j y hy=>by
  rw [List.getElem?_map] at hy
  obtain⟨w,hw2,rfl⟩:=KW hy
  obtain⟨a0,a1⟩:=ho w (K2 hw2)
  have o:=h _ _ (eM a0 a1)
  have key:∀l:Int,l=(bF T w).yes∨l=(bF T w).no→ -1≤l→l < (T.length:Int)→wx j (nm nums l):=fun l hl l0 l1=>by
    by_cases c:l= -1
    · left
      subst c
      unfold nm atI ma
      rw [if_neg (by decide),if_pos (by rw [hn.len];lia)]
      simp only [Option.bind_some]
      rw [show(-1+(nums.length:Int)).toNat=T.length by rw [hn.len];lia,hn.top]
      rfl
    · right
      have hm:l∈rV (bF T w):=by
        unfold rV
        rw [List.mem_filter]
        refine⟨?_,by simpa using c⟩
        rcases hl with rfl | rfl<;>simp
      rcases hw j w hw2 l hm with q | ⟨j',q1,q2⟩
      · cases q
      · have g:=hg j' l (KY q2).1 q2
        have e:nm nums l=nums.getD l.toNat (-1):=by
          unfold nm atI ma
          rw [if_pos (by lia),if_pos (by rw [hn.len];lia)]
          simp only [Option.bind_some,List.getD_eq_getElem?_getD]
        rw [e]
        lia
  exact⟨key _ (.inl rfl) o.yes.rng.1 o.yes.rng.2,key _ (.inr rfl) o.no.rng.1 o.no.rng.2⟩
section
variable{X:Cx}{K:PySem.W.Frag}{es:List Expr}{k0:Nat}{tp:Pos}{a b:Expr}{fs:FA}{p pos:Pos}
def n_(fs:FA):FI:=fun e=>(fs e).bind fun p=>match p.1 with
  | [.d (.tuple xs),.d (.tuple ys)]=>some (jT xs ys,[],p.2)
  | _=>none
theorem sy(hK:X.K=K)(hg:Gl X "zip")(hm:X.mg "zip"=none)(ha:PA X [a,b] (fA K fs))(hs:starEach [a,b] X.env=[(false,eval a X.env),(false,eval b X.env)])(hs2:starEach [b] X.env=[(false,eval b X.env)]):PI X (.Tuple es k0 tp) (.Call (.Name "zip" p) [a,b] [] pos) (fI K (n_ fs)):=
    (DY (es:=es) (k0:=k0) (tp:=tp) hK hg hm ha hs hs2).mono fun σ H R hh=>by
  obtain⟨F,e,items,own,e',R0,hf,q⟩:=hh
  unfold n_ at hf
  obtain⟨⟨rs,e1⟩,h1,hf⟩:=KU hf
  match rs,h1,hf with
  | [.d (.tuple xs),.d (.tuple ys)],h1,hf=>
  cases hf
  refine⟨F,e,_,e1,R0,h1,fun F1 H1 vs X1 R1 A1=>?_⟩
  obtain⟨v,u,rfl,a1,a2⟩:=oK A1
  obtain⟨p1,vs,rfl,s1,d1⟩:=dG.mp (show DA K F1 (.tuple xs) v from a1)
  obtain⟨p2,us,rfl,s2,d2⟩:=dG.mp (show DA K F1 (.tuple ys) u from a2)
  exact⟨p1,p2,rfl,⟨vs,R1.sm.tup s1⟩,⟨us,R1.sm.tup s2⟩,q _ F1 H1 X1 R1 (fun z hz=>by cases hz) (yt (own1:=[]) (own2:=[]) (P:=cS K) (Q:=cS K) (.tup s1 d1) (.tup s2 d2) (fun _ _ h=>h) (fun _ _ h=>h) (fun i H vs us x y h1 h2 h3 h4=>⟨vs,us,x,y,h1,h2,h3,h4⟩) (fun i H vs us h1 h2 h3=>⟨vs,us,h1,h2,h3⟩) fun i H v H' h=>h)⟩
end
def CA(x:Nd)(b:Bool):Int:=if b=true then x.yes else x.no
def jM(T:List Nd)(i:Nat)(b:Bool):Int:=match T[i]? with
  | some x=>CA x b
  | none=> -1
theorem bY{T:List Nd}{i:Nat}{x:Nd}{b:Bool}(h:T[i]?=some x):jM T i b=CA x b:=by unfold jM;rw [h]
theorem dc{T:List Nd}{i:Nat}{b:Bool}(h:T[i]?=none):jM T i b= -1:=by unfold jM;rw [h]
theorem yD{x:Nd}{s n:Int}{b:Bool}(hs:s=0∨s=1):CA (iy x s n) b=if b=(s==0) then n else CA x b:=by
  rcases hs with rfl | rfl<;>cases b<;>simp [CA,iy]
def uw(T:List Nd):Prop:=∀(i j:Nat) (a b:Bool),jM T i a=jM T j b→jM T i a≠ -1→i=j∧a=b
def Ca(w:Wt):Int × Int:=(w.par,w.side)
structure vx (T:List Nd) (ws:List Wt):Prop where
  unq:uw T
  rng:∀i a,jM T i a= -1∨(0 < jM T i a∧jM T i a < (T.length:Int))
  free:∀w∈ws,w.par= -1∨(0≤w.par∧w.par < (T.length:Int)∧jM T w.par.toNat (w.side==0)= -1)
  dst:(ws.map Ca).Nodup
  side:∀w∈ws,w.side=0∨w.side=1
theorem vx.first{s:Std}:vx [] [⟨s, -1,0⟩]:=⟨fun i j a b _ h=>absurd (dc (by simp)) h,fun i a=>.inl (dc (by simp)),fun w hw=>by simp at hw;subst hw;exact .inl rfl,by simp,fun w hw=>by simp at hw;subst hw;exact .inl rfl⟩
theorem vx.less{T:List Nd}{w:Wt}{ws:List Wt}(h:vx T (w::ws)):vx T ws:=⟨h.unq,h.rng,fun v hv=>h.free v (by simp [hv]),(List.nodup_cons.mp h.dst).2,fun v hv=>h.side v (by simp [hv])⟩
theorem yB{T:List Nd}{p s k:Int}{i:Nat}{a:Bool}(hs:s=0∨s=1)(hp:p= -1∨(0≤p∧p < (T.length:Int))):
    jM ((if 0≤p then T.modify p.toNat (fun x=>iy x s T.length) else T)++[⟨k, -1, -1⟩]) i a=if (i:Int)=p∧a=(s==0) then(T.length:Int) else jM T i a:=by
  generalize hT:(if 0≤p then T.modify p.toNat (fun x=>iy x s T.length) else T)=T'
  have len:T'.length=T.length:=by rw [←hT];split<;>simp
  by_cases c:i < T.length
  · have hx:T[i]?=some T[i]:=List.getElem?_eq_getElem c
    generalize T[i]=x at hx
    by_cases e:(i:Int)=p
    · have e2:p.toNat=i:=by lia
      have:(T'++[(⟨k, -1, -1⟩:Nd)])[i]?=some (iy x s T.length):=by
        rw [List.getElem?_append_left (by lia),←hT,if_pos (by lia),List.getElem?_modify,e2,hx]
        simp
      rw [bY this,yD hs,bY hx]
      simp [e]
    · have:(T'++[(⟨k, -1, -1⟩:Nd)])[i]?=some x:=by
        rw [List.getElem?_append_left (by lia),←hT]
        split
        · rw [List.getElem?_modify,hx]
          have:¬p.toNat=i:=by lia
          simp [this]
        · exact hx
      rw [bY this,bY hx,if_neg (fun z=>e z.1)]
  · rw [if_neg (fun z=>by lia),dc (T:=T) (List.getElem?_eq_none (by lia))]
    by_cases d:i=T.length
    · subst d
      rw [bY (x:=⟨k, -1, -1⟩) (by rw [List.getElem?_append_right (by lia),len];simp)]
      cases a<;>rfl
    · exact dc (List.getElem?_eq_none (by simp [len];lia))
theorem vx.more{T:List Nd}{w:Wt}{ws:List Wt}{k:Int}{s1 s2:Std}(h:vx T (w::ws)):
    vx ((if 0≤w.par then T.modify w.par.toNat (fun x=>iy x w.side T.length) else T)++[⟨k, -1, -1⟩]) (ws++[⟨s1,T.length,0⟩,⟨s2,T.length,1⟩]):=by
  have hs:=h.side w (by simp)
  have hp:w.par= -1∨(0≤w.par∧w.par < (T.length:Int)):=(h.free w (by simp)).imp id fun z=>⟨z.1,z.2.1⟩
  have F:=fun i a=>yB (T:=T) (k:=k) (i:=i) (a:=a) hs hp
  have len:((if 0≤w.par then T.modify w.par.toNat (fun x=>iy x w.side T.length) else T)++[(⟨k, -1, -1⟩:Nd)]).length=T.length+1:=by
    rw [List.length_append];split<;>simp
  generalize (if 0≤w.par then T.modify w.par.toNat (fun x=>iy x w.side T.length) else T)++[(⟨k, -1, -1⟩:Nd)]=T' at F len
  have hd:=h.dst
  rw [List.map_cons,List.nodup_cons] at hd
  refine⟨fun i j a b e n=>?_,fun i a=>?_,fun v hv=>?_,?_,fun v hv=>?_⟩
  · rw [F,F] at e
    rw [F] at n
    have r1:=h.rng i a
    have r2:=h.rng j b
    by_cases c1:(i:Int)=w.par∧a=(w.side==0)
    · by_cases c2:(j:Int)=w.par∧b=(w.side==0)
      · exact⟨by lia,by rw [c1.2,c2.2]⟩
      · rw [if_pos c1,if_neg c2] at e
        lia
    · by_cases c2:(j:Int)=w.par∧b=(w.side==0)
      · rw [if_neg c1,if_pos c2] at e
        lia
      · rw [if_neg c1,if_neg c2] at e
        rw [if_neg c1] at n
        exact h.unq i j a b e n
  · rw [F,len]
    split
    · rename_i c;right;lia
    · have:=h.rng i a;lia
  · rw [len]
    rcases KZ hv with hv | hv
    · rcases h.free v (by simp [hv]) with z | ⟨z1,z2,z3⟩
      · exact .inl z
      · refine .inr ⟨z1,by lia,?_⟩
        rw [F,if_neg ?_]
        · exact z3
        · intro ⟨c1,c2⟩
          refine hd.1 (List.mem_map.mpr ⟨v,hv,?_⟩)
          have e1:v.par=w.par:=by lia
          have e2:v.side=w.side:=by
            rcases h.side v (by simp [hv]) with q | q<;>rcases hs with r | r<;>rw [q,r] at c2 ⊢<;>simp at c2
          unfold Ca
          rw [e1,e2]
    · have:v.par=(T.length:Int):=by
        simp only [List.mem_cons,List.not_mem_nil,or_false] at hv
        rcases hv with rfl | rfl<;>rfl
      refine .inr ⟨by lia,by lia,?_⟩
      rw [this,F,if_neg (by lia)]
      exact dc (List.getElem?_eq_none (by simp))
  · rw [List.map_append,List.nodup_append]
    refine⟨hd.2,by simp [Ca],fun x hx y hy=>?_⟩
    obtain⟨v,hv,rfl⟩:=K0 hx
    have hv2:=h.free v (by simp [hv])
    intro e
    have:y.1=(T.length:Int):=by
      simp only [List.map_cons,List.map_nil,List.mem_cons,List.not_mem_nil,or_false,Ca] at hy
      rcases hy with rfl | rfl<;>rfl
    rw [←e] at this
    have:v.par=(T.length:Int):=this
    lia
  · rcases KZ hv with hv | hv
    · exact h.side v (by simp [hv])
    · simp only [List.mem_cons,List.not_mem_nil,or_false] at hv
      rcases hv with rfl | rfl
      · exact .inl rfl
      · exact .inr rfl
theorem rW{T:List Nd}{w l:Int}(h0:0≤w)(h1:w < (T.length:Int)):l∈rV (bF T w)↔ l≠ -1∧∃b,jM T w.toNat b=l:=by
  have hx:=eM h0 h1
  unfold rV
  rw [List.mem_filter]
  simp only [List.mem_cons,List.not_mem_nil,or_false,bne_iff_ne]
  constructor
  · rintro⟨rfl | rfl,n⟩
    · exact⟨n,true,bY hx⟩
    · exact⟨n,false,bY hx⟩
  · rintro⟨n,b,e⟩
    rw [bY hx] at e
    refine⟨?_,n⟩
    cases b
    · exact .inr e.symm
    · exact .inl e.symm
theorem wW{T:List Nd}{w:Int}(u:uw T)(h0:0≤w)(h1:w < (T.length:Int)):(rV (bF T w)).Nodup:=by
  have hx:=eM h0 h1
  have key:(bF T w).yes=(bF T w).no→(bF T w).yes= -1:=fun e=>by
    by_cases c:(bF T w).yes= -1
    · exact c
    · have e1:jM T w.toNat true=(bF T w).yes:=bY hx
      have e2:jM T w.toNat false=(bF T w).no:=bY hx
      have:=(u w.toNat w.toNat true false (by rw [e1,e2];exact e) (by rw [e1];exact c)).2
      cases this
  unfold rV
  by_cases c1:(bF T w).yes= -1
  · by_cases c2:(bF T w).no= -1<;>simp [c1,c2]
  · by_cases c2:(bF T w).no= -1
    · simp [c1,c2]
    · have:¬(bF T w).yes=(bF T w).no:=fun e=>c1 (key e)
      simp [c1,c2,this]
structure An (T:List Nd) (w0 ws order:List Int):Prop where
  nd:(order++ws).Nodup
  par:∀v∈order++ws,v=0∨∃u∈order,∃b,jM T u.toNat b=v∧v≠ -1
  fst:(order=[]∧ws=w0)∨order[0]?=some 0
theorem An.first{T:List Nd}{w0:List Int}(h:w0=[]∨w0=[0]):An T w0 w0 []:=by
  rcases h with rfl | rfl
  · exact⟨by simp,fun v hv=>by simp at hv,.inl ⟨rfl,rfl⟩⟩
  · exact⟨by simp,fun v hv=>by simp at hv;exact .inl hv,.inl ⟨rfl,rfl⟩⟩
theorem An.turn{T:List Nd}{w0 ws order:List Int}{k:Nat}{w:Int}(hw0:w0=[]∨w0=[0])(h:An T w0 ws order)(u:uw T)(rg:∀i a,jM T i a= -1∨(0 < jM T i a∧jM T i a < (T.length:Int)))(ho:∀v∈order++ws,0≤v∧v < (T.length:Int))(hw:ws[k]?=some w):An T w0 (ws.eraseIdx k++rV (bF T w)) (order++[w]):=by
  obtain⟨hk,e⟩:=KY hw
  have hwm:w∈ws:=K2 hw
  obtain⟨a0,a1⟩:=ho w (by simp [hwm])
  have pm:(order++[w]++ws.eraseIdx k).Perm (order++ws):=by
    rw [List.append_assoc]
    refine List.Perm.append_left _ ?_
    have:=lI ws k hk
    rw [e] at this
    exact this
  have nd:=h.nd
  refine⟨?_,fun v hv=>?_,?_⟩
  · rw [←List.append_assoc,List.nodup_append]
    refine⟨pm.nodup_iff.mpr nd,wW u a0 a1,fun x hx y hy e2=>?_⟩
    subst e2
    obtain⟨n,b,eb⟩:=(rW a0 a1).mp hy
    have hx':=pm.mem_iff.mp hx
    rcases h.par x hx' with z | ⟨v,hv,c,ec,_⟩
    · have:=rg w.toNat b;lia
    · have q:=(u v.toNat w.toNat c b (by rw [ec,eb]) (by rw [ec];exact n)).1
      obtain⟨v0,v1⟩:=ho v (by simp [hv])
      have:v=w:=by lia
      subst this
      rw [List.nodup_append] at nd
      exact nd.2.2 v hv v hwm rfl
  · rw [←List.append_assoc] at hv
    rcases KZ hv with hv | hv
    · rcases h.par v (pm.mem_iff.mp hv) with z | ⟨x,hx,b,q⟩
      · exact .inl z
      · exact .inr ⟨x,by simp [hx],b,q⟩
    · obtain⟨n,b,eb⟩:=(rW a0 a1).mp hv
      exact .inr ⟨w,by simp,b,eb,n⟩
  · right
    rcases h.fst with ⟨z1,z2⟩ | z
    · subst z1 z2
      rcases hw0 with q | q
      · rw [q] at hwm;cases hwm
      · rw [q] at hwm
        simp at hwm
        subst hwm
        rfl
    · rw [List.getElem?_append_left (KY z).1];exact z
def iV(T:List Nd):Prop:=uw T∧∀j:Nat,0 < j→j < T.length→∃i b,jM T i b=(j:Int)
theorem pG{order:List Int}(h:order.Nodup){i j:Nat}{w:Int}(hi:order[i]?=some w)(hj:order[j]?=some w):i=j:=by
  obtain⟨a,e1⟩:=KY hi
  obtain⟨b,e2⟩:=KY hj
  have pw:=List.pairwise_iff_getElem.mp h
  rcases Nat.lt_trichotomy i j with c | c | c
  · exact absurd (e1.trans e2.symm) (pw i j a b c)
  · exact c
  · exact absurd (e2.trans e1.symm) (pw j i b a c)
theorem vk{T:List Nd}{order nums w0:List Int}{W:aK}{S:Nat→Std}(h:dJ W T S)(u:uw T)(ho:∀w∈order,0≤w∧w < (T.length:Int))(hn:jU order T.length nums)(hg:lj order nums order.length)(hw:rD T [] order)(hr:An T w0 [] order):iV (order.map (renum T nums)):=by
  have nd:order.Nodup:=by have:=hr.nd;rwa [List.append_nil] at this
  have nmE:∀l:Int,0≤l→l < (T.length:Int)→nm nums l=nums.getD l.toNat (-1):=fun l l0 l1=>by
    unfold nm atI ma
    rw [if_pos l0,if_pos (by rw [hn.len];lia)]
    simp only [Option.bind_some,List.getD_eq_getElem?_getD]
  have nm1:nm nums (-1)= -1:=by
    unfold nm atI ma
    rw [if_neg (by decide),if_pos (by rw [hn.len];lia)]
    simp only [Option.bind_some]
    rw [show(-1+(nums.length:Int)).toNat=T.length by rw [hn.len];lia,hn.top]
    rfl
  have inv:∀(j:Nat) (l:Int),order[j]?=some l→nm nums l=(j:Int):=fun j l hj=>by
    obtain⟨l0,l1⟩:=ho l (K2 hj)
    have g:=hg j l (KY hj).1 hj
    rw [nmE l l0 l1]
    have hx:nums[l.toNat]?=some (nums.getD l.toNat (-1)):=by
      have:l.toNat < nums.length:=by rw [hn.len];lia
      simp [this]
    rcases hn.at' l.toNat _ (by lia) hx with z | ⟨p,z1,z2⟩
    · lia
    · rw [show((l.toNat:Nat):Int)=l by lia] at z2
      rw [z1,pG nd z2 hj]
  have lkR:∀(i:Nat) (w:Int) (b:Bool),order[i]?=some w→jM (order.map (renum T nums)) i b=nm nums (jM T w.toNat b):=fun i w b hi=>by
    obtain⟨a0,a1⟩:=ho w (K2 hi)
    rw [bY (x:=renum T nums w) (by rw [List.getElem?_map,hi];rfl),bY (eM a0 a1)]
    cases b<;>rfl
  have inO:∀(i:Nat) (w:Int) (b:Bool),order[i]?=some w→jM T w.toNat b≠ -1→∃p:Nat,order[p]?=some (jM T w.toNat b):=fun i w b hi n=>by
    obtain⟨a0,a1⟩:=ho w (K2 hi)
    rcases hw i w hi (jM T w.toNat b) ((rW a0 a1).mpr ⟨n,b,rfl⟩) with q | ⟨p,_,q⟩
    · cases q
    · exact⟨p,q⟩
  refine⟨fun i j a b e n=>?_,fun j j0 j1=>?_⟩
  · cases hi:order[i]? with
    | none=>exact absurd (dc (by rw [List.getElem?_map,hi];rfl)) n
    | some w=>
      cases hj:order[j]? with
      | none=>rw [dc (i:=j) (by rw [List.getElem?_map,hj];rfl)] at e;exact absurd e n
      | some v=>
        rw [lkR i w a hi] at e n
        rw [lkR j v b hj] at e
        have n1:jM T w.toNat a≠ -1:=fun z=>n (by rw [z,nm1])
        have n2:jM T v.toNat b≠ -1:=fun z=>n (by rw [e,z,nm1])
        obtain⟨p,hp⟩:=inO i w a hi n1
        obtain⟨q,hq⟩:=inO j v b hj n2
        rw [inv p _ hp,inv q _ hq] at e
        have:p=q:=by lia
        subst this
        rw [hp] at hq
        have e3:=Option.some.inj hq
        obtain⟨e4,e5⟩:=u w.toNat v.toNat a b e3 n1
        obtain⟨a0,a1⟩:=ho w (K2 hi)
        obtain⟨b0,b1⟩:=ho v (K2 hj)
        have:w=v:=by lia
        subst this
        exact⟨pG nd hi hj,e5⟩
  · rw [List.length_map] at j1
    have hj:order[j]?=some order[j]:=List.getElem?_eq_getElem j1
    generalize order[j]=v at hj
    have h0:order[0]?=some 0:=by
      rcases hr.fst with ⟨z,_⟩ | z
      · rw [z] at j1;simp at j1
      · exact z
    rcases hr.par v (by rw [List.append_nil];exact K2 hj) with z | ⟨x,hx,b,e,n⟩
    · subst z
      have:=pG nd h0 hj
      lia
    · obtain⟨i,hi⟩:=List.getElem?_of_mem hx
      exact⟨i,b,by rw [lkR i x b hi,e];exact inv j v hj⟩
theorem pJ{T:List Nd}(o:iU T){i:Nat}{x:Nd}(hx:T[i]?=some x)(b:Bool):wx i (CA x b):=by
  cases b
  · exact(o i x hx).2
  · exact(o i x hx).1
theorem nI{cs:En}{g g2:FG}{ft ft2:FT}{fi2:FI}{fe:FE}{f:PyData→List PyData}(n:Nat):∀(items:List PyData) (t:En) (acc:List PyData),t.length=n→(∀x∈items,(f x).length≤2)→(∀x∈items,∀(t:En) (acc:List PyData),t.length=n→acc.length+2≤1000000→∃e1 e2 its e3 t',g x (cs++t)=some e1∧ft e1=some (true,e2)∧fi2 e2=some (its,[],e3)∧cI g2 ft2 fe its e3 acc=some (acc++f x,cs++t')∧t'.length=n)→acc.length+2*items.length≤1000000→
    ∃t',t'.length=n∧js g ft fi2 g2 ft2 fe items (cs++t) acc=some (acc++items.flatMap f,cs++t')
  | [],t,acc,h,_,_,_=>⟨t,h,by simp [js]⟩
  | x::r,t,acc,h,hf,hs,hl=>by
    simp only [List.length_cons] at hl
    obtain⟨e1,e2,its,e3,t1,a1,a2,a3,a4,a5⟩:=hs x (by simp) t acc h (by lia)
    have:=hf x (by simp)
    obtain⟨t',b1,b2⟩:=nI n r t1 (acc++f x) a5 (fun y hy=>hf y (by simp [hy])) (fun y hy=>hs y (by simp [hy])) (by rw [List.length_append];lia)
    refine⟨t',b1,?_⟩
    unfold js
    simp only [a1,a2,a3,a4,b2,Option.bind_some,if_true,List.flatMap_cons,List.append_assoc]
theorem xI{cp:List (Nat × Str)}{nT:Nat}{fi fi2:FI}{g g2:FG}{ft ft2:FT}{fe:FE}{e e1 cs:En}{t t':En}{items out:List PyData}(h1:fi e=some (items,[],e1))(hc:mN cp nT e1=cs++t)(hl:cs.length=cp.length)(h3:js g ft fi2 g2 ft2 fe items (mN cp nT e1) []=some (out,cs++t')):nu cp nT fi g ft fi2 g2 ft2 fe e=some (.l out,e1):=by
  have key:=dQ (cp:=cp) (nT:=nT) (fi:=fun _=>some ([.none],[],e1)) (g:=fun _ _=>some (cs++t')) (ft:=fun e=>some (false,e)) (fe:=fe) (e:=e) (cs:=cs) (t:=t) (t':=t') (out:=[]) rfl hc hl rfl
  have c0:cI (fun _ _=>some (cs++t')) (fun e=>some (false,e)) fe [.none] (mN cp nT e1) []=some ([],cs++t'):=rfl
  unfold cQ at key
  unfold nu
  rw [h1]
  simp only [Option.bind_some,List.all_nil,if_true,h3,c0] at key ⊢
  split at key
  · rename_i q
    rw [if_pos q]
    have:=Option.some.inj key
    have e2:nq (mi cp) (cs++t') e1=e1:=(Prod.ext_iff.mp this).2
    rw [e2]
  · cases key
section
variable{prog:Program}{w:World}{A:Around}{E:Value→Shared→Prop}{s:Shared}
end
section
variable{X:Cx}{tg a:Expr}{ta:TA}{p pos:Pos}
end
section
variable{X:Cx}{K:PySem.W.Frag}{σ:L2.St}{tg a:Expr}{fs:FA}{p pos:Pos}
end
section
variable{X:Cx}{a k:Expr}{p2 pos:Pos}{fa fk:FE}{K:PySem.W.Frag}
section
variable{prog:Program}{w:World}{A:Around}{E:Value→Shared→Prop}{s:Shared}
end
end
def sA(a:Int)(n:Nat):List Int:=(List.range n).map fun(k:Nat)=>a+(k:Int)
theorem zv{a:Int}{n:Nat}:(sA a n).length=n:=by simp [sA]
section
variable{X:Cx}{a b:Expr}{ta:TA}{p p2 pos pos2:Pos}{K:PySem.W.Frag}{fs:FA}
theorem wF(hg:Gl X "range")(hm:X.mg "range"=none)(ha:PA X [a,b] ta)(hs:starEach [a,b] X.env=[(false,eval a X.env),(false,eval b X.env)])(hs2:starEach [b] X.env=[(false,eval b X.env)]){pins:List (Addr × Obj)}{s:Shared}{σ:L2.St}{H:Hp}{R:Int→Int→Hp→Prop}(I:aH X pins σ H s)(h:ta σ H fun vs H1=>∃i j:Int,vs=[.int i,.int j]∧R i j H1):
    wpAny (model X.prog X.w) X.A (eval (.Call (.Name "range" p) [a,b] [] pos) X.env) (fun v s1=>∃(r:Addr) (i j:Int) (H1:Hp) (t u w:Tok),v=.ref r∧IsRange s1.heap r i j 1 t u w∧r < s1.heap.objs.size∧aH X pins σ H1 s1∧R i j H1) X.xe s:=by
  refine Call_ (jy I hg hm boot_range (PyProof.Rows.callWith_type1 (bU (ha pos pins s σ H _ I h) fun us s1 ⟨vs,H1,I1,r1,q1⟩=>?_) (by rw [hs,hs2]) (by rw [hs2];rfl)))
  obtain⟨i,j,e,q⟩:=q1
  subst e
  cases r1 with
  | cons r rr=>
    cases rr with
    | cons r' rr=>
      cases rr
      obtain⟨t,rfl⟩:=r
      obtain⟨t',rfl⟩:=r'
      exact call_range_2 ⟨_,i,j,H1,_,_,_,rfl,IsRange.new ..,by simp [Heap.size_push],I1.kept fun b o e=>Heap.get?_push_of_some _ e,q⟩
def Hf(ta:TA):TE:=fun σ H Q=>ta σ H fun vs H1=>∃i j:Int,vs=[.int i,.int j]∧(0≤i∧i≤100000∧0≤j∧j≤100000∧∀l,H1 l=none→Q (.ref l) (be H1 l (.lst ((sA i (j - i).toNat).map V.int))))
theorem qh(hc:X.calm=true)(hgl:Gl X "list")(hml:X.mg "list"=none)(hg:Gl X "range")(hm:X.mg "range"=none)(ha:PA X [a,b] ta)(hs:starEach [a,b] X.env=[(false,eval a X.env),(false,eval b X.env)])(hs2:starEach [b] X.env=[(false,eval b X.env)])
    (he:starEach [.Call (.Name "range" p) [a,b] [] pos] X.env=(false,eval (.Call (.Name "range" p) [a,b] [] pos) X.env)::starEach [] X.env):PE X (.Call (.Name "list" p2) [.Call (.Name "range" p) [a,b] [] pos] [] pos2) (Hf ta):=by
  intro pins s σ H Q I h
  refine wpAny_Call_Name_kw (jy I hgl hml PyProof.Rows.boot_list ?_ (by decide) (by decide))
  refine PyProof.Rows.callWith_type1 ?_ he rfl
  rw [he]
  refine Calls.spliced_cons (bU (wF hg hm ha hs hs2 I h) fun u s1 ⟨r,i,j,H1,t,u1,w,e,hr,lt,I1,i0,i1,j0,j1,q⟩=>?_)
  subst e
  refine wpAny_pure ?_
  have hsm:Builtin.Range.small i j 1=true:=small_one (by lia) (by lia) (by lia) (by lia)
  refine call_list_range (n:=(j - i).toNat) (I1.ok.hd hc) hr hsm (by rw [rangeSize_one];split<;>lia) (Nat.le_trans (show(j - i).toNat≤100000 by lia) (by decide)) fun h' tk acc c hk hD hI=>?_
  have hf:H1 s1.heap.objs.size=none:=I1.hok.fresh (Nat.le_refl _)
  have vv:aW ((sA i (j - i).toNat).map V.int) acc.toList:=by
    have z:=wq acc.toList (fun k=>i+(k:Int)) fun k v e=>by
      obtain⟨t,ht⟩:=hI.2 k v (by simpa using e)
      exact⟨t,by rw [ht];simp⟩
    rw [Array.length_toList,hI.1] at z
    rw [sA,List.map_map]
    exact z
  refine⟨.ref s1.heap.objs.size,_,I1.laid (o:=.lst ((sA i (j - i).toNat).map V.int)) hk (Nat.le_refl _) ⟨?_,acc.toList,c,vv,by simpa using hD⟩,rfl,q _ hf⟩
  rw [List.length_map,zv,sizeLine_eq];lia
def kO(fs:FA):FE:=fun e=>(fs e).bind fun p=>match p.1 with
  | [r,t]=>(bz r).bind fun i=>(bz t).bind fun j=>if 0≤i∧i≤100000∧0≤j∧j≤100000 then some (.l ((sA i (j - i).toNat).map .int),p.2) else none
  | _=>none
theorem su(hc:X.calm=true)(hgl:Gl X "list")(hml:X.mg "list"=none)(hg:Gl X "range")(hm:X.mg "range"=none)(ha:PA X [a,b] (fA K fs))(hs:starEach [a,b] X.env=[(false,eval a X.env),(false,eval b X.env)])(hs2:starEach [b] X.env=[(false,eval b X.env)])
    (he:starEach [.Call (.Name "range" p) [a,b] [] pos] X.env=[(false,eval (.Call (.Name "range" p) [a,b] [] pos) X.env)]):PE X (.Call (.Name "list" p2) [.Call (.Name "range" p) [a,b] [] pos] [] pos2) (fE K (kO fs)):=(qh hc hgl hml hg hm ha hs hs2 he).mono fun σ H Q h=>by
  obtain⟨F,e,z,e',R,hf,q⟩:=h
  unfold kO at hf
  obtain⟨⟨rs,e1⟩,h1,hf⟩:=KU hf
  match rs,h1,hf with
  | [r,t],h1,hf=>
  obtain⟨i,h2,hf⟩:=KU hf
  obtain⟨j,h3,hf⟩:=KU hf
  split at hf
  case isFalse=>cases hf
  case isTrue hj=>
  cases hf
  refine⟨F,e,_,e1,R,h1,fun F1 H1 vs X1 R1 A1=>?_⟩
  obtain⟨v,u,rfl,A2,A3⟩:=oK A1
  refine⟨i,j,by rw [bw A2 h2,bw A3 h3],hj.1,hj.2.1,hj.2.2.1,hj.2.2.2,fun t ht=>?_⟩
  obtain⟨R3,X3,hF,no⟩:=R1.newL (vs:=(sA i (j - i).toNat).map V.int) ht
  exact q _ _ _ (X1.trans X3) R3 ⟨t,_,rfl,X1.dom _ ht,hF,ay,aS.ints.mpr rfl,no⟩
end
section
variable{X:Cx}{o i e:Expr}{fo fi:FE}{tpos pos:Pos}{K:PySem.W.Frag}
def FY(K:PySem.W.Frag):V→V→Hp→VK→Prop:=fun x y H Q=>∃p xs i v,x=.ref p∧y=.int i∧0≤i∧gH K H p xs∧xs[i.toNat]?=some v∧Q v H
theorem wM:ET X (FY X.K):=by
  intro pins s σ H o i ov iv Q I ro ri h
  obtain⟨p,xs,k,z,rfl,rfl,k0,hq,he,q⟩:=h
  cases ro
  obtain⟨t,rfl⟩:=ri
  obtain⟨its,r,pl,hz⟩:=I.list hq
  obtain⟨w,ew,rw'⟩:=r.get he
  have hl:=r.length
  have hn:=pv
  have:=(KY he).1
  exact wpAny_getItem_list pl.isList k0 (by lia) (by simpa using ew) ⟨z,H,I,rw',q⟩
def wd(fo fi:FE)(c:Int):FS:=fun e=>(fo e).bind fun o=>(fi o.2).bind fun i=>(bz i.1).bind fun k=>(iS i.2 o.1).bind fun s=>if 0≤k then
    match s.2[k.toNat]? with
    | some (.int x)=>some (.nx (i.2.set s.1 (some (.l (s.2.set k.toNat (.int (x+c)))))))
    | _=>none
  else none
theorem BL{c:Int}(ho:PE X o (fE K fo))(hi:PE X i (fE K fi))(he:PE X e (fE K (vC (.int c))))(hK:X.K=K)
    (ha:∀ov iv new,augStore i ov iv new=(do holding [new,ov,iv] (setItem ov iv new);release [new,ov,iv] [];pure .next)):PS X (.AugAssign (.Subscript o i tpos) .Add e pos) (fS K (wd fo fi c) []):=(BC ho hi (hK ▸ wM) he Dg pX ha).mono fun D σ H h=>by
  obtain⟨F,e,fl,R,hf,q⟩:=h
  unfold wd at hf
  obtain⟨⟨ro,e2⟩,g3,hf⟩:=KU hf
  obtain⟨⟨ri,e3⟩,g4,hf⟩:=KU hf
  obtain⟨k,g5,hf⟩:=KU hf
  obtain⟨⟨n,xs⟩,g6,hf⟩:=KU hf
  split at hf
  case isFalse=>cases hf
  case isTrue k0=>
  split at hf
  case h_2=>cases hf
  case h_1 x g7=>
  cases hf
  obtain⟨z6,g6'⟩:=m_ g6
  dsimp only at z6 g6' g7
  subst z6
  refine⟨F,e,_,e2,R,g3,fun F2 H2 u X2 R2 A2=>⟨F2,e2,ri,e3,R2,g4,fun F3 H3 w X3 R3 A3=>?_⟩⟩
  obtain⟨h1,_⟩:=A2
  obtain⟨l,vs,k1,k2,k3,k4⟩:=R3.own n xs g6'
  rw [h1] at k1;cases k1
  obtain⟨v,hv,dv⟩:=k4.get g7
  have hv2:v=V.int x:=by simpa only [DA] using dv
  subst hv2
  refine⟨l,vs,k,_,rfl,bw A3 g5,k0,.inl (.inl k3),hv,F3,e3,.d (.int c),e3,R3,rfl,fun F4 H4 y X4 R4 A4=>?_⟩
  have hy:y=V.int c:=bw A4 rfl
  subst hy
  refine⟨x,c,rfl,rfl,?_⟩
  obtain⟨l',vs',j1,j2,j3,j4⟩:=R4.own n xs g6'
  rw [h1] at j1;cases j1
  have hlt:=(KY g7).1
  have hix:ma vs'.length k=some k.toNat:=by
    rw [←j4.len]
    unfold ma
    rw [if_pos k0,if_pos (by lia)]
  refine⟨l,vs',k,k.toNat,rfl,bw A3 g5,j3,hix,?_⟩
  obtain⟨R5,X5⟩:=R4.putL g6' h1 (j4.set (d:=.int (x+c)) (v:=V.int (x+c)) (by simp only [DA]) k.toNat)
  exact q _ _ σ (((X2.trans X3).trans X4).trans X5).s R5
end
section
variable{X:Cx}{K:PySem.W.Frag}
end
section
open PySem.MeetsSeq2 PySem.AutoSeq1 PySem.SeqAt
end
section
variable{X:Cx}{K:PySem.W.Frag}{o a:Expr}{to te:TE}{name:Str}{apos cpos:Pos}{T id:String}{r:V→List V→Hp→VK→Prop}{fo fa:FE}
def gC(ns:List Int)(k:Int):Option Nat:=some (ns.count k)
end
section
variable{X:Cx}{K:PySem.W.Frag}{o a:Expr}{apos cpos:Pos}{fo fa:FE}
end
section
variable{K:PySem.W.Frag}{F H:Hp}{σ:L2.St}{e:En}{cp:List (Nat × Str)}{nT:Nat}
end
section
variable{X:Cx}{K:PySem.W.Frag}{a b:Expr}{es:List Expr}{fa fb:FE}{fs:FA}{pos p p2 p3:Pos}{lo hi:Option Expr}
end
section
variable{X:Cx}{K:PySem.W.Frag}
end
section
variable{X:Cx}{K:PySem.W.Frag}{a b:Expr}{fa fb:FE}{pos:Pos}
end
section
variable{X:Cx}{K:PySem.W.Frag}
theorem sV{prog:Program}{w:World}{A:Around}{E:Value→Shared→Prop}{s:Shared}{t:Addr}{vs:List Value}{Q:List Value→Shared→Prop}(ht:s.heap.IsList t vs.toArray)
    (h:Q vs {s with heap:=(s.heap.push (seqObj "list" #[] 0)).update s.heap.objs.size (Obj.mapSeq (· ++vs.toArray))})(hsz:vs.length≤sizeLine):wpAny (model prog w) A (collect (.ref t)) Q E s:=by
  obtain⟨o,ho,hc,n,hd⟩:=id ht;unfold collect;refine wpAny_bind (wpAny_runValue (codeAny_builtin entry_proto_collect' ?_))
  show wpAny _ _ (do again (.builtin "list.__iadd__" ⟨[←newList [],.ref t],[]⟩)) _ _ s
  refine wpAny_bind (wpAny_newList (wpAny_pure ⟨Code.quiet_builtin _ (by decide+kernel),?_⟩));refine codeAny_builtin entry_list_iadd' ?_
  show wpAny _ _ (Builtin.List.listExtendWith (.ref s.heap.objs.size) (.ref t) (.ref s.heap.objs.size)) _ _ {s with heap:=s.heap.push (seqObj "list" #[] 0)}
  unfold Builtin.List.listExtendWith;have ho':(s.heap.push (seqObj "list" #[] 0)).get? t=some o:=Heap.get?_push_of_some _ ho
  refine wpAny_bind (wpAny_typeOf (T:="list") ⟨o,ho',hc⟩ ?_)
  rw [if_pos (by rw [show(Value.type "list"==Value.type "list")=true from rfl,Bool.or_true,Bool.true_or])]
  refine wpAny_bind (listItems_at ho' hd ?_);refine wpAny_bind (listItems_at (xs:=#[]) (n:=0) (Heap.get?_push_size _ rfl) rfl ?_)
  rw [if_neg (by simp)];refine wpAny_bind (listUpdate_at (xs:=#[]) (n:=0) (Heap.get?_push_size _ rfl) rfl ?_ (Nat.zero_le _) (by show(#[]++vs.toArray).size≤sizeLine+1;simp only [Array.size_append,List.size_toArray,List.length_nil];lia))
  refine wpAny_pure ?_
  show wpAny (model prog w) A (load s.heap.objs.size >>= fun o=>match o.data with | .seq xs _=>pure xs.toList | _=>unsupported "internal:collect") Q E {s with heap:=(s.heap.push (seqObj "list" #[] 0)).update s.heap.objs.size (Obj.mapSeq (· ++vs.toArray))}
  refine wpAny_bind (wpAny_load (get?_update_seq (Heap.get?_push_size _ rfl) _) ?_);show wpAny _ _ (pure ((#[]:Array Value)++vs.toArray).toList) Q E _;rw [show((#[]:Array Value)++vs.toArray).toList=vs by simp];exact wpAny_pure h
theorem vf{prog:Program}{w:World}{A:Around}{E:Value→Shared→Prop}{s:Shared}{t:Addr}{vs:List Value}{ns:List Int}{Q:Value→Shared→Prop}(ht:s.heap.IsList t vs.toArray)(hI:IntsAre vs ns)(h64:vs.length < 64)
    (h:∀(out:Array Value) (ns':List Int),IntsAre out.toList ns'→ns'.Perm ns→ns'.Pairwise (· ≤·)→Q (.ref (s.heap.objs.size+1)) {s with heap:=sortedAll s.heap vs out}):wpAny (model prog w) A (call (.builtin "sorted") [.ref t]) Q E s:=by
  refine Calls.call_function_entry kind_sorted plain_sorted entry_sorted (args_sorted1 _) ?_;unfold Builtin.«sorted»
  refine wpAny_bind (m:=checkCount "sorted" 1 1 _) (wpAny_pure ?_);refine wpAny_bind (sV ht ?_ (Nat.le_trans (Nat.le_of_lt h64) (by decide)))
  have z:((s.heap.push (seqObj "list" #[] 0)).update s.heap.objs.size (Obj.mapSeq (· ++vs.toArray))).objs.size=s.heap.objs.size+1:=by rw [Heap.size_update,size_push']
  have o:(((s.heap.push (seqObj "list" #[] 0)).update s.heap.objs.size (Obj.mapSeq (· ++vs.toArray))).push (seqObj "list" vs.toArray 0)).get? (s.heap.objs.size+1)=some (seqObj "list" vs.toArray 0):=by rw [←z];exact Heap.get?_push_size _ rfl
  refine wpAny_bind (wpAny_newList ?_);show wpAny _ _ _ _ _ {s with heap:=((s.heap.push (seqObj "list" #[] 0)).update s.heap.objs.size (Obj.mapSeq (· ++vs.toArray))).push (seqObj "list" vs.toArray 0)}
  rw [z];refine wpAny_bind (wpAny_holding (wpAny_call_entry slot_list_sort ⟨_,o,rfl⟩ entry_list_sort (list_sort_tree o hI h64 fun out ns' b1 b2 b3=>⟨_,rfl,?_⟩) (args_list_sort _)))
  exact wpAny_pure ⟨_,rfl,h out ns' b1 b2 b3⟩
theorem rJ:d_ X (.builtin "sorted") (fun xs H Q=>∃(a:Addr) (ns:List Int),xs=[.ref a]∧gH X.K H a (ns.map V.int)∧ns.length < 64∧∀(l:Addr) (ns':List Int) (H':Hp),aD H H'→H l=none→H' l=some (.lst (ns'.map V.int))→ns'.Perm ns→ns'.Pairwise (· ≤·)→Q (.ref l) H'):=by
  intro pins s σ H xs us Q I r h
  obtain⟨a,ns,rfl,hs,h64,q⟩:=h
  obtain⟨u,rfl,ru⟩:=mY r
  cases ru
  obtain⟨its,rv,p,hz⟩:=I.list hs
  have hl:=rv.length
  rw [List.length_map] at hl
  refine vf p.isList (pj rv) (by lia) fun out ns' a1 a2 a3=>?_
  obtain⟨e,he⟩:=sortedAll_at s.heap its out
  have hf:H (s.heap.objs.size+1)=none:=I.hok.fresh (Nat.le_succ _)
  refine⟨.ref (s.heap.objs.size+1),be H (s.heap.objs.size+1) (.lst (ns'.map V.int)),I.laid (t':=s.toks) (fun _ _=>sortedAll_old) (Nat.le_succ _) ⟨?_,out.toList,e,lc a1,?_⟩,rfl,q _ ns' _ (aD.new hf) hf ay a2 a3⟩
  · rw [List.length_map,a2.length_eq]
    exact Nat.le_trans (Nat.le_of_lt h64) (by decide)
  · simpa [seqObj] using he
def c_:En→Rv→Option Rv:=fun e x=>(eO e x).bind fun z=>(eU z.2).bind fun ns=>if ns.length < 64 then some (.l ((eV ns).map .int)) else none
def zt(K:PySem.W.Frag):List V→Hp→VK→Prop:=fun xs H Q=>∃(a:Addr) (ns:List Int),xs=[.ref a]∧(gH K H a (ns.map V.int)∨cS K H a (ns.map V.int))∧ns.length < 64∧∀(l:Addr) (H':Hp),aD H H'→H l=none→H' l=some (.lst ((eV ns).map V.int))→Q (.ref l) H'
theorem uE:d_ X (.builtin "sorted") (zt X.K):=by
  intro pins s σ H xs us Q I rv h
  obtain⟨a,ns,e1,e2,e3,q⟩:=h
  rcases e2 with e2 | e2
  · exact rJ pins s σ H xs us Q I rv ⟨a,ns,e1,e2,e3,fun l ns' H' sm hn hl hp hs=>q l H' sm hn (by rw [←mL hp hs];exact hl)⟩
  · exact nH pins s σ H xs us Q I rv ⟨a,ns,e1,e2,e3,fun l ns' H' sm hn hl hp hs=>q l H' sm hn (by rw [←mL hp hs];exact hl)⟩
theorem BV:eR K (zt K) (g1 c_):=iz fun σ H0 F H e x z v Q R A hg q=>by
  unfold c_ at hg
  obtain⟨⟨b,ds⟩,h1,hg⟩:=KU hg
  obtain⟨ns,h6,hg⟩:=KU hg
  split at hg
  case isFalse=>cases hg
  case isTrue hl=>
  cases hg
  obtain⟨p,vs,rfl,d1,s1⟩:=dX R A h1
  have e1:ds=ns.map .int:=pk h6
  subst e1
  have e2:=aS.ints.mp d1
  subst e2
  refine⟨p,ns,rfl,?_,hl,fun l H' sm hn hl'=>?_⟩
  · cases b with
    | true=>exact .inl s1
    | false=>exact .inr s1
  obtain⟨R4,X4⟩:=R.same sm
  exact q F H' _ X4 R4 ⟨l,_,rfl,hn,R.freeF hn,hl',aS.ints.mpr rfl,fun z=>R.ownH l ((R.sameOwn sm l).mp z) hn⟩
theorem lR(hK:X.K=K):oR X K "sorted" (g1 c_):=⟨.inl ⟨_,_,hK ▸ uE,BV,PyProof.Rows.boot_sorted⟩⟩
theorem yk{e:En}{i:Nat}{ns:List Int}(hi:e[i]?=some (some (.l (ns.map .int))))(h:ns.length < 64):g1 c_ e [.s i]=some (.l ((eV ns).map .int)):=by
  simp [g1,c_,eO,hi,du,h]
theorem l8{e:En}{ns:List Int}(h:ns.length < 64):g1 c_ e [.d (.tuple (ns.map .int))]=some (.l ((eV ns).map .int)):=by
  simp [g1,c_,eO,du,h]
end
structure Sw (b:Bool) (n dep:Nat) (d:PyData):Prop where
  dl:bif b then yK d=true else d.hasDict=false
  sh:d.showable=true
  dp:d.depth≤dep
  ln:d.shown.length+2≤n
  so:PyData.strOk d.shown=true
structure S1 (n:Nat) (f:Fr):Prop where
  low:HD f
  lo:0≤f.1
  hi:f.1≤f.2
  bt:Bt n f.2
structure HX (b f g:Fr):Prop where
  pf:0 < f.2
  pg:0 < g.2
  eq:g.1*(f.2*b.1)=g.2*(f.1*b.2)
def vR(f:Fr):Rat:=(f.1:Rat) / (f.2:Rat)
def cR(t:om)(b:Bool):Rat:=vR (HL t b)
theorem Aq{a:List Int}{k q:Int}:q∈aK.askd a k↔ q∈a∨q=k:=by
  unfold aK.askd
  rw [(iq _).mem_iff,List.mem_append]
  simp
theorem Dq{W:aK}{n:Nat}{S:Nat→Std}{i:Nat}{x:Nd}(h:rC W n S i x)(b:Bool):lN W n S i x.tie b (CA x b):=by
  cases b
  · exact h.no
  · exact h.yes
theorem Br{l m:List Int}(hl:l.Nodup)(hm:m.Nodup)(h:∀x,x∈l↔ x∈m):l.Perm m:=by
  induction l generalizing m with
  | nil=>
    cases m with
    | nil=>exact .refl _
    | cons y r=>exact absurd ((h y).mpr (by simp)) (by simp)
  | cons x r ih=>
    have hx:x∈m:=(h x).mp (by simp)
    have nd:=List.nodup_cons.mp hl
    refine List.Perm.trans (.cons x (ih nd.2 (hm.erase x) fun y=>?_)) (List.perm_cons_erase hx).symm
    rw [hm.mem_erase_iff]
    constructor
    · intro hy
      exact⟨fun e=>nd.1 (e ▸ hy),(h y).mp (by simp [hy])⟩
    · rintro⟨ne,hy⟩
      rcases K1 ((h y).mpr hy) with e | e
      · exact absurd e ne
      · exact e
def yC(T:List Nd)(i:Nat):List Int:=(if jM T i true= -1 then [] else [jM T i true])++(if jM T i false= -1 then [] else [jM T i false])
def pz(T:List Nd):Nat→List Int
  | 0=>[]
  | m+1=>pz T m++yC T m
theorem md{T:List Nd}{i:Nat}{y:Int}:y∈yC T i↔ y≠ -1∧∃b,jM T i b=y:=by
  unfold yC
  rw [List.mem_append]
  constructor
  · rintro(h | h)
    · split at h
      · cases h
      · rename_i c;simp at h;subst h;exact⟨c,true,rfl⟩
    · split at h
      · cases h
      · rename_i c;simp at h;subst h;exact⟨c,false,rfl⟩
  · rintro⟨ne,b,rfl⟩
    cases b
    · right;rw [if_neg ne];simp
    · left;rw [if_neg ne];simp
theorem wV{T:List Nd}(u:uw T)(i:Nat):(yC T i).Nodup:=by
  unfold yC
  split
  · split<;>simp
  · rename_i c
    split
    · simp
    · simp only [List.cons_append,List.nil_append,List.nodup_cons,List.mem_cons,List.not_mem_nil,or_false,not_false_eq_true,List.nodup_nil,and_true]
      intro e
      have:=u i i true false e c
      cases this.2
theorem oH{T:List Nd}{y:Int}:∀m,y∈pz T m↔ ∃i,i < m∧y∈yC T i
  | 0=>by simp [pz]
  | m+1=>by
    rw [pz,List.mem_append,oH m]
    constructor
    · rintro(⟨i,hi,h⟩ | h)
      · exact⟨i,by lia,h⟩
      · exact⟨m,by lia,h⟩
    · rintro⟨i,hi,h⟩
      by_cases c:i=m
      · subst c;exact .inr h
      · exact .inl ⟨i,by lia,h⟩
theorem qP{T:List Nd}(u:uw T):∀m,(pz T m).Nodup
  | 0=>List.nodup_nil
  | m+1=>by
    rw [pz,List.nodup_append]
    refine⟨qP u m,wV u m,fun a ha b hb e=>?_⟩
    subst e
    obtain⟨i,hi,hm⟩:=(oH m).mp ha
    obtain⟨ne,b1,e1⟩:=md.mp hm
    obtain⟨_,b2,e2⟩:=md.mp hb
    have:=(u i m b1 b2 (by rw [e1,e2]) (by rw [e1];exact ne)).1
    lia
theorem yA{T:List Nd}{W:aK}{S:Nat→Std}(h:dJ W T S)(o:iU T)(t:iV T):(0::pz T T.length).Perm ((List.range (max 1 T.length)).map Int.ofNat):=by
  have lt:∀i b,jM T i b≠ -1→0 < jM T i b∧jM T i b < (T.length:Int):=fun i b ne=>by
    cases hx:T[i]? with
    | none=>exact absurd (dc hx) ne
    | some x=>
      rw [bY hx] at ne ⊢
      have r:=(Dq (h i x hx) b).rng
      have:=pJ o hx b
      rcases this with z | z
      · exact absurd z ne
      · lia
  refine Br (List.nodup_cons.mpr ⟨fun hm=>?_,qP t.1 _⟩) ?_ fun y=>?_
  · obtain⟨i,_,hi⟩:=(oH _).mp hm
    obtain⟨ne,b,e⟩:=md.mp hi
    have:=lt i b (by rw [e];exact ne)
    lia
  · exact List.Pairwise.map _ (fun a b hab e=>hab (Int.ofNat.inj e)) List.nodup_range
  · rw [List.mem_cons,oH,List.mem_map]
    constructor
    · rintro(rfl | ⟨i,_,hi⟩)
      · exact⟨0,by simp;lia,rfl⟩
      · obtain⟨ne,b,e⟩:=md.mp hi
        have:=lt i b (by rw [e];exact ne)
        refine⟨y.toNat,by simp;lia,?_⟩
        show(y.toNat:Int)=y
        lia
    · rintro⟨j,hj,rfl⟩
      by_cases c:j=0
      · left;subst c;rfl
      · right
        have hj':j < T.length:=by simp at hj;lia
        obtain⟨i,b,e⟩:=t.2 j (by lia) hj'
        have ne:jM T i b≠ -1:=by rw [e];lia
        have il:i < T.length:=by
          by_cases z:i < T.length
          · exact z
          · exact absurd (dc (List.getElem?_eq_none (by lia))) ne
        exact⟨i,il,md.mpr ⟨by show(j:Int)≠ -1;lia,b,e⟩⟩
def hR(t:om):Rat:=cR t true*(t.worth:Rat)
structure Ci (O:aK) (ss ws:List Std):Prop where
  len:ss.length=ws.length
  at':∀j,(ss.getD j ([],[])).1=(ws.getD j ([],[])).1∧(ss.getD j ([],[])).2.length≤2*(ss.getD j ([],[])).1.length∧∀k∈(ss.getD j ([],[])).1,jK O k
theorem zV{W:aK}{t:List Int}{k:Int}{b:Bool}:(W.took t k b).length≤t.length+2:=by
  unfold aK.took
  split
  · rw [(iq _).length_eq];simp
  · lia
theorem o8{α:Type}{l:List α}{i j:Nat}{v d:α}(hi:i < l.length):(l.set i v).getD j d=if j=i then v else l.getD j d:=by
  simp only [List.getD_eq_getElem?_getD]
  by_cases e:j=i
  · subst e;rw [if_pos rfl,List.getElem?_set_self hi];rfl
  · rw [if_neg e,List.getElem?_set_ne (fun z=>e z.symm)]
theorem Ci.stp{O W:aK}{ss ws:List Std}{i:Nat}{k:Int}{b:Bool}{l:Int}(h:Ci O ss ws)(hk:jK O k)(hl: -1≤l∧l < (ss.length:Int)):Ci O (L2.stp O ss i k b l) (L2.stp W ws i k b l):=by
  unfold L2.stp
  by_cases c:l= -1
  · rw [if_pos c,if_pos c];exact h
  · rw [if_neg c,if_neg c]
    have hl':l.toNat < ss.length:=by lia
    refine⟨by rw [List.length_set,List.length_set];exact h.len,fun j=>?_⟩
    rw [o8 hl',o8 (by rw [←h.len];exact hl')]
    by_cases e:j=l.toNat
    · rw [if_pos e,if_pos e]
      obtain⟨a1,a2,a3⟩:=h.at' i
      refine⟨?_,?_,fun q hq=>?_⟩
      · show aK.askd _ k=aK.askd _ k
        rw [a1]
      · have l1:(nxt O (ss.getD i ([],[])) k b).2.length≤(ss.getD i ([],[])).2.length+2:=zV
        have l2:(nxt O (ss.getD i ([],[])) k b).1.length=(ss.getD i ([],[])).1.length+1:=iW
        lia
      · rcases Aq.mp hq with z | z
        · exact a3 q z
        · rw [z];exact hk
    · rw [if_neg e,if_neg e]
      exact h.at' j
structure Cg (O:aK) (T:List Nd):Prop where
  tie:∀(i:Nat) (x:Nd),T[i]?=some x→jK O x.tie
  lk:∀(i:Nat) (x:Nd),T[i]?=some x→(-1≤x.yes∧x.yes < (T.length:Int))∧(-1≤x.no∧x.no < (T.length:Int))
theorem jg{W:aK}{T:List Nd}:∀m,(aC W T m).length=T.length
  | 0=>by simp [aC]
  | m+1=>by
    rw [aC]
    cases h:T[m]? with
    | none=>exact jg m
    | some x=>simp only [std1,k_];exact jg m
theorem Ci.all{O W:aK}{T:List Nd}(h:Cg O T):∀m,Ci O (aC O T m) (aC W T m)
  | 0=>⟨by simp [aC],fun j=>by
    have e:(aC O T 0).getD j ([],[])=([],[]):=by
      rw [aC,List.getD_eq_getElem?_getD,List.getElem?_replicate];split<;>rfl
    have e2:(aC W T 0).getD j ([],[])=([],[]):=by
      rw [aC,List.getD_eq_getElem?_getD,List.getElem?_replicate];split<;>rfl
    rw [e,e2]
    exact⟨rfl,Nat.le_refl _,fun k hk=>by cases hk⟩⟩
  | m+1=>by
    have ih:=Ci.all (W:=W) h m
    cases hx:T[m]? with
    | none=>rw [aC,aC,hx];exact ih
    | some x=>
      rw [kM hx,kM hx]
      have l:=h.lk m x hx
      have sl:=jg (W:=O) (T:=T) m
      exact(ih.stp (h.tie m x hx) (by rw [sl];exact l.1)).stp (h.tie m x hx) (by rw [k_,sl];exact l.2)
theorem lb{W:aK}{ss:List Std}{i j:Nat}{k:Int}{b:Bool}{l:Int}(h:l= -1∨l.toNat≠j):(stp W ss i k b l).getD j ([],[])=ss.getD j ([],[]):=by
  unfold stp
  by_cases c:l= -1
  · rw [if_pos c]
  · rw [if_neg c]
    simp only [List.getD_eq_getElem?_getD]
    rw [List.getElem?_set_ne (by rcases h with z | z;exact absurd z c;exact z)]
theorem zG{W:aK}{ss:List Std}{i j:Nat}{k:Int}{b:Bool}{l:Int}(h:l≠ -1)(hl:l.toNat < ss.length)(hj:j=l.toNat):(stp W ss i k b l).getD j ([],[])=nxt W (ss.getD i ([],[])) k b:=by
  unfold stp
  rw [if_neg h,o8 hl,if_pos hj]
theorem yy{W O:aK}(ok:W.Ok){T:List Nd}{S:Nat→Std}(h:dJ W T S)(o:iU T)(hO:Cg O T)(m i:Nat)(hi:i < T.length):((aC O T m).getD i ([],[])).1.length≤15∧((aC O T m).getD i ([],[])).2.length≤30:=by
  obtain⟨a1,a2,_⟩:=(Ci.all (W:=W) hO m).at' i
  have s:=(lg.all ok h m).short ok h hi
  rw [a1] at*
  lia
theorem ua{W:aK}{T:List Nd}{S:Nat→Std}(h:dJ W T S)(o:iU T)(t:iV T)(h0:0 < T.length→S 0=([],[])):∀m,m≤T.length→∀j,j < T.length→(j=0∨∃i b,i < m∧jM T i b=(j:Int))→(aC W T m).getD j ([],[])=S j
  | 0,_,j,hj,hp=>by
    rcases hp with rfl | ⟨i,b,hi,_⟩
    · rw [h0 hj,aC,List.getD_eq_getElem?_getD,List.getElem?_replicate];split<;>rfl
    · lia
  | m+1,hm,j,hj,hp=>by
    have hx:=List.getElem?_eq_getElem (show m < T.length by lia)
    have nd:=h m _ hx
    have ih:=ua h o t h0 m (by lia)
    have sl:=jg (W:=W) (T:=T) m
    have Sm:(aC W T m).getD m ([],[])=S m:=ih m (by lia) (by
      by_cases c:m=0
      · exact .inl c
      · obtain⟨i,b,e⟩:=t.2 m (by lia) (by lia)
        refine .inr ⟨i,b,?_,e⟩
        cases hx2:T[i]? with
        | none=>rw [dc hx2] at e;lia
        | some x=>
          rw [bY hx2] at e
          have:=pJ o hx2 b
          rcases this with z | z<;>lia)
    rw [kM hx]
    unfold std1
    have o1:=pJ o hx true
    have o2:=pJ o hx false
    change wx m (T[m]).yes at o1
    change wx m (T[m]).no at o2
    have ne:(T[m]).yes≠ -1→(T[m]).yes≠(T[m]).no:=fun c e=>by
      have:=t.1 m m true false (by rw [bY hx,bY hx];exact e) (by rw [bY hx];exact c)
      cases this.2
    have my:(T[m]).yes= -1∨(T[m]).yes.toNat≠m:=by rcases o1 with z | z;exact .inl z;exact .inr (by lia)
    by_cases cn:(j:Int)=(T[m]).no
    · -- led to by the no of node m
      have n1:(T[m]).no≠ -1:=by lia
      rcases nd.no with z | ⟨z1,z2,z3⟩
      · exact absurd z n1
      · rw [zG n1 (by rw [k_,sl];lia) (by lia),lb my,Sm,←z3]
        congr 1
        lia
    · rw [lb (by by_cases z:(T[m]).no= -1;exact .inl z;exact .inr (by rcases nd.no with q | ⟨q,_,_⟩<;>lia))]
      by_cases cy:(j:Int)=(T[m]).yes
      · have n1:(T[m]).yes≠ -1:=by lia
        rcases nd.yes with z | ⟨z1,z2,z3⟩
        · exact absurd z n1
        · rw [zG n1 (by rw [sl];lia) (by lia),Sm,←z3]
          congr 1
          lia
      · rw [lb (by by_cases z:(T[m]).yes= -1;exact .inl z;exact .inr (by rcases nd.yes with q | ⟨q,_,_⟩<;>lia))]
        refine ih j hj ?_
        rcases hp with z | ⟨i,b,hi,e⟩
        · exact .inl z
        · refine .inr ⟨i,b,?_,e⟩
          by_cases c:i=m
          · subst c
            rw [bY hx] at e
            cases b
            · exact absurd e.symm cn
            · exact absurd e.symm cy
          · lia
theorem Et{W:aK}{T:List Nd}{S:Nat→Std}(h:dJ W T S)(o:iU T)(t:iV T)(h0:0 < T.length→S 0=([],[])){j:Nat}(hj:j < T.length):(aC W T T.length).getD j ([],[])=S j:=by
  refine ua h o t h0 T.length (Nat.le_refl _) j hj ?_
  by_cases c:j=0
  · exact .inl c
  · obtain⟨i,b,e⟩:=t.2 j (by lia) hj
    refine .inr ⟨i,b,?_,e⟩
    by_cases z:i < T.length
    · exact z
    · rw [dc (List.getElem?_eq_none (by lia))] at e;lia
def l5(O:aK)(T:List Nd):Bool:=T.all fun x=>decide (0≤x.tie)&&decide (x.tie < (O.ties.length:Int))
def qd(O:aK)(p:Nd × Std):Bool:=O.may p.2.1 p.2.2 p.1.tie
def AM(O:aK)(T:List Nd):Bool:=l5 O T&&(T.zip (aC O T T.length)).all (qd O)
theorem oX{O W:aK}{T:List Nd}{S:Nat→Std}(h:dJ W T S)(hf:l5 O T=true):Cg O T:=by
  refine⟨fun i x hx=>?_,fun i x hx=>⟨(h i x hx).yes.rng,(h i x hx).no.rng⟩⟩
  have:=List.all_eq_true.mp hf x (K2 hx)
  rw [Bool.and_eq_true,decide_eq_true_eq,decide_eq_true_eq] at this
  exact this
theorem AN{W:aK}{T:List Nd}{S:Nat→Std}(h:dJ W T S)(o:iU T)(t:iV T)(h0:0 < T.length→S 0=([],[])):AM W T=true:=by
  unfold AM
  rw [Bool.and_eq_true]
  constructor
  · refine List.all_eq_true.mpr fun x hx=>?_
    obtain⟨i,hi⟩:=List.getElem?_of_mem hx
    have:=(h i x hi).tie
    rw [Bool.and_eq_true,decide_eq_true_eq,decide_eq_true_eq]
    exact this
  · refine List.all_eq_true.mpr fun p hp=>?_
    obtain⟨i,hi⟩:=List.getElem?_of_mem hp
    rw [List.getElem?_zip_eq_some] at hi
    have il:=(KY hi.1).1
    have e:=Et h o t h0 il
    rw [List.getD_eq_getElem?_getD,hi.2] at e
    have e':p.2=S i:=e
    unfold qd
    rw [e']
    exact(h i p.1 hi.1).may
theorem nj{T:List Nd}{W:aK}{S:Nat→Std}(h:dJ W T S)(o:iU T)(t:iV T):(pz T T.length).Perm ((List.range (T.length - 1)).map fun(i:Nat)=>(1:Int)+(i:Int)):=by
  have p:=yA h o t
  have e:(List.range (max 1 T.length)).map Int.ofNat=0::(List.range (T.length - 1)).map fun(i:Nat)=>(1:Int)+(i:Int):=by
    rw [show max 1 T.length=(T.length - 1)+1 by lia,List.range_succ_eq_map,List.map_cons,List.map_map]
    congr 1
    refine List.map_congr_left fun i _=>?_
    show((i+1:Nat):Int)=1+(i:Int)
    lia
  rw [e] at p
  exact(List.perm_cons _).mp p
theorem zF{n:Nat}{l:List Int}(h:l.Perm ((List.range n).map fun(i:Nat)=>(1:Int)+(i:Int))):eV l=(List.range n).map fun(i:Nat)=>(1:Int)+(i:Int):=by
  refine(mL h.symm ?_).symm
  rw [List.pairwise_map]
  exact List.pairwise_lt_range.imp fun h=>by lia
theorem Ay{T:List Nd}{W:aK}{S:Nat→Std}(h:dJ W T S)(o:iU T)(t:iV T){j:Nat}(h1:0 < j)(h2:j < T.length):(pz T T.length).count (j:Int)=1:=by
  rw [(nj h o t).count_eq]
  have nd:((List.range (T.length - 1)).map fun(i:Nat)=>(1:Int)+(i:Int)).Nodup:=by
    unfold List.Nodup
    rw [List.pairwise_map]
    exact List.pairwise_lt_range.imp fun h=>by lia
  rw [nd.count,if_pos]
  exact List.mem_map.mpr ⟨j - 1,by simp;lia,by lia⟩
end L2
namespace V14
open PySem PySem.Spec PyProof.Rows L2
variable{P:Program}{w:World}{K:W.Frag}{mg:Str→Option Value}{base:Heap}{f:Addr}{fd:FuncData}
local macro_rules|`(tactic|trivial)=>`(tactic|first|exact .inl rfl|exact .inr rfl|assumption)
local macro_rules|`(¬$n:num)=>`(@qw _ _ $n _ _ (by rfl) (by rfl) (by decide))
local macro_rules|`($a∘$b)=>`(@G_ _ _ _ _ _ _ $a $b (by rfl))
def top(i:Nat):Stmt:=PySem.Challenge.pw_askedpairs_k14_trees_in_other_webs.main.body.getD i (.Pass ⟨0,0,0,0⟩)
theorem nS{α:Type u}{β:Type v}{f:α→β}:List.map f []=[]:=rfl
theorem nR{α:Type u}{β:Type v}{f:α→β}{a:α}{l:List α}:List.map f (a::l)=f a::List.map f l:=rfl
theorem nM{α:Type u}{l:List α}:[]++l=l:=rfl
theorem nL{α:Type u}{a:α}{l m:List α}:(a::l)++m=a::(l++m):=rfl
theorem nP{α:Type u}{a:α}{l:List α}:(a::l)[0]?=some a:=rfl
theorem nQ{α:Type u}{a:α}{l:List α}{i:Nat}:(a::l)[i+1]?=l[i]?:=rfl
theorem nO{α:Type u}{β:Type v}{a:α}{f:α→Option β}:Option.bind (some a) f=f a:=rfl
theorem nU{α:Type u}{β:Type v}{a:α}{f:α→β}:Option.map f (some a)=some (f a):=rfl
abbrev et:Stmt:=top 1
abbrev bO:Stmt:=top 2
abbrev gn:Stmt:=top 3
abbrev dk:Stmt:=top 6
abbrev eu:Stmt:=top 7
abbrev cx:Stmt:=top 8
abbrev g_:Stmt:=top 9
abbrev dj:Stmt:=top 10
abbrev jd:Stmt:=top 14
abbrev je:Stmt:=top 15
abbrev cz:Stmt:=top 16
abbrev cA:Stmt:=top 17
abbrev gZ:Stmt:=top 18
abbrev ey:Stmt:=top 19
abbrev mz:Stmt:=top 21
abbrev mx:Stmt:=top 22
abbrev iR:Stmt:=top 23
abbrev tS:Stmt:=top 24
abbrev tT:Stmt:=top 25
abbrev pM:Stmt:=top 26
abbrev kG:Stmt:=top 27
abbrev mB:Stmt:=top 28
abbrev pN:Stmt:=top 29
abbrev tU:Stmt:=top 30
abbrev kJ:Stmt:=top 31
abbrev fm:Stmt:=top 32
abbrev qW:Stmt:=top 33
abbrev ja:Stmt:=top 34
abbrev gY:Stmt:=top 35
abbrev k8:Stmt:=top 36
abbrev kL:Stmt:=top 37
abbrev gh:Stmt:=top 38
abbrev gj:Stmt:=top 39
abbrev jc:Stmt:=top 40
abbrev jb:Stmt:=top 41
abbrev cH:Stmt:=top 42
abbrev eN:Stmt:=top 43
abbrev dD:Stmt:=top 44
abbrev pP:Stmt:=top 45
structure ji (mg:Str→Option Value):Prop where
  b_abs:mg "abs"=none
  b_len:mg "len"=none
  b_min:mg "min"=none
  b_max:mg "max"=none
  b_range:mg "range"=none
  b_tuple:mg "tuple"=none
  b_int:mg "int"=none
  b_sorted:mg "sorted"=none
  b_zip:mg "zip"=none
  b_enumerate:mg "enumerate"=none
  b_isinstance:mg "isinstance"=none
  b_bool:mg "bool"=none
  b_all:mg "all"=none
  b_list:mg "list"=none
noncomputable def nB:FS:=(a_ (eQ (jS (iu "int") (ab 0)) (jR (jS (iu "bool") (ab 0)))))
noncomputable def de:FM:=gM 1 0 [] nB
theorem mE:aF ["thing"] ["thing"] (am et):=⟨rfl,rfl,rfl,by decide+kernel,rfl,by decide+kernel,by decide+kernel⟩
theorem r9(h:a' K mg "is_number" et f fd ["thing"])(T:ji mg):aJ P w K mg base bG 1 f fd ["thing"] (bL K 1 de):=by
  have nd:=mE.nd
  exact h.fn mE rfl rfl (fun cdv A outer s H E hr=>(@aj _ _ _ _ _ (@az _ _ _ _ _ (@jB _ _ _ _ _ _ _ _ (@lB _ _ _ _ _ _ _ _ "int" rfl (by decide) rfl T.b_isinstance rfl T.b_int PyProof.Rows.boot_int (by decide) (by decide) (¬0) (by rfl) (by rfl)) (@kB _ _ _ _ _ _ (@zl _ _ _ _ _ (@lB _ _ _ _ _ _ _ _ "bool" rfl (by decide) rfl T.b_isinstance rfl T.b_bool PyProof.Rows.boot_bool (by decide) (by decide) (¬0) (by rfl) (by rfl))))))))
noncomputable def dZ:FS:=(a_ (eQ (bV 1 de (aa (ab 0) ah)) (ir AJ AJ (ab 1) (ab 0) (ab 2))))
noncomputable def br:FM:=gM 3 0 [] dZ
theorem gD:aF ["thing","low","high"] ["thing","low","high"] (am bO):=⟨rfl,rfl,rfl,by decide+kernel,rfl,by decide+kernel,by decide+kernel⟩
theorem lh(h:a' K mg "is_number_within" bO f fd ["thing","low","high"])(T:ji mg){Iu:Addr}{Iw:FuncData}(Ih:a' K mg "is_number" et Iu Iw ["thing"])(Ij:aJ P w K mg base bG 1 Iu Iw ["thing"] (bL K 1 de)):aJ P w K mg base bG 2 f fd ["thing","low","high"] (bL K 3 br):=by
  have nd:=gD.nd
  exact h.fn gD rfl rfl (fun cdv A outer s H E hr=>(@aj _ _ _ _ _ (@az _ _ _ _ _ (@jB _ _ _ _ _ _ _ _ (@a9 _ _ _ _ _ _ _ _ _ _ _ _ _ _ _ Ih Ij (hr.mono (by decide)) ((¬0)∘ac) (by rfl) (by decide) (by rfl) (by rfl)) (@kB _ _ _ _ _ _ (@sr _ _ _ _ _ _ _ _ _ _ _ _ _ (@Au _ _) (@Au _ _) (¬1) (¬0) (¬2) (by with_unfolding_all rfl)))))))
noncomputable def nD:FS:=(a_ (eQ (jS (iu "tuple") (ab 0)) (av (bv false) (aB (g1 cT) (aa (ab 0) ah)) (ab 1))))
noncomputable def fZ:FM:=gM 2 0 [] nD
theorem mF:aF ["thing","many"] ["thing","many"] (am gn):=⟨rfl,rfl,rfl,by decide+kernel,rfl,by decide+kernel,by decide+kernel⟩
theorem r_(h:a' K mg "is_row_of" gn f fd ["thing","many"])(T:ji mg):aJ P w K mg base bG 1 f fd ["thing","many"] (bL K 2 fZ):=by
  have nd:=mF.nd
  exact h.fn mF rfl rfl (fun cdv A outer s H E hr=>(@aj _ _ _ _ _ (@az _ _ _ _ _ (@jB _ _ _ _ _ _ _ _ (@lB _ _ _ _ _ _ _ _ "tuple" rfl (by decide) rfl T.b_isinstance rfl T.b_tuple PyProof.Rows.boot_tuple (by decide) (by decide) (¬0) (by rfl) (by rfl)) (@kB _ _ _ _ _ _ (@mn _ _ _ _ _ _ _ _ _ (@p9 _ _ _ rfl hr) (@aN _ _ _ _ _ _ _ _ _ (@b_len _ _ rfl) (by rfl) T.b_len ((¬0)∘ac) (by decide) (by decide) (by rfl) (by rfl)) (¬1) (aM _)))))))
noncomputable def nG:FS:=(a_ (li (av dU (av dU (ab 0) (vC (.int 1))) (ab 1)) bM (bI (vC (.int 2)))))
noncomputable def b_:FM:=gM 2 0 [] nG
theorem mI:aF ["web","tie"] ["web","tie"] (am dk):=⟨rfl,rfl,rfl,by decide+kernel,rfl,by decide+kernel,by decide+kernel⟩
theorem si(h:a' K mg "things_of" dk f fd ["web","tie"])(T:ji mg):aJ P w K mg base bG 1 f fd ["web","tie"] (bL K 2 b_):=by
  have nd:=mI.nd
  exact h.fn mI rfl rfl (fun cdv A outer s H E hr=>(@aj _ _ _ _ _ (@az _ _ _ _ _ (@bP _ _ _ _ _ _ _ _ _ _ rfl (@bT _ _ _ _ _ _ _ rfl (@bT _ _ _ _ _ _ _ rfl (¬0) ae (fun _ _=>rfl)) (¬1) (fun _ _=>rfl)) (@bQ _ _) (@bR _ _ _ _ ae)))))
noncomputable def ls:FI:=(iw (ab 1))
noncomputable def dM:FT:=(ax (av (wH false) (ab 0) (bV 2 b_ (aa (ab 1) (aa (ab 2) ah)))))
noncomputable def dO:FE:=(ab 2)
noncomputable def nE:FS:=(a_ (aB (g1 cT) (aa (cQ [(2,"thing"),(0,"web")] 1 ls (af 2) dM dO) ah)))
noncomputable def f9:FM:=gM 3 0 [] nE
theorem mG:aF ["web","asked","thing"] ["web","asked","thing"] (am eu):=⟨rfl,rfl,rfl,by decide+kernel,rfl,by decide+kernel,by decide+kernel⟩
theorem sd(h:a' K mg "many_asks" eu f fd ["web","asked","thing"])(T:ji mg){Ic:Addr}{Ie:FuncData}(H_:a' K mg "things_of" dk Ic Ie ["web","tie"])(Ia:aJ P w K mg base bG 1 Ic Ie ["web","tie"] (bL K 2 b_)):aJ P w K mg base bG 2 f fd ["web","asked","thing"] (bL K 3 f9):=by
  have nd:=mG.nd
  exact h.fn mG rfl rfl (fun cdv A outer s H E hr=>(@aj _ _ _ _ _ (@az _ _ _ _ _ (@aN _ _ _ _ _ _ _ _ _ (@b_len _ _ rfl) (by rfl) T.b_len ((@jA _ _ _ _ _ _ _ _ _ _ _ _ _ (am eu) ["web","asked","thing"] [(2,"thing"),(0,"web")] ["tie"] rfl rfl rfl (@dH _ _ _ _ _ rfl (¬1))
        (fun C s0 H0 fp=>(@ap _ _ _ 2 _ (show List.Nodup (["thing","web","tie"]:List Str) by decide+kernel) rfl (Or.inl rfl) (by trivial))) (fun C s0 H0 fp=>(@mv _ _ _ _ (@aT _ _ _ _ _ _ _ _ _ (@x6 _ _ _ rfl hr) (¬0) (@a9 _ _ _ _ _ _ _ _ _ _ _ _ _ _ _ H_ Ia (hr.mono (by decide)) ((¬1)∘((¬2)∘ac)) (by rfl) (by decide) (by rfl) (by rfl)) (by with_unfolding_all rfl))))
        (fun C s0 H0 fp=>(¬2)) rfl (by decide+kernel) (by decide+kernel) (by decide+kernel) (by decide+kernel) (by decide+kernel) (by decide+kernel) (by decide+kernel) (by intro _;rfl))∘ac) (by decide) (by decide) (by rfl) (by rfl)))))
noncomputable def eW:FS:=(au (jE (ab 1) (aX (ao (af 3) (ao (af 4) aU))))
    (a_ (eQ (av (wH true) (ab 2) (ab 4)) (av tD (bV 3 f9 (aa (ab 0) (aa (ab 3) (aa (ab 2) ah)))) (av dU (av dU (ab 0) (vC (.int 2))) (ab 2))))))
noncomputable def bK:FM:=gM 3 2 (([3]++([4]++[]))++[]) eW
theorem iJ:aF ["web","stand","thing","asked","taken"] ["web","stand","thing"] (am cx):=⟨rfl,rfl,rfl,by decide+kernel,rfl,by decide+kernel,by decide+kernel⟩
theorem mh(h:a' K mg "bears_one_more" cx f fd ["web","stand","thing"])(T:ji mg){JE:Addr}{JF:FuncData}(IJ:a' K mg "many_asks" eu JE JF ["web","asked","thing"])(Jg:aJ P w K mg base bG 2 JE JF ["web","asked","thing"] (bL K 3 f9)):aJ P w K mg base bG 3 f fd ["web","stand","thing"] (bL K 3 bK):=by
  have nd:=iJ.nd
  exact h.fn iJ rfl rfl (fun cdv A outer s H E hr=>(@ag _ _ _ _ _ _ _ _ (@jC _ _ _ _ _ _ _ _ (¬1) (@cw _ _ _ _ _ _ _ _ rfl rfl (@ar _ _ _ _ _ _ _ _ (@ap _ _ _ 3 _ nd rfl (Or.inl rfl) (by trivial)) (@ar _ _ _ _ _ _ _ _ (@ap _ _ _ 4 _ nd rfl (Or.inl rfl) (by trivial)) (@bB _ _) (by rfl)) (by rfl)) (aA (aA cq)) (by rfl) (by rfl)) (by rfl) (by rfl) (by rfl))
      (@aj _ _ _ _ _ (@az _ _ _ _ _ (@jB _ _ _ _ _ _ _ _ (@mn _ _ _ _ _ _ _ _ _ (@Av _ _ _ rfl hr) (¬2) (¬4) (by with_unfolding_all rfl)) (@kB _ _ _ _ _ _ (@mn _ _ _ _ _ _ _ _ _ (@sS _ _) (@a9 _ _ _ _ _ _ _ _ _ _ _ _ _ _ _ IJ Jg (hr.mono (by decide)) ((¬0)∘((¬3)∘((¬2)∘ac))) (by rfl) (by decide) (by rfl) (by rfl)) (@bT _ _ _ _ _ _ _ rfl (@bT _ _ _ _ _ _ _ rfl (¬0) ae (fun _ _=>rfl)) (¬2) (fun _ _=>rfl)) (aM _))))))))
noncomputable def oa:FI:=(iw (bV 2 b_ (aa (ab 0) (aa (ab 2) ah))))
noncomputable def ka:FE:=(bV 3 bK (aa (ab 0) (aa (ab 1) (aa (ab 2) ah))))
noncomputable def kR:FS:=(au (aY 3 (av dU (ab 1) (vC (.int 0))))
    (au (fB (oQ (ax (av (wH false) (ab 2) (ab 3))) (ax (av uH (aB (g1 cT) (aa (ab 3) ah)) (av dU (ab 0) (vC (.int 3))))))
    (a_ (vC (.bool false)))
    bH)
    (a_ (aB (g1 (jL lm)) (aa (cQ [(0,"web"),(1,"stand")] 1 oa (af 2) cD ka) ah)))))
noncomputable def eZ:FM:=gM 3 1 ([3]++(([]++[])++[])) kR
theorem pW:aF ["web","stand","tie","asked"] ["web","stand","tie"] (am g_):=⟨rfl,rfl,rfl,by decide+kernel,rfl,by decide+kernel,by decide+kernel⟩
theorem uX(h:a' K mg "may_ask" g_ f fd ["web","stand","tie"])(T:ji mg){IS:Addr}{IT:FuncData}(Ig:a' K mg "bears_one_more" cx IS IT ["web","stand","thing"])(Ir:aJ P w K mg base bG 3 IS IT ["web","stand","thing"] (bL K 3 bK)){Ic:Addr}{Ie:FuncData}(H_:a' K mg "things_of" dk Ic Ie ["web","tie"])(Ia:aJ P w K mg base bG 1 Ic Ie ["web","tie"] (bL K 2 b_)):aJ P w K mg base bG 4 f fd ["web","stand","tie"] (bL K 3 eZ):=by
  have nd:=pW.nd
  exact h.fn pW rfl rfl (fun cdv A outer s H E hr=>(@ag _ _ _ _ _ _ _ _ (@aI _ _ _ _ _ 3 _ _ nd rfl (Or.inl rfl) (@bT _ _ _ _ _ _ _ rfl (¬1) ae (fun _ _=>rfl)) (by rfl) (by trivial))
      (@ag _ _ _ _ _ _ _ _ (@bC _ _ _ _ _ _ _ _ _ _ _ (@m7 _ _ _ _ (@kD _ _ _ _ _ _ _ _ (@aT _ _ _ _ _ _ _ _ _ (@x6 _ _ _ rfl hr) (¬2) (¬3) (by with_unfolding_all rfl)) (@jD _ _ _ _ _ (@aT _ _ _ _ _ _ _ _ _ (@sR _ _) (@aN _ _ _ _ _ _ _ _ _ (@b_len _ _ rfl) (by rfl) T.b_len ((¬3)∘ac) (by decide) (by decide) (by rfl) (by rfl)) (@bT _ _ _ _ _ _ _ rfl (¬0) ae (fun _ _=>rfl)) (aM _)))))
      (@aj _ _ _ _ _ (@az _ _ _ _ _ (@cc _ _ _ _ _)))
      (@aP _ _))
      (@aj _ _ _ _ _ (@az _ _ _ _ _ (@aN _ _ _ _ _ _ _ _ _ (@b_all _ _ _ rfl hr) (by rfl) T.b_all ((@jA _ _ _ _ _ _ _ _ _ _ _ _ _ (am g_) ["web","stand","tie","asked"] [(0,"web"),(1,"stand")] ["thing"] rfl rfl rfl (@dH _ _ _ _ _ rfl (@a9 _ _ _ _ _ _ _ _ _ _ _ _ _ _ _ H_ Ia (hr.mono (by decide)) ((¬0)∘((¬2)∘ac)) (by rfl) (by decide) (by rfl) (by rfl)))
        (fun C s0 H0 fp=>(@ap _ _ _ 2 _ (show List.Nodup (["web","stand","thing"]:List Str) by decide+kernel) rfl (Or.inl rfl) (by trivial))) (fun C s0 H0 fp=>(@iI _ _))
        (fun C s0 H0 fp=>(@a9 _ _ _ _ _ _ _ _ _ _ _ _ _ _ _ Ig Ir (hr.mono (by decide)) ((¬0)∘((¬1)∘((¬2)∘ac))) (by rfl) (by decide) (by rfl) (by rfl))) rfl (by decide+kernel) (by decide+kernel) (by decide+kernel) (by decide+kernel) (by decide+kernel) (by decide+kernel) (by decide+kernel) (by intro _;rfl))∘ac) (by decide) (by decide) (by rfl) (by rfl)))))))
noncomputable def h_:FS:=(au (jE (ab 1) (aX (ao (af 4) (ao (af 5) aU))))
    (au (fB (ax (ab 3))
    (aY 5 (aB (g1 cN) (aa (aB (g1 c_) (aa (av bu (ab 5) (bV 2 b_ (aa (ab 0) (aa (ab 2) ah)))) ah)) ah)))
    bH)
    (a_ (bj (aa (aB (g1 cN) (aa (aB (g1 c_) (aa (av bu (ab 4) (bj (aa (ab 2) ah))) ah)) ah)) (aa (ab 5) ah))))))
noncomputable def cv:FM:=gM 4 2 (([4]++([5]++[]))++(([5]++[])++[])) h_
theorem jQ:aF ["web","stand","tie","truth","asked","taken"] ["web","stand","tie","truth"] (am dj):=⟨rfl,rfl,rfl,by decide+kernel,rfl,by decide+kernel,by decide+kernel⟩
theorem oz(h:a' K mg "stand_behind" dj f fd ["web","stand","tie","truth"])(T:ji mg){Ic:Addr}{Ie:FuncData}(H_:a' K mg "things_of" dk Ic Ie ["web","tie"])(Ia:aJ P w K mg base bG 1 Ic Ie ["web","tie"] (bL K 2 b_)):aJ P w K mg base bG 2 f fd ["web","stand","tie","truth"] (bL K 4 cv):=by
  have nd:=jQ.nd
  exact h.fn jQ rfl rfl (fun cdv A outer s H E hr=>(@ag _ _ _ _ _ _ _ _ (@jC _ _ _ _ _ _ _ _ (¬1) (@cw _ _ _ _ _ _ _ _ rfl rfl (@ar _ _ _ _ _ _ _ _ (@ap _ _ _ 4 _ nd rfl (Or.inl rfl) (by trivial)) (@ar _ _ _ _ _ _ _ _ (@ap _ _ _ 5 _ nd rfl (Or.inl rfl) (by trivial)) (@bB _ _) (by rfl)) (by rfl)) (aA (aA cq)) (by rfl) (by rfl)) (by rfl) (by rfl) (by rfl))
      (@ag _ _ _ _ _ _ _ _ (@bC _ _ _ _ _ _ _ _ _ _ _ (@cO _ _ _ _ (¬3) (by intro _;rfl))
      (@aj _ _ _ _ _ (@aI _ _ _ _ _ 5 _ _ nd rfl (Or.inl rfl) (@aN _ _ _ _ _ _ _ _ _ (@b_tuple _ _ rfl) (by rfl) T.b_tuple ((@aN _ _ _ _ _ _ _ _ _ (@lR _ _ rfl) (by rfl) T.b_sorted ((@bA _ _ _ _ _ _ _ rfl (¬5) (@a9 _ _ _ _ _ _ _ _ _ _ _ _ _ _ _ H_ Ia (hr.mono (by decide)) ((¬0)∘((¬2)∘ac)) (by rfl) (by decide) (by rfl) (by rfl)))∘ac) (by decide) (by decide) (by rfl) (by rfl))∘ac) (by decide) (by decide) (by rfl) (by rfl)) (by rfl) (by trivial)))
      (@aP _ _))
      (@aj _ _ _ _ _ (@az _ _ _ _ _ (@aR _ _ _ _ _ _ ((@aN _ _ _ _ _ _ _ _ _ (@b_tuple _ _ rfl) (by rfl) T.b_tuple ((@aN _ _ _ _ _ _ _ _ _ (@lR _ _ rfl) (by rfl) T.b_sorted ((@bA _ _ _ _ _ _ _ rfl (¬4) (@aR _ _ _ _ _ _ ((¬2)∘ac)))∘ac) (by decide) (by decide) (by rfl) (by rfl))∘ac) (by decide) (by decide) (by rfl) (by rfl))∘((¬5)∘ac))))))))
noncomputable def qs:FS:=(a_ (eQ (bV 1 de (aa (ab 0) ah)) (p6 (av (bv false) (ab 0) (vC (.int (-1)))) (ir tD tD (ab 1) (ab 0) (ab 2)))))
noncomputable def gU:FM:=gM 3 0 [] qs
theorem pT:aF ["thing","at","many"] ["thing","at","many"] (am jd):=⟨rfl,rfl,rfl,by decide+kernel,rfl,by decide+kernel,by decide+kernel⟩
theorem uU(h:a' K mg "is_link" jd f fd ["thing","at","many"])(T:ji mg){Iu:Addr}{Iw:FuncData}(Ih:a' K mg "is_number" et Iu Iw ["thing"])(Ij:aJ P w K mg base bG 1 Iu Iw ["thing"] (bL K 1 de)){t_END:Tok}(m_END:mg "END"=some (.int (-1) t_END)):aJ P w K mg base bG 2 f fd ["thing","at","many"] (bL K 3 gU):=by
  have nd:=pT.nd
  exact h.fn pT rfl rfl (fun cdv A outer s H E hr=>(@aj _ _ _ _ _ (@az _ _ _ _ _ (@jB _ _ _ _ _ _ _ _ (@a9 _ _ _ _ _ _ _ _ _ _ _ _ _ _ _ Ih Ij (hr.mono (by decide)) ((¬0)∘ac) (by rfl) (by decide) (by rfl) (by rfl)) (@kB _ _ _ _ _ _ (@FV _ _ _ _ _ _ _ _ (@mn _ _ _ _ _ _ _ _ _ (@p9 _ _ _ rfl hr) (¬0) (@mq _ _ _ (V.int (-1)) _ _ (PyData.int (-1)) rfl m_END ⟨_,rfl⟩ (fun _=>bX.mpr rfl) (by decide)) (aM _)) (@kB _ _ _ _ _ _ (@sr _ _ _ _ _ _ _ _ _ _ _ _ _ (@sS _ _) (@sS _ _) (¬1) (¬0) (¬2) (by with_unfolding_all rfl)))))))))
noncomputable def qt:FS:=(au (fB (gy (ax (bV 2 fZ (aa (ab 1) (aa (vC (.int 3)) ah)))))
    (a_ (vC (.bool false)))
    bH)
    (au (jE (ab 1) (aX (ao (af 4) (ao (af 5) (ao (af 6) aU)))))
    (a_ (eQ (bV 3 br (aa (ab 4) (aa (vC (.int 0)) (aa (av gq (aB (g1 cT) (aa (av dU (ab 0) (vC (.int 1))) ah)) (vC (.int 1))) ah)))) (eQ (bV 3 gU (aa (ab 5) (aa (ab 2) (aa (ab 3) ah)))) (bV 3 gU (aa (ab 6) (aa (ab 2) (aa (ab 3) ah)))))))))
noncomputable def i8:FM:=gM 4 3 (([]++[])++(([4]++([5]++([6]++[])))++[])) qt
theorem pU:aF ["web","thing","at","many","tie","yes","no"] ["web","thing","at","many"] (am je):=⟨rfl,rfl,rfl,by decide+kernel,rfl,by decide+kernel,by decide+kernel⟩
theorem uV(h:a' K mg "is_node" je f fd ["web","thing","at","many"])(T:ji mg){JG:Addr}{JH:FuncData}(IK:a' K mg "is_row_of" gn JG JH ["thing","many"])(Jh:aJ P w K mg base bG 1 JG JH ["thing","many"] (bL K 2 fZ)){Iz:Addr}{IA:FuncData}(Ib:a' K mg "is_number_within" bO Iz IA ["thing","low","high"])(Ii:aJ P w K mg base bG 2 Iz IA ["thing","low","high"] (bL K 3 br)){JZ:Addr}{J0:FuncData}(IU:a' K mg "is_link" jd JZ J0 ["thing","at","many"])(Jl:aJ P w K mg base bG 2 JZ J0 ["thing","at","many"] (bL K 3 gU)):aJ P w K mg base bG 3 f fd ["web","thing","at","many"] (bL K 4 i8):=by
  have nd:=pU.nd
  exact h.fn pU rfl rfl (fun cdv A outer s H E hr=>(@ag _ _ _ _ _ _ _ _ (@bC _ _ _ _ _ _ _ _ _ _ _ (@fg _ _ _ _ _ (@cO _ _ _ _ (@a9 _ _ _ _ _ _ _ _ _ _ _ _ _ _ _ IK Jh (hr.mono (by decide)) ((¬1)∘(ae∘ac)) (by rfl) (by decide) (by rfl) (by rfl)) (by intro _;rfl)))
      (@aj _ _ _ _ _ (@az _ _ _ _ _ (@cc _ _ _ _ _)))
      (@aP _ _))
      (@ag _ _ _ _ _ _ _ _ (@jC _ _ _ _ _ _ _ _ (¬1) (@cw _ _ _ _ _ _ _ _ rfl rfl (@ar _ _ _ _ _ _ _ _ (@ap _ _ _ 4 _ nd rfl (Or.inl rfl) (by trivial)) (@ar _ _ _ _ _ _ _ _ (@ap _ _ _ 5 _ nd rfl (Or.inl rfl) (by trivial)) (@ar _ _ _ _ _ _ _ _ (@ap _ _ _ 6 _ nd rfl (Or.inl rfl) (by trivial)) (@bB _ _) (by rfl)) (by rfl)) (by rfl)) (aA (aA (aA cq))) (by rfl) (by rfl)) (by rfl) (by rfl) (by rfl))
      (@aj _ _ _ _ _ (@az _ _ _ _ _ (@jB _ _ _ _ _ _ _ _ (@a9 _ _ _ _ _ _ _ _ _ _ _ _ _ _ _ Ib Ii (hr.mono (by decide)) ((¬4)∘(ae∘((@og _ _ _ _ _ _ _ (@aN _ _ _ _ _ _ _ _ _ (@b_len _ _ rfl) (by rfl) T.b_len ((@bT _ _ _ _ _ _ _ rfl (¬0) ae (fun _ _=>rfl))∘ac) (by decide) (by decide) (by rfl) (by rfl)) ae)∘ac))) (by rfl) (by decide) (by rfl) (by rfl)) (@jB _ _ _ _ _ _ _ _ (@a9 _ _ _ _ _ _ _ _ _ _ _ _ _ _ _ IU Jl (hr.mono (by decide)) ((¬5)∘((¬2)∘((¬3)∘ac))) (by rfl) (by decide) (by rfl) (by rfl)) (@kB _ _ _ _ _ _ (@a9 _ _ _ _ _ _ _ _ _ _ _ _ _ _ _ IU Jl (hr.mono (by decide)) ((¬6)∘((¬2)∘((¬3)∘ac))) (by rfl) (by decide) (by rfl) (by rfl))))))))))
noncomputable def i5:FI:=(iw (ab 0))
noncomputable def dt:FI:=(iw (li (ab 0) (bI (vC (.int 1))) bM))
noncomputable def bJ:FT:=(ax (av (bv true) (ab 1) (vC (.int (-1)))))
noncomputable def bf:FE:=(ab 1)
noncomputable def jZ:FS:=(au (aY 1 (nu [] 2 i5 (af 0) cD dt (af 1) bJ bf))
    (a_ (av (bv false) (aB (g1 c_) (aa (ab 1) ah)) (kO (aa (vC (.int 1)) (aa (aB (g1 cT) (aa (ab 0) ah)) ah))))))
noncomputable def df:FM:=gM 1 1 ([1]++[]) jZ
theorem jO:aF ["tree","told"] ["tree"] (am cz):=⟨rfl,rfl,rfl,by decide+kernel,rfl,by decide+kernel,by decide+kernel⟩
theorem ou(h:a' K mg "is_told_once" cz f fd ["tree"])(T:ji mg){t_END:Tok}(m_END:mg "END"=some (.int (-1) t_END)):aJ P w K mg base bG 1 f fd ["tree"] (bL K 1 df):=by
  have nd:=jO.nd
  exact h.fn jO rfl rfl (fun cdv A outer s H E hr=>(@ag _ _ _ _ _ _ _ _ (@vc _ _ _ (1) _ _ _ _ _ _ _ _ _ _ _ _ _ _ _ _ _ _ _ _ (am cz) ["tree","told"] [] ["node","link"] rfl rfl rfl (@dH _ _ _ _ _ rfl (¬0))
        (fun C s0 H0 fp=>(@ap _ _ _ 0 _ (show List.Nodup (["node","link"]:List Str) by decide+kernel) rfl (Or.inl rfl) (by trivial))) (fun C s0 H0 fp=>(@iI _ _)) (fun C s0 H0 fp=>(@dH _ _ _ _ _ rfl (@bP _ _ _ _ _ _ _ _ _ _ rfl (¬0) (@bR _ _ _ _ ae) (@bQ _ _)))) (fun C s0 H0 fp=>(@ap _ _ _ 1 _ (show List.Nodup (["node","link"]:List Str) by decide+kernel) rfl (Or.inl rfl) (by trivial))) (fun C s0 H0 fp=>(@mv _ _ _ _ (@aT _ _ _ _ _ _ _ _ _ (@lV _ _ _ rfl hr) (¬1) (@mq _ _ _ (V.int (-1)) _ _ (PyData.int (-1)) rfl m_END ⟨_,rfl⟩ (fun _=>bX.mpr rfl) (by decide)) (aM _))))
        (fun C s0 H0 fp=>(¬1)) rfl (by decide+kernel) (by decide+kernel) (by decide+kernel) (by decide+kernel) (by decide+kernel) (by decide+kernel) (by decide+kernel) nd rfl rfl (by rfl) (by intro _ _ _ _ _;rfl) (by intro _;rfl))
      (@aj _ _ _ _ _ (@az _ _ _ _ _ (@mn _ _ _ _ _ _ _ _ _ (@p9 _ _ _ rfl hr) (@aN _ _ _ _ _ _ _ _ _ (@lR _ _ rfl) (by rfl) T.b_sorted ((¬1)∘ac) (by decide) (by decide) (by rfl) (by rfl)) (@su _ _ _ _ _ _ _ _ _ rfl rfl T.b_list rfl T.b_range (ae∘((@aN _ _ _ _ _ _ _ _ _ (@b_len _ _ rfl) (by rfl) T.b_len ((¬0)∘ac) (by decide) (by decide) (by rfl) (by rfl))∘ac)) (by rfl) (by rfl) (by rfl)) (aM _))))))
noncomputable def i6:FI:=(o_ (aa (ab 1) ah))
noncomputable def ci:FE:=(bV 4 i8 (aa (ab 0) (aa (ab 3) (aa (ab 2) (aa (aB (g1 cT) (aa (ab 1) ah)) ah)))))
noncomputable def j5:FS:=(au (fB (oQ (gy (ax (jS (iu "tuple") (ab 1)))) (ax (av Cv (aB (g1 cT) (aa (ab 1) ah)) (vC (.int (300))))))
    (a_ (vC (.bool false)))
    bH)
    (au (fB (gy (ax (aB (g1 (jL lm)) (aa (cQ [(0,"web"),(1,"thing")] 2 i6 (aX (ao (af 2) (ao (af 3) aU))) cD ci) ah))))
    (a_ (vC (.bool false)))
    bH)
    (a_ (bV 1 df (aa (ab 1) ah)))))
noncomputable def dg:FM:=gM 2 0 (([]++[])++(([]++[])++[])) j5
theorem jP:aF ["web","thing"] ["web","thing"] (am cA):=⟨rfl,rfl,rfl,by decide+kernel,rfl,by decide+kernel,by decide+kernel⟩
theorem ox(h:a' K mg "is_tree_form" cA f fd ["web","thing"])(T:ji mg){Ja:Addr}{Jb:FuncData}(Ik:a' K mg "is_told_once" cz Ja Jb ["tree"])(IF:aJ P w K mg base bG 1 Ja Jb ["tree"] (bL K 1 df)){J1:Addr}{J3:FuncData}(Jm:a' K mg "is_node" je J1 J3 ["web","thing","at","many"])(JI:aJ P w K mg base bG 3 J1 J3 ["web","thing","at","many"] (bL K 4 i8)){t_MOST_NODES:Tok}(m_MOST_NODES:mg "MOST_NODES"=some (.int (300) t_MOST_NODES)):aJ P w K mg base bG 4 f fd ["web","thing"] (bL K 2 dg):=by
  have nd:=jP.nd
  exact h.fn jP rfl rfl (fun cdv A outer s H E hr=>(@ag _ _ _ _ _ _ _ _ (@bC _ _ _ _ _ _ _ _ _ _ _ (@m7 _ _ _ _ (@kD _ _ _ _ _ _ _ _ (@fg _ _ _ _ _ (@cO _ _ _ _ (@lB _ _ _ _ _ _ _ _ "tuple" rfl (by decide) rfl T.b_isinstance rfl T.b_tuple PyProof.Rows.boot_tuple (by decide) (by decide) (¬1) (by rfl) (by rfl)) (by intro _;rfl))) (@jD _ _ _ _ _ (@aT _ _ _ _ _ _ _ _ _ (@C8 _ _) (@aN _ _ _ _ _ _ _ _ _ (@b_len _ _ rfl) (by rfl) T.b_len ((¬1)∘ac) (by decide) (by decide) (by rfl) (by rfl)) (@mq _ _ _ (V.int (300)) _ _ (PyData.int (300)) rfl m_MOST_NODES ⟨_,rfl⟩ (fun _=>bX.mpr rfl) (by decide)) (aM _)))))
      (@aj _ _ _ _ _ (@az _ _ _ _ _ (@cc _ _ _ _ _)))
      (@aP _ _))
      (@ag _ _ _ _ _ _ _ _ (@bC _ _ _ _ _ _ _ _ _ _ _ (@fg _ _ _ _ _ (@cO _ _ _ _ (@aN _ _ _ _ _ _ _ _ _ (@b_all _ _ _ rfl hr) (by rfl) T.b_all ((@jA _ _ _ _ _ _ _ _ _ _ _ _ _ (am cA) ["web","thing"] [(0,"web"),(1,"thing")] ["at","node"] rfl rfl rfl (@mr _ _ _ _ _ _ _ _ _ rfl rfl T.b_enumerate ((¬1)∘ac) (by rfl))
        (fun C s0 H0 fp=>(@cw _ _ _ _ _ _ _ _ rfl rfl (@ar _ _ _ _ _ _ _ _ (@ap _ _ _ 2 _ (show List.Nodup (["web","thing","at","node"]:List Str) by decide+kernel) rfl (Or.inl rfl) (by trivial)) (@ar _ _ _ _ _ _ _ _ (@ap _ _ _ 3 _ (show List.Nodup (["web","thing","at","node"]:List Str) by decide+kernel) rfl (Or.inl rfl) (by trivial)) (@bB _ _) (by rfl)) (by rfl)) (aA (aA cq)) (by rfl) (by rfl))) (fun C s0 H0 fp=>(@iI _ _))
        (fun C s0 H0 fp=>(@a9 _ _ _ _ _ _ _ _ _ _ _ _ _ _ _ Jm JI (hr.mono (by decide)) ((¬0)∘((¬3)∘((¬2)∘((@aN _ _ _ _ _ _ _ _ _ (@b_len _ _ rfl) (by rfl) T.b_len ((¬1)∘ac) (by decide) (by decide) (by rfl) (by rfl))∘ac)))) (by rfl) (by decide) (by rfl) (by rfl))) rfl (by decide+kernel) (by decide+kernel) (by decide+kernel) (by decide+kernel) (by decide+kernel) (by decide+kernel) (by decide+kernel) (by intro _;rfl))∘ac) (by decide) (by decide) (by rfl) (by rfl)) (by intro _;rfl)))
      (@aj _ _ _ _ _ (@az _ _ _ _ _ (@cc _ _ _ _ _)))
      (@aP _ _))
      (@aj _ _ _ _ _ (@az _ _ _ _ _ (@a9 _ _ _ _ _ _ _ _ _ _ _ _ _ _ _ Ik IF (hr.mono (by decide)) ((¬1)∘ac) (by rfl) (by decide) (by rfl) (by rfl)))))))
noncomputable def lu:FI:=(iw (bj (aa (bj (aa (ab 5) (aa (vC (.bool true)) ah))) (aa (bj (aa (ab 6) (aa (vC (.bool false)) ah))) ah))))
noncomputable def fw:FS:=(fB (ax (av (bv true) (ab 7) (vC (.int (-1)))))
    (tV (bV 4 cv (aa (ab 0) (aa (av dU (ab 2) (ab 3)) (aa (ab 4) (aa (ab 8) ah))))) (ab 2) (ab 7))
    bH)
noncomputable def lw:FI:=(o_ (aa (ab 1) ah))
noncomputable def fx:FS:=(di (([7]++([8]++[]))++([]++[])) lu (aX (ao (af 7) (ao (af 8) aU))) fw)
noncomputable def lx:FI:=(iw (ab 1))
noncomputable def iN:FE:=(vC (.tuple [.tuple [],.tuple []]))
noncomputable def nF:FS:=(au (aY 2 (cQ [] 1 lx (af 0) cD iN))
    (au (di (([3]++(([4]++([5]++([6]++[])))++[]))++(([7]++([8]++[]))++([]++[]))) lw (aX (ao (af 3) (ao (aX (ao (af 4) (ao (af 5) (ao (af 6) aU)))) aU))) fx)
    (a_ (aB (g1 cN) (aa (ab 2) ah)))))
noncomputable def f_:FM:=gM 2 7 ([2]++((([3]++(([4]++([5]++([6]++[])))++[]))++(([7]++([8]++[]))++([]++[])))++[])) nF
theorem mH:aF ["web","tree","stands","at","tie","yes","no","link","truth"] ["web","tree"] (am ey):=⟨rfl,rfl,rfl,by decide+kernel,rfl,by decide+kernel,by decide+kernel⟩
theorem se(h:a' K mg "stands_of" ey f fd ["web","tree"])(T:ji mg){Jc:Addr}{Jd:FuncData}(Il:a' K mg "stand_behind" dj Jc Jd ["web","stand","tie","truth"])(IG:aJ P w K mg base bG 2 Jc Jd ["web","stand","tie","truth"] (bL K 4 cv)){g_FIRST_STAND:Addr}(m_FIRST_STAND:mg "FIRST_STAND"=some (.ref g_FIRST_STAND))(c_FIRST_STAND:∀F,DA K F (.tuple [.tuple [],.tuple []]) (.ref g_FIRST_STAND)){t_END:Tok}(m_END:mg "END"=some (.int (-1) t_END)):aJ P w K mg base bG 3 f fd ["web","tree"] (bL K 2 f_):=by
  have nd:=mH.nd
  exact h.fn mH rfl rfl (fun cdv A outer s H E hr=>(@ag _ _ _ _ _ _ _ _ (@qU _ _ _ (2) _ _ _ _ _ _ _ _ _ _ _ _ _ (am ey) ["web","tree","stands","at","tie","yes","no","link","truth"] [] ["node"] rfl rfl rfl (@dH _ _ _ _ _ rfl (¬1))
        (fun C s0 H0 fp=>(@ap _ _ _ 0 _ (show List.Nodup (["node"]:List Str) by decide+kernel) rfl (Or.inl rfl) (by trivial))) (fun C s0 H0 fp=>(@iI _ _))
        (fun C s0 H0 fp=>(@mq _ _ _ (V.ref g_FIRST_STAND) _ _ (PyData.tuple [.tuple [],.tuple []]) rfl m_FIRST_STAND rfl c_FIRST_STAND (by decide))) rfl (by decide+kernel) (by decide+kernel) (by decide+kernel) (by decide+kernel) (by decide+kernel) (by decide+kernel) (by decide+kernel) nd rfl rfl (by rfl) (by intro _;rfl))
      (@ag _ _ _ _ _ _ _ _ (@cF _ _ _ _ _ _ _ _ _ _ _ PassesOwn.never rfl (@mr _ _ _ _ _ _ _ _ _ rfl rfl T.b_enumerate ((¬1)∘ac) (by rfl)) (@cw _ _ _ _ _ _ _ _ rfl rfl (@ar _ _ _ _ _ _ _ _ (@ap _ _ _ 3 _ nd rfl (Or.inl rfl) (by trivial)) (@ar _ _ _ _ _ _ _ _ (@cw _ _ _ _ _ _ _ _ rfl rfl (@ar _ _ _ _ _ _ _ _ (@ap _ _ _ 4 _ nd rfl (Or.inl rfl) (by trivial)) (@ar _ _ _ _ _ _ _ _ (@ap _ _ _ 5 _ nd rfl (Or.inl rfl) (by trivial)) (@ar _ _ _ _ _ _ _ _ (@ap _ _ _ 6 _ nd rfl (Or.inl rfl) (by trivial)) (@bB _ _) (by rfl)) (by rfl)) (by rfl)) (aA (aA (aA cq))) (by rfl) (by rfl)) (@bB _ _) (by rfl)) (by rfl)) (aA (aA cq)) (by rfl) (by rfl))
      (@aj _ _ _ _ _ (@cF _ _ _ _ _ _ _ _ _ _ _ PassesOwn.never rfl (@dH _ _ _ _ _ rfl (@aR _ _ _ _ _ _ ((@aR _ _ _ _ _ _ ((¬5)∘((@cc _ _ _ _ _)∘ac)))∘((@aR _ _ _ _ _ _ ((¬6)∘((@cc _ _ _ _ _)∘ac)))∘ac)))) (@cw _ _ _ _ _ _ _ _ rfl rfl (@ar _ _ _ _ _ _ _ _ (@ap _ _ _ 7 _ nd rfl (Or.inl rfl) (by trivial)) (@ar _ _ _ _ _ _ _ _ (@ap _ _ _ 8 _ nd rfl (Or.inl rfl) (by trivial)) (@bB _ _) (by rfl)) (by rfl)) (aA (aA cq)) (by rfl) (by rfl))
      (@aj _ _ _ _ _ (@bC _ _ _ _ _ _ _ _ _ _ _ (@aT _ _ _ _ _ _ _ _ _ (@lV _ _ _ rfl hr) (¬7) (@mq _ _ _ (V.int (-1)) _ _ (PyData.int (-1)) rfl m_END ⟨_,rfl⟩ (fun _=>bX.mpr rfl) (by decide)) (aM _))
      (@aj _ _ _ _ _ (@vd _ _ _ _ _ _ _ _ _ _ (@a9 _ _ _ _ _ _ _ _ _ _ _ _ _ _ _ Il IG (hr.mono (by decide)) ((¬0)∘((@bT _ _ _ _ _ _ _ rfl (¬2) (¬3) (fun _ _=>rfl))∘((¬4)∘((¬8)∘ac)))) (by rfl) (by decide) (by rfl) (by rfl)) (¬2) (¬7) (by intro _;rfl) (by rfl) (by rfl) (by rfl)))
      (@aP _ _))) (by intro _;rfl))) (by intro _;rfl))
      (@aj _ _ _ _ _ (@az _ _ _ _ _ (@aN _ _ _ _ _ _ _ _ _ (@b_tuple _ _ rfl) (by rfl) T.b_tuple ((¬2)∘ac) (by decide) (by decide) (by rfl) (by rfl)))))))
noncomputable def iH:FI:=(n_ (aa (ab 1) (aa (bV 2 f_ (aa (ab 0) (aa (ab 1) ah))) ah)))
noncomputable def fL:FE:=(bV 3 eZ (aa (ab 0) (aa (ab 2) (aa (av dU (ab 1) (vC (.int 0))) ah))))
noncomputable def mP:FS:=(au (fB (gy (ax (bV 2 dg (aa (ab 0) (aa (ab 1) ah)))))
    (a_ (vC (.bool false)))
    bH)
    (a_ (aB (g1 (jL lm)) (aa (cQ [(0,"web")] 2 iH (aX (ao (af 1) (ao (af 2) aU))) cD fL) ah))))
noncomputable def en:FM:=gM 2 0 (([]++[])++[]) mP
theorem pV:aF ["web","thing"] ["web","thing"] (am gZ):=⟨rfl,rfl,rfl,by decide+kernel,rfl,by decide+kernel,by decide+kernel⟩
theorem uW(h:a' K mg "is_tree" gZ f fd ["web","thing"])(T:ji mg){Je:Addr}{Jf:FuncData}(Im:a' K mg "is_tree_form" cA Je Jf ["web","thing"])(IH:aJ P w K mg base bG 4 Je Jf ["web","thing"] (bL K 2 dg)){J4:Addr}{J5:FuncData}(Jn:a' K mg "may_ask" g_ J4 J5 ["web","stand","tie"])(JJ:aJ P w K mg base bG 4 J4 J5 ["web","stand","tie"] (bL K 3 eZ)){JK:Addr}{JL:FuncData}(IL:a' K mg "stands_of" ey JK JL ["web","tree"])(Ji:aJ P w K mg base bG 3 JK JL ["web","tree"] (bL K 2 f_)):aJ P w K mg base bG 5 f fd ["web","thing"] (bL K 2 en):=by
  have nd:=pV.nd
  exact h.fn pV rfl rfl (fun cdv A outer s H E hr=>(@ag _ _ _ _ _ _ _ _ (@bC _ _ _ _ _ _ _ _ _ _ _ (@fg _ _ _ _ _ (@cO _ _ _ _ (@a9 _ _ _ _ _ _ _ _ _ _ _ _ _ _ _ Im IH (hr.mono (by decide)) ((¬0)∘((¬1)∘ac)) (by rfl) (by decide) (by rfl) (by rfl)) (by intro _;rfl)))
      (@aj _ _ _ _ _ (@az _ _ _ _ _ (@cc _ _ _ _ _)))
      (@aP _ _))
      (@aj _ _ _ _ _ (@az _ _ _ _ _ (@aN _ _ _ _ _ _ _ _ _ (@b_all _ _ _ rfl hr) (by rfl) T.b_all ((@jA _ _ _ _ _ _ _ _ _ _ _ _ _ (am gZ) ["web","thing"] [(0,"web")] ["node","stand"] rfl rfl rfl (@sy _ _ _ _ _ _ _ _ _ _ rfl rfl T.b_zip ((¬1)∘((@a9 _ _ _ _ _ _ _ _ _ _ _ _ _ _ _ IL Ji (hr.mono (by decide)) ((¬0)∘((¬1)∘ac)) (by rfl) (by decide) (by rfl) (by rfl))∘ac)) (by rfl) (by rfl))
        (fun C s0 H0 fp=>(@cw _ _ _ _ _ _ _ _ rfl rfl (@ar _ _ _ _ _ _ _ _ (@ap _ _ _ 1 _ (show List.Nodup (["web","node","stand"]:List Str) by decide+kernel) rfl (Or.inl rfl) (by trivial)) (@ar _ _ _ _ _ _ _ _ (@ap _ _ _ 2 _ (show List.Nodup (["web","node","stand"]:List Str) by decide+kernel) rfl (Or.inl rfl) (by trivial)) (@bB _ _) (by rfl)) (by rfl)) (aA (aA cq)) (by rfl) (by rfl))) (fun C s0 H0 fp=>(@iI _ _))
        (fun C s0 H0 fp=>(@a9 _ _ _ _ _ _ _ _ _ _ _ _ _ _ _ Jn JJ (hr.mono (by decide)) ((¬0)∘((¬2)∘((@bT _ _ _ _ _ _ _ rfl (¬1) ae (fun _ _=>rfl))∘ac))) (by rfl) (by decide) (by rfl) (by rfl))) rfl (by decide+kernel) (by decide+kernel) (by decide+kernel) (by decide+kernel) (by decide+kernel) (by decide+kernel) (by decide+kernel) (by intro _;rfl))∘ac) (by decide) (by decide) (by rfl) (by rfl))))))
noncomputable def vD:FS:=(au (aY 2 (av aZ (av bu (av bu (av gu (av aZ (ab 0) (vC (.int 2147483647))) (vC (.int 48271))) (av gu (av gu (vC (.int 7919)) (ab 1)) (ab 1))) (vC (.int 104729))) (vC (.int 2147483647))))
    (a_ (av aZ (av gu (ab 2) (ab 2)) (vC (.int 2147483629)))))
noncomputable def k7:FM:=gM 2 1 ([2]++[]) vD
theorem tY:aF ["_law_cell","_law_k","_law_number"] ["_law_cell","_law_k"] (am mz):=⟨rfl,rfl,rfl,by decide+kernel,rfl,by decide+kernel,by decide+kernel⟩
theorem yO(h:a' K mg "_law_mixed" mz f fd ["_law_cell","_law_k"])(T:ji mg):aJ P w K mg base bG 1 f fd ["_law_cell","_law_k"] (bL K 2 k7):=by
  have nd:=tY.nd
  exact h.fn tY rfl rfl (fun cdv A outer s H E hr=>(@ag _ _ _ _ _ _ _ _ (@aI _ _ _ _ _ 2 _ _ nd rfl (Or.inl rfl) (@ba _ _ _ _ _ _ _ (@bA _ _ _ _ _ _ _ rfl (@bA _ _ _ _ _ _ _ rfl (@ky _ _ _ _ _ _ _ rfl (@ba _ _ _ _ _ _ _ (¬0) ae) ae) (@ky _ _ _ _ _ _ _ rfl (@ky _ _ _ _ _ _ _ rfl ae (¬1)) (¬1))) ae) ae) (by rfl) (by trivial))
      (@aj _ _ _ _ _ (@az _ _ _ _ _ (@ba _ _ _ _ _ _ _ (@ky _ _ _ _ _ _ _ rfl (¬2) (¬2)) ae)))))
noncomputable def gR:FT:=(jH (ax (av uH (ab 3) (av uI (vC (.int 10)) (vC (.int 18))))) (ax (av tD (aB (g1 cT) (aa (ab 1) ah)) (vC (.int 900)))))
noncomputable def kP:FS:=(au (cC (bW bc (ab 1) (aa (av aZ (ab 3) (vC (.int 2147483629))) ah)))
    (aY 3 (av gB (ab 3) (vC (.int 2147483629)))))
noncomputable def kY:FI:=(eK (aa (vC (.int 12)) ah))
noncomputable def iX:FS:=(cC (bW bc (ab 1) (aa (bV 2 k7 (aa (bV 2 k7 (aa (ab 3) (aa (av bu (av gu (vC (.int 3)) (ab 4)) (vC (.int 1))) ah))) (aa (av bu (av bu (ab 4) (ab 2)) (vC (.int 2))) ah))) ah)))
noncomputable def mW:FI:=(eK (aa (aB (g2 tF) (aa (aB (g1 cT) (aa (ab 0) ah)) (aa (vC (.int 63)) ah))) ah))
noncomputable def gQ:FS:=(au (aY 3 (aB (g1 wG) (aa (av dU (ab 0) (ab 2)) ah)))
    (au (fB (ax (av tD (ab 3) (av uI (vC (.int 10)) (vC (.int 18)))))
    (di ([4]++[]) kY (af 4) iX)
    bH)
    (au (jF (2 ^ 4200) gR kP)
    (fB (ax (av uH (ab 3) (vC (.int 2147483629))))
    (cC (bW bc (ab 1) (aa (av aZ (ab 3) (vC (.int 2147483629))) ah)))
    bH))))
noncomputable def vA:FS:=(au (aY 1 (dm ah))
    (au (di ([2]++([3]++((([4]++[])++[])++(([]++[3])++([]++[]))))) mW (af 2) gQ)
    (a_ (ab 1))))
noncomputable def me:FM:=gM 1 4 ([1]++(([2]++([3]++((([4]++[])++[])++(([]++[3])++([]++[])))))++[])) vA
theorem tW:aF ["_law_script","_law_drawn","_law_k","_law_cell","_law_j"] ["_law_script"] (am mx):=⟨rfl,rfl,rfl,by decide+kernel,rfl,by decide+kernel,by decide+kernel⟩
theorem yM(h:a' K mg "_law_draws" mx f fd ["_law_script"])(T:ji mg){Kn:Addr}{Ko:FuncData}(JM:a' K mg "_law_mixed" mz Kn Ko ["_law_cell","_law_k"])(JS:aJ P w K mg base bG 1 Kn Ko ["_law_cell","_law_k"] (bL K 2 k7)):aJ P w K mg base bG 2 f fd ["_law_script"] (bL K 1 me):=by
  have nd:=tW.nd
  exact h.fn tW rfl rfl (fun cdv A outer s H E hr=>(@ag _ _ _ _ _ _ _ _ (@aI _ _ _ _ _ 1 _ _ nd rfl (Or.inl rfl) (@bN _ _ _ _ _ ac) (by rfl) (by trivial))
      (@ag _ _ _ _ _ _ _ _ (@cF _ _ _ _ _ _ _ _ _ _ _ PassesOwn.never rfl (@ff _ _ _ _ _ _ _ rfl T.b_range ((@aN _ _ _ _ _ _ _ _ _ (@b_min _ _ rfl) (by rfl) T.b_min ((@aN _ _ _ _ _ _ _ _ _ (@b_len _ _ rfl) (by rfl) T.b_len ((¬0)∘ac) (by decide) (by decide) (by rfl) (by rfl))∘(ae∘ac)) (by decide) (by decide) (by rfl) (by rfl))∘ac) (by rfl)) (@ap _ _ _ 2 _ nd rfl (Or.inl rfl) (by trivial))
      (@ag _ _ _ _ _ _ _ _ (@aI _ _ _ _ _ 3 _ _ nd rfl (Or.inl rfl) (@aN _ _ _ _ _ _ _ _ _ (@b_abs _ _) (by rfl) T.b_abs ((@bT _ _ _ _ _ _ _ rfl (¬0) (¬2) (fun _ _=>rfl))∘ac) (by decide) (by decide) (by rfl) (by rfl)) (by rfl) (by trivial))
      (@ag _ _ _ _ _ _ _ _ (@bC _ _ _ _ _ _ _ _ _ _ _ (@aT _ _ _ _ _ _ _ _ _ (@sS _ _) (¬3) (@CG _ _ _ _ _ _ _ ae ae) (aM _))
      (@aj _ _ _ _ _ (@cF _ _ _ _ _ _ _ _ _ _ _ PassesOwn.never rfl (@ff _ _ _ _ _ _ _ rfl T.b_range (ae∘ac) (by rfl)) (@ap _ _ _ 4 _ nd rfl (Or.inl rfl) (by trivial))
      (@aj _ _ _ _ _ (@dB _ _ _ _ _ (@dh _ _ _ _ _ _ _ _ _ rfl (¬1) ((@a9 _ _ _ _ _ _ _ _ _ _ _ _ _ _ _ JM JS (hr.mono (by decide)) ((@a9 _ _ _ _ _ _ _ _ _ _ _ _ _ _ _ JM JS (hr.mono (by decide)) ((¬3)∘((@bA _ _ _ _ _ _ _ rfl (@ky _ _ _ _ _ _ _ rfl ae (¬4)) ae)∘ac)) (by rfl) (by decide) (by rfl) (by rfl))∘((@bA _ _ _ _ _ _ _ rfl (@bA _ _ _ _ _ _ _ rfl (¬4) (¬2)) ae)∘ac)) (by rfl) (by decide) (by rfl) (by rfl))∘ac) (by rfl) (by rfl) (by rfl) (by rfl) (by rfl)) (by rfl))) (by intro _;rfl)))
      (@aP _ _))
      (@ag _ _ _ _ _ _ _ _ (@ms _ _ _ _ _ _ _ _ _ PassesOwn.never (@m7 _ _ _ _ (@pL _ _ _ _ _ _ _ _ (@aT _ _ _ _ _ _ _ _ _ (@sR _ _) (¬3) (@CG _ _ _ _ _ _ _ ae ae) (aM _)) (@oJ _ _ _ _ _ (@aT _ _ _ _ _ _ _ _ _ (@sS _ _) (@aN _ _ _ _ _ _ _ _ _ (@b_len _ _ rfl) (by rfl) T.b_len ((¬1)∘ac) (by decide) (by decide) (by rfl) (by rfl)) ae (aM _)))))
      (@ag _ _ _ _ _ _ _ _ (@dB _ _ _ _ _ (@dh _ _ _ _ _ _ _ _ _ rfl (¬1) ((@ba _ _ _ _ _ _ _ (¬3) ae)∘ac) (by rfl) (by rfl) (by rfl) (by rfl) (by rfl)) (by rfl))
      (@aj _ _ _ _ _ (@aI _ _ _ _ _ 3 _ _ nd rfl (Or.inl rfl) (@kx _ _ _ _ _ _ _ (¬3) ae) (by rfl) (by trivial)))))
      (@aj _ _ _ _ _ (@bC _ _ _ _ _ _ _ _ _ _ _ (@aT _ _ _ _ _ _ _ _ _ (@sR _ _) (¬3) ae (aM _))
      (@aj _ _ _ _ _ (@dB _ _ _ _ _ (@dh _ _ _ _ _ _ _ _ _ rfl (¬1) ((@ba _ _ _ _ _ _ _ (¬3) ae)∘ac) (by rfl) (by rfl) (by rfl) (by rfl) (by rfl)) (by rfl)))
      (@aP _ _)))))) (by intro _;rfl))
      (@aj _ _ _ _ _ (@az _ _ _ _ _ (¬1))))))
noncomputable def uC:FS:=(au (fB (ax (av (bv false) (ab 0) (dm ah)))
    (a_ (vC (.int 0)))
    bH)
    (a_ (bW eL (ab 0) (aa (vC (.int 0)) ah))))
noncomputable def a8:FM:=gM 1 0 (([]++[])++[]) uC
theorem we:aF ["_law_drawn"] ["_law_drawn"] (am iR):=⟨rfl,rfl,rfl,by decide+kernel,rfl,by decide+kernel,by decide+kernel⟩
theorem A8(h:a' K mg "_law_next" iR f fd ["_law_drawn"])(T:ji mg):aJ P w K mg base bG 1 f fd ["_law_drawn"] (bL K 1 a8):=by
  have nd:=we.nd
  exact h.fn we rfl rfl (fun cdv A outer s H E hr=>(@ag _ _ _ _ _ _ _ _ (@bC _ _ _ _ _ _ _ _ _ _ _ (@aT _ _ _ _ _ _ _ _ _ (@p9 _ _ _ rfl hr) (¬0) (@bN _ _ _ _ _ ac) (aM _))
      (@aj _ _ _ _ _ (@az _ _ _ _ _ ae))
      (@aP _ _))
      (@aj _ _ _ _ _ (@az _ _ _ _ _ (@sx _ _ _ _ _ _ _ _ _ rfl (¬0) (ae∘ac) (by rfl) (by rfl) (by rfl) (by rfl) (by rfl))))))
noncomputable def lU:FT:=(ax (av (bv true) (ab 1) (vC (.int 0))))
noncomputable def oC:FS:=(pO 0 1 (aa (ab 1) (aa (av aZ (ab 0) (ab 1)) ah)))
noncomputable def Cj:FS:=(au (jF (2 ^ 4200) lU oC)
    (a_ (aB (g1 wG) (aa (ab 0) ah))))
noncomputable def tI:FM:=gM 2 0 ([0,1]++[]) Cj
theorem zA:aF ["_law_one","_law_other"] ["_law_one","_law_other"] (am tS):=⟨rfl,rfl,rfl,by decide+kernel,rfl,by decide+kernel,by decide+kernel⟩
theorem Dw(h:a' K mg "_law_gcd" tS f fd ["_law_one","_law_other"])(T:ji mg):aJ P w K mg base bG 1 f fd ["_law_one","_law_other"] (bL K 2 tI):=by
  have nd:=zA.nd
  exact h.fn zA rfl rfl (fun cdv A outer s H E hr=>(@ag _ _ _ _ _ _ _ _ (@ms _ _ _ _ _ _ _ _ _ PassesOwn.never (@aT _ _ _ _ _ _ _ _ _ (@lV _ _ _ rfl hr) (¬1) ae (aM _))
      (@aj _ _ _ _ _ (@Ec _ _ _ _ _ 0 1 _ _ _ _ _ _ _ _ _ rfl nd rfl rfl (by decide) rfl rfl ((¬1)∘((@ba _ _ _ _ _ _ _ (¬0) (¬1))∘ac)) (by rfl) (by rfl))))
      (@aj _ _ _ _ _ (@az _ _ _ _ _ (@aN _ _ _ _ _ _ _ _ _ (@b_abs _ _) (by rfl) T.b_abs ((¬0)∘ac) (by decide) (by decide) (by rfl) (by rfl))))))
noncomputable def Ck:FS:=(au (aY 2 (bV 2 tI (aa (ab 0) (aa (ab 1) ah))))
    (a_ (bj (aa (av gB (ab 0) (ab 2)) (aa (av gB (ab 1) (ab 2)) ah)))))
noncomputable def qR:FM:=gM 2 1 ([2]++[]) Ck
theorem zB:aF ["_law_top","_law_bottom","_law_common"] ["_law_top","_law_bottom"] (am tT):=⟨rfl,rfl,rfl,by decide+kernel,rfl,by decide+kernel,by decide+kernel⟩
theorem Dx(h:a' K mg "_law_low" tT f fd ["_law_top","_law_bottom"])(T:ji mg){KL:Addr}{KM:FuncData}(KA:a' K mg "_law_gcd" tS KL KM ["_law_one","_law_other"])(KI:aJ P w K mg base bG 1 KL KM ["_law_one","_law_other"] (bL K 2 tI)):aJ P w K mg base bG 2 f fd ["_law_top","_law_bottom"] (bL K 2 qR):=by
  have nd:=zB.nd
  exact h.fn zB rfl rfl (fun cdv A outer s H E hr=>(@ag _ _ _ _ _ _ _ _ (@aI _ _ _ _ _ 2 _ _ nd rfl (Or.inl rfl) (@a9 _ _ _ _ _ _ _ _ _ _ _ _ _ _ _ KA KI (hr.mono (by decide)) ((¬0)∘((¬1)∘ac)) (by rfl) (by decide) (by rfl) (by rfl)) (by rfl) (by trivial))
      (@aj _ _ _ _ _ (@az _ _ _ _ _ (@aR _ _ _ _ _ _ ((@kx _ _ _ _ _ _ _ (¬0) (¬2))∘((@kx _ _ _ _ _ _ _ (¬1) (¬2))∘ac)))))))
noncomputable def xV:FS:=(au (fB (ax (ab 1))
    (a_ (av Fd (ab 0) (vC (.bool true))))
    bH)
    (a_ (av Fd (ab 0) (vC (.bool false)))))
noncomputable def pA:FM:=gM 2 0 (([]++[])++[]) xV
theorem wf:aF ["_law_found","_law_due"] ["_law_found","_law_due"] (am pM):=⟨rfl,rfl,rfl,by decide+kernel,rfl,by decide+kernel,by decide+kernel⟩
theorem A9(h:a' K mg "_law_says" pM f fd ["_law_found","_law_due"])(T:ji mg):aJ P w K mg base bG 1 f fd ["_law_found","_law_due"] (bL K 2 pA):=by
  have nd:=wf.nd
  exact h.fn wf rfl rfl (fun cdv A outer s H E hr=>(@ag _ _ _ _ _ _ _ _ (@bC _ _ _ _ _ _ _ _ _ _ _ (@cO _ _ _ _ (¬1) (by intro _;rfl))
      (@aj _ _ _ _ _ (@az _ _ _ _ _ (@mn _ _ _ _ _ _ _ _ _ (@E7 _ _) (¬0) (@cc _ _ _ _ _) (aM _))))
      (@aP _ _))
      (@aj _ _ _ _ _ (@az _ _ _ _ _ (@mn _ _ _ _ _ _ _ _ _ (@E7 _ _) (¬0) (@cc _ _ _ _ _) (aM _))))))
noncomputable def jY:FS:=(au (fB (ax (av (bv false) (ab 1) (vC (.int 0))))
    (a_ (av dU (dm (aa (bj (aa (vC (.int 1)) (aa (vC (.int 2)) ah))) (aa (bj (aa (vC (.int 1)) (aa (vC (.int 3)) ah))) (aa (bj (aa (vC (.int 2)) (aa (vC (.int 3)) ah))) (aa (bj (aa (vC (.int 1)) (aa (vC (.int 1)) ah))) (aa (bj (aa (vC (.int 0)) (aa (vC (.int 1)) ah))) (aa (bj (aa (vC (.int 3)) (aa (vC (.int 4)) ah))) ah))))))) (av aZ (ab 0) (vC (.int 6)))))
    bH)
    (au (fB (ax (av (bv false) (ab 1) (vC (.int 1))))
    (au (aY 2 (av bu (vC (.int 2)) (av aZ (ab 0) (vC (.int 9)))))
    (a_ (bV 2 qR (aa (av bu (vC (.int 1)) (av aZ (av gB (ab 0) (vC (.int 9))) (av gq (ab 2) (vC (.int 1))))) (aa (ab 2) ah)))))
    bH)
    (au (fB (ax (av (bv false) (ab 1) (vC (.int 2))))
    (au (aY 2 (av bu (vC (.int 1)) (av aZ (ab 0) (vC (.int 100)))))
    (a_ (bV 2 qR (aa (av aZ (av gB (ab 0) (vC (.int 100))) (av bu (ab 2) (vC (.int 1)))) (aa (ab 2) ah)))))
    bH)
    (a_ (bj (aa (vC (.int 1)) (aa (vC (.int 1)) ah)))))))
noncomputable def fY:FM:=gM 2 1 (([]++[])++((([2]++[])++[])++((([2]++[])++[])++[]))) jY
theorem qZ:aF ["_law_number","_law_kind","_law_bottom"] ["_law_number","_law_kind"] (am kG):=⟨rfl,rfl,rfl,by decide+kernel,rfl,by decide+kernel,by decide+kernel⟩
theorem xg(h:a' K mg "_law_chance" kG f fd ["_law_number","_law_kind"])(T:ji mg){KN:Addr}{KO:FuncData}(Kp:a' K mg "_law_low" tT KN KO ["_law_top","_law_bottom"])(KB:aJ P w K mg base bG 2 KN KO ["_law_top","_law_bottom"] (bL K 2 qR)):aJ P w K mg base bG 3 f fd ["_law_number","_law_kind"] (bL K 2 fY):=by
  have nd:=qZ.nd
  exact h.fn qZ rfl rfl (fun cdv A outer s H E hr=>(@ag _ _ _ _ _ _ _ _ (@bC _ _ _ _ _ _ _ _ _ _ _ (@aT _ _ _ _ _ _ _ _ _ (@p9 _ _ _ rfl hr) (¬1) ae (aM _))
      (@aj _ _ _ _ _ (@az _ _ _ _ _ (@bT _ _ _ _ _ _ _ rfl (@bN _ _ _ _ _ ((@aR _ _ _ _ _ _ (ae∘(ae∘ac)))∘((@aR _ _ _ _ _ _ (ae∘(ae∘ac)))∘((@aR _ _ _ _ _ _ (ae∘(ae∘ac)))∘((@aR _ _ _ _ _ _ (ae∘(ae∘ac)))∘((@aR _ _ _ _ _ _ (ae∘(ae∘ac)))∘((@aR _ _ _ _ _ _ (ae∘(ae∘ac)))∘ac))))))) (@ba _ _ _ _ _ _ _ (¬0) ae) (fun _ _=>rfl))))
      (@aP _ _))
      (@ag _ _ _ _ _ _ _ _ (@bC _ _ _ _ _ _ _ _ _ _ _ (@aT _ _ _ _ _ _ _ _ _ (@p9 _ _ _ rfl hr) (¬1) ae (aM _))
      (@ag _ _ _ _ _ _ _ _ (@aI _ _ _ _ _ 2 _ _ nd rfl (Or.inl rfl) (@bA _ _ _ _ _ _ _ rfl ae (@ba _ _ _ _ _ _ _ (¬0) ae)) (by rfl) (by trivial))
      (@aj _ _ _ _ _ (@az _ _ _ _ _ (@a9 _ _ _ _ _ _ _ _ _ _ _ _ _ _ _ Kp KB (hr.mono (by decide)) ((@bA _ _ _ _ _ _ _ rfl ae (@ba _ _ _ _ _ _ _ (@kx _ _ _ _ _ _ _ (¬0) ae) (@og _ _ _ _ _ _ _ (¬2) ae)))∘((¬2)∘ac)) (by rfl) (by decide) (by rfl) (by rfl)))))
      (@aP _ _))
      (@ag _ _ _ _ _ _ _ _ (@bC _ _ _ _ _ _ _ _ _ _ _ (@aT _ _ _ _ _ _ _ _ _ (@p9 _ _ _ rfl hr) (¬1) ae (aM _))
      (@ag _ _ _ _ _ _ _ _ (@aI _ _ _ _ _ 2 _ _ nd rfl (Or.inl rfl) (@bA _ _ _ _ _ _ _ rfl ae (@ba _ _ _ _ _ _ _ (¬0) ae)) (by rfl) (by trivial))
      (@aj _ _ _ _ _ (@az _ _ _ _ _ (@a9 _ _ _ _ _ _ _ _ _ _ _ _ _ _ _ Kp KB (hr.mono (by decide)) ((@ba _ _ _ _ _ _ _ (@kx _ _ _ _ _ _ _ (¬0) ae) (@bA _ _ _ _ _ _ _ rfl (¬2) ae))∘((¬2)∘ac)) (by rfl) (by decide) (by rfl) (by rfl)))))
      (@aP _ _))
      (@aj _ _ _ _ _ (@az _ _ _ _ _ (@aR _ _ _ _ _ _ (ae∘(ae∘ac)))))))))
noncomputable def vE:FS:=(a_ (av dU (dm (aa (av aZ (ab 0) (vC (.int 7))) (aa (av bu (vC (.int 5)) (av aZ (ab 0) (vC (.int 2)))) (aa (av aZ (ab 0) (vC (.int 1001))) (aa (av gq (vC (.int 1000)) (av aZ (ab 0) (vC (.int 3)))) ah))))) (av aZ (ab 1) (vC (.int 4)))))
noncomputable def mf:FM:=gM 2 0 [] vE
theorem tZ:aF ["_law_number","_law_kind"] ["_law_number","_law_kind"] (am mB):=⟨rfl,rfl,rfl,by decide+kernel,rfl,by decide+kernel,by decide+kernel⟩
theorem yP(h:a' K mg "_law_worth" mB f fd ["_law_number","_law_kind"])(T:ji mg):aJ P w K mg base bG 1 f fd ["_law_number","_law_kind"] (bL K 2 mf):=by
  have nd:=tZ.nd
  exact h.fn tZ rfl rfl (fun cdv A outer s H E hr=>(@aj _ _ _ _ _ (@az _ _ _ _ _ (@bT _ _ _ _ _ _ _ rfl (@bN _ _ _ _ _ ((@ba _ _ _ _ _ _ _ (¬0) ae)∘((@bA _ _ _ _ _ _ _ rfl ae (@ba _ _ _ _ _ _ _ (¬0) ae))∘((@ba _ _ _ _ _ _ _ (¬0) ae)∘((@og _ _ _ _ _ _ _ ae (@ba _ _ _ _ _ _ _ (¬0) ae))∘ac))))) (@ba _ _ _ _ _ _ _ (¬1) ae) (fun _ _=>rfl)))))
noncomputable def pe:FI:=(eK (aa (ab 2) ah))
noncomputable def iZ:FS:=(au (aY 8 (bV 1 a8 (aa (ab 0) ah)))
    (au (aY 9 (av dU (dm (aa (av aZ (ab 8) (ab 1)) (aa (vC (.int 0)) (aa (av aZ (ab 7) (ab 1)) (aa (av aZ (ab 8) (ab 1)) (aa (av aZ (ab 8) (vC (.int 2))) (aa (av aZ (ab 8) (ab 1)) ah))))))) (ab 3)))
    (au (aY 10 (av aZ (av bu (av bu (ab 9) (vC (.int 1))) (av aZ (av gB (ab 8) (vC (.int 12))) (av gq (ab 1) (vC (.int 1))))) (ab 1)))
    (au (fB (ax (av (bv false) (ab 3) (vC (.int 4))))
    (jE (bj (aa (vC (.int 0)) (aa (vC (.int 1)) ah))) (aX (ao (af 9) (ao (af 10) aU))))
    bH)
    (au (aY 11 (bV 1 a8 (aa (ab 0) ah)))
    (au (aY 12 (bj (aa (aB (g2 tF) (aa (ab 9) (aa (ab 10) ah))) (aa (aB (g2 oo) (aa (ab 9) (aa (ab 10) ah))) ah))))
    (cC (bW bc (ab 6) (aa (av bu (ab 12) (bj (aa (bV 2 fY (aa (ab 11) (aa (ab 4) ah))) (aa (bV 2 mf (aa (av gB (ab 11) (vC (.int 10007))) (aa (ab 5) ah))) ah)))) ah)))))))))
noncomputable def xW:FS:=(au (aY 3 (av aZ (bV 1 a8 (aa (ab 0) ah)) (vC (.int 6))))
    (au (aY 4 (av aZ (bV 1 a8 (aa (ab 0) ah)) (vC (.int 4))))
    (au (aY 5 (av aZ (bV 1 a8 (aa (ab 0) ah)) (vC (.int 4))))
    (au (aY 6 (dm ah))
    (au (di ([7]++([8]++([9]++([10]++((([9]++([10]++[]))++[])++([11]++([12]++[]))))))) pe (af 7) iZ)
    (a_ (aB (g1 cN) (aa (ab 6) ah))))))))
noncomputable def pB:FM:=gM 3 10 ([3]++([4]++([5]++([6]++(([7]++([8]++([9]++([10]++((([9]++([10]++[]))++[])++([11]++([12]++[])))))))++[]))))) xW
theorem wg:aF ["_law_drawn","_law_things","_law_many","_law_shape","_law_odds","_law_worths","_law_found","_law_k","_law_number","_law_one","_law_other","_law_cell","_law_ends"] ["_law_drawn","_law_things","_law_many"] (am pN):=⟨rfl,rfl,rfl,by decide+kernel,rfl,by decide+kernel,by decide+kernel⟩
theorem A_(h:a' K mg "_law_ties" pN f fd ["_law_drawn","_law_things","_law_many"])(T:ji mg){Io:Addr}{Ip:FuncData}(HY:a' K mg "_law_next" iR Io Ip ["_law_drawn"])(HZ:aJ P w K mg base bG 1 Io Ip ["_law_drawn"] (bL K 1 a8)){Ke:Addr}{Kf:FuncData}(JB:a' K mg "_law_chance" kG Ke Kf ["_law_number","_law_kind"])(JT:aJ P w K mg base bG 3 Ke Kf ["_law_number","_law_kind"] (bL K 2 fY)){Kq:Addr}{Kr:FuncData}(JU:a' K mg "_law_worth" mB Kq Kr ["_law_number","_law_kind"])(Ka:aJ P w K mg base bG 1 Kq Kr ["_law_number","_law_kind"] (bL K 2 mf)):aJ P w K mg base bG 4 f fd ["_law_drawn","_law_things","_law_many"] (bL K 3 pB):=by
  have nd:=wg.nd
  exact h.fn wg rfl rfl (fun cdv A outer s H E hr=>(@ag _ _ _ _ _ _ _ _ (@aI _ _ _ _ _ 3 _ _ nd rfl (Or.inl rfl) (@ba _ _ _ _ _ _ _ (@a9 _ _ _ _ _ _ _ _ _ _ _ _ _ _ _ HY HZ (hr.mono (by decide)) ((¬0)∘ac) (by rfl) (by decide) (by rfl) (by rfl)) ae) (by rfl) (by trivial))
      (@ag _ _ _ _ _ _ _ _ (@aI _ _ _ _ _ 4 _ _ nd rfl (Or.inl rfl) (@ba _ _ _ _ _ _ _ (@a9 _ _ _ _ _ _ _ _ _ _ _ _ _ _ _ HY HZ (hr.mono (by decide)) ((¬0)∘ac) (by rfl) (by decide) (by rfl) (by rfl)) ae) (by rfl) (by trivial))
      (@ag _ _ _ _ _ _ _ _ (@aI _ _ _ _ _ 5 _ _ nd rfl (Or.inl rfl) (@ba _ _ _ _ _ _ _ (@a9 _ _ _ _ _ _ _ _ _ _ _ _ _ _ _ HY HZ (hr.mono (by decide)) ((¬0)∘ac) (by rfl) (by decide) (by rfl) (by rfl)) ae) (by rfl) (by trivial))
      (@ag _ _ _ _ _ _ _ _ (@aI _ _ _ _ _ 6 _ _ nd rfl (Or.inl rfl) (@bN _ _ _ _ _ ac) (by rfl) (by trivial))
      (@ag _ _ _ _ _ _ _ _ (@cF _ _ _ _ _ _ _ _ _ _ _ PassesOwn.never rfl (@ff _ _ _ _ _ _ _ rfl T.b_range ((¬2)∘ac) (by rfl)) (@ap _ _ _ 7 _ nd rfl (Or.inl rfl) (by trivial))
      (@ag _ _ _ _ _ _ _ _ (@aI _ _ _ _ _ 8 _ _ nd rfl (Or.inl rfl) (@a9 _ _ _ _ _ _ _ _ _ _ _ _ _ _ _ HY HZ (hr.mono (by decide)) ((¬0)∘ac) (by rfl) (by decide) (by rfl) (by rfl)) (by rfl) (by trivial))
      (@ag _ _ _ _ _ _ _ _ (@aI _ _ _ _ _ 9 _ _ nd rfl (Or.inl rfl) (@bT _ _ _ _ _ _ _ rfl (@bN _ _ _ _ _ ((@ba _ _ _ _ _ _ _ (¬8) (¬1))∘(ae∘((@ba _ _ _ _ _ _ _ (¬7) (¬1))∘((@ba _ _ _ _ _ _ _ (¬8) (¬1))∘((@ba _ _ _ _ _ _ _ (¬8) ae)∘((@ba _ _ _ _ _ _ _ (¬8) (¬1))∘ac))))))) (¬3) (fun _ _=>rfl)) (by rfl) (by trivial))
      (@ag _ _ _ _ _ _ _ _ (@aI _ _ _ _ _ 10 _ _ nd rfl (Or.inl rfl) (@ba _ _ _ _ _ _ _ (@bA _ _ _ _ _ _ _ rfl (@bA _ _ _ _ _ _ _ rfl (¬9) ae) (@ba _ _ _ _ _ _ _ (@kx _ _ _ _ _ _ _ (¬8) ae) (@og _ _ _ _ _ _ _ (¬1) ae))) (¬1)) (by rfl) (by trivial))
      (@ag _ _ _ _ _ _ _ _ (@bC _ _ _ _ _ _ _ _ _ _ _ (@aT _ _ _ _ _ _ _ _ _ (@p9 _ _ _ rfl hr) (¬3) ae (aM _))
      (@aj _ _ _ _ _ (@jC _ _ _ _ _ _ _ _ (@aR _ _ _ _ _ _ (ae∘(ae∘ac))) (@cw _ _ _ _ _ _ _ _ rfl rfl (@ar _ _ _ _ _ _ _ _ (@ap _ _ _ 9 _ nd rfl (Or.inl rfl) (by trivial)) (@ar _ _ _ _ _ _ _ _ (@ap _ _ _ 10 _ nd rfl (Or.inl rfl) (by trivial)) (@bB _ _) (by rfl)) (by rfl)) (aA (aA cq)) (by rfl) (by rfl)) (by rfl) (by rfl) (by rfl)))
      (@aP _ _))
      (@ag _ _ _ _ _ _ _ _ (@aI _ _ _ _ _ 11 _ _ nd rfl (Or.inl rfl) (@a9 _ _ _ _ _ _ _ _ _ _ _ _ _ _ _ HY HZ (hr.mono (by decide)) ((¬0)∘ac) (by rfl) (by decide) (by rfl) (by rfl)) (by rfl) (by trivial))
      (@ag _ _ _ _ _ _ _ _ (@aI _ _ _ _ _ 12 _ _ nd rfl (Or.inl rfl) (@aR _ _ _ _ _ _ ((@aN _ _ _ _ _ _ _ _ _ (@b_min _ _ rfl) (by rfl) T.b_min ((¬9)∘((¬10)∘ac)) (by decide) (by decide) (by rfl) (by rfl))∘((@aN _ _ _ _ _ _ _ _ _ (@b_max _ _ rfl) (by rfl) T.b_max ((¬9)∘((¬10)∘ac)) (by decide) (by decide) (by rfl) (by rfl))∘ac))) (by rfl) (by trivial))
      (@aj _ _ _ _ _ (@dB _ _ _ _ _ (@dh _ _ _ _ _ _ _ _ _ rfl (¬6) ((@bA _ _ _ _ _ _ _ rfl (¬12) (@aR _ _ _ _ _ _ ((@a9 _ _ _ _ _ _ _ _ _ _ _ _ _ _ _ JB JT (hr.mono (by decide)) ((¬11)∘((¬4)∘ac)) (by rfl) (by decide) (by rfl) (by rfl))∘((@a9 _ _ _ _ _ _ _ _ _ _ _ _ _ _ _ JU Ka (hr.mono (by decide)) ((@kx _ _ _ _ _ _ _ (¬11) ae)∘((¬5)∘ac)) (by rfl) (by decide) (by rfl) (by rfl))∘ac))))∘ac) (by rfl) (by rfl) (by rfl) (by rfl) (by rfl)) (by rfl))))))))) (by intro _;rfl))
      (@aj _ _ _ _ _ (@az _ _ _ _ _ (@aN _ _ _ _ _ _ _ _ _ (@b_tuple _ _ rfl) (by rfl) T.b_tuple ((¬6)∘ac) (by decide) (by decide) (by rfl) (by rfl))))))))))
noncomputable def rS:FI:=(eK (aa (ab 3) ah))
noncomputable def oD:FS:=(cC (bW bc (ab 7) (aa (av dU (dm (aa (vC (.int 20)) (aa (av bu (vC (.int 1)) (av aZ (bV 1 a8 (aa (ab 0) ah)) (vC (.int 3)))) (aa (av aZ (bV 1 a8 (aa (ab 0) ah)) (vC (.int 21))) ah)))) (ab 6)) ah)))
noncomputable def Cm:FS:=(au (aY 3 (av aZ (bV 1 a8 (aa (ab 0) ah)) (av bu (ab 1) (vC (.int 1)))))
    (au (aY 4 (av gu (av aZ (bV 1 a8 (aa (ab 0) ah)) (av bu (ab 2) (vC (.int 1)))) (aB (g1 wJ) (aa (av Cv (ab 3) (vC (.int 1))) ah))))
    (au (aY 5 (bV 3 pB (aa (ab 0) (aa (aB (g2 oo) (aa (vC (.int 2)) (aa (ab 3) ah))) (aa (ab 4) ah)))))
    (au (aY 6 (av aZ (bV 1 a8 (aa (ab 0) ah)) (vC (.int 3))))
    (au (aY 7 (dm ah))
    (au (di ([8]++[]) rS (af 8) oD)
    (au (aY 9 (av dU (dm (aa (vC (.int 40)) (aa (av bu (vC (.int 1)) (av aZ (bV 1 a8 (aa (ab 0) ah)) (aB (g2 oo) (aa (vC (.int 1)) (aa (ab 4) ah))))) (aa (av aZ (bV 1 a8 (aa (ab 0) ah)) (vC (.int 41))) ah)))) (av aZ (bV 1 a8 (aa (ab 0) ah)) (vC (.int 3)))))
    (a_ (bj (aa (ab 3) (aa (ab 5) (aa (aB (g1 cN) (aa (ab 7) ah)) (aa (ab 9) ah)))))))))))))
noncomputable def tJ:FM:=gM 3 7 ([3]++([4]++([5]++([6]++([7]++(([8]++[])++([9]++[]))))))) Cm
theorem zD:aF ["_law_drawn","_law_most","_law_ties_here","_law_things","_law_many","_law_rows","_law_way","_law_patience","_law_k","_law_asks"] ["_law_drawn","_law_most","_law_ties_here"] (am tU):=⟨rfl,rfl,rfl,by decide+kernel,rfl,by decide+kernel,by decide+kernel⟩
theorem Dz(h:a' K mg "_law_web" tU f fd ["_law_drawn","_law_most","_law_ties_here"])(T:ji mg){KD:Addr}{KF:FuncData}(Kg:a' K mg "_law_ties" pN KD KF ["_law_drawn","_law_things","_law_many"])(Ks:aJ P w K mg base bG 4 KD KF ["_law_drawn","_law_things","_law_many"] (bL K 3 pB)){Io:Addr}{Ip:FuncData}(HY:a' K mg "_law_next" iR Io Ip ["_law_drawn"])(HZ:aJ P w K mg base bG 1 Io Ip ["_law_drawn"] (bL K 1 a8)):aJ P w K mg base bG 5 f fd ["_law_drawn","_law_most","_law_ties_here"] (bL K 3 tJ):=by
  have nd:=zD.nd
  exact h.fn zD rfl rfl (fun cdv A outer s H E hr=>(@ag _ _ _ _ _ _ _ _ (@aI _ _ _ _ _ 3 _ _ nd rfl (Or.inl rfl) (@ba _ _ _ _ _ _ _ (@a9 _ _ _ _ _ _ _ _ _ _ _ _ _ _ _ HY HZ (hr.mono (by decide)) ((¬0)∘ac) (by rfl) (by decide) (by rfl) (by rfl)) (@bA _ _ _ _ _ _ _ rfl (¬1) ae)) (by rfl) (by trivial))
      (@ag _ _ _ _ _ _ _ _ (@aI _ _ _ _ _ 4 _ _ nd rfl (Or.inl rfl) (@ky _ _ _ _ _ _ _ rfl (@ba _ _ _ _ _ _ _ (@a9 _ _ _ _ _ _ _ _ _ _ _ _ _ _ _ HY HZ (hr.mono (by decide)) ((¬0)∘ac) (by rfl) (by decide) (by rfl) (by rfl)) (@bA _ _ _ _ _ _ _ rfl (¬2) ae)) (@aN _ _ _ _ _ _ _ _ _ (@b_int _ _) (by rfl) T.b_int ((@mn _ _ _ _ _ _ _ _ _ (@C8 _ _) (¬3) ae (aM _))∘ac) (by decide) (by decide) (by rfl) (by rfl))) (by rfl) (by trivial))
      (@ag _ _ _ _ _ _ _ _ (@aI _ _ _ _ _ 5 _ _ nd rfl (Or.inl rfl) (@a9 _ _ _ _ _ _ _ _ _ _ _ _ _ _ _ Kg Ks (hr.mono (by decide)) ((¬0)∘((@aN _ _ _ _ _ _ _ _ _ (@b_max _ _ rfl) (by rfl) T.b_max (ae∘((¬3)∘ac)) (by decide) (by decide) (by rfl) (by rfl))∘((¬4)∘ac))) (by rfl) (by decide) (by rfl) (by rfl)) (by rfl) (by trivial))
      (@ag _ _ _ _ _ _ _ _ (@aI _ _ _ _ _ 6 _ _ nd rfl (Or.inl rfl) (@ba _ _ _ _ _ _ _ (@a9 _ _ _ _ _ _ _ _ _ _ _ _ _ _ _ HY HZ (hr.mono (by decide)) ((¬0)∘ac) (by rfl) (by decide) (by rfl) (by rfl)) ae) (by rfl) (by trivial))
      (@ag _ _ _ _ _ _ _ _ (@aI _ _ _ _ _ 7 _ _ nd rfl (Or.inl rfl) (@bN _ _ _ _ _ ac) (by rfl) (by trivial))
      (@ag _ _ _ _ _ _ _ _ (@cF _ _ _ _ _ _ _ _ _ _ _ PassesOwn.never rfl (@ff _ _ _ _ _ _ _ rfl T.b_range ((¬3)∘ac) (by rfl)) (@ap _ _ _ 8 _ nd rfl (Or.inl rfl) (by trivial))
      (@aj _ _ _ _ _ (@dB _ _ _ _ _ (@dh _ _ _ _ _ _ _ _ _ rfl (¬7) ((@bT _ _ _ _ _ _ _ rfl (@bN _ _ _ _ _ (ae∘((@bA _ _ _ _ _ _ _ rfl ae (@ba _ _ _ _ _ _ _ (@a9 _ _ _ _ _ _ _ _ _ _ _ _ _ _ _ HY HZ (hr.mono (by decide)) ((¬0)∘ac) (by rfl) (by decide) (by rfl) (by rfl)) ae))∘((@ba _ _ _ _ _ _ _ (@a9 _ _ _ _ _ _ _ _ _ _ _ _ _ _ _ HY HZ (hr.mono (by decide)) ((¬0)∘ac) (by rfl) (by decide) (by rfl) (by rfl)) ae)∘ac)))) (¬6) (fun _ _=>rfl))∘ac) (by rfl) (by rfl) (by rfl) (by rfl) (by rfl)) (by rfl))) (by intro _;rfl))
      (@ag _ _ _ _ _ _ _ _ (@aI _ _ _ _ _ 9 _ _ nd rfl (Or.inl rfl) (@bT _ _ _ _ _ _ _ rfl (@bN _ _ _ _ _ (ae∘((@bA _ _ _ _ _ _ _ rfl ae (@ba _ _ _ _ _ _ _ (@a9 _ _ _ _ _ _ _ _ _ _ _ _ _ _ _ HY HZ (hr.mono (by decide)) ((¬0)∘ac) (by rfl) (by decide) (by rfl) (by rfl)) (@aN _ _ _ _ _ _ _ _ _ (@b_max _ _ rfl) (by rfl) T.b_max (ae∘((¬4)∘ac)) (by decide) (by decide) (by rfl) (by rfl))))∘((@ba _ _ _ _ _ _ _ (@a9 _ _ _ _ _ _ _ _ _ _ _ _ _ _ _ HY HZ (hr.mono (by decide)) ((¬0)∘ac) (by rfl) (by decide) (by rfl) (by rfl)) ae)∘ac)))) (@ba _ _ _ _ _ _ _ (@a9 _ _ _ _ _ _ _ _ _ _ _ _ _ _ _ HY HZ (hr.mono (by decide)) ((¬0)∘ac) (by rfl) (by decide) (by rfl) (by rfl)) ae) (fun _ _=>rfl)) (by rfl) (by trivial))
      (@aj _ _ _ _ _ (@az _ _ _ _ _ (@aR _ _ _ _ _ _ ((¬3)∘((¬5)∘((@aN _ _ _ _ _ _ _ _ _ (@b_tuple _ _ rfl) (by rfl) T.b_tuple ((¬7)∘ac) (by decide) (by decide) (by rfl) (by rfl))∘((¬9)∘ac)))))))))))))))
noncomputable def sO:FS:=(au (jE (ab 0) (aX (ao (af 1) (ao (af 2) (ao (af 3) (ao (af 4) aU))))))
    (a_ (bj (aa (ab 1) (aa (ab 2) (aa (av gu (bj (aa (vC (.int 20)) ah)) (ab 1)) (aa (vC (.int 40)) ah)))))))
noncomputable def ij:FM:=gM 1 4 (([1]++([2]++([3]++([4]++[]))))++[]) sO
theorem q_:aF ["_law_web_here","_law_things","_law_ties_here","_law_patience","_law_asks"] ["_law_web_here"] (am kJ):=⟨rfl,rfl,rfl,by decide+kernel,rfl,by decide+kernel,by decide+kernel⟩
theorem xh(h:a' K mg "_law_enough" kJ f fd ["_law_web_here"])(T:ji mg):aJ P w K mg base bG 1 f fd ["_law_web_here"] (bL K 1 ij):=by
  have nd:=q_.nd
  exact h.fn q_ rfl rfl (fun cdv A outer s H E hr=>(@ag _ _ _ _ _ _ _ _ (@jC _ _ _ _ _ _ _ _ (¬0) (@cw _ _ _ _ _ _ _ _ rfl rfl (@ar _ _ _ _ _ _ _ _ (@ap _ _ _ 1 _ nd rfl (Or.inl rfl) (by trivial)) (@ar _ _ _ _ _ _ _ _ (@ap _ _ _ 2 _ nd rfl (Or.inl rfl) (by trivial)) (@ar _ _ _ _ _ _ _ _ (@ap _ _ _ 3 _ nd rfl (Or.inl rfl) (by trivial)) (@ar _ _ _ _ _ _ _ _ (@ap _ _ _ 4 _ nd rfl (Or.inl rfl) (by trivial)) (@bB _ _) (by rfl)) (by rfl)) (by rfl)) (by rfl)) (aA (aA (aA (aA cq)))) (by rfl) (by rfl)) (by rfl) (by rfl) (by rfl))
      (@aj _ _ _ _ _ (@az _ _ _ _ _ (@aR _ _ _ _ _ _ ((¬1)∘((¬2)∘((@ky _ _ _ _ _ _ _ rfl (@aR _ _ _ _ _ _ (ae∘ac)) (¬1))∘(ae∘ac)))))))))
noncomputable def nZ:FI:=(iw (ab 1))
noncomputable def fH:FT:=(ax (av (wH false) (ab 0) (li (av dU (av dU (ab 1) (vC (.int 1))) (ab 2)) bM (bI (vC (.int 2))))))
noncomputable def fK:FE:=(ab 2)
noncomputable def qq:FS:=(a_ (aB (g1 cT) (aa (cQ [(2,"_law_thing"),(0,"_law_web_here")] 1 nZ (af 2) fH fK) ah)))
noncomputable def el:FM:=gM 3 0 [] qq
theorem pR:aF ["_law_web_here","_law_asked","_law_thing"] ["_law_web_here","_law_asked","_law_thing"] (am fm):=⟨rfl,rfl,rfl,by decide+kernel,rfl,by decide+kernel,by decide+kernel⟩
theorem uS(h:a' K mg "_law_asks_of" fm f fd ["_law_web_here","_law_asked","_law_thing"])(T:ji mg):aJ P w K mg base bG 1 f fd ["_law_web_here","_law_asked","_law_thing"] (bL K 3 el):=by
  have nd:=pR.nd
  exact h.fn pR rfl rfl (fun cdv A outer s H E hr=>(@aj _ _ _ _ _ (@az _ _ _ _ _ (@aN _ _ _ _ _ _ _ _ _ (@b_len _ _ rfl) (by rfl) T.b_len ((@jA _ _ _ _ _ _ _ _ _ _ _ _ _ (am fm) ["_law_web_here","_law_asked","_law_thing"] [(2,"_law_thing"),(0,"_law_web_here")] ["_law_tie"] rfl rfl rfl (@dH _ _ _ _ _ rfl (¬1))
        (fun C s0 H0 fp=>(@ap _ _ _ 2 _ (show List.Nodup (["_law_thing","_law_web_here","_law_tie"]:List Str) by decide+kernel) rfl (Or.inl rfl) (by trivial))) (fun C s0 H0 fp=>(@mv _ _ _ _ (@aT _ _ _ _ _ _ _ _ _ (@x6 _ _ _ rfl hr) (¬0) (@bP _ _ _ _ _ _ _ _ _ _ rfl (@bT _ _ _ _ _ _ _ rfl (@bT _ _ _ _ _ _ _ rfl (¬1) ae (fun _ _=>rfl)) (¬2) (fun _ _=>rfl)) (@bQ _ _) (@bR _ _ _ _ ae)) (by with_unfolding_all rfl))))
        (fun C s0 H0 fp=>(¬2)) rfl (by decide+kernel) (by decide+kernel) (by decide+kernel) (by decide+kernel) (by decide+kernel) (by decide+kernel) (by decide+kernel) (by intro _;rfl))∘ac) (by decide) (by decide) (by rfl) (by rfl)))))
noncomputable def vP:FI:=(iw (li (av dU (av dU (ab 0) (vC (.int 1))) (ab 2)) bM (bI (vC (.int 2)))))
noncomputable def jo:FS:=(fB (oQ (ax (av (wH false) (ab 5) (ab 4))) (ax (av uH (bV 3 el (aa (ab 0) (aa (ab 3) (aa (ab 5) ah)))) (av dU (av dU (ab 0) (vC (.int 2))) (ab 5)))))
    (a_ (vC (.bool false)))
    bH)
noncomputable def qr:FS:=(au (jE (ab 1) (aX (ao (af 3) (ao (af 4) aU))))
    (au (fB (oQ (ax (av (wH false) (ab 2) (ab 3))) (ax (av uH (aB (g1 cT) (aa (ab 3) ah)) (av dU (ab 0) (vC (.int 3))))))
    (a_ (vC (.bool false)))
    bH)
    (au (di ([5]++([]++[])) vP (af 5) jo)
    (a_ (vC (.bool true))))))
noncomputable def jN:FM:=gM 3 3 (([3]++([4]++[]))++(([]++[])++(([5]++([]++[]))++[]))) qr
theorem zC:aF ["_law_web_here","_law_stand","_law_tie","_law_asked","_law_taken","_law_thing"] ["_law_web_here","_law_stand","_law_tie"] (am qW):=⟨rfl,rfl,rfl,by decide+kernel,rfl,by decide+kernel,by decide+kernel⟩
theorem Dy(h:a' K mg "_law_may" qW f fd ["_law_web_here","_law_stand","_law_tie"])(T:ji mg){IV:Addr}{IW:FuncData}(Iy:a' K mg "_law_asks_of" fm IV IW ["_law_web_here","_law_asked","_law_thing"])(II:aJ P w K mg base bG 1 IV IW ["_law_web_here","_law_asked","_law_thing"] (bL K 3 el)):aJ P w K mg base bG 2 f fd ["_law_web_here","_law_stand","_law_tie"] (bL K 3 jN):=by
  have nd:=zC.nd
  exact h.fn zC rfl rfl (fun cdv A outer s H E hr=>(@ag _ _ _ _ _ _ _ _ (@jC _ _ _ _ _ _ _ _ (¬1) (@cw _ _ _ _ _ _ _ _ rfl rfl (@ar _ _ _ _ _ _ _ _ (@ap _ _ _ 3 _ nd rfl (Or.inl rfl) (by trivial)) (@ar _ _ _ _ _ _ _ _ (@ap _ _ _ 4 _ nd rfl (Or.inl rfl) (by trivial)) (@bB _ _) (by rfl)) (by rfl)) (aA (aA cq)) (by rfl) (by rfl)) (by rfl) (by rfl) (by rfl))
      (@ag _ _ _ _ _ _ _ _ (@bC _ _ _ _ _ _ _ _ _ _ _ (@m7 _ _ _ _ (@kD _ _ _ _ _ _ _ _ (@aT _ _ _ _ _ _ _ _ _ (@x6 _ _ _ rfl hr) (¬2) (¬3) (by with_unfolding_all rfl)) (@jD _ _ _ _ _ (@aT _ _ _ _ _ _ _ _ _ (@sR _ _) (@aN _ _ _ _ _ _ _ _ _ (@b_len _ _ rfl) (by rfl) T.b_len ((¬3)∘ac) (by decide) (by decide) (by rfl) (by rfl)) (@bT _ _ _ _ _ _ _ rfl (¬0) ae (fun _ _=>rfl)) (aM _)))))
      (@aj _ _ _ _ _ (@az _ _ _ _ _ (@cc _ _ _ _ _)))
      (@aP _ _))
      (@ag _ _ _ _ _ _ _ _ (@cF _ _ _ _ _ _ _ _ _ _ _ PassesOwn.never rfl (@dH _ _ _ _ _ rfl (@bP _ _ _ _ _ _ _ _ _ _ rfl (@bT _ _ _ _ _ _ _ rfl (@bT _ _ _ _ _ _ _ rfl (¬0) ae (fun _ _=>rfl)) (¬2) (fun _ _=>rfl)) (@bQ _ _) (@bR _ _ _ _ ae))) (@ap _ _ _ 5 _ nd rfl (Or.inl rfl) (by trivial))
      (@aj _ _ _ _ _ (@bC _ _ _ _ _ _ _ _ _ _ _ (@m7 _ _ _ _ (@kD _ _ _ _ _ _ _ _ (@aT _ _ _ _ _ _ _ _ _ (@x6 _ _ _ rfl hr) (¬5) (¬4) (by with_unfolding_all rfl)) (@jD _ _ _ _ _ (@aT _ _ _ _ _ _ _ _ _ (@sR _ _) (@a9 _ _ _ _ _ _ _ _ _ _ _ _ _ _ _ Iy II (hr.mono (by decide)) ((¬0)∘((¬3)∘((¬5)∘ac))) (by rfl) (by decide) (by rfl) (by rfl)) (@bT _ _ _ _ _ _ _ rfl (@bT _ _ _ _ _ _ _ rfl (¬0) ae (fun _ _=>rfl)) (¬5) (fun _ _=>rfl)) (aM _)))))
      (@aj _ _ _ _ _ (@az _ _ _ _ _ (@cc _ _ _ _ _)))
      (@aP _ _))) (by intro _;rfl))
      (@aj _ _ _ _ _ (@az _ _ _ _ _ (@cc _ _ _ _ _)))))))
noncomputable def oV:FS:=(au (jE (ab 1) (aX (ao (af 4) (ao (af 5) aU))))
    (au (aY 6 (ab 5))
    (au (fB (ax (ab 3))
    (aY 6 (aB (g1 cN) (aa (aB (g1 c_) (aa (av bu (ab 5) (li (av dU (av dU (ab 0) (vC (.int 1))) (ab 2)) bM (bI (vC (.int 2))))) ah)) ah)))
    bH)
    (a_ (bj (aa (aB (g1 cN) (aa (aB (g1 c_) (aa (av bu (ab 4) (bj (aa (ab 2) ah))) ah)) ah)) (aa (ab 6) ah)))))))
noncomputable def dP:FM:=gM 4 3 (([4]++([5]++[]))++([6]++(([6]++[])++[]))) oV
theorem qY:aF ["_law_web_here","_law_stand","_law_tie","_law_truth","_law_asked","_law_taken","_law_more"] ["_law_web_here","_law_stand","_law_tie","_law_truth"] (am ja):=⟨rfl,rfl,rfl,by decide+kernel,rfl,by decide+kernel,by decide+kernel⟩
theorem xf(h:a' K mg "_law_behind" ja f fd ["_law_web_here","_law_stand","_law_tie","_law_truth"])(T:ji mg):aJ P w K mg base bG 1 f fd ["_law_web_here","_law_stand","_law_tie","_law_truth"] (bL K 4 dP):=by
  have nd:=qY.nd
  exact h.fn qY rfl rfl (fun cdv A outer s H E hr=>(@ag _ _ _ _ _ _ _ _ (@jC _ _ _ _ _ _ _ _ (¬1) (@cw _ _ _ _ _ _ _ _ rfl rfl (@ar _ _ _ _ _ _ _ _ (@ap _ _ _ 4 _ nd rfl (Or.inl rfl) (by trivial)) (@ar _ _ _ _ _ _ _ _ (@ap _ _ _ 5 _ nd rfl (Or.inl rfl) (by trivial)) (@bB _ _) (by rfl)) (by rfl)) (aA (aA cq)) (by rfl) (by rfl)) (by rfl) (by rfl) (by rfl))
      (@ag _ _ _ _ _ _ _ _ (@aI _ _ _ _ _ 6 _ _ nd rfl (Or.inl rfl) (¬5) (by rfl) (by trivial))
      (@ag _ _ _ _ _ _ _ _ (@bC _ _ _ _ _ _ _ _ _ _ _ (@cO _ _ _ _ (¬3) (by intro _;rfl))
      (@aj _ _ _ _ _ (@aI _ _ _ _ _ 6 _ _ nd rfl (Or.inl rfl) (@aN _ _ _ _ _ _ _ _ _ (@b_tuple _ _ rfl) (by rfl) T.b_tuple ((@aN _ _ _ _ _ _ _ _ _ (@lR _ _ rfl) (by rfl) T.b_sorted ((@bA _ _ _ _ _ _ _ rfl (¬5) (@bP _ _ _ _ _ _ _ _ _ _ rfl (@bT _ _ _ _ _ _ _ rfl (@bT _ _ _ _ _ _ _ rfl (¬0) ae (fun _ _=>rfl)) (¬2) (fun _ _=>rfl)) (@bQ _ _) (@bR _ _ _ _ ae)))∘ac) (by decide) (by decide) (by rfl) (by rfl))∘ac) (by decide) (by decide) (by rfl) (by rfl)) (by rfl) (by trivial)))
      (@aP _ _))
      (@aj _ _ _ _ _ (@az _ _ _ _ _ (@aR _ _ _ _ _ _ ((@aN _ _ _ _ _ _ _ _ _ (@b_tuple _ _ rfl) (by rfl) T.b_tuple ((@aN _ _ _ _ _ _ _ _ _ (@lR _ _ rfl) (by rfl) T.b_sorted ((@bA _ _ _ _ _ _ _ rfl (¬4) (@aR _ _ _ _ _ _ ((¬2)∘ac)))∘ac) (by decide) (by decide) (by rfl) (by rfl))∘ac) (by decide) (by decide) (by rfl) (by rfl))∘((¬6)∘ac)))))))))
noncomputable def kh:FI:=(eK (aa (aB (g1 cT) (aa (av dU (ab 0) (vC (.int 1))) ah)) ah))
noncomputable def fF:FT:=(ax (bV 3 jN (aa (ab 0) (aa (ab 1) (aa (ab 2) ah)))))
noncomputable def fJ:FE:=(ab 2)
noncomputable def qp:FS:=(a_ (cQ [(0,"_law_web_here"),(1,"_law_stand")] 1 kh (af 2) fF fJ))
noncomputable def i7:FM:=gM 2 0 [] qp
theorem pQ:aF ["_law_web_here","_law_stand"] ["_law_web_here","_law_stand"] (am gY):=⟨rfl,rfl,rfl,by decide+kernel,rfl,by decide+kernel,by decide+kernel⟩
theorem uR(h:a' K mg "_law_askable" gY f fd ["_law_web_here","_law_stand"])(T:ji mg){Kt:Addr}{Ku:FuncData}(Kb:a' K mg "_law_may" qW Kt Ku ["_law_web_here","_law_stand","_law_tie"])(Km:aJ P w K mg base bG 2 Kt Ku ["_law_web_here","_law_stand","_law_tie"] (bL K 3 jN)):aJ P w K mg base bG 3 f fd ["_law_web_here","_law_stand"] (bL K 2 i7):=by
  have nd:=pQ.nd
  exact h.fn pQ rfl rfl (fun cdv A outer s H E hr=>(@aj _ _ _ _ _ (@az _ _ _ _ _ (@jA _ _ _ _ _ _ _ _ _ _ _ _ _ (am gY) ["_law_web_here","_law_stand"] [(0,"_law_web_here"),(1,"_law_stand")] ["_law_tie"] rfl rfl rfl (@ff _ _ _ _ _ _ _ rfl T.b_range ((@aN _ _ _ _ _ _ _ _ _ (@b_len _ _ rfl) (by rfl) T.b_len ((@bT _ _ _ _ _ _ _ rfl (¬0) ae (fun _ _=>rfl))∘ac) (by decide) (by decide) (by rfl) (by rfl))∘ac) (by rfl))
        (fun C s0 H0 fp=>(@ap _ _ _ 2 _ (show List.Nodup (["_law_web_here","_law_stand","_law_tie"]:List Str) by decide+kernel) rfl (Or.inl rfl) (by trivial))) (fun C s0 H0 fp=>(@mv _ _ _ _ (@cO _ _ _ _ (@a9 _ _ _ _ _ _ _ _ _ _ _ _ _ _ _ Kb Km (hr.mono (by decide)) ((¬0)∘((¬1)∘((¬2)∘ac))) (by rfl) (by decide) (by rfl) (by rfl)) (by intro _;rfl))))
        (fun C s0 H0 fp=>(¬2)) rfl (by decide+kernel) (by decide+kernel) (by decide+kernel) (by decide+kernel) (by decide+kernel) (by decide+kernel) (by decide+kernel) (by intro _;rfl)))))
noncomputable def qM:FI:=(yo 3)
noncomputable def kW:FE:=(aB (g1 cN) (aa (ab 0) ah))
noncomputable def i3:FT:=(ax (av (bv true) (ab 4) (dm ah)))
noncomputable def iY:FS:=(au (jE (bW eL (ab 4) (aa (vC (.int 0)) ah)) (aX (ao (af 5) (ao (af 6) (ao (af 7) aU)))))
    (au (aY 8 (bV 2 i7 (aa (ab 1) (aa (ab 5) ah))))
    (au (aY 9 (bV 1 a8 (aa (ab 0) ah)))
    (fB (jH (ax (av (bv true) (ab 8) (dm ah))) (jH (ax (av tD (gG 3) (ab 2))) (oQ (ax (av (bv true) (av aZ (ab 9) (vC (.int 7))) (vC (.int 6)))) (ax (av tD (ab 6) (vC (.int 0)))))))
    (au (aY 10 (av dU (ab 8) (av aZ (av gB (ab 9) (vC (.int 7))) (aB (g1 cT) (aa (ab 8) ah)))))
    (au (fB (ax (av uH (ab 6) (vC (.int 0))))
    (qX 3 (gG 3) (ab 6) (w_ (nC 1) (xa 7)))
    bH)
    (au (cC (bW bc (ab 4) (aa (bj (aa (bV 4 dP (aa (ab 1) (aa (ab 5) (aa (ab 10) (aa (vC (.bool true)) ah))))) (aa (gG 3) (aa (vC (.int 0)) ah)))) ah)))
    (au (cC (bW bc (ab 4) (aa (bj (aa (bV 4 dP (aa (ab 1) (aa (ab 5) (aa (ab 10) (aa (vC (.bool false)) ah))))) (aa (gG 3) (aa (vC (.int 1)) ah)))) ah)))
    (cC (uk 3 (dm (aa (ab 10) (aa (jS kg (vC (.int 1))) (aa (jS kg (vC (.int 1))) ah))))))))))
    bH))))
noncomputable def vB:FS:=(au (zz 3)
    (au (aY 4 (dm (aa (bj (aa (bj (aa (bj ah) (aa (bj ah) ah))) (aa (jS kg (vC (.int 1))) (aa (vC (.int 0)) ah)))) ah)))
    (au (jF (2 ^ 4200) i3 iY)
    (a_ (aB (g1 cN) (aa (cQ [] 1 qM (af 0) cD kW) ah))))))
noncomputable def kZ:FM:=gM 3 8 ([3]++([4]++((([5]++([6]++([7]++[])))++([8]++([9]++(([10]++(([]++[])++([]++([]++[]))))++[]))))++[]))) vB
theorem tX:aF ["_law_drawn","_law_web_here","_law_most","_law_nodes","_law_waiting","_law_stand","_law_parent","_law_side","_law_some","_law_number","_law_tie"] ["_law_drawn","_law_web_here","_law_most"] (am k8):=⟨rfl,rfl,rfl,by decide+kernel,rfl,by decide+kernel,by decide+kernel⟩
theorem yN(h:a' K mg "_law_grown" k8 f fd ["_law_drawn","_law_web_here","_law_most"])(T:ji mg){J6:Addr}{J7:FuncData}(Jo:a' K mg "_law_askable" gY J6 J7 ["_law_web_here","_law_stand"])(JN:aJ P w K mg base bG 3 J6 J7 ["_law_web_here","_law_stand"] (bL K 2 i7)){Io:Addr}{Ip:FuncData}(HY:a' K mg "_law_next" iR Io Ip ["_law_drawn"])(HZ:aJ P w K mg base bG 1 Io Ip ["_law_drawn"] (bL K 1 a8)){Jp:Addr}{Jq:FuncData}(IB:a' K mg "_law_behind" ja Jp Jq ["_law_web_here","_law_stand","_law_tie","_law_truth"])(IM:aJ P w K mg base bG 1 Jp Jq ["_law_web_here","_law_stand","_law_tie","_law_truth"] (bL K 4 dP)):aJ P w K mg base bG 4 f fd ["_law_drawn","_law_web_here","_law_most"] (bL K 3 kZ):=by
  have nd:=tX.nd
  exact h.fn tX rfl rfl (fun cdv A outer s H E hr=>(@ag _ _ _ _ _ _ _ _ (@BM _ _ _ _ _ _ 3 nd rfl (Or.inl rfl) (by rfl) (by trivial))
      (@ag _ _ _ _ _ _ _ _ (@aI _ _ _ _ _ 4 _ _ nd rfl (Or.inl rfl) (@bN _ _ _ _ _ ((@aR _ _ _ _ _ _ ((@aR _ _ _ _ _ _ ((@aR _ _ _ _ _ _ ac)∘((@aR _ _ _ _ _ _ ac)∘ac)))∘((@kz _ _ _ _ _ ae)∘(ae∘ac))))∘ac)) (by rfl) (by trivial))
      (@ag _ _ _ _ _ _ _ _ (@ms _ _ _ _ _ _ _ _ _ PassesOwn.never (@aT _ _ _ _ _ _ _ _ _ (@lV _ _ _ rfl hr) (¬4) (@bN _ _ _ _ _ ac) (aM _))
      (@ag _ _ _ _ _ _ _ _ (@jC _ _ _ _ _ _ _ _ (@sx _ _ _ _ _ _ _ _ _ rfl (¬4) (ae∘ac) (by rfl) (by rfl) (by rfl) (by rfl) (by rfl)) (@cw _ _ _ _ _ _ _ _ rfl rfl (@ar _ _ _ _ _ _ _ _ (@ap _ _ _ 5 _ nd rfl (Or.inl rfl) (by trivial)) (@ar _ _ _ _ _ _ _ _ (@ap _ _ _ 6 _ nd rfl (Or.inl rfl) (by trivial)) (@ar _ _ _ _ _ _ _ _ (@ap _ _ _ 7 _ nd rfl (Or.inl rfl) (by trivial)) (@bB _ _) (by rfl)) (by rfl)) (by rfl)) (aA (aA (aA cq))) (by rfl) (by rfl)) (by rfl) (by rfl) (by rfl))
      (@ag _ _ _ _ _ _ _ _ (@aI _ _ _ _ _ 8 _ _ nd rfl (Or.inl rfl) (@a9 _ _ _ _ _ _ _ _ _ _ _ _ _ _ _ Jo JN (hr.mono (by decide)) ((¬1)∘((¬5)∘ac)) (by rfl) (by decide) (by rfl) (by rfl)) (by rfl) (by trivial))
      (@ag _ _ _ _ _ _ _ _ (@aI _ _ _ _ _ 9 _ _ nd rfl (Or.inl rfl) (@a9 _ _ _ _ _ _ _ _ _ _ _ _ _ _ _ HY HZ (hr.mono (by decide)) ((¬0)∘ac) (by rfl) (by decide) (by rfl) (by rfl)) (by rfl) (by trivial))
      (@aj _ _ _ _ _ (@bC _ _ _ _ _ _ _ _ _ _ _ (@m7 _ _ _ _ (@pL _ _ _ _ _ _ _ _ (@aT _ _ _ _ _ _ _ _ _ (@lV _ _ _ rfl hr) (¬8) (@bN _ _ _ _ _ ac) (aM _)) (@pL _ _ _ _ _ _ _ _ (@aT _ _ _ _ _ _ _ _ _ (@sS _ _) (@sv _ _ _ _ _ _ 3 rfl (by rfl) (by first | exact Or.inl rfl | exact Or.inr (Or.inl rfl) | exact Or.inr (Or.inr rfl)) (by decide) (by decide) (by rfl) T.b_len (by rfl) (by rfl) (by rfl)) (¬2) (aM _)) (@oJ _ _ _ _ _ (@m7 _ _ _ _ (@kD _ _ _ _ _ _ _ _ (@aT _ _ _ _ _ _ _ _ _ (@lV _ _ _ rfl hr) (@ba _ _ _ _ _ _ _ (¬9) ae) ae (aM _)) (@jD _ _ _ _ _ (@aT _ _ _ _ _ _ _ _ _ (@sS _ _) (¬6) ae (aM _)))))))))
      (@ag _ _ _ _ _ _ _ _ (@aI _ _ _ _ _ 10 _ _ nd rfl (Or.inl rfl) (@bT _ _ _ _ _ _ _ rfl (¬8) (@ba _ _ _ _ _ _ _ (@kx _ _ _ _ _ _ _ (¬9) ae) (@aN _ _ _ _ _ _ _ _ _ (@b_len _ _ rfl) (by rfl) T.b_len ((¬8)∘ac) (by decide) (by decide) (by rfl) (by rfl))) (fun _ _=>rfl)) (by rfl) (by trivial))
      (@ag _ _ _ _ _ _ _ _ (@bC _ _ _ _ _ _ _ _ _ _ _ (@aT _ _ _ _ _ _ _ _ _ (@sR _ _) (¬6) ae (aM _))
      (@aj _ _ _ _ _ (@BN _ _ _ _ _ _ 3 _ _ _ _ _ _ _ rfl (@sv _ _ _ _ _ _ 3 rfl (by rfl) (by first | exact Or.inl rfl | exact Or.inr (Or.inl rfl) | exact Or.inr (Or.inr rfl)) (by decide) (by decide) (by rfl) T.b_len (by rfl) (by rfl) (by rfl)) (by rfl) (by first | exact Or.inl rfl | exact Or.inr (Or.inl rfl) | exact Or.inr (Or.inr rfl)) (by decide) (by decide) (¬6) (fun _ _=>rfl) (@D' _ _ _ _ _ _ _ (@Ea _ _ _ _ _) (@Eb _ _ _ _ 7 (by rfl) (by first | exact Or.inl rfl | exact Or.inr (Or.inl rfl) | exact Or.inr (Or.inr rfl)) (by decide) (by decide))) (by intro _;rfl) (by rfl) (by rfl) (by rfl)))
      (@aP _ _))
      (@ag _ _ _ _ _ _ _ _ (@dB _ _ _ _ _ (@dh _ _ _ _ _ _ _ _ _ rfl (¬4) ((@aR _ _ _ _ _ _ ((@a9 _ _ _ _ _ _ _ _ _ _ _ _ _ _ _ IB IM (hr.mono (by decide)) ((¬1)∘((¬5)∘((¬10)∘((@cc _ _ _ _ _)∘ac)))) (by rfl) (by decide) (by rfl) (by rfl))∘((@sv _ _ _ _ _ _ 3 rfl (by rfl) (by first | exact Or.inl rfl | exact Or.inr (Or.inl rfl) | exact Or.inr (Or.inr rfl)) (by decide) (by decide) (by rfl) T.b_len (by rfl) (by rfl) (by rfl))∘(ae∘ac))))∘ac) (by rfl) (by rfl) (by rfl) (by rfl) (by rfl)) (by rfl))
      (@ag _ _ _ _ _ _ _ _ (@dB _ _ _ _ _ (@dh _ _ _ _ _ _ _ _ _ rfl (¬4) ((@aR _ _ _ _ _ _ ((@a9 _ _ _ _ _ _ _ _ _ _ _ _ _ _ _ IB IM (hr.mono (by decide)) ((¬1)∘((¬5)∘((¬10)∘((@cc _ _ _ _ _)∘ac)))) (by rfl) (by decide) (by rfl) (by rfl))∘((@sv _ _ _ _ _ _ 3 rfl (by rfl) (by first | exact Or.inl rfl | exact Or.inr (Or.inl rfl) | exact Or.inr (Or.inr rfl)) (by decide) (by decide) (by rfl) T.b_len (by rfl) (by rfl) (by rfl))∘(ae∘ac))))∘ac) (by rfl) (by rfl) (by rfl) (by rfl) (by rfl)) (by rfl))
      (@aj _ _ _ _ _ (@dB _ _ _ _ _ (@D9 _ _ _ _ _ _ 3 _ _ rfl (by rfl) (by first | exact Or.inl rfl | exact Or.inr (Or.inl rfl) | exact Or.inr (Or.inr rfl)) (by decide) (by decide) (@bN _ _ _ _ _ ((¬10)∘((@kz _ _ _ _ _ ae)∘((@kz _ _ _ _ _ ae)∘ac)))) (by rfl) (by rfl) (by rfl) (by rfl) (by rfl) (by rfl)) (by rfl)))))))
      (@aP _ _)))))))
      (@aj _ _ _ _ _ (@az _ _ _ _ _ (@aN _ _ _ _ _ _ _ _ _ (@b_tuple _ _ rfl) (by rfl) T.b_tuple ((@jA _ _ _ _ _ _ _ _ _ _ _ _ _ (am k8) ["_law_drawn","_law_web_here","_law_most","_law_nodes","_law_waiting","_law_stand","_law_parent","_law_side","_law_some","_law_number","_law_tie"] [] ["_law_node"] rfl rfl rfl (@BK _ _ _ _ 3 _ rfl (by rfl) (by first | exact Or.inl rfl | exact Or.inr (Or.inl rfl) | exact Or.inr (Or.inr rfl)) (by decide) (by decide))
        (fun C s0 H0 fp=>(@ap _ _ _ 0 _ (show List.Nodup (["_law_node"]:List Str) by decide+kernel) rfl (Or.inl rfl) (by trivial))) (fun C s0 H0 fp=>(@iI _ _))
        (fun C s0 H0 fp=>(@aN _ _ _ _ _ _ _ _ _ (@b_tuple _ _ rfl) (by rfl) T.b_tuple ((¬0)∘ac) (by decide) (by decide) (by rfl) (by rfl))) rfl (by decide+kernel) (by decide+kernel) (by decide+kernel) (by decide+kernel) (by decide+kernel) (by decide+kernel) (by decide+kernel) (by intro _;rfl))∘ac) (by decide) (by decide) (by rfl) (by rfl))))))))
noncomputable def sP:FS:=(a_ (eQ (jS (iu "int") (ab 1)) (eQ (jR (jS (iu "bool") (ab 1))) (ir AJ tD (vC (.int 0)) (ab 1) (aB (g1 cT) (aa (av dU (ab 0) (vC (.int 1))) ah))))))
noncomputable def ko:FM:=gM 2 0 [] sP
theorem rc:aF ["_law_web_here","_law_thing"] ["_law_web_here","_law_thing"] (am kL):=⟨rfl,rfl,rfl,by decide+kernel,rfl,by decide+kernel,by decide+kernel⟩
theorem xi(h:a' K mg "_law_is_tie" kL f fd ["_law_web_here","_law_thing"])(T:ji mg):aJ P w K mg base bG 1 f fd ["_law_web_here","_law_thing"] (bL K 2 ko):=by
  have nd:=rc.nd
  exact h.fn rc rfl rfl (fun cdv A outer s H E hr=>(@aj _ _ _ _ _ (@az _ _ _ _ _ (@jB _ _ _ _ _ _ _ _ (@lB _ _ _ _ _ _ _ _ "int" rfl (by decide) rfl T.b_isinstance rfl T.b_int PyProof.Rows.boot_int (by decide) (by decide) (¬1) (by rfl) (by rfl)) (@jB _ _ _ _ _ _ _ _ (@zl _ _ _ _ _ (@lB _ _ _ _ _ _ _ _ "bool" rfl (by decide) rfl T.b_isinstance rfl T.b_bool PyProof.Rows.boot_bool (by decide) (by decide) (¬1) (by rfl) (by rfl))) (@kB _ _ _ _ _ _ (@sr _ _ _ _ _ _ _ _ _ _ _ _ _ (@Au _ _) (@sS _ _) ae (¬1) (@aN _ _ _ _ _ _ _ _ _ (@b_len _ _ rfl) (by rfl) T.b_len ((@bT _ _ _ _ _ _ _ rfl (¬0) ae (fun _ _=>rfl))∘ac) (by decide) (by decide) (by rfl) (by rfl)) (by with_unfolding_all rfl))))))))
noncomputable def iO:FI:=(iw (li (ab 0) (bI (vC (.int 1))) bM))
noncomputable def cJ:FS:=(au (fB (oQ (gy (ax (jS (iu "int") (ab 3)))) (oQ (ax (jS (iu "bool") (ab 3))) (ax (av uH (ab 3) (ab 2)))))
    (a_ (vC (.bool false)))
    bH)
    (fB (jH (ax (av (bv true) (ab 3) (jS kg (vC (.int 1))))) (ax (av AJ (ab 3) (ab 1))))
    (a_ (vC (.bool false)))
    bH))
noncomputable def nA:FS:=(au (di ([3]++(([]++[])++([]++[]))) iO (af 3) cJ)
    (a_ (vC (.bool true))))
noncomputable def fX:FM:=gM 3 1 (([3]++(([]++[])++([]++[])))++[]) nA
theorem mC:aF ["_law_thing","_law_at","_law_many","_law_link"] ["_law_thing","_law_at","_law_many"] (am gh):=⟨rfl,rfl,rfl,by decide+kernel,rfl,by decide+kernel,by decide+kernel⟩
theorem r6(h:a' K mg "_law_are_links" gh f fd ["_law_thing","_law_at","_law_many"])(T:ji mg):aJ P w K mg base bG 1 f fd ["_law_thing","_law_at","_law_many"] (bL K 3 fX):=by
  have nd:=mC.nd
  exact h.fn mC rfl rfl (fun cdv A outer s H E hr=>(@ag _ _ _ _ _ _ _ _ (@cF _ _ _ _ _ _ _ _ _ _ _ PassesOwn.never rfl (@dH _ _ _ _ _ rfl (@bP _ _ _ _ _ _ _ _ _ _ rfl (¬0) (@bR _ _ _ _ ae) (@bQ _ _))) (@ap _ _ _ 3 _ nd rfl (Or.inl rfl) (by trivial))
      (@ag _ _ _ _ _ _ _ _ (@bC _ _ _ _ _ _ _ _ _ _ _ (@m7 _ _ _ _ (@kD _ _ _ _ _ _ _ _ (@fg _ _ _ _ _ (@cO _ _ _ _ (@lB _ _ _ _ _ _ _ _ "int" rfl (by decide) rfl T.b_isinstance rfl T.b_int PyProof.Rows.boot_int (by decide) (by decide) (¬3) (by rfl) (by rfl)) (by intro _;rfl))) (@kD _ _ _ _ _ _ _ _ (@cO _ _ _ _ (@lB _ _ _ _ _ _ _ _ "bool" rfl (by decide) rfl T.b_isinstance rfl T.b_bool PyProof.Rows.boot_bool (by decide) (by decide) (¬3) (by rfl) (by rfl)) (by intro _;rfl)) (@jD _ _ _ _ _ (@aT _ _ _ _ _ _ _ _ _ (@sR _ _) (¬3) (¬2) (aM _))))))
      (@aj _ _ _ _ _ (@az _ _ _ _ _ (@cc _ _ _ _ _)))
      (@aP _ _))
      (@aj _ _ _ _ _ (@bC _ _ _ _ _ _ _ _ _ _ _ (@m7 _ _ _ _ (@pL _ _ _ _ _ _ _ _ (@aT _ _ _ _ _ _ _ _ _ (@lV _ _ _ rfl hr) (¬3) (@kz _ _ _ _ _ ae) (aM _)) (@oJ _ _ _ _ _ (@aT _ _ _ _ _ _ _ _ _ (@Au _ _) (¬3) (¬1) (aM _)))))
      (@aj _ _ _ _ _ (@az _ _ _ _ _ (@cc _ _ _ _ _)))
      (@aP _ _)))) (by intro _;rfl))
      (@aj _ _ _ _ _ (@az _ _ _ _ _ (@cc _ _ _ _ _)))))
noncomputable def iP:FI:=(iw (li (ab 4) (bI (vC (.int 1))) bM))
noncomputable def cK:FS:=(fB (ax (av (bv true) (ab 5) (jS kg (vC (.int 1)))))
    (wd (ab 2) (ab 5) 1)
    bH)
noncomputable def lq:FI:=(o_ (aa (ab 1) ah))
noncomputable def cL:FS:=(au (fB (oQ (gy (ax (jS (iu "tuple") (ab 4)))) (oQ (ax (av (bv true) (aB (g1 cT) (aa (ab 4) ah)) (vC (.int 3)))) (gy (ax (bV 2 ko (aa (ab 0) (aa (av dU (ab 4) (vC (.int 0))) ah)))))))
    (a_ (vC (.bool false)))
    bH)
    (au (fB (gy (ax (bV 3 fX (aa (ab 4) (aa (ab 3) (aa (aB (g1 cT) (aa (ab 1) ah)) ah))))))
    (a_ (vC (.bool false)))
    bH)
    (di ([5]++([]++[])) iP (af 5) cK)))
noncomputable def jX:FS:=(au (fB (oQ (gy (ax (jS (iu "tuple") (ab 1)))) (ax (av Cv (aB (g1 cT) (aa (ab 1) ah)) (vC (.int 300)))))
    (a_ (vC (.bool false)))
    bH)
    (au (aY 2 (av gu (dm (aa (vC (.int 0)) ah)) (aB (g1 cT) (aa (ab 1) ah))))
    (au (di (([3]++([4]++[]))++(([]++[])++(([]++[])++([5]++([]++[]))))) lq (aX (ao (af 3) (ao (af 4) aU))) cL)
    (a_ (av (bv false) (li (ab 2) (bI (vC (.int 1))) bM) (av gu (dm (aa (vC (.int 1)) ah)) (aB (g1 cT) (aa (li (ab 2) (bI (vC (.int 1))) bM) ah))))))))
noncomputable def ek:FM:=gM 2 4 (([]++[])++([2]++((([3]++([4]++[]))++(([]++[])++(([]++[])++([5]++([]++[])))))++[]))) jX
theorem mD:aF ["_law_web_here","_law_thing","_law_links","_law_at","_law_node","_law_link"] ["_law_web_here","_law_thing"] (am gj):=⟨rfl,rfl,rfl,by decide+kernel,rfl,by decide+kernel,by decide+kernel⟩
theorem r8(h:a' K mg "_law_are_nodes" gj f fd ["_law_web_here","_law_thing"])(T:ji mg){JO:Addr}{JP:FuncData}(IP:a' K mg "_law_are_links" gh JO JP ["_law_thing","_law_at","_law_many"])(Jj:aJ P w K mg base bG 1 JO JP ["_law_thing","_law_at","_law_many"] (bL K 3 fX)){Kh:Addr}{Ki:FuncData}(JC:a' K mg "_law_is_tie" kL Kh Ki ["_law_web_here","_law_thing"])(JV:aJ P w K mg base bG 1 Kh Ki ["_law_web_here","_law_thing"] (bL K 2 ko)):aJ P w K mg base bG 2 f fd ["_law_web_here","_law_thing"] (bL K 2 ek):=by
  have nd:=mD.nd
  exact h.fn mD rfl rfl (fun cdv A outer s H E hr=>(@ag _ _ _ _ _ _ _ _ (@bC _ _ _ _ _ _ _ _ _ _ _ (@m7 _ _ _ _ (@kD _ _ _ _ _ _ _ _ (@fg _ _ _ _ _ (@cO _ _ _ _ (@lB _ _ _ _ _ _ _ _ "tuple" rfl (by decide) rfl T.b_isinstance rfl T.b_tuple PyProof.Rows.boot_tuple (by decide) (by decide) (¬1) (by rfl) (by rfl)) (by intro _;rfl))) (@jD _ _ _ _ _ (@aT _ _ _ _ _ _ _ _ _ (@C8 _ _) (@aN _ _ _ _ _ _ _ _ _ (@b_len _ _ rfl) (by rfl) T.b_len ((¬1)∘ac) (by decide) (by decide) (by rfl) (by rfl)) ae (aM _)))))
      (@aj _ _ _ _ _ (@az _ _ _ _ _ (@cc _ _ _ _ _)))
      (@aP _ _))
      (@ag _ _ _ _ _ _ _ _ (@aI _ _ _ _ _ 2 _ _ nd rfl (Or.inl rfl) (@ky _ _ _ _ _ _ _ rfl (@bN _ _ _ _ _ (ae∘ac)) (@aN _ _ _ _ _ _ _ _ _ (@b_len _ _ rfl) (by rfl) T.b_len ((¬1)∘ac) (by decide) (by decide) (by rfl) (by rfl))) (by rfl) (by trivial))
      (@ag _ _ _ _ _ _ _ _ (@cF _ _ _ _ _ _ _ _ _ _ _ PassesOwn.never rfl (@mr _ _ _ _ _ _ _ _ _ rfl rfl T.b_enumerate ((¬1)∘ac) (by rfl)) (@cw _ _ _ _ _ _ _ _ rfl rfl (@ar _ _ _ _ _ _ _ _ (@ap _ _ _ 3 _ nd rfl (Or.inl rfl) (by trivial)) (@ar _ _ _ _ _ _ _ _ (@ap _ _ _ 4 _ nd rfl (Or.inl rfl) (by trivial)) (@bB _ _) (by rfl)) (by rfl)) (aA (aA cq)) (by rfl) (by rfl))
      (@ag _ _ _ _ _ _ _ _ (@bC _ _ _ _ _ _ _ _ _ _ _ (@m7 _ _ _ _ (@kD _ _ _ _ _ _ _ _ (@fg _ _ _ _ _ (@cO _ _ _ _ (@lB _ _ _ _ _ _ _ _ "tuple" rfl (by decide) rfl T.b_isinstance rfl T.b_tuple PyProof.Rows.boot_tuple (by decide) (by decide) (¬4) (by rfl) (by rfl)) (by intro _;rfl))) (@kD _ _ _ _ _ _ _ _ (@aT _ _ _ _ _ _ _ _ _ (@lV _ _ _ rfl hr) (@aN _ _ _ _ _ _ _ _ _ (@b_len _ _ rfl) (by rfl) T.b_len ((¬4)∘ac) (by decide) (by decide) (by rfl) (by rfl)) ae (aM _)) (@jD _ _ _ _ _ (@fg _ _ _ _ _ (@cO _ _ _ _ (@a9 _ _ _ _ _ _ _ _ _ _ _ _ _ _ _ JC JV (hr.mono (by decide)) ((¬0)∘((@bT _ _ _ _ _ _ _ rfl (¬4) ae (fun _ _=>rfl))∘ac)) (by rfl) (by decide) (by rfl) (by rfl)) (by intro _;rfl)))))))
      (@aj _ _ _ _ _ (@az _ _ _ _ _ (@cc _ _ _ _ _)))
      (@aP _ _))
      (@ag _ _ _ _ _ _ _ _ (@bC _ _ _ _ _ _ _ _ _ _ _ (@fg _ _ _ _ _ (@cO _ _ _ _ (@a9 _ _ _ _ _ _ _ _ _ _ _ _ _ _ _ IP Jj (hr.mono (by decide)) ((¬4)∘((¬3)∘((@aN _ _ _ _ _ _ _ _ _ (@b_len _ _ rfl) (by rfl) T.b_len ((¬1)∘ac) (by decide) (by decide) (by rfl) (by rfl))∘ac))) (by rfl) (by decide) (by rfl) (by rfl)) (by intro _;rfl)))
      (@aj _ _ _ _ _ (@az _ _ _ _ _ (@cc _ _ _ _ _)))
      (@aP _ _))
      (@aj _ _ _ _ _ (@cF _ _ _ _ _ _ _ _ _ _ _ PassesOwn.never rfl (@dH _ _ _ _ _ rfl (@bP _ _ _ _ _ _ _ _ _ _ rfl (¬4) (@bR _ _ _ _ ae) (@bQ _ _))) (@ap _ _ _ 5 _ nd rfl (Or.inl rfl) (by trivial))
      (@aj _ _ _ _ _ (@bC _ _ _ _ _ _ _ _ _ _ _ (@aT _ _ _ _ _ _ _ _ _ (@lV _ _ _ rfl hr) (¬5) (@kz _ _ _ _ _ ae) (aM _))
      (@aj _ _ _ _ _ (@BL _ _ _ _ _ _ _ _ _ _ (¬2) (¬5) ae rfl (fun _ _ _=>rfl)))
      (@aP _ _))) (by intro _;rfl))))) (by intro _;rfl))
      (@aj _ _ _ _ _ (@az _ _ _ _ _ (@mn _ _ _ _ _ _ _ _ _ (@p9 _ _ _ rfl hr) (@bP _ _ _ _ _ _ _ _ _ _ rfl (¬2) (@bR _ _ _ _ ae) (@bQ _ _)) (@ky _ _ _ _ _ _ _ rfl (@bN _ _ _ _ _ (ae∘ac)) (@aN _ _ _ _ _ _ _ _ _ (@b_len _ _ rfl) (by rfl) T.b_len ((@bP _ _ _ _ _ _ _ _ _ _ rfl (¬2) (@bR _ _ _ _ ae) (@bQ _ _))∘ac) (by decide) (by decide) (by rfl) (by rfl))) (aM _))))))))
noncomputable def pb:FI:=(iw (dm (aa (bj (aa (vC (.bool true)) (aa (av dU (ab 4) (vC (.int 1))) ah))) (aa (bj (aa (vC (.bool false)) (aa (av dU (ab 4) (vC (.int 2))) ah))) ah))))
noncomputable def jp:FS:=(fB (ax (av (bv true) (ab 6) (jS kg (vC (.int 1)))))
    (tV (bV 4 dP (aa (ab 0) (aa (av dU (ab 2) (ab 3)) (aa (av dU (ab 4) (vC (.int 0))) (aa (ab 5) ah))))) (ab 2) (ab 6))
    bH)
noncomputable def pd:FI:=(o_ (aa (ab 1) ah))
noncomputable def jq:FS:=(di (([5]++([6]++[]))++([]++[])) pb (aX (ao (af 5) (ao (af 6) aU))) jp)
noncomputable def sQ:FS:=(au (aY 2 (av gu (dm (aa (bj (aa (bj ah) (aa (bj ah) ah))) ah)) (aB (g1 cT) (aa (ab 1) ah))))
    (au (di (([3]++([4]++[]))++(([5]++([6]++[]))++([]++[]))) pd (aX (ao (af 3) (ao (af 4) aU))) jq)
    (a_ (aB (g1 cN) (aa (ab 2) ah)))))
noncomputable def ik:FM:=gM 2 5 ([2]++((([3]++([4]++[]))++(([5]++([6]++[]))++([]++[])))++[])) sQ
theorem rd:aF ["_law_web_here","_law_tree","_law_stands_here","_law_at","_law_node","_law_truth","_law_link"] ["_law_web_here","_law_tree"] (am jc):=⟨rfl,rfl,rfl,by decide+kernel,rfl,by decide+kernel,by decide+kernel⟩
theorem xj(h:a' K mg "_law_stands" jc f fd ["_law_web_here","_law_tree"])(T:ji mg){Jp:Addr}{Jq:FuncData}(IB:a' K mg "_law_behind" ja Jp Jq ["_law_web_here","_law_stand","_law_tie","_law_truth"])(IM:aJ P w K mg base bG 1 Jp Jq ["_law_web_here","_law_stand","_law_tie","_law_truth"] (bL K 4 dP)):aJ P w K mg base bG 2 f fd ["_law_web_here","_law_tree"] (bL K 2 ik):=by
  have nd:=rd.nd
  exact h.fn rd rfl rfl (fun cdv A outer s H E hr=>(@ag _ _ _ _ _ _ _ _ (@aI _ _ _ _ _ 2 _ _ nd rfl (Or.inl rfl) (@ky _ _ _ _ _ _ _ rfl (@bN _ _ _ _ _ ((@aR _ _ _ _ _ _ ((@aR _ _ _ _ _ _ ac)∘((@aR _ _ _ _ _ _ ac)∘ac)))∘ac)) (@aN _ _ _ _ _ _ _ _ _ (@b_len _ _ rfl) (by rfl) T.b_len ((¬1)∘ac) (by decide) (by decide) (by rfl) (by rfl))) (by rfl) (by trivial))
      (@ag _ _ _ _ _ _ _ _ (@cF _ _ _ _ _ _ _ _ _ _ _ PassesOwn.never rfl (@mr _ _ _ _ _ _ _ _ _ rfl rfl T.b_enumerate ((¬1)∘ac) (by rfl)) (@cw _ _ _ _ _ _ _ _ rfl rfl (@ar _ _ _ _ _ _ _ _ (@ap _ _ _ 3 _ nd rfl (Or.inl rfl) (by trivial)) (@ar _ _ _ _ _ _ _ _ (@ap _ _ _ 4 _ nd rfl (Or.inl rfl) (by trivial)) (@bB _ _) (by rfl)) (by rfl)) (aA (aA cq)) (by rfl) (by rfl))
      (@aj _ _ _ _ _ (@cF _ _ _ _ _ _ _ _ _ _ _ PassesOwn.never rfl (@dH _ _ _ _ _ rfl (@bN _ _ _ _ _ ((@aR _ _ _ _ _ _ ((@cc _ _ _ _ _)∘((@bT _ _ _ _ _ _ _ rfl (¬4) ae (fun _ _=>rfl))∘ac)))∘((@aR _ _ _ _ _ _ ((@cc _ _ _ _ _)∘((@bT _ _ _ _ _ _ _ rfl (¬4) ae (fun _ _=>rfl))∘ac)))∘ac)))) (@cw _ _ _ _ _ _ _ _ rfl rfl (@ar _ _ _ _ _ _ _ _ (@ap _ _ _ 5 _ nd rfl (Or.inl rfl) (by trivial)) (@ar _ _ _ _ _ _ _ _ (@ap _ _ _ 6 _ nd rfl (Or.inl rfl) (by trivial)) (@bB _ _) (by rfl)) (by rfl)) (aA (aA cq)) (by rfl) (by rfl))
      (@aj _ _ _ _ _ (@bC _ _ _ _ _ _ _ _ _ _ _ (@aT _ _ _ _ _ _ _ _ _ (@lV _ _ _ rfl hr) (¬6) (@kz _ _ _ _ _ ae) (aM _))
      (@aj _ _ _ _ _ (@vd _ _ _ _ _ _ _ _ _ _ (@a9 _ _ _ _ _ _ _ _ _ _ _ _ _ _ _ IB IM (hr.mono (by decide)) ((¬0)∘((@bT _ _ _ _ _ _ _ rfl (¬2) (¬3) (fun _ _=>rfl))∘((@bT _ _ _ _ _ _ _ rfl (¬4) ae (fun _ _=>rfl))∘((¬5)∘ac)))) (by rfl) (by decide) (by rfl) (by rfl)) (¬2) (¬6) (by intro _;rfl) (by rfl) (by rfl) (by rfl)))
      (@aP _ _))) (by intro _;rfl))) (by intro _;rfl))
      (@aj _ _ _ _ _ (@az _ _ _ _ _ (@aN _ _ _ _ _ _ _ _ _ (@b_tuple _ _ rfl) (by rfl) T.b_tuple ((¬2)∘ac) (by decide) (by decide) (by rfl) (by rfl)))))))
noncomputable def ki:FI:=(n_ (aa (ab 1) (aa (bV 2 ik (aa (ab 0) (aa (ab 1) ah))) ah)))
noncomputable def fD:FS:=(fB (gy (ax (bV 3 jN (aa (ab 0) (aa (ab 3) (aa (av dU (ab 2) (vC (.int 0))) ah))))))
    (a_ (vC (.bool false)))
    bH)
noncomputable def kQ:FS:=(au (fB (gy (ax (bV 2 ek (aa (ab 0) (aa (ab 1) ah)))))
    (a_ (vC (.bool false)))
    bH)
    (au (di (([2]++([3]++[]))++([]++[])) ki (aX (ao (af 2) (ao (af 3) aU))) fD)
    (a_ (vC (.bool true)))))
noncomputable def dw:FM:=gM 2 2 (([]++[])++((([2]++([3]++[]))++([]++[]))++[])) kQ
theorem pS:aF ["_law_web_here","_law_thing","_law_node","_law_stand"] ["_law_web_here","_law_thing"] (am jb):=⟨rfl,rfl,rfl,by decide+kernel,rfl,by decide+kernel,by decide+kernel⟩
theorem uT(h:a' K mg "_law_is_tree" jb f fd ["_law_web_here","_law_thing"])(T:ji mg){JQ:Addr}{JR:FuncData}(IQ:a' K mg "_law_are_nodes" gj JQ JR ["_law_web_here","_law_thing"])(Jk:aJ P w K mg base bG 2 JQ JR ["_law_web_here","_law_thing"] (bL K 2 ek)){Jr:Addr}{Js:FuncData}(IR:a' K mg "_law_stands" jc Jr Js ["_law_web_here","_law_tree"])(I_:aJ P w K mg base bG 2 Jr Js ["_law_web_here","_law_tree"] (bL K 2 ik)){Kt:Addr}{Ku:FuncData}(Kb:a' K mg "_law_may" qW Kt Ku ["_law_web_here","_law_stand","_law_tie"])(Km:aJ P w K mg base bG 2 Kt Ku ["_law_web_here","_law_stand","_law_tie"] (bL K 3 jN)):aJ P w K mg base bG 3 f fd ["_law_web_here","_law_thing"] (bL K 2 dw):=by
  have nd:=pS.nd
  exact h.fn pS rfl rfl (fun cdv A outer s H E hr=>(@ag _ _ _ _ _ _ _ _ (@bC _ _ _ _ _ _ _ _ _ _ _ (@fg _ _ _ _ _ (@cO _ _ _ _ (@a9 _ _ _ _ _ _ _ _ _ _ _ _ _ _ _ IQ Jk (hr.mono (by decide)) ((¬0)∘((¬1)∘ac)) (by rfl) (by decide) (by rfl) (by rfl)) (by intro _;rfl)))
      (@aj _ _ _ _ _ (@az _ _ _ _ _ (@cc _ _ _ _ _)))
      (@aP _ _))
      (@ag _ _ _ _ _ _ _ _ (@cF _ _ _ _ _ _ _ _ _ _ _ PassesOwn.never rfl (@sy _ _ _ _ _ _ _ _ _ _ rfl rfl T.b_zip ((¬1)∘((@a9 _ _ _ _ _ _ _ _ _ _ _ _ _ _ _ IR I_ (hr.mono (by decide)) ((¬0)∘((¬1)∘ac)) (by rfl) (by decide) (by rfl) (by rfl))∘ac)) (by rfl) (by rfl)) (@cw _ _ _ _ _ _ _ _ rfl rfl (@ar _ _ _ _ _ _ _ _ (@ap _ _ _ 2 _ nd rfl (Or.inl rfl) (by trivial)) (@ar _ _ _ _ _ _ _ _ (@ap _ _ _ 3 _ nd rfl (Or.inl rfl) (by trivial)) (@bB _ _) (by rfl)) (by rfl)) (aA (aA cq)) (by rfl) (by rfl))
      (@aj _ _ _ _ _ (@bC _ _ _ _ _ _ _ _ _ _ _ (@fg _ _ _ _ _ (@cO _ _ _ _ (@a9 _ _ _ _ _ _ _ _ _ _ _ _ _ _ _ Kb Km (hr.mono (by decide)) ((¬0)∘((¬3)∘((@bT _ _ _ _ _ _ _ rfl (¬2) ae (fun _ _=>rfl))∘ac))) (by rfl) (by decide) (by rfl) (by rfl)) (by intro _;rfl)))
      (@aj _ _ _ _ _ (@az _ _ _ _ _ (@cc _ _ _ _ _)))
      (@aP _ _))) (by intro _;rfl))
      (@aj _ _ _ _ _ (@az _ _ _ _ _ (@cc _ _ _ _ _))))))
noncomputable def kl:FI:=(iw (ab 3))
noncomputable def eF:FE:=(bj (aa (av dU (av dU (ab 1) (ab 2)) (vC (.int 0))) (aa (av dU (ab 0) (av dU (av dU (ab 1) (ab 2)) (vC (.int 1)))) (aa (av dU (ab 0) (av dU (av dU (ab 1) (ab 2)) (vC (.int 2)))) ah))))
noncomputable def km:FI:=(o_ (aa (ab 3) ah))
noncomputable def eC:FS:=(tV (ab 5) (ab 4) (ab 6))
noncomputable def ii:FI:=(iw (li (av dU (ab 1) (av dU (ab 3) (jS kg (vC (.int 1))))) (bI (vC (.int 1))) bM))
noncomputable def eD:FT:=(ax (av (bv true) (ab 0) (jS kg (vC (.int 1)))))
noncomputable def eG:FE:=(ab 0)
noncomputable def cZ:FT:=(ax (av (bv true) (ab 2) (dm ah)))
noncomputable def cX:FS:=(au (cC (bW bc (ab 3) (aa (bW eL (ab 2) (aa (av aZ (bV 1 a8 (aa (ab 0) ah)) (aB (g1 cT) (aa (ab 2) ah))) ah)) ah)))
    (cC (B8 (ab 2) (cQ [] 1 ii (af 0) eD eG))))
noncomputable def lQ:FS:=(au (aY 2 (li (dm (aa (vC (.int 0)) ah)) bM (bI (aB (g1 cT) (aa (ab 1) ah)))))
    (au (aY 3 (dm ah))
    (au (jF (2 ^ 4200) cZ cX)
    (au (aY 4 (av gu (dm (aa (jS kg (vC (.int 1))) ah)) (av bu (aB (g1 cT) (aa (ab 1) ah)) (vC (.int 1)))))
    (au (di (([5]++([6]++[]))++[]) km (aX (ao (af 5) (ao (af 6) aU))) eC)
    (a_ (aB (g1 cN) (aa (cQ [(4,"_law_numbers"),(1,"_law_tree")] 1 kl (af 2) cD eF) ah))))))))
noncomputable def dA:FM:=gM 2 5 ([2]++([3]++(([]++[])++([4]++((([5]++([6]++[]))++[])++[]))))) lQ
theorem lF:aF ["_law_drawn","_law_tree","_law_waiting","_law_order","_law_numbers","_law_at","_law_node"] ["_law_drawn","_law_tree"] (am cH):=⟨rfl,rfl,rfl,by decide+kernel,rfl,by decide+kernel,by decide+kernel⟩
theorem qg(h:a' K mg "_law_renumbered" cH f fd ["_law_drawn","_law_tree"])(T:ji mg){Io:Addr}{Ip:FuncData}(HY:a' K mg "_law_next" iR Io Ip ["_law_drawn"])(HZ:aJ P w K mg base bG 1 Io Ip ["_law_drawn"] (bL K 1 a8)):aJ P w K mg base bG 2 f fd ["_law_drawn","_law_tree"] (bL K 2 dA):=by
  have nd:=lF.nd
  exact h.fn lF rfl rfl (fun cdv A outer s H E hr=>(@ag _ _ _ _ _ _ _ _ (@aI _ _ _ _ _ 2 _ _ nd rfl (Or.inl rfl) (@bP _ _ _ _ _ _ _ _ _ _ rfl (@bN _ _ _ _ _ (ae∘ac)) (@bQ _ _) (@bR _ _ _ _ (@aN _ _ _ _ _ _ _ _ _ (@b_len _ _ rfl) (by rfl) T.b_len ((¬1)∘ac) (by decide) (by decide) (by rfl) (by rfl)))) (by rfl) (by trivial))
      (@ag _ _ _ _ _ _ _ _ (@aI _ _ _ _ _ 3 _ _ nd rfl (Or.inl rfl) (@bN _ _ _ _ _ ac) (by rfl) (by trivial))
      (@ag _ _ _ _ _ _ _ _ (@ms _ _ _ _ _ _ _ _ _ PassesOwn.never (@aT _ _ _ _ _ _ _ _ _ (@lV _ _ _ rfl hr) (¬2) (@bN _ _ _ _ _ ac) (aM _))
      (@ag _ _ _ _ _ _ _ _ (@dB _ _ _ _ _ (@dh _ _ _ _ _ _ _ _ _ rfl (¬3) ((@sx _ _ _ _ _ _ _ _ _ rfl (¬2) ((@ba _ _ _ _ _ _ _ (@a9 _ _ _ _ _ _ _ _ _ _ _ _ _ _ _ HY HZ (hr.mono (by decide)) ((¬0)∘ac) (by rfl) (by decide) (by rfl) (by rfl)) (@aN _ _ _ _ _ _ _ _ _ (@b_len _ _ rfl) (by rfl) T.b_len ((¬2)∘ac) (by decide) (by decide) (by rfl) (by rfl)))∘ac) (by rfl) (by rfl) (by rfl) (by rfl) (by rfl))∘ac) (by rfl) (by rfl) (by rfl) (by rfl) (by rfl)) (by rfl))
      (@aj _ _ _ _ _ (@dB _ _ _ _ _ (@zg _ _ _ _ _ _ _ _ rfl (¬2) (@jA _ _ _ _ _ _ _ _ _ _ _ _ _ (am cH) ["_law_drawn","_law_tree","_law_waiting","_law_order","_law_numbers","_law_at","_law_node"] [] ["_law_link"] rfl rfl rfl (@dH _ _ _ _ _ rfl (@bP _ _ _ _ _ _ _ _ _ _ rfl (@bT _ _ _ _ _ _ _ rfl (¬1) (@bT _ _ _ _ _ _ _ rfl (¬3) (@kz _ _ _ _ _ ae) (fun _ _=>rfl)) (fun _ _=>rfl)) (@bR _ _ _ _ ae) (@bQ _ _)))
        (fun C s0 H0 fp=>(@ap _ _ _ 0 _ (show List.Nodup (["_law_link"]:List Str) by decide+kernel) rfl (Or.inl rfl) (by trivial))) (fun C s0 H0 fp=>(@mv _ _ _ _ (@aT _ _ _ _ _ _ _ _ _ (@lV _ _ _ rfl hr) (¬0) (@kz _ _ _ _ _ ae) (aM _))))
        (fun C s0 H0 fp=>(¬0)) rfl (by decide+kernel) (by decide+kernel) (by decide+kernel) (by decide+kernel) (by decide+kernel) (by decide+kernel) (by decide+kernel) (by intro _;rfl)) (by rfl) (by rfl) (by rfl) (by rfl) (by rfl) (by rfl)) (by rfl)))))
      (@ag _ _ _ _ _ _ _ _ (@aI _ _ _ _ _ 4 _ _ nd rfl (Or.inr rfl) (@ky _ _ _ _ _ _ _ rfl (@bN _ _ _ _ _ ((@kz _ _ _ _ _ ae)∘ac)) (@bA _ _ _ _ _ _ _ rfl (@aN _ _ _ _ _ _ _ _ _ (@b_len _ _ rfl) (by rfl) T.b_len ((¬1)∘ac) (by decide) (by decide) (by rfl) (by rfl)) ae)) (by rfl) (by trivial))
      (@ag _ _ _ _ _ _ _ _ (@cF _ _ _ _ _ _ _ _ _ _ _ PassesOwn.never rfl (@mr _ _ _ _ _ _ _ _ _ rfl rfl T.b_enumerate ((¬3)∘ac) (by rfl)) (@cw _ _ _ _ _ _ _ _ rfl rfl (@ar _ _ _ _ _ _ _ _ (@ap _ _ _ 5 _ nd rfl (Or.inl rfl) (by trivial)) (@ar _ _ _ _ _ _ _ _ (@ap _ _ _ 6 _ nd rfl (Or.inl rfl) (by trivial)) (@bB _ _) (by rfl)) (by rfl)) (aA (aA cq)) (by rfl) (by rfl))
      (@aj _ _ _ _ _ (@vd _ _ _ _ _ _ _ _ _ _ (¬5) (¬4) (¬6) (by intro _;rfl) (by rfl) (by rfl) (by rfl))) (by intro _;rfl))
      (@aj _ _ _ _ _ (@az _ _ _ _ _ (@aN _ _ _ _ _ _ _ _ _ (@b_tuple _ _ rfl) (by rfl) T.b_tuple ((@jA _ _ _ _ _ _ _ _ _ _ _ _ _ (am cH) ["_law_drawn","_law_tree","_law_waiting","_law_order","_law_numbers","_law_at","_law_node"] [(4,"_law_numbers"),(1,"_law_tree")] ["_law_node"] rfl rfl rfl (@dH _ _ _ _ _ rfl (¬3))
        (fun C s0 H0 fp=>(@ap _ _ _ 2 _ (show List.Nodup (["_law_numbers","_law_tree","_law_node"]:List Str) by decide+kernel) rfl (Or.inl rfl) (by trivial))) (fun C s0 H0 fp=>(@iI _ _))
        (fun C s0 H0 fp=>(@aR _ _ _ _ _ _ ((@bT _ _ _ _ _ _ _ rfl (@bT _ _ _ _ _ _ _ rfl (¬1) (¬2) (fun _ _=>rfl)) ae (fun _ _=>rfl))∘((@bT _ _ _ _ _ _ _ rfl (¬0) (@bT _ _ _ _ _ _ _ rfl (@bT _ _ _ _ _ _ _ rfl (¬1) (¬2) (fun _ _=>rfl)) ae (fun _ _=>rfl)) (fun _ _=>rfl))∘((@bT _ _ _ _ _ _ _ rfl (¬0) (@bT _ _ _ _ _ _ _ rfl (@bT _ _ _ _ _ _ _ rfl (¬1) (¬2) (fun _ _=>rfl)) ae (fun _ _=>rfl)) (fun _ _=>rfl))∘ac))))) rfl (by decide+kernel) (by decide+kernel) (by decide+kernel) (by decide+kernel) (by decide+kernel) (by decide+kernel) (by decide+kernel) (by intro _;rfl))∘ac) (by decide) (by decide) (by rfl) (by rfl))))))))))
noncomputable def ie:FI:=(n_ (aa (bV 2 ik (aa (ab 0) (aa (ab 1) ah))) (aa (ab 1) ah)))
noncomputable def cV:FS:=(au (aY 6 (av bu (av dU (ab 4) (vC (.int 0))) (li (ab 5) bM (bI (vC (.int 1))))))
    (au (aY 7 (aB (g1 cT) (aa (ab 6) ah)))
    (au (fB (ax (av uH (ab 2) (vC (.int 0))))
    (aY 7 (bV 3 el (aa (ab 0) (aa (ab 6) (aa (ab 2) ah)))))
    bH)
    (aY 3 (aB (g2 oo) (aa (ab 3) (aa (ab 7) ah)))))))
noncomputable def lP:FS:=(au (aY 3 (vC (.int 0)))
    (au (di (([4]++([5]++[]))++([6]++([7]++(([7]++[])++[3])))) ie (aX (ao (af 4) (ao (af 5) aU))) cV)
    (a_ (ab 3))))
noncomputable def dy:FM:=gM 3 5 ([3]++((([4]++([5]++[]))++([6]++([7]++(([7]++[])++[3]))))++[])) lP
theorem lC:aF ["_law_web_here","_law_tree","_law_thing","_law_most","_law_stand","_law_node","_law_asked","_law_many"] ["_law_web_here","_law_tree","_law_thing"] (am eN):=⟨rfl,rfl,rfl,by decide+kernel,rfl,by decide+kernel,by decide+kernel⟩
theorem qe(h:a' K mg "_law_most_asked" eN f fd ["_law_web_here","_law_tree","_law_thing"])(T:ji mg){Jr:Addr}{Js:FuncData}(IR:a' K mg "_law_stands" jc Jr Js ["_law_web_here","_law_tree"])(I_:aJ P w K mg base bG 2 Jr Js ["_law_web_here","_law_tree"] (bL K 2 ik)){IV:Addr}{IW:FuncData}(Iy:a' K mg "_law_asks_of" fm IV IW ["_law_web_here","_law_asked","_law_thing"])(II:aJ P w K mg base bG 1 IV IW ["_law_web_here","_law_asked","_law_thing"] (bL K 3 el)):aJ P w K mg base bG 3 f fd ["_law_web_here","_law_tree","_law_thing"] (bL K 3 dy):=by
  have nd:=lC.nd
  exact h.fn lC rfl rfl (fun cdv A outer s H E hr=>(@ag _ _ _ _ _ _ _ _ (@aI _ _ _ _ _ 3 _ _ nd rfl (Or.inl rfl) ae (by rfl) (by trivial))
      (@ag _ _ _ _ _ _ _ _ (@cF _ _ _ _ _ _ _ _ _ _ _ PassesOwn.never rfl (@sy _ _ _ _ _ _ _ _ _ _ rfl rfl T.b_zip ((@a9 _ _ _ _ _ _ _ _ _ _ _ _ _ _ _ IR I_ (hr.mono (by decide)) ((¬0)∘((¬1)∘ac)) (by rfl) (by decide) (by rfl) (by rfl))∘((¬1)∘ac)) (by rfl) (by rfl)) (@cw _ _ _ _ _ _ _ _ rfl rfl (@ar _ _ _ _ _ _ _ _ (@ap _ _ _ 4 _ nd rfl (Or.inl rfl) (by trivial)) (@ar _ _ _ _ _ _ _ _ (@ap _ _ _ 5 _ nd rfl (Or.inl rfl) (by trivial)) (@bB _ _) (by rfl)) (by rfl)) (aA (aA cq)) (by rfl) (by rfl))
      (@ag _ _ _ _ _ _ _ _ (@aI _ _ _ _ _ 6 _ _ nd rfl (Or.inl rfl) (@bA _ _ _ _ _ _ _ rfl (@bT _ _ _ _ _ _ _ rfl (¬4) ae (fun _ _=>rfl)) (@bP _ _ _ _ _ _ _ _ _ _ rfl (¬5) (@bQ _ _) (@bR _ _ _ _ ae))) (by rfl) (by trivial))
      (@ag _ _ _ _ _ _ _ _ (@aI _ _ _ _ _ 7 _ _ nd rfl (Or.inl rfl) (@aN _ _ _ _ _ _ _ _ _ (@b_len _ _ rfl) (by rfl) T.b_len ((¬6)∘ac) (by decide) (by decide) (by rfl) (by rfl)) (by rfl) (by trivial))
      (@ag _ _ _ _ _ _ _ _ (@bC _ _ _ _ _ _ _ _ _ _ _ (@aT _ _ _ _ _ _ _ _ _ (@sR _ _) (¬2) ae (aM _))
      (@aj _ _ _ _ _ (@aI _ _ _ _ _ 7 _ _ nd rfl (Or.inl rfl) (@a9 _ _ _ _ _ _ _ _ _ _ _ _ _ _ _ Iy II (hr.mono (by decide)) ((¬0)∘((¬6)∘((¬2)∘ac))) (by rfl) (by decide) (by rfl) (by rfl)) (by rfl) (by trivial)))
      (@aP _ _))
      (@aj _ _ _ _ _ (@aI _ _ _ _ _ 3 _ _ nd rfl (Or.inl rfl) (@aN _ _ _ _ _ _ _ _ _ (@b_max _ _ rfl) (by rfl) T.b_max ((¬3)∘((¬7)∘ac)) (by decide) (by decide) (by rfl) (by rfl)) (by rfl) (by trivial)))))) (by intro _;rfl))
      (@aj _ _ _ _ _ (@az _ _ _ _ _ (¬3))))))
noncomputable def ig:FI:=(iw (dm (aa (ab 11) (aa (aB (g2 oo) (aa (vC (.int 0)) (aa (av gq (ab 11) (vC (.int 1))) ah))) ah))))
noncomputable def eB:FS:=(cC (bW bc (ab 9) (aa (bj (aa (ab 3) (aa (ab 4) (aa (av bu (av bu (li (ab 5) bM (bI (ab 10))) (bj (aa (ab 12) ah))) (li (ab 5) (bI (av bu (ab 10) (vC (.int 1)))) bM)) (aa (ab 6) ah))))) ah)))
noncomputable def kj:FI:=(eK (aa (ab 3) ah))
noncomputable def cW:FS:=(au (aY 11 (bV 3 dy (aa (ab 1) (aa (ab 2) (aa (ab 10) ah)))))
    (di ([12]++[]) ig (af 12) eB))
noncomputable def eJ:FI:=(iw (ab 8))
noncomputable def cg:FE:=(bj (aa (ab 0) (aa (ab 1) (aa (ab 2) (aa (ab 3) ah)))))
noncomputable def gK:FS:=(au (jE (ab 1) (aX (ao (af 3) (ao (af 4) (ao (af 5) (ao (af 6) aU))))))
    (au (aY 7 (bV 3 dy (aa (ab 1) (aa (ab 2) (aa (jS kg (vC (.int 1))) ah)))))
    (au (aY 8 (dm (aa (ab 7) (aa (aB (g2 oo) (aa (vC (.int 0)) (aa (av gq (ab 7) (vC (.int 1))) ah))) (aa (aB (g2 tF) (aa (vC (.int 40)) (aa (av bu (ab 6) (vC (.int 1))) ah))) (aa (aB (g2 oo) (aa (vC (.int 0)) (aa (av gq (ab 6) (vC (.int 1))) ah))) ah))))))
    (au (aY 9 (cQ [(3,"_law_things"),(4,"_law_ties_here"),(5,"_law_patience")] 1 eJ (af 3) cD cg))
    (au (di ([10]++([11]++([12]++[]))) kj (af 10) cW)
    (au (fB (ax (av (bv true) (ab 4) (bj ah)))
    (au (aY 13 (av aZ (bV 1 a8 (aa (ab 0) ah)) (aB (g1 cT) (aa (ab 4) ah))))
    (au (aY 14 (av aZ (bV 1 a8 (aa (ab 0) ah)) (ab 3)))
    (au (aY 15 (av aZ (av bu (av bu (ab 14) (vC (.int 1))) (av aZ (bV 1 a8 (aa (ab 0) ah)) (av gq (ab 3) (vC (.int 1))))) (ab 3)))
    (au (aY 16 (av bu (bj (aa (aB (g2 tF) (aa (ab 14) (aa (ab 15) ah))) (aa (aB (g2 oo) (aa (ab 14) (aa (ab 15) ah))) ah))) (li (av dU (ab 4) (ab 13)) (bI (vC (.int 2))) bM)))
    (au (cC (bW bc (ab 9) (aa (bj (aa (ab 3) (aa (av bu (av bu (li (ab 4) bM (bI (ab 13))) (bj (aa (ab 16) ah))) (li (ab 4) (bI (av bu (ab 13) (vC (.int 1)))) bM)) (aa (ab 5) (aa (ab 6) ah))))) ah)))
    (cC (bW bc (ab 9) (aa (bj (aa (ab 3) (aa (li (ab 4) bM (bI (jS kg (vC (.int 1))))) (aa (ab 5) (aa (ab 6) ah))))) ah))))))))
    bH)
    (a_ (ab 9))))))))
noncomputable def dz:FM:=gM 3 14 (([3]++([4]++([5]++([6]++[]))))++([7]++([8]++([9]++(([10]++([11]++([12]++[])))++((([13]++([14]++([15]++([16]++([]++[])))))++[])++[])))))) gK
theorem lD:aF ["_law_drawn","_law_web_here","_law_tree","_law_things","_law_ties_here","_law_patience","_law_asks","_law_need","_law_numbers","_law_found","_law_thing","_law_due","_law_number","_law_at","_law_one","_law_other","_law_changed"] ["_law_drawn","_law_web_here","_law_tree"] (am dD):=⟨rfl,rfl,rfl,by decide+kernel,rfl,by decide+kernel,by decide+kernel⟩
theorem qf(h:a' K mg "_law_other_webs" dD f fd ["_law_drawn","_law_web_here","_law_tree"])(T:ji mg){Jv:Addr}{Jw:FuncData}(Iq:a' K mg "_law_most_asked" eN Jv Jw ["_law_web_here","_law_tree","_law_thing"])(IC:aJ P w K mg base bG 3 Jv Jw ["_law_web_here","_law_tree","_law_thing"] (bL K 3 dy)){Io:Addr}{Ip:FuncData}(HY:a' K mg "_law_next" iR Io Ip ["_law_drawn"])(HZ:aJ P w K mg base bG 1 Io Ip ["_law_drawn"] (bL K 1 a8)):aJ P w K mg base bG 4 f fd ["_law_drawn","_law_web_here","_law_tree"] (bL K 3 dz):=by
  have nd:=lD.nd
  exact h.fn lD rfl rfl (fun cdv A outer s H E hr=>(@ag _ _ _ _ _ _ _ _ (@jC _ _ _ _ _ _ _ _ (¬1) (@cw _ _ _ _ _ _ _ _ rfl rfl (@ar _ _ _ _ _ _ _ _ (@ap _ _ _ 3 _ nd rfl (Or.inr rfl) (by trivial)) (@ar _ _ _ _ _ _ _ _ (@ap _ _ _ 4 _ nd rfl (Or.inr rfl) (by trivial)) (@ar _ _ _ _ _ _ _ _ (@ap _ _ _ 5 _ nd rfl (Or.inr rfl) (by trivial)) (@ar _ _ _ _ _ _ _ _ (@ap _ _ _ 6 _ nd rfl (Or.inl rfl) (by trivial)) (@bB _ _) (by rfl)) (by rfl)) (by rfl)) (by rfl)) (aA (aA (aA (aA cq)))) (by rfl) (by rfl)) (by rfl) (by rfl) (by rfl))
      (@ag _ _ _ _ _ _ _ _ (@aI _ _ _ _ _ 7 _ _ nd rfl (Or.inl rfl) (@a9 _ _ _ _ _ _ _ _ _ _ _ _ _ _ _ Iq IC (hr.mono (by decide)) ((¬1)∘((¬2)∘((@kz _ _ _ _ _ ae)∘ac))) (by rfl) (by decide) (by rfl) (by rfl)) (by rfl) (by trivial))
      (@ag _ _ _ _ _ _ _ _ (@aI _ _ _ _ _ 8 _ _ nd rfl (Or.inl rfl) (@bN _ _ _ _ _ ((¬7)∘((@aN _ _ _ _ _ _ _ _ _ (@b_max _ _ rfl) (by rfl) T.b_max (ae∘((@og _ _ _ _ _ _ _ (¬7) ae)∘ac)) (by decide) (by decide) (by rfl) (by rfl))∘((@aN _ _ _ _ _ _ _ _ _ (@b_min _ _ rfl) (by rfl) T.b_min (ae∘((@bA _ _ _ _ _ _ _ rfl (¬6) ae)∘ac)) (by decide) (by decide) (by rfl) (by rfl))∘((@aN _ _ _ _ _ _ _ _ _ (@b_max _ _ rfl) (by rfl) T.b_max (ae∘((@og _ _ _ _ _ _ _ (¬6) ae)∘ac)) (by decide) (by decide) (by rfl) (by rfl))∘ac))))) (by rfl) (by trivial))
      (@ag _ _ _ _ _ _ _ _ (@qU _ _ _ (9) _ _ _ _ _ _ _ _ _ _ _ _ _ (am dD) ["_law_drawn","_law_web_here","_law_tree","_law_things","_law_ties_here","_law_patience","_law_asks","_law_need","_law_numbers","_law_found","_law_thing","_law_due","_law_number","_law_at","_law_one","_law_other","_law_changed"] [(3,"_law_things"),(4,"_law_ties_here"),(5,"_law_patience")] ["_law_number"] rfl rfl rfl (@dH _ _ _ _ _ rfl (¬8))
        (fun C s0 H0 fp=>(@ap _ _ _ 3 _ (show List.Nodup (["_law_things","_law_ties_here","_law_patience","_law_number"]:List Str) by decide+kernel) rfl (Or.inl rfl) (by trivial))) (fun C s0 H0 fp=>(@iI _ _))
        (fun C s0 H0 fp=>(@aR _ _ _ _ _ _ ((¬0)∘((¬1)∘((¬2)∘((¬3)∘ac)))))) rfl (by decide+kernel) (by decide+kernel) (by decide+kernel) (by decide+kernel) (by decide+kernel) (by decide+kernel) (by decide+kernel) nd rfl rfl (by rfl) (by intro _;rfl))
      (@ag _ _ _ _ _ _ _ _ (@cF _ _ _ _ _ _ _ _ _ _ _ PassesOwn.never rfl (@ff _ _ _ _ _ _ _ rfl T.b_range ((¬3)∘ac) (by rfl)) (@ap _ _ _ 10 _ nd rfl (Or.inl rfl) (by trivial))
      (@ag _ _ _ _ _ _ _ _ (@aI _ _ _ _ _ 11 _ _ nd rfl (Or.inl rfl) (@a9 _ _ _ _ _ _ _ _ _ _ _ _ _ _ _ Iq IC (hr.mono (by decide)) ((¬1)∘((¬2)∘((¬10)∘ac))) (by rfl) (by decide) (by rfl) (by rfl)) (by rfl) (by trivial))
      (@aj _ _ _ _ _ (@cF _ _ _ _ _ _ _ _ _ _ _ PassesOwn.never rfl (@dH _ _ _ _ _ rfl (@bN _ _ _ _ _ ((¬11)∘((@aN _ _ _ _ _ _ _ _ _ (@b_max _ _ rfl) (by rfl) T.b_max (ae∘((@og _ _ _ _ _ _ _ (¬11) ae)∘ac)) (by decide) (by decide) (by rfl) (by rfl))∘ac)))) (@ap _ _ _ 12 _ nd rfl (Or.inl rfl) (by trivial))
      (@aj _ _ _ _ _ (@dB _ _ _ _ _ (@dh _ _ _ _ _ _ _ _ _ rfl (¬9) ((@aR _ _ _ _ _ _ ((¬3)∘((¬4)∘((@bA _ _ _ _ _ _ _ rfl (@bA _ _ _ _ _ _ _ rfl (@bP _ _ _ _ _ _ _ _ _ _ rfl (¬5) (@bQ _ _) (@bR _ _ _ _ (¬10))) (@aR _ _ _ _ _ _ ((¬12)∘ac))) (@bP _ _ _ _ _ _ _ _ _ _ rfl (¬5) (@bR _ _ _ _ (@bA _ _ _ _ _ _ _ rfl (¬10) ae)) (@bQ _ _)))∘((¬6)∘ac)))))∘ac) (by rfl) (by rfl) (by rfl) (by rfl) (by rfl)) (by rfl))) (by intro _;rfl)))) (by intro _;rfl))
      (@ag _ _ _ _ _ _ _ _ (@bC _ _ _ _ _ _ _ _ _ _ _ (@aT _ _ _ _ _ _ _ _ _ (@lV _ _ _ rfl hr) (¬4) (@aR _ _ _ _ _ _ ac) (aM _))
      (@ag _ _ _ _ _ _ _ _ (@aI _ _ _ _ _ 13 _ _ nd rfl (Or.inl rfl) (@ba _ _ _ _ _ _ _ (@a9 _ _ _ _ _ _ _ _ _ _ _ _ _ _ _ HY HZ (hr.mono (by decide)) ((¬0)∘ac) (by rfl) (by decide) (by rfl) (by rfl)) (@aN _ _ _ _ _ _ _ _ _ (@b_len _ _ rfl) (by rfl) T.b_len ((¬4)∘ac) (by decide) (by decide) (by rfl) (by rfl))) (by rfl) (by trivial))
      (@ag _ _ _ _ _ _ _ _ (@aI _ _ _ _ _ 14 _ _ nd rfl (Or.inl rfl) (@ba _ _ _ _ _ _ _ (@a9 _ _ _ _ _ _ _ _ _ _ _ _ _ _ _ HY HZ (hr.mono (by decide)) ((¬0)∘ac) (by rfl) (by decide) (by rfl) (by rfl)) (¬3)) (by rfl) (by trivial))
      (@ag _ _ _ _ _ _ _ _ (@aI _ _ _ _ _ 15 _ _ nd rfl (Or.inl rfl) (@ba _ _ _ _ _ _ _ (@bA _ _ _ _ _ _ _ rfl (@bA _ _ _ _ _ _ _ rfl (¬14) ae) (@ba _ _ _ _ _ _ _ (@a9 _ _ _ _ _ _ _ _ _ _ _ _ _ _ _ HY HZ (hr.mono (by decide)) ((¬0)∘ac) (by rfl) (by decide) (by rfl) (by rfl)) (@og _ _ _ _ _ _ _ (¬3) ae))) (¬3)) (by rfl) (by trivial))
      (@ag _ _ _ _ _ _ _ _ (@aI _ _ _ _ _ 16 _ _ nd rfl (Or.inl rfl) (@bA _ _ _ _ _ _ _ rfl (@aR _ _ _ _ _ _ ((@aN _ _ _ _ _ _ _ _ _ (@b_min _ _ rfl) (by rfl) T.b_min ((¬14)∘((¬15)∘ac)) (by decide) (by decide) (by rfl) (by rfl))∘((@aN _ _ _ _ _ _ _ _ _ (@b_max _ _ rfl) (by rfl) T.b_max ((¬14)∘((¬15)∘ac)) (by decide) (by decide) (by rfl) (by rfl))∘ac))) (@bP _ _ _ _ _ _ _ _ _ _ rfl (@bT _ _ _ _ _ _ _ rfl (¬4) (¬13) (fun _ _=>rfl)) (@bR _ _ _ _ ae) (@bQ _ _))) (by rfl) (by trivial))
      (@ag _ _ _ _ _ _ _ _ (@dB _ _ _ _ _ (@dh _ _ _ _ _ _ _ _ _ rfl (¬9) ((@aR _ _ _ _ _ _ ((¬3)∘((@bA _ _ _ _ _ _ _ rfl (@bA _ _ _ _ _ _ _ rfl (@bP _ _ _ _ _ _ _ _ _ _ rfl (¬4) (@bQ _ _) (@bR _ _ _ _ (¬13))) (@aR _ _ _ _ _ _ ((¬16)∘ac))) (@bP _ _ _ _ _ _ _ _ _ _ rfl (¬4) (@bR _ _ _ _ (@bA _ _ _ _ _ _ _ rfl (¬13) ae)) (@bQ _ _)))∘((¬5)∘((¬6)∘ac)))))∘ac) (by rfl) (by rfl) (by rfl) (by rfl) (by rfl)) (by rfl))
      (@aj _ _ _ _ _ (@dB _ _ _ _ _ (@dh _ _ _ _ _ _ _ _ _ rfl (¬9) ((@aR _ _ _ _ _ _ ((¬3)∘((@bP _ _ _ _ _ _ _ _ _ _ rfl (¬4) (@bQ _ _) (@bR _ _ _ _ (@kz _ _ _ _ _ ae)))∘((¬5)∘((¬6)∘ac)))))∘ac) (by rfl) (by rfl) (by rfl) (by rfl) (by rfl)) (by rfl))))))))
      (@aP _ _))
      (@aj _ _ _ _ _ (@az _ _ _ _ _ (¬9))))))))))
noncomputable def GG:FI:=(iw (bV 3 dz (aa (ab 1) (aa (ab 3) (aa (ab 4) ah)))))
noncomputable def E3:FS:=(fB (gy (ax (bV 2 pA (aa (bV 2 en (aa (ab 5) (aa (ab 4) ah))) (aa (bV 2 dw (aa (ab 5) (aa (ab 4) ah))) ah)))))
    (a_ (vC (.bool false)))
    bH)
noncomputable def Hv:FI:=(eK (aa (vC (.int 3)) ah))
noncomputable def EO:FS:=(au (aY 3 (bV 3 tJ (aa (ab 1) (aa (vC (.int 12)) (aa (vC (.int 16)) ah)))))
    (au (fB (jH (ax (av (bv true) (av dU (ab 3) (vC (.int 1))) (bj ah))) (ax (av (bv false) (av aZ (bV 1 a8 (aa (ab 1) ah)) (vC (.int 2))) (vC (.int 0)))))
    (aY 3 (bV 1 ij (aa (ab 3) ah)))
    bH)
    (au (aY 4 (bV 2 dA (aa (ab 1) (aa (bV 3 kZ (aa (ab 1) (aa (ab 3) (aa (av bu (vC (.int 1)) (av aZ (bV 1 a8 (aa (ab 1) ah)) (vC (.int 24)))) ah)))) ah))))
    (au (fB (oQ (ax (av oY (bV 2 en (aa (ab 3) (aa (ab 4) ah))) (vC (.bool true)))) (gy (ax (bV 2 dw (aa (ab 3) (aa (ab 4) ah))))))
    (a_ (vC (.bool false)))
    bH)
    (di ([5]++([]++[])) GG (af 5) E3)))))
noncomputable def Cn:FS:=(au (aY 1 (bV 1 me (aa (ab 0) ah)))
    (au (di ([2]++([3]++(([3]++[])++([4]++(([]++[])++([5]++([]++[]))))))) Hv (af 2) EO)
    (a_ (vC (.bool true)))))
noncomputable def pC:FM:=gM 1 5 ([1]++(([2]++([3]++(([3]++[])++([4]++(([]++[])++([5]++([]++[])))))))++[])) Cn
theorem zE:aF ["_law_script","_law_drawn","_law_k","_law_web_here","_law_tree","_law_other"] ["_law_script"] (am pP):=⟨rfl,rfl,rfl,by decide+kernel,rfl,by decide+kernel,by decide+kernel⟩
theorem DB(h:a' K mg "law" pP f fd ["_law_script"])(T:ji mg){Kv:Addr}{Kw:FuncData}(JW:a' K mg "_law_draws" mx Kv Kw ["_law_script"])(Kc:aJ P w K mg base bG 2 Kv Kw ["_law_script"] (bL K 1 me)){KP:Addr}{KQ:FuncData}(KC:a' K mg "_law_web" tU KP KQ ["_law_drawn","_law_most","_law_ties_here"])(KJ:aJ P w K mg base bG 5 KP KQ ["_law_drawn","_law_most","_law_ties_here"] (bL K 3 tJ)){Jx:Addr}{Jy:FuncData}(ID:a' K mg "_law_renumbered" cH Jx Jy ["_law_drawn","_law_tree"])(IX:aJ P w K mg base bG 2 Jx Jy ["_law_drawn","_law_tree"] (bL K 2 dA)){Jz:Addr}{JA:FuncData}(IE:a' K mg "_law_other_webs" dD Jz JA ["_law_drawn","_law_web_here","_law_tree"])(IY:aJ P w K mg base bG 4 Jz JA ["_law_drawn","_law_web_here","_law_tree"] (bL K 3 dz)){Kj:Addr}{Kk:FuncData}(JD:a' K mg "_law_enough" kJ Kj Kk ["_law_web_here"])(JX:aJ P w K mg base bG 1 Kj Kk ["_law_web_here"] (bL K 1 ij)){Kx:Addr}{Ky:FuncData}(JY:a' K mg "_law_grown" k8 Kx Ky ["_law_drawn","_law_web_here","_law_most"])(Kd:aJ P w K mg base bG 4 Kx Ky ["_law_drawn","_law_web_here","_law_most"] (bL K 3 kZ)){J8:Addr}{J9:FuncData}(IZ:a' K mg "is_tree" gZ J8 J9 ["web","thing"])(Jt:aJ P w K mg base bG 5 J8 J9 ["web","thing"] (bL K 2 en)){J_:Addr}{J':FuncData}(I0:a' K mg "_law_is_tree" jb J_ J' ["_law_web_here","_law_thing"])(Ju:aJ P w K mg base bG 3 J_ J' ["_law_web_here","_law_thing"] (bL K 2 dw)){KG:Addr}{KH:FuncData}(Kl:a' K mg "_law_says" pM KG KH ["_law_found","_law_due"])(Kz:aJ P w K mg base bG 1 KG KH ["_law_found","_law_due"] (bL K 2 pA)){Io:Addr}{Ip:FuncData}(HY:a' K mg "_law_next" iR Io Ip ["_law_drawn"])(HZ:aJ P w K mg base bG 1 Io Ip ["_law_drawn"] (bL K 1 a8)):aJ P w K mg base bG 6 f fd ["_law_script"] (bL K 1 pC):=by
  have nd:=zE.nd
  exact h.fn zE rfl rfl (fun cdv A outer s H E hr=>(@ag _ _ _ _ _ _ _ _ (@aI _ _ _ _ _ 1 _ _ nd rfl (Or.inl rfl) (@a9 _ _ _ _ _ _ _ _ _ _ _ _ _ _ _ JW Kc (hr.mono (by decide)) ((¬0)∘ac) (by rfl) (by decide) (by rfl) (by rfl)) (by rfl) (by trivial))
      (@ag _ _ _ _ _ _ _ _ (@cF _ _ _ _ _ _ _ _ _ _ _ PassesOwn.never rfl (@ff _ _ _ _ _ _ _ rfl T.b_range (ae∘ac) (by rfl)) (@ap _ _ _ 2 _ nd rfl (Or.inl rfl) (by trivial))
      (@ag _ _ _ _ _ _ _ _ (@aI _ _ _ _ _ 3 _ _ nd rfl (Or.inl rfl) (@a9 _ _ _ _ _ _ _ _ _ _ _ _ _ _ _ KC KJ (hr.mono (by decide)) ((¬1)∘(ae∘(ae∘ac))) (by rfl) (by decide) (by rfl) (by rfl)) (by rfl) (by trivial))
      (@ag _ _ _ _ _ _ _ _ (@bC _ _ _ _ _ _ _ _ _ _ _ (@m7 _ _ _ _ (@pL _ _ _ _ _ _ _ _ (@aT _ _ _ _ _ _ _ _ _ (@lV _ _ _ rfl hr) (@bT _ _ _ _ _ _ _ rfl (¬3) ae (fun _ _=>rfl)) (@aR _ _ _ _ _ _ ac) (aM _)) (@oJ _ _ _ _ _ (@aT _ _ _ _ _ _ _ _ _ (@p9 _ _ _ rfl hr) (@ba _ _ _ _ _ _ _ (@a9 _ _ _ _ _ _ _ _ _ _ _ _ _ _ _ HY HZ (hr.mono (by decide)) ((¬1)∘ac) (by rfl) (by decide) (by rfl) (by rfl)) ae) ae (aM _)))))
      (@aj _ _ _ _ _ (@aI _ _ _ _ _ 3 _ _ nd rfl (Or.inl rfl) (@a9 _ _ _ _ _ _ _ _ _ _ _ _ _ _ _ JD JX (hr.mono (by decide)) ((¬3)∘ac) (by rfl) (by decide) (by rfl) (by rfl)) (by rfl) (by trivial)))
      (@aP _ _))
      (@ag _ _ _ _ _ _ _ _ (@aI _ _ _ _ _ 4 _ _ nd rfl (Or.inl rfl) (@a9 _ _ _ _ _ _ _ _ _ _ _ _ _ _ _ ID IX (hr.mono (by decide)) ((¬1)∘((@a9 _ _ _ _ _ _ _ _ _ _ _ _ _ _ _ JY Kd (hr.mono (by decide)) ((¬1)∘((¬3)∘((@bA _ _ _ _ _ _ _ rfl ae (@ba _ _ _ _ _ _ _ (@a9 _ _ _ _ _ _ _ _ _ _ _ _ _ _ _ HY HZ (hr.mono (by decide)) ((¬1)∘ac) (by rfl) (by decide) (by rfl) (by rfl)) ae))∘ac))) (by rfl) (by decide) (by rfl) (by rfl))∘ac)) (by rfl) (by decide) (by rfl) (by rfl)) (by rfl) (by trivial))
      (@ag _ _ _ _ _ _ _ _ (@bC _ _ _ _ _ _ _ _ _ _ _ (@m7 _ _ _ _ (@kD _ _ _ _ _ _ _ _ (@aT _ _ _ _ _ _ _ _ _ (@As _ _) (@a9 _ _ _ _ _ _ _ _ _ _ _ _ _ _ _ IZ Jt (hr.mono (by decide)) ((¬3)∘((¬4)∘ac)) (by rfl) (by decide) (by rfl) (by rfl)) (@cc _ _ _ _ _) (aM _)) (@jD _ _ _ _ _ (@fg _ _ _ _ _ (@cO _ _ _ _ (@a9 _ _ _ _ _ _ _ _ _ _ _ _ _ _ _ I0 Ju (hr.mono (by decide)) ((¬3)∘((¬4)∘ac)) (by rfl) (by decide) (by rfl) (by rfl)) (by intro _;rfl))))))
      (@aj _ _ _ _ _ (@az _ _ _ _ _ (@cc _ _ _ _ _)))
      (@aP _ _))
      (@aj _ _ _ _ _ (@cF _ _ _ _ _ _ _ _ _ _ _ PassesOwn.never rfl (@dH _ _ _ _ _ rfl (@a9 _ _ _ _ _ _ _ _ _ _ _ _ _ _ _ IE IY (hr.mono (by decide)) ((¬1)∘((¬3)∘((¬4)∘ac))) (by rfl) (by decide) (by rfl) (by rfl))) (@ap _ _ _ 5 _ nd rfl (Or.inl rfl) (by trivial))
      (@aj _ _ _ _ _ (@bC _ _ _ _ _ _ _ _ _ _ _ (@fg _ _ _ _ _ (@cO _ _ _ _ (@a9 _ _ _ _ _ _ _ _ _ _ _ _ _ _ _ Kl Kz (hr.mono (by decide)) ((@a9 _ _ _ _ _ _ _ _ _ _ _ _ _ _ _ IZ Jt (hr.mono (by decide)) ((¬5)∘((¬4)∘ac)) (by rfl) (by decide) (by rfl) (by rfl))∘((@a9 _ _ _ _ _ _ _ _ _ _ _ _ _ _ _ I0 Ju (hr.mono (by decide)) ((¬5)∘((¬4)∘ac)) (by rfl) (by decide) (by rfl) (by rfl))∘ac)) (by rfl) (by decide) (by rfl) (by rfl)) (by intro _;rfl)))
      (@aj _ _ _ _ _ (@az _ _ _ _ _ (@cc _ _ _ _ _)))
      (@aP _ _))) (by intro _;rfl))))))) (by intro _;rfl))
      (@aj _ _ _ _ _ (@az _ _ _ _ _ (@cc _ _ _ _ _))))))
local macro_rules | `(tactic| simp? [$ts,*]) => `(tactic| simp [$ts,*, gM, kr, au, fB, a_, bH, aY, cC, jE, pO, qi, ax, av, jS, ab, vC, dm, ah, aa, bj, aB, bV, jH, oQ, gy, CU, eQ, p6, jR, li, bM, bI, bW, bc, tK, eL, ib, l4, cY, bz, qb, sG, aX, ao, af, aU, cf, aL, bg, rZ, ed, bE, c9, cP, iG, iE, iC, iB, fP, fN, fQ, eh, fM, nW, kc, kb, nX, kf, iF, kd, ke, fU, fR, ej, fV, nY, jV, jk, jl, jm, nK, ef, ee, eH, iD, List.replicate, -List.map_nil, -List.map_cons, -List.nil_append, -List.cons_append, -Option.bind_some, -Option.map_some, -getElem?_pos, -List.append_nil, nS, nR, nM, nL, nP, nQ, nO, nU])
theorem vH{n k:Int}(h:0 < k):0≤n % k:=Int.emod_nonneg _ (Int.ne_of_gt h)
theorem vI{n k:Int}(h:0 < k):n % k < k:=Int.emod_lt_of_pos _ h
def nx:List Int→Int
  | []=>0
  | d::_=>d
def iT(ds:List Int):Prop:=∀d∈ds,0≤d∧d < 2147483648
theorem CC{ds:List Int}(h:iT ds):0≤nx ds∧nx ds < 2147483648:=by
  cases ds with
  | nil=>exact⟨Int.le_refl 0,by show(0:Int) < 2147483648;decide⟩
  | cons d r=>exact h d (by simp)
theorem Gy{ds:List Int}(h:iT ds):iT ds.tail:=fun d hd=>h d (List.mem_of_mem_tail hd)
theorem Ey(ds:List Int):a8 [.l (ds.map .int)]=some (.d (.int (nx ds)),[.l (ds.tail.map .int)]):=by
  have hq:∀e:En,e[0]?=some (some (.l (ds.map .int)))→bv false e (.s 0) (.l [])=some (.d (.bool (ds.map PyData.int).isEmpty)):=fun e he=>l6 he (iK ds).1
  cases ds with
  | nil=>simp? [a8,uC,hq,nx]
  | cons d r=>simp? [a8,uC,hq,nx]
theorem jh{ds:List Int}(hd:iT ds):∃(n:Int) (ds':List Int),a8 [.l (ds.map .int)]=some (.d (.int n),[.l (ds'.map .int)])∧0≤n∧n < 2147483648∧iT ds':=⟨nx ds,ds.tail,Ey ds,(CC hd).1,(CC hd).2,Gy hd⟩
theorem wo(cell k:Int)(h0:0≤k)(h1:k≤1000):∃r,k7 [.d (.int cell),.d (.int k)]=some (.d (.int r),[.d (.int cell),.d (.int k)])∧0≤r∧r < 2147483648:=by
  have a1:mX (cell % 2147483647) 48271=true:=rY (by decide) (by decide)
  have a2:mX 7919 k=true:=yH (by decide) (by decide)
  have a3:mX (7919*k) k=true:=rY (by lia) (by lia)
  have a4:mX ((cell % 2147483647*48271+7919*k*k+104729) % 2147483647) ((cell % 2147483647*48271+7919*k*k+104729) % 2147483647)=true:=rY (by lia) (by lia)
  refine⟨_,by simp? [k7,vD,aQ,o5,a1,a2,a3,a4];rfl,?_,?_⟩
  · lia
  · lia
theorem rP{ds:List Int}(h:iT ds){r:Int}(h0:0≤r)(h1:r < 2147483648):iT (ds++[r]):=fun d hd=>by
  rcases KZ hd with hd | hd
  · exact h d hd
  · simp at hd;subst hd;exact⟨h0,h1⟩
abbrev dE(ns ds:List Int)(v2 v3 v4:Option Sv):En:=[some (.d (.list (ns.map .int))),some (.l (ds.map .int)),v2,v3,v4]
inductive DI (ns:List Int) (i:Nat):En→Prop
  | mk {ds v2 v3 v4} (hd:iT ds) (hl:ds.length≤1000*i):DI ns i (dE ns ds v2 v3 v4)
inductive DJ (ns:List Int) (k cell:Int) (n i:Nat):En→Prop
  | mk {ds v4} (hd:iT ds) (hl:ds.length=n+i):DJ ns k cell n i (dE ns ds (some (.d (.int k))) (some (.d (.int cell))) v4)
inductive DW (ns:List Int) (k:Int) (v4:Option Sv) (n:Nat):En→Prop
  | mk {cell ds} (hc:0≤cell) (hd:iT ds) (hl:ds.length≤max n 900):DW ns k v4 n (dE ns ds (some (.d (.int k))) (some (.d (.int cell))) v4)
theorem BZ(ns:List Int)(hn:ns.length≤63):∃ds,me [.d (.list (ns.map .int))]=some (.l (ds.map .int),[.d (.list (ns.map .int))])∧iT ds:=by
  have inner:∀(cell k:Int) (ds:List Int) (v4:Option Sv),0≤k→k≤63→iT ds→ds.length≤63000→∃ds' v4',(∀W,di W kY (af 4) iX (dE ns ds (some (.d (.int k))) (some (.d (.int cell))) v4)=some (.nx (dE ns ds' (some (.d (.int k))) (some (.d (.int cell))) v4')))∧iT ds'∧ds'.length=ds.length+12:=by
    intro cell k ds v4 k0 k1 hd hl
    obtain⟨e',h1,h2⟩:=cm (own:=[]) (g:=af 4) (f:=iX) (DJ ns k cell ds.length) (bx 0 12) 0 (dE ns ds (some (.d (.int k))) (some (.d (.int cell))) v4) (fun i x e hx hI=>by
      obtain⟨rfl,hi⟩:=fj hx
      obtain⟨hd',hl'⟩:=hI
      rename_i ds' v4'
      obtain⟨r1,c1,_,_⟩:=wo cell (3*(0+(i:Int))+1) (by lia) (by lia)
      obtain⟨r2,c2,c3,c4⟩:=wo r1 (0+(i:Int)+k+2) (by lia) (by lia)
      have a1:mX 3 (0+(i:Int))=true:=yH (by decide) (by decide)
      refine⟨_,dE ns (ds'++[r2]) (some (.d (.int k))) (some (.d (.int cell))) (some (.d (.int (0+(i:Int))))),rfl,?_,aV,.mk (rP hd' c3 c4) (by simp;lia)⟩
      have hlen:ds'.length < 1000000:=by lia
      simp only [Int.zero_add] at a1 c1 c2
      simp? [dE,iX,c1,c2,o5,a1,hlen]) (.mk hd rfl)
    obtain⟨hd',hl'⟩:=h2
    rename_i ds' v4'
    rw [io] at hl'
    refine⟨ds',v4',fun W=>?_,hd',by lia⟩
    rw [bS (show kY _=some (bx 0 12,[],_) from eY (n:=12) rfl (by decide) (by decide))]
    exact h1
  have wh:∀(cell k:Int) (ds:List Int) (v4:Option Sv),0≤cell→iT ds→ds.length≤63100→∃cell' ds',jF (2 ^ 4200) gR kP (dE ns ds (some (.d (.int k))) (some (.d (.int cell))) v4)=some (.nx (dE ns ds' (some (.d (.int k))) (some (.d (.int cell'))) v4))∧0≤cell'∧iT ds'∧ds'.length≤max ds.length 900:=by
    intro cell k ds v4 hc hd hl
    have tst:∀(cell:Int) (ds:List Int),gR (dE ns ds (some (.d (.int k))) (some (.d (.int cell))) v4)=some (decide (1000000000000000000≤cell)&&decide ((ds.length:Int) < 900),dE ns ds (some (.d (.int k))) (some (.d (.int cell))) v4):=by
      intro cell ds
      by_cases h:(1000000000000000000:Int)≤cell
      · simp? [dE,gR,l7,mj,h]
      · simp? [dE,gR,l7,mj,h]
    obtain⟨e0,e',h1,hI,h3⟩:=jJ (ft:=gR) (f:=kP) (DW ns k v4 ds.length)
      (fun e=>1000000 - lA 1 e) (fun e hI=>by
        obtain⟨hc',hd',hl'⟩:=hI
        rename_i cell' ds'
        rw [tst]
        by_cases c1:(1000000000000000000:Int)≤cell'
        · by_cases c2:(ds'.length:Int) < 900
          · refine .inr ⟨_,dE ns (ds'++[cell' % 2147483629]) (some (.d (.int k))) (some (.d (.int (cell' / 2147483629)))) v4,by rw [decide_eq_true c1,decide_eq_true c2];rfl,?_,.mk (by lia) (rP hd' (by lia) (by lia)) (by simp;lia),?_⟩
            · have hlen:ds'.length < 1000000:=by lia
              have b8:Bt 8000 2147483629:=mR (by decide) (by decide)
              simp? [dE,kP,aQ,gS,b8,hlen]
            · simp [lA,dE];lia
          · exact .inl ⟨_,by rw [decide_eq_true c1,decide_eq_false c2];rfl,trivial⟩
        · exact .inl ⟨_,by rw [decide_eq_false c1];rfl,trivial⟩) (2 ^ 4200) _ (.mk hc hd (by lia)) (oI (m:=20) (Nat.lt_of_le_of_lt (Nat.sub_le _ _) (by decide)) (by decide))
    obtain⟨hc',hd',hl'⟩:=hI
    rename_i cell' ds'
    rw [tst] at h3
    have h4:=(Prod.mk.inj (Option.some.inj h3)).2
    subst h4
    exact⟨cell',ds',h1,hc',hd',hl'⟩
  have turn:∀(i:Nat) (ds:List Int) (v3 v4:Option Sv) (hi:i < ns.length),iT ds→ds.length≤1000*i→∃ds2 v3' v4',gQ (dE ns ds (some (.d (.int (i:Int)))) v3 v4)=some (.nx (dE ns ds2 (some (.d (.int (i:Int)))) v3' v4'))∧iT ds2∧ds2.length≤1000*(i+1):=by
    intro i ds v3 v4 hi hd hl
    have hcell:atI (ns.map PyData.int) (i:Int)=some (.int ns[i]):=by
      rw [h9 (by lia) (by rw [List.length_map];lia)]
      simp [hi]
    have c0:(0:Int)≤(ns[i].natAbs:Int):=by lia
    have st:aY 3 (aB (g1 wG) (aa (av dU (ab 0) (ab 2)) ah)) (dE ns ds (some (.d (.int (i:Int)))) v3 v4)=some (.nx (dE ns ds (some (.d (.int (i:Int)))) (some (.d (.int (ns[i].natAbs:Int)))) v4)):=by
      simp? [dE,hcell]
    generalize (ns[i].natAbs:Int)=cell at c0 st
    have mid:∃ds1 v4',fB (ax (av tD (ab 3) (av uI (vC (.int 10)) (vC (.int 18))))) (di ([4]++[]) kY (af 4) iX) bH (dE ns ds (some (.d (.int (i:Int)))) (some (.d (.int cell))) v4)=some (.nx (dE ns ds1 (some (.d (.int (i:Int)))) (some (.d (.int cell))) v4'))∧iT ds1∧ds1.length≤ds.length+12:=by
      by_cases cb:cell < 1000000000000000000
      · obtain⟨ds1,v4',f1,f2,f3⟩:=inner cell (i:Int) ds v4 (by lia) (by lia) hd (by lia)
        refine⟨ds1,v4',?_,f2,by lia⟩
        rw [CN (e1:=dE ns ds (some (.d (.int (i:Int)))) (some (.d (.int cell))) v4) (by simp? [dE,l7,mj,cb])]
        exact f1 _
      · refine⟨ds,v4,?_,hd,by lia⟩
        rw [CM (e1:=dE ns ds (some (.d (.int (i:Int)))) (some (.d (.int cell))) v4) (by simp? [dE,l7,mj,cb])]
        rfl
    obtain⟨ds1,v4',m1,m2,m3⟩:=mid
    obtain⟨cell2,ds2,w1,w2,w3,w4⟩:=wh cell (i:Int) ds1 v4' c0 m2 (by lia)
    by_cases c2:(2147483629:Int)≤cell2
    · refine⟨ds2++[cell2 % 2147483629],some (.d (.int cell2)),v4',?_,rP w3 (by lia) (by lia),by simp;lia⟩
      have hlen:ds2.length < 1000000:=by lia
      unfold gQ
      rw [bi st,bi m1,bi w1]
      simp? [dE,c2,aQ,hlen]
    · refine⟨ds2,some (.d (.int cell2)),v4',?_,w3,by lia⟩
      unfold gQ
      rw [bi st,bi m1,bi w1]
      simp? [dE,c2]
  obtain⟨e',h1,hI⟩:=cm (own:=[]) (g:=af 2) (f:=gQ) (DI ns) (bx 0 (min (ns.length:Int) 63).toNat) 0 (dE ns [] none none none) (fun i x e hx hI=>by
    obtain⟨rfl,hi⟩:=fj hx
    obtain⟨hd,hl⟩:=hI
    rename_i ds v2 v3 v4
    rw [Nat.zero_add] at hl ⊢
    obtain⟨ds2,v3',v4',t1,t2,t3⟩:=turn i ds v3 v4 (by lia) hd hl
    exact⟨dE ns ds (some (.d (.int (i:Int)))) v3 v4,_,by simp [af,dE],t1,aV,.mk t2 t3⟩) (.mk (fun d hd=>by cases hd) (by simp))
  obtain⟨hd,hl⟩:=hI
  rename_i ds v2 v3 v4
  refine⟨ds,?_,hd⟩
  have hf:∀W,di W mW (af 2) gQ (dE ns [] none none none)=some (.nx (dE ns ds v2 v3 v4)):=fun W=>by
    rw [bS (show mW _=some (bx 0 (min (ns.length:Int) 63).toNat,[],dE ns [] none none none) from eY (n:=min (ns.length:Int) 63) (by simp? [dE]) (by lia) (by lia))]
    exact h1
  unfold dE at hf
  simp only [List.map_nil] at hf
  simp? [me,vA,hf]
theorem Gv(a b:Int)(hb:Bt 4000 b):tI [.d (.int a),.d (.int b)]=some (.d (.int (Int.gcd a b)),[.d (.int a),.d (.int b)]):=by
  have tst:∀x y:Int,lU [some (.d (.int x)),some (.d (.int y))]=some (!(y==0),[some (.d (.int x)),some (.d (.int y))]):=fun x y=>by simp? [lU]
  obtain⟨e0,e',h1,⟨x,y,he,hg,hy⟩,h3⟩:=jJ (ft:=lU) (f:=oC) (fun e=>∃x y,e=[some (.d (.int x)),some (.d (.int y))]∧Int.gcd x y=Int.gcd a b∧Bt 4000 y) (yI 1) (fun e ⟨x,y,he,hg,hy⟩=>by
    subst he
    rw [tst]
    by_cases c:y=0
    · subst c;exact .inl ⟨_,rfl,trivial⟩
    · refine .inr ⟨_,[some (.d (.int y)),some (.d (.int (x.fmod y)))],by rw [beq_false_of_ne c];rfl,by simp? [oC,Dc c],⟨y,x.fmod y,rfl,by rw [yl,hg],?_⟩,?_⟩
      · have:=nV x c
        exact Bt.of_le hy (by lia)
      · have:=nV x c
        simpa [yI] using this) (2 ^ 4200) _ ⟨a,b,rfl,rfl,hb⟩ (oI (m:=4000) (by simpa [yI,Bt] using hb) (by decide))
  subst he
  rw [tst] at h3
  have h4:=Prod.mk.inj (Option.some.inj h3)
  have hy0:y=0:=by simpa using h4.1
  subst hy0
  have h5:=h4.2
  subst h5
  have hs:jF (2 ^ 4200) lU oC [some (.d (.int a)),some (.d (.int b))]=some (.nx [some (.d (.int x)),some (.d (.int 0))]):=h1
  have hg':(x.natAbs:Int)=(Int.gcd a b:Int):=by rw [←hg];simp
  simp only [tI,Cj,gM,kr,au,fB,a_,bH,aY,cC,jE,pO,qi,ax,av,jS,ab,vC,dm,ah,aa,bj,aB,bV,jH,oQ,gy,CU,eQ,p6,jR,li,bM,bI,bW,bc,tK,eL,ib,l4,cY,bz,qb,sG,aX,ao,af,aU,cf,aL,bg,rZ,ed,bE,c9,cP,iG,iE,iC,iB,fP,fN,fQ,eh,fM,nW,kc,kb,nX,kf,iF,kd,ke,fU,fR,ej,fV,nY,jV,jk,jl,jm,nK,ef,ee,eH,iD,List.replicate, -List.map_nil, -List.map_cons, -List.nil_append, -List.cons_append, -Option.bind_some, -Option.map_some, -getElem?_pos, -List.append_nil,nS,nR,nM,nL,nP,nQ,nO,nU]
  simp? [hs,hg']
theorem CO(t b:Int)(hb:0 < b)(h:Bt 4000 b):qR [.d (.int t),.d (.int b)]=some (.d (.tuple [.int (gw t b).1,.int (gw t b).2]),[.d (.int t),.d (.int b)]):=by
  have g0:=vO (t:=t) (b:=b) (by lia)
  have g1:(Int.gcd t b:Int)≠0:=by lia
  have g8:Bt 8000 (Int.gcd t b:Int):=(De (t:=t) (by lia) h).mono (by decide)
  have e:gw t b=(t.fdiv (Int.gcd t b:Int),b.fdiv (Int.gcd t b:Int)):=by unfold gw;rw [if_neg (by lia)]
  rw [e]
  simp? [qR,Ck,Gv t b h,AI g1 g8]
theorem Co{i:Int}{n:Nat}(h1: -2147483648 < i)(h2:i < 2147483648)(hn:31≤n):Bt n i:=Bt.mono (m:=31) (by unfold Bt;lia) hn
def ya(t b:Int):Prop:=0≤t∧t≤b∧1≤b∧b≤100∧Int.gcd t b=1
theorem zN(n k:Int)(hn:0≤n):∃t b,fY [.d (.int n),.d (.int k)]=some (.d (.tuple [.int t,.int b]),[.d (.int n),.d (.int k)])∧ya t b:=by
  have b9:Bt 8000 9:=mR (by decide) (by decide)
  have b100:Bt 8000 100:=mR (by decide) (by decide)
  have low:∀t b:Int,0 < b→0≤t→t≤b→b≤100→ya (gw t b).1 (gw t b).2:=fun t b hb h0 h1 h2=>by
    obtain⟨r1,r2,r3,r4⟩:=uP hb h0 h1 h2
    exact⟨r1,r2,r3,r4,yE (by lia)⟩
  by_cases c0:k=0
  · subst c0
    obtain⟨x,hx,ha⟩:=mO (xs:=[PyData.tuple [.int 1,.int 2],.tuple [.int 1,.int 3],.tuple [.int 2,.int 3],.tuple [.int 1,.int 1],.tuple [.int 0,.int 1],.tuple [.int 3,.int 4]]) (i:=n % 6) (by lia) (by simp;lia)
    obtain⟨t,b,rfl,hc⟩:∃t b,x=.tuple [.int t,.int b]∧ya t b:=by
      simp only [List.mem_cons,List.not_mem_nil,or_false] at hx
      rcases hx with rfl | rfl | rfl | rfl | rfl | rfl<;>exact⟨_,_,rfl,by unfold ya;decide⟩
    exact⟨t,b,by simp? [fY,jY,aQ,ha],hc⟩
  · by_cases c1:k=1
    · subst c1
      have hm:(n / 9) % (2+n % 9 - 1) < 2+n % 9 - 1:=Int.emod_lt_of_pos _ (by lia)
      have hm0:0≤(n / 9) % (2+n % 9 - 1):=Int.emod_nonneg _ (by lia)
      refine⟨_,_,?_,low (1+(n / 9) % (2+n % 9 - 1)) (2+n % 9) (by lia) (by lia) (by lia) (by lia)⟩
      have hpos:∀e:En,aZ e (.d (.int (n / 9))) (.d (.int (2+n % 9 - 1)))=_:=fun e=>aQ (by lia)
      have hl:=CO (1+(n / 9) % (2+n % 9 - 1)) (2+n % 9) (by lia) (Co (by lia) (by lia) (by decide))
      simp? [fY,jY,aQ,gS,b9,hpos,hl]
    · by_cases c2:k=2
      · subst c2
        have hm:(n / 100) % (1+n % 100+1) < 1+n % 100+1:=Int.emod_lt_of_pos _ (by lia)
        have hm0:0≤(n / 100) % (1+n % 100+1):=Int.emod_nonneg _ (by lia)
        refine⟨_,_,?_,low ((n / 100) % (1+n % 100+1)) (1+n % 100) (by lia) (by lia) (by lia) (by lia)⟩
        have hpos:∀e:En,aZ e (.d (.int (n / 100))) (.d (.int (1+n % 100+1)))=_:=fun e=>aQ (by lia)
        have hl:=CO ((n / 100) % (1+n % 100+1)) (1+n % 100) (by lia) (Co (by lia) (by lia) (by decide))
        simp? [fY,jY,aQ,gS,b100,hpos,hl]
      · refine⟨1,1,?_,by unfold ya;decide⟩
        simp? [fY,jY,c0,c1,c2]
theorem B3(n k:Int):∃r,mf [.d (.int n),.d (.int k)]=some (.d (.int r),[.d (.int n),.d (.int k)])∧0≤r∧r≤1000:=by
  obtain⟨x,hx,ha⟩:=mO (xs:=[PyData.int (n % 7),.int (5+n % 2),.int (n % 1001),.int (1000 - n % 3)]) (i:=k % 4) (by lia) (by simp;lia)
  obtain⟨r,rfl,hr⟩:∃r,x=.int r∧0≤r∧r≤1000:=by
    simp only [List.mem_cons,List.not_mem_nil,or_false] at hx
    rcases hx with rfl | rfl | rfl | rfl<;>exact⟨_,rfl,by lia,by lia⟩
  exact⟨r,by simp? [mf,vE,aQ,ha],hr⟩
abbrev tE(ds:List Int)(things many shape odds ws:Int)(ts:List om)(v7 v8 v9 v10 v11 v12:Option Sv):En:=[some (.l (ds.map .int)),some (.d (.int things)),some (.d (.int many)),some (.d (.int shape)),some (.d (.int odds)),some (.d (.int ws)),some (.l (ts.map aO)),v7,v8,v9,v10,v11,v12]
inductive TR (things many shape odds ws:Int) (ts:List om) (k:Option Sv):En→Prop
  | mk {t ds w8 w9 w10 w11 w12} (hd:iT ds) (ht:t.Ok things):TR things many shape odds ws ts k (tE ds things many shape odds ws (ts++[t]) k w8 w9 w10 w11 w12)
inductive TI (things many a b c:Int) (i:Nat):En→Prop
  | mk {ts ds w7 w8 w9 w10 w11 w12} (hd:iT ds) (hl:ts.length=i) (ht:∀t∈ts,t.Ok things):TI things many a b c i (tE ds things many a b c ts w7 w8 w9 w10 w11 w12)
theorem Gw(ds:List Int)(things many shape odds ws:Int)(ts:List om)(k:Int)(v8 v9 v10 v11 v12:Option Sv)(hd:iT ds)(h2:2≤things)(h12:things≤100)(s0:0≤shape)(s1:shape < 6)(k0:0≤k)(hl:ts.length≤1000):
    ∃e',iZ (tE ds things many shape odds ws ts (some (.d (.int k))) v8 v9 v10 v11 v12)=some (.nx e')∧TR things many shape odds ws ts (some (.d (.int k))) e':=by
  obtain⟨n,d1,tn, -, -,hd1⟩:=jh hd
  obtain⟨m,d2,tm,m0, -,hd2⟩:=jh hd1
  obtain⟨x,hx,ha⟩:=mO (xs:=[PyData.int (n % things),.int 0,.int (k % things),.int (n % things),.int (n % 2),.int (n % things)]) (i:=shape) s0 (by simp;lia)
  have tp:0 < things:=Int.lt_of_lt_of_le (by decide) h2
  have tq:0 < things - 1:=Int.sub_pos_of_lt (Int.lt_of_lt_of_le (by decide) h2)
  have nt:0≤n % things∧n % things < things:=⟨vH tp,vI tp⟩
  have kt:0≤k % things∧k % things < things:=⟨vH tp,vI tp⟩
  obtain⟨one,rfl,o0,o1⟩:∃r,x=.int r∧0≤r∧r < things:=by
    simp only [List.mem_cons,List.not_mem_nil,or_false] at hx
    rcases hx with rfl | rfl | rfl | rfl | rfl | rfl<;>exact⟨_,rfl,by lia,by lia⟩
  have r0:0≤(n / 12) % (things - 1):=vH tq
  have r1:(n / 12) % (things - 1) < things - 1:=vI tq
  have q0:0≤(one+1+(n / 12) % (things - 1)) % things:=vH tp
  have q1:(one+1+(n / 12) % (things - 1)) % things < things:=vI tp
  have qn:(one+1+(n / 12) % (things - 1)) % things≠one:=fun z=>by
    by_cases c:one+1+(n / 12) % (things - 1) < things
    · rw [Int.emod_eq_of_lt (by lia) c] at z;lia
    · have e:(one+1+(n / 12) % (things - 1)) % things=(one+1+(n / 12) % (things - 1) - things) % things:=by rw [Int.sub_emod_right]
      rw [e,Int.emod_eq_of_lt (by lia) (by lia)] at z;lia
  obtain⟨t,b,c1,c2,c3,c4,c5,c6⟩:=zN m odds m0
  obtain⟨w,w1,w2,w3⟩:=B3 (m / 10007) ws
  have b12:Bt 8000 12:=mR (by decide) (by decide)
  have b107:Bt 8000 10007:=mR (by decide) (by decide)
  have g1:∀(e:En) (i:Int),aZ e (.d (.int i)) (.d (.int things))=some (.d (.int (i % things))):=fun e i=>aQ tp
  have g2:∀(e:En) (i:Int),aZ e (.d (.int i)) (.d (.int (things - 1)))=some (.d (.int (i % (things - 1)))):=fun e i=>aQ tq
  have hlen:ts.length < 1000000:=by lia
  by_cases c:shape=4
  · subst c
    refine⟨tE d2 things many 4 odds ws (ts++[⟨0,1,t,b,w⟩]) (some (.d (.int k))) (some (.d (.int n))) (some (.d (.int 0))) (some (.d (.int 1))) (some (.d (.int m))) (some (.d (.tuple [.int 0,.int 1]))),?_,.mk hd2 ⟨by show(0:Int)≤0;decide,by show(0:Int) < 1;decide,by show(1:Int) < things;lia,c2,c3,c4,c5,w2,w3,c6⟩⟩
    simp? [tE,iZ,tn,tm,aQ,g1,g2,gS,b12,b107,ha,c1,w1,jv,aO,hlen]
    decide
  · refine⟨tE d2 things many shape odds ws (ts++[⟨min one ((one+1+(n / 12) % (things - 1)) % things),max one ((one+1+(n / 12) % (things - 1)) % things),t,b,w⟩]) (some (.d (.int k))) (some (.d (.int n))) (some (.d (.int one))) (some (.d (.int ((one+1+(n / 12) % (things - 1)) % things)))) (some (.d (.int m))) (some (.d (.tuple [.int (min one ((one+1+(n / 12) % (things - 1)) % things)),.int (max one ((one+1+(n / 12) % (things - 1)) % things))]))),?_,.mk hd2 ⟨by show 0≤min _ _;lia,by show min _ _ < max _ _;lia,by show max _ _ < _;lia,c2,c3,c4,c5,w2,w3,c6⟩⟩
    simp? [tE,iZ,tn,tm,aQ,g1,g2,gS,b12,b107,ha,c1,w1,jv,aO,hlen,c]
theorem EA(ds:List Int)(things many:Int)(hd:iT ds)(h2:2≤things)(h12:things≤100)(m0:0≤many)(m1:many≤1000):∃(ts:List om) (ds':List Int),pB [.l (ds.map .int),.d (.int things),.d (.int many)]=some (.d (.tuple (ts.map aO)),[.l (ds'.map .int),.d (.int things),.d (.int many)])∧iT ds'∧(ts.length:Int)=many∧∀t∈ts,t.Ok things:=by
  obtain⟨n0,d1,t0, -, -,hd1⟩:=jh hd
  obtain⟨n1,d2,t1, -, -,hd2⟩:=jh hd1
  obtain⟨n2,d3,t2, -, -,hd3⟩:=jh hd2
  obtain⟨e',h1,hI⟩:=cm (own:=[]) (g:=af 7) (f:=iZ) (TI things many (n0 % 6) (n1 % 4) (n2 % 4)) (bx 0 many.toNat) 0 (tE d3 things many (n0 % 6) (n1 % 4) (n2 % 4) [] none none none none none none) (fun i x e hx hI=>by
    obtain⟨rfl,hi⟩:=fj hx
    obtain⟨hd',hl,ht⟩:=hI
    rename_i ts ds' w7 w8 w9 w10 w11 w12
    obtain⟨e9,s1,⟨s2,s3⟩⟩:=Gw ds' things many (n0 % 6) (n1 % 4) (n2 % 4) ts (0+(i:Int)) w8 w9 w10 w11 w12 hd' h2 h12 (vH (by decide)) (vI (by decide)) (by lia) (by lia)
    exact⟨_,_,rfl,s1,aV,.mk s2 (by simp;lia) fun z hz=>by
      rcases KZ hz with hz | hz
      · exact ht z hz
      · simp at hz;subst hz;exact s3⟩) (.mk hd3 rfl fun t ht=>by cases ht)
  obtain⟨hd',hl,ht⟩:=hI
  rename_i ts ds' w7 w8 w9 w10 w11 w12
  refine⟨ts,ds',?_,hd',by rw [hl,io];lia,ht⟩
  have hf:∀W,di W pe (af 7) iZ (tE d3 things many (n0 % 6) (n1 % 4) (n2 % 4) [] none none none none none none)=some (.nx (tE ds' things many (n0 % 6) (n1 % 4) (n2 % 4) ts w7 w8 w9 w10 w11 w12)):=fun W=>by
    rw [bS (show pe _=some (bx 0 many.toNat,[],tE d3 things many (n0 % 6) (n1 % 4) (n2 % 4) [] none none none none none none) from eY (n:=many) (by simp? [tE]) (by lia) (by lia))]
    exact h1
  unfold tE at hf
  simp only [List.map_nil] at hf
  simp? [pB,xW,t0,t1,t2,aQ,hf]
abbrev wE(ds:List Int)(most tn things many:Int)(ts:List om)(way:Int)(ps:List Int)(v8 v9:Option Sv):En:=[some (.l (ds.map .int)),some (.d (.int most)),some (.d (.int tn)),some (.d (.int things)),some (.d (.int many)),some (.d (.tuple (ts.map aO))),some (.d (.int way)),some (.l (ps.map .int)),v8,v9]
inductive WI (most tn things many:Int) (ts:List om) (way:Int) (i:Nat):En→Prop
  | mk {ps ds w8} (hd:iT ds) (hpl:ps.length=i) (hps:∀p∈ps,0≤p∧p≤20):WI most tn things many ts way i (wE ds most tn things many ts way ps w8 none)
theorem Gx(ds:List Int)(most tn:Int)(hd:iT ds)(m0:0≤most)(m1:most≤12)(k0:0≤tn)(k1:tn≤16):∃(W:aK) (ds':List Int),tJ [.l (ds.map .int),.d (.int most),.d (.int tn)]=some (.d (aq W),[.l (ds'.map .int),.d (.int most),.d (.int tn)])∧iT ds'∧W.Ok∧W.things≤most∧(W.ties.length:Int)≤tn:=by
  obtain⟨n0,d1,t0, -, -,hd1⟩:=jh hd
  obtain⟨n1,d2,t1, -, -,hd2⟩:=jh hd1
  have mp:0 < most+1:=Int.lt_add_one_of_le m0
  have kp:0 < tn+1:=Int.lt_add_one_of_le k0
  have g0:∀(e:En),aZ e (.d (.int n0)) (.d (.int (most+1)))=some (.d (.int (n0 % (most+1)))):=fun e=>aQ mp
  have g1':∀(e:En),aZ e (.d (.int n1)) (.d (.int (tn+1)))=some (.d (.int (n1 % (tn+1)))):=fun e=>aQ kp
  have th0:0≤n0 % (most+1):=vH mp
  have th1:n0 % (most+1) < most+1:=vI mp
  have ti0:0≤n1 % (tn+1):=vH kp
  have ti1:n1 % (tn+1) < tn+1:=vI kp
  clear mp kp
  generalize n0 % (most+1)=things at th0 th1 g0
  generalize n1 % (tn+1)=tm at ti0 ti1 g1'
  obtain⟨many,hmany,mm,m00,m01⟩:∃many:Int,many=tm*(if decide (1 < things)=true then 1 else 0)∧(1 < things∨many=0)∧0≤many∧many≤tn:=by
    by_cases c:1 < things
    · exact⟨tm,by simp [c],.inl c,ti0,by lia⟩
    · exact⟨0,by simp [c],.inr rfl,by lia,by lia⟩
  have gm:∀e:En,gu e (.d (.int tm)) (.d (.int (if decide (1 < things)=true then 1 else 0)))=some (.d (.int many)):=fun e=>by
    rw [o5 (rY (by split<;>decide) (by split<;>decide)),hmany]
  have gi:∀e:En,g1 wJ e [.d (.bool (decide (1 < things)))]=some (.d (.int (if decide (1 < things)=true then 1 else 0))):=fun e=>rfl
  generalize (if decide (1 < things)=true then 1 else 0:Int)=one at gm gi
  obtain⟨ts,d3,t3,hd3,hlen,hts⟩:=EA d2 (max 2 things) many hd2 (by lia) (by lia) m00 (by lia)
  obtain⟨n4,d4,t4, -, -,hd4⟩:=jh hd3
  obtain⟨e',h1,hI⟩:=cm (own:=[]) (g:=af 8) (f:=oD) (WI most tn things many ts (n4 % 3)) (bx 0 things.toNat) 0 (wE d4 most tn things many ts (n4 % 3) [] none none) (fun i x e hx hI=>by
    obtain⟨rfl,hi⟩:=fj hx
    obtain⟨hd5,hpl,hps⟩:=hI
    rename_i ps d5 w8
    obtain⟨p1,d6,t6, -, -,hd6⟩:=jh hd5
    obtain⟨p2,d7,t7, -, -,hd7⟩:=jh hd6
    obtain⟨z,hz,ha⟩:=mO (xs:=[PyData.int 20,.int (1+p1 % 3),.int (p2 % 21)]) (i:=n4 % 3) (vH (by decide)) (vI (k:=3) (by decide))
    obtain⟨p,rfl,hp⟩:∃r,z=.int r∧0≤r∧r≤20:=by
      simp only [List.mem_cons,List.not_mem_nil,or_false] at hz
      rcases hz with rfl | rfl | rfl<;>exact⟨_,rfl,by lia,by lia⟩
    refine⟨wE d5 most tn things many ts (n4 % 3) ps (some (.d (.int (0+(i:Int))))) none,wE d7 most tn things many ts (n4 % 3) (ps++[p]) (some (.d (.int (0+(i:Int))))) none,rfl,?_,aV,.mk hd7 (by simp;lia) fun q hq=>by
      rcases KZ hq with hq | hq
      · exact hps q hq
      · simp at hq;subst hq;exact hp⟩
    have hlen:ps.length < 1000000:=by lia
    simp? [wE,oD,t6,t7,aQ,ha,hlen]) (.mk hd4 rfl fun p hp=>by cases hp)
  obtain⟨hd5,hpl,hps⟩:=hI
  rename_i ps d5 w8
  have hf:∀W,di W rS (af 8) oD (wE d4 most tn things many ts (n4 % 3) [] none none)=some (.nx (wE d5 most tn things many ts (n4 % 3) ps w8 none)):=fun W=>by
    rw [bS (show rS _=some (bx 0 things.toNat,[],wE d4 most tn things many ts (n4 % 3) [] none none) from eY (n:=things) (by simp? [wE]) (by lia) (by lia))]
    exact h1
  obtain⟨p1,d6,t6, -, -,hd6⟩:=jh hd5
  obtain⟨p2,d7,t7, -, -,hd7⟩:=jh hd6
  obtain⟨p3,d8,t8, -, -,hd8⟩:=jh hd7
  have xp:0 < max 1 many:=Int.lt_of_lt_of_le Int.zero_lt_one (Int.le_max_left _ _)
  have gx:∀(e:En),aZ e (.d (.int p1)) (.d (.int (max 1 many)))=some (.d (.int (p1 % max 1 many))):=fun e=>aQ xp
  have x0:0≤p1 % max 1 many:=vH xp
  have x1:p1 % max 1 many < max 1 many:=vI xp
  obtain⟨z,hz,ha⟩:=mO (xs:=[PyData.int 40,.int (1+p1 % max 1 many),.int (p2 % 41)]) (i:=p3 % 3) (vH (by decide)) (vI (k:=3) (by decide))
  obtain⟨asks,rfl,hasks⟩:∃r,z=.int r∧0≤r∧r≤40:=by
    simp only [List.mem_cons,List.not_mem_nil,or_false] at hz
    rcases hz with rfl | rfl | rfl<;>exact⟨_,rfl,by lia,by lia⟩
  rw [io] at hpl
  refine⟨⟨things,ts,ps,asks⟩,d8,?_,hd8,⟨th0,by show things≤12;lia,fun t ht=>?_,by show ts.length≤16;lia,by show(ps.length:Int)=things;lia,hps,hasks.1,hasks.2⟩,by show things≤most;lia,by show(ts.length:Int)≤tn;lia⟩
  · unfold wE at hf
    simp only [List.map_nil] at hf
    simp? [tJ,Cm,t0,t1,g0,g1',gm,gi,t3,t4,aQ,hf,t6,t7,t8,gx,ha,aq]
  · rcases mm with c | c
    · have:=hts t ht
      rw [show max 2 things=things by lia] at this
      exact this
    · have:ts=[]:=List.length_eq_zero_iff.mp (by lia)
      subst this;cases ht
theorem ni{W:aK}{asked:List Int}{thing:Int}(h:∀k∈asked,jK W k)(hl:asked.length≤1000):el [.d (aq W),.d (.tuple (asked.map .int)),.d (.int thing)]=some (.d (.int (W.many asked thing)),[.d (aq W),.d (.tuple (asked.map .int)),.d (.int thing)]):=by
  let cs:En:=[some (.d (.int thing)),some (.d (aq W))]
  have hc:∀x∈asked.map PyData.int,fH (cs++[some (.d x)])=some (qT (fun k=>W.has k thing) x,cs++[some (.d x)]):=fun x hx=>by
    obtain⟨k,hk,rfl⟩:=K0 hx
    simp? [qT,cs,fH,aq,jW (h k hk),aO,aK.has]
  have he:∀x∈asked.map PyData.int,qT (fun k=>W.has k thing) x=true→fK (cs++[some (.d x)])=some (.d (id x),cs++[some (.d x)]):=fun x hx _=>by
    simp? [cs,fK]
  obtain⟨t',hf⟩:=cM (cs:=cs) (ft:=fH) (fe:=fK) (b:=qT (fun k=>W.has k thing)) (y:=id) (asked.map PyData.int) none [] hc he (by simp;lia)
  have hv:=dQ (cp:=[(2,"_law_thing"),(0,"_law_web_here")]) (nT:=1) (fi:=nZ) (g:=af 2) (ft:=fH) (fe:=fK) (e:=[some (.d (aq W)),some (.d (.tuple (asked.map PyData.int))),some (.d (.int thing))]) (cs:=cs) (t:=[none]) (t':=[t']) (iQ (fa:=ab 1) rfl) rfl rfl hf
  have hlen:(([]++List.map id (List.filter (qT (fun k=>W.has k thing)) (asked.map PyData.int))).length:Int)=W.many asked thing:=by
    unfold aK.many
    simp [List.filter_map]
    rfl
  simp only [el,qq,gM,kr,au,fB,a_,bH,aY,cC,jE,pO,qi,ax,av,jS,ab,vC,dm,ah,aa,bj,aB,bV,jH,oQ,gy,CU,eQ,p6,jR,li,bM,bI,bW,bc,tK,eL,ib,l4,cY,bz,qb,sG,aX,ao,af,aU,cf,aL,bg,rZ,ed,bE,c9,cP,iG,iE,iC,iB,fP,fN,fQ,eh,fM,nW,kc,kb,nX,kf,iF,kd,ke,fU,fR,ej,fV,nY,jV,jk,jl,jm,nK,ef,ee,eH,iD,List.replicate, -List.map_nil, -List.map_cons, -List.nil_append, -List.cons_append, -Option.bind_some, -Option.map_some, -getElem?_pos, -List.append_nil,nS,nR,nM,nL,nP,nQ,nO,nU]
  simp? [hv]
  simpa using hlen
theorem yU{W:aK}(ok:W.Ok){thing:Int}(h0:0≤thing)(h1:thing < W.things):atI (W.pat.map PyData.int) thing=some (.int (W.pat.getD thing.toNat 0)):=sN h0 (by have:=ok.pl;lia)
theorem CQ{W:aK}(ok:W.Ok){asked taken:List Int}{k:Int}(h:∀k∈asked,jK W k)(hl:asked.length≤1000)(hk:jK W k):jN [.d (aq W),.d (gp asked taken),.d (.int k)]=some (.d (.bool (W.may asked taken k)),[.d (aq W),.d (gp asked taken),.d (.int k)]):=by
  have tk:=hk.ok ok
  have t0:=tk.o0
  have t1:=tk.o1
  have t2:=tk.o2
  have p1:=yU ok (thing:=(W.tie k).one) (by lia) (by lia)
  have p2:=yU ok (thing:=(W.tie k).other) (by lia) (by lia)
  have a1:=ni (W:=W) (asked:=asked) (thing:=(W.tie k).one) h hl
  have a2:=ni (W:=W) (asked:=asked) (thing:=(W.tie k).other) h hl
  rw [dN] at a1 a2 ⊢
  unfold aK.may aK.bears
  by_cases c1:asked.contains k=true
  · simp? [jN,qr,gp,c1]
    simp at c1
    simp [c1]
  · by_cases c2:W.asks≤(asked.length:Int)
    · have c1':k∉asked:=by simpa using c1
      simp? [jN,qr,gp,c1',c2]
    · have c1':k∉asked:=by simpa using c1
      have turn:∀(thing:Int) (v5:Option Sv),el [.d (.tuple [.int W.things,.tuple (W.ties.map aO),.tuple (W.pat.map .int),.int W.asks]),.d (.tuple (asked.map .int)),.d (.int thing)]=some (.d (.int (W.many asked thing)),[.d (.tuple [.int W.things,.tuple (W.ties.map aO),.tuple (W.pat.map .int),.int W.asks]),.d (.tuple (asked.map .int)),.d (.int thing)])→atI (W.pat.map PyData.int) thing=some (.int (W.pat.getD thing.toNat 0))→
          jo [some (.d (.tuple [.int W.things,.tuple (W.ties.map aO),.tuple (W.pat.map .int),.int W.asks])),some (.d (gp asked taken)),some (.d (.int k)),some (.d (.tuple (asked.map .int))),some (.d (.tuple (taken.map .int))),some (.d (.int thing))]=(if (!taken.contains thing&&decide (W.many asked thing < W.pat.getD thing.toNat 0))=true then some (.nx [some (.d (.tuple [.int W.things,.tuple (W.ties.map aO),.tuple (W.pat.map .int),.int W.asks])),some (.d (gp asked taken)),some (.d (.int k)),some (.d (.tuple (asked.map .int))),some (.d (.tuple (taken.map .int))),some (.d (.int thing))]) else some (.rt (.d (.bool false)) [some (.d (.tuple [.int W.things,.tuple (W.ties.map aO),.tuple (W.pat.map .int),.int W.asks])),some (.d (gp asked taken)),some (.d (.int k)),some (.d (.tuple (asked.map .int))),some (.d (.tuple (taken.map .int))),some (.d (.int thing))])):=by
        intro thing v5 ha hp
        by_cases d1:taken.contains thing=true
        · have d1':thing∈taken:=by simpa using d1
          simp? [jo,d1']
        · have d1':thing∉taken:=by simpa using d1
          by_cases d2:W.many asked thing < W.pat.getD thing.toNat 0
          · have d2':¬W.pat.getD thing.toNat 0≤W.many asked thing:=by lia
            simp only [List.getD_eq_getElem?_getD] at d2 d2' hp
            simp? [jo,d1',ha,hp,d2,d2']
          · have d2':W.pat.getD thing.toNat 0≤W.many asked thing:=by lia
            simp only [List.getD_eq_getElem?_getD] at d2 d2' hp
            simp? [jo,d1',ha,hp,d2,d2']
      have u1:=turn (W.tie k).one none a1 p1
      have u2:=turn (W.tie k).other none a2 p2
      have hf:∀Wl,di Wl vP (af 5) jo [some (.d (.tuple [.int W.things,.tuple (W.ties.map aO),.tuple (W.pat.map .int),.int W.asks])),some (.d (gp asked taken)),some (.d (.int k)),some (.d (.tuple (asked.map .int))),some (.d (.tuple (taken.map .int))),none]=eX [] (af 5) jo [.int (W.tie k).one,.int (W.tie k).other] [some (.d (.tuple [.int W.things,.tuple (W.ties.map aO),.tuple (W.pat.map .int),.int W.asks])),some (.d (gp asked taken)),some (.d (.int k)),some (.d (.tuple (asked.map .int))),some (.d (.tuple (taken.map .int))),none]:=fun Wl=>by
        rw [bS]
        exact iQ (by simp? [jW hk,aO])
      unfold gp at u1 u2 hf ⊢
      by_cases e1:(!taken.contains (W.tie k).one&&decide (W.many asked (W.tie k).one < W.pat.getD (W.tie k).one.toNat 0))=true
      · by_cases e2:(!taken.contains (W.tie k).other&&decide (W.many asked (W.tie k).other < W.pat.getD (W.tie k).other.toNat 0))=true
        · rw [if_pos e1] at u1
          rw [if_pos e2] at u2
          rw [e1,e2]
          simp only [jN,qr,gM,kr,au,fB,a_,bH,aY,cC,jE,pO,qi,ax,av,jS,ab,vC,dm,ah,aa,bj,aB,bV,jH,oQ,gy,CU,eQ,p6,jR,li,bM,bI,bW,bc,tK,eL,ib,l4,cY,bz,qb,sG,aX,ao,af,aU,cf,aL,bg,rZ,ed,bE,c9,cP,iG,iE,iC,iB,fP,fN,fQ,eh,fM,nW,kc,kb,nX,kf,iF,kd,ke,fU,fR,ej,fV,nY,jV,jk,jl,jm,nK,ef,ee,eH,iD,List.replicate, -List.map_nil, -List.map_cons, -List.nil_append, -List.cons_append, -Option.bind_some, -Option.map_some, -getElem?_pos, -List.append_nil,nS,nR,nM,nL,nP,nQ,nO,nU]
          simp? [c1',c2,hf,eX,u1,u2,aV]
        · rw [if_pos e1] at u1
          rw [if_neg e2] at u2
          rw [e1,Bool.not_eq_true _ |>.mp e2]
          simp only [jN,qr,gM,kr,au,fB,a_,bH,aY,cC,jE,pO,qi,ax,av,jS,ab,vC,dm,ah,aa,bj,aB,bV,jH,oQ,gy,CU,eQ,p6,jR,li,bM,bI,bW,bc,tK,eL,ib,l4,cY,bz,qb,sG,aX,ao,af,aU,cf,aL,bg,rZ,ed,bE,c9,cP,iG,iE,iC,iB,fP,fN,fQ,eh,fM,nW,kc,kb,nX,kf,iF,kd,ke,fU,fR,ej,fV,nY,jV,jk,jl,jm,nK,ef,ee,eH,iD,List.replicate, -List.map_nil, -List.map_cons, -List.nil_append, -List.cons_append, -Option.bind_some, -Option.map_some, -getElem?_pos, -List.append_nil,nS,nR,nM,nL,nP,nQ,nO,nU]
          simp? [c1',c2,hf,eX,u1,u2,aV]
      · rw [if_neg e1] at u1
        rw [Bool.not_eq_true _ |>.mp e1]
        simp only [jN,qr,gM,kr,au,fB,a_,bH,aY,cC,jE,pO,qi,ax,av,jS,ab,vC,dm,ah,aa,bj,aB,bV,jH,oQ,gy,CU,eQ,p6,jR,li,bM,bI,bW,bc,tK,eL,ib,l4,cY,bz,qb,sG,aX,ao,af,aU,cf,aL,bg,rZ,ed,bE,c9,cP,iG,iE,iC,iB,fP,fN,fQ,eh,fM,nW,kc,kb,nX,kf,iF,kd,ke,fU,fR,ej,fV,nY,jV,jk,jl,jm,nK,ef,ee,eH,iD,List.replicate, -List.map_nil, -List.map_cons, -List.nil_append, -List.cons_append, -Option.bind_some, -Option.map_some, -getElem?_pos, -List.append_nil,nS,nR,nM,nL,nP,nQ,nO,nU]
        simp? [c1',c2,hf,eX,u1,aV]
theorem p4{W:aK}{asked taken:List Int}{k:Int}(truth:Bool)(hk:jK W k)(h1:asked.length < 60)(h2:taken.length < 60):dP [.d (aq W),.d (gp asked taken),.d (.int k),.d (.bool truth)]=some (.d (gp (aK.askd asked k) (W.took taken k truth)),[.d (aq W),.d (gp asked taken),.d (.int k),.d (.bool truth)]):=by
  have s1:∀e,g1 c_ e [.d (.tuple (asked.map PyData.int++[.int k]))]=some (.l ((eV (asked++[k])).map .int)):=fun e=>by
    have:=l8 (e:=e) (ns:=asked++[k]) (by simp;lia)
    simpa using this
  have s2:∀e,g1 c_ e [.d (.tuple (taken.map PyData.int++[.int (W.tie k).one,.int (W.tie k).other]))]=some (.l ((eV (taken++[(W.tie k).one,(W.tie k).other])).map .int)):=fun e=>by
    have:=l8 (e:=e) (ns:=taken++[(W.tie k).one,(W.tie k).other]) (by simp;lia)
    simpa using this
  have g1':∀e,bu e (.d (.tuple (asked.map .int))) (.d (.tuple [.int k]))=some (.d (.tuple (asked.map .int++[.int k]))):=fun e=>jv (by simp;lia)
  have g2':∀e,bu e (.d (.tuple (taken.map .int))) (.d (.tuple [.int (W.tie k).one,.int (W.tie k).other]))=some (.d (.tuple (taken.map .int++[.int (W.tie k).one,.int (W.tie k).other]))):=fun e=>jv (by simp;lia)
  rw [dN]
  cases truth with
  | true=>simp? [dP,oV,gp,jW hk,aO,g1',g2',s1,s2,aK.askd,aK.took]
  | false=>simp? [dP,oV,gp,g1',s1,aK.askd,aK.took]
theorem xC{W:aK}(ok:W.Ok){asked taken:List Int}(h:∀k∈asked,jK W k)(hl:asked.length≤1000):i7 [.d (aq W),.d (gp asked taken)]=some (.l ((W.can asked taken).map .int),[.d (aq W),.d (gp asked taken)]):=by
  let cs:En:=[some (.d (aq W)),some (.d (gp asked taken))]
  have wl:=ok.len
  have hc:∀x∈bx 0 W.ties.length,fF (cs++[some (.d x)])=some (qT (fun k=>W.may asked taken k) x,cs++[some (.d x)]):=fun x hx=>by
    obtain⟨i,hi⟩:=List.getElem?_of_mem hx
    obtain⟨rfl,hi⟩:=fj hi
    have:=CQ ok (taken:=taken) h hl (k:=0+(i:Int)) ⟨by lia,by lia⟩
    simp only [Int.zero_add] at this
    simp? [qT,cs,fF,this]
  have he:∀x∈bx 0 W.ties.length,qT (fun k=>W.may asked taken k) x=true→fJ (cs++[some (.d x)])=some (.d (id x),cs++[some (.d x)]):=fun x hx _=>by
    simp? [cs,fJ]
  obtain⟨t',hf⟩:=cM (cs:=cs) (ft:=fF) (fe:=fJ) (b:=qT (fun k=>W.may asked taken k)) (y:=id) (bx 0 W.ties.length) none [] hc he (by rw [io];simp;lia)
  have hv:=dQ (cp:=[(0,"_law_web_here"),(1,"_law_stand")]) (nT:=1) (fi:=kh) (g:=af 2) (ft:=fF) (fe:=fJ) (e:=[some (.d (aq W)),some (.d (gp asked taken))]) (cs:=cs) (t:=[none]) (t':=[t']) (show kh [some (.d (aq W)),some (.d (gp asked taken))]=some (bx 0 W.ties.length,[],[some (.d (aq W)),some (.d (gp asked taken))]) from eY (n:=(W.ties.length:Int)) (by rw [dN];simp? [List.replicate]) (by lia) (by lia)) rfl rfl hf
  rw [List.nil_append,List.map_id,xu] at hv
  simp only [i7,qp,gM,kr,au,fB,a_,bH,aY,cC,jE,pO,qi,ax,av,jS,ab,vC,dm,ah,aa,bj,aB,bV,jH,oQ,gy,CU,eQ,p6,jR,li,bM,bI,bW,bc,tK,eL,ib,l4,cY,bz,qb,sG,aX,ao,af,aU,cf,aL,bg,rZ,ed,bE,c9,cP,iG,iE,iC,iB,fP,fN,fQ,eh,fM,nW,kc,kb,nX,kf,iF,kd,ke,fU,fR,ej,fV,nY,jV,jk,jl,jm,nK,ef,ee,eH,iD,List.replicate, -List.map_nil, -List.map_cons, -List.nil_append, -List.cons_append, -Option.bind_some, -Option.map_some, -getElem?_pos, -List.append_nil,nS,nR,nM,nL,nP,nQ,nO,nU]
  simp? [hv]
def Ao(T:List Nd)(S:Nat→Std)(ws:List Wt):Prop:=(T=[]→∀w∈ws,w.st=([],[]))∧(0 < T.length→S 0=([],[]))
theorem Ao.less{T:List Nd}{S:Nat→Std}{w:Wt}{ws:List Wt}(h:Ao T S (w::ws)):Ao T S ws:=⟨fun e v hv=>h.1 e v (by simp [hv]),h.2⟩
theorem Ao.more{T T':List Nd}{S:Nat→Std}{w:Wt}{ws ws':List Wt}(h:Ao T S (w::ws))(hT:0 < T'.length):Ao T' (L2.upS S T.length w.st) ws':=by
  refine⟨fun e=>by rw [e] at hT;simp at hT,fun _=>?_⟩
  unfold L2.upS
  by_cases c:T.length=0
  · rw [if_pos (by lia)]
    exact h.1 (List.length_eq_zero_iff.mp c) w (by simp)
  · rw [if_neg (by lia)]
    exact h.2 (by lia)
def gE(ds:List Int)(W:aK)(most:Int)(T:List Nd)(ws:List Wt)(v5 v6 v7 v8 v9 v10:Option Sv):En:=[some (.l (ds.map .int)),some (.d (aq W)),some (.d (.int most)),some (.n (T.map wU)),some (.l (ws.map AD)),v5,v6,v7,v8,v9,v10]
inductive GT (W:aK) (most:Int) (T:List Nd) (ws:List Wt):En→Prop
  | mk {ds T' S' ws' u5 u6 u7 u8 u9 u10} (hd:iT ds) (hG:rB W T' S' ws') (hU:vx T' ws') (hZ:Ao T' S' ws') (hc:(T'.length=T.length∧ws'.length=ws.length)∨((T.length:Int) < most∧T'.length=T.length+1∧ws'.length=ws.length+2)):GT W most T ws (gE ds W most T' ws' u5 u6 u7 u8 u9 u10)
noncomputable abbrev gC:FT:=jH (ax (av (bv true) (ab 8) (dm ah))) (jH (ax (av tD (gG 3) (ab 2))) (oQ (ax (av (bv true) (av aZ (ab 9) (vC (.int 7))) (vC (.int 6)))) (ax (av tD (ab 6) (vC (.int 0))))))
noncomputable abbrev gP:FS:=fB (ax (av uH (ab 6) (vC (.int 0)))) (qX 3 (gG 3) (ab 6) (w_ (nC 1) (xa 7))) bH
noncomputable abbrev gA(b:Bool)(i:Int):FS:=cC (bW bc (ab 4) (aa (bj (aa (bV 4 dP (aa (ab 1) (aa (ab 5) (aa (ab 10) (aa (vC (.bool b)) ah))))) (aa (gG 3) (aa (vC (.int i)) ah)))) ah))
theorem EC{W:aK}(ok:W.Ok){ds:List Int}{most:Int}{T:List Nd}{S:Nat→Std}{w:Wt}{ws:List Wt}{v5 v6 v7 v8 v9 v10:Option Sv}(hd:iT ds)(h:rB W T S (w::ws))(hu:vx T (w::ws))(hzz:Ao T S (w::ws))(hT:T.length≤1000)(hw:ws.length≤5000):
    ∃e',iY (gE ds W most T (w::ws) v5 v6 v7 v8 v9 v10)=some (.nx e')∧GT W most T ws e':=by
  obtain⟨n,d1,t1, -, -,hd1⟩:=jh hd
  obtain⟨hs,hp⟩:=h.wt w (by simp)
  have hl:=hs.len
  have hl2:=hs.tk
  have wl:=ok.len
  have ta:=xC ok (asked:=w.st.1) (taken:=w.st.2) hs.inw (by lia)
  let E:List Nd→List Wt→Option Sv→En:=fun T ws v10=>gE d1 W most T ws (some (.d (gp w.st.1 w.st.2))) (some (.d (.int w.par))) (some (.d (.int w.side))) (some (.l ((W.can w.st.1 w.st.2).map .int))) (some (.d (.int n))) v10
  have pre:∀R,(fB gC (au (aY 10 (av dU (ab 8) (av aZ (av gB (ab 9) (vC (.int 7))) (aB (g1 cT) (aa (ab 8) ah))))) (au gP (au (gA true 0) (au (gA false 1) (cC (uk 3 (dm (aa (ab 10) (aa (jS kg (vC (.int 1))) (aa (jS kg (vC (.int 1))) ah)))))))))) bH (E T ws v10)=R)→iY (gE ds W most T (w::ws) v5 v6 v7 v8 v9 v10)=R:=fun R hR=>by
    refine(bi (e1:=gE ds W most T ws (some (.d (gp w.st.1 w.st.2))) (some (.d (.int w.par))) (some (.d (.int w.side))) v8 v9 v10) ?_).trans ((bi (e1:=gE ds W most T ws (some (.d (gp w.st.1 w.st.2))) (some (.d (.int w.par))) (some (.d (.int w.side))) (some (.l ((W.can w.st.1 w.st.2).map .int))) v9 v10) ?_).trans ((bi (e1:=E T ws v10) ?_).trans hR))
    · simp? [gE,AD]
    · simp? [gE,ta]
    · simp? [gE,E,t1]
  have q8:∀e:En,e[8]?=some (some (.l ((W.can w.st.1 w.st.2).map .int)))→bv true e (.s 8) (.l [])=some (.d (.bool (!((W.can w.st.1 w.st.2).map PyData.int).isEmpty))):=fun e he=>by
    have:=l6 (neg:=true) he (iK _).1
    simpa using this
  have gm:∀e:En,aZ e (.d (.int n)) (.d (.int 7))=some (.d (.int (n % 7))):=fun e=>aQ (by decide)
  have tst:gC (E T ws v10)=some (!(W.can w.st.1 w.st.2).isEmpty&&(decide ((T.length:Int) < most)&&(!(n % 7==6) || decide (w.par < 0))),E T ws v10):=by
    by_cases c1:W.can w.st.1 w.st.2=[]
    · rw [c1] at q8
      simp? [E,gC,gE,q8,c1]
    · by_cases c2:(T.length:Int) < most
      · by_cases c3:n % 7=6
        · simp? [E,gC,gE,q8,gm,c1,c2,c3,gG,cE]
        · simp? [E,gC,gE,q8,gm,c1,c2,c3,gG,cE]
      · simp? [E,gC,gE,q8,c1,c2,gG,cE]
  cases hb:(!(W.can w.st.1 w.st.2).isEmpty&&(decide ((T.length:Int) < most)&&(!(n % 7==6) || decide (w.par < 0)))) with
  | false=>
    rw [hb] at tst
    exact⟨E T ws v10,pre _ (CM tst),.mk hd1 h.less hu.less hzz.less (.inl ⟨rfl,rfl⟩)⟩
  | true=>
    rw [hb] at tst
    simp only [Bool.and_eq_true,Bool.or_eq_true,Bool.not_eq_true',decide_eq_true_eq] at hb
    obtain⟨c1,c2,c3⟩:=hb
    have cl:0 < (W.can w.st.1 w.st.2).length:=by
      cases z:W.can w.st.1 w.st.2 with
      | nil=>rw [z] at c1;cases c1
      | cons a r=>simp
    have gd:∀e:En,gB e (.d (.int n)) (.d (.int 7))=some (.d (.int (n / 7))):=fun e=>gS (by decide) (mR (by decide) (by decide))
    have gx:∀e:En,aZ e (.d (.int (n / 7))) (.d (.int (W.can w.st.1 w.st.2).length))=some (.d (.int (n / 7 % (W.can w.st.1 w.st.2).length))):=fun e=>aQ (by lia)
    have x0:0≤n / 7 % ((W.can w.st.1 w.st.2).length:Int):=Int.emod_nonneg _ (by lia)
    have x1:n / 7 % ((W.can w.st.1 w.st.2).length:Int) < (W.can w.st.1 w.st.2).length:=Int.emod_lt_of_pos _ (by lia)
    obtain⟨z,hz,hat⟩:=mO (xs:=(W.can w.st.1 w.st.2).map PyData.int) x0 (by rw [List.length_map];exact x1)
    obtain⟨k,hk,rfl⟩:=K0 hz
    obtain⟨k1,k2⟩:=Aw hk
    have b1:=p4 (W:=W) (asked:=w.st.1) (taken:=w.st.2) true k1 (by lia) (by lia)
    have b2:=p4 (W:=W) (asked:=w.st.1) (taken:=w.st.2) false k1 (by lia) (by lia)
    have more:=h.more ok k1 k2
    refine⟨E ((if 0≤w.par then T.modify w.par.toNat (fun x=>iy x w.side T.length) else T)++[⟨k, -1, -1⟩]) (ws++[⟨L2.nxt W w.st k true,T.length,0⟩,⟨L2.nxt W w.st k false,T.length,1⟩]) (some (.d (.int k))),pre _ ((CN tst).trans ?_),.mk hd1 more hu.more (hzz.more (by simp)) (.inr ⟨c2,by simp;split<;>simp,by simp⟩)⟩
    refine(bi (e1:=E T ws (some (.d (.int k)))) ?_).trans ?_
    · simp? [E,gE,gd,gx,hat]
    generalize hT':(if 0≤w.par then T.modify w.par.toNat (fun x=>iy x w.side T.length) else T)=T'
    have lT':T'.length=T.length:=by rw [←hT'];split<;>simp
    have hP:gP (E T ws (some (.d (.int k))))=some (.nx (E T' ws (some (.d (.int k))))):=by
      rcases hp with z | ⟨p,x,z1,z2,z3⟩
      · have g0:¬0≤w.par:=by lia
        rw [if_neg g0] at hT'
        subst hT'
        simp? [E,gP,gE,g0]
      · have g0:0≤w.par:=by lia
        have pt:w.par.toNat=p:=by lia
        have pl:p < T.length:=(KY z2).1
        rw [if_pos g0,pt] at hT'
        have hix:ma T.length w.par=some p:=by unfold ma;rw [if_pos g0,if_pos (by lia),pt]
        have i1:ma 3 1=some 1:=rfl
        have i2:ma 3 2=some 2:=rfl
        rcases z3 with ⟨s0,s1⟩ | ⟨s0,s1⟩
        · have sl:=xx (n:=T.length) z2
          rw [s0] at hT'
          rw [hT'] at sl
          simp? [E,gP,gE,g0,gG,cE,qX,w_,nC,xa,hix,i1,i2,z2,s0,wU,←sl]
        · have sl:=xA (n:=T.length) z2
          rw [s0] at hT'
          rw [hT'] at sl
          simp? [E,gP,gE,g0,gG,cE,qX,w_,nC,xa,hix,i1,i2,z2,s0,wU,←sl]
    have wl1:ws.length < 1000000:=by lia
    have wl2:ws.length+1 < 1000000:=by lia
    have tl:T.length < 1000000:=by lia
    refine(bi hP).trans ((bi (e1:=E T' (ws++[⟨L2.nxt W w.st k true,T.length,0⟩]) (some (.d (.int k)))) ?_).trans ((bi (e1:=E T' (ws++[⟨L2.nxt W w.st k true,T.length,0⟩,⟨L2.nxt W w.st k false,T.length,1⟩]) (some (.d (.int k)))) ?_).trans ?_))
    · simp? [E,gA,gE,b1,wl1,lT',gG,cE,nxt,AD]
    · simp? [E,gA,gE,b2,wl2,lT',gG,cE,nxt,AD]
    · simp? [E,gE,lT',tl,uk,cE,wU]
def AZ(i:Nat)(e:En):Nat:=match cE e i with
  | some x=>x.length
  | none=>0
def ED:PyData→PyData
  | .list xs=>.tuple xs
  | d=>d
inductive GI (W:aK) (most:Int):En→Prop
  | mk {ds T S ws v5 v6 v7 v8 v9 v10} (hd:iT ds) (hG:rB W T S ws) (hT:(T.length:Int)≤most) (hws:ws.length≤T.length+1) (hU:vx T ws) (hZ:Ao T S ws):GI W most (gE ds W most T ws v5 v6 v7 v8 v9 v10)
theorem B0{W:aK}(ok:W.Ok){ds:List Int}{most:Int}(hd:iT ds)(m0:0≤most)(m1:most≤400):∃ds' T S,kZ [.l (ds.map .int),.d (aq W),.d (.int most)]=some (.d (.tuple (T.map aE)),[.l (ds'.map .int),.d (aq W),.d (.int most)])∧iT ds'∧dJ W T S∧(T.length:Int)≤most∧vx T []∧(0 < T.length→S 0=([],[])):=by
  have q4:∀(ws:List Wt) (e:En),e[4]?=some (some (.l (ws.map AD)))→bv true e (.s 4) (.l [])=some (.d (.bool (!(ws.map AD).isEmpty))):=fun ws e he=>by
    have:=l6 (neg:=true) he ((Sh.list (n:=8) fun d hd=>by
      obtain⟨k,_,rfl⟩:=K0 hd
      exact Sh.wt).ok (by decide))
    simpa using this
  have tst:∀ds T ws v5 v6 v7 v8 v9 v10,i3 (gE ds W most T ws v5 v6 v7 v8 v9 v10)=some (!(ws.map AD).isEmpty,gE ds W most T ws v5 v6 v7 v8 v9 v10):=fun ds T ws v5 v6 v7 v8 v9 v10=>by
    have:=q4 ws (gE ds W most T ws v5 v6 v7 v8 v9 v10) rfl
    unfold gE at this ⊢
    simp? [i3,this]
  obtain⟨e0,e',hw,hI,hf⟩:=jJ (ft:=i3) (f:=iY)
    (GI W most)
    (fun e=>lA 4 e+2*(most.toNat - AZ 3 e)) (fun e hI=>by
      obtain⟨hd1,hG,hT,hws,hU,hZ⟩:=hI
      rename_i d1 T S ws v5 v6 v7 v8 v9 v10
      cases ws with
      | nil=>exact .inl ⟨_,tst _ _ _ _ _ _ _ _ _,trivial⟩
      | cons w ws=>
        obtain⟨e9,hb,⟨hd2,hG2,hU2,hZ2,hc⟩⟩:=EC ok (most:=most) (v5:=v5) (v6:=v6) (v7:=v7) (v8:=v8) (v9:=v9) (v10:=v10) hd1 hG hU hZ (by lia) (by simp at hws;lia)
        simp only [List.length_cons] at hws
        refine .inr ⟨_,_,tst _ _ _ _ _ _ _ _ _,hb,⟨hd2,hG2,?_,?_,hU2,hZ2⟩,?_⟩
        · rcases hc with hc | hc<;>lia
        · rcases hc with hc | hc<;>lia
        · have l1:∀ds T ws v5 v6 v7 v8 v9 v10,lA 4 (gE ds W most T ws v5 v6 v7 v8 v9 v10)=ws.length:=fun ds T ws v5 v6 v7 v8 v9 v10=>by simp [gE,lA]
          have l2:∀ds T ws v5 v6 v7 v8 v9 v10,AZ 3 (gE ds W most T ws v5 v6 v7 v8 v9 v10)=T.length:=fun ds T ws v5 v6 v7 v8 v9 v10=>by simp [gE,AZ,cE]
          simp only [l1,l2,List.length_cons]
          rcases hc with hc | hc<;>lia) (2 ^ 4200) (gE ds W most [] [⟨([],[]), -1,0⟩] none none none none none none)
    (.mk (S:=fun _=>([],[])) hd ⟨fun i x h=>(by simp at h),fun w hw=>(by simp at hw;subst hw;exact⟨oT.first W,.inl rfl⟩),fun w hw=>(by simp at hw;subst hw;exact .inl rfl)⟩ m0 (by simp) vx.first ⟨fun _ w hw=>by simp at hw;subst hw;rfl,fun h=>by simp at h⟩)
    (oI (m:=20) (by simp [gE,lA,AZ,cE];lia) (by decide))
  obtain⟨hd1,hG,hT,hws,hU,hZ⟩:=hI
  rename_i d1 T S ws v5 v6 v7 v8 v9 v10
  rw [tst] at hf
  have hw0:ws=[]:=by
    cases ws with
    | nil=>rfl
    | cons a r=>simp at hf
  subst hw0
  simp at hf
  subst hf
  refine⟨d1,T,S,?_,hd1,hG.tr,hT,hU,hZ.2⟩
  obtain⟨t',hc⟩:=cM (cs:=[]) (ft:=cD) (fe:=kW) (b:=fun _=>true) (y:=ED) ((T.map wU).map PyData.list) none [] (fun x hx=>rfl) (fun x hx _=>by
    obtain⟨xs,_,rfl⟩:=K0 hx
    simp? [kW,ED]) (by simp;lia)
  have hv:=dQ (cp:=[]) (nT:=1) (fi:=qM) (g:=af 0) (ft:=cD) (fe:=kW) (e:=gE d1 W most T [] v5 v6 v7 v8 v9 v10) (e1:=(gE d1 W most T [] v5 v6 v7 v8 v9 v10).set 3 (some (.d (.list ((T.map wU).map .list))))) (cs:=[]) (t:=[none]) (t':=[t']) rfl rfl rfl hc
  have hl:([]++(((T.map wU).map PyData.list).filter fun _=>true).map ED)=T.map aE:=by
    rw [List.nil_append,List.filter_eq_self.mpr (fun _ _=>rfl),List.map_map,List.map_map]
    exact List.map_congr_left fun x _=>rfl
  rw [hl] at hv
  have hw':jF (2 ^ 4200) i3 iY (gE ds W most [] [⟨([],[]), -1,0⟩] none none none none none none)=some (.nx (gE d1 W most T [] v5 v6 v7 v8 v9 v10)):=hw
  unfold gE at hv hw'
  simp only [List.map_cons,List.map_nil,AD,gp] at hw' hv
  simp only [List.set_cons_succ,List.set_cons_zero] at hv
  simp? [kZ,vB,zz,hw',hv]
def rE(ds:List Int)(T:List Nd)(ws order:List Int)(v4 v5 v6:Option Sv):En:=[some (.l (ds.map .int)),some (.d (.tuple (T.map aE))),some (.l (ws.map .int)),some (.l (order.map .int)),v4,v5,v6]
theorem B2{W:aK}(ok:W.Ok){ds:List Int}{T:List Nd}{S:Nat→Std}{ws order:List Int}(hd:iT ds)(h:dJ W T S)(hw:∀w∈ws,0≤w∧w < (T.length:Int))(ho:∀w∈order,0≤w∧w < (T.length:Int))(h0:ws≠[])(hb:order.length+eI S ws≤65535):
    ∃ds' ws' w,cX (rE ds T ws order none none none)=some (.nx (rE ds' T ws' (order++[w]) none none none))∧iT ds'∧(∀w∈ws',0≤w∧w < (T.length:Int))∧(0≤w∧w < (T.length:Int))∧eI S ws'+1≤eI S ws∧∃k,ws[k]?=some w∧ws'=ws.eraseIdx k++rV (bF T w):=by
  obtain⟨n,d1,t1, -, -,hd1⟩:=jh hd
  have hlen:0 < ws.length:=List.length_pos_iff.mpr h0
  have hl2:=qK ok h hw
  have gx:∀e:En,aZ e (.d (.int n)) (.d (.int ws.length))=some (.d (.int (n % ws.length))):=fun e=>aQ (by lia)
  have x0:0≤n % (ws.length:Int):=Int.emod_nonneg _ (by lia)
  have x1:n % (ws.length:Int) < ws.length:=Int.emod_lt_of_pos _ (by lia)
  generalize n % (ws.length:Int)=j at gx x0 x1
  have hj:j.toNat < ws.length:=by lia
  have hw0:ws[j.toNat]?=some ws[j.toNat]:=List.getElem?_eq_getElem hj
  have hwm:ws[j.toNat]∈ws:=List.getElem_mem _
  have hpop:=qL (S:=S) hj
  generalize ws[j.toNat]=w at hw0 hwm hpop
  obtain⟨w0,w1⟩:=hw w hwm
  have o:=h _ _ (eM w0 w1)
  have hh:=o.hang ok
  have j9:j < 1000000000:=by lia
  have ol:order.length < 1000000:=by lia
  let E:En:=rE d1 T (ws.eraseIdx j.toNat) (order++[w]) none none none
  obtain⟨t',hf⟩:=cM (cs:=[]) (ft:=eD) (fe:=eG) (b:=qT fun l=>l != -1) (y:=id) [PyData.int (bF T w).yes,.int (bF T w).no] none [] (fun x hx=>by
    simp only [List.mem_cons,List.not_mem_nil,or_false] at hx
    rcases hx with rfl | rfl<;>simp? [eD,qT,bne]) (fun x hx _=>by
    simp? [eG]) (by simp)
  have hl:([]++([PyData.int (bF T w).yes,.int (bF T w).no].filter (qT fun l=>l != -1)).map id)=(rV (bF T w)).map .int:=by
    rw [List.nil_append,List.map_id,show [PyData.int (bF T w).yes,.int (bF T w).no]=[(bF T w).yes,(bF T w).no].map PyData.int from rfl,List.filter_map]
    rfl
  rw [hl] at hf
  have hi:ii E=some ([PyData.int (bF T w).yes,.int (bF T w).no],[],E):=by
    refine iQ ?_
    have a1:atI (order.map PyData.int++[PyData.int w]) (-1)=some (.int w):=wy
    simp? [E,rE,a1,xS w0 w1,aE]
  have hv:=dQ (cp:=[]) (nT:=1) (fi:=ii) (g:=af 0) (ft:=eD) (fe:=eG) (e:=E) (cs:=[]) (t:=[none]) (t':=[t']) hi rfl rfl hf
  have ln:(ws.eraseIdx j.toNat).length+(rV (bF T w)).length≤1000000:=by
    have:(rV (bF T w)).length≤2:=List.length_filter_le _ _
    rw [List.length_eraseIdx_of_lt hj]
    lia
  refine⟨d1,ws.eraseIdx j.toNat++rV (bF T w),w,?_,hd1,fun v hv=>?_,⟨w0,w1⟩,?_,j.toNat,hw0,rfl⟩
  · simp only [E,rE,List.map_append,List.map_cons,List.map_nil] at hv
    simp only [rE,cX,List.map_append,List.map_cons,List.map_nil]
    simp? [t1,gx,x0,j9,hw0,qH,ol,hv,B8,iS,ln]
  · rcases KZ hv with hv | hv
    · exact hw v (List.mem_of_mem_eraseIdx hv)
    · exact Dr o v hv
  · rw [wN];lia
inductive RI (T:List Nd) (S:Nat→Std) (w0:List Int):En→Prop
  | mk {ds ws order} (hd:iT ds) (hws:∀w∈ws,0≤w∧w < (T.length:Int)) (ho:∀w∈order,0≤w∧w < (T.length:Int)) (hb:order.length+eI S ws≤65535) (how:rD T ws order) (hru:An T w0 ws order):RI T S w0 (rE ds T ws order none none none)
inductive RJ (ds:List Int) (T:List Nd) (order:List Int) (i:Nat):En→Prop
  | mk {nums v5 v6} (hn:jU order T.length nums) (hg:lj order nums i):RJ ds T order i (rE ds T [] order (some (.l (nums.map .int))) v5 v6)
theorem sE{W:aK}(ok:W.Ok){ds:List Int}{T:List Nd}{S:Nat→Std}(hd:iT ds)(h:dJ W T S)(hT:T.length≤400)(hU:vx T [])(hz:0 < T.length→S 0=([],[])):∃ds' T' S',dA [.l (ds.map .int),.d (.tuple (T.map aE))]=some (.d (.tuple (T'.map aE)),[.l (ds'.map .int),.d (.tuple (T.map aE))])∧iT ds'∧dJ W T' S'∧T'.length≤65535∧iU T'∧iV T'∧T'.length≤T.length∧(0 < T'.length→S' 0=([],[])):=by
  have q2:∀(ws:List Int) (e:En),e[2]?=some (some (.l (ws.map .int)))→bv true e (.s 2) (.l [])=some (.d (.bool (!(ws.map PyData.int).isEmpty))):=fun ws e he=>by
    have:=l6 (neg:=true) he (iK _).1
    simpa using this
  have tst:∀ds ws order,cZ (rE ds T ws order none none none)=some (!(ws.map PyData.int).isEmpty,rE ds T ws order none none none):=fun ds ws order=>by
    have:=q2 ws (rE ds T ws order none none none) rfl
    unfold rE at this ⊢
    simp? [cZ,this]
  let w0:List Int:=if T.length=0 then [] else [0]
  have hw00:w0=[]∨w0=[0]:=by
    simp only [w0]
    split
    · exact .inl rfl
    · exact .inr rfl
  have hw0:∀w∈w0,0≤w∧w < (T.length:Int):=fun w hw=>by
    simp only [w0] at hw
    split at hw
    · cases hw
    · simp at hw;lia
  have hb0:eI S w0≤65535:=by
    simp only [w0]
    split
    · simp [eI]
    · have:2 ^ (16 - (S (0:Int).toNat).1.length)≤2 ^ 16:=Nat.pow_le_pow_right (by decide) (by lia)
      simp [eI,hang] at this ⊢
      lia
  obtain⟨e0,e',hw,hI,hf⟩:=jJ (ft:=cZ) (f:=cX)
    (RI T S w0)
    (fun e=>65535 - lA 3 e) (fun e hI=>by
      obtain⟨hd1,hws,ho,hbd,how,hru⟩:=hI
      rename_i d1 ws order
      by_cases c:ws=[]
      · subst c
        exact .inl ⟨_,tst _ _ _,trivial⟩
      · obtain⟨d2,ws',w,hb,hd2,hws',hw',hh,kk,hk1,hk2⟩:=B2 ok hd1 h hws ho c hbd
        have hx1:∀v∈ws,v=w∨v∈ws':=fun v hv=>(wZ hk1 hv).imp id fun q=>by rw [hk2];exact List.mem_append_left _ q
        have hx2:∀l∈rV (bF T w),l∈ws':=fun l hl=>by rw [hk2];exact List.mem_append_right _ hl
        have hru2:An T w0 ws' (order++[w]):=by
          rw [hk2]
          exact hru.turn hw00 hU.unq hU.rng (fun v hv=>(KZ hv).elim (ho v) (hws v)) hk1
        have hl2:=qK ok h hws
        refine .inr ⟨_,_,(by rw [tst];simp [c]),hb,.mk hd2 hws' (fun v hv=>?_) (by simp;lia) (how.turn hx1 hx2) hru2,?_⟩
        · rcases KZ hv with hv | hv
          · exact ho v hv
          · simp at hv;rw [hv];exact hw'
        · have l1:∀ds ws order,lA 3 (rE ds T ws order none none none)=order.length:=fun ds ws order=>by simp [rE,lA]
          simp only [l1,List.length_append,List.length_cons,List.length_nil]
          lia) (2 ^ 4200) (rE ds T w0 [] none none none)
    (.mk hd hw0 (fun w hw=>(by cases hw)) (by simpa using hb0) rD.first (An.first hw00))
    (oI (m:=20) (by simp [rE,lA]) (by decide))
  obtain⟨hd1,hws,ho,hbd,how,hru⟩:=hI
  rename_i d1 ws order
  rw [tst] at hf
  have hw1:ws=[]:=by
    cases ws with
    | nil=>rfl
    | cons a r=>simp at hf
  subst hw1
  simp at hf
  subst hf
  obtain⟨e2,h1,hJ⟩:=cm (own:=[(3,order.map PyData.int)]) (g:=aX (ao (af 5) (ao (af 6) aU))) (f:=eC) (RJ d1 T order) (ck 0 (order.map .int)) 0 (rE d1 T [] order (some (.l ((List.replicate (T.length+1) (-1:Int)).map .int))) none none) (fun i x e hx hJ=>by
    obtain⟨hn,hng⟩:=hJ
    rename_i nums v5 v6
    rw [i4,List.getElem?_map,Option.map_map] at hx
    obtain⟨w,hw2,rfl⟩:=KW hx
    obtain⟨a0,a1⟩:=ho w (K2 hw2)
    have hix:ma nums.length w=some w.toNat:=by unfold ma;rw [if_pos a0,if_pos (by rw [hn.len];lia)]
    refine⟨rE d1 T [] order (some (.l (nums.map .int))) (some (.d (.int (i:Int)))) (some (.d (.int w))),rE d1 T [] order (some (.l ((nums.set w.toNat (i:Int)).map .int))) (some (.d (.int (i:Int)))) (some (.d (.int w))),?_,?_,?_,.mk (hn.set hw2 a0 a1) (by
      rw [Nat.zero_add] at hng ⊢
      exact hng.set hw2 (by rw [hn.len];lia))⟩
    · simp? [rE]
    · simp? [rE,eC,tV,iS,hix,List.map_set]
    · intro p hp
      simp at hp
      subst hp
      rfl) (.mk jU.first lj.first)
  obtain⟨hn,hng⟩:=hJ
  rename_i nums v5 v6
  obtain⟨t',hc⟩:=cM (cs:=[some (.l (nums.map PyData.int)),some (.d (.tuple (T.map aE)))]) (ft:=cD) (fe:=eF) (b:=fun _=>true) (y:=G8 fun w=>aE (renum T nums w)) (order.map PyData.int) none [] (fun x hx=>rfl) (fun x hx _=>by
    obtain⟨w,hw2,rfl⟩:=K0 hx
    obtain⟨a0,a1⟩:=ho w hw2
    have o:=h _ _ (eM a0 a1)
    have y:=o.yes.rng
    have n:=o.no.rng
    have ny:atI (nums.map PyData.int) (bF T w).yes=some (.int (nm nums (bF T w).yes)):=CB (by rw [hn.len];lia) (by rw [hn.len];lia)
    have nn:atI (nums.map PyData.int) (bF T w).no=some (.int (nm nums (bF T w).no)):=CB (by rw [hn.len];lia) (by rw [hn.len];lia)
    have nd:=xS a0 a1
    simp? [eF,nd,ny,nn,G8,aE,renum]) (by simp;lia)
  have hv:=rq (cp:=[(4,"_law_numbers"),(1,"_law_tree")]) (nT:=1) (fi:=kl) (g:=af 2) (ft:=cD) (fe:=eF) (e:=rE d1 T [] order (some (.l (nums.map .int))) v5 v6) (cs:=[some (.l (nums.map PyData.int)),some (.d (.tuple (T.map aE)))]) (t:=[none]) (t':=[t']) (own:=[(3,order.map PyData.int)]) rfl rfl rfl rfl hc
  have hl:([]++((order.map PyData.int).filter fun _=>true).map (G8 fun w=>aE (renum T nums w)))=(order.map (renum T nums)).map aE:=by
    rw [List.nil_append,List.filter_eq_self.mpr (fun _ _=>rfl),List.map_map,List.map_map]
    exact List.map_congr_left fun x _=>rfl
  rw [hl] at hv
  have hng':lj order nums order.length:=by rw [Nat.zero_add,eg,List.length_map] at hng;exact hng
  refine⟨d1,order.map (renum T nums),_,?_,hd1,h.renum ho hn,by rw [List.length_map];lia,xn h ho hn hng' how,vk h hU.unq ho hn hng' how hru,by rw [List.length_map];exact pH T.length order (by have:=hru.nd;rwa [List.append_nil] at this) ho,fun hp=>?_⟩
  rotate_left
  · rw [List.length_map] at hp
    rcases hru.fst with ⟨z,_⟩ | z
    · rw [z] at hp;simp at hp
    · have o0:=ho 0 (K2 z)
      show S (order.getD 0 0).toNat=([],[])
      rw [List.getD_eq_getElem?_getD,z]
      exact hz (by lia)
  have hw':jF (2 ^ 4200) cZ cX (rE ds T w0 [] none none none)=some (.nx (rE d1 T [] order none none none)):=hw
  have hfor:∀Wl:List Nat,3∉Wl→di Wl km (aX (ao (af 5) (ao (af 6) aU))) eC (rE d1 T [] order (some (.l ((List.replicate (T.length+1) (-1:Int)).map .int))) none none)=some (.nx (rE d1 T [] order (some (.l (nums.map .int))) v5 v6)):=fun Wl hWl=>by
    rw [zy (own:=[(3,order.map PyData.int)]) (items:=ck 0 (order.map .int)) (e1:=rE d1 T [] order (some (.l ((List.replicate (T.length+1) (-1:Int)).map .int))) none none) rfl (by simp [hWl])]
    exact h1
  have hw0':cutD [.int 0] none (some (T.length:Int))=w0.map .int:=by
    rw [E8]
    simp only [w0]
    split<;>rfl
  have gr:∀e:En,gu e (.l [.int (-1)]) (.d (.int ((T.length:Int)+1)))=some (.l (List.replicate (T.length+1) (.int (-1)))):=fun e=>by
    rw [vN (by lia) (by lia)]
    congr 3
  have hfor':=hfor [5,6] (by decide)
  unfold rE at hv hw' hfor'
  simp only [List.map_replicate,List.map_nil,List.map_cons,List.replicate_succ] at hfor' hw' hv
  simp? [dA,lQ,Fe,hw0',hw',gr,hfor',hv]
theorem Ez(a b:Bool):pA [.d (.bool a),.d (.bool b)]=some (.d (.bool (a==b)),[.d (.bool a),.d (.bool b)]):=by
  have gi:∀(e:En) (x y:Bool),Fd e (.d (.bool x)) (.d (.bool y))=some (.d (.bool (x==y))):=fun e x y=>rfl
  cases a<;>cases b<;>simp? [pA,xV,gi]
theorem zR(i:Int):de [.d (.int i)]=some (.d (.bool true),[.d (.int i)]):=by
  simp? [de,nB,iu,AO,zH,EF]
theorem zS(i lo hi:Int):br [.d (.int i),.d (.int lo),.d (.int hi)]=some (.d (.bool (decide (lo≤i)&&decide (i≤hi))),[.d (.int i),.d (.int lo),.d (.int hi)]):=by
  by_cases c:lo≤i
  · simp? [br,dZ,zR,ir,c]
  · simp? [br,dZ,zR,ir,c]
theorem zU(ds:List PyData)(n:Int):fZ [.d (.tuple ds),.d (.int n)]=some (.d (.bool ((ds.length:Int)==n)),[.d (.tuple ds),.d (.int n)]):=by
  simp? [fZ,nD,iu,AO,zH,EF]
theorem kN{W:aK}{k:Int}(hk:jK W k):b_ [.d (aq W),.d (.int k)]=some (.d (.tuple [.int (W.tie k).one,.int (W.tie k).other]),[.d (aq W),.d (.int k)]):=by
  rw [dN]
  simp? [b_,nG,jW hk,aO]
theorem uf{W:aK}{asked:List Int}{thing:Int}(h:∀k∈asked,jK W k)(hl:asked.length≤1000):f9 [.d (aq W),.d (.tuple (asked.map .int)),.d (.int thing)]=some (.d (.int (W.many asked thing)),[.d (aq W),.d (.tuple (asked.map .int)),.d (.int thing)]):=by
  let cs:En:=[some (.d (.int thing)),some (.d (aq W))]
  have hc:∀x∈asked.map PyData.int,dM (cs++[some (.d x)])=some (qT (fun k=>W.has k thing) x,cs++[some (.d x)]):=fun x hx=>by
    obtain⟨k,hk,rfl⟩:=K0 hx
    have t:=kN (h k hk)
    simp? [qT,cs,dM,t,aK.has]
  have he:∀x∈asked.map PyData.int,qT (fun k=>W.has k thing) x=true→dO (cs++[some (.d x)])=some (.d (id x),cs++[some (.d x)]):=fun x hx _=>by
    simp? [cs,dO]
  obtain⟨t',hf⟩:=cM (cs:=cs) (ft:=dM) (fe:=dO) (b:=qT (fun k=>W.has k thing)) (y:=id) (asked.map PyData.int) none [] hc he (by simp;lia)
  have hv:=dQ (cp:=[(2,"thing"),(0,"web")]) (nT:=1) (fi:=ls) (g:=af 2) (ft:=dM) (fe:=dO) (e:=[some (.d (aq W)),some (.d (.tuple (asked.map PyData.int))),some (.d (.int thing))]) (cs:=cs) (t:=[none]) (t':=[t']) (iQ (fa:=ab 1) rfl) rfl rfl hf
  have hlen:(([]++List.map id (List.filter (qT (fun k=>W.has k thing)) (asked.map PyData.int))).length:Int)=W.many asked thing:=by
    unfold aK.many
    simp [List.filter_map]
    rfl
  simp only [f9,nE,gM,kr,au,fB,a_,bH,aY,cC,jE,pO,qi,ax,av,jS,ab,vC,dm,ah,aa,bj,aB,bV,jH,oQ,gy,CU,eQ,p6,jR,li,bM,bI,bW,bc,tK,eL,ib,l4,cY,bz,qb,sG,aX,ao,af,aU,cf,aL,bg,rZ,ed,bE,c9,cP,iG,iE,iC,iB,fP,fN,fQ,eh,fM,nW,kc,kb,nX,kf,iF,kd,ke,fU,fR,ej,fV,nY,jV,jk,jl,jm,nK,ef,ee,eH,iD,List.replicate, -List.map_nil, -List.map_cons, -List.nil_append, -List.cons_append, -Option.bind_some, -Option.map_some, -getElem?_pos, -List.append_nil,nS,nR,nM,nL,nP,nQ,nO,nU]
  simp? [hv]
  simpa using hlen
theorem Bm{W:aK}(ok:W.Ok){thing:Int}(h0:0≤thing)(h1:thing < W.things):atI (W.pat.map PyData.int) thing=some (.int (W.pat.getD thing.toNat 0)):=sN h0 (by have:=ok.pl;lia)
theorem wn{W:aK}(ok:W.Ok){asked taken:List Int}{thing:Int}(h:∀k∈asked,jK W k)(hl:asked.length≤1000)(h0:0≤thing)(h1:thing < W.things):bK [.d (aq W),.d (gp asked taken),.d (.int thing)]=some (.d (.bool (W.bears asked taken thing)),[.d (aq W),.d (gp asked taken),.d (.int thing)]):=by
  have a:=uf (thing:=thing) h hl
  have p:=Bm ok h0 h1
  have g2:∀e,dU e (.d (aq W)) (.d (.int 2))=some (.d (.tuple (W.pat.map .int))):=fun e=>by rw [dN,kc,jl];rfl
  unfold aK.bears
  generalize W.pat.getD thing.toNat 0=q at p ⊢
  by_cases c:taken.contains thing=true
  · simp only [c]
    simp at c
    simp? [bK,eW,gp,c]
  · have c':taken.contains thing=false:=by simpa using c
    simp only [c']
    simp at c
    unfold gp at a ⊢
    simp? [bK,eW,c,a,g2,p]
theorem xE{W:aK}(ok:W.Ok){asked taken:List Int}{k:Int}(h:∀k∈asked,jK W k)(hl:asked.length≤1000)(hk:jK W k):eZ [.d (aq W),.d (gp asked taken),.d (.int k)]=some (.d (.bool (W.may asked taken k)),[.d (aq W),.d (gp asked taken),.d (.int k)]):=by
  have o:=hk.ok ok
  have o0:=o.o0;have o1:=o.o1;have o2:=o.o2
  have b1:=wn ok (taken:=taken) (thing:=(W.tie k).one) h hl (by lia) (by lia)
  have b2:=wn ok (taken:=taken) (thing:=(W.tie k).other) h hl (by lia) (by lia)
  have th:=kN hk
  have g3:∀e,dU e (.d (aq W)) (.d (.int 3))=some (.d (.int W.asks)):=fun e=>by rw [dN,kc,jm];rfl
  unfold aK.may
  by_cases c1:asked.contains k=true
  · simp only [c1]
    simp at c1
    simp? [eZ,kR,gp,c1]
  · have c1':asked.contains k=false:=by simpa using c1
    simp at c1
    by_cases c2:W.asks≤(asked.length:Int)
    · simp only [c1',c2]
      simp? [eZ,kR,gp,c1,c2,g3]
    · simp only [c1',c2]
      have hc:cQ [(0,"web"),(1,"stand")] 1 oa (af 2) cD ka [some (.d (aq W)),some (.d (gp asked taken)),some (.d (.int k)),some (.d (.tuple (asked.map .int)))]=some (.l [.bool (W.bears asked taken (W.tie k).one),.bool (W.bears asked taken (W.tie k).other)],[some (.d (aq W)),some (.d (gp asked taken)),some (.d (.int k)),some (.d (.tuple (asked.map .int)))]):=by
        refine vq (items:=[.int (W.tie k).one,.int (W.tie k).other]) (eo:=[some (.d (aq W)),some (.d (gp asked taken)),some (.d (.int (W.tie k).other))]) (iQ (by simp? [th])) ?_ rfl
        have hi:mN [(0,"web"),(1,"stand")] 1 [some (.d (aq W)),some (.d (gp asked taken)),some (.d (.int k)),some (.d (.tuple (asked.map .int)))]=[some (.d (aq W)),some (.d (gp asked taken)),none]:=rfl
        rw [hi]
        simp? [cI,cD,ka,b1,b2]
      have ga:∀e,g1 (jL lm) e [.l [.bool (W.bears asked taken (W.tie k).one),.bool (W.bears asked taken (W.tie k).other)]]=some (.d (.bool (W.bears asked taken (W.tie k).one&&W.bears asked taken (W.tie k).other))):=fun e=>by
        simp [g1,jL,eO,lm,mQ]
      unfold gp at hc ⊢
      simp? [eZ,kR,c1,c2,g3,hc,ga]
theorem p5{W:aK}{asked taken:List Int}{k:Int}(truth:Bool)(hk:jK W k)(h1:asked.length < 60)(h2:taken.length < 60):cv [.d (aq W),.d (gp asked taken),.d (.int k),.d (.bool truth)]=some (.d (gp (aK.askd asked k) (W.took taken k truth)),[.d (aq W),.d (gp asked taken),.d (.int k),.d (.bool truth)]):=by
  have s1:∀e,g1 c_ e [.d (.tuple (asked.map PyData.int++[.int k]))]=some (.l ((eV (asked++[k])).map .int)):=fun e=>by
    have:=l8 (e:=e) (ns:=asked++[k]) (by simp;lia)
    simpa using this
  have s2:∀e,g1 c_ e [.d (.tuple (taken.map PyData.int++[.int (W.tie k).one,.int (W.tie k).other]))]=some (.l ((eV (taken++[(W.tie k).one,(W.tie k).other])).map .int)):=fun e=>by
    have:=l8 (e:=e) (ns:=taken++[(W.tie k).one,(W.tie k).other]) (by simp;lia)
    simpa using this
  have g1':∀e,bu e (.d (.tuple (asked.map .int))) (.d (.tuple [.int k]))=some (.d (.tuple (asked.map .int++[.int k]))):=fun e=>jv (by simp;lia)
  have g2':∀e,bu e (.d (.tuple (taken.map .int))) (.d (.tuple [.int (W.tie k).one,.int (W.tie k).other]))=some (.d (.tuple (taken.map .int++[.int (W.tie k).one,.int (W.tie k).other]))):=fun e=>jv (by simp;lia)
  have th:=kN hk
  cases truth with
  | true=>simp? [cv,h_,gp,th,g1',g2',s1,s2,aK.askd,aK.took]
  | false=>simp? [cv,h_,gp,g1',s1,aK.askd,aK.took]
abbrev EN(s:Std):Prop:=s.1.length≤15∧s.2.length≤30
def lE(W:aK)(T:List Nd)(ss:List Std)(v3 v4 v5 v6:Option Sv):En:=[some (.d (aq W)),some (.d (.tuple (T.map aE))),some (.l (ss.map dS)),v3,v4,v5,v6]
theorem zP{W:aK}{T:List Nd}{ss:List Std}{i:Nat}{x:Nd}{b:Bool}{l:Int}(hi:i < ss.length)(hk:jK W x.tie)(h1:(ss.getD i ([],[])).1.length≤15∧(ss.getD i ([],[])).2.length≤30)(hl: -1≤l∧l < (ss.length:Int)):
    jp (lE W T ss (some (.d (.int i))) (some (.d (aE x))) (some (.d (.bool b))) (some (.d (.int l))))=some (.nx (lE W T (stp W ss i x.tie b l) (some (.d (.int i))) (some (.d (aE x))) (some (.d (.bool b))) (some (.d (.int l))))):=by
  have tb:=p4 (W:=W) (asked:=(ss.getD i ([],[])).1) (taken:=(ss.getD i ([],[])).2) b hk (by lia) (by lia)
  have ha:=xU hi
  by_cases c:l= -1
  · subst c
    simp? [lE,jp,stp]
  · have hix:ma ss.length l=some l.toNat:=by unfold ma;rw [if_pos (by lia),if_pos hl.2]
    generalize hg:ss.getD i ([],[])=s at tb ha
    simp only [stp,if_neg c,hg]
    simp? [lE,jp,aE,c,ha,tb,tV,iS,hix,nxt,dS,List.map_set]
theorem ud{W:aK}{T:List Nd}(hi':∀(i:Nat) (x:Nd),T[i]?=some x→jK W x.tie∧(-1≤x.yes∧x.yes < (T.length:Int))∧(-1≤x.no∧x.no < (T.length:Int)))(hb:∀(i:Nat) (x:Nd),T[i]?=some x→(aC W T i).length=T.length∧EN ((aC W T i).getD i ([],[]))∧EN ((stp W (aC W T i) i x.tie true x.yes).getD i ([],[])))(hT:T.length≤65535):ik [.d (aq W),.d (.tuple (T.map aE))]=some (.d (.tuple ((aC W T T.length).map dS)),[.d (aq W),.d (.tuple (T.map aE))]):=by
  obtain⟨e2,h1,⟨v3,v4,v5,v6,he⟩⟩:=cm (own:=[]) (g:=aX (ao (af 3) (ao (af 4) aU))) (f:=jq) (fun i e=>∃v3 v4 v5 v6,e=lE W T (aC W T i) v3 v4 v5 v6) (ck 0 (T.map aE)) 0 (lE W T (aC W T 0) none none none none) (fun i x e hx ⟨v3,v4,v5,v6,he⟩=>by
    subst he
    obtain⟨y,hy,rfl⟩:=ic hx
    have hi:i < T.length:=(KY hy).1
    obtain⟨o,oy,on⟩:=hi' i y hy
    obtain⟨sl,s0,s1⟩:=hb i y hy
    have sl1:(stp W (aC W T i) i y.tie true y.yes).length=T.length:=by rw [k_,sl]
    rw [Nat.zero_add,kM hy]
    generalize aC W T i=ss at sl sl1 s0 s1
    have u1:=zP (W:=W) (T:=T) (x:=y) (b:=true) (l:=y.yes) (by rw [sl];exact hi) o s0 (by rw [sl];exact oy)
    have u2:=zP (W:=W) (T:=T) (x:=y) (b:=false) (l:=y.no) (by rw [sl1];exact hi) o s1 (by rw [sl1];exact on)
    refine⟨lE W T ss (some (.d (.int i))) (some (.d (aE y))) v5 v6,lE W T (std1 W ss i y) (some (.d (.int i))) (some (.d (aE y))) (some (.d (.bool false))) (some (.d (.int y.no))),?_,?_,aV,_,_,_,_,rfl⟩
    · simp? [lE]
    · unfold jq
      rw [bS (items:=[.tuple [.bool true,.int y.yes],.tuple [.bool false,.int y.no]]) (e1:=lE W T ss (some (.d (.int i))) (some (.d (aE y))) v5 v6) (show pb (lE W T ss (some (.d (.int i))) (some (.d (aE y))) v5 v6)=_ from uK (by simp? [lE,aE]))]
      unfold std1
      unfold lE at u1 u2 ⊢
      simp? [eX,u1,u2,aV]) ⟨none,none,none,none,rfl⟩
  subst he
  rw [Nat.zero_add,eg,List.length_map] at h1
  have hfor:∀Wl,di Wl pd (aX (ao (af 3) (ao (af 4) aU))) jq (lE W T (aC W T 0) none none none none)=some (.nx (lE W T (aC W T T.length) v3 v4 v5 v6)):=fun Wl=>by
    rw [bS (items:=ck 0 (T.map aE)) (e1:=lE W T (aC W T 0) none none none none) rfl]
    exact h1
  have gr:∀e:En,gu e (.l [.tuple [.tuple [],.tuple []]]) (.d (.int (T.length:Int)))=some (.l ((aC W T 0).map dS)):=fun e=>by
    rw [vN (by lia) (by lia)]
    simp [aC,dS,gp]
  unfold lE at hfor
  simp? [ik,sQ,gr,hfor]
def oE(W:aK)(T:List Nd)(ss:List Std)(v3 v4 v5 v6 v7 v8:Option Sv):En:=[some (.d (aq W)),some (.d (.tuple (T.map aE))),some (.l (ss.map dS)),v3,v4,v5,v6,v7,v8]
theorem zT{W:aK}{T:List Nd}{ss:List Std}{i:Nat}{k:Int}{b:Bool}{l:Int}{v5 v6:Option Sv}(hi:i < ss.length)(hk:jK W k)(h1:(ss.getD i ([],[])).1.length≤15∧(ss.getD i ([],[])).2.length≤30)(hl: -1≤l∧l < (ss.length:Int)):
    fw (oE W T ss (some (.d (.int i))) (some (.d (.int k))) v5 v6 (some (.d (.int l))) (some (.d (.bool b))))=some (.nx (oE W T (stp W ss i k b l) (some (.d (.int i))) (some (.d (.int k))) v5 v6 (some (.d (.int l))) (some (.d (.bool b))))):=by
  have tb:=p5 (W:=W) (asked:=(ss.getD i ([],[])).1) (taken:=(ss.getD i ([],[])).2) b hk (by lia) (by lia)
  have ha:=xU hi
  by_cases c:l= -1
  · subst c
    simp? [oE,fw,stp]
  · have hix:ma ss.length l=some l.toNat:=by unfold ma;rw [if_pos (by lia),if_pos hl.2]
    generalize hg:ss.getD i ([],[])=s at tb ha
    simp only [stp,if_neg c,hg]
    simp? [oE,fw,c,ha,tb,tV,iS,hix,nxt,dS,List.map_set]
theorem ug{W:aK}{T:List Nd}(hi':∀(i:Nat) (x:Nd),T[i]?=some x→jK W x.tie∧(-1≤x.yes∧x.yes < (T.length:Int))∧(-1≤x.no∧x.no < (T.length:Int)))(hb:∀(i:Nat) (x:Nd),T[i]?=some x→(aC W T i).length=T.length∧EN ((aC W T i).getD i ([],[]))∧EN ((stp W (aC W T i) i x.tie true x.yes).getD i ([],[])))(hT:T.length≤65535):f_ [.d (aq W),.d (.tuple (T.map aE))]=some (.d (.tuple ((aC W T T.length).map dS)),[.d (aq W),.d (.tuple (T.map aE))]):=by
  obtain⟨e2,h1,⟨v3,v4,v5,v6,v7,v8,he⟩⟩:=cm (own:=[]) (g:=aX (ao (af 3) (ao (aX (ao (af 4) (ao (af 5) (ao (af 6) aU)))) aU))) (f:=fx) (fun i e=>∃v3 v4 v5 v6 v7 v8,e=oE W T (aC W T i) v3 v4 v5 v6 v7 v8) (ck 0 (T.map aE)) 0 (oE W T (aC W T 0) none none none none none none) (fun i x e hx ⟨v3,v4,v5,v6,v7,v8,he⟩=>by
    subst he
    obtain⟨y,hy,rfl⟩:=ic hx
    have hi:i < T.length:=(KY hy).1
    obtain⟨o,oy,on⟩:=hi' i y hy
    obtain⟨sl,s0,s1⟩:=hb i y hy
    have sl1:(stp W (aC W T i) i y.tie true y.yes).length=T.length:=by rw [k_,sl]
    rw [Nat.zero_add,kM hy]
    generalize aC W T i=ss at sl sl1 s0 s1
    have u1:=zT (W:=W) (T:=T) (k:=y.tie) (b:=true) (l:=y.yes) (v5:=some (.d (.int y.yes))) (v6:=some (.d (.int y.no))) (by rw [sl];exact hi) o s0 (by rw [sl];exact oy)
    have u2:=zT (W:=W) (T:=T) (k:=y.tie) (b:=false) (l:=y.no) (v5:=some (.d (.int y.yes))) (v6:=some (.d (.int y.no))) (by rw [sl1];exact hi) o s1 (by rw [sl1];exact on)
    refine⟨oE W T ss (some (.d (.int i))) (some (.d (.int y.tie))) (some (.d (.int y.yes))) (some (.d (.int y.no))) v7 v8,oE W T (std1 W ss i y) (some (.d (.int i))) (some (.d (.int y.tie))) (some (.d (.int y.yes))) (some (.d (.int y.no))) (some (.d (.int y.no))) (some (.d (.bool false))),?_,?_,aV,_,_,_,_,_,_,rfl⟩
    · simp? [oE,aE]
    · unfold fx
      rw [bS (items:=[.tuple [.int y.yes,.bool true],.tuple [.int y.no,.bool false]]) (e1:=oE W T ss (some (.d (.int i))) (some (.d (.int y.tie))) (some (.d (.int y.yes))) (some (.d (.int y.no))) v7 v8) (show lu (oE W T ss (some (.d (.int i))) (some (.d (.int y.tie))) (some (.d (.int y.yes))) (some (.d (.int y.no))) v7 v8)=_ from iQ (by simp? [oE]))]
      unfold std1
      unfold oE at u1 u2 ⊢
      simp? [eX,u1,u2,aV]) ⟨none,none,none,none,none,none,rfl⟩
  subst he
  rw [Nat.zero_add,eg,List.length_map] at h1
  have hfor:∀Wl,di Wl lw (aX (ao (af 3) (ao (aX (ao (af 4) (ao (af 5) (ao (af 6) aU)))) aU))) fx (oE W T (aC W T 0) none none none none none none)=some (.nx (oE W T (aC W T T.length) v3 v4 v5 v6 v7 v8)):=fun Wl=>by
    rw [bS (items:=ck 0 (T.map aE)) (e1:=oE W T (aC W T 0) none none none none none none) rfl]
    exact h1
  obtain⟨t',hc⟩:=cM (cs:=[]) (ft:=cD) (fe:=iN) (b:=fun _=>true) (y:=fun _=>.tuple [.tuple [],.tuple []]) (T.map aE) none [] (fun x hx=>rfl) (fun x hx _=>rfl) (by simp;lia)
  have hv:=dQ (cp:=[]) (nT:=1) (fi:=lx) (g:=af 0) (ft:=cD) (fe:=iN) (e:=[some (.d (aq W)),some (.d (.tuple (T.map aE))),none,none,none,none,none,none,none]) (cs:=[]) (t:=[none]) (t':=[t']) rfl rfl rfl hc
  have hl:([]++((T.map aE).filter fun _=>true).map fun _=>PyData.tuple [.tuple [],.tuple []])=(aC W T 0).map dS:=by
    rw [List.nil_append,List.filter_eq_self.mpr (fun _ _=>rfl),List.map_map]
    simp [aC,dS,gp,List.map_const']
    exact List.eq_replicate_iff.mpr ⟨by simp,fun b hb=>by
      obtain⟨_,_,rfl⟩:=K0 hb;rfl⟩
  rw [hl] at hv
  unfold oE at hfor
  simp? [f_,nF,hv,hfor]
theorem GX{W:aK}(e:En):dU e (.d (aq W)) (.d (.int 1))=some (.d (.tuple (W.ties.map aO))):=by rw [dN,kc,jk];rfl
theorem mS{α:Type}(l:List α):l.filter (fun _=>true)=l:=List.filter_eq_self.mpr fun _ _=>rfl
theorem s_:∀(ns:List Int),PyData.eqvAll (ns.map .int) (ns.map .int)=true
  | []=>by simp [PyData.eqvAll]
  | x::r=>by simp [PyData.eqvAll,PyData.eqv,s_ r]
theorem yj{e:En}{ns:List Int}:bv false e (.l (ns.map .int)) (.l (ns.map .int))=some (.d (.bool true)):=by
  unfold bv
  simp only [j8,Option.bind_some,(iK ns).1,Bool.and_self,if_true,Bool.false_eq_true,if_false,PyData.eqv,s_]
theorem rk(l at_ n:Int):gU [.d (.int l),.d (.int at_),.d (.int n)]=some (.d (.bool (l== -1 || (decide (at_ < l)&&decide (l < n)))),[.d (.int l),.d (.int at_),.d (.int n)]):=by
  have tn:=zR l
  have ge:∀e:En,bv false e (.d (.int l)) (.d (.int (-1)))=some (.d (.bool (l== -1))):=fun e=>by rw [cP];rfl
  have g1:∀e:En,tD e (.d (.int at_)) (.d (.int l))=some (.d (.bool (decide (at_ < l)))):=fun e=>rfl
  have g2:∀e:En,tD e (.d (.int l)) (.d (.int n))=some (.d (.bool (decide (l < n)))):=fun e=>rfl
  generalize (l== -1)=b1 at*
  generalize decide (at_ < l)=b2 at*
  generalize decide (l < n)=b3 at*
  cases b1<;>cases b2<;>simp? [gU,qs,tn,ge,g1,g2,ir]
theorem xD{O:aK}{x:Nd}{i n:Nat}(hy:wx i x.yes)(hn:wx i x.no)(ry:x.yes < (n:Int))(rn:x.no < (n:Int)):i8 [.d (aq O),.d (aE x),.d (.int (i:Int)),.d (.int (n:Int))]=some (.d (.bool (decide (0≤x.tie)&&decide (x.tie < (O.ties.length:Int)))),[.d (aq O),.d (aE x),.d (.int (i:Int)),.d (.int (n:Int))]):=by
  have g1':=GX (W:=O)
  have tr:=zU [.int x.tie,.int x.yes,.int x.no] 3
  rw [show(([PyData.int x.tie,.int x.yes,.int x.no].length:Int)==3)=true from rfl] at tr
  have tn:=zS x.tie 0 ((O.ties.length:Int) - 1)
  have e1:decide (x.tie≤(O.ties.length:Int) - 1)=decide (x.tie < (O.ties.length:Int)):=by rw [Bool.eq_iff_iff,decide_eq_true_eq,decide_eq_true_eq];lia
  rw [e1] at tn
  have ly:=rk x.yes (i:Int) (n:Int)
  have ln:=rk x.no (i:Int) (n:Int)
  have by':(x.yes== -1 || (decide ((i:Int) < x.yes)&&decide (x.yes < (n:Int))))=true:=by
    rcases hy with z | z
    · simp [z]
    · rw [decide_eq_true z,decide_eq_true ry];simp
  have bn':(x.no== -1 || (decide ((i:Int) < x.no)&&decide (x.no < (n:Int))))=true:=by
    rcases hn with z | z
    · simp [z]
    · rw [decide_eq_true z,decide_eq_true rn];simp
  rw [by'] at ly
  rw [bn'] at ln
  have ql:((O.ties.map aO).length:Int)=(O.ties.length:Int):=by simp
  generalize (decide (0≤x.tie)&&decide (x.tie < (O.ties.length:Int)))=bb at*
  generalize O.ties.map aO=TT at*
  generalize aq O=WW at*
  unfold aE at*
  cases bb<;>simp? [i8,qt,tr,g1',ql,tn,ly,ln]
def CS:PyData→List PyData
  | .tuple [_,.int y,.int n]=>(if y= -1 then [] else [.int y])++(if n= -1 then [] else [.int n])
  | _=>[]
theorem rm(T:List Nd):∀m,m≤T.length→((T.take m).map aE).flatMap CS=(pz T m).map .int
  | 0,_=>rfl
  | m+1,hm=>by
    have hx:=List.getElem?_eq_getElem (show m < T.length by lia)
    rw [List.take_succ,hx,List.map_append,List.flatMap_append,rm T m (by lia),pz,List.map_append]
    congr 1
    unfold yC
    rw [bY hx,bY hx]
    show(if (T[m]).yes= -1 then [] else [PyData.int (T[m]).yes])++(if (T[m]).no= -1 then [] else [PyData.int (T[m]).no])++[]=_
    rw [List.append_nil,List.map_append]
    congr 1
    · show _=(if (T[m]).yes= -1 then [] else [(T[m]).yes]).map PyData.int
      split<;>rfl
    · show _=(if (T[m]).no= -1 then [] else [(T[m]).no]).map PyData.int
      split<;>rfl
theorem vX(T:List Nd):∀m,(pz T m).length≤2*m
  | 0=>Nat.le_refl _
  | m+1=>by
    rw [pz,List.length_append]
    have:=vX T m
    have:(yC T m).length≤2:=by unfold yC;split<;>split<;>simp
    lia
theorem EB{T:List Nd}{W:aK}{S:Nat→Std}(h:dJ W T S)(o:iU T)(t:iV T)(hn:T.length≤24):df [.d (.tuple (T.map aE))]=some (.d (.bool true),[.d (.tuple (T.map aE))]):=by
  obtain⟨t',ht,hf⟩:=nI (cs:=[]) (g:=af 0) (ft:=cD) (fi2:=dt) (g2:=af 1) (ft2:=bJ) (fe:=bf) (f:=CS) 2 (T.map aE) [none,none] [] rfl (fun x hx=>by
    obtain⟨y,_,rfl⟩:=K0 hx
    show((if y.yes= -1 then [] else [PyData.int y.yes])++(if y.no= -1 then [] else [PyData.int y.no])).length≤2
    split<;>split<;>simp) (fun x hx tt acc htt hacc=>by
    obtain⟨y,_,rfl⟩:=K0 hx
    rcases tt with _ | ⟨a1,_ | ⟨a2,_ | ⟨a3,r⟩⟩⟩
    · simp at htt
    · simp at htt
    · have nb:∀(e:En) (l:Int),bv true e (.d (.int l)) (.d (.int (-1)))=some (.d (.bool (!(l== -1)))):=fun e l=>by rw [cP];rfl
      have tst:∀(l:Int),bJ [some (.d (aE y)),some (.d (.int l))]=some (!(l== -1),[some (.d (aE y)),some (.d (.int l))]):=fun l=>by
        have:=fun e=>nb e l
        generalize (l== -1)=bb at*
        generalize aE y=Y at*
        simp? [bJ,this]
      have cu:L2.cutD [PyData.int y.tie,.int y.yes,.int y.no] (some 1) none=[.int y.yes,.int y.no]:=rfl
      refine⟨[some (.d (aE y)),a2],[some (.d (aE y)),a2],[.int y.yes,.int y.no],[some (.d (aE y)),a2],[some (.d (aE y)),some (.d (.int y.no))],rfl,rfl,?_,?_,rfl⟩
      · unfold dt
        refine iQ ?_
        unfold aE
        simp? [cu]
      · have l1:acc.length < 1000000:=by lia
        have l2:acc.length+1 < 1000000:=by lia
        show cI (af 1) bJ bf [.int y.yes,.int y.no] [some (.d (aE y)),a2] acc=some (acc++((if y.yes= -1 then [] else [PyData.int y.yes])++(if y.no= -1 then [] else [PyData.int y.no])),[]++[some (.d (aE y)),some (.d (.int y.no))])
        by_cases c1:y.yes= -1
        · by_cases c2:y.no= -1
          · simp? [cI,af,tst,bf,c1,c2,l1,l2]
          · simp? [cI,af,tst,bf,c1,c2,l1,l2]
        · by_cases c2:y.no= -1
          · simp? [cI,af,tst,bf,c1,c2,l1,l2]
          · simp? [cI,af,tst,bf,c1,c2,l1,l2]
    · simp at htt) (by simp;lia)
  have hv:=xI (cp:=[]) (nT:=2) (fi:=i5) (g:=af 0) (ft:=cD) (fi2:=dt) (g2:=af 1) (ft2:=bJ) (fe:=bf) (e:=[some (.d (.tuple (T.map aE))),none]) (e1:=[some (.d (.tuple (T.map aE))),none]) (items:=T.map aE) (cs:=[]) (t:=[none,none]) (t':=t') (iQ rfl) rfl rfl hf
  have fl:=rm T T.length (Nat.le_refl _)
  rw [List.take_length] at fl
  rw [List.nil_append,fl] at hv
  have ll:=vX T T.length
  have gs:∀e:En,e[1]?=some (some (.l ((pz T T.length).map .int)))→g1 c_ e [.s 1]=some (.l ((eV (pz T T.length)).map .int)):=fun e he=>yk he (by
    have:=(nj h o t).length_eq
    simp at this
    lia)
  rw [zF (nj h o t)] at gs
  have lr:∀e:En,kO (aa (vC (.int 1)) (aa (aB (g1 cT) (aa (ab 0) ah)) ah)) (some (.d (.tuple (T.map aE)))::e)=some (.l (((List.range (T.length - 1)).map fun(i:Nat)=>(1:Int)+(i:Int)).map .int),some (.d (.tuple (T.map aE)))::e):=fun e=>by
    have ql:((T.map aE).length:Int)=(T.length:Int):=by simp
    have tn:((T.length:Int) - 1).toNat=T.length - 1:=by lia
    have b1:(T.length:Int)≤100000:=by lia
    generalize T.map aE=TT at*
    simp? [kO,ql,tn,sA,b1]
  have ge:=fun e=>yj (e:=e) (ns:=(List.range (T.length - 1)).map fun(i:Nat)=>(1:Int)+(i:Int))
  generalize ((List.range (T.length - 1)).map fun(i:Nat)=>(1:Int)+(i:Int)).map PyData.int=RR at*
  generalize (pz T T.length).map PyData.int=LL at*
  generalize T.map aE=TT at*
  simp? [df,jZ,hv,gs,lr,ge]
def B5:PyData→En
  | .tuple [a,b]=>[some (.d a),some (.d b)]
  | _=>[]
theorem CT{cs:En}{i j:Nat}(hi:i=cs.length)(hj:j=cs.length+1){x a b:PyData}(hx:x=.tuple [a,b])(t:En)(ht:t.length=2):aX (ao (af i) (ao (af j) aU)) x (cs++t)=some (cs++B5 x):=by
  subst hx hi hj
  rcases t with _ | ⟨a1,_ | ⟨a2,_ | ⟨a3,r⟩⟩⟩
  · simp at ht
  · simp at ht
  · simp [aX,ao,af,aU,B5]
  · simp at ht
def uh(n:Int):PyData→Bool
  | .tuple [_,.tuple [.int k,_,_]]=>decide (0≤k)&&decide (k < n)
  | _=>false
theorem sZ{T:List Nd}{n:Int}:∀(m:Nat),(ck m (T.map aE)).all (uh n)=T.all fun x=>decide (0≤x.tie)&&decide (x.tie < n):=by
  induction T with
  | nil=>intro m;rfl
  | cons x r ih=>
    intro m
    show((decide (0≤x.tie)&&decide (x.tie < n))&&(ck (m+1) (r.map aE)).all (uh n))=_
    rw [ih]
    rfl
theorem Ex{O W:aK}(okO:O.Ok){T:List Nd}{S:Nat→Std}(h:dJ W T S)(o:iU T)(t:iV T)(hn:T.length≤24):dg [.d (aq O),.d (.tuple (T.map aE))]=some (.d (.bool (l5 O T)),[.d (aq O),.d (.tuple (T.map aE))]):=by
  have tt:=EB h o t hn
  have g300:∀e:En,Cv e (.d (.int (T.length:Int))) (.d (.int 300))=some (.d (.bool false)):=fun e=>by
    have:decide ((300:Int) < (T.length:Int))=false:=decide_eq_false (by lia)
    rw [←this];rfl
  have ql:((T.map aE).length:Int)=(T.length:Int):=by simp
  obtain⟨t2,ht2,hf2⟩:=jt (cs:=[some (.d (aq O)),some (.d (.tuple (T.map aE)))]) (g:=aX (ao (af 2) (ao (af 3) aU))) (ft:=cD) (fe:=ci) (b:=fun _=>true) (y:=fun x=>.bool (uh (O.ties.length:Int) x)) (u:=B5) 2 (ck 0 (T.map aE)) [none,none] [] rfl (fun x hx t ht=>by
    obtain⟨i,hi⟩:=List.getElem?_of_mem hx
    obtain⟨y,hy,rfl⟩:=ic hi
    exact CT rfl rfl rfl t ht) (fun x hx=>by
    obtain⟨i,hi⟩:=List.getElem?_of_mem hx
    obtain⟨y,hy,rfl⟩:=ic hi
    rfl) (fun x hx=>rfl) (fun x hx _=>by
    obtain⟨i,hi⟩:=List.getElem?_of_mem hx
    obtain⟨y,hy,rfl⟩:=ic hi
    have nd:=h i y hy
    have tn:=xD (O:=O) (x:=y) (i:=i) (n:=T.length) (pJ o hy true) (pJ o hy false) nd.yes.rng.2 nd.no.rng.2
    show ci [some (.d (aq O)),some (.d (.tuple (T.map aE))),some (.d (.int (i:Int))),some (.d (aE y))]=some (.d (.bool (decide (0≤y.tie)&&decide (y.tie < (O.ties.length:Int)))),[some (.d (aq O)),some (.d (.tuple (T.map aE))),some (.d (.int (i:Int))),some (.d (aE y))])
    generalize (decide (0≤y.tie)&&decide (y.tie < (O.ties.length:Int)))=bb at*
    generalize aE y=Y at*
    clear tt
    generalize T.map aE=TT at*
    generalize aq O=WW at*
    simp? [ci,ql,tn]) (by rw [eg];simp;lia)
  have hv:=dQ (cp:=[(0,"web"),(1,"thing")]) (nT:=2) (fi:=i6) (g:=aX (ao (af 2) (ao (af 3) aU))) (ft:=cD) (fe:=ci) (e:=[some (.d (aq O)),some (.d (.tuple (T.map aE)))]) (e1:=[some (.d (aq O)),some (.d (.tuple (T.map aE)))]) (items:=ck 0 (T.map aE)) (cs:=[some (.d (aq O)),some (.d (.tuple (T.map aE)))]) (t:=[none,none]) (t':=t2) rfl rfl rfl hf2
  rw [List.nil_append,mS] at hv
  have ga:=fun e=>tj (e:=e) (uh (O.ties.length:Int)) (ck 0 (T.map aE))
  rw [sZ] at ga
  change ∀e:En,g1 (jL lm) e [.l ((ck 0 (T.map aE)).map fun d=>.bool (uh (O.ties.length:Int) d))]=some (.d (.bool (l5 O T))) at ga
  have gt:∀e:En,iu "tuple" e (.d (.tuple (T.map aE)))=some (.d (.bool true)):=fun e=>rfl
  generalize l5 O T=bb at*
  generalize ((ck 0 (T.map aE)).map fun d=>PyData.bool (uh (O.ties.length:Int) d))=MM at*
  clear hf2
  generalize T.map aE=TT at*
  generalize aq O=WW at*
  cases bb<;>simp? [dg,j5,gt,ql,g300,hv,ga,tt]
def pD(p:Nd × Std):PyData:=.tuple [aE p.1,dS p.2]
theorem vt:∀(T:List Nd) (ss:List Std),jT (T.map aE) (ss.map dS)=(T.zip ss).map pD
  | [],_=>by cases ‹List Std›<;>rfl
  | _::_,[]=>rfl
  | x::T,s::ss=>by
    show PyData.tuple [aE x,dS s]::jT (T.map aE) (ss.map dS)=_
    rw [vt T ss]
    rfl
theorem vi{O W:aK}(ok:W.Ok){T:List Nd}{S:Nat→Std}(h:dJ W T S)(o:iU T)(hO:Cg O T):
    (∀(i:Nat) (x:Nd),T[i]?=some x→jK O x.tie∧(-1≤x.yes∧x.yes < (T.length:Int))∧(-1≤x.no∧x.no < (T.length:Int)))∧(∀(i:Nat) (x:Nd),T[i]?=some x→(aC O T i).length=T.length∧EN ((aC O T i).getD i ([],[]))∧EN ((stp O (aC O T i) i x.tie true x.yes).getD i ([],[]))):=by
  refine⟨fun i x hx=>⟨hO.tie i x hx,hO.lk i x hx⟩,fun i x hx=>?_⟩
  have il:=(KY hx).1
  have l:=yy ok h o hO i i il
  refine⟨jg i,l,?_⟩
  rw [lb (by rcases pJ o hx true with z | z;exact .inl z;exact .inr (by have:x.yes=CA x true:=rfl;lia))]
  exact l
theorem uB{O W:aK}(ok:W.Ok){T:List Nd}{S:Nat→Std}(h:dJ W T S)(o:iU T)(hO:Cg O T){p:Nd × Std}(hp:p∈T.zip (aC O T T.length)):jK O p.1.tie∧(∀k∈p.2.1,jK O k)∧p.2.1.length≤15∧p.2.2.length≤30:=by
  obtain⟨i,hi⟩:=List.getElem?_of_mem hp
  rw [List.getElem?_zip_eq_some] at hi
  have il:=(KY hi.1).1
  have l:=yy ok h o hO T.length i il
  obtain⟨_,_,a3⟩:=(Ci.all (W:=W) hO T.length).at' i
  rw [List.getD_eq_getElem?_getD,hi.2] at l a3
  exact⟨hO.tie i _ hi.1,a3,l⟩
theorem rl{O W:aK}(ok:W.Ok)(okO:O.Ok){T:List Nd}{S:Nat→Std}(h:dJ W T S)(o:iU T)(t:iV T)(hn:T.length≤24):en [.d (aq O),.d (.tuple (T.map aE))]=some (.d (.bool (AM O T)),[.d (aq O),.d (.tuple (T.map aE))]):=by
  have tf:=Ex okO h o t hn
  unfold AM
  cases c:l5 O T with
  | false=>
    rw [c] at tf
    generalize T.map aE=TT at*
    generalize aq O=WW at*
    simp? [en,mP,tf]
  | true=>
    rw [c] at tf
    have hO:=oX h c
    obtain⟨s1,s2⟩:=vi ok h o hO
    have ts:=ug s1 s2 (by lia)
    have hz:=vt T (aC O T T.length)
    obtain⟨t2,ht2,hf2⟩:=jt (cs:=[some (.d (aq O))]) (g:=aX (ao (af 1) (ao (af 2) aU))) (ft:=cD) (fe:=fL) (b:=fun _=>true) (y:=fun x=>.bool (match x with | .tuple [.tuple [.int k,_,_],.tuple [.tuple a,.tuple tk]]=>(match eU a,eU tk with | some a,some tk=>O.may a tk k | _,_=>false) | _=>false)) (u:=B5) 2 (jT (T.map aE) ((aC O T T.length).map dS)) [none,none] [] rfl (fun x hx t ht=>by
      rw [hz] at hx
      obtain⟨p,hp,rfl⟩:=K0 hx
      exact CT rfl rfl rfl t ht) (fun x hx=>by
      rw [hz] at hx
      obtain⟨p,hp,rfl⟩:=K0 hx
      rfl) (fun x hx=>rfl) (fun x hx _=>by
      rw [hz] at hx
      obtain⟨p,hp,rfl⟩:=K0 hx
      obtain⟨z1,z2,z3,z4⟩:=uB ok h o hO hp
      have tm:=xE okO (asked:=p.2.1) (taken:=p.2.2) (k:=p.1.tie) z2 (by lia) z1
      show fL [some (.d (aq O)),some (.d (aE p.1)),some (.d (dS p.2))]=some (.d (.bool (match eU (p.2.1.map .int),eU (p.2.2.map .int) with | some a,some tk=>O.may a tk p.1.tie | _,_=>false)),[some (.d (aq O)),some (.d (aE p.1)),some (.d (dS p.2))])
      rw [du,du]
      simp only
      unfold dS
      generalize O.may p.2.1 p.2.2 p.1.tie=bb at*
      generalize gp p.2.1 p.2.2=SS at*
      clear ts tf
      generalize aq O=WW at*
      unfold aE
      simp? [fL,tm]) (by rw [hz];simp;lia)
    have hi:iH [some (.d (aq O)),some (.d (.tuple (T.map aE)))]=some (jT (T.map aE) ((aC O T T.length).map dS),[],[some (.d (aq O)),some (.d (.tuple (T.map aE)))]):=by
      generalize (aC O T T.length).map dS=SS at*
      clear hz hf2 tf
      generalize T.map aE=TT at*
      generalize aq O=WW at*
      simp? [iH,n_,ts]
    have hv:=dQ (cp:=[(0,"web")]) (nT:=2) (fi:=iH) (g:=aX (ao (af 1) (ao (af 2) aU))) (ft:=cD) (fe:=fL) (cs:=[some (.d (aq O))]) (t:=[none,none]) (t':=t2) hi rfl rfl hf2
    rw [List.nil_append,mS,hz,List.map_map] at hv
    have ga:=fun e=>tj (e:=e) (qd O) (T.zip (aC O T T.length))
    have em:(T.zip (aC O T T.length)).map (Function.comp (fun x=>PyData.bool (match x with | .tuple [.tuple [.int k,_,_],.tuple [.tuple a,.tuple tk]]=>(match eU a,eU tk with | some a,some tk=>O.may a tk k | _,_=>false) | _=>false)) pD)=(T.zip (aC O T T.length)).map fun p=>PyData.bool (qd O p):=List.map_congr_left fun p _=>by
      show PyData.bool (match eU (p.2.1.map .int),eU (p.2.2.map .int) with | some a,some tk=>O.may a tk p.1.tie | _,_=>false)=_
      rw [du,du]
      rfl
    rw [em] at hv
    rw [Bool.true_and]
    generalize (T.zip (aC O T T.length)).all (qd O)=bb at*
    generalize ((T.zip (aC O T T.length)).map fun p=>PyData.bool (qd O p))=MM at*
    clear hf2 hi hz em
    generalize T.map aE=TT at*
    generalize aq O=WW at*
    simp? [en,mP,tf,hv,ga]
theorem C'{xs:List PyData}:L2.cutD xs (some 1) none=xs.drop 1:=by
  unfold L2.cutD
  rw [HT.sIx_none,show(some (1:Int))=some ((1:Nat):Int) from rfl,HT.sIx_nat]
  by_cases h:1≤xs.length
  · rw [Nat.min_eq_left h]
    exact List.take_of_length_le (by rw [List.length_drop];exact Nat.le_refl _)
  · have:xs=[]:=List.length_eq_zero_iff.mp (by lia)
    subst this
    rfl
theorem zL{O:aK}(k:Int):ko [.d (aq O),.d (.int k)]=some (.d (.bool (decide (0≤k)&&decide (k < (O.ties.length:Int)))),[.d (aq O),.d (.int k)]):=by
  have g1':=GX (W:=O)
  have ql:((O.ties.map aO).length:Int)=(O.ties.length:Int):=by simp
  have i1:∀e:En,iu "int" e (.d (.int k))=some (.d (.bool true)):=fun e=>rfl
  have i2:∀e:En,iu "bool" e (.d (.int k))=some (.d (.bool false)):=fun e=>rfl
  have l1:∀e:En,AJ e (.d (.int 0)) (.d (.int k))=some (.d (.bool (decide (0≤k)))):=fun e=>rfl
  have l2:∀e:En,tD e (.d (.int k)) (.d (.int (O.ties.length:Int)))=some (.d (.bool (decide (k < (O.ties.length:Int))))):=fun e=>rfl
  generalize decide (0≤k)=b1 at*
  generalize decide (k < (O.ties.length:Int))=b2 at*
  generalize O.ties.map aO=TT at*
  generalize aq O=WW at*
  cases b1<;>simp? [ko,sP,i1,i2,g1',ql,l1,l2,ir]
theorem B1{x:Nd}{i n:Nat}(hy:wx i x.yes)(hn:wx i x.no)(ry:x.yes < (n:Int))(rn:x.no < (n:Int)):fX [.d (aE x),.d (.int (i:Int)),.d (.int (n:Int))]=some (.d (.bool true),[.d (aE x),.d (.int (i:Int)),.d (.int (n:Int))]):=by
  have step:∀(l:Int) (v:Option Sv),wx i l→l < (n:Int)→cJ [some (.d (aE x)),some (.d (.int (i:Int))),some (.d (.int (n:Int))),some (.d (.int l))]=some (.nx [some (.d (aE x)),some (.d (.int (i:Int))),some (.d (.int (n:Int))),some (.d (.int l))]):=fun l v hl hr=>by
    have i1:∀e:En,iu "int" e (.d (.int l))=some (.d (.bool true)):=fun e=>rfl
    have i2:∀e:En,iu "bool" e (.d (.int l))=some (.d (.bool false)):=fun e=>rfl
    have l1:∀e:En,uH e (.d (.int l)) (.d (.int (n:Int)))=some (.d (.bool false)):=fun e=>by
      have:decide ((n:Int)≤l)=false:=decide_eq_false (by lia)
      rw [←this];rfl
    generalize aE x=X at*
    rcases hl with z | z
    · subst z
      have ge:∀e:En,bv true e (.d (.int (-1))) (.d (.int (-1)))=some (.d (.bool false)):=fun e=>rfl
      simp? [cJ,i1,i2,l1,ge]
    · have ge:∀e:En,bv true e (.d (.int l)) (.d (.int (-1)))=some (.d (.bool (!(l== -1)))):=fun e=>by rw [cP];rfl
      have l2:∀e:En,AJ e (.d (.int l)) (.d (.int (i:Int)))=some (.d (.bool false)):=fun e=>by
        have:decide (l≤(i:Int))=false:=decide_eq_false (by lia)
        rw [←this];rfl
      generalize (l== -1)=bb at*
      cases bb<;>simp? [cJ,i1,i2,l1,l2,ge]
  have s1:=step x.yes none hy ry
  have s2:=step x.no none hn rn
  have cu:L2.cutD [PyData.int x.tie,.int x.yes,.int x.no] (some 1) none=[.int x.yes,.int x.no]:=rfl
  have hi:iO [some (.d (aE x)),some (.d (.int (i:Int))),some (.d (.int (n:Int))),none]=some ([.int x.yes,.int x.no],[],[some (.d (aE x)),some (.d (.int (i:Int))),some (.d (.int (n:Int))),none]):=by
    unfold iO
    refine iQ ?_
    unfold aE
    simp? [cu]
  have hg:=fun Wl=>bS (W:=Wl) (g:=af 3) (f:=cJ) hi
  have hf:eX [] (af 3) cJ [.int x.yes,.int x.no] [some (.d (aE x)),some (.d (.int (i:Int))),some (.d (.int (n:Int))),none]=some (.nx [some (.d (aE x)),some (.d (.int (i:Int))),some (.d (.int (n:Int))),some (.d (.int x.no))]):=by
    generalize aE x=X at*
    simp? [eX,af,s1,s2,aV]
  rw [hf] at hg
  generalize aE x=X at*
  simp? [fX,nA,hg]
def l9(L:List Int)(l:Int):List Int:=if l= -1 then L else L.set l.toNat (L.getD l.toNat 0+1)
theorem ph{L:List Int}{l:Int}:(l9 L l).length=L.length:=by unfold l9;split<;>simp
abbrev gN(O:aK)(T:List Nd)(L:List Int)(v3 v4 v5:Option Sv):En:=[some (.d (aq O)),some (.d (.tuple (T.map aE))),some (.l (L.map .int)),v3,v4,v5]
theorem zM{O:aK}{T:List Nd}{L:List Int}{l:Int}{v3 v4:Option Sv}(h: -1≤l∧l < (L.length:Int)):cK (gN O T L v3 v4 (some (.d (.int l))))=some (.nx (gN O T (l9 L l) v3 v4 (some (.d (.int l))))):=by
  unfold l9
  simp only [gN]
  by_cases c:l= -1
  · rw [if_pos c]
    subst c
    have ge:∀e:En,bv true e (.d (.int (-1))) (.d (.int (-1)))=some (.d (.bool false)):=fun e=>rfl
    generalize T.map aE=TT at*
    generalize aq O=WW at*
    generalize L.map PyData.int=LL at*
    simp? [cK,ge]
  · rw [if_neg c]
    have ge:∀e:En,bv true e (.d (.int l)) (.d (.int (-1)))=some (.d (.bool true)):=fun e=>by rw [cP];simp [c]
    have l0:0≤l:=by lia
    have gx:(L.map PyData.int)[l.toNat]?=some (.int (L.getD l.toNat 0)):=by
      rw [List.getElem?_map,List.getElem?_eq_getElem (by lia),List.getD_eq_getElem?_getD,List.getElem?_eq_getElem (by lia)]
      rfl
    rw [List.map_set]
    generalize T.map aE=TT at*
    generalize aq O=WW at*
    generalize L.getD l.toNat 0=z at*
    generalize L.map PyData.int=LL at*
    simp? [cK,ge,wd,iS,l0,gx]
theorem qS{O:aK}{T:List Nd}{L:List Int}{y:Nd}{i:Nat}{v5:Option Sv}(lL:L.length=T.length)(hy:wx i y.yes)(hn:wx i y.no)(ry: -1≤y.yes∧y.yes < (T.length:Int))(rn: -1≤y.no∧y.no < (T.length:Int)):
    cL (gN O T L (some (.d (.int (i:Int)))) (some (.d (aE y))) v5)=(if (decide (0≤y.tie)&&decide (y.tie < (O.ties.length:Int)))=true then some (.nx (gN O T (l9 (l9 L y.yes) y.no) (some (.d (.int (i:Int)))) (some (.d (aE y))) (some (.d (.int y.no))))) else some (.rt (.d (.bool false)) (gN O T L (some (.d (.int (i:Int)))) (some (.d (aE y))) v5))):=by
  have tt:=zL (O:=O) y.tie
  have tl:=B1 hy hn ry.2 rn.2
  have u1:=zM (O:=O) (T:=T) (L:=L) (l:=y.yes) (v3:=some (.d (.int (i:Int)))) (v4:=some (.d (aE y))) (by rw [lL];exact ry)
  have u2:=zM (O:=O) (T:=T) (L:=l9 L y.yes) (l:=y.no) (v3:=some (.d (.int (i:Int)))) (v4:=some (.d (aE y))) (by rw [ph,lL];exact rn)
  have gt:∀e:En,iu "tuple" e (.d (aE y))=some (.d (.bool true)):=fun e=>rfl
  have cu:L2.cutD [PyData.int y.tie,.int y.yes,.int y.no] (some 1) none=[.int y.yes,.int y.no]:=rfl
  have ql:((T.map aE).length:Int)=(T.length:Int):=by simp
  have hi:iP (gN O T L (some (.d (.int (i:Int)))) (some (.d (aE y))) v5)=some ([.int y.yes,.int y.no],[],gN O T L (some (.d (.int (i:Int)))) (some (.d (aE y))) v5):=by
    unfold iP
    refine iQ ?_
    simp only [gN]
    generalize T.map aE=TT at*
    unfold aE
    simp? [cu]
  have hg:=fun Wl=>bS (W:=Wl) (g:=af 5) (f:=cK) hi
  have hf:eX [] (af 5) cK [.int y.yes,.int y.no] (gN O T L (some (.d (.int (i:Int)))) (some (.d (aE y))) v5)=some (.nx (gN O T (l9 (l9 L y.yes) y.no) (some (.d (.int (i:Int)))) (some (.d (aE y))) (some (.d (.int y.no))))):=by
    simp only [gN] at u1 u2 ⊢
    generalize T.map aE=TT at*
    generalize aE y=Y at*
    generalize (l9 (l9 L y.yes) y.no).map PyData.int=L2' at*
    generalize aq O=WW at*
    generalize L.map PyData.int=LL at*
    generalize (l9 L y.yes).map PyData.int=L1 at*
    simp? [eX,af,u1,u2,aV]
  rw [hf] at hg
  have l3:∀e:En,g1 cT e [.d (aE y)]=some (.d (.int 3)):=fun e=>rfl
  have x0:∀e:En,dU e (.d (aE y)) (.d (.int 0))=some (.d (.int y.tie)):=fun e=>rfl
  generalize (decide (0≤y.tie)&&decide (y.tie < (O.ties.length:Int)))=bb at*
  simp only [gN] at hg ⊢
  generalize T.map aE=TT at*
  generalize aE y=Y at*
  generalize aq O=WW at*
  cases bb<;>simp? [cL,gt,l3,x0,tt,ql,tl,hg]
def oG(n:Nat)(A:List Int):List Int:=(List.range n).map fun(j:Nat)=>((A.count (j:Int):Nat):Int)
theorem kS{n:Nat}{A:List Int}:(oG n A).length=n:=by simp [oG]
theorem Ax{n:Nat}{A:List Int}{j:Nat}(h:j < n):(oG n A).getD j 0=((A.count (j:Int):Nat):Int):=by
  unfold oG
  rw [List.getD_eq_getElem?_getD,List.getElem?_map,List.getElem?_range h]
  rfl
theorem vQ{n:Nat}{A:List Int}{l:Int}(h: -1≤l∧l < (n:Int)):l9 (oG n A) l=oG n (A++(if l= -1 then [] else [l])):=by
  unfold l9
  by_cases c:l= -1
  · rw [if_pos c,if_pos c,List.append_nil]
  · rw [if_neg c,if_neg c]
    have ln:l.toNat < n:=by lia
    rw [Ax ln]
    refine List.ext_getElem (by rw [List.length_set,kS,kS]) fun j h1 h2=>?_
    rw [List.length_set,kS] at h1
    rw [List.getElem_set]
    unfold oG
    simp only [List.getElem_map,List.getElem_range,List.count_append]
    by_cases e:l.toNat=j
    · rw [if_pos e]
      have:((l.toNat:Nat):Int)=l:=by lia
      rw [←e,this]
      simp
    · rw [if_neg e]
      have:List.count (j:Int) [l]=0:=by
        rw [List.count_eq_zero]
        simp
        lia
      rw [this]
      simp
theorem AU{T:List Nd}{i:Nat}{y:Nd}(h:T[i]?=some y):yC T i=(if y.yes= -1 then [] else [y.yes])++(if y.no= -1 then [] else [y.no]):=by
  unfold yC
  rw [bY h,bY h]
  rfl
theorem ue{O W:aK}{T:List Nd}{S:Nat→Std}(h:dJ W T S)(o:iU T)(t:iV T)(hn:T.length≤24):ek [.d (aq O),.d (.tuple (T.map aE))]=some (.d (.bool (l5 O T)),[.d (aq O),.d (.tuple (T.map aE))]):=by
  have gt:∀e:En,iu "tuple" e (.d (.tuple (T.map aE)))=some (.d (.bool true)):=fun e=>rfl
  have ql:((T.map aE).length:Int)=(T.length:Int):=by simp
  have g300:∀e:En,Cv e (.d (.int (T.length:Int))) (.d (.int 300))=some (.d (.bool false)):=fun e=>by
    have:decide ((300:Int) < (T.length:Int))=false:=decide_eq_false (by lia)
    rw [←this];rfl
  have z0:oG T.length []=List.replicate T.length 0:=by
    unfold oG
    refine List.ext_getElem (by simp) fun j h1 h2=>?_
    simp
  have rep:∀e:En,gu e (.l [.int 0]) (.d (.int (T.length:Int)))=some (.l ((oG T.length []).map .int)):=fun e=>by
    rw [vN (by lia) (by lia),Int.toNat_natCast,z0,List.map_replicate]
  have hi:∀L v3 v4 v5,lq (gN O T L v3 v4 v5)=some (ck 0 (T.map aE),[],gN O T L v3 v4 v5):=fun L v3 v4 v5=>rfl
  have hg:=fun Wl L v3 v4 v5=>bS (W:=Wl) (g:=aX (ao (af 3) (ao (af 4) aU))) (f:=cL) (hi L v3 v4 v5)
  cases c:l5 O T with
  | true=>
    have hO:=oX h c
    obtain⟨e',h1,⟨v3,v4,v5,he⟩⟩:=cm (own:=[]) (g:=aX (ao (af 3) (ao (af 4) aU))) (f:=cL) (fun i e=>∃v3 v4 v5,e=gN O T (oG T.length (pz T i)) v3 v4 v5) (ck 0 (T.map aE)) 0 (gN O T (oG T.length []) none none none) (fun i x e hx ⟨v3,v4,v5,he⟩=>by
      subst he
      rw [Nat.zero_add] at*
      obtain⟨y,hy,rfl⟩:=ic hx
      have lk:=hO.lk i y hy
      have it:=hO.tie i y hy
      have nt:=qS (O:=O) (T:=T) (L:=oG T.length (pz T i)) (v5:=v5) kS (pJ o hy true) (pJ o hy false) lk.1 lk.2
      rw [if_pos (by rw [decide_eq_true it.1,decide_eq_true it.2];rfl),vQ lk.1,vQ lk.2,List.append_assoc,←AU hy] at nt
      exact⟨gN O T (oG T.length (pz T i)) (some (.d (.int (i:Int)))) (some (.d (aE y))) v5,_,rfl,nt,aV,_,_,_,rfl⟩) ⟨none,none,none,rfl⟩
    rw [Nat.zero_add,eg,List.length_map] at he
    subst he
    have hg':=fun Wl=>hg Wl (oG T.length []) none none none
    rw [h1] at hg'
    have dl:(oG T.length (pz T T.length)).drop 1=List.replicate (T.length - 1) 1:=by
      refine List.ext_getElem (by rw [List.length_drop,kS,List.length_replicate]) fun j j1 j2=>?_
      rw [List.length_replicate] at j2
      rw [List.getElem_drop,List.getElem_replicate]
      unfold oG
      simp only [List.getElem_map,List.getElem_range]
      rw [Ay h o t (by lia) (by lia)]
      rfl
    have cu:L2.cutD ((oG T.length (pz T T.length)).map .int) (some 1) none=(List.replicate (T.length - 1) (1:Int)).map .int:=by
      rw [C',←List.map_drop,dl]
    have sl:∀e:En,e[2]?=some (some (.l ((oG T.length (pz T T.length)).map .int)))→AK e (.s 2) (some 1) none=some (.l ((List.replicate (T.length - 1) (1:Int)).map .int)):=fun e he=>by rw [Ff he,cu]
    have rp:∀e:En,gu e (.l [.int 1]) (.d (.int ((T.length - 1:Nat):Int)))=some (.l ((List.replicate (T.length - 1) (1:Int)).map .int)):=fun e=>by
      rw [vN (by lia) (by lia),Int.toNat_natCast,List.map_replicate]
    have ge:=fun e=>yj (e:=e) (ns:=List.replicate (T.length - 1) (1:Int))
    have ln:(((List.replicate (T.length - 1) (1:Int)).map PyData.int).length:Int)=((T.length - 1:Nat):Int):=by simp
    simp only [gN] at hg'
    generalize ((T.length - 1:Nat):Int)=N1 at*
    generalize (List.replicate (T.length - 1) (1:Int)).map PyData.int=RR at*
    generalize (oG T.length (pz T T.length)).map PyData.int=CL at*
    generalize (oG T.length []).map PyData.int=C0 at*
    clear hg h1 hi
    generalize T.map aE=TT at*
    generalize aq O=WW at*
    simp? [ek,jX,gt,ql,g300,rep,hg',sl,ln,rp,ge]
  | false=>
    have tst:=mT (own:=[]) (g:=aX (ao (af 3) (ao (af 4) aU))) (f:=cL) (Z:=.d (.bool false)) (uh (O.ties.length:Int)) (fun e=>∃L v3 v4 v5,e=gN O T L v3 v4 v5∧L.length=T.length) (fun e=>∃L v3 v4 v5,e=gN O T L v3 v4 v5∧L.length=T.length) (ck 0 (T.map aE)) (gN O T (oG T.length []) none none none) (fun x hx e ⟨L,v3,v4,v5,he,hL⟩=>by
      subst he
      obtain⟨i,hi⟩:=List.getElem?_of_mem hx
      obtain⟨y,hy,rfl⟩:=ic hi
      have nd:=h i y hy
      have nt:=qS (O:=O) (T:=T) (L:=L) (v5:=v5) hL (pJ o hy true) (pJ o hy false) nd.yes.rng nd.no.rng
      refine⟨gN O T L (some (.d (.int (i:Int)))) (some (.d (aE y))) v5,rfl,fun q=>?_,fun q=>?_⟩
      · rw [if_pos (show(decide (0≤y.tie)&&decide (y.tie < (O.ties.length:Int)))=true from q)] at nt
        exact⟨_,nt,aV,_,_,_,_,rfl,by rw [ph,ph];exact hL⟩
      · rw [if_neg (by rw [show(decide (0≤y.tie)&&decide (y.tie < (O.ties.length:Int)))=false from q];decide)] at nt
        exact⟨_,nt,_,_,_,_,rfl,hL⟩) ⟨_,_,_,_,rfl,kS⟩
    obtain⟨e',h1,L,v3,v4,v5,rfl,_⟩:=tst.2 (by rw [sZ];exact c)
    have hg':=fun Wl=>hg Wl (oG T.length []) none none none
    rw [h1] at hg'
    simp only [gN] at hg'
    generalize (oG T.length []).map PyData.int=C0 at*
    clear hg h1 hi tst
    generalize T.map aE=TT at*
    generalize aq O=WW at*
    simp? [ek,jX,gt,ql,g300,rep,hg']
def Ds(O:aK):PyData→Bool
  | .tuple [.tuple [.int k,_,_],.tuple [.tuple a,.tuple tk]]=>(match eU a,eU tk with | some a,some tk=>O.may a tk k | _,_=>false)
  | _=>false
theorem yF{O:aK}(p:Nd × Std):Ds O (pD p)=qd O p:=by
  show(match eU (p.2.1.map .int),eU (p.2.2.map .int) with | some a,some tk=>O.may a tk p.1.tie | _,_=>false)=_
  rw [du,du]
  rfl
theorem rj{O W:aK}(ok:W.Ok)(okO:O.Ok){T:List Nd}{S:Nat→Std}(h:dJ W T S)(o:iU T)(t:iV T)(hn:T.length≤24):dw [.d (aq O),.d (.tuple (T.map aE))]=some (.d (.bool (AM O T)),[.d (aq O),.d (.tuple (T.map aE))]):=by
  have tf:=ue (O:=O) h o t hn
  unfold AM
  cases c:l5 O T with
  | false=>
    rw [c] at tf
    generalize T.map aE=TT at*
    generalize aq O=WW at*
    simp? [dw,kQ,tf]
  | true=>
    rw [c] at tf
    have hO:=oX h c
    obtain⟨s1,s2⟩:=vi ok h o hO
    have ts:=ud s1 s2 (by lia)
    have hz:=vt T (aC O T T.length)
    have tst:=mT (own:=[]) (g:=aX (ao (af 2) (ao (af 3) aU))) (f:=fD) (Z:=.d (.bool false)) (Ds O) (fun e=>∃v2 v3,e=[some (.d (aq O)),some (.d (.tuple (T.map aE))),v2,v3]) (fun e=>∃v2 v3,e=[some (.d (aq O)),some (.d (.tuple (T.map aE))),v2,v3]) ((T.zip (aC O T T.length)).map pD) [some (.d (aq O)),some (.d (.tuple (T.map aE))),none,none] (fun x hx e ⟨v2,v3,he⟩=>by
      subst he
      obtain⟨p,hp,rfl⟩:=K0 hx
      obtain⟨z1,z2,z3,z4⟩:=uB ok h o hO hp
      have tm:=CQ okO (asked:=p.2.1) (taken:=p.2.2) (k:=p.1.tie) z2 (by lia) z1
      have x0:∀e:En,dU e (.d (aE p.1)) (.d (.int 0))=some (.d (.int p.1.tie)):=fun e=>rfl
      rw [yF]
      change jN [.d (aq O),.d (dS p.2),.d (.int p.1.tie)]=some (.d (.bool (qd O p)),[.d (aq O),.d (dS p.2),.d (.int p.1.tie)]) at tm
      refine⟨[some (.d (aq O)),some (.d (.tuple (T.map aE))),some (.d (aE p.1)),some (.d (dS p.2))],rfl,fun q=>⟨_,?_,aV,some (.d (aE p.1)),some (.d (dS p.2)),rfl⟩,fun q=>⟨_,?_,some (.d (aE p.1)),some (.d (dS p.2)),rfl⟩⟩
      · rw [q] at tm
        clear ts tf
        generalize T.map aE=TT at*
        generalize aE p.1=P1 at*
        generalize dS p.2=P2 at*
        generalize aq O=WW at*
        simp? [fD,x0,tm]
      · rw [q] at tm
        clear ts tf
        generalize T.map aE=TT at*
        generalize aE p.1=P1 at*
        generalize dS p.2=P2 at*
        generalize aq O=WW at*
        simp? [fD,x0,tm]) ⟨none,none,rfl⟩
    have ea:((T.zip (aC O T T.length)).map pD).all (Ds O)=(T.zip (aC O T T.length)).all (qd O):=by
      rw [List.all_map]
      congr 1
      funext p
      exact yF p
    rw [ea] at tst
    have hi:ki [some (.d (aq O)),some (.d (.tuple (T.map aE))),none,none]=some ((T.zip (aC O T T.length)).map pD,[],[some (.d (aq O)),some (.d (.tuple (T.map aE))),none,none]):=by
      rw [←hz]
      clear tst ea hz tf
      generalize (aC O T T.length).map dS=SS at*
      generalize T.map aE=TT at*
      generalize aq O=WW at*
      simp? [ki,n_,ts]
    have hg:=fun Wl=>bS (W:=Wl) (g:=aX (ao (af 2) (ao (af 3) aU))) (f:=fD) hi
    rw [Bool.true_and]
    cases d:(T.zip (aC O T T.length)).all (qd O) with
    | true=>
      obtain⟨e',h1,v2,v3,rfl⟩:=tst.1 d
      rw [h1] at hg
      clear tst hi h1 hz ts ea
      generalize T.map aE=TT at*
      generalize aq O=WW at*
      simp? [dw,kQ,tf,hg]
    | false=>
      obtain⟨e',h1,v2,v3,rfl⟩:=tst.2 d
      rw [h1] at hg
      clear tst hi h1 hz ts ea
      generalize T.map aE=TT at*
      generalize aq O=WW at*
      simp? [dw,kQ,tf,hg]
theorem Cq{xs:List PyData}{i:Nat}:L2.cutD xs none (some (i:Int))=xs.take i:=by
  unfold L2.cutD
  rw [HT.sIx_none,HT.sIx_nat,List.drop_zero,Nat.sub_zero]
  by_cases h:i≤xs.length
  · rw [Nat.min_eq_left h]
  · rw [Nat.min_eq_right (by lia),List.take_of_length_le (Nat.le_refl _),List.take_of_length_le (by lia)]
theorem Cp{xs:List PyData}{i:Nat}:L2.cutD xs (some (i:Int)) none=xs.drop i:=by
  unfold L2.cutD
  rw [HT.sIx_none,HT.sIx_nat]
  by_cases h:i≤xs.length
  · rw [Nat.min_eq_left h]
    exact List.take_of_length_le (by rw [List.length_drop];exact Nat.le_refl _)
  · rw [Nat.min_eq_right (by lia),List.drop_of_length_le (Nat.le_refl _),List.drop_of_length_le (by lia),List.take_nil]
theorem AC{α:Type}(f:α→PyData)(l:List α)(lo hi:Option Int):∃m:List α,L2.cutD (l.map f) lo hi=m.map f∧(∀x∈m,x∈l)∧m.length≤l.length:=by
  unfold L2.cutD
  rw [←List.map_drop,←List.map_take]
  exact⟨_,rfl,fun x hx=>List.mem_of_mem_drop (List.mem_of_mem_take hx),by rw [List.length_take,List.length_drop];lia⟩
theorem Cg.own{W:aK}{T:List Nd}{S:Nat→Std}(h:dJ W T S):Cg W T:=⟨fun i x hx=>(h i x hx).tie,fun i x hx=>⟨(h i x hx).yes.rng,(h i x hx).no.rng⟩⟩
def qD(p:Std × Nd):PyData:=.tuple [dS p.1,aE p.2]
theorem Ad:∀(ss:List Std) (T:List Nd),jT (ss.map dS) (T.map aE)=(ss.zip T).map qD
  | [],_=>by cases ‹List Nd›<;>rfl
  | _::_,[]=>rfl
  | s::ss,x::T=>by
    show PyData.tuple [dS s,aE x]::jT (ss.map dS) (T.map aE)=_
    rw [Ad ss T]
    rfl
theorem AV{W:aK}{a:List Int}{t:Int}:0≤W.many a t∧W.many a t≤(a.length:Int):=by
  unfold aK.many
  have:=List.length_filter_le (fun k=>W.has k t) a
  lia
theorem zQ{W:aK}(ok:W.Ok){T:List Nd}{S:Nat→Std}(h:dJ W T S)(o:iU T)(hn:T.length≤24)(thing:Int):∃m:Int,dy [.d (aq W),.d (.tuple (T.map aE)),.d (.int thing)]=some (.d (.int m),[.d (aq W),.d (.tuple (T.map aE)),.d (.int thing)])∧0≤m∧m≤16:=by
  have hO:=Cg.own h
  obtain⟨s1,s2⟩:=vi ok h o hO
  have ts:=ud s1 s2 (by lia)
  have hz:=Ad (aC W T T.length) T
  obtain⟨e',h1,⟨m,v4,v5,v6,v7,he,m0,m1⟩⟩:=cm (own:=[]) (g:=aX (ao (af 4) (ao (af 5) aU))) (f:=cV) (fun i e=>∃(m:Int) (v4 v5 v6 v7:Option Sv),e=[some (.d (aq W)),some (.d (.tuple (T.map aE))),some (.d (.int thing)),some (.d (.int m)),v4,v5,v6,v7]∧0≤m∧m≤16) (((aC W T T.length).zip T).map qD) 0 [some (.d (aq W)),some (.d (.tuple (T.map aE))),some (.d (.int thing)),some (.d (.int 0)),none,none,none,none] (fun i x e hx ⟨m,v4,v5,v6,v7,he,m0,m1⟩=>by
    subst he
    obtain⟨p,hp,rfl⟩:=K0 (K2 hx)
    have hp':(p.2,p.1)∈T.zip (aC W T T.length):=by
      obtain⟨i,hi⟩:=List.getElem?_of_mem hp
      rw [List.getElem?_zip_eq_some] at hi
      exact K2 (List.getElem?_zip_eq_some.mpr ⟨hi.2,hi.1⟩)
    obtain⟨z1,z2,z3,z4⟩:=uB ok h o hO hp'
    have z3':p.1.1.length≤15:=z3
    have ta:=ni (W:=W) (asked:=p.1.1++[p.2.tie]) (thing:=thing) (fun k hk=>by
      rcases KZ hk with q | q
      · exact z2 k q
      · simp at q;subst q;exact z1) (by simp;lia)
    have ml:=AV (W:=W) (a:=p.1.1++[p.2.tie]) (t:=thing)
    rw [List.length_append,List.length_singleton] at ml
    rw [List.map_append,List.map_cons,List.map_nil] at ta
    have gc:∀e:En,bu e (.d (.tuple (p.1.1.map .int))) (.d (.tuple [.int p.2.tie]))=some (.d (.tuple (p.1.1.map .int++[.int p.2.tie]))):=fun e=>jv (by simp;lia)
    have x0:∀e:En,dU e (.d (dS p.1)) (.d (.int 0))=some (.d (.tuple (p.1.1.map .int))):=fun e=>rfl
    have cu:L2.cutD [PyData.int p.2.tie,.int p.2.yes,.int p.2.no] none (some 1)=[.int p.2.tie]:=rfl
    have sl:∀e:En,AK e (.d (aE p.2)) none (some 1)=some (.d (.tuple [.int p.2.tie])):=fun e=>rfl
    have ql:((p.1.1.map PyData.int++[PyData.int p.2.tie]).length:Int)=(p.1.1.length:Int)+1:=by simp
    by_cases c:0≤thing
    · have gg:∀e:En,uH e (.d (.int thing)) (.d (.int 0))=some (.d (.bool true)):=fun e=>by
        have:decide (0≤thing)=true:=decide_eq_true c
        rw [←this];rfl
      generalize W.many (p.1.1++[p.2.tie]) thing=y at*
      refine⟨[some (.d (aq W)),some (.d (.tuple (T.map aE))),some (.d (.int thing)),some (.d (.int m)),some (.d (dS p.1)),some (.d (aE p.2)),v6,v7],[some (.d (aq W)),some (.d (.tuple (T.map aE))),some (.d (.int thing)),some (.d (.int (max m y))),some (.d (dS p.1)),some (.d (aE p.2)),some (.d (.tuple (p.1.1.map .int++[.int p.2.tie]))),some (.d (.int y))],rfl,?_,aV,max m y,_,_,_,_,rfl,by lia,by lia⟩
      clear hz ts
      generalize p.1.1.map PyData.int++[PyData.int p.2.tie]=AA at*
      generalize p.1.1.map PyData.int=A0 at*
      generalize dS p.1=DS at*
      generalize aE p.2=DN at*
      generalize T.map aE=TT at*
      generalize aq W=WW at*
      simp? [cV,x0,sl,gc,ql,gg,ta, -bE,bE]
    · have gg:∀e:En,uH e (.d (.int thing)) (.d (.int 0))=some (.d (.bool false)):=fun e=>by
        have:decide (0≤thing)=false:=decide_eq_false c
        rw [←this];rfl
      refine⟨[some (.d (aq W)),some (.d (.tuple (T.map aE))),some (.d (.int thing)),some (.d (.int m)),some (.d (dS p.1)),some (.d (aE p.2)),v6,v7],[some (.d (aq W)),some (.d (.tuple (T.map aE))),some (.d (.int thing)),some (.d (.int (max m ((p.1.1.length:Int)+1)))),some (.d (dS p.1)),some (.d (aE p.2)),some (.d (.tuple (p.1.1.map .int++[.int p.2.tie]))),some (.d (.int ((p.1.1.length:Int)+1)))],rfl,?_,aV,max m ((p.1.1.length:Int)+1),_,_,_,_,rfl,by lia,by lia⟩
      clear hz ts ta
      generalize (p.1.1.length:Int)+1=N1 at*
      generalize p.1.1.map PyData.int++[PyData.int p.2.tie]=AA at*
      generalize p.1.1.map PyData.int=A0 at*
      generalize dS p.1=DS at*
      generalize aE p.2=DN at*
      generalize T.map aE=TT at*
      generalize aq W=WW at*
      simp? [cV,x0,sl,gc,ql,gg, -bE,bE]) ⟨0,none,none,none,none,rfl,by decide,by decide⟩
  subst he
  refine⟨m,?_,m0,m1⟩
  have hi:ie [some (.d (aq W)),some (.d (.tuple (T.map aE))),some (.d (.int thing)),some (.d (.int 0)),none,none,none,none]=some (((aC W T T.length).zip T).map qD,[],[some (.d (aq W)),some (.d (.tuple (T.map aE))),some (.d (.int thing)),some (.d (.int 0)),none,none,none,none]):=by
    rw [←hz]
    clear hz
    generalize (aC W T T.length).map dS=SS at*
    generalize T.map aE=TT at*
    generalize aq W=WW at*
    simp? [ie,n_,ts]
  have hg:=fun Wl=>bS (W:=Wl) (g:=aX (ao (af 4) (ao (af 5) aU))) (f:=cV) hi
  rw [h1] at hg
  clear hz ts hi h1
  generalize T.map aE=TT at*
  generalize aq W=WW at*
  simp? [dy,lP,hg]
def Am(d:PyData):Prop:=∃O:aK,O.Ok∧d=aq O
theorem yS{W:aK}(ok:W.Ok){a:Int}(h0:0≤a)(h1:a≤40):Am (.tuple [.int W.things,.tuple (W.ties.map aO),.tuple (W.pat.map .int),.int a]):=⟨{W with asks:=a},⟨ok.t0,ok.t1,ok.ties,ok.len,ok.pl,ok.pat,h0,h1⟩,rfl⟩
theorem wa{W:aK}(ok:W.Ok){i:Nat}{a:Int}(hi:(i:Int) < W.things)(h0:0≤a)(h1:a≤20):Am (.tuple [.int W.things,.tuple (W.ties.map aO),.tuple (L2.cutD (W.pat.map .int) none (some (i:Int))++[.int a]++L2.cutD (W.pat.map .int) (some ((i:Int)+1)) none),.int W.asks]):=by
  have pl:=ok.pl
  refine⟨{W with pat:=W.pat.take i++[a]++W.pat.drop (i+1)},⟨ok.t0,ok.t1,ok.ties,ok.len,?_,fun p hp=>?_,ok.a0,ok.a1⟩,?_⟩
  · show((W.pat.take i++[a]++W.pat.drop (i+1)).length:Int)=W.things
    simp only [List.length_append,List.length_take,List.length_drop,List.length_cons,List.length_nil]
    lia
  · rcases KZ hp with hp | hp
    · rcases KZ hp with hp | hp
      · exact ok.pat p (List.mem_of_mem_take hp)
      · simp at hp;subst hp;exact⟨h0,h1⟩
    · exact ok.pat p (List.mem_of_mem_drop hp)
  · rw [show((i:Int)+1)=((i+1:Nat):Int) by lia,Cq,Cp,←List.map_take,←List.map_drop]
    show _=PyData.tuple [.int W.things,.tuple (W.ties.map aO),.tuple ((W.pat.take i++[a]++W.pat.drop (i+1)).map .int),.int W.asks]
    rw [List.map_append,List.map_append]
    rfl
theorem Bk{W:aK}(ok:W.Ok){i:Nat}{t:om}(ht:t.Ok W.things)(hi:i < W.ties.length):Am (.tuple [.int W.things,.tuple (L2.cutD (W.ties.map aO) none (some (i:Int))++[aO t]++L2.cutD (W.ties.map aO) (some ((i:Int)+1)) none),.tuple (W.pat.map .int),.int W.asks]):=by
  have wl:=ok.len
  refine⟨{W with ties:=W.ties.take i++[t]++W.ties.drop (i+1)},⟨ok.t0,ok.t1,fun u hu=>?_,?_,ok.pl,ok.pat,ok.a0,ok.a1⟩,?_⟩
  · rcases KZ hu with hu | hu
    · rcases KZ hu with hu | hu
      · exact ok.ties u (List.mem_of_mem_take hu)
      · simp at hu;subst hu;exact ht
    · exact ok.ties u (List.mem_of_mem_drop hu)
  · show(W.ties.take i++[t]++W.ties.drop (i+1)).length≤16
    simp only [List.length_append,List.length_take,List.length_drop,List.length_cons,List.length_nil]
    lia
  · rw [show((i:Int)+1)=((i+1:Nat):Int) by lia,Cq,Cp,←List.map_take,←List.map_drop]
    show _=PyData.tuple [.int W.things,.tuple ((W.ties.take i++[t]++W.ties.drop (i+1)).map aO),.tuple (W.pat.map .int),.int W.asks]
    rw [List.map_append,List.map_append]
    rfl
theorem yT{W:aK}(ok:W.Ok):Am (.tuple [.int W.things,.tuple (L2.cutD (W.ties.map aO) none (some (-1))),.tuple (W.pat.map .int),.int W.asks]):=by
  obtain⟨ts,e,hs,hl⟩:=AC aO W.ties none (some (-1))
  have wl:=ok.len
  exact⟨{W with ties:=ts},⟨ok.t0,ok.t1,fun u hu=>ok.ties u (hs u hu),by show ts.length≤16;lia,ok.pl,ok.pat,ok.a0,ok.a1⟩,by rw [e];rfl⟩
abbrev dF(ds:List Int)(W:aK)(T:List Nd)(v7 v8 v9 v10 v11 v12 v13 v14 v15 v16:Option Sv):En:=[some (.l (ds.map .int)),some (.d (aq W)),some (.d (.tuple (T.map aE))),some (.d (.int W.things)),some (.d (.tuple (W.ties.map aO))),some (.d (.tuple (W.pat.map .int))),some (.d (.int W.asks)),v7,v8,v9,v10,v11,v12,v13,v14,v15,v16]
def xR(W:aK):PyData→PyData
  | .int a=>.tuple [.int W.things,.tuple (W.ties.map aO),.tuple (W.pat.map .int),.int a]
  | _=>.none
theorem yL{ds:List Int}{W:aK}{T:List Nd}{ns:List Int}(hl:ns.length≤10){v7 v9 v10 v11 v12 v13 v14 v15 v16:Option Sv}:cQ [(3,"_law_things"),(4,"_law_ties_here"),(5,"_law_patience")] 1 eJ (af 3) cD cg (dF ds W T v7 (some (.l (ns.map .int))) v9 v10 v11 v12 v13 v14 v15 v16)=some (.l ((ns.map PyData.int).map (xR W)),dF ds W T v7 (some (.l (ns.map .int))) v9 v10 v11 v12 v13 v14 v15 v16):=by
  obtain⟨t1,hf1⟩:=cM (cs:=[some (.d (.int W.things)),some (.d (.tuple (W.ties.map aO))),some (.d (.tuple (W.pat.map .int)))]) (ft:=cD) (fe:=cg) (b:=fun _=>true) (y:=xR W) (ns.map .int) none [] (fun x hx=>rfl) (fun x hx _=>by
    obtain⟨a,ha,rfl⟩:=K0 hx
    show cg [some (.d (.int W.things)),some (.d (.tuple (W.ties.map aO))),some (.d (.tuple (W.pat.map .int))),some (.d (.int a))]=some (.d (.tuple [.int W.things,.tuple (W.ties.map aO),.tuple (W.pat.map .int),.int a]),[some (.d (.int W.things)),some (.d (.tuple (W.ties.map aO))),some (.d (.tuple (W.pat.map .int))),some (.d (.int a))])
    generalize W.ties.map aO=TT at*
    generalize W.pat.map PyData.int=PP at*
    simp? [cg]) (by simp;lia)
  have hv:=rq (cp:=[(3,"_law_things"),(4,"_law_ties_here"),(5,"_law_patience")]) (nT:=1) (fi:=eJ) (g:=af 3) (ft:=cD) (fe:=cg) (cs:=[some (.d (.int W.things)),some (.d (.tuple (W.ties.map aO))),some (.d (.tuple (W.pat.map .int)))]) (t:=[none]) (t':=[t1]) (show eJ (dF ds W T v7 (some (.l (ns.map .int))) v9 v10 v11 v12 v13 v14 v15 v16)=some (ns.map .int,[(8,ns.map .int)],dF ds W T v7 (some (.l (ns.map .int))) v9 v10 v11 v12 v13 v14 v15 v16) from rfl) rfl rfl rfl hf1
  rw [hv,List.nil_append,mS]
theorem yV{ds:List Int}{W:aK}(ok:W.Ok){T:List Nd}{S:Nat→Std}(h:dJ W T S)(o:iU T)(hn:T.length≤24){L:List PyData}(hL:∀d∈L,Am d)(ll:L.length≤60){i:Nat}(hi:(i:Int) < W.things){v7 v8 v11 v12 v13 v14 v15 v16:Option Sv}:
    ∃L' w11 w12,cW (dF ds W T v7 v8 (some (.l L)) (some (.d (.int (i:Int)))) v11 v12 v13 v14 v15 v16)=some (.nx (dF ds W T v7 v8 (some (.l L')) (some (.d (.int (i:Int)))) w11 w12 v13 v14 v15 v16))∧(∀d∈L',Am d)∧L'.length=L.length+2:=by
  obtain⟨m,tm,m0,m1⟩:=zQ ok h o hn (i:Int)
  have t1:=ok.t1;have pl:=ok.pl
  have step:∀(a:Int) (L:List PyData) (v12:Option Sv),0≤a→a≤20→L.length≤70→eB (dF ds W T v7 v8 (some (.l L)) (some (.d (.int (i:Int)))) (some (.d (.int m))) (some (.d (.int a))) v13 v14 v15 v16)=some (.nx (dF ds W T v7 v8 (some (.l (L++[.tuple [.int W.things,.tuple (W.ties.map aO),.tuple (L2.cutD (W.pat.map .int) none (some (i:Int))++[.int a]++L2.cutD (W.pat.map .int) (some ((i:Int)+1)) none),.int W.asks]]))) (some (.d (.int (i:Int)))) (some (.d (.int m))) (some (.d (.int a))) v13 v14 v15 v16)):=fun a L v12 a0 a1 hl=>by
    have lp:(W.pat.map PyData.int).length≤12:=by simp;lia
    have gc:∀(xs ys:List PyData),xs.length≤100→ys.length≤100→∀e:En,bu e (.d (.tuple xs)) (.d (.tuple ys))=some (.d (.tuple (xs++ys))):=fun xs ys h1 h2 e=>jv (by lia)
    have l1:=Nat.le_trans (L2.cut_len (xs:=W.pat.map PyData.int) (lo:=none) (hi:=some (i:Int))) lp
    have l2:=Nat.le_trans (L2.cut_len (xs:=W.pat.map PyData.int) (lo:=some ((i:Int)+1)) (hi:=none)) lp
    have ll:L.length < 1000000:=by lia
    simp only [dF]
    generalize W.pat.map PyData.int=PP at*
    have k4:=gc (L2.cutD PP none (some (i:Int))) [.int a] (by lia) (by simp)
    have k5:=gc (L2.cutD PP none (some (i:Int))++[.int a]) (L2.cutD PP (some ((i:Int)+1)) none) (by simp;lia) (by lia)
    generalize L2.cutD PP none (some (i:Int))++[.int a]++L2.cutD PP (some ((i:Int)+1)) none=E2 at*
    generalize hE4:L2.cutD PP none (some (i:Int))++[.int a]=E4 at*
    generalize hA:L2.cutD PP none (some (i:Int))=A at*
    generalize hB:L2.cutD PP (some ((i:Int)+1)) none=B at*
    generalize W.ties.map aO=TI at*
    clear tm
    generalize T.map aE=TT at*
    generalize aq W=WW at*
    simp? [eB,hA,hB,k4,k5,ll, -bE,bE]
  have s1:=fun v12=>step m L v12 m0 (by lia) (by lia)
  have s2:=fun v12=>step (max 0 (m - 1)) (L++[.tuple [.int W.things,.tuple (W.ties.map aO),.tuple (L2.cutD (W.pat.map .int) none (some (i:Int))++[.int m]++L2.cutD (W.pat.map .int) (some ((i:Int)+1)) none),.int W.asks]]) v12 (by lia) (by lia) (by simp;lia)
  have o1:=wa ok (i:=i) hi m0 (show m≤20 by lia)
  have o2:=wa ok (i:=i) hi (show 0≤max 0 (m - 1) by lia) (show max 0 (m - 1)≤20 by lia)
  have hi1:ig (dF ds W T v7 v8 (some (.l L)) (some (.d (.int (i:Int)))) (some (.d (.int m))) v12 v13 v14 v15 v16)=some ([.int m,.int (max 0 (m - 1))],[],dF ds W T v7 v8 (some (.l L)) (some (.d (.int (i:Int)))) (some (.d (.int m))) v12 v13 v14 v15 v16):=by
    unfold ig
    refine uK ?_
    simp only [dF]
    simp? [List.replicate]
  have hg:=fun Wl=>bS (W:=Wl) (g:=af 12) (f:=eB) hi1
  generalize PyData.tuple [.int W.things,.tuple (W.ties.map aO),.tuple (L2.cutD (W.pat.map .int) none (some (i:Int))++[.int m]++L2.cutD (W.pat.map .int) (some ((i:Int)+1)) none),.int W.asks]=D1 at*
  generalize PyData.tuple [.int W.things,.tuple (W.ties.map aO),.tuple (L2.cutD (W.pat.map .int) none (some (i:Int))++[.int (max 0 (m - 1))]++L2.cutD (W.pat.map .int) (some ((i:Int)+1)) none),.int W.asks]=D2 at*
  refine⟨L++[D1]++[D2],some (.d (.int m)),some (.d (.int (max 0 (m - 1)))),?_,fun d hd=>?_,by simp⟩
  · unfold cW
    refine(bi (e1:=dF ds W T v7 v8 (some (.l L)) (some (.d (.int (i:Int)))) (some (.d (.int m))) v12 v13 v14 v15 v16) ?_).trans ((hg _).trans ?_)
    · simp only [dF]
      clear s1 s2 hg hi1
      generalize T.map aE=TT at*
      generalize aq W=WW at*
      simp? [tm]
    · clear hg hi1 step tm
      simp only [dF] at s1 s2 ⊢
      generalize W.pat.map PyData.int=PP at*
      generalize W.ties.map aO=TI at*
      generalize T.map aE=TT at*
      generalize aq W=WW at*
      generalize L++[D1]++[D2]=L2' at*
      generalize L++[D1]=L1 at*
      have s1:=s1 none
      have s2:=s2 none
      simp? [eX,af,s1,s2,aV]
  · rcases KZ hd with hd | hd
    · rcases KZ hd with hd | hd
      · exact hL d hd
      · simp at hd;subst hd;exact o1
    · simp at hd;subst hd;exact o2
theorem t_{W:aK}:SeqAt.shaped (.tuple (W.ties.map aO))=true:=(Sh.tup (n:=6) fun d hd=>by
  obtain⟨t,_,rfl⟩:=K0 hd
  exact Sh.tie).ok (by decide)
theorem sD{ds:List Int}{W:aK}(ok:W.Ok){T:List Nd}{S:Nat→Std}(h:dJ W T S)(o:iU T)(hn:T.length≤24)(hd:iT ds):
    ∃(ds':List Int) (L:List PyData),dz [.l (ds.map .int),.d (aq W),.d (.tuple (T.map aE))]=some (.l L,[.l (ds'.map .int),.d (aq W),.d (.tuple (T.map aE))])∧iT ds'∧(∀d∈L,Am d):=by
  have t0:=ok.t0;have t1:=ok.t1;have a0:=ok.a0;have a1:=ok.a1;have wl:=ok.len
  obtain⟨m,tm,m0,m1⟩:=zQ ok h o hn (-1)
  obtain⟨ns,hns⟩:∃ns:List Int,ns=[m,max 0 (m - 1),min 40 (W.asks+1),max 0 (W.asks - 1)]:=⟨_,rfl⟩
  have nl:ns.length=4:=by rw [hns];rfl
  have nok:∀a∈ns,0≤a∧a≤40:=fun a ha=>by
    rw [hns] at ha
    simp only [List.mem_cons,List.not_mem_nil,or_false] at ha
    rcases ha with rfl | rfl | rfl | rfl<;>lia
  obtain⟨L0,hL0⟩:∃L0:List PyData,L0=(ns.map PyData.int).map (xR W):=⟨_,rfl⟩
  have l0:L0.length=4:=by rw [hL0];simp [nl]
  have o0:∀d∈L0,Am d:=fun d hd=>by
    rw [hL0] at hd
    obtain⟨x,hx,rfl⟩:=K0 hd
    obtain⟨a,ha,rfl⟩:=K0 hx
    exact yS ok (nok a ha).1 (nok a ha).2
  have nc:=yL (ds:=ds) (W:=W) (T:=T) (ns:=ns) (by lia) (v7:=some (.d (.int m))) (v9:=none) (v10:=none) (v11:=none) (v12:=none) (v13:=none) (v14:=none) (v15:=none) (v16:=none)
  rw [←hL0] at nc
  obtain⟨e',h1,⟨L,w10,w11,w12,he,hL,ll⟩⟩:=cm (own:=[]) (g:=af 10) (f:=cW) (fun i e=>∃L v10 v11 v12,e=dF ds W T (some (.d (.int m))) (some (.l (ns.map .int))) (some (.l L)) v10 v11 v12 none none none none∧(∀d∈L,Am d)∧L.length=4+2*i) (bx 0 W.things.toNat) 0 (dF ds W T (some (.d (.int m))) (some (.l (ns.map .int))) (some (.l L0)) none none none none none none none) (fun i x e hx ⟨L,v10,v11,v12,he,hL,ll⟩=>by
    subst he
    obtain⟨rfl,hlt⟩:=fj hx
    rw [Nat.zero_add] at*
    rw [Int.zero_add]
    obtain⟨L',w11,w12,hb,hL',ll'⟩:=yV (ds:=ds) ok h o hn hL (by lia) (i:=i) (by lia) (v7:=some (.d (.int m))) (v8:=some (.l (ns.map .int))) (v11:=v11) (v12:=v12) (v13:=none) (v14:=none) (v15:=none) (v16:=none)
    exact⟨dF ds W T (some (.d (.int m))) (some (.l (ns.map .int))) (some (.l L)) (some (.d (.int (i:Int)))) v11 v12 none none none none,_,rfl,hb,aV,L',_,_,_,rfl,hL',by lia⟩) ⟨L0,none,none,none,rfl,o0,l0⟩
  rw [Nat.zero_add,io] at ll
  subst he
  have hi3:kj (dF ds W T (some (.d (.int m))) (some (.l (ns.map .int))) (some (.l L0)) none none none none none none none)=some (bx 0 W.things.toNat,[],dF ds W T (some (.d (.int m))) (some (.l (ns.map .int))) (some (.l L0)) none none none none none none none):=eY (n:=W.things) (by simp only [dF];simp? [List.replicate]) (by lia) (by lia)
  have hg:=fun Wl=>bS (W:=Wl) (g:=af 10) (f:=cW) hi3
  rw [h1] at hg
  have eT:=fun e=>tu (e:=e) (neg:=true) (t_ (W:=W))
  have pre:∀(R:Option Fl),(au (fB (ax (av (bv true) (ab 4) (bj ah)))
    (au (aY 13 (av aZ (bV 1 a8 (aa (ab 0) ah)) (aB (g1 cT) (aa (ab 4) ah))))
    (au (aY 14 (av aZ (bV 1 a8 (aa (ab 0) ah)) (ab 3)))
    (au (aY 15 (av aZ (av bu (av bu (ab 14) (vC (.int 1))) (av aZ (bV 1 a8 (aa (ab 0) ah)) (av gq (ab 3) (vC (.int 1))))) (ab 3)))
    (au (aY 16 (av bu (bj (aa (aB (g2 tF) (aa (ab 14) (aa (ab 15) ah))) (aa (aB (g2 oo) (aa (ab 14) (aa (ab 15) ah))) ah))) (li (av dU (ab 4) (ab 13)) (bI (vC (.int 2))) bM)))
    (au (cC (bW bc (ab 9) (aa (bj (aa (ab 3) (aa (av bu (av bu (li (ab 4) bM (bI (ab 13))) (bj (aa (ab 16) ah))) (li (ab 4) (bI (av bu (ab 13) (vC (.int 1)))) bM)) (aa (ab 5) (aa (ab 6) ah))))) ah)))
    (cC (bW bc (ab 9) (aa (bj (aa (ab 3) (aa (li (ab 4) bM (bI (jS kg (vC (.int 1))))) (aa (ab 5) (aa (ab 6) ah))))) ah))))))))
    bH)
    (a_ (ab 9))) (dF ds W T (some (.d (.int m))) (some (.l (ns.map .int))) (some (.l L)) w10 w11 w12 none none none none)=R→gK ([some (.l (ds.map .int)),some (.d (aq W)),some (.d (.tuple (T.map aE)))]++List.replicate 14 none)=R:=fun R hR=>by
    rw [←hR]
    unfold gK
    refine(bi (e1:=dF ds W T none none none none none none none none none none) ?_).trans ?_
    · simp only [dF]
      rw [dN]
      clear nc hg h1 hi3 tm eT
      generalize W.ties.map aO=TI at*
      generalize W.pat.map PyData.int=PP at*
      generalize T.map aE=TT at*
      simp? [List.replicate]
    refine(bi (e1:=dF ds W T (some (.d (.int m))) none none none none none none none none none) ?_).trans ?_
    · simp only [dF]
      clear nc hg h1 hi3 eT
      generalize W.ties.map aO=TI at*
      generalize W.pat.map PyData.int=PP at*
      generalize T.map aE=TT at*
      generalize aq W=WW at*
      simp? [tm]
    refine(bi (e1:=dF ds W T (some (.d (.int m))) (some (.l (ns.map .int))) none none none none none none none none) ?_).trans ?_
    · rw [hns]
      simp only [dF]
      clear nc hg h1 hi3 eT tm
      generalize W.ties.map aO=TI at*
      generalize W.pat.map PyData.int=PP at*
      generalize T.map aE=TT at*
      generalize aq W=WW at*
      simp? [List.replicate]
    refine(bi (e1:=dF ds W T (some (.d (.int m))) (some (.l (ns.map .int))) (some (.l L0)) none none none none none none none) ?_).trans ?_
    · clear hg h1 hi3 eT tm
      simp only [dF] at nc ⊢
      generalize ns.map PyData.int=NS at*
      generalize W.ties.map aO=TI at*
      generalize W.pat.map PyData.int=PP at*
      generalize T.map aE=TT at*
      generalize aq W=WW at*
      simp? [nc]
    exact bi (hg _)
  have fin:∀(d2:List Int) (L':List PyData) (v13 v14 v15 v16:Option Sv),gK ([some (.l (ds.map .int)),some (.d (aq W)),some (.d (.tuple (T.map aE)))]++List.replicate 14 none)=some (.rt (.s 9) (dF d2 W T (some (.d (.int m))) (some (.l (ns.map .int))) (some (.l L')) w10 w11 w12 v13 v14 v15 v16))→dz [.l (ds.map .int),.d (aq W),.d (.tuple (T.map aE))]=some (.l L',[.l (d2.map .int),.d (aq W),.d (.tuple (T.map aE))]):=fun d2 L' v13 v14 v15 v16 hb=>by
    simp only [dF,List.replicate,List.cons_append,List.nil_append] at hb
    clear nc hg h1 hi3 eT tm pre
    generalize W.ties.map aO=TI at*
    generalize W.pat.map PyData.int=PP at*
    generalize T.map aE=TT at*
    generalize aq W=WW at*
    simp? [dz,hb]
  by_cases c:W.ties=[]
  · refine⟨ds,L,fin ds L none none none none (pre _ ?_),hd,hL⟩
    have em:(W.ties.map aO).isEmpty=true:=by rw [c];rfl
    rw [em] at eT
    simp only [if_true,Bool.not_true] at eT
    simp only [dF]
    clear nc hg h1 hi3 tm pre fin
    generalize W.ties.map aO=TI at*
    generalize W.pat.map PyData.int=PP at*
    generalize T.map aE=TT at*
    generalize aq W=WW at*
    simp? [eT]
  · have pos:0 < W.ties.length:=List.length_pos_iff.mpr c
    have em:(W.ties.map aO).isEmpty=false:=by cases hc:W.ties with | nil=>exact absurd hc c | cons _ _=>rfl
    rw [em] at eT
    simp only [if_true,Bool.not_false] at eT
    have t2:2≤W.things:=by
      have q:=ok.ties _ (List.getElem_mem pos)
      have:=q.o0;have:=q.o1;have:=q.o2
      lia
    obtain⟨n1,d1,x1, -, -,hd1⟩:=jh hd
    obtain⟨n2,d2,x2, -, -,hd2⟩:=jh hd1
    obtain⟨n3,d3,x3, -, -,hd3⟩:=jh hd2
    have g1:∀e:En,aZ e (.d (.int n1)) (.d (.int (W.ties.length:Int)))=some (.d (.int (n1 % (W.ties.length:Int)))):=fun e=>aQ (by lia)
    have p0:=vH (n:=n1) (k:=(W.ties.length:Int)) (by lia);have p1:=vI (n:=n1) (k:=(W.ties.length:Int)) (by lia)
    obtain⟨at_,hat⟩:∃at_:Nat,(at_:Int)=n1 % (W.ties.length:Int):=⟨(n1 % (W.ties.length:Int)).toNat,by lia⟩
    rw [←hat] at g1 p0 p1
    have g2:∀e:En,aZ e (.d (.int n2)) (.d (.int W.things))=some (.d (.int (n2 % W.things))):=fun e=>aQ (by lia)
    have q0:=vH (n:=n2) (k:=W.things) (by lia);have q1:=vI (n:=n2) (k:=W.things) (by lia)
    generalize n2 % W.things=one at*
    have g3:∀e:En,aZ e (.d (.int n3)) (.d (.int (W.things - 1)))=some (.d (.int (n3 % (W.things - 1)))):=fun e=>aQ (by lia)
    have r0:=vH (n:=n3) (k:=W.things - 1) (by lia);have r1:=vI (n:=n3) (k:=W.things - 1) (by lia)
    generalize n3 % (W.things - 1)=sh at*
    have g4:∀e:En,aZ e (.d (.int (one+1+sh))) (.d (.int W.things))=some (.d (.int ((one+1+sh) % W.things))):=fun e=>aQ (by lia)
    obtain⟨oth,ho,ho0,ho1,hne⟩:∃oth:Int,(one+1+sh) % W.things=oth∧0≤oth∧oth < W.things∧oth≠one:=by
      refine⟨_,rfl,Int.emod_nonneg _ (by lia),Int.emod_lt_of_pos _ (by lia),?_⟩
      by_cases z:one+1+sh < W.things
      · rw [Int.emod_eq_of_lt (by lia) z];lia
      · have:(one+1+sh) % W.things=(one+1+sh - W.things) % W.things:=by rw [Int.sub_emod,Int.emod_self,Int.sub_zero,Int.emod_emod_of_dvd _ (Int.dvd_refl _)]
        rw [this,Int.emod_eq_of_lt (by lia) (by lia)]
        lia
    rw [ho] at g4
    have al:at_ < W.ties.length:=by lia
    have ai:=jW (W:=W) (k:=(at_:Int)) ⟨p0,p1⟩
    have tk:=ok.ties (W.tie (at_:Int)) (K2 (jK.get (W:=W) (k:=(at_:Int)) ⟨p0,p1⟩))
    obtain⟨tn,htn⟩:∃tn:om,tn=⟨min one oth,max one oth,(W.tie (at_:Int)).top,(W.tie (at_:Int)).bot,(W.tie (at_:Int)).worth⟩:=⟨_,rfl⟩
    have tnok:tn.Ok W.things:=by
      rw [htn]
      exact⟨by show 0≤min one oth;lia,by show min one oth < max one oth;lia,by show max one oth < W.things;lia,tk.c0,tk.c1,tk.b0,tk.b1,tk.w0,tk.w1,tk.cop⟩
    have ot:=Bk ok tnok al
    have ol:=yT ok
    have lt16:(W.ties.map aO).length≤16:=by simpa using wl
    have gc:∀(xs ys:List PyData),xs.length≤100→ys.length≤100→∀e:En,bu e (.d (.tuple xs)) (.d (.tuple ys))=some (.d (.tuple (xs++ys))):=fun xs ys h1 h2 e=>jv (by lia)
    have l1:=Nat.le_trans (L2.cut_len (xs:=W.ties.map aO) (lo:=none) (hi:=some (at_:Int))) lt16
    have l2:=Nat.le_trans (L2.cut_len (xs:=W.ties.map aO) (lo:=some ((at_:Int)+1)) (hi:=none)) lt16
    have k4:=gc (L2.cutD (W.ties.map aO) none (some (at_:Int))) [aO tn] (by lia) (by simp)
    have k5:=gc (L2.cutD (W.ties.map aO) none (some (at_:Int))++[aO tn]) (L2.cutD (W.ties.map aO) (some ((at_:Int)+1)) none) (by simp;lia) (by lia)
    have cut2:L2.cutD [PyData.int (W.tie (at_:Int)).one,.int (W.tie (at_:Int)).other,.tuple [.int (W.tie (at_:Int)).top,.int (W.tie (at_:Int)).bot],.int (W.tie (at_:Int)).worth] (some 2) none=[.tuple [.int (W.tie (at_:Int)).top,.int (W.tie (at_:Int)).bot],.int (W.tie (at_:Int)).worth]:=rfl
    have k6:∀e:En,bu e (.d (.tuple [.int (min one oth),.int (max one oth)])) (.d (.tuple [.tuple [.int (W.tie (at_:Int)).top,.int (W.tie (at_:Int)).bot],.int (W.tie (at_:Int)).worth]))=some (.d (aO tn)):=fun e=>by
      rw [gc _ _ (by simp) (by simp),htn]
      rfl
    have sl2:∀e:En,AK e (.d (aO (W.tie (at_:Int)))) (some 2) none=some (.d (.tuple [.tuple [.int (W.tie (at_:Int)).top,.int (W.tie (at_:Int)).bot],.int (W.tie (at_:Int)).worth])):=fun e=>rfl
    have ql:((W.ties.map aO).length:Int)=(W.ties.length:Int):=by simp
    have ll2:L.length < 1000000:=by lia
    have ll3:L.length+1 < 1000000:=by lia
    generalize hD1:L2.cutD (W.ties.map aO) none (some (at_:Int))++[aO tn]++L2.cutD (W.ties.map aO) (some ((at_:Int)+1)) none=E1 at*
    refine⟨d3,L++[.tuple [.int W.things,.tuple E1,.tuple (W.pat.map .int),.int W.asks]]++[.tuple [.int W.things,.tuple (L2.cutD (W.ties.map aO) none (some (-1))),.tuple (W.pat.map .int),.int W.asks]],fin d3 _ (some (.d (.int (at_:Int)))) (some (.d (.int one))) (some (.d (.int oth))) (some (.d (aO tn))) (pre _ ?_),hd3,fun d hd=>?_⟩
    · clear nc hg h1 hi3 tm pre fin hL ot ol
      generalize hE4:L2.cutD (W.ties.map aO) none (some (at_:Int))++[aO tn]=E4 at*
      generalize hA:L2.cutD (W.ties.map aO) none (some (at_:Int))=A at*
      generalize hB:L2.cutD (W.ties.map aO) (some ((at_:Int)+1)) none=B at*
      generalize hC:L2.cutD (W.ties.map aO) none (some (-1))=C at*
      generalize aO tn=TN at*
      generalize aO (W.tie (at_:Int))=TA at*
      generalize hP:(PyData.tuple [.int (W.tie (at_:Int)).top,.int (W.tie (at_:Int)).bot])=CP at*
      generalize (W.tie (at_:Int)).worth=CW at*
      simp only [dF]
      generalize W.ties.map aO=TI at*
      generalize W.pat.map PyData.int=PP at*
      generalize T.map aE=TT at*
      generalize aq W=WW at*
      generalize (W.ties.length:Int)=TL at*
      simp? [eT,x1,x2,x3,ql,g1,g2,g3,g4,ai,sl2,k4,k5,k6,hA,hB,hC,ll2,ll3, -bE,bE]
    · rcases KZ hd with hd | hd
      · rcases KZ hd with hd | hd
        · exact hL d hd
        · simp at hd;subst hd;exact ot
      · simp at hd;subst hd;exact ol
theorem zO{W:aK}(ok:W.Ok):∃O:aK,ij [.d (aq W)]=some (.d (aq O),[.d (aq W)])∧O.Ok:=by
  have t0:=ok.t0;have t1:=ok.t1
  refine⟨⟨W.things,W.ties,List.replicate W.things.toNat 20,40⟩,?_,⟨ok.t0,ok.t1,ok.ties,ok.len,by show((List.replicate W.things.toNat (20:Int)).length:Int)=W.things;rw [List.length_replicate];lia,fun p hp=>by rw [(List.mem_replicate.mp hp).2];decide,by show(0:Int)≤40;decide,by show(40:Int)≤40;decide⟩⟩
  have rep:∀e:En,gu e (.d (.tuple [.int 20])) (.d (.int W.things))=some (.d (.tuple ((List.replicate W.things.toNat (20:Int)).map .int))):=fun e=>by rw [Dd t0 (by lia),List.map_replicate]
  rw [dN ⟨W.things,W.ties,List.replicate W.things.toNat 20,40⟩]
  show ij [.d (aq W)]=some (.d (.tuple [.int W.things,.tuple (W.ties.map aO),.tuple ((List.replicate W.things.toNat (20:Int)).map .int),.int 40]),[.d (aq W)])
  rw [dN W]
  generalize (List.replicate W.things.toNat (20:Int)).map PyData.int=RR at*
  generalize W.ties.map aO=TI at*
  generalize W.pat.map PyData.int=PP at*
  simp? [ij,sO,rep]
inductive LI (ns:List Int):En→Prop
  | mk {ds v2 v3 v4 v5} (hd:iT ds):LI ns [some (.d (.list (ns.map .int))),some (.l (ds.map .int)),v2,v3,v4,v5]
theorem Em{ns ds:List Int}{W:aK}(ok:W.Ok){v2 v4 v5:Option Sv}(hd:iT ds):∃e2,(au (aY 4 (bV 2 dA (aa (ab 1) (aa (bV 3 kZ (aa (ab 1) (aa (ab 3) (aa (av bu (vC (.int 1)) (av aZ (bV 1 a8 (aa (ab 1) ah)) (vC (.int 24)))) ah)))) ah))))
    (au (fB (oQ (ax (av oY (bV 2 en (aa (ab 3) (aa (ab 4) ah))) (vC (.bool true)))) (gy (ax (bV 2 dw (aa (ab 3) (aa (ab 4) ah))))))
    (a_ (vC (.bool false)))
    bH)
    (di ([5]++([]++[])) GG (af 5) E3))) [some (.d (.list (ns.map .int))),some (.l (ds.map .int)),v2,some (.d (aq W)),v4,v5]=some (.nx e2)∧LI ns e2:=by
  obtain⟨n1,d1,x1, -, -,hd1⟩:=jh hd
  have g1:∀e:En,aZ e (.d (.int n1)) (.d (.int 24))=some (.d (.int (n1 % 24))):=fun e=>aQ (by decide)
  have p0:=vH (n:=n1) (k:=24) (by decide);have p1:=vI (n:=n1) (k:=24) (by decide)
  generalize n1 % 24=q at*
  obtain⟨d2,T0,S0,tg,hd2,h0,l0,u0,r0⟩:=B0 ok (most:=1+q) hd1 (by lia) (by lia)
  obtain⟨d3,T,S,tr,hd3,h,lT,o,t,lt,rt⟩:=sE ok hd2 h0 (by lia) u0 r0
  have hn:T.length≤24:=by lia
  have i1:=rl ok ok h o t hn
  have i2:=rj ok ok h o t hn
  rw [AN h o t rt] at i1 i2
  obtain⟨d4,L,tw,hd4,hL⟩:=sD ok h o hn hd3
  obtain⟨e3,h3,⟨w5,he3⟩⟩:=cm (own:=[]) (g:=af 5) (f:=E3) (fun i e=>∃v5,e=[some (.d (.list (ns.map .int))),some (.l (d4.map .int)),v2,some (.d (aq W)),some (.d (.tuple (T.map aE))),v5]) L 0 [some (.d (.list (ns.map .int))),some (.l (d4.map .int)),v2,some (.d (aq W)),some (.d (.tuple (T.map aE))),v5] (fun i y e hy ⟨v5,he⟩=>by
    subst he
    obtain⟨O,okO,rfl⟩:=hL y (K2 hy)
    have j1:=rl ok okO h o t hn
    have j2:=rj ok okO h o t hn
    have j3:=Ez (AM O T) (AM O T)
    rw [beq_self_eq_true] at j3
    refine⟨[some (.d (.list (ns.map .int))),some (.l (d4.map .int)),v2,some (.d (aq W)),some (.d (.tuple (T.map aE))),some (.d (aq O))],[some (.d (.list (ns.map .int))),some (.l (d4.map .int)),v2,some (.d (aq W)),some (.d (.tuple (T.map aE))),some (.d (aq O))],rfl,?_,aV,_,rfl⟩
    generalize AM O T=bb at*
    clear i1 i2 tw tr tg
    generalize T.map aE=TT at*
    generalize aq O=OO at*
    generalize aq W=WW at*
    simp? [E3,j1,j2,j3]) ⟨v5,rfl⟩
  subst he3
  have hi:GG [some (.d (.list (ns.map .int))),some (.l (d3.map .int)),v2,some (.d (aq W)),some (.d (.tuple (T.map aE))),v5]=some (L,[],[some (.d (.list (ns.map .int))),some (.l (d4.map .int)),v2,some (.d (aq W)),some (.d (.tuple (T.map aE))),v5]):=by
    unfold GG
    refine uK ?_
    clear i1 i2 tr tg h3
    generalize T.map aE=TT at*
    generalize aq W=WW at*
    simp? [tw]
  have hg:=fun Wl=>bS (W:=Wl) (g:=af 5) (f:=E3) hi
  rw [h3] at hg
  have gb:∀e:En,oY e (.d (.bool true)) (.d (.bool true))=some (.d (.bool false)):=fun e=>rfl
  refine⟨[some (.d (.list (ns.map .int))),some (.l (d4.map .int)),v2,some (.d (aq W)),some (.d (.tuple (T.map aE))),w5],?_,.mk hd4⟩
  refine(bi (e1:=[some (.d (.list (ns.map .int))),some (.l (d3.map .int)),v2,some (.d (aq W)),some (.d (.tuple (T.map aE))),v5]) ?_).trans ?_
  · clear i1 i2 tw hi hg h3
    generalize T.map aE=TT at*
    generalize T0.map aE=TT0 at*
    generalize aq W=WW at*
    simp? [x1,g1,tg,tr]
  refine(bi (e1:=[some (.d (.list (ns.map .int))),some (.l (d3.map .int)),v2,some (.d (aq W)),some (.d (.tuple (T.map aE))),v5]) ?_).trans ?_
  · clear tw hi hg h3 tr tg
    generalize T.map aE=TT at*
    generalize aq W=WW at*
    simp? [i1,i2,gb]
  exact hg _
theorem yx{ns ds:List Int}{v2 v3 v4 v5:Option Sv}(hd:iT ds):∃e2,EO [some (.d (.list (ns.map .int))),some (.l (ds.map .int)),v2,v3,v4,v5]=some (.nx e2)∧LI ns e2:=by
  obtain⟨W,d1,tw,hd1,ok, -, -⟩:=Gx ds 12 16 hd (by decide) (by decide) (by decide) (by decide)
  have g1':=GX (W:=W)
  have eT:=fun e=>tu (e:=e) (neg:=true) (t_ (W:=W))
  have go:∀(d2:List Int) (O:aK),iT d2→O.Ok→(∀v2 v4 v5:Option Sv,(fB (jH (ax (av (bv true) (av dU (ab 3) (vC (.int 1))) (bj ah))) (ax (av (bv false) (av aZ (bV 1 a8 (aa (ab 1) ah)) (vC (.int 2))) (vC (.int 0)))))
    (aY 3 (bV 1 ij (aa (ab 3) ah)))
    bH) [some (.d (.list (ns.map .int))),some (.l (d1.map .int)),v2,some (.d (aq W)),v4,v5]=some (.nx [some (.d (.list (ns.map .int))),some (.l (d2.map .int)),v2,some (.d (aq O)),v4,v5]))→∃e2,EO [some (.d (.list (ns.map .int))),some (.l (ds.map .int)),v2,v3,v4,v5]=some (.nx e2)∧LI ns e2:=fun d2 O hd2 okO hs=>by
    obtain⟨e2,k1,k2⟩:=Em (ns:=ns) okO (v2:=v2) (v4:=v4) (v5:=v5) hd2
    refine⟨e2,?_,k2⟩
    unfold EO
    refine(bi (e1:=[some (.d (.list (ns.map .int))),some (.l (d1.map .int)),v2,some (.d (aq W)),v4,v5]) ?_).trans ((bi (hs v2 v4 v5)).trans k1)
    clear hs eT g1'
    generalize aq W=WW at*
    simp? [tw]
  cases em:(W.ties.map aO).isEmpty with
  | true=>
    rw [em] at eT
    simp only [if_true,Bool.not_true] at eT
    refine go d1 W hd1 ok fun v2 v4 v5=>?_
    clear em
    generalize W.ties.map aO=TI at*
    clear tw go
    generalize aq W=WW at*
    simp? [g1',eT]
  | false=>
    rw [em] at eT
    simp only [if_true,Bool.not_false] at eT
    obtain⟨n1,d2,x1, -, -,hd2⟩:=jh hd1
    have g2':∀e:En,aZ e (.d (.int n1)) (.d (.int 2))=some (.d (.int (n1 % 2))):=fun e=>aQ (by decide)
    obtain⟨O,te,okO⟩:=zO ok
    by_cases c:n1 % 2=0
    · have ge:∀e:En,bv false e (.d (.int (n1 % 2))) (.d (.int 0))=some (.d (.bool true)):=fun e=>by rw [cP];simp [c]
      refine go d2 O hd2 okO fun v2 v4 v5=>?_
      clear em c
      generalize n1 % 2=nm at*
      generalize W.ties.map aO=TI at*
      clear tw go
      generalize aq W=WW at*
      generalize aq O=OO at*
      simp? [g1',eT,x1,g2',ge,te]
    · have ge:∀e:En,bv false e (.d (.int (n1 % 2))) (.d (.int 0))=some (.d (.bool false)):=fun e=>by rw [cP];simp [c]
      refine go d2 W hd2 ok fun v2 v4 v5=>?_
      clear em c te
      generalize n1 % 2=nm at*
      generalize W.ties.map aO=TI at*
      clear tw go
      generalize aq W=WW at*
      simp? [g1',eT,x1,g2',ge]
theorem yw(ns:List Int)(hl:ns.length≤63):∃as',pC [.d (.list (ns.map .int))]=some (.d (.bool true),as'):=by
  obtain⟨ds,td,hd⟩:=BZ ns hl
  obtain⟨e2,h1,hI⟩:=cm (own:=[]) (g:=af 2) (f:=EO) (fun _=>LI ns) (bx 0 3) 0 [some (.d (.list (ns.map .int))),some (.l (ds.map .int)),none,none,none,none] (fun i x e hx hI=>by
    obtain⟨hd⟩:=hI
    rename_i ds v2 v3 v4 v5
    obtain⟨e2,k1,k2⟩:=yx (ns:=ns) (v2:=some (.d x)) (v3:=v3) (v4:=v4) (v5:=v5) hd
    exact⟨_,e2,rfl,k1,aV,k2⟩) (.mk hd)
  obtain⟨hd2⟩:=hI
  rename_i ds2 v2 v3 v4 v5
  have hfor:=fun Wl=>bS (W:=Wl) (g:=af 2) (f:=EO) (show Hv [some (.d (.list (ns.map .int))),some (.l (ds.map .int)),none,none,none,none]=some (bx 0 3,[],[some (.d (.list (ns.map .int))),some (.l (ds.map .int)),none,none,none,none]) from rfl)
  rw [h1] at hfor
  simp? [pC,Cn,td,hfor]
def kE(P:Params)(k:Str)(t:Tok)(v:Value):DictEntry:=⟨PyData.keyHash P k,.str k t,v⟩
def kF(n:Str)(s:Stmt)(doc pm:Value)(c:Addr):Obj:=⟨.type "function",none,.func (W.fnOf n n (eE s) (dr s) (am s) .none .none doc pm none (.ref c) .none),#[]⟩
def kI(n:Int):Value:=.int n 0
def kC(n:Str)(a:Nat)(l:List Value)(z:Nat):Obj:=⟨.type "code",none,.fields (Value.str n a::Value.str n (a+1)::Value.str "/claim/cut.py" (a+2)::l++[Value.str "/claim/cut.py" z]).toArray,#[]⟩
def kT(l:List Value)(n:Nat):Obj:=⟨.type "tuple",none,.seq l.toArray n,#[]⟩
def EQ:Value:=.str "askedpairs.forms" 187
def Aj:Value:=.str "askedpairs.stands" 213
def xO:Value:=.str "askedpairs.trees" 259
def gv:Value:=.str "law_askedpairs_k14_trees_in_other_webs" 312
def kK(P:Params):W.Frag:=[(3,⟨.type "dict",none,.dict (List.toArray [kE P "__name__" 165 (.str "law_askedpairs_k14_trees_in_other_webs" 312),kE P "__doc__" 166 (.none),kE P "__package__" 167 (.none),kE P "__loader__" 168 (.builtin "__main__.__loader__#opaque"),kE P "__spec__" 169 (.none),kE P "__annotations__" 170 (.ref 6),kE P "__builtins__" 171 (.ref 4),kE P "__file__" 173 (.str "/claim/cut.py" 172),kE P "__cached__" 174 (.none),kE P "is_number" 195 (.ref 21),kE P "is_number_within" 204 (.ref 28),kE P "is_row_of" 212 (.ref 35),kE P "FIRST_STAND" 215 (.ref 38),kE P "things_of" 223 (.ref 45),kE P "many_asks" 229 (.ref 50),kE P "bears_one_more" 240 (.ref 57),kE P "may_ask" 246 (.ref 62),kE P "stand_behind" 258 (.ref 69),kE P "MOST_NODES" 262 (.int (300) 261),kE P "END" 265 (.int (-1) 264),kE P "is_link" 274 (.ref 76),kE P "is_node" 287 (.ref 83),kE P "is_told_once" 293 (.ref 88),kE P "is_tree_form" 299 (.ref 93),kE P "is_tree" 305 (.ref 98),kE P "stands_of" 311 (.ref 103),kE P "_law_mixed" 322 (.ref 110),kE P "_law_draws" 333 (.ref 117),kE P "_law_next" 340 (.ref 124),kE P "_law_gcd" 348 (.ref 131),kE P "_law_low" 357 (.ref 138),kE P "_law_says" 365 (.ref 145),kE P "_law_chance" 374 (.ref 152),kE P "_law_worth" 382 (.ref 159),kE P "_law_ties" 401 (.ref 166),kE P "_law_web" 417 (.ref 173),kE P "_law_enough" 428 (.ref 180),kE P "_law_asks_of" 434 (.ref 185),kE P "_law_may" 446 (.ref 192),kE P "_law_behind" 459 (.ref 199),kE P "_law_askable" 465 (.ref 204),kE P "_law_grown" 471 (.ref 209),kE P "_law_is_tie" 479 (.ref 216),kE P "_law_are_links" 489 (.ref 223),kE P "_law_are_nodes" 501 (.ref 230),kE P "_law_stands" 514 (.ref 237),kE P "_law_is_tree" 524 (.ref 244),kE P "_law_renumbered" 530 (.ref 249),kE P "_law_most_asked" 544 (.ref 256),kE P "_law_other_webs" 550 (.ref 261),kE P "law" 562 (.ref 268)]) 51,#[]⟩),
  (21,kF "is_number" et (.none) EQ 20),
  (20,kC "is_number" 189 [kI 2,kI 1,kI 0,kI 0,kI 3,.ref 15,.bool true,kI 181,.ref 16,.none,.ref 17,.ref 18,.ref 19,kI 193,kI 2] 194),
  (28,kF "is_number_within" bO (.none) EQ 27),
  (27,kC "is_number_within" 196 [kI 4,kI 3,kI 0,kI 0,kI 3,.ref 22,.bool true,kI 181,.ref 23,.none,.ref 24,.ref 25,.ref 26,kI 202,kI 4] 203),
  (35,kF "is_row_of" gn (.none) EQ 34),
  (34,kC "is_row_of" 205 [kI 6,kI 2,kI 0,kI 0,kI 3,.ref 29,.bool true,kI 181,.ref 30,.none,.ref 31,.ref 32,.ref 33,kI 210,kI 6] 211),
  (45,kF "things_of" dk (.none) Aj 44),
  (44,kC "things_of" 216 [kI 10,kI 2,kI 0,kI 0,kI 3,.ref 39,.bool true,kI 181,.ref 40,.none,.ref 41,.ref 42,.ref 43,kI 221,kI 10] 222),
  (50,kF "many_asks" eu (.none) Aj 49),
  (49,kC "many_asks" 224 [kI 12,kI 3,kI 0,kI 0,kI 3,.ref 46,.bool true,kI 181,.ref 47,.none,.none,.none,.ref 48,kI 227,kI 12] 228),
  (57,kF "bears_one_more" cx (.none) Aj 56),
  (56,kC "bears_one_more" 230 [kI 14,kI 3,kI 0,kI 0,kI 3,.ref 51,.bool true,kI 181,.ref 52,.none,.ref 53,.ref 54,.ref 55,kI 238,kI 14] 239),
  (62,kF "may_ask" g_ (.none) Aj 61),
  (61,kC "may_ask" 241 [kI 17,kI 3,kI 0,kI 0,kI 3,.ref 58,.bool true,kI 181,.ref 59,.none,.none,.none,.ref 60,kI 244,kI 17] 245),
  (69,kF "stand_behind" dj (.none) Aj 68),
  (68,kC "stand_behind" 247 [kI 22,kI 4,kI 0,kI 0,kI 3,.ref 63,.bool true,kI 181,.ref 64,.none,.ref 65,.ref 66,.ref 67,kI 256,kI 22] 257),
  (76,kF "is_link" jd (.none) xO 75),
  (75,kC "is_link" 266 [kI 30,kI 3,kI 0,kI 0,kI 3,.ref 70,.bool true,kI 181,.ref 71,.none,.ref 72,.ref 73,.ref 74,kI 272,kI 30] 273),
  (83,kF "is_node" je (.none) xO 82),
  (82,kC "is_node" 275 [kI 32,kI 4,kI 0,kI 0,kI 3,.ref 77,.bool true,kI 181,.ref 78,.none,.ref 79,.ref 80,.ref 81,kI 285,kI 32] 286),
  (88,kF "is_told_once" cz (.none) xO 87),
  (87,kC "is_told_once" 288 [kI 37,kI 1,kI 0,kI 0,kI 3,.ref 84,.bool true,kI 181,.ref 85,.none,.none,.none,.ref 86,kI 291,kI 37] 292),
  (93,kF "is_tree_form" cA (.none) xO 92),
  (92,kC "is_tree_form" 294 [kI 40,kI 2,kI 0,kI 0,kI 3,.ref 89,.bool true,kI 181,.ref 90,.none,.none,.none,.ref 91,kI 297,kI 40] 298),
  (98,kF "is_tree" gZ (.none) xO 97),
  (97,kC "is_tree" 300 [kI 46,kI 2,kI 0,kI 0,kI 3,.ref 94,.bool true,kI 181,.ref 95,.none,.none,.none,.ref 96,kI 303,kI 46] 304),
  (103,kF "stands_of" ey (.none) xO 102),
  (102,kC "stands_of" 306 [kI 50,kI 2,kI 0,kI 0,kI 3,.ref 99,.bool true,kI 181,.ref 100,.none,.none,.none,.ref 101,kI 309,kI 50] 310),
  (110,kF "_law_mixed" mz (.none) gv 109),
  (109,kC "_law_mixed" 314 [kI 58,kI 2,kI 0,kI 0,kI 3,.ref 104,.bool true,kI 181,.ref 105,.none,.ref 106,.ref 107,.ref 108,kI 320,kI 58] 321),
  (117,kF "_law_draws" mx (.none) gv 116),
  (116,kC "_law_draws" 323 [kI 61,kI 1,kI 0,kI 0,kI 3,.ref 111,.bool true,kI 181,.ref 112,.none,.ref 113,.ref 114,.ref 115,kI 331,kI 61] 332),
  (124,kF "_law_next" iR (.none) gv 123),
  (123,kC "_law_next" 334 [kI 74,kI 1,kI 0,kI 0,kI 3,.ref 118,.bool true,kI 181,.ref 119,.none,.ref 120,.ref 121,.ref 122,kI 338,kI 74] 339),
  (131,kF "_law_gcd" tS (.none) gv 130),
  (130,kC "_law_gcd" 341 [kI 78,kI 2,kI 0,kI 0,kI 3,.ref 125,.bool true,kI 181,.ref 126,.none,.ref 127,.ref 128,.ref 129,kI 346,kI 78] 347),
  (138,kF "_law_low" tT (.none) gv 137),
  (137,kC "_law_low" 349 [kI 82,kI 2,kI 0,kI 0,kI 3,.ref 132,.bool true,kI 181,.ref 133,.none,.ref 134,.ref 135,.ref 136,kI 355,kI 82] 356),
  (145,kF "_law_says" pM (.none) gv 144),
  (144,kC "_law_says" 358 [kI 85,kI 2,kI 0,kI 0,kI 3,.ref 139,.bool true,kI 181,.ref 140,.none,.ref 141,.ref 142,.ref 143,kI 363,kI 85] 364),
  (152,kF "_law_chance" kG (.none) gv 151),
  (151,kC "_law_chance" 366 [kI 89,kI 2,kI 0,kI 0,kI 3,.ref 146,.bool true,kI 181,.ref 147,.none,.ref 148,.ref 149,.ref 150,kI 372,kI 89] 373),
  (159,kF "_law_worth" mB (.none) gv 158),
  (158,kC "_law_worth" 375 [kI 99,kI 2,kI 0,kI 0,kI 3,.ref 153,.bool true,kI 181,.ref 154,.none,.ref 155,.ref 156,.ref 157,kI 380,kI 99] 381),
  (166,kF "_law_ties" pN (.none) gv 165),
  (165,kC "_law_ties" 383 [kI 101,kI 3,kI 0,kI 0,kI 3,.ref 160,.bool true,kI 181,.ref 161,.none,.ref 162,.ref 163,.ref 164,kI 399,kI 101] 400),
  (173,kF "_law_web" tU (.none) gv 172),
  (172,kC "_law_web" 402 [kI 116,kI 3,kI 0,kI 0,kI 3,.ref 167,.bool true,kI 181,.ref 168,.none,.ref 169,.ref 170,.ref 171,kI 415,kI 116] 416),
  (180,kF "_law_enough" kJ (.none) gv 179),
  (179,kC "_law_enough" 418 [kI 126,kI 1,kI 0,kI 0,kI 3,.ref 174,.bool true,kI 181,.ref 175,.none,.ref 176,.ref 177,.ref 178,kI 426,kI 126] 427),
  (185,kF "_law_asks_of" fm (.none) gv 184),
  (184,kC "_law_asks_of" 429 [kI 129,kI 3,kI 0,kI 0,kI 3,.ref 181,.bool true,kI 181,.ref 182,.none,.none,.none,.ref 183,kI 432,kI 129] 433),
  (192,kF "_law_may" qW (.none) gv 191),
  (191,kC "_law_may" 435 [kI 131,kI 3,kI 0,kI 0,kI 3,.ref 186,.bool true,kI 181,.ref 187,.none,.ref 188,.ref 189,.ref 190,kI 444,kI 131] 445),
  (199,kF "_law_behind" ja (.none) gv 198),
  (198,kC "_law_behind" 447 [kI 139,kI 4,kI 0,kI 0,kI 3,.ref 193,.bool true,kI 181,.ref 194,.none,.ref 195,.ref 196,.ref 197,kI 457,kI 139] 458),
  (204,kF "_law_askable" gY (.none) gv 203),
  (203,kC "_law_askable" 460 [kI 145,kI 2,kI 0,kI 0,kI 3,.ref 200,.bool true,kI 181,.ref 201,.none,.none,.none,.ref 202,kI 463,kI 145] 464),
  (209,kF "_law_grown" k8 (.none) gv 208),
  (208,kC "_law_grown" 466 [kI 147,kI 3,kI 0,kI 0,kI 3,.ref 205,.bool true,kI 181,.ref 206,.none,.none,.none,.ref 207,kI 469,kI 147] 470),
  (216,kF "_law_is_tie" kL (.none) gv 215),
  (215,kC "_law_is_tie" 472 [kI 162,kI 2,kI 0,kI 0,kI 3,.ref 210,.bool true,kI 181,.ref 211,.none,.ref 212,.ref 213,.ref 214,kI 477,kI 162] 478),
  (223,kF "_law_are_links" gh (.none) gv 222),
  (222,kC "_law_are_links" 480 [kI 164,kI 3,kI 0,kI 0,kI 3,.ref 217,.bool true,kI 181,.ref 218,.none,.ref 219,.ref 220,.ref 221,kI 487,kI 164] 488),
  (230,kF "_law_are_nodes" gj (.none) gv 229),
  (229,kC "_law_are_nodes" 490 [kI 171,kI 2,kI 0,kI 0,kI 3,.ref 224,.bool true,kI 181,.ref 225,.none,.ref 226,.ref 227,.ref 228,kI 499,kI 171] 500),
  (237,kF "_law_stands" jc (.none) gv 236),
  (236,kC "_law_stands" 502 [kI 184,kI 2,kI 0,kI 0,kI 3,.ref 231,.bool true,kI 181,.ref 232,.none,.ref 233,.ref 234,.ref 235,kI 512,kI 184] 513),
  (244,kF "_law_is_tree" jb (.none) gv 243),
  (243,kC "_law_is_tree" 515 [kI 191,kI 2,kI 0,kI 0,kI 3,.ref 238,.bool true,kI 181,.ref 239,.none,.ref 240,.ref 241,.ref 242,kI 522,kI 191] 523),
  (249,kF "_law_renumbered" cH (.none) gv 248),
  (248,kC "_law_renumbered" 525 [kI 198,kI 2,kI 0,kI 0,kI 3,.ref 245,.bool true,kI 181,.ref 246,.none,.none,.none,.ref 247,kI 528,kI 198] 529),
  (256,kF "_law_most_asked" eN (.none) gv 255),
  (255,kC "_law_most_asked" 531 [kI 208,kI 3,kI 0,kI 0,kI 3,.ref 250,.bool true,kI 181,.ref 251,.none,.ref 252,.ref 253,.ref 254,kI 542,kI 208] 543),
  (261,kF "_law_other_webs" dD (.none) gv 260),
  (260,kC "_law_other_webs" 545 [kI 217,kI 3,kI 0,kI 0,kI 3,.ref 257,.bool true,kI 181,.ref 258,.none,.none,.none,.ref 259,kI 548,kI 217] 549),
  (268,kF "law" pP (.none) gv 267),
  (267,kC "law" 551 [kI 234,kI 1,kI 0,kI 0,kI 3,.ref 262,.bool true,kI 181,.ref 263,.none,.ref 264,.ref 265,.ref 266,kI 560,kI 234] 561),
  (38,kT [.ref 36,.ref 37] 0),
  (36,kT [] 0),
  (37,kT [] 0)]
def kA:List Addr:=[3,21,20,28,27,35,34,45,44,50,49,57,56,62,61,69,68,76,75,83,82,88,87,93,92,98,97,103,102,110,109,117,116,124,123,131,130,138,137,145,144,152,151,159,158,166,165,173,172,180,179,185,184,192,191,199,198,204,203,209,208,216,215,223,222,230,229,237,236,244,243,249,248,256,255,261,260,268,267,38,36,37]
def kq:Program:={PySem.Challenge.pw_askedpairs_k14_trees_in_other_webs with main:={PySem.Challenge.pw_askedpairs_k14_trees_in_other_webs.main with body:=[top 1,top 2,top 3,top 5,top 6,top 7,top 8,top 9,top 10,top 12,top 13,top 14,top 15,top 16,top 17,top 18,top 19,top 21,top 22,top 23,top 24,top 25,top 26,top 27,top 28,top 29,top 30,top 31,top 32,top 33,top 34,top 35,top 36,top 37,top 38,top 39,top 40,top 41,top 42,top 43,top 44,top 45]}}
def kH:W.Hook:=W.kHook kK kA (fun _=>by kernel_rfl)
theorem left:W.LeftO PySem.Challenge.pw_askedpairs_k14_trees_in_other_webs kq [] (fun s=>W.xlAt kq [] s&&W.recOk (W.RowW.records (W.OpenRow.toRowW (W.OpenLaw.row PySem.Challenge.rw_askedpairs_k14_trees_in_other_webs))) s) (W.Hook.obs kH) (W.Hook.val kH) 2668:=fun w=>by kernel_rfl
theorem ER{P:List Value→Prop}(h:∀a0,P [a0]):∀us:List Value,us.length=1→P us:=fun us e=>match us,e with | [a0],_=>h a0
theorem tH{P:List Value→Prop}(h:∀a0 a1,P [a0,a1]):∀us:List Value,us.length=2→P us:=fun us e=>match us,e with | [a0,a1],_=>h a0 a1
theorem wX{P:List Value→Prop}(h:∀a0 a1 a2,P [a0,a1,a2]):∀us:List Value,us.length=3→P us:=fun us e=>match us,e with | [a0,a1,a2],_=>h a0 a1 a2
theorem G6{P:List Value→Prop}(h:∀a0 a1 a2 a3,P [a0,a1,a2,a3]):∀us:List Value,us.length=4→P us:=fun us e=>match us,e with | [a0,a1,a2,a3],_=>h a0 a1 a2 a3
theorem hm{w:World}{h:Heap}{mg:Str→Option Value}{n:Str}{s:Stmt}{a:Addr}{ps:List Str}(c:Addr)(d p:Value)(X:(kK w.params).In h)(G:h.Ns mainGlobals mg)
    (e:(W.nsIn (kK w.params) mainGlobals n,List.lookup a (kK w.params),W.codeIn (kK w.params) (.ref c) n,W.keepIn (kK w.params) (.ref a))=(some (some (.ref a)),some (kF n s d p c),true,true))
    (b:∀(kV doc pm:Value) (an:Option Addr) (cdv ct:Value) (us:List Value),us.length=ps.length→bindArgs (W.fnOf n n (eE s) (dr s) (am s) .none kV doc pm an cdv ct) ⟨us,[]⟩=pure (ps.zip us)):
    a' (kK w.params) mg n s a (W.fnOf n n (eE s) (dr s) (am s) .none .none d p none (.ref c) .none) ps:=Df X G (congrArg (·.1) e) (congrArg (·.2.1) e) (congrArg (·.2.2.1) e) (congrArg (·.2.2.2) e) b
theorem all_mk{l:W.OpenLaw}{w:World}{h:Heap}{mg:Str→Option Value}{fa:Addr}(X:(kK w.params).In h)(G:h.Ns mainGlobals mg)(hfa:mg "law"=some (.ref fa)):
    ∃fd:FuncData,(∀(s:Shared) (v:Value),BindsTo s fd ⟨[v],[]⟩ [("_law_script",v)])∧∀base:Heap,(kK w.params).In base→base.Ns mainGlobals mg→aJ l.prog w (kK w.params) mg base bG 6 fa fd ["_law_script"] (bL (kK w.params) 1 pC):=by
  have e:=hfa.symm.trans (W.mg_of X G (show W.nsIn (kK w.params) mainGlobals "law"=some (some (.ref 268)) by kernel_rfl))
  cases e
  have T:ji mg:=⟨W.mg_none_of X G (show W.nsIn (kK w.params) mainGlobals "abs"=some none by kernel_rfl),W.mg_none_of X G (show W.nsIn (kK w.params) mainGlobals "len"=some none by kernel_rfl),W.mg_none_of X G (show W.nsIn (kK w.params) mainGlobals "min"=some none by kernel_rfl),W.mg_none_of X G (show W.nsIn (kK w.params) mainGlobals "max"=some none by kernel_rfl),W.mg_none_of X G (show W.nsIn (kK w.params) mainGlobals "range"=some none by kernel_rfl),W.mg_none_of X G (show W.nsIn (kK w.params) mainGlobals "tuple"=some none by kernel_rfl),W.mg_none_of X G (show W.nsIn (kK w.params) mainGlobals "int"=some none by kernel_rfl),W.mg_none_of X G (show W.nsIn (kK w.params) mainGlobals "sorted"=some none by kernel_rfl),W.mg_none_of X G (show W.nsIn (kK w.params) mainGlobals "zip"=some none by kernel_rfl),W.mg_none_of X G (show W.nsIn (kK w.params) mainGlobals "enumerate"=some none by kernel_rfl),W.mg_none_of X G (show W.nsIn (kK w.params) mainGlobals "isinstance"=some none by kernel_rfl),W.mg_none_of X G (show W.nsIn (kK w.params) mainGlobals "bool"=some none by kernel_rfl),W.mg_none_of X G (show W.nsIn (kK w.params) mainGlobals "all"=some none by kernel_rfl),W.mg_none_of X G (show W.nsIn (kK w.params) mainGlobals "list"=some none by kernel_rfl)⟩
  have Ih:a' (kK w.params) mg "is_number" et 21 _ ["thing"]:=hm 20 (.none) EQ X G (by kernel_rfl) fun _ _ _ _ _ _=>ER fun _=>rfl
  have Ib:a' (kK w.params) mg "is_number_within" bO 28 _ ["thing","low","high"]:=hm 27 (.none) EQ X G (by kernel_rfl) fun _ _ _ _ _ _=>wX fun _ _ _=>rfl
  have IK:a' (kK w.params) mg "is_row_of" gn 35 _ ["thing","many"]:=hm 34 (.none) EQ X G (by kernel_rfl) fun _ _ _ _ _ _=>tH fun _ _=>rfl
  have H_:a' (kK w.params) mg "things_of" dk 45 _ ["web","tie"]:=hm 44 (.none) Aj X G (by kernel_rfl) fun _ _ _ _ _ _=>tH fun _ _=>rfl
  have IJ:a' (kK w.params) mg "many_asks" eu 50 _ ["web","asked","thing"]:=hm 49 (.none) Aj X G (by kernel_rfl) fun _ _ _ _ _ _=>wX fun _ _ _=>rfl
  have Ig:a' (kK w.params) mg "bears_one_more" cx 57 _ ["web","stand","thing"]:=hm 56 (.none) Aj X G (by kernel_rfl) fun _ _ _ _ _ _=>wX fun _ _ _=>rfl
  have Jn:a' (kK w.params) mg "may_ask" g_ 62 _ ["web","stand","tie"]:=hm 61 (.none) Aj X G (by kernel_rfl) fun _ _ _ _ _ _=>wX fun _ _ _=>rfl
  have Il:a' (kK w.params) mg "stand_behind" dj 69 _ ["web","stand","tie","truth"]:=hm 68 (.none) Aj X G (by kernel_rfl) fun _ _ _ _ _ _=>G6 fun _ _ _ _=>rfl
  have IU:a' (kK w.params) mg "is_link" jd 76 _ ["thing","at","many"]:=hm 75 (.none) xO X G (by kernel_rfl) fun _ _ _ _ _ _=>wX fun _ _ _=>rfl
  have Jm:a' (kK w.params) mg "is_node" je 83 _ ["web","thing","at","many"]:=hm 82 (.none) xO X G (by kernel_rfl) fun _ _ _ _ _ _=>G6 fun _ _ _ _=>rfl
  have Ik:a' (kK w.params) mg "is_told_once" cz 88 _ ["tree"]:=hm 87 (.none) xO X G (by kernel_rfl) fun _ _ _ _ _ _=>ER fun _=>rfl
  have Im:a' (kK w.params) mg "is_tree_form" cA 93 _ ["web","thing"]:=hm 92 (.none) xO X G (by kernel_rfl) fun _ _ _ _ _ _=>tH fun _ _=>rfl
  have IZ:a' (kK w.params) mg "is_tree" gZ 98 _ ["web","thing"]:=hm 97 (.none) xO X G (by kernel_rfl) fun _ _ _ _ _ _=>tH fun _ _=>rfl
  have IL:a' (kK w.params) mg "stands_of" ey 103 _ ["web","tree"]:=hm 102 (.none) xO X G (by kernel_rfl) fun _ _ _ _ _ _=>tH fun _ _=>rfl
  have JM:a' (kK w.params) mg "_law_mixed" mz 110 _ ["_law_cell","_law_k"]:=hm 109 (.none) gv X G (by kernel_rfl) fun _ _ _ _ _ _=>tH fun _ _=>rfl
  have JW:a' (kK w.params) mg "_law_draws" mx 117 _ ["_law_script"]:=hm 116 (.none) gv X G (by kernel_rfl) fun _ _ _ _ _ _=>ER fun _=>rfl
  have HY:a' (kK w.params) mg "_law_next" iR 124 _ ["_law_drawn"]:=hm 123 (.none) gv X G (by kernel_rfl) fun _ _ _ _ _ _=>ER fun _=>rfl
  have KA:a' (kK w.params) mg "_law_gcd" tS 131 _ ["_law_one","_law_other"]:=hm 130 (.none) gv X G (by kernel_rfl) fun _ _ _ _ _ _=>tH fun _ _=>rfl
  have Kp:a' (kK w.params) mg "_law_low" tT 138 _ ["_law_top","_law_bottom"]:=hm 137 (.none) gv X G (by kernel_rfl) fun _ _ _ _ _ _=>tH fun _ _=>rfl
  have Kl:a' (kK w.params) mg "_law_says" pM 145 _ ["_law_found","_law_due"]:=hm 144 (.none) gv X G (by kernel_rfl) fun _ _ _ _ _ _=>tH fun _ _=>rfl
  have JB:a' (kK w.params) mg "_law_chance" kG 152 _ ["_law_number","_law_kind"]:=hm 151 (.none) gv X G (by kernel_rfl) fun _ _ _ _ _ _=>tH fun _ _=>rfl
  have JU:a' (kK w.params) mg "_law_worth" mB 159 _ ["_law_number","_law_kind"]:=hm 158 (.none) gv X G (by kernel_rfl) fun _ _ _ _ _ _=>tH fun _ _=>rfl
  have Kg:a' (kK w.params) mg "_law_ties" pN 166 _ ["_law_drawn","_law_things","_law_many"]:=hm 165 (.none) gv X G (by kernel_rfl) fun _ _ _ _ _ _=>wX fun _ _ _=>rfl
  have KC:a' (kK w.params) mg "_law_web" tU 173 _ ["_law_drawn","_law_most","_law_ties_here"]:=hm 172 (.none) gv X G (by kernel_rfl) fun _ _ _ _ _ _=>wX fun _ _ _=>rfl
  have JD:a' (kK w.params) mg "_law_enough" kJ 180 _ ["_law_web_here"]:=hm 179 (.none) gv X G (by kernel_rfl) fun _ _ _ _ _ _=>ER fun _=>rfl
  have Iy:a' (kK w.params) mg "_law_asks_of" fm 185 _ ["_law_web_here","_law_asked","_law_thing"]:=hm 184 (.none) gv X G (by kernel_rfl) fun _ _ _ _ _ _=>wX fun _ _ _=>rfl
  have Kb:a' (kK w.params) mg "_law_may" qW 192 _ ["_law_web_here","_law_stand","_law_tie"]:=hm 191 (.none) gv X G (by kernel_rfl) fun _ _ _ _ _ _=>wX fun _ _ _=>rfl
  have IB:a' (kK w.params) mg "_law_behind" ja 199 _ ["_law_web_here","_law_stand","_law_tie","_law_truth"]:=hm 198 (.none) gv X G (by kernel_rfl) fun _ _ _ _ _ _=>G6 fun _ _ _ _=>rfl
  have Jo:a' (kK w.params) mg "_law_askable" gY 204 _ ["_law_web_here","_law_stand"]:=hm 203 (.none) gv X G (by kernel_rfl) fun _ _ _ _ _ _=>tH fun _ _=>rfl
  have JY:a' (kK w.params) mg "_law_grown" k8 209 _ ["_law_drawn","_law_web_here","_law_most"]:=hm 208 (.none) gv X G (by kernel_rfl) fun _ _ _ _ _ _=>wX fun _ _ _=>rfl
  have JC:a' (kK w.params) mg "_law_is_tie" kL 216 _ ["_law_web_here","_law_thing"]:=hm 215 (.none) gv X G (by kernel_rfl) fun _ _ _ _ _ _=>tH fun _ _=>rfl
  have IP:a' (kK w.params) mg "_law_are_links" gh 223 _ ["_law_thing","_law_at","_law_many"]:=hm 222 (.none) gv X G (by kernel_rfl) fun _ _ _ _ _ _=>wX fun _ _ _=>rfl
  have IQ:a' (kK w.params) mg "_law_are_nodes" gj 230 _ ["_law_web_here","_law_thing"]:=hm 229 (.none) gv X G (by kernel_rfl) fun _ _ _ _ _ _=>tH fun _ _=>rfl
  have IR:a' (kK w.params) mg "_law_stands" jc 237 _ ["_law_web_here","_law_tree"]:=hm 236 (.none) gv X G (by kernel_rfl) fun _ _ _ _ _ _=>tH fun _ _=>rfl
  have I0:a' (kK w.params) mg "_law_is_tree" jb 244 _ ["_law_web_here","_law_thing"]:=hm 243 (.none) gv X G (by kernel_rfl) fun _ _ _ _ _ _=>tH fun _ _=>rfl
  have ID:a' (kK w.params) mg "_law_renumbered" cH 249 _ ["_law_drawn","_law_tree"]:=hm 248 (.none) gv X G (by kernel_rfl) fun _ _ _ _ _ _=>tH fun _ _=>rfl
  have Iq:a' (kK w.params) mg "_law_most_asked" eN 256 _ ["_law_web_here","_law_tree","_law_thing"]:=hm 255 (.none) gv X G (by kernel_rfl) fun _ _ _ _ _ _=>wX fun _ _ _=>rfl
  have IE:a' (kK w.params) mg "_law_other_webs" dD 261 _ ["_law_drawn","_law_web_here","_law_tree"]:=hm 260 (.none) gv X G (by kernel_rfl) fun _ _ _ _ _ _=>wX fun _ _ _=>rfl
  have KR:a' (kK w.params) mg "law" pP 268 _ ["_law_script"]:=hm 267 (.none) gv X G (by kernel_rfl) fun _ _ _ _ _ _=>ER fun _=>rfl
  have lG_38:List.lookup 38 (kK w.params)=some (kT [.ref 36,.ref 37] 0):=by kernel_rfl
  have lG_36:List.lookup 36 (kK w.params)=some (kT [] 0):=by kernel_rfl
  have lG_37:List.lookup 37 (kK w.params)=some (kT [] 0):=by kernel_rfl
  have m_FIRST_STAND:=W.mg_of X G (show W.nsIn (kK w.params) mainGlobals "FIRST_STAND"=some (some (.ref 38)) by kernel_rfl)
  have c_FIRST_STAND:∀F,DA (kK w.params) F (.tuple [.tuple [],.tuple []]) (.ref 38):=fun F=>by simp only [DA,aS];exact⟨38,[V.ref 36,V.ref 37],rfl,.inr ⟨_,_,_,lG_38,rfl,rfl,rfl,(by show 2≤sizeLine;decide),(.cons rfl (.cons rfl .nil))⟩,⟨_,_,rfl,⟨36,[],rfl,.inr ⟨_,_,_,lG_36,rfl,rfl,rfl,(by show 0≤sizeLine;decide),.nil⟩,rfl⟩,⟨_,_,rfl,⟨37,[],rfl,.inr ⟨_,_,_,lG_37,rfl,rfl,rfl,(by show 0≤sizeLine;decide),.nil⟩,rfl⟩,rfl⟩⟩⟩
  have m_MOST_NODES:=W.mg_of X G (show W.nsIn (kK w.params) mainGlobals "MOST_NODES"=some (some (.int (300) 261)) by kernel_rfl)
  have m_END:=W.mg_of X G (show W.nsIn (kK w.params) mainGlobals "END"=some (some (.int (-1) 264)) by kernel_rfl)
  refine⟨W.fnOf "law" "law" (eE pP) (dr pP) (am pP) .none .none (.none) gv none (.ref 267) .none,fun s v=>.of_eq rfl,fun base _ _=>?_⟩
  have Ij:=r9 (P:=l.prog) (w:=w) (base:=base) Ih T
  have Ii:=lh (P:=l.prog) (w:=w) (base:=base) Ib T Ih Ij
  have Jh:=r_ (P:=l.prog) (w:=w) (base:=base) IK T
  have Ia:=si (P:=l.prog) (w:=w) (base:=base) H_ T
  have Jg:=sd (P:=l.prog) (w:=w) (base:=base) IJ T H_ Ia
  have Ir:=mh (P:=l.prog) (w:=w) (base:=base) Ig T IJ Jg
  have JJ:=uX (P:=l.prog) (w:=w) (base:=base) Jn T Ig Ir H_ Ia
  have IG:=oz (P:=l.prog) (w:=w) (base:=base) Il T H_ Ia
  have Jl:=uU (P:=l.prog) (w:=w) (base:=base) IU T Ih Ij m_END
  have JI:=uV (P:=l.prog) (w:=w) (base:=base) Jm T IK Jh Ib Ii IU Jl
  have IF:=ou (P:=l.prog) (w:=w) (base:=base) Ik T m_END
  have IH:=ox (P:=l.prog) (w:=w) (base:=base) Im T Ik IF Jm JI m_MOST_NODES
  have Ji:=se (P:=l.prog) (w:=w) (base:=base) IL T Il IG m_FIRST_STAND c_FIRST_STAND m_END
  have Jt:=uW (P:=l.prog) (w:=w) (base:=base) IZ T Im IH Jn JJ IL Ji
  have JS:=yO (P:=l.prog) (w:=w) (base:=base) JM T
  have Kc:=yM (P:=l.prog) (w:=w) (base:=base) JW T JM JS
  have HZ:=A8 (P:=l.prog) (w:=w) (base:=base) HY T
  have KI:=Dw (P:=l.prog) (w:=w) (base:=base) KA T
  have KB:=Dx (P:=l.prog) (w:=w) (base:=base) Kp T KA KI
  have Kz:=A9 (P:=l.prog) (w:=w) (base:=base) Kl T
  have JT:=xg (P:=l.prog) (w:=w) (base:=base) JB T Kp KB
  have Ka:=yP (P:=l.prog) (w:=w) (base:=base) JU T
  have Ks:=A_ (P:=l.prog) (w:=w) (base:=base) Kg T HY HZ JB JT JU Ka
  have KJ:=Dz (P:=l.prog) (w:=w) (base:=base) KC T Kg Ks HY HZ
  have JX:=xh (P:=l.prog) (w:=w) (base:=base) JD T
  have II:=uS (P:=l.prog) (w:=w) (base:=base) Iy T
  have Km:=Dy (P:=l.prog) (w:=w) (base:=base) Kb T Iy II
  have IM:=xf (P:=l.prog) (w:=w) (base:=base) IB T
  have JN:=uR (P:=l.prog) (w:=w) (base:=base) Jo T Kb Km
  have Kd:=yN (P:=l.prog) (w:=w) (base:=base) JY T Jo JN HY HZ IB IM
  have JV:=xi (P:=l.prog) (w:=w) (base:=base) JC T
  have Jj:=r6 (P:=l.prog) (w:=w) (base:=base) IP T
  have Jk:=r8 (P:=l.prog) (w:=w) (base:=base) IQ T IP Jj JC JV
  have I_:=xj (P:=l.prog) (w:=w) (base:=base) IR T IB IM
  have Ju:=uT (P:=l.prog) (w:=w) (base:=base) I0 T IQ Jk IR I_ Kb Km
  have IX:=qg (P:=l.prog) (w:=w) (base:=base) ID T HY HZ
  have IC:=qe (P:=l.prog) (w:=w) (base:=base) Iq T IR I_ Iy II
  have IY:=qf (P:=l.prog) (w:=w) (base:=base) IE T Iq IC HY HZ
  have KS:=DB (P:=l.prog) (w:=w) (base:=base) KR T JW Kc KC KJ ID IX IE IY JD JX JY Kd IZ Jt I0 Ju Kl Kz HY HZ
  exact KS
def Ge(K:W.Frag):Sp:=fun vs H Q _=>∃(a:Addr) (ns:List Int),vs=[.ref a]∧gH K H a (ns.map V.int)∧ns.length≤63∧∀H',Q (.bl true) H'
theorem Do{K:W.Frag}{vs:List V}{H:Hp}{Q:VK}{E:XK}(h:Ge K vs H Q E):bL K 1 pC vs H Q E:=by
  obtain⟨a,ns,rfl,hS,hl,q⟩:=h
  obtain⟨as',hm⟩:=yw ns hl
  exact vh hS hm q
theorem walk{l:W.OpenLaw}{q:Program}{loose:List Str}{XP:(Str→Option Value)→Heap→Prop}{YP:World→Heap→Prop}{d:DefRec}{K:Params→W.Frag}(hn:l.most=some 63)(hdf:d.params.defaults=[])
    (hY:∀(w:World) (h:Heap),YP w h→(K w.params).In h)
    (F:∀(w:World) (mg:Str→Option Value) (fa:Addr) (h:Heap),(K w.params).In h→h.Ns mainGlobals mg→mg d.name=some (.ref fa)→
      ∃fd:FuncData,(∀(s:Shared) (u:Value),BindsTo s fd ⟨[u],[]⟩ [("_law_script",u)])∧∀base:Heap,(K w.params).In base→base.Ns mainGlobals mg→aJ l.prog w (K w.params) mg base bG 6 fa fd ["_law_script"] (bL (K w.params) 1 pC)):
    W.WalkO q loose XP YP l.row.toRowW d [] (fun f vs=>PySem.call f vs):=
  L2.walk_of (n:=63) (k:=6) (x:="_law_script") (CX:=fun _=>bG) (sp:=fun w=>bL (K w.params) 1 pC) hn (by decide) hdf ⟨rfl,by decide,by decide,rfl⟩ hY F (fun _ _ a ns hl _ hS=>Do ⟨a,ns,rfl,hS,hl,fun _=>rfl⟩) fun _ _ _ _ _ z=>z
end V14
open PySem PySem.W PyProof.Rows
set_option maxRecDepth 100000 in
set_option maxHeartbeats 0 in
theorem PySem.Challenge.cw_askedpairs_k14_trees_in_other_webs_holds : PySem.Challenge.rw_askedpairs_k14_trees_in_other_webs.Holds := by
  w_on;o_law
  refine holds_open (q:=V14.kq) (loose:=[]) (Xt:=fun s=>xlAt V14.kq [] s&&recOk (RowW.records (OpenRow.toRowW (OpenLaw.row PySem.Challenge.rw_askedpairs_k14_trees_in_other_webs))) s) (XP:=XL V14.kq []) (Yf:=Hook.obs V14.kH) (Ya:=Hook.val V14.kH) (YP:=Hook.says V14.kH) (N:=2668) V14.left (Hook.of V14.kH) (Hook.keeps V14.kH) (fun s e=>xl_of s (Bool.and_eq_true_iff.mp e).1) XL.keeps (by rfl) (by rfl) (by rfl) (fun s e=>recFacts_of (Bool.and_eq_true_iff.mp e).2) (by rfl) (by assumption) (by decide+kernel) ⟨rfl,rfl,rfl,rfl,rfl,by decide+kernel⟩ ?hw ?hc
  case hw=>w_witness2
  case hc=>exact V14.walk (l:=PySem.Challenge.rw_askedpairs_k14_trees_in_other_webs) rfl rfl (fun w h Y=>kIn_of Y) (fun w mg fa h KX G hmg=>V14.all_mk KX G hmg)
