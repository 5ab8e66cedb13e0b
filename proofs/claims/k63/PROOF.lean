import PyProof.Rows.All
import Wide.All
import OpenK.AllK
import Wide.FinOn
import Lean
import PyProof.EqAt
import PyProof.EqKinds
import PyProof.TupleCall
import PyProof.ReprRoads
import PyProof.IsInstance
import PyProof.IsInstanceH
import PyProof.FitsBits
import PyProof.CompFree
import PyProof.Rows.SumAny
import PyProof.Rows.SortShell
import PyProof.Rows.TupAdd
import PyProof.NeKinds
import PyProof.ConsumeWalk
import PyProof.ZipIter
import PyProof.TupleIter
import PyProof.LayNew
import PyProof.CollectWalk
import PyProof.ListNew
import PyProof.Draws
import PyProof.EnumFor
import PyProof.EnumMake
import PyProof.ListRange
import PyProof.CollectIter
import KE.KRevIter
import PyProof.ListMulRoad
import PyProof.TupleOps
import PyProof.TupleOfStr
import PyProof.WalksMore
import PyProof.FactsAll.range_iterator
import PyProof.IsRules
import PyProof.CompUse
import PyProof.P3In
import PyProof.EqLayable
import KE.KIsAll
import PyProof.Rows.FactsN_isinstance
import PyProof.CallStr
import PyProof.Rows.StrWeight2
import PyProof.Rows.FStr
import PyProof.StrLawsRepr
import PyProof.Rows.SetFrom
import KE.KIntText
import KE.KRevSl
import PyProof.Rows.SeqMore2
import PySem.Challenge.RW_askedpairs_k63_sides_told
set_option Elab.async false
set_option linter.all false
set_option maxRecDepth 100000
namespace L2
open PySem PySem.Spec PyProof.Rows
theorem L'{α:Type _}{β:Type _}{o:Option α}{f:α→Option β}{b:β}(h:o.bind f=some b):∃a,o=some a∧f a=some b:=Option.bind_eq_some_iff.mp h
theorem Ma{α:Type _}{β:Type _}{o:Option α}{f:α→β}{b:β}(h:o.map f=some b):∃a,o=some a∧f a=b:=Option.map_eq_some_iff.mp h
theorem Mb{α:Type _}{l:List α}{i:Nat}{a:α}(h:l[i]?=some a):∃w:i<l.length,l[i]=a:=List.getElem?_eq_some_iff.mp h
theorem Mc{α:Type _}{a:α}{s t:List α}(h:a∈s++t):a∈s∨a∈t:=List.mem_append.mp h
theorem Md{α:Type _}{β:Type _}{b:β}{f:α→β}{l:List α}(h:b∈l.map f):∃a,a∈l∧f a=b:=List.mem_map.mp h
theorem Me{α:Type _}{a b:α}{l:List α}(h:a∈b::l):a=b∨a∈l:=List.mem_cons.mp h
theorem Mf{α:Type _}{l:List α}{i:Nat}{a:α}(h:l[i]?=some a):a∈l:=List.mem_of_getElem? h
abbrev eP:=Sum Int Str
def oj:eP→Value→Bool
  | .inl k,v=>Value.isInt k v
  | .inr x,v=>Value.isStrOf x v
def IM(w:World):eP→Int
  | .inl k=>hashInt k
  | .inr x=>hashStr w x
theorem bF:∀{k:eP} {v:Value},oj k v=true→(∃i t,k=Sum.inl i∧v=Value.int i t)∨(∃x t,k=Sum.inr x∧v=Value.str x t)
  | .inl i,v,h=>by
    obtain⟨t,e⟩:=Value.isInt_shape (k:=i) (v:=v) h
    exact .inl ⟨i,t,rfl,e⟩
  | .inr x,v,h=>by
    obtain⟨t,e⟩:=Value.isStrOf_shape (x:=x) (v:=v) h
    exact .inr ⟨x,t,rfl,e⟩
theorem wZ(i:Int)(t:Tok):oj (.inl i) (.int i t)=true:=by simp [oj,Value.isInt]
theorem w_(x:Str)(t:Tok):oj (.inr x) (.str x t)=true:=by simp [oj,Value.isStrOf]
theorem Eg(a b:Int):decide ((Sum.inl a:eP)=Sum.inl b)=(a==b):=by
  by_cases e:a=b
  · subst e;simp
  · have h:¬(Sum.inl a:eP)=Sum.inl b:=fun q=>e (Sum.inl.inj q)
    rw [decide_eq_false h]
    exact(beq_eq_false_iff_ne.mpr e).symm
theorem Ej(a b:Str):decide ((Sum.inr a:eP)=Sum.inr b)=decide (a=b):=by
  by_cases e:a=b
  · subst e;simp
  · have h:¬(Sum.inr a:eP)=Sum.inr b:=fun q=>e (Sum.inr.inj q)
    rw [decide_eq_false h,decide_eq_false e]
theorem Eh(a:Int)(b:Str):decide ((Sum.inl a:eP)=Sum.inr b)=false:=decide_eq_false (fun q=>nomatch q)
theorem Ei(a:Str)(b:Int):decide ((Sum.inr a:eP)=Sum.inl b)=false:=decide_eq_false (fun q=>nomatch q)
def cZ(prog:Program)(w:World):PySem.KeyKind prog w eP where
  is:=oj
  hash:=IM w
  inj:=fun v a b ha hb=>by
    rcases bF ha with ⟨i,t,rfl,rfl⟩ | ⟨x,t,rfl,rfl⟩
    · rcases bF hb with ⟨j,u,rfl,e⟩ | ⟨y,u,rfl,e⟩
      · injection e with e1 _;rw [e1]
      · exact nomatch e
    · rcases bF hb with ⟨j,u,rfl,e⟩ | ⟨y,u,rfl,e⟩
      · exact nomatch e
      · injection e with e1 _;rw [e1]
  byValue:=fun k v h=>by
    rcases bF h with ⟨i,t,rfl,rfl⟩ | ⟨x,t,rfl,rfl⟩<;>rfl
  pyHash:=fun hv h=>by
    rcases bF hv with ⟨i,t,rfl,rfl⟩ | ⟨x,t,rfl,rfl⟩
    · exact wpAny_pyHash_int h
    · exact wpAny_pyHash_str h
  eqBool:=fun hu hv h=>by
    rcases bF hu with ⟨i,t,rfl,rfl⟩ | ⟨x,t,rfl,rfl⟩
    · rcases bF hv with ⟨j,u,rfl,rfl⟩ | ⟨y,u,rfl,rfl⟩
      · rw [Eg] at h;exact wpAny_eqBool_int h
      · rw [Eh] at h;exact SeqAt.EqAt.int_str i t y u _ _ _ _ h
    · rcases bF hv with ⟨j,u,rfl,rfl⟩ | ⟨y,u,rfl,rfl⟩
      · rw [Ei] at h;exact SeqAt.EqAt.str_int x t j u _ _ _ _ h
      · rw [Ej] at h;exact wpAny_eqBool_str h
  «strs»:=fun k x t v h=>by
    rcases bF h with ⟨i,u,rfl,e⟩ | ⟨y,u,rfl,e⟩
    · exact nomatch e
    · injection e with e1 _
      subst e1
      cases v<;>rfl
theorem sT(prog:Program)(w:World)(i:Int)(t:Tok):(cZ prog w).is (.inl i) (.int i t)=true:=wZ i t
theorem sU(prog:Program)(w:World)(x:Str)(t:Tok):(cZ prog w).is (.inr x) (.str x t)=true:=w_ x t
inductive V where
  | non | bl (b:Bool) | int (i:Int) | str (x:Str) | byt (b:Array UInt8) | flt (b:UInt64) | ref (a:Addr) | ty (n:String)
  deriving DecidableEq
def a9:V→Value→Prop
  | .non,u=>u=Value.none
  | .bl b,u=>u=Value.bool b
  | .int i,u=>∃t,u=Value.int i t
  | .str x,u=>∃t,u=Value.str x t
  | .byt b,u=>∃t,u=Value.bytes b t
  | .flt b,u=>∃t,u=Value.float b t
  | .ref a,u=>u=Value.ref a
  | .ty n,u=>u=Value.type n
abbrev aJ:List V→List Value→Prop:=Paired a9
theorem aJ.length{xs:List V}{us:List Value}(r:aJ xs us):xs.length=us.length:=Paired.length r
theorem aJ.get:∀{xs:List V} {us:List Value} {i:Nat} {x:V},aJ xs us→xs[i]?=some x→∃u,us[i]?=some u∧a9 x u
  | _,_,_,_,.nil,e=>by simp at e
  | _,_,0,_,.cons r _,e=>by simp at e;subst e;exact⟨_,rfl,r⟩
  | _,_,i+1,x,.cons _ t,e=>by
    obtain⟨u,h1,h2⟩:=aJ.get (i:=i) (x:=x) t (by simpa using e)
    exact⟨u,by simpa using h1,h2⟩
theorem aJ.set{x:V}{u:Value}(r:a9 x u):∀{xs:List V} {us:List Value} (i:Nat),aJ xs us→aJ (xs.set i x) (us.set i u)
  | _,_,_,.nil=>.nil
  | _,_,0,.cons _ t=>.cons r t
  | _,_,i+1,.cons q t=>.cons q (aJ.set r i t)
theorem aJ.append:∀{xs ys:List V} {us ws:List Value},aJ xs us→aJ ys ws→aJ (xs++ys) (us++ws)
  | _,_,_,_,.nil,s=>s
  | _,_,_,_,.cons r t,s=>.cons r (aJ.append t s)
theorem aJ.take:∀{xs:List V} {us:List Value} (n:Nat),aJ xs us→aJ (xs.take n) (us.take n)
  | _,_,0,_=>.nil
  | _,_,_+1,.nil=>.nil
  | _,_,n+1,.cons r t=>.cons r (aJ.take n t)
theorem aJ.drop:∀{xs:List V} {us:List Value} (n:Nat),aJ xs us→aJ (xs.drop n) (us.drop n)
  | _,_,0,r=>r
  | _,_,_+1,.nil=>.nil
  | _,_,n+1,.cons _ t=>aJ.drop n t
def o5:Option V→Option Value→Prop
  | some v,some u=>a9 v u
  | none,none=>True
  | _,_=>False
def KV{κ:Type}:List (κ × V)→List (κ × Value)→Prop:=Paired fun(p:κ × V) (q:κ × Value)=>p.1=q.1∧a9 p.2 q.2
def kV:eP→V
  | .inl i=>.int i
  | .inr x=>.str x
inductive HO where
  /-- a list -/
  | lst (xs:List V)
  /-- a tuple (never changes) -/
  | tup (xs:List V)
  /-- a dict whose keys are ints and texts; one whose keys are tuples of ints and texts (the empty one is both) -/
  | dK (kvs:List (eP × V)) | dT (kvs:List (List eP × V))
  /-- a set of ints: its members, its size -/
  | set (S:Int→Bool) (n:Nat)
  /-- an instance of the class at C, its dict at dx, its attributes -/
  | ins (C dx:Addr) (fs:List (Str × V))
  /-- the dict of the instance at x -/
  | own (x:Addr)
  /-- the dict of an exception -/
  | xd (fs:List (Str × V))
  /-- a bound method, f of x -/
  | met (f x:Addr)
  /-- a range object lo, lo + 1, .. below hi -/
  | rng (lo hi:Int)
  /-- a thing that is known to the object (the script; a dict while a loop walks it): read, never written while it is so -/
  | frz (o:Obj) (u:HO)
  /-- a code object's table -/
  | tbl (ps:Array Value)
  /-- any other thing, by what is true of its one object (a def of one's own: SetO a S n := HO.ext fun h => ..) -/
  | ext (φ:Heap→Prop)
abbrev Hp:=Addr→Option HO
def a8(H:Hp)(a:Addr)(o:HO):Hp:=fun b=>if b=a then some o else H b
theorem aA{H:Hp}{a:Addr}{o:HO}:a8 H a o a=some o:=by unfold a8;rw [if_pos rfl]
theorem aF{H:Hp}{a b:Addr}{o:HO}(h:b≠a):a8 H a o b=H b:=by unfold a8;rw [if_neg h]
theorem G2{H:Hp}{a b:Addr}{o u:HO}(h:H a=some o)(h':H b=some u)(d:o≠u):a≠b:=by
  intro e;subst e;rw [h] at h';exact d (Option.some.inj h')
theorem eU{H:Hp}{a b:Addr}{o:HO}(h:H a=some o)(h':H b=none):a≠b:=by
  intro e;subst e;rw [h] at h';cases h'
def nH(h:Heap)(a:Addr)(items:Array Value):Prop:=∃o,h.get? a=some o∧o.cls=.type "tuple"∧∃n,o.data=.seq items n∧o.dict=none
theorem nH.tup{h:Heap}{a:Addr}{items:Array Value}(x:nH h a items):IsTup h a items:=let ⟨o,ho,hc,n,hd,_⟩:=x;⟨o,ho,hc,n,hd⟩
theorem nH.new(h:Heap)(items:Array Value):nH (h.push {cls:=.type "tuple",data:=.seq items}) h.objs.size items:=⟨_,Heap.get?_push_size _ rfl,rfl,_,rfl,rfl⟩
section
variable(P:Program)(w:World)
def cW(H:Hp)(h:Heap)(a:Addr):HO→Prop
  | .lst xs=>xs.length≤sizeLine∧∃(its:List Value) (n:Nat),aJ xs its∧h.get? a=some {cls:=.type "list",data:=.seq its.toArray n}
  | .tup xs=>xs.length≤sizeLine∧∃its:List Value,aJ xs its∧nH h a its.toArray
  | .dK kvs=>kvs.length≤sizeLine∧(a==sysModules)=false∧∃vs,KV kvs vs∧h.DictOf (cZ P w) a vs
  | .dT kvs=>kvs.length≤sizeLine∧(a==sysModules)=false∧∃xs:List (List eP × Addr × Value),
      Paired (fun(p:List eP × V) (q:List eP × Addr × Value)=>p.1=q.1∧H q.2.1=some (.tup (p.1.map kV))∧a9 p.2 q.2.2) kvs xs∧
      ∃o es ep,h.get? a=some o∧o.ExactDict∧o.data=.dict es ep∧es.toList=xs.map (entryOfKey (tupleKind (cZ P w)))∧(xs.map (·.1)).Nodup
  | .set S n=>h.SetOf (intKind P w) a S n
  | .ins C dx fs=>H dx=some (.own a)∧fs.length≤1000∧dx≠a∧h.get? a=some (PySem.W.instObj C dx)∧
      ∃mA,h.Ns1 dx mA∧(∀f,o5 (fs.lookup f) (mA f))∧PySem.Within mA (fs.map (·.1))
  | .own _=>∃o,h.get? a=some o
  | .xd fs=>∃mA,h.Ns1 a mA∧∀f,o5 (fs.lookup f) (mA f)
  | .rng lo hi=>∃t u v,h.get? a=some {cls:=.type "range",data:=.fields #[.int lo t,.int hi u,.int 1 v]}
  | .frz o u=>h.get? a=some o∧cW H h a u
  | .tbl ps=>h.get? a=some {cls:=.none,data:=.fields ps}
  | .met f x=>h.get? a=some (PySem.W.methodObj (.ref f) (.ref x))
  | .ext φ=>φ h∧(∃o,h.get? a=some o)∧∀h1 h2:Heap,φ h1→(∀o,h1.get? a=some o→h2.get? a=some o)→φ h2
def kR(H:Hp)(h:Heap):Prop:=∀a o,H a=some o→cW P w H h a o
end
section
variable{P:Program}{w:World}{H H':Hp}{h h':Heap}{a:Addr}{o:HO}
theorem cW.lt(x:cW P w H h a o):a < h.objs.size:=by
  cases o with
  | lst xs=>obtain⟨_,_,_,_,e⟩:=x;exact Heap.lt_size e
  | tup xs=>obtain⟨_,_,_,p⟩:=x;exact p.tup.lt
  | dK kvs=>obtain⟨_,_,_,_,o,_,_,e,_⟩:=x;exact Heap.lt_size e
  | dT kvs=>obtain⟨_,_,_,_,o,_,_,e,_⟩:=x;exact Heap.lt_size e
  | set S n=>obtain⟨o,_,_,_,e,_⟩:=x;exact Heap.lt_size e
  | ins C dx fs=>obtain⟨_,_,_,e,_⟩:=x;exact Heap.lt_size e
  | own y=>obtain⟨_,e⟩:=x;exact Heap.lt_size e
  | xd fs=>obtain⟨_,⟨_,_,_,e,_⟩,_⟩:=x;exact Heap.lt_size e
  | rng lo hi=>obtain⟨_,_,_,e⟩:=x;exact Heap.lt_size e
  | frz ob u=>obtain⟨e,_⟩:=x;exact Heap.lt_size e
  | tbl ps=>exact Heap.lt_size (show h.get? a=some _ from x)
  | met f y=>exact Heap.lt_size (show h.get? a=some _ from x)
  | ext φ=>obtain⟨_,⟨_,e⟩,_⟩:=x;exact Heap.lt_size e
theorem Paired.mapP{α β:Type}{F G:α→β→Prop}:∀{l₁:List α} {l₂:List β},Paired F l₁ l₂→(∀a b,F a b→G a b)→Paired G l₁ l₂
  | _,_,.nil,_=>.nil
  | _,_,.cons r t,f=>.cons (f _ _ r) (Paired.mapP t f)
theorem cW.stay(x:cW P w H h a o)(k:∀b u,(b=a∨H b=some (.own a))→h.get? b=some u→h'.get? b=some u)
    (ho:∀b,H b=some (.own a)→H' b=some (.own a))(ht:∀b xs,H b=some (.tup xs)→H' b=some (.tup xs)):cW P w H' h' a o:=by
  induction o with
  | lst xs=>obtain⟨z,its,n,r,e⟩:=x;exact⟨z,its,n,r,k _ _ (.inl rfl) e⟩
  | tup xs=>obtain⟨z,its,r,ob,e,c⟩:=x;exact⟨z,its,r,ob,k _ _ (.inl rfl) e,c⟩
  | dK kvs=>obtain⟨z,y,vs,r,ob,es,ep,e,c⟩:=x;exact⟨z,y,vs,r,ob,es,ep,k _ _ (.inl rfl) e,c⟩
  | dT kvs=>
    obtain⟨z,y,xs,r,ob,es,ep,e,c⟩:=x
    exact⟨z,y,xs,Paired.mapP r fun p q z=>⟨z.1,ht _ _ z.2.1,z.2.2⟩,ob,es,ep,k _ _ (.inl rfl) e,c⟩
  | set S n=>obtain⟨ob,es,ep,t,e,c⟩:=x;exact⟨ob,es,ep,t,k _ _ (.inl rfl) e,c⟩
  | ins C dx fs=>
    obtain⟨d,z,ne,e,mA,⟨od,es,ep,e2,c⟩,r⟩:=x
    exact⟨ho _ d,z,ne,k _ _ (.inl rfl) e,mA,⟨od,es,ep,k _ _ (.inr d) e2,c⟩,r⟩
  | own y=>obtain⟨ob,e⟩:=x;exact⟨ob,k _ _ (.inl rfl) e⟩
  | xd fs=>obtain⟨mA,⟨od,es,ep,e,c⟩,r⟩:=x;exact⟨mA,⟨od,es,ep,k _ _ (.inl rfl) e,c⟩,r⟩
  | rng lo hi=>obtain⟨t,u,v,e⟩:=x;exact⟨t,u,v,k _ _ (.inl rfl) e⟩
  | frz ob u ih=>obtain⟨e,q⟩:=x;exact⟨k _ _ (.inl rfl) e,ih q⟩
  | tbl ps=>
    have e:h.get? a=some {cls:=.none,data:=.fields ps}:=x
    show h'.get? a=some {cls:=.none,data:=.fields ps}
    exact k a _ (.inl rfl) e
  | met f y=>
    have e:h.get? a=some (PySem.W.methodObj (.ref f) (.ref y)):=x
    show h'.get? a=some (PySem.W.methodObj (.ref f) (.ref y))
    exact k a _ (.inl rfl) e
  | ext φ=>obtain⟨p,⟨o,e⟩,st⟩:=x;exact⟨st _ _ p fun o q=>k _ _ (.inl rfl) q,⟨o,k _ _ (.inl rfl) e⟩,st⟩
theorem kR.lt(x:kR P w H h)(e:H a=some o):a < h.objs.size:=(x a o e).lt
theorem kR.fresh(x:kR P w H h)(e:h.objs.size≤a):H a=none:=by
  cases q:H a with
  | none=>rfl
  | some u=>exact absurd (Nat.lt_of_lt_of_le (x.lt q) e) (Nat.lt_irrefl _)
theorem kR.kept(x:kR P w H h)(k:∀b u,h.get? b=some u→h'.get? b=some u):kR P w H h':=fun a o e=>
  (x a o e).stay (fun b u _ q=>k b u q) (fun _ q=>q) fun _ _ q=>q
theorem kR.laid(x:kR P w H h)(k:∀b u,h.get? b=some u→h'.get? b=some u)(hp:h.objs.size≤a)(new:cW P w (a8 H a o) h' a o):kR P w (a8 H a o) h':=fun b u e=>by
  have hn:=x.fresh hp
  by_cases hb:b=a
  · subst hb;rw [aA] at e;cases e;exact new
  · rw [aF hb] at e
    exact(x b u e).stay (fun c v _ q=>k c v q) (fun c q=>by rw [aF (eU q hn)];exact q) fun c xs q=>by rw [aF (eU q hn)];exact q
end
def Rd(H:Hp)(a:Addr)(u:HO):Prop:=H a=some u∨∃o,H a=some (.frz o u)
theorem Rd.ok{P:Program}{w:World}{H:Hp}{h:Heap}{a:Addr}{u:HO}(r:Rd H a u)(x:kR P w H h):cW P w H h a u:=by
  rcases r with r | ⟨o,r⟩
  · exact x a u r
  · obtain⟨_,q⟩:=x a _ r
    exact q
def Gu:Option HO→Prop
  | some (.lst _)=>True
  | some (.dK _)=>True
  | some (.dT _)=>True
  | some (.set _ _)=>True
  | some (.ins _ _ _)=>True
  | some (.ext _)=>True
  | _=>False
section
variable{P:Program}{w:World}{H:Hp}{h h':Heap}{x e:Addr}{o':HO}
theorem kR.write(ok:kR P w H h)(mu:Gu (H x))(he:e=x∨H e=some (.own x))(k:∀b u,b≠e→h.get? b=some u→h'.get? b=some u)(heo:∃u,h'.get? e=some u)
    (new:cW P w (a8 H x o') h' x o'):kR P w (a8 H x o') h':=fun b u q=>by
  have nown:∀c y,H c=some (.own y)→c≠x:=fun c y r z=>by subst z;rw [r] at mu;exact mu
  have ntup:∀c xs,H c=some (.tup xs)→c≠x:=fun c xs r z=>by subst z;rw [r] at mu;exact mu
  by_cases hb:b=x
  · subst hb;rw [aA] at q;cases q;exact new
  · rw [aF hb] at q
    by_cases hbe:b=e
    · have q':H b=some (.own x):=by
        rcases he with z | z
        · exact absurd (hbe.trans z) hb
        · rw [hbe];exact z
      rw [q] at q';cases q'
      obtain⟨v,hv⟩:=heo
      exact⟨v,by rw [hbe];exact hv⟩
    · refine(ok b u q).stay (fun c v hc r=>k c v ?_ r) (fun c r=>by rw [aF (nown c b r)];exact r) fun c xs r=>by rw [aF (ntup c xs r)];exact r
      rcases hc with rfl | hc
      · exact hbe
      · rintro rfl
        rcases he with z | z
        · exact nown c b hc z
        · rw [hc] at z;cases z;exact hb rfl
end
structure Un (fs ex:List Addr) (H H':Hp) (h h':Heap):Prop where
  keep:∀b o,h.get? b=some o→H b=none→b∉fs→b∉ex→h'.get? b=some o
  slot:∀b o,h.get? b=some o→H b=none→b∈fs→b∉ex→∃sl,h'.get? b=some {o with slots:=sl}
  free:∀b o,h.get? b=some o→H b=none→b∉ex→H' b=none
  there:∀b o,h.get? b=some o→b∉ex→∃o',h'.get? b=some o'
  tups:∀b xs,H b=some (.tup xs)→H' b=some (.tup xs)
  frzs:∀b o u,H b=some (.frz o u)→H' b=some (.frz o u)
  tbls:∀b ps,H b=some (.tbl ps)→∃more,H' b=some (.tbl (ps++more))
section
variable{fs fs' ex ex':List Addr}{H H1 H2:Hp}{h h1 h2 h':Heap}{a x e:Addr}{o:HO}
theorem Un.any(u:Un fs ex H H1 h h1){b:Addr}{ob:Obj}(q:h.get? b=some ob)(n:H b=none)(hx:b∉ex):∃sl,h1.get? b=some {ob with slots:=sl}:=by
  by_cases hb:b∈fs
  · exact u.slot b ob q n hb hx
  · exact⟨ob.slots,u.keep b ob q n hb hx⟩
theorem Un.kept(k:∀b u,h.get? b=some u→h'.get? b=some u):Un fs ex H H h h':=
  ⟨fun b ob q _ _ _=>k b ob q,fun b ob q _ _ _=>⟨ob.slots,k b ob q⟩,fun _ _ _ n _=>n,fun b ob q _=>⟨ob,k b ob q⟩,fun _ _ q=>q,fun _ _ _ q=>q,fun _ ps q=>⟨#[],by rw [q];simp⟩⟩
theorem Un.refl:Un fs ex H H h h:=Un.kept fun _ _ q=>q
theorem Un.laid(k:∀b u,h.get? b=some u→h'.get? b=some u)(hp:h.objs.size≤a)(hn:H a=none):Un fs ex H (a8 H a o) h h' where
  keep:=fun b u q _ _ _=>k b u q
  slot:=fun b u q _ _ _=>⟨u.slots,k b u q⟩
  free:=fun b u q n _=>by rw [aF (Nat.ne_of_lt (Nat.lt_of_lt_of_le (Heap.lt_size q) hp))];exact n
  there:=fun b u q _=>⟨u,k b u q⟩
  tups:=fun b xs q=>by rw [aF (eU q hn)];exact q
  frzs:=fun b u xs q=>by rw [aF (eU q hn)];exact q
  tbls:=fun b ps q=>⟨#[],by rw [aF (eU q hn),q];simp⟩
theorem Un.write(mu:Gu (H x))(he:e=x∨H e=some (.own x))(k:∀b u,b≠e→h.get? b=some u→h'.get? b=some u)(heo:∃u,h'.get? e=some u):Un fs ex H (a8 H x o) h h':=by
  have hx:∀b,H b=none→b≠x:=fun b n z=>by subst z;rw [n] at mu;exact mu
  have hb:∀b,H b=none→b≠e:=fun b n z=>by
    subst z
    rcases he with r | r
    · exact hx b n r
    · rw [n] at r;cases r
  have hm:∀b u,H b=some u→¬Gu (some u)→b≠x:=fun b u q nm z=>by subst z;rw [q] at mu;exact nm mu
  refine⟨fun b u q n _ _=>k b u (hb b n) q,fun b u q n _ _=>⟨u.slots,k b u (hb b n) q⟩,fun b u q n _=>by rw [aF (hx b n)];exact n,fun b u q _=>?_,
    fun b xs q=>by rw [aF (hm b _ q fun z=>z)];exact q,fun b u xs q=>by rw [aF (hm b _ q fun z=>z)];exact q,fun b ps q=>⟨#[],by rw [aF (hm b _ q fun z=>z),q];simp⟩⟩
  by_cases hbe:b=e
  · subst hbe;exact heo
  · exact⟨u,k b u hbe q⟩
end
def Ij(h:Heap)(H:Hp):List Addr:=(List.range h.objs.size).filter fun a=>(H a).isSome
def qN(h:Heap)(H:Hp):Heap:=PySem.W.hideAll h (Ij h H)
theorem wW(h:Heap)(H:Hp):(qN h H).objs.size=h.objs.size:=PySem.W.hideAll_size _ _
theorem yK{h:Heap}{H:Hp}{b:Addr}{o:Obj}(e:h.get? b=some o)(n:H b=none):(qN h H).get? b=some o:=
  PySem.W.hideAll_get _ e fun hm=>by
    have q:(H b).isSome=true:=(List.mem_filter.mp hm).2
    rw [n] at q;simp at q
theorem BC{h:Heap}{H:Hp}{b:Addr}{o:Obj}(e:(qN h H).get? b=some o):h.get? b=some o∧H b=none:=by
  have e':h.get? b=some o:=PySem.W.of_hideAll (Ij h H) e
  refine⟨e',?_⟩
  cases q:H b with
  | none=>rfl
  | some x=>
    have hm:b∈Ij h H:=List.mem_filter.mpr ⟨List.mem_range.mpr (Heap.lt_size e'),by simp [q]⟩
    have z:(qN h H).get? b=none:=PySem.W.hideAll_none (Ij h H) hm
    rw [z] at e;cases e
def qp(g h:Heap)(L:Addr):List (Addr × Obj):=(List.range h.objs.size).filterMap fun a=>if a=L∨(g.get? a).isSome=true then none else(h.get? a).map fun o=>(a,o)
theorem ox{g h:Heap}{L:Addr}{p:Addr × Obj}(hp:p∈qp g h L):p.1≠L∧g.get? p.1=none∧h.get? p.1=some p.2:=by
  obtain⟨b,_,e⟩:=List.mem_filterMap.mp hp
  split at e
  · cases e
  · rename_i hn
    cases q:h.get? b with
    | none=>rw [q] at e;simp at e
    | some u=>
      rw [q] at e
      simp only [Option.map_some,Option.some.injEq] at e
      subst e
      refine⟨fun z=>hn (.inl z),?_,q⟩
      show g.get? b=none
      cases r:g.get? b with
      | none=>rfl
      | some v=>exact(hn (.inr (by simp [r]))).elim
def eY(g h:Heap)(L d:Addr):List (Addr × Obj):=(qp g h L).filter fun p=>decide (p.1≠d)
theorem ze{g h:Heap}{L:Addr}:News g L h (qp g h L):=fun p hp=>let ⟨a,b,c⟩:=ox hp;⟨c,a,b⟩
structure Mod (K:PySem.W.Frag) (mg:Str→Option Value) (base:Heap):Prop where
  kin:K.In base
  glob:base.Ns mainGlobals mg
  blt:∃mb,base.Ns builtinsNs mb∧∀x:Str,x≠"__name__"→mb x=bootBuiltins x
  nolimit:base.NoLimit
structure Cx where
  prog:Program
  w:World
  K:PySem.W.Frag
  mg:Str→Option Value
  base:Heap
  A:Around
  N:List Str
  s₀:Shared
  H₀:Hp
  env:Env
  outer:List Env
  stack:List Env
  ex:List Addr
  fn:Str→Bool
  calm:Bool
  pn:List (Addr × Obj)
  xe:Value→Shared→Prop
def yt(l:List Env):List Addr:=l.filterMap (·.frame)
abbrev Cx.fs(X:Cx):List Addr:=yt X.outer
def Gi(sc:Scope)(x:Str):Prop:=sc.names.lookup x=some .local∨sc.names.lookup x=some .cell∨sc.names.lookup x=some .free
def DL(sc:Scope)(x:Str):Prop:=sc.names.lookup x=some .local∨sc.names.lookup x=some .cell
def Ip(env:Env)(h:Heap)(m:Str→Option Value)(x:Str)(u:Value):Prop:=
  (env.kindOf x=some .local∧m x=some u)∨((env.kindOf x=some .cell∨env.kindOf x=some .free)∧∃c,env.cells.lookup x=some c∧h.IsCell c (some u))
structure Cx.Ok (X:Cx):Prop where
  mod:Mod X.K X.mg X.base
  kind:X.env.scope.kind=.function
  glob:X.env.globals=mainGlobals
  blt:X.env.builtins=builtinsNs
  above:X.s₀.heap.objs.size≤X.env.locals
  inj:∀x y c,X.env.cells.lookup x=some c→X.env.cells.lookup y=some c→x=y
  has:∀x,(X.env.kindOf x=some .cell∨X.env.kindOf x=some .free)→∃c,X.env.cells.lookup x=some c
  cab:∀x c,X.fn x=true→X.env.cells.lookup x=some c→X.s₀.heap.objs.size≤c
  hd:X.calm=true→X.A.handled=none
  frames:X.A.frames=some X.stack
  stk:X.stack=X.outer∨(X.stack=X.env::X.outer∧X.env.frame=some X.env.locals)
  exf:∀b∈X.ex,b≠X.env.locals∧∀x c,X.env.cells.lookup x=some c→c≠b
  bs:∀b o,X.base.get? b=some o→X.s₀.heap.get? b=some o∧X.H₀ b=none
  bsz:X.base.objs.size≤X.s₀.heap.objs.size
  noex:∀b o,X.base.get? b=some o→b∉X.ex
  exfs:∀b∈X.ex,b∉X.fs
  funs:X.s₀.heap.FunFrames X.base X.outer
  frf:∀b∈X.fs,X.H₀ b=none
structure ax (X:Cx) (pins:List (Addr × Obj)) (σ:List (Option V)) (H:Hp) (s:Shared):Prop where
  ok:X.Ok
  os:s.os=X.s₀.os
  bare:AllBare s.gens
  base:Un X.fs X.ex X.H₀ H X.s₀.heap s.heap
  loc:∃m,s.heap.Ns X.env.locals m∧∀(i:Nat) (x:Str) (v:V),X.N[i]?=some x→σ[i]?=some (some v)→Gi X.env.scope x→∃u,a9 v u∧Ip X.env s.heap m x u
  cell:∀x c,X.env.cells.lookup x=some c→∃v,s.heap.IsCell c v
  free:H X.env.locals=none
  freeC:∀x c,X.env.cells.lookup x=some c→H c=none
  pin:∀p∈X.pn++pins,s.heap.get? p.1=some p.2∧H p.1=none∧p.1≠X.env.locals∧p.1∉X.fs∧∀v,p.2.data≠.cell v
  hok:kR X.prog X.w H s.heap
  len:σ.length=X.N.length
section
variable{X:Cx}{pins:List (Addr × Obj)}{σ:List (Option V)}{H H':Hp}{s:Shared}{h':Heap}
theorem Cx.Ok.nofr(ok:X.Ok){b:Addr}{o:Obj}(e:X.base.get? b=some o):b∉X.fs:=fun hb=>by
  have:=(ok.funs.mem hb).1
  rw [e] at this;cases this
theorem ax.bs(I:ax X pins σ H s):∀b o,X.base.get? b=some o→s.heap.get? b=some o∧H b=none:=fun b o e=>
  ⟨I.base.keep b o (I.ok.bs b o e).1 (I.ok.bs b o e).2 (I.ok.nofr e) (I.ok.noex b o e),I.base.free b o (I.ok.bs b o e).1 (I.ok.bs b o e).2 (I.ok.noex b o e)⟩
theorem ax.bk(I:ax X pins σ H s):∀b o,X.base.get? b=some o→s.heap.get? b=some o:=fun b o e=>(I.bs b o e).1
theorem ax.mod(I:ax X pins σ H s):Mod X.K X.mg X.base:=I.ok.mod
theorem ax.kIn(I:ax X pins σ H s):X.K.In s.heap:=I.ok.mod.kin.keeps I.bk
theorem ax.fr(I:ax X pins σ H s):∃m,Fr X.base X.env.locals s.heap m:=
  let ⟨m,hn,_⟩:=I.loc
  ⟨m,hn,I.bk,Nat.le_trans I.ok.bsz I.ok.above⟩
theorem ax.lt(I:ax X pins σ H s):X.env.locals < s.heap.objs.size:=let ⟨_,hn,_⟩:=I.loc;hn.lt
theorem ax.sz(I:ax X pins σ H s):X.s₀.heap.objs.size≤s.heap.objs.size:=Nat.le_trans I.ok.above (Nat.le_of_lt I.lt)
theorem ax.nofs(I:ax X pins σ H s){a:Addr}(h:s.heap.objs.size≤a):a∉X.fs:=fun hb=>by
  obtain⟨_,o,ho,_⟩:=I.ok.funs.mem hb
  exact absurd (Nat.lt_of_lt_of_le (Heap.lt_size ho) (Nat.le_trans I.sz h)) (Nat.lt_irrefl _)
theorem ax.cne(I:ax X pins σ H s):∀x c,X.env.cells.lookup x=some c→c≠X.env.locals:=fun x c e z=>by
  obtain⟨v,o,ho,hd⟩:=I.cell x c e
  obtain⟨m,⟨o',es,ep,ho',hd',_⟩,_⟩:=I.loc
  rw [z,ho'] at ho;cases ho;rw [hd'] at hd;cases hd
theorem ax.funs(I:ax X pins σ H s):s.heap.FunFrames X.base X.outer:=by
  have all:∀(l:List Env),(∀b∈yt l,b∈X.fs)→X.s₀.heap.FunFrames X.base l→s.heap.FunFrames X.base l:=by
    intro l
    induction l with
    | nil=>intro _ _;trivial
    | cons env r ih=>
      intro hs hl
      obtain⟨hk,⟨L,o,hf,hn,ho,hd⟩,hr⟩:=hl
      have hL:L∈X.fs:=hs L (by unfold yt;rw [List.filterMap_cons,hf];exact List.mem_cons_self)
      obtain⟨sl,e⟩:=I.base.slot L o ho (I.ok.frf L hL) hL fun z=>I.ok.exfs L z hL
      exact⟨hk,⟨L,_,hf,hn,e,hd⟩,ih (fun b hb=>hs b (by unfold yt;rw [List.filterMap_cons,hf];exact List.mem_cons_of_mem _ hb)) hr⟩
  exact all X.outer (fun _ hb=>hb) I.ok.funs
theorem ax.stack(I:ax X pins σ H s):s.heap.FunFrames X.base X.stack:=by
  rcases I.ok.stk with e | ⟨e,hf⟩
  · rw [e];exact I.funs
  · rw [e]
    obtain⟨m,hn,_⟩:=I.loc
    refine .cons (by rw [I.ok.kind];decide) hf hn ?_ I.funs
    exact Heap.get?_none_of_le (Nat.le_trans I.ok.bsz I.ok.above)
theorem ax.stkSub(I:ax X pins σ H s):∀b∈yt X.stack,b∈X.env.locals::X.fs:=fun b hb=>by
  rcases I.ok.stk with e | ⟨e,hf⟩
  · rw [e] at hb;exact List.mem_cons_of_mem _ hb
  · rw [e] at hb
    unfold yt at hb
    rw [List.filterMap_cons,hf] at hb
    exact hb
theorem ax.stkFree(I:ax X pins σ H s):∀b∈yt X.stack,H b=none:=fun b hb=>by
  rcases Me (I.stkSub b hb) with e | hb
  · rw [e];exact I.free
  · obtain⟨_,o,ho,_⟩:=I.ok.funs.mem hb
    exact I.base.free b o ho (I.ok.frf b hb) fun z=>I.ok.exfs b z hb
theorem ax.step{g':Array GenState}{t':Nat}{d':Drawn}{ch:List Addr}(I:ax X pins σ H s)
    (hch:∀b∈ch,(b∈X.ex∨X.s₀.heap.objs.size≤b)∧b≠X.env.locals∧(∀x c,X.env.cells.lookup x=some c→c≠b)∧∀p∈X.pn++pins,p.1≠b)
    (keep:∀b o,b≠X.env.locals→b∉X.fs→b∉ch→s.heap.get? b=some o→H b=none→h'.get? b=some o)
    (slot:∀b o,b≠X.env.locals→b∈X.fs→b∉ch→s.heap.get? b=some o→H b=none→∃sl,h'.get? b=some {o with slots:=sl})(free:∀b o,b∉ch→s.heap.get? b=some o→H b=none→H' b=none)
    (there:∀b o,b∉ch→s.heap.get? b=some o→∃o',h'.get? b=some o')
    (tups:∀b xs,H b=some (.tup xs)→H' b=some (.tup xs))(frzs:∀b o u,H b=some (.frz o u)→H' b=some (.frz o u))(tbls:∀b ps,H b=some (.tbl ps)→∃more,H' b=some (.tbl (ps++more)))
    (ns:∀m,s.heap.Ns X.env.locals m→h'.Ns X.env.locals m)(hok:kR X.prog X.w H' h')(hg:AllBare g'):
    ax X pins σ H' {s with heap:=h',gens:=g',drawn:=d',toks:=t'}:=by
  have neL:∀b o,X.s₀.heap.get? b=some o→b≠X.env.locals:=fun b o e=>Nat.ne_of_lt (Nat.lt_of_lt_of_le (Heap.lt_size e) I.ok.above)
  have neC:∀b o,X.s₀.heap.get? b=some o→b∉X.ex→b∉ch:=fun b o e hx hb=>by
    rcases(hch b hb).1 with z | z
    · exact hx z
    · exact absurd (Nat.lt_of_lt_of_le (Heap.lt_size e) z) (Nat.lt_irrefl _)
  have cellK:∀x c,X.env.cells.lookup x=some c→∀v,s.heap.IsCell c v→h'.IsCell c v:=fun x c e v ⟨o,ho,hd⟩=>by
    have nch:c∉ch:=fun z=>(hch c z).2.2.1 x c e rfl
    by_cases hc:c∈X.fs
    · obtain⟨sl,q⟩:=slot c o (I.cne x c e) hc nch ho (I.freeC x c e)
      exact⟨_,q,hd⟩
    · exact⟨o,keep c o (I.cne x c e) hc nch ho (I.freeC x c e),hd⟩
  refine⟨I.ok,I.os,hg,⟨fun b o e n hb hx=>?_,fun b o e n hb hx=>?_,fun b o e n hx=>?_,fun b o e hx=>?_,fun b xs e=>tups b xs (I.base.tups b xs e),fun b o xs e=>frzs b o xs (I.base.frzs b o xs e),fun b ps e=>?_⟩,?_,fun x c e=>?_,?_,fun x c e=>?_,fun p hp=>?_,hok,I.len⟩
  · exact keep b o (neL b o e) hb (neC b o e hx) (I.base.keep b o e n hb hx) (I.base.free b o e n hx)
  · obtain⟨sl,e1⟩:=I.base.slot b o e n hb hx
    obtain⟨sl',e2⟩:=slot b _ (neL b o e) hb (neC b o e hx) e1 (I.base.free b o e n hx)
    exact⟨sl',e2⟩
  · obtain⟨o',e1⟩:=I.base.there b o e hx
    exact free b o' (neC b o e hx) e1 (I.base.free b o e n hx)
  · obtain⟨o',e1⟩:=I.base.there b o e hx
    exact there b o' (neC b o e hx) e1
  · obtain⟨m1,e1⟩:=I.base.tbls b ps e
    obtain⟨m2,e2⟩:=tbls b _ e1
    exact⟨m1++m2,by rw [e2,Array.append_assoc]⟩
  · obtain⟨m,hn,hl⟩:=I.loc
    refine⟨m,ns m hn,fun i x v e1 e2 e3=>?_⟩
    obtain⟨u,r,l⟩:=hl i x v e1 e2 e3
    refine⟨u,r,?_⟩
    rcases l with l | ⟨k,c,e,z⟩
    · exact .inl l
    · exact .inr ⟨k,c,e,cellK x c e _ z⟩
  · obtain⟨v,z⟩:=I.cell x c e
    exact⟨v,cellK x c e v z⟩
  · obtain⟨m,⟨o,_,_,ho,_⟩,_⟩:=I.loc
    exact free _ o (fun z=>(hch _ z).2.1 rfl) ho I.free
  · obtain⟨v,o,ho,hd⟩:=I.cell x c e
    exact free c o (fun z=>(hch c z).2.2.1 x c e rfl) ho (I.freeC x c e)
  · obtain⟨e,n,ne,nf,d⟩:=I.pin p hp
    have nch:p.1∉ch:=fun z=>(hch p.1 z).2.2.2 p hp rfl
    exact⟨keep p.1 p.2 ne nf nch e n,free p.1 p.2 nch e n,ne,nf,d⟩
theorem ax.un{t':Nat}(I:ax X pins σ H s)(u:Un X.fs [] H H' s.heap h')(hok:kR X.prog X.w H' h'):ax X pins σ H' {s with heap:=h',toks:=t'}:=by
  obtain⟨m,⟨o,es,ep,ho,r⟩,_⟩:=id I.loc
  obtain⟨sl,hL⟩:=u.any ho I.free (by simp)
  exact I.step (g':=s.gens) (d':=s.drawn) (ch:=[]) (fun _ z=>nomatch z) (fun b o _ hb _ e n=>u.keep b o e n hb (by simp)) (fun b o _ hb _ e n=>u.slot b o e n hb (by simp)) (fun b o _ e n=>u.free b o e n (by simp)) (fun b o _ e=>u.there b o e (by simp)) u.tups u.frzs u.tbls (fun m' hm=>by
    obtain⟨o',es',ep',ho',r'⟩:=hm
    rw [ho] at ho';cases ho'
    exact⟨_,es',ep',hL,r'⟩) hok I.bare
theorem ax.call{g':Array GenState}{t':Nat}{d':Drawn}{ch:List Addr}(I:ax X pins σ H s)(u:Un (yt X.stack) ch H H' s.heap h')(hok:kR X.prog X.w H' h')(hg:AllBare g')
    (hch:∀b∈ch,(b∈X.ex∨X.s₀.heap.objs.size≤b)∧b≠X.env.locals∧(∀x c,X.env.cells.lookup x=some c→c≠b)∧∀p∈X.pn++pins,p.1≠b):
    ax X pins σ H' {s with heap:=h',gens:=g',drawn:=d',toks:=t'}:=by
  obtain⟨m,⟨o,es,ep,ho,r⟩,_⟩:=id I.loc
  obtain⟨sl,hL⟩:=u.any ho I.free fun z=>(hch _ z).2.1 rfl
  exact I.step (ch:=ch) hch (fun b o hL hb hc e n=>u.keep b o e n (fun z=>(Me (I.stkSub b z)).elim hL hb) hc) (fun b o _ _ hc e n=>u.any e n hc) (fun b o hc e n=>u.free b o e n hc) (fun b o hc e=>u.there b o e hc) u.tups u.frzs u.tbls (fun m' hm=>by
    obtain⟨o',es',ep',ho',r'⟩:=hm
    rw [ho] at ho';cases ho'
    exact⟨_,es',ep',hL,r'⟩) hok hg
theorem ax.turned{t':Nat}{it:Addr}(I:ax X pins σ H s)(k:∀b o,b≠it→s.heap.get? b=some o→h'.get? b=some o)(hn:H it=none)(hL:it≠X.env.locals)
    (h1:it∈X.ex∨X.s₀.heap.objs.size≤it)(h2:∀x c,X.env.cells.lookup x=some c→c≠it)(h3:∀p∈X.pn++pins,p.1≠it):ax X pins σ H {s with heap:=h',toks:=t'}:=by
  have nit:∀b u,H b=some u→b≠it:=fun b u e z=>by rw [z,hn] at e;cases e
  refine I.step (g':=s.gens) (d':=s.drawn) (ch:=[it]) (fun b hb=>?_) (fun b o _ _ hc e _=>k b o (fun z=>hc (by simp [z])) e) (fun b o _ _ hc e _=>⟨o.slots,k b o (fun z=>hc (by simp [z])) e⟩) (fun _ _ _ _ n=>n)
    (fun b o hc e=>⟨o,k b o (fun z=>hc (by simp [z])) e⟩) (fun _ _ e=>e) (fun _ _ _ e=>e) (fun b ps e=>⟨#[],by rw [e];simp⟩) (fun m hm=>?_) (fun b u e=>?_) I.bare
  · have e:b=it:=by simpa using hb
    subst e
    exact⟨h1,hL,h2,h3⟩
  · obtain⟨o,es,ep,ho,r⟩:=hm
    exact⟨o,es,ep,k _ o (Ne.symm hL) ho,r⟩
  · refine(I.hok b u e).stay (fun c v hc q=>k c v ?_ q) (fun _ q=>q) fun _ _ q=>q
    rcases hc with z | z
    · rw [z];exact nit b u e
    · exact nit c _ z
theorem ax.tok(I:ax X pins σ H s)(t:Nat):ax X pins σ H {s with toks:=t}:=I.un (h':=s.heap) (t':=t) Un.refl I.hok
theorem ax.kept{t':Nat}(I:ax X pins σ H s)(k:∀b u,s.heap.get? b=some u→h'.get? b=some u):ax X pins σ H {s with heap:=h',toks:=t'}:=I.un (Un.kept k) (I.hok.kept k)
theorem ax.laid{a:Addr}{o:HO}{t':Nat}(I:ax X pins σ H s)(k:∀b u,s.heap.get? b=some u→h'.get? b=some u)(hp:s.heap.objs.size≤a)(new:cW X.prog X.w (a8 H a o) h' a o):
    ax X pins σ (a8 H a o) {s with heap:=h',toks:=t'}:=I.un (Un.laid k hp (I.hok.fresh hp)) (I.hok.laid k hp new)
theorem ax.write{x e:Addr}{o:HO}{t':Nat}(I:ax X pins σ H s)(mu:Gu (H x))(he:e=x∨H e=some (.own x))(k:∀b u,b≠e→s.heap.get? b=some u→h'.get? b=some u)(heo:∃u,h'.get? e=some u)
    (new:cW X.prog X.w (a8 H x o) h' x o):ax X pins σ (a8 H x o) {s with heap:=h',toks:=t'}:=I.un (Un.write mu he k heo) (I.hok.write mu he k heo new)
theorem ax.pins_of{pins':List (Addr × Obj)}(I:ax X pins σ H s)(h:∀p∈pins',s.heap.get? p.1=some p.2∧H p.1=none∧p.1≠X.env.locals∧p.1∉X.fs∧∀v,p.2.data≠.cell v):ax X pins' σ H s:=
  ⟨I.ok,I.os,I.bare,I.base,I.loc,I.cell,I.free,I.freeC,fun p hp=>(Mc hp).elim (fun z=>I.pin p (List.mem_append_left _ z)) (h p),I.hok,I.len⟩
theorem sX{N:List Str}(hN:N.Nodup){i j:Nat}{x:Str}(a:N[i]?=some x)(b:N[j]?=some x):i=j:=by
  obtain⟨h1,e1⟩:=Mb a
  obtain⟨h2,e2⟩:=Mb b
  exact(List.getElem_inj hN).mp (e1.trans e2.symm)
theorem qb{M:Model}{A:Around}{E:Value→Shared→Prop}{i:Nat}{x:Str}{v:V}{u:Value}{Q:Unit→Shared→Prop}(I:ax X pins σ H s)(hN:X.N.Nodup)(hi:X.N[i]?=some x)(hx:DL X.env.scope x)(r:a9 v u)
    (h:∀s',ax X pins (σ.set i (some v)) H s'→(∃a,Heap.SameBut a s.heap s'.heap∧(a=X.env.locals∨X.env.cells.lookup x=some a))→Q () s')(hf:X.fn x=true∨X.env.scope.names.lookup x=some .local:=by first | exact .inl rfl | exact .inr rfl | assumption):wpAny M A (storeName X.env x u) Q E s:=by
  obtain⟨m,hn,hl⟩:=id I.loc
  have hcls:(X.env.scope.kind==.class || (X.env.scope.kind==.module&&X.env.locals != X.env.globals))=false:=by rw [I.ok.kind];rfl
  have hiσ:i < σ.length:=by rw [I.len];exact(Mb hi).1
  have cne:=I.cne
  have tracked:∀{a:Addr} {h':Heap},(∃o,s.heap.get? a=some o∧H a=none)→Heap.SameBut a s.heap h'→kR X.prog X.w H h':=fun{a h'} ha hs b ob e=>by
    obtain⟨_,_,hfree⟩:=ha
    refine(I.hok b ob e).stay (fun c w' hc q=>(hs.2 c ?_).trans q) (fun _ q=>q) fun _ _ q=>q
    rintro rfl
    rcases hc with rfl | hc
    · rw [hfree] at e;cases e
    · rw [hfree] at hc;cases hc
  rcases hx with hk | hk
  · refine wpAny_storeName_local hk hn (fun h' hn' hs=>?_) hcls
    obtain⟨oL,_,_,hoL,_⟩:=id hn
    refine h _ ⟨I.ok,I.os,I.bare,⟨fun b o e n hb hx=>?_,fun b o e n hb hx=>?_,I.base.free,fun b o e hx=>?_,I.base.tups,I.base.frzs,I.base.tbls⟩,⟨_,hn',fun j y v' e1 e2 e3=>?_⟩,fun y c e=>?_,I.free,I.freeC,fun p hp=>?_,tracked ⟨oL,hoL,I.free⟩ hs,by simpa using I.len⟩ ⟨_,hs,.inl rfl⟩
    · exact(hs.2 b (Nat.ne_of_lt (Nat.lt_of_lt_of_le (Heap.lt_size e) I.ok.above))).trans (I.base.keep b o e n hb hx)
    · obtain⟨sl,e1⟩:=I.base.slot b o e n hb hx
      exact⟨sl,(hs.2 b (Nat.ne_of_lt (Nat.lt_of_lt_of_le (Heap.lt_size e) I.ok.above))).trans e1⟩
    · obtain⟨o',e1⟩:=I.base.there b o e hx
      exact⟨o',(hs.2 b (Nat.ne_of_lt (Nat.lt_of_lt_of_le (Heap.lt_size e) I.ok.above))).trans e1⟩
    · by_cases hj:j=i
      · subst hj
        rw [hi] at e1;cases e1
        rw [List.getElem?_set_self hiσ] at e2
        cases e2
        exact⟨u,r,.inl ⟨hk,by simp⟩⟩
      · rw [List.getElem?_set_ne (Ne.symm hj)] at e2
        obtain⟨u',r',q⟩:=hl j y v' e1 e2 e3
        refine⟨u',r',?_⟩
        rcases q with ⟨k,e⟩ | ⟨k,c,e,z⟩
        · refine .inl ⟨k,?_⟩
          have:y≠x:=fun e=>hj (sX hN e1 (e ▸ hi))
          simp [this,e]
        · exact .inr ⟨k,c,e,z.sameBut hs (cne y c e)⟩
    · obtain⟨w',z⟩:=I.cell y c e
      exact⟨w',z.sameBut hs (cne y c e)⟩
    · obtain⟨e,n,ne,nf,d⟩:=I.pin p hp
      exact⟨(hs.2 p.1 ne).trans e,n,ne,nf,d⟩
  · have hfn:X.fn x=true:=by
      rcases hf with z | z
      · exact z
      · rw [z] at hk;cases hk
    obtain⟨c,hc⟩:=I.ok.has x (.inl hk)
    obtain⟨w',z⟩:=I.cell x c hc
    refine wpAny_storeName_cell I.ok.kind hk hc z (fun h' hc' hs=>?_)
    obtain⟨oc,hoc,hocd⟩:=id z
    refine h {s with heap:=h'} ⟨I.ok,I.os,I.bare,⟨fun b o e n hb hx=>?_,fun b o e n hb hx=>?_,I.base.free,fun b o e hx=>?_,I.base.tups,I.base.frzs,I.base.tbls⟩,⟨m,hn.sameBut hs (Ne.symm (cne x c hc)),fun j y v' e1 e2 e3=>?_⟩,fun y c' e=>?_,I.free,I.freeC,fun p hp=>?_,tracked ⟨oc,hoc,I.freeC x c hc⟩ hs,by simpa using I.len⟩ ⟨c,hs,.inr hc⟩
    · exact(hs.2 b (Nat.ne_of_lt (Nat.lt_of_lt_of_le (Heap.lt_size e) (I.ok.cab x c hfn hc)))).trans (I.base.keep b o e n hb hx)
    · obtain⟨sl,e1⟩:=I.base.slot b o e n hb hx
      exact⟨sl,(hs.2 b (Nat.ne_of_lt (Nat.lt_of_lt_of_le (Heap.lt_size e) (I.ok.cab x c hfn hc)))).trans e1⟩
    · obtain⟨o',e1⟩:=I.base.there b o e hx
      exact⟨o',(hs.2 b (Nat.ne_of_lt (Nat.lt_of_lt_of_le (Heap.lt_size e) (I.ok.cab x c hfn hc)))).trans e1⟩
    · by_cases hj:j=i
      · subst hj
        rw [hi] at e1;cases e1
        rw [List.getElem?_set_self hiσ] at e2
        cases e2
        exact⟨u,r,.inr ⟨.inl hk,c,hc,hc'⟩⟩
      · rw [List.getElem?_set_ne (Ne.symm hj)] at e2
        obtain⟨u',r',q⟩:=hl j y v' e1 e2 e3
        refine⟨u',r',?_⟩
        rcases q with q | ⟨k,c',e,z'⟩
        · exact .inl q
        · refine .inr ⟨k,c',e,z'.sameBut hs ?_⟩
          rintro rfl
          exact hj (sX hN e1 (I.ok.inj _ _ _ e hc ▸ hi))
    · by_cases hcc:c'=c
      · subst hcc;exact⟨_,hc'⟩
      · obtain⟨w2,z2⟩:=I.cell y c' e
        exact⟨w2,z2.sameBut hs hcc⟩
    · obtain⟨e,n,ne,nf,d⟩:=I.pin p hp
      refine⟨(hs.2 p.1 ?_).trans e,n,ne,nf,d⟩
      intro q
      rw [q,hoc] at e
      have q':oc=p.2:=Option.some.inj e
      exact d w' (by rw [←q'];exact hocd)
theorem lS{M:Model}{A:Around}{E:Value→Shared→Prop}{i:Nat}{x:Str}{v:V}{u:Value}{Q:Unit→Shared→Prop}(I:ax X pins σ H s)(hN:X.N.Nodup)(hi:X.N[i]?=some x)(hx:DL X.env.scope x)(r:a9 v u)
    (h:∀s',ax X pins (σ.set i (some v)) H s'→Q () s')(hf:X.fn x=true∨X.env.scope.names.lookup x=some .local:=by first | exact .inl rfl | exact .inr rfl | assumption):wpAny M A (storeName X.env x u) Q E s:=
  qb I hN hi hx r (fun s' I' _=>h s' I') hf
theorem ax.call'{s':Shared}{ch:List Addr}(I:ax X pins σ H s)(ho:s'.os=s.os)(u:Un (yt X.stack) ch H H' s.heap s'.heap)(hok:kR X.prog X.w H' s'.heap)(hg:AllBare s'.gens)
    (hch:∀b∈ch,(b∈X.ex∨X.s₀.heap.objs.size≤b)∧b≠X.env.locals∧(∀x c,X.env.cells.lookup x=some c→c≠b)∧∀p∈X.pn++pins,p.1≠b):ax X pins σ H' s':=by
  obtain⟨h',g',d',t',o'⟩:=s'
  have e:o'=s.os:=ho
  subst e
  exact I.call (g':=g') (t':=t') (d':=d') u hok hg hch
end
abbrev XK:=Value→Option Addr→Hp→Prop
abbrev St:=List (Option V)
abbrev VK:=V→Hp→Prop
abbrev TE:=St→Hp→VK→Prop
abbrev TT:=St→Hp→(Bool→Hp→Prop)→Prop
abbrev TA:=St→Hp→(List V→Hp→Prop)→Prop
structure qk where
  nx:St→Hp→Prop
  rt:VK
  bk:St→Hp→Prop:=fun _ _=>False
  ct:St→Hp→Prop:=fun _ _=>False
abbrev TS:=qk→St→Hp→Prop
def EP(X:Cx)(pins:List (Addr × Obj))(σ:St)(Q:VK)(u:Value)(s':Shared):Prop:=∃v H',ax X pins σ H' s'∧a9 v u∧Q v H'
def TP(X:Cx)(pins:List (Addr × Obj))(σ:St)(Q:Bool→Hp→Prop)(b:Bool)(s':Shared):Prop:=∃H',ax X pins σ H' s'∧Q b H'
def AP(X:Cx)(pins:List (Addr × Obj))(σ:St)(Q:List V→Hp→Prop)(us:List Value)(s':Shared):Prop:=∃vs H',ax X pins σ H' s'∧aJ vs us∧Q vs H'
def SP(X:Cx)(pins:List (Addr × Obj))(D:qk)(f:Flow)(s':Shared):Prop:=
  match f with
  | .next=>∃σ' H',ax X pins σ' H' s'∧D.nx σ' H'
  | .brk=>∃σ' H',ax X pins σ' H' s'∧D.bk σ' H'
  | .cont=>∃σ' H',ax X pins σ' H' s'∧D.ct σ' H'
  | .ret u=>∃v σ' H',ax X pins σ' H' s'∧a9 v u∧D.rt v H'
def PE(X:Cx)(e:Expr)(t:TE):Prop:=
  ∀(pins:List (Addr × Obj)) (s:Shared) (σ:St) (H:Hp) (Q:VK),ax X pins σ H s→t σ H Q→wpAny (model X.prog X.w) X.A (eval e X.env) (EP X pins σ Q) X.xe s
def PT(X:Cx)(e:Expr)(t:TT):Prop:=
  ∀(pins:List (Addr × Obj)) (s:Shared) (σ:St) (H:Hp) (Q:Bool→Hp→Prop),ax X pins σ H s→t σ H Q→wpAny (model X.prog X.w) X.A (isTrue e X.env (eval e X.env)) (TP X pins σ Q) X.xe s
def PW(X:Cx)(e:Expr)(t:TT):Prop:=
  ∀(whole:Sem Value) (pins:List (Addr × Obj)) (s:Shared) (σ:St) (H:Hp) (Q:Bool→Hp→Prop),ax X pins σ H s→t σ H Q→wpAny (model X.prog X.w) X.A (isTrue e X.env whole) (TP X pins σ Q) X.xe s
theorem PW.pt{X:Cx}{e:Expr}{t:TT}(h:PW X e t):PT X e t:=h _
def PA(X:Cx)(es:List Expr)(t:TA):Prop:=
  ∀(pos:Pos) (pins:List (Addr × Obj)) (s:Shared) (σ:St) (H:Hp) (Q:List V→Hp→Prop),ax X pins σ H s→t σ H Q→wpAny (model X.prog X.w) X.A (spliced (backTo pos (starEach es X.env))) (AP X pins σ Q) X.xe s
def PS(X:Cx)(st:Stmt)(t:TS):Prop:=
  ∀(pins:List (Addr × Obj)) (s:Shared) (σ:St) (H:Hp) (D:qk),ax X pins σ H s→t D σ H→wpAny (model X.prog X.w) X.A (exec st X.env) (SP X pins D) X.xe s
def jk(X:Cx)(st:List Stmt)(t:TS):Prop:=
  ∀(pins:List (Addr × Obj)) (s:Shared) (σ:St) (H:Hp) (D:qk),ax X pins σ H s→t D σ H→wpAny (model X.prog X.w) X.A (execs st X.env) (SP X pins D) X.xe s
theorem br{α:Type}{t:Sem α}{Q Q':α→Shared→Prop}{M:Model}{A:Around}{E:Value→Shared→Prop}{s:Shared}(h:wpAny M A t Q E s)(hQ:∀a s,Q a s→Q' a s):wpAny M A t Q' E s:=wpAny_mono h hQ fun _ _ x=>x
section
variable{X:Cx}
def rM(i:Nat):TE:=fun σ H Q=>∃v,σ[i]?=some (some v)∧Q v H
def tC(v:V):TE:=fun _ H Q=>Q v H
theorem jJ{i:Nat}{x:Str}{pos:Pos}(hN:X.N[i]?=some x)(hv:Gi X.env.scope x)(hd:(x==("__debug__":Str))=false:=by decide)(hcd:(x==("__classdict__":Str))=false:=by decide):PE X (.Name x pos) (rM i):=by
  intro pins s σ H Q I h
  obtain⟨v,e,h⟩:=h
  obtain⟨m,hn,hl⟩:=I.loc
  obtain⟨u,r,l⟩:=hl i x v hN e hv
  have fin:EP X pins σ Q u s:=⟨v,H,I,r,h⟩
  rcases l with ⟨hk,hm⟩ | ⟨hk,c,hc,hcell⟩
  · exact wpAny_Name (wpAny_loadName_local I.ok.kind hk hn hm fin) hd
  · rcases hk with hk | hk
    · exact wpAny_Name (wpAny_loadName_cell I.ok.kind hk hc hcell fin) hd
    · exact wpAny_Name (wpAny_loadName_free I.ok.kind hk hc hcell fin hcd) hd
theorem ES{i j pos}:PE X (.Constant (.int i) j pos) (tC (.int i)):=fun _ _ _ H _ I h=>wpAny_Constant_int ⟨.int i,H,I.tok _,⟨_,rfl⟩,h⟩
theorem Hb{b j pos}:PE X (.Constant (.bool b) j pos) (tC (.bl b)):=fun _ _ _ H _ I h=>Constant_bool ⟨.bl b,H,I,rfl,h⟩
theorem EU{j pos}:PE X (.Constant .none j pos) (tC .non):=fun _ _ _ H _ I h=>Constant_none ⟨.non,H,I,rfl,h⟩
theorem EX{x j pos}:PE X (.Constant (.str x) j pos) (tC (.str x)):=fun _ _ _ H _ I h=>Calls.Constant_str ⟨.str x,H,I.tok _,⟨_,rfl⟩,h⟩
def Gl(X:Cx)(x:Str):Prop:=X.env.kindOf x=some .globalImplicit
theorem vQ{E:Value→Shared→Prop}{pins:List (Addr × Obj)}{s:Shared}{σ:St}{H:Hp}{x:Str}{u:Value}{pos:Pos}{Q:Value→Shared→Prop}(I:ax X pins σ H s)(hg:Gl X x)(hm:X.mg x=some u)(h:Q u s)
    (hd:(x==("__debug__":Str))=false:=by decide):wpAny (model X.prog X.w) X.A (eval (.Name x pos) X.env) Q E s:=
  Calls.Name_function_global I.ok.kind hg (Calls.loadGlobal_global (by rw [I.ok.glob];exact I.mod.glob.keeps I.bk) hm h) hd
theorem ku{E:Value→Shared→Prop}{pins:List (Addr × Obj)}{s:Shared}{σ:St}{H:Hp}{x:Str}{u:Value}{pos:Pos}{Q:Value→Shared→Prop}(I:ax X pins σ H s)(hg:Gl X x)(hm:X.mg x=none)(hv:bootBuiltins x=some u)(h:Q u s)
    (hn:x≠"__name__":=by decide)(hd:(x==("__debug__":Str))=false:=by decide):wpAny (model X.prog X.w) X.A (eval (.Name x pos) X.env) Q E s:=by
  obtain⟨mb,h1,h2⟩:=I.mod.blt
  exact Calls.Name_function_global I.ok.kind hg (Calls.loadGlobal_builtin (by rw [I.ok.glob];exact I.mod.glob.keeps I.bk) hm (by rw [I.ok.blt];exact h1.keeps I.bk) ((h2 x hn).trans hv) h) hd
theorem BW{x:Str}{v:V}{u:Value}{pos:Pos}(hg:Gl X x)(hm:X.mg x=some u)(r:a9 v u)(hd:(x==("__debug__":Str))=false:=by decide):PE X (.Name x pos) (tC v):=
  fun _ _ _ H _ I h=>vQ I hg hm ⟨v,H,I,r,h⟩ hd
variable{a b:Expr}{ta tb:TE}{pos:Pos}
def PC(X:Cx)(op:CmpOp)(a b:Expr)(t:TE):Prop:=
  ∀(pins:List (Addr × Obj)) (s:Shared) (σ:St) (H:Hp) (Q:VK),ax X pins σ H s→t σ H Q→
    wpAny (model X.prog X.w) X.A (eval a X.env) (fun v s₁=>wpAny (model X.prog X.w) X.A (eval b X.env) (fun u s₂=>wpAny (model X.prog X.w) X.A (compareOp op v u) (EP X pins σ Q) X.xe s₂) X.xe s₁) X.xe s
theorem zg(b:Expr){op:CmpOp}(h:op≠.In)(h2:op≠.NotIn):behindInMarks op b=false:=by
  have e1:(op==CmpOp.In)=false:=by cases op<;>first | rfl | exact absurd rfl h
  have e2:(op==CmpOp.NotIn)=false:=by cases op<;>first | rfl | exact absurd rfl h2
  cases b<;>simp [behindInMarks,e1,e2]
def tB(t:TE):TT:=fun σ H Q=>t σ H fun x H1=>∃c,x=.bl c∧Q c H1
theorem E_{op:CmpOp}{t:TE}(h:PC X op a b t)(h1:behindInMarks op b=false:=by first | exact zg _ (by decide) (by decide) | rfl):PT X (.Compare a [op] [b] pos) (tB t):=by
  intro pins s σ H Q I hw
  refine wpAny_isTrue_Compare1 (br (h pins s σ H _ I hw) fun v s1 h1=>br h1 fun u s2 h2=>br h2 fun c s3 ⟨x,H1,I1,r1,q1⟩=>?_) h1
  obtain⟨d,rfl,q⟩:=q1
  cases r1
  exact wpAny_truthy_bool ⟨H1,I1,q⟩
theorem Fd{e:Expr}{t:TE}(h:PE X e t)(he:∀whole,isTrue e X.env whole=(do let v ←whole;standAt e.pos;holding [v] (truthy v)):=by intro _;rfl):PT X e (tB t):=by
  intro pins s σ H Q I hw
  refine isTrue_plain (br (h pins s σ H _ I hw) fun v s1 ⟨x,H1,I1,r1,q1⟩=>?_) (he _)
  obtain⟨d,rfl,q⟩:=q1
  cases r1
  exact wpAny_truthy_bool ⟨H1,I1,q⟩
variable{tA tB':TT}{eY:List Expr}
def HE(t u:TT):TT:=fun σ H Q=>t σ H fun c H1=>if c=true then u σ H1 Q else Q false H1
def Jt(t u:TT):TT:=fun σ H Q=>t σ H fun c H1=>if c=true then Q true H1 else u σ H1 Q
def HJ(t:TT):TT:=fun σ H Q=>t σ H fun c H1=>Q (!c) H1
theorem Cb(ha:PT X a tA):PW X (.BoolOp .And [a] pos) tA:=by
  intro wh pins s σ H Q I h
  refine isTrue_and (br (ha pins s σ H Q I h) fun c s1 e=>?_)
  cases c with
  | true=>exact isTrue_and_nil e
  | false=>exact e
theorem Ff(ha:PT X a tA):PW X (.BoolOp .Or [a] pos) tA:=by
  intro wh pins s σ H Q I h
  refine isTrue_or (br (ha pins s σ H Q I h) fun c s1 e=>?_)
  cases c with
  | false=>exact isTrue_or_nil e
  | true=>exact e
theorem Fe(ha:PT X a tA)(hb:PW X (.BoolOp .And (b::eY) pos) tB'):PW X (.BoolOp .And (a::b::eY) pos) (HE tA tB'):=by
  intro wh pins s σ H Q I h
  refine isTrue_and (br (ha pins s σ H _ I h) fun c s1 ⟨H1,I1,q1⟩=>?_)
  cases c with
  | true=>exact hb wh pins s1 σ H1 Q I1 q1
  | false=>exact⟨H1,I1,q1⟩
theorem Hi(ha:PT X a tA)(hb:PW X (.BoolOp .Or (b::eY) pos) tB'):PW X (.BoolOp .Or (a::b::eY) pos) (Jt tA tB'):=by
  intro wh pins s σ H Q I h
  refine isTrue_or (br (ha pins s σ H _ I h) fun c s1 ⟨H1,I1,q1⟩=>?_)
  cases c with
  | true=>exact⟨H1,I1,q1⟩
  | false=>exact hb wh pins s1 σ H1 Q I1 q1
theorem Fc(ha:PT X a tA):PT X (.UnaryOp .Not a pos) (HJ tA):=by
  intro pins s σ H Q I h
  exact isTrue_not (ha pins s σ H (fun c H1=>Q (!c) H1) I h)
def HF(ta tb:TE):TE:=fun σ H Q=>ta σ H fun x H1=>∃c,x=.bl c∧if c=true then tb σ H1 Q else Q (.bl false) H1
def HK(ta:TE):TE:=fun σ H Q=>ta σ H fun x H1=>∃c,x=.bl c∧Q (.bl (!c)) H1
theorem EW{op}{t:TE}(h:PE X a t):PE X (.BoolOp op [a] pos) t:=fun pins s σ H Q I hw=>BoolOp_one (h pins s σ H Q I hw)
theorem EQ(ha:PE X a ta)(hb:PE X (.BoolOp .And (b::eY) pos) tb):PE X (.BoolOp .And (a::b::eY) pos) (HF ta tb):=by
  intro pins s σ H Q I h
  refine BoolOp_and (br (ha pins s σ H _ I h) fun v s1 ⟨x,H1,I1,r1,q1⟩=>?_)
  obtain⟨c,rfl,q1⟩:=q1
  cases r1
  refine wpAny_truthy_bool ?_
  cases c with
  | true=>exact hb pins s1 σ H1 Q I1 q1
  | false=>exact⟨.bl false,H1,I1,rfl,q1⟩
theorem EV(ha:PE X a ta):PE X (.UnaryOp .Not a pos) (HK ta):=by
  intro pins s σ H Q I h
  refine UnaryOp_ (br (ha pins s σ H _ I h) fun v s1 ⟨x,H1,I1,r1,q1⟩=>?_)
  obtain⟨c,rfl,q1⟩:=q1
  cases r1
  exact not_of (wpAny_truthy_bool ⟨.bl (!c),H1,I1,rfl,q1⟩)
end
def f9(K:PySem.W.Frag)(H:Hp)(a:Addr)(xs:List V):Prop:=
  Rd H a (.lst xs)∨
    ∃(o:Obj) (its:Array Value) (n:Nat),K.lookup a=some o∧o.cls=.type "list"∧o.dict=none∧o.data=.seq its n∧its.size≤sizeLine∧aJ xs its.toList
def dz(K:PySem.W.Frag)(H:Hp)(a:Addr)(xs:List V):Prop:=
  Rd H a (.tup xs)∨
    ∃(o:Obj) (its:Array Value) (n:Nat),K.lookup a=some o∧o.cls=.type "tuple"∧o.dict=none∧o.data=.seq its n∧its.size≤sizeLine∧aJ xs its.toList
def Iz:Value→Option V
  | .none=>some .non
  | .bool b=>some (.bl b)
  | .int i _=>some (.int i)
  | .str x _=>some (.str x)
  | .bytes b _=>some (.byt b)
  | .float b _=>some (.flt b)
  | .ref a=>some (.ref a)
  | .type n=>some (.ty n)
  | _=>none
theorem a9.abs{x:V}{u:Value}(r:a9 x u):Iz u=some x:=by
  cases x with
  | non=>cases r;rfl
  | bl _=>cases r;rfl
  | int _=>obtain⟨t,rfl⟩:=r;rfl
  | str _=>obtain⟨t,rfl⟩:=r;rfl
  | byt _=>obtain⟨t,rfl⟩:=r;rfl
  | flt _=>obtain⟨t,rfl⟩:=r;rfl
  | ref _=>cases r;rfl
  | ty _=>cases r;rfl
theorem a9.inj{x y:V}{u:Value}(r:a9 x u)(q:a9 y u):x=y:=Option.some.inj (r.abs.symm.trans q.abs)
theorem aJ.inj:∀{xs ys:List V} {us:List Value},aJ xs us→aJ ys us→xs=ys
  | _,_,_,.nil,.nil=>rfl
  | _,_,_,.cons r t,.cons r' t'=>by rw [r.inj r',aJ.inj t t']
section
variable{X:Cx}{pins:List (Addr × Obj)}{σ:St}{H:Hp}{s:Shared}{a:Addr}{xs ys:List V}
theorem f9.of{K:PySem.W.Frag}(h:H a=some (.lst xs)):f9 K H a xs:=.inl (.inl h)
theorem dz.of{K:PySem.W.Frag}(h:H a=some (.tup xs)):dz K H a xs:=.inl (.inl h)
theorem ax.list(I:ax X pins σ H s)(h:f9 X.K H a xs):∃its:List Value,aJ xs its∧PlainL s.heap a its.toArray∧xs.length≤sizeLine:=by
  rcases h with h | ⟨o,its,n,hk,hc,hd,hs,hz,r⟩
  · obtain⟨z,its,n,r,e⟩:=h.ok I.hok
    exact⟨its,r,⟨_,n,e,rfl,rfl,rfl⟩,z⟩
  · refine⟨its.toList,r,⟨o,n,I.kIn a o hk,hc,hd,by simpa using hs⟩,?_⟩
    have e:=r.length
    simp only [Array.length_toList] at e
    lia
theorem ax.tuple(I:ax X pins σ H s)(h:dz X.K H a xs):∃its:List Value,aJ xs its∧IsTup s.heap a its.toArray∧xs.length≤sizeLine:=by
  rcases h with h | ⟨o,its,n,hk,hc,_,hs,hz,r⟩
  · obtain⟨z,its,r,p⟩:=h.ok I.hok
    exact⟨its,r,p.tup,z⟩
  · refine⟨its.toList,r,⟨o,I.kIn a o hk,hc,n,by simpa using hs⟩,?_⟩
    have e:=r.length
    simp only [Array.length_toList] at e
    lia
theorem ax.tupD(I:ax X pins σ H s)(h:dz X.K H a xs):∃o,s.heap.get? a=some o∧o.dict=none:=by
  rcases h with h | ⟨o,its,n,hk,hc,hd,hs,hz,r⟩
  · obtain⟨z,its,r,o,e,_,_,_,hd⟩:=h.ok I.hok
    exact⟨o,e,hd⟩
  · exact⟨o,I.kIn a o hk,hd⟩
theorem ax.list_inj(I:ax X pins σ H s)(h:f9 X.K H a xs)(h':f9 X.K H a ys):xs=ys:=by
  obtain⟨its,r,⟨o,n,e,_,_,d⟩,_⟩:=I.list h
  obtain⟨its',r',⟨o',n',e',_,_,d'⟩,_⟩:=I.list h'
  rw [e] at e';cases e'
  rw [d] at d'
  injection d' with d1 _
  have:its=its':=by simpa using congrArg Array.toList d1
  subst this
  exact r.inj r'
theorem ax.tuple_inj(I:ax X pins σ H s)(h:dz X.K H a xs)(h':dz X.K H a ys):xs=ys:=by
  obtain⟨its,r,⟨o,e,_,n,d⟩,_⟩:=I.tuple h
  obtain⟨its',r',⟨o',e',_,n',d'⟩,_⟩:=I.tuple h'
  rw [e] at e';cases e'
  rw [d] at d'
  injection d' with d1 _
  have:its=its':=by simpa using congrArg Array.toList d1
  subst this
  exact r.inj r'
end
abbrev Cx.wish(X:Cx)(E:Value→Shared→Prop):Cx:={X with xe:=E}
abbrev Cx.nox(X:Cx):Cx:=X.wish fun _ _=>False
theorem Cx.Ok.wish{X:Cx}(ok:X.Ok)(E:Value→Shared→Prop):(X.wish E).Ok:=
  ⟨ok.mod,ok.kind,ok.glob,ok.blt,ok.above,ok.inj,ok.has,ok.cab,ok.hd,ok.frames,ok.stk,ok.exf,ok.bs,ok.bsz,ok.noex,ok.exfs,ok.funs,ok.frf⟩
theorem Cx.Ok.unwish{X:Cx}{E:Value→Shared→Prop}(ok:(X.wish E).Ok):X.Ok:=
  ⟨ok.mod,ok.kind,ok.glob,ok.blt,ok.above,ok.inj,ok.has,ok.cab,ok.hd,ok.frames,ok.stk,ok.exf,ok.bs,ok.bsz,ok.noex,ok.exfs,ok.funs,ok.frf⟩
section
variable{X:Cx}{pins:List (Addr × Obj)}{σ:St}{H:Hp}{s:Shared}{E:Value→Shared→Prop}
theorem ax.wish(I:ax X pins σ H s)(E:Value→Shared→Prop):ax (X.wish E) pins σ H s:=⟨I.ok.wish E,I.os,I.bare,I.base,I.loc,I.cell,I.free,I.freeC,I.pin,I.hok,I.len⟩
theorem ax.unwish(I:ax (X.wish E) pins σ H s):ax X pins σ H s:=⟨I.ok.unwish,I.os,I.bare,I.base,I.loc,I.cell,I.free,I.freeC,I.pin,I.hok,I.len⟩
theorem SP.unwish{D:qk}{f:Flow}{s':Shared}(h:SP (X.wish E) pins D f s'):SP X pins D f s':=by
  cases f with
  | next=>obtain⟨σ',H',I,q⟩:=h;exact⟨σ',H',I.unwish,q⟩
  | brk=>obtain⟨σ',H',I,q⟩:=h;exact⟨σ',H',I.unwish,q⟩
  | cont=>obtain⟨σ',H',I,q⟩:=h;exact⟨σ',H',I.unwish,q⟩
  | ret u=>obtain⟨v,σ',H',I,r,q⟩:=h;exact⟨v,σ',H',I.unwish,r,q⟩
theorem jk.nox{st:List Stmt}{t:TS}(h:jk X.nox st t):jk X st t:=fun pins s σ H D I hw=>
  wpAny_mono (h pins s σ H D (I.wish _) hw) (fun _ _ q=>q.unwish) fun _ _ z=>False.elim z
end
section
variable{X:Cx}{st:Stmt}{eY:List Stmt}{t u:TS}{e:Expr}{te:TE}{pos:Pos}
def HI:TS:=fun D σ H=>D.nx σ H
def Je(t u:TS):TS:=fun D σ H=>t {D with nx:=u D} σ H
theorem vV:jk X [] HI:=fun _ _ σ H _ I h=>wpAny_execs_nil ⟨σ,H,I,h⟩
theorem oC(h1:PS X st t)(h2:jk X eY u):jk X (st::eY) (Je t u):=by
  intro pins s σ H D I h
  refine wpAny_execs_cons (br (h1 pins s σ H {D with nx:=u D} I h) fun f s1 q=>?_)
  cases f with
  | next=>
    obtain⟨σ',H',I',q⟩:=q
    exact h2 pins s1 σ' H' D I' q
  | ret v=>exact q
  | brk=>exact q
  | cont=>exact q
theorem vX(h1:PS X st t):jk X [st] t:=by
  intro pins s σ H D I h
  refine wpAny_execs_cons (br (h1 pins s σ H D I h) fun f s1 q=>?_)
  cases f with
  | next=>exact wpAny_execs_nil q
  | ret v=>exact q
  | brk=>exact q
  | cont=>exact q
theorem ax.quiet{pins:List (Addr × Obj)}{σ:St}{H:Hp}{s:Shared}(I:ax X pins σ H s):interactive X.env=false:=by simp [interactive,I.ok.kind]
def HH(te:TE):TS:=fun D σ H=>te σ H fun _ H1=>D.nx σ H1
theorem B7(he:PE X e te)(hs:swapsWith e none pos.line X.env=pure false:=by rfl):PS X (.Expr e pos) (HH te):=by
  intro pins s σ H D I h
  exact wpAny_Expr_any (br (he pins s σ H _ I h) fun v s1 ⟨x,H1,I1,r1,q1⟩=>⟨σ,H1,I1,q1⟩) I.quiet hs
def Jd(te:TE):TS:=fun D σ H=>te σ H D.rt
theorem zL(he:PE X e te):PS X (.Return (some e) pos) (Jd te):=by
  intro pins s σ H D I h
  exact wpAny_Return_some (br (he pins s σ H _ I h) fun v s1 ⟨x,H1,I1,r1,q1⟩=>⟨x,σ,H1,I1,r1,q1⟩)
def I_(c:TT)(t u:TS):TS:=fun D σ H=>c σ H fun b H1=>if b=true then t D σ H1 else u D σ H1
theorem Dq{c:Expr}{a b:List Stmt}{tc:TT}(hc:PT X c tc)(ha:jk X a t)(hb:jk X b u):PS X (.If c a b pos) (I_ tc t u):=by
  intro pins s σ H D I h
  refine wpAny_If (br (hc pins s σ H _ I h) fun d s1 ⟨H1,I1,q1⟩=>?_)
  cases d with
  | true=>exact ha pins s1 σ H1 D I1 q1
  | false=>exact hb pins s1 σ H1 D I1 q1
end
abbrev TG:=V→St→Hp→(St→Hp→Prop)→Prop
abbrev AW:=List V→St→Hp→(St→Hp→Prop)→Prop
def PG(X:Cx)(target:Expr)(t:TG):Prop:=
  ∀(pins:List (Addr × Obj)) (s:Shared) (σ:St) (H:Hp) (v:V) (u:Value) (Q:St→Hp→Prop),ax X pins σ H s→a9 v u→t v σ H Q→
    wpAny (model X.prog X.w) X.A (assign target X.env u) (fun _ s'=>∃σ' H',ax X pins σ' H' s'∧Q σ' H') X.xe s
def xS(X:Cx)(ts:List Expr)(t:AW):Prop:=
  ∀(pins:List (Addr × Obj)) (s:Shared) (σ:St) (H:Hp) (vs:List V) (us:List Value) (Q:St→Hp→Prop),ax X pins σ H s→aJ vs us→t vs σ H Q→
    wpAny (model X.prog X.w) X.A (assignInOrder ((assignEach ts X.env).map (·.2)) us) (fun _ s'=>∃σ' H',ax X pins σ' H' s'∧Q σ' H') X.xe s
abbrev DQ:=V→V→V→Hp→(Hp→Prop)→Prop
def Gw(X:Cx)(t:DQ):Prop:=
  ∀(pins:List (Addr × Obj)) (s:Shared) (σ:St) (H:Hp) (o i v:V) (ov iv u:Value) (Q:Hp→Prop),ax X pins σ H s→a9 o ov→a9 i iv→a9 v u→t o i v H Q→
    wpAny (model X.prog X.w) X.A (setItem ov iv u) (fun _ s'=>∃H',ax X pins σ H' s'∧Q H') X.xe s
section
variable{X:Cx}{pos:Pos}
def yE(i:Nat):TG:=fun v σ H Q=>Q (σ.set i (some v)) H
theorem BX{i:Nat}{x:Str}(hN:X.N.Nodup)(hi:X.N[i]?=some x)(hx:DL X.env.scope x)(hf:X.fn x=true∨X.env.scope.names.lookup x=some .local:=by first | exact .inl rfl | exact .inr rfl | assumption):PG X (.Name x pos) (yE i):=by
  intro pins s σ H v u Q I r h
  exact wpAny_assign_Name (lS I hN hi hx r (fun s' I'=>⟨_,H,I',h⟩) hf)
def IC:AW:=fun vs σ H Q=>vs=[]∧Q σ H
def GL(t:TG)(u:AW):AW:=fun vs σ H Q=>∃v r,vs=v::r∧t v σ H fun σ' H'=>u r σ' H' Q
theorem BZ:xS X [] IC:=by
  intro pins s σ H vs us Q I r h
  obtain⟨e,h⟩:=h
  subst e
  cases r
  exact assignInOrder_nil ⟨σ,H,I,h⟩
theorem zC{e:Expr}{es:List Expr}{t:TG}{u:AW}(h1:PG X e t)(h2:xS X es u)
    (hs:(assignEach (e::es) X.env).map (·.2)=assign e X.env::(assignEach es X.env).map (·.2):=by rfl):xS X (e::es) (GL t u):=by
  intro pins s σ H vs us Q I r h
  obtain⟨v,vr,e1,h⟩:=h
  subst e1
  cases r with
  | cons r rr=>
    rw [hs]
    refine assignInOrder_cons (br (h1 pins s σ H _ _ _ I r h) fun _ s1 ⟨σ1,H1,I1,q1⟩=>?_)
    exact h2 pins s1 σ1 H1 _ _ Q I1 rr q1
def wV(K:PySem.W.Frag)(n:Nat)(t:AW):TG:=fun v σ H Q=>∃a xs,v=.ref a∧dz K H a xs∧xs.length=n∧t xs σ H Q
theorem E3{es:List Expr}{k:Nat}{t:AW}{n:Nat}(hc:X.calm=true)(h:xS X es t)
    (hn:(assignEach es X.env).length=n:=by rfl)(hst:(assignEach es X.env).findIdx? (·.1)=none:=by rfl):PG X (.Tuple es k pos) (wV X.K n t):=by
  intro pins s σ H v u Q I r hw
  obtain⟨a,xs,e1,hq,hl,hw⟩:=hw
  subst e1
  cases r
  obtain⟨its,rv,ht,hz⟩:=I.tuple hq
  refine assign_Tuple_tuple (I.ok.hd hc) ht (by simp [hn,←hl,rv.length]) hst fun h' hx=>?_
  have I1:ax X pins σ H {s with heap:=h'}:=I.kept (t':=s.toks) fun b o e=>hx b o (Nat.ne_of_lt (Heap.lt_size e)) e
  exact h pins _ σ H xs _ Q I1 (by simpa using rv) hw
def IE(to ti:TE)(t:DQ):TG:=fun v σ H Q=>to σ H fun o H1=>ti σ H1 fun i H2=>t o i v H2 fun H3=>Q σ H3
theorem EZ{o i:Expr}{to ti:TE}{t:DQ}(ho:PE X o to)(hi:PE X i ti)(hs:Gw X t)
    (ha:∀v,assign (.Subscript o i pos) X.env v=(do
      let ov ←holding [v] (eval o X.env)
      let iv ←holding [v,ov] (eval i X.env)
      standAt pos
      holding [v,ov,iv] (setItem ov iv v)
      release [v,ov,iv] []):=by intro _;rfl):PG X (.Subscript o i pos) (IE to ti t):=by
  intro pins s σ H v u Q I r h
  rw [ha]
  refine wpAny_bind (wpAny_holding (br (ho pins s σ H _ I h) fun ov s1 ⟨x,H1,I1,r1,q1⟩=>?_))
  refine wpAny_bind (wpAny_holding (br (hi pins s1 σ H1 _ I1 q1) fun iv s2 ⟨y,H2,I2,r2,q2⟩=>?_))
  refine wpAny_bind (wpAny_standAt (wpAny_bind (wpAny_holding (br (hs pins s2 σ H2 x y v ov iv u _ I2 r1 r2 r q2) fun _ s3 ⟨H3,I3,q3⟩=>?_))))
  exact wpAny_release ⟨σ,H3,I3,q3⟩
def FR(te:TE)(g:TG):TS:=fun D σ H=>te σ H fun x H1=>g x σ H1 D.nx
theorem zJ{tg e:Expr}{te:TE}{g:TG}(he:PE X e te)(hg:PG X tg g)(hs:swapsWithSole [tg] e pos.line X.env=pure false:=by rfl)(hw:swappedStores [tg] e X.env=pure none:=by rfl)
    (h1:(assignEach [tg] X.env).map (·.2)=[assign tg X.env]:=by rfl):PS X (.Assign [tg] e pos) (FR te g):=by
  intro pins s σ H D I h
  refine wpAny_Assign_stores (br (he pins s σ H _ I h) fun v s1 ⟨x,H1,I1,r1,q1⟩=>?_) hs hw
  rw [h1]
  exact br (hg pins s1 σ H1 x v _ I1 r1 q1) fun _ s2 q=>q
theorem zN{i:Nat}{x:Str}{e:Expr}{te:TE}{pos':Pos}(hN:X.N.Nodup)(hi:X.N[i]?=some x)(hx:DL X.env.scope x)(he:PE X e te)(hs:swapsWith e (some (.Name x pos')) pos.line X.env=pure false:=by rfl)(hf:X.fn x=true∨X.env.scope.names.lookup x=some .local:=by first | exact .inl rfl | exact .inr rfl | assumption):
    PS X (.Assign [.Name x pos'] e pos) (FR te (yE i)):=by
  intro pins s σ H D I h
  refine wpAny_Assign_Name (br (he pins s σ H _ I h) fun v s1 ⟨y,H1,I1,r1,q1⟩=>?_) hs
  exact lS I1 hN hi hx r1 (fun s2 I2=>⟨_,H1,I2,q1⟩) hf
def Jc(i j:Nat)(ta:TA):TS:=fun D σ H=>ta σ H fun vs H1=>∃v w,vs=[v,w]∧D.nx ((σ.set i (some v)).set j (some w)) H1
theorem E8{i j:Nat}{x y:Str}{a b:Expr}{ta:TA}{px py pt:Pos}{kt k2 pt2}(hc:X.calm=true)(hN:X.N.Nodup)(hi:X.N[i]?=some x)(hj:X.N[j]?=some y)(hij:i≠j)
    (hx:X.env.scope.names.lookup x=some .local)(hy:X.env.scope.names.lookup y=some .local)(ha:PA X [a,b] ta)
    (hw:swappedStores [.Tuple [.Name x px,.Name y py] kt pt] (.Tuple [a,b] k2 pt2) X.env=pure (some [x,y]))
    (hs:swapsWithSole [.Tuple [.Name x px,.Name y py] kt pt] (.Tuple [a,b] k2 pt2) pos.line X.env=pure false:=by rfl):
    PS X (.Assign [.Tuple [.Name x px,.Name y py] kt pt] (.Tuple [a,b] k2 pt2) pos) (Jc i j ta):=by
  intro pins s σ H D I h
  rw [exec_Assign_arm]
  refine wpAny_bind (wpAny_standAt ?_)
  rw [hs]
  refine wpAny_bind (wpAny_pure ?_)
  rw [if_neg (by decide)]
  refine wpAny_bind (Tuple_ (br (ha _ pins s σ H _ I h) fun us s1 ⟨vs,H1,I1,r1,q1⟩=>?_))
  obtain⟨v,w,e1,q1⟩:=q1
  subst e1
  obtain⟨u1,u2,rfl,rv,rw'⟩:∃u1 u2,us=[u1,u2]∧a9 v u1∧a9 w u2:=by
    cases r1 with
    | cons p q=>
      cases q with
      | cons p' q'=>
        cases q'
        exact⟨_,_,rfl,p,p'⟩
  refine wpAny_newObj_type ?_ (by show 2≤sizeLine;decide)
  have I2:ax X pins σ H1 {s1 with heap:=s1.heap.push {cls:=.type "tuple",data:=.seq [u1,u2].toArray}}:=I1.kept (t':=s1.toks) fun b o e=>Heap.get?_push_of_some _ e
  rw [hw]
  refine wpAny_bind (wpAny_pure ?_)
  show wpAny (model X.prog X.w) X.A (do rule "assign.swapped-stores";let items ←unpackItems (.ref s1.heap.objs.size) 2 none;assignInOrder [fun v=>bindName X.env y v,fun v=>bindName X.env x v] items.reverse;pure Flow.next) _ _ _
  refine wpAny_bind (wpAny_rule (wpAny_bind (unpackItems_tuple (items:=#[u1,u2]) (I.ok.hd hc) (IsTup.new s1.heap _) fun h' hx'=>?_)))
  have I3:=I2.kept (h':=h') (t':=s1.toks) fun b o e=>hx' b o (Nat.ne_of_lt (Heap.lt_size e)) e
  show wpAny _ _ (assignInOrder [fun v=>bindName X.env y v,fun v=>bindName X.env x v] [u2,u1] >>= fun _=>pure Flow.next) _ _ _
  refine wpAny_bind (assignInOrder_cons (wpAny_bindName (lS I3 hN hj (.inl hy) rw' (fun s2 I4=>?_) (.inr hy))))
  refine assignInOrder_cons (wpAny_bindName (lS I4 hN hi (.inl hx) rv (fun s3 I5=>assignInOrder_nil (wpAny_pure ?_)) (.inr hx)))
  rw [List.set_comm _ _ (Ne.symm hij)] at I5
  exact⟨_,H1,I5,q1⟩
end
section
variable{X:Cx}{pos:Pos}
def FW(c:TT)(tb:TS):TS:=fun D σ H=>∃W:Nat→St→Hp→Prop,(∃m,W m σ H)∧∀m σ H,W m σ H→
  c σ H fun b H1=>if b=true then ∃N:St→Hp→Prop,(∀σ' H',N σ' H'→∃m',m' < m∧W m' σ' H')∧tb {D with nx:=N,ct:=N,bk:=D.nx} σ H1 else D.nx σ H1
theorem tD{c:Expr}{body:List Stmt}{tc:TT}{tb:TS}(hp:PassesOwn (model X.prog X.w) X.A X.env X.xe)(hc:PT X c tc)(hb:jk X body tb):PS X (.While c body [] pos) (FW tc tb):=by
  intro pins s σ H D I h
  obtain⟨W,⟨m0,w0⟩,turn⟩:=h
  refine wpAny_While (codeAny_whileLoop (fun n s'=>∃σ' H',ax X pins σ' H' s'∧W n σ' H') ?_ m0 ⟨σ,H,I,w0⟩)
  rintro n s1 ⟨σ1,H1,I1,w1⟩
  refine wpAny_passesOwn hp (br (hc pins s1 σ1 H1 _ I1 (turn n σ1 H1 w1)) fun b s2 ⟨H2,I2,q2⟩=>?_)
  cases b with
  | true=>
    obtain⟨N,hN,q2⟩:=q2
    rw [if_pos rfl]
    refine wpAny_passesOwn hp (br (hb pins s2 σ1 H2 _ I2 q2) fun f s3 q3=>?_)
    cases f with
    | next=>
      obtain⟨σ3,H3,I3,n3⟩:=q3
      obtain⟨m',hm,w3⟩:=hN σ3 H3 n3
      exact⟨m',hm,σ3,H3,I3,w3⟩
    | cont=>
      obtain⟨σ3,H3,I3,n3⟩:=q3
      obtain⟨m',hm,w3⟩:=hN σ3 H3 n3
      exact⟨m',hm,σ3,H3,I3,w3⟩
    | brk=>exact q3
    | ret v=>exact q3
  | false=>
    rw [if_neg Bool.false_ne_true]
    exact wpAny_execs_nil ⟨σ1,H2,I2,q2⟩
end
structure It where
  go:Nat→Hp→Prop
  yld:Nat→Hp→V→Hp→Prop
  stop:Nat→Hp→Prop
def jj(X:Cx)(pins:List (Addr × Obj))(H:Hp)(b:Addr):Prop:=
  H b=none∧b≠X.env.locals∧b∉X.fs∧(b∈X.ex∨X.s₀.heap.objs.size≤b)∧(∀x c,X.env.cells.lookup x=some c→c≠b)∧∀p∈X.pn++pins,p.1≠b
theorem ax.fpOk{X:Cx}{pins:List (Addr × Obj)}{σ:St}{H H':Hp}{s:Shared}{b:Addr}(I:ax X pins σ H s)(hb:s.heap.objs.size≤b)(hn:H' b=none):jj X pins H' b:=by
  refine⟨hn,Nat.ne_of_gt (Nat.lt_of_lt_of_le I.lt hb),I.nofs hb,.inr (Nat.le_trans I.sz hb),fun x c e z=>?_,fun p hp z=>?_⟩
  · obtain⟨v,q⟩:=I.cell x c e
    exact absurd (Nat.lt_of_lt_of_le q.lt (by rw [z];exact hb)) (Nat.lt_irrefl _)
  · exact absurd (Nat.lt_of_lt_of_le (Heap.lt_size (I.pin p hp).1) (by rw [z];exact hb)) (Nat.lt_irrefl _)
structure xY (P:Program) (w:World) (K:PySem.W.Frag) (tg:Expr) (J:It) (fp:List Addr) (it:Addr) (tn:Nat→Heap→Prop):Prop where
  mem:it∈fp
  obj:∀i h,tn i h→∀b∈fp,∃o,h.get? b=some o∧∀v,o.data≠.cell v
  keep:∀i h h',tn i h→(∀b∈fp,∀o,h.get? b=some o→h'.get? b=some o)→tn i h'
  item:∀(X:Cx),X.prog=P→X.w=w→X.K=K→X.calm=true→∀(i:Nat) (pins:List (Addr × Obj)) (s:Shared) (σ:St) (H:Hp) (E:Value→Shared→Prop),ax X pins σ H s→(∀b∈fp,jj X pins H b)→tn i s.heap→J.go i H→
    wpAny (model P w) X.A (pyNext (.ref it)) (fun r s1=>∃u,r=some u∧
      wpAny (model P w) X.A (letOwnedTupleGo tg (.ref it) u) (fun _ s2=>∃x H',ax X pins σ H' s2∧a9 x u∧J.yld i H x H'∧tn (i+1) s2.heap∧∀b∈fp,H' b=none) E s1) E s
  done:∀(X:Cx),X.prog=P→X.w=w→X.K=K→X.calm=true→∀(i:Nat) (pins:List (Addr × Obj)) (s:Shared) (σ:St) (H:Hp) (E:Value→Shared→Prop),ax X pins σ H s→(∀b∈fp,jj X pins H b)→tn i s.heap→J.stop i H→
    wpAny (model P w) X.A (pyNext (.ref it)) (fun r s1=>r=none∧ax X pins σ H s1) E s
  self:∀(A:Around) (i:Nat) (s:Shared) (Q:Value→Shared→Prop) (E:Value→Shared→Prop),tn i s.heap→Q (.ref it) s→wpAny (model P w) A (pyIter (.ref it)) Q E s
abbrev TI:=St→Hp→(It→Hp→Prop)→Prop
def Jk(X:Cx)(pins:List (Addr × Obj))(σ:St)(tg:Expr)(R:It→Hp→Prop)(itv:Value)(s2:Shared):Prop:=
  ∃(it:Addr) (fp:List Addr) (tn:Nat→Heap→Prop) (J:It) (H':Hp),itv=.ref it∧ax X pins σ H' s2∧xY X.prog X.w X.K tg J fp it tn∧tn 0 s2.heap∧(∀b∈fp,jj X pins H' b)∧R J H'
def PI(X:Cx)(tg iter:Expr)(wi:TI):Prop:=
  ∀(pins:List (Addr × Obj)) (s:Shared) (σ:St) (H:Hp) (R:It→Hp→Prop),ax X pins σ H s→wi σ H R→
    wpAny (model X.prog X.w) X.A (eval iter X.env) (fun v s1=>wpAny (model X.prog X.w) X.A (pyIter v) (Jk X pins σ tg R) X.xe s1) X.xe s
theorem yJ{M:Model}{A:Around}{E:Value→Shared→Prop}{s:Shared}{tg:Expr}{it:Addr}{u:Value}{o:Obj}{n:String}{vs:Array Value}{Q:Unit→Shared→Prop}(ho:s.heap.get? it=some o)(hc:o.cls=.type n)(hd:o.data=.fields vs)
    (hn:["enumerate","zip","dict_itemiterator","dict_reverseitemiterator","odict_iterator","itertools.zip_longest","itertools.pairwise"].contains n=false)(hQ:Q () s):wpAny M A (letOwnedTupleGo tg (.ref it) u) Q E s:=by
  unfold letOwnedTupleGo
  cases tg<;>first
    | exact wpAny_pure hQ
    | (cases u<;>first
        | exact wpAny_pure hQ
        | (refine wpAny_bind (wpAny_load ho ?_)
           rw [hc,hd]
           show wpAny M A (if (["enumerate","zip","dict_itemiterator","dict_reverseitemiterator","odict_iterator","itertools.zip_longest","itertools.pairwise"].contains n&&vs[0]?==some (rawInt _))=true then _ else _) Q E s
           rw [if_neg (by intro h;rw [hn,Bool.false_and] at h;cases h)]
           exact wpAny_pure hQ))
def Il(K:PySem.W.Frag)(a:Addr):It:=
  ⟨fun i H=>∃xs x,f9 K H a xs∧xs[i]?=some x,fun i H x H'=>H'=H∧∀xs,f9 K H a xs→xs[i]?=some x,fun i H=>∃xs,f9 K H a xs∧xs.length≤i⟩
def Im(K:PySem.W.Frag)(a:Addr):It:=
  ⟨fun i H=>∃xs x,dz K H a xs∧xs[i]?=some x,fun i H x H'=>H'=H∧∀xs,dz K H a xs→xs[i]?=some x,fun i H=>∃xs,dz K H a xs∧xs.length≤i⟩
def HY(lo:Int)(n:Nat):It:=⟨fun i _=>i < n,fun i H x H'=>H'=H∧x=.int (lo+i),fun i _=>n≤i⟩
theorem xJ{P:Program}{w:World}{K:PySem.W.Frag}{tg:Expr}(a it:Addr):xY P w K tg (Il K a) [it] it (fun i h=>h.IsListIter it a i) where
  mem:=by simp
  obj:=fun i h st b hb=>by
    have e:b=it:=by simpa using hb
    subst e
    obtain⟨o,e,c,d⟩:=st
    exact⟨o,e,fun v z=>by rw [d] at z;cases z⟩
  keep:=fun i h h' st k=>st.at fun o e=>k it (by simp) o e
  item:=by
    intro X hP hw hK hc i pins s σ H E I hf st hg
    subst hP hw hK
    obtain⟨xs,x,hq,hx⟩:=hg
    obtain⟨its,rv,p,hz⟩:=I.list hq
    obtain⟨u,hu,ru⟩:=rv.get hx
    obtain⟨f0,f1,f2,f3,f4,f5⟩:=hf it (by simp)
    refine wpAny_pyNext_list_item st p.isList (x:=u) (by simpa using hu) fun h' st' sb=>?_
    have I1:ax X pins σ H {s with heap:=h'}:=I.turned (t':=s.toks) (fun b o hb e=>(sb.2 b hb).trans e) f0 f1 f3 f4 f5
    obtain⟨o,e,c,d⟩:=id st'
    exact⟨u,rfl,yJ (s:={s with heap:=h'}) e c d (by decide) ⟨x,H,I1,ru,⟨rfl,fun ys hy=>by rw [I.list_inj hy hq];exact hx⟩,st',fun b hb=>(hf b hb).1⟩⟩
  done:=by
    intro X hP hw hK hc i pins s σ H E I hf st hg
    subst hP hw hK
    obtain⟨xs,hq,hx⟩:=hg
    obtain⟨its,rv,p,hz⟩:=I.list hq
    obtain⟨f0,f1,f2,f3,f4,f5⟩:=hf it (by simp)
    have hl:=rv.length
    exact wpAny_pyNext_list_end (I.ok.hd hc) st p.isList (by simp;lia) fun h' eb=>⟨rfl,I.turned (t':=s.toks) (fun b o hb e=>eb b o hb e) f0 f1 f3 f4 f5⟩
  self:=fun _ _ _ _ _ st h=>wpAny_pyIter_listiter st h
theorem u9{P:Program}{w:World}{K:PySem.W.Frag}{tg:Expr}(a it:Addr):xY P w K tg (Im K a) [it] it (fun i h=>h.IsTupleIter it a i) where
  mem:=by simp
  obj:=fun i h st b hb=>by
    have e:b=it:=by simpa using hb
    subst e
    obtain⟨o,e,c,d⟩:=st
    exact⟨o,e,fun v z=>by rw [d] at z;cases z⟩
  keep:=fun i h h' st k=>st.at fun o e=>k it (by simp) o e
  item:=by
    intro X hP hw hK hc i pins s σ H E I hf st hg
    subst hP hw hK
    obtain⟨xs,x,hq,hx⟩:=hg
    obtain⟨its,rv,p,hz⟩:=I.tuple hq
    obtain⟨u,hu,ru⟩:=rv.get hx
    obtain⟨f0,f1,f2,f3,f4,f5⟩:=hf it (by simp)
    refine wpAny_pyNext_tuple_item st (show s.heap.IsTuple a its.toArray from p) (x:=u) (by simpa using hu) fun h' st' sb=>?_
    have I1:ax X pins σ H {s with heap:=h'}:=I.turned (t':=s.toks) (fun b o hb e=>(sb.2 b hb).trans e) f0 f1 f3 f4 f5
    obtain⟨o,e,c,d⟩:=id st'
    exact⟨u,rfl,yJ (s:={s with heap:=h'}) e c d (by decide) ⟨x,H,I1,ru,⟨rfl,fun ys hy=>by rw [I.tuple_inj hy hq];exact hx⟩,st',fun b hb=>(hf b hb).1⟩⟩
  done:=by
    intro X hP hw hK hc i pins s σ H E I hf st hg
    subst hP hw hK
    obtain⟨xs,hq,hx⟩:=hg
    obtain⟨its,rv,p,hz⟩:=I.tuple hq
    obtain⟨f0,f1,f2,f3,f4,f5⟩:=hf it (by simp)
    have hl:=rv.length
    exact wpAny_pyNext_tuple_end (I.ok.hd hc) st (show s.heap.IsTuple a its.toArray from p) (by simp;lia) fun h' eb=>⟨rfl,I.turned (t':=s.toks) (fun b o hb e=>eb b o hb e) f0 f1 f3 f4 f5⟩
  self:=fun _ _ _ _ _ st h=>wpAny_pyIter_tupleiter st h
theorem u7{P:Program}{w:World}{K:PySem.W.Frag}{tg:Expr}(it:Addr)(lo:Int)(n:Nat):xY P w K tg (HY lo n) [it] it (fun i h=>IsRangeIter h it (lo+(i:Nat)*1) ((n:Int) - (i:Nat)) 1) where
  mem:=by simp
  obj:=fun i h st b hb=>by
    have e:b=it:=by simpa using hb
    subst e
    exact⟨_,st,fun v z=>by
      have z':Data.fields _=Data.cell v:=z
      cases z'⟩
  keep:=fun i h h' st k=>k it (by simp) _ st
  item:=by
    intro X hP hw hK hc i pins s σ H E I hf st hg
    subst hP hw hK
    obtain⟨f0,f1,f2,f3,f4,f5⟩:=hf it (by simp)
    have W:=Walks.range (prog:=X.prog) (w:=X.w) (I.ok.hd hc) it lo 1 n
    refine W.item i s _ _ hg st fun v h' tk hv st' kk=>?_
    obtain⟨t,rfl⟩:=hv
    have I1:ax X pins σ H {s with heap:=h',toks:=tk}:=I.turned (fun b o hb e=>kk b o (by simpa using hb) e) f0 f1 f3 f4 f5
    refine⟨_,rfl,yJ (s:={s with heap:=h',toks:=tk}) (n:="range_iterator") st' rfl rfl (by decide) ⟨.int (lo+i),H,I1,⟨t,?_⟩,⟨rfl,rfl⟩,st',fun b hb=>(hf b hb).1⟩⟩
    rw [Int.mul_one]
  done:=by
    intro X hP hw hK hc i pins s σ H E I hf st hg
    subst hP hw hK
    obtain⟨f0,f1,f2,f3,f4,f5⟩:=hf it (by simp)
    exact wpAny_pyNext_range_end (I.ok.hd hc) st (by have:n≤i:=hg;lia) fun h' eb=>⟨rfl,I.turned (t':=s.toks) (fun b o hb e=>eb b o hb e) f0 f1 f3 f4 f5⟩
  self:=fun _ _ _ _ _ st h=>wpAny_pyIter_rangeiter st h
section
variable{X:Cx}{tg:Expr}
def Df(K:PySem.W.Frag)(tl:TE):TI:=fun σ H R=>tl σ H fun x H1=>∃a,x=.ref a∧(∃xs,f9 K H1 a xs)∧R (Il K a) H1
def GP(K:PySem.W.Frag)(tl:TE):TI:=fun σ H R=>tl σ H fun x H1=>∃a,x=.ref a∧(∃xs,dz K H1 a xs)∧R (Im K a) H1
theorem B0{l:Expr}{tl:TE}(hl:PE X l tl):PI X tg l (Df X.K tl):=by
  intro pins s σ H R I h
  refine br (hl pins s σ H _ I h) fun v s1 ⟨x,H1,I1,r1,q1⟩=>?_
  obtain⟨a,e,⟨xs,hq⟩,q⟩:=q1
  subst e
  cases r1
  obtain⟨its,rv,p,hz⟩:=I1.list hq
  refine wpAny_pyIter_list p.isList ?_
  refine⟨s1.heap.objs.size,[s1.heap.objs.size],_,_,H1,rfl,I1.kept (t':=s1.toks) fun b o e=>Heap.get?_push_of_some _ e,xJ a _,⟨_,Heap.get?_push_size _ rfl,rfl,rfl⟩,fun b hb=>?_,q⟩
  have e:b=s1.heap.objs.size:=by simpa using hb
  subst e
  exact I1.fpOk (Nat.le_refl _) (I1.hok.fresh (Nat.le_refl _))
theorem E5{l:Expr}{tl:TE}(hl:PE X l tl):PI X tg l (GP X.K tl):=by
  intro pins s σ H R I h
  refine br (hl pins s σ H _ I h) fun v s1 ⟨x,H1,I1,r1,q1⟩=>?_
  obtain⟨a,e,⟨xs,hq⟩,q⟩:=q1
  subst e
  cases r1
  obtain⟨its,rv,p,hz⟩:=I1.tuple hq
  refine wpAny_pyIter_tuple (show s1.heap.IsTuple a its.toArray from p) ?_
  refine⟨s1.heap.objs.size,[s1.heap.objs.size],_,_,H1,rfl,I1.kept (t':=s1.toks) fun b o e=>Heap.get?_push_of_some _ e,u9 a _,⟨_,Heap.get?_push_size _ rfl,rfl,rfl⟩,fun b hb=>?_,q⟩
  have e:b=s1.heap.objs.size:=by simpa using hb
  subst e
  exact I1.fpOk (Nat.le_refl _) (I1.hok.fresh (Nat.le_refl _))
theorem Ag{pins:List (Addr × Obj)}{σ:St}{H:Hp}{s:Shared}{R:It→Hp→Prop}{E:Value→Shared→Prop}{lo hi:Int}{t u v:Tok}{tk:Nat}(I:ax X pins σ H s)(h1: -(2 ^ 62)≤lo)(h2:lo < 2 ^ 62)(h3: -(2 ^ 62)≤hi)(h4:hi < 2 ^ 62)
    (q:R (HY lo (hi - lo).toNat) H):wpAny (model X.prog X.w) X.A (pyIter (.ref s.heap.objs.size)) (Jk X pins σ tg R) E {s with heap:=s.heap.push {cls:=.type "range",data:=.fields #[.int lo t,.int hi u,.int 1 v]},toks:=tk}:=by
  refine wpAny_pyIter_range (IsRange.new ..) (small_one h1 h2 h3 h4) ?_
  have I1:ax X pins σ H {s with heap:=s.heap.push {cls:=.type "range",data:=.fields #[.int lo t,.int hi u,.int 1 v]},toks:=tk}:=I.kept fun b o e=>Heap.get?_push_of_some _ e
  refine⟨(s.heap.push {cls:=.type "range",data:=.fields #[.int lo t,.int hi u,.int 1 v]}).objs.size,[(s.heap.push {cls:=.type "range",data:=.fields #[.int lo t,.int hi u,.int 1 v]}).objs.size],_,_,H,rfl,
    I1.kept (t':=tk) fun b o e=>Heap.get?_push_of_some _ e,u7 _ lo (hi - lo).toNat,?_,fun b hb=>?_,q⟩
  · have e1:lo+((0:Nat):Int)*1=lo:=by simp
    have e2:(((hi - lo).toNat:Nat):Int) - ((0:Nat):Int)=Builtin.Range.rangeSize lo hi 1:=by rw [rangeSize_one];split<;>lia
    show IsRangeIter _ _ (lo+((0:Nat):Int)*1) ((((hi - lo).toNat:Nat):Int) - ((0:Nat):Int)) 1
    rw [e1,e2]
    exact Heap.get?_push_size _ rfl
  · have e:b=(s.heap.push {cls:=.type "range",data:=.fields #[.int lo t,.int hi u,.int 1 v]}).objs.size:=by simpa using hb
    subst e
    exact I1.fpOk (Nat.le_refl _) (I1.hok.fresh (Nat.le_refl _))
def GO(ta:TA):TI:=fun σ H R=>ta σ H fun vs H1=>∃j:Int,vs=[.int j]∧ -(2 ^ 62)≤j∧j < 2 ^ 62∧R (HY 0 j.toNat) H1
theorem xn{a:Expr}{ta:TA}{p pos:Pos}(hg:Gl X "range")(hm:X.mg "range"=none)(ha:PA X [a] ta)(hs:starEach [a] X.env=[(false,eval a X.env)]:=by rfl):PI X tg (.Call (.Name "range" p) [a] [] pos) (GO ta):=by
  intro pins s σ H R I h
  refine Call_ (ku I hg hm boot_range (PyProof.Rows.callWith_type1 (br (ha pos pins s σ H _ I h) fun us s1 ⟨vs,H1,I1,r1,q1⟩=>?_) hs rfl))
  obtain⟨j,e,q1,q2,q⟩:=q1
  subst e
  cases r1 with
  | cons r rr=>
    cases rr
    obtain⟨t,rfl⟩:=r
    exact call_range_1 (Ag I1 (by lia) (by lia) q1 q2 (by simpa using q))
def I0(wi:TI)(g:TG)(tb:TS):TS:=fun D σ H=>wi σ H fun J H1=>∃W:Nat→Nat→St→Hp→Prop,(∃m,W 0 m σ H1)∧∀i m σ H,W i m σ H→
  (J.stop i H∧D.nx σ H)∨(J.go i H∧∃N:St→Hp→Prop,(∀σ' H',N σ' H'→∃m',m' < m∧W (i+1) m' σ' H')∧∀x H',J.yld i H x H'→g x σ H' fun σ2 H2=>tb {D with nx:=N,ct:=N,bk:=D.nx} σ2 H2)
def jK(fp:List Addr)(h:Heap):List (Addr × Obj):=fp.filterMap fun b=>(h.get? b).map fun o=>(b,o)
theorem bZ{fp:List Addr}{h:Heap}{b:Addr}{o:Obj}(hb:b∈fp)(e:h.get? b=some o):(b,o)∈jK fp h:=List.mem_filterMap.mpr ⟨b,hb,by rw [e];rfl⟩
theorem xf{fp:List Addr}{h:Heap}{p:Addr × Obj}(hp:p∈jK fp h):p.1∈fp∧h.get? p.1=some p.2:=by
  obtain⟨b,hb,e⟩:=List.mem_filterMap.mp hp
  cases q:h.get? b with
  | none=>rw [q] at e;cases e
  | some o=>
    rw [q] at e
    have e':(b,o)=p:=Option.some.inj e
    subst e'
    exact⟨hb,q⟩
theorem ax.pinned{pins:List (Addr × Obj)}{σ:St}{H:Hp}{s:Shared}{fp:List Addr}(I:ax X pins σ H s)(hf:∀b∈fp,jj X pins H b)(ho:∀b∈fp,∃o,s.heap.get? b=some o∧∀v,o.data≠.cell v):ax X (pins++jK fp s.heap) σ H s:=
  I.pins_of fun p hp=>(Mc hp).elim (fun z=>I.pin p (List.mem_append_right _ z)) fun z=>by
    obtain⟨hb,e⟩:=xf z
    obtain⟨f0,f1,f2,_⟩:=hf p.1 hb
    obtain⟨o,e',d⟩:=ho p.1 hb
    rw [e] at e';cases e'
    exact⟨e,f0,f1,f2,d⟩
theorem ax.unpinned{pins pl:List (Addr × Obj)}{σ:St}{H:Hp}{s:Shared}(I:ax X (pins++pl) σ H s):ax X pins σ H s:=I.pins_of fun p hp=>I.pin p (List.mem_append_right _ (List.mem_append_left _ hp))
theorem zK{iter:Expr}{body:List Stmt}{wi:TI}{g:TG}{tb:TS}{pos:Pos}(hp:PassesOwn (model X.prog X.w) X.A X.env X.xe)(hc:X.calm=true)(hi:PI X tg iter wi)(hg:PG X tg g)(hb:jk X body tb)
    (hs:∀x,foldedSetIterable iter X.env x=pure x:=by intro _;rfl):PS X (.For tg iter body [] pos) (I0 wi g tb):=by
  intro pins s σ H D I h
  refine wpAny_For (br (hi pins s σ H _ I h) fun v s1 h1=>br h1 fun itv s2 h2=>?_) hs
  obtain⟨it,fp,tn,J,H2,e,I2,T,st2,f2,W,⟨m0,w0⟩,turn⟩:=h2
  subst e
  have stat:∀{H':Hp},(∀b∈fp,H' b=none)→∀b∈fp,jj X pins H' b:=fun hn b hb=>⟨hn b hb,(f2 b hb).2⟩
  refine codeAny_forLoop_any (fun n s'=>∃i σ' H',ax X pins σ' H' s'∧tn i s'.heap∧(∀b∈fp,H' b=none)∧W i n σ' H') ?_ m0 ⟨0,σ,H2,I2,st2,fun b hb=>(f2 b hb).1,w0⟩
  rintro n s3 ⟨i,σ3,H3,I3,st3,fr3,w3⟩
  rcases turn i n σ3 H3 w3 with ⟨stop,qn⟩ | ⟨go,N,hN,step⟩
  · refine wpAny_passesOwn hp (br (T.done X rfl rfl rfl hc i pins s3 σ3 H3 X.xe I3 (stat fr3) st3 stop) fun r s4 ⟨hr,I4⟩=>?_)
    subst hr
    exact wpAny_execs_nil ⟨σ3,H3,I4,qn⟩
  · refine wpAny_passesOwn hp (br (T.item X rfl rfl rfl hc i pins s3 σ3 H3 X.xe I3 (stat fr3) st3 go) fun r s4 ⟨u,hr,h4⟩=>?_)
    subst hr
    refine wpAny_passesOwn hp (br h4 fun _ s5 ⟨x,H5,I5,r5,y5,st5,fr5⟩=>?_)
    have I5':=I5.pinned (stat fr5) (T.obj _ _ st5)
    refine wpAny_passesOwn hp (br (hg _ s5 σ3 H5 x u _ I5' r5 (step x H5 y5)) fun _ s6 ⟨σ6,H6,I6,q6⟩=>?_)
    refine wpAny_passesOwn hp (br (hb _ s6 σ6 H6 _ I6 q6) fun f s7 q7=>?_)
    have again:∀{σ7:St} {H7:Hp},ax X (pins++jK fp s5.heap) σ7 H7 s7→N σ7 H7→∃m,m < n∧∃i σ' H',ax X pins σ' H' s7∧tn i s7.heap∧(∀b∈fp,H' b=none)∧W i m σ' H':=fun{σ7 H7} I7 n7=>by
      obtain⟨m',hm,w7⟩:=hN σ7 H7 n7
      refine⟨m',hm,i+1,σ7,H7,I7.unpinned,T.keep _ _ _ st5 fun b hb o e=>(I7.pin (b,o) (List.mem_append_right _ (List.mem_append_right _ (bZ hb e)))).1,fun b hb=>?_,w7⟩
      obtain⟨o,e,d⟩:=T.obj _ _ st5 b hb
      exact(I7.pin (b,o) (List.mem_append_right _ (List.mem_append_right _ (bZ hb e)))).2.1
    cases f with
    | next=>obtain⟨σ7,H7,I7,n7⟩:=q7;exact again I7 n7
    | cont=>obtain⟨σ7,H7,I7,n7⟩:=q7;exact again I7 n7
    | brk=>obtain⟨σ7,H7,I7,q7⟩:=q7;exact⟨σ7,H7,I7.unpinned,q7⟩
    | ret v=>obtain⟨x7,σ7,H7,I7,r7,q7⟩:=q7;exact⟨x7,σ7,H7,I7.unpinned,r7,q7⟩
end
abbrev R2:=V→V→Hp→VK→Prop
def fg(X:Cx)(f:Value→Value→Sem Value)(r:R2):Prop:=
  ∀(pins:List (Addr × Obj)) (s:Shared) (σ:St) (H:Hp) (x y:V) (v u:Value) (Q:VK),ax X pins σ H s→a9 x v→a9 y u→r x y H Q→
    wpAny (model X.prog X.w) X.A (f v u) (EP X pins σ Q) X.xe s
def Ib(X:Cx)(f:Value→Sem Value)(r:V→Hp→VK→Prop):Prop:=
  ∀(pins:List (Addr × Obj)) (s:Shared) (σ:St) (H:Hp) (x:V) (v:Value) (Q:VK),ax X pins σ H s→a9 x v→r x H Q→
    wpAny (model X.prog X.w) X.A (f v) (EP X pins σ Q) X.xe s
def dQ(X:Cx)(f:Value)(r:List V→Hp→VK→Prop):Prop:=
  ∀(pins:List (Addr × Obj)) (s:Shared) (σ:St) (H:Hp) (xs:List V) (us:List Value) (Q:VK),ax X pins σ H s→aJ xs us→r xs H Q→
    wpAny (model X.prog X.w) X.A (call f us) (EP X pins σ Q) X.xe s
def HL(r:R2)(ta tb:TE):TE:=fun σ H Q=>ta σ H fun x H1=>tb σ H1 fun y H2=>r x y H2 Q
def Jv(r:V→Hp→VK→Prop)(ta:TE):TE:=fun σ H Q=>ta σ H fun x H1=>r x H1 Q
def rI(C:Int→Int→Prop)(g:Int→Int→V):R2:=fun x y H Q=>∃i j,x=.int i∧y=.int j∧C i j∧Q (g i j) H
def uR(g:Int→Int→V):R2:=fun x y H Q=>∃i j,x=.int i∧y=.int j∧Q (g i j) H
def rU(g:Int→V):V→Hp→VK→Prop:=fun x H Q=>∃i,x=.int i∧Q (g i) H
section
variable{X:Cx}{a b c:Expr}{ta tb tc:TE}{pos:Pos}
theorem DT(ha:PE X a ta)(hb:PE X b tb){pins:List (Addr × Obj)}{s:Shared}{σ:St}{H:Hp}{R:V→V→Hp→Prop}(I:ax X pins σ H s)
    (h:ta σ H fun x H1=>tb σ H1 fun y H2=>R x y H2){Q:Value→Shared→Prop}{f:Value→Value→Sem Value}
    (hf:∀v u s2 x y H2,ax X pins σ H2 s2→a9 x v→a9 y u→R x y H2→wpAny (model X.prog X.w) X.A (f v u) Q X.xe s2):
    wpAny (model X.prog X.w) X.A (eval a X.env) (fun v s₁=>wpAny (model X.prog X.w) X.A (eval b X.env) (fun u s₂=>wpAny (model X.prog X.w) X.A (f v u) Q X.xe s₂) X.xe s₁) X.xe s:=by
  refine br (ha pins s σ H _ I h) fun v s1 ⟨x,H1,I1,r1,q1⟩=>?_
  refine br (hb pins s1 σ H1 _ I1 q1) fun u s2 ⟨y,H2,I2,r2,q2⟩=>?_
  exact hf v u s2 x y H2 I2 r1 r2 q2
theorem Hd{op:Operator}{r:R2}(ho:fg X (binaryOp op) r)(ha:PE X a ta)(hb:PE X b tb):PE X (.BinOp a op b pos) (HL r ta tb):=by
  intro pins s σ H Q I h
  exact wpAny_BinOp (DT ha hb I h fun v u s2 x y H2 I2 rx ry q=>ho pins s2 σ H2 x y v u Q I2 rx ry q)
theorem Hf{op:UnaryOp}{r:V→Hp→VK→Prop}(ho:Ib X (unaryOp op) r)(ha:PE X a ta):PE X (.UnaryOp op a pos) (Jv r ta):=by
  intro pins s σ H Q I h
  exact UnaryOp_ (br (ha pins s σ H _ I h) fun v s1 ⟨x,H1,I1,r1,q1⟩=>ho pins s1 σ H1 x v Q I1 r1 q1)
theorem G4{f:Value→Value→Sem Value}{C:Int→Int→Prop}{g:Int→Int→Int}
    (rule:∀(i j:Int) (t u:Tok) (s:Shared) (Q:Value→Shared→Prop) (E:Value→Shared→Prop),C i j→Q (.int (g i j) s.toks) {s with toks:=s.toks+1}→wpAny (model X.prog X.w) X.A (f (.int i t) (.int j u)) Q E s):
    fg X f (rI C fun i j=>.int (g i j)):=by
  intro pins s σ H x y v u Q I rx ry h
  obtain⟨i,j,rfl,rfl,hc,q⟩:=h
  obtain⟨t,rfl⟩:=rx
  obtain⟨t',rfl⟩:=ry
  exact rule i j t t' s _ _ hc ⟨.int (g i j),H,I.tok _,⟨_,rfl⟩,q⟩
theorem G5{f:Value→Value→Sem Value}{g:Int→Int→Int}
    (rule:∀(i j:Int) (t u:Tok) (s:Shared) (Q:Value→Shared→Prop) (E:Value→Shared→Prop),Q (.int (g i j) s.toks) {s with toks:=s.toks+1}→wpAny (model X.prog X.w) X.A (f (.int i t) (.int j u)) Q E s):
    fg X f (uR fun i j=>.int (g i j)):=by
  intro pins s σ H x y v u Q I rx ry h
  obtain⟨i,j,rfl,rfl,q⟩:=h
  obtain⟨t,rfl⟩:=rx
  obtain⟨t',rfl⟩:=ry
  exact rule i j t t' s _ _ ⟨.int (g i j),H,I.tok _,⟨_,rfl⟩,q⟩
theorem BH{f:Value→Value→Sem Value}{g:Int→Int→Bool}
    (rule:∀(i j:Int) (t u:Tok) (s:Shared) (Q:Value→Shared→Prop) (E:Value→Shared→Prop),Q (.bool (g i j)) s→wpAny (model X.prog X.w) X.A (f (.int i t) (.int j u)) Q E s):
    fg X f (uR fun i j=>.bl (g i j)):=by
  intro pins s σ H x y v u Q I rx ry h
  obtain⟨i,j,rfl,rfl,q⟩:=h
  obtain⟨t,rfl⟩:=rx
  obtain⟨t',rfl⟩:=ry
  exact rule i j t t' s _ _ ⟨.bl (g i j),H,I,rfl,q⟩
def DF(i j:Int):Prop:=0≤j∧j≤1000000∧i.natAbs < 2 ^ 64
def A0(i j:Int):Prop:=(-(2 ^ 64) < i∧i < 2 ^ 64)∨(-(2 ^ 64) < j∧j < 2 ^ 64)
theorem A0.ok{i j:Int}(h:A0 i j):IntMulOk i j:=by
  rcases h with ⟨h1,h2⟩ | ⟨h1,h2⟩
  · exact .of_left (intBits_le_64 h1 h2)
  · exact .of_right (intBits_le_64 h1 h2)
theorem EA:fg X (binaryOp .Add) (uR fun i j=>.int (i+j)):=G5 fun _ _ _ _ _ _ _ q=>add_int q
theorem EO:fg X (binaryOp .Sub) (uR fun i j=>.int (i - j)):=G5 fun _ _ _ _ _ _ _ q=>sub_int q
theorem EJ:fg X (binaryOp .Mult) (rI A0 fun i j=>.int (i*j)):=G4 fun _ _ _ _ _ _ _ hc q=>mul_int q hc.ok
theorem BL:fg X (binaryOp .Mod) (rI (fun _ j=>j≠0) fun i j=>.int (i.fmod j)):=G4 fun _ _ _ _ _ _ _ hc q=>mod_int' hc q
theorem EM:fg X (binaryOp .Pow) (rI DF fun i j=>.int (i ^ j.toNat)):=G4 fun _ _ _ _ _ _ _ hc q=>pow_int_small hc.1 hc.2.1 hc.2.2 q
theorem JU{f:Value→Sem Value}{g:Int→Int}
    (rule:∀(i:Int) (t:Tok) (s:Shared) (Q:Value→Shared→Prop) (E:Value→Shared→Prop),Q (.int (g i) s.toks) {s with toks:=s.toks+1}→wpAny (model X.prog X.w) X.A (f (.int i t)) Q E s):
    Ib X f (rU fun i=>.int (g i)):=by
  intro pins s σ H x v Q I rx h
  obtain⟨i,rfl,q⟩:=h
  obtain⟨t,rfl⟩:=rx
  exact rule i t s _ _ ⟨.int (g i),H,I.tok _,⟨_,rfl⟩,q⟩
theorem Ga:Ib X (unaryOp .USub) (rU fun i=>.int (-i)):=JU fun _ _ _ _ _ q=>neg_int q
end
section
variable{X:Cx}{a b c:Expr}{ta tb tc:TE}{pos:Pos}
theorem yq{pins:List (Addr × Obj)}{σ:St}{H:Hp}{s:Shared}{Q:VK}{k k':Bool}(I:ax X pins σ H s)(q:Q (.bl k) H)(e:k=k'):EP X pins σ Q (.bool k') s:=by
  subst e
  exact⟨.bl k,H,I,rfl,q⟩
theorem G9:fg X (compareOp .Lt) (uR fun i j=>.bl (decide (i < j))):=BH fun _ _ _ _ _ _ _ q=>lt_int q
theorem G8:fg X (compareOp .LtE) (uR fun i j=>.bl (decide (i≤j))):=BH fun _ _ _ _ _ _ _ q=>le_int q
theorem G7:fg X (compareOp .Gt) (uR fun i j=>.bl (decide (j < i))):=BH fun _ _ _ _ _ _ _ q=>gt_int q
theorem G6:fg X (compareOp .GtE) (uR fun i j=>.bl (decide (j≤i))):=BH fun _ _ _ _ _ _ _ q=>ge_int q
theorem EI:fg X (compareOp .Is) (fun x y H Q=>y=.non∧Q (.bl (decide (x=.non))) H):=by
  intro pins s σ H x y v u Q I rx ry h
  obtain⟨rfl,q⟩:=h
  cases ry
  refine is_none_gen (yq I q ?_)
  cases x<;>first
    | (cases rx;rfl)
    | (obtain⟨t,rfl⟩:=rx;rfl)
theorem BP:fg X (compareOp .IsNot) (fun x y H Q=>y=.non∧Q (.bl (!decide (x=.non))) H):=by
  intro pins s σ H x y v u Q I rx ry h
  obtain⟨rfl,q⟩:=h
  cases ry
  refine isnot_none_gen (yq I q ?_)
  cases x<;>first
    | (cases rx;rfl)
    | (obtain⟨t,rfl⟩:=rx;rfl)
theorem fg.or{f:Value→Value→Sem Value}{r r':R2}(h:fg X f r)(h':fg X f r'):fg X f (fun x y H Q=>r x y H Q∨r' x y H Q):=by
  intro pins s σ H x y v u Q I rx ry q
  rcases q with q | q
  · exact h pins s σ H x y v u Q I rx ry q
  · exact h' pins s σ H x y v u Q I rx ry q
theorem aG(b:Expr){op:CmpOp}(h:op≠.In:=by decide)(h2:op≠.NotIn:=by decide):behindInMarks op b=false:=by
  have e1:(op==CmpOp.In)=false:=by cases op<;>first | rfl | exact absurd rfl h
  have e2:(op==CmpOp.NotIn)=false:=by cases op<;>first | rfl | exact absurd rfl h2
  cases b<;>simp [behindInMarks,e1,e2]
theorem BS{op:CmpOp}{r:R2}(ho:fg X (compareOp op) r)(ha:PE X a ta)(hb:PE X b tb)(hm:behindInMarks op b=false):PE X (.Compare a [op] [b] pos) (HL r ta tb):=by
  intro pins s σ H Q I h
  exact wpAny_Compare1 (DT ha hb I h fun v u s2 x y H2 I2 rx ry q=>ho pins s2 σ H2 x y v u Q I2 rx ry q) hm
def Dy(t:TE):TT:=fun σ H Q=>t σ H fun x H'=>∃k,x=.bl k∧Q k H'
theorem B8{op:CmpOp}{r:R2}(ho:fg X (compareOp op) r)(ha:PE X a ta)(hb:PE X b tb)(hm:behindInMarks op b=false):PT X (.Compare a [op] [b] pos) (Dy (HL r ta tb)):=by
  intro pins s σ H Q I h
  refine wpAny_isTrue_Compare1 (br (ha pins s σ H _ I h) fun v s1 ⟨x,H1,I1,r1,q1⟩=>br (hb pins s1 σ H1 _ I1 q1) fun u s2 ⟨y,H2,I2,r2,q2⟩=>
    br (ho pins s2 σ H2 x y v u _ I2 r1 r2 q2) fun c s3 ⟨z,H3,I3,r3,k,e,q3⟩=>?_) hm
  subst e
  cases r3
  exact wpAny_truthy_bool ⟨H3,I3,q3⟩
def uW(r r':R2)(ta tb tc:TE):TE:=fun σ H Q=>ta σ H fun x H1=>tb σ H1 fun y H2=>r x y H2 fun z H3=>∃k,z=.bl k∧
  (if k=true then tc σ H3 fun w' H4=>r' y w' H4 Q else Q (.bl false) H3)
theorem zw{op op':CmpOp}{r r':R2}(ho:fg X (compareOp op) r)(ho':fg X (compareOp op') r')(ha:PE X a ta)(hb:PE X b tb)(hc:PE X c tc)
    (hm:lastMarks [op,op'] [b,c]=false:=by with_unfolding_all rfl):PE X (.Compare a [op,op'] [b,c] pos) (uW r r' ta tb tc):=by
  intro pins s σ H Q I h
  refine Compare_chain (br (ha pins s σ H _ I h) fun v s1 ⟨x,H1,I1,r1,q1⟩=>chain_link (br (hb pins s1 σ H1 _ I1 q1) fun u s2 ⟨y,H2,I2,r2,q2⟩=>
    br (ho pins s2 σ H2 x y v u _ I2 r1 r2 q2) fun d s3 ⟨z,H3,I3,r3,k,e,q3⟩=>?_)) hm
  subst e
  cases r3
  refine wpAny_truthy_bool ?_
  cases k with
  | false=>exact ite_ff ⟨.bl false,H3,I3,rfl,q3⟩
  | true=>exact ite_tt (chain_last (br (hc pins s3 σ H3 _ I3 q3) fun w' s4 ⟨z',H4,I4,r4,q4⟩=>ho' pins s4 σ H4 y z' u w' Q I4 r2 r4 q4))
theorem zO{op op':CmpOp}{r r':R2}(ho:fg X (compareOp op) r)(ho':fg X (compareOp op') r')(ha:PE X a ta)(hb:PE X b tb)(hc:PE X c tc)
    (hm:lastMarks [op,op'] [b,c]=false:=by with_unfolding_all rfl):PT X (.Compare a [op,op'] [b,c] pos) (Dy (uW r r' ta tb tc)):=by
  intro pins s σ H Q I h
  refine isTrue_chain (br (ha pins s σ H _ I h) fun v s1 ⟨x,H1,I1,r1,q1⟩=>test_link (br (hb pins s1 σ H1 _ I1 q1) fun u s2 ⟨y,H2,I2,r2,q2⟩=>
    br (ho pins s2 σ H2 x y v u _ I2 r1 r2 q2) fun d s3 ⟨z,H3,I3,r3,k,e,q3⟩=>?_)) hm
  subst e
  cases r3
  refine wpAny_truthy_bool ?_
  cases k with
  | false=>
    obtain⟨k',e',q'⟩:=q3
    cases e'
    exact ite_ff ⟨H3,I3,q'⟩
  | true=>
    refine ite_tt (test_last (br (hc pins s3 σ H3 _ I3 q3) fun w' s4 ⟨z',H4,I4,r4,q4⟩=>br (ho' pins s4 σ H4 y z' u w' _ I4 r2 r4 q4) fun d' s5 ⟨z2,H5,I5,r5,k2,e2,q5⟩=>?_))
    subst e2
    cases r5
    exact wpAny_truthy_bool ⟨H5,I5,q5⟩
theorem qX:(sizeLine:Nat) < 2 ^ 63:=by rw [sizeLine_eq];decide
theorem qi{x:V}{us:List Value}(r:aJ [x] us):∃u,us=[u]∧a9 x u:=by
  cases r with
  | cons r1 r2=>cases r2;exact⟨_,rfl,r1⟩
theorem DC{x y:V}{us:List Value}(r:aJ [x,y] us):∃u w',us=[u,w']∧a9 x u∧a9 y w':=by
  cases r with
  | cons r1 r2=>
    cases r2 with
    | cons r3 r4=>cases r4;exact⟨_,_,rfl,r1,r3⟩
theorem yf:dQ X (.builtin "abs") (fun xs H Q=>∃i,xs=[.int i]∧Q (.int (if i < 0 then -i else i)) H):=by
  intro pins s σ H xs us Q I r h
  obtain⟨i,rfl,q⟩:=h
  obtain⟨u,rfl,t,rfl⟩:=qi r
  exact call_abs_int fun u tk=>⟨.int (if i < 0 then -i else i),H,I.tok _,⟨_,rfl⟩,q⟩
theorem wH(hc:X.calm=true):dQ X (.builtin "max") (fun xs H Q=>∃i j,xs=[.int i,.int j]∧Q (.int (if j > i then j else i)) H):=by
  intro pins s σ H xs us Q I r h
  obtain⟨i,j,rfl,q⟩:=h
  obtain⟨u,w',rfl,⟨t,rfl⟩,⟨t',rfl⟩⟩:=DC r
  refine max_two_ints (I.ok.hd hc) fun h' tk k=>⟨_,H,I.kept k,?_,q⟩
  by_cases hj:j > i
  · rw [if_pos hj,if_pos hj];exact⟨_,rfl⟩
  · rw [if_neg hj,if_neg hj];exact⟨_,rfl⟩
theorem wJ(hc:X.calm=true):dQ X (.builtin "min") (fun xs H Q=>∃i j,xs=[.int i,.int j]∧Q (.int (if j < i then j else i)) H):=by
  intro pins s σ H xs us Q I r h
  obtain⟨i,j,rfl,q⟩:=h
  obtain⟨u,w',rfl,⟨t,rfl⟩,⟨t',rfl⟩⟩:=DC r
  refine min_two_ints (I.ok.hd hc) fun h' tk k=>⟨_,H,I.kept k,?_,q⟩
  by_cases hj:j < i
  · rw [if_pos hj,if_pos hj];exact⟨_,rfl⟩
  · rw [if_neg hj,if_neg hj];exact⟨_,rfl⟩
theorem wF:dQ X (.type "int") (fun xs H Q=>(∃i,xs=[.int i]∧Q (.int i) H)∨∃k,xs=[.bl k]∧Q (.int (if k then 1 else 0)) H):=by
  intro pins s σ H xs us Q I r h
  rcases h with ⟨i,rfl,q⟩ | ⟨k,rfl,q⟩
  · obtain⟨u,rfl,t,rfl⟩:=qi r
    exact call_int_int ⟨.int i,H,I,⟨_,rfl⟩,q⟩
  · obtain⟨u,rfl,r1⟩:=qi r
    cases r1
    exact call_int_bool ⟨.int (if k then 1 else 0),H,I.tok _,⟨_,rfl⟩,q⟩
end
structure JD (h:Heap) (x dx C:Addr) (mA:Str→Option Value):Prop where
  obj:h.get? x=some (PySem.W.instObj C dx)
  ns:h.Ns1 dx mA
  ne:dx≠x
section
variable{prog:Program}{w:World}{A:Around}{E:Value→Shared→Prop}{s:Shared}{K:PySem.W.Frag}{x dx C f:Addr}{mA:Str→Option Value}{name:Str}{v:Value}
end
theorem o5.some_of{v:V}{o:Option Value}(r:o5 (some v) o):∃u,o=some u∧a9 v u:=by
  cases o with
  | none=>exact(show False from r).elim
  | some u=>exact⟨u,rfl,r⟩
section
variable{P:Program}{w:World}{H H':Hp}{h h':Heap}{a C dx:Addr}{fs fs':List (Str × V)}
end
structure Jy (K:PySem.W.Frag) (C:Addr):Prop where
  pg:PySem.W.plainGet K C Str.empty=true
  hd:PySem.W.hasDictIn K C=true
  po:PySem.W.plainOver K C=true
  sa:PySem.W.findIn K (.ref C) "__setattr__"=some (some (.builtin "object.__setattr__"))
structure JX (K:PySem.W.Frag) (C:Addr) (f:Str) (v:V) (u:Value):Prop where
  at_:PySem.W.findIn K (.ref C) f=some (some u)
  rel:a9 v u
  get:PySem.W.specialIn K u "__get__"=some none
  cp:PySem.W.copiedNames.contains f=false
structure JC (K:PySem.W.Frag) (C:Addr) (m:Str) (f:Addr):Prop where
  at_:PySem.W.findIn K (.ref C) m=some (some (.ref f))
  fn:PySem.W.isFn K (.ref f)=true
  kp:PySem.W.keepIn K (.ref f)=true
section
variable{X:Cx}{pins:List (Addr × Obj)}{σ:St}{H:Hp}{s:Shared}{a C dx:Addr}{fs:List (Str × V)}{f:Str}{v:V}{A:Around}{E:Value→Shared→Prop}
end
section
variable{X:Cx}{o e value:Expr}{f:Str}{pos pos' tpos:Pos}{ta tv:TE}
end
section
variable{X:Cx}{pins:List (Addr × Obj)}{σ:St}{H:Hp}{s:Shared}{A:Around}{E:Value→Shared→Prop}{Q:Value→Shared→Prop}{c:Value}{b:Bool}
inductive nI (K:PySem.W.Frag) (H:Hp):V→Value→Prop where
  | non:nI K H .non (.type "NoneType")
  | bl (x:Bool):nI K H (.bl x) (.type "bool")
  | int (i:Int):nI K H (.int i) (.type "int")
  | str (x:Str):nI K H (.str x) (.type "str")
  | flt (x:UInt64):nI K H (.flt x) (.type "float")
  | lst {a:Addr} {xs:List V} (e:H a=some (.lst xs)):nI K H (.ref a) (.type "list")
  | frz {a:Addr} {o:Obj} {xs:List V} (e:H a=some (.frz o (.lst xs))):nI K H (.ref a) (.type "list")
  | tup {a:Addr} {xs:List V} (e:H a=some (.tup xs)):nI K H (.ref a) (.type "tuple")
  | dK {a:Addr} {kvs:List (eP × V)} (e:H a=some (.dK kvs)):nI K H (.ref a) (.type "dict")
  | dT {a:Addr} {kvs:List (List eP × V)} (e:H a=some (.dT kvs)):nI K H (.ref a) (.type "dict")
  | ins {a C dx:Addr} {fs:List (Str × V)} (e:H a=some (.ins C dx fs)) (cl:Jy K C) (ha:PySem.W.findIn K (.ref C) "__class__"=some (some (.builtin "object.__class__")))
      (hn:PySem.W.specialIn K (.builtin "object.__class__") "__get__"=some (some (.builtin "getset_descriptor.__get__"))) (htk:PySem.W.takesIn K (.builtin "object.__class__")=some true)
      (hm:PySem.W.mroIn K C (.type "object")=some true):nI K H (.ref a) (.ref C)
end
structure cf (k:Nat) (A:Around):Prop where
  hd:A.handled=none
  dp:A.depth+3*k+5 < recursionLimit
  un:A.units+16*k+200 < cLine
  gd:A.guards=some []
theorem cf.mono{j k:Nat}{A:Around}(r:cf k A)(h:j≤k):cf j A:=⟨r.hd,by have:=r.dp;lia,by have:=r.un;lia,r.gd⟩
theorem cf.deeper{k:Nat}{A:Around}(r:cf (k+1) A)(env:Env):cf k (A.deeper env):=
  ⟨r.hd,by have:=r.dp;show A.depth+1+3*k+5 < _;lia,by have:=r.un;show A.units+3+16*k+200 < _;lia,r.gd⟩
theorem cf.depth{k:Nat}{A:Around}(r:cf k A):A.depth < recursionLimit:=by have:=r.dp;lia
theorem cf.units{k:Nat}{A:Around}(r:cf k A):A.units+64 < cLine:=by have:=r.un;lia
theorem cf.units0{k:Nat}{A:Around}(r:cf k A):A.units < cLine:=by have:=r.un;lia
def FV:TA:=fun _ H Q=>Q [] H
def tZ(ta:TE)(tr:TA):TA:=fun σ H Q=>ta σ H fun x H1=>tr σ H1 fun xs H2=>Q (x::xs) H2
section
variable{X:Cx}{e:Expr}{es:List Expr}{te:TE}{t:TA}{pos:Pos}
theorem mj:PA X [] FV:=fun _ _ _ _ H Q I h=>Calls.spliced_nil ⟨[],H,I,.nil,h⟩
theorem j5(ha:PE X e te)(hr:PA X es t)(hs:starEach (e::es) X.env=(false,eval e X.env)::starEach es X.env:=by rfl):PA X (e::es) (tZ te t):=by
  intro pos pins s σ H Q I h
  rw [hs]
  show wpAny _ _ (spliced ((false,eval e X.env)::backTo pos (starEach es X.env))) _ _ s
  refine Calls.spliced_cons (br (ha pins s σ H _ I h) fun u s1 ⟨x,H1,I1,r1,q1⟩=>?_)
  exact br (hr pos pins s1 σ H1 _ I1 q1) fun us s2 ⟨xs,H2,I2,r2,q2⟩=>⟨x::xs,H2,I2,.cons r1 r2,q2⟩
def HN(t:TA):TE:=fun σ H Q=>t σ H fun xs H1=>xs.length≤sizeLine∧∀p,H1 p=none→Q (.ref p) (a8 H1 p (.tup xs))
def Ja(t:TA):TE:=fun σ H Q=>t σ H fun xs H1=>xs.length≤sizeLine∧∀p,H1 p=none→Q (.ref p) (a8 H1 p (.lst xs))
theorem EY{x1}(h:PA X es t):PE X (.Tuple es x1 pos) (HN t):=by
  intro pins s σ H Q I hq
  refine wpAny_Tuple_spliced (br (h pos pins s σ H _ I hq) fun us s1 ⟨xs,H1,I1,r,z,q⟩=>⟨by rw [←r.length];exact z,?_⟩)
  have hf:H1 s1.heap.objs.size=none:=I1.hok.fresh (Nat.le_refl _)
  refine⟨.ref s1.heap.objs.size,a8 H1 s1.heap.objs.size (.tup xs),I1.laid (t':=s1.toks) (fun b u e=>Heap.get?_push_of_some _ e) (Nat.le_refl _) ?_,rfl,q _ hf⟩
  exact⟨z,us,r,⟨_,Heap.get?_push_size _ rfl,rfl,_,rfl,rfl⟩⟩
theorem ET(h:PA X es t):PE X (.List es pos) (Ja t):=by
  intro pins s σ H Q I hq
  refine wpAny_List_spliced (br (h pos pins s σ H _ I hq) fun us s1 ⟨xs,H1,I1,r,z,q⟩=>⟨by rw [←r.length];exact z,?_⟩)
  have hf:H1 s1.heap.objs.size=none:=I1.hok.fresh (Nat.le_refl _)
  refine⟨.ref s1.heap.objs.size,a8 H1 s1.heap.objs.size (.lst xs),I1.laid (t':=s1.toks) (fun b u e=>Heap.get?_push_of_some _ e) (Nat.le_refl _) ?_,rfl,q _ hf⟩
  exact⟨z,us,0,r,Heap.get?_push_size _ rfl⟩
end
abbrev Sp:=List V→Hp→VK→XK→Prop
abbrev wA:=List Env→Hp→Shared→XK→Value→Shared→Prop
structure A6 (P:Program) (w:World) (K:PySem.W.Frag) (mg:Str→Option Value) (base:Heap) (A:Around) (outer:List Env) (s:Shared) (H:Hp):Prop where
  frames:A.frames=some outer
  mod:Mod K mg base
  bs:∀b o,base.get? b=some o→s.heap.get? b=some o∧H b=none
  bsz:base.objs.size≤s.heap.objs.size
  funs:s.heap.FunFrames base outer
  frf:∀b∈yt outer,H b=none
  hok:kR P w H s.heap
  bare:AllBare s.gens
def CE(outer:List Env)(P:Program)(w:World)(H:Hp)(s:Shared)(Q:VK)(u:Value)(s':Shared):Prop:=
  ∃v H',s'.os=s.os∧AllBare s'.gens∧Un (yt outer) [] H H' s.heap s'.heap∧kR P w H' s'.heap∧a9 v u∧Q v H'
def CR(CX:wA)(outer:List Env)(P:Program)(w:World)(H:Hp)(s:Shared)(Q:VK)(E:XK)(r:Result)(s':Shared):Prop:=
  match r with
  | .ok (.ret u)=>CE outer P w H s Q u s'
  | .ok _=>False
  | .error e=>CX outer H s E e s'
structure aN (P:Program) (w:World) (K:PySem.W.Frag) (mg:Str→Option Value) (base:Heap) (CX:wA) (k:Nat) (f:Addr) (fd:FuncData) (ps:List Str) (sp:Sp):Prop where
  len:∀vs H Q E,sp vs H Q E→vs.length=ps.length
  run:∀(A:Around) (outer:List Env) (s:Shared) (H:Hp) (args:Args) (us:List Value) (vs:List V) (Q:VK) (E:XK),cf k A→A6 P w K mg base A outer s H→BindsTo s fd args (ps.zip us)→aJ vs us→sp vs H Q E→
    codeAny (model P w) A (.call (.ref f) args) (CR CX outer P w H s Q E) s
section
variable{X:Cx}{pins:List (Addr × Obj)}{σ:St}{H:Hp}{s s':Shared}
theorem ax.env0(I:ax X pins σ H s):A6 X.prog X.w X.K X.mg X.base X.A X.stack s H:=
  ⟨I.ok.frames,I.ok.mod,I.bs,Nat.le_trans I.ok.bsz I.sz,I.stack,I.stkFree,I.hok,I.bare⟩
theorem ax.after{Q:VK}{u:Value}(I:ax X pins σ H s)(h:CE X.stack X.prog X.w H s Q u s'):EP X pins σ Q u s':=by
  obtain⟨v,H',os,bare,un,hok,r,q⟩:=h
  obtain⟨hh,g,d,t,os'⟩:=s'
  obtain rfl:os'=s.os:=os
  exact⟨v,H',I.call (h':=hh) (g':=g) (d':=d) (t':=t) (ch:=[]) un hok bare (fun b z=>absurd z (by simp)),r,q⟩
end
def Ay(sp:Sp)(dvs:List V)(E:XK)(t:TA):TE:=fun σ H Q=>t σ H fun vs H1=>sp (vs++dvs) H1 Q E
def pz(K:PySem.W.Frag)(fd:FuncData)(ps:List Str)(ds:List Value):Prop:=
  ∀(s:Shared) (us:List Value),K.In s.heap→(us++ds).length=ps.length→BindsTo s fd ⟨us,[]⟩ (ps.zip (us++ds))
theorem pz.all{K:PySem.W.Frag}{fd:FuncData}{ps:List Str}(h:∀us:List Value,us.length=ps.length→bindArgs fd ⟨us,[]⟩=pure (ps.zip us)):pz K fd ps []:=fun s us _ hl=>by
  rw [List.append_nil] at hl ⊢
  exact .of_eq (h us hl)
def um(CX:wA)(X:Cx)(E:XK):Prop:=∀(pins:List (Addr × Obj)) (σ:St) (H:Hp) (s:Shared) (e:Value) (s':Shared),ax X pins σ H s→CX X.stack H s E e s'→X.xe e s'
section
variable{X:Cx}{CX:wA}{k:Nat}{f C:Addr}{fd:FuncData}{ps:List Str}{sp:Sp}{dvs:List V}{ds:List Value}{E:XK}{x m:Str}{p pos apos:Pos}{e o:Expr}{es:List Expr}{ta:TE}{t:TA}
theorem FK{pins:List (Addr × Obj)}{σ:St}{H:Hp}{s:Shared}{Q:VK}{us:List Value}{vs:List V}(F:aN X.prog X.w X.K X.mg X.base CX k f fd ps sp)(hr:cf k X.A)(hb:pz X.K fd ps ds)(hd:aJ dvs ds)(hx:um CX X E)
    (I:ax X pins σ H s)(r:aJ vs us)(h:sp (vs++dvs) H Q E):wpAny (model X.prog X.w) X.A (call (.ref f) us) (EP X pins σ Q) X.xe s:=by
  have r2:aJ (vs++dvs) (us++ds):=r.append hd
  have hl:(us++ds).length=ps.length:=by rw [←r2.length];exact F.len _ _ _ _ h
  refine wpAny_call (codeAny_mono (F.run X.A X.stack s H ⟨us,[]⟩ (us++ds) (vs++dvs) Q E hr I.env0 (hb s us I.kIn hl) r2 h) fun r s' hq=>?_)
  cases r with
  | error e=>exact hx pins σ H s e s' I hq
  | ok fl=>
    cases fl with
    | ret u=>exact I.after hq
    | next=>exact False.elim hq
    | brk=>exact False.elim hq
    | cont=>exact False.elim hq
theorem BR(F:aN X.prog X.w X.K X.mg X.base CX k f fd ps sp)(hr:cf k X.A)(hg:Gl X x)(hm:X.mg x=some (.ref f))(hk:PySem.W.keepIn X.K (.ref f)=true)(hb:pz X.K fd ps ds)(hd:aJ dvs ds)(hx:um CX X E)
    (ha:PA X (e::es) t)(hdb:(x==("__debug__":Str))=false:=by decide)(he:starEach (e::es) X.env=(false,eval e X.env)::starEach es X.env:=by rfl)(hpl:(backTo pos (starEach es X.env)).any (·.1)=false:=by rfl):
    PE X (.Call (.Name x p) (e::es) [] pos) (Ay sp dvs E t):=by
  intro pins s σ H Q I h
  refine wpAny_Call_Name_kw (vQ I hg hm ?_ hdb)
  refine PySem.W.callWith_K (h₀:=X.base) I.ok.mod.kin hk (br (ha pos pins s σ H _ I h) fun us s1 ⟨vs,H1,I1,r,q⟩=>⟨I1.kIn,?_⟩) he hpl
  exact FK F hr hb hd hx I1 r q
structure Mk (K:PySem.W.Frag) (C f:Addr):Prop where
  makes:PySem.W.makesIn K C=true
  init:PySem.W.findIn K (.ref C) "__init__"=some (some (.ref f))
  fn:PySem.W.isFn K (.ref f)=true
  kp:PySem.W.keepIn K (.ref C)=true
end
section
variable{X:Cx}{CX:wA}{k:Nat}{f C:Addr}{fd:FuncData}{ps ks:List Str}{sp:Sp}{E:XK}{x m:Str}{p pos apos kpos:Pos}{e o:Expr}{es:List Expr}{kws:List Keyword}{te ta:TE}{t tk:TA}{nm:Option Str}
structure Io (K:PySem.W.Frag) (fd:FuncData) (ps ks:List Str) (g:List Value→List Value→List Value) (gV:List V→List V→List V):Prop where
  to:∀(s:Shared) (us ws:List Value),K.In s.heap→(g us ws).length=ps.length→BindsTo s fd ⟨us,ks.zip ws⟩ (ps.zip (g us ws))
  rel:∀{vs:List V} {us:List Value} {zs:List V} {ws:List Value},aJ vs us→aJ zs ws→aJ (gV vs zs) (g us ws)
variable{g:List Value→List Value→List Value}{gV:List V→List V→List V}
end
structure aH (N P:List Str) (sc:Scope):Prop where
  kind:sc.kind=.function
  co:sc.isCoroutine=false
  gen:sc.isGenerator=false
  nd:N.Nodup
  pre:N.take P.length=P
  par:∀x∈P,sc.names.lookup x=some .local∨sc.names.lookup x=some .cell
  nofree:∀y∈sc.names,y.2≠.free
theorem pF{kindOf:Str→Option NameKind}{x:Str}:∀{binds:List (Str × Value)} {m:Str→Option Value},(∀v,(x,v)∉binds)→bindL kindOf binds m x=m x
  | [],_,_=>rfl
  | (n,v)::r,m,h=>by
    unfold bindL
    rw [pF fun w hw=>h w (List.mem_cons_of_mem _ hw)]
    split
    · have:x≠n:=by rintro rfl;exact h v List.mem_cons_self
      simp [this]
    · rfl
theorem pD{kindOf:Str→Option NameKind}{x:Str}:∀{binds:List (Str × Value)} {m:Str→Option Value},(∀v,(x,v)∉binds)→bindC kindOf binds m x=m x
  | [],_,_=>rfl
  | (n,v)::r,m,h=>by
    unfold bindC
    rw [pD fun w hw=>h w (List.mem_cons_of_mem _ hw)]
    split
    · rfl
    · have:x≠n:=by rintro rfl;exact h v List.mem_cons_self
      simp [this]
theorem pE{kindOf:Str→Option NameKind}{x:Str}{v:Value}:∀{P:List Str} {vs:List Value} {i:Nat} {m:Str→Option Value},P.Nodup→P[i]?=some x→vs[i]?=some v→kindOf x=some .local→
    bindL kindOf (P.zip vs) m x=some v
  | [],_,_,_,_,h,_,_=>by simp at h
  | _::_,[],_,_,_,_,h,_=>by simp at h
  | p::P,w::vs,0,m,nd,h1,h2,hk=>by
    simp at h1 h2;subst h1;subst h2
    show bindL kindOf ((p,w)::P.zip vs) m p=_
    unfold bindL
    rw [pF fun v hv=>(List.nodup_cons.mp nd).1 (List.of_mem_zip hv).1,if_pos hk]
    simp
  | p::P,w::vs,i+1,m,nd,h1,h2,hk=>by
    show bindL kindOf ((p,w)::P.zip vs) m x=_
    unfold bindL
    exact pE (i:=i) (List.nodup_cons.mp nd).2 (by simpa using h1) (by simpa using h2) hk
theorem pC{kindOf:Str→Option NameKind}{x:Str}{v:Value}:∀{P:List Str} {vs:List Value} {i:Nat} {m:Str→Option Value},P.Nodup→P[i]?=some x→vs[i]?=some v→kindOf x≠some .local→
    bindC kindOf (P.zip vs) m x=some v
  | [],_,_,_,_,h,_,_=>by simp at h
  | _::_,[],_,_,_,_,h,_=>by simp at h
  | p::P,w::vs,0,m,nd,h1,h2,hk=>by
    simp at h1 h2;subst h1;subst h2
    show bindC kindOf ((p,w)::P.zip vs) m p=_
    unfold bindC
    rw [pD fun v hv=>(List.nodup_cons.mp nd).1 (List.of_mem_zip hv).1,if_neg hk]
    simp
  | p::P,w::vs,i+1,m,nd,h1,h2,hk=>by
    show bindC kindOf ((p,w)::P.zip vs) m x=_
    unfold bindC
    exact pC (i:=i) (List.nodup_cons.mp nd).2 (by simpa using h1) (by simpa using h2) hk
def eN(N:List Str)(vs:List V):St:=vs.map some++List.replicate (N.length - vs.length) none
def uv(CX:wA)(P:Program)(w:World)(K:PySem.W.Frag)(mg:Str→Option Value)(base:Heap)(N:List Str)(qual:Str)(scope:Scope)(f:Addr)(cd:Value)(A:Around)(outer:List Env)(s:Shared)(H:Hp)(E:XK):Cx where
  prog:=P
  w:=w
  K:=K
  mg:=mg
  base:=base
  A:=A.deeper (envOfC qual scope s.heap.objs.size f cd)
  N:=N
  s₀:=s
  H₀:=H
  env:=envOfC qual scope s.heap.objs.size f cd
  outer:=outer
  stack:=envOfC qual scope s.heap.objs.size f cd::outer
  ex:=[]
  calm:=true
  fn:=fun _=>true
  pn:=[]
  xe:=fun e s'=>wpAny (model P w) (A.deeper (envOfC qual scope s.heap.objs.size f cd)) (leaving (envOfC qual scope s.heap.objs.size f cd) e) (fun _ s''=>CX outer H s E e s'') (fun e' s''=>CX outer H s E e' s'') s'
theorem r9{sc:Scope}{n:Nat}{x:Str}(h:sc.names.lookup x=some .cell):∃c,(cellsFrom n sc.names []).lookup x=some c:=by
  have q:=PySem.W.cellsFrom_some sc.names n [] (.inl h)
  exact Option.isSome_iff_exists.mp q
theorem wX{CX:wA}{P:Program}{w:World}{K:PySem.W.Frag}{mg:Str→Option Value}{base:Heap}{N ps:List Str}{qual:Str}{scope:Scope}{f:Addr}{cd:Value}{A:Around}{outer:List Env}{s s1:Shared}{H:Hp}{E:XK}{us:List Value}{vs:List V}
    (S:aH N ps scope)(hd:A.handled=none)(e0:A6 P w K mg base A outer s H)(hl:vs.length=ps.length)(r:aJ vs us)
    (x:InCallC s s.heap.objs.size (bindL (envOfC qual scope s.heap.objs.size f cd).kindOf (ps.zip us) fun _=>none) (cellsFrom (s.heap.objs.size+1) scope.names []) (bindC (envOfC qual scope s.heap.objs.size f cd).kindOf (ps.zip us) fun _=>none) s1):
    ax (uv CX P w K mg base N qual scope f cd A outer s H E) [] (eN N vs) H s1:=by
  have hpl:ps.length≤N.length:=by have:=congrArg List.length S.pre;rw [List.length_take] at this;lia
  obtain⟨h1,tk,rfl,hk⟩:=x.done
  have noA:∀b:Addr,b∉(uv CX P w K mg base N qual scope f cd A outer s H E).ex:=fun b z=>absurd (show b∈([]:List Addr) from z) (by simp)
  refine⟨⟨e0.mod,S.kind,rfl,rfl,Nat.le_refl _,fun y z c h1 h2=>?_,fun y hy=>?_,fun y c _ h=>?_,fun _=>hd,Around.frames_deeper e0.frames,.inr ⟨rfl,rfl⟩,fun b z=>absurd z (noA b),e0.bs,e0.bsz,fun b _ _=>noA b,fun b z=>absurd z (noA b),e0.funs,e0.frf⟩,
    rfl,e0.bare,Un.kept hk,⟨_,x.toInCall.ns,fun i y v h1 h2 h3=>?_⟩,fun y c h=>⟨_,x.cell y c h⟩,e0.hok.fresh (Nat.le_refl _),fun y c h=>?_,fun p hp=>absurd (show p∈([]:List (Addr × Obj)) from hp) (by simp),e0.hok.kept hk,?_⟩
  · exact name_of_addr x.apart (PySem.mem_of_lookup h1) (PySem.mem_of_lookup h2)
  · have hy:scope.names.lookup y=some .cell∨scope.names.lookup y=some .free:=hy
    rcases hy with hy | hy
    · exact r9 hy
    · exact absurd rfl (S.nofree _ (PySem.mem_of_lookup hy))
  · exact Nat.le_of_lt (x.above y c (PySem.mem_of_lookup h))
  · have hi:i < vs.length:=by
      unfold eN at h2
      by_cases hi:i < vs.length
      · exact hi
      · rw [List.getElem?_append_right (by simpa using hi)] at h2
        rw [List.getElem?_replicate] at h2
        split at h2<;>cases h2
    have ha:vs[i]?=some v:=by
      unfold eN at h2
      rw [List.getElem?_append_left (by simpa using hi),List.getElem?_map] at h2
      cases e:vs[i]? with
      | none=>rw [e] at h2;cases h2
      | some a=>rw [e] at h2;cases h2;rfl
    obtain⟨u,hu,rv⟩:=r.get ha
    have hp:ps[i]?=some y:=by
      rw [←S.pre,List.getElem?_take_of_lt (by lia)];exact h1
    have ndP:ps.Nodup:=by rw [←S.pre];exact S.nd.sublist (List.take_sublist _ _)
    refine⟨u,rv,?_⟩
    rcases S.par y (Mf hp) with k | k
    · exact .inl ⟨k,pE ndP hp hu k⟩
    · obtain⟨c,e⟩:=r9 (n:=s.heap.objs.size+1) k
      refine .inr ⟨.inl k,c,e,?_⟩
      have q:=x.cell y c e
      rw [pC ndP hp hu (by show scope.names.lookup y≠_;rw [k];decide)] at q
      exact q
  · exact e0.hok.fresh (Nat.le_of_lt (x.above y c (PySem.mem_of_lookup h)))
  · unfold eN
    show _=N.length
    rw [List.length_append,List.length_map,List.length_replicate]
    lia
theorem GK{CX:wA}{P:Program}{w:World}{K:PySem.W.Frag}{mg:Str→Option Value}{base:Heap}{k:Nat}{f:Addr}{name qual:Str}{params:Arguments}{body:List Stmt}{scope:Scope}{dV kV doc pm cdv ct oc:Value}{an od:Option Addr}
    {osl:Array (Option Value)}{N ps:List Str}{sp:Sp}(lk:K.lookup f=some ⟨oc,od,.func (PySem.W.fnOf name qual params body scope dV kV doc pm an cdv ct),osl⟩)(hcd:PySem.W.codeIn K cdv qual=true)(S:aH N ps scope)
    (len:∀vs H Q E,sp vs H Q E→vs.length=ps.length)
    (hbody:∀(A:Around) (outer:List Env) (s:Shared) (H:Hp) (vs:List V) (Q:VK) (E:XK),cf k (A.deeper (envOfC qual scope s.heap.objs.size f cdv))→sp vs H Q E→
      ∃t,jk (uv CX P w K mg base N qual scope f cdv A outer s H E) body t∧t {nx:=fun _ H'=>Q .non H',rt:=Q} (eN N vs) H):
    aN P w K mg base CX (k+1) f (PySem.W.fnOf name qual params body scope dV kV doc pm an cdv ct) ps sp:=by
  refine⟨len,fun A outer s H args us vs Q E hr e0 hb r hsp=>?_⟩
  have hl:=len _ _ _ _ hsp
  have KX:K.In s.heap:=e0.mod.kin.keeps fun b o e=>(e0.bs b o e).1
  have lim:s.heap.NoLimit:=e0.mod.nolimit.keeps fun b o e=>(e0.bs b o e).1
  have hkind:∀y∈ps.zip us,scope.names.lookup y.1=some .local∨(scope.names.lookup y.1=some .cell∧((cellsFrom (s.heap.objs.size+1) scope.names []).lookup y.1).isSome=true):=fun⟨n,v⟩ hy=>by
    rcases S.par n (List.of_mem_zip hy).1 with q | q
    · exact .inl q
    · exact .inr ⟨q,PySem.W.cellsFrom_some _ _ _ (.inl q)⟩
  refine codeAny_call_function hr.depth (KX _ _ lk) rfl S.co S.gen rfl (PySem.W.codeRec_of KX hcd) (hb _ _ _ _ ?_)
  refine wpAny_newFunctionEnv_cells S.kind hkind fun env he s1 x=>?_
  subst he
  refine⟨lim.keeps x.toInCall.keep,codeAny_func ?_⟩
  obtain⟨t,ht,hq⟩:=hbody A outer s H vs Q E (hr.deeper _) hsp
  have I:ax (uv CX P w K mg base N qual scope f cdv A outer s H E) [] (eN N vs) H s1:=wX S hr.hd e0 hl r x
  refine wpAny_mono (ht [] s1 (eN N vs) H _ I hq) (fun fl s' hs=>?_) fun e s' hs=>hs
  have fin:∀{σ':St} {H':Hp} {v:V} {u:Value},ax (uv CX P w K mg base N qual scope f cdv A outer s H E) [] σ' H' s'→a9 v u→Q v H'→CE outer P w H s Q u s':=
    fun{σ' H' v u} J rv q=>⟨v,H',J.os,J.bare,J.base,J.hok,rv,q⟩
  cases fl with
  | ret u=>
    obtain⟨v,σ',H',J,rv,q⟩:=hs
    exact fin J rv q
  | next=>
    obtain⟨σ',H',J,q⟩:=hs
    exact fin (v:=V.non) (u:=Value.none) J rfl q
  | brk=>
    obtain⟨_,_,_,q⟩:=hs
    exact False.elim q
  | cont=>
    obtain⟨_,_,_,q⟩:=hs
    exact False.elim q
section
variable{X:Cx}{x:Str}{p pos:Pos}{e:Expr}{es:List Expr}{t:TA}{id T:String}{r:List V→Hp→VK→Prop}
def IZ(r:List V→Hp→VK→Prop)(t:TA):TE:=fun σ H Q=>t σ H fun vs H1=>r vs H1 Q
theorem oz(hc:dQ X (.builtin id) r)(hg:Gl X x)(hm:X.mg x=none)(hv:bootBuiltins x=some (.builtin id))(ha:PA X (e::es) t)(hn:x≠"__name__":=by decide)(hdb:(x==("__debug__":Str))=false:=by decide)
    (he:starEach (e::es) X.env=(false,eval e X.env)::starEach es X.env:=by rfl)(hpl:(backTo pos (starEach es X.env)).any (·.1)=false:=by rfl):PE X (.Call (.Name x p) (e::es) [] pos) (IZ r t):=by
  intro pins s σ H Q I h
  refine wpAny_Call_Name_kw (ku I hg hm hv ?_ hn hdb)
  exact PyProof.Rows.callWith_builtin1 (br (ha pos pins s σ H _ I h) fun us s1 ⟨vs,H1,I1,r1,q1⟩=>hc pins s1 σ H1 vs us Q I1 r1 q1) he hpl
theorem pY(hc:dQ X (.type T) r)(hg:Gl X x)(hm:X.mg x=none)(hv:bootBuiltins x=some (.type T))(ha:PA X (e::es) t)(hn:x≠"__name__":=by decide)(hdb:(x==("__debug__":Str))=false:=by decide)
    (he:starEach (e::es) X.env=(false,eval e X.env)::starEach es X.env:=by rfl)(hpl:(backTo pos (starEach es X.env)).any (·.1)=false:=by rfl):PE X (.Call (.Name x p) (e::es) [] pos) (IZ r t):=by
  intro pins s σ H Q I h
  refine wpAny_Call_Name_kw (ku I hg hm hv ?_ hn hdb)
  exact PyProof.Rows.callWith_type1 (br (ha pos pins s σ H _ I h) fun us s1 ⟨vs,H1,I1,r1,q1⟩=>hc pins s1 σ H1 vs us Q I1 r1 q1) he hpl
end
end L2
namespace HT
open PySem PyProof.Rows
section
open PySem.SeqAt
open PySem.AutoSeq1 (wpAny_loadPart')
open PySem.MeetsSeq PySem.MeetsSeq2 PySem.MeetsSeq3
end
section
variable{prog:Program}{w:World}{A:Around}{E:Value→Shared→Prop}{s:Shared}
theorem cat_tup{t b:Addr}{vs ws:List Value}{Q:Value→Shared→Prop}(ht:IsTup s.heap t vs.toArray)(hb:IsTup s.heap b ws.toArray)(hv:vs≠[])
    (h1:ws=[]→Q (.ref t) s)(h2:ws≠[]→Q (.ref s.heap.objs.size) {s with heap:=s.heap.push {cls:=.type "tuple",data:=.seq (vs++ws).toArray}})
    (hsz:vs.length+ws.length≤sizeLine):wpAny (model prog w) A (binaryOp .Add (.ref t) (.ref b)) Q E s:=by
  obtain⟨⟨cls,dd,data,sl⟩,ho,hc,n,hd⟩:=id ht
  obtain⟨⟨cls2,dd2,data2,sl2⟩,ho2,hc2,n2,hd2⟩:=id hb
  simp only at hc hd hc2 hd2
  subst hc hd hc2 hd2
  have e:vs.toArray++ws.toArray=(vs++ws).toArray:=by simp
  by_cases hw:ws=[]
  · exact concat_meets ⟨_,ho,rfl⟩ ⟨_,ho2,rfl⟩ noFill_tuple_add seq_tuple_add PySem.F.slot_tuple_add PySem.F.entry_tuple_add (PySem.F.args_tuple_add_2 _ _)
      (tuple_addW1 t b vs.toArray ws.toArray n n2 dd dd2 sl sl2 (by simpa using hv) (by simp [hw])) ⟨ho,ho2,h1 hw⟩
  · refine concat_meets ⟨_,ho,rfl⟩ ⟨_,ho2,rfl⟩ noFill_tuple_add seq_tuple_add PySem.F.slot_tuple_add PySem.F.entry_tuple_add (PySem.F.args_tuple_add_2 _ _)
      (tuple_addW2 t b vs.toArray ws.toArray n n2 dd dd2 sl sl2 (by simpa using hv) (by simpa using hw) (by rw [List.size_toArray,List.size_toArray];exact hsz)) ⟨ho,ho2,?_⟩
    rw [e]
    exact h2 hw
def sIx(n d:Nat):Option Int→Nat
  | none=>d
  | some v=>if v < 0 then(v+(n:Int)).toNat else min v.toNat n
theorem sIx_none(n d:Nat):sIx n d none=d:=rfl
theorem sIx_nat(n d k:Nat):sIx n d (some (k:Int))=min k n:=by
  show(if (k:Int) < 0 then((k:Int)+(n:Int)).toNat else min (k:Int).toNat n)=min k n
  rw [if_neg (by lia),Int.toNat_natCast]
theorem FL(n d:Nat)(hd:d≤n)(o:Option Int):sIx n d o≤n:=by
  cases o with
  | none=>exact hd
  | some v=>
    show(if v < 0 then(v+(n:Int)).toNat else min v.toNat n)≤n
    by_cases hv:v < 0
    · rw [if_pos hv];lia
    · rw [if_neg hv];exact Nat.min_le_right _ _
theorem vy(v:Int)(n d:Nat):(if v < 0 then max (v+(n:Int)) 0 else min v (n:Int))=((sIx n d (some v):Nat):Int):=by
  show(if v < 0 then max (v+(n:Int)) 0 else min v (n:Int))=(((if v < 0 then(v+(n:Int)).toNat else min v.toNat n):Nat):Int)
  by_cases hv:v < 0
  · simp only [if_pos hv];lia
  · simp only [if_neg hv];lia
theorem uo(lo hi:Option Int)(n:Nat):Builtin.Slice.sliceAdjust lo hi 1 (n:Int)=(((sIx n 0 lo:Nat):Int),((sIx n n hi:Nat):Int)):=by
  have h1:¬((1:Int) < 0):=by lia
  unfold Builtin.Slice.sliceAdjust
  simp only [h1,if_false]
  refine Prod.ext ?_ ?_
  · cases lo with
    | none=>rfl
    | some v=>exact vy v n 0
  · cases hi with
    | none=>rfl
    | some v=>exact vy v n n
theorem uM(i j:Nat):Builtin.Slice.slicePlaces (i:Int) (j:Int) 1=j - i:=by
  unfold Builtin.Slice.slicePlaces
  have h1:(1:Int) > 0:=by lia
  simp only [h1,if_true,Int.ediv_one]
  split<;>lia
theorem slicePart_{v:Value}{o:Option Int}{Q:Option Int→Shared→Prop}(p:IsPart v o)(h:Q o s):wpAny (model prog w) A (Builtin.Slice.slicePartIndex v) Q E s:=by
  cases p with
  | none=>exact slicePart_none h
  | int i t=>exact slicePart_int h
theorem iO{sl:Addr}{vl vu:Value}{lo hi:Option Int}{n:Nat}{Q:Int × Int × Nat→Shared→Prop}(hs:s.heap.IsSliceOf sl vl vu .none)(pl:IsPart vl lo)(pu:IsPart vu hi)
    (h:Q (((sIx n 0 lo:Nat):Int),1,sIx n n hi - sIx n 0 lo) s):wpAny (model prog w) A (Builtin.Slice.sliceApplied (.ref sl) (pure (n:Int))) Q E s:=by
  obtain⟨os,hos,hcs,hds⟩:=id hs
  unfold Builtin.Slice.sliceApplied Builtin.Slice.sliceFields
  refine wpAny_bind (wpAny_bind (wpAny_field hos hds (x:=vl) rfl (wpAny_bind (wpAny_field hos hds (x:=vu) rfl (wpAny_bind (wpAny_field hos hds (x:=.none) rfl (wpAny_pure ?_)))))))
  refine wpAny_bind (slicePart_none ?_)
  show wpAny _ _ (if ((1:Int)==0)=true then _ else _) _ _ s
  rw [if_neg (by decide)]
  refine wpAny_bind (slicePart_ pl (wpAny_bind (slicePart_ pu (wpAny_bind (wpAny_pure ?_)))))
  show wpAny _ _ (match Builtin.Slice.sliceAdjust lo hi 1 (n:Int) with | (lo,hi)=>pure (lo,(1:Int),Builtin.Slice.slicePlaces lo hi 1)) _ _ s
  rw [uo lo hi n]
  show wpAny _ _ (pure (((sIx n 0 lo:Nat):Int),(1:Int),Builtin.Slice.slicePlaces ((sIx n 0 lo:Nat):Int) ((sIx n n hi:Nat):Int) 1)) _ _ s
  rw [uM]
  exact wpAny_pure h
theorem zF(xs:Array Value)(i k:Nat):((List.range k).filterMap fun(m:Nat)=>xs[((i:Int)+(m:Int)*1).toNat]?).toArray=((xs.toList.drop i).take k).toArray:=by
  have e:(fun(m:Nat)=>xs[((i:Int)+(m:Int)*1).toNat]?)=fun m=>xs[i+m]?:=by
    funext m
    have:((i:Int)+(m:Int)*1).toNat=i+m:=by lia
    rw [this]
  rw [e]
  have:=pick_run xs i k
  rw [List.filterMap_map] at this
  have e2:((fun x=>xs[x]?) ∘ fun x=>i+x)=fun m=>xs[i+m]?:=rfl
  rw [e2] at this
  rw [this]
theorem getItem_tuple_cut{t sl:Addr}{items:Array Value}{vl vu:Value}{lo hi:Option Int}{Q:Value→Shared→Prop}(ht:IsTup s.heap t items)(hs:s.heap.IsSliceOf sl vl vu .none)(pl:IsPart vl lo)(pu:IsPart vu hi)
    (hw:¬(sIx items.size 0 lo=0∧sIx items.size items.size hi=items.size))
    (h:Q (.ref s.heap.objs.size) {s with heap:=s.heap.push {cls:=.type "tuple",data:=.seq ((items.toList.drop (sIx items.size 0 lo)).take (sIx items.size items.size hi - sIx items.size 0 lo)).toArray}})
    (hsz:items.size≤sizeLine):wpAny (model prog w) A (getItem (.ref t) (.ref sl)) Q E s:=by
  have htake:sizeOk (.seq ((items.toList.drop (sIx items.size 0 lo)).take (sIx items.size items.size hi - sIx items.size 0 lo)).toArray):=by
    show((items.toList.drop (sIx items.size 0 lo)).take (sIx items.size items.size hi - sIx items.size 0 lo)).toArray.size≤sizeLine
    rw [List.size_toArray,List.length_take,List.length_drop,Array.length_toList]
    lia
  have hj:sIx items.size items.size hi≤items.size:=FL _ _ (Nat.le_refl _) hi
  obtain⟨os,hos,hcs,hds⟩:=id hs
  have hTs:s.TypeIs (.ref sl) "slice":=⟨os,hos,hcs⟩
  unfold getItem
  try with_reducible refine wpAny_holding ?_
  first | refine wpAny_bind (wpAny_pure ?_) | skip
  refine wpAny_bind (wpAny_sequenceKey ht.typeIs (by decide) ?_)
  refine wpAny_bind (wpAny_callSpecial?_slot (name:=Str.ofString "__getitem__") ht.typeIs PyProof.Rows.slot_tuple_getitem
    (wpAny_call_entry PyProof.Rows.slot_tuple_getitem ht.typeIs entry_tuple_getitem ?_ (args_tuple_getitem _ _)))
  show wpAny _ _ (Builtin.Tuple.tupleItemsOf (.ref t) >>= _) _ _ s
  refine wpAny_bind (tupleItemsOf_ ht ?_)
  refine wpAny_bind (wpAny_typeOf hTs ?_)
  rw [if_pos (by decide)]
  refine wpAny_bind (iO hs pl pu ?_)
  have hno:¬((((sIx items.size 0 lo:Nat):Int)==0&&(1:Int)==1&&(sIx items.size items.size hi - sIx items.size 0 lo)==items.size)=true):=by
    intro q
    rw [Bool.and_eq_true,Bool.and_eq_true] at q
    have q1:((sIx items.size 0 lo:Nat):Int)=0:=eq_of_beq q.1.1
    have q2:sIx items.size items.size hi - sIx items.size 0 lo=items.size:=eq_of_beq q.2
    exact hw ⟨by lia,by lia⟩
  show wpAny _ _ (if (((sIx items.size 0 lo:Nat):Int)==0&&(1:Int)==1&&(sIx items.size items.size hi - sIx items.size 0 lo)==items.size)=true then _ else _) _ _ s
  rw [if_neg hno,zF]
  first
    | exact wpAny_bind (m:=Builtin.Tuple.tupleExact _) (wpAny_newObj_type (wpAny_pure ⟨_,rfl,wpAny_pure h⟩) htake)
    | exact wpAny_bind (m:=Builtin.Tuple.tupleExact _) (wpAny_newObj_type (wpAny_bind (wpAny_pure (wpAny_pure ⟨_,rfl,wpAny_pure h⟩))) htake)
    | exact wpAny_bind (wpAny_bind (m:=Builtin.Tuple.tupleExact _) (wpAny_newObj_type (wpAny_pure (wpAny_pure ⟨_,rfl,wpAny_pure h⟩)) htake))
    | exact wpAny_bind (wpAny_bind (m:=Builtin.Tuple.tupleExact _) (wpAny_newObj_type (wpAny_pure ⟨_,rfl,wpAny_pure h⟩) htake))
end
end HT
namespace L2
open PySem PySem.Spec PyProof.Rows
abbrev TO:=St→Hp→(Option Int→Hp→Prop)→Prop
def PO(X:Cx)(e:Option Expr)(t:TO):Prop:=
  ∀(pins:List (Addr × Obj)) (s:Shared) (σ:St) (H:Hp) (Q:Option Int→Hp→Prop),ax X pins σ H s→t σ H Q→
    wpAny (model X.prog X.w) X.A (evalPart e X.env) (fun u s'=>∃o H',ax X pins σ H' s'∧IsPart u o∧Q o H') X.xe s
def CA:TO:=fun _ H Q=>Q none H
def HM(t:TE):TO:=fun σ H Q=>t σ H fun x H1=>∃i,x=.int i∧Q (some i) H1
theorem i4{ns:List Int}:∀{us:List Value},aJ (ns.map V.int) us→IntsAre us ns:=by
  induction ns with
  | nil=>intro us r;rw [List.map_nil] at r;cases r;exact .nil
  | cons n ns ih=>
    intro us r
    rw [List.map_cons] at r
    cases r with
    | cons r1 r2=>
      obtain⟨t,e⟩:=r1
      subst e
      exact .cons n t (ih r2)
section
variable{X:Cx}{e:Expr}{te:TE}{lo hi:Option Expr}{tl th:TO}{pos p2:Pos}
theorem B2:PO X none CA:=by
  intro pins s σ H Q I h
  rw [evalPart_none]
  exact wpAny_pure ⟨none,H,I,.none,h⟩
theorem B3(h:PE X e te):PO X (some e) (HM te):=by
  intro pins s σ H Q I hw
  rw [evalPart_some]
  refine br (h pins s σ H _ I hw) fun u s1 ⟨x,H1,I1,r1,q1⟩=>?_
  obtain⟨i,rfl,q⟩:=q1
  obtain⟨t,rfl⟩:=r1
  exact⟨some i,H1,I1,.int i t,q⟩
def A8(X:Cx)(r:V→Option Int→Option Int→Hp→VK→Prop):Prop:=
  ∀(pins:List (Addr × Obj)) (s:Shared) (σ:St) (H:Hp) (x:V) (v vl vu:Value) (lo hi:Option Int) (sl:Addr) (Q:VK),ax X pins σ H s→a9 x v→s.heap.IsSliceOf sl vl vu .none→IsPart vl lo→IsPart vu hi→r x lo hi H Q→
    ∃T id,typeLookup (.type T) "__getitem__"=pure (some (.builtin id))∧s.TypeIs v T∧wpAny (model X.prog X.w) X.A (getItem v (.ref sl)) (EP X pins σ Q) X.xe s
theorem A8.or{r r':V→Option Int→Option Int→Hp→VK→Prop}(h:A8 X r)(h':A8 X r'):A8 X (fun x lo hi H Q=>r x lo hi H Q∨r' x lo hi H Q):=by
  intro pins s σ H x v vl vu lo hi sl Q I rx hs pl pu q
  rcases q with q | q
  · exact h pins s σ H x v vl vu lo hi sl Q I rx hs pl pu q
  · exact h' pins s σ H x v vl vu lo hi sl Q I rx hs pl pu q
def JT(r:V→Option Int→Option Int→Hp→VK→Prop)(te:TE)(tl th:TO):TE:=fun σ H Q=>te σ H fun x H1=>tl σ H1 fun l H2=>th σ H2 fun u H3=>r x l u H3 Q
theorem zz{r:V→Option Int→Option Int→Hp→VK→Prop}(hr:A8 X r)(he:PE X e te)(hl:PO X lo tl)(hu:PO X hi th):PE X (.Subscript e (.Slice lo hi none p2) pos) (JT r te tl th):=by
  intro pins s σ H Q I h
  refine Subscript_ (br (he pins s σ H _ I h) fun v s1 ⟨x,H1,I1,r1,q1⟩=>?_)
  refine wpAny_Slice (br (hl pins s1 σ H1 _ I1 q1) fun vl s2 ⟨l,H2,I2,pl,q2⟩=>br (hu pins s2 σ H2 _ I2 q2) fun vu s3 ⟨u,H3,I3,pu,q3⟩=>?_)
  rw [evalPart_none]
  refine wpAny_pure ?_
  have I4:ax X pins σ H3 {s3 with heap:=s3.heap.push {cls:=.type "slice",data:=.fields #[vl,vu,.none]}}:=I3.kept (t':=s3.toks) fun b ob q=>Heap.get?_push_of_some _ q
  obtain⟨T,id,hT,ht,hg⟩:=hr pins {s3 with heap:=s3.heap.push {cls:=.type "slice",data:=.fields #[vl,vu,.none]}} σ H3 x v vl vu l u s3.heap.objs.size Q I4 r1 (Heap.IsSliceOf.new ..) pl pu q3
  show wpAny (model X.prog X.w) X.A (subscriptTail e (.Slice lo hi none p2) v (.ref s3.heap.objs.size)) (EP X pins σ Q) X.xe {s3 with heap:=s3.heap.push {cls:=.type "slice",data:=.fields #[vl,vu,.none]}}
  exact tail_any (ops:=[.ref s3.heap.objs.size,v]) ht hT hg (by with_unfolding_all rfl)
def o8(xs:List V)(lo hi:Option Int):List V:=(xs.drop (HT.sIx xs.length 0 lo)).take (HT.sIx xs.length xs.length hi - HT.sIx xs.length 0 lo)
theorem mI(xs:List V)(lo hi:Option Int):(o8 xs lo hi).length≤xs.length:=by
  unfold o8
  rw [List.length_take,List.length_drop]
  lia
def Hx(K:PySem.W.Frag):V→Option Int→Option Int→Hp→VK→Prop:=fun x lo hi H Q=>∃a xs,x=.ref a∧dz K H a xs∧
  ¬(HT.sIx xs.length 0 lo=0∧HT.sIx xs.length xs.length hi=xs.length)∧∀p,H p=none→Q (.ref p) (a8 H p (.tup (o8 xs lo hi)))
theorem FN:A8 X (Hx X.K):=by
  intro pins s σ H x v vl vu lo hi sl Q I rx hs pl pu h
  obtain⟨a,xs,rfl,hx,hw,q⟩:=h
  cases rx
  obtain⟨its,r,ht,hz⟩:=I.tuple hx
  have hlen:its.toArray.size=xs.length:=by rw [List.size_toArray];exact r.length.symm
  refine⟨"tuple",_,PyProof.Rows.slot_tuple_getitem.lookup,ht.typeIs,?_⟩
  refine HT.getItem_tuple_cut ht hs pl pu (by rw [hlen];exact hw) ?_ (by rw [hlen];exact hz)
  rw [hlen]
  refine⟨.ref s.heap.objs.size,_,I.laid (t':=s.toks) (o:=.tup (o8 xs lo hi)) (fun b ob q=>Heap.get?_push_of_some _ q) (Nat.le_refl _) ?_,rfl,q _ (I.hok.fresh (Nat.le_refl _))⟩
  exact⟨Nat.le_trans (mI xs lo hi) hz,_,(r.drop (HT.sIx xs.length 0 lo)).take (HT.sIx xs.length xs.length hi - HT.sIx xs.length 0 lo),nH.new _ _⟩
def Hn(K:PySem.W.Frag):R2:=fun x y H Q=>∃a b xs ys,x=.ref a∧y=.ref b∧dz K H a xs∧dz K H b ys∧xs≠[]∧xs.length+ys.length≤sizeLine∧
  (ys=[]→Q (.ref a) H)∧(ys≠[]→∀p,H p=none→Q (.ref p) (a8 H p (.tup (xs++ys))))
theorem aJ.nil_iff{xs:List V}{us:List Value}(r:aJ xs us):us=[]↔ xs=[]:=by
  cases r with
  | nil=>simp
  | cons _ _=>simp
theorem BK:fg X (binaryOp .Add) (Hn X.K):=by
  intro pins s σ H x y v u Q I rx ry h
  obtain⟨a,b,xs,ys,rfl,rfl,ha,hb,hx,hz,q1,q2⟩:=h
  cases rx
  cases ry
  obtain⟨its,r1,p1,_⟩:=I.tuple ha
  obtain⟨its2,r2,p2,_⟩:=I.tuple hb
  refine HT.cat_tup p1 p2 (fun z=>hx (r1.nil_iff.mp z)) (fun z=>⟨.ref a,H,I,rfl,q1 (r2.nil_iff.mp z)⟩) (fun z=>?_) (by rw [←r1.length,←r2.length];exact hz)
  refine⟨.ref s.heap.objs.size,_,I.laid (t':=s.toks) (o:=.tup (xs++ys)) (fun b ob q=>Heap.get?_push_of_some _ q) (Nat.le_refl _) ?_,rfl,q2 (fun w=>z (r2.nil_iff.mpr w)) _ (I.hok.fresh (Nat.le_refl _))⟩
  exact⟨by rw [List.length_append];exact hz,_,r1.append r2,nH.new _ _⟩
end
def xV(n:Nat)(i:Int):Option Nat:=if 0≤i then(if i < n then some i.toNat else none) else if -(n:Int)≤i then some (i+n).toNat else none
def atI{α:Type}(xs:List α)(i:Int):Option α:=(xV xs.length i).bind fun j=>xs[j]?
theorem vO{n:Nat}{i:Int}{j:Nat}(h:xV n i=some j):seqIndex? i n=some j∧j < n∧ -(n:Int)≤i∧i < n:=by
  unfold xV at h
  by_cases h0:0≤i
  · rw [if_pos h0] at h
    by_cases h1:i < n
    · rw [if_pos h1] at h
      have e:i.toNat=j:=Option.some.inj h
      exact⟨by rw [seqIndex_of h0 h1,e],by lia,by lia,h1⟩
    · rw [if_neg h1] at h;cases h
  · rw [if_neg h0] at h
    by_cases h1: -(n:Int)≤i
    · rw [if_pos h1] at h
      have e:(i+n).toNat=j:=Option.some.inj h
      exact⟨by rw [seqIndex_neg (by lia) h1,e],by lia,h1,by lia⟩
    · rw [if_neg h1] at h;cases h
theorem vj{α:Type}{xs:List α}{i:Int}{v:α}(h:atI xs i=some v):∃j,seqIndex? i xs.length=some j∧xs[j]?=some v∧j < xs.length∧ -(xs.length:Int)≤i∧i < xs.length:=by
  unfold atI at h
  cases e:xV xs.length i with
  | none=>rw [e] at h;cases h
  | some j=>
    rw [e] at h
    obtain⟨h1,h2,h3,h4⟩:=vO e
    exact⟨j,h1,h,h2,h3,h4⟩
def qm(b:Expr):Prop:=∀o i,subscripted b false o i=operate [o,i] (getItem o i)
def A7(X:Cx)(r:R2):Prop:=
  ∀(value slice:Expr) (pins:List (Addr × Obj)) (s:Shared) (σ:St) (H:Hp) (x y:V) (v u:Value) (Q:VK),ax X pins σ H s→a9 x v→a9 y u→r x y H Q→
    subscripted slice false v u=operate [v,u] (getItem v u)→wpAny (model X.prog X.w) X.A (subscriptTail value slice v u) (EP X pins σ Q) X.xe s
def DM(X:Cx)(id:String)(r:V→List V→Hp→VK→Prop):Prop:=
  ∀(pins:List (Addr × Obj)) (s:Shared) (σ:St) (H:Hp) (x:V) (xs:List V) (v:Value) (us:List Value) (Q:VK),ax X pins σ H s→a9 x v→aJ xs us→r x xs H Q→
    wpAny (model X.prog X.w) X.A (call (.builtin id) (v::us)) (EP X pins σ Q) X.xe s
section
variable{X:Cx}{a b:Expr}{ta tb:TE}{pos:Pos}
theorem A7.or{r r':R2}(h:A7 X r)(h':A7 X r'):A7 X (fun x y H Q=>r x y H Q∨r' x y H Q):=by
  intro value slice pins s σ H x y v u Q I rx ry q hs
  rcases q with q | q
  · exact h value slice pins s σ H x y v u Q I rx ry q hs
  · exact h' value slice pins s σ H x y v u Q I rx ry q hs
theorem Hc{r:R2}(hr:A7 X r)(ha:PE X a ta)(hb:PE X b tb)(hs:qm b):PE X (.Subscript a b pos) (HL r ta tb):=by
  intro pins s σ H Q I h
  exact Subscript_ (DT ha hb I h fun v u s2 x y H2 I2 rx ry q=>hr a b pins s2 σ H2 x y v u Q I2 rx ry q (hs _ _))
def Hr(K:PySem.W.Frag):R2:=fun x y H Q=>∃p xs i v,x=.ref p∧y=.int i∧f9 K H p xs∧atI xs i=some v∧Q v H
def Hs(K:PySem.W.Frag):R2:=fun x y H Q=>∃p xs i v,x=.ref p∧y=.int i∧dz K H p xs∧atI xs i=some v∧Q v H
theorem Bu:A7 X (Hr X.K):=by
  intro value slice pins s σ H x y v u Q I rx ry h hs
  obtain⟨p,xs,i,z,rfl,rfl,hq,he,q⟩:=h
  cases rx
  obtain⟨t,rfl⟩:=ry
  obtain⟨its,r,pl,hz⟩:=I.list hq
  obtain⟨j,h1,h2,h3,h4,h5⟩:=vj he
  obtain⟨w,ew,rw'⟩:=r.get h2
  have hl:=r.length
  have hn:=qX
  have fin:EP X pins σ Q w s:=⟨z,H,I,rw',q⟩
  by_cases h0:0≤i
  · have hj:i.toNat=j:=by
      rw [seqIndex_of h0 h5] at h1
      exact Option.some.inj h1
    exact item_listR pl.isList h0 (by lia) (by rw [hj];simpa using ew) fin hs
  · have hj:(i+(its.toArray.size:Int)).toNat=j:=by
      rw [seqIndex_neg (by lia) h4] at h1
      rw [List.size_toArray,←hl]
      exact Option.some.inj h1
    exact subscriptTail_builtinR (x:=w) pl.isList.typeIs slot_list_getitem.lookup
      (wpAny_getItem_list_neg (Q:=fun r s'=>r=w∧EP X pins σ Q r s') pl.isList (by lia) (by rw [List.size_toArray]<;>lia) (by lia) (by rw [hj];simpa using ew) ⟨rfl,fin⟩) hs
theorem Ef:A7 X (Hs X.K):=by
  intro value slice pins s σ H x y v u Q I rx ry h hs
  obtain⟨p,xs,i,z,rfl,rfl,hq,he,q⟩:=h
  cases rx
  obtain⟨t,rfl⟩:=ry
  obtain⟨its,r,pl,hz⟩:=I.tuple hq
  obtain⟨j,h1,h2,h3,h4,h5⟩:=vj he
  obtain⟨w,ew,rw'⟩:=r.get h2
  have hl:=r.length
  have hn:=qX
  have fin:EP X pins σ Q w s:=⟨z,H,I,rw',q⟩
  exact subscriptTail_builtinR (x:=w) pl.typeIs slot_tuple_getitem.lookup
    (getItem_tuple (j:=j) (Q:=fun r s'=>r=w∧EP X pins σ Q r s') pl (by lia) (by lia) (by rw [List.size_toArray,←hl];exact h1) (by simpa using ew) ⟨rfl,fin⟩) hs
theorem uH(its:List Value)(n j:Nat)(u:Value):Obj.mapSeq (·.setIfInBounds j u) {cls:=.type "list",data:=.seq its.toArray n}={cls:=.type "list",data:=.seq (its.set j u).toArray n}:=by
  simp [Obj.mapSeq]
theorem ax.lst{pins:List (Addr × Obj)}{σ:St}{H:Hp}{s:Shared}{p:Addr}{xs:List V}(I:ax X pins σ H s)(h:H p=some (.lst xs)):
    ∃(its:List Value) (n:Nat),aJ xs its∧s.heap.get? p=some {cls:=.type "list",data:=.seq its.toArray n}∧xs.length≤sizeLine:=by
  obtain⟨z,its,n,r,e⟩:=I.hok p _ h
  exact⟨its,n,r,e,z⟩
theorem ax.lstUpd{pins:List (Addr × Obj)}{σ:St}{H:Hp}{s:Shared}{p:Addr}{xs ys:List V}{its its':List Value}{n n':Nat}{f:Obj→Obj}(I:ax X pins σ H s)(h:H p=some (.lst xs))
    (ho:s.heap.get? p=some {cls:=.type "list",data:=.seq its.toArray n})(hf:f {cls:=.type "list",data:=.seq its.toArray n}={cls:=.type "list",data:=.seq its'.toArray n'})(r:aJ ys its')(hz:ys.length≤sizeLine)(t:Nat):
    ax X pins σ (a8 H p (.lst ys)) {s with heap:=s.heap.update p f,toks:=t}:=by
  have e:(s.heap.update p f).get? p=some {cls:=.type "list",data:=.seq its'.toArray n'}:=by
    rw [Heap.get?_update_self f ho (by rw [hf]<;>rfl),hf]
  refine I.write (x:=p) (e:=p) (by rw [h];trivial) (.inl rfl) (fun b u hb q=>(Heap.get?_update_other _ _ (Ne.symm hb)).trans q) ⟨_,e⟩ ?_
  exact⟨hz,its',n',r,e⟩
def Hv:V→V→V→Hp→(Hp→Prop)→Prop:=fun o i v H Q=>∃p xs k j,o=.ref p∧i=.int k∧H p=some (.lst xs)∧xV xs.length k=some j∧Q (a8 H p (.lst (xs.set j v)))
theorem As:Gw X Hv:=by
  intro pins s σ H o i v ov iv u Q I ro ri rv h
  obtain⟨p,xs,k,j,rfl,rfl,hp,hj,q⟩:=h
  cases ro
  obtain⟨t,rfl⟩:=ri
  obtain⟨its,n,r,ho,hz⟩:=I.lst hp
  obtain⟨h1,h2,h3,h4⟩:=vO hj
  have hl:=r.length
  have hn:=qX
  have I':ax X pins σ (a8 H p (.lst (xs.set j v))) {s with heap:=s.heap.update p (Obj.mapSeq (·.setIfInBounds j u))}:=
    I.lstUpd hp ho (uH its n j u) (r.set rv j) (by rw [List.length_set];exact hz) s.toks
  by_cases h0:0≤k
  · have hk:k.toNat=j:=by
      rw [seqIndex_of h0 h4] at h1
      exact Option.some.inj h1
    exact PySem.W.ki_setAt ho h0 (by lia) (by rw [List.size_toArray,←hl];exact h4) (by rw [hk];exact⟨_,I',q⟩)
  · have hk:(k+(its.toArray.size:Int)).toNat=j:=by
      rw [seqIndex_neg (by lia) h3] at h1
      rw [List.size_toArray,←hl]
      exact Option.some.inj h1
    exact PySem.W.ki_setBack ho (by lia) (by rw [List.size_toArray,←hl];exact h3) (by lia) (by rw [hk];exact⟨_,I',q⟩)
theorem rK(lo hi:Option Int)(n:Nat):(sliceBounds lo hi none n).1=((HT.sIx n 0 lo:Nat):Int)∧(sliceBounds lo hi none n).2.1=((HT.sIx n n hi:Nat):Int)∧(sliceBounds lo hi none n).2.2=1:=by
  refine⟨?_,?_,rfl⟩
  · cases lo with
    | none=>simp [sliceBounds,HT.sIx]
    | some i=>
      simp only [sliceBounds,HT.sIx,Option.getD_none,show(1:Int) > 0 by decide,if_true]
      by_cases h:i < 0
      · simp only [h,if_true]<;>lia
      · simp only [h,if_false]<;>lia
  · cases hi with
    | none=>simp [sliceBounds,HT.sIx]
    | some i=>
      simp only [sliceBounds,HT.sIx,Option.getD_none,show(1:Int) > 0 by decide,if_true]
      by_cases h:i < 0
      · simp only [h,if_true]<;>lia
      · simp only [h,if_false]<;>lia
theorem pq(its:List Value)(lo hi:Option Int):slicePick its.toArray lo hi none=((its.drop (HT.sIx its.length 0 lo)).take (HT.sIx its.length its.length hi - HT.sIx its.length 0 lo)).toArray:=by
  obtain⟨h1,h2,h3⟩:=rK lo hi its.toArray.size
  unfold slicePick
  rw [h1,h2,h3]
  simp only [sliceRange_one,pick_run,List.size_toArray]<;>rfl
def Hw(K:PySem.W.Frag):V→Option Int→Option Int→Hp→VK→Prop:=fun x lo hi H Q=>∃a xs,x=.ref a∧f9 K H a xs∧∀p,H p=none→Q (.ref p) (a8 H p (.lst (o8 xs lo hi)))
theorem Cu:A8 X (Hw X.K):=by
  intro pins s σ H x v vl vu lo hi sl Q I rx hs pl pu h
  obtain⟨a,xs,rfl,hx,q⟩:=h
  cases rx
  obtain⟨its,r,ht,hz⟩:=I.list hx
  have hlen:=r.length
  refine⟨"list",_,slot_list_getitem.lookup,ht.isList.typeIs,?_⟩
  refine wpAny_getItem_list_slice ht.isList hs pl pu .none (by simp) ?_ (by rw [List.size_toArray]<;>lia)
  rw [pq,←hlen]
  refine⟨.ref s.heap.objs.size,_,I.laid (t':=s.toks) (o:=.lst (o8 xs lo hi)) (fun b ob q=>Heap.get?_push_of_some _ q) (Nat.le_refl _) ?_,rfl,q _ (I.hok.fresh (Nat.le_refl _))⟩
  exact⟨Nat.le_trans (mI xs lo hi) hz,_,0,(r.drop (HT.sIx xs.length 0 lo)).take (HT.sIx xs.length xs.length hi - HT.sIx xs.length 0 lo),Heap.get?_push_size _ rfl⟩
theorem qt:dQ X (.builtin "len") (fun xs H Q=>∃p ys,xs=[.ref p]∧(f9 X.K H p ys∨dz X.K H p ys)∧Q (.int ys.length) H):=by
  intro pins s σ H xs us Q I r h
  obtain⟨p,ys,rfl,hq,q⟩:=h
  obtain⟨u,rfl,rx⟩:=qi r
  cases rx
  have hn:=qX
  rcases hq with hq | hq
  · obtain⟨its,r',pl,hz⟩:=I.list hq
    have hlen:=r'.length
    exact Calls.call_len_list pl.isList (by simp only [List.size_toArray]<;>lia) ⟨.int ys.length,H,I.tok _,⟨s.toks+1,by rw [List.size_toArray,hlen]⟩,q⟩
  · obtain⟨its,r',pl,hz⟩:=I.tuple hq
    have hlen:=r'.length
    exact len_tuple pl (by simp only [List.size_toArray]<;>lia) ⟨.int ys.length,H,I.tok _,⟨s.toks+1,by rw [List.size_toArray,hlen]⟩,q⟩
theorem qu:dQ X (.type "list") (fun xs H Q=>∃p ys,xs=[.ref p]∧(f9 X.K H p ys∨dz X.K H p ys)∧∀l,H l=none→Q (.ref l) (a8 H l (.lst ys))):=by
  intro pins s σ H xs us Q I r h
  obtain⟨p,ys,rfl,hq,q⟩:=h
  obtain⟨u,rfl,rx⟩:=qi r
  cases rx
  have fin:∀(its:List Value),aJ ys its→ys.length≤sizeLine→∀(h':Heap) (c':Nat),(∀b o',s.heap.get? b=some o'→h'.get? b=some o')→
      h'.get? s.heap.objs.size=some {cls:=.type "list",dict:=none,data:=.seq its.toArray c',slots:=#[]}→EP X pins σ Q (.ref s.heap.objs.size) {s with heap:=h'}:=fun its r' hz h' c' kp e=>
    ⟨.ref s.heap.objs.size,_,I.laid (t':=s.toks) kp (Nat.le_refl _) (show cW X.prog X.w _ h' _ (.lst ys) from⟨hz,its,c',r',e⟩),rfl,q _ (I.hok.fresh (Nat.le_refl _))⟩
  rcases hq with hq | hq
  · obtain⟨its,r',pl,hz⟩:=I.list hq
    have hlen:=r'.length
    obtain⟨o,ho,hc,n,hd⟩:=pl.isList
    exact call_list_seq p (.inl rfl) ho hc hd (fun h' c' kp e=>fin its r' hz h' c' kp e) (by simp only [List.size_toArray]<;>lia)
  · obtain⟨its,r',pl,hz⟩:=I.tuple hq
    have hlen:=r'.length
    obtain⟨o,ho,hc,n,hd⟩:=pl
    exact call_list_seq p (.inr rfl) ho hc hd (fun h' c' kp e=>fin its r' hz h' c' kp e) (by simp only [List.size_toArray]<;>lia)
theorem o6:dQ X (.type "tuple") (fun xs H Q=>∃p ys,xs=[.ref p]∧((f9 X.K H p ys∧∀l,H l=none→Q (.ref l) (a8 H l (.tup ys)))∨(dz X.K H p ys∧Q (.ref p) H))):=by
  intro pins s σ H xs us Q I r h
  obtain⟨p,ys,rfl,h⟩:=h
  obtain⟨u,rfl,rx⟩:=qi r
  cases rx
  rcases h with ⟨hq,q⟩ | ⟨hq,q⟩
  · obtain⟨its,r',pl,hz⟩:=I.list hq
    have hlen:=r'.length
    refine call_tuple_list pl.isList (fun h' kp=>?_) (by simp only [List.size_toArray]<;>lia)
    have I1:ax X pins σ H {s with heap:=h'}:=I.kept (t':=s.toks) kp
    have I2:ax X pins σ (a8 H h'.objs.size (.tup ys)) {s with heap:=h'.push {cls:=.type "tuple",data:=.seq its.toArray}}:=
      I1.laid (t':=s.toks) (fun b o e=>Heap.get?_push_of_some _ e) (Nat.le_refl _) (show cW X.prog X.w _ _ _ (.tup ys) from⟨hz,its,r',nH.new _ _⟩)
    exact⟨.ref h'.objs.size,_,I2,rfl,q _ (I1.hok.fresh (Nat.le_refl _))⟩
  · obtain⟨its,r',pl,hz⟩:=I.tuple hq
    exact call_tuple_same pl ⟨.ref p,H,I,rfl,q⟩
def Jf(K:PySem.W.Frag)(T:String)(x:V)(H:Hp):Prop:=match x with
  | .str _=>T="str"
  | .int _=>T="int"
  | .ref p=>(T="list"∧∃xs,f9 K H p xs)∨(T="tuple"∧∃o,K.lookup p=some o∧o.cls=.type "tuple"∧o.dict=none)∨
      (T="dict"∧((∃kvs,H p=some (.dK kvs))∨∃kvs,H p=some (.dT kvs)))∨(T="set"∧∃S n,H p=some (.set S n))
  | _=>False
theorem u_{pins:List (Addr × Obj)}{σ:St}{H:Hp}{s:Shared}{T:String}{x:V}{v:Value}(I:ax X pins σ H s)(r:a9 x v)(ty:Jf X.K T x H):
    s.TypeIs v T∧∀a,v=.ref a→∃ob,s.heap.get? a=some ob∧ob.dict=none:=by
  cases x with
  | str z=>
    obtain⟨t,rfl⟩:=r
    cases (show T="str" from ty)
    exact⟨typeIs_str s z t,fun _ e=>nomatch e⟩
  | int i=>
    obtain⟨t,rfl⟩:=r
    cases (show T="int" from ty)
    exact⟨typeIs_int s i t,fun _ e=>nomatch e⟩
  | ref p=>
    cases r
    rcases ty with ⟨rfl,xs,hq⟩ | ⟨rfl,o,hk,hc,hd⟩ | ⟨rfl,hk⟩ | ⟨rfl,S,n,hk⟩
    · obtain⟨its,_,pl,_⟩:=I.list hq
      refine⟨pl.isList.typeIs,fun a e=>?_⟩
      cases e
      obtain⟨o,n,e,c,hd,_⟩:=pl
      exact⟨o,e,hd⟩
    · refine⟨⟨o,I.kIn p o hk,hc⟩,fun a e=>?_⟩
      cases e
      exact⟨o,I.kIn _ o hk,hd⟩
    · have z:∃o,s.heap.get? p=some o∧o.ExactDict:=by
        rcases hk with ⟨kvs,hk⟩ | ⟨kvs,hk⟩
        · obtain⟨_,_,_,_,o,_,_,e,ex,_⟩:=I.hok p _ hk
          exact⟨o,e,ex⟩
        · obtain⟨_,_,_,_,o,_,_,e,ex,_⟩:=I.hok p _ hk
          exact⟨o,e,ex⟩
      obtain⟨o,e,ex⟩:=z
      refine⟨⟨o,e,ex.1⟩,fun a e2=>?_⟩
      cases e2
      exact⟨o,e,ex.2.1⟩
    · obtain⟨o,_,_,_,e,ex,_⟩:=I.hok p _ hk
      refine⟨⟨o,e,ex.1⟩,fun a e2=>?_⟩
      cases e2
      exact⟨o,e,ex.2.1⟩
  | _=>exact False.elim ty
def IY(K:PySem.W.Frag)(T:String)(r:V→List V→Hp→VK→Prop)(to:TE):TE:=fun σ H Q=>to σ H fun x H1=>Jf K T x H1∧r x [] H1 Q
def Js(K:PySem.W.Frag)(T:String)(r:V→List V→Hp→VK→Prop)(to:TE)(t:TA):TE:=fun σ H Q=>to σ H fun x H1=>Jf K T x H1∧t σ H1 fun xs H2=>r x xs H2 Q
variable{o e:Expr}{es:List Expr}{to:TE}{t:TA}{name:Str}{apos cpos:Pos}{T id:String}{r:V→List V→Hp→VK→Prop}
theorem ER(pa:PlainAttrs T)(slot:Slot T name id)(hty:typeOf (.builtin id)=pure (.type "method_descriptor"))(hm:DM X id r)(ho:PE X o to)
    (hbase:attributeBase o name X.env (eval o X.env)=eval o X.env:=by rfl)(hline:(apos.endLine==cpos.line)=true:=by rfl):PE X (.Call (.Attribute o name apos) [] [] cpos) (IY X.K T r to):=by
  intro pins s σ H Q I h
  refine wpAny_Call_method0_late hbase hline (br (ho pins s σ H _ I h) fun v s1 ⟨x,H1,I1,r1,ty,q1⟩=>?_)
  obtain⟨h1,h2⟩:=u_ I1 r1 ty
  exact⟨T,id,pa,slot,hty,h1,h2,Calls.callWith_builtin rfl (PySem.evalArgs_none (hm pins s1 σ H1 x [] v [] Q I1 r1 .nil q1))⟩
theorem Do(pa:PlainAttrs T)(slot:Slot T name id)(hty:typeOf (.builtin id)=pure (.type "method_descriptor"))(hm:DM X id r)(ho:PE X o to)(ha:PA X (e::es) t)
    (hbase:attributeBase o name X.env (eval o X.env)=eval o X.env:=by rfl)
    (hfew:((backTo cpos (starEach (e::es) X.env)).all (fun x=> !x.1)&&(backToKw cpos (keywordEach [] X.env)).all (fun x=>x.1.isSome)
      &&decide ((e::es).length+([]:List Keyword).length+(if ([]:List Keyword).isEmpty then 0 else 1) < 30))=true:=by rfl)
    (hline:(apos.endLine==cpos.line)=true:=by rfl)(hs:starEach (e::es) X.env=(false,eval e X.env)::starEach es X.env:=by rfl)(hplain:(backTo cpos (starEach es X.env)).any (·.1)=false:=by rfl):
    PE X (.Call (.Attribute o name apos) (e::es) [] cpos) (Js X.K T r to t):=by
  intro pins s σ H Q I h
  refine wpAny_Call_method_late hbase hfew hline rfl (br (ho pins s σ H _ I h) fun v s1 ⟨x,H1,I1,r1,ty,q1⟩=>?_)
  obtain⟨h1,h2⟩:=u_ I1 r1 ty
  refine⟨T,id,pa,slot,hty,h1,h2,?_⟩
  have hA:=ha cpos pins s1 σ H1 _ I1 q1
  rw [hs] at hA ⊢
  refine Calls.callWith_builtin (by show(false || (backTo cpos (starEach es X.env)).any (·.1))=false;rw [hplain]<;>rfl) (Calls.evalArgs_plain ?_)
  exact br hA fun us s2 ⟨vs,H2,I2,r2,q2⟩=>hm pins s2 σ H2 x vs v us Q I2 r1 r2 q2
end
def HZ(X:Cx)(id:String)(r:V→List V→Hp→VK→Prop):Prop:=
  ∀(pins:List (Addr × Obj)) (s:Shared) (σ:St) (H:Hp) (x:V) (xs:List V) (v:Value) (us:List Value) (Q:VK),ax X pins σ H s→a9 x v→aJ xs us→r x xs H Q→
    wpAny (model X.prog X.w) X.A (call (.builtin id) (v::us)) (EP X pins σ Q) X.xe s
theorem aJ.one:∀{x:V} {us:List Value},aJ [x] us→∃u,us=[u]∧a9 x u
  | _,_,.cons r .nil=>⟨_,rfl,r⟩
theorem aJ.zero:∀{us:List Value},aJ [] us→us=[]
  | _,.nil=>rfl
theorem aJ.dropLast{xs:List V}{us:List Value}(h:aJ xs us):aJ xs.dropLast us.dropLast:=by
  induction h with
  | nil=>exact .nil
  | cons r t ih=>
    cases t with
    | nil=>exact .nil
    | cons q t'=>exact .cons r ih
theorem aJ.eraseIdx:∀{xs:List V} {us:List Value} (i:Nat),aJ xs us→aJ (xs.eraseIdx i) (us.eraseIdx i)
  | _,_,_,.nil=>.nil
  | _,_,0,.cons _ t=>t
  | _,_,i+1,.cons r t=>.cons r (aJ.eraseIdx i t)
theorem aJ.reverse{xs:List V}{us:List Value}(h:aJ xs us):aJ xs.reverse us.reverse:=by
  induction h with
  | nil=>exact .nil
  | cons r t ih=>rw [List.reverse_cons,List.reverse_cons];exact aJ.append ih (.cons r .nil)
theorem aJ.rep{xs:List V}{us:List Value}(h:aJ xs us):∀k:Nat,aJ (List.replicate k xs).flatten (List.replicate k us).flatten
  | 0=>.nil
  | k+1=>by
    rw [List.replicate_succ,List.replicate_succ,List.flatten_cons,List.flatten_cons]
    exact aJ.append h (aJ.rep h k)
theorem uA{α:Type}(l:List α):l.eraseIdx (l.length - 1)=l.dropLast:=by
  induction l with
  | nil=>rfl
  | cons a r ih=>
    cases r with
    | nil=>rfl
    | cons b r=>
      have e:(a::b::r).length - 1=((b::r).length - 1)+1:=by
        have h1:(a::b::r).length=r.length+2:=rfl
        have h2:(b::r).length=r.length+1:=rfl
        lia
      rw [e,List.eraseIdx_cons_succ,ih]
      all_goals rfl
theorem pV{α:Type}:∀(l:List α) (i:Nat),(l.eraseIdx i).length≤l.length
  | [],_=>Nat.le_refl _
  | _::_,0=>Nat.le_succ _
  | _::r,i+1=>Nat.succ_le_succ (pV r i)
theorem pM(its:List Value):∀(k:Nat) (acc:List Value),
    List.foldl (fun x1 x2=>x1++x2) acc.toArray (List.replicate k its.toArray)=(acc++(List.replicate k its).flatten).toArray
  | 0,acc=>by simp
  | k+1,acc=>by
    have e:acc.toArray++its.toArray=(acc++its).toArray:=by simp
    have e2:(acc++its)++(List.replicate k its).flatten=acc++(List.replicate (k+1) its).flatten:=by
      rw [List.replicate_succ,List.flatten_cons,List.append_assoc]
    rw [←e2,←pM its k (acc++its),←e,List.replicate_succ,List.foldl_cons]
section
variable{X:Cx}{pins:List (Addr × Obj)}{σ:St}{H:Hp}{s:Shared}{l b:Addr}{xs ys zs:List V}
theorem ax.lset{its its':List Value}{n:Nat}{f:Array Value→Array Value}{t':Nat}(I:ax X pins σ H s)(hH:H l=some (.lst xs))
    (e:s.heap.get? l=some {cls:=.type "list",data:=.seq its.toArray n})(hf:f its.toArray=its'.toArray)(hv:aJ ys its')(hz:ys.length≤sizeLine):
    ax X pins σ (a8 H l (.lst ys)) {s with heap:=s.heap.update l (Obj.mapSeq f),toks:=t'}:=by
  have q:=PySem.IsL.update e f
  rw [hf] at q
  refine I.write (x:=l) (e:=l) (by rw [hH];exact trivial) (.inl rfl) (fun b' u hb hu=>(Heap.get?_update_other s.heap (Obj.mapSeq f) (Ne.symm hb)).trans hu) ⟨_,q⟩ ?_
  exact⟨hz,its',_,hv,q⟩
theorem ax.lnew{its:List Value}{t':Nat}(I:ax X pins σ H s)(hv:aJ ys its)(hz:ys.length≤sizeLine):
    ax X pins σ (a8 H s.heap.objs.size (.lst ys)) {s with heap:=s.heap.push {cls:=.type "list",data:=.seq its.toArray},toks:=t'}:=
  I.laid (fun _ _ q=>Heap.get?_push_of_some _ q) (Nat.le_refl _) ⟨hz,its,0,hv,Heap.get?_push_size _ rfl⟩
theorem ax.fresh(I:ax X pins σ H s):H s.heap.objs.size=none:=I.hok.fresh (Nat.le_refl _)
theorem ax.lstM(I:ax X pins σ H s)(hH:H l=some (.lst xs)):xs.length≤sizeLine∧∃(its:List Value) (n:Nat),aJ xs its∧xs.length=its.length∧s.heap.get? l=some {cls:=.type "list",data:=.seq its.toArray n}:=by
  obtain⟨z,its,n,r,e⟩:=I.hok l _ hH
  exact⟨z,its,n,r,r.length,e⟩
theorem sY{n:Nat}(h:n≤sizeLine):Builtin.List.listTooLong n=false:=by
  unfold Builtin.List.listTooLong
  exact decide_eq_false (by lia)
end
section
variable{X:Cx}
def v0:V→List V→Hp→VK→Prop:=fun x vs H Q=>∃l xs y,x=.ref l∧vs=[y]∧H l=some (.lst xs)∧xs.length < sizeLine∧Q .non (a8 H l (.lst (xs++[y])))
theorem j4:HZ X "list.append" v0:=by
  intro pins s σ H x vs v us Q I rx rv h
  obtain⟨l,xs,y,rfl,rfl,hH,hz,q⟩:=h
  cases rx
  obtain⟨u,rfl,ru⟩:=rv.one
  obtain⟨z,its,n,r,hl,e⟩:=I.lstM hH
  refine call_meets F.slot_list_append ⟨_,e,rfl⟩ F.entry_list_append (F.args_list_append_2 _ _) (PySem.list_append l its.toArray n u (by rw [List.size_toArray];lia)) ⟨e,?_⟩
  refine⟨.non,_,I.lset (its':=its++[u]) hH e (by simp) (r.append (.cons ru .nil)) ?_,rfl,q⟩
  rw [List.length_append,List.length_singleton]
  lia
def Cm:V→List V→Hp→VK→Prop:=fun x vs H Q=>∃l b xs zs,x=.ref l∧vs=[.ref b]∧H l=some (.lst xs)∧H b=some (.lst zs)∧xs.length+zs.length≤sizeLine∧Q .non (a8 H l (.lst (xs++zs)))
theorem xb:HZ X "list.extend" Cm:=by
  intro pins s σ H x vs v us Q I rx rv h
  obtain⟨l,b,xs,zs,rfl,rfl,hH,hB,hz,q⟩:=h
  cases rx
  obtain⟨u,rfl,ru⟩:=rv.one
  cases ru
  obtain⟨z,its,n,r,hl,e⟩:=I.lstM hH
  obtain⟨z2,its2,n2,r2,hl2,e2⟩:=I.lstM hB
  have hsz:its.toArray.size+its2.toArray.size≤sizeLine:=by rw [List.size_toArray,List.size_toArray];lia
  have hlong:¬(!its.toArray.isEmpty&&Builtin.List.listTooLong (its.toArray.size+its2.toArray.size))=true:=by
    rw [sY hsz,Bool.and_false]
    exact Bool.false_ne_true
  refine call_meets F.slot_list_extend ⟨_,e,rfl⟩ F.entry_list_extend (F.args_list_extend_2 _ _)
    (AutoSeq1.list_extend_list_list_0 l its.toArray n b its2.toArray n2 hlong (by rw [List.size_toArray];lia) (by lia)) ⟨e,e2,?_⟩
  refine⟨.non,_,I.lset (its':=its++its2) hH e (by simp) (r.append r2) ?_,rfl,q⟩
  rw [List.length_append]
  lia
def Ht:V→List V→Hp→VK→Prop:=fun x vs H Q=>∃l xs y,x=.ref l∧vs=[]∧H l=some (.lst xs)∧xs[xs.length - 1]?=some y∧Q y (a8 H l (.lst xs.dropLast))
theorem Ep:HZ X "list.pop" Ht:=by
  intro pins s σ H x vs v us Q I rx rv h
  obtain⟨l,xs,y,rfl,rfl,hH,hy,q⟩:=h
  cases rx
  have hus:=rv.zero
  subst hus
  obtain⟨z,its,n,r,hl,e⟩:=I.lstM hH
  obtain⟨u,hu,ru⟩:=r.get hy
  have hy':its.toArray[its.toArray.size - 1]?=some u:=by
    show its.toArray[its.length - 1]?=some u
    rw [←Array.getElem?_toList,←hl]
    exact hu
  refine call_meets F.slot_list_pop ⟨_,e,rfl⟩ F.entry_list_pop (F.args_list_pop_1 _) (MeetsSeq.list_pop_last l its.toArray n u hy' (by rw [List.size_toArray];lia)) ⟨e,?_⟩
  refine⟨y,_,I.lset (its':=its.dropLast) hH e ?_ r.dropLast ?_,ru,q⟩
  · show its.toArray.eraseIdxIfInBounds (its.toArray.size - 1)=its.dropLast.toArray
    rw [List.size_toArray,List.eraseIdxIfInBounds_toArray,uA]
  · rw [List.length_dropLast]
    lia
def Ac:V→List V→Hp→VK→Prop:=fun x vs H Q=>∃l xs i k y,x=.ref l∧vs=[.int i]∧H l=some (.lst xs)∧ -(2 ^ 63)≤i∧i < 2 ^ 63∧seqIndex? i xs.length=some k∧xs[k]?=some y∧Q y (a8 H l (.lst (xs.eraseIdx k)))
theorem y8:HZ X "list.pop" Ac:=by
  intro pins s σ H x vs v us Q I rx rv h
  obtain⟨l,xs,i,k,y,rfl,rfl,hH,h1,h2,hk,hy,q⟩:=h
  cases rx
  obtain⟨u,rfl,ru⟩:=rv.one
  obtain⟨t,rfl⟩:=ru
  obtain⟨z,its,n,r,hl,e⟩:=I.lstM hH
  obtain⟨w,hw,rw'⟩:=r.get hy
  refine call_meets F.slot_list_pop ⟨_,e,rfl⟩ F.entry_list_pop (F.args_list_pop_2 _ _)
    (MeetsSeq.list_pop_at l its.toArray n i t k w (fitsIndex_both h1 h2) (by rw [List.size_toArray,←hl];exact hk) (by rw [←Array.getElem?_toList];exact hw) (by rw [List.size_toArray];lia)) ⟨e,?_⟩
  refine⟨y,_,I.lset (its':=its.eraseIdx k) hH e ?_ (r.eraseIdx k) ?_,rw',q⟩
  · show its.toArray.eraseIdxIfInBounds k=(its.eraseIdx k).toArray
    rw [List.eraseIdxIfInBounds_toArray]
  · have:=pV xs k
    lia
def Fu:R2:=fun x y H Q=>∃l b xs zs,x=.ref l∧y=.ref b∧H l=some (.lst xs)∧H b=some (.lst zs)∧xs.length+zs.length≤sizeLine∧∀p,H p=none→Q (.ref p) (a8 H p (.lst (xs++zs)))
theorem EB:fg X (binaryOp .Add) Fu:=by
  intro pins s σ H x y v u Q I rx ry h
  obtain⟨l,b,xs,zs,rfl,rfl,hH,hB,hz,q⟩:=h
  cases rx
  cases ry
  obtain⟨z,its,n,r,hl,e⟩:=I.lstM hH
  obtain⟨z2,its2,n2,r2,hl2,e2⟩:=I.lstM hB
  refine PySem.P.add_list e e2 ?_ (by rw [List.size_toArray,List.size_toArray];lia)
  have ea:its.toArray++its2.toArray=(its++its2).toArray:=by simp
  rw [ea]
  exact⟨.ref _,_,I.lnew (t':=s.toks) (r.append r2) (by rw [List.length_append];lia),rfl,q _ I.fresh⟩
def Fy:R2:=fun x y H Q=>∃l k xs,x=.ref l∧y=.int k∧H l=some (.lst xs)∧ -(2 ^ 63)≤k∧k < 2 ^ 63∧xs.length*k.toNat≤sizeLine∧
  ∀p,H p=none→Q (.ref p) (a8 H p (.lst (List.replicate k.toNat xs).flatten))
theorem Bw{α:Type}(xs:List α)(k:Nat):(List.replicate k xs).flatten.length=k*xs.length:=by
  induction k with
  | zero=>simp
  | succ k ih=>rw [List.replicate_succ,List.flatten_cons,List.length_append,ih,Nat.succ_mul,Nat.add_comm]
theorem EN:fg X (binaryOp .Mult) Fy:=by
  intro pins s σ H x y v u Q I rx ry h
  obtain⟨l,k,xs,rfl,rfl,hH,h1,h2,hz,q⟩:=h
  cases rx
  obtain⟨t,rfl⟩:=ry
  obtain⟨z,its,n,r,hl,e⟩:=I.lstM hH
  have hlen:its.toArray.size*k.toNat≤sizeLine:=by rw [List.size_toArray,←hl];exact hz
  have hcap:¬its.toArray.size*k.toNat > (2 ^ 63 - 1) / 8:=by
    have:(sizeLine:Nat)≤(2 ^ 63 - 1) / 8:=by decide
    lia
  have hfit:¬(!Builtin.List.listFitsIndex k)=true:=by
    rw [fitsIndex_both h1 h2]
    exact Bool.false_ne_true
  have hlong:¬Builtin.List.listTooLong (its.toArray.size*k.toNat)=true:=by
    rw [sY hlen]
    exact Bool.false_ne_true
  have hnew:List.foldl (fun x1 x2=>x1++x2) #[] (List.replicate (if its.toArray.isEmpty=true then 0 else k.toNat) its.toArray)=(List.replicate k.toNat its).flatten.toArray:=by
    have f0:∀m:Nat,List.foldl (fun x1 x2=>x1++x2) #[] (List.replicate m its.toArray)=(List.replicate m its).flatten.toArray:=fun m=>by
      have:=pM its m []
      rw [List.nil_append] at this
      exact this
    rw [f0]
    cases its with
    | nil=>simp
    | cons a r'=>rw [if_neg (by simp)]
  refine wpAny_binaryOp_repeat_ref (T:="list") (U:="int") (by decide) ⟨_,e,rfl⟩ (fun s'=>typeIs_int s' k t) noFill_list_mul F.fills_int_mul F.slot_int_rmul repeat_list F.slot_int_index.lookup
    (call_meets F.slot_int_rmul (typeIs_int s k t) F.entry_int_rmul (F.args_int_rmul_2 _ _) (int___rmul___int_list k t l its.toArray n)
      ⟨e,rfl,⟨_,e,rfl⟩,call_meets F.slot_list_mul ⟨_,e,rfl⟩ F.entry_list_mul (F.args_list_mul_2 _ _) (AutoListH.list___mul___list_int_3 l its.toArray n k t hfit hcap hlong) ⟨e,?_⟩⟩)
  rw [hnew]
  exact⟨.ref _,_,I.lnew (t':=s.toks) (r.rep k.toNat) (by rw [Bw,Nat.mul_comm];exact hz),rfl,q _ I.fresh⟩
end
section
variable{prog:Program}{w:World}{A:Around}{E:Value→Shared→Prop}{s:Shared}
end
section
variable{X:Cx}
end
end L2
namespace Att
open PySem PySem.W PySem.Calls PyProof.Rows
theorem m6{P:Params}{h:Heap}:∀(ns:List Int) (vs:List Value),WellAll P h vs (ns.map WData.int)→IntsAre vs ns:=by
  intro ns
  induction ns with
  | nil=>
    intro vs w
    rw [List.map_nil] at w
    cases w
    exact .nil
  | cons n ns ih=>
    intro vs w
    rw [List.map_cons] at w
    cases w with
    | cons a b=>
      cases a
      exact .cons _ _ (ih _ b)
theorem xx{l:OpenLaw}{n:Nat}(hn:l.most=some n){P:Params}{h:Heap}{args:List WData}{vals:List Value}
    (hpre:l.row.toRowW.claim.pre args=true)(hwl:WellAll P h vals args):
    ∃a vs ns,vals=[Value.ref a]∧args=[WData.list (ns.map WData.int)]∧h.get? a=some {cls:=.type "list",data:=.seq vs.toArray}∧IntsAre vs ns∧ns.length≤n:=by
  have hsh:WShape.hasAll [] args [.list .int]=true:=(pre_splitW hpre).1
  have hc:l.pre.holds [] {args:=args}=true:=(pre_splitW hpre).2
  obtain⟨d,r,rfl,h1,h2⟩:=hasAllW_cons hsh
  obtain rfl:=hasAllW_nil h2
  obtain⟨xs,rfl,h3⟩:=hasW_list h1
  obtain⟨ns,rfl⟩:=items_int h3
  have hlen:ns.length≤n:=by
    unfold OpenLaw.pre at hc
    have h4:(WTm.not (.lt (.lit (.int (n:Int))) (.len (.arg 0)))).holds [] {args:=[.list (ns.map .int)]}=true:=by
      have h4:=(holds_andW hc).1
      rw [hn] at h4
      exact h4
    have h5:=condW_of h4 (w_not (w_lt w_lit (w_len_list (w_arg rfl))))
    rw [List.length_map] at h5
    refine Nat.le_of_not_lt fun q=>?_
    have q':(n:Int) < ((ns.length:Nat):Int):=by lia
    first
      | (rw [decide_eq_true q'] at h5;exact absurd h5 (by decide))
      | (simp at h5;lia)
  cases hwl with
  | cons w1 w2=>
    cases w2
    cases w1 with
    | list ho hall=>exact⟨_,_,ns,rfl,rfl,ho,m6 ns _ hall,hlen⟩
theorem xo(l:OpenLaw)(args:List WData):l.row.toRowW.claim.post args (.bool true) args=true:=
  postW_of (r:=l.row.toRowW) (X:=(true==true))
    (show WShape.has [] (.bool true) .bool=true by first | rfl | decide | simp [WShape.has,WShape.arms,WShape.armsAll])
    (show(WTm.eq .res (.lit (.bool true))).value [] {args:=args,res:=some (.bool true),after:=args}=some (.bool (true==true)) from w_eq_bool (w_res rfl) w_lit) rfl
theorem attach_call{l:OpenLaw}{n:Nat}{q:Program}{loose:List Str}{XP:(Str→Option Value)→Heap→Prop}{YP:World→Heap→Prop}{d:DefRec}
    (hn:l.most=some n)(hdf:d.params.defaults=[])
    (call:∀(w:World) (s₀ s₁:Shared) (mg mb:Str→Option Value) (fa:Addr) (o:Obj) (pm cd doc:Value) (a:Addr) (vs:List Value) (ns:List Int),
      Ground q loose [] XP w s₀ mg mb s₁.heap→YP w s₁.heap→
      s₁.heap.get? fa=some o→o.data=.func (docDef d.name d.params d.body d.scope pm cd doc)→s₁.heap.CodeRec cd d.name→mg d.name=some (.ref fa)→
      s₁.heap.get? a=some {cls:=.type "list",data:=.seq vs.toArray}→IntsAre vs ns→ns.length≤n→s₁.gens=#[]→
      codeAny (model l.prog w) callerA (.call (.ref fa) ⟨[.ref a],[]⟩) (fun r s'=>r=.ok (.ret (.bool true))∧OldK s₁.heap s'.heap∧s'.os=s₁.os∧AllBare s'.gens) s₁):
    WalkO q loose XP YP l.row.toRowW d [] (fun f vs=>PySem.call f vs):=by
  intro w s₀ s₁ mg mb G Y fa o pm cd doc dV kV ho hd hcd hD hmg hg args vals as hpre hlay hrd hwl hlo
  obtain rfl:dV=.none:=Dflts.none hD hdf
  obtain rfl:kV=.none:=Dflts.noKw hD
  obtain⟨a,vs,ns,rfl,rfl,hobj,hints,hlen⟩:=xx hn hpre hwl
  refine enter_call (codeAny_mono (call w s₀ s₁ mg mb fa o pm cd doc a vs ns G Y ho (fd_plain hd) hcd hmg hobj hints hlen hg) fun r s' hq=>?_)
  obtain⟨rfl,h2,h3,h4⟩:=hq
  exact⟨.inl ⟨.bool true,.bool true,[],rfl,fun _=>rfl,.bool true,xo l _,fun _=>⟨List.Pairwise.nil,fun _ hm=>(nomatch hm)⟩⟩,h2,h3,h4⟩
section
variable{prog:Program}{w:World}{A:Around}{E:Value→Shared→Prop}{s:Shared}{K:Frag}
end
end Att
namespace L2
open PySem PySem.Spec PyProof.Rows
theorem qj:∀{vs:List Value} {ns:List Int},IntsAre vs ns→aJ (ns.map V.int) vs
  | _,_,.nil=>.nil
  | _,_,.cons n t h=>.cons ⟨t,rfl⟩ (qj h)
def DO(H:Hp):Prop:=∀b,H b=none∨∃o xs,H b=some (.frz o (.lst xs))
theorem yY{P:Program}{w:World}{K:PySem.W.Frag}{mg mb:Str→Option Value}{CX:wA}{k:Nat}{fa a:Addr}{fd:FuncData}{x:Str}{sp:Sp}{s₁:Shared}{vs:List Value}{ns:List Int}
    (KX:K.In s₁.heap)(hns:s₁.heap.Ns mainGlobals mg)(hb:s₁.heap.Ns builtinsNs mb)(hbb:∀x:Str,x≠"__name__"→mb x=bootBuiltins x)(hlim:s₁.heap.NoLimit)(hg:s₁.gens=#[])
    (ha:s₁.heap.get? a=some {cls:=.type "list",data:=.seq vs.toArray})(hi:IntsAre vs ns)(hl:ns.length≤sizeLine)(hr:cf k callerA)
    (F:∀base:Heap,K.In base→base.Ns mainGlobals mg→aN P w K mg base CX k fa fd [x] sp)(hbind:∀(s:Shared) (u:Value),BindsTo s fd ⟨[u],[]⟩ [(x,u)])
    (hsp:∀H:Hp,DO H→f9 K H a (ns.map V.int)→sp [.ref a] H (fun v _=>v=.bl true) fun _ _ _=>False)
    (hCX:∀H e s',CX [] H s₁ (fun _ _ _=>False) e s'→False):
    codeAny (model P w) callerA (.call (.ref fa) ⟨[.ref a],[]⟩) (fun r s'=>r=.ok (.ret (.bool true))∧OldK s₁.heap s'.heap∧s'.os=s₁.os∧AllBare s'.gens) s₁:=by
  have rv:=qj hi
  have lenV:=hi.length
  have core:∀H:Hp,DO H→f9 K H a (ns.map V.int)→kR P w H s₁.heap→(∀b,H b≠none→b=a)→(H a≠none→K.lookup a=none)→
      codeAny (model P w) callerA (.call (.ref fa) ⟨[.ref a],[]⟩) (fun r s'=>r=.ok (.ret (.bool true))∧OldK s₁.heap s'.heap∧s'.os=s₁.os∧AllBare s'.gens) s₁:=by
    intro H hO hS hok hA hK
    have base_of:∀{b:Addr} {o:Obj},s₁.heap.get? b=some o→H b=none→(qN s₁.heap H).get? b=some o:=fun e n=>yK e n
    have noA:∀{b:Addr} {o:Obj} {es:Array DictEntry} {ep:Nat},s₁.heap.get? b=some o→o.data=.dict es ep→H b=none:=fun{b o es ep} e d=>by
      cases q:H b with
      | none=>rfl
      | some u=>
        have e':b=a:=hA b (by rw [q];simp)
        subst e'
        rw [ha] at e;cases e
        have d':Data.seq vs.toArray _=Data.dict es ep:=d
        cases d'
    have nsK:∀{b:Addr} {m:Str→Option Value},s₁.heap.Ns b m→(qN s₁.heap H).Ns b m:=fun{b m} ⟨o,es,ep,e,d,r⟩=>⟨o,es,ep,base_of e (noA e d),d,r⟩
    have hKb:K.In (qN s₁.heap H):=fun b o e=>base_of (KX b o e) (by
      cases q:H b with
      | none=>rfl
      | some u=>
        have e':b=a:=hA b (by rw [q];simp)
        subst e'
        rw [hK (by rw [q];simp)] at e;cases e)
    have hM:Mod K mg (qN s₁.heap H):=⟨hKb,nsK hns,⟨mb,nsK hb,hbb⟩,let ⟨mc,h1,h2⟩:=hlim;⟨mc,nsK h1,h2⟩⟩
    have e0:A6 P w K mg (qN s₁.heap H) callerA [] s₁ H:=⟨rfl,hM,fun b o e=>BC e,Nat.le_of_eq (wW _ _),trivial,fun b hb=>absurd (show b∈([]:List Addr) from hb) (by simp),hok,.of_eq hg⟩
    refine codeAny_mono ((F _ hKb (nsK hns)).run callerA [] s₁ H ⟨[.ref a],[]⟩ [.ref a] [.ref a] _ _ hr e0 (hbind s₁ (.ref a)) (.cons rfl .nil) (hsp H hO hS)) fun r s' h=>?_
    cases r with
    | error e=>exact(hCX H e s' h).elim
    | ok fl=>
      cases fl with
      | next=>exact False.elim h
      | brk=>exact False.elim h
      | cont=>exact False.elim h
      | ret u=>
        obtain⟨v,H',os,bare,un,hok',r',q⟩:=h
        have q':v=.bl true:=q
        subst q'
        obtain rfl:u=Value.bool true:=r'
        refine⟨rfl,OldK.of_keep fun b o e=>?_,os,bare⟩
        cases q:H b with
        | none=>exact un.keep b o e q (by intro z;exact absurd (show b∈([]:List Addr) from z) (by simp)) (by simp)
        | some u=>
          rcases hO b with z | ⟨ob,xs,z⟩
          · rw [q] at z;cases z
          · have z2:=un.frzs b ob _ z
            obtain⟨e1,_⟩:=hok b _ z
            obtain⟨e2,_⟩:=hok' b _ z2
            rw [e] at e1;cases e1
            exact e2
  cases hk:K.lookup a with
  | some o=>
    have e:=KX a o hk
    rw [ha] at e
    cases e
    refine core (fun _=>none) (fun _=>.inl rfl) (.inr ⟨_,vs.toArray,_,hk,rfl,rfl,rfl,by rw [List.size_toArray,lenV];exact hl,by simpa using rv⟩) (fun b u z=>by have z':(none:Option HO)=some u:=z;cases z') (fun b z=>absurd rfl z) fun z=>absurd rfl z
  | none=>
    refine core (fun b=>if b=a then some (.frz {cls:=.type "list",data:=.seq vs.toArray} (.lst (ns.map V.int))) else none) (fun b=>?_) (.inl (.inr ⟨{cls:=.type "list",data:=.seq vs.toArray},if_pos rfl⟩)) (fun b u z=>?_) (fun b z=>?_) fun _=>hk
    · by_cases hb:b=a
      · exact .inr ⟨_,_,if_pos hb⟩
      · exact .inl (if_neg hb)
    · by_cases hb:b=a
      · have z':=(if_pos hb).symm.trans z
        cases z'
        subst hb
        exact⟨ha,by rw [List.length_map];exact hl,vs,_,rv,ha⟩
      · have z':=(if_neg hb).symm.trans z
        cases z'
    · by_cases hb:b=a
      · exact hb
      · exact absurd (if_neg hb) z
theorem walk_of{l:PySem.W.OpenLaw}{n k:Nat}{q:Program}{loose:List Str}{XP:(Str→Option Value)→Heap→Prop}{YP:World→Heap→Prop}{d:DefRec}{K:Params→PySem.W.Frag}{CX:World→wA}{sp:World→Sp}{x:Str}
    (hn:l.most=some n)(hn2:n≤sizeLine)(hdf:d.params.defaults=[])(hr:cf k callerA)
    (hY:∀(w:World) (h:Heap),YP w h→(K w.params).In h)
    (F:∀(w:World) (mg:Str→Option Value) (fa:Addr) (h:Heap),(K w.params).In h→h.Ns mainGlobals mg→mg d.name=some (.ref fa)→
      ∃fd:FuncData,(∀(s:Shared) (u:Value),BindsTo s fd ⟨[u],[]⟩ [(x,u)])∧
        ∀base:Heap,(K w.params).In base→base.Ns mainGlobals mg→aN l.prog w (K w.params) mg base (CX w) k fa fd [x] (sp w))
    (hsp:∀(w:World) (H:Hp) (a:Addr) (ns:List Int),ns.length≤n→DO H→f9 (K w.params) H a (ns.map V.int)→sp w [.ref a] H (fun v _=>v=.bl true) fun _ _ _=>False)
    (hCX:∀(w:World) (H:Hp) (s:Shared) (e:Value) (s':Shared),CX w [] H s (fun _ _ _=>False) e s'→False):
    PySem.W.WalkO q loose XP YP l.row.toRowW d [] (fun f vs=>PySem.call f vs):=by
  refine Att.attach_call hn hdf fun w s₀ s₁ mg mb fa o pm cd doc a vs ns G Y ho hd hcd hmg hobj hints hlen hg=>?_
  have KX:=hY w _ Y
  obtain⟨fd,hb,hF⟩:=F w mg fa _ KX G.T.g hmg
  exact yY KX G.T.g G.T.b G.T.builtins G.T.nolimit hg hobj hints (Nat.le_trans hlen hn2) hr hF hb (fun H hO hS=>hsp w H a ns hlen hO hS) fun H e s'=>hCX w H s₁ e s'
def eI(s:Stmt):Arguments:=match s with
  | .FunctionDef _ a _ _ _ _ _ _ _ _=>a
  | _=>{posonlyargs:=[],args:=[],vararg:=none,kwonlyargs:=[],kw_defaults:=[],kwarg:=none,defaults:=[]}
def dt(s:Stmt):List Stmt:=match s with
  | .FunctionDef _ _ b _ _ _ _ _ _ _=>b
  | _=>[]
def am(s:Stmt):Scope:=match s with
  | .FunctionDef _ _ _ _ _ _ sc _ _ _=>sc
  | _=>{kind:=.function,names:=[],isGenerator:=false,isCoroutine:=false}
abbrev ce:wA:=fun _ _ _ _ _ _=>False
abbrev E0:XK:=fun _ _ _=>False
theorem G'{X:Cx}:um ce X E0:=fun _ _ _ _ _ _ _ h=>h.elim
structure Gh (K:PySem.W.Frag) (x qual:Str) (st:Stmt) (f:Addr) (fd:FuncData):Prop where
  ex:∃(oc:Value) (od:Option Addr) (kV doc pm:Value) (an:Option Addr) (cdv ct:Value) (osl:Array (Option Value)),
    fd=PySem.W.fnOf x qual (eI st) (dt st) (am st) .none kV doc pm an cdv ct∧K.lookup f=some ⟨oc,od,.func fd,osl⟩∧PySem.W.codeIn K cdv qual=true
  kp:PySem.W.keepIn K (.ref f)=true
section
variable{P:Program}{w:World}{K:PySem.W.Frag}{mg:Str→Option Value}{base:Heap}
theorem Gh.ok{x qual:Str}{st:Stmt}{f:Addr}{fd:FuncData}{N ps:List Str}{k:Nat}{sp:Sp}(F:Gh K x qual st f fd)(S:aH N ps (am st))(len:∀vs H Q E,sp vs H Q E→vs.length=ps.length)
    (hbody:∀(cdv:Value) (A:Around) (outer:List Env) (s:Shared) (H:Hp) (vs:List V) (Q:VK) (E:XK),cf k (A.deeper (envOfC qual (am st) s.heap.objs.size f cdv))→sp vs H Q E→
      ∃t,jk (uv ce P w K mg base N qual (am st) f cdv A outer s H E).nox (dt st) t∧t {nx:=fun _ H'=>Q .non H',rt:=Q} (eN N vs) H):aN P w K mg base ce (k+1) f fd ps sp:=by
  obtain⟨oc,od,kV,doc,pm,an,cdv,ct,osl,rfl,lk,hcd⟩:=F.ex
  refine GK lk hcd S len fun A outer s H vs Q E hr hsp=>?_
  obtain⟨t,h,q⟩:=hbody cdv A outer s H vs Q E hr hsp
  exact⟨t,h.nox,q⟩
theorem Gh.binds{x qual:Str}{st:Stmt}{f:Addr}{fd:FuncData}{ps:List Str}(F:Gh K x qual st f fd)
    (h:∀(kV doc pm:Value) (an:Option Addr) (cdv ct:Value) (us:List Value),us.length=ps.length→bindArgs (PySem.W.fnOf x qual (eI st) (dt st) (am st) .none kV doc pm an cdv ct) ⟨us,[]⟩=pure (ps.zip us)):pz K fd ps []:=by
  obtain⟨oc,od,kV,doc,pm,an,cdv,ct,osl,rfl,lk,hcd⟩:=F.ex
  exact .all (h kV doc pm an cdv ct)
theorem yu{x qual:Str}{st:Stmt}{f:Addr}{oc:Value}{od an:Option Addr}{osl:Array (Option Value)}{kV doc pm cdv ct:Value}(l:K.lookup f=some ⟨oc,od,.func (PySem.W.fnOf x qual (eI st) (dt st) (am st) .none kV doc pm an cdv ct),osl⟩)
    (c:PySem.W.codeIn K cdv qual=true)(k:PySem.W.keepIn K (.ref f)=true):Gh K x qual st f (PySem.W.fnOf x qual (eI st) (dt st) (am st) .none kV doc pm an cdv ct):=⟨⟨oc,od,kV,doc,pm,an,cdv,ct,osl,rfl,l,c⟩,k⟩
end
theorem qa{n:Nat}(h:n≤1000):n < sizeLine:=Nat.lt_of_le_of_lt h (by decide)
section
variable{X:Cx}
theorem pv(i:Nat){x:Str}{pos:Pos}(hN:X.N[i]?=some x:=by rfl)(hv:Gi X.env.scope x:=by first | exact Or.inl rfl | exact Or.inr (Or.inl rfl) | exact Or.inr (Or.inr rfl))(hd:(x==("__debug__":Str))=false:=by decide)
    (hcd:(x==("__classdict__":Str))=false:=by decide):PE X (.Name x pos) (rM i):=jJ hN hv hd hcd
end
theorem yV{A B:Prop}(h:B):if false=true then A else B:=by
  rw [if_neg Bool.false_ne_true]
  exact h
theorem yX{A B:Prop}(h:A):if true=true then A else B:=by
  rw [if_pos rfl]
  exact h
def aw(H H':Hp):Prop:=∀b o,H b=some o→H' b=some o
theorem aw.refl(H:Hp):aw H H:=fun _ _ h=>h
theorem aw.trans{H H1 H2:Hp}(a:aw H H1)(b:aw H1 H2):aw H H2:=fun c o h=>b c o (a c o h)
theorem aw.free{H H':Hp}(e:aw H H'){l:Addr}(h:H' l=Option.none):H l=Option.none:=by
  cases q:H l with
  | none=>rfl
  | some o=>
    rw [e l o q] at h
    cases h
theorem aw.seq{K:PySem.W.Frag}{H H':Hp}{a:Addr}{xs:List V}(e:aw H H')(h:f9 K H a xs):f9 K H' a xs:=by
  rcases h with (h | ⟨o,h⟩) | h
  · exact .inl (.inl (e _ _ h))
  · exact .inl (.inr ⟨o,e _ _ h⟩)
  · exact .inr h
end L2
set_option maxHeartbeats 4000000
namespace L2
open PySem PySem.Spec PyProof.Rows
def Bt(n:Nat)(i:Int):Prop:=i.natAbs < 2 ^ n
theorem Bt.mono{m n:Nat}{i:Int}(h:Bt m i)(hm:m≤n):Bt n i:=Nat.lt_of_lt_of_le h (Nat.pow_le_pow_right (by decide) hm)
theorem Bt.log{m:Nat}{i:Int}(h:Bt m i)(hm:0 < m):i.natAbs.log2 < m:=by
  unfold Bt at h
  rcases Nat.eq_zero_or_pos i.natAbs with h0 | hp
  · rw [h0];exact hm
  · exact(Nat.log2_lt (by lia)).mpr h
theorem Bt.bits{m:Nat}{i:Int}(h:Bt m i)(hm:0 < m):Builtin.Int.intBits i≤m:=by
  unfold Builtin.Int.intBits
  split
  · exact Nat.zero_le _
  · exact h.log hm
theorem Bt.of_le{m:Nat}{i:Int}{j:Int}(h:Bt m j)(e:i.natAbs≤j.natAbs):Bt m i:=Nat.lt_of_le_of_lt e h
section
variable{X:Cx}
def CS(i j:Int):Prop:=Bt 4000 i∧Bt 4000 j
theorem BO:fg X (binaryOp .Mult) (rI CS fun i j=>.int (i*j)):=G4 fun _ _ _ _ _ _ _ hc q=>
  mul_int q (.of_bits (Nat.le_trans (hc.1.bits (by decide)) (by decide)) (Nat.le_trans (hc.2.bits (by decide)) (by decide)))
def CQ(i j:Int):Prop:=j≠0∧Bt 8000 j
theorem zv:fg X (binaryOp .FloorDiv) (rI CQ fun i j=>.int (i.fdiv j)):=G4 fun _ _ _ _ _ _ _ hc q=>
  floordiv_int hc.1 q (.inl (PyProof.noPylong_of_log2 (Nat.lt_trans (hc.2.log (by decide)) (by decide))))
def IU(K:PySem.W.Frag):R2:=fun x y H Q=>∃a b xs,x=.ref a∧y=.ref b∧f9 K H a xs∧f9 K H b []∧Q (.bl xs.isEmpty) H
theorem ED(hu:X.A.units < cLine):fg X (compareOp .Eq) (IU X.K):=by
  intro pins s σ H x y v u Q I rx ry h
  obtain⟨a,b,xs,rfl,rfl,ha,hb,q⟩:=h
  cases rx
  cases ry
  obtain⟨its,r,p,hz⟩:=I.list ha
  obtain⟨its2,r2,p2,hz2⟩:=I.list hb
  cases r2
  cases r with
  | nil=>
    refine SeqAt.eq_listAt (e:=fun _=>true) p.isList p2.isList rfl hu (fun j h1 h2=>by simp at h1) ?_
    exact⟨.bl true,H,I,rfl,q⟩
  | cons r rr=>
    refine SeqAt.eq_list_lengthsAt p.isList p2.isList (by simp) hu ?_
    exact⟨.bl false,H,I,rfl,q⟩
theorem EH:fg X (compareOp .Is) (fun x y H Q=>∃b c,x=.bl b∧y=.bl c∧Q (.bl (b==c)) H):=by
  intro pins s σ H x y v u Q I rx ry h
  obtain⟨b,c,rfl,rfl,q⟩:=h
  cases rx;cases ry
  exact is_bool ⟨.bl _,H,I,rfl,q⟩
end
def mG(H H':Hp):Prop:=∀a o,H a=some o→(∀xs,o≠.lst xs)→(∀ob xs,o≠.frz ob (.lst xs))→H' a=some o
theorem mG.trans{H H1 H2:Hp}(a:mG H H1)(b:mG H1 H2):mG H H2:=fun c o h n m=>b c o (a c o h n m) n m
theorem aw.ts{H H':Hp}(h:aw H H'):mG H H':=fun a o e _ _=>h a o e
theorem mG.tup{K:PySem.W.Frag}{H H':Hp}(h:mG H H'){a:Addr}{xs:List V}(q:dz K H a xs):dz K H' a xs:=by
  rcases q with (q | ⟨o,q⟩) | q
  · exact .inl (.inl (h _ _ q (fun _ e=>nomatch e) (fun _ _ e=>nomatch e)))
  · exact .inl (.inr ⟨o,h _ _ q (fun _ e=>nomatch e) (fun _ _ e=>nomatch e)⟩)
  · exact .inr q
section
variable{X:Cx}
end
structure bg (K:PySem.W.Frag) (mg:Str→Option Value) (x:Str) (st:Stmt) (f:Addr) (fd:FuncData) (ps:List Str):Prop where
  F:Gh K x x st f fd
  m:mg x=some (.ref f)
  b:pz K fd ps []
theorem Eb{K:PySem.W.Frag}{mg:Str→Option Value}{h:Heap}{x:Str}{st:Stmt}{f:Addr}{ps:List Str}{oc:Value}{od an:Option Addr}{osl:Array (Option Value)}{kV doc pm cdv ct:Value}(X:K.In h)(G:h.Ns mainGlobals mg)(a:PySem.W.nsIn K mainGlobals x=some (some (.ref f)))
    (l:K.lookup f=some ⟨oc,od,.func (PySem.W.fnOf x x (eI st) (dt st) (am st) .none kV doc pm an cdv ct),osl⟩)(c:PySem.W.codeIn K cdv x=true)(k:PySem.W.keepIn K (.ref f)=true)
    (hb:∀(kV doc pm:Value) (an:Option Addr) (cdv ct:Value) (us:List Value),us.length=ps.length→bindArgs (PySem.W.fnOf x x (eI st) (dt st) (am st) .none kV doc pm an cdv ct) ⟨us,[]⟩=pure (ps.zip us)):
    bg K mg x st f (PySem.W.fnOf x x (eI st) (dt st) (am st) .none kV doc pm an cdv ct) ps:=⟨yu l c k,PySem.W.mg_of X G a,(yu l c k).binds hb⟩
theorem IR{X:Cx}{x:Str}{st:Stmt}{f:Addr}{fd:FuncData}{ps:List Str}{k:Nat}{sp:Sp}{e:Expr}{es:List Expr}{t:TA}{p pos:Pos}(h:bg X.K X.mg x st f fd ps)(G:aN X.prog X.w X.K X.mg X.base ce k f fd ps sp)(hr:cf k X.A)(ha:PA X (e::es) t)
    (hg:Gl X x:=by rfl)(hdb:(x==("__debug__":Str))=false:=by decide)(he:starEach (e::es) X.env=(false,eval e X.env)::starEach es X.env:=by rfl)(hpl:(backTo pos (starEach es X.env)).any (·.1)=false:=by rfl):
    PE X (.Call (.Name x p) (e::es) [] pos) (Ay sp [] E0 t):=BR G hr hg h.m h.F.kp h.b .nil G' ha hdb he hpl
theorem aw.new{H:Hp}{p:Addr}{o:HO}(h:H p=none):aw H (a8 H p o):=fun b u e=>by
  rw [aF (eU e h)];exact e
theorem aw.tup{K:PySem.W.Frag}{H H':Hp}{a:Addr}{xs:List V}(e:aw H H')(h:dz K H a xs):dz K H' a xs:=e.ts.tup h
def fX(t b:Int):Int × Int:=if b < 0 then(t.fdiv (-(Int.gcd t b:Int)),b.fdiv (-(Int.gcd t b:Int))) else(t.fdiv (Int.gcd t b:Int),b.fdiv (Int.gcd t b:Int))
theorem yH(x y:Int):Int.gcd y (x.fmod y)=Int.gcd x y:=by
  rw [Int.fmod_def,Int.gcd_sub_mul_left_right,Int.gcd_comm]
theorem mK(x:Int){y:Int}(h:y≠0):(x.fmod y).natAbs < y.natAbs:=by
  rcases Int.lt_or_gt_of_ne h with h | h
  · have h1:x.fmod y= -((-x).fmod (-y)):=by
      have:=Int.neg_fmod_neg x y
      lia
    have h2:=Int.fmod_nonneg_of_pos (-x) (b:= -y) (by lia)
    have h3:=Int.fmod_lt_of_pos (-x) (b:= -y) (by lia)
    lia
  · have h2:=Int.fmod_nonneg_of_pos x h
    have h3:=Int.fmod_lt_of_pos x h
    lia
theorem vK{t b:Int}(h:b≠0):(0:Int) < Int.gcd t b:=by
  have:=Int.gcd_pos_of_ne_zero_right t h
  lia
theorem pW{t b:Int}(h:b≠0):∃d:Int,d.natAbs=Int.gcd t b∧d≠0∧(fX t b).1*d=t∧(fX t b).2*d=b∧0 < (fX t b).2:=by
  have hg:=vK (t:=t) h
  have d1:(Int.gcd t b:Int) ∣ t:=Int.gcd_dvd_left ..
  have d2:(Int.gcd t b:Int) ∣ b:=Int.gcd_dvd_right ..
  unfold fX
  split
  · rename_i hb
    have e1:t.fdiv (-(Int.gcd t b:Int))*(-(Int.gcd t b:Int))=t:=Int.fdiv_mul_cancel (Int.neg_dvd.mpr d1)
    have e2:b.fdiv (-(Int.gcd t b:Int))*(-(Int.gcd t b:Int))=b:=Int.fdiv_mul_cancel (Int.neg_dvd.mpr d2)
    refine⟨-(Int.gcd t b:Int),by lia,by lia,e1,e2,?_⟩
    show 0 < b.fdiv (-(Int.gcd t b:Int))
    have h3:b.fdiv (-(Int.gcd t b:Int))*(Int.gcd t b:Int)= -b:=by rw [Int.mul_neg] at e2;lia
    exact Int.pos_of_mul_pos_left (by lia) (by lia) (b:=(Int.gcd t b:Int))
  · rename_i hb
    have e1:t.fdiv (Int.gcd t b:Int)*(Int.gcd t b:Int)=t:=Int.fdiv_mul_cancel d1
    have e2:b.fdiv (Int.gcd t b:Int)*(Int.gcd t b:Int)=b:=Int.fdiv_mul_cancel d2
    refine⟨(Int.gcd t b:Int),by lia,by lia,e1,e2,?_⟩
    show 0 < b.fdiv (Int.gcd t b:Int)
    exact Int.pos_of_mul_pos_left (by lia) (by lia) (b:=(Int.gcd t b:Int))
theorem y4{t b:Int}(h:b≠0):Int.gcd (fX t b).1 (fX t b).2=1:=by
  obtain⟨d,h1,h2,h3,h4,h5⟩:=pW (t:=t) h
  have e:Int.gcd ((fX t b).1*d) ((fX t b).2*d)=Int.gcd (fX t b).1 (fX t b).2*d.natAbs:=Int.gcd_mul_right ..
  rw [h3,h4,←h1] at e
  have hd:0 < d.natAbs:=by lia
  exact(Nat.eq_of_mul_eq_mul_right hd (by rw [Nat.one_mul];exact e)).symm
theorem D'{t b:Int}(h:b≠0){n:Nat}(hb:Bt n b):Bt n (Int.gcd t b:Int):=by
  refine hb.of_le ?_
  have h1:=Nat.le_of_dvd (show 0 < b.natAbs by lia) (Int.ofNat_dvd.mp (by rw [Int.dvd_natAbs];exact Int.gcd_dvd_right t b))
  lia
mutual
def cnt:PyData→Nat
  | .tuple ds=>1+kj ds
  | .str _=>0
  | _=>1
def kj:List PyData→Nat
  | []=>0
  | d::ds=>cnt d+kj ds
end
mutual
def ou:PyData→Bool
  | .tuple ds=>iK ds
  | .str _=>false
  | .list _=>false
  | .dict _=>false
  | _=>true
def iK:List PyData→Bool
  | []=>true
  | d::ds=>ou d&&iK ds
end
theorem pe{a:Int}(h:a.natAbs.log2 < 1920):(Str.ofString (toString a)).length≤1921:=by
  have e:=int_text_length_le (k:=1920) (by decide) h
  rw [PySem.ofString_length];lia
theorem oB(x:Str)(r:List Str):piled (x::r)=x.length+2+piled r:=by
  simp [piled]
theorem qg(ts:List Str):(tupleText ts).length≤piled ts+3:=by
  unfold tupleText
  rw [strLen_append,strLen_append]
  have h1:(("(":Str)).length=1:=by decide
  have h2:(Str.ofString (if (ts.length==1)=true then ",)" else ")")).length≤2:=by split<;>decide
  have h3:(Str.join ", " ts).length≤piled ts:=by
    cases ts with
    | nil=>show(Str.join ", " []).length≤0;decide
    | cons x r=>have:=join_length_add (x::r) (by simp);lia
  lia
mutual
theorem p9:∀{d:PyData},ou d=true→d.showable=true→d.shown.length+2≤2000*cnt d
  | .none,_,_=>by show(Str.ofString "None").length+2≤2000*1;decide
  | .bool b,_,_=>by
    cases b
    · show(Str.ofString "False").length+2≤2000*1;decide
    · show(Str.ofString "True").length+2≤2000*1;decide
  | .int i,_,hs=>by
    simp only [PyData.showable,decide_eq_true_eq] at hs
    have:=pe hs
    show(Str.ofString (toString i)).length+2≤2000*1
    lia
  | .tuple ds,hn,hs=>by
    simp only [PyData.showable] at hs
    simp only [ou] at hn
    have h1:=lP hn hs
    have h2:=qg (PyData.shownAll ds)
    simp only [PyData.shown,cnt]
    lia
  | .str _,hn,_=>by simp [ou] at hn
  | .list _,hn,_=>by simp [ou] at hn
  | .dict _,hn,_=>by simp [ou] at hn
theorem lP:∀{ds:List PyData},iK ds=true→PyData.showableAll ds=true→piled (PyData.shownAll ds)≤2000*kj ds
  | [],_,_=>by simp [PyData.shownAll,piled]
  | d::ds,hn,hs=>by
    simp only [iK,Bool.and_eq_true] at hn
    simp only [PyData.showableAll,Bool.and_eq_true] at hs
    have h1:=p9 hn.1 hs.1
    have h2:=lP hn.2 hs.2
    simp only [PyData.shownAll,kj,oB]
    lia
end
def gK(env:Env):List (Str × NameKind)→List (Str × Addr)→List (Str × Addr)
  | [],cs=>cs
  | (n,k)::r,cs=>gK env r (if k==.free then(n,(env.cells.lookup n).getD 0)::cs else cs)
theorem kX{env:Env}:∀(names:List (Str × NameKind)) (cs:List (Str × Addr)),(∀y∈names,y.2=.free→∃c,env.cells.lookup y.1=some c)→
    (forIn names cs (fun(x:Str × NameKind) (r:List (Str × Addr))=>(if (x.2==NameKind.free)=true then do let a ←cellOf env x.1;pure (ForInStep.yield ((x.1,a)::r)) else pure (ForInStep.yield r):Sem (ForInStep (List (Str × Addr))))):Sem (List (Str × Addr)))=pure (gK env names cs)
  | [],cs,_=>rfl
  | (n,k)::r,cs,h=>by
    rw [List.forIn_cons]
    have ih:=fun cs'=>kX (env:=env) r cs' (fun y hy=>h y (List.mem_cons_of_mem _ hy))
    by_cases hk:(k==NameKind.free)=true
    · have hk':k=.free:=by simpa using hk
      obtain⟨c,hc⟩:=h (n,k) List.mem_cons_self hk'
      have e:cellOf env n=pure c:=by unfold cellOf;rw [hc]
      simp only [hk,if_true,e,pure_bind,gK,hc,Option.getD_some]
      exact ih _
    · have hk':(k==NameKind.free)=false:=by simpa using hk
      simp only [hk',Bool.false_eq_true,if_false,pure_bind,gK]
      exact ih _
theorem ki{scope:Scope}{env:Env}(h:∀y∈scope.names,y.2=.free→∃c,env.cells.lookup y.1=some c):closureFor scope env=pure (gK env scope.names []):=by
  have e:=kX (env:=env) scope.names [] h
  unfold closureFor
  simp only [pure_bind,bind_pure] at e ⊢
  exact e
theorem iX{env:Env}:∀(names:List (Str × NameKind)) (cs:List (Str × Addr)) (x:Str) (c:Addr),(∀y∈names,y.2=.free→∃c,env.cells.lookup y.1=some c)→(∀x c,cs.lookup x=some c→env.cells.lookup x=some c)→(gK env names cs).lookup x=some c→env.cells.lookup x=some c
  | [],cs,x,c,_,hs,h=>hs x c h
  | (n,k)::r,cs,x,c,hn,hs,h=>by
    refine iX r _ x c (fun y hy=>hn y (List.mem_cons_of_mem _ hy)) (fun x' c' e=>?_) h
    by_cases hk:(k==NameKind.free)=true
    · rw [if_pos hk] at e
      obtain⟨c0,hc⟩:=hn (n,k) List.mem_cons_self (by simpa using hk)
      rw [List.lookup_cons] at e
      cases hx:x'==n with
      | true=>
        rw [hx] at e
        have e1:x'=n:=by simpa using hx
        subst e1
        simp only [hc,Option.getD_some,Option.some.injEq] at e
        rw [←e];exact hc
      | false=>rw [hx] at e;exact hs x' c' e
    · rw [if_neg hk] at e
      exact hs x' c' e
theorem kW{env:Env}:∀(names:List (Str × NameKind)) (cs:List (Str × Addr)) (x:Str),((∃y∈names,y.1=x∧y.2=.free)∨∃c,cs.lookup x=some c)→∃c,(gK env names cs).lookup x=some c
  | [],cs,x,h=>by
    rcases h with ⟨y,hy,_⟩ | h
    · cases hy
    · exact h
  | (n,k)::r,cs,x,h=>by
    refine kW r _ x ?_
    by_cases hk:(k==NameKind.free)=true
    · rw [if_pos hk,List.lookup_cons]
      cases hx:x==n with
      | true=>exact .inr ⟨_,rfl⟩
      | false=>
        rcases h with ⟨y,hy,e1,e2⟩ | h
        · rcases Me hy with z | z
          · subst z;subst e1;simp at hx
          · exact .inl ⟨y,z,e1,e2⟩
        · exact .inr h
    · rw [if_neg hk]
      rcases h with ⟨y,hy,e1,e2⟩ | h
      · rcases Me hy with z | z
        · subst z;exact absurd (by simpa using e2) hk
        · exact .inl ⟨y,z,e1,e2⟩
      · exact .inr h
theorem cE{env:Env}:∀{names:List (Str × NameKind)} {x:Str},(∀y∈names,y.2≠.cell)→(names.map fun(n,k)=>if (k==NameKind.free&&env.scope.kind==.function&&env.kindOf n==some .cell) then(n,NameKind.cell) else(n,k)).lookup x=some .cell∨
    (names.map fun(n,k)=>if (k==NameKind.free&&env.scope.kind==.function&&env.kindOf n==some .cell) then(n,NameKind.cell) else(n,k)).lookup x=some .free→∃y∈names,y.1=x∧y.2=.free
  | [],x,_,h=>by simp at h
  | (n,k)::r,x,hc,h=>by
    have ih:=@cE env r x (fun y hy=>hc y (List.mem_cons_of_mem _ hy))
    have nc:k≠.cell:=hc (n,k) List.mem_cons_self
    rw [List.map_cons] at h
    cases hx:x==n with
    | true=>
      have e1:x=n:=by simpa using hx
      subst e1
      refine⟨(x,k),List.mem_cons_self,rfl,?_⟩
      by_cases q:(k==NameKind.free&&env.scope.kind==.function&&env.kindOf x==some .cell)=true
      · simp only [Bool.and_eq_true,beq_iff_eq] at q;exact q.1.1
      · simp only [q,Bool.false_eq_true,if_false,List.lookup_cons,beq_self_eq_true,Option.some.injEq] at h
        rcases h with h | h
        · exact absurd h nc
        · exact h
    | false=>
      have e2:∀(l:List (Str × NameKind)),((if (k==NameKind.free&&env.scope.kind==.function&&env.kindOf n==some .cell)=true then(n,NameKind.cell) else(n,k))::l).lookup x=l.lookup x:=fun l=>by
        split<;>simp [List.lookup_cons,hx]
      simp only [e2] at h
      obtain⟨y,hy,z⟩:=ih h
      exact⟨y,List.mem_cons_of_mem _ hy,z⟩
theorem dN{env:Env}:∀{names:List (Str × NameKind)} {x:Str},names.lookup x=some .free→
    (names.map fun(n,k)=>if (k==NameKind.free&&env.scope.kind==.function&&env.kindOf n==some .cell) then(n,NameKind.cell) else(n,k)).lookup x≠some .local
  | [],x,h=>by simp at h
  | (n,k)::r,x,h=>by
    rw [List.map_cons]
    cases hx:x==n with
    | true=>
      simp only [hx,List.lookup_cons] at h
      cases h
      show List.lookup x ((if (NameKind.free==NameKind.free&&env.scope.kind==.function&&env.kindOf n==some .cell)=true then(n,NameKind.cell) else(n,NameKind.free))::_)≠_
      split<;>simp [List.lookup_cons,hx]
    | false=>
      simp only [hx,List.lookup_cons] at h
      have ih:=@dN env r x h
      have e2:∀(l:List (Str × NameKind)),((if (k==NameKind.free&&env.scope.kind==.function&&env.kindOf n==some .cell)=true then(n,NameKind.cell) else(n,k))::l).lookup x=l.lookup x:=fun l=>by
        split<;>simp [List.lookup_cons,hx]
      simp only [e2]
      exact ih
def ap(X:Cx)(scope:Scope)(cp:List (Nat × Str))(tgN:List Str)(C:Addr)(s0:Shared)(H0:Hp)(fp:List Addr):Cx where
  prog:=X.prog
  w:=X.w
  K:=X.K
  mg:=X.mg
  base:=X.base
  A:=X.A
  N:=cp.map (·.2)++tgN
  s₀:=s0
  H₀:=H0
  env:=compEnvC scope (gK X.env scope.names []) C X.env
  outer:=X.stack
  stack:=X.stack
  ex:=fp
  fn:=fun x=>scope.names.lookup x==some .local
  calm:=X.calm
  pn:=[]
  xe:=fun _ _=>False
def uj(X:Cx)(ifs:List Expr)(t:TT):Prop:=
  ∀(pins:List (Addr × Obj)) (s:Shared) (σ:L2.St) (H:Hp) (Q:Bool→Hp→Prop),ax X pins σ H s→t σ H Q→
    wpAny (model X.prog X.w) X.A (forIn ifs true fun c r=>if r=true then do let ok ←isTrue c X.env (eval c X.env);pure (ForInStep.yield ok) else pure (ForInStep.yield r)) (TP X pins σ Q) X.xe s
theorem B9{X:Cx}:uj X [] (fun _ H Q=>Q true H):=fun _ _ _ H _ I h=>wpAny_tests_nil ⟨H,I,h⟩
theorem B_{X:Cx}{c:Expr}{t:TT}(h:PT X c t):uj X [c] t:=fun pins s σ H Q I q=>wpAny_tests_one (h pins s σ H Q I q)
abbrev vU:Value→Shared→Prop:=fun _ _=>False
def yk(prog:Program)(w:World)(A:Around)(elt tg:Expr)(ifs:List Expr)(env:Env)(it acc:Value)(onward:Shared→Prop)(v:Value)(u:Shared):Prop:=
  wpAny (model prog w) A (letOwnedTupleGo tg it v) (fun _ u1=>wpAny (model prog w) A (assign tg env v) (fun _ u2=>wpAny (model prog w) A
    (forIn ifs true fun c r=>if r=true then do let ok ←isTrue c env (eval c env);pure (ForInStep.yield ok) else pure (ForInStep.yield r)) (fun ok u3=>if ok=true then wpAny (model prog w) A (eval elt env) (fun x u4=>wpAny (model prog w) A (call (.builtin "list.append") [acc,x]) (fun _ u5=>onward u5) vU u4) vU u3 else onward u3) vU u2) vU u1) vU u
theorem kY{prog:Program}{w:World}{A:Around}{R:Result→Shared→Prop}{elt tg iter:Expr}{ifs:List Expr}{scope:Scope}{pos:Pos}{it acc:Value}{env:Env}(J:Nat→Shared→Prop)
    (turn:∀n u,J n u→wpAny (model prog w) A (pyNext it) (fun r u1=>(r=none→R (.ok .next) u1)∧∀v,r=some v→yk prog w A elt tg ifs env it acc (fun u2=>∃m,m < n∧J m u2) v u1) vU u){n0:Nat}{u0:Shared}(eN:J n0 u0):
    codeAny (model prog w) A (.compLoop (.ListComp elt [⟨tg,iter,ifs,0⟩] scope pos) 0 it acc env) R u0:=by
  refine codeAny_loop rfl J (fun n u ju=>?_) n0 eN
  show wpAny _ A ((compTurn (.ListComp elt [⟨tg,iter,ifs,0⟩] scope pos) 0 it acc env).onRaise _) _ _ u;refine wpAny_noted ?_;rw [compTurn_list]
  refine wpAny_bind (wpAny_standAt (wpAny_bind (wpAny_mono (turn n u ju) (fun r u1 k1=>?_) fun _ _ z=>z.elim)))
  cases r with
  | none=>exact wpAny_pure (k1.1 rfl)
  | some v=>
    refine wpAny_bind (wpAny_mono (k1.2 v rfl) (fun _ u2 k2=>wpAny_bind (wpAny_mono k2 (fun _ u3 k3=>wpAny_bind (wpAny_mono k3 (fun ok u4 k4=>?_) fun _ _ z=>z.elim)) fun _ _ z=>z.elim)) fun _ _ z=>z.elim)
    cases ok with
    | false=>rw [if_neg Bool.false_ne_true] at k4;exact wpAny_pure ⟨rfl,k4⟩
    | true=>
      rw [if_pos rfl] at k4
      refine wpAny_bind (wpAny_bind (wpAny_mono k4 (fun x u5 k5=>wpAny_bind (wpAny_mono k5 (fun _ u6 k6=>?_) fun _ _ z=>z.elim)) fun _ _ z=>z.elim));exact wpAny_pure (wpAny_pure ⟨rfl,k6⟩)
def et(cp:List (Nat × Str))(nT:Nat)(σ:L2.St):L2.St:=cp.map (fun p=>(σ[p.1]?).join)++List.replicate nT none
structure wj (cp:List (Nat × Str)) (nT:Nat) (wi:TI) (g:TG) (tc:TT) (te:TE) (σ:L2.St) (H:Hp) (Q:VK):Prop where
  go:wi σ H fun J H1=>∀l,H1 l=none→
  ∃W:Nat→Nat→L2.St→Hp→Prop,(∃m,W 0 m (et cp nT σ) (a8 H1 l (.lst [])))∧∀i m σ' H',W i m σ' H'→
    (J.stop i H'∧Q (.ref l) H')∨(J.go i H'∧∃N:L2.St→Hp→Prop,(∀σ2 H2,N σ2 H2→∃m',m' < m∧W (i+1) m' σ2 H2)∧
      ∀x H2,J.yld i H' x H2→g x σ' H2 fun σ2 H3=>tc σ2 H3 fun b H4=>if b=true then te σ2 H4 fun v H5=>∃ys,H5 l=some (.lst ys)∧ys.length < sizeLine∧N σ2 (a8 H5 l (.lst (ys++[v]))) else N σ2 H4)
theorem BU{X:Cx}{elt iter tg:Expr}{ifs:List Expr}{scope:Scope}{pos:Pos}{wi:TI}{g:TG}{tc:TT}{te:TE}(sc0:Scope)(N0:List Str)(cp:List (Nat × Str))(tgN:List Str)
    (hc:X.calm=true)(hsc:X.env.scope=sc0)(hN0:X.N=N0)(hi:PI X tg iter wi)
    (hg:∀C s0 H0 fp,PG (ap X scope cp tgN C s0 H0 fp) tg g)
    (ht:∀C s0 H0 fp,uj (ap X scope cp tgN C s0 H0 fp) ifs tc)
    (he:∀C s0 H0 fp,PE (ap X scope cp tgN C s0 H0 fp) elt te)
    (hk:scope.kind=.function)(hcell:∀y∈scope.names,y.2≠.cell)(hnames:∀y∈scope.names,y.2=.local→scope.names.lookup y.1=some .local)
    (hfr:∀y∈scope.names,y.2=.free→scope.names.lookup y.1=some .free∧sc0.names.lookup y.1=some .cell)
    (hcp:∀p∈cp,N0[p.1]?=some p.2)(hcq:∀p∈cp,sc0.names.lookup p.2=some .cell∧scope.names.lookup p.2=some .free)
    (hs:∀x,foldedSetIterable iter X.env x=pure x:=by intro _;rfl):
    PE X (.ListComp elt [⟨tg,iter,ifs,0⟩] scope pos) (wj cp tgN.length wi g tc te):=by
  intro pins s σ H Q I h
  have hkind:∀x,X.env.kindOf x=sc0.names.lookup x:=fun x=>by unfold Env.kindOf;rw [hsc]
  have hfree:∀y∈scope.names,y.2=.free→∃c,X.env.cells.lookup y.1=some c:=fun y hy e=>I.ok.has y.1 (.inl (by rw [hkind];exact(hfr y hy e).2))
  rw [eval_ListComp]
  refine wpAny_comprehension_free (use:=none) rfl hs (ki hfree) hk hnames (wpAny_mono (hi pins s σ H _ I h.go) (fun xv s₁ h₁=>wpAny_mono h₁ (fun itv s₂ h₂=>?_) fun _ _ e=>e) fun _ _ e=>e)
  obtain⟨it,fp,tn,J,H2,rfl,I2,T,st2,f2,hq⟩:=h₂
  refine wpAny_newObj_type ?_
  have hlF:H2 s₂.heap.objs.size=none:=I2.hok.fresh (Nat.le_refl _)
  have I3:ax X pins σ (a8 H2 s₂.heap.objs.size (.lst [])) {s₂ with heap:=s₂.heap.push {cls:=.type "list",data:=.seq ([]:List Value).toArray}}:=I2.lnew (t':=s₂.toks) .nil (Nat.zero_le _)
  obtain⟨W,⟨m0,w0⟩,turn⟩:=hq _ hlF
  have f3:∀b∈fp,jj X pins (a8 H2 s₂.heap.objs.size (.lst [])) b:=fun b hb=>by
    obtain⟨f0,fr⟩:=f2 b hb
    obtain⟨o,ho,_⟩:=T.obj _ _ st2 b hb
    exact⟨by rw [aF (Nat.ne_of_lt (Heap.lt_size ho))];exact f0,fr⟩
  have st3:tn 0 (s₂.heap.push {cls:=.type "list",data:=.seq ([]:List Value).toArray}):=T.keep _ _ _ st2 fun b _ o e=>Heap.get?_push_of_some _ e
  generalize hD:s₂.heap.objs.size=D at*
  generalize hs3:({s₂ with heap:=s₂.heap.push {cls:=.type "list",data:=.seq ([]:List Value).toArray}}:Shared)=s₃ at*
  have hst3:tn 0 s₃.heap:=by rw [←hs3];exact st3
  refine wpAny_newFunctionEnv hcell (by intro y hy;simp at hy) (fun h₁ hns₁ hsb₁=>?_) hk
  generalize hC:s₃.heap.objs.size=C at*
  have old:∀b o,s₃.heap.get? b=some o→h₁.get? b=some o:=fun b o e=>hsb₁.extBut b o (by rw [←hC];exact Nat.ne_of_lt (Heap.lt_size e)) (Heap.get?_push_of_some _ e)
  have nC:∀b o,s₃.heap.get? b=some o→b≠C:=fun b o e=>by rw [←hC];exact Nat.ne_of_lt (Heap.lt_size e)
  have hHC:(a8 H2 D (.lst [])) C=none:=I3.hok.fresh (by rw [hC];exact Nat.le_refl _)
  have clS:∀x c,(gK X.env scope.names []).lookup x=some c→X.env.cells.lookup x=some c:=fun x c e=>iX _ _ x c hfree (fun _ _ z=>by simp at z) e
  have clH:∀x,(∃y∈scope.names,y.1=x∧y.2=.free)→∃c,(gK X.env scope.names []).lookup x=some c:=fun x e=>kW _ _ x (.inl e)
  have ok':(ap X scope cp tgN C s₃ (a8 H2 D (.lst [])) fp).Ok:=by
    refine⟨I.ok.mod,hk,I.ok.glob,I.ok.blt,by rw [←hC];exact Nat.le_refl _,fun x y c e1 e2=>I.ok.inj x y c (clS _ _ e1) (clS _ _ e2),fun x e=>clH x (cE hcell e),fun x c e1 e2=>?_,I.ok.hd,I.ok.frames,.inl rfl,fun b hb=>?_,fun b o e=>I3.bs b o e,?_,fun b o e hb=>?_,fun b hb z=>?_,I3.stack,fun b hb=>I3.stkFree b hb⟩
    · exfalso
      have e1':scope.names.lookup x=some .local:=by simpa [ap] using e1
      have e2':=clS x c e2
      obtain⟨c',hc'⟩:∃y∈scope.names,y.1=x∧y.2=.free:=by
        by_cases q:∃y∈scope.names,y.1=x∧y.2=.free
        · exact q
        · exfalso
          have:∀(names:List (Str × NameKind)) (cs:List (Str × Addr)),(¬∃y∈names,y.1=x∧y.2=.free)→cs.lookup x=none→(gK X.env names cs).lookup x=none:=by
            intro names
            induction names with
            | nil=>intro cs _ h;exact h
            | cons y r ih=>
              intro cs hn hcs
              obtain⟨n,k⟩:=y
              refine ih _ (fun⟨y,hy,z⟩=>hn ⟨y,List.mem_cons_of_mem _ hy,z⟩) ?_
              by_cases hk:(k==NameKind.free)=true
              · rw [if_pos hk,List.lookup_cons]
                cases hx:x==n with
                | true=>exact absurd ⟨(n,k),List.mem_cons_self,(by simpa using hx:x=n).symm,by simpa using hk⟩ hn
                | false=>exact hcs
              · rw [if_neg hk];exact hcs
          have z:=this scope.names [] q rfl
          have e2'':(gK X.env scope.names []).lookup x=some c:=e2
          rw [z] at e2'';cases e2''
      have z:=(hfr c' hc'.1 hc'.2.2).1
      rw [hc'.2.1,e1'] at z;cases z
    · obtain⟨f0,f1,f4,f5,f6,f7⟩:=f3 b hb
      obtain⟨o,ho,_⟩:=T.obj _ _ hst3 b hb
      exact⟨nC b o ho,fun x c e=>f6 x c (clS x c e)⟩
    · exact Nat.le_trans I.ok.bsz I3.sz
    · obtain⟨f0,f1,f4,f5,f6,f7⟩:=f3 b hb
      rcases f5 with z | z
      · exact I.ok.noex b o e z
      · have:=(I.ok.bs b o e).1
        exact absurd (Nat.lt_of_lt_of_le (Heap.lt_size this) z) (Nat.lt_irrefl _)
    · obtain⟨f0,f1,f4,f5,f6,f7⟩:=f3 b hb
      rcases Me (I3.stkSub b z) with z | z
      · exact f1 z
      · exact f4 z
  have I4:ax (ap X scope cp tgN C s₃ (a8 H2 D (.lst [])) fp) [] (et cp tgN.length σ) (a8 H2 D (.lst [])) {s₃ with heap:=h₁,toks:=s₃.toks+([]:List (Str × Value)).length}:=by
    refine⟨ok',rfl,I3.bare,Un.kept old,⟨_,hns₁,fun i x v e1 e2 e3=>?_⟩,fun x c e=>?_,hHC,fun x c e=>I3.freeC x c (clS x c e),fun p hp=>by simp [ap] at hp,I3.hok.kept old,by simp [et,ap]⟩
    · have hlt:i < cp.length:=by
        by_cases q:i < cp.length
        · exact q
        · exfalso
          unfold et at e2
          rw [List.getElem?_append_right (by simp;lia)] at e2
          rw [List.getElem?_replicate] at e2
          split at e2<;>cases e2
      have e1':(cp.map (·.2))[i]?=some x:=by
        have e1'':(cp.map (·.2)++tgN)[i]?=some x:=e1
        rwa [List.getElem?_append_left (by simp;exact hlt)] at e1''
      have e2':(cp.map (fun p=>(σ[p.1]?).join))[i]?=some (some v):=by
        unfold et at e2
        rwa [List.getElem?_append_left (by simp;exact hlt)] at e2
      rw [List.getElem?_map,List.getElem?_eq_getElem hlt] at e1' e2'
      have ex:(cp[i]).2=x:=by simpa using e1'
      have ev:(σ[(cp[i]).1]?).join=some v:=by simpa using e2'
      have ev':σ[(cp[i]).1]?=some (some v):=by
        cases q:σ[(cp[i]).1]? with
        | none=>rw [q] at ev;cases ev
        | some z=>rw [q] at ev;simp only [Option.join_some] at ev;rw [ev]
      have hN:=hcp cp[i] (List.getElem_mem hlt)
      rw [←hN0] at hN
      obtain⟨hcl,hcf⟩:=hcq cp[i] (List.getElem_mem hlt)
      rw [ex] at hN hcl hcf
      obtain⟨m,hn,hl⟩:=I3.loc
      obtain⟨u,r,l⟩:=hl _ x v hN ev' (.inr (.inl (by rw [hsc];exact hcl)))
      refine⟨u,r,.inr ?_⟩
      rcases l with ⟨k1,_⟩ | ⟨k1,c,hcc,o,ho,hd⟩
      · rw [hkind,hcl] at k1;cases k1
      · have e3':(relabel scope X.env).names.lookup x=some .local∨(relabel scope X.env).names.lookup x=some .cell∨(relabel scope X.env).names.lookup x=some .free:=e3
        have nl:(relabel scope X.env).names.lookup x=some .cell∨(relabel scope X.env).names.lookup x=some .free:=by
          rcases e3' with z | z | z
          · exact absurd z (dN hcf)
          · exact .inl z
          · exact .inr z
        obtain⟨c',hc'⟩:=clH x (cE hcell nl)
        have:=clS x c' hc'
        rw [hcc] at this;cases this
        exact⟨nl,c,hc',o,old c o ho,hd⟩
    · obtain⟨v,o,ho,hd⟩:=I3.cell x c (clS x c e)
      exact⟨v,o,old c o ho,hd⟩
  have hst4:tn 0 h₁:=T.keep _ _ _ hst3 fun b _ o e=>old b o e
  have loop:codeAny (model X.prog X.w) X.A (.compLoop (.ListComp elt [⟨tg,iter,ifs,0⟩] scope pos) 0 (.ref it) (.ref D) (compEnvC scope (gK X.env scope.names []) C X.env))
      (compPost (model X.prog X.w) X.A X.xe none (EP X pins σ Q) (.ref D) C) {s₃ with heap:=h₁,toks:=s₃.toks+([]:List (Str × Value)).length}:=by
    refine kY (fun n s'=>∃i σ' H',ax (ap X scope cp tgN C s₃ (a8 H2 D (.lst [])) fp) [] σ' H' s'∧tn i s'.heap∧(∀b∈fp,H' b=none)∧W i n σ' H') ?_ (n0:=m0) ⟨0,_,_,I4,hst4,fun b hb=>(f3 b hb).1,w0⟩
    rintro n s5 ⟨i,σ5,H5,I5,st5,fr5,w5⟩
    have stat:∀{H':Hp},(∀b∈fp,H' b=none)→∀b∈fp,jj (ap X scope cp tgN C s₃ (a8 H2 D (.lst [])) fp) [] H' b:=fun hn b hb=>
      ⟨hn b hb,(ok'.exf b hb).1,ok'.exfs b hb,.inl hb,(ok'.exf b hb).2,fun p hp=>by simp [ap] at hp⟩
    rcases turn i n σ5 H5 w5 with ⟨stop,qn⟩ | ⟨go,N,hN,step⟩
    · refine br (T.done (ap X scope cp tgN C s₃ (a8 H2 D (.lst [])) fp) rfl rfl rfl hc i [] s5 σ5 H5 (fun _ _=>False) I5 (stat fr5) st5 stop) fun r s6 ⟨hr,I6⟩=>?_
      subst hr
      refine⟨fun _=>?_,fun v z=>by cases z⟩
      obtain⟨m,hn,_⟩:=I6.loc
      refine⟨m,hn,fun h' sb=>⟨.ref D,H5,?_,rfl,qn⟩⟩
      have ub:=I6.base
      have kp:∀b u,b≠C→s6.heap.get? b=some u→h'.get? b=some u:=fun b u ne e=>sb.extBut b u ne e
      have nit:∀b u,H5 b=some u→b≠C:=fun b u e z=>by
        have:=I6.free
        rw [z] at e
        rw [show H5 C=none from this] at e;cases e
      refine I3.call' (s':={s6 with heap:=h'}) (ch:=fp) I6.os ⟨fun b o e n hb hx=>kp b o (nC b o e) (ub.keep b o e n hb hx),fun b o e n hb hx=>?_,ub.free,fun b o e hx=>?_,ub.tups,ub.frzs,ub.tbls⟩ (fun b u e=>?_) I6.bare (fun b hb=>?_)
      · obtain⟨sl,q⟩:=ub.slot b o e n hb hx
        exact⟨sl,kp b _ (nC b o e) q⟩
      · obtain⟨o',q⟩:=ub.there b o e hx
        exact⟨o',kp b _ (nC b o e) q⟩
      · refine(I6.hok b u e).stay (fun c v hc q=>kp c v ?_ q) (fun _ q=>q) fun _ _ q=>q
        rcases hc with z | z
        · rw [z];exact nit b u e
        · exact nit c _ z
      · obtain⟨f0,f1,f4,f5,f6,f7⟩:=f3 b hb
        exact⟨f5,f1,f6,f7⟩
    · refine br (T.item (ap X scope cp tgN C s₃ (a8 H2 D (.lst [])) fp) rfl rfl rfl hc i [] s5 σ5 H5 (fun _ _=>False) I5 (stat fr5) st5 go) fun r s6 ⟨u,hr,h6⟩=>?_
      subst hr
      refine⟨fun z=>(by cases z),fun v z=>?_⟩
      cases z
      refine br h6 fun _ s7 ⟨x,H7,I7,r7,y7,st7,fr7⟩=>?_
      have I7':=I7.pinned (stat fr7) (T.obj _ _ st7)
      have again:∀{σ8:L2.St} {H8:Hp} {s8:Shared},ax (ap X scope cp tgN C s₃ (a8 H2 D (.lst [])) fp) ([]++jK fp s7.heap) σ8 H8 s8→N σ8 H8→∃m,m < n∧∃i σ' H',ax (ap X scope cp tgN C s₃ (a8 H2 D (.lst [])) fp) [] σ' H' s8∧tn i s8.heap∧(∀b∈fp,H' b=none)∧W i m σ' H':=fun{σ8 H8 s8} I8 n8=>by
        obtain⟨m',hm,w8⟩:=hN σ8 H8 n8
        refine⟨m',hm,i+1,σ8,H8,I8.unpinned,T.keep _ _ _ st7 fun b hb o e=>(I8.pin (b,o) (List.mem_append_right _ (List.mem_append_right _ (bZ hb e)))).1,fun b hb=>?_,w8⟩
        obtain⟨o,e,d⟩:=T.obj _ _ st7 b hb
        exact(I8.pin (b,o) (List.mem_append_right _ (List.mem_append_right _ (bZ hb e)))).2.1
      refine br (hg C s₃ (a8 H2 D (.lst [])) fp _ s7 σ5 H7 x u _ I7' r7 (step x H7 y7)) fun _ s8 ⟨σ8,H8,I8,q8⟩=>?_
      refine br (ht C s₃ (a8 H2 D (.lst [])) fp _ s8 σ8 H8 _ I8 q8) fun ok s9 ⟨H9,I9,q9⟩=>?_
      cases ok with
      | false=>
        rw [if_neg Bool.false_ne_true] at q9 ⊢
        exact again I9 q9
      | true=>
        rw [if_pos rfl] at q9 ⊢
        refine br (he C s₃ (a8 H2 D (.lst [])) fp _ s9 σ8 H9 _ I9 q9) fun v s10 ⟨xv,H10,I10,r10,ys,hl,hz,n10⟩=>?_
        refine br (j4 _ s10 σ8 H10 (.ref D) [xv] (.ref D) [v] (fun _ H=>N σ8 H) I10 rfl (.cons r10 .nil) ⟨D,ys,xv,rfl,rfl,hl,hz,n10⟩) fun _ s11 ⟨_,H11,I11,_,q11⟩=>?_
        exact again I11 q11
  exact codeAny_compStart_list loop (T.self X.A 0 _ _ _ hst4 loop)
section
variable{X:Cx}
def Ab(K:PySem.W.Frag):R2:=fun x y H Q=>∃a b xs ys,x=.ref a∧y=.ref b∧dz K H a xs∧dz K H b ys∧xs.length+ys.length≤sizeLine∧∀p H',aw H H'→dz K H' p (xs++ys)→Q (.ref p) H'
theorem BJ:fg X (binaryOp .Add) (Ab X.K):=by
  intro pins s σ H x y v u Q I rx ry h
  obtain⟨a,b,xs,ys,rfl,rfl,ha,hb,hz,q⟩:=h
  cases rx;cases ry
  by_cases hx:xs=[]
  · obtain⟨i1,r1,p1,_⟩:=I.tuple ha
    obtain⟨i2,r2,p2,_⟩:=I.tuple hb
    obtain⟨m,F⟩:=I.fr
    have e1:i1=[]:=by subst hx;cases r1;rfl
    refine add_tuples F (ze (g:=X.base)) p1 p2 (fun _=>?_) (fun z1 _=>absurd e1 z1) (fun z1 _ _ _ _=>absurd e1 z1) (by rw [←r1.length,←r2.length];exact hz)
    exact⟨.ref b,H,I,rfl,q b H (aw.refl H) (by rw [hx];exact hb)⟩
  · exact BK pins s σ H (.ref a) (.ref b) _ _ Q I rfl rfl ⟨a,b,xs,ys,rfl,rfl,ha,hb,hx,hz,fun z=>q a H (aw.refl H) (by rw [z,List.append_nil];exact ha),fun _ p hp=>q p _ (aw.new hp) (dz.of aA)⟩
theorem jH{x:V}{us:List Value}(r:aJ [x] us):∃u,us=[u]∧a9 x u:=by
  cases r with
  | cons p p'=>cases p';exact⟨_,rfl,p⟩
end
section
variable{X:Cx}
end
theorem xB{e:Expr}{es:List Expr}{env:Env}(h:PySem.W.isStarred e=false):starEach (e::es) env=(false,eval e env)::starEach es env:=by
  cases e<;>first | rfl | cases h
theorem G_{X:Cx}{e:Expr}{es:List Expr}{te:TE}{t:TA}(ha:PE X e te)(hr:PA X es t)(h:PySem.W.isStarred e=false:=by rfl):PA X (e::es) (tZ te t):=j5 ha hr (xB h)
def wm:List (Int × Int)→TA
  | []=>FV
  | p::r=>tZ (HN (tZ (tC (.int p.1)) (tZ (tC (.int p.2)) FV))) (wm r)
@[irreducible] def Jb(ps:List (Int × Int)):TA:=wm ps
structure ip where
  one:Int
  other:Int
  top:Int
  bot:Int
  worth:Int
structure aY where
  things:Int
  ties:List ip
  pat:List Int
  asks:Int
structure ip.Ok (n:Int) (t:ip):Prop where
  o0:0≤t.one
  o1:t.one < t.other
  o2:t.other < n
  c0:0≤t.top
  c1:t.top≤t.bot
  b0:1≤t.bot
  b1:t.bot≤100
  w0:0≤t.worth
  w1:t.worth≤1000
  cop:Int.gcd t.top t.bot=1
structure aY.Ok (w:aY):Prop where
  t0:0≤w.things
  t1:w.things≤12
  ties:∀t∈w.ties,t.Ok w.things
  len:w.ties.length≤16
  pl:(w.pat.length:Int)=w.things
  pat:∀p∈w.pat,0≤p∧p≤20
  a0:0≤w.asks
  a1:w.asks≤40
def Gy(K:PySem.W.Frag)(H:Hp)(v:V)(t:ip):Prop:=∃p q,v=.ref p∧dz K H p [.int t.one,.int t.other,.ref q,.int t.worth]∧dz K H q [.int t.top,.int t.bot]
inductive qo (K:PySem.W.Frag) (H:Hp):List V→List ip→Prop
  | nil:qo K H [] []
  | cons {v vs t ts}:Gy K H v t→qo K H vs ts→qo K H (v::vs) (t::ts)
structure Jn (K:PySem.W.Frag) (H:Hp) (v:V) (w:aY):Prop where
  ex:∃a b c ts,v=.ref a∧dz K H a [.int w.things,.ref b,.ref c,.int w.asks]∧dz K H b ts∧qo K H ts w.ties∧dz K H c (w.pat.map V.int)
section
variable{K:PySem.W.Frag}{H H':Hp}
end
theorem uG{t b:Int}(hb:0 < b)(h0:0≤t)(h1:t≤b)(h2:b≤100):0≤(fX t b).1∧(fX t b).1≤(fX t b).2∧1≤(fX t b).2∧(fX t b).2≤100:=by
  obtain⟨d,e1,e2,e3,e4,e5⟩:=pW (t:=t) (b:=b) (by lia)
  generalize (fX t b).1=x at*
  generalize (fX t b).2=y at*
  have dp:0 < d:=by
    rcases Int.lt_or_gt_of_ne e2 with z | z
    · exfalso
      have:y*d < 0:=Int.mul_neg_of_pos_of_neg e5 z
      lia
    · exact z
  have x0:0≤x:=by
    rcases Int.lt_or_le x 0 with z | z
    · have:x*d < 0:=Int.mul_neg_of_neg_of_pos z dp
      lia
    · exact z
  have xy:x≤y:=by
    rcases Int.lt_or_le y x with z | z
    · have:y*d < x*d:=Int.mul_lt_mul_of_pos_right z dp
      lia
    · exact z
  have yb:y≤y*d:=by
    have:=Int.mul_le_mul_of_nonneg_left (show(1:Int)≤d by lia) (show 0≤y by lia)
    lia
  exact⟨x0,xy,by lia,by lia⟩
inductive mY {α β:Type} (R:α→β→Prop):List α→List β→Prop
  | nil:mY R [] []
  | cons {a b as bs}:R a b→mY R as bs→mY R (a::as) (b::bs)
namespace mY
variable{α β:Type}{R S:α→β→Prop}
theorem mono(h:∀a b,R a b→S a b):∀{as:List α} {bs:List β},mY R as bs→mY S as bs
  | _,_,.nil=>.nil
  | _,_,.cons x r=>.cons (h _ _ x) (mono h r)
theorem len:∀{as:List α} {bs:List β},mY R as bs→as.length=bs.length
  | _,_,.nil=>rfl
  | _,_,.cons _ r=>by simp [len r]
theorem snoc{a:α}{b:β}(h:R a b):∀{as:List α} {bs:List β},mY R as bs→mY R (as++[a]) (bs++[b])
  | _,_,.nil=>.cons h .nil
  | _,_,.cons x r=>.cons x (snoc h r)
theorem get:∀{as:List α} {bs:List β} {i:Nat} {b:β},mY R as bs→bs[i]?=some b→∃a,as[i]?=some a∧R a b
  | _,_,_,_,.nil,e=>by simp at e
  | _,_,0,_,.cons x _,e=>by simp at e;subst e;exact⟨_,rfl,x⟩
  | _,_,i+1,b,.cons _ r,e=>by
    obtain⟨v,h1,h2⟩:=get (i:=i) (b:=b) r (by simpa using e)
    exact⟨v,by simpa using h1,h2⟩
end mY
section
variable{K:PySem.W.Frag}{a l:Addr}{xs:List V}{g:TG}{tc:TT}{te:TE}{Q:VK}{σ:L2.St}{H:Hp}{α β:Type}{us:List α}{cp:List (Nat × Str)}{nT:Nat}
def H_(a_:Hp→V→β→Prop)(SI:L2.St→Prop)(us:List α)(f:α→Option β)(H:Hp)(l:Addr)(i:Nat)(σ:L2.St)(H':Hp):Prop:=SI σ∧aw H H'∧∃vs,H' l=some (.lst vs)∧vs.length≤i∧mY (a_ H') vs ((us.take i).filterMap f)
end
def tX(ns:List Int):List Int:=ns.mergeSort
theorem oO(ns:List Int):(tX ns).Perm ns:=List.mergeSort_perm ns _
theorem Gq{ns:List Int}{x:Int}:x∈tX ns↔ x∈ns:=(oO ns).mem_iff
theorem Gp(ns:List Int):(tX ns).length=ns.length:=(oO ns).length_eq
section
variable{X:Cx}{K:PySem.W.Frag}{pos:Pos}
theorem BY{es:List Expr}{k:Nat}{t:AW}{n:Nat}(hK:X.K=K)(hc:X.calm=true)(h:xS X es t)(hn:(assignEach es X.env).length=n:=by rfl)(hst:(assignEach es X.env).findIdx? (·.1)=none:=by rfl):PG X (.Tuple es k pos) (wV K n t):=hK ▸ E3 hc h hn hst
theorem B1{tg l:Expr}{tl:TE}(h:X.K=K)(hl:PE X l tl):PI X tg l (GP K tl):=h ▸ E5 hl
theorem zD{tg l:Expr}{tl:TE}(h:X.K=K)(hl:PE X l tl):PI X tg l (Df K tl):=h ▸ B0 hl
end
instance:Inhabited ip:=⟨⟨0,1,1,1,0⟩⟩
def aY.tie(W:aY)(k:Int):ip:=W.ties.getD k.toNat default
def aY.has(W:aY)(k thing:Int):Bool:=(W.tie k).one==thing || (W.tie k).other==thing
def aY.many(W:aY)(asked:List Int)(thing:Int):Int:=((asked.filter fun k=>W.has k thing).length:Nat)
def aY.bears(W:aY)(asked taken:List Int)(thing:Int):Bool:= !taken.contains thing&&decide (W.many asked thing < W.pat.getD thing.toNat 0)
def aY.may(W:aY)(asked taken:List Int)(k:Int):Bool:= !(asked.contains k || decide (W.asks≤(asked.length:Int)))&&(W.bears asked taken (W.tie k).one&&W.bears asked taken (W.tie k).other)
def aY.askd(asked:List Int)(k:Int):List Int:=tX (asked++[k])
def aY.took(W:aY)(taken:List Int)(k:Int)(truth:Bool):List Int:=if truth then tX (taken++[(W.tie k).one,(W.tie k).other]) else taken
def aY.rng(W:aY):List Int:=(List.range W.ties.length).map Int.ofNat
def wC(W:aY)(k:Int):Prop:=0≤k∧k < (W.ties.length:Int)
theorem wC.get{W:aY}{k:Int}(h:wC W k):W.ties[k.toNat]?=some (W.tie k):=by
  have hk:k.toNat < W.ties.length:=by have:=h.1;have:=h.2;lia
  unfold aY.tie
  rw [List.getD_eq_getElem?_getD,List.getElem?_eq_getElem hk];rfl
theorem wC.ok{W:aY}{k:Int}(h:wC W k)(o:W.Ok):(W.tie k).Ok W.things:=o.ties _ (Mf h.get)
theorem Ih{W:aY}{k:Int}:k∈W.rng↔ wC W k:=by
  unfold aY.rng wC
  rw [List.mem_map]
  constructor
  · rintro⟨n,hn,rfl⟩
    have:=List.mem_range.mp hn
    exact⟨Int.natCast_nonneg n,by simp;lia⟩
  · rintro⟨h0,h1⟩
    exact⟨k.toNat,List.mem_range.mpr (by lia),by simp;lia⟩
def DP(K:PySem.W.Frag)(H:Hp)(v:V)(asked taken:List Int):Prop:=∃a b c,v=.ref a∧dz K H a [.ref b,.ref c]∧dz K H b (asked.map V.int)∧dz K H c (taken.map V.int)
theorem DP.ts{K:PySem.W.Frag}{H H':Hp}(s:mG H H'){v:V}{asked taken:List Int}(h:DP K H v asked taken):DP K H' v asked taken:=by
  obtain⟨a,b,c,e,h1,h2,h3⟩:=h
  exact⟨a,b,c,e,s.tup h1,s.tup h2,s.tup h3⟩
section
variable{K:PySem.W.Frag}{σ:L2.St}{H:Hp}{Q:VK}{i j:Nat}{vW:V}{W:aY}{k:Int}
end
def small(k:Int):Prop:= -1000000≤k∧k≤1000000
def Dk(n dep:Nat)(d:PyData):Prop:=d.showable=true∧ou d=true∧L2.cnt d≤n∧d.depth≤dep
theorem Dk.mono{n m dep e:Nat}{d:PyData}(h:Dk n dep d)(h1:n≤m)(h2:dep≤e):Dk m e d:=⟨h.1,h.2.1,Nat.le_trans h.2.2.1 h1,Nat.le_trans h.2.2.2 h2⟩
theorem Dk.int{k:Int}(h:small k):Dk 1 2 (.int k):=by
  refine⟨?_,rfl,Nat.le_refl _,by simp [PyData.depth]⟩
  show decide (k.natAbs.log2 < 1920)=true
  rw [decide_eq_true_eq]
  exact Nat.lt_trans ((show Bt 64 k by have:=h.1;have:=h.2;unfold Bt;lia).log (by decide)) (by decide)
theorem Dk.bool(b:Bool):Dk 1 2 (.bool b):=⟨rfl,rfl,Nat.le_refl _,by simp [PyData.depth]⟩
theorem Dk.none:Dk 1 2 .none:=⟨rfl,rfl,Nat.le_refl _,by simp [PyData.depth]⟩
theorem Dk.all{n dep:Nat}:∀{ds:List PyData},(∀d∈ds,Dk n dep d)→PyData.showableAll ds=true∧iK ds=true∧kj ds≤ds.length*n∧PyData.depthAll ds≤dep
  | [],_=>⟨rfl,rfl,by simp [kj],by simp [PyData.depthAll]⟩
  | d::r,h=>by
    obtain⟨a1,a2,a3,a4⟩:=h d (by simp)
    obtain⟨b1,b2,b3,b4⟩:=Dk.all (ds:=r) fun x hx=>h x (by simp [hx])
    refine⟨?_,?_,?_,?_⟩
    · simp only [PyData.showableAll,a1,b1,Bool.and_self]
    · simp only [iK,a2,b2,Bool.and_self]
    · simp only [kj,List.length_cons,Nat.succ_mul]
      lia
    · simp only [PyData.depthAll];lia
theorem Dk.tup{n dep m:Nat}{ds:List PyData}(h:∀d∈ds,Dk n dep d)(hl:ds.length≤m):Dk (1+m*n) (dep+2) (.tuple ds):=by
  obtain⟨b1,b2,b3,b4⟩:=Dk.all h
  refine⟨b1,b2,?_,?_⟩
  · simp only [L2.cnt]
    have:=Nat.mul_le_mul_right n hl
    lia
  · simp only [PyData.depth];lia
theorem Dk.ok{n dep:Nat}{d:PyData}(h:Dk n dep d)(h1:n≤8000)(h2:dep≤60):d.showable=true∧d.depth≤60∧d.shown.length≤sizeLine:=by
  have:=p9 h.2.1 h.1
  have sl:sizeLine=16777216:=sizeLine_eq
  have:=h.2.2.1
  exact⟨h.1,Nat.le_trans h.2.2.2 h2,by lia⟩
theorem Dk.ints{ns:List Int}{m:Nat}(hl:ns.length≤m)(h:∀r∈ns,small r):Dk (1+m) 4 (.tuple (ns.map .int)):=by
  have:=Dk.tup (n:=1) (dep:=2) (m:=m) (ds:=ns.map PyData.int) (fun d hd=>by
    obtain⟨x,hx,rfl⟩:=Md hd
    exact Dk.int (h x hx)) (by rw [List.length_map];exact hl)
  simpa using this
section
variable{K:PySem.W.Frag}{H:Hp}
theorem Dk.bools{ns:List Bool}{m:Nat}(hl:ns.length≤m):Dk (1+m) 4 (.tuple (ns.map .bool)):=by
  have:=Dk.tup (n:=1) (dep:=2) (m:=m) (ds:=ns.map PyData.bool) (fun d hd=>by
    obtain⟨x,hx,rfl⟩:=Md hd
    exact Dk.bool x) (by rw [List.length_map];exact hl)
  simpa using this
def ar(t:ip):PyData:=.tuple [.int t.one,.int t.other,.tuple [.int t.top,.int t.bot],.int t.worth]
def ay(W:aY):PyData:=.tuple [.int W.things,.tuple (W.ties.map ar),.tuple (W.pat.map .int),.int W.asks]
def J5(asked taken:List Int):PyData:=.tuple [.tuple (asked.map .int),.tuple (taken.map .int)]
end
theorem ur:∀{bs:List Bool} {us:List Value} {i:Nat} {v:Value},aJ (bs.map V.bl) us→us[i]?=some v→∃b,bs[i]?=some b∧v=.bool b
  | [],us,i,v,r,e=>by cases r;simp at e
  | b::bs,us,i,v,r,e=>by
    cases r with
    | cons p q=>
      cases i with
      | zero=>simp at e;subst e;cases p;exact⟨b,rfl,rfl⟩
      | succ i=>
        obtain⟨c,h1,h2⟩:=ur (bs:=bs) (i:=i) (v:=v) q (by simpa using e)
        exact⟨c,by simpa using h1,h2⟩
theorem Cq(bs:List Bool):((List.range bs.length).all fun i=>(bs[i]?).getD true)=bs.all id:=by
  rw [Bool.eq_iff_iff,List.all_eq_true,List.all_eq_true]
  constructor
  · intro h b hb
    obtain⟨i,hi,rfl⟩:=List.getElem_of_mem hb
    have:=h i (List.mem_range.mpr hi)
    rw [List.getElem?_eq_getElem hi] at this
    exact this
  · intro h i hi
    have hi':=List.mem_range.mp hi
    rw [List.getElem?_eq_getElem hi']
    exact h _ (List.getElem_mem hi')
theorem Cr(bs:List Bool):((List.range bs.length).any fun i=>(bs[i]?).getD false)=bs.any id:=by
  rw [Bool.eq_iff_iff,List.any_eq_true,List.any_eq_true]
  constructor
  · rintro⟨i,hi,e⟩
    have hi':=List.mem_range.mp hi
    rw [List.getElem?_eq_getElem hi'] at e
    exact⟨_,List.getElem_mem hi',e⟩
  · rintro⟨b,hb,e⟩
    obtain⟨i,hi,rfl⟩:=List.getElem_of_mem hb
    refine⟨i,List.mem_range.mpr hi,?_⟩
    rw [List.getElem?_eq_getElem hi]
    exact e
section
variable{X:Cx}
theorem yg{k:Nat}{K:PySem.W.Frag}(hr:cf k X.A)(hK:X.K=K):dQ X (.builtin "all") (fun xs H Q=>∃(l:Addr) (bs:List Bool),xs=[.ref l]∧f9 K H l (bs.map V.bl)∧Q (.bl (bs.all id)) H):=by
  intro pins s σ H xs us Q I r h
  subst hK
  obtain⟨l,bs,rfl,hs,q⟩:=h
  obtain⟨u,rfl,ru⟩:=jH r
  cases ru
  obtain⟨its,rv,p,hz⟩:=I.list hs
  have hl:=p.isList
  have lt:l < s.heap.objs.size:=by obtain⟨_,e,_⟩:=hl;exact Heap.lt_size e
  refine PySem.call_all_walk (wpAny_pyIter_list hl ?_)
  refine⟨s.heap.objs.size,[s.heap.objs.size,l],[s.heap.objs.size],its.toArray.size,_,_,fun i=>(bs[i]?).getD true,rfl,Walks.list (A:=X.A.in1) hr.hd _ l (Nat.ne_of_lt lt) its.toArray,⟨⟨_,Heap.get?_push_size _ rfl,rfl,rfl⟩,hl.push _⟩,fun i v s' Q' E' hP hQ=>?_,fun h' tk hk=>?_⟩
  · obtain⟨b,e,rfl⟩:=ur rv (by simpa using hP)
    simp only [e,Option.getD_some] at hQ
    exact wpAny_truthy_bool hQ
  · have e:its.toArray.size=bs.length:=by have:=rv.length;rw [List.length_map] at this;simpa using this.symm
    rw [e,Cq]
    refine⟨.bl (bs.all id),H,I.kept fun b x e=>hk b x (fun hm=>?_) (Heap.get?_push_of_some _ e),rfl,q⟩
    rw [List.mem_singleton.mp hm] at e
    exact Nat.lt_irrefl _ (Heap.lt_size e)
theorem yh{k:Nat}{K:PySem.W.Frag}(hr:cf k X.A)(hK:X.K=K):dQ X (.builtin "any") (fun xs H Q=>∃(l:Addr) (bs:List Bool),xs=[.ref l]∧f9 K H l (bs.map V.bl)∧Q (.bl (bs.any id)) H):=by
  intro pins s σ H xs us Q I r h
  subst hK
  obtain⟨l,bs,rfl,hs,q⟩:=h
  obtain⟨u,rfl,ru⟩:=jH r
  cases ru
  obtain⟨its,rv,p,hz⟩:=I.list hs
  have hl:=p.isList
  have lt:l < s.heap.objs.size:=by obtain⟨_,e,_⟩:=hl;exact Heap.lt_size e
  refine PySem.call_any_walk (wpAny_pyIter_list hl ?_)
  refine⟨s.heap.objs.size,[s.heap.objs.size,l],[s.heap.objs.size],its.toArray.size,_,_,fun i=>(bs[i]?).getD false,rfl,Walks.list (A:=X.A.in1) hr.hd _ l (Nat.ne_of_lt lt) its.toArray,⟨⟨_,Heap.get?_push_size _ rfl,rfl,rfl⟩,hl.push _⟩,fun i v s' Q' E' hP hQ=>?_,fun h' tk hk=>?_⟩
  · obtain⟨b,e,rfl⟩:=ur rv (by simpa using hP)
    simp only [e,Option.getD_some] at hQ
    exact wpAny_truthy_bool hQ
  · have e:its.toArray.size=bs.length:=by have:=rv.length;rw [List.length_map] at this;simpa using this.symm
    rw [e,Cr]
    refine⟨.bl (bs.any id),H,I.kept fun b x e=>hk b x (fun hm=>?_) (Heap.get?_push_of_some _ e),rfl,q⟩
    rw [List.mem_singleton.mp hm] at e
    exact Nat.lt_irrefl _ (Heap.lt_size e)
end
theorem ya:PySem.bootBuiltins "all"=some (.builtin "all"):=by decide+kernel
theorem yc:PySem.bootBuiltins "any"=some (.builtin "any"):=by decide+kernel
section
variable{prog:Program}{w:World}{A:Around}{E:Value→Shared→Prop}{s:Shared}
theorem AJ{it t:Addr}{i:Nat}{ys}{x:Value}{Q:Value→Shared→Prop}(hi:s.heap.IsTupleIter it t i)(ht:s.heap.IsTuple t ys)(hx:ys[i]?=some x)
    (q:∀g,g.IsTupleIter it t (i+1)→Heap.SameBut it s.heap g→Q x {s with heap:=g}):wpAny (model prog w) A (Builtin.SmallTypes.nextOf (.ref it)) Q E s:=by
  obtain⟨o,ho,hc,hd⟩:=id hi;obtain⟨p,hp,_,n,hpd⟩:=ht;unfold Builtin.SmallTypes.nextOf
  refine wpAny_bind (wpAny_callSpecial?_slot (name:=Str.ofString "__next__") hi.typeIs F.slot_tuple_iterator_next (wpAny_call_entry F.slot_tuple_iterator_next hi.typeIs F.entry_tuple_iterator_next ?_ (F.args_tuple_iterator_next_1 _)))
  show wpAny _ _ (field (.ref it) 0 >>= _) _ _ s;refine wpAny_bind (wpAny_field ho hd (x:=.ref t) rfl ?_)
  show wpAny _ _ (if (Value.ref t==Value.none)=true then _ else _) _ _ s;rw [if_neg (show ¬((Value.ref t==Value.none)=true) from Bool.false_ne_true)]
  show wpAny _ _ (field (.ref it) 1 >>= _) _ _ s;refine wpAny_bind (wpAny_field ho hd (x:=.int i 0) rfl ?_)
  show wpAny _ _ (seqItems? (.ref t) >>= _) _ _ s;refine wpAny_bind (wpAny_seqItems hp hpd ?_)
  simp only [Int.toNat_natCast,hx];refine wpAny_bind (wpAny_setField ho hd (by simp) (wpAny_pure ⟨x,rfl,wpAny_pure (q _ ?_ (Heap.SameBut.update ..))⟩))
  refine⟨_,Heap.get?_update_self _ ho (Obj.isFreed_of_fields (Obj.data_mapFields hd _)),(Obj.cls_mapFields ..).trans hc,?_⟩;rw [Obj.data_mapFields hd];simp [rawInt]
theorem AI{it t:Addr}{i:Nat}{ys}{Q:Value→Shared→Prop}(hh:A.handled=none)(hi:s.heap.IsTupleIter it t i)(ht:s.heap.IsTuple t ys)(hx:ys[i]?=none)
    (q:∀g e,Heap.ExtBut it s.heap g→(∃o,g.get? e=some o∧o.cls=.type "StopIteration")→E (.ref e) {s with heap:=g}):wpAny (model prog w) A (Builtin.SmallTypes.nextOf (.ref it)) Q E s:=by
  obtain⟨o,ho,hc,hd⟩:=id hi;obtain⟨p,hp,_,n,hpd⟩:=ht;unfold Builtin.SmallTypes.nextOf
  refine wpAny_bind (wpAny_callSpecial?_slot (name:=Str.ofString "__next__") hi.typeIs F.slot_tuple_iterator_next (wpAny_call_entry F.slot_tuple_iterator_next hi.typeIs F.entry_tuple_iterator_next ?_ (F.args_tuple_iterator_next_1 _)))
  show wpAny _ _ (field (.ref it) 0 >>= _) _ _ s;refine wpAny_bind (wpAny_field ho hd (x:=.ref t) rfl ?_)
  show wpAny _ _ (if (Value.ref t==Value.none)=true then _ else _) _ _ s;rw [if_neg (show ¬((Value.ref t==Value.none)=true) from Bool.false_ne_true)]
  show wpAny _ _ (field (.ref it) 1 >>= _) _ _ s;refine wpAny_bind (wpAny_field ho hd (x:=.int i 0) rfl ?_)
  show wpAny _ _ (seqItems? (.ref t) >>= _) _ _ s;refine wpAny_bind (wpAny_seqItems hp hpd ?_)
  simp only [Int.toNat_natCast,hx];refine wpAny_bind (wpAny_rule (wpAny_bind (wpAny_setField ho hd (by simp) ?_)))
  show wpAny _ _ (newExc (.type "StopIteration") [] >>= _) _ _ _;refine wpAny_bind ?_;simp only [newExc,newTuple]
  refine wpAny_bind (wpAny_newObj_type ?_ (by size_fits));refine wpAny_bind (m:=firstArgMember _ _) (wpAny_of_eq (a:=Value.none) (by first | rfl | (simp only [firstArgMember];rfl)) ?_)
  refine wpAny_newObj_type ?_ (by size_fits);simp only [raiseNew];refine wpAny_bind (wpAny_handled ?_);first | rw [show A.in1.handled=none from hh] | rw [hh]
  refine wpAny_bind (wpAny_pure (wpAny_throw ?_));exact q _ _ (((Heap.SameBut.update ..).extBut.push _).push _) ⟨_,Heap.get?_push_size _ rfl,rfl⟩
end
structure Sc (prog:Program) (w:World) (it l:Addr) (St:Nat→Heap→Prop) (Sq:Heap→Array Value→Prop):Prop where
  stay:∀{k h h'},St k h→(∀o,h.get? it=some o→h'.get? it=some o)→St k h'
  live:∀{k h},St k h→∃o,h.get? it=some o∧∀v,o.data≠.cell v
  row:∀{h h' xs},Sq h xs→(∀o,h.get? l=some o→h'.get? l=some o)→Sq h' xs
  next:∀{A:Around} {s:Shared} {E:Value→Shared→Prop} {Q:Value→Shared→Prop} {k:Nat} {xs:Array Value} {x:Value},St k s.heap→Sq s.heap xs→xs[k]?=some x→(∀g,St (k+1) g→Heap.SameBut it s.heap g→Q x {s with heap:=g})→wpAny (model prog w) A (Builtin.SmallTypes.nextOf (.ref it)) Q E s
  last:∀{A:Around} {s:Shared} {E:Value→Shared→Prop} {Q:Value→Shared→Prop} {k:Nat} {xs:Array Value},A.handled=none→St k s.heap→Sq s.heap xs→xs[k]?=none→(∀g e,Heap.ExtBut it s.heap g→(∃o,g.get? e=some o∧o.cls=.type "StopIteration")→E (.ref e) {s with heap:=g})→wpAny (model prog w) A (Builtin.SmallTypes.nextOf (.ref it)) Q E s
theorem rJ{prog:Program}{w:World}(it l:Addr):Sc prog w it l (fun k h=>h.IsTupleIter it l k) (fun h xs=>h.IsTuple l xs) where
  stay:=fun st k=>st.at fun o e=>k o e
  live:=fun st=>by
    obtain⟨o,e,c,d⟩:=st
    exact⟨o,e,fun v z=>by rw [d] at z;cases z⟩
  row:=fun q k=>by
    obtain⟨o,e,r⟩:=q
    exact⟨o,k o e,r⟩
  next:=fun st sq hx q=>AJ st sq hx q
  last:=fun hh st sq hx q=>AI hh st sq hx q
structure pw (z TI TO i1 i2 l1 l2:Addr):Prop where
  a1:TO≠z
  a2:i1≠z
  a3:i2≠z
  a4:TO≠i1
  a5:TO≠i2
  a6:i1≠i2
  b1:l1≠z
  b2:l1≠TO
  b3:l1≠i1
  b4:l1≠i2
  c1:l2≠z
  c2:l2≠TO
  c3:l2≠i1
  c4:l2≠i2
section
variable{prog:Program}{w:World}{A:Around}{E:Value→Shared→Prop}{s:Shared}{z TI TO i1 i2 l1 l2:Addr}{k:Nat}{xs ys:Array Value}{a b:Value}{S1 S2:Nat→Heap→Prop}{R1 R2:Heap→Array Value→Prop}
theorem Gg{x y:Value}{Q:Value→Shared→Prop}(P1:Sc prog w i1 l1 S1 R1)(P2:Sc prog w i2 l2 S2 R2)(D:pw z TI TO i1 i2 l1 l2)(hz:IsZip s.heap z TI TO .none)(hI:IsPair s.heap TI (.ref i1) (.ref i2))(hO:IsPair s.heap TO a b)(u1:S1 k s.heap)(u2:S2 k s.heap)(r1:R1 s.heap xs)(r2:R2 s.heap ys)(hx:xs[k]?=some x)(hy:ys[k]?=some y)
    (q:∀g,IsZip g z TI TO (rawInt s.heap.objs.size)→IsPair g TO x y→S1 (k+1) g→S2 (k+1) g→IsPair g s.heap.objs.size x y→g.objs.size=s.heap.objs.size+1→(∀c o,c≠z→c≠TO→c≠i1→c≠i2→s.heap.get? c=some o→g.get? c=some o)→Q (.ref s.heap.objs.size) {s with heap:=g}):
    wpAny (model prog w) A (Builtin.«zip.__next__» ⟨[.ref z],[]⟩) (fun f s'=>∃v,f=.done (.ret v)∧Q v s') E s:=by
  show wpAny _ _ (field (.ref z) 2 >>= _) _ _ _;refine wpAny_bind (wpAny_field hz rfl (x:=.bool false) rfl ?_)
  show wpAny _ _ (field (.ref z) 3 >>= _) _ _ _;refine wpAny_bind (wpAny_field hz rfl (x:=.ref TI) rfl ?_);refine wpAny_bind (wpAny_seqItems hI rfl ?_)
  show wpAny _ _ (Builtin.SmallTypes.ownedTupleIsFree (.ref z) >>= _) _ _ _;refine wpAny_bind ?_;unfold Builtin.SmallTypes.ownedTupleIsFree
  refine wpAny_bind (wpAny_field hz rfl (x:=.none) rfl (wpAny_pure ?_));simp only [if_true];refine wpAny_bind (wpAny_rule ?_)
  refine wpAny_bind (wpAny_field hz rfl (x:=.ref TO) rfl ?_);refine wpAny_bind (wpAny_setField_rec hz (by simp) fun g1 z1 e1=>?_)
  replace z1:IsZip g1 z TI TO .ellipsis:=z1;refine wpAny_bind ?_;simp only [List.zipIdx_cons,List.zipIdx_nil,List.forIn_cons,List.forIn_nil]
  refine wpAny_bind (wpAny_bind (wpAny_onRaise ?_));show wpAny _ _ (Builtin.SmallTypes.nextOf (.ref i1) >>= _) _ _ _
  refine wpAny_bind (P1.next (P1.stay u1 fun o e=>e1.extBut _ _ D.a2 e) (P1.row r1 fun o e=>e1.extBut _ _ D.b1 e) hx fun g2 v1 e2=>wpAny_pure ?_)
  have O2:IsPair g2 TO a b:=e2.extBut _ _ D.a4 (e1.extBut _ _ D.a1 hO)
  refine wpAny_bind (wpAny_seqItems O2 rfl ?_);refine wpAny_bind (wpAny_updateSeq_pair O2 fun g3 O3 e3=>?_);replace O3:IsPair g3 TO x b:=O3;refine wpAny_bind (wpAny_letGo (wpAny_pure ?_))
  refine wpAny_bind (wpAny_bind (wpAny_onRaise ?_));show wpAny _ _ (Builtin.SmallTypes.nextOf (.ref i2) >>= _) _ _ _
  have up3:∀c o,c≠z→c≠i1→c≠TO→s.heap.get? c=some o→g3.get? c=some o:=fun c o n1 n2 n3 e=>e3.extBut _ _ n3 (e2.extBut _ _ n2 (e1.extBut _ _ n1 e))
  refine wpAny_bind (P2.next (P2.stay u2 fun o e=>up3 _ _ D.a3 D.a6.symm D.a5.symm e) (P2.row r2 fun o e=>up3 _ _ D.c1 D.c3 D.c2 e) hy fun g4 v2 e4=>wpAny_pure ?_)
  have O4:IsPair g4 TO x b:=e4.extBut _ _ D.a5 O3
  refine wpAny_bind (wpAny_seqItems O4 rfl ?_);refine wpAny_bind (wpAny_updateSeq_pair O4 fun g5 O5 e5=>?_);replace O5:IsPair g5 TO x y:=O5;refine wpAny_bind (wpAny_letGo (wpAny_pure (wpAny_pure ?_)))
  refine wpAny_bind (wpAny_seqItems O5 rfl ?_);refine wpAny_bind (wpAny_newTuple ?_)
  have sz:g5.objs.size=s.heap.objs.size:=by rw [e5.1,e4.1,e3.1,e2.1,e1.1]
  have z5:IsZip g5 z TI TO .ellipsis:=e5.extBut _ _ D.a1.symm (e4.extBut _ _ D.a3.symm (e3.extBut _ _ D.a1.symm (e2.extBut _ _ D.a2.symm z1)))
  have k5:∀c o,c≠z→c≠TO→c≠i1→c≠i2→s.heap.get? c=some o→g5.get? c=some o:=fun c o n1 n2 n3 n4 e=>e5.extBut _ _ n2 (e4.extBut _ _ n4 (up3 c o n1 n3 n2 e))
  have w1:S1 (k+1) g5:=P1.stay v1 fun o e=>e5.extBut _ _ D.a4.symm (e4.extBut _ _ D.a6 (e3.extBut _ _ D.a4.symm e))
  have w2:S2 (k+1) g5:=P2.stay v2 fun o e=>e5.extBut _ _ D.a5.symm e
  have lz:z < g5.objs.size:=Heap.lt_size z5
  show wpAny _ _ (Builtin.SmallTypes.ownedTupleHandOut (.ref z) (.ref g5.objs.size) >>= _) _ _ _;refine wpAny_bind ?_;unfold Builtin.SmallTypes.ownedTupleHandOut
  have z6:IsZip (g5.push {cls:=.type "tuple",data:=.seq #[x,y]}) z TI TO .ellipsis:=Heap.get?_push_of_some _ z5
  refine wpAny_bind (wpAny_setField_rec z6 (by simp) fun g7 z7 e7=>?_);replace z7:IsZip g7 z TI TO (rawInt g5.objs.size):=z7
  refine wpAny_setField_rec z7 (by simp) fun g8 z8 e8=>?_;replace z8:IsZip g8 z TI TO (rawInt g5.objs.size):=z8
  have up:∀c o,c≠z→g5.get? c=some o→g8.get? c=some o:=fun c o n e=>e8.extBut _ _ n (e7.extBut _ _ n (Heap.get?_push_of_some _ e))
  have T8:IsPair g8 g5.objs.size x y:=e8.extBut _ _ (Nat.ne_of_gt lz) (e7.extBut _ _ (Nat.ne_of_gt lz) (Heap.get?_push_size _ rfl))
  have n8:g8.objs.size=g5.objs.size+1:=by rw [e8.1,e7.1,Heap.size_push]
  rw [sz] at z8 T8 n8;refine wpAny_pure ⟨_,rfl,?_⟩;show Q (.ref g5.objs.size) _;rw [sz]
  exact q g8 z8 (up _ _ D.a1 O5) (P1.stay w1 fun o e=>up _ o D.a2 e) (P2.stay w2 fun o e=>up _ o D.a3 e) T8 n8 fun c o n1 n2 n3 n4 e=>up c o n1 (k5 c o n1 n2 n3 n4 e)
theorem CN{Q:Fin→Shared→Prop}(hh:A.handled=none)(P1:Sc prog w i1 l1 S1 R1)(P2:Sc prog w i2 l2 S2 R2)(D:pw z TI TO i1 i2 l1 l2)(hz:IsZip s.heap z TI TO .none)(hI:IsPair s.heap TI (.ref i1) (.ref i2))(hO:IsPair s.heap TO a b)(u1:S1 k s.heap)(u2:S2 k s.heap)(r1:R1 s.heap xs)(r2:R2 s.heap ys)(hn:xs[k]?=none∨ys[k]?=none)
    (q:∀g e,(∀c o,c≠z→c≠TO→c≠i1→c≠i2→s.heap.get? c=some o→g.get? c=some o)→(∃o,g.get? e=some o∧o.cls=.type "StopIteration")→E (.ref e) {s with heap:=g}):
    wpAny (model prog w) A (Builtin.«zip.__next__» ⟨[.ref z],[]⟩) Q E s:=by
  show wpAny _ _ (field (.ref z) 2 >>= _) _ _ _;refine wpAny_bind (wpAny_field hz rfl (x:=.bool false) rfl ?_)
  show wpAny _ _ (field (.ref z) 3 >>= _) _ _ _;refine wpAny_bind (wpAny_field hz rfl (x:=.ref TI) rfl ?_);refine wpAny_bind (wpAny_seqItems hI rfl ?_)
  show wpAny _ _ (Builtin.SmallTypes.ownedTupleIsFree (.ref z) >>= _) _ _ _;refine wpAny_bind ?_;unfold Builtin.SmallTypes.ownedTupleIsFree
  refine wpAny_bind (wpAny_field hz rfl (x:=.none) rfl (wpAny_pure ?_));simp only [if_true];refine wpAny_bind (wpAny_rule ?_)
  refine wpAny_bind (wpAny_field hz rfl (x:=.ref TO) rfl ?_);refine wpAny_bind (wpAny_setField_rec hz (by simp) fun g1 z1 e1=>?_)
  replace z1:IsZip g1 z TI TO .ellipsis:=z1;refine wpAny_bind ?_;simp only [List.zipIdx_cons,List.zipIdx_nil,List.forIn_cons,List.forIn_nil]
  refine wpAny_bind (wpAny_bind (wpAny_onRaise ?_));show wpAny _ _ (Builtin.SmallTypes.nextOf (.ref i1) >>= _) _ _ _
  cases hx:xs[k]? with
  | none=>
    refine wpAny_bind (P1.last hh (P1.stay u1 fun o e=>e1.extBut _ _ D.a2 e) (P1.row r1 fun o e=>e1.extBut _ _ D.b1 e) hx fun g2 e e2 he=>?_)
    obtain⟨oe,h1,h2⟩:=he;have z2:IsZip g2 z TI TO .ellipsis:=e2 _ _ D.a2.symm z1
    have nz:e≠z:=fun x=>by subst x;rw [z2] at h1;cases h1;simp at h2
    refine wpAny_setField_rec z2 (by simp) fun g3 _ e3=>q g3 e (fun c o n1 _ n3 _ x=>e3.extBut _ _ n1 (e2 _ _ n3 (e1.extBut _ _ n1 x))) ⟨oe,e3.extBut _ _ nz h1,h2⟩
  | some x=>
    have hy:ys[k]?=none:=by
      rcases hn with h | h
      · rw [hx] at h;cases h
      · exact h
    refine wpAny_bind (P1.next (P1.stay u1 fun o e=>e1.extBut _ _ D.a2 e) (P1.row r1 fun o e=>e1.extBut _ _ D.b1 e) hx fun g2 v1 e2=>wpAny_pure ?_)
    have O2:IsPair g2 TO a b:=e2.extBut _ _ D.a4 (e1.extBut _ _ D.a1 hO)
    refine wpAny_bind (wpAny_seqItems O2 rfl ?_);refine wpAny_bind (wpAny_updateSeq_pair O2 fun g3 O3 e3=>?_);refine wpAny_bind (wpAny_letGo (wpAny_pure ?_))
    refine wpAny_bind (wpAny_bind (wpAny_onRaise ?_));show wpAny _ _ (Builtin.SmallTypes.nextOf (.ref i2) >>= _) _ _ _
    have up3:∀c o,c≠z→c≠i1→c≠TO→s.heap.get? c=some o→g3.get? c=some o:=fun c o n1 n2 n3 e=>e3.extBut _ _ n3 (e2.extBut _ _ n2 (e1.extBut _ _ n1 e))
    refine wpAny_bind (P2.last hh (P2.stay u2 fun o e=>up3 _ _ D.a3 D.a6.symm D.a5.symm e) (P2.row r2 fun o e=>up3 _ _ D.c1 D.c3 D.c2 e) hy fun g4 e e4 he=>?_)
    obtain⟨oe,h1,h2⟩:=he;have z4:IsZip g4 z TI TO .ellipsis:=e4 _ _ D.a3.symm (e3.extBut _ _ D.a1.symm (e2.extBut _ _ D.a2.symm z1))
    have nz:e≠z:=fun x=>by subst x;rw [z4] at h1;cases h1;simp at h2
    refine wpAny_setField_rec z4 (by simp) fun g5 _ e5=>q g5 e (fun c o n1 n2 n3 n4 x=>e5.extBut _ _ n1 (e4 _ _ n4 (up3 c o n1 n3 n2 x))) ⟨oe,e5.extBut _ _ nz h1,h2⟩
theorem AS{x y:Value}{Q:Option Value→Shared→Prop}(P1:Sc prog w i1 l1 S1 R1)(P2:Sc prog w i2 l2 S2 R2)(D:pw z TI TO i1 i2 l1 l2)(hz:IsZip s.heap z TI TO .none)(hI:IsPair s.heap TI (.ref i1) (.ref i2))(hO:IsPair s.heap TO a b)(u1:S1 k s.heap)(u2:S2 k s.heap)(r1:R1 s.heap xs)(r2:R2 s.heap ys)(hx:xs[k]?=some x)(hy:ys[k]?=some y)
    (q:∀g,IsZip g z TI TO (rawInt s.heap.objs.size)→IsPair g TO x y→S1 (k+1) g→S2 (k+1) g→IsPair g s.heap.objs.size x y→g.objs.size=s.heap.objs.size+1→(∀c o,c≠z→c≠TO→c≠i1→c≠i2→s.heap.get? c=some o→g.get? c=some o)→Q (some (.ref s.heap.objs.size)) {s with heap:=g}):
    wpAny (model prog w) A (pyNext (.ref z)) Q E s:=by
  have hT:s.TypeIs (.ref z) "zip":=⟨_,hz,rfl⟩;unfold pyNext
  refine wpAny_bind (wpAny_attempt (wpAny_callSpecial?_slot (name:=Str.ofString "__next__") hT F.slot_zip_next (wpAny_call_entry F.slot_zip_next hT F.entry_zip_next ?_ (F.args_zip_next_1 _))))
  exact Gg P1 P2 D hz hI hO u1 u2 r1 r2 hx hy fun g b1 b2 b3 b4 b5 b6 b7=>wpAny_pure (q g b1 b2 b3 b4 b5 b6 b7)
theorem AU{Q:Option Value→Shared→Prop}(hh:A.handled=none)(P1:Sc prog w i1 l1 S1 R1)(P2:Sc prog w i2 l2 S2 R2)(D:pw z TI TO i1 i2 l1 l2)(hz:IsZip s.heap z TI TO .none)(hI:IsPair s.heap TI (.ref i1) (.ref i2))(hO:IsPair s.heap TO a b)(u1:S1 k s.heap)(u2:S2 k s.heap)(r1:R1 s.heap xs)(r2:R2 s.heap ys)(hn:xs[k]?=none∨ys[k]?=none)
    (q:∀g,(∀c o,c≠z→c≠TO→c≠i1→c≠i2→s.heap.get? c=some o→g.get? c=some o)→Q none {s with heap:=g}):wpAny (model prog w) A (pyNext (.ref z)) Q E s:=by
  have hT:s.TypeIs (.ref z) "zip":=⟨_,hz,rfl⟩;unfold pyNext
  refine wpAny_bind (wpAny_attempt (wpAny_callSpecial?_slot (name:=Str.ofString "__next__") hT F.slot_zip_next (wpAny_call_entry F.slot_zip_next hT F.entry_zip_next (CN hh P1 P2 D hz hI hO u1 u2 r1 r2 hn fun g e hk he=>?_) (F.args_zip_next_1 _))))
  obtain⟨o,ho,hc⟩:=he;refine wpAny_bind (wpAny_isInstance (T:="StopIteration") (b:=true) ⟨o,ho,hc⟩ isSubtype_stop ?_);exact wpAny_pure (q _ hk)
end
section
variable{X:Cx}{pins:List (Addr × Obj)}{σ:L2.St}{H:Hp}{s:Shared}{h':Heap}
theorem ax.turnedL{t':Nat}{fp:List Addr}(I:ax X pins σ H s)(hf:∀b∈fp,jj X pins H b)(k:∀b o,b∉fp→s.heap.get? b=some o→h'.get? b=some o):ax X pins σ H {s with heap:=h',toks:=t'}:=by
  have hL:X.env.locals∉fp:=fun z=>(hf _ z).2.1 rfl
  have nit:∀b u,H b=some u→b∉fp:=fun b u e z=>by have:=(hf b z).1;rw [this] at e;cases e
  refine I.step (g':=s.gens) (d':=s.drawn) (ch:=fp) (fun b hb=>?_) (fun b o _ _ hc e _=>k b o hc e) (fun b o _ _ hc e _=>⟨o.slots,k b o hc e⟩) (fun _ _ _ _ n=>n) (fun b o hc e=>⟨o,k b o hc e⟩) (fun _ _ e=>e) (fun _ _ _ e=>e) (fun b ps e=>⟨#[],by rw [e];simp⟩) (fun m hm=>?_) (fun b u e=>?_) I.bare
  · obtain⟨f0,f1,f2,f3,f4,f5⟩:=hf b hb
    exact⟨f3,f1,f4,f5⟩
  · obtain⟨o,es,ep,ho,r⟩:=hm
    exact⟨o,es,ep,k _ o hL ho,r⟩
  · refine(I.hok b u e).stay (fun c v hc q=>k c v ?_ q) (fun _ q=>q) fun _ _ q=>q
    rcases hc with z | z
    · rw [z];exact nit b u e
    · exact nit c _ z
theorem bz(I:ax X pins σ H s){b l:Addr}{xs:List V}(f:jj X pins H b)(q:dz X.K H l xs):l≠b:=by
  intro z
  subst z
  rcases q with (q | ⟨o,q⟩) | ⟨o,its,n,hk,_⟩
  · rw [f.1] at q;cases q
  · rw [f.1] at q;cases q
  · have hb:X.base.get? l=some o:=I.ok.mod.kin l o hk
    rcases f.2.2.2.1 with z | z
    · exact I.ok.noex l o hb z
    · exact absurd (Nat.lt_of_lt_of_le (Heap.lt_size (I.ok.bs l o hb).1) z) (Nat.lt_irrefl _)
end
def Ji(K:PySem.W.Frag)(l1 l2:Addr):It:=
  ⟨fun i H=>∃xs ys x y,dz K H l1 xs∧dz K H l2 ys∧xs[i]?=some x∧ys[i]?=some y,
   fun i H v H'=>∃p x y,v=.ref p∧H p=none∧H'=a8 H p (.tup [x,y])∧∀xs ys,dz K H l1 xs→dz K H l2 ys→xs[i]?=some x∧ys[i]?=some y,
   fun i H=>∃xs ys,dz K H l1 xs∧dz K H l2 ys∧(xs.length≤i∨ys.length≤i)⟩
def DE(z TI TO i1 i2 l1 l2:Addr)(i:Nat)(h:Heap):Prop:=IsZip h z TI TO .none∧IsPair h TI (.ref i1) (.ref i2)∧(∃a b,IsPair h TO a b)∧h.IsTupleIter i1 l1 i∧h.IsTupleIter i2 l2 i
theorem AK{P:Program}{w:World}{K:PySem.W.Frag}{es:List Expr}{k0:Nat}{pos:Pos}{z TI TO i1 i2:Addr}(l1 l2:Addr)(n1:TO≠z)(n2:i1≠z)(n3:i2≠z)(n4:TO≠i1)(n5:TO≠i2)(n6:i1≠i2)(n7:TI≠z)(n8:TI≠TO)(n9:TI≠i1)(n10:TI≠i2):
    xY P w K (.Tuple es k0 pos) (Ji K l1 l2) [z,TI,TO,i1,i2] z (DE z TI TO i1 i2 l1 l2) where
  mem:=by simp
  obj:=fun i h st b hb=>by
    obtain⟨hz,hI,⟨a,c,hO⟩,u1,u2⟩:=st
    simp only [List.mem_cons,List.not_mem_nil,or_false] at hb
    rcases hb with rfl | rfl | rfl | rfl | rfl
    · exact⟨_,hz,fun v z=>by cases z⟩
    · exact⟨_,hI,fun v z=>by cases z⟩
    · exact⟨_,hO,fun v z=>by cases z⟩
    · obtain⟨o,e,c,d⟩:=u1
      exact⟨o,e,fun v z=>by rw [d] at z;cases z⟩
    · obtain⟨o,e,c,d⟩:=u2
      exact⟨o,e,fun v z=>by rw [d] at z;cases z⟩
  keep:=fun i h h' st k=>by
    obtain⟨hz,hI,⟨a,c,hO⟩,u1,u2⟩:=st
    exact⟨k _ (by simp) _ hz,k _ (by simp) _ hI,⟨a,c,k _ (by simp) _ hO⟩,u1.at fun o e=>k _ (by simp) o e,u2.at fun o e=>k _ (by simp) o e⟩
  item:=by
    intro X hP hw hK hc i pins s σ H E I hf st hg
    subst hP hw hK
    obtain⟨xs,ys,x,y,q1,q2,hx,hy⟩:=hg
    obtain⟨hz,hI,⟨a,b,hO⟩,u1,u2⟩:=id st
    obtain⟨its1,rv1,p1,z1⟩:=I.tuple q1
    obtain⟨its2,rv2,p2,z2⟩:=I.tuple q2
    obtain⟨ux,hux,rux⟩:=rv1.get hx
    obtain⟨uy,huy,ruy⟩:=rv2.get hy
    have fz:=hf z (by simp);have fO:=hf TO (by simp);have f1:=hf i1 (by simp);have f2:=hf i2 (by simp)
    have D:pw z TI TO i1 i2 l1 l2:=⟨n1,n2,n3,n4,n5,n6,bz I fz q1,bz I fO q1,bz I f1 q1,bz I f2 q1,bz I fz q2,bz I fO q2,bz I f1 q2,bz I f2 q2⟩
    refine AS (xs:=its1.toArray) (ys:=its2.toArray) (rJ i1 l1) (rJ i2 l2) D hz hI hO u1 u2 p1 p2 (by simpa using hux) (by simpa using huy) fun g gz gO g1 g2 gT gs gk=>?_
    refine⟨_,rfl,wpAny_letOwnedTupleGo_zip gz fun g' gz' ge=>?_⟩
    have lt:∀b∈[z,TI,TO,i1,i2],b < s.heap.objs.size:=fun b hb=>by
      simp only [List.mem_cons,List.not_mem_nil,or_false] at hb
      rcases hb with rfl | rfl | rfl | rfl | rfl
      · exact Heap.lt_size hz
      · exact Heap.lt_size hI
      · exact Heap.lt_size hO
      · obtain⟨o,e,_⟩:=u1;exact Heap.lt_size e
      · obtain⟨o,e,_⟩:=u2;exact Heap.lt_size e
    have hT:H s.heap.objs.size=none:=I.hok.fresh (Nat.le_refl _)
    have vv:aJ [x,y] [ux,uy]:=.cons rux (.cons ruy .nil)
    have I1:ax X pins σ (a8 H s.heap.objs.size (.tup [x,y])) {s with heap:=s.heap.push {cls:=.type "tuple",data:=.seq #[ux,uy]},toks:=s.toks}:=
      I.laid (t':=s.toks) (fun b u e=>Heap.get?_push_of_some _ e) (Nat.le_refl _) ⟨(by show 2≤sizeLine;decide),[ux,uy],vv,nH.new _ _⟩
    have hf1:∀b∈[z,TI,TO,i1,i2],jj X pins (a8 H s.heap.objs.size (.tup [x,y])) b:=fun b hb=>by
      obtain⟨f0,fr⟩:=hf b hb
      exact⟨by rw [aF (Nat.ne_of_lt (lt b hb))];exact f0,fr⟩
    have nzT:s.heap.objs.size≠z:=Nat.ne_of_gt (lt z (by simp))
    have I2:ax X pins σ (a8 H s.heap.objs.size (.tup [x,y])) {s with heap:=g',toks:=s.toks}:=by
      refine I1.turnedL (t':=s.toks) hf1 fun b o nb e=>?_
      have nb':b≠z∧b≠TI∧b≠TO∧b≠i1∧b≠i2:=by simpa using nb
      refine ge.extBut _ _ nb'.1 ?_
      rcases Heap.get?_push_cases e with ⟨rfl,rfl⟩ | e
      · exact gT
      · exact gk b o nb'.1 nb'.2.2.1 nb'.2.2.2.1 nb'.2.2.2.2 e
    refine⟨.ref s.heap.objs.size,_,I2,rfl,⟨_,x,y,rfl,hT,rfl,fun xs' ys' w1 w2=>?_⟩,⟨gz',ge.extBut _ _ n7 (gk _ _ n7 n8 n9 n10 hI),⟨ux,uy,ge.extBut _ _ n1 gO⟩,g1.at fun o e=>ge.extBut _ _ n2 e,g2.at fun o e=>ge.extBut _ _ n3 e⟩,fun b hb=>(hf1 b hb).1⟩
    rw [I.tuple_inj w1 q1,I.tuple_inj w2 q2]
    exact⟨hx,hy⟩
  done:=by
    intro X hP hw hK hc i pins s σ H E I hf st hg
    subst hP hw hK
    obtain⟨xs,ys,q1,q2,hn⟩:=hg
    obtain⟨hz,hI,⟨a,b,hO⟩,u1,u2⟩:=id st
    obtain⟨its1,rv1,p1,z1⟩:=I.tuple q1
    obtain⟨its2,rv2,p2,z2⟩:=I.tuple q2
    have fz:=hf z (by simp);have fO:=hf TO (by simp);have f1:=hf i1 (by simp);have f2:=hf i2 (by simp)
    have D:pw z TI TO i1 i2 l1 l2:=⟨n1,n2,n3,n4,n5,n6,bz I fz q1,bz I fO q1,bz I f1 q1,bz I f2 q1,bz I fz q2,bz I fO q2,bz I f1 q2,bz I f2 q2⟩
    have e1:=rv1.length
    have e2:=rv2.length
    refine AU (xs:=its1.toArray) (ys:=its2.toArray) (I.ok.hd hc) (rJ i1 l1) (rJ i2 l2) D hz hI hO u1 u2 p1 p2 ?_ fun g gk=>⟨rfl,I.turnedL (t':=s.toks) hf fun b o nb e=>?_⟩
    · rcases hn with hn | hn
      · exact .inl (by simp;lia)
      · exact .inr (by simp;lia)
    · have nb':b≠z∧b≠TI∧b≠TO∧b≠i1∧b≠i2:=by simpa using nb
      exact gk b o nb'.1 nb'.2.2.1 nb'.2.2.2.1 nb'.2.2.2.2 e
  self:=fun A i s Q E st h=>wpAny_pyIter_zip st.1 h
theorem CP(l1 l2:Addr)(xs ys:Array Value):
    Meets (Builtin.«zip.__new__» ⟨[.type "zip",.ref l1,.ref l2],[]⟩) (fun _ R s=>s.heap.IsTuple l1 xs∧s.heap.IsTuple l2 ys∧
      R (.ok (.ret (.ref (s.heap.objs.size+4)))) {s with heap:=((((s.heap.push {cls:=.type "tuple_iterator",data:=.fields #[.ref l1,.int 0 0]}).push {cls:=.type "tuple_iterator",data:=.fields #[.ref l2,.int 0 0]}).push {cls:=.type "tuple",data:=.seq #[.ref s.heap.objs.size,.ref (s.heap.objs.size+1)]}).push {cls:=.type "tuple",data:=.seq #[.none,.none]}).push {cls:=.type "zip",data:=.fields #[.none,.bool false,.bool false,.ref (s.heap.objs.size+2),.ref (s.heap.objs.size+3)]}}):=
  .of_wp fun prog w A R s h=>by
    obtain⟨hp,g,d,tk,os⟩:=s;obtain⟨t1,t2,h⟩:=h;have sz:=PySem.sub_zip
    have T1:Heap.IsTuple (Shared.heap ⟨hp,g,d,tk,os⟩) l1 xs:=t1
    have T2:Heap.IsTuple (Shared.heap ⟨hp.push {cls:=.type "tuple_iterator",data:=.fields #[.ref l1,.int 0 0]},g,d,tk,os⟩) l2 ys:=Heap.IsTuple.push t2 _
    wp_walk using wpAny_pyIter_tuple T1,wpAny_pyIter_tuple T2
    refine⟨_,rfl,?_⟩
    simp only [Heap.size_push]
    exact h
section
variable{prog:Program}{w:World}{A:Around}{E:Value→Shared→Prop}{s:Shared}
theorem AR{l1 l2:Addr}{xs ys:Array Value}{Q:Value→Shared→Prop}(t1:s.heap.IsTuple l1 xs)(t2:s.heap.IsTuple l2 ys)
    (h:∀g,DE (s.heap.objs.size+4) (s.heap.objs.size+2) (s.heap.objs.size+3) s.heap.objs.size (s.heap.objs.size+1) l1 l2 0 g→(∀c o,s.heap.get? c=some o→g.get? c=some o)→Q (.ref (s.heap.objs.size+4)) {s with heap:=g}):
    wpAny (model prog w) A (call (.type "zip") [.ref l1,.ref l2]) Q E s:=by
  refine callType_new F.called_zip (by decide) (F.typeCall_zip_2 _ _) (F.newCall_zip_2 _ _) (fun obj=>F.args_object_init_3 obj _ _) F.entry_zip_new (CP l1 l2 xs ys) ⟨t1,t2,?_⟩
  have at5:∀(g:Heap) (o:Obj) (a:Addr),o.isFreed=false→a=g.objs.size→(g.push o).get? a=some o:=fun g o a hf e=>by rw [e];exact Heap.get?_push_size _ hf
  have g5:=at5 ((((s.heap.push {cls:=.type "tuple_iterator",data:=.fields #[.ref l1,.int 0 0]}).push {cls:=.type "tuple_iterator",data:=.fields #[.ref l2,.int 0 0]}).push {cls:=.type "tuple",data:=.seq #[.ref s.heap.objs.size,.ref (s.heap.objs.size+1)]}).push {cls:=.type "tuple",data:=.seq #[.none,.none]}) {cls:=.type "zip",data:=.fields #[.none,.bool false,.bool false,.ref (s.heap.objs.size+2),.ref (s.heap.objs.size+3)]} (s.heap.objs.size+4) rfl (by simp only [Heap.size_push])
  have g4:=at5 (((s.heap.push {cls:=.type "tuple_iterator",data:=.fields #[.ref l1,.int 0 0]}).push {cls:=.type "tuple_iterator",data:=.fields #[.ref l2,.int 0 0]}).push {cls:=.type "tuple",data:=.seq #[.ref s.heap.objs.size,.ref (s.heap.objs.size+1)]}) {cls:=.type "tuple",data:=.seq #[.none,.none]} (s.heap.objs.size+3) rfl (by simp only [Heap.size_push])
  have g3:=at5 ((s.heap.push {cls:=.type "tuple_iterator",data:=.fields #[.ref l1,.int 0 0]}).push {cls:=.type "tuple_iterator",data:=.fields #[.ref l2,.int 0 0]}) {cls:=.type "tuple",data:=.seq #[.ref s.heap.objs.size,.ref (s.heap.objs.size+1)]} (s.heap.objs.size+2) rfl (by simp only [Heap.size_push])
  have g2:=at5 (s.heap.push {cls:=.type "tuple_iterator",data:=.fields #[.ref l1,.int 0 0]}) {cls:=.type "tuple_iterator",data:=.fields #[.ref l2,.int 0 0]} (s.heap.objs.size+1) rfl (by simp only [Heap.size_push])
  have g1:=at5 s.heap {cls:=.type "tuple_iterator",data:=.fields #[.ref l1,.int 0 0]} s.heap.objs.size rfl rfl
  have up:∀{g:Heap} {a:Addr} {u:Obj} (o:Obj),g.get? a=some u→(g.push o).get? a=some u:=fun o e=>Heap.get?_push_of_some o e
  refine⟨⟨_,g5,rfl⟩,h _ ⟨g5,up _ (up _ g3),⟨_,_,up _ g4⟩,⟨_,up _ (up _ (up _ (up _ g1))),rfl,rfl⟩,⟨_,up _ (up _ (up _ g2)),rfl,rfl⟩⟩ fun c o x=>up _ (up _ (up _ (up _ (up _ x))))⟩
end
theorem yd:PySem.bootBuiltins "zip"=some (.type "zip"):=by decide+kernel
def IH(K:PySem.W.Frag)(ta:TA):TI:=fun σ H R=>ta σ H fun vs H1=>∃a b,vs=[.ref a,.ref b]∧(∃xs,dz K H1 a xs)∧(∃ys,dz K H1 b ys)∧R (Ji K a b) H1
theorem E6{X:Cx}{K:PySem.W.Frag}{es:List Expr}{k0:Nat}{tp:Pos}{a b:Expr}{ta:TA}{p pos:Pos}(hK:X.K=K)(hg:Gl X "zip")(hm:X.mg "zip"=none)(ha:PA X [a,b] ta)(hs:starEach [a,b] X.env=[(false,eval a X.env),(false,eval b X.env)]:=by rfl)(hs2:starEach [b] X.env=[(false,eval b X.env)]:=by rfl):
    PI X (.Tuple es k0 tp) (.Call (.Name "zip" p) [a,b] [] pos) (IH K ta):=by
  intro pins s σ H R I h
  subst hK
  refine Call_ (ku I hg hm yd (PyProof.Rows.callWith_type1 (br (ha pos pins s σ H _ I h) fun us s1 ⟨vs,H1,I1,r1,q1⟩=>?_) (by rw [hs,hs2]) (by rw [hs2];rfl)))
  obtain⟨a,b,e,⟨xs,qx⟩,⟨ys,qy⟩,q⟩:=q1
  subst e
  cases r1 with
  | cons r rr=>
    cases rr with
    | cons r' rr=>
      cases rr
      cases r
      cases r'
      obtain⟨i1,v1,p1,_⟩:=I1.tuple qx
      obtain⟨i2,v2,p2,_⟩:=I1.tuple qy
      refine AR p1 p2 fun g st hk=>wpAny_pyIter_zip st.1 ?_
      have I2:ax X pins σ H1 {s1 with heap:=g,toks:=s1.toks}:=I1.kept (t':=s1.toks) fun b o e=>hk b o e
      refine⟨s1.heap.objs.size+4,[s1.heap.objs.size+4,s1.heap.objs.size+2,s1.heap.objs.size+3,s1.heap.objs.size,s1.heap.objs.size+1],_,_,H1,rfl,I2,AK a b (show((s1.heap.objs.size+3:Nat)≠s1.heap.objs.size+4) by lia) (show((s1.heap.objs.size:Nat)≠s1.heap.objs.size+4) by lia) (show((s1.heap.objs.size+1:Nat)≠s1.heap.objs.size+4) by lia) (show((s1.heap.objs.size+3:Nat)≠s1.heap.objs.size) by lia) (show((s1.heap.objs.size+3:Nat)≠s1.heap.objs.size+1) by lia) (show((s1.heap.objs.size:Nat)≠s1.heap.objs.size+1) by lia) (show((s1.heap.objs.size+2:Nat)≠s1.heap.objs.size+4) by lia) (show((s1.heap.objs.size+2:Nat)≠s1.heap.objs.size+3) by lia) (show((s1.heap.objs.size+2:Nat)≠s1.heap.objs.size) by lia) (show((s1.heap.objs.size+2:Nat)≠s1.heap.objs.size+1) by lia),st,fun c hc=>?_,q⟩
      have le:s1.heap.objs.size≤c:=by
        simp only [List.mem_cons,List.not_mem_nil,or_false] at hc
        rcases hc with rfl | rfl | rfl | rfl | rfl
        · exact Nat.le_add_right _ 4
        · exact Nat.le_add_right _ 2
        · exact Nat.le_add_right _ 3
        · exact Nat.le_refl _
        · exact Nat.le_add_right _ 1
      have f:=I1.fpOk (H':=H1) le (I1.hok.fresh le)
      exact f
def DK(h:Heap)(z TI TO:Addr)(a:Addr)(f:Bool):Prop:=h.get? z=some {cls:=.type "zip",data:=.fields #[rawInt a,.bool f,.bool false,.ref TI,.ref TO]}
section
variable{prog:Program}{w:World}{A:Around}{E:Value→Shared→Prop}{s:Shared}{z TI TO i1 i2 l1 l2:Addr}{k:Nat}{xs ys:Array Value}{a:Addr}{f:Bool}{S1 S2:Nat→Heap→Prop}{R1 R2:Heap→Array Value→Prop}
end
structure ZL (S z TI TO i1 i2 l1 l2:Addr) (xs ys:Array Value) (i:Nat) (h:Heap):Prop where
  pr:IsPair h TI (.ref i1) (.ref i2)
  t1:h.IsTupleIter i1 l1 i
  t2:h.IsTupleIter i2 l2 i
  s1:h.IsTuple l1 xs
  s2:h.IsTuple l2 ys
  ot:∃o,h.get? TO=some o
  zs:(IsZip h z TI TO .none∧∃a b,IsPair h TO a b)∨∃a f oa,DK h z TI TO a f∧h.get? a=some oa∧a≠S∧a≠z∧a≠i1∧a≠i2
structure Jh (S z TO i1 i2:Addr) (xs ys:Array Value) (h:Heap) (acc:Array Value) (i:Nat):Prop where
  sz:acc.size=i
  at_:∀(j:Nat) (v:Value),acc[j]?=some v→∃(p:Addr) (x y:Value),v=.ref p∧xs[j]?=some x∧ys[j]?=some y∧IsPair h p x y∧p≠S∧p≠z∧p≠TO∧p≠i1∧p≠i2
  lo:∀(j:Nat) (p:Addr),acc[j]?=some (.ref p)→S < p
  JK:∀(i j:Nat) (p q:Addr),i < j→acc[i]?=some (.ref p)→acc[j]?=some (.ref q)→p < q
section
variable{prog:Program}{w:World}{A:Around}{R:Result→Shared→Prop}{S z TI TO i1 i2 l1 l2:Addr}{xs ys:Array Value}{n:Nat}
end
section
variable{X:Cx}{pins:List (Addr × Obj)}{σ:L2.St}{H H':Hp}{s:Shared}{h':Heap}
end
section
variable{prog:Program}{w:World}{A:Around}{E:Value→Shared→Prop}{s:Shared}{e it l:Addr}{k:Nat}{xs:Array Value}{S:Nat→Heap→Prop}{R:Heap→Array Value→Prop}
end
section
variable{X:Cx}{pins:List (Addr × Obj)}{σ:L2.St}{H:Hp}{s:Shared}
end
theorem wx:∀(us:List Value) (f:Nat→Int),(∀(j:Nat) (v:Value),us[j]?=some v→∃t,v=Value.int (f j) t)→aJ ((List.range us.length).map fun j=>V.int (f j)) us
  | [],_,_=>.nil
  | u::us,f,h=>by
    rw [List.length_cons,List.range_succ_eq_map,List.map_cons,List.map_map]
    refine .cons (h 0 u rfl) (wx us (fun j=>f (j+1)) fun j v e=>h (j+1) v (by simpa using e))
def kM(n:Nat):List Int:=(List.range n).map Int.ofNat
theorem lG(n:Nat):(kM n).length=n:=by simp [kM]
section
variable{X:Cx}{a:Expr}{ta:TA}{p p2 pos pos2:Pos}
theorem yp(hg:Gl X "range")(hm:X.mg "range"=none)(ha:PA X [a] ta)(hs:starEach [a] X.env=[(false,eval a X.env)]){pins:List (Addr × Obj)}{s:Shared}{σ:L2.St}{H:Hp}{R:Int→Hp→Prop}(I:ax X pins σ H s)(h:ta σ H fun vs H1=>∃j:Int,vs=[.int j]∧R j H1):
    wpAny (model X.prog X.w) X.A (eval (.Call (.Name "range" p) [a] [] pos) X.env) (fun v s1=>∃(r:Addr) (j:Int) (H1:Hp) (t u w:Tok),v=.ref r∧IsRange s1.heap r 0 j 1 t u w∧r < s1.heap.objs.size∧ax X pins σ H1 s1∧R j H1) X.xe s:=by
  refine Call_ (ku I hg hm boot_range (PyProof.Rows.callWith_type1 (br (ha pos pins s σ H _ I h) fun us s1 ⟨vs,H1,I1,r1,q1⟩=>?_) hs rfl))
  obtain⟨j,e,q⟩:=q1
  subst e
  cases r1 with
  | cons r rr=>
    cases rr
    obtain⟨t,rfl⟩:=r
    exact call_range_1 ⟨_,j,H1,_,_,_,rfl,IsRange.new ..,by simp [Heap.size_push],I1.kept fun b o e=>Heap.get?_push_of_some _ e,q⟩
def JR(ta:TA):TE:=fun σ H Q=>ta σ H fun vs H1=>∃j:Int,vs=[.int j]∧(0≤j∧j≤100000∧∀l,H1 l=none→Q (.ref l) (a8 H1 l (.lst ((kM j.toNat).map V.int))))
theorem rq(hc:X.calm=true)(hgl:Gl X "list")(hml:X.mg "list"=none)(hg:Gl X "range")(hm:X.mg "range"=none)(ha:PA X [a] ta)(hs:starEach [a] X.env=[(false,eval a X.env)]:=by rfl)
    (he:starEach [.Call (.Name "range" p) [a] [] pos] X.env=(false,eval (.Call (.Name "range" p) [a] [] pos) X.env)::starEach [] X.env:=by rfl):PE X (.Call (.Name "list" p2) [.Call (.Name "range" p) [a] [] pos] [] pos2) (JR ta):=by
  intro pins s σ H Q I h
  refine wpAny_Call_Name_kw (ku I hgl hml PyProof.Rows.boot_list ?_ (by decide) (by decide))
  refine PyProof.Rows.callWith_type1 ?_ he rfl
  rw [he]
  refine Calls.spliced_cons (br (yp hg hm ha hs I h) fun u s1 ⟨r,j,H1,t,u1,w,e,hr,lt,I1,j0,j1,q⟩=>?_)
  subst e
  refine wpAny_pure ?_
  have hsm:Builtin.Range.small 0 j 1=true:=small_one (by decide) (by decide) (by lia) (by lia)
  refine call_list_range (n:=j.toNat) (I1.ok.hd hc) hr hsm (by rw [rangeSize_one];split<;>lia) (Nat.le_trans (show j.toNat≤100000 by lia) (by decide)) fun h' tk acc c hk hD hI=>?_
  have hf:H1 s1.heap.objs.size=none:=I1.hok.fresh (Nat.le_refl _)
  have vv:aJ ((kM j.toNat).map V.int) acc.toList:=by
    have z:=wx acc.toList (fun k=>(k:Int)) fun k v e=>by
      obtain⟨t,ht⟩:=hI.2 k v (by simpa using e)
      exact⟨t,by rw [ht];simp⟩
    rw [Array.length_toList,hI.1] at z
    rw [kM,List.map_map]
    exact z
  refine⟨.ref s1.heap.objs.size,_,I1.laid (o:=.lst ((kM j.toNat).map V.int)) hk (Nat.le_refl _) ⟨?_,acc.toList,c,vv,by simpa using hD⟩,rfl,q _ hf⟩
  rw [List.length_map,lG,sizeLine_eq];lia
end
theorem xc:fillsNumberSlot (.type "tuple") "mul"=pure false:=
  PySem.fillsNumberSlot_seq (id:="tuple.__mul__") (r:=some (.builtin "tuple.__rmul__")) F.slot_tuple_mul.lookup (by decide+kernel) F.slot_tuple_rmul.lookup (by decide+kernel)
theorem FC:seqRepeat? (.type "tuple")=pure (some (.builtin "tuple.__mul__")):=by
  unfold seqRepeat?;rw [PySem.seqSlot_of (T:="tuple") (name:="__mul__") (id:="tuple.__mul__") F.slot_tuple_mul.lookup (by decide+kernel),PySem.seqSlot_of (T:="tuple") (name:="__rmul__") (id:="tuple.__rmul__") F.slot_tuple_rmul.lookup (by decide+kernel)];rfl
theorem Cp(a:Int)(t:Tok)(l:Addr)(items:Array Value)(n:Nat)(dd:Option Addr)(sl:Array (Option Value)):
    Meets (Builtin.«int.__rmul__» ⟨[.int a t,.ref l],[]⟩) (fun _ R s=>s.heap.get? l=some {cls:=.type "tuple",dict:=dd,data:=.seq items n,slots:=sl}∧R (.ok (.ret Value.notImplemented)) s):=
  .of_wp fun prog w A R s h=>by obtain⟨hp,g,d,tk,os⟩:=s;obtain⟨hl,h⟩:=h;wp_walk;exact⟨_,rfl,h⟩
theorem Es(l:Addr)(x:Value)(n:Nat)(k:Int)(u:Tok)(dd:Option Addr)(sl:Array (Option Value))(h0:2≤k)(h1:k≤100000):
    Meets (Builtin.«tuple.__mul__» ⟨[.ref l,.int k u],[]⟩) (fun _ R s=>s.heap.get? l=some {cls:=.type "tuple",dict:=dd,data:=.seq #[x] n,slots:=sl}∧
      R (.ok (.ret (.ref s.heap.objs.size))) {s with heap:=s.heap.push {cls:=.type "tuple",data:=.seq (List.replicate k.toNat x).toArray}}):=
  .of_wp fun prog w A R s h=>by
    obtain⟨hp,g,d,tk,os⟩:=s;obtain⟨hl,h⟩:=h
    have f1:=AutoSeq1.idx_int
    have c1:¬(decide (k < -(2 ^ 63)) || decide (k≥2 ^ 63))=true:=by simp;lia
    have c2:¬((#[x]:Array Value).isEmpty || k==1)=true:=by simp;lia
    have c3:¬(decide (k≤0) || (#[x]:Array Value).isEmpty)=true:=by simp;lia
    have c4:¬(((#[x]:Array Value).size:Int)*k > (2 ^ 63 - 1) / 8):=by simp;lia
    have c5:¬Builtin.Tuple.tupleTooMany (((#[x]:Array Value).size:Int)*k)=true:=by
      unfold Builtin.Tuple.tupleTooMany;rw [sizeLine_eq];simp;lia
    wp_walk using wpAny_loadPart' hl
    rw [if_neg c1]
    wp_walk using wpAny_loadPart' hl
    rw [if_neg c2]
    wp_walk using wpAny_loadPart' hl
    rw [if_neg c3]
    wp_walk using wpAny_loadPart' hl
    rw [if_neg c4]
    show wpAny _ _ (if Builtin.Tuple.tupleTooMany (((#[x]:Array Value).size:Int)*k)=true then _ else _) _ _ _
    rw [if_neg c5]
    have f0:∀(m:Nat) (acc:Array Value),List.foldl (fun x1 x2=>x1++x2) acc (List.replicate m #[x])=acc++(List.replicate m x).toArray:=by
      intro m
      induction m with
      | zero=>intro acc;simp
      | succ m ih=>intro acc;rw [List.replicate_succ,List.foldl_cons,ih,List.replicate_succ];apply Array.toList_inj.mp;simp
    have e:List.foldl (fun x1 x2=>x1++x2) #[] (List.replicate k.toNat #[x])=(List.replicate k.toNat x).toArray:=by rw [f0];simp
    show wpAny _ _ (Builtin.Tuple.tupleExact (List.foldl (fun x1 x2=>x1++x2) #[] (List.replicate k.toNat #[x])) >>= fun v=>ret v) _ _ _
    rw [e]
    unfold Builtin.Tuple.tupleExact
    refine wpAny_bind (wpAny_newObj_type ?_ (by show(List.replicate k.toNat x).toArray.size≤sizeLine;rw [List.size_toArray,List.length_replicate,sizeLine_eq];lia))
    exact wpAny_pure ⟨_,rfl,h⟩
theorem Bz(l:Addr)(x:Value)(n:Nat)(u:Tok)(dd:Option Addr)(sl:Array (Option Value)):
    Meets (Builtin.«tuple.__mul__» ⟨[.ref l,.int 0 u],[]⟩) (fun _ R s=>s.heap.get? l=some {cls:=.type "tuple",dict:=dd,data:=.seq #[x] n,slots:=sl}∧R (.ok (.ret (.ref s.heap.objs.size))) {s with heap:=s.heap.push {cls:=.type "tuple",data:=.seq #[]}}):=
  .of_wp fun prog w A R s h=>by
    obtain⟨hp,g,d,tk,os⟩:=s;obtain⟨hl,h⟩:=h;have f1:=AutoSeq1.idx_int
    have c2:¬((#[x]:Array Value).isEmpty || (0:Int)==1)=true:=by simp
    wp_walk using wpAny_loadPart' hl
    first | rw [if_neg c2] | skip
    wp_walk using wpAny_loadPart' hl
    exact⟨_,rfl,h⟩
theorem BA(l:Addr)(x:Value)(n:Nat)(u:Tok)(dd:Option Addr)(sl:Array (Option Value)):
    Meets (Builtin.«tuple.__mul__» ⟨[.ref l,.int 1 u],[]⟩) (fun _ R s=>s.heap.get? l=some {cls:=.type "tuple",dict:=dd,data:=.seq #[x] n,slots:=sl}∧R (.ok (.ret (.ref l))) s):=
  .of_wp fun prog w A R s h=>by
    obtain⟨hp,g,d,tk,os⟩:=s;obtain⟨hl,h⟩:=h;have f1:=AutoSeq1.idx_int
    wp_walk using wpAny_loadPart' hl
    exact⟨_,rfl,h⟩
section
variable{X:Cx}
def Ad(K:PySem.W.Frag):R2:=fun x y H Q=>∃a k v,x=.ref a∧y=.int k∧dz K H a [v]∧0≤k∧k≤100000∧∀p H',aw H H'→dz K H' p (List.replicate k.toNat v)→Q (.ref p) H'
theorem BQ:fg X (binaryOp .Mult) (Ad X.K):=by
  intro pins s σ H x y v u Q I rx ry h
  obtain⟨a,k,z,rfl,rfl,ha,k0,k1,q⟩:=h
  cases rx
  obtain⟨t,rfl⟩:=ry
  obtain⟨its,r,p,hz⟩:=I.tuple ha
  obtain⟨uz,rfl,rz⟩:=jH r
  obtain⟨⟨cls,dd,data,sl⟩,ho,hc,n,hd⟩:=id p
  simp only at hc hd
  subst hc hd
  refine wpAny_binaryOp_repeat_ref (T:="tuple") (U:="int") (by decide) ⟨_,ho,rfl⟩ (fun s'=>PySem.typeIs_int s' k t) xc F.fills_int_mul F.slot_int_rmul FC F.slot_int_index.lookup (call_meets F.slot_int_rmul (PySem.typeIs_int s k t) F.entry_int_rmul (F.args_int_rmul_2 _ _) (Cp k t a #[uz] n dd sl) ⟨ho,rfl,⟨_,ho,rfl⟩,?_⟩)
  have new:∀m:Nat,m=k.toNat→EP X pins σ Q (.ref s.heap.objs.size) {s with heap:=s.heap.push {cls:=.type "tuple",data:=.seq (List.replicate m uz).toArray},toks:=s.toks}:=fun m hm=>by
    have hf:H s.heap.objs.size=none:=I.hok.fresh (Nat.le_refl _)
    have vv:∀j:Nat,aJ (List.replicate j z) (List.replicate j uz):=fun j=>by
      induction j with
      | zero=>exact .nil
      | succ j ih=>exact .cons rz ih
    refine⟨.ref s.heap.objs.size,_,I.laid (t':=s.toks) (o:=.tup (List.replicate m z)) (fun b ob q=>Heap.get?_push_of_some _ q) (Nat.le_refl _) ⟨by rw [List.length_replicate,sizeLine_eq];lia,_,vv m,nH.new _ _⟩,rfl,q _ _ (aw.new hf) (dz.of (by rw [aA,hm]))⟩
  rcases(by lia:k=0∨k=1∨2≤k) with e | e | e
  · subst e
    exact call_meets F.slot_tuple_mul ⟨_,ho,rfl⟩ F.entry_tuple_mul (F.args_tuple_mul_2 _ _) (Bz a uz n t dd sl) ⟨ho,new 0 rfl⟩
  · subst e
    exact call_meets F.slot_tuple_mul ⟨_,ho,rfl⟩ F.entry_tuple_mul (F.args_tuple_mul_2 _ _) (BA a uz n t dd sl) ⟨ho,⟨.ref a,H,I,rfl,q a H (aw.refl H) ha⟩⟩
  · exact call_meets F.slot_tuple_mul ⟨_,ho,rfl⟩ F.entry_tuple_mul (F.args_tuple_mul_2 _ _) (Es a uz n k t dd sl e k1) ⟨ho,new _ rfl⟩
end
section
variable{prog:Program}{w:World}{A:Around}{E:Value→Shared→Prop}{s:Shared}
end
section
variable{X:Cx}{a:Expr}{ta:TA}{p p2 p3 pos pos2 pos3:Pos}
end
section
variable{prog:Program}{w:World}{A:Around}{E:Value→Shared→Prop}{s:Shared}
end
section
variable{X:Cx}{K:PySem.W.Frag}{es:List Expr}{k0:Nat}{tp:Pos}{a:Expr}{ta:TA}{p pos:Pos}
end
theorem xj{X:Cx}:fg X (compareOp .IsNot) (fun x y H Q=>∃b c,x=.bl b∧y=.bl c∧Q (.bl (!(b==c))) H):=by
  intro pins s σ H x y v u Q I rx ry h
  obtain⟨b,c,rfl,rfl,q⟩:=h
  cases rx;cases ry
  refine wpAny_isNot_plain (by cases b<;>cases c<;>rfl) ⟨.bl (!(b==c)),H,I,?_,q⟩
  show Value.bool _=Value.bool _
  cases b<;>cases c<;>rfl
section
variable{prog:Program}{w:World}{A:Around}{E:Value→Shared→Prop}{s:Shared}
end
section
variable{prog:Program}{w:World}{A:Around}{E:Value→Shared→Prop}{s:Shared}
end
section
variable{prog:Program}{w:World}{A:Around}{E:Value→Shared→Prop}{s:Shared}
end
theorem uP{X:Cx}{ix:Nat}{nm:Str}{posn poss:Pos}{elt iter tg:Expr}{ifs:List Expr}{scope:Scope}{pos:Pos}{wi:TI}{g:TG}{tc:TT}{te:TE}(sc0:Scope)(N0:List Str)(cp:List (Nat × Str))(tgN:List Str)
    (hc:X.calm=true)(hsc:X.env.scope=sc0)(hN0:X.N=N0)(hi:PI X tg iter wi)
    (hg:∀C s0 H0 fp,PG (ap X scope cp tgN C s0 H0 fp) tg g)
    (ht:∀C s0 H0 fp,uj (ap X scope cp tgN C s0 H0 fp) ifs tc)
    (he:∀C s0 H0 fp,PE (ap X scope cp tgN C s0 H0 fp) elt te)
    (hk:scope.kind=.function)(hcell:∀y∈scope.names,y.2≠.cell)(hnames:∀y∈scope.names,y.2=.local→scope.names.lookup y.1=some .local)
    (hfr:∀y∈scope.names,y.2=.free→scope.names.lookup y.1=some .free∧sc0.names.lookup y.1=some .cell)
    (hcp:∀p∈cp,N0[p.1]?=some p.2)(hcq:∀p∈cp,sc0.names.lookup p.2=some .cell∧scope.names.lookup p.2=some .free)
    (hNd:X.N.Nodup)(hix:X.N[ix]?=some nm)(hlc:X.env.scope.names.lookup nm=some .local)(hsw:swapsWith (.ListComp elt [⟨tg,iter,ifs,0⟩] scope pos) (some (.Name nm posn)) poss.line X.env=pure true)
    (hs:∀x,foldedSetIterable iter X.env x=pure x:=by intro _;rfl):
    PS X (.Assign [.Name nm posn] (.ListComp elt [⟨tg,iter,ifs,0⟩] scope pos) poss) (FR (wj cp tgN.length wi g tc te) (yE ix)):=by
  intro pins s σ H D0 I h
  let Q:VK:=fun x H1=>D0.nx (σ.set ix (some x)) H1
  have h:wj cp tgN.length wi g tc te σ H Q:=h
  have hkind:∀x,X.env.kindOf x=sc0.names.lookup x:=fun x=>by unfold Env.kindOf;rw [hsc]
  have hfree:∀y∈scope.names,y.2=.free→∃c,X.env.cells.lookup y.1=some c:=fun y hy e=>I.ok.has y.1 (.inl (by rw [hkind];exact(hfr y hy e).2))
  rw [exec_Assign_Name_used _ _ _ _ hsw]
  refine wpAny_bind (wpAny_standAt (wpAny_bind ?_))
  unfold evalThenUse
  refine wpAny_bind ?_
  refine wpAny_comprehension_free (use:=some (assign (.Name nm posn) X.env)) rfl hs (ki hfree) hk hnames (wpAny_mono (hi pins s σ H _ I h.go) (fun xv s₁ h₁=>wpAny_mono h₁ (fun itv s₂ h₂=>?_) fun _ _ e=>e) fun _ _ e=>e)
  obtain⟨it,fp,tn,J,H2,rfl,I2,T,st2,f2,hq⟩:=h₂
  refine wpAny_newObj_type ?_
  have hlF:H2 s₂.heap.objs.size=none:=I2.hok.fresh (Nat.le_refl _)
  have I3:ax X pins σ (a8 H2 s₂.heap.objs.size (.lst [])) {s₂ with heap:=s₂.heap.push {cls:=.type "list",data:=.seq ([]:List Value).toArray}}:=I2.lnew (t':=s₂.toks) .nil (Nat.zero_le _)
  obtain⟨W,⟨m0,w0⟩,turn⟩:=hq _ hlF
  have f3:∀b∈fp,jj X pins (a8 H2 s₂.heap.objs.size (.lst [])) b:=fun b hb=>by
    obtain⟨f0,fr⟩:=f2 b hb
    obtain⟨o,ho,_⟩:=T.obj _ _ st2 b hb
    exact⟨by rw [aF (Nat.ne_of_lt (Heap.lt_size ho))];exact f0,fr⟩
  have st3:tn 0 (s₂.heap.push {cls:=.type "list",data:=.seq ([]:List Value).toArray}):=T.keep _ _ _ st2 fun b _ o e=>Heap.get?_push_of_some _ e
  generalize hD:s₂.heap.objs.size=D at*
  generalize hs3:({s₂ with heap:=s₂.heap.push {cls:=.type "list",data:=.seq ([]:List Value).toArray}}:Shared)=s₃ at*
  have hst3:tn 0 s₃.heap:=by rw [←hs3];exact st3
  refine wpAny_newFunctionEnv hcell (by intro y hy;simp at hy) (fun h₁ hns₁ hsb₁=>?_) hk
  generalize hC:s₃.heap.objs.size=C at*
  have old:∀b o,s₃.heap.get? b=some o→h₁.get? b=some o:=fun b o e=>hsb₁.extBut b o (by rw [←hC];exact Nat.ne_of_lt (Heap.lt_size e)) (Heap.get?_push_of_some _ e)
  have nC:∀b o,s₃.heap.get? b=some o→b≠C:=fun b o e=>by rw [←hC];exact Nat.ne_of_lt (Heap.lt_size e)
  have hHC:(a8 H2 D (.lst [])) C=none:=I3.hok.fresh (by rw [hC];exact Nat.le_refl _)
  have clS:∀x c,(gK X.env scope.names []).lookup x=some c→X.env.cells.lookup x=some c:=fun x c e=>iX _ _ x c hfree (fun _ _ z=>by simp at z) e
  have clH:∀x,(∃y∈scope.names,y.1=x∧y.2=.free)→∃c,(gK X.env scope.names []).lookup x=some c:=fun x e=>kW _ _ x (.inl e)
  have ok':(ap X scope cp tgN C s₃ (a8 H2 D (.lst [])) fp).Ok:=by
    refine⟨I.ok.mod,hk,I.ok.glob,I.ok.blt,by rw [←hC];exact Nat.le_refl _,fun x y c e1 e2=>I.ok.inj x y c (clS _ _ e1) (clS _ _ e2),fun x e=>clH x (cE hcell e),fun x c e1 e2=>?_,I.ok.hd,I.ok.frames,.inl rfl,fun b hb=>?_,fun b o e=>I3.bs b o e,?_,fun b o e hb=>?_,fun b hb z=>?_,I3.stack,fun b hb=>I3.stkFree b hb⟩
    · exfalso
      have e1':scope.names.lookup x=some .local:=by simpa [ap] using e1
      have e2':=clS x c e2
      obtain⟨c',hc'⟩:∃y∈scope.names,y.1=x∧y.2=.free:=by
        by_cases q:∃y∈scope.names,y.1=x∧y.2=.free
        · exact q
        · exfalso
          have:∀(names:List (Str × NameKind)) (cs:List (Str × Addr)),(¬∃y∈names,y.1=x∧y.2=.free)→cs.lookup x=none→(gK X.env names cs).lookup x=none:=by
            intro names
            induction names with
            | nil=>intro cs _ h;exact h
            | cons y r ih=>
              intro cs hn hcs
              obtain⟨n,k⟩:=y
              refine ih _ (fun⟨y,hy,z⟩=>hn ⟨y,List.mem_cons_of_mem _ hy,z⟩) ?_
              by_cases hk:(k==NameKind.free)=true
              · rw [if_pos hk,List.lookup_cons]
                cases hx:x==n with
                | true=>exact absurd ⟨(n,k),List.mem_cons_self,(by simpa using hx:x=n).symm,by simpa using hk⟩ hn
                | false=>exact hcs
              · rw [if_neg hk];exact hcs
          have z:=this scope.names [] q rfl
          have e2'':(gK X.env scope.names []).lookup x=some c:=e2
          rw [z] at e2'';cases e2''
      have z:=(hfr c' hc'.1 hc'.2.2).1
      rw [hc'.2.1,e1'] at z;cases z
    · obtain⟨f0,f1,f4,f5,f6,f7⟩:=f3 b hb
      obtain⟨o,ho,_⟩:=T.obj _ _ hst3 b hb
      exact⟨nC b o ho,fun x c e=>f6 x c (clS x c e)⟩
    · exact Nat.le_trans I.ok.bsz I3.sz
    · obtain⟨f0,f1,f4,f5,f6,f7⟩:=f3 b hb
      rcases f5 with z | z
      · exact I.ok.noex b o e z
      · have:=(I.ok.bs b o e).1
        exact absurd (Nat.lt_of_lt_of_le (Heap.lt_size this) z) (Nat.lt_irrefl _)
    · obtain⟨f0,f1,f4,f5,f6,f7⟩:=f3 b hb
      rcases Me (I3.stkSub b z) with z | z
      · exact f1 z
      · exact f4 z
  have I4:ax (ap X scope cp tgN C s₃ (a8 H2 D (.lst [])) fp) [] (et cp tgN.length σ) (a8 H2 D (.lst [])) {s₃ with heap:=h₁,toks:=s₃.toks+([]:List (Str × Value)).length}:=by
    refine⟨ok',rfl,I3.bare,Un.kept old,⟨_,hns₁,fun i x v e1 e2 e3=>?_⟩,fun x c e=>?_,hHC,fun x c e=>I3.freeC x c (clS x c e),fun p hp=>by simp [ap] at hp,I3.hok.kept old,by simp [et,ap]⟩
    · have hlt:i < cp.length:=by
        by_cases q:i < cp.length
        · exact q
        · exfalso
          unfold et at e2
          rw [List.getElem?_append_right (by simp;lia)] at e2
          rw [List.getElem?_replicate] at e2
          split at e2<;>cases e2
      have e1':(cp.map (·.2))[i]?=some x:=by
        have e1'':(cp.map (·.2)++tgN)[i]?=some x:=e1
        rwa [List.getElem?_append_left (by simp;exact hlt)] at e1''
      have e2':(cp.map (fun p=>(σ[p.1]?).join))[i]?=some (some v):=by
        unfold et at e2
        rwa [List.getElem?_append_left (by simp;exact hlt)] at e2
      rw [List.getElem?_map,List.getElem?_eq_getElem hlt] at e1' e2'
      have ex:(cp[i]).2=x:=by simpa using e1'
      have ev:(σ[(cp[i]).1]?).join=some v:=by simpa using e2'
      have ev':σ[(cp[i]).1]?=some (some v):=by
        cases q:σ[(cp[i]).1]? with
        | none=>rw [q] at ev;cases ev
        | some z=>rw [q] at ev;simp only [Option.join_some] at ev;rw [ev]
      have hN:=hcp cp[i] (List.getElem_mem hlt)
      rw [←hN0] at hN
      obtain⟨hcl,hcf⟩:=hcq cp[i] (List.getElem_mem hlt)
      rw [ex] at hN hcl hcf
      obtain⟨m,hn,hl⟩:=I3.loc
      obtain⟨u,r,l⟩:=hl _ x v hN ev' (.inr (.inl (by rw [hsc];exact hcl)))
      refine⟨u,r,.inr ?_⟩
      rcases l with ⟨k1,_⟩ | ⟨k1,c,hcc,o,ho,hd⟩
      · rw [hkind,hcl] at k1;cases k1
      · have e3':(relabel scope X.env).names.lookup x=some .local∨(relabel scope X.env).names.lookup x=some .cell∨(relabel scope X.env).names.lookup x=some .free:=e3
        have nl:(relabel scope X.env).names.lookup x=some .cell∨(relabel scope X.env).names.lookup x=some .free:=by
          rcases e3' with z | z | z
          · exact absurd z (dN hcf)
          · exact .inl z
          · exact .inr z
        obtain⟨c',hc'⟩:=clH x (cE hcell nl)
        have:=clS x c' hc'
        rw [hcc] at this;cases this
        exact⟨nl,c,hc',o,old c o ho,hd⟩
    · obtain⟨v,o,ho,hd⟩:=I3.cell x c (clS x c e)
      exact⟨v,o,old c o ho,hd⟩
  have hst4:tn 0 h₁:=T.keep _ _ _ hst3 fun b _ o e=>old b o e
  have loop:codeAny (model X.prog X.w) X.A (.compLoop (.ListComp elt [⟨tg,iter,ifs,0⟩] scope pos) 0 (.ref it) (.ref D) (compEnvC scope (gK X.env scope.names []) C X.env))
      (compPost (model X.prog X.w) X.A X.xe (some (assign (.Name nm posn) X.env)) (fun _ s'=>wpAny (model X.prog X.w) X.A (pure ()) (fun _ s''=>wpAny (model X.prog X.w) X.A (pure Flow.next) (SP X pins D0) X.xe s'') X.xe s') (.ref D) C) {s₃ with heap:=h₁,toks:=s₃.toks+([]:List (Str × Value)).length}:=by
    refine kY (fun n s'=>∃i σ' H',ax (ap X scope cp tgN C s₃ (a8 H2 D (.lst [])) fp) [] σ' H' s'∧tn i s'.heap∧(∀b∈fp,H' b=none)∧W i n σ' H') ?_ (n0:=m0) ⟨0,_,_,I4,hst4,fun b hb=>(f3 b hb).1,w0⟩
    rintro n s5 ⟨i,σ5,H5,I5,st5,fr5,w5⟩
    have stat:∀{H':Hp},(∀b∈fp,H' b=none)→∀b∈fp,jj (ap X scope cp tgN C s₃ (a8 H2 D (.lst [])) fp) [] H' b:=fun hn b hb=>
      ⟨hn b hb,(ok'.exf b hb).1,ok'.exfs b hb,.inl hb,(ok'.exf b hb).2,fun p hp=>by simp [ap] at hp⟩
    rcases turn i n σ5 H5 w5 with ⟨stop,qn⟩ | ⟨go,N,hN,step⟩
    · refine br (T.done (ap X scope cp tgN C s₃ (a8 H2 D (.lst [])) fp) rfl rfl rfl hc i [] s5 σ5 H5 (fun _ _=>False) I5 (stat fr5) st5 stop) fun r s6 ⟨hr,I6⟩=>?_
      subst hr
      refine⟨fun _=>?_,fun v z=>by cases z⟩
      obtain⟨m,hn,_⟩:=I6.loc
      have I7:ax X pins σ H5 s6:=by
        have key:∀h':Heap,Heap.SameBut C s6.heap h'→ax X pins σ H5 {s6 with heap:=h'}:=fun h' sb=>by
          have ub:=I6.base
          have kp:∀b u,b≠C→s6.heap.get? b=some u→h'.get? b=some u:=fun b u ne e=>sb.extBut b u ne e
          have nit:∀b u,H5 b=some u→b≠C:=fun b u e z=>by
            have:=I6.free
            rw [z] at e
            rw [show H5 C=none from this] at e;cases e
          refine I3.call' (s':={s6 with heap:=h'}) (ch:=fp) I6.os ⟨fun b o e n hb hx=>kp b o (nC b o e) (ub.keep b o e n hb hx),fun b o e n hb hx=>?_,ub.free,fun b o e hx=>?_,ub.tups,ub.frzs,ub.tbls⟩ (fun b u e=>?_) I6.bare (fun b hb=>?_)
          · obtain⟨sl,q⟩:=ub.slot b o e n hb hx
            exact⟨sl,kp b _ (nC b o e) q⟩
          · obtain⟨o',q⟩:=ub.there b o e hx
            exact⟨o',kp b _ (nC b o e) q⟩
          · refine(I6.hok b u e).stay (fun c v hc q=>kp c v ?_ q) (fun _ q=>q) fun _ _ q=>q
            rcases hc with z | z
            · rw [z];exact nit b u e
            · exact nit c _ z
          · obtain⟨f0,f1,f4,f5,f6,f7⟩:=f3 b hb
            exact⟨f5,f1,f6,f7⟩
        exact key s6.heap ⟨rfl,fun _ _=>rfl⟩
      have fC:jj X pins H5 C:=I3.fpOk (by rw [hC];exact Nat.le_refl _) I6.free
      show wpAny (model X.prog X.w) X.A (assign (.Name nm posn) X.env (.ref D)) _ X.xe s6
      refine wpAny_assign_Name (qb (v:=.ref D) I7 hNd hix (Or.inl hlc) rfl (fun s' I' hsb=>?_) (Or.inr hlc))
      obtain⟨a,sb,ha⟩:=hsb
      have nCa:C≠a:=by
        rcases ha with z | z
        · rw [z];exact fC.2.1
        · exact fun e=>fC.2.2.2.2.1 _ _ z e.symm
      obtain⟨oN,esN,epN,hoN,rN⟩:=hn
      refine⟨m,⟨oN,esN,epN,(sb.2 C nCa).trans hoN,rN⟩,fun h' sb'=>wpAny_pure (wpAny_pure ?_)⟩
      have I8:ax X pins (σ.set ix (some (.ref D))) H5 {s' with heap:=h',toks:=s'.toks}:=I'.turnedL (t':=s'.toks) (fp:=[C]) (fun b hb=>by rw [List.mem_singleton.mp hb];exact fC) fun b o nb e=>sb'.extBut b o (by simpa using nb) e
      exact⟨_,H5,I8,qn⟩
    · refine br (T.item (ap X scope cp tgN C s₃ (a8 H2 D (.lst [])) fp) rfl rfl rfl hc i [] s5 σ5 H5 (fun _ _=>False) I5 (stat fr5) st5 go) fun r s6 ⟨u,hr,h6⟩=>?_
      subst hr
      refine⟨fun z=>(by cases z),fun v z=>?_⟩
      cases z
      refine br h6 fun _ s7 ⟨x,H7,I7,r7,y7,st7,fr7⟩=>?_
      have I7':=I7.pinned (stat fr7) (T.obj _ _ st7)
      have again:∀{σ8:L2.St} {H8:Hp} {s8:Shared},ax (ap X scope cp tgN C s₃ (a8 H2 D (.lst [])) fp) ([]++jK fp s7.heap) σ8 H8 s8→N σ8 H8→∃m,m < n∧∃i σ' H',ax (ap X scope cp tgN C s₃ (a8 H2 D (.lst [])) fp) [] σ' H' s8∧tn i s8.heap∧(∀b∈fp,H' b=none)∧W i m σ' H':=fun{σ8 H8 s8} I8 n8=>by
        obtain⟨m',hm,w8⟩:=hN σ8 H8 n8
        refine⟨m',hm,i+1,σ8,H8,I8.unpinned,T.keep _ _ _ st7 fun b hb o e=>(I8.pin (b,o) (List.mem_append_right _ (List.mem_append_right _ (bZ hb e)))).1,fun b hb=>?_,w8⟩
        obtain⟨o,e,d⟩:=T.obj _ _ st7 b hb
        exact(I8.pin (b,o) (List.mem_append_right _ (List.mem_append_right _ (bZ hb e)))).2.1
      refine br (hg C s₃ (a8 H2 D (.lst [])) fp _ s7 σ5 H7 x u _ I7' r7 (step x H7 y7)) fun _ s8 ⟨σ8,H8,I8,q8⟩=>?_
      refine br (ht C s₃ (a8 H2 D (.lst [])) fp _ s8 σ8 H8 _ I8 q8) fun ok s9 ⟨H9,I9,q9⟩=>?_
      cases ok with
      | false=>
        rw [if_neg Bool.false_ne_true] at q9 ⊢
        exact again I9 q9
      | true=>
        rw [if_pos rfl] at q9 ⊢
        refine br (he C s₃ (a8 H2 D (.lst [])) fp _ s9 σ8 H9 _ I9 q9) fun v s10 ⟨xv,H10,I10,r10,ys,hl,hz,n10⟩=>?_
        refine br (j4 _ s10 σ8 H10 (.ref D) [xv] (.ref D) [v] (fun _ H=>N σ8 H) I10 rfl (.cons r10 .nil) ⟨D,ys,xv,rfl,rfl,hl,hz,n10⟩) fun _ s11 ⟨_,H11,I11,_,q11⟩=>?_
        exact again I11 q11
  exact codeAny_compStart_list loop (T.self X.A 0 _ _ _ hst4 loop)
inductive mZ where
  | vi (k:Int)
  | vb (x:Bool)
  | vn
def mZ.toV:mZ→V
  | .vi k=>.int k
  | .vb x=>.bl x
  | .vn=>.non
def mZ.toD:mZ→PyData
  | .vi k=>.int k
  | .vb x=>.bool x
  | .vn=>.none
mutual
def DA(K:PySem.W.Frag)(F:Hp):PyData→V→Prop
  | .none,v=>v=.non
  | .bool b,v=>v=.bl b
  | .int i,v=>v=.int i
  | .str x,v=>v=.str x
  | .tuple ds,v=>∃a xs,v=.ref a∧dz K F a xs∧aI K F ds xs
  | .list ds,v=>∃a xs,v=.ref a∧f9 K F a xs∧aI K F ds xs
  | .dict kvs,v=>∃(a:Addr) (m:List (Int × mZ)),v=.ref a∧F a=some (.dK (m.map fun p=>(Sum.inl p.1,p.2.toV)))∧kvs=m.map fun p=>(PyData.int p.1,p.2.toD)
def aI(K:PySem.W.Frag)(F:Hp):List PyData→List V→Prop
  | [],xs=>xs=[]
  | d::ds,xs=>∃x r,xs=x::r∧DA K F d x∧aI K F ds r
end
mutual
theorem DA.mono{K:PySem.W.Frag}{F F':Hp}(h:aw F F'):∀{d:PyData} {v:V},DA K F d v→DA K F' d v
  | .none,_,q=>by simp only [DA] at q ⊢;exact q
  | .bool b,_,q=>by simp only [DA] at q ⊢;exact q
  | .int i,_,q=>by simp only [DA] at q ⊢;exact q
  | .str x,_,q=>by simp only [DA] at q ⊢;exact q
  | .tuple ds,_,q=>by
    simp only [DA] at q ⊢
    obtain⟨a,xs,e,s,r⟩:=q
    exact⟨a,xs,e,h.tup s,aI.mono h r⟩
  | .list ds,_,q=>by
    simp only [DA] at q ⊢
    obtain⟨a,xs,e,s,r⟩:=q
    exact⟨a,xs,e,h.seq s,aI.mono h r⟩
  | .dict _,_,q=>by
    simp only [DA] at q ⊢
    obtain⟨a,m,e,s,k⟩:=q
    exact⟨a,m,e,h _ _ s,k⟩
theorem aI.mono{K:PySem.W.Frag}{F F':Hp}(h:aw F F'):∀{ds:List PyData} {xs:List V},aI K F ds xs→aI K F' ds xs
  | [],_,q=>by simp only [aI] at q ⊢;exact q
  | d::ds,_,q=>by
    simp only [aI] at q ⊢
    obtain⟨x,r,e,a,b⟩:=q
    exact⟨x,r,e,DA.mono h a,aI.mono h b⟩
end
section
variable{K:PySem.W.Frag}{F:Hp}
theorem aI.len:∀{ds:List PyData} {xs:List V},aI K F ds xs→ds.length=xs.length
  | [],_,q=>by simp only [aI] at q;subst q;rfl
  | d::ds,_,q=>by
    simp only [aI] at q
    obtain⟨x,r,e,a,b⟩:=q
    subst e
    simp [aI.len b]
theorem aI.get:∀{ds:List PyData} {xs:List V} {i:Nat} {d:PyData},aI K F ds xs→ds[i]?=some d→∃v,xs[i]?=some v∧DA K F d v
  | [],_,_,_,_,h=>by simp at h
  | d::ds,_,i,d',q,h=>by
    simp only [aI] at q
    obtain⟨x,r,e,a,b⟩:=q
    subst e
    cases i with
    | zero=>simp at h;subst h;exact⟨x,rfl,a⟩
    | succ i=>
      obtain⟨v,h1,h2⟩:=aI.get (i:=i) b (by simpa using h)
      exact⟨v,by simpa using h1,h2⟩
theorem aI.append:∀{ds es:List PyData} {xs ys:List V},aI K F ds xs→aI K F es ys→aI K F (ds++es) (xs++ys)
  | [],_,_,_,q,s=>by simp only [aI] at q;subst q;simpa using s
  | d::ds,es,_,ys,q,s=>by
    simp only [aI] at q
    obtain⟨x,r,e,a,b⟩:=q
    subst e
    simp only [List.cons_append,aI]
    exact⟨x,_,rfl,a,aI.append b s⟩
theorem aI.one{d:PyData}{v:V}(h:DA K F d v):aI K F [d] [v]:=by simp only [aI];exact⟨_,_,rfl,h,rfl⟩
theorem aI.nil:aI K F [] []:=by simp only [aI]
theorem aI.cons{d:PyData}{v:V}{ds:List PyData}{vs:List V}(h:DA K F d v)(r:aI K F ds vs):aI K F (d::ds) (v::vs):=by simp only [aI];exact⟨_,_,rfl,h,r⟩
theorem aI.drop:∀{ds:List PyData} {xs:List V} (n:Nat),aI K F ds xs→aI K F (ds.drop n) (xs.drop n)
  | _,_,0,q=>q
  | [],_,n+1,q=>by simp only [aI] at q;subst q;exact aI.nil
  | d::ds,_,n+1,q=>by
    simp only [aI] at q
    obtain⟨x,r,e,a,b⟩:=q
    subst e
    simpa using aI.drop n b
theorem aI.take:∀{ds:List PyData} {xs:List V} (n:Nat),aI K F ds xs→aI K F (ds.take n) (xs.take n)
  | _,_,0,q=>by simpa using aI.nil
  | [],_,n+1,q=>by simp only [aI] at q;subst q;exact aI.nil
  | d::ds,_,n+1,q=>by
    simp only [aI] at q
    obtain⟨x,r,e,a,b⟩:=q
    subst e
    simpa using aI.cons a (aI.take n b)
theorem aI.set{d:PyData}{v:V}(h:DA K F d v):∀{ds:List PyData} {xs:List V} (n:Nat),aI K F ds xs→aI K F (ds.set n d) (xs.set n v)
  | [],_,_,q=>by simp only [aI] at q;subst q;exact aI.nil
  | e::ds,_,n,q=>by
    simp only [aI] at q
    obtain⟨x,r,e,a,b⟩:=q
    subst e
    cases n with
    | zero=>exact aI.cons h b
    | succ n=>exact aI.cons a (aI.set h n b)
theorem aI.erase:∀{ds:List PyData} {xs:List V} (n:Nat),aI K F ds xs→aI K F (ds.eraseIdx n) (xs.eraseIdx n)
  | [],_,_,q=>by simp only [aI] at q;subst q;exact aI.nil
  | e::ds,_,n,q=>by
    simp only [aI] at q
    obtain⟨x,r,e,a,b⟩:=q
    subst e
    cases n with
    | zero=>exact b
    | succ n=>exact aI.cons a (aI.erase n b)
theorem aI.ints:∀{ns:List Int} {xs:List V},aI K F (ns.map .int) xs↔ xs=ns.map V.int
  | [],xs=>by simp [aI]
  | n::ns,xs=>by
    simp only [List.map_cons,aI,DA]
    constructor
    · rintro⟨x,r,e,rfl,q⟩;rw [e,aI.ints.mp q]
    · rintro rfl;exact⟨_,_,rfl,rfl,aI.ints.mpr rfl⟩
theorem aI.bools:∀{ns:List Bool} {xs:List V},aI K F (ns.map .bool) xs↔ xs=ns.map V.bl
  | [],xs=>by simp [aI]
  | n::ns,xs=>by
    simp only [List.map_cons,aI,DA]
    constructor
    · rintro⟨x,r,e,rfl,q⟩;rw [e,aI.bools.mp q]
    · rintro rfl;exact⟨_,_,rfl,rfl,aI.bools.mpr rfl⟩
theorem cg{i:Int}{v:V}:DA K F (.int i) v↔ v=.int i:=by simp only [DA]
theorem cX{b:Bool}{v:V}:DA K F (.bool b) v↔ v=.bl b:=by simp only [DA]
theorem gh{v:V}:DA K F .none v↔ v=.non:=by simp only [DA]
theorem l6{x:Str}{v:V}:DA K F (.str x) v↔ v=.str x:=by simp only [DA]
theorem cU{ds:List PyData}{v:V}:DA K F (.tuple ds) v↔ ∃a xs,v=.ref a∧dz K F a xs∧aI K F ds xs:=by simp only [DA]
theorem eS{ds:List PyData}{v:V}:DA K F (.list ds) v↔ ∃a xs,v=.ref a∧f9 K F a xs∧aI K F ds xs:=by simp only [DA]
end
inductive Sv where
  | d (x:PyData)
  | l (xs:List PyData)
  /-- a list of lists that nobody else holds -/
  | n (xss:List (List PyData))
abbrev En:=List (Option Sv)
inductive Rv where
  | d (x:PyData)
  | l (xs:List PyData)
  | s (i:Nat)
def Fp(σ:L2.St)(e:En)(H:Hp)(i:Nat)(a:Addr):Prop:=(∃xs:List PyData,e[i]?=some (some (Sv.l xs))∧σ[i]?=some (some (.ref a)))∨
  ∃(xss:List (List PyData)) (l:Addr) (bs:List Addr),e[i]?=some (some (Sv.n xss))∧σ[i]?=some (some (.ref l))∧H l=some (.lst (bs.map V.ref))∧(a=l∨a∈bs)
def b_(σ:L2.St)(e:En)(H:Hp)(a:Addr):Prop:=∃i,Fp σ e H i a
structure a_ (K:PySem.W.Frag) (F H:Hp) (σ:L2.St) (e:En):Prop where
  sm:aw F H
  len:σ.length=e.length
  dat:∀(i:Nat) (x:PyData),e[i]?=some (some (.d x))→∃v,σ[i]?=some (some v)∧DA K F x v
  own:∀(i:Nat) (xs:List PyData),e[i]?=some (some (.l xs))→∃l vs,σ[i]?=some (some (.ref l))∧F l=none∧H l=some (.lst vs)∧aI K F xs vs
  nst:∀(i:Nat) (xss:List (List PyData)),e[i]?=some (some (.n xss))→∃(l:Addr) (bs:List Addr),σ[i]?=some (some (.ref l))∧F l=none∧H l=some (.lst (bs.map V.ref))∧bs.length=xss.length∧bs.Nodup∧l∉bs∧
    ∀(k:Nat) (b:Addr) (ys:List PyData),bs[k]?=some b→xss[k]?=some ys→F b=none∧∃us,H b=some (.lst us)∧aI K F ys us
  fp:∀(i j:Nat) (a:Addr),Fp σ e H i a→Fp σ e H j a→i=j
theorem a_.inj{K:PySem.W.Frag}{F H:Hp}{σ:L2.St}{e:En}(R:a_ K F H σ e)(i j:Nat)(xs ys:List PyData)(l:Addr)(h1:e[i]?=some (some (.l xs)))(h2:e[j]?=some (some (.l ys)))(h3:σ[i]?=some (some (.ref l)))(h4:σ[j]?=some (some (.ref l))):i=j:=R.fp i j l (.inl ⟨xs,h1,h3⟩) (.inl ⟨ys,h2,h4⟩)
theorem a_.fpAt{K:PySem.W.Frag}{F H:Hp}{σ:L2.St}{e:En}(R:a_ K F H σ e){i:Nat}{a:Addr}(h:Fp σ e H i a):F a=none∧∃vs,H a=some (.lst vs):=by
  rcases h with ⟨xs,h1,h2⟩ | ⟨xss,l,bs,h1,h2,h3,h4⟩
  · obtain⟨l,vs,g1,g2,g3,_⟩:=R.own i xs h1
    rw [h2] at g1;cases g1
    exact⟨g2,vs,g3⟩
  · obtain⟨l',bs',g1,g2,g3,g4,g5,g6,g7⟩:=R.nst i xss h1
    rw [h2] at g1;cases g1
    rw [h3] at g3
    have e1:bs=bs':=by
      have:=HO.lst.inj (Option.some.inj g3)
      exact List.map_inj_right (fun _ _ z=>V.ref.inj z) |>.mp this
    subst e1
    rcases h4 with rfl | h4
    · exact⟨g2,_,h3⟩
    · obtain⟨k,hk⟩:=List.getElem?_of_mem h4
      have hk2:k < xss.length:=by rw [←g4];exact(Mb hk).1
      obtain⟨c1,us,c2,_⟩:=g7 k a xss[k] hk (List.getElem?_eq_getElem hk2)
      exact⟨c1,us,c2⟩
structure ez (σ:L2.St) (F H:Hp) (e:En) (F' H':Hp) (e':En):Prop where
  sf:aw F F'
  dom:∀a,H' a=none→H a=none
  fr:∀a vs,F a=none→H a=some (.lst vs)→¬b_ σ e H a→F' a=none
  lst:∀a vs,H a=some (.lst vs)→∃vs',H' a=some (.lst vs')
  tmp:∀a o,H a=some o→¬b_ σ e H a→H' a=some o
  shp:∀i:Nat,(∃xs,e'[i]?=some (some (.l xs)))↔ (∃xs,e[i]?=some (some (.l xs)))
  ow:∀a,b_ σ e' H' a→b_ σ e H a∨H a=none
  fd:∀a m,F a=none→H a=some (.dK m)→¬b_ σ e H a→F' a=none
theorem ez.refl(σ:L2.St)(F H:Hp)(e:En):ez σ F H e F H e:=⟨aw.refl _,fun _ h=>h,fun _ _ h _ _=>h,fun _ vs h=>⟨vs,h⟩,fun _ _ h _=>h,fun _=>Iff.rfl,fun _ h=>.inl h,fun _ _ h _ _=>h⟩
theorem ez.trans{σ:L2.St}{F H F1 H1 F2 H2:Hp}{e e1 e2:En}(x:ez σ F H e F1 H1 e1)(y:ez σ F1 H1 e1 F2 H2 e2):ez σ F H e F2 H2 e2:=
  ⟨x.sf.trans y.sf,fun a h=>x.dom a (y.dom a h),fun a vs h n no=>let ⟨vs',q⟩:=x.lst a vs n;y.fr a vs' (x.fr a vs h n no) q (fun z=>(x.ow a z).elim no fun z=>by rw [n] at z;cases z),fun a vs h=>let ⟨vs',q⟩:=x.lst a vs h;y.lst a vs' q,
    fun a o h n=>y.tmp a o (x.tmp a o h n) (fun z=>(x.ow a z).elim n fun z=>by rw [h] at z;cases z),fun i=>(y.shp i).trans (x.shp i),fun a h=>(y.ow a h).elim (x.ow a) fun z=>.inr (x.dom a z),fun a m h n no=>y.fd a m (x.fd a m h n no) (x.tmp a _ n no) (fun z=>(x.ow a z).elim no fun z=>by rw [n] at z;cases z)⟩
def cH(K:PySem.W.Frag)(σ:L2.St)(H0 F H:Hp)(e:En):Rv→V→Prop
  | .d x,v=>DA K F x v
  | .l xs,v=>∃l vs,v=.ref l∧H0 l=none∧F l=none∧H l=some (.lst vs)∧aI K F xs vs∧¬b_ σ e H l
  | .s i,v=>σ[i]?=some (some v)∧∃xs,e[i]?=some (some (.l xs))
section
variable{K:PySem.W.Frag}{σ:L2.St}{H0 F H F' H':Hp}{e e':En}{r:Rv}{v:V}
theorem cH.ext(h:cH K σ H0 F H e r v)(x:ez σ F H e F' H' e'):cH K σ H0 F' H' e' r v:=by
  cases r with
  | d y=>exact DA.mono x.sf h
  | l xs=>
    obtain⟨l,vs,e1,h1,h2,h3,h4,h5⟩:=h
    exact⟨l,vs,e1,h1,x.fr l _ h2 h3 h5,x.tmp l _ h3 h5,aI.mono x.sf h4,fun z=>(x.ow l z).elim h5 fun z=>by rw [h3] at z;cases z⟩
  | s i=>exact⟨h.1,(x.shp i).mpr h.2⟩
theorem cH.weak{H1:Hp}(h:cH K σ H1 F H e r v)(d:∀a,H1 a=none→H0 a=none):cH K σ H0 F H e r v:=by
  cases r with
  | d y=>exact h
  | l xs=>
    obtain⟨l,vs,e1,h1,r⟩:=h
    exact⟨l,vs,e1,d l h1,r⟩
  | s i=>exact h
theorem a_.ownH(R:a_ K F H σ e)(a:Addr)(h:b_ σ e H a):H a≠none:=by
  obtain⟨i,h⟩:=h
  obtain⟨_,vs,h2⟩:=R.fpAt h
  rw [h2];simp
theorem a_.freeF(R:a_ K F H σ e){p:Addr}(hp:H p=none):F p=none:=R.sm.free hp
theorem Bl(R:a_ K F H σ e)(h:∀l bs,H l=some (.lst bs)→b_ σ e H l→H' l=some (.lst bs)){i:Nat}{a:Addr}:Fp σ e H' i a↔ Fp σ e H i a:=by
  have key:∀xss l,e[i]?=some (some (.n xss))→σ[i]?=some (some (.ref l))→H' l=H l:=fun xss l h1 h2=>by
    obtain⟨l',bs,g1,g2,g3,_⟩:=R.nst i xss h1
    rw [h2] at g1;cases g1
    rw [g3]
    exact h l _ g3 ⟨i,.inr ⟨xss,l,bs,h1,h2,g3,.inl rfl⟩⟩
  constructor
  · rintro(h1 | ⟨xss,l,bs,h1,h2,h3,h4⟩)
    · exact .inl h1
    · exact .inr ⟨xss,l,bs,h1,h2,by rw [←key xss l h1 h2];exact h3,h4⟩
  · rintro(h1 | ⟨xss,l,bs,h1,h2,h3,h4⟩)
    · exact .inl h1
    · exact .inr ⟨xss,l,bs,h1,h2,by rw [key xss l h1 h2];exact h3,h4⟩
theorem a_.keep(R:a_ K F H σ e)(sF:aw F F')(sm:aw F' H')(hf:∀a,b_ σ e H a→F' a=none)(hh:∀a o,b_ σ e H a→H a=some o→H' a=some o):a_ K F' H' σ e∧∀a,b_ σ e H' a↔ b_ σ e H a:=by
  have fs:∀{i a},Fp σ e H' i a↔ Fp σ e H i a:=fun{i a}=>Bl R fun l bs h1 h2=>hh l _ h2 h1
  refine⟨⟨sm,R.len,fun i x h=>let ⟨v,h1,h2⟩:=R.dat i x h;⟨v,h1,DA.mono sF h2⟩,fun i xs h=>?_,fun i xss h=>?_,fun i j a h1 h2=>R.fp i j a (fs.mp h1) (fs.mp h2)⟩,fun a=>⟨fun⟨i,h⟩=>⟨i,fs.mp h⟩,fun⟨i,h⟩=>⟨i,fs.mpr h⟩⟩⟩
  · obtain⟨l,vs,h1,h2,h3,h4⟩:=R.own i xs h
    have o:b_ σ e H l:=⟨i,.inl ⟨xs,h,h1⟩⟩
    exact⟨l,vs,h1,hf l o,hh l _ o h3,h4.mono sF⟩
  · obtain⟨l,bs,h1,h2,h3,h4,h5,h6,h7⟩:=R.nst i xss h
    have o:b_ σ e H l:=⟨i,.inr ⟨xss,l,bs,h,h1,h3,.inl rfl⟩⟩
    refine⟨l,bs,h1,hf l o,hh l _ o h3,h4,h5,h6,fun k b ys g1 g2=>?_⟩
    obtain⟨c1,us,c2,c3⟩:=h7 k b ys g1 g2
    have ob:b_ σ e H b:=⟨i,.inr ⟨xss,l,bs,h,h1,h3,.inr (Mf g1)⟩⟩
    exact⟨hf b ob,us,hh b _ ob c2,c3.mono sF⟩
theorem a_.same(R:a_ K F H σ e)(s:aw H H'):a_ K F H' σ e∧ez σ F H e F H' e:=by
  obtain⟨R',o'⟩:=R.keep (aw.refl F) (R.sm.trans s) (fun a ⟨i,h⟩=>(R.fpAt h).1) fun a o _ h=>s a o h
  exact⟨R',⟨aw.refl _,fun a h=>s.free h,fun _ _ h _ _=>h,fun a vs h=>⟨vs,s _ _ h⟩,fun a o h _=>s a o h,fun _=>Iff.rfl,fun a h=>.inl ((o' a).mp h),fun _ _ h _ _=>h⟩⟩
theorem a_.freeze(R:a_ K F H σ e){p:Addr}{o:HO}(hF:F p=none)(hp:H p=some o)(hn:¬b_ σ e H p):a_ K (a8 F p o) H σ e∧aw F (a8 F p o):=by
  have sF:aw F (a8 F p o):=aw.new hF
  refine⟨(R.keep sF (fun b u q=>?_) (fun a ha=>?_) fun _ _ _ h=>h).1,sF⟩
  · by_cases z:b=p
    · subst z;rw [aA] at q;cases q;exact hp
    · rw [aF z] at q;exact R.sm _ _ q
  · obtain⟨i,hi⟩:=ha
    have z:a≠p:=fun z=>hn ⟨i,by rw [←z];exact hi⟩
    rw [aF z];exact(R.fpAt hi).1
theorem a_.notOwn(R:a_ K F H σ e){p:Addr}{o:HO}(hp:H p=some o)(hl:∀vs,o≠.lst vs):¬b_ σ e H p:=fun⟨i,h⟩=>by
  obtain⟨_,vs,g⟩:=R.fpAt h
  rw [hp] at g;cases g
  exact hl _ rfl
theorem a_.newT(R:a_ K F H σ e){p:Addr}{vs:List V}(hp:H p=none):a_ K (a8 F p (.tup vs)) (a8 H p (.tup vs)) σ e∧ez σ F H e (a8 F p (.tup vs)) (a8 H p (.tup vs)) e:=by
  have hF:=R.freeF hp
  obtain⟨R1,X1⟩:=R.same (aw.new hp (o:=.tup vs))
  obtain⟨R2,s2⟩:=R1.freeze (p:=p) hF aA (R1.notOwn aA (fun _ z=>nomatch z))
  refine⟨R2,⟨s2,X1.dom,fun a ws h n _=>?_,X1.lst,X1.tmp,X1.shp,X1.ow,fun a ws h n _=>?_⟩⟩
  all_goals
    have z:a≠p:=fun z=>by rw [z,hp] at n;cases n
    rw [aF z];exact h
theorem a_.sameOwn(R:a_ K F H σ e)(s:aw H H')(a:Addr):b_ σ e H' a↔ b_ σ e H a:=(R.keep (aw.refl F) (R.sm.trans s) (fun a ⟨i,h⟩=>(R.fpAt h).1) fun a o _ h=>s a o h).2 a
theorem a_.newL(R:a_ K F H σ e){p:Addr}{vs:List V}(hp:H p=none):a_ K F (a8 H p (.lst vs)) σ e∧ez σ F H e F (a8 H p (.lst vs)) e∧F p=none∧¬b_ σ e (a8 H p (.lst vs)) p:=
  ⟨(R.same (aw.new hp)).1,(R.same (aw.new hp)).2,R.freeF hp,fun z=>R.ownH p ((R.sameOwn (aw.new hp) p).mp z) hp⟩
theorem a_.growT(R:a_ K F H σ e){p:Addr}{xs:List V}(s:aw H H')(hp:dz K H' p xs):∃F',a_ K F' H' σ e∧ez σ F H e F' H' e∧dz K F' p xs:=by
  obtain⟨R1,X1⟩:=R.same s
  rcases hp with hp | hp
  · have key:∀o,H' p=some o→(∀vs,o≠.lst vs)→(∀m,o≠.dK m)→(∀G:Hp,G p=some o→Rd G p (.tup xs))→∃F',a_ K F' H' σ e∧ez σ F H e F' H' e∧dz K F' p xs:=by
      intro o ho hl hm hr
      cases q:F p with
      | some u=>
        have:=R1.sm _ _ q
        rw [ho] at this;cases this
        exact⟨F,R1,X1,.inl (hr F q)⟩
      | none=>
        obtain⟨R2,s2⟩:=R1.freeze q ho (R1.notOwn ho hl)
        refine⟨_,R2,⟨s2,X1.dom,fun a ws h n _=>?_,X1.lst,X1.tmp,X1.shp,X1.ow,fun a ws h n _=>?_⟩,.inl (hr _ aA)⟩
        · have z:a≠p:=fun z=>by rw [z] at n;rw [s _ _ n] at ho;cases ho;exact hl _ rfl
          rw [aF z];exact h
        · have z:a≠p:=fun z=>by rw [z] at n;rw [s _ _ n] at ho;cases ho;exact hm _ rfl
          rw [aF z];exact h
    rcases hp with hp | ⟨ob,hp⟩
    · exact key _ hp (fun _ z=>nomatch z) (fun _ z=>nomatch z) fun G g=>.inl g
    · exact key _ hp (fun _ z=>nomatch z) (fun _ z=>nomatch z) fun G g=>.inr ⟨ob,g⟩
  · exact⟨F,R1,X1,.inr hp⟩
theorem cH.frozen(R:a_ K F H σ e){xs:List PyData}(h:cH K σ H0 F H e (.l xs) v):∃F',a_ K F' H σ e∧aw F F'∧DA K F' (.list xs) v∧(∀a,F a=none→H0 a≠none→F' a=none):=by
  obtain⟨l,vs,rfl,h1,h2,h3,h4,h5⟩:=h
  obtain⟨R2,s2⟩:=R.freeze h2 h3 h5
  refine⟨_,R2,s2,?_,fun a ha hn=>?_⟩
  · rw [eS]
    exact⟨l,vs,rfl,.inl (.inl aA),aI.mono s2 h4⟩
  · have z:a≠l:=fun z=>hn (by rw [z];exact h1)
    rw [aF z];exact ha
def dc(e:En):Rv→Option (Bool × List PyData)
  | .d (.tuple xs)=>some (false,xs)
  | .d (.list xs)=>some (true,xs)
  | .l xs=>some (true,xs)
  | .s i=>match e[i]? with
    | some (some (.l xs))=>some (true,xs)
    | _=>none
  | _=>none
theorem bV(R:a_ K F H σ e)(h:cH K σ H0 F H e r v){b:Bool}{xs:List PyData}(q:dc e r=some (b,xs)):
    ∃p vs,v=.ref p∧aI K F xs vs∧(if b=true then f9 K H p vs else dz K H p vs):=by
  cases r with
  | d x=>
    cases x with
    | tuple ds=>
      cases q
      obtain⟨a,ys,e1,e2,e3⟩:=cU.mp h
      exact⟨a,ys,e1,e3,R.sm.tup e2⟩
    | list ds=>
      cases q
      obtain⟨a,ys,e1,e2,e3⟩:=eS.mp h
      exact⟨a,ys,e1,e3,R.sm.seq e2⟩
    | _=>cases q
  | l ys=>
    cases q
    obtain⟨l,vs,e1,h1,h2,h3,h4,_⟩:=h
    exact⟨l,vs,e1,h4,.inl (.inl h3)⟩
  | s i=>
    obtain⟨h1,ys,h2⟩:=h
    simp only [dc,h2] at q
    cases q
    obtain⟨l,vs,e1,e2,e3,e4⟩:=R.own i _ h2
    rw [h1] at e1;cases e1
    exact⟨l,vs,rfl,e4,.inl (.inl e3)⟩
end
abbrev FE:=En→Option (Rv × En)
abbrev FT:=En→Option (Bool × En)
abbrev FA:=En→Option (List Rv × En)
def dR(K:PySem.W.Frag)(σ:L2.St)(H0 F H:Hp)(e:En):List Rv→List V→Prop
  | [],vs=>vs=[]
  | r::rs,vs=>∃v ws,vs=v::ws∧cH K σ H0 F H e r v∧dR K σ H0 F H e rs ws
def fE(K:PySem.W.Frag)(f:FE):TE:=fun σ H Q=>∃F e r e',a_ K F H σ e∧f e=some (r,e')∧∀F' H' v,ez σ F H e F' H' e'→a_ K F' H' σ e'→cH K σ H F' H' e' r v→Q v H'
def fT(K:PySem.W.Frag)(f:FT):TT:=fun σ H Q=>∃F e b e',a_ K F H σ e∧f e=some (b,e')∧∀F' H',ez σ F H e F' H' e'→a_ K F' H' σ e'→Q b H'
def fA(K:PySem.W.Frag)(f:FA):TA:=fun σ H Q=>∃F e rs e',a_ K F H σ e∧f e=some (rs,e')∧∀F' H' vs,ez σ F H e F' H' e'→a_ K F' H' σ e'→dR K σ H F' H' e' rs vs→Q vs H'
theorem PE.mono{X:Cx}{e:Expr}{t t':TE}(h:PE X e t)(m:∀σ H Q,t' σ H Q→t σ H Q):PE X e t':=fun pins s σ H Q I q=>h pins s σ H Q I (m σ H Q q)
theorem PT.mono{X:Cx}{e:Expr}{t t':TT}(h:PT X e t)(m:∀σ H Q,t' σ H Q→t σ H Q):PT X e t':=fun pins s σ H Q I q=>h pins s σ H Q I (m σ H Q q)
theorem PW.mono{X:Cx}{e:Expr}{t t':TT}(h:PW X e t)(m:∀σ H Q,t' σ H Q→t σ H Q):PW X e t':=fun wh pins s σ H Q I q=>h wh pins s σ H Q I (m σ H Q q)
theorem PA.mono{X:Cx}{es:List Expr}{t t':TA}(h:PA X es t)(m:∀σ H Q,t' σ H Q→t σ H Q):PA X es t':=fun pos pins s σ H Q I q=>h pos pins s σ H Q I (m σ H Q q)
section
variable{K:PySem.W.Frag}{σ:L2.St}{H0 F H F' H':Hp}{e e':En}
theorem dR.weak{H1:Hp}(d:∀a,H1 a=none→H0 a=none):∀{rs:List Rv} {vs:List V},dR K σ H1 F H e rs vs→dR K σ H0 F H e rs vs
  | [],_,h=>h
  | r::rs,_,h=>by
    obtain⟨v,ws,rfl,h1,h2⟩:=h
    exact⟨v,ws,rfl,h1.weak d,dR.weak d h2⟩
theorem ez.frz{F'':Hp}(x:ez σ F H e F' H' e')(s:aw F' F'')(h:∀a,F' a=none→H a≠none→F'' a=none):ez σ F H e F'' H' e':=
  ⟨x.sf.trans s,x.dom,fun a vs h1 h2 h3=>h a (x.fr a vs h1 h2 h3) (by rw [h2];simp),x.lst,x.tmp,x.shp,x.ow,fun a m h1 h2 h3=>h a (x.fd a m h1 h2 h3) (by rw [h2];simp)⟩
def kZ:List Rv→Option (List PyData)
  | []=>some []
  | .d x::rs=>(kZ rs).map (x::·)
  | .l xs::rs=>(kZ rs).map (.list xs::·)
  | .s _::_=>none
theorem dR.frozen:∀{rs:List Rv} {vs:List V} {ds:List PyData} {F:Hp},a_ K F H σ e→dR K σ H0 F H e rs vs→kZ rs=some ds→
    ∃F',a_ K F' H σ e∧aw F F'∧aI K F' ds vs∧(∀a,F a=none→H0 a≠none→F' a=none)
  | [],_,_,F,R,h,q=>by
    cases q
    have h':_=[]:=h
    subst h'
    exact⟨F,R,aw.refl _,aI.nil,fun _ h _=>h⟩
  | .d x::rs,_,ds,F,R,h,q=>by
    obtain⟨v,ws,rfl,h1,h2⟩:=h
    obtain⟨ds',q1,rfl⟩:=Ma q
    obtain⟨F',R',s',d',f'⟩:=dR.frozen R h2 q1
    exact⟨F',R',s',.cons (DA.mono s' h1) d',f'⟩
  | .l xs::rs,_,ds,F,R,h,q=>by
    obtain⟨v,ws,rfl,h1,h2⟩:=h
    obtain⟨ds',q1,rfl⟩:=Ma q
    obtain⟨F',R',s',d',f'⟩:=dR.frozen R h2 q1
    obtain⟨l,us,rfl,g1,g2,g3,g4,g5⟩:=h1
    cases hl:F' l with
    | none=>
      have h1':cH K σ H0 F' H e (.l xs) (.ref l):=⟨l,us,rfl,g1,hl,g3,aI.mono s' g4,g5⟩
      obtain⟨F2,R2,s2,d2,f2⟩:=h1'.frozen R'
      exact⟨F2,R2,s'.trans s2,.cons d2 (aI.mono s2 d'),fun a ha hn=>f2 a (f' a ha hn) hn⟩
    | some o=>
      have:=R'.sm _ _ hl
      rw [g3] at this;cases this
      exact⟨F',R',s',.cons (eS.mpr ⟨l,us,rfl,.inl (.inl hl),aI.mono s' g4⟩) d',f'⟩
end
section
variable{X:Cx}{K:PySem.W.Frag}{a b c:Expr}{fa fb:FE}{ft fu:FT}{pos:Pos}{es:List Expr}{fs:FA}
def ae(i:Nat):FE:=fun e=>match e[i]? with
  | some (some (.d x))=>some (.d x,e)
  | some (some (.l _))=>some (.s i,e)
  | _=>none
def vC(x:PyData):FE:=fun e=>some (.d x,e)
theorem CL{i:Nat}{σ:L2.St}{H:Hp}{Q:VK}(h:fE K (ae i) σ H Q):rM i σ H Q:=by
  obtain⟨F,e,r,e',R,hf,q⟩:=h
  unfold ae at hf
  match h1:e[i]?,hf with
  | some (some (.d x)),hf=>
    cases hf
    obtain⟨v,h2,h3⟩:=R.dat i x h1
    exact⟨v,h2,q F H v (ez.refl _ _ _ _) R h3⟩
  | some (some (.n _)),hf=>cases hf
  | some (some (.l xs)),hf=>
    cases hf
    obtain⟨l,vs,h2,h3⟩:=R.own i xs h1
    exact⟨_,h2,q F H _ (ez.refl _ _ _ _) R ⟨h2,xs,h1⟩⟩
  | some none,hf=>cases hf
  | none,hf=>cases hf
theorem qv(i:Nat){x:Str}{pos:Pos}(hN:X.N[i]?=some x)(hv:Gi X.env.scope x)(hd:(x==("__debug__":Str))=false)(hcd:(x==("__classdict__":Str))=false):PE X (.Name x pos) (fE K (ae i)):=(jJ hN hv hd hcd).mono fun _ _ _ h=>CL h
theorem ud{x:PyData}{v:V}{σ:L2.St}{H:Hp}{Q:VK}(hx:∀F,DA K F x v)(h:fE K (vC x) σ H Q):tC v σ H Q:=by
  obtain⟨F,e,r,e',R,hf,q⟩:=h
  cases hf
  exact q F H v (ez.refl _ _ _ _) R (hx F)
theorem af{i j pos}:PE X (.Constant (.int i) j pos) (fE K (vC (.int i))):=ES.mono fun _ _ _ h=>ud (fun _=>cg.mpr rfl) h
theorem ig{b j pos}:PE X (.Constant (.bool b) j pos) (fE K (vC (.bool b))):=Hb.mono fun _ _ _ h=>ud (fun _=>cX.mpr rfl) h
theorem rE{j pos}:PE X (.Constant .none j pos) (fE K (vC .none)):=EU.mono fun _ _ _ h=>ud (fun _=>gh.mpr rfl) h
theorem oD{x j pos}:PE X (.Constant (.str x) j pos) (fE K (vC (.str x))):=EX.mono fun _ _ _ h=>ud (fun _=>l6.mpr rfl) h
theorem Ce{x:Str}{v:V}{u:Value}{pos:Pos}{y:PyData}(hg:Gl X x)(hm:X.mg x=some u)(r:a9 v u)(hy:∀F,DA K F y v)(hd:(x==("__debug__":Str))=false):PE X (.Name x pos) (fE K (vC y)):=(BW hg hm r hd).mono fun _ _ _ h=>ud hy h
def fV(K:PySem.W.Frag)(r:R2)(g:En→Rv→Rv→Option Rv):Prop:=
  ∀(σ:L2.St) (H0 F H:Hp) (e:En) (x y z:Rv) (v u:V) (Q:VK),a_ K F H σ e→cH K σ H0 F H e x v→cH K σ H0 F H e y u→g e x y=some z→
    (∀F' H' w,ez σ F H e F' H' e→a_ K F' H' σ e→cH K σ H F' H' e z w→Q w H')→r v u H Q
def au(g:En→Rv→Rv→Option Rv)(fa fb:FE):FE:=fun e=>(fa e).bind fun p=>(fb p.2).bind fun q=>(g q.2 p.1 q.1).map fun z=>(z,q.2)
theorem oU{r:R2}{g:En→Rv→Rv→Option Rv}(ho:fV K r g){σ:L2.St}{H:Hp}{Q:VK}(h:fE K (au g fa fb) σ H Q):HL r (fE K fa) (fE K fb) σ H Q:=by
  obtain⟨F,e,z,e2,R,hf,q⟩:=h
  unfold au at hf
  obtain⟨⟨x,e1⟩,h1,hf⟩:=L' hf
  obtain⟨⟨y,e2'⟩,h2,hf⟩:=L' hf
  obtain⟨z',h3,hf⟩:=Ma hf
  cases hf
  refine⟨F,e,x,e1,R,h1,fun F1 H1 v X1 R1 A1=>⟨F1,e1,y,_,R1,h2,fun F2 H2 u X2 R2 A2=>?_⟩⟩
  have X12:=X1.trans X2
  refine ho σ H F2 H2 _ x y _ v u Q R2 (A1.ext X2) (A2.weak X1.dom) h3 fun F3 H3 w X3 R3 A3=>?_
  exact q F3 H3 w (X12.trans X3) R3 (A3.weak X12.dom)
theorem p5{op:Operator}{r:R2}{g:En→Rv→Rv→Option Rv}(hr:fg X (binaryOp op) r)(ho:fV K r g)(ha:PE X a (fE K fa))(hb:PE X b (fE K fb)):PE X (.BinOp a op b pos) (fE K (au g fa fb)):=(Hd hr ha hb).mono fun _ _ _ h=>oU ho h
theorem Fm{op:CmpOp}{r:R2}{g:En→Rv→Rv→Option Rv}(hr:fg X (compareOp op) r)(ho:fV K r g)(ha:PE X a (fE K fa))(hb:PE X b (fE K fb))(hm:behindInMarks op b=false):PE X (.Compare a [op] [b] pos) (fE K (au g fa fb)):=(BS hr ha hb hm).mono fun _ _ _ h=>oU ho h
theorem Hk{r:R2}{g:En→Rv→Rv→Option Rv}(hr:A7 X r)(ho:fV K r g)(ha:PE X a (fE K fa))(hb:PE X b (fE K fb))(hs:qm b):PE X (.Subscript a b pos) (fE K (au g fa fb)):=(Hc hr ha hb hs).mono fun _ _ _ h=>oU ho h
def oW(g:En→Rv→Option Rv)(fa:FE):FE:=fun e=>(fa e).bind fun p=>(g p.2 p.1).map fun z=>(z,p.2)
def DR(K:PySem.W.Frag)(r:V→Hp→VK→Prop)(g:En→Rv→Option Rv):Prop:=
  ∀(σ:L2.St) (H0 F H:Hp) (e:En) (x z:Rv) (v:V) (Q:VK),a_ K F H σ e→cH K σ H0 F H e x v→g e x=some z→
    (∀F' H' w,ez σ F H e F' H' e→a_ K F' H' σ e→cH K σ H F' H' e z w→Q w H')→r v H Q
theorem vc{r:V→Hp→VK→Prop}{g:En→Rv→Option Rv}(ho:DR K r g){σ:L2.St}{H:Hp}{Q:VK}(h:fE K (oW g fa) σ H Q):Jv r (fE K fa) σ H Q:=by
  obtain⟨F,e,z,e2,R,hf,q⟩:=h
  unfold oW at hf
  obtain⟨⟨x,e1⟩,h1,hf⟩:=L' hf
  obtain⟨z',h3,hf⟩:=Ma hf
  cases hf
  refine⟨F,e,x,_,R,h1,fun F1 H1 v X1 R1 A1=>?_⟩
  refine ho σ H F1 H1 _ x _ v Q R1 A1 h3 fun F3 H3 w X3 R3 A3=>?_
  exact q F3 H3 w (X1.trans X3) R3 (A3.weak X1.dom)
theorem Hm{op:UnaryOp}{r:V→Hp→VK→Prop}{g:En→Rv→Option Rv}(hr:Ib X (unaryOp op) r)(ho:DR K r g)(ha:PE X a (fE K fa)):PE X (.UnaryOp op a pos) (fE K (oW g fa)):=(Hf hr ha).mono fun _ _ _ h=>vc ho h
def gJ:Rv→Option Bool
  | .d (.bool b)=>some b
  | _=>none
theorem dS{σ:L2.St}{H0 F H:Hp}{e:En}{r:Rv}{v:V}{b:Bool}(h:cH K σ H0 F H e r v)(q:gJ r=some b):v=.bl b:=by
  unfold gJ at q
  split at q
  · cases q;exact cX.mp (show DA K F (.bool _) v from h)
  · cases q
theorem du{σ:L2.St}{H0 F H:Hp}{e:En}{b:Bool}:cH K σ H0 F H e (.d (.bool b)) (.bl b):=(cX (K:=K) (F:=F)).mpr rfl
def aB(f:FE):FT:=fun e=>(f e).bind fun p=>(gJ p.1).map fun b=>(b,p.2)
theorem oV{σ:L2.St}{H:Hp}{Q:Bool→Hp→Prop}(h:fT K (aB fa) σ H Q):fE K fa σ H fun x H'=>∃k,x=.bl k∧Q k H':=by
  obtain⟨F,e,b,e1,R,hf,q⟩:=h
  unfold aB at hf
  obtain⟨⟨x,e1'⟩,h1,hf⟩:=L' hf
  obtain⟨b',h3,hf⟩:=Ma hf
  cases hf
  exact⟨F,e,x,_,R,h1,fun F1 H1 v X1 R1 A1=>⟨_,dS A1 h3,q F1 H1 X1 R1⟩⟩
theorem Fs{op:CmpOp}{r:R2}{g:En→Rv→Rv→Option Rv}(hr:fg X (compareOp op) r)(ho:fV K r g)(ha:PE X a (fE K fa))(hb:PE X b (fE K fb))(hm:behindInMarks op b=false):PT X (.Compare a [op] [b] pos) (fT K (aB (au g fa fb))):=
  (B8 hr ha hb hm).mono fun σ H Q h=>by
    obtain⟨F,e,z,e2,R,hf,q⟩:=oV h
    exact oU ho ⟨F,e,z,e2,R,hf,q⟩
theorem dB{e:Expr}(h:PE X e (fE K fa))(he:∀whole,isTrue e X.env whole=(do let v ←whole;standAt e.pos;holding [v] (truthy v))):PT X e (fT K (aB fa)):=(Fd h he).mono fun _ _ _ h=>oV h
def xM(f g:FT):FT:=fun e=>(f e).bind fun p=>if p.1=true then g p.2 else some (false,p.2)
def oY(f g:FT):FT:=fun e=>(f e).bind fun p=>if p.1=true then some (true,p.2) else g p.2
def iS(f:FT):FT:=fun e=>(f e).map fun p=>(!p.1,p.2)
theorem CJ{σ:L2.St}{H:Hp}{Q:Bool→Hp→Prop}(h:fT K (xM ft fu) σ H Q):HE (fT K ft) (fT K fu) σ H Q:=by
  obtain⟨F,e,b,e1,R,hf,q⟩:=h
  unfold xM at hf
  obtain⟨⟨x,e1'⟩,h1,hf⟩:=L' hf
  refine⟨F,e,x,e1',R,h1,fun F1 H1 X1 R1=>?_⟩
  cases x with
  | true=>exact⟨F1,e1',b,e1,R1,hf,fun F2 H2 X2 R2=>q F2 H2 (X1.trans X2) R2⟩
  | false=>cases hf;exact q F1 H1 X1 R1
theorem Gc{σ:L2.St}{H:Hp}{Q:Bool→Hp→Prop}(h:fT K (oY ft fu) σ H Q):Jt (fT K ft) (fT K fu) σ H Q:=by
  obtain⟨F,e,b,e1,R,hf,q⟩:=h
  unfold oY at hf
  obtain⟨⟨x,e1'⟩,h1,hf⟩:=L' hf
  refine⟨F,e,x,e1',R,h1,fun F1 H1 X1 R1=>?_⟩
  cases x with
  | false=>exact⟨F1,e1',b,e1,R1,hf,fun F2 H2 X2 R2=>q F2 H2 (X1.trans X2) R2⟩
  | true=>cases hf;exact q F1 H1 X1 R1
theorem CK{σ:L2.St}{H:Hp}{Q:Bool→Hp→Prop}(h:fT K (iS ft) σ H Q):HJ (fT K ft) σ H Q:=by
  obtain⟨F,e,b,e1,R,hf,q⟩:=h
  unfold iS at hf
  obtain⟨⟨x,e1'⟩,h1,hf⟩:=Ma hf
  cases hf
  exact⟨F,e,x,_,R,h1,fun F1 H1 X1 R1=>q F1 H1 X1 R1⟩
variable{eY:List Expr}
theorem Ck(ha:PT X a (fT K ft)):PW X (.BoolOp .And [a] pos) (fT K ft):=Cb ha
theorem iy(ha:PT X a (fT K ft)):PW X (.BoolOp .Or [a] pos) (fT K ft):=Ff ha
theorem Ft(ha:PT X a (fT K ft))(hb:PW X (.BoolOp .And (b::eY) pos) (fT K fu)):PW X (.BoolOp .And (a::b::eY) pos) (fT K (xM ft fu)):=(Fe ha hb).mono fun _ _ _ h=>CJ h
theorem fQ(ha:PT X a (fT K ft))(hb:PW X (.BoolOp .Or (b::eY) pos) (fT K fu)):PW X (.BoolOp .Or (a::b::eY) pos) (fT K (oY ft fu)):=(Hi ha hb).mono fun _ _ _ h=>Gc h
theorem dP(ha:PT X a (fT K ft)):PT X (.UnaryOp .Not a pos) (fT K (iS ft)):=(Fc ha).mono fun _ _ _ h=>CK h
theorem oF{e:Expr}(h:PW X e (fT K ft)):PT X e (fT K ft):=h.pt
def mX(f g:FE):FE:=fun e=>(f e).bind fun p=>(gJ p.1).bind fun b=>if b=true then g p.2 else some (.d (.bool false),p.2)
def HU(f g:FE):FE:=fun e=>(f e).bind fun p=>(gJ p.1).bind fun b=>if b=true then some (.d (.bool true),p.2) else g p.2
def uh(f:FE):FE:=fun e=>(f e).bind fun p=>(gJ p.1).map fun b=>(.d (.bool (!b)),p.2)
theorem rD(ha:PE X a (fE K fa))(hb:PE X (.BoolOp .And (b::eY) pos) (fE K fb)):PE X (.BoolOp .And (a::b::eY) pos) (fE K (mX fa fb)):=(EQ ha hb).mono fun σ H Q h=>by
  obtain⟨F,e,z,e2,R,hf,q⟩:=h
  unfold mX at hf
  obtain⟨⟨x,e1⟩,h1,hf⟩:=L' hf
  obtain⟨b,h2,hf⟩:=L' hf
  refine⟨F,e,x,e1,R,h1,fun F1 H1 v X1 R1 A1=>⟨b,dS A1 h2,?_⟩⟩
  cases b with
  | true=>exact⟨F1,e1,z,e2,R1,hf,fun F2 H2 w X2 R2 A2=>q F2 H2 w (X1.trans X2) R2 (A2.weak X1.dom)⟩
  | false=>cases hf;exact q F1 H1 _ X1 R1 du
theorem rF{op}(h:PE X a (fE K fa)):PE X (.BoolOp op [a] pos) (fE K fa):=EW h
theorem Fn(ha:PE X a (fE K fa)):PE X (.UnaryOp .Not a pos) (fE K (uh fa)):=(EV ha).mono fun σ H Q h=>by
  obtain⟨F,e,z,e2,R,hf,q⟩:=h
  unfold uh at hf
  obtain⟨⟨x,e1⟩,h1,hf⟩:=L' hf
  obtain⟨b,h2,hf⟩:=Ma hf
  cases hf
  exact⟨F,e,x,_,R,h1,fun F1 H1 v X1 R1 A1=>⟨b,dS A1 h2,q F1 H1 _ X1 R1 du⟩⟩
def Jw(t:FT)(f g:FE):FE:=fun e=>(t e).bind fun p=>if p.1=true then f p.2 else g p.2
def ff(g g':En→Rv→Rv→Option Rv)(fa fb fc:FE):FE:=fun e=>(fa e).bind fun p=>(fb p.2).bind fun q=>(g q.2 p.1 q.1).bind fun z=>(gJ z).bind fun k=>if k=true then(fc q.2).bind fun w=>(g' w.2 q.1 w.1).map fun z'=>(z',w.2) else some (.d (.bool false),q.2)
theorem qh{r r':R2}{g g':En→Rv→Rv→Option Rv}{fc:FE}(ho:fV K r g)(ho':fV K r' g'){σ:L2.St}{H:Hp}{Q:VK}(h:fE K (ff g g' fa fb fc) σ H Q):uW r r' (fE K fa) (fE K fb) (fE K fc) σ H Q:=by
  obtain⟨F,e,z,e4,R,hf,q⟩:=h
  unfold ff at hf
  obtain⟨⟨x,e1⟩,h1,hf⟩:=L' hf
  obtain⟨⟨y,e2⟩,h2,hf⟩:=L' hf
  obtain⟨z',h3,hf⟩:=L' hf
  obtain⟨k,h4,hf⟩:=L' hf
  refine⟨F,e,x,e1,R,h1,fun F1 H1 v X1 R1 A1=>⟨F1,e1,y,e2,R1,h2,fun F2 H2 u X2 R2 A2=>?_⟩⟩
  have X12:=X1.trans X2
  refine ho σ H F2 H2 e2 x y z' v u _ R2 (A1.ext X2) (A2.weak X1.dom) h3 fun F3 H3 w X3 R3 A3=>⟨k,dS A3 h4,?_⟩
  have X13:=X12.trans X3
  cases k with
  | false=>
    cases hf
    exact q F3 H3 _ X13 R3 du
  | true=>
    obtain⟨⟨w',e3⟩,h5,hf⟩:=L' hf
    obtain⟨z2,h6,hf⟩:=Ma hf
    cases hf
    refine⟨F3,_,w',_,R3,h5,fun F4 H4 u4 X4 R4 A4=>?_⟩
    have X14:=X13.trans X4
    refine ho' σ H F4 H4 _ y w' _ u u4 Q R4 (((A2.weak X1.dom).ext X3).ext X4) (A4.weak X13.dom) h6 fun F5 H5 w5 X5 R5 A5=>?_
    exact q F5 H5 w5 (X14.trans X5) R5 (A5.weak X14.dom)
theorem zW{op op':CmpOp}{r r':R2}{g g':En→Rv→Rv→Option Rv}{fc:FE}(hr:fg X (compareOp op) r)(ho:fV K r g)(hr':fg X (compareOp op') r')(ho':fV K r' g')(ha:PE X a (fE K fa))(hb:PE X b (fE K fb))(hc:PE X c (fE K fc))
    (hm:lastMarks [op,op'] [b,c]=false):PE X (.Compare a [op,op'] [b,c] pos) (fE K (ff g g' fa fb fc)):=(zw hr hr' ha hb hc hm).mono fun _ _ _ h=>qh ho ho' h
theorem z_{op op':CmpOp}{r r':R2}{g g':En→Rv→Rv→Option Rv}{fc:FE}(hr:fg X (compareOp op) r)(ho:fV K r g)(hr':fg X (compareOp op') r')(ho':fV K r' g')(ha:PE X a (fE K fa))(hb:PE X b (fE K fb))(hc:PE X c (fE K fc))
    (hm:lastMarks [op,op'] [b,c]=false):PT X (.Compare a [op,op'] [b,c] pos) (fT K (aB (ff g g' fa fb fc))):=(zO hr hr' ha hb hc hm).mono fun σ H Q h=>by
  obtain⟨F,e,z,e2,R,hf,q⟩:=oV h
  exact qh ho ho' ⟨F,e,z,e2,R,hf,q⟩
def ai:FA:=fun e=>some ([],e)
def ab(fa:FE)(fs:FA):FA:=fun e=>(fa e).bind fun p=>(fs p.2).map fun q=>(p.1::q.1,q.2)
theorem ac:PA X [] (fA K ai):=mj.mono fun σ H Q h=>by
  obtain⟨F,e,r,e',R,hf,q⟩:=h
  cases hf
  exact q F H [] (ez.refl _ _ _ _) R rfl
theorem IT(ha:PE X a (fE K fa))(hr:PA X es (fA K fs))(h:PySem.W.isStarred a=false):PA X (a::es) (fA K (ab fa fs)):=(G_ ha hr h).mono fun σ H Q h=>by
  obtain⟨F,e,z,e2,R,hf,q⟩:=h
  unfold ab at hf
  obtain⟨⟨x,e1⟩,h1,hf⟩:=L' hf
  obtain⟨⟨xs,e2'⟩,h2,hf⟩:=Ma hf
  cases hf
  refine⟨F,e,x,e1,R,h1,fun F1 H1 v X1 R1 A1=>⟨F1,e1,xs,_,R1,h2,fun F2 H2 vs X2 R2 A2=>?_⟩⟩
  exact q F2 H2 (v::vs) (X1.trans X2) R2 ⟨v,vs,rfl,A1.ext X2,A2.weak X1.dom⟩
def dy(fs:FA):FE:=fun e=>(fs e).bind fun p=>(kZ p.1).bind fun ds=>if ds.length≤1000 then some (.d (.tuple ds),p.2) else none
def eO(fs:FA):FE:=fun e=>(fs e).bind fun p=>(kZ p.1).bind fun ds=>if ds.length≤1000 then some (.l ds,p.2) else none
theorem ba{x1}(h:PA X es (fA K fs)):PE X (.Tuple es x1 pos) (fE K (dy fs)):=(EY h).mono fun σ H Q h=>by
  obtain⟨F,e,z,e2,R,hf,q⟩:=h
  unfold dy at hf
  obtain⟨⟨rs,e1⟩,h1,hf⟩:=L' hf
  obtain⟨ds,h2,hf⟩:=L' hf
  split at hf
  case isFalse=>cases hf
  case isTrue hl=>
  cases hf
  refine⟨F,e,rs,_,R,h1,fun F1 H1 vs X1 R1 A1=>?_⟩
  obtain⟨F2,R2,s2,d2,f2⟩:=dR.frozen R1 A1 h2
  have hlen:=d2.len
  refine⟨Nat.le_of_lt (qa (by lia)),fun p hp=>?_⟩
  obtain⟨R3,X3⟩:=R2.newT (vs:=vs) hp
  exact q _ _ _ ((X1.frz s2 f2).trans X3) R3 (cU.mpr ⟨p,vs,rfl,.inl (.inl aA),aI.mono X3.sf d2⟩)
theorem bL(h:PA X es (fA K fs)):PE X (.List es pos) (fE K (eO fs)):=(ET h).mono fun σ H Q h=>by
  obtain⟨F,e,z,e2,R,hf,q⟩:=h
  unfold eO at hf
  obtain⟨⟨rs,e1⟩,h1,hf⟩:=L' hf
  obtain⟨ds,h2,hf⟩:=L' hf
  split at hf
  case isFalse=>cases hf
  case isTrue hl=>
  cases hf
  refine⟨F,e,rs,_,R,h1,fun F1 H1 vs X1 R1 A1=>?_⟩
  obtain⟨F2,R2,s2,d2,f2⟩:=dR.frozen R1 A1 h2
  have hlen:=d2.len
  refine⟨Nat.le_of_lt (qa (by lia)),fun p hp=>?_⟩
  obtain⟨R3,X3,hF,no⟩:=R2.newL (vs:=vs) hp
  exact q _ _ _ ((X1.frz s2 f2).trans X3) R3 ⟨p,vs,rfl,X1.dom p hp,hF,aA,d2,no⟩
def eC(K:PySem.W.Frag)(r:List V→Hp→VK→Prop)(g:En→List Rv→Option Rv):Prop:=
  ∀(σ:L2.St) (H0 F H:Hp) (e:En) (xs:List Rv) (z:Rv) (vs:List V) (Q:VK),a_ K F H σ e→dR K σ H0 F H e xs vs→g e xs=some z→
    (∀F' H' w,ez σ F H e F' H' e→a_ K F' H' σ e→cH K σ H F' H' e z w→Q w H')→r vs H Q
def aO(g:En→List Rv→Option Rv)(fs:FA):FE:=fun e=>(fs e).bind fun p=>(g p.2 p.1).map fun z=>(z,p.2)
theorem ue{r:List V→Hp→VK→Prop}{g:En→List Rv→Option Rv}(ho:eC K r g){σ:L2.St}{H:Hp}{Q:VK}(h:fE K (aO g fs) σ H Q):IZ r (fA K fs) σ H Q:=by
  obtain⟨F,e,z,e2,R,hf,q⟩:=h
  unfold aO at hf
  obtain⟨⟨x,e1⟩,h1,hf⟩:=L' hf
  obtain⟨z',h3,hf⟩:=Ma hf
  cases hf
  refine⟨F,e,x,_,R,h1,fun F1 H1 vs X1 R1 A1=>?_⟩
  refine ho σ H F1 H1 _ x _ vs Q R1 A1 h3 fun F3 H3 w X3 R3 A3=>?_
  exact q F3 H3 w (X1.trans X3) R3 (A3.weak X1.dom)
theorem zV{x:Str}{p pos:Pos}{id:String}{r:List V→Hp→VK→Prop}{g:En→List Rv→Option Rv}(hc:dQ X (.builtin id) r)(ho:eC K r g)(hg:Gl X x)(hm:X.mg x=none)(hv:bootBuiltins x=some (.builtin id))(ha:PA X (a::es) (fA K fs))(hn:x≠"__name__")(hdb:(x==("__debug__":Str))=false)
    (he:starEach (a::es) X.env=(false,eval a X.env)::starEach es X.env)(hpl:(backTo pos (starEach es X.env)).any (·.1)=false):PE X (.Call (.Name x p) (a::es) [] pos) (fE K (aO g fs)):=(oz hc hg hm hv ha hn hdb he hpl).mono fun _ _ _ h=>ue ho h
theorem xr{x:Str}{p pos:Pos}{T:String}{r:List V→Hp→VK→Prop}{g:En→List Rv→Option Rv}(hc:dQ X (.type T) r)(ho:eC K r g)(hg:Gl X x)(hm:X.mg x=none)(hv:bootBuiltins x=some (.type T))(ha:PA X (a::es) (fA K fs))(hn:x≠"__name__")(hdb:(x==("__debug__":Str))=false)
    (he:starEach (a::es) X.env=(false,eval a X.env)::starEach es X.env)(hpl:(backTo pos (starEach es X.env)).any (·.1)=false):PE X (.Call (.Name x p) (a::es) [] pos) (fE K (aO g fs)):=(pY hc hg hm hv ha hn hdb he hpl).mono fun _ _ _ h=>ue ho h
end
mutual
theorem DA.reads{X:Cx}{pins:List (Addr × Obj)}{σ:L2.St}{H:Hp}{s:Shared}(I:ax X pins σ H s):∀{d:PyData} {v:V} {u:Value},d.canLay0=true→DA X.K H d v→a9 v u→∃as,Reads s.heap u d as
  | .none,_,_,_,q,r=>by
    simp only [DA] at q;subst q;cases r;exact⟨_,.none⟩
  | .bool b,_,_,_,q,r=>by
    simp only [DA] at q;subst q;cases r;exact⟨_,.bool b⟩
  | .int i,_,_,_,q,r=>by
    simp only [DA] at q;subst q;obtain⟨t,rfl⟩:=r;exact⟨_,.int i t⟩
  | .str x,_,_,_,q,r=>by
    simp only [DA] at q;subst q;obtain⟨t,rfl⟩:=r;exact⟨_,.str x t⟩
  | .tuple ds,_,_,c,q,r=>by
    simp only [DA] at q
    obtain⟨a,xs,e,hs,rr⟩:=q
    subst e;cases r
    obtain⟨its,rv,⟨o,ho,hc,n,hd⟩,hz⟩:=I.tuple hs
    obtain⟨as,q⟩:=aI.reads I (by simpa [PyData.canLay0] using c) rr rv
    exact⟨_,.tuple ho hc hd q⟩
  | .list ds,_,_,c,q,r=>by
    simp only [DA] at q
    obtain⟨a,xs,e,hs,rr⟩:=q
    subst e;cases r
    obtain⟨its,rv,ht,hz⟩:=I.list hs
    obtain⟨o,ho,hc,n,hd⟩:=ht.isList
    obtain⟨as,q⟩:=aI.reads I (by simpa [PyData.canLay0] using c) rr rv
    exact⟨_,.list ho hc hd q⟩
  | .dict _,_,_,c,_,_=>by simp [PyData.canLay0] at c
theorem aI.reads{X:Cx}{pins:List (Addr × Obj)}{σ:L2.St}{H:Hp}{s:Shared}(I:ax X pins σ H s):∀{ds:List PyData} {xs:List V} {us:List Value},PyData.canLayAll0 ds=true→aI X.K H ds xs→aJ xs us→∃as,ReadsAll s.heap us ds as
  | [],_,_,_,q,r=>by
    simp only [aI] at q;subst q;cases r;exact⟨_,.nil⟩
  | d::ds,_,_,c,q,r=>by
    simp only [aI] at q
    simp only [PyData.canLayAll0,Bool.and_eq_true] at c
    obtain⟨x,rr,e,a,b⟩:=q
    subst e
    cases r with
    | cons p p'=>
      obtain⟨as,q1⟩:=DA.reads I c.1 a p
      obtain⟨bs,q2⟩:=aI.reads I c.2 b p'
      exact⟨_,.cons q1 q2⟩
end
def iH(e:En):Rv→Option PyData
  | .d x=>some x
  | .l xs=>some (.list xs)
  | .s i=>match e[i]? with
    | some (some (.l xs))=>some (.list xs)
    | _=>none
theorem js{K:PySem.W.Frag}{σ:L2.St}{H0 F H:Hp}{e:En}{r:Rv}{v:V}{d:PyData}(R:a_ K F H σ e)(h:cH K σ H0 F H e r v)(q:iH e r=some d):DA K H d v:=by
  cases r with
  | d x=>cases q;exact DA.mono R.sm h
  | l xs=>
    cases q
    obtain⟨l,vs,rfl,h1,h2,h3,h4,_⟩:=h
    exact eS.mpr ⟨l,vs,rfl,.inl (.inl h3),aI.mono R.sm h4⟩
  | s i=>
    obtain⟨h1,ys,h2⟩:=h
    simp only [iH,h2] at q
    cases q
    obtain⟨l,vs,e1,e2,e3,e4⟩:=R.own i _ h2
    rw [h1] at e1;cases e1
    exact eS.mpr ⟨l,vs,rfl,.inl (.inl e3),aI.mono R.sm e4⟩
section
variable{X:Cx}{K:PySem.W.Frag}
def cv:Rv→Option Int
  | .d (.int i)=>some i
  | _=>none
theorem cj{σ:L2.St}{H0 F H:Hp}{e:En}{r:Rv}{v:V}{i:Int}(h:cH K σ H0 F H e r v)(q:cv r=some i):v=.int i:=by
  unfold cv at q
  split at q
  · cases q;exact cg.mp (show DA K F (.int _) v from h)
  · cases q
theorem kN{σ:L2.St}{H0 F H:Hp}{e:En}{i:Int}:cH K σ H0 F H e (.d (.int i)) (.int i):=(cg (K:=K) (F:=F)).mpr rfl
def gI(C:Int→Int→Bool)(f:Int→Int→PyData):En→Rv→Rv→Option Rv:=fun _ x y=>(cv x).bind fun i=>(cv y).bind fun j=>if C i j=true then some (.d (f i j)) else none
theorem tj{C:Int→Int→Prop}{c:Int→Int→Bool}{g:Int→Int→V}{f:Int→Int→PyData}(hc:∀i j,c i j=true→C i j)(hf:∀F i j,DA K F (f i j) (g i j)):fV K (rI C g) (gI c f):=by
  intro σ H0 F H e x y z v u Q R A B hg q
  unfold gI at hg
  obtain⟨i,h1,hg⟩:=L' hg
  obtain⟨j,h2,hg⟩:=L' hg
  split at hg
  case isFalse=>cases hg
  case isTrue hh=>
  cases hg
  exact⟨i,j,cj A h1,cj B h2,hc i j hh,q F H _ (ez.refl _ _ _ _) R (hf F i j)⟩
theorem jI{g:Int→Int→V}{f:Int→Int→PyData}(hf:∀F i j,DA K F (f i j) (g i j)):fV K (uR g) (gI (fun _ _=>true) f):=by
  intro σ H0 F H e x y z v u Q R A B hg q
  obtain⟨i,j,h1,h2,h3,h4⟩:=tj (K:=K) (C:=fun _ _=>True) (c:=fun _ _=>true) (g:=g) (f:=f) (fun _ _ _=>trivial) hf σ H0 F H e x y z v u Q R A B hg q
  exact⟨i,j,h1,h2,h4⟩
def xU(g g':En→Rv→Rv→Option Rv):En→Rv→Rv→Option Rv:=fun e x y=>(g e x y).or (g' e x y)
theorem fV.or{r r':R2}{g g':En→Rv→Rv→Option Rv}(h:fV K r g)(h':fV K r' g'):fV K (fun x y H Q=>r x y H Q∨r' x y H Q) (xU g g'):=by
  intro σ H0 F H e x y z v u Q R A B hg q
  unfold xU at hg
  cases e1:g e x y with
  | some w=>
    rw [e1] at hg
    cases hg
    exact .inl (h σ H0 F H e x y _ v u Q R A B e1 q)
  | none=>
    rw [e1] at hg
    exact .inr (h' σ H0 F H e x y _ v u Q R A B hg q)
def yv:=gI (fun _ _=>true) fun i j=>.int (i+j)
def eT:=gI (fun _ _=>true) fun i j=>.int (i - j)
def jc(i:Int):Bool:=decide (-(2 ^ 64) < i)&&decide (i < 2 ^ 64)
def GG(n:Nat)(i:Int):Bool:=decide (i.natAbs < 2 ^ n)
theorem kT{n:Nat}{i:Int}:GG n i=true↔ Bt n i:=by unfold GG Bt;exact decide_eq_true_iff
def mf(i j:Int):Bool:=jc i || jc j || (GG 4000 i&&GG 4000 j)
def sJ:=gI mf fun i j=>.int (i*j)
def fM:=gI (fun _ j=>j != 0&&GG 8000 j) fun i j=>.int (i.fdiv j)
def aQ:=gI (fun _ j=>j != 0) fun i j=>.int (i.fmod j)
def zI(i j:Int):Bool:=decide (0≤j)&&decide (j≤1000000)&&jc i
def uC:=gI zI fun i j=>.int (i ^ j.toNat)
theorem kP{i:Int}(h:jc i=true): -(2 ^ 64) < i∧i < 2 ^ 64:=by
  unfold jc at h
  rw [Bool.and_eq_true,decide_eq_true_iff,decide_eq_true_iff] at h
  exact h
theorem B5{i j:Int}(h:zI i j=true):DF i j:=by
  unfold zI at h
  rw [Bool.and_eq_true,Bool.and_eq_true,decide_eq_true_iff,decide_eq_true_iff] at h
  have:=kP h.2
  exact⟨h.1.1,h.1.2,by lia⟩
def vh(i j:Int):Prop:=A0 i j∨CS i j
theorem BN:fg X (binaryOp .Mult) (rI vh fun i j=>.int (i*j)):=by
  intro pins s σ H x y v u Q I rx ry h
  obtain⟨i,j,e1,e2,h1,q⟩:=h
  rcases h1 with h1 | h1
  · exact EJ pins s σ H x y v u Q I rx ry ⟨i,j,e1,e2,h1,q⟩
  · exact BO pins s σ H x y v u Q I rx ry ⟨i,j,e1,e2,h1,q⟩
theorem BD{i j:Int}(h:mf i j=true):vh i j:=by
  unfold mf at h
  rw [Bool.or_eq_true,Bool.or_eq_true,Bool.and_eq_true] at h
  rcases h with (h | h) | h
  · exact .inl (.inl (kP h))
  · exact .inl (.inr (kP h))
  · exact .inr ⟨kT.mp h.1,kT.mp h.2⟩
theorem Er:fV K (rI vh fun i j=>.int (i*j)) sJ:=tj (fun _ _ h=>BD h) fun _ _ _=>cg.mpr rfl
theorem HD:fV K (uR fun i j=>.int (i - j)) eT:=jI fun _ _ _=>cg.mpr rfl
theorem D4:fV K (rI CQ fun i j=>.int (i.fdiv j)) fM:=tj (fun i j h=>by
  rw [Bool.and_eq_true] at h
  exact⟨by simpa using h.1,kT.mp h.2⟩) fun _ _ _=>cg.mpr rfl
theorem G0:fV K (rI (fun _ j=>j≠0) fun i j=>.int (i.fmod j)) aQ:=tj (fun i j h=>by simpa using h) fun _ _ _=>cg.mpr rfl
theorem Hh:fV K (rI DF fun i j=>.int (i ^ j.toNat)) uC:=tj (fun _ _ h=>B5 h) fun _ _ _=>cg.mpr rfl
def sC:En→Rv→Rv→Option Rv:=fun e x y=>match dc e x,dc e y with
  | some (false,xs),some (false,ys)=>if xs.length+ys.length≤1000000 then some (.d (.tuple (xs++ys))) else none
  | _,_=>none
theorem DY:fV K (Ab K) sC:=by
  intro σ H0 F H e x y z v u Q R A B hg q
  unfold sC at hg
  match h1:dc e x,h2:dc e y,hg with
  | some (false,xs),some (false,ys),hg=>
    obtain⟨p,vs,rfl,d1,s1⟩:=bV R A h1
    obtain⟨p',us,rfl,d2,s2⟩:=bV R B h2
    dsimp only at hg
    split at hg
    case isFalse=>cases hg
    case isTrue hl=>
    cases hg
    have l1:=d1.len
    have l2:=d2.len
    have sl:sizeLine=16777216:=sizeLine_eq
    refine⟨p,p',vs,us,rfl,rfl,s1,s2,by lia,fun t H' sm hT=>?_⟩
    obtain⟨F',R',X',hF⟩:=R.growT sm hT
    exact q F' H' _ X' R' (cU.mpr ⟨t,_,rfl,hF,(d1.append d2).mono X'.sf⟩)
def xa(e:En):Rv→Option (List PyData)
  | .l xs=>some xs
  | .s i=>match e[i]? with
    | some (some (.l xs))=>some xs
    | _=>none
  | _=>none
theorem qY{σ:L2.St}{H0 F H:Hp}{e:En}{r:Rv}{v:V}(R:a_ K F H σ e)(h:cH K σ H0 F H e r v){xs:List PyData}(q:xa e r=some xs):∃p vs,v=.ref p∧F p=none∧H p=some (.lst vs)∧aI K F xs vs:=by
  cases r with
  | d x=>cases q
  | l ys=>
    cases q
    obtain⟨l,vs,e1,h1,h2,h3,h4,_⟩:=h
    exact⟨l,vs,e1,h2,h3,h4⟩
  | s i=>
    obtain⟨h1,ys,h2⟩:=h
    simp only [xa,h2] at q
    cases q
    obtain⟨l,vs,e1,e2,e3,e4⟩:=R.own i _ h2
    rw [h1] at e1;cases e1
    exact⟨l,vs,rfl,e2,e3,e4⟩
def vE:En→Rv→Rv→Option Rv:=fun e x y=>(xa e x).bind fun xs=>(xa e y).bind fun ys=>if xs.length+ys.length≤1000000 then some (.l (xs++ys)) else none
theorem DX:fV K Fu vE:=by
  intro σ H0 F H e x y z v u Q R A B hg q
  unfold vE at hg
  obtain⟨xs,h1,hg⟩:=L' hg
  obtain⟨ys,h2,hg⟩:=L' hg
  split at hg
  case isFalse=>cases hg
  case isTrue hl=>
  cases hg
  obtain⟨p,vs,rfl,f1,s1,d1⟩:=qY R A h1
  obtain⟨p',us,rfl,f2,s2,d2⟩:=qY R B h2
  have l1:=d1.len
  have l2:=d2.len
  have sl:sizeLine=16777216:=sizeLine_eq
  refine⟨p,p',vs,us,rfl,rfl,s1,s2,by lia,fun t ht=>?_⟩
  obtain⟨R3,X3,hF,no⟩:=R.newL (vs:=vs++us) ht
  exact q _ _ _ X3 R3 ⟨t,_,rfl,ht,hF,aA,d1.append d2,no⟩
def bN:En→Rv→Rv→Option Rv:=xU yv (xU sC vE)
def Dv(K:PySem.W.Frag):R2:=fun x y H Q=>uR (fun i j=>.int (i+j)) x y H Q∨(Ab K x y H Q∨Fu x y H Q)
theorem BI:fg X (binaryOp .Add) (Dv X.K):=EA.or (BJ.or EB)
theorem GA:fV K (Dv K) bN:=fV.or (jI fun _ _ _=>cg.mpr rfl) (fV.or DY DX)
def sM:En→Rv→Rv→Option Rv:=fun e x y=>match dc e x,cv y with
  | some (false,[d]),some k=>if 0≤k∧k≤100000 then some (.d (.tuple (List.replicate k.toNat d))) else none
  | _,_=>none
theorem aI.rep{F:Hp}{d:PyData}{v:V}(h:DA K F d v):∀n,aI K F (List.replicate n d) (List.replicate n v)
  | 0=>aI.nil
  | n+1=>aI.cons h (aI.rep h n)
theorem FB:fV K (Ad K) sM:=by
  intro σ H0 F H e x y z v u Q R A B hg q
  unfold sM at hg
  match h1:dc e x,h2:cv y,hg with
  | some (false,[d]),some k,hg=>
    obtain⟨p,vs,rfl,d1,s1⟩:=bV R A h1
    dsimp only at hg
    split at hg
    case isFalse=>cases hg
    case isTrue hl=>
    cases hg
    have hd:=d1
    simp only [aI] at hd
    obtain⟨w,r,e1,hw,e2⟩:=hd
    subst e2 e1
    refine⟨p,k,w,rfl,cj B h2,s1,hl.1,hl.2,fun t H' sm hT=>?_⟩
    obtain⟨F',R',X',hF⟩:=R.growT sm hT
    exact q F' H' _ X' R' (cU.mpr ⟨t,_,rfl,hF,(aI.rep hw _).mono X'.sf⟩)
def yG:En→Rv→Rv→Option Rv:=fun e x y=>(xa e x).bind fun xs=>(cv y).bind fun k=>if -100000≤k∧k≤100000∧xs.length*k.toNat≤1000000 then some (.l (List.replicate k.toNat xs).flatten) else none
theorem aI.reps{F:Hp}{ds:List PyData}{vs:List V}(h:aI K F ds vs):∀n,aI K F (List.replicate n ds).flatten (List.replicate n vs).flatten
  | 0=>aI.nil
  | n+1=>by simpa [List.replicate_succ] using aI.append h (aI.reps h n)
theorem Fz:fV K Fy yG:=by
  intro σ H0 F H e x y z v u Q R A B hg q
  unfold yG at hg
  obtain⟨xs,h1,hg⟩:=L' hg
  obtain⟨k,h2,hg⟩:=L' hg
  split at hg
  case isFalse=>cases hg
  case isTrue hl=>
  cases hg
  obtain⟨p,vs,rfl,f1,s1,d1⟩:=qY R A h1
  have l1:=d1.len
  have sl:sizeLine=16777216:=sizeLine_eq
  refine⟨p,k,vs,rfl,cj B h2,s1,by lia,by lia,by rw [←l1];lia,fun t ht=>?_⟩
  obtain⟨R3,X3,hF,no⟩:=R.newL (vs:=(List.replicate k.toNat vs).flatten) ht
  exact q _ _ _ X3 R3 ⟨t,_,rfl,ht,hF,aA,aI.reps d1 _,no⟩
def jy:En→Rv→Rv→Option Rv:=xU sJ (xU sM yG)
def Dw(K:PySem.W.Frag):R2:=fun x y H Q=>rI vh (fun i j=>.int (i*j)) x y H Q∨(Ad K x y H Q∨Fy x y H Q)
theorem BM:fg X (binaryOp .Mult) (Dw X.K):=BN.or (BQ.or EN)
theorem G1:fV K (Dw K) jy:=fV.or Er (fV.or FB Fz)
def yD:=gI (fun _ _=>true) fun i j=>.bool (decide (i < j))
def Gj:=gI (fun _ _=>true) fun i j=>.bool (decide (i≤j))
def D6:=gI (fun _ _=>true) fun i j=>.bool (decide (j < i))
def GM:=gI (fun _ _=>true) fun i j=>.bool (decide (j≤i))
theorem IQ:fV K (uR fun i j=>.bl (decide (i < j))) yD:=jI fun _ _ _=>cX.mpr rfl
theorem IP:fV K (uR fun i j=>.bl (decide (i≤j))) Gj:=jI fun _ _ _=>cX.mpr rfl
theorem IG:fV K (uR fun i j=>.bl (decide (j < i))) D6:=jI fun _ _ _=>cX.mpr rfl
theorem IF:fV K (uR fun i j=>.bl (decide (j≤i))) GM:=jI fun _ _ _=>cX.mpr rfl
def Fv(K:PySem.W.Frag)(neg:Bool):R2:=fun x y H Q=>∃a b,DA K H a x∧DA K H b y∧SeqAt.shaped a=true∧SeqAt.shaped b=true∧Q (.bl (if neg then !PyData.eqv a b else PyData.eqv a b)) H
theorem EC{k:Nat}(hr:cf k X.A):fg X (compareOp .Eq) (Fv X.K false):=by
  intro pins s σ H x y v u Q I rx ry h
  obtain⟨a,b,ha,hb,s1,s2,q⟩:=h
  obtain⟨as,ra⟩:=DA.reads I (SeqAt.canLay_of_shaped s1) ha rx
  obtain⟨bs,rb⟩:=DA.reads I (SeqAt.canLay_of_shaped s2) hb ry
  exact SeqAt.compareEq_shaped ra rb s1 s2 hr.units ⟨.bl _,H,I,rfl,q⟩
theorem EK{k:Nat}(hr:cf k X.A):fg X (compareOp .NotEq) (Fv X.K true):=by
  intro pins s σ H x y v u Q I rx ry h
  obtain⟨a,b,ha,hb,s1,s2,q⟩:=h
  obtain⟨as,ra⟩:=DA.reads I (SeqAt.canLay_of_shaped s1) ha rx
  obtain⟨bs,rb⟩:=DA.reads I (SeqAt.canLay_of_shaped s2) hb ry
  exact SeqAt.compareNe_shaped ra rb s1 s2 hr.units ⟨.bl _,H,I,rfl,q⟩
def bK(neg:Bool):En→Rv→Rv→Option Rv:=fun e x y=>(iH e x).bind fun a=>(iH e y).bind fun b=>if (SeqAt.shaped a&&SeqAt.shaped b)=true then some (.d (.bool (if neg then !PyData.eqv a b else PyData.eqv a b))) else none
theorem C3{neg:Bool}:fV K (Fv K neg) (bK neg):=by
  intro σ H0 F H e x y z v u Q R A B hg q
  unfold bK at hg
  obtain⟨a,h1,hg⟩:=L' hg
  obtain⟨b,h2,hg⟩:=L' hg
  split at hg
  case isFalse=>cases hg
  case isTrue hl=>
  cases hg
  rw [Bool.and_eq_true] at hl
  exact⟨a,b,js R A h1,js R B h2,hl.1,hl.2,q F H _ (ez.refl _ _ _ _) R du⟩
def Fx(K:PySem.W.Frag)(neg:Bool):R2:=fun x y H Q=>∃a xs,DA K H a x∧(DA K H (.list xs) y∨DA K H (.tuple xs) y)∧a.canLay0=true∧a.depth≤60∧PyData.canLayAll0 xs=true∧Q (.bl (if neg then !(xs.any fun y=>PyData.eqv y a) else xs.any fun y=>PyData.eqv y a)) H
theorem EF{k:Nat}(hr:cf k X.A):fg X (compareOp .In) (Fx X.K false):=by
  intro pins s σ H x y v u Q I rx ry h
  obtain⟨a,xs,ha,hb,s1,s2,s3,q⟩:=h
  obtain⟨as,ra⟩:=DA.reads I s1 ha rx
  have hu:=hr.units
  rcases hb with hb | hb
  · obtain⟨bs,rb⟩:=DA.reads I (by simpa [PyData.canLay0] using s3) hb ry
    exact PySem.SeqAt.in_list_reads rb ra s3 s1 (by lia) ⟨.bl _,H,I,rfl,q⟩
  · obtain⟨bs,rb⟩:=DA.reads I (by simpa [PyData.canLay0] using s3) hb ry
    exact PySem.SeqAt.in_tuple_reads rb ra s3 s1 (by lia) ⟨.bl _,H,I,rfl,q⟩
theorem xl{k:Nat}(hr:cf k X.A):fg X (compareOp .NotIn) (Fx X.K true):=by
  intro pins s σ H x y v u Q I rx ry h
  obtain⟨a,xs,ha,hb,s1,s2,s3,q⟩:=h
  obtain⟨as,ra⟩:=DA.reads I s1 ha rx
  have hu:=hr.units
  rcases hb with hb | hb
  · obtain⟨bs,rb⟩:=DA.reads I (by simpa [PyData.canLay0] using s3) hb ry
    exact PySem.SeqAt.notIn_list_reads rb ra s3 s1 (by lia) ⟨.bl _,H,I,rfl,q⟩
  · obtain⟨bs,rb⟩:=DA.reads I (by simpa [PyData.canLay0] using s3) hb ry
    exact PySem.SeqAt.notIn_tuple_reads rb ra s3 s1 (by lia) ⟨.bl _,H,I,rfl,q⟩
def pN(neg:Bool):En→Rv→Rv→Option Rv:=fun e x y=>(iH e x).bind fun a=>(dc e y).bind fun p=>if (a.canLay0&&decide (a.depth≤60)&&PyData.canLayAll0 p.2)=true then some (.d (.bool (if neg then !(p.2.any fun y=>PyData.eqv y a) else p.2.any fun y=>PyData.eqv y a))) else none
theorem GQ{neg:Bool}:fV K (Fx K neg) (pN neg):=by
  intro σ H0 F H e x y z v u Q R A B hg q
  unfold pN at hg
  obtain⟨a,h1,hg⟩:=L' hg
  obtain⟨⟨b,xs⟩,h2,hg⟩:=L' hg
  split at hg
  case isFalse=>cases hg
  case isTrue hl=>
  cases hg
  rw [Bool.and_eq_true,Bool.and_eq_true,decide_eq_true_iff] at hl
  obtain⟨p,vs,rfl,d1,s1⟩:=bV R B h2
  refine⟨a,xs,js R A h1,?_,hl.1.1,hl.1.2,hl.2,q F H _ (ez.refl _ _ _ _) R du⟩
  cases b with
  | true=>exact .inl (eS.mpr ⟨p,vs,rfl,s1,d1.mono R.sm⟩)
  | false=>exact .inr (cU.mpr ⟨p,vs,rfl,s1,d1.mono R.sm⟩)
def qS:PyData→Bool
  | .none=>true
  | _=>false
theorem pJ{F:Hp}{d:PyData}{v:V}(h:DA K F d v):decide (v=.non)=qS d:=by
  cases d with
  | none=>rw [gh.mp h];rfl
  | bool b=>rw [cX.mp h];rfl
  | int b=>rw [cg.mp h];rfl
  | str b=>rw [l6.mp h];rfl
  | tuple b=>obtain⟨a,_,e,_⟩:=cU.mp h;rw [e];rfl
  | list b=>obtain⟨a,_,e,_⟩:=eS.mp h;rw [e];rfl
  | dict b=>simp only [DA] at h;obtain⟨a,m,rfl,_⟩:=h;rfl
def wU(neg:Bool):En→Rv→Rv→Option Rv:=fun e x y=>(iH e x).bind fun a=>match y with
  | .d .none=>some (.d (.bool (if neg then !qS a else qS a)))
  | _=>none
def wR(neg:Bool):En→Rv→Rv→Option Rv:=fun e x y=>(gJ x).bind fun a=>(gJ y).bind fun b=>some (.d (.bool (if neg then !(a==b) else a==b)))
theorem GU:fV K (fun x y H Q=>y=.non∧Q (.bl (decide (x=.non))) H) (wU false):=by
  intro σ H0 F H e x y z v u Q R A B hg q
  unfold wU at hg
  obtain⟨a,h1,hg⟩:=L' hg
  split at hg
  · cases hg
    refine⟨gh.mp (show DA K F .none u from B),?_⟩
    rw [pJ (js R A h1)]
    exact q F H _ (ez.refl _ _ _ _) R du
  · cases hg
theorem Eu:fV K (fun x y H Q=>y=.non∧Q (.bl (!decide (x=.non))) H) (wU true):=by
  intro σ H0 F H e x y z v u Q R A B hg q
  unfold wU at hg
  obtain⟨a,h1,hg⟩:=L' hg
  split at hg
  · cases hg
    refine⟨gh.mp (show DA K F .none u from B),?_⟩
    rw [pJ (js R A h1)]
    exact q F H _ (ez.refl _ _ _ _) R du
  · cases hg
theorem GS:fV K (fun x y H Q=>∃b c,x=.bl b∧y=.bl c∧Q (.bl (b==c)) H) (wR false):=by
  intro σ H0 F H e x y z v u Q R A B hg q
  unfold wR at hg
  obtain⟨a,h1,hg⟩:=L' hg
  obtain⟨b,h2,hg⟩:=L' hg
  cases hg
  exact⟨a,b,dS A h1,dS B h2,q F H _ (ez.refl _ _ _ _) R du⟩
theorem yO:fV K (fun x y H Q=>∃b c,x=.bl b∧y=.bl c∧Q (.bl (!(b==c))) H) (wR true):=by
  intro σ H0 F H e x y z v u Q R A B hg q
  unfold wR at hg
  obtain⟨a,h1,hg⟩:=L' hg
  obtain⟨b,h2,hg⟩:=L' hg
  cases hg
  exact⟨a,b,dS A h1,dS B h2,q F H _ (ez.refl _ _ _ _) R du⟩
def GN:En→Rv→Rv→Option Rv:=xU (wU false) (wR false)
def jx:En→Rv→Rv→Option Rv:=xU (wU true) (wR true)
def Ho:R2:=fun x y H Q=>(y=.non∧Q (.bl (decide (x=.non))) H)∨∃b c,x=.bl b∧y=.bl c∧Q (.bl (b==c)) H
def v_:R2:=fun x y H Q=>(y=.non∧Q (.bl (!decide (x=.non))) H)∨∃b c,x=.bl b∧y=.bl c∧Q (.bl (!(b==c))) H
theorem EG:fg X (compareOp .Is) Ho:=EI.or EH
theorem xi:fg X (compareOp .IsNot) v_:=BP.or xj
theorem IJ:fV K Ho GN:=fV.or GU GS
theorem Bs:fV K v_ jx:=fV.or Eu yO
def eh:En→Rv→Rv→Option Rv:=fun e x y=>(dc e x).bind fun p=>(cv y).bind fun i=>(atI p.2 i).map .d
def Hq(K:PySem.W.Frag):R2:=fun x y H Q=>Hr K x y H Q∨Hs K x y H Q
theorem IK:A7 X (Hq X.K):=Bu.or Ef
theorem aI.atI{F:Hp}{ds:List PyData}{vs:List V}(h:aI K F ds vs){i:Int}{d:PyData}(q:atI ds i=some d):∃v,L2.atI vs i=some v∧DA K F d v:=by
  unfold L2.atI at q ⊢
  obtain⟨j,h1,h2⟩:=L' q
  obtain⟨v,h3,h4⟩:=h.get h2
  exact⟨v,by rw [←h.len,h1];exact h3,h4⟩
theorem IL:fV K (Hq K) eh:=by
  intro σ H0 F H e x y z v u Q R A B hg q
  unfold eh at hg
  obtain⟨⟨b,xs⟩,h1,hg⟩:=L' hg
  obtain⟨i,h2,hg⟩:=L' hg
  obtain⟨d,h3,hg⟩:=Ma hg
  cases hg
  obtain⟨p,vs,rfl,d1,s1⟩:=bV R A h1
  obtain⟨w,h4,h5⟩:=d1.atI h3
  have fin:=q F H w (ez.refl _ _ _ _) R h5
  cases b with
  | true=>exact .inl ⟨p,vs,i,w,rfl,cj B h2,s1,h4,fin⟩
  | false=>exact .inr ⟨p,vs,i,w,rfl,cj B h2,s1,h4,fin⟩
end
end L2
namespace HT
open PySem PySem.Spec PyProof.Rows
section
variable{prog:Program}{w:World}{A:Around}{E:Value→Shared→Prop}{s:Shared}
theorem getItem_tuple_all{t sl:Addr}{items:Array Value}{vl vu:Value}{lo hi:Option Int}{Q:Value→Shared→Prop}(ht:IsTup s.heap t items)(hs:s.heap.IsSliceOf sl vl vu .none)(pl:IsPart vl lo)(pu:IsPart vu hi)
    (hw:sIx items.size 0 lo=0∧sIx items.size items.size hi=items.size)
    (h:Q (.ref t) s):wpAny (model prog w) A (getItem (.ref t) (.ref sl)) Q E s:=by
  obtain⟨os,hos,hcs,hds⟩:=id hs
  have hTs:s.TypeIs (.ref sl) "slice":=⟨os,hos,hcs⟩
  unfold getItem
  try with_reducible refine wpAny_holding ?_
  first | refine wpAny_bind (wpAny_pure ?_) | skip
  refine wpAny_bind (wpAny_sequenceKey ht.typeIs (by decide) ?_)
  refine wpAny_bind (wpAny_callSpecial?_slot (name:=Str.ofString "__getitem__") ht.typeIs PyProof.Rows.slot_tuple_getitem
    (wpAny_call_entry PyProof.Rows.slot_tuple_getitem ht.typeIs entry_tuple_getitem ?_ (args_tuple_getitem _ _)))
  show wpAny _ _ (Builtin.Tuple.tupleItemsOf (.ref t) >>= _) _ _ s
  refine wpAny_bind (tupleItemsOf_ ht ?_)
  refine wpAny_bind (wpAny_typeOf hTs ?_)
  rw [if_pos (by decide)]
  refine wpAny_bind (iO hs pl pu ?_)
  have hno:(((sIx items.size 0 lo:Nat):Int)==0&&(1:Int)==1&&(sIx items.size items.size hi - sIx items.size 0 lo)==items.size)=true:=by
    rw [hw.1,hw.2];simp
  show wpAny _ _ (if (((sIx items.size 0 lo:Nat):Int)==0&&(1:Int)==1&&(sIx items.size items.size hi - sIx items.size 0 lo)==items.size)=true then _ else _) _ _ s
  rw [if_pos hno]
  unfold Builtin.Tuple.tupleIsExact
  refine wpAny_bind (wpAny_bind (wpAny_typeOf ht.typeIs (wpAny_pure ?_)))
  rw [if_pos (by decide)]
  exact wpAny_bind (wpAny_rule (wpAny_pure ⟨_,rfl,wpAny_pure h⟩))
end
end HT
namespace L2
open PySem PySem.Spec PyProof.Rows
section
variable{X:Cx}{K:PySem.W.Frag}{a:Expr}{fa:FE}{lo hi:Option Expr}{pos p2:Pos}
def cutD(xs:List PyData)(lo hi:Option Int):List PyData:=(xs.drop (HT.sIx xs.length 0 lo)).take (HT.sIx xs.length xs.length hi - HT.sIx xs.length 0 lo)
def Hy(K:PySem.W.Frag):V→Option Int→Option Int→Hp→VK→Prop:=fun x lo hi H Q=>∃a xs,x=.ref a∧dz K H a xs∧
  (HT.sIx xs.length 0 lo=0∧HT.sIx xs.length xs.length hi=xs.length)∧Q (.ref a) H
theorem Cv:A8 X (Hy X.K):=by
  intro pins s σ H x v vl vu lo hi sl Q I rx hs pl pu h
  obtain⟨a,xs,rfl,hx,hw,q⟩:=h
  cases rx
  obtain⟨its,r,ht,hz⟩:=I.tuple hx
  have hlen:its.toArray.size=xs.length:=by rw [List.size_toArray];exact r.length.symm
  refine⟨"tuple",_,PyProof.Rows.slot_tuple_getitem.lookup,ht.typeIs,?_⟩
  exact HT.getItem_tuple_all ht hs pl pu (by rw [hlen];exact hw) ⟨.ref a,H,I,rfl,q⟩
def IV(K:PySem.W.Frag):V→Option Int→Option Int→Hp→VK→Prop:=fun x lo hi H Q=>Hx K x lo hi H Q∨(Hy K x lo hi H Q∨Hw K x lo hi H Q)
theorem IX:A8 X (IV X.K):=FN.or (Cv.or Cu)
abbrev FO:=En→Option (Option Int × En)
def fO(K:PySem.W.Frag)(f:FO):TO:=fun σ H Q=>∃F e o e',a_ K F H σ e∧f e=some (o,e')∧∀F' H',ez σ F H e F' H' e'→a_ K F' H' σ e'→Q o H'
theorem PO.mono{e:Option Expr}{t t':TO}(h:PO X e t)(m:∀σ H Q,t' σ H Q→t σ H Q):PO X e t':=fun pins s σ H Q I q=>h pins s σ H Q I (m σ H Q q)
def iL:FO:=fun e=>some (none,e)
def ie(f:FE):FO:=fun e=>(f e).bind fun p=>(cv p.1).map fun i=>(some i,p.2)
theorem fB:PO X none (fO K iL):=B2.mono fun σ H Q h=>by
  obtain⟨F,e,o,e',R,hf,q⟩:=h
  cases hf
  exact q F H (ez.refl _ _ _ _) R
theorem fD(h:PE X a (fE K fa)):PO X (some a) (fO K (ie fa)):=(B3 h).mono fun σ H Q h=>by
  obtain⟨F,e,o,e',R,hf,q⟩:=h
  unfold ie at hf
  obtain⟨⟨x,e1⟩,h1,hf⟩:=L' hf
  obtain⟨i,h2,hf⟩:=Ma hf
  cases hf
  exact⟨F,e,x,_,R,h1,fun F1 H1 v X1 R1 A1=>⟨i,cj A1 h2,q F1 H1 X1 R1⟩⟩
def Ig(e:En)(x:Rv)(lo hi:Option Int):Option Rv:=(dc e x).map fun p=>if p.1=true then .l (cutD p.2 lo hi) else .d (.tuple (cutD p.2 lo hi))
def va(fa:FE)(fl fh:FO):FE:=fun e=>(fa e).bind fun p=>(fl p.2).bind fun l=>(fh l.2).bind fun h=>(Ig h.2 p.1 l.1 h.1).map fun z=>(z,h.2)
theorem yl{F:Hp}{ds:List PyData}{vs:List V}(h:aI K F ds vs)(lo hi:Option Int):aI K F (cutD ds lo hi) (o8 vs lo hi):=by
  unfold cutD o8
  rw [h.len]
  exact(h.drop _).take _
theorem Bd{α:Type}{xs:List α}{lo hi:Option Int}(h:HT.sIx xs.length 0 lo=0∧HT.sIx xs.length xs.length hi=xs.length):(xs.drop (HT.sIx xs.length 0 lo)).take (HT.sIx xs.length xs.length hi - HT.sIx xs.length 0 lo)=xs:=by
  rw [h.1,h.2];simp
theorem zX{fl fh:FO}(he:PE X a (fE X.K fa))(hl:PO X lo (fO X.K fl))(hh:PO X hi (fO X.K fh)):PE X (.Subscript a (.Slice lo hi none p2) pos) (fE X.K (va fa fl fh)):=(zz IX he hl hh).mono fun σ H Q h=>by
  obtain⟨F,e,z,e',R,hf,q⟩:=h
  unfold va at hf
  obtain⟨⟨x,e1⟩,h1,hf⟩:=L' hf
  obtain⟨⟨l,e2⟩,h2,hf⟩:=L' hf
  obtain⟨⟨u,e3⟩,h3,hf⟩:=L' hf
  obtain⟨z',h4,hf⟩:=Ma hf
  cases hf
  refine⟨F,e,x,e1,R,h1,fun F1 H1 v X1 R1 A1=>⟨F1,e1,l,e2,R1,h2,fun F2 H2 X2 R2=>⟨F2,e2,u,_,R2,h3,fun F3 H3 X3 R3=>?_⟩⟩⟩
  have X12:=X1.trans X2
  have X13:=X12.trans X3
  have A3:=(A1.ext X2).ext X3
  unfold Ig at h4
  obtain⟨⟨b,xs⟩,h5,h4⟩:=Ma h4
  obtain⟨p,vs,rfl,d1,s1⟩:=bV R3 A3 h5
  cases b with
  | true=>
    rw [if_pos rfl] at h4;cases h4
    refine .inr (.inr ⟨p,vs,rfl,s1,fun t ht=>?_⟩)
    obtain⟨R4,X4,hF,no⟩:=R3.newL (vs:=o8 vs l u) ht
    exact q _ _ _ (X13.trans X4) R4 ⟨t,_,rfl,X13.dom _ ht,hF,aA,yl d1 l u,no⟩
  | false=>
    rw [if_neg (by simp)] at h4;cases h4
    by_cases hw:HT.sIx vs.length 0 l=0∧HT.sIx vs.length vs.length u=vs.length
    · refine .inr (.inl ⟨p,vs,rfl,s1,hw,?_⟩)
      have e5:cutD xs l u=xs:=by unfold cutD;exact Bd (by rw [d1.len];exact hw)
      rw [e5] at q
      obtain⟨F4,R4,X4,hF⟩:=R3.growT (aw.refl _) s1
      exact q _ _ _ (X13.trans X4) R4 (cU.mpr ⟨p,vs,rfl,hF,d1.mono X4.sf⟩)
    · refine .inl ⟨p,vs,rfl,s1,hw,fun t ht=>?_⟩
      obtain⟨R4,X4⟩:=R3.newT (vs:=o8 vs l u) ht
      exact q _ _ _ (X13.trans X4) R4 (cU.mpr ⟨t,_,rfl,.inl (.inl aA),(yl d1 l u).mono X4.sf⟩)
end
section
variable{X:Cx}{K:PySem.W.Frag}
theorem nv{σ:L2.St}{H0 F H:Hp}{e:En}{x:Rv}{vs:List V}(h:dR K σ H0 F H e [x] vs):∃v,vs=[v]∧cH K σ H0 F H e x v:=by
  obtain⟨v,ws,rfl,h1,h2⟩:=h
  have h2':ws=[]:=h2
  subst h2'
  exact⟨v,rfl,h1⟩
theorem rH{σ:L2.St}{H0 F H:Hp}{e:En}{x y:Rv}{vs:List V}(h:dR K σ H0 F H e [x,y] vs):∃v u,vs=[v,u]∧cH K σ H0 F H e x v∧cH K σ H0 F H e y u:=by
  obtain⟨v,ws,rfl,h1,h2⟩:=h
  obtain⟨u,rfl,h3⟩:=nv h2
  exact⟨v,u,rfl,h1,h3⟩
def g1(g:En→Rv→Option Rv):En→List Rv→Option Rv:=fun e xs=>match xs with
  | [x]=>g e x
  | _=>none
def g2(g:En→Rv→Rv→Option Rv):En→List Rv→Option Rv:=fun e xs=>match xs with
  | [x,y]=>g e x y
  | _=>none
theorem hX{r:List V→Hp→VK→Prop}{g:En→Rv→Option Rv}(h:DR K (fun v H Q=>r [v] H Q) g):eC K r (g1 g):=by
  intro σ H0 F H e xs z vs Q R A hg q
  unfold g1 at hg
  match xs,hg with
  | [x],hg=>
    obtain⟨v,rfl,h1⟩:=nv A
    exact h σ H0 F H e x z v Q R h1 hg q
theorem vx{r:List V→Hp→VK→Prop}{g:En→Rv→Rv→Option Rv}(h:fV K (fun v u H Q=>r [v,u] H Q) g):eC K r (g2 g):=by
  intro σ H0 F H e xs z vs Q R A hg q
  unfold g2 at hg
  match xs,hg with
  | [x,y],hg=>
    obtain⟨v,u,rfl,h1,h2⟩:=rH A
    exact h σ H0 F H e x y z v u Q R h1 h2 hg q
def gM:En→Rv→Option Rv:=fun e x=>(dc e x).map fun p=>.d (.int p.2.length)
theorem GW:eC K (fun xs H Q=>∃p ys,xs=[.ref p]∧(f9 K H p ys∨dz K H p ys)∧Q (.int ys.length) H) (g1 gM):=hX fun σ H0 F H e x z v Q R A hg q=>by
  obtain⟨⟨b,xs⟩,h5,h4⟩:=Ma hg
  obtain⟨p,vs,rfl,d1,s1⟩:=bV R A h5
  cases h4
  refine⟨p,vs,rfl,?_,?_⟩
  · cases b with
    | true=>exact .inl s1
    | false=>exact .inr s1
  · rw [←d1.len]
    exact q F H _ (ez.refl _ _ _ _) R kN
def wO:En→Rv→Option Rv:=fun _ x=>(cv x).map fun i=>.d (.int (if i < 0 then -i else i))
theorem Gz:eC K (fun xs H Q=>∃i,xs=[.int i]∧Q (.int (if i < 0 then -i else i)) H) (g1 wO):=hX fun σ H0 F H e x z v Q R A hg q=>by
  obtain⟨i,h5,h4⟩:=Ma hg
  cases h4
  exact⟨i,by rw [cj A h5],q F H _ (ez.refl _ _ _ _) R kN⟩
def wQ:En→Rv→Option Rv:=fun _ x=>match x with
  | .d (.int i)=>some (.d (.int i))
  | .d (.bool k)=>some (.d (.int (if k then 1 else 0)))
  | _=>none
theorem GR:eC K (fun xs H Q=>(∃i,xs=[.int i]∧Q (.int i) H)∨∃k,xs=[.bl k]∧Q (.int (if k then 1 else 0)) H) (g1 wQ):=hX fun σ H0 F H e x z v Q R A hg q=>by
  unfold wQ at hg
  split at hg
  · cases hg
    exact .inl ⟨_,by rw [cg.mp (show DA K F (.int _) v from A)],q F H _ (ez.refl _ _ _ _) R kN⟩
  · cases hg
    exact .inr ⟨_,by rw [cX.mp (show DA K F (.bool _) v from A)],q F H _ (ez.refl _ _ _ _) R kN⟩
  · cases hg
def qL:=gI (fun _ _=>true) fun i j=>.int (if j < i then j else i)
def m5:=gI (fun _ _=>true) fun i j=>.int (if j > i then j else i)
theorem GZ:eC K (fun xs H Q=>∃i j,xs=[.int i,.int j]∧Q (.int (if j < i then j else i)) H) (g2 qL):=vx fun σ H0 F H e x y z v u Q R A B hg q=>by
  obtain⟨i,j,h1,h2,h3⟩:=jI (K:=K) (g:=fun i j=>.int (if j < i then j else i)) (fun _ _ _=>cg.mpr rfl) σ H0 F H e x y z v u Q R A B hg q
  exact⟨i,j,by rw [h1,h2],h3⟩
theorem GY:eC K (fun xs H Q=>∃i j,xs=[.int i,.int j]∧Q (.int (if j > i then j else i)) H) (g2 m5):=vx fun σ H0 F H e x y z v u Q R A B hg q=>by
  obtain⟨i,j,h1,h2,h3⟩:=jI (K:=K) (g:=fun i j=>.int (if j > i then j else i)) (fun _ _ _=>cg.mpr rfl) σ H0 F H e x y z v u Q R A B hg q
  exact⟨i,j,by rw [h1,h2],h3⟩
def eL:En→Rv→Option Rv:=fun e x=>(dc e x).map fun p=>.d (.tuple p.2)
theorem CG:eC K (fun xs H Q=>∃p ys,xs=[.ref p]∧((f9 K H p ys∧∀l,H l=none→Q (.ref l) (a8 H l (.tup ys)))∨(dz K H p ys∧Q (.ref p) H))) (g1 eL):=hX fun σ H0 F H e x z v Q R A hg q=>by
  obtain⟨⟨b,xs⟩,h5,h4⟩:=Ma hg
  obtain⟨p,vs,rfl,d1,s1⟩:=bV R A h5
  cases h4
  refine⟨p,vs,rfl,?_⟩
  cases b with
  | true=>
    refine .inl ⟨s1,fun t ht=>?_⟩
    obtain⟨R4,X4⟩:=R.newT (vs:=vs) ht
    exact q _ _ _ X4 R4 (cU.mpr ⟨t,_,rfl,.inl (.inl aA),d1.mono X4.sf⟩)
  | false=>
    obtain⟨F4,R4,X4,hF⟩:=R.growT (aw.refl _) s1
    exact .inr ⟨s1,q _ _ _ X4 R4 (cU.mpr ⟨p,vs,rfl,hF,d1.mono X4.sf⟩)⟩
def Dd:En→Rv→Option Rv:=fun e x=>(dc e x).map fun p=>.l p.2
theorem Em:eC K (fun xs H Q=>∃p ys,xs=[.ref p]∧(f9 K H p ys∨dz K H p ys)∧∀l,H l=none→Q (.ref l) (a8 H l (.lst ys))) (g1 Dd):=hX fun σ H0 F H e x z v Q R A hg q=>by
  obtain⟨⟨b,xs⟩,h5,h4⟩:=Ma hg
  obtain⟨p,vs,rfl,d1,s1⟩:=bV R A h5
  cases h4
  refine⟨p,vs,rfl,?_,fun t ht=>?_⟩
  · cases b with
    | true=>exact .inl s1
    | false=>exact .inr s1
  · obtain⟨R4,X4,hF,no⟩:=R.newL (vs:=vs) ht
    exact q _ _ _ X4 R4 ⟨t,_,rfl,ht,hF,aA,d1,no⟩
def li:List PyData→Option (List Int)
  | []=>some []
  | .int i::r=>(li r).map (i::·)
  | _=>none
theorem oi:∀{ds:List PyData} {ns:List Int},li ds=some ns→ds=ns.map .int
  | [],_,h=>by cases h;rfl
  | .int i::r,_,h=>by
    obtain⟨ns,h1,rfl⟩:=Ma h
    rw [oi h1];rfl
theorem cQ:∀(ns:List Int),li (ns.map .int)=some ns
  | []=>rfl
  | i::r=>by simp [li,cQ r]
def l0:List PyData→Option (List Bool)
  | []=>some []
  | .bool i::r=>(l0 r).map (i::·)
  | _=>none
theorem l4:∀{ds:List PyData} {ns:List Bool},l0 ds=some ns→ds=ns.map .bool
  | [],_,h=>by cases h;rfl
  | .bool i::r,_,h=>by
    obtain⟨ns,h1,rfl⟩:=Ma h
    rw [l4 h1];rfl
def gN(g:List PyData→Option PyData):En→Rv→Option Rv:=fun e x=>match dc e x with
  | some (true,xs)=>(g xs).map .d
  | _=>none
theorem Ar{r:List V→Hp→VK→Prop}{g:List PyData→Option PyData}(h:∀(F H:Hp) (p:Addr) (xs:List PyData) (vs:List V) (d:PyData) (Q:VK),aI K F xs vs→f9 K H p vs→g xs=some d→(∀v,(∀F,DA K F d v)→Q v H)→r [.ref p] H Q):eC K r (g1 (gN g)):=hX fun σ H0 F H e x z v Q R A hg q=>by
  unfold gN at hg
  split at hg
  case h_2=>cases hg
  case h_1 xs h5=>
  obtain⟨p,vs,rfl,d1,s1⟩:=bV R A h5
  obtain⟨d,h6,hg⟩:=Ma hg
  cases hg
  exact h F H p xs vs d Q d1 s1 h6 fun v hv=>q F H v (ez.refl _ _ _ _) R (hv F)
def mL:List PyData→Option PyData:=fun xs=>(l0 xs).map fun ns=>.bool (ns.all id)
def sA:List PyData→Option PyData:=fun xs=>(l0 xs).map fun ns=>.bool (ns.any id)
theorem GB:eC K (fun xs H Q=>∃(l:Addr) (bs:List Bool),xs=[.ref l]∧f9 K H l (bs.map V.bl)∧Q (.bl (bs.all id)) H) (g1 (gN mL)):=Ar fun F H p xs vs d Q d1 s1 hg q=>by
  obtain⟨ns,h1,h2⟩:=Ma hg
  cases h2
  rw [l4 h1] at d1
  rw [aI.bools.mp d1] at s1
  exact⟨p,ns,rfl,s1,q _ fun _=>cX.mpr rfl⟩
theorem GC:eC K (fun xs H Q=>∃(l:Addr) (bs:List Bool),xs=[.ref l]∧f9 K H l (bs.map V.bl)∧Q (.bl (bs.any id)) H) (g1 (gN sA)):=Ar fun F H p xs vs d Q d1 s1 hg q=>by
  obtain⟨ns,h1,h2⟩:=Ma hg
  cases h2
  rw [l4 h1] at d1
  rw [aI.bools.mp d1] at s1
  exact⟨p,ns,rfl,s1,q _ fun _=>cX.mpr rfl⟩
mutual
def k7:PyData→Bool
  | .tuple ds=>jX ds
  | .list _=>false
  | .dict _=>false
  | _=>true
def jX:List PyData→Bool
  | []=>true
  | d::r=>k7 d&&jX r
end
mutual
def kG:PyData→Bool
  | .list _=>false
  | .tuple ds=>lq ds
  | _=>true
def lq:List PyData→Bool
  | []=>true
  | d::r=>kG d&&lq r
end
theorem oG{h:Heap}:∀{m:List (Int × mZ)} {es:List DictEntry} {vs:List (eP × Value)} {P:Program} {w:World},KV (m.map fun p=>((Sum.inl p.1:eP),p.2.toV)) vs→Pairs (cZ P w) es vs→
    ReadsAll h (es.map (·.key)) (m.map fun p=>PyData.int p.1) []∧ReadsAll h (es.map (·.val)) (m.map fun p=>p.2.toD) []
  | [],es,vs,P,w,r,q=>by
    cases r
    cases q
    exact⟨.nil,.nil⟩
  | p::m,es,vs,P,w,r,q=>by
    rw [List.map_cons] at r
    cases r with
    | @cons a b as bs h1 t=>
      cases q with
      | @cons e kv es' kvs' h2 h3 h4=>
        obtain⟨z1,z2⟩:=h1
        obtain⟨c1,c2⟩:=oG t h4
        have k1:oj (Sum.inl p.1) e.key=true:=by
          have:b.1=Sum.inl p.1:=z1.symm
          rw [←this];exact h2
        rcases bF k1 with ⟨i,t',e1,e2⟩ | ⟨x,t',e1,e2⟩
        · cases e1
          refine⟨?_,?_⟩
          · simp only [List.map_cons,e2]
            exact ReadsAll.cons (as:=[]) (bs:=[]) (.int p.1 t') c1
          · simp only [List.map_cons,h3]
            refine ReadsAll.cons (as:=[]) (bs:=[]) ?_ c2
            obtain⟨k,at_⟩:=p
            cases at_ with
            | vi n=>obtain⟨tk,z2⟩:=z2;rw [z2];exact .int n tk
            | vb x=>rw [show b.2=Value.bool x from z2];exact .bool x
            | vn=>rw [show b.2=Value.none from z2];exact .none
        · cases e1
mutual
theorem DA.readsR{X:Cx}{pins:List (Addr × Obj)}{σ:L2.St}{H:Hp}{s:Shared}(I:ax X pins σ H s):∀{d:PyData} {v:V} {u:Value},DA X.K H d v→a9 v u→∃as,Reads s.heap u d as∧(kG d=true→sysModules∉as)
  | .none,_,_,q,r=>by
    simp only [DA] at q;subst q;cases r;exact⟨_,.none,fun _=>by simp⟩
  | .bool b,_,_,q,r=>by
    simp only [DA] at q;subst q;cases r;exact⟨_,.bool b,fun _=>by simp⟩
  | .int i,_,_,q,r=>by
    simp only [DA] at q;subst q;obtain⟨t,rfl⟩:=r;exact⟨_,.int i t,fun _=>by simp⟩
  | .str x,_,_,q,r=>by
    simp only [DA] at q;subst q;obtain⟨t,rfl⟩:=r;exact⟨_,.str x t,fun _=>by simp⟩
  | .tuple ds,_,_,q,r=>by
    simp only [DA] at q
    obtain⟨a,xs,e,hs,rr⟩:=q
    subst e;cases r
    obtain⟨its,rv,⟨o,ho,hc,n,hd⟩,hz⟩:=I.tuple hs
    obtain⟨as,q,z⟩:=aI.readsR I rr rv
    exact⟨_,.tuple ho hc hd q,fun c=>z (by simpa [kG] using c)⟩
  | .list ds,_,_,q,r=>by
    simp only [DA] at q
    obtain⟨a,xs,e,hs,rr⟩:=q
    subst e;cases r
    obtain⟨its,rv,ht,hz⟩:=I.list hs
    obtain⟨o,ho,hc,n,hd⟩:=ht.isList
    obtain⟨as,q,z⟩:=aI.readsR I rr rv
    exact⟨_,.list ho hc hd q,fun c=>by simp [kG] at c⟩
  | .dict kvs,_,_,q,r=>by
    simp only [DA] at q
    obtain⟨a,m,e,hs,rfl⟩:=q
    subst e;cases r
    obtain⟨_,hS,vs,kv,o,es,ep,ho,hx,hd,_,hp,_⟩:=(show cW X.prog X.w H s.heap a (.dK (m.map fun p=>(Sum.inl p.1,p.2.toV))) from I.hok a _ hs)
    obtain⟨c1,c2⟩:=oG (h:=s.heap) kv hp
    refine⟨_,Reads.dict (as:=[]) (bs:=[]) ho hx.1 hd ?_ ?_,fun _=>?_⟩
    · rw [List.map_map];exact c1
    · rw [List.map_map];exact c2
    · have:a≠sysModules:=by simpa using hS
      simpa using this.symm
theorem aI.readsR{X:Cx}{pins:List (Addr × Obj)}{σ:L2.St}{H:Hp}{s:Shared}(I:ax X pins σ H s):∀{ds:List PyData} {xs:List V} {us:List Value},aI X.K H ds xs→aJ xs us→∃as,ReadsAll s.heap us ds as∧(lq ds=true→sysModules∉as)
  | [],_,_,q,r=>by
    simp only [aI] at q;subst q;cases r;exact⟨_,.nil,fun _=>by simp⟩
  | d::ds,_,_,q,r=>by
    simp only [aI] at q
    obtain⟨x,rr,e,a,b⟩:=q
    subst e
    cases r with
    | cons p p'=>
      obtain⟨as,q1,z1⟩:=DA.readsR I a p
      obtain⟨bs,q2,z2⟩:=aI.readsR I b p'
      refine⟨_,.cons q1 q2,fun c=>?_⟩
      simp only [lq,Bool.and_eq_true] at c
      intro z
      rcases Mc z with z | z
      · exact z1 c.1 z
      · exact z2 c.2 z
end
def lO(d:PyData):Bool:=(k7 d || (!d.hasDict || kG d))&&d.showable&&decide (d.depth≤60)&&decide (d.shown.length≤sizeLine)
def mM:En→Rv→Option Rv:=fun _ x=>match x with
  | .d d=>if lO d=true then some (.d (.str d.shown)) else none
  | _=>none
def Ae(K:PySem.W.Frag):List V→Hp→VK→Prop:=fun xs H Q=>∃x d,xs=[x]∧DA K H d x∧(d.hasDict=true→kG d=true)∧d.showable=true∧d.depth≤60∧d.shown.length≤sizeLine∧Q (.str d.shown) H
mutual
theorem mJ:∀(d:PyData),k7 d=true→d.hasDict=false
  | .none,_=>rfl
  | .bool _,_=>rfl
  | .int _,_=>rfl
  | .str _,_=>rfl
  | .tuple ds,h=>by simp only [PyData.hasDict];exact k8 ds (by simpa [k7] using h)
  | .list ds,h=>by simp [k7] at h
  | .dict _,h=>by simp [k7] at h
theorem k8:∀(ds:List PyData),jX ds=true→PyData.hasDictAll ds=false
  | [],_=>rfl
  | d::r,h=>by
    simp only [jX,Bool.and_eq_true] at h
    simp only [PyData.hasDictAll,mJ d h.1,k8 r h.2,Bool.or_self]
end
theorem uu{X:Cx}{k:Nat}(hr:cf k X.A):dQ X (.builtin "repr") (Ae X.K):=by
  intro pins s σ H xs us Q I r h
  obtain⟨x,d,rfl,ha,hdl,hsh,hdp,hsz,q⟩:=h
  obtain⟨u,rfl,ru⟩:∃u,us=[u]∧a9 x u:=by
    cases r with
    | cons p p'=>cases p';exact⟨_,rfl,p⟩
  have hun:=hr.un
  obtain⟨as,rd,hm⟩:=DA.readsR I ha ru
  have fin:∀a,u=.ref a→wpAny (model X.prog X.w) X.A (call (.builtin "repr") [u]) (EP X pins σ Q) X.xe s:=fun a e=>by
    subst e
    exact repr_of_reads' rd hsh (fun z=>hm (hdl z)) hr.gd (by lia) (fun _ _ e=>e) (fun h' u tk hk=>⟨.str _,H,I.kept hk,⟨_,rfl⟩,q⟩) hsz
  cases d with
  | none=>simp only [DA] at ha;subst ha;cases ru;exact P.repr_of_none ⟨.str _,H,I.tok _,⟨_,rfl⟩,q⟩
  | bool b=>simp only [DA] at ha;subst ha;cases ru;exact P.repr_of_bool ⟨.str _,H,I.tok _,⟨_,rfl⟩,q⟩
  | int i=>
    simp only [DA] at ha;subst ha;obtain⟨t,rfl⟩:=ru
    simp only [PyData.showable,decide_eq_true_eq] at hsh
    exact P.repr_of_int hsh ⟨.str _,H,I.tok _,⟨_,rfl⟩,q⟩
  | str y=>simp only [DA] at ha;subst ha;obtain⟨t,rfl⟩:=ru;exact P.repr_of_str ⟨.str _,H,I.tok _,⟨_,rfl⟩,q⟩ hsz
  | list ds=>obtain⟨a,_,e,_⟩:=eS.mp ha;subst e;exact fin a ru
  | dict ds=>simp only [DA] at ha;obtain⟨a,_,e,_⟩:=ha;subst e;exact fin a ru
  | tuple ds=>obtain⟨a,_,e,_⟩:=cU.mp ha;subst e;exact fin a ru
theorem FD:eC K (Ae K) (g1 mM):=hX fun σ H0 F H e x z v Q R A hg q=>by
  unfold mM at hg
  split at hg
  case h_2=>cases hg
  case h_1 d=>
  split at hg
  case isFalse=>cases hg
  case isTrue hl=>
  cases hg
  unfold lO at hl
  rw [Bool.and_eq_true,Bool.and_eq_true,Bool.and_eq_true,decide_eq_true_iff,decide_eq_true_iff] at hl
  refine⟨v,d,rfl,DA.mono R.sm A,fun z=>?_,hl.1.1.2,hl.1.2,hl.2,q F H _ (ez.refl _ _ _ _) R ((l6 (K:=K) (F:=F)).mpr rfl)⟩
  have c:=hl.1.1.1
  cases hf:k7 d with
  | true=>rw [mJ d hf] at z;cases z
  | false=>rw [hf,z] at c;simpa using c
end
section
variable{K:PySem.W.Frag}{σ:L2.St}{H0 F H F' H':Hp}{e e':En}
theorem a_.upd1(R:a_ K F H σ e){σ':L2.St}(i:Nat)(hl:σ'.length=e'.length)(hσ:∀j,j≠i→σ'[j]?=σ[j]?)(he:∀j,j≠i→e'[j]?=e[j]?)(sF:aw F F')(sm:aw F' H')(hf:∀j a,j≠i→Fp σ e H j a→F' a=none)
    (hh:∀j a o,j≠i→Fp σ e H j a→H a=some o→H' a=some o)(hd:∀x,e'[i]?=some (some (.d x))→∃v,σ'[i]?=some (some v)∧DA K F' x v)
    (ho:∀xs,e'[i]?=some (some (.l xs))→∃l vs,σ'[i]?=some (some (.ref l))∧F' l=none∧H' l=some (.lst vs)∧aI K F' xs vs)
    (hn:∀xss,e'[i]?=some (some (.n xss))→∃(l:Addr) (bs:List Addr),σ'[i]?=some (some (.ref l))∧F' l=none∧H' l=some (.lst (bs.map V.ref))∧bs.length=xss.length∧bs.Nodup∧l∉bs∧
      ∀(k:Nat) (b:Addr) (ys:List PyData),bs[k]?=some b→xss[k]?=some ys→F' b=none∧∃us,H' b=some (.lst us)∧aI K F' ys us)
    (hi:∀a j,j≠i→Fp σ' e' H' i a→¬Fp σ e H j a):a_ K F' H' σ' e'∧∀j a,j≠i→(Fp σ' e' H' j a↔ Fp σ e H j a):=by
  have fs:∀j a,j≠i→(Fp σ' e' H' j a↔ Fp σ e H j a):=by
    intro j a hj
    have key:∀xss l,e[j]?=some (some (.n xss))→σ[j]?=some (some (.ref l))→H' l=H l:=fun xss l h1 h2=>by
      obtain⟨l',bs,g1,g2,g3,_⟩:=R.nst j xss h1
      rw [h2] at g1;cases g1
      rw [g3]
      exact hh j l _ hj (.inr ⟨xss,l,bs,h1,h2,g3,.inl rfl⟩) g3
    unfold Fp
    rw [he j hj,hσ j hj]
    constructor
    · rintro(h1 | ⟨xss,l,bs,h1,h2,h3,h4⟩)
      · exact .inl h1
      · exact .inr ⟨xss,l,bs,h1,h2,by rw [←key xss l h1 h2];exact h3,h4⟩
    · rintro(h1 | ⟨xss,l,bs,h1,h2,h3,h4⟩)
      · exact .inl h1
      · exact .inr ⟨xss,l,bs,h1,h2,by rw [key xss l h1 h2];exact h3,h4⟩
  refine⟨⟨sm,hl,fun j x q=>?_,fun j xs q=>?_,fun j xss q=>?_,fun j k a q1 q2=>?_⟩,fs⟩
  · by_cases z:j=i
    · subst z;exact hd x q
    · rw [he j z] at q
      obtain⟨v,h1,h2⟩:=R.dat j x q
      exact⟨v,by rw [hσ j z];exact h1,DA.mono sF h2⟩
  · by_cases z:j=i
    · subst z;exact ho xs q
    · rw [he j z] at q
      obtain⟨l,vs,h1,h2,h3,h4⟩:=R.own j xs q
      have o:Fp σ e H j l:=.inl ⟨xs,q,h1⟩
      exact⟨l,vs,by rw [hσ j z];exact h1,hf j l z o,hh j l _ z o h3,h4.mono sF⟩
  · by_cases z:j=i
    · subst z;exact hn xss q
    · rw [he j z] at q
      obtain⟨l,bs,h1,h2,h3,h4,h5,h6,h7⟩:=R.nst j xss q
      have o:Fp σ e H j l:=.inr ⟨xss,l,bs,q,h1,h3,.inl rfl⟩
      refine⟨l,bs,by rw [hσ j z];exact h1,hf j l z o,hh j l _ z o h3,h4,h5,h6,fun k b ys g1 g2=>?_⟩
      obtain⟨c1,us,c2,c3⟩:=h7 k b ys g1 g2
      have ob:Fp σ e H j b:=.inr ⟨xss,l,bs,q,h1,h3,.inr (Mf g1)⟩
      exact⟨hf j b z ob,us,hh j b _ z ob c2,c3.mono sF⟩
  · by_cases zj:j=i
    · subst zj
      by_cases zk:k=j
      · exact zk.symm
      · exact absurd ((fs k a zk).mp q2) (hi a k zk q1)
    · by_cases zk:k=i
      · subst zk
        exact absurd ((fs j a zj).mp q1) (hi a j zj q2)
      · exact R.fp j k a ((fs j a zj).mp q1) ((fs k a zk).mp q2)
theorem a_.putL(R:a_ K F H σ e){i:Nat}{xs ys:List PyData}{l:Addr}{vs:List V}(hi:e[i]?=some (some (.l xs)))(hl:σ[i]?=some (some (.ref l)))(hd:aI K F ys vs):
    a_ K F (a8 H l (.lst vs)) σ (e.set i (some (.l ys)))∧ez σ F H e F (a8 H l (.lst vs)) (e.set i (some (.l ys))):=by
  obtain⟨l',vs',h1,h2,h3,h4⟩:=R.own i xs hi
  rw [hl] at h1;cases h1
  have hlt:i < e.length:=(Mb hi).1
  have fi:Fp σ e H i l:=.inl ⟨xs,hi,hl⟩
  have gi:(e.set i (some (Sv.l ys)))[i]?=some (some (.l ys)):=List.getElem?_set_self hlt
  obtain⟨R',fs⟩:=R.upd1 (F':=F) (H':=a8 H l (.lst vs)) (e':=e.set i (some (.l ys))) i (by rw [List.length_set];exact R.len) (fun _ _=>rfl) (fun j hj=>List.getElem?_set_ne (Ne.symm hj)) (aw.refl F)
    (fun b o q=>by
      have z:b≠l:=fun z=>by rw [z,h2] at q;cases q
      rw [aF z];exact R.sm b o q)
    (fun j a _ q=>(R.fpAt q).1)
    (fun j a o hj q ha=>by
      have z:a≠l:=fun z=>hj (R.fp j i a q (by rw [z];exact fi))
      rw [aF z];exact ha)
    (fun x q=>by rw [gi] at q;cases q) (fun zs q=>by rw [gi] at q;cases q;exact⟨l,vs,hl,h2,aA,hd⟩) (fun xss q=>by rw [gi] at q;cases q)
    (fun a j hj q q2=>by
      rcases q with ⟨zs,_,q⟩ | ⟨xss,_,_,q,_⟩
      · rw [hl] at q;cases q
        exact hj (R.fp j i _ q2 fi)
      · rw [gi] at q;cases q)
  refine⟨R',⟨aw.refl _,fun a q=>?_,fun _ _ q _ _=>q,fun a ws q=>?_,fun a o q n=>?_,fun j=>?_,fun a ⟨j,q⟩=>?_,fun _ _ q _ _=>q⟩⟩
  · by_cases z:a=l
    · rw [z,aA] at q;cases q
    · rw [aF z] at q;exact q
  · by_cases z:a=l
    · rw [z];exact⟨vs,aA⟩
    · rw [aF z];exact⟨ws,q⟩
  · have z:a≠l:=fun z=>n ⟨i,by rw [z];exact fi⟩
    rw [aF z];exact q
  · by_cases z:j=i
    · subst z;rw [gi];exact⟨fun _=>⟨xs,hi⟩,fun _=>⟨ys,rfl⟩⟩
    · rw [List.getElem?_set_ne (Ne.symm z)]
  · by_cases z:j=i
    · subst z
      rcases q with ⟨zs,_,q⟩ | ⟨xss,_,_,q,_⟩
      · rw [hl] at q;cases q;exact .inl ⟨j,fi⟩
      · rw [gi] at q;cases q
    · exact .inl ⟨j,(fs j a z).mp q⟩
theorem a_.setD(R:a_ K F H σ e)(i:Nat){x:PyData}{v:V}(h:DA K F x v):a_ K F H (σ.set i (some v)) (e.set i (some (.d x)))∧∀a,b_ (σ.set i (some v)) (e.set i (some (.d x))) H a→b_ σ e H a:=by
  have gi:∀s,(e.set i (some (Sv.d x)))[i]?=some (some s)→s=.d x∧i < e.length:=fun s q=>by
    have hlt:i < e.length:=by have:=(Mb q).1;simpa using this
    rw [List.getElem?_set_self hlt] at q
    exact⟨(Option.some.inj (Option.some.inj q)).symm,hlt⟩
  have nofp:∀a,¬Fp (σ.set i (some v)) (e.set i (some (.d x))) H i a:=fun a q=>by
    rcases q with ⟨zs,q,_⟩ | ⟨xss,_,_,q,_⟩
    · cases (gi _ q).1
    · cases (gi _ q).1
  obtain⟨R',fs⟩:=R.upd1 (F':=F) (H':=H) (σ':=σ.set i (some v)) (e':=e.set i (some (.d x))) i (by rw [List.length_set,List.length_set];exact R.len) (fun j hj=>List.getElem?_set_ne (Ne.symm hj)) (fun j hj=>List.getElem?_set_ne (Ne.symm hj)) (aw.refl F) R.sm
    (fun j a _ q=>(R.fpAt q).1) (fun j a o _ _ ha=>ha)
    (fun y q=>by
      obtain⟨z,hlt⟩:=gi _ q
      cases z
      exact⟨v,List.getElem?_set_self (by rw [R.len];exact hlt),h⟩)
    (fun zs q=>by cases (gi _ q).1) (fun xss q=>by cases (gi _ q).1) (fun a j hj q=>absurd q (nofp a))
  refine⟨R',fun a ⟨j,q⟩=>?_⟩
  by_cases z:j=i
  · subst z;exact absurd q (nofp a)
  · exact⟨j,(fs j a z).mp q⟩
theorem a_.setL(R:a_ K F H σ e)(i:Nat){xs:List PyData}{l:Addr}{vs:List V}(h1:F l=none)(h2:H l=some (.lst vs))(h3:aI K F xs vs)(h4:¬b_ σ e H l):a_ K F H (σ.set i (some (.ref l))) (e.set i (some (.l xs)))∧∀a,b_ (σ.set i (some (.ref l))) (e.set i (some (.l xs))) H a→b_ σ e H a∨a=l:=by
  have gi:∀s,(e.set i (some (Sv.l xs)))[i]?=some (some s)→s=.l xs∧i < e.length:=fun s q=>by
    have hlt:i < e.length:=by have:=(Mb q).1;simpa using this
    rw [List.getElem?_set_self hlt] at q
    exact⟨(Option.some.inj (Option.some.inj q)).symm,hlt⟩
  have onefp:∀a,Fp (σ.set i (some (.ref l))) (e.set i (some (.l xs))) H i a→a=l:=fun a q=>by
    rcases q with ⟨zs,q,q2⟩ | ⟨xss,_,_,q,_⟩
    · obtain⟨_,hlt⟩:=gi _ q
      rw [List.getElem?_set_self (by rw [R.len];exact hlt)] at q2
      cases q2;rfl
    · cases (gi _ q).1
  obtain⟨R',fs⟩:=R.upd1 (F':=F) (H':=H) (σ':=σ.set i (some (.ref l))) (e':=e.set i (some (.l xs))) i (by rw [List.length_set,List.length_set];exact R.len) (fun j hj=>List.getElem?_set_ne (Ne.symm hj)) (fun j hj=>List.getElem?_set_ne (Ne.symm hj)) (aw.refl F) R.sm
    (fun j a _ q=>(R.fpAt q).1) (fun j a o _ _ ha=>ha) (fun y q=>by cases (gi _ q).1)
    (fun zs q=>by
      obtain⟨z,hlt⟩:=gi _ q
      cases z
      exact⟨l,vs,List.getElem?_set_self (by rw [R.len];exact hlt),h1,h2,h3⟩)
    (fun xss q=>by cases (gi _ q).1) (fun a j hj q q2=>h4 ⟨j,by rw [onefp a q] at q2;exact q2⟩)
  refine⟨R',fun a ⟨j,q⟩=>?_⟩
  by_cases z:j=i
  · subst z;exact .inr (onefp a q)
  · exact .inl ⟨j,(fs j a z).mp q⟩
end
section
variable{X:Cx}{K:PySem.W.Frag}{o a:Expr}{es:List Expr}{fo:FE}{fs:FA}{name:Str}{apos cpos:Pos}{id:String}
def pA(K:PySem.W.Frag)(r:V→List V→Hp→VK→Prop)(g:List PyData→List PyData→Option (PyData × List PyData)):Prop:=
  ∀(F H:Hp) (l:Addr) (xs ys ds:List PyData) (z:PyData) (vs us:List V) (Q:VK),F l=none→aw F H→H l=some (.lst vs)→aI K F xs vs→aI K F ds us→g xs ds=some (z,ys)→
    (∀w ws,DA K F z w→aI K F ys ws→Q w (a8 H l (.lst ws)))→r (.ref l) us H Q
def cn(g:List PyData→List PyData→Option (PyData × List PyData))(fo:FE)(fs:FA):FE:=fun e=>(fo e).bind fun p=>match p.1 with
  | .s i=>(fs p.2).bind fun q=>(kZ q.1).bind fun ds=>match q.2[i]? with
    | some (some (.l xs))=>(g xs ds).map fun z=>(.d z.1,q.2.set i (some (.l z.2)))
    | _=>none
  | _=>none
theorem ug{r:V→List V→Hp→VK→Prop}{g:List PyData→List PyData→Option (PyData × List PyData)}(hm:pA K r g){σ:L2.St}{H:Hp}{Q:VK}(h:fE K (cn g fo fs) σ H Q):Js K "list" r (fE K fo) (fA K fs) σ H Q:=by
  obtain⟨F,e,z,e',R,hf,q⟩:=h
  unfold cn at hf
  obtain⟨⟨x,e1⟩,h1,hf⟩:=L' hf
  match x,h1,hf with
  | .s i,h1,hf=>
  dsimp only at hf
  obtain⟨⟨rs,e2⟩,h2,hf⟩:=L' hf
  obtain⟨ds,h3,hf⟩:=L' hf
  refine⟨F,e,_,e1,R,h1,fun F1 H1 v X1 R1 A1=>?_⟩
  obtain⟨g1,zs,g2⟩:=A1
  obtain⟨l,vs,c1,c2,c3,c4⟩:=R1.own i zs g2
  rw [g1] at c1;cases c1
  refine⟨.inl ⟨rfl,vs,.inl (.inl c3)⟩,F1,e1,rs,e2,R1,h2,fun F2 H2 us X2 R2 A2=>?_⟩
  match h4:e2[i]?,hf with
  | some (some (.l xs)),hf=>
  dsimp only at hf
  obtain⟨⟨zd,ys⟩,h5,hf⟩:=Ma hf
  cases hf
  obtain⟨F3,R3,s3,d3,f3⟩:=dR.frozen R2 A2 h3
  obtain⟨l',vs',k1,k2,k3,k4⟩:=R3.own i xs h4
  rw [g1] at k1;cases k1
  refine hm F3 H2 l xs ys ds zd vs' us Q k2 R3.sm k3 k4 d3 h5 fun w ws hw hws=>?_
  obtain⟨R4,X4⟩:=R3.putL h4 g1 hws
  exact q _ _ _ ((X1.trans (X2.frz s3 f3)).trans X4) R4 hw
theorem Du{r:V→List V→Hp→VK→Prop}{g:List PyData→List PyData→Option (PyData × List PyData)}(slot:Slot "list" name id)(hty:typeOf (.builtin id)=pure (.type "method_descriptor"))(hm:DM X id r)(hf:pA X.K r g)(ho:PE X o (fE X.K fo))(ha:PA X (a::es) (fA X.K fs))
    (hbase:attributeBase o name X.env (eval o X.env)=eval o X.env)
    (hfew:((backTo cpos (starEach (a::es) X.env)).all (fun x=> !x.1)&&(backToKw cpos (keywordEach [] X.env)).all (fun x=>x.1.isSome)
      &&decide ((a::es).length+([]:List Keyword).length+(if ([]:List Keyword).isEmpty then 0 else 1) < 30))=true)
    (hline:(apos.endLine==cpos.line)=true)(hs:starEach (a::es) X.env=(false,eval a X.env)::starEach es X.env)(hplain:(backTo cpos (starEach es X.env)).any (·.1)=false):
    PE X (.Call (.Attribute o name apos) (a::es) [] cpos) (fE X.K (cn g fo fs)):=(Do PySem.F.plainAttrs_list slot hty hm ho ha hbase hfew hline hs hplain).mono fun _ _ _ h=>ug hf h
theorem Fk{r:V→List V→Hp→VK→Prop}{g:List PyData→List PyData→Option (PyData × List PyData)}(slot:Slot "list" name id)(hty:typeOf (.builtin id)=pure (.type "method_descriptor"))(hm:DM X id r)(hf:pA X.K r g)(ho:PE X o (fE X.K fo))
    (hbase:attributeBase o name X.env (eval o X.env)=eval o X.env)(hline:(apos.endLine==cpos.line)=true):PE X (.Call (.Attribute o name apos) [] [] cpos) (fE X.K (cn g fo ai)):=(ER PySem.F.plainAttrs_list slot hty hm ho hbase hline).mono fun σ H Q h=>by
  obtain⟨F,e,r',e',R,hf',q⟩:=ug hf h
  refine⟨F,e,r',e',R,hf',fun F1 H1 v X1 R1 A1=>?_⟩
  obtain⟨ty,G,e2,rs,e3,R2,h2,q2⟩:=q F1 H1 v X1 R1 A1
  cases h2
  exact⟨ty,q2 G H1 [] (ez.refl _ _ _ _) R2 rfl⟩
def bM:List PyData→List PyData→Option (PyData × List PyData):=fun xs ds=>match ds with
  | [d]=>if xs.length < 1000000 then some (.none,xs++[d]) else none
  | _=>none
theorem x5:pA K v0 bM:=by
  intro F H l xs ys ds z vs us Q hF sm hl d1 d2 hg q
  unfold bM at hg
  match ds,hg,d2 with
  | [d],hg,d2=>
    simp only [aI] at d2
    obtain⟨w,r,rfl,hw,rfl⟩:=d2
    dsimp only at hg
    split at hg
    case isFalse=>cases hg
    case isTrue hlt=>
    cases hg
    have:=d1.len
    have sl:sizeLine=16777216:=sizeLine_eq
    exact⟨l,vs,w,rfl,rfl,hl,by lia,q _ _ (gh.mpr rfl) (d1.append (aI.one hw))⟩
def qZ:List PyData→List PyData→Option (PyData × List PyData):=fun xs ds=>match ds with
  | []=>(xs[xs.length - 1]?).map fun d=>(d,xs.dropLast)
  | _=>none
theorem aI.dropLast{F:Hp}{ds:List PyData}{vs:List V}(h:aI K F ds vs):aI K F ds.dropLast vs.dropLast:=by
  rw [List.dropLast_eq_take,List.dropLast_eq_take,h.len];exact h.take _
theorem Hg:pA K Ht qZ:=by
  intro F H l xs ys ds z vs us Q hF sm hl d1 d2 hg q
  unfold qZ at hg
  match ds,hg,d2 with
  | [],hg,d2=>
    simp only [aI] at d2
    subst d2
    obtain⟨d,h1,h2⟩:=Ma hg
    cases h2
    obtain⟨v,g1,g2⟩:=d1.get h1
    rw [d1.len] at g1
    exact⟨l,vs,v,rfl,rfl,hl,g1,q _ _ g2 d1.dropLast⟩
def ky:List PyData→List PyData→Option (PyData × List PyData):=fun xs ds=>match ds with
  | [.int i]=>if 0≤i∧i < 1000000000 then(xs[i.toNat]?).map fun d=>(d,xs.eraseIdx i.toNat) else none
  | _=>none
theorem B4:pA K Ac ky:=by
  intro F H l xs ys ds z vs us Q hF sm hl d1 d2 hg q
  unfold ky at hg
  match ds,hg,d2 with
  | [.int i],hg,d2=>
    simp only [aI,DA] at d2
    obtain⟨w,r,rfl,rfl,rfl⟩:=d2
    dsimp only at hg
    split at hg
    case isFalse=>cases hg
    case isTrue hlt=>
    obtain⟨d,h1,h2⟩:=Ma hg
    cases h2
    obtain⟨v,g1,g2⟩:=d1.get h1
    have hlt2:i.toNat < vs.length:=(Mb g1).1
    exact⟨l,vs,i,i.toNat,v,rfl,rfl,hl,by lia,by lia,seqIndex_of hlt.1 (by lia),g1,q _ _ g2 (d1.erase _)⟩
end
inductive Fl where
  | nx (e:En)
  | bk (e:En)
  | ct (e:En)
  | rt (r:Rv) (e:En)
abbrev FS:=En→Option Fl
structure de (W:List Nat) (σ:L2.St) (F H:Hp) (e:En) (σ':L2.St) (F' H':Hp) (e':En):Prop where
  sf:aw F F'
  dom:∀a,H' a=none→H a=none
  fr:∀a vs,F a=none→H a=some (.lst vs)→¬b_ σ e H a→F' a=none
  lst:∀a vs,H a=some (.lst vs)→∃vs',H' a=some (.lst vs')
  tmp:∀a o,H a=some o→¬b_ σ e H a→H' a=some o
  own:∀a,b_ σ' e' H' a→b_ σ e H a∨H a=none
  wr:∀j,j∉W→σ'[j]?=σ[j]?
  fd:∀a m,F a=none→H a=some (.dK m)→¬b_ σ e H a→F' a=none
section
variable{K:PySem.W.Frag}{W W1 W2:List Nat}{σ σ1 σ2 σ':L2.St}{H0 F H F1 H1 F2 H2 F' H':Hp}{e e1 e2 e':En}
theorem de.refl:de W σ F H e σ F H e:=⟨aw.refl _,fun _ h=>h,fun _ _ h _ _=>h,fun _ vs h=>⟨vs,h⟩,fun _ _ h _=>h,fun _ h=>.inl h,fun _ _=>rfl,fun _ _ h _ _=>h⟩
theorem ez.s(x:ez σ F H e F' H' e'):de W σ F H e σ F' H' e':=⟨x.sf,x.dom,x.fr,x.lst,x.tmp,x.ow,fun _ _=>rfl,x.fd⟩
theorem de.trans(x:de W σ F H e σ1 F1 H1 e1)(y:de W σ1 F1 H1 e1 σ2 F2 H2 e2):de W σ F H e σ2 F2 H2 e2:=
  ⟨x.sf.trans y.sf,fun a h=>x.dom a (y.dom a h),fun a vs h n no=>let ⟨vs',q⟩:=x.lst a vs n;y.fr a vs' (x.fr a vs h n no) q (fun z=>(x.own a z).elim no fun z=>by rw [n] at z;cases z),fun a vs h=>let ⟨vs',q⟩:=x.lst a vs h;y.lst a vs' q,
    fun a o h n=>y.tmp a o (x.tmp a o h n) (fun z=>(x.own a z).elim n fun z=>by rw [h] at z;cases z),
    fun a h=>(y.own a h).elim (x.own a) (fun z=>.inr (x.dom a z)),
    fun j h=>(y.wr j h).trans (x.wr j h),
    fun a m h n no=>y.fd a m (x.fd a m h n no) (x.tmp a _ n no) (fun z=>(x.own a z).elim no fun z=>by rw [n] at z;cases z)⟩
theorem de.mono(x:de W1 σ F H e σ' F' H' e')(h:∀j,j∈W1→j∈W):de W σ F H e σ' F' H' e':=⟨x.sf,x.dom,x.fr,x.lst,x.tmp,x.own,fun j n=>x.wr j fun z=>n (h j z),x.fd⟩
end
def nU(K:PySem.W.Frag)(W:List Nat)(σ:L2.St)(F H:Hp)(e:En)(D:qk):Fl→Prop
  | .nx e'=>∀F' H' σ',de W σ F H e σ' F' H' e'→a_ K F' H' σ' e'→D.nx σ' H'
  | .bk e'=>∀F' H' σ',de W σ F H e σ' F' H' e'→a_ K F' H' σ' e'→D.bk σ' H'
  | .ct e'=>∀F' H' σ',de W σ F H e σ' F' H' e'→a_ K F' H' σ' e'→D.ct σ' H'
  | .rt r e'=>∀F' H' σ' v,de W σ F H e σ' F' H' e'→a_ K F' H' σ' e'→cH K σ' H F' H' e' r v→D.rt v H'
def fS(K:PySem.W.Frag)(f:FS)(W:List Nat):TS:=fun D σ H=>∃F e fl,a_ K F H σ e∧f e=some fl∧nU K W σ F H e D fl
theorem PS.mono{X:Cx}{st:Stmt}{t t':TS}(h:PS X st t)(m:∀D σ H,t' D σ H→t D σ H):PS X st t':=fun pins s σ H D I q=>h pins s σ H D I (m D σ H q)
theorem jk.mono{X:Cx}{st:List Stmt}{t t':TS}(h:jk X st t)(m:∀D σ H,t' D σ H→t D σ H):jk X st t':=fun pins s σ H D I q=>h pins s σ H D I (m D σ H q)
theorem nU.later{K:PySem.W.Frag}{W W1 W2:List Nat}{σ σ1:L2.St}{F H F1 H1:Hp}{e e1:En}{D:qk}{fl:Fl}(h:nU K W σ F H e D fl)(x:de W1 σ F H e σ1 F1 H1 e1)(h1:∀j,j∈W1→j∈W)(h2:∀j,j∈W2→j∈W):nU K W2 σ1 F1 H1 e1 D fl:=by
  cases fl with
  | nx e'=>exact fun F' H' σ' y R=>h F' H' σ' ((x.mono h1).trans (y.mono h2)) R
  | bk e'=>exact fun F' H' σ' y R=>h F' H' σ' ((x.mono h1).trans (y.mono h2)) R
  | ct e'=>exact fun F' H' σ' y R=>h F' H' σ' ((x.mono h1).trans (y.mono h2)) R
  | rt r e'=>exact fun F' H' σ' v y R A=>h F' H' σ' v ((x.mono h1).trans (y.mono h2)) R (A.weak x.dom)
section
variable{X:Cx}{K:PySem.W.Frag}{W W1 W2:List Nat}{st:Stmt}{eY:List Stmt}{f g:FS}{a b:Expr}{fa:FE}{ft:FT}{pos:Pos}
def dD:FS:=fun e=>some (.nx e)
def aC(f g:FS):FS:=fun e=>(f e).bind fun fl=>match fl with
  | .nx e1=>g e1
  | fl=>some fl
theorem aX:jk X [] (fS K dD []):=vV.mono fun D σ H h=>by
  obtain⟨F,e,fl,R,hf,q⟩:=h
  cases hf
  exact q F H σ de.refl R
theorem ah(h1:PS X st (fS K f W1))(h2:jk X eY (fS K g W2)):jk X (st::eY) (fS K (aC f g) (W1++W2)):=(oC h1 h2).mono fun D σ H h=>by
  obtain⟨F,e,fl,R,hf,q⟩:=h
  unfold aC at hf
  obtain⟨fl1,h1,hf⟩:=L' hf
  have s1:∀j,j∈W1→j∈W1++W2:=fun j h=>List.mem_append.mpr (.inl h)
  have s2:∀j,j∈W2→j∈W1++W2:=fun j h=>List.mem_append.mpr (.inr h)
  refine⟨F,e,fl1,R,h1,?_⟩
  cases fl1 with
  | nx e1=>exact fun F' H' σ' x R'=>⟨F',e1,fl,R',hf,q.later x s1 s2⟩
  | bk e1=>cases hf;exact fun F' H' σ' x R'=>q F' H' σ' (x.mono s1) R'
  | ct e1=>cases hf;exact fun F' H' σ' x R'=>q F' H' σ' (x.mono s1) R'
  | rt r e1=>cases hf;exact fun F' H' σ' v x R' A=>q F' H' σ' v (x.mono s1) R' A
theorem aj(h1:PS X st (fS K f W)):jk X [st] (fS K f W):=vX h1
def eQ(fa:FE):FS:=fun e=>(fa e).map fun p=>.nx p.2
theorem c9(he:PE X a (fE K fa))(hs:swapsWith a none pos.line X.env=pure false):PS X (.Expr a pos) (fS K (eQ fa) []):=(B7 he hs).mono fun D σ H h=>by
  obtain⟨F,e,fl,R,hf,q⟩:=h
  obtain⟨⟨x,e1⟩,h1,hf⟩:=Ma hf
  cases hf
  exact⟨F,e,x,e1,R,h1,fun F1 H1 v X1 R1 A1=>q F1 H1 σ X1.s R1⟩
def bo(fa:FE):FS:=fun e=>(fa e).map fun p=>.rt p.1 p.2
theorem aE(he:PE X a (fE K fa)):PS X (.Return (some a) pos) (fS K (bo fa) []):=(zL he).mono fun D σ H h=>by
  obtain⟨F,e,fl,R,hf,q⟩:=h
  obtain⟨⟨x,e1⟩,h1,hf⟩:=Ma hf
  cases hf
  exact⟨F,e,x,e1,R,h1,fun F1 H1 v X1 R1 A1=>q F1 H1 σ v X1.s R1 A1⟩
def iC(ft:FT)(f g:FS):FS:=fun e=>(ft e).bind fun p=>if p.1=true then f p.2 else g p.2
theorem bU{c:Expr}{bs cs:List Stmt}(hc:PT X c (fT K ft))(ha:jk X bs (fS K f W1))(hb:jk X cs (fS K g W2)):PS X (.If c bs cs pos) (fS K (iC ft f g) (W1++W2)):=(Dq hc ha hb).mono fun D σ H h=>by
  obtain⟨F,e,fl,R,hf,q⟩:=h
  unfold iC at hf
  obtain⟨⟨x,e1⟩,h1,hf⟩:=L' hf
  refine⟨F,e,x,e1,R,h1,fun F1 H1 X1 R1=>?_⟩
  cases x with
  | true=>exact⟨F1,e1,fl,R1,hf,q.later (W1:=[]) X1.s (fun j h=>by cases h) fun j h=>List.mem_append.mpr (.inl h)⟩
  | false=>exact⟨F1,e1,fl,R1,hf,q.later (W1:=[]) X1.s (fun j h=>by cases h) fun j h=>List.mem_append.mpr (.inr h)⟩
def Ca(i:Nat)(r:Rv)(e:En):Option En:=match r with
  | .d x=>some (e.set i (some (.d x)))
  | .l xs=>some (e.set i (some (.l xs)))
  | .s _=>none
theorem zQ{σ:L2.St}{H F H1 F1:Hp}{e e1 e2:En}{i:Nat}{r:Rv}{v:V}(R:a_ K F H σ e)(X1:ez σ F H e F1 H1 e1)(R1:a_ K F1 H1 σ e1)(A1:cH K σ H F1 H1 e1 r v)(h:Ca i r e1=some e2):
    de [i] σ F H e (σ.set i (some v)) F1 H1 e2∧a_ K F1 H1 (σ.set i (some v)) e2:=by
  have wr:∀j,j∉[i]→(σ.set i (some v))[j]?=σ[j]?:=fun j n=>List.getElem?_set_ne (fun z=>n (by simp [z]))
  cases r with
  | d x=>
    cases h
    obtain⟨R2,o2⟩:=R1.setD i A1
    exact⟨⟨X1.sf,X1.dom,X1.fr,X1.lst,X1.tmp,fun a h=>X1.ow a (o2 a h),wr,X1.fd⟩,R2⟩
  | l xs=>
    cases h
    obtain⟨l,vs,rfl,h1,h2,h3,h4,h5⟩:=A1
    obtain⟨R2,o2⟩:=R1.setL i h2 h3 h4 h5
    refine⟨⟨X1.sf,X1.dom,X1.fr,X1.lst,X1.tmp,fun a h=>?_,wr,X1.fd⟩,R2⟩
    rcases o2 a h with z | z
    · exact X1.ow a z
    · exact .inr (by rw [z];exact h1)
  | s j=>cases h
def a7(i:Nat)(fa:FE):FS:=fun e=>(fa e).bind fun p=>(Ca i p.1 p.2).map .nx
theorem av{i:Nat}{x:Str}{pos':Pos}(hN:X.N.Nodup)(hi:X.N[i]?=some x)(hx:DL X.env.scope x)(he:PE X a (fE K fa))(hs:swapsWith a (some (.Name x pos')) pos.line X.env=pure false)(hf:X.fn x=true∨X.env.scope.names.lookup x=some .local):
    PS X (.Assign [.Name x pos'] a pos) (fS K (a7 i fa) [i]):=(zN hN hi hx he hs hf).mono fun D σ H h=>by
  obtain⟨F,e,fl,R,hf,q⟩:=h
  unfold a7 at hf
  obtain⟨⟨r,e1⟩,h1,hf⟩:=L' hf
  obtain⟨e2,h2,hf⟩:=Ma hf
  cases hf
  refine⟨F,e,r,e1,R,h1,fun F1 H1 v X1 R1 A1=>?_⟩
  obtain⟨x,R2⟩:=zQ R X1 R1 A1 h2
  exact q F1 H1 _ x R2
abbrev FG:=PyData→En→Option En
def fG(K:PySem.W.Frag)(g:FG)(W:List Nat):TG:=fun v σ H Q=>∃F e x e',a_ K F H σ e∧DA K F x v∧g x e=some e'∧∀σ',de W σ F H e σ' F H e'→a_ K F H σ' e'→Q σ' H
abbrev CT:=List PyData→En→Option En
def Ic(K:PySem.W.Frag)(g:CT)(W:List Nat):AW:=fun vs σ H Q=>∃F e xs e',a_ K F H σ e∧aI K F xs vs∧g xs e=some e'∧∀σ',de W σ F H e σ' F H e'→a_ K F H σ' e'→Q σ' H
theorem PG.mono{tg:Expr}{t t':TG}(h:PG X tg t)(m:∀v σ H Q,t' v σ H Q→t v σ H Q):PG X tg t':=fun pins s σ H v u Q I r q=>h pins s σ H v u Q I r (m v σ H Q q)
theorem xS.mono{tg:List Expr}{t t':AW}(h:xS X tg t)(m:∀v σ H Q,t' v σ H Q→t v σ H Q):xS X tg t':=fun pins s σ H v u Q I r q=>h pins s σ H v u Q I r (m v σ H Q q)
def ag(i:Nat):FG:=fun x e=>some (e.set i (some (.d x)))
def cL:CT:=fun xs e=>match xs with
  | []=>some e
  | _=>none
def ao(g:FG)(gs:CT):CT:=fun xs e=>match xs with
  | x::r=>(g x e).bind fun e1=>gs r e1
  | _=>none
def dj(gs:CT):FG:=fun x e=>match x with
  | .tuple xs=>gs xs e
  | _=>none
theorem aq{i:Nat}{x:Str}(hN:X.N.Nodup)(hi:X.N[i]?=some x)(hx:DL X.env.scope x)(hf:X.fn x=true∨X.env.scope.names.lookup x=some .local):PG X (.Name x pos) (fG K (ag i) [i]):=(BX hN hi hx hf).mono fun v σ H Q h=>by
  obtain⟨F,e,x,e',R,hx,hg,q⟩:=h
  cases hg
  obtain⟨R2,o2⟩:=R.setD i hx
  exact q _ ⟨aw.refl _,fun _ h=>h,fun _ _ h _ _=>h,fun _ vs h=>⟨vs,h⟩,fun _ _ h _=>h,fun a h=>.inl (o2 a h),fun j n=>List.getElem?_set_ne (fun z=>n (by simp [z])),fun _ _ h _ _=>h⟩ R2
theorem i9:xS X [] (Ic K cL []):=BZ.mono fun v σ H Q h=>by
  obtain⟨F,e,x,e',R,hx,hg,q⟩:=h
  unfold cL at hg
  split at hg
  · cases hg
    simp only [aI] at hx
    exact⟨hx,q σ de.refl R⟩
  · cases hg
theorem aZ{es:List Expr}{g1:FG}{gs:CT}(h1:PG X a (fG K g1 W1))(h2:xS X es (Ic K gs W2))
    (hs:(assignEach (a::es) X.env).map (·.2)=assign a X.env::(assignEach es X.env).map (·.2)):xS X (a::es) (Ic K (ao g1 gs) (W1++W2)):=(zC h1 h2 hs).mono fun v σ H Q h=>by
  obtain⟨F,e,xs,e',R,hx,hg,q⟩:=h
  unfold ao at hg
  match xs,hg,hx with
  | x::r,hg,hx=>
    simp only [aI] at hx
    obtain⟨w,ws,e1,hw,hr⟩:=hx
    dsimp only at hg
    obtain⟨e1',h3,h4⟩:=L' hg
    refine⟨w,ws,e1,F,e,x,e1',R,hw,h3,fun σ1 x1 R1=>⟨F,e1',r,e',R1,hr,h4,fun σ2 x2 R2=>?_⟩⟩
    exact q σ2 ((x1.mono fun j h=>List.mem_append.mpr (.inl h)).trans (x2.mono fun j h=>List.mem_append.mpr (.inr h))) R2
theorem kL{es:List Expr}{k n:Nat}{gs:CT}(hK:X.K=K)(hc:X.calm=true)(h:xS X es (Ic K gs W))(hl:∀xs e e',gs xs e=some e'→xs.length=n)(hn:(assignEach es X.env).length=n)(hst:(assignEach es X.env).findIdx? (·.1)=none):PG X (.Tuple es k pos) (fG K (dj gs) W):=(BY hK hc h hn hst).mono fun v σ H Q h=>by
  obtain⟨F,e,x,e',R,hx,hg,q⟩:=h
  unfold dj at hg
  match x,hg,hx with
  | .tuple xs,hg,hx=>
    obtain⟨p,vs,e1,e2,e3⟩:=cU.mp hx
    exact⟨p,vs,e1,R.sm.tup e2,by rw [←e3.len];exact hl xs e e' hg,F,e,xs,e',R,e3,hg,q⟩
theorem ko(xs:List PyData)(e e':En)(h:cL xs e=some e'):xs.length=0:=by
  unfold cL at h
  split at h
  · rfl
  · cases h
theorem bf{g:FG}{gs:CT}{n:Nat}(hl:∀xs e e',gs xs e=some e'→xs.length=n)(xs:List PyData)(e e':En)(h:ao g gs xs e=some e'):xs.length=n+1:=by
  unfold ao at h
  match xs,h with
  | x::r,h=>
    obtain⟨e1,h3,h4⟩:=L' h
    simp [hl r e1 e' h4]
def uU(fa:FE)(g:FG):FS:=fun e=>(fa e).bind fun p=>match p.1 with
  | .d x=>(g x p.2).map .nx
  | _=>none
theorem zY{tg:Expr}{g:FG}(he:PE X a (fE K fa))(hg:PG X tg (fG K g W))(hs:swapsWithSole [tg] a pos.line X.env=pure false)(hw:swappedStores [tg] a X.env=pure none)
    (h1:(assignEach [tg] X.env).map (·.2)=[assign tg X.env]):PS X (.Assign [tg] a pos) (fS K (uU fa g) W):=(zJ he hg hs hw h1).mono fun D σ H h=>by
  obtain⟨F,e,fl,R,hf,q⟩:=h
  unfold uU at hf
  obtain⟨⟨r,e1⟩,h1,hf⟩:=L' hf
  match r,h1,hf with
  | .d x,h1,hf=>
    obtain⟨e2,h2,hf⟩:=Ma hf
    cases hf
    exact⟨F,e,_,e1,R,h1,fun F1 H1 v X1 R1 A1=>⟨F1,e1,x,e2,R1,A1,h2,fun σ' x2 R2=>q F1 H1 σ' (X1.s.trans x2) R2⟩⟩
def Am(i j:Nat)(fs:FA):FS:=fun e=>(fs e).bind fun p=>match p.1 with
  | [.d x,.d y]=>some (.nx ((p.2.set i (some (.d x))).set j (some (.d y))))
  | _=>none
theorem Fq{i j:Nat}{x y:Str}{fs:FA}{px py pt:Pos}{kt k2 pt2}(hc:X.calm=true)(hN:X.N.Nodup)(hi:X.N[i]?=some x)(hj:X.N[j]?=some y)(hij:i≠j)
    (hx:X.env.scope.names.lookup x=some .local)(hy:X.env.scope.names.lookup y=some .local)(ha:PA X [a,b] (fA K fs))
    (hw:swappedStores [.Tuple [.Name x px,.Name y py] kt pt] (.Tuple [a,b] k2 pt2) X.env=pure (some [x,y]))
    (hs:swapsWithSole [.Tuple [.Name x px,.Name y py] kt pt] (.Tuple [a,b] k2 pt2) pos.line X.env=pure false):
    PS X (.Assign [.Tuple [.Name x px,.Name y py] kt pt] (.Tuple [a,b] k2 pt2) pos) (fS K (Am i j fs) [i,j]):=(E8 hc hN hi hj hij hx hy ha hw hs).mono fun D σ H h=>by
  obtain⟨F,e,fl,R,hf,q⟩:=h
  unfold Am at hf
  obtain⟨⟨rs,e1⟩,h1,hf⟩:=L' hf
  refine⟨F,e,rs,e1,R,h1,fun F1 H1 vs X1 R1 A1=>?_⟩
  match rs,hf,A1 with
  | [.d x,.d y],hf,A1=>
    cases hf
    obtain⟨v,u,rfl,a1,a2⟩:=rH A1
    obtain⟨R2,o2⟩:=R1.setD i a1
    obtain⟨R3,o3⟩:=R2.setD j a2
    refine⟨v,u,rfl,q F1 H1 _ ⟨X1.sf,X1.dom,X1.fr,X1.lst,X1.tmp,fun a h=>X1.ow a (o2 a (o3 a h)),fun m n=>?_,X1.fd⟩ R3⟩
    rw [List.getElem?_set_ne (fun z=>n (by simp [z])),List.getElem?_set_ne (fun z=>n (by simp [z]))]
def o_:Rv→Option PyData
  | .d x=>some x
  | .l xs=>some (.list xs)
  | .s _=>none
theorem l7{r:Rv}{d:PyData}(h:o_ r=some d):kZ [r]=some [d]:=by
  cases r with
  | d x=>cases h;rfl
  | l xs=>cases h;rfl
  | s i=>cases h
def kO(e:En):Rv→Option (Nat × List PyData)
  | .s n=>match e[n]? with
    | some (some (.l xs))=>some (n,xs)
    | _=>none
  | _=>none
theorem p_{e:En}{r:Rv}{n:Nat}{xs:List PyData}(h:kO e r=some (n,xs)):r=.s n∧e[n]?=some (some (.l xs)):=by
  unfold kO at h
  split at h
  · split at h
    · rename_i heq
      cases h;exact⟨rfl,heq⟩
    · cases h
  · cases h
def xw(fa fo fi:FE):FS:=fun e=>(fa e).bind fun p=>(o_ p.1).bind fun d=>(fo p.2).bind fun o=>(fi o.2).bind fun i=>(cv i.1).bind fun k=>(kO i.2 o.1).bind fun s=>(xV s.2.length k).map fun j=>.nx (i.2.set s.1 (some (.l (s.2.set j d))))
theorem zZ{o i:Expr}{fo fi:FE}{ps:Pos}(he:PE X a (fE K fa))(ho:PE X o (fE K fo))(hi:PE X i (fE K fi))
    (ha:∀v,assign (.Subscript o i ps) X.env v=(do
      let ov ←holding [v] (eval o X.env)
      let iv ←holding [v,ov] (eval i X.env)
      standAt ps
      holding [v,ov,iv] (setItem ov iv v)
      release [v,ov,iv] []))
    (hs:swapsWithSole [.Subscript o i ps] a pos.line X.env=pure false)(hw:swappedStores [.Subscript o i ps] a X.env=pure none)
    (h1:(assignEach [.Subscript o i ps] X.env).map (·.2)=[assign (.Subscript o i ps) X.env]):PS X (.Assign [.Subscript o i ps] a pos) (fS K (xw fa fo fi) []):=(zJ he (EZ ho hi As ha) hs hw h1).mono fun D σ H h=>by
  obtain⟨F,e,fl,R,hf,q⟩:=h
  unfold xw at hf
  obtain⟨⟨r,e1⟩,g1,hf⟩:=L' hf
  obtain⟨d,g2,hf⟩:=L' hf
  obtain⟨⟨ro,e2⟩,g3,hf⟩:=L' hf
  obtain⟨⟨ri,e3⟩,g4,hf⟩:=L' hf
  obtain⟨k,g5,hf⟩:=L' hf
  obtain⟨⟨n,xs⟩,g6,hf⟩:=L' hf
  obtain⟨j,g7,hf⟩:=Ma hf
  cases hf
  obtain⟨z6,g6'⟩:=p_ g6
  dsimp only at z6 g6'
  subst z6
  refine⟨F,e,r,e1,R,g1,fun F1 H1 v X1 R1 A1=>?_⟩
  refine⟨F1,e1,_,e2,R1,g3,fun F2 H2 u X2 R2 A2=>⟨F2,e2,ri,e3,R2,g4,fun F3 H3 w X3 R3 A3=>?_⟩⟩
  have X12:=X1.trans X2
  have X13:=X12.trans X3
  have A1':=(A1.ext X2).ext X3
  obtain⟨F4,R4,s4,d4,f4⟩:=dR.frozen R3 (rs:=[r]) (vs:=[v]) ⟨v,[],rfl,A1',rfl⟩ (l7 g2)
  obtain⟨h1,_⟩:=A2
  obtain⟨l,vs,k1,k2,k3,k4⟩:=R4.own n xs g6'
  rw [h1] at k1;cases k1
  simp only [aI] at d4
  obtain⟨v',r',e',hv,_⟩:=d4
  cases e'
  refine⟨l,vs,k,j,rfl,cj A3 g5,k3,by rw [←k4.len];exact g7,?_⟩
  obtain⟨R5,X5⟩:=R4.putL g6' h1 (k4.set hv j)
  exact q _ _ σ ((X13.frz s4 f4).trans X5).s R5
def cG(ft:FT)(f:FS):Nat→FS
  | 0,_=>none
  | n+1,e=>(ft e).bind fun p=>if p.1=true then(f p.2).bind fun fl=>match fl with
      | .nx e1=>cG ft f n e1
      | .ct e1=>cG ft f n e1
      | .bk e1=>some (.nx e1)
      | .rt r e1=>some (.rt r e1)
    else some (.nx p.2)
def fY(n:Nat)(ft:FT)(f:FS):FS:=cG ft f n
theorem lE{n:Nat}{c:Expr}{body:List Stmt}(hp:PassesOwn (model X.prog X.w) X.A X.env X.xe)(hc:PT X c (fT K ft))(hb:jk X body (fS K f W)):PS X (.While c body [] pos) (fS K (fY n ft f) W):=(tD hp hc hb).mono fun D σ H h=>by
  refine⟨fun m σ H=>∃F e fl,a_ K F H σ e∧cG ft f m e=some fl∧nU K W σ F H e D fl,⟨n,h⟩,?_⟩
  rintro m σ H ⟨F,e,fl,R,hf,q⟩
  cases m with
  | zero=>cases hf
  | succ m=>
    unfold cG at hf
    obtain⟨⟨x,e1⟩,h1,hf⟩:=L' hf
    refine⟨F,e,x,e1,R,h1,fun F1 H1 X1 R1=>?_⟩
    have sub:∀j,j∈([]:List Nat)→j∈W:=fun j h=>by cases h
    cases x with
    | false=>
      rw [if_neg (by simp)] at hf
      cases hf
      exact yV (q F1 H1 σ X1.s R1)
    | true=>
      rw [if_pos rfl] at hf
      refine yX ?_
      obtain⟨fl1,h2,hf⟩:=L' hf
      have q1:nU K W σ F1 H1 e1 D fl:=q.later (W1:=[]) X1.s sub fun j h=>h
      refine⟨fun σ' H'=>∃F' e',a_ K F' H' σ' e'∧cG ft f m e'=some fl∧nU K W σ' F' H' e' D fl,fun σ' H' ⟨F',e',r1,r2,r3⟩=>⟨m,Nat.lt_succ_self m,F',e',fl,r1,r2,r3⟩,F1,e1,fl1,R1,h2,?_⟩
      cases fl1 with
      | nx e2=>exact fun F2 H2 σ2 x R2=>⟨F2,e2,R2,hf,q1.later x (fun j h=>h) fun j h=>h⟩
      | ct e2=>exact fun F2 H2 σ2 x R2=>⟨F2,e2,R2,hf,q1.later x (fun j h=>h) fun j h=>h⟩
      | bk e2=>cases hf;exact fun F2 H2 σ2 x R2=>q1 F2 H2 σ2 x R2
      | rt r e2=>cases hf;exact fun F2 H2 σ2 v x R2 A=>q1 F2 H2 σ2 v x R2 A
end
theorem PI.mono{X:Cx}{tg iter:Expr}{t t':TI}(h:PI X tg iter t)(m:∀σ H R,t' σ H R→t σ H R):PI X tg iter t':=fun pins s σ H R I q=>h pins s σ H R I (m σ H R q)
theorem PI.or{X:Cx}{tg iter:Expr}{t t':TI}(h:PI X tg iter t)(h':PI X tg iter t'):PI X tg iter (fun σ H R=>t σ H R∨t' σ H R):=fun pins s σ H R I q=>by
  rcases q with q | q
  · exact h pins s σ H R I q
  · exact h' pins s σ H R I q
abbrev io:=List (Nat × List PyData)
def wB(K:PySem.W.Frag)(σ:L2.St)(F H:Hp)(own:io):Prop:=∀p∈own,∃l vs,σ[p.1]?=some (some (.ref l))∧H l=some (.lst vs)∧aI K F p.2 vs
def xX(K:PySem.W.Frag)(σ:L2.St)(J:It)(items:List PyData)(own:io)(F0:Hp):Prop:=∀F H,aw F0 F→aw F H→wB K σ F H own→
  (∀i,i < items.length→J.go i H)∧(∀i,items.length≤i→J.stop i H)∧∀i d x H',items[i]?=some d→J.yld i H x H'→∃F',aw H H'∧aw F F'∧aw F' H'∧(∀a,F a=none→H a≠none→F' a=none)∧DA K F' d x
abbrev FI:=En→Option (List PyData × io × En)
def keeps(own:io)(e:En):Prop:=∀p∈own,e[p.1]?=some (some (.l p.2))
def fI(K:PySem.W.Frag)(f:FI):TI:=fun σ H R=>∃F e items own e',a_ K F H σ e∧f e=some (items,own,e')∧∀J F' H',ez σ F H e F' H' e'→a_ K F' H' σ e'→keeps own e'→xX K σ J items own F'→R J H'
section
variable{K:PySem.W.Frag}{σ:L2.St}{H0 F H F' H':Hp}{e e':En}
theorem a_.held(R:a_ K F H σ e){own:io}(h:keeps own e):wB K σ F H own:=fun p hp=>by
  obtain⟨l,vs,h1,h2,h3,h4⟩:=R.own p.1 p.2 (h p hp)
  exact⟨l,vs,h1,h3,h4⟩
theorem a_.step(R:a_ K F H σ e)(s:aw H H')(sF:aw F F')(sm:aw F' H')(fz:∀a,F a=none→H a≠none→F' a=none):a_ K F' H' σ e∧ez σ F H e F' H' e:=by
  obtain⟨R',o'⟩:=R.keep sF sm (fun a ⟨i,h⟩=>by
    obtain⟨h1,vs,h2⟩:=R.fpAt h
    exact fz a h1 (by rw [h2];simp)) fun a o _ h=>s a o h
  exact⟨R',⟨sF,fun a h=>s.free h,fun a vs h1 h2 _=>fz a h1 (by rw [h2];simp),fun a vs h=>⟨vs,s _ _ h⟩,fun a o h _=>s a o h,fun _=>Iff.rfl,fun a h=>.inl ((o' a).mp h),fun a m h1 h2 _=>fz a h1 (by rw [h2];simp)⟩⟩
inductive AV (K:PySem.W.Frag) (σ:L2.St) (F:Hp) (p:Addr):Bool→List PyData→io→Prop
  | tup {xs vs}:dz K F p vs→aI K F xs vs→AV K σ F p false xs []
  | lst {xs vs}:f9 K F p vs→aI K F xs vs→AV K σ F p true xs []
  | own {i xs}:σ[i]?=some (some (.ref p))→AV K σ F p true xs [(i,xs)]
theorem AV.at{p:Addr}{b:Bool}{xs:List PyData}{own:io}{F0:Hp}(h:AV K σ F0 p b xs own)(s0:aw F0 F)(s1:aw F H){own':io}(hh:wB K σ F H own')(hs:∀q∈own,q∈own'):∃vs,aI K F xs vs∧(if b=true then f9 K H p vs else dz K H p vs):=by
  cases h with
  | tup h1 h2=>exact⟨_,h2.mono s0,(s0.trans s1).tup h1⟩
  | lst h1 h2=>exact⟨_,h2.mono s0,(s0.trans s1).seq h1⟩
  | @own i xs h1=>
    obtain⟨l,vs,g1,g2,g3⟩:=hh (i,xs) (hs (i,xs) (by simp))
    dsimp only at g1 g3
    rw [h1] at g1;cases g1
    exact⟨vs,g3,.inl (.inl g2)⟩
def Av(e:En):Rv→Option (Bool × List PyData × io)
  | .d (.tuple xs)=>some (false,xs,[])
  | .d (.list xs)=>some (true,xs,[])
  | .l xs=>some (true,xs,[])
  | .s i=>match e[i]? with
    | some (some (.l xs))=>some (true,xs,[(i,xs)])
    | _=>none
  | _=>none
theorem wg{r:Rv}{v:V}{b:Bool}{xs:List PyData}{own:io}(R:a_ K F H σ e)(A:cH K σ H0 F H e r v)(h:Av e r=some (b,xs,own)):
    ∃F' p,a_ K F' H σ e∧aw F F'∧(∀a,F a=none→H0 a≠none→F' a=none)∧v=.ref p∧AV K σ F' p b xs own∧keeps own e:=by
  cases r with
  | d x=>
    cases x with
    | tuple ds=>
      cases h
      obtain⟨a,ys,e1,e2,e3⟩:=cU.mp A
      exact⟨F,a,R,aw.refl _,fun _ h _=>h,e1,.tup e2 e3,fun p hp=>by cases hp⟩
    | list ds=>
      cases h
      obtain⟨a,ys,e1,e2,e3⟩:=eS.mp A
      exact⟨F,a,R,aw.refl _,fun _ h _=>h,e1,.lst e2 e3,fun p hp=>by cases hp⟩
    | _=>cases h
  | l ys=>
    cases h
    obtain⟨F',R',s',d',f'⟩:=A.frozen R
    obtain⟨a,ys,e1,e2,e3⟩:=eS.mp d'
    exact⟨F',a,R',s',f',e1,.lst e2 e3,fun p hp=>by cases hp⟩
  | s i=>
    obtain⟨h1,ys,h2⟩:=A
    simp only [Av,h2] at h
    cases h
    obtain⟨l,vs,e1,e2,e3,e4⟩:=R.own i _ h2
    rw [h1] at e1;cases e1
    exact⟨F,l,R,aw.refl _,fun _ h _=>h,rfl,.own h1,fun p hp=>by simp only [List.mem_singleton] at hp;subst hp;exact h2⟩
theorem wY{p:Addr}{xs:List PyData}{own:io}{F0:Hp}(h:AV K σ F0 p true xs own):xX K σ (Il K p) xs own F0:=by
  intro F H s0 s1 hh
  obtain⟨vs,d,q⟩:=h.at s0 s1 hh fun _ h=>h
  have q:f9 K H p vs:=q
  refine⟨fun i hi=>⟨vs,vs[i]'(by rw [←d.len];exact hi),q,List.getElem?_eq_getElem _⟩,fun i hi=>⟨vs,q,by rw [←d.len];exact hi⟩,fun i x v H' hx hy=>?_⟩
  obtain⟨rfl,hy⟩:=hy
  obtain⟨w,g1,g2⟩:=d.get hx
  have e:=hy vs q
  rw [g1] at e;cases e
  exact⟨F,aw.refl _,aw.refl _,s1,fun _ h _=>h,g2⟩
theorem yR{p:Addr}{xs:List PyData}{own:io}{F0:Hp}(h:AV K σ F0 p false xs own):xX K σ (Im K p) xs own F0:=by
  intro F H s0 s1 hh
  obtain⟨vs,d,q⟩:=h.at s0 s1 hh fun _ h=>h
  have q:dz K H p vs:=q
  refine⟨fun i hi=>⟨vs,vs[i]'(by rw [←d.len];exact hi),q,List.getElem?_eq_getElem _⟩,fun i hi=>⟨vs,q,by rw [←d.len];exact hi⟩,fun i x v H' hx hy=>?_⟩
  obtain⟨rfl,hy⟩:=hy
  obtain⟨w,g1,g2⟩:=d.get hx
  have e:=hy vs q
  rw [g1] at e;cases e
  exact⟨F,aw.refl _,aw.refl _,s1,fun _ h _=>h,g2⟩
theorem zc{p:Addr}{x y:V}{a b:PyData}(s1:aw F H)(hp:H p=none)(hx:DA K F a x)(hy:DA K F b y):∃F',aw H (a8 H p (.tup [x,y]))∧aw F F'∧aw F' (a8 H p (.tup [x,y]))∧(∀c,F c=none→H c≠none→F' c=none)∧DA K F' (.tuple [a,b]) (.ref p):=by
  have hF:F p=none:=s1.free hp
  have sF:aw F (a8 F p (.tup [x,y])):=aw.new hF
  refine⟨a8 F p (.tup [x,y]),aw.new hp,sF,fun b o q=>?_,fun c h n=>?_,cU.mpr ⟨p,_,rfl,.inl (.inl aA),.cons (DA.mono sF hx) (.one (DA.mono sF hy))⟩⟩
  · by_cases z:b=p
    · subst z;rw [aA] at q ⊢;exact q
    · rw [aF z] at q ⊢;exact s1 _ _ q
  · have z:c≠p:=fun z=>n (by rw [z];exact hp)
    rw [aF z];exact h
def ji:List PyData→List PyData→List PyData
  | x::r,y::s=>.tuple [x,y]::ji r s
  | _,_=>[]
theorem oX:∀{xs ys:List PyData} {i:Nat} {d:PyData},(ji xs ys)[i]?=some d→∃x y,xs[i]?=some x∧ys[i]?=some y∧d=.tuple [x,y]
  | [],ys,i,d,h=>by simp [ji] at h
  | x::r,[],i,d,h=>by simp [ji] at h
  | x::r,y::s,0,d,h=>by
    simp only [ji,List.getElem?_cons_zero] at h
    cases h;exact⟨x,y,rfl,rfl,rfl⟩
  | x::r,y::s,i+1,d,h=>by
    simp only [ji,List.getElem?_cons_succ] at h
    obtain⟨a,b,h1,h2,h3⟩:=oX h
    exact⟨a,b,by simpa using h1,by simpa using h2,h3⟩
theorem zipD_len:∀(xs ys:List PyData),(ji xs ys).length=min xs.length ys.length
  | [],ys=>by simp [ji]
  | x::r,[]=>by simp [ji]
  | x::r,y::s=>by simp [ji,zipD_len r s]
theorem yU{P Q:Hp→Addr→List V→Prop}{J:It}{l1 l2:Addr}{b1 b2:Bool}{xs ys:List PyData}{own1 own2:io}{F0:Hp}(h1:AV K σ F0 l1 b1 xs own1)(h2:AV K σ F0 l2 b2 ys own2)
    (hP:∀H vs,(if b1=true then f9 K H l1 vs else dz K H l1 vs)→P H l1 vs)(hQ:∀H vs,(if b2=true then f9 K H l2 vs else dz K H l2 vs)→Q H l2 vs)
    (go:∀i H vs us x y,P H l1 vs→Q H l2 us→vs[i]?=some x→us[i]?=some y→J.go i H)(stop:∀i H vs us,P H l1 vs→Q H l2 us→(vs.length≤i∨us.length≤i)→J.stop i H)
    (yld:∀i H v H',J.yld i H v H'→∃p x y,v=.ref p∧H p=none∧H'=a8 H p (.tup [x,y])∧∀xs ys,P H l1 xs→Q H l2 ys→xs[i]?=some x∧ys[i]?=some y):
    xX K σ J (ji xs ys) (own1++own2) F0:=by
  intro F H s0 s1 hh
  obtain⟨vs,d1,q1⟩:=h1.at s0 s1 hh fun _ h=>List.mem_append.mpr (.inl h)
  obtain⟨us,d2,q2⟩:=h2.at s0 s1 hh fun _ h=>List.mem_append.mpr (.inr h)
  have q1:=hP H vs q1
  have q2:=hQ H us q2
  have l1':=d1.len
  have l2':=d2.len
  rw [zipD_len]
  refine⟨fun i hi=>go i H vs us (vs[i]'(by lia)) (us[i]'(by lia)) q1 q2 (List.getElem?_eq_getElem _) (List.getElem?_eq_getElem _),fun i hi=>stop i H vs us q1 q2 (by lia),fun i x v H' hx hy=>?_⟩
  obtain⟨t,a,b,rfl,ht,rfl,hy3⟩:=yld i H v H' hy
  obtain⟨x',y',hx2,hy',rfl⟩:=oX hx
  obtain⟨w,g1,g2⟩:=d1.get hx2
  obtain⟨w',g3,g4⟩:=d2.get hy'
  obtain⟨e1,e2⟩:=hy3 vs us q1 q2
  rw [g1] at e1;cases e1
  rw [g3] at e2;cases e2
  exact zc s1 ht g2 g4
def aM(lo:Int)(n:Nat):List PyData:=(List.range n).map fun(i:Nat)=>.int (lo+(i:Int))
theorem uE{lo:Int}{n:Nat}{F0:Hp}:xX K σ (HY lo n) (aM lo n) [] F0:=by
  intro F H s0 s1 hh
  unfold aM
  rw [List.length_map,List.length_range]
  refine⟨fun i hi=>hi,fun i hi=>hi,fun i x v H' hx hy=>?_⟩
  obtain⟨rfl,rfl⟩:=hy
  rw [List.getElem?_map] at hx
  obtain⟨k,h1,rfl⟩:=Ma hx
  have h2:=(Mb h1).2
  simp at h2
  subst h2
  exact⟨F,aw.refl _,aw.refl _,s1,fun _ h _=>h,cg.mpr rfl⟩
end
inductive Ik (K:PySem.W.Frag) (own:io) (σ0:L2.St) (F1:Hp) (P:En→Prop) (G:L2.St→Hp→Hp→En→Prop) (σ:L2.St) (H:Hp):Prop
  | mk {F:Hp} {e:En} (R:a_ K F H σ e) (kp:keeps own e) (hσ:∀p∈own,σ[p.1]?=σ0[p.1]?) (sF:aw F1 F) (hf:P e) (q:G σ F H e):Ik K own σ0 F1 P G σ H
section
variable{X:Cx}{K:PySem.W.Frag}{tg a b:Expr}{es:List Expr}{fa:FE}{fs:FA}{pos p tp:Pos}{k0:Nat}
def gw(fa:FE):FI:=fun e=>(fa e).bind fun p=>(Av p.2 p.1).map fun s=>(s.2.1,s.2.2,p.2)
theorem dq(hK:X.K=K)(h:PE X a (fE K fa)):PI X tg a (fI K (gw fa)):=((zD (tg:=tg) hK h).or (B1 (tg:=tg) hK h)).mono fun σ H R hh=>by
  obtain⟨F,e,items,own,e',R0,hf,q⟩:=hh
  unfold gw at hf
  obtain⟨⟨r,e1⟩,h1,hf⟩:=L' hf
  obtain⟨⟨b,xs,ow⟩,h2,hf⟩:=Ma hf
  cases hf
  cases b with
  | true=>
    refine .inl ⟨F,e,r,e1,R0,h1,fun F1 H1 v X1 R1 A1=>?_⟩
    obtain⟨F2,p,R2,s2,f2,rfl,sc,kp⟩:=wg R1 A1 h2
    obtain⟨vs,_,c⟩:=sc.at (aw.refl _) R2.sm (R2.held kp) fun _ h=>h
    exact⟨p,rfl,⟨vs,c⟩,q _ F2 H1 (X1.frz s2 f2) R2 kp (wY sc)⟩
  | false=>
    refine .inr ⟨F,e,r,e1,R0,h1,fun F1 H1 v X1 R1 A1=>?_⟩
    obtain⟨F2,p,R2,s2,f2,rfl,sc,kp⟩:=wg R1 A1 h2
    obtain⟨vs,_,c⟩:=sc.at (aw.refl _) R2.sm (R2.held kp) fun _ h=>h
    exact⟨p,rfl,⟨vs,c⟩,q _ F2 H1 (X1.frz s2 f2) R2 kp (yR sc)⟩
def Aj(j:Int):Bool:=decide (-1000000≤j)&&decide (j≤1000000)
theorem Ak{j:Int}(h:Aj j=true): -1000000≤j∧j≤1000000:=by
  unfold Aj at h
  rw [Bool.and_eq_true,decide_eq_true_iff,decide_eq_true_iff] at h
  exact h
def bR(fs:FA):FI:=fun e=>(fs e).bind fun p=>match p.1 with
  | [r]=>(cv r).bind fun j=>if Aj j=true then some (aM 0 j.toNat,[],p.2) else none
  | _=>none
theorem bG(hg:Gl X "range")(hm:X.mg "range"=none)(ha:PA X [a] (fA K fs))(hs:starEach [a] X.env=[(false,eval a X.env)]):PI X tg (.Call (.Name "range" p) [a] [] pos) (fI K (bR fs)):=(xn hg hm ha hs).mono fun σ H R hh=>by
  obtain⟨F,e,items,own,e',R0,hf,q⟩:=hh
  unfold bR at hf
  obtain⟨⟨rs,e1⟩,h1,hf⟩:=L' hf
  match rs,h1,hf with
  | [r],h1,hf=>
  obtain⟨j,h2,hf⟩:=L' hf
  split at hf
  case isFalse=>cases hf
  case isTrue hj=>
  cases hf
  refine⟨F,e,_,e1,R0,h1,fun F1 H1 vs X1 R1 A1=>?_⟩
  obtain⟨v,rfl,A2⟩:=nv A1
  have:=Ak hj
  exact⟨j,by rw [cj A2 h2],by lia,by lia,q _ F1 H1 X1 R1 (fun _ h=>by cases h) uE⟩
open Classical in
noncomputable def fW(own:io)(g:FG)(f:FS):List PyData→FS
  | [],e=>some (.nx e)
  | x::r,e=>(g x e).bind fun e1=>(f e1).bind fun fl=>match fl with
    | .nx e2=>if keeps own e2 then fW own g f r e2 else none
    | .ct e2=>if keeps own e2 then fW own g f r e2 else none
    | .bk e2=>some (.nx e2)
    | .rt v e2=>some (.rt v e2)
noncomputable def dC(W:List Nat)(fi:FI)(g:FG)(f:FS):FS:=fun e=>(fi e).bind fun p=>if (p.2.1.all fun q=> !W.contains q.1)=true then fW p.2.1 g f p.1 p.2.2 else none
theorem eX{W1 W2:List Nat}{iter:Expr}{body:List Stmt}{fi:FI}{g:FG}{f:FS}(hp:PassesOwn (model X.prog X.w) X.A X.env X.xe)(hc:X.calm=true)(hi:PI X tg iter (fI K fi))(hg:PG X tg (fG K g W1))(hb:jk X body (fS K f W2))(hs:∀x,foldedSetIterable iter X.env x=pure x):
    PS X (.For tg iter body [] pos) (fS K (dC (W1++W2) fi g f) (W1++W2)):=(zK hp hc hi hg hb hs).mono fun D σ0 H0 hh=>by
  obtain⟨F0,e0,fl,R0,hf,q0⟩:=hh
  unfold dC at hf
  obtain⟨⟨items,own,e1⟩,h1,hf⟩:=L' hf
  dsimp only at hf
  split at hf
  case isFalse=>cases hf
  case isTrue hW=>
  have hW':∀p∈own,p.1∉W1++W2:=fun p hp=>by
    have:=List.all_eq_true.mp hW p hp
    simpa using this
  refine⟨F0,e0,items,own,e1,R0,h1,fun J F1 H1 X1 R1 kp ok=>?_⟩
  have s1:∀j,j∈W1→j∈W1++W2:=fun j h=>List.mem_append.mpr (.inl h)
  have s2:∀j,j∈W2→j∈W1++W2:=fun j h=>List.mem_append.mpr (.inr h)
  have q1:nU K (W1++W2) σ0 F1 H1 e1 D fl:=q0.later (W1:=[]) X1.s (fun j h=>by cases h) fun j h=>h
  refine⟨fun i m σ H=>m=items.length - i∧i≤items.length∧Ik K own σ0 F1 (fun e=>fW own g f (items.drop i) e=some fl) (fun σ F H e=>nU K (W1++W2) σ F H e D fl) σ H,
    ⟨items.length,by simp,Nat.zero_le _,.mk R1 kp (fun _ _=>rfl) (aw.refl _) hf q1⟩,?_⟩
  rintro i m σ H ⟨rfl,hi,⟨R,kp,hσ,sF,hf,q⟩⟩
  rename_i F e
  have held:wB K σ0 F H own:=fun p hp=>by
    obtain⟨l,vs,g1,g2⟩:=R.held kp p hp
    exact⟨l,vs,by rw [←hσ p hp];exact g1,g2⟩
  obtain⟨go,stop,yld⟩:=ok F H sF R.sm held
  by_cases hlt:i < items.length
  · have hd:items.drop i=items[i]::items.drop (i+1):=List.drop_eq_getElem_cons hlt
    rw [hd] at hf
    unfold fW at hf
    obtain⟨e2,h2,hf⟩:=L' hf
    obtain⟨fl2,h3,hf⟩:=L' hf
    refine .inr ⟨go i hlt,Ik K own σ0 F1 (fun e=>fW own g f (items.drop (i+1)) e=some fl) (fun σ F H e=>nU K (W1++W2) σ F H e D fl),
      fun σ' H' r=>⟨items.length - (i+1),by lia,rfl,hlt,r⟩,fun x H' hy=>?_⟩
    obtain⟨F',sH,sF',sm',fz,hx⟩:=yld i items[i] x H' (List.getElem?_eq_getElem hlt) hy
    obtain⟨R',X'⟩:=R.step sH sF' sm' fz
    refine⟨F',e,items[i],e2,R',hx,h2,fun σ2 x2 R2=>⟨F',e2,fl2,R2,h3,?_⟩⟩
    have q2:nU K (W1++W2) σ2 F' H' e2 D fl:=(q.later (W1:=[]) (W2:=W1++W2) X'.s (fun j h=>by cases h) fun j h=>h).later x2 s1 fun j h=>h
    have w2:∀p∈own,σ2[p.1]?=σ0[p.1]?:=fun p hp=>(x2.wr p.1 fun z=>hW' p hp (s1 _ z)).trans (hσ p hp)
    cases fl2 with
    | nx e3=>
      intro F3 H3 σ3 x3 R3
      dsimp only at hf
      split at hf
      case isFalse=>cases hf
      case isTrue kp3=>
      exact .mk R3 kp3 (fun p hp=>(x3.wr p.1 fun z=>hW' p hp (s2 _ z)).trans (w2 p hp)) (sF.trans (sF'.trans x3.sf)) hf (q2.later x3 s2 fun j h=>h)
    | ct e3=>
      intro F3 H3 σ3 x3 R3
      dsimp only at hf
      split at hf
      case isFalse=>cases hf
      case isTrue kp3=>
      exact .mk R3 kp3 (fun p hp=>(x3.wr p.1 fun z=>hW' p hp (s2 _ z)).trans (w2 p hp)) (sF.trans (sF'.trans x3.sf)) hf (q2.later x3 s2 fun j h=>h)
    | bk e3=>
      cases hf
      exact fun F3 H3 σ3 x3 R3=>q2 F3 H3 σ3 (x3.mono s2) R3
    | rt r e3=>
      cases hf
      exact fun F3 H3 σ3 v x3 R3 A3=>q2 F3 H3 σ3 v (x3.mono s2) R3 A3
  · have hd:items.drop i=[]:=List.drop_eq_nil_of_le (by lia)
    rw [hd] at hf
    cases hf
    exact .inl ⟨stop i (by lia),q F H σ de.refl R⟩
end
def yN:Option (Option Sv)→Bool
  | some (some (.l _))=>true
  | _=>false
theorem vN{s:Option (Option Sv)}:yN s=true↔ ∃xs,s=some (some (.l xs)):=by
  unfold yN
  split
  · simp
  · rename_i h
    constructor
    · intro z;cases z
    · rintro⟨xs,rfl⟩;exact absurd rfl (h xs)
def mB(pos:Nat→Option Nat)(ei e:En):En:=e.mapIdx fun i s=>match s with
  | some (.l xs)=>match pos i with
    | some k=>(ei[k]?).join
    | none=>some (.l xs)
  | s=>s
theorem cN{pos:Nat→Option Nat}{ei e:En}{i:Nat}:(mB pos ei e)[i]?=(e[i]?).map fun s=>match s with
  | some (.l xs)=>match pos i with
    | some k=>(ei[k]?).join
    | none=>some (.l xs)
  | s=>s:=by unfold mB;rw [List.getElem?_mapIdx]
structure rW (σ:L2.St) (e:En) (σi:L2.St) (ei:En) (pos:Nat→Option Nat):Prop where
  a:∀(i k:Nat) (xs:List PyData),e[i]?=some (some (.l xs))→pos i=some k→σi[k]?=σ[i]?
  b:∀(k:Nat) (ys:List PyData),ei[k]?=some (some (.l ys))→∃(i:Nat) (xs:List PyData),e[i]?=some (some (.l xs))∧pos i=some k∧σi[k]?=σ[i]?
section
variable{K:PySem.W.Frag}{σ σi σi':L2.St}{F H F' H':Hp}{e ei ei':En}{pos:Nat→Option Nat}
def Gn(e:En):Prop:=∀(i:Nat) (xss:List (List PyData)),e[i]?≠some (some (.n xss))
theorem rW.own(s:rW σ e σi ei pos)(hn:Gn ei){a:Addr}{H H':Hp}(h:b_ σi ei H a):∃(i k:Nat) (xs:List PyData),e[i]?=some (some (.l xs))∧pos i=some k∧σ[i]?=some (some (.ref a)):=by
  obtain⟨k,⟨ys,h1,h2⟩ | ⟨xss,_,_,h1,_⟩⟩:=h
  · obtain⟨i,xs,g1,g2,g3⟩:=s.b k ys h1
    exact⟨i,k,xs,g1,g2,by rw [←g3];exact h2⟩
  · exact absurd h1 (hn k xss)
theorem oQ(R:a_ K F H σ e)(s:rW σ e σi ei pos)(hnn:Gn ei)(sf:aw F F')(dom:∀a,H' a=none→H a=none)(fr:∀a vs,F a=none→H a=some (.lst vs)→¬b_ σi ei H a→F' a=none)(lst:∀a vs,H a=some (.lst vs)→∃vs',H' a=some (.lst vs'))
    (tmp:∀a o,H a=some o→¬b_ σi ei H a→H' a=some o)(fd:∀a m,F a=none→H a=some (.dK m)→¬b_ σi ei H a→F' a=none)(R':a_ K F' H' σi' ei')(hσ:∀(i k:Nat) (xs:List PyData),e[i]?=some (some (.l xs))→pos i=some k→σi'[k]?=σi[k]?)(hsh:∀(i k:Nat) (xs:List PyData),e[i]?=some (some (.l xs))→pos i=some k→∃ys,ei'[k]?=some (some (.l ys))):
    a_ K F' H' σ (mB pos ei' e)∧ez σ F H e F' H' (mB pos ei' e)∧∀a,b_ σ (mB pos ei' e) H' a→b_ σ e H a:=by
  have shp:∀i:Nat,(∃xs,(mB pos ei' e)[i]?=some (some (.l xs)))↔ (∃xs,e[i]?=some (some (.l xs))):=by
    intro i
    rw [cN]
    match h:e[i]? with
    | none=>simp
    | some none=>simp
    | some (some (.d x))=>simp
    | some (some (.n x))=>simp
    | some (some (.l xs))=>
      simp only [Option.map_some]
      constructor
      · intro _;exact⟨xs,rfl⟩
      · intro _
        match hp:pos i with
        | none=>exact⟨xs,rfl⟩
        | some k=>
          obtain⟨ys,g⟩:=hsh i k xs h hp
          exact⟨ys,by show some ((ei'[k]?).join)=_;rw [g];rfl⟩
  have oth:∀(i:Nat) (s:Sv),(∀xs,s≠.l xs)→((mB pos ei' e)[i]?=some (some s)↔ e[i]?=some (some s)):=by
    intro i s hs
    constructor
    · intro h
      rw [cN] at h
      match h1:e[i]?,h with
      | some (some (.d y)),h=>exact h
      | some (some (.n y)),h=>exact h
      | some (some (.l ys)),h=>
        simp only [Option.map_some,Option.some.injEq] at h
        match hp:pos i,h with
        | none,h=>cases h;exact absurd rfl (hs _)
        | some k,h=>
          obtain⟨zs,g⟩:=hsh i k ys h1 hp
          change (ei'[k]?).join=_ at h
          rw [g] at h;cases h;exact absurd rfl (hs _)
      | some none,h=>simp at h
      | none,h=>simp at h
    · intro h
      rw [cN,h]
      cases s with
      | d y=>rfl
      | n y=>rfl
      | l y=>exact absurd rfl (hs y)
  have out:∀i a,Fp σ e H i a→(∀k xs,e[i]?=some (some (.l xs))→pos i≠some k)→¬b_ σi ei H a:=by
    intro i a hi hp z
    obtain⟨j,k,ws,d1,d2,d3⟩:=s.own hnn (H':=H') z
    have:i=j:=R.fp i j a hi (.inl ⟨ws,d1,d3⟩)
    subst this
    exact hp k ws d1 d2
  have keep:∀i a o,Fp σ e H i a→(∀k xs,e[i]?=some (some (.l xs))→pos i≠some k)→H a=some o→H' a=some o:=fun i a o hi hp ha=>tmp a o ha (out i a hi hp)
  have sown:∀a,b_ σi ei H a→b_ σ e H a:=fun a z=>by
    obtain⟨j,k,ws,d1,d2,d3⟩:=s.own hnn (H':=H') z
    exact⟨j,.inl ⟨ws,d1,d3⟩⟩
  have fs:∀i a,Fp σ (mB pos ei' e) H' i a↔ Fp σ e H i a:=by
    intro i a
    have key:∀xss l,e[i]?=some (some (.n xss))→σ[i]?=some (some (.ref l))→H' l=H l:=fun xss l h1 h2=>by
      obtain⟨l',bs,g1,g2,g3,_⟩:=R.nst i xss h1
      rw [h2] at g1;cases g1
      rw [g3]
      exact keep i l _ (.inr ⟨xss,l,bs,h1,h2,g3,.inl rfl⟩) (fun k xs z=>by rw [h1] at z;cases z) g3
    constructor
    · rintro(⟨xs,h1,h2⟩ | ⟨xss,l,bs,h1,h2,h3,h4⟩)
      · obtain⟨ys,h⟩:=(shp i).mp ⟨xs,h1⟩
        exact .inl ⟨ys,h,h2⟩
      · have h1':=(oth i (.n xss) (fun _ z=>nomatch z)).mp h1
        exact .inr ⟨xss,l,bs,h1',h2,by rw [←key xss l h1' h2];exact h3,h4⟩
    · rintro(⟨xs,h1,h2⟩ | ⟨xss,l,bs,h1,h2,h3,h4⟩)
      · obtain⟨ys,h⟩:=(shp i).mpr ⟨xs,h1⟩
        exact .inl ⟨ys,h,h2⟩
      · exact .inr ⟨xss,l,bs,(oth i (.n xss) (fun _ z=>nomatch z)).mpr h1,h2,by rw [key xss l h1 h2];exact h3,h4⟩
  refine⟨⟨R'.sm,?_,fun i x h=>?_,fun i xs h=>?_,fun i xss h=>?_,fun i j a h1 h2=>R.fp i j a ((fs i a).mp h1) ((fs j a).mp h2)⟩,⟨sf,dom,fun a vs h1 h2 n=>fr a vs h1 h2 fun z=>n (sown a z),lst,fun a o h n=>tmp a o h fun z=>n (sown a z),shp,fun a ⟨i,h⟩=>.inl ⟨i,(fs i a).mp h⟩,fun a m h1 h2 n=>fd a m h1 h2 fun z=>n (sown a z)⟩,fun a ⟨i,h⟩=>⟨i,(fs i a).mp h⟩⟩
  · unfold mB;rw [List.length_mapIdx];exact R.len
  · obtain⟨v,g1,g2⟩:=R.dat i x ((oth i (.d x) (fun _ z=>nomatch z)).mp h)
    exact⟨v,g1,DA.mono sf g2⟩
  · obtain⟨ys,h1⟩:=(shp i).mp ⟨xs,h⟩
    obtain⟨l,vs,g1,g2,g3,g4⟩:=R.own i ys h1
    rw [cN,h1] at h
    simp only [Option.map_some,Option.some.injEq] at h
    match hp:pos i,h with
    | none,h=>
      cases h
      have np:∀k xs,e[i]?=some (some (Sv.l xs))→pos i≠some k:=fun k xs _ z=>by rw [hp] at z;cases z
      have fi:Fp σ e H i l:=.inl ⟨_,h1,g1⟩
      exact⟨l,vs,g1,fr l vs g2 g3 (out i l fi np),keep i l _ fi np g3,g4.mono sf⟩
    | some k,h=>
      obtain⟨zs,c1⟩:=hsh i k ys h1 hp
      change (ei'[k]?).join=_ at h
      rw [c1] at h;cases h
      obtain⟨l',vs',d1,d2,d3,d4⟩:=R'.own k _ c1
      rw [hσ i k ys h1 hp,s.a i k ys h1 hp] at d1
      exact⟨l',vs',d1,d2,d3,d4⟩
  · have h1:=(oth i (.n xss) (fun _ z=>nomatch z)).mp h
    obtain⟨l,bs,g1,g2,g3,g4,g5,g6,g7⟩:=R.nst i xss h1
    have np:∀k xs,e[i]?=some (some (Sv.l xs))→pos i≠some k:=fun k xs z=>by rw [h1] at z;cases z
    have fi:Fp σ e H i l:=.inr ⟨xss,l,bs,h1,g1,g3,.inl rfl⟩
    refine⟨l,bs,g1,fr l _ g2 g3 (out i l fi np),keep i l _ fi np g3,g4,g5,g6,fun k b ys q1 q2=>?_⟩
    obtain⟨c1,us,c2,c3⟩:=g7 k b ys q1 q2
    have fb:Fp σ e H i b:=.inr ⟨xss,l,bs,h1,g1,g3,.inr (Mf q1)⟩
    exact⟨fr b _ c1 c2 (out i b fb np),us,keep i b _ fb np c2,c3.mono sf⟩
end
def eE(e:En):List Rv→Option (List Sv)
  | []=>some []
  | .d x::r=>(eE e r).map (.d x::·)
  | .l xs::r=>(eE e r).map (.d (.list xs)::·)
  | .s i::r=>match e[i]? with
    | some (some (.l xs))=>(eE e r).map (.l xs::·)
    | _=>none
def aU:List Rv→List Nat
  | []=>[]
  | .s i::r=>i::aU r
  | .d _::r=>aU r
  | .l _::r=>aU r
def kJ(rs:List Rv)(i:Nat):Option Nat:=rs.findIdx? fun r=>match r with
  | .s j=>j==i
  | _=>false
def noS:Rv→Prop
  | .s _=>False
  | _=>True
abbrev FM:=List Sv→Option (Rv × List Sv)
def cq(K:PySem.W.Frag)(n:Nat)(m:FM):Sp:=fun vs H Q _=>vs.length=n∧∃F as r as',a_ K F H (vs.map some) (as.map some)∧Gn (as.map some)∧m as=some (r,as')∧noS r∧
  ∀F' H' v,ez (vs.map some) F H (as.map some) F' H' (as'.map some)→a_ K F' H' (vs.map some) (as'.map some)→cH K (vs.map some) H F' H' (as'.map some) r v→Q v H'
def bD:List Rv→List Sv→Bool
  | [],[]=>true
  | .s _::r,.l _::s=>bD r s
  | .d _::r,_::s=>bD r s
  | .l _::r,_::s=>bD r s
  | _,_=>false
def Et:Rv→Bool
  | .s _=>false
  | _=>true
def hG:List Rv→List Sv→En→En
  | .s i::r,.l ys::s,e=>hG r s (e.set i (some (.l ys)))
  | .d _::r,_::s,e=>hG r s e
  | .l _::r,_::s,e=>hG r s e
  | _,_,e=>e
def cV(n:Nat)(m:FM)(fs:FA):FE:=fun e=>(fs e).bind fun p=>(eE p.2 p.1).bind fun as=>(m as).bind fun z=>if p.1.length=n∧(aU p.1).Nodup∧bD p.1 z.2=true∧Et z.1=true then some (z.1,hG p.1 z.2 p.2) else none
theorem i6:∀{rs:List Rv} {as:List Sv},bD rs as=true→∀(k i:Nat),rs[k]?=some (.s i)→∃ys,as[k]?=some (.l ys)
  | [],[],_,k,i,h=>by simp at h
  | .s j::r,.l ys::s,h,k,i,hk=>by
    cases k with
    | zero=>exact⟨ys,rfl⟩
    | succ k=>simpa using i6 (rs:=r) (as:=s) (by simpa [bD] using h) k i (by simpa using hk)
  | .d x::r,y::s,h,k,i,hk=>by
    cases k with
    | zero=>simp at hk
    | succ k=>simpa using i6 (rs:=r) (as:=s) (by simpa [bD] using h) k i (by simpa using hk)
  | .l x::r,y::s,h,k,i,hk=>by
    cases k with
    | zero=>simp at hk
    | succ k=>simpa using i6 (rs:=r) (as:=s) (by simpa [bD] using h) k i (by simpa using hk)
  | .s _::_,.d _::_,h,_,_,_=>by simp [bD] at h
  | .s _::_,[],h,_,_,_=>by simp [bD] at h
  | .d _::_,[],h,_,_,_=>by simp [bD] at h
  | .l _::_,[],h,_,_,_=>by simp [bD] at h
theorem mr{r0:Rv}{rs:List Rv}{i:Nat}:kJ (r0::rs) i=if (match r0 with | .s j=>j==i | _=>false)=true then some 0 else(kJ rs i).map (· +1):=by
  unfold kJ;rw [List.findIdx?_cons]
theorem mv{rs:List Rv}{i k:Nat}(h:kJ rs i=some k):rs[k]?=some (.s i):=by
  unfold kJ at h
  rw [List.findIdx?_eq_some_iff_getElem] at h
  obtain⟨hk,h1,_⟩:=h
  rw [List.getElem?_eq_getElem hk]
  split at h1
  · rename_i heq
    rw [heq]
    have:=eq_of_beq h1
    rw [this]
  · cases h1
theorem gE:∀{rs:List Rv} {i:Nat},i∈aU rs↔ Rv.s i∈rs
  | [],i=>by simp [aU]
  | .s j::r,i=>by simp [aU,gE (rs:=r)]
  | .d x::r,i=>by simp [aU,gE (rs:=r)]
  | .l x::r,i=>by simp [aU,gE (rs:=r)]
theorem gY:∀{rs:List Rv} {i k j:Nat},(aU rs).Nodup→rs[k]?=some (.s i)→rs[j]?=some (.s i)→k=j
  | [],i,k,j,_,h,_=>by simp at h
  | .s m::r,i,k,j,hn,h1,h2=>by
    simp only [aU,List.nodup_cons] at hn
    cases k with
    | zero=>
      simp at h1;subst h1
      cases j with
      | zero=>rfl
      | succ j=>exact absurd (gE.mpr (Mf (by simpa using h2))) hn.1
    | succ k=>
      cases j with
      | zero=>
        simp at h2;subst h2
        exact absurd (gE.mpr (Mf (by simpa using h1))) hn.1
      | succ j=>
        have:=gY (rs:=r) (i:=i) (k:=k) (j:=j) hn.2 (by simpa using h1) (by simpa using h2)
        lia
  | .d x::r,i,k,j,hn,h1,h2=>by
    cases k with
    | zero=>simp at h1
    | succ k=>
      cases j with
      | zero=>simp at h2
      | succ j=>
        have:=gY (rs:=r) (i:=i) (k:=k) (j:=j) (by simpa [aU] using hn) (by simpa using h1) (by simpa using h2)
        lia
  | .l x::r,i,k,j,hn,h1,h2=>by
    cases k with
    | zero=>simp at h1
    | succ k=>
      cases j with
      | zero=>simp at h2
      | succ j=>
        have:=gY (rs:=r) (i:=i) (k:=k) (j:=j) (by simpa [aU] using hn) (by simpa using h1) (by simpa using h2)
        lia
theorem zH{rs:List Rv}{i:Nat}(h:i∉aU rs):kJ rs i=none:=by
  unfold kJ
  rw [List.findIdx?_eq_none_iff]
  intro r hr
  cases r with
  | d x=>rfl
  | l x=>rfl
  | s j=>
    have:j≠i:=fun z=>h (by rw [←z];exact gE.mpr hr)
    simpa using this
theorem nh:∀{rs:List Rv} {as:List Sv} {e:En},(aU rs).Nodup→bD rs as=true→(∀j∈aU rs,∃xs,e[j]?=some (some (.l xs)))→hG rs as e=mB (kJ rs) (as.map some) e
  | [],[],e,_,_,_=>by
    refine List.ext_getElem? fun i=>?_
    rw [cN]
    have:kJ [] i=none:=rfl
    rw [this]
    simp only [hG]
    match e[i]? with
    | none=>rfl
    | some none=>rfl
    | some (some (.d x))=>rfl
    | some (some (.l x))=>rfl
    | some (some (.n x))=>rfl
  | .d x::r,y::s,e,hn,hl,hs=>by
    rw [show hG (.d x::r) (y::s) e=hG r s e from rfl,nh (by simpa [aU] using hn) (by simpa [bD] using hl) (fun j hj=>hs j (by simpa [aU] using hj))]
    refine List.ext_getElem? fun i=>?_
    rw [cN,cN,mr]
    cases kJ r i<;>simp
  | .l x::r,y::s,e,hn,hl,hs=>by
    rw [show hG (.l x::r) (y::s) e=hG r s e from rfl,nh (by simpa [aU] using hn) (by simpa [bD] using hl) (fun j hj=>hs j (by simpa [aU] using hj))]
    refine List.ext_getElem? fun i=>?_
    rw [cN,cN,mr]
    cases kJ r i<;>simp
  | .s k::r,.l ys::s,e,hn,hl,hs=>by
    simp only [aU,List.nodup_cons] at hn
    obtain⟨xs,hk⟩:=hs k (by simp [aU])
    have hlt:k < e.length:=(Mb hk).1
    rw [show hG (.s k::r) (.l ys::s) e=hG r s (e.set k (some (.l ys))) from rfl,nh hn.2 (by simpa [bD] using hl) (fun j hj=>by
      have z:k≠j:=fun z=>hn.1 (by rw [z];exact hj)
      rw [List.getElem?_set_ne z]
      exact hs j (by simp [aU,hj]))]
    refine List.ext_getElem? fun i=>?_
    rw [cN,cN,mr]
    by_cases z:k=i
    · subst z
      rw [List.getElem?_set_self hlt,hk,zH hn.1]
      simp
    · rw [List.getElem?_set_ne z]
      have:((match (Rv.s k) with | .s j=>j==i | _=>false)=true)=False:=by simp [z]
      simp only [this,if_false]
      cases kJ r i<;>simp
  | .s _::_,.d _::_,_,_,h,_=>by simp [bD] at h
  | .s _::_,.n _::_,_,_,h,_=>by simp [bD] at h
  | .s _::_,[],_,_,h,_=>by simp [bD] at h
  | .d _::_,[],_,_,h,_=>by simp [bD] at h
  | .l _::_,[],_,_,h,_=>by simp [bD] at h
  | [],_::_,_,_,h,_=>by simp [bD] at h
theorem f_{e:En}:∀{rs:List Rv} {as:List Sv},eE e rs=some as→∀j∈aU rs,∃xs,e[j]?=some (some (.l xs))
  | [],_,_,j,h=>by simp [aU] at h
  | .d x::rs,as,q,j,h=>by
    obtain⟨as',q1,rfl⟩:=Ma q
    exact f_ q1 j (by simpa [aU] using h)
  | .l x::rs,as,q,j,h=>by
    obtain⟨as',q1,rfl⟩:=Ma q
    exact f_ q1 j (by simpa [aU] using h)
  | .s k::rs,as,q,j,h=>by
    unfold eE at q
    match he:e[k]?,q with
    | some (some (.l xs)),q=>
      obtain⟨as',q1,rfl⟩:=Ma q
      simp only [aU,List.mem_cons] at h
      rcases h with rfl | h
      · exact⟨xs,he⟩
      · exact f_ q1 j h
theorem kS{e:En}:∀{rs:List Rv} {as:List Sv} {k i:Nat},eE e rs=some as→rs[k]?=some (.s i)→∃xs,as[k]?=some (.l xs)
  | [],_,k,i,_,h=>by simp at h
  | .d x::rs,as,k,i,q,h=>by
    obtain⟨as',q1,rfl⟩:=Ma q
    cases k with
    | zero=>simp at h
    | succ k=>simpa using kS (k:=k) (i:=i) q1 (by simpa using h)
  | .l x::rs,as,k,i,q,h=>by
    obtain⟨as',q1,rfl⟩:=Ma q
    cases k with
    | zero=>simp at h
    | succ k=>simpa using kS (k:=k) (i:=i) q1 (by simpa using h)
  | .s j::rs,as,k,i,q,h=>by
    unfold eE at q
    match he:e[j]?,q with
    | some (some (.l xs)),q=>
      obtain⟨as',q1,rfl⟩:=Ma q
      cases k with
      | zero=>exact⟨xs,rfl⟩
      | succ k=>simpa using kS (k:=k) (i:=i) q1 (by simpa using h)
section
variable{X:Cx}{K:PySem.W.Frag}{σ:L2.St}{H0 H:Hp}{e:En}
theorem m7:∀{rs:List Rv} {vs:List V} {as:List Sv} {F:Hp},a_ K F H σ e→dR K σ H0 F H e rs vs→eE e rs=some as→
    ∃F',a_ K F' H σ e∧aw F F'∧(∀a,F a=none→H0 a≠none→F' a=none)∧vs.length=as.length∧rs.length=as.length∧
      (∀(k:Nat) (x:PyData),as[k]?=some (.d x)→∃v,vs[k]?=some v∧DA K F' x v)∧∀(k:Nat) (xs:List PyData),as[k]?=some (.l xs)→∃i,rs[k]?=some (.s i)∧e[i]?=some (some (.l xs))∧∃v,vs[k]?=some v∧σ[i]?=some (some v)
  | [],vs,as,F,R,h,q=>by
    cases q
    have h':vs=[]:=h
    subst h'
    exact⟨F,R,aw.refl _,fun _ h _=>h,rfl,rfl,fun k x h=>by simp at h,fun k x h=>by simp at h⟩
  | .d x::rs,_,as,F,R,h,q=>by
    obtain⟨v,ws,rfl,h1,h2⟩:=h
    obtain⟨as',q1,rfl⟩:=Ma q
    obtain⟨F',R',s',f',l1,l2,d',o'⟩:=m7 R h2 q1
    refine⟨F',R',s',f',by simp [l1],by simp [l2],fun k y hk=>?_,fun k ys hk=>?_⟩
    · cases k with
      | zero=>simp at hk;subst hk;exact⟨v,rfl,DA.mono s' h1⟩
      | succ k=>simpa using d' k y (by simpa using hk)
    · cases k with
      | zero=>simp at hk
      | succ k=>simpa using o' k ys (by simpa using hk)
  | .l xs::rs,_,as,F,R,h,q=>by
    obtain⟨v,ws,rfl,h1,h2⟩:=h
    obtain⟨as',q1,rfl⟩:=Ma q
    obtain⟨F',R',s',f',l1,l2,d',o'⟩:=m7 R h2 q1
    have key:∃F2,a_ K F2 H σ e∧aw F' F2∧(∀a,F' a=none→H0 a≠none→F2 a=none)∧DA K F2 (.list xs) v:=by
      obtain⟨l,us,rfl,g1,g2,g3,g4,g5⟩:=h1
      cases hl:F' l with
      | none=>
        have h1':cH K σ H0 F' H e (.l xs) (.ref l):=⟨l,us,rfl,g1,hl,g3,aI.mono s' g4,g5⟩
        obtain⟨F2,R2,s2,d2,f2⟩:=h1'.frozen R'
        exact⟨F2,R2,s2,f2,d2⟩
      | some o=>
        have:=R'.sm _ _ hl
        rw [g3] at this;cases this
        exact⟨F',R',aw.refl _,fun _ h _=>h,eS.mpr ⟨l,us,rfl,.inl (.inl hl),aI.mono s' g4⟩⟩
    obtain⟨F2,R2,s2,f2,d2⟩:=key
    refine⟨F2,R2,s'.trans s2,fun a ha hn=>f2 a (f' a ha hn) hn,by simp [l1],by simp [l2],fun k y hk=>?_,fun k ys hk=>?_⟩
    · cases k with
      | zero=>simp at hk;subst hk;exact⟨v,rfl,d2⟩
      | succ k=>
        obtain⟨u,c1,c2⟩:=d' k y (by simpa using hk)
        exact⟨u,by simpa using c1,DA.mono s2 c2⟩
    · cases k with
      | zero=>simp at hk
      | succ k=>simpa using o' k ys (by simpa using hk)
  | .s i::rs,_,as,F,R,h,q=>by
    obtain⟨v,ws,rfl,h1,h2⟩:=h
    unfold eE at q
    match he:e[i]?,q with
    | some (some (.l xs)),q=>
      obtain⟨as',q1,rfl⟩:=Ma q
      obtain⟨F',R',s',f',l1,l2,d',o'⟩:=m7 R h2 q1
      refine⟨F',R',s',f',by simp [l1],by simp [l2],fun k y hk=>?_,fun k ys hk=>?_⟩
      · cases k with
        | zero=>simp at hk
        | succ k=>simpa using d' k y (by simpa using hk)
      · cases k with
        | zero=>simp at hk;subst hk;exact⟨i,rfl,he,v,rfl,h1.1⟩
        | succ k=>simpa using o' k ys (by simpa using hk)
theorem gu{α:Type}{l:List α}{k:Nat}{x:α}:(l.map some)[k]?=some (some x)↔ l[k]?=some x:=by
  rw [List.getElem?_map]
  cases l[k]?<;>simp
theorem cH.noS{σ':L2.St}{e':En}{F H:Hp}{r:Rv}{v:V}(h:cH K σ' H0 F H e' r v)(n:L2.noS r)(ho:∀a,b_ σ e H a→H0 a≠none):cH K σ H0 F H e r v:=by
  cases r with
  | d x=>exact h
  | l xs=>
    obtain⟨l,vs,e1,h1,h2,h3,h4,_⟩:=h
    exact⟨l,vs,e1,h1,h2,h3,h4,fun z=>ho l z h1⟩
  | s i=>exact absurd n (by simp [L2.noS])
theorem iV:∀{rs:List Rv} {as:List Sv},eE e rs=some as→Gn (as.map some)
  | [],_,q=>by cases q;intro i xss h;simp at h
  | .d x::rs,as,q=>by
    obtain⟨as',q1,rfl⟩:=Ma q
    have ih:=iV q1
    intro i xss h
    cases i with
    | zero=>simp at h
    | succ i=>exact ih i xss (by simpa using h)
  | .l x::rs,as,q=>by
    obtain⟨as',q1,rfl⟩:=Ma q
    have ih:=iV q1
    intro i xss h
    cases i with
    | zero=>simp at h
    | succ i=>exact ih i xss (by simpa using h)
  | .s j::rs,as,q=>by
    unfold eE at q
    match he:e[j]?,q with
    | some (some (.l xs)),q=>
      obtain⟨as',q1,rfl⟩:=Ma q
      have ih:=iV q1
      intro i xss h
      cases i with
      | zero=>simp at h
      | succ i=>exact ih i xss (by simpa using h)
theorem Gb{n:Nat}{m:FM}{fs:FA}{Q:VK}{E:XK}(h:fE K (cV n m fs) σ H Q):Ay (cq K n m) [] E (fA K fs) σ H Q:=by
  obtain⟨F,e,z,e',R,hf,q⟩:=h
  unfold cV at hf
  obtain⟨⟨rs,e1⟩,h1,hf⟩:=L' hf
  obtain⟨as,h2,hf⟩:=L' hf
  obtain⟨⟨r,as'⟩,h3,hf⟩:=L' hf
  split at hf
  case isFalse=>cases hf
  case isTrue hc=>
  obtain⟨c1,c2,c3,c4⟩:=hc
  cases hf
  refine⟨F,e,rs,e1,R,h1,fun F1 H1 vs X1 R1 A1=>?_⟩
  obtain⟨F2,R2,s2,f2,l1,l2,d2,o2⟩:=m7 R1 A1 h2
  have X2:=X1.frz s2 f2
  rw [List.append_nil]
  have hn:L2.noS r:=by
    cases r with
    | d x=>trivial
    | l x=>trivial
    | s i=>cases c4
  have nN:=iV h2
  have RA:a_ K F2 H1 (vs.map some) (as.map some):=by
    refine⟨R2.sm,by simp [l1],fun k x hk=>?_,fun k xs hk=>?_,fun k xss hk=>absurd hk (nN k xss),fun k j l f1 f2=>?_⟩
    · obtain⟨v,g1,g2⟩:=d2 k x (gu.mp hk)
      exact⟨v,gu.mpr g1,g2⟩
    · obtain⟨i,g1,g2,v,g3,g4⟩:=o2 k xs (gu.mp hk)
      obtain⟨l,us,k1,k2,k3,k4⟩:=R2.own i xs g2
      rw [g4] at k1;cases k1
      exact⟨l,us,gu.mpr g3,k2,k3,k4⟩
    · obtain⟨xs,g1,g3⟩:=f1.resolve_right fun⟨xss,_,_,z,_⟩=>nN k xss z
      obtain⟨ys,g2,g4⟩:=f2.resolve_right fun⟨xss,_,_,z,_⟩=>nN j xss z
      obtain⟨i1,a1,a2,v1,a3,a4⟩:=o2 k xs (gu.mp g1)
      obtain⟨i2,b1,b2,v2,b3,b4⟩:=o2 j ys (gu.mp g2)
      have e1:=gu.mp g3
      have e2:=gu.mp g4
      rw [a3] at e1;cases e1
      rw [b3] at e2;cases e2
      have:i1=i2:=R2.inj i1 i2 xs ys l a2 b2 a4 b4
      subst this
      exact gY c2 a1 b1
  have sub:rW σ e1 (vs.map some) (as.map some) (kJ rs):=by
    refine⟨fun i k xs g1 g2=>?_,fun k ys g1=>?_⟩
    · have g3:=mv g2
      obtain⟨zs,hs⟩:=kS h2 g3
      obtain⟨i',a1,a2,v,a3,a4⟩:=o2 k zs hs
      rw [g3] at a1;cases a1
      rw [gu.mpr a3,a4]
    · obtain⟨i,a1,a2,v,a3,a4⟩:=o2 k ys (gu.mp g1)
      refine⟨i,ys,a2,?_,by rw [gu.mpr a3,a4]⟩
      cases hp:kJ rs i with
      | none=>
        unfold kJ at hp
        rw [List.findIdx?_eq_none_iff] at hp
        have:=hp _ (Mf a1)
        simp at this
      | some j=>rw [gY c2 (mv hp) a1]
  refine⟨by rw [l1,←l2];exact c1,F2,as,r,as',RA,nN,h3,hn,fun F' H' v X3 R3 A3=>?_⟩
  obtain⟨R4,X4,o4⟩:=oQ R2 sub nN X3.sf X3.dom X3.fr X3.lst X3.tmp X3.fd R3 (fun _ _ _ _ _=>rfl) fun i k xs g1 g2=>by
    obtain⟨ys,g3⟩:=i6 c3 k i (mv g2)
    exact⟨ys,gu.mpr g3⟩
  have hb:=nh (e:=e1) c2 c3 (f_ h2)
  rw [←hb] at R4 X4 o4
  exact q F' H' v (X2.trans X4) R4 ((A3.noS hn fun a z=>R2.ownH a (o4 a z)).weak X2.dom)
theorem aW{x:Str}{st:Stmt}{f:Addr}{fd:FuncData}{ps:List Str}{k n:Nat}{m:FM}{a:Expr}{es:List Expr}{fs:FA}{p pos:Pos}(h:bg X.K X.mg x st f fd ps)(G:aN X.prog X.w X.K X.mg X.base ce k f fd ps (cq K n m))(hr:cf k X.A)(ha:PA X (a::es) (fA K fs))
    (hg:Gl X x)(hdb:(x==("__debug__":Str))=false)(he:starEach (a::es) X.env=(false,eval a X.env)::starEach es X.env)(hpl:(backTo pos (starEach es X.env)).any (·.1)=false):
    PE X (.Call (.Name x p) (a::es) [] pos) (fE K (cV n m fs)):=(IR h G hr ha hg hdb he hpl).mono fun _ _ _ h=>Gb h
def xK:List Sv→En→Option (List Sv)
  | [],_=>some []
  | .d x::r,e=>(xK r e.tail).map (.d x::·)
  | .l _::r,e=>match e.head? with
    | some (some (.l ys))=>(xK r e.tail).map (.l ys::·)
    | _=>none
  | .n _::_,_=>none
def Bk(n:Nat)(e:En):Rv→Option Rv
  | .s i=>if n≤i then match e[i]? with
      | some (some (.l xs))=>some (.l xs)
      | _=>none
    else none
  | r=>some r
def sV(W:List Nat)(as:List Sv):Bool:=W.all fun j=>match as[j]? with
  | some (.l _)=>false
  | _=>true
def jG(n k:Nat)(W:List Nat)(f:FS):FM:=fun as=>if as.length=n∧sV W as=true then(f (as.map some++List.replicate k none)).bind fun fl=>match fl with
    | .rt r e=>(Bk n e r).bind fun r'=>(xK as e).map fun as'=>(r',as')
    | .nx e=>(xK as e).map fun as'=>(.d .none,as')
    | _=>none
  else none
theorem nG:∀{as as':List Sv} {e:En},xK as e=some as'→as'.length=as.length∧(∀(j:Nat) (x:PyData),as'[j]?=some (.d x)↔ as[j]?=some (.d x))∧(∀(j:Nat) (ys:List PyData),as'[j]?=some (.l ys)→(∃xs,as[j]?=some (.l xs))∧e[j]?=some (some (.l ys)))∧∀(j:Nat) (xs:List PyData),as[j]?=some (.l xs)→∃ys,as'[j]?=some (.l ys)
  | [],_,e,h=>by cases h;simp
  | .d x::r,_,e,h=>by
    obtain⟨s,h1,rfl⟩:=Ma h
    obtain⟨g1,g2,g3,g4⟩:=nG h1
    refine⟨by simp [g1],fun j y=>?_,fun j ys hj=>?_,fun j xs hj=>?_⟩
    · cases j with
      | zero=>simp
      | succ j=>simpa using g2 j y
    · cases j with
      | zero=>simp at hj
      | succ j=>
        obtain⟨c1,c2⟩:=g3 j ys (by simpa using hj)
        refine⟨by simpa using c1,?_⟩
        rw [List.getElem?_tail] at c2
        exact c2
    · cases j with
      | zero=>simp at hj
      | succ j=>simpa using g4 j xs (by simpa using hj)
  | .l xs::r,_,e,h=>by
    unfold xK at h
    match he:e.head?,h with
    | some (some (.l ys)),h=>
      obtain⟨s,h1,rfl⟩:=Ma h
      obtain⟨g1,g2,g3,g4⟩:=nG h1
      refine⟨by simp [g1],fun j y=>?_,fun j zs hj=>?_,fun j zs hj=>?_⟩
      · cases j with
        | zero=>simp
        | succ j=>simpa using g2 j y
      · cases j with
        | zero=>
          simp at hj;subst hj
          exact⟨⟨xs,rfl⟩,by rw [List.head?_eq_getElem?] at he;exact he⟩
        | succ j=>
          obtain⟨c1,c2⟩:=g3 j zs (by simpa using hj)
          refine⟨by simpa using c1,?_⟩
          rw [List.getElem?_tail] at c2
          exact c2
      · cases j with
        | zero=>exact⟨ys,rfl⟩
        | succ j=>simpa using g4 j zs (by simpa using hj)
  | .n x::r,_,e,h=>by simp [xK] at h
end
theorem fw{α:Type}{l:List (Option α)}{k i:Nat}{x:α}(h:(l++List.replicate k none)[i]?=some (some x)):l[i]?=some (some x):=by
  rw [List.getElem?_append] at h
  split at h
  · exact h
  · rw [List.getElem?_replicate] at h
    split at h<;>simp at h
theorem fN{α:Type}{l:List (Option α)}{k i:Nat}{x:α}(h:l[i]?=some (some x)):(l++List.replicate k none)[i]?=some (some x):=by
  have hi:i < l.length:=(Mb h).1
  rw [List.getElem?_append_left hi];exact h
section
variable{K:PySem.W.Frag}{F H:Hp}{σ:L2.St}{e:En}{k:Nat}
theorem qH{i:Nat}{a:Addr}:Fp (σ++List.replicate k none) (e++List.replicate k none) H i a↔ Fp σ e H i a:=by
  constructor
  · rintro(⟨xs,h1,h2⟩ | ⟨xss,l,bs,h1,h2,h3⟩)
    · exact .inl ⟨xs,fw h1,fw h2⟩
    · exact .inr ⟨xss,l,bs,fw h1,fw h2,h3⟩
  · rintro(⟨xs,h1,h2⟩ | ⟨xss,l,bs,h1,h2,h3⟩)
    · exact .inl ⟨xs,fN h1,fN h2⟩
    · exact .inr ⟨xss,l,bs,fN h1,fN h2,h3⟩
theorem nu{a:Addr}:b_ (σ++List.replicate k none) (e++List.replicate k none) H a↔ b_ σ e H a:=⟨fun⟨i,h⟩=>⟨i,qH.mp h⟩,fun⟨i,h⟩=>⟨i,qH.mpr h⟩⟩
theorem a_.pad(R:a_ K F H σ e):a_ K F H (σ++List.replicate k none) (e++List.replicate k none):=by
  refine⟨R.sm,by simp [R.len],fun i x h=>?_,fun i xs h=>?_,fun i xss h=>?_,fun i j a h1 h2=>R.fp i j a (qH.mp h1) (qH.mp h2)⟩
  · obtain⟨v,g1,g2⟩:=R.dat i x (fw h)
    exact⟨v,fN g1,g2⟩
  · obtain⟨l,vs,g1,g2⟩:=R.own i xs (fw h)
    exact⟨l,vs,fN g1,g2⟩
  · obtain⟨l,bs,g1,g2⟩:=R.nst i xss (fw h)
    exact⟨l,bs,fN g1,g2⟩
end
theorem rS:∀{as as':List Sv} {e:En},xK as e=some as'→Gn (as'.map some)
  | [],_,e,h=>by cases h;intro i xss z;simp at z
  | .d x::r,_,e,h=>by
    obtain⟨s,h1,rfl⟩:=Ma h
    have ih:=rS h1
    intro i xss z
    cases i with
    | zero=>simp at z
    | succ i=>exact ih i xss (by simpa using z)
  | .l xs::r,_,e,h=>by
    unfold xK at h
    match he:e.head?,h with
    | some (some (.l ys)),h=>
      obtain⟨s,h1,rfl⟩:=Ma h
      have ih:=rS h1
      intro i xss z
      cases i with
      | zero=>simp at z
      | succ i=>exact ih i xss (by simpa using z)
  | .n x::r,_,e,h=>by simp [xK] at h
theorem sW{W:List Nat}{as:List Sv}(h:sV W as=true){j:Nat}{xs:List PyData}(hj:as[j]?=some (.l xs)):j∉W:=fun z=>by
  unfold sV at h
  have:=List.all_eq_true.mp h j z
  rw [hj] at this
  cases this
section
variable{P:Program}{w:World}{K:PySem.W.Frag}{mg:Str→Option Value}{base:Heap}
theorem bg.fn{x:Str}{st:Stmt}{f:Addr}{fd:FuncData}{N ps:List Str}{k n k0:Nat}{W:List Nat}{fb:FS}(h:bg K mg x st f fd ps)(S:aH N ps (am st))(hn:ps.length=n)(hN:N.length=n+k0)
    (hb:∀(cdv:Value) (A:Around) (outer:List Env) (s:Shared) (H:Hp) (E:XK),cf k (A.deeper (envOfC x (am st) s.heap.objs.size f cdv))→jk (uv ce P w K mg base N x (am st) f cdv A outer s H E).nox (dt st) (fS K fb W)):
    aN P w K mg base ce (k+1) f fd ps (cq K n (jG n k0 W fb)):=by
  refine h.F.ok S (fun vs H Q E q=>?_) fun cdv A outer s H vs Q E hr hsp=>⟨_,hb cdv A outer s H E hr,?_⟩
  · rw [hn];exact q.1
  · obtain⟨hl,F,as,r,as',R,nN,hm,nr,q⟩:=hsp
    unfold jG at hm
    split at hm
    case isFalse=>cases hm
    case isTrue hc=>
    obtain⟨la,nl⟩:=hc
    obtain⟨fl,h1,hm⟩:=L' hm
    have hst:eN N vs=vs.map some++List.replicate k0 none:=by unfold eN;rw [hN,hl];congr 2;lia
    rw [hst]
    have key:∀{as':List Sv} {e':En},xK as e'=some as'→∀F' H' σ',de W (vs.map some++List.replicate k0 none) F H (as.map some++List.replicate k0 none) σ' F' H' e'→a_ K F' H' σ' e'→
        ez (vs.map some) F H (as.map some) F' H' (as'.map some)∧a_ K F' H' (vs.map some) (as'.map some)∧∀a,b_ (vs.map some) (as'.map some) H' a→b_ (vs.map some) (as.map some) H a:=by
      intro as' e' hu F' H' σ' X' R'
      obtain⟨u1,u2,u3,u4⟩:=nG hu
      have uN:=rS hu
      have ow:∀a,b_ (vs.map some) (as'.map some) H' a→b_ (vs.map some) (as.map some) H a:=by
        rintro a ⟨j,⟨ys,c1,c2⟩ | ⟨xss,_,_,z,_⟩⟩
        · obtain⟨⟨xs,c3⟩,_⟩:=u3 j ys (gu.mp c1)
          exact⟨j,.inl ⟨xs,gu.mpr c3,c2⟩⟩
        · exact absurd z (uN j xss)
      have sg:∀(j:Nat) (xs:List PyData),as[j]?=some (.l xs)→σ'[j]?=(vs.map some)[j]?:=fun j xs hj=>by
        rw [X'.wr j (sW nl hj)]
        have hj2:j < (vs.map some).length:=by rw [List.length_map,hl,←la];exact(Mb hj).1
        rw [List.getElem?_append_left hj2]
      refine⟨⟨X'.sf,X'.dom,fun a vs h1 h2 hn=>X'.fr a vs h1 h2 fun z=>hn (nu.mp z),X'.lst,fun a o ha hn=>X'.tmp a o ha fun z=>hn (nu.mp z),fun j=>?_,fun a z=>.inl (ow a z),fun a m h1 h2 hn=>X'.fd a m h1 h2 fun z=>hn (nu.mp z)⟩,⟨R'.sm,?_,fun j y hj=>?_,fun j ys hj=>?_,fun j xss hj=>absurd hj (uN j xss),fun j i l f1 f2=>?_⟩,ow⟩
      · constructor
        · rintro⟨ys,hj⟩
          obtain⟨⟨xs,c⟩,_⟩:=u3 j ys (gu.mp hj)
          exact⟨xs,gu.mpr c⟩
        · rintro⟨xs,hj⟩
          obtain⟨ys,c⟩:=u4 j xs (gu.mp hj)
          exact⟨ys,gu.mpr c⟩
      · simp [u1,hl,la]
      · obtain⟨v,c1,c2⟩:=R.dat j y (gu.mpr ((u2 j y).mp (gu.mp hj)))
        exact⟨v,c1,DA.mono X'.sf c2⟩
      · obtain⟨⟨xs,c1⟩,c2⟩:=u3 j ys (gu.mp hj)
        obtain⟨l,us,d1,d2⟩:=R'.own j ys c2
        exact⟨l,us,by rw [←sg j xs c1];exact d1,d2⟩
      · obtain⟨xs,g1,g3⟩:=f1.resolve_right fun⟨xss,_,_,z,_⟩=>uN j xss z
        obtain⟨ys,g2,g4⟩:=f2.resolve_right fun⟨xss,_,_,z,_⟩=>uN i xss z
        obtain⟨⟨zs,c1⟩,c2⟩:=u3 j xs (gu.mp g1)
        obtain⟨⟨ws,c3⟩,c4⟩:=u3 i ys (gu.mp g2)
        exact R'.inj j i xs ys l c2 c4 (by rw [sg j zs c1];exact g3) (by rw [sg i ws c3];exact g4)
    refine⟨F,as.map some++List.replicate k0 none,fl,R.pad,h1,?_⟩
    cases fl with
    | bk e'=>cases hm
    | ct e'=>cases hm
    | nx e'=>
      obtain⟨as2,h2,hm⟩:=Ma hm
      cases hm
      intro F' H' σ' X' R'
      obtain⟨X2,R2,_⟩:=key h2 F' H' σ' X' R'
      exact q F' H' .non X2 R2 ((gh (K:=K) (F:=F')).mpr rfl)
    | rt r0 e'=>
      obtain⟨r1,h2,hm⟩:=L' hm
      obtain⟨as2,h3,hm⟩:=Ma hm
      cases hm
      intro F' H' σ' v X' R' A'
      obtain⟨X2,R2,ow2⟩:=key h3 F' H' σ' X' R'
      have noo:∀l,H l=none→¬b_ (vs.map some) (as'.map some) H' l:=fun l hl z=>R.ownH l (ow2 l z) hl
      refine q F' H' v X2 R2 ?_
      cases r0 with
      | d y=>cases h2;exact A'
      | l ys=>
        cases h2
        obtain⟨l,us,d0,d1,d2,d3,d4,_⟩:=A'
        exact⟨l,us,d0,d1,d2,d3,d4,noo l d1⟩
      | s i=>
        simp only [Bk] at h2
        split at h2
        case isFalse=>cases h2
        case isTrue hi=>
        obtain⟨a1,xs,a2⟩:=A'
        rw [a2] at h2
        cases h2
        obtain⟨l,us,d1,d2,d3,d4⟩:=R'.own i _ a2
        rw [a1] at d1;cases d1
        suffices hl0:H l=none from⟨l,us,rfl,hl0,d2,d3,d4,noo l hl0⟩
        rcases X'.own l ⟨i,.inl ⟨_,a2,a1⟩⟩ with z | z
        · obtain⟨j,zf⟩:=nu.mp z
          obtain⟨ys,z1,z2⟩:=zf.resolve_right fun⟨xss,_,_,z,_⟩=>nN j xss z
          have z1':=gu.mp z1
          obtain⟨u1,u2,u3,u4⟩:=nG h3
          obtain⟨ws,w1⟩:=u4 j ys z1'
          obtain⟨_,w2⟩:=u3 j ws w1
          have hj2:j < vs.length:=by rw [hl,←la];exact(Mb z1').1
          have e3:σ'[j]?=some (some (.ref l)):=by
            rw [X'.wr j (sW nl z1'),List.getElem?_append_left (by simpa using hj2)]
            exact z2
          have:=R'.inj i j _ ws l a2 w2 a1 e3
          lia
        · exact z
end
def GX:Option Sv→Option Sv
  | some (.n _)=>none
  | s=>s
def mQ(cp:List (Nat × Str))(nT:Nat)(e:En):En:=cp.map (fun p=>GX (e[p.1]?).join)++List.replicate nT none
def mn(cp:List (Nat × Str))(i:Nat):Option Nat:=cp.findIdx? fun p=>p.1==i
def dh(g:FG)(ft:FT)(fe:FE):List PyData→En→List PyData→Option (List PyData × En)
  | [],e,acc=>some (acc,e)
  | x::r,e,acc=>(g x e).bind fun e1=>(ft e1).bind fun b=>if b.1=true then(fe b.2).bind fun v=>(o_ v.1).bind fun d=>if acc.length < 1000000 then dh g ft fe r v.2 (acc++[d]) else none else dh g ft fe r b.2 acc
def lZ(cp:List (Nat × Str))(ei e:En):Bool:=cp.all fun p=> !yN e[p.1]? || yN ei[(mn cp p.1).getD 0]?
def cx(cp:List (Nat × Str))(nT:Nat)(fi:FI)(g:FG)(ft:FT)(fe:FE):FE:=fun e=>(fi e).bind fun p=>if (p.2.1.all fun q=> !(cp.any fun c=>c.1==q.1))=true then(dh g ft fe p.1 (mQ cp nT p.2.2) []).bind fun z=>if lZ cp z.2 p.2.2=true then some (.l z.1,mB (mn cp) z.2 p.2.2) else none else none
section
variable{K:PySem.W.Frag}{F H:Hp}{σ:L2.St}{e:En}{cp:List (Nat × Str)}{nT:Nat}
theorem eV{i k:Nat}(h:mn cp i=some k):∃s,cp[k]?=some (i,s):=by
  unfold mn at h
  rw [List.findIdx?_eq_some_iff_getElem] at h
  obtain⟨hk,h1,_⟩:=h
  refine⟨cp[k].2,?_⟩
  rw [List.getElem?_eq_getElem hk]
  have:=eq_of_beq h1
  rw [←this]
theorem iY{k:Nat}{x:Sv}(h:(mQ cp nT e)[k]?=some (some x)):∃i s,cp[k]?=some (i,s)∧e[i]?=some (some x):=by
  unfold mQ at h
  have h:=fw h
  rw [List.getElem?_map] at h
  obtain⟨p,h1,h2⟩:=Ma h
  refine⟨p.1,p.2,h1,?_⟩
  cases q:e[p.1]? with
  | none=>rw [q] at h2;cases h2
  | some y=>
    rw [q] at h2
    match y,h2 with
    | some (.d z),h2=>exact congrArg some h2
    | some (.l z),h2=>exact congrArg some h2
    | some (.n z),h2=>cases h2
    | none,h2=>cases h2
theorem iZ:Gn (mQ cp nT e):=by
  intro k xss h
  unfold mQ at h
  have h:=fw h
  rw [List.getElem?_map] at h
  obtain⟨p,h1,h2⟩:=Ma h
  match (e[p.1]?).join,h2 with
  | some (.d z),h2=>cases h2
  | some (.l z),h2=>cases h2
  | some (.n z),h2=>cases h2
  | none,h2=>cases h2
theorem nF{k i:Nat}{s:Str}{v:V}(h:cp[k]?=some (i,s))(hv:σ[i]?=some (some v)):(et cp nT σ)[k]?=some (some v):=by
  unfold et
  refine fN ?_
  rw [List.getElem?_map,h]
  simp [hv]
theorem lQ{k i:Nat}{s:Str}{v:V}(h:cp[k]?=some (i,s))(hv:(et cp nT σ)[k]?=some (some v)):σ[i]?=some (some v):=by
  unfold et at hv
  have hv:=fw hv
  rw [List.getElem?_map,h] at hv
  simp only [Option.map_some,Option.some.injEq] at hv
  cases q:σ[i]? with
  | none=>rw [q] at hv;cases hv
  | some y=>rw [q] at hv;exact congrArg some hv
theorem qE:∀{cp:List (Nat × Str)} {k j i:Nat} {s t:Str},(cp.map (·.1)).Nodup→cp[k]?=some (i,s)→cp[j]?=some (i,t)→k=j
  | [],k,j,i,s,t,_,h,_=>by simp at h
  | p::r,k,j,i,s,t,hn,h1,h2=>by
    simp only [List.map_cons,List.nodup_cons] at hn
    cases k with
    | zero=>
      simp at h1;subst h1
      cases j with
      | zero=>rfl
      | succ j=>
        have hm:(i,t)∈r:=Mf (i:=j) (by simpa using h2)
        exact absurd (List.mem_map.mpr ⟨(i,t),hm,rfl⟩) hn.1
    | succ k=>
      cases j with
      | zero=>
        simp at h2;subst h2
        have hm:(i,s)∈r:=Mf (i:=k) (by simpa using h1)
        exact absurd (List.mem_map.mpr ⟨(i,s),hm,rfl⟩) hn.1
      | succ j=>
        have:=qE (cp:=r) (k:=k) (j:=j) hn.2 (by simpa using h1) (by simpa using h2)
        lia
theorem a_.inn(R:a_ K F H σ e)(hn:(cp.map (·.1)).Nodup):a_ K F H (et cp nT σ) (mQ cp nT e)∧rW σ e (et cp nT σ) (mQ cp nT e) (mn cp):=by
  refine⟨⟨R.sm,by simp [et,mQ],fun k x h=>?_,fun k xs h=>?_,fun k xss h=>absurd h (iZ k xss),fun k j l f1 f2=>?_⟩,⟨fun i k xs h1 h2=>?_,fun k ys h=>?_⟩⟩
  · obtain⟨i,s,h1,h2⟩:=iY h
    obtain⟨v,g1,g2⟩:=R.dat i x h2
    exact⟨v,nF h1 g1,g2⟩
  · obtain⟨i,s,h1,h2⟩:=iY h
    obtain⟨l,vs,g1,g2⟩:=R.own i xs h2
    exact⟨l,vs,nF h1 g1,g2⟩
  · obtain⟨xs,h1,h3⟩:=f1.resolve_right fun⟨xss,_,_,z,_⟩=>iZ k xss z
    obtain⟨ys,h2,h4⟩:=f2.resolve_right fun⟨xss,_,_,z,_⟩=>iZ j xss z
    obtain⟨i,s,a1,a2⟩:=iY h1
    obtain⟨i',s',b1,b2⟩:=iY h2
    have:i=i':=R.inj i i' xs ys l a2 b2 (lQ a1 h3) (lQ b1 h4)
    subst this
    exact qE hn a1 b1
  · obtain⟨s,g⟩:=eV h2
    obtain⟨l,vs,g1,_⟩:=R.own i xs h1
    rw [g1];exact nF g g1
  · obtain⟨i,s,h1,h2⟩:=iY h
    obtain⟨l,vs,g1,_⟩:=R.own i ys h2
    refine⟨i,ys,h2,?_,by rw [g1];exact nF h1 g1⟩
    cases hp:mn cp i with
    | none=>
      unfold mn at hp
      rw [List.findIdx?_eq_none_iff] at hp
      have:=hp _ (Mf h1)
      simp at this
    | some j=>
      obtain⟨t,g⟩:=eV hp
      rw [qE hn g h1]
theorem a_.putT(R:a_ K F H σ e){l:Addr}{ws:List V}(h1:F l=none)(h2:¬b_ σ e H l):a_ K F (a8 H l (.lst ws)) σ e∧∀a,b_ σ e (a8 H l (.lst ws)) a↔ b_ σ e H a:=
  R.keep (aw.refl F) (fun b o q=>by
    have z:b≠l:=fun z=>by rw [z,h1] at q;cases q
    rw [aF z];exact R.sm b o q) (fun a ⟨i,h⟩=>(R.fpAt h).1) fun a o ha q=>by
      have z:a≠l:=fun z=>h2 (by rw [←z];exact ha)
      rw [aF z];exact q
theorem de.putT{W:List Nat}{σ':L2.St}{F' H':Hp}{e':En}(x:de W σ F H e σ' F' H' e'){l:Addr}{o:HO}(h:H l=none)(ho:∀a,b_ σ' e' (a8 H' l o) a↔ b_ σ' e' H' a):de W σ F H e σ' F' (a8 H' l o) e':=by
  refine⟨x.sf,fun a q=>?_,x.fr,fun a vs q=>?_,fun a u q n=>?_,fun a q=>x.own a ((ho a).mp q),x.wr,x.fd⟩
  · by_cases z:a=l
    · rw [z];exact h
    · rw [aF z] at q;exact x.dom a q
  · have z:a≠l:=fun z=>by rw [z,h] at q;cases q
    rw [aF z];exact x.lst a vs q
  · have z:a≠l:=fun z=>by rw [z,h] at q;cases q
    rw [aF z];exact x.tmp a u q n
inductive CI (K:PySem.W.Frag) (W:List Nat) (σ0:L2.St) (F1 H1:Hp) (e0:En) (l:Addr) (P:Hp→En→List PyData→Prop) (σ':L2.St) (H':Hp):Prop
  | mk {F':Hp} {ei:En} {acc:List PyData} {vs:List V} (R:a_ K F' H' σ' ei) (X:de W σ0 F1 H1 e0 σ' F' H' ei) (fl:F' l=none) (no:¬b_ σ' ei H' l) (hl:H' l=some (.lst vs)) (da:aI K F' acc vs) (hc:P F' ei acc):CI K W σ0 F1 H1 e0 l P σ' H'
theorem uf{Q:VK}{fi:FI}{g:FG}{W:List Nat}{ft:FT}{fe:FE}(hn:(cp.map (·.1)).Nodup)(hW:∀j∈W,cp.length≤j)(h:fE K (cx cp nT fi g ft fe) σ H Q):wj cp nT (fI K fi) (fG K g W) (fT K ft) (fE K fe) σ H Q:=by
  obtain⟨F0,e0,z,e',R0,hf,q⟩:=h
  unfold cx at hf
  obtain⟨⟨items,own,e1⟩,h1,hf⟩:=L' hf
  dsimp only at hf
  split at hf
  case isFalse=>cases hf
  case isTrue hO=>
  obtain⟨⟨out,eo⟩,h2,hf⟩:=L' hf
  dsimp only at hf
  split at hf
  case isFalse=>cases hf
  case isTrue hB=>
  cases hf
  refine⟨⟨F0,e0,items,own,e1,R0,h1,fun J F1 H1 X1 R1 kp ok=>?_⟩⟩
  intro l hl
  obtain⟨Ri,sub⟩:=R1.inn (nT:=nT) hn
  have hFl:F1 l=none:=R1.freeF hl
  let Iv:Nat→L2.St→Hp→Prop:=fun i=>CI K W (et cp nT σ) F1 H1 (mQ cp nT e1) l fun _ ei acc=>dh g ft fe (items.drop i) ei acc=some (out,eo)
  have notown:∀p∈own,∀a,σ[p.1]?=some (some (.ref a))→¬b_ (et cp nT σ) (mQ cp nT e1) H1 a:=by
    rintro p hp a ha ⟨k,zf⟩
    obtain⟨xs,c1,c2⟩:=zf.resolve_right fun⟨xss,_,_,z,_⟩=>iZ k xss z
    obtain⟨i,s,d1,d2⟩:=iY c1
    have e2:=lQ d1 c2
    have:p.1=i:=R1.inj p.1 i p.2 xs a (kp p hp) d2 ha e2
    have hh:=List.all_eq_true.mp hO p hp
    simp only [Bool.not_eq_true',List.any_eq_false,beq_iff_eq] at hh
    exact hh (i,s) (Mf d1) this.symm
  refine⟨fun i m σ' H'=>m=items.length - i∧i≤items.length∧Iv i σ' H',⟨items.length,by simp,Nat.zero_le _,.mk (Ri.putT hFl (fun z=>(Ri.ownH l z) hl)).1 (de.refl.putT hl (Ri.putT hFl (fun z=>(Ri.ownH l z) hl)).2) hFl (fun z=>(Ri.ownH l (((Ri.putT hFl (fun z=>(Ri.ownH l z) hl)).2 l).mp z)) hl) aA aI.nil h2⟩,?_⟩
  rintro i m σ' H' ⟨rfl,hi,⟨R',X',fl,no,hl',da,hc⟩⟩
  rename_i F' ei acc vs
  have held:wB K σ F' H' own:=fun p hp=>by
    obtain⟨a,us,c1,c2,c3,c4⟩:=R1.own p.1 p.2 (kp p hp)
    exact⟨a,us,c1,X'.tmp a _ c3 (notown p hp a c1),c4.mono X'.sf⟩
  obtain⟨go,stop,yld⟩:=ok F' H' X'.sf R'.sm held
  by_cases hlt:i < items.length
  · have hd:items.drop i=items[i]::items.drop (i+1):=List.drop_eq_getElem_cons hlt
    rw [hd] at hc
    unfold dh at hc
    obtain⟨e2,c2,hc⟩:=L' hc
    obtain⟨⟨b,e3⟩,c3,hc⟩:=L' hc
    refine .inr ⟨go i hlt,Iv (i+1),fun σ2 H2 r=>⟨items.length - (i+1),by lia,rfl,hlt,r⟩,fun x H2 hy=>?_⟩
    obtain⟨F2,sH,sF2,sm2,fz,hx⟩:=yld i items[i] x H2 (List.getElem?_eq_getElem hlt) hy
    obtain⟨R2,X2⟩:=R'.step sH sF2 sm2 fz
    refine⟨F2,ei,items[i],e2,R2,hx,c2,fun σ3 X3 R3=>⟨F2,e2,b,e3,R3,c3,fun F4 H4 X4 R4=>?_⟩⟩
    have hlH2:H2 l=some (.lst vs):=sH _ _ hl'
    have no2:¬b_ σ' ei H2 l:=fun z=>by
      rcases X2.ow l z with z | z
      · exact no z
      · rw [hl'] at z;cases z
    have no3:¬b_ σ3 e2 H2 l:=fun z=>by
      rcases X3.own l z with z | z
      · exact no2 z
      · rw [hlH2] at z;cases z
    have fl2:F2 l=none:=fz l fl (by rw [hl'];simp)
    have hlH4:H4 l=some (.lst vs):=X4.tmp l _ hlH2 no3
    have fl4:F4 l=none:=X4.fr l vs fl2 hlH2 no3
    have no4:¬b_ σ3 e3 H4 l:=fun z=>by
      rcases X4.ow l z with z | z
      · exact no3 z
      · rw [hlH2] at z;cases z
    have E4:de W (et cp nT σ) F1 H1 (mQ cp nT e1) σ3 F4 H4 e3:=((X'.trans X2.s).trans X3).trans X4.s
    cases b with
    | false=>
      rw [if_neg (by simp)] at hc
      exact yV (.mk R4 E4 fl4 no4 hlH4 (da.mono (sF2.trans X4.sf)) hc)
    | true=>
      rw [if_pos rfl] at hc
      obtain⟨⟨r,e5⟩,c5,hc⟩:=L' hc
      obtain⟨d,c6,hc⟩:=L' hc
      split at hc
      case isFalse=>cases hc
      case isTrue hlen=>
      refine yX ⟨F4,e3,r,e5,R4,c5,fun F5 H5 v X5 R5 A5=>?_⟩
      have hlH5:H5 l=some (.lst vs):=X5.tmp l _ hlH4 no4
      have fl5:F5 l=none:=X5.fr l vs fl4 hlH4 no4
      have no5:¬b_ σ3 e5 H5 l:=fun z=>by
        rcases X5.ow l z with z | z
        · exact no4 z
        · rw [hlH4] at z;cases z
      obtain⟨F6,R6,s6,d6,f6⟩:=dR.frozen R5 (rs:=[r]) (vs:=[v]) ⟨v,[],rfl,A5,rfl⟩ (l7 c6)
      have fl6:F6 l=none:=f6 l fl5 (by rw [hlH4];simp)
      have X6:=X5.frz s6 f6
      have ll:=da.len
      have sl:sizeLine=16777216:=sizeLine_eq
      have dv:DA K F6 d v:=by
        simp only [aI] at d6
        obtain⟨v',r',e',hv,_⟩:=d6
        cases e';exact hv
      obtain⟨R7,o7⟩:=R6.putT (ws:=vs++[v]) fl6 no5
      exact⟨vs,hlH5,by lia,.mk R7 ((E4.trans X6.s).putT hl o7) fl6 (fun z=>no5 ((o7 l).mp z)) aA ((da.mono (sF2.trans (X4.sf.trans (X5.sf.trans s6)))).append (aI.one dv)) hc⟩
  · have hd:items.drop i=[]:=List.drop_eq_nil_of_le (by lia)
    rw [hd] at hc
    cases hc
    refine .inl ⟨stop i (by lia),?_⟩
    obtain⟨R9,X9,o9⟩:=oQ R1 sub iZ X'.sf X'.dom X'.fr X'.lst X'.tmp X'.fd R' (fun i k xs g1 g2=>X'.wr k fun z=>by
      obtain⟨s,g⟩:=eV g2
      have:=(Mb g).1
      have:=hW k z
      lia) fun i k xs g1 g2=>by
        obtain⟨s,g⟩:=eV g2
        unfold lZ at hB
        have hb:=List.all_eq_true.mp hB _ (Mf g)
        simp only [g1,g2,Option.getD_some,yN,Bool.not_true,Bool.false_or] at hb
        exact vN.mp hb
    exact q F' H' (.ref l) (X1.trans X9) R9 ⟨l,vs,rfl,X1.dom l hl,fl,hl',da,fun z=>R1.ownH l (o9 l z) hl⟩
end
section
variable{X:Cx}{K:PySem.W.Frag}{a b:Expr}{es:List Expr}{fa fb:FE}{fs:FA}{pos p p2 p3:Pos}{lo hi:Option Expr}
def yF:En→Rv→Option Rv:=fun _ x=>(cv x).map fun i=>.d (.int (-i))
theorem G3:DR K (rU fun i=>.int (-i)) yF:=by
  intro σ H0 F H e x z v Q R A hg q
  obtain⟨i,h5,h4⟩:=Ma hg
  cases h4
  exact⟨i,cj A h5,q F H _ (ez.refl _ _ _ _) R kN⟩
theorem Dr(ha:PE X a (fE K fa)):PE X (.UnaryOp .USub a pos) (fE K (oW yF fa)):=Hm Ga G3 ha
theorem bA(hK:X.K=K)(ha:PE X a (fE K fa))(hb:PE X b (fE K fb)):PE X (.BinOp a .Add b pos) (fE K (au bN fa fb)):=p5 (hK ▸ BI) GA ha hb
theorem kf(ha:PE X a (fE K fa))(hb:PE X b (fE K fb)):PE X (.BinOp a .Sub b pos) (fE K (au eT fa fb)):=p5 EO HD ha hb
theorem mS(hK:X.K=K)(ha:PE X a (fE K fa))(hb:PE X b (fE K fb)):PE X (.BinOp a .Mult b pos) (fE K (au jy fa fb)):=p5 (hK ▸ BM) G1 ha hb
theorem iw(ha:PE X a (fE K fa))(hb:PE X b (fE K fb)):PE X (.BinOp a .FloorDiv b pos) (fE K (au fM fa fb)):=p5 zv D4 ha hb
theorem aT(ha:PE X a (fE K fa))(hb:PE X b (fE K fb)):PE X (.BinOp a .Mod b pos) (fE K (au aQ fa fb)):=p5 BL G0 ha hb
theorem Dt(ha:PE X a (fE K fa))(hb:PE X b (fE K fb)):PE X (.BinOp a .Pow b pos) (fE K (au uC fa fb)):=p5 EM Hh ha hb
theorem bE(hK:X.K=K)(ha:PE X a (fE K fa))(hb:PE X b (fE K fb))(hs:qm b):PE X (.Subscript a b pos) (fE K (au eh fa fb)):=Hk (hK ▸ IK) IL ha hb hs
theorem fy{fl fh:FO}(hK:X.K=K)(he:PE X a (fE K fa))(hl:PO X lo (fO K fl))(hh:PO X hi (fO K fh)):PE X (.Subscript a (.Slice lo hi none p2) pos) (fE K (va fa fl fh)):=by subst hK;exact zX he hl hh
structure jf (X:Cx) (K:PySem.W.Frag) (op:CmpOp) (g:En→Rv→Rv→Option Rv):Prop where
  ex:∃r,fg X (compareOp op) r∧fV K r g
theorem ut:jf X K .Lt yD:=⟨_,G9,IQ⟩
theorem DV:jf X K .LtE Gj:=⟨_,G8,IP⟩
theorem DU:jf X K .Gt D6:=⟨_,G7,IG⟩
theorem GH:jf X K .GtE GM:=⟨_,G6,IF⟩
theorem jh{k:Nat}(hK:X.K=K)(hr:cf k X.A):jf X K .Eq (bK false):=⟨_,hK ▸ EC hr,C3⟩
theorem r6{k:Nat}(hK:X.K=K)(hr:cf k X.A):jf X K .NotEq (bK true):=⟨_,hK ▸ EK hr,C3⟩
theorem Ba{k:Nat}(hK:X.K=K)(hr:cf k X.A):jf X K .In (pN false):=⟨_,hK ▸ EF hr,GQ⟩
theorem vw{k:Nat}(hK:X.K=K)(hr:cf k X.A):jf X K .NotIn (pN true):=⟨_,hK ▸ xl hr,GQ⟩
theorem IB:jf X K .Is GN:=⟨_,EG,IJ⟩
theorem qr:jf X K .IsNot jx:=⟨_,xi,Bs⟩
theorem lD{op:CmpOp}{g:En→Rv→Rv→Option Rv}(h:jf X K op g)(ha:PE X a (fE K fa))(hb:PE X b (fE K fb))(hm:behindInMarks op b=false):PE X (.Compare a [op] [b] pos) (fE K (au g fa fb)):=by
  obtain⟨r,h1,h2⟩:=h.ex;exact Fm h1 h2 ha hb hm
theorem aL{op:CmpOp}{g:En→Rv→Rv→Option Rv}(h:jf X K op g)(ha:PE X a (fE K fa))(hb:PE X b (fE K fb))(hm:behindInMarks op b=false):PT X (.Compare a [op] [b] pos) (fT K (aB (au g fa fb))):=by
  obtain⟨r,h1,h2⟩:=h.ex;exact Fs h1 h2 ha hb hm
theorem Cc{op op':CmpOp}{g g':En→Rv→Rv→Option Rv}{c:Expr}{fc:FE}(h:jf X K op g)(h':jf X K op' g')(ha:PE X a (fE K fa))(hb:PE X b (fE K fb))(hc:PE X c (fE K fc))(hm:lastMarks [op,op'] [b,c]=false):PE X (.Compare a [op,op'] [b,c] pos) (fE K (ff g g' fa fb fc)):=by
  obtain⟨r,h1,h2⟩:=h.ex;obtain⟨r',h3,h4⟩:=h'.ex;exact zW h1 h2 h3 h4 ha hb hc hm
theorem zU{op op':CmpOp}{g g':En→Rv→Rv→Option Rv}{c:Expr}{fc:FE}(h:jf X K op g)(h':jf X K op' g')(ha:PE X a (fE K fa))(hb:PE X b (fE K fb))(hc:PE X c (fE K fc))(hm:lastMarks [op,op'] [b,c]=false):PT X (.Compare a [op,op'] [b,c] pos) (fT K (aB (ff g g' fa fb fc))):=by
  obtain⟨r,h1,h2⟩:=h.ex;obtain⟨r',h3,h4⟩:=h'.ex;exact z_ h1 h2 h3 h4 ha hb hc hm
structure m4 (X:Cx) (K:PySem.W.Frag) (x:Str) (g:En→List Rv→Option Rv):Prop where
  ex:(∃id r,dQ X (.builtin id) r∧eC K r g∧bootBuiltins x=some (.builtin id))∨∃T r,dQ X (.type T) r∧eC K r g∧bootBuiltins x=some (.type T)
theorem aV{x:Str}{g:En→List Rv→Option Rv}(h:m4 X K x g)(hg:Gl X x)(hm:X.mg x=none)(ha:PA X (a::es) (fA K fs))(hn:x≠"__name__")(hdb:(x==("__debug__":Str))=false)
    (he:starEach (a::es) X.env=(false,eval a X.env)::starEach es X.env)(hpl:(backTo pos (starEach es X.env)).any (·.1)=false):PE X (.Call (.Name x p) (a::es) [] pos) (fE K (aO g fs)):=by
  rcases h.ex with ⟨id,r,h1,h2,h3⟩ | ⟨T,r,h1,h2,h3⟩
  · exact zV h1 h2 hg hm h3 ha hn hdb he hpl
  · exact xr h1 h2 hg hm h3 ha hn hdb he hpl
theorem b_len(hK:X.K=K):m4 X K "len" (g1 gM):=⟨.inl ⟨_,_,hK ▸ qt,GW,PySem.boot_len⟩⟩
theorem b_abs:m4 X K "abs" (g1 wO):=⟨.inl ⟨_,_,yf,Gz,PyProof.Rows.boot_abs⟩⟩
theorem b_min(hc:X.calm=true):m4 X K "min" (g2 qL):=⟨.inl ⟨_,_,wJ hc,GZ,PyProof.Rows.boot_min⟩⟩
theorem b_max(hc:X.calm=true):m4 X K "max" (g2 m5):=⟨.inl ⟨_,_,wH hc,GY,PyProof.Rows.boot_max⟩⟩
theorem b_int:m4 X K "int" (g1 wQ):=⟨.inr ⟨_,_,wF,GR,PyProof.Rows.boot_int⟩⟩
theorem b_tuple(hK:X.K=K):m4 X K "tuple" (g1 eL):=⟨.inr ⟨_,_,hK ▸ o6,CG,PyProof.Rows.boot_tuple⟩⟩
theorem b_list(hK:X.K=K):m4 X K "list" (g1 Dd):=⟨.inr ⟨_,_,hK ▸ qu,Em,PyProof.Rows.boot_list⟩⟩
theorem b_all{k:Nat}(hK:X.K=K)(hr:cf k X.A):m4 X K "all" (g1 (gN mL)):=⟨.inl ⟨_,_,yg hr hK,GB,ya⟩⟩
theorem b_any{k:Nat}(hK:X.K=K)(hr:cf k X.A):m4 X K "any" (g1 (gN sA)):=⟨.inl ⟨_,_,yh hr hK,GC,yc⟩⟩
theorem b_repr{k:Nat}(hK:X.K=K)(hr:cf k X.A):m4 X K "repr" (g1 mM):=⟨.inl ⟨_,_,hK ▸ uu hr,FD,PyProof.Rows.boot_repr⟩⟩
def lU(fs:FA):FE:=fun e=>(fs e).bind fun p=>match p.1 with
  | [r]=>(cv r).bind fun j=>if 0≤j∧j≤100000 then some (.l ((kM j.toNat).map .int),p.2) else none
  | _=>none
theorem tG(hc:X.calm=true)(hgl:Gl X "list")(hml:X.mg "list"=none)(hg:Gl X "range")(hm:X.mg "range"=none)(ha:PA X [a] (fA K fs))(hs:starEach [a] X.env=[(false,eval a X.env)])
    (he:starEach [.Call (.Name "range" p2) [a] [] p3] X.env=[(false,eval (.Call (.Name "range" p2) [a] [] p3) X.env)]):PE X (.Call (.Name "list" p) [.Call (.Name "range" p2) [a] [] p3] [] pos) (fE K (lU fs)):=(rq hc hgl hml hg hm ha hs he).mono fun σ H Q h=>by
  obtain⟨F,e,z,e',R,hf,q⟩:=h
  unfold lU at hf
  obtain⟨⟨rs,e1⟩,h1,hf⟩:=L' hf
  match rs,h1,hf with
  | [r],h1,hf=>
  obtain⟨j,h2,hf⟩:=L' hf
  split at hf
  case isFalse=>cases hf
  case isTrue hj=>
  cases hf
  refine⟨F,e,_,e1,R,h1,fun F1 H1 vs X1 R1 A1=>?_⟩
  obtain⟨v,rfl,A2⟩:=nv A1
  refine⟨j,by rw [cj A2 h2],hj.1,hj.2,fun t ht=>?_⟩
  obtain⟨R3,X3,hF,no⟩:=R1.newL (vs:=(kM j.toNat).map V.int) ht
  exact q _ _ _ (X1.trans X3) R3 ⟨t,_,rfl,X1.dom _ ht,hF,aA,aI.ints.mpr rfl,no⟩
abbrev bO:FT:=fun e=>some (true,e)
theorem uj.mono{ifs:List Expr}{t t':TT}(h:uj X ifs t)(m:∀σ H Q,t' σ H Q→t σ H Q):uj X ifs t':=fun pins s σ H Q I q=>h pins s σ H Q I (m σ H Q q)
theorem gA:uj X [] (fT K bO):=B9.mono fun σ H Q h=>by
  obtain⟨F,e,b,e',R,hf,q⟩:=h
  cases hf
  exact q F H (ez.refl _ _ _ _) R
theorem ii{c:Expr}{ft:FT}(h:PT X c (fT K ft)):uj X [c] (fT K ft):=B_ h
theorem eW{elt iter tg:Expr}{ifs:List Expr}{scope:Scope}{fi:FI}{g:FG}{ft:FT}{fe:FE}{W:List Nat}(sc0:Scope)(N0:List Str)(cp:List (Nat × Str))(tgN:List Str)
    (hc:X.calm=true)(hsc:X.env.scope=sc0)(hN0:X.N=N0)(hi:PI X tg iter (fI K fi))
    (hg:∀C s0 H0 fp,PG (ap X scope cp tgN C s0 H0 fp) tg (fG K g W))
    (ht:∀C s0 H0 fp,uj (ap X scope cp tgN C s0 H0 fp) ifs (fT K ft))
    (he:∀C s0 H0 fp,PE (ap X scope cp tgN C s0 H0 fp) elt (fE K fe))
    (hk:scope.kind=.function)(hcell:∀y∈scope.names,y.2≠.cell)(hnames:∀y∈scope.names,y.2=.local→scope.names.lookup y.1=some .local)
    (hfr:∀y∈scope.names,y.2=.free→scope.names.lookup y.1=some .free∧sc0.names.lookup y.1=some .cell)
    (hcp:∀p∈cp,N0[p.1]?=some p.2)(hcq:∀p∈cp,sc0.names.lookup p.2=some .cell∧scope.names.lookup p.2=some .free)(hnd:(cp.map (·.1)).Nodup)(hW:∀j∈W,cp.length≤j)
    (hs:∀x,foldedSetIterable iter X.env x=pure x):
    PE X (.ListComp elt [⟨tg,iter,ifs,0⟩] scope pos) (fE K (cx cp tgN.length fi g ft fe)):=(BU sc0 N0 cp tgN hc hsc hN0 hi hg ht he hk hcell hnames hfr hcp hcq hs).mono fun _ _ _ h=>uf hnd hW h
theorem p4{ix:Nat}{nm:Str}{posn poss:Pos}{elt iter tg:Expr}{ifs:List Expr}{scope:Scope}{fi:FI}{g:FG}{ft:FT}{fe:FE}{W:List Nat}(sc0:Scope)(N0:List Str)(cp:List (Nat × Str))(tgN:List Str)
    (hc:X.calm=true)(hsc:X.env.scope=sc0)(hN0:X.N=N0)(hi:PI X tg iter (fI K fi))
    (hg:∀C s0 H0 fp,PG (ap X scope cp tgN C s0 H0 fp) tg (fG K g W))
    (ht:∀C s0 H0 fp,uj (ap X scope cp tgN C s0 H0 fp) ifs (fT K ft))
    (he:∀C s0 H0 fp,PE (ap X scope cp tgN C s0 H0 fp) elt (fE K fe))
    (hk:scope.kind=.function)(hcell:∀y∈scope.names,y.2≠.cell)(hnames:∀y∈scope.names,y.2=.local→scope.names.lookup y.1=some .local)
    (hfr:∀y∈scope.names,y.2=.free→scope.names.lookup y.1=some .free∧sc0.names.lookup y.1=some .cell)
    (hcp:∀p∈cp,N0[p.1]?=some p.2)(hcq:∀p∈cp,sc0.names.lookup p.2=some .cell∧scope.names.lookup p.2=some .free)(hnd:(cp.map (·.1)).Nodup)(hW:∀j∈W,cp.length≤j)
    (hNd:X.N.Nodup)(hix:X.N[ix]?=some nm)(hlc:X.env.scope.names.lookup nm=some .local)(hsw:swapsWith (.ListComp elt [⟨tg,iter,ifs,0⟩] scope pos) (some (.Name nm posn)) poss.line X.env=pure true)
    (hs:∀x,foldedSetIterable iter X.env x=pure x):
    PS X (.Assign [.Name nm posn] (.ListComp elt [⟨tg,iter,ifs,0⟩] scope pos) poss) (fS K (a7 ix (cx cp tgN.length fi g ft fe)) [ix]):=(uP sc0 N0 cp tgN hc hsc hN0 hi hg ht he hk hcell hnames hfr hcp hcq hNd hix hlc hsw hs).mono fun D σ H h=>by
  obtain⟨F,e,fl,R,hf,q⟩:=h
  unfold a7 at hf
  obtain⟨⟨r,e1⟩,h1,hf⟩:=L' hf
  obtain⟨e2,h2,hf⟩:=Ma hf
  cases hf
  refine uf hnd hW ⟨F,e,r,e1,R,h1,fun F1 H1 v X1 R1 A1=>?_⟩
  obtain⟨x,R2⟩:=zQ R X1 R1 A1 h2
  exact q F1 H1 _ x R2
variable{o:Expr}{fo:FE}{apos cpos:Pos}
theorem cm(hK:X.K=K)(ho:PE X o (fE K fo))(ha:PA X (a::es) (fA K fs))(hbase:attributeBase o "append" X.env (eval o X.env)=eval o X.env)
    (hfew:((backTo cpos (starEach (a::es) X.env)).all (fun x=> !x.1)&&(backToKw cpos (keywordEach [] X.env)).all (fun x=>x.1.isSome)
      &&decide ((a::es).length+([]:List Keyword).length+(if ([]:List Keyword).isEmpty then 0 else 1) < 30))=true)
    (hline:(apos.endLine==cpos.line)=true)(hs:starEach (a::es) X.env=(false,eval a X.env)::starEach es X.env)(hplain:(backTo cpos (starEach es X.env)).any (·.1)=false):
    PE X (.Call (.Attribute o "append" apos) (a::es) [] cpos) (fE K (cn bM fo fs)):=by
  subst hK;exact Du PySem.F.slot_list_append PySem.F.type_list_append j4 x5 ho ha hbase hfew hline hs hplain
theorem vZ(hK:X.K=K)(ho:PE X o (fE K fo))(ha:PA X (a::es) (fA K fs))(hbase:attributeBase o "pop" X.env (eval o X.env)=eval o X.env)
    (hfew:((backTo cpos (starEach (a::es) X.env)).all (fun x=> !x.1)&&(backToKw cpos (keywordEach [] X.env)).all (fun x=>x.1.isSome)
      &&decide ((a::es).length+([]:List Keyword).length+(if ([]:List Keyword).isEmpty then 0 else 1) < 30))=true)
    (hline:(apos.endLine==cpos.line)=true)(hs:starEach (a::es) X.env=(false,eval a X.env)::starEach es X.env)(hplain:(backTo cpos (starEach es X.env)).any (·.1)=false):
    PE X (.Call (.Attribute o "pop" apos) (a::es) [] cpos) (fE K (cn ky fo fs)):=by
  subst hK;exact Du PySem.F.slot_list_pop PySem.F.type_list_pop y8 B4 ho ha hbase hfew hline hs hplain
theorem Ds(hK:X.K=K)(ho:PE X o (fE K fo))(hbase:attributeBase o "pop" X.env (eval o X.env)=eval o X.env)(hline:(apos.endLine==cpos.line)=true):
    PE X (.Call (.Attribute o "pop" apos) [] [] cpos) (fE K (cn qZ fo ai)):=by
  subst hK;exact Fk PySem.F.slot_list_pop PySem.F.type_list_pop Ep Hg ho hbase hline
end
theorem uV{K:PySem.W.Frag}{H:Hp}{a:Addr}{ns:List Int}{m:FM}{as':List Sv}{Q:VK}{E:XK}(hS:f9 K H a (ns.map V.int))(hm:m [.d (.list (ns.map .int))]=some (.d (.bool true),as'))(q:∀H',Q (.bl true) H'):cq K 1 m [.ref a] H Q E:=by
  refine⟨rfl,H,[.d (.list (ns.map .int))],_,as',?_,?_,hm,trivial,fun F' H' v X' R' A'=>?_⟩
  · refine⟨aw.refl _,rfl,fun i x h=>?_,fun i xs h=>?_,fun i xss h=>?_,fun i j l f1 _=>?_⟩
    · match i,h with
      | 0,h=>
        simp at h;subst h
        exact⟨.ref a,rfl,eS.mpr ⟨a,_,rfl,hS,aI.ints.mpr rfl⟩⟩
      | i+1,h=>simp at h
    · match i,h with
      | 0,h=>simp at h
      | i+1,h=>simp at h
    · match i,h with
      | 0,h=>simp at h
      | i+1,h=>simp at h
    · rcases f1 with ⟨_,h,_⟩ | ⟨_,_,_,h,_⟩
      · match i,h with
        | 0,h=>simp at h
        | i+1,h=>simp at h
      · match i,h with
        | 0,h=>simp at h
        | i+1,h=>simp at h
  · intro i xss h
    match i,h with
    | 0,h=>simp at h
    | i+1,h=>simp at h
  · rw [cX.mp (show DA K F' (.bool true) v from A')];exact q H'
section
variable{K:PySem.W.Frag}{σ:L2.St}{H0 F H F' H':Hp}{e e':En}
end
section
variable{X:Cx}{K:PySem.W.Frag}{a b:Expr}{es:List Expr}{fa fb:FE}{fs:FA}{pos p p2 p3 pos':Pos}{x:Str}{i:Nat}
def y_(i:Nat):En→Option Int:=fun e=>match e[i]? with
  | some (some (.d (.int k)))=>some k
  | _=>none
def nC(k:Int):En→Option Int:=fun _=>some k
def AL(fo fa:FE):FE:=fun e=>(fo e).bind fun o=>(fa o.2).bind fun p=>match p.1 with
  | .l ys=>(kO p.2 o.1).bind fun s=>if s.2.length+ys.length≤1000000 then some (.d .none,p.2.set s.1 (some (.l (s.2++ys)))) else none
  | _=>none
theorem zR{o:Expr}{fo:FE}{apos cpos:Pos}(hK:X.K=K)(ho:PE X o (fE K fo))(ha:PE X a (fE K fa))(hst:PySem.W.isStarred a=false)
    (hbase:attributeBase o "extend" X.env (eval o X.env)=eval o X.env)
    (hfew:((backTo cpos (starEach [a] X.env)).all (fun x=> !x.1)&&(backToKw cpos (keywordEach [] X.env)).all (fun x=>x.1.isSome)
      &&decide ([a].length+([]:List Keyword).length+(if ([]:List Keyword).isEmpty then 0 else 1) < 30))=true)
    (hline:(apos.endLine==cpos.line)=true)(hs:starEach [a] X.env=(false,eval a X.env)::starEach [] X.env)(hplain:(backTo cpos (starEach [] X.env)).any (·.1)=false):
    PE X (.Call (.Attribute o "extend" apos) [a] [] cpos) (fE K (AL fo fa)):=by
  subst hK
  refine(Do PySem.F.plainAttrs_list PySem.F.slot_list_extend PySem.F.type_list_extend xb ho (G_ ha mj hst) hbase hfew hline hs hplain).mono fun σ H Q h=>?_
  obtain⟨F,e,z,e',R,hf,q⟩:=h
  unfold AL at hf
  obtain⟨⟨ro,e1⟩,h1,hf⟩:=L' hf
  obtain⟨⟨r,e2⟩,h2,hf⟩:=L' hf
  match r,h2,hf with
  | .l ys,h2,hf=>
  obtain⟨⟨n,xs⟩,h3,hf⟩:=L' hf
  split at hf
  case isFalse=>cases hf
  case isTrue hlen=>
  cases hf
  obtain⟨z3,h3'⟩:=p_ h3
  dsimp only at z3 h3'
  subst z3
  refine⟨F,e,_,e1,R,h1,fun F1 H1 v X1 R1 A1=>?_⟩
  obtain⟨s1,zs,s2⟩:=A1
  obtain⟨l,vs,c1,c2,c3,c4⟩:=R1.own n zs s2
  rw [s1] at c1;cases c1
  refine⟨.inl ⟨rfl,vs,.inl (.inl c3)⟩,F1,e1,_,e2,R1,h2,fun F2 H2 w X2 R2 A2=>?_⟩
  obtain⟨t,us,rfl,t1,t2,t3,t4,t5⟩:=A2
  obtain⟨l',vs',d1,d2,d3,d4⟩:=R2.own n xs h3'
  rw [s1] at d1;cases d1
  have l1:=d4.len
  have l2:=t4.len
  have sl:sizeLine=16777216:=sizeLine_eq
  dsimp only at hlen
  refine⟨l,t,vs',us,rfl,rfl,d3,t3,by lia,?_⟩
  obtain⟨R3,X3⟩:=R2.putL h3' s1 (d4.append t4)
  exact q _ _ _ ((X1.trans X2).trans X3) R3 ((gh (K:=X.K) (F:=F2)).mpr rfl)
end
theorem l8{C:Int→Int→Bool}{f:Int→Int→PyData}{e:En}{i j:Int}(h:C i j=true):gI C f e (.d (.int i)) (.d (.int j))=some (.d (f i j)):=by simp [gI,cv,h]
theorem fL{e:En}{i j:Int}:bN e (.d (.int i)) (.d (.int j))=some (.d (.int (i+j))):=rfl
theorem n_{e:En}{i j:Int}:eT e (.d (.int i)) (.d (.int j))=some (.d (.int (i - j))):=rfl
theorem k_{e:En}{i j:Int}(h:mf i j=true):jy e (.d (.int i)) (.d (.int j))=some (.d (.int (i*j))):=by
  unfold jy xU sJ;rw [l8 h];rfl
theorem uI{i j:Int}(h1: -(2 ^ 64) < i)(h2:i < 2 ^ 64):mf i j=true:=by
  have:jc i=true:=by unfold jc;rw [decide_eq_true h1,decide_eq_true h2];rfl
  unfold mf;rw [this];simp
theorem rc{i j:Int}(h1: -(2 ^ 64) < j)(h2:j < 2 ^ 64):mf i j=true:=by
  have:jc j=true:=by unfold jc;rw [decide_eq_true h1,decide_eq_true h2];rfl
  unfold mf;rw [this];simp
theorem az{e:En}{i j:Int}(h:0 < j):aQ e (.d (.int i)) (.d (.int j))=some (.d (.int (i % j))):=by
  unfold aQ;rw [l8 (by simp;lia)]
  rw [Int.fmod_eq_emod_of_nonneg i (by lia)]
theorem dW{e:En}{i j:Int}(h:0 < j)(h2:Bt 8000 j):fM e (.d (.int i)) (.d (.int j))=some (.d (.int (i / j))):=by
  unfold fM;rw [l8 (by simp [kT.mpr h2];lia)]
  rw [Int.fdiv_eq_ediv_of_nonneg i (by lia)]
theorem jY{e:En}{i j:Int}{neg:Bool}:bK neg e (.d (.int i)) (.d (.int j))=some (.d (.bool (if neg then !(i==j) else i==j))):=by
  unfold bK;simp [iH,SeqAt.shaped,PyData.canLay0,PyData.depth,PyData.eqv]
theorem vJ{e:En}{i j:Int}:yD e (.d (.int i)) (.d (.int j))=some (.d (.bool (decide (i < j)))):=rfl
theorem vH{e:En}{i j:Int}:Gj e (.d (.int i)) (.d (.int j))=some (.d (.bool (decide (i≤j)))):=rfl
theorem vG{e:En}{i j:Int}:D6 e (.d (.int i)) (.d (.int j))=some (.d (.bool (decide (j < i)))):=rfl
theorem vF{e:En}{i j:Int}:GM e (.d (.int i)) (.d (.int j))=some (.d (.bool (decide (j≤i)))):=rfl
theorem sI{e:En}{i j:Int}:g2 qL e [.d (.int i),.d (.int j)]=some (.d (.int (min i j))):=by
  show some (Rv.d (.int (if j < i then j else i)))=_
  congr 3
  split<;>lia
theorem sG{e:En}{i j:Int}:g2 m5 e [.d (.int i),.d (.int j)]=some (.d (.int (max i j))):=by
  show some (Rv.d (.int (if j > i then j else i)))=_
  congr 3
  split<;>lia
theorem sL{e:En}{i:Int}:yF e (.d (.int i))=some (.d (.int (-i))):=rfl
theorem pO{e:En}{b:Bool}:g1 wQ e [.d (.bool b)]=some (.d (.int (if b then 1 else 0))):=rfl
theorem sy{e:En}{i:Int}:g1 wO e [.d (.int i)]=some (.d (.int i.natAbs)):=by
  show some (Rv.d (.int (if i < 0 then -i else i)))=_
  congr 3
  split<;>lia
theorem jq{j:Int}(h1:0 < j)(h2:j < 2 ^ 64):Bt 8000 j:=Bt.mono (m:=64) (by unfold Bt;lia) (by decide)
theorem jm{α:Type}{xs:List α}{i:Int}(h0:0≤i)(h:i < xs.length):atI xs i=xs[i.toNat]?:=by
  unfold atI xV
  rw [if_pos h0,if_pos h];rfl
theorem sD{e:En}{i:Nat}{xs:List PyData}{neg:Bool}(h:e[i]?=some (some (.l xs)))(hs:SeqAt.shaped (.list xs)=true):bK neg e (.s i) (.l [])=some (.d (.bool (if neg then !xs.isEmpty else xs.isEmpty))):=by
  unfold bK
  simp only [iH,h,Option.bind_some,hs]
  have h0:SeqAt.shaped (.list [])=true:=by simp [SeqAt.shaped,PyData.canLay0,PyData.canLayAll0,PyData.depth,PyData.depthAll]
  rw [h0]
  cases xs<;>simp [PyData.eqv,PyData.eqvAll]
theorem mW(ns:List Int):SeqAt.shaped (.list (ns.map .int))=true∧SeqAt.shaped (.tuple (ns.map .int))=true:=by
  have h1:PyData.canLayAll0 (ns.map PyData.int)=true:=by
    induction ns with
    | nil=>rfl
    | cons n r ih=>simp [PyData.canLayAll0,PyData.canLay0,ih]
  have h2:PyData.depthAll (ns.map PyData.int)=0:=by
    clear h1
    induction ns with
    | nil=>rfl
    | cons n r ih=>simp [PyData.depthAll,PyData.depth,ih]
  constructor<;>simp [SeqAt.shaped,PyData.canLay0,PyData.depth,h1,h2]
theorem cK{own:io}{g:FG}{f:FS}(P:Nat→En→Prop):∀(items:List PyData) (k:Nat) (e:En),(∀i x e,items[i]?=some x→P (k+i) e→∃e1 e2,g x e=some e1∧f e1=some (.nx e2)∧keeps own e2∧P (k+i+1) e2)→P k e→∃e',fW own g f items e=some (.nx e')∧P (k+items.length) e'
  | [],k,e,_,h=>⟨e,rfl,h⟩
  | x::r,k,e,hs,h=>by
    obtain⟨e1,e2,h1,h2,h3,h4⟩:=hs 0 x e rfl h
    obtain⟨e',h5,h6⟩:=cK P r (k+1) e2 (fun i y e hy hp=>by
      have:=hs (i+1) y e (by simpa using hy) (by rw [show k+(i+1)=k+1+i by lia];exact hp)
      rw [show k+(i+1)+1=k+1+i+1 by lia] at this
      exact this) h4
    refine⟨e',?_,by rw [List.length_cons,show k+(r.length+1)=k+1+r.length by lia];exact h6⟩
    unfold fW
    simp only [h1,h2,Option.bind_some,if_pos h3]
    exact h5
theorem be{e:En}:keeps [] e:=fun _ h=>by cases h
theorem c_{W:List Nat}{fi:FI}{g:FG}{f:FS}{e e1:En}{items:List PyData}(h:fi e=some (items,[],e1)):dC W fi g f e=fW [] g f items e1:=by
  unfold dC;rw [h];rfl
theorem bx{lo:Int}{n i:Nat}{x:PyData}(h:(aM lo n)[i]?=some x):x=.int (lo+i)∧i < n:=by
  unfold aM at h
  rw [List.getElem?_map] at h
  obtain⟨k,h1,rfl⟩:=Ma h
  obtain⟨h2,h3⟩:=Mb h1
  simp at h2 h3
  subst h3
  exact⟨rfl,h2⟩
theorem bc{lo:Int}{n:Nat}:(aM lo n).length=n:=by simp [aM]
theorem bi{fs:FA}{e e1:En}{n:Int}(h:fs e=some ([.d (.int n)],e1))(h1: -1000000≤n)(h2:n≤1000000):bR fs e=some (aM 0 n.toNat,[],e1):=by
  unfold bR;rw [h]
  have:Aj n=true:=by unfold Aj;rw [decide_eq_true h1,decide_eq_true h2];rfl
  simp [cv,this]
theorem jd{ft:FT}{f:FS}(P:En→Prop)(μ:En→Nat)(hs:∀e,P e→(∃e1,ft e=some (false,e1)∧True)∨∃e1 e2,ft e=some (true,e1)∧f e1=some (.nx e2)∧P e2∧μ e2 < μ e):
    ∀(n:Nat) (e:En),P e→μ e < n→∃e0 e',cG ft f n e=some (.nx e')∧P e0∧ft e0=some (false,e'):=by
  intro n
  induction n with
  | zero=>intro e _ h;lia
  | succ n ih=>
    intro e hp hm
    rcases hs e hp with ⟨e1,h1,_⟩ | ⟨e1,e2,h1,h2,h3,h4⟩
    · exact⟨e,e1,by unfold cG;rw [h1];rfl,hp,h1⟩
    · obtain⟨e0,e',g1,g2⟩:=ih e2 h3 (by lia)
      exact⟨e0,e',by unfold cG;rw [h1];simp only [Option.bind_some,if_true,h2];exact g1,g2⟩
theorem dU{cs:En}{ft:FT}{fe:FE}{b:PyData→Bool}{y:PyData→PyData}:∀(items:List PyData) (t:Option Sv) (acc:List PyData),(∀x∈items,ft (cs++[some (.d x)])=some (b x,cs++[some (.d x)]))→(∀x∈items,b x=true→fe (cs++[some (.d x)])=some (.d (y x),cs++[some (.d x)]))→
    acc.length+items.length≤1000000→∃t',dh (ag cs.length) ft fe items (cs++[t]) acc=some (acc++(items.filter b).map y,cs++[t'])
  | [],t,acc,_,_,_=>⟨t,by simp [dh]⟩
  | x::r,t,acc,h1,h2,hl=>by
    have hg:ag cs.length x (cs++[t])=some (cs++[some (.d x)]):=by simp [ag]
    have h1x:=h1 x (by simp)
    unfold dh
    rw [hg]
    simp only [Option.bind_some,h1x]
    cases hb:b x with
    | true=>
      simp only [if_true,h2 x (by simp) hb,Option.bind_some,o_]
      rw [if_pos (by simp at hl;lia)]
      obtain⟨t',ih⟩:=dU (b:=b) (y:=y) r (some (.d x)) (acc++[y x]) (fun z hz=>h1 z (by simp [hz])) (fun z hz=>h2 z (by simp [hz])) (by simp at hl ⊢;lia)
      exact⟨t',by rw [ih];simp [hb]⟩
    | false=>
      simp only [Bool.false_eq_true,if_false]
      obtain⟨t',ih⟩:=dU (b:=b) (y:=y) r (some (.d x)) acc (fun z hz=>h1 z (by simp [hz])) (fun z hz=>h2 z (by simp [hz])) (by simp at hl;lia)
      exact⟨t',by rw [ih];simp [hb]⟩
theorem jC{fa:FE}{e e1:En}{xs:List PyData}(h:fa e=some (.d (.tuple xs),e1)):gw fa e=some (xs,[],e1):=by
  unfold gw;rw [h];rfl
theorem Ec{fa:FE}{e e1:En}{xs:List PyData}(h:fa e=some (.l xs,e1)):gw fa e=some (xs,[],e1):=by
  unfold gw;rw [h];rfl
theorem bC{cp:List (Nat × Str)}{nT:Nat}{fi:FI}{g:FG}{ft:FT}{fe:FE}{e e1 cs:En}{t t':En}{items out:List PyData}(h1:fi e=some (items,[],e1))(hc:mQ cp nT e1=cs++t)(hl:cs.length=cp.length)(h3:dh g ft fe items (mQ cp nT e1) []=some (out,cs++t')):cx cp nT fi g ft fe e=some (.l out,e1):=by
  have key:∀i x,e1[i]?=some (some (.l x))→∀k,mn cp i=some k→(cs++t')[k]?=some (some (.l x)):=by
    intro i x hi k hk
    obtain⟨s,hs⟩:=eV hk
    have hk2:k < cp.length:=(Mb hs).1
    have:(mQ cp nT e1)[k]?=some (some (.l x)):=by
      unfold mQ
      rw [List.getElem?_append_left (by simpa using hk2),List.getElem?_map,hs]
      simp [hi,GX]
    rw [hc,List.getElem?_append_left (by lia)] at this
    rw [List.getElem?_append_left (by lia)]
    exact this
  unfold cx
  rw [h1]
  simp only [Option.bind_some,List.all_nil,if_true,h3]
  have hb:lZ cp (cs++t') e1=true:=by
    unfold lZ
    rw [List.all_eq_true]
    intro p hp
    match hi:e1[p.1]? with
    | none=>simp [yN]
    | some none=>simp [yN]
    | some (some (.d x))=>simp [yN]
    | some (some (.n x))=>simp [yN]
    | some (some (.l x))=>
      cases hq:mn cp p.1 with
      | none=>
        unfold mn at hq
        rw [List.findIdx?_eq_none_iff] at hq
        have:=hq p hp
        simp at this
      | some k=>simp [key p.1 x hi k hq,yN]
  rw [if_pos hb]
  congr 2
  refine List.ext_getElem? fun i=>?_
  rw [cN]
  match hi:e1[i]? with
  | none=>rfl
  | some none=>rfl
  | some (some (.d x))=>rfl
  | some (some (.n x))=>rfl
  | some (some (.l x))=>
    cases hp:mn cp i with
    | none=>simp [hp]
    | some k=>simp [hp,key i x hi k hp]
theorem nL{α:Type}{xs:List α}{i:Int}(h0:0≤i)(h1:i < xs.length):∃x∈xs,atI xs i=some x:=by
  rw [jm h0 h1]
  exact⟨xs[i.toNat]'(by lia),List.getElem_mem _,List.getElem?_eq_getElem _⟩
theorem yz{e:En}{xs:List PyData}{i:Int}:eh e (.l xs) (.d (.int i))=(atI xs i).map .d:=rfl
theorem pP{e:En}{xs:List PyData}{i:Int}:eh e (.d (.tuple xs)) (.d (.int i))=(atI xs i).map .d:=rfl
theorem yy{e:En}{xs:List PyData}{i:Int}:eh e (.d (.list xs)) (.d (.int i))=(atI xs i).map .d:=rfl
theorem Dc{e:En}{j:Nat}{xs:List PyData}{i:Int}(h:e[j]?=some (some (.l xs))):eh e (.s j) (.d (.int i))=(atI xs i).map .d:=by
  simp [eh,dc,h,cv]
theorem yC{e:En}{xs:List PyData}:g1 gM e [.d (.tuple xs)]=some (.d (.int xs.length)):=rfl
theorem vI{e:En}{xs:List PyData}:g1 gM e [.d (.list xs)]=some (.d (.int xs.length)):=rfl
theorem yA{e:En}{xs:List PyData}:g1 gM e [.l xs]=some (.d (.int xs.length)):=rfl
theorem yB{e:En}{j:Nat}{xs:List PyData}(h:e[j]?=some (some (.l xs))):g1 gM e [.s j]=some (.d (.int xs.length)):=by
  simp [g1,gM,dc,h]
theorem sO{e:En}{j:Nat}{xs:List PyData}(h:e[j]?=some (some (.l xs))):g1 eL e [.s j]=some (.d (.tuple xs)):=by
  simp [g1,eL,dc,h]
theorem sN{e:En}{xs:List PyData}:g1 eL e [.l xs]=some (.d (.tuple xs)):=rfl
theorem pQ{e:En}{xs:List PyData}:g1 eL e [.d (.list xs)]=some (.d (.tuple xs)):=rfl
theorem sP{e:En}{xs:List PyData}:g1 eL e [.d (.tuple xs)]=some (.d (.tuple xs)):=rfl
theorem De{e:En}{xs:List PyData}{lo hi:Option Int}:Ig e (.d (.tuple xs)) lo hi=some (.d (.tuple (cutD xs lo hi))):=rfl
theorem kn{e:En}{xs ys:List PyData}(h:xs.length+ys.length≤1000000):bN e (.d (.tuple xs)) (.d (.tuple ys))=some (.d (.tuple (xs++ys))):=by
  simp [bN,xU,yv,gI,cv,sC,dc,h]
theorem D9{e:En}{i j:Int}(h:j≠0):aQ e (.d (.int i)) (.d (.int j))=some (.d (.int (i.fmod j))):=by
  unfold aQ;rw [l8 (by simpa using h)]
theorem Bp{e:En}{i j:Int}(h:j≠0)(h2:Bt 8000 j):fM e (.d (.int i)) (.d (.int j))=some (.d (.int (i.fdiv j))):=by
  unfold fM;rw [l8 (by simp [kT.mpr h2,h])]
theorem lb{e:En}{i j:Int}(h:zI i j=true):uC e (.d (.int i)) (.d (.int j))=some (.d (.int (i ^ j.toNat))):=by
  unfold uC;rw [l8 h]
theorem lx:zI 10 18=true:=by decide
theorem ja{f g:FS}{e e1:En}(h:f e=some (.nx e1)):aC f g e=g e1:=by unfold aC;rw [h];rfl
theorem HB{ft:FT}{f g:FS}{e e1:En}(h:ft e=some (true,e1)):iC ft f g e=f e1:=by unfold iC;rw [h];rfl
theorem HA{ft:FT}{f g:FS}{e e1:En}(h:ft e=some (false,e1)):iC ft f g e=g e1:=by unfold iC;rw [h];rfl
def Dh(i:Nat)(e:En):Nat:=match e[i]? with
  | some (some (.l xs))=>xs.length
  | _=>0
def za(i:Nat)(e:En):Nat:=match e[i]? with
  | some (some (.d (.int k)))=>k.natAbs
  | _=>0
theorem nq{n m:Nat}(h:n < 2 ^ m)(hm:m≤4200):n < 2 ^ 4200:=Nat.lt_of_lt_of_le h (Nat.pow_le_pow_right (by decide) hm)
theorem lX{α:Type}{a:α}{r:List α}:atI (a::r) 0=some a:=by
  rw [jm (by decide) (by simp)];rfl
theorem nK{α:Type}{a b:α}{r:List α}:atI (a::b::r) 1=some b:=by
  rw [jm (by decide) (by simp;lia)];rfl
theorem x6{α:Type}{a b c:α}{r:List α}:atI (a::b::c::r) 2=some c:=by
  rw [jm (by decide) (by simp;lia)];rfl
theorem x8{α:Type}{a b c d:α}{r:List α}:atI (a::b::c::d::r) 3=some d:=by
  rw [jm (by decide) (by simp;lia)];rfl
theorem fF{ns:List Int}{k:Int}(h0:0≤k)(h1:k < (ns.length:Int)):atI (ns.map PyData.int) k=some (.int (ns.getD k.toNat 0)):=by
  rw [jm h0 (by rw [List.length_map];exact h1),List.getElem?_map]
  have:k.toNat < ns.length:=by lia
  simp [this]
theorem C1{a b c d:PyData}:cutD [a,b,c,d] none (some 2)=[a,b]:=rfl
theorem pI{a b c d:PyData}:cutD [a,b,c,d] (some 2) none=[c,d]:=rfl
theorem pH{a b c:PyData}:cutD [a,b,c] (some 1) none=[b,c]:=rfl
theorem r8(ns:List Int):PyData.canLayAll0 (ns.map PyData.int)=true:=by
  induction ns with
  | nil=>rfl
  | cons n r ih=>simp [PyData.canLayAll0,PyData.canLay0,ih]
theorem rX{x:Int}:∀(ns:List Int),((ns.map PyData.int).any fun y=>PyData.eqv y (.int x))=ns.contains x
  | []=>rfl
  | n::r=>by
    rw [List.map_cons,List.any_cons,rX r,List.contains_cons]
    show(n==x || _)=_
    rw [show(n==x)=(x==n) by rw [Bool.eq_iff_iff];simp;exact eq_comm]
theorem jw{e:En}{x:Int}{ns:List Int}{neg:Bool}:pN neg e (.d (.int x)) (.d (.tuple (ns.map .int)))=some (.d (.bool (if neg then !ns.contains x else ns.contains x))):=by
  unfold pN
  simp only [iH,dc,Option.bind_some,r8,rX]
  simp [PyData.canLay0,PyData.depth]
theorem ni{e:En}{x a b:Int}{neg:Bool}:pN neg e (.d (.int x)) (.d (.tuple [.int a,.int b]))=some (.d (.bool (if neg then !(a==x || b==x) else(a==x || b==x)))):=by
  have h:=jw (e:=e) (x:=x) (ns:=[a,b]) (neg:=neg)
  simp only [List.map_cons,List.map_nil] at h
  rw [h]
  have:[a,b].contains x=(a==x || b==x):=by
    simp only [List.contains_cons,List.contains_nil,Bool.or_false]
    rw [show(x==a)=(a==x) by rw [Bool.eq_iff_iff];simp;exact eq_comm,show(x==b)=(b==x) by rw [Bool.eq_iff_iff];simp;exact eq_comm]
  rw [this]
theorem jr(W:aY):ay W=.tuple [.int W.things,.tuple (W.ties.map ar),.tuple (W.pat.map .int),.int W.asks]:=rfl
theorem lr:∀(n:Nat) (l:List Int),l.Nodup→(∀k∈l,0≤k∧k < (n:Int))→l.length≤n
  | 0,l,_,h=>by
    cases l with
    | nil=>simp
    | cons a r=>have:=h a (by simp);lia
  | n+1,l,hd,h=>by
    have ih:=lr n (l.erase (n:Int)) (hd.erase _) fun k hk=>by
      obtain⟨h1,h2⟩:=hd.mem_erase_iff.mp hk
      have:=h k h2
      lia
    by_cases c:(n:Int)∈l
    · rw [List.length_erase_of_mem c] at ih;lia
    · rw [List.erase_of_not_mem c] at ih;lia
abbrev Std:=List Int × List Int
structure Gx (W:aY) (s:Std):Prop where
  inw:∀k∈s.1,wC W k
  nd:s.1.Nodup
  tk:s.2.length≤2*s.1.length
  th:∀t∈s.2,0≤t∧t < W.things
def nxt(W:aY)(s:Std)(k:Int)(b:Bool):Std:=(aY.askd s.1 k,W.took s.2 k b)
structure Nd where
  tie:Int
  yes:Int
  no:Int
def Gs(W:aY)(n:Nat)(S:Nat→Std)(i:Nat)(k:Int)(b:Bool)(l:Int):Prop:=l= -1∨(0≤l∧l < (n:Int)∧S l.toNat=nxt W (S i) k b)
structure Iq (W:aY) (n:Nat) (S:Nat→Std) (i:Nat) (x:Nd):Prop where
  tie:wC W x.tie
  st:Gx W (S i)
  may:W.may (S i).1 (S i).2 x.tie=true
  yes:Gs W n S i x.tie true x.yes
  no:Gs W n S i x.tie false x.no
def Iu(W:aY)(T:List Nd)(S:Nat→Std):Prop:=∀(i:Nat) (x:Nd),T[i]?=some x→Iq W T.length S i x
structure Wt where
  st:Std
  par:Int
  side:Int
structure Jz (W:aY) (T:List Nd) (S:Nat→Std) (ws:List Wt):Prop where
  tr:Iu W T S
  wt:∀w∈ws,Gx W w.st∧(w.par= -1∨∃(p:Nat) (x:Nd),w.par=(p:Int)∧T[p]?=some x∧((w.side=0∧w.st=L2.nxt W (S p) x.tie true)∨(w.side=1∧w.st=L2.nxt W (S p) x.tie false)))
  side:∀w∈ws,w.side=0∨w.side=1
theorem xP{cp:List (Nat × Str)}{nT:Nat}{fi:FI}{g:FG}{ft:FT}{fe:FE}{e e1 cs:En}{t t':En}{items out:List PyData}{own:io}(h1:fi e=some (items,own,e1))(ho:(own.all fun q=> !(cp.any fun c=>c.1==q.1))=true)(hc:mQ cp nT e1=cs++t)(hl:cs.length=cp.length)(h3:dh g ft fe items (mQ cp nT e1) []=some (out,cs++t')):cx cp nT fi g ft fe e=some (.l out,e1):=by
  have key:=bC (cp:=cp) (nT:=nT) (fi:=fun _=>some (items,[],e1)) (g:=g) (ft:=ft) (fe:=fe) (e:=e) rfl hc hl h3
  unfold cx at key ⊢
  rw [h1]
  simp only [Option.bind_some,List.all_nil,if_true] at key
  simp only [Option.bind_some,ho,if_true]
  exact key
theorem wD{α:Type}{xs:List α}{x:α}:atI (xs++[x]) (-1)=some x:=by
  unfold atI xV
  rw [if_neg (by decide),if_pos (by simp;lia)]
  simp
  rw [show(-1+((xs.length:Int)+1)).toNat=xs.length by lia]
  simp
def nm(nums:List Int)(l:Int):Int:=(atI nums l).getD (-1)
structure Jj (order:List Int) (n:Nat) (nums:List Int):Prop where
  len:nums.length=n+1
  top:nums[n]?=some (-1)
  at':∀(j:Nat) (v:Int),j < n→nums[j]?=some v→v= -1∨∃p:Nat,v=(p:Int)∧order[p]?=some (j:Int)
def zb(T:List Nd)(w:Int):Nd:=T.getD w.toNat ⟨0,0,0⟩
theorem pL{α β:Type}{f:α→β}:∀{xs:List α} {i:Nat},(xs.map f).eraseIdx i=(xs.eraseIdx i).map f
  | [],_=>by simp
  | x::r,0=>by simp
  | x::r,i+1=>by simp [pL (xs:=r) (i:=i)]
structure JH (S:Nat→Std) (n:Nat) (ss:List Std):Prop where
  len:ss.length=n
  at':∀(j:Nat) (s:Std),ss[j]?=some s→s.1.length≤(S j).1.length∧s.2.length≤2*s.1.length∧(∀k∈s.1,0≤k∧k < 16)∧∀t∈s.2,0≤t∧t < 12
theorem lT(s:String):PyData.strOk (Str.ofString s)=true:=by
  rw [Str.ofString_eq_toList]
  unfold PyData.strOk
  simp only [List.size_toArray,List.length_map]
  rw [show(List.map Char.toNat s.toList).toArray.all (fun a=>decide (a < 1114112)) 0 s.toList.length=(List.map Char.toNat s.toList).all (fun a=>decide (a < 1114112)) by simp]
  rw [List.all_map,List.all_eq_true]
  intro c _
  show decide (c.toNat < 1114112)=true
  rw [decide_eq_true_eq]
  have:=c.valid
  unfold UInt32.isValidChar Nat.isValidChar at this
  show c.val.toNat < _
  lia
theorem j9{a b:Str}(h1:PyData.strOk a=true)(h2:PyData.strOk b=true):PyData.strOk (a++b)=true:=by
  unfold PyData.strOk at*
  rw [show(a++b).cps=a.cps++b.cps from rfl]
  simp only [Array.all_append,h1,h2,Bool.and_self]
theorem oP{sep:Str}(h:PyData.strOk sep=true):∀(ts:List Str),(∀t∈ts,PyData.strOk t=true)→PyData.strOk (Str.join sep ts)=true
  | [],_=>by show PyData.strOk Str.empty=true;simp [PyData.strOk,Str.empty]
  | [x],hx=>hx x (by simp)
  | x::y::r,hx=>j9 (j9 (hx x (by simp)) h) (oP h (y::r) fun t ht=>hx t (by simp at ht ⊢;exact .inr ht))
theorem xC{ts:List Str}(h:∀t∈ts,PyData.strOk t=true):PyData.strOk (tupleText ts)=true:=by
  unfold tupleText
  exact j9 (j9 (lT _) (oP (lT _) ts h)) (lT _)
structure Sz (n dep:Nat) (d:PyData):Prop where
  fl:k7 d=true
  sh:d.showable=true
  dp:d.depth≤dep
  ln:d.shown.length≤n
  so:PyData.strOk d.shown=true
theorem Sz.mono{n m dep e:Nat}{d:PyData}(h:Sz n dep d)(h1:n≤m)(h2:dep≤e):Sz m e d:=⟨h.fl,h.sh,Nat.le_trans h.dp h2,Nat.le_trans h.ln h1,h.so⟩
theorem Sz.int{k:Int}(h0:0≤k)(h1:k < 16):Sz 2 2 (.int k):=by
  have:k=0∨k=1∨k=2∨k=3∨k=4∨k=5∨k=6∨k=7∨k=8∨k=9∨k=10∨k=11∨k=12∨k=13∨k=14∨k=15:=by lia
  rcases this with rfl | rfl | rfl | rfl | rfl | rfl | rfl | rfl | rfl | rfl | rfl | rfl | rfl | rfl | rfl | rfl<;>exact⟨rfl,by decide,by simp [PyData.depth],by decide,lT _⟩
theorem Sz.all{n dep:Nat}:∀{ds:List PyData},(∀d∈ds,Sz n dep d)→jX ds=true∧PyData.showableAll ds=true∧PyData.depthAll ds≤dep∧piled (PyData.shownAll ds)≤ds.length*(n+2)∧∀t∈PyData.shownAll ds,PyData.strOk t=true
  | [],_=>⟨rfl,rfl,by simp [PyData.depthAll],by simp [PyData.shownAll,piled],by simp [PyData.shownAll]⟩
  | d::r,h=>by
    obtain⟨a1,a2,a3,a4,a5⟩:=h d (by simp)
    obtain⟨b1,b2,b3,b4,b5⟩:=Sz.all (ds:=r) fun x hx=>h x (by simp [hx])
    refine⟨?_,?_,?_,?_,?_⟩
    · simp only [jX,a1,b1,Bool.and_self]
    · simp only [PyData.showableAll,a2,b2,Bool.and_self]
    · simp only [PyData.depthAll];lia
    · simp only [PyData.shownAll,oB,List.length_cons,Nat.succ_mul];lia
    · intro t ht
      simp only [PyData.shownAll,List.mem_cons] at ht
      rcases ht with rfl | ht
      · exact a5
      · exact b5 t ht
theorem Sz.tup{n dep m:Nat}{ds:List PyData}(h:∀d∈ds,Sz n dep d)(hl:ds.length≤m):Sz (m*(n+2)+3) (dep+2) (.tuple ds):=by
  obtain⟨b1,b2,b3,b4,b5⟩:=Sz.all h
  refine⟨by simpa [k7] using b1,b2,by simp only [PyData.depth];lia,?_,by simp only [PyData.shown];exact xC b5⟩
  have h2:=qg (PyData.shownAll ds)
  have:=Nat.mul_le_mul_right (n+2) hl
  simp only [PyData.shown]
  lia
theorem Sz.ok{n dep:Nat}{d:PyData}(h:Sz n dep d)(h1:n≤16777216)(h2:dep≤60):lO d=true:=by
  have sl:sizeLine=16777216:=sizeLine_eq
  unfold lO
  rw [h.fl,h.sh,decide_eq_true (Nat.le_trans h.dp h2),decide_eq_true (show d.shown.length≤sizeLine by rw [sl];exact Nat.le_trans h.ln h1)]
  rfl
theorem Sz.ints{ns:List Int}{m:Nat}(hl:ns.length≤m)(h:∀r∈ns,0≤r∧r < 16):Sz (m*4+3) 4 (.tuple (ns.map .int)):=Sz.tup (n:=2) (dep:=2) (fun d hd=>by
  obtain⟨x,hx,rfl⟩:=Md hd
  exact Sz.int (h x hx).1 (h x hx).2) (by rw [List.length_map];exact hl)
theorem Bq{e:En}{d:PyData}(h:lO d=true):g1 mM e [.d d]=some (.d (.str d.shown)):=by
  simp [g1,mM,h]
theorem Bo{e:En}{s:Str}(h:PyData.strOk s=true):bK false e (.d (.str s)) (.d (.str s))=some (.d (.bool true)):=by
  simp [bK,iH,SeqAt.shaped,PyData.canLay0,PyData.depth,PyData.eqv,h]
theorem Bn{e:En}{xs ys:List PyData}(hl:xs.length+ys.length≤1000000):bN e (.l xs) (.l ys)=some (.l (xs++ys)):=by
  simp [bN,xU,yv,gI,cv,sC,dc,vE,xa,hl]
theorem D_{e:En}{d:PyData}{n:Int}(h0:0≤n)(h1:n≤100000):jy e (.d (.tuple [d])) (.d (.int n))=some (.d (.tuple (List.replicate n.toNat d))):=by
  have a:sM e (.d (.tuple [d])) (.d (.int n))=some (.d (.tuple (List.replicate n.toNat d))):=by
    simp [sM,dc,cv,h0,h1]
  have b:sJ e (.d (.tuple [d])) (.d (.int n))=none:=by simp [sJ,gI,cv]
  unfold jy xU
  rw [b,a]
  rfl
theorem Be{xs:List PyData}:cutD xs none (some 1)=xs.take 1:=by
  unfold cutD
  rw [HT.sIx_none,show(some (1:Int))=some ((1:Nat):Int) from rfl,HT.sIx_nat,List.drop_zero,Nat.sub_zero]
  cases xs with
  | nil=>rfl
  | cons x r=>simp
def rn(T:List Nd)(ans:List Bool):Nat→Int→List (Int × Bool)
  | 0,_=>[]
  | f+1,at'=>if at' < 0 then [] else((zb T at').tie,ans.getD (zb T at').tie.toNat false)::rn T ans f (if ans.getD (zb T at').tie.toNat false=true then(zb T at').yes else(zb T at').no)
def rt(T:List Nd):Int:=if T.length=0 then -1 else 0
structure Jm (W:aY) (T:List Nd) (S:Nat→Std) (ans:List Bool) (r:List (Int × Bool)) (a:Int):Prop where
  at':a= -1∨(0≤a∧a < (T.length:Int)∧r.length≤(S a.toNat).1.length)
  eq:r++rn T ans (17 - r.length) a=rn T ans 17 (rt T)
  len:r.length≤16
  inw:∀p∈r,wC W p.1
abbrev Fr:=Int × Int
def dF(f:Fr):PyData:=.tuple [.int f.1,.int f.2]
def tm(a b:Fr):Fr:=fX (a.1*b.1) (a.2*b.2)
def pl(a b:Fr):Fr:=fX (a.1*b.2+b.1*a.2) (a.2*b.2)
structure JE (M:Int) (f:Fr):Prop where
  pos:0 < f.2
  lo:0≤f.1
  hi:f.1≤f.2
  dv:f.2 ∣ M
structure Ia (M i:Int) (f:Fr):Prop where
  pos:0 < f.2
  lo:0≤f.1
  hi:f.1≤i*f.2
  dv:f.2 ∣ M
def bp(W:aY):List Int→Int
  | []=>1
  | k::r=>(W.tie k).bot*bp W r
def GF(W:aY):Int:=bp W W.rng
def ch(W:aY)(k:Int)(b:Bool):Fr:=if b then((W.tie k).top,(W.tie k).bot) else((W.tie k).bot - (W.tie k).top,(W.tie k).bot)
structure JG (W:aY) (S:Nat→Std) (n:Nat) (rs:List Fr):Prop where
  len:rs.length=n
  at':∀(j:Nat) (f:Fr),rs[j]?=some f→JE (bp W (S j).1) f
structure JA (W:aY) (i:Nat) (ss:List Fr):Prop where
  len:ss.length=W.ties.length
  at':∀(j:Nat) (f:Fr),ss[j]?=some f→Ia (GF W) (i:Int) f
def HW(l:Int)(f:Fr):PyData:=.tuple [.int l,dF f]
def JV(W:aY)(x:Nd):List PyData:=(if x.yes= -1 then [] else [HW x.yes (ch W x.tie true)])++(if x.no= -1 then [] else [HW x.no (ch W x.tie false)])
def Gd(sc:Scope)(x:Str):Bool:=match sc.names.lookup x with
  | some .local=>true
  | some .cell=>true
  | some .free=>true
  | _=>false
theorem CM{sc:Scope}{x:Str}(h:Gd sc x=true):Gi sc x:=by
  unfold Gd at h
  unfold Gi
  split at h
  · rename_i e;exact .inl e
  · rename_i e;exact .inr (.inl e)
  · rename_i e;exact .inr (.inr e)
  · cases h
section
variable{X:Cx}{K:PySem.W.Frag}
theorem qw(i:Nat){x:Str}{pos:Pos}(hN:X.N[i]?=some x)(hv:Gd X.env.scope x=true)(hd:((x==("__debug__":Str)) || (x==("__classdict__":Str)))=false):PE X (.Name x pos) (fE K (ae i)):=qv i hN (CM hv) (Bool.or_eq_false_iff.mp hd).1 (Bool.or_eq_false_iff.mp hd).2
end
section
variable{X:Cx}{tg a b c:Expr}{ta:TA}{p pos p2 pos2:Pos}
end
section
variable{K:PySem.W.Frag}{σ:L2.St}
end
section
variable{X:Cx}{K:PySem.W.Frag}{tg a b c:Expr}{fs:FA}{pos p p2 pos2:Pos}
end
section
variable(P:Program)(w:World)
end
section
variable{P:Program}{w:World}{H H':Hp}{h h':Heap}{a:Addr}{o:HO}
end
section
variable{P:Program}{w:World}{H:Hp}{h h':Heap}{x e:Addr}{o':HO}
end
section
variable{fs fs' ex ex':List Addr}{H H1 H2:Hp}{h h1 h2 h':Heap}{a x e:Addr}{o:HO}
end
section
variable{X:Cx}{pins:List (Addr × Obj)}{σ:List (Option V)}{H H':Hp}{s:Shared}{h':Heap}
end
section
variable{X:Cx}
variable{a b:Expr}{ta tb:TE}{pos:Pos}
variable{tA tB':TT}{eY:List Expr}
end
section
variable{X:Cx}{pins:List (Addr × Obj)}{σ:St}{H:Hp}{s:Shared}{a:Addr}{xs ys:List V}
end
section
variable{X:Cx}{pins:List (Addr × Obj)}{σ:St}{H:Hp}{s:Shared}{E:Value→Shared→Prop}
end
section
variable{X:Cx}{st:Stmt}{eY:List Stmt}{t u:TS}{e:Expr}{te:TE}{pos:Pos}
end
section
variable{X:Cx}{pos:Pos}
end
section
variable{X:Cx}{pos:Pos}
end
section
variable{X:Cx}{tg:Expr}
end
section
variable{X:Cx}{a b c:Expr}{ta tb tc:TE}{pos:Pos}
end
section
variable{X:Cx}{a b c:Expr}{ta tb tc:TE}{pos:Pos}
end
section
variable{prog:Program}{w:World}{A:Around}{E:Value→Shared→Prop}{s:Shared}{K:PySem.W.Frag}{x dx C f:Addr}{mA:Str→Option Value}{name:Str}{v:Value}
end
section
variable{P:Program}{w:World}{H H':Hp}{h h':Heap}{a C dx:Addr}{fs fs':List (Str × V)}
end
section
variable{X:Cx}{pins:List (Addr × Obj)}{σ:St}{H:Hp}{s:Shared}{a C dx:Addr}{fs:List (Str × V)}{f:Str}{v:V}{A:Around}{E:Value→Shared→Prop}
end
section
variable{X:Cx}{o e value:Expr}{f:Str}{pos pos' tpos:Pos}{ta tv:TE}
end
section
variable{X:Cx}{pins:List (Addr × Obj)}{σ:St}{H:Hp}{s:Shared}{A:Around}{E:Value→Shared→Prop}{Q:Value→Shared→Prop}{c:Value}{b:Bool}
end
section
variable{X:Cx}{e:Expr}{es:List Expr}{te:TE}{t:TA}{pos:Pos}
end
section
variable{X:Cx}{pins:List (Addr × Obj)}{σ:St}{H:Hp}{s s':Shared}
end
section
variable{X:Cx}{CX:wA}{k:Nat}{f C:Addr}{fd:FuncData}{ps:List Str}{sp:Sp}{dvs:List V}{ds:List Value}{E:XK}{x m:Str}{p pos apos:Pos}{e o:Expr}{es:List Expr}{ta:TE}{t:TA}
end
section
variable{X:Cx}{CX:wA}{k:Nat}{f C:Addr}{fd:FuncData}{ps ks:List Str}{sp:Sp}{E:XK}{x m:Str}{p pos apos kpos:Pos}{e o:Expr}{es:List Expr}{kws:List Keyword}{te ta:TE}{t tk:TA}{nm:Option Str}
variable{g:List Value→List Value→List Value}{gV:List V→List V→List V}
end
section
variable{X:Cx}{x:Str}{p pos:Pos}{e:Expr}{es:List Expr}{t:TA}{id T:String}{r:List V→Hp→VK→Prop}
end
section
variable{κ:Type}[DecidableEq κ]
def mD(kvs:List (κ × V))(k:κ):Option V:=(kvs.find? fun kv=>decide (kv.1=k)).map (·.2)
def lC(kvs:List (κ × V))(k:κ)(v:V):List (κ × V):=
  if (kvs.any fun kv=>decide (kv.1=k))=true then kvs.map (fun kv=>if kv.1=k then(kv.1,v) else kv) else kvs++[(k,v)]
theorem jQ{p:κ × V}{r:List (κ × V)}{k:κ}(e:p.1=k):mD (p::r) k=some p.2:=by simp [mD,List.find?_cons,e]
theorem jO{p:κ × V}{r:List (κ × V)}{k:κ}(e:¬p.1=k):mD (p::r) k=mD r k:=by simp [mD,List.find?_cons,e]
theorem ui(k:κ):∀kvs:List (κ × V),(kvs.any fun kv=>decide (kv.1=k))=(mD kvs k).isSome
  | []=>rfl
  | p::r=>by
    rw [List.any_cons]
    by_cases e:p.1=k
    · simp only [jQ e,decide_eq_true e,Bool.true_or,Option.isSome_some]
    · rw [jO e,decide_eq_false e,Bool.false_or];exact ui k r
theorem mR(kvs:List (κ × V))(k:κ)(v:V):(lC kvs k v).length≤kvs.length+1:=by
  unfold lC
  split
  · rw [List.length_map];lia
  · rw [List.length_append,List.length_cons,List.length_nil];lia
theorem o5.isSome_eq{o:Option V}{u:Option Value}(r:o5 o u):o.isSome=u.isSome:=by
  cases o with
  | none=>cases u with
    | none=>rfl
    | some _=>exact(show False from r).elim
  | some _=>cases u with
    | none=>exact(show False from r).elim
    | some _=>rfl
theorem KV.val{kvs:List (κ × V)}{vs:List (κ × Value)}(r:KV kvs vs)(k:κ):o5 (mD kvs k) (valueAt vs k):=by
  unfold KV at r
  induction r with
  | nil=>exact True.intro
  | @cons p q ps qs h t ih=>
    obtain⟨h1,h2⟩:=h
    by_cases e:p.1=k
    · have e':q.1=k:=h1.symm.trans e
      have b:valueAt (q::qs) k=some q.2:=by simp [valueAt,List.find?_cons,e']
      rw [jQ e,b];exact h2
    · have e':¬q.1=k:=fun z=>e (h1.trans z)
      have b:valueAt (q::qs) k=valueAt qs k:=by simp [valueAt,List.find?_cons,e']
      rw [jO e,b];exact ih
theorem KV.any{kvs:List (κ × V)}{vs:List (κ × Value)}(r:KV kvs vs)(k:κ):(kvs.any fun kv=>decide (kv.1=k))=vs.any fun kv=>decide (kv.1=k):=by
  unfold KV at r
  induction r with
  | nil=>rfl
  | cons h t ih=>rw [List.any_cons,List.any_cons,ih,h.1]
theorem KV.repl{kvs:List (κ × V)}{vs:List (κ × Value)}(r:KV kvs vs)(k:κ){y:V}{u:Value}(ry:a9 y u):
    KV (kvs.map fun kv=>if kv.1=k then(kv.1,y) else kv) (vs.map fun kv=>if kv.1=k then(kv.1,u) else kv):=by
  unfold KV at r ⊢
  induction r with
  | nil=>exact .nil
  | @cons p q ps qs h t ih=>
    rw [List.map_cons,List.map_cons]
    refine .cons ?_ ih
    obtain⟨h1,h2⟩:=h
    by_cases e:p.1=k
    · rw [if_pos e,if_pos (h1.symm.trans e)];exact⟨h1,ry⟩
    · rw [if_neg e,if_neg (fun z=>e (h1.trans z))];exact⟨h1,h2⟩
theorem KV.put{kvs:List (κ × V)}{vs:List (κ × Value)}(r:KV kvs vs)(k:κ){y:V}{u:Value}(ry:a9 y u):KV (lC kvs k y) (stored vs k u):=by
  unfold lC stored
  rw [r.any k]
  by_cases e:(vs.any fun kv=>decide (kv.1=k))=true
  · rw [if_pos e,if_pos e];exact r.repl k ry
  · rw [if_neg e,if_neg e];exact Paired.snoc r ⟨rfl,ry⟩
theorem KV.length{kvs:List (κ × V)}{vs:List (κ × Value)}(r:KV kvs vs):kvs.length=vs.length:=Paired.length r
end
theorem vP{P:Program}{w:World}{k:eP}{u:Value}(r:a9 (kV k) u):(cZ P w).is k u=true:=by
  cases k with
  | inl i=>obtain⟨t,e⟩:=(show ∃t,u=Value.int i t from r);subst e;exact sT P w i t
  | inr x=>obtain⟨t,e⟩:=(show ∃t,u=Value.str x t from r);subst e;exact sU P w x t
theorem pU{P:Program}{w:World}:∀{ks:List eP} {us:List Value},aJ (ks.map kV) us→ItemsAre (cZ P w) ks us
  | [],_,r=>by rw [List.map_nil] at r;cases r;exact .nil
  | k::ks,_,r=>by
    rw [List.map_cons] at r
    cases r with
    | cons h t=>exact .cons (vP h) (pU t)
abbrev KT(H:Hp):List (List eP × V)→List (List eP × Addr × Value)→Prop:=Paired fun p q=>p.1=q.1∧H q.2.1=some (.tup (p.1.map kV))∧a9 p.2 q.2.2
theorem KT.val{H:Hp}{kvs:List (List eP × V)}{xs:List (List eP × Addr × Value)}(r:KT H kvs xs)(k:List eP):o5 (mD kvs k) ((atKey xs k).map (·.2)):=by
  induction r with
  | nil=>exact True.intro
  | @cons p q ps qs h t ih=>
    obtain⟨h1,_,h2⟩:=h
    by_cases e:p.1=k
    · have e':q.1=k:=h1.symm.trans e
      have b:atKey (q::qs) k=some q.2:=by simp [atKey,List.find?_cons,e']
      rw [jQ e,b];exact h2
    · have e':¬q.1=k:=fun z=>e (h1.trans z)
      have b:atKey (q::qs) k=atKey qs k:=by simp [atKey,List.find?_cons,e']
      rw [jO e,b];exact ih
theorem KT.repl{H:Hp}{kvs:List (List eP × V)}{xs:List (List eP × Addr × Value)}(r:KT H kvs xs)(k:List eP){y:V}{u:Value}(ry:a9 y u):
    KT H (kvs.map fun kv=>if kv.1=k then(kv.1,y) else kv) (xs.map (putAt k u)):=by
  induction r with
  | nil=>exact .nil
  | @cons p q ps qs h t ih=>
    rw [List.map_cons,List.map_cons]
    refine .cons ?_ ih
    obtain⟨h1,h2,h3⟩:=h
    unfold putAt
    by_cases e:p.1=k
    · rw [if_pos e,if_pos (h1.symm.trans e)];exact⟨h1,h2,ry⟩
    · rw [if_neg e,if_neg (fun z=>e (h1.trans z))];exact⟨h1,h2,h3⟩
theorem KT.put{H:Hp}{kvs:List (List eP × V)}{xs:List (List eP × Addr × Value)}(r:KT H kvs xs)(k:List eP){b:Addr}{y:V}{u:Value}(hb:H b=some (.tup (k.map kV)))(ry:a9 y u):
    KT H (lC kvs k y) (storedH xs k b u):=by
  have e:(kvs.any fun kv=>decide (kv.1=k))=(atKey xs k).isSome:=by
    rw [ui,(r.val k).isSome_eq,Option.isSome_map]
  unfold lC storedH
  rw [e]
  by_cases q:(atKey xs k).isSome=true
  · rw [if_pos q,if_pos q];exact r.repl k ry
  · rw [if_neg q,if_neg q];exact Paired.snoc r ⟨rfl,hb,ry⟩
theorem KT.keeps{H H':Hp}{kvs:List (List eP × V)}{xs:List (List eP × Addr × Value)}(r:KT H kvs xs)(ht:∀b ys,H b=some (.tup ys)→H' b=some (.tup ys)):KT H' kvs xs:=
  Paired.mapP r fun _ _ z=>⟨z.1,ht _ _ z.2.1,z.2.2⟩
section
variable{P:Program}{w:World}{H:Hp}{h:Heap}{a:Addr}
theorem Dx{u:HO}(ok:kR P w H h)(e:Rd H a u):cW P w H h a u:=e.ok ok
theorem vA{kvs:List (eP × V)}(ok:kR P w H h)(e:Rd H a (.dK kvs)):kvs.length≤sizeLine∧(a==sysModules)=false∧∃vs,KV kvs vs∧h.DictOf (cZ P w) a vs:=
  show cW P w H h a (.dK kvs) from Dx ok e
theorem GI{kvs:List (eP × V)}(ok:kR P w H h)(e:H a=some (.dK kvs)):kvs.length≤sizeLine∧(a==sysModules)=false∧∃vs,KV kvs vs∧h.DictOf (cZ P w) a vs:=vA ok (.inl e)
theorem qV{ks:List eP}(ok:kR P w H h)(e:H a=some (.tup (ks.map kV))):(tupleKind (cZ P w)).is h ks a:=by
  obtain⟨_,its,r,o,h1,h2,n,h3,_⟩:=(show cW P w H h a (.tup (ks.map kV)) from ok a _ e)
  exact⟨o,its.toArray,n,h1,h2,h3,by simpa using pU r⟩
theorem vB{kvs:List (List eP × V)}(ok:kR P w H h)(e:Rd H a (.dT kvs)):kvs.length≤sizeLine∧(a==sysModules)=false∧
    ∃xs,KT H kvs xs∧h.DictOfH (tupleKind (cZ P w)) a xs:=by
  obtain⟨z,y,xs,r,o,es,ep,h1,h2,h3,h4,h5⟩:=(show cW P w H h a (.dT kvs) from Dx ok e)
  refine⟨z,y,xs,r,o,es,ep,h1,h2,h3,h4,fun x hx=>?_,h5⟩
  have all:∀{l:List (List eP × V)} {m:List (List eP × Addr × Value)},KT H l m→∀x∈m,(tupleKind (cZ P w)).is h x.1 x.2.1:=by
    intro l m q
    induction q with
    | nil=>intro x hx;exact nomatch hx
    | @cons p q ps qs hq t ih=>
      intro x hx
      rcases Me hx with e | hx
      · subst e
        exact qV ok (by rw [←hq.1];exact hq.2.1)
      · exact ih x hx
  exact all r x hx
theorem GJ{kvs:List (List eP × V)}(ok:kR P w H h)(e:H a=some (.dT kvs)):kvs.length≤sizeLine∧(a==sysModules)=false∧
    ∃xs,KT H kvs xs∧h.DictOfH (tupleKind (cZ P w)) a xs:=vB ok (.inl e)
end
def oZ(H:Hp)(a:Addr)(y:V)(r:Option V):Prop:=
  (∃kvs k,Rd H a (.dK kvs)∧y=kV k∧r=mD kvs k)∨∃kvs k b,Rd H a (.dT kvs)∧y=.ref b∧H b=some (.tup (k.map kV))∧r=mD kvs k
def xW(H:Hp)(a:Addr)(y v:V)(H':Hp):Prop:=
  (∃kvs k,H a=some (.dK kvs)∧y=kV k∧kvs.length < sizeLine∧H'=a8 H a (.dK (lC kvs k v)))∨
  ∃kvs k b,H a=some (.dT kvs)∧y=.ref b∧H b=some (.tup (k.map kV))∧kvs.length < sizeLine∧H'=a8 H a (.dT (lC kvs k v))
theorem oZ.k{H:Hp}{a:Addr}{kvs:List (eP × V)}{k:eP}(e:H a=some (.dK kvs)):oZ H a (kV k) (mD kvs k):=.inl ⟨kvs,k,.inl e,rfl,rfl⟩
theorem xW.k{H:Hp}{a:Addr}{kvs:List (eP × V)}{k:eP}{v:V}(e:H a=some (.dK kvs))(hl:kvs.length < sizeLine):xW H a (kV k) v (a8 H a (.dK (lC kvs k v))):=.inl ⟨kvs,k,e,rfl,hl,rfl⟩
section
variable{X:Cx}{pins:List (Addr × Obj)}{σ:St}{H:Hp}{s:Shared}{a:Addr}{y v:V}{u r:Value}{o:Option V}{A:Around}{E:Value→Shared→Prop}
theorem ax.big(I:ax X pins σ H s):sysModules < s.heap.objs.size:=by
  have h:mainGlobals < s.heap.objs.size:=(I.mod.glob.keeps I.bk).lt
  exact Nat.lt_trans (by decide) h
theorem wM{Q:Value→Shared→Prop}(hu:A.units+1 < cLine)(I:ax X pins σ H s)(g:oZ H a y (some v))(ry:a9 y u)(h:∀w' s',ax X pins σ H s'→a9 v w'→Q w' s'):
    wpAny (model X.prog X.w) A (getItem (.ref a) u) Q E s:=by
  rcases g with ⟨kvs,k,e,ey,l⟩ | ⟨kvs,k,b,e,ey,eb,l⟩
  · subst ey
    obtain⟨z,hd,vs,rel,dd⟩:=vA I.hok e
    obtain⟨w',hw,rw'⟩:=o5.some_of (v:=v) (o:=valueAt vs k) (by rw [l];exact rel.val k)
    exact wpAny_getItem_of (vP ry) dd.mapOf hw (h w' _ (I.tok _) rw')
  · subst ey
    cases (show u=Value.ref b from ry)
    obtain⟨z,hd,xs,rel,dd⟩:=vB I.hok e
    obtain⟨w',hw,rw'⟩:=o5.some_of (v:=v) (o:=(atKey xs k).map (·.2)) (by rw [l];exact rel.val k)
    obtain⟨p,hp,hp2⟩:=Ma hw
    refine wpAny_getItem_heap (tupleKind_room_in1 hu) (qV I.hok eb) dd hp ?_
    rw [hp2]
    exact h w' _ (I.tok _) rw'
theorem Bf{Q:Value→Shared→Prop}(hu:A.units+1 < cLine)(I:ax X pins σ H s)(g:oZ H a y o)(ry:a9 y u)(h:∀s',ax X pins σ H s'→Q (.bool (!o.isSome)) s'):
    wpAny (model X.prog X.w) A (compareOp .NotIn u (.ref a)) Q E s:=by
  rcases g with ⟨kvs,k,e,ey,l⟩ | ⟨kvs,k,b,e,ey,eb,l⟩
  · subst ey
    obtain⟨z,hd,vs,rel,dd⟩:=vA I.hok e
    refine wpAny_notIn_of (vP ry) hd dd.mapOf ?_
    rw [←(rel.val k).isSome_eq,←l]
    exact h _ (I.tok _)
  · subst ey
    cases (show u=Value.ref b from ry)
    obtain⟨z,hd,xs,rel,dd⟩:=vB I.hok e
    refine wpAny_notIn_heap (tupleKind_room_in1 hu) (qV I.hok eb) hd dd ?_
    have q:=(rel.val k).isSome_eq
    rw [Option.isSome_map] at q
    rw [←q,←l]
    exact h _ (I.tok _)
theorem vz{h':Heap}{t':Nat}{ob:HO}(I:ax X pins σ H s)(mu:Gu (H a))(hs:Heap.SameBut a s.heap h')(he:∃q,h'.get? a=some q)(new:cW X.prog X.w (a8 H a ob) h' a ob):
    ax X pins σ (a8 H a ob) {s with heap:=h',toks:=t'}:=
  I.write (x:=a) (e:=a) mu (.inl rfl) (fun b q hb z=>(hs.2 b hb).trans z) he new
theorem D3{P:Program}{w:World}{H':Hp}{h':Heap}{kvs:List (eP × V)}{vs:List (eP × Value)}(z:kvs.length≤sizeLine)(hd:(a==sysModules)=false)(rel:KV kvs vs)(dd:h'.DictOf (cZ P w) a vs):
    cW P w H' h' a (.dK kvs):=⟨z,hd,vs,rel,dd⟩
theorem wN{H':Hp}{Q:Unit→Shared→Prop}(hu:A.units+1 < cLine)(I:ax X pins σ H s)(g:xW H a y v H')(ry:a9 y u)(rv:a9 v r)(h:∀s',ax X pins σ H' s'→Q () s'):
    wpAny (model X.prog X.w) A (setItem (.ref a) u r) Q E s:=by
  rcases g with ⟨kvs,k,e,ey,l,eH⟩ | ⟨kvs,k,b,e,ey,eb,l,eH⟩
  · subst ey eH
    obtain⟨z,hd,vs,rel,dd⟩:=GI I.hok e
    have hz:vs.length≤sizeLine:=by rw [←rel.length];exact z
    have hl:(lC kvs k v).length≤sizeLine:=by have:=mR kvs k v;lia
    refine wpAny_setItem_pairs (hsz:=hz) (vP ry) dd fun h' dd' hs=>h _ ?_
    have he:∃q,h'.get? a=some q:=let ⟨q,_,_,hq,_⟩:=dd';⟨q,hq⟩
    exact vz I (by rw [e];exact True.intro) hs he (D3 hl hd (rel.put k rv) dd')
  · subst ey eH
    cases (show u=Value.ref b from ry)
    obtain⟨z,hd,xs,rel,dd⟩:=GJ I.hok e
    have hz:xs.length≤sizeLine:=by rw [←Paired.length rel];exact z
    have hl:(lC kvs k v).length≤sizeLine:=by have:=mR kvs k v;lia
    refine wpAny_setItem_heap (hsz:=hz) (tupleKind_room_in1 hu) (qV I.hok eb) dd fun h' dd' hs=>h _ ?_
    obtain⟨q,es,ep,hq,h2,h3,h4,_,h5⟩:=dd'
    refine vz I (by rw [e];exact True.intro) hs ⟨q,hq⟩ ⟨hl,hd,_,(rel.put k eb rv).keeps fun c ys ec=>?_,q,es,ep,hq,h2,h3,h4,h5⟩
    rw [aF (G2 ec e (fun z=>nomatch z))]
    exact ec
end
section
variable{X:Cx}{pins:List (Addr × Obj)}{σ:St}{H:Hp}{s:Shared}{a:Addr}{kvs:List (eP × V)}{k:eP}{u:Value}{A:Around}{E:Value→Shared→Prop}
end
def DN(i:Expr):Prop:=∀ov iv,subscripted i false ov iv=operate [ov,iv] (getItem ov iv)
theorem Cw{prog:Program}{w:World}{A:Around}{E:Value→Shared→Prop}{s:Shared}{env:Env}{value slice:Expr}{pos:Pos}{T id:String}{Q:Value→Shared→Prop}
    (hl:typeLookup (.type T) "__getitem__"=pure (some (.builtin id)))(hs:DN slice)
    (h:wpAny (model prog w) A (eval value env) (fun o s₁=>wpAny (model prog w) A (eval slice env) (fun i s₂=>s₂.TypeIs o T∧wpAny (model prog w) A (getItem o i) Q E s₂) E s₁) E s):
    wpAny (model prog w) A (eval (.Subscript value slice pos) env) Q E s:=by
  refine Subscript_ (wpAny_mono h (fun o s₁ h₁=>wpAny_mono h₁ (fun i s₂ h₂=>?_) fun _ _ x=>x) fun _ _ x=>x)
  obtain⟨hT,h₂⟩:=h₂
  unfold subscriptTail
  refine wpAny_bind ?_
  rw [getitemInPython_of_ne hT.not_modules]
  refine wpAny_bind (wpAny_specialOf hT hl ?_)
  have fin:wpAny (model prog w) A (subscripted slice false o i) (fun r s₃=>wpAny (model prog w) A (letTemporaryGo value o r >>= fun _=>pure r) Q E s₃) E s₂:=by
    rw [hs o i]
    exact wpAny_operating (wpAny_mono h₂ (fun r s₃ h₃=>wpAny_bind (wpAny_letTemporaryGo (wpAny_pure h₃))) fun _ _ x=>x)
  first
    | exact wpAny_pure (wpAny_bind fin)
    | exact wpAny_bind (wpAny_pure (wpAny_bind fin))
    | exact wpAny_bind fin
theorem si{X:Cx}{pins:List (Addr × Obj)}{σ:St}{H:Hp}{s:Shared}{a:Addr}{y:V}{o:Option V}(I:ax X pins σ H s)(g:oZ H a y o):s.TypeIs (.ref a) "dict":=by
  rcases g with ⟨kvs,k,e,_,_⟩ | ⟨kvs,k,b,e,_,_,_⟩
  · obtain⟨_,_,vs,_,dd⟩:=vA I.hok e
    exact dd.typeIs
  · obtain⟨_,_,xs,_,dd⟩:=vB I.hok e
    exact dd.typeIs
def HG(td ty:TE):TE:=fun σ H Q=>td σ H fun x H1=>ty σ H1 fun y H2=>∃a v,x=.ref a∧oZ H2 a y (some v)∧Q v H2
def Cy(ty td:TE):TE:=fun σ H Q=>ty σ H fun y H1=>td σ H1 fun x H2=>∃a o,x=.ref a∧oZ H2 a y o∧Q (.bl (!o.isSome)) H2
def Hz(td ty tv:TE):TS:=fun D σ H=>tv σ H fun v H1=>td σ H1 fun x H2=>ty σ H2 fun y H3=>∃a H4,x=.ref a∧xW H3 a y v H4∧D.nx σ H4
section
variable{X:Cx}{o i e value:Expr}{pos pos' tpos:Pos}{td ty tv:TE}
theorem BV(hu:X.A.units+1 < cLine)(ho:PE X o td)(hi:PE X i ty)(hs:DN i):PE X (.Subscript o i pos) (HG td ty):=by
  intro pins s σ H Q I h
  refine Cw PySem.F.slot_dict_getitem.lookup hs (br (ho pins s σ H _ I h) fun u s1 ⟨x,H1,I1,rx,q1⟩=>br (hi pins s1 σ H1 _ I1 q1) fun iv s2 ⟨y,H2,I2,ry,a,v,ex,g,q2⟩=>?_)
  subst ex
  obtain rfl:u=Value.ref a:=rx
  exact⟨si I2 g,wM hu I2 g ry fun w' s3 I3 rw'=>⟨v,H2,I3,rw',q2⟩⟩
theorem xm(hu:X.A.units+1 < cLine)(hi:PE X i ty)(ho:PE X o td):PC X .NotIn i o (Cy ty td):=by
  intro pins s σ H Q I h
  refine br (hi pins s σ H _ I h) fun iv s1 ⟨y,H1,I1,ry,q1⟩=>br (ho pins s1 σ H1 _ I1 q1) fun u s2 ⟨x,H2,I2,rx,a,ov,ex,g,q2⟩=>?_
  subst ex
  obtain rfl:u=Value.ref a:=rx
  exact Bf hu I2 g ry fun s3 I3=>⟨.bl (!ov.isSome),H2,I3,rfl,q2⟩
theorem B6(hu:X.A.units+1 < cLine)(ho:PE X o td)(hi:PE X i ty)(hv:PE X value tv)(hs:swapsWith value (some (.Subscript o i pos')) pos.line X.env=pure false):
    PS X (.Assign [.Subscript o i pos'] value pos) (Hz td ty tv):=by
  intro pins s σ H D I h
  refine wpAny_Assign_Subscript (br (hv pins s σ H _ I h) fun r s1 ⟨v,H1,I1,rv,q1⟩=>br (ho pins s1 σ H1 _ I1 q1) fun u s2 ⟨x,H2,I2,rx,q2⟩=>br (hi pins s2 σ H2 _ I2 q2) fun iv s3 ⟨y,H3,I3,ry,a,H4,ex,g,q3⟩=>?_) hs
  subst ex
  obtain rfl:u=Value.ref a:=rx
  exact wN hu I3 g ry rv fun s4 I4=>⟨σ,H4,I4,q3⟩
end
theorem yo{P:Program}{w:World}{H:Hp}(h:Heap)(hb:sysModules < h.objs.size):cW P w H (h.push {cls:=.type "dict",data:=.dict #[]}) h.objs.size (.dK []):=
  ⟨Nat.zero_le _,beq_eq_false_iff_ne.mpr (Ne.symm (Nat.ne_of_lt hb)),[],.nil,Heap.DictOf.new h⟩
def FU:TE:=fun _ H Q=>∀p,H p=none→Q (.ref p) (a8 H p (.dK []))
section
variable{X:Cx}{pos:Pos}
theorem zy:PE X (.Dict [] [] pos) FU:=fun pins s σ H Q I h=>
  wpAny_Dict_empty ⟨.ref s.heap.objs.size,_,I.laid (a:=s.heap.objs.size) (o:=.dK []) (t':=s.toks) (fun _ _ q=>Heap.get?_push_of_some _ q) (Nat.le_refl _) (yo s.heap I.big),rfl,h _ (I.hok.fresh (Nat.le_refl _))⟩
end
abbrev VV:List (V × V)→List (Value × Value)→Prop:=Paired fun p q=>a9 p.1 q.1∧a9 p.2 q.2
section
variable{X:Cx}{pins:List (Addr × Obj)}{σ:St}{H:Hp}{s:Shared}{a:Addr}{y d:V}{u r:Value}{o:Option V}{A:Around}{E:Value→Shared→Prop}
end
section
variable{X:Cx}{o e f:Expr}{apos cpos:Pos}{td ty tx:TE}
end
section
variable{X:Cx}{pins:List (Addr × Obj)}{σ:St}{H:Hp}{s:Shared}{a:Addr}{kvs:List (eP × V)}{A:Around}{E:Value→Shared→Prop}
end
section
variable{X:Cx}{pins:List (Addr × Obj)}{σ:St}{H:Hp}{s:Shared}{a:Addr}{y:V}{u:Value}{A:Around}{E:Value→Shared→Prop}
end
end L2
namespace Att
open PySem PySem.W PySem.Calls PyProof.Rows
section
variable{prog:Program}{w:World}{A:Around}{E:Value→Shared→Prop}{s:Shared}{K:Frag}
end
end Att
namespace L2
open PySem PySem.Spec PyProof.Rows
section
variable{P:Program}{w:World}{K:PySem.W.Frag}{mg:Str→Option Value}{base:Heap}
end
section
variable{X:Cx}
end
section
variable{κ:Type}[DecidableEq κ]
end
def DB:PyData→String
  | .none=>"NoneType"
  | .bool _=>"bool"
  | .int _=>"int"
  | .str _=>"str"
  | .tuple _=>"tuple"
  | .list _=>"list"
  | .dict _=>"dict"
def xD(t T:String):Bool:=t==T || (t=="bool"&&T=="int")
def yQ(T:String)(d:PyData):Bool:=xD (DB d) T
def gL(T:String):En→Rv→Option Rv:=fun _ r=>match r with
  | .d x=>some (.d (.bool (yQ T x)))
  | _=>some (.d (.bool (yQ T (.list []))))
section
variable{X:Cx}{K:PySem.W.Frag}{a:Expr}{fa:FE}{pos p p2:Pos}
def Iw(K:PySem.W.Frag)(H:Hp):V→String→Prop
  | .non,t=>t="NoneType"
  | .bl _,t=>t="bool"
  | .int _,t=>t="int"
  | .str _,t=>t="str"
  | .ref a,t=>(t="tuple"∧∃xs,dz K H a xs)∨(t="list"∧∃xs,f9 K H a xs)∨(t="dict"∧∃m,H a=some (.dK m))
  | _,_=>False
theorem yi{T:String}:dQ X (.builtin "isinstance") (fun xs H Q=>∃x t b,xs=[x,.ty T]∧Iw X.K H x t∧PySem.W.kitOne X.K (.type t) (.type T)=some b∧Q (.bl b) H):=by
  intro pins s σ H xs us Q I r h
  obtain⟨x,t,b,rfl,ht,hk,q⟩:=h
  obtain⟨u1,u2,rfl,r1,r2⟩:∃u1 u2,us=[u1,u2]∧a9 x u1∧a9 (.ty T) u2:=by
    cases r with
    | cons p q=>cases q with
      | cons p' q'=>cases q';exact⟨_,_,rfl,p,p'⟩
  cases r2
  have q':∀tk,EP X pins σ Q (.bool b) {s with toks:=tk}:=fun tk=>⟨.bl b,H,I.tok _,rfl,q⟩
  cases x with
  | non=>cases (show u1=Value.none from r1);cases (show t=_ from ht);exact PySem.W.kia_one PySem.W.kitx_none I.kIn True.intro hk (fun z=>nomatch z) q'
  | bl y=>cases (show u1=Value.bool y from r1);cases (show t=_ from ht);exact PySem.W.kia_one PySem.W.kitx_bool I.kIn True.intro hk (fun z=>nomatch z) q'
  | int i=>obtain⟨tt,rfl⟩:=r1;cases (show t=_ from ht);exact PySem.W.kia_one PySem.W.kitx_int I.kIn True.intro hk (fun z=>nomatch z) q'
  | str y=>obtain⟨tt,rfl⟩:=r1;cases (show t=_ from ht);exact PySem.W.kia_one PySem.W.kitx_str I.kIn True.intro hk (fun z=>nomatch z) q'
  | ref a=>
    cases (show u1=Value.ref a from r1)
    rcases ht with ⟨rfl,xs,hs⟩ | ⟨rfl,xs,hs⟩ | ⟨rfl,m,hs⟩
    · obtain⟨its,rv,pl,hz⟩:=I.tuple hs
      obtain⟨o,h1,h2⟩:=pl.typeIs
      exact PySem.W.kia_one PySem.W.kitx_tuple I.kIn ⟨o,h1,h2⟩ hk (fun z=>nomatch z) q'
    · obtain⟨its,rv,pl,hz⟩:=I.list hs
      obtain⟨o,h1,h2⟩:=pl.isList.typeIs
      exact PySem.W.kia_one PySem.W.kitx_list I.kIn ⟨o,h1,h2⟩ hk (fun z=>nomatch z) q'
    · obtain⟨_,_,vs,_,pp⟩:=(show cW X.prog X.w H s.heap a (.dK m) from I.hok a _ hs)
      obtain⟨o,es,ep,h1,h2,_⟩:=pp
      exact PySem.W.kia_one PySem.W.kitx_dict I.kIn ⟨o,h1,h2.1⟩ hk (fun z=>nomatch z) q'
  | _=>exact False.elim ht
theorem zA{x:Str}{T:String}(hg:Gl X x)(hm:X.mg x=none)(hv:bootBuiltins x=some (.type T))(hn:x≠"__name__")(hd:(x==("__debug__":Str))=false):PE X (.Name x pos) (tC (.ty T)):=fun pins s σ H Q I h=>
  ku I hg hm hv ⟨.ty T,H,I,rfl,h⟩ hn hd
theorem Ek{t T:String}(ht:t∈["NoneType","bool","int","str","tuple","list","dict"])(hT:T∈["int","bool","tuple","str"]):PySem.W.kitOne K (.type t) (.type T)=some (xD t T):=by
  simp only [List.mem_cons,List.not_mem_nil,or_false] at ht hT
  rcases ht with rfl | rfl | rfl | rfl | rfl | rfl | rfl<;>rcases hT with rfl | rfl | rfl | rfl<;>rfl
theorem CH(d:PyData):DB d∈["NoneType","bool","int","str","tuple","list","dict"]:=by cases d<;>simp [DB]
theorem F_{F H:Hp}{d:PyData}{v:V}(h:DA K F d v)(s:aw F H):Iw K H v (DB d):=by
  have h:=DA.mono s h
  cases d with
  | none=>rw [gh.mp h];rfl
  | bool b=>rw [cX.mp h];rfl
  | int b=>rw [cg.mp h];rfl
  | str b=>rw [l6.mp h];rfl
  | tuple ds=>obtain⟨a,xs,rfl,h1,_⟩:=cU.mp h;exact .inl ⟨rfl,xs,h1⟩
  | list ds=>obtain⟨a,xs,rfl,h1,_⟩:=eS.mp h;exact .inr (.inl ⟨rfl,xs,h1⟩)
  | dict m=>simp only [DA] at h;obtain⟨a,m,rfl,h1,_⟩:=h;exact .inr (.inr ⟨rfl,_,h1⟩)
theorem vD{f:FE}{σ:L2.St}{H:Hp}{Q Q':VK}(h:fE K f σ H Q)(m:∀v H1,Q v H1→Q' v H1):fE K f σ H Q':=by
  obtain⟨F,e,r,e',R,hf,q⟩:=h
  exact⟨F,e,r,e',R,hf,fun F' H' v x R' A=>m _ _ (q F' H' v x R' A)⟩
theorem GV{T:String}:DR K (fun v H Q=>∃t,t∈["NoneType","bool","int","str","tuple","list","dict"]∧Iw K H v t∧Q (.bl (xD t T)) H) (gL T):=by
  intro σ H0 F H e x z v Q R A hg q
  unfold gL at hg
  cases x with
  | d d=>
    cases hg
    exact⟨DB d,CH d,F_ A R.sm,q F H _ (ez.refl _ _ _ _) R du⟩
  | l xs=>
    cases hg
    obtain⟨l,vs,rfl,h1,h2,h3,h4⟩:=A
    exact⟨"list",by simp,.inr (.inl ⟨rfl,vs,f9.of h3⟩),q F H _ (ez.refl _ _ _ _) R du⟩
  | s i=>
    cases hg
    obtain⟨h1,xs,h2⟩:=A
    obtain⟨l,vs,h3,h4,h5,h6⟩:=R.own i xs h2
    rw [h1] at h3;cases h3
    exact⟨"list",by simp,.inr (.inl ⟨rfl,vs,f9.of h5⟩),q F H _ (ez.refl _ _ _ _) R du⟩
theorem je{x:Str}{T:String}(hK:X.K=K)(hT:T∈["int","bool","tuple","str"])(hg:Gl X "isinstance")(hm:X.mg "isinstance"=none)(hgT:Gl X x)(hmT:X.mg x=none)(Jo:bootBuiltins x=some (.type T))(hn:x≠"__name__")(hd:(x==("__debug__":Str))=false)
    (ha:PE X a (fE K fa))(he:starEach [a,.Name x p2] X.env=(false,eval a X.env)::starEach [.Name x p2] X.env)(hpl:(backTo pos (starEach [.Name x p2] X.env)).any (·.1)=false):
    PE X (.Call (.Name "isinstance" p) [a,.Name x p2] [] pos) (fE K (oW (gL T) fa)):=
  (oz (yi (T:=T)) hg hm boot_isinstance (j5 ha (j5 (zA hgT hmT Jo hn hd) mj) he) (by decide) (by decide) he hpl).mono fun σ H Q h=>by
    subst hK
    have h1:=vc (GV (T:=T)) h
    refine vD h1 fun v H1 ⟨t,ht,k,q⟩=>?_
    exact⟨v,t,_,rfl,k,Ek ht hT,q⟩
end
section
variable{X:Cx}{K:PySem.W.Frag}
end
section
variable{X:Cx}{K:PySem.W.Frag}{σ:L2.St}{F H:Hp}{e:En}{pos p1 p2:Pos}
end
section
variable{X:Cx}{K:PySem.W.Frag}{a b c d:Expr}{ta tb tc td:TE}{fa fb fc fd:FE}{pos:Pos}
end
section
variable{X:Cx}{K:PySem.W.Frag}{a b:Expr}{es:List Expr}{fa fb:FE}{fs:FA}{pos p apos:Pos}
theorem Al{σ:L2.St}{H0 F H:Hp}{e:En}{x:Str}:cH K σ H0 F H e (.d (.str x)) (.str x):=(show DA K F (.str x) (.str x) from l6.mpr rfl)
def Br:En→Rv→Option Rv:=fun _ x=>match x with
  | .d (.int i)=>if i.natAbs.log2 < 1900 then some (.d (.str (toString i:String))) else none
  | .d (.str x)=>some (.d (.str x))
  | _=>none
def Af:V→Hp→VK→Prop:=fun v H Q=>(∃i:Int,v=.int i∧i.natAbs.log2 < 1900∧Q (.str (toString i:String)) H)∨∃x,v=.str x∧Q (.str x) H
theorem wL:dQ X (.type "str") (fun xs H Q=>∃v,xs=[v]∧Af v H Q):=by
  intro pins s σ H xs us Q I r h
  obtain⟨v,rfl,h⟩:=h
  obtain⟨u,rfl,ru⟩:=jH r
  rcases h with ⟨i,rfl,hi,q⟩ | ⟨x,rfl,q⟩
  · obtain⟨t,rfl⟩:=ru
    exact PySem.P.str_of_int (by lia) ⟨.str _,H,I.tok _,⟨_,rfl⟩,q⟩
  · obtain⟨t,rfl⟩:=ru
    exact PySem.P.str_of_str ⟨.str _,H,I,⟨_,rfl⟩,q⟩
theorem FQ:DR K Af Br:=by
  intro σ H0 F H e x z v Q R A hg q
  unfold Br at hg
  split at hg
  · split at hg
    case isFalse=>cases hg
    case isTrue hi=>
    cases hg
    exact .inl ⟨_,cg.mp (show DA K F (.int _) v from A),hi,q F H _ (ez.refl _ _ _ _) R Al⟩
  · cases hg
    exact .inr ⟨_,l6.mp (show DA K F (.str _) v from A),q F H _ (ez.refl _ _ _ _) R Al⟩
  · cases hg
theorem FP:eC K (fun xs H Q=>∃v,xs=[v]∧Af v H Q) (g1 Br):=hX fun σ H0 F H e x z v Q R A hg q=>⟨v,rfl,FQ σ H0 F H e x z v Q R A hg q⟩
theorem b_str:m4 X K "str" (g1 Br):=⟨.inr ⟨_,_,wL,FP,PyProof.Rows.boot_str⟩⟩
end
section
variable{X:Cx}{K:PySem.W.Frag}{a b:Expr}{fa fb:FE}{fs:FA}{pos p p2 p3:Pos}
end
def bq(W:aY)(as:List Int):Int:=bp W (W.rng.filter fun k=> !as.contains k)
def wI(l:Nat):Int:=1000*(2 ^ (16 - l) - 1)
structure Jx (W:aY) (k:Int) (as:List Int) (y n:Fr):Prop where
  y:Ia (bq W (aY.askd as k)) (wI (as.length+1)) y
  n:Ia (bq W (aY.askd as k)) (wI (as.length+1)) n
  len:as.length≤15
  inw:wC W k
  new:k∉as
def lk(ws:List Fr)(l:Int):Fr:=if l= -1 then(0,1) else ws.getD l.toNat (0,1)
structure JI (W:aY) (S:Nat→Std) (n:Nat) (ws:List Fr):Prop where
  len:ws.length=n
  at':∀(j:Nat) (f:Fr),ws[j]?=some f→Ia (bq W (S j).1) (wI (S j).1.length) f
theorem bY{cs:En}{g:FG}{ft:FT}{fe:FE}{b:PyData→Bool}{y:PyData→PyData}{u:PyData→En}(n:Nat):∀(items:List PyData) (t:En) (acc:List PyData),t.length=n→(∀x∈items,∀t:En,t.length=n→g x (cs++t)=some (cs++u x))→(∀x∈items,(u x).length=n)→
    (∀x∈items,ft (cs++u x)=some (b x,cs++u x))→(∀x∈items,b x=true→fe (cs++u x)=some (.d (y x),cs++u x))→acc.length+items.length≤1000000→
    ∃t',t'.length=n∧dh g ft fe items (cs++t) acc=some (acc++(items.filter b).map y,cs++t')
  | [],t,acc,h,_,_,_,_,_=>⟨t,h,by simp [dh]⟩
  | x::r,t,acc,h,hg,hu,h1,h2,hl=>by
    have h1x:=h1 x (by simp)
    unfold dh
    rw [hg x (by simp) t h]
    simp only [Option.bind_some,h1x]
    cases hb:b x with
    | true=>
      simp only [if_true,h2 x (by simp) hb,Option.bind_some,o_]
      rw [if_pos (by simp at hl;lia)]
      obtain⟨t',e1,ih⟩:=bY (b:=b) (y:=y) (u:=u) n r (u x) (acc++[y x]) (hu x (by simp)) (fun z hz=>hg z (by simp [hz])) (fun z hz=>hu z (by simp [hz])) (fun z hz=>h1 z (by simp [hz])) (fun z hz=>h2 z (by simp [hz])) (by simp at hl ⊢;lia)
      exact⟨t',e1,by rw [ih];simp [hb]⟩
    | false=>
      simp only [Bool.false_eq_true,if_false]
      obtain⟨t',e1,ih⟩:=bY (b:=b) (y:=y) (u:=u) n r (u x) acc (hu x (by simp)) (fun z hz=>hg z (by simp [hz])) (fun z hz=>hu z (by simp [hz])) (fun z hz=>h1 z (by simp [hz])) (fun z hz=>h2 z (by simp [hz])) (by simp at hl;lia)
      exact⟨t',e1,by rw [ih];simp [hb]⟩
theorem qc{x:Str}(h:PyData.strOk x=true):∀c∈x.cps.toList,c < 1114112:=by
  intro c hc
  unfold PyData.strOk at h
  rw [Array.all_eq_true'] at h
  have:=h c (by simpa using hc)
  simpa using this
theorem Ax{l:Array Nat}(h:∀c∈l.toList,c < 1114112):PyData.strOk ⟨l⟩=true:=by
  unfold PyData.strOk
  rw [Array.all_eq_true']
  intro c hc
  simpa using h c (by simpa using hc)
theorem Bb(c:Char):c.toNat < 1114112:=by
  have:=c.valid
  unfold UInt32.isValidChar Nat.isValidChar at this
  show c.val.toNat < _
  lia
open PySem.Builtin.Str in
theorem tH{q c:Nat}(hc:c < 1114112):∀d∈reprChar q c,d < 1114112:=by
  intro d hd
  unfold reprChar at hd
  have hx:∀w:Nat,∀d∈(List.replicate (w - ((Nat.toDigits 16 c).map Char.toNat).length) 48++(Nat.toDigits 16 c).map Char.toNat),d < 1114112:=by
    intro w d hd
    rcases Mc hd with h | h
    · have:=List.eq_of_mem_replicate h;lia
    · obtain⟨ch,_,rfl⟩:=Md h;exact Bb ch
  dsimp only at hd
  split at hd
  · simp only [List.mem_cons,List.not_mem_nil,or_false] at hd;lia
  split at hd
  · simp only [List.mem_cons,List.not_mem_nil,or_false] at hd;lia
  split at hd
  · simp only [List.mem_cons,List.not_mem_nil,or_false] at hd;lia
  split at hd
  · simp only [List.mem_cons,List.not_mem_nil,or_false] at hd;lia
  split at hd
  · simp only [List.mem_cons,List.not_mem_nil,or_false] at hd;lia
  split at hd
  · rcases Mc hd with h | h
    · simp only [List.mem_cons,List.not_mem_nil,or_false] at h;lia
    · exact hx 2 d h
  split at hd
  · rcases Mc hd with h | h
    · simp only [List.mem_cons,List.not_mem_nil,or_false] at h;lia
    · exact hx 4 d h
  · rcases Mc hd with h | h
    · simp only [List.mem_cons,List.not_mem_nil,or_false] at h;lia
    · exact hx 8 d h
open PySem.Builtin.Str in
theorem p6{q:Nat}:∀(l:List Nat) (acc:Array Nat),(∀c∈l,c < 1114112)→(∀c∈acc.toList,c < 1114112)→∀c∈(l.foldl (fun out c=>out++(reprChar q c).toArray) acc).toList,c < 1114112
  | [],acc,_,h=>h
  | x::r,acc,h1,h2=>p6 r _ (fun c hc=>h1 c (by simp [hc])) fun c hc=>by
    simp only [Array.toList_append,List.mem_append] at hc
    rcases hc with hc | hc
    · exact h2 c hc
    · exact tH (h1 x (by simp)) c hc
theorem tJ{x:Str}(h:PyData.strOk x=true):PyData.strOk (reprText x)=true:=by
  unfold reprText
  refine Ax fun c hc=>?_
  have hq:reprQuote x < 1114112:=by unfold reprQuote;split<;>lia
  rw [Array.toList_push] at hc
  rcases Mc hc with hc | hc
  · rw [←Array.foldl_toList] at hc
    exact p6 _ _ (qc h) (fun c hc=>by simp at hc;lia) c hc
  · simp at hc;lia
theorem Sz.str{x:Str}{n:Nat}(h:PyData.strOk x=true)(hl:x.length≤n):Sz (10*n+2) 2 (.str x):=by
  refine⟨rfl,rfl,by simp [PyData.depth],?_,tJ h⟩
  have:=PySem.StrLaws.reprText_len x fun c hc=>Nat.lt_of_lt_of_le (qc h c hc) (by decide)
  show(reprText x).length≤_
  lia
section
variable{X:Cx}{K:PySem.W.Frag}{a:Expr}{fa:FE}{pos p pos2 p2:Pos}
def xT(ns:List Int):List Int:=ns.foldl step_dedup []
theorem jt(ns:List Int):firstMet (fun i=>ns.getD i 0) ns.length=xT ns:=by
  unfold firstMet xT
  congr 1
  refine List.ext_getElem (by simp) fun i h1 h2=>?_
  simp at h1
  simp [h1]
theorem tY:isSubtype (.type "tuple") (.type "set")=pure false:=by rw [isSubtype_type];kernel_rfl
theorem oR:isSubtype (.type "tuple") (.type "frozenset")=pure false:=by rw [isSubtype_type];kernel_rfl
theorem qz{prog:Program}{w:World}{A:Around}{E:Value→Shared→Prop}{s:Shared}{l:Addr}{items:Array Value}{ns:List Int}{Q:Value→Shared→Prop}(hh:A.handled=none)(hl:s.heap.IsTuple l items)(hi:IntsAre items.toList ns)(hb:items.size+1 < scanBound)
    (h:∀(h':Heap) (tk:Nat),h'.SetOf (intKind prog w) s.heap.objs.size (fun k'=>(firstMet (fun i=>ns.getD i 0) items.size).any (· ==k')) (firstMet (fun i=>ns.getD i 0) items.size).length→(∀b o,b < s.heap.objs.size→s.heap.get? b=some o→h'.get? b=some o)→Q (.ref s.heap.objs.size) {s with heap:=h',toks:=tk}):
    wpAny (model prog w) A (call (.type "set") [.ref l]) Q E s:=by
  obtain⟨c,tl,hmro⟩:=F.called_set.mro;have hmade:=F.called_set.made;have hsub:=F.called_set.sub
  refine wpAny_call (codeAny_of_tree ?_);show wpAny _ _ (callAny (.type "set") _) _ _ _
  refine wpAny_pure ⟨Code.quiet_builtin _ (by decide+kernel),codeAny_builtin F.entry_type_call ?_⟩;rw [Around.under_plain (weight_type_call_type "set" [.ref l] []) rfl]
  have h1:=F.called_set.notType;have h2:=F.called_set.canCreate;have hct:=F.typeCall_set_1 (.ref l);repeat (any_goals (first | assumption | wp_step))
  let nw:Bool→Obj:=fun led=>{cls:=.type "set",dict:=none,data:=.set #[] 0 (.fresh 0 0 led)}
  refine codeAny_mono (code_set_new_1 (.ref l) (E:=E) (Q₁:=fun obj s₁=>∃led:Bool,obj=.ref s.heap.objs.size∧s₁={s with heap:=s.heap.push (nw led)}) fun led=>⟨led,rfl,rfl⟩) fun r s₁ hr=>?_
  cases r with
  | error e=>exact hr
  | ok fl=>
    cases fl with
    | ret obj=>
      obtain⟨led,rfl,rfl⟩:=hr;have hS:(s.heap.push (nw led)).get? s.heap.objs.size=some (nw led):=Heap.get?_push_size _ rfl
      have hT:Shared.TypeIs {s with heap:=s.heap.push (nw led)} (.ref s.heap.objs.size) "set":=⟨_,hS,rfl⟩
      have hli:=F.called_set.init.lookup;have hbi:=F.called_set.init.bind (.ref s.heap.objs.size);repeat (any_goals (first | assumption | wp_step))
      refine codeAny_mono (codeAny_call_builtin (R:=wants (fun r s₂=>r=.none∧∃h' tk,s₂={s with heap:=h',toks:=tk}∧h'.SetOf (intKind prog w) s.heap.objs.size (fun k'=>(firstMet (fun i=>ns.getD i 0) items.size).any (· ==k')) (firstMet (fun i=>ns.getD i 0) items.size).length∧(∀b o,b < s.heap.objs.size→s.heap.get? b=some o→h'.get? b=some o)) E) F.called_set.init.plain F.entry_set_init (check_set_init_1 hT ?_)) fun r₂ s₂ hr₂=>?_
      · obtain⟨ol,hol,hcl,nl,hdl⟩:=hl;obtain⟨ocls,odict,odata,oslots⟩:=ol;simp only at hcl hdl;subst hcl;subst hdl
        have hol':(s.heap.push (nw led)).get? l=some {cls:=.type "tuple",dict:=odict,data:=.seq items nl,slots:=oslots}:=Heap.get?_push_of_some _ hol
        have hsls:=tY;have hslf:=oR;have hne:(Value.type "tuple"==Value.type "dict")=false:=by decide
        have hl1:(s.heap.push (nw led)).IsTuple l items:=⟨_,hol',rfl,nl,rfl⟩
        unfold Builtin.«set.__init__» noKeywords Builtin.Frozenset.updateFrom;generalize hPI:pyIter=PI
        wp_walk
        subst hPI
        refine wpAny_pyIter_tuple hl1 ?_;refine wpAny_bind (wpAny_runValue ?_);have hlS:l < s.heap.objs.size:=Heap.lt_size hol
        have hh3:A.in1.in1.in1.handled=none:=by simp [hh]
        have hneI:l≠(s.heap.push (nw led)).objs.size:=by rw [Heap.size_push];exact Nat.ne_of_lt (Nat.lt_succ_of_lt hlS)
        have hSf:s.heap.objs.size∉[(s.heap.push (nw led)).objs.size,l]:=by
          rw [Heap.size_push];simp only [List.mem_cons,List.mem_singleton,List.not_mem_nil,or_false,not_or];exact⟨Nat.ne_of_lt (Nat.lt_succ_self _),Nat.ne_of_gt hlS⟩
        have hval:∀(i:Nat) (v:Value),items[i]?=some v→∃t,v=.int ((fun i=>ns.getD i 0) i) t:=fun i v hv=>IntsAre.int_at hi i v (by rw [Array.getElem?_toList];exact hv)
        refine codeAny_set_update_loopS ((Walks.tuple hh3 _ l hneI items).toS) s.heap.objs.size hSf (fun i=>ns.getD i 0) hval hb (items.size - 0) 0 _ (by lia) (Nat.zero_le _) ⟨⟨_,Heap.get?_push_size _ rfl,rfl,rfl⟩,(hl1.at fun o e=>Heap.get?_push_of_some _ e)⟩ ?hS0 ?hR
        case hS0=>exact SetOf_congr ((setObjOf_fresh (knd:=intKind prog w) led).setOf (Heap.get?_push_of_some _ hS) (by unfold scanBound;lia)) (fun _=>rfl) rfl
        case hR=>
          intro s' hm hS';obtain⟨h',g',d',tk',os'⟩:=s';have eg:g'=s.gens:=hm.gens;have ed:d'=s.drawn:=hm.drawn;have eo:os'=s.os:=hm.os
          subst eg;subst ed;subst eo;show wpAny _ _ _ _ _ _
          refine wpAny_pure ?_;show wpAny _ _ (ret Value.none) _ _ _;refine wpAny_pure ⟨rfl,h',tk',rfl,hS',fun b o hb e=>?_⟩
          have hb1:b≠s.heap.objs.size:=Nat.ne_of_lt hb;have hb2:b≠(s.heap.push (nw led)).objs.size:=by rw [Heap.size_push];exact Nat.ne_of_lt (Nat.lt_succ_of_lt hb)
          exact hm.heap b o (by simp only [List.mem_cons,List.mem_singleton,List.not_mem_nil,or_false,not_or];exact⟨hb1,hb2⟩) (Heap.get?_push_of_some _ (Heap.get?_push_of_some _ e))
      · cases r₂ with
        | error e=>exact hr₂
        | ok fl₂=>
          cases fl₂ with
          | ret r=>obtain⟨rfl,h',tk,rfl,hS',hk'⟩:=hr₂;(repeat (any_goals (first | assumption | wp_step)));exact h _ _ hS' hk'
          | next=>exact hr₂.elim
          | brk=>exact hr₂.elim
          | cont=>exact hr₂.elim
    | next=>exact hr.elim
    | brk=>exact hr.elim
    | cont=>exact hr.elim
def Hu(K:PySem.W.Frag):List V→Hp→VK→Prop:=fun xs H Q=>∃(l:Addr) (ns:List Int),xs=[.ref l]∧(f9 K H l (ns.map V.int)∨dz K H l (ns.map V.int))∧ns.length≤1000∧∀q S,H q=none→Q (.ref q) (a8 H q (.set S (xT ns).length))
theorem wK(hc:X.calm=true):dQ X (.type "set") (Hu X.K):=by
  intro pins s σ H xs us Q I r h
  obtain⟨l,ns,rfl,hs,hn,q⟩:=h
  obtain⟨u,rfl,ru⟩:=jH r
  cases ru
  have hf:H s.heap.objs.size=none:=I.hok.fresh (Nat.le_refl _)
  rcases hs with hs | hs
  · obtain⟨its,rv,pl,hz⟩:=I.list hs
    have hl:=rv.length
    rw [List.length_map] at hl
    have e1:its.toArray.size=ns.length:=by simp [hl]
    refine call_set_list (ns:=ns) (I.ok.hd hc) pl.isList (i4 rv) (by rw [e1];unfold scanBound;lia) fun h' tk hS hk=>?_
    rw [e1,jt] at hS
    exact⟨.ref s.heap.objs.size,_,I.laid (o:=.set _ _) (fun b o e=>hk b o (Heap.lt_size e) e) (Nat.le_refl _) hS,rfl,q _ _ hf⟩
  · obtain⟨its,rv,pl,hz⟩:=I.tuple hs
    have hl:=rv.length
    rw [List.length_map] at hl
    have e1:its.toArray.size=ns.length:=by simp [hl]
    refine qz (ns:=ns) (I.ok.hd hc) pl (i4 rv) (by rw [e1];unfold scanBound;lia) fun h' tk hS hk=>?_
    rw [e1,jt] at hS
    exact⟨.ref s.heap.objs.size,_,I.laid (o:=.set _ _) (fun b o e=>hk b o (Heap.lt_size e) e) (Nat.le_refl _) hS,rfl,q _ _ hf⟩
theorem wG:dQ X (.builtin "len") (fun xs H Q=>∃q S n,xs=[.ref q]∧H q=some (.set S n)∧n≤1000∧Q (.int n) H):=by
  intro pins s σ H xs us Q I r h
  obtain⟨p,S,n,rfl,hs,hn,q⟩:=h
  obtain⟨u,rfl,ru⟩:=jH r
  cases ru
  obtain⟨o,es,ep,t,ho,hex,hd,_,_,_,hfit,rfl⟩:=(show cW X.prog X.w H s.heap p (.set S n) from I.hok p _ hs)
  exact call_len_set ho hex hd hfit (by lia) ⟨.int es.size,H,I.tok _,⟨_,rfl⟩,q⟩
def jZ:En→Rv→Option Rv:=fun e x=>(dc e x).bind fun z=>(li z.2).bind fun ns=>if ns.length≤1000 then some (.d (.int (xT ns).length)) else none
theorem uw(ns:List Int):(xT ns).length≤ns.length:=by
  have:=firstMet_length_le (fun i=>ns.getD i 0) ns.length
  rw [jt] at this
  exact this
theorem y3:DR K (fun v H Q=>Hu K [v] H fun w H1=>∃q S n,w=.ref q∧H1 q=some (.set S n)∧n≤1000∧Q (.int n) H1) jZ:=by
  intro σ H0 F H e x z v Q R A hg q
  unfold jZ at hg
  obtain⟨⟨b,ds⟩,h1,hg⟩:=L' hg
  obtain⟨ns,h2,hg⟩:=L' hg
  split at hg
  case isFalse=>cases hg
  case isTrue hl=>
  cases hg
  obtain⟨l,ws,rfl,d1,s1⟩:=bV R A h1
  have e1:ds=ns.map .int:=oi h2
  subst e1
  have e2:=aI.ints.mp d1
  subst e2
  refine⟨l,ns,rfl,?_,hl,fun p S hp=>?_⟩
  · cases b with
    | true=>exact .inl s1
    | false=>exact .inr s1
  · obtain⟨R1,X1⟩:=R.same (aw.new hp (o:=.set S (xT ns).length))
    exact⟨p,S,_,rfl,aA,Nat.le_trans (uw ns) hl,q F _ _ X1 R1 kN⟩
theorem zT(hc:X.calm=true)(hK:X.K=K)(hg:Gl X "len")(hm:X.mg "len"=none)(hgs:Gl X "set")(hms:X.mg "set"=none)(ha:PE X a (fE K fa))(hs:starEach [a] X.env=(false,eval a X.env)::starEach [] X.env)(hpl:(backTo pos2 (starEach [] X.env)).any (·.1)=false)
    (hs2:starEach [.Call (.Name "set" p2) [a] [] pos2] X.env=(false,eval (.Call (.Name "set" p2) [a] [] pos2) X.env)::starEach [] X.env)(hpl2:(backTo pos (starEach [] X.env)).any (·.1)=false):
    PE X (.Call (.Name "len" p) [.Call (.Name "set" p2) [a] [] pos2] [] pos) (fE K (oW jZ fa)):=
  (oz wG hg hm PySem.boot_len (j5 (pY (wK hc) hgs hms PyProof.Rows.boot_set (j5 ha mj hs) (by decide) (by decide) hs hpl) mj hs2) (by decide) (by decide) hs2 hpl2).mono fun σ H Q h=>by
    subst hK
    refine vD (vc y3 h) fun v H1 ⟨l,ns,e,h1,h2,h3⟩=>?_
    refine⟨l,ns,e,h1,h2,fun q S hq=>?_⟩
    obtain⟨q',S',n,e1,e2,e3,e4⟩:=h3 q S hq
    exact⟨q',S',n,by rw [e1],e2,e3,e4⟩
end
section
variable{X:Cx}{K:PySem.W.Frag}{a:Expr}{fa:FE}
end
abbrev Rn:=List (Int × Bool)
def Bm(R:Rn):List Int:=R.map (·.1)
def C2(W:aY)(R:Rn):List Int:=(R.filter (·.2)).flatMap fun r=>[(W.tie r.1).one,(W.tie r.1).other]
structure JF (W:aY) (R:Rn) (asked taken:List Int):Prop where
  pa:asked.Perm (Bm R)
  pt:taken.Perm (C2 W R)
  inw:∀k∈Bm R,wC W k
  nd:(Bm R).Nodup
  nk:(C2 W R).Nodup
  bd:∀t:Int,0≤t→t < W.things→W.many (Bm R) t≤W.pat.getD t.toNat 0
  ak:(R.length:Int)≤W.asks
  sa:asked.Pairwise (· ≤·)
  st:taken.Pairwise (· ≤·)
theorem pK:∀(ns acc:List Int),ns.Nodup→(∀x∈ns,x∉acc)→(ns.foldl step_dedup acc).length=acc.length+ns.length
  | [],acc,_,_=>by simp
  | x::r,acc,h1,h2=>by
    have c:acc.any (· ==x)=false:=by
      rw [List.any_eq_false]
      intro y hy z
      have:y=x:=by simpa using z
      exact h2 x (by simp) (this ▸ hy)
    simp only [List.foldl_cons]
    rw [show step_dedup acc x=acc++[x] by unfold step_dedup;rw [c];rfl,pK r (acc++[x]) (List.nodup_cons.mp h1).2 fun y hy z=>?_]
    · simp;lia
    · rcases Mc z with z | z
      · exact h2 y (by simp [hy]) z
      · simp at z;exact(List.nodup_cons.mp h1).1 (z ▸ hy)
theorem Bh{ns:List Int}(h:ns.Nodup):(xT ns).length=ns.length:=by
  have:=pK ns [] h (fun x _ z=>by cases z)
  simpa [xT] using this
section
variable{prog:Program}{w:World}{A:Around}{R:Result→Shared→Prop}
def lh(elt tg iter tg2 iter2:Expr)(ifs ifs2:List Expr)(scope:Scope)(pos:Pos)(acc:Value)(env:Env)(k:Sem PySem.Fin):Sem PySem.Fin:=do
  let x ←eval iter2 env
  standAt iter2.pos
  let x ←foldedSetIterable iter2 env x
  let _ ←runOwn (.compStart (.ListComp elt [⟨tg,iter,ifs,0⟩,⟨tg2,iter2,ifs2,0⟩] scope pos) 1 (←holding [x] (pyIter x)) acc env) env
  k
theorem qD(elt tg iter tg2 iter2:Expr)(ifs ifs2:List Expr)(scope:Scope)(pos:Pos)(it acc:Value)(env:Env):
    compTurn (.ListComp elt [⟨tg,iter,ifs,0⟩,⟨tg2,iter2,ifs2,0⟩] scope pos) 0 it acc env=(do
      standAt iter.pos
      match ←pyNext it with
      | none=>pure (.done .next)
      | some v=>
        letOwnedTupleGo tg it v
        assign tg env v
        let mut ok:=true
        for c in ifs do
          if ok then ok ←isTrue c env (eval c env)
        if ok then lh elt tg iter tg2 iter2 ifs ifs2 scope pos acc env (again (.compLoop (.ListComp elt [⟨tg,iter,ifs,0⟩,⟨tg2,iter2,ifs2,0⟩] scope pos) 0 it acc env))
        else again (.compLoop (.ListComp elt [⟨tg,iter,ifs,0⟩,⟨tg2,iter2,ifs2,0⟩] scope pos) 0 it acc env)):=by rfl
theorem sd(elt tg iter tg2 iter2:Expr)(ifs ifs2:List Expr)(scope:Scope)(pos:Pos)(it acc:Value)(env:Env):
    compTurn (.ListComp elt [⟨tg,iter,ifs,0⟩,⟨tg2,iter2,ifs2,0⟩] scope pos) 1 it acc env=(do
      standAt iter2.pos
      match ←pyNext it with
      | none=>pure (.done .next)
      | some v=>
        letOwnedTupleGo tg2 it v
        assign tg2 env v
        let mut ok:=true
        for c in ifs2 do
          if ok then ok ←isTrue c env (eval c env)
        if ok then
          (do let _ ←call (.builtin "list.append") [acc,←eval elt env])
        again (.compLoop (.ListComp elt [⟨tg,iter,ifs,0⟩,⟨tg2,iter2,ifs2,0⟩] scope pos) 1 it acc env)):=by rfl
def Bc(prog:Program)(w:World)(A:Around)(B:Sem PySem.Fin→Sem PySem.Fin)(tg:Expr)(ifs:List Expr)(env:Env)(it:Value)(onward:Shared→Prop)(v:Value)(u:Shared):Prop:=
  wpAny (model prog w) A (letOwnedTupleGo tg it v) (fun _ u1=>wpAny (model prog w) A (assign tg env v) (fun _ u2=>wpAny (model prog w) A
    (forIn ifs true fun c r=>if r=true then do let ok ←isTrue c env (eval c env);pure (ForInStep.yield ok) else pure (ForInStep.yield r)) (fun ok u3=>if ok=true then(∀(k:Sem PySem.Fin) (Q:PySem.Fin→Shared→Prop) (E:Value→Shared→Prop),(∀u5,onward u5→wpAny (model prog w) A k Q E u5)→wpAny (model prog w) A (B k) Q E u3) else onward u3) vU u2) vU u1) vU u
theorem qA{elt tg iter tg2 iter2:Expr}{ifs ifs2:List Expr}{scope:Scope}{pos:Pos}{it acc:Value}{env:Env}(J:Nat→Shared→Prop)
    (turn:∀n u,J n u→wpAny (model prog w) A (pyNext it) (fun r u1=>(r=none→R (.ok .next) u1)∧∀v,r=some v→Bc prog w A (lh elt tg iter tg2 iter2 ifs ifs2 scope pos acc env) tg ifs env it (fun u2=>∃m,m < n∧J m u2) v u1) vU u){n0:Nat}{u0:Shared}(eN:J n0 u0):
    codeAny (model prog w) A (.compLoop (.ListComp elt [⟨tg,iter,ifs,0⟩,⟨tg2,iter2,ifs2,0⟩] scope pos) 0 it acc env) R u0:=by
  refine codeAny_loop rfl J (fun n u ju=>?_) n0 eN
  show wpAny _ A ((compTurn (.ListComp elt [⟨tg,iter,ifs,0⟩,⟨tg2,iter2,ifs2,0⟩] scope pos) 0 it acc env).onRaise _) _ _ u;refine wpAny_noted ?_;rw [qD]
  refine wpAny_bind (wpAny_standAt (wpAny_bind (wpAny_mono (turn n u ju) (fun r u1 k1=>?_) fun _ _ z=>z.elim)))
  cases r with
  | none=>exact wpAny_pure (k1.1 rfl)
  | some v=>
    refine wpAny_bind (wpAny_mono (k1.2 v rfl) (fun _ u2 k2=>wpAny_bind (wpAny_mono k2 (fun _ u3 k3=>wpAny_bind (wpAny_mono k3 (fun ok u4 k4=>?_) fun _ _ z=>z.elim)) fun _ _ z=>z.elim)) fun _ _ z=>z.elim)
    cases ok with
    | false=>rw [if_neg Bool.false_ne_true] at k4;exact wpAny_pure ⟨rfl,k4⟩
    | true=>
      rw [if_pos rfl] at k4
      exact k4 _ _ _ fun u6 k6=>wpAny_pure ⟨rfl,k6⟩
theorem r_{elt tg iter tg2 iter2:Expr}{ifs ifs2:List Expr}{scope:Scope}{pos:Pos}{it acc:Value}{env:Env}(J:Nat→Shared→Prop)
    (turn:∀n u,J n u→wpAny (model prog w) A (pyNext it) (fun r u1=>(r=none→R (.ok .next) u1)∧∀v,r=some v→yk prog w A elt tg2 ifs2 env it acc (fun u2=>∃m,m < n∧J m u2) v u1) vU u){n0:Nat}{u0:Shared}(eN:J n0 u0):
    codeAny (model prog w) A (.compLoop (.ListComp elt [⟨tg,iter,ifs,0⟩,⟨tg2,iter2,ifs2,0⟩] scope pos) 1 it acc env) R u0:=by
  refine codeAny_loop rfl J (fun n u ju=>?_) n0 eN
  show wpAny _ A ((compTurn (.ListComp elt [⟨tg,iter,ifs,0⟩,⟨tg2,iter2,ifs2,0⟩] scope pos) 1 it acc env).onRaise _) _ _ u;refine wpAny_noted ?_;rw [sd]
  refine wpAny_bind (wpAny_standAt (wpAny_bind (wpAny_mono (turn n u ju) (fun r u1 k1=>?_) fun _ _ z=>z.elim)))
  cases r with
  | none=>exact wpAny_pure (k1.1 rfl)
  | some v=>
    refine wpAny_bind (wpAny_mono (k1.2 v rfl) (fun _ u2 k2=>wpAny_bind (wpAny_mono k2 (fun _ u3 k3=>wpAny_bind (wpAny_mono k3 (fun ok u4 k4=>?_) fun _ _ z=>z.elim)) fun _ _ z=>z.elim)) fun _ _ z=>z.elim)
    cases ok with
    | false=>rw [if_neg Bool.false_ne_true] at k4;exact wpAny_pure ⟨rfl,k4⟩
    | true=>
      rw [if_pos rfl] at k4
      refine wpAny_bind (wpAny_bind (wpAny_mono k4 (fun x u5 k5=>wpAny_bind (wpAny_mono k5 (fun _ u6 k6=>?_) fun _ _ z=>z.elim)) fun _ _ z=>z.elim));exact wpAny_pure (wpAny_pure ⟨rfl,k6⟩)
theorem qB{elt tg iter tg2 iter2:Expr}{ifs ifs2:List Expr}{scope:Scope}{pos:Pos}{it acc:Value}{env:Env}{s:Shared}
    (h0:codeAny (model prog w) A (.compLoop (.ListComp elt [⟨tg,iter,ifs,0⟩,⟨tg2,iter2,ifs2,0⟩] scope pos) 1 it acc env) R s)
    (h:wpAny (model prog w) A (pyIter it) (fun it' s'=>codeAny (model prog w) A (.compLoop (.ListComp elt [⟨tg,iter,ifs,0⟩,⟨tg2,iter2,ifs2,0⟩] scope pos) 1 it' acc env) R s') (notedBy (model prog w) A env fun x s'=>R (.error x) s') s):
    codeAny (model prog w) A (.compStart (.ListComp elt [⟨tg,iter,ifs,0⟩,⟨tg2,iter2,ifs2,0⟩] scope pos) 1 it acc env) R s:=by
  refine codeAny_of_tree ?_;show wpAny _ _ ((compStart (.ListComp elt [⟨tg,iter,ifs,0⟩,⟨tg2,iter2,ifs2,0⟩] scope pos) 1 it acc env).onRaise (fun x=>do noteFrame x env;standAt theWindowsPlace)) _ _ s
  refine wpAny_notedAt ?_;unfold compStart
  show wpAny _ _ (ask >>= _) _ _ s
  refine wpAny_bind (wpAny_askSetting (wpAny_ite ?_));split
  · first | exact wpAny_bind (wpAny_pure (wpAny_pure (And.intro rfl h0))) | exact wpAny_pure (And.intro rfl h0)
  · first | exact wpAny_bind (wpAny_rule (wpAny_bind (wpAny_standAt (wpAny_bind (wpAny_mono h (fun it' s' h'=>wpAny_pure (And.intro rfl h')) fun _ _ x=>x))))) | (refine wpAny_bind (wpAny_rule ?_);show wpAny _ _ (standAt iter2.pos >>= _) _ _ s;exact wpAny_bind (wpAny_standAt (wpAny_bind (wpAny_mono h (fun it' s' h'=>wpAny_pure (And.intro rfl h')) fun _ _ x=>x))))
end
def AB(l:Addr)(wi:TI)(g:TG)(tc:TT)(te:TE)(σ:L2.St)(H:Hp)(N:L2.St→Hp→Prop):Prop:=
  wi σ H fun J H1=>∃W:Nat→Nat→L2.St→Hp→Prop,(∃m,W 0 m σ H1)∧∀i m σ' H',W i m σ' H'→
    (J.stop i H'∧N σ' H')∨(J.go i H'∧∃N2:L2.St→Hp→Prop,(∀σ2 H2,N2 σ2 H2→∃m',m' < m∧W (i+1) m' σ2 H2)∧
      ∀x H2,J.yld i H' x H2→g x σ' H2 fun σ2 H3=>tc σ2 H3 fun b H4=>if b=true then te σ2 H4 fun v H5=>∃ys,H5 l=some (.lst ys)∧ys.length < sizeLine∧N2 σ2 (a8 H5 l (.lst (ys++[v]))) else N2 σ2 H4)
theorem yM{Y:Cx}{elt tg iter tg2 iter2:Expr}{ifs ifs2:List Expr}{scope:Scope}{pos:Pos}{wi:TI}{g:TG}{tc:TT}{te:TE}(hc:Y.calm=true)(hxe:Y.xe=vU)(hi:PI Y tg2 iter2 wi)(hg:PG Y tg2 g)(ht:uj Y ifs2 tc)(he:PE Y elt te)
    (hs:∀x,foldedSetIterable iter2 Y.env x=pure x){pins:List (Addr × Obj)}{s:Shared}{σ:L2.St}{H:Hp}{D:Addr}{N:L2.St→Hp→Prop}(I:ax Y pins σ H s)(h:AB D wi g tc te σ H N)(k:Sem PySem.Fin)(Q:PySem.Fin→Shared→Prop)(E:Value→Shared→Prop)(hk:∀s',(∃σ' H',ax Y pins σ' H' s'∧N σ' H')→wpAny (model Y.prog Y.w) Y.A k Q E s'):
    wpAny (model Y.prog Y.w) Y.A (lh elt tg iter tg2 iter2 ifs ifs2 scope pos (.ref D) Y.env k) Q E s:=by
  unfold lh
  have hi':=hi pins s σ H _ I h
  rw [hxe] at hi'
  refine wpAny_bind (wpAny_mono hi' (fun v s1 h1=>wpAny_bind (wpAny_standAt (wpAny_bind (wpAny_of_eq (hs v) (wpAny_bind (wpAny_holding (wpAny_mono h1 (fun itv s2 h2=>?_) fun _ _ z=>z.elim))))))) fun _ _ z=>z.elim)
  obtain⟨it,fp,tn,J,H2,rfl,I2,T,st2,f2,W,⟨m0,w0⟩,turn⟩:=h2
  have stat:∀{H':Hp},(∀b∈fp,H' b=none)→∀b∈fp,jj Y pins H' b:=fun hn b hb=>⟨hn b hb,(f2 b hb).2⟩
  have loop:codeAny (model Y.prog Y.w) Y.A (.compLoop (.ListComp elt [⟨tg,iter,ifs,0⟩,⟨tg2,iter2,ifs2,0⟩] scope pos) 1 (.ref it) (.ref D) Y.env) (fun r s'=>match r with | .ok f=>wpAny (model Y.prog Y.w) Y.A k Q E s' | .error e=>cameBackBy (model Y.prog Y.w) Y.A Y.env E e s') s2:=by
    refine r_ (fun n s'=>∃i σ' H',ax Y pins σ' H' s'∧tn i s'.heap∧(∀b∈fp,H' b=none)∧W i n σ' H') ?_ (n0:=m0) ⟨0,σ,H2,I2,st2,fun b hb=>(f2 b hb).1,w0⟩
    rintro n s3 ⟨i,σ3,H3,I3,st3,fr3,w3⟩
    rcases turn i n σ3 H3 w3 with ⟨stop,qn⟩ | ⟨go,N2,hN,step⟩
    · refine br (T.done Y rfl rfl rfl hc i pins s3 σ3 H3 vU I3 (stat fr3) st3 stop) fun r s4 ⟨hr,I4⟩=>?_
      subst hr
      exact⟨fun _=>hk _ ⟨σ3,H3,I4,qn⟩,fun v z=>by cases z⟩
    · refine br (T.item Y rfl rfl rfl hc i pins s3 σ3 H3 vU I3 (stat fr3) st3 go) fun r s4 ⟨u,hr,h4⟩=>?_
      subst hr
      refine⟨fun z=>(by cases z),fun v z=>?_⟩
      cases z
      refine br h4 fun _ s5 ⟨x,H5,I5,r5,y5,st5,fr5⟩=>?_
      have I5':=I5.pinned (stat fr5) (T.obj _ _ st5)
      have again:∀{σ8:L2.St} {H8:Hp} {s8:Shared},ax Y (pins++jK fp s5.heap) σ8 H8 s8→N2 σ8 H8→∃m,m < n∧∃i σ' H',ax Y pins σ' H' s8∧tn i s8.heap∧(∀b∈fp,H' b=none)∧W i m σ' H':=fun{σ8 H8 s8} I8 n8=>by
        obtain⟨m',hm,w8⟩:=hN σ8 H8 n8
        refine⟨m',hm,i+1,σ8,H8,I8.unpinned,T.keep _ _ _ st5 fun b hb o e=>(I8.pin (b,o) (List.mem_append_right _ (List.mem_append_right _ (bZ hb e)))).1,fun b hb=>?_,w8⟩
        obtain⟨o,e,d⟩:=T.obj _ _ st5 b hb
        exact(I8.pin (b,o) (List.mem_append_right _ (List.mem_append_right _ (bZ hb e)))).2.1
      have hg':=hg _ s5 σ3 H5 x u _ I5' r5 (step x H5 y5)
      rw [hxe] at hg'
      refine br hg' fun _ s8 ⟨σ8,H8,I8,q8⟩=>?_
      have ht':=ht _ s8 σ8 H8 _ I8 q8
      rw [hxe] at ht'
      refine br ht' fun ok s9 ⟨H9,I9,q9⟩=>?_
      cases ok with
      | false=>
        rw [if_neg Bool.false_ne_true] at q9 ⊢
        exact again I9 q9
      | true=>
        rw [if_pos rfl] at q9 ⊢
        have he':=he _ s9 σ8 H9 _ I9 q9
        rw [hxe] at he'
        refine br he' fun v s10 ⟨xv,H10,I10,r10,ys,hl,hz,n10⟩=>?_
        have ha:=j4 _ s10 σ8 H10 (.ref D) [xv] (.ref D) [v] (fun _ H=>N2 σ8 H) I10 rfl (.cons r10 .nil) ⟨D,ys,xv,rfl,rfl,hl,hz,n10⟩
        rw [hxe] at ha
        refine br ha fun _ s11 ⟨_,H11,I11,_,q11⟩=>?_
        exact again I11 q11
  exact wpAny_bind (wpAny_runOwn (qB loop (T.self Y.A 0 _ _ _ st2 loop)))
structure Az (cp:List (Nat × Str)) (nT:Nat) (wi:TI) (g:TG) (tc:TT) (wi2:TI) (g2:TG) (tc2:TT) (te:TE) (σ:L2.St) (H:Hp) (Q:VK):Prop where
  go:wi σ H fun J H1=>∀l,H1 l=none→
  ∃W:Nat→Nat→L2.St→Hp→Prop,(∃m,W 0 m (et cp nT σ) (a8 H1 l (.lst [])))∧∀i m σ' H',W i m σ' H'→
    (J.stop i H'∧Q (.ref l) H')∨(J.go i H'∧∃N:L2.St→Hp→Prop,(∀σ2 H2,N σ2 H2→∃m',m' < m∧W (i+1) m' σ2 H2)∧
      ∀x H2,J.yld i H' x H2→g x σ' H2 fun σ2 H3=>tc σ2 H3 fun b H4=>if b=true then AB l wi2 g2 tc2 te σ2 H4 N else N σ2 H4)
theorem zx{X:Cx}{elt iter tg iter2 tg2:Expr}{ifs ifs2:List Expr}{scope:Scope}{pos:Pos}{wi wi2:TI}{g g2:TG}{tc tc2:TT}{te:TE}(sc0:Scope)(N0:List Str)(cp:List (Nat × Str))(tgN:List Str)
    (hc:X.calm=true)(hsc:X.env.scope=sc0)(hN0:X.N=N0)(hi:PI X tg iter wi)
    (hg:∀C s0 H0 fp,PG (ap X scope cp tgN C s0 H0 fp) tg g)
    (ht:∀C s0 H0 fp,uj (ap X scope cp tgN C s0 H0 fp) ifs tc)
    (hi2:∀C s0 H0 fp,PI (ap X scope cp tgN C s0 H0 fp) tg2 iter2 wi2)
    (hg2:∀C s0 H0 fp,PG (ap X scope cp tgN C s0 H0 fp) tg2 g2)
    (ht2:∀C s0 H0 fp,uj (ap X scope cp tgN C s0 H0 fp) ifs2 tc2)
    (he:∀C s0 H0 fp,PE (ap X scope cp tgN C s0 H0 fp) elt te)
    (hk:scope.kind=.function)(hcell:∀y∈scope.names,y.2≠.cell)(hnames:∀y∈scope.names,y.2=.local→scope.names.lookup y.1=some .local)
    (hfr:∀y∈scope.names,y.2=.free→scope.names.lookup y.1=some .free∧sc0.names.lookup y.1=some .cell)
    (hcp:∀p∈cp,N0[p.1]?=some p.2)(hcq:∀p∈cp,sc0.names.lookup p.2=some .cell∧scope.names.lookup p.2=some .free)
    (hs2:∀C s0 H0 fp x,foldedSetIterable iter2 (ap X scope cp tgN C s0 H0 fp).env x=pure x)(hs:∀x,foldedSetIterable iter X.env x=pure x:=by intro _;rfl):
    PE X (.ListComp elt [⟨tg,iter,ifs,0⟩,⟨tg2,iter2,ifs2,0⟩] scope pos) (Az cp tgN.length wi g tc wi2 g2 tc2 te):=by
  intro pins s σ H Q I h
  have hkind:∀x,X.env.kindOf x=sc0.names.lookup x:=fun x=>by unfold Env.kindOf;rw [hsc]
  have hfree:∀y∈scope.names,y.2=.free→∃c,X.env.cells.lookup y.1=some c:=fun y hy e=>I.ok.has y.1 (.inl (by rw [hkind];exact(hfr y hy e).2))
  rw [eval_ListComp]
  refine wpAny_comprehension_free (use:=none) rfl hs (ki hfree) hk hnames (wpAny_mono (hi pins s σ H _ I h.go) (fun xv s₁ h₁=>wpAny_mono h₁ (fun itv s₂ h₂=>?_) fun _ _ e=>e) fun _ _ e=>e)
  obtain⟨it,fp,tn,J,H2,rfl,I2,T,st2,f2,hq⟩:=h₂
  refine wpAny_newObj_type ?_
  have hlF:H2 s₂.heap.objs.size=none:=I2.hok.fresh (Nat.le_refl _)
  have I3:ax X pins σ (a8 H2 s₂.heap.objs.size (.lst [])) {s₂ with heap:=s₂.heap.push {cls:=.type "list",data:=.seq ([]:List Value).toArray}}:=I2.lnew (t':=s₂.toks) .nil (Nat.zero_le _)
  obtain⟨W,⟨m0,w0⟩,turn⟩:=hq _ hlF
  have f3:∀b∈fp,jj X pins (a8 H2 s₂.heap.objs.size (.lst [])) b:=fun b hb=>by
    obtain⟨f0,fr⟩:=f2 b hb
    obtain⟨o,ho,_⟩:=T.obj _ _ st2 b hb
    exact⟨by rw [aF (Nat.ne_of_lt (Heap.lt_size ho))];exact f0,fr⟩
  have st3:tn 0 (s₂.heap.push {cls:=.type "list",data:=.seq ([]:List Value).toArray}):=T.keep _ _ _ st2 fun b _ o e=>Heap.get?_push_of_some _ e
  generalize hD:s₂.heap.objs.size=D at*
  generalize hs3:({s₂ with heap:=s₂.heap.push {cls:=.type "list",data:=.seq ([]:List Value).toArray}}:Shared)=s₃ at*
  have hst3:tn 0 s₃.heap:=by rw [←hs3];exact st3
  refine wpAny_newFunctionEnv hcell (by intro y hy;simp at hy) (fun h₁ hns₁ hsb₁=>?_) hk
  generalize hC:s₃.heap.objs.size=C at*
  have old:∀b o,s₃.heap.get? b=some o→h₁.get? b=some o:=fun b o e=>hsb₁.extBut b o (by rw [←hC];exact Nat.ne_of_lt (Heap.lt_size e)) (Heap.get?_push_of_some _ e)
  have nC:∀b o,s₃.heap.get? b=some o→b≠C:=fun b o e=>by rw [←hC];exact Nat.ne_of_lt (Heap.lt_size e)
  have hHC:(a8 H2 D (.lst [])) C=none:=I3.hok.fresh (by rw [hC];exact Nat.le_refl _)
  have clS:∀x c,(gK X.env scope.names []).lookup x=some c→X.env.cells.lookup x=some c:=fun x c e=>iX _ _ x c hfree (fun _ _ z=>by simp at z) e
  have clH:∀x,(∃y∈scope.names,y.1=x∧y.2=.free)→∃c,(gK X.env scope.names []).lookup x=some c:=fun x e=>kW _ _ x (.inl e)
  have ok':(ap X scope cp tgN C s₃ (a8 H2 D (.lst [])) fp).Ok:=by
    refine⟨I.ok.mod,hk,I.ok.glob,I.ok.blt,by rw [←hC];exact Nat.le_refl _,fun x y c e1 e2=>I.ok.inj x y c (clS _ _ e1) (clS _ _ e2),fun x e=>clH x (cE hcell e),fun x c e1 e2=>?_,I.ok.hd,I.ok.frames,.inl rfl,fun b hb=>?_,fun b o e=>I3.bs b o e,?_,fun b o e hb=>?_,fun b hb z=>?_,I3.stack,fun b hb=>I3.stkFree b hb⟩
    · exfalso
      have e1':scope.names.lookup x=some .local:=by simpa [ap] using e1
      have e2':=clS x c e2
      obtain⟨c',hc'⟩:∃y∈scope.names,y.1=x∧y.2=.free:=by
        by_cases q:∃y∈scope.names,y.1=x∧y.2=.free
        · exact q
        · exfalso
          have:∀(names:List (Str × NameKind)) (cs:List (Str × Addr)),(¬∃y∈names,y.1=x∧y.2=.free)→cs.lookup x=none→(gK X.env names cs).lookup x=none:=by
            intro names
            induction names with
            | nil=>intro cs _ h;exact h
            | cons y r ih=>
              intro cs hn hcs
              obtain⟨n,k⟩:=y
              refine ih _ (fun⟨y,hy,z⟩=>hn ⟨y,List.mem_cons_of_mem _ hy,z⟩) ?_
              by_cases hk:(k==NameKind.free)=true
              · rw [if_pos hk,List.lookup_cons]
                cases hx:x==n with
                | true=>exact absurd ⟨(n,k),List.mem_cons_self,(by simpa using hx:x=n).symm,by simpa using hk⟩ hn
                | false=>exact hcs
              · rw [if_neg hk];exact hcs
          have z:=this scope.names [] q rfl
          have e2'':(gK X.env scope.names []).lookup x=some c:=e2
          rw [z] at e2'';cases e2''
      have z:=(hfr c' hc'.1 hc'.2.2).1
      rw [hc'.2.1,e1'] at z;cases z
    · obtain⟨f0,f1,f4,f5,f6,f7⟩:=f3 b hb
      obtain⟨o,ho,_⟩:=T.obj _ _ hst3 b hb
      exact⟨nC b o ho,fun x c e=>f6 x c (clS x c e)⟩
    · exact Nat.le_trans I.ok.bsz I3.sz
    · obtain⟨f0,f1,f4,f5,f6,f7⟩:=f3 b hb
      rcases f5 with z | z
      · exact I.ok.noex b o e z
      · have:=(I.ok.bs b o e).1
        exact absurd (Nat.lt_of_lt_of_le (Heap.lt_size this) z) (Nat.lt_irrefl _)
    · obtain⟨f0,f1,f4,f5,f6,f7⟩:=f3 b hb
      rcases Me (I3.stkSub b z) with z | z
      · exact f1 z
      · exact f4 z
  have I4:ax (ap X scope cp tgN C s₃ (a8 H2 D (.lst [])) fp) [] (et cp tgN.length σ) (a8 H2 D (.lst [])) {s₃ with heap:=h₁,toks:=s₃.toks+([]:List (Str × Value)).length}:=by
    refine⟨ok',rfl,I3.bare,Un.kept old,⟨_,hns₁,fun i x v e1 e2 e3=>?_⟩,fun x c e=>?_,hHC,fun x c e=>I3.freeC x c (clS x c e),fun p hp=>by simp [ap] at hp,I3.hok.kept old,by simp [et,ap]⟩
    · have hlt:i < cp.length:=by
        by_cases q:i < cp.length
        · exact q
        · exfalso
          unfold et at e2
          rw [List.getElem?_append_right (by simp;lia)] at e2
          rw [List.getElem?_replicate] at e2
          split at e2<;>cases e2
      have e1':(cp.map (·.2))[i]?=some x:=by
        have e1'':(cp.map (·.2)++tgN)[i]?=some x:=e1
        rwa [List.getElem?_append_left (by simp;exact hlt)] at e1''
      have e2':(cp.map (fun p=>(σ[p.1]?).join))[i]?=some (some v):=by
        unfold et at e2
        rwa [List.getElem?_append_left (by simp;exact hlt)] at e2
      rw [List.getElem?_map,List.getElem?_eq_getElem hlt] at e1' e2'
      have ex:(cp[i]).2=x:=by simpa using e1'
      have ev:(σ[(cp[i]).1]?).join=some v:=by simpa using e2'
      have ev':σ[(cp[i]).1]?=some (some v):=by
        cases q:σ[(cp[i]).1]? with
        | none=>rw [q] at ev;cases ev
        | some z=>rw [q] at ev;simp only [Option.join_some] at ev;rw [ev]
      have hN:=hcp cp[i] (List.getElem_mem hlt)
      rw [←hN0] at hN
      obtain⟨hcl,hcf⟩:=hcq cp[i] (List.getElem_mem hlt)
      rw [ex] at hN hcl hcf
      obtain⟨m,hn,hl⟩:=I3.loc
      obtain⟨u,r,l⟩:=hl _ x v hN ev' (.inr (.inl (by rw [hsc];exact hcl)))
      refine⟨u,r,.inr ?_⟩
      rcases l with ⟨k1,_⟩ | ⟨k1,c,hcc,o,ho,hd⟩
      · rw [hkind,hcl] at k1;cases k1
      · have e3':(relabel scope X.env).names.lookup x=some .local∨(relabel scope X.env).names.lookup x=some .cell∨(relabel scope X.env).names.lookup x=some .free:=e3
        have nl:(relabel scope X.env).names.lookup x=some .cell∨(relabel scope X.env).names.lookup x=some .free:=by
          rcases e3' with z | z | z
          · exact absurd z (dN hcf)
          · exact .inl z
          · exact .inr z
        obtain⟨c',hc'⟩:=clH x (cE hcell nl)
        have:=clS x c' hc'
        rw [hcc] at this;cases this
        exact⟨nl,c,hc',o,old c o ho,hd⟩
    · obtain⟨v,o,ho,hd⟩:=I3.cell x c (clS x c e)
      exact⟨v,o,old c o ho,hd⟩
  have hst4:tn 0 h₁:=T.keep _ _ _ hst3 fun b _ o e=>old b o e
  have loop:codeAny (model X.prog X.w) X.A (.compLoop (.ListComp elt [⟨tg,iter,ifs,0⟩,⟨tg2,iter2,ifs2,0⟩] scope pos) 0 (.ref it) (.ref D) (compEnvC scope (gK X.env scope.names []) C X.env))
      (compPost (model X.prog X.w) X.A X.xe none (EP X pins σ Q) (.ref D) C) {s₃ with heap:=h₁,toks:=s₃.toks+([]:List (Str × Value)).length}:=by
    refine qA (fun n s'=>∃i σ' H',ax (ap X scope cp tgN C s₃ (a8 H2 D (.lst [])) fp) [] σ' H' s'∧tn i s'.heap∧(∀b∈fp,H' b=none)∧W i n σ' H') ?_ (n0:=m0) ⟨0,_,_,I4,hst4,fun b hb=>(f3 b hb).1,w0⟩
    rintro n s5 ⟨i,σ5,H5,I5,st5,fr5,w5⟩
    have stat:∀{H':Hp},(∀b∈fp,H' b=none)→∀b∈fp,jj (ap X scope cp tgN C s₃ (a8 H2 D (.lst [])) fp) [] H' b:=fun hn b hb=>
      ⟨hn b hb,(ok'.exf b hb).1,ok'.exfs b hb,.inl hb,(ok'.exf b hb).2,fun p hp=>by simp [ap] at hp⟩
    rcases turn i n σ5 H5 w5 with ⟨stop,qn⟩ | ⟨go,N,hN,step⟩
    · refine br (T.done (ap X scope cp tgN C s₃ (a8 H2 D (.lst [])) fp) rfl rfl rfl hc i [] s5 σ5 H5 (fun _ _=>False) I5 (stat fr5) st5 stop) fun r s6 ⟨hr,I6⟩=>?_
      subst hr
      refine⟨fun _=>?_,fun v z=>by cases z⟩
      obtain⟨m,hn,_⟩:=I6.loc
      refine⟨m,hn,fun h' sb=>⟨.ref D,H5,?_,rfl,qn⟩⟩
      have ub:=I6.base
      have kp:∀b u,b≠C→s6.heap.get? b=some u→h'.get? b=some u:=fun b u ne e=>sb.extBut b u ne e
      have nit:∀b u,H5 b=some u→b≠C:=fun b u e z=>by
        have:=I6.free
        rw [z] at e
        rw [show H5 C=none from this] at e;cases e
      refine I3.call' (s':={s6 with heap:=h'}) (ch:=fp) I6.os ⟨fun b o e n hb hx=>kp b o (nC b o e) (ub.keep b o e n hb hx),fun b o e n hb hx=>?_,ub.free,fun b o e hx=>?_,ub.tups,ub.frzs,ub.tbls⟩ (fun b u e=>?_) I6.bare (fun b hb=>?_)
      · obtain⟨sl,q⟩:=ub.slot b o e n hb hx
        exact⟨sl,kp b _ (nC b o e) q⟩
      · obtain⟨o',q⟩:=ub.there b o e hx
        exact⟨o',kp b _ (nC b o e) q⟩
      · refine(I6.hok b u e).stay (fun c v hc q=>kp c v ?_ q) (fun _ q=>q) fun _ _ q=>q
        rcases hc with z | z
        · rw [z];exact nit b u e
        · exact nit c _ z
      · obtain⟨f0,f1,f4,f5,f6,f7⟩:=f3 b hb
        exact⟨f5,f1,f6,f7⟩
    · refine br (T.item (ap X scope cp tgN C s₃ (a8 H2 D (.lst [])) fp) rfl rfl rfl hc i [] s5 σ5 H5 (fun _ _=>False) I5 (stat fr5) st5 go) fun r s6 ⟨u,hr,h6⟩=>?_
      subst hr
      refine⟨fun z=>(by cases z),fun v z=>?_⟩
      cases z
      refine br h6 fun _ s7 ⟨x,H7,I7,r7,y7,st7,fr7⟩=>?_
      have I7':=I7.pinned (stat fr7) (T.obj _ _ st7)
      have again:∀{σ8:L2.St} {H8:Hp} {s8:Shared},ax (ap X scope cp tgN C s₃ (a8 H2 D (.lst [])) fp) ([]++jK fp s7.heap) σ8 H8 s8→N σ8 H8→∃m,m < n∧∃i σ' H',ax (ap X scope cp tgN C s₃ (a8 H2 D (.lst [])) fp) [] σ' H' s8∧tn i s8.heap∧(∀b∈fp,H' b=none)∧W i m σ' H':=fun{σ8 H8 s8} I8 n8=>by
        obtain⟨m',hm,w8⟩:=hN σ8 H8 n8
        refine⟨m',hm,i+1,σ8,H8,I8.unpinned,T.keep _ _ _ st7 fun b hb o e=>(I8.pin (b,o) (List.mem_append_right _ (List.mem_append_right _ (bZ hb e)))).1,fun b hb=>?_,w8⟩
        obtain⟨o,e,d⟩:=T.obj _ _ st7 b hb
        exact(I8.pin (b,o) (List.mem_append_right _ (List.mem_append_right _ (bZ hb e)))).2.1
      refine br (hg C s₃ (a8 H2 D (.lst [])) fp _ s7 σ5 H7 x u _ I7' r7 (step x H7 y7)) fun _ s8 ⟨σ8,H8,I8,q8⟩=>?_
      refine br (ht C s₃ (a8 H2 D (.lst [])) fp _ s8 σ8 H8 _ I8 q8) fun ok s9 ⟨H9,I9,q9⟩=>?_
      cases ok with
      | false=>
        rw [if_neg Bool.false_ne_true] at q9 ⊢
        exact again I9 q9
      | true=>
        rw [if_pos rfl] at q9 ⊢
        exact fun k Q' E' hk=>yM (Y:=ap X scope cp tgN C s₃ (a8 H2 D (.lst [])) fp) hc rfl (hi2 C s₃ _ fp) (hg2 C s₃ _ fp) (ht2 C s₃ _ fp) (he C s₃ _ fp) (hs2 C s₃ _ fp) I9 q9 k Q' E' fun s' ⟨σ11,H11,I11,q11⟩=>hk s' (again I11 q11)
  exact codeAny_compStart_list loop (T.self X.A 0 _ _ _ hst4 loop)
def iq(g:FG)(ft:FT)(fi2:FI)(g2:FG)(ft2:FT)(fe:FE):List PyData→En→List PyData→Option (List PyData × En)
  | [],e,acc=>some (acc,e)
  | x::r,e,acc=>(g x e).bind fun e1=>(ft e1).bind fun b=>if b.1=true then(fi2 b.2).bind fun p=>if p.2.1=[] then(dh g2 ft2 fe p.1 p.2.2 acc).bind fun z=>iq g ft fi2 g2 ft2 fe r z.2 z.1 else none else iq g ft fi2 g2 ft2 fe r b.2 acc
def mC(cp:List (Nat × Str))(nT:Nat)(fi:FI)(g:FG)(ft:FT)(fi2:FI)(g2:FG)(ft2:FT)(fe:FE):FE:=fun e=>(fi e).bind fun p=>if (p.2.1.all fun q=> !(cp.any fun c=>c.1==q.1))=true then(iq g ft fi2 g2 ft2 fe p.1 (mQ cp nT p.2.2) []).bind fun z=>if lZ cp z.2 p.2.2=true then some (.l z.1,mB (mn cp) z.2 p.2.2) else none else none
section
variable{K:PySem.W.Frag}{F H:Hp}{σ:L2.St}{e:En}{cp:List (Nat × Str)}{nT:Nat}
theorem xO{Q:VK}{fi fi2:FI}{g g2:FG}{W:List Nat}{ft ft2:FT}{fe:FE}(hn:(cp.map (·.1)).Nodup)(hW:∀j∈W,cp.length≤j)(h:fE K (mC cp nT fi g ft fi2 g2 ft2 fe) σ H Q):Az cp nT (fI K fi) (fG K g W) (fT K ft) (fI K fi2) (fG K g2 W) (fT K ft2) (fE K fe) σ H Q:=by
  obtain⟨F0,e0,z,e',R0,hf,q⟩:=h
  unfold mC at hf
  obtain⟨⟨items,own,e1⟩,h1,hf⟩:=L' hf
  dsimp only at hf
  split at hf
  case isFalse=>cases hf
  case isTrue hO=>
  obtain⟨⟨out,eo⟩,h2,hf⟩:=L' hf
  dsimp only at hf
  split at hf
  case isFalse=>cases hf
  case isTrue hB=>
  cases hf
  refine⟨⟨F0,e0,items,own,e1,R0,h1,fun J F1 H1 X1 R1 kp ok=>?_⟩⟩
  intro l hl
  obtain⟨Ri,sub⟩:=R1.inn (nT:=nT) hn
  have hFl:F1 l=none:=R1.freeF hl
  let Iv:Nat→L2.St→Hp→Prop:=fun i=>CI K W (et cp nT σ) F1 H1 (mQ cp nT e1) l fun _ ei acc=>iq g ft fi2 g2 ft2 fe (items.drop i) ei acc=some (out,eo)
  have notown:∀p∈own,∀a,σ[p.1]?=some (some (.ref a))→¬b_ (et cp nT σ) (mQ cp nT e1) H1 a:=by
    rintro p hp a ha ⟨k,zf⟩
    obtain⟨xs,c1,c2⟩:=zf.resolve_right fun⟨xss,_,_,z,_⟩=>iZ k xss z
    obtain⟨i,s,d1,d2⟩:=iY c1
    have e2:=lQ d1 c2
    have:p.1=i:=R1.inj p.1 i p.2 xs a (kp p hp) d2 ha e2
    have hh:=List.all_eq_true.mp hO p hp
    simp only [Bool.not_eq_true',List.any_eq_false,beq_iff_eq] at hh
    exact hh (i,s) (Mf d1) this.symm
  refine⟨fun i m σ' H'=>m=items.length - i∧i≤items.length∧Iv i σ' H',⟨items.length,by simp,Nat.zero_le _,.mk (Ri.putT hFl (fun z=>(Ri.ownH l z) hl)).1 (de.refl.putT hl (Ri.putT hFl (fun z=>(Ri.ownH l z) hl)).2) hFl (fun z=>(Ri.ownH l (((Ri.putT hFl (fun z=>(Ri.ownH l z) hl)).2 l).mp z)) hl) aA aI.nil h2⟩,?_⟩
  rintro i m σ' H' ⟨rfl,hi,⟨R',X',fl,no,hl',da,hc⟩⟩
  rename_i F' ei acc vs
  have held:wB K σ F' H' own:=fun p hp=>by
    obtain⟨a,us,c1,c2,c3,c4⟩:=R1.own p.1 p.2 (kp p hp)
    exact⟨a,us,c1,X'.tmp a _ c3 (notown p hp a c1),c4.mono X'.sf⟩
  obtain⟨go,stop,yld⟩:=ok F' H' X'.sf R'.sm held
  by_cases hlt:i < items.length
  · have hd:items.drop i=items[i]::items.drop (i+1):=List.drop_eq_getElem_cons hlt
    rw [hd] at hc
    unfold iq at hc
    obtain⟨e2,c2,hc⟩:=L' hc
    obtain⟨⟨b,e3⟩,c3,hc⟩:=L' hc
    refine .inr ⟨go i hlt,Iv (i+1),fun σ2 H2 r=>⟨items.length - (i+1),by lia,rfl,hlt,r⟩,fun x H2 hy=>?_⟩
    obtain⟨F2,sH,sF2,sm2,fz,hx⟩:=yld i items[i] x H2 (List.getElem?_eq_getElem hlt) hy
    obtain⟨R2,X2⟩:=R'.step sH sF2 sm2 fz
    refine⟨F2,ei,items[i],e2,R2,hx,c2,fun σ3 X3 R3=>⟨F2,e2,b,e3,R3,c3,fun F4 H4 X4 R4=>?_⟩⟩
    have hlH2:H2 l=some (.lst vs):=sH _ _ hl'
    have no2:¬b_ σ' ei H2 l:=fun z=>by
      rcases X2.ow l z with z | z
      · exact no z
      · rw [hl'] at z;cases z
    have no3:¬b_ σ3 e2 H2 l:=fun z=>by
      rcases X3.own l z with z | z
      · exact no2 z
      · rw [hlH2] at z;cases z
    have fl2:F2 l=none:=fz l fl (by rw [hl'];simp)
    have hlH4:H4 l=some (.lst vs):=X4.tmp l _ hlH2 no3
    have fl4:F4 l=none:=X4.fr l vs fl2 hlH2 no3
    have no4:¬b_ σ3 e3 H4 l:=fun z=>by
      rcases X4.ow l z with z | z
      · exact no3 z
      · rw [hlH2] at z;cases z
    have E4:de W (et cp nT σ) F1 H1 (mQ cp nT e1) σ3 F4 H4 e3:=((X'.trans X2.s).trans X3).trans X4.s
    have da4:=da.mono (sF2.trans X4.sf)
    cases b with
    | false=>
      rw [if_neg (by simp)] at hc
      exact yV (.mk R4 E4 fl4 no4 hlH4 da4 hc)
    | true=>
      rw [if_pos rfl] at hc
      obtain⟨⟨its2,own2,e5⟩,c5,hc⟩:=L' hc
      dsimp only at hc
      split at hc
      case isFalse=>cases hc
      case isTrue ho2=>
      subst ho2
      obtain⟨⟨acc2,e6⟩,c6,hc⟩:=L' hc
      refine yX ⟨F4,e3,its2,[],e5,R4,c5,fun J2 F5 H5 X5 R5 _ ok2=>?_⟩
      have hlH5:H5 l=some (.lst vs):=X5.tmp l _ hlH4 no4
      have fl5:F5 l=none:=X5.fr l vs fl4 hlH4 no4
      have no5:¬b_ σ3 e5 H5 l:=fun z=>by
        rcases X5.ow l z with z | z
        · exact no4 z
        · rw [hlH4] at z;cases z
      let Iv2:Nat→L2.St→Hp→Prop:=fun j=>CI K W (et cp nT σ) F1 H1 (mQ cp nT e1) l fun F' ei acc=>aw F5 F'∧dh g2 ft2 fe (its2.drop j) ei acc=some (acc2,e6)
      refine⟨fun j m σ' H'=>m=its2.length - j∧j≤its2.length∧Iv2 j σ' H',⟨its2.length,by simp,Nat.zero_le _,.mk R5 (E4.trans X5.s) fl5 no5 hlH5 (da4.mono X5.sf) ⟨aw.refl _,c6⟩⟩,?_⟩
      rintro j m σ6 H6 ⟨rfl,hj,⟨R6,X6,fl6,no6,hl6,da6,s6,hc6⟩⟩
      rename_i F6 ei6 acc6 vs6
      obtain⟨go2,stop2,yld2⟩:=ok2 F6 H6 s6 R6.sm (fun p hp=>by cases hp)
      by_cases hjt:j < its2.length
      · have hd2:its2.drop j=its2[j]::its2.drop (j+1):=List.drop_eq_getElem_cons hjt
        rw [hd2] at hc6
        unfold dh at hc6
        obtain⟨e7,c7,hc6⟩:=L' hc6
        obtain⟨⟨b8,e8⟩,c8,hc6⟩:=L' hc6
        refine .inr ⟨go2 j hjt,Iv2 (j+1),fun σ2 H2 r=>⟨its2.length - (j+1),by lia,rfl,hjt,r⟩,fun x7 H7 hy7=>?_⟩
        obtain⟨F7,sH7,sF7,sm7,fz7,hx7⟩:=yld2 j its2[j] x7 H7 (List.getElem?_eq_getElem hjt) hy7
        obtain⟨R7,X7⟩:=R6.step sH7 sF7 sm7 fz7
        refine⟨F7,ei6,its2[j],e7,R7,hx7,c7,fun σ8 X8 R8=>⟨F7,e7,b8,e8,R8,c8,fun F9 H9 X9 R9=>?_⟩⟩
        have hlH7:H7 l=some (.lst vs6):=sH7 _ _ hl6
        have no7:¬b_ σ6 ei6 H7 l:=fun z=>by
          rcases X7.ow l z with z | z
          · exact no6 z
          · rw [hl6] at z;cases z
        have no8:¬b_ σ8 e7 H7 l:=fun z=>by
          rcases X8.own l z with z | z
          · exact no7 z
          · rw [hlH7] at z;cases z
        have fl7:F7 l=none:=fz7 l fl6 (by rw [hl6];simp)
        have hlH9:H9 l=some (.lst vs6):=X9.tmp l _ hlH7 no8
        have fl9:F9 l=none:=X9.fr l vs6 fl7 hlH7 no8
        have no9:¬b_ σ8 e8 H9 l:=fun z=>by
          rcases X9.ow l z with z | z
          · exact no8 z
          · rw [hlH7] at z;cases z
        have E9:de W (et cp nT σ) F1 H1 (mQ cp nT e1) σ8 F9 H9 e8:=((X6.trans X7.s).trans X8).trans X9.s
        have s9:aw F5 F9:=(s6.trans sF7).trans X9.sf
        cases b8 with
        | false=>
          rw [if_neg (by simp)] at hc6
          exact yV (.mk R9 E9 fl9 no9 hlH9 (da6.mono (sF7.trans X9.sf)) ⟨s9,hc6⟩)
        | true=>
          rw [if_pos rfl] at hc6
          obtain⟨⟨r,e10⟩,c10,hc6⟩:=L' hc6
          obtain⟨d,c11,hc6⟩:=L' hc6
          split at hc6
          case isFalse=>cases hc6
          case isTrue hlen=>
          refine yX ⟨F9,e8,r,e10,R9,c10,fun Fa Ha v Xa Ra Aa=>?_⟩
          have hlHa:Ha l=some (.lst vs6):=Xa.tmp l _ hlH9 no9
          have fla:Fa l=none:=Xa.fr l vs6 fl9 hlH9 no9
          have noa:¬b_ σ8 e10 Ha l:=fun z=>by
            rcases Xa.ow l z with z | z
            · exact no9 z
            · rw [hlH9] at z;cases z
          obtain⟨Fb,Rb,sb,db,fb⟩:=dR.frozen Ra (rs:=[r]) (vs:=[v]) ⟨v,[],rfl,Aa,rfl⟩ (l7 c11)
          have flb:Fb l=none:=fb l fla (by rw [hlH9];simp)
          have Xb:=Xa.frz sb fb
          have ll:=da6.len
          have sl:sizeLine=16777216:=sizeLine_eq
          have dv:DA K Fb d v:=by
            simp only [aI] at db
            obtain⟨v',r',e',hv,_⟩:=db
            cases e';exact hv
          obtain⟨Rc,oc⟩:=Rb.putT (ws:=vs6++[v]) flb noa
          exact⟨vs6,hlHa,by lia,.mk Rc ((E9.trans Xb.s).putT hl oc) flb (fun z=>noa ((oc l).mp z)) aA ((da6.mono (sF7.trans (X9.sf.trans (Xa.sf.trans sb)))).append (aI.one dv)) ⟨s9.trans (Xa.sf.trans sb),hc6⟩⟩
      · have hd2:its2.drop j=[]:=List.drop_eq_nil_of_le (by lia)
        rw [hd2] at hc6
        cases hc6
        exact .inl ⟨stop2 j (by lia),.mk R6 X6 fl6 no6 hl6 da6 hc⟩
  · have hd:items.drop i=[]:=List.drop_eq_nil_of_le (by lia)
    rw [hd] at hc
    cases hc
    refine .inl ⟨stop i (by lia),?_⟩
    obtain⟨R9,X9,o9⟩:=oQ R1 sub iZ X'.sf X'.dom X'.fr X'.lst X'.tmp X'.fd R' (fun i k xs g1 g2=>X'.wr k fun z=>by
      obtain⟨s,g⟩:=eV g2
      have:=(Mb g).1
      have:=hW k z
      lia) fun i k xs g1 g2=>by
        obtain⟨s,g⟩:=eV g2
        unfold lZ at hB
        have hb:=List.all_eq_true.mp hB _ (Mf g)
        simp only [g1,g2,Option.getD_some,yN,Bool.not_true,Bool.false_or] at hb
        exact vN.mp hb
    exact q F' H' (.ref l) (X1.trans X9) R9 ⟨l,vs,rfl,X1.dom l hl,fl,hl',da,fun z=>R1.ownH l (o9 l z) hl⟩
end
theorem PG.wide{X:Cx}{K:PySem.W.Frag}{tg:Expr}{g:FG}{W W':List Nat}(h:PG X tg (fG K g W))(hw:∀j,j∈W→j∈W'):PG X tg (fG K g W'):=h.mono fun v σ H Q ⟨F,e,x,e',R,d,hg,q⟩=>⟨F,e,x,e',R,d,hg,fun σ' x=>q σ' (x.mono hw)⟩
section
variable{X:Cx}{K:PySem.W.Frag}{pos:Pos}
theorem Cd{elt iter tg iter2 tg2:Expr}{ifs ifs2:List Expr}{scope:Scope}{fi fi2:FI}{g g2:FG}{ft ft2:FT}{fe:FE}{W W2:List Nat}(sc0:Scope)(N0:List Str)(cp:List (Nat × Str))(tgN:List Str)
    (hc:X.calm=true)(hsc:X.env.scope=sc0)(hN0:X.N=N0)(hi:PI X tg iter (fI K fi))
    (hg:∀C s0 H0 fp,PG (ap X scope cp tgN C s0 H0 fp) tg (fG K g W))
    (ht:∀C s0 H0 fp,uj (ap X scope cp tgN C s0 H0 fp) ifs (fT K ft))
    (hi2:∀C s0 H0 fp,PI (ap X scope cp tgN C s0 H0 fp) tg2 iter2 (fI K fi2))
    (hg2:∀C s0 H0 fp,PG (ap X scope cp tgN C s0 H0 fp) tg2 (fG K g2 W2))
    (ht2:∀C s0 H0 fp,uj (ap X scope cp tgN C s0 H0 fp) ifs2 (fT K ft2))
    (he:∀C s0 H0 fp,PE (ap X scope cp tgN C s0 H0 fp) elt (fE K fe))
    (hk:scope.kind=.function)(hcell:∀y∈scope.names,y.2≠.cell)(hnames:∀y∈scope.names,y.2=.local→scope.names.lookup y.1=some .local)
    (hfr:∀y∈scope.names,y.2=.free→scope.names.lookup y.1=some .free∧sc0.names.lookup y.1=some .cell)
    (hcp:∀p∈cp,N0[p.1]?=some p.2)(hcq:∀p∈cp,sc0.names.lookup p.2=some .cell∧scope.names.lookup p.2=some .free)(hnd:(cp.map (·.1)).Nodup)(hW:∀j∈W++W2,cp.length≤j)
    (hs2:∀C s0 H0 fp x,foldedSetIterable iter2 (ap X scope cp tgN C s0 H0 fp).env x=pure x)(hs:∀x,foldedSetIterable iter X.env x=pure x):
    PE X (.ListComp elt [⟨tg,iter,ifs,0⟩,⟨tg2,iter2,ifs2,0⟩] scope pos) (fE K (mC cp tgN.length fi g ft fi2 g2 ft2 fe)):=
  (zx sc0 N0 cp tgN hc hsc hN0 hi (fun C s0 H0 fp=>(hg C s0 H0 fp).wide fun j hj=>List.mem_append_left W2 hj) ht hi2 (fun C s0 H0 fp=>(hg2 C s0 H0 fp).wide fun j hj=>List.mem_append_right W hj) ht2 he hk hcell hnames hfr hcp hcq hs2 hs).mono fun _ _ _ h=>xO hnd hW h
end
section
variable{X:Cx}{K:PySem.W.Frag}{pos:Pos}
variable{o:Expr}{fo:FE}{apos cpos:Pos}
end
section
variable{X:Cx}{K:PySem.W.Frag}
def JM:List Int→Int
  | []=>0
  | x::r=>r.foldl max x
end
structure JB (f:Fr):Prop where
  pos:0 < f.2
  cop:Int.gcd f.1 f.2=1
def JJ(t:ip)(b:Bool):Fr:=if b then(t.top,t.bot) else(t.bot - t.top,t.bot)
abbrev Pg:=List Int × Int
def JO(t:ip)(p:Pg):Bool:= !p.1.contains t.one&& !p.1.contains t.other
def IA(t:ip)(p:Pg):Pg:=(p.1++[t.one,t.other],p.2+t.worth)
def JQ(ps:List Pg)(t:ip):List Pg:=ps++(ps.filter (JO t)).map (IA t)
def JP(ts:List ip):List Pg:=ts.foldl JQ [([],0)]
structure Jl (k:Nat) (ps:List Pg):Prop where
  ne:ps≠[]
  len:ps.length≤2 ^ k
  pt:∀p∈ps,p.1.length≤2*k∧0≤p.2∧p.2≤1000*(k:Int)
def Jo(ts:List ip):Int:=JM ((JP ts).map (·.2))
section
variable{prog:Program}{w:World}{A:Around}{E:Value→Shared→Prop}{s:Shared}
end
section
variable{X:Cx}{a:Expr}{ta:TA}{p p2 pos pos2:Pos}
variable{K:PySem.W.Frag}{fs:FA}{p3:Pos}
end
def GT:PyData→Bool
  | .int _=>true
  | _=>false
def aS(lo hi:Int):PyData→Bool
  | .int i=>decide (lo≤i)&&decide (i≤hi)
  | _=>false
theorem cC{lo hi:Int}:∀{ds:List PyData},ds.all (aS lo hi)=true→∃ns:List Int,ds=ns.map .int∧∀x∈ns,lo≤x∧x≤hi
  | [],_=>⟨[],rfl,fun _ h=>by cases h⟩
  | d::r,h=>by
    rw [List.all_cons,Bool.and_eq_true] at h
    obtain⟨ns,rfl,hn⟩:=cC h.2
    cases d with
    | int i=>
      have h1:=h.1
      simp only [aS,Bool.and_eq_true,decide_eq_true_eq] at h1
      refine⟨i::ns,rfl,fun x hx=>?_⟩
      rcases Me hx with rfl | hx
      · exact h1
      · exact hn x hx
    | _=>simp [aS] at h
theorem lW{lo hi:Int}:∀(ns:List Int),(ns.map PyData.int).all (aS lo hi)=ns.all fun i=>decide (lo≤i)&&decide (i≤hi)
  | []=>rfl
  | x::r=>by simp only [List.map_cons,List.all_cons,lW r,aS]
theorem yn:∀(ns acc:List Int),(ns.foldl step_dedup acc).length≤acc.length+ns.length
  | [],acc=>by simp
  | x::r,acc=>by
    have:=yn r (step_dedup acc x)
    have h2:(step_dedup acc x).length≤acc.length+1:=by unfold step_dedup;split<;>simp
    simp only [List.foldl_cons,List.length_cons]
    lia
theorem se:∀(ns acc:List Int),(ns.foldl step_dedup acc).length=acc.length+ns.length→ns.Nodup∧∀x∈ns,x∉acc
  | [],acc,_=>⟨List.nodup_nil,fun x h=>by cases h⟩
  | x::r,acc,h=>by
    simp only [List.foldl_cons,List.length_cons] at h
    have hl:=yn r (step_dedup acc x)
    by_cases c:(acc.any fun y=>y==x)=true
    · have:step_dedup acc x=acc:=by unfold step_dedup;rw [if_pos c]
      rw [this] at h hl
      lia
    · have e:step_dedup acc x=acc++[x]:=by unfold step_dedup;rw [if_neg c]
      rw [e] at h
      obtain⟨h1,h2⟩:=se r (acc++[x]) (by rw [h];simp;lia)
      have hx:x∉r:=fun z=>h2 x z (by simp)
      refine⟨List.nodup_cons.mpr ⟨hx,h1⟩,fun y hy=>?_⟩
      rcases Me hy with rfl | hy
      · simpa using c
      · exact fun z=>h2 y hy (by simp [z])
theorem Bg{ns:List Int}:(xT ns).length=ns.length↔ ns.Nodup:=⟨fun h=>(se ns [] (by simpa [xT] using h)).1,Bh⟩
def iP(many:Int):List Int→List PyData→Bool
  | _,[]=>true
  | pre,.int i::r=>aS 0 (many - 1) (.int i)&&(!pre.contains i&&iP many (pre++[i]) r)
  | _,_::_=>false
theorem rQ{many:Int}:∀(ns pre:List Int),iP many pre (ns.map .int)=((ns.all fun i=>decide (0≤i)&&decide (i≤many - 1))&&decide (ns.Nodup∧∀x∈ns,x∉pre))
  | [],pre=>by simp [iP]
  | x::r,pre=>by
    simp only [List.map_cons,iP,rQ r,List.all_cons,aS]
    rw [Bool.eq_iff_iff]
    simp only [Bool.and_eq_true,decide_eq_true_eq,List.nodup_cons,List.mem_append,List.mem_singleton,not_or,Bool.not_eq_true',List.contains_eq_mem,decide_eq_false_iff_not,List.mem_cons,forall_eq_or_imp]
    constructor
    · rintro⟨a,b,c,d,e⟩
      exact⟨⟨a,c⟩,⟨fun h=>(e x h).2.1 rfl,d⟩,b,fun y hy=>(e y hy).1⟩
    · rintro⟨⟨a,c⟩,⟨d1,d2⟩,b,e⟩
      exact⟨a,b,c,d2,fun y hy=>⟨e y hy,fun z=>d1 (z ▸ hy),by simp⟩⟩
theorem iQ{many:Int}:∀{ds:List PyData} {pre:List Int},iP many pre ds=true→ds.all (aS 0 (many - 1))=true
  | [],_,_=>rfl
  | .int i::r,pre,h=>by
    simp only [iP,Bool.and_eq_true] at h
    rw [List.all_cons,h.1,iQ h.2.2];rfl
  | .none::_,_,h=>by simp [iP] at h
  | .bool _::_,_,h=>by simp [iP] at h
  | .str _::_,_,h=>by simp [iP] at h
  | .list _::_,_,h=>by simp [iP] at h
  | .tuple _::_,_,h=>by simp [iP] at h
  | .dict _::_,_,h=>by simp [iP] at h
def ww(many:Int):PyData→Bool
  | .tuple ds=>iP many [] ds
  | _=>false
theorem l5{α:Type}(p:α→Bool):∀(ds:List α),l0 (ds.map fun d=>PyData.bool (p d))=some (ds.map p)
  | []=>rfl
  | d::r=>by simp [l0,l5 p r]
theorem k9{α:Type}{e:En}(p:α→Bool)(ds:List α):g1 (gN mL) e [.l (ds.map fun d=>.bool (p d))]=some (.d (.bool (ds.all p))):=by
  simp [g1,gN,dc,mL,l5 p,List.all_map]
theorem yw{α:Type}{e:En}(p:α→Bool)(ds:List α):g1 (gN sA) e [.l (ds.map fun d=>.bool (p d))]=some (.d (.bool (ds.any p))):=by
  simp [g1,gN,dc,sA,l5 p,List.any_map]
theorem qJ{e:En}{ns:List Int}(h:ns.length≤1000):jZ e (.d (.tuple (ns.map .int)))=some (.d (.int (xT ns).length)):=by
  simp [jZ,dc,cQ,h]
theorem cut_pre{xs ys:List PyData}:cutD (xs++ys) none (some (xs.length:Int))=xs:=by
  unfold cutD
  rw [HT.sIx_none,HT.sIx_nat]
  simp
theorem nQ{α:Type}:∀(l:List α) (i:Nat) (h:i < l.length),(l[i]::l.eraseIdx i).Perm l
  | x::r,0,_=>.refl _
  | x::r,i+1,h=>(List.Perm.swap x _ _).trans ((nQ r i (by simpa using h)).cons x)
  | [],_,h=>by simp at h
mutual
def wt:PyData→Nat
  | .list xs=>AO xs+1
  | .tuple xs=>AO xs+1
  | .dict _=>1
  | .none=>1
  | .bool _=>1
  | .int _=>1
  | .str _=>1
def AO:List PyData→Nat
  | []=>0
  | x::r=>wt x+AO r
end
structure JW (d:PyData) (k:Nat):Prop where
  lay:d.canLay0=true
  sh:d.showable=true
  dp:d.depth≤k
  ln:d.shown.length+2≤104*wt d
  so:PyData.strOk d.shown=true
def uS(n:Int):PyData→Bool
  | .tuple ds=>(ds.length:Int)==n
  | _=>false
theorem sE{e:En}{s:Str}(h:PyData.strOk s=true):bK true e (.d (.str s)) (.d (.str s))=some (.d (.bool false)):=by
  unfold bK
  simp only [iH,Option.bind_some]
  have h0:SeqAt.shaped (.str s)=true:=by simp [SeqAt.shaped,PyData.canLay0,PyData.depth,h]
  rw [h0]
  simp [PyData.eqv]
section
variable{X:Cx}{K:PySem.W.Frag}
variable{a b:Expr}{fa fb:FE}{pos:Pos}
end
def tx(s:Str):List Nat:=s.cps.toList
section
variable{X:Cx}{K:PySem.W.Frag}{es:List Expr}{k0:Nat}{tp:Pos}{a b:Expr}{fs:FA}{p pos:Pos}
def vM(fs:FA):FI:=fun e=>(fs e).bind fun p=>match p.1 with
  | [.d (.tuple xs),.d (.tuple ys)]=>some (ji xs ys,[],p.2)
  | _=>none
theorem Cf(hK:X.K=K)(hg:Gl X "zip")(hm:X.mg "zip"=none)(ha:PA X [a,b] (fA K fs))(hs:starEach [a,b] X.env=[(false,eval a X.env),(false,eval b X.env)])(hs2:starEach [b] X.env=[(false,eval b X.env)]):PI X (.Tuple es k0 tp) (.Call (.Name "zip" p) [a,b] [] pos) (fI K (vM fs)):=
    (E6 (es:=es) (k0:=k0) (tp:=tp) hK hg hm ha hs hs2).mono fun σ H R hh=>by
  obtain⟨F,e,items,own,e',R0,hf,q⟩:=hh
  unfold vM at hf
  obtain⟨⟨rs,e1⟩,h1,hf⟩:=L' hf
  match rs,h1,hf with
  | [.d (.tuple xs),.d (.tuple ys)],h1,hf=>
  cases hf
  refine⟨F,e,_,e1,R0,h1,fun F1 H1 vs X1 R1 A1=>?_⟩
  obtain⟨v,u,rfl,a1,a2⟩:=rH A1
  obtain⟨p1,vs,rfl,s1,d1⟩:=cU.mp (show DA K F1 (.tuple xs) v from a1)
  obtain⟨p2,us,rfl,s2,d2⟩:=cU.mp (show DA K F1 (.tuple ys) u from a2)
  exact⟨p1,p2,rfl,⟨vs,R1.sm.tup s1⟩,⟨us,R1.sm.tup s2⟩,q _ F1 H1 X1 R1 (fun z hz=>by cases hz) (yU (own1:=[]) (own2:=[]) (P:=dz K) (Q:=dz K) (.tup s1 d1) (.tup s2 d2) (fun _ _ h=>h) (fun _ _ h=>h) (fun i H vs us x y h1 h2 h3 h4=>⟨vs,us,x,y,h1,h2,h3,h4⟩) (fun i H vs us h1 h2 h3=>⟨vs,us,h1,h2,h3⟩) fun i H v H' h=>h)⟩
end
def JL(x:Nd)(b:Bool):Int:=if b=true then x.yes else x.no
def Di(T:List Nd)(i:Nat)(b:Bool):Int:=match T[i]? with
  | some x=>JL x b
  | none=> -1
def Iy(T:List Nd):Prop:=∀(i j:Nat) (a b:Bool),Di T i a=Di T j b→Di T i a≠ -1→i=j∧a=b
def Jg(w:Wt):Int × Int:=(w.par,w.side)
structure JZ (T:List Nd) (ws:List Wt):Prop where
  unq:Iy T
  rng:∀i a,Di T i a= -1∨(0 < Di T i a∧Di T i a < (T.length:Int))
  free:∀w∈ws,w.par= -1∨(0≤w.par∧w.par < (T.length:Int)∧Di T w.par.toNat (w.side==0)= -1)
  dst:(ws.map Jg).Nodup
  side:∀w∈ws,w.side=0∨w.side=1
structure J3 (T:List Nd) (w0 ws order:List Int):Prop where
  nd:(order++ws).Nodup
  par:∀v∈order++ws,v=0∨∃u∈order,∃b,Di T u.toNat b=v∧v≠ -1
  fst:(order=[]∧ws=w0)∨order[0]?=some 0
theorem xN{cp:List (Nat × Str)}{nT:Nat}{fi fi2:FI}{g g2:FG}{ft ft2:FT}{fe:FE}{e e1 cs:En}{t t':En}{items out:List PyData}(h1:fi e=some (items,[],e1))(hc:mQ cp nT e1=cs++t)(hl:cs.length=cp.length)(h3:iq g ft fi2 g2 ft2 fe items (mQ cp nT e1) []=some (out,cs++t')):mC cp nT fi g ft fi2 g2 ft2 fe e=some (.l out,e1):=by
  have key:=bC (cp:=cp) (nT:=nT) (fi:=fun _=>some ([.none],[],e1)) (g:=fun _ _=>some (cs++t')) (ft:=fun e=>some (false,e)) (fe:=fe) (e:=e) (cs:=cs) (t:=t) (t':=t') (out:=[]) rfl hc hl rfl
  have c0:dh (fun _ _=>some (cs++t')) (fun e=>some (false,e)) fe [.none] (mQ cp nT e1) []=some ([],cs++t'):=rfl
  unfold cx at key
  unfold mC
  rw [h1]
  simp only [Option.bind_some,List.all_nil,if_true,h3,c0] at key ⊢
  split at key
  · rename_i q
    rw [if_pos q]
    have:=Option.some.inj key
    have e2:mB (mn cp) (cs++t') e1=e1:=(Prod.ext_iff.mp this).2
    rw [e2]
  · cases key
section
variable{prog:Program}{w:World}{A:Around}{E:Value→Shared→Prop}{s:Shared}
end
section
variable{X:Cx}{tg a:Expr}{ta:TA}{p pos:Pos}
end
section
variable{X:Cx}{K:PySem.W.Frag}{σ:L2.St}{tg a:Expr}{fs:FA}{p pos:Pos}
end
section
variable{X:Cx}{a k:Expr}{p2 pos:Pos}{fa fk:FE}{K:PySem.W.Frag}
theorem uO(n:Nat):Builtin.Slice.slicePlaces ((n:Int) - 1) (-1) (-1)=n:=by
  unfold Builtin.Slice.slicePlaces
  rw [if_neg (by decide),show(- -1:Int)=1 from rfl]
  split<;>lia
theorem sv{α β:Type}{f g:α→Option β}:∀{l:List α},(∀x∈l,f x=g x)→l.filterMap f=l.filterMap g
  | [],_=>rfl
  | x::r,h=>by rw [List.filterMap_cons,List.filterMap_cons,h x (by simp),sv fun y hy=>h y (by simp [hy])]
theorem zG(xs:Array Value):((List.range xs.size).filterMap fun(m:Nat)=>xs[((xs.size:Int) - 1+(m:Int)*(-1)).toNat]?).toArray=xs.toList.reverse.toArray:=by
  have e:(List.range xs.size).filterMap (fun(m:Nat)=>xs[((xs.size:Int) - 1+(m:Int)*(-1)).toNat]?)=((List.range xs.size).map fun k=>xs.size - 1 - k).filterMap (xs[·]?):=by
    rw [List.filterMap_map]
    refine sv fun m hm=>?_
    have:=List.mem_range.mp hm
    show xs[_]?=xs[xs.size - 1 - m]?
    congr 1
    lia
  rw [e,PySem.W.krv_range,List.filterMap_reverse,PySem.W.krv_all]
section
variable{prog:Program}{w:World}{A:Around}{E:Value→Shared→Prop}{s:Shared}
theorem my{sl:Addr}{t:Tok}{n:Nat}{Q:Int × Int × Nat→Shared→Prop}(hs:s.heap.IsSliceOf sl .none .none (.int (-1) t))(h:Q ((n:Int) - 1, -1,n) s):wpAny (model prog w) A (Builtin.Slice.sliceApplied (.ref sl) (pure (n:Int))) Q E s:=by
  obtain⟨os,hos,hcs,hds⟩:=id hs
  unfold Builtin.Slice.sliceApplied Builtin.Slice.sliceFields
  refine wpAny_bind (wpAny_bind (wpAny_field hos hds (x:=.none) rfl (wpAny_bind (wpAny_field hos hds (x:=.none) rfl (wpAny_bind (wpAny_field hos hds (x:=.int (-1) t) rfl (wpAny_pure ?_)))))))
  refine wpAny_bind (HT.slicePart_ (.int (-1) t) ?_)
  show wpAny _ _ (if ((-1:Int)==0)=true then _ else _) _ _ s
  rw [if_neg (by decide)]
  refine wpAny_bind (HT.slicePart_ .none (wpAny_bind (HT.slicePart_ .none (wpAny_bind (wpAny_pure ?_)))))
  show wpAny _ _ (pure ((n:Int) - 1,(-1:Int),Builtin.Slice.slicePlaces ((n:Int) - 1) (-1) (-1))) _ _ s
  rw [uO]
  exact wpAny_pure h
theorem lc{t sl:Addr}{items:Array Value}{tk:Tok}{Q:Value→Shared→Prop}(ht:IsTup s.heap t items)(hs:s.heap.IsSliceOf sl .none .none (.int (-1) tk))
    (h:Q (.ref s.heap.objs.size) {s with heap:=s.heap.push {cls:=.type "tuple",data:=.seq items.toList.reverse.toArray}})(hsz:items.size≤sizeLine):wpAny (model prog w) A (getItem (.ref t) (.ref sl)) Q E s:=by
  have htake:sizeOk (.seq items.toList.reverse.toArray):=by
    show items.toList.reverse.toArray.size≤sizeLine
    rw [List.size_toArray,List.length_reverse,Array.length_toList]
    exact hsz
  obtain⟨os,hos,hcs,hds⟩:=id hs
  have hTs:s.TypeIs (.ref sl) "slice":=⟨os,hos,hcs⟩
  unfold getItem
  try with_reducible refine wpAny_holding ?_
  first | refine wpAny_bind (wpAny_pure ?_) | skip
  refine wpAny_bind (wpAny_sequenceKey ht.typeIs (by decide) ?_)
  refine wpAny_bind (wpAny_callSpecial?_slot (name:=Str.ofString "__getitem__") ht.typeIs PyProof.Rows.slot_tuple_getitem
    (wpAny_call_entry PyProof.Rows.slot_tuple_getitem ht.typeIs entry_tuple_getitem ?_ (args_tuple_getitem _ _)))
  show wpAny _ _ (Builtin.Tuple.tupleItemsOf (.ref t) >>= _) _ _ s
  refine wpAny_bind (tupleItemsOf_ ht ?_)
  refine wpAny_bind (wpAny_typeOf hTs ?_)
  rw [if_pos (by decide)]
  refine wpAny_bind (my hs ?_)
  have hno:¬((((items.size:Int) - 1)==0&&(-1:Int)==1&&items.size==items.size)=true):=by
    intro q
    rw [Bool.and_eq_true,Bool.and_eq_true] at q
    have q1:((-1:Int)==1)=true:=q.1.2
    exact absurd q1 (by decide)
  show wpAny _ _ (if (((items.size:Int) - 1)==0&&(-1:Int)==1&&items.size==items.size)=true then _ else _) _ _ s
  rw [if_neg hno,zG]
  first
    | exact wpAny_bind (m:=Builtin.Tuple.tupleExact _) (wpAny_newObj_type (wpAny_pure ⟨_,rfl,wpAny_pure h⟩) htake)
    | exact wpAny_bind (m:=Builtin.Tuple.tupleExact _) (wpAny_newObj_type (wpAny_bind (wpAny_pure (wpAny_pure ⟨_,rfl,wpAny_pure h⟩))) htake)
    | exact wpAny_bind (wpAny_bind (m:=Builtin.Tuple.tupleExact _) (wpAny_newObj_type (wpAny_pure (wpAny_pure ⟨_,rfl,wpAny_pure h⟩)) htake))
    | exact wpAny_bind (wpAny_bind (m:=Builtin.Tuple.tupleExact _) (wpAny_newObj_type (wpAny_pure ⟨_,rfl,wpAny_pure h⟩) htake))
end
def JS(K:PySem.W.Frag)(te tk:TE):TE:=fun σ H Q=>te σ H fun x H1=>tk σ H1 fun y H2=>y=.int (-1)∧((∃a xs,x=.ref a∧f9 K H2 a xs∧∀p,H2 p=none→Q (.ref p) (a8 H2 p (.lst xs.reverse)))∨∃a xs,x=.ref a∧dz K H2 a xs∧∀p,H2 p=none→Q (.ref p) (a8 H2 p (.tup xs.reverse)))
theorem He{te tk:TE}(he:PE X a te)(hk:PE X k tk):PE X (.Subscript a (.Slice none none (some k) p2) pos) (JS X.K te tk):=by
  intro pins s σ H Q I h
  refine Subscript_ (br (he pins s σ H _ I h) fun v s1 ⟨x,H1,I1,r1,q1⟩=>?_)
  refine wpAny_Slice ?_
  rw [evalPart_none]
  refine wpAny_pure (wpAny_pure ?_)
  refine br (hk pins s1 σ H1 _ I1 q1) fun vk s3 ⟨y,H3,I3,rk,e,q⟩=>?_
  subst e
  obtain⟨t,rfl⟩:∃t,vk=.int (-1) t:=rk
  have I4:ax X pins σ H3 {s3 with heap:=s3.heap.push {cls:=.type "slice",data:=.fields #[.none,.none,.int (-1) t]}}:=I3.kept (t':=s3.toks) fun b ob q=>Heap.get?_push_of_some _ q
  rcases q with ⟨b,xs,ex,hx,q⟩ | ⟨b,xs,ex,hx,q⟩
  · subst ex
    cases r1
    obtain⟨its,r,ht,hz⟩:=I4.list hx
    have hlen:=r.length
    show wpAny (model X.prog X.w) X.A (subscriptTail a (.Slice none none (some k) p2) (.ref b) (.ref s3.heap.objs.size)) (EP X pins σ Q) X.xe {s3 with heap:=s3.heap.push {cls:=.type "slice",data:=.fields #[.none,.none,.int (-1) t]}}
    refine tail_any (T:="list") ht.isList.typeIs slot_list_getitem.lookup ?_ (by with_unfolding_all rfl)
    refine wpAny_getItem_list_slice ht.isList (Heap.IsSliceOf.new ..) .none .none (.int (-1) t) (by decide) ?_ (by rw [List.size_toArray]<;>lia)
    rw [PySem.W.krv_pick]
    refine⟨.ref _,_,I4.laid (t':=s3.toks) (o:=.lst xs.reverse) (fun b ob q=>Heap.get?_push_of_some _ q) (Nat.le_refl _) ?_,rfl,q _ (I4.hok.fresh (Nat.le_refl _))⟩
    exact⟨by rw [List.length_reverse];exact hz,_,0,r.reverse,Heap.get?_push_size _ rfl⟩
  · subst ex
    cases r1
    obtain⟨its,r,ht,hz⟩:=I4.tuple hx
    have hlen:=r.length
    show wpAny (model X.prog X.w) X.A (subscriptTail a (.Slice none none (some k) p2) (.ref b) (.ref s3.heap.objs.size)) (EP X pins σ Q) X.xe {s3 with heap:=s3.heap.push {cls:=.type "slice",data:=.fields #[.none,.none,.int (-1) t]}}
    refine tail_any (T:="tuple") ht.typeIs slot_tuple_getitem.lookup ?_ (by with_unfolding_all rfl)
    refine lc ht (Heap.IsSliceOf.new ..) ?_ (by rw [List.size_toArray]<;>lia)
    refine⟨.ref _,_,I4.laid (t':=s3.toks) (o:=.tup xs.reverse) (fun b ob q=>Heap.get?_push_of_some _ q) (Nat.le_refl _) ?_,rfl,q _ (I4.hok.fresh (Nat.le_refl _))⟩
    exact⟨by rw [List.length_reverse];exact hz,_,r.reverse,nH.new _ _⟩
def ID(e:En)(x y:Rv):Option Rv:=match y with
  | .d (.int i)=>if i= -1 then(dc e x).bind fun p=>some (if p.1=true then .l p.2.reverse else .d (.tuple p.2.reverse)) else none
  | _=>none
def HV(fa fk:FE):FE:=fun e=>(fa e).bind fun p=>(fk p.2).bind fun k=>(ID k.2 p.1 k.1).map fun z=>(z,k.2)
theorem qG:∀{F:Hp} {ds:List PyData} {vs:List V},aI K F ds vs→aI K F ds.reverse vs.reverse
  | F,[],vs,h=>by simp only [aI] at h;subst h;exact aI.nil
  | F,d::ds,vs,h=>by
    simp only [aI] at h
    obtain⟨v,ws,rfl,h1,h2⟩:=h
    rw [List.reverse_cons,List.reverse_cons]
    exact(qG h2).append (aI.one h1)
theorem Hl(he:PE X a (fE X.K fa))(hk:PE X k (fE X.K fk)):PE X (.Subscript a (.Slice none none (some k) p2) pos) (fE X.K (HV fa fk)):=(He he hk).mono fun σ H Q h=>by
  obtain⟨F,e,z,e',R,hf,q⟩:=h
  unfold HV at hf
  obtain⟨⟨x,e1⟩,h1,hf⟩:=L' hf
  obtain⟨⟨y,e2⟩,h2,hf⟩:=L' hf
  obtain⟨z',h4,hf⟩:=Ma hf
  cases hf
  refine⟨F,e,x,e1,R,h1,fun F1 H1 v X1 R1 A1=>⟨F1,e1,y,_,R1,h2,fun F2 H2 u X2 R2 A2=>?_⟩⟩
  unfold ID at h4
  split at h4
  · rename_i i hy
    have hy:y=.d (.int i):=hy
    subst hy
    by_cases hi:i= -1
    case neg=>rw [if_neg hi] at h4;cases h4
    rw [if_pos hi] at h4
    subst hi
    obtain⟨⟨b,xs⟩,h5,h4⟩:=L' h4
    cases b with
    | false=>
      cases h4
      obtain⟨p,vs,rfl,d1,s1⟩:=bV R2 (A1.ext X2) h5
      refine⟨by first | exact A2 | cases A2;rfl,.inr ⟨p,vs,rfl,s1,fun t ht=>?_⟩⟩
      obtain⟨R4,X4⟩:=R2.newT (vs:=vs.reverse) ht
      exact q _ _ _ ((X1.trans X2).trans X4) R4 (cU.mpr ⟨t,_,rfl,.inl (.inl aA),(qG d1).mono X4.sf⟩)
    | true=>
      cases h4
      obtain⟨p,vs,rfl,d1,s1⟩:=bV R2 (A1.ext X2) h5
      refine⟨by first | exact A2 | cases A2;rfl,.inl ⟨p,vs,rfl,s1,fun t ht=>?_⟩⟩
      obtain⟨R4,X4,hF,no⟩:=R2.newL (vs:=vs.reverse) ht
      exact q _ _ _ ((X1.trans X2).trans X4) R4 ⟨t,_,rfl,(X1.trans X2).dom _ ht,hF,aA,qG d1,no⟩
  · cases h4
theorem IS(hK:X.K=K)(he:PE X a (fE K fa))(hk:PE X k (fE K fk)):PE X (.Subscript a (.Slice none none (some k) p2) pos) (fE K (HV fa fk)):=by subst hK;exact Hl he hk
end
section
variable{X:Cx}{a b:Expr}{ta:TA}{p p2 pos pos2:Pos}{K:PySem.W.Frag}{fs:FA}
end
section
variable{X:Cx}{o i e:Expr}{fo fi:FE}{tpos pos:Pos}{K:PySem.W.Frag}
end
section
variable{X:Cx}{K:PySem.W.Frag}
def Fw(K:PySem.W.Frag)(neg:Bool):R2:=fun x y H Q=>∃a b xs,x=.ref a∧y=.ref b∧f9 K H a xs∧f9 K H b []∧Q (.bl (if neg then !xs.isEmpty else xs.isEmpty)) H
theorem EE(hu:X.A.units < cLine):fg X (compareOp .Eq) (Fw X.K false):=by
  intro pins s σ H x y v u Q I rx ry h
  exact ED hu pins s σ H x y v u Q I rx ry h
theorem EL(hu:X.A.units < cLine):fg X (compareOp .NotEq) (Fw X.K true):=by
  intro pins s σ H x y v u Q I rx ry h
  obtain⟨a,b,xs,rfl,rfl,ha,hb,q⟩:=h
  cases rx
  cases ry
  obtain⟨its,r,p,hz⟩:=I.list ha
  obtain⟨its2,r2,p2,hz2⟩:=I.list hb
  cases r2
  cases r with
  | nil=>
    refine SeqAt.RcNeAt.lists (e:=fun _=>true) p.isList p2.isList rfl hu (fun j h1 h2=>by simp at h1) X.prog X.w X.xe _ ?_
    exact⟨.bl false,H,I,rfl,q⟩
  | cons r rr=>
    refine SeqAt.RcNeAt.lists_lengths p.isList p2.isList (by simp) hu X.prog X.w X.xe _ ?_
    exact⟨.bl true,H,I,rfl,q⟩
def nX(neg:Bool):En→Rv→Rv→Option Rv:=fun e x y=>(dc e x).bind fun a=>(dc e y).bind fun b=>if a.1=true∧b.1=true∧b.2.isEmpty=true then some (.d (.bool (if neg then !a.2.isEmpty else a.2.isEmpty))) else none
theorem C4{neg:Bool}:fV K (Fw K neg) (nX neg):=by
  intro σ H0 F H e x y z v u Q R A B hg q
  unfold nX at hg
  obtain⟨⟨b1,xs⟩,h1,hg⟩:=L' hg
  obtain⟨⟨b2,ys⟩,h2,hg⟩:=L' hg
  split at hg
  case isFalse=>cases hg
  case isTrue hl=>
  cases hg
  obtain⟨z1,z2,z3⟩:=hl
  dsimp only at z1 z2 z3
  subst z1 z2
  have z4:ys=[]:=List.isEmpty_iff.mp z3
  subst z4
  obtain⟨p,vs,rfl,d1,s1⟩:=bV R A h1
  obtain⟨p',vs',rfl,d2,s2⟩:=bV R B h2
  have e2:vs'=[]:=by simpa only [aI] using d2
  subst e2
  rw [if_pos rfl] at s1 s2
  refine⟨p,p',vs,rfl,rfl,s1,s2,?_⟩
  have e1:vs.isEmpty=xs.isEmpty:=by
    have:=d1.len
    cases xs with
    | nil=>cases vs with
      | nil=>rfl
      | cons=>simp at this
    | cons=>cases vs with
      | nil=>simp at this
      | cons=>rfl
  rw [e1]
  exact q F H _ (ez.refl _ _ _ _) R du
theorem C0{k:Nat}(hK:X.K=K)(hr:cf k X.A):jf X K .Eq (nX false):=⟨_,hK ▸ EE hr.units0,C4⟩
theorem ye{k:Nat}(hK:X.K=K)(hr:cf k X.A):jf X K .NotEq (nX true):=⟨_,hK ▸ EL hr.units0,C4⟩
theorem nY{e:En}{xs:List PyData}{neg:Bool}:nX neg e (.l xs) (.l [])=some (.d (.bool (if neg then !xs.isEmpty else xs.isEmpty))):=by
  simp [nX,dc]
end
section
open PySem.MeetsSeq2 PySem.AutoSeq1 PySem.SeqAt
end
section
variable{X:Cx}{K:PySem.W.Frag}{o a:Expr}{to te:TE}{name:Str}{apos cpos:Pos}{T id:String}{r:V→List V→Hp→VK→Prop}{fo fa:FE}
def Jq(K:PySem.W.Frag)(H:Hp)(b:Bool)(x:V):Prop:=∃p xs,x=.ref p∧(if b=true then f9 K H p xs else dz K H p xs)
theorem Ee{pins:List (Addr × Obj)}{σ:L2.St}{H:Hp}{s:Shared}{x:V}{v:Value}{b:Bool}(hT:T=if b=true then "list" else "tuple")(I:ax X pins σ H s)(r:a9 x v)(ty:Jq X.K H b x):
    s.TypeIs v T∧∀a,v=.ref a→∃ob,s.heap.get? a=some ob∧ob.dict=none:=by
  obtain⟨p,xs,rfl,hq⟩:=ty
  cases b with
  | true=>subst hT;exact u_ I r (.inl ⟨rfl,xs,hq⟩)
  | false=>
    subst hT
    cases r
    obtain⟨its,_,pl,_⟩:=I.tuple hq
    exact⟨pl.typeIs,fun a e=>by cases e;exact I.tupD hq⟩
def Ju(K:PySem.W.Frag)(b:Bool)(r:V→List V→Hp→VK→Prop)(to te:TE):TE:=fun σ H Q=>to σ H fun x H1=>Jq K H1 b x∧te σ H1 fun y H2=>r x [y] H2 Q
theorem Dp{b:Bool}(hT:T=if b=true then "list" else "tuple")(pa:PlainAttrs T)(slot:Slot T name id)(hty:typeOf (.builtin id)=pure (.type "method_descriptor"))(hm:DM X id r)(ho:PE X o to)(ha:PE X a te)
    (hbase:attributeBase o name X.env (eval o X.env)=eval o X.env)
    (hfew:((backTo cpos (starEach [a] X.env)).all (fun x=> !x.1)&&(backToKw cpos (keywordEach [] X.env)).all (fun x=>x.1.isSome)
      &&decide (([a]:List Expr).length+([]:List Keyword).length+(if ([]:List Keyword).isEmpty then 0 else 1) < 30))=true)
    (hline:(apos.endLine==cpos.line)=true)(hs:starEach [a] X.env=(false,eval a X.env)::starEach [] X.env)(hplain:(backTo cpos (starEach [] X.env)).any (·.1)=false):
    PE X (.Call (.Attribute o name apos) [a] [] cpos) (Ju X.K b r to te):=by
  intro pins s σ H Q I h
  refine wpAny_Call_method_late hbase hfew hline rfl (br (ho pins s σ H _ I h) fun v s1 ⟨x,H1,I1,r1,ty,q1⟩=>?_)
  obtain⟨h1,h2⟩:=Ee hT I1 r1 ty
  refine⟨T,id,pa,slot,hty,h1,h2,?_⟩
  have hA:=(j5 ha mj hs) cpos pins s1 σ H1 (fun xs H2=>r x xs H2 Q) I1 q1
  rw [hs] at hA ⊢
  refine Calls.callWith_builtin (by show(false || (backTo cpos (starEach [] X.env)).any (·.1))=false;rw [hplain]<;>rfl) (Calls.evalArgs_plain ?_)
  exact br hA fun us s2 ⟨vs,H2,I2,r2,q2⟩=>hm pins s2 σ H2 x vs v us Q I2 r1 r2 q2
def IW(K:PySem.W.Frag)(b:Bool)(g:List Int→Int→Option Nat):V→List V→Hp→VK→Prop:=fun x vs H Q=>∃p ns k i,x=.ref p∧vs=[.int k]∧(if b=true then f9 K H p (ns.map V.int) else dz K H p (ns.map V.int))∧g ns k=some i∧Q (.int (i:Nat)) H
def gC(ns:List Int)(k:Int):Option Nat:=some (ns.count k)
def gX(ns:List Int)(k:Int):Option Nat:=if k∈ns then some (ns.idxOf k) else none
def Gr(b:Bool)(e:En)(x:Rv):Option (List PyData):=(dc e x).bind fun z=>if z.1=b then some z.2 else none
theorem Au{b:Bool}{e:En}{x:Rv}{ds:List PyData}(h:Gr b e x=some ds):dc e x=some (b,ds):=by
  unfold Gr at h
  obtain⟨⟨c,zs⟩,h1,h2⟩:=L' h
  by_cases hb:c=b
  · subst hb;rw [if_pos rfl] at h2;cases h2;exact h1
  · rw [if_neg hb] at h2;cases h2
def AZ(b:Bool)(g:List Int→Int→Option Nat)(fo fa:FE):FE:=fun e=>(fo e).bind fun p=>(Gr b p.2 p.1).bind fun _=>(fa p.2).bind fun q=>(Gr b q.2 p.1).bind fun ds=>
  (li ds).bind fun ns=>(cv q.1).bind fun k=>(g ns k).map fun i=>(.d (.int (i:Nat)),q.2)
theorem AM{b:Bool}{g:List Int→Int→Option Nat}{σ:L2.St}{H:Hp}{Q:VK}(h:fE K (AZ b g fo fa) σ H Q):Ju K b (IW K b g) (fE K fo) (fE K fa) σ H Q:=by
  obtain⟨F,e,z,e2,R,hf,q⟩:=h
  unfold AZ at hf
  obtain⟨⟨x,e1⟩,h1,hf⟩:=L' hf
  obtain⟨ds,h3,hf⟩:=L' hf
  obtain⟨⟨y,e2'⟩,h2,hf⟩:=L' hf
  obtain⟨ds',h4,hf⟩:=L' hf
  obtain⟨ns,h5,hf⟩:=L' hf
  obtain⟨k,h6,hf⟩:=L' hf
  obtain⟨i,h7,hf⟩:=Ma hf
  cases hf
  refine⟨F,e,x,e1,R,h1,fun F1 H1 v X1 R1 A1=>?_⟩
  obtain⟨p,vs,rfl,d1,s1⟩:=bV R1 A1 (Au h3)
  refine⟨⟨p,vs,rfl,s1⟩,F1,e1,y,_,R1,h2,fun F2 H2 u X2 R2 A2=>?_⟩
  obtain⟨p',vs',e3,d2,s2⟩:=bV R2 (A1.ext X2) (Au h4)
  cases e3
  have e4:ds'=ns.map .int:=oi h5
  subst e4
  have e5:=aI.ints.mp d2
  subst e5
  exact⟨p,ns,k,i,rfl,by rw [cj A2 h6],s2,h7,q F2 H2 _ (X1.trans X2) R2 kN⟩
theorem Bx:DM X "tuple.count" (IW X.K false gC):=by
  intro pins s σ H x vs v us Q I rx rv h
  obtain⟨p,ns,k,i,rfl,rfl,hs,hg,q⟩:=h
  cases hg
  cases rx
  obtain⟨u,rfl,⟨t,rfl⟩⟩:=jH rv
  obtain⟨its,r,pl,hz⟩:=I.tuple hs
  have hi:=i4 r
  obtain⟨⟨cls,dd,data,sl⟩,ho,hc,n,hd⟩:=id pl
  simp only at hc hd
  subst hc hd
  refine call_meets PySem.F.slot_tuple_count ⟨_,ho,rfl⟩ PySem.F.entry_tuple_count (PySem.F.args_tuple_count_2 _ _) (PySem.SeqAt.tuple_countAt p its.toArray n dd sl (.int k t) (isInt k)) ⟨ho,fun y hy=>(eq_isInt k t hi y (by simpa using hy)).at _ _,?_⟩
  rw [show its.toArray.toList=its from rfl,countP_isInt k hi]
  exact⟨.int _,H,I.tok _,⟨_,rfl⟩,q⟩
theorem By:DM X "list.index" (IW X.K true gX):=by
  intro pins s σ H x vs v us Q I rx rv h
  obtain⟨p,ns,k,i,rfl,rfl,hs,hg,q⟩:=h
  unfold gX at hg
  split at hg
  case isFalse=>cases hg
  case isTrue hk=>
  cases hg
  cases rx
  obtain⟨u,rfl,⟨t,rfl⟩⟩:=jH rv
  obtain⟨its,r,pl,hz⟩:=I.list hs
  have hi:=i4 r
  have hlen:=hi.length
  have hsl:sizeLine=16777216:=sizeLine_eq
  have hj:ns.idxOf k < ns.length:=List.idxOf_lt_length_iff.mpr hk
  rw [List.length_map] at hz
  obtain⟨⟨cls,dd,data,sl⟩,ho,hc,n,hd⟩:=id pl.isList
  simp only at hc hd
  subst hc hd
  refine call_meets PySem.F.slot_list_index ⟨_,ho,rfl⟩ PySem.F.entry_list_index (PySem.F.args_list_index_2 _ _)
    (PySem.SeqAt.list_indexAt p its.toArray n dd sl (.int k t) (isInt k) (ns.idxOf k) (by simpa [hlen] using hj) (by lia) ?_ ?_) ⟨ho,fun y hy=>(eq_isInt k t hi y (by simpa using hy)).at _ _,⟨.int _,H,I.tok _,⟨_,rfl⟩,q⟩⟩
  · show isInt k its[ns.idxOf k]=true
    rw [isInt_at k hi _ (by lia) hj]
    simpa using List.getElem_idxOf hj
  · intro j hjs hlt
    show isInt k its[j]=false
    rw [isInt_at k hi j (by simpa using hjs) (by lia)]
    exact ne_of_lt_idxOf hlt _
theorem Fi(hK:X.K=K)(ho:PE X o (fE K fo))(ha:PE X a (fE K fa))(hbase:attributeBase o "count" X.env (eval o X.env)=eval o X.env)
    (hfew:((backTo cpos (starEach [a] X.env)).all (fun x=> !x.1)&&(backToKw cpos (keywordEach [] X.env)).all (fun x=>x.1.isSome)
      &&decide (([a]:List Expr).length+([]:List Keyword).length+(if ([]:List Keyword).isEmpty then 0 else 1) < 30))=true)
    (hline:(apos.endLine==cpos.line)=true)(hs:starEach [a] X.env=(false,eval a X.env)::starEach [] X.env)(hplain:(backTo cpos (starEach [] X.env)).any (·.1)=false):
    PE X (.Call (.Attribute o "count" apos) [a] [] cpos) (fE K (AZ false gC fo fa)):=by
  subst hK
  exact(Dp (b:=false) rfl PySem.F.plainAttrs_tuple PySem.F.slot_tuple_count PySem.F.type_tuple_count Bx ho ha hbase hfew hline hs hplain).mono fun σ H Q h=>AM h
theorem zS(hK:X.K=K)(ho:PE X o (fE K fo))(ha:PE X a (fE K fa))(hbase:attributeBase o "index" X.env (eval o X.env)=eval o X.env)
    (hfew:((backTo cpos (starEach [a] X.env)).all (fun x=> !x.1)&&(backToKw cpos (keywordEach [] X.env)).all (fun x=>x.1.isSome)
      &&decide (([a]:List Expr).length+([]:List Keyword).length+(if ([]:List Keyword).isEmpty then 0 else 1) < 30))=true)
    (hline:(apos.endLine==cpos.line)=true)(hs:starEach [a] X.env=(false,eval a X.env)::starEach [] X.env)(hplain:(backTo cpos (starEach [] X.env)).any (·.1)=false):
    PE X (.Call (.Attribute o "index" apos) [a] [] cpos) (fE K (AZ true gX fo fa)):=by
  subst hK
  exact(Dp (b:=true) rfl PySem.F.plainAttrs_list PySem.F.slot_list_index PySem.F.type_list_index By ho ha hbase hfew hline hs hplain).mono fun σ H Q h=>AM h
end
section
variable{X:Cx}{K:PySem.W.Frag}{o a:Expr}{apos cpos:Pos}{fo fa:FE}
end
section
variable{K:PySem.W.Frag}{F H:Hp}{σ:L2.St}{e:En}{cp:List (Nat × Str)}{nT:Nat}
end
section
variable{X:Cx}{K:PySem.W.Frag}{a b:Expr}{es:List Expr}{fa fb:FE}{fs:FA}{pos p p2 p3:Pos}{lo hi:Option Expr}
end
section
variable{X:Cx}{K:PySem.W.Frag}
end
section
variable{X:Cx}{K:PySem.W.Frag}{a b:Expr}{fa fb:FE}{pos:Pos}
end
section
variable{X:Cx}{K:PySem.W.Frag}
end
structure Sw (b:Bool) (n dep:Nat) (d:PyData):Prop where
  dl:bif b then kG d=true else d.hasDict=false
  sh:d.showable=true
  dp:d.depth≤dep
  ln:d.shown.length+2≤n
  so:PyData.strOk d.shown=true
structure S1 (n:Nat) (f:Fr):Prop where
  low:JB f
  lo:0≤f.1
  hi:f.1≤f.2
  bt:Bt n f.2
def JK(e:Int)(t:ip):Bool:=t.one==e || t.other==e
structure J4 (b f g:Fr):Prop where
  pf:0 < f.2
  pg:0 < g.2
  eq:g.1*(f.2*b.1)=g.2*(f.1*b.2)
def vR(f:Fr):Rat:=(f.1:Rat) / (f.2:Rat)
def cR(t:ip)(b:Bool):Rat:=vR (JJ t b)
def hR(t:ip):Rat:=cR t true*(t.worth:Rat)
structure J1 (O:aY) (ss ws:List Std):Prop where
  len:ss.length=ws.length
  at':∀j,(ss.getD j ([],[])).1=(ws.getD j ([],[])).1∧(ss.getD j ([],[])).2.length≤2*(ss.getD j ([],[])).1.length∧∀k∈(ss.getD j ([],[])).1,wC O k
theorem yI{α:Type}{l:List α}{i j:Nat}{v d:α}(hi:i < l.length):(l.set i v).getD j d=if j=i then v else l.getD j d:=by
  simp only [List.getD_eq_getElem?_getD]
  by_cases e:j=i
  · subst e;rw [if_pos rfl,List.getElem?_set_self hi];rfl
  · rw [if_neg e,List.getElem?_set_ne (fun z=>e z.symm)]
structure JY (O:aY) (T:List Nd):Prop where
  tie:∀(i:Nat) (x:Nd),T[i]?=some x→wC O x.tie
  lk:∀(i:Nat) (x:Nd),T[i]?=some x→(-1≤x.yes∧x.yes < (T.length:Int))∧(-1≤x.no∧x.no < (T.length:Int))
section
variable{K:PySem.W.Frag}
variable{X:Cx}{σ:L2.St}{H0 H:Hp}{e:En}
end
section
variable{X:Cx}{a b:Expr}{ta:TA}{p p2 pos pos2:Pos}
end
section
variable{X:Cx}{K:PySem.W.Frag}{fs:FA}{a b:Expr}{p p2 pos pos2:Pos}
end
open PySem PySem.Spec PyProof.Rows PySem.W
structure Ir (lt:Nat→Nat→Bool):Prop where
  irr:∀i,lt i i=false
  tr:∀{i j k},lt i j=false→lt j k=false→lt i k=false
  asy:∀{i j},lt i j=true→lt j i=false
structure J0 (n:Nat) (p:Array Nat):Prop where
  sz:p.size=n
  pm:p.Perm (List.toArray (List.range n))
section
variable{lt:Nat→Nat→Bool}{n:Nat}(O:Ir lt)
include O
end
open PySem PySem.Spec PyProof.Rows PySem.W
section
variable{prog:Program}{w:World}{A:Around}{E:Value→Shared→Prop}{s:Shared}
end
open PySem PySem.Spec PyProof.Rows PySem.W
section
variable{X:Cx}{K:PySem.W.Frag}
end
section
variable{X:Cx}{K:PySem.W.Frag}
variable{o a:Expr}{es:List Expr}{fo:FE}{fs:FA}{apos cpos:Pos}
end
section
variable{X:Cx}{K:PySem.W.Frag}{σ σ2:L2.St}{H0 F H F2 H2 F3:Hp}{e e2:En}
end
section
variable{X:Cx}{K:PySem.W.Frag}{a b:Expr}{fa fb:FE}{pos p p1 p2 p3 pos':Pos}{x:Str}{i:Nat}
end
section
variable{X:Cx}{K:PySem.W.Frag}
end
section
variable{prog:Program}{w:World}{A:Around}{R:Result→Shared→Prop}
end
def Cz(l:Addr)(wi:TI)(g:TG)(tc:TT)(tk tv:TE)(σ:L2.St)(H:Hp)(N:L2.St→Hp→Prop):Prop:=
  wi σ H fun J H1=>∃W:Nat→Nat→L2.St→Hp→Prop,(∃m,W 0 m σ H1)∧∀i m σ' H',W i m σ' H'→
    (J.stop i H'∧N σ' H')∨(J.go i H'∧∃N2:L2.St→Hp→Prop,(∀σ2 H2,N2 σ2 H2→∃m',m' < m∧W (i+1) m' σ2 H2)∧
      ∀x H2,J.yld i H' x H2→g x σ' H2 fun σ2 H3=>tc σ2 H3 fun b H4=>if b=true then tk σ2 H4 fun y H5=>tv σ2 H5 fun v H6=>∃(kk:eP) (kvs:List (eP × V)),y=kV kk∧H6 l=some (.dK kvs)∧kvs.length < sizeLine∧N2 σ2 (a8 H6 l (.dK (lC kvs kk v))) else N2 σ2 H4)
structure Ii (cp:List (Nat × Str)) (nT:Nat) (wi:TI) (g:TG) (tc:TT) (wi2:TI) (g2:TG) (tc2:TT) (tk tv:TE) (σ:L2.St) (H:Hp) (Q:VK):Prop where
  go:wi σ H fun J H1=>∀l,H1 l=none→
  ∃W:Nat→Nat→L2.St→Hp→Prop,(∃m,W 0 m (et cp nT σ) (a8 H1 l (.dK [])))∧∀i m σ' H',W i m σ' H'→
    (J.stop i H'∧Q (.ref l) H')∨(J.go i H'∧∃N:L2.St→Hp→Prop,(∀σ2 H2,N σ2 H2→∃m',m' < m∧W (i+1) m' σ2 H2)∧
      ∀x H2,J.yld i H' x H2→g x σ' H2 fun σ2 H3=>tc σ2 H3 fun b H4=>if b=true then Cz l wi2 g2 tc2 tk tv σ2 H4 N else N σ2 H4)
def GD:PyData→Option mZ
  | .int k=>some (.vi k)
  | .bool b=>some (.vb b)
  | .none=>some .vn
  | _=>none
def A9(i:Nat):En→Option mZ:=fun e=>match e[i]? with
  | some (some (.d d))=>GD d
  | _=>none
def aK(p:Int × mZ):eP × V:=(Sum.inl p.1,p.2.toV)
def aD(p:Int × mZ):PyData × PyData:=(.int p.1,p.2.toD)
section
variable{K:PySem.W.Frag}{F H F' H':Hp}{σ σ':L2.St}{e e':En}{nT:Nat}
theorem a_.putO(R:a_ K F H σ e){l:Addr}{o:HO}(h1:F l=none)(h2:¬b_ σ e H l):a_ K F (a8 H l o) σ e∧∀a,b_ σ e (a8 H l o) a↔ b_ σ e H a:=
  R.keep (aw.refl F) (fun b o q=>by
    have z:b≠l:=fun z=>by rw [z,h1] at q;cases q
    rw [aF z];exact R.sm b o q) (fun a ⟨i,h⟩=>(R.fpAt h).1) fun a o ha q=>by
    have z:a≠l:=fun z=>h2 (z ▸ ha)
    rw [aF z];exact q
theorem zP{acc:List (Int × mZ)}{k:Int}{a:mZ}(h:(acc.any fun p=>p.1==k)=false):lC (acc.map aK) (Sum.inl k) a.toV=(acc++[(k,a)]).map aK:=by
  have e:((acc.map aK).any fun kv=>decide (kv.1=(Sum.inl k:eP)))=false:=by
    rw [List.any_map,List.any_eq_false]
    intro p hp
    have:=List.any_eq_false.mp h p hp
    simp only [beq_iff_eq] at this
    simp only [Function.comp,aK,decide_eq_true_eq]
    exact fun z=>this (by simpa using z)
  unfold lC
  rw [e,if_neg (by simp),List.map_append]
  rfl
inductive CD (K:PySem.W.Frag) (W:List Nat) (σ0:L2.St) (F1 H1:Hp) (e0:En) (l:Addr) (P:Hp→En→List (Int × mZ)→Prop) (σ':L2.St) (H':Hp):Prop
  | mk {F':Hp} {ei:En} {acc:List (Int × mZ)} (R:a_ K F' H' σ' ei) (X:de W σ0 F1 H1 e0 σ' F' H' ei) (fl:F' l=none) (hl:H' l=some (.dK (acc.map aK))) (hc:P F' ei acc):CD K W σ0 F1 H1 e0 l P σ' H'
end
section
variable{X:Cx}{K:PySem.W.Frag}{pos:Pos}
def nW:En→Rv→Rv→Option Rv:=fun _ x y=>match x,y with
  | .d (.dict kvs),.d (.int k)=>(kvs.find? fun p=>match p.1 with | .int i=>i==k | _=>false).map fun p=>.d p.2
  | _,_=>none
theorem sr(k:Int):∀(m:List (Int × mZ)),(m.map fun p=>(PyData.int p.1,p.2.toD)).find? (fun p=>match p.1 with | .int i=>i==k | _=>false)=(m.find? fun p=>p.1==k).map fun p=>(PyData.int p.1,p.2.toD)
  | []=>rfl
  | p::r=>by
    rw [List.map_cons,List.find?_cons,List.find?_cons]
    dsimp only
    cases c:p.1==k with
    | true=>rfl
    | false=>exact sr k r
theorem su(k:Int):∀(m:List (Int × mZ)),mD (m.map fun p=>((Sum.inl p.1:eP),p.2.toV)) (Sum.inl k)=(m.find? fun p=>p.1==k).map fun p=>p.2.toV
  | []=>rfl
  | p::r=>by
    rw [List.map_cons,List.find?_cons]
    cases c:p.1==k with
    | true=>
      rw [jQ (by rw [beq_iff_eq] at c;rw [c])]
      rfl
    | false=>
      rw [jO (fun z=>by rw [beq_eq_false_iff_ne] at c;exact c (Sum.inl.inj z))]
      exact su k r
theorem DS{F:Hp}(a:mZ):DA K F a.toD a.toV:=by cases a<;>simp [mZ.toD,mZ.toV,DA]
theorem D2:fV K (fun x y H Q=>∃a v,x=.ref a∧oZ H a y (some v)∧Q v H) nW:=by
  intro σ H0 F H e x y z v u Q R A B hg q
  unfold nW at hg
  split at hg
  case h_2=>cases hg
  case h_1 kvs k=>
  obtain⟨p,hp,hg⟩:=Ma hg
  cases hg
  have A':DA K F (.dict kvs) v:=A
  simp only [DA] at A'
  obtain⟨a,m,rfl,hF,rfl⟩:=A'
  have B':u=.int k:=cg.mp (show DA K F (.int k) u from B)
  subst B'
  rw [sr] at hp
  obtain⟨pm,h1,rfl⟩:=Ma hp
  have hv:=su k m
  rw [h1] at hv
  have g:=oZ.k (k:=Sum.inl k) (R.sm _ _ hF)
  rw [hv] at g
  exact⟨a,pm.2.toV,rfl,g,q F H _ (ez.refl _ _ _ _) R (DS pm.2)⟩
theorem Fj{a b:Expr}{fa fb:FE}{k:Nat}(hr:cf k X.A)(ha:PE X a (fE K fa))(hb:PE X b (fE K fb))(hs:DN b):PE X (.Subscript a b pos) (fE K (au nW fa fb)):=(BV (by have:=hr.units;lia) ha hb hs).mono fun σ H Q h=>oU D2 h
end
section
variable{K:PySem.W.Frag}{F H F' H' F1 H1 F2 H2:Hp}{σ σ' σ1 σ2:L2.St}{e e' e1 e2:En}{i:Nat}{W W1 W2:List Nat}
theorem Fp.drop{j:Nat}{a:Addr}(h:Fp σ (e.set i none) H j a):Fp σ e H j a:=by
  by_cases z:j=i
  · subst z
    rcases h with ⟨xs,h,_⟩ | ⟨xss,_,_,h,_⟩
    · rw [List.getElem?_set] at h
      split at h
      · split at h<;>cases h
      · rename_i n;exact absurd rfl n
    · rw [List.getElem?_set] at h
      split at h
      · split at h<;>cases h
      · rename_i n;exact absurd rfl n
  · unfold Fp at h ⊢
    rw [List.getElem?_set_ne (Ne.symm z)] at h
    exact h
theorem og{j:Nat}{s:Sv}(h:(e.set i none)[j]?=some (some s)):e[j]?=some (some s):=by
  by_cases z:i=j
  · subst z
    rw [List.getElem?_set] at h
    rw [if_pos rfl] at h
    split at h<;>cases h
  · rwa [List.getElem?_set_ne z] at h
theorem b_.drop{a:Addr}(h:b_ σ (e.set i none) H a):b_ σ e H a:=let ⟨j,q⟩:=h;⟨j,q.drop⟩
theorem a_.drop(R:a_ K F H σ e)(i:Nat):a_ K F H σ (e.set i none):=⟨R.sm,by rw [List.length_set];exact R.len,fun j x h=>R.dat j x (og h),fun j xs h=>R.own j xs (og h),fun j xss h=>R.nst j xss (og h),fun j k a h1 h2=>R.fp j k a h1.drop h2.drop⟩
structure jg (K:PySem.W.Frag) (i:Nat) (F H:Hp) (σ:L2.St) (e:En):Prop where
  rel:a_ K F H σ (e.set i none)
  dct:∃(l:Addr) (m:List (Int × mZ)),e[i]?=some (some (.d (.dict (m.map aD))))∧σ[i]?=some (some (.ref l))∧F l=none∧H l=some (.dK (m.map aK))
structure g9 (i:Nat) (W:List Nat) (σ:L2.St) (F H:Hp) (e:En) (σ':L2.St) (F' H':Hp) (e':En):Prop where
  sf:aw F F'
  dom:∀a,H' a=none→H a=none
  fr:∀a vs,F a=none→H a=some (.lst vs)→¬b_ σ (e.set i none) H a→F' a=none
  lst:∀a vs,H a=some (.lst vs)→∃vs',H' a=some (.lst vs')
  tmp:∀a o,H a=some o→¬b_ σ (e.set i none) H a→σ[i]?≠some (some (.ref a))→H' a=some o
  own:∀a,b_ σ' (e'.set i none) H' a→b_ σ (e.set i none) H a∨H a=none
  wr:∀j,j∉W→σ'[j]?=σ[j]?
  dd:σ'[i]?=σ[i]?
  fd:∀a m,F a=none→H a=some (.dK m)→¬b_ σ (e.set i none) H a→σ[i]?≠some (some (.ref a))→F' a=none
theorem g9.refl(i:Nat):g9 i W σ F H e σ F H e:=⟨aw.refl _,fun _ h=>h,fun _ _ h _ _=>h,fun _ vs h=>⟨vs,h⟩,fun _ _ h _ _=>h,fun _ h=>.inl h,fun _ _=>rfl,rfl,fun _ _ h _ _ _=>h⟩
theorem g9.lst_ne(x:g9 i W σ F H e σ1 F1 H1 e1){a:Addr}(no:¬b_ σ (e.set i none) H a){o:HO}(h:H a=some o):¬b_ σ1 (e1.set i none) H1 a:=fun z=>(x.own a z).elim no fun z=>by rw [h] at z;cases z
theorem g9.trans(x:g9 i W σ F H e σ1 F1 H1 e1)(y:g9 i W σ1 F1 H1 e1 σ2 F2 H2 e2):g9 i W σ F H e σ2 F2 H2 e2:=
  ⟨x.sf.trans y.sf,fun a h=>x.dom a (y.dom a h),fun a vs h n no=>let ⟨vs',q⟩:=x.lst a vs n;y.fr a vs' (x.fr a vs h n no) q (x.lst_ne no n),fun a vs h=>let ⟨vs',q⟩:=x.lst a vs h;y.lst a vs' q,
    fun a o h n l=>y.tmp a o (x.tmp a o h n l) (x.lst_ne n h) (by rw [x.dd];exact l),fun a h=>(y.own a h).elim (x.own a) (fun z=>.inr (x.dom a z)),fun j h=>(y.wr j h).trans (x.wr j h),y.dd.trans x.dd,
    fun a m h n no l=>y.fd a m (x.fd a m h n no l) (x.tmp a _ n no l) (x.lst_ne no n) (by rw [x.dd];exact l)⟩
theorem g9.mono(x:g9 i W1 σ F H e σ' F' H' e')(h:∀j,j∈W1→j∈W):g9 i W σ F H e σ' F' H' e':=⟨x.sf,x.dom,x.fr,x.lst,x.tmp,x.own,fun j n=>x.wr j fun z=>n (h j z),x.dd,x.fd⟩
theorem de.toD(x:de W σ F H (e.set i none) σ' F' H' e1)(hi:i∉W)(o:Option Sv):g9 i W σ F H e σ' F' H' (e1.set i o):=
  ⟨x.sf,x.dom,x.fr,x.lst,fun a o h n _=>x.tmp a o h n,fun a h=>x.own a (by rw [List.set_set] at h;exact h.drop),x.wr,x.wr i hi,fun a m h n no _=>x.fd a m h n no⟩
theorem jg.next(R:jg K i F H σ e)(x:de W σ F H (e.set i none) σ' F' H' e1)(hi:i∉W)(R1:a_ K F' H' σ' e1):jg K i F' H' σ' (e1.set i (e[i]?).join):=by
  obtain⟨l,m,h1,h2,h3,h4⟩:=R.dct
  have no:¬b_ σ (e.set i none) H l:=R.rel.notOwn h4 (fun _ z=>nomatch z)
  have hs:σ'[i]?=some (some (.ref l)):=(x.wr i hi).trans h2
  have hlt:i < e1.length:=by rw [←R1.len];exact(Mb hs).1
  refine⟨by rw [List.set_set];exact R1.drop i,l,m,?_,hs,x.fd l _ h3 h4 no,x.tmp l _ h4 no⟩
  rw [List.getElem?_set_self hlt,h1]
  rfl
end
def jv(K:PySem.W.Frag)(i:Nat)(W:List Nat)(σ:L2.St)(F H:Hp)(e:En)(D:qk):Fl→Prop
  | .nx e'=>∀F' H' σ',g9 i W σ F H e σ' F' H' e'→jg K i F' H' σ' e'→D.nx σ' H'
  | .bk e'=>∀F' H' σ',g9 i W σ F H e σ' F' H' e'→jg K i F' H' σ' e'→D.bk σ' H'
  | .ct e'=>∀F' H' σ',g9 i W σ F H e σ' F' H' e'→jg K i F' H' σ' e'→D.ct σ' H'
  | .rt r e'=>∀F' H' σ' v,g9 i W σ F H e σ' F' H' e'→a_ K F' H' σ' (e'.set i none)→cH K σ' H F' H' (e'.set i none) r v→D.rt v H'
def sj(K:PySem.W.Frag)(i:Nat)(f:FS)(W:List Nat):TS:=fun D σ H=>∃F e fl,jg K i F H σ e∧f e=some fl∧jv K i W σ F H e D fl
theorem jv.later{K:PySem.W.Frag}{i:Nat}{W W1 W2:List Nat}{σ σ1:L2.St}{F H F1 H1:Hp}{e e1:En}{D:qk}{fl:Fl}(h:jv K i W σ F H e D fl)(x:g9 i W1 σ F H e σ1 F1 H1 e1)(h1:∀j,j∈W1→j∈W)(h2:∀j,j∈W2→j∈W):jv K i W2 σ1 F1 H1 e1 D fl:=by
  cases fl with
  | nx e'=>exact fun F' H' σ' y R=>h F' H' σ' ((x.mono h1).trans (y.mono h2)) R
  | bk e'=>exact fun F' H' σ' y R=>h F' H' σ' ((x.mono h1).trans (y.mono h2)) R
  | ct e'=>exact fun F' H' σ' y R=>h F' H' σ' ((x.mono h1).trans (y.mono h2)) R
  | rt r e'=>exact fun F' H' σ' v y R A=>h F' H' σ' v ((x.mono h1).trans (y.mono h2)) R (A.weak x.dom)
section
variable{X:Cx}{K:PySem.W.Frag}{i:Nat}{W W1 W2:List Nat}{st:Stmt}{eY:List Stmt}{f g:FS}{ft:FT}{pos:Pos}
def jM(i:Nat)(f:FS):FS:=fun e=>(f (e.set i none)).bind fun fl=>match fl with
  | .nx e1=>some (.nx (e1.set i (e[i]?).join))
  | _=>none
theorem oE(hi:i∉W)(h:PS X st (fS K f W)):PS X st (sj K i (jM i f) W):=h.mono fun D σ H h=>by
  obtain⟨F,e,fl,R,hf,q⟩:=h
  unfold jM at hf
  obtain⟨fl1,h1,hf⟩:=L' hf
  refine⟨F,_,fl1,R.rel,h1,?_⟩
  cases fl1 with
  | nx e1=>
    cases hf
    exact fun F' H' σ' x R'=>q F' H' σ' (x.toD hi _) (R.next x hi R')
  | _=>cases hf
theorem z0:jk X [] (sj K i dD []):=vV.mono fun D σ H h=>by
  obtain⟨F,e,fl,R,hf,q⟩:=h
  cases hf
  exact q F H σ (g9.refl i) R
theorem j7(h1:PS X st (sj K i f W1))(h2:jk X eY (sj K i g W2)):jk X (st::eY) (sj K i (aC f g) (W1++W2)):=(oC h1 h2).mono fun D σ H h=>by
  obtain⟨F,e,fl,R,hf,q⟩:=h
  unfold aC at hf
  obtain⟨fl1,h1,hf⟩:=L' hf
  have s1:∀j,j∈W1→j∈W1++W2:=fun j h=>List.mem_append.mpr (.inl h)
  have s2:∀j,j∈W2→j∈W1++W2:=fun j h=>List.mem_append.mpr (.inr h)
  refine⟨F,e,fl1,R,h1,?_⟩
  cases fl1 with
  | nx e1=>exact fun F' H' σ' x R'=>⟨F',e1,fl,R',hf,q.later x s1 s2⟩
  | bk e1=>cases hf;exact fun F' H' σ' x R'=>q F' H' σ' (x.mono s1) R'
  | ct e1=>cases hf;exact fun F' H' σ' x R'=>q F' H' σ' (x.mono s1) R'
  | rt r e1=>cases hf;exact fun F' H' σ' v x R' A=>q F' H' σ' v (x.mono s1) R' A
theorem lF(h1:PS X st (sj K i f W)):jk X [st] (sj K i f W):=vX h1
def Ie(K:PySem.W.Frag)(i:Nat)(f:FT):TT:=fun σ H Q=>∃F e b e',jg K i F H σ e∧f e=some (b,e')∧∀F' H',g9 i [] σ F H e σ F' H' e'→jg K i F' H' σ e'→Q b H'
def wk(i:Nat)(f:FT):FT:=fun e=>(f (e.set i none)).map fun p=>(p.1,p.2.set i (e[i]?).join)
theorem z9{c:Expr}(h:PT X c (fT K ft)):PT X c (Ie K i (wk i ft)):=h.mono fun σ H Q h=>by
  obtain⟨F,e,b,e',R,hf,q⟩:=h
  unfold wk at hf
  obtain⟨⟨b1,e1⟩,h1,hf⟩:=Ma hf
  cases hf
  exact⟨F,_,b1,e1,R.rel,h1,fun F' H' x R'=>q F' H' (x.s.toD (by simp) _) (R.next (W:=[]) x.s (by simp) R')⟩
theorem Fo{c:Expr}{bs cs:List Stmt}(hc:PT X c (Ie K i ft))(ha:jk X bs (sj K i f W1))(hb:jk X cs (sj K i g W2)):PS X (.If c bs cs pos) (sj K i (iC ft f g) (W1++W2)):=(Dq hc ha hb).mono fun D σ H h=>by
  obtain⟨F,e,fl,R,hf,q⟩:=h
  unfold iC at hf
  obtain⟨⟨x,e1⟩,h1,hf⟩:=L' hf
  refine⟨F,e,x,e1,R,h1,fun F1 H1 X1 R1=>?_⟩
  cases x with
  | true=>exact⟨F1,e1,fl,R1,hf,q.later (W1:=[]) X1 (fun j h=>by cases h) fun j h=>List.mem_append.mpr (.inl h)⟩
  | false=>exact⟨F1,e1,fl,R1,hf,q.later (W1:=[]) X1 (fun j h=>by cases h) fun j h=>List.mem_append.mpr (.inr h)⟩
theorem xt{n:Nat}{c:Expr}{body:List Stmt}(hp:PassesOwn (model X.prog X.w) X.A X.env X.xe)(hc:PT X c (Ie K i ft))(hb:jk X body (sj K i f W)):PS X (.While c body [] pos) (sj K i (fY n ft f) W):=(tD hp hc hb).mono fun D σ H h=>by
  refine⟨fun m σ H=>∃F e fl,jg K i F H σ e∧cG ft f m e=some fl∧jv K i W σ F H e D fl,⟨n,h⟩,?_⟩
  rintro m σ H ⟨F,e,fl,R,hf,q⟩
  cases m with
  | zero=>cases hf
  | succ m=>
    unfold cG at hf
    obtain⟨⟨x,e1⟩,h1,hf⟩:=L' hf
    refine⟨F,e,x,e1,R,h1,fun F1 H1 X1 R1=>?_⟩
    have sub:∀j,j∈([]:List Nat)→j∈W:=fun j h=>by cases h
    cases x with
    | false=>
      rw [if_neg (by simp)] at hf
      cases hf
      exact yV (q F1 H1 σ (X1.mono sub) R1)
    | true=>
      rw [if_pos rfl] at hf
      refine yX ?_
      obtain⟨fl1,h2,hf⟩:=L' hf
      have q1:jv K i W σ F1 H1 e1 D fl:=q.later (W1:=[]) X1 sub fun j h=>h
      refine⟨fun σ' H'=>∃F' e',jg K i F' H' σ' e'∧cG ft f m e'=some fl∧jv K i W σ' F' H' e' D fl,fun σ' H' ⟨F',e',r1,r2,r3⟩=>⟨m,Nat.lt_succ_self m,F',e',fl,r1,r2,r3⟩,F1,e1,fl1,R1,h2,?_⟩
      cases fl1 with
      | nx e2=>exact fun F2 H2 σ2 x R2=>⟨F2,e2,R2,hf,q1.later x (fun j h=>h) fun j h=>h⟩
      | ct e2=>exact fun F2 H2 σ2 x R2=>⟨F2,e2,R2,hf,q1.later x (fun j h=>h) fun j h=>h⟩
      | bk e2=>cases hf;exact fun F2 H2 σ2 x R2=>q1 F2 H2 σ2 x R2
      | rt r e2=>cases hf;exact fun F2 H2 σ2 v x R2 A=>q1 F2 H2 σ2 v x R2 A
def uF(k:Int)(p:PyData × PyData):Bool:=match p.1 with
  | .int j=>j==k
  | _=>false
theorem nJ(k:Int):∀(m:List (Int × mZ)),(m.map aD).any (uF k)=m.any fun p=>p.1==k
  | []=>rfl
  | p::r=>by rw [List.map_cons,List.any_cons,List.any_cons,nJ k r];rfl
theorem rY(k:Int):∀(m:List (Int × mZ)),(mD (m.map aK) (Sum.inl k)).isSome=m.any fun p=>p.1==k
  | []=>rfl
  | p::r=>by
    rw [List.map_cons,List.any_cons]
    cases c:p.1==k with
    | true=>
      rw [jQ (by rw [beq_iff_eq] at c;show Sum.inl p.1=Sum.inl k;rw [c])]
      rfl
    | false=>
      rw [jO (fun z=>by rw [beq_eq_false_iff_ne] at c;exact c (Sum.inl.inj z)),rY k r]
      rfl
theorem jg.int{F H:Hp}{σ:L2.St}{e:En}(R:jg K i F H σ e){j:Nat}(hj:j≠i){k:Int}(h:y_ j e=some k):σ[j]?=some (some (.int k)):=by
  unfold y_ at h
  split at h
  · rename_i heq
    cases h
    obtain⟨v,g1,g2⟩:=R.rel.dat j _ (by rw [List.getElem?_set_ne (Ne.symm hj)];exact heq)
    rw [g1,cg.mp g2]
  · cases h
theorem jg.atm{F H:Hp}{σ:L2.St}{e:En}(R:jg K i F H σ e){j:Nat}(hj:j≠i){a:mZ}(h:A9 j e=some a):σ[j]?=some (some a.toV):=by
  unfold A9 at h
  split at h
  · rename_i d heq
    obtain⟨v,g1,g2⟩:=R.rel.dat j _ (by rw [List.getElem?_set_ne (Ne.symm hj)];exact heq)
    rw [g1]
    cases d with
    | int n=>cases h;rw [cg.mp g2];rfl
    | bool n=>cases h;rw [cX.mp g2];rfl
    | none=>cases h;rw [gh.mp g2];rfl
    | _=>cases h
  · cases h
def mw(i ik iv:Nat):FS:=fun e=>match e[i]? with
  | some (some (.d (.dict kvs)))=>(y_ ik e).bind fun k=>(A9 iv e).bind fun a=>if kvs.length < 1000000∧kvs.any (uF k)=false then some (.nx (e.set i (some (.d (.dict (kvs++[(.int k,a.toD)])))))) else none
  | _=>none
theorem Ci{ik iv k:Nat}{x xk xv:Str}{p pk pv pos':Pos}(hr:cf k X.A)(h1:ik≠i)(h2:iv≠i)(ho:PE X (.Name x p) (rM i))(hk:PE X (.Name xk pk) (rM ik))(hv:PE X (.Name xv pv) (rM iv))(hs:swapsWith (.Name xv pv) (some (.Subscript (.Name x p) (.Name xk pk) pos')) pos.line X.env=pure false):
    PS X (.Assign [.Subscript (.Name x p) (.Name xk pk) pos'] (.Name xv pv) pos) (sj K i (mw i ik iv) []):=(B6 (by have:=hr.units;lia) ho hk hv hs).mono fun D σ H h=>by
  obtain⟨F,e,fl,R,hf,q⟩:=h
  obtain⟨l,m,g1,g2,g3,g4⟩:=R.dct
  unfold mw at hf
  rw [g1] at hf
  dsimp only at hf
  obtain⟨kk,c1,hf⟩:=L' hf
  obtain⟨aa,c2,hf⟩:=L' hf
  split at hf
  case isFalse=>cases hf
  case isTrue hc=>
  cases hf
  have sl:sizeLine=16777216:=sizeLine_eq
  have hlen:(m.map aK).length < sizeLine:=by
    have:=hc.1
    rw [List.length_map] at this ⊢
    lia
  have dp:=xW.k (k:=Sum.inl kk) (v:=aa.toV) g4 hlen
  have hn:(m.any fun p=>p.1==kk)=false:=by rw [←nJ];exact hc.2
  rw [zP hn] at dp
  refine⟨_,R.atm h2 c2,_,g2,_,R.int h1 c1,l,_,rfl,dp,?_⟩
  have no:¬b_ σ (e.set i none) H l:=R.rel.notOwn g4 (fun _ z=>nomatch z)
  obtain⟨R2,o2⟩:=R.rel.putO (o:=.dK ((m++[(kk,aa)]).map aK)) g3 no
  have hlt:i < e.length:=(Mb g1).1
  refine q F _ σ ⟨aw.refl _,fun a z=>?_,fun _ _ z _ _=>z,fun a vs z=>?_,fun a o z _ nl=>?_,fun a z=>.inl ((o2 a).mp (by rw [List.set_set] at z;exact z)),fun _ _=>rfl,rfl,fun _ _ z _ _ _=>z⟩ ⟨by rw [List.set_set];exact R2,l,m++[(kk,aa)],?_,g2,g3,aA⟩
  · by_cases ea:a=l
    · rw [ea,aA] at z;cases z
    · rw [aF ea] at z;exact z
  · have ea:a≠l:=fun ea=>by rw [ea,g4] at z;cases z
    rw [aF ea];exact⟨vs,z⟩
  · have ea:a≠l:=fun ea=>nl (by rw [ea];exact g2)
    rw [aF ea];exact z
  · rw [List.getElem?_set_self hlt,List.map_append]
    rfl
def rL(i ik:Nat):FT:=fun e=>match e[i]? with
  | some (some (.d (.dict kvs)))=>(y_ ik e).map fun k=>(!(kvs.any (uF k)),e)
  | _=>none
theorem xu{ik k:Nat}{x xk:Str}{p pk:Pos}(hr:cf k X.A)(h1:ik≠i)(ho:PE X (.Name x p) (rM i))(hk:PE X (.Name xk pk) (rM ik))(hb:behindInMarks .NotIn (.Name x p)=false):PT X (.Compare (.Name xk pk) [.NotIn] [.Name x p] pos) (Ie K i (rL i ik)):=(E_ (xm (by have:=hr.units;lia) hk ho) hb).mono fun σ H Q h=>by
  obtain⟨F,e,b,e',R,hf,q⟩:=h
  obtain⟨l,m,g1,g2,g3,g4⟩:=R.dct
  unfold rL at hf
  rw [g1] at hf
  dsimp only at hf
  obtain⟨kk,c1,hf⟩:=Ma hf
  cases hf
  have dg:=oZ.k (k:=Sum.inl kk) g4
  refine⟨_,R.int h1 c1,_,g2,l,_,rfl,dg,_,rfl,?_⟩
  rw [rY,←nJ]
  exact q F H (g9.refl i) R
def pR(i:Nat)(fi:FI):FI:=fun e=>(fi (e.set i none)).bind fun p=>if p.2.1=[] then some (p.1,[],p.2.2.set i (e[i]?).join) else none
def nZ(i:Nat)(g:FG):FG:=fun x e=>(g x (e.set i none)).map fun e1=>e1.set i (e[i]?).join
inductive DG (K:PySem.W.Frag) (i:Nat) (F1:Hp) (P:En→Prop) (G:L2.St→Hp→Hp→En→Prop) (σ:L2.St) (H:Hp):Prop
  | mk {F:Hp} {e:En} (R:jg K i F H σ e) (sF:aw F1 F) (hf:P e) (q:G σ F H e):DG K i F1 P G σ H
theorem jg.back{F H:Hp}{σ:L2.St}{e:En}(R:jg K i F H σ e):(e.set i none).set i (e[i]?).join=e:=by
  obtain⟨l,m,g1,_⟩:=R.dct
  rw [List.set_set]
  refine List.ext_getElem? fun j=>?_
  by_cases z:i=j
  · subst z
    rw [List.getElem?_set_self (Mb g1).1,g1]
    rfl
  · rw [List.getElem?_set_ne z]
theorem Cg{tg iter:Expr}{body:List Stmt}{fi:FI}{gg:FG}(hp:PassesOwn (model X.prog X.w) X.A X.env X.xe)(hc:X.calm=true)(hi:PI X tg iter (fI K fi))(hg:PG X tg (fG K gg W1))(h1:i∉W1)(hb:jk X body (sj K i f W2))(hs:∀x,foldedSetIterable iter X.env x=pure x):
    PS X (.For tg iter body [] pos) (sj K i (dC (W1++W2) (pR i fi) (nZ i gg) f) (W1++W2)):=(zK hp hc hi hg hb hs).mono fun D σ0 H0 hh=>by
  obtain⟨F0,e0,fl,R0,hf,q0⟩:=hh
  unfold dC at hf
  obtain⟨⟨items,own,e1'⟩,hI,hf⟩:=L' hf
  unfold pR at hI
  obtain⟨⟨items',own',e1⟩,hI1,hI⟩:=L' hI
  dsimp only at hI
  split at hI
  case isFalse=>cases hI
  case isTrue ho=>
  subst ho
  cases hI
  dsimp only at hf
  rw [if_pos (show(([]:io).all fun q=> !(W1++W2).contains q.1)=true from rfl)] at hf
  refine⟨F0,_,items,[],e1,R0.rel,hI1,fun J F1 H1 X1 R1 kp ok=>?_⟩
  have s1:∀j,j∈W1→j∈W1++W2:=fun j h=>List.mem_append.mpr (.inl h)
  have s2:∀j,j∈W2→j∈W1++W2:=fun j h=>List.mem_append.mpr (.inr h)
  have s0:∀j,j∈([]:List Nat)→j∈W1++W2:=fun j h=>by cases h
  have R1D:=R0.next (W:=[]) X1.s (by simp) R1
  have q1:jv K i (W1++W2) σ0 F1 H1 (e1.set i (e0[i]?).join) D fl:=q0.later (W1:=[]) (X1.s.toD (by simp) _) s0 fun j h=>h
  refine⟨fun k m σ H=>m=items.length - k∧k≤items.length∧DG K i F1 (fun e=>fW [] (nZ i gg) f (items.drop k) e=some fl) (fun σ F H e=>jv K i (W1++W2) σ F H e D fl) σ H,
    ⟨items.length,by simp,Nat.zero_le _,.mk R1D (aw.refl _) hf q1⟩,?_⟩
  rintro k m σ H ⟨rfl,hk,⟨R,sF,hf,q⟩⟩
  rename_i F e
  obtain⟨go,stop,yld⟩:=ok F H sF R.rel.sm (fun p hp=>by cases hp)
  by_cases hlt:k < items.length
  · have hd:items.drop k=items[k]::items.drop (k+1):=List.drop_eq_getElem_cons hlt
    rw [hd] at hf
    unfold fW at hf
    obtain⟨e2,h2,hf⟩:=L' hf
    obtain⟨fl2,h3,hf⟩:=L' hf
    refine .inr ⟨go k hlt,DG K i F1 (fun e=>fW [] (nZ i gg) f (items.drop (k+1)) e=some fl) (fun σ F H e=>jv K i (W1++W2) σ F H e D fl),
      fun σ' H' r=>⟨items.length - (k+1),by lia,rfl,hlt,r⟩,fun x H' hy=>?_⟩
    obtain⟨F',sH,sF',sm',fz,hx⟩:=yld k items[k] x H' (List.getElem?_eq_getElem hlt) hy
    obtain⟨R',X'⟩:=R.rel.step sH sF' sm' fz
    have RD:=R.next (W:=[]) X'.s (by simp) R'
    have XD:g9 i [] σ F H e σ F' H' ((e.set i none).set i (e[i]?).join):=X'.s.toD (by simp) _
    rw [R.back] at RD XD
    unfold nZ at h2
    obtain⟨e2',h2',rfl⟩:=Ma h2
    refine⟨F',_,items[k],e2',R',hx,h2',fun σ2 x2 R2=>⟨F',_,fl2,RD.next x2 h1 R2,h3,?_⟩⟩
    have q2:jv K i (W1++W2) σ2 F' H' (e2'.set i (e[i]?).join) D fl:=(q.later (W1:=[]) (W2:=W1++W2) XD s0 fun j h=>h).later (x2.toD h1 _) s1 fun j h=>h
    cases fl2 with
    | nx e3=>
      intro F3 H3 σ3 x3 R3
      dsimp only at hf
      split at hf
      case isFalse=>cases hf
      case isTrue kp3=>
      exact .mk R3 (sF.trans (sF'.trans x3.sf)) hf (q2.later x3 s2 fun j h=>h)
    | ct e3=>
      intro F3 H3 σ3 x3 R3
      dsimp only at hf
      split at hf
      case isFalse=>cases hf
      case isTrue kp3=>
      exact .mk R3 (sF.trans (sF'.trans x3.sf)) hf (q2.later x3 s2 fun j h=>h)
    | bk e3=>
      cases hf
      exact fun F3 H3 σ3 x3 R3=>q2 F3 H3 σ3 (x3.mono s2) R3
    | rt r e3=>
      cases hf
      exact fun F3 H3 σ3 v x3 R3 A3=>q2 F3 H3 σ3 v (x3.mono s2) R3 A3
  · have hd:items.drop k=[]:=List.drop_eq_nil_of_le (by lia)
    rw [hd] at hf
    cases hf
    exact .inl ⟨stop k (by lia),q F H σ (g9.refl i) R⟩
def wb(i:Nat):FS:=fun e=>match e[i]? with
  | some (some (.d d))=>some (.rt (.d d) e)
  | _=>none
theorem Cj{x:Str}{p:Pos}(ho:PE X (.Name x p) (rM i)):PS X (.Return (some (.Name x p)) pos) (sj K i (wb i) []):=(zL ho).mono fun D σ H h=>by
  obtain⟨F,e,fl,R,hf,q⟩:=h
  obtain⟨l,m,g1,g2,g3,g4⟩:=R.dct
  unfold wb at hf
  rw [g1] at hf
  cases hf
  have no:¬b_ σ (e.set i none) H l:=R.rel.notOwn g4 (fun _ z=>nomatch z)
  obtain⟨R2,s2⟩:=R.rel.freeze g3 g4 no
  refine⟨_,g2,q _ H σ (.ref l) ⟨s2,fun _ z=>z,fun a vs z z2 _=>?_,fun _ vs z=>⟨vs,z⟩,fun _ _ z _ _=>z,fun _ z=>.inl z,fun _ _=>rfl,rfl,fun a m' z z2 _ nl=>?_⟩ R2 ?_⟩
  · have ea:a≠l:=fun ea=>by rw [ea,g4] at z2;cases z2
    rw [aF ea];exact z
  · have ea:a≠l:=fun ea=>nl (by rw [ea];exact g2)
    rw [aF ea];exact z
  · simp only [cH,DA]
    exact⟨l,m,rfl,aA,rfl⟩
theorem qI{H:Hp}{σ:L2.St}{e:En}{v:Option V}{j:Nat}{a:Addr}:Fp (σ.set i v) (e.set i none) H j a↔ Fp σ (e.set i none) H j a:=by
  by_cases z:i=j
  · subst z
    have no:∀s:Sv,(e.set i none)[i]?≠some (some s):=fun s h=>by
      rw [List.getElem?_set,if_pos rfl] at h
      split at h<;>cases h
    constructor
    · rintro(⟨xs,h,_⟩ | ⟨xss,_,_,h,_⟩)
      · exact absurd h (no _)
      · exact absurd h (no _)
    · rintro(⟨xs,h,_⟩ | ⟨xss,_,_,h,_⟩)
      · exact absurd h (no _)
      · exact absurd h (no _)
  · have e1:(σ.set i v)[j]?=σ[j]?:=List.getElem?_set_ne z
    unfold Fp
    rw [e1]
theorem a_.poke{F H:Hp}{σ:L2.St}{e:En}(R:a_ K F H σ (e.set i none))(v:Option V):a_ K F H (σ.set i v) (e.set i none):=by
  have ne:∀(j:Nat) (s:Sv),(e.set i none)[j]?=some (some s)→i≠j:=fun j s h z=>by
    subst z
    rw [List.getElem?_set,if_pos rfl] at h
    split at h<;>cases h
  refine⟨R.sm,by rw [List.length_set];exact R.len,fun j x h=>?_,fun j xs h=>?_,fun j xss h=>?_,fun j k a h1 h2=>R.fp j k a (qI.mp h1) (qI.mp h2)⟩
  · rw [List.getElem?_set_ne (ne j _ h)];exact R.dat j x h
  · rw [List.getElem?_set_ne (ne j _ h)];exact R.own j xs h
  · rw [List.getElem?_set_ne (ne j _ h)];exact R.nst j xss h
def nD(i:Nat)(f:FS):FS:=fun e=>if i < e.length then(f (e.set i (some (.d (.dict []))))).bind fun fl=>match fl with
  | .rt r e'=>some (.rt r (e'.set i none))
  | _=>none else none
theorem uQ{x:Str}{p pos':Pos}(hN:X.N.Nodup)(hix:X.N[i]?=some x)(hx:DL X.env.scope x)(hs:swapsWith (.Dict [] [] p) (some (.Name x pos')) pos.line X.env=pure false)(hf':X.fn x=true∨X.env.scope.names.lookup x=some .local)(hr:jk X eY (sj K i f W)):
    jk X (.Assign [.Name x pos'] (.Dict [] [] p) pos::eY) (fS K (nD i f) (i::W)):=(oC (zN hN hix hx zy hs hf') hr).mono fun D σ H h=>by
  obtain⟨F,e,fl,R,hf,q⟩:=h
  unfold nD at hf
  split at hf
  case isFalse=>cases hf
  case isTrue hlt=>
  obtain⟨fl1,h1,hf⟩:=L' hf
  intro l hl
  have hFl:F l=none:=R.freeF hl
  have Rd:=R.drop i
  have nO:¬b_ σ (e.set i none) H l:=fun z=>Rd.ownH l z hl
  obtain⟨R1,o1⟩:=Rd.putO (o:=.dK []) hFl nO
  have R2:=R1.poke (some (.ref l))
  have hσ:(σ.set i (some (V.ref l)))[i]?=some (some (.ref l)):=List.getElem?_set_self (by rw [R.len];exact hlt)
  have ow:∀a,b_ (σ.set i (some (.ref l))) (e.set i none) (a8 H l (.dK [])) a→b_ σ e H a:=fun a ⟨j,z⟩=>((o1 a).mp ⟨j,qI.mp z⟩).drop
  refine⟨F,e.set i (some (.d (.dict []))),fl1,⟨by rw [List.set_set];exact R2,l,[],List.getElem?_set_self hlt,hσ,hFl,aA⟩,h1,?_⟩
  cases fl1 with
  | rt r e'=>
    cases hf
    intro F' H' σ' v x R' A
    have es:(e.set i (some (Sv.d (.dict [])))).set i none=e.set i none:=List.set_set ..
    have ne:∀a o,H a=some o→a≠l:=fun a o z ea=>by rw [ea,hl] at z;cases z
    have up:∀a o,H a=some o→(a8 H l (.dK [])) a=some o:=fun a o z=>by rw [aF (ne a o z)];exact z
    have nl:∀a o,H a=some o→(σ.set i (some (V.ref l)))[i]?≠some (some (.ref a)):=fun a o z w=>by
      rw [hσ] at w
      exact ne a o z (V.ref.inj (Option.some.inj (Option.some.inj w))).symm
    have dm:∀a,(a8 H l (.dK [])) a=none→H a=none:=fun a z=>by
      by_cases ea:a=l
      · rw [ea,aA] at z;cases z
      · rw [aF ea] at z;exact z
    refine q F' H' σ' v ⟨x.sf,fun a z=>dm a (x.dom a z),fun a vs z z2 no=>x.fr a vs z (up a _ z2) (fun w=>no (ow a (by rw [es] at w;exact w))),fun a vs z=>x.lst a vs (up a _ z),
      fun a o z no=>x.tmp a o (up a o z) (fun w=>no (ow a (by rw [es] at w;exact w))) (nl a o z),fun a z=>?_,fun j n=>?_,fun a m z z2 no=>x.fd a m z (up a _ z2) (fun w=>no (ow a (by rw [es] at w;exact w))) (nl a _ z2)⟩ R' (A.weak dm)
    · rcases x.own a z with w | w
      · exact .inl (ow a (by rw [es] at w;exact w))
      · exact .inr (dm a w)
    · have n2:j∉W∧j≠i:=⟨fun z=>n (List.mem_cons_of_mem _ z),fun z=>n (by rw [z];exact List.mem_cons_self)⟩
      rw [x.wr j n2.1,List.getElem?_set_ne (Ne.symm n2.2)]
  | _=>cases hf
end
end L2
namespace V63
open PySem PySem.Spec PyProof.Rows L2
variable{P:Program}{w:World}{K:W.Frag}{mg:Str→Option Value}{base:Heap}{f:Addr}{fd:FuncData}
local macro_rules|`(tactic|trivial)=>`(tactic|first|exact .inl rfl|exact .inr rfl|assumption)
local macro_rules|`(¬$n:num)=>`(@qw _ _ $n _ _ (by rfl) (by rfl) (by decide))
local macro_rules|`($a∘$b)=>`(@IT _ _ _ _ _ _ $a $b (by rfl))
def top(i:Nat):Stmt:=PySem.Challenge.pw_askedpairs_k63_sides_told.main.body.getD i (.Pass ⟨0,0,0,0⟩)
theorem C'{α:Type u}{β:Type v}{f:α→β}:List.map f []=[]:=rfl
theorem C_{α:Type u}{β:Type v}{f:α→β}{a:α}{l:List α}:List.map f (a::l)=f a::List.map f l:=rfl
theorem C6{α:Type u}{l:List α}:[]++l=l:=rfl
theorem C5{α:Type u}{a:α}{l m:List α}:(a::l)++m=a::(l++m):=rfl
theorem C8{α:Type u}{a:α}{l:List α}:(a::l)[0]?=some a:=rfl
theorem C9{α:Type u}{a:α}{l:List α}{i:Nat}:(a::l)[i+1]?=l[i]?:=rfl
theorem C7{α:Type u}{β:Type v}{a:α}{f:α→Option β}:Option.bind (some a) f=f a:=rfl
theorem Da{α:Type u}{β:Type v}{a:α}{f:α→β}:Option.map f (some a)=some (f a):=rfl
abbrev bH:Stmt:=top 1
abbrev cT:Stmt:=top 2
abbrev gW:Stmt:=top 3
abbrev gG:Stmt:=top 4
abbrev jb:Stmt:=top 5
abbrev fR:Stmt:=top 7
abbrev bj:Stmt:=top 8
abbrev fU:Stmt:=top 9
abbrev bQ:Stmt:=top 10
abbrev cF:Stmt:=top 13
abbrev eZ:Stmt:=top 14
abbrev dw:Stmt:=top 15
abbrev lI:Stmt:=top 17
abbrev lH:Stmt:=top 18
abbrev iz:Stmt:=top 19
abbrev tM:Stmt:=top 20
abbrev tO:Stmt:=top 21
abbrev oH:Stmt:=top 22
abbrev gS:Stmt:=top 23
abbrev i_:Stmt:=top 24
abbrev mx:Stmt:=top 25
abbrev tP:Stmt:=top 26
abbrev ef:Stmt:=top 27
abbrev j8:Stmt:=top 28
abbrev dr:Stmt:=top 29
abbrev d_:Stmt:=top 30
abbrev jL:Stmt:=top 31
abbrev gF:Stmt:=top 32
abbrev lJ:Stmt:=top 33
abbrev gU:Stmt:=top 34
abbrev oI:Stmt:=top 35
structure ka (mg:Str→Option Value):Prop where
  b_abs:mg "abs"=none
  b_len:mg "len"=none
  b_min:mg "min"=none
  b_max:mg "max"=none
  b_range:mg "range"=none
  b_repr:mg "repr"=none
  b_tuple:mg "tuple"=none
  b_int:mg "int"=none
  b_zip:mg "zip"=none
  b_isinstance:mg "isinstance"=none
  b_bool:mg "bool"=none
  b_set:mg "set"=none
  b_any:mg "any"=none
  b_all:mg "all"=none
  b_list:mg "list"=none
  b_str:mg "str"=none
noncomputable def dO:FI:=(gw (au eh (ae 0) (vC (.int 1))))
noncomputable def bI:FT:=(aB (au (pN false) (ae 0) (va (ae 1) iL (ie (vC (.int 2))))))
noncomputable def cA:FI:=(gw (va (ae 1) iL (ie (vC (.int 2)))))
noncomputable def bh:FT:=(aB (au (bK true) (ae 2) (ae 0)))
noncomputable def bJ:FE:=(ae 2)
noncomputable def iG:FS:=(bo (mC [(1,"thing")] 2 dO (ag 1) bI cA (ag 2) bh bJ))
noncomputable def ck:FM:=jG 2 0 [] iG
theorem ij:aH ["web","thing"] ["web","thing"] (am bH):=⟨rfl,rfl,rfl,by decide+kernel,rfl,by decide+kernel,by decide+kernel⟩
theorem ls(h:bg K mg "things_tied_to" bH f fd ["web","thing"])(T:ka mg):aN P w K mg base ce 1 f fd ["web","thing"] (cq K 2 ck):=by
  have nd:=ij.nd
  exact h.fn ij rfl rfl (fun cdv A outer s H E hr=>(@aj _ _ _ _ _ (@aE _ _ _ _ _ (@Cd _ _ _ _ _ _ _ _ _ _ _ _ _ _ _ _ _ _ _ _ (am bH) ["web","thing"] [(1,"thing")] ["tie","part"] rfl rfl rfl (@dq _ _ _ _ _ rfl (@bE _ _ _ _ _ _ _ rfl (¬0) af (fun _ _=>rfl)))
        (fun C s0 H0 fp=>(@aq _ _ _ 1 _ (show List.Nodup (["thing","tie","part"]:List Str) by decide+kernel) rfl (Or.inl rfl) (by trivial))) (fun C s0 H0 fp=>(@ii _ _ _ _ (@aL _ _ _ _ _ _ _ _ _ (@Ba _ _ _ rfl hr) (¬0) (@fy _ _ _ _ _ _ _ _ _ _ rfl (¬1) (@fB _ _) (@fD _ _ _ _ af)) (by with_unfolding_all rfl)))) (fun C s0 H0 fp=>(@dq _ _ _ _ _ rfl (@fy _ _ _ _ _ _ _ _ _ _ rfl (¬1) (@fB _ _) (@fD _ _ _ _ af)))) (fun C s0 H0 fp=>(@aq _ _ _ 2 _ (show List.Nodup (["thing","tie","part"]:List Str) by decide+kernel) rfl (Or.inl rfl) (by trivial))) (fun C s0 H0 fp=>(@ii _ _ _ _ (@aL _ _ _ _ _ _ _ _ _ (@r6 _ _ _ rfl hr) (¬2) (¬0) (aG _))))
        (fun C s0 H0 fp=>(¬2)) rfl (by decide+kernel) (by decide+kernel) (by decide+kernel) (by decide+kernel) (by decide+kernel) (by decide+kernel) (by decide+kernel) (by intro _ _ _ _ _;rfl) (by intro _;rfl)))))
noncomputable def bP:FI:=(gw (cV 2 ck (ab (ae 0) (ab (ae 4) ai))))
noncomputable def bu:FE:=(dy (ab (ae 1) (ab (ae 0) ai)))
noncomputable def cJ:FT:=(wk 1 (aB (au D6 (aO (g1 gM) (ab (ae 3) ai)) (vC (.int 0)))))
noncomputable def cI:FS:=(aC (jM 1 (uU (cn qZ (ae 3) ai) (dj (ao (ag 4) (ao (ag 5) cL)))))
    (iC (rL 1 4)
    (aC (mw 1 4 5)
    (jM 1 (eQ (AL (ae 3) (cx [(4,"thing")] 1 bP (ag 1) bO bu)))))
    dD))
noncomputable def dM:FI:=(bR (ab (au eh (ae 0) (vC (.int 0))) ai))
noncomputable def dJ:FS:=(aC (jM 1 (a7 3 (eO (ab (dy (ab (ae 2) (ab (vC .none) ai))) ai))))
    (fY (2 ^ 4200) cJ cI))
noncomputable def kb:FS:=(nD 1 (aC (dC ([2]++([3]++(([4]++([5]++[]))++(([]++[])++[])))) (pR 1 dM) (nZ 1 (ag 2)) dJ)
    (wb 1)))
noncomputable def dH:FM:=jG 1 5 (1::(([2]++([3]++(([4]++([5]++[]))++(([]++[])++[]))))++[])) kb
theorem jN:aH ["web","told","start","ends","thing","before"] ["web"] (am cT):=⟨rfl,rfl,rfl,by decide+kernel,rfl,by decide+kernel,by decide+kernel⟩
theorem oy(h:bg K mg "walked_from" cT f fd ["web"])(T:ka mg){Kw:Addr}{Kx:FuncData}(Ka:bg K mg "things_tied_to" bH Kw Kx ["web","thing"])(Kf:aN P w K mg base ce 1 Kw Kx ["web","thing"] (cq K 2 ck)):aN P w K mg base ce 2 f fd ["web"] (cq K 1 dH):=by
  have nd:=jN.nd
  exact h.fn jN rfl rfl (fun cdv A outer s H E hr=>(uQ (i:=1) nd rfl (Or.inl rfl) (by rfl) (by trivial)
      (j7 (Cg (i:=1) PassesOwn.never rfl (@bG _ _ _ _ _ _ _ rfl T.b_range ((@bE _ _ _ _ _ _ _ rfl (¬0) af (fun _ _=>rfl))∘ac) (by rfl)) (@aq _ _ _ 2 _ nd rfl (Or.inl rfl) (by trivial)) (by decide)
      (j7 (oE (i:=1) (by decide) (@av _ _ _ _ _ 3 _ _ nd rfl (Or.inl rfl) (@bL _ _ _ _ _ ((@ba _ _ _ _ _ _ ((¬2)∘((@rE _ _ _ _)∘ac)))∘ac)) (by rfl) (by trivial)))
      (lF (xt (i:=1) (n:=2 ^ 4200) PassesOwn.never (z9 (i:=1) (@aL _ _ _ _ _ _ _ _ _ (@DU _ _) (@aV _ _ _ _ _ _ _ _ _ (@b_len _ _ rfl) (by rfl) T.b_len ((¬3)∘ac) (by decide) (by decide) (by rfl) (by rfl)) af (aG _)))
      (j7 (oE (i:=1) (by decide) (@zY _ _ _ _ _ _ _ _ (@Ds _ _ _ _ _ _ rfl (¬3) (by rfl) (by rfl)) (@kL _ _ _ _ _ _ _ _ rfl rfl (@aZ _ _ _ _ _ _ _ _ (@aq _ _ _ 4 _ nd rfl (Or.inr rfl) (by trivial)) (@aZ _ _ _ _ _ _ _ _ (@aq _ _ _ 5 _ nd rfl (Or.inl rfl) (by trivial)) (@i9 _ _) (by rfl)) (by rfl)) (bf (bf ko)) (by rfl) (by rfl)) (by rfl) (by rfl) (by rfl)))
      (lF (Fo (i:=1) (xu (i:=1) hr (by decide) (@jJ _ 1 _ _ (by rfl) (by first | exact Or.inl rfl | exact Or.inr (Or.inl rfl) | exact Or.inr (Or.inr rfl)) (by decide) (by decide)) (@jJ _ 4 _ _ (by rfl) (by first | exact Or.inl rfl | exact Or.inr (Or.inl rfl) | exact Or.inr (Or.inr rfl)) (by decide) (by decide)) rfl)
      (j7 (Ci (i:=1) hr (by decide) (by decide) (@jJ _ 1 _ _ (by rfl) (by first | exact Or.inl rfl | exact Or.inr (Or.inl rfl) | exact Or.inr (Or.inr rfl)) (by decide) (by decide)) (@jJ _ 4 _ _ (by rfl) (by first | exact Or.inl rfl | exact Or.inr (Or.inl rfl) | exact Or.inr (Or.inr rfl)) (by decide) (by decide)) (@jJ _ 5 _ _ (by rfl) (by first | exact Or.inl rfl | exact Or.inr (Or.inl rfl) | exact Or.inr (Or.inr rfl)) (by decide) (by decide)) (by rfl))
      (lF (oE (i:=1) (by decide) (@c9 _ _ _ _ _ (@zR _ _ _ _ _ _ _ _ rfl (¬3) (@eW _ _ _ _ _ _ _ _ _ _ _ _ _ (am cT) ["web","told","start","ends","thing","before"] [(4,"thing")] ["part"] rfl rfl rfl (@dq _ _ _ _ _ rfl (@aW _ _ _ _ _ _ _ _ _ _ _ _ _ _ _ Ka Kf (hr.mono (by decide)) ((¬0)∘((¬4)∘ac)) (by rfl) (by decide) (by rfl) (by rfl)))
        (fun C s0 H0 fp=>(@aq _ _ _ 1 _ (show List.Nodup (["thing","part"]:List Str) by decide+kernel) rfl (Or.inl rfl) (by trivial))) (fun C s0 H0 fp=>(@gA _ _))
        (fun C s0 H0 fp=>(@ba _ _ _ _ _ _ ((¬1)∘((¬0)∘ac)))) rfl (by decide+kernel) (by decide+kernel) (by decide+kernel) (by decide+kernel) (by decide+kernel) (by decide+kernel) (by decide+kernel) (by intro _;rfl)) (by rfl) (by rfl) (by rfl) (by rfl) (by rfl) (by rfl)) (by rfl)))))
      z0)))))) (by intro _;rfl))
      (lF (Cj (i:=1) (@jJ _ 1 _ _ (by rfl) (by first | exact Or.inl rfl | exact Or.inr (Or.inl rfl) | exact Or.inr (Or.inr rfl)) (by decide) (by decide)))))))
noncomputable def cz:FT:=(aB (au jx (ae 1) (vC .none)))
noncomputable def eG:FS:=(aC (eQ (cn bM (ae 2) (ab (ae 1) ai)))
    (a7 1 (au nW (ae 0) (ae 1))))
noncomputable def nP:FS:=(aC (a7 2 (eO ai))
    (aC (fY (2 ^ 4200) cz eG)
    (bo (ae 2))))
noncomputable def gR:FM:=jG 2 1 ([2]++(([]++[1])++[])) nP
theorem mV:aH ["before","thing","way"] ["before","thing"] (am gW):=⟨rfl,rfl,rfl,by decide+kernel,rfl,by decide+kernel,by decide+kernel⟩
theorem tf(h:bg K mg "way_back" gW f fd ["before","thing"])(T:ka mg):aN P w K mg base ce 1 f fd ["before","thing"] (cq K 2 gR):=by
  have nd:=mV.nd
  exact h.fn mV rfl rfl (fun cdv A outer s H E hr=>(@ah _ _ _ _ _ _ _ _ (@av _ _ _ _ _ 2 _ _ nd rfl (Or.inl rfl) (@bL _ _ _ _ _ ac) (by rfl) (by trivial))
      (@ah _ _ _ _ _ _ _ _ (@lE _ _ _ _ _ _ _ _ _ PassesOwn.never (@aL _ _ _ _ _ _ _ _ _ (@qr _ _) (¬1) (@rE _ _ _ _) (aG _))
      (@ah _ _ _ _ _ _ _ _ (@c9 _ _ _ _ _ (@cm _ _ _ _ _ _ _ _ _ rfl (¬2) ((¬1)∘ac) (by rfl) (by rfl) (by rfl) (by rfl) (by rfl)) (by rfl))
      (@aj _ _ _ _ _ (@av _ _ _ _ _ 1 _ _ nd rfl (Or.inl rfl) (@Fj _ _ _ _ _ _ _ _ hr (¬0) (¬1) (fun _ _=>rfl)) (by rfl) (by trivial)))))
      (@aj _ _ _ _ _ (@aE _ _ _ _ _ (¬2))))))
noncomputable def mP:FI:=(gw (ae 0))
noncomputable def fK:FT:=(aB (au (pN false) (ae 1) (ae 0)))
noncomputable def ia:FE:=(ae 1)
noncomputable def pB:FS:=(aC (a7 2 (au eh (cx [(1,"other")] 1 mP (ag 1) fK ia) (vC (.int 0))))
    (bo (aO (g1 eL) (ab (au bN (va (ae 0) iL (ie (au bN (AZ true gX (ae 0) (ae 2)) (vC (.int 1))))) (HV (va (ae 1) iL (ie (AZ true gX (ae 1) (ae 2)))) (oW yF (vC (.int 1))))) ai))))
noncomputable def iJ:FM:=jG 2 1 ([2]++[]) pB
theorem oM:aH ["way","other","meeting"] ["way","other"] (am gG):=⟨rfl,rfl,rfl,by decide+kernel,rfl,by decide+kernel,by decide+kernel⟩
theorem uL(h:bg K mg "ring_of" gG f fd ["way","other"])(T:ka mg):aN P w K mg base ce 1 f fd ["way","other"] (cq K 2 iJ):=by
  have nd:=oM.nd
  exact h.fn oM rfl rfl (fun cdv A outer s H E hr=>(@ah _ _ _ _ _ _ _ _ (@av _ _ _ _ _ 2 _ _ nd rfl (Or.inl rfl) (@bE _ _ _ _ _ _ _ rfl (@eW _ _ _ _ _ _ _ _ _ _ _ _ _ (am gG) ["way","other","meeting"] [(1,"other")] ["thing"] rfl rfl rfl (@dq _ _ _ _ _ rfl (¬0))
        (fun C s0 H0 fp=>(@aq _ _ _ 1 _ (show List.Nodup (["other","thing"]:List Str) by decide+kernel) rfl (Or.inl rfl) (by trivial))) (fun C s0 H0 fp=>(@ii _ _ _ _ (@aL _ _ _ _ _ _ _ _ _ (@Ba _ _ _ rfl hr) (¬1) (¬0) (by with_unfolding_all rfl))))
        (fun C s0 H0 fp=>(¬1)) rfl (by decide+kernel) (by decide+kernel) (by decide+kernel) (by decide+kernel) (by decide+kernel) (by decide+kernel) (by decide+kernel) (by intro _;rfl)) af (fun _ _=>rfl)) (by rfl) (by trivial))
      (@aj _ _ _ _ _ (@aE _ _ _ _ _ (@aV _ _ _ _ _ _ _ _ _ (@b_tuple _ _ rfl) (by rfl) T.b_tuple ((@bA _ _ _ _ _ _ _ rfl (@fy _ _ _ _ _ _ _ _ _ _ rfl (¬0) (@fB _ _) (@fD _ _ _ _ (@bA _ _ _ _ _ _ _ rfl (@zS _ _ _ _ _ _ _ _ rfl (¬0) (¬2) (by rfl) (by rfl) (by rfl) (by rfl) (by rfl)) af))) (@IS _ _ _ _ _ _ _ _ rfl (@fy _ _ _ _ _ _ _ _ _ _ rfl (¬1) (@fB _ _) (@fD _ _ _ _ (@zS _ _ _ _ _ _ _ _ rfl (¬1) (¬2) (by rfl) (by rfl) (by rfl) (by rfl) (by rfl)))) (@Dr _ _ _ _ _ af)))∘ac) (by decide) (by decide) (by rfl) (by rfl))))))
noncomputable def pS:FI:=(gw (au eh (ae 0) (vC (.int 1))))
noncomputable def iF:FS:=(iC (aB (au (bK false) (au eh (ae 3) (ae 4)) (au eh (ae 3) (ae 5))))
    (bo (dy (ab (vC (.str ("ring":Str))) (ab (cV 2 iJ (ab (au eh (ae 2) (ae 4)) (ab (au eh (ae 2) (ae 5)) ai))) ai))))
    dD)
noncomputable def pT:FI:=(gw (ae 2))
noncomputable def iI:FE:=(au aQ (aO (g1 gM) (ab (ae 0) ai)) (vC (.int 2)))
noncomputable def me:FI:=(bR (ab (au eh (ae 0) (vC (.int 0))) ai))
noncomputable def jV:FE:=(cV 2 gR (ab (ae 0) (ab (ae 1) ai)))
noncomputable def qq:FS:=(aC (a7 1 (cV 1 dH (ab (ae 0) ai)))
    (aC (a7 2 (cx [(1,"before")] 1 me (ag 1) bO jV))
    (aC (a7 3 (aO (g1 eL) (ab (cx [] 1 pT (ag 0) bO iI) ai)))
    (aC (dC (([4]++([5]++([6]++([7]++[]))))++([]++[])) pS (dj (ao (ag 4) (ao (ag 5) (ao (ag 6) (ao (ag 7) cL))))) iF)
    (bo (dy (ab (vC (.str ("sides":Str))) (ab (ae 3) ai))))))))
noncomputable def ic:FM:=jG 1 7 ([1]++([2]++([3]++((([4]++([5]++([6]++([7]++[]))))++([]++[]))++[])))) qq
theorem tV:aH ["web","before","ways","row","one","other","chance","worth"] ["web"] (am jb):=⟨rfl,rfl,rfl,by decide+kernel,rfl,by decide+kernel,by decide+kernel⟩
theorem zu(h:bg K mg "sides" jb f fd ["web"])(T:ka mg){KQ:Addr}{KR:FuncData}(Kg:bg K mg "walked_from" cT KQ KR ["web"])(Kq:aN P w K mg base ce 2 KQ KR ["web"] (cq K 1 dH)){Ll:Addr}{Lm:FuncData}(KH:bg K mg "way_back" gW Ll Lm ["before","thing"])(KW:aN P w K mg base ce 1 Ll Lm ["before","thing"] (cq K 2 gR)){Lw:Addr}{Lx:FuncData}(KS:bg K mg "ring_of" gG Lw Lx ["way","other"])(K8:aN P w K mg base ce 1 Lw Lx ["way","other"] (cq K 2 iJ)):aN P w K mg base ce 3 f fd ["web"] (cq K 1 ic):=by
  have nd:=tV.nd
  exact h.fn tV rfl rfl (fun cdv A outer s H E hr=>(@ah _ _ _ _ _ _ _ _ (@av _ _ _ _ _ 1 _ _ nd rfl (Or.inr rfl) (@aW _ _ _ _ _ _ _ _ _ _ _ _ _ _ _ Kg Kq (hr.mono (by decide)) ((¬0)∘ac) (by rfl) (by decide) (by rfl) (by rfl)) (by rfl) (by trivial))
      (@ah _ _ _ _ _ _ _ _ (@p4 _ _ _ (2) _ _ _ _ _ _ _ _ _ _ _ _ _ (am jb) ["web","before","ways","row","one","other","chance","worth"] [(1,"before")] ["thing"] rfl rfl rfl (@bG _ _ _ _ _ _ _ rfl T.b_range ((@bE _ _ _ _ _ _ _ rfl (¬0) af (fun _ _=>rfl))∘ac) (by rfl))
        (fun C s0 H0 fp=>(@aq _ _ _ 1 _ (show List.Nodup (["before","thing"]:List Str) by decide+kernel) rfl (Or.inl rfl) (by trivial))) (fun C s0 H0 fp=>(@gA _ _))
        (fun C s0 H0 fp=>(@aW _ _ _ _ _ _ _ _ _ _ _ _ _ _ _ KH KW (hr.mono (by decide)) ((¬0)∘((¬1)∘ac)) (by rfl) (by decide) (by rfl) (by rfl))) rfl (by decide+kernel) (by decide+kernel) (by decide+kernel) (by decide+kernel) (by decide+kernel) (by decide+kernel) (by decide+kernel) nd rfl rfl (by rfl) (by intro _;rfl))
      (@ah _ _ _ _ _ _ _ _ (@av _ _ _ _ _ 3 _ _ nd rfl (Or.inl rfl) (@aV _ _ _ _ _ _ _ _ _ (@b_tuple _ _ rfl) (by rfl) T.b_tuple ((@eW _ _ _ _ _ _ _ _ _ _ _ _ _ (am jb) ["web","before","ways","row","one","other","chance","worth"] [] ["way"] rfl rfl rfl (@dq _ _ _ _ _ rfl (¬2))
        (fun C s0 H0 fp=>(@aq _ _ _ 0 _ (show List.Nodup (["way"]:List Str) by decide+kernel) rfl (Or.inl rfl) (by trivial))) (fun C s0 H0 fp=>(@gA _ _))
        (fun C s0 H0 fp=>(@aT _ _ _ _ _ _ _ (@aV _ _ _ _ _ _ _ _ _ (@b_len _ _ rfl) (by rfl) T.b_len ((¬0)∘ac) (by decide) (by decide) (by rfl) (by rfl)) af)) rfl (by decide+kernel) (by decide+kernel) (by decide+kernel) (by decide+kernel) (by decide+kernel) (by decide+kernel) (by decide+kernel) (by intro _;rfl))∘ac) (by decide) (by decide) (by rfl) (by rfl)) (by rfl) (by trivial))
      (@ah _ _ _ _ _ _ _ _ (@eX _ _ _ _ _ _ _ _ _ _ _ PassesOwn.never rfl (@dq _ _ _ _ _ rfl (@bE _ _ _ _ _ _ _ rfl (¬0) af (fun _ _=>rfl))) (@kL _ _ _ _ _ _ _ _ rfl rfl (@aZ _ _ _ _ _ _ _ _ (@aq _ _ _ 4 _ nd rfl (Or.inl rfl) (by trivial)) (@aZ _ _ _ _ _ _ _ _ (@aq _ _ _ 5 _ nd rfl (Or.inl rfl) (by trivial)) (@aZ _ _ _ _ _ _ _ _ (@aq _ _ _ 6 _ nd rfl (Or.inl rfl) (by trivial)) (@aZ _ _ _ _ _ _ _ _ (@aq _ _ _ 7 _ nd rfl (Or.inl rfl) (by trivial)) (@i9 _ _) (by rfl)) (by rfl)) (by rfl)) (by rfl)) (bf (bf (bf (bf ko)))) (by rfl) (by rfl))
      (@aj _ _ _ _ _ (@bU _ _ _ _ _ _ _ _ _ _ _ (@aL _ _ _ _ _ _ _ _ _ (@jh _ _ _ rfl hr) (@bE _ _ _ _ _ _ _ rfl (¬3) (¬4) (fun _ _=>rfl)) (@bE _ _ _ _ _ _ _ rfl (¬3) (¬5) (fun _ _=>rfl)) (aG _))
      (@aj _ _ _ _ _ (@aE _ _ _ _ _ (@ba _ _ _ _ _ _ ((@oD _ _ _ _ _)∘((@aW _ _ _ _ _ _ _ _ _ _ _ _ _ _ _ KS K8 (hr.mono (by decide)) ((@bE _ _ _ _ _ _ _ rfl (¬2) (¬4) (fun _ _=>rfl))∘((@bE _ _ _ _ _ _ _ rfl (¬2) (¬5) (fun _ _=>rfl))∘ac)) (by rfl) (by decide) (by rfl) (by rfl))∘ac)))))
      (@aX _ _))) (by intro _;rfl))
      (@aj _ _ _ _ _ (@aE _ _ _ _ _ (@ba _ _ _ _ _ _ ((@oD _ _ _ _ _)∘((¬3)∘ac))))))))))
noncomputable def mH:FS:=(bo (mX (oW (gL "int") (ae 0)) (uh (oW (gL "bool") (ae 0)))))
noncomputable def fP:FM:=jG 1 0 [] mH
theorem lM:aH ["thing"] ["thing"] (am fR):=⟨rfl,rfl,rfl,by decide+kernel,rfl,by decide+kernel,by decide+kernel⟩
theorem rl(h:bg K mg "is_number" fR f fd ["thing"])(T:ka mg):aN P w K mg base ce 1 f fd ["thing"] (cq K 1 fP):=by
  have nd:=lM.nd
  exact h.fn lM rfl rfl (fun cdv A outer s H E hr=>(@aj _ _ _ _ _ (@aE _ _ _ _ _ (@rD _ _ _ _ _ _ _ _ (@je _ _ _ _ _ _ _ _ "int" rfl (by decide) rfl T.b_isinstance rfl T.b_int PyProof.Rows.boot_int (by decide) (by decide) (¬0) (by rfl) (by rfl)) (@rF _ _ _ _ _ _ (@Fn _ _ _ _ _ (@je _ _ _ _ _ _ _ _ "bool" rfl (by decide) rfl T.b_isinstance rfl T.b_bool PyProof.Rows.boot_bool (by decide) (by decide) (¬0) (by rfl) (by rfl))))))))
noncomputable def cy:FS:=(bo (mX (cV 1 fP (ab (ae 0) ai)) (ff Gj Gj (ae 1) (ae 0) (ae 2))))
noncomputable def aR:FM:=jG 3 0 [] cy
theorem fZ:aH ["thing","low","high"] ["thing","low","high"] (am bj):=⟨rfl,rfl,rfl,by decide+kernel,rfl,by decide+kernel,by decide+kernel⟩
theorem j'(h:bg K mg "is_number_within" bj f fd ["thing","low","high"])(T:ka mg){K9:Addr}{K_:FuncData}(Kr:bg K mg "is_number" fR K9 K_ ["thing"])(KL:aN P w K mg base ce 1 K9 K_ ["thing"] (cq K 1 fP)):aN P w K mg base ce 2 f fd ["thing","low","high"] (cq K 3 aR):=by
  have nd:=fZ.nd
  exact h.fn fZ rfl rfl (fun cdv A outer s H E hr=>(@aj _ _ _ _ _ (@aE _ _ _ _ _ (@rD _ _ _ _ _ _ _ _ (@aW _ _ _ _ _ _ _ _ _ _ _ _ _ _ _ Kr KL (hr.mono (by decide)) ((¬0)∘ac) (by rfl) (by decide) (by rfl) (by rfl)) (@rF _ _ _ _ _ _ (@Cc _ _ _ _ _ _ _ _ _ _ _ _ _ (@DV _ _) (@DV _ _) (¬1) (¬0) (¬2) (by with_unfolding_all rfl)))))))
noncomputable def jp:FS:=(bo (mX (oW (gL "tuple") (ae 0)) (au (bK false) (aO (g1 gM) (ab (ae 0) ai)) (ae 1))))
noncomputable def dZ:FM:=jG 2 0 [] jp
theorem lN:aH ["thing","many"] ["thing","many"] (am fU):=⟨rfl,rfl,rfl,by decide+kernel,rfl,by decide+kernel,by decide+kernel⟩
theorem rm(h:bg K mg "is_row_of" fU f fd ["thing","many"])(T:ka mg):aN P w K mg base ce 1 f fd ["thing","many"] (cq K 2 dZ):=by
  have nd:=lN.nd
  exact h.fn lN rfl rfl (fun cdv A outer s H E hr=>(@aj _ _ _ _ _ (@aE _ _ _ _ _ (@rD _ _ _ _ _ _ _ _ (@je _ _ _ _ _ _ _ _ "tuple" rfl (by decide) rfl T.b_isinstance rfl T.b_tuple PyProof.Rows.boot_tuple (by decide) (by decide) (¬0) (by rfl) (by rfl)) (@rF _ _ _ _ _ _ (@lD _ _ _ _ _ _ _ _ _ (@jh _ _ _ rfl hr) (@aV _ _ _ _ _ _ _ _ _ (@b_len _ _ rfl) (by rfl) T.b_len ((¬0)∘ac) (by decide) (by decide) (by rfl) (by rfl)) (¬1) (aG _)))))))
noncomputable def ib:FI:=(gw (ae 0))
noncomputable def cY:FE:=(cV 3 aR (ab (ae 1) (ab (vC (.int 0)) (ab (au eT (ae 0) (vC (.int 1))) ai))))
noncomputable def dI:FS:=(aC (iC (oY (iS (aB (oW (gL "tuple") (ae 0)))) (iS (aB (aO (g1 (gN mL)) (ab (cx [(1,"many")] 1 ib (ag 1) bO cY) ai)))))
    (bo (vC (.bool false)))
    dD)
    (bo (au (bK false) (oW jZ (ae 0)) (aO (g1 gM) (ab (ae 0) ai)))))
noncomputable def bv:FM:=jG 2 0 (([]++[])++[]) dI
theorem iM:aH ["thing","many"] ["thing","many"] (am bQ):=⟨rfl,rfl,rfl,by decide+kernel,rfl,by decide+kernel,by decide+kernel⟩
theorem mi(h:bg K mg "is_unlike_row" bQ f fd ["thing","many"])(T:ka mg){J_:Addr}{J':FuncData}(J7:bg K mg "is_number_within" bj J_ J' ["thing","low","high"])(J9:aN P w K mg base ce 2 J_ J' ["thing","low","high"] (cq K 3 aR)):aN P w K mg base ce 3 f fd ["thing","many"] (cq K 2 bv):=by
  have nd:=iM.nd
  exact h.fn iM rfl rfl (fun cdv A outer s H E hr=>(@ah _ _ _ _ _ _ _ _ (@bU _ _ _ _ _ _ _ _ _ _ _ (@oF _ _ _ _ (@fQ _ _ _ _ _ _ _ _ (@dP _ _ _ _ _ (@dB _ _ _ _ (@je _ _ _ _ _ _ _ _ "tuple" rfl (by decide) rfl T.b_isinstance rfl T.b_tuple PyProof.Rows.boot_tuple (by decide) (by decide) (¬0) (by rfl) (by rfl)) (by intro _;rfl))) (@iy _ _ _ _ _ (@dP _ _ _ _ _ (@dB _ _ _ _ (@aV _ _ _ _ _ _ _ _ _ (@b_all _ _ _ rfl hr) (by rfl) T.b_all ((@eW _ _ _ _ _ _ _ _ _ _ _ _ _ (am bQ) ["thing","many"] [(1,"many")] ["part"] rfl rfl rfl (@dq _ _ _ _ _ rfl (¬0))
        (fun C s0 H0 fp=>(@aq _ _ _ 1 _ (show List.Nodup (["many","part"]:List Str) by decide+kernel) rfl (Or.inl rfl) (by trivial))) (fun C s0 H0 fp=>(@gA _ _))
        (fun C s0 H0 fp=>(@aW _ _ _ _ _ _ _ _ _ _ _ _ _ _ _ J7 J9 (hr.mono (by decide)) ((¬1)∘(af∘((@kf _ _ _ _ _ _ _ (¬0) af)∘ac))) (by rfl) (by decide) (by rfl) (by rfl))) rfl (by decide+kernel) (by decide+kernel) (by decide+kernel) (by decide+kernel) (by decide+kernel) (by decide+kernel) (by decide+kernel) (by intro _;rfl))∘ac) (by decide) (by decide) (by rfl) (by rfl)) (by intro _;rfl))))))
      (@aj _ _ _ _ _ (@aE _ _ _ _ _ (@ig _ _ _ _ _)))
      (@aX _ _))
      (@aj _ _ _ _ _ (@aE _ _ _ _ _ (@lD _ _ _ _ _ _ _ _ _ (@jh _ _ _ rfl hr) (@zT _ _ _ _ _ _ _ _ rfl rfl rfl T.b_len rfl T.b_set (¬0) (by rfl) (by rfl) (by rfl) (by rfl)) (@aV _ _ _ _ _ _ _ _ _ (@b_len _ _ rfl) (by rfl) T.b_len ((¬0)∘ac) (by decide) (by decide) (by rfl) (by rfl)) (aG _))))))
noncomputable def gP:FI:=(gw (au eh (ae 0) (vC (.int 1))))
noncomputable def eJ:FE:=(au (bK true) (au eh (ae 0) (ae 1)) (au eh (ae 0) (ae 2)))
noncomputable def jD:FI:=(gw (ae 1))
noncomputable def eK:FE:=(cV 3 aR (ab (ae 0) (ab (vC (.int 0)) (ab (vC (.int 1)) ai))))
noncomputable def gf:FS:=(aC (iC (oY (iS (aB (cV 2 dZ (ab (ae 1) (ab (au eh (ae 0) (vC (.int 0))) ai))))) (iS (aB (aO (g1 (gN mL)) (ab (cx [] 1 jD (ag 0) bO eK) ai)))))
    (bo (vC (.bool false)))
    dD)
    (bo (aO (g1 (gN mL)) (ab (cx [(1,"thing")] 4 gP (dj (ao (ag 1) (ao (ag 2) (ao (ag 3) (ao (ag 4) cL))))) bO eJ) ai))))
noncomputable def cD:FM:=jG 2 0 (([]++[])++[]) gf
theorem kh:aH ["web","thing"] ["web","thing"] (am cF):=⟨rfl,rfl,rfl,by decide+kernel,rfl,by decide+kernel,by decide+kernel⟩
theorem pj(h:bg K mg "sides_hold" cF f fd ["web","thing"])(T:ka mg){K':Addr}{La:FuncData}(Ks:bg K mg "is_row_of" fU K' La ["thing","many"])(KM:aN P w K mg base ce 1 K' La ["thing","many"] (cq K 2 dZ)){J_:Addr}{J':FuncData}(J7:bg K mg "is_number_within" bj J_ J' ["thing","low","high"])(J9:aN P w K mg base ce 2 J_ J' ["thing","low","high"] (cq K 3 aR)):aN P w K mg base ce 3 f fd ["web","thing"] (cq K 2 cD):=by
  have nd:=kh.nd
  exact h.fn kh rfl rfl (fun cdv A outer s H E hr=>(@ah _ _ _ _ _ _ _ _ (@bU _ _ _ _ _ _ _ _ _ _ _ (@oF _ _ _ _ (@fQ _ _ _ _ _ _ _ _ (@dP _ _ _ _ _ (@dB _ _ _ _ (@aW _ _ _ _ _ _ _ _ _ _ _ _ _ _ _ Ks KM (hr.mono (by decide)) ((¬1)∘((@bE _ _ _ _ _ _ _ rfl (¬0) af (fun _ _=>rfl))∘ac)) (by rfl) (by decide) (by rfl) (by rfl)) (by intro _;rfl))) (@iy _ _ _ _ _ (@dP _ _ _ _ _ (@dB _ _ _ _ (@aV _ _ _ _ _ _ _ _ _ (@b_all _ _ _ rfl hr) (by rfl) T.b_all ((@eW _ _ _ _ _ _ _ _ _ _ _ _ _ (am cF) ["web","thing"] [] ["side"] rfl rfl rfl (@dq _ _ _ _ _ rfl (¬1))
        (fun C s0 H0 fp=>(@aq _ _ _ 0 _ (show List.Nodup (["side"]:List Str) by decide+kernel) rfl (Or.inl rfl) (by trivial))) (fun C s0 H0 fp=>(@gA _ _))
        (fun C s0 H0 fp=>(@aW _ _ _ _ _ _ _ _ _ _ _ _ _ _ _ J7 J9 (hr.mono (by decide)) ((¬0)∘(af∘(af∘ac))) (by rfl) (by decide) (by rfl) (by rfl))) rfl (by decide+kernel) (by decide+kernel) (by decide+kernel) (by decide+kernel) (by decide+kernel) (by decide+kernel) (by decide+kernel) (by intro _;rfl))∘ac) (by decide) (by decide) (by rfl) (by rfl)) (by intro _;rfl))))))
      (@aj _ _ _ _ _ (@aE _ _ _ _ _ (@ig _ _ _ _ _)))
      (@aX _ _))
      (@aj _ _ _ _ _ (@aE _ _ _ _ _ (@aV _ _ _ _ _ _ _ _ _ (@b_all _ _ _ rfl hr) (by rfl) T.b_all ((@eW _ _ _ _ _ _ _ _ _ _ _ _ _ (am cF) ["web","thing"] [(1,"thing")] ["one","other","chance","worth"] rfl rfl rfl (@dq _ _ _ _ _ rfl (@bE _ _ _ _ _ _ _ rfl (¬0) af (fun _ _=>rfl)))
        (fun C s0 H0 fp=>(@kL _ _ _ _ _ _ _ _ rfl rfl (@aZ _ _ _ _ _ _ _ _ (@aq _ _ _ 1 _ (show List.Nodup (["thing","one","other","chance","worth"]:List Str) by decide+kernel) rfl (Or.inl rfl) (by trivial)) (@aZ _ _ _ _ _ _ _ _ (@aq _ _ _ 2 _ (show List.Nodup (["thing","one","other","chance","worth"]:List Str) by decide+kernel) rfl (Or.inl rfl) (by trivial)) (@aZ _ _ _ _ _ _ _ _ (@aq _ _ _ 3 _ (show List.Nodup (["thing","one","other","chance","worth"]:List Str) by decide+kernel) rfl (Or.inl rfl) (by trivial)) (@aZ _ _ _ _ _ _ _ _ (@aq _ _ _ 4 _ (show List.Nodup (["thing","one","other","chance","worth"]:List Str) by decide+kernel) rfl (Or.inl rfl) (by trivial)) (@i9 _ _) (by rfl)) (by rfl)) (by rfl)) (by rfl)) (bf (bf (bf (bf ko)))) (by rfl) (by rfl))) (fun C s0 H0 fp=>(@gA _ _))
        (fun C s0 H0 fp=>(@lD _ _ _ _ _ _ _ _ _ (@r6 _ _ _ rfl hr) (@bE _ _ _ _ _ _ _ rfl (¬0) (¬1) (fun _ _=>rfl)) (@bE _ _ _ _ _ _ _ rfl (¬0) (¬2) (fun _ _=>rfl)) (aG _))) rfl (by decide+kernel) (by decide+kernel) (by decide+kernel) (by decide+kernel) (by decide+kernel) (by decide+kernel) (by decide+kernel) (by intro _;rfl))∘ac) (by decide) (by decide) (by rfl) (by rfl))))))
noncomputable def lg:FI:=(gw (au eh (ae 0) (vC (.int 1))))
noncomputable def gj:FE:=(mX (au (pN false) (ae 0) (va (ae 2) iL (ie (vC (.int 2))))) (au (pN false) (ae 1) (va (ae 2) iL (ie (vC (.int 2))))))
noncomputable def nM:FS:=(bo (aO (g1 (gN sA)) (ab (cx [(1,"one"),(2,"other")] 1 lg (ag 2) bO gj) ai)))
noncomputable def gQ:FM:=jG 3 0 [] nM
theorem mU:aH ["web","one","other"] ["web","one","other"] (am eZ):=⟨rfl,rfl,rfl,by decide+kernel,rfl,by decide+kernel,by decide+kernel⟩
theorem s_(h:bg K mg "are_tied" eZ f fd ["web","one","other"])(T:ka mg):aN P w K mg base ce 1 f fd ["web","one","other"] (cq K 3 gQ):=by
  have nd:=mU.nd
  exact h.fn mU rfl rfl (fun cdv A outer s H E hr=>(@aj _ _ _ _ _ (@aE _ _ _ _ _ (@aV _ _ _ _ _ _ _ _ _ (@b_any _ _ _ rfl hr) (by rfl) T.b_any ((@eW _ _ _ _ _ _ _ _ _ _ _ _ _ (am eZ) ["web","one","other"] [(1,"one"),(2,"other")] ["tie"] rfl rfl rfl (@dq _ _ _ _ _ rfl (@bE _ _ _ _ _ _ _ rfl (¬0) af (fun _ _=>rfl)))
        (fun C s0 H0 fp=>(@aq _ _ _ 2 _ (show List.Nodup (["one","other","tie"]:List Str) by decide+kernel) rfl (Or.inl rfl) (by trivial))) (fun C s0 H0 fp=>(@gA _ _))
        (fun C s0 H0 fp=>(@rD _ _ _ _ _ _ _ _ (@lD _ _ _ _ _ _ _ _ _ (@Ba _ _ _ rfl hr) (¬0) (@fy _ _ _ _ _ _ _ _ _ _ rfl (¬2) (@fB _ _) (@fD _ _ _ _ af)) (by with_unfolding_all rfl)) (@rF _ _ _ _ _ _ (@lD _ _ _ _ _ _ _ _ _ (@Ba _ _ _ rfl hr) (¬1) (@fy _ _ _ _ _ _ _ _ _ _ rfl (¬2) (@fB _ _) (@fD _ _ _ _ af)) (by with_unfolding_all rfl))))) rfl (by decide+kernel) (by decide+kernel) (by decide+kernel) (by decide+kernel) (by decide+kernel) (by decide+kernel) (by decide+kernel) (by intro _;rfl))∘ac) (by decide) (by decide) (by rfl) (by rfl)))))
noncomputable def eM:FI:=(vM (ab (ae 1) (ab (au bN (va (ae 1) (ie (vC (.int 1))) iL) (va (ae 1) iL (ie (vC (.int 1))))) ai)))
noncomputable def di:FE:=(cV 3 gQ (ab (ae 0) (ab (ae 1) (ab (ae 2) ai))))
noncomputable def eF:FS:=(aC (iC (oY (iS (aB (cV 2 bv (ab (ae 1) (ab (au eh (ae 0) (vC (.int 0))) ai))))) (oY (aB (au yD (aO (g1 gM) (ab (ae 1) ai)) (vC (.int (3))))) (aB (au (bK false) (au aQ (aO (g1 gM) (ab (ae 1) ai)) (vC (.int 2))) (vC (.int 0))))))
    (bo (vC (.bool false)))
    dD)
    (bo (aO (g1 (gN mL)) (ab (cx [(0,"web")] 2 eM (dj (ao (ag 1) (ao (ag 2) cL))) bO di) ai))))
noncomputable def bS:FM:=jG 2 0 (([]++[])++[]) eF
theorem kg:aH ["web","thing"] ["web","thing"] (am dw):=⟨rfl,rfl,rfl,by decide+kernel,rfl,by decide+kernel,by decide+kernel⟩
theorem ph(h:bg K mg "ring_holds" dw f fd ["web","thing"])(T:ka mg){Ky:Addr}{Kz:FuncData}(Kb:bg K mg "is_unlike_row" bQ Ky Kz ["thing","many"])(Ki:aN P w K mg base ce 3 Ky Kz ["thing","many"] (cq K 2 bv)){Ln:Addr}{Lo:FuncData}(KI:bg K mg "are_tied" eZ Ln Lo ["web","one","other"])(KY:aN P w K mg base ce 1 Ln Lo ["web","one","other"] (cq K 3 gQ)){t_LEAST_OF_RING:Tok}(m_LEAST_OF_RING:mg "LEAST_OF_RING"=some (.int (3) t_LEAST_OF_RING)):aN P w K mg base ce 4 f fd ["web","thing"] (cq K 2 bS):=by
  have nd:=kg.nd
  exact h.fn kg rfl rfl (fun cdv A outer s H E hr=>(@ah _ _ _ _ _ _ _ _ (@bU _ _ _ _ _ _ _ _ _ _ _ (@oF _ _ _ _ (@fQ _ _ _ _ _ _ _ _ (@dP _ _ _ _ _ (@dB _ _ _ _ (@aW _ _ _ _ _ _ _ _ _ _ _ _ _ _ _ Kb Ki (hr.mono (by decide)) ((¬1)∘((@bE _ _ _ _ _ _ _ rfl (¬0) af (fun _ _=>rfl))∘ac)) (by rfl) (by decide) (by rfl) (by rfl)) (by intro _;rfl))) (@fQ _ _ _ _ _ _ _ _ (@aL _ _ _ _ _ _ _ _ _ (@ut _ _) (@aV _ _ _ _ _ _ _ _ _ (@b_len _ _ rfl) (by rfl) T.b_len ((¬1)∘ac) (by decide) (by decide) (by rfl) (by rfl)) (@Ce _ _ _ (V.int (3)) _ _ (PyData.int (3)) rfl m_LEAST_OF_RING ⟨_,rfl⟩ (fun _=>cg.mpr rfl) (by decide)) (aG _)) (@iy _ _ _ _ _ (@aL _ _ _ _ _ _ _ _ _ (@jh _ _ _ rfl hr) (@aT _ _ _ _ _ _ _ (@aV _ _ _ _ _ _ _ _ _ (@b_len _ _ rfl) (by rfl) T.b_len ((¬1)∘ac) (by decide) (by decide) (by rfl) (by rfl)) af) af (aG _))))))
      (@aj _ _ _ _ _ (@aE _ _ _ _ _ (@ig _ _ _ _ _)))
      (@aX _ _))
      (@aj _ _ _ _ _ (@aE _ _ _ _ _ (@aV _ _ _ _ _ _ _ _ _ (@b_all _ _ _ rfl hr) (by rfl) T.b_all ((@eW _ _ _ _ _ _ _ _ _ _ _ _ _ (am dw) ["web","thing"] [(0,"web")] ["one","other"] rfl rfl rfl (@Cf _ _ _ _ _ _ _ _ _ _ rfl rfl T.b_zip ((¬1)∘((@bA _ _ _ _ _ _ _ rfl (@fy _ _ _ _ _ _ _ _ _ _ rfl (¬1) (@fD _ _ _ _ af) (@fB _ _)) (@fy _ _ _ _ _ _ _ _ _ _ rfl (¬1) (@fB _ _) (@fD _ _ _ _ af)))∘ac)) (by rfl) (by rfl))
        (fun C s0 H0 fp=>(@kL _ _ _ _ _ _ _ _ rfl rfl (@aZ _ _ _ _ _ _ _ _ (@aq _ _ _ 1 _ (show List.Nodup (["web","one","other"]:List Str) by decide+kernel) rfl (Or.inl rfl) (by trivial)) (@aZ _ _ _ _ _ _ _ _ (@aq _ _ _ 2 _ (show List.Nodup (["web","one","other"]:List Str) by decide+kernel) rfl (Or.inl rfl) (by trivial)) (@i9 _ _) (by rfl)) (by rfl)) (bf (bf ko)) (by rfl) (by rfl))) (fun C s0 H0 fp=>(@gA _ _))
        (fun C s0 H0 fp=>(@aW _ _ _ _ _ _ _ _ _ _ _ _ _ _ _ KI KY (hr.mono (by decide)) ((¬0)∘((¬1)∘((¬2)∘ac))) (by rfl) (by decide) (by rfl) (by rfl))) rfl (by decide+kernel) (by decide+kernel) (by decide+kernel) (by decide+kernel) (by decide+kernel) (by decide+kernel) (by decide+kernel) (by intro _;rfl))∘ac) (by decide) (by decide) (by rfl) (by rfl))))))
noncomputable def vp:FS:=(aC (a7 2 (au aQ (au bN (au bN (au jy (au aQ (ae 0) (vC (.int 2147483647))) (vC (.int 48271))) (au jy (au jy (vC (.int 7919)) (ae 1)) (ae 1))) (vC (.int 104729))) (vC (.int 2147483647))))
    (bo (au aQ (au jy (ae 2) (ae 2)) (vC (.int 2147483629)))))
noncomputable def j3:FM:=jG 2 1 ([2]++[]) vp
theorem tS:aH ["_law_cell","_law_k","_law_number"] ["_law_cell","_law_k"] (am lI):=⟨rfl,rfl,rfl,by decide+kernel,rfl,by decide+kernel,by decide+kernel⟩
theorem zq(h:bg K mg "_law_mixed" lI f fd ["_law_cell","_law_k"])(T:ka mg):aN P w K mg base ce 1 f fd ["_law_cell","_law_k"] (cq K 2 j3):=by
  have nd:=tS.nd
  exact h.fn tS rfl rfl (fun cdv A outer s H E hr=>(@ah _ _ _ _ _ _ _ _ (@av _ _ _ _ _ 2 _ _ nd rfl (Or.inl rfl) (@aT _ _ _ _ _ _ _ (@bA _ _ _ _ _ _ _ rfl (@bA _ _ _ _ _ _ _ rfl (@mS _ _ _ _ _ _ _ rfl (@aT _ _ _ _ _ _ _ (¬0) af) af) (@mS _ _ _ _ _ _ _ rfl (@mS _ _ _ _ _ _ _ rfl af (¬1)) (¬1))) af) af) (by rfl) (by trivial))
      (@aj _ _ _ _ _ (@aE _ _ _ _ _ (@aT _ _ _ _ _ _ _ (@mS _ _ _ _ _ _ _ rfl (¬2) (¬2)) af)))))
noncomputable def gD:FT:=(xM (aB (au GM (ae 3) (au uC (vC (.int 10)) (vC (.int 18))))) (aB (au yD (aO (g1 gM) (ab (ae 1) ai)) (vC (.int 900)))))
noncomputable def jR:FS:=(aC (eQ (cn bM (ae 1) (ab (au aQ (ae 3) (vC (.int 2147483629))) ai)))
    (a7 3 (au fM (ae 3) (vC (.int 2147483629)))))
noncomputable def j2:FI:=(bR (ab (vC (.int 12)) ai))
noncomputable def iD:FS:=(eQ (cn bM (ae 1) (ab (cV 2 j3 (ab (cV 2 j3 (ab (ae 3) (ab (au bN (au jy (vC (.int 3)) (ae 4)) (vC (.int 1))) ai))) (ab (au bN (au bN (ae 4) (ae 2)) (vC (.int 2))) ai))) ai)))
noncomputable def l9:FI:=(bR (ab (aO (g2 qL) (ab (aO (g1 gM) (ab (ae 0) ai)) (ab (vC (.int 63)) ai))) ai))
noncomputable def gB:FS:=(aC (a7 3 (aO (g1 wO) (ab (au eh (ae 0) (ae 2)) ai)))
    (aC (iC (aB (au yD (ae 3) (au uC (vC (.int 10)) (vC (.int 18)))))
    (dC ([4]++[]) j2 (ag 4) iD)
    dD)
    (aC (fY (2 ^ 4200) gD jR)
    (iC (aB (au GM (ae 3) (vC (.int 2147483629))))
    (eQ (cn bM (ae 1) (ab (au aQ (ae 3) (vC (.int 2147483629))) ai)))
    dD))))
noncomputable def vm:FS:=(aC (a7 1 (eO ai))
    (aC (dC ([2]++([3]++((([4]++[])++[])++(([]++[3])++([]++[]))))) l9 (ag 2) gB)
    (bo (ae 1))))
noncomputable def lj:FM:=jG 1 4 ([1]++(([2]++([3]++((([4]++[])++[])++(([]++[3])++([]++[])))))++[])) vm
theorem tQ:aH ["_law_script","_law_drawn","_law_k","_law_cell","_law_j"] ["_law_script"] (am lH):=⟨rfl,rfl,rfl,by decide+kernel,rfl,by decide+kernel,by decide+kernel⟩
theorem zi(h:bg K mg "_law_draws" lH f fd ["_law_script"])(T:ka mg){LK:Addr}{LM:FuncData}(Lb:bg K mg "_law_mixed" lI LK LM ["_law_cell","_law_k"])(Lr:aN P w K mg base ce 1 LK LM ["_law_cell","_law_k"] (cq K 2 j3)):aN P w K mg base ce 2 f fd ["_law_script"] (cq K 1 lj):=by
  have nd:=tQ.nd
  exact h.fn tQ rfl rfl (fun cdv A outer s H E hr=>(@ah _ _ _ _ _ _ _ _ (@av _ _ _ _ _ 1 _ _ nd rfl (Or.inl rfl) (@bL _ _ _ _ _ ac) (by rfl) (by trivial))
      (@ah _ _ _ _ _ _ _ _ (@eX _ _ _ _ _ _ _ _ _ _ _ PassesOwn.never rfl (@bG _ _ _ _ _ _ _ rfl T.b_range ((@aV _ _ _ _ _ _ _ _ _ (@b_min _ _ rfl) (by rfl) T.b_min ((@aV _ _ _ _ _ _ _ _ _ (@b_len _ _ rfl) (by rfl) T.b_len ((¬0)∘ac) (by decide) (by decide) (by rfl) (by rfl))∘(af∘ac)) (by decide) (by decide) (by rfl) (by rfl))∘ac) (by rfl)) (@aq _ _ _ 2 _ nd rfl (Or.inl rfl) (by trivial))
      (@ah _ _ _ _ _ _ _ _ (@av _ _ _ _ _ 3 _ _ nd rfl (Or.inl rfl) (@aV _ _ _ _ _ _ _ _ _ (@b_abs _ _) (by rfl) T.b_abs ((@bE _ _ _ _ _ _ _ rfl (¬0) (¬2) (fun _ _=>rfl))∘ac) (by decide) (by decide) (by rfl) (by rfl)) (by rfl) (by trivial))
      (@ah _ _ _ _ _ _ _ _ (@bU _ _ _ _ _ _ _ _ _ _ _ (@aL _ _ _ _ _ _ _ _ _ (@ut _ _) (¬3) (@Dt _ _ _ _ _ _ _ af af) (aG _))
      (@aj _ _ _ _ _ (@eX _ _ _ _ _ _ _ _ _ _ _ PassesOwn.never rfl (@bG _ _ _ _ _ _ _ rfl T.b_range (af∘ac) (by rfl)) (@aq _ _ _ 4 _ nd rfl (Or.inl rfl) (by trivial))
      (@aj _ _ _ _ _ (@c9 _ _ _ _ _ (@cm _ _ _ _ _ _ _ _ _ rfl (¬1) ((@aW _ _ _ _ _ _ _ _ _ _ _ _ _ _ _ Lb Lr (hr.mono (by decide)) ((@aW _ _ _ _ _ _ _ _ _ _ _ _ _ _ _ Lb Lr (hr.mono (by decide)) ((¬3)∘((@bA _ _ _ _ _ _ _ rfl (@mS _ _ _ _ _ _ _ rfl af (¬4)) af)∘ac)) (by rfl) (by decide) (by rfl) (by rfl))∘((@bA _ _ _ _ _ _ _ rfl (@bA _ _ _ _ _ _ _ rfl (¬4) (¬2)) af)∘ac)) (by rfl) (by decide) (by rfl) (by rfl))∘ac) (by rfl) (by rfl) (by rfl) (by rfl) (by rfl)) (by rfl))) (by intro _;rfl)))
      (@aX _ _))
      (@ah _ _ _ _ _ _ _ _ (@lE _ _ _ _ _ _ _ _ _ PassesOwn.never (@oF _ _ _ _ (@Ft _ _ _ _ _ _ _ _ (@aL _ _ _ _ _ _ _ _ _ (@GH _ _) (¬3) (@Dt _ _ _ _ _ _ _ af af) (aG _)) (@Ck _ _ _ _ _ (@aL _ _ _ _ _ _ _ _ _ (@ut _ _) (@aV _ _ _ _ _ _ _ _ _ (@b_len _ _ rfl) (by rfl) T.b_len ((¬1)∘ac) (by decide) (by decide) (by rfl) (by rfl)) af (aG _)))))
      (@ah _ _ _ _ _ _ _ _ (@c9 _ _ _ _ _ (@cm _ _ _ _ _ _ _ _ _ rfl (¬1) ((@aT _ _ _ _ _ _ _ (¬3) af)∘ac) (by rfl) (by rfl) (by rfl) (by rfl) (by rfl)) (by rfl))
      (@aj _ _ _ _ _ (@av _ _ _ _ _ 3 _ _ nd rfl (Or.inl rfl) (@iw _ _ _ _ _ _ _ (¬3) af) (by rfl) (by trivial)))))
      (@aj _ _ _ _ _ (@bU _ _ _ _ _ _ _ _ _ _ _ (@aL _ _ _ _ _ _ _ _ _ (@GH _ _) (¬3) af (aG _))
      (@aj _ _ _ _ _ (@c9 _ _ _ _ _ (@cm _ _ _ _ _ _ _ _ _ rfl (¬1) ((@aT _ _ _ _ _ _ _ (¬3) af)∘ac) (by rfl) (by rfl) (by rfl) (by rfl) (by rfl)) (by rfl)))
      (@aX _ _)))))) (by intro _;rfl))
      (@aj _ _ _ _ _ (@aE _ _ _ _ _ (¬1))))))
noncomputable def uq:FS:=(aC (iC (aB (au (bK false) (ae 0) (eO ai)))
    (bo (vC (.int 0)))
    dD)
    (bo (cn ky (ae 0) (ab (vC (.int 0)) ai))))
noncomputable def aP:FM:=jG 1 0 (([]++[])++[]) uq
theorem wc:aH ["_law_drawn"] ["_law_drawn"] (am iz):=⟨rfl,rfl,rfl,by decide+kernel,rfl,by decide+kernel,by decide+kernel⟩
theorem BE(h:bg K mg "_law_next" iz f fd ["_law_drawn"])(T:ka mg):aN P w K mg base ce 1 f fd ["_law_drawn"] (cq K 1 aP):=by
  have nd:=wc.nd
  exact h.fn wc rfl rfl (fun cdv A outer s H E hr=>(@ah _ _ _ _ _ _ _ _ (@bU _ _ _ _ _ _ _ _ _ _ _ (@aL _ _ _ _ _ _ _ _ _ (@jh _ _ _ rfl hr) (¬0) (@bL _ _ _ _ _ ac) (aG _))
      (@aj _ _ _ _ _ (@aE _ _ _ _ _ af))
      (@aX _ _))
      (@aj _ _ _ _ _ (@aE _ _ _ _ _ (@vZ _ _ _ _ _ _ _ _ _ rfl (¬0) (af∘ac) (by rfl) (by rfl) (by rfl) (by rfl) (by rfl))))))
noncomputable def kU:FT:=(aB (au (bK true) (ae 1) (vC (.int 0))))
noncomputable def m9:FS:=(Am 0 1 (ab (ae 1) (ab (au aQ (ae 0) (ae 1)) ai)))
noncomputable def CU:FS:=(aC (fY (2 ^ 4200) kU m9)
    (bo (aO (g1 wO) (ab (ae 0) ai))))
noncomputable def sR:FM:=jG 2 0 ([0,1]++[]) CU
theorem An:aH ["_law_one","_law_other"] ["_law_one","_law_other"] (am tM):=⟨rfl,rfl,rfl,by decide+kernel,rfl,by decide+kernel,by decide+kernel⟩
theorem Ew(h:bg K mg "_law_gcd" tM f fd ["_law_one","_law_other"])(T:ka mg):aN P w K mg base ce 1 f fd ["_law_one","_law_other"] (cq K 2 sR):=by
  have nd:=An.nd
  exact h.fn An rfl rfl (fun cdv A outer s H E hr=>(@ah _ _ _ _ _ _ _ _ (@lE _ _ _ _ _ _ _ _ _ PassesOwn.never (@aL _ _ _ _ _ _ _ _ _ (@r6 _ _ _ rfl hr) (¬1) af (aG _))
      (@aj _ _ _ _ _ (@Fq _ _ _ _ _ 0 1 _ _ _ _ _ _ _ _ _ rfl nd rfl rfl (by decide) rfl rfl ((¬1)∘((@aT _ _ _ _ _ _ _ (¬0) (¬1))∘ac)) (by rfl) (by rfl))))
      (@aj _ _ _ _ _ (@aE _ _ _ _ _ (@aV _ _ _ _ _ _ _ _ _ (@b_abs _ _) (by rfl) T.b_abs ((¬0)∘ac) (by decide) (by decide) (by rfl) (by rfl))))))
noncomputable def CV:FS:=(aC (a7 2 (cV 2 sR (ab (ae 0) (ab (ae 1) ai))))
    (bo (dy (ab (au fM (ae 0) (ae 2)) (ab (au fM (ae 1) (ae 2)) ai)))))
noncomputable def pX:FM:=jG 2 1 ([2]++[]) CV
theorem Ao:aH ["_law_top","_law_bottom","_law_common"] ["_law_top","_law_bottom"] (am tO):=⟨rfl,rfl,rfl,by decide+kernel,rfl,by decide+kernel,by decide+kernel⟩
theorem Ex(h:bg K mg "_law_low" tO f fd ["_law_top","_law_bottom"])(T:ka mg){L3:Addr}{L4:FuncData}(LV:bg K mg "_law_gcd" tM L3 L4 ["_law_one","_law_other"])(L0:aN P w K mg base ce 1 L3 L4 ["_law_one","_law_other"] (cq K 2 sR)):aN P w K mg base ce 2 f fd ["_law_top","_law_bottom"] (cq K 2 pX):=by
  have nd:=Ao.nd
  exact h.fn Ao rfl rfl (fun cdv A outer s H E hr=>(@ah _ _ _ _ _ _ _ _ (@av _ _ _ _ _ 2 _ _ nd rfl (Or.inl rfl) (@aW _ _ _ _ _ _ _ _ _ _ _ _ _ _ _ LV L0 (hr.mono (by decide)) ((¬0)∘((¬1)∘ac)) (by rfl) (by decide) (by rfl) (by rfl)) (by rfl) (by trivial))
      (@aj _ _ _ _ _ (@aE _ _ _ _ _ (@ba _ _ _ _ _ _ ((@iw _ _ _ _ _ _ _ (¬0) (¬2))∘((@iw _ _ _ _ _ _ _ (¬1) (¬2))∘ac)))))))
noncomputable def x9:FS:=(bo (au (bK false) (aO (g1 mM) (ab (ae 0) ai)) (aO (g1 mM) (ab (ae 1) ai))))
noncomputable def kx:FM:=jG 2 0 [] x9
theorem wd:aH ["_law_found","_law_due"] ["_law_found","_law_due"] (am oH):=⟨rfl,rfl,rfl,by decide+kernel,rfl,by decide+kernel,by decide+kernel⟩
theorem BF(h:bg K mg "_law_same" oH f fd ["_law_found","_law_due"])(T:ka mg):aN P w K mg base ce 1 f fd ["_law_found","_law_due"] (cq K 2 kx):=by
  have nd:=wd.nd
  exact h.fn wd rfl rfl (fun cdv A outer s H E hr=>(@aj _ _ _ _ _ (@aE _ _ _ _ _ (@lD _ _ _ _ _ _ _ _ _ (@jh _ _ _ rfl hr) (@aV _ _ _ _ _ _ _ _ _ (@b_repr _ _ _ rfl hr) (by rfl) T.b_repr ((¬0)∘ac) (by decide) (by decide) (by rfl) (by rfl)) (@aV _ _ _ _ _ _ _ _ _ (@b_repr _ _ _ rfl hr) (by rfl) T.b_repr ((¬1)∘ac) (by decide) (by decide) (by rfl) (by rfl)) (aG _)))))
noncomputable def jn:FS:=(aC (iC (aB (au (bK false) (ae 1) (vC (.int 0))))
    (bo (au eh (eO (ab (dy (ab (vC (.int 1)) (ab (vC (.int 2)) ai))) (ab (dy (ab (vC (.int 1)) (ab (vC (.int 3)) ai))) (ab (dy (ab (vC (.int 2)) (ab (vC (.int 3)) ai))) (ab (dy (ab (vC (.int 1)) (ab (vC (.int 1)) ai))) (ab (dy (ab (vC (.int 0)) (ab (vC (.int 1)) ai))) (ab (dy (ab (vC (.int 3)) (ab (vC (.int 4)) ai))) ai))))))) (au aQ (ae 0) (vC (.int 6)))))
    dD)
    (aC (iC (aB (au (bK false) (ae 1) (vC (.int 1))))
    (aC (a7 2 (au bN (vC (.int 2)) (au aQ (ae 0) (vC (.int 9)))))
    (bo (cV 2 pX (ab (au bN (vC (.int 1)) (au aQ (au fM (ae 0) (vC (.int 9))) (au eT (ae 2) (vC (.int 1))))) (ab (ae 2) ai)))))
    dD)
    (aC (iC (aB (au (bK false) (ae 1) (vC (.int 2))))
    (aC (a7 2 (au bN (vC (.int 1)) (au aQ (ae 0) (vC (.int 100)))))
    (bo (cV 2 pX (ab (au aQ (au fM (ae 0) (vC (.int 100))) (au bN (ae 2) (vC (.int 1)))) (ab (ae 2) ai)))))
    dD)
    (bo (dy (ab (vC (.int 1)) (ab (vC (.int 1)) ai)))))))
noncomputable def cM:FM:=jG 2 1 (([]++[])++((([2]++[])++[])++((([2]++[])++[])++[]))) jn
theorem p8:aH ["_law_number","_law_kind","_law_bottom"] ["_law_number","_law_kind"] (am gS):=⟨rfl,rfl,rfl,by decide+kernel,rfl,by decide+kernel,by decide+kernel⟩
theorem xh(h:bg K mg "_law_chance" gS f fd ["_law_number","_law_kind"])(T:ka mg){L5:Addr}{L6:FuncData}(LN:bg K mg "_law_low" tO L5 L6 ["_law_top","_law_bottom"])(LW:aN P w K mg base ce 2 L5 L6 ["_law_top","_law_bottom"] (cq K 2 pX)):aN P w K mg base ce 3 f fd ["_law_number","_law_kind"] (cq K 2 cM):=by
  have nd:=p8.nd
  exact h.fn p8 rfl rfl (fun cdv A outer s H E hr=>(@ah _ _ _ _ _ _ _ _ (@bU _ _ _ _ _ _ _ _ _ _ _ (@aL _ _ _ _ _ _ _ _ _ (@jh _ _ _ rfl hr) (¬1) af (aG _))
      (@aj _ _ _ _ _ (@aE _ _ _ _ _ (@bE _ _ _ _ _ _ _ rfl (@bL _ _ _ _ _ ((@ba _ _ _ _ _ _ (af∘(af∘ac)))∘((@ba _ _ _ _ _ _ (af∘(af∘ac)))∘((@ba _ _ _ _ _ _ (af∘(af∘ac)))∘((@ba _ _ _ _ _ _ (af∘(af∘ac)))∘((@ba _ _ _ _ _ _ (af∘(af∘ac)))∘((@ba _ _ _ _ _ _ (af∘(af∘ac)))∘ac))))))) (@aT _ _ _ _ _ _ _ (¬0) af) (fun _ _=>rfl))))
      (@aX _ _))
      (@ah _ _ _ _ _ _ _ _ (@bU _ _ _ _ _ _ _ _ _ _ _ (@aL _ _ _ _ _ _ _ _ _ (@jh _ _ _ rfl hr) (¬1) af (aG _))
      (@ah _ _ _ _ _ _ _ _ (@av _ _ _ _ _ 2 _ _ nd rfl (Or.inl rfl) (@bA _ _ _ _ _ _ _ rfl af (@aT _ _ _ _ _ _ _ (¬0) af)) (by rfl) (by trivial))
      (@aj _ _ _ _ _ (@aE _ _ _ _ _ (@aW _ _ _ _ _ _ _ _ _ _ _ _ _ _ _ LN LW (hr.mono (by decide)) ((@bA _ _ _ _ _ _ _ rfl af (@aT _ _ _ _ _ _ _ (@iw _ _ _ _ _ _ _ (¬0) af) (@kf _ _ _ _ _ _ _ (¬2) af)))∘((¬2)∘ac)) (by rfl) (by decide) (by rfl) (by rfl)))))
      (@aX _ _))
      (@ah _ _ _ _ _ _ _ _ (@bU _ _ _ _ _ _ _ _ _ _ _ (@aL _ _ _ _ _ _ _ _ _ (@jh _ _ _ rfl hr) (¬1) af (aG _))
      (@ah _ _ _ _ _ _ _ _ (@av _ _ _ _ _ 2 _ _ nd rfl (Or.inl rfl) (@bA _ _ _ _ _ _ _ rfl af (@aT _ _ _ _ _ _ _ (¬0) af)) (by rfl) (by trivial))
      (@aj _ _ _ _ _ (@aE _ _ _ _ _ (@aW _ _ _ _ _ _ _ _ _ _ _ _ _ _ _ LN LW (hr.mono (by decide)) ((@aT _ _ _ _ _ _ _ (@iw _ _ _ _ _ _ _ (¬0) af) (@bA _ _ _ _ _ _ _ rfl (¬2) af))∘((¬2)∘ac)) (by rfl) (by decide) (by rfl) (by rfl)))))
      (@aX _ _))
      (@aj _ _ _ _ _ (@aE _ _ _ _ _ (@ba _ _ _ _ _ _ (af∘(af∘ac)))))))))
noncomputable def vt:FS:=(bo (au eh (eO (ab (au aQ (ae 0) (vC (.int 7))) (ab (au bN (vC (.int 5)) (au aQ (ae 0) (vC (.int 2)))) (ab (au aQ (ae 0) (vC (.int 1001))) (ab (au eT (vC (.int 1000)) (au aQ (ae 0) (vC (.int 3)))) ai))))) (au aQ (ae 1) (vC (.int 4)))))
noncomputable def gy:FM:=jG 2 0 [] vt
theorem tU:aH ["_law_number","_law_kind"] ["_law_number","_law_kind"] (am i_):=⟨rfl,rfl,rfl,by decide+kernel,rfl,by decide+kernel,by decide+kernel⟩
theorem zt(h:bg K mg "_law_worth" i_ f fd ["_law_number","_law_kind"])(T:ka mg):aN P w K mg base ce 1 f fd ["_law_number","_law_kind"] (cq K 2 gy):=by
  have nd:=tU.nd
  exact h.fn tU rfl rfl (fun cdv A outer s H E hr=>(@aj _ _ _ _ _ (@aE _ _ _ _ _ (@bE _ _ _ _ _ _ _ rfl (@bL _ _ _ _ _ ((@aT _ _ _ _ _ _ _ (¬0) af)∘((@bA _ _ _ _ _ _ _ rfl af (@aT _ _ _ _ _ _ _ (¬0) af))∘((@aT _ _ _ _ _ _ _ (¬0) af)∘((@kf _ _ _ _ _ _ _ af (@aT _ _ _ _ _ _ _ (¬0) af))∘ac))))) (@aT _ _ _ _ _ _ _ (¬1) af) (fun _ _=>rfl)))))
noncomputable def oh:FI:=(bR (ab (ae 2) ai))
noncomputable def iE:FS:=(aC (a7 8 (cV 1 aP (ab (ae 0) ai)))
    (aC (a7 9 (au eh (eO (ab (au aQ (ae 8) (ae 1)) (ab (vC (.int 0)) (ab (au aQ (ae 7) (ae 1)) (ab (au aQ (ae 8) (ae 1)) (ab (au aQ (ae 8) (vC (.int 2))) (ab (au aQ (ae 8) (ae 1)) ai))))))) (ae 3)))
    (aC (a7 10 (au aQ (au bN (au bN (ae 9) (vC (.int 1))) (au aQ (au fM (ae 8) (vC (.int 12))) (au eT (ae 1) (vC (.int 1))))) (ae 1)))
    (aC (iC (aB (au (bK false) (ae 3) (vC (.int 4))))
    (uU (dy (ab (vC (.int 0)) (ab (vC (.int 1)) ai))) (dj (ao (ag 9) (ao (ag 10) cL))))
    dD)
    (aC (a7 11 (cV 1 aP (ab (ae 0) ai)))
    (aC (a7 12 (dy (ab (aO (g2 qL) (ab (ae 9) (ab (ae 10) ai))) (ab (aO (g2 m5) (ab (ae 9) (ab (ae 10) ai))) ai))))
    (eQ (cn bM (ae 6) (ab (au bN (ae 12) (dy (ab (cV 2 cM (ab (ae 11) (ab (ae 4) ai))) (ab (cV 2 gy (ab (au fM (ae 11) (vC (.int 10007))) (ab (ae 5) ai))) ai)))) ai)))))))))
noncomputable def x_:FS:=(aC (a7 3 (au aQ (cV 1 aP (ab (ae 0) ai)) (vC (.int 6))))
    (aC (a7 4 (au aQ (cV 1 aP (ab (ae 0) ai)) (vC (.int 4))))
    (aC (a7 5 (au aQ (cV 1 aP (ab (ae 0) ai)) (vC (.int 4))))
    (aC (a7 6 (eO ai))
    (aC (dC ([7]++([8]++([9]++([10]++((([9]++([10]++[]))++[])++([11]++([12]++[]))))))) oh (ag 7) iE)
    (bo (aO (g1 eL) (ab (ae 6) ai))))))))
noncomputable def jF:FM:=jG 3 10 ([3]++([4]++([5]++([6]++(([7]++([8]++([9]++([10]++((([9]++([10]++[]))++[])++([11]++([12]++[])))))))++[]))))) x_
theorem we:aH ["_law_drawn","_law_things","_law_many","_law_shape","_law_odds","_law_worths","_law_found","_law_k","_law_number","_law_one","_law_other","_law_cell","_law_ends"] ["_law_drawn","_law_things","_law_many"] (am mx):=⟨rfl,rfl,rfl,by decide+kernel,rfl,by decide+kernel,by decide+kernel⟩
theorem BG(h:bg K mg "_law_ties" mx f fd ["_law_drawn","_law_things","_law_many"])(T:ka mg){Kd:Addr}{Ke:FuncData}(J6:bg K mg "_law_next" iz Kd Ke ["_law_drawn"])(J8:aN P w K mg base ce 1 Kd Ke ["_law_drawn"] (cq K 1 aP)){Kk:Addr}{Kl:FuncData}(Kc:bg K mg "_law_chance" gS Kk Kl ["_law_number","_law_kind"])(Kh:aN P w K mg base ce 3 Kk Kl ["_law_number","_law_kind"] (cq K 2 cM)){KA:Addr}{KB:FuncData}(Ko:bg K mg "_law_worth" i_ KA KB ["_law_number","_law_kind"])(Kt:aN P w K mg base ce 1 KA KB ["_law_number","_law_kind"] (cq K 2 gy)):aN P w K mg base ce 4 f fd ["_law_drawn","_law_things","_law_many"] (cq K 3 jF):=by
  have nd:=we.nd
  exact h.fn we rfl rfl (fun cdv A outer s H E hr=>(@ah _ _ _ _ _ _ _ _ (@av _ _ _ _ _ 3 _ _ nd rfl (Or.inl rfl) (@aT _ _ _ _ _ _ _ (@aW _ _ _ _ _ _ _ _ _ _ _ _ _ _ _ J6 J8 (hr.mono (by decide)) ((¬0)∘ac) (by rfl) (by decide) (by rfl) (by rfl)) af) (by rfl) (by trivial))
      (@ah _ _ _ _ _ _ _ _ (@av _ _ _ _ _ 4 _ _ nd rfl (Or.inl rfl) (@aT _ _ _ _ _ _ _ (@aW _ _ _ _ _ _ _ _ _ _ _ _ _ _ _ J6 J8 (hr.mono (by decide)) ((¬0)∘ac) (by rfl) (by decide) (by rfl) (by rfl)) af) (by rfl) (by trivial))
      (@ah _ _ _ _ _ _ _ _ (@av _ _ _ _ _ 5 _ _ nd rfl (Or.inl rfl) (@aT _ _ _ _ _ _ _ (@aW _ _ _ _ _ _ _ _ _ _ _ _ _ _ _ J6 J8 (hr.mono (by decide)) ((¬0)∘ac) (by rfl) (by decide) (by rfl) (by rfl)) af) (by rfl) (by trivial))
      (@ah _ _ _ _ _ _ _ _ (@av _ _ _ _ _ 6 _ _ nd rfl (Or.inl rfl) (@bL _ _ _ _ _ ac) (by rfl) (by trivial))
      (@ah _ _ _ _ _ _ _ _ (@eX _ _ _ _ _ _ _ _ _ _ _ PassesOwn.never rfl (@bG _ _ _ _ _ _ _ rfl T.b_range ((¬2)∘ac) (by rfl)) (@aq _ _ _ 7 _ nd rfl (Or.inl rfl) (by trivial))
      (@ah _ _ _ _ _ _ _ _ (@av _ _ _ _ _ 8 _ _ nd rfl (Or.inl rfl) (@aW _ _ _ _ _ _ _ _ _ _ _ _ _ _ _ J6 J8 (hr.mono (by decide)) ((¬0)∘ac) (by rfl) (by decide) (by rfl) (by rfl)) (by rfl) (by trivial))
      (@ah _ _ _ _ _ _ _ _ (@av _ _ _ _ _ 9 _ _ nd rfl (Or.inl rfl) (@bE _ _ _ _ _ _ _ rfl (@bL _ _ _ _ _ ((@aT _ _ _ _ _ _ _ (¬8) (¬1))∘(af∘((@aT _ _ _ _ _ _ _ (¬7) (¬1))∘((@aT _ _ _ _ _ _ _ (¬8) (¬1))∘((@aT _ _ _ _ _ _ _ (¬8) af)∘((@aT _ _ _ _ _ _ _ (¬8) (¬1))∘ac))))))) (¬3) (fun _ _=>rfl)) (by rfl) (by trivial))
      (@ah _ _ _ _ _ _ _ _ (@av _ _ _ _ _ 10 _ _ nd rfl (Or.inl rfl) (@aT _ _ _ _ _ _ _ (@bA _ _ _ _ _ _ _ rfl (@bA _ _ _ _ _ _ _ rfl (¬9) af) (@aT _ _ _ _ _ _ _ (@iw _ _ _ _ _ _ _ (¬8) af) (@kf _ _ _ _ _ _ _ (¬1) af))) (¬1)) (by rfl) (by trivial))
      (@ah _ _ _ _ _ _ _ _ (@bU _ _ _ _ _ _ _ _ _ _ _ (@aL _ _ _ _ _ _ _ _ _ (@jh _ _ _ rfl hr) (¬3) af (aG _))
      (@aj _ _ _ _ _ (@zY _ _ _ _ _ _ _ _ (@ba _ _ _ _ _ _ (af∘(af∘ac))) (@kL _ _ _ _ _ _ _ _ rfl rfl (@aZ _ _ _ _ _ _ _ _ (@aq _ _ _ 9 _ nd rfl (Or.inl rfl) (by trivial)) (@aZ _ _ _ _ _ _ _ _ (@aq _ _ _ 10 _ nd rfl (Or.inl rfl) (by trivial)) (@i9 _ _) (by rfl)) (by rfl)) (bf (bf ko)) (by rfl) (by rfl)) (by rfl) (by rfl) (by rfl)))
      (@aX _ _))
      (@ah _ _ _ _ _ _ _ _ (@av _ _ _ _ _ 11 _ _ nd rfl (Or.inl rfl) (@aW _ _ _ _ _ _ _ _ _ _ _ _ _ _ _ J6 J8 (hr.mono (by decide)) ((¬0)∘ac) (by rfl) (by decide) (by rfl) (by rfl)) (by rfl) (by trivial))
      (@ah _ _ _ _ _ _ _ _ (@av _ _ _ _ _ 12 _ _ nd rfl (Or.inl rfl) (@ba _ _ _ _ _ _ ((@aV _ _ _ _ _ _ _ _ _ (@b_min _ _ rfl) (by rfl) T.b_min ((¬9)∘((¬10)∘ac)) (by decide) (by decide) (by rfl) (by rfl))∘((@aV _ _ _ _ _ _ _ _ _ (@b_max _ _ rfl) (by rfl) T.b_max ((¬9)∘((¬10)∘ac)) (by decide) (by decide) (by rfl) (by rfl))∘ac))) (by rfl) (by trivial))
      (@aj _ _ _ _ _ (@c9 _ _ _ _ _ (@cm _ _ _ _ _ _ _ _ _ rfl (¬6) ((@bA _ _ _ _ _ _ _ rfl (¬12) (@ba _ _ _ _ _ _ ((@aW _ _ _ _ _ _ _ _ _ _ _ _ _ _ _ Kc Kh (hr.mono (by decide)) ((¬11)∘((¬4)∘ac)) (by rfl) (by decide) (by rfl) (by rfl))∘((@aW _ _ _ _ _ _ _ _ _ _ _ _ _ _ _ Ko Kt (hr.mono (by decide)) ((@iw _ _ _ _ _ _ _ (¬11) af)∘((¬5)∘ac)) (by rfl) (by decide) (by rfl) (by rfl))∘ac))))∘ac) (by rfl) (by rfl) (by rfl) (by rfl) (by rfl)) (by rfl))))))))) (by intro _;rfl))
      (@aj _ _ _ _ _ (@aE _ _ _ _ _ (@aV _ _ _ _ _ _ _ _ _ (@b_tuple _ _ rfl) (by rfl) T.b_tuple ((¬6)∘ac) (by decide) (by decide) (by rfl) (by rfl))))))))))
noncomputable def qO:FI:=(bR (ab (ae 3) ai))
noncomputable def m_:FS:=(eQ (cn bM (ae 7) (ab (au eh (eO (ab (vC (.int 20)) (ab (au bN (vC (.int 1)) (au aQ (cV 1 aP (ab (ae 0) ai)) (vC (.int 3)))) (ab (au aQ (cV 1 aP (ab (ae 0) ai)) (vC (.int 21))) ai)))) (ae 6)) ai)))
noncomputable def CW:FS:=(aC (a7 3 (au aQ (cV 1 aP (ab (ae 0) ai)) (au bN (ae 1) (vC (.int 1)))))
    (aC (a7 4 (au jy (au aQ (cV 1 aP (ab (ae 0) ai)) (au bN (ae 2) (vC (.int 1)))) (aO (g1 wQ) (ab (au D6 (ae 3) (vC (.int 1))) ai))))
    (aC (a7 5 (cV 3 jF (ab (ae 0) (ab (aO (g2 m5) (ab (vC (.int 2)) (ab (ae 3) ai))) (ab (ae 4) ai)))))
    (aC (a7 6 (au aQ (cV 1 aP (ab (ae 0) ai)) (vC (.int 3))))
    (aC (a7 7 (eO ai))
    (aC (dC ([8]++[]) qO (ag 8) m_)
    (aC (a7 9 (au eh (eO (ab (vC (.int 40)) (ab (au bN (vC (.int 1)) (au aQ (cV 1 aP (ab (ae 0) ai)) (aO (g2 m5) (ab (vC (.int 1)) (ab (ae 4) ai))))) (ab (au aQ (cV 1 aP (ab (ae 0) ai)) (vC (.int 41))) ai)))) (au aQ (cV 1 aP (ab (ae 0) ai)) (vC (.int 3)))))
    (bo (dy (ab (ae 3) (ab (ae 5) (ab (aO (g1 eL) (ab (ae 7) ai)) (ab (ae 9) ai)))))))))))))
noncomputable def sS:FM:=jG 3 7 ([3]++([4]++([5]++([6]++([7]++(([8]++[])++([9]++[]))))))) CW
theorem Ap:aH ["_law_drawn","_law_most","_law_ties_here","_law_things","_law_many","_law_rows","_law_way","_law_patience","_law_k","_law_asks"] ["_law_drawn","_law_most","_law_ties_here"] (am tP):=⟨rfl,rfl,rfl,by decide+kernel,rfl,by decide+kernel,by decide+kernel⟩
theorem Ey(h:bg K mg "_law_web" tP f fd ["_law_drawn","_law_most","_law_ties_here"])(T:ka mg){Ly:Addr}{Lz:FuncData}(K2:bg K mg "_law_ties" mx Ly Lz ["_law_drawn","_law_things","_law_many"])(Lc:aN P w K mg base ce 4 Ly Lz ["_law_drawn","_law_things","_law_many"] (cq K 3 jF)){Kd:Addr}{Ke:FuncData}(J6:bg K mg "_law_next" iz Kd Ke ["_law_drawn"])(J8:aN P w K mg base ce 1 Kd Ke ["_law_drawn"] (cq K 1 aP)):aN P w K mg base ce 5 f fd ["_law_drawn","_law_most","_law_ties_here"] (cq K 3 sS):=by
  have nd:=Ap.nd
  exact h.fn Ap rfl rfl (fun cdv A outer s H E hr=>(@ah _ _ _ _ _ _ _ _ (@av _ _ _ _ _ 3 _ _ nd rfl (Or.inl rfl) (@aT _ _ _ _ _ _ _ (@aW _ _ _ _ _ _ _ _ _ _ _ _ _ _ _ J6 J8 (hr.mono (by decide)) ((¬0)∘ac) (by rfl) (by decide) (by rfl) (by rfl)) (@bA _ _ _ _ _ _ _ rfl (¬1) af)) (by rfl) (by trivial))
      (@ah _ _ _ _ _ _ _ _ (@av _ _ _ _ _ 4 _ _ nd rfl (Or.inl rfl) (@mS _ _ _ _ _ _ _ rfl (@aT _ _ _ _ _ _ _ (@aW _ _ _ _ _ _ _ _ _ _ _ _ _ _ _ J6 J8 (hr.mono (by decide)) ((¬0)∘ac) (by rfl) (by decide) (by rfl) (by rfl)) (@bA _ _ _ _ _ _ _ rfl (¬2) af)) (@aV _ _ _ _ _ _ _ _ _ (@b_int _ _) (by rfl) T.b_int ((@lD _ _ _ _ _ _ _ _ _ (@DU _ _) (¬3) af (aG _))∘ac) (by decide) (by decide) (by rfl) (by rfl))) (by rfl) (by trivial))
      (@ah _ _ _ _ _ _ _ _ (@av _ _ _ _ _ 5 _ _ nd rfl (Or.inl rfl) (@aW _ _ _ _ _ _ _ _ _ _ _ _ _ _ _ K2 Lc (hr.mono (by decide)) ((¬0)∘((@aV _ _ _ _ _ _ _ _ _ (@b_max _ _ rfl) (by rfl) T.b_max (af∘((¬3)∘ac)) (by decide) (by decide) (by rfl) (by rfl))∘((¬4)∘ac))) (by rfl) (by decide) (by rfl) (by rfl)) (by rfl) (by trivial))
      (@ah _ _ _ _ _ _ _ _ (@av _ _ _ _ _ 6 _ _ nd rfl (Or.inl rfl) (@aT _ _ _ _ _ _ _ (@aW _ _ _ _ _ _ _ _ _ _ _ _ _ _ _ J6 J8 (hr.mono (by decide)) ((¬0)∘ac) (by rfl) (by decide) (by rfl) (by rfl)) af) (by rfl) (by trivial))
      (@ah _ _ _ _ _ _ _ _ (@av _ _ _ _ _ 7 _ _ nd rfl (Or.inl rfl) (@bL _ _ _ _ _ ac) (by rfl) (by trivial))
      (@ah _ _ _ _ _ _ _ _ (@eX _ _ _ _ _ _ _ _ _ _ _ PassesOwn.never rfl (@bG _ _ _ _ _ _ _ rfl T.b_range ((¬3)∘ac) (by rfl)) (@aq _ _ _ 8 _ nd rfl (Or.inl rfl) (by trivial))
      (@aj _ _ _ _ _ (@c9 _ _ _ _ _ (@cm _ _ _ _ _ _ _ _ _ rfl (¬7) ((@bE _ _ _ _ _ _ _ rfl (@bL _ _ _ _ _ (af∘((@bA _ _ _ _ _ _ _ rfl af (@aT _ _ _ _ _ _ _ (@aW _ _ _ _ _ _ _ _ _ _ _ _ _ _ _ J6 J8 (hr.mono (by decide)) ((¬0)∘ac) (by rfl) (by decide) (by rfl) (by rfl)) af))∘((@aT _ _ _ _ _ _ _ (@aW _ _ _ _ _ _ _ _ _ _ _ _ _ _ _ J6 J8 (hr.mono (by decide)) ((¬0)∘ac) (by rfl) (by decide) (by rfl) (by rfl)) af)∘ac)))) (¬6) (fun _ _=>rfl))∘ac) (by rfl) (by rfl) (by rfl) (by rfl) (by rfl)) (by rfl))) (by intro _;rfl))
      (@ah _ _ _ _ _ _ _ _ (@av _ _ _ _ _ 9 _ _ nd rfl (Or.inl rfl) (@bE _ _ _ _ _ _ _ rfl (@bL _ _ _ _ _ (af∘((@bA _ _ _ _ _ _ _ rfl af (@aT _ _ _ _ _ _ _ (@aW _ _ _ _ _ _ _ _ _ _ _ _ _ _ _ J6 J8 (hr.mono (by decide)) ((¬0)∘ac) (by rfl) (by decide) (by rfl) (by rfl)) (@aV _ _ _ _ _ _ _ _ _ (@b_max _ _ rfl) (by rfl) T.b_max (af∘((¬4)∘ac)) (by decide) (by decide) (by rfl) (by rfl))))∘((@aT _ _ _ _ _ _ _ (@aW _ _ _ _ _ _ _ _ _ _ _ _ _ _ _ J6 J8 (hr.mono (by decide)) ((¬0)∘ac) (by rfl) (by decide) (by rfl) (by rfl)) af)∘ac)))) (@aT _ _ _ _ _ _ _ (@aW _ _ _ _ _ _ _ _ _ _ _ _ _ _ _ J6 J8 (hr.mono (by decide)) ((¬0)∘ac) (by rfl) (by decide) (by rfl) (by rfl)) af) (fun _ _=>rfl)) (by rfl) (by trivial))
      (@aj _ _ _ _ _ (@aE _ _ _ _ _ (@ba _ _ _ _ _ _ ((¬3)∘((¬5)∘((@aV _ _ _ _ _ _ _ _ _ (@b_tuple _ _ rfl) (by rfl) T.b_tuple ((¬7)∘ac) (by decide) (by decide) (by rfl) (by rfl))∘((¬9)∘ac)))))))))))))))
noncomputable def l_:FI:=(gw (au eh (ae 0) (vC (.int 1))))
noncomputable def jT:FS:=(aC (iC (aB (au (bK false) (ae 1) (ae 3)))
    (eQ (cn bM (ae 2) (ab (ae 4) ai)))
    dD)
    (iC (aB (au (bK false) (ae 1) (ae 4)))
    (eQ (cn bM (ae 2) (ab (ae 3) ai)))
    dD))
noncomputable def vo:FS:=(aC (a7 2 (eO ai))
    (aC (dC (([3]++([4]++([5]++([6]++[]))))++(([]++[])++([]++[]))) l_ (dj (ao (ag 3) (ao (ag 4) (ao (ag 5) (ao (ag 6) cL))))) jT)
    (bo (ae 2))))
noncomputable def i7:FM:=jG 2 5 ([2]++((([3]++([4]++([5]++([6]++[]))))++(([]++[])++([]++[])))++[])) vo
theorem tR:aH ["_law_web_here","_law_thing","_law_found","_law_one","_law_other","_law_chance_here","_law_worth_here"] ["_law_web_here","_law_thing"] (am j8):=⟨rfl,rfl,rfl,by decide+kernel,rfl,by decide+kernel,by decide+kernel⟩
theorem zo(h:bg K mg "_law_mates" j8 f fd ["_law_web_here","_law_thing"])(T:ka mg):aN P w K mg base ce 1 f fd ["_law_web_here","_law_thing"] (cq K 2 i7):=by
  have nd:=tR.nd
  exact h.fn tR rfl rfl (fun cdv A outer s H E hr=>(@ah _ _ _ _ _ _ _ _ (@av _ _ _ _ _ 2 _ _ nd rfl (Or.inl rfl) (@bL _ _ _ _ _ ac) (by rfl) (by trivial))
      (@ah _ _ _ _ _ _ _ _ (@eX _ _ _ _ _ _ _ _ _ _ _ PassesOwn.never rfl (@dq _ _ _ _ _ rfl (@bE _ _ _ _ _ _ _ rfl (¬0) af (fun _ _=>rfl))) (@kL _ _ _ _ _ _ _ _ rfl rfl (@aZ _ _ _ _ _ _ _ _ (@aq _ _ _ 3 _ nd rfl (Or.inl rfl) (by trivial)) (@aZ _ _ _ _ _ _ _ _ (@aq _ _ _ 4 _ nd rfl (Or.inl rfl) (by trivial)) (@aZ _ _ _ _ _ _ _ _ (@aq _ _ _ 5 _ nd rfl (Or.inl rfl) (by trivial)) (@aZ _ _ _ _ _ _ _ _ (@aq _ _ _ 6 _ nd rfl (Or.inl rfl) (by trivial)) (@i9 _ _) (by rfl)) (by rfl)) (by rfl)) (by rfl)) (bf (bf (bf (bf ko)))) (by rfl) (by rfl))
      (@ah _ _ _ _ _ _ _ _ (@bU _ _ _ _ _ _ _ _ _ _ _ (@aL _ _ _ _ _ _ _ _ _ (@jh _ _ _ rfl hr) (¬1) (¬3) (aG _))
      (@aj _ _ _ _ _ (@c9 _ _ _ _ _ (@cm _ _ _ _ _ _ _ _ _ rfl (¬2) ((¬4)∘ac) (by rfl) (by rfl) (by rfl) (by rfl) (by rfl)) (by rfl)))
      (@aX _ _))
      (@aj _ _ _ _ _ (@bU _ _ _ _ _ _ _ _ _ _ _ (@aL _ _ _ _ _ _ _ _ _ (@jh _ _ _ rfl hr) (¬1) (¬4) (aG _))
      (@aj _ _ _ _ _ (@c9 _ _ _ _ _ (@cm _ _ _ _ _ _ _ _ _ rfl (¬2) ((¬3)∘ac) (by rfl) (by rfl) (by rfl) (by rfl) (by rfl)) (by rfl)))
      (@aX _ _)))) (by intro _;rfl))
      (@aj _ _ _ _ _ (@aE _ _ _ _ _ (¬2))))))
noncomputable def fx:FI:=(gw (cV 2 i7 (ab (ae 0) (ab (ae 4) ai))))
noncomputable def bW:FS:=(iC (aB (au yD (au eh (ae 1) (ae 5)) (vC (.int 0))))
    (aC (xw (au eT (vC (.int 1)) (au eh (ae 1) (ae 4))) (ae 1) (ae 5))
    (eQ (cn bM (ae 3) (ab (ae 5) ai))))
    (iC (aB (au (bK false) (au eh (ae 1) (ae 5)) (au eh (ae 1) (ae 4))))
    (bo (vC .none))
    dD))
noncomputable def dG:FT:=(aB (au (bK true) (ae 3) (eO ai)))
noncomputable def bX:FS:=(aC (a7 4 (cn qZ (ae 3) ai))
    (dC ([5]++(([]++[])++([]++[]))) fx (ag 5) bW))
noncomputable def kd:FI:=(bR (ab (au eh (ae 0) (vC (.int 0))) ai))
noncomputable def cO:FS:=(iC (aB (au yD (au eh (ae 1) (ae 2)) (vC (.int 0))))
    (aC (xw (vC (.int 0)) (ae 1) (ae 2))
    (aC (a7 3 (eO (ab (ae 2) ai)))
    (fY (2 ^ 4200) dG bX)))
    dD)
noncomputable def iu:FI:=(bR (ab (au eh (ae 0) (vC (.int 0))) ai))
noncomputable def fv:FE:=(oW yF (vC (.int 1)))
noncomputable def jo:FS:=(aC (a7 1 (cx [] 1 iu (ag 0) bO fv))
    (aC (dC ([2]++(([]++([3]++([4]++([5]++(([]++[])++([]++[]))))))++[])) kd (ag 2) cO)
    (bo (aO (g1 eL) (ab (ae 1) ai)))))
noncomputable def dY:FM:=jG 1 5 ([1]++(([2]++(([]++([3]++([4]++([5]++(([]++[])++([]++[]))))))++[]))++[])) jo
theorem lL:aH ["_law_web_here","_law_found","_law_start","_law_waiting","_law_here","_law_other"] ["_law_web_here"] (am ef):=⟨rfl,rfl,rfl,by decide+kernel,rfl,by decide+kernel,by decide+kernel⟩
theorem rj(h:bg K mg "_law_two_sided" ef f fd ["_law_web_here"])(T:ka mg){Ld:Addr}{Le:FuncData}(KN:bg K mg "_law_mates" j8 Ld Le ["_law_web_here","_law_thing"])(KZ:aN P w K mg base ce 1 Ld Le ["_law_web_here","_law_thing"] (cq K 2 i7)):aN P w K mg base ce 2 f fd ["_law_web_here"] (cq K 1 dY):=by
  have nd:=lL.nd
  exact h.fn lL rfl rfl (fun cdv A outer s H E hr=>(@ah _ _ _ _ _ _ _ _ (@p4 _ _ _ (1) _ _ _ _ _ _ _ _ _ _ _ _ _ (am ef) ["_law_web_here","_law_found","_law_start","_law_waiting","_law_here","_law_other"] [] ["_law_k"] rfl rfl rfl (@bG _ _ _ _ _ _ _ rfl T.b_range ((@bE _ _ _ _ _ _ _ rfl (¬0) af (fun _ _=>rfl))∘ac) (by rfl))
        (fun C s0 H0 fp=>(@aq _ _ _ 0 _ (show List.Nodup (["_law_k"]:List Str) by decide+kernel) rfl (Or.inl rfl) (by trivial))) (fun C s0 H0 fp=>(@gA _ _))
        (fun C s0 H0 fp=>(@Dr _ _ _ _ _ af)) rfl (by decide+kernel) (by decide+kernel) (by decide+kernel) (by decide+kernel) (by decide+kernel) (by decide+kernel) (by decide+kernel) nd rfl rfl (by rfl) (by intro _;rfl))
      (@ah _ _ _ _ _ _ _ _ (@eX _ _ _ _ _ _ _ _ _ _ _ PassesOwn.never rfl (@bG _ _ _ _ _ _ _ rfl T.b_range ((@bE _ _ _ _ _ _ _ rfl (¬0) af (fun _ _=>rfl))∘ac) (by rfl)) (@aq _ _ _ 2 _ nd rfl (Or.inl rfl) (by trivial))
      (@aj _ _ _ _ _ (@bU _ _ _ _ _ _ _ _ _ _ _ (@aL _ _ _ _ _ _ _ _ _ (@ut _ _) (@bE _ _ _ _ _ _ _ rfl (¬1) (¬2) (fun _ _=>rfl)) af (aG _))
      (@ah _ _ _ _ _ _ _ _ (@zZ _ _ _ _ _ _ _ _ _ _ af (¬1) (¬2) (by intro _;rfl) (by rfl) (by rfl) (by rfl))
      (@ah _ _ _ _ _ _ _ _ (@av _ _ _ _ _ 3 _ _ nd rfl (Or.inl rfl) (@bL _ _ _ _ _ ((¬2)∘ac)) (by rfl) (by trivial))
      (@aj _ _ _ _ _ (@lE _ _ _ _ _ _ _ _ _ PassesOwn.never (@aL _ _ _ _ _ _ _ _ _ (@r6 _ _ _ rfl hr) (¬3) (@bL _ _ _ _ _ ac) (aG _))
      (@ah _ _ _ _ _ _ _ _ (@av _ _ _ _ _ 4 _ _ nd rfl (Or.inl rfl) (@Ds _ _ _ _ _ _ rfl (¬3) (by rfl) (by rfl)) (by rfl) (by trivial))
      (@aj _ _ _ _ _ (@eX _ _ _ _ _ _ _ _ _ _ _ PassesOwn.never rfl (@dq _ _ _ _ _ rfl (@aW _ _ _ _ _ _ _ _ _ _ _ _ _ _ _ KN KZ (hr.mono (by decide)) ((¬0)∘((¬4)∘ac)) (by rfl) (by decide) (by rfl) (by rfl))) (@aq _ _ _ 5 _ nd rfl (Or.inl rfl) (by trivial))
      (@aj _ _ _ _ _ (@bU _ _ _ _ _ _ _ _ _ _ _ (@aL _ _ _ _ _ _ _ _ _ (@ut _ _) (@bE _ _ _ _ _ _ _ rfl (¬1) (¬5) (fun _ _=>rfl)) af (aG _))
      (@ah _ _ _ _ _ _ _ _ (@zZ _ _ _ _ _ _ _ _ _ _ (@kf _ _ _ _ _ _ _ af (@bE _ _ _ _ _ _ _ rfl (¬1) (¬4) (fun _ _=>rfl))) (¬1) (¬5) (by intro _;rfl) (by rfl) (by rfl) (by rfl))
      (@aj _ _ _ _ _ (@c9 _ _ _ _ _ (@cm _ _ _ _ _ _ _ _ _ rfl (¬3) ((¬5)∘ac) (by rfl) (by rfl) (by rfl) (by rfl) (by rfl)) (by rfl))))
      (@aj _ _ _ _ _ (@bU _ _ _ _ _ _ _ _ _ _ _ (@aL _ _ _ _ _ _ _ _ _ (@jh _ _ _ rfl hr) (@bE _ _ _ _ _ _ _ rfl (¬1) (¬5) (fun _ _=>rfl)) (@bE _ _ _ _ _ _ _ rfl (¬1) (¬4) (fun _ _=>rfl)) (aG _))
      (@aj _ _ _ _ _ (@aE _ _ _ _ _ (@rE _ _ _ _)))
      (@aX _ _))))) (by intro _;rfl))))))))
      (@aX _ _))) (by intro _;rfl))
      (@aj _ _ _ _ _ (@aE _ _ _ _ _ (@aV _ _ _ _ _ _ _ _ _ (@b_tuple _ _ rfl) (by rfl) T.b_tuple ((¬1)∘ac) (by decide) (by decide) (by rfl) (by rfl)))))))
noncomputable def ir:FI:=(gw (au eh (ae 0) (vC (.int 1))))
noncomputable def fj:FT:=(aB (au (bK false) (au eh (ae 0) (au eh (ae 1) (vC (.int 0)))) (au eh (ae 0) (au eh (ae 1) (vC (.int 1))))))
noncomputable def fm:FE:=(ae 1)
noncomputable def kc:FI:=(gw (ae 1))
noncomputable def cP:FT:=(oY (iS (aB (oW (gL "int") (ae 0)))) (oY (aB (oW (gL "bool") (ae 0))) (aB (au (pN true) (ae 0) (dy (ab (vC (.int 0)) (ab (vC (.int 1)) ai)))))))
noncomputable def fq:FE:=(ae 0)
noncomputable def fH:FS:=(aC (iC (oY (iS (aB (oW (gL "tuple") (ae 1)))) (aB (au (bK true) (aO (g1 gM) (ab (ae 1) ai)) (au eh (ae 0) (vC (.int 0))))))
    (bo (vC (.bool false)))
    dD)
    (aC (iC (aB (au (nX true) (cx [] 1 kc (ag 0) cP fq) (eO ai)))
    (bo (vC (.bool false)))
    dD)
    (bo (au (nX false) (cx [(1,"_law_thing")] 1 ir (ag 1) fj fm) (eO ai)))))
noncomputable def cw:FM:=jG 2 0 (([]++[])++(([]++[])++[])) fH
theorem lK:aH ["_law_web_here","_law_thing"] ["_law_web_here","_law_thing"] (am dr):=⟨rfl,rfl,rfl,by decide+kernel,rfl,by decide+kernel,by decide+kernel⟩
theorem rh(h:bg K mg "_law_are_sides" dr f fd ["_law_web_here","_law_thing"])(T:ka mg):aN P w K mg base ce 1 f fd ["_law_web_here","_law_thing"] (cq K 2 cw):=by
  have nd:=lK.nd
  exact h.fn lK rfl rfl (fun cdv A outer s H E hr=>(@ah _ _ _ _ _ _ _ _ (@bU _ _ _ _ _ _ _ _ _ _ _ (@oF _ _ _ _ (@fQ _ _ _ _ _ _ _ _ (@dP _ _ _ _ _ (@dB _ _ _ _ (@je _ _ _ _ _ _ _ _ "tuple" rfl (by decide) rfl T.b_isinstance rfl T.b_tuple PyProof.Rows.boot_tuple (by decide) (by decide) (¬1) (by rfl) (by rfl)) (by intro _;rfl))) (@iy _ _ _ _ _ (@aL _ _ _ _ _ _ _ _ _ (@r6 _ _ _ rfl hr) (@aV _ _ _ _ _ _ _ _ _ (@b_len _ _ rfl) (by rfl) T.b_len ((¬1)∘ac) (by decide) (by decide) (by rfl) (by rfl)) (@bE _ _ _ _ _ _ _ rfl (¬0) af (fun _ _=>rfl)) (aG _)))))
      (@aj _ _ _ _ _ (@aE _ _ _ _ _ (@ig _ _ _ _ _)))
      (@aX _ _))
      (@ah _ _ _ _ _ _ _ _ (@bU _ _ _ _ _ _ _ _ _ _ _ (@aL _ _ _ _ _ _ _ _ _ (@ye _ _ _ rfl hr) (@eW _ _ _ _ _ _ _ _ _ _ _ _ _ (am dr) ["_law_web_here","_law_thing"] [] ["_law_one"] rfl rfl rfl (@dq _ _ _ _ _ rfl (¬1))
        (fun C s0 H0 fp=>(@aq _ _ _ 0 _ (show List.Nodup (["_law_one"]:List Str) by decide+kernel) rfl (Or.inl rfl) (by trivial))) (fun C s0 H0 fp=>(@ii _ _ _ _ (@oF _ _ _ _ (@fQ _ _ _ _ _ _ _ _ (@dP _ _ _ _ _ (@dB _ _ _ _ (@je _ _ _ _ _ _ _ _ "int" rfl (by decide) rfl T.b_isinstance rfl T.b_int PyProof.Rows.boot_int (by decide) (by decide) (¬0) (by rfl) (by rfl)) (by intro _;rfl))) (@fQ _ _ _ _ _ _ _ _ (@dB _ _ _ _ (@je _ _ _ _ _ _ _ _ "bool" rfl (by decide) rfl T.b_isinstance rfl T.b_bool PyProof.Rows.boot_bool (by decide) (by decide) (¬0) (by rfl) (by rfl)) (by intro _;rfl)) (@iy _ _ _ _ _ (@aL _ _ _ _ _ _ _ _ _ (@vw _ _ _ rfl hr) (¬0) (@ba _ _ _ _ _ _ (af∘(af∘ac))) (by with_unfolding_all rfl))))))))
        (fun C s0 H0 fp=>(¬0)) rfl (by decide+kernel) (by decide+kernel) (by decide+kernel) (by decide+kernel) (by decide+kernel) (by decide+kernel) (by decide+kernel) (by intro _;rfl)) (@bL _ _ _ _ _ ac) (aG _))
      (@aj _ _ _ _ _ (@aE _ _ _ _ _ (@ig _ _ _ _ _)))
      (@aX _ _))
      (@aj _ _ _ _ _ (@aE _ _ _ _ _ (@lD _ _ _ _ _ _ _ _ _ (@C0 _ _ _ rfl hr) (@eW _ _ _ _ _ _ _ _ _ _ _ _ _ (am dr) ["_law_web_here","_law_thing"] [(1,"_law_thing")] ["_law_tie"] rfl rfl rfl (@dq _ _ _ _ _ rfl (@bE _ _ _ _ _ _ _ rfl (¬0) af (fun _ _=>rfl)))
        (fun C s0 H0 fp=>(@aq _ _ _ 1 _ (show List.Nodup (["_law_thing","_law_tie"]:List Str) by decide+kernel) rfl (Or.inl rfl) (by trivial))) (fun C s0 H0 fp=>(@ii _ _ _ _ (@aL _ _ _ _ _ _ _ _ _ (@jh _ _ _ rfl hr) (@bE _ _ _ _ _ _ _ rfl (¬0) (@bE _ _ _ _ _ _ _ rfl (¬1) af (fun _ _=>rfl)) (fun _ _=>rfl)) (@bE _ _ _ _ _ _ _ rfl (¬0) (@bE _ _ _ _ _ _ _ rfl (¬1) af (fun _ _=>rfl)) (fun _ _=>rfl)) (aG _))))
        (fun C s0 H0 fp=>(¬1)) rfl (by decide+kernel) (by decide+kernel) (by decide+kernel) (by decide+kernel) (by decide+kernel) (by decide+kernel) (by decide+kernel) (by intro _;rfl)) (@bL _ _ _ _ _ ac) (aG _)))))))
noncomputable def jz:FI:=(bR (ab (aO (g1 gM) (ab (ae 1) ai)) ai))
noncomputable def hU:FT:=(aB (au (pN true) (au eh (ae 0) (ae 2)) (cV 2 i7 (ab (ae 1) (ab (au eh (ae 0) (au eT (ae 2) (vC (.int 1)))) ai)))))
noncomputable def h8:FE:=(ae 2)
noncomputable def mN:FI:=(gw (ae 1))
noncomputable def hV:FT:=(aB (au D6 (AZ false gC (ae 0) (ae 1)) (vC (.int 1))))
noncomputable def h9:FE:=(ae 1)
noncomputable def mO:FI:=(gw (ae 1))
noncomputable def df:FT:=(oY (iS (aB (oW (gL "int") (ae 1)))) (oY (aB (oW (gL "bool") (ae 1))) (iS (aB (ff Gj yD (vC (.int 0)) (ae 1) (au eh (ae 0) (vC (.int 0))))))))
noncomputable def h_:FE:=(ae 1)
noncomputable def eR:FS:=(aC (iC (oY (iS (aB (oW (gL "tuple") (ae 1)))) (oY (aB (au yD (aO (g1 gM) (ab (ae 1) ai)) (vC (.int 3)))) (aB (au (bK false) (au aQ (aO (g1 gM) (ab (ae 1) ai)) (vC (.int 2))) (vC (.int 0))))))
    (bo (vC (.bool false)))
    dD)
    (aC (iC (aB (au (nX true) (cx [(0,"_law_web_here")] 1 mO (ag 1) df h_) (eO ai)))
    (bo (vC (.bool false)))
    dD)
    (aC (iC (aB (au (nX true) (cx [(1,"_law_thing")] 1 mN (ag 1) hV h9) (eO ai)))
    (bo (vC (.bool false)))
    dD)
    (bo (au (nX false) (cx [(1,"_law_thing"),(0,"_law_web_here")] 1 jz (ag 2) hU h8) (eO ai))))))
noncomputable def cS:FM:=jG 2 0 (([]++[])++(([]++[])++(([]++[])++[]))) eR
theorem oJ:aH ["_law_web_here","_law_thing"] ["_law_web_here","_law_thing"] (am d_):=⟨rfl,rfl,rfl,by decide+kernel,rfl,by decide+kernel,by decide+kernel⟩
theorem uJ(h:bg K mg "_law_is_ring" d_ f fd ["_law_web_here","_law_thing"])(T:ka mg){Ld:Addr}{Le:FuncData}(KN:bg K mg "_law_mates" j8 Ld Le ["_law_web_here","_law_thing"])(KZ:aN P w K mg base ce 1 Ld Le ["_law_web_here","_law_thing"] (cq K 2 i7)):aN P w K mg base ce 2 f fd ["_law_web_here","_law_thing"] (cq K 2 cS):=by
  have nd:=oJ.nd
  exact h.fn oJ rfl rfl (fun cdv A outer s H E hr=>(@ah _ _ _ _ _ _ _ _ (@bU _ _ _ _ _ _ _ _ _ _ _ (@oF _ _ _ _ (@fQ _ _ _ _ _ _ _ _ (@dP _ _ _ _ _ (@dB _ _ _ _ (@je _ _ _ _ _ _ _ _ "tuple" rfl (by decide) rfl T.b_isinstance rfl T.b_tuple PyProof.Rows.boot_tuple (by decide) (by decide) (¬1) (by rfl) (by rfl)) (by intro _;rfl))) (@fQ _ _ _ _ _ _ _ _ (@aL _ _ _ _ _ _ _ _ _ (@ut _ _) (@aV _ _ _ _ _ _ _ _ _ (@b_len _ _ rfl) (by rfl) T.b_len ((¬1)∘ac) (by decide) (by decide) (by rfl) (by rfl)) af (aG _)) (@iy _ _ _ _ _ (@aL _ _ _ _ _ _ _ _ _ (@jh _ _ _ rfl hr) (@aT _ _ _ _ _ _ _ (@aV _ _ _ _ _ _ _ _ _ (@b_len _ _ rfl) (by rfl) T.b_len ((¬1)∘ac) (by decide) (by decide) (by rfl) (by rfl)) af) af (aG _))))))
      (@aj _ _ _ _ _ (@aE _ _ _ _ _ (@ig _ _ _ _ _)))
      (@aX _ _))
      (@ah _ _ _ _ _ _ _ _ (@bU _ _ _ _ _ _ _ _ _ _ _ (@aL _ _ _ _ _ _ _ _ _ (@ye _ _ _ rfl hr) (@eW _ _ _ _ _ _ _ _ _ _ _ _ _ (am d_) ["_law_web_here","_law_thing"] [(0,"_law_web_here")] ["_law_one"] rfl rfl rfl (@dq _ _ _ _ _ rfl (¬1))
        (fun C s0 H0 fp=>(@aq _ _ _ 1 _ (show List.Nodup (["_law_web_here","_law_one"]:List Str) by decide+kernel) rfl (Or.inl rfl) (by trivial))) (fun C s0 H0 fp=>(@ii _ _ _ _ (@oF _ _ _ _ (@fQ _ _ _ _ _ _ _ _ (@dP _ _ _ _ _ (@dB _ _ _ _ (@je _ _ _ _ _ _ _ _ "int" rfl (by decide) rfl T.b_isinstance rfl T.b_int PyProof.Rows.boot_int (by decide) (by decide) (¬1) (by rfl) (by rfl)) (by intro _;rfl))) (@fQ _ _ _ _ _ _ _ _ (@dB _ _ _ _ (@je _ _ _ _ _ _ _ _ "bool" rfl (by decide) rfl T.b_isinstance rfl T.b_bool PyProof.Rows.boot_bool (by decide) (by decide) (¬1) (by rfl) (by rfl)) (by intro _;rfl)) (@iy _ _ _ _ _ (@dP _ _ _ _ _ (@zU _ _ _ _ _ _ _ _ _ _ _ _ _ (@DV _ _) (@ut _ _) af (¬1) (@bE _ _ _ _ _ _ _ rfl (¬0) af (fun _ _=>rfl)) (by with_unfolding_all rfl)))))))))
        (fun C s0 H0 fp=>(¬1)) rfl (by decide+kernel) (by decide+kernel) (by decide+kernel) (by decide+kernel) (by decide+kernel) (by decide+kernel) (by decide+kernel) (by intro _;rfl)) (@bL _ _ _ _ _ ac) (aG _))
      (@aj _ _ _ _ _ (@aE _ _ _ _ _ (@ig _ _ _ _ _)))
      (@aX _ _))
      (@ah _ _ _ _ _ _ _ _ (@bU _ _ _ _ _ _ _ _ _ _ _ (@aL _ _ _ _ _ _ _ _ _ (@ye _ _ _ rfl hr) (@eW _ _ _ _ _ _ _ _ _ _ _ _ _ (am d_) ["_law_web_here","_law_thing"] [(1,"_law_thing")] ["_law_one"] rfl rfl rfl (@dq _ _ _ _ _ rfl (¬1))
        (fun C s0 H0 fp=>(@aq _ _ _ 1 _ (show List.Nodup (["_law_thing","_law_one"]:List Str) by decide+kernel) rfl (Or.inl rfl) (by trivial))) (fun C s0 H0 fp=>(@ii _ _ _ _ (@aL _ _ _ _ _ _ _ _ _ (@DU _ _) (@Fi _ _ _ _ _ _ _ _ rfl (¬0) (¬1) (by rfl) (by rfl) (by rfl) (by rfl) (by rfl)) af (aG _))))
        (fun C s0 H0 fp=>(¬1)) rfl (by decide+kernel) (by decide+kernel) (by decide+kernel) (by decide+kernel) (by decide+kernel) (by decide+kernel) (by decide+kernel) (by intro _;rfl)) (@bL _ _ _ _ _ ac) (aG _))
      (@aj _ _ _ _ _ (@aE _ _ _ _ _ (@ig _ _ _ _ _)))
      (@aX _ _))
      (@aj _ _ _ _ _ (@aE _ _ _ _ _ (@lD _ _ _ _ _ _ _ _ _ (@C0 _ _ _ rfl hr) (@eW _ _ _ _ _ _ _ _ _ _ _ _ _ (am d_) ["_law_web_here","_law_thing"] [(1,"_law_thing"),(0,"_law_web_here")] ["_law_k"] rfl rfl rfl (@bG _ _ _ _ _ _ _ rfl T.b_range ((@aV _ _ _ _ _ _ _ _ _ (@b_len _ _ rfl) (by rfl) T.b_len ((¬1)∘ac) (by decide) (by decide) (by rfl) (by rfl))∘ac) (by rfl))
        (fun C s0 H0 fp=>(@aq _ _ _ 2 _ (show List.Nodup (["_law_thing","_law_web_here","_law_k"]:List Str) by decide+kernel) rfl (Or.inl rfl) (by trivial))) (fun C s0 H0 fp=>(@ii _ _ _ _ (@aL _ _ _ _ _ _ _ _ _ (@vw _ _ _ rfl hr) (@bE _ _ _ _ _ _ _ rfl (¬0) (¬2) (fun _ _=>rfl)) (@aW _ _ _ _ _ _ _ _ _ _ _ _ _ _ _ KN KZ (hr.mono (by decide)) ((¬1)∘((@bE _ _ _ _ _ _ _ rfl (¬0) (@kf _ _ _ _ _ _ _ (¬2) af) (fun _ _=>rfl))∘ac)) (by rfl) (by decide) (by rfl) (by rfl)) (by with_unfolding_all rfl))))
        (fun C s0 H0 fp=>(¬2)) rfl (by decide+kernel) (by decide+kernel) (by decide+kernel) (by decide+kernel) (by decide+kernel) (by decide+kernel) (by decide+kernel) (by intro _;rfl)) (@bL _ _ _ _ _ ac) (aG _))))))))
noncomputable def kr:FI:=(bR (ab (ae 2) ai))
noncomputable def iW:FS:=(aC (a7 8 (cV 1 aP (ab (ae 0) ai)))
    (aC (a7 9 (cV 1 aP (ab (ae 0) ai)))
    (aC (a7 10 (dy (ab (au aQ (ae 8) (ae 3)) (ab (au bN (ae 3) (au aQ (au fM (ae 8) (ae 3)) (au eT (ae 1) (ae 3)))) ai))))
    (eQ (cn bM (ae 6) (ab (au bN (ae 10) (dy (ab (cV 2 cM (ab (ae 9) (ab (ae 4) ai))) (ab (cV 2 gy (ab (au fM (ae 9) (vC (.int 10007))) (ab (ae 5) ai))) ai)))) ai))))))
noncomputable def rZ:FS:=(aC (a7 3 (au bN (vC (.int 1)) (au aQ (cV 1 aP (ab (ae 0) ai)) (au eT (ae 1) (vC (.int 1))))))
    (aC (a7 4 (au aQ (cV 1 aP (ab (ae 0) ai)) (vC (.int 4))))
    (aC (a7 5 (au aQ (cV 1 aP (ab (ae 0) ai)) (vC (.int 4))))
    (aC (a7 6 (eO ai))
    (aC (dC ([7]++([8]++([9]++([10]++[])))) kr (ag 7) iW)
    (bo (aO (g1 eL) (ab (ae 6) ai))))))))
noncomputable def jE:FM:=jG 3 8 ([3]++([4]++([5]++([6]++(([7]++([8]++([9]++([10]++[]))))++[]))))) rZ
theorem p7:aH ["_law_numbers","_law_things","_law_many","_law_cut","_law_odds","_law_worths","_law_found","_law_k","_law_number","_law_cell","_law_ends"] ["_law_numbers","_law_things","_law_many"] (am jL):=⟨rfl,rfl,rfl,by decide+kernel,rfl,by decide+kernel,by decide+kernel⟩
theorem xg(h:bg K mg "_law_across" jL f fd ["_law_numbers","_law_things","_law_many"])(T:ka mg){Kd:Addr}{Ke:FuncData}(J6:bg K mg "_law_next" iz Kd Ke ["_law_drawn"])(J8:aN P w K mg base ce 1 Kd Ke ["_law_drawn"] (cq K 1 aP)){Kk:Addr}{Kl:FuncData}(Kc:bg K mg "_law_chance" gS Kk Kl ["_law_number","_law_kind"])(Kh:aN P w K mg base ce 3 Kk Kl ["_law_number","_law_kind"] (cq K 2 cM)){KA:Addr}{KB:FuncData}(Ko:bg K mg "_law_worth" i_ KA KB ["_law_number","_law_kind"])(Kt:aN P w K mg base ce 1 KA KB ["_law_number","_law_kind"] (cq K 2 gy)):aN P w K mg base ce 4 f fd ["_law_numbers","_law_things","_law_many"] (cq K 3 jE):=by
  have nd:=p7.nd
  exact h.fn p7 rfl rfl (fun cdv A outer s H E hr=>(@ah _ _ _ _ _ _ _ _ (@av _ _ _ _ _ 3 _ _ nd rfl (Or.inl rfl) (@bA _ _ _ _ _ _ _ rfl af (@aT _ _ _ _ _ _ _ (@aW _ _ _ _ _ _ _ _ _ _ _ _ _ _ _ J6 J8 (hr.mono (by decide)) ((¬0)∘ac) (by rfl) (by decide) (by rfl) (by rfl)) (@kf _ _ _ _ _ _ _ (¬1) af))) (by rfl) (by trivial))
      (@ah _ _ _ _ _ _ _ _ (@av _ _ _ _ _ 4 _ _ nd rfl (Or.inl rfl) (@aT _ _ _ _ _ _ _ (@aW _ _ _ _ _ _ _ _ _ _ _ _ _ _ _ J6 J8 (hr.mono (by decide)) ((¬0)∘ac) (by rfl) (by decide) (by rfl) (by rfl)) af) (by rfl) (by trivial))
      (@ah _ _ _ _ _ _ _ _ (@av _ _ _ _ _ 5 _ _ nd rfl (Or.inl rfl) (@aT _ _ _ _ _ _ _ (@aW _ _ _ _ _ _ _ _ _ _ _ _ _ _ _ J6 J8 (hr.mono (by decide)) ((¬0)∘ac) (by rfl) (by decide) (by rfl) (by rfl)) af) (by rfl) (by trivial))
      (@ah _ _ _ _ _ _ _ _ (@av _ _ _ _ _ 6 _ _ nd rfl (Or.inl rfl) (@bL _ _ _ _ _ ac) (by rfl) (by trivial))
      (@ah _ _ _ _ _ _ _ _ (@eX _ _ _ _ _ _ _ _ _ _ _ PassesOwn.never rfl (@bG _ _ _ _ _ _ _ rfl T.b_range ((¬2)∘ac) (by rfl)) (@aq _ _ _ 7 _ nd rfl (Or.inl rfl) (by trivial))
      (@ah _ _ _ _ _ _ _ _ (@av _ _ _ _ _ 8 _ _ nd rfl (Or.inl rfl) (@aW _ _ _ _ _ _ _ _ _ _ _ _ _ _ _ J6 J8 (hr.mono (by decide)) ((¬0)∘ac) (by rfl) (by decide) (by rfl) (by rfl)) (by rfl) (by trivial))
      (@ah _ _ _ _ _ _ _ _ (@av _ _ _ _ _ 9 _ _ nd rfl (Or.inl rfl) (@aW _ _ _ _ _ _ _ _ _ _ _ _ _ _ _ J6 J8 (hr.mono (by decide)) ((¬0)∘ac) (by rfl) (by decide) (by rfl) (by rfl)) (by rfl) (by trivial))
      (@ah _ _ _ _ _ _ _ _ (@av _ _ _ _ _ 10 _ _ nd rfl (Or.inl rfl) (@ba _ _ _ _ _ _ ((@aT _ _ _ _ _ _ _ (¬8) (¬3))∘((@bA _ _ _ _ _ _ _ rfl (¬3) (@aT _ _ _ _ _ _ _ (@iw _ _ _ _ _ _ _ (¬8) (¬3)) (@kf _ _ _ _ _ _ _ (¬1) (¬3))))∘ac))) (by rfl) (by trivial))
      (@aj _ _ _ _ _ (@c9 _ _ _ _ _ (@cm _ _ _ _ _ _ _ _ _ rfl (¬6) ((@bA _ _ _ _ _ _ _ rfl (¬10) (@ba _ _ _ _ _ _ ((@aW _ _ _ _ _ _ _ _ _ _ _ _ _ _ _ Kc Kh (hr.mono (by decide)) ((¬9)∘((¬4)∘ac)) (by rfl) (by decide) (by rfl) (by rfl))∘((@aW _ _ _ _ _ _ _ _ _ _ _ _ _ _ _ Ko Kt (hr.mono (by decide)) ((@iw _ _ _ _ _ _ _ (¬9) af)∘((¬5)∘ac)) (by rfl) (by decide) (by rfl) (by rfl))∘ac))))∘ac) (by rfl) (by rfl) (by rfl) (by rfl) (by rfl)) (by rfl)))))) (by intro _;rfl))
      (@aj _ _ _ _ _ (@aE _ _ _ _ _ (@aV _ _ _ _ _ _ _ _ _ (@b_tuple _ _ rfl) (by rfl) T.b_tuple ((¬6)∘ac) (by decide) (by decide) (by rfl) (by rfl))))))))))
noncomputable def jA:FI:=(gw (ae 2))
noncomputable def fJ:FS:=(eQ (cn bM (ae 6) (ab (dy (ab (aO (g2 qL) (ab (au eh (ae 4) (ae 7)) (ab (au eh (ae 4) (ae 8)) ai))) (ab (aO (g2 m5) (ab (au eh (ae 4) (ae 7)) (ab (au eh (ae 4) (ae 8)) ai))) (ab (ae 9) (ab (ae 10) ai))))) ai)))
noncomputable def jB:FI:=(bR (ab (ae 1) ai))
noncomputable def g_:FS:=(eQ (cn bM (ae 4) (ab (cn ky (ae 3) (ab (au aQ (cV 1 aP (ab (ae 0) ai)) (aO (g1 gM) (ab (ae 3) ai))) ai)) ai)))
noncomputable def lY:FS:=(aC (a7 3 (lU (ab (ae 1) ai)))
    (aC (a7 4 (eO ai))
    (aC (dC ([5]++[]) jB (ag 5) g_)
    (aC (a7 6 (eO ai))
    (aC (dC (([7]++([8]++([9]++([10]++[]))))++[]) jA (dj (ao (ag 7) (ao (ag 8) (ao (ag 9) (ao (ag 10) cL))))) fJ)
    (bo (aO (g1 eL) (ab (ae 6) ai))))))))
noncomputable def dX:FM:=jG 3 8 ([3]++([4]++(([5]++[])++([6]++((([7]++([8]++([9]++([10]++[]))))++[])++[]))))) lY
theorem oK:aH ["_law_numbers","_law_things","_law_ties_here","_law_left","_law_names","_law_k","_law_found","_law_one","_law_other","_law_chance_here","_law_worth_here"] ["_law_numbers","_law_things","_law_ties_here"] (am gF):=⟨rfl,rfl,rfl,by decide+kernel,rfl,by decide+kernel,by decide+kernel⟩
theorem uK(h:bg K mg "_law_renamed" gF f fd ["_law_numbers","_law_things","_law_ties_here"])(T:ka mg){Kd:Addr}{Ke:FuncData}(J6:bg K mg "_law_next" iz Kd Ke ["_law_drawn"])(J8:aN P w K mg base ce 1 Kd Ke ["_law_drawn"] (cq K 1 aP)):aN P w K mg base ce 2 f fd ["_law_numbers","_law_things","_law_ties_here"] (cq K 3 dX):=by
  have nd:=oK.nd
  exact h.fn oK rfl rfl (fun cdv A outer s H E hr=>(@ah _ _ _ _ _ _ _ _ (@av _ _ _ _ _ 3 _ _ nd rfl (Or.inl rfl) (@tG _ _ _ _ _ _ _ _ rfl rfl T.b_list rfl T.b_range ((¬1)∘ac) (by rfl) (by rfl)) (by rfl) (by trivial))
      (@ah _ _ _ _ _ _ _ _ (@av _ _ _ _ _ 4 _ _ nd rfl (Or.inl rfl) (@bL _ _ _ _ _ ac) (by rfl) (by trivial))
      (@ah _ _ _ _ _ _ _ _ (@eX _ _ _ _ _ _ _ _ _ _ _ PassesOwn.never rfl (@bG _ _ _ _ _ _ _ rfl T.b_range ((¬1)∘ac) (by rfl)) (@aq _ _ _ 5 _ nd rfl (Or.inl rfl) (by trivial))
      (@aj _ _ _ _ _ (@c9 _ _ _ _ _ (@cm _ _ _ _ _ _ _ _ _ rfl (¬4) ((@vZ _ _ _ _ _ _ _ _ _ rfl (¬3) ((@aT _ _ _ _ _ _ _ (@aW _ _ _ _ _ _ _ _ _ _ _ _ _ _ _ J6 J8 (hr.mono (by decide)) ((¬0)∘ac) (by rfl) (by decide) (by rfl) (by rfl)) (@aV _ _ _ _ _ _ _ _ _ (@b_len _ _ rfl) (by rfl) T.b_len ((¬3)∘ac) (by decide) (by decide) (by rfl) (by rfl)))∘ac) (by rfl) (by rfl) (by rfl) (by rfl) (by rfl))∘ac) (by rfl) (by rfl) (by rfl) (by rfl) (by rfl)) (by rfl))) (by intro _;rfl))
      (@ah _ _ _ _ _ _ _ _ (@av _ _ _ _ _ 6 _ _ nd rfl (Or.inl rfl) (@bL _ _ _ _ _ ac) (by rfl) (by trivial))
      (@ah _ _ _ _ _ _ _ _ (@eX _ _ _ _ _ _ _ _ _ _ _ PassesOwn.never rfl (@dq _ _ _ _ _ rfl (¬2)) (@kL _ _ _ _ _ _ _ _ rfl rfl (@aZ _ _ _ _ _ _ _ _ (@aq _ _ _ 7 _ nd rfl (Or.inl rfl) (by trivial)) (@aZ _ _ _ _ _ _ _ _ (@aq _ _ _ 8 _ nd rfl (Or.inl rfl) (by trivial)) (@aZ _ _ _ _ _ _ _ _ (@aq _ _ _ 9 _ nd rfl (Or.inl rfl) (by trivial)) (@aZ _ _ _ _ _ _ _ _ (@aq _ _ _ 10 _ nd rfl (Or.inl rfl) (by trivial)) (@i9 _ _) (by rfl)) (by rfl)) (by rfl)) (by rfl)) (bf (bf (bf (bf ko)))) (by rfl) (by rfl))
      (@aj _ _ _ _ _ (@c9 _ _ _ _ _ (@cm _ _ _ _ _ _ _ _ _ rfl (¬6) ((@ba _ _ _ _ _ _ ((@aV _ _ _ _ _ _ _ _ _ (@b_min _ _ rfl) (by rfl) T.b_min ((@bE _ _ _ _ _ _ _ rfl (¬4) (¬7) (fun _ _=>rfl))∘((@bE _ _ _ _ _ _ _ rfl (¬4) (¬8) (fun _ _=>rfl))∘ac)) (by decide) (by decide) (by rfl) (by rfl))∘((@aV _ _ _ _ _ _ _ _ _ (@b_max _ _ rfl) (by rfl) T.b_max ((@bE _ _ _ _ _ _ _ rfl (¬4) (¬7) (fun _ _=>rfl))∘((@bE _ _ _ _ _ _ _ rfl (¬4) (¬8) (fun _ _=>rfl))∘ac)) (by decide) (by decide) (by rfl) (by rfl))∘((¬9)∘((¬10)∘ac)))))∘ac) (by rfl) (by rfl) (by rfl) (by rfl) (by rfl)) (by rfl))) (by intro _;rfl))
      (@aj _ _ _ _ _ (@aE _ _ _ _ _ (@aV _ _ _ _ _ _ _ _ _ (@b_tuple _ _ rfl) (by rfl) T.b_tuple ((¬6)∘ac) (by decide) (by decide) (by rfl) (by rfl))))))))))
noncomputable def md:FI:=(bR (ab (ae 2) ai))
noncomputable def jU:FS:=(aC (a7 5 (cV 1 aP (ab (ae 0) ai)))
    (aC (a7 6 (dy (ab (aO (g2 qL) (ab (ae 4) (ab (au aQ (au bN (ae 4) (vC (.int 1))) (ae 2)) ai))) (ab (aO (g2 m5) (ab (ae 4) (ab (au aQ (au bN (ae 4) (vC (.int 1))) (ae 2)) ai))) ai))))
    (eQ (cn bM (ae 3) (ab (au bN (ae 6) (dy (ab (cV 2 cM (ab (ae 5) (ab (vC (.int 1)) ai))) (ab (cV 2 gy (ab (au fM (ae 5) (vC (.int 10007))) (ab (vC (.int 2)) ai))) ai)))) ai)))))
noncomputable def vq:FS:=(aC (a7 3 (eO ai))
    (aC (dC ([4]++([5]++([6]++[]))) md (ag 4) jU)
    (bo (cV 3 dX (ab (ae 0) (ab (ae 1) (ab (ae 3) ai)))))))
noncomputable def lm:FM:=jG 3 4 ([3]++(([4]++([5]++([6]++[])))++[])) vq
theorem tT:aH ["_law_numbers","_law_things","_law_size","_law_found","_law_k","_law_cell","_law_ends"] ["_law_numbers","_law_things","_law_size"] (am lJ):=⟨rfl,rfl,rfl,by decide+kernel,rfl,by decide+kernel,by decide+kernel⟩
theorem zr(h:bg K mg "_law_round" lJ f fd ["_law_numbers","_law_things","_law_size"])(T:ka mg){KC:Addr}{KD:FuncData}(Kj:bg K mg "_law_renamed" gF KC KD ["_law_numbers","_law_things","_law_ties_here"])(Kp:aN P w K mg base ce 2 KC KD ["_law_numbers","_law_things","_law_ties_here"] (cq K 3 dX)){Kd:Addr}{Ke:FuncData}(J6:bg K mg "_law_next" iz Kd Ke ["_law_drawn"])(J8:aN P w K mg base ce 1 Kd Ke ["_law_drawn"] (cq K 1 aP)){Kk:Addr}{Kl:FuncData}(Kc:bg K mg "_law_chance" gS Kk Kl ["_law_number","_law_kind"])(Kh:aN P w K mg base ce 3 Kk Kl ["_law_number","_law_kind"] (cq K 2 cM)){KA:Addr}{KB:FuncData}(Ko:bg K mg "_law_worth" i_ KA KB ["_law_number","_law_kind"])(Kt:aN P w K mg base ce 1 KA KB ["_law_number","_law_kind"] (cq K 2 gy)):aN P w K mg base ce 4 f fd ["_law_numbers","_law_things","_law_size"] (cq K 3 lm):=by
  have nd:=tT.nd
  exact h.fn tT rfl rfl (fun cdv A outer s H E hr=>(@ah _ _ _ _ _ _ _ _ (@av _ _ _ _ _ 3 _ _ nd rfl (Or.inl rfl) (@bL _ _ _ _ _ ac) (by rfl) (by trivial))
      (@ah _ _ _ _ _ _ _ _ (@eX _ _ _ _ _ _ _ _ _ _ _ PassesOwn.never rfl (@bG _ _ _ _ _ _ _ rfl T.b_range ((¬2)∘ac) (by rfl)) (@aq _ _ _ 4 _ nd rfl (Or.inl rfl) (by trivial))
      (@ah _ _ _ _ _ _ _ _ (@av _ _ _ _ _ 5 _ _ nd rfl (Or.inl rfl) (@aW _ _ _ _ _ _ _ _ _ _ _ _ _ _ _ J6 J8 (hr.mono (by decide)) ((¬0)∘ac) (by rfl) (by decide) (by rfl) (by rfl)) (by rfl) (by trivial))
      (@ah _ _ _ _ _ _ _ _ (@av _ _ _ _ _ 6 _ _ nd rfl (Or.inl rfl) (@ba _ _ _ _ _ _ ((@aV _ _ _ _ _ _ _ _ _ (@b_min _ _ rfl) (by rfl) T.b_min ((¬4)∘((@aT _ _ _ _ _ _ _ (@bA _ _ _ _ _ _ _ rfl (¬4) af) (¬2))∘ac)) (by decide) (by decide) (by rfl) (by rfl))∘((@aV _ _ _ _ _ _ _ _ _ (@b_max _ _ rfl) (by rfl) T.b_max ((¬4)∘((@aT _ _ _ _ _ _ _ (@bA _ _ _ _ _ _ _ rfl (¬4) af) (¬2))∘ac)) (by decide) (by decide) (by rfl) (by rfl))∘ac))) (by rfl) (by trivial))
      (@aj _ _ _ _ _ (@c9 _ _ _ _ _ (@cm _ _ _ _ _ _ _ _ _ rfl (¬3) ((@bA _ _ _ _ _ _ _ rfl (¬6) (@ba _ _ _ _ _ _ ((@aW _ _ _ _ _ _ _ _ _ _ _ _ _ _ _ Kc Kh (hr.mono (by decide)) ((¬5)∘(af∘ac)) (by rfl) (by decide) (by rfl) (by rfl))∘((@aW _ _ _ _ _ _ _ _ _ _ _ _ _ _ _ Ko Kt (hr.mono (by decide)) ((@iw _ _ _ _ _ _ _ (¬5) af)∘(af∘ac)) (by rfl) (by decide) (by rfl) (by rfl))∘ac))))∘ac) (by rfl) (by rfl) (by rfl) (by rfl) (by rfl)) (by rfl))))) (by intro _;rfl))
      (@aj _ _ _ _ _ (@aE _ _ _ _ _ (@aW _ _ _ _ _ _ _ _ _ _ _ _ _ _ _ Kj Kp (hr.mono (by decide)) ((¬0)∘((¬1)∘((¬3)∘ac))) (by rfl) (by decide) (by rfl) (by rfl)))))))
noncomputable def gH:FS:=(aC (a7 3 (au bN (vC (.int 2)) (au aQ (cV 1 aP (ab (ae 0) ai)) (au eT (ae 1) (vC (.int 1))))))
    (aC (a7 4 (au aQ (cV 1 aP (ab (ae 0) ai)) (vC (.int 4))))
    (aC (iC (aB (au (bK false) (ae 4) (vC (.int 0))))
    (bo (cV 3 sS (ab (ae 0) (ab (ae 1) (ab (ae 2) ai)))))
    dD)
    (aC (a7 5 (cV 3 dX (ab (ae 0) (ab (ae 3) (ab (cV 3 jE (ab (ae 0) (ab (ae 3) (ab (au aQ (cV 1 aP (ab (ae 0) ai)) (au bN (ae 2) (vC (.int 1)))) ai)))) ai)))))
    (aC (iC (aB (au (bK false) (ae 4) (vC (.int 1))))
    (aC (a7 6 (au bN (vC (.int 3)) (au aQ (cV 1 aP (ab (ae 0) ai)) (aO (g2 m5) (ab (vC (.int 1)) (ab (au eT (ae 3) (vC (.int 2))) ai))))))
    (aC (a7 5 (cV 3 lm (ab (ae 0) (ab (aO (g2 m5) (ab (ae 3) (ab (vC (.int 3)) ai))) (ab (aO (g2 qL) (ab (ae 6) (ab (aO (g2 m5) (ab (ae 3) (ab (vC (.int 3)) ai))) ai))) ai)))))
    (aC (a7 3 (aO (g2 m5) (ab (ae 3) (ab (vC (.int 3)) ai))))
    (a7 5 (va (au bN (ae 5) (cV 3 jF (ab (ae 0) (ab (ae 3) (ab (au aQ (cV 1 aP (ab (ae 0) ai)) (vC (.int 4))) ai))))) iL (ie (ae 2)))))))
    dD)
    (aC (iC (aB (au (bK false) (ae 4) (vC (.int 2))))
    (a7 5 (va (au bN (ae 5) (cV 3 jF (ab (ae 0) (ab (ae 3) (ab (vC (.int 1)) ai))))) iL (ie (ae 2))))
    dD)
    (bo (dy (ab (ae 3) (ab (ae 5) (ab (au jy (dy (ab (au bN (vC (.int 1)) (au aQ (cV 1 aP (ab (ae 0) ai)) (vC (.int 20)))) ai)) (ae 3)) (ab (au aQ (cV 1 aP (ab (ae 0) ai)) (vC (.int 41))) ai))))))))))))
noncomputable def dk:FM:=jG 3 4 ([3]++([4]++(([]++[])++([5]++((([6]++([5]++([3]++[5])))++[])++(([5]++[])++[])))))) gH
theorem mT:aH ["_law_numbers","_law_most","_law_many","_law_things","_law_sort","_law_ties_here","_law_size"] ["_law_numbers","_law_most","_law_many"] (am gU):=⟨rfl,rfl,rfl,by decide+kernel,rfl,by decide+kernel,by decide+kernel⟩
theorem sZ(h:bg K mg "_law_side_web" gU f fd ["_law_numbers","_law_most","_law_many"])(T:ka mg){KC:Addr}{KD:FuncData}(Kj:bg K mg "_law_renamed" gF KC KD ["_law_numbers","_law_things","_law_ties_here"])(Kp:aN P w K mg base ce 2 KC KD ["_law_numbers","_law_things","_law_ties_here"] (cq K 3 dX)){Kd:Addr}{Ke:FuncData}(J6:bg K mg "_law_next" iz Kd Ke ["_law_drawn"])(J8:aN P w K mg base ce 1 Kd Ke ["_law_drawn"] (cq K 1 aP)){L7:Addr}{L8:FuncData}(LX:bg K mg "_law_web" tP L7 L8 ["_law_drawn","_law_most","_law_ties_here"])(L1:aN P w K mg base ce 5 L7 L8 ["_law_drawn","_law_most","_law_ties_here"] (cq K 3 sS)){LG:Addr}{LH:FuncData}(K7:bg K mg "_law_across" jL LG LH ["_law_numbers","_law_things","_law_many"])(Ls:aN P w K mg base ce 4 LG LH ["_law_numbers","_law_things","_law_many"] (cq K 3 jE)){LO:Addr}{LP:FuncData}(Lu:bg K mg "_law_round" lJ LO LP ["_law_numbers","_law_things","_law_size"])(LD:aN P w K mg base ce 4 LO LP ["_law_numbers","_law_things","_law_size"] (cq K 3 lm)){Ly:Addr}{Lz:FuncData}(K2:bg K mg "_law_ties" mx Ly Lz ["_law_drawn","_law_things","_law_many"])(Lc:aN P w K mg base ce 4 Ly Lz ["_law_drawn","_law_things","_law_many"] (cq K 3 jF)):aN P w K mg base ce 6 f fd ["_law_numbers","_law_most","_law_many"] (cq K 3 dk):=by
  have nd:=mT.nd
  exact h.fn mT rfl rfl (fun cdv A outer s H E hr=>(@ah _ _ _ _ _ _ _ _ (@av _ _ _ _ _ 3 _ _ nd rfl (Or.inl rfl) (@bA _ _ _ _ _ _ _ rfl af (@aT _ _ _ _ _ _ _ (@aW _ _ _ _ _ _ _ _ _ _ _ _ _ _ _ J6 J8 (hr.mono (by decide)) ((¬0)∘ac) (by rfl) (by decide) (by rfl) (by rfl)) (@kf _ _ _ _ _ _ _ (¬1) af))) (by rfl) (by trivial))
      (@ah _ _ _ _ _ _ _ _ (@av _ _ _ _ _ 4 _ _ nd rfl (Or.inl rfl) (@aT _ _ _ _ _ _ _ (@aW _ _ _ _ _ _ _ _ _ _ _ _ _ _ _ J6 J8 (hr.mono (by decide)) ((¬0)∘ac) (by rfl) (by decide) (by rfl) (by rfl)) af) (by rfl) (by trivial))
      (@ah _ _ _ _ _ _ _ _ (@bU _ _ _ _ _ _ _ _ _ _ _ (@aL _ _ _ _ _ _ _ _ _ (@jh _ _ _ rfl hr) (¬4) af (aG _))
      (@aj _ _ _ _ _ (@aE _ _ _ _ _ (@aW _ _ _ _ _ _ _ _ _ _ _ _ _ _ _ LX L1 (hr.mono (by decide)) ((¬0)∘((¬1)∘((¬2)∘ac))) (by rfl) (by decide) (by rfl) (by rfl))))
      (@aX _ _))
      (@ah _ _ _ _ _ _ _ _ (@av _ _ _ _ _ 5 _ _ nd rfl (Or.inl rfl) (@aW _ _ _ _ _ _ _ _ _ _ _ _ _ _ _ Kj Kp (hr.mono (by decide)) ((¬0)∘((¬3)∘((@aW _ _ _ _ _ _ _ _ _ _ _ _ _ _ _ K7 Ls (hr.mono (by decide)) ((¬0)∘((¬3)∘((@aT _ _ _ _ _ _ _ (@aW _ _ _ _ _ _ _ _ _ _ _ _ _ _ _ J6 J8 (hr.mono (by decide)) ((¬0)∘ac) (by rfl) (by decide) (by rfl) (by rfl)) (@bA _ _ _ _ _ _ _ rfl (¬2) af))∘ac))) (by rfl) (by decide) (by rfl) (by rfl))∘ac))) (by rfl) (by decide) (by rfl) (by rfl)) (by rfl) (by trivial))
      (@ah _ _ _ _ _ _ _ _ (@bU _ _ _ _ _ _ _ _ _ _ _ (@aL _ _ _ _ _ _ _ _ _ (@jh _ _ _ rfl hr) (¬4) af (aG _))
      (@ah _ _ _ _ _ _ _ _ (@av _ _ _ _ _ 6 _ _ nd rfl (Or.inl rfl) (@bA _ _ _ _ _ _ _ rfl af (@aT _ _ _ _ _ _ _ (@aW _ _ _ _ _ _ _ _ _ _ _ _ _ _ _ J6 J8 (hr.mono (by decide)) ((¬0)∘ac) (by rfl) (by decide) (by rfl) (by rfl)) (@aV _ _ _ _ _ _ _ _ _ (@b_max _ _ rfl) (by rfl) T.b_max (af∘((@kf _ _ _ _ _ _ _ (¬3) af)∘ac)) (by decide) (by decide) (by rfl) (by rfl)))) (by rfl) (by trivial))
      (@ah _ _ _ _ _ _ _ _ (@av _ _ _ _ _ 5 _ _ nd rfl (Or.inl rfl) (@aW _ _ _ _ _ _ _ _ _ _ _ _ _ _ _ Lu LD (hr.mono (by decide)) ((¬0)∘((@aV _ _ _ _ _ _ _ _ _ (@b_max _ _ rfl) (by rfl) T.b_max ((¬3)∘(af∘ac)) (by decide) (by decide) (by rfl) (by rfl))∘((@aV _ _ _ _ _ _ _ _ _ (@b_min _ _ rfl) (by rfl) T.b_min ((¬6)∘((@aV _ _ _ _ _ _ _ _ _ (@b_max _ _ rfl) (by rfl) T.b_max ((¬3)∘(af∘ac)) (by decide) (by decide) (by rfl) (by rfl))∘ac)) (by decide) (by decide) (by rfl) (by rfl))∘ac))) (by rfl) (by decide) (by rfl) (by rfl)) (by rfl) (by trivial))
      (@ah _ _ _ _ _ _ _ _ (@av _ _ _ _ _ 3 _ _ nd rfl (Or.inl rfl) (@aV _ _ _ _ _ _ _ _ _ (@b_max _ _ rfl) (by rfl) T.b_max ((¬3)∘(af∘ac)) (by decide) (by decide) (by rfl) (by rfl)) (by rfl) (by trivial))
      (@aj _ _ _ _ _ (@av _ _ _ _ _ 5 _ _ nd rfl (Or.inl rfl) (@fy _ _ _ _ _ _ _ _ _ _ rfl (@bA _ _ _ _ _ _ _ rfl (¬5) (@aW _ _ _ _ _ _ _ _ _ _ _ _ _ _ _ K2 Lc (hr.mono (by decide)) ((¬0)∘((¬3)∘((@aT _ _ _ _ _ _ _ (@aW _ _ _ _ _ _ _ _ _ _ _ _ _ _ _ J6 J8 (hr.mono (by decide)) ((¬0)∘ac) (by rfl) (by decide) (by rfl) (by rfl)) af)∘ac))) (by rfl) (by decide) (by rfl) (by rfl))) (@fB _ _) (@fD _ _ _ _ (¬2))) (by rfl) (by trivial))))))
      (@aX _ _))
      (@ah _ _ _ _ _ _ _ _ (@bU _ _ _ _ _ _ _ _ _ _ _ (@aL _ _ _ _ _ _ _ _ _ (@jh _ _ _ rfl hr) (¬4) af (aG _))
      (@aj _ _ _ _ _ (@av _ _ _ _ _ 5 _ _ nd rfl (Or.inl rfl) (@fy _ _ _ _ _ _ _ _ _ _ rfl (@bA _ _ _ _ _ _ _ rfl (¬5) (@aW _ _ _ _ _ _ _ _ _ _ _ _ _ _ _ K2 Lc (hr.mono (by decide)) ((¬0)∘((¬3)∘(af∘ac))) (by rfl) (by decide) (by rfl) (by rfl))) (@fB _ _) (@fD _ _ _ _ (¬2))) (by rfl) (by trivial)))
      (@aX _ _))
      (@aj _ _ _ _ _ (@aE _ _ _ _ _ (@ba _ _ _ _ _ _ ((¬3)∘((¬5)∘((@mS _ _ _ _ _ _ _ rfl (@ba _ _ _ _ _ _ ((@bA _ _ _ _ _ _ _ rfl af (@aT _ _ _ _ _ _ _ (@aW _ _ _ _ _ _ _ _ _ _ _ _ _ _ _ J6 J8 (hr.mono (by decide)) ((¬0)∘ac) (by rfl) (by decide) (by rfl) (by rfl)) af))∘ac)) (¬3))∘((@aT _ _ _ _ _ _ _ (@aW _ _ _ _ _ _ _ _ _ _ _ _ _ _ _ J6 J8 (hr.mono (by decide)) ((¬0)∘ac) (by rfl) (by decide) (by rfl) (by rfl)) af)∘ac))))))))))))))
noncomputable def Jp:FI:=(bR (ab (au bN (vC (.int 4)) (aO (g2 qL) (ab (vC (.int 10)) (ab (au jy (vC (.int 2)) (aO (g1 gM) (ab (ae 0) ai))) ai)))) ai))
noncomputable def GE:FS:=(aC (a7 3 (cV 3 dk (ab (ae 1) (ab (vC (.int 12)) (ab (vC (.int 16)) ai)))))
    (aC (a7 4 (cV 1 ic (ab (ae 3) ai)))
    (aC (iC (oY (iS (aB (oW (gL "tuple") (ae 4)))) (oY (aB (au (bK true) (aO (g1 gM) (ab (ae 4) ai)) (vC (.int 2)))) (iS (aB (oW (gL "str") (au eh (ae 4) (vC (.int 0))))))))
    (bo (vC (.bool false)))
    dD)
    (aC (iC (aB (au GN (cV 1 dY (ab (ae 3) ai)) (vC .none)))
    (iC (oY (aB (au (bK true) (au eh (ae 4) (vC (.int 0))) (vC (.str ("ring":Str))))) (oY (iS (aB (cV 2 cS (ab (ae 3) (ab (au eh (ae 4) (vC (.int 1))) ai))))) (aB (au jx (cV 2 bS (ab (ae 3) (ab (au eh (ae 4) (vC (.int 1))) ai))) (vC (.bool true))))))
    (bo (vC (.bool false)))
    dD)
    (iC (oY (aB (au (bK true) (au eh (ae 4) (vC (.int 0))) (vC (.str ("sides":Str))))) (oY (iS (aB (cV 2 cw (ab (ae 3) (ab (au eh (ae 4) (vC (.int 1))) ai))))) (aB (au jx (cV 2 cD (ab (ae 3) (ab (au eh (ae 4) (vC (.int 1))) ai))) (vC (.bool true))))))
    (bo (vC (.bool false)))
    dD))
    (iC (iS (aB (cV 2 kx (ab (cV 1 ic (ab (ae 3) ai)) (ab (ae 4) ai)))))
    (bo (vC (.bool false)))
    dD)))))
noncomputable def CY:FS:=(aC (a7 1 (cV 1 lj (ab (ae 0) ai)))
    (aC (dC ([2]++([3]++([4]++(([]++[])++((([]++[])++([]++[]))++([]++[])))))) Jp (ag 2) GE)
    (bo (cV 2 kx (ab (cV 1 ic (ab (dy (ab (vC (.int 0)) (ab (dy ai) (ab (dy ai) (ab (vC (.int 0)) ai))))) ai)) (ab (dy (ab (vC (.str ("sides":Str))) (ab (dy ai) ai))) ai))))))
noncomputable def om:FM:=jG 1 4 ([1]++(([2]++([3]++([4]++(([]++[])++((([]++[])++([]++[]))++([]++[]))))))++[])) CY
theorem Aq:aH ["_law_script","_law_numbers","_law_turn","_law_web_here","_law_found"] ["_law_script"] (am oI):=⟨rfl,rfl,rfl,by decide+kernel,rfl,by decide+kernel,by decide+kernel⟩
theorem Ez(h:bg K mg "law" oI f fd ["_law_script"])(T:ka mg){LQ:Addr}{LR:FuncData}(Lv:bg K mg "_law_draws" lH LQ LR ["_law_script"])(LF:aN P w K mg base ce 2 LQ LR ["_law_script"] (cq K 1 lj)){LY:Addr}{LZ:FuncData}(LA:bg K mg "_law_same" oH LY LZ ["_law_found","_law_due"])(LJ:aN P w K mg base ce 1 LY LZ ["_law_found","_law_due"] (cq K 2 kx)){Lp:Addr}{Lq:FuncData}(KJ:bg K mg "_law_side_web" gU Lp Lq ["_law_numbers","_law_most","_law_many"])(K0:aN P w K mg base ce 6 Lp Lq ["_law_numbers","_law_most","_law_many"] (cq K 3 dk)){LS:Addr}{LU:FuncData}(K1:bg K mg "sides" jb LS LU ["web"])(Lf:aN P w K mg base ce 3 LS LU ["web"] (cq K 1 ic)){Lg:Addr}{Lh:FuncData}(Ku:bg K mg "_law_two_sided" ef Lg Lh ["_law_web_here"])(KO:aN P w K mg base ce 2 Lg Lh ["_law_web_here"] (cq K 1 dY)){LB:Addr}{LC:FuncData}(KU:bg K mg "_law_is_ring" d_ LB LC ["_law_web_here","_law_thing"])(Li:aN P w K mg base ce 2 LB LC ["_law_web_here","_law_thing"] (cq K 2 cS)){K3:Addr}{K4:FuncData}(Km:bg K mg "ring_holds" dw K3 K4 ["web","thing"])(KF:aN P w K mg base ce 4 K3 K4 ["web","thing"] (cq K 2 bS)){Lj:Addr}{Lk:FuncData}(Kv:bg K mg "_law_are_sides" dr Lj Lk ["_law_web_here","_law_thing"])(KP:aN P w K mg base ce 1 Lj Lk ["_law_web_here","_law_thing"] (cq K 2 cw)){K5:Addr}{K6:FuncData}(Kn:bg K mg "sides_hold" cF K5 K6 ["web","thing"])(KG:aN P w K mg base ce 3 K5 K6 ["web","thing"] (cq K 2 cD)):aN P w K mg base ce 7 f fd ["_law_script"] (cq K 1 om):=by
  have nd:=Aq.nd
  exact h.fn Aq rfl rfl (fun cdv A outer s H E hr=>(@ah _ _ _ _ _ _ _ _ (@av _ _ _ _ _ 1 _ _ nd rfl (Or.inl rfl) (@aW _ _ _ _ _ _ _ _ _ _ _ _ _ _ _ Lv LF (hr.mono (by decide)) ((¬0)∘ac) (by rfl) (by decide) (by rfl) (by rfl)) (by rfl) (by trivial))
      (@ah _ _ _ _ _ _ _ _ (@eX _ _ _ _ _ _ _ _ _ _ _ PassesOwn.never rfl (@bG _ _ _ _ _ _ _ rfl T.b_range ((@bA _ _ _ _ _ _ _ rfl af (@aV _ _ _ _ _ _ _ _ _ (@b_min _ _ rfl) (by rfl) T.b_min (af∘((@mS _ _ _ _ _ _ _ rfl af (@aV _ _ _ _ _ _ _ _ _ (@b_len _ _ rfl) (by rfl) T.b_len ((¬0)∘ac) (by decide) (by decide) (by rfl) (by rfl)))∘ac)) (by decide) (by decide) (by rfl) (by rfl)))∘ac) (by rfl)) (@aq _ _ _ 2 _ nd rfl (Or.inl rfl) (by trivial))
      (@ah _ _ _ _ _ _ _ _ (@av _ _ _ _ _ 3 _ _ nd rfl (Or.inl rfl) (@aW _ _ _ _ _ _ _ _ _ _ _ _ _ _ _ KJ K0 (hr.mono (by decide)) ((¬1)∘(af∘(af∘ac))) (by rfl) (by decide) (by rfl) (by rfl)) (by rfl) (by trivial))
      (@ah _ _ _ _ _ _ _ _ (@av _ _ _ _ _ 4 _ _ nd rfl (Or.inl rfl) (@aW _ _ _ _ _ _ _ _ _ _ _ _ _ _ _ K1 Lf (hr.mono (by decide)) ((¬3)∘ac) (by rfl) (by decide) (by rfl) (by rfl)) (by rfl) (by trivial))
      (@ah _ _ _ _ _ _ _ _ (@bU _ _ _ _ _ _ _ _ _ _ _ (@oF _ _ _ _ (@fQ _ _ _ _ _ _ _ _ (@dP _ _ _ _ _ (@dB _ _ _ _ (@je _ _ _ _ _ _ _ _ "tuple" rfl (by decide) rfl T.b_isinstance rfl T.b_tuple PyProof.Rows.boot_tuple (by decide) (by decide) (¬4) (by rfl) (by rfl)) (by intro _;rfl))) (@fQ _ _ _ _ _ _ _ _ (@aL _ _ _ _ _ _ _ _ _ (@r6 _ _ _ rfl hr) (@aV _ _ _ _ _ _ _ _ _ (@b_len _ _ rfl) (by rfl) T.b_len ((¬4)∘ac) (by decide) (by decide) (by rfl) (by rfl)) af (aG _)) (@iy _ _ _ _ _ (@dP _ _ _ _ _ (@dB _ _ _ _ (@je _ _ _ _ _ _ _ _ "str" rfl (by decide) rfl T.b_isinstance rfl T.b_str PyProof.Rows.boot_str (by decide) (by decide) (@bE _ _ _ _ _ _ _ rfl (¬4) af (fun _ _=>rfl)) (by rfl) (by rfl)) (by intro _;rfl)))))))
      (@aj _ _ _ _ _ (@aE _ _ _ _ _ (@ig _ _ _ _ _)))
      (@aX _ _))
      (@ah _ _ _ _ _ _ _ _ (@bU _ _ _ _ _ _ _ _ _ _ _ (@aL _ _ _ _ _ _ _ _ _ (@IB _ _) (@aW _ _ _ _ _ _ _ _ _ _ _ _ _ _ _ Ku KO (hr.mono (by decide)) ((¬3)∘ac) (by rfl) (by decide) (by rfl) (by rfl)) (@rE _ _ _ _) (aG _))
      (@aj _ _ _ _ _ (@bU _ _ _ _ _ _ _ _ _ _ _ (@oF _ _ _ _ (@fQ _ _ _ _ _ _ _ _ (@aL _ _ _ _ _ _ _ _ _ (@r6 _ _ _ rfl hr) (@bE _ _ _ _ _ _ _ rfl (¬4) af (fun _ _=>rfl)) (@oD _ _ _ _ _) (aG _)) (@fQ _ _ _ _ _ _ _ _ (@dP _ _ _ _ _ (@dB _ _ _ _ (@aW _ _ _ _ _ _ _ _ _ _ _ _ _ _ _ KU Li (hr.mono (by decide)) ((¬3)∘((@bE _ _ _ _ _ _ _ rfl (¬4) af (fun _ _=>rfl))∘ac)) (by rfl) (by decide) (by rfl) (by rfl)) (by intro _;rfl))) (@iy _ _ _ _ _ (@aL _ _ _ _ _ _ _ _ _ (@qr _ _) (@aW _ _ _ _ _ _ _ _ _ _ _ _ _ _ _ Km KF (hr.mono (by decide)) ((¬3)∘((@bE _ _ _ _ _ _ _ rfl (¬4) af (fun _ _=>rfl))∘ac)) (by rfl) (by decide) (by rfl) (by rfl)) (@ig _ _ _ _ _) (aG _))))))
      (@aj _ _ _ _ _ (@aE _ _ _ _ _ (@ig _ _ _ _ _)))
      (@aX _ _)))
      (@aj _ _ _ _ _ (@bU _ _ _ _ _ _ _ _ _ _ _ (@oF _ _ _ _ (@fQ _ _ _ _ _ _ _ _ (@aL _ _ _ _ _ _ _ _ _ (@r6 _ _ _ rfl hr) (@bE _ _ _ _ _ _ _ rfl (¬4) af (fun _ _=>rfl)) (@oD _ _ _ _ _) (aG _)) (@fQ _ _ _ _ _ _ _ _ (@dP _ _ _ _ _ (@dB _ _ _ _ (@aW _ _ _ _ _ _ _ _ _ _ _ _ _ _ _ Kv KP (hr.mono (by decide)) ((¬3)∘((@bE _ _ _ _ _ _ _ rfl (¬4) af (fun _ _=>rfl))∘ac)) (by rfl) (by decide) (by rfl) (by rfl)) (by intro _;rfl))) (@iy _ _ _ _ _ (@aL _ _ _ _ _ _ _ _ _ (@qr _ _) (@aW _ _ _ _ _ _ _ _ _ _ _ _ _ _ _ Kn KG (hr.mono (by decide)) ((¬3)∘((@bE _ _ _ _ _ _ _ rfl (¬4) af (fun _ _=>rfl))∘ac)) (by rfl) (by decide) (by rfl) (by rfl)) (@ig _ _ _ _ _) (aG _))))))
      (@aj _ _ _ _ _ (@aE _ _ _ _ _ (@ig _ _ _ _ _)))
      (@aX _ _))))
      (@aj _ _ _ _ _ (@bU _ _ _ _ _ _ _ _ _ _ _ (@dP _ _ _ _ _ (@dB _ _ _ _ (@aW _ _ _ _ _ _ _ _ _ _ _ _ _ _ _ LA LJ (hr.mono (by decide)) ((@aW _ _ _ _ _ _ _ _ _ _ _ _ _ _ _ K1 Lf (hr.mono (by decide)) ((¬3)∘ac) (by rfl) (by decide) (by rfl) (by rfl))∘((¬4)∘ac)) (by rfl) (by decide) (by rfl) (by rfl)) (by intro _;rfl)))
      (@aj _ _ _ _ _ (@aE _ _ _ _ _ (@ig _ _ _ _ _)))
      (@aX _ _))))))) (by intro _;rfl))
      (@aj _ _ _ _ _ (@aE _ _ _ _ _ (@aW _ _ _ _ _ _ _ _ _ _ _ _ _ _ _ LA LJ (hr.mono (by decide)) ((@aW _ _ _ _ _ _ _ _ _ _ _ _ _ _ _ K1 Lf (hr.mono (by decide)) ((@ba _ _ _ _ _ _ (af∘((@ba _ _ _ _ _ _ ac)∘((@ba _ _ _ _ _ _ ac)∘(af∘ac)))))∘ac) (by rfl) (by decide) (by rfl) (by rfl))∘((@ba _ _ _ _ _ _ ((@oD _ _ _ _ _)∘((@ba _ _ _ _ _ _ ac)∘ac)))∘ac)) (by rfl) (by decide) (by rfl) (by rfl)))))))
local macro_rules | `(tactic| simp? [$ts,*]) => `(tactic| simp [$ts,*, jG, sV, aC, iC, bo, dD, a7, eQ, uU, Am, Ca, aB, au, oW, ae, vC, eO, ai, ab, dy, aO, cV, xM, oY, iS, Jw, mX, HU, uh, va, iL, ie, cn, bM, qZ, ky, kZ, o_, gJ, cv, Bk, xK, dj, ao, ag, cL, eE, aU, bD, Et, hG, fL, n_, jY, vJ, vH, vG, vF, sI, sG, sL, pO, sy, yz, pP, yy, Dc, yC, vI, yA, yB, sO, sN, pQ, sP, De, lX, nK, x6, x8, C1, pI, pH, jw, ni, List.replicate, -List.map_nil, -List.map_cons, -List.nil_append, -List.cons_append, -Option.bind_some, -Option.map_some, -getElem?_pos, -List.append_nil, C', C_, C6, C5, C8, C9, C7, Da])
theorem pb{n k:Int}(h:0 < k):0≤n % k:=Int.emod_nonneg _ (Int.ne_of_gt h)
theorem pd{n k:Int}(h:0 < k):n % k < k:=Int.emod_lt_of_pos _ h
def nx:List Int→Int
  | []=>0
  | d::_=>d
def iU(ds:List Int):Prop:=∀d∈ds,0≤d∧d < 2147483648
theorem Dm{ds:List Int}(h:iU ds):0≤nx ds∧nx ds < 2147483648:=by
  cases ds with
  | nil=>exact⟨Int.le_refl 0,by show(0:Int) < 2147483648;decide⟩
  | cons d r=>exact h d (by simp)
theorem HS{ds:List Int}(h:iU ds):iU ds.tail:=fun d hd=>h d (List.mem_of_mem_tail hd)
theorem FX(ds:List Int):aP [.l (ds.map .int)]=some (.d (.int (nx ds)),[.l (ds.tail.map .int)]):=by
  have hq:∀e:En,e[0]?=some (some (.l (ds.map .int)))→bK false e (.s 0) (.l [])=some (.d (.bool (ds.map PyData.int).isEmpty)):=fun e he=>sD he (mW ds).1
  cases ds with
  | nil=>simp? [aP,uq,hq,nx]
  | cons d r=>simp? [aP,uq,hq,nx]
theorem e_{ds:List Int}(hd:iU ds):∃(n:Int) (ds':List Int),aP [.l (ds.map .int)]=some (.d (.int n),[.l (ds'.map .int)])∧0≤n∧n < 2147483648∧iU ds':=⟨nx ds,ds.tail,FX ds,(Dm hd).1,(Dm hd).2,HS hd⟩
theorem wo(cell k:Int)(h0:0≤k)(h1:k≤1000):∃r,j3 [.d (.int cell),.d (.int k)]=some (.d (.int r),[.d (.int cell),.d (.int k)])∧0≤r∧r < 2147483648:=by
  have a1:mf (cell % 2147483647) 48271=true:=rc (by decide) (by decide)
  have a2:mf 7919 k=true:=uI (by decide) (by decide)
  have a3:mf (7919*k) k=true:=rc (by lia) (by lia)
  have a4:mf ((cell % 2147483647*48271+7919*k*k+104729) % 2147483647) ((cell % 2147483647*48271+7919*k*k+104729) % 2147483647)=true:=rc (by lia) (by lia)
  refine⟨_,by simp? [j3,vp,az,k_,a1,a2,a3,a4];rfl,?_,?_⟩
  · lia
  · lia
theorem qF{ds:List Int}(h:iU ds){r:Int}(h0:0≤r)(h1:r < 2147483648):iU (ds++[r]):=fun d hd=>by
  rcases Mc hd with hd | hd
  · exact h d hd
  · simp at hd;subst hd;exact⟨h0,h1⟩
abbrev dE(ns ds:List Int)(v2 v3 v4:Option Sv):En:=[some (.d (.list (ns.map .int))),some (.l (ds.map .int)),v2,v3,v4]
inductive DI (ns:List Int) (i:Nat):En→Prop
  | mk {ds v2 v3 v4} (hd:iU ds) (hl:ds.length≤1000*i):DI ns i (dE ns ds v2 v3 v4)
inductive DJ (ns:List Int) (k cell:Int) (n i:Nat):En→Prop
  | mk {ds v4} (hd:iU ds) (hl:ds.length=n+i):DJ ns k cell n i (dE ns ds (some (.d (.int k))) (some (.d (.int cell))) v4)
inductive DW (ns:List Int) (k:Int) (v4:Option Sv) (n:Nat):En→Prop
  | mk {cell ds} (hc:0≤cell) (hd:iU ds) (hl:ds.length≤max n 900):DW ns k v4 n (dE ns ds (some (.d (.int k))) (some (.d (.int cell))) v4)
theorem CB(ns:List Int)(hn:ns.length≤63):∃ds,lj [.d (.list (ns.map .int))]=some (.l (ds.map .int),[.d (.list (ns.map .int))])∧iU ds:=by
  have inner:∀(cell k:Int) (ds:List Int) (v4:Option Sv),0≤k→k≤63→iU ds→ds.length≤63000→∃ds' v4',(∀W,dC W j2 (ag 4) iD (dE ns ds (some (.d (.int k))) (some (.d (.int cell))) v4)=some (.nx (dE ns ds' (some (.d (.int k))) (some (.d (.int cell))) v4')))∧iU ds'∧ds'.length=ds.length+12:=by
    intro cell k ds v4 k0 k1 hd hl
    obtain⟨e',h1,h2⟩:=cK (own:=[]) (g:=ag 4) (f:=iD) (DJ ns k cell ds.length) (aM 0 12) 0 (dE ns ds (some (.d (.int k))) (some (.d (.int cell))) v4) (fun i x e hx hI=>by
      obtain⟨rfl,hi⟩:=bx hx
      obtain⟨hd',hl'⟩:=hI
      rename_i ds' v4'
      obtain⟨r1,c1,_,_⟩:=wo cell (3*(0+(i:Int))+1) (by lia) (by lia)
      obtain⟨r2,c2,c3,c4⟩:=wo r1 (0+(i:Int)+k+2) (by lia) (by lia)
      have a1:mf 3 (0+(i:Int))=true:=uI (by decide) (by decide)
      refine⟨_,dE ns (ds'++[r2]) (some (.d (.int k))) (some (.d (.int cell))) (some (.d (.int (0+(i:Int))))),rfl,?_,be,.mk (qF hd' c3 c4) (by simp;lia)⟩
      have hlen:ds'.length < 1000000:=by lia
      simp only [Int.zero_add] at a1 c1 c2
      simp? [dE,iD,c1,c2,k_,a1,hlen]) (.mk hd rfl)
    obtain⟨hd',hl'⟩:=h2
    rename_i ds' v4'
    rw [bc] at hl'
    refine⟨ds',v4',fun W=>?_,hd',by lia⟩
    rw [c_ (show j2 _=some (aM 0 12,[],_) from bi (n:=12) rfl (by decide) (by decide))]
    exact h1
  have wh:∀(cell k:Int) (ds:List Int) (v4:Option Sv),0≤cell→iU ds→ds.length≤63100→∃cell' ds',fY (2 ^ 4200) gD jR (dE ns ds (some (.d (.int k))) (some (.d (.int cell))) v4)=some (.nx (dE ns ds' (some (.d (.int k))) (some (.d (.int cell'))) v4))∧0≤cell'∧iU ds'∧ds'.length≤max ds.length 900:=by
    intro cell k ds v4 hc hd hl
    have tst:∀(cell:Int) (ds:List Int),gD (dE ns ds (some (.d (.int k))) (some (.d (.int cell))) v4)=some (decide (1000000000000000000≤cell)&&decide ((ds.length:Int) < 900),dE ns ds (some (.d (.int k))) (some (.d (.int cell))) v4):=by
      intro cell ds
      by_cases h:(1000000000000000000:Int)≤cell
      · simp? [dE,gD,lb,lx,h]
      · simp? [dE,gD,lb,lx,h]
    obtain⟨e0,e',h1,hI,h3⟩:=jd (ft:=gD) (f:=jR) (DW ns k v4 ds.length)
      (fun e=>1000000 - Dh 1 e) (fun e hI=>by
        obtain⟨hc',hd',hl'⟩:=hI
        rename_i cell' ds'
        rw [tst]
        by_cases c1:(1000000000000000000:Int)≤cell'
        · by_cases c2:(ds'.length:Int) < 900
          · refine .inr ⟨_,dE ns (ds'++[cell' % 2147483629]) (some (.d (.int k))) (some (.d (.int (cell' / 2147483629)))) v4,by rw [decide_eq_true c1,decide_eq_true c2];rfl,?_,.mk (by lia) (qF hd' (by lia) (by lia)) (by simp;lia),?_⟩
            · have hlen:ds'.length < 1000000:=by lia
              have b8:Bt 8000 2147483629:=jq (by decide) (by decide)
              simp? [dE,jR,az,dW,b8,hlen]
            · simp [Dh,dE];lia
          · exact .inl ⟨_,by rw [decide_eq_true c1,decide_eq_false c2];rfl,trivial⟩
        · exact .inl ⟨_,by rw [decide_eq_false c1];rfl,trivial⟩) (2 ^ 4200) _ (.mk hc hd (by lia)) (nq (m:=20) (Nat.lt_of_le_of_lt (Nat.sub_le _ _) (by decide)) (by decide))
    obtain⟨hc',hd',hl'⟩:=hI
    rename_i cell' ds'
    rw [tst] at h3
    have h4:=(Prod.mk.inj (Option.some.inj h3)).2
    subst h4
    exact⟨cell',ds',h1,hc',hd',hl'⟩
  have turn:∀(i:Nat) (ds:List Int) (v3 v4:Option Sv) (hi:i < ns.length),iU ds→ds.length≤1000*i→∃ds2 v3' v4',gB (dE ns ds (some (.d (.int (i:Int)))) v3 v4)=some (.nx (dE ns ds2 (some (.d (.int (i:Int)))) v3' v4'))∧iU ds2∧ds2.length≤1000*(i+1):=by
    intro i ds v3 v4 hi hd hl
    have hcell:atI (ns.map PyData.int) (i:Int)=some (.int ns[i]):=by
      rw [jm (by lia) (by rw [List.length_map];lia)]
      simp [hi]
    have c0:(0:Int)≤(ns[i].natAbs:Int):=by lia
    have st:a7 3 (aO (g1 wO) (ab (au eh (ae 0) (ae 2)) ai)) (dE ns ds (some (.d (.int (i:Int)))) v3 v4)=some (.nx (dE ns ds (some (.d (.int (i:Int)))) (some (.d (.int (ns[i].natAbs:Int)))) v4)):=by
      simp? [dE,hcell]
    generalize (ns[i].natAbs:Int)=cell at c0 st
    have mid:∃ds1 v4',iC (aB (au yD (ae 3) (au uC (vC (.int 10)) (vC (.int 18))))) (dC ([4]++[]) j2 (ag 4) iD) dD (dE ns ds (some (.d (.int (i:Int)))) (some (.d (.int cell))) v4)=some (.nx (dE ns ds1 (some (.d (.int (i:Int)))) (some (.d (.int cell))) v4'))∧iU ds1∧ds1.length≤ds.length+12:=by
      by_cases cb:cell < 1000000000000000000
      · obtain⟨ds1,v4',f1,f2,f3⟩:=inner cell (i:Int) ds v4 (by lia) (by lia) hd (by lia)
        refine⟨ds1,v4',?_,f2,by lia⟩
        rw [HB (e1:=dE ns ds (some (.d (.int (i:Int)))) (some (.d (.int cell))) v4) (by simp? [dE,lb,lx,cb])]
        exact f1 _
      · refine⟨ds,v4,?_,hd,by lia⟩
        rw [HA (e1:=dE ns ds (some (.d (.int (i:Int)))) (some (.d (.int cell))) v4) (by simp? [dE,lb,lx,cb])]
        rfl
    obtain⟨ds1,v4',m1,m2,m3⟩:=mid
    obtain⟨cell2,ds2,w1,w2,w3,w4⟩:=wh cell (i:Int) ds1 v4' c0 m2 (by lia)
    by_cases c2:(2147483629:Int)≤cell2
    · refine⟨ds2++[cell2 % 2147483629],some (.d (.int cell2)),v4',?_,qF w3 (by lia) (by lia),by simp;lia⟩
      have hlen:ds2.length < 1000000:=by lia
      unfold gB
      rw [ja st,ja m1,ja w1]
      simp? [dE,c2,az,hlen]
    · refine⟨ds2,some (.d (.int cell2)),v4',?_,w3,by lia⟩
      unfold gB
      rw [ja st,ja m1,ja w1]
      simp? [dE,c2]
  obtain⟨e',h1,hI⟩:=cK (own:=[]) (g:=ag 2) (f:=gB) (DI ns) (aM 0 (min (ns.length:Int) 63).toNat) 0 (dE ns [] none none none) (fun i x e hx hI=>by
    obtain⟨rfl,hi⟩:=bx hx
    obtain⟨hd,hl⟩:=hI
    rename_i ds v2 v3 v4
    rw [Nat.zero_add] at hl ⊢
    obtain⟨ds2,v3',v4',t1,t2,t3⟩:=turn i ds v3 v4 (by lia) hd hl
    exact⟨dE ns ds (some (.d (.int (i:Int)))) v3 v4,_,by simp [ag,dE],t1,be,.mk t2 t3⟩) (.mk (fun d hd=>by cases hd) (by simp))
  obtain⟨hd,hl⟩:=hI
  rename_i ds v2 v3 v4
  refine⟨ds,?_,hd⟩
  have hf:∀W,dC W l9 (ag 2) gB (dE ns [] none none none)=some (.nx (dE ns ds v2 v3 v4)):=fun W=>by
    rw [c_ (show l9 _=some (aM 0 (min (ns.length:Int) 63).toNat,[],dE ns [] none none none) from bi (n:=min (ns.length:Int) 63) (by simp? [dE]) (by lia) (by lia))]
    exact h1
  unfold dE at hf
  simp only [List.map_nil] at hf
  simp? [lj,vm,hf]
theorem HP(a b:Int)(hb:Bt 4000 b):sR [.d (.int a),.d (.int b)]=some (.d (.int (Int.gcd a b)),[.d (.int a),.d (.int b)]):=by
  have tst:∀x y:Int,kU [some (.d (.int x)),some (.d (.int y))]=some (!(y==0),[some (.d (.int x)),some (.d (.int y))]):=fun x y=>by simp? [kU]
  obtain⟨e0,e',h1,⟨x,y,he,hg,hy⟩,h3⟩:=jd (ft:=kU) (f:=m9) (fun e=>∃x y,e=[some (.d (.int x)),some (.d (.int y))]∧Int.gcd x y=Int.gcd a b∧Bt 4000 y) (za 1) (fun e ⟨x,y,he,hg,hy⟩=>by
    subst he
    rw [tst]
    by_cases c:y=0
    · subst c;exact .inl ⟨_,rfl,trivial⟩
    · refine .inr ⟨_,[some (.d (.int y)),some (.d (.int (x.fmod y)))],by rw [beq_false_of_ne c];rfl,by simp? [m9,D9 c],⟨y,x.fmod y,rfl,by rw [yH,hg],?_⟩,?_⟩
      · have:=mK x c
        exact Bt.of_le hy (by lia)
      · have:=mK x c
        simpa [za] using this) (2 ^ 4200) _ ⟨a,b,rfl,rfl,hb⟩ (nq (m:=4000) (by simpa [za,Bt] using hb) (by decide))
  subst he
  rw [tst] at h3
  have h4:=Prod.mk.inj (Option.some.inj h3)
  have hy0:y=0:=by simpa using h4.1
  subst hy0
  have h5:=h4.2
  subst h5
  have hs:fY (2 ^ 4200) kU m9 [some (.d (.int a)),some (.d (.int b))]=some (.nx [some (.d (.int x)),some (.d (.int 0))]):=h1
  have hg':(x.natAbs:Int)=(Int.gcd a b:Int):=by rw [←hg];simp
  simp only [sR,CU,jG,sV,aC,iC,bo,dD,a7,eQ,uU,Am,Ca,aB,au,oW,ae,vC,eO,ai,ab,dy,aO,cV,xM,oY,iS,Jw,mX,HU,uh,va,iL,ie,cn,bM,qZ,ky,kZ,o_,gJ,cv,Bk,xK,dj,ao,ag,cL,eE,aU,bD,Et,hG,fL,n_,jY,vJ,vH,vG,vF,sI,sG,sL,pO,sy,yz,pP,yy,Dc,yC,vI,yA,yB,sO,sN,pQ,sP,De,lX,nK,x6,x8,C1,pI,pH,jw,ni,List.replicate, -List.map_nil, -List.map_cons, -List.nil_append, -List.cons_append, -Option.bind_some, -Option.map_some, -getElem?_pos, -List.append_nil,C',C_,C6,C5,C8,C9,C7,Da]
  simp? [hs,hg']
theorem Dz(t b:Int)(hb:0 < b)(h:Bt 4000 b):pX [.d (.int t),.d (.int b)]=some (.d (.tuple [.int (fX t b).1,.int (fX t b).2]),[.d (.int t),.d (.int b)]):=by
  have g0:=vK (t:=t) (b:=b) (by lia)
  have g1:(Int.gcd t b:Int)≠0:=by lia
  have g8:Bt 8000 (Int.gcd t b:Int):=(D' (t:=t) (by lia) h).mono (by decide)
  have e:fX t b=(t.fdiv (Int.gcd t b:Int),b.fdiv (Int.gcd t b:Int)):=by unfold fX;rw [if_neg (by lia)]
  rw [e]
  simp? [pX,CV,HP t b h,Bp g1 g8]
theorem CZ{i:Int}{n:Nat}(h1: -2147483648 < i)(h2:i < 2147483648)(hn:31≤n):Bt n i:=Bt.mono (m:=31) (by unfold Bt;lia) hn
def yj(t b:Int):Prop:=0≤t∧t≤b∧1≤b∧b≤100∧Int.gcd t b=1
theorem oS(n k:Int)(hn:0≤n):∃t b,cM [.d (.int n),.d (.int k)]=some (.d (.tuple [.int t,.int b]),[.d (.int n),.d (.int k)])∧yj t b:=by
  have b9:Bt 8000 9:=jq (by decide) (by decide)
  have b100:Bt 8000 100:=jq (by decide) (by decide)
  have low:∀t b:Int,0 < b→0≤t→t≤b→b≤100→yj (fX t b).1 (fX t b).2:=fun t b hb h0 h1 h2=>by
    obtain⟨r1,r2,r3,r4⟩:=uG hb h0 h1 h2
    exact⟨r1,r2,r3,r4,y4 (by lia)⟩
  by_cases c0:k=0
  · subst c0
    obtain⟨x,hx,ha⟩:=nL (xs:=[PyData.tuple [.int 1,.int 2],.tuple [.int 1,.int 3],.tuple [.int 2,.int 3],.tuple [.int 1,.int 1],.tuple [.int 0,.int 1],.tuple [.int 3,.int 4]]) (i:=n % 6) (by lia) (by simp;lia)
    obtain⟨t,b,rfl,hc⟩:∃t b,x=.tuple [.int t,.int b]∧yj t b:=by
      simp only [List.mem_cons,List.not_mem_nil,or_false] at hx
      rcases hx with rfl | rfl | rfl | rfl | rfl | rfl<;>exact⟨_,_,rfl,by unfold yj;decide⟩
    exact⟨t,b,by simp? [cM,jn,az,ha],hc⟩
  · by_cases c1:k=1
    · subst c1
      have hm:(n / 9) % (2+n % 9 - 1) < 2+n % 9 - 1:=Int.emod_lt_of_pos _ (by lia)
      have hm0:0≤(n / 9) % (2+n % 9 - 1):=Int.emod_nonneg _ (by lia)
      refine⟨_,_,?_,low (1+(n / 9) % (2+n % 9 - 1)) (2+n % 9) (by lia) (by lia) (by lia) (by lia)⟩
      have hpos:∀e:En,aQ e (.d (.int (n / 9))) (.d (.int (2+n % 9 - 1)))=_:=fun e=>az (by lia)
      have hl:=Dz (1+(n / 9) % (2+n % 9 - 1)) (2+n % 9) (by lia) (CZ (by lia) (by lia) (by decide))
      simp? [cM,jn,az,dW,b9,hpos,hl]
    · by_cases c2:k=2
      · subst c2
        have hm:(n / 100) % (1+n % 100+1) < 1+n % 100+1:=Int.emod_lt_of_pos _ (by lia)
        have hm0:0≤(n / 100) % (1+n % 100+1):=Int.emod_nonneg _ (by lia)
        refine⟨_,_,?_,low ((n / 100) % (1+n % 100+1)) (1+n % 100) (by lia) (by lia) (by lia) (by lia)⟩
        have hpos:∀e:En,aQ e (.d (.int (n / 100))) (.d (.int (1+n % 100+1)))=_:=fun e=>az (by lia)
        have hl:=Dz ((n / 100) % (1+n % 100+1)) (1+n % 100) (by lia) (CZ (by lia) (by lia) (by decide))
        simp? [cM,jn,az,dW,b100,hpos,hl]
      · refine⟨1,1,?_,by unfold yj;decide⟩
        simp? [cM,jn,c0,c1,c2]
theorem rO(n k:Int):∃r,gy [.d (.int n),.d (.int k)]=some (.d (.int r),[.d (.int n),.d (.int k)])∧0≤r∧r≤1000:=by
  obtain⟨x,hx,ha⟩:=nL (xs:=[PyData.int (n % 7),.int (5+n % 2),.int (n % 1001),.int (1000 - n % 3)]) (i:=k % 4) (by lia) (by simp;lia)
  obtain⟨r,rfl,hr⟩:∃r,x=.int r∧0≤r∧r≤1000:=by
    simp only [List.mem_cons,List.not_mem_nil,or_false] at hx
    rcases hx with rfl | rfl | rfl | rfl<;>exact⟨_,rfl,by lia,by lia⟩
  exact⟨r,by simp? [gy,vt,az,ha],hr⟩
abbrev tE(ds:List Int)(things many shape odds ws:Int)(ts:List ip)(v7 v8 v9 v10 v11 v12:Option Sv):En:=[some (.l (ds.map .int)),some (.d (.int things)),some (.d (.int many)),some (.d (.int shape)),some (.d (.int odds)),some (.d (.int ws)),some (.l (ts.map ar)),v7,v8,v9,v10,v11,v12]
inductive TR (things many shape odds ws:Int) (ts:List ip) (k:Option Sv):En→Prop
  | mk {t ds w8 w9 w10 w11 w12} (hd:iU ds) (ht:t.Ok things):TR things many shape odds ws ts k (tE ds things many shape odds ws (ts++[t]) k w8 w9 w10 w11 w12)
inductive TI (things many a b c:Int) (i:Nat):En→Prop
  | mk {ts ds w7 w8 w9 w10 w11 w12} (hd:iU ds) (hl:ts.length=i) (ht:∀t∈ts,t.Ok things):TI things many a b c i (tE ds things many a b c ts w7 w8 w9 w10 w11 w12)
theorem HQ(ds:List Int)(things many shape odds ws:Int)(ts:List ip)(k:Int)(v8 v9 v10 v11 v12:Option Sv)(hd:iU ds)(h2:2≤things)(h12:things≤100)(s0:0≤shape)(s1:shape < 6)(k0:0≤k)(hl:ts.length≤1000):
    ∃e',iE (tE ds things many shape odds ws ts (some (.d (.int k))) v8 v9 v10 v11 v12)=some (.nx e')∧TR things many shape odds ws ts (some (.d (.int k))) e':=by
  obtain⟨n,d1,tn, -, -,hd1⟩:=e_ hd
  obtain⟨m,d2,tm,m0, -,hd2⟩:=e_ hd1
  obtain⟨x,hx,ha⟩:=nL (xs:=[PyData.int (n % things),.int 0,.int (k % things),.int (n % things),.int (n % 2),.int (n % things)]) (i:=shape) s0 (by simp;lia)
  have tp:0 < things:=Int.lt_of_lt_of_le (by decide) h2
  have tq:0 < things - 1:=Int.sub_pos_of_lt (Int.lt_of_lt_of_le (by decide) h2)
  have nt:0≤n % things∧n % things < things:=⟨pb tp,pd tp⟩
  have kt:0≤k % things∧k % things < things:=⟨pb tp,pd tp⟩
  obtain⟨one,rfl,o0,o1⟩:∃r,x=.int r∧0≤r∧r < things:=by
    simp only [List.mem_cons,List.not_mem_nil,or_false] at hx
    rcases hx with rfl | rfl | rfl | rfl | rfl | rfl<;>exact⟨_,rfl,by lia,by lia⟩
  have r0:0≤(n / 12) % (things - 1):=pb tq
  have r1:(n / 12) % (things - 1) < things - 1:=pd tq
  have q0:0≤(one+1+(n / 12) % (things - 1)) % things:=pb tp
  have q1:(one+1+(n / 12) % (things - 1)) % things < things:=pd tp
  have qn:(one+1+(n / 12) % (things - 1)) % things≠one:=fun z=>by
    by_cases c:one+1+(n / 12) % (things - 1) < things
    · rw [Int.emod_eq_of_lt (by lia) c] at z;lia
    · have e:(one+1+(n / 12) % (things - 1)) % things=(one+1+(n / 12) % (things - 1) - things) % things:=by rw [Int.sub_emod_right]
      rw [e,Int.emod_eq_of_lt (by lia) (by lia)] at z;lia
  obtain⟨t,b,c1,c2,c3,c4,c5,c6⟩:=oS m odds m0
  obtain⟨w,w1,w2,w3⟩:=rO (m / 10007) ws
  have b12:Bt 8000 12:=jq (by decide) (by decide)
  have b107:Bt 8000 10007:=jq (by decide) (by decide)
  have g1:∀(e:En) (i:Int),aQ e (.d (.int i)) (.d (.int things))=some (.d (.int (i % things))):=fun e i=>az tp
  have g2:∀(e:En) (i:Int),aQ e (.d (.int i)) (.d (.int (things - 1)))=some (.d (.int (i % (things - 1)))):=fun e i=>az tq
  have hlen:ts.length < 1000000:=by lia
  by_cases c:shape=4
  · subst c
    refine⟨tE d2 things many 4 odds ws (ts++[⟨0,1,t,b,w⟩]) (some (.d (.int k))) (some (.d (.int n))) (some (.d (.int 0))) (some (.d (.int 1))) (some (.d (.int m))) (some (.d (.tuple [.int 0,.int 1]))),?_,.mk hd2 ⟨by show(0:Int)≤0;decide,by show(0:Int) < 1;decide,by show(1:Int) < things;lia,c2,c3,c4,c5,w2,w3,c6⟩⟩
    simp? [tE,iE,tn,tm,az,g1,g2,dW,b12,b107,ha,c1,w1,kn,ar,hlen]
    decide
  · refine⟨tE d2 things many shape odds ws (ts++[⟨min one ((one+1+(n / 12) % (things - 1)) % things),max one ((one+1+(n / 12) % (things - 1)) % things),t,b,w⟩]) (some (.d (.int k))) (some (.d (.int n))) (some (.d (.int one))) (some (.d (.int ((one+1+(n / 12) % (things - 1)) % things)))) (some (.d (.int m))) (some (.d (.tuple [.int (min one ((one+1+(n / 12) % (things - 1)) % things)),.int (max one ((one+1+(n / 12) % (things - 1)) % things))]))),?_,.mk hd2 ⟨by show 0≤min _ _;lia,by show min _ _ < max _ _;lia,by show max _ _ < _;lia,c2,c3,c4,c5,w2,w3,c6⟩⟩
    simp? [tE,iE,tn,tm,az,g1,g2,dW,b12,b107,ha,c1,w1,kn,ar,hlen,c]
theorem uY(ds:List Int)(things many:Int)(hd:iU ds)(h2:2≤things)(h12:things≤100)(m0:0≤many)(m1:many≤1000):∃(ts:List ip) (ds':List Int),jF [.l (ds.map .int),.d (.int things),.d (.int many)]=some (.d (.tuple (ts.map ar)),[.l (ds'.map .int),.d (.int things),.d (.int many)])∧iU ds'∧(ts.length:Int)=many∧∀t∈ts,t.Ok things:=by
  obtain⟨n0,d1,t0, -, -,hd1⟩:=e_ hd
  obtain⟨n1,d2,t1, -, -,hd2⟩:=e_ hd1
  obtain⟨n2,d3,t2, -, -,hd3⟩:=e_ hd2
  obtain⟨e',h1,hI⟩:=cK (own:=[]) (g:=ag 7) (f:=iE) (TI things many (n0 % 6) (n1 % 4) (n2 % 4)) (aM 0 many.toNat) 0 (tE d3 things many (n0 % 6) (n1 % 4) (n2 % 4) [] none none none none none none) (fun i x e hx hI=>by
    obtain⟨rfl,hi⟩:=bx hx
    obtain⟨hd',hl,ht⟩:=hI
    rename_i ts ds' w7 w8 w9 w10 w11 w12
    obtain⟨e9,s1,⟨s2,s3⟩⟩:=HQ ds' things many (n0 % 6) (n1 % 4) (n2 % 4) ts (0+(i:Int)) w8 w9 w10 w11 w12 hd' h2 h12 (pb (by decide)) (pd (by decide)) (by lia) (by lia)
    exact⟨_,_,rfl,s1,be,.mk s2 (by simp;lia) fun z hz=>by
      rcases Mc hz with hz | hz
      · exact ht z hz
      · simp at hz;subst hz;exact s3⟩) (.mk hd3 rfl fun t ht=>by cases ht)
  obtain⟨hd',hl,ht⟩:=hI
  rename_i ts ds' w7 w8 w9 w10 w11 w12
  refine⟨ts,ds',?_,hd',by rw [hl,bc];lia,ht⟩
  have hf:∀W,dC W oh (ag 7) iE (tE d3 things many (n0 % 6) (n1 % 4) (n2 % 4) [] none none none none none none)=some (.nx (tE ds' things many (n0 % 6) (n1 % 4) (n2 % 4) ts w7 w8 w9 w10 w11 w12)):=fun W=>by
    rw [c_ (show oh _=some (aM 0 many.toNat,[],tE d3 things many (n0 % 6) (n1 % 4) (n2 % 4) [] none none none none none none) from bi (n:=many) (by simp? [tE]) (by lia) (by lia))]
    exact h1
  unfold tE at hf
  simp only [List.map_nil] at hf
  simp? [jF,x_,t0,t1,t2,az,hf]
abbrev wE(ds:List Int)(most tn things many:Int)(ts:List ip)(way:Int)(ps:List Int)(v8 v9:Option Sv):En:=[some (.l (ds.map .int)),some (.d (.int most)),some (.d (.int tn)),some (.d (.int things)),some (.d (.int many)),some (.d (.tuple (ts.map ar))),some (.d (.int way)),some (.l (ps.map .int)),v8,v9]
inductive WI (most tn things many:Int) (ts:List ip) (way:Int) (i:Nat):En→Prop
  | mk {ps ds w8} (hd:iU ds) (hpl:ps.length=i) (hps:∀p∈ps,0≤p∧p≤20):WI most tn things many ts way i (wE ds most tn things many ts way ps w8 none)
theorem HR(ds:List Int)(most tn:Int)(hd:iU ds)(m0:0≤most)(m1:most≤12)(k0:0≤tn)(k1:tn≤16):∃(W:aY) (ds':List Int),sS [.l (ds.map .int),.d (.int most),.d (.int tn)]=some (.d (ay W),[.l (ds'.map .int),.d (.int most),.d (.int tn)])∧iU ds'∧W.Ok∧W.things≤most∧(W.ties.length:Int)≤tn:=by
  obtain⟨n0,d1,t0, -, -,hd1⟩:=e_ hd
  obtain⟨n1,d2,t1, -, -,hd2⟩:=e_ hd1
  have mp:0 < most+1:=Int.lt_add_one_of_le m0
  have kp:0 < tn+1:=Int.lt_add_one_of_le k0
  have g0:∀(e:En),aQ e (.d (.int n0)) (.d (.int (most+1)))=some (.d (.int (n0 % (most+1)))):=fun e=>az mp
  have g1':∀(e:En),aQ e (.d (.int n1)) (.d (.int (tn+1)))=some (.d (.int (n1 % (tn+1)))):=fun e=>az kp
  have th0:0≤n0 % (most+1):=pb mp
  have th1:n0 % (most+1) < most+1:=pd mp
  have ti0:0≤n1 % (tn+1):=pb kp
  have ti1:n1 % (tn+1) < tn+1:=pd kp
  clear mp kp
  generalize n0 % (most+1)=things at th0 th1 g0
  generalize n1 % (tn+1)=tm at ti0 ti1 g1'
  obtain⟨many,hmany,mm,m00,m01⟩:∃many:Int,many=tm*(if decide (1 < things)=true then 1 else 0)∧(1 < things∨many=0)∧0≤many∧many≤tn:=by
    by_cases c:1 < things
    · exact⟨tm,by simp [c],.inl c,ti0,by lia⟩
    · exact⟨0,by simp [c],.inr rfl,by lia,by lia⟩
  have gm:∀e:En,jy e (.d (.int tm)) (.d (.int (if decide (1 < things)=true then 1 else 0)))=some (.d (.int many)):=fun e=>by
    rw [k_ (rc (by split<;>decide) (by split<;>decide)),hmany]
  have gi:∀e:En,g1 wQ e [.d (.bool (decide (1 < things)))]=some (.d (.int (if decide (1 < things)=true then 1 else 0))):=fun e=>rfl
  generalize (if decide (1 < things)=true then 1 else 0:Int)=one at gm gi
  obtain⟨ts,d3,t3,hd3,hlen,hts⟩:=uY d2 (max 2 things) many hd2 (by lia) (by lia) m00 (by lia)
  obtain⟨n4,d4,t4, -, -,hd4⟩:=e_ hd3
  obtain⟨e',h1,hI⟩:=cK (own:=[]) (g:=ag 8) (f:=m_) (WI most tn things many ts (n4 % 3)) (aM 0 things.toNat) 0 (wE d4 most tn things many ts (n4 % 3) [] none none) (fun i x e hx hI=>by
    obtain⟨rfl,hi⟩:=bx hx
    obtain⟨hd5,hpl,hps⟩:=hI
    rename_i ps d5 w8
    obtain⟨p1,d6,t6, -, -,hd6⟩:=e_ hd5
    obtain⟨p2,d7,t7, -, -,hd7⟩:=e_ hd6
    obtain⟨z,hz,ha⟩:=nL (xs:=[PyData.int 20,.int (1+p1 % 3),.int (p2 % 21)]) (i:=n4 % 3) (pb (by decide)) (pd (k:=3) (by decide))
    obtain⟨p,rfl,hp⟩:∃r,z=.int r∧0≤r∧r≤20:=by
      simp only [List.mem_cons,List.not_mem_nil,or_false] at hz
      rcases hz with rfl | rfl | rfl<;>exact⟨_,rfl,by lia,by lia⟩
    refine⟨wE d5 most tn things many ts (n4 % 3) ps (some (.d (.int (0+(i:Int))))) none,wE d7 most tn things many ts (n4 % 3) (ps++[p]) (some (.d (.int (0+(i:Int))))) none,rfl,?_,be,.mk hd7 (by simp;lia) fun q hq=>by
      rcases Mc hq with hq | hq
      · exact hps q hq
      · simp at hq;subst hq;exact hp⟩
    have hlen:ps.length < 1000000:=by lia
    simp? [wE,m_,t6,t7,az,ha,hlen]) (.mk hd4 rfl fun p hp=>by cases hp)
  obtain⟨hd5,hpl,hps⟩:=hI
  rename_i ps d5 w8
  have hf:∀W,dC W qO (ag 8) m_ (wE d4 most tn things many ts (n4 % 3) [] none none)=some (.nx (wE d5 most tn things many ts (n4 % 3) ps w8 none)):=fun W=>by
    rw [c_ (show qO _=some (aM 0 things.toNat,[],wE d4 most tn things many ts (n4 % 3) [] none none) from bi (n:=things) (by simp? [wE]) (by lia) (by lia))]
    exact h1
  obtain⟨p1,d6,t6, -, -,hd6⟩:=e_ hd5
  obtain⟨p2,d7,t7, -, -,hd7⟩:=e_ hd6
  obtain⟨p3,d8,t8, -, -,hd8⟩:=e_ hd7
  have xp:0 < max 1 many:=Int.lt_of_lt_of_le Int.zero_lt_one (Int.le_max_left _ _)
  have gx:∀(e:En),aQ e (.d (.int p1)) (.d (.int (max 1 many)))=some (.d (.int (p1 % max 1 many))):=fun e=>az xp
  have x0:0≤p1 % max 1 many:=pb xp
  have x1:p1 % max 1 many < max 1 many:=pd xp
  obtain⟨z,hz,ha⟩:=nL (xs:=[PyData.int 40,.int (1+p1 % max 1 many),.int (p2 % 41)]) (i:=p3 % 3) (pb (by decide)) (pd (k:=3) (by decide))
  obtain⟨asks,rfl,hasks⟩:∃r,z=.int r∧0≤r∧r≤40:=by
    simp only [List.mem_cons,List.not_mem_nil,or_false] at hz
    rcases hz with rfl | rfl | rfl<;>exact⟨_,rfl,by lia,by lia⟩
  rw [bc] at hpl
  refine⟨⟨things,ts,ps,asks⟩,d8,?_,hd8,⟨th0,by show things≤12;lia,fun t ht=>?_,by show ts.length≤16;lia,by show(ps.length:Int)=things;lia,hps,hasks.1,hasks.2⟩,by show things≤most;lia,by show(ts.length:Int)≤tn;lia⟩
  · unfold wE at hf
    simp only [List.map_nil] at hf
    simp? [sS,CW,t0,t1,g0,g1',gm,gi,t3,t4,az,hf,t6,t7,t8,gx,ha,ay]
  · rcases mm with c | c
    · have:=hts t ht
      rw [show max 2 things=things by lia] at this
      exact this
    · have:ts=[]:=List.length_eq_zero_iff.mp (by lia)
      subst this;cases ht
def qR:PyData→Bool
  | .int _=>true
  | .bool _=>true
  | _=>false
def uD:PyData→Bool
  | .bool _=>true
  | _=>false
def yP:PyData→Bool
  | .tuple _=>true
  | _=>false
theorem yx{e:En}{d:PyData}:gL "int" e (.d d)=some (.d (.bool (qR d))):=by cases d<;>rfl
theorem D5{e:En}{d:PyData}:gL "bool" e (.d d)=some (.d (.bool (uD d))):=by cases d<;>rfl
theorem wV{e:En}{d:PyData}:gL "tuple" e (.d d)=some (.d (.bool (yP d))):=by cases d<;>rfl
theorem qU{d:PyData}(h:yP d=true):∃ds,d=.tuple ds:=by cases d<;>first | exact⟨_,rfl⟩ | cases h
theorem Ed(d:PyData):GT d=(qR d&& !uD d):=by cases d<;>rfl
theorem FY(d:PyData):fP [.d d]=some (.d (.bool (GT d)),[.d d]):=by
  rw [Ed]
  have g1:=fun e=>yx (e:=e) (d:=d)
  have g2:=fun e=>D5 (e:=e) (d:=d)
  generalize qR d=a at*
  generalize uD d=b at*
  cases a<;>simp? [fP,mH,g1,g2]
theorem qd(d:PyData)(lo hi:Int):aR [.d d,.d (.int lo),.d (.int hi)]=some (.d (.bool (aS lo hi d)),[.d d,.d (.int lo),.d (.int hi)]):=by
  have t:=FY d
  cases d with
  | int i=>
    by_cases c:lo≤i
    · simp? [aR,cy,t,GT,aS,ff,c]
    · simp? [aR,cy,t,GT,aS,ff,c]
  | _=>simp? [aR,cy,t,GT,aS,ff]
theorem xH(d:PyData)(n:Int):dZ [.d d,.d (.int n)]=some (.d (.bool (uS n d)),[.d d,.d (.int n)]):=by
  have g:=fun e=>wV (e:=e) (d:=d)
  cases c:yP d with
  | false=>
    rw [c] at g
    have e:uS n d=false:=by cases d<;>first | rfl | cases c
    rw [e]
    simp? [dZ,jp,g]
  | true=>
    rw [c] at g
    obtain⟨ds,rfl⟩:=qU c
    simp? [dZ,jp,g,uS]
def bw(ds:List PyData)(i:Int):Int:=match ds[i.toNat]? with
  | some (.int n)=>n
  | _=>0
def lV(W:aY):PyData→Bool
  | .tuple ds=>((ds.length:Int)==W.things)&&(ds.all (aS 0 1)&&W.ties.all fun t=> !(bw ds t.one==bw ds t.other))
  | _=>false
def uT:PyData→En
  | .tuple [a,b,c,d]=>[some (.d a),some (.d b),some (.d c),some (.d d)]
  | _=>[]
theorem mh{ns:List Int}{i:Int}(h0:0≤i)(h1:i < (ns.length:Int)):atI (ns.map PyData.int) i=some (.int (bw (ns.map .int) i)):=by
  rw [fF h0 h1]
  unfold bw
  have:i.toNat < ns.length:=by lia
  rw [List.getElem?_map,List.getElem?_eq_getElem this,List.getD_eq_getElem?_getD,List.getElem?_eq_getElem this]
  rfl
theorem Ea{W:aY}(e:En):eh e (.d (ay W)) (.d (.int 0))=some (.d (.int W.things)):=by rw [jr,pP,lX];rfl
theorem Gk{W:aY}(e:En):eh e (.d (ay W)) (.d (.int 1))=some (.d (.tuple (W.ties.map ar))):=by rw [jr,pP,nK];rfl
theorem j_{W:aY}{x:PyData}(h:x∈W.ties.map ar):∃t∈W.ties,x=ar t:=by
  obtain⟨t,ht,rfl⟩:=Md h
  exact⟨t,ht,rfl⟩
def qT(ds:List PyData):PyData→Bool
  | .tuple [.int a,.int b,_,_]=>bw ds a==bw ds b
  | _=>false
theorem oT{W:aY}{ds:List PyData}:(W.ties.map ar).all (fun x=> !qT ds x)=W.ties.all fun t=> !(bw ds t.one==bw ds t.other):=by
  rw [List.all_map];rfl
theorem CF{W:aY}(ok:W.Ok)(d:PyData):cD [.d (ay W),.d d]=some (.d (.bool (lV W d)),[.d (ay W),.d d]):=by
  have tr:=xH d W.things
  have g0:=Ea (W:=W)
  cases c:uS W.things d with
  | false=>
    rw [c] at tr
    have e:lV W d=false:=by
      unfold lV
      split
      · simp only [uS] at c;rw [c];rfl
      · rfl
    rw [e]
    simp? [cD,gf,g0,tr]
  | true=>
    rw [c] at tr
    cases d with
    | tuple ds=>
      have hl:(ds.length:Int)=W.things:=by simpa [uS] using c
      have t12:=ok.t1
      obtain⟨t',ht,hf⟩:=bY (cs:=[]) (g:=ag 0) (ft:=bO) (fe:=eK) (b:=fun _=>true) (y:=fun x=>.bool (aS 0 1 x)) (u:=fun x=>[some (.d x)]) 1 ds [none] [] rfl (fun x hx t ht=>by
        rcases t with _ | ⟨t1,_ | ⟨t2,r⟩⟩
        · simp at ht
        · rfl
        · simp at ht) (fun x hx=>rfl) (fun x _=>rfl) (fun x hx _=>by
        have tn:=qd x 0 1
        simp? [eK,tn]) (by simp;lia)
      have hv:=bC (cp:=[]) (nT:=1) (fi:=jD) (g:=ag 0) (ft:=bO) (fe:=eK) (e:=[some (.d (ay W)),some (.d (.tuple ds))]) (cs:=[]) (t:=[none]) (t':=t') rfl rfl rfl hf
      rw [List.nil_append,show List.filter (fun _=>true) ds=ds from List.filter_eq_self.mpr fun _ _=>rfl] at hv
      have ga:=fun e=>k9 (e:=e) (aS 0 1) ds
      cases c2:ds.all (aS 0 1) with
      | false=>
        rw [c2] at ga
        have e:lV W (.tuple ds)=false:=by simp only [lV,c2,Bool.false_and,Bool.and_false]
        rw [e]
        generalize (ds.map fun d=>PyData.bool (aS 0 1 d))=M at*
        simp? [cD,gf,g0,tr,hv,ga]
      | true=>
        rw [c2] at ga
        obtain⟨ns,rfl,hn⟩:=cC c2
        have hln:(ns.length:Int)=W.things:=by simpa using hl
        have g1':=Gk (W:=W)
        obtain⟨t2,ht2,hf2⟩:=bY (cs:=[some (.d (.tuple (ns.map .int)))]) (g:=dj (ao (ag 1) (ao (ag 2) (ao (ag 3) (ao (ag 4) cL))))) (ft:=bO) (fe:=eJ) (b:=fun _=>true) (y:=fun x=>.bool (!qT (ns.map .int) x)) (u:=uT) 4 (W.ties.map ar) [none,none,none,none] [] rfl (fun x hx t ht=>by
          obtain⟨ti,hti,rfl⟩:=j_ hx
          rcases t with _ | ⟨a1,_ | ⟨a2,_ | ⟨a3,_ | ⟨a4,_ | ⟨a5,r⟩⟩⟩⟩⟩
          · simp at ht
          · simp at ht
          · simp at ht
          · simp at ht
          · unfold ar
            generalize ns.map PyData.int=NN
            simp? [uT]
          · simp at ht) (fun x hx=>by
          obtain⟨ti,hti,rfl⟩:=j_ hx
          rfl) (fun x _=>rfl) (fun x hx _=>by
          obtain⟨ti,hti,rfl⟩:=j_ hx
          have o:=ok.ties ti hti
          have a1:=mh (ns:=ns) (i:=ti.one) o.o0 (by have:=o.o1;have:=o.o2;lia)
          have a2:=mh (ns:=ns) (i:=ti.other) (by have:=o.o0;have:=o.o1;lia) (by have:=o.o2;lia)
          rw [show qT (ns.map .int) (ar ti)=(bw (ns.map .int) ti.one==bw (ns.map .int) ti.other) from rfl]
          rw [show uT (ar ti)=[some (.d (.int ti.one)),some (.d (.int ti.other)),some (.d (.tuple [.int ti.top,.int ti.bot])),some (.d (.int ti.worth))] from rfl]
          generalize bw (ns.map PyData.int) ti.one=x1 at*
          generalize bw (ns.map PyData.int) ti.other=x2 at*
          generalize ns.map PyData.int=NN at*
          simp? [eJ,a1,a2]) (by have:=ok.len;simp;lia)
        have hv2:=bC (cp:=[(1,"thing")]) (nT:=4) (fi:=gP) (g:=dj (ao (ag 1) (ao (ag 2) (ao (ag 3) (ao (ag 4) cL))))) (ft:=bO) (fe:=eJ) (e:=[some (.d (ay W)),some (.d (.tuple (ns.map .int)))]) (e1:=[some (.d (ay W)),some (.d (.tuple (ns.map .int)))]) (cs:=[some (.d (.tuple (ns.map .int)))]) (t:=[none,none,none,none]) (t':=t2) (show gP _=_ from jC (by simp? [g1'])) rfl rfl hf2
        rw [List.nil_append,show List.filter (fun _=>true) (W.ties.map ar)=W.ties.map ar from List.filter_eq_self.mpr fun _ _=>rfl] at hv2
        have ga2:=fun e=>k9 (e:=e) (fun x=> !qT (ns.map .int) x) (W.ties.map ar)
        rw [oT] at ga2
        have e:lV W (.tuple (ns.map .int))=W.ties.all fun t=> !(bw (ns.map .int) t.one==bw (ns.map .int) t.other):=by simp only [lV,c2,hl,beq_self_eq_true,Bool.true_and]
        rw [e]
        generalize (W.ties.all fun t=> !(bw (ns.map .int) t.one==bw (ns.map .int) t.other))=bb at*
        generalize ((W.ties.map ar).map fun x=>PyData.bool (!qT (ns.map .int) x))=M2 at*
        generalize ((ns.map PyData.int).map fun d=>PyData.bool (aS 0 1 d))=M at*
        generalize ns.map PyData.int=NN at*
        simp? [cD,gf,g0,tr,hv,ga,hv2,ga2]
    | _=>simp [uS] at c
theorem t_{W:aY}(ok:W.Ok)(d:PyData):cw [.d (ay W),.d d]=some (.d (.bool (lV W d)),[.d (ay W),.d d]):=by
  have g0:=Ea (W:=W)
  have gt:=fun e=>wV (e:=e) (d:=d)
  cases c0:yP d with
  | false=>
    rw [c0] at gt
    have e:lV W d=false:=by cases d<;>first | rfl | cases c0
    rw [e]
    simp? [cw,fH,gt]
  | true=>
    rw [c0] at gt
    obtain⟨ds,rfl⟩:=qU c0
    by_cases hl:(ds.length:Int)=W.things
    case neg=>
      have e:lV W (.tuple ds)=false:=by
        have:((ds.length:Int)==W.things)=false:=by simpa using hl
        simp only [lV,this,Bool.false_and]
      rw [e]
      have gn:∀e:En,bK true e (.d (.int ds.length)) (.d (.int W.things))=some (.d (.bool true)):=fun e=>by rw [jY];simp [hl]
      simp? [cw,fH,gt,g0,gn]
    case pos=>
      have t12:=ok.t1
      have gn:∀e:En,bK true e (.d (.int ds.length)) (.d (.int W.things))=some (.d (.bool false)):=fun e=>by rw [jY];simp [hl]
      obtain⟨t',ht,hf⟩:=bY (cs:=[]) (g:=ag 0) (ft:=cP) (fe:=fq) (b:=fun x=> !aS 0 1 x) (y:=fun x=>x) (u:=fun x=>[some (.d x)]) 1 ds [none] [] rfl (fun x hx t ht=>by
        rcases t with _ | ⟨t1,_ | ⟨t2,r⟩⟩
        · simp at ht
        · rfl
        · simp at ht) (fun x hx=>rfl) (fun x hx=>by
        have q1:=fun e=>yx (e:=e) (d:=x)
        have q2:=fun e=>D5 (e:=e) (d:=x)
        cases x with
        | int i=>
          rw [show qR (.int i)=true from rfl] at q1
          rw [show uD (.int i)=false from rfl] at q2
          have e:(!(aS 0 1 (.int i)))= !((0:Int)==i || (1:Int)==i):=by
            rw [show aS 0 1 (.int i)=(decide (0≤i)&&decide (i≤1)) from rfl]
            congr 1
            rw [Bool.eq_iff_iff,Bool.and_eq_true,Bool.or_eq_true,beq_iff_eq,beq_iff_eq,decide_eq_true_eq,decide_eq_true_eq]
            lia
          rw [e]
          simp? [cP,q1,q2]
        | bool b=>
          rw [show qR (.bool b)=true from rfl] at q1
          rw [show uD (.bool b)=true from rfl] at q2
          simp? [cP,q1,q2,aS]
        | _=>
          simp only [qR] at q1
          simp? [cP,q1,aS]) (fun x hx _=>by
        simp? [fq]) (by simp;lia)
      have hv:=bC (cp:=[]) (nT:=1) (fi:=kc) (g:=ag 0) (ft:=cP) (fe:=fq) (e:=[some (.d (ay W)),some (.d (.tuple ds))]) (cs:=[]) (t:=[none]) (t':=t') rfl rfl rfl hf
      rw [List.nil_append,List.map_id'] at hv
      have hx:(ds.filter fun x=> !aS 0 1 x).isEmpty=ds.all (aS 0 1):=by
        rw [Bool.eq_iff_iff]
        simp [List.isEmpty_iff,List.filter_eq_nil_iff,List.all_eq_true]
      have gz:=fun e=>nY (e:=e) (xs:=ds.filter fun x=> !aS 0 1 x) (neg:=true)
      simp only [if_true,hx] at gz
      cases c2:ds.all (aS 0 1) with
      | false=>
        rw [c2] at gz
        have e:lV W (.tuple ds)=false:=by simp only [lV,c2,Bool.false_and,Bool.and_false]
        rw [e]
        generalize (ds.filter fun x=> !aS 0 1 x)=M at*
        simp? [cw,fH,gt,g0,gn,hv,gz]
      | true=>
        rw [c2] at gz
        obtain⟨ns,rfl,hn⟩:=cC c2
        have hln:(ns.length:Int)=W.things:=by simpa using hl
        have g1':=Gk (W:=W)
        obtain⟨t2,ht2,hf2⟩:=bY (cs:=[some (.d (.tuple (ns.map .int)))]) (g:=ag 1) (ft:=fj) (fe:=fm) (b:=fun x=>qT (ns.map .int) x) (y:=fun x=>x) (u:=fun x=>[some (.d x)]) 1 (W.ties.map ar) [none] [] rfl (fun x hx t ht=>by
          rcases t with _ | ⟨t1,_ | ⟨t2,r⟩⟩
          · simp at ht
          · rfl
          · simp at ht) (fun x hx=>rfl) (fun x hx=>by
          obtain⟨ti,hti,rfl⟩:=j_ hx
          have o:=ok.ties ti hti
          have a1:=mh (ns:=ns) (i:=ti.one) o.o0 (by have:=o.o1;have:=o.o2;lia)
          have a2:=mh (ns:=ns) (i:=ti.other) (by have:=o.o0;have:=o.o1;lia) (by have:=o.o2;lia)
          rw [show qT (ns.map .int) (ar ti)=(bw (ns.map .int) ti.one==bw (ns.map .int) ti.other) from rfl]
          unfold ar
          generalize bw (ns.map PyData.int) ti.one=x1 at*
          generalize bw (ns.map PyData.int) ti.other=x2 at*
          generalize ns.map PyData.int=NN at*
          simp? [fj,a1,a2]) (fun x hx _=>by
          generalize ns.map PyData.int=NN at*
          simp? [fm]) (by have:=ok.len;simp;lia)
        have hv2:=bC (cp:=[(1,"_law_thing")]) (nT:=1) (fi:=ir) (g:=ag 1) (ft:=fj) (fe:=fm) (e:=[some (.d (ay W)),some (.d (.tuple (ns.map .int)))]) (e1:=[some (.d (ay W)),some (.d (.tuple (ns.map .int)))]) (cs:=[some (.d (.tuple (ns.map .int)))]) (t:=[none]) (t':=t2) (show ir _=_ from jC (by simp? [g1'])) rfl rfl hf2
        rw [List.nil_append,List.map_id'] at hv2
        have hx2:((W.ties.map ar).filter fun x=>qT (ns.map .int) x).isEmpty=W.ties.all fun t=> !(bw (ns.map .int) t.one==bw (ns.map .int) t.other):=by
          rw [←oT,Bool.eq_iff_iff]
          simp [List.isEmpty_iff,List.filter_eq_nil_iff,List.all_eq_true]
        have gz2:=fun e=>nY (e:=e) (xs:=(W.ties.map ar).filter fun x=>qT (ns.map .int) x) (neg:=false)
        simp only [Bool.false_eq_true,if_false,hx2] at gz2
        have e:lV W (.tuple (ns.map .int))=W.ties.all fun t=> !(bw (ns.map .int) t.one==bw (ns.map .int) t.other):=by simp only [lV,c2,hl,beq_self_eq_true,Bool.true_and]
        rw [e]
        generalize (W.ties.all fun t=> !(bw (ns.map .int) t.one==bw (ns.map .int) t.other))=bb at*
        generalize ((W.ties.map ar).filter fun x=>qT (ns.map .int) x)=M2 at*
        generalize ((ns.map PyData.int).filter fun x=> !aS 0 1 x)=M at*
        generalize ns.map PyData.int=NN at*
        simp? [cw,fH,gt,g0,gn,hv,gz,hv2,gz2]
abbrev xE(ds:List Int)(things many cut odds ws:Int)(ts:List ip)(v7 v8 v9 v10:Option Sv):En:=[some (.l (ds.map .int)),some (.d (.int things)),some (.d (.int many)),some (.d (.int cut)),some (.d (.int odds)),some (.d (.int ws)),some (.l (ts.map ar)),v7,v8,v9,v10]
inductive XI (things many cut a b:Int) (i:Nat):En→Prop
  | mk {ts ds w7 w8 w9 w10} (hd:iU ds) (hl:ts.length=i) (ht:∀t∈ts,t.Ok things):XI things many cut a b i (xE ds things many cut a b ts w7 w8 w9 w10)
theorem AC(ds:List Int)(things many:Int)(hd:iU ds)(h2:2≤things)(h12:things≤100)(m0:0≤many)(m1:many≤1000):∃(ts:List ip) (ds':List Int),jE [.l (ds.map .int),.d (.int things),.d (.int many)]=some (.d (.tuple (ts.map ar)),[.l (ds'.map .int),.d (.int things),.d (.int many)])∧iU ds'∧(ts.length:Int)=many∧∀t∈ts,t.Ok things:=by
  obtain⟨n0,d1,t0, -, -,hd1⟩:=e_ hd
  obtain⟨n1,d2,t1, -, -,hd2⟩:=e_ hd1
  obtain⟨n2,d3,t2, -, -,hd3⟩:=e_ hd2
  have tq:0 < things - 1:=Int.sub_pos_of_lt (Int.lt_of_lt_of_le (by decide) h2)
  have g0:∀e:En,aQ e (.d (.int n0)) (.d (.int (things - 1)))=some (.d (.int (n0 % (things - 1)))):=fun e=>az tq
  have c0:1≤1+n0 % (things - 1):=by have:=pb (n:=n0) tq;lia
  have c1:1+n0 % (things - 1) < things:=by have:=pd (n:=n0) tq;lia
  generalize n0 % (things - 1)=nc at*
  obtain⟨cut,hcut⟩:∃cut,cut=1+nc:=⟨_,rfl⟩
  rw [←hcut] at c0 c1
  have gcut:∀e:En,bN e (.d (.int 1)) (.d (.int nc))=some (.d (.int cut)):=fun e=>by rw [fL,hcut]
  obtain⟨e',h1,hI⟩:=cK (own:=[]) (g:=ag 7) (f:=iW) (XI things many cut (n1 % 4) (n2 % 4)) (aM 0 many.toNat) 0 (xE d3 things many cut (n1 % 4) (n2 % 4) [] none none none none) (fun i x e hx hI=>by
    obtain⟨rfl,hi⟩:=bx hx
    obtain⟨hd',hl,ht⟩:=hI
    rename_i ts ds' w7 w8 w9 w10
    obtain⟨n,e1,tn,n0, -,hd1⟩:=e_ hd'
    obtain⟨m,e2,tm,m0, -,hd2⟩:=e_ hd1
    have cp:0 < cut:=by lia
    have dp:0 < things - cut:=by lia
    have g1:∀e:En,aQ e (.d (.int n)) (.d (.int cut))=some (.d (.int (n % cut))):=fun e=>az cp
    have g2:∀e:En,fM e (.d (.int n)) (.d (.int cut))=some (.d (.int (n / cut))):=fun e=>dW cp (jq (by lia) (by lia))
    have g3:∀e:En,aQ e (.d (.int (n / cut))) (.d (.int (things - cut)))=some (.d (.int (n / cut % (things - cut)))):=fun e=>az dp
    have a0:=pb (n:=n) cp;have a1:=pd (n:=n) cp
    have b0:=pb (n:=n / cut) dp;have b1:=pd (n:=n / cut) dp
    generalize n / cut % (things - cut)=y at*
    generalize n % cut=x at*
    obtain⟨t,b,c1,c2,c3,c4,c5,c6⟩:=oS m (n1 % 4) m0
    obtain⟨w,w1,w2,w3⟩:=rO (m / 10007) (n2 % 4)
    have b107:Bt 8000 10007:=jq (by decide) (by decide)
    have hlen:ts.length < 1000000:=by lia
    refine⟨xE ds' things many cut (n1 % 4) (n2 % 4) ts (some (.d (.int (0+(i:Int))))) w8 w9 w10,xE e2 things many cut (n1 % 4) (n2 % 4) (ts++[⟨x,cut+y,t,b,w⟩]) (some (.d (.int (0+(i:Int))))) (some (.d (.int n))) (some (.d (.int m))) (some (.d (.tuple [.int x,.int (cut+y)]))),rfl,?_,be,.mk hd2 (by simp;lia) fun z hz=>by
      rcases Mc hz with hz | hz
      · exact ht z hz
      · simp at hz;subst hz;exact⟨a0,by show x < cut+y;lia,by show cut+y < things;lia,c2,c3,c4,c5,w2,w3,c6⟩⟩
    simp? [xE,iW,tn,tm,g1,g2,g3,dW,b107,c1,w1,kn,ar,hlen]) (.mk hd3 rfl fun t ht=>by cases ht)
  obtain⟨hd',hl,ht⟩:=hI
  rename_i ts ds' w7 w8 w9 w10
  refine⟨ts,ds',?_,hd',by rw [hl,bc];lia,ht⟩
  have hf:∀W,dC W kr (ag 7) iW (xE d3 things many cut (n1 % 4) (n2 % 4) [] none none none none)=some (.nx (xE ds' things many cut (n1 % 4) (n2 % 4) ts w7 w8 w9 w10)):=fun W=>by
    rw [c_ (show kr _=some (aM 0 many.toNat,[],xE d3 things many cut (n1 % 4) (n2 % 4) [] none none none none) from bi (n:=many) (by simp? [xE]) (by lia) (by lia))]
    exact h1
  unfold xE at hf
  simp only [List.map_nil] at hf
  simp? [jE,rZ,t0,t1,t2,g0,gcut,az,hf, -fL]
abbrev nE(ds:List Int)(things:Int)(rs:Sv)(left names:List Int)(v5 v6 v7 v8 v9 v10:Option Sv):En:=[some (.l (ds.map .int)),some (.d (.int things)),some rs,some (.l (left.map .int)),some (.l (names.map .int)),v5,v6,v7,v8,v9,v10]
inductive NI (things:Int) (rs:Sv) (i:Nat):En→Prop
  | mk {ds left names v5} (hd:iU ds) (hl:names.length=i) (hp:(names++left).Perm (kM things.toNat)):NI things rs i (nE ds things rs left names v5 none none none none none)
inductive NJ (ds:List Int) (things:Int) (rs:Sv) (left names:List Int) (v5:Option Sv) (i:Nat):En→Prop
  | mk {ts:List ip} {v7 v8 v9 v10} (hl:ts.length=i) (ht:∀t∈ts,t.Ok things):NJ ds things rs left names v5 i (nE ds things rs left names v5 (some (.l (ts.map ar))) v7 v8 v9 v10)
theorem zB{names:List Int}{n:Nat}(h:names.Perm (kM n)):names.length=n∧names.Nodup∧∀x∈names,0≤x∧x < (n:Int):=by
  refine⟨by rw [h.length_eq,lG],h.nodup_iff.mpr ?_,fun x hx=>?_⟩
  · unfold kM
    refine List.Pairwise.map _ (fun a b h=>?_) (List.nodup_range (n:=n))
    intro e
    exact h (by have:(a:Int)=b:=e;lia)
  · have:=h.mem_iff.mp hx
    unfold kM at this
    obtain⟨k,hk,rfl⟩:=Md this
    have:=List.mem_range.mp hk
    exact⟨by simp,by simpa using this⟩
theorem zh{names:List Int}(h:names.Nodup){i j:Nat}(hi:i < names.length)(hj:j < names.length)(n:i≠j):names.getD i 0≠names.getD j 0:=by
  rw [List.getD_eq_getElem?_getD,List.getD_eq_getElem?_getD,List.getElem?_eq_getElem hi,List.getElem?_eq_getElem hj]
  have p:=List.pairwise_iff_getElem.mp h
  intro e
  rcases Nat.lt_or_gt_of_ne n with q | q
  · exact p i j hi hj q e
  · exact p j i hj hi q e.symm
theorem qe{ds:List Int}{things:Int}{ts:List ip}{rs:Sv}(hr:rs=.d (.tuple (ts.map ar))∨rs=.l (ts.map ar))(hd:iU ds)(h2:1≤things)(h12:things≤100)(hl:ts.length≤1000)(ht:∀t∈ts,t.Ok things):
    ∃(us:List ip) (ds':List Int),dX [.l (ds.map .int),.d (.int things),rs]=some (.d (.tuple (us.map ar)),[.l (ds'.map .int),.d (.int things),rs])∧iU ds'∧us.length=ts.length∧∀t∈us,t.Ok things:=by
  obtain⟨e',h1,hI⟩:=cK (own:=[]) (g:=ag 5) (f:=g_) (NI things rs) (aM 0 things.toNat) 0 (nE ds things rs (kM things.toNat) [] none none none none none none) (fun i x e hx hI=>by
    obtain⟨rfl,hi⟩:=bx hx
    obtain⟨hd',hln,hp⟩:=hI
    rename_i ds left names v5
    have hle:=hp.length_eq
    rw [List.length_append,lG] at hle
    obtain⟨n,d1,t1,a1,b1,hd1⟩:=e_ hd'
    have pos:0 < left.length:=by lia
    have m0:0≤n % (left.length:Int):=Int.emod_nonneg _ (by lia)
    have m1:n % (left.length:Int) < (left.length:Int):=Int.emod_lt_of_pos _ (by lia)
    have gm:∀e,aQ e (.d (.int n)) (.d (.int (left.length:Int)))=some (.d (.int (n % (left.length:Int)))):=fun e=>az (by lia)
    generalize n % (left.length:Int)=k at*
    have hk:k.toNat < left.length:=by lia
    have hx':(left.map PyData.int)[k.toNat]?=some (.int left[k.toNat]):=by rw [List.getElem?_map,List.getElem?_eq_getElem hk];rfl
    have he:(left.map PyData.int).eraseIdx k.toNat=(left.eraseIdx k.toNat).map .int:=by rw [pL]
    refine⟨nE ds things rs left names (some (.d (.int (0+(i:Int))))) none none none none none,nE d1 things rs (left.eraseIdx k.toNat) (names++[left[k.toNat]]) (some (.d (.int (0+(i:Int))))) none none none none none,rfl,?_,be,.mk hd1 (by simp;lia) (by
      rw [List.append_assoc]
      exact(List.Perm.append_left _ (nQ left k.toNat hk)).trans hp)⟩
    have ql:((left.map PyData.int).length:Int)=(left.length:Int):=by simp
    have hb:k < 1000000000:=by lia
    have lf:(names.map PyData.int).length < 1000000:=by simp;lia
    have e1:(names++[left[k.toNat]]).map PyData.int=names.map .int++[.int left[k.toNat]]:=by simp
    simp only [nE,e1,←he]
    generalize left[k.toNat]=z at*
    generalize names.map PyData.int=FF at*
    generalize (left.length:Int)=L at*
    generalize left.map PyData.int=LL at*
    simp? [g_,t1,ql,gm,m0,hb,hx',lf]) (.mk hd rfl (by simp))
  obtain⟨hd2,hln,hp⟩:=hI
  rename_i d2 left names v5
  rw [Nat.zero_add,bc] at hln
  have hle:=hp.length_eq
  rw [List.length_append,lG] at hle
  have hleft:left=[]:=List.length_eq_zero_iff.mp (by lia)
  subst hleft
  rw [List.append_nil] at hp
  obtain⟨_,hnd,hrg⟩:=zB hp
  have hf:∀W,dC W jB (ag 5) g_ (nE ds things rs (kM things.toNat) [] none none none none none none)=some (.nx (nE d2 things rs [] names v5 none none none none none)):=fun W=>by
    rw [c_ (show jB _=some (aM 0 things.toNat,[],nE ds things rs (kM things.toNat) [] none none none none none none) from bi (n:=things) (by simp? [nE]) (by lia) (by lia))]
    exact h1
  have step:∀(own:io) (hown:∀e i,NJ d2 things rs [] names v5 i e→keeps own e),∃e',fW own (dj (ao (ag 7) (ao (ag 8) (ao (ag 9) (ao (ag 10) cL))))) fJ (ts.map ar) (nE d2 things rs [] names v5 (some (.l [])) none none none none)=some (.nx e')∧NJ d2 things rs [] names v5 (0+(ts.map ar).length) e':=fun own hown=>by
    refine cK (own:=own) (g:=dj (ao (ag 7) (ao (ag 8) (ao (ag 9) (ao (ag 10) cL))))) (f:=fJ) (NJ d2 things rs [] names v5) (ts.map ar) 0 (nE d2 things rs [] names v5 (some (.l [])) none none none none) (fun i x e hx hI=>?_) (NJ.mk (ts:=[]) rfl (fun t h=>by cases h))
    obtain⟨hl',ht'⟩:=hI
    rename_i us v7 v8 v9 v10
    rw [List.getElem?_map] at hx
    obtain⟨ti,hti,rfl⟩:=Ma hx
    have o:=ht ti (Mf hti)
    have ilt:=(Mb hti).1
    have:=o.o0;have:=o.o1;have:=o.o2
    have a1:=fF (ns:=names) (k:=ti.one) (by lia) (by lia)
    have a2:=fF (ns:=names) (k:=ti.other) (by lia) (by lia)
    have ne:=zh hnd (i:=ti.one.toNat) (j:=ti.other.toNat) (by lia) (by lia) (by lia)
    have r1:=hrg (names.getD ti.one.toNat 0) (by
      rw [List.getD_eq_getElem?_getD,List.getElem?_eq_getElem (by lia)]
      exact List.getElem_mem _)
    have r2:=hrg (names.getD ti.other.toNat 0) (by
      rw [List.getD_eq_getElem?_getD,List.getElem?_eq_getElem (by lia)]
      exact List.getElem_mem _)
    generalize names.getD ti.one.toNat 0=y1 at*
    generalize names.getD ti.other.toNat 0=y2 at*
    have nj:NJ d2 things rs [] names v5 (0+i+1) (nE d2 things rs [] names v5 (some (.l ((us++[ip.mk (min y1 y2) (max y1 y2) ti.top ti.bot ti.worth]).map ar))) (some (.d (.int ti.one))) (some (.d (.int ti.other))) (some (.d (.tuple [.int ti.top,.int ti.bot]))) (some (.d (.int ti.worth)))):=.mk (by simp;lia) fun z hz=>by
      rcases Mc hz with hz | hz
      · exact ht' z hz
      · simp at hz;subst hz
        exact⟨by show 0≤min y1 y2;lia,by show min y1 y2 < max y1 y2;lia,by show max y1 y2 < things;lia,o.c0,o.c1,o.b0,o.b1,o.w0,o.w1,o.cop⟩
    refine⟨nE d2 things rs [] names v5 (some (.l (us.map ar))) (some (.d (.int ti.one))) (some (.d (.int ti.other))) (some (.d (.tuple [.int ti.top,.int ti.bot]))) (some (.d (.int ti.worth))),_,?_,?_,hown _ _ nj,nj⟩
    · simp only [nE,ar]
      generalize us.map ar=UU
      generalize names.map PyData.int=NN
      simp? [List.replicate]
    · have lu:(us.map ar).length < 1000000:=by simp;lia
      rw [List.map_append]
      simp only [nE,ar,List.map_cons,List.map_nil]
      generalize us.map ar=UU at*
      generalize names.map PyData.int=NN at*
      simp? [fJ,a1,a2,lu]
  have fin:∃(us:List ip) (v7 v8 v9 v10:Option Sv),(∀Wl,(Wl.contains 2=false)→dC Wl jA (dj (ao (ag 7) (ao (ag 8) (ao (ag 9) (ao (ag 10) cL))))) fJ (nE d2 things rs [] names v5 (some (.l [])) none none none none)=some (.nx (nE d2 things rs [] names v5 (some (.l (us.map ar))) v7 v8 v9 v10)))∧us.length=ts.length∧∀t∈us,t.Ok things:=by
    rcases hr with rfl | rfl
    · obtain⟨e',h3,hJ⟩:=step [] (fun _ _ _=>be)
      obtain⟨hl',ht'⟩:=hJ
      rename_i us v7 v8 v9 v10
      refine⟨us,v7,v8,v9,v10,fun Wl _=>?_,by simpa using hl',ht'⟩
      rw [c_ (items:=ts.map ar) (e1:=nE d2 things (.d (.tuple (ts.map ar))) [] names v5 (some (.l [])) none none none none) rfl]
      exact h3
    · obtain⟨e',h3,hJ⟩:=step [(2,ts.map ar)] (fun e i hJ=>by
        obtain⟨_,_⟩:=hJ
        intro p hp
        simp at hp;subst hp;rfl)
      obtain⟨hl',ht'⟩:=hJ
      rename_i us v7 v8 v9 v10
      refine⟨us,v7,v8,v9,v10,fun Wl hW=>?_,by simpa using hl',ht'⟩
      unfold dC
      rw [show jA (nE d2 things (.l (ts.map ar)) [] names v5 (some (.l [])) none none none none)=some (ts.map ar,[(2,ts.map ar)],nE d2 things (.l (ts.map ar)) [] names v5 (some (.l [])) none none none none) from rfl]
      simp only [Option.bind_some,List.all_cons,List.all_nil,hW,Bool.not_false,Bool.and_true,if_true]
      exact h3
  obtain⟨us,v7,v8,v9,v10,hf2,hl2,ht2⟩:=fin
  refine⟨us,d2,?_,hd2,hl2,ht2⟩
  have hf2':=fun Wl h=>hf2 Wl h
  simp only [nE,List.map_nil] at hf hf2'
  have th:things≤100000:=by lia
  have th0:0≤things:=by lia
  generalize ts.map ar=TT at*
  rcases hr with rfl | rfl
  · simp? [dX,lY,lU,th,th0,hf,hf2']
  · simp? [dX,lY,lU,th,th0,hf,hf2']
abbrev AY(ds:List Int)(things size:Int)(ts:List ip)(v4 v5 v6:Option Sv):En:=[some (.l (ds.map .int)),some (.d (.int things)),some (.d (.int size)),some (.l (ts.map ar)),v4,v5,v6]
inductive OI (things size:Int) (i:Nat):En→Prop
  | mk {ts ds w4 w5 w6} (hd:iU ds) (hl:ts.length=i) (ht:∀t∈ts,t.Ok things):OI things size i (AY ds things size ts w4 w5 w6)
theorem CC(ds:List Int)(things size:Int)(hd:iU ds)(h2:2≤size)(hs:size≤things)(h12:things≤100):∃(ts:List ip) (ds':List Int),lm [.l (ds.map .int),.d (.int things),.d (.int size)]=some (.d (.tuple (ts.map ar)),[.l (ds'.map .int),.d (.int things),.d (.int size)])∧iU ds'∧(ts.length:Int)=size∧∀t∈ts,t.Ok things:=by
  have sp:0 < size:=by lia
  obtain⟨e',h1,hI⟩:=cK (own:=[]) (g:=ag 4) (f:=jU) (OI things size) (aM 0 size.toNat) 0 (AY ds things size [] none none none) (fun i x e hx hI=>by
    obtain⟨rfl,hi⟩:=bx hx
    obtain⟨hd',hl,ht⟩:=hI
    rename_i ts ds' w4 w5 w6
    obtain⟨k,hk⟩:∃k:Int,k=0+(i:Int):=⟨_,rfl⟩
    rw [←hk]
    obtain⟨m,e2,tm,m0, -,hd2⟩:=e_ hd'
    have g1:∀e:En,aQ e (.d (.int (k+1))) (.d (.int size))=some (.d (.int ((k+1) % size))):=fun e=>az sp
    have q0:=pb (n:=k+1) sp
    have q1:=pd (n:=k+1) sp
    have qn:(k+1) % size≠k:=fun z=>by
      by_cases c:k+1 < size
      · rw [Int.emod_eq_of_lt (by lia) c] at z;lia
      · have:k+1=size:=by lia
        rw [this,Int.emod_self] at z;lia
    generalize (k+1) % size=y at*
    obtain⟨t,b,c1,c2,c3,c4,c5,c6⟩:=oS m 1 m0
    obtain⟨w,w1,w2,w3⟩:=rO (m / 10007) 2
    have b107:Bt 8000 10007:=jq (by decide) (by decide)
    have hlen:ts.length < 1000000:=by lia
    refine⟨AY ds' things size ts (some (.d (.int k))) w5 w6,AY e2 things size (ts++[⟨min k y,max k y,t,b,w⟩]) (some (.d (.int k))) (some (.d (.int m))) (some (.d (.tuple [.int (min k y),.int (max k y)]))),rfl,?_,be,.mk hd2 (by simp;lia) fun z hz=>by
      rcases Mc hz with hz | hz
      · exact ht z hz
      · simp at hz;subst hz;exact⟨by show 0≤min k y;lia,by show min k y < max k y;lia,by show max k y < things;lia,c2,c3,c4,c5,w2,w3,c6⟩⟩
    simp? [AY,jU,tm,g1,dW,b107,c1,w1,kn,ar,hlen]) (.mk hd rfl fun t ht=>by cases ht)
  obtain⟨hd',hl,ht⟩:=hI
  rename_i ts ds' w4 w5 w6
  rw [Nat.zero_add,bc] at hl
  have hf:∀W,dC W md (ag 4) jU (AY ds things size [] none none none)=some (.nx (AY ds' things size ts w4 w5 w6)):=fun W=>by
    rw [c_ (show md _=some (aM 0 size.toNat,[],AY ds things size [] none none none) from bi (n:=size) (by simp? [AY]) (by lia) (by lia))]
    exact h1
  obtain⟨us,d2,t2,hd2,hl2,ht2⟩:=qe (ts:=ts) (.inr rfl) hd' (by lia) h12 (by lia) ht
  refine⟨us,d2,?_,hd2,by lia,ht2⟩
  unfold AY at hf
  simp only [List.map_nil] at hf
  generalize ts.map ar=TT at*
  generalize us.map ar=UU at*
  simp? [lm,vq,hf,t2]
theorem wq{ts:List ip}{n:Int}(h:∀t∈ts,t.Ok n)(k:Nat):∀t∈ts.take k,t.Ok n:=fun t ht=>h t (List.mem_of_mem_take ht)
theorem ym{ts:List ip}{m:Int}(h0:0≤m):L2.cutD (ts.map ar) none (some m)=(ts.take m.toNat).map ar:=by
  unfold L2.cutD
  show((ts.map ar).drop 0).take (HT.sIx (ts.map ar).length (ts.map ar).length (some m) - 0)=_
  have e:HT.sIx (ts.map ar).length (ts.map ar).length (some m)=min m.toNat ts.length:=by
    show(if m < 0 then _ else min m.toNat (ts.map ar).length)=_
    rw [if_neg (by lia),List.length_map]
  rw [e,List.drop_zero,Nat.sub_zero,List.map_take]
  by_cases c:m.toNat≤ts.length
  · rw [Nat.min_eq_left c]
  · rw [Nat.min_eq_right (by lia),List.take_of_length_le (by simp),List.take_of_length_le (by simp;lia)]
theorem Ok.more{t:ip}{n m:Int}(h:t.Ok n)(k:n≤m):t.Ok m:=⟨h.o0,h.o1,by have:=h.o2;lia,h.c0,h.c1,h.b0,h.b1,h.w0,h.w1,h.cop⟩
theorem ve{things asks p:Int}{ts:List ip}(t0:0≤things)(t1:things≤12)(ht:∀t∈ts,t.Ok things)(hl:ts.length≤16)(p0:0≤p)(p1:p≤20)(a0:0≤asks)(a1:asks≤40):(aY.mk things ts (List.replicate things.toNat p) asks).Ok:=
  ⟨t0,t1,ht,hl,by show((List.replicate things.toNat p).length:Int)=things;rw [List.length_replicate];lia,fun q hq=>by have:=(List.mem_replicate.mp hq).2;lia,a0,a1⟩
theorem uX(ds:List Int)(most many:Int)(hd:iU ds)(m0:2≤most)(m1:most≤12)(k0:0≤many)(k1:many≤16):∃(W:aY) (ds':List Int),dk [.l (ds.map .int),.d (.int most),.d (.int many)]=some (.d (ay W),[.l (ds'.map .int),.d (.int most),.d (.int many)])∧iU ds'∧W.Ok:=by
  obtain⟨n0,d1,t0, -, -,hd1⟩:=e_ hd
  obtain⟨n1,d2,t1, -, -,hd2⟩:=e_ hd1
  have mp:0 < most - 1:=by lia
  have g0:∀e:En,aQ e (.d (.int n0)) (.d (.int (most - 1)))=some (.d (.int (n0 % (most - 1)))):=fun e=>az mp
  have a0:=pb (n:=n0) mp;have a1:=pd (n:=n0) mp
  generalize n0 % (most - 1)=th at*
  have g1:∀e:En,aQ e (.d (.int n1)) (.d (.int 4))=some (.d (.int (n1 % 4))):=fun e=>az (by decide)
  have b0:=pb (n:=n1) (k:=4) (by decide);have b1:=pd (n:=n1) (k:=4) (by decide)
  generalize n1 % 4=sort at*
  by_cases c0:sort=0
  · subst c0
    obtain⟨W,d3,tw,hd3,ok,_,_⟩:=HR d2 most many hd2 (by lia) m1 k0 k1
    refine⟨W,d3,?_,hd3,ok⟩
    simp? [dk,gH,t0,t1,g0,g1,tw]
  obtain⟨things,hth⟩:∃things,things=2+th:=⟨_,rfl⟩
  have gth:∀e:En,bN e (.d (.int 2)) (.d (.int th))=some (.d (.int things)):=fun e=>by rw [fL,hth]
  obtain⟨n2,d3,t2, -, -,hd3⟩:=e_ hd2
  have kp:0 < many+1:=by lia
  have g2:∀e:En,aQ e (.d (.int n2)) (.d (.int (many+1)))=some (.d (.int (n2 % (many+1)))):=fun e=>az kp
  have e0:=pb (n:=n2) kp;have e1:=pd (n:=n2) kp
  generalize n2 % (many+1)=ma at*
  obtain⟨ts,d4,t3,hd4,hl3,ht3⟩:=AC d3 things ma hd3 (by lia) (by lia) (by lia) (by lia)
  obtain⟨us,d5,t4,hd5,hl4,ht4⟩:=qe (ts:=ts) (.inl rfl) hd4 (things:=things) (by lia) (by lia) (by lia) ht3
  have fin:∀(ds:List Int),iU ds→∃(p a:Int) (d7 d8:List Int),aP [.l (ds.map .int)]=some (.d (.int p),[.l (d7.map .int)])∧aP [.l (d7.map .int)]=some (.d (.int a),[.l (d8.map .int)])∧iU d8∧(∀e:En,aQ e (.d (.int p)) (.d (.int 20))=some (.d (.int (p % 20))))∧(∀e:En,aQ e (.d (.int a)) (.d (.int 41))=some (.d (.int (a % 41)))):=fun ds hd=>by
    obtain⟨p,d7,t7, -, -,hd7⟩:=e_ hd
    obtain⟨a,d8,t8, -, -,hd8⟩:=e_ hd7
    exact⟨p,a,d7,d8,t7,t8,hd8,fun e=>az (by decide),fun e=>az (by decide)⟩
  have rep:∀(e:En) (x n:Int),0≤n→n≤100→jy e (.d (.tuple [.int x])) (.d (.int n))=some (.d (.tuple ((List.replicate n.toNat x).map .int))):=fun e x n h0 h1=>by rw [List.map_replicate];exact D_ h0 (by lia)
  have p20:∀p:Int,0≤1+p % 20∧1+p % 20≤20:=fun p=>by have:=pb (n:=p) (k:=20) (by decide);have:=pd (n:=p) (k:=20) (by decide);lia
  have a41:∀p:Int,0≤p % 41∧p % 41≤40:=fun p=>by have:=pb (n:=p) (k:=41) (by decide);have:=pd (n:=p) (k:=41) (by decide);lia
  by_cases c1:sort=1
  · subst c1
    obtain⟨n5,d6,t5, -, -,hd6⟩:=e_ hd5
    have xp:0 < max 1 (things - 2):=by lia
    have g5:∀e:En,aQ e (.d (.int n5)) (.d (.int (max 1 (things - 2))))=some (.d (.int (n5 % max 1 (things - 2)))):=fun e=>az xp
    have f0:=pb (n:=n5) xp;have f1:=pd (n:=n5) xp
    generalize n5 % max 1 (things - 2)=sz at*
    obtain⟨vs,d7,t6,hd7,hl6,ht6⟩:=CC d6 (max things 3) (min (3+sz) (max things 3)) hd6 (by lia) (by lia) (by lia)
    obtain⟨n8,d8,t8, -, -,hd8⟩:=e_ hd7
    have g8:∀e:En,aQ e (.d (.int n8)) (.d (.int 4))=some (.d (.int (n8 % 4))):=fun e=>az (by decide)
    have h0:=pb (n:=n8) (k:=4) (by decide);have h1:=pd (n:=n8) (k:=4) (by decide)
    generalize n8 % 4=m8 at*
    obtain⟨xs,d9,t9,hd9,hl9,ht9⟩:=uY d8 (max things 3) m8 hd8 (by lia) (by lia) (by lia) (by lia)
    obtain⟨p,a,d10,d11,tp,ta,hd11,gp,ga⟩:=fin d9 hd9
    have gc:∀e:En,bN e (.d (.tuple (vs.map ar))) (.d (.tuple (xs.map ar)))=some (.d (.tuple ((vs++xs).map ar))):=fun e=>by rw [List.map_append];exact kn (by simp;lia)
    have gs:=ym (ts:=vs++xs) k0
    refine⟨⟨max things 3,(vs++xs).take many.toNat,List.replicate (max things 3).toNat (1+p % 20),a % 41⟩,d11,?_,hd11,ve (by lia) (by lia) (wq (fun t h=>by
      rcases Mc h with h | h
      · exact ht6 t h
      · exact ht9 t h) _) (by have:=List.length_take_le many.toNat (vs++xs);lia) (p20 p).1 (p20 p).2 (a41 a).1 (a41 a).2⟩
    have hrep:=fun e=>rep e (1+p % 20) (max things 3) (by lia) (by lia)
    rw [jr]
    simp only
    generalize (vs++xs).map ar=VX at*
    generalize ((vs++xs).take many.toNat).map ar=VT at*
    generalize (List.replicate (max things 3).toNat (1+p % 20)).map PyData.int=RP at*
    generalize vs.map ar=VV at*
    generalize xs.map ar=XX at*
    generalize us.map ar=UU at*
    generalize ts.map ar=TT at*
    simp? [dk,gH,t0,t1,g0,g1,gth,t2,g2,t3,t4,t5,g5,t6,t8,g8,t9,gc,gs,tp,ta,gp,ga,hrep, -fL]
  · by_cases c2:sort=2
    · subst c2
      obtain⟨xs,d9,t9,hd9,hl9,ht9⟩:=uY d5 things 1 hd5 (by lia) (by lia) (by decide) (by decide)
      obtain⟨p,a,d10,d11,tp,ta,hd11,gp,ga⟩:=fin d9 hd9
      have gc:∀e:En,bN e (.d (.tuple (us.map ar))) (.d (.tuple (xs.map ar)))=some (.d (.tuple ((us++xs).map ar))):=fun e=>by rw [List.map_append];exact kn (by simp;lia)
      have gs:=ym (ts:=us++xs) k0
      refine⟨⟨things,(us++xs).take many.toNat,List.replicate things.toNat (1+p % 20),a % 41⟩,d11,?_,hd11,ve (by lia) (by lia) (wq (fun t h=>by
        rcases Mc h with h | h
        · exact ht4 t h
        · exact ht9 t h) _) (by have:=List.length_take_le many.toNat (us++xs);lia) (p20 p).1 (p20 p).2 (a41 a).1 (a41 a).2⟩
      have hrep:=fun e=>rep e (1+p % 20) things (by lia) (by lia)
      rw [jr]
      simp only
      generalize (us++xs).map ar=VX at*
      generalize ((us++xs).take many.toNat).map ar=VT at*
      generalize (List.replicate things.toNat (1+p % 20)).map PyData.int=RP at*
      generalize xs.map ar=XX at*
      generalize us.map ar=UU at*
      generalize ts.map ar=TT at*
      simp? [dk,gH,t0,t1,g0,g1,gth,t2,g2,t3,t4,t9,gc,gs,tp,ta,gp,ga,hrep, -fL]
    · have c3:sort=3:=by lia
      subst c3
      obtain⟨p,a,d10,d11,tp,ta,hd11,gp,ga⟩:=fin d5 hd5
      refine⟨⟨things,us,List.replicate things.toNat (1+p % 20),a % 41⟩,d11,?_,hd11,ve (by lia) (by lia) ht4 (by lia) (p20 p).1 (p20 p).2 (a41 a).1 (a41 a).2⟩
      have hrep:=fun e=>rep e (1+p % 20) things (by lia) (by lia)
      rw [jr]
      simp only
      generalize (List.replicate things.toNat (1+p % 20)).map PyData.int=RP at*
      generalize us.map ar=UU at*
      generalize ts.map ar=TT at*
      simp? [dk,gH,t0,t1,g0,g1,gth,t2,g2,t3,t4,tp,ta,gp,ga,hrep, -fL]
theorem AF{d:PyData}{many:Int}(hl:∀ds,d=.tuple ds→ds.length≤1000):bv [.d d,.d (.int many)]=some (.d (.bool (ww many d)),[.d d,.d (.int many)]):=by
  cases d with
  | tuple ds=>
    have hl:=hl ds rfl
    let cs:En:=[some (.d (.int many))]
    obtain⟨t',hf⟩:=dU (cs:=cs) (ft:=bO) (fe:=cY) (b:=fun _=>true) (y:=fun d=>.bool (aS 0 (many - 1) d)) ds none [] (fun x _=>rfl) (fun x _ _=>by
      have t:=qd x 0 (many - 1)
      simp? [cs,cY,t]) (by simp;lia)
    have hv:=bC (cp:=[(1,"many")]) (nT:=1) (fi:=ib) (g:=ag 1) (ft:=bO) (fe:=cY) (e:=[some (.d (.tuple ds)),some (.d (.int many))]) (cs:=cs) (t:=[none]) (t':=[t']) (jC (fa:=ae 0) rfl) rfl rfl hf
    rw [List.nil_append,show List.filter (fun _=>true) ds=ds from List.filter_eq_self.mpr fun _ _=>rfl] at hv
    have ga:=fun e=>k9 (e:=e) (aS 0 (many - 1)) ds
    cases c:ds.all (aS 0 (many - 1)) with
    | true=>
      rw [c] at ga
      obtain⟨ns,rfl,hn⟩:=cC c
      have gl:=fun e=>qJ (e:=e) (ns:=ns) (by simpa using hl)
      have e0:ww many (.tuple (ns.map .int))=(((xT ns).length:Int)==(ns.length:Int)):=by
        show iP many [] (ns.map .int)=_
        rw [rQ,←lW,c,Bool.true_and,Bool.eq_iff_iff]
        simp
        rw [←Bg]
        constructor<;>intro h<;>lia
      rw [e0]
      have ql:((ns.map PyData.int).length:Int)=(ns.length:Int):=by simp
      generalize ns.map PyData.int=O at*
      simp? [bv,dI,gL,yQ,xD,DB,hv,ga,gl,ql]
    | false=>
      rw [c] at ga
      have e0:ww many (.tuple ds)=false:=by
        cases q:ww many (.tuple ds) with
        | false=>rfl
        | true=>exact absurd (iQ (show iP many [] ds=true from q)) (by rw [c];decide)
      rw [e0]
      simp? [bv,dI,gL,yQ,xD,DB,hv,ga]
  | _=>simp? [bv,dI,gL,yQ,xD,DB,ww]
def ke(R:Int→Int→Bool):Int→List Int→Int→Bool
  | x,[],z=>R x z
  | x,y::r,z=>R x y&&ke R y r z
def lst:Int→List Int→Int
  | x,[]=>x
  | _,y::r=>lst y r
theorem y6:∀(r:List Int) (x:Int),∃i:List Int,x::r=i++[lst x r]
  | [],x=>⟨[],rfl⟩
  | y::r,x=>by
    obtain⟨i,h⟩:=y6 r y
    exact⟨x::i,congrArg (x::·) h⟩
theorem A_(x:Int)(r:List Int):atI ((x::r).map PyData.int) (-1)=some (.int (lst x r)):=by
  obtain⟨i,h⟩:=y6 r x
  rw [h,List.map_append]
  exact wD
theorem vY(R:Int→Int→Bool):∀(r:List Int) (x z:Int),ke R x r z=(((List.range r.length).all fun k=>R ((x::r).getD k 0) (r.getD k 0))&&R (lst x r) z)
  | [],x,z=>by simp [ke,lst]
  | y::r,x,z=>by
    show(R x y&&ke R y r z)=_
    rw [vY R r y z,List.length_cons,List.range_succ_eq_map,List.all_cons,List.all_map,Bool.and_assoc]
    rfl
theorem pZ{R S:Int→Int→Bool}(h:∀a b,a≠b→R a b=S a b):∀(r:List Int) (x z:Int),(x::r).Nodup→z∉(x::r)→ke R x r z=ke S x r z
  | [],x,z,_,hz=>h _ _ fun e=>hz (by simp [e])
  | y::r,x,z,hn,hz=>by
    have hn':=List.nodup_cons.mp hn
    show(R x y&&ke R y r z)=(S x y&&ke S y r z)
    rw [h x y fun e=>hn'.1 (by simp [e]),pZ h r y z hn'.2 fun e=>hz (List.mem_cons_of_mem _ e)]
theorem tF{R S:Int→Int→Bool}(h:∀a b,a≠b→R a b=S a b){x y:Int}{r:List Int}(hn:(x::y::r).Nodup):ke R x (y::r) x=ke S x (y::r) x:=by
  have hn':=List.nodup_cons.mp hn
  show(R x y&&ke R y r x)=(S x y&&ke S y r x)
  rw [h x y fun e=>hn'.1 (by simp [e]),pZ h r y x hn'.2 hn'.1]
def gZ(W:aY)(a b:Int):Bool:=W.ties.any fun t=>(t.one==a || t.other==a)&&(t.one==b || t.other==b)
def oq(k:Int)(t:ip):List Int:=(if (k==t.one)=true then [t.other] else [])++(if (k==t.other)=true then [t.one] else [])
def mt(W:aY)(k:Int):List Int:=W.ties.flatMap (oq k)
theorem vT(k:Int)(t:ip):(oq k t).length≤2:=by
  unfold oq
  cases (k==t.one)<;>cases (k==t.other)<;>simp
theorem uB(k:Int):∀(ts:List ip),(ts.flatMap (oq k)).length≤2*ts.length
  | []=>by simp
  | t::r=>by
    have:=uB k r
    have:=vT k t
    rw [List.flatMap_cons,List.length_append,List.length_cons]
    lia
theorem vS{k b:Int}{t:ip}:b∈oq k t↔ (k=t.one∧b=t.other)∨(k=t.other∧b=t.one):=by
  unfold oq
  by_cases c1:k=t.one
  · by_cases c2:k=t.other
    · rw [if_pos (by simpa using c1),if_pos (by simpa using c2)];simp [←c1,←c2]
    · rw [if_pos (by simpa using c1),if_neg (by simpa using c2)];simp [←c1,c2]
  · by_cases c2:k=t.other
    · rw [if_neg (by simpa using c1),if_pos (by simpa using c2)];simp [←c2,c1]
    · rw [if_neg (by simpa using c1),if_neg (by simpa using c2)];simp [c1,c2]
theorem i8{W:aY}{a b:Int}:b∈mt W a↔ ∃t∈W.ties,(a=t.one∧b=t.other)∨(a=t.other∧b=t.one):=by
  unfold mt
  rw [List.mem_flatMap]
  exact⟨fun⟨t,h,q⟩=>⟨t,h,vS.mp q⟩,fun⟨t,h,q⟩=>⟨t,h,vS.mpr q⟩⟩
theorem wu(W:aY)(a b:Int)(h:a≠b):gZ W a b=(mt W a).contains b:=by
  rw [Bool.eq_iff_iff,List.contains_iff_mem,i8]
  unfold gZ
  rw [List.any_eq_true]
  constructor
  · rintro⟨t,ht,q⟩
    simp only [Bool.and_eq_true,Bool.or_eq_true,beq_iff_eq] at q
    refine⟨t,ht,?_⟩
    lia
  · rintro⟨t,ht,q⟩
    refine⟨t,ht,?_⟩
    simp only [Bool.and_eq_true,Bool.or_eq_true,beq_iff_eq]
    lia
theorem kz{W:aY}(ok:W.Ok){k m:Int}(h:m∈mt W k):0≤m∧m < W.things:=by
  obtain⟨t,ht,q⟩:=i8.mp h
  have o:=ok.ties t ht
  have:=o.o0;have:=o.o1;have:=o.o2
  lia
theorem q_{W:aY}(ok:W.Ok)(k:Int):(mt W k).length≤32:=by
  have:=uB k W.ties
  have:=ok.len
  unfold mt
  lia
theorem jW{α:Type}(l:List α):l.filter (fun _=>true)=l:=List.filter_eq_self.mpr fun _ _=>rfl
theorem nS{α:Type}(p:α→Bool)(l:List α):(l.filter fun x=> !p x).isEmpty=l.all p:=by
  rw [Bool.eq_iff_iff]
  simp [List.isEmpty_iff,List.filter_eq_nil_iff,List.all_eq_true]
theorem pG:∀(ns:List Int),(ns.all fun i=> !decide (1 < ns.count i))=decide ns.Nodup
  | []=>by simp
  | x::r=>by
    rw [Bool.eq_iff_iff,List.all_eq_true,decide_eq_true_iff,List.nodup_cons]
    have ih:=pG r
    rw [Bool.eq_iff_iff,List.all_eq_true,decide_eq_true_iff] at ih
    rw [←ih]
    constructor
    · intro h
      refine⟨fun hx=>?_,fun y hy=>?_⟩
      · have:=h x (by simp)
        have c:=List.one_le_count_iff.mpr hx
        rw [List.count_cons_self] at this
        simp only [Bool.not_eq_true',decide_eq_false_iff_not] at this
        lia
      · have:=h y (List.mem_cons_of_mem _ hy)
        rw [List.count_cons] at this
        simp only [Bool.not_eq_true',decide_eq_false_iff_not] at this ⊢
        lia
    · rintro⟨h1,h2⟩ y hy
      simp only [Bool.not_eq_true',decide_eq_false_iff_not]
      rcases Me hy with rfl | hy
      · rw [List.count_cons_self,List.count_eq_zero.mpr h1];lia
      · have:=h2 y hy
        simp only [Bool.not_eq_true',decide_eq_false_iff_not] at this
        rw [List.count_cons]
        have:(x==y)=false:=by
          rw [beq_eq_false_iff_ne]
          rintro rfl
          exact h1 hy
        rw [this]
        simpa using ‹¬1 < List.count y r›
def Hj(a b:Int):PyData→Bool
  | .tuple [.int x,.int y,_,_]=>(x==a || y==a)&&(x==b || y==b)
  | _=>false
theorem AH{W:aY}{a b:Int}:(W.ties.map ar).any (Hj a b)=gZ W a b:=by
  rw [List.any_map];rfl
theorem F8{W:aY}(ok:W.Ok)(a b:Int):gQ [.d (ay W),.d (.int a),.d (.int b)]=some (.d (.bool (gZ W a b)),[.d (ay W),.d (.int a),.d (.int b)]):=by
  have g1':=Gk (W:=W)
  obtain⟨t',hf⟩:=dU (cs:=[some (.d (.int a)),some (.d (.int b))]) (ft:=bO) (fe:=gj) (b:=fun _=>true) (y:=fun x=>.bool (Hj a b x)) (W.ties.map ar) none [] (fun x _=>rfl) (fun x hx _=>by
    obtain⟨ti,hti,rfl⟩:=j_ hx
    have hc:L2.cutD [PyData.int ti.one,.int ti.other,.tuple [.int ti.top,.int ti.bot],.int ti.worth] none (some 2)=[.int ti.one,.int ti.other]:=rfl
    have i1:∀(e:En) (z:Int),pN false e (.d (.int z)) (.d (.tuple [.int ti.one,.int ti.other]))=some (.d (.bool (ti.one==z || ti.other==z))):=fun e z=>ni
    rw [show Hj a b (ar ti)=((ti.one==a || ti.other==a)&&(ti.one==b || ti.other==b)) from rfl]
    unfold ar
    have i2:=fun e=>i1 e a
    have i3:=fun e=>i1 e b
    generalize (ti.one==a || ti.other==a)=p at*
    generalize (ti.one==b || ti.other==b)=q at*
    cases p<;>simp? [gj,hc,i2,i3]) (by have:=ok.len;simp;lia)
  have hv:=bC (cp:=[(1,"one"),(2,"other")]) (nT:=1) (fi:=lg) (g:=ag 2) (ft:=bO) (fe:=gj) (e:=[some (.d (ay W)),some (.d (.int a)),some (.d (.int b))]) (e1:=[some (.d (ay W)),some (.d (.int a)),some (.d (.int b))]) (items:=W.ties.map ar) (cs:=[some (.d (.int a)),some (.d (.int b))]) (t:=[none]) (t':=[t']) (jC (by simp? [g1'])) rfl rfl hf
  rw [List.nil_append,jW] at hv
  have ga:=fun e=>yw (e:=e) (Hj a b) (W.ties.map ar)
  rw [AH] at ga
  generalize gZ W a b=bb at*
  generalize ((W.ties.map ar).map fun x=>PyData.bool (Hj a b x))=M at*
  simp? [gQ,nM,hv,ga]
theorem D8{e:En}{x:Int}{ns:List Int}{neg:Bool}:pN neg e (.d (.int x)) (.l (ns.map .int))=some (.d (.bool (if neg then !ns.contains x else ns.contains x))):=by
  have:=jw (e:=e) (x:=x) (ns:=ns) (neg:=neg)
  unfold pN at this ⊢
  simp only [iH,dc,Option.bind_some] at this ⊢
  exact this
theorem D1{x:PyData}{r:List PyData}:L2.cutD (x::r) (some 1) none=r:=by
  unfold L2.cutD
  show((x::r).drop (min 1 (r.length+1))).take ((r.length+1) - min 1 (r.length+1))=r
  rw [show min 1 (r.length+1)=1 by lia]
  simp
theorem DZ{x:PyData}{r:List PyData}:L2.cutD (x::r) none (some 1)=[x]:=by
  rw [Be];rfl
def qP(W:aY):PyData→Bool
  | .tuple [.int a,.int b]=>gZ W a b
  | _=>false
theorem wz(W:aY):∀(r:List Int) (x z:Int),(ji ((x::r).map .int) ((r++[z]).map .int)).all (qP W)=ke (gZ W) x r z
  | [],x,z=>by simp [ji,qP,ke]
  | y::r,x,z=>by
    show(qP W (.tuple [.int x,.int y])&&(ji ((y::r).map .int) ((r++[z]).map .int)).all (qP W))=_
    rw [wz W r y z];rfl
theorem CO{ns ms:List Int}{d:PyData}(h:d∈ji (ns.map .int) (ms.map .int)):∃a b:Int,d=.tuple [.int a,.int b]:=by
  obtain⟨i,hi⟩:=List.getElem?_of_mem h
  obtain⟨x,y,h1,h2,rfl⟩:=oX hi
  rw [List.getElem?_map] at h1 h2
  obtain⟨a,_,rfl⟩:=Ma h1
  obtain⟨b,_,rfl⟩:=Ma h2
  exact⟨a,b,rfl⟩
def FJ(W:aY):List Int→Bool
  | x::y::r=>ke (gZ W) x (y::r) x
  | _=>false
def Jr(W:aY)(ds:List PyData):Bool:=match li ds with
  | some ns=>FJ W ns
  | none=>false
def rV(W:aY):PyData→Bool
  | .tuple ds=>decide (3≤ds.length)&&(!decide (ds.length % 2=0)&&(ww W.things (.tuple ds)&&Jr W ds))
  | _=>false
theorem wa{W:aY}{ds:List PyData}(h:ds.length < 3):rV W (.tuple ds)=false:=by
  simp only [rV,show decide (3≤ds.length)=false by simpa using h,Bool.false_and]
theorem Ah{W:aY}{ds:List PyData}(h:ds.length % 2=0):rV W (.tuple ds)=false:=by
  simp only [rV,show decide (ds.length % 2=0)=true by simpa using h,Bool.not_true,Bool.false_and,Bool.and_false]
theorem tK{W:aY}{d:PyData}(h:ww W.things d=false):rV W d=false:=by
  cases d with
  | tuple ds=>simp only [rV,h,Bool.false_and,Bool.and_false]
  | _=>rfl
theorem FH{W:aY}{ds:List PyData}(h:ds.all (aS 0 (W.things - 1))=false):rV W (.tuple ds)=false:=tK (by
  cases q:ww W.things (.tuple ds) with
  | false=>rfl
  | true=>rw [iQ (show iP W.things [] ds=true from q)] at h;cases h)
theorem rR{W:aY}{ns:List Int}(h:(ns.map PyData.int).all (aS 0 (W.things - 1))=true):ww W.things (.tuple (ns.map .int))=decide ns.Nodup:=by
  show iP W.things [] (ns.map .int)=_
  rw [rQ,←lW,h,Bool.true_and]
  simp
theorem rG{W:aY}{ns:List Int}(h1:3≤ns.length)(h2:¬ns.length % 2=0)(h3:(ns.map PyData.int).all (aS 0 (W.things - 1))=true)(h4:ns.Nodup):rV W (.tuple (ns.map .int))=FJ W ns:=by
  simp only [rV,rR h3,Jr,cQ,List.length_map,decide_eq_true h1,decide_eq_true h4,decide_eq_false h2,Bool.true_and,Bool.not_false]
theorem Co{W:aY}{x:PyData}{YR YX:List PyData}(gc:∀e:En,bN e (.d (.tuple YR)) (.d (.tuple [x]))=some (.d (.tuple YX))):eM [some (.d (ay W)),some (.d (.tuple (x::YR)))]=some (ji (x::YR) YX,[],[some (.d (ay W)),some (.d (.tuple (x::YR)))]):=by
  have ct:=D1 (x:=x) (r:=YR)
  have ch:=DZ (x:=x) (r:=YR)
  simp? [eM,vM,Av,ct,ch,gc]
theorem FZ{W:aY}(ok:W.Ok)(d:PyData)(hs:∀ds,d=.tuple ds→ds.length≤1000):bS [.d (ay W),.d d]=some (.d (.bool (rV W d)),[.d (ay W),.d d]):=by
  have tu:=AF (many:=W.things) hs
  have g0:=Ea (W:=W)
  cases c:ww W.things d with
  | false=>
    rw [tK c]
    rw [c] at tu
    simp? [bS,eF,g0,tu]
  | true=>
    rw [c] at tu
    cases d with
    | tuple ds=>
      have hs:=hs ds rfl
      have c2:ds.all (aS 0 (W.things - 1))=true:=iQ (show iP W.things [] ds=true from c)
      have gm:∀e:En,aQ e (.d (.int (ds.length:Int))) (.d (.int 2))=some (.d (.int ((ds.length:Int) % 2))):=fun e=>az (by decide)
      by_cases l3:ds.length < 3
      · rw [wa l3]
        have l3':(ds.length:Int) < 3:=by lia
        simp? [bS,eF,g0,tu,l3']
      · have l3':¬(ds.length:Int) < 3:=by lia
        by_cases l2:ds.length % 2=0
        · rw [Ah l2]
          have l2':(ds.length:Int) % 2=0:=by lia
          rw [l2'] at gm
          simp? [bS,eF,g0,tu,l3',gm]
        · have l2':(ds.length:Int) % 2=1:=by lia
          rw [l2'] at gm
          obtain⟨ns,rfl,hn⟩:=cC c2
          rw [List.length_map] at hs l3 l2
          have nd:ns.Nodup:=by rw [rR c2] at c;simpa using c
          rw [rG (by lia) l2 c2 nd]
          obtain⟨x,y,r,rfl⟩:∃x y r,ns=x::y::r:=by
            rcases ns with _ | ⟨x,_ | ⟨y,r⟩⟩
            · exact absurd (show _ < 3 by simp) l3
            · exact absurd (show _ < 3 by simp) l3
            · exact⟨x,y,r,rfl⟩
          have gc:∀e:En,bN e (.d (.tuple ((y::r).map .int))) (.d (.tuple [.int x]))=some (.d (.tuple ((y::r++[x]).map .int))):=fun e=>by rw [List.map_append];exact kn (by simp at hs;simp;lia)
          have zp:=wz W (y::r) x x
          have zl:=L2.zipD_len ((x::y::r).map .int) ((y::r++[x]).map .int)
          have zm:=fun d=>CO (ns:=x::y::r) (ms:=y::r++[x]) (d:=d)
          have hi:=Co (W:=W) (x:=.int x) gc
          rw [←List.map_cons] at hi
          rw [show FJ W (x::y::r)=ke (gZ W) x (y::r) x from rfl,←zp]
          generalize hZ:ji ((x::y::r).map PyData.int) ((y::r++[x]).map .int)=Z at*
          obtain⟨t2,ht2,hf2⟩:=bY (cs:=[some (.d (ay W))]) (g:=dj (ao (ag 1) (ao (ag 2) cL))) (ft:=bO) (fe:=di) (b:=fun _=>true) (y:=fun x=>.bool (qP W x)) (u:=fun x=>match x with | .tuple [a,b]=>[some (.d a),some (.d b)] | _=>[]) 2 Z [none,none] [] rfl (fun x hx t ht=>by
            obtain⟨a,b,rfl⟩:=zm x hx
            rcases t with _ | ⟨a1,_ | ⟨a2,_ | ⟨a3,r⟩⟩⟩
            · simp at ht
            · simp at ht
            · rfl
            · simp at ht) (fun x hx=>by
            obtain⟨a,b,rfl⟩:=zm x hx
            rfl) (fun x _=>rfl) (fun x hx _=>by
            obtain⟨a,b,rfl⟩:=zm x hx
            have tt:=F8 ok a b
            show di [some (.d (ay W)),some (.d (.int a)),some (.d (.int b))]=some (.d (.bool (gZ W a b)),[some (.d (ay W)),some (.d (.int a)),some (.d (.int b))])
            simp? [di,tt]) (by simp at zl hs ⊢;lia)
          have hv:=bC (cp:=[(0,"web")]) (nT:=2) (fi:=eM) (g:=dj (ao (ag 1) (ao (ag 2) cL))) (ft:=bO) (fe:=di) (cs:=[some (.d (ay W))]) (t:=[none,none]) (t':=t2) hi rfl rfl hf2
          rw [List.nil_append,jW] at hv
          have ga:=fun e=>k9 (e:=e) (qP W) Z
          generalize Z.all (qP W)=bb at*
          generalize (Z.map fun x=>PyData.bool (qP W x))=M at*
          generalize (x::y::r).map PyData.int=NN at*
          simp? [bS,eF,g0,tu,l3',gm,hv,ga]
    | _=>cases c
abbrev mE(W:aY)(k:Int)(ms:List Int)(v3 v4 v5 v6:Option Sv):En:=[some (.d (ay W)),some (.d (.int k)),some (.l (ms.map .int)),v3,v4,v5,v6]
inductive MX (W:aY) (k:Int) (i:Nat):En→Prop
  | mk {v3 v4 v5 v6}:MX W k i (mE W k ((W.ties.take i).flatMap (oq k)) v3 v4 v5 v6)
theorem wn{W:aY}(ok:W.Ok)(k:Int):i7 [.d (ay W),.d (.int k)]=some (.l ((mt W k).map .int),[.d (ay W),.d (.int k)]):=by
  have wl:=ok.len
  obtain⟨e',h1,hI⟩:=cK (own:=[]) (g:=dj (ao (ag 3) (ao (ag 4) (ao (ag 5) (ao (ag 6) cL))))) (f:=jT) (MX W k) (W.ties.map ar) 0 (mE W k [] none none none none) (fun i x e hx hI=>by
    obtain⟨⟩:=hI
    rename_i v3 v4 v5 v6
    rw [List.getElem?_map] at hx
    obtain⟨ti,hti,rfl⟩:=Ma hx
    have ilt:=(Mb hti).1
    rw [Nat.zero_add]
    have hl:=uB k (W.ties.take i)
    rw [List.length_take] at hl
    have e2:(W.ties.take (i+1)).flatMap (oq k)=(W.ties.take i).flatMap (oq k)++oq k ti:=by
      rw [List.take_succ,hti,List.flatMap_append]
      simp
    generalize hms:(W.ties.take i).flatMap (oq k)=ms at*
    have ge:∀(e:En) (y:Int),bK false e (.d (.int k)) (.d (.int y))=some (.d (.bool (k==y))):=fun e y=>by rw [jY];rfl
    have lu:ms.length < 1000000:=by lia
    have lu2:ms.length+1 < 1000000:=by lia
    refine⟨mE W k ms (some (.d (.int ti.one))) (some (.d (.int ti.other))) (some (.d (.tuple [.int ti.top,.int ti.bot]))) (some (.d (.int ti.worth))),mE W k (ms++oq k ti) (some (.d (.int ti.one))) (some (.d (.int ti.other))) (some (.d (.tuple [.int ti.top,.int ti.bot]))) (some (.d (.int ti.worth))),?_,?_,be,by rw [←e2];exact .mk⟩
    · simp only [mE,ar]
      generalize ms.map PyData.int=MM
      simp? [List.replicate]
    · simp only [mE,oq]
      cases c1:(k==ti.one)<;>cases c2:(k==ti.other)<;>simp? [jT,ge,c1,c2,lu,lu2,List.map_append]) (by exact .mk (i:=0))
  obtain⟨⟩:=hI
  rename_i v3 v4 v5 v6
  rw [Nat.zero_add,List.length_map,List.take_length] at h1
  have hf:∀Wl,dC Wl l_ (dj (ao (ag 3) (ao (ag 4) (ao (ag 5) (ao (ag 6) cL))))) jT (mE W k [] none none none none)=some (.nx (mE W k (mt W k) v3 v4 v5 v6)):=fun Wl=>by
    have g1':=Gk (W:=W)
    rw [c_ (items:=W.ties.map ar) (e1:=mE W k [] none none none none) (show l_ _=_ from jC (by simp? [mE,g1']))]
    exact h1
  simp only [mE,List.map_nil] at hf
  generalize mt W k=ms at*
  simp? [i7,vo,hf]
def xq(ns:List Int)(k:Int):Int:=if k=0 then lst (ns.headD 0) ns.tail else ns.getD (k - 1).toNat 0
theorem E7{ns:List Int}{k:Int}(h0:0≤k)(h1:k < (ns.length:Int)):atI (ns.map PyData.int) (k - 1)=some (.int (xq ns k)):=by
  unfold xq
  by_cases c:k=0
  · subst c
    rw [if_pos rfl]
    rcases ns with _ | ⟨x,r⟩
    · simp at h1
    · exact A_ x r
  · rw [if_neg c]
    exact fF (by lia) (by lia)
def qK(W:aY)(ns:List Int):PyData→Bool
  | .int k=>(mt W (xq ns k)).contains (ns.getD k.toNat 0)
  | _=>false
theorem Fh(W:aY)(x:Int)(r:List Int):(aM 0 (x::r).length).all (qK W (x::r))=ke (fun a b=>(mt W a).contains b) x r x:=by
  rw [vY]
  unfold aM
  rw [List.all_map,List.length_cons,List.range_succ_eq_map,List.all_cons,List.all_map,Bool.and_comm]
  congr 1
  refine congrArg (fun f=>List.all (List.range r.length) f) (funext fun k=>?_)
  show(mt W (xq (x::r) (0+((k+1:Nat):Int)))).contains ((x::r).getD (0+((k+1:Nat):Int)).toNat 0)=_
  have e1:xq (x::r) (0+((k+1:Nat):Int))=(x::r).getD k 0:=by
    unfold xq
    rw [if_neg (by lia),show(0+((k+1:Nat):Int) - 1).toNat=k by lia]
  have e2:(0+((k+1:Nat):Int)).toNat=k+1:=by lia
  rw [e1,e2]
  rfl
theorem Ai{W:aY}{ns:List Int}(h3:3≤ns.length)(nd:ns.Nodup):(aM 0 ns.length).all (qK W ns)=FJ W ns:=by
  rcases ns with _ | ⟨x,_ | ⟨y,r⟩⟩
  · simp at h3
  · simp at h3
  · rw [Fh]
    exact(tF (fun a b h=>wu W a b h) nd).symm
def qC(ns:List Int):PyData→Bool
  | .int i=> !decide (1 < ns.count i)
  | _=>false
theorem Fg(ns:List Int):(ns.map PyData.int).all (qC ns)=decide ns.Nodup:=by
  rw [List.all_map,←pG ns]
  rfl
theorem xF{W:aY}(ok:W.Ok)(d:PyData)(hs:∀ds,d=.tuple ds→ds.length≤1000):cS [.d (ay W),.d d]=some (.d (.bool (rV W d)),[.d (ay W),.d d]):=by
  have g0:=Ea (W:=W)
  have gt:=fun e=>wV (e:=e) (d:=d)
  cases c0:yP d with
  | false=>
    rw [c0] at gt
    have e:rV W d=false:=by cases d<;>first | rfl | cases c0
    rw [e]
    simp? [cS,eR,gt]
  | true=>
    rw [c0] at gt
    obtain⟨ds,rfl⟩:=qU c0
    have hs:=hs ds rfl
    have gm:∀e:En,aQ e (.d (.int (ds.length:Int))) (.d (.int 2))=some (.d (.int ((ds.length:Int) % 2))):=fun e=>az (by decide)
    by_cases l3:ds.length < 3
    · rw [wa l3]
      have l3':(ds.length:Int) < 3:=by lia
      simp? [cS,eR,gt,l3']
    have l3':¬(ds.length:Int) < 3:=by lia
    by_cases l2:ds.length % 2=0
    · rw [Ah l2]
      have l2':(ds.length:Int) % 2=0:=by lia
      rw [l2'] at gm
      simp? [cS,eR,gt,l3',gm]
    have l2':(ds.length:Int) % 2=1:=by lia
    rw [l2'] at gm
    obtain⟨t',ht,hf⟩:=bY (cs:=[some (.d (ay W))]) (g:=ag 1) (ft:=df) (fe:=h_) (b:=fun x=> !aS 0 (W.things - 1) x) (y:=fun x=>x) (u:=fun x=>[some (.d x)]) 1 ds [none] [] rfl (fun x hx t ht=>by
      rcases t with _ | ⟨t1,_ | ⟨t2,r⟩⟩
      · simp at ht
      · rfl
      · simp at ht) (fun x hx=>rfl) (fun x hx=>by
      have q1:=fun e=>yx (e:=e) (d:=x)
      have q2:=fun e=>D5 (e:=e) (d:=x)
      cases x with
      | int i=>
        rw [show qR (.int i)=true from rfl] at q1
        rw [show uD (.int i)=false from rfl] at q2
        by_cases k0:0≤i
        · have e:(!(aS 0 (W.things - 1) (.int i)))= !decide (i < W.things):=by
            rw [show aS 0 (W.things - 1) (.int i)=(decide (0≤i)&&decide (i≤W.things - 1)) from rfl,decide_eq_true k0,Bool.true_and]
            congr 1
            rw [decide_eq_decide]
            lia
          rw [e]
          simp? [df,q1,q2,g0,ff,k0]
        · have e:(!(aS 0 (W.things - 1) (.int i)))=true:=by
            rw [show aS 0 (W.things - 1) (.int i)=(decide (0≤i)&&decide (i≤W.things - 1)) from rfl,decide_eq_false k0]
            rfl
          rw [e]
          simp? [df,q1,q2,g0,ff,k0]
      | bool b=>
        rw [show qR (.bool b)=true from rfl] at q1
        rw [show uD (.bool b)=true from rfl] at q2
        simp? [df,q1,q2,aS]
      | _=>
        simp only [qR] at q1
        simp? [df,q1,aS]) (fun x hx _=>by
      simp? [h_]) (by simp;lia)
    have hv:=bC (cp:=[(0,"_law_web_here")]) (nT:=1) (fi:=mO) (g:=ag 1) (ft:=df) (fe:=h_) (e:=[some (.d (ay W)),some (.d (.tuple ds))]) (cs:=[some (.d (ay W))]) (t:=[none]) (t':=t') rfl rfl rfl hf
    rw [List.nil_append,List.map_id'] at hv
    have gz:=fun e=>nY (e:=e) (xs:=ds.filter fun x=> !aS 0 (W.things - 1) x) (neg:=true)
    simp only [if_true,nS] at gz
    cases c2:ds.all (aS 0 (W.things - 1)) with
    | false=>
      rw [c2] at gz
      rw [FH c2]
      generalize (ds.filter fun x=> !aS 0 (W.things - 1) x)=M at*
      simp? [cS,eR,gt,l3',gm,hv,gz]
    | true=>
      rw [c2] at gz
      obtain⟨ns,rfl,hn⟩:=cC c2
      rw [List.length_map] at hs l3 l2
      obtain⟨t5,ht5,hf5⟩:=bY (cs:=[some (.d (.tuple (ns.map .int)))]) (g:=ag 1) (ft:=hV) (fe:=h9) (b:=fun x=> !qC ns x) (y:=fun x=>x) (u:=fun x=>[some (.d x)]) 1 (ns.map .int) [none] [] rfl (fun x hx t ht=>by
        rcases t with _ | ⟨t1,_ | ⟨t2,r⟩⟩
        · simp at ht
        · rfl
        · simp at ht) (fun x hx=>rfl) (fun x hx=>by
        obtain⟨i,_,rfl⟩:=Md hx
        have ei:=cQ ns
        rw [show(!qC ns (.int i))=decide (1 < ns.count i) by simp [qC]]
        have hc:AZ false gC (ae 0) (ae 1) [some (.d (.tuple (ns.map .int))),some (.d (.int i))]=some (.d (.int (ns.count i:Nat)),[some (.d (.tuple (ns.map .int))),some (.d (.int i))]):=by
          generalize ns.map PyData.int=NN at*
          simp? [AZ,Gr,dc,cv,ei,gC]
        have hg:∀e:En,D6 e (.d (.int (ns.count i:Nat))) (.d (.int 1))=some (.d (.bool (decide (1 < ns.count i)))):=fun e=>by
          have q:decide ((1:Int) < ((ns.count i:Nat):Int))=decide (1 < ns.count i):=by rw [decide_eq_decide];lia
          rw [←q]
          simp? [List.replicate]
        generalize decide (1 < ns.count i)=bb at*
        generalize ns.count i=cc at*
        generalize ns.map PyData.int=NN at*
        simp? [hV,hc,hg]) (fun x hx _=>by
        generalize ns.map PyData.int=NN at*
        simp? [h9]) (by simp;lia)
      have hv5:=bC (cp:=[(1,"_law_thing")]) (nT:=1) (fi:=mN) (g:=ag 1) (ft:=hV) (fe:=h9) (e:=[some (.d (ay W)),some (.d (.tuple (ns.map .int)))]) (cs:=[some (.d (.tuple (ns.map .int)))]) (t:=[none]) (t':=t5) rfl rfl rfl hf5
      rw [List.nil_append,List.map_id'] at hv5
      have gz5:=fun e=>nY (e:=e) (xs:=(ns.map PyData.int).filter fun x=> !qC ns x) (neg:=true)
      simp only [if_true,nS,Fg] at gz5
      by_cases nd:ns.Nodup
      case neg=>
        rw [decide_eq_false nd] at gz5
        have e:rV W (.tuple (ns.map .int))=false:=tK (by rw [rR c2];exact decide_eq_false nd)
        rw [e]
        generalize ((ns.map PyData.int).filter fun x=> !qC ns x)=M5 at*
        generalize ((ns.map PyData.int).filter fun x=> !aS 0 (W.things - 1) x)=M at*
        generalize ns.map PyData.int=NN at*
        simp? [cS,eR,gt,l3',gm,hv,gz,hv5,gz5]
      case pos=>
        rw [decide_eq_true nd] at gz5
        rw [rG (by lia) l2 c2 nd]
        obtain⟨t2,ht2,hf2⟩:=bY (cs:=[some (.d (.tuple (ns.map .int))),some (.d (ay W))]) (g:=ag 2) (ft:=hU) (fe:=h8) (b:=fun x=> !qK W ns x) (y:=fun x=>x) (u:=fun x=>[some (.d x)]) 1 (aM 0 ns.length) [none] [] rfl (fun x hx t ht=>by
          rcases t with _ | ⟨t1,_ | ⟨t2,r⟩⟩
          · simp at ht
          · rfl
          · simp at ht) (fun x hx=>rfl) (fun x hx=>by
          obtain⟨i,hx⟩:=List.getElem?_of_mem hx
          obtain⟨rfl,hi⟩:=bx hx
          obtain⟨k,hk⟩:∃k:Int,k=0+(i:Int):=⟨_,rfl⟩
          rw [←hk]
          have a1:=fF (ns:=ns) (k:=k) (by lia) (by lia)
          have a2:=E7 (ns:=ns) (k:=k) (by lia) (by lia)
          have tm:=wn ok (xq ns k)
          have gi:∀e:En,pN true e (.d (.int (ns.getD k.toNat 0))) (.l ((mt W (xq ns k)).map .int))=some (.d (.bool (!(mt W (xq ns k)).contains (ns.getD k.toNat 0)))):=fun e=>D8
          rw [show qK W ns (.int k)=(mt W (xq ns k)).contains (ns.getD k.toNat 0) from rfl]
          generalize (mt W (xq ns k)).contains (ns.getD k.toNat 0)=bb at*
          generalize (mt W (xq ns k)).map PyData.int=MM at*
          generalize xq ns k=y1 at*
          generalize ns.getD k.toNat 0=y2 at*
          generalize ns.map PyData.int=NN at*
          simp? [hU,a1,a2,tm,gi]) (fun x hx _=>by
          generalize ns.map PyData.int=NN at*
          simp? [h8]) (by rw [bc];simp;lia)
        have hi1:jz [some (.d (ay W)),some (.d (.tuple (ns.map .int)))]=some (aM 0 ns.length,[],[some (.d (ay W)),some (.d (.tuple (ns.map .int)))]):=by
          have:=bi (fs:=ab (aO (g1 gM) (ab (ae 1) ai)) ai) (e:=[some (.d (ay W)),some (.d (.tuple (ns.map .int)))]) (e1:=[some (.d (ay W)),some (.d (.tuple (ns.map .int)))]) (n:=(ns.length:Int)) (by
            have ql:((ns.map PyData.int).length:Int)=(ns.length:Int):=by simp
            generalize ns.map PyData.int=NN at*
            simp? [ql]) (by lia) (by lia)
          exact this
        have hv2:=bC (cp:=[(1,"_law_thing"),(0,"_law_web_here")]) (nT:=1) (fi:=jz) (g:=ag 2) (ft:=hU) (fe:=h8) (e:=[some (.d (ay W)),some (.d (.tuple (ns.map .int)))]) (cs:=[some (.d (.tuple (ns.map .int))),some (.d (ay W))]) (t:=[none]) (t':=t2) hi1 rfl rfl hf2
        rw [List.nil_append,List.map_id'] at hv2
        have gz2:=fun e=>nY (e:=e) (xs:=(aM 0 ns.length).filter fun x=> !qK W ns x) (neg:=false)
        simp only [Bool.false_eq_true,if_false,nS,Ai (by lia:3≤ns.length) nd] at gz2
        generalize FJ W ns=bb at*
        generalize ((aM 0 ns.length).filter fun x=> !qK W ns x)=M2 at*
        generalize ((ns.map PyData.int).filter fun x=> !qC ns x)=M5 at*
        generalize ((ns.map PyData.int).filter fun x=> !aS 0 (W.things - 1) x)=M at*
        generalize ns.map PyData.int=NN at*
        simp? [cS,eR,gt,l3',gm,hv,gz,hv5,gz5,hv2,gz2]
theorem xI{t:ip}{x:Int}(h:t.one < t.other)(a:Option Sv)(acc:List PyData)(hl:acc.length+2≤1000000)(hx:t.one=x∨t.other=x):∃a',dh (ag 2) bh bJ [.int t.one,.int t.other] [some (.d (.int x)),some (.d (ar t)),a] acc=some (acc++(oq x t).map .int,[some (.d (.int x)),some (.d (ar t)),a']):=by
  have tst:∀k:Int,bh [some (.d (.int x)),some (.d (ar t)),some (.d (.int k))]=some (!(k==x),[some (.d (.int x)),some (.d (ar t)),some (.d (.int k))]):=fun k=>by
    have g:∀e:En,bK true e (.d (.int k)) (.d (.int x))=some (.d (.bool (!(k==x)))):=fun e=>by rw [jY];rfl
    generalize ar t=T at*
    generalize (k==x)=bb at*
    simp? [bh,g]
  have el:∀k:Int,bJ [some (.d (.int x)),some (.d (ar t)),some (.d (.int k))]=some (.d (.int k),[some (.d (.int x)),some (.d (ar t)),some (.d (.int k))]):=fun k=>rfl
  have g1:∀(b:Option Sv) (k:Int),ag 2 (.int k) [some (.d (.int x)),some (.d (ar t)),b]=some [some (.d (.int x)),some (.d (ar t)),some (.d (.int k))]:=fun b k=>rfl
  have l1:acc.length < 1000000:=by lia
  rcases hx with rfl | rfl
  · have e1:(t.one==t.one)=true:=by simp
    have e2:(t.other==t.one)=false:=by rw [beq_eq_false_iff_ne];lia
    refine⟨some (.d (.int t.other)),?_⟩
    have em:oq t.one t=[t.other]:=by
      unfold oq
      have:¬t.one=t.other:=by lia
      simp [this]
    rw [em]
    simp only [dh,g1,tst,el,e1,e2,Option.bind_some,Bool.not_true,Bool.not_false,Bool.false_eq_true,if_false,if_true,o_,l1]
    rfl
  · have e1:(t.other==t.other)=true:=by simp
    have e2:(t.one==t.other)=false:=by rw [beq_eq_false_iff_ne];lia
    refine⟨some (.d (.int t.other)),?_⟩
    have em:oq t.other t=[t.one]:=by
      unfold oq
      have:¬t.other=t.one:=by lia
      simp [this]
    rw [em]
    simp only [dh,g1,tst,el,e1,e2,Option.bind_some,Bool.not_true,Bool.not_false,Bool.false_eq_true,if_false,if_true,o_,l1]
    rfl
theorem mz{x:Int}:∀(ts:List ip) (a b:Option Sv) (acc:List PyData),(∀t∈ts,t.one < t.other)→acc.length+2*ts.length≤1000000→∃a' b',iq (ag 1) bI cA (ag 2) bh bJ (ts.map ar) [some (.d (.int x)),a,b] acc=some (acc++(ts.flatMap (oq x)).map .int,[some (.d (.int x)),a',b'])
  | [],a,b,acc,_,_=>⟨a,b,by simp [iq]⟩
  | t::r,a,b,acc,ho,hl=>by
    simp only [List.length_cons] at hl
    have lt:=ho t (by simp)
    have hg:ag 1 (ar t) [some (.d (.int x)),a,b]=some [some (.d (.int x)),some (.d (ar t)),b]:=rfl
    have hc:bI [some (.d (.int x)),some (.d (ar t)),b]=some (t.one==x || t.other==x,[some (.d (.int x)),some (.d (ar t)),b]):=by
      have gi:∀e:En,pN false e (.d (.int x)) (.d (.tuple [.int t.one,.int t.other]))=some (.d (.bool (t.one==x || t.other==x))):=fun e=>by rw [ni];rfl
      generalize (t.one==x || t.other==x)=bb at*
      have cu:L2.cutD [PyData.int t.one,.int t.other,.tuple [.int t.top,.int t.bot],.int t.worth] none (some 2)=[.int t.one,.int t.other]:=rfl
      unfold ar
      simp? [bI,cu,gi]
    have hi:cA [some (.d (.int x)),some (.d (ar t)),b]=some ([.int t.one,.int t.other],[],[some (.d (.int x)),some (.d (ar t)),b]):=by
      refine jC ?_
      have cu:L2.cutD [PyData.int t.one,.int t.other,.tuple [.int t.top,.int t.bot],.int t.worth] none (some 2)=[.int t.one,.int t.other]:=rfl
      unfold ar
      simp? [cu]
    rw [List.map_cons,List.flatMap_cons,List.map_append]
    cases c:(t.one==x || t.other==x) with
    | true=>
      rw [c] at hc
      have hx:t.one=x∨t.other=x:=by simpa using c
      obtain⟨b1,h1⟩:=xI lt b acc (by lia) hx
      have ml:=vT x t
      obtain⟨a2,b2,h2⟩:=mz r (some (.d (ar t))) b1 (acc++(oq x t).map .int) (fun y hy=>ho y (by simp [hy])) (by rw [List.length_append,List.length_map];lia)
      refine⟨a2,b2,?_⟩
      simp only [iq,hg,hc,hi,h1,Option.bind_some,if_true]
      rw [h2,List.append_assoc]
    | false=>
      rw [c] at hc
      have em:oq x t=[]:=by
        have:t.one≠x∧t.other≠x:=by simpa using c
        unfold oq
        simp [Ne.symm this.1,Ne.symm this.2]
      obtain⟨a2,b2,h2⟩:=mz r (some (.d (ar t))) b acc (fun y hy=>ho y (by simp [hy])) (by lia)
      refine⟨a2,b2,?_⟩
      simp only [iq,hg,hc,Option.bind_some,Bool.false_eq_true,if_false]
      rw [h2,em]
      rfl
theorem AE{W:aY}(ok:W.Ok)(x:Int):ck [.d (ay W),.d (.int x)]=some (.l ((mt W x).map .int),[.d (ay W),.d (.int x)]):=by
  have wl:=ok.len
  have g1':=Gk (W:=W)
  obtain⟨a,b,hf⟩:=mz (x:=x) W.ties none none [] (fun t ht=>(ok.ties t ht).o1) (by simp;lia)
  rw [List.nil_append] at hf
  have hi:dO [some (.d (ay W)),some (.d (.int x))]=some (W.ties.map ar,[],[some (.d (ay W)),some (.d (.int x))]):=jC (by
    generalize W.ties.map ar=TT at*
    generalize ay W=WW at*
    simp? [g1'])
  have hv:=xN (cp:=[(1,"thing")]) (nT:=2) (fi:=dO) (g:=ag 1) (ft:=bI) (fi2:=cA) (g2:=ag 2) (ft2:=bh) (fe:=bJ) (cs:=[some (.d (.int x))]) (t:=[none,none]) (t':=[a,b]) hi rfl rfl hf
  rw [show(W.ties.flatMap (oq x))=mt W x from rfl] at hv
  generalize (mt W x).map PyData.int=MM at*
  generalize ay W=WW at*
  simp? [ck,iG,hv]
abbrev kQ(W:aY)(kvs:List (PyData × PyData))(v2:Option Sv)(E:List PyData)(v4 v5:Option Sv):En:=[some (.d (ay W)),some (.d (.dict kvs)),v2,some (.l E),v4,v5]
theorem xQ{W:aY}(ok:W.Ok){x:Int}{v1 v2 v3 v5:Option Sv}(h3:∃E,v3=some (.l E)):cx [(4,"thing")] 1 bP (ag 1) bO bu [some (.d (ay W)),v1,v2,v3,some (.d (.int x)),v5]=some (.l ((mt W x).map fun p=>.tuple [.int p,.int x]),[some (.d (ay W)),v1,v2,v3,some (.d (.int x)),v5]):=by
  have ml:=q_ ok x
  have tt:=AE ok x
  obtain⟨t',hf⟩:=dU (cs:=[some (.d (.int x))]) (ft:=bO) (fe:=bu) (b:=fun _=>true) (y:=fun y=>.tuple [y,.int x]) ((mt W x).map .int) none [] (fun _ _=>rfl) (fun y hy _=>by
    show bu [some (.d (.int x)),some (.d y)]=some (.d (.tuple [y,.int x]),[some (.d (.int x)),some (.d y)])
    simp? [bu]) (by simp;lia)
  have eo:[]++(((mt W x).map PyData.int).filter fun _=>true).map (fun y=>PyData.tuple [y,.int x])=(mt W x).map fun p=>.tuple [.int p,.int x]:=by
    rw [List.nil_append,List.filter_eq_self.mpr (fun _ _=>rfl),List.map_map]
    rfl
  rw [eo] at hf
  obtain⟨E,rfl⟩:=h3
  have hi:bP [some (.d (ay W)),v1,v2,some (.l E),some (.d (.int x)),v5]=some ((mt W x).map .int,[],[some (.d (ay W)),v1,v2,some (.l E),some (.d (.int x)),v5]):=by
    generalize (mt W x).map PyData.int=MM at*
    generalize ay W=WW at*
    simp? [bP,gw,Av,tt]
  exact bC (cp:=[(4,"thing")]) (nT:=1) (fi:=bP) (g:=ag 1) (ft:=bO) (fe:=bu) (cs:=[some (.d (.int x))]) (t:=[none]) (t':=[t']) hi rfl rfl hf
theorem xR{W:aY}(ok:W.Ok){kvs:List (PyData × PyData)}{v2 v4 v5:Option Sv}{E:List PyData}{x:Int}{a:mZ}(hk:kvs.length < 1000)(hE:E.length≤1000):cI (kQ W kvs v2 (E++[.tuple [.int x,a.toD]]) v4 v5)=some (.nx (if kvs.any (uF x)=true then kQ W kvs v2 E (some (.d (.int x))) (some (.d a.toD)) else kQ W (kvs++[(.int x,a.toD)]) v2 (E++(mt W x).map fun p=>.tuple [.int p,.int x]) (some (.d (.int x))) (some (.d a.toD)))):=by
  have ml:=q_ ok x
  have hc:=xQ ok (x:=x) (v1:=none) (v2:=v2) (v3:=some (.l E)) (v5:=some (.d a.toD)) ⟨E,rfl⟩
  have h1:jM 1 (uU (cn qZ (ae 3) ai) (dj (ao (ag 4) (ao (ag 5) cL)))) (kQ W kvs v2 (E++[.tuple [.int x,a.toD]]) v4 v5)=some (.nx (kQ W kvs v2 E (some (.d (.int x))) (some (.d a.toD)))):=by
    unfold kQ
    generalize a.toD=ad at*
    generalize ay W=WW at*
    have hp:(E++[PyData.tuple [.int x,ad]])[E.length]?=some (.tuple [.int x,ad]):=by rw [List.getElem?_append_right (Nat.le_refl _),Nat.sub_self];rfl
    simp? [jM,hp,List.append_nil]
  have ha:A9 5 (kQ W kvs v2 E (some (.d (.int x))) (some (.d a.toD)))=some a:=by cases a<;>rfl
  have h2:rL 1 4 (kQ W kvs v2 E (some (.d (.int x))) (some (.d a.toD)))=some (!(kvs.any (uF x)),kQ W kvs v2 E (some (.d (.int x))) (some (.d a.toD))):=rfl
  unfold cI aC
  rw [h1,Option.bind_some]
  dsimp only
  unfold iC
  rw [h2,Option.bind_some]
  cases c:kvs.any (uF x) with
  | true=>rfl
  | false=>
    have h3:mw 1 4 5 (kQ W kvs v2 E (some (.d (.int x))) (some (.d a.toD)))=some (.nx (kQ W (kvs++[(.int x,a.toD)]) v2 E (some (.d (.int x))) (some (.d a.toD)))):=by
      unfold mw
      rw [show(kQ W kvs v2 E (some (.d (.int x))) (some (.d a.toD)))[1]?=some (some (.d (.dict kvs))) from rfl]
      dsimp only
      rw [show y_ 4 (kQ W kvs v2 E (some (.d (.int x))) (some (.d a.toD)))=some x from rfl,ha,Option.bind_some,Option.bind_some,if_pos ⟨by lia,c⟩]
      rfl
    have h4:jM 1 (eQ (AL (ae 3) (cx [(4,"thing")] 1 bP (ag 1) bO bu))) (kQ W (kvs++[(.int x,a.toD)]) v2 E (some (.d (.int x))) (some (.d a.toD)))=some (.nx (kQ W (kvs++[(.int x,a.toD)]) v2 (E++(mt W x).map fun p=>.tuple [.int p,.int x]) (some (.d (.int x))) (some (.d a.toD)))):=by
      have l:E.length+((mt W x).map fun p=>PyData.tuple [.int p,.int x]).length≤1000000:=by rw [List.length_map];lia
      unfold kQ
      generalize ((mt W x).map fun p=>PyData.tuple [.int p,.int x])=MM at*
      generalize a.toD=ad at*
      generalize ay W=WW at*
      simp? [jM,AL,kO,hc,l]
    show(mw 1 4 5 (kQ W kvs v2 E (some (.d (.int x))) (some (.d a.toD)))).bind _=_
    rw [h3,Option.bind_some]
    exact h4
def oA:Option Int→mZ
  | none=>.vn
  | some p=>.vi p
def kD(p:Int × Option Int):PyData × PyData:=(.int p.1,(oA p.2).toD)
def eD(p:Int × Option Int):PyData:=.tuple [.int p.1,(oA p.2).toD]
theorem sQ(x:Int):∀(m:List (Int × Option Int)),(m.map kD).any (uF x)=(m.map (·.1)).contains x
  | []=>rfl
  | p::r=>by
    rw [List.map_cons,List.any_cons,List.map_cons,List.contains_cons,sQ x r]
    congr 1
    show(p.1==x)=(x==p.1)
    rw [Bool.eq_iff_iff,beq_iff_eq,beq_iff_eq]
    exact eq_comm
structure Wk (W:aY) (m E:List (Int × Option Int)):Prop where
  nd:(m.map (·.1)).Nodup
  inr:∀p∈m,0≤p.1∧p.1 < W.things
  up:∀(i:Nat) (x p:Int),m[i]?=some (x,some p)→x∈mt W p∧∃(j:Nat) (o:Option Int),j < i∧m[j]?=some (p,o)
  cl:∀p∈m,∀y∈mt W p.1,y∈m.map (·.1)∨(y,some p.1)∈E
  ein:∀p∈E,0≤p.1∧p.1 < W.things
  eup:∀(y p:Int),(y,some p)∈E→y∈mt W p∧p∈m.map (·.1)
theorem Wk.skip{W:aY}{m E:List (Int × Option Int)}{q:Int × Option Int}(h:Wk W m (E++[q]))(hq:q.1∈m.map (·.1)):Wk W m E:=⟨h.nd,h.inr,h.up,fun p hp y hy=>by
    rcases h.cl p hp y hy with z | z
    · exact .inl z
    · rcases Mc z with z | z
      · exact .inr z
      · simp at z
        rw [←z] at hq
        exact .inl hq,fun p hp=>h.ein p (List.mem_append.mpr (.inl hp)),fun y p hp=>h.eup y p (List.mem_append.mpr (.inl hp))⟩
theorem Wk.put{W:aY}(ok:W.Ok){m E:List (Int × Option Int)}{q:Int × Option Int}(h:Wk W m (E++[q]))(hq:q.1∉m.map (·.1)):Wk W (m++[q]) (E++(mt W q.1).map fun y=>(y,some q.1)):=by
  have kk:(m++[q]).map (·.1)=m.map (·.1)++[q.1]:=by rw [List.map_append];rfl
  refine⟨?_,fun p hp=>?_,fun i x p hi=>?_,fun p hp y hy=>?_,fun p hp=>?_,fun y p hp=>?_⟩
  · rw [kk,List.nodup_append]
    exact⟨h.nd,by simp,fun a ha b hb e=>by simp at hb;subst hb;subst e;exact hq ha⟩
  · rcases Mc hp with hp | hp
    · exact h.inr p hp
    · simp at hp;subst hp;exact h.ein _ (by simp)
  · rw [List.getElem?_append] at hi
    by_cases hl:i < m.length
    · rw [if_pos hl] at hi
      obtain⟨a,j,o,hj,b⟩:=h.up i x p hi
      exact⟨a,j,o,hj,by rw [List.getElem?_append_left (by lia)];exact b⟩
    · rw [if_neg hl] at hi
      have h0:i - m.length=0:=by
        have:=(Mb hi).1
        simp at this;lia
      rw [h0] at hi
      simp at hi
      subst hi
      obtain⟨a,b⟩:=h.eup x p (by simp)
      obtain⟨⟨p',o⟩,hb,e⟩:=Md b
      dsimp only at e
      subst e
      obtain⟨j,hj⟩:=List.getElem?_of_mem hb
      have hj2:=(Mb hj).1
      exact⟨a,j,o,by lia,by rw [List.getElem?_append_left hj2];exact hj⟩
  · rw [kk]
    rcases Mc hp with hp | hp
    · rcases h.cl p hp y hy with z | z
      · exact .inl (List.mem_append.mpr (.inl z))
      · rcases Mc z with z | z
        · exact .inr (List.mem_append.mpr (.inl z))
        · simp at z
          exact .inl (List.mem_append.mpr (.inr (by rw [←z];simp)))
    · simp at hp;subst hp
      exact .inr (List.mem_append.mpr (.inr (List.mem_map.mpr ⟨y,hy,rfl⟩)))
  · rcases Mc hp with hp | hp
    · exact h.ein p (List.mem_append.mpr (.inl hp))
    · obtain⟨y,hy,rfl⟩:=Md hp
      exact kz ok hy
  · rw [kk]
    rcases Mc hp with hp | hp
    · obtain⟨a,b⟩:=h.eup y p (List.mem_append.mpr (.inl hp))
      exact⟨a,List.mem_append.mpr (.inl b)⟩
    · obtain⟨y',hy,e⟩:=Md hp
      cases e
      exact⟨hy,List.mem_append.mpr (.inr (by simp))⟩
def Bi(e:En):Nat:=match (e[(1:Nat)]?:Option (Option Sv)) with
  | some (some (.d (.dict kvs)))=>kvs.length
  | _=>0
def Bj(e:En):Nat:=match (e[(3:Nat)]?:Option (Option Sv)) with
  | some (some (.l xs))=>xs.length
  | _=>0
theorem Wk.len{W:aY}(ok:W.Ok){m E:List (Int × Option Int)}(h:Wk W m E):m.length≤12:=by
  have t0:=ok.t0;have t1:=ok.t1
  have:=lr W.things.toNat (m.map (·.1)) h.nd (fun k hk=>by
    obtain⟨p,hp,rfl⟩:=Md hk
    have:=h.inr p hp
    lia)
  rw [List.length_map] at this
  lia
theorem mF{W:aY}{kvs:List (PyData × PyData)}{v2 v4 v5:Option Sv}{E:List PyData}:cJ (kQ W kvs v2 E v4 v5)=some (!E.isEmpty,kQ W kvs v2 E v4 v5):=by
  have e1:decide (0 < (E.length:Int))= !E.isEmpty:=by cases E<;>simp
  unfold kQ
  rw [←e1]
  generalize ay W=WW at*
  simp? [cJ,wk]
theorem AN{W:aY}(ok:W.Ok){v2 v4 v5:Option Sv}{m E:List (Int × Option Int)}(h:Wk W m E)(hE:E.length≤1+32*m.length)(J:List (Int × Option Int)→List (Int × Option Int)→Prop)(jS:∀m E q,J m (E++[q])→J m E)(jP:∀m E q,J m (E++[q])→q.1∉m.map (·.1)→J (m++[q]) (E++(mt W q.1).map fun y=>(y,some q.1)))(j0:J m E):∃m' w4 w5,fY (2 ^ 4200) cJ cI (kQ W (m.map kD) v2 (E.map eD) v4 v5)=some (.nx (kQ W (m'.map kD) v2 [] w4 w5))∧Wk W m' []∧J m' []∧(∀x∈m.map (·.1),x∈m'.map (·.1))∧∀p∈E,p.1∈m'.map (·.1):=by
  obtain⟨e0,e',hw,⟨m1,E1,v4',v5',rfl,hW1,hJ1,hE1,sub1,sub2⟩,hf⟩:=jd (ft:=cJ) (f:=cI)
    (fun e=>∃m1 E1 v4 v5,e=kQ W (m1.map kD) v2 (E1.map eD) v4 v5∧Wk W m1 E1∧J m1 E1∧E1.length≤1+32*m1.length∧(∀x∈m.map (·.1),x∈m1.map (·.1))∧∀p∈E,p.1∈m1.map (·.1)∨p∈E1)
    (fun e=>40*(13 - Bi e)+Bj e) (fun e ⟨m1,E1,v4,v5,he,hW1,hJ1,hE1,sub1,sub2⟩=>by
      subst he
      have ml:=hW1.len ok
      rcases List.eq_nil_or_concat E1 with rfl | ⟨E2,q,rfl⟩
      · exact .inl ⟨_,mF,trivial⟩
      · rw [List.concat_eq_append] at*
        rw [List.length_append,List.length_singleton] at hE1
        have tst:=mF (W:=W) (kvs:=m1.map kD) (v2:=v2) (v4:=v4) (v5:=v5) (E:=(E2++[q]).map eD)
        have ne:(!((E2++[q]).map eD).isEmpty)=true:=by simp
        rw [ne] at tst
        have tn:=xR ok (kvs:=m1.map kD) (v2:=v2) (v4:=v4) (v5:=v5) (E:=E2.map eD) (x:=q.1) (a:=oA q.2) (by rw [List.length_map];lia) (by rw [List.length_map];lia)
        have em:(E2++[q]).map eD=E2.map eD++[.tuple [.int q.1,(oA q.2).toD]]:=by rw [List.map_append];rfl
        rw [←em,sQ] at tn
        cases c:(m1.map (·.1)).contains q.1 with
        | true=>
          rw [c,if_pos rfl] at tn
          have hq:q.1∈m1.map (·.1):=List.contains_iff_mem.mp c
          refine .inr ⟨_,_,tst,tn,⟨m1,E2,_,_,rfl,hW1.skip hq,jS _ _ _ hJ1,by lia,sub1,fun p hp=>?_⟩,?_⟩
          · rcases sub2 p hp with z | z
            · exact .inl z
            · rcases Mc z with z | z
              · exact .inr z
              · simp at z;subst z;exact .inl hq
          · simp [Bi,Bj,kQ]
        | false=>
          rw [c,if_neg (by simp)] at tn
          have hq:q.1∉m1.map (·.1):=fun z=>by rw [List.contains_iff_mem.mpr z] at c;cases c
          have mq:=q_ ok q.1
          have hp2:=hW1.put ok hq
          have ml2:=hp2.len ok
          rw [List.length_append,List.length_singleton] at ml2
          have ek:m1.map kD++[(.int q.1,(oA q.2).toD)]=(m1++[q]).map kD:=by rw [List.map_append];rfl
          have ee:E2.map eD++((mt W q.1).map fun p=>.tuple [.int p,.int q.1])=(E2++(mt W q.1).map fun y=>(y,some q.1)).map eD:=by
            rw [List.map_append,List.map_map]
            rfl
          rw [ek,ee] at tn
          refine .inr ⟨_,_,tst,tn,⟨m1++[q],_,_,_,rfl,hp2,jP _ _ _ hJ1 hq,by simp only [List.length_append,List.length_map,List.length_singleton];lia,fun x hx=>?_,fun p hp=>?_⟩,?_⟩
          · rw [List.map_append];exact List.mem_append.mpr (.inl (sub1 x hx))
          · rw [List.map_append]
            rcases sub2 p hp with z | z
            · exact .inl (List.mem_append.mpr (.inl z))
            · rcases Mc z with z | z
              · exact .inr (List.mem_append.mpr (.inl z))
              · simp at z;subst z;exact .inl (List.mem_append.mpr (.inr (by simp)))
          · simp [Bi,Bj,kQ]
            lia) (2 ^ 4200) (kQ W (m.map kD) v2 (E.map eD) v4 v5) ⟨m,E,v4,v5,rfl,h,j0,hE,fun x hx=>hx,fun p hp=>.inr hp⟩
    (nq (m:=20) (by have:=h.len ok;simp [Bi,Bj,kQ];lia) (by decide))
  rw [mF] at hf
  have hE0:E1=[]:=by
    cases E1 with
    | nil=>rfl
    | cons a r=>simp at hf
  subst hE0
  simp at hf
  subst hf
  exact⟨m1,v4',v5',hw,hW1,hJ1,sub1,fun p hp=>(sub2 p hp).resolve_right (by simp)⟩
theorem Wk.one{W:aY}{m:List (Int × Option Int)}(h:Wk W m []){s:Int}(h0:0≤s)(h1:s < W.things):Wk W m [(s,none)]:=⟨h.nd,h.inr,h.up,fun p hp y hy=>(h.cl p hp y hy).elim .inl (fun z=>(by cases z)),fun p hp=>(by simp at hp;subst hp;exact⟨h0,h1⟩),fun y p hp=>(by simp at hp)⟩
structure Ws (m0:List (Int × Option Int)) (s:Int) (m E:List (Int × Option Int)):Prop where
  spl:∃m1,m=m0++m1∧(∀x,(x,none)∈m1→x=s)∧(∀x p,(x,some p)∈m1→p∈m1.map (·.1))∧(∀x p,(x,some p)∈E→p∈m1.map (·.1))
  non:∀x,(x,none)∈E→x=s
theorem Ws.skip{m0:List (Int × Option Int)}{s:Int}{m E:List (Int × Option Int)}{q:Int × Option Int}(h:Ws m0 s m (E++[q])):Ws m0 s m E:=by
  obtain⟨⟨m1,a,b,c,d⟩,e⟩:=h
  exact⟨⟨m1,a,b,c,fun x p hx=>d x p (List.mem_append.mpr (.inl hx))⟩,fun x hx=>e x (List.mem_append.mpr (.inl hx))⟩
theorem Ws.put{W:aY}{m0:List (Int × Option Int)}{s:Int}{m E:List (Int × Option Int)}{q:Int × Option Int}(h:Ws m0 s m (E++[q])):Ws m0 s (m++[q]) (E++(mt W q.1).map fun y=>(y,some q.1)):=by
  obtain⟨⟨m1,a,b,c,d⟩,e⟩:=h
  have kk:(m1++[q]).map (·.1)=m1.map (·.1)++[q.1]:=by rw [List.map_append];rfl
  refine⟨⟨m1++[q],by rw [a,List.append_assoc],fun x hx=>?_,fun x p hx=>?_,fun x p hx=>?_⟩,fun x hx=>?_⟩
  · rcases Mc hx with z | z
    · exact b x z
    · simp at z;exact e x (by simp [z])
  · rw [kk]
    rcases Mc hx with z | z
    · exact List.mem_append.mpr (.inl (c x p z))
    · simp at z;exact List.mem_append.mpr (.inl (d x p (by simp [z])))
  · rw [kk]
    rcases Mc hx with z | z
    · exact List.mem_append.mpr (.inl (d x p (by simp [z])))
    · obtain⟨y,hy,e⟩:=Md z
      cases e
      exact List.mem_append.mpr (.inr (by simp))
  · rcases Mc hx with z | z
    · exact e x (by simp [z])
    · obtain⟨y,hy,e⟩:=Md z
      cases e
theorem y9{W:aY}{a b:Int}(h:b∈mt W a):a∈mt W b:=by
  obtain⟨t,ht,q⟩:=i8.mp h
  exact i8.mpr ⟨t,ht,by lia⟩
structure Rt (W:aY) (m:List (Int × Option Int)) (r:Int→Int):Prop where
  non:∀x,(x,none)∈m→r x=x
  som:∀x p,(x,some p)∈m→r x=r p
  tie:∀x∈m.map (·.1),∀y∈mt W x,r y=r x
theorem Rt.next{W:aY}{m0 m:List (Int × Option Int)}{r:Int→Int}{s:Int}(h0:Wk W m0 [])(h:Wk W m [])(hr:Rt W m0 r)(hs:Ws m0 s m []):∃r',Rt W m r':=by
  obtain⟨⟨m1,rfl,b,c, -⟩, -⟩:=hs
  have nd:=h.nd
  rw [List.map_append,List.nodup_append] at nd
  obtain⟨n0,n1,n2⟩:=nd
  have cl0:∀x∈m0.map (·.1),∀y∈mt W x,y∈m0.map (·.1):=fun x hx y hy=>by
    obtain⟨p,hp,rfl⟩:=Md hx
    exact(h0.cl p hp y hy).resolve_right (by simp)
  have i0:∀x o,(x,o)∈m0→x∈m0.map (·.1):=fun x o hx=>List.mem_map.mpr ⟨_,hx,rfl⟩
  have i1:∀x,x∈m1.map (·.1)→x∉m0.map (·.1):=fun x hx hy=>n2 x hy x hx rfl
  have j1:∀x o,(x,o)∈m1→x∈m1.map (·.1):=fun x o hx=>List.mem_map.mpr ⟨_,hx,rfl⟩
  refine⟨fun y=>if y∈m0.map (·.1) then r y else s,fun x hx=>?_,fun x p hx=>?_,fun x hx y hy=>?_⟩
  · rcases Mc hx with z | z
    · simp only [if_pos (i0 _ _ z)];exact hr.non x z
    · simp only [if_neg (i1 _ (j1 _ _ z))];exact(b x z).symm
  · rcases Mc hx with z | z
    · obtain⟨i,hi⟩:=List.getElem?_of_mem z
      obtain⟨_,j,o,_,hj⟩:=h0.up i x p hi
      simp only [if_pos (i0 _ _ z),if_pos (i0 _ _ (Mf hj))]
      exact hr.som x p z
    · simp only [if_neg (i1 _ (j1 _ _ z)),if_neg (i1 _ (c x p z))]
  · rw [List.map_append] at hx
    rcases Mc hx with z | z
    · simp only [if_pos z,if_pos (cl0 x z y hy)]
      exact hr.tie x z y hy
    · have ny:y∉m0.map (·.1):=fun q=>i1 x z (cl0 y q x (y9 hy))
      simp only [if_neg (i1 x z),if_neg ny]
theorem AG{W:aY}(ok:W.Ok):∃m,dH [.d (ay W)]=some (.d (.dict (m.map kD)),[.d (ay W)])∧Wk W m []∧(∃r,Rt W m r)∧∀s:Int,0≤s→s < W.things→s∈m.map (·.1):=by
  have t0:=ok.t0;have t1:=ok.t1
  have g0':=Ea (W:=W)
  obtain⟨e2,h1,⟨m,v2,v3,v4,v5,he,hW,⟨r,hR⟩,hall⟩⟩:=cK (own:=[]) (g:=nZ 1 (ag 2)) (f:=dJ) (fun i e=>∃m v2 v3 v4 v5,e=[some (.d (ay W)),some (.d (.dict (m.map kD))),v2,v3,v4,v5]∧Wk W m []∧(∃r,Rt W m r)∧∀s:Int,0≤s→s < (i:Int)→s∈m.map (·.1)) (aM 0 W.things.toNat) 0 [some (.d (ay W)),some (.d (.dict [])),none,none,none,none] (fun i x e hx ⟨m,v2,v3,v4,v5,he,hW,⟨r,hR⟩,hall⟩=>by
    subst he
    obtain⟨rfl,hi⟩:=bx hx
    rw [Int.zero_add]
    have hs:jM 1 (a7 3 (eO (ab (dy (ab (ae 2) (ab (vC .none) ai))) ai))) [some (.d (ay W)),some (.d (.dict (m.map kD))),some (.d (.int (i:Int))),v3,v4,v5]=some (.nx (kQ W (m.map kD) (some (.d (.int (i:Int)))) [eD ((i:Int),none)] v4 v5)):=by
      unfold kQ
      rw [show eD ((i:Int),none)=.tuple [.int (i:Int),.none] from rfl]
      generalize m.map kD=MM at*
      generalize ay W=WW at*
      simp? [jM]
    obtain⟨m',w4,w5,hw,hW',hJ',s1,s2⟩:=AN ok (v2:=some (.d (.int (i:Int)))) (v4:=v4) (v5:=v5) (hW.one (s:=(i:Int)) (by lia) (by lia)) (by simp) (Ws m (i:Int)) (fun _ _ _=>Ws.skip) (fun _ _ _ h _=>h.put) ⟨⟨[],by simp,fun _ h=>(by cases h),fun _ _ h=>(by cases h),fun x p h=>(by simp at h)⟩,fun x h=>(by simpa using h)⟩
    refine⟨[some (.d (ay W)),some (.d (.dict (m.map kD))),some (.d (.int (i:Int))),v3,v4,v5],kQ W (m'.map kD) (some (.d (.int (i:Int)))) [] w4 w5,rfl,?_,be,m',_,_,_,_,rfl,hW',hR.next hW hW' hJ',fun s q0 q1=>?_⟩
    · unfold dJ aC
      rw [hs,Option.bind_some]
      exact hw
    · by_cases c:s=(i:Int)
      · exact s2 ((i:Int),none) (by simp) |> fun z=>by rw [c];exact z
      · exact s1 s (hall s q0 (by lia))) ⟨[],none,none,none,none,rfl,⟨by simp,fun p h=>(by cases h),fun i x p h=>(by simp at h),fun p h=>(by cases h),fun p h=>(by cases h),fun y p h=>(by cases h)⟩,⟨fun x=>x,fun x h=>(by cases h),fun x p h=>(by cases h),fun x h=>(by cases h)⟩,fun s q0 q1=>by lia⟩
  subst he
  rw [bc] at hall
  refine⟨m,?_,hW,⟨r,hR⟩,fun s q0 q1=>hall s q0 (by lia)⟩
  have hi:pR 1 dM [some (.d (ay W)),some (.d (.dict [])),none,none,none,none]=some (aM 0 W.things.toNat,[],[some (.d (ay W)),some (.d (.dict [])),none,none,none,none]):=by
    have:=bi (n:=W.things) (fs:=(ab (au eh (ae 0) (vC (.int 0))) ai)) (e:=[some (.d (ay W)),none,none,none,none,none]) (e1:=[some (.d (ay W)),none,none,none,none,none]) (by
      generalize ay W=WW at*
      simp? [g0']) (by lia) (by lia)
    unfold pR dM
    rw [show([some (Sv.d (ay W)),some (Sv.d (.dict [])),none,none,none,none]:En).set 1 none=[some (.d (ay W)),none,none,none,none,none] from rfl,this]
    rfl
  have hs:∀Wl,dC Wl (pR 1 dM) (nZ 1 (ag 2)) dJ [some (.d (ay W)),some (.d (.dict [])),none,none,none,none]=some (.nx [some (.d (ay W)),some (.d (.dict (m.map kD))),v2,v3,v4,v5]):=fun Wl=>by
    rw [c_ hi]
    exact h1
  generalize m.map kD=MM at*
  generalize ay W=WW at*
  simp? [dH,kb,nD,hs,wb]
def par(m:List (Int × Option Int))(x:Int):Option Int:=(m.find? fun p=>p.1==x).bind (·.2)
def wy(m:List (Int × Option Int)):Nat→Int→List Int
  | 0,_=>[]
  | n+1,x=>x::match par m x with
    | some p=>wy m n p
    | none=>[]
theorem rp{x:Int}{o:Option Int}:∀(m:List (Int × Option Int)),(m.map (·.1)).Nodup→(x,o)∈m→par m x=o
  | [],_,h=>by cases h
  | q::r,nd,h=>by
    rw [List.map_cons,List.nodup_cons] at nd
    unfold par
    rw [List.find?_cons]
    rcases Me h with e | h
    · subst e;simp
    · have:(q.1==x)=false:=by
        rw [beq_eq_false_iff_ne]
        rintro rfl
        exact nd.1 (List.mem_map.mpr ⟨_,h,rfl⟩)
      rw [this]
      exact rp r nd.2 h
theorem j6{m:List (Int × Option Int)}(nd:(m.map (·.1)).Nodup){x:Int}(h:x∈m.map (·.1)):(x,par m x)∈m:=by
  obtain⟨⟨y,o⟩,hp,e⟩:=Md h
  dsimp only at e
  subst e
  rw [rp m nd hp]
  exact hp
inductive Wy (m:List (Int × Option Int)):Int→List Int→Prop
  | root {x:Int} (hx:x∈m.map (·.1)) (h:par m x=none):Wy m x [x]
  | step {x p:Int} {l:List Int} (hx:x∈m.map (·.1)) (h:par m x=some p) (q:Wy m p l):Wy m x (x::l)
theorem HX{W:aY}{m:List (Int × Option Int)}(h:Wk W m []):∀(n i:Nat) (x:Int) (o:Option Int),i < n→m[i]?=some (x,o)→Wy m x (wy m n x):=by
  intro n
  induction n with
  | zero=>intro i x o hi;lia
  | succ n ih=>
    intro i x o hi hm
    have hm':=Mf hm
    have hx:x∈m.map (·.1):=List.mem_map.mpr ⟨_,hm',rfl⟩
    have hp:=rp m h.nd hm'
    unfold wy
    cases o with
    | none=>rw [hp];exact .root hx hp
    | some p=>
      rw [hp]
      obtain⟨_,j,o',hj,hmj⟩:=h.up i x p hm
      exact .step hx hp (ih j p o' (by lia) hmj)
theorem Bv{m:List (Int × Option Int)}(nd:(m.map (·.1)).Nodup){i j:Nat}{x:Int}{o o':Option Int}(h1:m[i]?=some (x,o))(h2:m[j]?=some (x,o')):i=j:=by
  have hl:=(Mb h1).1
  refine(List.getElem?_inj (by rw [List.length_map];exact hl) nd).mp ?_
  rw [List.getElem?_map,List.getElem?_map,h1,h2]
  rfl
theorem Wy.low{W:aY}{m:List (Int × Option Int)}(h:Wk W m []){x:Int}{l:List Int}(q:Wy m x l):∀(i:Nat) (o:Option Int),m[i]?=some (x,o)→l.Nodup∧∀y∈l,∃(j:Nat) (o:Option Int),j≤i∧m[j]?=some (y,o):=by
  induction q with
  | root hx hp=>exact fun i o hi=>⟨by simp,fun y hy=>by simp at hy;subst hy;exact⟨i,o,Nat.le_refl _,hi⟩⟩
  | step hx hp q ih=>
    rename_i x p l
    intro i o hi
    have e:=rp m h.nd (Mf hi)
    rw [hp] at e
    subst e
    obtain⟨_,j,o',hj,hmj⟩:=h.up i x p hi
    obtain⟨n1,n2⟩:=ih j o' hmj
    refine⟨List.nodup_cons.mpr ⟨fun hx=>?_,n1⟩,fun y hy=>?_⟩
    · obtain⟨k,o2,hk,hmk⟩:=n2 x hx
      have:=Bv h.nd hi hmk
      lia
    · rcases Me hy with rfl | hy
      · exact⟨i,some p,Nat.le_refl _,hi⟩
      · obtain⟨k,o2,hk,hmk⟩:=n2 y hy
        exact⟨k,o2,by lia,hmk⟩
theorem Wy.mem{m:List (Int × Option Int)}{x:Int}{l:List Int}(q:Wy m x l):x∈m.map (·.1):=by cases q<;>assumption
theorem Wy.nd{W:aY}{m:List (Int × Option Int)}(h:Wk W m []){x:Int}{l:List Int}(q:Wy m x l):l.Nodup:=by
  obtain⟨i,hi⟩:=List.getElem?_of_mem (j6 h.nd q.mem)
  exact(q.low h i _ hi).1
theorem Wy.inr{W:aY}{m:List (Int × Option Int)}(h:Wk W m []){x:Int}{l:List Int}(q:Wy m x l):∀y∈l,0≤y∧y < W.things:=fun y hy=>by
  obtain⟨i,hi⟩:=List.getElem?_of_mem (j6 h.nd q.mem)
  obtain⟨j,o,_,hj⟩:=(q.low h i _ hi).2 y hy
  exact h.inr _ (Mf hj)
theorem Wy.det{m:List (Int × Option Int)}{x:Int}{l:List Int}(q:Wy m x l):∀{l':List Int},Wy m x l'→l=l':=by
  induction q with
  | root hx hp=>
    intro l' q'
    cases q' with
    | root _ _=>rfl
    | step _ h _=>rw [hp] at h;cases h
  | step hx hp q ih=>
    intro l' q'
    cases q' with
    | root _ h=>rw [hp] at h;cases h
    | step _ h q2=>
      rw [hp] at h
      cases h
      rw [ih q2]
theorem Wy.suf{m:List (Int × Option Int)}{c:Int}{b:List Int}:∀(a:List Int) {x:Int},Wy m x (a++c::b)→Wy m c (c::b)
  | [],x,q=>by
    have e:x=c:=by cases q<;>rfl
    subst e
    exact q
  | a0::a,x,q=>by
    rw [List.cons_append] at q
    generalize hl:a++c::b=l at q
    cases q with
    | root _ _=>simp at hl
    | step _ _ q2=>subst hl;exact Wy.suf a q2
theorem rP{W:aY}{a b:Int}(h:b∈mt W a):gZ W a b=true∧gZ W b a=true:=by
  obtain⟨t,ht,q⟩:=i8.mp h
  unfold gZ
  constructor<;>rw [List.any_eq_true]<;>refine⟨t,ht,?_⟩<;>simp only [Bool.and_eq_true,Bool.or_eq_true,beq_iff_eq]<;>lia
theorem uc(W:aY)(a b:Int):gZ W a b=gZ W b a:=by
  unfold gZ
  congr 1
  funext t
  exact Bool.and_comm _ _
theorem Wy.hd{m:List (Int × Option Int)}{x c:Int}{l:List Int}(q:Wy m x (c::l)):x=c:=by cases q<;>rfl
theorem Wy.pat{W:aY}{m:List (Int × Option Int)}(h:Wk W m []){c:Int}{b:List Int}:∀(a:List Int) {x:Int},Wy m x (x::(a++c::b))→ke (gZ W) x a c=true
  | [],x,q=>by
    rw [List.nil_append] at q
    generalize hl:c::b=l at q
    cases q with
    | root _ _=>cases hl
    | step hx hp q2=>
      subst hl
      have:=q2.hd
      subst this
      obtain⟨i,hi⟩:=List.getElem?_of_mem (j6 h.nd hx)
      rw [hp] at hi
      exact(rP (h.up i _ _ hi).1).2
  | y::a,x,q=>by
    rw [List.cons_append] at q
    generalize hl:y::(a++c::b)=l at q
    cases q with
    | root _ _=>cases hl
    | step hx hp q2=>
      subst hl
      have:=q2.hd
      subst this
      obtain⟨i,hi⟩:=List.getElem?_of_mem (j6 h.nd hx)
      rw [hp] at hi
      show(gZ W x _&&ke (gZ W) _ a c)=true
      rw [(rP (h.up i _ _ hi).1).2,Wy.pat h a q2]
      rfl
theorem Wy.end {W:aY}{m:List (Int × Option Int)}(h:Wk W m []){r:Int→Int}(hr:Rt W m r){x:Int}{l:List Int}(q:Wy m x l):r x∈l:=by
  induction q with
  | root hx hp=>
    have z:=j6 h.nd hx
    rw [hp] at z
    rw [hr.non _ z]
    simp
  | step hx hp q ih=>
    have z:=j6 h.nd hx
    rw [hp] at z
    rw [hr.som _ _ z]
    exact List.mem_cons_of_mem _ ih
theorem ly(R:Int→Int→Bool):∀(l:List Int) (x y z:Int) (r:List Int),ke R x (l++y::r) z=(ke R x l y&&ke R y r z)
  | [],x,y,z,r=>rfl
  | w::l,x,y,z,r=>by
    show(R x w&&ke R w (l++y::r) z)=((R x w&&ke R w l y)&&ke R y r z)
    rw [ly R l w y z r,Bool.and_assoc]
theorem rC{R:Int→Int→Bool}(hs:∀a b,R a b=R b a):∀(l:List Int) (x z:Int),ke R x l z=ke R z l.reverse x
  | [],x,z=>hs x z
  | y::l,x,z=>by
    rw [List.reverse_cons,ly,←rC hs l y z,Bool.and_comm]
    show(R x y&&_)=(R y x&&_)
    rw [hs x y]
theorem yr{A B:List Int}{r:Int}(h1:r∈A)(h2:r∈B):∃a1 c a2,A=a1++c::a2∧(∀y∈a1,y∉B)∧c∈B:=by
  induction A with
  | nil=>cases h1
  | cons x A ih=>
    by_cases c:x∈B
    · exact⟨[],x,A,rfl,fun y hy=>(by cases hy),c⟩
    · have h1':r∈A:=by
        rcases Me h1 with e | e
        · subst e;exact absurd h2 c
        · exact e
      obtain⟨a1,d,a2,e,f,g⟩:=ih h1'
      exact⟨x::a1,d,a2,by rw [e];rfl,fun y hy=>by
        rcases Me hy with e | e
        · subst e;exact c
        · exact f y e,g⟩
theorem Cn{W:aY}(ok:W.Ok){m:List (Int × Option Int)}(h:Wk W m []){r:Int→Int}(hr:Rt W m r){t:ip}(ht:t∈W.ties){A B:List Int}(hA:Wy m t.one A)(hB:Wy m t.other B)(hp:A.length % 2=B.length % 2):
    ∃a1 c a2 b1 b2,A=a1++c::a2∧(∀y∈a1,y∉B)∧B=b1++c::b2∧c∉b1∧rV W (.tuple ((a1++c::b1.reverse).map .int))=true∧(a1++c::b1.reverse).length≤1000:=by
  have o:=ok.ties t ht
  have mo:t.other∈mt W t.one:=i8.mpr ⟨t,ht,by lia⟩
  have er:r t.other=r t.one:=hr.tie _ hA.mem _ mo
  have rA:=hA.end h hr
  have rB:=hB.end h hr
  rw [er] at rB
  obtain⟨a1,c,a2,eA,dA,cB⟩:=yr rA rB
  obtain⟨b1,b2,eB⟩:=List.append_of_mem cB
  have nA:=hA.nd h
  have nB:=hB.nd h
  have iA:=hA.inr h
  have iB:=hB.inr h
  have es:c::a2=c::b2:=(Wy.suf a1 (eA ▸ hA)).det (Wy.suf b1 (eB ▸ hB))
  have es2:a2=b2:=(List.cons.inj es).2
  subst es2
  have lA:A.length=a1.length+1+a2.length:=by rw [eA];simp;lia
  have lB:B.length=b1.length+1+a2.length:=by rw [eB];simp;lia
  have nB':=nB
  rw [eB,List.nodup_append] at nB'
  have cb:c∉b1:=fun q=>nB'.2.2 c q c (by simp) rfl
  have nA':=nA
  rw [eA,List.nodup_append] at nA'
  have bB:∀y∈b1,y∈B:=fun y hy=>by rw [eB];simp [hy]
  have nR:(a1++c::b1.reverse).Nodup:=by
    rw [List.nodup_append,List.nodup_cons]
    refine⟨nA'.1,⟨by simpa using cb,List.pairwise_reverse.mpr (nB'.1.imp fun h e=>h e.symm)⟩,fun y hy z hz e=>?_⟩
    subst e
    refine dA y hy ?_
    rcases Me hz with e | e
    · rw [e];exact cB
    · exact bB y (by simpa using e)
  have iR:∀y∈a1++c::b1.reverse,0≤y∧y < W.things:=fun y hy=>by
    rcases Mc hy with z | z
    · exact iA y (by rw [eA];simp [z])
    · rcases Me z with e | e
      · subst e;exact iB _ cB
      · exact iB y (bB y (by simpa using e))
  have lR:(a1++c::b1.reverse).length=a1.length+1+b1.length:=by simp;lia
  have h1:=o.o1
  have tt:gZ W t.other t.one=true:=(rP mo).2
  have rg:a1.length+b1.length≠0→FJ W (a1++c::b1.reverse)=true:=fun hn=>by
    rcases a1 with _ | ⟨u,a1⟩
    · rw [List.nil_append] at eA ⊢
      have eu:t.one=c:=(eA ▸ hA).hd
      rcases b1 with _ | ⟨v,b1⟩
      · exact absurd rfl hn
      · have ev:t.other=v:=(eB ▸ hB).hd
        subst ev eu
        have p:=Wy.pat h b1 (eB ▸ hB)
        rw [rC (uc W)] at p
        have e:ke (gZ W) t.one (t.other::b1).reverse t.one=true:=by
          rw [List.reverse_cons,ly,p]
          exact tt
        generalize hq:(t.other::b1).reverse=Q at e ⊢
        rcases Q with _ | ⟨q,Q⟩
        · simp at hq
        · exact e
    · have eu:t.one=u:=(eA ▸ hA).hd
      subst eu
      have p:=Wy.pat h a1 (eA ▸ hA)
      have e:ke (gZ W) t.one (a1++c::b1.reverse) t.one=true:=by
        rw [ly,p]
        rcases b1 with _ | ⟨v,b1⟩
        · rw [List.nil_append] at eB
          have ev:t.other=c:=(eB ▸ hB).hd
          subst ev
          exact tt
        · have ev:t.other=v:=(eB ▸ hB).hd
          subst ev
          have p2:=Wy.pat h b1 (eB ▸ hB)
          rw [rC (uc W)] at p2
          rw [List.reverse_cons,ly,p2]
          exact tt
      rw [List.cons_append]
      generalize hq:a1++c::b1.reverse=Q at e ⊢
      rcases Q with _ | ⟨q,Q⟩
      · simp at hq
      · exact e
  have hne:a1.length+b1.length≠0:=fun z=>by
    have z1:a1=[]:=List.length_eq_zero_iff.mp (by lia)
    have z2:b1=[]:=List.length_eq_zero_iff.mp (by lia)
    subst z1 z2
    have e1:t.one=c:=(eA ▸ hA).hd
    have e2:t.other=c:=(eB ▸ hB).hd
    lia
  have t1:=ok.t1
  have l12:=lr W.things.toNat _ nR (fun k hk=>by have:=iR k hk;lia)
  refine⟨a1,c,a2,b1,a2,eA,dA,eB,cb,?_,by lia⟩
  rw [rG (by lia) (by lia) ?_ nR]
  · exact rg hne
  · rw [List.all_map,List.all_eq_true]
    intro y hy
    have:=iR y hy
    show(decide (0≤y)&&decide (y≤W.things - 1))=true
    rw [decide_eq_true (by lia),decide_eq_true (by lia)]
    rfl
theorem xA{W:aY}(ok:W.Ok){d e:PyData}(h1:lV W d=true)(h2:rV W e=true):False:=by
  cases d with
  | tuple ds=>
    simp only [lV,Bool.and_eq_true,beq_iff_eq] at h1
    obtain⟨hl,hin,ht⟩:=h1
    obtain⟨cs,rfl,hc⟩:=cC hin
    cases e with
    | tuple es=>
      have c3:¬es.length < 3:=fun c=>by rw [wa c] at h2;cases h2
      have c2:¬es.length % 2=0:=fun c=>by rw [Ah c] at h2;cases h2
      have cu:ww W.things (.tuple es)=true:=by
        cases c:ww W.things (.tuple es) with
        | true=>rfl
        | false=>rw [tK c] at h2;cases h2
      have ci:es.all (aS 0 (W.things - 1))=true:=iQ (show iP W.things [] es=true from cu)
      obtain⟨ns,rfl,hn⟩:=cC ci
      have nd:ns.Nodup:=by rw [rR ci] at cu;simpa using cu
      rw [List.length_map] at c3 c2
      rw [rG (by lia) c2 ci nd] at h2
      have col:∀a b:Int,(mt W a).contains b=true→bw (cs.map .int) b=1 - bw (cs.map .int) a:=fun a b hb=>by
        rw [List.contains_iff_mem] at hb
        obtain⟨t,htt,q⟩:=i8.mp hb
        have z:=List.all_eq_true.mp ht t htt
        simp only [Bool.not_eq_true',beq_eq_false_iff_ne] at z
        have o:=ok.ties t htt
        have:=o.o0;have:=o.o1;have:=o.o2
        have rn:∀i:Int,0≤i→i < W.things→0≤bw (cs.map .int) i∧bw (cs.map .int) i≤1:=fun i i0 i1=>by
          rw [List.length_map] at hl
          have k:i.toNat < cs.length:=by lia
          have e:bw (cs.map .int) i=cs[i.toNat]:=by
            unfold bw
            rw [List.getElem?_map,List.getElem?_eq_getElem k]
            rfl
          rw [e]
          exact hc _ (List.getElem_mem k)
        have r1:=rn t.one (by lia) (by lia)
        have r2:=rn t.other (by lia) (by lia)
        rcases q with ⟨rfl,rfl⟩ | ⟨rfl,rfl⟩<;>lia
      have walk:∀(l:List Int) (x z:Int),ke (fun a b=>(mt W a).contains b) x l z=true→(bw (cs.map .int) z+bw (cs.map .int) x+(l.length:Int)) % 2=1:=by
        intro l
        induction l with
        | nil=>intro x z p;have:=col x z p;simp;lia
        | cons y l ih=>
          intro x z p
          have p':=Bool.and_eq_true_iff.mp (show((mt W x).contains y&&ke (fun a b=>(mt W a).contains b) y l z)=true from p)
          have a1:=col x y p'.1
          have a2:=ih y z p'.2
          rw [List.length_cons]
          lia
      rcases ns with _ | ⟨x,_ | ⟨y,l⟩⟩
      · simp at c3
      · simp at c3
      · rw [show FJ W (x::y::l)=ke (gZ W) x (y::l) x from rfl,tF (fun a b h=>wu W a b h) nd] at h2
        have:=walk _ _ _ h2
        simp only [List.length_cons] at this c2
        lia
    | _=>cases h2
  | _=>cases h1
theorem vL{e:En}{x:Int}:∀(m:List (Int × Option Int)),x∈m.map (·.1)→nW e (.d (.dict (m.map kD))) (.d (.int x))=some (.d (oA (par m x)).toD)
  | [],h=>by cases h
  | q::r,h=>by
    by_cases c:q.1=x
    · subst c
      unfold nW par
      simp [kD]
    · have ih:=vL (e:=e) r (by
        rcases Me (by rw [List.map_cons] at h;exact h) with z | z
        · exact absurd z.symm c
        · exact z)
      unfold nW par at ih ⊢
      have c':(q.1==x)=false:=by simpa using c
      simp only [List.map_cons,List.find?_cons,kD,c'] at ih ⊢
      exact ih
def x4(e:En):Nat:=match (e[(2:Nat)]?:Option (Option Sv)) with
  | some (some (.l xs))=>xs.length
  | _=>0
abbrev vd(D:PyData)(v:PyData)(acc:List Int):En:=[some (.d D),some (.d v),some (.l (acc.map .int))]
theorem uZ{m:List (Int × Option Int)}{x:Int}{L:List Int}(h:Wy m x L)(hl:L.length≤12):gR [.d (.dict (m.map kD)),.d (.int x)]=some (.l (L.map .int),[.d (.dict (m.map kD)),.d (.int x)]):=by
  have tI:∀(D:PyData) (x:Int) (acc:List Int),cz (vd D (.int x) acc)=some (true,vd D (.int x) acc):=fun D x acc=>by
    unfold vd
    generalize acc.map PyData.int=AA
    have gb:∀e:En,jx e (.d (.int x)) (.d .none)=some (.d (.bool true)):=fun e=>rfl
    simp? [cz,gb]
  have tN:∀(D:PyData) (acc:List Int),cz (vd D .none acc)=some (false,vd D .none acc):=fun D acc=>by
    unfold vd
    generalize acc.map PyData.int=AA
    have gb:∀e:En,jx e (.d .none) (.d .none)=some (.d (.bool false)):=fun e=>rfl
    simp? [cz,gb]
  obtain⟨e0,e',hw,hP,hf⟩:=jd (ft:=cz) (f:=eG) (fun e=>∃acc o l,e=vd (.dict (m.map kD)) (oA o).toD acc∧acc++l=L∧((∃y,o=some y∧Wy m y l)∨(o=none∧l=[]))) (fun e=>20 - x4 e) (fun e ⟨acc,o,l,he,hl',hc⟩=>by
    subst he
    rcases hc with ⟨y,rfl,hy⟩ | ⟨rfl,rfl⟩
    · have ll:acc.length+l.length=L.length:=by rw [←hl',List.length_append]
      have hg:=fun e=>vL (e:=e) m hy.mem
      have la:acc.length < 1000000:=by lia
      have st:eG (vd (.dict (m.map kD)) (.int y) acc)=some (.nx (vd (.dict (m.map kD)) (oA (par m y)).toD (acc++[y]))):=by
        unfold vd
        rw [List.map_append]
        have la':(acc.map PyData.int).length < 1000000:=by rw [List.length_map];exact la
        generalize acc.map PyData.int=AA at*
        generalize (oA (par m y)).toD=oo at*
        generalize PyData.dict (m.map kD)=DD at*
        simp? [eG,hg,la']
      have lp:1≤l.length:=by cases hy<;>simp
      refine .inr ⟨_,_,tI _ _ _,st,?_,?_⟩
      · cases hy with
        | root hx hp=>exact⟨acc++[y],none,[],by rw [hp],by rw [←hl'];simp,.inr ⟨rfl,rfl⟩⟩
        | step hx hp q=>
          rename_i p l
          exact⟨acc++[y],some p,l,by rw [hp],by rw [←hl'];simp,.inl ⟨p,rfl,q⟩⟩
      · simp [x4,vd]
        lia
    · exact .inl ⟨_,tN _ _,trivial⟩) (2 ^ 4200) (vd (.dict (m.map kD)) (.int x) []) ⟨[],some x,L,rfl,rfl,.inl ⟨x,rfl,h⟩⟩ (nq (m:=20) (by simp [x4,vd]) (by decide))
  obtain⟨acc,o,l,he,hl',hc⟩:=hP
  subst he
  rcases hc with ⟨y,rfl,hy⟩ | ⟨rfl,rfl⟩
  · rw [show(oA (some y)).toD=.int y from rfl,tI] at hf
    simp at hf
  · rw [show(oA none).toD=.none from rfl,tN] at hf
    have h5:=(Prod.mk.inj (Option.some.inj hf)).2
    subst h5
    rw [List.append_nil] at hl'
    subst hl'
    have hs:fY (2 ^ 4200) cz eG [some (.d (.dict (m.map kD))),some (.d (.int x)),some (.l [])]=some (.nx (vd (.dict (m.map kD)) .none acc)):=hw
    unfold vd at hs
    generalize acc.map PyData.int=AA at*
    generalize PyData.dict (m.map kD)=DD at*
    simp? [gR,nP,hs]
theorem qQ{c:Int}:∀{a:List Int} {b:List Int},c∉a→(a++c::b).idxOf c=a.length
  | [],b,_=>by simp [List.idxOf_cons]
  | x::a,b,h=>by
    have:(x==c)=false:=by
      rw [beq_eq_false_iff_ne];rintro rfl;exact h (by simp)
    rw [List.cons_append,List.idxOf_cons,this,qQ (fun z=>h (List.mem_cons_of_mem _ z))]
    rfl
def II(B:List Int):PyData→Bool
  | .int i=>B.contains i
  | _=>false
theorem D7{e:En}{x:Int}{ns:List Int}{neg:Bool}:pN neg e (.d (.int x)) (.d (.list (ns.map .int)))=some (.d (.bool (if neg then !ns.contains x else ns.contains x))):=by
  have:=jw (e:=e) (x:=x) (ns:=ns) (neg:=neg)
  unfold pN at this ⊢
  simp only [iH,dc,Option.bind_some] at this ⊢
  exact this
theorem xG{a1 a2 b1 b2:List Int}{c:Int}(d:∀y∈a1,y∉b1++c::b2)(cb:c∉b1)(l1:(a1++c::a2).length≤1000)(l2:(b1++c::b2).length≤1000):iJ [.d (.list ((a1++c::a2).map .int)),.d (.list ((b1++c::b2).map .int))]=some (.d (.tuple ((a1++c::b1.reverse).map .int)),[.d (.list ((a1++c::a2).map .int)),.d (.list ((b1++c::b2).map .int))]):=by
  have ca:c∉a1:=fun z=>d c z (by simp)
  obtain⟨t',hf⟩:=dU (cs:=[some (.d (.list ((b1++c::b2).map .int)))]) (ft:=fK) (fe:=ia) (b:=II (b1++c::b2)) (y:=fun x=>x) ((a1++c::a2).map .int) none [] (fun x hx=>by
    obtain⟨i,_,rfl⟩:=Md hx
    have g:=fun e=>D7 (e:=e) (x:=i) (ns:=b1++c::b2) (neg:=false)
    show fK [some (.d (.list ((b1++c::b2).map .int))),some (.d (.int i))]=some ((b1++c::b2).contains i,[some (.d (.list ((b1++c::b2).map .int))),some (.d (.int i))])
    generalize (b1++c::b2).contains i=bb at*
    generalize (b1++c::b2).map PyData.int=BB at*
    simp? [fK,g]) (fun x hx _=>by
    generalize (b1++c::b2).map PyData.int=BB at*
    simp? [ia]) (by rw [List.length_map];simp only [List.length_nil];lia)
  have hv:=bC (cp:=[(1,"other")]) (nT:=1) (fi:=mP) (g:=ag 1) (ft:=fK) (fe:=ia) (e:=[some (.d (.list ((a1++c::a2).map .int))),some (.d (.list ((b1++c::b2).map .int))),none]) (cs:=[some (.d (.list ((b1++c::b2).map .int)))]) (t:=[none]) (t':=[t']) rfl rfl rfl hf
  have hfil:∃R,((a1++c::a2).map PyData.int).filter (II (b1++c::b2))=.int c::R:=by
    refine⟨(a2.map PyData.int).filter (II (b1++c::b2)),?_⟩
    rw [List.map_append,List.filter_append,List.map_cons,List.filter_cons,if_pos (by show(b1++c::b2).contains c=true;simp)]
    rw [List.filter_eq_nil_iff.mpr]
    · rfl
    · intro z hz
      obtain⟨i,hi,rfl⟩:=Md hz
      have:=d i hi
      show ¬(b1++c::b2).contains i=true
      rw [List.contains_iff_mem]
      exact this
  obtain⟨R,hR⟩:=hfil
  rw [hR,List.nil_append,List.map_id'] at hv
  have hA:gX (a1++c::a2) c=some a1.length:=by unfold gX;rw [if_pos (by simp),qQ ca]
  have hB:gX (b1++c::b2) c=some b1.length:=by unfold gX;rw [if_pos (by simp),qQ cb]
  have eA:=cQ (a1++c::a2)
  have eB:=cQ (b1++c::b2)
  have kA:L2.cutD ((a1++c::a2).map PyData.int) none (some ((a1.length:Int)+1))=(a1++[c]).map .int:=by
    have:=L2.cut_pre (xs:=(a1++[c]).map PyData.int) (ys:=a2.map .int)
    rw [←List.map_append,List.append_assoc] at this
    rw [List.length_map,List.length_append,List.length_singleton] at this
    rw [←this]
    congr 1
  have kB:L2.cutD ((b1++c::b2).map PyData.int) none (some (b1.length:Int))=b1.map .int:=by
    have:=L2.cut_pre (xs:=b1.map PyData.int) (ys:=(c::b2).map .int)
    rw [←List.map_append,List.length_map] at this
    exact this
  have ll:((a1++[c]).map PyData.int).length+((b1.map PyData.int).reverse).length≤1000000:=by
    simp at l1 l2 ⊢;lia
  have er:(a1++c::b1.reverse).map PyData.int=(a1++[c]).map .int++(b1.map PyData.int).reverse:=by simp
  have gc:=fun e=>Bn (e:=e) ll
  have gs:∀(e:En) (lo hi:Option Int) (xs:List PyData),Ig e (.d (.list xs)) lo hi=some (.l (L2.cutD xs lo hi)):=fun _ _ _ _=>rfl
  have gr:∀(e:En) (xs:List PyData),ID e (.l xs) (.d (.int (-1)))=some (.l xs.reverse):=fun _ _=>rfl
  rw [er]
  generalize (a1++[c]).map PyData.int=P1 at*
  generalize b1.map PyData.int=P2 at*
  generalize (a1++c::a2).map PyData.int=AA at*
  generalize (b1++c::b2).map PyData.int=BB at*
  simp? [iJ,pB,hv,yz,lX,AZ,Gr,dc,cv,eA,eB,hA,hB,kA,kB,gs,HV,gr,gc]
theorem km{cs:En}{ft:FT}{fe:FE}{b:PyData→Bool}{y:PyData→PyData}:∀(items:List PyData) (t:Option Sv) (acc:List PyData),(∀x∈items,ft (cs++[some (.d x)])=some (b x,cs++[some (.d x)]))→(∀x∈items,b x=true→∃r,fe (cs++[some (.d x)])=some (r,cs++[some (.d x)])∧o_ r=some (y x))→
    acc.length+items.length≤1000000→∃t',dh (ag cs.length) ft fe items (cs++[t]) acc=some (acc++(items.filter b).map y,cs++[t'])
  | [],t,acc,_,_,_=>⟨t,by simp [dh]⟩
  | x::r,t,acc,h1,h2,hl=>by
    have hg:ag cs.length x (cs++[t])=some (cs++[some (.d x)]):=by simp [ag]
    have hx:=h1 x (by simp)
    simp only [List.length_cons] at hl
    unfold dh
    rw [hg,Option.bind_some,hx,Option.bind_some]
    cases c:b x with
    | true=>
      obtain⟨q,h3,h4⟩:=h2 x (by simp) c
      simp only [if_true,h3,Option.bind_some,h4]
      rw [if_pos (by lia)]
      obtain⟨t',h5⟩:=km (b:=b) (y:=y) r (some (.d x)) (acc++[y x]) (fun z hz=>h1 z (by simp [hz])) (fun z hz=>h2 z (by simp [hz])) (by simp;lia)
      exact⟨t',by rw [h5];simp [List.filter_cons,c]⟩
    | false=>
      simp only [Bool.false_eq_true,if_false]
      obtain⟨t',h5⟩:=km (b:=b) (y:=y) r (some (.d x)) acc (fun z hz=>h1 z (by simp [hz])) (fun z hz=>h2 z (by simp [hz])) (by lia)
      exact⟨t',by rw [h5];simp [List.filter_cons,c]⟩
theorem sx{own:io}{g:FG}{f:FS}(ok:PyData→Bool)(P:En→Prop)(Q:Rv→En→Prop):∀(items:List PyData) (e:En),(∀x∈items,∀e,P e→∃e1,g x e=some e1∧(ok x=true→∃e2,f e1=some (.nx e2)∧keeps own e2∧P e2)∧(ok x=false→∃z e2,f e1=some (.rt z e2)∧Q z e2))→P e→
    (items.all ok=true∧∃e',fW own g f items e=some (.nx e')∧P e')∨∃z e',fW own g f items e=some (.rt z e')∧Q z e'
  | [],e,_,h=>.inl ⟨rfl,e,rfl,h⟩
  | x::r,e,hs,h=>by
    obtain⟨e1,h1,h2,h3⟩:=hs x (by simp) e h
    cases c:ok x with
    | true=>
      obtain⟨e2,h4,h5,h6⟩:=h2 c
      have ih:=sx ok P Q r e2 (fun y hy=>hs y (by simp [hy])) h6
      rw [List.all_cons,c,Bool.true_and]
      have e0:fW own g f (x::r) e=fW own g f r e2:=by
        simp only [fW,h1,h4,Option.bind_some]
        rw [if_pos h5]
      rw [e0]
      exact ih
    | false=>
      obtain⟨z,e2,h4,h5⟩:=h3 c
      refine .inr ⟨z,e2,?_,h5⟩
      simp only [fW,h1,h4,Option.bind_some]
def yW(m:List (Int × Option Int)):PyData→PyData
  | .int x=>.list ((wy m 13 x).map .int)
  | d=>d
def yL:PyData→PyData
  | .list ds=>.int ((ds.length:Int) % 2)
  | d=>d
def Cs(m:List (Int × Option Int))(n:Nat):List Int:=(List.range n).map fun(i:Nat)=>(((wy m 13 (i:Int)).length:Nat):Int) % 2
abbrev wf(W:aY)(D:PyData)(WL RR:List PyData)(v4 v5 v6 v7:Option Sv):En:=[some (.d (ay W)),some (.d D),some (.l WL),some (.d (.tuple RR)),v4,v5,v6,v7]
theorem qf{W:aY}(ok:W.Ok):∃(k:Str) (R:List Int),ic [.d (ay W)]=some (.d (.tuple [.str k,.tuple (R.map .int)]),[.d (ay W)])∧((k="sides"∧lV W (.tuple (R.map .int))=true)∨(k="ring"∧rV W (.tuple (R.map .int))=true∧R.length≤1000)):=by
  have t0:=ok.t0;have t1:=ok.t1
  obtain⟨m,tw,hW,⟨r,hR⟩,hall⟩:=AG ok
  have g0':=Ea (W:=W)
  have g1':=Gk (W:=W)
  have ml:=hW.len ok
  have way:∀x:Int,0≤x→x < W.things→Wy m x (wy m 13 x)∧(wy m 13 x).length≤12:=fun x x0 x1=>by
    obtain⟨⟨y,o⟩,hp,e⟩:=Md (hall x x0 x1)
    dsimp only at e
    subst e
    obtain⟨i,hi⟩:=List.getElem?_of_mem hp
    have il:=(Mb hi).1
    have hw:=HX hW 13 i y o (by lia) hi
    refine⟨hw,?_⟩
    have nn:=lr W.things.toNat _ (hw.nd hW) (fun k hk=>by have:=hw.inr hW k hk;lia)
    lia
  obtain⟨n,hn⟩:∃n:Nat,n=W.things.toNat:=⟨_,rfl⟩
  obtain⟨t1',hf1⟩:=km (cs:=[some (.d (.dict (m.map kD)))]) (ft:=bO) (fe:=jV) (b:=fun _=>true) (y:=yW m) (aM 0 n) none [] (fun x hx=>rfl) (fun x hx _=>by
    obtain⟨i,hx⟩:=List.getElem?_of_mem hx
    obtain⟨rfl,hi⟩:=bx hx
    have q:=way (0+(i:Int)) (by lia) (by lia)
    have tb:=uZ q.1 q.2
    refine⟨.l ((wy m 13 (0+(i:Int))).map .int),?_,rfl⟩
    generalize (wy m 13 (0+(i:Int))).map PyData.int=LL at*
    generalize 0+(i:Int)=k at*
    generalize PyData.dict (m.map kD)=DD at*
    simp? [jV,tb]) (by rw [bc];simp;lia)
  rw [jW,List.nil_append] at hf1
  have hi5:me [some (.d (ay W)),some (.d (.dict (m.map kD))),none,none,none,none,none,none]=some (aM 0 n,[],[some (.d (ay W)),some (.d (.dict (m.map kD))),none,none,none,none,none,none]):=by
    rw [hn]
    refine bi (n:=W.things) ?_ (by lia) (by lia)
    generalize ay W=WW at*
    simp? [g0']
  have hv1:=bC (cp:=[(1,"before")]) (nT:=1) (fi:=me) (g:=ag 1) (ft:=bO) (fe:=jV) (cs:=[some (.d (.dict (m.map kD)))]) (t:=[none]) (t':=[t1']) hi5 rfl rfl hf1
  obtain⟨WL,hWL⟩:∃WL,WL=(aM 0 n).map (yW m):=⟨_,rfl⟩
  rw [←hWL] at hv1
  obtain⟨t2',hf2⟩:=dU (cs:=[]) (ft:=bO) (fe:=iI) (b:=fun _=>true) (y:=yL) WL none [] (fun x hx=>rfl) (fun x hx _=>by
    rw [hWL] at hx
    obtain⟨z,hz,rfl⟩:=Md hx
    obtain⟨i,hx⟩:=List.getElem?_of_mem hz
    obtain⟨rfl,hi⟩:=bx hx
    show iI [some (.d (.list ((wy m 13 (0+(i:Int))).map .int)))]=some (.d (.int ((((wy m 13 (0+(i:Int))).map PyData.int).length:Int) % 2)),[some (.d (.list ((wy m 13 (0+(i:Int))).map .int)))])
    generalize (wy m 13 (0+(i:Int))).map PyData.int=LL at*
    have gm:∀e:En,aQ e (.d (.int (LL.length:Int))) (.d (.int 2))=some (.d (.int ((LL.length:Int) % 2))):=fun e=>az (by decide)
    simp? [iI,gm]) (by rw [hWL,List.length_map,bc];simp;lia)
  rw [jW,List.nil_append] at hf2
  have hv2:=xP (cp:=[]) (nT:=1) (fi:=pT) (g:=ag 0) (ft:=bO) (fe:=iI) (e:=[some (.d (ay W)),some (.d (.dict (m.map kD))),some (.l WL),none,none,none,none,none]) (own:=[(2,WL)]) (cs:=[]) (t:=[none]) (t':=[t2']) rfl rfl rfl rfl hf2
  obtain⟨row,hrow⟩:∃row,row=Cs m n:=⟨_,rfl⟩
  have eRow:WL.map yL=row.map .int:=by
    rw [hWL,hrow]
    unfold Cs aM
    rw [List.map_map,List.map_map,List.map_map]
    refine List.map_congr_left fun i _=>?_
    show PyData.int ((((wy m 13 (0+(i:Int))).map PyData.int).length:Int) % 2)=PyData.int (((wy m 13 (i:Int)).length:Int) % 2)
    rw [List.length_map,Int.zero_add]
  rw [eRow] at hv2
  have lrow:row.length=n:=by rw [hrow];unfold Cs;simp
  have nthR:∀x:Int,0≤x→x < W.things→bw (row.map .int) x=((wy m 13 x).length:Int) % 2:=fun x x0 x1=>by
    unfold bw
    rw [hrow]
    unfold Cs
    have hx:x.toNat < n:=by lia
    rw [List.getElem?_map,List.getElem?_map,List.getElem?_range hx]
    show((wy m 13 (x.toNat:Int)).length:Int) % 2=_
    rw [Int.toNat_of_nonneg x0]
  have atW:∀x:Int,0≤x→x < W.things→atI WL x=some (.list ((wy m 13 x).map .int)):=fun x x0 x1=>by
    have hx:x.toNat < n:=by lia
    rw [jm x0 (by rw [hWL,List.length_map,bc];lia),hWL,List.getElem?_map]
    unfold aM
    rw [List.getElem?_map,List.getElem?_range hx]
    show some (PyData.list ((wy m 13 (0+(x.toNat:Int))).map .int))=_
    rw [Int.zero_add,Int.toNat_of_nonneg x0]
  have hfor:=sx (own:=[]) (g:=dj (ao (ag 4) (ao (ag 5) (ao (ag 6) (ao (ag 7) cL))))) (f:=iF) (fun x=> !qT (row.map .int) x)
    (fun e=>∃v4 v5 v6 v7,e=wf W (.dict (m.map kD)) WL (row.map .int) v4 v5 v6 v7) (fun z e=>∃(R:List Int) (v4 v5 v6 v7:Option Sv),z=.d (.tuple [.str "ring",.tuple (R.map .int)])∧rV W (.tuple (R.map .int))=true∧R.length≤1000∧e=wf W (.dict (m.map kD)) WL (row.map .int) v4 v5 v6 v7)
    (W.ties.map ar) (wf W (.dict (m.map kD)) WL (row.map .int) none none none none) (fun x hx e ⟨v4,v5,v6,v7,he⟩=>by
      subst he
      obtain⟨t,ht,rfl⟩:=j_ hx
      have o:=ok.ties t ht
      have:=o.o0;have:=o.o1;have:=o.o2
      have a1:=mh (ns:=row) (i:=t.one) (by lia) (by lia)
      have a2:=mh (ns:=row) (i:=t.other) (by lia) (by lia)
      have w1:=atW t.one (by lia) (by lia)
      have w2:=atW t.other (by lia) (by lia)
      refine⟨wf W (.dict (m.map kD)) WL (row.map .int) (some (.d (.int t.one))) (some (.d (.int t.other))) (some (.d (.tuple [.int t.top,.int t.bot]))) (some (.d (.int t.worth))),?_,fun c=>?_,fun c=>?_⟩
      · unfold ar wf
        generalize row.map PyData.int=RR
        generalize ay W=WW
        generalize PyData.dict (m.map kD)=DD
        simp? [List.replicate]
      · refine⟨wf W (.dict (m.map kD)) WL (row.map .int) (some (.d (.int t.one))) (some (.d (.int t.other))) (some (.d (.tuple [.int t.top,.int t.bot]))) (some (.d (.int t.worth))),?_,be,_,_,_,_,rfl⟩
        have c':(bw (row.map .int) t.one==bw (row.map .int) t.other)=false:=by simpa [qT,ar] using c
        rw [beq_eq_false_iff_ne] at c'
        unfold wf
        generalize bw (row.map PyData.int) t.one=x1 at*
        generalize bw (row.map PyData.int) t.other=x2 at*
        generalize row.map PyData.int=RR at*
        generalize ay W=WW at*
        generalize PyData.dict (m.map kD)=DD at*
        simp? [iF,a1,a2,c']
      · have c':bw (row.map .int) t.one=bw (row.map .int) t.other:=by simpa [qT,ar] using c
        have q1:=way t.one (by lia) (by lia)
        have q2:=way t.other (by lia) (by lia)
        have e1:=nthR t.one (by lia) (by lia)
        have e2:=nthR t.other (by lia) (by lia)
        obtain⟨a1',c0,a2',b1',b2',eA,dA,eB,cb,rg,lR⟩:=Cn ok hW hR ht q1.1 q2.1 (by lia)
        have l1:=q1.2
        have l2:=q2.2
        rw [eA] at w1 l1
        rw [eB] at w2 l2 dA
        have tr:=xG dA cb (a2:=a2') (by lia) (by lia)
        refine⟨.d (.tuple [.str "ring",.tuple ((a1'++c0::b1'.reverse).map .int)]),wf W (.dict (m.map kD)) WL (row.map .int) (some (.d (.int t.one))) (some (.d (.int t.other))) (some (.d (.tuple [.int t.top,.int t.bot]))) (some (.d (.int t.worth))),?_,a1'++c0::b1'.reverse,_,_,_,_,rfl,rg,lR,rfl⟩
        unfold wf
        generalize (a1'++c0::b1'.reverse).map PyData.int=QQ at*
        generalize (a1'++c0::a2').map PyData.int=AA at*
        generalize (b1'++c0::b2').map PyData.int=BB at*
        generalize bw (row.map PyData.int) t.one=x1 at*
        generalize bw (row.map PyData.int) t.other=x2 at*
        generalize row.map PyData.int=RR at*
        generalize ay W=WW at*
        generalize PyData.dict (m.map kD)=DD at*
        subst c'
        simp? [iF,a1,a2,w1,w2,tr]) ⟨none,none,none,none,rfl⟩
  have hi1:∀(RR:List PyData),pS (wf W (.dict (m.map kD)) WL RR none none none none)=some (W.ties.map ar,[],wf W (.dict (m.map kD)) WL RR none none none none):=fun RR=>by
    unfold wf
    refine jC ?_
    generalize (W.ties.map ar)=TT at*
    generalize ay W=WW at*
    generalize PyData.dict (m.map kD)=DD at*
    simp? [g1']
  have hs:=fun Wl=>c_ (W:=Wl) (g:=dj (ao (ag 4) (ao (ag 5) (ao (ag 6) (ao (ag 7) cL))))) (f:=iF) (hi1 (row.map .int))
  rcases hfor with ⟨hok,e',hF,v4,v5,v6,v7,rfl⟩ | ⟨z,e',hF,R,v4,v5,v6,v7,rfl,rg,lR,rfl⟩
  · rw [hF] at hs
    refine⟨"sides",row,?_,.inl ⟨rfl,?_⟩⟩
    · unfold wf at hs
      generalize row.map PyData.int=RR at*
      generalize ay W=WW at*
      generalize PyData.dict (m.map kD)=DD at*
      simp? [ic,qq,tw,hv1,hv2,hs]
    · rw [oT] at hok
      simp only [lV,List.length_map,lrow,hok,Bool.and_true,Bool.and_eq_true,beq_iff_eq]
      refine⟨by lia,?_⟩
      rw [List.all_map,List.all_eq_true]
      intro y hy
      rw [hrow] at hy
      obtain⟨i,_,hi⟩:=Md hy
      have hy0:0≤y∧y≤1:=by lia
      show(decide (0≤y)&&decide (y≤1))=true
      rw [decide_eq_true (by lia),decide_eq_true (by lia)]
      rfl
  · rw [hF] at hs
    refine⟨"ring",R,?_,.inr ⟨rfl,rg,lR⟩⟩
    unfold wf at hs
    generalize R.map PyData.int=QQ at*
    generalize row.map PyData.int=RR at*
    generalize ay W=WW at*
    generalize PyData.dict (m.map kD)=DD at*
    simp? [ic,qq,tw,hv1,hv2,hs]
def ng:List Int→Nat
  | []=>0
  | x::r=>(if x < 0 then 1 else 0)+ng r
theorem Dl:∀(ns:List Int),ng ns≤ns.length
  | []=>Nat.le_refl _
  | x::r=>by have:=Dl r;simp only [ng,List.length_cons];split<;>lia
theorem rf:∀{ns:List Int} {i:Nat} {v:Int},i < ns.length→ns.getD i 0 < 0→0≤v→ng (ns.set i v)+1=ng ns
  | [],i,v,h,_,_=>by simp at h
  | x::r,0,v,_,h1,h2=>by
    have h1:x < 0:=by simpa using h1
    simp only [List.set_cons_zero,ng]
    rw [if_pos h1,if_neg (by lia)];lia
  | x::r,i+1,v,h,h1,h2=>by
    have:=rf (ns:=r) (i:=i) (v:=v) (by simpa using h) (by simpa using h1) h2
    simp only [List.set_cons_succ,ng];lia
structure ul (n:Int) (ns:List Int):Prop where
  len:(ns.length:Int)=n
  rng:∀x∈ns, -1≤x∧x≤1
theorem ul.at{n:Int}{ns:List Int}(h:ul n ns){i:Int}(h0:0≤i)(h1:i < n): -1≤ns.getD i.toNat 0∧ns.getD i.toNat 0≤1:=by
  have hl:i.toNat < ns.length:=by have:=h.len;lia
  rw [List.getD_eq_getElem?_getD,List.getElem?_eq_getElem hl]
  exact h.rng _ (List.getElem_mem _)
theorem ul.set{n:Int}{ns:List Int}(h:ul n ns){i:Nat}{v:Int}(h0: -1≤v)(h1:v≤1):ul n (ns.set i v):=⟨by rw [List.length_set];exact h.len,fun x hx=>by
  rcases List.mem_or_eq_of_mem_set hx with hx | rfl
  · exact h.rng x hx
  · exact⟨h0,h1⟩⟩
theorem yI{ns:List Int}{i j:Nat}{v:Int}(hj:0≤ns.getD j 0)(hv:0≤v):0≤(ns.set i v).getD j 0:=by
  rw [List.getD_eq_getElem?_getD] at hj ⊢
  rw [List.getElem?_set]
  split
  · split
    · exact hv
    · exact Int.le_refl _
  · exact hj
theorem nV{own:io}{g:FG}{f:FS}{Z:Rv}(P:Nat→En→Prop)(Q:En→Prop):∀(items:List PyData) (k:Nat) (e:En),(∀i x e,items[i]?=some x→P (k+i) e→∃e1,g x e=some e1∧((∃e2,f e1=some (.nx e2)∧keeps own e2∧P (k+i+1) e2)∨∃e2,f e1=some (.rt Z e2)∧Q e2))→P k e→
    (∃e',fW own g f items e=some (.nx e')∧P (k+items.length) e')∨∃e',fW own g f items e=some (.rt Z e')∧Q e'
  | [],k,e,_,h=>.inl ⟨e,rfl,h⟩
  | x::r,k,e,hs,h=>by
    obtain⟨e1,h1,⟨e2,h4,h5,h6⟩ | ⟨e2,h4,h5⟩⟩:=hs 0 x e rfl h
    · have ih:=nV P Q r (k+1) e2 (fun i y e hy hp=>by
        have:=hs (i+1) y e (by simpa using hy) (by rw [show k+(i+1)=k+1+i by lia];exact hp)
        rw [show k+(i+1)+1=k+1+i+1 by lia] at this
        exact this) h6
      have e0:fW own g f (x::r) e=fW own g f r e2:=by
        simp only [fW,h1,h4,Option.bind_some]
        rw [if_pos h5]
      rw [e0,show k+(x::r).length=k+1+r.length by simp;lia]
      exact ih
    · refine .inr ⟨e2,?_,h5⟩
      simp only [fW,h1,h4,Option.bind_some]
def gv(ns:List Int)(x:Int):Int:=ns.getD x.toNat 0
theorem qM{ns:List Int}{i:Nat}{v x:Int}(hi:i < ns.length)(x0:0≤x):gv (ns.set i v) x=if x=(i:Int) then v else gv ns x:=by
  unfold gv
  rw [List.getD_eq_getElem?_getD,List.getElem?_set]
  by_cases c:x=(i:Int)
  · rw [if_pos c,if_pos (by lia),if_pos hi];rfl
  · rw [if_neg c,if_neg (by lia),List.getD_eq_getElem?_getD]
def Dn(W:aY)(ns:List Int)(x:Int):Prop:=∀y∈mt W x,gv ns y=1 - gv ns x
def DH(W:aY)(col:Int→Int):Prop:=∀x y,y∈mt W x→(col x+col y) % 2=1
abbrev zE(W:aY)(ns:List Int)(v2:Option Sv)(ws:List Int)(v4 v5:Option Sv):En:=[some (.d (ay W)),some (.l (ns.map .int)),v2,some (.l (ws.map .int)),v4,v5]
structure xZ (W:aY) (F0:Int→Prop) (ns ws:List Int) (here:Option Int):Prop where
  ok:ul W.things ns
  wt:∀w∈ws,0≤w∧w < W.things∧0≤gv ns w∧¬F0 w
  wl:ws.length+ng ns≤1000
  dn:∀x,0≤x→x < W.things→0≤gv ns x→x∈ws∨here=some x∨Dn W ns x
  f0:∀x,F0 x→∀y∈mt W x,F0 y
  sub:∀x,F0 x→0≤gv ns x
  con:∀col,DH W col→∃K:Int,∀x,0≤x→x < W.things→0≤gv ns x→F0 x∨(gv ns x+col x - K) % 2=0
def JN(W:aY):Prop:=∀col,DH W col→False
inductive ZJ (W:aY) (F0:Int→Prop) (v2:Option Sv) (here:Int) (m:Nat) (i:Nat):En→Prop
  | mk {ns ws v5} (h:xZ W F0 ns ws (some here)) (hh:0≤gv ns here) (hm:ws.length+ng ns≤m) (hd:∀j y,j < i→(mt W here)[j]?=some y→gv ns y=1 - gv ns here):ZJ W F0 v2 here m i (zE W ns v2 ws (some (.d (.int here))) v5)
inductive ZK (W:aY) (F0:Int→Prop) (v2:Option Sv) (s:Int):En→Prop
  | mk {ns ws v4 v5} (h:xZ W F0 ns ws none) (hs:0≤gv ns s):ZK W F0 v2 s (zE W ns v2 ws v4 v5)
inductive ZQ (W:aY):En→Prop
  | mk {v1 v2 v3 v4 v5} (h:JN W):ZQ W [some (.d (ay W)),v1,v2,v3,v4,v5]
def zM(e:En):Nat:=match e[1]?,e[3]? with
  | some (some (Sv.l xs)),some (some (Sv.l ys))=>ys.length+ng (xs.map fun d=>match d with | PyData.int i=>i | _=>0)
  | _,_=>0
theorem AQ{W:aY}{ns ws:List Int}{v2 v4 v5:Option Sv}:zM (zE W ns v2 ws v4 v5)=ws.length+ng ns:=by
  show(ws.map PyData.int).length+ng ((ns.map PyData.int).map _)=_
  rw [List.length_map,List.map_map]
  congr 2
  exact List.map_id' ns
theorem xZ.put{W:aY}(ok:W.Ok){F0:Int→Prop}{ns ws:List Int}{w m:Int}(h:xZ W F0 ns ws (some w))(hm:m∈mt W w)(w0:0≤w)(w1:w < W.things)(hw:0≤gv ns w)(nf:¬F0 w)(c:gv ns m < 0):xZ W F0 (ns.set m.toNat (1 - gv ns w)) (ws++[m]) (some w):=by
  obtain⟨m0,m1⟩:=kz ok hm
  have nl:=h.ok.len
  have ml:m.toNat < ns.length:=by lia
  have r1:=h.ok.at m0 m1
  have r2:=h.ok.at w0 w1
  have r3:gv ns w≤1:=r2.2
  have em:((m.toNat:Nat):Int)=m:=Int.toNat_of_nonneg m0
  have gs:∀x,0≤x→gv (ns.set m.toNat (1 - gv ns w)) x=if x=m then 1 - gv ns w else gv ns x:=fun x x0=>by
    have:=qM (v:=1 - gv ns w) ml x0
    rw [em] at this
    exact this
  have hn:=rf (ns:=ns) (i:=m.toNat) (v:=1 - gv ns w) ml c (by lia)
  have ge:∀x,0≤x→0≤gv ns x→gv (ns.set m.toNat (1 - gv ns w)) x=gv ns x:=fun x x0 hx=>by
    rw [gs x x0,if_neg (fun e=>by subst e;lia)]
  refine⟨h.ok.set (by lia) (by lia),fun x hx=>?_,by have:=h.wl;rw [List.length_append];simp only [List.length_cons,List.length_nil];lia,fun x x0 x1 hx=>?_,h.f0,fun x hx=>?_,fun col hc=>?_⟩
  · rcases Mc hx with hx | hx
    · obtain⟨q0,q1,q2,q3⟩:=h.wt x hx
      exact⟨q0,q1,by rw [ge x q0 q2];exact q2,q3⟩
    · simp at hx;subst hx
      refine⟨m0,m1,by rw [gs x m0,if_pos rfl];lia,fun z=>?_⟩
      have:=h.sub x z
      lia
  · by_cases e:x=m
    · subst e;exact .inl (by simp)
    · rw [gs x x0,if_neg e] at hx
      rcases h.dn x x0 x1 hx with z | z | z
      · exact .inl (by simp [z])
      · exact .inr (.inl z)
      · refine .inr (.inr fun y hy=>?_)
        have y0:=(kz ok hy).1
        have:=z y hy
        have rx:gv ns x≤1:=(h.ok.at x0 x1).2
        rw [ge y y0 (by lia),ge x x0 hx]
        exact this
  · have z:=h.sub x hx
    by_cases x0:0≤x
    · rw [ge x x0 z];exact z
    · unfold gv
      rw [show x.toNat=0 by lia]
      have q:gv ns x=gv ns 0:=by unfold gv;rw [show x.toNat=0 by lia];rfl
      have:=ge 0 (by lia) (by rw [←q];exact z)
      unfold gv at this z
      rw [show x.toNat=0 by lia] at z
      rw [show(0:Int).toNat=0 from rfl] at this
      rw [this];exact z
  · obtain⟨K,hK⟩:=h.con col hc
    refine⟨K,fun x x0 x1 hx=>?_⟩
    by_cases e:x=m
    · subst e
      rw [gs x x0,if_pos rfl]
      have a:=(hK w w0 w1 hw).resolve_left nf
      have b:=hc w x hm
      exact .inr (by lia)
    · rw [gs x x0,if_neg e] at hx ⊢
      exact hK x x0 x1 hx
theorem Gf{W:aY}(ok:W.Ok){F0:Int→Prop}{ns ws:List Int}{w s:Int}{v2 v4 v5:Option Sv}(h:xZ W F0 ns (ws++[w]) none)(hs:0≤gv ns s)(s0:0≤s):
    (∃e2 ns' ws' v5',bX (zE W ns v2 (ws++[w]) v4 v5)=some (.nx e2)∧e2=zE W ns' v2 ws' (some (.d (.int w))) v5'∧xZ W F0 ns' ws' none∧0≤gv ns' s∧ws'.length+ng ns'≤ws.length+ng ns)∨∃e2,bX (zE W ns v2 (ws++[w]) v4 v5)=some (.rt (.d .none) e2)∧ZQ W e2:=by
  have t12:=ok.t1
  obtain⟨w0,w1,w2,w3⟩:=h.wt w (by simp)
  have h0:xZ W F0 ns ws (some w):=⟨h.ok,fun x hx=>h.wt x (by simp [hx]),by have:=h.wl;simp at this;lia,fun x x0 x1 hx=>by
    rcases h.dn x x0 x1 hx with z | z | z
    · rcases Mc z with z | z
      · exact .inl z
      · simp at z;subst z;exact .inr (.inl rfl)
    · cases z
    · exact .inr (.inr z),h.f0,h.sub,h.con⟩
  have tm:=wn ok w
  have ml:=q_ ok w
  have loop:=nV (own:=[]) (g:=ag 5) (f:=bW) (Z:=.d .none) (fun i e=>ZJ W F0 v2 w (ws.length+ng ns) i e∧∃ns' a b c d,e=zE W ns' a b c d∧0≤gv ns' s) (ZQ W) ((mt W w).map .int) 0 (zE W ns v2 ws (some (.d (.int w))) v5) (fun i x e hx hIS=>by
    obtain⟨hI,hS⟩:=hIS
    rw [List.getElem?_map] at hx
    obtain⟨m,hmi,rfl⟩:=Ma hx
    have hm:m∈mt W w:=Mf hmi
    obtain⟨hW,hh,hme,hd⟩:=hI
    rename_i ns' ws' v5
    have hS:0≤gv ns' s:=by
      obtain⟨ns2,a,b,c,d,e,q⟩:=hS
      have e1:ns'.map PyData.int=ns2.map .int:=by
        have:=congrArg (fun z:En=>z[1]?) e
        simpa using this
      have e2:ns'=ns2:=by
        have:=congrArg li e1
        rw [cQ,cQ] at this
        exact Option.some.inj this
      rw [e2];exact q
    rw [Nat.zero_add] at hd ⊢
    obtain⟨m0,m1⟩:=kz ok hm
    have nl:=hW.ok.len
    have a1:atI (ns'.map PyData.int) m=some (.int (gv ns' m)):=fF (ns:=ns') (k:=m) m0 (by lia)
    have a2:atI (ns'.map PyData.int) w=some (.int (gv ns' w)):=fF (ns:=ns') (k:=w) w0 (by lia)
    have r1: -1≤gv ns' m∧gv ns' m≤1:=hW.ok.at m0 m1
    have r2: -1≤gv ns' w∧gv ns' w≤1:=hW.ok.at w0 w1
    have hix:xV ns'.length m=some m.toNat:=by unfold xV;rw [if_pos m0,if_pos (by lia)]
    have lw:ws'.length < 1000000:=by have:=hW.wl;lia
    refine⟨zE W ns' v2 ws' (some (.d (.int w))) (some (.d (.int m))),rfl,?_⟩
    by_cases c:gv ns' m < 0
    · left
      have hn:=rf (ns:=ns') (i:=m.toNat) (v:=1 - gv ns' w) (by lia) c (by lia)
      have em:((m.toNat:Nat):Int)=m:=Int.toNat_of_nonneg m0
      have ge:∀x,0≤x→0≤gv ns' x→gv (ns'.set m.toNat (1 - gv ns' w)) x=gv ns' x:=fun x x0 hx=>by
        have:=qM (ns:=ns') (v:=1 - gv ns' w) (i:=m.toNat) (by lia) x0
        rw [this,em,if_neg (fun e=>by subst e;lia)]
      refine⟨zE W (ns'.set m.toNat (1 - gv ns' w)) v2 (ws'++[m]) (some (.d (.int w))) (some (.d (.int m))),?_,be,.mk (hW.put ok hm w0 w1 hh w3 c) (by rw [ge w w0 hh];exact hh) (by rw [List.length_append];simp only [List.length_cons,List.length_nil];lia) (fun j y hj hy=>?_),_,_,_,_,_,rfl,by rw [ge s s0 hS];exact hS⟩
      · simp only [zE]
        generalize gv ns' m=y1 at*
        generalize gv ns' w=y2 at*
        simp? [bW,a1,a2,c,xw,kO,hix,List.map_set,lw]
      · have y0:=(kz ok (Mf hy)).1
        rw [ge w w0 hh]
        by_cases ej:j=i
        · subst ej
          rw [hmi] at hy
          cases hy
          rw [qM (by lia) y0,em,if_pos rfl]
        · have:=hd j y (by lia) hy
          rw [ge y y0 (by lia)]
          exact this
    · by_cases c2:gv ns' m=gv ns' w
      · right
        refine⟨zE W ns' v2 ws' (some (.d (.int w))) (some (.d (.int m))),?_,.mk fun col hc=>?_⟩
        · simp only [zE]
          rw [c2] at a1 c
          generalize gv ns' w=y2 at*
          simp? [bW,a1,a2,c]
        · obtain⟨K,hK⟩:=hW.con col hc
          have q1:=(hK w w0 w1 hh).resolve_left w3
          have q2:=(hK m m0 m1 (by lia)).resolve_left (fun z=>w3 (hW.f0 m z w (y9 hm)))
          have q3:=hc w m hm
          lia
      · left
        refine⟨zE W ns' v2 ws' (some (.d (.int w))) (some (.d (.int m))),?_,be,.mk hW hh hme (fun j y hj hy=>?_),_,_,_,_,_,rfl,hS⟩
        · simp only [zE]
          generalize gv ns' m=y1 at*
          generalize gv ns' w=y2 at*
          simp? [bW,a1,a2,c,c2]
        · by_cases ej:j=i
          · subst ej
            rw [hmi] at hy
            cases hy
            lia
          · exact hd j y (by lia) hy) ⟨.mk h0 w2 (Nat.le_refl _) (fun j y hj=>by lia),_,_,_,_,_,rfl,hs⟩
  have hi:fx (zE W ns v2 ws (some (.d (.int w))) v5)=some ((mt W w).map .int,[],zE W ns v2 ws (some (.d (.int w))) v5):=by
    unfold fx
    refine Ec ?_
    generalize (mt W w).map PyData.int=MM at*
    simp? [zE,tm]
  have hg:=fun Wl=>c_ (W:=Wl) (g:=ag 5) (f:=bW) hi
  have hpop:∀R,dC ([5]++(([]++[])++([]++[]))) fx (ag 5) bW (zE W ns v2 ws (some (.d (.int w))) v5)=R→bX (zE W ns v2 (ws++[w]) v4 v5)=R:=fun R hR=>by
    unfold bX
    refine(ja (e1:=zE W ns v2 ws (some (.d (.int w))) v5) ?_).trans hR
    simp only [zE,List.map_append,List.map_cons,List.map_nil]
    generalize ns.map PyData.int=NN
    generalize ws.map PyData.int=WW
    have hq:(WW++[PyData.int w])[WW.length]?=some (.int w):=by simp
    have hq2:WW++[]=WW:=List.append_nil _
    simp? [qZ,hq,hq2]
  rcases loop with ⟨e',h3,hJ,hS⟩ | ⟨e',h3,hQ⟩
  · obtain⟨hW,hh,hme,hd⟩:=hJ
    rename_i ns' ws' v5'
    refine .inl ⟨_,ns',ws',v5',hpop _ ((hg _).trans h3),rfl,⟨hW.ok,hW.wt,hW.wl,fun x x0 x1 hx=>?_,hW.f0,hW.sub,hW.con⟩,?_,hme⟩
    · rcases hW.dn x x0 x1 hx with z | z | z
      · exact .inl z
      · cases z
        refine .inr (.inr fun y hy=>?_)
        obtain⟨j,hj⟩:=List.getElem?_of_mem hy
        have jl:=(Mb hj).1
        exact hd j y (by rw [List.length_map];lia) hj
      · exact .inr (.inr z)
    · obtain⟨ns2,a,b,c,d,e,q⟩:=hS
      have e1:ns'.map PyData.int=ns2.map .int:=by
        have:=congrArg (fun z:En=>z[1]?) e
        simpa using this
      have e2:ns'=ns2:=by
        have:=congrArg li e1
        rw [cQ,cQ] at this
        exact Option.some.inj this
      rw [e2];exact q
  · exact .inr ⟨e',hpop _ ((hg _).trans h3),hQ⟩
theorem vf{ft:FT}{f:FS}{Z:Rv}(P Q:En→Prop)(μ:En→Nat)(hs:∀e,P e→ft e=some (false,e)∨(ft e=some (true,e)∧((∃e2,f e=some (.nx e2)∧P e2∧μ e2 < μ e)∨∃e2,f e=some (.rt Z e2)∧Q e2))):
    ∀(n:Nat) (e:En),P e→μ e < n→(∃e',cG ft f n e=some (.nx e')∧P e'∧ft e'=some (false,e'))∨∃e',cG ft f n e=some (.rt Z e')∧Q e':=by
  intro n
  induction n with
  | zero=>intro e _ h;lia
  | succ n ih=>
    intro e hp hm
    rcases hs e hp with h1 | ⟨h1,⟨e2,h2,h3,h4⟩ | ⟨e2,h2,h3⟩⟩
    · exact .inl ⟨e,by unfold cG;rw [h1];rfl,hp,h1⟩
    · have e0:cG ft f (n+1) e=cG ft f n e2:=by
        unfold cG;rw [h1];simp only [Option.bind_some,if_true,h2]
        cases n<;>rfl
      rw [e0]
      exact ih e2 h3 (by lia)
    · exact .inr ⟨e2,by unfold cG;rw [h1];simp only [Option.bind_some,if_true,h2],h3⟩
theorem vg{W:aY}{ns ws:List Int}{v2 v4 v5:Option Sv}:dG (zE W ns v2 ws v4 v5)=some (!ws.isEmpty,zE W ns v2 ws v4 v5):=by
  have q3:∀(e:En),e[3]?=some (some (.l (ws.map .int)))→bK true e (.s 3) (.l [])=some (.d (.bool (!(ws.map PyData.int).isEmpty))):=fun e he=>sD he (mW _).1
  have ee:ws.isEmpty=(ws.map PyData.int).isEmpty:=by cases ws<;>rfl
  rw [ee]
  unfold zE
  generalize ws.map PyData.int=WW at*
  generalize ns.map PyData.int=NN at*
  generalize ay W=DW at*
  simp? [dG,q3]
structure Gv (W:aY) (ns:List Int) (i:Nat):Prop where
  ok:ul W.things ns
  dn:∀x,0≤x→x < W.things→0≤gv ns x→Dn W ns x
  fd:∀x:Int,0≤x→x < (i:Int)→0≤gv ns x
inductive ZI (W:aY) (i:Nat):En→Prop
  | mk {ns v2 v3 v4 v5} (h:Gv W ns i):ZI W i [some (.d (ay W)),some (.l (ns.map .int)),v2,v3,v4,v5]
theorem Aw{W:aY}(ok:W.Ok){ns:List Int}{i:Nat}(h:Gv W ns i){k:Int}(k0:0≤k)(k1:k < W.things)(c:gv ns k < 0):xZ W (fun x=>0≤x∧x < W.things∧0≤gv ns x) (ns.set k.toNat 0) [k] none:=by
  have nl:=h.ok.len
  have kl:k.toNat < ns.length:=by lia
  have em:((k.toNat:Nat):Int)=k:=Int.toNat_of_nonneg k0
  have gs:∀x,0≤x→gv (ns.set k.toNat 0) x=if x=k then 0 else gv ns x:=fun x x0=>by
    have:=qM (v:=0) kl x0
    rw [em] at this
    exact this
  have hn:=rf (ns:=ns) (i:=k.toNat) (v:=0) kl c (by lia)
  have hle:=Dl ns
  have t1:=ok.t1
  have ge:∀x,0≤x→0≤gv ns x→gv (ns.set k.toNat 0) x=gv ns x:=fun x x0 hx=>by
    rw [gs x x0,if_neg (fun e=>by subst e;lia)]
  refine⟨h.ok.set (by lia) (by lia),fun x hx=>?_,by simp;lia,fun x x0 x1 hx=>?_,fun x hx y hy=>?_,fun x hx=>?_,fun col hc=>⟨col k,fun x x0 x1 hx=>?_⟩⟩
  · simp at hx;subst hx
    exact⟨k0,k1,by rw [gs x k0,if_pos rfl];lia,fun z=>by have:=z.2.2;lia⟩
  · by_cases e:x=k
    · subst e;exact .inl (by simp)
    · rw [gs x x0,if_neg e] at hx
      refine .inr (.inr fun y hy=>?_)
      have y0:=(kz ok hy).1
      have:=h.dn x x0 x1 hx y hy
      have rx:gv ns x≤1:=(h.ok.at x0 x1).2
      rw [ge y y0 (by lia),ge x x0 hx]
      exact this
  · obtain⟨y0,y1⟩:=kz ok hy
    have:=h.dn x hx.1 hx.2.1 hx.2.2 y hy
    have rx:gv ns x≤1:=(h.ok.at hx.1 hx.2.1).2
    exact⟨y0,y1,by lia⟩
  · rw [ge x hx.1 hx.2.2];exact hx.2.2
  · by_cases e:x=k
    · subst e
      rw [gs x x0,if_pos rfl]
      exact .inr (by lia)
    · rw [gs x x0,if_neg e] at hx
      exact .inl ⟨x0,x1,hx⟩
theorem xZ.same{W:aY}{F0:Int→Prop}{ns:List Int}(h:xZ W F0 ns [] none):∀x,0≤x→x < W.things→0≤gv ns x→Dn W ns x:=fun x x0 x1 hx=>by
  rcases h.dn x x0 x1 hx with z | z | z
  · cases z
  · cases z
  · exact z
theorem Ct{W:aY}(ok:W.Ok){d:PyData}(h1:lV W d=true):∃col,DH W col:=by
  cases d with
  | tuple ds=>
    simp only [lV,Bool.and_eq_true,beq_iff_eq] at h1
    obtain⟨hl,hin,ht⟩:=h1
    obtain⟨cs,rfl,hc⟩:=cC hin
    refine⟨fun x=>bw (cs.map .int) x,fun a b hb=>?_⟩
    obtain⟨t,htt,q⟩:=i8.mp hb
    have z:=List.all_eq_true.mp ht t htt
    simp only [Bool.not_eq_true',beq_eq_false_iff_ne] at z
    have o:=ok.ties t htt
    have:=o.o0;have:=o.o1;have:=o.o2
    have rn:∀i:Int,0≤i→i < W.things→0≤bw (cs.map .int) i∧bw (cs.map .int) i≤1:=fun i i0 i1=>by
      rw [List.length_map] at hl
      have k:i.toNat < cs.length:=by lia
      have e:bw (cs.map .int) i=cs[i.toNat]:=by
        unfold bw
        rw [List.getElem?_map,List.getElem?_eq_getElem k]
        rfl
      rw [e]
      exact hc _ (List.getElem_mem k)
    have r1:=rn t.one (by lia) (by lia)
    have r2:=rn t.other (by lia) (by lia)
    dsimp only
    rcases q with ⟨rfl,rfl⟩ | ⟨rfl,rfl⟩<;>lia
  | _=>cases h1
theorem Gv.sides{W:aY}(ok:W.Ok){ns:List Int}(h:Gv W ns W.things.toNat):lV W (.tuple (ns.map .int))=true:=by
  have t0:=ok.t0
  have nl:=h.ok.len
  have fd:∀x:Int,0≤x→x < W.things→0≤gv ns x:=fun x x0 x1=>h.fd x x0 (by lia)
  have en:∀x:Int,0≤x→x < W.things→bw (ns.map .int) x=gv ns x:=fun x x0 x1=>by
    unfold bw gv
    have k:x.toNat < ns.length:=by lia
    rw [List.getElem?_map,List.getElem?_eq_getElem k,List.getD_eq_getElem?_getD,List.getElem?_eq_getElem k]
    rfl
  simp only [lV,List.length_map,Bool.and_eq_true,beq_iff_eq]
  refine⟨nl,?_,?_⟩
  · rw [List.all_map,List.all_eq_true]
    intro y hy
    obtain⟨j,hj⟩:=List.getElem?_of_mem hy
    have jl:=(Mb hj).1
    have f:=fd (j:Int) (by lia) (by lia)
    unfold gv at f
    rw [Int.toNat_natCast,List.getD_eq_getElem?_getD,hj] at f
    have f:0≤y:=f
    have r:=(h.ok.rng y hy).2
    show(decide (0≤y)&&decide (y≤1))=true
    rw [decide_eq_true f,decide_eq_true r]
    rfl
  · rw [List.all_eq_true]
    intro t ht
    have o:=ok.ties t ht
    have:=o.o0;have:=o.o1;have:=o.o2
    rw [en t.one (by lia) (by lia),en t.other (by lia) (by lia)]
    have f1:=fd t.one (by lia) (by lia)
    have d:=h.dn t.one (by lia) (by lia) f1 t.other (i8.mpr ⟨t,ht,by lia⟩)
    simp only [Bool.not_eq_true',beq_eq_false_iff_ne]
    lia
theorem ua{W:aY}(ok:W.Ok):∃d:PyData,dY [.d (ay W)]=some (.d d,[.d (ay W)])∧((d=.none∧∀z,lV W z=false)∨∃ns:List Int,d=.tuple (ns.map .int)∧lV W (.tuple (ns.map .int))=true):=by
  have t12:=ok.t1
  have t00:=ok.t0
  have g0:=Ea (W:=W)
  obtain⟨t',hf⟩:=dU (cs:=[]) (ft:=bO) (fe:=fv) (b:=fun _=>true) (y:=fun _=>.int (-1)) (aM 0 W.things.toNat) none [] (fun x hx=>rfl) (fun x hx _=>by simp? [fv]) (by rw [bc];simp;lia)
  have hi:iu [some (.d (ay W)),none,none,none,none,none]=some (aM 0 W.things.toNat,[],[some (.d (ay W)),none,none,none,none,none]):=bi (n:=W.things) (by simp? [g0]) (by lia) (by lia)
  have hv:=bC (cp:=[]) (nT:=1) (fi:=iu) (g:=ag 0) (ft:=bO) (fe:=fv) (e:=[some (.d (ay W)),none,none,none,none,none]) (cs:=[]) (t:=[none]) (t':=[t']) hi rfl rfl hf
  have e1:([]++((aM 0 W.things.toNat).filter fun _=>true).map fun _=>PyData.int (-1))=(List.replicate W.things.toNat (-1:Int)).map .int:=by
    rw [List.nil_append,List.filter_eq_self.mpr (fun _ _=>rfl),List.map_const',bc,List.map_replicate]
  rw [e1] at hv
  have n0:Gv W (List.replicate W.things.toNat (-1)) 0:=⟨⟨by rw [List.length_replicate];lia,fun x hx=>by have:=(List.mem_replicate.mp hx).2;lia⟩,fun x x0 x1 hx=>by
    unfold gv at hx
    rw [List.getD_eq_getElem?_getD,List.getElem?_replicate,if_pos (by lia)] at hx
    exact absurd hx (by decide),fun x x0 x1=>by lia⟩
  have loop:=nV (own:=[]) (g:=ag 2) (f:=cO) (Z:=.d .none) (ZI W) (ZQ W) (aM 0 W.things.toNat) 0 [some (.d (ay W)),some (.l ((List.replicate W.things.toNat (-1:Int)).map .int)),none,none,none,none] (fun i x e hx hI=>by
    obtain⟨rfl,hi⟩:=bx hx
    rw [Nat.zero_add] at hI ⊢
    obtain⟨k,hk⟩:∃k:Int,k=0+(i:Int):=⟨_,rfl⟩
    rw [←hk]
    obtain⟨hN⟩:=hI
    rename_i ns v2 v3 v4 v5
    have nl:=hN.ok.len
    have a1:=fF (ns:=ns) (k:=k) (by lia) (by lia)
    have r1:=hN.ok.at (i:=k) (by lia) (by lia)
    have hix:xV ns.length k=some k.toNat:=by unfold xV;rw [if_pos (by lia),if_pos (by lia)]
    refine⟨[some (.d (ay W)),some (.l (ns.map .int)),some (.d (.int k)),v3,v4,v5],rfl,?_⟩
    by_cases c:ns.getD k.toNat 0 < 0
    · have ws0:=Aw ok hN (k:=k) (by lia) (by lia) c
      have hk0:0≤gv (ns.set k.toNat 0) k:=(ws0.wt k (by simp)).2.2.1
      have wh:=vf (ft:=dG) (f:=bX) (Z:=.d .none) (ZK W (fun x=>0≤x∧x < W.things∧0≤gv ns x) (some (.d (.int k))) k) (ZQ W) zM (fun e hK=>by
        obtain⟨hW,hs⟩:=hK
        rename_i ns ws v4 v5
        rcases List.eq_nil_or_concat ws with rfl | ⟨ws',w,rfl⟩
        · exact .inl vg
        · right
          rw [List.concat_eq_append] at hW ⊢
          refine⟨by rw [vg,show(!(ws'++[w]).isEmpty)=true by cases ws'<;>rfl],?_⟩
          rcases Gf ok (v2:=some (.d (.int k))) (v4:=v4) (v5:=v5) hW hs (by lia) with ⟨e2,ns2,ws2,u5,h2,rfl,hW2,hs2,hm⟩ | ⟨e2,h2,hQ⟩
          · refine .inl ⟨_,h2,.mk hW2 hs2,?_⟩
            rw [AQ,AQ]
            simp;lia
          · exact .inr ⟨e2,h2,hQ⟩) (2 ^ 4200) (zE W (ns.set k.toNat 0) (some (.d (.int k))) [k] v4 v5) (.mk ws0 hk0) (by
        rw [AQ]
        have:=ws0.wl
        exact Nat.lt_of_le_of_lt this (by decide))
      have eN:∀R,fY (2 ^ 4200) dG bX (zE W (ns.set k.toNat 0) (some (.d (.int k))) [k] v4 v5)=R→cO [some (.d (ay W)),some (.l (ns.map .int)),some (.d (.int k)),v3,v4,v5]=R:=fun R hR=>by
        rw [←hR]
        simp only [zE,List.map_set]
        generalize ns.getD k.toNat 0=y1 at*
        simp? [cO,a1,c,xw,kO,hix]
      rcases wh with ⟨e',h3,hK,hz⟩ | ⟨e',h3,hQ⟩
      · obtain⟨hW,hs⟩:=hK
        rename_i ns' ws' u4 u5
        rw [vg] at hz
        have hw0:ws'=[]:=by
          cases ws' with
          | nil=>rfl
          | cons a r=>simp at hz
        subst hw0
        refine .inl ⟨_,eN _ h3,be,.mk ⟨hW.ok,hW.same,fun x x0 x1=>?_⟩⟩
        by_cases e:x=k
        · rw [e];exact hs
        · exact hW.sub x ⟨x0,by lia,hN.fd x x0 (by lia)⟩
      · exact .inr ⟨_,eN _ h3,hQ⟩
    · have c':¬gv ns k < 0:=c
      refine .inl ⟨_,?_,be,ZI.mk (v2:=some (.d (.int k))) (v3:=v3) (v4:=v4) (v5:=v5) ⟨hN.ok,hN.dn,fun x x0 x1=>by
        by_cases e:x=k
        · rw [e];lia
        · exact hN.fd x x0 (by lia)⟩⟩
      generalize ns.getD k.toNat 0=y1 at*
      simp? [cO,a1,c]) (.mk n0)
  have hi5:kd [some (.d (ay W)),some (.l ((List.replicate W.things.toNat (-1:Int)).map .int)),none,none,none,none]=some (aM 0 W.things.toNat,[],[some (.d (ay W)),some (.l ((List.replicate W.things.toNat (-1:Int)).map .int)),none,none,none,none]):=bi (n:=W.things) (by simp? [g0]) (by lia) (by lia)
  have hg:=fun Wl=>c_ (W:=Wl) (g:=ag 2) (f:=cO) hi5
  generalize (List.replicate W.things.toNat (-1:Int)).map PyData.int=RR at*
  rcases loop with ⟨e',h3,hI⟩ | ⟨e',h3,hQ⟩
  · obtain⟨hN⟩:=hI
    rename_i ns v2 v3 v4 v5
    rw [h3] at hg
    rw [Nat.zero_add,bc] at hN
    refine⟨.tuple (ns.map .int),?_,.inr ⟨ns,rfl,hN.sides ok⟩⟩
    simp? [dY,jo,hv,hg]
  · obtain⟨hno⟩:=hQ
    rw [h3] at hg
    refine⟨.none,?_,.inl ⟨rfl,fun z=>?_⟩⟩
    rotate_left
    · cases c:lV W z with
      | false=>rfl
      | true=>
        obtain⟨col,hc⟩:=Ct ok c
        exact(hno col hc).elim
    simp? [dY,jo,hv,hg]
theorem AD{d:PyData}{n dep:Nat}(hz:Sz n dep d)(h1:n≤16777216)(h2:dep≤60):kx [.d d,.d d]=some (.d (.bool true),[.d d,.d d]):=by
  have r:∀e,g1 mM e [.d d]=some (.d (.str d.shown)):=fun e=>Bq (hz.ok h1 h2)
  have q:∀e,bK false e (.d (.str d.shown)) (.d (.str d.shown))=some (.d (.bool true)):=fun e=>Bo hz.so
  simp? [kx,x9,r,q]
theorem qW{k:Str}{R:List Int}(hk:PyData.strOk k=true)(kl:k.length≤5)(hl:R.length≤1000)(hr:∀r∈R,0≤r∧r < 16):kx [.d (.tuple [.str k,.tuple (R.map .int)]),.d (.tuple [.str k,.tuple (R.map .int)])]=some (.d (.bool true),[.d (.tuple [.str k,.tuple (R.map .int)]),.d (.tuple [.str k,.tuple (R.map .int)])]):=by
  refine AD (Sz.tup (n:=4003) (dep:=4) (m:=2) (fun d hd=>?_) (by simp)) (by decide) (by decide)
  simp only [List.mem_cons,List.not_mem_nil,or_false] at hd
  rcases hd with rfl | rfl
  · exact(Sz.str hk kl).mono (by decide) (by decide)
  · exact(Sz.ints (m:=1000) hl hr).mono (by decide) (by decide)
theorem tW{W:aY}(ok:W.Ok){R:List Int}(h:lV W (.tuple (R.map .int))=true):R.length≤12∧(R.length:Int)=W.things∧∀r∈R,0≤r∧r < 16:=by
  simp only [lV,Bool.and_eq_true,beq_iff_eq,List.length_map] at h
  have t1:=ok.t1
  refine⟨by lia,h.1,fun r hr=>?_⟩
  have z:=List.all_eq_true.mp h.2.1 (.int r) (List.mem_map.mpr ⟨r,hr,rfl⟩)
  simp only [aS,Bool.and_eq_true,decide_eq_true_eq] at z
  lia
theorem tL{W:aY}(ok:W.Ok){R:List Int}(h:rV W (.tuple (R.map .int))=true):3≤R.length∧∀r∈R,0≤r∧r < W.things:=by
  have c3:¬(R.map PyData.int).length < 3:=fun c=>by rw [wa c] at h;cases h
  have cu:ww W.things (.tuple (R.map .int))=true:=by
    cases c:ww W.things (.tuple (R.map .int)) with
    | true=>rfl
    | false=>rw [tK c] at h;cases h
  have ci:(R.map PyData.int).all (aS 0 (W.things - 1))=true:=iQ (show iP W.things [] _=true from cu)
  rw [List.length_map] at c3
  refine⟨by lia,fun r hr=>?_⟩
  have z:=List.all_eq_true.mp ci (.int r) (List.mem_map.mpr ⟨r,hr,rfl⟩)
  simp only [aS,Bool.and_eq_true,decide_eq_true_eq] at z
  lia
def Ge:aY:=⟨0,[],[],0⟩
theorem rT:Ge.Ok:=⟨by decide,by decide,fun t h=>(by cases h),by decide,rfl,fun q h=>(by cases h),by decide,by decide⟩
inductive LI (ns:List Int):En→Prop
  | mk {ds v2 v3 v4} (hd:iU ds):LI ns [some (.d (.list (ns.map .int))),some (.l (ds.map .int)),v2,v3,v4]
theorem yZ(ns:List Int)(hl:ns.length≤63):∃as',om [.d (.list (ns.map .int))]=some (.d (.bool true),as'):=by
  obtain⟨ds,td,hd⟩:=CB ns hl
  have bT:∀e:En,jx e (.d (.bool true)) (.d (.bool true))=some (.d (.bool false)):=fun e=>rfl
  have iN:∀e:En,GN e (.d .none) (.d .none)=some (.d (.bool true)):=fun e=>rfl
  have iT:∀(e:En) (xs:List PyData),GN e (.d (.tuple xs)) (.d .none)=some (.d (.bool false)):=fun e xs=>rfl
  have yT:∀(e:En) (xs:List PyData),gL "tuple" e (.d (.tuple xs))=some (.d (.bool true)):=fun e xs=>rfl
  have yS:∀(e:En) (s:Str),gL "str" e (.d (.str s))=some (.d (.bool true)):=fun e s=>rfl
  have sk:PyData.strOk ("sides":Str)=true:=by decide+kernel
  have rk:PyData.strOk ("ring":Str)=true:=by decide+kernel
  obtain⟨e2,h1,hI⟩:=cK (own:=[]) (g:=ag 2) (f:=GE) (fun _=>LI ns) (aM 0 (4+min 10 (2*(ns.length:Int))).toNat) 0 [some (.d (.list (ns.map .int))),some (.l (ds.map .int)),none,none,none] (fun i x e hx hI=>by
    obtain⟨hd⟩:=hI
    rename_i ds v2 v3 v4
    obtain⟨W,d1,tw,hd1,ok⟩:=uX ds 12 16 hd (by decide) (by decide) (by decide) (by decide)
    have t1:=ok.t1
    obtain⟨k,R,ts,hc⟩:=qf ok
    obtain⟨dd,tt,hc2⟩:=ua ok
    refine⟨[some (.d (.list (ns.map .int))),some (.l (ds.map .int)),some (.d x),v3,v4],[some (.d (.list (ns.map .int))),some (.l (d1.map .int)),some (.d x),some (.d (ay W)),some (.d (.tuple [.str k,.tuple (R.map .int)]))],rfl,?_,be,.mk hd1⟩
    rcases hc with ⟨rfl,hsd⟩ | ⟨rfl,hrg,hlR⟩
    · obtain⟨l1,l2,l3⟩:=tW ok hsd
      obtain⟨cs,rfl⟩:∃cs,dd=.tuple cs:=by
        rcases hc2 with ⟨_,q⟩ | ⟨cs,rfl,_⟩
        · rw [q] at hsd;cases hsd
        · exact⟨_,rfl⟩
      have tsd:=CF ok (.tuple (R.map .int))
      have tas:=t_ ok (.tuple (R.map .int))
      rw [hsd] at tsd tas
      have sm:=qW (k:="sides") (R:=R) sk (by decide) (by lia) l3
      have gq:∀e:En,bK true e (.d (.str "sides")) (.d (.str "sides"))=some (.d (.bool false)):=fun e=>sE sk
      generalize R.map PyData.int=RR at*
      generalize ay W=WW at*
      simp? [GE,tw,ts,tt,yT,yS,iT,tsd,tas,sm,gq,bT,pP,lX,nK]
    · obtain⟨l1,l3⟩:=tL ok hrg
      have hN:dd=.none:=by
        rcases hc2 with ⟨q,_⟩ | ⟨cs,rfl,q⟩
        · exact q
        · exact(xA ok q hrg).elim
      subst hN
      have sh:∀es,PyData.tuple (R.map .int)=.tuple es→es.length≤1000:=fun es e=>by cases e;rw [List.length_map];exact hlR
      have tsd:=FZ ok (.tuple (R.map .int)) sh
      have tas:=xF ok (.tuple (R.map .int)) sh
      rw [hrg] at tsd tas
      have sm:=qW (k:="ring") (R:=R) rk (by decide) hlR (fun r hr=>by have:=l3 r hr;lia)
      have gq:∀e:En,bK true e (.d (.str "ring")) (.d (.str "ring"))=some (.d (.bool false)):=fun e=>sE rk
      generalize R.map PyData.int=RR at*
      generalize ay W=WW at*
      simp? [GE,tw,ts,tt,yT,yS,iN,tsd,tas,sm,gq,bT,pP,lX,nK]) (.mk hd)
  obtain⟨hd2⟩:=hI
  rename_i ds2 v2 v3 v4
  have gm2:∀e:En,jy e (.d (.int 2)) (.d (.int (ns.length:Int)))=some (.d (.int (2*(ns.length:Int)))):=fun e=>k_ (uI (by decide) (by decide))
  have hi:Jp [some (.d (.list (ns.map .int))),some (.l (ds.map .int)),none,none,none]=some (aM 0 (4+min 10 (2*(ns.length:Int))).toNat,[],[some (.d (.list (ns.map .int))),some (.l (ds.map .int)),none,none,none]):=bi (n:=4+min 10 (2*(ns.length:Int))) (by
    have ll:((ns.map PyData.int).length:Int)=(ns.length:Int):=by rw [List.length_map]
    rw [←ll] at gm2 ⊢
    generalize ns.map PyData.int=NN at*
    simp? [gm2]) (by lia) (by lia)
  have hfor:=fun Wl=>c_ (W:=Wl) (g:=ag 2) (f:=GE) hi
  rw [h1] at hfor
  obtain⟨k,R,ts,hc⟩:=qf rT
  have hR:k="sides"∧R=[]:=by
    rcases hc with ⟨rfl,hsd⟩ | ⟨rfl,hrg,hlR⟩
    · obtain⟨l1,l2,l3⟩:=tW rT hsd
      have l2:(R.length:Int)=0:=l2
      exact⟨rfl,List.length_eq_zero_iff.mp (by lia)⟩
    · obtain⟨l1,l3⟩:=tL rT hrg
      cases R with
      | nil=>simp at l1
      | cons a r=>
        have:=l3 a (by simp)
        have e0:Ge.things=0:=rfl
        lia
  obtain⟨rfl,rfl⟩:=hR
  have sm:=qW (k:="sides") (R:=[]) sk (by decide) (by simp) (fun r hr=>by cases hr)
  have ew:ay Ge=.tuple [.int 0,.tuple [],.tuple [],.int 0]:=rfl
  rw [ew] at ts
  rw [List.map_nil] at ts sm
  simp? [om,CY,td,hfor,ts,sm]
def kE(P:Params)(k:Str)(t:Tok)(v:Value):DictEntry:=⟨PyData.keyHash P k,.str k t,v⟩
def kF(n:Str)(s:Stmt)(doc pm:Value)(c:Addr):Obj:=⟨.type "function",none,.func (W.fnOf n n (eI s) (dt s) (am s) .none .none doc pm none (.ref c) .none),#[]⟩
def kI(n:Int):Value:=.int n 0
def kC(n:Str)(a:Nat)(l:List Value)(z:Nat):Obj:=⟨.type "code",none,.fields (Value.str n a::Value.str n (a+1)::Value.str "/claim/cut.py" (a+2)::l++[Value.str "/claim/cut.py" z]).toArray,#[]⟩
def AX:Value:=.str "askedpairs.sides" 187
def Dg:Value:=.str "askedpairs.forms" 222
def Gm:Value:=.str "askedpairs.sidepaper" 254
def i5:Value:=.str "law_askedpairs_k63_sides_told" 276
def kK(P:Params):W.Frag:=[(3,⟨.type "dict",none,.dict (List.toArray [kE P "__name__" 165 (.str "law_askedpairs_k63_sides_told" 276),kE P "__doc__" 166 (.none),kE P "__package__" 167 (.none),kE P "__loader__" 168 (.builtin "__main__.__loader__#opaque"),kE P "__spec__" 169 (.none),kE P "__annotations__" 170 (.ref 6),kE P "__builtins__" 171 (.ref 4),kE P "__file__" 173 (.str "/claim/cut.py" 172),kE P "__cached__" 174 (.none),kE P "things_tied_to" 194 (.ref 19),kE P "walked_from" 200 (.ref 24),kE P "way_back" 209 (.ref 31),kE P "ring_of" 215 (.ref 36),kE P "sides" 221 (.ref 41),kE P "is_number" 230 (.ref 48),kE P "is_number_within" 239 (.ref 55),kE P "is_row_of" 247 (.ref 62),kE P "is_unlike_row" 253 (.ref 67),kE P "LEAST_OF_RING" 257 (.int (3) 256),kE P "sides_hold" 263 (.ref 72),kE P "are_tied" 269 (.ref 77),kE P "ring_holds" 275 (.ref 82),kE P "_law_mixed" 286 (.ref 89),kE P "_law_draws" 297 (.ref 96),kE P "_law_next" 304 (.ref 103),kE P "_law_gcd" 312 (.ref 110),kE P "_law_low" 321 (.ref 117),kE P "_law_same" 329 (.ref 124),kE P "_law_chance" 338 (.ref 131),kE P "_law_worth" 346 (.ref 138),kE P "_law_ties" 365 (.ref 145),kE P "_law_web" 381 (.ref 152),kE P "_law_two_sided" 387 (.ref 157),kE P "_law_mates" 400 (.ref 164),kE P "_law_are_sides" 406 (.ref 169),kE P "_law_is_ring" 412 (.ref 174),kE P "_law_across" 429 (.ref 181),kE P "_law_renamed" 446 (.ref 188),kE P "_law_round" 459 (.ref 195),kE P "_law_side_web" 472 (.ref 202),kE P "law" 483 (.ref 209)]) 41,#[]⟩),
  (19,kF "things_tied_to" bH (.none) AX 18),
  (18,kC "things_tied_to" 189 [kI 2,kI 2,kI 0,kI 0,kI 3,.ref 15,.bool true,kI 181,.ref 16,.none,.none,.none,.ref 17,kI 192,kI 2] 193),
  (24,kF "walked_from" cT (.none) AX 23),
  (23,kC "walked_from" 195 [kI 4,kI 1,kI 0,kI 0,kI 3,.ref 20,.bool true,kI 181,.ref 21,.none,.none,.none,.ref 22,kI 198,kI 4] 199),
  (31,kF "way_back" gW (.none) AX 30),
  (30,kC "way_back" 201 [kI 14,kI 2,kI 0,kI 0,kI 3,.ref 25,.bool true,kI 181,.ref 26,.none,.ref 27,.ref 28,.ref 29,kI 207,kI 14] 208),
  (36,kF "ring_of" gG (.none) AX 35),
  (35,kC "ring_of" 210 [kI 20,kI 2,kI 0,kI 0,kI 3,.ref 32,.bool true,kI 181,.ref 33,.none,.none,.none,.ref 34,kI 213,kI 20] 214),
  (41,kF "sides" jb (.none) AX 40),
  (40,kC "sides" 216 [kI 23,kI 1,kI 0,kI 0,kI 3,.ref 37,.bool true,kI 181,.ref 38,.none,.none,.none,.ref 39,kI 219,kI 23] 220),
  (48,kF "is_number" fR (.none) Dg 47),
  (47,kC "is_number" 224 [kI 32,kI 1,kI 0,kI 0,kI 3,.ref 42,.bool true,kI 181,.ref 43,.none,.ref 44,.ref 45,.ref 46,kI 228,kI 32] 229),
  (55,kF "is_number_within" bj (.none) Dg 54),
  (54,kC "is_number_within" 231 [kI 34,kI 3,kI 0,kI 0,kI 3,.ref 49,.bool true,kI 181,.ref 50,.none,.ref 51,.ref 52,.ref 53,kI 237,kI 34] 238),
  (62,kF "is_row_of" fU (.none) Dg 61),
  (61,kC "is_row_of" 240 [kI 36,kI 2,kI 0,kI 0,kI 3,.ref 56,.bool true,kI 181,.ref 57,.none,.ref 58,.ref 59,.ref 60,kI 245,kI 36] 246),
  (67,kF "is_unlike_row" bQ (.none) Dg 66),
  (66,kC "is_unlike_row" 248 [kI 38,kI 2,kI 0,kI 0,kI 3,.ref 63,.bool true,kI 181,.ref 64,.none,.none,.none,.ref 65,kI 251,kI 38] 252),
  (72,kF "sides_hold" cF (.none) Gm 71),
  (71,kC "sides_hold" 258 [kI 44,kI 2,kI 0,kI 0,kI 3,.ref 68,.bool true,kI 181,.ref 69,.none,.none,.none,.ref 70,kI 261,kI 44] 262),
  (77,kF "are_tied" eZ (.none) Gm 76),
  (76,kC "are_tied" 264 [kI 48,kI 3,kI 0,kI 0,kI 3,.ref 73,.bool true,kI 181,.ref 74,.none,.none,.none,.ref 75,kI 267,kI 48] 268),
  (82,kF "ring_holds" dw (.none) Gm 81),
  (81,kC "ring_holds" 270 [kI 50,kI 2,kI 0,kI 0,kI 3,.ref 78,.bool true,kI 181,.ref 79,.none,.none,.none,.ref 80,kI 273,kI 50] 274),
  (89,kF "_law_mixed" lI (.none) i5 88),
  (88,kC "_law_mixed" 278 [kI 55,kI 2,kI 0,kI 0,kI 3,.ref 83,.bool true,kI 181,.ref 84,.none,.ref 85,.ref 86,.ref 87,kI 284,kI 55] 285),
  (96,kF "_law_draws" lH (.none) i5 95),
  (95,kC "_law_draws" 287 [kI 58,kI 1,kI 0,kI 0,kI 3,.ref 90,.bool true,kI 181,.ref 91,.none,.ref 92,.ref 93,.ref 94,kI 295,kI 58] 296),
  (103,kF "_law_next" iz (.none) i5 102),
  (102,kC "_law_next" 298 [kI 71,kI 1,kI 0,kI 0,kI 3,.ref 97,.bool true,kI 181,.ref 98,.none,.ref 99,.ref 100,.ref 101,kI 302,kI 71] 303),
  (110,kF "_law_gcd" tM (.none) i5 109),
  (109,kC "_law_gcd" 305 [kI 75,kI 2,kI 0,kI 0,kI 3,.ref 104,.bool true,kI 181,.ref 105,.none,.ref 106,.ref 107,.ref 108,kI 310,kI 75] 311),
  (117,kF "_law_low" tO (.none) i5 116),
  (116,kC "_law_low" 313 [kI 79,kI 2,kI 0,kI 0,kI 3,.ref 111,.bool true,kI 181,.ref 112,.none,.ref 113,.ref 114,.ref 115,kI 319,kI 79] 320),
  (124,kF "_law_same" oH (.none) i5 123),
  (123,kC "_law_same" 322 [kI 82,kI 2,kI 0,kI 0,kI 3,.ref 118,.bool true,kI 181,.ref 119,.none,.ref 120,.ref 121,.ref 122,kI 327,kI 82] 328),
  (131,kF "_law_chance" gS (.none) i5 130),
  (130,kC "_law_chance" 330 [kI 84,kI 2,kI 0,kI 0,kI 3,.ref 125,.bool true,kI 181,.ref 126,.none,.ref 127,.ref 128,.ref 129,kI 336,kI 84] 337),
  (138,kF "_law_worth" i_ (.none) i5 137),
  (137,kC "_law_worth" 339 [kI 94,kI 2,kI 0,kI 0,kI 3,.ref 132,.bool true,kI 181,.ref 133,.none,.ref 134,.ref 135,.ref 136,kI 344,kI 94] 345),
  (145,kF "_law_ties" mx (.none) i5 144),
  (144,kC "_law_ties" 347 [kI 96,kI 3,kI 0,kI 0,kI 3,.ref 139,.bool true,kI 181,.ref 140,.none,.ref 141,.ref 142,.ref 143,kI 363,kI 96] 364),
  (152,kF "_law_web" tP (.none) i5 151),
  (151,kC "_law_web" 366 [kI 111,kI 3,kI 0,kI 0,kI 3,.ref 146,.bool true,kI 181,.ref 147,.none,.ref 148,.ref 149,.ref 150,kI 379,kI 111] 380),
  (157,kF "_law_two_sided" ef (.none) i5 156),
  (156,kC "_law_two_sided" 382 [kI 121,kI 1,kI 0,kI 0,kI 3,.ref 153,.bool true,kI 181,.ref 154,.none,.none,.none,.ref 155,kI 385,kI 121] 386),
  (164,kF "_law_mates" j8 (.none) i5 163),
  (163,kC "_law_mates" 388 [kI 136,kI 2,kI 0,kI 0,kI 3,.ref 158,.bool true,kI 181,.ref 159,.none,.ref 160,.ref 161,.ref 162,kI 398,kI 136] 399),
  (169,kF "_law_are_sides" dr (.none) i5 168),
  (168,kC "_law_are_sides" 401 [kI 144,kI 2,kI 0,kI 0,kI 3,.ref 165,.bool true,kI 181,.ref 166,.none,.none,.none,.ref 167,kI 404,kI 144] 405),
  (174,kF "_law_is_ring" d_ (.none) i5 173),
  (173,kC "_law_is_ring" 407 [kI 150,kI 2,kI 0,kI 0,kI 3,.ref 170,.bool true,kI 181,.ref 171,.none,.none,.none,.ref 172,kI 410,kI 150] 411),
  (181,kF "_law_across" jL (.none) i5 180),
  (180,kC "_law_across" 413 [kI 158,kI 3,kI 0,kI 0,kI 3,.ref 175,.bool true,kI 181,.ref 176,.none,.ref 177,.ref 178,.ref 179,kI 427,kI 158] 428),
  (188,kF "_law_renamed" gF (.none) i5 187),
  (187,kC "_law_renamed" 430 [kI 169,kI 3,kI 0,kI 0,kI 3,.ref 182,.bool true,kI 181,.ref 183,.none,.ref 184,.ref 185,.ref 186,kI 444,kI 169] 445),
  (195,kF "_law_round" lJ (.none) i5 194),
  (194,kC "_law_round" 447 [kI 178,kI 3,kI 0,kI 0,kI 3,.ref 189,.bool true,kI 181,.ref 190,.none,.ref 191,.ref 192,.ref 193,kI 457,kI 178] 458),
  (202,kF "_law_side_web" gU (.none) i5 201),
  (201,kC "_law_side_web" 460 [kI 185,kI 3,kI 0,kI 0,kI 3,.ref 196,.bool true,kI 181,.ref 197,.none,.ref 198,.ref 199,.ref 200,kI 470,kI 185] 471),
  (209,kF "law" oI (.none) i5 208),
  (208,kC "law" 473 [kI 199,kI 1,kI 0,kI 0,kI 3,.ref 203,.bool true,kI 181,.ref 204,.none,.ref 205,.ref 206,.ref 207,kI 481,kI 199] 482)]
def kA:List Addr:=[3,19,18,24,23,31,30,36,35,41,40,48,47,55,54,62,61,67,66,72,71,77,76,82,81,89,88,96,95,103,102,110,109,117,116,124,123,131,130,138,137,145,144,152,151,157,156,164,163,169,168,174,173,181,180,188,187,195,194,202,201,209,208]
def kq:Program:={PySem.Challenge.pw_askedpairs_k63_sides_told with main:={PySem.Challenge.pw_askedpairs_k63_sides_told.main with body:=[top 1,top 2,top 3,top 4,top 5,top 7,top 8,top 9,top 10,top 12,top 13,top 14,top 15,top 17,top 18,top 19,top 20,top 21,top 22,top 23,top 24,top 25,top 26,top 27,top 28,top 29,top 30,top 31,top 32,top 33,top 34,top 35]}}
def kH:W.Hook:=W.kHook kK kA (fun _=>by kernel_rfl)
theorem left:W.LeftO PySem.Challenge.pw_askedpairs_k63_sides_told kq [] (fun s=>W.xlAt kq [] s&&W.recOk (W.RowW.records (W.OpenRow.toRowW (W.OpenLaw.row PySem.Challenge.rw_askedpairs_k63_sides_told))) s) (W.Hook.obs kH) (W.Hook.val kH) 2110:=fun w=>by kernel_rfl
theorem Eo{P:List Value→Prop}(h:∀a0,P [a0]):∀us:List Value,us.length=1→P us:=fun us e=>match us,e with | [a0],_=>h a0
theorem uk{P:List Value→Prop}(h:∀a0 a1,P [a0,a1]):∀us:List Value,us.length=2→P us:=fun us e=>match us,e with | [a0,a1],_=>h a0 a1
theorem Dj{P:List Value→Prop}(h:∀a0 a1 a2,P [a0,a1,a2]):∀us:List Value,us.length=3→P us:=fun us e=>match us,e with | [a0,a1,a2],_=>h a0 a1 a2
theorem hm{w:World}{h:Heap}{mg:Str→Option Value}{n:Str}{s:Stmt}{a:Addr}{ps:List Str}(c:Addr)(d p:Value)(X:(kK w.params).In h)(G:h.Ns mainGlobals mg)
    (e:(W.nsIn (kK w.params) mainGlobals n,List.lookup a (kK w.params),W.codeIn (kK w.params) (.ref c) n,W.keepIn (kK w.params) (.ref a))=(some (some (.ref a)),some (kF n s d p c),true,true))
    (b:∀(kV doc pm:Value) (an:Option Addr) (cdv ct:Value) (us:List Value),us.length=ps.length→bindArgs (W.fnOf n n (eI s) (dt s) (am s) .none kV doc pm an cdv ct) ⟨us,[]⟩=pure (ps.zip us)):
    bg (kK w.params) mg n s a (W.fnOf n n (eI s) (dt s) (am s) .none .none d p none (.ref c) .none) ps:=Eb X G (congrArg (·.1) e) (congrArg (·.2.1) e) (congrArg (·.2.2.1) e) (congrArg (·.2.2.2) e) b
theorem all_mk{l:W.OpenLaw}{w:World}{h:Heap}{mg:Str→Option Value}{fa:Addr}(X:(kK w.params).In h)(G:h.Ns mainGlobals mg)(hfa:mg "law"=some (.ref fa)):
    ∃fd:FuncData,(∀(s:Shared) (v:Value),BindsTo s fd ⟨[v],[]⟩ [("_law_script",v)])∧∀base:Heap,(kK w.params).In base→base.Ns mainGlobals mg→aN l.prog w (kK w.params) mg base ce 7 fa fd ["_law_script"] (cq (kK w.params) 1 om):=by
  have e:=hfa.symm.trans (W.mg_of X G (show W.nsIn (kK w.params) mainGlobals "law"=some (some (.ref 209)) by kernel_rfl))
  cases e
  have T:ka mg:=⟨W.mg_none_of X G (show W.nsIn (kK w.params) mainGlobals "abs"=some none by kernel_rfl),W.mg_none_of X G (show W.nsIn (kK w.params) mainGlobals "len"=some none by kernel_rfl),W.mg_none_of X G (show W.nsIn (kK w.params) mainGlobals "min"=some none by kernel_rfl),W.mg_none_of X G (show W.nsIn (kK w.params) mainGlobals "max"=some none by kernel_rfl),W.mg_none_of X G (show W.nsIn (kK w.params) mainGlobals "range"=some none by kernel_rfl),W.mg_none_of X G (show W.nsIn (kK w.params) mainGlobals "repr"=some none by kernel_rfl),W.mg_none_of X G (show W.nsIn (kK w.params) mainGlobals "tuple"=some none by kernel_rfl),W.mg_none_of X G (show W.nsIn (kK w.params) mainGlobals "int"=some none by kernel_rfl),W.mg_none_of X G (show W.nsIn (kK w.params) mainGlobals "zip"=some none by kernel_rfl),W.mg_none_of X G (show W.nsIn (kK w.params) mainGlobals "isinstance"=some none by kernel_rfl),W.mg_none_of X G (show W.nsIn (kK w.params) mainGlobals "bool"=some none by kernel_rfl),W.mg_none_of X G (show W.nsIn (kK w.params) mainGlobals "set"=some none by kernel_rfl),W.mg_none_of X G (show W.nsIn (kK w.params) mainGlobals "any"=some none by kernel_rfl),W.mg_none_of X G (show W.nsIn (kK w.params) mainGlobals "all"=some none by kernel_rfl),W.mg_none_of X G (show W.nsIn (kK w.params) mainGlobals "list"=some none by kernel_rfl),W.mg_none_of X G (show W.nsIn (kK w.params) mainGlobals "str"=some none by kernel_rfl)⟩
  have Ka:bg (kK w.params) mg "things_tied_to" bH 19 _ ["web","thing"]:=hm 18 (.none) AX X G (by kernel_rfl) fun _ _ _ _ _ _=>uk fun _ _=>rfl
  have Kg:bg (kK w.params) mg "walked_from" cT 24 _ ["web"]:=hm 23 (.none) AX X G (by kernel_rfl) fun _ _ _ _ _ _=>Eo fun _=>rfl
  have KH:bg (kK w.params) mg "way_back" gW 31 _ ["before","thing"]:=hm 30 (.none) AX X G (by kernel_rfl) fun _ _ _ _ _ _=>uk fun _ _=>rfl
  have KS:bg (kK w.params) mg "ring_of" gG 36 _ ["way","other"]:=hm 35 (.none) AX X G (by kernel_rfl) fun _ _ _ _ _ _=>uk fun _ _=>rfl
  have K1:bg (kK w.params) mg "sides" jb 41 _ ["web"]:=hm 40 (.none) AX X G (by kernel_rfl) fun _ _ _ _ _ _=>Eo fun _=>rfl
  have Kr:bg (kK w.params) mg "is_number" fR 48 _ ["thing"]:=hm 47 (.none) Dg X G (by kernel_rfl) fun _ _ _ _ _ _=>Eo fun _=>rfl
  have J7:bg (kK w.params) mg "is_number_within" bj 55 _ ["thing","low","high"]:=hm 54 (.none) Dg X G (by kernel_rfl) fun _ _ _ _ _ _=>Dj fun _ _ _=>rfl
  have Ks:bg (kK w.params) mg "is_row_of" fU 62 _ ["thing","many"]:=hm 61 (.none) Dg X G (by kernel_rfl) fun _ _ _ _ _ _=>uk fun _ _=>rfl
  have Kb:bg (kK w.params) mg "is_unlike_row" bQ 67 _ ["thing","many"]:=hm 66 (.none) Dg X G (by kernel_rfl) fun _ _ _ _ _ _=>uk fun _ _=>rfl
  have Kn:bg (kK w.params) mg "sides_hold" cF 72 _ ["web","thing"]:=hm 71 (.none) Gm X G (by kernel_rfl) fun _ _ _ _ _ _=>uk fun _ _=>rfl
  have KI:bg (kK w.params) mg "are_tied" eZ 77 _ ["web","one","other"]:=hm 76 (.none) Gm X G (by kernel_rfl) fun _ _ _ _ _ _=>Dj fun _ _ _=>rfl
  have Km:bg (kK w.params) mg "ring_holds" dw 82 _ ["web","thing"]:=hm 81 (.none) Gm X G (by kernel_rfl) fun _ _ _ _ _ _=>uk fun _ _=>rfl
  have Lb:bg (kK w.params) mg "_law_mixed" lI 89 _ ["_law_cell","_law_k"]:=hm 88 (.none) i5 X G (by kernel_rfl) fun _ _ _ _ _ _=>uk fun _ _=>rfl
  have Lv:bg (kK w.params) mg "_law_draws" lH 96 _ ["_law_script"]:=hm 95 (.none) i5 X G (by kernel_rfl) fun _ _ _ _ _ _=>Eo fun _=>rfl
  have J6:bg (kK w.params) mg "_law_next" iz 103 _ ["_law_drawn"]:=hm 102 (.none) i5 X G (by kernel_rfl) fun _ _ _ _ _ _=>Eo fun _=>rfl
  have LV:bg (kK w.params) mg "_law_gcd" tM 110 _ ["_law_one","_law_other"]:=hm 109 (.none) i5 X G (by kernel_rfl) fun _ _ _ _ _ _=>uk fun _ _=>rfl
  have LN:bg (kK w.params) mg "_law_low" tO 117 _ ["_law_top","_law_bottom"]:=hm 116 (.none) i5 X G (by kernel_rfl) fun _ _ _ _ _ _=>uk fun _ _=>rfl
  have LA:bg (kK w.params) mg "_law_same" oH 124 _ ["_law_found","_law_due"]:=hm 123 (.none) i5 X G (by kernel_rfl) fun _ _ _ _ _ _=>uk fun _ _=>rfl
  have Kc:bg (kK w.params) mg "_law_chance" gS 131 _ ["_law_number","_law_kind"]:=hm 130 (.none) i5 X G (by kernel_rfl) fun _ _ _ _ _ _=>uk fun _ _=>rfl
  have Ko:bg (kK w.params) mg "_law_worth" i_ 138 _ ["_law_number","_law_kind"]:=hm 137 (.none) i5 X G (by kernel_rfl) fun _ _ _ _ _ _=>uk fun _ _=>rfl
  have K2:bg (kK w.params) mg "_law_ties" mx 145 _ ["_law_drawn","_law_things","_law_many"]:=hm 144 (.none) i5 X G (by kernel_rfl) fun _ _ _ _ _ _=>Dj fun _ _ _=>rfl
  have LX:bg (kK w.params) mg "_law_web" tP 152 _ ["_law_drawn","_law_most","_law_ties_here"]:=hm 151 (.none) i5 X G (by kernel_rfl) fun _ _ _ _ _ _=>Dj fun _ _ _=>rfl
  have Ku:bg (kK w.params) mg "_law_two_sided" ef 157 _ ["_law_web_here"]:=hm 156 (.none) i5 X G (by kernel_rfl) fun _ _ _ _ _ _=>Eo fun _=>rfl
  have KN:bg (kK w.params) mg "_law_mates" j8 164 _ ["_law_web_here","_law_thing"]:=hm 163 (.none) i5 X G (by kernel_rfl) fun _ _ _ _ _ _=>uk fun _ _=>rfl
  have Kv:bg (kK w.params) mg "_law_are_sides" dr 169 _ ["_law_web_here","_law_thing"]:=hm 168 (.none) i5 X G (by kernel_rfl) fun _ _ _ _ _ _=>uk fun _ _=>rfl
  have KU:bg (kK w.params) mg "_law_is_ring" d_ 174 _ ["_law_web_here","_law_thing"]:=hm 173 (.none) i5 X G (by kernel_rfl) fun _ _ _ _ _ _=>uk fun _ _=>rfl
  have K7:bg (kK w.params) mg "_law_across" jL 181 _ ["_law_numbers","_law_things","_law_many"]:=hm 180 (.none) i5 X G (by kernel_rfl) fun _ _ _ _ _ _=>Dj fun _ _ _=>rfl
  have Kj:bg (kK w.params) mg "_law_renamed" gF 188 _ ["_law_numbers","_law_things","_law_ties_here"]:=hm 187 (.none) i5 X G (by kernel_rfl) fun _ _ _ _ _ _=>Dj fun _ _ _=>rfl
  have Lu:bg (kK w.params) mg "_law_round" lJ 195 _ ["_law_numbers","_law_things","_law_size"]:=hm 194 (.none) i5 X G (by kernel_rfl) fun _ _ _ _ _ _=>Dj fun _ _ _=>rfl
  have KJ:bg (kK w.params) mg "_law_side_web" gU 202 _ ["_law_numbers","_law_most","_law_many"]:=hm 201 (.none) i5 X G (by kernel_rfl) fun _ _ _ _ _ _=>Dj fun _ _ _=>rfl
  have L9:bg (kK w.params) mg "law" oI 209 _ ["_law_script"]:=hm 208 (.none) i5 X G (by kernel_rfl) fun _ _ _ _ _ _=>Eo fun _=>rfl
  have m_LEAST_OF_RING:=W.mg_of X G (show W.nsIn (kK w.params) mainGlobals "LEAST_OF_RING"=some (some (.int (3) 256)) by kernel_rfl)
  refine⟨W.fnOf "law" "law" (eI oI) (dt oI) (am oI) .none .none (.none) i5 none (.ref 208) .none,fun s v=>.of_eq rfl,fun base _ _=>?_⟩
  have Kf:=ls (P:=l.prog) (w:=w) (base:=base) Ka T
  have Kq:=oy (P:=l.prog) (w:=w) (base:=base) Kg T Ka Kf
  have KW:=tf (P:=l.prog) (w:=w) (base:=base) KH T
  have K8:=uL (P:=l.prog) (w:=w) (base:=base) KS T
  have Lf:=zu (P:=l.prog) (w:=w) (base:=base) K1 T Kg Kq KH KW KS K8
  have KL:=rl (P:=l.prog) (w:=w) (base:=base) Kr T
  have J9:=j' (P:=l.prog) (w:=w) (base:=base) J7 T Kr KL
  have KM:=rm (P:=l.prog) (w:=w) (base:=base) Ks T
  have Ki:=mi (P:=l.prog) (w:=w) (base:=base) Kb T J7 J9
  have KG:=pj (P:=l.prog) (w:=w) (base:=base) Kn T Ks KM J7 J9
  have KY:=s_ (P:=l.prog) (w:=w) (base:=base) KI T
  have KF:=ph (P:=l.prog) (w:=w) (base:=base) Km T Kb Ki KI KY m_LEAST_OF_RING
  have Lr:=zq (P:=l.prog) (w:=w) (base:=base) Lb T
  have LF:=zi (P:=l.prog) (w:=w) (base:=base) Lv T Lb Lr
  have J8:=BE (P:=l.prog) (w:=w) (base:=base) J6 T
  have L0:=Ew (P:=l.prog) (w:=w) (base:=base) LV T
  have LW:=Ex (P:=l.prog) (w:=w) (base:=base) LN T LV L0
  have LJ:=BF (P:=l.prog) (w:=w) (base:=base) LA T
  have Kh:=xh (P:=l.prog) (w:=w) (base:=base) Kc T LN LW
  have Kt:=zt (P:=l.prog) (w:=w) (base:=base) Ko T
  have Lc:=BG (P:=l.prog) (w:=w) (base:=base) K2 T J6 J8 Kc Kh Ko Kt
  have L1:=Ey (P:=l.prog) (w:=w) (base:=base) LX T K2 Lc J6 J8
  have KZ:=zo (P:=l.prog) (w:=w) (base:=base) KN T
  have KO:=rj (P:=l.prog) (w:=w) (base:=base) Ku T KN KZ
  have KP:=rh (P:=l.prog) (w:=w) (base:=base) Kv T
  have Li:=uJ (P:=l.prog) (w:=w) (base:=base) KU T KN KZ
  have Ls:=xg (P:=l.prog) (w:=w) (base:=base) K7 T J6 J8 Kc Kh Ko Kt
  have Kp:=uK (P:=l.prog) (w:=w) (base:=base) Kj T J6 J8
  have LD:=zr (P:=l.prog) (w:=w) (base:=base) Lu T Kj Kp J6 J8 Kc Kh Ko Kt
  have K0:=sZ (P:=l.prog) (w:=w) (base:=base) KJ T Kj Kp J6 J8 LX L1 K7 Ls Lu LD K2 Lc
  have L_:=Ez (P:=l.prog) (w:=w) (base:=base) L9 T Lv LF LA LJ KJ K0 K1 Lf Ku KO KU Li Km KF Kv KP Kn KG
  exact L_
def HC(K:W.Frag):Sp:=fun vs H Q _=>∃(a:Addr) (ns:List Int),vs=[.ref a]∧f9 K H a (ns.map V.int)∧ns.length≤63∧∀H',Q (.bl true) H'
theorem El{K:W.Frag}{vs:List V}{H:Hp}{Q:VK}{E:XK}(h:HC K vs H Q E):cq K 1 om vs H Q E:=by
  obtain⟨a,ns,rfl,hS,hl,q⟩:=h
  obtain⟨as',hm⟩:=yZ ns hl
  exact uV hS hm q
theorem walk{l:W.OpenLaw}{q:Program}{loose:List Str}{XP:(Str→Option Value)→Heap→Prop}{YP:World→Heap→Prop}{d:DefRec}{K:Params→W.Frag}(hn:l.most=some 63)(hdf:d.params.defaults=[])
    (hY:∀(w:World) (h:Heap),YP w h→(K w.params).In h)
    (F:∀(w:World) (mg:Str→Option Value) (fa:Addr) (h:Heap),(K w.params).In h→h.Ns mainGlobals mg→mg d.name=some (.ref fa)→
      ∃fd:FuncData,(∀(s:Shared) (u:Value),BindsTo s fd ⟨[u],[]⟩ [("_law_script",u)])∧∀base:Heap,(K w.params).In base→base.Ns mainGlobals mg→aN l.prog w (K w.params) mg base ce 7 fa fd ["_law_script"] (cq (K w.params) 1 om)):
    W.WalkO q loose XP YP l.row.toRowW d [] (fun f vs=>PySem.call f vs):=
  L2.walk_of (n:=63) (k:=7) (x:="_law_script") (CX:=fun _=>ce) (sp:=fun w=>cq (K w.params) 1 om) hn (by decide) hdf ⟨rfl,by decide,by decide,rfl⟩ hY F (fun _ _ a ns hl _ hS=>El ⟨a,ns,rfl,hS,hl,fun _=>rfl⟩) fun _ _ _ _ _ z=>z
end V63
open PySem PySem.W PyProof.Rows
set_option maxRecDepth 100000 in
set_option maxHeartbeats 0 in
theorem PySem.Challenge.cw_askedpairs_k63_sides_told_holds : PySem.Challenge.rw_askedpairs_k63_sides_told.Holds := by
  w_on;o_law
  refine holds_open (q:=V63.kq) (loose:=[]) (Xt:=fun s=>xlAt V63.kq [] s&&recOk (RowW.records (OpenRow.toRowW (OpenLaw.row PySem.Challenge.rw_askedpairs_k63_sides_told))) s) (XP:=XL V63.kq []) (Yf:=Hook.obs V63.kH) (Ya:=Hook.val V63.kH) (YP:=Hook.says V63.kH) (N:=2110) V63.left (Hook.of V63.kH) (Hook.keeps V63.kH) (fun s e=>xl_of s (Bool.and_eq_true_iff.mp e).1) XL.keeps (by rfl) (by rfl) (by rfl) (fun s e=>recFacts_of (Bool.and_eq_true_iff.mp e).2) (by rfl) (by assumption) (by decide+kernel) ⟨rfl,rfl,rfl,rfl,rfl,by decide+kernel⟩ ?hw ?hc
  case hw=>w_witness2
  case hc=>exact V63.walk (l:=PySem.Challenge.rw_askedpairs_k63_sides_told) rfl rfl (fun w h Y=>kIn_of Y) (fun w mg fa h KX G hmg=>V63.all_mk KX G hmg)
