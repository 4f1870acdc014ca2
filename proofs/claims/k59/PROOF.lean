import PyProof.Rows.All
import Wide.All
import OpenK.AllK
import Wide.FinOn
import Lean
import PyProof.EqAt
import PyProof.EqKinds
import PyProof.TupleCall
import KE.KMinKey
import KE.KLam
import PySem.SetOps
import PyProof.SetScanFacts
import PyProof.Rows.SetFrom
import PyProof.SetRoads
import PyProof.WalksMore
import PyProof.EnumMake
import PyProof.EnumFor
import PyProof.P3In
import PyProof.Rows.Range3
import PyProof.ZipIter
import PyProof.TupleKey
import PyProof.DictKinds
import PyProof.Rows.SumAny
import PyProof.Rows.SortRev
import PyProof.Rows.SeqMore
import PyProof.ReprRoads
import PyProof.ReprText
import PyProof.ReprBulk
import PyProof.Rows.AssignMoreSeq
import PyProof.DictItems
import PyProof.DictItemsLoops
import KE.KPairComp
import PySem.Challenge.RW_manyleaves_k59_grown_on_sixty_places
set_option compiler.extract_closed false
section
set_option Elab.async false
set_option linter.all false
set_option maxRecDepth 100000
namespace L2
open PySem PySem.Spec PyProof.Rows
abbrev Key:=Sum Int Str
def keyIs:Key→Value→Bool
 | .inl k,v=>Value.isInt k v
 | .inr x,v=>Value.isStrOf x v
def keyH (w:World):Key→Int
 | .inl k=>hashInt k
 | .inr x=>hashStr w x
theorem keyIs_shape:∀ {k:Key} {v:Value},keyIs k v=true→(∃ i t,k=Sum.inl i∧v=Value.int i t)∨(∃ x t,k=Sum.inr x∧v=Value.str x t)
 | .inl i,v,h=>by
  obtain⟨t,e⟩:=Value.isInt_shape (k:=i) (v:=v) h;exact .inl ⟨i,t,rfl,e⟩
 | .inr x,v,h=>by
  obtain⟨t,e⟩:=Value.isStrOf_shape (x:=x) (v:=v) h;exact .inr ⟨x,t,rfl,e⟩
theorem keyIs_int (i:Int)(t:Tok):keyIs (.inl i) (.int i t)=true:=by simp[keyIs,Value.isInt]
theorem keyIs_str (x:Str)(t:Tok):keyIs (.inr x) (.str x t)=true:=by simp[keyIs,Value.isStrOf]
theorem key_ll (a b:Int):decide ((Sum.inl a:Key)=Sum.inl b)=(a == b):=by
 by_cases e:a=b
 ·subst e;simp
 ·have h:¬ (Sum.inl a:Key)=Sum.inl b:=fun q=>e (Sum.inl.inj q)
  rw[decide_eq_false h];exact (beq_eq_false_iff_ne.mpr e).symm
theorem key_rr (a b:Str):decide ((Sum.inr a:Key)=Sum.inr b)=decide (a=b):=by
 by_cases e:a=b
 ·subst e;simp
 ·have h:¬ (Sum.inr a:Key)=Sum.inr b:=fun q=>e (Sum.inr.inj q)
  rw[decide_eq_false h,decide_eq_false e]
theorem key_lr (a:Int)(b:Str):decide ((Sum.inl a:Key)=Sum.inr b)=false:=decide_eq_false (fun q=>nomatch q)
theorem key_rl (a:Str)(b:Int):decide ((Sum.inr a:Key)=Sum.inl b)=false:=decide_eq_false (fun q=>nomatch q)
def mixKind (prog:Program)(w:World):PySem.KeyKind prog w Key where
 is:=keyIs
 hash:=keyH w
 inj:=fun v a b ha hb=>by
  rcases keyIs_shape ha with ⟨i,t,rfl,rfl⟩ | ⟨x,t,rfl,rfl⟩
  ·rcases keyIs_shape hb with ⟨j,u,rfl,e⟩ | ⟨y,u,rfl,e⟩
   ·injection e with e1 _;rw[e1]
   ·exact nomatch e
  ·rcases keyIs_shape hb with ⟨j,u,rfl,e⟩ | ⟨y,u,rfl,e⟩
   ·exact nomatch e
   ·injection e with e1 _;rw[e1]
 byValue:=fun k v h=>by
  rcases keyIs_shape h with ⟨i,t,rfl,rfl⟩ | ⟨x,t,rfl,rfl⟩<;>rfl
 pyHash:=fun hv h=>by
  rcases keyIs_shape hv with ⟨i,t,rfl,rfl⟩ | ⟨x,t,rfl,rfl⟩
  ·exact wpAny_pyHash_int h
  ·exact wpAny_pyHash_str h
 eqBool:=fun hu hv h=>by
  rcases keyIs_shape hu with ⟨i,t,rfl,rfl⟩ | ⟨x,t,rfl,rfl⟩
  ·rcases keyIs_shape hv with ⟨j,u,rfl,rfl⟩ | ⟨y,u,rfl,rfl⟩
   ·rw[key_ll] at h;exact wpAny_eqBool_int h
   ·rw[key_lr] at h;exact SeqAt.EqAt.int_str i t y u _ _ _ _ h
  ·rcases keyIs_shape hv with ⟨j,u,rfl,rfl⟩ | ⟨y,u,rfl,rfl⟩
   ·rw[key_rl] at h;exact SeqAt.EqAt.str_int x t j u _ _ _ _ h
   ·rw[key_rr] at h;exact wpAny_eqBool_str h
 «strs»:=fun k x t v h=>by
  rcases keyIs_shape h with ⟨i,u,rfl,e⟩ | ⟨y,u,rfl,e⟩
  ·exact nomatch e
  ·injection e with e1 _
   subst e1;cases v<;>rfl
theorem mixKind_int (prog:Program)(w:World)(i:Int)(t:Tok):(mixKind prog w).is (.inl i) (.int i t)=true:=keyIs_int i t
theorem mixKind_str (prog:Program)(w:World)(x:Str)(t:Tok):(mixKind prog w).is (.inr x) (.str x t)=true:=keyIs_str x t
end L2
namespace L2
open PySem PySem.Spec PyProof.Rows
inductive V where
 | non | bl (b:Bool) | int (i:Int) | str (x:Str) | byt (b:Array UInt8) | flt (b:UInt64) | ref (a:Addr) | ty (n:String)
 deriving DecidableEq
def RelV:V→Value→Prop
 | .non,u=>u=Value.none
 | .bl b,u=>u=Value.bool b
 | .int i,u=>∃ t,u=Value.int i t
 | .str x,u=>∃ t,u=Value.str x t
 | .byt b,u=>∃ t,u=Value.bytes b t
 | .flt b,u=>∃ t,u=Value.float b t
 | .ref a,u=>u=Value.ref a
 | .ty n,u=>u=Value.type n
abbrev Vals:List V→List Value→Prop:=Paired RelV
theorem Vals.length {xs:List V}{us:List Value}(r:Vals xs us):xs.length=us.length:=Paired.length r
theorem Vals.get:∀ {xs:List V} {us:List Value} {i:Nat} {x:V},Vals xs us→xs[i]?=some x→∃ u,us[i]?=some u∧RelV x u
 | _,_,_,_,.nil,e=>by simp at e
 | _,_,0,_,.cons r _,e=>by simp at e;subst e;exact⟨_,rfl,r⟩
 | _,_,i+1,x,.cons _ t,e=>by
  obtain⟨u,h1,h2⟩:=Vals.get (i:=i) (x:=x) t (by simpa using e);exact⟨u,by simpa using h1,h2⟩
theorem Vals.set {x:V}{u:Value}(r:RelV x u):∀ {xs:List V} {us:List Value} (i:Nat),Vals xs us→Vals (xs.set i x) (us.set i u)
 | _,_,_,.nil=>.nil
 | _,_,0,.cons _ t=>.cons r t
 | _,_,i+1,.cons q t=>.cons q (Vals.set r i t)
theorem Vals.append:∀ {xs ys:List V} {us ws:List Value},Vals xs us→Vals ys ws→Vals (xs++ys) (us++ws)
 | _,_,_,_,.nil,s=>s
 | _,_,_,_,.cons r t,s=>.cons r (Vals.append t s)
theorem Vals.take:∀ {xs:List V} {us:List Value} (n:Nat),Vals xs us→Vals (xs.take n) (us.take n)
 | _,_,0,_=>.nil
 | _,_,_+1,.nil=>.nil
 | _,_,n+1,.cons r t=>.cons r (Vals.take n t)
theorem Vals.drop:∀ {xs:List V} {us:List Value} (n:Nat),Vals xs us→Vals (xs.drop n) (us.drop n)
 | _,_,0,r=>r
 | _,_,_+1,.nil=>.nil
 | _,_,n+1,.cons _ t=>Vals.drop n t
def RelO:Option V→Option Value→Prop
 | some v,some u=>RelV v u
 | none,none=>True
 | _,_=>False
def KV {κ:Type}:List (κ×V)→List (κ×Value)→Prop:=Paired fun (p:κ×V) (q:κ×Value)=>p.1=q.1∧RelV p.2 q.2
def kV:Key→V
 | .inl i=>.int i
 | .inr x=>.str x
inductive HO where
 /-- a list -/
 | lst (xs:List V)
 /-- a tuple (never changes) -/
 | tup (xs:List V)
 /-- a dict whose keys are ints and texts;one whose keys are tuples of ints and texts (the empty one is both) -/
 | dK (kvs:List (Key×V)) | dT (kvs:List (List Key×V))
 /-- a set of ints: its members,its size -/
 | set (S:Int→Bool) (n:Nat)
 /-- an instance of the class at C,its dict at dx,its attributes -/
 | ins (C dx:Addr) (fs:List (Str×V))
 /-- the dict of the instance at x -/
 | own (x:Addr)
 /-- the dict of an exception -/
 | xd (fs:List (Str×V))
 /-- a bound method,f of x -/
 | met (f x:Addr)
 /-- a range object lo,lo+1,.. below hi -/
 | rng (lo hi:Int)
 /-- a thing that is known to the object (the script;a dict while a loop walks it): read,never written while it is so -/
 | frz (o:Obj) (u:HO)
 /-- a code object's table -/
 | tbl (ps:Array Value)
 /-- any other thing,by what is true of its one object (a def of one's own: SetO a S n:=HO.ext fun h=>..) -/
 | ext (φ:Heap→Prop)
abbrev Hp:=Addr→Option HO
def upd (H:Hp)(a:Addr)(o:HO):Hp:=fun b=>if b=a then some o else H b
theorem upd_same {H:Hp}{a:Addr}{o:HO}:upd H a o a=some o:=by unfold upd;rw[if_pos rfl]
theorem upd_ne {H:Hp}{a b:Addr}{o:HO}(h:b≠a):upd H a o b=H b:=by unfold upd;rw[if_neg h]
theorem upd_upd {H:Hp}{a:Addr}{o u:HO}:upd (upd H a o) a u=upd H a u:=by
 funext b;unfold upd;split<;>rfl
theorem ne_of {H:Hp}{a b:Addr}{o u:HO}(h:H a=some o)(h':H b=some u)(d:o≠u):a≠b:=by
 intro e;subst e;rw[h] at h';exact d (Option.some.inj h')
theorem ne_of_none {H:Hp}{a b:Addr}{o:HO}(h:H a=some o)(h':H b=none):a≠b:=by
 intro e;subst e;rw[h] at h';cases h'
section
variable (P:Program)(w:World)
def ObjOk (H:Hp)(h:Heap)(a:Addr):HO→Prop
 | .lst xs=>xs.length≤sizeLine∧∃ (its:List Value) (n:Nat),Vals xs its∧h.get? a=some {cls:=.type "list",data:=.seq its.toArray n}
 | .tup xs=>xs.length≤sizeLine∧∃ its:List Value,Vals xs its∧IsTup h a its.toArray
 | .dK kvs=>kvs.length≤sizeLine∧(a == sysModules)=false∧∃ vs,KV kvs vs∧h.DictOf (mixKind P w) a vs
 | .dT kvs=>kvs.length≤sizeLine∧(a == sysModules)=false∧∃ xs:List (List Key×Addr×Value),
   Paired (fun (p:List Key×V) (q:List Key×Addr×Value)=>p.1=q.1∧H q.2.1=some (.tup (p.1.map kV))∧RelV p.2 q.2.2) kvs xs ∧
   ∃ o es ep,h.get? a=some o∧o.ExactDict∧o.data=.dict es ep∧es.toList=xs.map (entryOfKey (tupleKind (mixKind P w)))∧(xs.map (·.1)).Nodup
 | .set S n=>h.SetOf (intKind P w) a S n
 | .ins C dx fs=>H dx=some (.own a)∧fs.length≤1000∧dx≠a∧h.get? a=some (PySem.W.instObj C dx) ∧
   ∃ mA,h.Ns1 dx mA∧(∀ f,RelO (fs.lookup f) (mA f))∧PySem.Within mA (fs.map (·.1))
 | .own _=>∃ o,h.get? a=some o
 | .xd fs=>∃ mA,h.Ns1 a mA∧∀ f,RelO (fs.lookup f) (mA f)
 | .rng lo hi=>∃ t u v,h.get? a=some {cls:=.type "range",data:=.fields #[.int lo t,.int hi u,.int 1 v]}
 | .frz o u=>h.get? a=some o∧ObjOk H h a u
 | .tbl ps=>h.get? a=some {cls:=.none,data:=.fields ps}
 | .met f x=>h.get? a=some (PySem.W.methodObj (.ref f) (.ref x))
 | .ext φ=>φ h∧(∃ o,h.get? a=some o)∧∀ h1 h2:Heap,φ h1→(∀ o,h1.get? a=some o→h2.get? a=some o)→φ h2
def HOk (H:Hp)(h:Heap):Prop:=∀ a o,H a=some o→ObjOk P w H h a o
end
section
variable {P:Program}{w:World}{H H':Hp}{h h':Heap}{a:Addr}{o:HO}
theorem ObjOk.lt (x:ObjOk P w H h a o):a<h.objs.size:=by
 cases o with
 | lst xs=>obtain⟨_,_,_,_,e⟩:=x;exact Heap.lt_size e
 | tup xs=>obtain⟨_,_,_,p⟩:=x;exact p.lt
 | dK kvs=>obtain⟨_,_,_,_,o,_,_,e,_⟩:=x;exact Heap.lt_size e
 | dT kvs=>obtain⟨_,_,_,_,o,_,_,e,_⟩:=x;exact Heap.lt_size e
 | set S n=>obtain⟨o,_,_,_,e,_⟩:=x;exact Heap.lt_size e
 | ins C dx fs=>obtain⟨_,_,_,e,_⟩:=x;exact Heap.lt_size e
 | own y=>obtain⟨_,e⟩:=x;exact Heap.lt_size e
 | xd fs=>obtain⟨_,⟨_,_,_,e,_⟩,_⟩:=x;exact Heap.lt_size e
 | rng lo hi=>obtain⟨_,_,_,e⟩:=x;exact Heap.lt_size e
 | frz ob u=>obtain⟨e,_⟩:=x;exact Heap.lt_size e
 | tbl ps=>exact Heap.lt_size (show h.get? a=some _ from x)
 | met f y=>exact Heap.lt_size (show h.get? a=some _ from x)
 | ext φ=>obtain⟨_,⟨_,e⟩,_⟩:=x;exact Heap.lt_size e
theorem Paired.mapP {α β:Type}{F G:α→β→Prop}:∀ {l₁:List α} {l₂:List β},Paired F l₁ l₂→(∀ a b,F a b→G a b)→Paired G l₁ l₂
 | _,_,.nil,_=>.nil
 | _,_,.cons r t,f=>.cons (f _ _ r) (Paired.mapP t f)
theorem ObjOk.stay (x:ObjOk P w H h a o)(k:∀ b u,(b=a∨H b=some (.own a))→h.get? b=some u→h'.get? b=some u)
  (ho:∀ b,H b=some (.own a)→H' b=some (.own a)) (ht:∀ b xs,H b=some (.tup xs)→H' b=some (.tup xs)):ObjOk P w H' h' a o:=by
 induction o with
 | lst xs=>obtain⟨z,its,n,r,e⟩:=x;exact⟨z,its,n,r,k _ _ (.inl rfl) e⟩
 | tup xs=>obtain⟨z,its,r,ob,e,c⟩:=x;exact⟨z,its,r,ob,k _ _ (.inl rfl) e,c⟩
 | dK kvs=>obtain⟨z,y,vs,r,ob,es,ep,e,c⟩:=x;exact⟨z,y,vs,r,ob,es,ep,k _ _ (.inl rfl) e,c⟩
 | dT kvs =>
  obtain⟨z,y,xs,r,ob,es,ep,e,c⟩:=x;exact⟨z,y,xs,Paired.mapP r fun p q z=>⟨z.1,ht _ _ z.2.1,z.2.2⟩,ob,es,ep,k _ _ (.inl rfl) e,c⟩
 | set S n=>obtain⟨ob,es,ep,t,e,c⟩:=x;exact⟨ob,es,ep,t,k _ _ (.inl rfl) e,c⟩
 | ins C dx fs =>
  obtain⟨d,z,ne,e,mA,⟨od,es,ep,e2,c⟩,r⟩:=x;exact⟨ho _ d,z,ne,k _ _ (.inl rfl) e,mA,⟨od,es,ep,k _ _ (.inr d) e2,c⟩,r⟩
 | own y=>obtain⟨ob,e⟩:=x;exact⟨ob,k _ _ (.inl rfl) e⟩
 | xd fs=>obtain⟨mA,⟨od,es,ep,e,c⟩,r⟩:=x;exact⟨mA,⟨od,es,ep,k _ _ (.inl rfl) e,c⟩,r⟩
 | rng lo hi=>obtain⟨t,u,v,e⟩:=x;exact⟨t,u,v,k _ _ (.inl rfl) e⟩
 | frz ob u ih=>obtain⟨e,q⟩:=x;exact⟨k _ _ (.inl rfl) e,ih q⟩
 | tbl ps =>
  have e:h.get? a=some {cls:=.none,data:=.fields ps}:=x;show h'.get? a=some {cls:=.none,data:=.fields ps};exact k a _ (.inl rfl) e
 | met f y =>
  have e:h.get? a=some (PySem.W.methodObj (.ref f) (.ref y)):=x;show h'.get? a=some (PySem.W.methodObj (.ref f) (.ref y));exact k a _ (.inl rfl) e
 | ext φ=>obtain⟨p,⟨o,e⟩,st⟩:=x;exact⟨st _ _ p fun o q=>k _ _ (.inl rfl) q,⟨o,k _ _ (.inl rfl) e⟩,st⟩
theorem HOk.lt (x:HOk P w H h)(e:H a=some o):a<h.objs.size:=(x a o e).lt
theorem HOk.fresh (x:HOk P w H h)(e:h.objs.size≤a):H a=none:=by
 cases q:H a with
 | none=>rfl
 | some u=>exact absurd (Nat.lt_of_lt_of_le (x.lt q) e) (Nat.lt_irrefl _)
theorem HOk.kept (x:HOk P w H h)(k:∀ b u,h.get? b=some u→h'.get? b=some u):HOk P w H h':=fun a o e =>
 (x a o e).stay (fun b u _ q=>k b u q) (fun _ q=>q) fun _ _ q=>q
theorem HOk.laid (x:HOk P w H h)(k:∀ b u,h.get? b=some u→h'.get? b=some u)(hp:h.objs.size≤a)(new:ObjOk P w (upd H a o) h' a o):HOk P w (upd H a o) h':=fun b u e=>by
 have hn:=x.fresh hp;by_cases hb:b=a
 ·subst hb;rw[upd_same] at e;cases e;exact new
 ·rw[upd_ne hb] at e;exact (x b u e).stay (fun c v _ q=>k c v q) (fun c q=>by rw[upd_ne (ne_of_none q hn)];exact q) fun c xs q=>by rw[upd_ne (ne_of_none q hn)];exact q
end
def Rd (H:Hp)(a:Addr)(u:HO):Prop:=H a=some u∨∃ o,H a=some (.frz o u)
theorem Rd.of {H:Hp}{a:Addr}{u:HO}(h:H a=some u):Rd H a u:=.inl h
theorem Rd.ok {P:Program}{w:World}{H:Hp}{h:Heap}{a:Addr}{u:HO}(r:Rd H a u)(x:HOk P w H h):ObjOk P w H h a u:=by
 rcases r with r | ⟨o,r⟩
 ·exact x a u r
 ·obtain⟨_,q⟩:=x a _ r;exact q
def Mut:Option HO→Prop
 | some (.lst _)=>True
 | some (.dK _)=>True
 | some (.dT _)=>True
 | some (.set _ _)=>True
 | some (.ins _ _ _)=>True
 | some (.ext _)=>True
 | _=>False
section
variable {P:Program}{w:World}{H:Hp}{h h':Heap}{x e:Addr}{o':HO}
theorem HOk.write (ok:HOk P w H h)(mu:Mut (H x))(he:e=x∨H e=some (.own x))(k:∀ b u,b≠e→h.get? b=some u→h'.get? b=some u)(heo:∃ u,h'.get? e=some u)
  (new:ObjOk P w (upd H x o') h' x o'):HOk P w (upd H x o') h':=fun b u q=>by
 have nown:∀ c y,H c=some (.own y)→c≠x:=fun c y r z=>by subst z;rw[r] at mu;exact mu
 have ntup:∀ c xs,H c=some (.tup xs)→c≠x:=fun c xs r z=>by subst z;rw[r] at mu;exact mu
 by_cases hb:b=x
 ·subst hb;rw[upd_same] at q;cases q;exact new
 ·rw[upd_ne hb] at q;by_cases hbe:b=e
  ·have q':H b=some (.own x):=by
    rcases he with z | z
    ·exact absurd (hbe.trans z) hb
    ·rw[hbe];exact z
   rw[q] at q';cases q';obtain⟨v,hv⟩:=heo;exact⟨v,by rw[hbe];exact hv⟩
  ·refine (ok b u q).stay (fun c v hc r=>k c v ?_ r) (fun c r=>by rw[upd_ne (nown c b r)];exact r) fun c xs r=>by rw[upd_ne (ntup c xs r)];exact r
   rcases hc with rfl | hc
   ·exact hbe
   ·rintro rfl;rcases he with z | z
    ·exact nown c b hc z
    ·rw[hc] at z;cases z;exact hb rfl
end
structure Un (fs ex:List Addr)(H H':Hp)(h h':Heap):Prop where
 keep:∀ b o,h.get? b=some o→H b=none→b∉fs→b∉ex→h'.get? b=some o
 slot:∀ b o,h.get? b=some o→H b=none→b∈fs→b∉ex→∃ sl,h'.get? b=some {o with slots:=sl}
 free:∀ b o,h.get? b=some o→H b=none→b∉ex→H' b=none
 there:∀ b o,h.get? b=some o→b∉ex→∃ o',h'.get? b=some o'
 tups:∀ b xs,H b=some (.tup xs)→H' b=some (.tup xs)
 frzs:∀ b o u,H b=some (.frz o u)→H' b=some (.frz o u)
 tbls:∀ b ps,H b=some (.tbl ps)→∃ more,H' b=some (.tbl (ps++more))
section
variable {fs fs' ex ex':List Addr}{H H1 H2:Hp}{h h1 h2 h':Heap}{a x e:Addr}{o:HO}
theorem Un.any (u:Un fs ex H H1 h h1){b:Addr}{ob:Obj}(q:h.get? b=some ob)(n:H b=none)(hx:b∉ex):∃ sl,h1.get? b=some {ob with slots:=sl}:=by
 by_cases hb:b∈fs
 ·exact u.slot b ob q n hb hx
 ·exact⟨ob.slots,u.keep b ob q n hb hx⟩
theorem Un.trans (a:Un fs ex H H1 h h1)(b:Un fs ex H1 H2 h1 h2):Un fs ex H H2 h h2 where
 keep:=fun c ob q n hc hx=>b.keep c ob (a.keep c ob q n hc hx) (a.free c ob q n hx) hc hx
 slot:=fun c ob q n hc hx=>by
  obtain⟨sl,e1⟩:=a.slot c ob q n hc hx;obtain⟨sl',e2⟩:=b.slot c _ e1 (a.free c ob q n hx) hc hx;exact⟨sl',e2⟩
 free:=fun c ob q n hx=>by
  obtain⟨o',e1⟩:=a.there c ob q hx;exact b.free c o' e1 (a.free c ob q n hx) hx
 there:=fun c ob q hx=>by
  obtain⟨o',e1⟩:=a.there c ob q hx;exact b.there c o' e1 hx
 tups:=fun c xs q=>b.tups c xs (a.tups c xs q)
 frzs:=fun c ob xs q=>b.frzs c ob xs (a.frzs c ob xs q)
 tbls:=fun c ps q=>by
  obtain⟨m1,e1⟩:=a.tbls c ps q;obtain⟨m2,e2⟩:=b.tbls c _ e1;exact⟨m1++m2,by rw[e2,Array.append_assoc]⟩
theorem Un.kept (k:∀ b u,h.get? b=some u→h'.get? b=some u):Un fs ex H H h h' :=
 ⟨fun b ob q _ _ _=>k b ob q,fun b ob q _ _ _=>⟨ob.slots,k b ob q⟩,fun _ _ _ n _=>n,fun b ob q _=>⟨ob,k b ob q⟩,fun _ _ q=>q,fun _ _ _ q=>q,fun _ ps q=>⟨#[],by rw[q];simp⟩⟩
theorem Un.refl:Un fs ex H H h h:=Un.kept fun _ _ q=>q
theorem Un.laid (k:∀ b u,h.get? b=some u→h'.get? b=some u)(hp:h.objs.size≤a)(hn:H a=none):Un fs ex H (upd H a o) h h' where
 keep:=fun b u q _ _ _=>k b u q
 slot:=fun b u q _ _ _=>⟨u.slots,k b u q⟩
 free:=fun b u q n _=>by rw[upd_ne (Nat.ne_of_lt (Nat.lt_of_lt_of_le (Heap.lt_size q) hp))];exact n
 there:=fun b u q _=>⟨u,k b u q⟩
 tups:=fun b xs q=>by rw[upd_ne (ne_of_none q hn)];exact q
 frzs:=fun b u xs q=>by rw[upd_ne (ne_of_none q hn)];exact q
 tbls:=fun b ps q=>⟨#[],by rw[upd_ne (ne_of_none q hn),q];simp⟩
theorem Un.write (mu:Mut (H x))(he:e=x∨H e=some (.own x))(k:∀ b u,b≠e→h.get? b=some u→h'.get? b=some u)(heo:∃ u,h'.get? e=some u):Un fs ex H (upd H x o) h h':=by
 have hx:∀ b,H b=none→b≠x:=fun b n z=>by subst z;rw[n] at mu;exact mu
 have hb:∀ b,H b=none→b≠e:=fun b n z=>by
  subst z;rcases he with r | r
  ·exact hx b n r
  ·rw[n] at r;cases r
 have hm:∀ b u,H b=some u→¬ Mut (some u)→b≠x:=fun b u q nm z=>by subst z;rw[q] at mu;exact nm mu
 refine⟨fun b u q n _ _=>k b u (hb b n) q,fun b u q n _ _=>⟨u.slots,k b u (hb b n) q⟩,fun b u q n _=>by rw[upd_ne (hx b n)];exact n,fun b u q _=>?_,
  fun b xs q=>by rw[upd_ne (hm b _ q fun z=>z)];exact q,fun b u xs q=>by rw[upd_ne (hm b _ q fun z=>z)];exact q,fun b ps q=>⟨#[],by rw[upd_ne (hm b _ q fun z=>z),q];simp⟩⟩
 by_cases hbe:b=e
 ·subst hbe;exact heo
 ·exact⟨u,k b u hbe q⟩
theorem Un.mono (u:Un fs ex H H1 h h1)(hs:∀ b∈fs,b∈fs')(hx:∀ b∈ex,b∈ex'):Un fs' ex' H H1 h h1 :=
 ⟨fun b ob q n hb he=>u.keep b ob q n (fun z=>hb (hs b z)) fun z=>he (hx b z),fun _ _ q n _ he=>u.any q n fun z=>he (hx _ z),fun b ob q n he=>u.free b ob q n fun z=>he (hx b z),fun b ob q he=>u.there b ob q fun z=>he (hx b z),u.tups,u.frzs,u.tbls⟩
end
def trk (h:Heap)(H:Hp):List Addr:=(List.range h.objs.size).filter fun a=>(H a).isSome
def hidT (h:Heap)(H:Hp):Heap:=PySem.W.hideAll h (trk h H)
theorem hidT_size (h:Heap)(H:Hp):(hidT h H).objs.size=h.objs.size:=PySem.W.hideAll_size _ _
theorem hidT_get {h:Heap}{H:Hp}{b:Addr}{o:Obj}(e:h.get? b=some o)(n:H b=none):(hidT h H).get? b=some o :=
 PySem.W.hideAll_get _ e fun hm=>by
  have q:(H b).isSome=true:=(List.mem_filter.mp hm).2;rw[n] at q;simp at q
theorem of_hidT {h:Heap}{H:Hp}{b:Addr}{o:Obj}(e:(hidT h H).get? b=some o):h.get? b=some o∧H b=none:=by
 have e':h.get? b=some o:=PySem.W.of_hideAll (trk h H) e;refine⟨e',?_⟩;cases q:H b with
 | none=>rfl
 | some x =>
  have hm:b∈trk h H:=List.mem_filter.mpr ⟨List.mem_range.mpr (Heap.lt_size e'),by simp[q]⟩;have z:(hidT h H).get? b=none:=PySem.W.hideAll_none (trk h H) hm;rw[z] at e;cases e
def allNews (g h:Heap)(L:Addr):List (Addr×Obj):=(List.range h.objs.size).filterMap fun a=>if a=L∨(g.get? a).isSome=true then none else (h.get? a).map fun o=>(a,o)
def rest (g h:Heap)(L d:Addr):List (Addr×Obj):=(allNews g h L).filter fun p=>decide (p.1≠d)
end L2
namespace L2
open PySem PySem.Spec PyProof.Rows
structure Mod (K:PySem.W.Frag)(mg:Str→Option Value)(base:Heap):Prop where
 kin:K.In base
 glob:base.Ns mainGlobals mg
 blt:∃ mb,base.Ns builtinsNs mb∧∀ x:Str,x≠"__name__"→mb x=bootBuiltins x
 nolimit:base.NoLimit
structure Cx where
 prog:Program
 w:World
 K:PySem.W.Frag
 mg:Str→Option Value
 base:Heap
 A:Around
 N:List Str
 s₀:Shared
 H₀:Hp
 env:Env
 outer:List Env
 stack:List Env
 ex:List Addr
 fn:Str→Bool
 calm:Bool
 pn:List (Addr×Obj)
 xe:Value→Shared→Prop
def frs (l:List Env):List Addr:=l.filterMap (·.frame)
abbrev Cx.fs (X:Cx):List Addr:=frs X.outer
def Vis (sc:Scope)(x:Str):Prop:=sc.names.lookup x=some .local∨sc.names.lookup x=some .cell∨sc.names.lookup x=some .free
def Loc (sc:Scope)(x:Str):Prop:=sc.names.lookup x=some .local∨sc.names.lookup x=some .cell
def Look (env:Env)(h:Heap)(m:Str→Option Value)(x:Str)(u:Value):Prop :=
 (env.kindOf x=some .local∧m x=some u)∨((env.kindOf x=some .cell∨env.kindOf x=some .free)∧∃ c,env.cells.lookup x=some c∧h.IsCell c (some u))
structure Cx.Ok (X:Cx):Prop where
 mod:Mod X.K X.mg X.base
 kind:X.env.scope.kind=.function
 glob:X.env.globals=mainGlobals
 blt:X.env.builtins=builtinsNs
 above:X.s₀.heap.objs.size≤X.env.locals
 inj:∀ x y c,X.env.cells.lookup x=some c→X.env.cells.lookup y=some c→x=y
 has:∀ x,(X.env.kindOf x=some .cell∨X.env.kindOf x=some .free)→∃ c,X.env.cells.lookup x=some c
 cab:∀ x c,X.fn x=true→X.env.cells.lookup x=some c→X.s₀.heap.objs.size≤c
 hd:X.calm=true→X.A.handled=none
 frames:X.A.frames=some X.stack
 stk:X.stack=X.outer∨(X.stack=X.env::X.outer∧X.env.frame=some X.env.locals)
 exf:∀ b∈X.ex,b≠X.env.locals∧∀ x c,X.env.cells.lookup x=some c→c≠b
 bs:∀ b o,X.base.get? b=some o→X.s₀.heap.get? b=some o∧X.H₀ b=none
 bsz:X.base.objs.size≤X.s₀.heap.objs.size
 noex:∀ b o,X.base.get? b=some o→b∉X.ex
 exfs:∀ b∈X.ex,b∉X.fs
 funs:X.s₀.heap.FunFrames X.base X.outer
 frf:∀ b∈X.fs,X.H₀ b=none
structure Inv (X:Cx)(pins:List (Addr×Obj))(σ:List (Option V))(H:Hp)(s:Shared):Prop where
 ok:X.Ok
 os:s.os=X.s₀.os
 bare:AllBare s.gens
 base:Un X.fs X.ex X.H₀ H X.s₀.heap s.heap
 loc:∃ m,s.heap.Ns X.env.locals m∧∀ (i:Nat) (x:Str) (v:V),X.N[i]?=some x→σ[i]?=some (some v)→Vis X.env.scope x→∃ u,RelV v u∧Look X.env s.heap m x u
 cell:∀ x c,X.env.cells.lookup x=some c→∃ v,s.heap.IsCell c v
 free:H X.env.locals=none
 freeC:∀ x c,X.env.cells.lookup x=some c→H c=none
 pin:∀ p∈X.pn++pins,s.heap.get? p.1=some p.2∧H p.1=none∧p.1≠X.env.locals∧p.1∉X.fs∧∀ v,p.2.data≠.cell v
 hok:HOk X.prog X.w H s.heap
 len:σ.length=X.N.length
section
variable {X:Cx}{pins:List (Addr×Obj)}{σ:List (Option V)}{H H':Hp}{s:Shared}{h':Heap}
theorem Cx.Ok.nofr (ok:X.Ok){b:Addr}{o:Obj}(e:X.base.get? b=some o):b∉X.fs:=fun hb=>by
 have:=(ok.funs.mem hb).1;rw[e] at this;cases this
theorem Inv.bs (I:Inv X pins σ H s):∀ b o,X.base.get? b=some o→s.heap.get? b=some o∧H b=none:=fun b o e =>
 ⟨I.base.keep b o (I.ok.bs b o e).1 (I.ok.bs b o e).2 (I.ok.nofr e) (I.ok.noex b o e),I.base.free b o (I.ok.bs b o e).1 (I.ok.bs b o e).2 (I.ok.noex b o e)⟩
theorem Inv.bk (I:Inv X pins σ H s):∀ b o,X.base.get? b=some o→s.heap.get? b=some o:=fun b o e=>(I.bs b o e).1
theorem Inv.mod (I:Inv X pins σ H s):Mod X.K X.mg X.base:=I.ok.mod
theorem Inv.kIn (I:Inv X pins σ H s):X.K.In s.heap:=I.ok.mod.kin.keeps I.bk
theorem Inv.nolimit (I:Inv X pins σ H s):s.heap.NoLimit:=I.ok.mod.nolimit.keeps I.bk
theorem Inv.lt (I:Inv X pins σ H s):X.env.locals<s.heap.objs.size:=let ⟨_,hn,_⟩:=I.loc;hn.lt
theorem Inv.sz (I:Inv X pins σ H s):X.s₀.heap.objs.size≤s.heap.objs.size:=Nat.le_trans I.ok.above (Nat.le_of_lt I.lt)
theorem Inv.nofs (I:Inv X pins σ H s){a:Addr}(h:s.heap.objs.size≤a):a∉X.fs:=fun hb=>by
 obtain⟨_,o,ho,_⟩:=I.ok.funs.mem hb;exact absurd (Nat.lt_of_lt_of_le (Heap.lt_size ho) (Nat.le_trans I.sz h)) (Nat.lt_irrefl _)
theorem Inv.cne (I:Inv X pins σ H s):∀ x c,X.env.cells.lookup x=some c→c≠X.env.locals:=fun x c e z=>by
 obtain⟨v,o,ho,hd⟩:=I.cell x c e;obtain⟨m,⟨o',es,ep,ho',hd',_⟩,_⟩:=I.loc;rw[z,ho'] at ho;cases ho;rw[hd'] at hd;cases hd
theorem Inv.funs (I:Inv X pins σ H s):s.heap.FunFrames X.base X.outer:=by
 have all:∀ (l:List Env),(∀ b∈frs l,b∈X.fs)→X.s₀.heap.FunFrames X.base l→s.heap.FunFrames X.base l:=by
  intro l;induction l with
  | nil=>intro _ _;trivial
  | cons env r ih =>
   intro hs hl;obtain⟨hk,⟨L,o,hf,hn,ho,hd⟩,hr⟩:=hl;have hL:L∈X.fs:=hs L (by unfold frs;rw[List.filterMap_cons,hf];exact List.mem_cons_self);obtain⟨sl,e⟩:=I.base.slot L o ho (I.ok.frf L hL) hL fun z=>I.ok.exfs L z hL
   exact⟨hk,⟨L,_,hf,hn,e,hd⟩,ih (fun b hb=>hs b (by unfold frs;rw[List.filterMap_cons,hf];exact List.mem_cons_of_mem _ hb)) hr⟩
 exact all X.outer (fun _ hb=>hb) I.ok.funs
theorem Inv.stack (I:Inv X pins σ H s):s.heap.FunFrames X.base X.stack:=by
 rcases I.ok.stk with e | ⟨e,hf⟩
 ·rw[e];exact I.funs
 ·rw[e];obtain⟨m,hn,_⟩:=I.loc;refine .cons (by rw[I.ok.kind];decide) hf hn ?_ I.funs;exact Heap.get?_none_of_le (Nat.le_trans I.ok.bsz I.ok.above)
theorem Inv.stkSub (I:Inv X pins σ H s):∀ b∈frs X.stack,b∈X.env.locals::X.fs:=fun b hb=>by
 rcases I.ok.stk with e | ⟨e,hf⟩
 ·rw[e] at hb;exact List.mem_cons_of_mem _ hb
 ·rw[e] at hb;unfold frs at hb;rw[List.filterMap_cons,hf] at hb;exact hb
theorem Inv.stkFree (I:Inv X pins σ H s):∀ b∈frs X.stack,H b=none:=fun b hb=>by
 rcases List.mem_cons.mp (I.stkSub b hb) with e | hb
 ·rw[e];exact I.free
 ·obtain⟨_,o,ho,_⟩:=I.ok.funs.mem hb;exact I.base.free b o ho (I.ok.frf b hb) fun z=>I.ok.exfs b z hb
theorem Inv.step {g':Array GenState}{t':Nat}{d':Drawn}{ch:List Addr}(I:Inv X pins σ H s)
  (hch:∀ b∈ch,(b∈X.ex∨X.s₀.heap.objs.size≤b)∧b≠X.env.locals∧(∀ x c,X.env.cells.lookup x=some c→c≠b)∧∀ p∈X.pn++pins,p.1≠b)
  (keep:∀ b o,b≠X.env.locals→b∉X.fs→b∉ch→s.heap.get? b=some o→H b=none→h'.get? b=some o)
  (slot:∀ b o,b≠X.env.locals→b∈X.fs→b∉ch→s.heap.get? b=some o→H b=none→∃ sl,h'.get? b=some {o with slots:=sl}) (free:∀ b o,b∉ch→s.heap.get? b=some o→H b=none→H' b=none)
  (there:∀ b o,b∉ch→s.heap.get? b=some o→∃ o',h'.get? b=some o')
  (tups:∀ b xs,H b=some (.tup xs)→H' b=some (.tup xs)) (frzs:∀ b o u,H b=some (.frz o u)→H' b=some (.frz o u)) (tbls:∀ b ps,H b=some (.tbl ps)→∃ more,H' b=some (.tbl (ps++more)))
  (ns:∀ m,s.heap.Ns X.env.locals m→h'.Ns X.env.locals m) (hok:HOk X.prog X.w H' h') (hg:AllBare g') :
  Inv X pins σ H' {s with heap:=h',gens:=g',drawn:=d',toks:=t'}:=by
 have neL:∀ b o,X.s₀.heap.get? b=some o→b≠X.env.locals:=fun b o e=>Nat.ne_of_lt (Nat.lt_of_lt_of_le (Heap.lt_size e) I.ok.above)
 have neC:∀ b o,X.s₀.heap.get? b=some o→b∉X.ex→b∉ch:=fun b o e hx hb=>by
  rcases (hch b hb).1 with z | z
  ·exact hx z
  ·exact absurd (Nat.lt_of_lt_of_le (Heap.lt_size e) z) (Nat.lt_irrefl _)
 have cellK:∀ x c,X.env.cells.lookup x=some c→∀ v,s.heap.IsCell c v→h'.IsCell c v:=fun x c e v ⟨o,ho,hd⟩=>by
  have nch:c∉ch:=fun z=>(hch c z).2.2.1 x c e rfl
  by_cases hc:c∈X.fs
  ·obtain⟨sl,q⟩:=slot c o (I.cne x c e) hc nch ho (I.freeC x c e);exact⟨_,q,hd⟩
  ·exact⟨o,keep c o (I.cne x c e) hc nch ho (I.freeC x c e),hd⟩
 refine⟨I.ok,I.os,hg,⟨fun b o e n hb hx=>?_,fun b o e n hb hx=>?_,fun b o e n hx=>?_,fun b o e hx=>?_,fun b xs e=>tups b xs (I.base.tups b xs e),fun b o xs e=>frzs b o xs (I.base.frzs b o xs e),fun b ps e=>?_⟩,?_,fun x c e=>?_,?_,fun x c e=>?_,fun p hp=>?_,hok,I.len⟩
 ·exact keep b o (neL b o e) hb (neC b o e hx) (I.base.keep b o e n hb hx) (I.base.free b o e n hx)
 ·obtain⟨sl,e1⟩:=I.base.slot b o e n hb hx;obtain⟨sl',e2⟩:=slot b _ (neL b o e) hb (neC b o e hx) e1 (I.base.free b o e n hx);exact⟨sl',e2⟩
 ·obtain⟨o',e1⟩:=I.base.there b o e hx;exact free b o' (neC b o e hx) e1 (I.base.free b o e n hx)
 ·obtain⟨o',e1⟩:=I.base.there b o e hx;exact there b o' (neC b o e hx) e1
 ·obtain⟨m1,e1⟩:=I.base.tbls b ps e;obtain⟨m2,e2⟩:=tbls b _ e1;exact⟨m1++m2,by rw[e2,Array.append_assoc]⟩
 ·obtain⟨m,hn,hl⟩:=I.loc;refine⟨m,ns m hn,fun i x v e1 e2 e3=>?_⟩;obtain⟨u,r,l⟩:=hl i x v e1 e2 e3;refine⟨u,r,?_⟩;rcases l with l | ⟨k,c,e,z⟩
  ·exact .inl l
  ·exact .inr ⟨k,c,e,cellK x c e _ z⟩
 ·obtain⟨v,z⟩:=I.cell x c e;exact⟨v,cellK x c e v z⟩
 ·obtain⟨m,⟨o,_,_,ho,_⟩,_⟩:=I.loc;exact free _ o (fun z=>(hch _ z).2.1 rfl) ho I.free
 ·obtain⟨v,o,ho,hd⟩:=I.cell x c e;exact free c o (fun z=>(hch c z).2.2.1 x c e rfl) ho (I.freeC x c e)
 ·obtain⟨e,n,ne,nf,d⟩:=I.pin p hp;have nch:p.1∉ch:=fun z=>(hch p.1 z).2.2.2 p hp rfl
  exact⟨keep p.1 p.2 ne nf nch e n,free p.1 p.2 nch e n,ne,nf,d⟩
theorem Inv.un {t':Nat}(I:Inv X pins σ H s)(u:Un X.fs [] H H' s.heap h')(hok:HOk X.prog X.w H' h'):Inv X pins σ H' {s with heap:=h',toks:=t'}:=by
 obtain⟨m,⟨o,es,ep,ho,r⟩,_⟩:=id I.loc;obtain⟨sl,hL⟩:=u.any ho I.free (by simp)
 exact I.step (g':=s.gens) (d':=s.drawn) (ch:=[]) (fun _ z=>nomatch z) (fun b o _ hb _ e n=>u.keep b o e n hb (by simp)) (fun b o _ hb _ e n=>u.slot b o e n hb (by simp)) (fun b o _ e n=>u.free b o e n (by simp)) (fun b o _ e=>u.there b o e (by simp)) u.tups u.frzs u.tbls (fun m' hm=>by
  obtain⟨o',es',ep',ho',r'⟩:=hm;rw[ho] at ho';cases ho'
  exact⟨_,es',ep',hL,r'⟩) hok I.bare
theorem Inv.call {g':Array GenState}{t':Nat}{d':Drawn}{ch:List Addr}(I:Inv X pins σ H s)(u:Un (frs X.stack) ch H H' s.heap h')(hok:HOk X.prog X.w H' h')(hg:AllBare g')
  (hch:∀ b∈ch,(b∈X.ex∨X.s₀.heap.objs.size≤b)∧b≠X.env.locals∧(∀ x c,X.env.cells.lookup x=some c→c≠b)∧∀ p∈X.pn++pins,p.1≠b) :
  Inv X pins σ H' {s with heap:=h',gens:=g',drawn:=d',toks:=t'}:=by
 obtain⟨m,⟨o,es,ep,ho,r⟩,_⟩:=id I.loc;obtain⟨sl,hL⟩:=u.any ho I.free fun z=>(hch _ z).2.1 rfl
 exact I.step (ch:=ch) hch (fun b o hL hb hc e n=>u.keep b o e n (fun z=>(List.mem_cons.mp (I.stkSub b z)).elim hL hb) hc) (fun b o _ _ hc e n=>u.any e n hc) (fun b o hc e n=>u.free b o e n hc) (fun b o hc e=>u.there b o e hc) u.tups u.frzs u.tbls (fun m' hm=>by
  obtain⟨o',es',ep',ho',r'⟩:=hm;rw[ho] at ho';cases ho'
  exact⟨_,es',ep',hL,r'⟩) hok hg
theorem Inv.turned {t':Nat}{it:Addr}(I:Inv X pins σ H s)(k:∀ b o,b≠it→s.heap.get? b=some o→h'.get? b=some o)(hn:H it=none)(hL:it≠X.env.locals)
  (h1:it∈X.ex∨X.s₀.heap.objs.size≤it) (h2:∀ x c,X.env.cells.lookup x=some c→c≠it) (h3:∀ p∈X.pn++pins,p.1≠it):Inv X pins σ H {s with heap:=h',toks:=t'}:=by
 have nit:∀ b u,H b=some u→b≠it:=fun b u e z=>by rw[z,hn] at e;cases e
 refine I.step (g':=s.gens) (d':=s.drawn) (ch:=[it]) (fun b hb=>?_) (fun b o _ _ hc e _=>k b o (fun z=>hc (by simp[z])) e) (fun b o _ _ hc e _=>⟨o.slots,k b o (fun z=>hc (by simp[z])) e⟩) (fun _ _ _ _ n=>n)
  (fun b o hc e=>⟨o,k b o (fun z=>hc (by simp[z])) e⟩) (fun _ _ e=>e) (fun _ _ _ e=>e) (fun b ps e=>⟨#[],by rw[e];simp⟩) (fun m hm=>?_) (fun b u e=>?_) I.bare
 ·have e:b=it:=by simpa using hb
  subst e;exact⟨h1,hL,h2,h3⟩
 ·obtain⟨o,es,ep,ho,r⟩:=hm;exact⟨o,es,ep,k _ o (Ne.symm hL) ho,r⟩
 ·refine (I.hok b u e).stay (fun c v hc q=>k c v ?_ q) (fun _ q=>q) fun _ _ q=>q
  rcases hc with z | z
  ·rw[z];exact nit b u e
  ·exact nit c _ z
theorem Inv.tok (I:Inv X pins σ H s)(t:Nat):Inv X pins σ H {s with toks:=t}:=I.un (h':=s.heap) (t':=t) Un.refl I.hok
theorem Inv.kept {t':Nat}(I:Inv X pins σ H s)(k:∀ b u,s.heap.get? b=some u→h'.get? b=some u):Inv X pins σ H {s with heap:=h',toks:=t'}:=I.un (Un.kept k) (I.hok.kept k)
theorem Inv.laid {a:Addr}{o:HO}{t':Nat}(I:Inv X pins σ H s)(k:∀ b u,s.heap.get? b=some u→h'.get? b=some u)(hp:s.heap.objs.size≤a)(new:ObjOk X.prog X.w (upd H a o) h' a o) :
  Inv X pins σ (upd H a o) {s with heap:=h',toks:=t'}:=I.un (Un.laid k hp (I.hok.fresh hp)) (I.hok.laid k hp new)
theorem Inv.write {x e:Addr}{o:HO}{t':Nat}(I:Inv X pins σ H s)(mu:Mut (H x))(he:e=x∨H e=some (.own x))(k:∀ b u,b≠e→s.heap.get? b=some u→h'.get? b=some u)(heo:∃ u,h'.get? e=some u)
  (new:ObjOk X.prog X.w (upd H x o) h' x o):Inv X pins σ (upd H x o) {s with heap:=h',toks:=t'}:=I.un (Un.write mu he k heo) (I.hok.write mu he k heo new)
theorem Inv.pins_of {pins':List (Addr×Obj)}(I:Inv X pins σ H s)(h:∀ p∈pins',s.heap.get? p.1=some p.2∧H p.1=none∧p.1≠X.env.locals∧p.1∉X.fs∧∀ v,p.2.data≠.cell v):Inv X pins' σ H s :=
 ⟨I.ok,I.os,I.bare,I.base,I.loc,I.cell,I.free,I.freeC,fun p hp=>(List.mem_append.mp hp).elim (fun z=>I.pin p (List.mem_append_left _ z)) (h p),I.hok,I.len⟩
theorem nodup_ix {N:List Str}(hN:N.Nodup){i j:Nat}{x:Str}(a:N[i]?=some x)(b:N[j]?=some x):i=j:=by
 obtain⟨h1,e1⟩:=List.getElem?_eq_some_iff.mp a;obtain⟨h2,e2⟩:=List.getElem?_eq_some_iff.mp b;exact (List.getElem_inj hN).mp (e1.trans e2.symm)
theorem store_ok2 {M:Model}{A:Around}{E:Value→Shared→Prop}{i:Nat}{x:Str}{v:V}{u:Value}{Q:Unit→Shared→Prop}(I:Inv X pins σ H s)(hN:X.N.Nodup)(hi:X.N[i]?=some x)(hx:Loc X.env.scope x)(r:RelV v u)
  (h:∀ s',Inv X pins (σ.set i (some v)) H s'→(∃ a,Heap.SameBut a s.heap s'.heap∧(a=X.env.locals∨X.env.cells.lookup x=some a))→Q () s') (hf:X.fn x=true∨X.env.scope.names.lookup x=some .local:=by first | exact .inl rfl | exact .inr rfl | assumption):wpAny M A (storeName X.env x u) Q E s:=by
 obtain⟨m,hn,hl⟩:=id I.loc;have hcls:(X.env.scope.kind == .class || (X.env.scope.kind == .module && X.env.locals != X.env.globals))=false:=by rw[I.ok.kind];rfl
 have hiσ:i<σ.length:=by rw[I.len];exact (List.getElem?_eq_some_iff.mp hi).1
 have cne:=I.cne;have tracked:∀ {a:Addr} {h':Heap},(∃ o,s.heap.get? a=some o∧H a=none)→Heap.SameBut a s.heap h'→HOk X.prog X.w H h':=fun {a h'} ha hs b ob e=>by
  obtain⟨_,_,hfree⟩:=ha;refine (I.hok b ob e).stay (fun c w' hc q=>(hs.2 c ?_).trans q) (fun _ q=>q) fun _ _ q=>q
  rintro rfl;rcases hc with rfl | hc
  ·rw[hfree] at e;cases e
  ·rw[hfree] at hc;cases hc
 rcases hx with hk | hk
 ·refine wpAny_storeName_local hk hn (fun h' hn' hs=>?_) hcls;obtain⟨oL,_,_,hoL,_⟩:=id hn;refine h _ ⟨I.ok,I.os,I.bare,⟨fun b o e n hb hx=>?_,fun b o e n hb hx=>?_,I.base.free,fun b o e hx=>?_,I.base.tups,I.base.frzs,I.base.tbls⟩,⟨_,hn',fun j y v' e1 e2 e3=>?_⟩,fun y c e=>?_,I.free,I.freeC,fun p hp=>?_,tracked ⟨oL,hoL,I.free⟩ hs,by simpa using I.len⟩ ⟨_,hs,.inl rfl⟩
  ·exact (hs.2 b (Nat.ne_of_lt (Nat.lt_of_lt_of_le (Heap.lt_size e) I.ok.above))).trans (I.base.keep b o e n hb hx)
  ·obtain⟨sl,e1⟩:=I.base.slot b o e n hb hx;exact⟨sl,(hs.2 b (Nat.ne_of_lt (Nat.lt_of_lt_of_le (Heap.lt_size e) I.ok.above))).trans e1⟩
  ·obtain⟨o',e1⟩:=I.base.there b o e hx;exact⟨o',(hs.2 b (Nat.ne_of_lt (Nat.lt_of_lt_of_le (Heap.lt_size e) I.ok.above))).trans e1⟩
  ·by_cases hj:j=i
   ·subst hj;rw[hi] at e1;cases e1;rw[List.getElem?_set_self hiσ] at e2;cases e2;exact⟨u,r,.inl ⟨hk,by simp⟩⟩
   ·rw[List.getElem?_set_ne (Ne.symm hj)] at e2;obtain⟨u',r',q⟩:=hl j y v' e1 e2 e3;refine⟨u',r',?_⟩;rcases q with ⟨k,e⟩ | ⟨k,c,e,z⟩
    ·refine .inl ⟨k,?_⟩;have:y≠x:=fun e=>hj (nodup_ix hN e1 (e ▸ hi))
     simp[this,e]
    ·exact .inr ⟨k,c,e,z.sameBut hs (cne y c e)⟩
  ·obtain⟨w',z⟩:=I.cell y c e;exact⟨w',z.sameBut hs (cne y c e)⟩
  ·obtain⟨e,n,ne,nf,d⟩:=I.pin p hp;exact⟨(hs.2 p.1 ne).trans e,n,ne,nf,d⟩
 ·have hfn:X.fn x=true:=by
   rcases hf with z | z
   ·exact z
   ·rw[z] at hk;cases hk
  obtain⟨c,hc⟩:=I.ok.has x (.inl hk);obtain⟨w',z⟩:=I.cell x c hc;refine wpAny_storeName_cell I.ok.kind hk hc z (fun h' hc' hs=>?_);obtain⟨oc,hoc,hocd⟩:=id z;refine h {s with heap:=h'} ⟨I.ok,I.os,I.bare,⟨fun b o e n hb hx=>?_,fun b o e n hb hx=>?_,I.base.free,fun b o e hx=>?_,I.base.tups,I.base.frzs,I.base.tbls⟩,⟨m,hn.sameBut hs (Ne.symm (cne x c hc)),fun j y v' e1 e2 e3=>?_⟩,fun y c' e=>?_,I.free,I.freeC,fun p hp=>?_,tracked ⟨oc,hoc,I.freeC x c hc⟩ hs,by simpa using I.len⟩ ⟨c,hs,.inr hc⟩
  ·exact (hs.2 b (Nat.ne_of_lt (Nat.lt_of_lt_of_le (Heap.lt_size e) (I.ok.cab x c hfn hc)))).trans (I.base.keep b o e n hb hx)
  ·obtain⟨sl,e1⟩:=I.base.slot b o e n hb hx;exact⟨sl,(hs.2 b (Nat.ne_of_lt (Nat.lt_of_lt_of_le (Heap.lt_size e) (I.ok.cab x c hfn hc)))).trans e1⟩
  ·obtain⟨o',e1⟩:=I.base.there b o e hx;exact⟨o',(hs.2 b (Nat.ne_of_lt (Nat.lt_of_lt_of_le (Heap.lt_size e) (I.ok.cab x c hfn hc)))).trans e1⟩
  ·by_cases hj:j=i
   ·subst hj;rw[hi] at e1;cases e1;rw[List.getElem?_set_self hiσ] at e2;cases e2;exact⟨u,r,.inr ⟨.inl hk,c,hc,hc'⟩⟩
   ·rw[List.getElem?_set_ne (Ne.symm hj)] at e2;obtain⟨u',r',q⟩:=hl j y v' e1 e2 e3;refine⟨u',r',?_⟩;rcases q with q | ⟨k,c',e,z'⟩
    ·exact .inl q
    ·refine .inr ⟨k,c',e,z'.sameBut hs ?_⟩;rintro rfl;exact hj (nodup_ix hN e1 (I.ok.inj _ _ _ e hc ▸ hi))
  ·by_cases hcc:c'=c
   ·subst hcc;exact⟨_,hc'⟩
   ·obtain⟨w2,z2⟩:=I.cell y c' e;exact⟨w2,z2.sameBut hs hcc⟩
  ·obtain⟨e,n,ne,nf,d⟩:=I.pin p hp;refine⟨(hs.2 p.1 ?_).trans e,n,ne,nf,d⟩;intro q;rw[q,hoc] at e;have q':oc=p.2:=Option.some.inj e;exact d w' (by rw[← q'];exact hocd)
theorem store_ok {M:Model}{A:Around}{E:Value→Shared→Prop}{i:Nat}{x:Str}{v:V}{u:Value}{Q:Unit→Shared→Prop}(I:Inv X pins σ H s)(hN:X.N.Nodup)(hi:X.N[i]?=some x)(hx:Loc X.env.scope x)(r:RelV v u)
  (h:∀ s',Inv X pins (σ.set i (some v)) H s'→Q () s') (hf:X.fn x=true∨X.env.scope.names.lookup x=some .local:=by first | exact .inl rfl | exact .inr rfl | assumption):wpAny M A (storeName X.env x u) Q E s :=
 store_ok2 I hN hi hx r (fun s' I' _=>h s' I') hf
theorem Inv.call' {s':Shared}{ch:List Addr}(I:Inv X pins σ H s)(ho:s'.os=s.os)(u:Un (frs X.stack) ch H H' s.heap s'.heap)(hok:HOk X.prog X.w H' s'.heap)(hg:AllBare s'.gens)
  (hch:∀ b∈ch,(b∈X.ex∨X.s₀.heap.objs.size≤b)∧b≠X.env.locals∧(∀ x c,X.env.cells.lookup x=some c→c≠b)∧∀ p∈X.pn++pins,p.1≠b):Inv X pins σ H' s':=by
 obtain⟨h',g',d',t',o'⟩:=s';have e:o'=s.os:=ho;subst e;exact I.call (g':=g') (t':=t') (d':=d') u hok hg hch
end
abbrev XK:=Value→Option Addr→Hp→Prop
abbrev St:=List (Option V)
abbrev VK:=V→Hp→Prop
abbrev TE:=St→Hp→VK→Prop
abbrev TT:=St→Hp→(Bool→Hp→Prop)→Prop
abbrev TA:=St→Hp→(List V→Hp→Prop)→Prop
structure Ends where
 nx:St→Hp→Prop
 rt:VK
 bk:St→Hp→Prop:=fun _ _=>False
 ct:St→Hp→Prop:=fun _ _=>False
abbrev TS:=Ends→St→Hp→Prop
def EP (X:Cx)(pins:List (Addr×Obj))(σ:St)(Q:VK)(u:Value)(s':Shared):Prop:=∃ v H',Inv X pins σ H' s'∧RelV v u∧Q v H'
def TP (X:Cx)(pins:List (Addr×Obj))(σ:St)(Q:Bool→Hp→Prop)(b:Bool)(s':Shared):Prop:=∃ H',Inv X pins σ H' s'∧Q b H'
def AP (X:Cx)(pins:List (Addr×Obj))(σ:St)(Q:List V→Hp→Prop)(us:List Value)(s':Shared):Prop:=∃ vs H',Inv X pins σ H' s'∧Vals vs us∧Q vs H'
def SP (X:Cx)(pins:List (Addr×Obj))(D:Ends)(f:Flow)(s':Shared):Prop :=
 match f with
 | .next=>∃ σ' H',Inv X pins σ' H' s'∧D.nx σ' H'
 | .brk=>∃ σ' H',Inv X pins σ' H' s'∧D.bk σ' H'
 | .cont=>∃ σ' H',Inv X pins σ' H' s'∧D.ct σ' H'
 | .ret u=>∃ v σ' H',Inv X pins σ' H' s'∧RelV v u∧D.rt v H'
def PE (X:Cx)(e:Expr)(t:TE):Prop :=
 ∀ (pins:List (Addr×Obj)) (s:Shared) (σ:St) (H:Hp) (Q:VK),Inv X pins σ H s→t σ H Q→wpAny (model X.prog X.w) X.A (eval e X.env) (EP X pins σ Q) X.xe s
def PT (X:Cx)(e:Expr)(t:TT):Prop :=
 ∀ (pins:List (Addr×Obj)) (s:Shared) (σ:St) (H:Hp) (Q:Bool→Hp→Prop),Inv X pins σ H s→t σ H Q→wpAny (model X.prog X.w) X.A (isTrue e X.env (eval e X.env)) (TP X pins σ Q) X.xe s
def PW (X:Cx)(e:Expr)(t:TT):Prop :=
 ∀ (whole:Sem Value) (pins:List (Addr×Obj)) (s:Shared) (σ:St) (H:Hp) (Q:Bool→Hp→Prop),Inv X pins σ H s→t σ H Q→wpAny (model X.prog X.w) X.A (isTrue e X.env whole) (TP X pins σ Q) X.xe s
theorem PW.pt {X:Cx}{e:Expr}{t:TT}(h:PW X e t):PT X e t:=h _
def PA (X:Cx)(es:List Expr)(t:TA):Prop :=
 ∀ (pos:Pos) (pins:List (Addr×Obj)) (s:Shared) (σ:St) (H:Hp) (Q:List V→Hp→Prop),Inv X pins σ H s→t σ H Q→wpAny (model X.prog X.w) X.A (spliced (backTo pos (starEach es X.env))) (AP X pins σ Q) X.xe s
def PS (X:Cx)(st:Stmt)(t:TS):Prop :=
 ∀ (pins:List (Addr×Obj)) (s:Shared) (σ:St) (H:Hp) (D:Ends),Inv X pins σ H s→t D σ H→wpAny (model X.prog X.w) X.A (exec st X.env) (SP X pins D) X.xe s
def PSs (X:Cx)(st:List Stmt)(t:TS):Prop :=
 ∀ (pins:List (Addr×Obj)) (s:Shared) (σ:St) (H:Hp) (D:Ends),Inv X pins σ H s→t D σ H→wpAny (model X.prog X.w) X.A (execs st X.env) (SP X pins D) X.xe s
theorem thn {α:Type}{t:Sem α}{Q Q':α→Shared→Prop}{M:Model}{A:Around}{E:Value→Shared→Prop}{s:Shared}(h:wpAny M A t Q E s)(hQ:∀ a s,Q a s→Q' a s):wpAny M A t Q' E s:=wpAny_mono h hQ fun _ _ x=>x
end L2
namespace L2
open PySem PySem.Spec PyProof.Rows
section
variable {X:Cx}
theorem bin {a b:Expr}{ta tb:TE}(ha:PE X a ta)(hb:PE X b tb){pins:List (Addr×Obj)}{s:Shared}{σ:St}{H:Hp}{R:V→V→Hp→Prop}(I:Inv X pins σ H s)(h:ta σ H fun x H1=>tb σ H1 fun y H2=>R x y H2)
  {α:Type} {Q:α→Shared→Prop} {f:Value→Value→Sem α}
  (hf:∀ v u s2 x y H2,Inv X pins σ H2 s2→RelV x v→RelV y u→R x y H2→wpAny (model X.prog X.w) X.A (f v u) Q X.xe s2) :
  wpAny (model X.prog X.w) X.A (eval a X.env) (fun v s₁=>wpAny (model X.prog X.w) X.A (eval b X.env) (fun u s₂=>wpAny (model X.prog X.w) X.A (f v u) Q X.xe s₂) X.xe s₁) X.xe s:=by
 refine thn (ha pins s σ H _ I h) fun v s1 ⟨x,H1,I1,r1,q1⟩=>?_
 refine thn (hb pins s1 σ H1 _ I1 q1) fun u s2 ⟨y,H2,I2,r2,q2⟩=>?_
 exact hf v u s2 x y H2 I2 r1 r2 q2
def tVar (i:Nat):TE:=fun σ H Q=>∃ v,σ[i]?=some (some v)∧Q v H
def tC (v:V):TE:=fun _ H Q=>Q v H
theorem pe_var {i:Nat}{x:Str}{pos:Pos}(hN:X.N[i]?=some x)(hv:Vis X.env.scope x)(hd:(x == ("__debug__":Str))=false:=by decide)(hcd:(x == ("__classdict__":Str))=false:=by decide):PE X (.Name x pos) (tVar i):=by
 intro pins s σ H Q I h;obtain⟨v,e,h⟩:=h;obtain⟨m,hn,hl⟩:=I.loc;obtain⟨u,r,l⟩:=hl i x v hN e hv;have fin:EP X pins σ Q u s:=⟨v,H,I,r,h⟩
 rcases l with ⟨hk,hm⟩ | ⟨hk,c,hc,hcell⟩
 ·exact wpAny_Name (wpAny_loadName_local I.ok.kind hk hn hm fin) hd
 ·rcases hk with hk | hk
  ·exact wpAny_Name (wpAny_loadName_cell I.ok.kind hk hc hcell fin) hd
  ·exact wpAny_Name (wpAny_loadName_free I.ok.kind hk hc hcell fin hcd) hd
theorem pe_int {i j pos}:PE X (.Constant (.int i) j pos) (tC (.int i)):=fun _ _ _ H _ I h=>wpAny_Constant_int ⟨.int i,H,I.tok _,⟨_,rfl⟩,h⟩
theorem pe_bl {b j pos}:PE X (.Constant (.bool b) j pos) (tC (.bl b)):=fun _ _ _ H _ I h=>Constant_bool ⟨.bl b,H,I,rfl,h⟩
def Gl (X:Cx)(x:Str):Prop:=X.env.kindOf x=some .globalImplicit
theorem ld_glob {E:Value→Shared→Prop}{pins:List (Addr×Obj)}{s:Shared}{σ:St}{H:Hp}{x:Str}{u:Value}{pos:Pos}{Q:Value→Shared→Prop}(I:Inv X pins σ H s)(hg:Gl X x)(hm:X.mg x=some u)(h:Q u s)
  (hd:(x == ("__debug__":Str))=false:=by decide):wpAny (model X.prog X.w) X.A (eval (.Name x pos) X.env) Q E s :=
 Calls.Name_function_global I.ok.kind hg (Calls.loadGlobal_global (by rw[I.ok.glob];exact I.mod.glob.keeps I.bk) hm h) hd
theorem ld_blt {E:Value→Shared→Prop}{pins:List (Addr×Obj)}{s:Shared}{σ:St}{H:Hp}{x:Str}{u:Value}{pos:Pos}{Q:Value→Shared→Prop}(I:Inv X pins σ H s)(hg:Gl X x)(hm:X.mg x=none)(hv:bootBuiltins x=some u)(h:Q u s)
  (hn:x≠"__name__":=by decide) (hd:(x == ("__debug__":Str))=false:=by decide):wpAny (model X.prog X.w) X.A (eval (.Name x pos) X.env) Q E s:=by
 obtain⟨mb,h1,h2⟩:=I.mod.blt;exact Calls.Name_function_global I.ok.kind hg (Calls.loadGlobal_builtin (by rw[I.ok.glob];exact I.mod.glob.keeps I.bk) hm (by rw[I.ok.blt];exact h1.keeps I.bk) ((h2 x hn).trans hv) h) hd
variable {a b:Expr}{ta tb:TE}{pos:Pos}
def PC (X:Cx)(op:CmpOp)(a b:Expr)(t:TE):Prop :=
 ∀ (pins:List (Addr×Obj)) (s:Shared) (σ:St) (H:Hp) (Q:VK),Inv X pins σ H s→t σ H Q →
  wpAny (model X.prog X.w) X.A (eval a X.env) (fun v s₁=>wpAny (model X.prog X.w) X.A (eval b X.env) (fun u s₂=>wpAny (model X.prog X.w) X.A (compareOp op v u) (EP X pins σ Q) X.xe s₂) X.xe s₁) X.xe s
theorem nobehind (b:Expr){op:CmpOp}(h:op≠.In)(h2:op≠.NotIn):behindInMarks op b=false:=by
 have e1:(op == CmpOp.In)=false:=by cases op<;>first | rfl | exact absurd rfl h
 have e2:(op == CmpOp.NotIn)=false:=by cases op<;>first | rfl | exact absurd rfl h2
 cases b<;>simp[behindInMarks,e1,e2]
def tIsN (ta:TE):TE:=fun σ H Q=>ta σ H fun x H1=>Q (.bl (decide (x=.non))) H1
def tNotN (ta:TE):TE:=fun σ H Q=>ta σ H fun x H1=>Q (.bl (!decide (x=.non))) H1
def tB (t:TE):TT:=fun σ H Q=>t σ H fun x H1=>∃ c,x=.bl c∧Q c H1
theorem pt_cmp {op:CmpOp}{t:TE}(h:PC X op a b t)(h1:behindInMarks op b=false:=by first | exact nobehind _ (by decide) (by decide) | rfl):PT X (.Compare a [op] [b] pos) (tB t):=by
 intro pins s σ H Q I hw;refine wpAny_isTrue_Compare1 (thn (h pins s σ H _ I hw) fun v s1 h1=>thn h1 fun u s2 h2=>thn h2 fun c s3 ⟨x,H1,I1,r1,q1⟩=>?_) h1;obtain⟨d,rfl,q⟩:=q1;cases r1;exact wpAny_truthy_bool ⟨H1,I1,q⟩
theorem pt_val {e:Expr}{t:TE}(h:PE X e t)(he:∀ whole,isTrue e X.env whole=(do let v ← whole;standAt e.pos;holding [v] (truthy v)):=by intro _;rfl):PT X e (tB t):=by
 intro pins s σ H Q I hw;refine isTrue_plain (thn (h pins s σ H _ I hw) fun v s1 ⟨x,H1,I1,r1,q1⟩=>?_) (he _);obtain⟨d,rfl,q⟩:=q1;cases r1;exact wpAny_truthy_bool ⟨H1,I1,q⟩
variable {tA tB':TT}{rest:List Expr}
def tAnd (t u:TT):TT:=fun σ H Q=>t σ H fun c H1=>if c=true then u σ H1 Q else Q false H1
def tOr (t u:TT):TT:=fun σ H Q=>t σ H fun c H1=>if c=true then Q true H1 else u σ H1 Q
def tNot (t:TT):TT:=fun σ H Q=>t σ H fun c H1=>Q (!c) H1
theorem pw_and1 (ha:PT X a tA):PW X (.BoolOp .And [a] pos) tA:=by
 intro wh pins s σ H Q I h;refine isTrue_and (thn (ha pins s σ H Q I h) fun c s1 e=>?_);cases c with
 | true=>exact isTrue_and_nil e
 | false=>exact e
theorem pw_or1 (ha:PT X a tA):PW X (.BoolOp .Or [a] pos) tA:=by
 intro wh pins s σ H Q I h;refine isTrue_or (thn (ha pins s σ H Q I h) fun c s1 e=>?_);cases c with
 | false=>exact isTrue_or_nil e
 | true=>exact e
theorem pw_and (ha:PT X a tA)(hb:PW X (.BoolOp .And (b::rest) pos) tB'):PW X (.BoolOp .And (a::b::rest) pos) (tAnd tA tB'):=by
 intro wh pins s σ H Q I h;refine isTrue_and (thn (ha pins s σ H _ I h) fun c s1 ⟨H1,I1,q1⟩=>?_);cases c with
 | true=>exact hb wh pins s1 σ H1 Q I1 q1
 | false=>exact⟨H1,I1,q1⟩
theorem pw_or (ha:PT X a tA)(hb:PW X (.BoolOp .Or (b::rest) pos) tB'):PW X (.BoolOp .Or (a::b::rest) pos) (tOr tA tB'):=by
 intro wh pins s σ H Q I h;refine isTrue_or (thn (ha pins s σ H _ I h) fun c s1 ⟨H1,I1,q1⟩=>?_);cases c with
 | true=>exact⟨H1,I1,q1⟩
 | false=>exact hb wh pins s1 σ H1 Q I1 q1
theorem pt_not (ha:PT X a tA):PT X (.UnaryOp .Not a pos) (tNot tA):=by
 intro pins s σ H Q I h;exact isTrue_not (ha pins s σ H (fun c H1=>Q (!c) H1) I h)
def tAndV (ta tb:TE):TE:=fun σ H Q=>ta σ H fun x H1=>∃ c,x=.bl c∧if c=true then tb σ H1 Q else Q (.bl false) H1
def tOrV (ta tb:TE):TE:=fun σ H Q=>ta σ H fun x H1=>∃ c,x=.bl c∧if c=true then Q (.bl true) H1 else tb σ H1 Q
def tNotV (ta:TE):TE:=fun σ H Q=>ta σ H fun x H1=>∃ c,x=.bl c∧Q (.bl (!c)) H1
theorem pe_one {op}{t:TE}(h:PE X a t):PE X (.BoolOp op [a] pos) t:=fun pins s σ H Q I hw=>BoolOp_one (h pins s σ H Q I hw)
theorem pe_and (ha:PE X a ta)(hb:PE X (.BoolOp .And (b::rest) pos) tb):PE X (.BoolOp .And (a::b::rest) pos) (tAndV ta tb):=by
 intro pins s σ H Q I h;refine BoolOp_and (thn (ha pins s σ H _ I h) fun v s1 ⟨x,H1,I1,r1,q1⟩=>?_);obtain⟨c,rfl,q1⟩:=q1;cases r1;refine wpAny_truthy_bool ?_;cases c with
 | true=>exact hb pins s1 σ H1 Q I1 q1
 | false=>exact⟨.bl false,H1,I1,rfl,q1⟩
theorem pe_or (ha:PE X a ta)(hb:PE X (.BoolOp .Or (b::rest) pos) tb):PE X (.BoolOp .Or (a::b::rest) pos) (tOrV ta tb):=by
 intro pins s σ H Q I h;refine BoolOp_or (thn (ha pins s σ H _ I h) fun v s1 ⟨x,H1,I1,r1,q1⟩=>?_);obtain⟨c,rfl,q1⟩:=q1;cases r1;refine wpAny_truthy_bool ?_;cases c with
 | false=>exact hb pins s1 σ H1 Q I1 q1
 | true=>exact⟨.bl true,H1,I1,rfl,q1⟩
theorem pe_not (ha:PE X a ta):PE X (.UnaryOp .Not a pos) (tNotV ta):=by
 intro pins s σ H Q I h;refine UnaryOp_ (thn (ha pins s σ H _ I h) fun v s1 ⟨x,H1,I1,r1,q1⟩=>?_);obtain⟨c,rfl,q1⟩:=q1;cases r1;exact not_of (wpAny_truthy_bool ⟨.bl (!c),H1,I1,rfl,q1⟩)
end
end L2
namespace L2
open PySem PySem.Spec PyProof.Rows
def SqL (K:PySem.W.Frag)(H:Hp)(a:Addr)(xs:List V):Prop :=
 Rd H a (.lst xs) ∨
  ∃ (o:Obj) (its:Array Value) (n:Nat),K.lookup a=some o∧o.cls=.type "list"∧o.dict=none∧o.data=.seq its n∧its.size≤sizeLine∧Vals xs its.toList
def SqT (K:PySem.W.Frag)(H:Hp)(a:Addr)(xs:List V):Prop :=
 Rd H a (.tup xs) ∨
  ∃ (o:Obj) (its:Array Value) (n:Nat),K.lookup a=some o∧o.cls=.type "tuple"∧o.data=.seq its n∧its.size≤sizeLine∧Vals xs its.toList
def absV:Value→Option V
 | .none=>some .non
 | .bool b=>some (.bl b)
 | .int i _=>some (.int i)
 | .str x _=>some (.str x)
 | .bytes b _=>some (.byt b)
 | .float b _=>some (.flt b)
 | .ref a=>some (.ref a)
 | .type n=>some (.ty n)
 | _=>none
theorem RelV.abs {x:V}{u:Value}(r:RelV x u):absV u=some x:=by
 cases x with
 | non=>cases r;rfl
 | bl _=>cases r;rfl
 | int _=>obtain⟨t,rfl⟩:=r;rfl
 | str _=>obtain⟨t,rfl⟩:=r;rfl
 | byt _=>obtain⟨t,rfl⟩:=r;rfl
 | flt _=>obtain⟨t,rfl⟩:=r;rfl
 | ref _=>cases r;rfl
 | ty _=>cases r;rfl
theorem RelV.inj {x y:V}{u:Value}(r:RelV x u)(q:RelV y u):x=y:=Option.some.inj (r.abs.symm.trans q.abs)
theorem Vals.inj:∀ {xs ys:List V} {us:List Value},Vals xs us→Vals ys us→xs=ys
 | _,_,_,.nil,.nil=>rfl
 | _,_,_,.cons r t,.cons r' t'=>by rw[r.inj r',Vals.inj t t']
section
variable {X:Cx}{pins:List (Addr×Obj)}{σ:St}{H:Hp}{s:Shared}{a:Addr}{xs ys:List V}
theorem SqL.of {K:PySem.W.Frag}(h:H a=some (.lst xs)):SqL K H a xs:=.inl (.inl h)
theorem SqT.of {K:PySem.W.Frag}(h:H a=some (.tup xs)):SqT K H a xs:=.inl (.inl h)
theorem Inv.list (I:Inv X pins σ H s)(h:SqL X.K H a xs):∃ its:List Value,Vals xs its∧PlainL s.heap a its.toArray∧xs.length≤sizeLine:=by
 rcases h with h | ⟨o,its,n,hk,hc,hd,hs,hz,r⟩
 ·obtain⟨z,its,n,r,e⟩:=h.ok I.hok;exact⟨its,r,⟨_,n,e,rfl,rfl,rfl⟩,z⟩
 ·refine⟨its.toList,r,⟨o,n,I.kIn a o hk,hc,hd,by simpa using hs⟩,?_⟩;have e:=r.length;simp only[Array.length_toList] at e;omega
theorem Inv.tuple (I:Inv X pins σ H s)(h:SqT X.K H a xs):∃ its:List Value,Vals xs its∧IsTup s.heap a its.toArray∧xs.length≤sizeLine:=by
 rcases h with h | ⟨o,its,n,hk,hc,hs,hz,r⟩
 ·obtain⟨z,its,r,p⟩:=h.ok I.hok;exact⟨its,r,p,z⟩
 ·refine⟨its.toList,r,⟨o,I.kIn a o hk,hc,n,by simpa using hs⟩,?_⟩;have e:=r.length;simp only[Array.length_toList] at e;omega
theorem Inv.list_inj (I:Inv X pins σ H s)(h:SqL X.K H a xs)(h':SqL X.K H a ys):xs=ys:=by
 obtain⟨its,r,⟨o,n,e,_,_,d⟩,_⟩:=I.list h;obtain⟨its',r',⟨o',n',e',_,_,d'⟩,_⟩:=I.list h';rw[e] at e';cases e';rw[d] at d';injection d' with d1 _
 have:its=its':=by simpa using congrArg Array.toList d1
 subst this;exact r.inj r'
theorem Inv.tuple_inj (I:Inv X pins σ H s)(h:SqT X.K H a xs)(h':SqT X.K H a ys):xs=ys:=by
 obtain⟨its,r,⟨o,e,_,n,d⟩,_⟩:=I.tuple h;obtain⟨its',r',⟨o',e',_,n',d'⟩,_⟩:=I.tuple h';rw[e] at e';cases e';rw[d] at d';injection d' with d1 _
 have:its=its':=by simpa using congrArg Array.toList d1
 subst this;exact r.inj r'
end
abbrev Cx.wish (X:Cx)(E:Value→Shared→Prop):Cx:={X with xe:=E}
abbrev Cx.nox (X:Cx):Cx:=X.wish fun _ _=>False
theorem Cx.Ok.wish {X:Cx}(ok:X.Ok)(E:Value→Shared→Prop):(X.wish E).Ok :=
 ⟨ok.mod,ok.kind,ok.glob,ok.blt,ok.above,ok.inj,ok.has,ok.cab,ok.hd,ok.frames,ok.stk,ok.exf,ok.bs,ok.bsz,ok.noex,ok.exfs,ok.funs,ok.frf⟩
theorem Cx.Ok.unwish {X:Cx}{E:Value→Shared→Prop}(ok:(X.wish E).Ok):X.Ok :=
 ⟨ok.mod,ok.kind,ok.glob,ok.blt,ok.above,ok.inj,ok.has,ok.cab,ok.hd,ok.frames,ok.stk,ok.exf,ok.bs,ok.bsz,ok.noex,ok.exfs,ok.funs,ok.frf⟩
section
variable {X:Cx}{pins:List (Addr×Obj)}{σ:St}{H:Hp}{s:Shared}{E:Value→Shared→Prop}
theorem Inv.wish (I:Inv X pins σ H s)(E:Value→Shared→Prop):Inv (X.wish E) pins σ H s:=⟨I.ok.wish E,I.os,I.bare,I.base,I.loc,I.cell,I.free,I.freeC,I.pin,I.hok,I.len⟩
theorem Inv.unwish (I:Inv (X.wish E) pins σ H s):Inv X pins σ H s:=⟨I.ok.unwish,I.os,I.bare,I.base,I.loc,I.cell,I.free,I.freeC,I.pin,I.hok,I.len⟩
theorem SP.unwish {D:Ends}{f:Flow}{s':Shared}(h:SP (X.wish E) pins D f s'):SP X pins D f s':=by
 cases f with
 | next=>obtain⟨σ',H',I,q⟩:=h;exact⟨σ',H',I.unwish,q⟩
 | brk=>obtain⟨σ',H',I,q⟩:=h;exact⟨σ',H',I.unwish,q⟩
 | cont=>obtain⟨σ',H',I,q⟩:=h;exact⟨σ',H',I.unwish,q⟩
 | ret u=>obtain⟨v,σ',H',I,r,q⟩:=h;exact⟨v,σ',H',I.unwish,r,q⟩
theorem PE.nox {e:Expr}{t:TE}(h:PE X.nox e t):PE X e t:=fun pins s σ H Q I hw =>
 wpAny_mono (h pins s σ H Q (I.wish _) hw) (fun _ _ ⟨v,H',I',r,q⟩=>⟨v,H',I'.unwish,r,q⟩) fun _ _ z=>False.elim z
theorem PT.nox {e:Expr}{t:TT}(h:PT X.nox e t):PT X e t:=fun pins s σ H Q I hw =>
 wpAny_mono (h pins s σ H Q (I.wish _) hw) (fun _ _ ⟨H',I',q⟩=>⟨H',I'.unwish,q⟩) fun _ _ z=>False.elim z
theorem PSs.nox {st:List Stmt}{t:TS}(h:PSs X.nox st t):PSs X st t:=fun pins s σ H D I hw =>
 wpAny_mono (h pins s σ H D (I.wish _) hw) (fun _ _ q=>q.unwish) fun _ _ z=>False.elim z
end
section
variable {X:Cx}{st:Stmt}{rest:List Stmt}{t u:TS}{e:Expr}{te:TE}{pos:Pos}
def tNext:TS:=fun D σ H=>D.nx σ H
def tSeq (t u:TS):TS:=fun D σ H=>t {D with nx:=u D} σ H
theorem pss_nil:PSs X [] tNext:=fun _ _ σ H _ I h=>wpAny_execs_nil ⟨σ,H,I,h⟩
theorem pss_cons (h1:PS X st t)(h2:PSs X rest u):PSs X (st::rest) (tSeq t u):=by
 intro pins s σ H D I h;refine wpAny_execs_cons (thn (h1 pins s σ H {D with nx:=u D} I h) fun f s1 q=>?_);cases f with
 | next =>
  obtain⟨σ',H',I',q⟩:=q;exact h2 pins s1 σ' H' D I' q
 | ret v=>exact q
 | brk=>exact q
 | cont=>exact q
theorem pss_one (h1:PS X st t):PSs X [st] t:=by
 intro pins s σ H D I h;refine wpAny_execs_cons (thn (h1 pins s σ H D I h) fun f s1 q=>?_);cases f with
 | next=>exact wpAny_execs_nil q
 | ret v=>exact q
 | brk=>exact q
 | cont=>exact q
theorem Inv.quiet {pins:List (Addr×Obj)}{σ:St}{H:Hp}{s:Shared}(I:Inv X pins σ H s):interactive X.env=false:=by simp[interactive,I.ok.kind]
def tDrop (te:TE):TS:=fun D σ H=>te σ H fun _ H1=>D.nx σ H1
theorem ps_expr (he:PE X e te)(hs:swapsWith e none pos.line X.env=pure false:=by rfl):PS X (.Expr e pos) (tDrop te):=by
 intro pins s σ H D I h;exact wpAny_Expr_any (thn (he pins s σ H _ I h) fun v s1 ⟨x,H1,I1,r1,q1⟩=>⟨σ,H1,I1,q1⟩) I.quiet hs
def tRet (te:TE):TS:=fun D σ H=>te σ H D.rt
theorem ps_ret (he:PE X e te):PS X (.Return (some e) pos) (tRet te):=by
 intro pins s σ H D I h;exact wpAny_Return_some (thn (he pins s σ H _ I h) fun v s1 ⟨x,H1,I1,r1,q1⟩=>⟨x,σ,H1,I1,r1,q1⟩)
def tRetN:TS:=fun D _ H=>D.rt .non H
def tIfS (c:TT)(t u:TS):TS:=fun D σ H=>c σ H fun b H1=>if b=true then t D σ H1 else u D σ H1
theorem ps_if {c:Expr}{a b:List Stmt}{tc:TT}(hc:PT X c tc)(ha:PSs X a t)(hb:PSs X b u):PS X (.If c a b pos) (tIfS tc t u):=by
 intro pins s σ H D I h;refine wpAny_If (thn (hc pins s σ H _ I h) fun d s1 ⟨H1,I1,q1⟩=>?_);cases d with
 | true=>exact ha pins s1 σ H1 D I1 q1
 | false=>exact hb pins s1 σ H1 D I1 q1
end
abbrev TG:=V→St→Hp→(St→Hp→Prop)→Prop
abbrev TGs:=List V→St→Hp→(St→Hp→Prop)→Prop
def PG (X:Cx)(target:Expr)(t:TG):Prop :=
 ∀ (pins:List (Addr×Obj)) (s:Shared) (σ:St) (H:Hp) (v:V) (u:Value) (Q:St→Hp→Prop),Inv X pins σ H s→RelV v u→t v σ H Q →
  wpAny (model X.prog X.w) X.A (assign target X.env u) (fun _ s'=>∃ σ' H',Inv X pins σ' H' s'∧Q σ' H') X.xe s
def PGs (X:Cx)(ts:List Expr)(t:TGs):Prop :=
 ∀ (pins:List (Addr×Obj)) (s:Shared) (σ:St) (H:Hp) (vs:List V) (us:List Value) (Q:St→Hp→Prop),Inv X pins σ H s→Vals vs us→t vs σ H Q →
  wpAny (model X.prog X.w) X.A (assignInOrder ((assignEach ts X.env).map (·.2)) us) (fun _ s'=>∃ σ' H',Inv X pins σ' H' s'∧Q σ' H') X.xe s
abbrev TSet:=V→V→V→Hp→(Hp→Prop)→Prop
def PSet (X:Cx)(t:TSet):Prop :=
 ∀ (pins:List (Addr×Obj)) (s:Shared) (σ:St) (H:Hp) (o i v:V) (ov iv u:Value) (Q:Hp→Prop),Inv X pins σ H s→RelV o ov→RelV i iv→RelV v u→t o i v H Q →
  wpAny (model X.prog X.w) X.A (setItem ov iv u) (fun _ s'=>∃ H',Inv X pins σ H' s'∧Q H') X.xe s
section
variable {X:Cx}{pos:Pos}
def gName (i:Nat):TG:=fun v σ H Q=>Q (σ.set i (some v)) H
theorem pg_name {i:Nat}{x:Str}(hN:X.N.Nodup)(hi:X.N[i]?=some x)(hx:Loc X.env.scope x)(hf:X.fn x=true∨X.env.scope.names.lookup x=some .local:=by first | exact .inl rfl | exact .inr rfl | assumption):PG X (.Name x pos) (gName i):=by
 intro pins s σ H v u Q I r h;exact wpAny_assign_Name (store_ok I hN hi hx r (fun s' I'=>⟨_,H,I',h⟩) hf)
def gNil:TGs:=fun vs σ H Q=>vs=[]∧Q σ H
def gCons (t:TG)(u:TGs):TGs:=fun vs σ H Q=>∃ v r,vs=v::r∧t v σ H fun σ' H'=>u r σ' H' Q
theorem pgs_nil:PGs X [] gNil:=by
 intro pins s σ H vs us Q I r h;obtain⟨e,h⟩:=h;subst e;cases r;exact assignInOrder_nil ⟨σ,H,I,h⟩
theorem pgs_cons {e:Expr}{es:List Expr}{t:TG}{u:TGs}(h1:PG X e t)(h2:PGs X es u)
  (hs:(assignEach (e::es) X.env).map (·.2)=assign e X.env::(assignEach es X.env).map (·.2):=by rfl):PGs X (e::es) (gCons t u):=by
 intro pins s σ H vs us Q I r h;obtain⟨v,vr,e1,h⟩:=h;subst e1;cases r with
 | cons r rr =>
  rw[hs];refine assignInOrder_cons (thn (h1 pins s σ H _ _ _ I r h) fun _ s1 ⟨σ1,H1,I1,q1⟩=>?_);exact h2 pins s1 σ1 H1 _ _ Q I1 rr q1
def gTup (K:PySem.W.Frag)(n:Nat)(t:TGs):TG:=fun v σ H Q=>∃ a xs,v=.ref a∧SqT K H a xs∧xs.length=n∧t xs σ H Q
theorem pg_tup {es:List Expr}{k:Nat}{t:TGs}{n:Nat}(hc:X.calm=true)(h:PGs X es t)
  (hn:(assignEach es X.env).length=n:=by rfl) (hst:(assignEach es X.env).findIdx? (·.1)=none:=by rfl):PG X (.Tuple es k pos) (gTup X.K n t):=by
 intro pins s σ H v u Q I r hw;obtain⟨a,xs,e1,hq,hl,hw⟩:=hw;subst e1;cases r;obtain⟨its,rv,ht,hz⟩:=I.tuple hq;refine assign_Tuple_tuple (I.ok.hd hc) ht (by simp[hn,← hl,rv.length]) hst fun h' hx=>?_
 have I1:Inv X pins σ H {s with heap:=h'}:=I.kept (t':=s.toks) fun b o e=>hx b o (Nat.ne_of_lt (Heap.lt_size e)) e
 exact h pins _ σ H xs _ Q I1 (by simpa using rv) hw
def gSub (to ti:TE)(t:TSet):TG:=fun v σ H Q=>to σ H fun o H1=>ti σ H1 fun i H2=>t o i v H2 fun H3=>Q σ H3
theorem pg_sub {o i:Expr}{to ti:TE}{t:TSet}(ho:PE X o to)(hi:PE X i ti)(hs:PSet X t)
  (ha:∀ v,assign (.Subscript o i pos) X.env v=(do
   let ov ← holding [v] (eval o X.env)
   let iv ← holding [v,ov] (eval i X.env)
   standAt pos
   holding [v,ov,iv] (setItem ov iv v)
   release [v,ov,iv] []):=by intro _;rfl):PG X (.Subscript o i pos) (gSub to ti t):=by
 intro pins s σ H v u Q I r h;rw[ha];refine wpAny_bind (wpAny_holding (thn (ho pins s σ H _ I h) fun ov s1 ⟨x,H1,I1,r1,q1⟩=>?_));refine wpAny_bind (wpAny_holding (thn (hi pins s1 σ H1 _ I1 q1) fun iv s2 ⟨y,H2,I2,r2,q2⟩=>?_));refine wpAny_bind (wpAny_standAt (wpAny_bind (wpAny_holding (thn (hs pins s2 σ H2 x y v ov iv u _ I2 r1 r2 r q2) fun _ s3 ⟨H3,I3,q3⟩=>?_))));exact wpAny_release ⟨σ,H3,I3,q3⟩
def tAsg (te:TE)(g:TG):TS:=fun D σ H=>te σ H fun x H1=>g x σ H1 D.nx
theorem ps_asg {tg e:Expr}{te:TE}{g:TG}(he:PE X e te)(hg:PG X tg g)(hs:swapsWithSole [tg] e pos.line X.env=pure false:=by rfl)(hw:swappedStores [tg] e X.env=pure none:=by rfl)
  (h1:(assignEach [tg] X.env).map (·.2)=[assign tg X.env]:=by rfl):PS X (.Assign [tg] e pos) (tAsg te g):=by
 intro pins s σ H D I h;refine wpAny_Assign_stores (thn (he pins s σ H _ I h) fun v s1 ⟨x,H1,I1,r1,q1⟩=>?_) hs hw;rw[h1];exact thn (hg pins s1 σ H1 x v _ I1 r1 q1) fun _ s2 q=>q
theorem ps_set {i:Nat}{x:Str}{e:Expr}{te:TE}{pos':Pos}(hN:X.N.Nodup)(hi:X.N[i]?=some x)(hx:Loc X.env.scope x)(he:PE X e te)(hs:swapsWith e (some (.Name x pos')) pos.line X.env=pure false:=by rfl)(hf:X.fn x=true∨X.env.scope.names.lookup x=some .local:=by first | exact .inl rfl | exact .inr rfl | assumption) :
  PS X (.Assign [.Name x pos'] e pos) (tAsg te (gName i)):=by
 intro pins s σ H D I h;refine wpAny_Assign_Name (thn (he pins s σ H _ I h) fun v s1 ⟨y,H1,I1,r1,q1⟩=>?_) hs;exact store_ok I1 hN hi hx r1 (fun s2 I2=>⟨_,H1,I2,q1⟩) hf
end
section
variable {X:Cx}{pos:Pos}
def tWhile (c:TT)(tb:TS):TS:=fun D σ H=>∃ W:Nat→St→Hp→Prop,(∃ m,W m σ H)∧∀ m σ H,W m σ H →
 c σ H fun b H1=>if b=true then ∃ N:St→Hp→Prop,(∀ σ' H',N σ' H'→∃ m',m'<m∧W m' σ' H')∧tb {D with nx:=N,ct:=N,bk:=D.nx} σ H1 else D.nx σ H1
theorem ps_while {c:Expr}{body:List Stmt}{tc:TT}{tb:TS}(hp:PassesOwn (model X.prog X.w) X.A X.env X.xe)(hc:PT X c tc)(hb:PSs X body tb):PS X (.While c body [] pos) (tWhile tc tb):=by
 intro pins s σ H D I h;obtain⟨W,⟨m0,w0⟩,turn⟩:=h;refine wpAny_While (codeAny_whileLoop (fun n s'=>∃ σ' H',Inv X pins σ' H' s'∧W n σ' H') ?_ m0 ⟨σ,H,I,w0⟩);rintro n s1 ⟨σ1,H1,I1,w1⟩;refine wpAny_passesOwn hp (thn (hc pins s1 σ1 H1 _ I1 (turn n σ1 H1 w1)) fun b s2 ⟨H2,I2,q2⟩=>?_);cases b with
 | true =>
  obtain⟨N,hN,q2⟩:=q2;rw[if_pos rfl];refine wpAny_passesOwn hp (thn (hb pins s2 σ1 H2 _ I2 q2) fun f s3 q3=>?_);cases f with
  | next =>
   obtain⟨σ3,H3,I3,n3⟩:=q3;obtain⟨m',hm,w3⟩:=hN σ3 H3 n3;exact⟨m',hm,σ3,H3,I3,w3⟩
  | cont =>
   obtain⟨σ3,H3,I3,n3⟩:=q3;obtain⟨m',hm,w3⟩:=hN σ3 H3 n3;exact⟨m',hm,σ3,H3,I3,w3⟩
  | brk=>exact q3
  | ret v=>exact q3
 | false =>
  rw[if_neg Bool.false_ne_true];exact wpAny_execs_nil ⟨σ1,H2,I2,q2⟩
end
structure It where
 go:Nat→Hp→Prop
 yld:Nat→Hp→V→Hp→Prop
 stop:Nat→Hp→Prop
def FpOk (X:Cx)(pins:List (Addr×Obj))(H:Hp)(b:Addr):Prop :=
 H b=none∧b≠X.env.locals∧b∉X.fs∧(b∈X.ex∨X.s₀.heap.objs.size≤b)∧(∀ x c,X.env.cells.lookup x=some c→c≠b)∧∀ p∈X.pn++pins,p.1≠b
theorem Inv.fpOk {X:Cx}{pins:List (Addr×Obj)}{σ:St}{H H':Hp}{s:Shared}{b:Addr}(I:Inv X pins σ H s)(hb:s.heap.objs.size≤b)(hn:H' b=none):FpOk X pins H' b:=by
 refine⟨hn,Nat.ne_of_gt (Nat.lt_of_lt_of_le I.lt hb),I.nofs hb,.inr (Nat.le_trans I.sz hb),fun x c e z=>?_,fun p hp z=>?_⟩
 ·obtain⟨v,q⟩:=I.cell x c e;exact absurd (Nat.lt_of_lt_of_le q.lt (by rw[z];exact hb)) (Nat.lt_irrefl _)
 ·exact absurd (Nat.lt_of_lt_of_le (Heap.lt_size (I.pin p hp).1) (by rw[z];exact hb)) (Nat.lt_irrefl _)
structure Turn (P:Program)(w:World)(K:PySem.W.Frag)(tg:Expr)(J:It)(fp:List Addr)(it:Addr)(tn:Nat→Heap→Prop):Prop where
 mem:it∈fp
 obj:∀ i h,tn i h→∀ b∈fp,∃ o,h.get? b=some o∧∀ v,o.data≠.cell v
 keep:∀ i h h',tn i h→(∀ b∈fp,∀ o,h.get? b=some o→h'.get? b=some o)→tn i h'
 item:∀ (X:Cx),X.prog=P→X.w=w→X.K=K→X.calm=true→∀ (i:Nat) (pins:List (Addr×Obj)) (s:Shared) (σ:St) (H:Hp) (E:Value→Shared→Prop),Inv X pins σ H s→(∀ b∈fp,FpOk X pins H b)→tn i s.heap→J.go i H →
  wpAny (model P w) X.A (pyNext (.ref it)) (fun r s1=>∃ u,r=some u ∧
   wpAny (model P w) X.A (letOwnedTupleGo tg (.ref it) u) (fun _ s2=>∃ x H',Inv X pins σ H' s2∧RelV x u∧J.yld i H x H'∧tn (i+1) s2.heap∧∀ b∈fp,H' b=none) E s1) E s
 done:∀ (X:Cx),X.prog=P→X.w=w→X.K=K→X.calm=true→∀ (i:Nat) (pins:List (Addr×Obj)) (s:Shared) (σ:St) (H:Hp) (E:Value→Shared→Prop),Inv X pins σ H s→(∀ b∈fp,FpOk X pins H b)→tn i s.heap→J.stop i H →
  wpAny (model P w) X.A (pyNext (.ref it)) (fun r s1=>r=none∧Inv X pins σ H s1) E s
 self:∀ (A:Around) (i:Nat) (s:Shared) (Q:Value→Shared→Prop) (E:Value→Shared→Prop),tn i s.heap→Q (.ref it) s→wpAny (model P w) A (pyIter (.ref it)) Q E s
abbrev TI:=St→Hp→(It→Hp→Prop)→Prop
def PIE (X:Cx)(pins:List (Addr×Obj))(σ:St)(tg:Expr)(R:It→Hp→Prop)(itv:Value)(s2:Shared):Prop :=
 ∃ (it:Addr) (fp:List Addr) (tn:Nat→Heap→Prop) (J:It) (H':Hp),itv=.ref it∧Inv X pins σ H' s2∧Turn X.prog X.w X.K tg J fp it tn∧tn 0 s2.heap∧(∀ b∈fp,FpOk X pins H' b)∧R J H'
def PI (X:Cx)(tg iter:Expr)(wi:TI):Prop :=
 ∀ (pins:List (Addr×Obj)) (s:Shared) (σ:St) (H:Hp) (R:It→Hp→Prop),Inv X pins σ H s→wi σ H R →
  wpAny (model X.prog X.w) X.A (eval iter X.env) (fun v s1=>wpAny (model X.prog X.w) X.A (pyIter v) (PIE X pins σ tg R) X.xe s1) X.xe s
theorem go_of {M:Model}{A:Around}{E:Value→Shared→Prop}{s:Shared}{tg:Expr}{it:Addr}{u:Value}{o:Obj}{n:String}{vs:Array Value}{Q:Unit→Shared→Prop}(ho:s.heap.get? it=some o)(hc:o.cls=.type n)(hd:o.data=.fields vs)
    (hn:["enumerate", "zip", "dict_itemiterator", "dict_reverseitemiterator", "odict_iterator", "itertools.zip_longest", "itertools.pairwise"].contains n=false) (hQ:Q () s):wpAny M A (letOwnedTupleGo tg (.ref it) u) Q E s:=by
  unfold letOwnedTupleGo;cases tg<;>first
    | exact wpAny_pure hQ
    | (cases u<;>first
        | exact wpAny_pure hQ
        | (refine wpAny_bind (wpAny_load ho ?_)
           rw[hc,hd];show wpAny M A (if (["enumerate", "zip", "dict_itemiterator", "dict_reverseitemiterator", "odict_iterator", "itertools.zip_longest", "itertools.pairwise"].contains n && vs[0]? == some (rawInt _))=true then _ else _) Q E s;rw[if_neg (by intro h;rw[hn,Bool.false_and] at h;cases h)]
           exact wpAny_pure hQ))
def Itl (K:PySem.W.Frag)(a:Addr):It :=
 ⟨fun i H=>∃ xs x,SqL K H a xs∧xs[i]?=some x,fun i H x H'=>H'=H∧∀ xs,SqL K H a xs→xs[i]?=some x,fun i H=>∃ xs,SqL K H a xs∧xs.length≤i⟩
def Itt (K:PySem.W.Frag)(a:Addr):It :=
 ⟨fun i H=>∃ xs x,SqT K H a xs∧xs[i]?=some x,fun i H x H'=>H'=H∧∀ xs,SqT K H a xs→xs[i]?=some x,fun i H=>∃ xs,SqT K H a xs∧xs.length≤i⟩
def Itr (lo:Int)(n:Nat):It:=⟨fun i _=>i<n,fun i H x H'=>H'=H∧x=.int (lo+i),fun i _=>n≤i⟩
theorem turn_list {P:Program}{w:World}{K:PySem.W.Frag}{tg:Expr}(a it:Addr):Turn P w K tg (Itl K a) [it] it (fun i h=>h.IsListIter it a i) where
 mem:=by simp
 obj:=fun i h st b hb=>by
  have e:b=it:=by simpa using hb
  subst e;obtain⟨o,e,c,d⟩:=st;exact⟨o,e,fun v z=>by rw[d] at z;cases z⟩
 keep:=fun i h h' st k=>st.at fun o e=>k it (by simp) o e
 item:=by
  intro X hP hw hK hc i pins s σ H E I hf st hg;subst hP hw hK;obtain⟨xs,x,hq,hx⟩:=hg;obtain⟨its,rv,p,hz⟩:=I.list hq;obtain⟨u,hu,ru⟩:=rv.get hx;obtain⟨f0,f1,f2,f3,f4,f5⟩:=hf it (by simp);refine wpAny_pyNext_list_item st p.isList (x:=u) (by simpa using hu) fun h' st' sb=>?_
  have I1:Inv X pins σ H {s with heap:=h'}:=I.turned (t':=s.toks) (fun b o hb e=>(sb.2 b hb).trans e) f0 f1 f3 f4 f5;obtain⟨o,e,c,d⟩:=id st';exact⟨u,rfl,go_of (s:={s with heap:=h'}) e c d (by decide) ⟨x,H,I1,ru,⟨rfl,fun ys hy=>by rw[I.list_inj hy hq];exact hx⟩,st',fun b hb=>(hf b hb).1⟩⟩
 done:=by
  intro X hP hw hK hc i pins s σ H E I hf st hg;subst hP hw hK;obtain⟨xs,hq,hx⟩:=hg;obtain⟨its,rv,p,hz⟩:=I.list hq;obtain⟨f0,f1,f2,f3,f4,f5⟩:=hf it (by simp);have hl:=rv.length;exact wpAny_pyNext_list_end (I.ok.hd hc) st p.isList (by simp;omega) fun h' eb=>⟨rfl,I.turned (t':=s.toks) (fun b o hb e=>eb b o hb e) f0 f1 f3 f4 f5⟩
 self:=fun _ _ _ _ _ st h=>wpAny_pyIter_listiter st h
theorem turn_tuple {P:Program}{w:World}{K:PySem.W.Frag}{tg:Expr}(a it:Addr):Turn P w K tg (Itt K a) [it] it (fun i h=>h.IsTupleIter it a i) where
 mem:=by simp
 obj:=fun i h st b hb=>by
  have e:b=it:=by simpa using hb
  subst e;obtain⟨o,e,c,d⟩:=st;exact⟨o,e,fun v z=>by rw[d] at z;cases z⟩
 keep:=fun i h h' st k=>st.at fun o e=>k it (by simp) o e
 item:=by
  intro X hP hw hK hc i pins s σ H E I hf st hg;subst hP hw hK;obtain⟨xs,x,hq,hx⟩:=hg;obtain⟨its,rv,p,hz⟩:=I.tuple hq;obtain⟨u,hu,ru⟩:=rv.get hx;obtain⟨f0,f1,f2,f3,f4,f5⟩:=hf it (by simp);refine wpAny_pyNext_tuple_item st (show s.heap.IsTuple a its.toArray from p) (x:=u) (by simpa using hu) fun h' st' sb=>?_
  have I1:Inv X pins σ H {s with heap:=h'}:=I.turned (t':=s.toks) (fun b o hb e=>(sb.2 b hb).trans e) f0 f1 f3 f4 f5;obtain⟨o,e,c,d⟩:=id st';exact⟨u,rfl,go_of (s:={s with heap:=h'}) e c d (by decide) ⟨x,H,I1,ru,⟨rfl,fun ys hy=>by rw[I.tuple_inj hy hq];exact hx⟩,st',fun b hb=>(hf b hb).1⟩⟩
 done:=by
  intro X hP hw hK hc i pins s σ H E I hf st hg;subst hP hw hK;obtain⟨xs,hq,hx⟩:=hg;obtain⟨its,rv,p,hz⟩:=I.tuple hq;obtain⟨f0,f1,f2,f3,f4,f5⟩:=hf it (by simp);have hl:=rv.length;exact wpAny_pyNext_tuple_end (I.ok.hd hc) st (show s.heap.IsTuple a its.toArray from p) (by simp;omega) fun h' eb=>⟨rfl,I.turned (t':=s.toks) (fun b o hb e=>eb b o hb e) f0 f1 f3 f4 f5⟩
 self:=fun _ _ _ _ _ st h=>wpAny_pyIter_tupleiter st h
theorem turn_range {P:Program}{w:World}{K:PySem.W.Frag}{tg:Expr}(it:Addr)(lo:Int)(n:Nat):Turn P w K tg (Itr lo n) [it] it (fun i h=>IsRangeIter h it (lo+(i:Nat)*1) ((n:Int)-(i:Nat)) 1) where
 mem:=by simp
 obj:=fun i h st b hb=>by
  have e:b=it:=by simpa using hb
  subst e
  exact⟨_,st,fun v z=>by
   have z':Data.fields _=Data.cell v:=z
   cases z'⟩
 keep:=fun i h h' st k=>k it (by simp) _ st
 item:=by
  intro X hP hw hK hc i pins s σ H E I hf st hg;subst hP hw hK;obtain⟨f0,f1,f2,f3,f4,f5⟩:=hf it (by simp);have W:=Walks.range (prog:=X.prog) (w:=X.w) (I.ok.hd hc) it lo 1 n;refine W.item i s _ _ hg st fun v h' tk hv st' kk=>?_
  obtain⟨t,rfl⟩:=hv;have I1:Inv X pins σ H {s with heap:=h',toks:=tk}:=I.turned (fun b o hb e=>kk b o (by simpa using hb) e) f0 f1 f3 f4 f5;refine⟨_,rfl,go_of (s:={s with heap:=h',toks:=tk}) (n:="range_iterator") st' rfl rfl (by decide) ⟨.int (lo+i),H,I1,⟨t,?_⟩,⟨rfl,rfl⟩,st',fun b hb=>(hf b hb).1⟩⟩;rw[Int.mul_one]
 done:=by
  intro X hP hw hK hc i pins s σ H E I hf st hg;subst hP hw hK;obtain⟨f0,f1,f2,f3,f4,f5⟩:=hf it (by simp);exact wpAny_pyNext_range_end (I.ok.hd hc) st (by have:n≤i:=hg;omega) fun h' eb=>⟨rfl,I.turned (t':=s.toks) (fun b o hb e=>eb b o hb e) f0 f1 f3 f4 f5⟩
 self:=fun _ _ _ _ _ st h=>wpAny_pyIter_rangeiter st h
end L2
namespace L2
open PySem PySem.Spec PyProof.Rows
section
variable {X:Cx}{tg:Expr}
def iList (K:PySem.W.Frag)(tl:TE):TI:=fun σ H R=>tl σ H fun x H1=>∃ a,x=.ref a∧(∃ xs,SqL K H1 a xs)∧R (Itl K a) H1
def iTup (K:PySem.W.Frag)(tl:TE):TI:=fun σ H R=>tl σ H fun x H1=>∃ a,x=.ref a∧(∃ xs,SqT K H1 a xs)∧R (Itt K a) H1
theorem pi_list {l:Expr}{tl:TE}(hl:PE X l tl):PI X tg l (iList X.K tl):=by
 intro pins s σ H R I h;refine thn (hl pins s σ H _ I h) fun v s1 ⟨x,H1,I1,r1,q1⟩=>?_
 obtain⟨a,e,⟨xs,hq⟩,q⟩:=q1;subst e;cases r1;obtain⟨its,rv,p,hz⟩:=I1.list hq;refine wpAny_pyIter_list p.isList ?_;refine⟨s1.heap.objs.size,[s1.heap.objs.size],_,_,H1,rfl,I1.kept (t':=s1.toks) fun b o e=>Heap.get?_push_of_some _ e,turn_list a _,⟨_,Heap.get?_push_size _ rfl,rfl,rfl⟩,fun b hb=>?_,q⟩;have e:b=s1.heap.objs.size:=by simpa using hb
 subst e;exact I1.fpOk (Nat.le_refl _) (I1.hok.fresh (Nat.le_refl _))
theorem pi_tup {l:Expr}{tl:TE}(hl:PE X l tl):PI X tg l (iTup X.K tl):=by
 intro pins s σ H R I h;refine thn (hl pins s σ H _ I h) fun v s1 ⟨x,H1,I1,r1,q1⟩=>?_
 obtain⟨a,e,⟨xs,hq⟩,q⟩:=q1;subst e;cases r1;obtain⟨its,rv,p,hz⟩:=I1.tuple hq;refine wpAny_pyIter_tuple (show s1.heap.IsTuple a its.toArray from p) ?_;refine⟨s1.heap.objs.size,[s1.heap.objs.size],_,_,H1,rfl,I1.kept (t':=s1.toks) fun b o e=>Heap.get?_push_of_some _ e,turn_tuple a _,⟨_,Heap.get?_push_size _ rfl,rfl,rfl⟩,fun b hb=>?_,q⟩;have e:b=s1.heap.objs.size:=by simpa using hb
 subst e;exact I1.fpOk (Nat.le_refl _) (I1.hok.fresh (Nat.le_refl _))
theorem range_it {pins:List (Addr×Obj)}{σ:St}{H:Hp}{s:Shared}{R:It→Hp→Prop}{E:Value→Shared→Prop}{lo hi:Int}{t u v:Tok}{tk:Nat}(I:Inv X pins σ H s)(h1:-(2 ^ 62)≤lo)(h2:lo<2 ^ 62)(h3:-(2 ^ 62)≤hi)(h4:hi<2 ^ 62)
  (q:R (Itr lo (hi-lo).toNat) H):wpAny (model X.prog X.w) X.A (pyIter (.ref s.heap.objs.size)) (PIE X pins σ tg R) E {s with heap:=s.heap.push {cls:=.type "range",data:=.fields #[.int lo t,.int hi u,.int 1 v]},toks:=tk}:=by
 refine wpAny_pyIter_range (IsRange.new ..) (small_one h1 h2 h3 h4) ?_;have I1:Inv X pins σ H {s with heap:=s.heap.push {cls:=.type "range",data:=.fields #[.int lo t,.int hi u,.int 1 v]},toks:=tk}:=I.kept fun b o e=>Heap.get?_push_of_some _ e
 refine⟨(s.heap.push {cls:=.type "range",data:=.fields #[.int lo t,.int hi u,.int 1 v]}).objs.size,[(s.heap.push {cls:=.type "range",data:=.fields #[.int lo t,.int hi u,.int 1 v]}).objs.size],_,_,H,rfl,
  I1.kept (t':=tk) fun b o e=>Heap.get?_push_of_some _ e,turn_range _ lo (hi-lo).toNat,?_,fun b hb=>?_,q⟩
 ·have e1:lo+((0:Nat):Int)*1=lo:=by simp
  have e2:(((hi-lo).toNat:Nat):Int)-((0:Nat):Int)=Builtin.Range.rangeSize lo hi 1:=by rw[rangeSize_one];split<;>omega
  show IsRangeIter _ _ (lo+((0:Nat):Int)*1) ((((hi-lo).toNat:Nat):Int)-((0:Nat):Int)) 1;rw[e1,e2];exact Heap.get?_push_size _ rfl
 ·have e:b=(s.heap.push {cls:=.type "range",data:=.fields #[.int lo t,.int hi u,.int 1 v]}).objs.size:=by simpa using hb
  subst e;exact I1.fpOk (Nat.le_refl _) (I1.hok.fresh (Nat.le_refl _))
def iRng1 (ta:TA):TI:=fun σ H R=>ta σ H fun vs H1=>∃ j:Int,vs=[.int j]∧-(2 ^ 62)≤j∧j<2 ^ 62∧R (Itr 0 j.toNat) H1
def iRng2 (ta:TA):TI:=fun σ H R=>ta σ H fun vs H1=>∃ i j:Int,vs=[.int i,.int j]∧(-(2 ^ 62)≤i∧i<2 ^ 62∧-(2 ^ 62)≤j∧j<2 ^ 62)∧R (Itr i (j-i).toNat) H1
theorem pi_range1 {a:Expr}{ta:TA}{p pos:Pos}(hg:Gl X "range")(hm:X.mg "range"=none)(ha:PA X [a] ta)(hs:starEach [a] X.env=[(false,eval a X.env)]:=by rfl):PI X tg (.Call (.Name "range" p) [a] [] pos) (iRng1 ta):=by
 intro pins s σ H R I h;refine Call_ (ld_blt I hg hm boot_range (PyProof.Rows.callWith_type1 (thn (ha pos pins s σ H _ I h) fun us s1 ⟨vs,H1,I1,r1,q1⟩=>?_) hs rfl));obtain⟨j,e,q1,q2,q⟩:=q1;subst e;cases r1 with
 | cons r rr =>
  cases rr;obtain⟨t,rfl⟩:=r;exact call_range_1 (range_it I1 (by omega) (by omega) q1 q2 (by simpa using q))
theorem pi_range2 {a b:Expr}{ta:TA}{p pos:Pos}(hg:Gl X "range")(hm:X.mg "range"=none)(ha:PA X [a,b] ta)(hs:starEach [a,b] X.env=[(false,eval a X.env),(false,eval b X.env)]:=by rfl)(hs2:starEach [b] X.env=[(false,eval b X.env)]:=by rfl) :
  PI X tg (.Call (.Name "range" p) [a,b] [] pos) (iRng2 ta):=by
 intro pins s σ H R I h;refine Call_ (ld_blt I hg hm boot_range (PyProof.Rows.callWith_type1 (thn (ha pos pins s σ H _ I h) fun us s1 ⟨vs,H1,I1,r1,q1⟩=>?_) (by rw[hs,hs2]) (by rw[hs2];rfl)));obtain⟨i,j,e,⟨q1,q2,q3,q4⟩,q⟩:=q1;subst e;cases r1 with
 | cons r rr =>
  cases rr with
  | cons r' rr =>
   cases rr;obtain⟨t,rfl⟩:=r;obtain⟨t',rfl⟩:=r';exact call_range_2 (range_it I1 q1 q2 q3 q4 q)
def tFor (wi:TI)(g:TG)(tb:TS):TS:=fun D σ H=>wi σ H fun J H1=>∃ W:Nat→Nat→St→Hp→Prop,(∃ m,W 0 m σ H1)∧∀ i m σ H,W i m σ H →
 (J.stop i H∧D.nx σ H)∨(J.go i H∧∃ N:St→Hp→Prop,(∀ σ' H',N σ' H'→∃ m',m'<m∧W (i+1) m' σ' H')∧∀ x H',J.yld i H x H'→g x σ H' fun σ2 H2=>tb {D with nx:=N,ct:=N,bk:=D.nx} σ2 H2)
def pinsAt (fp:List Addr)(h:Heap):List (Addr×Obj):=fp.filterMap fun b=>(h.get? b).map fun o=>(b,o)
theorem mem_pinsAt {fp:List Addr}{h:Heap}{b:Addr}{o:Obj}(hb:b∈fp)(e:h.get? b=some o):(b,o)∈pinsAt fp h:=List.mem_filterMap.mpr ⟨b,hb,by rw[e];rfl⟩
theorem of_pinsAt {fp:List Addr}{h:Heap}{p:Addr×Obj}(hp:p∈pinsAt fp h):p.1∈fp∧h.get? p.1=some p.2:=by
 obtain⟨b,hb,e⟩:=List.mem_filterMap.mp hp;cases q:h.get? b with
 | none=>rw[q] at e;cases e
 | some o =>
  rw[q] at e;have e':(b,o)=p:=Option.some.inj e;subst e';exact⟨hb,q⟩
theorem Inv.pinned {pins:List (Addr×Obj)}{σ:St}{H:Hp}{s:Shared}{fp:List Addr}(I:Inv X pins σ H s)(hf:∀ b∈fp,FpOk X pins H b)(ho:∀ b∈fp,∃ o,s.heap.get? b=some o∧∀ v,o.data≠.cell v):Inv X (pins++pinsAt fp s.heap) σ H s :=
 I.pins_of fun p hp=>(List.mem_append.mp hp).elim (fun z=>I.pin p (List.mem_append_right _ z)) fun z=>by
  obtain⟨hb,e⟩:=of_pinsAt z;obtain⟨f0,f1,f2,_⟩:=hf p.1 hb;obtain⟨o,e',d⟩:=ho p.1 hb;rw[e] at e';cases e';exact⟨e,f0,f1,f2,d⟩
theorem Inv.unpinned {pins pl:List (Addr×Obj)}{σ:St}{H:Hp}{s:Shared}(I:Inv X (pins++pl) σ H s):Inv X pins σ H s:=I.pins_of fun p hp=>I.pin p (List.mem_append_right _ (List.mem_append_left _ hp))
theorem ps_for {iter:Expr}{body:List Stmt}{wi:TI}{g:TG}{tb:TS}{pos:Pos}(hp:PassesOwn (model X.prog X.w) X.A X.env X.xe)(hc:X.calm=true)(hi:PI X tg iter wi)(hg:PG X tg g)(hb:PSs X body tb)
  (hs:∀ x,foldedSetIterable iter X.env x=pure x:=by intro _;rfl):PS X (.For tg iter body [] pos) (tFor wi g tb):=by
 intro pins s σ H D I h;refine wpAny_For (thn (hi pins s σ H _ I h) fun v s1 h1=>thn h1 fun itv s2 h2=>?_) hs;obtain⟨it,fp,tn,J,H2,e,I2,T,st2,f2,W,⟨m0,w0⟩,turn⟩:=h2;subst e;have stat:∀ {H':Hp},(∀ b∈fp,H' b=none)→∀ b∈fp,FpOk X pins H' b:=fun hn b hb=>⟨hn b hb,(f2 b hb).2⟩
 refine codeAny_forLoop_any (fun n s'=>∃ i σ' H',Inv X pins σ' H' s'∧tn i s'.heap∧(∀ b∈fp,H' b=none)∧W i n σ' H') ?_ m0 ⟨0,σ,H2,I2,st2,fun b hb=>(f2 b hb).1,w0⟩;rintro n s3 ⟨i,σ3,H3,I3,st3,fr3,w3⟩;rcases turn i n σ3 H3 w3 with ⟨stop,qn⟩ | ⟨go,N,hN,step⟩
 ·refine wpAny_passesOwn hp (thn (T.done X rfl rfl rfl hc i pins s3 σ3 H3 X.xe I3 (stat fr3) st3 stop) fun r s4 ⟨hr,I4⟩=>?_);subst hr;exact wpAny_execs_nil ⟨σ3,H3,I4,qn⟩
 ·refine wpAny_passesOwn hp (thn (T.item X rfl rfl rfl hc i pins s3 σ3 H3 X.xe I3 (stat fr3) st3 go) fun r s4 ⟨u,hr,h4⟩=>?_);subst hr;refine wpAny_passesOwn hp (thn h4 fun _ s5 ⟨x,H5,I5,r5,y5,st5,fr5⟩=>?_);have I5':=I5.pinned (stat fr5) (T.obj _ _ st5);refine wpAny_passesOwn hp (thn (hg _ s5 σ3 H5 x u _ I5' r5 (step x H5 y5)) fun _ s6 ⟨σ6,H6,I6,q6⟩=>?_);refine wpAny_passesOwn hp (thn (hb _ s6 σ6 H6 _ I6 q6) fun f s7 q7=>?_);have again:∀ {σ7:St} {H7:Hp},Inv X (pins++pinsAt fp s5.heap) σ7 H7 s7→N σ7 H7→∃ m,m<n∧∃ i σ' H',Inv X pins σ' H' s7∧tn i s7.heap∧(∀ b∈fp,H' b=none)∧W i m σ' H':=fun {σ7 H7} I7 n7=>by
   obtain⟨m',hm,w7⟩:=hN σ7 H7 n7;refine⟨m',hm,i+1,σ7,H7,I7.unpinned,T.keep _ _ _ st5 fun b hb o e=>(I7.pin (b,o) (List.mem_append_right _ (List.mem_append_right _ (mem_pinsAt hb e)))).1,fun b hb=>?_,w7⟩;obtain⟨o,e,d⟩:=T.obj _ _ st5 b hb;exact (I7.pin (b,o) (List.mem_append_right _ (List.mem_append_right _ (mem_pinsAt hb e)))).2.1
  cases f with
  | next=>obtain⟨σ7,H7,I7,n7⟩:=q7;exact again I7 n7
  | cont=>obtain⟨σ7,H7,I7,n7⟩:=q7;exact again I7 n7
  | brk=>obtain⟨σ7,H7,I7,q7⟩:=q7;exact⟨σ7,H7,I7.unpinned,q7⟩
  | ret v=>obtain⟨x7,σ7,H7,I7,r7,q7⟩:=q7;exact⟨x7,σ7,H7,I7.unpinned,r7,q7⟩
end
theorem for_list {K:PySem.W.Frag}{a:Addr}{xs:List V}{g:TG}{tb:TS}{D:Ends}{σ:St}{H:Hp}(Pv:Nat→St→Hp→Prop)(h0:Pv 0 σ H)(hl:∀ i σ H,i≤xs.length→Pv i σ H→SqL K H a xs)
  (hs:∀ i x σ H,xs[i]?=some x→Pv i σ H→g x σ H fun σ2 H2=>tb {D with nx:=Pv (i+1),ct:=Pv (i+1),bk:=D.nx} σ2 H2) (hd:∀ σ H,Pv xs.length σ H→D.nx σ H) :
  ∃ W:Nat→Nat→St→Hp→Prop,(∃ m,W 0 m σ H)∧∀ i m σ H,W i m σ H →
   ((Itl K a).stop i H∧D.nx σ H)∨((Itl K a).go i H∧∃ N:St→Hp→Prop,(∀ σ' H',N σ' H'→∃ m',m'<m∧W (i+1) m' σ' H')∧∀ x H',(Itl K a).yld i H x H'→g x σ H' fun σ2 H2=>tb {D with nx:=N,ct:=N,bk:=D.nx} σ2 H2):=by
 refine⟨fun i m σ H=>m=xs.length-i∧i≤xs.length∧Pv i σ H,⟨xs.length,by simp,Nat.zero_le _,h0⟩,?_⟩;rintro i m σ H ⟨rfl,hi,p⟩;have q:=hl i σ H hi p;by_cases hlt:i<xs.length
 ·refine .inr ⟨⟨xs,xs[i],q,by simp[hlt]⟩,Pv (i+1),fun σ' H' p'=>⟨xs.length-(i+1),by omega,rfl,hlt,p'⟩,fun x H' y=>?_⟩;obtain⟨e,y⟩:=y;subst e;exact hs i x σ _ (y xs q) p
 ·have e:i=xs.length:=by omega
  subst e;exact .inl ⟨⟨xs,q,Nat.le_refl _⟩,hd σ H p⟩
theorem for_tup {K:PySem.W.Frag}{a:Addr}{xs:List V}{g:TG}{tb:TS}{D:Ends}{σ:St}{H:Hp}(Pv:Nat→St→Hp→Prop)(h0:Pv 0 σ H)(hl:∀ i σ H,i≤xs.length→Pv i σ H→SqT K H a xs)
  (hs:∀ i x σ H,xs[i]?=some x→Pv i σ H→g x σ H fun σ2 H2=>tb {D with nx:=Pv (i+1),ct:=Pv (i+1),bk:=D.nx} σ2 H2) (hd:∀ σ H,Pv xs.length σ H→D.nx σ H) :
  ∃ W:Nat→Nat→St→Hp→Prop,(∃ m,W 0 m σ H)∧∀ i m σ H,W i m σ H →
   ((Itt K a).stop i H∧D.nx σ H)∨((Itt K a).go i H∧∃ N:St→Hp→Prop,(∀ σ' H',N σ' H'→∃ m',m'<m∧W (i+1) m' σ' H')∧∀ x H',(Itt K a).yld i H x H'→g x σ H' fun σ2 H2=>tb {D with nx:=N,ct:=N,bk:=D.nx} σ2 H2):=by
 refine⟨fun i m σ H=>m=xs.length-i∧i≤xs.length∧Pv i σ H,⟨xs.length,by simp,Nat.zero_le _,h0⟩,?_⟩;rintro i m σ H ⟨rfl,hi,p⟩;have q:=hl i σ H hi p;by_cases hlt:i<xs.length
 ·refine .inr ⟨⟨xs,xs[i],q,by simp[hlt]⟩,Pv (i+1),fun σ' H' p'=>⟨xs.length-(i+1),by omega,rfl,hlt,p'⟩,fun x H' y=>?_⟩;obtain⟨e,y⟩:=y;subst e;exact hs i x σ _ (y xs q) p
 ·have e:i=xs.length:=by omega
  subst e;exact .inl ⟨⟨xs,q,Nat.le_refl _⟩,hd σ H p⟩
theorem for_range {lo:Int}{n:Nat}{g:TG}{tb:TS}{D:Ends}{σ:St}{H:Hp}(Pv:Nat→St→Hp→Prop)(h0:Pv 0 σ H)
  (hs:∀ i σ H,i<n→Pv i σ H→g (.int (lo+i)) σ H fun σ2 H2=>tb {D with nx:=Pv (i+1),ct:=Pv (i+1),bk:=D.nx} σ2 H2) (hd:∀ σ H,Pv n σ H→D.nx σ H) :
  ∃ W:Nat→Nat→St→Hp→Prop,(∃ m,W 0 m σ H)∧∀ i m σ H,W i m σ H →
   ((Itr lo n).stop i H∧D.nx σ H)∨((Itr lo n).go i H∧∃ N:St→Hp→Prop,(∀ σ' H',N σ' H'→∃ m',m'<m∧W (i+1) m' σ' H')∧∀ x H',(Itr lo n).yld i H x H'→g x σ H' fun σ2 H2=>tb {D with nx:=N,ct:=N,bk:=D.nx} σ2 H2):=by
 refine⟨fun i m σ H=>m=n-i∧i≤n∧Pv i σ H,⟨n,by simp,Nat.zero_le _,h0⟩,?_⟩;rintro i m σ H ⟨rfl,hi,p⟩;by_cases hlt:i<n
 ·refine .inr ⟨hlt,Pv (i+1),fun σ' H' p'=>⟨n-(i+1),by omega,rfl,hlt,p'⟩,fun x H' y=>?_⟩;obtain⟨e,y⟩:=y;subst e y;exact hs i σ _ hlt p
 ·have e:i=n:=by omega
  subst e;exact .inl ⟨Nat.le_refl _,hd σ H p⟩
theorem while_by {c:TT}{tb:TS}{D:Ends}{σ:St}{H:Hp}(Pv:St→Hp→Prop)(μ:St→Hp→Nat)(h0:Pv σ H)
  (hs:∀ σ H,Pv σ H→c σ H fun b H1=>if b=true then tb {D with nx:=fun σ' H'=>Pv σ' H'∧μ σ' H'<μ σ H,ct:=fun σ' H'=>Pv σ' H'∧μ σ' H'<μ σ H,bk:=D.nx} σ H1 else D.nx σ H1)
  (mono:∀ σ H Q Q',(∀ b H1,Q b H1→Q' b H1)→c σ H Q→c σ H Q'):tWhile c tb D σ H:=by
 refine⟨fun m σ H=>m=μ σ H∧Pv σ H,⟨_,rfl,h0⟩,?_⟩;rintro m σ H ⟨rfl,p⟩;refine mono σ H _ _ (fun b H1 q=>?_) (hs σ H p);cases b with
 | true=>exact⟨_,fun σ' H' ⟨p',l⟩=>⟨_,l,rfl,p'⟩,q⟩
 | false=>exact q
end L2
namespace L2
open PySem PySem.Spec PyProof.Rows
abbrev R2:=V→V→Hp→VK→Prop
def OpR (X:Cx)(f:Value→Value→Sem Value)(r:R2):Prop :=
 ∀ (pins:List (Addr×Obj)) (s:Shared) (σ:St) (H:Hp) (x y:V) (v u:Value) (Q:VK),Inv X pins σ H s→RelV x v→RelV y u→r x y H Q →
  wpAny (model X.prog X.w) X.A (f v u) (EP X pins σ Q) X.xe s
def CallR (X:Cx)(f:Value)(r:List V→Hp→VK→Prop):Prop :=
 ∀ (pins:List (Addr×Obj)) (s:Shared) (σ:St) (H:Hp) (xs:List V) (us:List Value) (Q:VK),Inv X pins σ H s→Vals xs us→r xs H Q →
  wpAny (model X.prog X.w) X.A (call f us) (EP X pins σ Q) X.xe s
def TruR (X:Cx)(r:V→Hp→(Bool→Hp→Prop)→Prop):Prop :=
 ∀ (pins:List (Addr×Obj)) (s:Shared) (σ:St) (H:Hp) (x:V) (v:Value) (Q:Bool→Hp→Prop),Inv X pins σ H s→RelV x v→r x H Q →
  wpAny (model X.prog X.w) X.A (truthy v) (TP X pins σ Q) X.xe s
def tOp (r:R2)(ta tb:TE):TE:=fun σ H Q=>ta σ H fun x H1=>tb σ H1 fun y H2=>r x y H2 Q
def tUn (r:V→Hp→VK→Prop)(ta:TE):TE:=fun σ H Q=>ta σ H fun x H1=>r x H1 Q
def rI (C:Int→Int→Prop)(g:Int→Int→V):R2:=fun x y H Q=>∃ i j,x=.int i∧y=.int j∧C i j∧Q (g i j) H
def rI0 (g:Int→Int→V):R2:=fun x y H Q=>∃ i j,x=.int i∧y=.int j∧Q (g i j) H
section
variable {X:Cx}{a b c:Expr}{ta tb tc:TE}{pos:Pos}
theorem binT (ha:PE X a ta)(hb:PE X b tb){pins:List (Addr×Obj)}{s:Shared}{σ:St}{H:Hp}{R:V→V→Hp→Prop}(I:Inv X pins σ H s)
  (h:ta σ H fun x H1=>tb σ H1 fun y H2=>R x y H2) {Q:Value→Shared→Prop} {f:Value→Value→Sem Value}
  (hf:∀ v u s2 x y H2,Inv X pins σ H2 s2→RelV x v→RelV y u→R x y H2→wpAny (model X.prog X.w) X.A (f v u) Q X.xe s2) :
  wpAny (model X.prog X.w) X.A (eval a X.env) (fun v s₁=>wpAny (model X.prog X.w) X.A (eval b X.env) (fun u s₂=>wpAny (model X.prog X.w) X.A (f v u) Q X.xe s₂) X.xe s₁) X.xe s:=by
 refine thn (ha pins s σ H _ I h) fun v s1 ⟨x,H1,I1,r1,q1⟩=>?_
 refine thn (hb pins s1 σ H1 _ I1 q1) fun u s2 ⟨y,H2,I2,r2,q2⟩=>?_
 exact hf v u s2 x y H2 I2 r1 r2 q2
theorem pe_op {op:Operator}{r:R2}(ho:OpR X (binaryOp op) r)(ha:PE X a ta)(hb:PE X b tb):PE X (.BinOp a op b pos) (tOp r ta tb):=by
 intro pins s σ H Q I h;exact wpAny_BinOp (binT ha hb I h fun v u s2 x y H2 I2 rx ry q=>ho pins s2 σ H2 x y v u Q I2 rx ry q)
theorem opI {f:Value→Value→Sem Value}{C:Int→Int→Prop}{g:Int→Int→Int}
  (rule:∀ (i j:Int) (t u:Tok) (s:Shared) (Q:Value→Shared→Prop) (E:Value→Shared→Prop),C i j→Q (.int (g i j) s.toks) {s with toks:=s.toks+1}→wpAny (model X.prog X.w) X.A (f (.int i t) (.int j u)) Q E s) :
  OpR X f (rI C fun i j=>.int (g i j)):=by
 intro pins s σ H x y v u Q I rx ry h;obtain⟨i,j,rfl,rfl,hc,q⟩:=h;obtain⟨t,rfl⟩:=rx;obtain⟨t',rfl⟩:=ry;exact rule i j t t' s _ _ hc ⟨.int (g i j),H,I.tok _,⟨_,rfl⟩,q⟩
theorem opI0 {f:Value→Value→Sem Value}{g:Int→Int→Int}
  (rule:∀ (i j:Int) (t u:Tok) (s:Shared) (Q:Value→Shared→Prop) (E:Value→Shared→Prop),Q (.int (g i j) s.toks) {s with toks:=s.toks+1}→wpAny (model X.prog X.w) X.A (f (.int i t) (.int j u)) Q E s) :
  OpR X f (rI0 fun i j=>.int (g i j)):=by
 intro pins s σ H x y v u Q I rx ry h;obtain⟨i,j,rfl,rfl,q⟩:=h;obtain⟨t,rfl⟩:=rx;obtain⟨t',rfl⟩:=ry;exact rule i j t t' s _ _ ⟨.int (g i j),H,I.tok _,⟨_,rfl⟩,q⟩
theorem opB0 {f:Value→Value→Sem Value}{g:Int→Int→Bool}
  (rule:∀ (i j:Int) (t u:Tok) (s:Shared) (Q:Value→Shared→Prop) (E:Value→Shared→Prop),Q (.bool (g i j)) s→wpAny (model X.prog X.w) X.A (f (.int i t) (.int j u)) Q E s) :
  OpR X f (rI0 fun i j=>.bl (g i j)):=by
 intro pins s σ H x y v u Q I rx ry h;obtain⟨i,j,rfl,rfl,q⟩:=h;obtain⟨t,rfl⟩:=rx;obtain⟨t',rfl⟩:=ry;exact rule i j t t' s _ _ ⟨.bl (g i j),H,I,rfl,q⟩
def CDiv (i j:Int):Prop:=0<j∧j<1073741824
def CPow (i j:Int):Prop:=0≤j∧j≤1000000∧i.natAbs<2 ^ 64
def CMul (i j:Int):Prop:=(-(2 ^ 64)<i∧i<2 ^ 64)∨(-(2 ^ 64)<j∧j<2 ^ 64)
theorem CMul.ok {i j:Int}(h:CMul i j):IntMulOk i j:=by
 rcases h with ⟨h1,h2⟩ | ⟨h1,h2⟩
 ·exact .of_left (intBits_le_64 h1 h2)
 ·exact .of_right (intBits_le_64 h1 h2)
theorem op_add:OpR X (binaryOp .Add) (rI0 fun i j=>.int (i+j)):=opI0 fun _ _ _ _ _ _ _ q=>add_int q
theorem op_sub:OpR X (binaryOp .Sub) (rI0 fun i j=>.int (i-j)):=opI0 fun _ _ _ _ _ _ _ q=>sub_int q
theorem op_mul:OpR X (binaryOp .Mult) (rI CMul fun i j=>.int (i*j)):=opI fun _ _ _ _ _ _ _ hc q=>mul_int q hc.ok
theorem op_fdiv:OpR X (binaryOp .FloorDiv) (rI CDiv fun i j=>.int (i / j)):=opI fun i j _ _ _ _ _ hc q=>by
 have h1:(0:Int)<j:=hc.1;have h2:j<1073741824:=hc.2;exact floordiv_int (by omega) (by rw[Int.fdiv_eq_ediv_of_nonneg i (by omega)];exact q) (.inl (PyProof.noPylong_small (by omega)))
theorem op_mod:OpR X (binaryOp .Mod) (rI (fun _ j=>0<j) fun i j=>.int (i % j)):=opI fun i j _ _ _ _ _ hc q=>by
 have h1:(0:Int)<j:=hc;exact mod_int' (by omega) (by rw[Int.fmod_eq_emod_of_nonneg i (by omega)];exact q)
theorem op_pow:OpR X (binaryOp .Pow) (rI CPow fun i j=>.int (i ^ j.toNat)):=opI fun _ _ _ _ _ _ _ hc q=>pow_int_small hc.1 hc.2.1 hc.2.2 q
end
def scal:V→V→Bool
 | .non,.non=>true | .non,.int _=>true | .int _,.non=>true | .non,.bl _=>true | .bl _,.non=>true | .non,.str _=>true | .str _,.non=>true
 | .int _,.int _=>true | .bl _,.bl _=>true | .str _,.str _=>true | .byt _,.byt _=>true
 | .int _,.str _=>true | .str _,.int _=>true | .bl _,.str _=>true | .str _,.bl _=>true
 | _,_=>false
def rEq:R2:=fun x y H Q=>scal x y=true∧Q (.bl (decide (x=y))) H
def rNe:R2:=fun x y H Q=>scal x y=true∧Q (.bl (!decide (x=y))) H
theorem dec_int {i j:Int}:decide (V.int i=V.int j)=(i == j):=by
 rw[Bool.eq_iff_iff];simp
theorem dec_bl {i j:Bool}:decide (V.bl i=V.bl j)=(i == j):=by
 rw[Bool.eq_iff_iff];simp
theorem dec_str {i j:Str}:decide (V.str i=V.str j)=(i == j):=by
 rw[Bool.eq_iff_iff];simp
theorem dec_byt {i j:Array UInt8}:decide (V.byt i=V.byt j)=(i.toList == j.toList):=by
 rw[Bool.eq_iff_iff];cases i;cases j;simp
section
variable {X:Cx}{a b c:Expr}{ta tb tc:TE}{pos:Pos}
theorem fin_bl {pins:List (Addr×Obj)}{σ:St}{H:Hp}{s:Shared}{Q:VK}{k k':Bool}(I:Inv X pins σ H s)(q:Q (.bl k) H)(e:k=k'):EP X pins σ Q (.bool k') s:=by
 subst e;exact⟨.bl k,H,I,rfl,q⟩
theorem op_eq:OpR X (compareOp .Eq) rEq:=by
 intro pins s σ H x y v u Q I rx ry h;obtain⟨hs,q⟩:=h;cases x with
 | non =>
  cases rx;cases y with
  | non=>cases ry;exact PySem.EqNone.eq_none_none (fin_bl I q (by simp))
  | bl j=>cases ry;exact PySem.EqNone.eq_none_bool (fin_bl I q (by simp))
  | int j=>obtain⟨t',rfl⟩:=ry;exact PySem.EqNone.eq_none_int (fin_bl I q (by simp))
  | str j=>obtain⟨t',rfl⟩:=ry;exact PySem.EqNone.eq_none_str (fin_bl I q (by simp))
  | _=>exact absurd (show false=true from hs) Bool.false_ne_true
 | bl i =>
  cases rx;cases y with
  | non=>cases ry;exact PySem.EqNone.eq_bool_none (fin_bl I q (by simp))
  | bl j=>cases ry;exact eq_bool (fin_bl I q dec_bl)
  | str j=>obtain⟨t',rfl⟩:=ry;exact PySem.EqMixed.eq_bool_str (fin_bl I q (by simp))
  | _=>exact absurd (show false=true from hs) Bool.false_ne_true
 | int i =>
  obtain⟨t,rfl⟩:=rx;cases y with
  | non=>cases ry;exact PySem.EqNone.eq_int_none (fin_bl I q (by simp))
  | int j=>obtain⟨t',rfl⟩:=ry;exact eq_int (fin_bl I q dec_int)
  | str j=>obtain⟨t',rfl⟩:=ry;exact PySem.EqMixed.eq_int_str (fin_bl I q (by simp))
  | _=>exact absurd (show false=true from hs) Bool.false_ne_true
 | str i =>
  obtain⟨t,rfl⟩:=rx;cases y with
  | non=>cases ry;exact PySem.EqNone.eq_str_none (fin_bl I q (by simp))
  | bl j=>cases ry;exact PySem.EqMixed.eq_str_bool (fin_bl I q (by simp))
  | int j=>obtain⟨t',rfl⟩:=ry;exact PySem.EqMixed.eq_str_int (fin_bl I q (by simp))
  | str j=>obtain⟨t',rfl⟩:=ry;exact eq_str (fin_bl I q dec_str)
  | _=>exact absurd (show false=true from hs) Bool.false_ne_true
 | byt i =>
  obtain⟨t,rfl⟩:=rx;cases y with
  | byt j=>obtain⟨t',rfl⟩:=ry;exact PySem.W.eq_bytes (fin_bl I q dec_byt)
  | _=>exact absurd (show false=true from hs) Bool.false_ne_true
 | _=>cases y<;>exact absurd (show false=true from hs) Bool.false_ne_true
theorem op_ne:OpR X (compareOp .NotEq) rNe:=by
 intro pins s σ H x y v u Q I rx ry h;obtain⟨hs,q⟩:=h;cases x with
 | non =>
  cases rx;cases y with
  | non=>cases ry;exact PySem.EqNone.ne_none_none (fin_bl I q (by simp))
  | bl j=>cases ry;exact PySem.EqNone.ne_none_bool (fin_bl I q (by simp))
  | int j=>obtain⟨t',rfl⟩:=ry;exact PySem.EqNone.ne_none_int (fin_bl I q (by simp))
  | str j=>obtain⟨t',rfl⟩:=ry;exact PySem.EqNone.ne_none_str (fin_bl I q (by simp))
  | _=>exact absurd (show false=true from hs) Bool.false_ne_true
 | bl i =>
  cases rx;cases y with
  | non=>cases ry;exact PySem.EqNone.ne_bool_none (fin_bl I q (by simp))
  | bl j=>cases ry;exact ne_bool (fin_bl I q (congrArg not dec_bl))
  | str j=>obtain⟨t',rfl⟩:=ry;exact PySem.EqMixed.ne_bool_str (fin_bl I q (by simp))
  | _=>exact absurd (show false=true from hs) Bool.false_ne_true
 | int i =>
  obtain⟨t,rfl⟩:=rx;cases y with
  | non=>cases ry;exact PySem.EqNone.ne_int_none (fin_bl I q (by simp))
  | int j=>obtain⟨t',rfl⟩:=ry;exact ne_int (fin_bl I q (congrArg not dec_int))
  | str j=>obtain⟨t',rfl⟩:=ry;exact PySem.EqMixed.ne_int_str (fin_bl I q (by simp))
  | _=>exact absurd (show false=true from hs) Bool.false_ne_true
 | str i =>
  obtain⟨t,rfl⟩:=rx;cases y with
  | non=>cases ry;exact PySem.EqNone.ne_str_none (fin_bl I q (by simp))
  | bl j=>cases ry;exact PySem.EqMixed.ne_str_bool (fin_bl I q (by simp))
  | int j=>obtain⟨t',rfl⟩:=ry;exact PySem.EqMixed.ne_str_int (fin_bl I q (by simp))
  | str j=>obtain⟨t',rfl⟩:=ry;exact ne_str (fin_bl I q (congrArg not dec_str))
  | _=>exact absurd (show false=true from hs) Bool.false_ne_true
 | byt i =>
  obtain⟨t,rfl⟩:=rx;cases y with
  | byt j=>obtain⟨t',rfl⟩:=ry;exact PySem.W.ne_bytes (fin_bl I q (congrArg not dec_byt))
  | _=>exact absurd (show false=true from hs) Bool.false_ne_true
 | _=>cases y<;>exact absurd (show false=true from hs) Bool.false_ne_true
theorem op_lt:OpR X (compareOp .Lt) (rI0 fun i j=>.bl (decide (i<j))):=opB0 fun _ _ _ _ _ _ _ q=>lt_int q
theorem op_le:OpR X (compareOp .LtE) (rI0 fun i j=>.bl (decide (i≤j))):=opB0 fun _ _ _ _ _ _ _ q=>le_int q
theorem op_gt:OpR X (compareOp .Gt) (rI0 fun i j=>.bl (decide (j<i))):=opB0 fun _ _ _ _ _ _ _ q=>gt_int q
theorem op_ge:OpR X (compareOp .GtE) (rI0 fun i j=>.bl (decide (j≤i))):=opB0 fun _ _ _ _ _ _ _ q=>ge_int q
theorem nomark (b:Expr){op:CmpOp}(h:op≠.In:=by decide)(h2:op≠.NotIn:=by decide):behindInMarks op b=false:=by
 have e1:(op == CmpOp.In)=false:=by cases op<;>first | rfl | exact absurd rfl h
 have e2:(op == CmpOp.NotIn)=false:=by cases op<;>first | rfl | exact absurd rfl h2
 cases b<;>simp[behindInMarks,e1,e2]
theorem pe_cmpR {op:CmpOp}{r:R2}(ho:OpR X (compareOp op) r)(ha:PE X a ta)(hb:PE X b tb)(hm:behindInMarks op b=false):PE X (.Compare a [op] [b] pos) (tOp r ta tb):=by
 intro pins s σ H Q I h;exact wpAny_Compare1 (binT ha hb I h fun v u s2 x y H2 I2 rx ry q=>ho pins s2 σ H2 x y v u Q I2 rx ry q) hm
def tTest (t:TE):TT:=fun σ H Q=>t σ H fun x H'=>∃ k,x=.bl k∧Q k H'
theorem pt_cmpR {op:CmpOp}{r:R2}(ho:OpR X (compareOp op) r)(ha:PE X a ta)(hb:PE X b tb)(hm:behindInMarks op b=false):PT X (.Compare a [op] [b] pos) (tTest (tOp r ta tb)):=by
 intro pins s σ H Q I h
 refine wpAny_isTrue_Compare1 (thn (ha pins s σ H _ I h) fun v s1 ⟨x,H1,I1,r1,q1⟩=>thn (hb pins s1 σ H1 _ I1 q1) fun u s2 ⟨y,H2,I2,r2,q2⟩ =>
  thn (ho pins s2 σ H2 x y v u _ I2 r1 r2 q2) fun c s3 ⟨z,H3,I3,r3,k,e,q3⟩=>?_) hm
 subst e;cases r3;exact wpAny_truthy_bool ⟨H3,I3,q3⟩
def tChain (r r':R2)(ta tb tc:TE):TE:=fun σ H Q=>ta σ H fun x H1=>tb σ H1 fun y H2=>r x y H2 fun z H3=>∃ k,z=.bl k ∧
 (if k=true then tc σ H3 fun w' H4=>r' y w' H4 Q else Q (.bl false) H3)
theorem pe_chain {op op':CmpOp}{r r':R2}(ho:OpR X (compareOp op) r)(ho':OpR X (compareOp op') r')(ha:PE X a ta)(hb:PE X b tb)(hc:PE X c tc)
  (hm:lastMarks [op,op'] [b,c]=false:=by with_unfolding_all rfl):PE X (.Compare a [op,op'] [b,c] pos) (tChain r r' ta tb tc):=by
 intro pins s σ H Q I h
 refine Compare_chain (thn (ha pins s σ H _ I h) fun v s1 ⟨x,H1,I1,r1,q1⟩=>chain_link (thn (hb pins s1 σ H1 _ I1 q1) fun u s2 ⟨y,H2,I2,r2,q2⟩ =>
  thn (ho pins s2 σ H2 x y v u _ I2 r1 r2 q2) fun d s3 ⟨z,H3,I3,r3,k,e,q3⟩=>?_)) hm
 subst e;cases r3;refine wpAny_truthy_bool ?_;cases k with
 | false=>exact ite_ff ⟨.bl false,H3,I3,rfl,q3⟩
 | true=>exact ite_tt (chain_last (thn (hc pins s3 σ H3 _ I3 q3) fun w' s4 ⟨z',H4,I4,r4,q4⟩=>ho' pins s4 σ H4 y z' u w' Q I4 r2 r4 q4))
def TruV (K:PySem.W.Frag)(x:V)(H:Hp)(k:Bool):Prop :=
 match x with
 | .non=>k=false
 | .bl b=>k=b
 | .int i=>k=(i != 0)
 | .str y=>y.length≤sizeLine∧k=((y.length:Int) != 0)
 | .byt y=>y.size≤sizeLine∧k=((y.size:Int) != 0)
 | .ref p=>(∃ xs,SqL K H p xs∧k=!xs.isEmpty)∨(∃ xs,SqT K H p xs∧k=!xs.isEmpty)∨∃ kvs,H p=some (.dK kvs)∧k=!kvs.isEmpty
 | _=>False
theorem isEmpty_kv {κ:Type}{kvs:List (κ×V)}{vs:List (κ×Value)}(r:KV kvs vs):(!vs.isEmpty)=!kvs.isEmpty:=by
 cases r<;>rfl
theorem isEmpty_of {xs:List V}{its:List Value}(r:Vals xs its):(!its.toArray.isEmpty)=!xs.isEmpty:=by
 cases r<;>simp
theorem line63:(sizeLine:Nat)<2 ^ 63:=by rw[sizeLine_eq];decide
theorem tru_ok:TruR X (fun x H Q=>∃ k,TruV X.K x H k∧Q k H):=by
 intro pins s σ H x v Q I rx h;obtain⟨k,e,q⟩:=h;have hl:=line63;have hs:sizeLine=16777216:=sizeLine_eq;cases x with
 | non =>
  cases rx;have e':k=false:=e;subst e';exact truthy_none ⟨H,I,q⟩
 | bl b =>
  cases rx;have e':k=b:=e;subst e';exact wpAny_truthy_bool ⟨H,I,q⟩
 | int i =>
  obtain⟨t,rfl⟩:=rx;have e':k=(i != 0):=e;subst e';exact PySem.P.truthy_int ⟨H,I,q⟩
 | str y =>
  obtain⟨t,rfl⟩:=rx;obtain⟨hy,e'⟩:y.length≤sizeLine∧k=((y.length:Int) != 0):=e;subst e';exact PySem.P.truthy_str (by omega) ⟨H,I.tok _,q⟩
 | byt y =>
  obtain⟨t,rfl⟩:=rx;obtain⟨hy,e'⟩:y.size≤sizeLine∧k=((y.size:Int) != 0):=e;subst e';exact PySem.W.truthy_bytes (by omega) ⟨H,I.tok _,q⟩
 | ref p =>
  cases rx;have e':(∃ xs,SqL X.K H p xs∧k=!xs.isEmpty)∨(∃ xs,SqT X.K H p xs∧k=!xs.isEmpty)∨∃ kvs,H p=some (.dK kvs)∧k=!kvs.isEmpty:=e;rcases e' with ⟨xs,hx,e'⟩ | ⟨xs,hx,e'⟩ | ⟨kvs,hx,e'⟩
  ·subst e';obtain⟨its,r,pl,hz⟩:=I.list hx;have hlen:=r.length;exact wpAny_truthy_list pl.isList (by simp only[List.size_toArray];omega) ⟨H,I.tok _,by rw[isEmpty_of r];exact q⟩
  ·subst e';obtain⟨its,r,pl,hz⟩:=I.tuple hx;have hlen:=r.length;exact truthy_tuple pl (by simp only[List.size_toArray];omega) ⟨H,I.tok _,by rw[isEmpty_of r];exact q⟩
  ·subst e';obtain⟨hz,hS,vs,r,m⟩:kvs.length≤sizeLine∧(p == sysModules)=false∧∃ vs,KV kvs vs∧s.heap.DictOf (mixKind X.prog X.w) p vs:=I.hok p _ hx;have hlen:kvs.length=vs.length:=Paired.length r;exact wpAny_truthy_dict hS m (by omega) ⟨H,I.tok _,by rw[isEmpty_kv r];exact q⟩
 | _=>exact (show False from e).elim
theorem pt_truth (ha:PE X a ta)(he:∀ whole,isTrue a X.env whole=(do let v ← whole;standAt a.pos;holding [v] (truthy v))) :
  PT X a (fun σ H Q=>ta σ H fun x H'=>∃ k,TruV X.K x H' k∧Q k H'):=by
 intro pins s σ H Q I h;exact isTrue_plain (thn (ha pins s σ H _ I h) fun v s1 ⟨x,H1,I1,r1,q1⟩=>tru_ok pins s1 σ H1 x v Q I1 r1 q1) (he _)
theorem vals1 {x:V}{us:List Value}(r:Vals [x] us):∃ u,us=[u]∧RelV x u:=by
 cases r with
 | cons r1 r2=>cases r2;exact⟨_,rfl,r1⟩
theorem vals2 {x y:V}{us:List Value}(r:Vals [x,y] us):∃ u w',us=[u,w']∧RelV x u∧RelV y w':=by
 cases r with
 | cons r1 r2 =>
  cases r2 with
  | cons r3 r4=>cases r4;exact⟨_,_,rfl,r1,r3⟩
theorem call_max2 (hc:X.calm=true):CallR X (.builtin "max") (fun xs H Q=>∃ i j,xs=[.int i,.int j]∧Q (.int (if j>i then j else i)) H):=by
 intro pins s σ H xs us Q I r h;obtain⟨i,j,rfl,q⟩:=h;obtain⟨u,w',rfl,⟨t,rfl⟩,⟨t',rfl⟩⟩:=vals2 r;refine max_two_ints (I.ok.hd hc) fun h' tk k=>⟨_,H,I.kept k,?_,q⟩
 by_cases hj:j>i
 ·rw[if_pos hj,if_pos hj];exact⟨_,rfl⟩
 ·rw[if_neg hj,if_neg hj];exact⟨_,rfl⟩
theorem call_min2 (hc:X.calm=true):CallR X (.builtin "min") (fun xs H Q=>∃ i j,xs=[.int i,.int j]∧Q (.int (if j<i then j else i)) H):=by
 intro pins s σ H xs us Q I r h;obtain⟨i,j,rfl,q⟩:=h;obtain⟨u,w',rfl,⟨t,rfl⟩,⟨t',rfl⟩⟩:=vals2 r;refine min_two_ints (I.ok.hd hc) fun h' tk k=>⟨_,H,I.kept k,?_,q⟩
 by_cases hj:j<i
 ·rw[if_pos hj,if_pos hj];exact⟨_,rfl⟩
 ·rw[if_neg hj,if_neg hj];exact⟨_,rfl⟩
theorem call_int1:CallR X (.type "int") (fun xs H Q=>(∃ i,xs=[.int i]∧Q (.int i) H)∨∃ k,xs=[.bl k]∧Q (.int (if k then 1 else 0)) H):=by
 intro pins s σ H xs us Q I r h;rcases h with ⟨i,rfl,q⟩ | ⟨k,rfl,q⟩
 ·obtain⟨u,rfl,t,rfl⟩:=vals1 r;exact call_int_int ⟨.int i,H,I,⟨_,rfl⟩,q⟩
 ·obtain⟨u,rfl,r1⟩:=vals1 r;cases r1;exact call_int_bool ⟨.int (if k then 1 else 0),H,I.tok _,⟨_,rfl⟩,q⟩
end
end L2
namespace L2
open PySem PySem.Spec PyProof.Rows
structure ObjM (h:Heap)(x dx C:Addr)(mA:Str→Option Value):Prop where
 obj:h.get? x=some (PySem.W.instObj C dx)
 ns:h.Ns1 dx mA
 ne:dx≠x
theorem lookIn_ns {h:Heap}{dx:Addr}{mA:Str→Option Value}(n:h.Ns1 dx mA):∃ od,h.get? dx=some od∧∀ name,PySem.W.lookIn name od=some (mA name):=by
 obtain⟨o,es,ep,ho,hd,hk,_,hm⟩:=n;refine⟨o,ho,fun name=>?_⟩;have e:=hm name;unfold nsFind findBy at e;rw[← Array.find?_toList] at e;unfold PySem.W.lookIn;rw[hd];dsimp only;split
 ·rename_i y q;rw[q] at e;exact congrArg some e
 ·rename_i q;rw[q] at e;have a:es.toList.any (·.refKey)=false:=by
   rw[List.any_eq_false];intro y hy;obtain⟨z,t,hkey⟩:=hk y (Array.mem_toList_iff.mp hy);simp[DictEntry.refKey,hkey]
  have a':¬ es.toList.any (·.refKey)=true:=by rw[a];exact Bool.false_ne_true
  rw[if_neg a'];exact congrArg some e
theorem ObjM.look {h:Heap}{x dx C:Addr}{mA:Str→Option Value}(I:ObjM h x dx C mA):∃ od,PySem.W.InstAt h x (PySem.W.instObj C dx) C (some od)∧∀ name,PySem.W.lookIn name od=some (mA name) :=
 let ⟨od,ho,hl⟩:=lookIn_ns I.ns
 ⟨od,⟨I.obj,rfl,rfl,ho⟩,hl⟩
section
variable {prog:Program}{w:World}{A:Around}{E:Value→Shared→Prop}{s:Shared}{K:PySem.W.Frag}{x dx C f:Addr}{mA:Str→Option Value}{name:Str}{v:Value}
end
section
variable {P:Program}{w:World}{H H':Hp}{h h':Heap}{a C dx:Addr}{fs fs':List (Str×V)}
theorem ins_get (hok:HOk P w H h)(e:H a=some (.ins C dx fs)):∃ mA,ObjM h a dx C mA∧(∀ f,RelO (fs.lookup f) (mA f))∧PySem.Within mA (fs.map (·.1))∧fs.length≤1000∧H dx=some (.own a):=by
 obtain⟨d,z,ne,ob,mA,n,r,q⟩:=(show ObjOk P w H h a (.ins C dx fs) from hok a _ e)
 exact⟨mA,⟨ob,n,ne⟩,r,q,z,d⟩
end
structure Cls (K:PySem.W.Frag)(C:Addr):Prop where
 pg:PySem.W.plainGet K C Str.empty=true
 hd:PySem.W.hasDictIn K C=true
 po:PySem.W.plainOver K C=true
 sa:PySem.W.findIn K (.ref C) "__setattr__"=some (some (.builtin "object.__setattr__"))
theorem Cls.get {K:PySem.W.Frag}{C:Addr}(c:Cls K C)(f:Str):PySem.W.plainGet K C f=true:=c.pg
section
variable {X:Cx}{pins:List (Addr×Obj)}{σ:St}{H:Hp}{s:Shared}{a C dx:Addr}{fs:List (Str×V)}{f:Str}{v:V}{A:Around}{E:Value→Shared→Prop}
theorem Inv.made (I:Inv X pins σ H s):Inv X pins σ (upd (upd H s.heap.objs.size (.own (s.heap.objs.size+1))) (s.heap.objs.size+1) (.ins C s.heap.objs.size []))
  {s with heap:=(s.heap.push PySem.W.emptyDict).push (PySem.W.instObj C s.heap.objs.size)}:=by
 have e1:(s.heap.push PySem.W.emptyDict).get? s.heap.objs.size=some PySem.W.emptyDict:=Heap.get?_push_size s.heap rfl;have e2:((s.heap.push PySem.W.emptyDict).push (PySem.W.instObj C s.heap.objs.size)).get? (s.heap.objs.size+1)=some (PySem.W.instObj C s.heap.objs.size):=by
  have:=Heap.get?_push_size (s.heap.push PySem.W.emptyDict) (o:=PySem.W.instObj C s.heap.objs.size) rfl
  rwa [Heap.size_push] at this
 have e3:(s.heap.push PySem.W.emptyDict).Ns s.heap.objs.size (fun _=>none):=⟨PySem.W.emptyDict,#[],_,e1,rfl,(fun e he=>absurd he (by simp)),fun _=>rfl⟩
 have I1:=I.laid (a:=s.heap.objs.size) (o:=.own (s.heap.objs.size+1)) (h':=s.heap.push PySem.W.emptyDict) (t':=s.toks) (fun b u q=>Heap.get?_push_of_some _ q) (Nat.le_refl _) ⟨_,e1⟩;refine I1.laid (a:=s.heap.objs.size+1) (o:=.ins C s.heap.objs.size []) (t':=s.toks) (fun b u q=>Heap.get?_push_of_some _ q) (Nat.le_of_eq (Heap.size_push _ _)) ?_;have ne:s.heap.objs.size≠s.heap.objs.size+1:=Nat.ne_of_lt (Nat.lt_succ_self _);refine⟨by rw[upd_ne ne,upd_same],Nat.zero_le _,ne,e2,fun _=>none,(Heap.Ns1.of_empty e3).at fun o q=>Heap.get?_push_of_some _ q,fun _=>True.intro,fun y hy=>absurd rfl hy⟩
end
section
variable {X:Cx}{o e value:Expr}{f:Str}{pos pos' tpos:Pos}{ta tv:TE}
end
section
variable {X:Cx}{pins:List (Addr×Obj)}{σ:St}{H:Hp}{s:Shared}{A:Around}{E:Value→Shared→Prop}{Q:Value→Shared→Prop}{c:Value}{b:Bool}
inductive TyOf (K:PySem.W.Frag)(H:Hp):V→Value→Prop where
 | non:TyOf K H .non (.type "NoneType")
 | bl (x:Bool):TyOf K H (.bl x) (.type "bool")
 | int (i:Int):TyOf K H (.int i) (.type "int")
 | str (x:Str):TyOf K H (.str x) (.type "str")
 | flt (x:UInt64):TyOf K H (.flt x) (.type "float")
 | lst {a:Addr} {xs:List V} (e:H a=some (.lst xs)):TyOf K H (.ref a) (.type "list")
 | frz {a:Addr} {o:Obj} {xs:List V} (e:H a=some (.frz o (.lst xs))):TyOf K H (.ref a) (.type "list")
 | tup {a:Addr} {xs:List V} (e:H a=some (.tup xs)):TyOf K H (.ref a) (.type "tuple")
 | dK {a:Addr} {kvs:List (Key×V)} (e:H a=some (.dK kvs)):TyOf K H (.ref a) (.type "dict")
 | dT {a:Addr} {kvs:List (List Key×V)} (e:H a=some (.dT kvs)):TyOf K H (.ref a) (.type "dict")
 | ins {a C dx:Addr} {fs:List (Str×V)} (e:H a=some (.ins C dx fs)) (cl:Cls K C) (ha:PySem.W.findIn K (.ref C) "__class__"=some (some (.builtin "object.__class__")))
   (hn:PySem.W.specialIn K (.builtin "object.__class__") "__get__"=some (some (.builtin "getset_descriptor.__get__"))) (htk:PySem.W.takesIn K (.builtin "object.__class__")=some true)
   (hm:PySem.W.mroIn K C (.type "object")=some true):TyOf K H (.ref a) (.ref C)
theorem isinst_ok {x:V}{u t:Value}(I:Inv X pins σ H s)(rx:RelV x u)(ty:TyOf X.K H x t)(e:PySem.W.kitOne X.K t c=some b)(h:∀ tk,Q (.bool b) {s with toks:=tk}) :
  wpAny (model X.prog X.w) A (call (.builtin "isinstance") [u,c]) Q E s:=by
 cases ty with
 | non=>cases (show u=Value.none from rx);exact PySem.W.kia_one PySem.W.kitx_none I.kIn True.intro e (fun z=>nomatch z) h
 | bl y=>cases (show u=Value.bool y from rx);exact PySem.W.kia_one PySem.W.kitx_bool I.kIn True.intro e (fun z=>nomatch z) h
 | int i=>obtain⟨t,q⟩:=(show ∃ t,u=Value.int i t from rx);cases q;exact PySem.W.kia_one PySem.W.kitx_int I.kIn True.intro e (fun z=>nomatch z) h
 | str y=>obtain⟨t,q⟩:=(show ∃ t,u=Value.str y t from rx);cases q;exact PySem.W.kia_one PySem.W.kitx_str I.kIn True.intro e (fun z=>nomatch z) h
 | flt y=>obtain⟨t,q⟩:=(show ∃ t,u=Value.float y t from rx);cases q;exact PySem.W.kia_one PySem.W.kitx_float I.kIn True.intro e (fun z=>nomatch z) h
 | @lst a xs ea =>
  cases (show u=Value.ref a from rx);obtain⟨_,_,n,_,h1⟩:=(show ObjOk X.prog X.w H s.heap a (.lst xs) from I.hok a _ ea)
  exact PySem.W.kia_one PySem.W.kitx_list I.kIn ⟨_,h1,rfl⟩ e (fun z=>nomatch z) h
 | @frz a ob xs ea =>
  cases (show u=Value.ref a from rx);obtain⟨_,_,_,n,_,h1⟩:=(show ObjOk X.prog X.w H s.heap a (.frz ob (.lst xs)) from I.hok a _ ea)
  exact PySem.W.kia_one PySem.W.kitx_list I.kIn ⟨_,h1,rfl⟩ e (fun z=>nomatch z) h
 | @tup a xs ea =>
  cases (show u=Value.ref a from rx);obtain⟨_,_,_,p⟩:=(show ObjOk X.prog X.w H s.heap a (.tup xs) from I.hok a _ ea)
  obtain⟨o,h1,h2,_⟩:=p;exact PySem.W.kia_one PySem.W.kitx_tuple I.kIn ⟨o,h1,h2⟩ e (fun z=>nomatch z) h
 | @dK a kvs ea =>
  cases (show u=Value.ref a from rx);obtain⟨_,_,vs,_,p⟩:=(show ObjOk X.prog X.w H s.heap a (.dK kvs) from I.hok a _ ea)
  obtain⟨o,es,ep,h1,h2,_⟩:=p;exact PySem.W.kia_one PySem.W.kitx_dict I.kIn ⟨o,h1,h2.1⟩ e (fun z=>nomatch z) h
 | @dT a kvs ea =>
  cases (show u=Value.ref a from rx);obtain⟨_,_,xs,_,o,es,ep,h1,h2,_⟩:=(show ObjOk X.prog X.w H s.heap a (.dT kvs) from I.hok a _ ea)
  exact PySem.W.kia_one PySem.W.kitx_dict I.kIn ⟨o,h1,h2.1⟩ e (fun z=>nomatch z) h
 | @ins a C dx fs ea cl ha hn htk hm =>
  cases (show u=Value.ref a from rx);obtain⟨mA,O,_⟩:=ins_get I.hok ea;obtain⟨od,J,_⟩:=O.look;exact PySem.W.kia_one (PySem.W.kitx_own (cl.get _) cl.hd ha hn htk hm) I.kIn J e (fun z=>nomatch z) h
end
end L2
namespace L2
open PySem PySem.Spec PyProof.Rows
structure Room (k:Nat)(A:Around):Prop where
 hd:A.handled=none
 dp:A.depth+3*k+5<recursionLimit
 un:A.units+16*k+200<cLine
 gd:A.guards=some []
theorem Room.mono {j k:Nat}{A:Around}(r:Room k A)(h:j≤k):Room j A:=⟨r.hd,by have:=r.dp;omega,by have:=r.un;omega,r.gd⟩
theorem Room.deeper {k:Nat}{A:Around}(r:Room (k+1) A)(env:Env):Room k (A.deeper env) :=
 ⟨r.hd,by have:=r.dp;show A.depth+1+3*k+5<_;omega,by have:=r.un;show A.units+3+16*k+200<_;omega,r.gd⟩
theorem Room.in1 {k:Nat}{A:Around}(r:Room (k+1) A):Room k A.in1 :=
 ⟨r.hd,by have:=r.dp;show A.depth+3*k+5<_;omega,by have:=r.un;show A.units+1+16*k+200<_;omega,r.gd⟩
theorem Room.depth {k:Nat}{A:Around}(r:Room k A):A.depth<recursionLimit:=by have:=r.dp;omega
theorem Room.units {k:Nat}{A:Around}(r:Room k A):A.units+64<cLine:=by have:=r.un;omega
def tNil:TA:=fun _ H Q=>Q [] H
def tCons (ta:TE)(tr:TA):TA:=fun σ H Q=>ta σ H fun x H1=>tr σ H1 fun xs H2=>Q (x::xs) H2
section
variable {X:Cx}{e:Expr}{es:List Expr}{te:TE}{t:TA}{pos:Pos}
theorem pa_nil:PA X [] tNil:=fun _ _ _ _ H Q I h=>Calls.spliced_nil ⟨[],H,I,.nil,h⟩
theorem pa_cons (ha:PE X e te)(hr:PA X es t)(hs:starEach (e::es) X.env=(false,eval e X.env)::starEach es X.env:=by rfl):PA X (e::es) (tCons te t):=by
 intro pos pins s σ H Q I h;rw[hs];show wpAny _ _ (spliced ((false,eval e X.env)::backTo pos (starEach es X.env))) _ _ s;refine Calls.spliced_cons (thn (ha pins s σ H _ I h) fun u s1 ⟨x,H1,I1,r1,q1⟩=>?_);exact thn (hr pos pins s1 σ H1 _ I1 q1) fun us s2 ⟨xs,H2,I2,r2,q2⟩=>⟨x::xs,H2,I2,.cons r1 r2,q2⟩
def tTup (t:TA):TE:=fun σ H Q=>t σ H fun xs H1=>xs.length≤sizeLine∧∀ p,H1 p=none→Q (.ref p) (upd H1 p (.tup xs))
def tLst (t:TA):TE:=fun σ H Q=>t σ H fun xs H1=>xs.length≤sizeLine∧∀ p,H1 p=none→Q (.ref p) (upd H1 p (.lst xs))
theorem pe_tup {x1}(h:PA X es t):PE X (.Tuple es x1 pos) (tTup t):=by
 intro pins s σ H Q I hq;refine wpAny_Tuple_spliced (thn (h pos pins s σ H _ I hq) fun us s1 ⟨xs,H1,I1,r,z,q⟩=>⟨by rw[← r.length];exact z,?_⟩);have hf:H1 s1.heap.objs.size=none:=I1.hok.fresh (Nat.le_refl _);refine⟨.ref s1.heap.objs.size,upd H1 s1.heap.objs.size (.tup xs),I1.laid (t':=s1.toks) (fun b u e=>Heap.get?_push_of_some _ e) (Nat.le_refl _) ?_,rfl,q _ hf⟩;exact⟨z,us,r,⟨_,Heap.get?_push_size _ rfl,rfl,_,rfl⟩⟩
theorem pe_lst (h:PA X es t):PE X (.List es pos) (tLst t):=by
 intro pins s σ H Q I hq;refine wpAny_List_spliced (thn (h pos pins s σ H _ I hq) fun us s1 ⟨xs,H1,I1,r,z,q⟩=>⟨by rw[← r.length];exact z,?_⟩);have hf:H1 s1.heap.objs.size=none:=I1.hok.fresh (Nat.le_refl _);refine⟨.ref s1.heap.objs.size,upd H1 s1.heap.objs.size (.lst xs),I1.laid (t':=s1.toks) (fun b u e=>Heap.get?_push_of_some _ e) (Nat.le_refl _) ?_,rfl,q _ hf⟩;exact⟨z,us,0,r,Heap.get?_push_size _ rfl⟩
end
abbrev Sp:=List V→Hp→VK→XK→Prop
abbrev CXT:=List Env→Hp→Shared→XK→Value→Shared→Prop
structure Env0 (P:Program)(w:World)(K:PySem.W.Frag)(mg:Str→Option Value)(base:Heap)(A:Around)(outer:List Env)(s:Shared)(H:Hp):Prop where
 frames:A.frames=some outer
 mod:Mod K mg base
 bs:∀ b o,base.get? b=some o→s.heap.get? b=some o∧H b=none
 bsz:base.objs.size≤s.heap.objs.size
 funs:s.heap.FunFrames base outer
 frf:∀ b∈frs outer,H b=none
 hok:HOk P w H s.heap
 bare:AllBare s.gens
def CE (outer:List Env)(P:Program)(w:World)(H:Hp)(s:Shared)(Q:VK)(u:Value)(s':Shared):Prop :=
 ∃ v H',s'.os=s.os∧AllBare s'.gens∧Un (frs outer) [] H H' s.heap s'.heap∧HOk P w H' s'.heap∧RelV v u∧Q v H'
def CR (CX:CXT)(outer:List Env)(P:Program)(w:World)(H:Hp)(s:Shared)(Q:VK)(E:XK)(r:Result)(s':Shared):Prop :=
 match r with
 | .ok (.ret u)=>CE outer P w H s Q u s'
 | .ok _=>False
 | .error e=>CX outer H s E e s'
structure FnOk (P:Program)(w:World)(K:PySem.W.Frag)(mg:Str→Option Value)(base:Heap)(CX:CXT)(k:Nat)(f:Addr)(fd:FuncData)(ps:List Str)(sp:Sp):Prop where
 len:∀ vs H Q E,sp vs H Q E→vs.length=ps.length
 run:∀ (A:Around) (outer:List Env) (s:Shared) (H:Hp) (args:Args) (us:List Value) (vs:List V) (Q:VK) (E:XK),Room k A→Env0 P w K mg base A outer s H→BindsTo s fd args (ps.zip us)→Vals vs us→sp vs H Q E →
  codeAny (model P w) A (.call (.ref f) args) (CR CX outer P w H s Q E) s
theorem FnOk.mono {P:Program}{w:World}{K:PySem.W.Frag}{mg:Str→Option Value}{base:Heap}{CX:CXT}{j k:Nat}{f:Addr}{fd:FuncData}{ps:List Str}{sp:Sp}(F:FnOk P w K mg base CX j f fd ps sp)(h:j≤k) :
  FnOk P w K mg base CX k f fd ps sp:=⟨F.len,fun A outer s H args us vs Q E hr=>F.run A outer s H args us vs Q E (hr.mono h)⟩
theorem FnOk.imp {P:Program}{w:World}{K:PySem.W.Frag}{mg:Str→Option Value}{base:Heap}{CX:CXT}{k:Nat}{f:Addr}{fd:FuncData}{ps:List Str}{sp sp':Sp}(F:FnOk P w K mg base CX k f fd ps sp)
  (h:∀ vs H Q E,sp' vs H Q E→sp vs H Q E):FnOk P w K mg base CX k f fd ps sp' :=
 ⟨fun vs H Q E q=>F.len vs H Q E (h _ _ _ _ q),fun A outer s H args us vs Q E hr he hb hv hs=>F.run A outer s H args us vs Q E hr he hb hv (h _ _ _ _ hs)⟩
theorem Env0.in1 {P:Program}{w:World}{K:PySem.W.Frag}{mg:Str→Option Value}{base:Heap}{A:Around}{outer:List Env}{s:Shared}{H:Hp}(e:Env0 P w K mg base A outer s H) :
  Env0 P w K mg base A.in1 outer s H:=⟨e.frames,e.mod,e.bs,e.bsz,e.funs,e.frf,e.hok,e.bare⟩
section
variable {X:Cx}{pins:List (Addr×Obj)}{σ:St}{H:Hp}{s s':Shared}
theorem Inv.env0 (I:Inv X pins σ H s):Env0 X.prog X.w X.K X.mg X.base X.A X.stack s H :=
 ⟨I.ok.frames,I.ok.mod,I.bs,Nat.le_trans I.ok.bsz I.sz,I.stack,I.stkFree,I.hok,I.bare⟩
theorem Inv.after {Q:VK}{u:Value}(I:Inv X pins σ H s)(h:CE X.stack X.prog X.w H s Q u s'):EP X pins σ Q u s':=by
 obtain⟨v,H',os,bare,un,hok,r,q⟩:=h;obtain⟨hh,g,d,t,os'⟩:=s';obtain rfl:os'=s.os:=os;exact⟨v,H',I.call (h':=hh) (g':=g) (d':=d) (t':=t) (ch:=[]) un hok bare (fun b z=>absurd z (by simp)),r,q⟩
end
def tCall (sp:Sp)(dvs:List V)(E:XK)(t:TA):TE:=fun σ H Q=>t σ H fun vs H1=>sp (vs++dvs) H1 Q E
def Binds (K:PySem.W.Frag)(fd:FuncData)(ps:List Str)(ds:List Value):Prop :=
 ∀ (s:Shared) (us:List Value),K.In s.heap→(us++ds).length=ps.length→BindsTo s fd ⟨us,[]⟩ (ps.zip (us++ds))
theorem Binds.all {K:PySem.W.Frag}{fd:FuncData}{ps:List Str}(h:∀ us:List Value,us.length=ps.length→bindArgs fd ⟨us,[]⟩=pure (ps.zip us)):Binds K fd ps []:=fun s us _ hl=>by
 rw[List.append_nil] at hl ⊢;exact .of_eq (h us hl)
def Passes (CX:CXT)(X:Cx)(E:XK):Prop:=∀ (pins:List (Addr×Obj)) (σ:St) (H:Hp) (s:Shared) (e:Value) (s':Shared),Inv X pins σ H s→CX X.stack H s E e s'→X.xe e s'
section
variable {X:Cx}{CX:CXT}{k:Nat}{f C:Addr}{fd:FuncData}{ps:List Str}{sp:Sp}{dvs:List V}{ds:List Value}{E:XK}{x m:Str}{p pos apos:Pos}{e o:Expr}{es:List Expr}{ta:TE}{t:TA}
theorem run_fn {pins:List (Addr×Obj)}{σ:St}{H:Hp}{s:Shared}{Q:VK}{us:List Value}{vs:List V}(F:FnOk X.prog X.w X.K X.mg X.base CX k f fd ps sp)(hr:Room k X.A)(hb:Binds X.K fd ps ds)(hd:Vals dvs ds)(hx:Passes CX X E)
  (I:Inv X pins σ H s) (r:Vals vs us) (h:sp (vs++dvs) H Q E):wpAny (model X.prog X.w) X.A (call (.ref f) us) (EP X pins σ Q) X.xe s:=by
 have r2:Vals (vs++dvs) (us++ds):=r.append hd;have hl:(us++ds).length=ps.length:=by rw[← r2.length];exact F.len _ _ _ _ h
 refine wpAny_call (codeAny_mono (F.run X.A X.stack s H ⟨us,[]⟩ (us++ds) (vs++dvs) Q E hr I.env0 (hb s us I.kIn hl) r2 h) fun r s' hq=>?_);cases r with
 | error e=>exact hx pins σ H s e s' I hq
 | ok fl =>
  cases fl with
  | ret u=>exact I.after hq
  | next=>exact False.elim hq
  | brk=>exact False.elim hq
  | cont=>exact False.elim hq
theorem pe_call (F:FnOk X.prog X.w X.K X.mg X.base CX k f fd ps sp)(hr:Room k X.A)(hg:Gl X x)(hm:X.mg x=some (.ref f))(hk:PySem.W.keepIn X.K (.ref f)=true)(hb:Binds X.K fd ps ds)(hd:Vals dvs ds)(hx:Passes CX X E)
  (ha:PA X (e::es) t) (hdb:(x == ("__debug__":Str))=false:=by decide) (he:starEach (e::es) X.env=(false,eval e X.env)::starEach es X.env:=by rfl) (hpl:(backTo pos (starEach es X.env)).any (·.1)=false:=by rfl) :
  PE X (.Call (.Name x p) (e::es) [] pos) (tCall sp dvs E t):=by
 intro pins s σ H Q I h;refine wpAny_Call_Name_kw (ld_glob I hg hm ?_ hdb);refine PySem.W.callWith_K (h₀:=X.base) I.ok.mod.kin hk (thn (ha pos pins s σ H _ I h) fun us s1 ⟨vs,H1,I1,r,q⟩=>⟨I1.kIn,?_⟩) he hpl;exact run_fn F hr hb hd hx I1 r q
end
section
variable {X:Cx}{CX:CXT}{k:Nat}{f C:Addr}{fd:FuncData}{ps ks:List Str}{sp:Sp}{E:XK}{x m:Str}{p pos apos kpos:Pos}{e o:Expr}{es:List Expr}{kws:List Keyword}{te ta:TE}{t tk:TA}{nm:Option Str}
variable {g:List Value→List Value→List Value}{gV:List V→List V→List V}
end
structure FnScope (N P:List Str)(sc:Scope):Prop where
 kind:sc.kind=.function
 co:sc.isCoroutine=false
 gen:sc.isGenerator=false
 nd:N.Nodup
 pre:N.take P.length=P
 par:∀ x∈P,sc.names.lookup x=some .local∨sc.names.lookup x=some .cell
 nofree:∀ y∈sc.names,y.2≠.free
theorem bindL_out {kindOf:Str→Option NameKind}{x:Str}:∀ {binds:List (Str×Value)} {m:Str→Option Value},(∀ v,(x,v)∉binds)→bindL kindOf binds m x=m x
 | [],_,_=>rfl
 | (n,v)::r,m,h=>by
  unfold bindL;rw[bindL_out fun w hw=>h w (List.mem_cons_of_mem _ hw)];split
  ·have:x≠n:=by rintro rfl;exact h v List.mem_cons_self
   simp[this]
  ·rfl
theorem bindC_out {kindOf:Str→Option NameKind}{x:Str}:∀ {binds:List (Str×Value)} {m:Str→Option Value},(∀ v,(x,v)∉binds)→bindC kindOf binds m x=m x
 | [],_,_=>rfl
 | (n,v)::r,m,h=>by
  unfold bindC;rw[bindC_out fun w hw=>h w (List.mem_cons_of_mem _ hw)];split
  ·rfl
  ·have:x≠n:=by rintro rfl;exact h v List.mem_cons_self
   simp[this]
theorem bindL_get {kindOf:Str→Option NameKind}{x:Str}{v:Value}:∀ {P:List Str} {vs:List Value} {i:Nat} {m:Str→Option Value},P.Nodup→P[i]?=some x→vs[i]?=some v→kindOf x=some .local →
  bindL kindOf (P.zip vs) m x=some v
 | [],_,_,_,_,h,_,_=>by simp at h
 | _::_,[],_,_,_,_,h,_=>by simp at h
 | p::P,w::vs,0,m,nd,h1,h2,hk=>by
  simp at h1 h2;subst h1;subst h2;show bindL kindOf ((p,w)::P.zip vs) m p=_;unfold bindL;rw[bindL_out fun v hv=>(List.nodup_cons.mp nd).1 (List.of_mem_zip hv).1,if_pos hk];simp
 | p::P,w::vs,i+1,m,nd,h1,h2,hk=>by
  show bindL kindOf ((p,w)::P.zip vs) m x=_;unfold bindL;exact bindL_get (i:=i) (List.nodup_cons.mp nd).2 (by simpa using h1) (by simpa using h2) hk
theorem bindC_get {kindOf:Str→Option NameKind}{x:Str}{v:Value}:∀ {P:List Str} {vs:List Value} {i:Nat} {m:Str→Option Value},P.Nodup→P[i]?=some x→vs[i]?=some v→kindOf x≠some .local →
  bindC kindOf (P.zip vs) m x=some v
 | [],_,_,_,_,h,_,_=>by simp at h
 | _::_,[],_,_,_,_,h,_=>by simp at h
 | p::P,w::vs,0,m,nd,h1,h2,hk=>by
  simp at h1 h2;subst h1;subst h2;show bindC kindOf ((p,w)::P.zip vs) m p=_;unfold bindC;rw[bindC_out fun v hv=>(List.nodup_cons.mp nd).1 (List.of_mem_zip hv).1,if_neg hk];simp
 | p::P,w::vs,i+1,m,nd,h1,h2,hk=>by
  show bindC kindOf ((p,w)::P.zip vs) m x=_;unfold bindC;exact bindC_get (i:=i) (List.nodup_cons.mp nd).2 (by simpa using h1) (by simpa using h2) hk
def start (N:List Str)(vs:List V):St:=vs.map some++List.replicate (N.length-vs.length) none
def cxOf (CX:CXT)(P:Program)(w:World)(K:PySem.W.Frag)(mg:Str→Option Value)(base:Heap)(N:List Str)(qual:Str)(scope:Scope)(f:Addr)(cd:Value)(A:Around)(outer:List Env)(s:Shared)(H:Hp)(E:XK):Cx where
 prog:=P
 w:=w
 K:=K
 mg:=mg
 base:=base
 A:=A.deeper (envOfC qual scope s.heap.objs.size f cd)
 N:=N
 s₀:=s
 H₀:=H
 env:=envOfC qual scope s.heap.objs.size f cd
 outer:=outer
 stack:=envOfC qual scope s.heap.objs.size f cd::outer
 ex:=[]
 calm:=true
 fn:=fun _=>true
 pn:=[]
 xe:=fun e s'=>wpAny (model P w) (A.deeper (envOfC qual scope s.heap.objs.size f cd)) (leaving (envOfC qual scope s.heap.objs.size f cd) e) (fun _ s''=>CX outer H s E e s'') (fun e' s''=>CX outer H s E e' s'') s'
theorem cell_has {sc:Scope}{n:Nat}{x:Str}(h:sc.names.lookup x=some .cell):∃ c,(cellsFrom n sc.names []).lookup x=some c:=by
 have q:=PySem.W.cellsFrom_some sc.names n [] (.inl h);exact Option.isSome_iff_exists.mp q
theorem inv_start {CX:CXT}{P:Program}{w:World}{K:PySem.W.Frag}{mg:Str→Option Value}{base:Heap}{N ps:List Str}{qual:Str}{scope:Scope}{f:Addr}{cd:Value}{A:Around}{outer:List Env}{s s1:Shared}{H:Hp}{E:XK}{us:List Value}{vs:List V}
  (S:FnScope N ps scope) (hd:A.handled=none) (e0:Env0 P w K mg base A outer s H) (hl:vs.length=ps.length) (r:Vals vs us)
  (x:InCallC s s.heap.objs.size (bindL (envOfC qual scope s.heap.objs.size f cd).kindOf (ps.zip us) fun _=>none) (cellsFrom (s.heap.objs.size+1) scope.names []) (bindC (envOfC qual scope s.heap.objs.size f cd).kindOf (ps.zip us) fun _=>none) s1) :
  Inv (cxOf CX P w K mg base N qual scope f cd A outer s H E) [] (start N vs) H s1:=by
 have hpl:ps.length≤N.length:=by have:=congrArg List.length S.pre;rw[List.length_take] at this;omega
 obtain⟨h1,tk,rfl,hk⟩:=x.done;have noA:∀ b:Addr,b∉(cxOf CX P w K mg base N qual scope f cd A outer s H E).ex:=fun b z=>absurd (show b∈([]:List Addr) from z) (by simp)
 refine⟨⟨e0.mod,S.kind,rfl,rfl,Nat.le_refl _,fun y z c h1 h2=>?_,fun y hy=>?_,fun y c _ h=>?_,fun _=>hd,Around.frames_deeper e0.frames,.inr ⟨rfl,rfl⟩,fun b z=>absurd z (noA b),e0.bs,e0.bsz,fun b _ _=>noA b,fun b z=>absurd z (noA b),e0.funs,e0.frf⟩,
  rfl,e0.bare,Un.kept hk,⟨_,x.toInCall.ns,fun i y v h1 h2 h3=>?_⟩,fun y c h=>⟨_,x.cell y c h⟩,e0.hok.fresh (Nat.le_refl _),fun y c h=>?_,fun p hp=>absurd (show p∈([]:List (Addr×Obj)) from hp) (by simp),e0.hok.kept hk,?_⟩
 ·exact name_of_addr x.apart (PySem.mem_of_lookup h1) (PySem.mem_of_lookup h2)
 ·have hy:scope.names.lookup y=some .cell∨scope.names.lookup y=some .free:=hy;rcases hy with hy | hy
  ·exact cell_has hy
  ·exact absurd rfl (S.nofree _ (PySem.mem_of_lookup hy))
 ·exact Nat.le_of_lt (x.above y c (PySem.mem_of_lookup h))
 ·have hi:i<vs.length:=by
   unfold start at h2;by_cases hi:i<vs.length
   ·exact hi
   ·rw[List.getElem?_append_right (by simpa using hi)] at h2;rw[List.getElem?_replicate] at h2;split at h2<;>cases h2
  have ha:vs[i]?=some v:=by
   unfold start at h2;rw[List.getElem?_append_left (by simpa using hi),List.getElem?_map] at h2;cases e:vs[i]? with
   | none=>rw[e] at h2;cases h2
   | some a=>rw[e] at h2;cases h2;rfl
  obtain⟨u,hu,rv⟩:=r.get ha;have hp:ps[i]?=some y:=by
   rw[← S.pre,List.getElem?_take_of_lt (by omega)];exact h1
  have ndP:ps.Nodup:=by rw[← S.pre];exact S.nd.sublist (List.take_sublist _ _)
  refine⟨u,rv,?_⟩;rcases S.par y (List.mem_of_getElem? hp) with k | k
  ·exact .inl ⟨k,bindL_get ndP hp hu k⟩
  ·obtain⟨c,e⟩:=cell_has (n:=s.heap.objs.size+1) k;refine .inr ⟨.inl k,c,e,?_⟩;have q:=x.cell y c e;rw[bindC_get ndP hp hu (by show scope.names.lookup y≠_;rw[k];decide)] at q;exact q
 ·exact e0.hok.fresh (Nat.le_of_lt (x.above y c (PySem.mem_of_lookup h)))
 ·unfold start;show _=N.length;rw[List.length_append,List.length_map,List.length_replicate];omega
theorem fn_of {CX:CXT}{P:Program}{w:World}{K:PySem.W.Frag}{mg:Str→Option Value}{base:Heap}{k:Nat}{f:Addr}{name qual:Str}{params:Arguments}{body:List Stmt}{scope:Scope}{dV kV doc pm cdv ct oc:Value}{an od:Option Addr}
  {osl:Array (Option Value)} {N ps:List Str} {sp:Sp} (lk:K.lookup f=some ⟨oc,od,.func (PySem.W.fnOf name qual params body scope dV kV doc pm an cdv ct),osl⟩) (hcd:PySem.W.codeIn K cdv qual=true) (S:FnScope N ps scope)
  (len:∀ vs H Q E,sp vs H Q E→vs.length=ps.length)
  (hbody:∀ (A:Around) (outer:List Env) (s:Shared) (H:Hp) (vs:List V) (Q:VK) (E:XK),Room k (A.deeper (envOfC qual scope s.heap.objs.size f cdv))→sp vs H Q E →
   ∃ t,PSs (cxOf CX P w K mg base N qual scope f cdv A outer s H E) body t∧t {nx:=fun _ H'=>Q .non H',rt:=Q} (start N vs) H) :
  FnOk P w K mg base CX (k+1) f (PySem.W.fnOf name qual params body scope dV kV doc pm an cdv ct) ps sp:=by
 refine⟨len,fun A outer s H args us vs Q E hr e0 hb r hsp=>?_⟩;have hl:=len _ _ _ _ hsp;have KX:K.In s.heap:=e0.mod.kin.keeps fun b o e=>(e0.bs b o e).1
 have lim:s.heap.NoLimit:=e0.mod.nolimit.keeps fun b o e=>(e0.bs b o e).1
 have hkind:∀ y∈ps.zip us,scope.names.lookup y.1=some .local∨(scope.names.lookup y.1=some .cell∧((cellsFrom (s.heap.objs.size+1) scope.names []).lookup y.1).isSome=true):=fun ⟨n,v⟩ hy=>by
  rcases S.par n (List.of_mem_zip hy).1 with q | q
  ·exact .inl q
  ·exact .inr ⟨q,PySem.W.cellsFrom_some _ _ _ (.inl q)⟩
 refine codeAny_call_function hr.depth (KX _ _ lk) rfl S.co S.gen rfl (PySem.W.codeRec_of KX hcd) (hb _ _ _ _ ?_);refine wpAny_newFunctionEnv_cells S.kind hkind fun env he s1 x=>?_
 subst he;refine⟨lim.keeps x.toInCall.keep,codeAny_func ?_⟩;obtain⟨t,ht,hq⟩:=hbody A outer s H vs Q E (hr.deeper _) hsp;have I:Inv (cxOf CX P w K mg base N qual scope f cdv A outer s H E) [] (start N vs) H s1:=inv_start S hr.hd e0 hl r x;refine wpAny_mono (ht [] s1 (start N vs) H _ I hq) (fun fl s' hs=>?_) fun e s' hs=>hs
 have fin:∀ {σ':St} {H':Hp} {v:V} {u:Value},Inv (cxOf CX P w K mg base N qual scope f cdv A outer s H E) [] σ' H' s'→RelV v u→Q v H'→CE outer P w H s Q u s' :=
  fun {σ' H' v u} J rv q=>⟨v,H',J.os,J.bare,J.base,J.hok,rv,q⟩
 cases fl with
 | ret u =>
  obtain⟨v,σ',H',J,rv,q⟩:=hs;exact fin J rv q
 | next =>
  obtain⟨σ',H',J,q⟩:=hs;exact fin (v:=V.non) (u:=Value.none) J rfl q
 | brk =>
  obtain⟨_,_,_,q⟩:=hs;exact False.elim q
 | cont =>
  obtain⟨_,_,_,q⟩:=hs;exact False.elim q
end L2
namespace L2
open PySem PySem.Spec PyProof.Rows
section
variable {X:Cx}{x:Str}{p pos:Pos}{e:Expr}{es:List Expr}{t:TA}{id T:String}{r:List V→Hp→VK→Prop}
def tCB (r:List V→Hp→VK→Prop)(t:TA):TE:=fun σ H Q=>t σ H fun vs H1=>r vs H1 Q
theorem pe_callB (hc:CallR X (.builtin id) r)(hg:Gl X x)(hm:X.mg x=none)(hv:bootBuiltins x=some (.builtin id))(ha:PA X (e::es) t)(hn:x≠"__name__":=by decide)(hdb:(x == ("__debug__":Str))=false:=by decide)
  (he:starEach (e::es) X.env=(false,eval e X.env)::starEach es X.env:=by rfl) (hpl:(backTo pos (starEach es X.env)).any (·.1)=false:=by rfl):PE X (.Call (.Name x p) (e::es) [] pos) (tCB r t):=by
 intro pins s σ H Q I h;refine wpAny_Call_Name_kw (ld_blt I hg hm hv ?_ hn hdb);exact PyProof.Rows.callWith_builtin1 (thn (ha pos pins s σ H _ I h) fun us s1 ⟨vs,H1,I1,r1,q1⟩=>hc pins s1 σ H1 vs us Q I1 r1 q1) he hpl
theorem pe_callTy (hc:CallR X (.type T) r)(hg:Gl X x)(hm:X.mg x=none)(hv:bootBuiltins x=some (.type T))(ha:PA X (e::es) t)(hn:x≠"__name__":=by decide)(hdb:(x == ("__debug__":Str))=false:=by decide)
  (he:starEach (e::es) X.env=(false,eval e X.env)::starEach es X.env:=by rfl) (hpl:(backTo pos (starEach es X.env)).any (·.1)=false:=by rfl):PE X (.Call (.Name x p) (e::es) [] pos) (tCB r t):=by
 intro pins s σ H Q I h;refine wpAny_Call_Name_kw (ld_blt I hg hm hv ?_ hn hdb);exact PyProof.Rows.callWith_type1 (thn (ha pos pins s σ H _ I h) fun us s1 ⟨vs,H1,I1,r1,q1⟩=>hc pins s1 σ H1 vs us Q I1 r1 q1) he hpl
end
end L2
namespace HT
open PySem PyProof.Rows
def lexLt:List Int→List Int→Bool
 | [],[]=>false
 | [],_::_=>true
 | _::_,[]=>false
 | x::xs,y::ys=>if x=y then lexLt xs ys else decide (x<y)
theorem lexLt_cons (x y:Int)(xs ys:List Int):lexLt (x::xs) (y::ys)=if x=y then lexLt xs ys else decide (x<y):=rfl
section
open PySem.SeqAt
open PySem.AutoSeq1 (wpAny_loadPart')
open PySem.MeetsSeq PySem.MeetsSeq2 PySem.MeetsSeq3
end
section
variable {prog:Program}{w:World}{A:Around}{E:Value→Shared→Prop}{s:Shared}
theorem cat_tup {t b:Addr}{vs ws:List Value}{Q:Value→Shared→Prop}(ht:IsTup s.heap t vs.toArray)(hb:IsTup s.heap b ws.toArray)(hv:vs≠[])
  (h1:ws=[]→Q (.ref t) s) (h2:ws≠[]→Q (.ref s.heap.objs.size) {s with heap:=s.heap.push {cls:=.type "tuple",data:=.seq (vs++ws).toArray}})
  (hsz:vs.length+ws.length≤sizeLine):wpAny (model prog w) A (binaryOp .Add (.ref t) (.ref b)) Q E s:=by
 obtain⟨⟨cls,dd,data,sl⟩,ho,hc,n,hd⟩:=id ht;obtain⟨⟨cls2,dd2,data2,sl2⟩,ho2,hc2,n2,hd2⟩:=id hb;simp only at hc hd hc2 hd2;subst hc hd hc2 hd2;have e:vs.toArray++ws.toArray=(vs++ws).toArray:=by simp
 by_cases hw:ws=[]
 ·exact concat_meets ⟨_,ho,rfl⟩ ⟨_,ho2,rfl⟩ noFill_tuple_add seq_tuple_add PySem.F.slot_tuple_add PySem.F.entry_tuple_add (PySem.F.args_tuple_add_2 _ _)
   (tuple_addW1 t b vs.toArray ws.toArray n n2 dd dd2 sl sl2 (by simpa using hv) (by simp[hw])) ⟨ho,ho2,h1 hw⟩
 ·refine concat_meets ⟨_,ho,rfl⟩ ⟨_,ho2,rfl⟩ noFill_tuple_add seq_tuple_add PySem.F.slot_tuple_add PySem.F.entry_tuple_add (PySem.F.args_tuple_add_2 _ _)
   (tuple_addW2 t b vs.toArray ws.toArray n n2 dd dd2 sl sl2 (by simpa using hv) (by simpa using hw) (by rw[List.size_toArray,List.size_toArray];exact hsz)) ⟨ho,ho2,?_⟩
  rw[e];exact h2 hw
def sIx (n d:Nat):Option Int→Nat
 | none=>d
 | some v=>if v<0 then (v+(n:Int)).toNat else min v.toNat n
theorem sIx_none (n d:Nat):sIx n d none=d:=rfl
theorem sIx_nat (n d k:Nat):sIx n d (some (k:Int))=min k n:=by
 show (if (k:Int)<0 then ((k:Int)+(n:Int)).toNat else min (k:Int).toNat n)=min k n;rw[if_neg (by omega),Int.toNat_natCast]
end
end HT
namespace L2
open PySem PySem.Spec PyProof.Rows
abbrev TO:=St→Hp→(Option Int→Hp→Prop)→Prop
def PO (X:Cx)(e:Option Expr)(t:TO):Prop :=
 ∀ (pins:List (Addr×Obj)) (s:Shared) (σ:St) (H:Hp) (Q:Option Int→Hp→Prop),Inv X pins σ H s→t σ H Q →
  wpAny (model X.prog X.w) X.A (evalPart e X.env) (fun u s'=>∃ o H',Inv X pins σ H' s'∧IsPart u o∧Q o H') X.xe s
def tNoPart:TO:=fun _ H Q=>Q none H
def tPart (t:TE):TO:=fun σ H Q=>t σ H fun x H1=>∃ i,x=.int i∧Q (some i) H1
theorem intsAre_of {ns:List Int}:∀ {us:List Value},Vals (ns.map V.int) us→IntsAre us ns:=by
 induction ns with
 | nil=>intro us r;rw[List.map_nil] at r;cases r;exact .nil
 | cons n ns ih =>
  intro us r;rw[List.map_cons] at r;cases r with
  | cons r1 r2 =>
   obtain⟨t,e⟩:=r1;subst e;exact .cons n t (ih r2)
section
variable {X:Cx}{e:Expr}{te:TE}{lo hi:Option Expr}{tl th:TO}{pos p2:Pos}
theorem po_none:PO X none tNoPart:=by
 intro pins s σ H Q I h;rw[evalPart_none];exact wpAny_pure ⟨none,H,I,.none,h⟩
theorem po_some (h:PE X e te):PO X (some e) (tPart te):=by
 intro pins s σ H Q I hw;rw[evalPart_some];refine thn (h pins s σ H _ I hw) fun u s1 ⟨x,H1,I1,r1,q1⟩=>?_
 obtain⟨i,rfl,q⟩:=q1;obtain⟨t,rfl⟩:=r1;exact⟨some i,H1,I1,.int i t,q⟩
def SlR (X:Cx)(r:V→Option Int→Option Int→Hp→VK→Prop):Prop :=
 ∀ (pins:List (Addr×Obj)) (s:Shared) (σ:St) (H:Hp) (x:V) (v vl vu:Value) (lo hi:Option Int) (sl:Addr) (Q:VK),Inv X pins σ H s→RelV x v→s.heap.IsSliceOf sl vl vu .none→IsPart vl lo→IsPart vu hi→r x lo hi H Q →
  ∃ T id,typeLookup (.type T) "__getitem__"=pure (some (.builtin id))∧s.TypeIs v T∧wpAny (model X.prog X.w) X.A (getItem v (.ref sl)) (EP X pins σ Q) X.xe s
def tSl (r:V→Option Int→Option Int→Hp→VK→Prop)(te:TE)(tl th:TO):TE:=fun σ H Q=>te σ H fun x H1=>tl σ H1 fun l H2=>th σ H2 fun u H3=>r x l u H3 Q
theorem pe_slice {r:V→Option Int→Option Int→Hp→VK→Prop}(hr:SlR X r)(he:PE X e te)(hl:PO X lo tl)(hu:PO X hi th):PE X (.Subscript e (.Slice lo hi none p2) pos) (tSl r te tl th):=by
 intro pins s σ H Q I h;refine Subscript_ (thn (he pins s σ H _ I h) fun v s1 ⟨x,H1,I1,r1,q1⟩=>?_);refine wpAny_Slice (thn (hl pins s1 σ H1 _ I1 q1) fun vl s2 ⟨l,H2,I2,pl,q2⟩=>thn (hu pins s2 σ H2 _ I2 q2) fun vu s3 ⟨u,H3,I3,pu,q3⟩=>?_);rw[evalPart_none];refine wpAny_pure ?_;have I4:Inv X pins σ H3 {s3 with heap:=s3.heap.push {cls:=.type "slice",data:=.fields #[vl,vu,.none]}}:=I3.kept (t':=s3.toks) fun b ob q=>Heap.get?_push_of_some _ q
 obtain⟨T,id,hT,ht,hg⟩:=hr pins {s3 with heap:=s3.heap.push {cls:=.type "slice",data:=.fields #[vl,vu,.none]}} σ H3 x v vl vu l u s3.heap.objs.size Q I4 r1 (Heap.IsSliceOf.new ..) pl pu q3;show wpAny (model X.prog X.w) X.A (subscriptTail e (.Slice lo hi none p2) v (.ref s3.heap.objs.size)) (EP X pins σ Q) X.xe {s3 with heap:=s3.heap.push {cls:=.type "slice",data:=.fields #[vl,vu,.none]}};exact tail_any (ops:=[.ref s3.heap.objs.size,v]) ht hT hg (by with_unfolding_all rfl)
def cutV (xs:List V)(lo hi:Option Int):List V:=(xs.drop (HT.sIx xs.length 0 lo)).take (HT.sIx xs.length xs.length hi-HT.sIx xs.length 0 lo)
theorem cutV_length (xs:List V)(lo hi:Option Int):(cutV xs lo hi).length≤xs.length:=by
 unfold cutV;rw[List.length_take,List.length_drop];omega
theorem Vals.nil_iff {xs:List V}{us:List Value}(r:Vals xs us):us=[]↔xs=[]:=by
 cases r with
 | nil=>simp
 | cons _ _=>simp
end
end L2
namespace L2
open PySem PySem.Spec PyProof.Rows
def ixN (n:Nat)(i:Int):Option Nat:=if 0≤i then (if i<n then some i.toNat else none) else if -(n:Int)≤i then some (i+n).toNat else none
def atI {α:Type}(xs:List α)(i:Int):Option α:=(ixN xs.length i).bind fun j=>xs[j]?
theorem ixN_seq {n:Nat}{i:Int}{j:Nat}(h:ixN n i=some j):seqIndex? i n=some j∧j<n∧-(n:Int)≤i∧i<n:=by
 unfold ixN at h;by_cases h0:0≤i
 ·rw[if_pos h0] at h;by_cases h1:i<n
  ·rw[if_pos h1] at h;have e:i.toNat=j:=Option.some.inj h;exact⟨by rw[seqIndex_of h0 h1,e],by omega,by omega,h1⟩
  ·rw[if_neg h1] at h;cases h
 ·rw[if_neg h0] at h;by_cases h1:-(n:Int)≤i
  ·rw[if_pos h1] at h;have e:(i+n).toNat=j:=Option.some.inj h;exact⟨by rw[seqIndex_neg (by omega) h1,e],by omega,h1,by omega⟩
  ·rw[if_neg h1] at h;cases h
theorem atI_get {α:Type}{xs:List α}{i:Int}{v:α}(h:atI xs i=some v):∃ j,seqIndex? i xs.length=some j∧xs[j]?=some v∧j<xs.length∧-(xs.length:Int)≤i∧i<xs.length:=by
 unfold atI at h;cases e:ixN xs.length i with
 | none=>rw[e] at h;cases h
 | some j =>
  rw[e] at h;obtain⟨h1,h2,h3,h4⟩:=ixN_seq e;exact⟨j,h1,h,h2,h3,h4⟩
theorem atI_nat {α:Type}{xs:List α}{j:Nat}{v:α}(h:xs[j]?=some v):atI xs (j:Int)=some v:=by
 have hj:j<xs.length:=(List.getElem?_eq_some_iff.mp h).1;have e:ixN xs.length (j:Int)=some j:=by
  unfold ixN;rw[if_pos (by omega),if_pos (by omega)];simp
 unfold atI;rw[e];exact h
def PlainIx (b:Expr):Prop:=∀ o i,subscripted b false o i=operate [o,i] (getItem o i)
def IxR (X:Cx)(r:R2):Prop :=
 ∀ (value slice:Expr) (pins:List (Addr×Obj)) (s:Shared) (σ:St) (H:Hp) (x y:V) (v u:Value) (Q:VK),Inv X pins σ H s→RelV x v→RelV y u→r x y H Q →
  subscripted slice false v u=operate [v,u] (getItem v u)→wpAny (model X.prog X.w) X.A (subscriptTail value slice v u) (EP X pins σ Q) X.xe s
def MtR (X:Cx)(id:String)(r:V→List V→Hp→VK→Prop):Prop :=
 ∀ (pins:List (Addr×Obj)) (s:Shared) (σ:St) (H:Hp) (x:V) (xs:List V) (v:Value) (us:List Value) (Q:VK),Inv X pins σ H s→RelV x v→Vals xs us→r x xs H Q →
  wpAny (model X.prog X.w) X.A (call (.builtin id) (v::us)) (EP X pins σ Q) X.xe s
section
variable {X:Cx}{a b:Expr}{ta tb:TE}{pos:Pos}
theorem pe_ix {r:R2}(hr:IxR X r)(ha:PE X a ta)(hb:PE X b tb)(hs:PlainIx b):PE X (.Subscript a b pos) (tOp r ta tb):=by
 intro pins s σ H Q I h;exact Subscript_ (binT ha hb I h fun v u s2 x y H2 I2 rx ry q=>hr a b pins s2 σ H2 x y v u Q I2 rx ry q (hs _ _))
def rIxL (K:PySem.W.Frag):R2:=fun x y H Q=>∃ p xs i v,x=.ref p∧y=.int i∧SqL K H p xs∧atI xs i=some v∧Q v H
def rIxT (K:PySem.W.Frag):R2:=fun x y H Q=>∃ p xs i v,x=.ref p∧y=.int i∧SqT K H p xs∧atI xs i=some v∧Q v H
theorem ix_list:IxR X (rIxL X.K):=by
 intro value slice pins s σ H x y v u Q I rx ry h hs;obtain⟨p,xs,i,z,rfl,rfl,hq,he,q⟩:=h;cases rx;obtain⟨t,rfl⟩:=ry;obtain⟨its,r,pl,hz⟩:=I.list hq;obtain⟨j,h1,h2,h3,h4,h5⟩:=atI_get he;obtain⟨w,ew,rw'⟩:=r.get h2;have hl:=r.length;have hn:=line63;have fin:EP X pins σ Q w s:=⟨z,H,I,rw',q⟩
 by_cases h0:0≤i
 ·have hj:i.toNat=j:=by
   rw[seqIndex_of h0 h5] at h1;exact Option.some.inj h1
  exact item_listR pl.isList h0 (by omega) (by rw[hj];simpa using ew) fin hs
 ·have hj:(i+(its.toArray.size:Int)).toNat=j:=by
   rw[seqIndex_neg (by omega) h4] at h1;rw[List.size_toArray,← hl];exact Option.some.inj h1
  exact subscriptTail_builtinR (x:=w) pl.isList.typeIs slot_list_getitem.lookup
   (wpAny_getItem_list_neg (Q:=fun r s'=>r=w∧EP X pins σ Q r s') pl.isList (by omega) (by rw[List.size_toArray]<;>omega) (by omega) (by rw[hj];simpa using ew) ⟨rfl,fin⟩) hs
theorem ix_tup:IxR X (rIxT X.K):=by
 intro value slice pins s σ H x y v u Q I rx ry h hs;obtain⟨p,xs,i,z,rfl,rfl,hq,he,q⟩:=h;cases rx;obtain⟨t,rfl⟩:=ry;obtain⟨its,r,pl,hz⟩:=I.tuple hq;obtain⟨j,h1,h2,h3,h4,h5⟩:=atI_get he;obtain⟨w,ew,rw'⟩:=r.get h2;have hl:=r.length;have hn:=line63;have fin:EP X pins σ Q w s:=⟨z,H,I,rw',q⟩
 exact subscriptTail_builtinR (x:=w) pl.typeIs slot_tuple_getitem.lookup
  (getItem_tuple (j:=j) (Q:=fun r s'=>r=w∧EP X pins σ Q r s') pl (by omega) (by omega) (by rw[List.size_toArray,← hl];exact h1) (by simpa using ew) ⟨rfl,fin⟩) hs
theorem mapSeq_set (its:List Value)(n j:Nat)(u:Value):Obj.mapSeq (·.setIfInBounds j u) {cls:=.type "list",data:=.seq its.toArray n}={cls:=.type "list",data:=.seq (its.set j u).toArray n}:=by
 simp[Obj.mapSeq]
theorem Inv.lst {pins:List (Addr×Obj)}{σ:St}{H:Hp}{s:Shared}{p:Addr}{xs:List V}(I:Inv X pins σ H s)(h:H p=some (.lst xs)) :
  ∃ (its:List Value) (n:Nat),Vals xs its∧s.heap.get? p=some {cls:=.type "list",data:=.seq its.toArray n}∧xs.length≤sizeLine:=by
 obtain⟨z,its,n,r,e⟩:=I.hok p _ h;exact⟨its,n,r,e,z⟩
theorem Inv.lstUpd {pins:List (Addr×Obj)}{σ:St}{H:Hp}{s:Shared}{p:Addr}{xs ys:List V}{its its':List Value}{n n':Nat}{f:Obj→Obj}(I:Inv X pins σ H s)(h:H p=some (.lst xs))
  (ho:s.heap.get? p=some {cls:=.type "list",data:=.seq its.toArray n}) (hf:f {cls:=.type "list",data:=.seq its.toArray n}={cls:=.type "list",data:=.seq its'.toArray n'}) (r:Vals ys its') (hz:ys.length≤sizeLine) (t:Nat) :
  Inv X pins σ (upd H p (.lst ys)) {s with heap:=s.heap.update p f,toks:=t}:=by
 have e:(s.heap.update p f).get? p=some {cls:=.type "list",data:=.seq its'.toArray n'}:=by
  rw[Heap.get?_update_self f ho (by rw[hf]<;>rfl),hf]
 refine I.write (x:=p) (e:=p) (by rw[h];trivial) (.inl rfl) (fun b u hb q=>(Heap.get?_update_other _ _ (Ne.symm hb)).trans q) ⟨_,e⟩ ?_;exact⟨hz,its',n',r,e⟩
def rSetL:V→V→V→Hp→(Hp→Prop)→Prop:=fun o i v H Q=>∃ p xs k j,o=.ref p∧i=.int k∧H p=some (.lst xs)∧ixN xs.length k=some j∧Q (upd H p (.lst (xs.set j v)))
theorem set_list:PSet X rSetL:=by
 intro pins s σ H o i v ov iv u Q I ro ri rv h;obtain⟨p,xs,k,j,rfl,rfl,hp,hj,q⟩:=h;cases ro;obtain⟨t,rfl⟩:=ri;obtain⟨its,n,r,ho,hz⟩:=I.lst hp;obtain⟨h1,h2,h3,h4⟩:=ixN_seq hj;have hl:=r.length;have hn:=line63;have I':Inv X pins σ (upd H p (.lst (xs.set j v))) {s with heap:=s.heap.update p (Obj.mapSeq (·.setIfInBounds j u))} :=
  I.lstUpd hp ho (mapSeq_set its n j u) (r.set rv j) (by rw[List.length_set];exact hz) s.toks
 by_cases h0:0≤k
 ·have hk:k.toNat=j:=by
   rw[seqIndex_of h0 h4] at h1;exact Option.some.inj h1
  exact PySem.W.ki_setAt ho h0 (by omega) (by rw[List.size_toArray,← hl];exact h4) (by rw[hk];exact⟨_,I',q⟩)
 ·have hk:(k+(its.toArray.size:Int)).toNat=j:=by
   rw[seqIndex_neg (by omega) h3] at h1;rw[List.size_toArray,← hl];exact Option.some.inj h1
  exact PySem.W.ki_setBack ho (by omega) (by rw[List.size_toArray,← hl];exact h3) (by omega) (by rw[hk];exact⟨_,I',q⟩)
theorem slice_bounds (lo hi:Option Int)(n:Nat):(sliceBounds lo hi none n).1=((HT.sIx n 0 lo:Nat):Int)∧(sliceBounds lo hi none n).2.1=((HT.sIx n n hi:Nat):Int)∧(sliceBounds lo hi none n).2.2=1:=by
 refine⟨?_,?_,rfl⟩
 ·cases lo with
  | none=>simp[sliceBounds,HT.sIx]
  | some i =>
   simp only[sliceBounds,HT.sIx,Option.getD_none,show (1:Int)>0 by decide,if_true];by_cases h:i<0
   ·simp only[h,if_true]<;>omega
   ·simp only[h,if_false]<;>omega
 ·cases hi with
  | none=>simp[sliceBounds,HT.sIx]
  | some i =>
   simp only[sliceBounds,HT.sIx,Option.getD_none,show (1:Int)>0 by decide,if_true];by_cases h:i<0
   ·simp only[h,if_true]<;>omega
   ·simp only[h,if_false]<;>omega
theorem slicePick_cut (its:List Value)(lo hi:Option Int):slicePick its.toArray lo hi none=((its.drop (HT.sIx its.length 0 lo)).take (HT.sIx its.length its.length hi-HT.sIx its.length 0 lo)).toArray:=by
 obtain⟨h1,h2,h3⟩:=slice_bounds lo hi its.toArray.size;unfold slicePick;rw[h1,h2,h3];simp only[sliceRange_one,pick_run,List.size_toArray]<;>rfl
def rSlL (K:PySem.W.Frag):V→Option Int→Option Int→Hp→VK→Prop:=fun x lo hi H Q=>∃ a xs,x=.ref a∧SqL K H a xs∧∀ p,H p=none→Q (.ref p) (upd H p (.lst (cutV xs lo hi)))
theorem sl_list:SlR X (rSlL X.K):=by
 intro pins s σ H x v vl vu lo hi sl Q I rx hs pl pu h;obtain⟨a,xs,rfl,hx,q⟩:=h;cases rx;obtain⟨its,r,ht,hz⟩:=I.list hx;have hlen:=r.length;refine⟨"list",_,slot_list_getitem.lookup,ht.isList.typeIs,?_⟩;refine wpAny_getItem_list_slice ht.isList hs pl pu .none (by simp) ?_ (by rw[List.size_toArray]<;>omega);rw[slicePick_cut,← hlen];refine⟨.ref s.heap.objs.size,_,I.laid (t':=s.toks) (o:=.lst (cutV xs lo hi)) (fun b ob q=>Heap.get?_push_of_some _ q) (Nat.le_refl _) ?_,rfl,q _ (I.hok.fresh (Nat.le_refl _))⟩;exact⟨Nat.le_trans (cutV_length xs lo hi) hz,_,0,(r.drop (HT.sIx xs.length 0 lo)).take (HT.sIx xs.length xs.length hi-HT.sIx xs.length 0 lo),Heap.get?_push_size _ rfl⟩
def flatV:V→Bool
 | .non=>true
 | .bl _=>true
 | .int _=>true
 | .str _=>true
 | _=>false
def eqV:V→V→Bool
 | .non,.non=>true
 | .bl a,.bl b=>a == b
 | .bl a,.int b=>(if a then 1 else 0) == b
 | .int a,.bl b=>a == (if b then 1 else 0)
 | .int a,.int b=>a == b
 | .str a,.str b=>a == b
 | _,_=>false
theorem eqAt_V {A:Around}{s:Shared}{y x:V}{u v:Value}(ry:RelV y u)(rx:RelV x v)(fy:flatV y=true)(fx:flatV x=true):SeqAt.EqAt A s u v (eqV y x):=by
 cases y with
 | non =>
  cases ry;cases x with
  | non=>cases rx;exact SeqAt.EqAt.same _
  | bl b=>cases rx;exact SeqAt.EqAt.none_bool b
  | int b=>obtain⟨t,rfl⟩:=rx;exact SeqAt.EqAt.none_int b t
  | str b=>obtain⟨t,rfl⟩:=rx;exact SeqAt.EqAt.none_str b t
  | _=>exact absurd (show false=true from fx) Bool.false_ne_true
 | bl a =>
  cases ry;cases x with
  | non=>cases rx;exact SeqAt.EqAt.bool_none a
  | bl b=>cases rx;exact SeqAt.EqAt.bool_bool a b
  | int b=>obtain⟨t,rfl⟩:=rx;exact SeqAt.EqAt.bool_int a b t
  | str b=>obtain⟨t,rfl⟩:=rx;exact SeqAt.EqAt.bool_str a b t
  | _=>exact absurd (show false=true from fx) Bool.false_ne_true
 | int a =>
  obtain⟨t',rfl⟩:=ry;cases x with
  | non=>cases rx;exact SeqAt.EqAt.int_none a t'
  | bl b=>cases rx;exact SeqAt.EqAt.int_bool a t' b
  | int b=>obtain⟨t,rfl⟩:=rx;exact SeqAt.EqAt.int_int a t' b t
  | str b=>obtain⟨t,rfl⟩:=rx;exact SeqAt.EqAt.int_str a t' b t
  | _=>exact absurd (show false=true from fx) Bool.false_ne_true
 | str a =>
  obtain⟨t',rfl⟩:=ry;cases x with
  | non=>cases rx;exact SeqAt.EqAt.str_none a t'
  | bl b=>cases rx;exact SeqAt.EqAt.str_bool a t' b
  | int b=>obtain⟨t,rfl⟩:=rx;exact SeqAt.EqAt.str_int a t' b t
  | str b=>obtain⟨t,rfl⟩:=rx;exact SeqAt.EqAt.str_str a t' b t
  | _=>exact absurd (show false=true from fx) Bool.false_ne_true
 | _=>exact absurd (show false=true from fy) Bool.false_ne_true
def eqU (x:V)(u:Value):Bool:=match u with
 | .none=>eqV .non x
 | .bool b=>eqV (.bl b) x
 | .int i _=>eqV (.int i) x
 | .str z _=>eqV (.str z) x
 | _=>false
theorem eqU_of {x y:V}{u:Value}(r:RelV y u)(f:flatV y=true):eqU x u=eqV y x:=by
 cases y with
 | non=>cases r;rfl
 | bl b=>cases r;rfl
 | int i=>obtain⟨t,rfl⟩:=r;rfl
 | str z=>obtain⟨t,rfl⟩:=r;rfl
 | _=>exact absurd (show false=true from f) Bool.false_ne_true
theorem any_eqU {x:V}:∀ {xs:List V} {us:List Value},Vals xs us→xs.all flatV=true→us.any (eqU x)=xs.any fun y=>eqV y x
 | _,_,.nil,_=>rfl
 | y::xs,u::us,.cons r t,f=>by
  rw[List.all_cons,Bool.and_eq_true] at f;rw[List.any_cons,List.any_cons,eqU_of r f.1,any_eqU t f.2]
theorem mem_eqAt {A:Around}{s:Shared}{x:V}{v:Value}(rx:RelV x v)(fx:flatV x=true):∀ {xs:List V} {us:List Value},Vals xs us→xs.all flatV=true→∀ u∈us,SeqAt.EqAt A s u v (eqU x u)
 | _,_,.nil,_=>fun u hu=>by cases hu
 | y::xs,u::us,.cons r t,f=>fun u' hu=>by
  rw[List.all_cons,Bool.and_eq_true] at f;rcases List.mem_cons.mp hu with rfl | hu
  ·rw[eqU_of r f.1];exact eqAt_V r rx f.1 fx
  ·exact mem_eqAt rx fx t f.2 u' hu
def inV (x:V)(xs:List V):Bool:=xs.any fun y=>eqV y x
def rIn (K:PySem.W.Frag)(neg:Bool):R2:=fun x y H Q=>∃ p xs,y=.ref p∧(SqL K H p xs∨SqT K H p xs)∧flatV x=true∧xs.all flatV=true∧Q (.bl (if neg then !inV x xs else inV x xs)) H
theorem op_in_seq:OpR X (compareOp .In) (rIn X.K false):=by
 intro pins s σ H x y v u Q I rx ry h;obtain⟨p,xs,rfl,hq,fx,fs,q⟩:=h;cases ry;rcases hq with hq | hq
 ·obtain⟨its,r,pl,hz⟩:=I.list hq;refine SeqAt.in_listAt (eqU x) pl.isList (fun w hw=>mem_eqAt rx fx r fs w (by simpa using hw)) ⟨.bl _,H,I,rfl,?_⟩;rw[show its.toArray.any (eqU x)=its.any (eqU x) by simp,any_eqU r fs];exact q
 ·obtain⟨its,r,pl,hz⟩:=I.tuple hq;refine SeqAt.in_tupleAt (eqU x) pl (fun w hw=>mem_eqAt rx fx r fs w (by simpa using hw)) ⟨.bl _,H,I,rfl,?_⟩;rw[show its.toArray.any (eqU x)=its.any (eqU x) by simp,any_eqU r fs];exact q
theorem op_notIn_seq:OpR X (compareOp .NotIn) (rIn X.K true):=by
 intro pins s σ H x y v u Q I rx ry h;obtain⟨p,xs,rfl,hq,fx,fs,q⟩:=h;cases ry;rcases hq with hq | hq
 ·obtain⟨its,r,pl,hz⟩:=I.list hq;refine SeqAt.notIn_listAt (eqU x) pl.isList (fun w hw=>mem_eqAt rx fx r fs w (by simpa using hw)) ⟨.bl _,H,I,rfl,?_⟩;rw[show its.toArray.any (eqU x)=its.any (eqU x) by simp,any_eqU r fs];exact q
 ·obtain⟨its,r,pl,hz⟩:=I.tuple hq;refine SeqAt.notIn_tupleAt (eqU x) pl (fun w hw=>mem_eqAt rx fx r fs w (by simpa using hw)) ⟨.bl _,H,I,rfl,?_⟩;rw[show its.toArray.any (eqU x)=its.any (eqU x) by simp,any_eqU r fs];exact q
theorem call_len_seq:CallR X (.builtin "len") (fun xs H Q=>∃ p ys,xs=[.ref p]∧(SqL X.K H p ys∨SqT X.K H p ys)∧Q (.int ys.length) H):=by
 intro pins s σ H xs us Q I r h;obtain⟨p,ys,rfl,hq,q⟩:=h;obtain⟨u,rfl,rx⟩:=vals1 r;cases rx;have hn:=line63;rcases hq with hq | hq
 ·obtain⟨its,r',pl,hz⟩:=I.list hq;have hlen:=r'.length;exact Calls.call_len_list pl.isList (by simp only[List.size_toArray]<;>omega) ⟨.int ys.length,H,I.tok _,⟨s.toks+1,by rw[List.size_toArray,hlen]⟩,q⟩
 ·obtain⟨its,r',pl,hz⟩:=I.tuple hq;have hlen:=r'.length;exact len_tuple pl (by simp only[List.size_toArray]<;>omega) ⟨.int ys.length,H,I.tok _,⟨s.toks+1,by rw[List.size_toArray,hlen]⟩,q⟩
theorem call_list_of:CallR X (.type "list") (fun xs H Q=>∃ p ys,xs=[.ref p]∧(SqL X.K H p ys∨SqT X.K H p ys)∧∀ l,H l=none→Q (.ref l) (upd H l (.lst ys))):=by
 intro pins s σ H xs us Q I r h;obtain⟨p,ys,rfl,hq,q⟩:=h;obtain⟨u,rfl,rx⟩:=vals1 r;cases rx;have fin:∀ (its:List Value),Vals ys its→ys.length≤sizeLine→∀ (h':Heap) (c':Nat),(∀ b o',s.heap.get? b=some o'→h'.get? b=some o') →
   h'.get? s.heap.objs.size=some {cls:=.type "list",dict:=none,data:=.seq its.toArray c',slots:=#[]}→EP X pins σ Q (.ref s.heap.objs.size) {s with heap:=h'}:=fun its r' hz h' c' kp e =>
  ⟨.ref s.heap.objs.size,_,I.laid (t':=s.toks) kp (Nat.le_refl _) (show ObjOk X.prog X.w _ h' _ (.lst ys) from ⟨hz,its,c',r',e⟩),rfl,q _ (I.hok.fresh (Nat.le_refl _))⟩
 rcases hq with hq | hq
 ·obtain⟨its,r',pl,hz⟩:=I.list hq;have hlen:=r'.length;obtain⟨o,ho,hc,n,hd⟩:=pl.isList;exact call_list_seq p (.inl rfl) ho hc hd (fun h' c' kp e=>fin its r' hz h' c' kp e) (by simp only[List.size_toArray]<;>omega)
 ·obtain⟨its,r',pl,hz⟩:=I.tuple hq;have hlen:=r'.length;obtain⟨o,ho,hc,n,hd⟩:=pl;exact call_list_seq p (.inr rfl) ho hc hd (fun h' c' kp e=>fin its r' hz h' c' kp e) (by simp only[List.size_toArray]<;>omega)
theorem call_tuple_of:CallR X (.type "tuple") (fun xs H Q=>∃ p ys,xs=[.ref p]∧((SqL X.K H p ys∧∀ l,H l=none→Q (.ref l) (upd H l (.tup ys)))∨(SqT X.K H p ys∧Q (.ref p) H))):=by
 intro pins s σ H xs us Q I r h;obtain⟨p,ys,rfl,h⟩:=h;obtain⟨u,rfl,rx⟩:=vals1 r;cases rx;rcases h with ⟨hq,q⟩ | ⟨hq,q⟩
 ·obtain⟨its,r',pl,hz⟩:=I.list hq;have hlen:=r'.length;refine call_tuple_list pl.isList (fun h' kp=>?_) (by simp only[List.size_toArray]<;>omega);have I1:Inv X pins σ H {s with heap:=h'}:=I.kept (t':=s.toks) kp;have I2:Inv X pins σ (upd H h'.objs.size (.tup ys)) {s with heap:=h'.push {cls:=.type "tuple",data:=.seq its.toArray}} :=
   I1.laid (t':=s.toks) (fun b o e=>Heap.get?_push_of_some _ e) (Nat.le_refl _) (show ObjOk X.prog X.w _ _ _ (.tup ys) from ⟨hz,its,r',IsTup.new _ _⟩)
  exact⟨.ref h'.objs.size,_,I2,rfl,q _ (I1.hok.fresh (Nat.le_refl _))⟩
 ·obtain⟨its,r',pl,hz⟩:=I.tuple hq;exact call_tuple_same pl ⟨.ref p,H,I,rfl,q⟩
def tyV (K:PySem.W.Frag)(T:String)(x:V)(H:Hp):Prop:=match x with
 | .str _=>T="str"
 | .int _=>T="int"
 | .ref p=>(T="list"∧∃ xs,SqL K H p xs)∨(T="tuple"∧∃ o,K.lookup p=some o∧o.cls=.type "tuple"∧o.dict=none) ∨
   (T="dict"∧((∃ kvs,H p=some (.dK kvs))∨∃ kvs,H p=some (.dT kvs)))∨(T="set"∧∃ S n,H p=some (.set S n))
 | _=>False
theorem tyV_is {pins:List (Addr×Obj)}{σ:St}{H:Hp}{s:Shared}{T:String}{x:V}{v:Value}(I:Inv X pins σ H s)(r:RelV x v)(ty:tyV X.K T x H) :
  s.TypeIs v T∧∀ a,v=.ref a→∃ ob,s.heap.get? a=some ob∧ob.dict=none:=by
 cases x with
 | str z =>
  obtain⟨t,rfl⟩:=r;cases (show T="str" from ty);exact⟨typeIs_str s z t,fun _ e=>nomatch e⟩
 | int i =>
  obtain⟨t,rfl⟩:=r;cases (show T="int" from ty);exact⟨typeIs_int s i t,fun _ e=>nomatch e⟩
 | ref p =>
  cases r;rcases ty with ⟨rfl,xs,hq⟩ | ⟨rfl,o,hk,hc,hd⟩ | ⟨rfl,hk⟩ | ⟨rfl,S,n,hk⟩
  ·obtain⟨its,_,pl,_⟩:=I.list hq;refine⟨pl.isList.typeIs,fun a e=>?_⟩;cases e;obtain⟨o,n,e,c,hd,_⟩:=pl;exact⟨o,e,hd⟩
  ·refine⟨⟨o,I.kIn p o hk,hc⟩,fun a e=>?_⟩;cases e;exact⟨o,I.kIn _ o hk,hd⟩
  ·have z:∃ o,s.heap.get? p=some o∧o.ExactDict:=by
    rcases hk with ⟨kvs,hk⟩ | ⟨kvs,hk⟩
    ·obtain⟨_,_,_,_,o,_,_,e,ex,_⟩:=I.hok p _ hk;exact⟨o,e,ex⟩
    ·obtain⟨_,_,_,_,o,_,_,e,ex,_⟩:=I.hok p _ hk;exact⟨o,e,ex⟩
   obtain⟨o,e,ex⟩:=z;refine⟨⟨o,e,ex.1⟩,fun a e2=>?_⟩;cases e2;exact⟨o,e,ex.2.1⟩
  ·obtain⟨o,_,_,_,e,ex,_⟩:=I.hok p _ hk;refine⟨⟨o,e,ex.1⟩,fun a e2=>?_⟩;cases e2;exact⟨o,e,ex.2.1⟩
 | _=>exact False.elim ty
def tBM0 (K:PySem.W.Frag)(T:String)(r:V→List V→Hp→VK→Prop)(to:TE):TE:=fun σ H Q=>to σ H fun x H1=>tyV K T x H1∧r x [] H1 Q
def tBM (K:PySem.W.Frag)(T:String)(r:V→List V→Hp→VK→Prop)(to:TE)(t:TA):TE:=fun σ H Q=>to σ H fun x H1=>tyV K T x H1∧t σ H1 fun xs H2=>r x xs H2 Q
variable {o e:Expr}{es:List Expr}{to:TE}{t:TA}{name:Str}{apos cpos:Pos}{T id:String}{r:V→List V→Hp→VK→Prop}
theorem pe_bm0 (pa:PlainAttrs T)(slot:Slot T name id)(hty:typeOf (.builtin id)=pure (.type "method_descriptor"))(hm:MtR X id r)(ho:PE X o to)
  (hbase:attributeBase o name X.env (eval o X.env)=eval o X.env:=by rfl) (hline:(apos.endLine == cpos.line)=true:=by rfl):PE X (.Call (.Attribute o name apos) [] [] cpos) (tBM0 X.K T r to):=by
 intro pins s σ H Q I h;refine wpAny_Call_method0_late hbase hline (thn (ho pins s σ H _ I h) fun v s1 ⟨x,H1,I1,r1,ty,q1⟩=>?_);obtain⟨h1,h2⟩:=tyV_is I1 r1 ty;exact⟨T,id,pa,slot,hty,h1,h2,Calls.callWith_builtin rfl (PySem.evalArgs_none (hm pins s1 σ H1 x [] v [] Q I1 r1 .nil q1))⟩
theorem pe_bm (pa:PlainAttrs T)(slot:Slot T name id)(hty:typeOf (.builtin id)=pure (.type "method_descriptor"))(hm:MtR X id r)(ho:PE X o to)(ha:PA X (e::es) t)
  (hbase:attributeBase o name X.env (eval o X.env)=eval o X.env:=by rfl)
  (hfew:((backTo cpos (starEach (e::es) X.env)).all (fun x=>!x.1) && (backToKw cpos (keywordEach [] X.env)).all (fun x=>x.1.isSome)
   && decide ((e::es).length+([]:List Keyword).length+(if ([]:List Keyword).isEmpty then 0 else 1)<30))=true:=by rfl)
  (hline:(apos.endLine == cpos.line)=true:=by rfl) (hs:starEach (e::es) X.env=(false,eval e X.env)::starEach es X.env:=by rfl) (hplain:(backTo cpos (starEach es X.env)).any (·.1)=false:=by rfl) :
  PE X (.Call (.Attribute o name apos) (e::es) [] cpos) (tBM X.K T r to t):=by
 intro pins s σ H Q I h;refine wpAny_Call_method_late hbase hfew hline rfl (thn (ho pins s σ H _ I h) fun v s1 ⟨x,H1,I1,r1,ty,q1⟩=>?_);obtain⟨h1,h2⟩:=tyV_is I1 r1 ty;refine⟨T,id,pa,slot,hty,h1,h2,?_⟩;have hA:=ha cpos pins s1 σ H1 _ I1 q1;rw[hs] at hA ⊢;refine Calls.callWith_builtin (by show (false || (backTo cpos (starEach es X.env)).any (·.1))=false;rw[hplain]<;>rfl) (Calls.evalArgs_plain ?_);exact thn hA fun us s2 ⟨vs,H2,I2,r2,q2⟩=>hm pins s2 σ H2 x vs v us Q I2 r1 r2 q2
/- xs.append(e),list.index on a module's tuple .. are MtR facts of 06m -/
end
end L2
namespace L2
open PySem PySem.Spec PyProof.Rows
def MtM (X:Cx)(id:String)(r:V→List V→Hp→VK→Prop):Prop :=
 ∀ (pins:List (Addr×Obj)) (s:Shared) (σ:St) (H:Hp) (x:V) (xs:List V) (v:Value) (us:List Value) (Q:VK),Inv X pins σ H s→RelV x v→Vals xs us→r x xs H Q →
  wpAny (model X.prog X.w) X.A (call (.builtin id) (v::us)) (EP X pins σ Q) X.xe s
theorem Vals.one:∀ {x:V} {us:List Value},Vals [x] us→∃ u,us=[u]∧RelV x u
 | _,_,.cons r .nil=>⟨_,rfl,r⟩
theorem Vals.zero:∀ {us:List Value},Vals [] us→us=[]
 | _,.nil=>rfl
theorem Vals.dropLast {xs:List V}{us:List Value}(h:Vals xs us):Vals xs.dropLast us.dropLast:=by
 induction h with
 | nil=>exact .nil
 | cons r t ih =>
  cases t with
  | nil=>exact .nil
  | cons q t'=>exact .cons r ih
theorem Vals.eraseIdx:∀ {xs:List V} {us:List Value} (i:Nat),Vals xs us→Vals (xs.eraseIdx i) (us.eraseIdx i)
 | _,_,_,.nil=>.nil
 | _,_,0,.cons _ t=>t
 | _,_,i+1,.cons r t=>.cons r (Vals.eraseIdx i t)
theorem Vals.reverse {xs:List V}{us:List Value}(h:Vals xs us):Vals xs.reverse us.reverse:=by
 induction h with
 | nil=>exact .nil
 | cons r t ih=>rw[List.reverse_cons,List.reverse_cons];exact Vals.append ih (.cons r .nil)
theorem Vals.rep {xs:List V}{us:List Value}(h:Vals xs us):∀ k:Nat,Vals (List.replicate k xs).flatten (List.replicate k us).flatten
 | 0=>.nil
 | k+1=>by
  rw[List.replicate_succ,List.replicate_succ,List.flatten_cons,List.flatten_cons];exact Vals.append h (Vals.rep h k)
theorem erase_last {α:Type}(l:List α):l.eraseIdx (l.length-1)=l.dropLast:=by
 induction l with
 | nil=>rfl
 | cons a r ih =>
  cases r with
  | nil=>rfl
  | cons b r =>
   have e:(a::b::r).length-1=((b::r).length-1)+1:=by
    have h1:(a::b::r).length=r.length+2:=rfl;have h2:(b::r).length=r.length+1:=rfl;omega
   rw[e,List.eraseIdx_cons_succ,ih];all_goals rfl
theorem foldl_rep (its:List Value):∀ (k:Nat) (acc:List Value),
  List.foldl (fun x1 x2=>x1++x2) acc.toArray (List.replicate k its.toArray)=(acc++(List.replicate k its).flatten).toArray
 | 0,acc=>by simp
 | k+1,acc=>by
  have e:acc.toArray++its.toArray=(acc++its).toArray:=by simp
  have e2:(acc++its)++(List.replicate k its).flatten=acc++(List.replicate (k+1) its).flatten:=by
   rw[List.replicate_succ,List.flatten_cons,List.append_assoc]
  rw[← e2,← foldl_rep its k (acc++its),← e,List.replicate_succ,List.foldl_cons]
section
variable {X:Cx}{pins:List (Addr×Obj)}{σ:St}{H:Hp}{s:Shared}{l b:Addr}{xs ys zs:List V}
theorem Inv.lset {its its':List Value}{n:Nat}{f:Array Value→Array Value}{t':Nat}(I:Inv X pins σ H s)(hH:H l=some (.lst xs))
  (e:s.heap.get? l=some {cls:=.type "list",data:=.seq its.toArray n}) (hf:f its.toArray=its'.toArray) (hv:Vals ys its') (hz:ys.length≤sizeLine) :
  Inv X pins σ (upd H l (.lst ys)) {s with heap:=s.heap.update l (Obj.mapSeq f),toks:=t'}:=by
 have q:=PySem.IsL.update e f;rw[hf] at q;refine I.write (x:=l) (e:=l) (by rw[hH];exact trivial) (.inl rfl) (fun b' u hb hu=>(Heap.get?_update_other s.heap (Obj.mapSeq f) (Ne.symm hb)).trans hu) ⟨_,q⟩ ?_;exact⟨hz,its',_,hv,q⟩
theorem Inv.lnew {its:List Value}{t':Nat}(I:Inv X pins σ H s)(hv:Vals ys its)(hz:ys.length≤sizeLine) :
  Inv X pins σ (upd H s.heap.objs.size (.lst ys)) {s with heap:=s.heap.push {cls:=.type "list",data:=.seq its.toArray},toks:=t'} :=
 I.laid (fun _ _ q=>Heap.get?_push_of_some _ q) (Nat.le_refl _) ⟨hz,its,0,hv,Heap.get?_push_size _ rfl⟩
theorem Inv.fresh (I:Inv X pins σ H s):H s.heap.objs.size=none:=I.hok.fresh (Nat.le_refl _)
theorem Inv.lstM (I:Inv X pins σ H s)(hH:H l=some (.lst xs)):xs.length≤sizeLine∧∃ (its:List Value) (n:Nat),Vals xs its∧xs.length=its.length∧s.heap.get? l=some {cls:=.type "list",data:=.seq its.toArray n}:=by
 obtain⟨z,its,n,r,e⟩:=I.hok l _ hH;exact⟨z,its,n,r,r.length,e⟩
theorem notLongL {n:Nat}(h:n≤sizeLine):Builtin.List.listTooLong n=false:=by
 unfold Builtin.List.listTooLong;exact decide_eq_false (by omega)
end
section
variable {X:Cx}
def rAppend:V→List V→Hp→VK→Prop:=fun x vs H Q=>∃ l xs y,x=.ref l∧vs=[y]∧H l=some (.lst xs)∧xs.length<sizeLine∧Q .non (upd H l (.lst (xs++[y])))
theorem mt_append:MtM X "list.append" rAppend:=by
 intro pins s σ H x vs v us Q I rx rv h;obtain⟨l,xs,y,rfl,rfl,hH,hz,q⟩:=h;cases rx;obtain⟨u,rfl,ru⟩:=rv.one;obtain⟨z,its,n,r,hl,e⟩:=I.lstM hH;refine call_meets F.slot_list_append ⟨_,e,rfl⟩ F.entry_list_append (F.args_list_append_2 _ _) (PySem.list_append l its.toArray n u (by rw[List.size_toArray];omega)) ⟨e,?_⟩;refine⟨.non,_,I.lset (its':=its++[u]) hH e (by simp) (r.append (.cons ru .nil)) ?_,rfl,q⟩;rw[List.length_append,List.length_singleton];omega
def rExtend:V→List V→Hp→VK→Prop:=fun x vs H Q=>∃ l b xs zs,x=.ref l∧vs=[.ref b]∧H l=some (.lst xs)∧H b=some (.lst zs)∧xs.length+zs.length≤sizeLine∧Q .non (upd H l (.lst (xs++zs)))
theorem mt_extend:MtM X "list.extend" rExtend:=by
 intro pins s σ H x vs v us Q I rx rv h;obtain⟨l,b,xs,zs,rfl,rfl,hH,hB,hz,q⟩:=h;cases rx;obtain⟨u,rfl,ru⟩:=rv.one;cases ru;obtain⟨z,its,n,r,hl,e⟩:=I.lstM hH;obtain⟨z2,its2,n2,r2,hl2,e2⟩:=I.lstM hB;have hsz:its.toArray.size+its2.toArray.size≤sizeLine:=by rw[List.size_toArray,List.size_toArray];omega
 have hlong:¬ (!its.toArray.isEmpty && Builtin.List.listTooLong (its.toArray.size+its2.toArray.size))=true:=by
  rw[notLongL hsz,Bool.and_false];exact Bool.false_ne_true
 refine call_meets F.slot_list_extend ⟨_,e,rfl⟩ F.entry_list_extend (F.args_list_extend_2 _ _)
  (AutoSeq1.list_extend_list_list_0 l its.toArray n b its2.toArray n2 hlong (by rw[List.size_toArray];omega) (by omega)) ⟨e,e2,?_⟩
 refine⟨.non,_,I.lset (its':=its++its2) hH e (by simp) (r.append r2) ?_,rfl,q⟩;rw[List.length_append];omega
def rPop:V→List V→Hp→VK→Prop:=fun x vs H Q=>∃ l xs y,x=.ref l∧vs=[]∧H l=some (.lst xs)∧xs[xs.length-1]?=some y∧Q y (upd H l (.lst xs.dropLast))
theorem mt_pop:MtM X "list.pop" rPop:=by
 intro pins s σ H x vs v us Q I rx rv h;obtain⟨l,xs,y,rfl,rfl,hH,hy,q⟩:=h;cases rx;have hus:=rv.zero;subst hus;obtain⟨z,its,n,r,hl,e⟩:=I.lstM hH;obtain⟨u,hu,ru⟩:=r.get hy;have hy':its.toArray[its.toArray.size-1]?=some u:=by
  show its.toArray[its.length-1]?=some u;rw[← Array.getElem?_toList,← hl];exact hu
 refine call_meets F.slot_list_pop ⟨_,e,rfl⟩ F.entry_list_pop (F.args_list_pop_1 _) (MeetsSeq.list_pop_last l its.toArray n u hy' (by rw[List.size_toArray];omega)) ⟨e,?_⟩;refine⟨y,_,I.lset (its':=its.dropLast) hH e ?_ r.dropLast ?_,ru,q⟩
 ·show its.toArray.eraseIdxIfInBounds (its.toArray.size-1)=its.dropLast.toArray;rw[List.size_toArray,List.eraseIdxIfInBounds_toArray,erase_last]
 ·rw[List.length_dropLast];omega
def rCat:R2:=fun x y H Q=>∃ l b xs zs,x=.ref l∧y=.ref b∧H l=some (.lst xs)∧H b=some (.lst zs)∧xs.length+zs.length≤sizeLine∧∀ p,H p=none→Q (.ref p) (upd H p (.lst (xs++zs)))
theorem op_cat:OpR X (binaryOp .Add) rCat:=by
 intro pins s σ H x y v u Q I rx ry h;obtain⟨l,b,xs,zs,rfl,rfl,hH,hB,hz,q⟩:=h;cases rx;cases ry;obtain⟨z,its,n,r,hl,e⟩:=I.lstM hH;obtain⟨z2,its2,n2,r2,hl2,e2⟩:=I.lstM hB;refine PySem.P.add_list e e2 ?_ (by rw[List.size_toArray,List.size_toArray];omega);have ea:its.toArray++its2.toArray=(its++its2).toArray:=by simp
 rw[ea];exact⟨.ref _,_,I.lnew (t':=s.toks) (r.append r2) (by rw[List.length_append];omega),rfl,q _ I.fresh⟩
def rRep:R2:=fun x y H Q=>∃ l k xs,x=.ref l∧y=.int k∧H l=some (.lst xs)∧-(2 ^ 63)≤k∧k<2 ^ 63∧xs.length*k.toNat≤sizeLine ∧
 ∀ p,H p=none→Q (.ref p) (upd H p (.lst (List.replicate k.toNat xs).flatten))
theorem len_rep {α:Type}(xs:List α)(k:Nat):(List.replicate k xs).flatten.length=k*xs.length:=by
 induction k with
 | zero=>simp
 | succ k ih=>rw[List.replicate_succ,List.flatten_cons,List.length_append,ih,Nat.succ_mul,Nat.add_comm]
theorem op_rep:OpR X (binaryOp .Mult) rRep:=by
 intro pins s σ H x y v u Q I rx ry h;obtain⟨l,k,xs,rfl,rfl,hH,h1,h2,hz,q⟩:=h;cases rx;obtain⟨t,rfl⟩:=ry;obtain⟨z,its,n,r,hl,e⟩:=I.lstM hH;have hlen:its.toArray.size*k.toNat≤sizeLine:=by rw[List.size_toArray,← hl];exact hz
 have hcap:¬ its.toArray.size*k.toNat>(2 ^ 63-1) / 8:=by
  have:(sizeLine:Nat)≤(2 ^ 63-1) / 8:=by decide
  omega
 have hfit:¬ (!Builtin.List.listFitsIndex k)=true:=by
  rw[fitsIndex_both h1 h2];exact Bool.false_ne_true
 have hlong:¬ Builtin.List.listTooLong (its.toArray.size*k.toNat)=true:=by
  rw[notLongL hlen];exact Bool.false_ne_true
 have hnew:List.foldl (fun x1 x2=>x1++x2) #[] (List.replicate (if its.toArray.isEmpty=true then 0 else k.toNat) its.toArray)=(List.replicate k.toNat its).flatten.toArray:=by
  have f0:∀ m:Nat,List.foldl (fun x1 x2=>x1++x2) #[] (List.replicate m its.toArray)=(List.replicate m its).flatten.toArray:=fun m=>by
   have:=foldl_rep its m [];rw[List.nil_append] at this;exact this
  rw[f0];cases its with
  | nil=>simp
  | cons a r'=>rw[if_neg (by simp)]
 refine wpAny_binaryOp_repeat_ref (T:="list") (U:="int") (by decide) ⟨_,e,rfl⟩ (fun s'=>typeIs_int s' k t) noFill_list_mul F.fills_int_mul F.slot_int_rmul repeat_list F.slot_int_index.lookup
  (call_meets F.slot_int_rmul (typeIs_int s k t) F.entry_int_rmul (F.args_int_rmul_2 _ _) (int___rmul___int_list k t l its.toArray n)
   ⟨e,rfl,⟨_,e,rfl⟩,call_meets F.slot_list_mul ⟨_,e,rfl⟩ F.entry_list_mul (F.args_list_mul_2 _ _) (AutoListH.list___mul___list_int_3 l its.toArray n k t hfit hcap hlong) ⟨e,?_⟩⟩)
 rw[hnew];exact⟨.ref _,_,I.lnew (t':=s.toks) (r.rep k.toNat) (by rw[len_rep,Nat.mul_comm];exact hz),rfl,q _ I.fresh⟩
end
section
variable {prog:Program}{w:World}{A:Around}{E:Value→Shared→Prop}{s:Shared}
end
section
variable {X:Cx}
end
end L2
namespace Att
open PySem PySem.W PySem.Calls PyProof.Rows
theorem ints_of_wellAll {P:Params}{h:Heap}:∀ (ns:List Int) (vs:List Value),WellAll P h vs (ns.map WData.int)→IntsAre vs ns:=by
 intro ns;induction ns with
 | nil =>
  intro vs w;rw[List.map_nil] at w;cases w;exact .nil
 | cons n ns ih =>
  intro vs w;rw[List.map_cons] at w;cases w with
  | cons a b =>
   cases a;exact .cons _ _ (ih _ b)
theorem script_of {l:OpenLaw}{n:Nat}(hn:l.most=some n){P:Params}{h:Heap}{args:List WData}{vals:List Value}
  (hpre:l.row.toRowW.claim.pre args=true) (hwl:WellAll P h vals args) :
  ∃ a vs ns,vals=[Value.ref a]∧args=[WData.list (ns.map WData.int)]∧h.get? a=some {cls:=.type "list",data:=.seq vs.toArray}∧IntsAre vs ns∧ns.length≤n:=by
 have hsh:WShape.hasAll [] args [.list .int]=true:=(pre_splitW hpre).1;have hc:l.pre.holds [] {args:=args}=true:=(pre_splitW hpre).2;obtain⟨d,r,rfl,h1,h2⟩:=hasAllW_cons hsh;obtain rfl:=hasAllW_nil h2;obtain⟨xs,rfl,h3⟩:=hasW_list h1;obtain⟨ns,rfl⟩:=items_int h3;have hlen:ns.length≤n:=by
  unfold OpenLaw.pre at hc;have h4:(WTm.not (.lt (.lit (.int (n:Int))) (.len (.arg 0)))).holds [] {args:=[.list (ns.map .int)]}=true:=by
   have h4:=(holds_andW hc).1;rw[hn] at h4;exact h4
  have h5:=condW_of h4 (w_not (w_lt w_lit (w_len_list (w_arg rfl))));rw[List.length_map] at h5;refine Nat.le_of_not_lt fun q=>?_
  have q':(n:Int)<((ns.length:Nat):Int):=by omega
  first
   | (rw[decide_eq_true q'] at h5;exact absurd h5 (by decide))
   | (simp at h5;omega)
 cases hwl with
 | cons w1 w2 =>
  cases w2;cases w1 with
  | list ho hall=>exact⟨_,_,ns,rfl,rfl,ho,ints_of_wellAll ns _ hall,hlen⟩
theorem post_true (l:OpenLaw)(args:List WData):l.row.toRowW.claim.post args (.bool true) args=true :=
 postW_of (r:=l.row.toRowW) (X:=(true == true))
  (show WShape.has [] (.bool true) .bool=true by first | rfl | decide | simp[WShape.has,WShape.arms,WShape.armsAll])
  (show (WTm.eq .res (.lit (.bool true))).value [] {args:=args,res:=some (.bool true),after:=args}=some (.bool (true == true)) from w_eq_bool (w_res rfl) w_lit) rfl
theorem attach_call {l:OpenLaw}{n:Nat}{q:Program}{loose:List Str}{XP:(Str→Option Value)→Heap→Prop}{YP:World→Heap→Prop}{d:DefRec}
  (hn:l.most=some n) (hdf:d.params.defaults=[])
  (call:∀ (w:World) (s₀ s₁:Shared) (mg mb:Str→Option Value) (fa:Addr) (o:Obj) (pm cd doc:Value) (a:Addr) (vs:List Value) (ns:List Int),
   Ground q loose [] XP w s₀ mg mb s₁.heap→YP w s₁.heap →
   s₁.heap.get? fa=some o→o.data=.func (docDef d.name d.params d.body d.scope pm cd doc)→s₁.heap.CodeRec cd d.name→mg d.name=some (.ref fa) →
   s₁.heap.get? a=some {cls:=.type "list",data:=.seq vs.toArray}→IntsAre vs ns→ns.length≤n→s₁.gens=#[] →
   codeAny (model l.prog w) callerA (.call (.ref fa) ⟨[.ref a],[]⟩) (fun r s'=>r=.ok (.ret (.bool true))∧OldK s₁.heap s'.heap∧s'.os=s₁.os∧AllBare s'.gens) s₁) :
  WalkO q loose XP YP l.row.toRowW d [] (fun f vs=>PySem.call f vs):=by
 intro w s₀ s₁ mg mb G Y fa o pm cd doc dV kV ho hd hcd hD hmg hg args vals as hpre hlay hrd hwl hlo;obtain rfl:dV=.none:=Dflts.none hD hdf;obtain rfl:kV=.none:=Dflts.noKw hD;obtain⟨a,vs,ns,rfl,rfl,hobj,hints,hlen⟩:=script_of hn hpre hwl;refine enter_call (codeAny_mono (call w s₀ s₁ mg mb fa o pm cd doc a vs ns G Y ho (fd_plain hd) hcd hmg hobj hints hlen hg) fun r s' hq=>?_);obtain⟨rfl,h2,h3,h4⟩:=hq;exact⟨.inl ⟨.bool true,.bool true,[],rfl,fun _=>rfl,.bool true,post_true l _,fun _=>⟨List.Pairwise.nil,fun _ hm=>(nomatch hm)⟩⟩,h2,h3,h4⟩
section
variable {prog:Program}{w:World}{A:Around}{E:Value→Shared→Prop}{s:Shared}{K:Frag}
end
end Att
namespace L2
open PySem PySem.Spec PyProof.Rows
theorem vals_ints:∀ {vs:List Value} {ns:List Int},IntsAre vs ns→Vals (ns.map V.int) vs
 | _,_,.nil=>.nil
 | _,_,.cons n t h=>.cons ⟨t,rfl⟩ (vals_ints h)
def Only (H:Hp):Prop:=∀ b,H b=none∨∃ o xs,H b=some (.frz o (.lst xs))
theorem law_call {P:Program}{w:World}{K:PySem.W.Frag}{mg mb:Str→Option Value}{CX:CXT}{k:Nat}{fa a:Addr}{fd:FuncData}{x:Str}{sp:Sp}{s₁:Shared}{vs:List Value}{ns:List Int}
  (KX:K.In s₁.heap) (hns:s₁.heap.Ns mainGlobals mg) (hb:s₁.heap.Ns builtinsNs mb) (hbb:∀ x:Str,x≠"__name__"→mb x=bootBuiltins x) (hlim:s₁.heap.NoLimit) (hg:s₁.gens=#[])
  (ha:s₁.heap.get? a=some {cls:=.type "list",data:=.seq vs.toArray}) (hi:IntsAre vs ns) (hl:ns.length≤sizeLine) (hr:Room k callerA)
  (F:∀ base:Heap,K.In base→base.Ns mainGlobals mg→FnOk P w K mg base CX k fa fd [x] sp) (hbind:∀ (s:Shared) (u:Value),BindsTo s fd ⟨[u],[]⟩ [(x,u)])
  (hsp:∀ H:Hp,Only H→SqL K H a (ns.map V.int)→sp [.ref a] H (fun v _=>v=.bl true) fun _ _ _=>False)
  (hCX:∀ H e s',CX [] H s₁ (fun _ _ _=>False) e s'→False) :
  codeAny (model P w) callerA (.call (.ref fa) ⟨[.ref a],[]⟩) (fun r s'=>r=.ok (.ret (.bool true))∧OldK s₁.heap s'.heap∧s'.os=s₁.os∧AllBare s'.gens) s₁:=by
 have rv:=vals_ints hi;have lenV:=hi.length;have core:∀ H:Hp,Only H→SqL K H a (ns.map V.int)→HOk P w H s₁.heap→(∀ b,H b≠none→b=a)→(H a≠none→K.lookup a=none) →
   codeAny (model P w) callerA (.call (.ref fa) ⟨[.ref a],[]⟩) (fun r s'=>r=.ok (.ret (.bool true))∧OldK s₁.heap s'.heap∧s'.os=s₁.os∧AllBare s'.gens) s₁:=by
  intro H hO hS hok hA hK;have base_of:∀ {b:Addr} {o:Obj},s₁.heap.get? b=some o→H b=none→(hidT s₁.heap H).get? b=some o:=fun e n=>hidT_get e n
  have noA:∀ {b:Addr} {o:Obj} {es:Array DictEntry} {ep:Nat},s₁.heap.get? b=some o→o.data=.dict es ep→H b=none:=fun {b o es ep} e d=>by
   cases q:H b with
   | none=>rfl
   | some u =>
    have e':b=a:=hA b (by rw[q];simp);subst e';rw[ha] at e;cases e;have d':Data.seq vs.toArray _=Data.dict es ep:=d;cases d'
  have nsK:∀ {b:Addr} {m:Str→Option Value},s₁.heap.Ns b m→(hidT s₁.heap H).Ns b m:=fun {b m} ⟨o,es,ep,e,d,r⟩=>⟨o,es,ep,base_of e (noA e d),d,r⟩
  have hKb:K.In (hidT s₁.heap H):=fun b o e=>base_of (KX b o e) (by
   cases q:H b with
   | none=>rfl
   | some u =>
    have e':b=a:=hA b (by rw[q];simp);subst e'
    rw[hK (by rw[q];simp)] at e;cases e)
  have hM:Mod K mg (hidT s₁.heap H):=⟨hKb,nsK hns,⟨mb,nsK hb,hbb⟩,let ⟨mc,h1,h2⟩:=hlim;⟨mc,nsK h1,h2⟩⟩
  have e0:Env0 P w K mg (hidT s₁.heap H) callerA [] s₁ H:=⟨rfl,hM,fun b o e=>of_hidT e,Nat.le_of_eq (hidT_size _ _),trivial,fun b hb=>absurd (show b∈([]:List Addr) from hb) (by simp),hok,.of_eq hg⟩
  refine codeAny_mono ((F _ hKb (nsK hns)).run callerA [] s₁ H ⟨[.ref a],[]⟩ [.ref a] [.ref a] _ _ hr e0 (hbind s₁ (.ref a)) (.cons rfl .nil) (hsp H hO hS)) fun r s' h=>?_
  cases r with
  | error e=>exact (hCX H e s' h).elim
  | ok fl =>
   cases fl with
   | next=>exact False.elim h
   | brk=>exact False.elim h
   | cont=>exact False.elim h
   | ret u =>
    obtain⟨v,H',os,bare,un,hok',r',q⟩:=h;have q':v=.bl true:=q;subst q';obtain rfl:u=Value.bool true:=r';refine⟨rfl,OldK.of_keep fun b o e=>?_,os,bare⟩;cases q:H b with
    | none=>exact un.keep b o e q (by intro z;exact absurd (show b∈([]:List Addr) from z) (by simp)) (by simp)
    | some u =>
     rcases hO b with z | ⟨ob,xs,z⟩
     ·rw[q] at z;cases z
     ·have z2:=un.frzs b ob _ z;obtain⟨e1,_⟩:=hok b _ z;obtain⟨e2,_⟩:=hok' b _ z2;rw[e] at e1;cases e1;exact e2
 cases hk:K.lookup a with
 | some o =>
  have e:=KX a o hk;rw[ha] at e;cases e;refine core (fun _=>none) (fun _=>.inl rfl) (.inr ⟨_,vs.toArray,_,hk,rfl,rfl,rfl,by rw[List.size_toArray,lenV];exact hl,by simpa using rv⟩) (fun b u z=>by have z':(none:Option HO)=some u:=z;cases z') (fun b z=>absurd rfl z) fun z=>absurd rfl z
 | none =>
  refine core (fun b=>if b=a then some (.frz {cls:=.type "list",data:=.seq vs.toArray} (.lst (ns.map V.int))) else none) (fun b=>?_) (.inl (.inr ⟨{cls:=.type "list",data:=.seq vs.toArray},if_pos rfl⟩)) (fun b u z=>?_) (fun b z=>?_) fun _=>hk
  ·by_cases hb:b=a
   ·exact .inr ⟨_,_,if_pos hb⟩
   ·exact .inl (if_neg hb)
  ·by_cases hb:b=a
   ·have z':=(if_pos hb).symm.trans z;cases z';subst hb;exact⟨ha,by rw[List.length_map];exact hl,vs,_,rv,ha⟩
   ·have z':=(if_neg hb).symm.trans z;cases z'
  ·by_cases hb:b=a
   ·exact hb
   ·exact absurd (if_neg hb) z
end L2
namespace L2
open PySem PySem.Spec PyProof.Rows
abbrev KOf {K:PySem.W.Frag}{h:Heap}(_:K.In h):PySem.W.Frag:=K
theorem walk_of {l:PySem.W.OpenLaw}{n k:Nat}{q:Program}{loose:List Str}{XP:(Str→Option Value)→Heap→Prop}{YP:World→Heap→Prop}{d:DefRec}{K:Params→PySem.W.Frag}{CX:World→CXT}{sp:World→Sp}{x:Str}
  (hn:l.most=some n) (hn2:n≤sizeLine) (hdf:d.params.defaults=[]) (hr:Room k callerA)
  (hY:∀ (w:World) (h:Heap),YP w h→(K w.params).In h)
  (F:∀ (w:World) (mg:Str→Option Value) (fa:Addr) (h:Heap),(K w.params).In h→h.Ns mainGlobals mg→mg d.name=some (.ref fa) →
   ∃ fd:FuncData,(∀ (s:Shared) (u:Value),BindsTo s fd ⟨[u],[]⟩ [(x,u)]) ∧
    ∀ base:Heap,(K w.params).In base→base.Ns mainGlobals mg→FnOk l.prog w (K w.params) mg base (CX w) k fa fd [x] (sp w))
  (hsp:∀ (w:World) (H:Hp) (a:Addr) (ns:List Int),ns.length≤n→Only H→SqL (K w.params) H a (ns.map V.int)→sp w [.ref a] H (fun v _=>v=.bl true) fun _ _ _=>False)
  (hCX:∀ (w:World) (H:Hp) (s:Shared) (e:Value) (s':Shared),CX w [] H s (fun _ _ _=>False) e s'→False) :
  PySem.W.WalkO q loose XP YP l.row.toRowW d [] (fun f vs=>PySem.call f vs):=by
 refine Att.attach_call hn hdf fun w s₀ s₁ mg mb fa o pm cd doc a vs ns G Y ho hd hcd hmg hobj hints hlen hg=>?_
 have KX:=hY w _ Y;obtain⟨fd,hb,hF⟩:=F w mg fa _ KX G.T.g hmg;exact law_call KX G.T.g G.T.b G.T.builtins G.T.nolimit hg hobj hints (Nat.le_trans hlen hn2) hr hF hb (fun H hO hS=>hsp w H a ns hlen hO hS) fun H e s'=>hCX w H s₁ e s'
end L2
/- THE LAST THEOREM (shape;LID,My.* are yours):
   My.Adr: a structure of the addresses that your layer names (classes,functions);My.Txt K t: a structure (Prop) of the equations over K;
   My.txt_mk:{K} {implicit addresses ..} (e1:nsIn K mainGlobals "law"=some (some (.ref f))) (e2:K.lookup f=some ⟨oc,od,.func (fnOf "law" "law" params body scope dV kV doc pm an cdv ct),sl⟩) (e3:codeIn K cdv "law"=true) ..:∃ t,My.Txt K t
set_option maxRecDepth 100000 in
set_option maxHeartbeats 0 in
theorem PySem.Challenge.cw_LID_holds : PySem.Challenge.rw_LID.Holds := by
 w_on;o_law;k_head;(case hw=>w_witness2)
 k_fill
 refine L2.walk_of (l:=PySem.Challenge.rw_LID) (n:=63) (k:=40) (x:="script") (CX:=fun w=>..) (sp:=fun _=>My.sp_law) rfl (by decide) rfl ⟨rfl,by decide,by decide⟩ (fun w h Y=>PySem.W.kIn_of Y) ?F ?S ?C
 case F =>
  intro w mg fa h KX G hmg;have T:∃ t,My.Txt (L2.KOf KX) t:=by
   dsimp only[L2.KOf]                          -- K must stand as «<heap const> w.params» for k_is;refine' My.txt_mk ?e1 ?e2 ?e3 ..
   (case e1=>PySem.W.k_is)                    -- in the order: a name -> its address -> its object -> its parts
   (case e2=>PySem.W.k_is)
   ..
  obtain⟨t,T⟩:=T;have e0:=hmg.symm.trans (PySem.W.mg_of KX G T.law);cases e0                                       -- fa is the law's own address;exact⟨_,fun s u=>.of_eq rfl,fun base kb nb=>My.law_fn T kb nb⟩     -- if «.of_eq rfl» comes too early: refine' ⟨_,?b,fun base kb nb=>My.law_fn T kb nb⟩;exact fun s u=>.of_eq rfl
 case S=>exact fun w H a ns hl hO hS=>..
 case C=>exact ..
(the tactic k_is has no namespace: write k_is) -/
namespace L2
open PySem PySem.Spec PyProof.Rows
def defArgs (s:Stmt):Arguments:=match s with
 | .FunctionDef _ a _ _ _ _ _ _ _ _=>a
 | _=>{posonlyargs:=[],args:=[],vararg:=none,kwonlyargs:=[],kw_defaults:=[],kwarg:=none,defaults:=[]}
def defBody (s:Stmt):List Stmt:=match s with
 | .FunctionDef _ _ b _ _ _ _ _ _ _=>b
 | _=>[]
def defScope (s:Stmt):Scope:=match s with
 | .FunctionDef _ _ _ _ _ _ sc _ _ _=>sc
 | _=>{kind:=.function,names:=[],isGenerator:=false,isCoroutine:=false}
abbrev CX0:CXT:=fun _ _ _ _ _ _=>False
abbrev E0:XK:=fun _ _ _=>False
theorem pass0 {X:Cx}:Passes CX0 X E0:=fun _ _ _ _ _ _ _ h=>h.elim
structure Fun (K:PySem.W.Frag)(x qual:Str)(st:Stmt)(f:Addr)(fd:FuncData):Prop where
 ex:∃ (oc:Value) (od:Option Addr) (kV doc pm:Value) (an:Option Addr) (cdv ct:Value) (osl:Array (Option Value)),
  fd=PySem.W.fnOf x qual (defArgs st) (defBody st) (defScope st) .none kV doc pm an cdv ct∧K.lookup f=some ⟨oc,od,.func fd,osl⟩∧PySem.W.codeIn K cdv qual=true
 kp:PySem.W.keepIn K (.ref f)=true
section
variable {P:Program}{w:World}{K:PySem.W.Frag}{mg:Str→Option Value}{base:Heap}
theorem Fun.ok {x qual:Str}{st:Stmt}{f:Addr}{fd:FuncData}{N ps:List Str}{k:Nat}{sp:Sp}(F:Fun K x qual st f fd)(S:FnScope N ps (defScope st))(len:∀ vs H Q E,sp vs H Q E→vs.length=ps.length)
  (hbody:∀ (cdv:Value) (A:Around) (outer:List Env) (s:Shared) (H:Hp) (vs:List V) (Q:VK) (E:XK),Room k (A.deeper (envOfC qual (defScope st) s.heap.objs.size f cdv))→sp vs H Q E →
   ∃ t,PSs (cxOf CX0 P w K mg base N qual (defScope st) f cdv A outer s H E).nox (defBody st) t∧t {nx:=fun _ H'=>Q .non H',rt:=Q} (start N vs) H):FnOk P w K mg base CX0 (k+1) f fd ps sp:=by
 obtain⟨oc,od,kV,doc,pm,an,cdv,ct,osl,rfl,lk,hcd⟩:=F.ex;refine fn_of lk hcd S len fun A outer s H vs Q E hr hsp=>?_
 obtain⟨t,h,q⟩:=hbody cdv A outer s H vs Q E hr hsp;exact⟨t,h.nox,q⟩
theorem Fun.binds {x qual:Str}{st:Stmt}{f:Addr}{fd:FuncData}{ps:List Str}(F:Fun K x qual st f fd)
  (h:∀ (kV doc pm:Value) (an:Option Addr) (cdv ct:Value) (us:List Value),us.length=ps.length→bindArgs (PySem.W.fnOf x qual (defArgs st) (defBody st) (defScope st) .none kV doc pm an cdv ct) ⟨us,[]⟩=pure (ps.zip us)):Binds K fd ps []:=by
 obtain⟨oc,od,kV,doc,pm,an,cdv,ct,osl,rfl,lk,hcd⟩:=F.ex;exact .all (h kV doc pm an cdv ct)
theorem fun_mk {x qual:Str}{st:Stmt}{f:Addr}{oc:Value}{od an:Option Addr}{osl:Array (Option Value)}{kV doc pm cdv ct:Value}(l:K.lookup f=some ⟨oc,od,.func (PySem.W.fnOf x qual (defArgs st) (defBody st) (defScope st) .none kV doc pm an cdv ct),osl⟩)
  (c:PySem.W.codeIn K cdv qual=true) (k:PySem.W.keepIn K (.ref f)=true):Fun K x qual st f (PySem.W.fnOf x qual (defArgs st) (defBody st) (defScope st) .none kV doc pm an cdv ct):=⟨⟨oc,od,kV,doc,pm,an,cdv,ct,osl,rfl,l,c⟩,k⟩
end
theorem hu_of {A:Around}{k:Nat}(hr:Room k A):A.units+1<cLine:=Nat.lt_of_le_of_lt (Nat.add_le_add_left (by decide:1≤64) _) hr.units
section
variable {X:Cx}
theorem pv (i:Nat){x:Str}{pos:Pos}(hN:X.N[i]?=some x:=by rfl)(hv:Vis X.env.scope x:=by first | exact Or.inl rfl | exact Or.inr (Or.inl rfl) | exact Or.inr (Or.inr rfl))(hd:(x == ("__debug__":Str))=false:=by decide)
  (hcd:(x == ("__classdict__":Str))=false:=by decide):PE X (.Name x pos) (tVar i):=pe_var hN hv hd hcd
end
theorem ite2 {c A B:Prop}[Decidable c](h1:c→A)(h2:¬ c→B):if c then A else B:=by
 by_cases h:c
 ·rw[if_pos h];exact h1 h
 ·rw[if_neg h];exact h2 h
def Same (H H':Hp):Prop:=∀ b o,H b=some o→H' b=some o
theorem Same.refl (H:Hp):Same H H:=fun _ _ h=>h
theorem Same.trans {H H1 H2:Hp}(a:Same H H1)(b:Same H1 H2):Same H H2:=fun c o h=>b c o (a c o h)
theorem Same.free {H H':Hp}(e:Same H H'){l:Addr}(h:H' l=Option.none):H l=Option.none:=by
 cases q:H l with
 | none=>rfl
 | some o =>
  rw[e l o q] at h;cases h
theorem Same.seq {K:PySem.W.Frag}{H H':Hp}{a:Addr}{xs:List V}(e:Same H H')(h:SqL K H a xs):SqL K H' a xs:=by
 rcases h with (h | ⟨o,h⟩) | h
 ·exact .inl (.inl (e _ _ h))
 ·exact .inl (.inr ⟨o,e _ _ h⟩)
 ·exact .inr h
end L2
namespace L2
open PySem PySem.Spec PyProof.Rows
section
variable {κ:Type}[DecidableEq κ]
def valV (kvs:List (κ×V))(k:κ):Option V:=(kvs.find? fun kv=>decide (kv.1=k)).map (·.2)
def putK (kvs:List (κ×V))(k:κ)(v:V):List (κ×V) :=
 if (kvs.any fun kv=>decide (kv.1=k))=true then kvs.map (fun kv=>if kv.1=k then (kv.1,v) else kv) else kvs++[(k,v)]
def dropK (kvs:List (κ×V))(k:κ):List (κ×V):=kvs.filter fun kv=>decide (kv.1≠k)
theorem valV_pos {p:κ×V}{r:List (κ×V)}{k:κ}(e:p.1=k):valV (p::r) k=some p.2:=by simp[valV,List.find?_cons,e]
theorem valV_neg {p:κ×V}{r:List (κ×V)}{k:κ}(e:¬ p.1=k):valV (p::r) k=valV r k:=by simp[valV,List.find?_cons,e]
theorem valV_any (k:κ):∀ kvs:List (κ×V),(kvs.any fun kv=>decide (kv.1=k))=(valV kvs k).isSome
 | []=>rfl
 | p::r=>by
  rw[List.any_cons];by_cases e:p.1=k
  ·simp only[valV_pos e,decide_eq_true e,Bool.true_or,Option.isSome_some]
  ·rw[valV_neg e,decide_eq_false e,Bool.false_or];exact valV_any k r
theorem length_putK (kvs:List (κ×V))(k:κ)(v:V):(putK kvs k v).length≤kvs.length+1:=by
 unfold putK;split
 ·rw[List.length_map];omega
 ·rw[List.length_append,List.length_cons,List.length_nil];omega
theorem RelO.isSome_eq {o:Option V}{u:Option Value}(r:RelO o u):o.isSome=u.isSome:=by
 cases o with
 | none=>cases u with
  | none=>rfl
  | some _=>exact (show False from r).elim
 | some _=>cases u with
  | none=>exact (show False from r).elim
  | some _=>rfl
theorem RelO.getD {o:Option V}{u:Option Value}{d:V}{d':Value}(r:RelO o u)(rd:RelV d d'):RelV (o.getD d) (u.getD d'):=by
 cases o with
 | none=>cases u with
  | none=>exact rd
  | some _=>exact (show False from r).elim
 | some _=>cases u with
  | none=>exact (show False from r).elim
  | some _=>exact r
theorem KV.val {kvs:List (κ×V)}{vs:List (κ×Value)}(r:KV kvs vs)(k:κ):RelO (valV kvs k) (valueAt vs k):=by
 unfold KV at r;induction r with
 | nil=>exact True.intro
 | @cons p q ps qs h t ih =>
  obtain⟨h1,h2⟩:=h;by_cases e:p.1=k
  ·have e':q.1=k:=h1.symm.trans e;have b:valueAt (q::qs) k=some q.2:=by simp[valueAt,List.find?_cons,e']
   rw[valV_pos e,b];exact h2
  ·have e':¬ q.1=k:=fun z=>e (h1.trans z)
   have b:valueAt (q::qs) k=valueAt qs k:=by simp[valueAt,List.find?_cons,e']
   rw[valV_neg e,b];exact ih
theorem KV.any {kvs:List (κ×V)}{vs:List (κ×Value)}(r:KV kvs vs)(k:κ):(kvs.any fun kv=>decide (kv.1=k))=vs.any fun kv=>decide (kv.1=k):=by
 unfold KV at r;induction r with
 | nil=>rfl
 | cons h t ih=>rw[List.any_cons,List.any_cons,ih,h.1]
theorem KV.repl {kvs:List (κ×V)}{vs:List (κ×Value)}(r:KV kvs vs)(k:κ){y:V}{u:Value}(ry:RelV y u) :
  KV (kvs.map fun kv=>if kv.1=k then (kv.1,y) else kv) (vs.map fun kv=>if kv.1=k then (kv.1,u) else kv):=by
 unfold KV at r ⊢;induction r with
 | nil=>exact .nil
 | @cons p q ps qs h t ih =>
  rw[List.map_cons,List.map_cons];refine .cons ?_ ih;obtain⟨h1,h2⟩:=h;by_cases e:p.1=k
  ·rw[if_pos e,if_pos (h1.symm.trans e)];exact⟨h1,ry⟩
  ·rw[if_neg e,if_neg (fun z=>e (h1.trans z))];exact⟨h1,h2⟩
theorem KV.put {kvs:List (κ×V)}{vs:List (κ×Value)}(r:KV kvs vs)(k:κ){y:V}{u:Value}(ry:RelV y u):KV (putK kvs k y) (stored vs k u):=by
 unfold putK stored;rw[r.any k];by_cases e:(vs.any fun kv=>decide (kv.1=k))=true
 ·rw[if_pos e,if_pos e];exact r.repl k ry
 ·rw[if_neg e,if_neg e];exact Paired.snoc r ⟨rfl,ry⟩
theorem KV.drop {kvs:List (κ×V)}{vs:List (κ×Value)}(r:KV kvs vs)(k:κ):KV (dropK kvs k) (without vs k):=by
 unfold KV at r ⊢;unfold dropK without;induction r with
 | nil=>exact .nil
 | @cons p q ps qs h t ih =>
  obtain⟨h1,h2⟩:=h;rw[List.filter_cons,List.filter_cons];by_cases e:p.1=k
  ·have a:¬ decide (p.1≠k)=true:=by simp[e]
   have b:¬ decide (q.1≠k)=true:=by simp[h1.symm.trans e]
   rw[if_neg a,if_neg b];exact ih
  ·have e':¬ q.1=k:=fun z=>e (h1.trans z)
   have a:decide (p.1≠k)=true:=by simp[e]
   have b:decide (q.1≠k)=true:=by simp[e']
   rw[if_pos a,if_pos b];exact .cons ⟨h1,h2⟩ ih
theorem KV.keys {kvs:List (κ×V)}{vs:List (κ×Value)}(r:KV kvs vs):kvs.map (·.1)=vs.map (·.1):=by
 unfold KV at r;induction r with
 | nil=>rfl
 | cons h t ih=>rw[List.map_cons,List.map_cons,ih,h.1]
theorem KV.length {kvs:List (κ×V)}{vs:List (κ×Value)}(r:KV kvs vs):kvs.length=vs.length:=Paired.length r
end
theorem kV_is {P:Program}{w:World}{k:Key}{u:Value}(r:RelV (kV k) u):(mixKind P w).is k u=true:=by
 cases k with
 | inl i=>obtain⟨t,e⟩:=(show ∃ t,u=Value.int i t from r);subst e;exact mixKind_int P w i t
 | inr x=>obtain⟨t,e⟩:=(show ∃ t,u=Value.str x t from r);subst e;exact mixKind_str P w x t
theorem items_are {P:Program}{w:World}:∀ {ks:List Key} {us:List Value},Vals (ks.map kV) us→ItemsAre (mixKind P w) ks us
 | [],_,r=>by rw[List.map_nil] at r;cases r;exact .nil
 | k::ks,_,r=>by
  rw[List.map_cons] at r;cases r with
  | cons h t=>exact .cons (kV_is h) (items_are t)
abbrev KT (H:Hp):List (List Key×V)→List (List Key×Addr×Value)→Prop:=Paired fun p q=>p.1=q.1∧H q.2.1=some (.tup (p.1.map kV))∧RelV p.2 q.2.2
theorem KT.val {H:Hp}{kvs:List (List Key×V)}{xs:List (List Key×Addr×Value)}(r:KT H kvs xs)(k:List Key):RelO (valV kvs k) ((atKey xs k).map (·.2)):=by
 induction r with
 | nil=>exact True.intro
 | @cons p q ps qs h t ih =>
  obtain⟨h1,_,h2⟩:=h;by_cases e:p.1=k
  ·have e':q.1=k:=h1.symm.trans e;have b:atKey (q::qs) k=some q.2:=by simp[atKey,List.find?_cons,e']
   rw[valV_pos e,b];exact h2
  ·have e':¬ q.1=k:=fun z=>e (h1.trans z)
   have b:atKey (q::qs) k=atKey qs k:=by simp[atKey,List.find?_cons,e']
   rw[valV_neg e,b];exact ih
theorem KT.repl {H:Hp}{kvs:List (List Key×V)}{xs:List (List Key×Addr×Value)}(r:KT H kvs xs)(k:List Key){y:V}{u:Value}(ry:RelV y u) :
  KT H (kvs.map fun kv=>if kv.1=k then (kv.1,y) else kv) (xs.map (putAt k u)):=by
 induction r with
 | nil=>exact .nil
 | @cons p q ps qs h t ih =>
  rw[List.map_cons,List.map_cons];refine .cons ?_ ih;obtain⟨h1,h2,h3⟩:=h;unfold putAt;by_cases e:p.1=k
  ·rw[if_pos e,if_pos (h1.symm.trans e)];exact⟨h1,h2,ry⟩
  ·rw[if_neg e,if_neg (fun z=>e (h1.trans z))];exact⟨h1,h2,h3⟩
theorem KT.put {H:Hp}{kvs:List (List Key×V)}{xs:List (List Key×Addr×Value)}(r:KT H kvs xs)(k:List Key){b:Addr}{y:V}{u:Value}(hb:H b=some (.tup (k.map kV)))(ry:RelV y u) :
  KT H (putK kvs k y) (storedH xs k b u):=by
 have e:(kvs.any fun kv=>decide (kv.1=k))=(atKey xs k).isSome:=by
  rw[valV_any,(r.val k).isSome_eq,Option.isSome_map]
 unfold putK storedH;rw[e];by_cases q:(atKey xs k).isSome=true
 ·rw[if_pos q,if_pos q];exact r.repl k ry
 ·rw[if_neg q,if_neg q];exact Paired.snoc r ⟨rfl,hb,ry⟩
theorem KT.keeps {H H':Hp}{kvs:List (List Key×V)}{xs:List (List Key×Addr×Value)}(r:KT H kvs xs)(ht:∀ b ys,H b=some (.tup ys)→H' b=some (.tup ys)):KT H' kvs xs :=
 Paired.mapP r fun _ _ z=>⟨z.1,ht _ _ z.2.1,z.2.2⟩
section
variable {P:Program}{w:World}{H:Hp}{h:Heap}{a:Addr}
theorem rd_of {u:HO}(ok:HOk P w H h)(e:Rd H a u):ObjOk P w H h a u:=e.ok ok
theorem dk_rd {kvs:List (Key×V)}(ok:HOk P w H h)(e:Rd H a (.dK kvs)):kvs.length≤sizeLine∧(a == sysModules)=false∧∃ vs,KV kvs vs∧h.DictOf (mixKind P w) a vs :=
 show ObjOk P w H h a (.dK kvs) from rd_of ok e
theorem dk_of {kvs:List (Key×V)}(ok:HOk P w H h)(e:H a=some (.dK kvs)):kvs.length≤sizeLine∧(a == sysModules)=false∧∃ vs,KV kvs vs∧h.DictOf (mixKind P w) a vs:=dk_rd ok (.inl e)
theorem key_of {ks:List Key}(ok:HOk P w H h)(e:H a=some (.tup (ks.map kV))):(tupleKind (mixKind P w)).is h ks a:=by
 obtain⟨_,its,r,o,h1,h2,n,h3⟩:=(show ObjOk P w H h a (.tup (ks.map kV)) from ok a _ e)
 exact⟨o,its.toArray,n,h1,h2,h3,by simpa using items_are r⟩
theorem dt_rd {kvs:List (List Key×V)}(ok:HOk P w H h)(e:Rd H a (.dT kvs)):kvs.length≤sizeLine∧(a == sysModules)=false ∧
  ∃ xs,KT H kvs xs∧h.DictOfH (tupleKind (mixKind P w)) a xs:=by
 obtain⟨z,y,xs,r,o,es,ep,h1,h2,h3,h4,h5⟩:=(show ObjOk P w H h a (.dT kvs) from rd_of ok e)
 refine⟨z,y,xs,r,o,es,ep,h1,h2,h3,h4,fun x hx=>?_,h5⟩;have all:∀ {l:List (List Key×V)} {m:List (List Key×Addr×Value)},KT H l m→∀ x∈m,(tupleKind (mixKind P w)).is h x.1 x.2.1:=by
  intro l m q;induction q with
  | nil=>intro x hx;exact nomatch hx
  | @cons p q ps qs hq t ih =>
   intro x hx;rcases List.mem_cons.mp hx with e | hx
   ·subst e;exact key_of ok (by rw[← hq.1];exact hq.2.1)
   ·exact ih x hx
 exact all r x hx
theorem dt_of {kvs:List (List Key×V)}(ok:HOk P w H h)(e:H a=some (.dT kvs)):kvs.length≤sizeLine∧(a == sysModules)=false ∧
  ∃ xs,KT H kvs xs∧h.DictOfH (tupleKind (mixKind P w)) a xs:=dt_rd ok (.inl e)
end
def DGet (H:Hp)(a:Addr)(y:V)(r:Option V):Prop :=
 (∃ kvs k,Rd H a (.dK kvs)∧y=kV k∧r=valV kvs k)∨∃ kvs k b,Rd H a (.dT kvs)∧y=.ref b∧H b=some (.tup (k.map kV))∧r=valV kvs k
def DPut (H:Hp)(a:Addr)(y v:V)(H':Hp):Prop :=
 (∃ kvs k,H a=some (.dK kvs)∧y=kV k∧kvs.length<sizeLine∧H'=upd H a (.dK (putK kvs k v))) ∨
 ∃ kvs k b,H a=some (.dT kvs)∧y=.ref b∧H b=some (.tup (k.map kV))∧kvs.length<sizeLine∧H'=upd H a (.dT (putK kvs k v))
theorem DGet.k {H:Hp}{a:Addr}{kvs:List (Key×V)}{k:Key}(e:H a=some (.dK kvs)):DGet H a (kV k) (valV kvs k):=.inl ⟨kvs,k,.inl e,rfl,rfl⟩
theorem DGet.t {H:Hp}{a b:Addr}{kvs:List (List Key×V)}{k:List Key}(e:H a=some (.dT kvs))(eb:H b=some (.tup (k.map kV))):DGet H a (.ref b) (valV kvs k):=.inr ⟨kvs,k,b,.inl e,rfl,eb,rfl⟩
theorem DPut.k {H:Hp}{a:Addr}{kvs:List (Key×V)}{k:Key}{v:V}(e:H a=some (.dK kvs))(hl:kvs.length<sizeLine):DPut H a (kV k) v (upd H a (.dK (putK kvs k v))):=.inl ⟨kvs,k,e,rfl,hl,rfl⟩
theorem DPut.t {H:Hp}{a b:Addr}{kvs:List (List Key×V)}{k:List Key}{v:V}(e:H a=some (.dT kvs))(eb:H b=some (.tup (k.map kV)))(hl:kvs.length<sizeLine) :
  DPut H a (.ref b) v (upd H a (.dT (putK kvs k v))):=.inr ⟨kvs,k,b,e,rfl,eb,hl,rfl⟩
section
variable {X:Cx}{pins:List (Addr×Obj)}{σ:St}{H:Hp}{s:Shared}{a:Addr}{y v:V}{u r:Value}{o:Option V}{A:Around}{E:Value→Shared→Prop}
theorem Inv.big (I:Inv X pins σ H s):sysModules<s.heap.objs.size:=by
 have h:mainGlobals<s.heap.objs.size:=(I.mod.glob.keeps I.bk).lt;exact Nat.lt_trans (by decide) h
theorem d_notIn {Q:Value→Shared→Prop}(hu:A.units+1<cLine)(I:Inv X pins σ H s)(g:DGet H a y o)(ry:RelV y u)(h:∀ s',Inv X pins σ H s'→Q (.bool (!o.isSome)) s') :
  wpAny (model X.prog X.w) A (compareOp .NotIn u (.ref a)) Q E s:=by
 rcases g with ⟨kvs,k,e,ey,l⟩ | ⟨kvs,k,b,e,ey,eb,l⟩
 ·subst ey;obtain⟨z,hd,vs,rel,dd⟩:=dk_rd I.hok e;refine wpAny_notIn_of (kV_is ry) hd dd.mapOf ?_;rw[← (rel.val k).isSome_eq,← l];exact h _ (I.tok _)
 ·subst ey;cases (show u=Value.ref b from ry);obtain⟨z,hd,xs,rel,dd⟩:=dt_rd I.hok e;refine wpAny_notIn_heap (tupleKind_room_in1 hu) (key_of I.hok eb) hd dd ?_;have q:=(rel.val k).isSome_eq;rw[Option.isSome_map] at q;rw[← q,← l];exact h _ (I.tok _)
theorem d_write {h':Heap}{t':Nat}{ob:HO}(I:Inv X pins σ H s)(mu:Mut (H a))(hs:Heap.SameBut a s.heap h')(he:∃ q,h'.get? a=some q)(new:ObjOk X.prog X.w (upd H a ob) h' a ob) :
  Inv X pins σ (upd H a ob) {s with heap:=h',toks:=t'} :=
 I.write (x:=a) (e:=a) mu (.inl rfl) (fun b q hb z=>(hs.2 b hb).trans z) he new
theorem dk_new {P:Program}{w:World}{H':Hp}{h':Heap}{kvs:List (Key×V)}{vs:List (Key×Value)}(z:kvs.length≤sizeLine)(hd:(a == sysModules)=false)(rel:KV kvs vs)(dd:h'.DictOf (mixKind P w) a vs) :
  ObjOk P w H' h' a (.dK kvs):=⟨z,hd,vs,rel,dd⟩
theorem d_setItem {H':Hp}{Q:Unit→Shared→Prop}(hu:A.units+1<cLine)(I:Inv X pins σ H s)(g:DPut H a y v H')(ry:RelV y u)(rv:RelV v r)(h:∀ s',Inv X pins σ H' s'→Q () s') :
  wpAny (model X.prog X.w) A (setItem (.ref a) u r) Q E s:=by
 rcases g with ⟨kvs,k,e,ey,l,eH⟩ | ⟨kvs,k,b,e,ey,eb,l,eH⟩
 ·subst ey eH;obtain⟨z,hd,vs,rel,dd⟩:=dk_of I.hok e;have hz:vs.length≤sizeLine:=by rw[← rel.length];exact z
  have hl:(putK kvs k v).length≤sizeLine:=by have:=length_putK kvs k v;omega
  refine wpAny_setItem_pairs (hsz:=hz) (kV_is ry) dd fun h' dd' hs=>h _ ?_
  have he:∃ q,h'.get? a=some q:=let ⟨q,_,_,hq,_⟩:=dd';⟨q,hq⟩;exact d_write I (by rw[e];exact True.intro) hs he (dk_new hl hd (rel.put k rv) dd')
 ·subst ey eH;cases (show u=Value.ref b from ry);obtain⟨z,hd,xs,rel,dd⟩:=dt_of I.hok e;have hz:xs.length≤sizeLine:=by rw[← Paired.length rel];exact z
  have hl:(putK kvs k v).length≤sizeLine:=by have:=length_putK kvs k v;omega
  refine wpAny_setItem_heap (hsz:=hz) (tupleKind_room_in1 hu) (key_of I.hok eb) dd fun h' dd' hs=>h _ ?_
  obtain⟨q,es,ep,hq,h2,h3,h4,_,h5⟩:=dd';refine d_write I (by rw[e];exact True.intro) hs ⟨q,hq⟩ ⟨hl,hd,_,(rel.put k eb rv).keeps fun c ys ec=>?_,q,es,ep,hq,h2,h3,h4,h5⟩;rw[upd_ne (ne_of ec e (fun z=>nomatch z))];exact ec
end
section
variable {X:Cx}{pins:List (Addr×Obj)}{σ:St}{H:Hp}{s:Shared}{a:Addr}{kvs:List (Key×V)}{k:Key}{u:Value}{A:Around}{E:Value→Shared→Prop}
end
def tDIn (ty td:TE):TE:=fun σ H Q=>ty σ H fun y H1=>td σ H1 fun x H2=>∃ a o,x=.ref a∧DGet H2 a y o∧Q (.bl o.isSome) H2
def tDNotIn (ty td:TE):TE:=fun σ H Q=>ty σ H fun y H1=>td σ H1 fun x H2=>∃ a o,x=.ref a∧DGet H2 a y o∧Q (.bl (!o.isSome)) H2
def sDPut (td ty tv:TE):TS:=fun D σ H=>tv σ H fun v H1=>td σ H1 fun x H2=>ty σ H2 fun y H3=>∃ a H4,x=.ref a∧DPut H3 a y v H4∧D.nx σ H4
section
variable {X:Cx}{o i e value:Expr}{pos pos' tpos:Pos}{td ty tv:TE}
theorem pc_dnotin (hu:X.A.units+1<cLine)(hi:PE X i ty)(ho:PE X o td):PC X .NotIn i o (tDNotIn ty td):=by
 intro pins s σ H Q I h;refine thn (hi pins s σ H _ I h) fun iv s1 ⟨y,H1,I1,ry,q1⟩=>thn (ho pins s1 σ H1 _ I1 q1) fun u s2 ⟨x,H2,I2,rx,a,ov,ex,g,q2⟩=>?_
 subst ex;obtain rfl:u=Value.ref a:=rx;exact d_notIn hu I2 g ry fun s3 I3=>⟨.bl (!ov.isSome),H2,I3,rfl,q2⟩
theorem ps_dput (hu:X.A.units+1<cLine)(ho:PE X o td)(hi:PE X i ty)(hv:PE X value tv)(hs:swapsWith value (some (.Subscript o i pos')) pos.line X.env=pure false) :
  PS X (.Assign [.Subscript o i pos'] value pos) (sDPut td ty tv):=by
 intro pins s σ H D I h;refine wpAny_Assign_Subscript (thn (hv pins s σ H _ I h) fun r s1 ⟨v,H1,I1,rv,q1⟩=>thn (ho pins s1 σ H1 _ I1 q1) fun u s2 ⟨x,H2,I2,rx,q2⟩=>thn (hi pins s2 σ H2 _ I2 q2) fun iv s3 ⟨y,H3,I3,ry,a,H4,ex,g,q3⟩=>?_) hs;subst ex;obtain rfl:u=Value.ref a:=rx;exact d_setItem hu I3 g ry rv fun s4 I4=>⟨σ,H4,I4,q3⟩
end
theorem dk_empty {P:Program}{w:World}{H:Hp}(h:Heap)(hb:sysModules<h.objs.size):ObjOk P w H (h.push {cls:=.type "dict",data:=.dict #[]}) h.objs.size (.dK []) :=
 ⟨Nat.zero_le _,beq_eq_false_iff_ne.mpr (Ne.symm (Nat.ne_of_lt hb)),[],.nil,Heap.DictOf.new h⟩
theorem dt_empty {P:Program}{w:World}{H:Hp}(h:Heap)(hb:sysModules<h.objs.size):ObjOk P w H (h.push {cls:=.type "dict",data:=.dict #[]}) h.objs.size (.dT []) :=
 ⟨Nat.zero_le _,beq_eq_false_iff_ne.mpr (Ne.symm (Nat.ne_of_lt hb)),[],.nil,_,#[],0,Heap.get?_push_size _ rfl,⟨rfl,rfl,rfl⟩,rfl,rfl,List.nodup_nil⟩
def tDNewK:TE:=fun _ H Q=>∀ p,H p=none→Q (.ref p) (upd H p (.dK []))
def tDNewT:TE:=fun _ H Q=>∀ p,H p=none→Q (.ref p) (upd H p (.dT []))
section
variable {X:Cx}{pos:Pos}
theorem pe_dnewK:PE X (.Dict [] [] pos) tDNewK:=fun pins s σ H Q I h =>
 wpAny_Dict_empty ⟨.ref s.heap.objs.size,_,I.laid (a:=s.heap.objs.size) (o:=.dK []) (t':=s.toks) (fun _ _ q=>Heap.get?_push_of_some _ q) (Nat.le_refl _) (dk_empty s.heap I.big),rfl,h _ (I.hok.fresh (Nat.le_refl _))⟩
theorem pe_dnewT:PE X (.Dict [] [] pos) tDNewT:=fun pins s σ H Q I h =>
 wpAny_Dict_empty ⟨.ref s.heap.objs.size,_,I.laid (a:=s.heap.objs.size) (o:=.dT []) (t':=s.toks) (fun _ _ q=>Heap.get?_push_of_some _ q) (Nat.le_refl _) (dt_empty s.heap I.big),rfl,h _ (I.hok.fresh (Nat.le_refl _))⟩
end
def tPairs:List (TE×TE)→St→Hp→(List (V×V)→Hp→Prop)→Prop
 | [],_,H,Q=>Q [] H
 | (tk,tv)::r,σ,H,Q=>tk σ H fun x H1=>tv σ H1 fun y H2=>tPairs r σ H2 fun ps H3=>Q ((x,y)::ps) H3
abbrev VV:List (V×V)→List (Value×Value)→Prop:=Paired fun p q=>RelV p.1 q.1∧RelV p.2 q.2
def PPs (X:Cx)(pos:Pos)(keys:List (Option Expr))(values:List Expr)(trs:List (TE×TE)):Prop :=
 ∀ (pins:List (Addr×Obj)) (s:Shared) (σ:St) (H:Hp) (Q:List (V×V)→Hp→Prop),Inv X pins σ H s→tPairs trs σ H Q →
  wpAny (model X.prog X.w) X.A (evalPairs (pairTrees keys values X.env pos)) (fun vs s'=>∃ ps H',Inv X pins σ H' s'∧VV ps vs∧Q ps H') X.xe s
theorem pps_nil {X:Cx}{pos:Pos}:PPs X pos [] [] []:=fun pins s σ H Q I h=>pairTrees_nil_walk ⟨[],H,I,.nil,h⟩
theorem pps_cons {X:Cx}{pos:Pos}{k v:Expr}{ks:List (Option Expr)}{vs:List Expr}{tk tv:TE}{trs:List (TE×TE)}(hk:PE X k tk)(hv:PE X v tv)(hr:PPs X pos ks vs trs) :
  PPs X pos (some k::ks) (v::vs) ((tk,tv)::trs):=fun pins s σ H Q I h =>
 pairTrees_cons_walk (thn (hk pins s σ H _ I h) fun u s1 ⟨x,H1,I1,rx,q1⟩=>thn (hv pins s1 σ H1 _ I1 q1) fun w2 s2 ⟨y,H2,I2,ry,q2⟩ =>
  thn (hr pins s2 σ H2 _ I2 q2) fun ws s3 ⟨ps,H3,I3,rel,q3⟩=>⟨(x,y)::ps,H3,I3,.cons ⟨rx,ry⟩ rel,q3⟩)
def mergeK (kvs more:List (Key×V)):List (Key×V):=more.foldl (fun acc kv=>putK acc kv.1 kv.2) kvs
theorem KV.merge:∀ {more:List (Key×V)} {rs:List (Key×Value)} {kvs:List (Key×V)} {vs:List (Key×Value)},KV more rs→KV kvs vs→KV (mergeK kvs more) (merged vs rs):=by
 intro more rs kvs vs r;unfold KV at r;induction r generalizing kvs vs with
 | nil=>intro q;exact q
 | @cons p q ps qs h t ih =>
  intro r0;have e:KV (putK kvs p.1 p.2) (stored vs q.1 q.2):=by
   have:=r0.put p.1 h.2;rw[← h.1];exact this
  exact ih e
theorem length_mergeK:∀ (more kvs:List (Key×V)),(mergeK kvs more).length≤kvs.length+more.length
 | [],kvs=>by show kvs.length≤kvs.length+0;omega
 | p::r,kvs=>by
  have h1:=length_mergeK r (putK kvs p.1 p.2);have h2:=length_putK kvs p.1 p.2;show (mergeK (putK kvs p.1 p.2) r).length≤_;rw[List.length_cons];omega
theorem carries_of {P:Program}{w:World}:∀ {kvs:List (Key×V)} {ws:List (Value×Value)},VV (kvs.map fun kv=>(kV kv.1,kv.2)) ws→∃ rs,Carries (mixKind P w) ws rs∧KV kvs rs
 | [],_,r=>by rw[List.map_nil] at r;cases r;exact⟨[],True.intro,.nil⟩
 | p::kvs,_,r=>by
  rw[List.map_cons] at r;cases r with
  | @cons a b as bs h t =>
   obtain⟨rs,c,q⟩:=carries_of (P:=P) (w:=w) t;obtain⟨b1,b2⟩:=b;exact⟨(p.1,b2)::rs,⟨kV_is h.1,rfl,c⟩,.cons ⟨rfl,h.2⟩ q⟩
def tDisp (trs:List (TE×TE)):TE:=fun σ H Q=>∀ p,H p=none→tPairs trs σ (upd H p (.dK [])) fun ps H2=>H2 p=some (.dK [])∧∃ kvs:List (Key×V),ps=kvs.map (fun kv=>(kV kv.1,kv.2))∧kvs.length≤15∧Q (.ref p) (upd H2 p (.dK (mergeK [] kvs)))
theorem pe_disp {X:Cx}{pos:Pos}{keys:List (Option Expr)}{values:List Expr}{trs:List (TE×TE)}(h:PPs X pos keys values trs)(hall:keys.all (·.isSome)=true)(hl:keys.length=values.length)(h0:keys≠[])
  (h15:keys.length≤15):PE X (.Dict keys values pos) (tDisp trs):=by
 intro pins s σ H Q I q;have hn:=I.hok.fresh (Nat.le_refl s.heap.objs.size);have I1:=I.laid (a:=s.heap.objs.size) (o:=.dK []) (h':=s.heap.push {cls:=.type "dict",data:=.dict #[]}) (t':=s.toks) (fun _ _ q=>Heap.get?_push_of_some _ q) (Nat.le_refl _) (dk_empty s.heap I.big);refine wpAny_Dict_walk (knd:=mixKind X.prog X.w) hall hl h0 h15 (thn (h pins _ σ _ _ I1 (q _ hn)) fun ws s2 ⟨ps,H2,I2,rel,e,kvs,ep,lk,q2⟩=>?_);subst ep;obtain⟨rs,c,rk⟩:=carries_of (P:=X.prog) (w:=X.w) rel;obtain⟨z,hd,vs0,r0,dd⟩:=dk_of I2.hok e;cases r0;refine⟨rs,c,dd,fun h' dd' hs=>⟨.ref s.heap.objs.size,_,?_,rfl,q2⟩⟩;have hz:(mergeK [] kvs).length≤sizeLine:=by
  have h1:=length_mergeK kvs [];rw[List.length_nil] at h1;rw[sizeLine_eq];omega
 have he:∃ q,h'.get? s.heap.objs.size=some q:=let ⟨q,_,_,hq,_⟩:=dd';⟨q,hq⟩;exact d_write I2 (by rw[e];exact True.intro) hs he (dk_new hz hd (rk.merge .nil) dd')
section
variable {X:Cx}{pins:List (Addr×Obj)}{σ:St}{H:Hp}{s:Shared}{a:Addr}{y d:V}{u r:Value}{o:Option V}{A:Around}{E:Value→Shared→Prop}
end
section
variable {X:Cx}{o e f:Expr}{apos cpos:Pos}{td ty tx:TE}
end
section
variable {X:Cx}{pins:List (Addr×Obj)}{σ:St}{H:Hp}{s:Shared}{a:Addr}{kvs:List (Key×V)}{A:Around}{E:Value→Shared→Prop}
end
section
variable {X:Cx}{pins:List (Addr×Obj)}{σ:St}{H:Hp}{s:Shared}{a:Addr}{y:V}{u:Value}{A:Around}{E:Value→Shared→Prop}
end
end L2
namespace L2
open PySem PySem.Spec PyProof.Rows
section
variable {X:Cx}
end
section
variable {κ:Type}[DecidableEq κ]
end
end L2
end
section
set_option maxHeartbeats 8000000
local macro_rules | `(tactic| omega)=>`(tactic| first | lia | omega +splitDisjunctions)
set_option Elab.async false
set_option linter.all false
set_option maxRecDepth 100000
namespace Ts
open PySem PyProof.Rows
set_option autoImplicit false
def galP:Bool→Keyed→Array Keyed→Nat→Nat→Nat→StateT SortSt Sem (Option Nat):=sortPriv% PySem.Builtin.gallop
def mLo:Array Keyed→Array Keyed→StateT SortSt Sem (Array Keyed):=sortPriv% PySem.Builtin.mergeLo
def mHi:Array Keyed→Array Keyed→StateT SortSt Sem (Array Keyed):=sortPriv% PySem.Builtin.mergeHi
def setGal (g:Nat):StateT SortSt Sem Unit:=modify fun s=>SortSt.mk' (kindOf s) (arrOf s) (pendingOf s) g (failedOf s)
theorem galP_eq (lf:Bool)(ky:Keyed)(ar:Array Keyed)(bs nn hn:Nat):galP lf ky ar bs nn hn=(do
 let bey (i:Nat):StateT SortSt Sem (Option Bool):=do
  let xx ← elem' ar (bs+i)
  if lf then lt' xx ky else return (← lt' ky xx).map (!·)
 let mut la:=0
 let mut of:=1
 let mut l0:=0
 let mut h0:=0
 let some rg ← bey hn | return none
 if rg then
  let mx:=nn-hn
  for _ in [0:nn] do
   if of≥mx then break
   let some mo ← bey (hn+of) | return none
   if !mo then break
   la:=of
   of:=2*of+1
  l0:=hn+la+1
  h0:=hn+min of mx
 else
  let mx:=hn+1
  for _ in [0:nn] do
   if of≥mx then break
   let some fo ← bey (hn-of) | return none
   if fo then break
   la:=of
   of:=2*of+1
  l0:=hn+1-min of mx
  h0:=hn-la
 for _ in [0:nn] do
  if l0≥h0 then break
  let mm:=l0+(h0-l0) / 2
  let some mo ← bey mm | return none
  if mo then l0:=mm+1 else h0:=mm
 return some h0):=rfl
theorem mLo_eq (a b:Array Keyed):mLo a b=(do
 rule "list.sort.merge-lo"
 let tot:=a.size+b.size
 let dn (o:Array Keyed) (i j:Nat):=o++a.extract i a.size++b.extract j b.size
 let lst (o:Array Keyed) (i j:Nat):=o++b.extract j b.size++a.extract i a.size
 let mut o:Array Keyed:=#[← elem' b 0]
 let mut i:=0
 let mut j:=1
 if j == b.size then return dn o i j
 if i+1 == a.size then return lst o i j
 let mut mg:=gallopOf (← get)
 for _ in [0:tot] do
  let mut ac:=0
  let mut bc:=0
  for _ in [0:tot] do
   let some bw ← lt' (← elem' b j) (← elem' a i) | return dn o i j
   if bw then
    o:=o.push (← elem' b j);j:=j+1;bc:=bc+1;ac:=0
    if j == b.size then return dn o i j
    if bc≥mg then break
   else
    o:=o.push (← elem' a i);i:=i+1;ac:=ac+1;bc:=0
    if i+1 == a.size then return lst o i j
    if ac≥mg then break
  rule "list.sort.gallop"
  mg:=mg+1
  for _ in [0:tot] do
   if mg>1 then mg:=mg-1
   setGal mg
   let some k ← galP false (← elem' b j) a i (a.size-i) 0 | return dn o i j
   ac:=k
   if k>0 then
    o:=o++a.extract i (i+k);i:=i+k
    if i+1 == a.size then return lst o i j
    if i == a.size then return dn o i j
   o:=o.push (← elem' b j);j:=j+1
   if j == b.size then return dn o i j
   let some k ← galP true (← elem' a i) b j (b.size-j) 0 | return dn o i j
   bc:=k
   if k>0 then
    o:=o++b.extract j (j+k);j:=j+k
    if j == b.size then return dn o i j
   o:=o.push (← elem' a i);i:=i+1
   if i+1 == a.size then return lst o i j
   if ac<7 && bc<7 then break
  mg:=mg+1
  setGal mg
 unsupported "internal:list.sort.merge-bound"):=rfl
theorem mHi_eq (a b:Array Keyed):mHi a b=(do
 rule "list.sort.merge-hi"
 let tot:=a.size+b.size
 let dn (o:Array Keyed) (i j:Nat):=a.extract 0 i++b.extract 0 j++o.reverse
 let fst (o:Array Keyed) (i j:Nat):=b.extract 0 j++a.extract 0 i++o.reverse
 let mut i:=a.size-1
 let mut j:=b.size
 let mut o:Array Keyed:=#[← elem' a i]
 if i == 0 then return dn o i j
 if j == 1 then return fst o i j
 let mut mg:=gallopOf (← get)
 for _ in [0:tot] do
  let mut ac:=0
  let mut bc:=0
  for _ in [0:tot] do
   let some aw ← lt' (← elem' b (j-1)) (← elem' a (i-1)) | return dn o i j
   if aw then
    i:=i-1;o:=o.push (← elem' a i);ac:=ac+1;bc:=0
    if i == 0 then return dn o i j
    if ac≥mg then break
   else
    j:=j-1;o:=o.push (← elem' b j);bc:=bc+1;ac:=0
    if j == 1 then return fst o i j
    if bc≥mg then break
  rule "list.sort.gallop"
  mg:=mg+1
  for _ in [0:tot] do
   if mg>1 then mg:=mg-1
   setGal mg
   let some p ← galP false (← elem' b (j-1)) a 0 i (i-1) | return dn o i j
   let k:=i-p
   ac:=k
   if k>0 then
    o:=o++(a.extract p i).reverse;i:=p
    if i == 0 then return dn o i j
   j:=j-1;o:=o.push (← elem' b j)
   if j == 1 then return fst o i j
   let some p ← galP true (← elem' a (i-1)) b 0 j (j-1) | return dn o i j
   let k:=j-p
   bc:=k
   if k>0 then
    o:=o++(b.extract p j).reverse;j:=p
    if j == 1 then return fst o i j
    if j == 0 then return dn o i j
   i:=i-1;o:=o.push (← elem' a i)
   if i == 0 then return dn o i j
   if ac<7 && bc<7 then break
  mg:=mg+1
  setGal mg
 unsupported "internal:list.sort.merge-bound"):=rfl
theorem mAt_eq (i:Nat):mergeAt' i=(do
 let s ← get
 let (some (sa,na,pw),some (sb,nb,_)):=((pendingOf s)[i]?,(pendingOf s)[i+1]?) | unsupported "internal:list.sort.pending"
 set (SortSt.mk' (kindOf s) (arrOf s) (((pendingOf s).setIfInBounds i (sa,na+nb,pw)).eraseIdxIfInBounds (i+1)) (gallopOf s) (failedOf s))
 let some k ← galP false (← elem' (arrOf s) sb) (arrOf s) sa na 0 | return false
 let (sa,na):=(sa+k,na-k)
 if na == 0 then return true
 let some nb ← galP true (← elem' (arrOf s) (sa+na-1)) (arrOf s) sb nb (nb-1) | return false
 if nb == 0 then return true
 let xx:=(arrOf s).extract sa sb
 let yy:=(arrOf s).extract sb (sb+nb)
 let mm ← if na≤nb then mLo xx yy else mHi xx yy
 modify fun s=>setArr s (mm.toList.zipIdx.foldl (fun a (p,j)=>a.setIfInBounds (sa+j) p) (arrOf s))
 return (failedOf (← get)).isNone):=rfl
end Ts
namespace Ts
open PySem PyProof.Rows
set_option autoImplicit false
def el (xs:Array Keyed)(i:Nat):Keyed:=(xs[i]?).getD (Value.none,Value.none)
theorem el_some {xs:Array Keyed}{i:Nat}(h:i<xs.size):xs[i]?=some (el xs i):=by
 unfold el;rw[getElem?_pos xs i h];rfl
theorem el_congr {xs ys:Array Keyed}{i j:Nat}(h:xs[i]?=ys[j]?):el xs i=el ys j:=by unfold el;rw[h]
theorem el_mem {xs:Array Keyed}{i:Nat}(h:i<xs.size):el xs i∈xs.toList:=by
 have e:el xs i=xs[i]:=by unfold el;rw[getElem?_pos xs i h];rfl
 rw[e];simp
section
variable {O:KeyOrd}{key:Keyed→O.α}
abbrev KA {O:KeyOrd}(key:Keyed→O.α)(xs:Array Keyed)(i:Nat):O.α:=key (el xs i)
theorem KA_congr {xs ys:Array Keyed}{i j:Nat}(h:xs[i]?=ys[j]?):KA key xs i=KA key ys j:=by unfold KA;rw[el_congr h]
def Seg {O:KeyOrd}(key:Keyed→O.α)(xs:Array Keyed)(lo hi:Nat):Prop:=∀ i j,lo≤i→i≤j→j<hi→O.kle (KA key xs i) (KA key xs j)
def SegD {O:KeyOrd}(key:Keyed→O.α)(xs:Array Keyed)(lo hi:Nat):Prop:=∀ i j,lo≤i→i≤j→j<hi→O.kle (KA key xs j) (KA key xs i)
theorem Seg.one (xs:Array Keyed)(lo:Nat):Seg key xs lo (lo+1):=fun i j h1 h2 h3=>by
 have:i=j:=by omega
 subst this;exact KeyOrd.kle_refl _
theorem Seg.sub {xs:Array Keyed}{lo hi lo' hi':Nat}(h:Seg key xs lo hi)(h1:lo≤lo')(h2:hi'≤hi):Seg key xs lo' hi':=fun i j a b c=>h i j (by omega) b (by omega)
theorem Seg.congr {xs ys:Array Keyed}{lo hi:Nat}(h:Seg key xs lo hi)(e:∀ i,lo≤i→i<hi→KA key ys i=KA key xs i):Seg key ys lo hi:=fun i j a b c=>by
 rw[e i a (by omega),e j (by omega) c];exact h i j a b c
theorem KA_bubble {xs:Array Keyed}{src d:Nat}(hs:src<xs.size)(hd:d≤src)(k:Nat) :
  KA key (bubble xs src d) k=if k=src-d then KA key xs src else if src-d<k∧k≤src then KA key xs (k-1) else KA key xs k:=by
 have e:=getElem?_bubble hs d hd k;by_cases h1:k=src-d
 ·rw[if_pos h1] at e ⊢;exact KA_congr e
 ·rw[if_neg h1] at e ⊢;by_cases h2:src-d<k∧k≤src
  ·rw[if_pos h2] at e ⊢;exact KA_congr e
  ·rw[if_neg h2] at e ⊢;exact KA_congr e
theorem KA_mirror {xs:Array Keyed}{i j:Nat}(hj:j≤xs.size)(k:Nat) :
  KA key (mirror xs i j ((j-i) / 2)) k=if i≤k∧k<j then KA key xs (i+j-1-k) else KA key xs k:=by
 have e:=getElem?_mirror_all (i:=i) hj k;by_cases h1:i≤k∧k<j
 ·rw[if_pos h1] at e ⊢;exact KA_congr e
 ·rw[if_neg h1] at e ⊢;exact KA_congr e
theorem KA_mirror_equal {xs:Array Keyed}{i j:Nat}(hj:j≤xs.size)(heq:∀ k,i≤k→k<j→KA key xs k=KA key xs (j-1))(k:Nat) :
  KA key (mirror xs i j ((j-i) / 2)) k=KA key xs k:=by
 rw[KA_mirror hj];split
 ·rw[heq _ (by omega) (by omega),heq k (by omega) (by omega)]
 ·rfl
end
structure SB (a₀:Array Keyed)(knd:SortKind)(st:SortSt):Prop where
 perm:(arrOf st).Perm a₀
 kind:kindOf st=knd
 failed:failedOf st=none
theorem SB.size {a₀:Array Keyed}{knd:SortKind}{st:SortSt}(h:SB a₀ knd st):(arrOf st).size=a₀.size:=h.perm.size_eq
theorem SB.setArr {a₀:Array Keyed}{knd:SortKind}{st:SortSt}(h:SB a₀ knd st){xs:Array Keyed}(hp:xs.Perm (arrOf st)):SB a₀ knd (setArr st xs):=⟨hp.trans h.perm,h.kind,h.failed⟩
theorem SB.mem {a₀:Array Keyed}{knd:SortKind}{st:SortSt}(h:SB a₀ knd st){i:Nat}(hi:i<a₀.size):el (arrOf st) i∈a₀.toList :=
 (Array.perm_iff_toList_perm.mp h.perm).mem_iff.mp (el_mem (by rw[h.size];exact hi))
def Cmp (M:Model)(A:Around)(E:Value→Shared→Prop)(s:Shared)(knd:SortKind)(O:KeyOrd)(key:Keyed→O.α)(a₀:Array Keyed):Prop :=
 ∀ p∈a₀.toList,∀ q∈a₀.toList,∀ (st:SortSt) (Q:Option Bool→SortSt→Prop),kindOf st=knd→Q (some (O.blt (key p) (key q))) st→wpS M A E s (lt' p q) Q st
section
variable {M:Model}{A:Around}{E:Value→Shared→Prop}{s:Shared}{a₀:Array Keyed}{knd:SortKind}{O:KeyOrd}{key:Keyed→O.α}
theorem wpS_elem {xs:Array Keyed}{i:Nat}{Q:Keyed→SortSt→Prop}{st:SortSt}(h:i<xs.size)(q:Q (el xs i) st):wpS M A E s (elem' xs i) Q st:=by
 rw[elem'_eq,el_some h];exact wpS_pure q
theorem wpS_ltI {st:SortSt}{i j:Nat}{Q:Option Bool→SortSt→Prop}(C:Cmp M A E s knd O key a₀)(hB:SB a₀ knd st)(hi:i<a₀.size)(hj:j<a₀.size)
  (h:Q (some (O.blt (KA key (arrOf st) i) (KA key (arrOf st) j))) st):wpS M A E s (ltAt' i j) Q st:=by
 rw[ltAt'_eq];refine wpS_bind (wpS_get ?_);refine wpS_bind (wpS_elem (by rw[hB.size];exact hi) ?_);refine wpS_bind (wpS_elem (by rw[hB.size];exact hj) ?_);exact C _ (hB.mem hi) _ (hB.mem hj) st Q hB.kind h
theorem wpS_rev {st:SortSt}{i j:Nat}{Q:Unit→SortSt→Prop}(h:Q () (setArr st (mirror (arrOf st) i j ((j-i) / 2)))):wpS M A E s (reverseSlice' i j) Q st:=by
 rw[reverseSlice'_eq];exact wpS_modify h
theorem wpS_rule {st:SortSt}{Q:Unit→SortSt→Prop}{x:String}(h:Q () st):wpS M A E s (liftM (rule x):StateT SortSt Sem Unit) Q st:=wpS_lift (wpAny_rule ⟨rfl,h⟩)
def ascL (lo a nrem:Nat):StateT SortSt Sem AscSt :=
 forIn [a:nrem] ((none,a):AscSt) fun _ c=>do
  let x ← ltAt' (lo+c.snd) (lo+c.snd-1)
  match x with
  | some sm=>if sm=true then pure (ForInStep.done (none,c.snd)) else pure (ForInStep.yield (none,c.snd+1))
  | _=>pure (ForInStep.done (some none,c.snd))
def t3L (lo n nrem:Nat):StateT SortSt Sem (Option Nat):=do
 reverseSlice' lo (lo+n)
 let c ← ascL lo n nrem
 match c.fst with
 | some r=>pure r
 | none=>pure (some c.snd)
def desL (lo n nrem:Nat):StateT SortSt Sem DescSt :=
 forIn [n:nrem] ((none,n,0):DescSt) fun _ c=>do
  let x ← ltAt' (lo+c.snd.fst) (lo+c.snd.fst-1)
  match x with
  | some sm =>
   if sm=true then
    if c.snd.snd>0 then do
     reverseSlice' (lo+c.snd.fst-(c.snd.snd+1)) (lo+c.snd.fst)
     pure (ForInStep.yield (none,c.snd.fst+1,0))
    else pure (ForInStep.yield (none,c.snd.fst+1,0))
   else do
    let y ← ltAt' (lo+c.snd.fst-1) (lo+c.snd.fst)
    match y with
    | some la =>
     if la=true then pure (ForInStep.done (none,c.snd.fst,c.snd.snd))
     else pure (ForInStep.yield (none,c.snd.fst+1,c.snd.snd+1))
    | _=>pure (ForInStep.done (some none,c.snd.fst,c.snd.snd))
  | _=>pure (ForInStep.done (some none,c.snd.fst,c.snd.snd))
def desP (lo n nrem:Nat):StateT SortSt Sem (Option Nat):=do
 liftM (rule "list.sort.descending-run")
 let c ← desL lo (n+1) nrem
 match c.fst with
 | some r=>pure r
 | none =>
  if c.snd.snd>0 then do
   reverseSlice' (lo+c.snd.fst-(c.snd.snd+1)) (lo+c.snd.fst)
   t3L lo c.snd.fst nrem
  else t3L lo c.snd.fst nrem
theorem cR_eq (lo nrem:Nat):countRun' lo nrem=(do
  let c ← ascL lo 1 nrem
  match c.fst with
  | some r=>pure r
  | none =>
   if (c.snd == nrem)=true then pure (some c.snd)
   else if c.snd>1 then do
    let x ← ltAt' lo (lo+c.snd-1)
    match x with
    | some rs=>if rs=true then pure (some c.snd) else do
      reverseSlice' lo (lo+c.snd)
      desP lo c.snd nrem
    | _=>pure none
   else desP lo c.snd nrem):=by
 rw[countRun'_eq];unfold desP t3L desL ascL;refine bind_congr fun c=>?_
 obtain⟨r,n⟩:=c;cases r with
 | some r=>rfl
 | none =>
  dsimp only;split
  ·rfl
  ·split
   ·refine bind_congr fun x=>?_
    cases x with
    | none=>rfl
    | some rs =>
     dsimp only;split
     ·rfl
     ·refine bind_congr fun u=>?_
      refine bind_congr fun v=>?_
      refine bind_congr fun d=>?_
      obtain⟨r2,n2,q2⟩:=d;cases r2 with
      | some r2=>rfl
      | none =>
       dsimp only;split
       ·refine bind_congr fun e=>?_
        refine bind_congr fun e=>?_
        refine bind_congr fun d=>?_
        obtain⟨r3,n3⟩:=d;cases r3<;>rfl
       ·refine bind_congr fun e=>?_
        refine bind_congr fun d=>?_
        obtain⟨r3,n3⟩:=d;cases r3<;>rfl
   ·refine bind_congr fun v=>?_
    refine bind_congr fun d=>?_
    obtain⟨r2,n2,q2⟩:=d;cases r2 with
    | some r2=>rfl
    | none =>
     dsimp only;split
     ·refine bind_congr fun e=>?_
      refine bind_congr fun e=>?_
      refine bind_congr fun d=>?_
      obtain⟨r3,n3⟩:=d;cases r3<;>rfl
     ·refine bind_congr fun e=>?_
      refine bind_congr fun d=>?_
      obtain⟨r3,n3⟩:=d;cases r3<;>rfl
structure From (lo:Nat)(st st':SortSt):Prop where
 low:∀ i,i<lo→(arrOf st')[i]?=(arrOf st)[i]?
 pend:pendingOf st'=pendingOf st
theorem From.refl (lo:Nat)(st:SortSt):From lo st st:=⟨fun _ _=>rfl,rfl⟩
theorem From.trans {lo:Nat}{a b c:SortSt}(h:From lo a b)(k:From lo b c):From lo a c:=⟨fun i hi=>(k.low i hi).trans (h.low i hi),k.pend.trans h.pend⟩
theorem From.mirror {lo i j:Nat}{st:SortSt}(hi:lo≤i)(hj:j≤(arrOf st).size):From lo st (PyProof.Rows.setArr st (PyProof.Rows.mirror (arrOf st) i j ((j-i) / 2))) :=
 ⟨fun k hk=>by show (PyProof.Rows.mirror (arrOf st) i j ((j-i) / 2))[k]?=_;rw[getElem?_mirror_all hj,if_neg (by omega)],rfl⟩
theorem From.bubble {lo src d:Nat}{st:SortSt}(hs:src<(arrOf st).size)(hd:d≤src)(hl:lo≤src-d):From lo st (PyProof.Rows.setArr st (PyProof.Rows.bubble (arrOf st) src d)) :=
 ⟨fun k hk=>by show (PyProof.Rows.bubble (arrOf st) src d)[k]?=_;rw[getElem?_bubble hs d hd,if_neg (by omega),if_neg (by omega)],rfl⟩
theorem wpS_ascL {st:SortSt}{lo a nrem:Nat}{Q:AscSt→SortSt→Prop}(C:Cmp M A E s knd O key a₀)(hn:lo+nrem≤a₀.size)(ha:1≤a)(han:a≤nrem)(hB:SB a₀ knd st)
  (hs:Seg key (arrOf st) lo (lo+a))
  (h:∀ n,a≤n→n≤nrem→Seg key (arrOf st) lo (lo+n)→(n=nrem∨O.klt (KA key (arrOf st) (lo+n)) (KA key (arrOf st) (lo+n-1)))→Q (none,n) st) :
  wpS M A E s (ascL lo a nrem) Q st:=by
 unfold ascL;refine wpS_forRange (I:=fun x c st'=>st'=st∧c=(none,x)∧Seg key (arrOf st) lo (lo+x)) ?step ?fin ⟨rfl,rfl,hs⟩
 case fin =>
  rintro c st' ⟨rfl,rfl,hs'⟩;rw[show max a nrem=nrem by omega] at hs' ⊢;exact h nrem han (Nat.le_refl _) hs' (.inl rfl)
 case step =>
  rintro x c st' hax hxn ⟨rfl,rfl,hs'⟩;dsimp only;refine wpS_bind (wpS_ltI C hB (by omega) (by omega) ?_);cases hless:O.blt (KA key (arrOf st') (lo+x)) (KA key (arrOf st') (lo+x-1))
  case true =>
   simp only[if_true];exact wpS_pure (h x hax (by omega) hs' (.inr hless))
  case false =>
   simp only[Bool.false_eq_true,if_false];refine wpS_pure ⟨rfl,rfl,fun i j hli hij hj=>?_⟩;by_cases hjx:j<lo+x
   ·exact hs' i j hli hij hjx
   ·have hj':j=lo+x:=by omega
    subst hj';by_cases hi':i=lo+x
    ·subst hi';exact KeyOrd.kle_refl _
    ·exact KeyOrd.kle_trans (hs' i (lo+x-1) hli (by omega) (by omega)) hless
theorem wpS_t3L {st:SortSt}{lo n nrem:Nat}{Q:Option Nat→SortSt→Prop}(C:Cmp M A E s knd O key a₀)(hn:lo+nrem≤a₀.size)(h1:1≤n)(hnn:n≤nrem)(hB:SB a₀ knd st)
  (hs:SegD key (arrOf st) lo (lo+n)) (h:∀ m st',SB a₀ knd st'→From lo st st'→1≤m→m≤nrem→Seg key (arrOf st') lo (lo+m)→Q (some m) st') :
  wpS M A E s (t3L lo n nrem) Q st:=by
 unfold t3L;have hsz:lo+n≤(arrOf st).size:=by rw[hB.size];omega
 refine wpS_bind (wpS_rev ?_);have hB':SB a₀ knd (setArr st (mirror (arrOf st) lo (lo+n) ((lo+n-lo) / 2))):=hB.setArr (mirror_perm _ _ _ _);have hF:=From.mirror (Nat.le_refl lo) hsz;refine wpS_bind (wpS_ascL C hn h1 hnn hB' ?_ fun m hm1 hm2 hsm _=>wpS_pure (h m _ hB' hF (by omega) hm2 hsm));intro i j hli hij hj;show O.kle (KA key (mirror (arrOf st) lo (lo+n) ((lo+n-lo) / 2)) i) (KA key (mirror (arrOf st) lo (lo+n) ((lo+n-lo) / 2)) j);rw[KA_mirror hsz,KA_mirror hsz,if_pos (by omega),if_pos (by omega)];exact hs _ _ (by omega) (by omega) (by omega)
theorem wpS_desL {st:SortSt}{lo n nrem:Nat}{Q:DescSt→SortSt→Prop}(C:Cmp M A E s knd O key a₀)(hn:lo+nrem≤a₀.size)(h1:1≤n)(hnn:n≤nrem)(hB:SB a₀ knd st)
  (hs:SegD key (arrOf st) lo (lo+n))
  (h:∀ m neq st',SB a₀ knd st'→From lo st st'→n≤m→m≤nrem→SegD key (arrOf st') lo (lo+m)→neq+1≤m→(∀ i,lo+m-(neq+1)≤i→i<lo+m→KA key (arrOf st') i=KA key (arrOf st') (lo+m-1))→Q (none,m,neq) st') :
  wpS M A E s (desL lo n nrem) Q st:=by
 unfold desL
 refine wpS_forRange (I:=fun x c st'=>∃ neq,c=(none,x,neq)∧SB a₀ knd st'∧From lo st st'∧SegD key (arrOf st') lo (lo+x)∧neq+1≤x ∧
   (∀ i,lo+x-(neq+1)≤i→i<lo+x→KA key (arrOf st') i=KA key (arrOf st') (lo+x-1))) ?step ?fin ⟨0,rfl,hB,From.refl _ _,hs,by omega,fun i h1 h2=>by congr 1;congr 1;omega⟩
 case fin =>
  rintro c st' ⟨neq,rfl,hB',hF,hs',hq,he⟩;rw[show max n nrem=nrem by omega] at hs' hq he ⊢;exact h nrem neq st' hB' hF hnn (Nat.le_refl _) hs' hq he
 case step =>
  rintro x c st' hax hxn ⟨neq,rfl,hB',hF,hs',hq,he⟩;dsimp only;have hsz:lo+x≤(arrOf st').size:=by rw[hB'.size];omega
  refine wpS_bind (wpS_ltI C hB' (by omega) (by omega) ?_);cases hless:O.blt (KA key (arrOf st') (lo+x)) (KA key (arrOf st') (lo+x-1))
  case true =>
   simp only[if_true];have step1:∀ xs:Array Keyed,(∀ k,KA key xs k=KA key (arrOf st') k)→SegD key xs lo (lo+(x+1)):=by
    intro xs hk i j hli hij hj;rw[hk,hk];by_cases hjx:j<lo+x
    ·exact hs' i j hli hij hjx
    ·have hj':j=lo+x:=by omega
     subst hj';by_cases hi':i=lo+x
     ·subst hi';exact KeyOrd.kle_refl _
     ·exact KeyOrd.kle_trans (KeyOrd.kle_of_klt hless) (hs' i (lo+x-1) hli (by omega) (by omega))
   by_cases hneq:neq>0
   ·rw[if_pos hneq];refine wpS_bind (wpS_rev (wpS_pure ⟨0,rfl,hB'.setArr (mirror_perm _ _ _ _),hF.trans (From.mirror (by omega) hsz),step1 _ (KA_mirror_equal hsz he),by omega,fun i h1 h2=>by congr 1;congr 1;omega⟩))
   ·rw[if_neg hneq];exact wpS_pure ⟨0,rfl,hB',hF,step1 _ (fun _=>rfl),by omega,fun i h1 h2=>by congr 1;congr 1;omega⟩
  case false =>
   simp only[Bool.false_eq_true,if_false];refine wpS_bind (wpS_ltI C hB' (by omega) (by omega) ?_);cases hlarger:O.blt (KA key (arrOf st') (lo+x-1)) (KA key (arrOf st') (lo+x))
   case true =>
    simp only[if_true];exact wpS_pure (h x neq st' hB' hF hax (by omega) hs' hq he)
   case false =>
    simp only[Bool.false_eq_true,if_false];have heqx:KA key (arrOf st') (lo+x)=KA key (arrOf st') (lo+x-1):=KeyOrd.kle_antisymm hlarger hless;refine wpS_pure ⟨neq+1,rfl,hB',hF,fun i j hli hij hj=>?_,by omega,fun i h1 h2=>?_⟩
    ·by_cases hjx:j<lo+x
     ·exact hs' i j hli hij hjx
     ·have hj':j=lo+x:=by omega
      subst hj';by_cases hi':i=lo+x
      ·subst hi';exact KeyOrd.kle_refl _
      ·rw[heqx];exact hs' i (lo+x-1) hli (by omega) (by omega)
    ·rw[show lo+(x+1)-1=lo+x by omega];by_cases hix:i=lo+x
     ·subst hix;rfl
     ·rw[heqx];exact he i (by omega) (by omega)
theorem wpS_desP {st:SortSt}{lo n nrem:Nat}{Q:Option Nat→SortSt→Prop}(C:Cmp M A E s knd O key a₀)(hn:lo+nrem≤a₀.size)(hnn:n+1≤nrem)(hB:SB a₀ knd st)
  (hs:SegD key (arrOf st) lo (lo+(n+1))) (h:∀ m st',SB a₀ knd st'→From lo st st'→1≤m→m≤nrem→Seg key (arrOf st') lo (lo+m)→Q (some m) st') :
  wpS M A E s (desP lo n nrem) Q st:=by
 unfold desP;refine wpS_bind (wpS_rule ?_);refine wpS_bind (wpS_desL C hn (by omega) hnn hB hs fun m neq st' hB' hF hm1 hm2 hs' hq he=>?_);dsimp only;have hsz:lo+m≤(arrOf st').size:=by rw[hB'.size];omega
 by_cases hneq:neq>0
 ·rw[if_pos hneq];refine wpS_bind (wpS_rev (wpS_t3L C hn (by omega) hm2 (hB'.setArr (mirror_perm _ _ _ _)) ?_ fun m' st'' a b=>h m' st'' a (hF.trans ((From.mirror (by omega) hsz).trans b))));intro i j hli hij hj;show O.kle (KA key (mirror (arrOf st') _ _ _) j) (KA key (mirror (arrOf st') _ _ _) i);rw[KA_mirror_equal hsz he,KA_mirror_equal hsz he];exact hs' i j hli hij hj
 ·rw[if_neg hneq];exact wpS_t3L C hn (by omega) hm2 hB' hs' fun m' st'' a b=>h m' st'' a (hF.trans b)
theorem wpS_cR {st:SortSt}{lo nrem:Nat}{Q:Option Nat→SortSt→Prop}(C:Cmp M A E s knd O key a₀)(hn:lo+nrem≤a₀.size)(h1:1≤nrem)(hB:SB a₀ knd st)
  (h:∀ m st',SB a₀ knd st'→From lo st st'→1≤m→m≤nrem→Seg key (arrOf st') lo (lo+m)→Q (some m) st') :
  wpS M A E s (countRun' lo nrem) Q st:=by
 rw[cR_eq];refine wpS_bind (wpS_ascL C hn (Nat.le_refl 1) h1 hB (Seg.one _ _) fun n hn1 hn2 hsn hor=>?_);dsimp only;by_cases hnn:n=nrem
 ·rw[if_pos (by simpa using hnn)];exact wpS_pure (h n st hB (From.refl _ _) hn1 hn2 hsn)
 ·rw[if_neg (by simpa using hnn)];have hlt:O.klt (KA key (arrOf st) (lo+n)) (KA key (arrOf st) (lo+n-1)):=hor.resolve_left hnn;by_cases hgt:n>1
  ·rw[if_pos hgt];refine wpS_bind (wpS_ltI C hB (by omega) (by omega) ?_);cases hrose:O.blt (KA key (arrOf st) lo) (KA key (arrOf st) (lo+n-1))
   case true =>
    simp only[if_true];exact wpS_pure (h n st hB (From.refl _ _) hn1 hn2 hsn)
   case false =>
    simp only[Bool.false_eq_true,if_false];have hsz:lo+n≤(arrOf st).size:=by rw[hB.size];omega
    have hall:∀ k,lo≤k→k<lo+n→KA key (arrOf st) k=KA key (arrOf st) (lo+n-1):=by
     intro k hlk hk;have a1:=hsn lo k (by omega) (by omega) hk;have a2:=hsn k (lo+n-1) hlk (by omega) (by omega);exact KeyOrd.kle_antisymm a2 (KeyOrd.kle_trans hrose a1)
    refine wpS_bind (wpS_rev (wpS_desP C hn (by omega) (hB.setArr (mirror_perm _ _ _ _)) ?_ fun m' st'' a b=>h m' st'' a ((From.mirror (Nat.le_refl lo) hsz).trans b)));intro i j hli hij hj;show O.kle (KA key (mirror (arrOf st) _ _ _) j) (KA key (mirror (arrOf st) _ _ _) i);rw[KA_mirror_equal hsz hall,KA_mirror_equal hsz hall];by_cases hjn:j<lo+n
    ·rw[hall i (by omega) (by omega),hall j (by omega) hjn];exact KeyOrd.kle_refl _
    ·have hj':j=lo+n:=by omega
     subst hj';by_cases hi':i=lo+n
     ·subst hi';exact KeyOrd.kle_refl _
     ·rw[hall i (by omega) (by omega)];exact KeyOrd.kle_of_klt hlt
  ·rw[if_neg hgt];have hn1':n=1:=by omega
   subst hn1';refine wpS_desP C hn (by omega) hB ?_ h;intro i j hli hij hj;by_cases hi':i=j
   ·subst hi';exact KeyOrd.kle_refl _
   ·have hi0:i=lo:=by omega
    have hj1:j=lo+1:=by omega
    subst hi0;subst hj1;exact KeyOrd.kle_of_klt hlt
theorem wpS_bS {st:SortSt}{lo n ok:Nat}{Q:Bool→SortSt→Prop}(C:Cmp M A E s knd O key a₀)(hn:lo+n≤a₀.size)(hok:ok≤n)(hB:SB a₀ knd st)(hs:Seg key (arrOf st) lo (lo+ok))
  (h:∀ st',SB a₀ knd st'→From lo st st'→Seg key (arrOf st') lo (lo+n)→Q true st'):wpS M A E s (binarySort' lo n ok) Q st:=by
 rw[binarySort'_eq]
 refine wpS_bind (wpS_mono (wpS_forRange (I:=fun k c st'=>c=(none,())∧SB a₀ knd st'∧From lo st st'∧Seg key (arrOf st') lo (lo+min k n))
  (Q:=fun c st'=>c=(none,())∧SB a₀ knd st'∧From lo st st'∧Seg key (arrOf st') lo (lo+n)) ?step ?fin ?init) ?post)
 case post =>
  rintro c st' ⟨rfl,hB',hF,hs'⟩;exact wpS_pure (h st' hB' hF hs')
 case init =>
  refine⟨rfl,hB,From.refl _ _,fun i j hli hij hj=>?_⟩;by_cases h1:ok=0
  ·have:i=j:=by omega
   subst this;exact KeyOrd.kle_refl _
  ·exact hs i j hli hij (by omega)
 case fin =>
  rintro c st' ⟨hc,hB',hF,hs'⟩;refine⟨hc,hB',hF,?_⟩
  rwa [show min (max (max ok 1) n) n=n by omega] at hs'
 case step =>
  rintro k c st' hak hkn ⟨rfl,hB',hF,hs'⟩;rw[show min k n=k by omega] at hs';have hk:lo+k<a₀.size:=by omega
  refine wpS_bind (wpS_mono (wpS_forRange (I:=fun x c st''=>st''=st'∧∃ l r,c=(none,l,r)∧l≤r∧r≤k∧r-l≤k-x ∧
    (∀ i,i<l→O.kle (KA key (arrOf st') (lo+i)) (KA key (arrOf st') (lo+k)))∧(∀ i,r≤i→i<k→O.klt (KA key (arrOf st') (lo+k)) (KA key (arrOf st') (lo+i))))
   (Q:=fun c st''=>st''=st'∧∃ l r,c=(none,l,r)∧l≤k ∧
    (∀ i,i<l→O.kle (KA key (arrOf st') (lo+i)) (KA key (arrOf st') (lo+k)))∧(∀ i,l≤i→i<k→O.klt (KA key (arrOf st') (lo+k)) (KA key (arrOf st') (lo+i)))) ?istep ?ifin ?iinit) ?ipost)
  case iinit=>exact⟨rfl,0,k,rfl,by omega,by omega,by omega,fun i hi=>by omega,fun i h1 h2=>by omega⟩
  case ifin =>
   rintro c st'' ⟨rfl,l,r,rfl,hlr,hrk,hm,hlo,hhi⟩;have:l=r:=by omega
   subst this;exact⟨rfl,l,l,rfl,hrk,hlo,hhi⟩
  case istep =>
   rintro x c st'' _ hxk ⟨rfl,l,r,rfl,hlr,hrk,hm,hlo,hhi⟩;dsimp only;by_cases hge:l≥r
   ·rw[if_pos hge];have:l=r:=by omega
    subst this;exact wpS_pure ⟨rfl,l,l,rfl,hrk,hlo,hhi⟩
   ·rw[if_neg hge];refine wpS_bind (wpS_ltI C hB' hk (by omega) ?_);cases hless:O.blt (KA key (arrOf st'') (lo+k)) (KA key (arrOf st'') (lo+(l+r) / 2))
    case true =>
     simp only[if_true];refine wpS_pure ⟨rfl,l,(l+r) / 2,rfl,by omega,by omega,by omega,hlo,fun i h1 h2=>?_⟩;exact KeyOrd.klt_of_klt_of_kle hless (hs' _ _ (by omega) (by omega) (by omega))
    case false =>
     simp only[Bool.false_eq_true,if_false];refine wpS_pure ⟨rfl,(l+r) / 2+1,r,rfl,by omega,by omega,by omega,fun i h1=>?_,hhi⟩;exact KeyOrd.kle_trans (hs' (lo+i) (lo+(l+r) / 2) (by omega) (by omega) (by omega)) (show O.kle _ _ from hless)
  case ipost =>
   rintro c st'' ⟨rfl,l,r,rfl,hlk,hlo,hhi⟩;show wpS _ _ _ _ (do moveDown' (lo+k) (lo+l);pure (ForInStep.yield (none,()))) _ _;rw[moveDown'_eq];have hks:lo+k<(arrOf st'').size:=by rw[hB'.size];exact hk
   refine wpS_bind (wpS_modify (wpS_pure ⟨rfl,hB'.setArr (bubble_perm _ _ _),hF.trans (From.bubble hks (by omega) (by omega)),?_⟩));rw[show min (k+1) n=k+1 by omega];intro i j hli hij hj;show O.kle (KA key (bubble (arrOf st'') (lo+k) (lo+k-(lo+l))) i) (KA key (bubble (arrOf st'') (lo+k) (lo+k-(lo+l))) j);rw[KA_bubble hks (by omega),KA_bubble hks (by omega),show lo+k-(lo+k-(lo+l))=lo+l by omega];have hlo':∀ i,lo≤i→i<lo+l→O.kle (KA key (arrOf st'') i) (KA key (arrOf st'') (lo+k)):=fun i a b=>by
    have:=hlo (i-lo) (by omega)
    rwa [show lo+(i-lo)=i by omega] at this
   have hhi':∀ i,lo+l≤i→i<lo+k→O.klt (KA key (arrOf st'') (lo+k)) (KA key (arrOf st'') i):=fun i a b=>by
    have:=hhi (i-lo) (by omega) (by omega)
    rwa [show lo+(i-lo)=i by omega] at this
   repeat' split
   all_goals first
    | (exfalso;omega)
    | exact KeyOrd.kle_refl _
    | exact hlo' _ (by omega) (by omega)
    | exact KeyOrd.kle_of_klt (hhi' _ (by omega) (by omega))
    | exact hs' _ _ (by omega) (by omega) (by omega)
end
end Ts
namespace Ts
open PySem PyProof.Rows
set_option autoImplicit false
section
variable {M:Model}{A:Around}{E:Value→Shared→Prop}{s:Shared}{a₀:Array Keyed}{knd:SortKind}{O:KeyOrd}{key:Keyed→O.α}
theorem wpS_galP {P:Nat→Bool}{lf:Bool}{ky:Keyed}{ar:Array Keyed}{bs nn hn:Nat}{st:SortSt}{Q:Option Nat→SortSt→Prop}(hk:kindOf st=knd)
  (hb:∀ i,i<nn→∀ (st:SortSt) (Q:Option Bool→SortSt→Prop),kindOf st=knd→Q (some (P i)) st →
   wpS M A E s (do let xx ← elem' ar (bs+i);if lf then lt' xx ky else return (← lt' ky xx).map (!·)) Q st)
  (hP:∀ i j,i≤j→j<nn→P j=true→P i=true) (hh:hn<nn)
  (h:∀ k,k≤nn→(∀ i,i<k→P i=true)→(∀ i,k≤i→i<nn→P i=false)→Q (some k) st):wpS M A E s (galP lf ky ar bs nn hn) Q st:=by
 rw[galP_eq];have hN:∀ i j,i≤j→j<nn→P i=false→P j=false:=fun i j a b c=>by
  cases e:P j with
  | false=>rfl
  | true=>rw[hP i j a b e] at c;exact absurd c (by simp)
 refine wpS_bind (hb hn hh _ _ hk ?_);cases e:P hn with
 | true =>
  simp only[if_true]
  refine wpS_bind (wpS_mono (wpS_forRange (I:=fun x c st'=>st'=st∧∃ la o,c=(none,la,o)∧la<o∧x+1≤o∧hn+la<nn∧P (hn+la)=true)
   (Q:=fun c st'=>st'=st∧∃ la o,c=(none,la,o)∧la<o∧hn+la<nn∧P (hn+la)=true∧(nn-hn≤o∨(o<nn-hn∧P (hn+o)=false))) ?step ?fin ⟨rfl,0,1,rfl,by omega,by omega,hh,e⟩) ?post)
  case fin =>
   rintro c st' ⟨rfl,la,o,rfl,h1,h2,h3,h4⟩;exact⟨rfl,la,o,rfl,h1,h3,h4,.inl (by omega)⟩
  case step =>
   rintro x c st' _ hx ⟨rfl,la,o,rfl,h1,h2,h3,h4⟩;dsimp only;by_cases hge:o≥nn-hn
   ·rw[if_pos hge];exact wpS_pure ⟨rfl,la,o,rfl,h1,h3,h4,.inl hge⟩
   ·rw[if_neg hge];refine wpS_bind (hb (hn+o) (by omega) _ _ hk ?_);cases e2:P (hn+o) with
    | true =>
     simp only[Bool.not_true,Bool.false_eq_true,if_false];exact wpS_pure ⟨rfl,o,_,rfl,by omega,by omega,by omega,e2⟩
    | false =>
     simp only[Bool.not_false,if_true];exact wpS_pure ⟨rfl,la,o,rfl,h1,h3,h4,.inr ⟨by omega,e2⟩⟩
  case post =>
   rintro c st' ⟨rfl,la,o,rfl,h1,h3,h4,h5⟩;dsimp only;have hT:∀ i,i<(hn+la+1)→P i=true:=fun i hi=>hP i (hn+la) (by omega) h3 h4
   have hF:∀ i,(hn+min o (nn-hn))≤i→i<nn→P i=false:=fun i hi hin=>by
    rcases h5 with h5 | ⟨h5,h6⟩
    ·omega
    ·exact hN (hn+o) i (by omega) hin h6
   refine wpS_bind (wpS_mono (wpS_forRange (I:=fun x c st''=>st''=st'∧∃ l r,c=(none,l,r)∧l≤r∧r≤nn∧r-l≤nn-x∧(∀ i,i<l→P i=true)∧(∀ i,r≤i→i<nn→P i=false))
    (Q:=fun c st''=>st''=st'∧∃ l,c=(none,l,l)∧l≤nn∧(∀ i,i<l→P i=true)∧(∀ i,l≤i→i<nn→P i=false)) ?step2 ?fin2 ⟨rfl,(hn+la+1),(hn+min o (nn-hn)),rfl,by omega,by omega,by omega,hT,hF⟩) ?post2)
   case fin2 =>
    rintro c st'' ⟨rfl,l,r,rfl,h1,h2,h3,h4,h5⟩;have:l=r:=by omega
    subst this;exact⟨rfl,l,rfl,h2,h4,h5⟩
   case post2 =>
    rintro c st'' ⟨rfl,l,rfl,h2,h4,h5⟩;exact wpS_pure (h l h2 h4 h5)
   case step2 =>
    rintro x c st'' _ hx ⟨rfl,l,r,rfl,h1,h2,h3,h4,h5⟩;dsimp only;by_cases hge:l≥r
    ·rw[if_pos hge];have:l=r:=by omega
     subst this;exact wpS_pure ⟨rfl,l,rfl,h2,h4,h5⟩
    ·rw[if_neg hge];refine wpS_bind (hb (l+(r-l) / 2) (by omega) _ _ hk ?_);cases e:P (l+(r-l) / 2) with
     | true =>
      simp only[if_true];exact wpS_pure ⟨rfl,_,r,rfl,by omega,h2,by omega,fun i hi=>hP i _ (by omega) (by omega) e,h5⟩
     | false =>
      simp only[Bool.false_eq_true,if_false];exact wpS_pure ⟨rfl,l,_,rfl,by omega,by omega,by omega,h4,fun i a b=>hN _ i a b e⟩
 | false =>
  simp only[Bool.false_eq_true,if_false]
  refine wpS_bind (wpS_mono (wpS_forRange (I:=fun x c st'=>st'=st∧∃ la o,c=(none,la,o)∧la<o∧x+1≤o∧la≤hn∧P (hn-la)=false)
   (Q:=fun c st'=>st'=st∧∃ la o,c=(none,la,o)∧la<o∧la≤hn∧P (hn-la)=false∧(hn+1≤o∨(o≤hn∧P (hn-o)=true))) ?step ?fin ⟨rfl,0,1,rfl,by omega,by omega,by omega,e⟩) ?post)
  case fin =>
   rintro c st' ⟨rfl,la,o,rfl,h1,h2,h3,h4⟩;exact⟨rfl,la,o,rfl,h1,h3,h4,.inl (by omega)⟩
  case step =>
   rintro x c st' _ hx ⟨rfl,la,o,rfl,h1,h2,h3,h4⟩;dsimp only;by_cases hge:o≥hn+1
   ·rw[if_pos hge];exact wpS_pure ⟨rfl,la,o,rfl,h1,h3,h4,.inl hge⟩
   ·rw[if_neg hge];refine wpS_bind (hb (hn-o) (by omega) _ _ hk ?_);cases e2:P (hn-o) with
    | true =>
     simp only[if_true];exact wpS_pure ⟨rfl,la,o,rfl,h1,h3,h4,.inr ⟨by omega,e2⟩⟩
    | false =>
     simp only[Bool.false_eq_true,if_false];exact wpS_pure ⟨rfl,o,_,rfl,by omega,by omega,by omega,e2⟩
  case post =>
   rintro c st' ⟨rfl,la,o,rfl,h1,h3,h4,h5⟩;dsimp only;have hT:∀ i,i<(hn+1-min o (hn+1))→P i=true:=fun i hi=>by
    rcases h5 with h5 | ⟨h5,h6⟩
    ·omega
    ·exact hP i (hn-o) (by omega) (by omega) h6
   have hF:∀ i,(hn-la)≤i→i<nn→P i=false:=fun i hi hin=>hN (hn-la) i hi hin h4
   refine wpS_bind (wpS_mono (wpS_forRange (I:=fun x c st''=>st''=st'∧∃ l r,c=(none,l,r)∧l≤r∧r≤nn∧r-l≤nn-x∧(∀ i,i<l→P i=true)∧(∀ i,r≤i→i<nn→P i=false))
    (Q:=fun c st''=>st''=st'∧∃ l,c=(none,l,l)∧l≤nn∧(∀ i,i<l→P i=true)∧(∀ i,l≤i→i<nn→P i=false)) ?step2 ?fin2 ⟨rfl,(hn+1-min o (hn+1)),(hn-la),rfl,by omega,by omega,by omega,hT,hF⟩) ?post2)
   case fin2 =>
    rintro c st'' ⟨rfl,l,r,rfl,h1,h2,h3,h4,h5⟩;have:l=r:=by omega
    subst this;exact⟨rfl,l,rfl,h2,h4,h5⟩
   case post2 =>
    rintro c st'' ⟨rfl,l,rfl,h2,h4,h5⟩;exact wpS_pure (h l h2 h4 h5)
   case step2 =>
    rintro x c st'' _ hx ⟨rfl,l,r,rfl,h1,h2,h3,h4,h5⟩;dsimp only;by_cases hge:l≥r
    ·rw[if_pos hge];have:l=r:=by omega
     subst this;exact wpS_pure ⟨rfl,l,rfl,h2,h4,h5⟩
    ·rw[if_neg hge];refine wpS_bind (hb (l+(r-l) / 2) (by omega) _ _ hk ?_);cases e:P (l+(r-l) / 2) with
     | true =>
      simp only[if_true];exact wpS_pure ⟨rfl,_,r,rfl,by omega,h2,by omega,fun i hi=>hP i _ (by omega) (by omega) e,h5⟩
     | false =>
      simp only[Bool.false_eq_true,if_false];exact wpS_pure ⟨rfl,l,_,rfl,by omega,by omega,by omega,h4,fun i a b=>hN _ i a b e⟩
theorem wpS_galR {ky:Keyed}{ar:Array Keyed}{bs nn hn:Nat}{st:SortSt}{Q:Option Nat→SortSt→Prop}(C:Cmp M A E s knd O key a₀)(hk:kindOf st=knd)(hm:ky∈a₀.toList)
  (ha:∀ i,i<nn→el ar (bs+i)∈a₀.toList) (hsz:bs+nn≤ar.size) (hs:Seg key ar bs (bs+nn)) (hh:hn<nn)
  (h:∀ k,k≤nn→(∀ i,bs≤i→i<bs+k→O.kle (KA key ar i) (key ky))→(∀ i,bs+k≤i→i<bs+nn→O.klt (key ky) (KA key ar i))→Q (some k) st):wpS M A E s (galP false ky ar bs nn hn) Q st:=by
 refine wpS_galP (P:=fun i=>!O.blt (key ky) (KA key ar (bs+i))) hk (fun i hi st Q hk q=>?_) (fun i j hij hj e=>?_) hh fun k hk1 h1 h2=>?_
 ·refine wpS_bind (wpS_elem (by omega) ?_);simp only[Bool.false_eq_true,if_false];exact wpS_bind (C _ hm _ (ha i hi) st _ hk (wpS_pure q))
 ·have e':O.kle (KA key ar (bs+j)) (key ky):=by simpa [KeyOrd.kle] using e
  have:=KeyOrd.kle_trans (hs (bs+i) (bs+j) (by omega) (by omega) (by omega)) e';simpa [KeyOrd.kle] using this
 ·refine h k hk1 (fun i a b=>?_) fun i a b=>?_
  ·have:=h1 (i-bs) (by omega);rw[show bs+(i-bs)=i by omega] at this;simpa [KeyOrd.kle] using this
  ·have:=h2 (i-bs) (by omega) (by omega);rw[show bs+(i-bs)=i by omega] at this;simpa [KeyOrd.klt] using this
theorem wpS_galL {ky:Keyed}{ar:Array Keyed}{bs nn hn:Nat}{st:SortSt}{Q:Option Nat→SortSt→Prop}(C:Cmp M A E s knd O key a₀)(hk:kindOf st=knd)(hm:ky∈a₀.toList)
  (ha:∀ i,i<nn→el ar (bs+i)∈a₀.toList) (hsz:bs+nn≤ar.size) (hs:Seg key ar bs (bs+nn)) (hh:hn<nn)
  (h:∀ k,k≤nn→(∀ i,bs≤i→i<bs+k→O.klt (KA key ar i) (key ky))→(∀ i,bs+k≤i→i<bs+nn→O.kle (key ky) (KA key ar i))→Q (some k) st):wpS M A E s (galP true ky ar bs nn hn) Q st:=by
 refine wpS_galP (P:=fun i=>O.blt (KA key ar (bs+i)) (key ky)) hk (fun i hi st Q hk q=>?_) (fun i j hij hj e=>?_) hh fun k hk1 h1 h2=>?_
 ·refine wpS_bind (wpS_elem (by omega) ?_);simp only[if_true];exact C _ (ha i hi) _ hm st _ hk q
 ·exact KeyOrd.klt_of_kle_of_klt (hs (bs+i) (bs+j) (by omega) (by omega) (by omega)) e
 ·refine h k hk1 (fun i a b=>?_) fun i a b=>?_
  ·have:=h1 (i-bs) (by omega)
   rwa [show bs+(i-bs)=i by omega] at this
  ·have:=h2 (i-bs) (by omega) (by omega)
   rwa [show bs+(i-bs)=i by omega] at this
end
end Ts
namespace Ts
open PySem PyProof.Rows
set_option autoImplicit false
theorem toList_el {a:Array Keyed}{k:Nat}(h:k<a.size):a.toList[k]?=some (el a k):=by
 rw[Array.getElem?_toList];exact el_some h
theorem take_succ_el {a:Array Keyed}{i:Nat}(h:i<a.size):a.toList.take (i+1)=a.toList.take i++[el a i]:=by
 rw[List.take_add_one,toList_el h];rfl
theorem drop_el {a:Array Keyed}{i:Nat}(h:i<a.size):a.toList.drop i=el a i::a.toList.drop (i+1):=by
 have hl:i<a.toList.length:=by simpa using h
 rw[List.drop_eq_getElem_cons hl];congr 1;have:=toList_el h;rw[List.getElem?_eq_getElem hl] at this;exact Option.some.inj this
theorem mem_drop_el {a:Array Keyed}{i:Nat}{y:Keyed}(h:y∈a.toList.drop i):∃ k,i≤k∧k<a.size∧y=el a k:=by
 obtain⟨n,hn⟩:=List.mem_iff_getElem?.mp h;rw[List.getElem?_drop] at hn;have hlt:i+n<a.size:=by
  have:=(List.getElem?_eq_some_iff.mp hn).1;simpa using this
 rw[toList_el hlt] at hn;exact⟨i+n,by omega,hlt,(Option.some.inj hn).symm⟩
theorem mem_take_el {a:Array Keyed}{i:Nat}{y:Keyed}(h:y∈a.toList.take i):∃ k,k<i∧k<a.size∧y=el a k:=by
 obtain⟨n,hn⟩:=List.mem_iff_getElem?.mp h;by_cases hi:n<i
 ·rw[List.getElem?_take_of_lt hi] at hn;have hlt:n<a.size:=by
   have:=(List.getElem?_eq_some_iff.mp hn).1;simpa using this
  rw[toList_el hlt] at hn;exact⟨n,hi,hlt,(Option.some.inj hn).symm⟩
 ·rw[List.getElem?_take_eq_none (by omega)] at hn;cases hn
theorem ext_end (a:Array Keyed)(i:Nat):(a.extract i a.size).toList=a.toList.drop i:=by
 rw[Array.toList_extract,List.extract_eq_take_drop,List.take_of_length_le (by simp)]
theorem ext_top (a:Array Keyed)(i:Nat):(a.extract 0 i).toList=a.toList.take i:=by
 rw[Array.toList_extract,List.extract_eq_take_drop];simp
theorem ext_mid {a:Array Keyed}{i k:Nat}(h:i+k<a.size):(a.extract i (i+(k+1))).toList=(a.extract i (i+k)).toList++[el a (i+k)]:=by
 rw[Array.toList_extract,List.extract_eq_take_drop,Array.toList_extract,List.extract_eq_take_drop,show i+(k+1)-i=k+1 by omega,show i+k-i=k by omega,List.take_add_one,List.getElem?_drop,toList_el h];rfl
theorem ext_low {a:Array Keyed}{p i:Nat}(h:p<i)(hi:i≤a.size):(a.extract p i).toList=el a p::(a.extract (p+1) i).toList:=by
 rw[Array.toList_extract,List.extract_eq_take_drop,Array.toList_extract,List.extract_eq_take_drop,drop_el (by omega),show i-p=(i-(p+1))+1 by omega,List.take_succ_cons]
section
variable {O:KeyOrd}{key:Keyed→O.α}
def le {O:KeyOrd}(key:Keyed→O.α)(p q:Keyed):Prop:=O.kle (key p) (key q)
theorem pw_of_seg {a:Array Keyed}(h:Seg key a 0 a.size):a.toList.Pairwise (le key):=by
 rw[List.pairwise_iff_getElem];intro i j hi hj hij;have hi':i<a.size:=by simpa using hi
 have hj':j<a.size:=by simpa using hj
 have e1:=toList_el hi';rw[List.getElem?_eq_getElem hi] at e1;have e2:=toList_el hj';rw[List.getElem?_eq_getElem hj] at e2;rw[Option.some.inj e1,Option.some.inj e2];exact h i j (by omega) (by omega) hj'
theorem seg_of_pw {a:Array Keyed}(h:a.toList.Pairwise (le key)):Seg key a 0 a.size:=by
 rw[List.pairwise_iff_getElem] at h;intro i j _ hij hj;by_cases e:i=j
 ·subst e;exact KeyOrd.kle_refl _
 ·have hi':i<a.size:=by omega
  have hi:i<a.toList.length:=by simpa using hi'
  have hj2:j<a.toList.length:=by simpa using hj
  have e1:=toList_el hi';rw[List.getElem?_eq_getElem hi] at e1;have e2:=toList_el hj;rw[List.getElem?_eq_getElem hj2] at e2;have:=h i j hi hj2 (by omega);rw[Option.some.inj e1,Option.some.inj e2] at this;exact this
def Res {O:KeyOrd}(key:Keyed→O.α)(a b m:Array Keyed):Prop:=m.toList.Perm (a.toList++b.toList)∧m.toList.Pairwise (le key)
structure GLo {O:KeyOrd}(key:Keyed→O.α)(a b o:Array Keyed)(i j:Nat):Prop where
 hi:i≤a.size
 hj:j≤b.size
 sz:o.size=i+j
 pm:o.toList.Perm (a.toList.take i++b.toList.take j)
 so:o.toList.Pairwise (le key)
 la:∀ x∈o.toList,∀ k,i≤k→k<a.size→le key x (el a k)
 lb:∀ x∈o.toList,∀ k,j≤k→k<b.size→le key x (el b k)
variable {a b o:Array Keyed}{i j:Nat}
theorem GLo.pushB (g:GLo key a b o i j)(sb:Seg key b 0 b.size)(h:j<b.size)(hl:∀ k,i≤k→k<a.size→le key (el b j) (el a k)):GLo key a b (o.push (el b j)) i (j+1) where
 hi:=g.hi
 hj:=h
 sz:=by rw[Array.size_push,g.sz];omega
 pm:=by
  rw[Array.toList_push,take_succ_el h,← List.append_assoc];exact g.pm.append_right _
 so:=by
  rw[Array.toList_push,List.pairwise_append];refine⟨g.so,List.pairwise_singleton _ _,fun x hx y hy=>?_⟩;rw[List.mem_singleton.mp hy];exact g.lb x hx j (Nat.le_refl _) h
 la:=fun x hx k h1 h2=>by
  rw[Array.toList_push,List.mem_append,List.mem_singleton] at hx;rcases hx with hx | rfl
  ·exact g.la x hx k h1 h2
  ·exact hl k h1 h2
 lb:=fun x hx k h1 h2=>by
  rw[Array.toList_push,List.mem_append,List.mem_singleton] at hx;rcases hx with hx | rfl
  ·exact g.lb x hx k (by omega) h2
  ·exact sb j k (by omega) (by omega) h2
theorem GLo.pushA (g:GLo key a b o i j)(sa:Seg key a 0 a.size)(h:i<a.size)(hl:∀ k,j≤k→k<b.size→le key (el a i) (el b k)):GLo key a b (o.push (el a i)) (i+1) j where
 hi:=h
 hj:=g.hj
 sz:=by rw[Array.size_push,g.sz];omega
 pm:=by
  rw[Array.toList_push,take_succ_el h];refine (g.pm.append_right _).trans ?_;rw[List.append_assoc,List.append_assoc];exact List.perm_append_comm.append_left _
 so:=by
  rw[Array.toList_push,List.pairwise_append];refine⟨g.so,List.pairwise_singleton _ _,fun x hx y hy=>?_⟩;rw[List.mem_singleton.mp hy];exact g.la x hx i (Nat.le_refl _) h
 la:=fun x hx k h1 h2=>by
  rw[Array.toList_push,List.mem_append,List.mem_singleton] at hx;rcases hx with hx | rfl
  ·exact g.la x hx k (by omega) h2
  ·exact sa i k (by omega) (by omega) h2
 lb:=fun x hx k h1 h2=>by
  rw[Array.toList_push,List.mem_append,List.mem_singleton] at hx;rcases hx with hx | rfl
  ·exact g.lb x hx k h1 h2
  ·exact hl k h1 h2
theorem app_nil (a o:Array Keyed)(i:Nat):o++a.extract i (i+0)=o:=by
 apply Array.ext';simp
theorem app_succ {a o:Array Keyed}{i k:Nat}(h:i+k<a.size):o++a.extract i (i+(k+1))=(o++a.extract i (i+k)).push (el a (i+k)):=by
 apply Array.ext';rw[Array.toList_append,ext_mid h,Array.toList_push,Array.toList_append,List.append_assoc]
theorem GLo.appA (g:GLo key a b o i j)(sa:Seg key a 0 a.size):∀ k,i+k≤a.size→(∀ m,i≤m→m<i+k→∀ n,j≤n→n<b.size→le key (el a m) (el b n))→GLo key a b (o++a.extract i (i+k)) (i+k) j
 | 0,_,_=>by rw[app_nil];exact g
 | k+1,h,hl=>by
  rw[app_succ (by omega)];exact (GLo.appA g sa k (by omega) fun m h1 h2=>hl m h1 (by omega)).pushA sa (by omega) fun n h1 h2=>hl (i+k) (by omega) (by omega) n h1 h2
theorem GLo.appB (g:GLo key a b o i j)(sb:Seg key b 0 b.size):∀ k,j+k≤b.size→(∀ m,j≤m→m<j+k→∀ n,i≤n→n<a.size→le key (el b m) (el a n))→GLo key a b (o++b.extract j (j+k)) i (j+k)
 | 0,_,_=>by rw[app_nil];exact g
 | k+1,h,hl=>by
  rw[app_succ (by omega)];exact (GLo.appB g sb k (by omega) fun m h1 h2=>hl m h1 (by omega)).pushB sb (by omega) fun n h1 h2=>hl (j+k) (by omega) (by omega) n h1 h2
theorem pw_drop {a:Array Keyed}(h:Seg key a 0 a.size)(i:Nat):(a.toList.drop i).Pairwise (le key):=(pw_of_seg h).sublist (List.drop_sublist _ _)
theorem pw_take {a:Array Keyed}(h:Seg key a 0 a.size)(i:Nat):(a.toList.take i).Pairwise (le key):=(pw_of_seg h).sublist (List.take_sublist _ _)
theorem perm4 {α:Type}(A B C D:List α):(A++B++(C++D)).Perm (A++C++(B++D)):=by
 rw[List.append_assoc,List.append_assoc];refine List.Perm.append_left A ?_;rw[← List.append_assoc,← List.append_assoc];exact List.perm_append_comm.append_right D
theorem GLo.done (g:GLo key a b o i j)(sa:Seg key a 0 a.size)(sb:Seg key b 0 b.size)(h:i=a.size∨j=b.size):Res key a b (o++a.extract i a.size++b.extract j b.size):=by
 unfold Res;rw[Array.toList_append,Array.toList_append,ext_end,ext_end];refine⟨?_,?_⟩
 ·rw[List.append_assoc];refine (g.pm.append_right _).trans ((perm4 _ _ _ _).trans ?_);rw[List.take_append_drop,List.take_append_drop]
 ·rw[List.append_assoc,List.pairwise_append];refine⟨g.so,?_,fun x hx y hy=>?_⟩
  ·rcases h with h | h
   ·rw[h,List.drop_of_length_le (by simp)];exact pw_drop sb j
   ·rw[h,List.drop_of_length_le (l:=b.toList) (by simp),List.append_nil];exact pw_drop sa i
  ·rcases List.mem_append.mp hy with hy | hy
   ·obtain⟨k,h1,h2,rfl⟩:=mem_drop_el hy;exact g.la x hx k h1 h2
   ·obtain⟨k,h1,h2,rfl⟩:=mem_drop_el hy;exact g.lb x hx k h1 h2
theorem GLo.last (g:GLo key a b o i j)(sb:Seg key b 0 b.size)(h:i+1=a.size)(hl:∀ k,j≤k→k<b.size→le key (el b k) (el a i)):Res key a b (o++b.extract j b.size++a.extract i a.size):=by
 unfold Res;rw[Array.toList_append,Array.toList_append,ext_end,ext_end];have ed:a.toList.drop i=[el a i]:=by rw[drop_el (by omega),List.drop_of_length_le (by simp;omega)]
 refine⟨?_,?_⟩
 ·rw[List.append_assoc];refine (g.pm.append_right _).trans ((List.perm_append_comm.append_left _).trans ((perm4 _ _ _ _).trans ?_));rw[List.take_append_drop,List.take_append_drop]
 ·rw[List.append_assoc,List.pairwise_append,ed];refine⟨g.so,?_,fun x hx y hy=>?_⟩
  ·rw[List.pairwise_append];refine⟨pw_drop sb j,List.pairwise_singleton _ _,fun x hx y hy=>?_⟩;obtain⟨k,h1,h2,rfl⟩:=mem_drop_el hx;rw[List.mem_singleton.mp hy];exact hl k h1 h2
  ·rcases List.mem_append.mp hy with hy | hy
   ·obtain⟨k,h1,h2,rfl⟩:=mem_drop_el hy;exact g.lb x hx k h1 h2
   ·rw[List.mem_singleton.mp hy];exact g.la x hx i (Nat.le_refl _) (by omega)
structure GHi {O:KeyOrd}(key:Keyed→O.α)(a b o:Array Keyed)(i j:Nat):Prop where
 hi:i≤a.size
 hj:j≤b.size
 sz:o.size+i+j=a.size+b.size
 pm:o.toList.Perm (a.toList.drop i++b.toList.drop j)
 so:o.toList.Pairwise fun p q=>le key q p
 la:∀ x∈o.toList,∀ k,k<i→le key (el a k) x
 lb:∀ x∈o.toList,∀ k,k<j→le key (el b k) x
theorem GHi.pushA (g:GHi key a b o (i+1) j)(sa:Seg key a 0 a.size)(hl:∀ k,k<j→le key (el b k) (el a i)):GHi key a b (o.push (el a i)) i j where
 hi:=by have:=g.hi;omega
 hj:=g.hj
 sz:=by rw[Array.size_push];have:=g.sz;omega
 pm:=by
  rw[Array.toList_push,drop_el (show i<a.size by have:=g.hi;omega)];refine (List.perm_append_comm).trans ?_;exact List.Perm.cons _ g.pm
 so:=by
  rw[Array.toList_push,List.pairwise_append];refine⟨g.so,List.pairwise_singleton _ _,fun x hx y hy=>?_⟩;rw[List.mem_singleton.mp hy];exact g.la x hx i (by omega)
 la:=fun x hx k h1=>by
  rw[Array.toList_push,List.mem_append,List.mem_singleton] at hx;rcases hx with hx | rfl
  ·exact g.la x hx k (by omega)
  ·exact sa k i (by omega) (by omega) (by have:=g.hi;omega)
 lb:=fun x hx k h1=>by
  rw[Array.toList_push,List.mem_append,List.mem_singleton] at hx;rcases hx with hx | rfl
  ·exact g.lb x hx k h1
  ·exact hl k h1
theorem GHi.pushB (g:GHi key a b o i (j+1))(sb:Seg key b 0 b.size)(hl:∀ k,k<i→le key (el a k) (el b j)):GHi key a b (o.push (el b j)) i j where
 hi:=g.hi
 hj:=by have:=g.hj;omega
 sz:=by rw[Array.size_push];have:=g.sz;omega
 pm:=by
  rw[Array.toList_push,drop_el (show j<b.size by have:=g.hj;omega)];refine (g.pm.append_right _).trans ?_;rw[List.append_assoc];exact List.Perm.append_left _ List.perm_append_comm
 so:=by
  rw[Array.toList_push,List.pairwise_append];refine⟨g.so,List.pairwise_singleton _ _,fun x hx y hy=>?_⟩;rw[List.mem_singleton.mp hy];exact g.lb x hx j (by omega)
 la:=fun x hx k h1=>by
  rw[Array.toList_push,List.mem_append,List.mem_singleton] at hx;rcases hx with hx | rfl
  ·exact g.la x hx k h1
  ·exact hl k h1
 lb:=fun x hx k h1=>by
  rw[Array.toList_push,List.mem_append,List.mem_singleton] at hx;rcases hx with hx | rfl
  ·exact g.lb x hx k (by omega)
  ·exact sb k j (by omega) (by omega) (by have:=g.hj;omega)
theorem rev_nil (a o:Array Keyed)(p:Nat):o++(a.extract p p).reverse=o:=by
 apply Array.ext';simp
theorem rev_succ {a o:Array Keyed}{p i:Nat}(h:p<i)(hi:i≤a.size):o++(a.extract p i).reverse=(o++(a.extract (p+1) i).reverse).push (el a p):=by
 apply Array.ext';rw[Array.toList_append,Array.toList_reverse,ext_low h hi,Array.toList_push,Array.toList_append,Array.toList_reverse,List.reverse_cons,List.append_assoc]
theorem GHi.appA (g:GHi key a b o i j)(sa:Seg key a 0 a.size):∀ d p,p+d=i→(∀ m,p≤m→m<i→∀ k,k<j→le key (el b k) (el a m))→GHi key a b (o++(a.extract p i).reverse) p j
 | 0,p,h,_=>by
  have:p=i:=by omega
  subst this;rw[rev_nil];exact g
 | d+1,p,h,hl=>by
  rw[rev_succ (by omega) g.hi];exact (GHi.appA g sa d (p+1) (by omega) fun m h1 h2=>hl m (by omega) h2).pushA sa fun k hk=>hl p (by omega) (by omega) k hk
theorem GHi.appB (g:GHi key a b o i j)(sb:Seg key b 0 b.size):∀ d p,p+d=j→(∀ m,p≤m→m<j→∀ k,k<i→le key (el a k) (el b m))→GHi key a b (o++(b.extract p j).reverse) i p
 | 0,p,h,_=>by
  have:p=j:=by omega
  subst this;rw[rev_nil];exact g
 | d+1,p,h,hl=>by
  rw[rev_succ (by omega) g.hj];exact (GHi.appB g sb d (p+1) (by omega) fun m h1 h2=>hl m (by omega) h2).pushB sb fun k hk=>hl p (by omega) (by omega) k hk
theorem GHi.done (g:GHi key a b o i j)(sa:Seg key a 0 a.size)(sb:Seg key b 0 b.size)(h:i=0∨j=0):Res key a b (a.extract 0 i++b.extract 0 j++o.reverse):=by
 unfold Res;rw[Array.toList_append,Array.toList_append,ext_top,ext_top,Array.toList_reverse];refine⟨?_,?_⟩
 ·refine (((List.reverse_perm _).trans g.pm).append_left _).trans ((perm4 _ _ _ _).trans ?_);rw[List.take_append_drop,List.take_append_drop]
 ·rw[List.pairwise_append];refine⟨?_,List.pairwise_reverse.mpr g.so,fun x hx y hy=>?_⟩
  ·rcases h with h | h
   ·rw[h,List.take_zero,List.nil_append];exact pw_take sb j
   ·rw[h,List.take_zero,List.append_nil];exact pw_take sa i
  ·rw[List.mem_reverse] at hy;rcases List.mem_append.mp hx with hx | hx
   ·obtain⟨k,h1,h2,rfl⟩:=mem_take_el hx;exact g.la y hy k h1
   ·obtain⟨k,h1,h2,rfl⟩:=mem_take_el hx;exact g.lb y hy k h1
theorem GHi.first (g:GHi key a b o i j)(sa:Seg key a 0 a.size)(h:j=1)(hl:∀ k,k<i→le key (el b 0) (el a k)):Res key a b (b.extract 0 j++a.extract 0 i++o.reverse):=by
 subst h;unfold Res;rw[Array.toList_append,Array.toList_append,ext_top,ext_top,Array.toList_reverse];refine⟨?_,?_⟩
 ·refine (((List.reverse_perm _).trans g.pm).append_left _).trans ((List.perm_append_comm.append_right _).trans ((perm4 _ _ _ _).trans ?_));rw[List.take_append_drop,List.take_append_drop]
 ·rw[List.pairwise_append];refine⟨?_,List.pairwise_reverse.mpr g.so,fun x hx y hy=>?_⟩
  ·rw[List.pairwise_append];refine⟨?_,pw_take sa i,fun x hx y hy=>?_⟩
   ·rw[take_succ_el g.hj,List.take_zero];exact List.pairwise_singleton _ _
   ·obtain⟨k,h1,h2,rfl⟩:=mem_take_el hx;obtain⟨k',h1',h2',rfl⟩:=mem_take_el hy;have:k=0:=by omega
    subst this;exact hl k' h1'
  ·rw[List.mem_reverse] at hy;rcases List.mem_append.mp hx with hx | hx
   ·obtain⟨k,h1,h2,rfl⟩:=mem_take_el hx;exact g.lb y hy k h1
   ·obtain⟨k,h1,h2,rfl⟩:=mem_take_el hx;exact g.la y hy k h1
end
end Ts
namespace Ts
open PySem PyProof.Rows
set_option autoImplicit false
def Sg (st st':SortSt):Prop:=∃ g,st'=SortSt.mk' (kindOf st) (arrOf st) (pendingOf st) g (failedOf st)
theorem Sg.refl (st:SortSt):Sg st st:=⟨gallopOf st,rfl⟩
theorem Sg.kind {st st':SortSt}(h:Sg st st'):kindOf st'=kindOf st:=by obtain⟨g,rfl⟩:=h;rfl
theorem Sg.set {st st':SortSt}(h:Sg st st')(g:Nat):Sg st (SortSt.mk' (kindOf st') (arrOf st') (pendingOf st') g (failedOf st')):=by obtain⟨g',rfl⟩:=h;exact⟨g,rfl⟩
section
variable {M:Model}{A:Around}{E:Value→Shared→Prop}{s:Shared}{a₀:Array Keyed}{knd:SortKind}{O:KeyOrd}{key:Keyed→O.α}
theorem wpS_setGal {g:Nat}{st:SortSt}{Q:Unit→SortSt→Prop}(h:Q () (SortSt.mk' (kindOf st) (arrOf st) (pendingOf st) g (failedOf st))):wpS M A E s (setGal g) Q st:=wpS_modify h
theorem wpS_mLo {a b:Array Keyed}{st:SortSt}{Q:Array Keyed→SortSt→Prop}(C:Cmp M A E s knd O key a₀)(hk:kindOf st=knd)
  (ma:∀ k,k<a.size→el a k∈a₀.toList) (mb:∀ k,k<b.size→el b k∈a₀.toList) (sa:Seg key a 0 a.size) (sb:Seg key b 0 b.size) (ha:1≤a.size) (hb:1≤b.size)
  (h0:∀ k,k<a.size→le key (el b 0) (el a k)) (hl:∀ k,k<b.size→le key (el b k) (el a (a.size-1)))
  (h:∀ m st',Res key a b m→Sg st st'→Q m st'):wpS M A E s (mLo a b) Q st:=by
 rw[mLo_eq];refine wpS_bind (wpS_rule ?_);refine wpS_bind (wpS_elem hb ?_);dsimp only;have G0:GLo key a b #[el b 0] 0 1 :=
  ⟨by omega,hb,rfl,by rw[take_succ_el hb];simp,List.pairwise_singleton _ _,fun x hx k _ h2=>by rw[List.mem_singleton.mp hx];exact h0 k h2,fun x hx k h1 h2=>by rw[List.mem_singleton.mp hx];exact sb 0 k (by omega) (by omega) h2⟩
 by_cases c1:1=b.size
 ·rw[if_pos (by simpa using c1)];exact wpS_pure (h _ _ (G0.done sa sb (.inr c1)) (Sg.refl _))
 rw[if_neg (by simpa using c1)];by_cases c2:0+1=a.size
 ·rw[if_pos (by simpa using c2)];exact wpS_pure (h _ _ (G0.last sb c2 fun k _ h2=>by rw[show (0:Nat)=a.size-1 by omega];exact hl k h2) (Sg.refl _))
 rw[if_neg (by simpa using c2)];refine wpS_bind (wpS_get ?_)
 refine wpS_bind (wpS_mono (wpS_forRange (I:=fun x c st'=>Sg st st'∧∃ o i j mg,c=(none,o,i,j,mg)∧GLo key a b o i j∧i+1<a.size∧j<b.size∧x<o.size)
  (Q:=fun c st'=>Sg st st'∧∃ m,c.fst=some m∧Res key a b m) ?step ?fin ⟨Sg.refl _,_,_,_,_,rfl,G0,by omega,by omega,by simp⟩) ?post)
 case fin =>
  rintro c st' ⟨_,o,i,j,mg,rfl,G,h1,h2,h3⟩;have:=G.sz;omega
 case post =>
  rintro⟨r,c⟩ st' ⟨hg,m,e,hr⟩;cases e;exact wpS_pure (h m st' hr hg)
 case step =>
  rintro x c st1 _ hx ⟨hg,o,i,j,mg,rfl,G,h1,h2,h3⟩;dsimp only
  refine wpS_bind (wpS_mono (wpS_forRange (I:=fun y c st'=>st'=st1∧∃ o i j ac bc,c=(none,o,i,j,ac,bc)∧GLo key a b o i j∧i+1<a.size∧j<b.size∧x<o.size∧(0<y→x+1<o.size))
   (Q:=fun c st'=>st'=st1∧((∃ m,c.fst=some m∧Res key a b m)∨∃ o i j ac bc,c=(none,o,i,j,ac,bc)∧GLo key a b o i j∧i+1<a.size∧j<b.size∧x+1<o.size)) ?s1 ?f1 ⟨rfl,_,_,_,_,_,rfl,G,h1,h2,h3,by omega⟩) ?p1)
  case f1 =>
   rintro c st' ⟨rfl,o,i,j,ac,bc,rfl,G,h1,h2,h3,h4⟩;exact⟨rfl,.inr ⟨o,i,j,ac,bc,rfl,G,h1,h2,h4 (by omega)⟩⟩
  case s1 =>
   rintro y c st' _ hy ⟨rfl,o,i,j,ac,bc,rfl,G,h1,h2,h3,h4⟩;dsimp only;refine wpS_bind (wpS_elem (by omega) ?_);refine wpS_bind (wpS_elem (by omega) ?_);refine wpS_bind (C _ (mb _ (by omega)) _ (ma _ (by omega)) _ _ (hg.kind.trans hk) ?_);cases hw:O.blt (key (el b j)) (key (el a i)) with
   | true =>
    simp only[if_true];refine wpS_bind (wpS_elem (by omega) ?_);have G1:=G.pushB sb h2 fun k a1 a2=>KeyOrd.kle_trans (KeyOrd.kle_of_klt hw) (sa i k (by omega) a1 a2)
    have hz:=G.sz;have hz1:=G1.sz;by_cases e1:j+1=b.size
    ·rw[if_pos (by simpa using e1)];exact wpS_pure ⟨rfl,.inl ⟨_,rfl,G1.done sa sb (.inr e1)⟩⟩
    ·rw[if_neg (by simpa using e1)];split
     ·exact wpS_pure ⟨rfl,.inr ⟨_,_,_,_,_,rfl,G1,by omega,by omega,by omega⟩⟩
     ·exact wpS_pure ⟨rfl,_,_,_,_,_,rfl,G1,by omega,by omega,by omega,fun _=>by omega⟩
   | false =>
    simp only[Bool.false_eq_true,if_false];refine wpS_bind (wpS_elem (by omega) ?_);have hw':O.kle (key (el a i)) (key (el b j)):=hw;have G1:=G.pushA sa (by omega) fun k a1 a2=>KeyOrd.kle_trans hw' (sb j k (by omega) a1 a2)
    have hz:=G.sz;have hz1:=G1.sz;by_cases e1:i+1+1=a.size
    ·rw[if_pos (by simpa using e1)];exact wpS_pure ⟨rfl,.inl ⟨_,rfl,G1.last sb e1 fun k a1 a2=>by rw[show i+1=a.size-1 by omega];exact hl k a2⟩⟩
    ·rw[if_neg (by simpa using e1)];split
     ·exact wpS_pure ⟨rfl,.inr ⟨_,_,_,_,_,rfl,G1,by omega,by omega,by omega⟩⟩
     ·exact wpS_pure ⟨rfl,_,_,_,_,_,rfl,G1,by omega,by omega,by omega,fun _=>by omega⟩
  case p1 =>
   rintro⟨r,c⟩ st' ⟨rfl,⟨m,e,hr⟩ | ⟨o,i,j,ac,bc,e,G,h1,h2,h3⟩⟩
   ·cases e;exact wpS_pure ⟨hg,m,rfl,hr⟩
   ·cases e;dsimp only;refine wpS_bind (wpS_rule ?_)
    refine wpS_bind (wpS_mono (wpS_forRange (I:=fun y c st'=>Sg st st'∧∃ o i j mg ac bc,c=(none,o,i,j,mg,ac,bc)∧GLo key a b o i j∧i+1<a.size∧j<b.size∧x+1<o.size)
     (Q:=fun c st'=>Sg st st'∧((∃ m,c.fst=some m∧Res key a b m)∨∃ o i j mg ac bc,c=(none,o,i,j,mg,ac,bc)∧GLo key a b o i j∧i+1<a.size∧j<b.size∧x+1<o.size)) ?s2 ?f2 ⟨hg,_,_,_,_,_,_,rfl,G,h1,h2,h3⟩) ?p2)
    case f2 =>
     rintro c st' ⟨hg,o,i,j,mg,ac,bc,rfl,G,h1,h2,h3⟩;exact⟨hg,.inr ⟨o,i,j,mg,ac,bc,rfl,G,h1,h2,h3⟩⟩
    case p2 =>
     rintro⟨r,c⟩ st' ⟨hg,⟨m,e,hr⟩ | ⟨o,i,j,mg,ac,bc,e,G,h1,h2,h3⟩⟩
     ·cases e;exact wpS_pure ⟨hg,m,rfl,hr⟩
     ·cases e;dsimp only;refine wpS_bind (wpS_setGal ?_);exact wpS_pure ⟨hg.set _,o,i,j,_,rfl,G,h1,h2,h3⟩
    case s2 =>
     rintro y c st' _ hy ⟨hg,o,i,j,mg,ac,bc,rfl,G,h1,h2,h3⟩;dsimp only;have hz0:=G.sz;by_cases hmg:mg>1
     ·rw[if_pos hmg];refine wpS_bind (wpS_setGal ?_);refine wpS_bind (wpS_elem (by omega) ?_);refine wpS_bind (wpS_galR C (by exact hg.kind.trans hk) (mb _ (by omega)) (fun m hm=>ma _ (by omega)) (by omega) (sa.sub (by omega) (by omega)) (by omega) fun k hkk hle hgt0=>?_);dsimp only;have hgt:∀ m,i+k≤m→m<a.size→O.klt (KA key b j) (KA key a m):=fun m h1 h2=>hgt0 m h1 (by omega)
      by_cases hk0:k>0
      ·rw[if_pos hk0];have G1:=G.appA sa k (by omega) fun m h1 h2 n h3 h4=>KeyOrd.kle_trans (hle m h1 h2) (sb _ n (by omega) h3 h4)
       by_cases e1:i+k+1=a.size
       ·rw[if_pos (by simpa using e1)];exact wpS_pure ⟨hg.set _,.inl ⟨_,rfl,G1.last sb e1 fun m h1 h2=>by rw[show i+k=a.size-1 by omega];exact hl m h2⟩⟩
       ·rw[if_neg (by simpa using e1)];by_cases e2:i+k=a.size
        ·rw[if_pos (by simpa using e2)];exact wpS_pure ⟨hg.set _,.inl ⟨_,rfl,G1.done sa sb (.inl e2)⟩⟩
        ·rw[if_neg (by simpa using e2)];refine wpS_bind (wpS_elem (by omega) ?_);have G2:=G1.pushB sb (by omega) fun m h1 h2=>KeyOrd.kle_of_klt (hgt m h1 h2)
         have hz1:=G1.sz;have hz2:=G2.sz;by_cases e3:j+1=b.size
         ·rw[if_pos (by simpa using e3)];exact wpS_pure ⟨hg.set _,.inl ⟨_,rfl,G2.done sa sb (.inr e3)⟩⟩
         ·rw[if_neg (by simpa using e3)];refine wpS_bind (wpS_elem (by omega) ?_);refine wpS_bind (wpS_galL C (by exact hg.kind.trans hk) (ma _ (by omega)) (fun m hm=>mb _ (by omega)) (by omega) (sb.sub (by omega) (by omega)) (by omega) fun k2 hk2 hlt hge0=>?_);dsimp only;have hge:∀ m,j+1+k2≤m→m<b.size→O.kle (KA key a (i+k)) (KA key b m):=fun m h1 h2=>hge0 m h1 (by omega)
          by_cases hk20:k2>0
          ·rw[if_pos hk20];have G3:=G2.appB sb k2 (by omega) fun m h1 h2 n h3 h4=>KeyOrd.kle_trans (KeyOrd.kle_of_klt (hlt m h1 h2)) (sa _ n (by omega) h3 h4)
           by_cases e5:j+1+k2=b.size
           ·rw[if_pos (by simpa using e5)];exact wpS_pure ⟨hg.set _,.inl ⟨_,rfl,G3.done sa sb (.inr e5)⟩⟩
           ·rw[if_neg (by simpa using e5)];refine wpS_bind (wpS_elem (by omega) ?_);have G4:=G3.pushA sa (by omega) fun k h1 h2=>hge k h1 h2
            by_cases e4:(i+k)+1+1=a.size
            ·rw[if_pos (by simpa using e4)];exact wpS_pure ⟨hg.set _,.inl ⟨_,rfl,G4.last sb e4 fun n h1 h2=>by rw[show (i+k)+1=a.size-1 by omega];exact hl n h2⟩⟩
            ·rw[if_neg (by simpa using e4)];have hz4:=G4.sz;have hz3:=G3.sz;split
             ·exact wpS_pure ⟨hg.set _,.inr ⟨_,_,_,_,_,_,rfl,G4,by omega,by omega,by omega⟩⟩
             ·exact wpS_pure ⟨hg.set _,_,_,_,_,_,_,rfl,G4,by omega,by omega,by omega⟩
          ·rw[if_neg hk20];have hk2z:k2=0:=by omega
           subst hk2z;have G3:=G2;refine wpS_bind (wpS_elem (by omega) ?_);have G4:=G3.pushA sa (by omega) fun k h1 h2=>hge k h1 h2
           by_cases e4:(i+k)+1+1=a.size
           ·rw[if_pos (by simpa using e4)];exact wpS_pure ⟨hg.set _,.inl ⟨_,rfl,G4.last sb e4 fun n h1 h2=>by rw[show (i+k)+1=a.size-1 by omega];exact hl n h2⟩⟩
           ·rw[if_neg (by simpa using e4)];have hz4:=G4.sz;have hz3:=G3.sz;split
            ·exact wpS_pure ⟨hg.set _,.inr ⟨_,_,_,_,_,_,rfl,G4,by omega,by omega,by omega⟩⟩
            ·exact wpS_pure ⟨hg.set _,_,_,_,_,_,_,rfl,G4,by omega,by omega,by omega⟩
      ·rw[if_neg hk0];have hkz:k=0:=by omega
       subst hkz;have G1:=G;refine wpS_bind (wpS_elem (by omega) ?_);have G2:=G1.pushB sb (by omega) fun m h1 h2=>KeyOrd.kle_of_klt (hgt m h1 h2)
       have hz1:=G1.sz;have hz2:=G2.sz;by_cases e3:j+1=b.size
       ·rw[if_pos (by simpa using e3)];exact wpS_pure ⟨hg.set _,.inl ⟨_,rfl,G2.done sa sb (.inr e3)⟩⟩
       ·rw[if_neg (by simpa using e3)];refine wpS_bind (wpS_elem (by omega) ?_);refine wpS_bind (wpS_galL C (by exact hg.kind.trans hk) (ma _ (by omega)) (fun m hm=>mb _ (by omega)) (by omega) (sb.sub (by omega) (by omega)) (by omega) fun k2 hk2 hlt hge0=>?_);dsimp only;have hge:∀ m,j+1+k2≤m→m<b.size→O.kle (KA key a (i)) (KA key b m):=fun m h1 h2=>hge0 m h1 (by omega)
        by_cases hk20:k2>0
        ·rw[if_pos hk20];have G3:=G2.appB sb k2 (by omega) fun m h1 h2 n h3 h4=>KeyOrd.kle_trans (KeyOrd.kle_of_klt (hlt m h1 h2)) (sa _ n (by omega) h3 h4)
         by_cases e5:j+1+k2=b.size
         ·rw[if_pos (by simpa using e5)];exact wpS_pure ⟨hg.set _,.inl ⟨_,rfl,G3.done sa sb (.inr e5)⟩⟩
         ·rw[if_neg (by simpa using e5)];refine wpS_bind (wpS_elem (by omega) ?_);have G4:=G3.pushA sa (by omega) fun k h1 h2=>hge k h1 h2
          by_cases e4:(i)+1+1=a.size
          ·rw[if_pos (by simpa using e4)];exact wpS_pure ⟨hg.set _,.inl ⟨_,rfl,G4.last sb e4 fun n h1 h2=>by rw[show (i)+1=a.size-1 by omega];exact hl n h2⟩⟩
          ·rw[if_neg (by simpa using e4)];have hz4:=G4.sz;have hz3:=G3.sz;split
           ·exact wpS_pure ⟨hg.set _,.inr ⟨_,_,_,_,_,_,rfl,G4,by omega,by omega,by omega⟩⟩
           ·exact wpS_pure ⟨hg.set _,_,_,_,_,_,_,rfl,G4,by omega,by omega,by omega⟩
        ·rw[if_neg hk20];have hk2z:k2=0:=by omega
         subst hk2z;have G3:=G2;refine wpS_bind (wpS_elem (by omega) ?_);have G4:=G3.pushA sa (by omega) fun k h1 h2=>hge k h1 h2
         by_cases e4:(i)+1+1=a.size
         ·rw[if_pos (by simpa using e4)];exact wpS_pure ⟨hg.set _,.inl ⟨_,rfl,G4.last sb e4 fun n h1 h2=>by rw[show (i)+1=a.size-1 by omega];exact hl n h2⟩⟩
         ·rw[if_neg (by simpa using e4)];have hz4:=G4.sz;have hz3:=G3.sz;split
          ·exact wpS_pure ⟨hg.set _,.inr ⟨_,_,_,_,_,_,rfl,G4,by omega,by omega,by omega⟩⟩
          ·exact wpS_pure ⟨hg.set _,_,_,_,_,_,_,rfl,G4,by omega,by omega,by omega⟩
     ·rw[if_neg hmg];refine wpS_bind (wpS_setGal ?_);refine wpS_bind (wpS_elem (by omega) ?_);refine wpS_bind (wpS_galR C (by exact hg.kind.trans hk) (mb _ (by omega)) (fun m hm=>ma _ (by omega)) (by omega) (sa.sub (by omega) (by omega)) (by omega) fun k hkk hle hgt0=>?_);dsimp only;have hgt:∀ m,i+k≤m→m<a.size→O.klt (KA key b j) (KA key a m):=fun m h1 h2=>hgt0 m h1 (by omega)
      by_cases hk0:k>0
      ·rw[if_pos hk0];have G1:=G.appA sa k (by omega) fun m h1 h2 n h3 h4=>KeyOrd.kle_trans (hle m h1 h2) (sb _ n (by omega) h3 h4)
       by_cases e1:i+k+1=a.size
       ·rw[if_pos (by simpa using e1)];exact wpS_pure ⟨hg.set _,.inl ⟨_,rfl,G1.last sb e1 fun m h1 h2=>by rw[show i+k=a.size-1 by omega];exact hl m h2⟩⟩
       ·rw[if_neg (by simpa using e1)];by_cases e2:i+k=a.size
        ·rw[if_pos (by simpa using e2)];exact wpS_pure ⟨hg.set _,.inl ⟨_,rfl,G1.done sa sb (.inl e2)⟩⟩
        ·rw[if_neg (by simpa using e2)];refine wpS_bind (wpS_elem (by omega) ?_);have G2:=G1.pushB sb (by omega) fun m h1 h2=>KeyOrd.kle_of_klt (hgt m h1 h2)
         have hz1:=G1.sz;have hz2:=G2.sz;by_cases e3:j+1=b.size
         ·rw[if_pos (by simpa using e3)];exact wpS_pure ⟨hg.set _,.inl ⟨_,rfl,G2.done sa sb (.inr e3)⟩⟩
         ·rw[if_neg (by simpa using e3)];refine wpS_bind (wpS_elem (by omega) ?_);refine wpS_bind (wpS_galL C (by exact hg.kind.trans hk) (ma _ (by omega)) (fun m hm=>mb _ (by omega)) (by omega) (sb.sub (by omega) (by omega)) (by omega) fun k2 hk2 hlt hge0=>?_);dsimp only;have hge:∀ m,j+1+k2≤m→m<b.size→O.kle (KA key a (i+k)) (KA key b m):=fun m h1 h2=>hge0 m h1 (by omega)
          by_cases hk20:k2>0
          ·rw[if_pos hk20];have G3:=G2.appB sb k2 (by omega) fun m h1 h2 n h3 h4=>KeyOrd.kle_trans (KeyOrd.kle_of_klt (hlt m h1 h2)) (sa _ n (by omega) h3 h4)
           by_cases e5:j+1+k2=b.size
           ·rw[if_pos (by simpa using e5)];exact wpS_pure ⟨hg.set _,.inl ⟨_,rfl,G3.done sa sb (.inr e5)⟩⟩
           ·rw[if_neg (by simpa using e5)];refine wpS_bind (wpS_elem (by omega) ?_);have G4:=G3.pushA sa (by omega) fun k h1 h2=>hge k h1 h2
            by_cases e4:(i+k)+1+1=a.size
            ·rw[if_pos (by simpa using e4)];exact wpS_pure ⟨hg.set _,.inl ⟨_,rfl,G4.last sb e4 fun n h1 h2=>by rw[show (i+k)+1=a.size-1 by omega];exact hl n h2⟩⟩
            ·rw[if_neg (by simpa using e4)];have hz4:=G4.sz;have hz3:=G3.sz;split
             ·exact wpS_pure ⟨hg.set _,.inr ⟨_,_,_,_,_,_,rfl,G4,by omega,by omega,by omega⟩⟩
             ·exact wpS_pure ⟨hg.set _,_,_,_,_,_,_,rfl,G4,by omega,by omega,by omega⟩
          ·rw[if_neg hk20];have hk2z:k2=0:=by omega
           subst hk2z;have G3:=G2;refine wpS_bind (wpS_elem (by omega) ?_);have G4:=G3.pushA sa (by omega) fun k h1 h2=>hge k h1 h2
           by_cases e4:(i+k)+1+1=a.size
           ·rw[if_pos (by simpa using e4)];exact wpS_pure ⟨hg.set _,.inl ⟨_,rfl,G4.last sb e4 fun n h1 h2=>by rw[show (i+k)+1=a.size-1 by omega];exact hl n h2⟩⟩
           ·rw[if_neg (by simpa using e4)];have hz4:=G4.sz;have hz3:=G3.sz;split
            ·exact wpS_pure ⟨hg.set _,.inr ⟨_,_,_,_,_,_,rfl,G4,by omega,by omega,by omega⟩⟩
            ·exact wpS_pure ⟨hg.set _,_,_,_,_,_,_,rfl,G4,by omega,by omega,by omega⟩
      ·rw[if_neg hk0];have hkz:k=0:=by omega
       subst hkz;have G1:=G;refine wpS_bind (wpS_elem (by omega) ?_);have G2:=G1.pushB sb (by omega) fun m h1 h2=>KeyOrd.kle_of_klt (hgt m h1 h2)
       have hz1:=G1.sz;have hz2:=G2.sz;by_cases e3:j+1=b.size
       ·rw[if_pos (by simpa using e3)];exact wpS_pure ⟨hg.set _,.inl ⟨_,rfl,G2.done sa sb (.inr e3)⟩⟩
       ·rw[if_neg (by simpa using e3)];refine wpS_bind (wpS_elem (by omega) ?_);refine wpS_bind (wpS_galL C (by exact hg.kind.trans hk) (ma _ (by omega)) (fun m hm=>mb _ (by omega)) (by omega) (sb.sub (by omega) (by omega)) (by omega) fun k2 hk2 hlt hge0=>?_);dsimp only;have hge:∀ m,j+1+k2≤m→m<b.size→O.kle (KA key a (i)) (KA key b m):=fun m h1 h2=>hge0 m h1 (by omega)
        by_cases hk20:k2>0
        ·rw[if_pos hk20];have G3:=G2.appB sb k2 (by omega) fun m h1 h2 n h3 h4=>KeyOrd.kle_trans (KeyOrd.kle_of_klt (hlt m h1 h2)) (sa _ n (by omega) h3 h4)
         by_cases e5:j+1+k2=b.size
         ·rw[if_pos (by simpa using e5)];exact wpS_pure ⟨hg.set _,.inl ⟨_,rfl,G3.done sa sb (.inr e5)⟩⟩
         ·rw[if_neg (by simpa using e5)];refine wpS_bind (wpS_elem (by omega) ?_);have G4:=G3.pushA sa (by omega) fun k h1 h2=>hge k h1 h2
          by_cases e4:(i)+1+1=a.size
          ·rw[if_pos (by simpa using e4)];exact wpS_pure ⟨hg.set _,.inl ⟨_,rfl,G4.last sb e4 fun n h1 h2=>by rw[show (i)+1=a.size-1 by omega];exact hl n h2⟩⟩
          ·rw[if_neg (by simpa using e4)];have hz4:=G4.sz;have hz3:=G3.sz;split
           ·exact wpS_pure ⟨hg.set _,.inr ⟨_,_,_,_,_,_,rfl,G4,by omega,by omega,by omega⟩⟩
           ·exact wpS_pure ⟨hg.set _,_,_,_,_,_,_,rfl,G4,by omega,by omega,by omega⟩
        ·rw[if_neg hk20];have hk2z:k2=0:=by omega
         subst hk2z;have G3:=G2;refine wpS_bind (wpS_elem (by omega) ?_);have G4:=G3.pushA sa (by omega) fun k h1 h2=>hge k h1 h2
         by_cases e4:(i)+1+1=a.size
         ·rw[if_pos (by simpa using e4)];exact wpS_pure ⟨hg.set _,.inl ⟨_,rfl,G4.last sb e4 fun n h1 h2=>by rw[show (i)+1=a.size-1 by omega];exact hl n h2⟩⟩
         ·rw[if_neg (by simpa using e4)];have hz4:=G4.sz;have hz3:=G3.sz;split
          ·exact wpS_pure ⟨hg.set _,.inr ⟨_,_,_,_,_,_,rfl,G4,by omega,by omega,by omega⟩⟩
          ·exact wpS_pure ⟨hg.set _,_,_,_,_,_,_,rfl,G4,by omega,by omega,by omega⟩
end
end Ts
namespace Ts
open PySem PyProof.Rows
set_option autoImplicit false
section
variable {M:Model}{A:Around}{E:Value→Shared→Prop}{s:Shared}{a₀:Array Keyed}{knd:SortKind}{O:KeyOrd}{key:Keyed→O.α}
theorem GHi.pushA' {a b o:Array Keyed}{i j:Nat}(g:GHi key a b o i j)(h:1≤i)(sa:Seg key a 0 a.size)(hl:∀ k,k<j→le key (el b k) (el a (i-1))):GHi key a b (o.push (el a (i-1))) (i-1) j:=by
 cases i with
 | zero=>omega
 | succ i=>exact GHi.pushA g sa hl
theorem GHi.pushB' {a b o:Array Keyed}{i j:Nat}(g:GHi key a b o i j)(h:1≤j)(sb:Seg key b 0 b.size)(hl:∀ k,k<i→le key (el a k) (el b (j-1))):GHi key a b (o.push (el b (j-1))) i (j-1):=by
 cases j with
 | zero=>omega
 | succ j=>exact GHi.pushB g sb hl
theorem wpS_mHi {a b:Array Keyed}{st:SortSt}{Q:Array Keyed→SortSt→Prop}(C:Cmp M A E s knd O key a₀)(hk:kindOf st=knd)
  (ma:∀ k,k<a.size→el a k∈a₀.toList) (mb:∀ k,k<b.size→el b k∈a₀.toList) (sa:Seg key a 0 a.size) (sb:Seg key b 0 b.size) (ha:1≤a.size) (hb:1≤b.size)
  (h0:∀ k,k<a.size→le key (el b 0) (el a k)) (hl:∀ k,k<b.size→le key (el b k) (el a (a.size-1)))
  (h:∀ m st',Res key a b m→Sg st st'→Q m st'):wpS M A E s (mHi a b) Q st:=by
 rw[mHi_eq];refine wpS_bind (wpS_rule ?_);refine wpS_bind (wpS_elem (by omega) ?_);dsimp only;have G0:GHi key a b #[el a (a.size-1)] (a.size-1) b.size :=
  ⟨by omega,by omega,by show 1+(a.size-1)+b.size=_;omega,by
   rw[drop_el (show a.size-1<a.size by omega),List.drop_of_length_le (show a.toList.length≤a.size-1+1 by simp;omega),List.drop_of_length_le (l:=b.toList) (by simp)];simp,
   List.pairwise_singleton _ _,fun x hx k h1=>by rw[List.mem_singleton.mp hx];exact sa k (a.size-1) (by omega) (by omega) (by omega),fun x hx k h1=>by rw[List.mem_singleton.mp hx];exact hl k h1⟩
 by_cases c1:a.size-1=0
 ·rw[if_pos (by simpa using c1)];exact wpS_pure (h _ _ (G0.done sa sb (.inl c1)) (Sg.refl _))
 rw[if_neg (by simpa using c1)];by_cases c2:b.size=1
 ·rw[if_pos (by simpa using c2)];exact wpS_pure (h _ _ (G0.first sa c2 fun k hk=>h0 k (by omega)) (Sg.refl _))
 rw[if_neg (by simpa using c2)];refine wpS_bind (wpS_get ?_)
 refine wpS_bind (wpS_mono (wpS_forRange (I:=fun x c st'=>Sg st st'∧∃ i j o mg,c=(none,i,j,o,mg)∧GHi key a b o i j∧1≤i∧2≤j∧x<o.size)
  (Q:=fun c st'=>Sg st st'∧∃ m,c.fst=some m∧Res key a b m) ?step ?fin ⟨Sg.refl _,_,_,_,_,rfl,G0,by omega,by omega,by simp⟩) ?post)
 case fin =>
  rintro c st' ⟨_,i,j,o,mg,rfl,G,h1,h2,h3⟩;have:=G.sz;omega
 case post =>
  rintro⟨r,c⟩ st' ⟨hg,m,e,hr⟩;cases e;exact wpS_pure (h m st' hr hg)
 case step =>
  rintro x c st1 _ hx ⟨hg,i,j,o,mg,rfl,G,h1,h2,h3⟩;dsimp only
  refine wpS_bind (wpS_mono (wpS_forRange (I:=fun y c st'=>st'=st1∧∃ i j o ac bc,c=(none,i,j,o,ac,bc)∧GHi key a b o i j∧1≤i∧2≤j∧x<o.size∧(0<y→x+1<o.size))
   (Q:=fun c st'=>st'=st1∧((∃ m,c.fst=some m∧Res key a b m)∨∃ i j o ac bc,c=(none,i,j,o,ac,bc)∧GHi key a b o i j∧1≤i∧2≤j∧x+1<o.size)) ?s1 ?f1 ⟨rfl,_,_,_,_,_,rfl,G,h1,h2,h3,by omega⟩) ?p1)
  case f1 =>
   rintro c st' ⟨rfl,i,j,o,ac,bc,rfl,G,h1,h2,h3,h4⟩;exact⟨rfl,.inr ⟨i,j,o,ac,bc,rfl,G,h1,h2,h4 (by omega)⟩⟩
  case s1 =>
   rintro y c st' _ hy ⟨rfl,i,j,o,ac,bc,rfl,G,h1,h2,h3,h4⟩;dsimp only;refine wpS_bind (wpS_elem (by have:=G.hj;omega) ?_);refine wpS_bind (wpS_elem (by have:=G.hi;omega) ?_);refine wpS_bind (C _ (mb _ (by have:=G.hj;omega)) _ (ma _ (by have:=G.hi;omega)) _ _ (hg.kind.trans hk) ?_);cases hw:O.blt (key (el b (j-1))) (key (el a (i-1))) with
   | true =>
    simp only[if_true];refine wpS_bind (wpS_elem (by have:=G.hi;omega) ?_);have G1:=G.pushA' h1 sa fun k a1=>KeyOrd.kle_trans (sb k (j-1) (by omega) (by omega) (by have:=G.hj;omega)) (KeyOrd.kle_of_klt hw)
    have hz:=G.sz;have hz1:=G1.sz;by_cases e1:i-1=0
    ·rw[if_pos (by simpa using e1)];exact wpS_pure ⟨rfl,.inl ⟨_,rfl,G1.done sa sb (.inl e1)⟩⟩
    ·rw[if_neg (by simpa using e1)];split
     ·exact wpS_pure ⟨rfl,.inr ⟨_,_,_,_,_,rfl,G1,by omega,by omega,by omega⟩⟩
     ·exact wpS_pure ⟨rfl,_,_,_,_,_,rfl,G1,by omega,by omega,by omega,fun _=>by omega⟩
   | false =>
    simp only[Bool.false_eq_true,if_false];refine wpS_bind (wpS_elem (by have:=G.hj;omega) ?_);have hw':O.kle (key (el a (i-1))) (key (el b (j-1))):=hw;have G1:=G.pushB' (by omega) sb fun k a1=>KeyOrd.kle_trans (sa k (i-1) (by omega) (by omega) (by have:=G.hi;omega)) hw'
    have hz:=G.sz;have hz1:=G1.sz;by_cases e1:j-1=1
    ·rw[if_pos (by simpa using e1)];exact wpS_pure ⟨rfl,.inl ⟨_,rfl,G1.first sa e1 fun k a1=>h0 k (by have:=G1.hi;omega)⟩⟩
    ·rw[if_neg (by simpa using e1)];split
     ·exact wpS_pure ⟨rfl,.inr ⟨_,_,_,_,_,rfl,G1,by omega,by omega,by omega⟩⟩
     ·exact wpS_pure ⟨rfl,_,_,_,_,_,rfl,G1,by omega,by omega,by omega,fun _=>by omega⟩
  case p1 =>
   rintro⟨r,c⟩ st' ⟨rfl,⟨m,e,hr⟩ | ⟨i,j,o,ac,bc,e,G,h1,h2,h3⟩⟩
   ·cases e;exact wpS_pure ⟨hg,m,rfl,hr⟩
   ·cases e;dsimp only;refine wpS_bind (wpS_rule ?_)
    refine wpS_bind (wpS_mono (wpS_forRange (I:=fun y c st'=>Sg st st'∧∃ i j o mg ac bc,c=(none,i,j,o,mg,ac,bc)∧GHi key a b o i j∧1≤i∧2≤j∧x+1<o.size)
     (Q:=fun c st'=>Sg st st'∧((∃ m,c.fst=some m∧Res key a b m)∨∃ i j o mg ac bc,c=(none,i,j,o,mg,ac,bc)∧GHi key a b o i j∧1≤i∧2≤j∧x+1<o.size)) ?s2 ?f2 ⟨hg,_,_,_,_,_,_,rfl,G,h1,h2,h3⟩) ?p2)
    case f2 =>
     rintro c st' ⟨hg,i,j,o,mg,ac,bc,rfl,G,h1,h2,h3⟩;exact⟨hg,.inr ⟨i,j,o,mg,ac,bc,rfl,G,h1,h2,h3⟩⟩
    case p2 =>
     rintro⟨r,c⟩ st' ⟨hg,⟨m,e,hr⟩ | ⟨i,j,o,mg,ac,bc,e,G,h1,h2,h3⟩⟩
     ·cases e;exact wpS_pure ⟨hg,m,rfl,hr⟩
     ·cases e;dsimp only;refine wpS_bind (wpS_setGal ?_);exact wpS_pure ⟨hg.set _,i,j,o,_,rfl,G,h1,h2,h3⟩
    case s2 =>
     rintro y c st' _ hy ⟨hg,i,j,o,mg,ac,bc,rfl,G,h1,h2,h3⟩;dsimp only;have hz0:=G.sz;by_cases hmg:mg>1
     ·rw[if_pos hmg];refine wpS_bind (wpS_setGal ?_);refine wpS_bind (wpS_elem (by have:=G.hj;omega) ?_);refine wpS_bind (wpS_galR C (by exact hg.kind.trans hk) (mb _ (by have:=G.hj;omega)) (fun m hm=>by rw[Nat.zero_add];exact ma _ (by have:=G.hi;omega)) (by have:=G.hi;omega) (sa.sub (by omega) (by have:=G.hi;omega)) (by omega) fun p hp hle0 hgt0=>?_);dsimp only;have hle:∀ m,m<p→O.kle (KA key a m) (KA key b (j-1)):=fun m h1=>hle0 m (by omega) (by omega)
      have hgt:∀ m,p≤m→m<i→O.klt (KA key b (j-1)) (KA key a m):=fun m h1 h2=>hgt0 m (by omega) (by omega)
      by_cases hk0:i-p>0
      ·rw[if_pos hk0];have G1:=G.appA sa (i-p) p (by omega) fun m h1 h2 n h3=>KeyOrd.kle_trans (sb n (j-1) (by omega) (by omega) (by have:=G.hj;omega)) (KeyOrd.kle_of_klt (hgt m h1 h2))
       by_cases e1:p=0
       ·rw[if_pos (by simpa using e1)];exact wpS_pure ⟨hg.set _,.inl ⟨_,rfl,G1.done sa sb (.inl e1)⟩⟩
       ·rw[if_neg (by simpa using e1)];have hlo:∀ n,n<p→le key (el a n) (el b (j-1)):=hle;refine wpS_bind (wpS_elem (by have:=G1.hj;omega) ?_);have hz1:=G1.sz;have G2:=G1.pushB' (by omega) sb hlo;have hz2:=G2.sz;by_cases e3:j-1=1
        ·rw[if_pos (by simpa using e3)];exact wpS_pure ⟨hg.set _,.inl ⟨_,rfl,G2.first sa e3 fun m hm=>h0 m (by have:=G2.hi;omega)⟩⟩
        ·rw[if_neg (by simpa using e3)];refine wpS_bind (wpS_elem (by have:=G2.hi;omega) ?_);refine wpS_bind (wpS_galL C (by exact hg.kind.trans hk) (ma _ (by have:=G2.hi;omega)) (fun m hm=>by rw[Nat.zero_add];exact mb _ (by have:=G2.hj;omega)) (by have:=G2.hj;omega) (sb.sub (by omega) (by have:=G2.hj;omega)) (by omega) fun p2 hp2 hlt0 hge0=>?_);dsimp only;have hlt:∀ m,m<p2→O.klt (KA key b m) (KA key a (p-1)):=fun m h1=>hlt0 m (by omega) (by omega)
         have hge:∀ m,p2≤m→m<j-1→O.kle (KA key a (p-1)) (KA key b m):=fun m h1 h2=>hge0 m (by omega) (by omega)
         by_cases hk20:j-1-p2>0
         ·rw[if_pos hk20];have G3:=G2.appB sb (j-1-p2) p2 (by omega) fun m h1 h2 n h3=>KeyOrd.kle_trans (sa n (p-1) (by omega) (by omega) (by have:=G2.hi;omega)) (hge m h1 h2)
          by_cases e5:p2=1
          ·rw[if_pos (by simpa using e5)];exact wpS_pure ⟨hg.set _,.inl ⟨_,rfl,G3.first sa e5 fun m hm=>h0 m (by have:=G3.hi;omega)⟩⟩
          ·rw[if_neg (by simpa using e5)];by_cases e6:p2=0
           ·rw[if_pos (by simpa using e6)];exact wpS_pure ⟨hg.set _,.inl ⟨_,rfl,G3.done sa sb (.inr e6)⟩⟩
           ·rw[if_neg (by simpa using e6)];have hlow:∀ n,n<p2→le key (el b n) (el a (p-1)):=fun n hn=>KeyOrd.kle_of_klt (hlt n hn)
            refine wpS_bind (wpS_elem (by have:=G3.hi;omega) ?_);have hz3:=G3.sz;have G4:=G3.pushA' (by omega) sa hlow;have hz4:=G4.sz;by_cases e4:p-1=0
            ·rw[if_pos (by simpa using e4)];exact wpS_pure ⟨hg.set _,.inl ⟨_,rfl,G4.done sa sb (.inl e4)⟩⟩
            ·rw[if_neg (by simpa using e4)];split
             ·exact wpS_pure ⟨hg.set _,.inr ⟨_,_,_,_,_,_,rfl,G4,by omega,by omega,by omega⟩⟩
             ·exact wpS_pure ⟨hg.set _,_,_,_,_,_,_,rfl,G4,by omega,by omega,by omega⟩
         ·rw[if_neg hk20];have hp2z:p2=j-1:=by omega
          have G3:=G2;have hlow:∀ n,n<j-1→le key (el b n) (el a (p-1)):=fun n hn=>KeyOrd.kle_of_klt (hlt n (by omega))
          refine wpS_bind (wpS_elem (by have:=G3.hi;omega) ?_);have hz3:=G3.sz;have G4:=G3.pushA' (by omega) sa hlow;have hz4:=G4.sz;by_cases e4:p-1=0
          ·rw[if_pos (by simpa using e4)];exact wpS_pure ⟨hg.set _,.inl ⟨_,rfl,G4.done sa sb (.inl e4)⟩⟩
          ·rw[if_neg (by simpa using e4)];split
           ·exact wpS_pure ⟨hg.set _,.inr ⟨_,_,_,_,_,_,rfl,G4,by omega,by omega,by omega⟩⟩
           ·exact wpS_pure ⟨hg.set _,_,_,_,_,_,_,rfl,G4,by omega,by omega,by omega⟩
      ·rw[if_neg hk0];have hpz:p=i:=by omega
       have G1:=G;have hlo:∀ n,n<i→le key (el a n) (el b (j-1)):=fun n hn=>hle n (by omega)
       refine wpS_bind (wpS_elem (by have:=G1.hj;omega) ?_);have hz1:=G1.sz;have G2:=G1.pushB' (by omega) sb hlo;have hz2:=G2.sz;by_cases e3:j-1=1
       ·rw[if_pos (by simpa using e3)];exact wpS_pure ⟨hg.set _,.inl ⟨_,rfl,G2.first sa e3 fun m hm=>h0 m (by have:=G2.hi;omega)⟩⟩
       ·rw[if_neg (by simpa using e3)];refine wpS_bind (wpS_elem (by have:=G2.hi;omega) ?_);refine wpS_bind (wpS_galL C (by exact hg.kind.trans hk) (ma _ (by have:=G2.hi;omega)) (fun m hm=>by rw[Nat.zero_add];exact mb _ (by have:=G2.hj;omega)) (by have:=G2.hj;omega) (sb.sub (by omega) (by have:=G2.hj;omega)) (by omega) fun p2 hp2 hlt0 hge0=>?_);dsimp only;have hlt:∀ m,m<p2→O.klt (KA key b m) (KA key a (i-1)):=fun m h1=>hlt0 m (by omega) (by omega)
        have hge:∀ m,p2≤m→m<j-1→O.kle (KA key a (i-1)) (KA key b m):=fun m h1 h2=>hge0 m (by omega) (by omega)
        by_cases hk20:j-1-p2>0
        ·rw[if_pos hk20];have G3:=G2.appB sb (j-1-p2) p2 (by omega) fun m h1 h2 n h3=>KeyOrd.kle_trans (sa n (i-1) (by omega) (by omega) (by have:=G2.hi;omega)) (hge m h1 h2)
         by_cases e5:p2=1
         ·rw[if_pos (by simpa using e5)];exact wpS_pure ⟨hg.set _,.inl ⟨_,rfl,G3.first sa e5 fun m hm=>h0 m (by have:=G3.hi;omega)⟩⟩
         ·rw[if_neg (by simpa using e5)];by_cases e6:p2=0
          ·rw[if_pos (by simpa using e6)];exact wpS_pure ⟨hg.set _,.inl ⟨_,rfl,G3.done sa sb (.inr e6)⟩⟩
          ·rw[if_neg (by simpa using e6)];have hlow:∀ n,n<p2→le key (el b n) (el a (i-1)):=fun n hn=>KeyOrd.kle_of_klt (hlt n hn)
           refine wpS_bind (wpS_elem (by have:=G3.hi;omega) ?_);have hz3:=G3.sz;have G4:=G3.pushA' (by omega) sa hlow;have hz4:=G4.sz;by_cases e4:i-1=0
           ·rw[if_pos (by simpa using e4)];exact wpS_pure ⟨hg.set _,.inl ⟨_,rfl,G4.done sa sb (.inl e4)⟩⟩
           ·rw[if_neg (by simpa using e4)];split
            ·exact wpS_pure ⟨hg.set _,.inr ⟨_,_,_,_,_,_,rfl,G4,by omega,by omega,by omega⟩⟩
            ·exact wpS_pure ⟨hg.set _,_,_,_,_,_,_,rfl,G4,by omega,by omega,by omega⟩
        ·rw[if_neg hk20];have hp2z:p2=j-1:=by omega
         have G3:=G2;have hlow:∀ n,n<j-1→le key (el b n) (el a (i-1)):=fun n hn=>KeyOrd.kle_of_klt (hlt n (by omega))
         refine wpS_bind (wpS_elem (by have:=G3.hi;omega) ?_);have hz3:=G3.sz;have G4:=G3.pushA' (by omega) sa hlow;have hz4:=G4.sz;by_cases e4:i-1=0
         ·rw[if_pos (by simpa using e4)];exact wpS_pure ⟨hg.set _,.inl ⟨_,rfl,G4.done sa sb (.inl e4)⟩⟩
         ·rw[if_neg (by simpa using e4)];split
          ·exact wpS_pure ⟨hg.set _,.inr ⟨_,_,_,_,_,_,rfl,G4,by omega,by omega,by omega⟩⟩
          ·exact wpS_pure ⟨hg.set _,_,_,_,_,_,_,rfl,G4,by omega,by omega,by omega⟩
     ·rw[if_neg hmg];refine wpS_bind (wpS_setGal ?_);refine wpS_bind (wpS_elem (by have:=G.hj;omega) ?_);refine wpS_bind (wpS_galR C (by exact hg.kind.trans hk) (mb _ (by have:=G.hj;omega)) (fun m hm=>by rw[Nat.zero_add];exact ma _ (by have:=G.hi;omega)) (by have:=G.hi;omega) (sa.sub (by omega) (by have:=G.hi;omega)) (by omega) fun p hp hle0 hgt0=>?_);dsimp only;have hle:∀ m,m<p→O.kle (KA key a m) (KA key b (j-1)):=fun m h1=>hle0 m (by omega) (by omega)
      have hgt:∀ m,p≤m→m<i→O.klt (KA key b (j-1)) (KA key a m):=fun m h1 h2=>hgt0 m (by omega) (by omega)
      by_cases hk0:i-p>0
      ·rw[if_pos hk0];have G1:=G.appA sa (i-p) p (by omega) fun m h1 h2 n h3=>KeyOrd.kle_trans (sb n (j-1) (by omega) (by omega) (by have:=G.hj;omega)) (KeyOrd.kle_of_klt (hgt m h1 h2))
       by_cases e1:p=0
       ·rw[if_pos (by simpa using e1)];exact wpS_pure ⟨hg.set _,.inl ⟨_,rfl,G1.done sa sb (.inl e1)⟩⟩
       ·rw[if_neg (by simpa using e1)];have hlo:∀ n,n<p→le key (el a n) (el b (j-1)):=hle;refine wpS_bind (wpS_elem (by have:=G1.hj;omega) ?_);have hz1:=G1.sz;have G2:=G1.pushB' (by omega) sb hlo;have hz2:=G2.sz;by_cases e3:j-1=1
        ·rw[if_pos (by simpa using e3)];exact wpS_pure ⟨hg.set _,.inl ⟨_,rfl,G2.first sa e3 fun m hm=>h0 m (by have:=G2.hi;omega)⟩⟩
        ·rw[if_neg (by simpa using e3)];refine wpS_bind (wpS_elem (by have:=G2.hi;omega) ?_);refine wpS_bind (wpS_galL C (by exact hg.kind.trans hk) (ma _ (by have:=G2.hi;omega)) (fun m hm=>by rw[Nat.zero_add];exact mb _ (by have:=G2.hj;omega)) (by have:=G2.hj;omega) (sb.sub (by omega) (by have:=G2.hj;omega)) (by omega) fun p2 hp2 hlt0 hge0=>?_);dsimp only;have hlt:∀ m,m<p2→O.klt (KA key b m) (KA key a (p-1)):=fun m h1=>hlt0 m (by omega) (by omega)
         have hge:∀ m,p2≤m→m<j-1→O.kle (KA key a (p-1)) (KA key b m):=fun m h1 h2=>hge0 m (by omega) (by omega)
         by_cases hk20:j-1-p2>0
         ·rw[if_pos hk20];have G3:=G2.appB sb (j-1-p2) p2 (by omega) fun m h1 h2 n h3=>KeyOrd.kle_trans (sa n (p-1) (by omega) (by omega) (by have:=G2.hi;omega)) (hge m h1 h2)
          by_cases e5:p2=1
          ·rw[if_pos (by simpa using e5)];exact wpS_pure ⟨hg.set _,.inl ⟨_,rfl,G3.first sa e5 fun m hm=>h0 m (by have:=G3.hi;omega)⟩⟩
          ·rw[if_neg (by simpa using e5)];by_cases e6:p2=0
           ·rw[if_pos (by simpa using e6)];exact wpS_pure ⟨hg.set _,.inl ⟨_,rfl,G3.done sa sb (.inr e6)⟩⟩
           ·rw[if_neg (by simpa using e6)];have hlow:∀ n,n<p2→le key (el b n) (el a (p-1)):=fun n hn=>KeyOrd.kle_of_klt (hlt n hn)
            refine wpS_bind (wpS_elem (by have:=G3.hi;omega) ?_);have hz3:=G3.sz;have G4:=G3.pushA' (by omega) sa hlow;have hz4:=G4.sz;by_cases e4:p-1=0
            ·rw[if_pos (by simpa using e4)];exact wpS_pure ⟨hg.set _,.inl ⟨_,rfl,G4.done sa sb (.inl e4)⟩⟩
            ·rw[if_neg (by simpa using e4)];split
             ·exact wpS_pure ⟨hg.set _,.inr ⟨_,_,_,_,_,_,rfl,G4,by omega,by omega,by omega⟩⟩
             ·exact wpS_pure ⟨hg.set _,_,_,_,_,_,_,rfl,G4,by omega,by omega,by omega⟩
         ·rw[if_neg hk20];have hp2z:p2=j-1:=by omega
          have G3:=G2;have hlow:∀ n,n<j-1→le key (el b n) (el a (p-1)):=fun n hn=>KeyOrd.kle_of_klt (hlt n (by omega))
          refine wpS_bind (wpS_elem (by have:=G3.hi;omega) ?_);have hz3:=G3.sz;have G4:=G3.pushA' (by omega) sa hlow;have hz4:=G4.sz;by_cases e4:p-1=0
          ·rw[if_pos (by simpa using e4)];exact wpS_pure ⟨hg.set _,.inl ⟨_,rfl,G4.done sa sb (.inl e4)⟩⟩
          ·rw[if_neg (by simpa using e4)];split
           ·exact wpS_pure ⟨hg.set _,.inr ⟨_,_,_,_,_,_,rfl,G4,by omega,by omega,by omega⟩⟩
           ·exact wpS_pure ⟨hg.set _,_,_,_,_,_,_,rfl,G4,by omega,by omega,by omega⟩
      ·rw[if_neg hk0];have hpz:p=i:=by omega
       have G1:=G;have hlo:∀ n,n<i→le key (el a n) (el b (j-1)):=fun n hn=>hle n (by omega)
       refine wpS_bind (wpS_elem (by have:=G1.hj;omega) ?_);have hz1:=G1.sz;have G2:=G1.pushB' (by omega) sb hlo;have hz2:=G2.sz;by_cases e3:j-1=1
       ·rw[if_pos (by simpa using e3)];exact wpS_pure ⟨hg.set _,.inl ⟨_,rfl,G2.first sa e3 fun m hm=>h0 m (by have:=G2.hi;omega)⟩⟩
       ·rw[if_neg (by simpa using e3)];refine wpS_bind (wpS_elem (by have:=G2.hi;omega) ?_);refine wpS_bind (wpS_galL C (by exact hg.kind.trans hk) (ma _ (by have:=G2.hi;omega)) (fun m hm=>by rw[Nat.zero_add];exact mb _ (by have:=G2.hj;omega)) (by have:=G2.hj;omega) (sb.sub (by omega) (by have:=G2.hj;omega)) (by omega) fun p2 hp2 hlt0 hge0=>?_);dsimp only;have hlt:∀ m,m<p2→O.klt (KA key b m) (KA key a (i-1)):=fun m h1=>hlt0 m (by omega) (by omega)
        have hge:∀ m,p2≤m→m<j-1→O.kle (KA key a (i-1)) (KA key b m):=fun m h1 h2=>hge0 m (by omega) (by omega)
        by_cases hk20:j-1-p2>0
        ·rw[if_pos hk20];have G3:=G2.appB sb (j-1-p2) p2 (by omega) fun m h1 h2 n h3=>KeyOrd.kle_trans (sa n (i-1) (by omega) (by omega) (by have:=G2.hi;omega)) (hge m h1 h2)
         by_cases e5:p2=1
         ·rw[if_pos (by simpa using e5)];exact wpS_pure ⟨hg.set _,.inl ⟨_,rfl,G3.first sa e5 fun m hm=>h0 m (by have:=G3.hi;omega)⟩⟩
         ·rw[if_neg (by simpa using e5)];by_cases e6:p2=0
          ·rw[if_pos (by simpa using e6)];exact wpS_pure ⟨hg.set _,.inl ⟨_,rfl,G3.done sa sb (.inr e6)⟩⟩
          ·rw[if_neg (by simpa using e6)];have hlow:∀ n,n<p2→le key (el b n) (el a (i-1)):=fun n hn=>KeyOrd.kle_of_klt (hlt n hn)
           refine wpS_bind (wpS_elem (by have:=G3.hi;omega) ?_);have hz3:=G3.sz;have G4:=G3.pushA' (by omega) sa hlow;have hz4:=G4.sz;by_cases e4:i-1=0
           ·rw[if_pos (by simpa using e4)];exact wpS_pure ⟨hg.set _,.inl ⟨_,rfl,G4.done sa sb (.inl e4)⟩⟩
           ·rw[if_neg (by simpa using e4)];split
            ·exact wpS_pure ⟨hg.set _,.inr ⟨_,_,_,_,_,_,rfl,G4,by omega,by omega,by omega⟩⟩
            ·exact wpS_pure ⟨hg.set _,_,_,_,_,_,_,rfl,G4,by omega,by omega,by omega⟩
        ·rw[if_neg hk20];have hp2z:p2=j-1:=by omega
         have G3:=G2;have hlow:∀ n,n<j-1→le key (el b n) (el a (i-1)):=fun n hn=>KeyOrd.kle_of_klt (hlt n (by omega))
         refine wpS_bind (wpS_elem (by have:=G3.hi;omega) ?_);have hz3:=G3.sz;have G4:=G3.pushA' (by omega) sa hlow;have hz4:=G4.sz;by_cases e4:i-1=0
         ·rw[if_pos (by simpa using e4)];exact wpS_pure ⟨hg.set _,.inl ⟨_,rfl,G4.done sa sb (.inl e4)⟩⟩
         ·rw[if_neg (by simpa using e4)];split
          ·exact wpS_pure ⟨hg.set _,.inr ⟨_,_,_,_,_,_,rfl,G4,by omega,by omega,by omega⟩⟩
          ·exact wpS_pure ⟨hg.set _,_,_,_,_,_,_,rfl,G4,by omega,by omega,by omega⟩
end
end Ts
namespace Ts
open PySem PyProof.Rows
set_option autoImplicit false
def wb (sa:Nat)(m ar:Array Keyed):Array Keyed:=m.toList.zipIdx.foldl (fun a (p,j)=>a.setIfInBounds (sa+j) p) ar
theorem wbL:∀ (l:List Keyed) (n sa:Nat) (ar:Array Keyed),sa+n+l.length≤ar.size →
  ((l.zipIdx n).foldl (fun a (p,j)=>a.setIfInBounds (sa+j) p) ar).toList=ar.toList.take (sa+n)++l++ar.toList.drop (sa+n+l.length)
 | [],n,sa,ar,h=>by simp
 | x::l,n,sa,ar,h=>by
  rw[List.zipIdx_cons,List.foldl_cons];have hs:sa+n<ar.size:=by rw[List.length_cons] at h;omega
  have hl:(ar.setIfInBounds (sa+n) x).size=ar.size:=by simp
  have ih:=wbL l (n+1) sa (ar.setIfInBounds (sa+n) x) (by rw[hl];rw[List.length_cons] at h;omega);refine ih.trans ?_;rw[Array.toList_setIfInBounds,List.length_cons];have e1:(ar.toList.set (sa+n) x).take (sa+(n+1))=ar.toList.take (sa+n)++[x]:=by
   rw[show sa+(n+1)=(sa+n)+1 by omega,List.take_add_one,List.take_set_of_le (Nat.le_refl _),List.getElem?_set_self (by simpa using hs)];rfl
  have e2:(ar.toList.set (sa+n) x).drop (sa+(n+1)+l.length)=ar.toList.drop (sa+n+(l.length+1)):=by
   rw[List.drop_set_of_lt (by omega)];congr 1;omega
  rw[e1,e2];simp
theorem wb_toList {sa:Nat}{m ar:Array Keyed}(h:sa+m.size≤ar.size):(wb sa m ar).toList=ar.toList.take sa++m.toList++ar.toList.drop (sa+m.size):=by
 have:=wbL m.toList 0 sa ar (by simpa using h);rw[Nat.add_zero,Array.length_toList] at this;exact this
theorem wb_get {sa:Nat}{m ar:Array Keyed}(h:sa+m.size≤ar.size)(k:Nat):(wb sa m ar)[k]?=if sa≤k∧k<sa+m.size then m[k-sa]? else ar[k]?:=by
 have hl1:(ar.toList.take sa).length=sa:=by simp;omega
 have hl2:(ar.toList.take sa++m.toList).length=sa+m.size:=by rw[List.length_append,hl1];simp
 rw[← Array.getElem?_toList,wb_toList h,← Array.getElem?_toList (xs:=m),← Array.getElem?_toList (xs:=ar)];by_cases h1:k<sa
 ·rw[if_neg (by omega),List.getElem?_append_left (by rw[hl2];omega),List.getElem?_append_left (by rw[hl1];exact h1),List.getElem?_take_of_lt h1]
 ·by_cases h2:k<sa+m.size
  ·rw[if_pos ⟨by omega,h2⟩,List.getElem?_append_left (by rw[hl2];exact h2),List.getElem?_append_right (by rw[hl1];omega),hl1]
  ·rw[if_neg (by omega),List.getElem?_append_right (by rw[hl2];omega),hl2,List.getElem?_drop];congr 1;omega
theorem split3 {ar:Array Keyed}{i j:Nat}(hij:i≤j)(hj:j≤ar.size):ar.toList=ar.toList.take i++(ar.extract i j).toList++ar.toList.drop j:=by
 rw[Array.toList_extract,List.extract_eq_take_drop];conv=>lhs;rw[← List.take_append_drop i ar.toList,← List.take_append_drop (j-i) (ar.toList.drop i)]
 rw[List.append_assoc,List.drop_drop];congr 3;omega
theorem ext_split {ar:Array Keyed}{i j k:Nat}(hij:i≤j)(hjk:j≤k)(hk:k≤ar.size):(ar.extract i j).toList++(ar.extract j k).toList=(ar.extract i k).toList:=by
 rw[← Array.toList_append,Array.extract_append_extract,Nat.min_eq_left hij,Nat.max_eq_right hjk]
theorem wb_perm {sa e:Nat}{m ar:Array Keyed}(hs:m.size=e-sa)(hse:sa≤e)(he:e≤ar.size)(hp:m.toList.Perm (ar.extract sa e).toList):(wb sa m ar).Perm ar:=by
 rw[Array.perm_iff_toList_perm,wb_toList (by omega)];conv=>rhs;rw[split3 hse he]
 rw[show sa+m.size=e by omega];exact (hp.append_left _).append_right _
theorem el_extract {ar:Array Keyed}{i j k:Nat}(h:i+k<j)(hj:j≤ar.size):el (ar.extract i j) k=el ar (i+k):=by
 apply el_congr;rw[Array.getElem?_extract];rw[if_pos (by omega)]
section
variable {M:Model}{A:Around}{E:Value→Shared→Prop}{s:Shared}{a₀:Array Keyed}{knd:SortKind}{O:KeyOrd}{key:Keyed→O.α}
theorem wpS_set {f:SortSt}{st:SortSt}{Q:PUnit→SortSt→Prop}(h:Q ⟨⟩ f):wpS M A E s (set f:StateT SortSt Sem PUnit) Q st:=by
 unfold wpS;rw[StateT.run_set];exact wpAny_pure ⟨rfl,h⟩
theorem pend_arr (p1 p2:List (Nat×Nat×Nat))(x y z:Nat×Nat×Nat):((p1++x::y::p2).toArray.setIfInBounds p1.length z).eraseIdxIfInBounds (p1.length+1)=(p1++z::p2).toArray:=by
 apply Array.ext';rw[Array.eraseIdxIfInBounds_eq];simp[List.set_append_right,List.eraseIdx_append_of_length_le]
theorem wpS_mAt {st:SortSt}{p1 p2:List (Nat×Nat×Nat)}{sa na pw sb nb pw2:Nat}{Q:Bool→SortSt→Prop}(C:Cmp M A E s knd O key a₀)(hB:SB a₀ knd st)
  (hp:pendingOf st=(p1++(sa,na,pw)::(sb,nb,pw2)::p2).toArray) (hsb:sb=sa+na) (hna:1≤na) (hnb:1≤nb) (hsz:sb+nb≤a₀.size)
  (sA:Seg key (arrOf st) sa (sa+na)) (sB:Seg key (arrOf st) sb (sb+nb))
  (h:∀ st',SB a₀ knd st'→pendingOf st'=(p1++(sa,na+nb,pw)::p2).toArray→Seg key (arrOf st') sa (sa+na+nb)→(∀ k,k<sa∨sa+na+nb≤k→(arrOf st')[k]?=(arrOf st)[k]?)→Q true st') :
  wpS M A E s (mergeAt' p1.length) Q st:=by
 rw[mAt_eq];refine wpS_bind (wpS_get ?_);have hP:pendingOf st=(p1++(sa,na,pw)::(sb,nb,pw2)::p2).toArray:=hp;have g1:(pendingOf st)[p1.length]?=some (sa,na,pw):=by rw[hP];simp
 have g2:(pendingOf st)[p1.length+1]?=some (sb,nb,pw2):=by rw[hP];simp
 have hZ:(arrOf st).size=a₀.size:=hB.size;dsimp only;rw[g1,g2];dsimp only;refine wpS_bind (wpS_set ?_);rw[hP,pend_arr];refine wpS_bind (wpS_elem (by omega) ?_);refine wpS_bind (wpS_galR C (by exact hB.kind) (hB.mem (by omega)) (fun i hi=>hB.mem (by omega)) (by omega) sA (by omega) fun k hk hle hgt=>?_);dsimp only;have hB1:SB a₀ knd (SortSt.mk' (kindOf st) (arrOf st) ((p1++(sa,na+nb,pw)::p2).toArray) (gallopOf st) (failedOf st)):=⟨hB.perm,hB.kind,hB.failed⟩
 by_cases c1:na-k=0
 ·rw[if_pos (by simpa using c1)];refine wpS_pure (h _ hB1 rfl (fun i j h1 h2 h3=>?_) fun k hk=>rfl);show O.kle (KA key (arrOf st) i) (KA key (arrOf st) j);by_cases hj:j<sb
  ·exact sA i j h1 h2 (by omega)
  ·by_cases hi:i<sb
   ·exact KeyOrd.kle_trans (hle i h1 (by omega)) (sB sb j (by omega) (by omega) (by omega))
   ·exact sB i j (by omega) h2 (by omega)
 rw[if_neg (by simpa using c1)];refine wpS_bind (wpS_elem (by omega) ?_);refine wpS_bind (wpS_galL C (by exact hB.kind) (hB.mem (by omega)) (fun i hi=>hB.mem (by omega)) (by omega) sB (by omega) fun n hn hlt hge=>?_);dsimp only;have eL:sa+k+(na-k)-1=sb-1:=by omega
 rw[eL] at hlt hge;by_cases c2:n=0
 ·rw[if_pos (by simpa using c2)];refine wpS_pure (h _ hB1 rfl (fun i j h1 h2 h3=>?_) fun k hk=>rfl);show O.kle (KA key (arrOf st) i) (KA key (arrOf st) j);by_cases hj:j<sb
  ·exact sA i j h1 h2 (by omega)
  ·by_cases hi:i<sb
   ·exact KeyOrd.kle_trans (sA i (sb-1) h1 (by omega) (by omega)) (hge j (by omega) (by omega))
   ·exact sB i j (by omega) h2 (by omega)
 rw[if_neg (by simpa using c2)];have zx:((arrOf st).extract (sa+k) sb).size=sb-(sa+k):=by rw[Array.size_extract];omega
 have zy:((arrOf st).extract sb (sb+n)).size=n:=by rw[Array.size_extract];omega
 have ex:∀ q,q<sb-(sa+k)→el ((arrOf st).extract (sa+k) sb) q=el (arrOf st) (sa+k+q):=fun q hq=>el_extract (by omega) (by omega)
 have ey:∀ q,q<n→el ((arrOf st).extract sb (sb+n)) q=el (arrOf st) (sb+q):=fun q hq=>el_extract (by omega) (by omega)
 have mx:∀ q,q<((arrOf st).extract (sa+k) sb).size→el ((arrOf st).extract (sa+k) sb) q∈a₀.toList:=fun q hq=>by rw[ex q (by omega)];exact hB.mem (by omega)
 have my:∀ q,q<((arrOf st).extract sb (sb+n)).size→el ((arrOf st).extract sb (sb+n)) q∈a₀.toList:=fun q hq=>by rw[ey q (by omega)];exact hB.mem (by omega)
 have gx:Seg key ((arrOf st).extract (sa+k) sb) 0 ((arrOf st).extract (sa+k) sb).size:=fun i j h1 h2 h3=>by
  unfold KA;rw[ex i (by omega),ex j (by omega)];exact sA _ _ (by omega) (by omega) (by omega)
 have gy:Seg key ((arrOf st).extract sb (sb+n)) 0 ((arrOf st).extract sb (sb+n)).size:=fun i j h1 h2 h3=>by
  unfold KA;rw[ey i (by omega),ey j (by omega)];exact sB _ _ (by omega) (by omega) (by omega)
 have h00:∀ q,q<((arrOf st).extract (sa+k) sb).size→le key (el ((arrOf st).extract sb (sb+n)) 0) (el ((arrOf st).extract (sa+k) sb) q):=fun q hq=>by
  rw[ex q (by omega),ey 0 (by omega)];exact KeyOrd.kle_of_klt (hgt _ (by omega) (by omega))
 have hll:∀ q,q<((arrOf st).extract sb (sb+n)).size→le key (el ((arrOf st).extract sb (sb+n)) q) (el ((arrOf st).extract (sa+k) sb) (((arrOf st).extract (sa+k) sb).size-1)):=fun q hq=>by
  rw[ey q (by omega),ex _ (by omega),show sa+k+(((arrOf st).extract (sa+k) sb).size-1)=sb-1 by omega];exact KeyOrd.kle_of_klt (hlt _ (by omega) (by omega))
 have fin:∀ (m:Array Keyed) (st':SortSt),Res key ((arrOf st).extract (sa+k) sb) ((arrOf st).extract sb (sb+n)) m →
   Sg (SortSt.mk' (kindOf st) (arrOf st) ((p1++(sa,na+nb,pw)::p2).toArray) (gallopOf st) (failedOf st)) st' →
   wpS M A E s (do
    modify fun s=>setArr s (m.toList.zipIdx.foldl (fun a (p,j)=>a.setIfInBounds (sa+k+j) p) (arrOf s))
    return (failedOf (← get)).isNone) Q st':=by
  rintro m st' ⟨hm,hpw⟩ ⟨g,rfl⟩;rw[ext_split (by omega) (by omega) (by omega)] at hm;have zm:m.size=sb+n-(sa+k):=by
   have:=hm.length_eq;rw[Array.length_toList,Array.length_toList,Array.size_extract] at this;omega
  refine wpS_bind (wpS_modify ?_);refine wpS_bind (wpS_get ?_);have hf:failedOf st=none:=hB.failed;show wpS M A E s (pure (failedOf st).isNone) Q (setArr _ (wb (sa+k) m (arrOf st)));rw[hf];have hpm:(wb (sa+k) m (arrOf st)).Perm (arrOf st):=wb_perm zm (by omega) (by omega) hm;refine wpS_pure (h _ ⟨hpm.trans hB.perm,hB.kind,rfl⟩ rfl ?_ fun q hq=>?_)
  ·have sm:=seg_of_pw hpw;have em:∀ q,q<m.size→∃ r,sa+k≤r∧r<sb+n∧el m q=el (arrOf st) r:=fun q hq=>by
    have h1:=hm.mem_iff.mp (el_mem hq);obtain⟨r,hr⟩:=List.mem_iff_getElem?.mp h1;rw[Array.getElem?_toList] at hr;have hr':r<((arrOf st).extract (sa+k) (sb+n)).size:=by
     rcases Nat.lt_or_ge r ((arrOf st).extract (sa+k) (sb+n)).size with h | h
     ·exact h
     ·rw[Array.getElem?_eq_none h] at hr;cases hr
    rw[el_some hr'] at hr;rw[Array.size_extract] at hr';refine⟨sa+k+r,by omega,by omega,?_⟩;rw[← Option.some.inj hr,el_extract (by omega) (by omega)]
   have kin:∀ q,sa+k≤q→q<sb+n→el (wb (sa+k) m (arrOf st)) q=el m (q-(sa+k)):=fun q h1 h2=>by
    apply el_congr;rw[wb_get (by omega),if_pos (by omega)]
   have kout:∀ q,q<sa+k∨sb+n≤q→el (wb (sa+k) m (arrOf st)) q=el (arrOf st) q:=fun q h1=>by
    apply el_congr;rw[wb_get (by omega),if_neg (by omega)]
   show Seg key (wb (sa+k) m (arrOf st)) sa (sa+na+nb);have lowmid:∀ i r,sa≤i→i<sa+k→sa+k≤r→r<sb+n→O.kle (KA key (arrOf st) i) (KA key (arrOf st) r):=fun i r h1 h2 h3 h4=>by
    by_cases hr:r<sb
    ·exact sA i r h1 (by omega) (by omega)
    ·exact KeyOrd.kle_trans (hle i h1 h2) (sB sb r (by omega) (by omega) (by omega))
   have midend:∀ r j,sa+k≤r→r<sb+n→sb+n≤j→j<sb+nb→O.kle (KA key (arrOf st) r) (KA key (arrOf st) j):=fun r j h1 h2 h3 h4=>by
    by_cases hr:r<sb
    ·exact KeyOrd.kle_trans (sA r (sb-1) (by omega) (by omega) (by omega)) (hge j (by omega) (by omega))
    ·exact sB r j (by omega) (by omega) (by omega)
   intro i j h1 h2 h3;unfold KA;by_cases i1:i<sa+k
   ·rw[kout i (.inl i1)];by_cases j1:j<sa+k
    ·rw[kout j (.inl j1)];exact sA i j h1 h2 (by omega)
    ·by_cases j2:j<sb+n
     ·rw[kin j (by omega) j2];obtain⟨r,r1,r2,e⟩:=em (j-(sa+k)) (by omega);rw[e];exact lowmid i r h1 i1 r1 r2
     ·rw[kout j (.inr (by omega))];exact KeyOrd.kle_trans (lowmid i sb h1 i1 (by omega) (by omega)) (sB sb j (by omega) (by omega) (by omega))
   ·by_cases i2:i<sb+n
    ·rw[kin i (by omega) i2];by_cases j2:j<sb+n
     ·rw[kin j (by omega) j2];exact sm _ _ (by omega) (by omega) (by omega)
     ·rw[kout j (.inr (by omega))];obtain⟨r,r1,r2,e⟩:=em (i-(sa+k)) (by omega);rw[e];exact midend r j r1 r2 (by omega) (by omega)
    ·rw[kout i (.inr (by omega)),kout j (.inr (by omega))];exact sB i j (by omega) h2 (by omega)
  ·show (wb (sa+k) m (arrOf st))[q]?=_;rw[wb_get (by omega),if_neg (by omega)]
 by_cases c3:na-k≤n
 ·rw[if_pos c3];exact wpS_bind (wpS_mLo C (by exact hB.kind) mx my gx gy (by omega) (by omega) h00 hll fin)
 ·rw[if_neg c3];exact wpS_bind (wpS_mHi C (by exact hB.kind) mx my gx gy (by omega) (by omega) h00 hll fin)
end
end Ts
namespace Ts
open PySem PyProof.Rows
set_option autoImplicit false
section
variable {M:Model}{A:Around}{E:Value→Shared→Prop}{s:Shared}{a₀:Array Keyed}{knd:SortKind}{O:KeyOrd}{key:Keyed→O.α}
def Rn {O:KeyOrd}(key:Keyed→O.α)(xs:Array Keyed):Nat→List (Nat×Nat×Nat)→Nat→Prop
 | s,[],e=>s=e
 | s,x::r,e=>x.1=s∧1≤x.2.1∧Seg key xs s (s+x.2.1)∧Rn key xs (s+x.2.1) r e
theorem Rn.le {xs:Array Keyed}:∀ {p:List (Nat×Nat×Nat)} {s e:Nat},Rn key xs s p e→s+p.length≤e
 | [],s,e,h=>by cases h;simp
 | x::r,s,e,h=>by
  have:=Rn.le h.2.2.2;have:=h.2.1;rw[List.length_cons];omega
theorem Rn.congr {xs ys:Array Keyed}:∀ {p:List (Nat×Nat×Nat)} {s e:Nat},Rn key xs s p e→(∀ k,s≤k→k<e→ys[k]?=xs[k]?)→Rn key ys s p e
 | [],s,e,h,_=>h
 | x::r,s,e,h,k=>⟨h.1,h.2.1,h.2.2.1.congr (fun i a b=>KA_congr (k i a (by have:=Rn.le h.2.2.2;omega))),Rn.congr h.2.2.2 fun i a b=>k i (by omega) b⟩
theorem Rn.app {xs:Array Keyed}:∀ {p q:List (Nat×Nat×Nat)} {s e:Nat},Rn key xs s (p++q) e→∃ m,Rn key xs s p m∧Rn key xs m q e
 | [],q,s,e,h=>⟨s,rfl,h⟩
 | x::r,q,s,e,h=>by
  obtain⟨m,h1,h2⟩:=Rn.app h.2.2.2;exact⟨m,⟨h.1,h.2.1,h.2.2.1,h1⟩,h2⟩
theorem Rn.cat {xs:Array Keyed}:∀ {p q:List (Nat×Nat×Nat)} {s m e:Nat},Rn key xs s p m→Rn key xs m q e→Rn key xs s (p++q) e
 | [],q,s,m,e,h,k=>by cases h;exact k
 | x::r,q,s,m,e,h,k=>⟨h.1,h.2.1,h.2.2.1,Rn.cat h.2.2.2 k⟩
structure RB {O:KeyOrd}(key:Keyed→O.α)(a₀:Array Keyed)(knd:SortKind)(lo:Nat)(p:List (Nat×Nat×Nat))(st:SortSt):Prop where
 sb:SB a₀ knd st
 pd:pendingOf st=p.toArray
 rn:Rn key (arrOf st) 0 p lo
 hl:lo≤a₀.size
theorem wpS_mRB {st:SortSt}{lo:Nat}{p1 p2:List (Nat×Nat×Nat)}{x y:Nat×Nat×Nat}{Q:Bool→SortSt→Prop}(C:Cmp M A E s knd O key a₀)(hB:RB key a₀ knd lo (p1++x::y::p2) st)
  (h:∀ st',RB key a₀ knd lo (p1++(x.1,x.2.1+y.2.1,x.2.2)::p2) st'→(∀ k,lo≤k→(arrOf st')[k]?=(arrOf st)[k]?)→Q true st'):wpS M A E s (mergeAt' p1.length) Q st:=by
 obtain⟨sa,na,pw⟩:=x;obtain⟨sb,nb,pw2⟩:=y;obtain⟨m,r1,r2⟩:=hB.rn.app;obtain⟨e1,n1,g1,e2,n2,g2,r3⟩:=r2;dsimp only at e1 n1 g1 e2 n2 g2 r3;subst e1;have hle:=r3.le;have hl1:=r1.le;have hlo:=hB.hl;refine wpS_mAt C hB.sb hB.pd e2 n1 n2 (by omega) g1 (by rw[e2];exact g2) fun st' b1 b2 b3 b4=>h st' ⟨b1,b2,?_,hB.hl⟩ fun k hk=>b4 k (by omega)
 refine (r1.congr fun k _ hk=>b4 k (.inl hk)).cat ⟨rfl,by dsimp only;omega,?_,?_⟩
 ·dsimp only;rw[← Nat.add_assoc];exact b3
 ·dsimp only;rw[← Nat.add_assoc];exact r3.congr fun k hk _=>b4 k (.inr hk)
theorem split_at2 {p:List (Nat×Nat×Nat)}{n:Nat}(h:n+1<p.length):∃ p1 x y p2,p=p1++x::y::p2∧p1.length=n:=by
 refine⟨p.take n,p[n],p[n+1],p.drop (n+2),?_,by simp;omega⟩;conv=>lhs;rw[← List.take_append_drop n p]
 congr 1;rw[List.drop_eq_getElem_cons (by omega),List.drop_eq_getElem_cons (by omega)]
theorem Rn.modify {xs:Array Keyed}{f:Nat×Nat×Nat→Nat×Nat×Nat}(h1:∀ x,(f x).1=x.1)(h2:∀ x,(f x).2.1=x.2.1):∀ {p:List (Nat×Nat×Nat)} {i s e:Nat},Rn key xs s p e→Rn key xs s (p.modify i f) e
 | [],i,s,e,h=>by cases i<;>exact h
 | x::r,0,s,e,h=>by
  rw[List.modify_zero_cons];unfold Rn at h ⊢;rw[h1,h2];exact h
 | x::r,i+1,s,e,h=>by
  rw[List.modify_succ_cons];exact⟨h.1,h.2.1,h.2.2.1,Rn.modify h1 h2 h.2.2.2⟩
theorem RB.power {st:SortSt}{lo:Nat}{p:List (Nat×Nat×Nat)}{f:Nat×Nat×Nat→Nat×Nat×Nat}(hR:RB key a₀ knd lo p st)(h1:∀ x,(f x).1=x.1)(h2:∀ x,(f x).2.1=x.2.1) :
  RB key a₀ knd lo (p.modify (p.length-1) f) (setPending st ((pendingOf st).modify ((pendingOf st).size-1) f)) :=
 ⟨⟨hR.sb.perm,hR.sb.kind,hR.sb.failed⟩,by show (pendingOf st).modify ((pendingOf st).size-1) f=_;rw[hR.pd,List.modify_toArray];simp,hR.rn.modify h1 h2,hR.hl⟩
theorem RB.push {st:SortSt}{lo n:Nat}{p:List (Nat×Nat×Nat)}(hR:RB key a₀ knd lo p st)(h1:1≤n)(h2:lo+n≤a₀.size)(hs:Seg key (arrOf st) lo (lo+n)) :
  RB key a₀ knd (lo+n) (p++[(lo,n,0)]) (setPending st ((pendingOf st).push (lo,n,0))) :=
 ⟨⟨hR.sb.perm,hR.sb.kind,hR.sb.failed⟩,by show (pendingOf st).push _=_;rw[hR.pd,List.push_toArray],hR.rn.cat ⟨rfl,h1,hs,rfl⟩,h2⟩
theorem wpS_sR {st:SortSt}{Q:Unit→SortSt→Prop}(C:Cmp M A E s knd O key a₀)(hB:SB a₀ knd st)(hp:pendingOf st=#[])(h2:2≤a₀.size)
  (h:∀ st',SB a₀ knd st'→Seg key (arrOf st') 0 a₀.size→Q () st'):wpS M A E s sortRuns' Q st:=by
 rw[sortRuns'_eq];refine wpS_bind (wpS_get ?_);dsimp only;simp only[hB.size];generalize minRun' a₀.size a₀.size 0=mr
 refine wpS_bind (wpS_mono (wpS_forRange
  (I:=fun x c st'=>∃ lo p,c=(none,lo)∧RB key a₀ knd lo p st'∧x≤lo)
  (Q:=fun c st'=>∃ p,c=(none,a₀.size)∧RB key a₀ knd a₀.size p st') ?step ?fin ⟨0,[],rfl,⟨hB,hp,rfl,by omega⟩,by omega⟩) ?post)
 case fin =>
  rintro c st' ⟨lo,p,rfl,hR,hx⟩;have:lo=a₀.size:=by have:=hR.hl;omega
  subst this;exact⟨p,rfl,hR⟩
 case post =>
  rintro c st' ⟨p,rfl,hR⟩;dsimp only
  refine wpS_bind (wpS_mono (wpS_forRange (I:=fun x c st'=>c=(none,())∧∃ p,RB key a₀ knd a₀.size p st'∧(p.length≤1∨p.length+x≤a₀.size))
   (Q:=fun c st'=>c=(none,())∧∃ p,RB key a₀ knd a₀.size p st'∧p.length≤1) ?_ ?_ ⟨rfl,p,hR,.inr (by have:=hR.rn.le;omega)⟩) ?_)
  ·rintro x c st3 _ hx ⟨rfl,p,hR3,hlen⟩;refine wpS_bind (wpS_get ?_);have hsz:(pendingOf st3).size=p.length:=by rw[hR3.pd];simp
   by_cases hz:(pendingOf st3).size≤1
   ·rw[if_pos hz];exact wpS_pure ⟨rfl,p,hR3,by omega⟩
   ·rw[if_neg hz];have key1:∀ n,n+1<p.length→wpS M A E s (mergeAt' n) (fun b st'=>b=true∧∃ p',RB key a₀ knd a₀.size p' st'∧p'.length+1=p.length) st3:=by
     intro n hn;obtain⟨p1,xx,yy,p2,rfl,rfl⟩:=split_at2 hn;exact wpS_mRB C hR3 fun st4 hR4 _=>⟨rfl,_,hR4,by simp;omega⟩
    refine wpS_bind (wpS_mono (key1 _ ?_) ?_)
    ·have hh:∀ (c:Prop) [Decidable c],(if c then p.length-2-1 else p.length-2)+1<p.length:=fun c _=>by split<;>omega
     rw[hsz];exact hh _
    ·rintro b st4 ⟨rfl,p',hR4,hl4⟩;simp only[Bool.not_true,Bool.false_eq_true,if_false];exact wpS_pure ⟨rfl,p',hR4,by omega⟩
  ·rintro c st3 ⟨rfl,p,hR3,hlen⟩;exact⟨rfl,p,hR3,by omega⟩
  ·rintro c st3 ⟨rfl,p,hR3,hlen⟩;refine wpS_pure (h st3 hR3.sb ?_);have hrn:=hR3.rn
   match p,hlen,hrn with
   | [],_,hrn=>exact absurd hrn (by show ¬ (0=a₀.size);omega)
   | [x],_,hrn =>
    obtain⟨_,_,g,e⟩:=hrn;have e:0+x.2.1=a₀.size:=e;rw[e] at g;exact g
   | _::_::_,hlen,_=>simp at hlen
 case step =>
  rintro x c st1 _ hx ⟨lo,p,rfl,hR,hxl⟩;dsimp only;by_cases hlo:lo≥a₀.size
  ·rw[if_pos hlo];have:lo=a₀.size:=by have:=hR.hl;omega
   subst this;exact wpS_pure ⟨p,rfl,hR⟩
  rw[if_neg hlo];refine wpS_bind (wpS_cR C (by omega) (by omega) hR.sb fun found st2 hB2 hF2 hm1 hm2 hs2=>?_);dsimp only;have hR2:RB key a₀ knd lo p st2:=⟨hB2,hF2.pend.trans hR.pd,hR.rn.congr fun k _ hk=>hF2.low k hk,hR.hl⟩
  by_cases hmin:found<mr
  ·rw[if_pos hmin];refine wpS_bind (wpS_rule ?_);refine wpS_bind (wpS_bS C (by omega) (by omega) hB2 hs2 fun st3 hB3 hF3 hs3=>?_);simp only[Bool.not_true,Bool.false_eq_true,if_false];have hR3:RB key a₀ knd lo p st3:=⟨hB3,hF3.pend.trans hR2.pd,hR2.rn.congr fun k _ hk=>hF3.low k hk,hR.hl⟩
   have hn1:1≤min (a₀.size-lo) mr:=by omega
   have hn2:lo+min (a₀.size-lo) mr≤a₀.size:=by omega
   have hseg:=hs3;refine wpS_bind (wpS_get ?_);cases hbk:(pendingOf st3).back? with
   | none =>
    dsimp only;refine wpS_bind (wpS_modify ?_);exact wpS_pure ⟨_,_,rfl,hR3.push hn1 hn2 hseg,by omega⟩
   | some t =>
    obtain⟨s1,n1,q⟩:=t;dsimp only
    refine wpS_bind (wpS_mono (wpS_forRange (I:=fun y c st'=>c=(none,())∧∃ p,RB key a₀ knd lo p st'∧∀ k,lo≤k→(arrOf st')[k]?=(arrOf st3)[k]?)
     (Q:=fun c st'=>c=(none,())∧∃ p,RB key a₀ knd lo p st'∧∀ k,lo≤k→(arrOf st')[k]?=(arrOf st3)[k]?) ?_ (fun c st' z=>z) ⟨rfl,p,hR3,fun _ _=>rfl⟩) ?_)
    ·rintro y c stt _ hy ⟨rfl,p,hR3,hk3⟩;refine wpS_bind (wpS_get ?_);by_cases hz:(pendingOf stt).size>1
     ·rw[if_pos hz];have hz':p.length-2+1<p.length:=by rw[hR3.pd] at hz;simp at hz;omega
      obtain⟨p1,xx,yy,p2,rfl,hl⟩:=split_at2 hz';have e1:(pendingOf stt).size-2=p1.length:=by rw[hR3.pd,hl];simp
      rw[e1];have e2:(pendingOf stt)[p1.length]?=some xx:=by rw[hR3.pd];simp
      rw[e2];obtain⟨x1,x2,x3⟩:=xx;dsimp only;split
      ·exact wpS_pure ⟨rfl,_,hR3,hk3⟩
      ·refine wpS_bind (wpS_mRB C hR3 fun st4 hR4 hk4=>?_);simp only[Bool.not_true,Bool.false_eq_true,if_false];exact wpS_pure ⟨rfl,_,hR4,fun k hk=>(hk4 k hk).trans (hk3 k hk)⟩
     ·rw[if_neg hz];exact wpS_pure ⟨rfl,p,hR3,hk3⟩
    ·rintro c stt ⟨rfl,p,hR3,hk3⟩;dsimp only;refine wpS_bind (wpS_modify ?_);refine wpS_bind (wpS_modify ?_);have hR5:=hR3.power (f:=fun x=>(x.fst,x.snd.fst,power' a₀.size (2*s1+n1) (2*s1+n1+n1+min (a₀.size-lo) mr) a₀.size)) (fun _=>rfl) (fun _=>rfl);exact wpS_pure ⟨_,_,rfl,hR5.push hn1 hn2 (hseg.congr fun k h1 _=>KA_congr (hk3 k h1)),by omega⟩
  ·rw[if_neg hmin];have hn1:1≤found:=hm1;have hn2:lo+found≤a₀.size:=by omega
   have hseg:=hs2;refine wpS_bind (wpS_get ?_);cases hbk:(pendingOf st2).back? with
   | none =>
    dsimp only;refine wpS_bind (wpS_modify ?_);exact wpS_pure ⟨_,_,rfl,hR2.push hn1 hn2 hseg,by omega⟩
   | some t =>
    obtain⟨s1,n1,q⟩:=t;dsimp only
    refine wpS_bind (wpS_mono (wpS_forRange (I:=fun y c st'=>c=(none,())∧∃ p,RB key a₀ knd lo p st'∧∀ k,lo≤k→(arrOf st')[k]?=(arrOf st2)[k]?)
     (Q:=fun c st'=>c=(none,())∧∃ p,RB key a₀ knd lo p st'∧∀ k,lo≤k→(arrOf st')[k]?=(arrOf st2)[k]?) ?_ (fun c st' z=>z) ⟨rfl,p,hR2,fun _ _=>rfl⟩) ?_)
    ·rintro y c stt _ hy ⟨rfl,p,hR3,hk3⟩;refine wpS_bind (wpS_get ?_);by_cases hz:(pendingOf stt).size>1
     ·rw[if_pos hz];have hz':p.length-2+1<p.length:=by rw[hR3.pd] at hz;simp at hz;omega
      obtain⟨p1,xx,yy,p2,rfl,hl⟩:=split_at2 hz';have e1:(pendingOf stt).size-2=p1.length:=by rw[hR3.pd,hl];simp
      rw[e1];have e2:(pendingOf stt)[p1.length]?=some xx:=by rw[hR3.pd];simp
      rw[e2];obtain⟨x1,x2,x3⟩:=xx;dsimp only;split
      ·exact wpS_pure ⟨rfl,_,hR3,hk3⟩
      ·refine wpS_bind (wpS_mRB C hR3 fun st4 hR4 hk4=>?_);simp only[Bool.not_true,Bool.false_eq_true,if_false];exact wpS_pure ⟨rfl,_,hR4,fun k hk=>(hk4 k hk).trans (hk3 k hk)⟩
     ·rw[if_neg hz];exact wpS_pure ⟨rfl,p,hR3,hk3⟩
    ·rintro c stt ⟨rfl,p,hR3,hk3⟩;dsimp only;refine wpS_bind (wpS_modify ?_);refine wpS_bind (wpS_modify ?_);have hR5:=hR3.power (f:=fun x=>(x.fst,x.snd.fst,power' a₀.size (2*s1+n1) (2*s1+n1+n1+found) a₀.size)) (fun _=>rfl) (fun _=>rfl);exact wpS_pure ⟨_,_,rfl,hR5.push hn1 hn2 (hseg.congr fun k h1 _=>KA_congr (hk3 k h1)),by omega⟩
end
end Ts
end
section
set_option Elab.async false
set_option linter.all false
set_option maxRecDepth 100000
namespace L2
open PySem PySem.Spec PyProof.Rows
def clo (env:Env):List (Str×NameKind)→List (Str×Addr)→List (Str×Addr)
 | [],cs=>cs
 | y::r,cs=>clo env r (if y.2 == NameKind.free then (y.1,(env.cells.lookup y.1).getD 0)::cs else cs)
theorem clo_eq {env:Env}:∀ (names:List (Str×NameKind)) (cs:List (Str×Addr)),(∀ y∈names,y.2=.free→∃ c,env.cells.lookup y.1=some c) →
  (forIn names cs fun (x:Str×NameKind) (r:List (Str×Addr))=>(if (x.2 == NameKind.free)=true then do
   let c ← cellOf env x.1
   pure (ForInStep.yield ((x.1,c)::r)) else pure (ForInStep.yield r):Sem (ForInStep (List (Str×Addr)))))=pure (clo env names cs)
 | [],cs,_=>by rw[List.forIn_nil];rfl
 | y::r,cs,h=>by
  rw[List.forIn_cons];unfold clo;have hr:=clo_eq r (if y.2 == NameKind.free then (y.1,(env.cells.lookup y.1).getD 0)::cs else cs) fun z hz=>h z (List.mem_cons_of_mem _ hz)
  by_cases e:(y.2 == NameKind.free)=true
  ·obtain⟨c,hc⟩:=h y List.mem_cons_self (by simpa using e);have ec:cellOf env y.1=pure c:=by unfold cellOf;rw[hc]
   rw[if_pos e] at hr ⊢;rw[if_pos e,ec];rw[hc] at hr ⊢;exact hr
  ·rw[if_neg e] at hr ⊢;rw[if_neg e];exact hr
theorem closure_clo {env:Env}{scope:Scope}(h:∀ y∈scope.names,y.2=.free→∃ c,env.cells.lookup y.1=some c):closureFor scope env=pure (clo env scope.names []):=by
 have e:=clo_eq scope.names [] h;unfold closureFor;refine Eq.trans ?_ (congrArg (fun t=>t >>= fun cs=>(pure cs:Sem (List (Str×Addr)))) e);rfl
theorem lookup_cons' {β:Type}(x n:Str)(c:β)(r:List (Str×β)):List.lookup x ((n,c)::r)=if x=n then some c else List.lookup x r:=by
 rw[List.lookup_cons];by_cases e:x=n
 ·have hb:(x == n)=true:=beq_iff_eq.mpr e;rw[if_pos e];simp[hb]
 ·have hb:(x == n)=false:=beq_eq_false_iff_ne.mpr e;rw[if_neg e];simp[hb]
theorem clo_lookup {env:Env}(x:Str):∀ (names:List (Str×NameKind)) (cs:List (Str×Addr)),
  (clo env names cs).lookup x=if (names.any fun y=>decide (y.1=x) && (y.2 == NameKind.free))=true then some ((env.cells.lookup x).getD 0) else cs.lookup x
 | [],cs=>by simp[clo]
 | y::r,cs=>by
  unfold clo;rw[clo_lookup x r,List.any_cons];by_cases e:(y.2 == NameKind.free)=true
  ·rw[if_pos e,lookup_cons'];by_cases ex:y.1=x
   ·rw[decide_eq_true ex,e,if_pos ex.symm,ex];simp
   ·rw[decide_eq_false ex,if_neg (show ¬ x=y.1 from fun z=>ex z.symm),Bool.false_and,Bool.false_or]
  ·have e':(y.2 == NameKind.free)=false:=by simpa using e
   rw[if_neg e,e'];simp
def compOk (sc osc:Scope):Bool :=
 (match sc.kind with | .function=>true | _=>false) &&
  sc.names.all fun y=>match y.2 with
   | .cell=>false
   | .local=>(match sc.names.lookup y.1 with | some .local=>true | _=>false)
   | .free=>(match osc.names.lookup y.1 with | some .cell=>true | some .free=>true | _=>false)
   | _=>true
structure CompOk (sc osc:Scope):Prop where
 kind:sc.kind=.function
 noCell:∀ y∈sc.names,y.2≠.cell
 loc:∀ y∈sc.names,y.2=.local→sc.names.lookup y.1=some .local
 free:∀ y∈sc.names,y.2=.free→osc.names.lookup y.1=some .cell∨osc.names.lookup y.1=some .free
theorem compOk_of {sc osc:Scope}(h:compOk sc osc=true):CompOk sc osc:=by
 unfold compOk at h;rw[Bool.and_eq_true,List.all_eq_true] at h;obtain⟨h1,h2⟩:=h;refine⟨?_,fun y hy e=>?_,fun y hy e=>?_,fun y hy e=>?_⟩
 ·cases e:sc.kind with
  | function=>rfl
  | _=>rw[e] at h1;cases h1
 ·have:=h2 y hy;rw[e] at this;cases this
 ·have:=h2 y hy;rw[e] at this;dsimp only at this;split at this
  ·assumption
  ·cases this
 ·have:=h2 y hy;rw[e] at this;dsimp only at this;split at this
  ·left;assumption
  ·right;assumption
  ·cases this
def cxC (X:Cx)(scope:Scope)(N':List Str)(pins:List (Addr×Obj))(fp:List Addr)(s:Shared)(H:Hp):Cx where
 prog:=X.prog
 w:=X.w
 K:=X.K
 mg:=X.mg
 base:=X.base
 A:=X.A
 N:=N'
 s₀:=s
 H₀:=H
 env:=compEnvC scope (clo X.env scope.names []) s.heap.objs.size X.env
 outer:=X.stack
 stack:=X.stack
 ex:=fp
 fn:=fun _=>false
 calm:=true
 pn:=X.pn++pins
 xe:=fun _ _=>False
section
variable {X:Cx}{scope:Scope}{own:List Str}{fr:List (Str×Nat)}{fp:List Addr}{pins:List (Addr×Obj)}{σ:St}{H:Hp}{s:Shared}
def st0 (own:List Str)(fr:List (Str×Nat))(σ:St):St:=own.map (fun _=>Option.none)++fr.map fun p=>(σ[p.2]?).join
def frOk (X:Cx)(scope:Scope)(fr:List (Str×Nat)):Prop:=∀ p∈fr,X.N[p.2]?=some p.1∧scope.names.lookup p.1=some .free
theorem frOk_nil:frOk X scope []:=fun _ h=>nomatch h
theorem frOk_cons {p:Str×Nat}{r:List (Str×Nat)}(h1:X.N[p.2]?=some p.1)(h2:scope.names.lookup p.1=some .free)(h:frOk X scope r):frOk X scope (p::r):=fun q hq=>by
 rcases List.mem_cons.mp hq with rfl | hq
 ·exact⟨h1,h2⟩
 ·exact h q hq
theorem lookup_mem' {β:Type}{x:Str}{k:β}:∀ {l:List (Str×β)},l.lookup x=some k→(x,k)∈l
 | [],h=>by cases h
 | (n,c)::r,h=>by
  rw[lookup_cons'] at h;by_cases e:x=n
  ·rw[if_pos e] at h;cases h;rw[e];exact List.mem_cons_self
  ·rw[if_neg e] at h;exact List.mem_cons_of_mem _ (lookup_mem' h)
theorem relabel_lookup {env:Env}{x:Str}:∀ {names:List (Str×NameKind)} {k:NameKind},
  (names.map fun (y:Str×NameKind)=>if (y.2 == NameKind.free && env.scope.kind == .function && env.kindOf y.1 == some .cell) then (y.1,NameKind.cell) else (y.1,y.2)).lookup x=some k →
  ∃ k',names.lookup x=some k'∧(k=k'∨(k'=.free∧k=.cell))
 | [],k,h=>by cases h
 | (n,c)::r,k,h=>by
  rw[List.map_cons] at h;rw[lookup_cons'];by_cases e:x=n
  ·rw[if_pos e];refine⟨c,rfl,?_⟩;by_cases q:(c == NameKind.free && env.scope.kind == .function && env.kindOf n == some .cell)=true
   ·have hh:(if (((n,c):Str×NameKind).2 == NameKind.free && env.scope.kind == .function && env.kindOf ((n,c):Str×NameKind).1 == some .cell)=true then (((n,c):Str×NameKind).1,NameKind.cell) else (((n,c):Str×NameKind).1,((n,c):Str×NameKind).2))=(n,NameKind.cell):=if_pos q;rw[hh,lookup_cons',if_pos e] at h;cases h;refine .inr ⟨?_,rfl⟩;simp only[Bool.and_eq_true] at q;simpa using q.1.1
   ·have hh:(if (((n,c):Str×NameKind).2 == NameKind.free && env.scope.kind == .function && env.kindOf ((n,c):Str×NameKind).1 == some .cell)=true then (((n,c):Str×NameKind).1,NameKind.cell) else (((n,c):Str×NameKind).1,((n,c):Str×NameKind).2))=(n,c):=if_neg q;rw[hh,lookup_cons',if_pos e] at h;cases h;exact .inl rfl
  ·rw[if_neg e];have h':(r.map fun (y:Str×NameKind)=>if (y.2 == NameKind.free && env.scope.kind == .function && env.kindOf y.1 == some .cell) then (y.1,NameKind.cell) else (y.1,y.2)).lookup x=some k:=by
    by_cases q:(c == NameKind.free && env.scope.kind == .function && env.kindOf n == some .cell)=true
    ·have hh:(if (((n,c):Str×NameKind).2 == NameKind.free && env.scope.kind == .function && env.kindOf ((n,c):Str×NameKind).1 == some .cell)=true then (((n,c):Str×NameKind).1,NameKind.cell) else (((n,c):Str×NameKind).1,((n,c):Str×NameKind).2))=(n,NameKind.cell):=if_pos q;rw[hh,lookup_cons',if_neg e] at h;exact h
    ·have hh:(if (((n,c):Str×NameKind).2 == NameKind.free && env.scope.kind == .function && env.kindOf ((n,c):Str×NameKind).1 == some .cell)=true then (((n,c):Str×NameKind).1,NameKind.cell) else (((n,c):Str×NameKind).1,((n,c):Str×NameKind).2))=(n,c):=if_neg q;rw[hh,lookup_cons',if_neg e] at h;exact h
   exact relabel_lookup h'
theorem relabel_free {env:Env}{x:Str}:∀ {names:List (Str×NameKind)},names.lookup x=some .free →
  (names.map fun (y:Str×NameKind)=>if (y.2 == NameKind.free && env.scope.kind == .function && env.kindOf y.1 == some .cell) then (y.1,NameKind.cell) else (y.1,y.2)).lookup x=some .cell ∨
  (names.map fun (y:Str×NameKind)=>if (y.2 == NameKind.free && env.scope.kind == .function && env.kindOf y.1 == some .cell) then (y.1,NameKind.cell) else (y.1,y.2)).lookup x=some .free
 | [],h=>by cases h
 | (n,c)::r,h=>by
  rw[lookup_cons'] at h;rw[List.map_cons];have red:∀ b:Bool,(if b=true then (n,NameKind.cell) else (n,c))=(n,if b=true then NameKind.cell else c):=fun b=>by cases b<;>rfl
  have hh:(if (((n,c):Str×NameKind).2 == NameKind.free && env.scope.kind == .function && env.kindOf ((n,c):Str×NameKind).1 == some .cell)=true then (((n,c):Str×NameKind).1,NameKind.cell) else (((n,c):Str×NameKind).1,((n,c):Str×NameKind).2))=(n,if (c == NameKind.free && env.scope.kind == .function && env.kindOf n == some .cell)=true then NameKind.cell else c):=red _;rw[hh,lookup_cons'];by_cases e:x=n
  ·rw[if_pos e] at h ⊢;cases h;generalize (NameKind.free == NameKind.free && env.scope.kind == .function && env.kindOf n == some .cell)=b;cases b
   ·right;rfl
   ·left;rfl
  ·rw[if_neg e] at h ⊢;exact relabel_free h
theorem inv_comp (I:Inv X pins σ H s)(hc:CompOk scope X.env.scope)(hcalm:X.calm=true)(hf:∀ b∈fp,FpOk X pins H b)(hlt:∀ b∈fp,b<s.heap.objs.size)(hfr:frOk X scope fr){h1:Heap}{m:Str→Option Value}(hns:h1.Ns s.heap.objs.size m)
  (hsb:∀ b o,s.heap.get? b=some o→h1.get? b=some o):Inv (cxC X scope (own++fr.map (·.1)) pins fp s H) [] (st0 own fr σ) H {s with heap:=h1}:=by
 have clX:∀ x c,(clo X.env scope.names []).lookup x=some c→X.env.cells.lookup x=some c:=fun x c e=>by
  rw[clo_lookup] at e;split at e
  ·rename_i q;obtain⟨y,hy,hq⟩:=List.any_eq_true.mp q;rw[Bool.and_eq_true] at hq;have e1:y.1=x:=of_decide_eq_true hq.1;have e2:y.2=.free:=by simpa using hq.2
   obtain⟨c',hc'⟩:=I.ok.has x (by
    have:=hc.free y hy e2;rw[e1] at this
    exact this)
   rw[hc'] at e ⊢;exact e
  ·cases e
 have hlen:∀ b∈frs X.stack,b≠s.heap.objs.size∧b∈X.env.locals::X.fs:=fun b hb=>by
  have hm:=I.stkSub b hb;refine⟨fun z=>?_,hm⟩;rcases List.mem_cons.mp hm with q | q
  ·have:=I.lt;rw[← q,z] at this;exact Nat.lt_irrefl _ this
  ·exact I.nofs (Nat.le_of_eq z.symm) q
 have ok:(cxC X scope (own++fr.map (·.1)) pins fp s H).Ok :=
  {mod:=I.ok.mod
   kind:=hc.kind
   glob:=I.ok.glob
   blt:=I.ok.blt
   above:=Nat.le_refl _
   inj:=fun x y c hx hy=>I.ok.inj x y c (clX x c hx) (clX y c hy)
   has:=fun x hx=>by
    have hx:(relabel scope X.env).names.lookup x=some .cell∨(relabel scope X.env).names.lookup x=some .free:=hx;have key:scope.names.lookup x=some .free:=by
     rcases hx with hx | hx
     ·obtain⟨k',e1,e2⟩:=relabel_lookup hx;rcases e2 with e2 | ⟨e2,_⟩
      ·subst e2;exact absurd rfl (hc.noCell (x,.cell) (lookup_mem' e1))
      ·subst e2;exact e1
     ·obtain⟨k',e1,e2⟩:=relabel_lookup hx;rcases e2 with e2 | ⟨e2,e3⟩
      ·subst e2;exact e1
      ·cases e3
    have hm:=lookup_mem' key;refine⟨(X.env.cells.lookup x).getD 0,?_⟩;show (clo X.env scope.names []).lookup x=_;rw[clo_lookup,if_pos (List.any_eq_true.mpr ⟨(x,.free),hm,by simp⟩)]
   cab:=fun x c h=>nomatch h
   hd:=fun _=>I.ok.hd hcalm
   frames:=I.ok.frames
   stk:=.inl rfl
   exf:=fun b hb=>⟨Nat.ne_of_lt (hlt b hb),fun x c e=>(hf b hb).2.2.2.2.1 x c (clX x c e)⟩
   bs:=I.bs
   bsz:=Nat.le_trans I.ok.bsz I.sz
   noex:=fun b o e hb=>by
    rcases (hf b hb).2.2.2.1 with q | q
    ·exact I.ok.noex b o e q
    ·have h1:b<X.base.objs.size:=Heap.lt_size e;have h2:=I.ok.bsz;exact absurd (Nat.lt_of_lt_of_le h1 h2) (Nat.not_lt.mpr q)
   exfs:=fun b hb hm=>by
    have hm:=I.stkSub b hm;rcases List.mem_cons.mp hm with q | q
    ·exact (hf b hb).2.1 q
    ·exact (hf b hb).2.2.1 q
   funs:=I.stack
   frf:=I.stkFree}
 refine⟨ok,rfl,I.bare,Un.kept hsb,⟨m,hns,fun i x v hx hv hvis=>?_⟩,fun x c e=>?_,I.fresh,fun x c e=>I.freeC x c (clX x c e),fun p hp=>?_,I.hok.kept hsb,?_⟩
 ·-- the names
  have hi:own.length≤i:=by
   rcases Nat.lt_or_ge i own.length with h | h
   ·unfold st0 at hv;rw[List.getElem?_append_left (by simpa using h),List.getElem?_map] at hv;cases e:own[i]? with
    | none=>rw[e] at hv;cases hv
    | some z=>rw[e] at hv;cases hv
   ·exact h
  have hx:(own++fr.map (·.1))[i]?=some x:=hx;unfold st0 at hv;rw[List.getElem?_append_right (by simpa using hi),List.getElem?_map] at hv;rw[List.getElem?_append_right hi,List.getElem?_map] at hx;rw[List.length_map] at hv;cases e:fr[i-own.length]? with
  | none=>rw[e] at hx;cases hx
  | some p =>
   rw[e] at hx hv;have ex:p.1=x:=Option.some.inj hx;have ev:(σ[p.2]?).join=some v:=Option.some.inj hv;obtain⟨hN,hfree⟩:=hfr p (List.mem_iff_getElem?.mpr ⟨_,e⟩);rw[ex] at hN hfree;have hk:=hc.free (x,.free) (lookup_mem' hfree) rfl;have hσ:σ[p.2]?=some (some v):=by
    cases q:σ[p.2]? with
    | none=>rw[q] at ev;cases ev
    | some o=>rw[q] at ev;exact congrArg some ev
   obtain⟨mX,nX,lX⟩:=I.loc;obtain⟨u,ru,look⟩:=lX p.2 x v hN hσ (.inr hk);refine⟨u,ru,.inr ⟨relabel_free hfree,?_⟩⟩;rcases look with ⟨k1,_⟩ | ⟨_,c,hcc,hcell⟩
   ·exfalso;have k1:X.env.scope.names.lookup x=some .local:=k1;rcases hk with q | q<;>(rw[k1] at q;cases q)
   ·refine⟨c,?_,?_⟩
    ·show (clo X.env scope.names []).lookup x=_;rw[clo_lookup,if_pos (List.any_eq_true.mpr ⟨(x,.free),lookup_mem' hfree,by simp⟩),hcc];rfl
    ·exact hcell.keeps hsb
 ·obtain⟨v,hv⟩:=I.cell x c (clX x c e);exact⟨v,hv.keeps hsb⟩
 ·have hp:p∈X.pn++pins:=by
   rcases List.mem_append.mp hp with q | q
   ·exact q
   ·cases q
  obtain⟨a1,a2,a3,a4,a5⟩:=I.pin p hp;refine⟨hsb _ _ a1,a2,Nat.ne_of_lt (Heap.lt_size a1),fun hm=>?_,a5⟩;have hm:=I.stkSub _ hm;rcases List.mem_cons.mp hm with q | q
  ·exact a3 q
  ·exact a4 q
 ·show (st0 own fr σ).length=(own++fr.map (·.1)).length;unfold st0;rw[List.length_append,List.length_append,List.length_map,List.length_map,List.length_map]
end
end L2
namespace L2
open PySem PySem.Spec PyProof.Rows
def PTs (X:Cx)(ifs:List Expr)(t:TT):Prop :=
 ∀ (pins:List (Addr×Obj)) (s:Shared) (σ:St) (H:Hp) (Q:Bool→Hp→Prop),Inv X pins σ H s→t σ H Q →
  wpAny (model X.prog X.w) X.A (forIn ifs true fun c r=>if r=true then do let ok ← isTrue c X.env (eval c X.env);pure (ForInStep.yield ok) else pure (ForInStep.yield r)) (TP X pins σ Q) X.xe s
def tYes:TT:=fun _ H Q=>Q true H
theorem pts_nil {X:Cx}:PTs X [] tYes:=fun pins s σ H Q I h=>wpAny_tests_nil ⟨H,I,h⟩
theorem pts_one {X:Cx}{c:Expr}{t:TT}(h:PT X c t):PTs X [c] t:=fun pins s σ H Q I q=>wpAny_tests_one (h pins s σ H Q I q)
theorem lcomp_loop {prog:Program}{w:World}{A:Around}{R:Result→Shared→Prop}{s:Shared}{elt target iter:Expr}{ifs:List Expr}{scope:Scope}{pos:Pos}{it acc:Value}{env:Env}(I:Nat→Shared→Prop)
  (turn:∀ n s,I n s→wpAny (model prog w) A (pyNext it) (fun r s₁=>match r with
   | none=>R (.ok .next) s₁
   | some v=>wpAny (model prog w) A (letOwnedTupleGo target it v) (fun _ s₁=>wpAny (model prog w) A (assign target env v) (fun _ s₂ =>
     wpAny (model prog w) A (forIn ifs true fun c r=>if r=true then do let ok ← isTrue c env (eval c env);pure (ForInStep.yield ok) else pure (ForInStep.yield r)) (fun ok s₃ =>
      if ok=true then wpAny (model prog w) A (eval elt env) (fun x s₄ =>
       wpAny (model prog w) A (call (.builtin "list.append") [acc,x]) (fun _ s₅=>∃ m,m<n∧I m s₅) (fun _ _=>False) s₄) (fun _ _=>False) s₃
      else ∃ m,m<n∧I m s₃) (fun _ _=>False) s₂) (fun _ _=>False) s₁) (fun _ _=>False) s₁) (fun _ _=>False) s)
  (n:Nat) (h:I n s):codeAny (model prog w) A (.compLoop (.ListComp elt [⟨target,iter,ifs,0⟩] scope pos) 0 it acc env) R s:=by
 refine codeAny_loop rfl I (fun n s hI=>?_) n h;show wpAny _ A ((compTurn (.ListComp elt [⟨target,iter,ifs,0⟩] scope pos) 0 it acc env).onRaise (fun x=>do noteFrame x env;theTreesLotGoes x)) _ _ s;refine wpAny_noted ?_;rw[compTurn_list];refine wpAny_bind (wpAny_standAt (wpAny_bind (wpAny_mono (turn n s hI) (fun r s₁ h₁=>?_) fun _ _ h'=>h'.elim)));cases r with
 | none=>exact wpAny_pure h₁
 | some v =>
  refine wpAny_bind (wpAny_mono h₁ (fun _ s₁ h₁=>?_) fun _ _ h'=>h'.elim);refine wpAny_bind (wpAny_mono h₁ (fun _ s₂ h₂=>wpAny_bind (wpAny_mono h₂ (fun ok s₃ h₃=>?_) fun _ _ h'=>h'.elim)) fun _ _ h'=>h'.elim);cases ok with
  | false=>exact wpAny_pure ⟨rfl,h₃⟩
  | true =>
   exact wpAny_bind (wpAny_bind (wpAny_mono h₃ (fun x s₄ h₄=>wpAny_bind (wpAny_mono h₄ (fun _ s₅ h₅=>wpAny_pure (wpAny_pure ⟨rfl,h₅⟩)) fun _ _ h'=>h'.elim)) fun _ _ h'=>h'.elim))
def lcW (g:TG)(tc:TT)(te:TE)(p:Addr)(J:It)(τ0:St)(H0:Hp)(E:Hp→Prop):Prop :=
 ∃ W:Nat→Nat→St→Hp→Prop,(∃ m,W 0 m τ0 H0)∧∀ i m τ H,W i m τ H →
  (J.stop i H∧E H)∨(J.go i H∧∃ N:St→Hp→Prop,(∀ τ' H',N τ' H'→∃ m',m'<m∧W (i+1) m' τ' H') ∧
   ∀ x H',J.yld i H x H'→g x τ H' fun τ2 H2=>tc τ2 H2 fun b H3=>if b=true then te τ2 H3 fun v H4=>∃ ys,H4 p=some (.lst ys)∧ys.length<sizeLine∧N τ2 (upd H4 p (.lst (ys++[v]))) else N τ2 H3)
def tLC (own:List Str)(fr:List (Str×Nat))(wi:TI)(g:TG)(tc:TT)(te:TE):TE:=fun σ H Q =>
 wi σ H fun J H1=>∀ p,H1 p=none→lcW g tc te p J (st0 own fr σ) (upd H1 p (.lst [])) fun H2=>Q (.ref p) H2
section
variable {X:Cx}{elt tg iter:Expr}{ifs:List Expr}{scope:Scope}{pos:Pos}{own:List Str}{fr:List (Str×Nat)}{wi:TI}{g:TG}{tc:TT}{te:TE}
structure Blk (X:Cx)(scope:Scope)(N':List Str)(tg:Expr)(ifs:List Expr)(elt:Expr)(g:TG)(tc:TT)(te:TE):Prop where
 run:∀ pins fp s H,PG (cxC X scope N' pins fp s H) tg g∧PTs (cxC X scope N' pins fp s H) ifs tc∧PE (cxC X scope N' pins fp s H) elt te
structure CFree (X:Cx)(pins:List (Addr×Obj))(H:Hp)(C:Addr):Prop where
 un:H C=none
 loc:C≠X.env.locals
 new:X.s₀.heap.objs.size≤C
 cel:∀ x c,X.env.cells.lookup x=some c→c≠C
 pin:∀ p∈X.pn++pins,p.1≠C
theorem CFree.inv {pins:List (Addr×Obj)}{σ:St}{H:Hp}{s:Shared}{C:Addr}{h':Heap}(f:CFree X pins H C)(I:Inv X pins σ H s)(hs:Heap.SameBut C s.heap h'):Inv X pins σ H {s with heap:=h'} :=
 I.turned (t':=s.toks) (fun b o hb e=>hs.extBut b o hb e) f.un f.loc (.inr f.new) f.cel f.pin
theorem lcomp_run {pins:List (Addr×Obj)}{σ:St}{H2:Hp}{s2:Shared}{it:Addr}{fp:List Addr}{tn:Nat→Heap→Prop}{J:It}{EE:Hp→Prop}{RR:Value→Addr→Result→Shared→Prop}{E:Value→Shared→Prop}
  (hcalm:X.calm=true) (hc:CompOk scope X.env.scope) (hfr:frOk X scope fr) (B:Blk X scope (own++fr.map (·.1)) tg ifs elt g tc te)
  (I2:Inv X pins σ H2 s2) (T:Turn X.prog X.w X.K tg J fp it tn) (st2:tn 0 s2.heap) (f2:∀ b∈fp,FpOk X pins H2 b)
  (hw:lcW g tc te s2.heap.objs.size J (st0 own fr σ) (upd H2 s2.heap.objs.size (.lst [])) EE)
  (hRR:∀ C H' s' m,EE H'→s'.heap.Ns C m→Inv X pins σ H' s'→CFree X pins H' C→RR (.ref s2.heap.objs.size) C (.ok .next) s') :
  wpAny (model X.prog X.w) X.A (newList []) (fun acc s₃=>wpAny (model X.prog X.w) X.A (newFunctionEnv scope X.env.globals (clo X.env scope.names []) [] X.env.qual none .none (some X.env)) (fun cenv s₄ =>
   codeAny (model X.prog X.w) X.A (.compStart (.ListComp elt [⟨tg,iter,ifs,0⟩] scope pos) 0 (.ref it) acc {cenv with scope:=relabel scope X.env}) (RR acc cenv.locals) s₄) E s₃) E s2:=by
 have I3:Inv X pins σ (upd H2 s2.heap.objs.size (.lst [])) {s2 with heap:=s2.heap.push {cls:=.type "list",data:=.seq ([]:List Value).toArray},toks:=s2.toks}:=I2.lnew (ys:=[]) (its:=[]) (t':=s2.toks) .nil (Nat.zero_le _);generalize hs3:({s2 with heap:=s2.heap.push {cls:=.type "list",data:=.seq ([]:List Value).toArray},toks:=s2.toks}:Shared)=s3 at I3;have hsz3:s3.heap.objs.size=s2.heap.objs.size+1:=by rw[← hs3];exact Heap.size_push ..
 have k3:∀ b o,s2.heap.get? b=some o→s3.heap.get? b=some o:=fun b o e=>by rw[← hs3];exact Heap.get?_push_of_some _ e
 have hlt:∀ b∈fp,b<s2.heap.objs.size:=fun b hb=>let ⟨o,e,_⟩:=T.obj _ _ st2 b hb;Heap.lt_size e
 have f3:∀ b∈fp,FpOk X pins (upd H2 s2.heap.objs.size (.lst [])) b:=fun b hb=>⟨by rw[upd_ne (Nat.ne_of_lt (hlt b hb))];exact (f2 b hb).1,(f2 b hb).2⟩
 have st3:tn 0 s3.heap:=T.keep _ _ _ st2 fun b _ o e=>k3 b o e
 refine wpAny_newObj_type ?_;have e3:({s2 with heap:=s2.heap.push {cls:=.type "list",dict:=none,data:=.seq ([]:List Value).toArray}}:Shared)=s3:=hs3;rw[e3];refine wpAny_newFunctionEnv hc.noCell (by intro y hy;cases hy) (fun h₁ hns₁ hsb₁=>?_) hc.kind;have k4:∀ b o,s3.heap.get? b=some o→h₁.get? b=some o:=fun b o e=>hsb₁.extBut b o (Nat.ne_of_lt (Heap.lt_size e)) (Heap.get?_push_of_some _ e)
 have I4:=inv_comp (own:=own) I3 hc hcalm f3 (fun b hb=>Nat.lt_of_lt_of_le (hlt b hb) (by rw[hsz3];exact Nat.le_succ _)) hfr hns₁ k4;obtain⟨bg,bt,be⟩:=B.run pins fp s3 (upd H2 s2.heap.objs.size (.lst []));generalize hX':cxC X scope (own++fr.map (·.1)) pins fp s3 (upd H2 s2.heap.objs.size (.lst []))=X' at I4 bg bt be;have eP:X'.prog=X.prog:=by rw[← hX'];rfl
 have eW:X'.w=X.w:=by rw[← hX'];rfl
 have eK:X'.K=X.K:=by rw[← hX'];rfl
 have eA:X'.A=X.A:=by rw[← hX'];rfl
 have eC:X'.calm=true:=by rw[← hX'];rfl
 have eX:X'.xe=fun _ _=>False:=by rw[← hX'];rfl
 have eE:X'.env=compEnvC scope (clo X.env scope.names []) s3.heap.objs.size X.env:=by rw[← hX'];rfl
 have fC:∀ {H':Hp},(∀ b∈fp,H' b=none)→∀ b∈fp,FpOk X' [] H' b:=fun hn b hb=>by
  have hb':=f3 b hb;refine⟨hn b hb,?_,?_,?_,?_,?_⟩
  ·exact (I4.ok.exf b (by rw[← hX'];exact hb)).1
  ·exact I4.ok.exfs b (by rw[← hX'];exact hb)
  ·left;rw[← hX'];exact hb
  ·exact (I4.ok.exf b (by rw[← hX'];exact hb)).2
  ·intro p hp;have hp:p∈X.pn++pins:=by
    rw[← hX'] at hp;rcases List.mem_append.mp hp with q | q
    ·exact q
    ·cases q
   exact hb'.2.2.2.2.2 p hp
 obtain⟨W,⟨m0,w0⟩,turn⟩:=hw;have cenvE:({(newEnv scope s3.heap.objs.size X.env.globals (clo X.env scope.names []) X.env.qual none .none (some X.env) builtinsNs) with scope:=relabel scope X.env}:Env)=X'.env:=by rw[eE];rfl
 have loop:∀ s4:Shared,Inv X' [] (st0 own fr σ) (upd H2 s2.heap.objs.size (.lst [])) s4→tn 0 s4.heap →
   codeAny (model X.prog X.w) X.A (.compLoop (.ListComp elt [⟨tg,iter,ifs,0⟩] scope pos) 0 (.ref it) (.ref s2.heap.objs.size) X'.env) (RR (.ref s2.heap.objs.size) s3.heap.objs.size) s4:=by
  intro s4 J4 t4;refine lcomp_loop (fun n s'=>∃ i τ H',Inv X' [] τ H' s'∧tn i s'.heap∧(∀ b∈fp,H' b=none)∧W i n τ H') ?_ m0 ⟨0,_,_,J4,t4,fun b hb=>(f3 b hb).1,w0⟩;rintro n s5 ⟨i,τ5,H5,I5,t5,fr5,w5⟩;rcases turn i n τ5 H5 w5 with ⟨stop,qn⟩ | ⟨go,N,hN,step⟩
  ·have hd:=T.done X' eP eW eK eC i [] s5 τ5 H5 (fun _ _=>False) I5 (fC fr5) t5 stop;rw[eA] at hd;refine thn hd fun r s6 ⟨hr,I6⟩=>?_
   subst hr;have hbase:Un (frs X.stack) fp (upd H2 s2.heap.objs.size (.lst [])) H5 s3.heap s6.heap:=by have:=I6.base;rw[← hX'] at this;exact this
   have hok6:HOk X.prog X.w H5 s6.heap:=by have:=I6.hok;rw[eP,eW] at this;exact this
   have os6:s6.os=s3.os:=by have:=I6.os;rw[← hX'] at this;exact this
   obtain⟨m6,n6,_⟩:=I6.loc;have n6:s6.heap.Ns s3.heap.objs.size m6:=by rw[eE] at n6;exact n6
   have free6:H5 s3.heap.objs.size=none:=by have:=I6.free;rw[eE] at this;exact this
   refine hRR s3.heap.objs.size H5 s6 m6 qn n6 (I3.call' os6 hbase hok6 I6.bare fun b hb=>⟨(f3 b hb).2.2.2.1,(f3 b hb).2.1,(f3 b hb).2.2.2.2.1,(f3 b hb).2.2.2.2.2⟩) ⟨free6,?_,I3.sz,?_,?_⟩
   ·exact (Nat.ne_of_lt I3.lt).symm
   ·intro x c e z;obtain⟨v,hv⟩:=I3.cell x c e;have:=hv.lt;rw[z] at this;exact Nat.lt_irrefl _ this
   ·intro p hp z;have:=Heap.lt_size (I3.pin p hp).1;rw[z] at this;exact Nat.lt_irrefl _ this
  ·have hi:=T.item X' eP eW eK eC i [] s5 τ5 H5 (fun _ _=>False) I5 (fC fr5) t5 go;rw[eA] at hi;refine thn hi fun r s6 ⟨u,hr,h6⟩=>?_
   subst hr;refine thn h6 fun _ s7 ⟨x,H7,I7,r7,y7,t7,fr7⟩=>?_
   have I7':=I7.pinned (fC fr7) (T.obj _ _ t7);have again:∀ {τ:St} {H':Hp} {s':Shared},Inv X' ([]++pinsAt fp s7.heap) τ H' s'→N τ H'→∃ m,m<n∧∃ i τ H',Inv X' [] τ H' s'∧tn i s'.heap∧(∀ b∈fp,H' b=none)∧W i m τ H':=fun {τ H' s'} I8 n8=>by
    obtain⟨m',hm,w8⟩:=hN τ H' n8;refine⟨m',hm,i+1,τ,H',I8.unpinned,T.keep _ _ _ t7 fun b hb o e=>(I8.pin (b,o) (List.mem_append_right _ (List.mem_append_right _ (mem_pinsAt hb e)))).1,fun b hb=>?_,w8⟩;obtain⟨o,e,d⟩:=T.obj _ _ t7 b hb;exact (I8.pin (b,o) (List.mem_append_right _ (List.mem_append_right _ (mem_pinsAt hb e)))).2.1
   have hg:=bg _ s7 τ5 H7 x u _ I7' r7 (step x H7 y7);rw[eP,eW,eA,eX] at hg;refine thn hg fun _ s8 ⟨τ8,H8,I8,q8⟩=>?_
   have ht:=bt _ s8 τ8 H8 _ I8 q8;rw[eP,eW,eA,eX] at ht;refine thn ht fun ok s9 ⟨H9,I9,q9⟩=>?_
   cases ok with
   | false=>exact again I9 q9
   | true =>
    rw[if_pos rfl] at q9 ⊢;have hv:=be _ s9 τ8 H9 _ I9 q9;rw[eP,eW,eA,eX] at hv;refine thn hv fun y s10 ⟨v,H10,I10,r10,ys,hl,hlen,n10⟩=>?_
    have ha:=mt_append (X:=X') _ s10 τ8 H10 (.ref s2.heap.objs.size) [v] (.ref s2.heap.objs.size) [y] (fun _ H'=>N τ8 H') I10 rfl (.cons r10 .nil) ⟨_,_,_,rfl,rfl,hl,hlen,n10⟩;rw[eP,eW,eA,eX] at ha;exact thn ha fun _ s11 ⟨_,H11,I11,_,n11⟩=>again I11 n11
 have st4:tn 0 h₁:=T.keep _ _ _ st3 fun b _ o e=>k4 b o e
 show codeAny (model X.prog X.w) X.A (.compStart (.ListComp elt [⟨tg,iter,ifs,0⟩] scope pos) 0 (.ref it) (.ref s2.heap.objs.size) ({(newEnv scope s3.heap.objs.size X.env.globals (clo X.env scope.names []) X.env.qual none .none (some X.env) builtinsNs) with scope:=relabel scope X.env}:Env)) (RR (.ref s2.heap.objs.size) s3.heap.objs.size) _;rw[cenvE];exact codeAny_compStart_list (loop _ I4 st4) (T.self X.A 0 _ _ _ st4 (loop _ I4 st4))
theorem clo_ok {pins:List (Addr×Obj)}{σ:St}{H:Hp}{s:Shared}(I:Inv X pins σ H s)(hc:CompOk scope X.env.scope):closureFor scope X.env=pure (clo X.env scope.names []) :=
 closure_clo fun y hy e=>I.ok.has y.1 (hc.free y hy e)
theorem pe_lcomp (hcalm:X.calm=true)(hc:compOk scope X.env.scope=true)(hfr:frOk X scope fr)(hi:PI X tg iter wi)(B:Blk X scope (own++fr.map (·.1)) tg ifs elt g tc te)
  (hs:∀ x,foldedSetIterable iter X.env x=pure x:=by intro _;rfl):PE X (.ListComp elt [⟨tg,iter,ifs,0⟩] scope pos) (tLC own fr wi g tc te):=by
 intro pins s σ H Q I h;have hc:=compOk_of hc;rw[eval_ListComp];refine wpAny_comprehension_free (use:=none) rfl hs (clo_ok I hc) hc.kind hc.loc (thn (hi pins s σ H _ I h) fun v s1 h1=>thn h1 fun itv s2 h2=>?_);obtain⟨it,fp,tn,J,H2,e,I2,T,st2,f2,hw⟩:=h2;subst e;refine lcomp_run (RR:=fun acc C=>compPost (model X.prog X.w) X.A X.xe none (EP X pins σ Q) acc C) hcalm hc hfr B I2 T st2 f2 (hw _ I2.fresh) ?_;intro C H' s' m q n I' f;exact⟨m,n,fun h' hs'=>⟨.ref s2.heap.objs.size,H',f.inv I' hs',rfl,q⟩⟩
theorem ps_setLC {i:Nat}{x:Str}{px spos:Pos}(hcalm:X.calm=true)(hN:X.N.Nodup)(hx:X.N[i]?=some x)(hl:X.env.scope.names.lookup x=some .local)(hsw:swapsWith (.ListComp elt [⟨tg,iter,ifs,0⟩] scope pos) (some (.Name x px)) spos.line X.env=pure true)
  (hc:compOk scope X.env.scope=true) (hfr:frOk X scope fr) (hi:PI X tg iter wi) (B:Blk X scope (own++fr.map (·.1)) tg ifs elt g tc te)
  (hs:∀ x,foldedSetIterable iter X.env x=pure x:=by intro _;rfl):PS X (.Assign [.Name x px] (.ListComp elt [⟨tg,iter,ifs,0⟩] scope pos) spos) (tAsg (tLC own fr wi g tc te) (gName i)):=by
 intro pins s σ H D I h;have hc:=compOk_of hc;rw[exec_Assign_Name_used _ _ _ _ hsw];refine wpAny_bind (wpAny_standAt (wpAny_bind ?_));show wpAny _ X.A (do let _ ← comprehension (.ListComp elt [⟨tg,iter,ifs,0⟩] scope pos) scope X.env _ (newList []) false (eval iter X.env) (some (assign (.Name x px) X.env))) _ _ s
 refine wpAny_bind (wpAny_mono (wpAny_comprehension_free (use:=some (assign (.Name x px) X.env)) (Q:=fun _ s'=>SP X pins D .next s') rfl hs (clo_ok I hc) hc.kind hc.loc
  (thn (hi pins s σ H _ I h) fun v s1 h1=>thn h1 fun itv s2 h2=>?_)) (fun _ s' hq=>wpAny_pure (wpAny_pure hq)) fun _ _ e=>e)
 obtain⟨it,fp,tn,J,H2,e,I2,T,st2,f2,hw⟩:=h2;subst e;refine lcomp_run (RR:=fun acc C=>compPost (model X.prog X.w) X.A X.xe (some (assign (.Name x px) X.env)) (fun _ s'=>SP X pins D .next s') acc C) hcalm hc hfr B I2 T st2 f2 (hw _ I2.fresh) ?_;intro C H' s' m q n I' f;show wpAny _ X.A (assign (.Name x px) X.env (.ref s2.heap.objs.size)) _ _ _;refine wpAny_assign_Name (store_ok2 I' hN hx (.inl hl) (v:=.ref s2.heap.objs.size) rfl (fun s'' I'' hch=>?_) (.inr hl));obtain⟨a,sb,ha⟩:=hch;have hCa:C≠a:=by
  rcases ha with ha | ha
  ·rw[ha];exact f.loc
  ·exact fun z=>f.cel x a ha z.symm
 exact⟨m,n.sameBut sb hCa,fun h' hs'=>⟨_,H',f.inv I'' hs',q⟩⟩
end
end L2
namespace L2
open PySem PySem.Spec PyProof.Rows
theorem dcomp_loop {prog:Program}{w:World}{A:Around}{R:Result→Shared→Prop}{s:Shared}{kx vx target iter:Expr}{ifs:List Expr}{scope:Scope}{pos:Pos}{it:Value}{D:Addr}{env:Env}(I:Nat→Shared→Prop)
  (turn:∀ n s,I n s→wpAny (model prog w) A (pyNext it) (fun r s₁=>match r with
   | none=>R (.ok .next) s₁
   | some v=>wpAny (model prog w) A (letOwnedTupleGo target it v) (fun _ s₁=>wpAny (model prog w) A (assign target env v) (fun _ s₂ =>
     wpAny (model prog w) A (forIn ifs true fun c r=>if r=true then do let ok ← isTrue c env (eval c env);pure (ForInStep.yield ok) else pure (ForInStep.yield r)) (fun ok s₃ =>
      if ok=true then wpAny (model prog w) A (eval kx env) (fun kv s₄=>wpAny (model prog w) A (eval vx env) (fun vv s₄ =>
       wpAny (model prog w) A (dictSet D kv vv) (fun _ s₅=>∃ m,m<n∧I m s₅) (fun _ _=>False) s₄) (fun _ _=>False) s₄) (fun _ _=>False) s₃
      else ∃ m,m<n∧I m s₃) (fun _ _=>False) s₂) (fun _ _=>False) s₁) (fun _ _=>False) s₁) (fun _ _=>False) s)
  (n:Nat) (h:I n s):codeAny (model prog w) A (.compLoop (.DictComp kx vx [⟨target,iter,ifs,0⟩] scope pos) 0 it (.ref D) env) R s:=by
 refine codeAny_loop rfl I (fun n s hI=>?_) n h;show wpAny _ A ((compTurn (.DictComp kx vx [⟨target,iter,ifs,0⟩] scope pos) 0 it (.ref D) env).onRaise (fun x=>do noteFrame x env;theTreesLotGoes x)) _ _ s;refine wpAny_noted ?_;rw[compTurn_dict];refine wpAny_bind (wpAny_standAt (wpAny_bind (wpAny_mono (turn n s hI) (fun r s₁ h₁=>?_) fun _ _ h'=>h'.elim)));cases r with
 | none=>exact wpAny_pure h₁
 | some v =>
  refine wpAny_bind (wpAny_mono h₁ (fun _ s₁ h₁=>?_) fun _ _ h'=>h'.elim);refine wpAny_bind (wpAny_mono h₁ (fun _ s₂ h₂=>wpAny_bind (wpAny_mono h₂ (fun ok s₃ h₃=>?_) fun _ _ h'=>h'.elim)) fun _ _ h'=>h'.elim);cases ok with
  | false=>exact wpAny_pure ⟨rfl,h₃⟩
  | true =>
   exact wpAny_bind (wpAny_bind (wpAny_mono h₃ (fun kv s₄ h₄=>wpAny_bind (wpAny_holding (wpAny_mono h₄ (fun vv s₅ h₅=>wpAny_bind (wpAny_standAt (wpAny_holding (wpAny_mono h₅ (fun _ s₆ h₆=>wpAny_pure ⟨rfl,h₆⟩) fun _ _ h'=>h'.elim)))) fun _ _ h'=>h'.elim))) fun _ _ h'=>h'.elim))
theorem d_dictSet {X:Cx}{pins:List (Addr×Obj)}{σ:St}{H:Hp}{s:Shared}{a:Addr}{y v:V}{u r:Value}{A:Around}{E:Value→Shared→Prop}{H':Hp}{Q:Unit→Shared→Prop}(hu:A.units+1<cLine)(I:Inv X pins σ H s)(g:DPut H a y v H')(ry:RelV y u)(rv:RelV v r)(h:∀ s',Inv X pins σ H' s'→Q () s') :
  wpAny (model X.prog X.w) A (dictSet a u r) Q E s:=by
 rcases g with ⟨kvs,k,e,ey,l,eH⟩ | ⟨kvs,k,b,e,ey,eb,l,eH⟩
 ·subst ey eH;obtain⟨z,hd,vs,rel,dd⟩:=dk_of I.hok e;have hz:vs.length≤sizeLine:=by rw[← rel.length];exact z
  have hl:(putK kvs k v).length≤sizeLine:=by have:=length_putK kvs k v;omega
  refine wpAny_dictSet_pairs (hsz:=hz) (kV_is ry) dd fun h' dd' hs=>h _ ?_
  have he:∃ q,h'.get? a=some q:=let ⟨q,_,_,hq,_⟩:=dd';⟨q,hq⟩;exact d_write I (by rw[e];exact True.intro) hs he (dk_new hl hd (rel.put k rv) dd')
 ·subst ey eH;cases (show u=Value.ref b from ry);obtain⟨z,hd,xs,rel,dd⟩:=dt_of I.hok e;have hz:xs.length≤sizeLine:=by rw[← Paired.length rel];exact z
  have hl:(putK kvs k v).length≤sizeLine:=by have:=length_putK kvs k v;omega
  refine wpAny_dictSet_heap (hsz:=hz) (show (tupleKind (mixKind X.prog X.w)).room A from Nat.lt_of_succ_lt hu) (key_of I.hok eb) dd fun h' dd' hs=>h _ ?_
  obtain⟨q,es,ep,hq,h2,h3,h4,_,h5⟩:=dd';refine d_write I (by rw[e];exact True.intro) hs ⟨q,hq⟩ ⟨hl,hd,_,(rel.put k eb rv).keeps fun c ys ec=>?_,q,es,ep,hq,h2,h3,h4,h5⟩;rw[upd_ne (ne_of ec e (fun z=>nomatch z))];exact ec
def dNew:Bool→HO
 | true=>.dT []
 | false=>.dK []
theorem dnew_ok {P:Program}{w:World}{H:Hp}(h:Heap)(hb:sysModules<h.objs.size):∀ t,ObjOk P w H (h.push {cls:=.type "dict",data:=.dict #[]}) h.objs.size (dNew t)
 | true=>dt_empty h hb
 | false=>dk_empty h hb
def dcW (g:TG)(tc:TT)(te tv:TE)(p:Addr)(J:It)(τ0:St)(H0:Hp)(E:Hp→Prop):Prop :=
 ∃ W:Nat→Nat→St→Hp→Prop,(∃ m,W 0 m τ0 H0)∧∀ i m τ H,W i m τ H →
  (J.stop i H∧E H)∨(J.go i H∧∃ N:St→Hp→Prop,(∀ τ' H',N τ' H'→∃ m',m'<m∧W (i+1) m' τ' H') ∧
   ∀ x H',J.yld i H x H'→g x τ H' fun τ2 H2=>tc τ2 H2 fun b H3=>if b=true then te τ2 H3 fun k H4=>tv τ2 H4 fun v H5=>∃ H6,DPut H5 p k v H6∧N τ2 H6 else N τ2 H3)
def tDC (t:Bool)(own:List Str)(fr:List (Str×Nat))(wi:TI)(g:TG)(tc:TT)(te tv:TE):TE:=fun σ H Q =>
 wi σ H fun J H1=>∀ p,H1 p=none→dcW g tc te tv p J (st0 own fr σ) (upd H1 p (dNew t)) fun H2=>Q (.ref p) H2
section
variable {X:Cx}{kx vx tg iter:Expr}{ifs:List Expr}{scope:Scope}{pos:Pos}{own:List Str}{fr:List (Str×Nat)}{wi:TI}{g:TG}{tc:TT}{te tv:TE}
structure BlkD (X:Cx)(scope:Scope)(N':List Str)(tg:Expr)(ifs:List Expr)(kx vx:Expr)(g:TG)(tc:TT)(te tv:TE):Prop where
 run:∀ pins fp s H,PG (cxC X scope N' pins fp s H) tg g∧PTs (cxC X scope N' pins fp s H) ifs tc∧PE (cxC X scope N' pins fp s H) kx te∧PE (cxC X scope N' pins fp s H) vx tv
theorem dcomp_run {pins:List (Addr×Obj)}{σ:St}{H2:Hp}{s2:Shared}{it:Addr}{fp:List Addr}{tn:Nat→Heap→Prop}{J:It}{EE:Hp→Prop}{RR:Value→Addr→Result→Shared→Prop}{E:Value→Shared→Prop}
  (t:Bool) (hu:X.A.units+1<cLine) (hcalm:X.calm=true) (hc:CompOk scope X.env.scope) (hfr:frOk X scope fr) (B:BlkD X scope (own++fr.map (·.1)) tg ifs kx vx g tc te tv)
  (I2:Inv X pins σ H2 s2) (T:Turn X.prog X.w X.K tg J fp it tn) (st2:tn 0 s2.heap) (f2:∀ b∈fp,FpOk X pins H2 b)
  (hw:dcW g tc te tv s2.heap.objs.size J (st0 own fr σ) (upd H2 s2.heap.objs.size (dNew t)) EE)
  (hRR:∀ C H' s' m,EE H'→s'.heap.Ns C m→Inv X pins σ H' s'→CFree X pins H' C→RR (.ref s2.heap.objs.size) C (.ok .next) s') :
  wpAny (model X.prog X.w) X.A newDict (fun acc s₃=>wpAny (model X.prog X.w) X.A (newFunctionEnv scope X.env.globals (clo X.env scope.names []) [] X.env.qual none .none (some X.env)) (fun cenv s₄ =>
   codeAny (model X.prog X.w) X.A (.compStart (.DictComp kx vx [⟨tg,iter,ifs,0⟩] scope pos) 0 (.ref it) acc {cenv with scope:=relabel scope X.env}) (RR acc cenv.locals) s₄) E s₃) E s2:=by
 have I3:Inv X pins σ (upd H2 s2.heap.objs.size (dNew t)) {s2 with heap:=s2.heap.push {cls:=.type "dict",data:=.dict #[]},toks:=s2.toks}:=I2.laid (t':=s2.toks) (fun _ _ q=>Heap.get?_push_of_some _ q) (Nat.le_refl _) (dnew_ok s2.heap I2.big t);generalize hs3:({s2 with heap:=s2.heap.push {cls:=.type "dict",data:=.dict #[]},toks:=s2.toks}:Shared)=s3 at I3;have hsz3:s3.heap.objs.size=s2.heap.objs.size+1:=by rw[← hs3];exact Heap.size_push ..
 have k3:∀ b o,s2.heap.get? b=some o→s3.heap.get? b=some o:=fun b o e=>by rw[← hs3];exact Heap.get?_push_of_some _ e
 have hlt:∀ b∈fp,b<s2.heap.objs.size:=fun b hb=>let ⟨o,e,_⟩:=T.obj _ _ st2 b hb;Heap.lt_size e
 have f3:∀ b∈fp,FpOk X pins (upd H2 s2.heap.objs.size (dNew t)) b:=fun b hb=>⟨by rw[upd_ne (Nat.ne_of_lt (hlt b hb))];exact (f2 b hb).1,(f2 b hb).2⟩
 have st3:tn 0 s3.heap:=T.keep _ _ _ st2 fun b _ o e=>k3 b o e
 refine wpAny_newObj_type ?_;have e3:({s2 with heap:=s2.heap.push {cls:=.type "dict",dict:=none,data:=.dict #[]}}:Shared)=s3:=hs3;rw[e3];refine wpAny_newFunctionEnv hc.noCell (by intro y hy;cases hy) (fun h₁ hns₁ hsb₁=>?_) hc.kind;have k4:∀ b o,s3.heap.get? b=some o→h₁.get? b=some o:=fun b o e=>hsb₁.extBut b o (Nat.ne_of_lt (Heap.lt_size e)) (Heap.get?_push_of_some _ e)
 have I4:=inv_comp (own:=own) I3 hc hcalm f3 (fun b hb=>Nat.lt_of_lt_of_le (hlt b hb) (by rw[hsz3];exact Nat.le_succ _)) hfr hns₁ k4;obtain⟨bg,bt,be,bv⟩:=B.run pins fp s3 (upd H2 s2.heap.objs.size (dNew t));generalize hX':cxC X scope (own++fr.map (·.1)) pins fp s3 (upd H2 s2.heap.objs.size (dNew t))=X' at I4 bg bt be bv;have eP:X'.prog=X.prog:=by rw[← hX'];rfl
 have eW:X'.w=X.w:=by rw[← hX'];rfl
 have eK:X'.K=X.K:=by rw[← hX'];rfl
 have eA:X'.A=X.A:=by rw[← hX'];rfl
 have eC:X'.calm=true:=by rw[← hX'];rfl
 have eX:X'.xe=fun _ _=>False:=by rw[← hX'];rfl
 have eE:X'.env=compEnvC scope (clo X.env scope.names []) s3.heap.objs.size X.env:=by rw[← hX'];rfl
 have fC:∀ {H':Hp},(∀ b∈fp,H' b=none)→∀ b∈fp,FpOk X' [] H' b:=fun hn b hb=>by
  have hb':=f3 b hb;refine⟨hn b hb,?_,?_,?_,?_,?_⟩
  ·exact (I4.ok.exf b (by rw[← hX'];exact hb)).1
  ·exact I4.ok.exfs b (by rw[← hX'];exact hb)
  ·left;rw[← hX'];exact hb
  ·exact (I4.ok.exf b (by rw[← hX'];exact hb)).2
  ·intro p hp;have hp:p∈X.pn++pins:=by
    rw[← hX'] at hp;rcases List.mem_append.mp hp with q | q
    ·exact q
    ·cases q
   exact hb'.2.2.2.2.2 p hp
 obtain⟨W,⟨m0,w0⟩,turn⟩:=hw;have cenvE:({(newEnv scope s3.heap.objs.size X.env.globals (clo X.env scope.names []) X.env.qual none .none (some X.env) builtinsNs) with scope:=relabel scope X.env}:Env)=X'.env:=by rw[eE];rfl
 have loop:∀ s4:Shared,Inv X' [] (st0 own fr σ) (upd H2 s2.heap.objs.size (dNew t)) s4→tn 0 s4.heap →
   codeAny (model X.prog X.w) X.A (.compLoop (.DictComp kx vx [⟨tg,iter,ifs,0⟩] scope pos) 0 (.ref it) (.ref s2.heap.objs.size) X'.env) (RR (.ref s2.heap.objs.size) s3.heap.objs.size) s4:=by
  intro s4 J4 t4;refine dcomp_loop (fun n s'=>∃ i τ H',Inv X' [] τ H' s'∧tn i s'.heap∧(∀ b∈fp,H' b=none)∧W i n τ H') ?_ m0 ⟨0,_,_,J4,t4,fun b hb=>(f3 b hb).1,w0⟩;rintro n s5 ⟨i,τ5,H5,I5,t5,fr5,w5⟩;rcases turn i n τ5 H5 w5 with ⟨stop,qn⟩ | ⟨go,N,hN,step⟩
  ·have hd:=T.done X' eP eW eK eC i [] s5 τ5 H5 (fun _ _=>False) I5 (fC fr5) t5 stop;rw[eA] at hd;refine thn hd fun r s6 ⟨hr,I6⟩=>?_
   subst hr;have hbase:Un (frs X.stack) fp (upd H2 s2.heap.objs.size (dNew t)) H5 s3.heap s6.heap:=by have:=I6.base;rw[← hX'] at this;exact this
   have hok6:HOk X.prog X.w H5 s6.heap:=by have:=I6.hok;rw[eP,eW] at this;exact this
   have os6:s6.os=s3.os:=by have:=I6.os;rw[← hX'] at this;exact this
   obtain⟨m6,n6,_⟩:=I6.loc;have n6:s6.heap.Ns s3.heap.objs.size m6:=by rw[eE] at n6;exact n6
   have free6:H5 s3.heap.objs.size=none:=by have:=I6.free;rw[eE] at this;exact this
   refine hRR s3.heap.objs.size H5 s6 m6 qn n6 (I3.call' os6 hbase hok6 I6.bare fun b hb=>⟨(f3 b hb).2.2.2.1,(f3 b hb).2.1,(f3 b hb).2.2.2.2.1,(f3 b hb).2.2.2.2.2⟩) ⟨free6,?_,I3.sz,?_,?_⟩
   ·exact (Nat.ne_of_lt I3.lt).symm
   ·intro x c e z;obtain⟨v,hv⟩:=I3.cell x c e;have:=hv.lt;rw[z] at this;exact Nat.lt_irrefl _ this
   ·intro p hp z;have:=Heap.lt_size (I3.pin p hp).1;rw[z] at this;exact Nat.lt_irrefl _ this
  ·have hi:=T.item X' eP eW eK eC i [] s5 τ5 H5 (fun _ _=>False) I5 (fC fr5) t5 go;rw[eA] at hi;refine thn hi fun r s6 ⟨u,hr,h6⟩=>?_
   subst hr;refine thn h6 fun _ s7 ⟨x,H7,I7,r7,y7,t7,fr7⟩=>?_
   have I7':=I7.pinned (fC fr7) (T.obj _ _ t7);have again:∀ {τ:St} {H':Hp} {s':Shared},Inv X' ([]++pinsAt fp s7.heap) τ H' s'→N τ H'→∃ m,m<n∧∃ i τ H',Inv X' [] τ H' s'∧tn i s'.heap∧(∀ b∈fp,H' b=none)∧W i m τ H':=fun {τ H' s'} I8 n8=>by
    obtain⟨m',hm,w8⟩:=hN τ H' n8;refine⟨m',hm,i+1,τ,H',I8.unpinned,T.keep _ _ _ t7 fun b hb o e=>(I8.pin (b,o) (List.mem_append_right _ (List.mem_append_right _ (mem_pinsAt hb e)))).1,fun b hb=>?_,w8⟩;obtain⟨o,e,d⟩:=T.obj _ _ t7 b hb;exact (I8.pin (b,o) (List.mem_append_right _ (List.mem_append_right _ (mem_pinsAt hb e)))).2.1
   have hg:=bg _ s7 τ5 H7 x u _ I7' r7 (step x H7 y7);rw[eP,eW,eA,eX] at hg;refine thn hg fun _ s8 ⟨τ8,H8,I8,q8⟩=>?_
   have ht:=bt _ s8 τ8 H8 _ I8 q8;rw[eP,eW,eA,eX] at ht;refine thn ht fun ok s9 ⟨H9,I9,q9⟩=>?_
   cases ok with
   | false=>exact again I9 q9
   | true =>
    rw[if_pos rfl] at q9 ⊢;have hv:=be _ s9 τ8 H9 _ I9 q9;rw[eP,eW,eA,eX] at hv;refine thn hv fun ky s10 ⟨kk,H10,I10,r10,q10⟩=>?_
    have hv:=bv _ s10 τ8 H10 _ I10 q10;rw[eP,eW,eA,eX] at hv;refine thn hv fun y s11 ⟨v,H11,I11,r11,H12,dp,n12⟩=>?_
    have ha:=d_dictSet (A:=X.A) (E:=fun _ _=>False) (Q:=fun _ s12=>Inv X' ([]++pinsAt fp s7.heap) τ8 H12 s12) hu I11 dp r10 r11 fun s12 I12=>I12
    rw[eP,eW] at ha;exact thn ha fun _ s12 I12=>again I12 n12
 have st4:tn 0 h₁:=T.keep _ _ _ st3 fun b _ o e=>k4 b o e
 show codeAny (model X.prog X.w) X.A (.compStart (.DictComp kx vx [⟨tg,iter,ifs,0⟩] scope pos) 0 (.ref it) (.ref s2.heap.objs.size) ({(newEnv scope s3.heap.objs.size X.env.globals (clo X.env scope.names []) X.env.qual none .none (some X.env) builtinsNs) with scope:=relabel scope X.env}:Env)) (RR (.ref s2.heap.objs.size) s3.heap.objs.size) _;rw[cenvE];exact codeAny_compStart_dict (loop _ I4 st4) (T.self X.A 0 _ _ _ st4 (loop _ I4 st4))
theorem pe_dcomp (t:Bool)(hu:X.A.units+1<cLine)(hcalm:X.calm=true)(hc:compOk scope X.env.scope=true)(hfr:frOk X scope fr)(hi:PI X tg iter wi)(B:BlkD X scope (own++fr.map (·.1)) tg ifs kx vx g tc te tv)
  (hs:∀ x,foldedSetIterable iter X.env x=pure x:=by intro _;rfl):PE X (.DictComp kx vx [⟨tg,iter,ifs,0⟩] scope pos) (tDC t own fr wi g tc te tv):=by
 intro pins s σ H Q I h;have hc:=compOk_of hc;rw[arm_eval_DictComp];refine wpAny_comprehension_free (use:=none) rfl hs (clo_ok I hc) hc.kind hc.loc (thn (hi pins s σ H _ I h) fun v s1 h1=>thn h1 fun itv s2 h2=>?_);obtain⟨it,fp,tn,J,H2,e,I2,T,st2,f2,hw⟩:=h2;subst e;refine dcomp_run (RR:=fun acc C=>compPost (model X.prog X.w) X.A X.xe none (EP X pins σ Q) acc C) t hu hcalm hc hfr B I2 T st2 f2 (hw _ I2.fresh) ?_;intro C H' s' m q n I' f;exact⟨m,n,fun h' hs'=>⟨.ref s2.heap.objs.size,H',f.inv I' hs',rfl,q⟩⟩
theorem ps_setDC {i:Nat}{x:Str}{px spos:Pos}(t:Bool)(hu:X.A.units+1<cLine)(hcalm:X.calm=true)(hN:X.N.Nodup)(hx:X.N[i]?=some x)(hl:X.env.scope.names.lookup x=some .local)(hsw:swapsWith (.DictComp kx vx [⟨tg,iter,ifs,0⟩] scope pos) (some (.Name x px)) spos.line X.env=pure true)
  (hc:compOk scope X.env.scope=true) (hfr:frOk X scope fr) (hi:PI X tg iter wi) (B:BlkD X scope (own++fr.map (·.1)) tg ifs kx vx g tc te tv)
  (hs:∀ x,foldedSetIterable iter X.env x=pure x:=by intro _;rfl):PS X (.Assign [.Name x px] (.DictComp kx vx [⟨tg,iter,ifs,0⟩] scope pos) spos) (tAsg (tDC t own fr wi g tc te tv) (gName i)):=by
 intro pins s σ H D I h;have hc:=compOk_of hc;rw[exec_Assign_Name_used _ _ _ _ hsw];refine wpAny_bind (wpAny_standAt (wpAny_bind ?_));show wpAny _ X.A (do let _ ← comprehension (.DictComp kx vx [⟨tg,iter,ifs,0⟩] scope pos) scope X.env _ newDict false (eval iter X.env) (some (assign (.Name x px) X.env))) _ _ s
 refine wpAny_bind (wpAny_mono (wpAny_comprehension_free (use:=some (assign (.Name x px) X.env)) (Q:=fun _ s'=>SP X pins D .next s') rfl hs (clo_ok I hc) hc.kind hc.loc
  (thn (hi pins s σ H _ I h) fun v s1 h1=>thn h1 fun itv s2 h2=>?_)) (fun _ s' hq=>wpAny_pure (wpAny_pure hq)) fun _ _ e=>e)
 obtain⟨it,fp,tn,J,H2,e,I2,T,st2,f2,hw⟩:=h2;subst e;refine dcomp_run (RR:=fun acc C=>compPost (model X.prog X.w) X.A X.xe (some (assign (.Name x px) X.env)) (fun _ s'=>SP X pins D .next s') acc C) t hu hcalm hc hfr B I2 T st2 f2 (hw _ I2.fresh) ?_;intro C H' s' m q n I' f;show wpAny _ X.A (assign (.Name x px) X.env (.ref s2.heap.objs.size)) _ _ _;refine wpAny_assign_Name (store_ok2 I' hN hx (.inl hl) (v:=.ref s2.heap.objs.size) rfl (fun s'' I'' hch=>?_) (.inr hl));obtain⟨a,sb,ha⟩:=hch;have hCa:C≠a:=by
  rcases ha with ha | ha
  ·rw[ha];exact f.loc
  ·exact fun z=>f.cel x a ha z.symm
 exact⟨m,n.sameBut sb hCa,fun h' hs'=>⟨_,H',f.inv I'' hs',q⟩⟩
end
end L2
end
section
set_option Elab.async false
set_option linter.all false
set_option maxRecDepth 100000
namespace Srt
open PySem PyProof.Rows
section
variable {prog:Program}{w:World}{A:Around}{E:Value→Shared→Prop}{s:Shared}{O:KeyOrd}{key:Value→O.α}{knd:SortKind}
def Asks (prog:Program)(w:World)(A:Around)(O:KeyOrd)(key:Value→O.α)(knd:SortKind)(vs:List Value)(s:Shared):Prop :=
 (2≤vs.length→∀ (E:Value→Shared→Prop) (Q:SortKind→Shared→Prop),Q knd s→wpAny (model prog w) A (keyKind' vs.toArray) Q E s) ∧
 ∀ x∈vs,∀ y∈vs,∀ (E:Value→Shared→Prop) (Q:Bool→Shared→Prop),Q (O.blt (key x) (key y)) s→wpAny (model prog w) A (keyLt' knd x y) Q E s
theorem mem_pairs {vs:List Value}{p:Keyed}(h:p∈(pairsOf vs).toList):p.1∈vs∧p.1=p.2:=by
 rw[pairsOf_toList] at h;obtain⟨i,hi⟩:=List.mem_iff_getElem?.mp h;rw[List.getElem?_zip_eq_some] at hi;refine⟨List.mem_iff_getElem?.mpr ⟨i,hi.1⟩,?_⟩;have:=hi.1.symm.trans hi.2;exact Option.some.inj this
theorem cmp_of {vs:List Value}(h:Asks prog w A O key knd vs s):Ts.Cmp (model prog w) A E s knd O (fun p=>key p.1) (pairsOf vs):=by
 intro p hp q hq st Q hk hQ;rw[lt'_eq];refine wpS_bind (wpS_get ?_);rw[hk];refine wpS_bind (wpS_lift (wpAny_attempt (h.2 p.1 (mem_pairs hp).1 q.1 (mem_pairs hq).1 _ _ ⟨rfl,?_⟩)));exact wpS_pure hQ
theorem out_of {vs:List Value}{xs:Array Keyed}(hp:xs.Perm (pairsOf vs))(hs:Ts.Seg (O:=O) (fun p=>key p.1) xs 0 (pairsOf vs).size) :
  (xs.map (·.2)).toList.Perm vs∧(xs.map (·.2)).toList.Pairwise fun x y=>O.kle (key x) (key y):=by
 have hp':=Array.perm_iff_toList_perm.mp hp;have hsz:xs.size=(pairsOf vs).size:=hp.size_eq;rw[Array.toList_map];refine⟨?_,?_⟩
 ·refine (hp'.map _).trans ?_;rw[pairsOf_toList,show (vs.zip vs).map (·.2)=vs from List.map_snd_zip (Nat.le_refl _)]
 ·rw[List.pairwise_map];rw[← hsz] at hs;refine (Ts.pw_of_seg hs).imp_of_mem fun {a b} ha hb hab=>?_
  have e1:=(mem_pairs (hp'.mem_iff.mp ha)).2;have e2:=(mem_pairs (hp'.mem_iff.mp hb)).2;rw[← e1,← e2];exact hab
theorem list_sort_any {a:Addr}{vs:List Value}{n:Nat}{P:Fin→Shared→Prop}(ho:s.heap.get? a=some (seqObj "list" vs.toArray n))(hz:vs.length≤sizeLine)
  (hA:∀ s':Shared,(∀ b o,b≠a→s.heap.get? b=some o→s'.heap.get? b=some o)→Asks prog w A O key knd vs s')
  (h:∀ out:Array Value,out.toList.Perm vs→(out.toList.Pairwise fun x y=>O.kle (key x) (key y))→P (.done (.ret .none)) {s with heap:=sortedHeap s.heap a vs out}) :
  wpAny (model prog w) A (Builtin.«list.sort» ⟨[.ref a],[]⟩) P E s:=by
 rw[list_sort_plain];have ha:a<s.heap.objs.size:=Heap.lt_size ho;have hsz:vs.toArray.size=vs.length:=by simp
 refine wpAny_bind (listItems_at ho rfl ?_);refine wpAny_bind (listUpdate_at ho rfl ?_ (hsz:=by rw[hsz];exact hz));obtain⟨e1,ho1⟩:∃ e1,(s.heap.update a (Obj.mapSeq fun _=>#[])).get? a=some (seqObj "list" #[] e1):=⟨_,get?_update_seq ho (fun _=>#[])⟩
 refine wpAny_bind (seqEpoch_at ho1 rfl ?_);refine wpAny_bind (wpAny_newTuple ?_ (by simpa using hz));refine wpAny_bind (wpAny_newList ?_);refine wpAny_holding ?_;have ho6:(((s.heap.update a (Obj.mapSeq fun _=>#[])).push (seqObj "tuple" vs.toArray 0)).push (seqObj "list" #[] 0)).get? a=some (seqObj "list" #[] e1):=by
  rw[Heap.get?_push_ne _ _ _ (by rw[size_push',Heap.size_update];exact Nat.ne_of_lt (Nat.lt_succ_of_lt ha)),Heap.get?_push_ne _ _ _ (by rw[Heap.size_update];exact Nat.ne_of_lt ha)];exact ho1
 have keep:∀ b o,b≠a→s.heap.get? b=some o→(((s.heap.update a (Obj.mapSeq fun _=>#[])).push (seqObj "tuple" vs.toArray 0)).push (seqObj "list" #[] 0)).get? b=some o:=fun b o hb e =>
  Heap.get?_push_of_some _ (Heap.get?_push_of_some _ ((Heap.SameBut.update ..).extBut b o hb e))
 show wpAny (model prog w) A _ P E {s with heap:=((s.heap.update a (Obj.mapSeq fun _=>#[])).push (seqObj "tuple" vs.toArray 0)).push (seqObj "list" #[] 0)};dsimp only;have hA':=hA {s with heap:=((s.heap.update a (Obj.mapSeq fun _=>#[])).push (seqObj "tuple" vs.toArray 0)).push (seqObj "list" #[] 0)} keep;by_cases h2:vs.toArray.size<2
 ·rw[if_pos h2,if_pos h2];refine wpAny_bind (wpAny_pure ?_);rw[StateT.run_pure];refine wpAny_bind (wpAny_pure ?_);dsimp only;refine wpAny_bind (seqEpoch_at ho6 rfl ?_);refine wpAny_bind (listUpdate_at ho6 rfl ?_ (hsz2:=by rw[Array.size_map];show (pairsOf vs).size≤_;rw[pairsOf_size];omega));simp only[bne_self_eq_false,Bool.false_eq_true,if_false]
  have o:=out_of (O:=O) (key:=key) (vs:=vs) (Array.Perm.refl _) (fun i j h0 hij hj=>by
   rw[pairsOf_size] at hj;have:i=j:=by omega
   subst this;exact KeyOrd.kle_refl _)
  exact wpAny_pure (h _ o.1 o.2)
 ·rw[if_neg h2,if_neg h2];refine wpAny_bind (hA'.1 (by omega) _ _ ?_)
  refine wpAny_bind (wpAny_mono (Ts.wpS_sR (O:=O) (key:=fun p=>key p.1) (a₀:=pairsOf vs) (knd:=knd) (st:=SortSt.mk' knd (vs.toArray.zip vs.toArray) #[] 7 none)
   (Q:=fun _ st'=>(arrOf st').Perm (pairsOf vs)∧failedOf st'=none∧Ts.Seg (O:=O) (fun p=>key p.1) (arrOf st') 0 (pairsOf vs).size)
   (cmp_of hA') ⟨Array.Perm.refl _,rfl,rfl⟩ rfl (by rw[pairsOf_size];omega) fun st' hB hS=>⟨hB.perm,hB.failed,hS⟩) ?_ fun _ _ e=>e)
  rintro⟨⟨⟩,st'⟩ s' ⟨rfl,hp,hf,hs⟩;dsimp only;refine wpAny_bind (seqEpoch_at ho6 rfl ?_);refine wpAny_bind (listUpdate_at ho6 rfl ?_ (hsz2:=by refine Nat.le_trans (Nat.le_of_eq ((Array.size_map ..).trans (hp.size_eq.trans (pairsOf_size _)))) ?_;omega));rw[hf];simp only[bne_self_eq_false,Bool.false_eq_true,if_false];have o:=out_of hp hs;exact wpAny_pure (h _ o.1 o.2)
def Coll (prog:Program)(w:World)(A:Around)(r:Addr)(s:Shared)(C:List Value→Prop):Prop :=
 ∀ (E:Value→Shared→Prop) (R:List Value→Shared→Prop),(∀ (h':Heap) (tk:Nat) (vs:List Value),(∀ b o,s.heap.get? b=some o→h'.get? b=some o)→C vs→R vs {s with heap:=h',toks:=tk})→wpAny (model prog w) A (collect (.ref r)) R E s
theorem sorted_any {r:Addr}{C:List Value→Prop}{Q:Value→Shared→Prop}(hc:Coll prog w A.in1 r s C)(hz:∀ vs,C vs→vs.length≤sizeLine)
  (hA:∀ (vs:List Value) (s':Shared),C vs→(∀ b o,s.heap.get? b=some o→s'.heap.get? b=some o)→Asks prog w A.in1.in1 O key knd vs s')
  (h:∀ (vs out:List Value) (h1 h':Heap) (tk n:Nat),C vs→out.Perm vs→(out.Pairwise fun x y=>O.kle (key x) (key y))→(∀ b o,s.heap.get? b=some o→h1.get? b=some o)→(∀ b o,h1.get? b=some o→h'.get? b=some o) →
   h'.get? h1.objs.size=some (seqObj "list" out.toArray n)→Q (.ref h1.objs.size) {s with heap:=h',toks:=tk}):wpAny (model prog w) A (call (.builtin "sorted") [.ref r]) Q E s:=by
 refine Calls.call_function_entry kind_sorted plain_sorted entry_sorted (args_sorted1 _) ?_;unfold Builtin.«sorted»;refine wpAny_bind (m:=checkCount "sorted" 1 1 _) (wpAny_pure ?_);refine wpAny_bind (hc _ _ fun h1 tk vs hk hC=>?_);refine wpAny_bind (wpAny_newList ?_ (by simpa using hz vs hC));have hoL:(h1.push (seqObj "list" vs.toArray 0)).get? h1.objs.size=some (seqObj "list" vs.toArray 0):=Heap.get?_push_size _ rfl;refine wpAny_bind (wpAny_holding (wpAny_call_entry slot_list_sort ⟨_,hoL,rfl⟩ entry_list_sort (list_sort_any (O:=O) (key:=key) (knd:=knd) hoL (hz vs hC) (fun s' hs'=>hA vs s' hC fun b o e=>?_) fun out hp hs=>⟨_,rfl,?_⟩) (args_list_sort _)))
 ·exact hs' b o (Nat.ne_of_lt (Heap.lt_size (hk b o e))) (Heap.get?_push_of_some _ (hk b o e))
 ·refine wpAny_pure ⟨_,rfl,?_⟩;obtain⟨n',hn'⟩:∃ n',(sortedHeap (h1.push (seqObj "list" vs.toArray 0)) h1.objs.size vs out).get? h1.objs.size=some (seqObj "list" out n'):=by
   first | exact sortedHeap_at hoL | exact⟨_,sortedHeap_at hoL⟩
  refine h vs out.toList h1 _ tk n' hC hp hs hk (fun b o e=>?_) ?_
  ·have hb:b≠h1.objs.size:=Nat.ne_of_lt (Heap.lt_size e);have hlt:b<(h1.push (seqObj "list" vs.toArray 0)).objs.size:=by rw[size_push'];exact Nat.lt_succ_of_lt (Heap.lt_size e)
   rw[sortedHeap_old hb hlt];exact Heap.get?_push_of_some _ e
  ·rw[Array.toArray_toList];exact hn'
def intOrd:KeyOrd where
 α:=Int
 blt:=fun a b=>decide (a<b)
 irrefl:=fun a=>by simp
 trans:=fun a b c h1 h2=>by simp at *;omega
 negTrans:=fun a b c h=>by simp at *;omega
 total:=fun a b h1 h2=>by simp at *;omega
def intKey:Value→Int
 | .int i _=>i
 | _=>0
theorem lex_irrefl:∀ a:List Int,HT.lexLt a a=false
 | []=>rfl
 | x::r=>by rw[HT.lexLt_cons,if_pos rfl];exact lex_irrefl r
theorem lex_trans:∀ a b c:List Int,HT.lexLt a b=true→HT.lexLt b c=true→HT.lexLt a c=true
 | [],[],_,h,_=>by cases h
 | [],_::_,[],_,h=>by cases h
 | [],_::_,_::_,_,_=>rfl
 | _::_,[],_,h,_=>by cases h
 | _::_,_::_,[],_,h=>by cases h
 | x::a,y::b,z::c,h1,h2=>by
  rw[HT.lexLt_cons] at h1 h2 ⊢;by_cases e1:x=y
  ·rw[if_pos e1] at h1;subst e1;by_cases e2:x=z
   ·rw[if_pos e2] at h2 ⊢;exact lex_trans a b c h1 h2
   ·rw[if_neg e2] at h2 ⊢;exact h2
  ·rw[if_neg e1] at h1;by_cases e2:y=z
   ·rw[if_pos e2] at h2;subst e2;rw[if_neg e1];exact h1
   ·rw[if_neg e2] at h2;simp at h1 h2;rw[if_neg (by omega)];simp;omega
theorem lex_total:∀ a b:List Int,HT.lexLt a b=false→HT.lexLt b a=false→a=b
 | [],[],_,_=>rfl
 | [],_::_,h,_=>by cases h
 | _::_,[],_,h=>by cases h
 | x::a,y::b,h1,h2=>by
  rw[HT.lexLt_cons] at h1 h2;by_cases e:x=y
  ·subst e;rw[if_pos rfl] at h1 h2;rw[lex_total a b h1 h2]
  ·rw[if_neg e] at h1;rw[if_neg (fun z=>e z.symm)] at h2;simp at h1 h2;omega
def lexOrd:KeyOrd where
 α:=List Int
 blt:=HT.lexLt
 irrefl:=lex_irrefl
 trans:=lex_trans
 negTrans:=fun a b c h=>by
  cases h1:HT.lexLt a b with
  | true=>exact .inl rfl
  | false =>
   right;cases h2:HT.lexLt b a with
   | true=>exact lex_trans b a c h2 h
   | false=>rw[← lex_total a b h1 h2];exact h
 total:=lex_total
theorem asks_ints {vs:List Value}{ns:List Int}(hI:IntsAre vs ns):Asks prog w A intOrd intKey oneType' vs s:=by
 refine⟨fun h2 E Q hq=>?_,fun x hx y hy E Q hq=>?_⟩
 ·match vs,h2,hI with
  | v₁::v₂::rest,_,hI=>rw[keyKind_ints hI];exact wpAny_pure hq
 ·have key:∀ {vs:List Value} {ns:List Int},IntsAre vs ns→∀ x∈vs,∃ i t,x=Value.int i t:=by
   intro vs ns h;induction h with
   | nil=>intro x hx;cases hx
   | cons n t _ ih =>
    intro x hx;rcases List.mem_cons.mp hx with rfl | hx
    ·exact⟨n,t,rfl⟩
    ·exact ih x hx
  obtain⟨i,t,rfl⟩:=key hI x hx;obtain⟨j,u,rfl⟩:=key hI y hy;exact PySem.W.kat_lt_int hq
end
end Srt
namespace Srt
open PySem PyProof.Rows PySem.W
section
variable {prog:Program}{w:World}{A:Around}{E:Value→Shared→Prop}{s:Shared}
def TupInts (h:Heap)(v:Value)(ks:List Int):Prop:=∃ a o items n,v=.ref a∧h.get? a=some o∧o.cls=.type "tuple"∧o.data=.seq items n∧IntsAre items.toList ks∧ks≠[]
theorem TupInts.keep {h h':Heap}{v:Value}{ks:List Int}(t:TupInts h v ks)(k:∀ b o,h.get? b=some o→h'.get? b=some o):TupInts h' v ks :=
 let ⟨a,o,items,n,e,ho,r⟩:=t;⟨a,o,items,n,e,k _ _ ho,r⟩
def tupKey (h:Heap):Value→List Int
 | .ref a=>match h.get? a with
  | some o=>match o.data with
   | .seq items _=>items.toList.map intKey
   | _=>[]
  | none=>[]
 | _=>[]
theorem intKeys_of {us:List Value}{ns:List Int}(h:IntsAre us ns):us.map intKey=ns:=by
 induction h with
 | nil=>rfl
 | cons n t _ ih=>rw[List.map_cons,ih];rfl
theorem tupKey_of {h:Heap}{v:Value}{ks:List Int}(t:TupInts h v ks):tupKey h v=ks:=by
 obtain⟨a,o,items,n,rfl,ho,hc,hd,hi,_⟩:=t;simp only[tupKey,ho,hd];exact intKeys_of hi
theorem katlex_ints {b fin:Bool}{Q:Bool→Shared→Prop}:∀ {us:List Value} {ns:List Int} {ws:List Value} {ms:List Int} (i:Nat),IntsAre us ns→IntsAre ws ms→fin=decide (us.length<ws.length)→Q (HT.lexLt ns ms) s →
  KatLex prog w A b fin Q (us.zip ws) i s
 | _,_,_,_,_,.nil,.nil,hf,hq=>by subst hf;exact hq
 | _,_,_,_,_,.nil,.cons m u h,hf,hq=>by
  subst hf;show Q (decide (0<_)) s;rw[List.length_cons,decide_eq_true (Nat.succ_pos _)];exact hq
 | _,_,_,_,_,.cons m u h,.nil,hf,hq=>by
  subst hf;show Q (decide (_<0)) s;rw[decide_eq_false (Nat.not_lt_zero _)];exact hq
 | _,_,_,_,i,.cons n t h,.cons m u k,hf,hq=>by
  rw[List.zip_cons_cons];refine kat_cons (wpAny_eqBool_int ?_);rw[HT.lexLt_cons] at hq;by_cases e:n=m
  ·rw[if_pos e] at hq;have eb:(n == m)=true:=beq_iff_eq.mpr e;rw[eb];exact kat_yes (katlex_ints (i+1) h k (by rw[hf,List.length_cons,List.length_cons];simp) hq)
  ·rw[if_neg e] at hq;have eb:(n == m)=false:=beq_eq_false_iff_ne.mpr e;rw[eb];refine kat_no ?_;cases hb:(b && i == 0) with
   | true=>exact oneLt_int hq
   | false=>exact kat_one _ _ (PyProof.Rows.lt_int hq)
theorem katTups_of {h:Heap}:∀ {vs:List Value},(∀ v∈vs,∃ ks,TupInts h v ks)→∃ fs,KatTups h vs fs∧fs.length=vs.length∧∀ f∈fs,∃ i t,f=Value.int i t
 | [],_=>⟨[],.nil,rfl,fun f hf=>nomatch hf⟩
 | v::vs,hv=>by
  obtain⟨fs,k,hl,hf⟩:=katTups_of (vs:=vs) fun u hu=>hv u (List.mem_cons_of_mem _ hu)
  obtain⟨ks,a,o,items,n,rfl,ho,hc,hd,hi,hne⟩:=hv v List.mem_cons_self;obtain⟨i,t,r,e⟩:∃ i t r,items.toList=Value.int i t::r:=by
   generalize items.toList=l at hi;cases hi with
   | nil=>exact absurd rfl hne
   | cons n t _=>exact⟨n,t,_,rfl⟩
  refine⟨.int i t::fs,.cons ho hc hd ?_ k,by rw[List.length_cons,List.length_cons,hl],fun f hf'=>?_⟩
  ·rw[← Array.getElem?_toList,e];rfl
  ·rcases List.mem_cons.mp hf' with rfl | q
   ·exact⟨i,t,rfl⟩
   ·exact hf f q
theorem asks_tups {h:Heap}{vs:List Value}(hv:∀ v∈vs,∃ ks,TupInts h v ks)(hk:∀ b o,h.get? b=some o→s.heap.get? b=some o):Asks prog w A lexOrd (tupKey h) (tuples' true) vs s:=by
 refine⟨fun h2 E Q hq=>?_,fun x hx y hy E Q hq=>?_⟩
 ·obtain⟨fs,kt,hl,hf⟩:=katTups_of (h:=s.heap) (vs:=vs) fun v hm=>let ⟨ks,t⟩:=hv v hm;⟨ks,t.keep hk⟩
  refine kat_kind (T:=.type "int") kt (by omega) (fun f hm=>?_) (by decide) hq;obtain⟨i,t,rfl⟩:=hf f hm;exact .now
 ·obtain⟨ks,tx⟩:=hv x hx;obtain⟨ms,ty⟩:=hv y hy;rw[tupKey_of tx,tupKey_of ty] at hq;obtain⟨a,o,items,n,rfl,ho,hc,hd,hi,_⟩:=tx.keep hk;obtain⟨a',o',items',n',rfl,ho',hc',hd',hi',_⟩:=ty.keep hk;exact kat_lt ho hd ho' hd' (katlex_ints 0 hi hi' (by simp) hq)
theorem coll_seq {l:Addr}{o:Obj}{c:String}{vs:List Value}{n:Nat}(ho:s.heap.get? l=some o)(hcl:o.cls=.type c)(hcc:c="list"∨c="tuple")(hd:o.data=.seq vs.toArray n)(hsz:vs.length≤sizeLine) :
  Coll prog w A l s fun us=>us=vs:=by
 intro E R h;unfold collect;refine wpAny_bind (wpAny_runValue (codeAny_builtin entry_proto_collect' ?_));show wpAny _ _ (newList [] >>= fun x=>again (.builtin "list.__iadd__" ⟨[x,.ref l],[]⟩)) _ _ s;refine wpAny_bind (wpAny_newList (wpAny_pure ⟨Code.quiet_builtin _ (by decide +kernel),codeAny_builtin entry_list_iadd' ?_⟩));show wpAny _ _ (Builtin.List.listExtendWith (.ref s.heap.objs.size) (.ref l) (.ref s.heap.objs.size)) _ _ {s with heap:=s.heap.push (seqObj "list" #[] 0)};unfold Builtin.List.listExtendWith;have ho':(s.heap.push (seqObj "list" #[] 0)).get? l=some o:=Heap.get?_push_of_some _ ho;refine wpAny_bind (wpAny_typeOf (T:=c) ⟨o,ho',hcl⟩ ?_);have ht:(Builtin.List.listSameRef (.ref s.heap.objs.size) (.ref l) || (Value.type c == Value.type "list") || (Value.type c == Value.type "tuple"))=true:=by
  rcases hcc with rfl | rfl
  ·rw[show (Value.type "list" == Value.type "list")=true from rfl];simp
  ·rw[show (Value.type "tuple" == Value.type "tuple")=true from rfl];simp
 rw[if_pos ht];refine wpAny_bind (listItems_at ho' hd ?_);refine wpAny_bind (listItems_at (xs:=#[]) (n:=0) (Heap.get?_push_size _ rfl) rfl ?_);rw[if_neg (by simp)];refine wpAny_bind (listUpdate_at (xs:=#[]) (n:=0) (Heap.get?_push_size _ rfl) rfl ?_ (Nat.zero_le _) (by show (#[]++vs.toArray).size≤sizeLine+1;simp only[Array.size_append,List.size_toArray,List.length_nil];omega));refine wpAny_pure ?_
 show wpAny (model prog w) A (do
   let q ← load s.heap.objs.size
   match q.data with
   | .seq xs _=>pure xs.toList
   | _=>unsupported "internal:collect") R E {s with heap:=(s.heap.push (seqObj "list" #[] 0)).update s.heap.objs.size (Obj.mapSeq (·++vs.toArray))}
 refine wpAny_bind (wpAny_load (get?_update_seq (Heap.get?_push_size _ rfl) _) ?_);show wpAny _ _ (pure ((#[]:Array Value)++vs.toArray).toList) R E _;rw[show ((#[]:Array Value)++vs.toArray).toList=vs by simp];exact wpAny_pure (h _ s.toks vs (fun b o e=>(Heap.SameBut.update ..).extBut b o (Nat.ne_of_lt (Heap.lt_size e)) (Heap.get?_push_of_some _ e)) rfl)
end
end Srt
namespace Srt
open PySem PyProof.Rows PySem.W
section
variable {prog:Program}{w:World}{A:Around}{E:Value→Shared→Prop}{s:Shared}
def RawD (h:Heap)(d:Addr)(es:Array DictEntry)(ep:Nat):Prop:=∃ o,h.get? d=some o∧o.ExactDict∧o.data=.dict es ep
theorem RawD.typeIs {d:Addr}{es:Array DictEntry}{ep:Nat}(r:RawD s.heap d es ep):s.TypeIs (.ref d) "dict":=let ⟨o,ho,hx,_⟩:=r;⟨o,ho,hx.1⟩
theorem RawD.keep {h h':Heap}{d:Addr}{es:Array DictEntry}{ep:Nat}(r:RawD h d es ep)(k:∀ o,h.get? d=some o→h'.get? d=some o):RawD h' d es ep:=let ⟨o,ho,q⟩:=r;⟨o,k _ ho,q⟩
theorem raw_iter {d:Addr}{es:Array DictEntry}{ep:Nat}{Q:Value→Shared→Prop}(hd:(d == sysModules)=false)(r:RawD s.heap d es ep)
  (hQ:Q (.ref s.heap.objs.size) {s with heap:=s.heap.push {cls:=.type "dict_keyiterator",data:=.fields #[.ref d,.int 0 0,.int es.size 0,.int ep 0]}}) :
  wpAny (model prog w) A (pyIter (.ref d)) Q E s:=by
 obtain⟨o,ho,hx,hdat⟩:=id r;have hT:=r.typeIs;refine wpAny_pyIter_slot hT F.slot_dict_iter (wpAny_call_entry F.slot_dict_iter hT F.entry_dict_iter ?_ (F.args_dict_iter_1 _));unfold Builtin.«dict.__iter__»;refine wpAny_bind ?_;unfold Builtin.Dict.dictSlotNone;refine wpAny_bind (wpAny_notOrdered_dict hT (wpAny_pure ?_));show wpAny _ _ (Builtin.Dict.showsAll d >>= _) _ _ s;unfold Builtin.Dict.showsAll;rw[if_neg (by rw[hd];exact Bool.false_ne_true)];refine wpAny_bind (wpAny_pure (wpAny_bind (wpAny_dictEntries ho hdat (wpAny_bind (wpAny_dictEpoch ho hdat ?_)))));refine wpAny_bind (wpAny_newObj_type (wpAny_pure ⟨_,rfl, "dict_keyiterator",_,⟨_,Heap.get?_push_size _ rfl,rfl⟩,F.slot_dict_keyiterator_next.lookup,?_⟩));simpa [rawInt] using hQ
theorem raw_next {it d:Addr}{i ep:Nat}{es:Array DictEntry}{Q:Option Value→Shared→Prop}(hit:s.heap.IsKeyIter it d i es.size ep)(r:RawD s.heap d es ep)(hlt:i<es.size)
  (hQ:∀ h',h'.IsKeyIter it d (i+1) es.size ep→Heap.SameBut it s.heap h'→Q (some es[i].key) {s with heap:=h'}):wpAny (model prog w) A (pyNext (.ref it)) Q E s:=by
 obtain⟨o,ho,hc,hd⟩:=id hit;obtain⟨od,hod,hcd,hdd⟩:=id r;unfold pyNext
 refine wpAny_bind (wpAny_attempt (wpAny_callSpecial?_slot (name:=Str.ofString "__next__") hit.typeIs F.slot_dict_keyiterator_next
  (wpAny_call_entry F.slot_dict_keyiterator_next hit.typeIs F.entry_dict_keyiterator_next ?_ (F.args_dict_keyiterator_next_1 _))))
 refine wpAny_bind (wpAny_pure (wpAny_bind (wpAny_bind ?_)));first | refine wpAny_bind (wpAny_typeNameOfWhole_keyiter hit.typeIs (wpAny_pure ?_)) | refine wpAny_bind (wpAny_typeNameOf_keyiter hit.typeIs (wpAny_pure ?_))
 refine wpAny_bind (wpAny_fieldsOf ho hd ?_);have hown:Builtin.Dict_items.ownsTuple "dict_keyiterator"=false:=by decide
 simp only[hown,Bool.false_eq_true,if_false];show wpAny _ _ (if (Value.ref d == Value.none)=true then _ else _) _ _ s;rw[if_neg (show ¬ ((Value.ref d == Value.none)=true) from Bool.false_ne_true)];refine wpAny_bind (wpAny_pure (wpAny_bind (wpAny_dictEntries hod hdd ?_)));rw[if_neg (by simp)];refine wpAny_bind (wpAny_pure (wpAny_bind (wpAny_dictEpoch hod hdd ?_)));rw[if_neg (by simp)];refine wpAny_pure ?_;simp only[show ¬ ((i:Int)<0) from by omega,if_false,Int.toNat_natCast,Array.getElem?_eq_getElem hlt];refine wpAny_bind ?_;first | refine wpAny_bind (wpAny_typeNameOfWhole_keyiter hit.typeIs (wpAny_pure ?_)) | refine wpAny_bind (wpAny_typeNameOf_keyiter hit.typeIs (wpAny_pure ?_))
 refine wpAny_bind (wpAny_isOneOf_keyiter hit.typeIs ?_);show wpAny _ _ (setField (.ref it) 1 (rawInt ((i:Int)+1)) >>= _) _ _ s;refine wpAny_bind (wpAny_setField ho hd (by simp) ?_);have hit':(s.heap.update it (Obj.mapFields (·.setIfInBounds 1 (rawInt ((i:Int)+1))))).IsKeyIter it d (i+1) es.size ep :=
  ⟨_,Heap.get?_update_self _ ho (Obj.isFreed_of_fields (Obj.data_mapFields hd _)),(Obj.cls_mapFields ..).trans hc,by rw[Obj.data_mapFields hd];simp[rawInt]⟩
 refine wpAny_bind (wpAny_holding ?_);refine wpAny_bind (wpAny_isOneOf_keyiter (s:={s with heap:=s.heap.update it (Obj.mapFields (·.setIfInBounds 1 (rawInt ((i:Int)+1))))}) hit'.typeIs ?_);show wpAny _ _ (pure es[i].key) _ _ _;exact wpAny_pure (wpAny_pure ⟨_,rfl,wpAny_pure (hQ _ hit' (Heap.SameBut.update ..))⟩)
theorem raw_end {it d:Addr}{i ep:Nat}{es:Array DictEntry}{Q:Option Value→Shared→Prop}(hh:A.handled=none)(hit:s.heap.IsKeyIter it d i es.size ep)(r:RawD s.heap d es ep)(hge:es.size≤i)
  (hQ:∀ h',Heap.ExtBut it s.heap h'→Q none {s with heap:=h'}):wpAny (model prog w) A (pyNext (.ref it)) Q E s:=by
 obtain⟨o,ho,hc,hd⟩:=id hit;obtain⟨od,hod,hcd,hdd⟩:=id r;unfold pyNext
 refine wpAny_bind (wpAny_attempt (wpAny_callSpecial?_slot (name:=Str.ofString "__next__") hit.typeIs F.slot_dict_keyiterator_next
  (wpAny_call_entry F.slot_dict_keyiterator_next hit.typeIs F.entry_dict_keyiterator_next ?_ (F.args_dict_keyiterator_next_1 _))))
 refine wpAny_bind (wpAny_pure (wpAny_bind (wpAny_bind ?_)));first | refine wpAny_bind (wpAny_typeNameOfWhole_keyiter hit.typeIs (wpAny_pure ?_)) | refine wpAny_bind (wpAny_typeNameOf_keyiter hit.typeIs (wpAny_pure ?_))
 refine wpAny_bind (wpAny_fieldsOf ho hd ?_);have hown:Builtin.Dict_items.ownsTuple "dict_keyiterator"=false:=by decide
 simp only[hown,Bool.false_eq_true,if_false];show wpAny _ _ (if (Value.ref d == Value.none)=true then _ else _) _ _ s;rw[if_neg (show ¬ ((Value.ref d == Value.none)=true) from Bool.false_ne_true)];refine wpAny_bind (wpAny_pure (wpAny_bind (wpAny_dictEntries hod hdd ?_)));rw[if_neg (by simp)];refine wpAny_bind (wpAny_pure (wpAny_bind (wpAny_dictEpoch hod hdd ?_)));rw[if_neg (by simp)];refine wpAny_pure ?_;simp only[show ¬ ((i:Int)<0) from by omega,if_false,Int.toNat_natCast,Array.getElem?_eq_none hge];refine wpAny_bind ?_;first | refine wpAny_bind (wpAny_typeNameOfWhole_keyiter hit.typeIs (wpAny_pure ?_)) | refine wpAny_bind (wpAny_typeNameOf_keyiter hit.typeIs (wpAny_pure ?_))
 show wpAny _ _ (setField (.ref it) 0 .none >>= _) _ _ s;refine wpAny_bind (wpAny_setField ho hd (by simp) ?_);show wpAny _ _ (newExc (.type "StopIteration") [] >>= _) _ _ _;refine wpAny_bind ?_;simp only[newExc,newTuple];refine wpAny_bind (wpAny_newObj_type ?_ (by size_fits));refine wpAny_bind (m:=firstArgMember _ _) (wpAny_of_eq (a:=Value.none) (by first | rfl | (simp only[firstArgMember];rfl)) ?_);refine wpAny_newObj_type ?_ (by size_fits);simp only[raiseNew];refine wpAny_bind (wpAny_handled ?_);rw[show A.in1.handled=none from hh];refine wpAny_bind (wpAny_pure (wpAny_throw ?_));refine wpAny_bind (wpAny_isInstance (T:="StopIteration") (b:=true) ⟨_,Heap.get?_push_size _ rfl,rfl⟩ isSubtype_stop ?_);exact wpAny_pure (hQ _ (((Heap.SameBut.update ..).extBut.push _).push _))
theorem raw_walks (hh:A.handled=none)(I d:Addr)(hne:d≠I)(es:Array DictEntry)(ep:Nat) :
  Walks prog w A I [I,d] [I] es.size (fun i v=>∃ e,es[i]?=some e∧e.key=v) (fun i h=>h.IsKeyIter I d i es.size ep∧RawD h d es ep) where
 sub:=fun b hb=>by simp at hb;simp[hb]
 frame:=fun _ _ _ st hk=>⟨st.1.at fun o e=>hk I (by simp) o e,st.2.keep fun o e=>hk d (by simp) o e⟩
 item:=fun i s Q E hi st hQ=>by
  refine raw_next st.1 st.2 hi fun h' hit' hs'=>?_
  exact hQ es[i].key h' s.toks ⟨es[i],by simp[hi],rfl⟩ ⟨hit',st.2.keep fun o e=>hs'.extBut d o hne e⟩ fun b o hb e=>hs'.extBut b o (fun h=>hb (by simp[h])) e
 done:=fun s Q E st hQ=>raw_end hh st.1 st.2 (Nat.le_refl _) fun h' he'=>hQ h' s.toks fun b o hb e=>he' b o (fun h=>hb (by simp[h])) e
 self:=fun _ _ _ _ st hQ=>wpAny_pyIter_keyiter st.1 hQ
theorem raw_src {d:Addr}{es:Array DictEntry}{ep:Nat}(lo:(d == sysModules)=false):KdlSrc prog w "dict" d d es.size (fun i v=>∃ e,es[i]?=some e∧e.key=v) (fun h=>RawD h d es ep) where
 type:=fun _ hm=>hm.typeIs
 there:=fun _ hm=>let ⟨_,ho,_⟩:=hm;⟨Heap.lt_size ho,Heap.lt_size ho⟩
 keep:=fun _ _ hm hk=>hm.keep fun o e=>hk d (.inl rfl) o e
 notList:=by decide
 notTuple:=by decide
 hint:=fun _ _ _ _ hm hq=>kdl_hint_dict hm.typeIs hq
 iter:=fun _ _ hh hm=>⟨_,_,(fun _ _ hq=>raw_iter lo hm hq),raw_walks hh _ d (let ⟨_,ho,_⟩:=hm;Nat.ne_of_lt (Heap.lt_size ho)) es ep,⟨⟨_,Heap.get?_push_size _ rfl,rfl,rfl⟩,hm.keep fun _ e=>Heap.get?_push_of_some _ e⟩⟩
theorem coll_raw {d:Addr}{es:Array DictEntry}{ep:Nat}(hh:A.handled=none)(lo:(d == sysModules)=false)(r:RawD s.heap d es ep)(hz:es.size≤sizeLine):Coll prog w A d s fun us=>us=es.toList.map (·.key):=by
 intro E R h;refine kdu_collect (raw_src (ep:=ep) lo) hh r hz fun h' tk acc hk hI=>h h' tk acc.toList hk ?_
 apply List.ext_getElem?;intro i;rw[Array.getElem?_toList,List.getElem?_map,Array.getElem?_toList];rcases Nat.lt_or_ge i es.size with hi | hi
 ·have hi':i<acc.size:=by rw[hI.1];exact hi
  obtain⟨e,he,hk⟩:=hI.2 i acc[i] (Array.getElem?_eq_getElem hi');rw[Array.getElem?_eq_getElem hi',he];exact congrArg some hk.symm
 ·rw[Array.getElem?_eq_none (by rw[hI.1];exact hi),Array.getElem?_eq_none hi];rfl
end
end Srt
namespace L2
open PySem PySem.Spec PyProof.Rows
theorem perm_map_inv {α β:Type}{f:α→β}:∀ {l m:List β},l.Perm m→∀ {ps:List α},m=ps.map f→∃ qs:List α,qs.Perm ps∧l=qs.map f:=by
 intro l m h;induction h with
 | nil =>
  intro ps e;cases ps with
  | nil=>exact⟨[],.nil,rfl⟩
  | cons _ _=>cases e
 | @cons x l₁ l₂ _ ih =>
  intro ps e;cases ps with
  | nil=>cases e
  | cons p r =>
   rw[List.map_cons] at e;injection e with e1 e2
   obtain⟨qs,h1,h2⟩:=ih e2;exact⟨p::qs,h1.cons _,by rw[List.map_cons,h2,e1]⟩
 | swap x y l =>
  intro ps e
  match ps,e with
  | p::q::r,e =>
   rw[List.map_cons,List.map_cons] at e;injection e with e1 e2
   injection e2 with e2 e3
   exact⟨q::p::r,.swap ..,by rw[List.map_cons,List.map_cons,← e1,← e2,← e3]⟩
 | trans _ _ ih1 ih2 =>
  intro ps e;obtain⟨qs,h1,h2⟩:=ih2 e;obtain⟨rs,h3,h4⟩:=ih1 h2;exact⟨rs,h3.trans h1,h4⟩
theorem vals_refs {α:Type}{f:α→Addr}:∀ {ps:List α} {us:List Value},Vals (ps.map fun x=>V.ref (f x)) us→us=ps.map fun x=>Value.ref (f x)
 | [],_,.nil=>rfl
 | x::r,_,.cons h t=>by
  cases (show _=Value.ref (f x) from h);rw[List.map_cons,← vals_refs t]
theorem refs_vals {α:Type}{f:α→Addr}:∀ ps:List α,Vals (ps.map fun x=>V.ref (f x)) (ps.map fun x=>Value.ref (f x))
 | []=>.nil
 | x::r=>.cons rfl (refs_vals r)
theorem ints_of_all:∀ {us:List Value},(∀ u∈us,∃ i t,u=Value.int i t)→IntsAre us (us.map Srt.intKey)
 | [],_=>.nil
 | u::r,h=>by
  obtain⟨i,t,rfl⟩:=h u List.mem_cons_self;exact .cons i t (ints_of_all fun v hv=>h v (List.mem_cons_of_mem _ hv))
theorem ints_all {us:List Value}{ns:List Int}(h:IntsAre us ns):∀ u∈us,∃ i t,u=Value.int i t:=by
 induction h with
 | nil=>intro x hx;cases hx
 | cons n t _ ih =>
  intro x hx;rcases List.mem_cons.mp hx with rfl | hx
  ·exact⟨n,t,rfl⟩
  ·exact ih x hx
def SrcI (K:PySem.W.Frag)(H:Hp)(p:Addr)(ns:List Int):Prop :=
 SqL K H p (ns.map V.int)∨SqT K H p (ns.map V.int)∨∃ kvs,H p=some (.dK kvs)∧kvs.map (·.1)=ns.map (Sum.inl:Int→Key)
section
variable {X:Cx}{pins:List (Addr×Obj)}{σ:St}{H:Hp}{s:Shared}
theorem Inv.collI (I:Inv X pins σ H s){A:Around}(hh:A.handled=none){p:Addr}{ns:List Int}(h:SrcI X.K H p ns):Srt.Coll X.prog X.w A p s fun us=>IntsAre us ns∧us.length≤sizeLine:=by
 have mono:∀ {vs:List Value},IntsAre vs ns→vs.length≤sizeLine→Srt.Coll X.prog X.w A p s (fun us=>us=vs)→Srt.Coll X.prog X.w A p s fun us=>IntsAre us ns∧us.length≤sizeLine:=fun hi hl c E R k =>
  c E R fun h' tk us kp e=>k h' tk us kp (by subst e;exact⟨hi,hl⟩)
 rcases h with h | h | ⟨kvs,h,hk⟩
 ·obtain⟨its,r,pl,hz⟩:=I.list h;obtain⟨o,ho,hc,n,hd⟩:=pl.isList;have hl:its.length≤sizeLine:=by rw[← r.length];exact hz
  exact mono (intsAre_of r) hl (Srt.coll_seq ho hc (.inl rfl) hd hl)
 ·obtain⟨its,r,pl,hz⟩:=I.tuple h;obtain⟨o,ho,hc,n,hd⟩:=pl;have hl:its.length≤sizeLine:=by rw[← r.length];exact hz
  exact mono (intsAre_of r) hl (Srt.coll_seq ho hc (.inr rfl) hd hl)
 ·obtain⟨z,lo,vs,rel,o,es,ep,ho,hx,hd,hkeys,hp,hn⟩:=dk_of I.hok h;have hl:es.toList.length=kvs.length:=by rw[hp.length,rel.length]
  have key:∀ {l:List DictEntry} {vs:List (Key×Value)} {ns:List Int},Pairs (mixKind X.prog X.w) l vs→vs.map (·.1)=ns.map (Sum.inl:Int→Key)→IntsAre (l.map (·.key)) ns:=by
   intro l vs ns hp;induction hp generalizing ns with
   | nil =>
    intro e;cases ns with
    | nil=>exact .nil
    | cons _ _=>cases e
   | @cons e kv es kvs h1 h2 _ ih =>
    intro q;cases ns with
    | nil=>cases q
    | cons n r =>
     rw[List.map_cons,List.map_cons] at q;injection q with q1 q2
     rw[q1] at h1;have hi:Value.isInt n e.key=true:=h1;obtain⟨t,et⟩:=Value.isInt_shape hi;rw[List.map_cons,et];exact .cons n t (ih q2)
  have hi:=key hp (by rw[← rel.keys];exact hk);refine mono hi ?_ (Srt.coll_raw hh lo ⟨o,ho,hx,hd⟩ ?_)
  ·rw[List.length_map,hl];exact z
  ·rw[← Array.length_toList,hl];exact z
theorem call_sortedI (hc:X.A.handled=none):CallR X (.builtin "sorted") (fun xs H Q=>∃ (p:Addr) (ns:List Int),xs=[.ref p]∧SrcI X.K H p ns∧∀ (ns':List Int) (l:Addr),ns'.Perm ns→ns'.Pairwise (·≤·)→H l=none→Q (.ref l) (upd H l (.lst (ns'.map V.int)))):=by
 intro pins s σ H xs us Q I r h;obtain⟨p,ns,rfl,src,q⟩:=h;obtain⟨u,rfl,rx⟩:=vals1 r;cases rx;refine Srt.sorted_any (O:=Srt.intOrd) (key:=Srt.intKey) (knd:=oneType') (I.collI (A:=X.A.in1) hc src) (fun vs h=>h.2) (fun vs s' h _=>Srt.asks_ints h.1) fun vs out h1 h' tk n hC hp hs k1 k2 hD=>?_
 have hall:∀ u∈out,∃ i t,u=Value.int i t:=fun u hu=>ints_all hC.1 u (hp.mem_iff.mp hu)
 have hio:=ints_of_all hall;have I1:Inv X pins σ H {s with heap:=h1,toks:=tk}:=I.kept k1;have hlen:(out.map Srt.intKey).length≤sizeLine:=by rw[List.length_map,hp.length_eq];exact hC.2
 refine⟨.ref h1.objs.size,_,I1.laid (t':=tk) (o:=.lst ((out.map Srt.intKey).map V.int)) k2 (Nat.le_refl _) ⟨by rw[List.length_map];exact hlen,out,n,vals_ints hio,hD⟩,rfl,q _ _ ?_ ?_ I1.fresh⟩
 ·have:=hp.map Srt.intKey;rw[Srt.intKeys_of hC.1] at this;exact this
 ·rw[List.pairwise_map];exact hs.imp fun {a b} hab=>by
   have hab:decide (Srt.intKey b<Srt.intKey a)=false:=hab;simp at hab;exact hab
def SrcT (K:PySem.W.Frag)(H:Hp)(p:Addr)(ps:List (Addr×List Int)):Prop :=
 (SqL K H p (ps.map fun x=>V.ref x.1)∨SqT K H p (ps.map fun x=>V.ref x.1))∧∀ x∈ps,H x.1=some (.tup (x.2.map V.int))∧x.2≠[]
theorem Inv.tupInts (I:Inv X pins σ H s){a:Addr}{ks:List Int}(h:H a=some (.tup (ks.map V.int)))(hne:ks≠[]):Srt.TupInts s.heap (.ref a) ks:=by
 obtain⟨its,r,⟨o,ho,hc,n,hd⟩,hz⟩:=I.tuple (SqT.of h);exact⟨a,o,its.toArray,n,rfl,ho,hc,hd,intsAre_of r,hne⟩
theorem sortedT_fin {p:Addr}{vs:List Value}{C:List (Addr×List Int)→Prop}{Q:VK}(I:Inv X pins σ H s)(hcol:Srt.Coll X.prog X.w X.A.in1 p s fun us=>us=vs)(ps:List (Addr×List Int))(hvs:vs=ps.map fun x=>Value.ref x.1)(hz:ps.length≤sizeLine)
  (hall:∀ x∈ps,H x.1=some (.tup (x.2.map V.int))∧x.2≠[]) (q:∀ (ps':List (Addr×List Int)) (l:Addr),ps'.Perm ps→(ps'.Pairwise fun x y=>HT.lexLt y.2 x.2=false)→H l=none→Q (.ref l) (upd H l (.lst (ps'.map fun x=>V.ref x.1)))) :
  wpAny (model X.prog X.w) X.A (call (.builtin "sorted") [.ref p]) (EP X pins σ Q) X.xe s:=by
 subst hvs;have ht:∀ x∈ps,Srt.TupInts s.heap (.ref x.1) x.2:=fun x hx=>I.tupInts (hall x hx).1 (hall x hx).2
 refine Srt.sorted_any (O:=Srt.lexOrd) (key:=Srt.tupKey s.heap) (knd:=tuples' true) hcol (fun vs e=>by subst e;rw[List.length_map];exact hz) (fun vs s' e k=>?_) fun vs out h1 h' tk n e hp hs k1 k2 hD=>?_
 ·subst e;refine Srt.asks_tups (fun v hv=>?_) k;obtain⟨x,hx,rfl⟩:=List.mem_map.mp hv;exact⟨x.2,ht x hx⟩
 ·subst e;obtain⟨ps',hpp,rfl⟩:=perm_map_inv hp rfl;have I1:Inv X pins σ H {s with heap:=h1,toks:=tk}:=I.kept k1;refine⟨.ref h1.objs.size,_,I1.laid (t':=tk) (o:=.lst (ps'.map fun x=>V.ref x.1)) k2 (Nat.le_refl _) ⟨by rw[List.length_map,hpp.length_eq];exact hz,_,n,refs_vals (f:=fun x:Addr×List Int=>x.1) ps',hD⟩,rfl,q _ _ hpp ?_ I1.fresh⟩;rw[List.pairwise_map] at hs;refine hs.imp_of_mem fun {a b} ha hb hab=>?_
  have e1:=Srt.tupKey_of (ht a (hpp.mem_iff.mp ha));have e2:=Srt.tupKey_of (ht b (hpp.mem_iff.mp hb));have hab:HT.lexLt (Srt.tupKey s.heap (.ref b.1)) (Srt.tupKey s.heap (.ref a.1))=false:=hab;rw[e1,e2] at hab;exact hab
theorem call_sortedT:CallR X (.builtin "sorted") (fun xs H Q=>∃ (p:Addr) (ps:List (Addr×List Int)),xs=[.ref p]∧SrcT X.K H p ps∧∀ (ps':List (Addr×List Int)) (l:Addr),ps'.Perm ps→(ps'.Pairwise fun x y=>HT.lexLt y.2 x.2=false)→H l=none→Q (.ref l) (upd H l (.lst (ps'.map fun x=>V.ref x.1)))):=by
 intro pins s σ H xs us Q I r h;obtain⟨p,ps,rfl,⟨src,hall⟩,q⟩:=h;obtain⟨u,rfl,rx⟩:=vals1 r;cases rx;rcases src with h | h
 ·obtain⟨its,r',pl,hz⟩:=I.list h;obtain⟨o,ho,hc,n,hd⟩:=pl.isList;rw[List.length_map] at hz;have e:=vals_refs r';exact sortedT_fin (C:=fun _=>True) I (Srt.coll_seq ho hc (.inl rfl) hd (by rw[e,List.length_map];exact hz)) ps e hz hall q
 ·obtain⟨its,r',pl,hz⟩:=I.tuple h;obtain⟨o,ho,hc,n,hd⟩:=pl;rw[List.length_map] at hz;have e:=vals_refs r';exact sortedT_fin (C:=fun _=>True) I (Srt.coll_seq ho hc (.inr rfl) hd (by rw[e,List.length_map];exact hz)) ps e hz hall q
theorem call_sortedD (hc:X.A.handled=none):CallR X (.builtin "sorted") (fun xs H Q=>∃ (p:Addr) (kvs:List (List Key×V)) (kss:List (List Int)),xs=[.ref p]∧H p=some (.dT kvs)∧kvs.map (·.1)=kss.map (fun ks=>ks.map (Sum.inl:Int→Key))∧(∀ ks∈kss,ks≠[]) ∧
  ∀ (ps:List (Addr×List Int)) (l:Addr),(ps.map (·.2)).Perm kss→(∀ x∈ps,H x.1=some (.tup (x.2.map V.int)))→(ps.Pairwise fun x y=>HT.lexLt y.2 x.2=false)→H l=none→Q (.ref l) (upd H l (.lst (ps.map fun x=>V.ref x.1)))):=by
 intro pins s σ H xs us Q I r h;obtain⟨p,kvs,kss,rfl,hH,hk,hne,q⟩:=h;obtain⟨u,rfl,rx⟩:=vals1 r;cases rx;have hO:=I.hok p _ hH;unfold ObjOk at hO;obtain⟨z,lo,xs,rel,o,es,ep,ho,hx,hd,hes,hn⟩:=hO;have rel:KT H kvs xs:=rel;have key:∀ {kvs:List (List Key×V)} {xs:List (List Key×Addr×Value)} {kss:List (List Int)},KT H kvs xs→kvs.map (·.1)=kss.map (fun ks=>ks.map (Sum.inl:Int→Key)) →
   ∃ ps:List (Addr×List Int),xs.map (fun x=>x.2.1)=ps.map (·.1)∧ps.map (·.2)=kss∧∀ x∈ps,H x.1=some (.tup (x.2.map V.int)):=by
  intro kvs xs kss rel;induction rel generalizing kss with
  | nil =>
   intro e;cases kss with
   | nil=>exact⟨[],rfl,rfl,fun x hx=>nomatch hx⟩
   | cons _ _=>cases e
  | @cons pp qq ps qs hh _ ih =>
   intro e;cases kss with
   | nil=>cases e
   | cons ks r =>
    rw[List.map_cons,List.map_cons] at e;injection e with e1 e2
    obtain⟨rs,h1,h2,h3⟩:=ih e2;obtain⟨g1,g2,g3⟩:=hh;refine⟨(qq.2.1,ks)::rs,by rw[List.map_cons,List.map_cons,h1],by rw[List.map_cons,h2],fun x hx=>?_⟩;rcases List.mem_cons.mp hx with rfl | hx
    ·rw[g2,e1,List.map_map];rfl
    ·exact h3 x hx
 obtain⟨ps,e1,e2,e3⟩:=key rel hk;have hl:es.toList.length=kvs.length:=by rw[hes,List.length_map,← Paired.length rel]
 have ev:es.toList.map (·.key)=ps.map fun x=>Value.ref x.1:=by
  rw[hes,List.map_map];have:(xs.map fun x=>x.2.1).map Value.ref=(ps.map (·.1)).map Value.ref:=by rw[e1]
  rw[List.map_map,List.map_map] at this;exact this
 have hpl:ps.length=kvs.length:=by rw[← hl,← List.length_map (f:=fun x:DictEntry=>x.key),ev,List.length_map]
 refine sortedT_fin (C:=fun _=>True) I (Srt.coll_raw hc lo ⟨o,ho,hx,hd⟩ (by rw[← Array.length_toList,hl];exact z)) ps ev (by rw[hpl];exact z) (fun x hx=>⟨e3 x hx,hne _ (by rw[← e2];exact List.mem_map_of_mem hx)⟩) fun ps' l hp hs hn=>q ps' l ?_ (fun x hx=>e3 x (hp.mem_iff.mp hx)) hs hn
 rw[← e2];exact hp.map _
end
end L2
end
section
set_option Elab.async false
set_option linter.all false
set_option maxRecDepth 100000
namespace L2
open PySem PySem.Spec PyProof.Rows
mutual
inductive Dt (K:PySem.W.Frag)(H:Hp):V→PyData→Prop
 | non:Dt K H .non .none
 | bl (b:Bool):Dt K H (.bl b) (.bool b)
 | int (i:Int):Dt K H (.int i) (.int i)
 | str (x:Str):Dt K H (.str x) (.str x)
 | tup {a:Addr} {xs:List V} {ds:List PyData}:SqT K H a xs→Dts K H xs ds→Dt K H (.ref a) (.tuple ds)
 | lst {a:Addr} {xs:List V} {ds:List PyData}:SqL K H a xs→Dts K H xs ds→Dt K H (.ref a) (.list ds)
inductive Dts (K:PySem.W.Frag)(H:Hp):List V→List PyData→Prop
 | nil:Dts K H [] []
 | cons {x:V} {d:PyData} {xs:List V} {ds:List PyData}:Dt K H x d→Dts K H xs ds→Dts K H (x::xs) (d::ds)
end
section
variable {X:Cx}{pins:List (Addr×Obj)}{σ:St}{H:Hp}{s:Shared}
mutual
theorem Inv.reads (I:Inv X pins σ H s):∀ {x:V} {d:PyData} {u:Value},Dt X.K H x d→RelV x u→∃ as,Reads s.heap u d as
 | _,_,_,.non,r=>by cases (show _=Value.none from r);exact⟨_,.none⟩
 | _,_,_,.bl b,r=>by cases (show _=Value.bool b from r);exact⟨_,.bool b⟩
 | _,_,_,.int i,r=>by obtain⟨t,e⟩:=(show ∃ t,_=Value.int i t from r);subst e;exact⟨_,.int i t⟩
 | _,_,_,.str x,r=>by obtain⟨t,e⟩:=(show ∃ t,_=Value.str x t from r);subst e;exact⟨_,.str x t⟩
 | _,_,_,.tup (a:=a) h hs,r=>by
  cases (show _=Value.ref a from r);obtain⟨its,rv,⟨o,ho,hc,n,hd⟩,hz⟩:=I.tuple h;obtain⟨as,q⟩:=Inv.readsAll I hs rv;exact⟨_,.tuple ho hc hd (by simpa using q)⟩
 | _,_,_,.lst (a:=a) h hs,r=>by
  cases (show _=Value.ref a from r);obtain⟨its,rv,pl,hz⟩:=I.list h;obtain⟨o,ho,hc,n,hd⟩:=pl.isList;obtain⟨as,q⟩:=Inv.readsAll I hs rv;exact⟨_,.list ho hc hd (by simpa using q)⟩
theorem Inv.readsAll (I:Inv X pins σ H s):∀ {xs:List V} {ds:List PyData} {us:List Value},Dts X.K H xs ds→Vals xs us→∃ as,ReadsAll s.heap us ds as
 | _,_,_,.nil,.nil=>⟨_,.nil⟩
 | _,_,_,.cons h t,.cons r q=>by
  obtain⟨as,h1⟩:=Inv.reads I h r;obtain⟨bs,h2⟩:=Inv.readsAll I t q;exact⟨_,.cons h1 h2⟩
end
def rEqD (K:PySem.W.Frag)(neg:Bool):R2:=fun x y H Q=>∃ d e,Dt K H x d∧Dt K H y e∧SeqAt.shaped d=true∧SeqAt.shaped e=true∧Q (.bl (if neg then !PyData.eqv d e else PyData.eqv d e)) H
theorem op_eqD (hu:X.A.units+64<cLine):OpR X (compareOp .Eq) (rEqD X.K false):=by
 intro pins s σ H x y v u Q I rx ry h;obtain⟨d,e,hd,he,sd,se,q⟩:=h;obtain⟨as,r1⟩:=I.reads hd rx;obtain⟨bs,r2⟩:=I.reads he ry;exact eq_dataH r1 r2 sd se hu ⟨.bl _,H,I,rfl,q⟩
theorem op_neD (hu:X.A.units+64<cLine):OpR X (compareOp .NotEq) (rEqD X.K true):=by
 intro pins s σ H x y v u Q I rx ry h;obtain⟨d,e,hd,he,sd,se,q⟩:=h;obtain⟨as,r1⟩:=I.reads hd rx;obtain⟨bs,r2⟩:=I.reads he ry;exact ne_dataH r1 r2 sd se hu ⟨.bl _,H,I,rfl,q⟩
theorem Dts.ints {K:PySem.W.Frag}:∀ (ns:List Int),Dts K H (ns.map V.int) (ns.map PyData.int)
 | []=>.nil
 | n::r=>.cons (.int n) (Dts.ints r)
theorem canLay_ints:∀ ns:List Int,PyData.canLayAll0 (ns.map PyData.int)=true
 | []=>rfl
 | n::r=>by rw[List.map_cons,PyData.canLayAll0,canLay_ints r];rfl
theorem depth_ints:∀ ns:List Int,PyData.depthAll (ns.map PyData.int)=0
 | []=>rfl
 | n::r=>by rw[List.map_cons,PyData.depthAll,depth_ints r];rfl
theorem shaped_lstI (ns:List Int):SeqAt.shaped (.list (ns.map PyData.int))=true:=by
 unfold SeqAt.shaped PyData.canLay0 PyData.depth;rw[canLay_ints,depth_ints];rfl
theorem eqv_ints:∀ ns ms:List Int,PyData.eqvAll (ns.map PyData.int) (ms.map PyData.int)=decide (ns=ms)
 | [],[]=>rfl
 | [],_::_=>rfl
 | _::_,[]=>rfl
 | a::r,b::t=>by
  rw[List.map_cons,List.map_cons,PyData.eqvAll,PyData.eqv,eqv_ints r t];by_cases h:a=b<;>by_cases h':r=t<;>simp[h,h']
theorem eqv_tupI (ns ms:List Int):PyData.eqv (.tuple (ns.map PyData.int)) (.tuple (ms.map PyData.int))=decide (ns=ms):=by
 rw[PyData.eqv];exact eqv_ints ns ms
theorem eqv_lstI (ns ms:List Int):PyData.eqv (.list (ns.map PyData.int)) (.list (ms.map PyData.int))=decide (ns=ms):=by
 rw[PyData.eqv];exact eqv_ints ns ms
theorem Dt.tupI {K:PySem.W.Frag}{a:Addr}{ns:List Int}(h:SqT K H a (ns.map V.int)):Dt K H (.ref a) (.tuple (ns.map PyData.int)):=.tup h (Dts.ints ns)
theorem Dt.lstI {K:PySem.W.Frag}{a:Addr}{ns:List Int}(h:SqL K H a (ns.map V.int)):Dt K H (.ref a) (.list (ns.map PyData.int)):=.lst h (Dts.ints ns)
theorem neLI {K:PySem.W.Frag}{a b:Addr}{ns ms:List Int}{Q:VK}(h1:SqL K H a (ns.map V.int))(h2:SqL K H b (ms.map V.int))(q:Q (.bl (!decide (ns=ms))) H):rEqD K true (.ref a) (.ref b) H Q :=
 ⟨_,_,.lstI h1,.lstI h2,shaped_lstI _,shaped_lstI _,by rw[eqv_lstI];exact q⟩
theorem eqLI {K:PySem.W.Frag}{a b:Addr}{ns ms:List Int}{Q:VK}(h1:SqL K H a (ns.map V.int))(h2:SqL K H b (ms.map V.int))(q:Q (.bl (decide (ns=ms))) H):rEqD K false (.ref a) (.ref b) H Q :=
 ⟨_,_,.lstI h1,.lstI h2,shaped_lstI _,shaped_lstI _,by rw[eqv_lstI];exact q⟩
end
end L2
end
section
set_option Elab.async false
set_option linter.all false
set_option maxRecDepth 100000
namespace Srt
open PySem PyProof.Rows PySem.W
section
variable {prog:Program}{w:World}{A:Around}{E:Value→Shared→Prop}{s:Shared}
theorem coll_range {r:Addr}{a b c:Int}{t u v:Tok}{n:Nat}(hh:A.handled=none)(hr:IsRange s.heap r a b c t u v)(hsmall:Builtin.Range.small a b c=true)(hn:Builtin.Range.rangeSize a b c=n)(hlen:n≤2 ^ 24) :
  Coll prog w A r s fun us=>us.length=n∧∀ (i:Nat) x,us[i]?=some x→∃ t,x=.int (a+i*c) t:=by
 intro E R h;unfold collect;refine wpAny_bind (wpAny_runValue (codeAny_builtin entry_proto_collect' ?_));rw[Around.under_plainId PySem.F.plain_proto_collect _];show wpAny _ A.in1 (newList [] >>= fun l=>again (.builtin "list.__iadd__" ⟨[l,.ref r],[]⟩)) _ _ s;refine wpAny_bind (wpAny_newObj_type ?_);refine wpAny_pure ⟨plainId_quiet PySem.F.plain_list_iadd _,codeAny_builtin entry_list_iadd' ?_⟩;rw[Around.under_plainId PySem.F.plain_list_iadd _];have hS₁:(s.heap.push {cls:=.type "list",data:=.seq ([]:List Value).toArray}).get? s.heap.objs.size=some {cls:=.type "list",data:=.seq #[]}:=Heap.get?_push_size _ rfl;show wpAny _ A.in1 (Builtin.List.listExtendWith (.ref s.heap.objs.size) (.ref r) (.ref s.heap.objs.size)) _ _ _;have key:=wpAny_extend_range (prog:=prog) (w:=w) (A:=A) (s:={s with heap:=s.heap.push {cls:=.type "list",data:=.seq ([]:List Value).toArray}})
  (R:=fun (q:Result) (s':Shared)=>∃ (h':Heap) (tk:Nat) (acc':Array Value) (c':Nat),q=.ok (.ret (.ref s.heap.objs.size))∧s'={s with heap:=h',toks:=tk} ∧
   (∀ b o,s.heap.get? b=some o→h'.get? b=some o)∧h'.get? s.heap.objs.size=some {cls:=.type "list",dict:=none,data:=.seq acc' c',slots:=#[]}∧ItemsOf (fun (i:Nat) v=>∃ t,v=Value.int (a+i*c) t) acc' n)
  hh (Heap.get?_push_of_some _ hr) hsmall hn hlen s.heap.objs.size (.ref s.heap.objs.size) 0 hS₁
  (fun h' tk acc' c' hk hS' hacc=>⟨h',tk,acc',c',rfl,rfl,fun b o e=>hk b o (Nat.ne_of_lt (Heap.lt_size e)) (Heap.get?_push_of_some _ e),hS',hacc⟩)
 have fin:∀ (h':Heap) (tk:Nat) (acc':Array Value),(∀ b o,s.heap.get? b=some o→h'.get? b=some o)→ItemsOf (fun (i:Nat) v=>∃ t,v=Value.int (a+i*c) t) acc' n→R acc'.toList {s with heap:=h',toks:=tk}:=fun h' tk acc' hk hacc =>
  h h' tk acc'.toList hk ⟨by rw[Array.length_toList];exact hacc.1,fun i x e=>hacc.2 i x (by rw[← Array.getElem?_toList];exact e)⟩
 refine wpAny_mono key (fun fi s' x=>?_) fun e s' x=>?_
 ·cases fi with
  | done f =>
   obtain⟨h',tk,acc',c',e,rfl,hk,hS',hacc⟩:=x;cases e;show wpAny _ A (load s.heap.objs.size >>= _) _ _ _;exact wpAny_bind (wpAny_load hS' (wpAny_pure (fin h' tk acc' hk hacc)))
  | again c₁ =>
   refine⟨x.1,codeAny_mono x.2 fun q s₂ y=>?_⟩;obtain⟨h',tk,acc',c',rfl,rfl,hk,hS',hacc⟩:=y;show wpAny _ A (load s.heap.objs.size >>= _) _ _ _;exact wpAny_bind (wpAny_load hS' (wpAny_pure (fin h' tk acc' hk hacc)))
 ·obtain⟨_,_,_,_,e',_⟩:=x;cases e'
end
end Srt
namespace PySem
open AutoSeq1 (wpAny_loadPart')
set_option maxRecDepth 100000
theorem own_tuple_new (r:Addr)(T:String)(hT:(Value.type T == Value.type "tuple")=false)(C:List Value→Prop) :
  Meets (Builtin.«tuple.__new__» ⟨[.type "tuple",.ref r],[]⟩)
   (fun A R s=>s.TypeIs (.ref r) T∧(∀ prog w,Srt.Coll prog w A.in1 r s C)∧(∀ vs,C vs→vs.length≤sizeLine)∧∀ (h':Heap) (tk:Nat) (vs:List Value),C vs→(∀ b o',s.heap.get? b=some o'→h'.get? b=some o')→R (.ok (.ret (.ref h'.objs.size))) {s with heap:=h'.push {cls:=.type "tuple",data:=.seq vs.toArray},toks:=tk}) :=
 .of_wp fun prog w A R s h=>by
  obtain⟨hp,g,d,tk,os⟩:=s;obtain⟨hty,hcol,hz,h⟩:=h;have hsub:=sub_tuple_self;have hinit:=init_tuple_lookup;have hmh:=madeHere_tuple;have hc:∀ {Q:List Value→Shared→Prop} {E:Value→Shared→Prop},(∀ (h':Heap) (tk':Nat) (vs:List Value),(∀ b o,hp.get? b=some o→h'.get? b=some o)→C vs→Q vs ⟨h',g,d,tk',os⟩) →
    wpAny (model prog w) A.in1 (collect (.ref r)) Q E ⟨hp,g,d,tk,os⟩:=fun {Q E} k=>hcol prog w E Q k
  wp_walk using wpAny_typeOf hty,hc
  intro h' tk' vs hk hC;show wpAny _ _ (Builtin.Tuple.tupleExact vs.toArray >>= fun v=>ret v) _ _ _;unfold Builtin.Tuple.tupleExact;refine wpAny_bind (wpAny_newObj_type ?_ (by show vs.toArray.size≤sizeLine;simpa using hz vs hC));exact wpAny_pure ⟨_,rfl,h h' tk' vs hC hk⟩
end PySem
namespace L2
open PySem PySem.Spec PyProof.Rows
section
variable {X:Cx}
theorem call_rng1:CallR X (.type "range") (fun xs H Q=>∃ hi:Int,xs=[.int hi]∧∀ p,H p=none→Q (.ref p) (upd H p (.rng 0 hi))):=by
 intro pins s σ H xs us Q I r h;obtain⟨hi,rfl,q⟩:=h;obtain⟨u,rfl,rx⟩:=vals1 r;obtain⟨t,rfl⟩:=rx;refine call_range_1 ⟨.ref s.heap.objs.size,_,I.laid (o:=.rng 0 hi) (fun _ _ q=>Heap.get?_push_of_some _ q) (Nat.le_refl _) ⟨_,_,_,Heap.get?_push_size _ rfl⟩,rfl,q _ I.fresh⟩
def rInts (lo:Int)(n:Nat):List Int:=(List.range n).map fun (i:Nat)=>lo+(i:Int)
theorem rInts_length (lo:Int)(n:Nat):(rInts lo n).length=n:=by unfold rInts;simp
theorem rInts_get {lo:Int}{n i:Nat}(h:i<n):(rInts lo n)[i]?=some (lo+(i:Int)):=by unfold rInts;simp[h]
theorem ints_range {us:List Value}{lo:Int}{n:Nat}(hl:us.length=n)(hi:∀ (i:Nat) x,us[i]?=some x→∃ t,x=Value.int (lo+i*1) t):Vals ((rInts lo n).map V.int) us:=by
 have key:∀ (us:List Value) (k:Nat),(∀ (i:Nat) x,us[i]?=some x→∃ t,x=Value.int (lo+((i+k:Nat):Int)) t)→Vals (((List.range' k us.length).map fun (i:Nat)=>lo+(i:Int)).map V.int) us:=by
  intro us;induction us with
  | nil=>intro k _;exact .nil
  | cons u r ih =>
   intro k h;rw[List.length_cons,List.range'_succ,List.map_cons,List.map_cons];refine .cons ?_ (ih (k+1) fun i x e=>?_)
   ·obtain⟨t,e⟩:=h 0 u rfl;rw[Nat.zero_add] at e;exact⟨t,e⟩
   ·obtain⟨t,e'⟩:=h (i+1) x (by simpa using e);exact⟨t,by rw[e'];congr 2;omega⟩
 have:=key us 0 fun i x e=>by
  obtain⟨t,e'⟩:=hi i x e;exact⟨t,by rw[e',Int.mul_one,Nat.add_zero]⟩
 unfold rInts;rw[List.range_eq_range',← hl];exact this
theorem small_of {lo hi:Int}(h1:-(2 ^ 62)≤lo)(h2:lo<2 ^ 62)(h3:-(2 ^ 62)≤hi)(h4:hi<2 ^ 62):Builtin.Range.small lo hi 1=true:=by
 exact PySem.small_one h1 h2 h3 h4
theorem call_tuple_rng (hc:X.A.handled=none):CallR X (.type "tuple") (fun xs H Q=>∃ (p:Addr) (lo hi:Int),xs=[.ref p]∧H p=some (.rng lo hi)∧(-(2 ^ 62)≤lo∧lo<2 ^ 62∧-(2 ^ 62)≤hi∧hi<2 ^ 62)∧(hi-lo).toNat≤2 ^ 24 ∧
  ∀ l,H l=none→Q (.ref l) (upd H l (.tup ((rInts lo (hi-lo).toNat).map V.int)))):=by
 intro pins s σ H xs us Q I r h;obtain⟨p,lo,hi,rfl,hp,⟨b1,b2,b3,b4⟩,hz,q⟩:=h;obtain⟨u,rfl,rx⟩:=vals1 r;cases rx;have hO:=I.hok p _ hp;unfold ObjOk at hO;obtain⟨t,u',v,hr⟩:=hO;have hsl:(hi-lo).toNat≤sizeLine:=by rw[sizeLine_eq];omega
 refine callType_new F.called_tuple (by decide) (F.typeCall_tuple_1 _) (F.newCall_tuple_1 _) (fun obj=>F.args_object_init_2 obj _) F.entry_tuple_new
  (own_tuple_new p "range" (by decide) (fun us=>us.length=(hi-lo).toNat∧∀ (i:Nat) x,us[i]?=some x→∃ t,x=Value.int (lo+i*1) t))
  ⟨⟨_,hr,rfl⟩,fun prog w=>Srt.coll_range (A:=X.A.in1.in1) hc hr (small_of b1 b2 b3 b4) (rangeSize_nat lo hi) hz,fun vs hv=>by rw[hv.1];exact hsl,fun h' tk vs hv hk=>⟨⟨_,Heap.get?_push_size _ rfl,rfl⟩,?_⟩⟩
 have I1:Inv X pins σ H {s with heap:=h',toks:=tk}:=I.kept hk;refine⟨.ref h'.objs.size,_,I1.laid (t':=tk) (o:=.tup ((rInts lo (hi-lo).toNat).map V.int)) (fun _ _ q=>Heap.get?_push_of_some _ q) (Nat.le_refl _) ⟨by rw[List.length_map,rInts_length];exact hsl,vs,ints_range hv.1 hv.2,_,Heap.get?_push_size _ rfl,rfl,0,rfl⟩,rfl,q _ I1.fresh⟩
theorem call_list_rng (hc:X.A.handled=none):CallR X (.type "list") (fun xs H Q=>∃ (p:Addr) (lo hi:Int),xs=[.ref p]∧H p=some (.rng lo hi)∧(-(2 ^ 62)≤lo∧lo<2 ^ 62∧-(2 ^ 62)≤hi∧hi<2 ^ 62)∧(hi-lo).toNat≤2 ^ 24 ∧
  ∀ l,H l=none→Q (.ref l) (upd H l (.lst ((rInts lo (hi-lo).toNat).map V.int)))):=by
 intro pins s σ H xs us Q I r h;obtain⟨p,lo,hi,rfl,hp,⟨b1,b2,b3,b4⟩,hz,q⟩:=h;obtain⟨u,rfl,rx⟩:=vals1 r;cases rx;have hO:=I.hok p _ hp;unfold ObjOk at hO;obtain⟨t,u',v,hr⟩:=hO;have hsl:(hi-lo).toNat≤sizeLine:=by rw[sizeLine_eq];omega
 refine call_list_range hc hr (small_of b1 b2 b3 b4) (rangeSize_nat lo hi) hz fun h' tk acc' c' hk hS' hacc=>?_
 refine⟨.ref s.heap.objs.size,_,I.laid (t':=tk) (o:=.lst ((rInts lo (hi-lo).toNat).map V.int)) hk (Nat.le_refl _) ⟨by rw[List.length_map,rInts_length];exact hsl,acc'.toList,c',ints_range (by rw[Array.length_toList];exact hacc.1) fun i x e=>hacc.2 i x (by rw[← Array.getElem?_toList];exact e),by rw[Array.toArray_toList];exact hS'⟩,rfl,q _ I.fresh⟩
end
end L2
namespace Srt
open PySem PyProof.Rows PySem.W
theorem nolen_lr:typeLookup (.type "list_reverseiterator") "__len__"=pure none:=by rw[typeLookup_type,builtinLookup_eq_fast];kernel_rfl
theorem hint_lr:typeLookup (.type "list_reverseiterator") "__length_hint__"=pure (some (.builtin "list_reverseiterator.__length_hint__")):=by rw[typeLookup_type,builtinLookup_eq_fast];kernel_rfl
section
variable {prog:Program}{w:World}{A:Around}{E:Value→Shared→Prop}{s:Shared}
theorem rev_extend {R:Result→Shared→Prop}{r l S:Addr}{items:Array Value}{res:Value}{c₀:Nat}(hh:A.handled=none)(hr:s.heap.IsRevIter r l ((items.size:Int)-1))(hl:s.heap.IsList l items)(hne:l≠r)(hSr:S≠r)(hSl:S≠l)
  (hS:s.heap.get? S=some {cls:=.type "list",data:=.seq #[] c₀}) (hn:items.size≤sizeLine)
  (hR:∀ h' tk acc' c',(∀ b o,b≠S→b≠r→s.heap.get? b=some o→h'.get? b=some o)→h'.get? S=some {cls:=.type "list",dict:=none,data:=.seq acc' c',slots:=#[]} →
   ItemsOf (fun i v=>items[items.size-1-i]?=some v) acc' items.size→R (.ok (.ret res)) {s with heap:=h',toks:=tk}) :
  wpAny (model prog w) A.in1 (Builtin.List.listExtendWith (.ref S) (.ref r) res)
   (fun fin s'=>match fin with | .done f=>R (.ok f) s' | .again c'=>c'.quiet=true∧codeAny (model prog w) A c' R s') (fun e s'=>R (.error e) s') s:=by
 have W:=(Walks.listRev (prog:=prog) (w:=w) (A:=A.in1) hh r l hne items).toS;have hSf:S∉[r,l]:=by simp only[List.mem_cons,List.not_mem_nil,or_false,not_or];exact⟨hSr,hSl⟩
 unfold Builtin.List.listExtendWith;refine wpAny_bind (wpAny_typeOf hr.typeIs ?_);have h1:Builtin.List.listSameRef (.ref S) (.ref r)=false:=by simp[Builtin.List.listSameRef,hSr]
 rw[if_neg (by rw[h1];decide)];refine wpAny_bind (wpAny_pyIter_revIter hr ?_);refine wpAny_bind (wpAny_holding ?_);unfold Builtin.List.listLengthHint;refine wpAny_bind (wpAny_specialOf hr.typeIs nolen_lr ?_);show wpAny _ A.in1 (specialOf (Value.ref r) (Str.ofString "__length_hint__") >>= _) _ _ _;refine wpAny_bind (wpAny_specialOf hr.typeIs hint_lr ?_);generalize hid:("list_reverseiterator.__length_hint__":String)=id0
 wp_delta
 rw[show splitId id0=some ("list_reverseiterator", "__length_hint__") from by subst hid;decide +kernel];subst hid;refine wpAny_bind (wpAny_isInstance (b:=true) hr.typeIs (by rw[isSubtype_type];kernel_rfl) ?_);refine wpAny_pure ?_;rw[if_neg (by decide)];refine wpAny_pure ⟨plainId_quiet PySem.F.plain_extend_loop _,codeAny_extend_loopS W hn S hSf res items.size 0 s #[] c₀ rfl (Nat.zero_le _) ⟨Nat.zero_le _,by simpa using hr,hl⟩ hS (ItemsOf.nil _) fun s' acc' c' hm hS' hacc=>?_⟩;rw[Moved.eq_with hm];refine hR s'.heap s'.toks acc' c' (fun b o hb hbr e=>hm.heap b o (fun hmem=>?_) e) hS' hacc;rcases List.mem_cons.mp hmem with e' | hmem
 ·exact hb e'
 ·exact hbr (List.mem_singleton.mp hmem)
theorem call_list_rev {Q:Value→Shared→Prop}{r l:Addr}{items:Array Value}(hh:A.handled=none)(hr:s.heap.IsRevIter r l ((items.size:Int)-1))(hl:s.heap.IsList l items)(hne:l≠r)(hn:items.size≤sizeLine)
  (hQ:∀ h' tk acc' c',(∀ b o,b≠r→s.heap.get? b=some o→h'.get? b=some o)→h'.get? s.heap.objs.size=some {cls:=.type "list",dict:=none,data:=.seq acc' c',slots:=#[]} →
   ItemsOf (fun i v=>items[items.size-1-i]?=some v) acc' items.size→Q (.ref s.heap.objs.size) {s with heap:=h',toks:=tk}) :
  wpAny (model prog w) A (call (.type "list") [.ref r]) Q E s:=by
 refine callType_codes (Q₁:=fun obj s₁=>obj=.ref s.heap.objs.size∧s₁={s with heap:=s.heap.push {cls:=.type "list",data:=.seq #[]}}) PySem.F.called_list (PySem.F.typeCall_list_1 _) PySem.F.entry_list_init
  (code_list_new _ ⟨rfl,rfl⟩) fun obj s₁ h₁=>?_
 obtain⟨rfl,rfl⟩:=h₁;have hS:(s.heap.push {cls:=.type "list",data:=.seq #[]}).get? s.heap.objs.size=some {cls:=.type "list",data:=.seq #[]}:=Heap.get?_push_size _ rfl;have rlt:r<s.heap.objs.size:=let ⟨o,ho,_⟩:=hr;Heap.lt_size ho;have llt:l<s.heap.objs.size:=let ⟨o,ho,_⟩:=hl;Heap.lt_size ho;refine⟨⟨_,hS,rfl⟩,PySem.F.args_list_init_2 _ _,?_⟩;show wpAny _ _ (do let old ← Builtin.List.listItems (.ref s.heap.objs.size);Builtin.List.listUpdate (.ref s.heap.objs.size) (fun _=>#[]);letGo old.toList.reverse;Builtin.List.listExtendWith (.ref s.heap.objs.size) (.ref r) .none) _ _ _;refine wpAny_bind ?_;unfold Builtin.List.listItems;refine wpAny_bind (wpAny_seqItems hS rfl (wpAny_pure ?_));show wpAny _ _ (updateSeq s.heap.objs.size (fun _=>#[]) >>= fun _=>letGo (#[]:Array Value).toList.reverse >>= fun _=>Builtin.List.listExtendWith (.ref s.heap.objs.size) (.ref r) .none) _ _ _;refine wpAny_bind (wpAny_updateSeq hS rfl ?_);have hS₂:=Heap.get?_update_self (Obj.mapSeq (fun _=>(#[]:Array Value))) hS rfl;have oth:∀ b o,b≠s.heap.objs.size→s.heap.get? b=some o→((s.heap.push {cls:=.type "list",data:=.seq #[]}).update s.heap.objs.size (Obj.mapSeq (fun _=>(#[]:Array Value)))).get? b=some o :=
  fun b o hb e=>(Heap.get?_update_other _ _ (Ne.symm hb)).trans (Heap.get?_push_of_some _ e)
 refine wpAny_bind (wpAny_letGo ?_);refine rev_extend (A:=A.in1) hh (hr.at fun o e=>oth r o (Nat.ne_of_lt rlt) e) (hl.at fun o e=>oth l o (Nat.ne_of_lt llt) e) hne (Nat.ne_of_gt rlt) (Nat.ne_of_gt llt) hS₂ hn fun h' tk acc' c' hk hS' hacc=>?_
 exact⟨rfl,hQ h' tk acc' c' (fun b o hb e=>hk b o (Nat.ne_of_lt (Heap.lt_size e)) hb (oth b o (Nat.ne_of_lt (Heap.lt_size e)) e)) hS' hacc⟩
end
end Srt
namespace L2
open PySem PySem.Spec PyProof.Rows
section
variable {X:Cx}{e:Expr}{te:TE}{p1 p2 q1 q2:Pos}
theorem boot_listT:bootBuiltins "list"=some (.type "list"):=by decide +kernel
theorem boot_reversed:bootBuiltins "reversed"=some (.type "reversed"):=by decide +kernel
theorem vals_rev:∀ {xs:List V} {us:List Value},Vals xs us→Vals xs.reverse us.reverse
 | _,_,.nil=>.nil
 | _,_,.cons r t=>by
  rw[List.reverse_cons,List.reverse_cons];exact (vals_rev t).append (.cons r .nil)
def tRevL (te:TE):TE:=fun σ H Q=>te σ H fun x H1=>∃ a xs,x=.ref a∧H1 a=some (.lst xs)∧∀ l,H1 l=none→Q (.ref l) (upd H1 l (.lst xs.reverse))
theorem pe_listrev (hc:X.A.handled=none)(hg1:Gl X "list")(hm1:X.mg "list"=none)(hg2:Gl X "reversed")(hm2:X.mg "reversed"=none)(he:PE X e te)
  (hs1:starEach [.Call (.Name "reversed" p1) [e] [] q1] X.env=[(false,eval (.Call (.Name "reversed" p1) [e] [] q1) X.env)]:=by rfl) (hs2:starEach [e] X.env=[(false,eval e X.env)]:=by rfl) :
  PE X (.Call (.Name "list" p2) [.Call (.Name "reversed" p1) [e] [] q1] [] q2) (tRevL te):=by
 intro pins s σ H Q I h;refine wpAny_Call_Name_kw (ld_blt I hg1 hm1 boot_listT ?_);refine PyProof.Rows.callWith_type1 ?_ hs1 rfl;rw[hs1];refine Calls.spliced_cons ?_;refine wpAny_Call_Name_kw (ld_blt I hg2 hm2 boot_reversed ?_);refine PyProof.Rows.callWith_type1 ?_ hs2 rfl;rw[hs2];refine Calls.spliced_cons (thn (he pins s σ H _ I h) fun u s1 ⟨x,H1,I1,r1,q1⟩=>?_);obtain⟨a,xs,rfl,ha,q⟩:=q1;cases r1;refine Calls.spliced_nil ?_;obtain⟨its,n,rv,ho,hz⟩:=I1.lst ha;have hl:s1.heap.IsList a its.toArray:=⟨_,ho,rfl,n,rfl⟩
 have alt:a<s1.heap.objs.size:=Heap.lt_size ho;refine call_reversed_list hl ?_;refine Calls.spliced_nil ?_;have k1:∀ b o,s1.heap.get? b=some o→(s1.heap.push (revObj a ((its.toArray.size:Int)-1))).get? b=some o:=fun _ _ q=>Heap.get?_push_of_some _ q
 refine Srt.call_list_rev (s:={s1 with heap:=s1.heap.push (revObj a ((its.toArray.size:Int)-1))}) hc ⟨_,Heap.get?_push_size _ rfl,rfl,rfl⟩ (hl.at fun o e=>k1 a o e) (Nat.ne_of_lt alt) (by rw[List.size_toArray,← rv.length];exact hz) fun h' tk acc' c' hk hS' hacc=>?_
 have eacc:acc'.toList=its.reverse:=by
  apply List.ext_getElem?;intro i;rw[Array.getElem?_toList];rcases Nat.lt_or_ge i its.length with hi | hi
  ·have hi':i<acc'.size:=by rw[hacc.1,List.size_toArray];exact hi
   have:=hacc.2 i acc'[i] (Array.getElem?_eq_getElem hi');rw[Array.getElem?_eq_getElem hi',List.getElem?_reverse hi];rw[List.size_toArray,List.getElem?_toArray] at this;exact this.symm
  ·rw[Array.getElem?_eq_none (by rw[hacc.1,List.size_toArray];exact hi),List.getElem?_eq_none (by rw[List.length_reverse];exact hi)]
 have keep:∀ b o,s1.heap.get? b=some o→h'.get? b=some o:=fun b o e=>hk b o (Nat.ne_of_lt (Heap.lt_size e)) (k1 b o e)
 have hsz:(s1.heap.push (revObj a ((its.toArray.size:Int)-1))).objs.size=s1.heap.objs.size+1:=Heap.size_push ..;refine⟨.ref (s1.heap.push (revObj a ((its.toArray.size:Int)-1))).objs.size,_,I1.laid (t':=tk) (a:=(s1.heap.push (revObj a ((its.toArray.size:Int)-1))).objs.size) (o:=.lst xs.reverse) keep (by rw[hsz];omega) ⟨by rw[List.length_reverse];exact hz,its.reverse,c',vals_rev rv,by rw[← eacc,Array.toArray_toList];exact hS'⟩,rfl,q _ (I1.hok.fresh (by rw[hsz];omega))⟩
end
end L2
end
section
set_option Elab.async false
set_option linter.all false
set_option maxRecDepth 100000
namespace L2
open PySem PySem.Spec PyProof.Rows
theorem raw_len {prog:Program}{w:World}{A:Around}{E:Value→Shared→Prop}{s:Shared}{d:Addr}{es:Array DictEntry}{ep:Nat}{Q:Value→Shared→Prop}(hd:(d == sysModules)=false)(r:Srt.RawD s.heap d es ep)
  (h:Q (.int es.size s.toks) {s with toks:=s.toks+1}):wpAny (model prog w) A (call (.builtin "dict.__len__") [.ref d]) Q E s:=by
 obtain⟨o,ho,hx,hdat⟩:=id r;refine wpAny_call_entry F.slot_dict_len r.typeIs F.entry_dict_len ?_ (F.args_dict_len_1 _);show wpAny _ _ (dictSize d >>= _) _ _ s;unfold dictSize;refine wpAny_bind (wpAny_bind (wpAny_dictEntries ho hdat (wpAny_pure ?_)));show wpAny _ _ (Builtin.Dict.pendingCount d >>= _) _ _ s;refine wpAny_bind (wpAny_pendingCount_other hd ?_);refine wpAny_ret_mkInt ?_;first | exact⟨_,rfl,h⟩ | exact h | simpa using h
section
variable {X:Cx}
theorem call_lenDT:CallR X (.builtin "len") (fun xs H Q=>∃ (a:Addr) (kvs:List (List Key×V)),xs=[V.ref a]∧H a=some (.dT kvs)∧Q (.int kvs.length) H):=by
 intro pins s σ H xs us Q I r h;obtain⟨a,kvs,rfl,ha,q⟩:=h;obtain⟨u,rfl,ru⟩:=vals1 r;cases ru;have hO:=I.hok a _ ha;unfold ObjOk at hO;obtain⟨z,lo,xs,rel,o,es,ep,ho,hx,hd,hes,hn⟩:=hO;have hl:es.size=kvs.length:=by rw[← Array.length_toList,hes,List.length_map,← Paired.length rel]
 have rd:Srt.RawD s.heap a es ep:=⟨o,ho,hx,hd⟩
 rw[sizeLine_eq] at z;refine call_len_slot (n:=kvs.length) rd.typeIs F.slot_dict_len (fun Q' hq=>raw_len lo rd (by rw[hl];exact hq)) (by omega) (by omega) ?_;exact⟨.int kvs.length,H,I.tok _,⟨_,rfl⟩,q⟩
end
structure Df (K:PySem.W.Frag)(mg:Str→Option Value)(x:Str)(st:Stmt)(f:Addr)(fd:FuncData)(ps:List Str):Prop where
 F:Fun K x x st f fd
 b:Binds K fd ps []
 m:mg x=some (.ref f)
theorem pe_own {X:Cx}{k:Nat}{f:Addr}{fd:FuncData}{ps:List Str}{sp:Sp}{x:Str}{st:Stmt}{p pos:Pos}{e:Expr}{es:List Expr}{t:TA}(G:FnOk X.prog X.w X.K X.mg X.base CX0 k f fd ps sp)(D:Df X.K X.mg x st f fd ps)(hr:Room k X.A)
  (ha:PA X (e::es) t) (hg:Gl X x:=by rfl) (hdb:(x == ("__debug__":Str))=false:=by decide) (he:starEach (e::es) X.env=(false,eval e X.env)::starEach es X.env:=by rfl) (hpl:(backTo pos (starEach es X.env)).any (·.1)=false:=by rfl) :
  PE X (.Call (.Name x p) (e::es) [] pos) (tCall sp [] E0 t):=pe_call G hr hg D.m D.F.kp D.b .nil pass0 ha hdb he hpl
structure Bt (mg:Str→Option Value):Prop where
 len:mg "len"=none
 range:mg "range"=none
 list:mg "list"=none
 tuple:mg "tuple"=none
 sorted:mg "sorted"=none
 min:mg "min"=none
 max:mg "max"=none
 int:mg "int"=none
 reversed:mg "reversed"=none
section
variable {X:Cx}(K:PySem.W.Frag)
theorem ix_listK (h:X.K=K:=by rfl):IxR X (rIxL K):=by subst h;exact ix_list
theorem ix_tupK (h:X.K=K:=by rfl):IxR X (rIxT K):=by subst h;exact ix_tup
theorem sl_listK (h:X.K=K:=by rfl):SlR X (rSlL K):=by subst h;exact sl_list
theorem in_seqK (h:X.K=K:=by rfl):OpR X (compareOp .In) (rIn K false):=by subst h;exact op_in_seq
theorem notIn_seqK (h:X.K=K:=by rfl):OpR X (compareOp .NotIn) (rIn K true):=by subst h;exact op_notIn_seq
theorem eqDK (hu:X.A.units+64<cLine)(h:X.K=K:=by rfl):OpR X (compareOp .Eq) (rEqD K false):=by subst h;exact op_eqD hu
theorem neDK (hu:X.A.units+64<cLine)(h:X.K=K:=by rfl):OpR X (compareOp .NotEq) (rEqD K true):=by subst h;exact op_neD hu
def cLen (K:PySem.W.Frag):List V→Hp→VK→Prop:=fun xs H Q=>∃ p ys,xs=[.ref p]∧(SqL K H p ys∨SqT K H p ys)∧Q (.int ys.length) H
def cList (K:PySem.W.Frag):List V→Hp→VK→Prop:=fun xs H Q=>∃ p ys,xs=[.ref p]∧(SqL K H p ys∨SqT K H p ys)∧∀ l,H l=none→Q (.ref l) (upd H l (.lst ys))
def cTuple (K:PySem.W.Frag):List V→Hp→VK→Prop:=fun xs H Q=>∃ p ys,xs=[.ref p]∧((SqL K H p ys∧∀ l,H l=none→Q (.ref l) (upd H l (.tup ys)))∨(SqT K H p ys∧Q (.ref p) H))
def cSortI (K:PySem.W.Frag):List V→Hp→VK→Prop:=fun xs H Q=>∃ (p:Addr) (ns:List Int),xs=[.ref p]∧SrcI K H p ns∧∀ (ns':List Int) (l:Addr),ns'.Perm ns→ns'.Pairwise (·≤·)→H l=none→Q (.ref l) (upd H l (.lst (ns'.map V.int)))
def cSortT (K:PySem.W.Frag):List V→Hp→VK→Prop:=fun xs H Q=>∃ (p:Addr) (ps:List (Addr×List Int)),xs=[.ref p]∧SrcT K H p ps∧∀ (ps':List (Addr×List Int)) (l:Addr),ps'.Perm ps→(ps'.Pairwise fun x y=>HT.lexLt y.2 x.2=false)→H l=none→Q (.ref l) (upd H l (.lst (ps'.map fun x=>V.ref x.1)))
theorem lenK (h:X.K=K:=by rfl):CallR X (.builtin "len") (cLen K):=by subst h;exact call_len_seq
theorem listK (h:X.K=K:=by rfl):CallR X (.type "list") (cList K):=by subst h;exact call_list_of
theorem tupleK (h:X.K=K:=by rfl):CallR X (.type "tuple") (cTuple K):=by subst h;exact call_tuple_of
theorem sortedIK (hc:X.A.handled=none)(h:X.K=K:=by rfl):CallR X (.builtin "sorted") (cSortI K):=by subst h;exact call_sortedI hc
theorem sortedTK (h:X.K=K:=by rfl):CallR X (.builtin "sorted") (cSortT K):=by subst h;exact call_sortedT
variable {tg l o e:Expr}{tl to:TE}{es:List Expr}{t:TA}{pos:Pos}
theorem pi_listK (hl:PE X l tl)(h:X.K=K:=by rfl):PI X tg l (iList K tl):=by subst h;exact pi_list hl
theorem pi_tupK (hl:PE X l tl)(h:X.K=K:=by rfl):PI X tg l (iTup K tl):=by subst h;exact pi_tup hl
theorem pg_tupK {k:Nat}{t:TGs}{n:Nat}(hc:X.calm=true)(hg:PGs X es t)(hn:(assignEach es X.env).length=n:=by rfl)(hst:(assignEach es X.env).findIdx? (·.1)=none:=by rfl)(h:X.K=K:=by rfl):PG X (.Tuple es k pos) (gTup K n t):=by
 subst h;exact pg_tup hc hg hn hst
theorem appendK {apos cpos:Pos}(ho:PE X o to)(ha:PA X (e::es) t)(h:X.K=K:=by rfl)
  (hbase:attributeBase o "append" X.env (eval o X.env)=eval o X.env:=by rfl)
  (hfew:((backTo cpos (starEach (e::es) X.env)).all (fun x=>!x.1) && (backToKw cpos (keywordEach [] X.env)).all (fun x=>x.1.isSome)
   && decide ((e::es).length+([]:List Keyword).length+(if ([]:List Keyword).isEmpty then 0 else 1)<30))=true:=by rfl) (hst:starEach (e::es) X.env=(false,eval e X.env)::starEach es X.env:=by rfl) (hpl:(backTo cpos (starEach es X.env)).any (·.1)=false:=by rfl) (hline:(apos.endLine == cpos.line)=true:=by rfl) :
  PE X (.Call (.Attribute o "append" apos) (e::es) [] cpos) (tBM K "list" rAppend to t):=by
 subst h;exact pe_bm PySem.F.plainAttrs_list PySem.F.slot_list_append PySem.F.type_list_append mt_append ho ha hbase hfew hline hst hpl
theorem popK {apos cpos:Pos}(ho:PE X o to)(h:X.K=K:=by rfl)(hbase:attributeBase o "pop" X.env (eval o X.env)=eval o X.env:=by rfl)(hline:(apos.endLine == cpos.line)=true:=by rfl) :
  PE X (.Call (.Attribute o "pop" apos) [] [] cpos) (tBM0 K "list" rPop to):=by
 subst h;exact pe_bm0 PySem.F.plainAttrs_list PySem.F.slot_list_pop PySem.F.type_list_pop mt_pop ho hbase hline
theorem truthK (he:PE X e to)(hw:∀ whole,isTrue e X.env whole=(do let v ← whole;standAt e.pos;holding [v] (truthy v)))(h:X.K=K:=by rfl):PT X e (fun σ H Q=>to σ H fun x H'=>∃ k,TruV K x H' k∧Q k H'):=by
 subst h;exact pt_truth he hw
end
section
variable {K:PySem.W.Frag}{a p:Addr}{xs:List V}{g:TG}{tc:TT}{te tv:TE}{τ0:St}{H0:Hp}{EE:Hp→Prop}
theorem lc_list (Pv:Nat→St→Hp→Prop)(h0:Pv 0 τ0 H0)(hl:∀ i τ H,i≤xs.length→Pv i τ H→SqL K H a xs)
  (hs:∀ i x τ H,xs[i]?=some x→Pv i τ H→(∀ ys,SqL K H a ys→ys[i]?=some x)→g x τ H fun τ2 H2=>tc τ2 H2 fun b H3=>if b=true then te τ2 H3 fun v H4=>∃ ys,H4 p=some (.lst ys)∧ys.length<sizeLine∧Pv (i+1) τ2 (upd H4 p (.lst (ys++[v]))) else Pv (i+1) τ2 H3)
  (hd:∀ τ H,Pv xs.length τ H→EE H):lcW g tc te p (Itl K a) τ0 H0 EE:=by
 refine⟨fun i m τ H=>m=xs.length-i∧i≤xs.length∧Pv i τ H,⟨_,rfl,Nat.zero_le _,h0⟩,?_⟩;rintro i m τ H ⟨rfl,hi,hp⟩;have hq:=hl i τ H hi hp;rcases Nat.lt_or_ge i xs.length with h | h
 ·have hx:xs[i]?=some xs[i]:=List.getElem?_eq_getElem h;refine .inr ⟨⟨xs,_,hq,hx⟩,Pv (i+1),fun τ' H' z=>⟨_,by omega,rfl,h,z⟩,?_⟩;rintro x H' ⟨rfl,hy⟩;have e:x=xs[i]:=by have:=hy xs hq;rw[hx] at this;exact (Option.some.inj this).symm
  subst e;exact hs i _ τ H' hx hp hy
 ·have e:i=xs.length:=by omega
  subst e;exact .inl ⟨⟨xs,hq,Nat.le_refl _⟩,hd τ H hp⟩
theorem lc_tup (Pv:Nat→St→Hp→Prop)(h0:Pv 0 τ0 H0)(hl:∀ i τ H,i≤xs.length→Pv i τ H→SqT K H a xs)
  (hs:∀ i x τ H,xs[i]?=some x→Pv i τ H→g x τ H fun τ2 H2=>tc τ2 H2 fun b H3=>if b=true then te τ2 H3 fun v H4=>∃ ys,H4 p=some (.lst ys)∧ys.length<sizeLine∧Pv (i+1) τ2 (upd H4 p (.lst (ys++[v]))) else Pv (i+1) τ2 H3)
  (hd:∀ τ H,Pv xs.length τ H→EE H):lcW g tc te p (Itt K a) τ0 H0 EE:=by
 refine⟨fun i m τ H=>m=xs.length-i∧i≤xs.length∧Pv i τ H,⟨_,rfl,Nat.zero_le _,h0⟩,?_⟩;rintro i m τ H ⟨rfl,hi,hp⟩;have hq:=hl i τ H hi hp;rcases Nat.lt_or_ge i xs.length with h | h
 ·have hx:xs[i]?=some xs[i]:=List.getElem?_eq_getElem h;refine .inr ⟨⟨xs,_,hq,hx⟩,Pv (i+1),fun τ' H' z=>⟨_,by omega,rfl,h,z⟩,?_⟩;rintro x H' ⟨rfl,hy⟩;have e:x=xs[i]:=by have:=hy xs hq;rw[hx] at this;exact (Option.some.inj this).symm
  subst e;exact hs i _ τ H' hx hp
 ·have e:i=xs.length:=by omega
  subst e;exact .inl ⟨⟨xs,hq,Nat.le_refl _⟩,hd τ H hp⟩
theorem lc_range {lo:Int}{n:Nat}(Pv:Nat→St→Hp→Prop)(h0:Pv 0 τ0 H0)
  (hs:∀ i τ H,i<n→Pv i τ H→g (.int (lo+i)) τ H fun τ2 H2=>tc τ2 H2 fun b H3=>if b=true then te τ2 H3 fun v H4=>∃ ys,H4 p=some (.lst ys)∧ys.length<sizeLine∧Pv (i+1) τ2 (upd H4 p (.lst (ys++[v]))) else Pv (i+1) τ2 H3)
  (hd:∀ τ H,Pv n τ H→EE H):lcW g tc te p (Itr lo n) τ0 H0 EE:=by
 refine⟨fun i m τ H=>m=n-i∧i≤n∧Pv i τ H,⟨_,rfl,Nat.zero_le _,h0⟩,?_⟩;rintro i m τ H ⟨rfl,hi,hp⟩;rcases Nat.lt_or_ge i n with h | h
 ·refine .inr ⟨h,Pv (i+1),fun τ' H' z=>⟨_,by omega,rfl,h,z⟩,?_⟩;rintro x H' ⟨rfl,rfl⟩;exact hs i τ H' h hp
 ·have e:i=n:=by omega
  subst e;exact .inl ⟨Nat.le_refl _,hd τ H hp⟩
theorem dc_tup (Pv:Nat→St→Hp→Prop)(h0:Pv 0 τ0 H0)(hl:∀ i τ H,i≤xs.length→Pv i τ H→SqT K H a xs)
  (hs:∀ i x τ H,xs[i]?=some x→Pv i τ H→g x τ H fun τ2 H2=>tc τ2 H2 fun b H3=>if b=true then te τ2 H3 fun k H4=>tv τ2 H4 fun v H5=>∃ H6,DPut H5 p k v H6∧Pv (i+1) τ2 H6 else Pv (i+1) τ2 H3)
  (hd:∀ τ H,Pv xs.length τ H→EE H):dcW g tc te tv p (Itt K a) τ0 H0 EE:=by
 refine⟨fun i m τ H=>m=xs.length-i∧i≤xs.length∧Pv i τ H,⟨_,rfl,Nat.zero_le _,h0⟩,?_⟩;rintro i m τ H ⟨rfl,hi,hp⟩;have hq:=hl i τ H hi hp;rcases Nat.lt_or_ge i xs.length with h | h
 ·have hx:xs[i]?=some xs[i]:=List.getElem?_eq_getElem h;refine .inr ⟨⟨xs,_,hq,hx⟩,Pv (i+1),fun τ' H' z=>⟨_,by omega,rfl,h,z⟩,?_⟩;rintro x H' ⟨rfl,hy⟩;have e:x=xs[i]:=by have:=hy xs hq;rw[hx] at this;exact (Option.some.inj this).symm
  subst e;exact hs i _ τ H' hx hp
 ·have e:i=xs.length:=by omega
  subst e;exact .inl ⟨⟨xs,hq,Nat.le_refl _⟩,hd τ H hp⟩
end
theorem call_intB {X:Cx}:CallR X (.type "int") (fun xs H Q=>∃ k,xs=[.bl k]∧Q (.int (if k then 1 else 0)) H):=fun pins s σ H xs us Q I r h=>call_int1 pins s σ H xs us Q I r (.inr h)
theorem upd_self {H:Hp}{a:Addr}{o:HO}(h:H a=some o):upd H a o=H:=by
 funext b;by_cases e:b=a
 ·subst e;rw[upd_same,h]
 ·rw[upd_ne e]
theorem Same.upd {H H':Hp}(s:Same H H'){p:Addr}{o:HO}(hp:H p=none):Same H (L2.upd H' p o):=fun b u e=>by
 rw[upd_ne (ne_of_none e hp)];exact s b u e
theorem Same.seqT {K:PySem.W.Frag}{H H':Hp}{a:Addr}{xs:List V}(e:Same H H')(h:SqT K H a xs):SqT K H' a xs:=by
 rcases h with (h | ⟨o,h⟩) | h
 ·exact .inl (.inl (e _ _ h))
 ·exact .inl (.inr ⟨o,e _ _ h⟩)
 ·exact .inr h
theorem sizeBig {n:Nat}(h:n≤16000000):n<sizeLine:=by rw[sizeLine_eq];omega
end L2
end
section
set_option maxHeartbeats 8000000
local macro_rules | `(tactic| omega)=>`(tactic| first | lia | omega +splitDisjunctions)
set_option Elab.async false
set_option linter.all false
set_option maxRecDepth 100000
namespace L2
open PySem
def Tp (H H':Hp):Prop:=∀ a xs,H a=some (.tup xs)→H' a=some (.tup xs)
theorem Tp.refl (H:Hp):Tp H H:=fun _ _ h=>h
theorem Tp.trans {H H1 H2:Hp}(a:Tp H H1)(b:Tp H1 H2):Tp H H2:=fun c o h=>b c o (a c o h)
theorem Same.tp {H H':Hp}(s:Same H H'):Tp H H':=fun a xs h=>s a _ h
theorem ne_tl {H:Hp}{a b:Addr}{xs ys:List V}(h:H a=some (.tup xs))(h':H b=some (.lst ys)):a≠b:=fun e=>by subst e;rw[h] at h';cases h'
theorem ne_tdT {H:Hp}{a b:Addr}{xs:List V}{ys:List (List Key×V)}(h:H a=some (.tup xs))(h':H b=some (.dT ys)):a≠b:=fun e=>by subst e;rw[h] at h';cases h'
theorem ne_tdK {H:Hp}{a b:Addr}{xs:List V}{ys:List (Key×V)}(h:H a=some (.tup xs))(h':H b=some (.dK ys)):a≠b:=fun e=>by subst e;rw[h] at h';cases h'
theorem Tp.new {H H':Hp}(s:Tp H H'){p:Addr}{o:HO}(hp:H p=none):Tp H (upd H' p o):=fun a xs h=>by rw[upd_ne (ne_of_none h hp)];exact s a xs h
theorem Tp.lst {H:Hp}{p:Addr}{o:HO}{ys:List V}(hp:H p=some (.lst ys)):Tp H (upd H p o):=fun a xs h=>by rw[upd_ne (ne_tl h hp)];exact h
theorem Tp.dT {H:Hp}{p:Addr}{o:HO}{ys:List (List Key×V)}(hp:H p=some (.dT ys)):Tp H (upd H p o):=fun a xs h=>by rw[upd_ne (ne_tdT h hp)];exact h
theorem Tp.dK {H:Hp}{p:Addr}{o:HO}{ys:List (Key×V)}(hp:H p=some (.dK ys)):Tp H (upd H p o):=fun a xs h=>by rw[upd_ne (ne_tdK h hp)];exact h
theorem Tp.nw {H:Hp}{p:Addr}{o:HO}(hp:H p=none):Tp H (upd H p o):=(Tp.refl H).new hp
theorem at_new {H:Hp}{a p:Addr}{o u:HO}(h:H a=some o)(hp:H p=none):upd H p u a=some o:=by rw[upd_ne (ne_of_none h hp)];exact h
theorem of_upd_none {H:Hp}{p q:Addr}{o:HO}(h:upd H p o q=none):H q=none:=by
 by_cases e:q=p
 ·subst e;rw[upd_same] at h;cases h
 ·rwa [upd_ne e] at h
@[elab_as_elim] theorem fresh_of {G:Hp→Prop} {H:Hp} {p:Addr} {o:HO} (n:H p=none) (k:∀ H',Same H H'→H' p=some o→G H'):G (upd H p o):=k _ ((Same.refl H).upd n) upd_same
theorem seq_rest {a b:TS}{D:Ends}{σ:St}{H:Hp}(C:St→Hp→Prop)(ha:∀ R:St→Hp→Prop,(∀ σ H,C σ H→R σ H)→a {D with nx:=R} σ H)(hb:∀ σ H,C σ H→b D σ H):tSeq a b D σ H:=ha (b D) hb
def DsOk (ds:List Int):Prop:=ds.length≤2000∧∀ x∈ds,0≤x∧x<1000
def DkAt (H:Hp)(d:Addr):Prop:=∃ ds:List Int,H d=some (.lst (ds.map V.int))∧DsOk ds
def Kp (d:Addr)(H H':Hp):Prop:=∀ b o,b≠d→H b=some o→H' b=some o
theorem Kp.refl (d:Addr)(H:Hp):Kp d H H:=fun _ _ _ h=>h
theorem Kp.trans {d:Addr}{H H1 H2:Hp}(a:Kp d H H1)(b:Kp d H1 H2):Kp d H H2:=fun c o hc e=>b c o hc (a c o hc e)
theorem Same.kp {d:Addr}{H H':Hp}(s:Same H H'):Kp d H H':=fun b o _ h=>s b o h
theorem Kp.free {d:Addr}{H H':Hp}(k:Kp d H H')(hd:DkAt H' d){l:Addr}(h:H' l=none):H l=none:=by
 cases e:H l with
 | none=>rfl
 | some o =>
  by_cases q:l=d
  ·subst q;obtain⟨ds,e',_⟩:=hd;rw[e'] at h;cases h
  ·rw[k l o q e] at h;cases h
theorem Kp.new {d:Addr}{H H':Hp}(k:Kp d H H'){p:Addr}{o:HO}(hp:H p=none):Kp d H (upd H' p o):=fun b u hb e=>by
 rw[upd_ne (ne_of_none e hp)];exact k b u hb e
theorem DkAt.new {d:Addr}{H:Hp}(h:DkAt H d){p:Addr}{o:HO}(hp:p≠d):DkAt (upd H p o) d:=by
 obtain⟨ds,e,hl⟩:=h;exact⟨ds,by rw[upd_ne hp.symm];exact e,hl⟩
theorem DkAt.ne {d p:Addr}{H:Hp}(h:DkAt H d)(hp:H p=none):p≠d:=fun e=>by
 subst e;obtain⟨ds,e,_⟩:=h;rw[hp] at e;cases e
theorem DkAt.same {d:Addr}{H H':Hp}(h:DkAt H d)(s:Same H H'):DkAt H' d:=by
 obtain⟨ds,e,hl⟩:=h;exact⟨ds,s _ _ e,hl⟩
theorem Kp.tp {d:Addr}{H H':Hp}(k:Kp d H H')(hd:DkAt H d):Tp H H':=fun a xs h=>by
 refine k a _ (fun e=>?_) h;subst e;obtain⟨ds,e',_⟩:=hd;rw[h] at e';cases e'
def sp_mixed:Sp:=fun vs H Q _=>∃ c k:Int,vs=[.int c,.int k]∧0≤k∧k<2 ^ 30∧∀ z:Int,Q (.int z) H
def sp_next:Sp:=fun vs H Q _=>∃ (d:Addr) (ns:List Int),vs=[.ref d]∧H d=some (.lst (ns.map V.int))∧∀ (z:Int) (ns':List Int),ns'.length≤ns.length→(∀ x∈ns',x∈ns)→(z=0∨z∈ns)→Q (.int z) (upd H d (.lst (ns'.map V.int)))
theorem next_useB {H:Hp}{d:Addr}{Q:VK}{E:XK}(hd:DkAt H d)(h:∀ z H',Kp d H H'→DkAt H' d→0≤z→z<1000→Q (.int z) H'):sp_next [.ref d] H Q E:=by
 obtain⟨ds,e,hl,hb⟩:=hd;refine⟨d,ds,rfl,e,fun z ns' hn hs hz=>?_⟩;have hz':0≤z∧z<1000:=by
  rcases hz with rfl | hz
  ·exact⟨by decide,by decide⟩
  ·exact hb z hz
 exact h z _ (fun b o hb eb=>by rw[upd_ne hb];exact eb) ⟨ns',upd_same,by omega,fun x hx=>hb x (hs x hx)⟩ hz'.1 hz'.2
theorem next_use {H:Hp}{d:Addr}{Q:VK}{E:XK}(hd:DkAt H d)(h:∀ z H',Kp d H H'→DkAt H' d→(∀ b,b≠d→H' b=H b)→Q (.int z) H'):sp_next [.ref d] H Q E:=by
 obtain⟨ds,e,hl,hb⟩:=hd;exact⟨d,ds,rfl,e,fun z ns' hn hs _=>h z _ (fun b o hb eb=>by rw[upd_ne hb];exact eb) ⟨ns',upd_same,by omega,fun x hx=>hb x (hs x hx)⟩ fun b hb=>upd_ne hb⟩
def sp_deck (K:PySem.W.Frag):Sp:=fun vs H Q _=>∃ (a:Addr) (m:Int) (ns:List Int),vs=[.ref a,.int m]∧SqL K H a (ns.map V.int)∧ns.length≤63∧0≤m∧m≤2000 ∧
 ∀ (p:Addr) (ds:List Int) (H':Hp),DsOk ds→Same H H'→H p=none→H' p=some (.lst (ds.map V.int))→Q (.ref p) H'
def sp_turn:Sp:=fun vs H Q _=>∃ (d:Addr) (n:Int),vs=[.ref d,.int n]∧DkAt H d∧0≤n∧n≤1000 ∧
 ∀ (p:Addr) (ks:List Int) (H':Hp),Kp d H H'→DkAt H' d→H p=none→H' p=some (.tup (ks.map V.int))→ks.Perm (rInts 0 n.toNat)→Q (.ref p) H'
theorem turn_use {H:Hp}{d:Addr}{n:Int}{Q:VK}{E:XK}(hd:DkAt H d)(h0:0≤n)(h1:n≤1000)(h:∀ (p:Addr) (ks:List Int) (H':Hp),Kp d H H'→DkAt H' d→H p=none→H' p=some (.tup (ks.map V.int))→ks.Perm (rInts 0 n.toNat)→Q (.ref p) H'):sp_turn [.ref d,.int n] H Q E :=
 ⟨d,n,rfl,hd,h0,h1,h⟩
theorem rInts_succ (i:Nat):rInts 0 (i+1)=rInts 0 i++[(0:Int)+i]:=by unfold rInts;rw[List.range_succ,List.map_append];rfl
def tl (t:Int×Int):List Int:=[t.1,t.2]
def Lex (t u:Int×Int):Prop:=t.1<u.1∨(t.1=u.1∧t.2<u.2)
structure IsWeb (n:Int)(ts:List (Int×Int)):Prop where
 n3:3≤n
 n60:n≤60
 rng:∀ t∈ts,0≤t.1∧t.1<t.2∧t.2<n
 srt:ts.Pairwise Lex
 len:ts.length≤200
 conn:∀ S:Int→Prop,(∀ t∈ts,S t.1↔S t.2)→∀ u v,0≤u→u<n→0≤v→v<n→S u→S v
structure PsAt (H:Hp)(ps:List (Addr×List Int))(ts:List (Int×Int)):Prop where
 to:∀ x∈ps,H x.1=some (.tup (x.2.map V.int))
 eq:ps.map (·.2)=ts.map tl
def TsAt (H:Hp)(q:Addr)(ts:List (Int×Int)):Prop:=∃ ps:List (Addr×List Int),H q=some (.tup (ps.map fun x=>V.ref x.1))∧PsAt H ps ts
def WebAt (H:Hp)(w:Addr)(n:Int)(ts:List (Int×Int)):Prop:=∃ q,H w=some (.tup [.int n,.ref q])∧TsAt H q ts
theorem PsAt.tp {H H':Hp}{ps:List (Addr×List Int)}{ts:List (Int×Int)}(h:PsAt H ps ts)(t:Tp H H'):PsAt H' ps ts:=⟨fun x hx=>t _ _ (h.to x hx),h.eq⟩
theorem TsAt.tp {H H':Hp}{q:Addr}{ts:List (Int×Int)}(h:TsAt H q ts)(t:Tp H H'):TsAt H' q ts:=by
 obtain⟨ps,e,p⟩:=h;exact⟨ps,t _ _ e,p.tp t⟩
theorem WebAt.tp {H H':Hp}{w:Addr}{n:Int}{ts:List (Int×Int)}(h:WebAt H w n ts)(t:Tp H H'):WebAt H' w n ts:=by
 obtain⟨q,e,p⟩:=h;exact⟨q,t _ _ e,p.tp t⟩
theorem PsAt.get {H:Hp}{ps:List (Addr×List Int)}{ts:List (Int×Int)}(h:PsAt H ps ts){i:Nat}{v:V}(e:(ps.map fun x=>V.ref x.1)[i]?=some v) :
  ∃ a t,v=.ref a∧ts[i]?=some t∧H a=some (.tup [.int t.1,.int t.2]):=by
 rw[List.getElem?_map] at e;cases hx:ps[i]? with
 | none=>rw[hx] at e;cases e
 | some x =>
  rw[hx] at e;have e1:V.ref x.1=v:=Option.some.inj e;have e2:(ps.map (·.2))[i]?=some x.2:=by rw[List.getElem?_map,hx];rfl
  rw[h.eq,List.getElem?_map] at e2;cases ht:ts[i]? with
  | none=>rw[ht] at e2;cases e2
  | some t =>
   rw[ht] at e2;have e3:tl t=x.2:=Option.some.inj e2;refine⟨x.1,t,e1.symm,rfl,?_⟩;rw[h.to x (List.mem_of_getElem? hx),← e3];rfl
theorem PsAt.len {H:Hp}{ps:List (Addr×List Int)}{ts:List (Int×Int)}(h:PsAt H ps ts):ps.length=ts.length:=by
 have:=congrArg List.length h.eq;simpa using this
def un (l:List Int):Int×Int:=(l.getD 0 0,l.getD 1 0)
theorem un_tl (t:Int×Int):un (tl t)=t:=rfl
theorem PsAt.of_perm {H:Hp}{ps:List (Addr×List Int)}{ts:List (Int×Int)}(h:∀ x∈ps,H x.1=some (.tup (x.2.map V.int)))(pm:(ps.map (·.2)).Perm (ts.map tl)):∃ ts',ts'.Perm ts∧PsAt H ps ts':=by
 refine⟨(ps.map (·.2)).map un,?_,h,?_⟩
 ·have:=pm.map un;rw[List.map_map (l:=ts),show (un ∘ tl)=id from funext un_tl,List.map_id] at this;exact this
 ·rw[List.map_map];conv=>lhs;rw[← List.map_id (ps.map (·.2))]
  refine List.map_congr_left fun l hl=>?_
  obtain⟨t,_,rfl⟩:=List.mem_map.mp (pm.mem_iff.mp hl);rfl
theorem PsAt.perm {H:Hp}{ps ps':List (Addr×List Int)}{ts:List (Int×Int)}(h:PsAt H ps ts)(pm:ps'.Perm ps):∃ ts',ts'.Perm ts∧PsAt H ps' ts' :=
 PsAt.of_perm (fun x hx=>h.to x (pm.mem_iff.mp hx)) (by rw[← h.eq];exact pm.map _)
theorem PsAt.srt {H:Hp}{ps:List (Addr×List Int)}{ts:List (Int×Int)}(h:PsAt H ps ts)(s:ps.Pairwise fun x y=>HT.lexLt y.2 x.2=false):ts.Pairwise fun x y=>HT.lexLt (tl y) (tl x)=false:=by
 have h1:(ps.map (·.2)).Pairwise fun x y=>HT.lexLt y x=false:=List.pairwise_map.mpr s
 rw[h.eq] at h1;exact List.pairwise_map.mp h1
theorem PsAt.src {K:PySem.W.Frag}{H:Hp}{p:Addr}{ps:List (Addr×List Int)}{ts:List (Int×Int)}(h:PsAt H ps ts)(e:H p=some (.lst (ps.map fun x=>V.ref x.1))):SrcT K H p ps:=by
 refine⟨.inl (SqL.of e),fun x hx=>⟨h.to x hx,fun e2=>?_⟩⟩;have:x.2∈ps.map (·.2):=List.mem_map_of_mem hx;rw[h.eq] at this;obtain⟨t,_,e3⟩:=List.mem_map.mp this;rw[e2] at e3;cases e3
theorem PsAt.snoc {H:Hp}{ps:List (Addr×List Int)}{ts:List (Int×Int)}(h:PsAt H ps ts){q:Addr}{t:Int×Int}(e:H q=some (.tup [.int t.1,.int t.2])):PsAt H (ps++[(q,tl t)]) (ts++[t]):=by
 refine⟨fun x hx=>?_,by rw[List.map_append,List.map_append,h.eq];rfl⟩;rcases List.mem_append.mp hx with hx | hx
 ·exact h.to x hx
 ·cases List.mem_singleton.mp hx;exact e
def sp_web:Sp:=fun vs H Q _=>∃ (d:Addr) (lo hi:Int),vs=[.ref d,.int lo,.int hi]∧DkAt H d∧3≤lo∧lo≤hi∧hi≤60 ∧
 ∀ (w:Addr) (n:Int) (ts:List (Int×Int)) (H':Hp),Kp d H H'→DkAt H' d→lo≤n→n≤hi→IsWeb n ts→WebAt H' w n ts→Q (.ref w) H'
def kvT (fs:List (Int×Int)):List (List Key×V):=fs.map fun t=>([.inl t.1,.inl t.2],V.bl true)
def addT (fs:List (Int×Int))(t:Int×Int):List (Int×Int):=if t∈fs then fs else fs++[t]
theorem mem_addT {fs:List (Int×Int)}{t x:Int×Int}:x∈addT fs t↔x∈fs∨x=t:=by
 unfold addT;split
 ·exact⟨.inl,fun h=>h.elim id fun e=>by subst e;assumption⟩
 ·simp
theorem nd_addT {fs:List (Int×Int)}{t:Int×Int}(h:fs.Nodup):(addT fs t).Nodup:=by
 unfold addT;split
 ·exact h
 ·rename_i hn;rw[List.nodup_append];exact⟨h,by simp,fun a ha b hb e=>hn (by simp at hb;subst hb;subst e;exact ha)⟩
theorem len_addT {fs:List (Int×Int)}{t:Int×Int}:(addT fs t).length≤fs.length+1:=by
 unfold addT;split<;>simp
theorem kvT_put_len {fs:List (Int×Int)}(h:fs.length≤1000):(kvT fs).length<sizeLine:=by unfold kvT;rw[List.length_map];exact sizeBig (by omega)
theorem put_kvT (fs:List (Int×Int))(a b:Int):putK (kvT fs) [Sum.inl a,Sum.inl b] (V.bl true)=kvT (addT fs (a,b)):=by
 have key:∀ t:Int×Int,(([Sum.inl t.1,Sum.inl t.2]:List Key)=[Sum.inl a,Sum.inl b])↔t=(a,b):=fun t=>by
  obtain⟨x,y⟩:=t;constructor
  ·intro e;injection e with e1 e2
   injection e2 with e2 _
   injection e1 with e1
   injection e2 with e2
   subst e1;subst e2;rfl
  ·intro e;cases e;rfl
 unfold putK addT;by_cases h:(a,b)∈fs
 ·have h1:((kvT fs).any fun kv=>decide (kv.1=[Sum.inl a,Sum.inl b]))=true:=by
   rw[List.any_eq_true];exact⟨_,List.mem_map_of_mem h,by simp⟩
  rw[if_pos h1,if_pos h];unfold kvT;rw[List.map_map];refine List.map_congr_left fun t ht=>?_
  show (if _ then _ else _)=_;split<;>rfl
 ·have h1:¬ ((kvT fs).any fun kv=>decide (kv.1=[Sum.inl a,Sum.inl b]))=true:=by
   rw[List.any_eq_true];rintro⟨kv,hk,e⟩;obtain⟨t,ht,rfl⟩:=List.mem_map.mp hk;have:=(key t).mp (of_decide_eq_true e);subst this;exact h ht
  rw[if_neg h1,if_neg h];unfold kvT;rw[List.map_append];rfl
theorem kvT_len (fs:List (Int×Int)):(kvT fs).length=fs.length:=by unfold kvT;simp
theorem kvT_keys (fs:List (Int×Int)):(kvT fs).map (·.1)=(fs.map tl).map (fun ks=>ks.map (Sum.inl:Int→Key)):=by
 unfold kvT tl;rw[List.map_map,List.map_map];rfl
def nm (ks:List Int)(u:Int):Int:=ks.getD u.toNat 0
def ren (ks:List Int)(t:Int×Int):Int×Int:=(if nm ks t.2<nm ks t.1 then nm ks t.2 else nm ks t.1,if nm ks t.2>nm ks t.1 then nm ks t.2 else nm ks t.1)
section
variable {ks:List Int}{n:Int}
theorem nm_at (hp:ks.Perm (rInts 0 n.toNat)){u:Int}(h0:0≤u)(h1:u<n):ks[u.toNat]?=some (nm ks u):=by
 have hl:ks.length=n.toNat:=by rw[hp.length_eq,rInts_length]
 have hu:u.toNat<ks.length:=by omega
 unfold nm;rw[List.getD_eq_getElem?_getD,List.getElem?_eq_getElem hu];rfl
theorem nm_rng (hp:ks.Perm (rInts 0 n.toNat)){u:Int}(h0:0≤u)(h1:u<n):0≤nm ks u∧nm ks u<n:=by
 have hm:=hp.mem_iff.mp (List.mem_of_getElem? (nm_at hp h0 h1));unfold rInts at hm;obtain⟨i,hi,e⟩:=List.mem_map.mp hm;have:=List.mem_range.mp hi;omega
theorem nm_inj (hp:ks.Perm (rInts 0 n.toNat)){u v:Int}(h0:0≤u)(h1:u<n)(k0:0≤v)(k1:v<n)(e:nm ks u=nm ks v):u=v:=by
 have hnd:ks.Nodup:=hp.nodup_iff.mpr (by
  unfold rInts;refine List.pairwise_map.mpr (List.Pairwise.imp ?_ List.pairwise_lt_range)
  intro a b h e;omega)
 have a1:=nm_at hp h0 h1;have a2:=nm_at hp k0 k1;rw[← e] at a2;have hl:ks.length=n.toNat:=by rw[hp.length_eq,rInts_length]
 have:=(List.getElem?_inj (l:=ks) (i:=u.toNat) (j:=v.toNat) (by omega) hnd).mp (by rw[a1,a2]);omega
theorem nm_sur (hp:ks.Perm (rInts 0 n.toNat)){v:Int}(k0:0≤v)(k1:v<n):∃ u,0≤u∧u<n∧nm ks u=v:=by
 have hm:v∈rInts 0 n.toNat:=by
  unfold rInts;exact List.mem_map.mpr ⟨v.toNat,List.mem_range.mpr (by omega),by omega⟩
 obtain⟨i,hi,e⟩:=List.getElem_of_mem (hp.mem_iff.mpr hm);have hl:ks.length=n.toNat:=by rw[hp.length_eq,rInts_length]
 refine⟨(i:Int),by omega,by omega,?_⟩;unfold nm;rw[List.getD_eq_getElem?_getD,Int.toNat_natCast,List.getElem?_eq_getElem hi];exact e
theorem lex_iff {t u:Int×Int}:HT.lexLt (tl t) (tl u)=true↔Lex t u:=by
 unfold tl Lex;rw[HT.lexLt_cons];split
 ·rename_i h;rw[HT.lexLt_cons];split
  ·rename_i h2;constructor
   ·intro e;cases e
   ·intro e;omega
  ·rename_i h2;rw[decide_eq_true_iff];constructor
   ·intro e;exact .inr ⟨h,e⟩
   ·intro e;rcases e with e | e
    ·omega
    ·exact e.2
 ·rename_i h;rw[decide_eq_true_iff];constructor
  ·intro e;exact .inl e
  ·intro e;rcases e with e | e
   ·exact e
   ·exact absurd e.1 h
theorem web_ren {fs ts:List (Int×Int)}(h3:3≤n)(h60:n≤60)(hnd:fs.Nodup)(hrng:∀ t∈fs,0≤t.1∧t.1<t.2∧t.2<n)(hlen:fs.length≤200)(hah:∀ k:Int,1≤k→k<n→∃ a,0≤a∧a<k∧(a,k)∈fs)
  (hp:ks.Perm (rInts 0 n.toNat)) (hts:ts.Perm (fs.map (ren ks))) (hs:ts.Pairwise fun x y=>HT.lexLt (tl y) (tl x)=false):IsWeb n ts:=by
 have rr:∀ t∈fs,0≤(ren ks t).1∧(ren ks t).1<(ren ks t).2∧(ren ks t).2<n:=fun t ht=>by
  obtain⟨h0,h1,h2⟩:=hrng t ht;have a:=nm_rng hp h0 (by omega);have b:=nm_rng hp (u:=t.2) (by omega) h2;have c:nm ks t.1≠nm ks t.2:=fun e=>by have:=nm_inj hp h0 (by omega) (by omega) h2 e;omega
  unfold ren;dsimp only;split<;>split<;>omega
 have inj:∀ t∈fs,∀ u∈fs,ren ks t=ren ks u→t=u:=fun t ht u hu e=>by
  obtain⟨h0,h1,h2⟩:=hrng t ht;obtain⟨k0,k1,k2⟩:=hrng u hu;unfold ren at e;injection e with e1 e2
  have i1:nm ks t.1=nm ks u.1→t.1=u.1:=nm_inj hp h0 (by omega) k0 (by omega);have i2:nm ks t.2=nm ks u.2→t.2=u.2:=nm_inj hp (by omega) h2 (by omega) k2;have i3:nm ks t.1=nm ks u.2→t.1=u.2:=nm_inj hp h0 (by omega) (by omega) k2;have i4:nm ks t.2=nm ks u.1→t.2=u.1:=nm_inj hp (by omega) h2 k0 (by omega);have:t.1=u.1∧t.2=u.2:=by
   split at e1<;>split at e1<;>split at e2<;>split at e2<;>omega
  obtain⟨q1,q2⟩:=this;cases t;cases u;simp at q1 q2;rw[q1,q2]
 have nd2:(fs.map (ren ks)).Nodup:=by
  refine List.pairwise_map.mpr ?_;refine List.Pairwise.imp_of_mem ?_ hnd;intro a b ha hb hab e;exact hab (inj a ha b hb e)
 have nd3:ts.Nodup:=hts.nodup_iff.mpr nd2;refine⟨h3,h60,fun t ht=>?_,?_,by rw[hts.length_eq,List.length_map];exact hlen,fun S hS=>?_⟩
 ·obtain⟨u,hu,rfl⟩:=List.mem_map.mp (hts.mem_iff.mp ht);exact rr u hu
 ·refine (List.Pairwise.and hs nd3).imp ?_;rintro a b ⟨h1,h2⟩;have h3:¬ Lex b a:=fun e=>by rw[lex_iff.mpr e] at h1;cases h1
  have h4:a.1≠b.1∨a.2≠b.2:=by
   by_cases q:a.1=b.1
   ·refine .inr fun e=>h2 ?_
    cases a;cases b;simp at q e;rw[q,e]
   ·exact .inl q
  unfold Lex at h3 ⊢;omega
 ·have hf:∀ t∈fs,S (nm ks t.1)↔S (nm ks t.2):=fun t ht=>by
   have:=hS _ (hts.mem_iff.mpr (List.mem_map_of_mem ht));unfold ren at this
   revert this
   dsimp only;obtain⟨h0,h1,h2⟩:=hrng t ht;have c:nm ks t.1≠nm ks t.2:=fun e=>by have:=nm_inj hp h0 (by omega) (by omega) h2 e;omega
   split<;>split<;>intro q
   ·omega
   ·exact q.symm
   ·exact q
   ·omega
  have h0:∀ m:Nat,∀ k:Int,0≤k→k<n→k.toNat=m→(S (nm ks k)↔S (nm ks 0)):=by
   intro m;induction m using Nat.strongRecOn with
   | ind m ih =>
    intro k k0 k1 e;by_cases hk:k=0
    ·subst hk;exact Iff.rfl
    ·obtain⟨a,a0,a1,hm⟩:=hah k (by omega) k1;exact (hf _ hm).symm.trans (ih a.toNat (by omega) a a0 (by omega) rfl)
  intro u v u0 u1 v0 v1 su;obtain⟨u',p0,p1,rfl⟩:=nm_sur hp u0 u1;obtain⟨v',q0,q1,rfl⟩:=nm_sur hp v0 v1;exact (h0 _ v' q0 q1 rfl).mpr ((h0 _ u' p0 p1 rfl).mp su)
end
end L2
end
section
set_option Elab.async false
set_option linter.all false
set_option maxRecDepth 100000
namespace L2
open PySem
def nb (ts:List (Int×Int))(v:Int):List Int:=ts.filterMap fun t=>if t.1=v then some t.2 else if t.2=v then some t.1 else none
def rowsOf (n:Int)(ts:List (Int×Int)):List (List Int):=(List.range n.toNat).map fun (v:Nat)=>nb ts (v:Int)
structure RowsAt (H:Hp)(p:Addr)(as:List Addr)(rows:List (List Int)):Prop where
 top:H p=some (.lst (as.map V.ref))
 len:as.length=rows.length
 nd:as.Nodup
 np:p∉as
 row:∀ (i:Nat) a r,as[i]?=some a→rows[i]?=some r→H a=some (.lst (r.map V.int))
section
variable {H H':Hp}{p:Addr}{as:List Addr}{rows:List (List Int)}
theorem RowsAt.mono (h:RowsAt H p as rows)(k:∀ a o,a=p∨a∈as→H a=some o→H' a=some o):RowsAt H' p as rows :=
 ⟨k _ _ (.inl rfl) h.top,h.len,h.nd,h.np,fun i a r ha hr=>k _ _ (.inr (List.mem_of_getElem? ha)) (h.row i a r ha hr)⟩
theorem RowsAt.same (h:RowsAt H p as rows)(s:Same H H'):RowsAt H' p as rows:=h.mono fun a o _ e=>s a o e
theorem RowsAt.kp {d:Addr}(h:RowsAt H p as rows)(k:Kp d H H')(hp:d≠p)(ha:d∉as):RowsAt H' p as rows :=
 h.mono fun a o q e=>k a o (fun e2=>by subst e2;exact q.elim hp ha) e
theorem RowsAt.app (h:RowsAt H p as rows){i:Nat}{a:Addr}{r:List Int}(ha:as[i]?=some a)(hr:rows[i]?=some r)(x:Int):RowsAt (upd H a (.lst ((r++[x]).map V.int))) p as (rows.set i (r++[x])):=by
 have hpa:p≠a:=fun e=>h.np (by rw[e];exact List.mem_of_getElem? ha)
 refine⟨by rw[upd_ne hpa];exact h.top,by rw[List.length_set];exact h.len,h.nd,h.np,fun j b s hb hs=>?_⟩;by_cases e:j=i
 ·subst e;rw[ha] at hb;cases hb;rw[List.getElem?_set_self (List.getElem?_eq_some_iff.mp hr).1] at hs;cases hs;exact upd_same
 ·have hba:b≠a:=fun e2=>by
   subst e2;exact e ((List.getElem?_inj (List.getElem?_eq_some_iff.mp hb).1 h.nd).mp (by rw[hb,ha]))
  rw[List.getElem?_set_ne (Ne.symm e)] at hs;rw[upd_ne hba];exact h.row j b s hb hs
theorem RowsAt.snoc (h:RowsAt H p as rows){q:Addr}(hq:H q=none){r:List Int}:RowsAt (upd (upd H q (.lst (r.map V.int))) p (.lst ((as++[q]).map V.ref))) p (as++[q]) (rows++[r]):=by
 have hpq:p≠q:=ne_of_none h.top hq;have hqa:q∉as:=fun hm=>by
  obtain⟨i,hi,e⟩:=List.getElem_of_mem hm;have hi2:i<rows.length:=by have:=h.len;omega
  have:=h.row i q rows[i] (by rw[List.getElem?_eq_getElem hi,e]) (List.getElem?_eq_getElem hi2);rw[hq] at this;cases this
 refine⟨upd_same,by rw[List.length_append,List.length_append,h.len];rfl,?_,?_,?_⟩
 ·rw[List.nodup_append];exact⟨h.nd,by simp,fun a ha b hb e=>by simp at hb;subst hb;subst e;exact hqa ha⟩
 ·intro hm;rcases List.mem_append.mp hm with hm | hm
  ·exact h.np hm
  ·exact hpq (List.mem_singleton.mp hm)
 ·intro i a s ha hs;by_cases hi:i<as.length
  ·rw[List.getElem?_append_left hi] at ha;rw[List.getElem?_append_left (by rw[← h.len];exact hi)] at hs;have ham:=List.mem_of_getElem? ha;have h1:a≠p:=fun e=>by subst e;exact h.np ham
   have h2:a≠q:=fun e=>by subst e;exact hqa ham
   rw[upd_ne h1,upd_ne h2];exact h.row i a s ha hs
  ·rw[List.getElem?_append_right (by omega)] at ha;rw[List.getElem?_append_right (by rw[← h.len];omega)] at hs;have e0:i-as.length=0:=by
    have:=(List.getElem?_eq_some_iff.mp ha).1;simp at this;omega
   rw[e0] at ha;rw[← h.len,e0] at hs;cases ha;cases hs;rw[upd_ne hpq.symm,upd_same]
theorem RowsAt.nil (h:H p=some (.lst [])):RowsAt H p [] []:=⟨h,rfl,by simp,by simp,fun i a r ha=>by cases ha⟩
theorem RowsAt.get (h:RowsAt H p as rows){v:Int}(h0:0≤v){r:List Int}(hr:rows[v.toNat]?=some r):∃ a,as[v.toNat]?=some a∧atI (as.map V.ref) v=some (.ref a)∧H a=some (.lst (r.map V.int))∧a≠p:=by
 have hl:=(List.getElem?_eq_some_iff.mp hr).1;have hl2:v.toNat<as.length:=by have:=h.len;omega
 have ha:as[v.toNat]?=some as[v.toNat]:=List.getElem?_eq_getElem hl2;refine⟨_,ha,?_,h.row _ _ _ ha hr,fun e=>h.np (by rw[← e];exact List.mem_of_getElem? ha)⟩;have:=atI_nat (xs:=as.map V.ref) (j:=v.toNat) (v:=V.ref as[v.toNat]) (by rw[List.getElem?_map,ha];rfl);rw[Int.toNat_of_nonneg h0] at this;exact this
end
theorem rowsOf_get {n:Int}{ts:List (Int×Int)}{v:Int}(h0:0≤v)(h1:v<n):(rowsOf n ts)[v.toNat]?=some (nb ts v):=by
 unfold rowsOf;rw[List.getElem?_map,List.getElem?_range (by omega)];show some (nb ts ((v.toNat:Nat):Int))=_;rw[Int.toNat_of_nonneg h0]
theorem rowsOf_len (n:Int)(ts:List (Int×Int)):(rowsOf n ts).length=n.toNat:=by unfold rowsOf;simp
theorem nb_snoc (ts:List (Int×Int))(t:Int×Int)(v:Int):nb (ts++[t]) v=nb ts v++(if t.1=v then [t.2] else if t.2=v then [t.1] else []):=by
 unfold nb;rw[List.filterMap_append];congr 1;by_cases h1:t.1=v
 ·simp[h1]
 ·by_cases h2:t.2=v
  ·simp[h1,h2]
  ·simp[h1,h2]
theorem rowsOf_snoc {n:Int}{ts:List (Int×Int)}{t:Int×Int}(h0:0≤t.1)(h1:t.1<t.2)(h2:t.2<n) :
  rowsOf n (ts++[t])=((rowsOf n ts).set t.1.toNat (nb ts t.1++[t.2])).set t.2.toNat (nb ts t.2++[t.1]):=by
 refine List.ext_getElem? fun i=>?_
 by_cases hi:i<n.toNat
 ·have hl:∀ us:List (Int×Int),(rowsOf n us)[i]?=some (nb us (i:Int)):=fun us=>by
   have:=rowsOf_get (n:=n) (ts:=us) (v:=(i:Int)) (by omega) (by omega);simpa using this
  rw[hl,nb_snoc];by_cases e2:i=t.2.toNat
  ·subst e2;rw[List.getElem?_set_self (by rw[List.length_set,rowsOf_len];exact hi)];rw[Int.toNat_of_nonneg (by omega),if_neg (by omega),if_pos rfl]
  ·rw[List.getElem?_set_ne (Ne.symm e2)];by_cases e1:i=t.1.toNat
   ·subst e1;rw[List.getElem?_set_self (by rw[rowsOf_len];exact hi)];rw[Int.toNat_of_nonneg h0,if_pos rfl]
   ·rw[List.getElem?_set_ne (Ne.symm e1),hl,if_neg (by omega),if_neg (by omega),List.append_nil]
 ·rw[List.getElem?_eq_none (by rw[rowsOf_len];omega),List.getElem?_eq_none (by rw[List.length_set,List.length_set,rowsOf_len];omega)]
theorem mem_nb {ts:List (Int×Int)}{v x:Int}:x∈nb ts v↔(v,x)∈ts∨((x,v)∈ts)∧(x≠v∨(v,x)∈ts):=by
 unfold nb;rw[List.mem_filterMap];constructor
 ·rintro⟨t,ht,e⟩;obtain⟨a,b⟩:=t;dsimp only at e;split at e
  ·rename_i h;cases e;subst h;exact .inl ht
  ·rename_i h;split at e
   ·rename_i h2;cases e;subst h2;exact .inr ⟨ht,.inl h⟩
   ·cases e
 ·rintro (h | ⟨h,h'⟩)
  ·exact⟨_,h,by simp⟩
  ·rcases h' with h' | h'
   ·exact⟨_,h,by simp[h']⟩
   ·exact⟨_,h',by simp⟩
def TsOk (n:Int)(ts:List (Int×Int)):Prop:=∀ t∈ts,0≤t.1∧t.1<t.2∧t.2<n
theorem nb_sym {n:Int}{ts:List (Int×Int)}(h:TsOk n ts){v x:Int}:x∈nb ts v↔v∈nb ts x:=by
 rw[mem_nb,mem_nb];constructor
 ·rintro (q | ⟨q,q'⟩)
  ·exact .inr ⟨q,.inl (by have:=h _ q;dsimp only at this;omega)⟩
  ·exact .inl q
 ·rintro (q | ⟨q,q'⟩)
  ·exact .inr ⟨q,.inl (by have:=h _ q;dsimp only at this;omega)⟩
  ·exact .inl q
theorem nb_rng {n:Int}{ts:List (Int×Int)}(h:TsOk n ts){v x:Int}(hx:x∈nb ts v):0≤x∧x<n∧0≤v∧v<n∧x≠v:=by
 rcases mem_nb.mp hx with q | ⟨q,_⟩
 ·have:=h _ q;dsimp only at this;omega
 ·have:=h _ q;dsimp only at this;omega
theorem nb_lt {n:Int}{ts:List (Int×Int)}(h:TsOk n ts)(hs:ts.Pairwise Lex)(v:Int):(nb ts v).Pairwise (·<·):=by
 unfold nb;rw[List.pairwise_filterMap];refine List.Pairwise.imp_of_mem ?_ hs;intro a b ha hb hab x hx y hy;have h1:=h a ha;have h2:=h b hb;unfold Lex at hab;have cx:(a.1=v∧a.2=x)∨(a.2=v∧a.1=x):=by
  split at hx
  ·rename_i q;cases hx;exact .inl ⟨q,rfl⟩
  ·split at hx
   ·rename_i q;cases hx;exact .inr ⟨q,rfl⟩
   ·cases hx
 have cy:(b.1=v∧b.2=y)∨(b.2=v∧b.1=y):=by
  split at hy
  ·rename_i q;cases hy;exact .inl ⟨q,rfl⟩
  ·split at hy
   ·rename_i q;cases hy;exact .inr ⟨q,rfl⟩
   ·cases hy
 omega
theorem nb_len {ts:List (Int×Int)}(v:Int):(nb ts v).length≤ts.length:=by unfold nb;exact List.length_filterMap_le _ _
theorem sorted_self {l l':List Int}(p:l'.Perm l)(s:l'.Pairwise (·≤·))(h:l.Pairwise (·<·)):l'=l :=
 List.Perm.eq_of_pairwise (le:=(·≤·)) (fun _ _ _ _ a b=>Int.le_antisymm a b) s (h.imp fun a=>Int.le_of_lt a) p
theorem rising_ext {l l':List Int}(h:l.Pairwise (·<·))(h':l'.Pairwise (·<·))(e:∀ x,x∈l↔x∈l'):l=l':=by
 refine List.Perm.eq_of_pairwise (le:=(·<·)) (fun a b _ _ x y=>by omega) h h' ?_;refine (List.perm_ext_iff_of_nodup (h.imp fun x e=>by omega) (h'.imp fun x e=>by omega)).mpr e
structure FrAt (H Hc:Hp)(p:Addr)(as:List Addr)(rows:List (List Int)):Prop where
 same:Same H Hc
 np:H p=none
 na:∀ a∈as,H a=none
 rows:RowsAt Hc p as rows
theorem rowsOf_nil (n:Int):rowsOf n []=List.replicate n.toNat []:=by
 unfold rowsOf nb;refine List.ext_getElem? fun i=>?_
 by_cases h:i<n.toNat
 ·rw[List.getElem?_map,List.getElem?_range h,List.getElem?_replicate,if_pos h];rfl
 ·rw[List.getElem?_eq_none (by simp;omega),List.getElem?_eq_none (by simp;omega)]
theorem FrAt.step {H Hc:Hp}{p:Addr}{as:List Addr}{n:Int}{us:List (Int×Int)}{t:Int×Int}(h:FrAt H Hc p as (rowsOf n us))(h0:0≤t.1)(h1:t.1<t.2)(h2:t.2<n) :
  ∃ a1 a2,atI (as.map V.ref) t.1=some (.ref a1)∧Hc a1=some (.lst ((nb us t.1).map V.int))∧(upd Hc a1 (.lst ((nb us t.1).map V.int++[V.int t.2]))) p=some (.lst (as.map V.ref))∧atI (as.map V.ref) t.2=some (.ref a2) ∧
   (upd Hc a1 (.lst ((nb us t.1).map V.int++[V.int t.2]))) a2=some (.lst ((nb us t.2).map V.int)) ∧
   FrAt H (upd (upd Hc a1 (.lst ((nb us t.1).map V.int++[V.int t.2]))) a2 (.lst ((nb us t.2).map V.int++[V.int t.1]))) p as (rowsOf n (us++[t])):=by
 have g1:=rowsOf_get (n:=n) (ts:=us) h0 (show t.1<n by omega);have g2:=rowsOf_get (n:=n) (ts:=us) (show 0≤t.2 by omega) h2;obtain⟨a1,e1,r1,c1,p1⟩:=h.rows.get h0 g1;have R1:=h.rows.app e1 g1 t.2;have g2':((rowsOf n us).set t.1.toNat (nb us t.1++[t.2]))[t.2.toNat]?=some (nb us t.2):=by
  rw[List.getElem?_set_ne (by omega)];exact g2
 obtain⟨a2,e2,r2,c2,p2⟩:=R1.get (show 0≤t.2 by omega) g2';have R2:=R1.app e2 g2' t.1;rw[← rowsOf_snoc h0 h1 h2] at R2;rw[List.map_append] at R1 R2 c2;rw[List.map_append] at R2;refine⟨a1,a2,r1,c1,R1.top,r2,c2,?_,h.np,h.na,R2⟩;exact (h.same.upd (h.na _ (List.mem_of_getElem? e1))).upd (h.na _ (List.mem_of_getElem? e2))
def inv_rows1 (H:Hp)(p:Addr)(i:Nat)(τ:St)(Hc:Hp):Prop:=∃ (c:Option V) (as:List Addr),τ=[c]∧FrAt H Hc p as (List.replicate i [])
theorem TsAt.get {H:Hp}{q:Addr}{ts:List (Int×Int)}(h:TsAt H q ts):∃ xs,H q=some (.tup xs)∧xs.length=ts.length∧∀ (i:Nat) v,xs[i]?=some v→∃ a t,v=.ref a∧ts[i]?=some t∧H a=some (.tup [.int t.1,.int t.2]):=by
 obtain⟨ps,e,hp⟩:=h;exact⟨_,e,by rw[List.length_map];exact hp.len,fun i v hv=>hp.get hv⟩
def sp_nrows:Sp:=fun vs H Q _=>∃ (w:Addr) (n:Int) (ts:List (Int×Int)),vs=[.ref w]∧WebAt H w n ts∧0≤n∧n≤1000∧ts.length≤1000∧TsOk n ts ∧
 ∀ (p:Addr) (as:List Addr) (H':Hp),Same H H'→H p=none→(∀ a∈as,H a=none)→RowsAt H' p as (rowsOf n ts)→Q (.ref p) H'
def sp_near:Sp:=fun vs H Q _=>∃ (w:Addr) (n:Int) (ts:List (Int×Int)),vs=[.ref w]∧WebAt H w n ts∧0≤n∧n≤1000∧ts.length≤1000∧TsOk n ts∧ts.Pairwise Lex ∧
 ∀ (p:Addr) (as:List Addr) (H':Hp),Same H H'→H p=none→(∀ a∈as,H a=none)→RowsAt H' p as (rowsOf n ts)→Q (.ref p) H'
end L2
end
section
set_option Elab.async false
set_option linter.all false
set_option maxRecDepth 100000
namespace L2
open PySem
theorem inV_int (x:Int)(us:List Int):inV (.int x) (us.map V.int)=decide (x∈us):=by
 unfold inV;induction us with
 | nil=>rfl
 | cons u r ih =>
  rw[List.map_cons,List.any_cons,ih];show (decide (u=x) || _)=_;by_cases h:u=x
  ·subst h;simp
  ·have h':¬ x=u:=fun e=>h e.symm
   simp[h,h']
theorem flat_ints (us:List Int):(us.map V.int).all flatV=true:=by
 rw[List.all_eq_true];intro v hv;obtain⟨u,_,rfl⟩:=List.mem_map.mp hv;rfl
section
variable {K:PySem.W.Frag}{H:Hp}{p:Addr}{us:List Int}{x:Int}{Q:VK}
theorem in_use (h:SqL K H p (us.map V.int)∨SqT K H p (us.map V.int))(q:Q (.bl (decide (x∈us))) H):rIn K false (.int x) (.ref p) H Q :=
 ⟨p,_,rfl,h,rfl,flat_ints us,by rw[inV_int];exact q⟩
theorem notin_use (h:SqL K H p (us.map V.int)∨SqT K H p (us.map V.int))(q:Q (.bl (!decide (x∈us))) H):rIn K true (.int x) (.ref p) H Q :=
 ⟨p,_,rfl,h,rfl,flat_ints us,by rw[inV_int];exact q⟩
end
def kvI (us:List Int):List (Key×V):=us.map fun x=>(Sum.inl x,V.bl true)
def addI (us:List Int)(x:Int):List Int:=if x∈us then us else us++[x]
theorem mem_addI {us:List Int}{x y:Int}:y∈addI us x↔y∈us∨y=x:=by
 unfold addI;split
 ·exact⟨.inl,fun h=>h.elim id fun e=>by subst e;assumption⟩
 ·simp
theorem nd_addI {us:List Int}{x:Int}(h:us.Nodup):(addI us x).Nodup:=by
 unfold addI;split
 ·exact h
 ·rename_i hn;rw[List.nodup_append];exact⟨h,by simp,fun a ha b hb e=>hn (by simp at hb;subst hb;subst e;exact ha)⟩
theorem len_addI {us:List Int}{x:Int}:(addI us x).length≤us.length+1:=by
 unfold addI;split<;>simp
theorem kvI_len (us:List Int):(kvI us).length=us.length:=by unfold kvI;simp
theorem key_inj {a b:Int}:(Sum.inl a:Key)=Sum.inl b↔a=b:=⟨fun e=>by injection e,fun e=>by rw[e]⟩
theorem put_kvI (us:List Int)(x:Int):putK (kvI us) (Sum.inl x) (V.bl true)=kvI (addI us x):=by
 unfold putK addI;by_cases h:x∈us
 ·have h1:((kvI us).any fun kv=>decide (kv.1=Sum.inl x))=true:=by
   rw[List.any_eq_true];exact⟨_,List.mem_map_of_mem h,by simp⟩
  rw[if_pos h1,if_pos h];unfold kvI;rw[List.map_map];refine List.map_congr_left fun t ht=>?_
  show (if _ then _ else _)=_;split<;>rfl
 ·have h1:¬ ((kvI us).any fun kv=>decide (kv.1=Sum.inl x))=true:=by
   rw[List.any_eq_true];rintro⟨kv,hk,e⟩;obtain⟨t,ht,rfl⟩:=List.mem_map.mp hk;have:=key_inj.mp (of_decide_eq_true e);subst this;exact h ht
  rw[if_neg h1,if_neg h];unfold kvI;rw[List.map_append];rfl
theorem val_kvI (us:List Int)(x:Int):(valV (kvI us) (Sum.inl x)).isSome=decide (x∈us):=by
 induction us with
 | nil=>rfl
 | cons u r ih =>
  unfold kvI at ih ⊢;rw[List.map_cons];by_cases h:u=x
  ·rw[valV_pos (key_inj.mpr h)];subst h;simp
  ·rw[valV_neg (fun e=>h (key_inj.mp e)),ih];have h':¬ x=u:=fun e=>h e.symm
   simp[h']
theorem kvI_keys (us:List Int):(kvI us).map (·.1)=us.map (Sum.inl:Int→Key):=by
 unfold kvI;rw[List.map_map];rfl
theorem kvI_small {us:List Int}(h:us.length≤100000):(kvI us).length<sizeLine:=by rw[kvI_len];exact sizeBig (by omega)
theorem nd_sub:∀ {us l:List Int},us.Nodup→us ⊆ l→us.length≤l.length
 | [],_,_,_=>Nat.zero_le _
 | x::r,l,hn,hs=>by
  have hx:x∈l:=hs (List.mem_cons_self ..);have hn':=List.nodup_cons.mp hn;have:=nd_sub (us:=r) (l:=l.erase x) hn'.2 (fun y hy=>(List.mem_erase_of_ne (fun e=>by subst e;exact hn'.1 hy)).mpr (hs (List.mem_cons_of_mem _ hy)));rw[List.length_erase_of_mem hx] at this;have:=List.length_pos_of_mem hx;rw[List.length_cons];omega
theorem nd_len {us:List Int}{n:Int}(hnd:us.Nodup)(h:∀ x∈us,0≤x∧x<n):us.length≤n.toNat:=by
 have hs:us ⊆ rInts 0 n.toNat:=fun x hx=>by
  obtain⟨h0,h1⟩:=h x hx;unfold rInts;exact List.mem_map.mpr ⟨x.toNat,List.mem_range.mpr (by omega),by omega⟩
 have:=nd_sub hnd hs;rw[rInts_length] at this;exact this
theorem rInts_lt (n:Nat):(rInts 0 n).Pairwise (·<·):=by
 unfold rInts;refine List.pairwise_map.mpr (List.pairwise_lt_range.imp ?_);intro a b h;omega
theorem mem_rInts {n:Nat}{x:Int}:x∈rInts 0 n↔0≤x∧x<n:=by
 unfold rInts;rw[List.mem_map];constructor
 ·rintro⟨i,hi,rfl⟩;have:=List.mem_range.mp hi;omega
 ·rintro⟨h0,h1⟩;exact⟨x.toNat,List.mem_range.mpr (by omega),by omega⟩
theorem fil_pos (p:Int→Bool){x:Int}(h:p x=true):[x].filter p=[x]:=List.filter_cons_of_pos h
theorem fil_neg (p:Int→Bool){x:Int}(h:¬ p x=true):[x].filter p=[]:=List.filter_cons_of_neg h
theorem rising_nd {l:List Int}(h:l.Pairwise (·<·)):l.Nodup:=h.imp fun x e=>by omega
theorem sorted_rising {l l':List Int}(p:l'.Perm l)(s:l'.Pairwise (·≤·))(h:l.Nodup):l'.Pairwise (·<·):=by
 refine (List.Pairwise.and s (p.nodup_iff.mpr h)).imp ?_;rintro a b ⟨h1,h2⟩;omega
end L2
end
section
set_option Elab.async false
set_option linter.all false
set_option maxRecDepth 100000
namespace L2
open PySem PySem.Spec PyProof.Rows
section
variable {X:Cx}{scope:Scope}{own:List Str}{fr:List (Str×Nat)}{fp:List Addr}{pins:List (Addr×Obj)}{σ:St}{H:Hp}{s:Shared}
end
section
variable {X:Cx}{elt tg iter:Expr}{ifs:List Expr}{scope:Scope}{pos:Pos}{own:List Str}{fr:List (Str×Nat)}{wi:TI}{g:TG}{tc:TT}{te:TE}
end
end L2
end
section
set_option Elab.async false
set_option linter.all false
set_option maxRecDepth 100000
set_option maxHeartbeats 4000000
namespace L2
open PySem PySem.Spec PyProof.Rows PySem.W
section
variable {X:Cx}{pins:List (Addr×Obj)}{σ:St}{H:Hp}{s:Shared}
theorem CFree.new' (I:Inv X pins σ H s){C:Addr}(h:s.heap.objs.size≤C){H':Hp}(hn:H' C=none):CFree X pins H' C:=by
 refine⟨hn,Nat.ne_of_gt (Nat.lt_of_lt_of_le I.lt h),Nat.le_trans I.sz h,fun x c e z=>?_,fun p hp z=>?_⟩
 ·obtain⟨v,q⟩:=I.cell x c e;exact absurd (Nat.lt_of_lt_of_le q.lt (by rw[z];exact h)) (Nat.lt_irrefl _)
 ·exact absurd (Nat.lt_of_lt_of_le (Heap.lt_size (I.pin p hp).1) (by rw[z];exact h)) (Nat.lt_irrefl _)
theorem CFree.upd {C:Addr}{H':Hp}(f:CFree X pins H C)(hn:H' C=none):CFree X pins H' C:=⟨hn,f.loc,f.new,f.cel,f.pin⟩
theorem CFree.pinIt {C:Addr}{o:Obj}(f:CFree X pins H C)(I:Inv X pins σ H s)(e:s.heap.get? C=some o)(hd:∀ v,o.data≠.cell v):s.heap.get? C=some o∧H C=none∧C≠X.env.locals∧C∉X.fs∧∀ v,o.data≠.cell v:=by
 refine⟨e,f.un,f.loc,fun hb=>?_,hd⟩;obtain⟨_,o',ho',_⟩:=I.ok.funs.mem hb;exact absurd (Nat.lt_of_lt_of_le (Heap.lt_size ho') f.new) (Nat.lt_irrefl _)
theorem Inv.pin2 {C D:Addr}{o p:Obj}(I:Inv X pins σ H s)(f:CFree X pins H C)(g:CFree X pins H D)(e:s.heap.get? C=some o)(e':s.heap.get? D=some p)(hd:∀ v,o.data≠.cell v)(hd':∀ v,p.data≠.cell v):Inv X (pins++[(C,o),(D,p)]) σ H s:=by
 refine I.pins_of fun q hq=>?_
 rcases List.mem_append.mp hq with hq | hq
 ·exact I.pin q (List.mem_append_right _ hq)
 ·rcases List.mem_cons.mp hq with rfl | hq
  ·exact f.pinIt I e hd
  ·rw[List.mem_singleton.mp hq];exact g.pinIt I e' hd'
def KeyCall (X:Cx)(pins:List (Addr×Obj))(σ:St)(q:Addr)(xs:List V)(kf:Nat→Int)(J:Hp→Prop):Prop :=
 ∀ (i:Nat) (x:V) (u:Value) (more:List (Addr×Obj)) (s:Shared) (H:Hp),xs[i]?=some x→RelV x u→Inv X (pins++more) σ H s→J H →
  wpAny (model X.prog X.w) X.A.in1 (call (.ref q) [u]) (fun r s'=>∃ t H',r=.int (kf i) t∧Inv X (pins++more) σ H' s'∧J H') (fun _ _=>False) s
theorem vals_get {xs:List V}{us:List Value}(h:Vals xs us):∀ {i:Nat} {u:Value},us[i]?=some u→∃ x,xs[i]?=some x∧RelV x u:=by
 induction h with
 | nil=>intro i u e;simp at e
 | cons r t ih =>
  intro i u e;cases i with
  | zero=>exact⟨_,rfl,by simpa using (Option.some.inj (by simpa using e):_=u) ▸ r⟩
  | succ j=>exact ih (by simpa using e)
theorem max_loop {xs:List V}{q l IT SB:Addr}{R:Result→Shared→Prop}{kf:Nat→Int}{J:Hp→Prop}(hh:X.A.handled=none)(hl:∀ H s,Inv X pins σ H s→J H→∃ us,Vals xs us∧s.heap.IsTuple l us.toArray)(hlI:l≠IT)(hSI:SB≠IT)
  (turn:KeyCall X pins σ q xs kf J)
  (hR:∀ (i:Nat) (x:V) (v:Value) (H:Hp) (s:Shared),xs[i]?=some x→RelV x v→(∀ j,j<xs.length→kf i≥kf j∧(j<i→kf i>kf j))→Inv X pins σ H s→J H→R (.ok (.ret v)) s) :
  ∀ (r j i:Nat) (H:Hp) (s:Shared) (vb:Value) (tb:Tok) (c:Nat),xs.length-(j+1)=r→j+1≤xs.length→Inv X pins σ H s→J H→CFree X pins H SB→CFree X pins H IT →
   s.heap.get? SB=some (seqObj "list" #[vb,.int (kf i) tb] c)→s.heap.IsTupleIter IT l (j+1)→(∃ x,xs[i]?=some x∧RelV x vb)→i≤j→(∀ j',j'≤j→kf i≥kf j'∧(j'<i→kf i>kf j')) →
   codeAny (model X.prog X.w) X.A (.builtin "max.loop" ⟨[.ref IT,.ref q,.ref SB],[]⟩) R s:=by
 have hname:(toString "max"++toString ".loop":String)="max.loop":=by decide
 have WW:=fun us:List Value=>Walks.tuple (prog:=X.prog) (w:=X.w) (A:=X.A.in1) hh IT l hlI us.toArray
 intro r;induction r with
 | zero =>
  intro j i H s vb tb c hr hj I hJ fS fI eS hit hvb hij hbest;have hin:j+1=xs.length:=by omega
  obtain⟨us,hv,hlt⟩:=hl H s I hJ;have W:=WW us;have hsz:us.toArray.size=xs.length:=(List.size_toArray ..).trans hv.length.symm;refine codeAny_builtin PySem.F.entry_max_loop ?_;rw[Around.under_plainId PySem.F.plain_max_loop _];show wpAny _ X.A.in1 (seqItems? (.ref SB) >>= _) _ _ _;refine wpAny_bind (wpAny_seqItems eS rfl ?_);show wpAny _ X.A.in1 (tryCatch (pyNext (.ref IT)) _ >>= _) _ _ _;refine wpAny_bind (wpAny_tryCatch (W.done _ _ _ ⟨by rw[hsz,← hin];exact hit,hlt⟩ fun h' tk' hk'=>?_));have I1:Inv X pins σ H {s with heap:=h',toks:=tk'}:=I.turned (fun b o hb e=>hk' b o (by simpa using hb) e) fI.un fI.loc (.inr fI.new) fI.cel fI.pin;have hS':=hk' SB _ (by simpa using hSI) eS;have s1:=Heap.SameBut.update h' SB (Obj.mapSeq fun _=>(#[]:Array Value));show wpAny _ X.A.in1 (updateSeq SB (fun _=>#[]) >>= _) _ _ _;refine wpAny_bind ?_;refine wpAny_updateSeq hS' rfl (wpAny_bind (wpAny_letGo (wpAny_pure ?_)));obtain⟨x,ex,rx⟩:=hvb;exact hR i x vb H _ ex rx (fun j' hj'=>hbest j' (by omega)) (fS.inv I1 s1) hJ
 | succ r ih =>
  intro j i H s vb tb c hr hj I hJ fS fI eS hit hvb hij hbest;have hlt:j+1<xs.length:=by omega
  obtain⟨us,hv,hltu⟩:=hl H s I hJ;have W:=WW us;have hsz:us.toArray.size=xs.length:=(List.size_toArray ..).trans hv.length.symm;refine codeAny_builtin PySem.F.entry_max_loop ?_;rw[Around.under_plainId PySem.F.plain_max_loop _];show wpAny _ X.A.in1 (seqItems? (.ref SB) >>= _) _ _ _;refine wpAny_bind (wpAny_seqItems eS rfl ?_);show wpAny _ X.A.in1 (tryCatch (pyNext (.ref IT)) _ >>= _) _ _ _;refine wpAny_bind (wpAny_tryCatch (W.item (j+1) _ _ _ (by rw[hsz];exact hlt) ⟨hit,hltu⟩ fun v h' tk' hP hst' hk'=>?_));have hvv:us[j+1]?=some v:=by simpa using hP
  obtain⟨oI',hoI',hoc,hod⟩:=id hst'.1;have I1:Inv X pins σ H {s with heap:=h',toks:=tk'}:=I.turned (fun b o hb e=>hk' b o (by simpa using hb) e) fI.un fI.loc (.inr fI.new) fI.cel fI.pin;have eS1:=hk' SB _ (by simpa using hSI) eS;have I2:=I1.pin2 fS fI eS1 hoI' (fun v=>by simp[seqObj]) (fun v=>by rw[hod];simp);obtain⟨x,ex,rx⟩:=vals_get hv hvv;show wpAny _ X.A.in1 (tryCatch (holding [v] (call (.ref q) [v])) _ >>= _) _ _ _;refine wpAny_bind (wpAny_tryCatch (wpAny_holding (wpAny_mono (turn (j+1) x v _ _ H ex rx I2 hJ) (fun y s'' he=>?_) fun _ _ hF=>hF.elim)));obtain⟨t2,H2,rfl,I3,hJ2⟩:=he;have pS:=I3.pin (SB,seqObj "list" #[vb,.int (kf i) tb] c) (List.mem_append_right _ (List.mem_append_right _ (.head _)));have pI:=I3.pin (IT,oI') (List.mem_append_right _ (List.mem_append_right _ (.tail _ (.head _))));have I4:Inv X pins σ H2 s'':=I3.unpinned;have fS2:CFree X pins H2 SB:=fS.upd pS.2.1;have fI2:CFree X pins H2 IT:=fI.upd pI.2.1;have hit2:s''.heap.IsTupleIter IT l (j+1+1):=⟨oI',pI.1,hoc,hod⟩
  show wpAny _ X.A.in1 (tryCatch (holding [v,.int (kf (j+1)) t2] (richCompare .Gt (.int (kf (j+1)) t2) (.int (kf i) tb) >>= _)) _ >>= _) _ _ _;refine wpAny_bind (wpAny_tryCatch (wpAny_holding (wpAny_bind (CmpOf.ints_gt (prog:=X.prog) (w:=X.w) (A:=X.A.in1) (P:=fun i v=>∃ t,v=.int (kf i) t) kf (fun i v h=>h) (j+1) i _ _ _ _ _ ⟨t2,rfl⟩ ⟨tb,rfl⟩ ?_))));refine wpAny_bind (wpAny_holding (wpAny_truthy_bool ?_));refine wpAny_bind (wpAny_letGo (wpAny_pure ?_));by_cases hb':kf (j+1)>kf i
  ·have s1:=Heap.SameBut.update s''.heap SB (Obj.mapSeq fun _=>#[v,.int (kf (j+1)) t2]);obtain⟨c2,hc2⟩:∃ c2,(s''.heap.update SB (Obj.mapSeq fun _=>#[v,.int (kf (j+1)) t2])).get? SB=some (seqObj "list" #[v,.int (kf (j+1)) t2] c2):=⟨_,get?_update_seq pS.1 fun _=>#[v,.int (kf (j+1)) t2]⟩
   simp only[hb',decide_true,if_true];refine wpAny_bind ?_;refine wpAny_updateSeq pS.1 rfl (wpAny_bind (wpAny_letGo ?_));rw[hname];refine wpAny_pure ⟨plainId_quiet PySem.F.plain_max_loop _,ih (j+1) (j+1) H2 _ v t2 c2 (by omega) hlt (fS2.inv I4 s1) hJ2 fS2 fI2 hc2 ⟨oI',(s1.2 IT hSI.symm).trans pI.1,hoc,hod⟩ ⟨x,ex,rx⟩ (Nat.le_refl _) fun j' hj'=>?_⟩;by_cases e:j'=j+1
   ·subst e;exact⟨by omega,fun _=>by omega⟩
   ·have hb1:=hbest j' (by omega);have hb2:=hb1.1;exact⟨by omega,fun _=>by omega⟩
  ·simp only[hb',decide_false,Bool.false_eq_true,if_false];refine wpAny_bind (wpAny_letGo ?_);rw[hname];refine wpAny_pure ⟨plainId_quiet PySem.F.plain_max_loop _,ih (j+1) i H2 _ vb tb c (by omega) hlt I4 hJ2 fS2 fI2 pS.1 hit2 hvb (by omega) fun j' hj'=>?_⟩;by_cases e:j'=j+1
   ·subst e;exact⟨by omega,fun _=>by omega⟩
   ·exact hbest j' (by omega)
theorem max_run {xs:List V}{q l:Addr}{Q:Value→Shared→Prop}{E:Value→Shared→Prop}{kf:Nat→Int}{J:Hp→Prop}(hh:X.A.handled=none)(hl:∀ H s,Inv X pins σ H s→J H→∃ us,Vals xs us∧s.heap.IsTuple l us.toArray)
  (I:Inv X pins σ H s) (hJ:J H) (hne:0<xs.length) (turn:KeyCall X pins σ q xs kf J)
  (hQ:∀ (i:Nat) (x:V) (v:Value) (H:Hp) (s:Shared),xs[i]?=some x→RelV x v→(∀ j,j<xs.length→kf i≥kf j∧(j<i→kf i>kf j))→Inv X pins σ H s→J H→Q v s) :
  wpAny (model X.prog X.w) X.A (call (.builtin "max") [.ref l] [(Str.ofString "key",.ref q)]) Q E s:=by
 have hname:(toString "max"++toString ".loop":String)="max.loop":=by decide
 obtain⟨us0,hv0,hls⟩:=hl H s I hJ;obtain⟨ol,hol,_⟩:=id hls;have hll:l<s.heap.objs.size:=Heap.lt_size hol;refine kmk_tree PySem.F.kind_max PySem.F.plain_max PySem.F.entry_max (kmk_max_key _ _) ?_;show wpAny _ X.A.in1 (Builtin.Builtins.bindParams "max" ["key", "default"] 0 ⟨[],[(Str.ofString "key",.ref q)]⟩ >>= _) _ _ s;refine wpAny_bind (wpAny_of_eq (show Builtin.Builtins.bindParams "max" ["key", "default"] 0 ⟨[],[(Str.ofString "key",.ref q)]⟩=pure [some (.ref q),none] from rfl) ?_);refine wpAny_bind (wpAny_pure ?_);refine wpAny_bind (wpAny_pyIter_tuple hls ?_);refine wpAny_bind (wpAny_newList ?_ (Nat.zero_le _));rw[hname];generalize hIT:s.heap.objs.size=IT at *
 generalize hh1:s.heap.push {cls:=.type "tuple_iterator",data:=.fields #[.ref l,.int 0 0]}=h1 at *
 generalize hSB:h1.objs.size=SB at *
 have hS:SB=IT+1:=by rw[← hSB,← hh1,← hIT];exact size_push' ..
 have hlI:l≠IT:=Nat.ne_of_lt hll;have hSI:SB≠IT:=by rw[hS];exact Nat.ne_of_gt (Nat.lt_succ_self _)
 refine wpAny_pure ⟨plainId_quiet PySem.F.plain_max_loop _,?_⟩;have kk:∀ b o,s.heap.get? b=some o→(h1.push (seqObj "list" #[] 0)).get? b=some o:=fun b o e=>Heap.get?_push_of_some _ (by rw[← hh1];exact Heap.get?_push_of_some _ e)
 have nI:H IT=none:=I.hok.fresh (Nat.le_of_eq hIT);have nS:H SB=none:=I.hok.fresh (by rw[hS,hIT];exact Nat.le_succ _);have fI:CFree X pins H IT:=CFree.new' I (Nat.le_of_eq hIT) nI;have fS:CFree X pins H SB:=CFree.new' I (by rw[hS,hIT];exact Nat.le_succ _) nS;have gI:(h1.push (seqObj "list" #[] 0)).get? IT=some {cls:=.type "tuple_iterator",data:=.fields #[.ref l,.int 0 0]}:=Heap.get?_push_of_some _ (by rw[← hh1,← hIT];exact Heap.get?_push_size _ rfl);have gS:(h1.push (seqObj "list" #[] 0)).get? SB=some (seqObj "list" #[] 0):=by rw[← hSB];exact Heap.get?_push_size _ rfl
 have IH:∀ t',Inv X pins σ H {s with heap:=h1.push (seqObj "list" #[] 0),toks:=t'}:=fun t'=>I.kept kk
 obtain⟨us,hv,hltu⟩:=hl _ _ (IH s.toks) hJ;have W:=Walks.tuple (prog:=X.prog) (w:=X.w) (A:=X.A.in1) hh IT l hlI us.toArray;have hsz:us.toArray.size=xs.length:=(List.size_toArray ..).trans hv.length.symm;refine codeAny_builtin PySem.F.entry_max_loop ?_;rw[Around.under_plainId PySem.F.plain_max_loop _];show wpAny _ X.A.in1 (seqItems? (.ref _) >>= _) _ _ _;refine wpAny_bind (wpAny_seqItems gS rfl ?_);show wpAny _ X.A.in1 (tryCatch (pyNext (.ref IT)) _ >>= _) _ _ _;refine wpAny_bind (wpAny_tryCatch (W.item 0 _ _ _ (by rw[hsz];exact hne) ⟨⟨_,gI,rfl,rfl⟩,hltu⟩ fun v h' tk' hP hst' hk'=>?_));have hvv:us[0]?=some v:=by simpa using hP
 obtain⟨oI',hoI',hoc,hod⟩:=id hst'.1;have I1:Inv X pins σ H {s with heap:=h',toks:=tk'}:=(IH s.toks).turned (fun b o hb e=>hk' b o (by simpa using hb) e) fI.un fI.loc (.inr fI.new) fI.cel fI.pin;have eS1:=hk' SB _ (by simpa using hSI) gS;have I2:=I1.pin2 fS fI eS1 hoI' (fun v=>by simp[seqObj]) (fun v=>by rw[hod];simp);obtain⟨x,ex,rx⟩:=vals_get hv hvv;show wpAny _ X.A.in1 (tryCatch (holding [v] (call (.ref q) [v])) _ >>= _) _ _ _;refine wpAny_bind (wpAny_tryCatch (wpAny_holding (wpAny_mono (turn 0 x v _ _ H ex rx I2 hJ) (fun y s'' he=>?_) fun _ _ hF=>hF.elim)));obtain⟨t2,H2,rfl,I3,hJ2⟩:=he;have pS:=I3.pin (SB,seqObj "list" #[] 0) (List.mem_append_right _ (List.mem_append_right _ (.head _)));have pI:=I3.pin (IT,oI') (List.mem_append_right _ (List.mem_append_right _ (.tail _ (.head _))));have I4:Inv X pins σ H2 s'':=I3.unpinned;have fS2:CFree X pins H2 SB:=fS.upd pS.2.1;have fI2:CFree X pins H2 IT:=fI.upd pI.2.1;have s1:=Heap.SameBut.update s''.heap SB (Obj.mapSeq fun _=>#[v,.int (kf 0) t2]);obtain⟨c2,hc2⟩:∃ c2,(s''.heap.update SB (Obj.mapSeq fun _=>#[v,.int (kf 0) t2])).get? SB=some (seqObj "list" #[v,.int (kf 0) t2] c2):=⟨_,get?_update_seq pS.1 fun _=>#[v,.int (kf 0) t2]⟩
 show wpAny _ X.A.in1 (updateSeq SB (fun _=>#[v,.int (kf 0) t2]) >>= _) _ _ _;refine wpAny_bind ?_;refine wpAny_updateSeq pS.1 rfl ?_;rw[hname];refine wpAny_pure ⟨plainId_quiet PySem.F.plain_max_loop _,max_loop hh hl hlI hSI turn (fun i x v H s a b c d e=>hQ i x v H s a b c d e) _ 0 0 H2 _ v t2 c2 rfl hne (fS2.inv I4 s1) hJ2 fS2 fI2 hc2 ⟨oI',(s1.2 IT hSI.symm).trans pI.1,hoc,hod⟩ ⟨x,ex,rx⟩ (Nat.le_refl _) fun j' hj'=>?_⟩;have e:j'=0:=by omega
 subst e;exact⟨by omega,fun h=>absurd h (Nat.lt_irrefl _)⟩
abbrev envL (X:Cx)(qual:Str)(scope:Scope)(q c':Addr)(L:Addr):Env:=envX qual scope L q (.ref c') (clo X.env scope.names [])
def cxL (X:Cx)(qual:Str)(scope:Scope)(N':List Str)(pins:List (Addr×Obj))(q c':Addr)(A':Around)(s:Shared)(H:Hp):Cx where
 prog:=X.prog
 w:=X.w
 K:=X.K
 mg:=X.mg
 base:=X.base
 A:=A'.deeper (envL X qual scope q c' s.heap.objs.size)
 N:=N'
 s₀:=s
 H₀:=H
 env:=envL X qual scope q c' s.heap.objs.size
 outer:=X.stack
 stack:=envL X qual scope q c' s.heap.objs.size::X.stack
 ex:=[]
 fn:=fun _=>false
 calm:=true
 pn:=X.pn++pins
 xe:=fun _ _=>False
def stL (v:V)(fr:List (Str×Nat))(σ:St):St:=some v::fr.map fun p=>(σ[p.2]?).join
theorem inv_lam {qual:Str}{scope:Scope}{q c':Addr}{A':Around}{fr:List (Str×Nat)}{x:Str}{v:V}{u:Value}{h1:Heap}{t':Nat}(I:Inv X pins σ H s)(hc:CompOk scope X.env.scope)(hA:A'.frames=some X.stack)(hh:A'.handled=none)(hfr:frOk X scope fr)
  (hx:scope.names.lookup x=some .local) (ru:RelV v u) (hns:h1.Ns s.heap.objs.size (fun y=>[(x,u)].reverse.lookup y)) (hsb:∀ b o,s.heap.get? b=some o→h1.get? b=some o) :
  Inv (cxL X qual scope (x::fr.map (·.1)) pins q c' A' s H) [] (stL v fr σ) H {s with heap:=h1,toks:=t'}:=by
 have clX:∀ x c,(clo X.env scope.names []).lookup x=some c→X.env.cells.lookup x=some c:=fun x c e=>by
  rw[clo_lookup] at e;split at e
  ·rename_i q;obtain⟨y,hy,hq⟩:=List.any_eq_true.mp q;rw[Bool.and_eq_true] at hq;have e1:y.1=x:=of_decide_eq_true hq.1;have e2:y.2=.free:=by simpa using hq.2
   obtain⟨c',hc'⟩:=I.ok.has x (by
    have:=hc.free y hy e2;rw[e1] at this
    exact this)
   rw[hc'] at e ⊢;exact e
  ·cases e
 have ok:(cxL X qual scope (x::fr.map (·.1)) pins q c' A' s H).Ok :=
  {mod:=I.ok.mod
   kind:=hc.kind
   glob:=rfl
   blt:=rfl
   above:=Nat.le_refl _
   inj:=fun x y c hx hy=>I.ok.inj x y c (clX x c hx) (clX y c hy)
   has:=fun x hx=>by
    have hx:scope.names.lookup x=some .cell∨scope.names.lookup x=some .free:=hx;have key:scope.names.lookup x=some .free:=by
     rcases hx with hx | hx
     ·exact absurd rfl (hc.noCell (x,.cell) (lookup_mem' hx))
     ·exact hx
    have hm:=lookup_mem' key;refine⟨(X.env.cells.lookup x).getD 0,?_⟩;show (clo X.env scope.names []).lookup x=_;rw[clo_lookup,if_pos (List.any_eq_true.mpr ⟨(x,.free),hm,by simp⟩)]
   cab:=fun x c h=>nomatch h
   hd:=fun _=>hh
   frames:=by
    show (A'.deeper _).frames=_;simp[Around.deeper,hA];rfl
   stk:=.inr ⟨rfl,rfl⟩
   exf:=fun b hb=>nomatch hb
   bs:=I.bs
   bsz:=Nat.le_trans I.ok.bsz I.sz
   noex:=fun b o e hb=>nomatch hb
   exfs:=fun b hb=>nomatch hb
   funs:=I.stack
   frf:=I.stkFree}
 refine⟨ok,rfl,I.bare,Un.kept hsb,⟨_,hns,fun i y v' hy hv hvis=>?_⟩,fun x c e=>?_,I.fresh,fun x c e=>I.freeC x c (clX x c e),fun p hp=>?_,I.hok.kept hsb,?_⟩
 ·cases i with
  | zero =>
   have ey:x=y:=Option.some.inj hy;have ev:v=v':=Option.some.inj (Option.some.inj hv);subst ey;subst ev;refine⟨u,ru,.inl ⟨hx,?_⟩⟩;simp[List.lookup]
  | succ k =>
   have hy:(fr.map (·.1))[k]?=some y:=hy;have hv:(fr.map fun p=>(σ[p.2]?).join)[k]?=some (some v'):=hv;rw[List.getElem?_map] at hy hv;cases e:fr[k]? with
   | none=>rw[e] at hy;cases hy
   | some p =>
    rw[e] at hy hv;have ex:p.1=y:=Option.some.inj hy;have ev:(σ[p.2]?).join=some v':=Option.some.inj hv;obtain⟨hN,hfree⟩:=hfr p (List.mem_iff_getElem?.mpr ⟨_,e⟩);rw[ex] at hN hfree;have hk:=hc.free (y,.free) (lookup_mem' hfree) rfl;have hσ:σ[p.2]?=some (some v'):=by
     cases q:σ[p.2]? with
     | none=>rw[q] at ev;cases ev
     | some o=>rw[q] at ev;exact congrArg some ev
    obtain⟨mX,nX,lX⟩:=I.loc;obtain⟨u,ru,look⟩:=lX p.2 y v' hN hσ (.inr hk);refine⟨u,ru,.inr ⟨.inr hfree,?_⟩⟩;rcases look with ⟨k1,_⟩ | ⟨_,c,hcc,hcell⟩
    ·exfalso;have k1:X.env.scope.names.lookup y=some .local:=k1;rcases hk with q | q<;>(rw[k1] at q;cases q)
    ·refine⟨c,?_,?_⟩
     ·show (clo X.env scope.names []).lookup y=_;rw[clo_lookup,if_pos (List.any_eq_true.mpr ⟨(y,.free),lookup_mem' hfree,by simp⟩),hcc];rfl
     ·exact hcell.keeps hsb
 ·obtain⟨v,hv⟩:=I.cell x c (clX x c e);exact⟨v,hv.keeps hsb⟩
 ·have hp:p∈X.pn++pins:=by
   rcases List.mem_append.mp hp with q | q
   ·exact q
   ·cases q
  obtain⟨a1,a2,a3,a4,a5⟩:=I.pin p hp;refine⟨hsb _ _ a1,a2,Nat.ne_of_lt (Heap.lt_size a1),fun hm=>?_,a5⟩;have hm:=I.stkSub _ hm;rcases List.mem_cons.mp hm with q | q
  ·exact a3 q
  ·exact a4 q
 ·simp[stL,cxL]
theorem lam_calls {qual:Str}{params:Arguments}{body:Expr}{scope:Scope}{pm ctv:Value}{q c':Addr}{fr:List (Str×Nat)}{x:Str}{te:TE}{k:Nat}{xs:List V}{kf:Nat→Int}{J:Hp→Prop}(hcalm:X.calm=true)(hr:Room (k+2) X.A)(hc:CompOk scope X.env.scope)(hfr:frOk X scope fr)
  (hx:scope.names.lookup x=some .local) (hco:scope.isCoroutine=false) (hgen:scope.isGenerator=false)
  (hpin:(q,kla_obj "<lambda>" qual params body scope (clo X.env scope.names []) pm c' ctv)∈pins) (hcode:∀ H,J H→H c'=some (.ext fun h=>h.CodeRec (.ref c') qual))
  (hbind:∀ u,bindArgs (kla_fn "<lambda>" qual params body scope (clo X.env scope.names []) pm (.ref c') ctv) ⟨[u],[]⟩=pure [(x,u)])
  (hb:∀ (A':Around) (pins':List (Addr×Obj)) (s:Shared) (H:Hp),Room k (A'.deeper (envL X qual scope q c' s.heap.objs.size))→PE (cxL X qual scope (x::fr.map (·.1)) pins' q c' A' s H) body te)
  (step:∀ (i:Nat) (v:V) (H:Hp),xs[i]?=some v→J H→∃ S:VK,te (stL v fr σ) H S∧∀ r H',S r H'→r=.int (kf i)∧J H'):KeyCall X pins σ q xs kf J:=by
 intro i v u more s H ev ru I hJ;have hp:=I.pin _ (List.mem_append_right _ (List.mem_append_left _ hpin));have hcd:s.heap.CodeRec (.ref c') qual:=(I.hok c' _ (hcode H hJ)).1;refine wpAny_call ?_;refine kla_callFunE (hr.in1).depth hp.1 rfl hco hgen rfl hcd ?_;rw[hbind];refine wpAny_pure (wpAny_newFunctionEnv hc.noCell (fun y hy=>by rw[List.mem_singleton.mp hy];exact hx) (fun h₁ hns hsb=>?_) hc.kind);have k4:∀ b o,s.heap.get? b=some o→h₁.get? b=some o:=fun b o e=>hsb.extBut b o (Nat.ne_of_lt (Heap.lt_size e)) (Heap.get?_push_of_some _ e)
 have I4:=inv_lam (qual:=qual) (q:=q) (c':=c') (A':=X.A.in1) (t':=s.toks+[(x,u)].length) I hc I.ok.frames (I.ok.hd hcalm) hfr hx ru hns k4;refine⟨I.nolimit.keeps k4,?_⟩;show codeAny _ _ (.expr body (envL X qual scope q c' s.heap.objs.size)) _ _;obtain⟨S,hS,hS2⟩:=step i v H ev hJ;refine kla_codeExpr (wpAny_mono (hb X.A.in1 (pins++more) s H (hr.in1.deeper _) [] _ _ H _ I4 hS) (fun y s' hy=>?_) fun _ _ hF=>hF.elim);obtain⟨v',H',I5,r5,q5⟩:=hy;obtain⟨e5,J5⟩:=hS2 _ _ q5;subst e5;obtain⟨t,rfl⟩:∃ t,y=.int (kf i) t:=r5;exact⟨t,H',rfl,I.call' (ch:=[]) I5.os I5.base I5.hok I5.bare (fun b z=>absurd z (by simp)),J5⟩
def codeX (c':Addr)(qual:Str):HO:=.ext fun h=>h.CodeRec (.ref c') qual
def LamAt (H:Hp)(P:Addr)(qual:Str)(line col:Nat):Prop:=H P=some (.tbl #[])∨∃ c',H P=some (.tbl #[rawInt line,rawInt col,.ref c'])∧H c'=some (codeX c' qual)
def Bm (mg:Str→Option Value)(base:Heap):Prop:=∃ bm o,mg "__builtins__"=some (.ref bm)∧bm≠builtinsNs∧base.get? bm=some o∧o.cls=.type "module"∧o.dict=some builtinsNs∧o.data=.plain
theorem Bm.at {P:Addr}(B:Bm X.mg X.base)(I:Inv X pins σ H s){o:HO}(hP:H P=some o):s.heap.BuiltinsAt X.mg P:=by
 obtain⟨bm,ob,b1,b2,b3,b4,b5,b6⟩:=B;refine⟨bm,ob,b1,b2,fun q=>?_,ne_comm.mp (ne_of_none hP (I.bs _ _ b3).2),I.bk _ _ b3,b4,b5,b6⟩;obtain⟨o,es,ep,e,hd,_⟩:=I.mod.glob;rw[q,e] at b3;cases b3;rw[hd] at b6;cases b6
theorem CodeRec_ext {h:Heap}{c':Addr}{qual:Str}{P:Program}{w:World}{H:Hp}(x:h.CodeRec (.ref c') qual):ObjOk P w H h c' (codeX c' qual):=by
 refine⟨x,?_,fun h1 h2 y k=>?_⟩
 ·obtain⟨c,o,vs,t,e,g,_⟩:=x;cases e;exact⟨o,g⟩
 ·obtain⟨c,o,vs,t,e,g,r⟩:=y;cases e;exact⟨c',o,vs,t,rfl,k _ g,r⟩
theorem Inv.tabbed {P c':Addr}{ps more:Array Value}{qual:Str}{h':Heap}{t':Nat}(I:Inv X pins σ H s)(hP:H P=some (.tbl ps))(hx:Heap.ExtBut P s.heap h')(hge:s.heap.objs.size≤c')(hrec:h'.CodeRec (.ref c') qual)(htb:h'.get? P=some (tabObj (ps++more))) :
  Inv X pins σ (upd (upd H P (.tbl (ps++more))) c' (codeX c' qual)) {s with heap:=h',toks:=t'}:=by
 have nC:H c'=none:=I.hok.fresh hge;have hPc:P≠c':=ne_of_none hP nC;have hU:∀ {b:Addr},b≠P→b≠c'→upd (upd H P (.tbl (ps++more))) c' (codeX c' qual) b=H b:=fun h1 h2=>by rw[upd_ne h2,upd_ne h1]
 have hUP:upd (upd H P (.tbl (ps++more))) c' (codeX c' qual) P=some (.tbl (ps++more)):=by rw[upd_ne hPc,upd_same]
 have old:∀ {b:Addr} {o:HO},H b=some o→b≠c':=fun e=>ne_of_none e nC
 have nP:∀ {b:Addr},H b=none→b≠P:=fun e z=>by rw[z,hP] at e;cases e
 refine I.un ⟨fun b o e n _ _=>hx b o (nP n) e,fun b o e n _ _=>⟨o.slots,hx b o (nP n) e⟩,fun b o e n _=>?_,fun b o e _=>?_,fun b xs e=>?_,fun b o u e=>?_,fun b qs e=>?_⟩ fun a o e=>?_
 ·rw[hU (nP n) fun z=>absurd (Nat.lt_of_lt_of_le (Heap.lt_size e) hge) (by rw[z];exact Nat.lt_irrefl _)];exact n
 ·by_cases hb:b=P
  ·exact⟨_,hb ▸ htb⟩
  ·exact⟨o,hx b o hb e⟩
 ·rw[hU (fun z=>by rw[z,hP] at e;cases e) (old e)];exact e
 ·rw[hU (fun z=>by rw[z,hP] at e;cases e) (old e)];exact e
 ·by_cases hb:b=P
  ·subst hb;rw[hP] at e;cases e;exact⟨more,hUP⟩
  ·exact⟨#[],by rw[hU hb (old e),e];simp⟩
 ·by_cases h1:a=c'
  ·subst h1;rw[upd_same] at e;cases e;exact CodeRec_ext hrec
  ·by_cases h2:a=P
   ·subst h2;rw[hUP] at e;cases e;exact htb
   ·rw[hU h2 h1] at e;refine (I.hok a o e).stay (fun b u hb g=>hx b u (fun z=>?_) g) (fun b g=>?_) fun b xs g=>?_
    ·rcases hb with hb | hb
     ·exact h2 (hb.symm.trans z)
     ·rw[z,hP] at hb;cases hb
    ·rw[hU (fun z=>by rw[z,hP] at g;cases g) (old g)];exact g
    ·rw[hU (fun z=>by rw[z,hP] at g;cases g) (old g)];exact g
theorem lam_make {params:Arguments}{body:Expr}{scope:Scope}{lpos:Pos}{c P:Addr}{Q:Value→Shared→Prop}{E:Value→Shared→Prop}(I:Inv X pins σ H s)(hc:CompOk scope X.env.scope)(hdef:defaultsOf params X.env=([],[]))(hcd:X.env.code=.ref c)(C:CodeHd X.base c P)(B:Bm X.mg X.base)
  (hL:LamAt H P (X.env.qual++"<lambda>") lpos.line lpos.col)
  (h:∀ (f c':Addr) (pm ctv:Value) (s':Shared) (H':Hp),(∀ b o,b≠P→H b=some o→H' b=some o)→H' c'=some (codeX c' (X.env.qual++"<lambda>"))→LamAt H' P (X.env.qual++"<lambda>") lpos.line lpos.col →
   Inv X (pins++[(f,kla_obj "<lambda>" (X.env.qual++"<lambda>") params body scope (clo X.env scope.names []) pm c' ctv)]) σ H' s'→Q (.ref f) s') :
  wpAny (model X.prog X.w) X.A (eval (.Lambda params body scope lpos) X.env) Q E s:=by
 have pinF:∀ {H':Hp} {s':Shared} {f:Addr} {o:Obj},Inv X pins σ H' s'→s'.heap.get? f=some o→s.heap.objs.size≤f→H' f=none→(∀ v,o.data≠.cell v)→Inv X (pins++[(f,o)]) σ H' s':=fun {H' s' f o} I' e hf hn hd=>by
  refine I'.pins_of fun p hp=>?_
  rcases List.mem_append.mp hp with hp | hp
  ·exact I'.pin p (List.mem_append_right _ hp)
  ·rw[List.mem_singleton.mp hp];exact⟨e,hn,Nat.ne_of_gt (Nat.lt_of_lt_of_le I.lt hf),I.nofs hf,hd⟩
 have hg:=I.mod.glob.keeps I.bk
 have hgP:∀ {o:HO},H P=some o→mainGlobals≠P:=fun e=>ne_comm.mp (ne_of_none e (by
  obtain⟨o,es,ep,g,_⟩:=I.mod.glob
  exact (I.bs _ _ g).2))
 refine kla_eval hdef ?_;rcases hL with hP | ⟨c',hP,hC⟩
 ·have hPo:s.heap.get? P=some (tabObj #[]):=I.hok P _ hP;refine kla_makeFunction (mg:=X.mg) (clo_ok I hc) I.ok.glob hg hcd (C.keeps I.bk) hPo trivial rfl (hgP hP) (B.at I hP) fun c' ctv h' tk hx hge hlt hrec htb=>?_
  have I1:=I.tabbed (t':=tk) hP hx hge hrec htb;have I2:=I1.kept (t':=tk) (h':=h'.push (kla_obj "<lambda>" (X.env.qual++"<lambda>") params body scope (clo X.env scope.names []) ((X.mg "__name__").getD .none) c' ctv)) (fun b u e=>Heap.get?_push_of_some _ e);have hf:s.heap.objs.size≤h'.objs.size:=Nat.le_trans hge (Nat.le_of_lt hlt);have nC:H c'=none:=I.hok.fresh hge;have hPc:P≠c':=ne_of_none hP nC;refine h h'.objs.size c' _ ctv _ _ (fun b o hb e=>?_) upd_same (.inr ⟨c',?_,upd_same⟩) (pinF I2 (Heap.get?_push_size _ rfl) hf ?_ (fun v z=>nomatch z))
  ·rw[upd_ne (ne_of_none e nC),upd_ne hb];exact e
  ·rw[upd_ne hPc,upd_same];rfl
  ·rw[upd_ne (Nat.ne_of_gt hlt),upd_ne (fun z=>absurd (Nat.lt_of_lt_of_le (Heap.lt_size hPo) hf) (by rw[z];exact Nat.lt_irrefl _))];exact I.hok.fresh hf
 ·have hPo:s.heap.get? P=some (tabObj #[rawInt lpos.line,rawInt lpos.col,.ref c']):=I.hok P _ hP;refine kla_makeFunctionHit (mg:=X.mg) (cv:=.ref c') (clo_ok I hc) I.ok.glob hg hcd (C.keeps I.bk) hPo trivial (by simp[codeAmong,rawInt]) (B.at I hP) fun ctv h' tk hk hsz=>?_
  have I2:=I.kept (t':=tk) (h':=h'.push (kla_obj "<lambda>" (X.env.qual++"<lambda>") params body scope (clo X.env scope.names []) ((X.mg "__name__").getD .none) c' ctv)) (fun b u e=>Heap.get?_push_of_some _ (hk b u e));exact h h'.objs.size c' _ ctv _ _ (fun b o _ e=>e) hC (.inr ⟨c',hP,hC⟩) (pinF I2 (Heap.get?_push_size _ rfl) hsz (I.hok.fresh hsz) (fun v z=>nomatch z))
def tMaxK (P:Addr)(qual:Str)(line col:Nat)(fr:List (Str×Nat))(ta:TA)(te:TE):TE:=fun σ H Q=>ta σ H fun vs H1=>∃ (l:Addr) (xs:List V),vs=[.ref l]∧H1 l=some (.tup xs)∧0<xs.length∧LamAt H1 P qual line col∧∃ kf:Nat→Int,
 (∀ i v H2,xs[i]?=some v→(∀ b o,b≠P→H1 b=some o→H2 b=some o)→LamAt H2 P qual line col→te (stL v fr σ) H2 fun r H3=>r=.int (kf i)∧Same H2 H3) ∧
 ∀ i v H3,xs[i]?=some v→(∀ j,j<xs.length→kf j≤kf i∧(j<i→kf j<kf i))→(∀ b o,b≠P→H1 b=some o→H3 b=some o)→LamAt H3 P qual line col→Q v H3
theorem LamAt.same {H H':Hp}{P:Addr}{qual:Str}{line col:Nat}(h:LamAt H P qual line col)(e:Same H H'):LamAt H' P qual line col:=by
 rcases h with h | ⟨c',h1,h2⟩
 ·exact .inl (e _ _ h)
 ·exact .inr ⟨c',e _ _ h1,e _ _ h2⟩
theorem pe_maxK {params:Arguments}{e body:Expr}{scope:Scope}{p pos lpos:Pos}{kw:Keyword}{c P:Addr}{x:Str}{fr:List (Str×Nat)}{ta:TA}{te:TE}{k:Nat}(hcalm:X.calm=true)(hr:Room (k+2) X.A)(hg:Gl X "max")(hm:X.mg "max"=none)(hkw:kw.arg=some "key"∧kw.value=.Lambda params body scope lpos)
  (hc:compOk scope X.env.scope=true) (hfr:frOk X scope fr) (hx:scope.names.lookup x=some .local) (hco:scope.isCoroutine=false) (hgen:scope.isGenerator=false) (hdef:defaultsOf params X.env=([],[])) (hcd:X.env.code=.ref c) (C:CodeHd X.base c P) (B:Bm X.mg X.base)
  (hbind:∀ (qual:Str) (cl:List (Str×Addr)) (pm cv ctv u:Value),bindArgs (kla_fn "<lambda>" qual params body scope cl pm cv ctv) ⟨[u],[]⟩=pure [(x,u)])
  (ha:PA X [e] ta)
  (hb:∀ (q c':Addr) (A':Around) (pins':List (Addr×Obj)) (s:Shared) (H:Hp),Room k (A'.deeper (envL X (X.env.qual++"<lambda>") scope q c' s.heap.objs.size))→PE (cxL X (X.env.qual++"<lambda>") scope (x::fr.map (·.1)) pins' q c' A' s H) body te)
  (he:backTo pos (starEach [e] X.env)=(false,eval e X.env)::backTo pos (starEach [] X.env):=by rfl) (hpl:(backTo pos (starEach [e] X.env)).any (·.1)=false:=by rfl) :
  PE X (.Call (.Name "max" p) [e] [kw] pos) (tMaxK P (X.env.qual++"<lambda>") lpos.line lpos.col fr ta te):=by
 intro pins s σ H Q I h;have hc:=compOk_of hc;obtain⟨ka,kv⟩:=kw;obtain⟨rfl,rfl⟩:=hkw;refine wpAny_Call_Name_kw (ld_blt I hg hm boot_max ?_ (by decide) (by decide));refine PyProof.Rows.callWith_kw (thn (ha pos pins s σ H _ I h) fun us s1 ⟨vs,H1,I1,r1,l,xs,e1,hl,hne,hL,kf,step,fin⟩=>?_) he hpl rfl rfl;subst e1;obtain⟨u,rfl,ru⟩:∃ u,us=[u]∧RelV (.ref l) u:=by
  cases r1 with
  | cons r t=>cases t;exact⟨_,rfl,r⟩
 obtain rfl:u=.ref l:=ru;have hlP:l≠P:=by
  rcases hL with q | ⟨_,q,_⟩<;>exact ne_of hl q (by simp)
 show wpAny _ _ (evalAll [do let v ← eval (.Lambda params body scope lpos) X.env;standAt pos;pure v]) _ _ s1;refine wpAny_evalAll_cons (wpAny_bind ?_);refine lam_make (c:=c) (P:=P) I1 hc hdef hcd C B hL fun f c' pm ctv s2 H2 kp2 hC2 hL2 I2=>?_
 refine wpAny_bind (wpAny_standAt (wpAny_pure ?_));refine wpAny_evalAll_nil ?_;show wpAny _ _ (call (.builtin "max") [.ref l] [(Str.ofString "key",.ref f)]) _ _ s2;have hJ:∀ {H:Hp},((∀ b o,b≠P→H1 b=some o→H b=some o)∧LamAt H P (X.env.qual++"<lambda>") lpos.line lpos.col∧H c'=some (codeX c' (X.env.qual++"<lambda>")))→H l=some (.tup xs):=fun z=>z.1 l _ hlP hl
 have KC:KeyCall X (pins++[(f,kla_obj "<lambda>" (X.env.qual++"<lambda>") params body scope (clo X.env scope.names []) pm c' ctv)]) σ f xs kf (fun H=>(∀ b o,b≠P→H1 b=some o→H b=some o)∧LamAt H P (X.env.qual++"<lambda>") lpos.line lpos.col∧H c'=some (codeX c' (X.env.qual++"<lambda>"))):=by
  refine lam_calls (x:=x) (te:=te) (k:=k) hcalm hr hc hfr hx hco hgen (List.mem_append_right _ (.head _)) (fun H z=>z.2.2) (fun u=>hbind _ _ _ _ _ _) (fun A' pins' s H=>hb f c' A' pins' s H) fun i v H ev z=>?_
  exact⟨_,step i v H ev z.1 z.2.1,fun r H3 ⟨e3,sm⟩=>⟨e3,fun b o hb e=>sm _ _ (z.1 b o hb e),z.2.1.same sm,sm _ _ z.2.2⟩⟩
 refine max_run (hr.hd) (fun H s I z=>?_) I2 ⟨kp2,hL2,hC2⟩ hne KC fun i v u H3 s3 ev ru best I3 z=>?_
 ·obtain⟨its,hv,ht,_⟩:=I.tuple (SqT.of (hJ z));exact⟨its,hv,ht⟩
 ·exact⟨v,H3,I3.unpinned,ru,fin i v H3 ev (fun j hj=>⟨(best j hj).1,(best j hj).2⟩) z.1 z.2.1⟩
def tAsg2 (te:TE)(g g':TG):TS:=fun D σ H=>te σ H fun x H1=>g x σ H1 fun σ2 H2=>g' x σ2 H2 D.nx
theorem ps_asg2 {tg tg' e:Expr}{pos:Pos}{te:TE}{g g':TG}(he:PE X e te)(hg:PG X tg g)(hg':PG X tg' g')(hs:swapsWithSole [tg,tg'] e pos.line X.env=pure false:=by rfl)(hw:swappedStores [tg,tg'] e X.env=pure none:=by rfl)
  (h1:(assignEach [tg,tg'] X.env).map (·.2)=[assign tg X.env,assign tg' X.env]:=by rfl):PS X (.Assign [tg,tg'] e pos) (tAsg2 te g g'):=by
 intro pins s σ H D I h;refine wpAny_Assign_stores (thn (he pins s σ H _ I h) fun v s1 ⟨x,H1,I1,r1,q1⟩=>?_) hs hw;rw[h1];exact wpAny_bind (wpAny_holding (thn (hg pins s1 σ H1 x v _ I1 r1 q1) fun _ s2 ⟨σ2,H2,I2,q2⟩=>thn (hg' pins s2 σ2 H2 x v _ I2 r1 q2) fun _ s3 q=>q))
end
end L2
end
section
set_option maxHeartbeats 8000000
local macro_rules | `(tactic| omega)=>`(tactic| first | lia | omega +splitDisjunctions)
set_option Elab.async false
set_option linter.all false
set_option maxRecDepth 100000
namespace STab
open PySem PySem.SetTable
def Ris (xs:Array Nat):Prop:=∀ i j (hi:i<xs.size) (hj:j<xs.size),i<j→xs[i]<xs[j]
theorem go_spec {xs:Array Nat}{j:Nat}(hr:Ris xs):∀ (fuel lo hi:Nat),lo≤hi→hi≤xs.size→hi-lo≤fuel →
  (∀ i (h:i<xs.size),i<lo→xs[i]<j)→(∀ i (h:i<xs.size),hi≤i→j≤xs[i]) →
  below.go xs j fuel lo hi≤xs.size∧(∀ i (h:i<xs.size),i<below.go xs j fuel lo hi→xs[i]<j)∧(∀ i (h:i<xs.size),below.go xs j fuel lo hi≤i→j≤xs[i])
 | 0,lo,hi,h1,h2,h3,h4,h5=>by
  have e:hi=lo:=by omega
  subst e;unfold below.go;exact⟨h2,h4,h5⟩
 | fuel+1,lo,hi,h1,h2,h3,h4,h5=>by
  unfold below.go;by_cases hlt:lo<hi
  ·rw[if_pos hlt];have hm:(lo+hi) / 2<xs.size:=by omega
   have hg:xs.getD ((lo+hi) / 2) j=xs[(lo+hi) / 2]:=by simp[Array.getD,hm]
   dsimp only;rw[hg];by_cases hc:xs[(lo+hi) / 2]<j
   ·rw[if_pos hc];refine go_spec hr fuel _ _ (by omega) h2 (by omega) (fun i h hi'=>?_) h5;by_cases he:i=(lo+hi) / 2
    ·subst he;exact hc
    ·exact Nat.lt_trans (hr i _ h hm (by omega)) hc
   ·rw[if_neg hc];refine go_spec hr fuel _ _ (by omega) (by omega) (by omega) h4 (fun i h hi'=>?_);by_cases he:i=(lo+hi) / 2
    ·subst he;omega
    ·have:=hr _ i hm h (by omega);omega
  ·rw[if_neg hlt];have e:hi=lo:=by omega
   subst e;exact⟨h2,h4,h5⟩
theorem below_spec {xs:Array Nat}(hr:Ris xs)(j:Nat):below xs j≤xs.size∧(∀ i (h:i<xs.size),i<below xs j→xs[i]<j)∧(∀ i (h:i<xs.size),below xs j≤i→j≤xs[i]):=by
 unfold below;exact go_spec hr _ _ _ (Nat.zero_le _) (Nat.le_refl _) (by omega) (fun i h hi=>absurd hi (Nat.not_lt_zero _)) (fun i h hi=>absurd h (Nat.not_lt.mpr hi))
theorem below_at {xs:Array Nat}(hr:Ris xs){i:Nat}(hi:i<xs.size):below xs xs[i]=i:=by
 obtain⟨h1,h2,h3⟩:=below_spec hr xs[i];rcases Nat.lt_trichotomy (below xs xs[i]) i with h | h | h
 ·have:=h3 (below xs xs[i]) (by omega) (Nat.le_refl _);have:=hr _ i (by omega) hi h;omega
 ·exact h
 ·have:=h2 i hi h;omega
theorem below_next {xs:Array Nat}(hr:Ris xs){i:Nat}(hi:i<xs.size):below xs (xs[i]+1)=i+1:=by
 obtain⟨h1,h2,h3⟩:=below_spec hr (xs[i]+1);rcases Nat.lt_trichotomy (below xs (xs[i]+1)) (i+1) with h | h | h
 ·have:=h3 i hi (by omega);omega
 ·exact h
 ·have:=h2 (i+1) (by omega) h;have:=hr i (i+1) hi (by omega) (by omega);omega
theorem below_zero {xs:Array Nat}(hr:Ris xs):below xs 0=0:=by
 obtain⟨h1,h2,h3⟩:=below_spec hr 0;rcases Nat.eq_zero_or_pos (below xs 0) with h | h
 ·exact h
 ·have:=h2 0 (by omega) h;omega
theorem has_none (j:Nat):has #[] j=false:=by
 unfold has;simp
theorem slot_live {t:SetTable}{j i:Nat}(h:t.slot j=.live i):t.place[i]?=some j:=by
 unfold slot at h;dsimp only at h;split at h
 ·rename_i hc;injection h with h
  subst h;simpa using hc
 ·split at h<;>exact Slot.noConfusion h
theorem slot_dummy {t:SetTable}{j:Nat}(hd:t.dummies=#[]):t.slot j≠.dummy:=by
 intro h;unfold slot at h;dsimp only at h;rw[hd,has_none] at h;split at h
 ·exact Slot.noConfusion h
 ·simp at h
theorem slot_empty {t:SetTable}{j:Nat}(hr:Ris t.place)(h:t.slot j=.empty):j∉t.place.toList:=by
 intro hm;obtain⟨i,hi,e⟩:=List.getElem_of_mem hm;have hi':i<t.place.size:=by simpa using hi
 have e':t.place[i]=j:=by simpa using e
 have hb:=below_at hr hi';rw[e'] at hb;unfold slot at h;dsimp only at h;rw[hb,Array.getElem?_eq_getElem hi',e'] at h;simp at h
theorem slot_free {t:SetTable}{j:Nat}(hd:t.dummies=#[])(h:j∉t.place.toList):t.slot j=.empty:=by
 cases hs:t.slot j with
 | empty=>rfl
 | dummy=>exact absurd hs (slot_dummy hd)
 | live i =>
  have:=slot_live hs;exact absurd (by rw[← Array.getElem?_toList] at this;exact List.mem_of_getElem? this) h
theorem ris_of {xs:Array Nat}(h:xs.toList.Pairwise (·<·)):Ris xs:=by
 intro i j hi hj hij;have:=List.pairwise_iff_getElem.mp h i j (by simpa using hi) (by simpa using hj) hij;simpa using this
theorem of_ris {xs:Array Nat}(h:Ris xs):xs.toList.Pairwise (·<·):=by
 refine List.pairwise_iff_getElem.mpr fun i j hi hj hij=>?_
 have:=h i j (by simpa using hi) (by simpa using hj) hij;simpa using this
theorem ris_put {xs:Array Nat}{j:Nat}(hr:Ris xs)(hn:j∉xs.toList):Ris (insertAt xs (below xs j) j):=by
 obtain⟨h1,h2,h3⟩:=below_spec hr j;refine ris_of ?_;rw[toList_insertAt];have hp:=of_ris hr;have hlo:∀ x∈xs.toList.take (below xs j),x<j:=by
  intro x hx;obtain⟨i,hi,e⟩:=List.getElem_of_mem hx;have hi2:i<below xs j∧i<xs.size:=by simp at hi;omega
  have:=h2 i hi2.2 hi2.1;simp at e;rw[← e];exact this
 have hhi:∀ x∈xs.toList.drop (below xs j),j<x:=by
  intro x hx;have hxm:x∈xs.toList:=List.mem_of_mem_drop hx;obtain⟨i,hi,e⟩:=List.getElem_of_mem hx;have hi2:below xs j+i<xs.size:=by simp at hi;omega
  have:=h3 (below xs j+i) hi2 (by omega);simp at e;rw[e] at this;have:j≠x:=fun e=>hn (e ▸ hxm)
  omega
 refine List.pairwise_append.mpr ⟨hp.sublist (List.take_sublist _ _),List.pairwise_cons.mpr ⟨hhi,hp.sublist (List.drop_sublist _ _)⟩,?_⟩;intro a ha b hb;rcases List.mem_cons.mp hb with rfl | hb
 ·exact hlo a ha
 ·exact Nat.lt_trans (hlo a ha) (hhi b hb)
def f5 (N i:Nat):Nat:=(i*5+1) % N
def it5 (N:Nat):Nat→Nat→Nat
 | 0,i=>i
 | n+1,i=>it5 N n (f5 N i)
theorem it5_add (N:Nat):∀ (m n i:Nat),it5 N (m+n) i=it5 N n (it5 N m i)
 | 0,n,i=>by rw[Nat.zero_add];rfl
 | m+1,n,i=>by rw[Nat.succ_add];show it5 N (m+n) (f5 N i)=it5 N n (it5 N m (f5 N i));exact it5_add N m n _
def orb (N:Nat):Nat→Nat→List Nat
 | 0,_=>[]
 | n+1,i=>i::orb N n (f5 N i)
theorem orb_mem (N:Nat):∀ (n i r:Nat),r∈orb N n i→∃ k,k<n∧it5 N k i=r
 | 0,_,_,h=>by simp[orb] at h
 | n+1,i,r,h=>by
  rcases List.mem_cons.mp h with rfl | h
  ·exact⟨0,Nat.succ_pos _,rfl⟩
  ·obtain⟨k,hk,e⟩:=orb_mem N n _ r h;exact⟨k+1,Nat.succ_lt_succ hk,e⟩
structure Full (N:Nat):Prop where
 all:∀ r,r<N→r∈orb N N 0
 back:it5 N N 0=0
theorem full_of {N:Nat}(h1:(List.range N).all (fun r=>(orb N N 0).contains r)=true)(h2:(it5 N N 0 == 0)=true):Full N :=
 ⟨fun r hr=>by have:=List.all_eq_true.mp h1 r (List.mem_range.mpr hr);simpa using this,by simpa using h2⟩
theorem full8:Full 8:=full_of (by decide +kernel) (by decide +kernel)
theorem full32:Full 32:=full_of (by decide +kernel) (by decide +kernel)
theorem full128:Full 128:=full_of (by decide +kernel) (by decide +kernel)
theorem full512:Full 512:=full_of (by decide +kernel) (by decide +kernel)
theorem Full.hit {N:Nat}(F:Full N){i r:Nat}(hi:i<N)(hr:r<N):∃ k,k<N∧it5 N k i=r:=by
 obtain⟨m,hm,em⟩:=orb_mem N N 0 i (F.all i hi);obtain⟨n,hn,en⟩:=orb_mem N N 0 r (F.all r hr);by_cases hmn:m≤n
 ·refine⟨n-m,by omega,?_⟩;have:=it5_add N m (n-m) 0;rw[em,show m+(n-m)=n by omega,en] at this;exact this.symm
 ·refine⟨N-m+n,by omega,?_⟩;have h1:=it5_add N m (N-m) 0;rw[em,show m+(N-m)=N by omega,F.back] at h1;rw[it5_add,← h1,en]
def leaps (mask:Nat):Nat→Nat×Nat→Nat×Nat
 | 0,p=>p
 | n+1,p=>leaps mask n (leap mask p.1 p.2)
theorem leaps_add (mask:Nat):∀ (m n:Nat) (p:Nat×Nat),leaps mask (m+n) p=leaps mask n (leaps mask m p)
 | 0,n,p=>by rw[Nat.zero_add];rfl
 | m+1,n,p=>by rw[Nat.succ_add];show leaps mask (m+n) _=leaps mask n (leaps mask m _);exact leaps_add mask m n _
theorem leaps_snd (mask:Nat):∀ (n:Nat) (p:Nat×Nat),(leaps mask n p).2=p.2 / 32 ^ n
 | 0,p=>by simp[leaps]
 | n+1,p=>by
  show (leaps mask n (leap mask p.1 p.2)).2=_;rw[leaps_snd];show p.2 / 32 / 32 ^ n=_;rw[Nat.div_div_eq_div_mul,Nat.pow_succ,Nat.mul_comm]
theorem leaps_fst (mask:Nat):∀ (n:Nat) (p:Nat×Nat),p.1≤mask→(leaps mask n p).1≤mask
 | 0,p,h=>h
 | n+1,p,h=>leaps_fst mask n _ (Nat.le_of_lt_succ (Nat.mod_lt (p.1*5+1+p.2 / 32) (Nat.succ_pos mask)))
theorem leaps_zero (mask:Nat):∀ (n i:Nat),leaps mask n (i,0)=(it5 (mask+1) n i,0)
 | 0,i=>rfl
 | n+1,i=>by
  show leaps mask n (leap mask i 0)=_;have:leap mask i 0=(f5 (mask+1) i,0):=by simp[leap,f5]
  rw[this,leaps_zero];rfl
theorem leaps_hit {mask:Nat}(F:Full (mask+1)){i perturb r:Nat}(hi:i≤mask)(hp:perturb<2 ^ 64)(hr:r≤mask):∃ n,n<mask+14∧(leaps mask n (i,perturb)).1=r:=by
 have h2:(leaps mask 13 (i,perturb)).2=0:=by
  rw[leaps_snd];exact Nat.div_eq_of_lt (Nat.lt_of_lt_of_le hp (by decide))
 have h1:=leaps_fst mask 13 (i,perturb) hi;have e:leaps mask 13 (i,perturb)=((leaps mask 13 (i,perturb)).1,0):=by rw[← h2]
 obtain⟨k,hk,ek⟩:=F.hit (i:=(leaps mask 13 (i,perturb)).1) (r:=r) (by omega) (by omega);refine⟨13+k,by omega,?_⟩;rw[leaps_add,e,leaps_zero];exact ek
def adv (t:SetTable):Nat→Probe→Probe
 | 0,p=>p
 | n+1,p=>adv t n (t.advance p)
theorem adv_add (t:SetTable):∀ (m n:Nat) (p:Probe),adv t (m+n) p=adv t n (adv t m p)
 | 0,n,p=>by rw[Nat.zero_add];rfl
 | m+1,n,p=>by rw[Nat.succ_add];show adv t (m+n) _=adv t n (adv t m _);exact adv_add t m n _
structure Good (t:SetTable)(p:Probe):Prop where
 i:p.i≤t.mask
 j:p.j+p.more≤t.mask
 more:p.more≤9
 perturb:p.perturb<2 ^ 64
 dummy:p.dummy=none
theorem runEnd_le {mask i:Nat}(h:i≤mask):i≤runEnd mask i∧runEnd mask i≤mask∧runEnd mask i-i≤9:=by
 unfold runEnd;split<;>omega
theorem Good.advance {t:SetTable}{p:Probe}(g:Good t p):Good t (t.advance p):=by
 obtain⟨h1,h2,h3,h4,h5⟩:=g;unfold SetTable.advance;split
 ·exact⟨h1,by simp only;omega,by simp only;omega,h4,h5⟩
 ·have hm:(leap t.mask p.i p.perturb).1≤t.mask:=Nat.le_of_lt_succ (Nat.mod_lt (p.i*5+1+p.perturb / 32) (Nat.succ_pos t.mask));have hr:=runEnd_le hm;have hp:(leap t.mask p.i p.perturb).2<2 ^ 64:=Nat.lt_of_le_of_lt (Nat.div_le_self _ _) h4;exact⟨hm,by simp only;omega,by simp only;omega,hp,h5⟩
theorem good_start (t:SetTable)(h:Int):Good t (t.probeStart h):=by
 have hm:bits h % (t.mask+1)≤t.mask:=Nat.le_of_lt_succ (Nat.mod_lt (bits h) (Nat.succ_pos t.mask));have hr:=runEnd_le hm;refine⟨hm,by simp only[probeStart];omega,by simp only[probeStart];omega,?_,rfl⟩;show bits h<2 ^ 64;unfold bits;have h1:=Int.emod_nonneg h (show (2 ^ 64:Int)≠0 by decide);have h2:=Int.emod_lt_of_pos h (show (0:Int)<2 ^ 64 by decide);have h3:(2 ^ 64:Int)=((2 ^ 64:Nat):Int):=by norm_cast
 omega
theorem to_leap (t:SetTable):∀ (m:Nat) (p:Probe),p.more=m→∃ q,adv t (m+1) p=q∧q.j=(leap t.mask p.i p.perturb).1∧q.i=(leap t.mask p.i p.perturb).1∧q.perturb=(leap t.mask p.i p.perturb).2
 | 0,p,h=>by
  refine⟨_,rfl,?_⟩;show (t.advance p).j=_∧(t.advance p).i=_∧(t.advance p).perturb=_;unfold SetTable.advance;rw[if_neg (by omega)];exact⟨rfl,rfl,rfl⟩
 | m+1,p,h=>by
  have e:t.advance p={p with j:=p.j+1,more:=p.more-1}:=by unfold SetTable.advance;rw[if_pos (by omega)]
  show ∃ q,adv t (m+1) (t.advance p)=q∧_;rw[e];exact to_leap t m {p with j:=p.j+1,more:=p.more-1} (by simp only;omega)
theorem Good.adv {t:SetTable}:∀ (n:Nat) {p:Probe},Good t p→Good t (STab.adv t n p)
 | 0,_,g=>g
 | n+1,_,g=>Good.adv n g.advance
theorem to_leaps (t:SetTable):∀ (n:Nat) (p:Probe),Good t p→p.j=p.i→∃ m,m≤10*n∧(adv t m p).j=(leaps t.mask n (p.i,p.perturb)).1
 | 0,p,_,h=>⟨0,Nat.le_refl _,h⟩
 | n+1,p,g,_=>by
  obtain⟨q,hq,h1,h2,h3⟩:=to_leap t p.more p rfl;have gq:Good t q:=hq ▸ g.adv _;obtain⟨m,hm,e⟩:=to_leaps t n q gq (h1.trans h2.symm);refine⟨p.more+1+m,by have:=g.more;omega,?_⟩;rw[adv_add,hq,e,h2,h3];rfl
theorem start_head (t:SetTable)(h:Int):(t.probeStart h).j=(t.probeStart h).i:=rfl
theorem start_hit {t:SetTable}(F:Full (t.mask+1))(h:Int){r:Nat}(hr:r≤t.mask):∃ n,n<10*turns t.mask∧(adv t n (t.probeStart h)).j=r:=by
 have g:=good_start t h;obtain⟨n,hn,e⟩:=leaps_hit F g.i g.perturb hr;obtain⟨m,hm,e'⟩:=to_leaps t n _ g (start_head t h);refine⟨m,by unfold turns;omega,e'.trans e⟩
theorem probe_go {t:SetTable}{hashAt:Nat→Int}{h:Int}(hd:t.dummies=#[]):∀ (fuel:Nat) (p:Probe) (n:Nat),Good t p→n<fuel→t.slot (adv t n p).j=.empty →
    ∃ k,k≤n∧(∀ k',k'<k→∃ i,t.slot (adv t k' p).j=.live i∧hashAt i≠h) ∧
      ((t.slot (adv t k p).j=.empty∧probe.go t hashAt h fuel p=some (.empty (adv t k p).j none)) ∨
       ∃ i,t.slot (adv t k p).j=.live i∧hashAt i=h∧probe.go t hashAt h fuel p=some (.candidate (adv t k p).j i (t.advance (adv t k p))))
  | 0,p,n,_,hn,_=>absurd hn (Nat.not_lt_zero _)
  | fuel+1,p,n,g,hn,he=>by
    cases hs:t.slot p.j with
    | empty =>
      refine⟨0,Nat.zero_le _,fun k' hk=>absurd hk (Nat.not_lt_zero _),.inl ⟨hs,?_⟩⟩;unfold probe.go;rw[hs];dsimp only;rw[g.dummy];rfl
    | dummy=>exact absurd hs (slot_dummy hd)
    | live i =>
      by_cases hi:hashAt i=h
      · refine⟨0,Nat.zero_le _,fun k' hk=>absurd hk (Nat.not_lt_zero _),.inr ⟨i,hs,hi,?_⟩⟩
        unfold probe.go;rw[hs];dsimp only;rw[if_pos (by simpa using hi)];rfl
      · cases n with
        | zero=>exact absurd (hs.symm.trans he) (by simp)
        | succ n =>
          obtain⟨k,hk,hb,hr⟩:=probe_go hd fuel (t.advance p) n g.advance (by omega) he;refine⟨k+1,by omega,fun k' hk'=>?_,?_⟩
          · cases k' with
            | zero=>exact⟨i,hs,hi⟩
            | succ k'=>exact hb k' (by omega)
          · have e:probe.go t hashAt h (fuel+1) p=probe.go t hashAt h fuel (t.advance p):=by
              rw[probe.go];rw[hs];dsimp only;rw[if_neg (by simpa using hi)]
            rw[e];exact hr
theorem nat_sub:∀ {us l:List Nat},us.Nodup→us ⊆ l→us.length≤l.length
 | [],_,_,_=>Nat.zero_le _
 | x::r,l,hn,hs=>by
  have hx:x∈l:=hs (List.mem_cons_self ..);have hn':=List.nodup_cons.mp hn;have:=nat_sub (us:=r) (l:=l.erase x) hn'.2 (fun y hy=>(List.mem_erase_of_ne (fun e=>by subst e;exact hn'.1 hy)).mpr (hs (List.mem_cons_of_mem _ hy)));rw[List.length_erase_of_mem hx] at this;have:=List.length_pos_of_mem hx;rw[List.length_cons];omega
theorem some_free {N:Nat}{xs:List Nat}(h:xs.length<N):∃ r,r<N∧r∉xs:=by
 apply Classical.byContradiction;intro hn;have hall:∀ r,r∈List.range N→r∈xs:=fun r hr=>Classical.byContradiction fun hx=>hn ⟨r,List.mem_range.mp hr,hx⟩
 have:(List.range N).length≤xs.length:=by
  exact nat_sub List.nodup_range hall
 simp at this;omega
structure Ok (t:SetTable)(n:Nat)(led:Bool):Prop where
 ris:Ris t.place
 dum:t.dummies=#[]
 size:t.place.size=n
 inn:∀ x∈t.place.toList,x≤t.mask
 full:Full (t.mask+1)
 plain:t.plain=true
 led:t.led=led
 room:n*5<t.mask*3
 mask:t.mask=7∨t.mask=31∨t.mask=127∨t.mask=511
theorem ok_fresh (led:Bool):Ok (.fresh 0 0 led) 0 led :=
 ⟨fun i j hi=>absurd hi (Nat.not_lt_zero _),rfl,rfl,fun x h=>by simp[SetTable.fresh] at h,full8,rfl,rfl,(by show 0*5<7*3;decide),.inl rfl⟩
theorem Ok.fill {t:SetTable}{n:Nat}{led:Bool}(o:Ok t n led):t.fill=n:=by unfold SetTable.fill;rw[o.dum,o.size];rfl
theorem Ok.fits {t:SetTable}{n:Nat}{led:Bool}(o:Ok t n led):t.fits n=true:=by
 unfold SetTable.fits;rw[o.fill,o.size];have:=o.room;simp;omega
theorem Ok.hole {t:SetTable}{n:Nat}{led:Bool}(o:Ok t n led):∃ r,r≤t.mask∧t.slot r=.empty:=by
 obtain⟨r,hr,hn⟩:=some_free (N:=t.mask+1) (xs:=t.place.toList) (by have:=o.room;have:=o.size;simp;omega);exact⟨r,by omega,slot_free o.dum hn⟩
theorem Ok.probe {t:SetTable}{n:Nat}{led:Bool}(o:Ok t n led)(hashAt:Nat→Int)(h:Int) :
    ∃ k,(∀ k',k'<k→∃ i,t.slot (adv t k' (t.probeStart h)).j=.live i∧hashAt i≠h) ∧
      ((t.slot (adv t k (t.probeStart h)).j=.empty∧t.probe hashAt h (t.probeStart h)=some (.empty (adv t k (t.probeStart h)).j none)) ∨
       ∃ i,t.slot (adv t k (t.probeStart h)).j=.live i∧hashAt i=h∧t.probe hashAt h (t.probeStart h)=some (.candidate (adv t k (t.probeStart h)).j i (t.advance (adv t k (t.probeStart h))))):=by
  obtain⟨r,hr,he⟩:=o.hole;obtain⟨n,hn,en⟩:=start_hit o.full h hr;obtain⟨k,hk,hb,hx⟩:=probe_go (hashAt:=hashAt) (h:=h) o.dum (10*turns t.mask) (t.probeStart h) n (good_start t h) hn (en ▸ he);exact⟨k,hb,hx⟩
structure Ok1 (t:SetTable)(n:Nat)(led:Bool):Prop where
 ris:Ris t.place
 dum:t.dummies=#[]
 size:t.place.size=n
 inn:∀ x∈t.place.toList,x≤t.mask
 full:Full (t.mask+1)
 plain:t.plain=true
 led:t.led=led
 mask:t.mask=7∨t.mask=31∨t.mask=127∨t.mask=511
 le:n≤t.mask
 last:(n-1)*5<t.mask*3
theorem Ok1.fits {t:SetTable}{n:Nat}{led:Bool}(o:Ok1 t n led):t.fits n=true:=by
 unfold SetTable.fits SetTable.fill;rw[o.dum,o.size];have:=o.le;simp;omega
theorem Ok.put {t:SetTable}{n:Nat}{led:Bool}(o:Ok t n led){j:Nat}(hj:t.slot j=.empty)(hm:j≤t.mask):Ok1 (t.put j).1 (n+1) led:=by
 have hn:=slot_empty o.ris hj;have hd:(t.put j).1.dummies=#[]:=by
  show (if has t.dummies j then eraseAt t.dummies (below t.dummies j) else t.dummies)=#[];rw[o.dum,has_none];rfl
 have hr:=o.room;refine⟨ris_put o.ris hn,hd,?_,?_,o.full,o.plain,o.led,o.mask,?_,?_⟩
 ·show (insertAt t.place (below t.place j) j).size=n+1;rw[← Array.length_toList,(insertAt_perm _ _ _).length_eq];simp[o.size]
 ·intro x hx;have hx':x∈(insertAt t.place (below t.place j) j).toList:=hx;have:=(insertAt_perm t.place (below t.place j) j).mem_iff.mp hx';simp at this;rcases this with h | rfl
  ·exact o.inn x (by simpa using h)
  ·exact hm
 ·show n+1≤t.mask;rcases o.mask with h | h | h | h<;>omega
 ·show (n+1-1)*5<t.mask*3;simpa using hr
theorem Ok1.ok {t:SetTable}{n:Nat}{led:Bool}(o:Ok1 t n led)(h:t.tooFull=false):Ok t n led:=by
 have hf:t.fill=n:=by unfold SetTable.fill;rw[o.dum,o.size];rfl
 refine⟨o.ris,o.dum,o.size,o.inn,o.full,o.plain,o.led,?_,o.mask⟩;unfold SetTable.tooFull at h;rw[hf] at h;simpa using h
theorem free_some {mask:Nat}{owner:Array (Option Nat)}:∀ (fuel i perturb n:Nat),i≤mask→n<fuel→owner.getD (leaps mask n (i,perturb)).1 (some 0)=none →
  ∃ j,layClean.free mask owner fuel i perturb=some j∧owner.getD j (some 0)=none
 | 0,_,_,_,_,hn,_=>absurd hn (Nat.not_lt_zero _)
 | fuel+1,i,perturb,n,hi,hn,he=>by
  unfold layClean.free;cases hf:(List.range (runEnd mask i+1-i)).find? (fun k=>(owner.getD (i+k) (some 0)).isNone) with
  | some k =>
   have:=List.find?_some hf;exact⟨i+k,rfl,by simpa using this⟩
  | none =>
   cases n with
   | zero =>
    have h1:=List.find?_eq_none.mp hf 0 (List.mem_range.mpr (by have:=runEnd_le hi;omega));have he':owner.getD i (some 0)=none:=he;rw[Nat.add_zero,he'] at h1;exact absurd rfl h1
   | succ n =>
    exact free_some fuel _ _ n (leaps_fst mask 1 (i,perturb) hi) (by omega) he
def own (N:Nat)(owner:Array (Option Nat)):List Nat:=(List.range N).filterMap fun j=>owner.getD j none
theorem filterMap_len {α β:Type}{f:α→Option β}:∀ {l:List α},(∀ x∈l,(f x).isSome=true)→(l.filterMap f).length=l.length
 | [],_=>rfl
 | x::l,h=>by
  obtain⟨y,hy⟩:=Option.isSome_iff_exists.mp (h x (List.mem_cons_self ..));rw[List.filterMap_cons_some hy,List.length_cons,List.length_cons,filterMap_len fun z hz=>h z (List.mem_cons_of_mem _ hz)]
theorem fm_congr {α β:Type}{f g:α→Option β}:∀ {l:List α},(∀ x∈l,g x=f x)→l.filterMap g=l.filterMap f
 | [],_=>rfl
 | x::l,h=>by
  have ih:=fm_congr (l:=l) fun y hy=>h y (List.mem_cons_of_mem _ hy)
  rw[List.filterMap_cons,List.filterMap_cons,h x (List.mem_cons_self ..),ih]
theorem filterMap_put {α:Type}{f g:Nat→Option α}{j:Nat}{k:α}:∀ {l:List Nat},l.Nodup→j∈l→f j=none→g j=some k→(∀ x,x≠j→g x=f x)→(l.filterMap g).Perm (k::l.filterMap f)
 | [],_,hj,_,_,_=>by simp at hj
 | x::l,hn,hj,hf,hg,he=>by
  have hn':=List.nodup_cons.mp hn;by_cases hx:x=j
  ·subst hx;rw[List.filterMap_cons_some hg,List.filterMap_cons_none hf];have:l.filterMap g=l.filterMap f:=fm_congr fun y hy=>he y fun e=>hn'.1 (e ▸ hy)
   rw[this]
  ·have hj':j∈l:=(List.mem_cons.mp hj).resolve_left fun e=>hx e.symm
   have ih:=filterMap_put hn'.2 hj' hf hg he;cases hfx:f x with
   | none=>rw[List.filterMap_cons_none hfx,List.filterMap_cons_none ((he x hx).trans hfx)];exact ih
   | some y =>
    rw[List.filterMap_cons_some hfx,List.filterMap_cons_some ((he x hx).trans hfx)];exact (ih.cons y).trans (List.Perm.swap ..)
theorem getD_free {owner:Array (Option Nat)}{j:Nat}(h:owner.getD j (some 0)=none):j<owner.size∧owner.getD j none=none:=by
 by_cases hj:j<owner.size
 ·refine⟨hj,?_⟩;simp[Array.getD,hj] at h ⊢;exact h
 ·simp[Array.getD,hj] at h
def layF (mask:Nat):Option (Array (Option Nat)×Nat)→Int→Option (Array (Option Nat)×Nat):=fun acc h=>do
  let (owner,k) ← acc
  let j ← layClean.free mask owner (turns mask) (bits h % (mask+1)) (bits h)
  pure (owner.setIfInBounds j (some k),k+1)
theorem layF_fold {mask:Nat}(F:Full (mask+1)):∀ (hs:List Int) (owner:Array (Option Nat)) (k:Nat),owner.size=mask+1→(own (mask+1) owner).Perm (List.range k)→k+hs.length≤mask →
  ∃ owner',hs.foldl (layF mask) (some (owner,k))=some (owner',k+hs.length)∧owner'.size=mask+1∧(own (mask+1) owner').Perm (List.range (k+hs.length))
 | [],owner,k,h1,h2,_=>⟨owner,rfl,h1,h2⟩
 | h::hs,owner,k,h1,h2,h3=>by
  rw[List.length_cons] at h3;have hole:∃ r,r≤mask∧owner.getD r (some 0)=none:=by
   apply Classical.byContradiction;intro hn;have:(own (mask+1) owner).length=mask+1:=by
    unfold own;rw[filterMap_len,List.length_range];intro x hx;have hx':x<owner.size:=by rw[h1];exact List.mem_range.mp hx
    have hx2:x≤mask:=by rw[h1] at hx';omega
    cases hg:owner.getD x none with
    | some y=>rfl
    | none =>
     refine absurd ⟨x,hx2,?_⟩ hn;simp[Array.getD,hx'] at hg ⊢;exact hg
   rw[h2.length_eq,List.length_range] at this;omega
  obtain⟨r,hr,er⟩:=hole;have hb:bits h % (mask+1)≤mask:=Nat.le_of_lt_succ (Nat.mod_lt (bits h) (Nat.succ_pos mask));have hp:bits h<2 ^ 64:=(good_start {mask:=mask,place:=#[],dummies:=#[],finger:=0,led:=true,moves:=0,plain:=true} h).perturb;obtain⟨n,hn,en⟩:=leaps_hit F hb hp hr;obtain⟨j,hj,ej⟩:=free_some (owner:=owner) (turns mask) _ (bits h) n hb (by unfold turns;omega) (by rw[en];exact er);obtain⟨hjs,hjn⟩:=getD_free ej;have hstep:layF mask (some (owner,k)) h=some (owner.setIfInBounds j (some k),k+1):=by
   show (do let j ← layClean.free mask owner (turns mask) (bits h % (mask+1)) (bits h);pure (owner.setIfInBounds j (some k),k+1))=_;rw[hj];rfl
  rw[List.foldl_cons,hstep];have hown:(own (mask+1) (owner.setIfInBounds j (some k))).Perm (List.range (k+1)):=by
   refine List.Perm.trans (filterMap_put (j:=j) (k:=k) (f:=fun j=>owner.getD j none) List.nodup_range (List.mem_range.mpr (h1 ▸ hjs)) hjn ?_ ?_) ?_
   ·simp[Array.getD,hjs]
   ·intro x hx;by_cases hxs:x<owner.size
    ·simp[Array.getD,hxs,Array.getElem_setIfInBounds,Ne.symm hx]
    ·simp[Array.getD,hxs]
   ·rw[show List.range (k+1)=List.range k++[k] from List.range_succ];exact (h2.cons k).trans (List.perm_append_singleton k _).symm
  obtain⟨o',e',s',p'⟩:=layF_fold F hs (owner.setIfInBounds j (some k)) (k+1) (by simpa using h1) hown (by omega);refine⟨o',?_,s',?_⟩
  ·rw[e',List.length_cons,show k+1+hs.length=k+(hs.length+1) by omega]
  ·rw[List.length_cons,show k+(hs.length+1)=k+1+hs.length by omega];exact p'
theorem filterMap_pairs {owner:Array (Option Nat)}:∀ l:List Nat,((l.filterMap fun j=>(owner.getD j none).map (j,·)).map (·.2))=l.filterMap fun j=>owner.getD j none
 | []=>rfl
 | x::l=>by
  cases h:owner.getD x none with
  | none=>rw[List.filterMap_cons_none (by rw[h];rfl),List.filterMap_cons_none (f:=fun j=>owner.getD j none) h];exact filterMap_pairs l
  | some y=>rw[List.filterMap_cons_some (b:=(x,y)) (by rw[h];rfl),List.filterMap_cons_some (f:=fun j=>owner.getD j none) h,List.map_cons,filterMap_pairs l]
theorem pairs_fst {owner:Array (Option Nat)}:∀ {l:List Nat},l.Pairwise (·<·)→((l.filterMap fun j=>(owner.getD j none).map (j,·)).map (·.1)).Pairwise (·<·)∧∀ x∈(l.filterMap fun j=>(owner.getD j none).map (j,·)).map (·.1),x∈l
 | [],_=>⟨.nil,fun x h=>h⟩
 | x::l,h=>by
  obtain⟨h1,h2⟩:=List.pairwise_cons.mp h;obtain⟨i1,i2⟩:=pairs_fst (owner:=owner) h2;cases hg:owner.getD x none with
  | none =>
   rw[List.filterMap_cons_none (by rw[hg];rfl)];exact⟨i1,fun y hy=>List.mem_cons_of_mem _ (i2 y hy)⟩
  | some y =>
   rw[List.filterMap_cons_some (b:=(x,y)) (by rw[hg];rfl),List.map_cons];refine⟨List.pairwise_cons.mpr ⟨fun z hz=>h1 z (i2 z hz),i1⟩,fun z hz=>?_⟩;rcases List.mem_cons.mp hz with rfl | hz
   ·exact List.mem_cons_self ..
   ·exact List.mem_cons_of_mem _ (i2 z hz)
theorem range_rising (n:Nat):(List.range n).Pairwise (·<·):=List.pairwise_lt_range
end STab
end
section
set_option Elab.async false
set_option linter.all false
set_option maxRecDepth 100000
namespace Srt
open PySem PyProof.Rows
section
variable {prog:Program}{w:World}{A:Around}{E:Value→Shared→Prop}{s:Shared}
def BagAt (h:Heap)(a:Addr)(es:Array (Int×Value))(ep:Nat)(t:SetTable)(led:Bool):Prop:=∃ o,h.get? a=some o∧o.ExactSet∧o.data=.set es ep t∧STab.Ok t es.size led
theorem BagAt.keep {h h':Heap}{a:Addr}{es:Array (Int×Value)}{ep:Nat}{t:SetTable}{led:Bool}(b:BagAt h a es ep t led)(k:∀ o,h.get? a=some o→h'.get? a=some o):BagAt h' a es ep t led:=let ⟨o,ho,q⟩:=b;⟨o,k _ ho,q⟩
theorem BagAt.typeIs {a:Addr}{es:Array (Int×Value)}{ep:Nat}{t:SetTable}{led:Bool}(b:BagAt s.heap a es ep t led):s.TypeIs (.ref a) "set":=let ⟨o,ho,hx,_⟩:=b;⟨o,ho,hx.1⟩
theorem bag_store {h:Heap}{a:Addr}{o:Obj}{es es':Array (Int×Value)}{ep:Nat}{t t':SetTable}(ho:h.get? a=some o)(hx:o.ExactSet)(hd:o.data=.set es ep t) :
  ∃ o',(h.update a (Obj.putSet es' t')).get? a=some o'∧o'.ExactSet∧o'.data=.set es' (ep+1) t':=by
 have e:=putSet_of es' t' hd;refine⟨{o with data:=.set es' (ep+1) t'},?_,hx,rfl⟩;have hg:=Heap.get?_update_self (Obj.putSet es' t') ho (by rw[e];rfl);rw[hg,e]
theorem bag_loop {I S:Addr}{fp wr:List Addr}{n:Nat}{P:Nat→Value→Prop}{St:Nat→Heap→Prop}{R:Result→Shared→Prop}(W:Walks prog w A.in1 I fp wr n P St)(hSf:S∉fp)(Sd:Nat→Heap→Prop)
  (hkeep:∀ i h h',Sd i h→(∀ b o,b∉wr→h.get? b=some o→h'.get? b=some o)→Sd i h')
  (hadd:∀ (i:Nat) (v:Value) (s:Shared) (E:Value→Shared→Prop) (Q:Bool→Shared→Prop),i<n→P i v→Sd i s.heap→(∀ h' tk b,Heap.SameBut S s.heap h'→Sd (i+1) h'→Q b {s with heap:=h',toks:=tk})→wpAny (model prog w) A.in1 (setAdd S v) Q E s) :
  ∀ (k i:Nat) (s:Shared),n-i=k→i≤n→St i s.heap→Sd i s.heap →
   (∀ h' tk,(∀ b o,b∉S::wr→s.heap.get? b=some o→h'.get? b=some o)→Sd n h'→R (.ok (.ret .none)) {s with heap:=h',toks:=tk}) →
   codeAny (model prog w) A (.builtin "set.update.loop" ⟨[.ref S,.ref I],[]⟩) R s:=by
 have hSw:S∉wr:=fun h=>hSf (W.sub _ h)
 intro k;induction k with
 | zero =>
  intro i s hk hi hst hS hR;obtain rfl:i=n:=by omega
  refine codeAny_builtin F.entry_set_update_loop ?_;rw[Around.under_plainId F.plain_set_update_loop _];show wpAny _ A.in1 (pyNext (.ref I) >>= _) _ _ s;refine wpAny_bind (W.done s _ _ hst fun h' tk hm=>wpAny_pure (hR h' tk (fun b o hb e=>hm b o (fun hw=>hb (List.mem_cons_of_mem _ hw)) e) (hkeep _ _ _ hS hm)))
 | succ k ih =>
  intro i s hk hi hst hS hR;have hlt:i<n:=by omega
  refine codeAny_builtin F.entry_set_update_loop ?_;rw[Around.under_plainId F.plain_set_update_loop _];show wpAny _ A.in1 (pyNext (.ref I) >>= _) _ _ s;refine wpAny_bind (W.item i s _ _ hlt hst fun v h1 tk1 hP hst1 hm1=>?_);show wpAny _ A.in1 (holding [v] (setAdd S v) >>= _) _ _ _;refine wpAny_bind (wpAny_holding (hadd i v _ _ _ hlt hP (hkeep _ _ _ hS hm1) fun h2 tk2 b hsb hS2=>?_));refine wpAny_pure ⟨plainId_quiet F.plain_set_update_loop _,ih (i+1) _ (by omega) hlt (W.frame _ _ _ hst1 fun b hb o e=>?_) hS2 fun h3 tk3 hm3 hS3=>hR h3 tk3 (fun b o hb e=>?_) hS3⟩
  ·show h2.get? b=some o;rw[hsb.2 b (fun hb':b=S=>hSf (hb' ▸ hb))];exact e
  ·refine hm3 b o hb ?_;show h2.get? b=some o;rw[hsb.2 b (fun hb':b=S=>hb (hb' ▸ List.mem_cons_self ..))];exact hm1 b o (fun hw=>hb (List.mem_cons_of_mem _ hw)) e
def ledOf (w:World):Bool:=!w.params.followText "set-order"
def freshSet (w:World):Obj:={cls:=.type "set",dict:=none,data:=.set #[] 0 (.fresh 0 0 (ledOf w))}
theorem set_new (a:Value){Q₁:Value→Shared→Prop}(h:Q₁ (.ref s.heap.objs.size) {s with heap:=s.heap.push (freshSet w)}) :
  codeAny (model prog w) A (.call (.builtin "set.__new__") ⟨[.type "set",a],[]⟩) (wants Q₁ E) s:=by
 refine codeAny_of_tree ?_;show wpAny _ A.in1 (checkBuiltinCall "set.__new__" ⟨[.type "set",a],[]⟩ >>= fun _=>again (.builtin "set.__new__" ⟨[.type "set",a],[]⟩)) _ _ s;refine wpAny_bind (wpAny_of_eq (PySem.F.newCall_set_1 a) (wpAny_pure ⟨plainId_quiet PySem.F.plain_set_new _,codeAny_builtin PySem.F.entry_set_new ?_⟩));rw[Around.under_plainId PySem.F.plain_set_new _];unfold Builtin.«set.__new__» Builtin.Frozenset.newClass;have hsub:=PySem.sub_set_self;obtain⟨hp,g,d,tk,os⟩:=s;dsimp only
 wp_walk
 refine wpAny_askSetting (wpAny_pure ?_);dsimp only;simp only[newObj];exact wpAny_bind (wpAny_alloc (wpAny_pure (wpAny_pure h)))
structure SetSrc (prog:Program)(w:World)(h₀:Heap)(l:Addr)(c:String)(n:Nat)(P:Nat→Value→Prop):Prop where
 typ:∃ o,h₀.get? l=some o∧o.cls=.type c
 sub1:isSubtype (.type c) (.type "set")=pure false
 sub2:isSubtype (.type c) (.type "frozenset")=pure false
 ne:(Value.type c == Value.type "dict")=false
 iter:∀ (A:Around) (s:Shared),(∀ b o,h₀.get? b=some o→s.heap.get? b=some o)→∃ (oI:Obj) (St:Nat→Heap→Prop),
  (∀ (E:Value→Shared→Prop) (Q:Value→Shared→Prop),Q (.ref s.heap.objs.size) {s with heap:=s.heap.push oI}→wpAny (model prog w) A (pyIter (.ref l)) Q E s) ∧
  (∀ A':Around,A'.handled=none→Walks prog w A' s.heap.objs.size [s.heap.objs.size,l] [s.heap.objs.size] n P St)∧St 0 (s.heap.push oI)
end
end Srt
end
section
set_option Elab.async false
set_option linter.all false
set_option maxRecDepth 100000
namespace Srt
open PySem PyProof.Rows
section
variable {prog:Program}{w:World}{A:Around}{E:Value→Shared→Prop}{s:Shared}
set_option maxHeartbeats 3200000 in
theorem call_bag {l:Addr}{c:String}{n:Nat}{P:Nat→Value→Prop}{Q:Value→Shared→Prop}(hh:A.handled=none)(src:SetSrc prog w s.heap l c n P)(Sd:Nat→Heap→Prop)
  (hkeep:∀ i h h',Sd i h→(∀ b o,b≤s.heap.objs.size→h.get? b=some o→h'.get? b=some o)→Sd i h')
  (hadd:∀ (i:Nat) (v:Value) (s':Shared) (E:Value→Shared→Prop) (Q:Bool→Shared→Prop),i<n→P i v→Sd i s'.heap→(∀ h' tk b,Heap.SameBut s.heap.objs.size s'.heap h'→Sd (i+1) h'→Q b {s' with heap:=h',toks:=tk})→wpAny (model prog w) A.in1.in1.in1 (setAdd s.heap.objs.size v) Q E s')
  (h0:∀ h',h'.get? s.heap.objs.size=some (freshSet w)→(∀ b o,s.heap.get? b=some o→h'.get? b=some o)→Sd 0 h')
  (h:∀ (h':Heap) (tk:Nat),(∀ b o,s.heap.get? b=some o→h'.get? b=some o)→Sd n h'→Q (.ref s.heap.objs.size) {s with heap:=h',toks:=tk}) :
  wpAny (model prog w) A (call (.type "set") [.ref l]) Q E s:=by
 obtain⟨c0,tl,hmro⟩:=PySem.F.called_set.mro;have hmade:=PySem.F.called_set.made;have hsub:=PySem.F.called_set.sub;refine wpAny_call (codeAny_of_tree ?_);show wpAny _ _ (callAny (.type "set") _) _ _ _;refine wpAny_pure ⟨Code.quiet_builtin _ (by decide +kernel),codeAny_builtin F.entry_type_call ?_⟩;rw[Around.under_plain (weight_type_call_type "set" [.ref l] []) rfl];have h1:=PySem.F.called_set.notType;have h2:=PySem.F.called_set.canCreate;have hct:=PySem.F.typeCall_set_1 (.ref l);repeat (any_goals (first | assumption | wp_step))
 obtain⟨led,hled⟩:∃ led,led=ledOf w:=⟨_,rfl⟩
 refine codeAny_mono (set_new (.ref l) (E:=E) (Q₁:=fun obj s₁=>obj=.ref s.heap.objs.size∧s₁={s with heap:=s.heap.push {cls:=.type "set",dict:=none,data:=.set #[] 0 (.fresh 0 0 led)}}) ⟨rfl,by rw[hled];rfl⟩) fun r s₁ hr=>?_
 cases r with
 | error e=>exact hr
 | ok fl =>
  cases fl with
  | ret obj =>
   obtain⟨rfl,rfl⟩:=hr;have hS:(s.heap.push ({cls:=.type "set",dict:=none,data:=.set #[] 0 (.fresh 0 0 led)})).get? s.heap.objs.size=some ({cls:=.type "set",dict:=none,data:=.set #[] 0 (.fresh 0 0 led)}):=Heap.get?_push_size _ rfl;have hT:Shared.TypeIs {s with heap:=s.heap.push ({cls:=.type "set",dict:=none,data:=.set #[] 0 (.fresh 0 0 led)})} (.ref s.heap.objs.size) "set":=⟨_,hS,rfl⟩
   have hli:=PySem.F.called_set.init.lookup;have hbi:=PySem.F.called_set.init.bind (.ref s.heap.objs.size);repeat (any_goals (first | assumption | wp_step))
   refine codeAny_mono (codeAny_call_builtin (R:=wants (fun r s₂=>r=.none∧∃ h' tk,s₂={s with heap:=h',toks:=tk}∧Sd n h'∧(∀ b o,s.heap.get? b=some o→h'.get? b=some o)) E) PySem.F.called_set.init.plain PySem.F.entry_set_init (check_set_init_1 hT ?_)) fun r₂ s₂ hr₂=>?_
   ·obtain⟨ol,hol,hcl⟩:=src.typ;have hlS:l<s.heap.objs.size:=Heap.lt_size hol;obtain⟨ocls,odict,odata,oslots⟩:=ol;simp only at hcl;subst hcl;have hol':(s.heap.push ({cls:=.type "set",dict:=none,data:=.set #[] 0 (.fresh 0 0 led)})).get? l=some {cls:=.type c,dict:=odict,data:=odata,slots:=oslots}:=Heap.get?_push_of_some _ hol;have hsls:=src.sub1;have hslf:=src.sub2;have hne:=src.ne;obtain⟨oI,St,hit,W,st⟩:=src.iter A.in1.in1 {s with heap:=s.heap.push ({cls:=.type "set",dict:=none,data:=.set #[] 0 (.fresh 0 0 led)})} fun b o e=>Heap.get?_push_of_some _ e
    unfold Builtin.«set.__init__» noKeywords Builtin.Frozenset.updateFrom;generalize hPI:pyIter=PI
    wp_walk
    subst hPI;refine hit _ _ (wpAny_bind (wpAny_runValue ?_));have hsp:(s.heap.push {cls:=.type "set",dict:=none,data:=.set #[] 0 (.fresh 0 0 led)}).objs.size=s.heap.objs.size+1:=Heap.size_push ..;refine bag_loop (W _ (by simp[hh])) (S:=s.heap.objs.size) ?_ Sd (fun i h1 h2 hs hk=>hkeep i h1 h2 hs fun b o hb e=>hk b o ?_ e) hadd (n-0) 0 _ (by omega) (Nat.zero_le _) st (h0 _ ?_ ?_) fun h' tk hm hS'=>?_
    ·show s.heap.objs.size∉[(s.heap.push {cls:=.type "set",dict:=none,data:=.set #[] 0 (.fresh 0 0 led)}).objs.size,l];rw[hsp];simp only[List.mem_cons,List.not_mem_nil,or_false,not_or];exact⟨Nat.ne_of_lt (Nat.lt_succ_self _),Nat.ne_of_gt hlS⟩
    ·show b∉[(s.heap.push {cls:=.type "set",dict:=none,data:=.set #[] 0 (.fresh 0 0 led)}).objs.size];rw[hsp,List.mem_singleton];omega
    ·rw[show freshSet w={cls:=.type "set",dict:=none,data:=.set #[] 0 (.fresh 0 0 led)} from by rw[hled];rfl];exact Heap.get?_push_of_some _ hS
    ·exact fun b o e=>Heap.get?_push_of_some _ (Heap.get?_push_of_some _ e)
    ·show wpAny _ _ _ _ _ _;refine wpAny_pure ?_;show wpAny _ _ (ret Value.none) _ _ _;refine wpAny_pure ⟨rfl,h',tk,rfl,hS',fun b o e=>hm b o ?_ (Heap.get?_push_of_some _ (Heap.get?_push_of_some _ e))⟩;have hb:b<s.heap.objs.size:=Heap.lt_size e;show b∉[s.heap.objs.size,(s.heap.push {cls:=.type "set",dict:=none,data:=.set #[] 0 (.fresh 0 0 led)}).objs.size];rw[hsp];simp only[List.mem_cons,List.not_mem_nil,or_false,not_or];exact⟨Nat.ne_of_lt hb,Nat.ne_of_lt (Nat.lt_succ_of_lt hb)⟩
   ·cases r₂ with
    | error e=>exact hr₂
    | ok fl₂ =>
     cases fl₂ with
     | ret r =>
      obtain⟨rfl,h',tk,rfl,hS',hk'⟩:=hr₂;repeat (any_goals (first | assumption | wp_step))
      exact h _ _ hk' hS'
     | _=>exact hr₂.elim
  | _=>exact hr.elim
end
end Srt
end
section
set_option Elab.async false
set_option linter.all false
set_option maxRecDepth 100000
namespace Srt
open PySem PyProof.Rows
theorem ow_si:Manifest.owners.lookup (String.ofList ['r','o','t','a','r','e','t','i','_','t','e','s'].reverse)=some Manifest.sig_set_iterator:=by kernel_rfl
theorem sl_si_next:Slot "set_iterator" "__next__" "set_iterator.__next__":=.of (owner:="set_iterator") (n:="__next__") (by rw[typeLookup_type,builtinLookup_eq_fast];kernel_rfl) (by decide +kernel) (by decide +kernel) (by decide +kernel) (by first | exact .inl (by decide +kernel) | exact .inr (by decide +kernel)) (by rw[isSubtype_type];kernel_rfl)
theorem sl_si_iter:Slot "set_iterator" "__iter__" "set_iterator.__iter__":=.of (owner:="set_iterator") (n:="__iter__") (by rw[typeLookup_type,builtinLookup_eq_fast];kernel_rfl) (by decide +kernel) (by decide +kernel) (by decide +kernel) (by first | exact .inl (by decide +kernel) | exact .inr (by decide +kernel)) (by rw[isSubtype_type];kernel_rfl)
theorem en_si_next:entryFor table "set_iterator.__next__"=some Builtin.«set_iterator.__next__»:=entryFor_of_tree (by kernel_rfl)
theorem ar_si_next (a:Value):argsOk "set_iterator.__next__" ⟨[a],[]⟩:=by unfold argsOk;rw[signature?_of (id:="set_iterator.__next__") (n:=['_','_','t','x','e','n','_','_']) (o:=['r','o','t','a','r','e','t','i','_','t','e','s']) (by kernel_rfl) ow_si];kernel_rfl
theorem ar_si_iter (a:Value):argsOk "set_iterator.__iter__" ⟨[a],[]⟩:=by unfold argsOk;rw[signature?_of (id:="set_iterator.__iter__") (n:=['_','_','r','e','t','i','_','_']) (o:=['r','o','t','a','r','e','t','i','_','t','e','s']) (by kernel_rfl) ow_si];kernel_rfl
theorem en_set_iter:entryFor table "set.__iter__"=some Builtin.«frozenset.__iter__»:=entryFor_alias (id':="frozenset.__iter__") (by kernel_rfl) rfl (by decide +kernel) (by kernel_rfl)
end Srt
namespace Srt
open PySem PyProof.Rows
theorem en_si_iter:entryFor table "set_iterator.__iter__"=some Builtin.«dict_keyiterator.__iter__»:=entryFor_alias (id':="dict_keyiterator.__iter__") (by kernel_rfl) rfl (by decide +kernel) (by kernel_rfl)
theorem erase_perm {α:Type}:∀ {l:List α} {i:Nat} (h:i<l.length),(l[i]::l.eraseIdx i).Perm l
 | [],i,h=>absurd h (Nat.not_lt_zero _)
 | x::l,0,_=>.rfl
 | x::l,i+1,h=>(List.Perm.swap ..).trans ((erase_perm (l:=l) (i:=i) (Nat.lt_of_succ_lt_succ h)).cons x)
theorem pick_go {α:Type}{next:Nat→Nat}:∀ (fuel k:Nat) (left:List α) (out:Array α),left.length≤fuel→(pickOrder.go next fuel k left out).toList.Perm (out.toList++left)
 | 0,k,left,out,h=>by
  obtain rfl:left=[]:=List.eq_nil_of_length_eq_zero (by omega);simp[pickOrder.go]
 | fuel+1,k,left,out,h=>by
  unfold pickOrder.go;cases left with
  | nil=>simp
  | cons y r =>
   have hlt:next k % (y::r).length<(y::r).length:=Nat.mod_lt _ (by simp)
   rw[List.getElem?_eq_getElem hlt];dsimp only;refine (pick_go fuel (k+1) _ _ (by rw[List.length_eraseIdx_of_lt hlt];omega)).trans ?_;rw[Array.toList_push,List.append_assoc];exact (erase_perm hlt).append_left _
theorem pick_perm {α:Type}(next:Nat→Nat)(xs:Array α):(pickOrder next xs).toList.Perm xs.toList:=by
 have:=pick_go (next:=next) xs.size 0 xs.toList #[] (by simp);simpa [pickOrder] using this
def ordOf (w:World)(a:Addr)(ep:Nat)(es:Array (Int×Value)):Array (Int×Value):=if w.params.followText "set-order" then pickOrder (w.params.setOrder a ep) es else es
theorem ord_perm (w:World)(a:Addr)(ep:Nat)(es:Array (Int×Value)):(ordOf w a ep es).toList.Perm es.toList:=by
 unfold ordOf;split
 ·exact pick_perm _ _
 ·exact .rfl
theorem ord_size (w:World)(a:Addr)(ep:Nat)(es:Array (Int×Value)):(ordOf w a ep es).size=es.size:=by rw[← Array.length_toList,(ord_perm w a ep es).length_eq,Array.length_toList]
def slotAt (w:World)(t:SetTable):Nat→Nat
 | 0=>0
 | i+1=>if w.params.followText "set-order" then 0 else t.place.getD i 0+1
def IsSI (h:Heap)(it a:Addr)(slot i n ep:Nat):Prop:=∃ o,h.get? it=some o∧o.cls=.type "set_iterator"∧o.data=.fields #[.int slot 0,.int i 0,.ref a,.int n 0,.int ep 0]
theorem IsSI.keep {h h':Heap}{it a:Addr}{slot i n ep:Nat}(x:IsSI h it a slot i n ep)(k:∀ o,h.get? it=some o→h'.get? it=some o):IsSI h' it a slot i n ep:=let ⟨o,ho,q⟩:=x;⟨o,k _ ho,q⟩
section
variable {prog:Program}{w:World}{A:Around}{E:Value→Shared→Prop}{s:Shared}
theorem IsSI.typeIs {it a:Addr}{slot i n ep:Nat}(x:IsSI s.heap it a slot i n ep):s.TypeIs (.ref it) "set_iterator":=let ⟨o,ho,hc,_⟩:=x;⟨o,ho,hc⟩
theorem walk_text {a:Addr}{es:Array (Int×Value)}{ep:Nat}{t:SetTable}{led:Bool}{Q:Array (Int×Value)→Shared→Prop}(b:BagAt s.heap a es ep t led)(hft:w.params.followText "set-order"=true)
  (h:Q (ordOf w a ep es) s):wpAny (model prog w) A (setWalk a) Q E s:=by
 obtain⟨o,ho,hx,hd,hok⟩:=b;unfold setWalk setsByText;refine wpAny_bind (wpAny_setState_of ho hd hok.fits ?_);dsimp only;refine wpAny_bind (wpAny_bind (wpAny_askSetting (wpAny_pure ?_)));show wpAny _ _ (if w.params.followText "set-order"=true then _ else _) _ _ s;rw[hft,if_pos rfl];refine wpAny_bind (wpAny_askSetting (wpAny_pure ?_));unfold ordOf at h;rw[hft,if_pos rfl] at h;exact h
theorem next_of {a:Addr}{es:Array (Int×Value)}{ep:Nat}{t:SetTable}{i:Nat}{Q:Option (Value×Nat)→Shared→Prop}(b:BagAt s.heap a es ep t (ledOf w))
  (hQ:Q (((ordOf w a ep es)[i]?).map fun e=>(e.2,slotAt w t (i+1))) s) (hi:i≤es.size):wpAny (model prog w) A (setNext a (slotAt w t i) i ep) Q E s:=by
 obtain⟨o,ho,hx,hd,hok⟩:=id b;unfold setNext setsByText;refine wpAny_bind (wpAny_setState_of ho hd hok.fits ?_);dsimp only;refine wpAny_bind (wpAny_bind (wpAny_askSetting (wpAny_pure ?_)));show wpAny _ _ (if w.params.followText "set-order"=true then _ else _) _ _ s;cases hft:w.params.followText "set-order" with
 | true =>
  rw[if_pos rfl,if_neg (by simp)];refine wpAny_bind (walk_text b hft (wpAny_pure ?_));have:slotAt w t i=slotAt w t (i+1):=by
   cases i with
   | zero=>simp[slotAt,hft]
   | succ i=>simp[slotAt,hft]
  rw[this];exact hQ
 | false =>
  rw[if_neg (by decide)];refine wpAny_ite_split (fun hab=>?_) (fun _=>?_)
  ·have hab':(!t.plain && decide (es.size>1))=true:=hab;rw[hok.plain] at hab';exact Bool.noConfusion hab'
  refine wpAny_bind (wpAny_of_eq (a:=()) ?_ ?_)
  ·show (if (!t.led && !es.isEmpty)=true then _ else _)=_;have hl:t.led=true:=by rw[hok.led];unfold ledOf;rw[hft];rfl
   rw[hl,if_neg (by simp)]
  ·have hbl:SetTable.below t.place (slotAt w t i)=i:=by
    cases i with
    | zero=>exact STab.below_zero hok.ris
    | succ i =>
     have hlt:i<t.place.size:=by rw[hok.size];omega
     have:slotAt w t (i+1)=t.place[i]+1:=by simp[slotAt,hft,Array.getD,hlt]
     rw[this];exact STab.below_next hok.ris hlt
   refine wpAny_pure ?_;rw[hbl];have ho:ordOf w a ep es=es:=by unfold ordOf;rw[hft];rfl
   rw[ho] at hQ;rcases Nat.lt_or_ge i es.size with h | h
   ·have hlt:i<t.place.size:=by rw[hok.size];exact h
    rw[Array.getElem?_eq_getElem h,Array.getElem?_eq_getElem hlt];rw[Array.getElem?_eq_getElem h] at hQ;have:slotAt w t (i+1)=t.place[i]+1:=by simp[slotAt,hft,Array.getD,hlt]
    rw[this] at hQ;exact hQ
   ·rw[Array.getElem?_eq_none h];rw[Array.getElem?_eq_none h] at hQ;exact hQ
end
end Srt
end
section
set_option Elab.async false
set_option linter.all false
set_option maxRecDepth 100000
namespace Srt
open PySem PyProof.Rows PySem.W
section
variable {prog:Program}{w:World}{A:Around}{E:Value→Shared→Prop}{s:Shared}
theorem si_item {it a:Addr}{es:Array (Int×Value)}{ep:Nat}{t:SetTable}{i:Nat}{Q:Option Value→Shared→Prop}(hit:IsSI s.heap it a (slotAt w t i) i es.size ep)(b:BagAt s.heap a es ep t (ledOf w))(hi:i<es.size)
  (hQ:∀ h' e,(ordOf w a ep es)[i]?=some e→IsSI h' it a (slotAt w t (i+1)) (i+1) es.size ep→Heap.SameBut it s.heap h'→Q (some e.2) {s with heap:=h'}):wpAny (model prog w) A (pyNext (.ref it)) Q E s:=by
 obtain⟨o,ho,hc,hd⟩:=id hit;obtain⟨oa,hoa,hxa,hda,hok⟩:=id b;have hz:i<(ordOf w a ep es).size:=by rw[ord_size];exact hi
 unfold pyNext
 refine wpAny_bind (wpAny_attempt (wpAny_callSpecial?_slot (name:=Str.ofString "__next__") hit.typeIs sl_si_next
  (wpAny_call_entry sl_si_next hit.typeIs en_si_next ?_ (ar_si_next _))))
 unfold Builtin.«set_iterator.__next__»;refine wpAny_bind (m:=slotArgs "__next__" 0 _) (wpAny_pure (wpAny_bind (wpAny_fieldsOf ho hd ?_)));dsimp only;refine wpAny_bind (wpAny_setEntries_of hoa hda hok.fits ?_);rw[if_neg (by simp)];simp only[Int.toNat_natCast];refine wpAny_bind (next_of b ?_ (Nat.le_of_lt hi));rw[Array.getElem?_eq_getElem hz];dsimp only[Option.map];refine wpAny_bind (wpAny_setField ho hd (by simp) ?_);have ho1:=Heap.get?_update_self (Obj.mapFields (·.setIfInBounds 0 (rawInt ((slotAt w t (i+1):Nat):Int)))) ho (Obj.isFreed_of_fields (Obj.data_mapFields hd _));have hd1:=Obj.data_mapFields hd (·.setIfInBounds 0 (rawInt ((slotAt w t (i+1):Nat):Int)));refine wpAny_bind (wpAny_setField (s:={s with heap:=s.heap.update it (Obj.mapFields (·.setIfInBounds 0 (rawInt ((slotAt w t (i+1):Nat):Int))))}) ho1 hd1 (by simp) ?_);refine wpAny_pure ⟨_,rfl,wpAny_pure (hQ _ _ (Array.getElem?_eq_getElem hz) ⟨_,Heap.get?_update_self _ ho1 (Obj.isFreed_of_fields (Obj.data_mapFields hd1 _)),?_,?_⟩ ((Heap.SameBut.update ..).trans (Heap.SameBut.update ..)))⟩
 ·exact (Obj.cls_mapFields ..).trans ((Obj.cls_mapFields ..).trans hc)
 ·rw[Obj.data_mapFields hd1];simp[rawInt]
theorem si_end {it a:Addr}{es:Array (Int×Value)}{ep:Nat}{t:SetTable}{Q:Option Value→Shared→Prop}(hh:A.handled=none)(hit:IsSI s.heap it a (slotAt w t es.size) es.size es.size ep)(b:BagAt s.heap a es ep t (ledOf w))
  (hQ:∀ h',Heap.ExtBut it s.heap h'→Q none {s with heap:=h'}):wpAny (model prog w) A (pyNext (.ref it)) Q E s:=by
 obtain⟨o,ho,hc,hd⟩:=id hit;obtain⟨oa,hoa,hxa,hda,hok⟩:=id b;unfold pyNext
 refine wpAny_bind (wpAny_attempt (wpAny_callSpecial?_slot (name:=Str.ofString "__next__") hit.typeIs sl_si_next
  (wpAny_call_entry sl_si_next hit.typeIs en_si_next ?_ (ar_si_next _))))
 unfold Builtin.«set_iterator.__next__»;refine wpAny_bind (m:=slotArgs "__next__" 0 _) (wpAny_pure (wpAny_bind (wpAny_fieldsOf ho hd ?_)));dsimp only;refine wpAny_bind (wpAny_setEntries_of hoa hda hok.fits ?_);rw[if_neg (by simp)];simp only[Int.toNat_natCast];refine wpAny_bind (next_of b ?_ (Nat.le_refl _));rw[Array.getElem?_eq_none (Nat.le_of_eq (ord_size ..))];dsimp only[Option.map];refine wpAny_bind (wpAny_setField ho hd (by simp) ?_);show wpAny _ _ (newExc (.type "StopIteration") [] >>= _) _ _ _;refine wpAny_bind ?_;simp only[newExc,newTuple];refine wpAny_bind (wpAny_newObj_type ?_ (by size_fits));refine wpAny_bind (m:=firstArgMember _ _) (wpAny_of_eq (a:=Value.none) (by first | rfl | (simp only[firstArgMember];rfl)) ?_);refine wpAny_newObj_type ?_ (by size_fits);simp only[raiseNew];refine wpAny_bind (wpAny_handled ?_);rw[show A.in1.handled=none from hh];refine wpAny_bind (wpAny_pure (wpAny_throw ?_));refine wpAny_bind (wpAny_isInstance (T:="StopIteration") (b:=true) ⟨_,Heap.get?_push_size _ rfl,rfl⟩ isSubtype_stop ?_);exact wpAny_pure (hQ _ (((Heap.SameBut.update ..).extBut.push _).push _))
theorem si_self {it a:Addr}{slot i n ep:Nat}{Q:Value→Shared→Prop}(hit:IsSI s.heap it a slot i n ep)(h:Q (.ref it) s):wpAny (model prog w) A (pyIter (.ref it)) Q E s:=by
 refine wpAny_pyIter_slot hit.typeIs sl_si_iter (wpAny_call_entry sl_si_iter hit.typeIs en_si_iter ?_ (ar_si_iter _));show wpAny _ _ (ret (.ref it)) _ _ s;exact wpAny_pure ⟨_,rfl, "set_iterator",_,hit.typeIs,sl_si_next.lookup,h⟩
theorem si_make {a:Addr}{es:Array (Int×Value)}{ep:Nat}{t:SetTable}{Q:Value→Shared→Prop}(b:BagAt s.heap a es ep t (ledOf w))
  (hQ:Q (.ref s.heap.objs.size) {s with heap:=s.heap.push {cls:=.type "set_iterator",data:=.fields #[.int 0 0,.int 0 0,.ref a,.int es.size 0,.int ep 0]}}):wpAny (model prog w) A (pyIter (.ref a)) Q E s:=by
 obtain⟨o,ho,hx,hd,hok⟩:=id b;refine wpAny_pyIter_slot b.typeIs PySem.F.slot_set_iter (wpAny_call_entry PySem.F.slot_set_iter b.typeIs en_set_iter ?_ (PySem.F.args_set_iter_1 _));unfold Builtin.«frozenset.__iter__» Builtin.Frozenset.slot0 Builtin.Frozenset.addrOf Builtin.Frozenset.sizeOf;refine wpAny_bind (wpAny_bind (m:=slotArgs "__iter__" 0 _) (wpAny_pure (wpAny_pure ?_)));refine wpAny_bind (wpAny_bind (wpAny_setEntries_of ho hd hok.fits (wpAny_pure ?_)));unfold setDrawn setsByText;refine wpAny_bind (wpAny_bind (wpAny_setState_of ho hd hok.fits (wpAny_bind (wpAny_bind (wpAny_askSetting (wpAny_pure (wpAny_pure ?_)))))));refine wpAny_ite_split (fun hab=>?_) (fun _=>?_)
 ·have hab':(!w.params.followText "set-order" && (!t.plain && decide (es.size>1)))=true:=hab;rw[hok.plain] at hab';simp at hab'
 refine wpAny_bind (wpAny_pure (wpAny_bind (wpAny_setEpoch_of ho hd hok.fits ?_)));refine wpAny_bind (wpAny_newObj_type (wpAny_pure ⟨_,rfl, "set_iterator",_,⟨_,Heap.get?_push_size _ rfl,rfl⟩,sl_si_next.lookup,?_⟩));simpa [rawInt] using hQ
theorem si_walks (hh:A.handled=none)(I a:Addr)(hne:a≠I)(es:Array (Int×Value))(ep:Nat)(t:SetTable) :
  Walks prog w A I [I,a] [I] es.size (fun i v=>∃ e,(ordOf w a ep es)[i]?=some e∧e.2=v) (fun i h=>IsSI h I a (slotAt w t i) i es.size ep∧BagAt h a es ep t (ledOf w)) where
 sub:=fun b hb=>by simp at hb;simp[hb]
 frame:=fun _ _ _ st hk=>⟨st.1.keep fun o e=>hk I (by simp) o e,st.2.keep fun o e=>hk a (by simp) o e⟩
 item:=fun i s Q E hi st hQ=>si_item st.1 st.2 hi fun h' e he hit' hs' =>
  hQ e.2 h' s.toks ⟨e,he,rfl⟩ ⟨hit',st.2.keep fun o q=>hs'.extBut a o hne q⟩ fun b o hb q=>hs'.extBut b o (fun h=>hb (by simp[h])) q
 done:=fun s Q E st hQ=>si_end hh st.1 st.2 fun h' he'=>hQ h' s.toks fun b o hb e=>he' b o (fun h=>hb (by simp[h])) e
 self:=fun _ _ _ _ st hQ=>si_self st.1 hQ
theorem hint_set {r:Addr}{Q:Bool→Shared→Prop}(hT:s.TypeIs (.ref r) "set")(h:Q false s):wpAny (model prog w) A (Builtin.List.listLengthHint (.ref r)) Q E s:=by
 unfold Builtin.List.listLengthHint;refine wpAny_bind (wpAny_specialOf hT PySem.F.slot_set_len.lookup ?_);generalize hid:("set.__len__":String)=id0
 wp_delta
 rw[show splitId id0=some ("set", "__len__") from by subst hid;decide +kernel];subst hid;refine wpAny_bind (wpAny_isInstance (T:="set") (b:=true) hT (by rw[isSubtype_type];kernel_rfl) ?_);refine wpAny_ite_split (fun hab=>absurd hab (by decide)) (fun _=>?_);refine wpAny_ite_split (fun _=>?_) (fun hab=>absurd (by decide +kernel) hab);exact wpAny_bind (wpAny_typeOf hT (wpAny_pure h))
theorem bag_src {a:Addr}{es:Array (Int×Value)}{ep:Nat}{t:SetTable}:KdlSrc prog w "set" a a es.size (fun i v=>∃ e,(ordOf w a ep es)[i]?=some e∧e.2=v) (fun h=>BagAt h a es ep t (ledOf w)) where
 type:=fun _ hm=>hm.typeIs
 there:=fun _ hm=>let ⟨_,ho,_⟩:=hm;⟨Heap.lt_size ho,Heap.lt_size ho⟩
 keep:=fun _ _ hm hk=>hm.keep fun o e=>hk a (.inl rfl) o e
 notList:=by decide
 notTuple:=by decide
 hint:=fun _ _ _ _ hm hq=>hint_set hm.typeIs hq
 iter:=fun _ _ hh hm=>⟨_,_,(fun _ _ hq=>si_make hm hq),si_walks hh _ a (let ⟨_,ho,_⟩:=hm;Nat.ne_of_lt (Heap.lt_size ho)) es ep t,⟨⟨_,Heap.get?_push_size _ rfl,rfl,rfl⟩,hm.keep fun _ e=>Heap.get?_push_of_some _ e⟩⟩
theorem coll_bag {a:Addr}{es:Array (Int×Value)}{ep:Nat}{t:SetTable}(hh:A.handled=none)(b:BagAt s.heap a es ep t (ledOf w))(hz:es.size≤sizeLine):Coll prog w A a s fun us=>us.Perm (es.toList.map (·.2)):=by
 intro E R h;refine kdu_collect (bag_src (ep:=ep) (t:=t)) hh b hz fun h' tk acc hk hI=>h h' tk acc.toList hk ?_
 have:acc.toList=(ordOf w a ep es).toList.map (·.2):=by
  apply List.ext_getElem?;intro i;rw[Array.getElem?_toList,List.getElem?_map,Array.getElem?_toList];rcases Nat.lt_or_ge i es.size with hi | hi
  ·have hi':i<acc.size:=by rw[hI.1];exact hi
   obtain⟨e,he,hk⟩:=hI.2 i acc[i] (Array.getElem?_eq_getElem hi');rw[Array.getElem?_eq_getElem hi',he];exact congrArg some hk.symm
  ·rw[Array.getElem?_eq_none (by rw[hI.1];exact hi),Array.getElem?_eq_none (by rw[ord_size];exact hi)];rfl
 rw[this];exact (ord_perm w a ep es).map _
end
end Srt
end
section
set_option Elab.async false
set_option linter.all false
set_option maxRecDepth 100000
namespace Srt
open PySem PyProof.Rows PySem.W
theorem sub_tup_set:isSubtype (.type "tuple") (.type "set")=pure false:=by rw[isSubtype_type];kernel_rfl
theorem sub_tup_fro:isSubtype (.type "tuple") (.type "frozenset")=pure false:=by rw[isSubtype_type];kernel_rfl
section
variable {prog:Program}{w:World}{A:Around}{E:Value→Shared→Prop}{s:Shared}
theorem src_list {h:Heap}{l:Addr}{items:Array Value}(hl:h.IsList l items):SetSrc prog w h l "list" items.size (fun i v=>items[i]?=some v) where
 typ:=let ⟨o,ho,hc,_⟩:=hl;⟨o,ho,hc⟩
 sub1:=PySem.F.sub_list_set
 sub2:=PySem.F.sub_list_frozenset
 ne:=by decide
 iter:=fun A s hk=>by
  have hl':s.heap.IsList l items:=hl.at fun o e=>hk l o e
  refine⟨_,_,fun E Q hq=>wpAny_pyIter_list hl' hq,fun A' hh=>Walks.list hh _ l ?_ items,⟨⟨_,Heap.get?_push_size _ rfl,rfl,rfl⟩,hl'.push _⟩⟩;obtain⟨o,ho,_⟩:=hl';exact Nat.ne_of_lt (Heap.lt_size ho)
theorem src_tup {h:Heap}{l:Addr}{items:Array Value}(hl:h.IsTuple l items):SetSrc prog w h l "tuple" items.size (fun i v=>items[i]?=some v) where
 typ:=let ⟨o,ho,hc,_⟩:=hl;⟨o,ho,hc⟩
 sub1:=sub_tup_set
 sub2:=sub_tup_fro
 ne:=by decide
 iter:=fun A s hk=>by
  have hl':s.heap.IsTuple l items:=hl.at fun o e=>hk l o e
  refine⟨_,_,fun E Q hq=>wpAny_pyIter_tuple hl' hq,fun A' hh=>Walks.tuple hh _ l ?_ items,⟨⟨_,Heap.get?_push_size _ rfl,rfl,rfl⟩,hl'.at fun o e=>Heap.get?_push_of_some _ e⟩⟩;obtain⟨o,ho,_⟩:=hl';exact Nat.ne_of_lt (Heap.lt_size ho)
end
end Srt
namespace L2
open PySem PySem.Spec PyProof.Rows PySem.W
section
variable {X:Cx}{pins:List (Addr×Obj)}{σ:St}{H:Hp}{s:Shared}{x y:Str}{e:Expr}{p p' pos pos':Pos}{t:TA}
end
end L2
end
section
set_option Elab.async false
set_option linter.all false
set_option maxRecDepth 100000
namespace L2
open PySem PySem.Spec PyProof.Rows
section
variable {X:Cx}{pins:List (Addr×Obj)}{σ:St}{H:Hp}{s:Shared}{h':Heap}
end
section
variable {X:Cx}{K:PySem.W.Frag}{elts:List Expr}{k:Nat}{tpos p pos:Pos}{l:Expr}{t:TA}{y:Str}
end
section
variable {K:PySem.W.Frag}{a p:Addr}{xs:List V}{g:TG}{tc:TT}{te tv:TE}{τ0:St}{H0:Hp}{EE:Hp→Prop}
end
structure Bt2 (mg:Str→Option Value):Prop where
 isinstance:mg "isinstance"=none
 bool:mg "bool"=none
 all:mg "all"=none
 set:mg "set"=none
 enumerate:mg "enumerate"=none
 zip:mg "zip"=none
end L2
end
section
set_option Elab.async false
set_option linter.all false
set_option maxRecDepth 100000
namespace L2
open PySem
inductive Rch (ts:List (Int×Int))(A:Int→Prop)(u:Int):Int→Prop
 | base:Rch ts A u u
 | step {y x:Int}:Rch ts A u y→x∈nb ts y→A x→Rch ts A u x
structure Srch (n:Int)(ts:List (Int×Int))(A:Int→Prop)(u:Int)(fs ws:List Int):Prop where
 nd:fs.Nodup
 rng:∀ x∈fs,0≤x∧x<n
 st:u∈fs
 sub:∀ x∈ws,x∈fs
 snd:∀ x∈fs,Rch ts A u x
 cl:∀ x∈fs,x∉ws→∀ y∈nb ts x,A y→y∈fs
structure Srch' (n:Int)(ts:List (Int×Int))(A:Int→Prop)(u:Int)(fs ws:List Int)(v:Int)(j:Nat):Prop where
 nd:fs.Nodup
 rng:∀ x∈fs,0≤x∧x<n
 st:u∈fs
 sub:∀ x∈ws,x∈fs
 snd:∀ x∈fs,Rch ts A u x
 cl:∀ x∈fs,x∉ws→x≠v→∀ y∈nb ts x,A y→y∈fs
 vin:v∈fs
 part:∀ y∈(nb ts v).take j,A y→y∈fs
section
variable {n:Int}{ts:List (Int×Int)}{A:Int→Prop}{u v:Int}{fs ws:List Int}{j:Nat}
theorem Srch.init (h0:0≤u)(h1:u<n):Srch n ts A u [u] [u] :=
 ⟨by simp,fun x hx=>by simp at hx;subst hx;exact⟨h0,h1⟩,by simp,by simp,fun x hx=>by simp at hx;subst hx;exact .base,fun x hx hn=>by simp at hx hn;exact absurd hx hn⟩
theorem Srch.pop (h:Srch n ts A u fs (ws++[v])):Srch' n ts A u fs ws v 0 :=
 ⟨h.nd,h.rng,h.st,fun x hx=>h.sub x (by simp[hx]),h.snd,fun x hx hn hv=>h.cl x hx (by simp[hn,hv]),h.sub v (by simp),fun y hy=>by simp at hy⟩
theorem Srch'.add (h:Srch' n ts A u fs ws v j)(hok:TsOk n ts){y:Int}(hy:(nb ts v)[j]?=some y)(ha:A y)(hn:y∉fs):Srch' n ts A u (fs++[y]) (ws++[y]) v (j+1):=by
 have hym:=List.mem_of_getElem? hy;have hr:=nb_rng hok hym;refine⟨?_,fun x hx=>?_,by simp[h.st],fun x hx=>?_,fun x hx=>?_,fun x hx hw hv z hz az=>?_,by simp[h.vin],fun z hz az=>?_⟩
 ·rw[List.nodup_append];exact⟨h.nd,by simp,fun a hq b hb e=>hn (by simp at hb;subst hb;subst e;exact hq)⟩
 ·rcases List.mem_append.mp hx with hx | hx
  ·exact h.rng x hx
  ·cases List.mem_singleton.mp hx;exact⟨hr.1,hr.2.1⟩
 ·rcases List.mem_append.mp hx with hx | hx
  ·exact List.mem_append.mpr (.inl (h.sub x hx))
  ·exact List.mem_append.mpr (.inr hx)
 ·rcases List.mem_append.mp hx with hx | hx
  ·exact h.snd x hx
  ·cases List.mem_singleton.mp hx;exact .step (h.snd v h.vin) hym ha
 ·rcases List.mem_append.mp hx with hx | hx
  ·exact List.mem_append.mpr (.inl (h.cl x hx (fun q=>hw (List.mem_append.mpr (.inl q))) hv z hz az))
  ·exact absurd (List.mem_append.mpr (.inr hx)) hw
 ·rw[List.take_succ,hy] at hz;rcases List.mem_append.mp hz with hz | hz
  ·exact List.mem_append.mpr (.inl (h.part z hz az))
  ·simp at hz;subst hz;simp
theorem Srch'.skip (h:Srch' n ts A u fs ws v j){y:Int}(hy:(nb ts v)[j]?=some y)(ha:¬ A y∨y∈fs):Srch' n ts A u fs ws v (j+1):=by
 refine⟨h.nd,h.rng,h.st,h.sub,h.snd,h.cl,h.vin,fun z hz az=>?_⟩;rw[List.take_succ,hy] at hz;rcases List.mem_append.mp hz with hz | hz
 ·exact h.part z hz az
 ·simp at hz;subst hz;exact ha.elim (fun q=>absurd az q) id
theorem Srch'.done (h:Srch' n ts A u fs ws v j)(hj:(nb ts v).length≤j):Srch n ts A u fs ws:=by
 refine⟨h.nd,h.rng,h.st,h.sub,h.snd,fun x hx hw y hy ay=>?_⟩;by_cases e:x=v
 ·subst e;exact h.part y (by rw[List.take_of_length_le hj];exact hy) ay
 ·exact h.cl x hx hw e y hy ay
theorem Srch.fin (h:Srch n ts A u fs [])(x:Int):x∈fs↔Rch ts A u x:=by
 refine⟨h.snd x,fun r=>?_⟩;induction r with
 | base=>exact h.st
 | step _ hm ha ih=>exact h.cl _ ih (by simp) _ hm ha
theorem Rch.rng (hok:TsOk n ts)(h0:0≤u)(h1:u<n){x:Int}(r:Rch ts A u x):0≤x∧x<n:=by
 induction r with
 | base=>exact⟨h0,h1⟩
 | step _ hm _ _=>have:=nb_rng hok hm;omega
theorem Rch.mem {x:Int}(r:Rch ts A u x)(h:A u):A x:=by
 cases r with
 | base=>exact h
 | step _ _ ha=>exact ha
theorem Rch.left {L:Int→Prop}(hok:TsOk n ts)(hL:∀ x,L x→A x)(hc:∀ x y,A x→¬ L x→y∈nb ts x→A y→¬ L y)(hu:L u){x:Int}:Rch ts L u x↔Rch ts A u x:=by
 constructor
 ·intro r;induction r with
  | base=>exact .base
  | step _ hm ha ih=>exact .step ih hm (hL _ ha)
 ·intro r;have:Rch ts L u x∧L x:=by
   induction r with
   | base=>exact⟨.base,hu⟩
   | @step y x _ hm ha ih =>
    have:L x:=Classical.byContradiction fun hn=>hc x y ha hn ((nb_sym hok).mp hm) (hL _ ih.2) ih.2
    exact⟨.step ih.1 hm this,this⟩
  exact this.1
theorem disp1 {H:Hp}{p:Addr}{u:Int}:upd (upd H p (.dK [])) p (.dK (mergeK [] [(Sum.inl u,V.bl true)]))=upd H p (.dK (kvI [u])):=by
 rw[upd_upd];rfl
theorem addI_new {y:Int}(h:y∉fs):addI fs y=fs++[y]:=by unfold addI;rw[if_neg h]
end
structure SrAt (H Hc:Hp)(me wl:Addr)(fs ws:List Int):Prop where
 same:Same H Hc
 met:Hc me=some (.dK (kvI fs))
 wait:Hc wl=some (.lst (ws.map V.int))
def srM (n:Int)(me wl:Addr)(Hc:Hp):Nat:=match Hc me,Hc wl with
 | some (.dK kvs),some (.lst xs)=>2*(n.toNat-kvs.length)+xs.length
 | _,_=>0
section
variable {H Hc:Hp}{me wl:Addr}{fs ws:List Int}{n:Int}
theorem SrAt.mu (h:SrAt H Hc me wl fs ws):srM n me wl Hc=2*(n.toNat-fs.length)+ws.length:=by
 unfold srM;rw[h.met,h.wait];show 2*(n.toNat-(kvI fs).length)+(ws.map V.int).length=_;rw[kvI_len,List.length_map]
theorem SrAt.ne (h:SrAt H Hc me wl fs ws):me≠wl:=fun e=>by
 have:=h.met;rw[e,h.wait] at this;cases this
theorem last_of {ws:List Int}(h:ws≠[]):∃ ws' v,ws=ws'++[v]:=⟨ws.dropLast,ws.getLast h,(List.dropLast_concat_getLast h).symm⟩
theorem SrAt.pop {v:Int}(h:SrAt H Hc me wl fs (ws++[v]))(hw:H wl=none):((ws++[v]).map V.int)[((ws++[v]).map V.int).length-1]?=some (V.int v)∧SrAt H (upd Hc wl (.lst ((ws++[v]).map V.int).dropLast)) me wl fs ws:=by
 refine⟨by simp,h.same.upd hw,by rw[upd_ne h.ne];exact h.met,?_⟩;rw[upd_same];simp
theorem SrAt.add {y:Int}(h:SrAt H Hc me wl fs ws)(hm:H me=none)(hw:H wl=none)(hy:y∉fs):SrAt H (upd (upd Hc me (.dK (kvI (addI fs y)))) wl (.lst (ws.map V.int++[V.int y]))) me wl (fs++[y]) (ws++[y]):=by
 refine⟨(h.same.upd hm).upd hw,?_,?_⟩
 ·rw[upd_ne h.ne,upd_same,addI_new hy]
 ·rw[upd_same,List.map_append];rfl
theorem SrAt.mono {H0:Hp}(h:SrAt H Hc me wl fs ws)(s:Same Hc H0):SrAt H H0 me wl fs ws:=⟨h.same.trans s,s _ _ h.met,s _ _ h.wait⟩
end
def sp_reach (K:PySem.W.Frag):Sp:=fun vs H Q _=>∃ (rp:Addr) (as:List Addr) (n:Int) (ts:List (Int×Int)) (al:Addr) (ls:List Int) (u:Int),vs=[.ref rp,.int u,.ref al]∧RowsAt H rp as (rowsOf n ts)∧TsOk n ts∧n≤1000∧ts.length≤1000∧(SqL K H al (ls.map V.int)∨SqT K H al (ls.map V.int))∧0≤u∧u<n ∧
 ∀ (p:Addr) (zs:List Int) (H':Hp),Same H H'→H p=none→H' p=some (.lst (zs.map V.int))→zs.Pairwise (·<·)→(∀ x,x∈zs↔Rch ts (·∈ls) u x)→Q (.ref p) H'
end L2
end
section
set_option Elab.async false
set_option linter.all false
set_option maxRecDepth 100000
namespace L2
open PySem
def tI (l:List Int):PyData:=.tuple (l.map PyData.int)
theorem canLay_tI:∀ ls:List (List Int),PyData.canLayAll0 (ls.map tI)=true
 | []=>rfl
 | n::r=>by
  rw[List.map_cons,PyData.canLayAll0,canLay_tI r];unfold tI;rw[PyData.canLay0,canLay_ints];rfl
theorem depth_tI:∀ ls:List (List Int),PyData.depthAll (ls.map tI)≤1
 | []=>Nat.zero_le _
 | n::r=>by
  rw[List.map_cons,PyData.depthAll];have:=depth_tI r;unfold tI at this ⊢;rw[PyData.depth,depth_ints];omega
theorem shaped_TT (ls:List (List Int)):SeqAt.shaped (.tuple (ls.map tI))=true:=by
 unfold SeqAt.shaped;rw[PyData.canLay0,PyData.depth,canLay_tI];have:=depth_tI ls;rw[Bool.true_and,decide_eq_true_iff];omega
theorem eqv_TT:∀ ls ms:List (List Int),PyData.eqvAll (ls.map tI) (ms.map tI)=decide (ls=ms)
 | [],[]=>rfl
 | [],_::_=>rfl
 | _::_,[]=>rfl
 | a::r,b::t=>by
  rw[List.map_cons,List.map_cons,PyData.eqvAll,eqv_TT r t];unfold tI;rw[eqv_tupI];by_cases h:a=b<;>by_cases h':r=t<;>simp[h,h']
theorem Dts.tups {K:PySem.W.Frag}{H:Hp}:∀ {ps:List (Addr×List Int)},(∀ x∈ps,SqT K H x.1 (x.2.map V.int))→Dts K H (ps.map fun x=>V.ref x.1) ((ps.map (·.2)).map tI)
 | [],_=>.nil
 | p::r,h=>.cons (.tupI (h p (List.mem_cons_self ..))) (Dts.tups fun x hx=>h x (List.mem_cons_of_mem _ hx))
def LsAt (H:Hp)(p:Addr)(ls:List (List Int)):Prop:=∃ ps:List (Addr×List Int),H p=some (.tup (ps.map fun x=>V.ref x.1))∧(∀ x∈ps,H x.1=some (.tup (x.2.map V.int)))∧ps.map (·.2)=ls
theorem LsAt.tp {H H':Hp}{p:Addr}{ls:List (List Int)}(h:LsAt H p ls)(t:Tp H H'):LsAt H' p ls:=by
 obtain⟨ps,e,ha,hl⟩:=h;exact⟨ps,t _ _ e,fun x hx=>t _ _ (ha x hx),hl⟩
theorem LsAt.dt {K:PySem.W.Frag}{H:Hp}{p:Addr}{ls:List (List Int)}(h:LsAt H p ls):Dt K H (.ref p) (.tuple (ls.map tI)):=by
 obtain⟨ps,e,ha,rfl⟩:=h;exact .tup (SqT.of e) (Dts.tups fun x hx=>SqT.of (ha x hx))
theorem neTT {K:PySem.W.Frag}{H:Hp}{a b:Addr}{ls ms:List (List Int)}{Q:VK}(h1:LsAt H a ls)(h2:LsAt H b ms)(q:Q (.bl (!decide (ls=ms))) H):rEqD K true (.ref a) (.ref b) H Q :=
 ⟨_,_,h1.dt,h2.dt,shaped_TT _,shaped_TT _,by
  have e:PyData.eqv (.tuple (ls.map tI)) (.tuple (ms.map tI))=decide (ls=ms):=by rw[PyData.eqv];exact eqv_TT ls ms
  rw[e];exact q⟩
section
variable {n:Int}{ts:List (Int×Int)}{us:List Int}{u x:Int}
end
end L2
end
section
set_option Elab.async false
set_option linter.all false
set_option maxRecDepth 100000
namespace L2
open PySem PySem.Spec PyProof.Rows
section
variable {X:Cx}
theorem pe_ty {x:Str}{n:String}{pos:Pos}(hg:Gl X x)(hm:X.mg x=none)(hv:bootBuiltins x=some (.type n))(hn:x≠"__name__":=by decide)(hd:(x == ("__debug__":Str))=false:=by decide):PE X (.Name x pos) (tC (.ty n)) :=
 fun _ _ _ H _ I h=>ld_blt I hg hm hv ⟨.ty n,H,I,rfl,h⟩ hn hd
def cIsi (K:PySem.W.Frag):List V→Hp→VK→Prop:=fun xs H Q=>∃ (x:V) (n:String) (t:Value) (b:Bool),xs=[x,.ty n]∧TyOf K H x t∧PySem.W.kitOne K t (.type n)=some b∧Q (.bl b) H
theorem call_isi:CallR X (.builtin "isinstance") (cIsi X.K):=by
 intro pins s σ H xs us Q I r h;obtain⟨x,n,t,b,rfl,ty,e,q⟩:=h;obtain⟨u,w',rfl,rx,rn⟩:=vals2 r;cases (show w'=Value.type n from rn);exact isinst_ok I rx ty e fun tk=>⟨.bl b,H,I.tok _,rfl,q⟩
theorem isiK (K:PySem.W.Frag)(h:X.K=K:=by rfl):CallR X (.builtin "isinstance") (cIsi K):=by subst h;exact call_isi
theorem bools_get:∀ {bs:List Bool} {us:List Value},Vals (bs.map V.bl) us→∀ (i:Nat) (v:Value),us[i]?=some v→v=Value.bool (bs.getD i true)
 | [],_,.nil,i,v,h=>by simp at h
 | b::r,_,.cons q t,0,v,h=>by simp at h;subst h;exact q
 | b::r,_,.cons q t,i+1,v,h=>by simp at h;exact bools_get t i v h
theorem range_all (bs:List Bool):(List.range bs.length).all (fun i=>bs.getD i true)=bs.all id:=by
 induction bs with
 | nil=>rfl
 | cons b r ih =>
  rw[List.length_cons,List.range_succ_eq_map,List.all_cons,List.all_map,List.all_cons];congr 1
def cAll (K:PySem.W.Frag):List V→Hp→VK→Prop:=fun xs H Q=>∃ (p:Addr) (bs:List Bool),xs=[.ref p]∧SqL K H p (bs.map V.bl)∧Q (.bl (bs.all id)) H
theorem call_allB (hh:X.A.handled=none):CallR X (.builtin "all") (cAll X.K):=by
 intro pins s σ H xs us Q I r h;obtain⟨p,bs,rfl,hq,q⟩:=h;obtain⟨u,rfl,ru⟩:=vals1 r;cases ru;obtain⟨its,rv,pl,hz⟩:=I.list hq;have hl:s.heap.IsList p its.toArray:=pl.isList;have hlen:its.length=bs.length:=by rw[← rv.length,List.length_map]
 refine call_all_walk (wpAny_pyIter_list hl ?_);have hpu:∀ b o,s.heap.get? b=some o→(s.heap.push {cls:=.type "list_iterator",data:=.fields #[.ref p,.int 0 0]}).get? b=some o:=fun b o e=>Heap.get?_push_of_some _ e
 have hne:p≠s.heap.objs.size:=by
  obtain⟨o,ho,_⟩:=hl;exact Nat.ne_of_lt (Heap.lt_size ho)
 refine⟨_,_,_,_,_,_,fun i=>bs.getD i true,rfl,Walks.list (prog:=X.prog) (w:=X.w) (A:=X.A.in1) hh s.heap.objs.size p hne its.toArray,⟨⟨_,Heap.get?_push_size _ rfl,rfl,rfl⟩,hl.at fun o e=>hpu _ _ e⟩,?_,?_⟩
 ·intro i v s' Q' E' hP hQ;have:v=Value.bool (bs.getD i true):=bools_get rv i v (by simpa using hP);subst this;exact wpAny_truthy_bool hQ
 ·intro h' tk hk;have e:(List.range its.toArray.size).all (fun i=>bs.getD i true)=bs.all id:=by rw[List.size_toArray,hlen];exact range_all bs
  rw[e];refine⟨.bl _,H,I.kept fun b o eb=>hk b o (fun hm=>?_) (hpu b o eb),rfl,q⟩;rw[List.mem_singleton.mp hm] at eb;exact absurd (Heap.lt_size eb) (Nat.lt_irrefl _)
theorem allK (K:PySem.W.Frag)(hh:X.A.handled=none)(h:X.K=K:=by rfl):CallR X (.builtin "all") (cAll K):=by subst h;exact call_allB hh
end
end L2
end
section
set_option Elab.async false
set_option linter.all false
set_option maxRecDepth 100000
namespace L2
open PySem
def mm (a b:Int):Int×Int:=(if b<a then b else a,if b>a then b else a)
inductive Grow (ts:List (Int×Int)):List Int→List (Int×Int)→Prop where
 | one (s:Int):Grow ts [s] []
 | add {ins:List Int} {us:List (Int×Int)} {a b:Int} (h:Grow ts ins us) (ha:a∈ins) (hb:b∉ins) (hn:b∈nb ts a):Grow ts (ins++[b]) (us++[mm a b])
section
variable {n:Int}{ts us:List (Int×Int)}{ins:List Int}
theorem mm_mem (hok:TsOk n ts){a b:Int}(h:b∈nb ts a):mm a b∈ts:=by
 rcases mem_nb.mp h with q | ⟨q,_⟩
 ·have:=hok _ q;dsimp only at this;have e:mm a b=(a,b):=by unfold mm;rw[if_neg (by omega),if_pos (by omega)]
  rw[e];exact q
 ·have:=hok _ q;dsimp only at this;have e:mm a b=(b,a):=by unfold mm;rw[if_pos (by omega),if_neg (by omega)]
  rw[e];exact q
theorem Grow.len (g:Grow ts ins us):ins.length=us.length+1:=by
 induction g with
 | one s=>rfl
 | add h _ _ _ ih=>rw[List.length_append,List.length_append,ih];rfl
theorem Grow.nd (g:Grow ts ins us):ins.Nodup:=by
 induction g with
 | one s=>simp
 | add h _ hb _ ih =>
  rw[List.nodup_append];exact⟨ih,by simp,fun a ha b hb' e=>by simp at hb';subst hb';subst e;exact hb ha⟩
theorem Grow.ends (g:Grow ts ins us):∀ t∈us,t.1∈ins∧t.2∈ins:=by
 induction g with
 | one s=>intro t ht;cases ht
 | @add ins us a b h ha hb hn ih =>
  intro t ht;rcases List.mem_append.mp ht with ht | ht
  ·exact⟨List.mem_append_left _ (ih t ht).1,List.mem_append_left _ (ih t ht).2⟩
  ·cases List.mem_singleton.mp ht;have h1:a∈ins++[b]:=List.mem_append_left _ ha;have h2:b∈ins++[b]:=List.mem_append_right _ (List.mem_singleton.mpr rfl);unfold mm;dsimp only;constructor
   ·split<;>assumption
   ·split<;>assumption
theorem Grow.sub (g:Grow ts ins us)(hok:TsOk n ts):∀ t∈us,t∈ts:=by
 induction g with
 | one s=>intro t ht;cases ht
 | add h ha hb hn ih =>
  intro t ht;rcases List.mem_append.mp ht with ht | ht
  ·exact ih t ht
  ·cases List.mem_singleton.mp ht;exact mm_mem hok hn
theorem Grow.tnd (g:Grow ts ins us):us.Nodup:=by
 induction g with
 | one s=>exact List.nodup_nil
 | @add ins us a b h ha hb hn ih =>
  rw[List.nodup_append];refine⟨ih,by simp,fun t ht u hu e=>?_⟩;simp at hu;subst hu;subst e;have:=h.ends _ ht;unfold mm at this;dsimp only at this;obtain⟨q1,q2⟩:=this;by_cases hc:b<a
  ·rw[if_pos hc] at q1;exact hb q1
  ·rw[if_neg hc] at q1;by_cases hd:b>a
   ·rw[if_pos hd] at q2;exact hb q2
   ·have:a=b:=by omega
    subst this;exact hb ha
theorem Grow.rng (g:Grow ts ins us)(hok:TsOk n ts)(h0:∀ x∈ins.head?,0≤x∧x<n):∀ x∈ins,0≤x∧x<n:=by
 induction g with
 | one s=>intro x hx;rw[List.mem_singleton.mp hx];exact h0 s rfl
 | @add ins us a b h ha hb hn ih =>
  have hne:ins≠[]:=fun e=>by subst e;cases ha
  have h0':∀ x∈ins.head?,0≤x∧x<n:=fun x hx=>h0 x (by rw[List.head?_append,hx];rfl)
  intro x hx;rcases List.mem_append.mp hx with hx | hx
  ·exact ih h0' x hx
  ·cases List.mem_singleton.mp hx;have:=nb_rng hok hn;omega
theorem Grow.open (g:Grow ts ins us)(hw:IsWeb n ts)(hr:∀ x∈ins,0≤x∧x<n)(hl:(ins.length:Int)<n):∃ a∈ins,∃ b∈nb ts a,b∉ins:=by
 apply Classical.byContradiction;intro hno;have hcl:∀ a∈ins,∀ b∈nb ts a,b∈ins:=fun a ha b hb=>Classical.byContradiction fun hn=>hno ⟨a,ha,b,hb,hn⟩
 obtain⟨s,hs⟩:∃ s,s∈ins:=by
  cases ins with
  | nil=>have:=g.len;simp at this
  | cons x r=>exact⟨x,List.mem_cons_self ..⟩
 have hS:∀ t∈ts,(t.1∈ins↔t.2∈ins):=fun t ht=>by
  obtain⟨h0,h1,h2⟩:=hw.rng t ht;have e1:t.2∈nb ts t.1:=mem_nb.mpr (.inl ht);exact⟨fun h=>hcl _ h _ e1,fun h=>hcl _ h _ ((nb_sym hw.rng).mp e1)⟩
 have hall:=fun v h0 h1=>hw.conn (fun x=>x∈ins) hS s v (hr s hs).1 (hr s hs).2 h0 h1 hs
 have hsub:rInts 0 n.toNat ⊆ ins:=fun x hx=>by
  have:=mem_rInts.mp hx;exact hall x this.1 (by omega)
 have:=nd_sub (rising_nd (rInts_lt n.toNat)) hsub;rw[rInts_length] at this;omega
structure IsTree (n:Int)(ts us:List (Int×Int)):Prop where
 grown:∃ ins gs,Grow ts ins gs∧us.Perm gs∧(ins.length:Int)=n∧∀ x∈ins,0≤x∧x<n
 srt:us.Pairwise Lex
 sub:∀ t∈us,t∈ts
theorem IsTree.len (h:IsTree n ts us):(us.length:Int)+1=n:=by
 obtain⟨ins,gs,g,p,hl,_⟩:=h.grown;have:=g.len;rw[p.length_eq];omega
theorem IsTree.ok (h:IsTree n ts us)(hok:TsOk n ts):TsOk n us:=fun t ht=>hok t (h.sub t ht)
theorem lex_srt {us:List (Int×Int)}(hs:us.Pairwise fun x y=>HT.lexLt (tl y) (tl x)=false)(hn:us.Nodup):us.Pairwise Lex:=by
 refine (List.Pairwise.and hs hn).imp ?_;rintro a b ⟨h1,h2⟩;have h3:¬ Lex b a:=fun e=>by rw[lex_iff.mpr e] at h1;cases h1
 unfold Lex at h3 ⊢;have h4:¬ (a.1=b.1∧a.2=b.2):=fun e=>h2 (by cases a;cases b;simp at e;rw[e.1,e.2])
 omega
theorem grow_tree {gs:List (Int×Int)}(g:Grow ts ins gs)(hok:TsOk n ts)(hl:(ins.length:Int)=n)(hr:∀ x∈ins,0≤x∧x<n)(p:us.Perm gs)(hs:us.Pairwise fun x y=>HT.lexLt (tl y) (tl x)=false):IsTree n ts us :=
 ⟨⟨ins,gs,g,p,hl,hr⟩,lex_srt hs (p.nodup_iff.mpr g.tnd),fun t ht=>g.sub hok t (p.mem_iff.mp ht)⟩
end
theorem RowsAt.put {H:Hp}{p x:Addr}{as:List Addr}{rows:List (List Int)}{o:HO}(h:RowsAt H p as rows)(h1:x≠p)(h2:x∉as):RowsAt (upd H x o) p as rows :=
 h.mono fun a u q e=>by
  rw[upd_ne (fun z=>by subst z;exact q.elim (fun z=>h1 z) h2)];exact e
def opn (ts:List (Int×Int))(ins:List Int)(a:Int):List Int:=(nb ts a).filter fun k=>!decide (k∈ins)
def rdy (ts:List (Int×Int))(ins:List Int):List Int:=ins.filter fun a=>!decide (opn ts ins a=[])
end L2
end
section
set_option Elab.async false
set_option linter.all false
set_option maxRecDepth 100000
namespace L2
open PySem PySem.Spec PyProof.Rows
section
variable {X:Cx}
def rInD (K:PySem.W.Frag)(neg:Bool):R2:=fun x y H Q=>∃ (d:PyData) (es:List PyData),Dt K H x d∧Dt K H y (.tuple es)∧d.canLay0=true∧PyData.canLayAll0 es=true∧PyData.depthAll es≤8 ∧
 Q (.bl (if neg then !(es.any fun e=>PyData.eqv e d) else es.any fun e=>PyData.eqv e d)) H
theorem op_inD (hu:X.A.units+64<cLine):OpR X (compareOp .In) (rInD X.K false):=by
 intro pins s σ H x y v u Q I rx ry h;obtain⟨d,es,hd,he,c1,c2,dp,q⟩:=h;obtain⟨as,r1⟩:=I.reads hd rx;obtain⟨bs,r2⟩:=I.reads he ry;exact SeqAt.in_tuple_reads r2 r1 c2 c1 (by have:=Nat.min_le_left (PyData.depthAll es) d.depth;omega) ⟨.bl _,H,I,rfl,q⟩
theorem op_notInD (hu:X.A.units+64<cLine):OpR X (compareOp .NotIn) (rInD X.K true):=by
 intro pins s σ H x y v u Q I rx ry h;obtain⟨d,es,hd,he,c1,c2,dp,q⟩:=h;obtain⟨as,r1⟩:=I.reads hd rx;obtain⟨bs,r2⟩:=I.reads he ry;exact SeqAt.notIn_tuple_reads r2 r1 c2 c1 (by have:=Nat.min_le_left (PyData.depthAll es) d.depth;omega) ⟨.bl _,H,I,rfl,q⟩
theorem notInDK (K:PySem.W.Frag)(hu:X.A.units+64<cLine)(h:X.K=K:=by rfl):OpR X (compareOp .NotIn) (rInD K true):=by subst h;exact op_notInD hu
end
theorem TsAt.ls {H:Hp}{q:Addr}{ts:List (Int×Int)}(h:TsAt H q ts):LsAt H q (ts.map tl):=by
 obtain⟨ps,e,hp⟩:=h;exact⟨ps,e,hp.to,hp.eq⟩
theorem any_tl (ts:List (Int×Int))(t:Int×Int):((ts.map tl).map tI).any (fun e=>PyData.eqv e (.tuple ([t.1,t.2].map PyData.int)))=decide (t∈ts):=by
 rw[List.map_map,List.any_map,Bool.eq_iff_iff,List.any_eq_true,decide_eq_true_iff];constructor
 ·rintro⟨u,hu,e⟩;have e':PyData.eqv (.tuple ([u.1,u.2].map PyData.int)) (.tuple ([t.1,t.2].map PyData.int))=true:=e;rw[eqv_tupI] at e';have:=of_decide_eq_true e';injection this with h1 h2
  injection h2 with h2
  have:u=t:=by cases u;cases t;simp at h1 h2;rw[h1,h2]
  rw[← this];exact hu
 ·intro h;refine⟨t,h,?_⟩;show PyData.eqv (.tuple ([t.1,t.2].map PyData.int)) (.tuple ([t.1,t.2].map PyData.int))=true;rw[eqv_tupI];exact decide_eq_true rfl
theorem notin_tie {K:PySem.W.Frag}{H:Hp}{a p:Addr}{t:Int×Int}{ts:List (Int×Int)}{Q:VK}(h1:SqT K H a ([t.1,t.2].map V.int))(h2:TsAt H p ts)(q:Q (.bl (!decide (t∈ts))) H):rInD K true (.ref a) (.ref p) H Q:=by
 refine⟨_,_,Dt.tupI h1,h2.ls.dt,?_,?_,?_,?_⟩
 ·rw[PyData.canLay0,canLay_ints]
 ·exact canLay_tI _
 ·exact Nat.le_trans (depth_tI _) (by decide)
 ·rw[any_tl];exact q
end L2
namespace L2
open PySem PySem.Spec PyProof.Rows PySem.W
section
variable {X:Cx}{x y:Str}{e1 e2 e3:Expr}{p p' pos pos':Pos}{t:TA}
end
end L2
end
section
set_option Elab.async false
set_option linter.all false
set_option maxRecDepth 100000
namespace HT
open PySem PyProof.Rows
section
variable {prog:Program}{w:World}{A:Around}{E:Value→Shared→Prop}{s:Shared}
end
end HT
namespace L2
open PySem PySem.Spec PyProof.Rows
section
variable {X:Cx}{e st:Expr}{te ts:TE}{p2 pos:Pos}
end
end L2
end
section
set_option Elab.async false
set_option linter.all false
set_option maxRecDepth 100000
namespace Srt
open PySem PyProof.Rows
section
variable {prog:Program}{w:World}{A:Around}{E:Value→Shared→Prop}{s:Shared}{z TI TO i1 i2 l1 l2:Addr}{n1 n2 k:Nat}{P1 P2:Nat→Value→Prop}{S1 S2:Nat→Heap→Prop}{a b:Value}
end
section
variable {prog:Program}{w:World}{A:Around}{E:Value→Shared→Prop}{s:Shared}
end
end Srt
end
section
set_option Elab.async false
set_option linter.all false
set_option maxRecDepth 100000
namespace L2
open PySem PySem.Spec PyProof.Rows
section
variable {X:Cx}{K:PySem.W.Frag}{elts:List Expr}{k:Nat}{tpos p pos:Pos}{l m:Expr}{t:TA}{y:Str}
end
end L2
end
section
set_option maxHeartbeats 8000000
local macro_rules | `(tactic| omega)=>`(tactic| first | lia | omega +splitDisjunctions)
set_option Elab.async false
set_option linter.all false
set_option maxRecDepth 100000
namespace L2
open PySem
theorem mm_comm {a b:Int}(h:a≠b):mm a b=mm b a:=by
 unfold mm;by_cases h1:b<a
 ·rw[if_pos h1,if_neg (show ¬ b>a by omega),if_neg (show ¬ a<b by omega),if_pos (show a>b by omega)]
 ·rw[if_neg h1,if_pos (show b>a by omega),if_pos (show a<b by omega),if_neg (show ¬ a>b by omega)]
theorem mm_cases {a b:Int}(h:a≠b):(b<a∧mm a b=(b,a))∨(a<b∧mm a b=(a,b)):=by
 unfold mm;by_cases h1:b<a
 ·exact .inl ⟨h1,by rw[if_pos h1,if_neg (show ¬ b>a by omega)]⟩
 ·exact .inr ⟨by omega,by rw[if_neg h1,if_pos (show b>a by omega)]⟩
theorem Grow.root {ts gs:List (Int×Int)}{ins:List Int}(G:Grow ts ins gs):∀ g∈ins,∃ (par:Int→Int) (rank:Int→Nat),
  (∀ v∈ins,v≠g→par v∈ins∧rank (par v)<rank v∧mm v (par v)∈gs)∧∀ t∈gs,(t.1≠g∧t.2=par t.1)∨(t.2≠g∧t.1=par t.2):=by
 induction G with
 | one s =>
  intro g hg;exact⟨id,fun _=>0,fun v hv hn=>absurd ((List.mem_singleton.mp hv).trans (List.mem_singleton.mp hg).symm) hn,fun t ht=>by cases ht⟩
 | @add ins us a b h ha hb hn ih =>
  have hab:a≠b:=fun e=>hb (e ▸ ha)
  intro g hg;rcases List.mem_append.mp hg with hg | hg
  ·obtain⟨par,rank,h1,h2⟩:=ih g hg;have hgb:g≠b:=fun e=>hb (e ▸ hg)
   refine⟨fun v=>if v=b then a else par v,fun v=>if v=b then rank a+1 else rank v,fun v hv hvg=>?_,fun t ht=>?_⟩
   ·rcases List.mem_append.mp hv with hv | hv
    ·have hvb:v≠b:=fun e=>hb (e ▸ hv)
     obtain⟨q1,q2,q3⟩:=h1 v hv hvg;have hpb:par v≠b:=fun e=>hb (e ▸ q1)
     dsimp only;rw[if_neg hvb,if_neg hpb,if_neg hvb];exact⟨List.mem_append_left _ q1,q2,List.mem_append_left _ q3⟩
    ·obtain rfl:=List.mem_singleton.mp hv;dsimp only;rw[if_pos rfl,if_neg hab,if_pos rfl];exact⟨List.mem_append_left _ ha,Nat.lt_succ_self _,List.mem_append_right _ (by rw[mm_comm hab.symm];exact List.mem_singleton.mpr rfl)⟩
   ·rcases List.mem_append.mp ht with ht | ht
    ·obtain⟨e1,e2⟩:=h.ends t ht;have n1:t.1≠b:=fun e=>hb (e ▸ e1)
     have n2:t.2≠b:=fun e=>hb (e ▸ e2)
     dsimp only;rw[if_neg n1,if_neg n2];exact h2 t ht
    ·obtain rfl:=List.mem_singleton.mp ht;rcases mm_cases hab with ⟨_,e⟩ | ⟨_,e⟩
     ·rw[e];dsimp only;rw[if_pos rfl];exact .inl ⟨hgb.symm,rfl⟩
     ·rw[e];dsimp only;rw[if_pos rfl];exact .inr ⟨hgb.symm,rfl⟩
  ·obtain rfl:=List.mem_singleton.mp hg;obtain⟨par,rank,h1,h2⟩:=ih a ha;refine⟨fun v=>if v=a then g else par v,fun v=>if v=g then 0 else rank v+1,fun v hv hvg=>?_,fun t ht=>?_⟩
   ·have hv':v∈ins:=(List.mem_append.mp hv).resolve_right fun e=>hvg (List.mem_singleton.mp e)
    by_cases hva:v=a
    ·subst hva;dsimp only;rw[if_pos rfl,if_pos rfl,if_neg hvg];exact⟨List.mem_append_right _ (List.mem_singleton.mpr rfl),Nat.succ_pos _,List.mem_append_right _ (List.mem_singleton.mpr rfl)⟩
    ·obtain⟨q1,q2,q3⟩:=h1 v hv' hva;have hpg:par v≠g:=fun e=>hb (e ▸ q1)
     dsimp only;rw[if_neg hva,if_neg hpg,if_neg hvg];exact⟨List.mem_append_left _ q1,Nat.succ_lt_succ q2,List.mem_append_left _ q3⟩
   ·rcases List.mem_append.mp ht with ht | ht
    ·obtain⟨e1,e2⟩:=h.ends t ht;have n1:t.1≠g:=fun e=>hb (e ▸ e1)
     have n2:t.2≠g:=fun e=>hb (e ▸ e2)
     dsimp only;rcases h2 t ht with ⟨q1,q2⟩ | ⟨q1,q2⟩
     ·rw[if_neg q1];exact .inl ⟨n1,q2⟩
     ·rw[if_neg q1];exact .inr ⟨n2,q2⟩
    ·obtain rfl:=List.mem_singleton.mp ht;rcases mm_cases hab with ⟨_,e⟩ | ⟨_,e⟩
     ·rw[e];dsimp only;rw[if_pos rfl];exact .inr ⟨hab,rfl⟩
     ·rw[e];dsimp only;rw[if_pos rfl];exact .inl ⟨hab,rfl⟩
structure Rooted (n:Int)(us:List (Int×Int))(g:Int)(par:Int→Int)(rank:Int→Nat):Prop where
 g0:0≤g
 g1:g<n
 up:∀ v,0≤v→v<n→v≠g→0≤par v∧par v<n∧rank (par v)<rank v∧par v∈nb us v
 edge:∀ v u,u∈nb us v→(v≠g∧u=par v)∨(u≠g∧par u=v)
theorem mem_nb_iff {n:Int}{us:List (Int×Int)}(hok:TsOk n us){v x:Int}:x∈nb us v↔(v,x)∈us∨(x,v)∈us:=by
 rw[mem_nb];constructor
 ·rintro (h | ⟨h,_⟩)
  ·exact .inl h
  ·exact .inr h
 ·rintro (h | h)
  ·exact .inl h
  ·exact .inr ⟨h,.inl (by have:=hok _ h;dsimp only at this;omega)⟩
theorem IsTree.rooted {n:Int}{ts us:List (Int×Int)}(T:IsTree n ts us)(hok:TsOk n ts){g:Int}(g0:0≤g)(g1:g<n):∃ par rank,Rooted n us g par rank:=by
 obtain⟨ins,gs,G,p,hl,hr⟩:=T.grown;have hall:∀ v,0≤v→v<n→v∈ins:=fun v h0 h1=>by
  apply Classical.byContradiction;intro hv;have hnd:(v::ins).Nodup:=List.nodup_cons.mpr ⟨hv,G.nd⟩;have:=nd_len (n:=n) hnd fun x hx=>by
   rcases List.mem_cons.mp hx with rfl | hx
   ·exact⟨h0,h1⟩
   ·exact hr x hx
  rw[List.length_cons] at this;omega
 obtain⟨par,rank,h1,h2⟩:=G.root g (hall g g0 g1);have hok':=T.ok hok;refine⟨par,rank,g0,g1,fun v v0 v1 hv=>?_,fun v u hu=>?_⟩
 ·obtain⟨q1,q2,q3⟩:=h1 v (hall v v0 v1) hv;have hm:mm v (par v)∈us:=p.mem_iff.mpr q3;have hne:v≠par v:=fun e=>by rw[← e] at q2;omega
  refine⟨(hr _ q1).1,(hr _ q1).2,q2,(mem_nb_iff hok').mpr ?_⟩;rcases mm_cases hne with ⟨_,e⟩ | ⟨_,e⟩
  ·rw[e] at hm;exact .inr hm
  ·rw[e] at hm;exact .inl hm
 ·rcases (mem_nb_iff hok').mp hu with h | h
  ·rcases h2 _ (p.mem_iff.mp h) with ⟨q1,q2⟩ | ⟨q1,q2⟩
   ·exact .inl ⟨q1,q2⟩
   ·exact .inr ⟨q1,q2.symm⟩
  ·rcases h2 _ (p.mem_iff.mp h) with ⟨q1,q2⟩ | ⟨q1,q2⟩
   ·exact .inr ⟨q1,q2.symm⟩
   ·exact .inl ⟨q1,q2⟩
def itp (par:Int→Int):Nat→Int→Int
 | 0,v=>v
 | i+1,v=>par (itp par i v)
def wayOf (par:Int→Int)(v:Int)(k:Nat):List Int:=(List.range (k+1)).map fun i=>itp par i v
section
variable {n g one:Int}{us:List (Int×Int)}{par:Int→Int}{rank:Int→Nat}
theorem Rooted.itp_in (R:Rooted n us g par rank)(o0:0≤one)(o1:one<n):∀ k,(∀ i,i<k→itp par i one≠g)→0≤itp par k one∧itp par k one<n
 | 0,_=>⟨o0,o1⟩
 | k+1,h=>by
  obtain⟨q0,q1⟩:=Rooted.itp_in R o0 o1 k fun i hi=>h i (by omega)
  have:=R.up _ q0 q1 (h k (Nat.lt_succ_self _));exact⟨this.1,this.2.1⟩
theorem Rooted.itp_rank (R:Rooted n us g par rank)(o0:0≤one)(o1:one<n){k:Nat}(h:∀ i,i<k→itp par i one≠g):∀ j i,i<j→j≤k→rank (itp par j one)<rank (itp par i one)
 | 0,i,hi,_=>absurd hi (Nat.not_lt_zero _)
 | j+1,i,hi,hj=>by
  obtain⟨q0,q1⟩:=R.itp_in o0 o1 j fun m hm=>h m (by omega)
  have h1:=(R.up _ q0 q1 (h j (by omega))).2.2.1;rcases Nat.lt_or_ge i j with h2 | h2
  ·exact Nat.lt_trans h1 (Rooted.itp_rank R o0 o1 h j i h2 (by omega))
  ·have:i=j:=by omega
   subst this;exact h1
theorem Rooted.reach (R:Rooted n us g par rank)(o0:0≤one)(o1:one<n){k:Nat}(h:∀ i,i<k→itp par i one≠g):k≤rank one:=by
 have:∀ j,j≤k→rank (itp par j one)+j≤rank one:=by
  intro j;induction j with
  | zero=>intro _;exact Nat.le_refl _
  | succ j ih =>
   intro hj;have:=R.itp_rank o0 o1 h (j+1) j (Nat.lt_succ_self _) hj;have:=ih (by omega);omega
 have:=this k (Nat.le_refl _);omega
theorem Rooted.nd (R:Rooted n us g par rank)(o0:0≤one)(o1:one<n){k:Nat}(h:∀ i,i<k→itp par i one≠g):(wayOf par one k).Nodup:=by
 unfold wayOf;refine List.pairwise_map.mpr ?_;refine List.Pairwise.imp_of_mem ?_ (List.pairwise_lt_range (n:=k+1));intro a b ha hb hab e;have:=R.itp_rank o0 o1 h b a hab (by have:=List.mem_range.mp hb;omega);rw[e] at this;omega
end
theorem ixN_at {m:Nat}{v:Int}(h0:0≤v)(h1:v<m):ixN m v=some v.toNat:=by
 unfold ixN;rw[if_pos h0,if_pos h1]
section
variable {n g p:Int}{us:List (Int×Int)}{par:Int→Int}{rank:Int→Nat}{vs ws:List Int}{j:Nat}
end
end L2
end
section
set_option Elab.async false
set_option linter.all false
set_option maxRecDepth 100000
namespace STab
open PySem PySem.SetTable
def tm (m:Nat):SetTable:={mask:=m,place:=#[],dummies:=#[],finger:=0,led:=true,moves:=0,plain:=true}
theorem advance_mask {t t':SetTable}(h:t.mask=t'.mask)(p:Probe):t.advance p=t'.advance p:=by unfold SetTable.advance;rw[h]
theorem adv_mask {t t':SetTable}(h:t.mask=t'.mask):∀ (n:Nat) (p:Probe),adv t n p=adv t' n p
 | 0,_=>rfl
 | n+1,p=>by show adv t n (t.advance p)=adv t' n (t'.advance p);rw[advance_mask h,adv_mask h n]
theorem start_mask {t t':SetTable}(h:t.mask=t'.mask)(x:Int):t.probeStart x=t'.probeStart x:=by unfold SetTable.probeStart;rw[h]
def pos (m:Nat)(h:Int)(k:Nat):Nat:=(adv (tm m) k ((tm m).probeStart h)).j
theorem pos_eq (t:SetTable)(h:Int)(k:Nat):(adv t k (t.probeStart h)).j=pos t.mask h k:=by
 unfold pos;rw[adv_mask (t:=t) (t':=tm t.mask) rfl,start_mask (t:=t) (t':=tm t.mask) rfl]
def Way (m:Nat)(h:Int)(j:Nat)(S:Nat→Prop):Prop:=∃ k,pos m h k=j∧∀ k',k'<k→S (pos m h k')
theorem Way.mono {m:Nat}{h:Int}{j:Nat}{S S':Nat→Prop}(w:Way m h j S)(hs:∀ x,S x→S' x):Way m h j S':=let ⟨k,e,q⟩:=w;⟨k,e,fun k' hk=>hs _ (q k' hk)⟩
def Met (t:SetTable)(es:List (Int×Value)):Prop:=∀ e j,(e,j)∈es.zip t.place.toList→Way t.mask e.1 j fun x=>x∈t.place.toList
theorem zip_ins {α β:Type}{l:List α}{m:List β}(h:l.length=m.length)(p:Nat)(a:α)(b:β)(x:α×β) :
  x∈(l.take p++a::l.drop p).zip (m.take p++b::m.drop p)↔x∈l.zip m∨x=(a,b):=by
 rw[List.zip_append (by rw[List.length_take,List.length_take,h]),List.zip_cons_cons,List.mem_append,List.mem_cons];have e:l.zip m=(l.take p).zip (m.take p)++(l.drop p).zip (m.drop p):=by
  rw[← List.zip_append (by rw[List.length_take,List.length_take,h]),List.take_append_drop,List.take_append_drop]
 rw[e,List.mem_append];constructor
 ·rintro (h | h | h)
  ·exact .inl (.inl h)
  ·exact .inr h
  ·exact .inl (.inr h)
 ·rintro ((h | h) | h)
  ·exact .inl h
  ·exact .inr (.inr h)
  ·exact .inr (.inl h)
theorem Met.put {t:SetTable}{es:Array (Int×Value)}{led:Bool}(o:Ok t es.size led)(M:Met t es.toList){h:Int}{x:Value}{j:Nat}(w:Way t.mask h j fun y=>y∈t.place.toList) :
  Met (t.put j).1 (insertAt es (t.put j).2 (h,x)).toList:=by
 intro e i hm;have hp:(t.put j).1.place.toList=t.place.toList.take (below t.place j)++j::t.place.toList.drop (below t.place j):=toList_insertAt ..;have he:(insertAt es (t.put j).2 (h,x)).toList=es.toList.take (below t.place j)++(h,x)::es.toList.drop (below t.place j):=toList_insertAt ..;rw[hp,he,zip_ins (by rw[Array.length_toList,Array.length_toList,o.size])] at hm;have up:∀ y,y∈t.place.toList→y∈(t.put j).1.place.toList:=fun y hy=>by
  rw[hp];rw[← List.take_append_drop (below t.place j) t.place.toList] at hy;rcases List.mem_append.mp hy with hy | hy
  ·exact List.mem_append_left _ hy
  ·exact List.mem_append_right _ (List.mem_cons_of_mem _ hy)
 show Way t.mask e.1 i _;rcases hm with hm | hm
 ·exact (M e i hm).mono up
 ·injection hm with h1 h2
  subst h1;subst h2;exact w.mono up
theorem run_adv {t:SetTable}:∀ (m:Nat) (p:Probe),m≤p.more→(adv t m p).j=p.j+m
 | 0,p,_=>rfl
 | m+1,p,h=>by
  have e:t.advance p={p with j:=p.j+1,more:=p.more-1}:=by unfold SetTable.advance;rw[if_pos (by omega)]
  show (adv t m (t.advance p)).j=_;rw[e,run_adv m _ (by simp only;omega)];simp only;omega
theorem next_run {t:SetTable}:∀ (m:Nat) (p:Probe),p.more=m→adv t (m+1) p={p with j:=(leap t.mask p.i p.perturb).1,more:=runEnd t.mask (leap t.mask p.i p.perturb).1-(leap t.mask p.i p.perturb).1,i:=(leap t.mask p.i p.perturb).1,perturb:=(leap t.mask p.i p.perturb).2}
 | 0,p,h=>by
  show t.advance p=_;unfold SetTable.advance;rw[if_neg (by omega)]
 | m+1,p,h=>by
  have e:t.advance p={p with j:=p.j+1,more:=p.more-1}:=by unfold SetTable.advance;rw[if_pos (by omega)]
  show adv t (m+1) (t.advance p)=_;rw[e];exact next_run m {p with j:=p.j+1,more:=p.more-1} (by simp only;omega)
theorem find_first {n:Nat}{f:Nat→Bool}{k:Nat}(h:(List.range n).find? f=some k):f k=true∧k<n∧∀ m,m<k→f m=false:=by
 rw[List.find?_range_eq_some] at h;exact⟨h.1,List.mem_range.mp h.2.1,fun m hm=>by have:=h.2.2 m hm;simpa using this⟩
theorem free_path {t:SetTable}{owner:Array (Option Nat)}:∀ (fuel:Nat) (p:Probe) (j:Nat),p.i≤t.mask→p.j=p.i→p.more=runEnd t.mask p.i-p.i→layClean.free t.mask owner fuel p.i p.perturb=some j →
  ∃ k,(adv t k p).j=j∧∀ k',k'<k→(owner.getD (adv t k' p).j (some 0)).isNone=false
 | 0,p,j,_,_,_,h=>by simp[layClean.free] at h
 | fuel+1,p,j,hi,hj,hm,h=>by
  have hr:=runEnd_le hi;unfold layClean.free at h;cases hf:(List.range (runEnd t.mask p.i+1-p.i)).find? (fun k=>(owner.getD (p.i+k) (some 0)).isNone) with
  | some k =>
   rw[hf] at h;obtain⟨h1,h2,h3⟩:=find_first hf;have ej:p.i+k=j:=Option.some.inj h;refine⟨k,by rw[run_adv k p (by omega),hj];exact ej,fun k' hk=>?_⟩;rw[run_adv k' p (by omega),hj];exact h3 k' hk
  | none =>
   rw[hf] at h;have hn:∀ k,k≤p.more→(owner.getD (p.i+k) (some 0)).isNone=false:=fun k hk=>by
    have:=List.find?_eq_none.mp hf k (List.mem_range.mpr (by omega));exact Bool.eq_false_iff.mpr this
   have hq:=next_run (t:=t) p.more p rfl;obtain⟨k,e,hb⟩:=free_path fuel (adv t (p.more+1) p) j (by rw[hq];exact leaps_fst t.mask 1 (p.i,p.perturb) hi) (by rw[hq]) (by rw[hq]) (by rw[hq];exact h);refine⟨p.more+1+k,by rw[adv_add];exact e,fun k' hk=>?_⟩;rcases Nat.lt_or_ge k' (p.more+1) with hlt | hge
   ·rw[run_adv k' p (by omega),hj];exact hn k' (by omega)
   ·have e2:k'=p.more+1+(k'-(p.more+1)):=by omega
    rw[e2,adv_add];exact hb _ (by omega)
def OwnMet (mask:Nat)(hs:Nat→Int)(owner:Array (Option Nat)):Prop:=∀ j k,owner.getD j none=some k→Way mask (hs k) j fun x=>(owner.getD x none).isSome=true
theorem getD_some {owner:Array (Option Nat)}{x:Nat}(hx:x<owner.size)(h:(owner.getD x (some 0)).isNone=false):(owner.getD x none).isSome=true:=by
 simp[Array.getD,hx] at h ⊢;cases h2:owner[x] with
 | none=>rw[h2] at h;cases h
 | some y=>rfl
theorem layF_met {mask:Nat}(F:Full (mask+1)):∀ (hl:List Int) (done:List Int) (owner:Array (Option Nat)),owner.size=mask+1→(own (mask+1) owner).Perm (List.range done.length)→done.length+hl.length≤mask→OwnMet mask (fun i=>(done++hl).getD i 0) owner →
  ∃ owner',hl.foldl (layF mask) (some (owner,done.length))=some (owner',done.length+hl.length)∧owner'.size=mask+1∧(own (mask+1) owner').Perm (List.range (done.length+hl.length))∧OwnMet mask (fun i=>(done++hl).getD i 0) owner'
 | [],done,owner,h1,h2,_,h4=>⟨owner,rfl,h1,h2,h4⟩
 | h::hl,done,owner,h1,h2,h3,h4=>by
  rw[List.length_cons] at h3;obtain⟨o1,e1,s1,p1⟩:=layF_fold F [h] owner done.length h1 h2 (by simp;omega);have hstep:layF mask (some (owner,done.length)) h=some (o1,done.length+1):=e1;obtain⟨j,hj,eo⟩:∃ j,layClean.free mask owner (turns mask) (bits h % (mask+1)) (bits h)=some j∧o1=owner.setIfInBounds j (some done.length):=by
   have e2:(do let j ← layClean.free mask owner (turns mask) (bits h % (mask+1)) (bits h);pure (owner.setIfInBounds j (some done.length),done.length+1))=some (o1,done.length+1):=hstep;cases hf:layClean.free mask owner (turns mask) (bits h % (mask+1)) (bits h) with
   | none=>rw[hf] at e2;cases e2
   | some j =>
    rw[hf] at e2;have e3:(owner.setIfInBounds j (some done.length),done.length+1)=(o1,done.length+1):=Option.some.inj e2;injection e3 with e4 _
    exact⟨j,rfl,e4.symm⟩
  have g:=good_start (tm mask) h;obtain⟨k,ek,hb⟩:=free_path (t:=tm mask) (owner:=owner) (turns mask) ((tm mask).probeStart h) j g.i rfl rfl hj;have pin:∀ k,pos mask h k<owner.size:=fun k=>by
   have:=(g.adv k).j;rw[h1];show (adv (tm mask) k ((tm mask).probeStart h)).j<mask+1;have hm:(tm mask).mask=mask:=rfl;omega
  have upS:∀ x,(owner.getD x none).isSome=true→(o1.getD x none).isSome=true:=fun x hx=>by
   rw[eo];by_cases hxs:x<owner.size
   ·by_cases hxj:j=x
    ·subst hxj;simp[Array.getD,hxs]
    ·simp[Array.getD,hxs,Array.getElem_setIfInBounds,hxj] at hx ⊢;exact hx
   ·simp[Array.getD,hxs] at hx
  have M1:OwnMet mask (fun i=>(done++h::hl).getD i 0) o1:=by
   intro x i hx;by_cases hxj:j=x
   ·subst hxj;have hjs:j<owner.size:=by rw[← ek];exact pin k
    rw[eo] at hx;simp[Array.getD,hjs] at hx;subst hx;have eh:(done++h::hl).getD done.length 0=h:=by simp[List.getD]
    show Way mask ((done++h::hl).getD done.length 0) j _;rw[eh];exact⟨k,ek,fun k' hk=>upS _ (getD_some (pin k') (hb k' hk))⟩
   ·have hx':owner.getD x none=some i:=by
     rw[eo] at hx;by_cases hxs:x<owner.size
     ·simp[Array.getD,hxs,Array.getElem_setIfInBounds,hxj] at hx ⊢;exact hx
     ·simp[Array.getD,hxs] at hx
    exact (h4 x i hx').mono upS
  have ed:done++h::hl=(done++[h])++hl:=by simp
  have ld:(done++[h]).length=done.length+1:=by simp
  obtain⟨o',e',s',p',m'⟩:=layF_met F hl (done++[h]) o1 s1 (by rw[ld];exact p1) (by rw[ld];omega) (by rw[← ed];exact M1);rw[List.foldl_cons,hstep];rw[ld] at e' p';refine⟨o',?_,s',?_,?_⟩
  ·rw[e',List.length_cons,show done.length+1+hl.length=done.length+(hl.length+1) by omega]
  ·rw[List.length_cons,show done.length+(hl.length+1)=done.length+1+hl.length by omega];exact p'
  ·rw[ed];exact m'
theorem layClean_met {mask:Nat}(F:Full (mask+1))(hs:Array Int)(h:hs.size≤mask):∃ owner,layClean mask hs=some owner∧owner.size=mask+1∧(own (mask+1) owner).Perm (List.range hs.size)∧OwnMet mask (fun i=>hs.toList.getD i 0) owner:=by
 have h0:own (mask+1) (Array.replicate (mask+1) none)=[]:=by
  unfold own;refine List.filterMap_eq_nil_iff.mpr fun x hx=>?_
  have:x<mask+1:=List.mem_range.mp hx;simp[Array.getD,this]
 obtain⟨o,e,s,p,m⟩:=layF_met F hs.toList [] (Array.replicate (mask+1) none) (by simp) (by rw[h0];exact .nil) (by simpa using h) (fun j k hx=>by
  by_cases hj:j<mask+1
  ·simp[Array.getD,hj] at hx
  ·simp[Array.getD,hj] at hx)
 rw[List.length_nil,Nat.zero_add,Array.length_toList] at e p;refine⟨o,?_,s,p,m⟩;unfold layClean;have:hs.foldl (layF mask) (some (Array.replicate (mask+1) none,0))=some (o,hs.size):=by rw[← Array.foldl_toList];exact e
 show (hs.foldl (layF mask) (some (Array.replicate (mask+1) none,0))).map (·.1)=some o;rw[this];rfl
theorem pick_live {es:Array (Int×Value)}:∀ {live:List (Nat×Nat)},(∀ q∈live,q.2<es.size)→(live.map (·.2)).filterMap (fun i=>es[i]?)=live.map fun q=>es.getD q.2 (0,.none)
 | [],_=>rfl
 | q::live,h=>by
  have hq:=h q (List.mem_cons_self ..);rw[List.map_cons,List.filterMap_cons_some (Array.getElem?_eq_getElem hq),pick_live fun z hz=>h z (List.mem_cons_of_mem _ hz),List.map_cons];simp[Array.getD,hq]
theorem zip_live {es:Array (Int×Value)}:∀ {live:List (Nat×Nat)} {e:Int×Value} {j:Nat},(e,j)∈(live.map fun q=>es.getD q.2 (0,.none)).zip (live.map (·.1))→∃ q∈live,e=es.getD q.2 (0,.none)∧j=q.1
 | [],e,j,h=>by simp at h
 | q::live,e,j,h=>by
  rw[List.map_cons,List.map_cons,List.zip_cons_cons] at h;rcases List.mem_cons.mp h with h | h
  ·injection h with h1 h2;exact⟨q,List.mem_cons_self ..,h1,h2⟩
  ·obtain⟨z,hz,e1,e2⟩:=zip_live h;exact⟨z,List.mem_cons_of_mem _ hz,e1,e2⟩
theorem relaid_met {t:SetTable}{es:Array (Int×Value)}{n:Nat}{led:Bool}(o:Ok1 t n led)(hes:es.size=n)(hf:t.tooFull=true)(hn:n≤300) :
  ∃ t' order,t.relaid (es.map (·.1)) (grown es.size)=some (t',order)∧(order.filterMap (es[·]?)).size=es.size∧Ok t' n led∧(order.filterMap (es[·]?)).toList.Perm es.toList∧Met t' (order.filterMap (es[·]?)).toList∧sizeAbove (grown es.size)≤512:=by
 have hfill:t.fill=n:=by unfold SetTable.fill;rw[o.dum,o.size];rfl
 have hg:∃ M,sizeAbove (grown es.size)=M+1∧Full (M+1)∧n*5<M*3∧(M=7∨M=31∨M=127∨M=511):=by
  have h1:=o.last;unfold SetTable.tooFull at hf;rw[hfill] at hf;have hf':t.mask*3≤n*5:=by simpa using hf
  rw[hes];rcases o.mask with h | h | h | h
  ·have:n=5:=by omega
   subst this;exact⟨31,by decide +kernel,full32,by decide,by decide⟩
  ·have:n=19:=by omega
   subst this;exact⟨127,by decide +kernel,full128,by decide,by decide⟩
  ·have:n=77:=by omega
   subst this;exact⟨511,by decide +kernel,full512,by decide,by decide⟩
  ·omega
 obtain⟨M,hM,hF,hroom,hmask⟩:=hg;obtain⟨owner,ho,hs,hperm,hmet⟩:=layClean_met hF (es.map (·.1)) (by rw[Array.size_map,hes];omega);rw[Array.size_map,hes] at hperm
 let live:=(List.range (M+1)).filterMap fun j=>(owner.getD j none).map (j,·)
 have hlive2:(live.map (·.2)).Perm (List.range n):=by rw[show live.map (·.2)=own (M+1) owner from filterMap_pairs _];exact hperm
 obtain⟨hl1,hl2⟩:=pairs_fst (owner:=owner) (range_rising (M+1));have hlen:(live.map (·.1)).length=n:=by rw[List.length_map,← List.length_map (f:=(·.2)) (as:=live),hlive2.length_eq,List.length_range]
 have hidx:∀ q∈live,q.2<es.size:=fun q hq=>by
  have:=hlive2.mem_iff.mp (List.mem_map.mpr ⟨q,hq,rfl⟩);rw[hes];exact List.mem_range.mp this
 have hown:∀ q,q∈live↔q.1<M+1∧owner.getD q.1 none=some q.2:=fun q=>by
  show q∈(List.range (M+1)).filterMap (fun j=>(owner.getD j none).map (j,·))↔_;rw[List.mem_filterMap];constructor
  ·rintro⟨j,hj,e⟩;cases hg:owner.getD j none with
   | none=>rw[hg] at e;cases e
   | some y =>
    rw[hg] at e;have e':(j,y)=q:=Option.some.inj e;subst e';exact⟨List.mem_range.mp hj,hg⟩
  ·rintro⟨h1,h2⟩;exact⟨q.1,List.mem_range.mpr h1,by rw[h2];rfl⟩
 let t':SetTable:={mask:=M,place:=(live.map (·.1)).toArray,dummies:=#[],finger:=t.finger,led:=t.led,moves:=t.movedTo M,plain:=t.plain}
 have hr:t.relaid (es.map (·.1)) (grown es.size)=some (t',(live.map (·.2)).toArray):=by
  unfold SetTable.relaid SetTable.laid;rw[hM,show M+1-1=M by omega,ho];rfl
 have hok:Ok t' n led:=⟨ris_of (show (live.map (·.1)).Pairwise (·<·) from hl1),rfl,by simpa [t'] using hlen,fun x hx=>by
  have:x∈live.map (·.1):=by simpa [t'] using hx
  have:=List.mem_range.mp (hl2 x this);show x≤M;omega,hF,o.plain,o.led,hroom,hmask⟩
 have hl:((live.map (·.2)).toArray.filterMap (es[·]?)).toList=live.map fun q=>es.getD q.2 (0,.none):=by
  rw[Array.toList_filterMap];exact pick_live hidx
 refine⟨t',_,hr,?_,hok,?_,?_,by rw[hM];rcases hmask with h | h | h | h<;>omega⟩
 ·rw[← Array.length_toList,hl,List.length_map,← List.length_map (f:=(·.1)) (as:=live),hlen,hes]
 ·rw[Array.toList_filterMap];refine ((show (live.map (·.2)).toArray.toList.Perm (List.range n) by simpa using hlive2).filterMap _).trans ?_;rw[← hes,filterMap_getElem?_range]
 ·intro e j hm;rw[hl] at hm;have hpl:t'.place.toList=live.map (·.1):=by show (live.map (·.1)).toArray.toList=_;simp
  rw[hpl] at hm;obtain⟨q,hq,e1,e2⟩:=zip_live hm;obtain⟨q1,q2⟩:=(hown q).mp hq;have w:Way M ((es.map (·.1)).toList.getD q.2 0) q.1 _:=hmet q.1 q.2 q2;have eh:(es.map (·.1)).toList.getD q.2 0=e.1:=by
   have hi:=hidx q hq;rw[e1];simp[List.getD,Array.getD,hi]
  rw[eh] at w;subst e2;show Way M e.1 q.1 fun x=>x∈t'.place.toList
  refine w.mono fun x hx=>?_
  obtain⟨y,hy⟩:=Option.isSome_iff_exists.mp hx;have hxs:x<M+1:=by
   rw[← hs];apply Classical.byContradiction;intro hn;simp[Array.getD,hn] at hy
  rw[hpl];exact List.mem_map.mpr ⟨(x,y),(hown (x,y)).mpr ⟨hxs,hy⟩,rfl⟩
theorem met_fresh (led:Bool):Met (.fresh 0 0 led) []:=fun e j h=>by simp at h
theorem Met.found {t:SetTable}{es:Array (Int×Value)}{led:Bool}(o:Ok t es.size led)(M:Met t es.toList)(h:Int) :
  (∃ e∈es.toList,e.1=h)∧(∃ (i:Nat) (e:Int×Value) (nx:Probe) (j:Nat),es[i]?=some e∧e.1=h∧t.probe (fun i=>(es[i]?.map (·.1)).getD 0) h (t.probeStart h)=some (.candidate j i nx)) ∨
  (∀ e∈es.toList,e.1≠h)∧∃ j,j≤t.mask∧t.slot j=.empty∧t.probe (fun i=>(es[i]?.map (·.1)).getD 0) h (t.probeStart h)=some (.empty j none)∧Way t.mask h j fun x=>x∈t.place.toList:=by
 obtain⟨k,hb,hk⟩:=o.probe (fun i=>(es[i]?.map (·.1)).getD 0) h;have live:∀ {j i},t.slot j=.live i→∃ e,es[i]?=some e∧(e,j)∈es.toList.zip t.place.toList:=fun {j i} hs=>by
  have hp:=slot_live hs;have hi:i<t.place.size:=by
   rcases Nat.lt_or_ge i t.place.size with h | h
   ·exact h
   ·rw[Array.getElem?_eq_none h] at hp;cases hp
  have hi2:i<es.size:=by rw[← o.size];exact hi
  refine⟨es[i],Array.getElem?_eq_getElem hi2,?_⟩;have:(es.toList.zip t.place.toList)[i]?=some (es[i],j):=by
   rw[List.getElem?_zip_eq_some];exact⟨by rw[Array.getElem?_toList];exact Array.getElem?_eq_getElem hi2,by rw[Array.getElem?_toList];exact hp⟩
  exact List.mem_of_getElem? this
 rcases hk with ⟨he,hp⟩ | ⟨i,hs,hh,hp⟩
 ·right;refine⟨fun e hm eh=>?_,_,?_,he,hp,?_⟩
  ·obtain⟨i,hi,ei⟩:=List.getElem_of_mem hm;have hi2:i<es.size:=by simpa using hi
   have hi3:i<t.place.size:=by rw[o.size];exact hi2
   have hz:(e,t.place[i])∈es.toList.zip t.place.toList:=by
    have:(es.toList.zip t.place.toList)[i]?=some (e,t.place[i]):=by
     rw[List.getElem?_zip_eq_some];exact⟨by rw[List.getElem?_eq_getElem hi,ei],by rw[Array.getElem?_toList];exact Array.getElem?_eq_getElem hi3⟩
    exact List.mem_of_getElem? this
   obtain⟨k2,e2,b2⟩:=M e _ hz;rw[eh] at e2 b2;have hne:t.slot (pos t.mask h k)=.empty:=by rw[← pos_eq];exact he
   rcases Nat.lt_trichotomy k k2 with hlt | heq | hgt
   ·exact slot_empty o.ris hne (b2 k hlt)
   ·subst heq;rw[e2] at hne;exact slot_empty o.ris hne (by rw[← Array.getElem_toList hi3];exact List.getElem_mem _)
   ·obtain⟨i',hs',hne'⟩:=hb k2 hgt;rw[pos_eq,e2] at hs';have hpl:=slot_live hs';have hii:i'=i:=by
     have hi':i'<t.place.size:=by
      rcases Nat.lt_or_ge i' t.place.size with h | h
      ·exact h
      ·rw[Array.getElem?_eq_none h] at hpl;cases hpl
     rw[Array.getElem?_eq_getElem hi'] at hpl;have hpl':=Option.some.inj hpl;rcases Nat.lt_trichotomy i' i with q | q | q
     ·have:=o.ris i' i hi' hi3 q;omega
     ·exact q
     ·have:=o.ris i i' hi3 hi' q;omega
    subst hii;refine hne' ?_;have:es[i']?=some e:=by rw[← Array.getElem?_toList,List.getElem?_eq_getElem hi,ei]
    rw[this];exact eh
  ·have:=((good_start t h).adv k).j;omega
  ·refine⟨k,(pos_eq t h k).symm,fun k' hk'=>?_⟩;obtain⟨i,hs,_⟩:=hb k' hk';have:=slot_live hs;rw[pos_eq] at this;rw[← Array.getElem?_toList] at this;exact List.mem_of_getElem? this
 ·left;obtain⟨e,he,hz⟩:=live hs;have eh:e.1=h:=by rw[he] at hh;exact hh
  exact⟨⟨e,by rw[← Array.getElem?_toList] at he;exact List.mem_of_getElem? he,eh⟩,i,e,_,_,he,eh,hp⟩
end STab
end
section
set_option Elab.async false
set_option linter.all false
set_option maxRecDepth 100000
namespace STab
open PySem
def pc (c:Nat):Int:=reduceHash (Builtin.Tuple.tupleHashOf [hashInt ((c / 60:Nat):Int),hashInt ((c % 60:Nat):Int)])
def pr (c:Nat):Nat:=(pc c % 26326).toNat
def bits:Nat→Nat→Bool
 | 0,_=>true
 | c+1,a=>!a.testBit (pr c) && bits c (a ||| 1 <<< pr c)
theorem bits_ok:bits 3600 0=true:=by decide +kernel
theorem bits_un:∀ {k a:Nat},bits k a=true→∀ c,c<k→a.testBit (pr c)=false∧∀ d,d<c→pr d≠pr c
 | 0,_,_,c,h=>absurd h (Nat.not_lt_zero c)
 | k+1,a,h,c,hc=>by
  have h':(!a.testBit (pr k) && bits k (a ||| 1 <<< pr k))=true:=h;rw[Bool.and_eq_true] at h';have hk:a.testBit (pr k)=false:=by simpa using h'.1
  by_cases e:c=k
  ·subst e;refine⟨hk,fun d hd z=>?_⟩;have:=(bits_un h'.2 d hd).1;rw[Nat.testBit_or,z,Nat.testBit_shiftLeft] at this;simp at this
  ·have i:=bits_un h'.2 c (by omega);rw[Nat.testBit_or,Bool.or_eq_false_iff] at i;exact⟨i.1.1,i.2⟩
theorem pc_inj {c d:Nat}(hc:c<3600)(hd:d<3600)(e:pc c=pc d):c=d:=by
 have er:pr c=pr d:=by unfold pr;rw[e]
 rcases Nat.lt_trichotomy c d with h | h | h
 ·exact absurd er ((bits_un bits_ok d hd).2 c h)
 ·exact h
 ·exact absurd er.symm ((bits_un bits_ok c hc).2 d h)
end STab
end
section
set_option Elab.async false
set_option linter.all false
set_option maxRecDepth 100000
namespace Srt
open PySem PyProof.Rows
section
variable {prog:Program}{w:World}{A:Around}{E:Value→Shared→Prop}{s:Shared}
def TieAt (prog:Program)(w:World)(h:Heap)(a:Addr)(t:Int×Int):Prop:=IsTupleKey (intKind prog w) h [t.1,t.2] a∧0≤t.1∧t.1<60∧0≤t.2∧t.2<60
theorem TieAt.keep {h h':Heap}{a:Addr}{t:Int×Int}(x:TieAt prog w h a t)(k:∀ o,h.get? a=some o→h'.get? a=some o):TieAt prog w h' a t:=let ⟨⟨o,i,n,ho,q⟩,r⟩:=x;⟨⟨o,i,n,k _ ho,q⟩,r⟩
def tHash (t:Int×Int):Int:=reduceHash (Builtin.Tuple.tupleHashOf [hashInt t.1,hashInt t.2])
theorem tHash_pc {t:Int×Int}(h0:0≤t.1)(h1:t.1<60)(h2:0≤t.2)(h3:t.2<60):tHash t=STab.pc (t.1.toNat*60+t.2.toNat):=by
 unfold tHash STab.pc;have e1:(t.1.toNat*60+t.2.toNat) / 60=t.1.toNat:=by omega
 have e2:(t.1.toNat*60+t.2.toNat) % 60=t.2.toNat:=by omega
 rw[e1,e2,Int.toNat_of_nonneg h0,Int.toNat_of_nonneg h2]
theorem tHash_inj {h:Heap}{a b:Addr}{t u:Int×Int}(x:TieAt prog w h a t)(y:TieAt prog w h b u)(e:tHash t=tHash u):t=u:=by
 obtain⟨_,a0,a1,a2,a3⟩:=x;obtain⟨_,b0,b1,b2,b3⟩:=y;rw[tHash_pc a0 a1 a2 a3,tHash_pc b0 b1 b2 b3] at e;have:=STab.pc_inj (by omega) (by omega) e;have e1:t.1=u.1:=by omega
 have e2:t.2=u.2:=by omega
 cases t;cases u;simp at e1 e2;rw[e1,e2]
theorem hbv_tie {a:Addr}{t:Int×Int}{Q:Bool→Shared→Prop}(x:TieAt prog w s.heap a t)(h:Q true s):wpAny (model prog w) A (hashByValue 8 (.ref a)) Q E s:=by
 have hT:=x.1.typeIs;obtain⟨⟨o,items,n,ho,hc,hd,hi⟩,_⟩:=x;unfold hashByValue;refine wpAny_bind (wpAny_specialOf hT PySem.F.slot_tuple_hash.lookup ?_);show wpAny _ _ (seqItems? (.ref a) >>= _) _ _ s;refine wpAny_bind (wpAny_seqItems ho hd ?_);refine wpAny_bind ?_;show wpAny _ _ (forIn items _ _) _ _ s;rw[← Array.forIn_toList];refine wpAny_forIn_list _ (fun rest r s'=>r.1=none∧s'=s∧∃ ks,ItemsAre (intKind prog w) ks rest) _ ?_ ?_ _ _ ⟨rfl,rfl,_,hi⟩
 ·rintro v rest r s' ⟨hr,rfl,ks,hks⟩;cases hks with
  | @cons k _ ks' _ h1 h2 =>
   obtain⟨tk,rfl⟩:=Value.isInt_shape h1;rw[hashByValue_scannable _ (show (Value.int k tk).scannable=true from rfl)];refine wpAny_bind (wpAny_pure ?_);simp only[plainKind,Bool.not_true,Bool.false_eq_true,if_false];exact wpAny_pure ⟨rfl,rfl,ks',h2⟩
 ·rintro⟨r1,r2⟩ s' ⟨hr,rfl,_⟩;simp only at hr;subst hr;exact wpAny_pure h
theorem oac_tie {a:Addr}{t:Int×Int}{Q:Bool→Shared→Prop}(x:TieAt prog w s.heap a t)(h:Q false s):wpAny (model prog w) A (ofAClassStatement 8 (.ref a)) Q E s:=by
 have hT:=x.1.typeIs;obtain⟨⟨o,items,n,ho,hc,hd,hi⟩,_⟩:=x;unfold ofAClassStatement;refine wpAny_bind (wpAny_typeOf hT ?_);show wpAny _ _ (pure true >>= _) _ _ s;refine wpAny_bind (wpAny_pure ?_);simp only[Bool.not_true,Bool.false_eq_true,if_false];refine wpAny_bind (wpAny_seqItems ho hd ?_);dsimp only;refine wpAny_bind ?_;show wpAny _ _ (forIn items _ _) _ _ s;rw[← Array.forIn_toList];refine wpAny_forIn_list _ (fun rest r s'=>r.1=none∧s'=s∧∃ ks,ItemsAre (intKind prog w) ks rest) _ ?_ ?_ _ _ ⟨rfl,rfl,_,hi⟩
 ·rintro v rest r s' ⟨hr,rfl,ks,hks⟩;cases hks with
  | @cons k _ ks' _ h1 h2 =>
   obtain⟨tk,rfl⟩:=Value.isInt_shape h1;refine wpAny_bind (m:=ofAClassStatement 7 (.int k tk)) (wpAny_pure ?_);simp only[Bool.false_eq_true,if_false];exact wpAny_pure ⟨rfl,rfl,ks',h2⟩
 ·rintro⟨r1,r2⟩ s' ⟨hr,rfl,_⟩;simp only at hr;subst hr;exact wpAny_pure h
theorem scs_tie {a:Addr}{t:Int×Int}{ys:List Value}{Q:Bool→Shared→Prop}(x:TieAt prog w s.heap a t)(hy:∀ y∈ys,∃ b u,y=.ref b∧TieAt prog w s.heap b u)(h:Q false s):wpAny (model prog w) A (searchCouldBeSeen (.ref a) ys) Q E s:=by
 unfold searchCouldBeSeen;refine wpAny_bind ?_;refine wpAny_forIn_list _ (fun rest r s'=>r.1=none∧s'=s∧∀ y∈rest,∃ b u,y=.ref b∧TieAt prog w s.heap b u) _ ?_ ?_ _ _ ⟨rfl,rfl,hy⟩
 ·rintro v rest r s' ⟨hr,rfl,hall⟩;obtain⟨b,u,rfl,y⟩:=hall v (List.mem_cons_self ..);have hrest:∀ y∈rest,∃ b u,y=.ref b∧TieAt prog w s'.heap b u:=fun y hy=>hall y (List.mem_cons_of_mem _ hy)
  dsimp only;refine wpAny_ite_split (fun _=>wpAny_pure ⟨rfl,rfl,hrest⟩) (fun _=>?_);refine wpAny_bind (wpAny_eqIsQuiet_tuple x.1 ?_);simp only[Bool.not_true,Bool.false_eq_true,if_false];refine wpAny_bind (wpAny_eqIsQuiet_tuple y.1 ?_);simp only[Bool.not_true,Bool.false_eq_true,if_false];refine wpAny_bind (oac_tie x ?_);simp only[Bool.false_eq_true,if_false];refine wpAny_bind (oac_tie y ?_);simp only[Bool.false_eq_true,if_false];exact wpAny_pure ⟨rfl,rfl,hrest⟩
 ·rintro⟨r1,r2⟩ s' ⟨hr,rfl,_⟩;simp only at hr;subst hr;exact wpAny_pure h
def qE (q:Addr×(Int×Int)):Int×Value:=(tHash q.2,.ref q.1)
def BagTie (prog:Program)(w:World)(h:Heap)(S:Addr)(qs:List (Addr×(Int×Int)))(led:Bool):Prop:=∃ es ep t,BagAt h S es ep t led∧STab.Met t es.toList∧es.toList.Perm (qs.map qE)∧∀ q∈qs,TieAt prog w h q.1 q.2
theorem bagT_add {S a:Addr}{u:Int×Int}{qs:List (Addr×(Int×Int))}{led:Bool}{Q:Bool→Shared→Prop}(hu:A.units<cLine)(B:BagTie prog w s.heap S qs led)(x:TieAt prog w s.heap a u)(hz:qs.length<300)
  (h:∀ (h':Heap) (b:Bool),Heap.SameBut S s.heap h'→(if u∈qs.map (·.2) then BagTie prog w h' S qs led else BagTie prog w h' S ((a,u)::qs) led)→Q b {s with heap:=h'}) :
  wpAny (model prog w) A (setAddHashed S (.ref a) (tHash u)) Q E s:=by
 obtain⟨es,ep,t,⟨o,ho,hx,hd,hok⟩,hM,hp,hq⟩:=id B;have hsz:es.size=qs.length:=by have:=hp.length_eq;simpa using this
 have ofE:∀ e∈es.toList,∃ q∈qs,e=qE q:=fun e he=>by
  obtain⟨q,hqq,e1⟩:=List.mem_map.mp (hp.mem_iff.mp he);exact⟨q,hqq,e1.symm⟩
 have apart:∀ b v,TieAt prog w s.heap b v→b≠S:=fun b v y e=>by
  obtain⟨⟨ob,ib,nb,hob,hcb,hdb,_⟩,_⟩:=y;subst e;rw[ho] at hob;cases hob;rw[hd] at hdb;cases hdb
 unfold setAddHashed setAddHashedIn;refine wpAny_holding (wpAny_bind (wpAny_setState_of ho hd hok.fits ?_));dsimp only;rw[show byScan (.ref a) es=false from rfl];simp only[Bool.false_eq_true,if_false];unfold setSearch setSearchFrom;refine wpAny_bind (wpAny_bind (wpAny_setState_of ho hd hok.fits ?_));dsimp only;have hgw:t.gaveWay=false:=by
  unfold SetTable.gaveWay;rcases hok.mask with e | e | e | e<;>rw[e]<;>rfl
 rw[hgw];simp only[Bool.false_eq_true,if_false,Option.getD_none];rcases STab.Met.found hok hM (tHash u) with ⟨_,i,e,nx,j,he,eh,hpr⟩ | ⟨hout,j,hj,hsl,hpr,hw⟩
 ·have hem:e∈es.toList:=by rw[← Array.getElem?_toList] at he;exact List.mem_of_getElem? he
  obtain⟨q,hqq,rfl⟩:=ofE e hem;have eu:q.2=u:=tHash_inj (hq q hqq) x eh;have hmem:u∈qs.map (·.2):=List.mem_map.mpr ⟨q,hqq,eu⟩;have hstored:∀ y∈((es.filter fun e=>e.1 == tHash u).toList.map fun e=>e.2),∃ b v,y=.ref b∧TieAt prog w s.heap b v:=fun y hy=>by
   obtain⟨e',he',rfl⟩:=List.mem_map.mp hy;have he2:e'∈es.toList:=by
    simp at he';simpa using he'.1
   obtain⟨q',hq',rfl⟩:=ofE e' he2;exact⟨q'.1,q'.2,rfl,hq q' hq'⟩
  split
  ·rename_i met heq;have e1:=heq.symm.trans hpr;injection e1 with e1
   subst e1;dsimp only;refine wpAny_ite_split (fun _=>wpAny_bind (scs_tie x hstored ?_)) (fun _=>?_)
   ·simp only[Bool.false_eq_true,if_false];rw[he];dsimp only[qE];refine wpAny_bind (wpAny_holding (wpAny_eqBool_tuple hu (hq q hqq).1 x.1 ?_));refine wpAny_bind (wpAny_setState_of ho hd hok.fits ?_);rw[show decide ([q.2.1,q.2.2]=[u.1,u.2])=true by rw[eu];exact decide_eq_true rfl];simp only[Bool.and_self,if_true];refine wpAny_pure (wpAny_pure (h s.heap false (Heap.SameBut.refl S s.heap) ?_));rw[if_pos hmem];exact B
   ·skip
    rw[he];dsimp only[qE];refine wpAny_bind (wpAny_holding (wpAny_eqBool_tuple hu (hq q hqq).1 x.1 ?_));refine wpAny_bind (wpAny_setState_of ho hd hok.fits ?_);rw[show decide ([q.2.1,q.2.2]=[u.1,u.2])=true by rw[eu];exact decide_eq_true rfl];simp only[Bool.and_self,if_true];refine wpAny_pure (wpAny_pure (h s.heap false (Heap.SameBut.refl S s.heap) ?_));rw[if_pos hmem];exact B
  ·rename_i heq;exact (heq _ hpr).elim
 ·have hmem:u∉qs.map (·.2):=fun hm=>by
   obtain⟨q,hqq,eq⟩:=List.mem_map.mp hm;have:qE q∈es.toList:=hp.mem_iff.mpr (List.mem_map.mpr ⟨q,hqq,rfl⟩);exact hout _ this (by show tHash q.2=tHash u;rw[eq])
  have hN:∀ (h':Heap) (b:Bool),Heap.SameBut S s.heap h'→BagTie prog w h' S ((a,u)::qs) led→Q b {s with heap:=h'}:=fun h2 b hs hB=>h h2 b hs (by rw[if_neg hmem];exact hB)
  split
  ·rename_i met heq;have e1:=heq.symm.trans hpr;injection e1 with e1
   subst e1;dsimp only;refine wpAny_pure ?_;dsimp only;refine wpAny_bind (wpAny_setState_of ho hd hok.fits ?_);dsimp only;have ok1:=hok.put hsl hj;have M1:STab.Met (t.put j).1 (SetTable.insertAt es (t.put j).2 (tHash u,.ref a)).toList:=hM.put hok hw;rw[if_pos ok1.plain];refine wpAny_bind (hbv_tie x ?_);simp only[if_true,Bool.not_false,Bool.true_and];have hes1:(SetTable.insertAt es (t.put j).2 (tHash u,.ref a)).size=es.size+1:=by
    rw[← Array.length_toList,(SetTable.insertAt_perm _ _ _).length_eq];simp
   have hp1:(SetTable.insertAt es (t.put j).2 (tHash u,.ref a)).toList.Perm (((a,u)::qs).map qE):=by
    refine (SetTable.insertAt_perm _ _ _).trans ?_;rw[Array.toList_push,List.map_cons];exact (List.perm_append_singleton _ _).trans (hp.cons _)
   generalize hes:SetTable.insertAt es (t.put j).2 (tHash u,.ref a)=es1 at hes1 hp1 M1 ⊢;generalize ht1:(t.put j).1=t1 at ok1 M1 ⊢;rw[← hes1] at ok1;have hties:∀ h',Heap.SameBut S s.heap h'→∀ q∈(a,u)::qs,TieAt prog w h' q.1 q.2:=fun h' hs q hq'=>by
    rcases List.mem_cons.mp hq' with rfl | hq'
    ·exact x.keep fun o e=>hs.extBut _ _ (apart _ _ x) e
    ·exact (hq q hq').keep fun o e=>hs.extBut _ _ (apart _ _ (hq q hq')) e
   refine wpAny_bind (wpAny_storeSet_of ho hd ?_ (fits_of_scanBound (by rw[hes1];unfold scanBound;omega)));obtain⟨o1,ho1,hx1,hd1⟩:=bag_store (es':=es1) (t':=t1) ho hx hd;have hb1:=Heap.SameBut.update s.heap S (Obj.putSet es1 t1);by_cases hf:t1.tooFull=true
   ·rw[if_pos hf];obtain⟨t2,order,hr,hrs,ok2,hp2,M2,h512⟩:=STab.relaid_met (es:=es1) ok1 rfl hf (by omega);unfold setRelay;refine wpAny_bind (wpAny_bind (wpAny_setState_of (s:={s with heap:=s.heap.update S (Obj.putSet es1 t1)}) ho1 hd1 ok1.fits ?_));dsimp only;rw[← hes1,if_neg (by rw[sizeLine_eq];omega)];rw[hr];refine wpAny_bind (wpAny_of_eq (a:=(order.filterMap (es1[·]?),t2)) ?_ ?_)
    ·show (if ((order.filterMap (es1[·]?)).size != es1.size)=true then _ else _)=_;rw[hrs,if_neg (by simp)]
    ·refine wpAny_storeSet_of (s:={s with heap:=s.heap.update S (Obj.putSet es1 t1)}) ho1 hd1 ?_ (fits_of_scanBound (by rw[hrs,hes1];unfold scanBound;omega));obtain⟨o2,ho2,hx2,hd2⟩:=bag_store (es':=order.filterMap (es1[·]?)) (t':=t2) ho1 hx1 hd1;have hb2:=hb1.trans (Heap.SameBut.update (s.heap.update S (Obj.putSet es1 t1)) S (Obj.putSet (order.filterMap (es1[·]?)) t2));exact wpAny_pure (hN _ true hb2 ⟨_,_,t2,⟨o2,ho2,hx2,hd2,hrs.symm ▸ ok2⟩,M2,hp2.trans hp1,hties _ hb2⟩)
   ·rw[if_neg hf];exact wpAny_pure (hN _ true hb1 ⟨es1,_,t1,⟨o1,ho1,hx1,hd1,ok1.ok (by simpa using hf)⟩,M1,hp1,hties _ hb1⟩)
  ·rename_i heq;exact (heq _ hpr).elim
end
end Srt
end
section
set_option Elab.async false
set_option linter.all false
set_option maxRecDepth 100000
namespace STab
open PySem L2
theorem sub_len:∀ {us l:List (Int×Int)},us.Nodup→(∀ x∈us,x∈l)→us.length≤l.length
 | [],_,_,_=>Nat.zero_le _
 | x::r,l,hn,hs=>by
  have hx:x∈l:=hs x (List.mem_cons_self ..);have hn':=List.nodup_cons.mp hn;have:=sub_len (us:=r) (l:=l.erase x) hn'.2 (fun y hy=>(List.mem_erase_of_ne (fun e=>by subst e;exact hn'.1 hy)).mpr (hs y (List.mem_cons_of_mem _ hy)));rw[List.length_erase_of_mem hx] at this;have:=List.length_pos_of_mem hx;rw[List.length_cons];omega
theorem lex_of {us:List (Int×Int)}(hs:us.Pairwise fun x y=>HT.lexLt (tl y) (tl x)=false)(hn:us.Nodup):us.Pairwise Lex:=by
 refine (List.Pairwise.and hs hn).imp ?_;rintro a b ⟨h1,h2⟩;have h3:¬ Lex b a:=fun e=>by rw[lex_iff.mpr e] at h1;cases h1
 unfold Lex at h3 ⊢;have h4:¬ (a.1=b.1∧a.2=b.2):=fun e=>h2 (by cases a;cases b;simp at e;rw[e.1,e.2])
 omega
end STab
namespace Srt
open PySem PyProof.Rows PySem.W
section
variable {prog:Program}{w:World}{A:Around}{E:Value→Shared→Prop}{s:Shared}
theorem bagT_fresh {h:Heap}{a:Addr}(ho:h.get? a=some (freshSet w)):BagTie prog w h a [] (ledOf w) :=
 ⟨#[],0,_,⟨_,ho,⟨rfl,rfl,rfl⟩,rfl,STab.ok_fresh _⟩,STab.met_fresh _,.nil,fun q hq=>by cases hq⟩
theorem call_bagT {l:Addr}{c:String}{vs:List Value}{ps:List (Addr×(Int×Int))}{Q:Value→Shared→Prop}(hh:A.handled=none)(hu:A.units+8<cLine)(src:SetSrc prog w s.heap l c vs.toArray.size (fun i v=>vs.toArray[i]?=some v))
  (hv:vs=ps.map fun q=>Value.ref q.1) (hT:∀ q∈ps,TieAt prog w s.heap q.1 q.2) (hz:ps.length<300)
  (h:∀ (h':Heap) (tk:Nat) (qs:List (Addr×(Int×Int))),(∀ b o,s.heap.get? b=some o→h'.get? b=some o)→BagTie prog w h' s.heap.objs.size qs (ledOf w)→(qs.map (·.2)).Nodup→(∀ t,t∈qs.map (·.2)↔t∈ps.map (·.2))→(∀ q∈qs,q∈ps)→Q (.ref s.heap.objs.size) {s with heap:=h',toks:=tk}) :
  wpAny (model prog w) A (call (.type "set") [.ref l]) Q E s:=by
 have hsz:vs.toArray.size=ps.length:=by rw[hv];simp
 refine call_bag hh src (fun i h=>∃ qs,BagTie prog w h s.heap.objs.size qs (ledOf w)∧(qs.map (·.2)).Nodup∧(∀ t,t∈qs.map (·.2)↔t∈(ps.take i).map (·.2))∧qs.length≤i∧(∀ q∈qs,q∈ps)∧∀ b o,s.heap.get? b=some o→h.get? b=some o) ?_ ?_ ?_ ?_
 ·rintro i h1 h2 ⟨qs,⟨es,ep,t,b,M,p,hq⟩,q1,q2,q3,q4,q5⟩ hk;have q5':∀ b o,s.heap.get? b=some o→h2.get? b=some o:=fun b o e=>hk b o (Nat.le_of_lt (Heap.lt_size e)) (q5 b o e)
  exact⟨qs,⟨es,ep,t,b.keep fun o e=>hk _ o (Nat.le_refl _) e,M,p,fun q hq'=>(hT q (q4 q hq')).keep fun o e=>q5' _ o e⟩,q1,q2,q3,q4,q5'⟩
 ·rintro i v s' E' Q' hin hvi ⟨qs,B,q1,q2,q3,q4,q5⟩ hQ;have hin':i<ps.length:=by rw[← hsz];exact hin
  have ev:v=.ref ps[i].1:=by
   have:vs[i]?=some v:=by simpa using hvi
   rw[hv,List.getElem?_map,List.getElem?_eq_getElem hin'] at this;exact (Option.some.inj this).symm
  subst ev;have x:TieAt prog w s'.heap ps[i].1 ps[i].2:=(hT _ (List.getElem_mem hin')).keep fun o e=>q5 _ o e
  have hu3:A.in1.in1.in1.units<cLine:=by show A.units+1+1+1<cLine;omega
  unfold setAdd;refine wpAny_holding (wpAny_bind (wpAny_pyHash_tuple (knd:=intKind prog w) hu3 x.1 ?_));refine bagT_add (s:={s' with toks:=s'.toks+([ps[i].2.1,ps[i].2.2].length+1)}) hu3 B x (by omega) fun h' b hs hB=>?_
  have q5':∀ b o,s.heap.get? b=some o→h'.get? b=some o:=fun b o e=>hs.extBut b o (Nat.ne_of_lt (Heap.lt_size e)) (q5 b o e)
  have htk:∀ t,t∈(ps.take (i+1)).map (·.2)↔t∈qs.map (·.2)∨t=ps[i].2:=fun t=>by
   rw[List.take_succ_eq_append_getElem hin',List.map_append,List.mem_append,← q2 t];simp
  refine hQ h' _ b hs ?_;by_cases hm:ps[i].2∈qs.map (·.2)
  ·rw[if_pos hm] at hB;refine⟨qs,hB,q1,fun t=>?_,by omega,q4,q5'⟩;rw[htk];exact⟨.inl,fun o=>o.elim id fun e=>e ▸ hm⟩
  ·rw[if_neg hm] at hB;refine⟨(ps[i].1,ps[i].2)::qs,hB,List.nodup_cons.mpr ⟨hm,q1⟩,fun t=>?_,by rw[List.length_cons];omega,fun q hq=>?_,q5'⟩
   ·rw[htk,List.map_cons,List.mem_cons];exact Or.comm
   ·rcases List.mem_cons.mp hq with rfl | hq
    ·exact List.getElem_mem hin'
    ·exact q4 q hq
 ·intro h' hf hk;exact⟨[],bagT_fresh hf,List.nodup_nil,(fun t=>by simp),Nat.le_refl _,(fun q hq=>by cases hq),hk⟩
 ·rintro h' tk hk ⟨qs,B,q1,q2,q3,q4,q5⟩;rw[hsz,List.take_length] at q2;exact h h' tk qs hk B q1 q2 q4
end
theorem items_ints {prog:Program}{w:World}:∀ {ks:List Int} {vs:List Value},ItemsAre (intKind prog w) ks vs→IntsAre vs ks
 | _,_,.nil=>.nil
 | _,_,.cons h t=>by
  obtain⟨tk,rfl⟩:=Value.isInt_shape h;exact .cons _ tk (items_ints t)
theorem ints_items {prog:Program}{w:World}:∀ {ks:List Int} {vs:List Value},IntsAre vs ks→ItemsAre (intKind prog w) ks vs
 | _,_,.nil=>.nil
 | _,_,.cons k tk t=>.cons (intKind_is _ _ _ _) (ints_items t)
end Srt
namespace L2
open PySem PySem.Spec PyProof.Rows PySem.W
def cSortSetT (K:PySem.W.Frag):List V→Hp→VK→Prop:=fun xs H Q=>∃ (p:Addr) (ps:List (Addr×List Int)) (ts:List (Int×Int)),xs=[.ref p]∧(SqL K H p (ps.map fun x=>V.ref x.1)∨SqT K H p (ps.map fun x=>V.ref x.1))∧PsAt H ps ts∧(∀ t∈ts,0≤t.1∧t.1<60∧0≤t.2∧t.2<60)∧ts.length<300 ∧
 ∀ (ps':List (Addr×List Int)) (ts':List (Int×Int)) (l:Addr),PsAt H ps' ts'→ts'.Pairwise Lex→(∀ t,t∈ts'↔t∈ts)→H l=none→Q (.ref l) (upd H l (.lst (ps'.map fun x=>V.ref x.1)))
section
variable {X:Cx}{pins:List (Addr×Obj)}{σ:St}{H:Hp}{s:Shared}{x y:Str}{e:Expr}{p p' pos pos':Pos}{t:TA}
theorem pe_sortsetT (K:PySem.W.Frag)(hh:X.A.handled=none)(hu:X.A.units+64<cLine)(hg:Gl X x)(hm:X.mg x=none)(hv:bootBuiltins x=some (.builtin "sorted"))(hg':Gl X y)(hm':X.mg y=none)(hv':bootBuiltins y=some (.type "set"))(ha:PA X [e] t)
  (hn:x≠"__name__":=by decide) (hdb:(x == ("__debug__":Str))=false:=by decide) (hn':y≠"__name__":=by decide) (hdb':(y == ("__debug__":Str))=false:=by decide)
  (he:starEach [e] X.env=[(false,eval e X.env)]:=by rfl) (hpl:(backTo pos' (starEach ([]:List Expr) X.env)).any (·.1)=false:=by rfl)
  (he2:starEach [.Call (.Name y p') [e] [] pos'] X.env=[(false,eval (.Call (.Name y p') [e] [] pos') X.env)]:=by rfl) (hpl2:(backTo pos (starEach ([]:List Expr) X.env)).any (·.1)=false:=by rfl) (hK:X.K=K:=by rfl) :
  PE X (.Call (.Name x p) [.Call (.Name y p') [e] [] pos'] [] pos) (tCB (cSortSetT K) t):=by
 subst hK;intro pins s σ H Q I h;refine wpAny_Call_Name_kw (ld_blt I hg hm hv ?_ hn hdb);refine PyProof.Rows.callWith_builtin1 ?_ he2 hpl2;rw[he2];show wpAny _ _ (spliced ((false,eval (.Call (.Name y p') [e] [] pos') X.env)::[])) _ _ s;refine Calls.spliced_cons ?_;refine wpAny_Call_Name_kw (ld_blt I hg' hm' hv' ?_ hn' hdb');refine PyProof.Rows.callWith_type1 (thn (ha pos' pins s σ H _ I h) fun us s1 ⟨vs,H1,I1,r1,q1⟩=>?_) he hpl;obtain⟨l,ps,ts,rfl,src,hps,hrg,hz,q⟩:=q1;obtain⟨u,rfl,rx⟩:=vals1 r1;cases rx;have hpl0:=hps.len
 let pq:List (Addr×(Int×Int)):=ps.map fun x=>(x.1,un x.2)
 have epq:pq.map (·.2)=ts:=by
  show (ps.map fun x=>(x.1,un x.2)).map (·.2)=ts;rw[List.map_map];have:(ps.map (·.2)).map un=ts:=by rw[hps.eq,List.map_map];exact List.map_id'' (fun t=>un_tl t) ts
  rw[List.map_map] at this;exact this
 have two:∀ x∈ps,x.2=tl (un x.2):=fun x hx=>by
  have:x.2∈ts.map tl:=by rw[← hps.eq];exact List.mem_map_of_mem hx
  obtain⟨t',_,e'⟩:=List.mem_map.mp this;rw[← e',un_tl]
 have hT:∀ q∈pq,Srt.TieAt X.prog X.w s1.heap q.1 q.2:=fun q hq=>by
  obtain⟨x,hx,rfl⟩:=List.mem_map.mp hq;have ht:=I1.tupInts (hps.to x hx) (by rw[two x hx];simp[tl]);obtain⟨a,o,items,n,ea,ho,hc,hd,hi,_⟩:=ht;injection ea with ea
  subst ea;rw[two x hx] at hi;have hmem:un x.2∈ts:=by rw[← epq];exact List.mem_map.mpr ⟨(x.1,un x.2),hq,rfl⟩
  obtain⟨b0,b1,b2,b3⟩:=hrg _ hmem;exact⟨⟨o,items,n,ho,hc,hd,Srt.ints_items hi⟩,b0,b1,b2,b3⟩
 have run:∀ {c:String} {its:List Value},its=pq.map (fun q=>Value.ref q.1)→Srt.SetSrc X.prog X.w s1.heap l c its.toArray.size (fun i v=>its.toArray[i]?=some v) →
   wpAny (model X.prog X.w) X.A (call (.type "set") [.ref l]) (fun v s2=>wpAny (model X.prog X.w) X.A (spliced []) (fun vs s3=>wpAny (model X.prog X.w) X.A (call (.builtin "sorted") (v::vs)) (EP X pins σ Q) X.xe s3) X.xe s2) X.xe s1:=by
  intro c its hits hsrc;refine Srt.call_bagT hh (by omega) hsrc hits hT (by show (ps.map _).length<300;rw[List.length_map];omega) fun h' tk qs hk hB hnd hmem hqp=>Calls.spliced_nil ?_
  obtain⟨es,ep,tb,bt,_,hp,hq⟩:=hB;have hqpl:qs.length≤ts.length:=by
   have:=STab.sub_len hnd (fun t ht=>(hmem t).mp ht);rw[List.length_map,epq] at this;exact this
  have hsz:es.size=qs.length:=by have:=hp.length_eq;simpa using this
  have hzl:es.size≤sizeLine:=by rw[sizeLine_eq];omega
  have hvals:(es.toList.map (·.2)).Perm (qs.map fun q=>Value.ref q.1):=by
   refine (hp.map _).trans ?_;rw[List.map_map];exact .rfl
  have hti:∀ q∈qs,Srt.TupInts h' (.ref q.1) (tl q.2):=fun q hq'=>by
   obtain⟨⟨o,items,n,ho,hc,hd,hi⟩,_⟩:=hq q hq';exact⟨q.1,o,items,n,rfl,ho,hc,hd,Srt.items_ints hi,by simp[tl]⟩
  refine Srt.sorted_any (O:=Srt.lexOrd) (key:=Srt.tupKey h') (knd:=tuples' true) (s:={s1 with heap:=h',toks:=tk}) (Srt.coll_bag (A:=X.A.in1) hh bt hzl) (fun vs h=>by rw[h.length_eq,List.length_map,Array.length_toList];exact hzl) (fun vs s' hC k=>?_) fun vs out h1 h2 tk' n hC ho hs k1 k2 hD=>?_
  ·refine Srt.asks_tups (fun v hv=>?_) k;obtain⟨q,hq',rfl⟩:=List.mem_map.mp ((hC.trans hvals).mem_iff.mp hv);exact⟨_,hti q hq'⟩
  ·obtain⟨qs',hqq,rfl⟩:=perm_map_inv (ho.trans (hC.trans hvals)) rfl;have I3:Inv X pins σ H1 {s1 with heap:=h1,toks:=tk'}:=I1.kept fun b o eb=>k1 b o (hk b o eb)
   have hps':PsAt H1 (qs'.map fun q=>(q.1,tl q.2)) (qs'.map (·.2)):=by
    refine⟨fun x hx=>?_,by rw[List.map_map,List.map_map];rfl⟩;obtain⟨q',hq',rfl⟩:=List.mem_map.mp hx;obtain⟨z,hz',e'⟩:=List.mem_map.mp (hqp q' (hqq.mem_iff.mp hq'));subst e';have:=hps.to z hz';rw[two z hz'] at this;exact this
   have hlen:qs'.length≤sizeLine:=by rw[hqq.length_eq,← hsz];exact hzl
   have hres:=q (qs'.map fun q=>(q.1,tl q.2)) (qs'.map (·.2)) h1.objs.size hps' ?_ ?_ I3.fresh
   ·rw[List.map_map] at hres;have hres':Q (.ref h1.objs.size) (upd H1 h1.objs.size (.lst (qs'.map fun q:Addr×(Int×Int)=>V.ref q.1))):=hres;refine⟨.ref h1.objs.size,_,I3.laid (t':=tk') (o:=.lst (qs'.map fun q:Addr×(Int×Int)=>V.ref q.1)) k2 (Nat.le_refl _) ⟨by rw[List.length_map];exact hlen,_,n,refs_vals (f:=fun q:Addr×(Int×Int)=>q.1) qs',hD⟩,rfl,hres'⟩
   ·have hnd':(qs'.map (·.2)).Nodup:=(hqq.map _).nodup_iff.mpr hnd;refine STab.lex_of ?_ hnd';rw[List.pairwise_map] at hs ⊢;refine hs.imp_of_mem fun {a b} ha hb hab=>?_
    have e1:=Srt.tupKey_of (hti a (hqq.mem_iff.mp ha));have e2:=Srt.tupKey_of (hti b (hqq.mem_iff.mp hb));have hab:HT.lexLt (Srt.tupKey h' (.ref b.1)) (Srt.tupKey h' (.ref a.1))=false:=hab;rw[e1,e2] at hab;exact hab
   ·intro t';rw[(hqq.map (·.2)).mem_iff,hmem,epq]
 have evs:∀ {its:List Value},Vals (ps.map fun x=>V.ref x.1) its→its=pq.map (fun q=>Value.ref q.1):=fun {its} r=>by
  rw[vals_refs (f:=fun x:Addr×List Int=>x.1) r];show _=(ps.map fun x=>(x.1,un x.2)).map fun q=>Value.ref q.1
  rw[List.map_map];rfl
 rcases src with hs | hs
 ·obtain⟨its,r,pl,_⟩:=I1.list hs;exact run (evs r) (Srt.src_list pl.isList)
 ·obtain⟨its,r,pl,_⟩:=I1.tuple hs;exact run (evs r) (Srt.src_tup pl)
end
end L2
end
section
set_option Elab.async false
set_option linter.all false
set_option maxRecDepth 100000
namespace L2
open PySem PySem.Spec PyProof.Rows
end L2
end
section
set_option Elab.async false
set_option linter.all false
set_option maxRecDepth 100000
namespace L2
open PySem PySem.Spec PyProof.Rows
end L2
end
section
set_option Elab.async false
set_option linter.all false
set_option maxRecDepth 100000
namespace L2
open PySem PySem.Spec PyProof.Rows
section
variable {X:Cx}
end
end L2
end
section
set_option Elab.async false
set_option linter.all false
set_option maxRecDepth 100000
namespace L2
open PySem PySem.Spec PyProof.Rows
section
variable {X:Cx}
end
end L2
end
section
set_option Elab.async false
set_option linter.all false
set_option maxRecDepth 100000
namespace L2
open PySem PySem.Spec PyProof.Rows
section
variable {k m c:Nat}{d:PyData}{ds:List PyData}
def webD (n:Int)(ts:List (Int×Int)):PyData:=.tuple [.int n,.tuple ((ts.map tl).map L2.tI)]
theorem WebAt.dt {K:PySem.W.Frag}{H:Hp}{w:Addr}{n:Int}{ts:List (Int×Int)}(h:WebAt H w n ts):Dt K H (.ref w) (webD n ts):=by
 obtain⟨q,e,ht⟩:=h;exact .tup (SqT.of e) (.cons (.int n) (.cons ht.ls.dt .nil))
theorem TsAt.dt {K:PySem.W.Frag}{H:Hp}{w:Addr}{ts:List (Int×Int)}(h:TsAt H w ts):Dt K H (.ref w) (.tuple ((ts.map tl).map L2.tI)):=h.ls.dt
end
end L2
end
section
set_option Elab.async false
set_option linter.all false
set_option maxRecDepth 100000
namespace L2
open PySem PySem.Spec PyProof.Rows
def sD:V→PyData
 | .bl b=>.bool b
 | .int i=>.int i
 | .str x=>.str x
 | _=>.none
section
variable {X:Cx}{pins:List (Addr×Obj)}{σ:St}{H:Hp}{s:Shared}
end
end L2
end
section
set_option Elab.async false
set_option linter.all false
set_option maxRecDepth 100000
namespace L2
open PySem PySem.Spec PyProof.Rows
section
variable {c k m:Nat}{d:PyData}{ds:List PyData}{H:Hp}
end
end L2
end
section
set_option Elab.async false
set_option linter.all false
set_option maxRecDepth 100000
namespace L2
open PySem
def TurnF (g:TG)(tc:TT)(te:TE)(p:Addr)(fr:St)(H1:Hp)(x:V)(c:Bool)(f:V)(N:Nat):Prop :=
 ∀ (v:Option V) (ys:List V) (R:St→Hp→Prop),ys.length≤N→(c=true→∀ v',R (v'::fr) (upd (upd H1 p (.lst ys)) p (.lst (ys++[f]))))→(c=false→∀ v',R (v'::fr) (upd H1 p (.lst ys))) →
  g x (v::fr) (upd H1 p (.lst ys)) fun τ2 H2=>tc τ2 H2 fun b H3=>if b=true then te τ2 H3 fun w H4=>∃ zs,H4 p=some (.lst zs)∧zs.length<sizeLine∧R τ2 (upd H4 p (.lst (zs++[w]))) else R τ2 H3
theorem turn_len {α:Type}(c:α→Bool)(f:α→V)(l:List α):((l.filter c).map f).length≤l.length:=by rw[List.length_map];exact List.length_filter_le _ _
theorem fm_snoc {α:Type}(c:α→Bool)(f:α→V)(l:List α)(x:α):((l++[x]).filter c).map f=(l.filter c).map f++(if c x=true then [f x] else []):=by
 rw[List.filter_append,List.map_append];congr 1;by_cases h:c x=true
 ·rw[List.filter_cons_of_pos h,if_pos h];rfl
 ·rw[List.filter_cons_of_neg h,if_neg h];rfl
section
variable {K:PySem.W.Frag}{a p:Addr}{g:TG}{tc:TT}{te:TE}{fr:St}{H1:Hp}{EE:Hp→Prop}
theorem lc_rangeF {n:Nat}(c:Int→Bool)(f:Int→V)(hn:n≤16000000)(hs:∀ x:Int,0≤x→x<n→TurnF g tc te p fr H1 (.int x) (c x) (f x) n)
  (hd:EE (upd H1 p (.lst (((rInts 0 n).filter c).map f)))):lcW g tc te p (Itr 0 n) (none::fr) (upd H1 p (.lst [])) EE:=by
 refine lc_range (fun i τ H=>i≤n∧(∃ v,τ=v::fr)∧H=upd H1 p (.lst (((rInts 0 i).filter c).map f))) ⟨Nat.zero_le _,⟨_,rfl⟩,rfl⟩ ?_ ?_
 ·rintro i τ H hi ⟨_,⟨v,rfl⟩,rfl⟩;have e:rInts 0 (i+1)=rInts 0 i++[(0:Int)+i]:=by unfold rInts;rw[List.range_succ,List.map_append];rfl
  refine hs ((0:Int)+i) (by omega) (by omega) v _ _ (Nat.le_trans (turn_len c f _) (by rw[rInts_length];omega)) (fun h v'=>?_) fun h v'=>?_
  ·refine⟨by omega,⟨_,rfl⟩,?_⟩;rw[upd_upd,e,fm_snoc,if_pos h]
  ·refine⟨by omega,⟨_,rfl⟩,?_⟩;rw[e,fm_snoc,if_neg (by rw[h];simp),List.append_nil]
 ·rintro τ H ⟨_,_,rfl⟩;exact hd
theorem take_snoc {α:Type}{l:List α}{i:Nat}{x:α}(h:l[i]?=some x):l.take (i+1)=l.take i++[x]:=by rw[List.take_succ,h];rfl
theorem lc_listF {α:Type}{xs:List α}(V0:α→V)(c:α→Bool)(f:α→V)(hn:xs.length≤16000000)(hl:SqL K H1 a (xs.map V0))(hp:H1 p=none)(hs:∀ x∈xs,TurnF g tc te p fr H1 (V0 x) (c x) (f x) xs.length)
  (hd:EE (upd H1 p (.lst ((xs.filter c).map f)))):lcW g tc te p (Itl K a) (none::fr) (upd H1 p (.lst [])) EE:=by
 refine lc_list (xs:=xs.map V0) (fun i τ H=>(∃ v,τ=v::fr)∧H=upd H1 p (.lst (((xs.take i).filter c).map f))) ⟨⟨_,rfl⟩,by simp⟩ ?_ ?_ ?_
 ·rintro i τ H _ ⟨_,rfl⟩;exact ((Same.refl H1).upd hp).seq hl
 ·rintro i x τ H hx ⟨⟨v,rfl⟩,rfl⟩ _;rw[List.getElem?_map] at hx;cases h0:xs[i]? with
  | none=>rw[h0] at hx;cases hx
  | some y =>
  rw[h0] at hx;cases Option.some.inj hx;have hi:=(List.getElem?_eq_some_iff.mp h0).1;refine hs y (List.mem_of_getElem? h0) v _ _ (Nat.le_trans (turn_len c f _) (by rw[List.length_take];omega)) (fun h v'=>?_) fun h v'=>?_
  ·refine⟨⟨_,rfl⟩,?_⟩;rw[upd_upd,take_snoc h0,fm_snoc,if_pos h]
  ·refine⟨⟨_,rfl⟩,?_⟩;rw[take_snoc h0,fm_snoc,if_neg (by rw[h];simp),List.append_nil]
 ·rintro τ H ⟨_,rfl⟩;rw[List.length_map,List.take_length];exact hd
theorem turn_ite {fr:St}{H1:Hp}{p:Addr}{ys:List V}{w:V}{N:Nat}{R:St→Hp→Prop}{v:Option V}{b c:Bool}(e:b=c)(hl:ys.length≤N)(hN:N≤16000000)
  (h1:c=true→∀ v',R (v'::fr) (upd (upd H1 p (.lst ys)) p (.lst (ys++[w])))) (h2:c=false→∀ v',R (v'::fr) (upd H1 p (.lst ys))) :
  if b=true then ∃ zs,upd H1 p (.lst ys) p=some (.lst zs)∧zs.length<sizeLine∧R (v::fr) (upd (upd H1 p (.lst ys)) p (.lst (zs++[w]))) else R (v::fr) (upd H1 p (.lst ys)):=by
 subst e;by_cases hb:b=true
 ·rw[if_pos hb];exact⟨ys,upd_same,sizeBig (by omega),h1 hb v⟩
 ·rw[if_neg hb];exact h2 (by simpa using hb) v
end
end L2
end
section
set_option Elab.async false
set_option linter.all false
set_option maxRecDepth 100000
namespace HT
open PySem PyProof.Rows
section
variable {prog:Program}{w:World}{A:Around}{E:Value→Shared→Prop}{s:Shared}
end
end HT
namespace L2
open PySem PySem.Spec PyProof.Rows
section
variable {X:Cx}
end
section
variable {K:PySem.W.Frag}{a p:Addr}{g:TG}{tc:TT}{te tv:TE}{fr:St}{H1:Hp}{EE:Hp→Prop}
theorem dc_setF {us:List Int}(hl:SqT K H1 a (us.map V.int))(hp:H1 p=none)(hn:us.length≤100000)
  (hs:∀ u∈us,∀ (v:Option V) (fs:List Int) (R:St→Hp→Prop),fs.length≤100000→(∀ v',R (v'::fr) (upd (upd H1 p (.dK (kvI fs))) p (.dK (putK (kvI fs) (Sum.inl u) (V.bl true))))) →
   g (.int u) (v::fr) (upd H1 p (.dK (kvI fs))) fun τ2 H2=>tc τ2 H2 fun b H3=>if b=true then te τ2 H3 fun k H4=>tv τ2 H4 fun w H5=>∃ H6,DPut H5 p k w H6∧R τ2 H6 else R τ2 H3)
  (hd:∀ fs:List Int,fs.Nodup→(∀ x,x∈fs↔x∈us)→fs.length≤us.length→EE (upd H1 p (.dK (kvI fs)))):dcW g tc te tv p (Itt K a) (none::fr) (upd H1 p (.dK [])) EE:=by
 refine dc_tup (xs:=us.map V.int) (fun i τ H=>(∃ v,τ=v::fr)∧∃ fs:List Int,H=upd H1 p (.dK (kvI fs))∧fs.Nodup∧fs.length≤i∧∀ x,x∈fs↔x∈us.take i) ⟨⟨_,rfl⟩,[],rfl,List.nodup_nil,Nat.le_refl _,by simp⟩ ?_ ?_ ?_
 ·rintro i τ H _ ⟨_,fs,rfl,_⟩;exact ((Same.refl H1).upd hp).seqT hl
 ·rintro i x τ H hx ⟨⟨v,rfl⟩,fs,rfl,hnd,hfl,hm⟩;rw[List.getElem?_map] at hx;cases h0:us[i]? with
  | none=>rw[h0] at hx;cases hx
  | some y =>
  rw[h0] at hx;cases Option.some.inj hx;have hi:=(List.getElem?_eq_some_iff.mp h0).1;refine hs y (List.mem_of_getElem? h0) v fs _ (by omega) fun v'=>⟨⟨_,rfl⟩,addI fs y,?_,nd_addI hnd,?_,fun z=>?_⟩
  ·rw[upd_upd,put_kvI]
  ·have:=len_addI (us:=fs) (x:=y);omega
  ·rw[mem_addI,hm,take_snoc h0];simp
 ·rintro τ H ⟨_,fs,rfl,hnd,hfl,hm⟩;rw[List.length_map] at hfl hm;rw[List.take_length] at hm;exact hd fs hnd hm hfl
end
theorem RowsAt.zip {H:Hp}{p:Addr}{as:List Addr}{rows:List (List Int)}(h:RowsAt H p as rows):as.map V.ref=(as.zip rows).map (fun x=>V.ref x.1)∧∀ x∈as.zip rows,H x.1=some (.lst (x.2.map V.int)):=by
 constructor
 ·have:as=(as.zip rows).map (·.1):=by rw[List.map_fst_zip (by rw[h.len];exact Nat.le_refl _)]
  rw[show (as.zip rows).map (fun x=>V.ref x.1)=((as.zip rows).map (·.1)).map V.ref by rw[List.map_map];rfl,← this]
 ·intro x hx;obtain⟨i,hi,e⟩:=List.getElem_of_mem hx;have h1:(as.zip rows)[i]?=some x:=by rw[List.getElem?_eq_getElem hi,e]
  rw[List.getElem?_zip_eq_some] at h1;exact h.row i _ _ h1.1 h1.2
end L2
end
section
set_option Elab.async false
set_option linter.all false
set_option maxRecDepth 100000
namespace L2
open PySem PySem.Spec PyProof.Rows
section
variable {X:Cx}
end
end L2
end
section
set_option Elab.async false
set_option linter.all false
namespace L2
open PySem PySem.Spec PyProof.Rows
section
variable {X:Cx}
def rCatT1 (K:PySem.W.Frag):R2:=fun x y H Q=>∃ a b xs ys,x=.ref a∧y=.ref b∧SqT K H a xs∧SqT K H b ys∧xs.length+ys.length≤sizeLine ∧
 (xs=[]→Q (.ref b) H)∧(xs≠[]→ys=[]→Q (.ref a) H)∧(xs≠[]→ys≠[]→∀ p,H p=none→Q (.ref p) (upd H p (.tup (xs++ys))))
theorem op_catT1:OpR X (binaryOp .Add) (rCatT1 X.K):=by
 intro pins s σ H x y v u Q I rx ry h;obtain⟨a,b,xs,ys,rfl,rfl,ha,hb,hz,q1,q2,q3⟩:=h;cases rx;cases ry;obtain⟨its,r1,p1,_⟩:=I.tuple ha;obtain⟨its2,r2,p2,_⟩:=I.tuple hb;by_cases hx:xs=[]
 ·have hi:its=[]:=r1.nil_iff.mpr hx;subst hi;obtain⟨⟨cls,dd,data,sl⟩,ho,hc,n,hd⟩:=id p1;obtain⟨⟨cls2,dd2,data2,sl2⟩,ho2,hc2,n2,hd2⟩:=id p2;simp only at hc hd hc2 hd2;subst hc hd hc2 hd2;exact concat_meets ⟨_,ho,rfl⟩ ⟨_,ho2,rfl⟩ noFill_tuple_add seq_tuple_add PySem.F.slot_tuple_add PySem.F.entry_tuple_add (PySem.F.args_tuple_add_2 _ _)
   (tuple_addW0 _ _ _ _ _ _ _ _ _ _ (by simp)) ⟨ho,ho2,⟨.ref b,H,I,rfl,q1 hx⟩⟩
 ·refine HT.cat_tup p1 p2 (fun z=>hx (r1.nil_iff.mp z)) (fun z=>⟨.ref a,H,I,rfl,q2 hx (r2.nil_iff.mp z)⟩) (fun z=>?_) (by rw[← r1.length,← r2.length];exact hz);refine⟨.ref s.heap.objs.size,_,I.laid (t':=s.toks) (o:=.tup (xs++ys)) (fun b ob q=>Heap.get?_push_of_some _ q) (Nat.le_refl _) ?_,rfl,q3 hx (fun w=>z (r2.nil_iff.mpr w)) _ (I.hok.fresh (Nat.le_refl _))⟩;exact⟨by rw[List.length_append];exact hz,_,r1.append r2,IsTup.new _ _⟩
end
end L2
end
section
set_option Elab.async false
set_option linter.all false
set_option maxRecDepth 100000
namespace L2
open PySem PySem.Spec PyProof.Rows
section
variable {A:Addr→Prop}{d p:Addr}{H H':Hp}
end
section
variable {X:Cx}{A:Addr→Prop}{P:St→Hp→Prop}{c k m m' n:Nat}{e:Expr}{es:List Expr}{te:TE}{j:Option Str}{pos p2:Pos}
end
end L2
end
section
set_option Elab.async false
set_option linter.all false
set_option maxRecDepth 100000
namespace L2
open PySem
section
variable {n:Int}{ts us:List (Int×Int)}
theorem IsTree.web (T:IsTree n ts us)(hw:IsWeb n ts):IsWeb n us:=by
 have hok:=T.ok hw.rng;have hl:=T.len;have h60:=hw.n60;have h3:=hw.n3;refine⟨h3,h60,hok,T.srt,by omega,fun S hS u v u0 u1 v0 v1 hu=>?_⟩;obtain⟨par,rank,R⟩:=T.rooted hw.rng u0 u1;have key:∀ (m:Nat) (x:Int),rank x≤m→0≤x→x<n→S x:=by
  intro m;induction m with
  | zero =>
   intro x hx x0 x1;by_cases hxu:x=u
   ·rw[hxu];exact hu
   ·have:=(R.up x x0 x1 hxu).2.2.1;omega
  | succ m ih =>
   intro x hx x0 x1;by_cases hxu:x=u
   ·rw[hxu];exact hu
   ·obtain⟨q0,q1,q2,q3⟩:=R.up x x0 x1 hxu;have hp:=ih (par x) (by omega) q0 q1;rcases (mem_nb_iff hok).mp q3 with h | h
    ·exact (hS _ h).mpr hp
    ·exact (hS _ h).mp hp
 exact key (rank v) v (Nat.le_refl _) v0 v1
theorem IsWeb.reach (hw:IsWeb n us){u x:Int}(u0:0≤u)(u1:u<n)(x0:0≤x)(x1:x<n):Rch us (·∈rInts 0 n.toNat) u x:=by
 refine hw.conn (fun y=>Rch us (·∈rInts 0 n.toNat) u y) (fun t ht=>?_) u x u0 u1 x0 x1 .base;obtain⟨h0,h1,h2⟩:=hw.rng t ht;have e:t.2∈nb us t.1:=mem_nb.mpr (.inl ht);exact⟨fun h=>h.step e (mem_rInts.mpr ⟨by omega,by omega⟩),fun h=>h.step ((nb_sym hw.rng).mp e) (mem_rInts.mpr ⟨by omega,by omega⟩)⟩
end
end L2
end
section
set_option Elab.async false
set_option linter.all false
set_option maxRecDepth 100000
namespace Srt
open PySem PyProof.Rows
section
variable {prog:Program}{w:World}{A:Around}{E:Value→Shared→Prop}{s:Shared}{e it l:Addr}{n k:Nat}{P:Nat→Value→Prop}{S:Nat→Heap→Prop}{old:Value}
end
open AutoSeq1 (wpAny_loadPart')
section
variable {prog:Program}{w:World}{A:Around}{E:Value→Shared→Prop}{s:Shared}
end
end Srt
end
section
set_option Elab.async false
set_option linter.all false
set_option maxRecDepth 100000
namespace L2
open PySem PySem.Spec PyProof.Rows
section
variable {X:Cx}{K:PySem.W.Frag}{elts:List Expr}{k:Nat}{tpos p pos:Pos}{l:Expr}{t:TA}{y:Str}
end
end L2
end
section
set_option Elab.async false
set_option linter.all false
set_option maxRecDepth 100000
namespace L2
open PySem PySem.Spec PyProof.Rows
section
variable {X:Cx}
end
end L2
end
section
set_option Elab.async false
set_option linter.all false
set_option maxRecDepth 100000
namespace L2
open PySem
section
variable {n g:Int}{us ts:List (Int×Int)}{par:Int→Int}{rank:Int→Nat}
theorem lex_ext {l l':List (Int×Int)}(h:l.Pairwise Lex)(h':l'.Pairwise Lex)(e:∀ x,x∈l↔x∈l'):l=l':=by
 have nd:∀ {m:List (Int×Int)},m.Pairwise Lex→m.Nodup:=fun hm=>hm.imp fun {a b} hab e'=>by subst e';unfold Lex at hab;omega
 refine List.Perm.eq_of_pairwise (le:=Lex) (fun a b _ _ x y=>by unfold Lex at x y;omega) h h' ?_;exact (List.perm_ext_iff_of_nodup (nd h) (nd h')).mpr e
end
def dV:V→PyData
 | .int i=>.int i
 | _=>.none
theorem neLT {K:PySem.W.Frag}{H:Hp}{a b:Addr}{ps ps':List (Addr×List Int)}{ts:List (Int×Int)}{Q:VK}(h1:H a=some (.lst (ps.map fun x=>V.ref x.1)))(p1:PsAt H ps ts)(h2:H b=some (.lst (ps'.map fun x=>V.ref x.1)))(p2:PsAt H ps' ts)(q:Q (.bl false) H):rEqD K true (.ref a) (.ref b) H Q:=by
 have d1:Dt K H (.ref a) (.list ((ts.map tl).map tI)):=.lst (SqL.of h1) (by rw[← p1.eq];exact Dts.tups fun x hx=>SqT.of (p1.to x hx));have d2:Dt K H (.ref b) (.list ((ts.map tl).map tI)):=.lst (SqL.of h2) (by rw[← p2.eq];exact Dts.tups fun x hx=>SqT.of (p2.to x hx));have sh:SeqAt.shaped (.list ((ts.map tl).map tI))=true:=by
  unfold SeqAt.shaped;rw[PyData.canLay0,PyData.depth,canLay_tI];have:=depth_tI (ts.map tl);rw[Bool.true_and,decide_eq_true_iff];omega
 refine⟨_,_,d1,d2,sh,sh,?_⟩;have e:PyData.eqv (.list ((ts.map tl).map tI)) (.list ((ts.map tl).map tI))=true:=by rw[PyData.eqv,eqv_TT];exact decide_eq_true rfl
 rw[e];exact q
end L2
end
section
set_option Elab.async false
set_option linter.all false
set_option maxRecDepth 100000
namespace L2
open PySem PySem.Spec PyProof.Rows
section
variable {X:Cx}
end
def ForJ (g:TG)(tb:TS)(D:Ends)(σ:St)(J:It)(H1:Hp):Prop:=tFor (fun _ H R=>R J H) g tb D σ H1
theorem tFor_eq {wi:TI}{g:TG}{tb:TS}{D:Ends}{σ:St}{H:Hp}:tFor wi g tb D σ H=wi σ H (fun J H1=>ForJ g tb D σ J H1):=rfl
end L2
end
section
set_option Elab.async false
set_option linter.all false
set_option maxRecDepth 100000
namespace L2
open PySem
section
variable {n:Int}{ts:List (Int×Int)}{A B:Int→Prop}{u v x:Int}
theorem Rch.mono' (h:Rch ts A u x)(k:∀ y,A y→B y):Rch ts B u x:=by
 induction h with
 | base=>exact .base
 | step _ hy ha ih=>exact .step ih hy (k _ ha)
end
end L2
end
section
set_option Elab.async false
set_option linter.all false
set_option maxRecDepth 100000
namespace L2
open PySem
structure TB where
 vs:List Int
 ws:List Int
 par:Int→Int
section
variable {n g p:Int}{ts:List (Int×Int)}{bs:List Int}{s:TB}{j:Nat}
end
end L2
end
section
set_option Elab.async false
set_option linter.all false
set_option maxRecDepth 100000
namespace L2
open PySem
section
variable {n:Int}{ts gs us:List (Int×Int)}{ins:List Int}
theorem dg_add {a b:Int}(hab:a≠b)(v:Int):(nb (gs++[mm a b]) v).length=(nb gs v).length+if v=a∨v=b then 1 else 0:=by
 rw[nb_snoc,List.length_append];congr 1;rcases mm_cases hab with ⟨_,e⟩ | ⟨_,e⟩
 ·rw[e];dsimp only;by_cases h1:b=v
  ·rw[if_pos h1,if_pos (.inr h1.symm)];rfl
  ·rw[if_neg h1];by_cases h2:a=v
   ·rw[if_pos h2,if_pos (.inl h2.symm)];rfl
   ·rw[if_neg h2,if_neg (fun h=>h.elim (fun z=>h2 z.symm) fun z=>h1 z.symm)];rfl
 ·rw[e];dsimp only;by_cases h1:a=v
  ·rw[if_pos h1,if_pos (.inl h1.symm)];rfl
  ·rw[if_neg h1];by_cases h2:b=v
   ·rw[if_pos h2,if_pos (.inr h2.symm)];rfl
   ·rw[if_neg h2,if_neg (fun h=>h.elim (fun z=>h1 z.symm) fun z=>h2 z.symm)];rfl
theorem dg_out (G:Grow ts ins gs){b:Int}(hb:b∉ins):(nb gs b).length=0:=by
 rw[List.length_eq_zero_iff];refine List.eq_nil_iff_forall_not_mem.mpr fun y hy=>?_
 rcases mem_nb.mp hy with q | ⟨q,_⟩
 ·exact hb (G.ends _ q).1
 ·exact hb (G.ends _ q).2
theorem dg_pos (G:Grow ts ins gs):2≤ins.length→∀ v∈ins,1≤(nb gs v).length:=by
 induction G with
 | one s=>intro h;simp at h
 | @add ins us a b h ha hb hn ih =>
  intro _ v hv;have hab:a≠b:=fun e=>hb (e ▸ ha)
  rw[dg_add hab];rcases List.mem_append.mp hv with hv | hv
  ·by_cases hl:2≤ins.length
   ·have:=ih hl v hv;omega
   ·have h1:ins.length=1:=by have:=h.len;omega
    obtain⟨x,rfl⟩:=List.length_eq_one_iff.mp h1;rw[List.mem_singleton.mp hv,List.mem_singleton.mp ha,if_pos (.inl rfl)];omega
  ·rw[List.mem_singleton.mp hv,if_pos (.inr rfl)];omega
theorem grow_busy (hok:TsOk n ts)(G:Grow ts ins gs):3≤ins.length→(∃ u,(u∈ins∧2≤(nb gs u).length)∧∀ x,x∈ins→2≤(nb gs x).length→Rch ts (fun z=>z∈ins∧2≤(nb gs z).length) u x) ∧
  ∀ x∈ins,(nb gs x).length<2→∃ y∈nb ts x,y∈ins∧2≤(nb gs y).length:=by
 induction G with
 | one s=>intro h;simp at h
 | @add ins us a b h ha hb hn ih =>
  intro hl;rw[List.length_append,List.length_singleton] at hl;have hab:a≠b:=fun e=>hb (e ▸ ha)
  have hpos:=dg_pos h (by omega);have dgb:=dg_out h hb;have ea:2≤(nb (us++[mm a b]) a).length:=by rw[dg_add hab,if_pos (.inl rfl)];have:=hpos a ha;omega
  have eb:(nb (us++[mm a b]) b).length<2:=by rw[dg_add hab,if_pos (.inr rfl)];omega
  have hba:a∈nb ts b:=(nb_sym hok).mp hn;have ha':a∈ins++[b]:=List.mem_append_left _ ha;by_cases h3:3≤ins.length
  ·obtain⟨⟨u,⟨hu1,hu2⟩,hur⟩,hlf⟩:=ih h3;have mono:∀ z,z∈ins∧2≤(nb us z).length→z∈ins++[b]∧2≤(nb (us++[mm a b]) z).length:=fun z hz=>⟨List.mem_append_left _ hz.1,by rw[dg_add hab];omega⟩
   refine⟨⟨u,mono u ⟨hu1,hu2⟩,fun x hx hx2=>?_⟩,fun x hx hx2=>?_⟩
   ·rcases List.mem_append.mp hx with hx | hx
    ·by_cases hd:2≤(nb us x).length
     ·exact (hur x hx hd).mono' mono
     ·have hxa:x=a:=by
       rw[dg_add hab] at hx2;split at hx2
       ·rename_i q;rcases q with q | q
        ·exact q
        ·rw[q] at hx;exact absurd hx hb
       ·omega
      subst hxa;obtain⟨c,hc,hci,hcd⟩:=hlf x hx (by omega);exact .step ((hur c hci hcd).mono' mono) ((nb_sym hok).mp hc) ⟨ha',ea⟩
    ·rw[List.mem_singleton.mp hx] at hx2;omega
   ·rcases List.mem_append.mp hx with hx | hx
    ·have hd:(nb us x).length<2:=by rw[dg_add hab] at hx2;omega
     obtain⟨c,hc,hci,hcd⟩:=hlf x hx hd;exact⟨c,hc,mono c ⟨hci,hcd⟩⟩
    ·rw[List.mem_singleton.mp hx];exact⟨a,hba,ha',ea⟩
  ·have h2:ins.length=2:=by omega
   cases h with
   | one s=>simp at h2
   | @add ins us c d h' hc hd hcd =>
    rw[List.length_append,List.length_singleton] at h2;cases h' with
    | @add _ _ _ _ h'' _ _ _=>have:=h''.len;rw[List.length_append,List.length_singleton] at h2;omega
    | one s =>
     have ecs:=List.mem_singleton.mp hc;subst ecs;have hcd':c≠d:=fun e=>hd (e ▸ hc)
     have hmem:∀ z,z∈[c]++[d]↔z=c∨z=d:=fun z=>by simp
     have e0:∀ z,(nb ([]++[mm c d]++[mm a b]) z).length=(if z=c∨z=d then 1 else 0)+if z=a∨z=b then 1 else 0:=fun z=>by
      rw[dg_add hab,dg_add hcd',show (nb ([]:List (Int×Int)) z).length=0 from rfl,Nat.zero_add]
     refine⟨⟨a,⟨ha',ea⟩,fun x hx hx2=>?_⟩,fun x hx hx2=>?_⟩
     ·have:x=a:=by
       rw[e0] at hx2;have hxb:x≠b:=fun e=>by rw[e] at hx2;rw[if_neg (c:=b=c∨b=d) (fun q=>hb ((hmem b).mpr q))] at hx2;split at hx2<;>omega
       by_cases q:x=a
       ·exact q
       ·rw[if_neg (c:=x=a∨x=b) (fun k=>k.elim q hxb)] at hx2;split at hx2<;>omega
      rw[this];exact .base
     ·refine⟨a,?_,ha',ea⟩;rcases List.mem_append.mp hx with hx | hx
      ·have hxa:x≠a:=fun e=>by rw[e] at hx2;omega
       rcases (hmem x).mp hx with rfl | rfl
       ·rcases (hmem a).mp ha with q | q
        ·exact absurd q.symm hxa
        ·rw[q];exact hcd
       ·rcases (hmem a).mp ha with q | q
        ·rw[q];exact (nb_sym hok).mp hcd
        ·exact absurd q.symm hxa
      ·rw[List.mem_singleton.mp hx];exact hba
end
end L2
end
section
set_option Elab.async false
set_option linter.all false
set_option maxRecDepth 100000
namespace L2
open PySem
section
variable {n:Int}{ts T T' T'':List (Int×Int)}{put taken:Int×Int}
theorem web_tree (hw:IsWeb n ts):∃ ins gs,Grow ts ins gs∧(ins.length:Int)=n∧∀ x∈ins,0≤x∧x<n:=by
 have h3:=hw.n3;have:∀ k:Nat,(k:Int)+1≤n→∃ ins gs,Grow ts ins gs∧ins.length=k+1∧∀ x∈ins,0≤x∧x<n:=by
  intro k;induction k with
  | zero=>exact fun _=>⟨[0],[],.one 0,rfl,fun x hx=>by rw[List.mem_singleton.mp hx];omega⟩
  | succ k ih =>
   intro hk;obtain⟨ins,gs,g,hl,hr⟩:=ih (by omega);obtain⟨a,ha,b,hb,hn⟩:=g.open hw hr (by omega);refine⟨_,_,.add g ha hn hb,by rw[List.length_append,hl];rfl,fun x hx=>?_⟩;rcases List.mem_append.mp hx with hx | hx
   ·exact hr x hx
   ·rw[List.mem_singleton.mp hx];have:=nb_rng hw.rng hb;omega
 obtain⟨ins,gs,g,hl,hr⟩:=this (n.toNat-1) (by omega);exact⟨ins,gs,g,by omega,hr⟩
theorem nb_mono (hok:TsOk n ts)(hs:∀ t∈T,t∈ts){a b:Int}(h:b∈nb T a):b∈nb ts a:=by
 have hT:TsOk n T:=fun t ht=>hok t (hs t ht)
 rw[mem_nb_iff hok];exact ((mem_nb_iff hT).mp h).imp (hs _) (hs _)
theorem Grow.mono {ins:List Int}{gs:List (Int×Int)}(g:Grow T ins gs)(hok:TsOk n ts)(hs:∀ t∈T,t∈ts):Grow ts ins gs:=by
 induction g with
 | one s=>exact .one s
 | add _ ha hb hn ih=>exact .add ih ha hb (nb_mono hok hs hn)
end
end L2
namespace L2
open PySem
section
variable {lv:List (Int×Int)→Nat}{n:Int}{A B T:List (Int×Int)}{put taken:Int×Int}
end
end L2
end
section
set_option Elab.async false
set_option linter.all false
set_option maxRecDepth 100000
namespace L2
open PySem
section
variable {n:Int}{ts:List (Int×Int)}{us bs:List Int}
end
end L2
end
section
set_option Elab.async false
set_option linter.all false
set_option maxRecDepth 100000
namespace L2
open PySem PySem.Spec PyProof.Rows
section
variable {H:Hp}{n:Int}
theorem PsAt.inj {ps ps':List (Addr×List Int)}{us us':List (Int×Int)}(h:PsAt H ps us)(h':PsAt H ps' us')(e:ps.map (fun x=>V.ref x.1)=ps'.map fun x=>V.ref x.1):us=us':=by
 have hl:us.length=us'.length:=by
  have:=congrArg List.length e;rw[List.length_map,List.length_map,h.len,h'.len] at this;exact this
 refine List.ext_getElem? fun i=>?_
 rcases Nat.lt_or_ge i us.length with hi | hi
 ·obtain⟨v,h1⟩:∃ v,(ps.map fun x=>V.ref x.1)[i]?=some v:=⟨_,List.getElem?_eq_getElem (by rw[List.length_map,h.len];exact hi)⟩
  obtain⟨b,t,e1,e2,e3⟩:=h.get h1;rw[e] at h1;obtain⟨b',t',e1',e2',e3'⟩:=h'.get h1;rw[e1] at e1';cases e1';rw[e3] at e3';injection e3' with e4
  injection e4 with e5
  have e6:=List.cons.inj e5;have e7:=List.cons.inj e6.2;have:t=t':=Prod.ext (V.int.inj e6.1) (V.int.inj e7.1);rw[e2,e2',this]
 ·rw[List.getElem?_eq_none hi,List.getElem?_eq_none (by omega)]
theorem TsAt.inj {a:Addr}{us us':List (Int×Int)}(h:TsAt H a us)(h':TsAt H a us'):us=us':=by
 obtain⟨ps,e,hp⟩:=h;obtain⟨ps',e',hp'⟩:=h';rw[e] at e';injection e' with e2
 injection e2 with e3
 exact hp.inj hp' e3
end
end L2
end
section
namespace L2
theorem tV0 {v:V}{σ:St}{H:Hp}{Q:VK}:tVar 0 (some v::σ) H Q=Q v H:=propext ⟨fun ⟨_,e,q⟩=>by cases e;exact q,fun q=>⟨_,rfl,q⟩⟩
theorem gN0 {v:V}{σ:St}{H:Hp}{Q:St→Hp→Prop}{b:Option V}:gName 0 v (b::σ) H Q=Q (some v::σ) H:=rfl
theorem tV1 {v:V}{σ:St}{H:Hp}{Q:VK}{a0:Option V}:tVar 1 (a0::some v::σ) H Q=Q v H:=propext ⟨fun ⟨_,e,q⟩=>by cases e;exact q,fun q=>⟨_,rfl,q⟩⟩
theorem gN1 {v:V}{σ:St}{H:Hp}{Q:St→Hp→Prop}{b:Option V}{a0:Option V}:gName 1 v (a0::b::σ) H Q=Q (a0::some v::σ) H:=rfl
theorem tV2 {v:V}{σ:St}{H:Hp}{Q:VK}{a0 a1:Option V}:tVar 2 (a0::a1::some v::σ) H Q=Q v H:=propext ⟨fun ⟨_,e,q⟩=>by cases e;exact q,fun q=>⟨_,rfl,q⟩⟩
theorem gN2 {v:V}{σ:St}{H:Hp}{Q:St→Hp→Prop}{b:Option V}{a0 a1:Option V}:gName 2 v (a0::a1::b::σ) H Q=Q (a0::a1::some v::σ) H:=rfl
theorem tV3 {v:V}{σ:St}{H:Hp}{Q:VK}{a0 a1 a2:Option V}:tVar 3 (a0::a1::a2::some v::σ) H Q=Q v H:=propext ⟨fun ⟨_,e,q⟩=>by cases e;exact q,fun q=>⟨_,rfl,q⟩⟩
theorem gN3 {v:V}{σ:St}{H:Hp}{Q:St→Hp→Prop}{b:Option V}{a0 a1 a2:Option V}:gName 3 v (a0::a1::a2::b::σ) H Q=Q (a0::a1::a2::some v::σ) H:=rfl
theorem tV4 {v:V}{σ:St}{H:Hp}{Q:VK}{a0 a1 a2 a3:Option V}:tVar 4 (a0::a1::a2::a3::some v::σ) H Q=Q v H:=propext ⟨fun ⟨_,e,q⟩=>by cases e;exact q,fun q=>⟨_,rfl,q⟩⟩
theorem gN4 {v:V}{σ:St}{H:Hp}{Q:St→Hp→Prop}{b:Option V}{a0 a1 a2 a3:Option V}:gName 4 v (a0::a1::a2::a3::b::σ) H Q=Q (a0::a1::a2::a3::some v::σ) H:=rfl
theorem tV5 {v:V}{σ:St}{H:Hp}{Q:VK}{a0 a1 a2 a3 a4:Option V}:tVar 5 (a0::a1::a2::a3::a4::some v::σ) H Q=Q v H:=propext ⟨fun ⟨_,e,q⟩=>by cases e;exact q,fun q=>⟨_,rfl,q⟩⟩
theorem gN5 {v:V}{σ:St}{H:Hp}{Q:St→Hp→Prop}{b:Option V}{a0 a1 a2 a3 a4:Option V}:gName 5 v (a0::a1::a2::a3::a4::b::σ) H Q=Q (a0::a1::a2::a3::a4::some v::σ) H:=rfl
theorem tV6 {v:V}{σ:St}{H:Hp}{Q:VK}{a0 a1 a2 a3 a4 a5:Option V}:tVar 6 (a0::a1::a2::a3::a4::a5::some v::σ) H Q=Q v H:=propext ⟨fun ⟨_,e,q⟩=>by cases e;exact q,fun q=>⟨_,rfl,q⟩⟩
theorem gN6 {v:V}{σ:St}{H:Hp}{Q:St→Hp→Prop}{b:Option V}{a0 a1 a2 a3 a4 a5:Option V}:gName 6 v (a0::a1::a2::a3::a4::a5::b::σ) H Q=Q (a0::a1::a2::a3::a4::a5::some v::σ) H:=rfl
theorem tV7 {v:V}{σ:St}{H:Hp}{Q:VK}{a0 a1 a2 a3 a4 a5 a6:Option V}:tVar 7 (a0::a1::a2::a3::a4::a5::a6::some v::σ) H Q=Q v H:=propext ⟨fun ⟨_,e,q⟩=>by cases e;exact q,fun q=>⟨_,rfl,q⟩⟩
theorem gN7 {v:V}{σ:St}{H:Hp}{Q:St→Hp→Prop}{b:Option V}{a0 a1 a2 a3 a4 a5 a6:Option V}:gName 7 v (a0::a1::a2::a3::a4::a5::a6::b::σ) H Q=Q (a0::a1::a2::a3::a4::a5::a6::some v::σ) H:=rfl
theorem tV8 {v:V}{σ:St}{H:Hp}{Q:VK}{a0 a1 a2 a3 a4 a5 a6 a7:Option V}:tVar 8 (a0::a1::a2::a3::a4::a5::a6::a7::some v::σ) H Q=Q v H:=propext ⟨fun ⟨_,e,q⟩=>by cases e;exact q,fun q=>⟨_,rfl,q⟩⟩
theorem gN8 {v:V}{σ:St}{H:Hp}{Q:St→Hp→Prop}{b:Option V}{a0 a1 a2 a3 a4 a5 a6 a7:Option V}:gName 8 v (a0::a1::a2::a3::a4::a5::a6::a7::b::σ) H Q=Q (a0::a1::a2::a3::a4::a5::a6::a7::some v::σ) H:=rfl
theorem tV9 {v:V}{σ:St}{H:Hp}{Q:VK}{a0 a1 a2 a3 a4 a5 a6 a7 a8:Option V}:tVar 9 (a0::a1::a2::a3::a4::a5::a6::a7::a8::some v::σ) H Q=Q v H:=propext ⟨fun ⟨_,e,q⟩=>by cases e;exact q,fun q=>⟨_,rfl,q⟩⟩
theorem gN9 {v:V}{σ:St}{H:Hp}{Q:St→Hp→Prop}{b:Option V}{a0 a1 a2 a3 a4 a5 a6 a7 a8:Option V}:gName 9 v (a0::a1::a2::a3::a4::a5::a6::a7::a8::b::σ) H Q=Q (a0::a1::a2::a3::a4::a5::a6::a7::a8::some v::σ) H:=rfl
theorem tV10 {v:V}{σ:St}{H:Hp}{Q:VK}{a0 a1 a2 a3 a4 a5 a6 a7 a8 a9:Option V}:tVar 10 (a0::a1::a2::a3::a4::a5::a6::a7::a8::a9::some v::σ) H Q=Q v H:=propext ⟨fun ⟨_,e,q⟩=>by cases e;exact q,fun q=>⟨_,rfl,q⟩⟩
theorem gN10 {v:V}{σ:St}{H:Hp}{Q:St→Hp→Prop}{b:Option V}{a0 a1 a2 a3 a4 a5 a6 a7 a8 a9:Option V}:gName 10 v (a0::a1::a2::a3::a4::a5::a6::a7::a8::a9::b::σ) H Q=Q (a0::a1::a2::a3::a4::a5::a6::a7::a8::a9::some v::σ) H:=rfl
theorem tV11 {v:V}{σ:St}{H:Hp}{Q:VK}{a0 a1 a2 a3 a4 a5 a6 a7 a8 a9 a10:Option V}:tVar 11 (a0::a1::a2::a3::a4::a5::a6::a7::a8::a9::a10::some v::σ) H Q=Q v H:=propext ⟨fun ⟨_,e,q⟩=>by cases e;exact q,fun q=>⟨_,rfl,q⟩⟩
theorem gN11 {v:V}{σ:St}{H:Hp}{Q:St→Hp→Prop}{b:Option V}{a0 a1 a2 a3 a4 a5 a6 a7 a8 a9 a10:Option V}:gName 11 v (a0::a1::a2::a3::a4::a5::a6::a7::a8::a9::a10::b::σ) H Q=Q (a0::a1::a2::a3::a4::a5::a6::a7::a8::a9::a10::some v::σ) H:=rfl
theorem tV12 {v:V}{σ:St}{H:Hp}{Q:VK}{a0 a1 a2 a3 a4 a5 a6 a7 a8 a9 a10 a11:Option V}:tVar 12 (a0::a1::a2::a3::a4::a5::a6::a7::a8::a9::a10::a11::some v::σ) H Q=Q v H:=propext ⟨fun ⟨_,e,q⟩=>by cases e;exact q,fun q=>⟨_,rfl,q⟩⟩
theorem gN12 {v:V}{σ:St}{H:Hp}{Q:St→Hp→Prop}{b:Option V}{a0 a1 a2 a3 a4 a5 a6 a7 a8 a9 a10 a11:Option V}:gName 12 v (a0::a1::a2::a3::a4::a5::a6::a7::a8::a9::a10::a11::b::σ) H Q=Q (a0::a1::a2::a3::a4::a5::a6::a7::a8::a9::a10::a11::some v::σ) H:=rfl
theorem tV13 {v:V}{σ:St}{H:Hp}{Q:VK}{a0 a1 a2 a3 a4 a5 a6 a7 a8 a9 a10 a11 a12:Option V}:tVar 13 (a0::a1::a2::a3::a4::a5::a6::a7::a8::a9::a10::a11::a12::some v::σ) H Q=Q v H:=propext ⟨fun ⟨_,e,q⟩=>by cases e;exact q,fun q=>⟨_,rfl,q⟩⟩
theorem gN13 {v:V}{σ:St}{H:Hp}{Q:St→Hp→Prop}{b:Option V}{a0 a1 a2 a3 a4 a5 a6 a7 a8 a9 a10 a11 a12:Option V}:gName 13 v (a0::a1::a2::a3::a4::a5::a6::a7::a8::a9::a10::a11::a12::b::σ) H Q=Q (a0::a1::a2::a3::a4::a5::a6::a7::a8::a9::a10::a11::a12::some v::σ) H:=rfl
theorem tV14 {v:V}{σ:St}{H:Hp}{Q:VK}{a0 a1 a2 a3 a4 a5 a6 a7 a8 a9 a10 a11 a12 a13:Option V}:tVar 14 (a0::a1::a2::a3::a4::a5::a6::a7::a8::a9::a10::a11::a12::a13::some v::σ) H Q=Q v H:=propext ⟨fun ⟨_,e,q⟩=>by cases e;exact q,fun q=>⟨_,rfl,q⟩⟩
theorem gN14 {v:V}{σ:St}{H:Hp}{Q:St→Hp→Prop}{b:Option V}{a0 a1 a2 a3 a4 a5 a6 a7 a8 a9 a10 a11 a12 a13:Option V}:gName 14 v (a0::a1::a2::a3::a4::a5::a6::a7::a8::a9::a10::a11::a12::a13::b::σ) H Q=Q (a0::a1::a2::a3::a4::a5::a6::a7::a8::a9::a10::a11::a12::a13::some v::σ) H:=rfl
theorem tV15 {v:V}{σ:St}{H:Hp}{Q:VK}{a0 a1 a2 a3 a4 a5 a6 a7 a8 a9 a10 a11 a12 a13 a14:Option V}:tVar 15 (a0::a1::a2::a3::a4::a5::a6::a7::a8::a9::a10::a11::a12::a13::a14::some v::σ) H Q=Q v H:=propext ⟨fun ⟨_,e,q⟩=>by cases e;exact q,fun q=>⟨_,rfl,q⟩⟩
theorem gN15 {v:V}{σ:St}{H:Hp}{Q:St→Hp→Prop}{b:Option V}{a0 a1 a2 a3 a4 a5 a6 a7 a8 a9 a10 a11 a12 a13 a14:Option V}:gName 15 v (a0::a1::a2::a3::a4::a5::a6::a7::a8::a9::a10::a11::a12::a13::a14::b::σ) H Q=Q (a0::a1::a2::a3::a4::a5::a6::a7::a8::a9::a10::a11::a12::a13::a14::some v::σ) H:=rfl
theorem rI0i {g:Int→Int→V}{i j:Int}{H:Hp}{Q:VK}:rI0 g (.int i) (.int j) H Q=Q (g i j) H:=propext ⟨fun ⟨_,_,e,e',q⟩=>by cases e;cases e';exact q,fun q=>⟨_,_,rfl,rfl,q⟩⟩
theorem rIi {C:Int→Int→Prop}{g:Int→Int→V}{i j:Int}{H:Hp}{Q:VK}:rI C g (.int i) (.int j) H Q=(C i j∧Q (g i j) H):=propext ⟨fun ⟨_,_,e,e',q⟩=>by cases e;cases e';exact q,fun q=>⟨_,_,rfl,rfl,q⟩⟩
theorem rIxLr {K:PySem.W.Frag}{p:PySem.Addr}{i:Int}{H:Hp}{Q:VK}:rIxL K (.ref p) (.int i) H Q=∃ xs,SqL K H p xs∧∃ v,atI xs i=some v∧Q v H:=propext ⟨fun ⟨_,_,_,_,e,e',a,b,q⟩=>by cases e;cases e';exact⟨_,a,_,b,q⟩,fun ⟨_,a,_,b,q⟩=>⟨_,_,_,_,rfl,rfl,a,b,q⟩⟩
theorem rIxTr {K:PySem.W.Frag}{p:PySem.Addr}{i:Int}{H:Hp}{Q:VK}:rIxT K (.ref p) (.int i) H Q=∃ xs,SqT K H p xs∧∃ v,atI xs i=some v∧Q v H:=propext ⟨fun ⟨_,_,_,_,e,e',a,b,q⟩=>by cases e;cases e';exact⟨_,a,_,b,q⟩,fun ⟨_,a,_,b,q⟩=>⟨_,_,_,_,rfl,rfl,a,b,q⟩⟩
theorem exB {b:Bool}{P:Bool→Prop}:(∃ k,V.bl b=V.bl k∧P k)=P b:=propext ⟨fun ⟨_,e,q⟩=>by cases e;exact q,fun q=>⟨_,rfl,q⟩⟩
theorem exI {b:Int}{P:Int→Prop}:(∃ k,V.int b=V.int k∧P k)=P b:=propext ⟨fun ⟨_,e,q⟩=>by cases e;exact q,fun q=>⟨_,rfl,q⟩⟩
theorem exR {b:PySem.Addr}{P:PySem.Addr→Prop}:(∃ k,V.ref b=V.ref k∧P k)=P b:=propext ⟨fun ⟨_,e,q⟩=>by cases e;exact q,fun q=>⟨_,rfl,q⟩⟩
theorem rEqI {i j:Int}{H:Hp}{Q:VK}:rEq (.int i) (.int j) H Q=Q (.bl (decide (i=j))) H:=by
 unfold rEq;have e:decide (V.int i=V.int j)=decide (i=j):=by simp
 rw[e];simp[scal]
theorem rNeI {i j:Int}{H:Hp}{Q:VK}:rNe (.int i) (.int j) H Q=Q (.bl (!decide (i=j))) H:=by
 unfold rNe;have e:decide (V.int i=V.int j)=decide (i=j):=by simp
 rw[e];simp[scal]
theorem cLenR {K:PySem.W.Frag}{p:PySem.Addr}{H:Hp}{Q:VK}:cLen K [.ref p] H Q=∃ ys,(SqL K H p ys∨SqT K H p ys)∧Q (.int ys.length) H:=propext ⟨fun ⟨_,ys,e,a,q⟩=>by cases e;exact⟨ys,a,q⟩,fun ⟨ys,a,q⟩=>⟨_,ys,rfl,a,q⟩⟩
theorem al0 {α:Type}{P:List α→Prop}(h:P [])(us:List α)(hl:us.length=0):P us:=by cases us with
 | nil=>exact h
 | cons a r=>cases hl
theorem al1 {α:Type}{P:List α→Prop}(h:∀ a0,P [a0])(us:List α)(hl:us.length=1):P us:=by cases us with
 | nil=>cases hl
 | cons a r=>exact al0 (P:=fun r=>P (a::r)) (h a) r (Nat.succ.inj hl)
theorem al2 {α:Type}{P:List α→Prop}(h:∀ a0 a1,P [a0,a1])(us:List α)(hl:us.length=2):P us:=by cases us with
 | nil=>cases hl
 | cons a r=>exact al1 (P:=fun r=>P (a::r)) (h a) r (Nat.succ.inj hl)
theorem al3 {α:Type}{P:List α→Prop}(h:∀ a0 a1 a2,P [a0,a1,a2])(us:List α)(hl:us.length=3):P us:=by cases us with
 | nil=>cases hl
 | cons a r=>exact al2 (P:=fun r=>P (a::r)) (h a) r (Nat.succ.inj hl)
theorem al4 {α:Type}{P:List α→Prop}(h:∀ a0 a1 a2 a3,P [a0,a1,a2,a3])(us:List α)(hl:us.length=4):P us:=by cases us with
 | nil=>cases hl
 | cons a r=>exact al3 (P:=fun r=>P (a::r)) (h a) r (Nat.succ.inj hl)
end L2
end
section
set_option linter.all false
namespace L2
open PySem
theorem tSeqA {t u:TS}{D:Ends}{σ:St}{H:Hp}:tSeq t u D σ H=(t {D with nx:=u D} σ H):=rfl
theorem tAsgA {te:TE}{g:TG}{D:Ends}{σ:St}{H:Hp}:tAsg te g D σ H=(te σ H fun x H1=>g x σ H1 D.nx):=rfl
theorem tOpA {r:R2}{ta tb:TE}{σ:St}{H:Hp}{Q:VK}:tOp r ta tb σ H Q=(ta σ H fun x H1=>tb σ H1 fun y H2=>r x y H2 Q):=rfl
theorem tCA {v:V}{u0:St}{H:Hp}{Q:VK}:tC v u0 H Q=(Q v H):=rfl
theorem tRetA {te:TE}{D:Ends}{σ:St}{H:Hp}:tRet te D σ H=(te σ H D.rt):=rfl
theorem tRetNA  {D:Ends}{u0:St}{H:Hp}:tRetN D u0 H=(D.rt .non H):=rfl
theorem tIfSA {c:TT}{t u:TS}{D:Ends}{σ:St}{H:Hp}:tIfS c t u D σ H=(c σ H fun b H1=>if b=true then t D σ H1 else u D σ H1):=rfl
theorem tTestA {t:TE}{σ:St}{H:Hp}{Q:Bool→Hp→Prop}:tTest t σ H Q=(t σ H fun x H'=>∃ k,x=.bl k∧Q k H'):=rfl
theorem tBA {t:TE}{σ:St}{H:Hp}{Q:Bool→Hp→Prop}:tB t σ H Q=(t σ H fun x H1=>∃ c,x=.bl c∧Q c H1):=rfl
theorem tNextA  {D:Ends}{σ:St}{H:Hp}:tNext D σ H=(D.nx σ H):=rfl
theorem tDropA {te:TE}{D:Ends}{σ:St}{H:Hp}:tDrop te D σ H=(te σ H fun _ H1=>D.nx σ H1):=rfl
theorem tCallA {sp:Sp}{dvs:List V}{E:XK}{t:TA}{σ:St}{H:Hp}{Q:VK}:tCall sp dvs E t σ H Q=(t σ H fun vs H1=>sp (vs++dvs) H1 Q E):=rfl
theorem tConsA {ta:TE}{tr:TA}{σ:St}{H:Hp}{Q:List V→Hp→Prop}:tCons ta tr σ H Q=(ta σ H fun x H1=>tr σ H1 fun xs H2=>Q (x::xs) H2):=rfl
theorem tNilA  {u0:St}{H:Hp}{Q:List V→Hp→Prop}:tNil u0 H Q=(Q [] H):=rfl
theorem tCBA {r:List V→Hp→VK→Prop}{t:TA}{σ:St}{H:Hp}{Q:VK}:tCB r t σ H Q=(t σ H fun vs H1=>r vs H1 Q):=rfl
theorem tBMA {K:PySem.W.Frag}{T:String}{r:V→List V→Hp→VK→Prop}{to:TE}{t:TA}{σ:St}{H:Hp}{Q:VK}:tBM K T r to t σ H Q=(to σ H fun x H1=>tyV K T x H1∧t σ H1 fun xs H2=>r x xs H2 Q):=rfl
theorem tBM0A {K:PySem.W.Frag}{T:String}{r:V→List V→Hp→VK→Prop}{to:TE}{σ:St}{H:Hp}{Q:VK}:tBM0 K T r to σ H Q=(to σ H fun x H1=>tyV K T x H1∧r x [] H1 Q):=rfl
theorem tTupA {t:TA}{σ:St}{H:Hp}{Q:VK}:tTup t σ H Q=(t σ H fun xs H1=>xs.length≤sizeLine∧∀ p,H1 p=none→Q (.ref p) (upd H1 p (.tup xs))):=rfl
theorem tLstA {t:TA}{σ:St}{H:Hp}{Q:VK}:tLst t σ H Q=(t σ H fun xs H1=>xs.length≤sizeLine∧∀ p,H1 p=none→Q (.ref p) (upd H1 p (.lst xs))):=rfl
theorem gTupA {K:PySem.W.Frag}{n:Nat}{t:TGs}{v:V}{σ:St}{H:Hp}{Q:St→Hp→Prop}:gTup K n t v σ H Q=(∃ a xs,v=.ref a∧SqT K H a xs∧xs.length=n∧t xs σ H Q):=rfl
theorem gConsA {t:TG}{u:TGs}{vs:List V}{σ:St}{H:Hp}{Q:St→Hp→Prop}:gCons t u vs σ H Q=(∃ v r,vs=v::r∧t v σ H fun σ' H'=>u r σ' H' Q):=rfl
theorem gNilA  {vs:List V}{σ:St}{H:Hp}{Q:St→Hp→Prop}:gNil vs σ H Q=(vs=[]∧Q σ H):=rfl
theorem gSubA {to ti:TE}{t:TSet}{v:V}{σ:St}{H:Hp}{Q:St→Hp→Prop}:gSub to ti t v σ H Q=(to σ H fun o H1=>ti σ H1 fun i H2=>t o i v H2 fun H3=>Q σ H3):=rfl
theorem tSlA {r:V→Option Int→Option Int→Hp→VK→Prop}{te:TE}{tl th:TO}{σ:St}{H:Hp}{Q:VK}:tSl r te tl th σ H Q=(te σ H fun x H1=>tl σ H1 fun l H2=>th σ H2 fun u H3=>r x l u H3 Q):=rfl
theorem tNoPartA  {u0:St}{H:Hp}{Q:Option Int→Hp→Prop}:tNoPart u0 H Q=(Q none H):=rfl
theorem tPartA {t:TE}{σ:St}{H:Hp}{Q:Option Int→Hp→Prop}:tPart t σ H Q=(t σ H fun x H1=>∃ i,x=.int i∧Q (some i) H1):=rfl
theorem tAndA {t u:TT}{σ:St}{H:Hp}{Q:Bool→Hp→Prop}:tAnd t u σ H Q=(t σ H fun c H1=>if c=true then u σ H1 Q else Q false H1):=rfl
theorem tOrA {t u:TT}{σ:St}{H:Hp}{Q:Bool→Hp→Prop}:tOr t u σ H Q=(t σ H fun c H1=>if c=true then Q true H1 else u σ H1 Q):=rfl
theorem tNotA {t:TT}{σ:St}{H:Hp}{Q:Bool→Hp→Prop}:tNot t σ H Q=(t σ H fun c H1=>Q (!c) H1):=rfl
theorem tDInA {ty td:TE}{σ:St}{H:Hp}{Q:VK}:tDIn ty td σ H Q=(ty σ H fun y H1=>td σ H1 fun x H2=>∃ a o,x=.ref a∧DGet H2 a y o∧Q (.bl o.isSome) H2):=rfl
theorem tDNotInA {ty td:TE}{σ:St}{H:Hp}{Q:VK}:tDNotIn ty td σ H Q=(ty σ H fun y H1=>td σ H1 fun x H2=>∃ a o,x=.ref a∧DGet H2 a y o∧Q (.bl (!o.isSome)) H2):=rfl
theorem sDPutA {td ty tv:TE}{D:Ends}{σ:St}{H:Hp}:sDPut td ty tv D σ H=(tv σ H fun v H1=>td σ H1 fun x H2=>ty σ H2 fun y H3=>∃ a H4,x=.ref a∧DPut H3 a y v H4∧D.nx σ H4):=rfl
theorem iListA {K:PySem.W.Frag}{tl:TE}{σ:St}{H:Hp}{R:It→Hp→Prop}:iList K tl σ H R=(tl σ H fun x H1=>∃ a,x=.ref a∧(∃ xs,SqL K H1 a xs)∧R (Itl K a) H1):=rfl
theorem iTupA {K:PySem.W.Frag}{tl:TE}{σ:St}{H:Hp}{R:It→Hp→Prop}:iTup K tl σ H R=(tl σ H fun x H1=>∃ a,x=.ref a∧(∃ xs,SqT K H1 a xs)∧R (Itt K a) H1):=rfl
theorem iRng1A {ta:TA}{σ:St}{H:Hp}{R:It→Hp→Prop}:iRng1 ta σ H R=(ta σ H fun vs H1=>∃ j:Int,vs=[.int j]∧-(2 ^ 62)≤j∧j<2 ^ 62∧R (Itr 0 j.toNat) H1):=rfl
theorem iRng2A {ta:TA}{σ:St}{H:Hp}{R:It→Hp→Prop}:iRng2 ta σ H R=(ta σ H fun vs H1=>∃ i j:Int,vs=[.int i,.int j]∧(-(2 ^ 62)≤i∧i<2 ^ 62∧-(2 ^ 62)≤j∧j<2 ^ 62)∧R (Itr i (j-i).toNat) H1):=rfl
theorem tChainA {r r':R2}{ta tb tc:TE}{σ:St}{H:Hp}{Q:VK}:tChain r r' ta tb tc σ H Q=(ta σ H fun x H1=>tb σ H1 fun y H2=>r x y H2 fun z H3=>∃ k,z=.bl k∧(if k=true then tc σ H3 fun w' H4=>r' y w' H4 Q else Q (.bl false) H3)):=rfl
theorem tAndVA {ta tb:TE}{σ:St}{H:Hp}{Q:VK}:tAndV ta tb σ H Q=(ta σ H fun x H1=>∃ c,x=.bl c∧if c=true then tb σ H1 Q else Q (.bl false) H1):=rfl
theorem tOrVA {ta tb:TE}{σ:St}{H:Hp}{Q:VK}:tOrV ta tb σ H Q=(ta σ H fun x H1=>∃ c,x=.bl c∧if c=true then Q (.bl true) H1 else tb σ H1 Q):=rfl
theorem tNotVA {ta:TE}{σ:St}{H:Hp}{Q:VK}:tNotV ta σ H Q=(ta σ H fun x H1=>∃ c,x=.bl c∧Q (.bl (!c)) H1):=rfl
theorem tUnA {r:V→Hp→VK→Prop}{ta:TE}{σ:St}{H:Hp}{Q:VK}:tUn r ta σ H Q=(ta σ H fun x H1=>r x H1 Q):=rfl
theorem tYesA  {u0:St}{H:Hp}{Q:Bool→Hp→Prop}:tYes u0 H Q=(Q true H):=rfl
theorem tDNewKA  {u0:St}{H:Hp}{Q:VK}:tDNewK u0 H Q=(∀ p,H p=none→Q (.ref p) (upd H p (.dK []))):=rfl
theorem tDNewTA  {u0:St}{H:Hp}{Q:VK}:tDNewT u0 H Q=(∀ p,H p=none→Q (.ref p) (upd H p (.dT []))):=rfl
theorem tIsNA {ta:TE}{σ:St}{H:Hp}{Q:VK}:tIsN ta σ H Q=(ta σ H fun x H1=>Q (.bl (decide (x=.non))) H1):=rfl
theorem tNotNA {ta:TE}{σ:St}{H:Hp}{Q:VK}:tNotN ta σ H Q=(ta σ H fun x H1=>Q (.bl (!decide (x=.non))) H1):=rfl
theorem tLCA {own:List Str}{fr:List (Str×Nat)}{wi:TI}{g:TG}{tc:TT}{te:TE}{σ:St}{H:Hp}{Q:VK}:tLC own fr wi g tc te σ H Q=wi σ H fun J H1=>∀ p,H1 p=none→lcW g tc te p J (st0 own fr σ) (upd H1 p (.lst [])) fun H2=>Q (.ref p) H2:=rfl
theorem tDCA {t:Bool}{own:List Str}{fr:List (Str×Nat)}{wi:TI}{g:TG}{tc:TT}{te tv:TE}{σ:St}{H:Hp}{Q:VK}:tDC t own fr wi g tc te tv σ H Q=wi σ H fun J H1=>∀ p,H1 p=none→dcW g tc te tv p J (st0 own fr σ) (upd H1 p (dNew t)) fun H2=>Q (.ref p) H2:=rfl
end L2
end
section
set_option Elab.async false
set_option linter.all false
set_option maxRecDepth 100000
namespace L2
open PySem
end L2
end
section
set_option Elab.async false
set_option linter.all false
set_option maxRecDepth 100000
namespace L2
open PySem PySem.Spec PyProof.Rows
section
variable {X:Cx}
end
end L2
end
section
set_option Elab.async false
set_option linter.all false
set_option maxRecDepth 100000
namespace L2
open PySem PySem.Spec PyProof.Rows
section
variable {X:Cx}
end
end L2
end
section
set_option Elab.async false
set_option linter.all false
set_option maxRecDepth 100000
namespace L2
open PySem PySem.Spec PyProof.Rows
section
variable {X:Cx}{pins:List (Addr×Obj)}{σ:St}{H:Hp}{s:Shared}{d:Addr}{kvs:List (Key×V)}
end
section
variable {X:Cx}{elts:List Expr}{k:Nat}{tpos apos cpos:Pos}{o:Expr}{to:TE}
theorem extendK {e:Expr}{es:List Expr}{t:TA}(K:PySem.W.Frag)(ho:PE X o to)(ha:PA X (e::es) t)(h:X.K=K:=by rfl)
  (hbase:attributeBase o "extend" X.env (eval o X.env)=eval o X.env:=by rfl)
  (hfew:((backTo cpos (starEach (e::es) X.env)).all (fun x=>!x.1) && (backToKw cpos (keywordEach [] X.env)).all (fun x=>x.1.isSome)
   && decide ((e::es).length+([]:List Keyword).length+(if ([]:List Keyword).isEmpty then 0 else 1)<30))=true:=by rfl) (hst:starEach (e::es) X.env=(false,eval e X.env)::starEach es X.env:=by rfl) (hpl:(backTo cpos (starEach es X.env)).any (·.1)=false:=by rfl) (hline:(apos.endLine == cpos.line)=true:=by rfl) :
  PE X (.Call (.Attribute o "extend" apos) (e::es) [] cpos) (tBM K "list" rExtend to t):=by
 subst h;exact pe_bm PySem.F.plainAttrs_list PySem.F.slot_list_extend PySem.F.type_list_extend mt_extend ho ha hbase hfew hline hst hpl
end
end L2
end
section
set_option Elab.async false
set_option linter.all false
set_option maxRecDepth 100000
namespace L2
open PySem
def untB (ts:List (Int×Int))(os:List Int)(x:Int):Bool:=!decide (x∈os) && os.all fun y=>!decide (x∈nb ts y)
def unT (n:Int)(ts:List (Int×Int))(os:List Int):List Int:=(rInts 0 n.toNat).filter (untB ts os)
def unC (ts:List (Int×Int))(os:List Int)(c:Int):Nat:=((nb ts c).filter (untB ts os)).length
def Rdy (n:Int)(ts:List (Int×Int))(os:List Int)(b:Int):Prop:=(0≤b∧b<n)∧(os=[]∨(b∉os∧∃ y∈os,b∈nb ts y))
structure Chs (n:Int)(ts:List (Int×Int))(os:List Int)(b:Int):Prop where
 rdy:Rdy n ts os b
 best:∀ c,Rdy n ts os c→unC ts os c≤unC ts os b∧(c<b→unC ts os c<unC ts os b)
inductive Gwn (n:Int)(ts:List (Int×Int)):Nat→List Int→List (Int×Int)→Prop where
 | nil:Gwn n ts 0 [] []
 | add {k:Nat} {os:List Int} {gs:List (Int×Int)} {b:Int} (h:Gwn n ts k os gs) (hu:unT n ts os≠[]) (c:Chs n ts os b):Gwn n ts (k+1) (os++[b]) (gs++((nb ts b).filter (untB ts os)).map (mm b))
section
variable {n:Int}{ts gs:List (Int×Int)}{os ins:List Int}{k:Nat}
theorem untB_iff {x:Int}:untB ts os x=true↔x∉os∧∀ y∈os,x∉nb ts y:=by
 unfold untB;simp
theorem untB_no {x:Int}:untB ts os x=false↔x∈os∨∃ y∈os,x∈nb ts y:=by
 rw[← Bool.not_eq_true,untB_iff];constructor
 ·intro h;by_cases h1:x∈os
  ·exact .inl h1
  ·by_cases h2:∃ y∈os,x∈nb ts y
   ·exact .inr h2
   ·exact absurd ⟨h1,fun y hy hx=>h2 ⟨y,hy,hx⟩⟩ h
 ·rintro (h | ⟨y,hy,hx⟩) ⟨h1,h2⟩
  ·exact h1 h
  ·exact h2 y hy hx
theorem Chs.uniq {b c:Int}(h:Chs n ts os b)(h':Chs n ts os c):b=c:=by
 have h1:=h.best c h'.rdy;have h2:=h'.best b h.rdy;rcases Int.lt_trichotomy b c with e | e | e
 ·have:=h2.2 e;omega
 ·exact e
 ·have:=h1.2 e;omega
theorem Gwn.len (h:Gwn n ts k os gs):os.length=k:=by
 induction h with
 | nil=>rfl
 | add _ _ _ ih=>rw[List.length_append,ih];rfl
theorem Gwn.uniq {os':List Int}{gs':List (Int×Int)}(h:Gwn n ts k os gs):Gwn n ts k os' gs'→os=os'∧gs=gs':=by
 induction h generalizing os' gs' with
 | nil=>intro h;cases h;exact⟨rfl,rfl⟩
 | add h hu c ih =>
  intro h';cases h' with
  | add h2 hu2 c2 =>
   obtain⟨rfl,rfl⟩:=ih h2;obtain rfl:=c.uniq c2;exact⟨rfl,rfl⟩
theorem Gwn.early (h:Gwn n ts k os gs):∀ j,j<k→∃ b g,Gwn n ts j (os.take j) g∧unT n ts (os.take j)≠[]∧os[j]?=some b∧Chs n ts (os.take j) b:=by
 induction h with
 | nil=>intro j hj;omega
 | @add k os gs b h hu c ih =>
  intro j hj;have hl:=h.len;rcases Nat.lt_or_ge j k with h1 | h1
  ·obtain⟨b',g,r1,r2,r3,r4⟩:=ih j h1;rw[List.take_append_of_le_length (by omega),List.getElem?_append_left (by omega)];exact⟨b',g,r1,r2,r3,r4⟩
  ·obtain rfl:j=k:=by omega
   rw[List.take_append_of_le_length (by omega),List.take_of_length_le (by omega)];exact⟨b,gs,h,hu,by rw[← hl];simp,c⟩
theorem Gwn.same {os':List Int}{gs':List (Int×Int)}{k':Nat}(h:Gwn n ts k os gs)(e:unT n ts os=[])(h':Gwn n ts k' os' gs')(e':unT n ts os'=[]):os=os'∧gs=gs':=by
 rcases Nat.lt_trichotomy k k' with q | rfl | q
 ·obtain⟨b,g,r1,r2,_⟩:=h'.early k q;obtain⟨rfl,_⟩:=h.uniq r1;exact absurd e r2
 ·exact h.uniq h'
 ·obtain⟨b,g,r1,r2,_⟩:=h.early k' q;obtain⟨rfl,_⟩:=h'.uniq r1;exact absurd e' r2
theorem Grow.adds {b:Int}{l:List Int}(g:Grow ts ins gs)(hb:b∈ins)(hl:l.Nodup)(h:∀ x∈l,x∉ins∧x∈nb ts b):Grow ts (ins++l) (gs++l.map (mm b)):=by
 induction l generalizing ins gs with
 | nil=>simpa using g
 | cons x r ih =>
  have h0:=h x (List.mem_cons_self ..);have:=ih (g.add hb h0.1 h0.2) (List.mem_append_left _ hb) (List.nodup_cons.mp hl).2 fun y hy=>by
   refine⟨fun hm=>?_,(h y (List.mem_cons_of_mem _ hy)).2⟩;rcases List.mem_append.mp hm with hm | hm
   ·exact (h y (List.mem_cons_of_mem _ hy)).1 hm
   ·rw[List.mem_singleton.mp hm] at hy;exact (List.nodup_cons.mp hl).1 hy
  simpa [List.append_assoc] using this
theorem dg_adds {b:Int}{l:List Int}(hl:l.Nodup)(h:b∉l)(v:Int):(nb (gs++l.map (mm b)) v).length=(nb gs v).length+if v=b then l.length else if v∈l then 1 else 0:=by
 induction l generalizing gs with
 | nil=>simp
 | cons x r ih =>
  have hx:b≠x:=fun e=>h (e ▸ List.mem_cons_self ..)
  have e:gs++(x::r).map (mm b)=(gs++[mm b x])++r.map (mm b):=by simp
  rw[e,ih (List.nodup_cons.mp hl).2 fun z=>h (List.mem_cons_of_mem _ z),dg_add hx];have hxr:=(List.nodup_cons.mp hl).1;by_cases h1:v=b
  ·rw[if_pos h1,if_pos h1,if_pos (.inl h1),List.length_cons];omega
  ·rw[if_neg h1,if_neg h1];by_cases h2:v=x
   ·rw[if_pos (.inr h2),if_neg (h2 ▸ hxr),if_pos (h2 ▸ List.mem_cons_self ..)]
   ·rw[if_neg (fun z=>z.elim h1 h2)];by_cases h3:v∈r
    ·rw[if_pos h3,if_pos (List.mem_cons_of_mem _ h3)]
    ·rw[if_neg h3,if_neg (fun z=>(List.mem_cons.mp z).elim h2 h3)]
theorem nb_nd (hw:IsWeb n ts)(b:Int):(nb ts b).Nodup:=rising_nd (nb_lt hw.rng hw.srt b)
theorem web_two (hw:IsWeb n ts):∃ u,(0≤u∧u<n)∧2≤(nb ts u).length:=by
 obtain⟨ins,gs,g,hl,hr⟩:=web_tree hw;have h3:=hw.n3;obtain⟨u,⟨hu,h2⟩,_⟩:=(grow_busy hw.rng g (by omega)).1;refine⟨u,hr u hu,Nat.le_trans h2 ?_⟩;have hnd:(nb gs u).Nodup:=by
  obtain⟨_,_⟩:True∧True:=⟨trivial,trivial⟩
  have:=g.tnd;unfold nb;refine List.Pairwise.filterMap _ ?_ ((List.Pairwise.and_mem.mp this));rintro t t' ⟨ht,ht',hne⟩ x hx y hy;have ht1:=hw.rng _ (g.sub hw.rng t ht);have ht2:=hw.rng _ (g.sub hw.rng t' ht');intro e;subst e;apply hne;obtain⟨a,b⟩:=t;obtain⟨c,d⟩:=t';dsimp only at *
  by_cases h1:a=u
  ·rw[if_pos h1] at hx;by_cases h2:c=u
   ·rw[if_pos h2] at hy;cases hx;cases hy;rw[h1,h2]
   ·rw[if_neg h2] at hy;by_cases h3:d=u
    ·rw[if_pos h3] at hy;cases hx;cases hy;omega
    ·rw[if_neg h3] at hy;cases hy
  ·rw[if_neg h1] at hx;by_cases h4:b=u
   ·rw[if_pos h4] at hx;by_cases h2:c=u
    ·rw[if_pos h2] at hy;cases hx;cases hy;omega
    ·rw[if_neg h2] at hy;by_cases h3:d=u
     ·rw[if_pos h3] at hy;cases hx;cases hy;rw[h3,h4]
     ·rw[if_neg h3] at hy;cases hy
   ·rw[if_neg h4] at hx;cases hx
 exact nd_sub hnd fun x hx=>nb_mono hw.rng (g.sub hw.rng) hx
theorem unC_nil {c:Int}:unC ts [] c=(nb ts c).length:=by
 unfold unC;rw[List.filter_eq_self.mpr fun x _=>untB_iff.mpr ⟨by simp,fun y hy=>by simp at hy⟩]
theorem Gwn.grow (hw:IsWeb n ts)(h:Gwn n ts k os gs):0<k→∃ ins,Grow ts ins gs∧(∀ x,x∈ins↔x∈os∨∃ y∈os,x∈nb ts y)∧(∀ x∈ins,0≤x∧x<n)∧os.Nodup∧∀ x∈ins,(2≤(nb gs x).length↔x∈os)∧1≤(nb gs x).length:=by
 induction h with
 | nil=>intro h;omega
 | @add k os gs b h hu c ih =>
  intro _;have hfn:((nb ts b).filter (untB ts os)).Nodup:=List.Pairwise.filter _ (nb_nd hw b);have hbf:b∉(nb ts b).filter (untB ts os):=fun hm=>(nb_rng hw.rng (List.mem_filter.mp hm).1).2.2.2.2 rfl
  rcases Nat.eq_zero_or_pos k with rfl | hk
  ·cases h;obtain⟨u,hu0,hu2⟩:=web_two hw;have hc:=(c.best u ⟨hu0,.inl rfl⟩).1;rw[unC_nil,unC_nil] at hc;have e:(nb ts b).filter (untB ts [])=nb ts b:=List.filter_eq_self.mpr fun x _=>untB_iff.mpr ⟨by simp,fun y hy=>by simp at hy⟩
   rw[e] at hfn hbf ⊢;have g:=(Grow.one (ts:=ts) b).adds (List.mem_singleton.mpr rfl) hfn fun x hx=>⟨fun z=>hbf (List.mem_singleton.mp z ▸ hx),hx⟩
   refine⟨_,g,fun x=>?_,fun x hx=>?_,by simp,fun x hx=>?_⟩
   ·simp
   ·rcases List.mem_append.mp hx with hx | hx
    ·rw[List.mem_singleton.mp hx];exact c.rdy.1
    ·have:=nb_rng hw.rng hx;omega
   ·rw[dg_adds hfn hbf];have e0:(nb ([]:List (Int×Int)) x).length=0:=rfl;rw[e0];by_cases h1:x=b
    ·rw[if_pos h1];simp[h1];omega
    ·rw[if_neg h1];have hx2:x∈nb ts b:=(List.mem_append.mp hx).elim (fun z=>absurd (List.mem_singleton.mp z) h1) id;rw[if_pos hx2];simp[h1]
  ·obtain⟨ins,g,hin,hr,hnd,hdg⟩:=ih hk;have hone:os≠[]:=fun e=>by have:=h.len;rw[e] at this;simp at this;omega
   obtain⟨hb0,hbs⟩:=c.rdy;obtain⟨hbo,y,hy,hby⟩:=hbs.resolve_left hone;have hbi:b∈ins:=(hin b).mpr (.inr ⟨y,hy,hby⟩);have hl0:(ins.length:Int)<n:=by
    obtain⟨z,hz⟩:∃ z,z∈unT n ts os:=List.exists_mem_of_ne_nil _ hu;unfold unT at hz;obtain⟨hz1,hz2⟩:=List.mem_filter.mp hz;have hz3:z∉ins:=fun hm=>by
     have:=untB_no.mpr ((hin z).mp hm);rw[hz2] at this;cases this
    have hsub:(z::ins) ⊆ rInts 0 n.toNat:=fun x hx=>by
     rcases List.mem_cons.mp hx with rfl | hx
     ·exact hz1
     ·have:=hr x hx;exact mem_rInts.mpr ⟨this.1,by omega⟩
    have:=nd_sub (List.nodup_cons.mpr ⟨hz3,g.nd⟩) hsub;rw[rInts_length,List.length_cons] at this;have:=hw.n3;omega
   have hpos:0<((nb ts b).filter (untB ts os)).length:=by
    obtain⟨a,ha,z,hz,hzi⟩:=g.open hw hr hl0;have hao:a∉os:=fun ho=>hzi ((hin z).mpr (.inr ⟨a,ho,hz⟩))
    have hra:Rdy n ts os a:=⟨hr a ha,.inr ⟨hao,((hin a).mp ha).resolve_left hao⟩⟩
    have h1:=(c.best a hra).1;have h2:0<unC ts os a:=by
     refine List.length_pos_of_mem (a:=z) (List.mem_filter.mpr ⟨hz,?_⟩);cases e:untB ts os z with
     | true=>rfl
     | false=>exact absurd ((hin z).mpr (untB_no.mp e)) hzi
    exact Nat.lt_of_lt_of_le h2 h1
   have hnew:∀ x∈(nb ts b).filter (untB ts os),x∉ins∧x∈nb ts b:=fun x hx=>by
    obtain⟨h1,h2⟩:=List.mem_filter.mp hx;refine⟨fun hm=>?_,h1⟩;have:=untB_no.mpr ((hin x).mp hm);rw[h2] at this;cases this
   refine⟨_,g.adds hbi hfn hnew,fun x=>?_,fun x hx=>?_,?_,fun x hx=>?_⟩
   ·rw[List.mem_append,hin];constructor
    ·rintro ((h1 | ⟨z,hz,hx⟩) | h1)
     ·exact .inl (List.mem_append_left _ h1)
     ·exact .inr ⟨z,List.mem_append_left _ hz,hx⟩
     ·exact .inr ⟨b,by simp,(List.mem_filter.mp h1).1⟩
    ·rintro (h1 | ⟨z,hz,hx⟩)
     ·rcases List.mem_append.mp h1 with h1 | h1
      ·exact .inl (.inl h1)
      ·rw[List.mem_singleton.mp h1];exact .inl (.inr ⟨y,hy,hby⟩)
     ·rcases List.mem_append.mp hz with hz | hz
      ·exact .inl (.inr ⟨z,hz,hx⟩)
      ·rw[List.mem_singleton.mp hz] at hx;cases e:untB ts os x with
       | true=>exact .inr (List.mem_filter.mpr ⟨hx,e⟩)
       | false=>exact .inl (untB_no.mp e)
   ·rcases List.mem_append.mp hx with hx | hx
    ·exact hr x hx
    ·have:=nb_rng hw.rng (List.mem_filter.mp hx).1;omega
   ·exact List.nodup_append.mpr ⟨hnd,by simp,fun x hx z hz e=>hbo (by rw[← List.mem_singleton.mp hz,← e];exact hx)⟩
   ·rw[dg_adds hfn hbf];rcases List.mem_append.mp hx with hx | hx
    ·obtain⟨d1,d2⟩:=hdg x hx;by_cases h1:x=b
     ·rw[if_pos h1];exact⟨⟨fun _=>by simp[h1],fun _=>by omega⟩,by omega⟩
     ·rw[if_neg h1,if_neg (fun z=>(hnew x z).1 hx)];exact⟨by simp[h1,d1],by omega⟩
    ·have hxi:=(hnew x hx).1;have hxb:x≠b:=fun e=>hxi (e ▸ hbi)
     rw[if_neg hxb,if_pos hx,dg_out g hxi];have hxo:x∉os:=fun z=>hxi ((hin x).mpr (.inl z))
     simp[hxb,hxo]
theorem Gwn.pos (hw:IsWeb n ts)(h:Gwn n ts k os gs)(hu:unT n ts os≠[]){b:Int}(c:Chs n ts os b):0<unC ts os b:=by
 obtain⟨ins,g,hin,hr,hnd,hdg⟩:=(h.add hu c).grow hw (by omega);rcases Nat.eq_zero_or_pos (unC ts os b) with e | e
 ·exfalso;rcases Nat.eq_zero_or_pos k with rfl | hk
  ·cases h;obtain⟨u,hu0,hu2⟩:=web_two hw;have hc:=(c.best u ⟨hu0,.inl rfl⟩).1;rw[e,unC_nil] at hc;omega
  ·obtain⟨ins0,g0,hin0,hr0,hnd0,hdg0⟩:=h.grow hw hk;have hone:os≠[]:=fun e=>by have:=h.len;rw[e] at this;simp at this;omega
   obtain⟨hb0,hbs⟩:=c.rdy;obtain⟨hbo,y,hy,hby⟩:=hbs.resolve_left hone;have hbi:b∈ins0:=(hin0 b).mpr (.inr ⟨y,hy,hby⟩);have hbi':b∈ins:=(hin b).mpr (.inl (by simp));have e2:(nb ts b).filter (untB ts os)=[]:=List.length_eq_zero_iff.mp e;have d1:=(hdg b hbi').1.mpr (by simp);rw[e2] at d1;simp only[List.map_nil,List.append_nil] at d1;exact hbo ((hdg0 b hbi).1.mp d1)
 ·exact e
theorem Gwn.tree (hw:IsWeb n ts)(h:Gwn n ts k os gs)(e:unT n ts os=[]){us:List (Int×Int)}(p:us.Perm gs)(hs:us.Pairwise fun x y=>HT.lexLt (tl y) (tl x)=false):IsTree n ts us∧os.Nodup∧∀ x,0≤x→x<n→(1<(nb us x).length↔x∈os):=by
 have h3:=hw.n3;have all:∀ x,0≤x→x<n→x∈os∨∃ y∈os,x∈nb ts y:=fun x h0 h1=>by
  cases q:untB ts os x with
  | false=>exact untB_no.mp q
  | true =>
   have hm:x∈unT n ts os:=List.mem_filter.mpr ⟨mem_rInts.mpr ⟨h0,by omega⟩,q⟩;rw[e] at hm;cases hm
 have hk:0<k:=by
  rcases Nat.eq_zero_or_pos k with rfl | hk
  ·cases h;rcases all 0 (by omega) (by omega) with h | ⟨y,h,_⟩<;>cases h
  ·exact hk
 obtain⟨ins,g,hin,hr,hnd,hdg⟩:=h.grow hw hk;have hl:(ins.length:Int)=n:=by
  have h1:rInts 0 n.toNat ⊆ ins:=fun x hx=>by
   have:=mem_rInts.mp hx;exact (hin x).mpr (all x this.1 (by omega))
  have h2:ins ⊆ rInts 0 n.toNat:=fun x hx=>by
   have:=hr x hx;exact mem_rInts.mpr ⟨this.1,by omega⟩
  have a1:=nd_sub (rising_nd (rInts_lt n.toNat)) h1;have a2:=nd_sub g.nd h2;rw[rInts_length] at a1 a2;omega
 refine⟨grow_tree g hw.rng hl hr p hs,hnd,fun x h0 h1=>?_⟩;have hp:(nb us x).length=(nb gs x).length:=(p.filterMap _).length_eq;rw[hp];exact (hdg x ((hin x).mpr (all x h0 h1))).1
end
end L2
end
section
set_option Elab.async false
set_option linter.all false
set_option maxRecDepth 100000
namespace L2
open PySem
section
variable {n:Int}{ts gs:List (Int×Int)}{os:List Int}{k:Nat}
theorem unT_nil:unT n ts []=rInts 0 n.toNat:=List.filter_eq_self.mpr fun x _=>untB_iff.mpr ⟨by simp,fun y hy=>by simp at hy⟩
theorem mem_unT {x:Int}:x∈unT n ts os↔(0≤x∧x<n)∧untB ts os x=true:=by
 unfold unT;rw[List.mem_filter,mem_rInts];constructor
 ·rintro⟨⟨a,b⟩,c⟩;exact⟨⟨a,by omega⟩,c⟩
 ·rintro⟨⟨a,b⟩,c⟩;exact⟨⟨a,by omega⟩,c⟩
theorem fil_unT (hok:TsOk n ts)(c:Int):(nb ts c).filter (fun x=>decide (x∈unT n ts os))=(nb ts c).filter (untB ts os):=by
 refine List.filter_congr fun x hx=>?_
 have:=nb_rng hok hx;by_cases h:untB ts os x=true
 ·rw[h];exact decide_eq_true (mem_unT.mpr ⟨by omega,h⟩)
 ·rw[Bool.not_eq_true] at h;rw[h];exact decide_eq_false fun z=>by rw[(mem_unT.mp z).2] at h;cases h
theorem but_unT {zs:List Int}(hz:∀ x,x∈zs↔x∉os∧∃ y∈os,x∈nb ts y):(rInts 0 n.toNat).filter (fun x=>!decide (x∈os++zs))=unT n ts os:=by
 unfold unT;refine List.filter_congr fun x hx=>?_
 rw[show decide (x∈os++zs)=!untB ts os x from ?_,Bool.not_not];cases h:untB ts os x with
 | true =>
  obtain⟨h1,h2⟩:=untB_iff.mp h;refine decide_eq_false fun z=>?_
  rcases List.mem_append.mp z with z | z
  ·exact h1 z
  ·obtain⟨_,y,hy,hx⟩:=(hz x).mp z;exact h2 y hy hx
 | false =>
  refine decide_eq_true ?_;rw[List.mem_append,hz];by_cases ho:x∈os
  ·exact .inl ho
  ·exact .inr ⟨ho,(untB_no.mp h).resolve_left ho⟩
theorem Gwn.orng (h:Gwn n ts k os gs):∀ x∈os,0≤x∧x<n:=by
 induction h with
 | nil=>intro x hx;cases hx
 | add h hu c ih =>
  intro x hx;rcases List.mem_append.mp hx with hx | hx
  ·exact ih x hx
  ·rw[List.mem_singleton.mp hx];exact c.rdy.1
theorem Gwn.bnd (hw:IsWeb n ts)(h:Gwn n ts k os gs):k≤n.toNat∧gs.length≤n.toNat∧TsOk n gs:=by
 rcases Nat.eq_zero_or_pos k with rfl | hk
 ·cases h;exact⟨Nat.zero_le _,Nat.zero_le _,fun t ht=>by cases ht⟩
 ·obtain⟨ins,g,hin,hr,hnd,_⟩:=h.grow hw hk;have l1:=nd_len hnd h.orng;have l2:=nd_len g.nd hr;have l3:=g.len;rw[h.len] at l1;have h3:=hw.n3;exact⟨by omega,by omega,fun t ht=>hw.rng t (g.sub hw.rng t ht)⟩
theorem Gwn.rdy (hw:IsWeb n ts)(h:Gwn n ts k os gs)(hu:unT n ts os≠[]):∃ a,Rdy n ts os a:=by
 have h3:=hw.n3;rcases Nat.eq_zero_or_pos k with rfl | hk
 ·cases h;exact⟨0,by omega,.inl rfl⟩
 ·obtain⟨ins,g,hin,hr,hnd,hdg⟩:=h.grow hw hk;obtain⟨z,hz⟩:∃ z,z∈unT n ts os:=List.exists_mem_of_ne_nil _ hu;obtain⟨hz1,hz2⟩:=mem_unT.mp hz;have hz3:z∉ins:=fun hm=>by
   have:=untB_no.mpr ((hin z).mp hm);rw[hz2] at this;cases this
  have hl0:(ins.length:Int)<n:=by
   have:=nd_len (List.nodup_cons.mpr ⟨hz3,g.nd⟩) (n:=n) fun x hx=>by
    rcases List.mem_cons.mp hx with rfl | hx
    ·exact hz1
    ·exact hr x hx
   rw[List.length_cons] at this;omega
  obtain⟨a,ha,y,hy,hyi⟩:=g.open hw hr hl0;have hao:a∉os:=fun ho=>hyi ((hin y).mpr (.inr ⟨a,ho,hy⟩))
  exact⟨a,hr a ha,.inr ⟨hao,((hin a).mp ha).resolve_left hao⟩⟩
theorem rdy_touch (hok:TsOk n ts){zs:List Int}(h0:os≠[])(hz:∀ x,x∈zs↔x∉os∧∃ y∈os,x∈nb ts y){b:Int}:b∈zs↔Rdy n ts os b:=by
 rw[hz];constructor
 ·rintro⟨h1,y,hy,hx⟩;have:=nb_rng hok hx;exact⟨by omega,.inr ⟨h1,y,hy,hx⟩⟩
 ·rintro⟨_,h | h⟩
  ·exact absurd h h0
  ·exact h
theorem chs_of (hok:TsOk n ts){bs:List Int}(hb:∀ x,x∈bs↔Rdy n ts os x){b:Int}(h1:b∈bs)
  (h2:∀ c∈bs,(((nb ts c).filter fun x=>decide (x∈unT n ts os)).length:Int)≤((nb ts b).filter fun x=>decide (x∈unT n ts os)).length∧(c<b→(((nb ts c).filter fun x=>decide (x∈unT n ts os)).length:Int)<((nb ts b).filter fun x=>decide (x∈unT n ts os)).length)):Chs n ts os b:=by
 refine⟨(hb b).mp h1,fun c hc=>?_⟩;have:=h2 c ((hb c).mpr hc);rw[fil_unT hok,fil_unT hok] at this;unfold unC;exact⟨by omega,fun h=>by have:=this.2 h;omega⟩
end
end L2
end
section
set_option Elab.async false
set_option linter.all false
set_option maxRecDepth 100000
namespace L2
open PySem PySem.Spec PyProof.Rows PySem.W
theorem LamAt.ne {H:Hp}{tb:Addr}{q:Str}{l c:Nat}(h:LamAt H tb q l c){a:Addr}{o:HO}(e:H a=some o)(ho:∀ ps,o≠.tbl ps):a≠tb:=fun z=>by
 rw[z] at e;rcases h with h | ⟨_,h,_⟩<;>(rw[h] at e;exact ho _ (Option.some.inj e).symm)
theorem LamAt.free {H H':Hp}{tb:Addr}{q:Str}{l c:Nat}(h:LamAt H' tb q l c)(k:Kp tb H H'){x:Addr}(n:H' x=none):H x=none:=by
 cases e:H x with
 | none=>rfl
 | some o =>
  by_cases z:x=tb
  ·rw[z] at n;rcases h with h | ⟨_,h,_⟩<;>(rw[h] at n;cases n)
  ·rw[k x o z e] at n;cases n
theorem LamAt.tp {H H':Hp}{tb:Addr}{q:Str}{l c:Nat}(h:LamAt H tb q l c)(k:Kp tb H H'):Tp H H':=fun a xs e=>k a _ (h.ne e fun _ z=>nomatch z) e
theorem LamAt.lst {H:Hp}{tb:Addr}{q:Str}{l c:Nat}(h:LamAt H tb q l c){a:Addr}{xs:List V}(e:H a=some (.lst xs)){o:HO}:LamAt (upd H a o) tb q l c:=by
 have hn:=h.ne e fun _ z=>nomatch z
 rcases h with h | ⟨c',h1,h2⟩
 ·exact .inl (by rw[upd_ne hn.symm];exact h)
 ·refine .inr ⟨c',by rw[upd_ne hn.symm];exact h1,?_⟩;rw[upd_ne (fun z=>by rw[z,e] at h2;unfold codeX at h2;cases h2)];exact h2
theorem LamAt.kp {H H':Hp}{tb d:Addr}{q:Str}{l c:Nat}(h:LamAt H tb q l c)(k:Kp d H H')(hd:DkAt H d):LamAt H' tb q l c:=by
 obtain⟨ds,e,_⟩:=hd;have hn:=h.ne e fun _ z=>nomatch z
 rcases h with h | ⟨c',h1,h2⟩
 ·exact .inl (k _ _ hn.symm h)
 ·exact .inr ⟨c',k _ _ hn.symm h1,k _ _ (fun z=>by rw[z,e] at h2;unfold codeX at h2;cases h2) h2⟩
theorem DkAt.lam {H H':Hp}{tb d:Addr}{q:Str}{l c:Nat}(hd:DkAt H d)(h:LamAt H tb q l c)(k:Kp tb H H'):DkAt H' d:=by
 obtain⟨ds,e,hl⟩:=hd;exact⟨ds,k _ _ (h.ne e fun _ z=>nomatch z) e,hl⟩
theorem RowsAt.lam {H H':Hp}{tb rp:Addr}{as:List Addr}{rows:List (List Int)}{q:Str}{l c:Nat}(hR:RowsAt H rp as rows)(h:LamAt H tb q l c)(k:Kp tb H H'):RowsAt H' rp as rows:=hR.mono fun a o ha e=>k a o (h.ne e (by
 rcases ha with ha | ha
 ·subst ha;rw[hR.top] at e;cases e;exact fun _ z=>nomatch z
 ·obtain⟨j,hj⟩:=List.mem_iff_getElem?.mp ha;have hjl:=(List.getElem?_eq_some_iff.mp hj).1;rw[hR.len] at hjl;rw[hR.row j a _ hj (List.getElem?_eq_getElem hjl)] at e
  cases e;exact fun _ z=>nomatch z)) e
theorem PsAt.cat {H:Hp}{ps qs:List (Addr×List Int)}{ts us:List (Int×Int)}(h:PsAt H ps ts)(h':PsAt H qs us):PsAt H (ps++qs) (ts++us):=⟨fun x hx=>(List.mem_append.mp hx).elim (h.to x) (h'.to x),by rw[List.map_append,List.map_append,h.eq,h'.eq]⟩
def rCatT2 (K:PySem.W.Frag):R2:=fun x y H Q=>∃ a b xs ys,x=.ref a∧y=.ref b∧H a=some (.tup xs)∧H b=some (.tup ys)∧xs.length+ys.length≤sizeLine∧∀ p H',Same H H'→H' p=some (.tup (xs++ys))→Q (.ref p) H'
theorem op_catT2 {X:Cx}:OpR X (binaryOp .Add) (rCatT2 X.K):=by
 intro pins s σ H x y v u Q I rx ry h;obtain⟨a,b,xs,ys,rfl,rfl,ha,hb,hl,q⟩:=h;exact op_catT1 pins s σ H _ _ v u Q I rx ry ⟨a,b,xs,ys,rfl,rfl,SqT.of ha,SqT.of hb,hl,fun e=>q b H (Same.refl H) (by rw[e];exact hb),fun _ e=>q a H (Same.refl H) (by rw[e,List.append_nil];exact ha),fun _ _ p np=>q p _ ((Same.refl H).upd np) upd_same⟩
theorem catT2K {X:Cx}(K:PySem.W.Frag)(h:X.K=K:=by rfl):OpR X (binaryOp .Add) (rCatT2 K):=by subst h;exact op_catT2
theorem cat1_use {K:PySem.W.Frag}{H:Hp}{a b:Addr}{xs ys:List V}{Q:VK}(ha:H a=some (.tup xs))(hb:H b=some (.tup ys))(hl:xs.length+ys.length≤sizeLine)(q:∀ p H',Same H H'→H' p=some (.tup (xs++ys))→Q (.ref p) H'):rCatT2 K (.ref a) (.ref b) H Q :=
 ⟨a,b,xs,ys,rfl,rfl,ha,hb,hl,q⟩
end L2
end
section
set_option Elab.async false
set_option linter.all false
set_option maxRecDepth 100000
set_option maxHeartbeats 4000000
namespace L2
open PySem PySem.Spec PyProof.Rows PySem.W
theorem law_callT {P:Program}{w:World}{K:PySem.W.Frag}{mg mb:Str→Option Value}{CX:CXT}{k:Nat}{fa a c tb:Addr}{fd:FuncData}{x:Str}{sp:Sp}{s₁:Shared}{vs:List Value}{ns:List Int}
  (KX:K.In s₁.heap) (hns:s₁.heap.Ns mainGlobals mg) (hb:s₁.heap.Ns builtinsNs mb) (hbb:∀ x:Str,x≠"__name__"→mb x=bootBuiltins x) (hlim:s₁.heap.NoLimit) (hg:s₁.gens=#[])
  (hT:s₁.heap.get? tb=some (tabObj #[])) (hC:CodeHd s₁.heap c tb) (hKt:K.lookup tb=none) (hBm:Bm mg s₁.heap)
  (ha:s₁.heap.get? a=some {cls:=.type "list",data:=.seq vs.toArray}) (hi:IntsAre vs ns) (hl:ns.length≤sizeLine) (hr:Room k callerA)
  (F:∀ base:Heap,K.In base→base.Ns mainGlobals mg→CodeHd base c tb→Bm mg base→FnOk P w K mg base CX k fa fd [x] sp) (hbind:∀ (s:Shared) (u:Value),BindsTo s fd ⟨[u],[]⟩ [(x,u)])
  (hsp:∀ H:Hp,H tb=some (.tbl #[])→SqL K H a (ns.map V.int)→sp [.ref a] H (fun v _=>v=.bl true) fun _ _ _=>False)
  (hCX:∀ H e s',CX [] H s₁ (fun _ _ _=>False) e s'→False) :
  codeAny (model P w) callerA (.call (.ref fa) ⟨[.ref a],[]⟩) (fun r s'=>r=.ok (.ret (.bool true))∧OldK s₁.heap s'.heap∧s'.os=s₁.os∧AllBare s'.gens) s₁:=by
 have rv:=vals_ints hi;have lenV:=hi.length;have hat:a≠tb:=fun z=>by rw[z,hT] at ha;cases ha
 have core:∀ H:Hp,H tb=some (.tbl #[])→(∀ b,H b=none∨b=tb∨∃ o xs,H b=some (.frz o (.lst xs)))→SqL K H a (ns.map V.int)→HOk P w H s₁.heap→(∀ b,H b≠none→b=a∨b=tb)→(H a≠none→K.lookup a=none) →
   codeAny (model P w) callerA (.call (.ref fa) ⟨[.ref a],[]⟩) (fun r s'=>r=.ok (.ret (.bool true))∧OldK s₁.heap s'.heap∧s'.os=s₁.os∧AllBare s'.gens) s₁:=by
  intro H htb hO hS hok hA hK;have base_of:∀ {b:Addr} {o:Obj},s₁.heap.get? b=some o→H b=none→(hidT s₁.heap H).get? b=some o:=fun e n=>hidT_get e n
  have noB:∀ {b:Addr} {o:Obj},s₁.heap.get? b=some o→(∀ its n,o.data≠.seq its n)→b≠tb→H b=none:=fun {b o} e d nt=>by
   cases q:H b with
   | none=>rfl
   | some u =>
    rcases hA b (by rw[q];simp) with e' | e'
    ·subst e';rw[ha] at e;cases e;exact absurd rfl (d _ _)
    ·exact absurd e' nt
  have noA:∀ {b:Addr} {o:Obj} {es:Array DictEntry} {ep:Nat},s₁.heap.get? b=some o→o.data=.dict es ep→H b=none:=fun {b o es ep} e d =>
   noB e (fun _ _ z=>by rw[d] at z;cases z) fun z=>by
    rw[z,hT] at e;cases e;cases d
  have nsK:∀ {b:Addr} {m:Str→Option Value},s₁.heap.Ns b m→(hidT s₁.heap H).Ns b m:=fun {b m} ⟨o,es,ep,e,d,r⟩=>⟨o,es,ep,base_of e (noA e d),d,r⟩
  have hKb:K.In (hidT s₁.heap H):=fun b o e=>base_of (KX b o e) (by
   cases q:H b with
   | none=>rfl
   | some u =>
    rcases hA b (by rw[q];simp) with e' | e'
    ·subst e';rw[hK (by rw[q];simp)] at e;cases e
    ·subst e'
     rw[hKt] at e;cases e)
  have hM:Mod K mg (hidT s₁.heap H):=⟨hKb,nsK hns,⟨mb,nsK hb,hbb⟩,let ⟨mc,h1,h2⟩:=hlim;⟨mc,nsK h1,h2⟩⟩
  have hCb:CodeHd (hidT s₁.heap H) c tb:=by
   obtain⟨o,vs,file,tf,flags,tg,inF,text,tt,e,h1,h2,r⟩:=hC;exact⟨o,vs,file,tf,flags,tg,inF,text,tt,base_of e (noB e (fun _ _ z=>by rw[h2] at z;cases z) r.2.2.2.2.2.2),h1,h2,r⟩
  have hBb:Bm mg (hidT s₁.heap H):=by
   obtain⟨bm,o,b1,b2,b3,b4,b5,b6⟩:=hBm;exact⟨bm,o,b1,b2,base_of b3 (noB b3 (fun _ _ z=>by rw[b6] at z;cases z) fun z=>by rw[z,hT] at b3;cases b3;cases b6),b4,b5,b6⟩
  have e0:Env0 P w K mg (hidT s₁.heap H) callerA [] s₁ H:=⟨rfl,hM,fun b o e=>of_hidT e,Nat.le_of_eq (hidT_size _ _),trivial,fun b hb=>absurd (show b∈([]:List Addr) from hb) (by simp),hok,.of_eq hg⟩
  refine codeAny_mono ((F _ hKb (nsK hns) hCb hBb).run callerA [] s₁ H ⟨[.ref a],[]⟩ [.ref a] [.ref a] _ _ hr e0 (hbind s₁ (.ref a)) (.cons rfl .nil) (hsp H htb hS)) fun r s' h=>?_
  cases r with
  | error e=>exact (hCX H e s' h).elim
  | ok fl =>
   cases fl with
   | next=>exact False.elim h
   | brk=>exact False.elim h
   | cont=>exact False.elim h
   | ret u =>
    obtain⟨v,H',os,bare,un,hok',r',q⟩:=h;have q':v=.bl true:=q;subst q';obtain rfl:u=Value.bool true:=r';obtain⟨more,em⟩:=un.tbls tb #[] htb;have et:s'.heap.get? tb=some (tabObj (#[]++more)):=hok' tb _ em;have kp:∀ b o,b≠tb→s₁.heap.get? b=some o→s'.heap.get? b=some o:=fun b o nb e=>by
     cases q:H b with
     | none=>exact un.keep b o e q (by intro z;exact absurd (show b∈([]:List Addr) from z) (by simp)) (by simp)
     | some u =>
      rcases hO b with z | z | ⟨ob,xs,z⟩
      ·rw[q] at z;cases z
      ·exact absurd z nb
      ·have z2:=un.frzs b ob _ z;obtain⟨e1,_⟩:=hok b _ z;obtain⟨e2,_⟩:=hok' b _ z2;rw[e] at e1;cases e1;exact e2
    refine⟨rfl,⟨fun b o e=>?_,fun b o e=>?_⟩,os,bare⟩
    ·by_cases hb:b=tb
     ·subst hb;rw[hT] at e;cases e;exact .inr (.inl ⟨(hC.tab hT).isCodeTable,rfl,#[],more,rfl,et⟩)
     ·exact .inl (kp b o hb e)
    ·by_cases hb:b=tb
     ·exact⟨_,hb ▸ et⟩
     ·exact⟨o,kp b o hb e⟩
 cases hk:K.lookup a with
 | some o =>
  have e:=KX a o hk;rw[ha] at e;cases e;refine core (fun b=>if b=tb then some (.tbl #[]) else none) (if_pos rfl) (fun b=>?_) (.inr ⟨_,vs.toArray,_,hk,rfl,rfl,rfl,by rw[List.size_toArray,lenV];exact hl,by simpa using rv⟩) (fun b u z=>?_) (fun b z=>?_) fun z=>absurd (if_neg hat) z
  ·by_cases hb:b=tb
   ·exact .inr (.inl hb)
   ·exact .inl (if_neg hb)
  ·by_cases hb:b=tb
   ·have z':=(if_pos hb).symm.trans z;cases z';subst hb;exact hT
   ·have z':=(if_neg hb).symm.trans z;cases z'
  ·by_cases hb:b=tb
   ·exact .inr hb
   ·exact absurd (if_neg hb) z
 | none =>
  refine core (fun b=>if b=tb then some (.tbl #[]) else if b=a then some (.frz {cls:=.type "list",data:=.seq vs.toArray} (.lst (ns.map V.int))) else none) (if_pos rfl) (fun b=>?_) (.inl (.inr ⟨{cls:=.type "list",data:=.seq vs.toArray},(if_neg hat).trans (if_pos rfl)⟩)) (fun b u z=>?_) (fun b z=>?_) fun _=>hk
  ·by_cases hb:b=tb
   ·exact .inr (.inl hb)
   ·by_cases hb2:b=a
    ·exact .inr (.inr ⟨_,_,(if_neg hb).trans (if_pos hb2)⟩)
    ·exact .inl ((if_neg hb).trans (if_neg hb2))
  ·by_cases hb:b=tb
   ·have z':=(if_pos hb).symm.trans z;cases z';subst hb;exact hT
   ·have z:=(if_neg hb).symm.trans z;by_cases hb2:b=a
    ·have z':=(if_pos hb2).symm.trans z;cases z';subst hb2;exact⟨ha,by rw[List.length_map];exact hl,vs,_,rv,ha⟩
    ·have z':=(if_neg hb2).symm.trans z;cases z'
  ·by_cases hb:b=tb
   ·exact .inr hb
   ·by_cases hb2:b=a
    ·exact .inl hb2
    ·exact absurd ((if_neg hb).trans (if_neg hb2)) z
theorem walk_ofT {l:PySem.W.OpenLaw}{n k:Nat}{q:Program}{loose:List Str}{XP:(Str→Option Value)→Heap→Prop}{YP:World→Heap→Prop}{d:DefRec}{K:Params→PySem.W.Frag}{sp:PySem.W.Frag→Sp}{x:Str}{c tb:Addr}
  (hn:l.most=some n) (hn2:n≤sizeLine) (hdf:d.params.defaults=[]) (hr:Room k callerA)
  (hY:∀ (w:World) (h:Heap),YP w h→(K w.params).In h∧h.get? tb=some (tabObj #[]))
  (hC:∀ w:World,codeHdIn (K w.params) c tb=true) (hK:∀ w:World,(K w.params).lookup tb=none)
  (F:∀ (w:World) (mg:Str→Option Value) (fa:Addr) (h:Heap),(K w.params).In h→h.Ns mainGlobals mg→mg d.name=some (.ref fa) →
   ∃ fd:FuncData,(∀ (s:Shared) (u:Value),BindsTo s fd ⟨[u],[]⟩ [(x,u)]) ∧
    ∀ base:Heap,(K w.params).In base→base.Ns mainGlobals mg→CodeHd base c tb→Bm mg base→FnOk l.prog w (K w.params) mg base CX0 k fa fd [x] (sp (K w.params)))
  (hsp:∀ (K:PySem.W.Frag) (H:Hp) (a:Addr) (ns:List Int),ns.length≤n→H tb=some (.tbl #[])→SqL K H a (ns.map V.int)→sp K [.ref a] H (fun v _=>v=.bl true) fun _ _ _=>False) :
  PySem.W.WalkO q loose XP YP l.row.toRowW d [] (fun f vs=>PySem.call f vs):=by
 refine Att.attach_call hn hdf fun w s₀ s₁ mg mb fa o pm cd doc a vs ns G Y ho hd hcd hmg hobj hints hlen hg=>?_
 obtain⟨KX,hT⟩:=hY w _ Y;obtain⟨fd,hb,hF⟩:=F w mg fa _ KX G.T.g hmg;exact law_callT KX G.T.g G.T.b G.T.builtins G.T.nolimit hg hT (codeHd_of_K KX (hC w)) (hK w) (let ⟨bm,ob,b1,b2,b3,b4,b5,b6⟩:=G.T.bmain;⟨bm,ob,b1,b2,b3,b4,b5,b6⟩) hobj hints (Nat.le_trans hlen hn2) hr hF hb (fun H h1 h2=>hsp _ H a ns hlen h1 h2) fun _ _ _ z=>z
section
variable {P:Program}{w:World}{K:PySem.W.Frag}{mg:Str→Option Value}{base:Heap}
theorem fun_okC {x qual:Str}{st:Stmt}{f c:Addr}{oc:Value}{od an:Option Addr}{osl:Array (Option Value)}{kV doc pm ct:Value}{N ps:List Str}{k:Nat}{sp:Sp}(l:K.lookup f=some ⟨oc,od,.func (PySem.W.fnOf x qual (defArgs st) (defBody st) (defScope st) .none kV doc pm an (.ref c) ct),osl⟩)
  (hcd:PySem.W.codeIn K (.ref c) qual=true) (S:FnScope N ps (defScope st)) (len:∀ vs H Q E,sp vs H Q E→vs.length=ps.length)
  (hbody:∀ (A:Around) (outer:List Env) (s:Shared) (H:Hp) (vs:List V) (Q:VK) (E:XK),Room k (A.deeper (envOfC qual (defScope st) s.heap.objs.size f (.ref c)))→sp vs H Q E →
   ∃ t,PSs (cxOf CX0 P w K mg base N qual (defScope st) f (.ref c) A outer s H E).nox (defBody st) t∧t {nx:=fun _ H'=>Q .non H',rt:=Q} (start N vs) H) :
  FnOk P w K mg base CX0 (k+1) f (PySem.W.fnOf x qual (defArgs st) (defBody st) (defScope st) .none kV doc pm an (.ref c) ct) ps sp:=by
 refine fn_of l hcd S len fun A outer s H vs Q E hr hsp=>?_
 obtain⟨t,h,q⟩:=hbody A outer s H vs Q E hr hsp;exact⟨t,h.nox,q⟩
end
end L2
end
section
set_option Elab.async false
set_option linter.all false
set_option maxRecDepth 100000
set_option maxHeartbeats 4000000
set_option format.width 230
set_option pp.deepTerms true
set_option pp.maxSteps 20000
namespace K59
open PySem L2
local macro_rules | `(tactic| walk_at "rd")=>`(tactic| ((try simp only[L2.start,st0,List.map_cons,List.map_nil,List.length_cons,List.length_nil,List.replicate,List.cons_append,List.nil_append,Nat.reduceAdd,Nat.reduceSub,List.getElem?_cons_zero,List.getElem?_cons_succ,Option.join_some]);simp only[↓tSeqA,↓tAsgA,↓tOpA,↓tCA,↓tRetA,↓tRetNA,↓tIfSA,↓tTestA,↓tBA,↓tNextA,↓tDropA,↓tCallA,↓tConsA,↓tNilA,↓tCBA,↓tBMA,↓tBM0A,↓tTupA,↓tLstA,↓gTupA,↓gConsA,↓gNilA,↓gSubA,↓tSlA,↓tNoPartA,↓tPartA,↓tAndA,↓tOrA,↓tNotA,↓tDInA,↓tDNotInA,↓sDPutA,↓iListA,↓iTupA,↓iRng1A,↓iRng2A,↓tLCA,↓tDCA,↓tChainA,↓tAndVA,↓tOrVA,↓tNotVA,↓tUnA,↓tYesA,↓tDNewKA,↓tDNewTA,↓tIsNA,↓tNotNA,↓tV0,↓tV1,↓tV2,↓tV3,↓tV4,↓tV5,↓tV6,↓tV7,↓tV8,↓tV9,↓tV10,↓tV11,↓tV12,↓tV13,↓tV14,↓tV15,↓gN0,↓gN1,↓gN2,↓gN3,↓gN4,↓gN5,↓gN6,↓gN7,↓gN8,↓gN9,↓gN10,↓gN11,↓gN12,↓gN13,↓gN14,↓gN15,↓rI0i,↓rIi,↓rIxLr,↓rIxTr,↓exB,↓exI,↓exR,↓rEqI,↓rNeI,↓cLenR,rI,rI0,rAppend,rPop,rSetL,tRevL,tDisp,tPairs,rIxL,rIxT,rEq,rNe,cLen,cList,cTuple,cSortI,cSortT,cIsi,cAll,cSortSetT,rCatT1,rExtend,L2.start,st0,List.map_cons,List.map_nil,List.length_cons,List.length_nil,List.replicate,List.cons_append,List.nil_append,List.append_nil,List.getElem?_cons_zero,List.getElem?_cons_succ,List.set_cons_zero,List.set_cons_succ,Option.some.injEq,V.int.injEq,V.bl.injEq,V.ref.injEq,List.cons.injEq,and_true,true_and,exists_eq_left',exists_eq_left,exists_eq',exists_eq,Nat.reduceAdd,Nat.reduceSub,exists_and_left,and_self,Option.join_some,scal,decide_true,if_true,if_false,Bool.false_eq_true,Bool.not_true,Bool.not_false,tVar,gName,tMaxK,stL,tAsg2]))
def top (i:Nat):Stmt:=PySem.Challenge.pw_manyleaves_k59_grown_on_sixty_places.main.body.getD i (.Pass ⟨0,0,0,0⟩)
section
variable {P:Program}{w:World}{K:PySem.W.Frag}{mg:Str→Option Value}{base:Heap}
theorem sc_mixed:FnScope ["_law_cell", "_law_k", "_law_number"] ["_law_cell", "_law_k"] (defScope (top 11)):=⟨rfl,rfl,rfl,by decide +kernel,rfl,by decide +kernel,by decide +kernel⟩
theorem ok_mixed {f:Addr}{fd:FuncData}(F:Fun K "_law_mixed" "_law_mixed" (top 11) f fd)(B:Bt mg):FnOk P w K mg base CX0 1 f fd ["_law_cell", "_law_k"] sp_mixed:=by
 refine F.ok sc_mixed (fun vs H Q E h=>?_) (fun cdv A outer s H vs Q E hr h=>?_)
 ·obtain⟨c,k,rfl,hk0,hk1,q⟩:=h;rfl
 ·obtain⟨c,k,rfl,hk0,hk1,q⟩:=h;have nd:=sc_mixed.nd;have hu:=hu_of hr
  refine⟨_,(pss_cons (ps_set (i:=2) nd rfl (Or.inl rfl) (pe_op op_mod (pe_op op_add (pe_op op_add (pv 0) (pe_op op_mul (pe_op op_mul (pv 1) (pv 1)) pe_int)) pe_int) pe_int))
    (pss_cons (ps_set (i:=2) nd rfl (Or.inl rfl) (pe_op op_mod (pe_op op_mul (pv 2) (pv 2)) pe_int))
    (pss_cons (ps_set (i:=2) nd rfl (Or.inl rfl) (pe_op op_mod (pe_op op_mul (pe_op op_add (pe_op op_add (pv 2) (pe_op op_mul (pv 1) pe_int)) pe_int) pe_int) pe_int))
    (pss_one (ps_ret (pe_op op_fdiv (pe_op op_mod (pe_op op_mul (pv 2) (pv 2)) pe_int) pe_int)))))),?_⟩
  walk_at "rd";have hm:∀ x:Int,0≤x % 2305843009213693951∧x % 2305843009213693951<2305843009213693951:=fun x=>⟨Int.emod_nonneg _ (by decide),Int.emod_lt_of_pos _ (by decide)⟩
  have small:∀ x y:Int,CMul (x % 2305843009213693951) y:=fun x y=>.inl ⟨by have:=hm x;omega,by have:=hm x;omega⟩
  have pos:(0:Int)<2305843009213693951:=by decide
  exact⟨.inl ⟨by omega,by omega⟩,.inr ⟨by decide,by decide⟩,pos,small _ _,pos,.inl ⟨by omega,by omega⟩,.inr ⟨by decide,by decide⟩,pos,small _ _,pos,⟨by decide,by decide⟩,q _⟩
theorem sc_next:FnScope ["_law_deck_here"] ["_law_deck_here"] (defScope (top 13)):=⟨rfl,rfl,rfl,by decide +kernel,rfl,by decide +kernel,by decide +kernel⟩
theorem ok_next {f:Addr}{fd:FuncData}(F:Fun K "_law_next" "_law_next" (top 13) f fd)(B:Bt mg):FnOk P w K mg base CX0 1 f fd ["_law_deck_here"] sp_next:=by
 refine F.ok sc_next (fun vs H Q E h=>?_) (fun cdv A outer s H vs Q E hr h=>?_)
 ·obtain⟨d,ns,rfl,hd,q⟩:=h;rfl
 ·obtain⟨d,ns,rfl,hd,q⟩:=h;have nd:=sc_next.nd;have hu:=hu_of hr
  refine⟨_,(pss_cons (ps_if (pt_cmpR op_gt (pe_callB (lenK K) (by rfl) B.len PySem.boot_len (pa_cons (pv 0) pa_nil)) pe_int (nomark _))
     (pss_one (ps_ret (popK K (pv 0))))
     pss_nil)
    (pss_one (ps_ret pe_int))),?_⟩
  walk_at "rd";refine⟨ns.map V.int,.inl (SqL.of hd),ite2 (fun h=>?_) fun h=>?_⟩
  ·refine⟨.inl ⟨rfl,_,SqL.of hd⟩,?_⟩;have hne:ns≠[]:=fun e=>by subst e;simp at h
   have h1:(ns.map V.int)[(ns.map V.int).length-1]?=some (V.int (ns.getLast hne)):=by
    rw[List.length_map,List.getElem?_map,← List.getLast?_eq_getElem?,List.getLast?_eq_some_getLast hne];rfl
   refine⟨ns.map V.int,hd,_,h1,?_⟩;rw[← List.map_dropLast];exact q _ _ (by rw[List.length_dropLast];omega) (fun x hx=>List.dropLast_subset _ hx) (.inr (List.getLast_mem hne))
  ·have e:upd H d (.lst (ns.map V.int))=H:=upd_self hd;have:=q 0 ns (Nat.le_refl _) (fun _ h=>h) (.inl rfl);rw[e] at this;exact this
def inv_deck (H:Hp)(a p4 p5 p6:Addr)(m:Int)(os:List Int)(i:Nat)(σ:St)(Hc:Hp):Prop:=∃ (kv av:Option V) (rs ds:List Int),σ=[some (.ref a),some (.int m),some (.ref p4),some (.ref p5),some (.ref p6),kv,av]∧Same H Hc∧Hc p4=some (.lst (os.map V.int)) ∧
 Hc p5=some (.lst (rs.map V.int))∧rs.length=os.length∧Hc p6=some (.lst (ds.map V.int))∧ds.length=i∧(∀ x∈ds,0≤x∧x<1000)
theorem sc_deck:FnScope ["_law_script", "_law_many", "_law_own", "_law_rest", "_law_deck_here", "_law_k", "_law_at"] ["_law_script", "_law_many"] (defScope (top 12)):=⟨rfl,rfl,rfl,by decide +kernel,rfl,by decide +kernel,by decide +kernel⟩
theorem ok_deck {f:Addr}{fd:FuncData}(F:Fun K "_law_deck" "_law_deck" (top 12) f fd)(B:Bt mg){f1:Addr}{fd1:FuncData}{st1:Stmt}(D_law_mixed:Df K mg "_law_mixed" st1 f1 fd1 ["_law_cell", "_law_k"])(G_law_mixed:FnOk P w K mg base CX0 1 f1 fd1 ["_law_cell", "_law_k"] sp_mixed):FnOk P w K mg base CX0 2 f fd ["_law_script", "_law_many"] (sp_deck K):=by
 refine F.ok sc_deck (fun vs H Q E h=>?_) (fun cdv A outer s H vs Q E hr h=>?_)
 ·obtain⟨a,m,ns,rfl,hS,hl,hm0,hm1,q⟩:=h;rfl
 ·obtain⟨a,m,ns,rfl,hS,hl,hm0,hm1,q⟩:=h;have nd:=sc_deck.nd;have hu:=hu_of hr
  refine⟨_,(pss_cons (ps_set (i:=2) nd rfl (Or.inl rfl) (pe_op op_cat (pe_callTy (listK K) (by rfl) B.list PyProof.Rows.boot_list (pa_cons (pe_slice (sl_listK K) (pv 0) po_none (po_some pe_int)) pa_nil)) (pe_op op_rep (pe_lst (pa_cons pe_int pa_nil)) (pe_callTy call_intB (by rfl) B.int PyProof.Rows.boot_int (pa_cons (pe_cmpR op_eq (pe_callB (lenK K) (by rfl) B.len PySem.boot_len (pa_cons (pv 0) pa_nil)) pe_int (nomark _)) pa_nil)))))
    (pss_cons (ps_setLC (i:=3) (own:=["_law_cell"]) (fr:=[]) rfl nd rfl rfl (by with_unfolding_all rfl) (by with_unfolding_all rfl) frOk_nil (pi_listK K (pv 2)) ⟨fun _ _ _ _=>⟨(pg_name (i:=0) (show List.Nodup (["_law_cell"]:List Str) by decide +kernel) rfl (Or.inl rfl)),pts_nil,(pe_ix (ix_listK K) (pe_lst (pa_cons pe_int (pa_cons (pv 0) pa_nil))) (pe_callTy call_intB (by rfl) B.int PyProof.Rows.boot_int (pa_cons (pe_cmpR op_ge (pv 0) (pe_op op_pow pe_int pe_int) (nomark _)) pa_nil)) (fun _ _=>rfl))⟩⟩)
    (pss_cons (ps_set (i:=4) nd rfl (Or.inl rfl) (pe_lst pa_nil))
    (pss_cons (ps_for PassesOwn.never rfl (pi_range1 (by rfl) B.range (pa_cons (pv 1) pa_nil)) (pg_name (i:=5) nd rfl (Or.inl rfl))
     (pss_cons (ps_set (i:=6) nd rfl (Or.inl rfl) (pe_op op_mod (pv 5) (pe_callB (lenK K) (by rfl) B.len PySem.boot_len (pa_cons (pv 2) pa_nil))))
     (pss_one (ps_if (pt_cmpR op_gt (pe_ix (ix_listK K) (pv 3) (pv 6) (fun _ _=>rfl)) pe_int (nomark _))
      (pss_cons (ps_expr (appendK K (pv 4) (pa_cons (pe_op op_mod (pe_ix (ix_listK K) (pv 3) (pv 6) (fun _ _=>rfl)) pe_int) pa_nil)))
      (pss_one (ps_asg (pe_op op_fdiv (pe_ix (ix_listK K) (pv 3) (pv 6) (fun _ _=>rfl)) pe_int) (pg_sub (pv 3) (pv 6) set_list))))
      (pss_one (ps_expr (appendK K (pv 4) (pa_cons (pe_op op_mod (pe_own G_law_mixed D_law_mixed (hr.mono (by decide)) (pa_cons (pe_ix (ix_listK K) (pv 2) (pv 6) (fun _ _=>rfl)) (pa_cons (pe_op op_add (pv 5) pe_int) pa_nil))) pe_int) pa_nil))))))))
    (pss_one (ps_ret (pe_listrev hr.hd (by rfl) B.list (by rfl) B.reversed (pv 4)))))))),?_⟩
  walk_at "rd";refine⟨a,ns.map V.int,rfl,hS,fun p1 n1=>⟨p1,rfl,_,.inl (SqL.of upd_same),fun l nl=>⟨by decide,fun p2 n2=>?_⟩⟩⟩;have s1:=(Same.refl H).upd (o:=.lst (cutV (ns.map V.int) none (some 60))) n1;have s2:=s1.upd (o:=.lst (cutV (ns.map V.int) none (some 60))) (s1.free nl);have s3:=s2.upd (o:=.lst [V.int 0]) (s2.free n2);refine⟨ns.map V.int,.inl (s3.seq hS),p2,_,_,rfl,rfl,upd_same,?_,?_,?_,fun p3 n3=>?_⟩
  ·split<;>decide
  ·split<;>decide
  ·rw[sizeLine_eq];split<;>decide
  have s4:=s3.upd (o:=.lst (List.replicate (if decide ((ns.map V.int).length=(0:Int))=true then (1:Int) else 0).toNat [V.int 0]).flatten) (s3.free n3);have hlp:l≠p2:=fun e=>by subst e;rw[upd_same] at n2;cases n2
  have hl3:l≠p3:=fun e=>by subst e;rw[upd_ne hlp,upd_same] at n3;cases n3
  obtain⟨os,eo,ho1,ho2⟩:∃ os:List Int,cutV (ns.map V.int) none (some 60)++(List.replicate (if decide ((ns.map V.int).length=(0:Int))=true then (1:Int) else 0).toNat [V.int 0]).flatten=os.map V.int∧1≤os.length∧os.length≤64:=by
   by_cases e:ns=[]
   ·subst e;exact⟨[0],rfl,by decide,by decide⟩
   ·have hne:¬ ((ns.map V.int).length:Int)=0:=by rw[List.length_map];have:=List.length_pos_iff.mpr e;omega
    rw[decide_eq_false hne];refine⟨ns.take 60,?_,?_,?_⟩
    ·have h60:HT.sIx (ns.map V.int).length (ns.map V.int).length (some 60)=min 60 ns.length:=by rw[show (60:Int)=((60:Nat):Int) from rfl,HT.sIx_nat,List.length_map]
     unfold cutV;rw[HT.sIx_none,List.drop_zero,h60,Nat.sub_zero];simp only[Bool.false_eq_true,if_false,Int.toNat_zero,List.replicate,List.flatten_nil,List.append_nil];rw[← List.map_take];congr 1;by_cases h:60≤ns.length
     ·rw[Nat.min_eq_left h]
     ·rw[Nat.min_eq_right (by omega),List.take_of_length_le (Nat.le_refl _),List.take_of_length_le (by omega)]
    ·have:=List.length_pos_iff.mpr e;rw[List.length_take];omega
    ·rw[List.length_take];omega
  refine⟨l,p3,_,_,rfl,rfl,by rw[upd_ne hl3,upd_ne hlp,upd_same],upd_same,?_,fun p4 n4=>?_⟩
  ·have:=congrArg List.length eo;have e2:(os.map V.int).length=os.length:=List.length_map _;rw[List.length_append] at this;rw[sizeLine_eq];omega
  rw[eo];have s5:=s4.upd (o:=.lst (os.map V.int)) (s4.free n4);generalize hH5:upd (upd (upd (upd (upd H p1 (HO.lst (cutV (ns.map V.int) none (some 60)))) l (HO.lst (cutV (ns.map V.int) none (some 60)))) p2 (HO.lst [V.int 0])) p3 (HO.lst (List.replicate (if decide ((ns.map V.int).length=(0:Int))=true then (1:Int) else 0).toNat [V.int 0]).flatten)) p4 (HO.lst (os.map V.int))=H5 at s5 ⊢;have h4:H5 p4=some (.lst (os.map V.int)):=by rw[← hH5];exact upd_same
  refine⟨p4,rfl,⟨_,SqL.of h4⟩,fun p5 n5=>lc_list (K:=K) (xs:=os.map V.int) (fun i τ Hc=>∃ (c:Option V) (rs:List Int),τ=[c]∧Same H5 Hc∧Hc p5=some (.lst (rs.map V.int))∧rs.length=i)
   ⟨none,[],rfl,(Same.refl H5).upd n5,upd_same,rfl⟩ (fun i τ Hc _ ⟨_,_,_,sc,_⟩=>SqL.of (sc _ _ h4)) ?_ ?_⟩
  ·rintro i x τ Hc hx ⟨c,rs,rfl,sc,h5,hi⟩ _;have hil:i<os.length:=by have:=(List.getElem?_eq_some_iff.mp hx).1;rw[List.length_map] at this;exact this
   obtain⟨z,rfl⟩:∃ z,x=V.int z:=by
    rw[List.getElem?_map] at hx;cases e:os[i]? with
    | none=>rw[e] at hx;cases hx
    | some z=>rw[e] at hx;exact⟨z,(Option.some.inj hx).symm⟩
   walk_at "rd";refine⟨by decide,fun p n=>⟨⟨by decide,by decide,by decide⟩,?_⟩⟩;have h5':∀ o,(upd Hc p o) p5=some (.lst (rs.map V.int)):=fun o=>by rw[upd_ne (ne_of_none h5 n)];exact h5
   refine⟨[V.int 0,V.int z],SqL.of upd_same,?_⟩;generalize decide ((10:Int) ^ Int.toNat 18≤z)=b;obtain⟨y,hy⟩:∃ y:Int,atI [V.int 0,V.int z] (if b=true then 1 else 0)=some (V.int y):=by
    cases b
    ·exact⟨0,rfl⟩
    ·exact⟨z,rfl⟩
   refine⟨_,hy,_,h5' _,?_,(sc.upd (sc.free n)).upd n5,rs++[y],?_,?_⟩
   ·rw[List.length_map];exact sizeBig (by omega)
   ·rw[upd_same,List.map_append];rfl
   ·rw[List.length_append,hi];rfl
  ·rintro τ H6 ⟨c,rs,rfl,s6,h5,hrs⟩;rw[List.length_map] at hrs;refine⟨by decide,fun p6 n6=>?_⟩;have s06:Same H H6:=s5.trans s6;have h46:H6 p4=some (.lst (os.map V.int)):=s6 _ _ h4;have n45:p4≠p5:=ne_of_none h4 n5;have n46:p4≠p6:=ne_of_none h46 n6;have n56:p5≠p6:=ne_of_none h5 n6
   refine⟨_,rfl,m,rfl,by omega,by omega,for_range (lo:=0) (n:=m.toNat) (inv_deck H a p4 p5 p6 m os)
    ⟨none,none,rs,[],rfl,s06.upd (s06.free n6),by rw[upd_ne n46];exact h46,by rw[upd_ne n56];exact h5,hrs,upd_same,rfl,fun x hx=>(by cases hx)⟩ ?_ ?_⟩
   ·rintro i σ Hc hi ⟨kv,av,rs,ds,rfl,sc,c4,c5,hrl,c6,hdl,hdb⟩;have hoi:(0:Int)<(os.map V.int).length:=by rw[List.length_map];omega
    have hat:∃ j:Nat,j<os.length∧(0+(i:Int)) % ((os.map V.int).length:Int)=(j:Int):=by
     have h1:=Int.emod_nonneg (0+(i:Int)) (b:=((os.map V.int).length:Int)) (by omega);have h2:=Int.emod_lt_of_pos (0+(i:Int)) hoi;refine⟨((0+(i:Int)) % ((os.map V.int).length:Int)).toNat,?_,by omega⟩;rw[List.length_map] at h2 ⊢;omega
    obtain⟨j,hj,ej⟩:=hat;have atR:∀ (l:List Int),l.length=os.length→∃ z,atI (l.map V.int) (j:Int)=some (V.int z):=fun l e=>by
     have hjl:j<l.length:=by omega
     exact⟨l[j],atI_nat (by rw[List.getElem?_map,List.getElem?_eq_getElem hjl];rfl)⟩
    obtain⟨z,hz⟩:=atR rs hrl;obtain⟨z',hz'⟩:=atR os rfl;have n65:p6≠p5:=n56.symm;have hdb2:∀ y:Int,∀ x∈ds++[y % 1000],0≤x∧x<1000:=fun y x hx=>by
     rcases List.mem_append.mp hx with hx | hx
     ·exact hdb x hx
     ·rw[List.mem_singleton.mp hx];omega
    have n64:p6≠p4:=n46.symm;have hdl2:(ds.map V.int).length<sizeLine:=by rw[List.length_map];exact sizeBig (by omega)
    have c5':∀ o,(upd Hc p6 o) p5=some (.lst (rs.map V.int)):=fun o=>by rw[upd_ne n56];exact c5
    have hm6:H p6=none:=s06.free n6;have hm5:H p5=none:=(s5.free n5)
    walk_at "rd";refine⟨_,.inl (SqL.of c4),hoi,_,SqL.of c5,?_⟩;rw[ej];refine⟨_,hz,z,rfl,ite2 (fun _=>?_) fun _=>?_⟩
    ·refine⟨.inl ⟨rfl,_,SqL.of c6⟩,_,SqL.of c5,_,hz,z,rfl,by decide,_,c6,hdl2,_,SqL.of (c5' _),_,hz,z,rfl,⟨by decide,by decide⟩,?_⟩;have hix:ixN (rs.map V.int).length (j:Int)=some j:=by
      unfold ixN;rw[List.length_map,if_pos (by omega),if_pos (by omega)];simp
     refine⟨_,c5' _,j,hix,?_⟩;refine⟨_,_,rs.set j (z / 1000),ds++[z % 1000],rfl,(sc.upd hm6).upd hm5,by rw[upd_ne n45,upd_ne n46];exact c4,by rw[upd_same,List.map_set],by rw[List.length_set];exact hrl,?_,by rw[List.length_append,hdl];rfl,hdb2 z⟩;rw[upd_ne n65,upd_same,List.map_append];rfl
    ·refine⟨.inl ⟨rfl,_,SqL.of c6⟩,_,SqL.of c4,_,hz',z',_,rfl,by omega,by omega,fun y=>?_⟩;walk_at "rd";refine⟨by decide,_,c6,hdl2,?_⟩;refine⟨_,_,rs,ds++[y % 1000],rfl,sc.upd hm6,by rw[upd_ne n46];exact c4,by rw[upd_ne n56];exact c5,hrl,by rw[upd_same,List.map_append];rfl,by rw[List.length_append,hdl];rfl,hdb2 y⟩
   ·rintro σ Hc ⟨kv,av,rs,ds,rfl,sc,c4,c5,hrl,c6,hdl,hdb⟩;walk_at "rd";refine⟨_,c6,fun p7 n7=>?_⟩;rw[← List.map_reverse];exact q p7 ds.reverse _ ⟨by rw[List.length_reverse];omega,fun x hx=>hdb x (List.mem_reverse.mp hx)⟩ (sc.upd (sc.free n7)) (sc.free n7) upd_same
def inv_turn1 (H:Hp)(d p:Addr)(i:Nat)(τ:St)(Hc:Hp):Prop:=∃ (c:Option V) (ps:List (Addr×List Int)),τ=[c,some (.ref d)]∧Kp d H Hc∧DkAt Hc d∧Hc p=some (.lst (ps.map fun x=>V.ref x.1)) ∧
 (∀ x∈ps,Hc x.1=some (.tup (x.2.map V.int))∧∃ z k,x.2=[z,k])∧ps.length=i∧ps.map (fun x=>x.2.getD 1 0)=rInts 0 i
def inv_turn2 (H:Hp)(p:Addr)(ps:List (Addr×List Int))(i:Nat)(τ:St)(Hc:Hp):Prop:=∃ (c k:Option V),τ=[c,k]∧Same H Hc∧Hc p=some (.lst (((ps.map fun x=>x.2.getD 1 0).take i).map V.int))
theorem sc_turn:FnScope ["_law_deck_here", "_law_many"] ["_law_deck_here", "_law_many"] (defScope (top 14)):=⟨rfl,rfl,rfl,by decide +kernel,rfl,by decide +kernel,by decide +kernel⟩
theorem ok_turn {f:Addr}{fd:FuncData}(F:Fun K "_law_turn" "_law_turn" (top 14) f fd)(B:Bt mg){f1:Addr}{fd1:FuncData}{st1:Stmt}(D_law_next:Df K mg "_law_next" st1 f1 fd1 ["_law_deck_here"])(G_law_next:FnOk P w K mg base CX0 1 f1 fd1 ["_law_deck_here"] sp_next):FnOk P w K mg base CX0 2 f fd ["_law_deck_here", "_law_many"] sp_turn:=by
 refine F.ok sc_turn (fun vs H Q E h=>?_) (fun cdv A outer s H vs Q E hr h=>?_)
 ·obtain⟨d,n,rfl,hd,hn0,hn1,q⟩:=h;rfl
 ·obtain⟨d,n,rfl,hd,hn0,hn1,q⟩:=h;have nd:=sc_turn.nd;have hu:=hu_of hr;refine⟨_,(pss_one (ps_ret (pe_callTy (tupleK K) (by rfl) B.tuple PyProof.Rows.boot_tuple (pa_cons (pe_lcomp (own:=["_law_cell", "_law_at"]) (fr:=[]) rfl (by with_unfolding_all rfl) frOk_nil (pi_listK K (pe_callB (sortedTK K) (by rfl) B.sorted PyProof.Rows.boot_sorted (pa_cons (pe_lcomp (own:=["_law_at"]) (fr:=[("_law_deck_here",0)]) rfl (by with_unfolding_all rfl) (frOk_cons rfl rfl frOk_nil) (pi_range1 (by rfl) B.range (pa_cons (pv 1) pa_nil)) ⟨fun _ _ _ _=>⟨(pg_name (i:=0) (show List.Nodup (["_law_at", "_law_deck_here"]:List Str) by decide +kernel) rfl (Or.inl rfl)),pts_nil,(pe_tup (pa_cons (pe_own G_law_next D_law_next (hr.mono (by decide)) (pa_cons (pv 1) pa_nil)) (pa_cons (pv 0) pa_nil)))⟩⟩) pa_nil))) ⟨fun _ _ _ _=>⟨(pg_tupK K (n:=2) rfl (pgs_cons (pg_name (i:=0) (show List.Nodup (["_law_cell", "_law_at"]:List Str) by decide +kernel) rfl (Or.inl rfl)) (pgs_cons (pg_name (i:=1) (show List.Nodup (["_law_cell", "_law_at"]:List Str) by decide +kernel) rfl (Or.inl rfl)) pgs_nil))),pts_nil,(pv 1)⟩⟩) pa_nil)))),?_⟩;walk_at "rd";refine⟨by omega,by omega,fun p n=>lc_range (inv_turn1 H d p) ⟨none,[],rfl,(Kp.refl d H).new n,hd.new (hd.ne n),upd_same,(fun x hx=>by cases hx),rfl,rfl⟩ ?_ ?_⟩
  ·rintro i τ Hc hi ⟨c,ps,rfl,k,dk,hp,hall,hl,hm⟩;walk_at "rd";refine next_use dk fun z H1 k1 dk1 e1=>⟨by decide,fun q1 nq=>?_⟩
   have hp1:H1 p=some (.lst (ps.map fun x=>V.ref x.1)):=by rw[e1 p (hd.ne n)];exact hp
   have k2:=k.trans k1;have nH:H q1=none:=k2.free dk1 nq;refine⟨_,at_new hp1 nq,by rw[List.length_map,hl];exact sizeBig (by omega),?_⟩;refine⟨_,ps++[(q1,[z,0+(i:Int)])],rfl,(k2.new nH).new n,(dk1.new (dk1.ne nq)).new (hd.ne n),by rw[upd_same,List.map_append];rfl,?_,by rw[List.length_append,hl];rfl,by rw[List.map_append,hm,rInts_succ];rfl⟩;intro x hx;rcases List.mem_append.mp hx with hx | hx
   ·obtain⟨h1,h2⟩:=hall x hx;have h3:=k1.tp dk _ _ h1;exact⟨by rw[upd_ne (ne_tl h3 hp1)];exact at_new h3 nq,h2⟩
   ·cases List.mem_singleton.mp hx;exact⟨by rw[upd_ne (ne_of_none hp1 nq).symm,upd_same];rfl,z,_,rfl⟩
  ·rintro τ H1 ⟨c,ps,rfl,k,dk,hp,hall,hl,hm⟩;refine⟨ps,⟨.inl (SqL.of hp),fun x hx=>⟨(hall x hx).1,by obtain⟨_,z,k,e⟩:=hall x hx;rw[e];simp⟩⟩,fun ps' l pm _ nl=>⟨⟨_,SqL.of upd_same⟩,fun p2 n2=>?_⟩⟩;have nl':H l=none:=k.free dk nl;have s1:Same H1 (upd H1 l (.lst (ps'.map fun x=>V.ref x.1))):=(Same.refl H1).upd nl;have n2':H1 p2=none:=s1.free n2;generalize hH2:upd H1 l (.lst (ps'.map fun x=>V.ref x.1))=H2 at s1 n2 ⊢;have hl2:H2 l=some (.lst (ps'.map fun x=>V.ref x.1)):=by rw[← hH2];exact upd_same
   refine lc_list (K:=K) (xs:=ps'.map fun x=>V.ref x.1) (inv_turn2 H2 p2 ps') ?_ ?_ ?_ ?_
   ·exact⟨none,none,rfl,(Same.refl H2).upd n2,upd_same⟩
   ·rintro i τ Hc _ ⟨_,_,rfl,sc,_⟩;exact SqL.of (sc _ _ hl2)
   ·rintro i v τ Hc hx ⟨c,k',rfl,sc,h2⟩ _;rw[List.getElem?_map] at hx;cases hy:ps'[i]? with
    | none=>rw[hy] at hx;cases hx
    | some y =>
    rw[hy] at hx;cases Option.some.inj hx;have hym:=List.mem_of_getElem? hy;obtain⟨h3,z,m,e⟩:=hall y (pm.mem_iff.mp hym);have h4:=sc _ _ (s1 _ _ h3);rw[e] at h4;walk_at "rd";have hil:i<ps'.length:=(List.getElem?_eq_some_iff.mp hy).1;refine⟨_,SqT.of h4,rfl,_,_,rfl,_,_,rfl,rfl,_,h2,?_,?_⟩
    ·rw[List.length_map,List.length_take];refine sizeBig (Nat.le_trans (Nat.min_le_left _ _) ?_);have:=pm.length_eq;omega
    ·refine⟨_,_,rfl,sc.upd n2,?_⟩;rw[upd_same,List.take_succ,List.getElem?_map,hy,List.map_append];show _=some (HO.lst (_++[V.int (y.2.getD 1 0)]));rw[e];rfl
   ·rintro τ Hc ⟨c,k',rfl,sc,h2⟩;refine⟨_,.inl ⟨SqL.of h2,fun l3 n3=>?_⟩⟩;rw[List.length_map,List.take_of_length_le (by rw[List.length_map];exact Nat.le_refl _)];have s3:Same H1 Hc:=s1.trans sc;have nH3:H l3=none:=k.free dk (s3.free n3);refine q l3 _ _ ((k.trans s3.kp).new nH3) ((dk.same s3).new (hd.ne nH3)) nH3 upd_same ?_;rw[← hm];exact pm.map _
theorem ahead_at {k c form:Int}(hk:1≤k)(hf0:0≤form)(hf1:form<8):∃ x:Int,atI [V.int (k-1),V.int 0,V.int (c % k),V.int (if k-1-c % 3>0 then k-1-c % 3 else 0),V.int (k-1),V.int (if k-2>0 then k-2 else 0),V.int ((k-1) / 2),V.int (c % k)] form=some (V.int x)∧0≤x∧x<k:=by
 have h1:=Int.emod_nonneg c (b:=k) (by omega);have h2:=Int.emod_lt_of_pos c (b:=k) (by omega);have hf:form=0∨form=1∨form=2∨form=3∨form=4∨form=5∨form=6∨form=7:=by omega
 rcases hf with rfl | rfl | rfl | rfl | rfl | rfl | rfl | rfl
 ·exact⟨_,rfl,by omega,by omega⟩
 ·exact⟨_,rfl,by omega,by omega⟩
 ·exact⟨_,rfl,by omega,by omega⟩
 ·refine⟨_,rfl,?_,?_⟩<;>split<;>omega
 ·exact⟨_,rfl,by omega,by omega⟩
 ·refine⟨_,rfl,?_,?_⟩<;>split<;>omega
 ·exact⟨_,rfl,by omega,by omega⟩
 ·exact⟨_,rfl,by omega,by omega⟩
def Fd (n:Int)(fs:List (Int×Int))(i:Int):Prop:=fs.Nodup∧(∀ t∈fs,0≤t.1∧t.1<t.2∧t.2<n)∧∀ k:Int,1≤k→k≤i→∃ a,0≤a∧a<k∧(a,k)∈fs
theorem Fd.add {n i:Int}{fs:List (Int×Int)}{t:Int×Int}(h:Fd n fs i)(ht:0≤t.1∧t.1<t.2∧t.2<n):Fd n (addT fs t) i:=by
 refine⟨nd_addT h.1,fun u hu=>?_,fun k k0 k1=>?_⟩
 ·rcases mem_addT.mp hu with hu | rfl
  ·exact h.2.1 u hu
  ·exact ht
 ·obtain⟨a,a0,a1,hm⟩:=h.2.2 k k0 k1;exact⟨a,a0,a1,mem_addT.mpr (.inl hm)⟩
theorem Fd.next {n i:Int}{fs:List (Int×Int)}{a:Int}(h:Fd n fs i)(a0:0≤a)(a1:a<i+1)(hn:i+1<n):Fd n (addT fs (a,i+1)) (i+1):=by
 have h':=h.add (t:=(a,i+1)) ⟨a0,a1,hn⟩;refine⟨h'.1,h'.2.1,fun k k0 k1=>?_⟩;by_cases e:k=i+1
 ·subst e;exact⟨a,a0,a1,mem_addT.mpr (.inr rfl)⟩
 ·exact h'.2.2 k k0 (by omega)
def inv_web1 (H:Hp)(d p:Addr)(lo hi n form:Int)(i:Nat)(σ:St)(Hc:Hp):Prop:=∃ (kv cv av:Option V) (fs:List (Int×Int)),σ=[some (.ref d),some (.int lo),some (.int hi),some (.int n),some (.int form),some (.ref p),kv,cv,av,none,none,none,none,none,none] ∧
 Kp d H Hc∧DkAt Hc d∧Hc p=some (.dT (kvT fs))∧fs.length≤i∧Fd n fs i
def inv_web2 (H:Hp)(d p:Addr)(lo hi n form more:Int)(i:Nat)(σ:St)(Hc:Hp):Prop:=∃ (kv cv av tv ov uv:Option V) (fs:List (Int×Int)),σ=[some (.ref d),some (.int lo),some (.int hi),some (.int n),some (.int form),some (.ref p),kv,cv,av,some (.int more),tv,ov,uv,none,none] ∧
 Kp d H Hc∧DkAt Hc d∧Hc p=some (.dT (kvT fs))∧fs.length≤200∧Fd n fs (n-1)
def inv_web3 (H:Hp)(p pn:Addr)(gs:List (Int×Int))(ks:List Int)(i:Nat)(τ:St)(Hc:Hp):Prop:=∃ (ov uv:Option V) (ps:List (Addr×List Int)),τ=[ov,uv,some (.ref pn)]∧Same H Hc∧Hc p=some (.lst (ps.map fun x=>V.ref x.1))∧PsAt Hc ps ((gs.take i).map (ren ks))
theorem sc_webc:FnScope ["_law_deck_here", "_law_least", "_law_most", "_law_places", "_law_form", "_law_found", "_law_k", "_law_cell", "_law_ahead", "_law_more", "_law_turn_here", "_law_one", "_law_other", "_law_names", "_law_ties"] ["_law_deck_here", "_law_least", "_law_most"] (defScope (top 15)):=⟨rfl,rfl,rfl,by decide +kernel,rfl,by decide +kernel,by decide +kernel⟩
theorem ok_webc {f:Addr}{fd:FuncData}(F:Fun K "_law_web" "_law_web" (top 15) f fd)(B:Bt mg){f1:Addr}{fd1:FuncData}{st1:Stmt}(D_law_next:Df K mg "_law_next" st1 f1 fd1 ["_law_deck_here"])(G_law_next:FnOk P w K mg base CX0 1 f1 fd1 ["_law_deck_here"] sp_next){f2:Addr}{fd2:FuncData}{st2:Stmt}(D_law_turn:Df K mg "_law_turn" st2 f2 fd2 ["_law_deck_here", "_law_many"])(G_law_turn:FnOk P w K mg base CX0 2 f2 fd2 ["_law_deck_here", "_law_many"] sp_turn):FnOk P w K mg base CX0 3 f fd ["_law_deck_here", "_law_least", "_law_most"] sp_web:=by
 refine F.ok sc_webc (fun vs H Q E h=>?_) (fun cdv A outer s H vs Q E hr h=>?_)
 ·obtain⟨d,lo,hi,rfl,hd,h3,hlh,h60,q⟩:=h;rfl
 ·obtain⟨d,lo,hi,rfl,hd,h3,hlh,h60,q⟩:=h;have nd:=sc_webc.nd;have hu:=hu_of hr
  refine⟨_,(pss_cons (ps_set (i:=3) nd rfl (Or.inl rfl) (pe_op op_add (pv 1) (pe_op op_mod (pe_own G_law_next D_law_next (hr.mono (by decide)) (pa_cons (pv 0) pa_nil)) (pe_op op_add (pe_op op_sub (pv 2) (pv 1)) pe_int))))
    (pss_cons (ps_set (i:=4) nd rfl (Or.inl rfl) (pe_op op_mod (pe_own G_law_next D_law_next (hr.mono (by decide)) (pa_cons (pv 0) pa_nil)) pe_int))
    (pss_cons (ps_set (i:=5) nd rfl (Or.inl rfl) pe_dnewT)
    (pss_cons (ps_for PassesOwn.never rfl (pi_range2 (by rfl) B.range (pa_cons pe_int (pa_cons (pv 3) pa_nil))) (pg_name (i:=6) nd rfl (Or.inl rfl))
     (pss_cons (ps_set (i:=7) nd rfl (Or.inl rfl) (pe_own G_law_next D_law_next (hr.mono (by decide)) (pa_cons (pv 0) pa_nil)))
     (pss_cons (ps_set (i:=8) nd rfl (Or.inl rfl) (pe_ix (ix_listK K) (pe_lst (pa_cons (pe_op op_sub (pv 6) pe_int) (pa_cons pe_int (pa_cons (pe_op op_mod (pv 7) (pv 6)) (pa_cons (pe_callB (call_max2 rfl) (by rfl) B.max PyProof.Rows.boot_max (pa_cons pe_int (pa_cons (pe_op op_sub (pe_op op_sub (pv 6) pe_int) (pe_op op_mod (pv 7) pe_int)) pa_nil))) (pa_cons (pe_op op_sub (pv 6) pe_int) (pa_cons (pe_callB (call_max2 rfl) (by rfl) B.max PyProof.Rows.boot_max (pa_cons pe_int (pa_cons (pe_op op_sub (pv 6) pe_int) pa_nil))) (pa_cons (pe_op op_fdiv (pe_op op_sub (pv 6) pe_int) pe_int) (pa_cons (pe_op op_mod (pv 7) (pv 6)) pa_nil))))))))) (pv 4) (fun _ _=>rfl)))
     (pss_one (ps_dput hu (pv 5) (pe_tup (pa_cons (pv 8) (pa_cons (pv 6) pa_nil))) pe_bl rfl)))))
    (pss_cons (ps_if (pt_cmpR op_eq (pv 4) pe_int (nomark _))
     (pss_one (ps_dput hu (pv 5) (pe_tup (pa_cons pe_int (pa_cons (pe_op op_sub (pv 3) pe_int) pa_nil))) pe_bl rfl))
     pss_nil)
    (pss_cons (ps_set (i:=9) nd rfl (Or.inl rfl) (pe_ix (ix_listK K) (pe_lst (pa_cons pe_int (pa_cons pe_int (pa_cons pe_int (pa_cons (pv 3) (pa_cons (pe_op op_mul pe_int (pv 3)) (pa_cons pe_int pa_nil))))))) (pe_op op_mod (pe_own G_law_next D_law_next (hr.mono (by decide)) (pa_cons (pv 0) pa_nil)) pe_int) (fun _ _=>rfl)))
    (pss_cons (ps_for PassesOwn.never rfl (pi_range1 (by rfl) B.range (pa_cons (pv 9) pa_nil)) (pg_name (i:=10) nd rfl (Or.inl rfl))
     (pss_cons (ps_set (i:=11) nd rfl (Or.inl rfl) (pe_op op_mod (pe_own G_law_next D_law_next (hr.mono (by decide)) (pa_cons (pv 0) pa_nil)) (pv 3)))
     (pss_cons (ps_set (i:=12) nd rfl (Or.inl rfl) (pe_op op_mod (pe_own G_law_next D_law_next (hr.mono (by decide)) (pa_cons (pv 0) pa_nil)) (pv 3)))
     (pss_one (ps_if (PW.pt (pw_and (pt_cmpR op_ne (pv 11) (pv 12) (nomark _)) (pw_and1 (pt_cmpR op_lt (pe_callB call_lenDT (by rfl) B.len PySem.boot_len (pa_cons (pv 5) pa_nil)) pe_int (nomark _)))))
      (pss_one (ps_dput hu (pv 5) (pe_tup (pa_cons (pe_callB (call_min2 rfl) (by rfl) B.min PyProof.Rows.boot_min (pa_cons (pv 11) (pa_cons (pv 12) pa_nil))) (pa_cons (pe_callB (call_max2 rfl) (by rfl) B.max PyProof.Rows.boot_max (pa_cons (pv 11) (pa_cons (pv 12) pa_nil))) pa_nil))) pe_bl rfl))
      pss_nil)))))
    (pss_cons (ps_set (i:=13) nd rfl (Or.inr rfl) (pe_own G_law_turn D_law_turn (hr.mono (by decide)) (pa_cons (pv 0) (pa_cons (pv 3) pa_nil))))
    (pss_cons (ps_setLC (i:=14) (own:=["_law_one", "_law_other"]) (fr:=[("_law_names",13)]) rfl nd rfl rfl (by with_unfolding_all rfl) (by with_unfolding_all rfl) (frOk_cons rfl rfl frOk_nil) (pi_listK K (pe_callB (call_sortedD hr.hd) (by rfl) B.sorted PyProof.Rows.boot_sorted (pa_cons (pv 5) pa_nil))) ⟨fun _ _ _ _=>⟨(pg_tupK K (n:=2) rfl (pgs_cons (pg_name (i:=0) (show List.Nodup (["_law_one", "_law_other", "_law_names"]:List Str) by decide +kernel) rfl (Or.inl rfl)) (pgs_cons (pg_name (i:=1) (show List.Nodup (["_law_one", "_law_other", "_law_names"]:List Str) by decide +kernel) rfl (Or.inl rfl)) pgs_nil))),pts_nil,(pe_tup (pa_cons (pe_callB (call_min2 rfl) (by rfl) B.min PyProof.Rows.boot_min (pa_cons (pe_ix (ix_tupK K) (pv 2) (pv 0) (fun _ _=>rfl)) (pa_cons (pe_ix (ix_tupK K) (pv 2) (pv 1) (fun _ _=>rfl)) pa_nil))) (pa_cons (pe_callB (call_max2 rfl) (by rfl) B.max PyProof.Rows.boot_max (pa_cons (pe_ix (ix_tupK K) (pv 2) (pv 0) (fun _ _=>rfl)) (pa_cons (pe_ix (ix_tupK K) (pv 2) (pv 1) (fun _ _=>rfl)) pa_nil))) pa_nil)))⟩⟩)
    (pss_one (ps_ret (pe_tup (pa_cons (pv 3) (pa_cons (pe_callTy (tupleK K) (by rfl) B.tuple PyProof.Rows.boot_tuple (pa_cons (pe_callB (sortedTK K) (by rfl) B.sorted PyProof.Rows.boot_sorted (pa_cons (pv 14) pa_nil)) pa_nil)) pa_nil)))))))))))))),?_⟩
  walk_at "rd";refine next_use hd fun z1 H1 k1 dk1 e1=>?_
  have r1:=Int.emod_nonneg z1 (b:=hi-lo+1) (by omega);have r2:=Int.emod_lt_of_pos z1 (b:=hi-lo+1) (by omega);refine⟨z1,rfl,by omega,next_use dk1 fun z2 H2 k2 dk2 e2=>⟨z2,rfl,by decide,fun p np=>?_⟩⟩;obtain⟨n,hn⟩:∃ n:Int,n=lo+z1 % (hi-lo+1):=⟨_,rfl⟩
  obtain⟨form,hfo⟩:∃ m:Int,m=z2 % 8:=⟨_,rfl⟩
  rw[← hn,← hfo];have n3:3≤n:=by omega
  have n60:n≤60:=by omega
  have nlo:lo≤n:=by omega
  have nhi:n≤hi:=by omega
  have f0:0≤form:=by omega
  have f8:form<8:=by omega
  clear hn hfo r1 r2 h3 hlh h60;have k02:=k1.trans k2;have nHp:H p=none:=k02.free dk2 np;have pd:p≠d:=hd.ne nHp;refine⟨_,rfl,1,n,rfl,⟨by decide,by decide,by omega,by omega⟩,for_range (lo:=1) (n:=(n-1).toNat) (inv_web1 H d p lo hi n form) ?_ ?_ ?_⟩
  ·exact⟨none,none,none,[],rfl,k02.new nHp,dk2.new pd,upd_same,Nat.le_refl _,by simp,by simp,fun k k0 k1=>by omega⟩
  ·rintro i σ Hc hin ⟨kv,cv,av,fs,rfl,kc,dc,hp,hfl,hF⟩;walk_at "rd";refine next_use dc fun z3 H3 k3 dk3 e3=>?_
   obtain⟨x,hx,x0,x1⟩:=ahead_at (k:=1+(i:Int)) (c:=z3) (form:=form) (by omega) (by omega) (by omega);have hp3:H3 p=some (.dT (kvT fs)):=by rw[e3 p pd];exact hp
   have kk:=kc.trans k3;refine⟨z3,rfl,by omega,z3,rfl,by decide,0,_,⟨rfl,rfl⟩,0,_,⟨rfl,rfl⟩,⟨by omega,by omega⟩,z3,rfl,by omega,by decide,fun pl nl=>⟨_,SqL.of upd_same,_,hx,by decide,fun pt nt=>?_⟩⟩;have nHl:H pl=none:=kk.free dk3 nl;have nHt:H pt=none:=kk.free dk3 (of_upd_none nt);refine⟨_,DPut.t (k:=[Sum.inl x,Sum.inl (1+(i:Int))]) (at_new (at_new hp3 nl) nt) upd_same (by rw[kvT_len];exact sizeBig (by omega)),?_⟩;rw[put_kvT];refine⟨_,_,_,_,rfl,((kk.new nHl).new nHt).new nHp,((dk3.new (hd.ne nHl)).new (hd.ne nHt)).new pd,upd_same,?_,?_⟩
   ·have:=len_addT (fs:=fs) (t:=(x,1+(i:Int)));omega
   ·have:=hF.next x0 (by omega) (by omega);rw[show (1:Int)+i=(i:Int)+1 by omega,show (((i+1:Nat)):Int)=(i:Int)+1 by omega];exact this
  ·rintro σ Hc ⟨kv,cv,av,fs,rfl,kc,dc,hp,hfl,hF⟩;rw[show ((n-1).toNat:Int)=n-1 by omega] at hF;dsimp only
   refine seq_rest (fun σ Hc=>∃ (kv cv av:Option V) (fs:List (Int×Int)),σ=[some (.ref d),some (.int lo),some (.int hi),some (.int n),some (.int form),some (.ref p),kv,cv,av,none,none,none,none,none,none] ∧
     Kp d H Hc∧DkAt Hc d∧Hc p=some (.dT (kvT fs))∧fs.length≤60∧Fd n fs (n-1)) (fun R hR=>?_) ?_
   ·walk_at "rd";refine ite2 (fun _=>?_) fun _=>hR _ _ ⟨kv,cv,av,fs,rfl,kc,dc,hp,by omega,hF⟩
    refine⟨by decide,fun pt nt=>⟨_,DPut.t (k:=[Sum.inl 0,Sum.inl (n-1)]) (at_new hp nt) upd_same (kvT_put_len (by omega)),?_⟩⟩;have nHt:H pt=none:=kc.free dc nt;rw[put_kvT];refine hR _ _ ⟨_,_,_,_,rfl,(kc.new nHt).new nHp,(dc.new (hd.ne nHt)).new pd,upd_same,?_,hF.add ⟨Int.le_refl 0,show (0:Int)<n-1 by omega,show n-1<n by omega⟩⟩;have:=len_addT (fs:=fs) (t:=(0,n-1));omega
   ·rintro σ Hc ⟨kv,cv,av,fs,rfl,kc,dc,hp,hfl,hF⟩;walk_at "rd";refine⟨.inl ⟨by omega,by omega⟩,by decide,fun pl nl=>?_⟩;have nHl:H pl=none:=kc.free dc nl;refine next_use (dc.new (hd.ne nHl)) fun z3 H3 k3 dk3 e3=>⟨z3,rfl,by decide,?_⟩
    have hpl:H3 pl=some (.lst [V.int 0,V.int 1,V.int 3,V.int n,V.int (2*n),V.int 0]):=by rw[e3 pl (hd.ne nHl)];exact upd_same
    have hp3:H3 p=some (.dT (kvT fs)):=by rw[e3 p pd];exact at_new hp nl
    obtain⟨more,hmo,m0,m1⟩:∃ m:Int,atI [V.int 0,V.int 1,V.int 3,V.int n,V.int (2*n),V.int 0] (z3 % 6)=some (V.int m)∧0≤m∧m≤120:=by
     have hf:z3 % 6=0∨z3 % 6=1∨z3 % 6=2∨z3 % 6=3∨z3 % 6=4∨z3 % 6=5:=by omega
     rcases hf with e | e | e | e | e | e<;>rw[e]
     ·exact⟨_,rfl,by omega,by omega⟩
     ·exact⟨_,rfl,by omega,by omega⟩
     ·exact⟨_,rfl,by omega,by omega⟩
     ·exact⟨_,rfl,by omega,by omega⟩
     ·exact⟨_,rfl,by omega,by omega⟩
     ·exact⟨_,rfl,by omega,by omega⟩
    refine⟨_,SqL.of hpl,_,hmo,?_⟩;refine⟨_,rfl,more,rfl,by omega,by omega,for_range (lo:=0) (n:=more.toNat) (inv_web2 H d p lo hi n form more) ?_ ?_ ?_⟩
    ·exact⟨_,_,_,none,none,none,fs,rfl,(kc.new nHl).trans k3,dk3,hp3,by omega,hF⟩
    ·rintro i σ Hc hin ⟨kv,cv,av,tv,ov,uv,fs,rfl,kc,dc,hp,hfl,hF⟩;walk_at "rd";refine next_use dc fun z4 H4 k4 dk4 e4=>⟨z4,rfl,by omega,next_use dk4 fun z5 H5 k5 dk5 e5=>⟨z5,rfl,by omega,?_⟩⟩
     have hp5:H5 p=some (.dT (kvT fs)):=by rw[e5 p pd,e4 p pd];exact hp
     have kk:=(kc.trans k4).trans k5;have s0:=Int.emod_nonneg z4 (b:=n) (by omega);have s1:=Int.emod_lt_of_pos z4 (b:=n) (by omega);have t0:=Int.emod_nonneg z5 (b:=n) (by omega);have t1:=Int.emod_lt_of_pos z5 (b:=n) (by omega);have same:inv_web2 H d p lo hi n form more (i+1) [some (.ref d),some (.int lo),some (.int hi),some (.int n),some (.int form),some (.ref p),kv,cv,av,some (.int more),some (.int (0+(i:Int))),some (.int (z4 % n)),some (.int (z5 % n)),none,none] H5 :=
      ⟨_,_,_,_,_,_,fs,rfl,kk,dk5,hp5,hfl,hF⟩
     refine ite2 (fun h1=>⟨_,hp5,ite2 (fun h2=>?_) fun _=>same⟩) fun _=>same
     have h1':z4 % n≠z5 % n:=by simpa using h1
     have h2':fs.length<200:=by rw[kvT_len] at h2;have:=of_decide_eq_true h2;omega
     refine⟨_,_,⟨rfl,rfl⟩,_,_,⟨rfl,rfl⟩,by decide,fun pt nt=>?_⟩;have nHt:H pt=none:=kk.free dk5 nt;refine⟨_,DPut.t (k:=[Sum.inl (if z5 % n<z4 % n then z5 % n else z4 % n),Sum.inl (if z5 % n>z4 % n then z5 % n else z4 % n)]) (at_new hp5 nt) upd_same (kvT_put_len (by omega)),?_⟩;rw[put_kvT];refine⟨_,_,_,_,_,_,_,rfl,(kk.new nHt).new nHp,(dk5.new (hd.ne nHt)).new pd,upd_same,?_,hF.add ?_⟩
     ·have:=len_addT (fs:=fs) (t:=(if z5 % n<z4 % n then z5 % n else z4 % n,if z5 % n>z4 % n then z5 % n else z4 % n));omega
     ·dsimp only;split<;>split<;>omega
    ·rintro σ Hc ⟨kv,cv,av,tv,ov,uv,fs,rfl,kc,dc,hp,hfl,hF⟩;walk_at "rd";refine turn_use dc (by omega) (by omega) fun pn ks H4 k4 dk4 nn hpn hperm=>?_
     have hp4:H4 p=some (.dT (kvT fs)):=k4 _ _ pd hp;refine⟨_,hp4,fs.map tl,kvT_keys fs,(fun l hl=>by obtain⟨t,_,rfl⟩:=List.mem_map.mp hl;simp[tl]),fun ps l pm hto _ nl=>?_⟩;obtain⟨gs,pgs,hgs⟩:=PsAt.of_perm hto pm;have s1:Same H4 (upd H4 l (.lst (ps.map fun x=>V.ref x.1))):=(Same.refl H4).upd nl;refine⟨⟨_,SqL.of upd_same⟩,fun p2 n2=>?_⟩;generalize hH2:upd H4 l (.lst (ps.map fun x=>V.ref x.1))=H5 at s1 n2 ⊢;have hl5:H5 l=some (.lst (ps.map fun x=>V.ref x.1)):=by rw[← hH2];exact upd_same
     have hgs5:=hgs.tp s1.tp;have gr:∀ t∈gs,0≤t.1∧t.1<t.2∧t.2<n:=fun t ht=>hF.2.1 t (pgs.mem_iff.mp ht)
     have gl:gs.length≤200:=by rw[pgs.length_eq];exact hfl
     have kk:=kc.trans k4;refine lc_list (K:=K) (xs:=ps.map fun x=>V.ref x.1) (inv_web3 H5 p2 pn gs ks) ?_ ?_ ?_ ?_
     ·exact⟨none,none,[],rfl,(Same.refl H5).upd n2,upd_same,(fun x hx=>by cases hx),rfl⟩
     ·rintro i τ Hc _ ⟨_,_,_,rfl,sc,_⟩;exact SqL.of (sc _ _ hl5)
     ·rintro i v τ Hc hx ⟨ov,uv,ps2,rfl,sc,h2,hps2⟩ _;obtain⟨a,t,rfl,hti,hta⟩:=hgs5.get hx;have htm:=List.mem_of_getElem? hti;obtain⟨g0,g1,g2⟩:=gr t htm;have hil:i<gs.length:=(List.getElem?_eq_some_iff.mp hti).1;have hpn5:Hc pn=some (.tup (ks.map V.int)):=sc _ _ (s1 _ _ hpn);have a1:atI (ks.map V.int) t.1=some (V.int (nm ks t.1)):=by
       rw[← Int.toNat_of_nonneg g0];refine atI_nat ?_;rw[List.getElem?_map,nm_at hperm g0 (by omega)];rw[Int.toNat_of_nonneg g0];rfl
      have a2:atI (ks.map V.int) t.2=some (V.int (nm ks t.2)):=by
       rw[← Int.toNat_of_nonneg (show 0≤t.2 by omega)];refine atI_nat ?_;rw[List.getElem?_map,nm_at hperm (by omega) g2];rw[Int.toNat_of_nonneg (show 0≤t.2 by omega)];rfl
      walk_at "rd";refine⟨_,SqT.of (sc _ _ hta),rfl,_,_,rfl,_,_,rfl,rfl,_,_,rfl,SqT.of hpn5,_,a1,_,_,rfl,SqT.of hpn5,_,a2,_,_,⟨rfl,rfl⟩,_,_,rfl,SqT.of hpn5,_,a1,_,_,rfl,SqT.of hpn5,_,a2,_,_,⟨rfl,rfl⟩,by decide,fun pq nq=>?_⟩;have hlen2:ps2.length≤200:=by have:=hps2.len;rw[List.length_map,List.length_take] at this;omega
      refine⟨_,at_new h2 nq,by rw[List.length_map];exact sizeBig (by omega),_,_,ps2++[(pq,tl (ren ks t))],rfl,(sc.upd (sc.free nq)).upd n2,by rw[upd_same,List.map_append];rfl,?_⟩;rw[List.take_succ,hti,List.map_append];refine PsAt.snoc (hps2.tp ((Tp.nw nq).trans (Tp.lst (at_new h2 nq)))) ?_;rw[upd_ne (ne_of_none h2 nq).symm,upd_same];rfl
     ·rintro τ Hc ⟨ov,uv,ps2,rfl,sc,h2,hps2⟩;rw[List.length_map,hgs.len,List.take_length] at hps2;refine⟨ps2,hps2.src h2,fun ps3 l3 pm3 hs3 nl3=>⟨_,.inl ⟨SqL.of upd_same,fun l4 nl4=>⟨by decide,fun p5 n5=>?_⟩⟩⟩⟩;obtain⟨ts,pts,hts⟩:=hps2.perm pm3;have sc4:Same H4 Hc:=s1.trans sc;have n4a:=sc4.free nl3;have n4b:=sc4.free (of_upd_none nl4);have n4c:=sc4.free (of_upd_none (of_upd_none n5));have nHa:=kk.free dk4 n4a;have nHb:=kk.free dk4 n4b;have nHc:=kk.free dk4 n4c;refine q p5 n ts _ ((((kk.trans sc4.kp).new nHa).new nHb).new nHc) ((((dk4.same sc4).new (hd.ne nHa)).new (hd.ne nHb)).new (hd.ne nHc)) (by omega) (by omega) ?_ ?_
      ·exact web_ren (by omega) (by omega) hF.1 hF.2.1 hfl (fun k k0 k1=>hF.2.2 k k0 (by omega)) hperm (pts.trans (pgs.map _)) (hts.srt hs3)
      ·refine⟨l4,upd_same,ps3,at_new upd_same n5,hts.tp ?_⟩;exact (((Tp.refl Hc).new nl3).new (of_upd_none nl4)).new (of_upd_none (of_upd_none n5))
def tiedB (kind one a b:Int):Bool :=
 if decide (kind=0)=true then decide (b=a+1)
 else if decide (kind=1)=true then decide (b=a+1) || (decide (a=0) && decide (b=one-1))
 else if decide (kind=2)=true then true
 else if decide (kind=3)=true then decide (a<one) && decide (one≤b)
 else if decide (kind=4)=true then (decide (b=a+1) && decide (b<one)) || (decide (a<one) && decide (b=a+one))
 else (decide (b=a+1) && !decide (b=one)) || decide (b=a+one)
def sp_ltied:Sp:=fun vs H Q _=>∃ kind one a b:Int,vs=[.int kind,.int one,.int a,.int b]∧Q (.bl (tiedB kind one a b)) H
theorem sc_ltied:FnScope ["_law_kind", "_law_one", "_law_a", "_law_b"] ["_law_kind", "_law_one", "_law_a", "_law_b"] (defScope (top 16)):=⟨rfl,rfl,rfl,by decide +kernel,rfl,by decide +kernel,by decide +kernel⟩
theorem ok_ltied {f:Addr}{fd:FuncData}(F:Fun K "_law_tied" "_law_tied" (top 16) f fd)(B:Bt mg):FnOk P w K mg base CX0 1 f fd ["_law_kind", "_law_one", "_law_a", "_law_b"] sp_ltied:=by
 refine F.ok sc_ltied (fun vs H Q E h=>?_) (fun cdv A outer s H vs Q E hr h=>?_)
 ·obtain⟨kind,one,a,b,rfl,q⟩:=h;rfl
 ·obtain⟨kind,one,a,b,rfl,q⟩:=h;have nd:=sc_ltied.nd;have hu:=hu_of hr
  refine⟨_,(pss_cons (ps_if (pt_cmpR op_eq (pv 0) pe_int (nomark _))
     (pss_one (ps_ret (pe_cmpR op_eq (pv 3) (pe_op op_add (pv 2) pe_int) (nomark _))))
     pss_nil)
    (pss_cons (ps_if (pt_cmpR op_eq (pv 0) pe_int (nomark _))
     (pss_one (ps_ret (pe_or (pe_cmpR op_eq (pv 3) (pe_op op_add (pv 2) pe_int) (nomark _)) (pe_one (pe_and (pe_cmpR op_eq (pv 2) pe_int (nomark _)) (pe_one (pe_cmpR op_eq (pv 3) (pe_op op_sub (pv 1) pe_int) (nomark _))))))))
     pss_nil)
    (pss_cons (ps_if (pt_cmpR op_eq (pv 0) pe_int (nomark _))
     (pss_one (ps_ret pe_bl))
     pss_nil)
    (pss_cons (ps_if (pt_cmpR op_eq (pv 0) pe_int (nomark _))
     (pss_one (ps_ret (pe_and (pe_cmpR op_lt (pv 2) (pv 1) (nomark _)) (pe_one (pe_cmpR op_ge (pv 3) (pv 1) (nomark _))))))
     pss_nil)
    (pss_cons (ps_if (pt_cmpR op_eq (pv 0) pe_int (nomark _))
     (pss_one (ps_ret (pe_or (pe_and (pe_cmpR op_eq (pv 3) (pe_op op_add (pv 2) pe_int) (nomark _)) (pe_one (pe_cmpR op_lt (pv 3) (pv 1) (nomark _)))) (pe_one (pe_and (pe_cmpR op_lt (pv 2) (pv 1) (nomark _)) (pe_one (pe_cmpR op_eq (pv 3) (pe_op op_add (pv 2) (pv 1)) (nomark _))))))))
     pss_nil)
    (pss_one (ps_ret (pe_or (pe_and (pe_cmpR op_eq (pv 3) (pe_op op_add (pv 2) pe_int) (nomark _)) (pe_one (pe_cmpR op_ne (pv 3) (pv 1) (nomark _)))) (pe_one (pe_cmpR op_eq (pv 3) (pe_op op_add (pv 2) (pv 1)) (nomark _))))))))))),?_⟩
  walk_at "rd";unfold tiedB at q;generalize decide (kind=0)=k0 at q ⊢;generalize decide (kind=1)=k1 at q ⊢;generalize decide (kind=2)=k2 at q ⊢;generalize decide (kind=3)=k3 at q ⊢;generalize decide (kind=4)=k4 at q ⊢;generalize decide (b=a+1)=d1 at q ⊢;generalize decide (a=0)=d2 at q ⊢;generalize decide (b=one-1)=d3 at q ⊢;generalize decide (a<one)=d4 at q ⊢;generalize decide (one≤b)=d5 at q ⊢;generalize decide (b<one)=d6 at q ⊢;generalize decide (b=a+one)=d7 at q ⊢;generalize decide (b=one)=d8 at q ⊢;cases k0
  ·cases k1
   ·cases k2
    ·cases k3
     ·cases k4
      ·cases d1<;>cases d8<;>exact q
      ·cases d1<;>cases d6<;>cases d4<;>exact q
     ·cases d4<;>exact q
    ·exact q
   ·cases d1<;>cases d2<;>exact q
  ·exact q
def kindN (kind one other:Int):Option V:=atI [.int one,.int one,.int one,.int (one+other),.int (2*one),.int (2*one)] kind
def kR (kind one:Int)(a:Nat)(m:Nat):List (Int×Int):=((rInts ((a:Int)+1) m).filter (tiedB kind one a)).map fun b=>((a:Int),b)
def kT (kind one:Int)(n:Nat)(i:Nat):List (Int×Int):=(List.range i).flatMap fun a=>kR kind one a (n-(a+1))
theorem kR_len {kind one:Int}{a m:Nat}:(kR kind one a m).length≤m:=by
 unfold kR;rw[List.length_map];refine Nat.le_trans (List.length_filter_le ..) ?_;rw[rInts_length];exact Nat.le_refl _
theorem kT_succ {kind one:Int}{n i:Nat}:kT kind one n (i+1)=kT kind one n i++kR kind one i (n-(i+1)):=by
 unfold kT;rw[List.range_succ,List.flatMap_append,List.flatMap_singleton]
theorem kT_len {kind one:Int}{n i:Nat}:(kT kind one n i).length≤i*n:=by
 induction i with
 | zero=>exact Nat.zero_le _
 | succ i ih =>
  rw[kT_succ,List.length_append,Nat.succ_mul];have:=kR_len (kind:=kind) (one:=one) (a:=i) (m:=n-(i+1));omega
def sp_lkweb (K:PySem.W.Frag):Sp:=fun vs H Q _=>∃ (kind one other:Int) (n:Nat),vs=[.int kind,.int one,.int other]∧kindN kind one other=some (.int n)∧0≤one∧one≤1000∧n≤200 ∧
 ∀ (p q:Addr) (H':Hp),Same H H'→H p=none→H' p=some (.tup [.int n,.ref q])→TsAt H' q (kT kind one n n)→Q (.ref p) H'
def inv_kw (Hb:Hp)(kind one other:Int)(n:Nat)(i:Nat)(σ:St)(Hc:Hp):Prop:=∃ (tp:Addr) (av:Option V) (ps:List (Addr×List Int)),σ=[some (.int kind),some (.int one),some (.int other),some (.int n),some (.ref tp),av]∧Same Hb Hc∧Hc tp=some (.lst (ps.map fun x=>V.ref x.1))∧PsAt Hc ps (kT kind one n i)
def inv_kr (Hb:Hp)(l:Addr)(kind one:Int)(a:Nat)(i:Nat)(τ:St)(Hc:Hp):Prop:=∃ (c:Option V) (ps:List (Addr×List Int)),τ=[c,some (.int a),some (.int kind),some (.int one)]∧Same Hb Hc∧Hc l=some (.lst (ps.map fun x=>V.ref x.1))∧PsAt Hc ps (kR kind one a i)
theorem sc_lkweb:FnScope ["_law_kind", "_law_one", "_law_other", "_law_places", "_law_ties", "_law_a"] ["_law_kind", "_law_one", "_law_other"] (defScope (top 17)):=⟨rfl,rfl,rfl,by decide +kernel,rfl,by decide +kernel,by decide +kernel⟩
theorem ok_lkweb {f:Addr}{fd:FuncData}(F:Fun K "_law_kind_web" "_law_kind_web" (top 17) f fd)(B:Bt mg){f1:Addr}{fd1:FuncData}{st1:Stmt}(D_law_tied:Df K mg "_law_tied" st1 f1 fd1 ["_law_kind", "_law_one", "_law_a", "_law_b"])(G_law_tied:FnOk P w K mg base CX0 1 f1 fd1 ["_law_kind", "_law_one", "_law_a", "_law_b"] sp_ltied):FnOk P w K mg base CX0 2 f fd ["_law_kind", "_law_one", "_law_other"] (sp_lkweb K):=by
 refine F.ok sc_lkweb (fun vs H Q E h=>?_) (fun cdv A outer s H vs Q E hr h=>?_)
 ·obtain⟨kind,one,other,n,rfl,hn,ho0,ho1,hn2,q0⟩:=h;rfl
 ·obtain⟨kind,one,other,n,rfl,hn,ho0,ho1,hn2,q0⟩:=h;have nd:=sc_lkweb.nd;have hu:=hu_of hr
  refine⟨_,(pss_cons (ps_set (i:=3) nd rfl (Or.inl rfl) (pe_ix (ix_listK K) (pe_lst (pa_cons (pv 1) (pa_cons (pv 1) (pa_cons (pv 1) (pa_cons (pe_op op_add (pv 1) (pv 2)) (pa_cons (pe_op op_mul pe_int (pv 1)) (pa_cons (pe_op op_mul pe_int (pv 1)) pa_nil))))))) (pv 0) (fun _ _=>rfl)))
    (pss_cons (ps_set (i:=4) nd rfl (Or.inl rfl) (pe_lst pa_nil))
    (pss_cons (ps_for PassesOwn.never rfl (pi_range1 (by rfl) B.range (pa_cons (pv 3) pa_nil)) (pg_name (i:=5) nd rfl (Or.inr rfl))
     (pss_one (ps_set (i:=4) nd rfl (Or.inl rfl) (pe_op op_cat (pv 4) (pe_lcomp (own:=["_law_b"]) (fr:=[("_law_a",5),("_law_kind",0),("_law_one",1)]) rfl (by with_unfolding_all rfl) (frOk_cons rfl rfl (frOk_cons rfl rfl (frOk_cons rfl rfl frOk_nil))) (pi_range2 (by rfl) B.range (pa_cons (pe_op op_add (pv 5) pe_int) (pa_cons (pv 3) pa_nil))) ⟨fun _ _ _ _=>⟨(pg_name (i:=0) (show List.Nodup (["_law_b", "_law_a", "_law_kind", "_law_one"]:List Str) by decide +kernel) rfl (Or.inl rfl)),(pts_one (pt_val (pe_own G_law_tied D_law_tied (hr.mono (by decide)) (pa_cons (pv 2) (pa_cons (pv 3) (pa_cons (pv 1) (pa_cons (pv 0) pa_nil))))))),(pe_tup (pa_cons (pv 1) (pa_cons (pv 0) pa_nil)))⟩⟩)))))
    (pss_one (ps_ret (pe_tup (pa_cons (pv 3) (pa_cons (pe_callTy (tupleK K) (by rfl) B.tuple PyProof.Rows.boot_tuple (pa_cons (pv 4) pa_nil)) pa_nil)))))))),?_⟩
  walk_at "rd";refine⟨.inl ⟨by decide,by decide⟩,.inl ⟨by decide,by decide⟩,by decide,fun p1 np1=>fresh_of np1 fun H1 s1 e1=>⟨_,SqL.of e1,_,hn,by decide,fun tp ntp=>fresh_of ntp fun H2 s2 e2=>?_⟩⟩;rw[tFor_eq];walk_at "rd";have s02:=s1.trans s2;refine⟨by omega,by omega,for_range (lo:=0) (n:=n) (inv_kw H kind one other n) ⟨tp,none,[],rfl,s02,e2,⟨fun x hx=>(by cases hx),rfl⟩⟩ ?_ ?_⟩
  ·rintro i σ Hc hi ⟨tp,av,ps,rfl,sc,hc,hps⟩;have pl:=hps.len;have kl:=kT_len (kind:=kind) (one:=one) (n:=n) (i:=i);have k2:i*n≤200*200:=Nat.mul_le_mul (by omega) hn2;walk_at "rd";refine⟨_,_,⟨rfl,rfl⟩,⟨by omega,by omega,by omega,by omega⟩,fun l nl=>?_⟩;rw[Int.zero_add,show ((n:Int)-((i:Int)+1)).toNat=n-(i+1) by omega];refine lc_range (inv_kr Hc l kind one i) ⟨none,[],rfl,(Same.refl Hc).upd nl,upd_same,⟨fun x hx=>(by cases hx),rfl⟩⟩ ?_ ?_
   ·rintro j τ Hd hj ⟨c,qs,rfl,sd,hd,hqs⟩;have ql:=hqs.len;have kl2:=kR_len (kind:=kind) (one:=one) (a:=i) (m:=j);walk_at "rd";refine⟨_,_,_,_,rfl,⟨_,rfl,?_⟩⟩;have er:kR kind one i (j+1)=kR kind one i j++if tiedB kind one i ((i:Int)+1+j)=true then [((i:Int),(i:Int)+1+j)] else []:=by
     unfold kR;rw[show rInts ((i:Int)+1) (j+1)=rInts ((i:Int)+1) j++[(i:Int)+1+j] by unfold rInts;rw[List.range_succ,List.map_append];rfl,List.filter_append,List.map_append];congr 1;by_cases h:tiedB kind one i ((i:Int)+1+j)=true
     ·rw[if_pos h,fil_pos _ h];rfl
     ·rw[if_neg h,fil_neg _ (by simpa using h)];rfl
    refine ite2 (fun h=>⟨by decide,fun pq nq=>⟨_,at_new hd nq,by rw[List.length_map];exact sizeBig (by omega),_,qs++[(pq,tl ((i:Int),(i:Int)+1+j))],rfl,(sd.upd (sd.free nq)).upd nl,by rw[upd_same,List.map_append];rfl,?_⟩⟩) fun h=>⟨_,qs,rfl,sd,hd,?_⟩
    ·rw[er,if_pos h];refine (hqs.tp ((Tp.nw nq).trans (Tp.lst (at_new hd nq)))).snoc ?_;rw[upd_ne (ne_of_none hd nq).symm,upd_same]
    ·rw[er,if_neg h,List.append_nil];exact hqs
   ·rintro τ Hd ⟨c,qs,rfl,sd,hd,hqs⟩;have ql:=hqs.len;have kl2:=kR_len (kind:=kind) (one:=one) (a:=i) (m:=n-(i+1));refine⟨tp,l,_,_,rfl,rfl,sd _ _ hc,hd,by rw[List.length_map,List.length_map];exact Nat.le_of_lt (sizeBig (by omega)),fun l2 nl2=>fresh_of nl2 fun He se ee=>⟨l2,_,ps++qs,rfl,(sc.trans sd).trans se,by rw[ee,List.map_append],?_⟩⟩;rw[kT_succ];exact (hps.tp (sd.trans se).tp).cat (hqs.tp se.tp)
  ·rintro σ Hc ⟨tp,av,ps,rfl,sc,hc,hps⟩;walk_at "rd";refine⟨_,.inl ⟨SqL.of hc,fun q nq=>fresh_of nq fun Hd sd ed=>⟨by decide,fun p np=>fresh_of np fun He se ee=>?_⟩⟩⟩;exact q0 p q He ((sc.trans sd).trans se) ((sc.trans sd).free np) ee ⟨ps,se _ _ ed,hps.tp (sd.trans se).tp⟩
def inv_near (H:Hp)(w0 p:Addr)(n:Int)(ts:List (Int×Int))(i:Nat)(σ:St)(Hc:Hp):Prop:=∃ (av bv:Option V) (as:List Addr),σ=[some (.ref w0),some (.ref p),av,bv]∧FrAt H Hc p as (rowsOf n (ts.take i))
def inv_near2 (H:Hp)(p:Addr)(n:Int)(ts:List (Int×Int))(i:Nat)(τ:St)(Hc:Hp):Prop:=∃ (c:Option V) (as:List Addr),τ=[c]∧FrAt H Hc p as ((rowsOf n ts).take i)
theorem sc_near:FnScope ["_law_web_here", "_law_near_here", "_law_one", "_law_other"] ["_law_web_here"] (defScope (top 18)):=⟨rfl,rfl,rfl,by decide +kernel,rfl,by decide +kernel,by decide +kernel⟩
theorem ok_near {f:Addr}{fd:FuncData}(F:Fun K "_law_near" "_law_near" (top 18) f fd)(B:Bt mg):FnOk P w K mg base CX0 1 f fd ["_law_web_here"] sp_near:=by
 refine F.ok sc_near (fun vs H Q E h=>?_) (fun cdv A outer s H vs Q E hr h=>?_)
 ·obtain⟨w0,n,ts,rfl,hw,hn0,hn1,htl,hok,hsr,q⟩:=h;rfl
 ·obtain⟨w0,n,ts,rfl,hw,hn0,hn1,htl,hok,hsr,q⟩:=h;have nd:=sc_near.nd;have hu:=hu_of hr
  refine⟨_,(pss_cons (ps_setLC (i:=1) (own:=["_law_place"]) (fr:=[]) rfl nd rfl rfl (by with_unfolding_all rfl) (by with_unfolding_all rfl) frOk_nil (pi_range1 (by rfl) B.range (pa_cons (pe_ix (ix_tupK K) (pv 0) pe_int (fun _ _=>rfl)) pa_nil)) ⟨fun _ _ _ _=>⟨(pg_name (i:=0) (show List.Nodup (["_law_place"]:List Str) by decide +kernel) rfl (Or.inl rfl)),pts_nil,(pe_lst pa_nil)⟩⟩)
    (pss_cons (ps_for PassesOwn.never rfl (pi_tupK K (pe_ix (ix_tupK K) (pv 0) pe_int (fun _ _=>rfl))) (pg_tupK K (n:=2) rfl (pgs_cons (pg_name (i:=2) nd rfl (Or.inl rfl)) (pgs_cons (pg_name (i:=3) nd rfl (Or.inl rfl)) pgs_nil)))
     (pss_cons (ps_expr (appendK K (pe_ix (ix_listK K) (pv 1) (pv 2) (fun _ _=>rfl)) (pa_cons (pv 3) pa_nil)))
     (pss_one (ps_expr (appendK K (pe_ix (ix_listK K) (pv 1) (pv 3) (fun _ _=>rfl)) (pa_cons (pv 2) pa_nil))))))
    (pss_one (ps_ret (pe_lcomp (own:=["_law_row"]) (fr:=[]) rfl (by with_unfolding_all rfl) frOk_nil (pi_listK K (pv 1)) ⟨fun _ _ _ _=>⟨(pg_name (i:=0) (show List.Nodup (["_law_row"]:List Str) by decide +kernel) rfl (Or.inl rfl)),pts_nil,(pe_callB (sortedIK K hr.hd) (by rfl) B.sorted PyProof.Rows.boot_sorted (pa_cons (pv 0) pa_nil))⟩⟩))))),?_⟩
  walk_at "rd";obtain⟨q0,hw0,ht⟩:=hw;obtain⟨xs,hx0,hxl,hxs⟩:=ht.get;refine⟨_,SqT.of hw0,_,rfl,n,rfl,by omega,by omega,fun p np=>lc_range (inv_rows1 H p) ?_ ?_ ?_⟩
  ·exact⟨none,[],rfl,(Same.refl H).upd np,np,(fun a ha=>by cases ha),RowsAt.nil upd_same⟩
  ·rintro i τ Hc hi ⟨c,as,rfl,fr⟩;walk_at "rd";refine⟨by decide,fun pq nq=>⟨_,at_new fr.rows.top nq,?_,?_⟩⟩
   ·rw[List.length_map,fr.rows.len,List.length_replicate];exact sizeBig (by omega)
   ·have:=fr.rows.snoc nq (r:=[]);refine⟨_,as++[pq],rfl,(fr.same.upd (fr.same.free nq)).upd np,np,fun a ha=>?_,?_⟩
    ·rcases List.mem_append.mp ha with ha | ha
     ·exact fr.na a ha
     ·cases List.mem_singleton.mp ha;exact fr.same.free nq
    ·rw[List.map_append] at this;rw[List.replicate_succ'];exact this
  ·rintro τ H2 ⟨c,as,rfl,fr⟩;rw[← rowsOf_nil] at fr;refine⟨_,rfl,_,_,1,_,rfl,rfl,SqT.of (fr.same _ _ hw0),rfl,_,rfl,⟨_,SqT.of (fr.same _ _ hx0)⟩,for_tup (xs:=xs) (inv_near H w0 p n ts) ⟨none,none,as,rfl,by rw[List.take_zero];exact fr⟩ ?_ ?_ ?_⟩
   ·rintro i σ Hc _ ⟨_,_,_,rfl,fr⟩;exact SqT.of (fr.same _ _ hx0)
   ·rintro i v σ Hc hv ⟨av,bv,as,rfl,fr⟩;obtain⟨a,t,rfl,hti,hta⟩:=hxs i v hv;obtain⟨t0,t1,t2⟩:=hok t (List.mem_of_getElem? hti);obtain⟨a1,a2,i1,c1,tp1,i2,c2,fr2⟩:=fr.step t0 t1 t2;have l1:∀ v,((nb (ts.take i) v).map V.int).length<sizeLine:=fun v=>by
     rw[List.length_map];have:=nb_len (ts:=ts.take i) v;rw[List.length_take] at this;exact sizeBig (by omega)
    walk_at "rd";refine⟨_,SqT.of (fr.same _ _ hta),rfl,_,_,rfl,_,_,rfl,rfl,_,_,rfl,SqL.of fr.rows.top,_,i1,.inl ⟨rfl,_,SqL.of c1⟩,_,rfl,_,c1,l1 _,_,_,rfl,SqL.of tp1,_,i2,.inl ⟨rfl,_,SqL.of c2⟩,_,rfl,_,c2,l1 _,_,_,as,rfl,?_⟩;rw[List.take_succ,hti];exact fr2
   ·rintro σ Hc ⟨av,bv,as,rfl,fr⟩;rw[hxl,List.take_length] at fr;walk_at "rd";refine⟨⟨_,SqL.of fr.rows.top⟩,fun p2 n2=>lc_list (K:=K) (xs:=as.map V.ref) (inv_near2 Hc p2 n ts) ?_ ?_ ?_ ?_⟩
    ·exact⟨none,[],rfl,(Same.refl Hc).upd n2,n2,(fun a ha=>by cases ha),RowsAt.nil upd_same⟩
    ·rintro i τ H4 _ ⟨_,_,rfl,fr4⟩;exact SqL.of (fr4.same _ _ fr.rows.top)
    ·rintro i v τ H4 hv ⟨c,bs,rfl,fr4⟩ _;have hil:i<n.toNat:=by
      have:=(List.getElem?_eq_some_iff.mp hv).1;rw[List.length_map,fr.rows.len,rowsOf_len] at this;exact this
     have hri:=rowsOf_get (n:=n) (ts:=ts) (v:=(i:Int)) (by omega) (by omega);rw[Int.toNat_natCast] at hri;rw[List.getElem?_map] at hv;cases ha:as[i]? with
     | none=>rw[ha] at hv;cases hv
     | some a =>
     rw[ha] at hv;cases Option.some.inj hv;have hra:=fr4.same _ _ (fr.rows.row i a _ ha hri);walk_at "rd";refine⟨_,.inl (SqL.of hra),fun ns' l pm hs nl=>?_⟩;have e:ns'=nb ts (i:Int):=sorted_self pm hs (nb_lt hok hsr _);subst e;refine⟨_,at_new fr4.rows.top nl,?_,_,bs++[l],rfl,(fr4.same.upd (fr4.same.free nl)).upd n2,n2,fun b hb=>?_,?_⟩
     ·rw[List.length_map,fr4.rows.len,List.length_take,rowsOf_len];exact sizeBig (by omega)
     ·rcases List.mem_append.mp hb with hb | hb
      ·exact fr4.na b hb
      ·cases List.mem_singleton.mp hb;exact fr4.same.free nl
     ·have:=fr4.rows.snoc nl (r:=nb ts (i:Int));rw[List.map_append] at this;rw[List.take_succ,hri];exact this
    ·rintro τ H4 ⟨c,bs,rfl,fr4⟩;rw[List.length_map,fr.rows.len,List.take_length] at fr4;exact q p2 bs H4 (fr.same.trans fr4.same) (fr.same.free n2) (fun b hb=>fr.same.free (fr4.na b hb)) fr4.rows
def inv_nrows (H:Hp)(w0 q0 p:Addr)(n:Int)(ts:List (Int×Int))(i:Nat)(σ:St)(Hc:Hp):Prop:=∃ (av bv:Option V) (as:List Addr),σ=[some (.ref w0),some (.int n),some (.ref q0),some (.ref p),av,bv]∧FrAt H Hc p as (rowsOf n (ts.take i))
theorem sc_nrows:FnScope ["web", "places", "ties", "rows", "a", "b"] ["web"] (defScope (top 2)):=⟨rfl,rfl,rfl,by decide +kernel,rfl,by decide +kernel,by decide +kernel⟩
theorem ok_nrows {f:Addr}{fd:FuncData}(F:Fun K "neighbour_rows" "neighbour_rows" (top 2) f fd)(B:Bt mg):FnOk P w K mg base CX0 1 f fd ["web"] sp_nrows:=by
 refine F.ok sc_nrows (fun vs H Q E h=>?_) (fun cdv A outer s H vs Q E hr h=>?_)
 ·obtain⟨w0,n,ts,rfl,hw,hn0,hn1,htl,hok,q⟩:=h;rfl
 ·obtain⟨w0,n,ts,rfl,hw,hn0,hn1,htl,hok,q⟩:=h;have nd:=sc_nrows.nd;have hu:=hu_of hr
  refine⟨_,(pss_cons (ps_asg (pv 0) (pg_tupK K (n:=2) rfl (pgs_cons (pg_name (i:=1) nd rfl (Or.inl rfl)) (pgs_cons (pg_name (i:=2) nd rfl (Or.inl rfl)) pgs_nil))))
    (pss_cons (ps_setLC (i:=3) (own:=["place"]) (fr:=[]) rfl nd rfl rfl (by with_unfolding_all rfl) (by with_unfolding_all rfl) frOk_nil (pi_range1 (by rfl) B.range (pa_cons (pv 1) pa_nil)) ⟨fun _ _ _ _=>⟨(pg_name (i:=0) (show List.Nodup (["place"]:List Str) by decide +kernel) rfl (Or.inl rfl)),pts_nil,(pe_lst pa_nil)⟩⟩)
    (pss_cons (ps_for PassesOwn.never rfl (pi_tupK K (pv 2)) (pg_tupK K (n:=2) rfl (pgs_cons (pg_name (i:=4) nd rfl (Or.inl rfl)) (pgs_cons (pg_name (i:=5) nd rfl (Or.inl rfl)) pgs_nil)))
     (pss_cons (ps_expr (appendK K (pe_ix (ix_listK K) (pv 3) (pv 4) (fun _ _=>rfl)) (pa_cons (pv 5) pa_nil)))
     (pss_one (ps_expr (appendK K (pe_ix (ix_listK K) (pv 3) (pv 5) (fun _ _=>rfl)) (pa_cons (pv 4) pa_nil))))))
    (pss_one (ps_ret (pv 3)))))),?_⟩
  walk_at "rd";obtain⟨q0,hw0,ht⟩:=hw;obtain⟨xs,hx0,hxl,hxs⟩:=ht.get;refine⟨_,SqT.of hw0,rfl,_,_,rfl,_,_,rfl,rfl,n,rfl,by omega,by omega,fun p np=>lc_range (inv_rows1 H p) ?_ ?_ ?_⟩
  ·exact⟨none,[],rfl,(Same.refl H).upd np,np,(fun a ha=>by cases ha),RowsAt.nil upd_same⟩
  ·rintro i τ Hc hi ⟨c,as,rfl,fr⟩;walk_at "rd";refine⟨by decide,fun pq nq=>⟨_,at_new fr.rows.top nq,?_,?_⟩⟩
   ·rw[List.length_map,fr.rows.len,List.length_replicate];exact sizeBig (by omega)
   ·have:=fr.rows.snoc nq (r:=[]);refine⟨_,as++[pq],rfl,(fr.same.upd (fr.same.free nq)).upd np,np,fun a ha=>?_,?_⟩
    ·rcases List.mem_append.mp ha with ha | ha
     ·exact fr.na a ha
     ·cases List.mem_singleton.mp ha;exact fr.same.free nq
    ·rw[List.map_append] at this;rw[List.replicate_succ'];exact this
  ·rintro τ H2 ⟨c,as,rfl,fr⟩;rw[← rowsOf_nil] at fr;refine⟨_,rfl,_,rfl,⟨_,SqT.of (fr.same _ _ hx0)⟩,for_tup (xs:=xs) (inv_nrows H w0 q0 p n ts) ⟨none,none,as,rfl,by rw[List.take_zero];exact fr⟩ ?_ ?_ ?_⟩
   ·rintro i σ Hc _ ⟨_,_,_,rfl,fr⟩;exact SqT.of (fr.same _ _ hx0)
   ·rintro i v σ Hc hv ⟨av,bv,as,rfl,fr⟩;obtain⟨a,t,rfl,hti,hta⟩:=hxs i v hv;obtain⟨t0,t1,t2⟩:=hok t (List.mem_of_getElem? hti);obtain⟨a1,a2,i1,c1,tp1,i2,c2,fr2⟩:=fr.step t0 t1 t2;have l1:∀ v,((nb (ts.take i) v).map V.int).length<sizeLine:=fun v=>by
     rw[List.length_map];have:=nb_len (ts:=ts.take i) v;rw[List.length_take] at this;exact sizeBig (by omega)
    walk_at "rd";refine⟨_,SqT.of (fr.same _ _ hta),rfl,_,_,rfl,_,_,rfl,rfl,_,_,rfl,SqL.of fr.rows.top,_,i1,.inl ⟨rfl,_,SqL.of c1⟩,_,rfl,_,c1,l1 _,_,_,rfl,SqL.of tp1,_,i2,.inl ⟨rfl,_,SqL.of c2⟩,_,rfl,_,c2,l1 _,_,_,as,rfl,?_⟩;rw[List.take_succ,hti];exact fr2
   ·rintro σ Hc ⟨av,bv,as,rfl,fr⟩;rw[hxl,List.take_length] at fr;exact⟨_,rfl,q p as Hc fr.same fr.np fr.na fr.rows⟩
def sp_beside (K:PySem.W.Frag):Sp:=fun zs H Q _=>∃ (pa:Addr) (us:List Int) (pb:Addr) (vs:List Int),zs=[.ref pa,.ref pb]∧SqL K H pa (us.map V.int)∧us.length≤100000∧SqT K H pb (vs.map V.int) ∧
 ∀ (p:Addr) (H':Hp),Same H H'→H p=none→H' p=some (.lst ((us.filter fun x=>decide (x∈vs)).map V.int))→Q (.ref p) H'
theorem sc_beside:FnScope ["row", "untouched"] ["row", "untouched"] (defScope (top 7)):=⟨rfl,rfl,rfl,by decide +kernel,rfl,by decide +kernel,by decide +kernel⟩
theorem ok_beside {f:Addr}{fd:FuncData}(F:Fun K "beside" "beside" (top 7) f fd)(B:Bt mg):FnOk P w K mg base CX0 1 f fd ["row", "untouched"] (sp_beside K):=by
 refine F.ok sc_beside (fun vs H Q E h=>?_) (fun cdv A outer s H vs Q E hr h=>?_)
 ·obtain⟨pa,us,pb,vs,rfl,hpa,hul,hpb,q⟩:=h;rfl
 ·obtain⟨pa,us,pb,vs,rfl,hpa,hul,hpb,q⟩:=h;have nd:=sc_beside.nd;have hu:=hu_of hr;refine⟨_,(pss_one (ps_ret (pe_lcomp (own:=["other"]) (fr:=[("untouched",1)]) rfl (by with_unfolding_all rfl) (frOk_cons rfl rfl frOk_nil) (pi_listK K (pv 0)) ⟨fun _ _ _ _=>⟨(pg_name (i:=0) (show List.Nodup (["other", "untouched"]:List Str) by decide +kernel) rfl (Or.inl rfl)),(pts_one (pt_cmpR (in_seqK K) (pv 0) (pv 1) (by with_unfolding_all rfl))),(pv 0)⟩⟩))),?_⟩;walk_at "rd";refine⟨⟨_,hpa⟩,fun p np=>lc_listF V.int (fun x=>decide (x∈vs)) V.int (by omega) hpa np ?_ (q p _ ((Same.refl H).upd np) np upd_same)⟩;intro x hx v ys R hy hR1 hR2;have sm:Same H (upd H p (.lst ys)):=(Same.refl H).upd np;walk_at "rd";exact in_use (.inr (sm.seqT hpb)) ⟨_,rfl,turn_ite rfl hy (by omega) hR1 hR2⟩
def lamQ:Str:=("next_busy":Str)++".<locals>."++"<lambda>"
def unN (ts:List (Int×Int))(us:List Int)(c:Int):Int:=((nb ts c).filter fun x=>decide (x∈us)).length
def sp_nbusy (tb:Addr):Sp:=fun vs H Q _=>∃ (rp:Addr) (as:List Addr) (n:Int) (ts:List (Int×Int)) (bp up:Addr) (bs us:List Int),vs=[.ref rp,.ref bp,.ref up]∧RowsAt H rp as (rowsOf n ts)∧0≤n∧n≤1000∧ts.length≤10000∧H bp=some (.tup (bs.map V.int))∧0<bs.length∧(∀ b∈bs,0≤b∧b<n)∧bs.Pairwise (·<·) ∧
 H up=some (.tup (us.map V.int))∧us.length≤10000∧LamAt H tb lamQ 28 27 ∧
 ∀ (b:Int) (H':Hp),Kp tb H H'→LamAt H' tb lamQ 28 27→b∈bs→(∀ c∈bs,unN ts us c≤unN ts us b∧(c<b→unN ts us c<unN ts us b))→Q (.int b) H'
theorem sc_nbusy:FnScope ["rows", "border", "untouched"] ["rows", "border", "untouched"] (defScope (top 8)):=⟨rfl,rfl,rfl,by decide +kernel,rfl,by decide +kernel,by decide +kernel⟩
theorem ok_nbusy {f cLm tLm:Addr}{oc kV doc pm ct:Value}{od an:Option Addr}{osl:Array (Option Value)}(F:K.lookup f=some ⟨oc,od,.func (PySem.W.fnOf "next_busy" "next_busy" (defArgs (top 8)) (defBody (top 8)) (defScope (top 8)) .none kV doc pm an (.ref cLm) ct),osl⟩)(Fc:PySem.W.codeIn K (.ref cLm) "next_busy"=true)(CL:PySem.W.CodeHd base cLm tLm)(BL:Bm mg base)(B:Bt mg){f1:Addr}{fd1:FuncData}{st1:Stmt}(Dbeside:Df K mg "beside" st1 f1 fd1 ["row", "untouched"])(Gbeside:FnOk P w K mg base CX0 1 f1 fd1 ["row", "untouched"] (sp_beside K)):FnOk P w K mg base CX0 4 f (PySem.W.fnOf "next_busy" "next_busy" (defArgs (top 8)) (defBody (top 8)) (defScope (top 8)) .none kV doc pm an (.ref cLm) ct) ["rows", "border", "untouched"] (sp_nbusy tLm):=by
 refine fun_okC F Fc sc_nbusy (fun vs H Q E h=>?_) (fun A outer s H vs Q E hr h=>?_)
 ·obtain⟨rp,as,n,ts,bp,up,bs,us,rfl,hR,hn0,hn1,hts,hb,hbn,hbr,hbs,hu0,hul,hL,q⟩:=h;rfl
 ·obtain⟨rp,as,n,ts,bp,up,bs,us,rfl,hR,hn0,hn1,hts,hb,hbn,hbr,hbs,hu0,hul,hL,q⟩:=h;have nd:=sc_nbusy.nd;have hu:=hu_of hr;refine⟨_,(pss_one (ps_ret (pe_maxK (k:=1) (c:=cLm) (P:=tLm) (x:="place") (fr:=[("rows",0),("untouched",2)]) rfl hr (by rfl) B.max ⟨rfl,rfl⟩ (by with_unfolding_all rfl) (frOk_cons rfl rfl (frOk_cons rfl rfl frOk_nil)) rfl rfl rfl rfl rfl CL BL (fun _ _ _ _ _ _=>rfl) (pa_cons (pv 1) pa_nil) (fun _ _ _ _ _ _ hr=>(pe_callB (lenK K) (by rfl) B.len PySem.boot_len (pa_cons (pe_own Gbeside Dbeside (hr.mono (by decide)) (pa_cons (pe_ix (ix_listK K) (pv 1) (pv 0) (fun _ _=>rfl)) (pa_cons (pv 2) pa_nil))) pa_nil)))))),?_⟩;walk_at "rd";have hat:∀ {i:Nat} {v:V},(bs.map V.int)[i]?=some v→∃ c,bs[i]?=some c∧v=.int c∧c∈bs:=fun {i v} e=>by
   rw[List.getElem?_map] at e;cases e0:bs[i]? with
   | none=>rw[e0] at e;cases e
   | some c=>rw[e0] at e;exact⟨c,rfl,(Option.some.inj e).symm,List.mem_of_getElem? e0⟩
  have nP:∀ {a:Addr} {o:HO},H a=some o→(∀ ps,o≠.tbl ps)→a≠tLm:=fun {a o} e ho z=>by
   rw[z] at e;rcases hL with h | ⟨_,h,_⟩<;>(rw[h] at e;exact ho _ (Option.some.inj e).symm)
  refine⟨_,hb,by rw[List.length_map];exact hbn,hL,fun i=>unN ts us (bs.getD i 0),fun i v H2 ev k2 l2=>?_,fun i v H3 ev best k3 l3=>?_⟩
  ·obtain⟨c,ec,rfl,hc⟩:=hat ev;have hc2:=hbr c hc
   have hR2:RowsAt H2 rp as (rowsOf n ts):=hR.mono fun a o ha e=>k2 a o (nP e (by
    rcases ha with ha | ha
    ·subst ha;rw[hR.top] at e;cases e;exact fun _ z=>nomatch z
    ·obtain⟨j,hj⟩:=List.mem_iff_getElem?.mp ha;have hjl:=(List.getElem?_eq_some_iff.mp hj).1;rw[hR.len] at hjl;rw[hR.row j a _ hj (List.getElem?_eq_getElem hjl)] at e
     cases e;exact fun _ z=>nomatch z)) e
   obtain⟨a,_,ea,hrow,_⟩:=hR2.get hc2.1 (rowsOf_get hc2.1 hc2.2);refine⟨_,_,rfl,SqL.of hR2.top,_,ea,a,nb ts c,up,us,rfl,SqL.of hrow,?_,SqT.of (k2 _ _ (nP hu0 fun _ z=>nomatch z) hu0),fun p H' s' np ep=>⟨p,rfl,_,.inl (SqL.of ep),?_,s'⟩⟩
   ·have:=nb_len (ts:=ts) c;omega
   ·rw[List.length_map];show _=unN ts us (bs.getD i 0);rw[show bs.getD i 0=c by simp[ec]];rfl
  ·obtain⟨c,ec,rfl,hc⟩:=hat ev;have ec':bs.getD i 0=c:=by simp[ec]
   refine q c H3 k3 l3 hc fun d hd=>?_
   obtain⟨j,hj⟩:=List.mem_iff_getElem?.mp hd;have hjl:=(List.getElem?_eq_some_iff.mp hj).1;have ej:bs.getD j 0=d:=by simp[hj]
   have b:=best j (by rw[List.length_map];exact hjl);simp only[ec',ej] at b;refine⟨b.1,fun hlt=>b.2 ?_⟩;rcases Nat.lt_trichotomy j i with h | h | h
   ·exact h
   ·subst h;rw[hj] at ec;cases ec;omega
   ·have hil:=(List.getElem?_eq_some_iff.mp ec).1;have:=List.pairwise_iff_getElem.mp hbs i j hil hjl h;rw[(List.getElem?_eq_some_iff.mp ec).2,(List.getElem?_eq_some_iff.mp hj).2] at this;omega
def sp_tieof:Sp:=fun vs H Q _=>∃ (a b:Int),vs=[.int a,.int b]∧∀ (p:Addr) (H':Hp),Same H H'→H p=none→H' p=some (.tup ((tl (mm a b)).map V.int))→Q (.ref p) H'
theorem sc_tieof:FnScope ["one", "other"] ["one", "other"] (defScope (top 1)):=⟨rfl,rfl,rfl,by decide +kernel,rfl,by decide +kernel,by decide +kernel⟩
theorem ok_tieof {f:Addr}{fd:FuncData}(F:Fun K "tie_of" "tie_of" (top 1) f fd)(B:Bt mg)(C:Bt2 mg):FnOk P w K mg base CX0 1 f fd ["one", "other"] sp_tieof:=by
 refine F.ok sc_tieof (fun vs H Q E h=>?_) (fun cdv A outer s H vs Q E hr h=>?_)
 ·obtain⟨a,b,rfl,q⟩:=h;rfl
 ·obtain⟨a,b,rfl,q⟩:=h;have nd:=sc_tieof.nd;have hu:=hu_of hr;refine⟨_,(pss_one (ps_ret (pe_tup (pa_cons (pe_callB (call_min2 rfl) (by rfl) B.min PyProof.Rows.boot_min (pa_cons (pv 0) (pa_cons (pv 1) pa_nil))) (pa_cons (pe_callB (call_max2 rfl) (by rfl) B.max PyProof.Rows.boot_max (pa_cons (pv 0) (pa_cons (pv 1) pa_nil))) pa_nil))))),?_⟩;walk_at "rd";exact⟨_,_,⟨rfl,rfl⟩,_,_,⟨rfl,rfl⟩,by decide,fun p np=>q p _ ((Same.refl H).upd np) np upd_same⟩
def sp_touched:Sp:=fun vs H Q _=>∃ (w:Addr) (n:Int) (ts:List (Int×Int)) (pl:Addr) (us:List Int),vs=[.ref w,.ref pl]∧WebAt H w n ts∧IsWeb n ts∧H pl=some (.tup (us.map V.int))∧us.length≤60∧(∀ x∈us,0≤x∧x<n) ∧
 ∀ (p:Addr) (zs:List Int) (H':Hp),Same H H'→H p=none→H' p=some (.tup (zs.map V.int))→zs.Pairwise (·<·)→(∀ x,x∈zs↔x∉us∧∃ y∈us,x∈nb ts y)→Q (.ref p) H'
def inv_t1 (Hb:Hp)(am:Addr)(us:List Int)(i:Nat)(τ:St)(Hc:Hp):Prop:=∃ (c:Option V) (fs:List Int),τ=[c]∧Same Hb Hc∧Hc am=some (.dK (kvI fs))∧fs.length≤i∧∀ x,x∈fs↔x∈us.take i
def tFnd (Hb:Hp)(n:Int)(fo:Addr)(C:Int→Prop)(Hc:Hp):Prop:=∃ fs:List Int,Same Hb Hc∧Hc fo=some (.dK (kvI fs))∧fs.Nodup∧(∀ x∈fs,0≤x∧x<n)∧∀ x,x∈fs↔C x
def inv_t2 (Hb:Hp)(w0 pl rp am fo:Addr)(n:Int)(ts:List (Int×Int))(us:List Int)(i:Nat)(σ:St)(Hc:Hp):Prop:=∃ (pv ov:Option V),σ=[some (.ref w0),some (.ref pl),some (.ref rp),pv,some (.ref am),some (.ref fo),ov] ∧
 tFnd Hb n fo (fun x=>x∉us∧∃ y∈us.take i,x∈nb ts y) Hc
def inv_t3 (Hb:Hp)(w0 pl rp am fo:Addr)(n:Int)(ts:List (Int×Int))(us:List Int)(i:Nat)(u:Int)(j:Nat)(σ:St)(Hc:Hp):Prop:=∃ (ov:Option V),σ=[some (.ref w0),some (.ref pl),some (.ref rp),some (.int u),some (.ref am),some (.ref fo),ov] ∧
 tFnd Hb n fo (fun x=>x∉us∧((∃ y∈us.take i,x∈nb ts y)∨x∈(nb ts u).take j)) Hc
theorem sc_touched:FnScope ["web", "places", "rows", "place", "among", "found", "other"] ["web", "places"] (defScope (top 3)):=⟨rfl,rfl,rfl,by decide +kernel,rfl,by decide +kernel,by decide +kernel⟩
theorem ok_touched {f:Addr}{fd:FuncData}(F:Fun K "touched" "touched" (top 3) f fd)(B:Bt mg){f1:Addr}{fd1:FuncData}{st1:Stmt}(Dneighbour_rows:Df K mg "neighbour_rows" st1 f1 fd1 ["web"])(Gneighbour_rows:FnOk P w K mg base CX0 1 f1 fd1 ["web"] sp_nrows):FnOk P w K mg base CX0 2 f fd ["web", "places"] sp_touched:=by
 refine F.ok sc_touched (fun vs H Q E h=>?_) (fun cdv A outer s H vs Q E hr h=>?_)
 ·obtain⟨w0,n,ts,pl,us,rfl,hw,hok,hpl,hul,hus,q⟩:=h;rfl
 ·obtain⟨w0,n,ts,pl,us,rfl,hw,hok,hpl,hul,hus,q⟩:=h;have nd:=sc_touched.nd;have hu:=hu_of hr
  refine⟨_,(pss_cons (ps_set (i:=2) nd rfl (Or.inl rfl) (pe_own Gneighbour_rows Dneighbour_rows (hr.mono (by decide)) (pa_cons (pv 0) pa_nil)))
    (pss_cons (ps_setDC (i:=4) (own:=["place"]) (fr:=[]) false hu rfl nd rfl rfl (by with_unfolding_all rfl) (by with_unfolding_all rfl) frOk_nil (pi_tupK K (pv 1)) ⟨fun _ _ _ _=>⟨(pg_name (i:=0) (show List.Nodup (["place"]:List Str) by decide +kernel) rfl (Or.inl rfl)),pts_nil,(pv 0),pe_bl⟩⟩)
    (pss_cons (ps_set (i:=5) nd rfl (Or.inl rfl) pe_dnewK)
    (pss_cons (ps_for PassesOwn.never rfl (pi_tupK K (pv 1)) (pg_name (i:=3) nd rfl (Or.inl rfl))
     (pss_one (ps_for PassesOwn.never rfl (pi_listK K (pe_ix (ix_listK K) (pv 2) (pv 3) (fun _ _=>rfl))) (pg_name (i:=6) nd rfl (Or.inl rfl))
      (pss_one (ps_if (pt_cmp (pc_dnotin hu (pv 6) (pv 4)))
       (pss_one (ps_dput hu (pv 5) (pv 6) pe_bl rfl))
       pss_nil)))))
    (pss_one (ps_ret (pe_callTy (tupleK K) (by rfl) B.tuple PyProof.Rows.boot_tuple (pa_cons (pe_callB (sortedIK K hr.hd) (by rfl) B.sorted PyProof.Rows.boot_sorted (pa_cons (pv 5) pa_nil)) pa_nil)))))))),?_⟩
  walk_at "rd";have h3:=hok.n3;have h60:=hok.n60;have hl:=hok.len;refine⟨w0,n,ts,rfl,hw,by omega,by omega,by omega,hok.rng,fun rp as H1 s1 np na hR=>?_⟩;refine⟨⟨_,SqT.of (s1 _ _ hpl)⟩,fun am nam=>dc_tup (K:=K) (xs:=us.map V.int) (inv_t1 H1 am us) ⟨none,[],rfl,(Same.refl H1).upd nam,upd_same,Nat.le_refl _,by simp⟩ ?_ ?_ ?_⟩
  ·rintro i τ Hc _ ⟨_,_,rfl,sc,_⟩;exact SqT.of (sc _ _ (s1 _ _ hpl))
  ·rintro i v τ Hc hv ⟨c,fs,rfl,sc,ha,hfl,hm⟩;rw[List.getElem?_map] at hv;cases hu0:us[i]? with
   | none=>rw[hu0] at hv;cases hv
   | some u =>
   rw[hu0] at hv;cases Option.some.inj hv;have hil:=(List.getElem?_eq_some_iff.mp hu0).1;walk_at "rd";refine⟨_,DPut.k (k:=Sum.inl u) ha (kvI_small (by omega)),?_⟩;rw[put_kvI];refine⟨_,_,rfl,sc.upd nam,upd_same,?_,fun x=>?_⟩
   ·have:=len_addI (us:=fs) (x:=u);omega
   ·rw[mem_addI,hm,List.take_succ,hu0];simp
  ·rintro τ H2 ⟨c,fs,rfl,sc,ha,hfl,hm⟩;rw[List.length_map,List.take_length] at hm;refine fun fo nfo=>?_
   have s2:Same H1 H2:=sc;have R2:=hR.same s2;have ham:∀ {Hc:Hp},Same H2 Hc→Hc am=some (.dK (kvI fs)):=fun s=>s _ _ ha
   refine⟨_,rfl,_,rfl,⟨_,SqT.of (at_new (s2 _ _ (s1 _ _ hpl)) nfo)⟩,for_tup (K:=K) (xs:=us.map V.int) (inv_t2 H2 w0 pl rp am fo n ts us) ⟨none,none,rfl,[],(Same.refl H2).upd nfo,upd_same,by simp,by simp,by simp⟩ ?_ ?_ ?_⟩
   ·rintro i σ Hc _ ⟨_,_,rfl,_,sc,_⟩;exact SqT.of (sc _ _ (s2 _ _ (s1 _ _ hpl)))
   ·rintro i v σ Hc hv ⟨pv,ov,rfl,gs,sc,hfo,gnd,grn,gm⟩;rw[List.getElem?_map] at hv;cases hu0:us[i]? with
    | none=>rw[hu0] at hv;cases hv
    | some u =>
    rw[hu0] at hv;cases Option.some.inj hv;obtain⟨u0,u1⟩:=hus u (List.mem_of_getElem? hu0);obtain⟨a,e1,e2,e3,e4⟩:=(R2.same sc).get u0 (rowsOf_get u0 u1);have hrow:∀ {Hd:Hp},Same H2 Hd→Hd a=some (.lst ((nb ts u).map V.int)):=fun s=>s _ _ (R2.row _ _ _ e1 (rowsOf_get u0 u1))
    walk_at "rd";refine⟨_,rfl,_,rfl,_,_,_,_,rfl,rfl,SqL.of (sc _ _ R2.top),e2,_,rfl,⟨_,SqL.of (hrow sc)⟩,for_list (K:=K) (xs:=(nb ts u).map V.int) (inv_t3 H2 w0 pl rp am fo n ts us i u) ⟨_,rfl,gs,sc,hfo,gnd,grn,fun x=>?_⟩ ?_ ?_ ?_⟩
    ·rw[gm];simp
    ·rintro j σ Hd _ ⟨_,rfl,_,sd,_⟩;exact SqL.of (hrow sd)
    ·rintro j v σ Hd hv ⟨ov,rfl,gs,sd,hfo,gnd,grn,gm⟩;rw[List.getElem?_map] at hv;cases hx0:(nb ts u)[j]? with
     | none=>rw[hx0] at hv;cases hv
     | some x =>
     rw[hx0] at hv;cases Option.some.inj hv;have hxm:=List.mem_of_getElem? hx0;obtain⟨x0,x1,_⟩:=nb_rng hok.rng hxm;walk_at "rd";refine⟨_,DGet.k (k:=Sum.inl x) (ham sd),?_⟩;rw[val_kvI];refine ite2 (fun h=>?_) fun h=>?_
     ·have hxu:x∉us:=by rw[← hm];simpa using h
      have gl:=nd_len gnd grn;refine⟨_,DPut.k (k:=Sum.inl x) hfo (kvI_small (by omega)),?_⟩;rw[put_kvI];refine⟨_,rfl,_,sd.upd nfo,upd_same,nd_addI gnd,fun y hy=>?_,fun y=>?_⟩
      ·rcases mem_addI.mp hy with hy | rfl
       ·exact grn y hy
       ·exact⟨x0,x1⟩
      ·rw[mem_addI,gm,List.take_succ,hx0];simp only[Option.toList_some,List.mem_append,List.mem_singleton];constructor
       ·rintro (⟨a,b⟩ | rfl)
        ·exact⟨a,b.elim .inl fun c=>.inr (.inl c)⟩
        ·exact⟨hxu,.inr (.inr rfl)⟩
       ·rintro⟨a,b | b | b⟩
        ·exact .inl ⟨a,.inl b⟩
        ·exact .inl ⟨a,.inr b⟩
        ·exact .inr b
     ·have hxu:x∈us:=by rw[← hm];simpa using h
      refine⟨_,rfl,gs,sd,hfo,gnd,grn,fun y=>?_⟩;rw[gm,List.take_succ,hx0];simp only[Option.toList_some,List.mem_append,List.mem_singleton];constructor
      ·rintro⟨a,b⟩;exact⟨a,b.elim .inl fun c=>.inr (.inl c)⟩
      ·rintro⟨a,b | b | b⟩
       ·exact⟨a,.inl b⟩
       ·exact⟨a,.inr b⟩
       ·subst b;exact absurd hxu a
    ·rintro σ Hd ⟨ov,rfl,gs,sd,hfo,gnd,grn,gm⟩;rw[List.length_map,List.take_length] at gm;refine⟨_,_,rfl,gs,sd,hfo,gnd,grn,fun y=>?_⟩;rw[gm,List.take_succ,hu0];simp only[Option.toList_some,List.mem_append,List.mem_singleton];constructor
     ·rintro⟨a,⟨z,b,c⟩ | b⟩
      ·exact⟨a,z,.inl b,c⟩
      ·exact⟨a,u,.inr rfl,b⟩
     ·rintro⟨a,z,b | rfl,c⟩
      ·exact⟨a,.inl ⟨z,b,c⟩⟩
      ·exact⟨a,.inr c⟩
   ·rintro σ Hc ⟨pv,ov,rfl,gs,sc,hfo,gnd,grn,gm⟩;rw[List.length_map,List.take_length] at gm;walk_at "rd";refine⟨gs,.inr (.inr ⟨_,hfo,kvI_keys gs⟩),fun ns l pm hs nl=>⟨_,.inl ⟨SqL.of upd_same,fun l2 n2=>?_⟩⟩⟩;have s3:Same H Hc:=(s1.trans s2).trans sc;have f1:=s3.free nl;have f2:=s3.free (of_upd_none n2);refine q l2 ns _ ((s3.upd f1).upd f2) f2 upd_same (sorted_rising pm hs gnd) fun x=>?_
    rw[pm.mem_iff,gm]
def sp_pbut (K:PySem.W.Frag):Sp:=fun vs H Q _=>∃ (w:Addr) (n:Int) (ts:List (Int×Int)) (pl:Addr) (us:List Int),vs=[.ref w,.ref pl]∧WebAt H w n ts∧0≤n∧n≤1000∧SqT K H pl (us.map V.int)∧us.length≤10000 ∧
 ∀ (p:Addr) (H':Hp),Same H H'→H p=none→H' p=some (.tup (((rInts 0 n.toNat).filter fun x=>!decide (x∈us)).map V.int))→Q (.ref p) H'
theorem sc_pbut:FnScope ["web", "some", "among"] ["web", "some"] (defScope (top 5)):=⟨rfl,rfl,rfl,by decide +kernel,rfl,by decide +kernel,by decide +kernel⟩
theorem ok_pbut {f:Addr}{fd:FuncData}(F:Fun K "places_but" "places_but" (top 5) f fd)(B:Bt mg):FnOk P w K mg base CX0 1 f fd ["web", "some"] (sp_pbut K):=by
 refine F.ok sc_pbut (fun vs H Q E h=>?_) (fun cdv A outer s H vs Q E hr h=>?_)
 ·obtain⟨w0,n,ts,pl,us,rfl,hw,hn0,hn1,hpl,hul,q⟩:=h;rfl
 ·obtain⟨w0,n,ts,pl,us,rfl,hw,hn0,hn1,hpl,hul,q⟩:=h;have nd:=sc_pbut.nd;have hu:=hu_of hr
  refine⟨_,(pss_cons (ps_set (i:=2) nd rfl (Or.inr rfl) (pe_dcomp (own:=["place"]) (fr:=[]) false hu rfl (by with_unfolding_all rfl) frOk_nil (pi_tupK K (pv 1)) ⟨fun _ _ _ _=>⟨(pg_name (i:=0) (show List.Nodup (["place"]:List Str) by decide +kernel) rfl (Or.inl rfl)),pts_nil,(pv 0),pe_bl⟩⟩))
    (pss_one (ps_ret (pe_callTy (tupleK K) (by rfl) B.tuple PyProof.Rows.boot_tuple (pa_cons (pe_lcomp (own:=["place"]) (fr:=[("among",2)]) rfl (by with_unfolding_all rfl) (frOk_cons rfl rfl frOk_nil) (pi_range1 (by rfl) B.range (pa_cons (pe_ix (ix_tupK K) (pv 0) pe_int (fun _ _=>rfl)) pa_nil)) ⟨fun _ _ _ _=>⟨(pg_name (i:=0) (show List.Nodup (["place", "among"]:List Str) by decide +kernel) rfl (Or.inl rfl)),(pts_one (pt_cmp (pc_dnotin hu (pv 0) (pv 1)))),(pv 0)⟩⟩) pa_nil))))),?_⟩
  walk_at "rd";obtain⟨q0,hw0,ht⟩:=hw;refine⟨⟨_,hpl⟩,fun am nam=>dc_setF hpl nam (by omega) ?_ ?_⟩
  ·intro u hu v fs R hf hR;walk_at "rd";exact⟨_,DPut.k (k:=Sum.inl u) upd_same (kvI_small hf),hR _⟩
  ·intro fs hnd hm hfl;refine fresh_of nam fun H1 s1 e1=>?_
   refine⟨_,SqT.of (s1 _ _ hw0),_,rfl,n,rfl,by omega,by omega,fun p np=>lc_rangeF (fun x=>!decide (x∈us)) V.int (by omega) ?_ ?_⟩
   ·intro x h0 h1 v ys R hy hR1 hR2;walk_at "rd";refine⟨_,DGet.k (k:=Sum.inl x) (((Same.refl H1).upd np) _ _ e1),?_⟩;rw[val_kvI];exact turn_ite (by simp[hm]) hy (by omega) hR1 hR2
   ·refine⟨_,.inl ⟨SqL.of upd_same,fun l nl=>?_⟩⟩;have f1:=s1.free np;have f2:=s1.free (of_upd_none nl);exact q l _ ((s1.upd f1).upd f2) f2 upd_same
def sp_lawT (K:PySem.W.Frag)(tb:Addr):Sp:=fun vs H Q _=>∃ (a:Addr) (ns:List Int),vs=[.ref a]∧SqL K H a (ns.map V.int)∧ns.length≤63∧LamAt H tb lamQ 28 27∧∀ H',Q (.bl true) H'
def sp_grown (K:PySem.W.Frag)(tb:Addr):Sp:=fun vs H Q _=>∃ (w:Addr) (n:Int) (ts:List (Int×Int)),vs=[.ref w]∧WebAt H w n ts∧IsWeb n ts∧LamAt H tb lamQ 28 27∧∀ (p po pt:Addr) (k:Nat) (os:List Int) (gs us:List (Int×Int)) (H':Hp),Kp tb H H'→LamAt H' tb lamQ 28 27→H p=none→H' p=some (.tup [.ref po,.ref pt])→H' po=some (.tup (os.map V.int))→TsAt H' pt us→Gwn n ts k os gs→unT n ts os=[]→us.Perm gs→(us.Pairwise fun x y=>HT.lexLt (tl y) (tl x)=false)→Q (.ref p) H'
structure GwAt (tb:Addr)(Hb Hc:Hp)(tp po pu pb:Addr)(n:Int)(ts:List (Int×Int))(k:Nat)(os bs:List Int)(gs:List (Int×Int))(ps:List (Addr×List Int)):Prop where
 kp:Kp tb Hb Hc
 lam:LamAt Hc tb lamQ 28 27
 ord:Hc po=some (.tup (os.map V.int))
 tie:Hc tp=some (.lst (ps.map fun x=>V.ref x.1))
 ps:PsAt Hc ps gs
 unt:Hc pu=some (.tup ((unT n ts os).map V.int))
 bor:Hc pb=some (.tup (bs.map V.int))
 rdy:∀ x,x∈bs↔Rdy n ts os x
 srt:bs.Pairwise (·<·)
 gwn:Gwn n ts k os gs
def inv_gr (tb:Addr)(Hb:Hp)(w0 rp tp:Addr)(n:Int)(ts:List (Int×Int))(m:Nat)(σ:St)(Hc:Hp):Prop:=∃ (po pu pb:Addr) (pv:Option V) (os bs:List Int) (k:Nat) (gs:List (Int×Int)) (ps:List (Addr×List Int)),σ=[some (.ref w0),some (.ref rp),some (.ref po),some (.ref tp),some (.ref pu),some (.ref pb),pv]∧GwAt tb Hb Hc tp po pu pb n ts k os bs gs ps∧m=n.toNat-k
def inv_ge (Hb:Hp)(l:Addr)(rp b:Addr)(pl:Int)(xs:List Int)(i:Nat)(τ:St)(Hc:Hp):Prop:=∃ (c:Option V) (ps:List (Addr×List Int)),τ=[c,some (.int pl)]∧Same Hb Hc∧Hc l=some (.lst (ps.map fun x=>V.ref x.1))∧PsAt Hc ps ((xs.take i).map (mm pl))
theorem sc_grown:FnScope ["web", "rows", "order", "ties", "untouched", "border", "place"] ["web"] (defScope (top 9)):=⟨rfl,rfl,rfl,by decide +kernel,rfl,by decide +kernel,by decide +kernel⟩
theorem ok_grown {f:Addr}{fd:FuncData}(F:Fun K "grown" "grown" (top 9) f fd)(B:Bt mg){tLm:Addr}{f1:Addr}{fd1:FuncData}{st1:Stmt}(Dneighbour_rows:Df K mg "neighbour_rows" st1 f1 fd1 ["web"])(Gneighbour_rows:FnOk P w K mg base CX0 1 f1 fd1 ["web"] sp_nrows){f2:Addr}{fd2:FuncData}{st2:Stmt}(Dnext_busy:Df K mg "next_busy" st2 f2 fd2 ["rows", "border", "untouched"])(Gnext_busy:FnOk P w K mg base CX0 4 f2 fd2 ["rows", "border", "untouched"] (sp_nbusy tLm)){f3:Addr}{fd3:FuncData}{st3:Stmt}(Dbeside:Df K mg "beside" st3 f3 fd3 ["row", "untouched"])(Gbeside:FnOk P w K mg base CX0 1 f3 fd3 ["row", "untouched"] (sp_beside K)){f4:Addr}{fd4:FuncData}{st4:Stmt}(Dtie_of:Df K mg "tie_of" st4 f4 fd4 ["one", "other"])(Gtie_of:FnOk P w K mg base CX0 1 f4 fd4 ["one", "other"] sp_tieof){f5:Addr}{fd5:FuncData}{st5:Stmt}(Dtouched:Df K mg "touched" st5 f5 fd5 ["web", "places"])(Gtouched:FnOk P w K mg base CX0 2 f5 fd5 ["web", "places"] sp_touched){f6:Addr}{fd6:FuncData}{st6:Stmt}(Dplaces_but:Df K mg "places_but" st6 f6 fd6 ["web", "some"])(Gplaces_but:FnOk P w K mg base CX0 1 f6 fd6 ["web", "some"] (sp_pbut K)):FnOk P w K mg base CX0 6 f fd ["web"] (sp_grown K tLm):=by
 refine F.ok sc_grown (fun vs H Q E h=>?_) (fun cdv A outer s H vs Q E hr h=>?_)
 ·obtain⟨w0,n,ts,rfl,hw,hok,hL,q⟩:=h;rfl
 ·obtain⟨w0,n,ts,rfl,hw,hok,hL,q⟩:=h;have nd:=sc_grown.nd;have hu:=hu_of hr
  refine⟨_,(@pss_cons _ _ _ _ _ (ps_set (i:=1) nd rfl (Or.inl rfl) (pe_own Gneighbour_rows Dneighbour_rows (hr.mono (by decide)) (@pa_cons _ _ _ _ _ (pv 0) pa_nil (by rfl))))
    (@pss_cons _ _ _ _ _ (ps_set (i:=2) nd rfl (Or.inl rfl) (@pe_tup _ _ _ _ _ pa_nil))
    (@pss_cons _ _ _ _ _ (ps_set (i:=3) nd rfl (Or.inl rfl) (@pe_lst _ _ _ _ pa_nil))
    (@pss_cons _ _ _ _ _ (ps_asg2 (pe_callTy (call_tuple_rng hr.hd) (by rfl) B.tuple PyProof.Rows.boot_tuple (@pa_cons _ _ _ _ _ (pe_callTy call_rng1 (by rfl) B.range PyProof.Rows.boot_range (@pa_cons _ _ _ _ _ (@pe_ix _ _ _ _ _ _ _ (ix_tupK K) (pv 0) pe_int (fun _ _=>rfl)) pa_nil (by rfl))) pa_nil (by rfl))) (pg_name (i:=4) nd rfl (Or.inl rfl)) (pg_name (i:=5) nd rfl (Or.inl rfl)))
    (@pss_cons _ _ _ _ _ (ps_while PassesOwn.never (truthK K (pv 4) (fun _=>rfl))
     (@pss_cons _ _ _ _ _ (ps_set (i:=6) nd rfl (Or.inr rfl) (pe_own Gnext_busy Dnext_busy (hr.mono (by decide)) (@pa_cons _ _ _ _ _ (pv 1) (@pa_cons _ _ _ _ _ (pv 5) (@pa_cons _ _ _ _ _ (pv 4) pa_nil (by rfl)) (by rfl)) (by rfl))))
     (@pss_cons _ _ _ _ _ (ps_expr (extendK K (pv 3) (@pa_cons _ _ _ _ _ (pe_lcomp (own:=["other"]) (fr:=[("place",6)]) rfl (by with_unfolding_all rfl) (frOk_cons rfl rfl frOk_nil) (pi_listK K (pe_own Gbeside Dbeside (hr.mono (by decide)) (@pa_cons _ _ _ _ _ (@pe_ix _ _ _ _ _ _ _ (ix_listK K) (pv 1) (pv 6) (fun _ _=>rfl)) (@pa_cons _ _ _ _ _ (pv 4) pa_nil (by rfl)) (by rfl)))) ⟨fun _ _ _ _=>⟨(pg_name (i:=0) (show List.Nodup (["other", "place"]:List Str) by decide +kernel) rfl (Or.inl rfl)),pts_nil,(pe_own Gtie_of Dtie_of (hr.mono (by decide)) (@pa_cons _ _ _ _ _ (pv 1) (@pa_cons _ _ _ _ _ (pv 0) pa_nil (by rfl)) (by rfl)))⟩⟩) pa_nil (by rfl))))
     (@pss_cons _ _ _ _ _ (ps_set (i:=2) nd rfl (Or.inl rfl) (@pe_op _ _ _ _ _ _ _ _ (catT2K K) (pv 2) (@pe_tup _ _ _ _ _ (@pa_cons _ _ _ _ _ (pv 6) pa_nil (by rfl)))))
     (@pss_cons _ _ _ _ _ (ps_set (i:=5) nd rfl (Or.inl rfl) (pe_own Gtouched Dtouched (hr.mono (by decide)) (@pa_cons _ _ _ _ _ (pv 0) (@pa_cons _ _ _ _ _ (pv 2) pa_nil (by rfl)) (by rfl))))
     (@pss_one _ _ _ (ps_set (i:=4) nd rfl (Or.inl rfl) (pe_own Gplaces_but Dplaces_but (hr.mono (by decide)) (@pa_cons _ _ _ _ _ (pv 0) (@pa_cons _ _ _ _ _ (@pe_op _ _ _ _ _ _ _ _ (catT2K K) (pv 2) (pv 5)) pa_nil (by rfl)) (by rfl))))))))))
    (@pss_one _ _ _ (ps_ret (@pe_tup _ _ _ _ _ (@pa_cons _ _ _ _ _ (pv 2) (@pa_cons _ _ _ _ _ (pe_callTy (tupleK K) (by rfl) B.tuple PyProof.Rows.boot_tuple (@pa_cons _ _ _ _ _ (pe_callB (sortedTK K) (by rfl) B.sorted PyProof.Rows.boot_sorted (@pa_cons _ _ _ _ _ (pv 3) pa_nil (by rfl))) pa_nil (by rfl))) pa_nil (by rfl)) (by rfl)))))))))),?_⟩
  simp only[L2.start,st0,List.map_cons,List.map_nil,List.length_cons,List.length_nil,List.replicate,List.cons_append,List.nil_append,Nat.reduceAdd,Nat.reduceSub];walk_at "rd";have h3:=hok.n3;have h60:=hok.n60;have hl:=hok.len;refine⟨w0,n,ts,rfl,hw,by omega,by omega,by omega,hok.rng,fun rp as H1 s1 nrp nas hRw=>?_⟩;refine⟨by decide,fun po npo=>fresh_of npo fun H2 s2 e2=>⟨by decide,fun tp ntp=>fresh_of ntp fun H3 s3 e3=>?_⟩⟩;obtain⟨q0,hw0,htq⟩:=id hw;have s13:=s2.trans s3;refine⟨_,SqT.of (s13 _ _ (s1 _ _ hw0)),_,rfl,n,rfl,fun pr npr=>fresh_of npr fun H4 s4 e4=>⟨0,n,e4,⟨by decide,by decide,by omega,by omega⟩,by omega,fun pu npu=>fresh_of npu fun H5 s5 e5=>?_⟩⟩;rw[Int.sub_zero] at e5;have s35:=s4.trans s5;have s15:=s13.trans s35;have s05:=s1.trans s15;have L1:LamAt H1 tLm lamQ 28 27:=hL.same s1;have ntp1:H1 tp=none:=s2.free ntp;have hww:WebAt H1 w0 n ts:=hw.tp s1.tp;have hw1:=s1 _ _ hw0;refine⟨inv_gr tLm H1 w0 rp tp n ts,⟨_,po,pu,pu,none,[],rInts 0 n.toNat,0,[],[],rfl,⟨s15.kp,L1.same s15,(s3.trans s35) _ _ e2,s35 _ _ e3,⟨fun x hx=>(by cases hx),rfl⟩,by rw[unT_nil];exact e5,e5,fun x=>?_,rInts_lt _,.nil⟩,rfl⟩,?_⟩
  ·rw[mem_rInts];exact⟨fun h=>⟨by omega,.inl rfl⟩,fun h=>by have:=h.1;omega⟩
  rintro m σ Hc ⟨po',pu',pb',pv,os,bs,k,gs,ps,rfl,G,rfl⟩;have Gl:=G.gwn.bnd hok;have osl:=G.gwn.len;have orn:=G.gwn.orng;have hul:(unT n ts os).length≤1000:=by
   have:=List.length_filter_le (untB ts os) (rInts 0 n.toNat);rw[rInts_length] at this;exact Nat.le_trans this (by omega)
  refine⟨_,rfl,_,.inr (.inl ⟨_,SqT.of G.unt,rfl⟩),ite2 (fun hne=>?_) fun he=>?_⟩
  ·have hu:unT n ts os≠[]:=fun e=>by rw[e] at hne;simp at hne
   refine⟨fun σ' H'=>∃ m',m'<n.toNat-k∧inv_gr tLm H1 w0 rp tp n ts m' σ' H',fun _ _ z=>z,?_⟩;obtain⟨a0,ha0⟩:=G.gwn.rdy hok hu;have hbn:0<bs.length:=List.length_pos_of_mem ((G.rdy a0).mpr ha0);have hRc:=hRw.lam L1 G.kp;walk_at "rd";refine⟨rp,as,n,ts,pb',pu',bs,unT n ts os,rfl,hRc,by omega,by omega,by omega,G.bor,hbn,fun x hx=>((G.rdy x).mp hx).1,G.srt,G.unt,by omega,G.lam,fun b H6 k6 L6 hb hbest=>?_⟩;have C:Chs n ts os b:=chs_of hok.rng G.rdy hb hbest;have N:=G.gwn.add hu C;have Nb:=N.bnd hok;obtain⟨b0,b1⟩:=((G.rdy b).mp hb).1;have t6:=G.lam.tp k6;have R6:=hRc.lam G.lam k6;obtain⟨ra,a1,a2,a3,a4⟩:=R6.get b0 (rowsOf_get b0 b1);have tp6:H6 tp=some (.lst (ps.map fun x=>V.ref x.1)):=k6 _ _ (G.lam.ne G.tie fun _ z=>nomatch z) G.tie;have ps6:=G.ps.tp t6;have psl:=G.ps.len;have nbl:=nb_len (ts:=ts) b;refine⟨.inl ⟨rfl,_,SqL.of tp6⟩,_,b,rfl,SqL.of R6.top,_,a2,ra,nb ts b,pu',unT n ts os,rfl,SqL.of a3,by omega,SqT.of (t6 _ _ G.unt),fun pe H7 s7 ne7 e7=>⟨pe,rfl,⟨_,SqL.of e7⟩,fun l nl=>?_⟩⟩;rw[fil_unT hok.rng] at e7;have xl:((nb ts b).filter (untB ts os)).length≤1000:=Nat.le_trans (List.length_filter_le ..) (by omega);refine lc_list (K:=K) (xs:=((nb ts b).filter (untB ts os)).map V.int) (inv_ge H7 l rp pe b ((nb ts b).filter (untB ts os))) ⟨none,[],rfl,(Same.refl H7).upd nl,upd_same,⟨fun x hx=>(by cases hx),rfl⟩⟩ ?_ ?_ ?_
   ·rintro i τ Hd _ ⟨_,_,rfl,sd,_⟩;exact SqL.of (sd _ _ e7)
   ·rintro i v τ Hd hv ⟨c,qs,rfl,sd,hd,hqs⟩;rw[List.getElem?_map] at hv;cases hx0:((nb ts b).filter (untB ts os))[i]? with
    | none=>rw[hx0] at hv;cases hv
    | some x =>
    rw[hx0] at hv;cases Option.some.inj hv;have hil:=(List.getElem?_eq_some_iff.mp hx0).1;have ql:=hqs.len;rw[List.length_map,List.length_take] at ql;intro _;walk_at "rd";refine⟨_,_,rfl,fun pq He se nq eq=>⟨_,se _ _ hd,by rw[List.length_map];exact sizeBig (by omega),_,qs++[(pq,tl (mm b x))],rfl,(sd.trans se).upd nl,by rw[upd_same,List.map_append];rfl,?_⟩⟩;rw[List.take_succ,hx0,List.map_append];refine (hqs.tp (se.tp.trans (Tp.lst (se _ _ hd)))).snoc ?_;rw[upd_ne (ne_of_none hd nq).symm];exact eq
   ·rintro τ H8 ⟨c,qs,rfl,s8,e8,hqs⟩;rw[List.length_map,List.take_length] at hqs;have s68:=s7.trans s8;have ql:=hqs.len;rw[List.length_map] at ql;have tp8:=s68 _ _ tp6;have ll:l≠tp:=(ne_of_none (s7 _ _ tp6) nl).symm;have L8:=L6.same s68;have t8:Tp H8 (upd H8 tp (.lst (ps.map (fun x=>V.ref x.1)++qs.map fun x=>V.ref x.1))):=Tp.lst tp8;have ntpk:∀ {X:Hp},Kp tLm H1 X→Kp tLm H1 (upd X tp (.lst (ps.map (fun x=>V.ref x.1)++qs.map fun x=>V.ref x.1))):=fun k=>k.new ntp1
    refine⟨_,tp8,_,e8,by rw[List.length_map,List.length_map];exact Nat.le_of_lt (sizeBig (by omega)),by decide,fun p1 np1=>fresh_of np1 fun H9 s9 e9=>?_⟩;have k8:Kp tLm H1 H8:=(G.kp.trans k6).trans s68.kp;have k9:Kp tLm H1 H9:=(ntpk k8).trans s9.kp;have L9:LamAt H9 tLm lamQ 28 27:=(L8.lst tp8).same s9;have t89:Tp H8 H9:=t8.trans s9.tp;have t09:Tp Hc H9:=(t6.trans s68.tp).trans t89;have tp9:H9 tp=some (.lst ((ps++qs).map fun x=>V.ref x.1)):=by rw[s9 _ _ upd_same,List.map_append]
    have ps9:PsAt H9 (ps++qs) (gs++((nb ts b).filter (untB ts os)).map (mm b)):=(ps6.tp (s68.tp.trans t89)).cat (hqs.tp t89);refine cat1_use (t09 _ _ G.ord) e9 (by rw[List.length_map];exact Nat.le_of_lt (sizeBig (by simp;omega))) fun p2 HA sA eA=>?_
    have eA':HA p2=some (.tup ((os++[b]).map V.int)):=by rw[eA,List.map_append];rfl
    refine⟨w0,n,ts,p2,os++[b],rfl,hww.tp ((L1.tp k9).trans sA.tp),hok,eA',by rw[N.len];omega,N.orng,fun p3 zs HB sB n3 eB zsr hzs=>?_⟩
    refine cat1_use (sB _ _ eA') eB (by
     have:=nd_len (rising_nd zsr) (n:=n) fun x hx=>by
      obtain⟨_,y,_,hy⟩:=(hzs x).mp hx;have:=nb_rng hok.rng hy;omega
     rw[List.length_map,List.length_map,N.len];exact Nat.le_of_lt (sizeBig (by omega))) fun p4 HC sC eC=>?_
    have s9C:=(sA.trans sB).trans sC
    refine⟨w0,n,ts,p4,os++[b]++zs,rfl,hww.tp ((L1.tp k9).trans s9C.tp),by omega,by omega,SqT.of (by rw[eC];simp),by
     have:=nd_len (rising_nd zsr) (n:=n) fun x hx=>by
      obtain⟨_,y,_,hy⟩:=(hzs x).mp hx;have:=nb_rng hok.rng hy;omega
     rw[List.length_append,N.len];omega,fun p5 HD sD n5 eD=>?_⟩
    rw[but_unT hzs] at eD;have s9D:=s9C.trans sD;refine⟨n.toNat-(k+1),by omega,p2,p5,p3,_,os++[b],zs,k+1,_,ps++qs,rfl,⟨k9.trans s9D.kp,L9.same s9D,(sB.trans (sC.trans sD)) _ _ eA',s9D _ _ tp9,ps9.tp s9D.tp,eD,(sC.trans sD) _ _ eB,fun x=>rdy_touch hok.rng (by simp) hzs,zsr,N⟩,rfl⟩
  ·have hu:unT n ts os=[]:=by simpa using he
   walk_at "rd";refine⟨ps,G.ps.src G.tie,fun ps' l pm hs nl=>fresh_of nl fun H6 s6 e6=>?_⟩;obtain⟨us,pu6,hps'⟩:=G.ps.perm pm;refine⟨_,.inl ⟨SqL.of e6,fun l2 n2=>fresh_of n2 fun H7 s7 e7=>⟨by decide,fun p np=>fresh_of np fun H8 s8 e8=>?_⟩⟩⟩;have s68:=(s6.trans s7).trans s8;have k0:Kp tLm H Hc:=s1.kp.trans G.kp;refine q p po' l2 k os gs us H8 (k0.trans s68.kp) (G.lam.same s68) (G.lam.free k0 ((s6.trans s7).free np)) e8 (s68 _ _ G.ord) ⟨ps',s8 _ _ e7,hps'.tp s68.tp⟩ G.gwn hu pu6 (hps'.srt hs)
def inv_re (H:Hp)(rp al me wl:Addr)(n:Int)(ts:List (Int×Int))(ls:List Int)(u:Int)(σ:St)(Hc:Hp):Prop:=∃ (ov:Option V) (fs ws:List Int),σ=[some (.ref rp),some (.int u),some (.ref al),some (.ref me),some (.ref wl),ov]∧SrAt H Hc me wl fs ws∧Srch n ts (·∈ls) u fs ws∧2*(n.toNat-fs.length)+ws.length≤2*n.toNat
def inv_re2 (H:Hp)(rp al me wl:Addr)(n:Int)(ts:List (Int×Int))(ls:List Int)(u v:Int)(m0:Nat)(j:Nat)(σ:St)(Hc:Hp):Prop:=∃ (ov:Option V) (fs ws:List Int),σ=[some (.ref rp),some (.int u),some (.ref al),some (.ref me),some (.ref wl),ov]∧SrAt H Hc me wl fs ws∧Srch' n ts (·∈ls) u fs ws v j∧2*(n.toNat-fs.length)+ws.length<m0
theorem sc_reach:FnScope ["_law_near_here", "_law_start", "_law_allowed", "_law_found", "_law_waiting", "_law_other"] ["_law_near_here", "_law_start", "_law_allowed"] (defScope (top 19)):=⟨rfl,rfl,rfl,by decide +kernel,rfl,by decide +kernel,by decide +kernel⟩
theorem ok_reach {f:Addr}{fd:FuncData}(F:Fun K "_law_reach" "_law_reach" (top 19) f fd)(B:Bt mg):FnOk P w K mg base CX0 1 f fd ["_law_near_here", "_law_start", "_law_allowed"] (sp_reach K):=by
 refine F.ok sc_reach (fun vs H Q E h=>?_) (fun cdv A outer s H vs Q E hr h=>?_)
 ·obtain⟨rp,as,n,ts,al,ls,u,rfl,hR,hok,hn1,htl,hal,u0,u1,q⟩:=h;rfl
 ·obtain⟨rp,as,n,ts,al,ls,u,rfl,hR,hok,hn1,htl,hal,u0,u1,q⟩:=h;have nd:=sc_reach.nd;have hu:=hu_of hr
  refine⟨_,(pss_cons (ps_set (i:=3) nd rfl (Or.inl rfl) (pe_disp (pps_cons (pv 1) pe_bl pps_nil) rfl rfl (by simp) (by decide)))
    (pss_cons (ps_set (i:=4) nd rfl (Or.inl rfl) (pe_lst (pa_cons (pv 1) pa_nil)))
    (pss_cons (ps_while PassesOwn.never (pt_cmpR (neDK K hr.units) (pv 4) (pe_lst pa_nil) (nomark _))
     (pss_one (ps_for PassesOwn.never rfl (pi_listK K (pe_ix (ix_listK K) (pv 0) (popK K (pv 4)) (fun _ _=>rfl))) (pg_name (i:=5) nd rfl (Or.inl rfl))
      (pss_one (ps_if (PW.pt (pw_and (pt_cmpR (in_seqK K) (pv 5) (pv 2) (by with_unfolding_all rfl)) (pw_and1 (pt_cmp (pc_dnotin hu (pv 5) (pv 3))))))
       (pss_cons (ps_dput hu (pv 3) (pv 5) pe_bl rfl)
       (pss_one (ps_expr (appendK K (pv 4) (pa_cons (pv 5) pa_nil)))))
       pss_nil)))))
    (pss_one (ps_ret (pe_callB (sortedIK K hr.hd) (by rfl) B.sorted PyProof.Rows.boot_sorted (pa_cons (pv 3) pa_nil))))))),?_⟩
  walk_at "rd";refine fun me nme=>⟨upd_same,[(Sum.inl u,V.bl true)],rfl,Nat.le_of_ble_eq_true rfl,?_⟩
  rw[disp1];refine fresh_of nme fun H1 s1 e1=>⟨by decide,fun wl nwl=>fresh_of nwl fun H2 s2 e2=>?_⟩
  have nw:H wl=none:=s1.free nwl;refine while_by (inv_re H rp al me wl n ts ls u) (fun _ Hc=>srM n me wl Hc) ⟨none,[u],[u],rfl,⟨s1.trans s2,s2 _ _ e1,e2⟩,Srch.init u0 u1,by simp;omega⟩ ?_ (fun σ H Q Q' h ⟨x,e,z,q⟩=>⟨x,e,z,fun p n=>let ⟨d1,d2,x1,x2,x3,x4,k,e2,q2⟩:=q p n;⟨d1,d2,x1,x2,x3,x4,k,e2,h _ _ q2⟩⟩);rintro σ Hc ⟨ov,fs,ws,rfl,sr,sh,hb⟩;refine⟨_,rfl,Nat.zero_le _,fun pe ne=>fresh_of ne fun He se ee=>neLI (ns:=ws) (ms:=[]) (SqL.of (se _ _ sr.wait)) (SqL.of ee) ⟨_,rfl,ite2 (fun hne=>?_) fun he=>?_⟩⟩
  ·have hw0:ws≠[]:=by simpa using hne
   obtain⟨ws',v,rfl⟩:=last_of hw0;have sre:=sr.mono se;obtain⟨hl1,sr1⟩:=sre.pop nw;have sh1:=sh.pop;have hm0:2*(n.toNat-fs.length)+ws'.length<srM n me wl Hc:=by rw[sr.mu,List.length_append,List.length_singleton];omega
   have hmb:srM n me wl Hc≤2*n.toNat:=by rw[sr.mu];exact hb
   obtain⟨v0,v1⟩:=sh1.rng v sh1.vin;obtain⟨a,a1,a2,a3,a4⟩:=hR.get v0 (rowsOf_get v0 v1);have top2:=sr1.same _ _ hR.top;refine⟨_,rfl,_,rfl,.inl ⟨rfl,_,SqL.of sre.wait⟩,wl,_,_,rfl,rfl,sre.wait,hl1,_,_,_,_,rfl,rfl,SqL.of top2,a2,_,rfl,⟨_,SqL.of (sr1.same _ _ a3)⟩,for_list (K:=K) (xs:=(nb ts v).map V.int) (inv_re2 H rp al me wl n ts ls u v (srM n me wl Hc)) ⟨_,fs,ws',rfl,sr1,sh1,hm0⟩ ?_ ?_ ?_⟩
   ·rintro j σ Hd _ ⟨_,_,_,rfl,sr2,_⟩;exact SqL.of (sr2.same _ _ a3)
   ·rintro j w σ Hd hv ⟨ov,fs,ws,rfl,sr2,sh2,hm2⟩;rw[List.getElem?_map] at hv;cases hy0:(nb ts v)[j]? with
    | none=>rw[hy0] at hv;cases hv
    | some y =>
    rw[hy0] at hv;cases Option.some.inj hv;have hfl:=nd_len sh2.nd sh2.rng;walk_at "rd";have hal2:SqL K Hd al (ls.map V.int)∨SqT K Hd al (ls.map V.int):=hal.elim (fun z=>.inl (sr2.same.seq z)) fun z=>.inr (sr2.same.seqT z)
    refine in_use hal2 ⟨_,rfl,ite2 (fun hA=>⟨_,DGet.k (k:=Sum.inl y) sr2.met,?_⟩) fun hA=>⟨_,fs,ws,rfl,sr2,sh2.skip hy0 (.inl (by simpa using hA)),hm2⟩⟩;rw[val_kvI];refine ite2 (fun hB=>?_) fun hB=>⟨_,fs,ws,rfl,sr2,sh2.skip hy0 (.inr (by simpa using hB)),hm2⟩
    have hyl:y∈ls:=by simpa using hA
    have hyf:y∉fs:=by simpa using hB
    have sh3:=sh2.add hok hy0 hyl hyf;have hfl3:=nd_len sh3.nd sh3.rng;rw[List.length_append,List.length_singleton] at hfl3;refine⟨_,DPut.k (k:=Sum.inl y) sr2.met (kvI_small (by omega)),?_⟩;rw[put_kvI];have hwt:(upd Hd me (.dK (kvI (addI fs y)))) wl=some (.lst (ws.map V.int)):=by rw[upd_ne sr2.ne.symm];exact sr2.wait
    have hwl:ws.length≤3000:=by omega
    refine⟨.inl ⟨rfl,_,SqL.of hwt⟩,_,hwt,by rw[List.length_map];exact sizeBig (by omega),_,fs++[y],ws++[y],rfl,sr2.add nme nw hyf,sh3,?_⟩;rw[List.length_append,List.length_append,List.length_singleton];omega
   ·rintro σ Hd ⟨ov,fs,ws,rfl,sr2,sh2,hm2⟩;rw[List.length_map] at sh2;exact⟨⟨_,fs,ws,rfl,sr2,sh2.done (Nat.le_refl _),by omega⟩,by rw[sr2.mu];exact hm2⟩
  ·have hw0:ws=[]:=by simpa using he
   subst hw0;walk_at "rd";refine⟨fs,.inr (.inr ⟨_,se _ _ sr.met,kvI_keys fs⟩),fun ns l pm hs nl=>fresh_of nl fun H4 s4 e4=>?_⟩;have s3:=sr.same.trans se;refine q l ns H4 (s3.trans s4) (s3.free nl) e4 (sorted_rising pm hs sh.nd) fun x=>?_
   rw[pm.mem_iff];exact sh.fin x
def sp_hang (K:PySem.W.Frag):Sp:=fun vs H Q _=>∃ (np:Addr) (as:List Addr) (n:Int) (us:List (Int×Int)) (pl:Addr),vs=[.ref np,.ref pl]∧RowsAt H np as (rowsOf n us)∧IsWeb n us∧H pl=some (.lst ((rInts 0 n.toNat).map V.int))∧∀ H',Same H H'→Q (.bl true) H'
theorem sc_hang:FnScope ["_law_near_here", "_law_places"] ["_law_near_here", "_law_places"] (defScope (top 20)):=⟨rfl,rfl,rfl,by decide +kernel,rfl,by decide +kernel,by decide +kernel⟩
theorem ok_hang {f:Addr}{fd:FuncData}(F:Fun K "_law_hang" "_law_hang" (top 20) f fd)(B:Bt mg){f1:Addr}{fd1:FuncData}{st1:Stmt}(D_law_reach:Df K mg "_law_reach" st1 f1 fd1 ["_law_near_here", "_law_start", "_law_allowed"])(G_law_reach:FnOk P w K mg base CX0 1 f1 fd1 ["_law_near_here", "_law_start", "_law_allowed"] (sp_reach K)):FnOk P w K mg base CX0 2 f fd ["_law_near_here", "_law_places"] (sp_hang K):=by
 refine F.ok sc_hang (fun vs H Q E h=>?_) (fun cdv A outer s H vs Q E hr h=>?_)
 ·obtain⟨np,as,n,us,pl,rfl,hR,hok,hpl,q⟩:=h;rfl
 ·obtain⟨np,as,n,us,pl,rfl,hR,hok,hpl,q⟩:=h;have nd:=sc_hang.nd;have hu:=hu_of hr;refine⟨_,(pss_one (ps_ret (pe_and (pe_cmpR op_gt (pe_callB (lenK K) (by rfl) B.len PySem.boot_len (pa_cons (pv 1) pa_nil)) pe_int (nomark _)) (pe_one (pe_cmpR op_eq (pe_callB (lenK K) (by rfl) B.len PySem.boot_len (pa_cons (pe_own G_law_reach D_law_reach (hr.mono (by decide)) (pa_cons (pv 0) (pa_cons (pe_ix (ix_listK K) (pv 1) pe_int (fun _ _=>rfl)) (pa_cons (pv 1) pa_nil)))) pa_nil)) (pe_callB (lenK K) (by rfl) B.len PySem.boot_len (pa_cons (pv 1) pa_nil)) (nomark _)))))),?_⟩;walk_at "rd";have h3:=hok.n3;have h60:=hok.n60;have hl:=hok.len;refine⟨_,.inl (SqL.of hpl),?_⟩;rw[if_pos (by rw[List.length_map,rInts_length];simp;omega)];have hat:atI ((rInts 0 n.toNat).map V.int) 0=some (.int 0):=atI_nat (j:=0) (by rw[List.getElem?_map,rInts_get (by omega)];rfl);refine⟨_,SqL.of hpl,_,hat,np,as,n,us,pl,rInts 0 n.toNat,0,rfl,hR,hok.rng,by omega,by omega,.inl (SqL.of hpl),by decide,by omega,fun lt zs H5 s5 n5 e5 zsr hzs=>?_⟩;have hz:zs=rInts 0 n.toNat:=rising_ext zsr (rInts_lt _) fun x=>by
   rw[hzs,mem_rInts];constructor
   ·intro h;have:=h.rng hok.rng (by decide) (by omega);omega
   ·intro h;exact hok.reach (by decide) (by omega) h.1 (by omega)
  subst hz;refine⟨lt,rfl,_,.inl (SqL.of e5),_,.inl (SqL.of (s5 _ _ hpl)),?_⟩;rw[decide_eq_true rfl];exact q H5 s5
def sp_isint (K:PySem.W.Frag):Sp:=fun vs H Q _=>∃ (x lo hi:Int),vs=[.int x,.int lo,.int hi]∧Q (.bl (decide (lo≤x∧x≤hi))) H
theorem sc_isint:FnScope ["_law_thing", "_law_least", "_law_most"] ["_law_thing", "_law_least", "_law_most"] (defScope (top 21)):=⟨rfl,rfl,rfl,by decide +kernel,rfl,by decide +kernel,by decide +kernel⟩
theorem ok_isint {f:Addr}{fd:FuncData}(F:Fun K "_law_is_int" "_law_is_int" (top 21) f fd)(B:Bt mg)(C:Bt2 mg):FnOk P w K mg base CX0 1 f fd ["_law_thing", "_law_least", "_law_most"] (sp_isint K):=by
 refine F.ok sc_isint (fun vs H Q E h=>?_) (fun cdv A outer s H vs Q E hr h=>?_)
 ·obtain⟨x,lo,hi,rfl,q⟩:=h;rfl
 ·obtain⟨x,lo,hi,rfl,q⟩:=h;have nd:=sc_isint.nd;have hu:=hu_of hr;refine⟨_,(pss_one (ps_ret (pe_and (pe_callB (isiK K) (by rfl) C.isinstance PyProof.Rows.boot_isinstance (pa_cons (pv 0) (pa_cons (pe_ty (by rfl) B.int PyProof.Rows.boot_int) pa_nil))) (pe_and (pe_not (pe_callB (isiK K) (by rfl) C.isinstance PyProof.Rows.boot_isinstance (pa_cons (pv 0) (pa_cons (pe_ty (by rfl) C.bool PyProof.Rows.boot_bool) pa_nil)))) (pe_one (pe_chain op_le op_le (pv 1) (pv 0) (pv 2))))))),?_⟩;walk_at "rd";refine⟨_,_,⟨rfl,rfl⟩,_,.int x,true,rfl,?_⟩;rw[if_pos rfl];refine⟨_,_,⟨rfl,rfl⟩,_,.int x,false,rfl,?_⟩;rw[if_pos (show (!false)=true from rfl)];by_cases h1:lo≤x
  ·rw[if_pos (by simpa using h1)];have:decide (lo≤x∧x≤hi)=decide (x≤hi):=by simp[h1]
   rw[this] at q;exact q
  ·rw[if_neg (by simpa using h1)];have:decide (lo≤x∧x≤hi)=false:=by simp[h1]
   rw[this] at q;exact q
def sp_istree (K:PySem.W.Frag):Sp:=fun vs H Q _=>∃ (w t:Addr) (n:Int) (ts us:List (Int×Int)),vs=[.ref w,.ref t]∧WebAt H w n ts∧IsWeb n ts∧TsAt H t us∧IsTree n ts us∧∀ H',Same H H'→Q (.bl true) H'
def inv_it (H:Hp)(w0 t0:Addr)(i:Nat)(σ:St)(Hc:Hp):Prop:=∃ c:Option V,σ=[some (.ref w0),some (.ref t0),c]∧Same H Hc
def inv_it2 (H:Hp)(p2 w0:Addr)(i:Nat)(τ:St)(Hc:Hp):Prop:=∃ c:Option V,τ=[c,some (.ref w0)]∧Same H Hc∧Hc p2=some (.lst ((List.replicate i true).map V.bl))
theorem sc_istree:FnScope ["_law_web_here", "_law_thing", "_law_tie"] ["_law_web_here", "_law_thing"] (defScope (top 22)):=⟨rfl,rfl,rfl,by decide +kernel,rfl,by decide +kernel,by decide +kernel⟩
theorem ok_istree {f:Addr}{fd:FuncData}(F:Fun K "_law_is_tree" "_law_is_tree" (top 22) f fd)(B:Bt mg){f1:Addr}{fd1:FuncData}{st1:Stmt}(D_law_is_int:Df K mg "_law_is_int" st1 f1 fd1 ["_law_thing", "_law_least", "_law_most"])(G_law_is_int:FnOk P w K mg base CX0 1 f1 fd1 ["_law_thing", "_law_least", "_law_most"] (sp_isint K)){f2:Addr}{fd2:FuncData}{st2:Stmt}(D_law_near:Df K mg "_law_near" st2 f2 fd2 ["_law_web_here"])(G_law_near:FnOk P w K mg base CX0 1 f2 fd2 ["_law_web_here"] sp_near){f3:Addr}{fd3:FuncData}{st3:Stmt}(D_law_hang:Df K mg "_law_hang" st3 f3 fd3 ["_law_near_here", "_law_places"])(G_law_hang:FnOk P w K mg base CX0 2 f3 fd3 ["_law_near_here", "_law_places"] (sp_hang K))(C:Bt2 mg):FnOk P w K mg base CX0 3 f fd ["_law_web_here", "_law_thing"] (sp_istree K):=by
 refine F.ok sc_istree (fun vs H Q E h=>?_) (fun cdv A outer s H vs Q E hr h=>?_)
 ·obtain⟨w0,t0,n,ts,us,rfl,hw,hok,ht,T,q⟩:=h;rfl
 ·obtain⟨w0,t0,n,ts,us,rfl,hw,hok,ht,T,q⟩:=h;have nd:=sc_istree.nd;have hu:=hu_of hr
  refine⟨_,(pss_cons (ps_if (PW.pt (pw_or (pt_not (pt_val (pe_callB (isiK K) (by rfl) C.isinstance PyProof.Rows.boot_isinstance (pa_cons (pv 1) (pa_cons (pe_ty (by rfl) B.tuple PyProof.Rows.boot_tuple) pa_nil))))) (pw_or1 (pt_cmpR op_ne (pe_callB (lenK K) (by rfl) B.len PySem.boot_len (pa_cons (pv 1) pa_nil)) (pe_op op_sub (pe_ix (ix_tupK K) (pv 0) pe_int (fun _ _=>rfl)) pe_int) (nomark _)))))
     (pss_one (ps_ret pe_bl))
     pss_nil)
    (pss_cons (ps_for PassesOwn.never rfl (pi_tupK K (pv 1)) (pg_name (i:=2) nd rfl (Or.inl rfl))
     (pss_cons (ps_if (PW.pt (pw_or (pt_not (pt_val (pe_callB (isiK K) (by rfl) C.isinstance PyProof.Rows.boot_isinstance (pa_cons (pv 2) (pa_cons (pe_ty (by rfl) B.tuple PyProof.Rows.boot_tuple) pa_nil))))) (pw_or (pt_cmpR op_ne (pe_callB (lenK K) (by rfl) B.len PySem.boot_len (pa_cons (pv 2) pa_nil)) pe_int (nomark _)) (pw_or1 (pt_not (pt_val (pe_callB (allK K hr.hd) (by rfl) C.all PyProof.Rows.boot_all (pa_cons (pe_lcomp (own:=["_law_one"]) (fr:=[("_law_web_here",0)]) rfl (by with_unfolding_all rfl) (frOk_cons rfl rfl frOk_nil) (pi_tupK K (pv 2)) ⟨fun _ _ _ _=>⟨(pg_name (i:=0) (show List.Nodup (["_law_one", "_law_web_here"]:List Str) by decide +kernel) rfl (Or.inl rfl)),pts_nil,(pe_own G_law_is_int D_law_is_int (hr.mono (by decide)) (pa_cons (pv 0) (pa_cons pe_int (pa_cons (pe_op op_sub (pe_ix (ix_tupK K) (pv 1) pe_int (fun _ _=>rfl)) pe_int) pa_nil))))⟩⟩) pa_nil))))))))
      (pss_one (ps_ret pe_bl))
      pss_nil)
     (pss_one (ps_if (pt_cmpR (notInDK K hr.units) (pv 2) (pe_ix (ix_tupK K) (pv 0) pe_int (fun _ _=>rfl)) (by with_unfolding_all rfl))
      (pss_one (ps_ret pe_bl))
      pss_nil))))
    (pss_cons (ps_if (pt_cmpR (neDK K hr.units) (pe_callTy (listK K) (by rfl) B.list PyProof.Rows.boot_list (pa_cons (pv 1) pa_nil)) (pe_sortsetT K hr.hd hr.units (by rfl) B.sorted PyProof.Rows.boot_sorted (by rfl) C.set PyProof.Rows.boot_set (pa_cons (pv 1) pa_nil)) (nomark _))
     (pss_one (ps_ret pe_bl))
     pss_nil)
    (pss_one (ps_ret (pe_own G_law_hang D_law_hang (hr.mono (by decide)) (pa_cons (pe_own G_law_near D_law_near (hr.mono (by decide)) (pa_cons (pe_tup (pa_cons (pe_ix (ix_tupK K) (pv 0) pe_int (fun _ _=>rfl)) (pa_cons (pv 1) pa_nil))) pa_nil)) (pa_cons (pe_callTy (call_list_rng hr.hd) (by rfl) B.list PyProof.Rows.boot_list (pa_cons (pe_callTy call_rng1 (by rfl) B.range PyProof.Rows.boot_range (pa_cons (pe_ix (ix_tupK K) (pv 0) pe_int (fun _ _=>rfl)) pa_nil)) pa_nil)) pa_nil)))))))),?_⟩
  walk_at "rd";have h3:=hok.n3;have h60:=hok.n60;have hl:=hok.len;obtain⟨q0,hw0,htq⟩:=id hw;obtain⟨ps,hp,hps⟩:=id ht;have hlen:=T.len;have huk:=T.ok hok.rng;refine⟨_,_,⟨rfl,rfl⟩,_,.tup hp,true,rfl,?_⟩;rw[if_neg (by decide)];refine⟨_,.inr (SqT.of hp),_,SqT.of hw0,_,rfl,n,rfl,?_⟩;rw[if_neg (by rw[List.length_map,hps.len];simp;omega)];refine⟨_,rfl,t0,rfl,⟨_,SqT.of hp⟩,for_tup (K:=K) (xs:=ps.map fun x=>V.ref x.1) (inv_it H w0 t0) ⟨none,rfl,Same.refl H⟩ ?_ ?_ ?_⟩
  ·rintro i σ Hc _ ⟨_,rfl,sc⟩;exact SqT.of (sc _ _ hp)
  ·rintro i v σ Hc hv ⟨c,rfl,sc⟩;obtain⟨b,t,rfl,hti,hb⟩:=hps.get hv;have hbc:=sc _ _ hb;have htm:=List.mem_of_getElem? hti;walk_at "rd";refine⟨_,_,⟨rfl,rfl⟩,_,.tup hbc,true,rfl,?_⟩;rw[if_neg (by decide)];refine⟨_,.inr (SqT.of hbc),?_⟩;rw[if_neg (by simp)];obtain⟨t1,t2,t3⟩:=huk t htm;refine⟨⟨_,SqT.of hbc⟩,fun p2 n2=>lc_tup (K:=K) (xs:=[V.int t.1,V.int t.2]) (inv_it2 Hc p2 w0) ⟨none,rfl,(Same.refl Hc).upd n2,upd_same⟩ ?_ ?_ ?_⟩
   ·rintro j τ Hd _ ⟨_,rfl,sd,_⟩;exact SqT.of (sd _ _ hbc)
   ·rintro j v τ Hd hv ⟨c2,rfl,sd,hd⟩;obtain⟨x,rfl,x0,x1⟩:∃ x:Int,v=.int x∧0≤x∧x<n:=by
     have hm:=List.mem_of_getElem? hv;simp only[List.mem_cons,List.not_mem_nil,or_false] at hm;rcases hm with rfl | rfl
     ·exact⟨t.1,rfl,by omega,by omega⟩
     ·exact⟨t.2,rfl,by omega,by omega⟩
    have hjl:j<2:=(List.getElem?_eq_some_iff.mp hv).1;walk_at "rd";refine⟨_,SqT.of (sd _ _ (sc _ _ hw0)),_,rfl,n,rfl,x,0,n-1,rfl,?_⟩;have e:decide (0≤x∧x≤n-1)=true:=by simp;omega
    rw[e];refine⟨_,hd,by rw[List.length_map,List.length_replicate];exact sizeBig (by omega),_,rfl,sd.upd n2,?_⟩;rw[upd_same,List.replicate_succ',List.map_append];rfl
   ·rintro τ H2 ⟨c2,rfl,sd,hd⟩;refine⟨_,SqL.of hd,?_⟩;rw[if_neg (by simp)];refine⟨_,SqT.of (sd _ _ (sc _ _ hw0)),_,rfl,?_⟩;refine notin_tie (t:=t) (SqT.of (sd _ _ hbc)) (htq.tp (sc.trans sd).tp) ⟨_,rfl,ite2 (fun h=>absurd (T.sub t htm) (by simpa using h)) fun _=>⟨_,rfl,sc.trans sd⟩⟩
  ·rintro σ Hc ⟨c,rfl,sc⟩;walk_at "rd";refine⟨_,.inr (SqT.of (sc _ _ hp)),fun l nl=>fresh_of nl fun H2 s2 e2=>?_⟩;have s02:=sc.trans s2;have hps2:=hps.tp s02.tp;refine⟨ps,.inr (SqT.of (s02 _ _ hp)),us,hps2,fun t ht'=>?_,by omega,fun ps' ts' l1 hps' hlx hmem n1=>?_⟩
   ·obtain⟨t1,t2,t3⟩:=huk t ht';omega
   have ets:ts'=us:=lex_ext hlx T.srt hmem;subst ets;refine fresh_of n1 fun H3 s3 e3=>neLT (s3 _ _ e2) (hps2.tp s3.tp) e3 (hps'.tp s3.tp) ⟨_,rfl,ite2 (fun h=>absurd h (by decide)) fun _=>?_⟩
   have s03:=s02.trans s3;refine⟨_,SqT.of (s03 _ _ hw0),_,rfl,by decide,fun wp nwp=>fresh_of nwp fun H4 s4 e4=>?_⟩;have s04:=s03.trans s4;refine⟨wp,n,ts',rfl,⟨t0,e4,ht.tp s04.tp⟩,by omega,by omega,by omega,huk,T.srt,fun np as H5 s5 nnp nas hR=>?_⟩;have s05:=s04.trans s5;refine⟨_,SqT.of (s05 _ _ hw0),_,rfl,n,rfl,fun pr npr=>fresh_of npr fun H6 s6 e6=>⟨0,n,e6,⟨by decide,by decide,by omega,by omega⟩,by omega,fun pl npl=>fresh_of npl fun H7 s7 e7=>?_⟩⟩;rw[Int.sub_zero] at e7;exact⟨np,as,n,ts',pl,rfl,hR.same (s6.trans s7),T.web hok,e7,fun H8 s8=>q H8 (((s05.trans s6).trans s7).trans s8)⟩
def sp_lready (K:PySem.W.Frag):Sp:=fun vs H Q _=>∃ (rp:Addr) (as:List Addr) (n:Int) (ts:List (Int×Int)) (up bp:Addr) (os:List Int),vs=[.ref rp,.ref up,.ref bp]∧RowsAt H rp as (rowsOf n ts)∧3≤n∧n≤60∧TsOk n ts∧H up=some (.lst ((rInts 0 n.toNat).map fun x=>V.bl (untB ts os x)))∧H bp=some (.lst (os.map V.int))∧os.length≤60 ∧
 ∀ (l:Addr) (bs:List Int) (H':Hp),Same H H'→H l=none→H' l=some (.lst (bs.map V.int))→(∀ x,x∈bs↔Rdy n ts os x)→bs.length≤60→Q (.ref l) H'
theorem unb_at {n x:Int}{ts:List (Int×Int)}{os:List Int}(x0:0≤x)(x1:x<n):atI ((rInts 0 n.toNat).map fun x=>V.bl (untB ts os x)) x=some (V.bl (untB ts os x)):=by
 obtain⟨j,rfl⟩:=Int.eq_ofNat_of_zero_le x0;refine atI_nat ?_;rw[List.getElem?_map,rInts_get (by omega),Int.zero_add];rfl
theorem sc_lready:FnScope ["_law_near_here", "_law_untouched", "_law_busy"] ["_law_near_here", "_law_untouched", "_law_busy"] (defScope (top 23)):=⟨rfl,rfl,rfl,by decide +kernel,rfl,by decide +kernel,by decide +kernel⟩
theorem ok_lready {f:Addr}{fd:FuncData}(F:Fun K "_law_ready" "_law_ready" (top 23) f fd)(B:Bt mg):FnOk P w K mg base CX0 1 f fd ["_law_near_here", "_law_untouched", "_law_busy"] (sp_lready K):=by
 refine F.ok sc_lready (fun vs H Q E h=>?_) (fun cdv A outer s H vs Q E hr h=>?_)
 ·obtain⟨rp,as,n,ts,up,bp,os,rfl,hR,h3,h60,hok,hup,hbp,hol,q⟩:=h;rfl
 ·obtain⟨rp,as,n,ts,up,bp,os,rfl,hR,h3,h60,hok,hup,hbp,hol,q⟩:=h;have nd:=sc_lready.nd;have hu:=hu_of hr
  refine⟨_,(pss_cons (ps_if (pt_cmpR (eqDK K hr.units) (pv 2) (pe_lst pa_nil) (nomark _))
     (pss_one (ps_ret (pe_callTy (call_list_rng hr.hd) (by rfl) B.list PyProof.Rows.boot_list (pa_cons (pe_callTy call_rng1 (by rfl) B.range PyProof.Rows.boot_range (pa_cons (pe_callB (lenK K) (by rfl) B.len PySem.boot_len (pa_cons (pv 0) pa_nil)) pa_nil)) pa_nil))))
     pss_nil)
    (pss_one (ps_ret (pe_lcomp (own:=["_law_place"]) (fr:=[("_law_busy",2),("_law_untouched",1)]) rfl (by with_unfolding_all rfl) (frOk_cons rfl rfl (frOk_cons rfl rfl frOk_nil)) (pi_range1 (by rfl) B.range (pa_cons (pe_callB (lenK K) (by rfl) B.len PySem.boot_len (pa_cons (pv 0) pa_nil)) pa_nil)) ⟨fun _ _ _ _=>⟨(pg_name (i:=0) (show List.Nodup (["_law_place", "_law_busy", "_law_untouched"]:List Str) by decide +kernel) rfl (Or.inl rfl)),(pts_one (PW.pt (pw_and (pt_not (truthK K (pe_ix (ix_listK K) (pv 2) (pv 0) (fun _ _=>rfl)) (fun _=>rfl))) (pw_and1 (pt_cmpR (notIn_seqK K) (pv 0) (pv 1) (by with_unfolding_all rfl)))))),(pv 0)⟩⟩)))),?_⟩
  walk_at "rd";have hal:as.length=n.toNat:=by rw[hR.len,rowsOf_len]
  refine⟨by decide,fun pe npe=>fresh_of npe fun H1 s1 e1=>eqLI (ns:=os) (ms:=[]) (SqL.of (s1 _ _ hbp)) (SqL.of e1) ⟨_,rfl,ite2 (fun h=>?_) fun h=>?_⟩⟩
  ·have h0:os=[]:=by simpa using h
   refine⟨_,.inl (SqL.of (s1 _ _ hR.top)),fun pr npr=>?_⟩;rw[List.length_map,hal];refine fresh_of npr fun H2 s2 e2=>⟨_,_,e2,⟨by decide,by decide,by omega,by omega⟩,by omega,fun l nl=>fresh_of nl fun H3 s3 e3=>?_⟩
   have s03:=(s1.trans s2).trans s3;refine q l (rInts 0 n.toNat) H3 s03 ((s1.trans s2).free nl) (by rw[e3,Int.sub_zero,Int.toNat_natCast]) (fun x=>?_) (by rw[rInts_length];omega);rw[mem_rInts,h0];exact⟨fun h=>⟨by omega,.inl rfl⟩,fun h=>by have:=h.1;omega⟩
  ·have h0:os≠[]:=by simpa using h
   refine⟨_,.inl (SqL.of (s1 _ _ hR.top)),by omega,by rw[List.length_map,hal];omega,fun p np=>?_⟩;rw[List.length_map,hal,Int.toNat_natCast];have s02:=fun {o:HO}=>s1.trans ((Same.refl H1).upd (o:=o) np)
   refine lc_rangeF (fun x=>!untB ts os x && !decide (x∈os)) V.int (by omega) ?_ ?_
   ·intro x x0 x1 v ys R hy hR1 hR2;walk_at "rd";have sm:Same H (upd H1 p (.lst ys)):=s1.trans ((Same.refl H1).upd np);refine⟨_,SqL.of (sm _ _ hup),_,unb_at x0 (by omega),_,rfl,?_⟩;refine ite2 (fun h=>?_) fun h=>?_
    ·refine notin_use (.inl (SqL.of (sm _ _ hbp))) ⟨_,rfl,turn_ite ?_ hy (by omega) hR1 hR2⟩;rw[h,Bool.true_and]
    ·exact hR2 (by cases hh:untB ts os x<;>simp_all) _
   ·refine q p _ _ s02 (s1.free np) upd_same (fun x=>?_) (Nat.le_trans (List.length_filter_le ..) (by rw[rInts_length];omega));rw[List.mem_filter,mem_rInts,Bool.and_eq_true,Bool.not_eq_true',Bool.not_eq_true',untB_no,decide_eq_false_iff_not];constructor
    ·rintro⟨h1,h2,h3⟩;exact⟨by omega,.inr ⟨h3,h2.resolve_left h3⟩⟩
    ·rintro⟨h1,h2⟩;obtain⟨h3,h4⟩:=h2.resolve_left h0;exact⟨by omega,.inr h4,h3⟩
def sp_lchosen (K:PySem.W.Frag):Sp:=fun vs H Q _=>∃ (rp:Addr) (as:List Addr) (n:Int) (ts:List (Int×Int)) (up bp:Addr) (os:List Int) (b:Int),vs=[.ref rp,.ref up,.ref bp,.int b]∧RowsAt H rp as (rowsOf n ts)∧3≤n∧n≤60∧TsOk n ts∧ts.length≤200∧H up=some (.lst ((rInts 0 n.toNat).map fun x=>V.bl (untB ts os x)))∧H bp=some (.lst (os.map V.int))∧os.length≤60∧Chs n ts os b∧0<unC ts os b ∧
 ∀ (H':Hp),Same H H'→Q (.bl true) H'
def inv_lc (Hb:Hp)(rp up p:Addr)(ts:List (Int×Int))(os:List Int)(i:Nat)(τ:St)(Hc:Hp):Prop:=∃ c:Option V,τ=[c,some (.ref rp),some (.ref up)]∧Same Hb Hc∧Hc p=some (.lst (((rInts 0 i).map fun v=>((unC ts os v:Nat):Int)).map V.int))
theorem sc_lchosen:FnScope ["_law_near_here", "_law_untouched", "_law_busy", "_law_place", "_law_one", "_law_counts", "_law_ready_here"] ["_law_near_here", "_law_untouched", "_law_busy", "_law_place"] (defScope (top 24)):=⟨rfl,rfl,rfl,by decide +kernel,rfl,by decide +kernel,by decide +kernel⟩
theorem ok_lchosen {f:Addr}{fd:FuncData}(F:Fun K "_law_chosen" "_law_chosen" (top 24) f fd)(B:Bt mg){f1:Addr}{fd1:FuncData}{st1:Stmt}(D_law_ready:Df K mg "_law_ready" st1 f1 fd1 ["_law_near_here", "_law_untouched", "_law_busy"])(G_law_ready:FnOk P w K mg base CX0 1 f1 fd1 ["_law_near_here", "_law_untouched", "_law_busy"] (sp_lready K)):FnOk P w K mg base CX0 2 f fd ["_law_near_here", "_law_untouched", "_law_busy", "_law_place"] (sp_lchosen K):=by
 refine F.ok sc_lchosen (fun vs H Q E h=>?_) (fun cdv A outer s H vs Q E hr h=>?_)
 ·obtain⟨rp,as,n,ts,up,bp,os,b,rfl,hR,h3,h60,hok,hl,hup,hbp,hol,hc,hpos,q⟩:=h;rfl
 ·obtain⟨rp,as,n,ts,up,bp,os,b,rfl,hR,h3,h60,hok,hl,hup,hbp,hol,hc,hpos,q⟩:=h;have nd:=sc_lchosen.nd;have hu:=hu_of hr
  refine⟨_,(pss_cons (ps_setLC (i:=5) (own:=["_law_one"]) (fr:=[("_law_near_here",0),("_law_untouched",1)]) rfl nd rfl rfl (by with_unfolding_all rfl) (by with_unfolding_all rfl) (frOk_cons rfl rfl (frOk_cons rfl rfl frOk_nil)) (pi_range1 (by rfl) B.range (pa_cons (pe_callB (lenK K) (by rfl) B.len PySem.boot_len (pa_cons (pv 0) pa_nil)) pa_nil)) ⟨fun _ _ _ _=>⟨(pg_name (i:=0) (show List.Nodup (["_law_one", "_law_near_here", "_law_untouched"]:List Str) by decide +kernel) rfl (Or.inl rfl)),pts_nil,(pe_callB (lenK K) (by rfl) B.len PySem.boot_len (pa_cons (pe_lcomp (own:=["_law_k"]) (fr:=[("_law_untouched",2)]) rfl (by with_unfolding_all rfl) (frOk_cons rfl rfl frOk_nil) (pi_listK K (pe_ix (ix_listK K) (pv 1) (pv 0) (fun _ _=>rfl))) ⟨fun _ _ _ _=>⟨(pg_name (i:=0) (show List.Nodup (["_law_k", "_law_untouched"]:List Str) by decide +kernel) rfl (Or.inl rfl)),(pts_one (truthK K (pe_ix (ix_listK K) (pv 1) (pv 0) (fun _ _=>rfl)) (fun _=>rfl))),(pv 0)⟩⟩) pa_nil))⟩⟩)
    (pss_cons (ps_set (i:=6) nd rfl (Or.inl rfl) (pe_own G_law_ready D_law_ready (hr.mono (by decide)) (pa_cons (pv 0) (pa_cons (pv 1) (pa_cons (pv 2) pa_nil)))))
    (pss_cons (ps_if (PW.pt (pw_or (pt_cmpR (notIn_seqK K) (pv 3) (pv 6) (by with_unfolding_all rfl)) (pw_or1 (pt_cmpR op_eq (pe_ix (ix_listK K) (pv 5) (pv 3) (fun _ _=>rfl)) pe_int (nomark _)))))
     (pss_one (ps_ret pe_bl))
     pss_nil)
    (pss_cons (ps_for PassesOwn.never rfl (pi_listK K (pv 6)) (pg_name (i:=4) nd rfl (Or.inl rfl))
     (pss_one (ps_if (PW.pt (pw_or (pt_cmpR op_gt (pe_ix (ix_listK K) (pv 5) (pv 4) (fun _ _=>rfl)) (pe_ix (ix_listK K) (pv 5) (pv 3) (fun _ _=>rfl)) (nomark _)) (pw_or1 (PW.pt (pw_and (pt_cmpR op_eq (pe_ix (ix_listK K) (pv 5) (pv 4) (fun _ _=>rfl)) (pe_ix (ix_listK K) (pv 5) (pv 3) (fun _ _=>rfl)) (nomark _)) (pw_and1 (pt_cmpR op_lt (pv 4) (pv 3) (nomark _))))))))
      (pss_one (ps_ret pe_bl))
      pss_nil)))
    (pss_one (ps_ret pe_bl)))))),?_⟩
  walk_at "rd";have hal:as.length=n.toNat:=by rw[hR.len,rowsOf_len]
  refine⟨_,.inl (SqL.of hR.top),by omega,by rw[List.length_map,hal];omega,fun p np=>?_⟩;rw[List.length_map,hal,Int.toNat_natCast];refine lc_range (inv_lc H rp up p ts os) ⟨none,rfl,(Same.refl H).upd np,upd_same⟩ ?_ ?_
  ·rintro i τ Hc hi ⟨c,rfl,sc,hc⟩;obtain⟨ra,a1,a2,a3,a4⟩:=hR.get (v:=(i:Int)) (by omega) (rowsOf_get (by omega) (by omega));have a2':atI (as.map V.ref) (0+(i:Int))=some (.ref ra):=by rw[Int.zero_add];exact a2
   walk_at "rd";refine⟨_,SqL.of (sc _ _ hR.top),_,a2',ra,rfl,⟨_,SqL.of (sc _ _ a3)⟩,fun p1 np1=>lc_listF V.int (untB ts os) V.int ?_ (SqL.of (sc _ _ a3)) np1 ?_ ?_⟩
   ·have:=nb_len (ts:=ts) (i:Int);omega
   ·intro x hx v ys R hy hR1 hR2;have hx':=nb_rng hok hx;have sm:Same H (upd Hc p1 (.lst ys)):=fun b o e=>((Same.refl Hc).upd np1) b o (sc b o e)
    walk_at "rd";refine⟨_,SqL.of (sm _ _ hup),_,unb_at (by omega) (by omega),_,rfl,turn_ite rfl hy ?_ hR1 hR2⟩;have:=nb_len (ts:=ts) (i:Int);omega
   ·refine fresh_of np1 fun Hd sd ed=>⟨_,.inl (SqL.of ed),_,sd _ _ hc,by rw[List.length_map,List.length_map,rInts_length];exact sizeBig (by omega),_,rfl,(sc.trans sd).upd np,?_⟩
    rw[upd_same,rInts_succ,List.map_append,List.map_append,List.length_map,Int.zero_add];rfl
  ·rintro τ H2 ⟨c,rfl,s2,e2⟩;refine⟨rp,as,n,ts,up,bp,os,rfl,hR.same s2,h3,h60,hok,s2 _ _ hup,s2 _ _ hbp,hol,fun l bs H3 s3 nl e3 hbs hbl=>?_⟩;have s03:=s2.trans s3;have hcb:b∈bs:=(hbs b).mpr hc.rdy;refine notin_use (.inl (SqL.of e3)) ⟨_,rfl,?_⟩;rw[if_neg (by simp[hcb])];have hat:∀ x,0≤x→x<n→atI (((rInts 0 n.toNat).map fun v=>((unC ts os v:Nat):Int)).map V.int) x=some (.int (unC ts os x)):=fun x x0 x1=>by
    obtain⟨j,rfl⟩:=Int.eq_ofNat_of_zero_le x0;refine atI_nat ?_;rw[List.getElem?_map,List.getElem?_map,rInts_get (by omega),Int.zero_add];rfl
   obtain⟨b0,b1⟩:=hc.rdy.1;refine⟨_,SqL.of (s3 _ _ e2),_,hat b b0 b1,rfl,?_⟩;rw[if_neg (by simp;omega)];rw[tFor_eq];walk_at "rd";refine⟨⟨_,SqL.of e3⟩,for_list (K:=K) (xs:=bs.map V.int) (fun i σ Hc=>(∃ c,σ=[some (.ref rp),some (.ref up),some (.ref bp),some (.int b),c,some (.ref p),some (.ref l)])∧Same H3 Hc) ⟨⟨none,rfl⟩,Same.refl H3⟩ ?_ ?_ ?_⟩
   ·rintro i σ Hc _ ⟨⟨_,rfl⟩,sc⟩;exact SqL.of (sc _ _ e3)
   ·rintro i v σ Hc hv ⟨⟨c,rfl⟩,sc⟩;rw[List.getElem?_map] at hv;cases hx0:bs[i]? with
    | none=>rw[hx0] at hv;cases hv
    | some x =>
    rw[hx0] at hv;cases Option.some.inj hv;have hx:=(hbs x).mp (List.mem_of_getElem? hx0);have hb:=hc.best x hx;have ex:=hat x hx.1.1 hx.1.2;have eb:=hat b b0 b1;have ep:=sc _ _ (s3 _ _ e2);walk_at "rd";refine⟨_,SqL.of ep,_,ex,_,SqL.of ep,_,eb,_,rfl,_,rfl,ite2 (fun h=>absurd (of_decide_eq_true h) (by have:=hb.1;omega)) fun _=>⟨_,SqL.of ep,_,ex,_,SqL.of ep,_,eb,rfl,ite2 (fun h1=>ite2 (fun h2=>?_) fun _=>sc) fun _=>sc⟩⟩;have h2':=hb.2 (of_decide_eq_true h2);have h1':=of_decide_eq_true h1;injection h1' with h1'
    omega
   ·rintro σ Hc ⟨⟨c,rfl⟩,sc⟩;walk_at "rd";exact q Hc (s03.trans sc)
def sp_lright58 (K:PySem.W.Frag):Sp:=fun vs H Q _=>∃ (w:Addr) (n:Int) (ts:List (Int×Int)) (p po pt:Addr) (k:Nat) (os:List Int) (gs us:List (Int×Int)),vs=[.ref w,.ref p]∧WebAt H w n ts∧IsWeb n ts∧H p=some (.tup [.ref po,.ref pt])∧H po=some (.tup (os.map V.int))∧TsAt H pt us∧Gwn n ts k os gs∧unT n ts os=[]∧us.Perm gs∧(us.Pairwise fun x y=>HT.lexLt (tl y) (tl x)=false) ∧
 ∀ (H':Hp),Same H H'→Q (.bl true) H'
theorem untB_snoc {ts:List (Int×Int)}{os:List Int}{b x:Int}:untB ts (os++[b]) x=(untB ts os x && !decide (x∈nb ts b++[b])):=by
 rw[Bool.eq_iff_iff,Bool.and_eq_true,untB_iff,untB_iff,Bool.not_eq_true',decide_eq_false_iff_not];simp only[List.mem_append,List.mem_singleton,not_or];constructor
 ·rintro⟨⟨h1,h2⟩,h3⟩;exact⟨⟨h1,fun y hy=>h3 y (.inl hy)⟩,h3 b (.inr rfl),h2⟩
 ·rintro⟨⟨h1,h3⟩,h4,h2⟩;exact⟨⟨h1,h2⟩,fun y hy=>hy.elim (h3 y) fun e=>by rw[e];exact h4⟩
structure LrAt (Hb Hc:Hp)(up bp tp:Addr)(n:Int)(ts:List (Int×Int))(i:Nat)(os:List Int)(gs:List (Int×Int))(ps:List (Addr×List Int)):Prop where
 same:Same Hb Hc
 unt:Hc up=some (.lst ((rInts 0 n.toNat).map fun x=>V.bl (untB ts os x)))
 bsy:Hc bp=some (.lst (os.map V.int))
 tie:Hc tp=some (.lst (ps.map fun x=>V.ref x.1))
 ps:PsAt Hc ps gs
 gwn:Gwn n ts i os gs
theorem flat_bl {α:Type}(l:List α)(f:α→Bool):(l.map fun x=>V.bl (f x)).all flatV=true:=by
 rw[List.all_eq_true];intro v hv;obtain⟨u,_,rfl⟩:=List.mem_map.mp hv;rfl
theorem inV_bl {α:Type}(l:List α)(f:α→Bool):inV (.bl true) (l.map fun x=>V.bl (f x))=l.any f:=by
 unfold inV;induction l with
 | nil=>rfl
 | cons u r ih =>
  rw[List.map_cons,List.any_cons,List.any_cons,ih];cases f u<;>rfl
def inv_lt (Hb:Hp)(l up:Addr)(b:Int)(ts:List (Int×Int))(os:List Int)(i:Nat)(τ:St)(Hc:Hp):Prop:=∃ (c:Option V) (ps:List (Addr×List Int)),τ=[c,some (.int b),some (.ref up)]∧Same Hb Hc∧Hc l=some (.lst (ps.map fun x=>V.ref x.1))∧PsAt Hc ps ((((nb ts b).take i).filter (untB ts os)).map (mm b))
theorem rI_set {m:Nat}{f:Int→V}{v:V}{y:Int}(y0:0≤y):((rInts 0 m).map f).set y.toNat v=(rInts 0 m).map fun x=>if x=y then v else f x:=by
 refine List.ext_getElem (by simp) fun j h1 h2=>?_
 have e:∀ h:j<(rInts 0 m).length,(rInts 0 m)[j]=(j:Int):=fun h=>by simp[rInts]
 rw[List.getElem_set,List.getElem_map,List.getElem_map,e];by_cases h:y.toNat=j
 ·rw[if_pos h,if_pos (by omega)]
 ·rw[if_neg h,if_neg (by omega)]
def inv_lu (HA:Hp)(w0 p np up bp tp:Addr)(b:Int)(n:Int)(ts:List (Int×Int))(os xs:List Int)(i:Nat)(σ:St)(Hd:Hp):Prop:=∃ kv:Option V,σ=[some (.ref w0),some (.ref p),some (.ref np),some (.ref up),some (.ref bp),some (.ref tp),some (.int b),kv,none]∧Kp up HA Hd∧Hd up=some (.lst ((rInts 0 n.toNat).map fun x=>V.bl (untB ts os x && !decide (x∈xs.take i))))
def inv_lr (Hb:Hp)(w0 p np up bp:Addr)(n:Int)(ts:List (Int×Int))(os:List Int)(i:Nat)(σ:St)(Hc:Hp):Prop:=∃ (tp:Addr) (pv kv:Option V) (gs:List (Int×Int)) (ps:List (Addr×List Int)),σ=[some (.ref w0),some (.ref p),some (.ref np),some (.ref up),some (.ref bp),some (.ref tp),pv,kv,none]∧LrAt Hb Hc up bp tp n ts i (os.take i) gs ps
theorem sc_lright58:FnScope ["_law_web_here", "_law_found", "_law_near_here", "_law_untouched", "_law_busy", "_law_ties", "_law_place", "_law_k", "_law_within"] ["_law_web_here", "_law_found"] (defScope (top 25)):=⟨rfl,rfl,rfl,by decide +kernel,rfl,by decide +kernel,by decide +kernel⟩
theorem ok_lright58 {f:Addr}{fd:FuncData}(F:Fun K "_law_right" "_law_right" (top 25) f fd)(B:Bt mg){f1:Addr}{fd1:FuncData}{st1:Stmt}(D_law_near:Df K mg "_law_near" st1 f1 fd1 ["_law_web_here"])(G_law_near:FnOk P w K mg base CX0 1 f1 fd1 ["_law_web_here"] sp_near){f2:Addr}{fd2:FuncData}{st2:Stmt}(D_law_is_int:Df K mg "_law_is_int" st2 f2 fd2 ["_law_thing", "_law_least", "_law_most"])(G_law_is_int:FnOk P w K mg base CX0 1 f2 fd2 ["_law_thing", "_law_least", "_law_most"] (sp_isint K)){f3:Addr}{fd3:FuncData}{st3:Stmt}(D_law_chosen:Df K mg "_law_chosen" st3 f3 fd3 ["_law_near_here", "_law_untouched", "_law_busy", "_law_place"])(G_law_chosen:FnOk P w K mg base CX0 2 f3 fd3 ["_law_near_here", "_law_untouched", "_law_busy", "_law_place"] (sp_lchosen K)){f4:Addr}{fd4:FuncData}{st4:Stmt}(D_law_is_tree:Df K mg "_law_is_tree" st4 f4 fd4 ["_law_web_here", "_law_thing"])(G_law_is_tree:FnOk P w K mg base CX0 3 f4 fd4 ["_law_web_here", "_law_thing"] (sp_istree K))(C:Bt2 mg):FnOk P w K mg base CX0 4 f fd ["_law_web_here", "_law_found"] (sp_lright58 K):=by
 refine F.ok sc_lright58 (fun vs H Q E h=>?_) (fun cdv A outer s H vs Q E hr h=>?_)
 ·obtain⟨w0,n,ts,p,po,pt,k,os,gs,us,rfl,hw,hok,hp,hpo,hpt,G,hun,pu,hs,q⟩:=h;rfl
 ·obtain⟨w0,n,ts,p,po,pt,k,os,gs,us,rfl,hw,hok,hp,hpo,hpt,G,hun,pu,hs,q⟩:=h;have nd:=sc_lright58.nd;have hu:=hu_of hr
  refine⟨_,(pss_cons (ps_if (PW.pt (pw_or (pt_not (pt_val (pe_callB (isiK K) (by rfl) C.isinstance PyProof.Rows.boot_isinstance (pa_cons (pv 1) (pa_cons (pe_ty (by rfl) B.tuple PyProof.Rows.boot_tuple) pa_nil))))) (pw_or (pt_cmpR op_ne (pe_callB (lenK K) (by rfl) B.len PySem.boot_len (pa_cons (pv 1) pa_nil)) pe_int (nomark _)) (pw_or1 (pt_not (pt_val (pe_callB (isiK K) (by rfl) C.isinstance PyProof.Rows.boot_isinstance (pa_cons (pe_ix (ix_tupK K) (pv 1) pe_int (fun _ _=>rfl)) (pa_cons (pe_ty (by rfl) B.tuple PyProof.Rows.boot_tuple) pa_nil)))))))))
     (pss_one (ps_ret pe_bl))
     pss_nil)
    (pss_cons (ps_set (i:=2) nd rfl (Or.inl rfl) (pe_own G_law_near D_law_near (hr.mono (by decide)) (pa_cons (pv 0) pa_nil)))
    (pss_cons (ps_set (i:=3) nd rfl (Or.inr rfl) (pe_op op_rep (pe_lst (pa_cons pe_bl pa_nil)) (pe_ix (ix_tupK K) (pv 0) pe_int (fun _ _=>rfl))))
    (pss_cons (ps_set (i:=4) nd rfl (Or.inl rfl) (pe_lst pa_nil))
    (pss_cons (ps_set (i:=5) nd rfl (Or.inl rfl) (pe_lst pa_nil))
    (pss_cons (ps_for PassesOwn.never rfl (pi_tupK K (pe_ix (ix_tupK K) (pv 1) pe_int (fun _ _=>rfl))) (pg_name (i:=6) nd rfl (Or.inr rfl))
     (pss_cons (ps_if (PW.pt (pw_or (pt_not (pt_val (pe_own G_law_is_int D_law_is_int (hr.mono (by decide)) (pa_cons (pv 6) (pa_cons pe_int (pa_cons (pe_op op_sub (pe_ix (ix_tupK K) (pv 0) pe_int (fun _ _=>rfl)) pe_int) pa_nil)))))) (pw_or1 (pt_cmpR (notIn_seqK K) pe_bl (pv 3) (by with_unfolding_all rfl)))))
      (pss_one (ps_ret pe_bl))
      pss_nil)
     (pss_cons (ps_if (pt_not (pt_val (pe_own G_law_chosen D_law_chosen (hr.mono (by decide)) (pa_cons (pv 2) (pa_cons (pv 3) (pa_cons (pv 4) (pa_cons (pv 6) pa_nil)))))))
      (pss_one (ps_ret pe_bl))
      pss_nil)
     (pss_cons (ps_set (i:=5) nd rfl (Or.inl rfl) (pe_op op_cat (pv 5) (pe_lcomp (own:=["_law_k"]) (fr:=[("_law_place",6),("_law_untouched",3)]) rfl (by with_unfolding_all rfl) (frOk_cons rfl rfl (frOk_cons rfl rfl frOk_nil)) (pi_listK K (pe_ix (ix_listK K) (pv 2) (pv 6) (fun _ _=>rfl))) ⟨fun _ _ _ _=>⟨(pg_name (i:=0) (show List.Nodup (["_law_k", "_law_place", "_law_untouched"]:List Str) by decide +kernel) rfl (Or.inl rfl)),(pts_one (truthK K (pe_ix (ix_listK K) (pv 2) (pv 0) (fun _ _=>rfl)) (fun _=>rfl))),(pe_tup (pa_cons (pe_callB (call_min2 rfl) (by rfl) B.min PyProof.Rows.boot_min (pa_cons (pv 1) (pa_cons (pv 0) pa_nil))) (pa_cons (pe_callB (call_max2 rfl) (by rfl) B.max PyProof.Rows.boot_max (pa_cons (pv 1) (pa_cons (pv 0) pa_nil))) pa_nil)))⟩⟩)))
     (pss_cons (ps_expr (appendK K (pv 4) (pa_cons (pv 6) pa_nil)))
     (pss_one (ps_for PassesOwn.never rfl (pi_listK K (pe_op op_cat (pe_ix (ix_listK K) (pv 2) (pv 6) (fun _ _=>rfl)) (pe_lst (pa_cons (pv 6) pa_nil)))) (pg_name (i:=7) nd rfl (Or.inl rfl))
      (pss_one (ps_asg pe_bl (pg_sub (pv 3) (pv 7) set_list))))))))))
    (pss_cons (ps_if (PW.pt (pw_or (pt_cmpR (in_seqK K) pe_bl (pv 3) (by with_unfolding_all rfl)) (pw_or (pt_cmpR (neDK K hr.units) (pe_ix (ix_tupK K) (pv 1) pe_int (fun _ _=>rfl)) (pe_callTy (tupleK K) (by rfl) B.tuple PyProof.Rows.boot_tuple (pa_cons (pe_callB (sortedTK K) (by rfl) B.sorted PyProof.Rows.boot_sorted (pa_cons (pv 5) pa_nil)) pa_nil)) (nomark _)) (pw_or1 (pt_not (pt_val (pe_own G_law_is_tree D_law_is_tree (hr.mono (by decide)) (pa_cons (pv 0) (pa_cons (pe_ix (ix_tupK K) (pv 1) pe_int (fun _ _=>rfl)) pa_nil)))))))))
     (pss_one (ps_ret pe_bl))
     pss_nil)
    (pss_cons (ps_set (i:=8) nd rfl (Or.inr rfl) (pe_own G_law_near D_law_near (hr.mono (by decide)) (pa_cons (pe_tup (pa_cons (pe_ix (ix_tupK K) (pv 0) pe_int (fun _ _=>rfl)) (pa_cons (pe_ix (ix_tupK K) (pv 1) pe_int (fun _ _=>rfl)) pa_nil))) pa_nil)))
    (pss_one (ps_ret (pe_cmpR (eqDK K hr.units) (pe_lcomp (own:=["_law_place"]) (fr:=[("_law_within",8)]) rfl (by with_unfolding_all rfl) (frOk_cons rfl rfl frOk_nil) (pi_range1 (by rfl) B.range (pa_cons (pe_ix (ix_tupK K) (pv 0) pe_int (fun _ _=>rfl)) pa_nil)) ⟨fun _ _ _ _=>⟨(pg_name (i:=0) (show List.Nodup (["_law_place", "_law_within"]:List Str) by decide +kernel) rfl (Or.inl rfl)),(pts_one (pt_cmpR op_gt (pe_callB (lenK K) (by rfl) B.len PySem.boot_len (pa_cons (pe_ix (ix_listK K) (pv 1) (pv 0) (fun _ _=>rfl)) pa_nil)) pe_int (nomark _))),(pv 0)⟩⟩) (pe_callB (sortedIK K hr.hd) (by rfl) B.sorted PyProof.Rows.boot_sorted (pa_cons (pv 4) pa_nil)) (nomark _)))))))))))),?_⟩
  simp only[L2.start,st0,List.map_cons,List.map_nil,List.length_cons,List.length_nil,List.replicate,List.cons_append,List.nil_append,Nat.reduceAdd,Nat.reduceSub];walk_at "rd";have h3:=hok.n3;have h60:=hok.n60;have hl:=hok.len;obtain⟨q0,hw0,htq⟩:=id hw;refine⟨_,_,⟨rfl,rfl⟩,_,.tup hp,true,rfl,?_⟩;rw[if_neg (by decide)];refine⟨_,.inr (SqT.of hp),?_⟩;rw[if_neg (by simp)];refine⟨_,SqT.of hp,_,rfl,_,_,⟨rfl,rfl⟩,_,.tup hpo,true,rfl,?_⟩;rw[if_neg (by decide)];refine⟨w0,n,ts,rfl,hw,by omega,by omega,by omega,hok.rng,hok.srt,fun np as H1 s1 nnp nas hR=>⟨by decide,fun p1 n1=>fresh_of n1 fun H2 s2 e2=>⟨_,SqT.of (s2 _ _ (s1 _ _ hw0)),_,rfl,?_⟩⟩⟩;refine⟨p1,n,_,rfl,rfl,e2,by omega,by omega,by simp[sizeLine];omega,fun up nup=>fresh_of nup fun H3 s3 e3=>⟨by decide,fun bp nbp=>fresh_of nbp fun H4 s4 e4=>⟨by decide,fun tp ntp=>fresh_of ntp fun H5 s5 e5=>?_⟩⟩⟩;rw[tFor_eq];walk_at "rd";have s15:=(s2.trans s3).trans (s4.trans s5);have upb:up≠bp:=ne_of_none e3 nbp;have nup1:=s2.free nup;have nbp1:=(s2.trans s3).free nbp;refine⟨_,SqT.of (s15 _ _ (s1 _ _ hp)),_,rfl,po,rfl,⟨_,SqT.of (s15 _ _ (s1 _ _ hpo))⟩,for_tup (K:=K) (xs:=os.map V.int) (inv_lr H1 w0 p np up bp n ts os) ⟨tp,none,none,[],[],rfl,s15,?_,(s5 _ _ e4),e5,⟨fun x hx=>(by cases hx),rfl⟩,.nil⟩ ?_ ?_ ?_⟩
  ·rw[(s4.trans s5) _ _ e3]
   have e:(rInts 0 n.toNat).map (fun x=>V.bl (untB ts (List.take 0 os) x))=List.replicate n.toNat (V.bl true):=List.eq_replicate_iff.mpr ⟨by rw[List.length_map,rInts_length],fun b hb=>by
    obtain⟨x,_,rfl⟩:=List.mem_map.mp hb
    rw[show untB ts (List.take 0 os) x=true from untB_iff.mpr ⟨by simp,by simp⟩]⟩
   rw[e,List.flatten_replicate_singleton]
  ·rintro i σ Hc _ ⟨_,_,_,_,_,rfl,L⟩;exact SqT.of (L.same _ _ (s1 _ _ hpo))
  ·rintro i v σ Hc hv ⟨tp,pv,kv,gj,ps,rfl,L⟩;rw[List.getElem?_map] at hv;cases hb0:os[i]? with
   | none=>rw[hb0] at hv;cases hv
   | some b =>
   rw[hb0] at hv;cases Option.some.inj hv;have hil:=(List.getElem?_eq_some_iff.mp hb0).1;rw[G.len] at hil;obtain⟨b',g,e1,e2,e3,e4⟩:=G.early i hil;rw[hb0] at e3;cases e3;have hbr:=e4.rdy.1;have hpos:=e1.pos hok e2 e4;walk_at "rd";refine⟨_,SqT.of (L.same _ _ (s1 _ _ hw0)),_,rfl,n,rfl,b,0,n-1,rfl,?_⟩;rw[show decide (0≤b∧b≤n-1)=true by simp;omega];refine⟨_,rfl,?_⟩;rw[if_neg (by decide)];refine⟨up,_,rfl,.inl (SqL.of L.unt),rfl,flat_bl _ _,?_⟩;have hany:(rInts 0 n.toNat).any (untB ts (os.take i))=true:=by
    obtain⟨z,hz⟩:=List.exists_mem_of_ne_nil _ e2;exact List.any_eq_true.mpr ⟨z,(List.mem_filter.mp hz).1,(List.mem_filter.mp hz).2⟩
   rw[inV_bl,hany];refine⟨_,rfl,?_⟩;rw[if_neg (by decide)];have gl:=e1.bnd hok;have nbl:=nb_len (ts:=ts) b;have otl:(os.take i).length=i:=e1.len;obtain rfl:gj=g:=(L.gwn.uniq e1).2;refine⟨np,as,n,ts,up,bp,os.take i,b,rfl,hR.same L.same,h3,h60,hok.rng,hl,L.unt,L.bsy,by omega,e4,hpos,fun Hd sd=>⟨true,rfl,?_⟩⟩;rw[if_neg (by decide)];have Rd:=hR.same (L.same.trans sd);obtain⟨ra,a1,a2,a3,a4⟩:=Rd.get hbr.1 (rowsOf_get hbr.1 hbr.2);refine⟨_,SqL.of Rd.top,_,a2,ra,rfl,⟨_,SqL.of a3⟩,fun p1 np1=>lc_list (K:=K) (xs:=(nb ts b).map V.int) (inv_lt Hd p1 up b ts (os.take i)) ⟨none,[],rfl,(Same.refl Hd).upd np1,upd_same,⟨fun x hx=>(by cases hx),rfl⟩⟩ ?_ ?_ ?_⟩
   ·rintro j τ He _ ⟨_,_,rfl,se,_⟩;exact SqL.of (se _ _ a3)
   ·rintro j v τ He hv ⟨c,qs,rfl,se,he,hqs⟩;rw[List.getElem?_map] at hv;cases hx0:(nb ts b)[j]? with
    | none=>rw[hx0] at hv;cases hv
    | some x =>
    rw[hx0] at hv;cases Option.some.inj hv;have hjl:=(List.getElem?_eq_some_iff.mp hx0).1;have hx':=nb_rng hok.rng (List.mem_of_getElem? hx0);have ql:qs.length≤j:=by
     have h1:=hqs.len;have h2:=List.length_filter_le (untB ts (os.take i)) ((nb ts b).take j);rw[List.length_map] at h1;rw[List.length_take] at h2;omega
    intro _;walk_at "rd";refine⟨_,SqL.of (se _ _ (sd _ _ L.unt)),_,unb_at (by omega) (by omega),_,rfl,?_⟩;refine ite2 (fun h=>⟨_,_,⟨rfl,rfl⟩,_,_,⟨rfl,rfl⟩,by decide,fun pq nq=>⟨_,at_new he nq,by rw[List.length_map];exact sizeBig (by omega),_,qs++[(pq,tl (mm b x))],rfl,(se.upd (se.free nq)).upd np1,by rw[upd_same,List.map_append];rfl,?_⟩⟩) fun h=>⟨_,qs,rfl,se,he,?_⟩
    ·rw[List.take_succ,hx0,Option.toList_some,List.filter_append,fil_pos _ h,List.map_append];refine (hqs.tp ((Tp.nw nq).trans (Tp.lst (at_new he nq)))).snoc ?_;rw[upd_ne (ne_of_none he nq).symm,upd_same];rfl
    ·rw[List.take_succ,hx0,Option.toList_some,List.filter_append,fil_neg _ h,List.append_nil];exact hqs
   rintro τ H6 ⟨c,qs,rfl,s6,e6,hqs⟩;rw[List.length_map,List.take_length] at hqs;have ql:qs.length≤400:=by
    have h1:=hqs.len;have h2:=List.length_filter_le (untB ts (os.take i)) (nb ts b);rw[List.length_map] at h1;omega
   have pl:=L.ps.len;have sc6:=sd.trans s6;refine⟨tp,p1,_,_,rfl,rfl,sc6 _ _ L.tie,e6,by rw[List.length_map,List.length_map];exact Nat.le_of_lt (sizeBig (by omega)),fun p2 np2=>fresh_of np2 fun H7 s7 e7=>⟨.inl ⟨rfl,_,SqL.of (s7 _ _ (sc6 _ _ L.bsy))⟩,_,s7 _ _ (sc6 _ _ L.bsy),by rw[List.length_map];exact sizeBig (by omega),?_⟩⟩;have s17:=(L.same.trans sc6).trans s7;have s18:Same H1 (upd H7 bp (.lst (List.map V.int (List.take i os)++[V.int b]))):=s17.upd nbp1;have t78:Tp H7 (upd H7 bp (.lst (List.map V.int (List.take i os)++[V.int b]))):=Tp.lst (s7 _ _ (sc6 _ _ L.bsy));have bn:∀ {a:Addr} {o:HO},H7 a=some o→a≠bp→(upd H7 bp (.lst (List.map V.int (List.take i os)++[V.int b]))) a=some o:=fun e h=>by rw[upd_ne h];exact e
   have eb8:(upd H7 bp (.lst (List.map V.int (List.take i os)++[V.int b]))) bp=some (.lst ((os.take i++[b]).map V.int)):=by rw[upd_same,List.map_append];rfl
   have eu7:=sc6 _ _ L.unt;have e28:=bn e7 (ne_of_none (sc6 _ _ L.bsy) np2).symm;have eu8:=bn (s7 _ _ (sc6 _ _ L.unt)) upb;generalize upd H7 bp (.lst (List.map V.int (List.take i os)++[V.int b]))=H8 at s18 t78 eb8 e28 eu8 ⊢;have R8:=hR.same s18;obtain⟨rc,c1,c2,c3,c4⟩:=R8.get hbr.1 (rowsOf_get hbr.1 hbr.2);have psQ:PsAt H8 (ps++qs) (gj++((nb ts b).filter (untB ts (os.take i))).map (mm b)):=(L.ps.tp (sc6.tp.trans (s7.tp.trans t78))).cat (hqs.tp (s7.tp.trans t78));rw[tFor_eq];walk_at "rd";refine⟨_,SqL.of R8.top,_,c2,by decide,fun p3 np3=>fresh_of np3 fun H9 s9 e9=>⟨rc,p3,_,_,rfl,rfl,s9 _ _ c3,e9,by rw[List.length_map];exact Nat.le_of_lt (sizeBig (by simp;omega)),fun p4 np4=>fresh_of np4 fun HA sA eA=>?_⟩⟩;have s8A:=s9.trans sA;have eA':HA p4=some (.lst ((nb ts b++[b]).map V.int)):=by rw[eA,List.map_append];rfl
   have up4:p4≠up:=(ne_of_none (s9 _ _ eu8) np4).symm;refine⟨p4,rfl,⟨_,SqL.of eA⟩,for_list (K:=K) (xs:=(nb ts b++[b]).map V.int) (inv_lu HA w0 p np up bp p2 b n ts (os.take i) (nb ts b++[b])) ⟨_,rfl,Kp.refl _ _,?_⟩ ?_ ?_ ?_⟩
   ·rw[s8A _ _ eu8];simp
   ·rintro j σ Hx _ ⟨_,rfl,kx,_⟩;exact SqL.of (kx _ _ up4 eA')
   ·rintro j v σ Hx hv ⟨kv,rfl,kx,ux⟩;rw[List.getElem?_map] at hv;cases hy0:(nb ts b++[b])[j]? with
    | none=>rw[hy0] at hv;cases hv
    | some y =>
    rw[hy0] at hv;cases Option.some.inj hv;have hyr:0≤y∧y<n:=by
     rcases List.mem_append.mp (List.mem_of_getElem? hy0) with h | h
     ·have:=nb_rng hok.rng h;omega
     ·rw[List.mem_singleton.mp h];exact hbr
    walk_at "rd";refine⟨_,ux,_,ixN_at hyr.1 (by rw[List.length_map,rInts_length];omega),_,rfl,fun a o ha e=>by rw[upd_ne ha];exact kx a o ha e,?_⟩;rw[upd_same,rI_set hyr.1];congr 3;funext x;rw[List.take_succ,hy0,Option.toList_some];by_cases h:x=y
    ·rw[if_pos h,h];simp
    ·rw[if_neg h];simp[h]
   ·rintro σ Hx ⟨kv,rfl,kx,ux⟩;rw[List.length_map,List.take_length] at ux;have e':os.take (i+1)=os.take i++[b]:=by rw[List.take_succ,hb0];rfl
    have kpx:∀ {a:Addr} {o:HO},HA a=some o→a≠up→Hx a=some o:=fun e h=>kx _ _ h e
    have tx:Tp HA Hx:=fun a xs e=>kx a _ (fun z=>by rw[z,s8A _ _ eu8] at e;cases e) e
    refine⟨p2,_,kv,_,ps++qs,rfl,⟨fun a o e=>kx a o (ne_of_none e nup1) (s8A _ _ (s18 _ _ e)),?_,?_,?_,psQ.tp (s8A.tp.trans tx),?_⟩⟩
    ·rw[ux,e'];congr 3;funext x;rw[untB_snoc]
    ·rw[e'];exact kpx (s8A _ _ eb8) upb.symm
    ·rw[List.map_append];exact kpx (s8A _ _ e28) (ne_of_none eu7 np2).symm
    ·rw[e'];exact e1.add e2 e4
  ·rintro σ Hc ⟨tp,pv,kv,gj,ps,rfl,L⟩;rw[List.length_map,List.take_length] at L;obtain⟨T,ond,hdg⟩:=G.tree hok hun pu hs;obtain rfl:gj=gs:=(L.gwn.same hun G hun).2;have huk:=T.ok hok.rng;have hlen:=T.len;walk_at "rd";have hno:(rInts 0 n.toNat).any (untB ts os)=false:=by
    rw[List.any_eq_false];intro x hx h;have:x∈unT n ts os:=List.mem_filter.mpr ⟨hx,h⟩;rw[hun] at this;cases this
   refine⟨up,_,rfl,.inl (SqL.of L.unt),rfl,flat_bl _ _,?_⟩;rw[inV_bl,hno];refine⟨_,rfl,?_⟩;rw[if_neg (by decide)];have s1c:=s1.trans L.same;refine⟨_,SqT.of (s1c _ _ hp),_,rfl,ps,L.ps.src L.tie,fun ps' l pm hs' nl=>fresh_of nl fun H2 s2 e2=>⟨_,.inl ⟨SqL.of e2,fun l2 n2=>fresh_of n2 fun H3 s3 e3=>?_⟩⟩⟩;obtain⟨us',pu',hps'⟩:=L.ps.perm pm;have T':=(G.tree hok hun pu' (hps'.srt hs')).1;obtain rfl:us=us':=lex_ext T.srt T'.srt fun x=>(pu.trans pu'.symm).mem_iff
   have s23:=s2.trans s3;have sc3:=s1c.trans s23;refine neTT (hpt.tp sc3.tp).ls (TsAt.ls (ts:=us) ⟨ps',e3,hps'.tp s23.tp⟩) ⟨_,rfl,?_⟩;rw[if_neg (by simp)];refine⟨_,SqT.of (sc3 _ _ hp),_,rfl,w0,pt,n,ts,us,rfl,hw.tp sc3.tp,hok,hpt.tp sc3.tp,T,fun H4 s4=>⟨true,rfl,?_⟩⟩;rw[if_neg (by decide)];have s04:=sc3.trans s4;refine⟨_,SqT.of (s04 _ _ hw0),_,rfl,_,SqT.of (s04 _ _ hp),_,rfl,by decide,fun wp nwp=>fresh_of nwp fun H5 s5 e5=>⟨wp,n,us,rfl,⟨pt,e5,hpt.tp (s04.trans s5).tp⟩,by omega,by omega,by omega,huk,T.srt,fun np2 as2 H6 s6 _ _ hR2=>?_⟩⟩;have s06:=(s04.trans s5).trans s6;refine⟨_,SqT.of (s06 _ _ hw0),_,rfl,n,rfl,by omega,by omega,fun p9 np9=>lc_rangeF (fun x=>decide (1<(nb us x).length)) V.int (by omega) ?_ ?_⟩
   ·intro x x0 x1 v ys R hy hR1 hR2';obtain⟨ra,a1,a2,a3,a4⟩:=hR2.get (v:=x) x0 (rowsOf_get x0 (by omega));have sm:Same H6 (upd H6 p9 (.lst ys)):=(Same.refl H6).upd np9;walk_at "rd";refine⟨_,SqL.of (sm _ _ hR2.top),_,a2,ra,rfl,_,.inl (SqL.of (sm _ _ a3)),?_⟩;rw[List.length_map];exact turn_ite (decide_eq_decide.mpr (by omega)) hy (by omega) hR1 hR2'
   ·refine fresh_of np9 fun H7 s7 e7=>⟨os,.inl (SqL.of (s7 _ _ (s6 _ _ (s5 _ _ (s4 _ _ (s23 _ _ L.bsy)))))),fun ns' l9 pm9 hs9 nl9=>fresh_of nl9 fun H8 s8 e8=>eqLI (SqL.of (s8 _ _ e7)) (SqL.of e8) ?_⟩
    rw[decide_eq_true (rising_ext ?_ (sorted_rising pm9 hs9 ond) fun x=>?_)]
    ·exact q H8 ((s06.trans s7).trans s8)
    ·exact List.Pairwise.filter _ (rInts_lt _)
    ·rw[List.mem_filter,mem_rInts,pm9.mem_iff];constructor
     ·rintro⟨h,h'⟩;exact (hdg x h.1 (by omega)).mp (of_decide_eq_true h')
     ·intro h;have:=G.orng x h;exact⟨by omega,decide_eq_true ((hdg x this.1 this.2).mpr h)⟩
def kchk (fs:List (Int×Int)):Bool:=decide fs.Nodup && fs.all (fun t=>decide (0≤t.1∧t.1<t.2∧t.2<60)) && decide (fs.length≤200) && (List.range 60).all fun k=>decide (k=0) || fs.any fun t=>decide (t.2=(k:Int))
theorem kd_ok {kind one:Int}(h:(kind=1∧one=60)∨(kind=4∧one=30)∨(kind=5∧one=30)):(kT kind one 60 60).Nodup∧(∀ t∈kT kind one 60 60,0≤t.1∧t.1<t.2∧t.2<60)∧(kT kind one 60 60).length≤200∧∀ k:Int,1≤k→k<60→∃ a,0≤a∧a<k∧(a,k)∈kT kind one 60 60:=by
 have hc:kchk (kT kind one 60 60)=true:=by
  rcases h with ⟨rfl,rfl⟩ | ⟨rfl,rfl⟩ | ⟨rfl,rfl⟩<;>decide +kernel
 unfold kchk at hc;simp only[Bool.and_eq_true,decide_eq_true_eq,List.all_eq_true,Bool.or_eq_true,List.any_eq_true] at hc;obtain⟨⟨⟨h1,h2⟩,h3⟩,h4⟩:=hc;refine⟨h1,h2,h3,fun k k0 k1=>?_⟩;rcases h4 k.toNat (List.mem_range.mpr (by omega)) with e | ⟨t,ht,e⟩
 ·omega
 ·have:=h2 t ht;have e':t.2=k:=by omega
  exact⟨t.1,by omega,by omega,by rw[← e'];exact ht⟩
def inv_kw3 (H:Hp)(p pn:Addr)(gs:List (Int×Int))(ks:List Int)(i:Nat)(τ:St)(Hc:Hp):Prop:=∃ (ov uv:Option V) (ps:List (Addr×List Int)),τ=[ov,uv,some (.ref pn)]∧Same H Hc∧Hc p=some (.lst (ps.map fun x=>V.ref x.1))∧PsAt Hc ps ((gs.take i).map (ren ks))
theorem sc_law59:FnScope ["_law_script", "_law_deck_here", "_law_way", "_law_kind", "_law_web_here", "_law_names", "_law_ties"] ["_law_script"] (defScope (top 26)):=⟨rfl,rfl,rfl,by decide +kernel,rfl,by decide +kernel,by decide +kernel⟩
theorem ok_law59 {f:Addr}{fd:FuncData}(F:Fun K "law" "law" (top 26) f fd)(B:Bt mg){tLm:Addr}{f1:Addr}{fd1:FuncData}{st1:Stmt}(D_law_deck:Df K mg "_law_deck" st1 f1 fd1 ["_law_script", "_law_many"])(G_law_deck:FnOk P w K mg base CX0 2 f1 fd1 ["_law_script", "_law_many"] (sp_deck K)){f2:Addr}{fd2:FuncData}{st2:Stmt}(D_law_next:Df K mg "_law_next" st2 f2 fd2 ["_law_deck_here"])(G_law_next:FnOk P w K mg base CX0 1 f2 fd2 ["_law_deck_here"] sp_next){f3:Addr}{fd3:FuncData}{st3:Stmt}(D_law_turn:Df K mg "_law_turn" st3 f3 fd3 ["_law_deck_here", "_law_many"])(G_law_turn:FnOk P w K mg base CX0 2 f3 fd3 ["_law_deck_here", "_law_many"] sp_turn){f4:Addr}{fd4:FuncData}{st4:Stmt}(D_law_kind_web:Df K mg "_law_kind_web" st4 f4 fd4 ["_law_kind", "_law_one", "_law_other"])(G_law_kind_web:FnOk P w K mg base CX0 2 f4 fd4 ["_law_kind", "_law_one", "_law_other"] (sp_lkweb K)){f5:Addr}{fd5:FuncData}{st5:Stmt}(D_law_web:Df K mg "_law_web" st5 f5 fd5 ["_law_deck_here", "_law_least", "_law_most"])(G_law_web:FnOk P w K mg base CX0 3 f5 fd5 ["_law_deck_here", "_law_least", "_law_most"] sp_web){f6:Addr}{fd6:FuncData}{st6:Stmt}(Dgrown:Df K mg "grown" st6 f6 fd6 ["web"])(Ggrown:FnOk P w K mg base CX0 6 f6 fd6 ["web"] (sp_grown K tLm)){f7:Addr}{fd7:FuncData}{st7:Stmt}(D_law_right:Df K mg "_law_right" st7 f7 fd7 ["_law_web_here", "_law_found"])(G_law_right:FnOk P w K mg base CX0 4 f7 fd7 ["_law_web_here", "_law_found"] (sp_lright58 K)):FnOk P w K mg base CX0 7 f fd ["_law_script"] (sp_lawT K tLm):=by
 refine F.ok sc_law59 (fun vs H Q E h=>?_) (fun cdv A outer s H vs Q E hr h=>?_)
 ·obtain⟨a,ns,rfl,hS,hl,hL,q⟩:=h;rfl
 ·obtain⟨a,ns,rfl,hS,hl,hL,q⟩:=h;have nd:=sc_law59.nd;have hu:=hu_of hr
  refine⟨_,(pss_cons (ps_set (i:=1) nd rfl (Or.inl rfl) (pe_own G_law_deck D_law_deck (hr.mono (by decide)) (pa_cons (pv 0) (pa_cons pe_int pa_nil))))
    (pss_cons (ps_set (i:=2) nd rfl (Or.inl rfl) (pe_op op_mod (pe_own G_law_next D_law_next (hr.mono (by decide)) (pa_cons (pv 1) pa_nil)) pe_int))
    (pss_cons (ps_if (pt_cmpR op_eq (pv 2) pe_int (nomark _))
     (pss_cons (ps_set (i:=3) nd rfl (Or.inl rfl) (pe_ix (ix_listK K) (pe_lst (pa_cons pe_int (pa_cons pe_int (pa_cons pe_int pa_nil)))) (pe_op op_mod (pe_own G_law_next D_law_next (hr.mono (by decide)) (pa_cons (pv 1) pa_nil)) pe_int) (fun _ _=>rfl)))
     (pss_cons (ps_set (i:=4) nd rfl (Or.inl rfl) (pe_own G_law_kind_web D_law_kind_web (hr.mono (by decide)) (pa_cons (pv 3) (pa_cons (pe_ix (ix_listK K) (pe_lst (pa_cons pe_int (pa_cons pe_int pa_nil))) (pe_callTy call_intB (by rfl) B.int PyProof.Rows.boot_int (pa_cons (pe_cmpR op_gt (pv 3) pe_int (nomark _)) pa_nil)) (fun _ _=>rfl)) (pa_cons pe_int pa_nil)))))
     (pss_cons (ps_set (i:=5) nd rfl (Or.inr rfl) (pe_own G_law_turn D_law_turn (hr.mono (by decide)) (pa_cons (pv 1) (pa_cons (pe_ix (ix_tupK K) (pv 4) pe_int (fun _ _=>rfl)) pa_nil))))
     (pss_cons (ps_setLC (i:=6) (own:=["_law_one", "_law_other"]) (fr:=[("_law_names",5)]) rfl nd rfl rfl (by with_unfolding_all rfl) (by with_unfolding_all rfl) (frOk_cons rfl rfl frOk_nil) (pi_tupK K (pe_ix (ix_tupK K) (pv 4) pe_int (fun _ _=>rfl))) ⟨fun _ _ _ _=>⟨(pg_tupK K (n:=2) rfl (pgs_cons (pg_name (i:=0) (show List.Nodup (["_law_one", "_law_other", "_law_names"]:List Str) by decide +kernel) rfl (Or.inl rfl)) (pgs_cons (pg_name (i:=1) (show List.Nodup (["_law_one", "_law_other", "_law_names"]:List Str) by decide +kernel) rfl (Or.inl rfl)) pgs_nil))),pts_nil,(pe_tup (pa_cons (pe_callB (call_min2 rfl) (by rfl) B.min PyProof.Rows.boot_min (pa_cons (pe_ix (ix_tupK K) (pv 2) (pv 0) (fun _ _=>rfl)) (pa_cons (pe_ix (ix_tupK K) (pv 2) (pv 1) (fun _ _=>rfl)) pa_nil))) (pa_cons (pe_callB (call_max2 rfl) (by rfl) B.max PyProof.Rows.boot_max (pa_cons (pe_ix (ix_tupK K) (pv 2) (pv 0) (fun _ _=>rfl)) (pa_cons (pe_ix (ix_tupK K) (pv 2) (pv 1) (fun _ _=>rfl)) pa_nil))) pa_nil)))⟩⟩)
     (pss_one (ps_set (i:=4) nd rfl (Or.inl rfl) (pe_tup (pa_cons (pe_ix (ix_tupK K) (pv 4) pe_int (fun _ _=>rfl)) (pa_cons (pe_callTy (tupleK K) (by rfl) B.tuple PyProof.Rows.boot_tuple (pa_cons (pe_callB (sortedTK K) (by rfl) B.sorted PyProof.Rows.boot_sorted (pa_cons (pv 6) pa_nil)) pa_nil)) pa_nil)))))))))
     (pss_one (ps_set (i:=4) nd rfl (Or.inl rfl) (pe_own G_law_web D_law_web (hr.mono (by decide)) (pa_cons (pv 1) (pa_cons (pe_ix (ix_listK K) (pe_lst (pa_cons pe_int (pa_cons pe_int (pa_cons pe_int (pa_cons pe_int pa_nil))))) (pv 2) (fun _ _=>rfl)) (pa_cons pe_int pa_nil)))))))
    (pss_one (ps_ret (pe_own G_law_right D_law_right (hr.mono (by decide)) (pa_cons (pv 4) (pa_cons (pe_own Ggrown Dgrown (hr.mono (by decide)) (pa_cons (pv 4) pa_nil)) pa_nil)))))))),?_⟩
  simp only[L2.start,st0,List.map_cons,List.map_nil,List.length_cons,List.length_nil,List.replicate,List.cons_append,List.nil_append,Nat.reduceAdd,Nat.reduceSub];refine seq_rest (fun σ Hd=>∃ d:Addr,σ=[some (.ref a),some (.ref d),none,none,none,none,none]∧DkAt Hd d∧LamAt Hd tLm lamQ 28 27) (fun R hR=>?_) ?_
  ·walk_at "rd";exact⟨a,700,ns,rfl,hS,hl,by decide,by decide,fun d ds H1 hdl s1 nd1 hd1=>hR _ _ ⟨d,rfl,⟨ds,hd1,hdl⟩,hL.same s1⟩⟩
  rintro σ H1 ⟨d,rfl,dk1,L1⟩;refine seq_rest (fun σ Hd=>∃ z:Int,σ=[some (.ref a),some (.ref d),some (.int (z % 4)),none,none,none,none]∧DkAt Hd d∧LamAt Hd tLm lamQ 28 27) (fun R hR=>?_) ?_
  ·walk_at "rd";exact next_useB dk1 fun z H2 k2 dk2 _ _=>⟨z,rfl,by decide,hR _ _ ⟨z,rfl,dk2,L1.kp k2 dk1⟩⟩
  rintro σ H2 ⟨z,rfl,dk2,L2⟩;refine seq_rest (fun σ Hd=>∃ (w:Addr) (n:Int) (ts:List (Int×Int)) (v3 v5 v6:Option V),σ=[some (.ref a),some (.ref d),some (.int (z % 4)),v3,some (.ref w),v5,v6]∧DkAt Hd d∧LamAt Hd tLm lamQ 28 27∧IsWeb n ts∧WebAt Hd w n ts) (fun R hR=>?_) ?_
  ·walk_at "rd";refine ite2 (fun h=>?_) fun h=>?_
   ·refine⟨by decide,fun p1 np1=>fresh_of np1 fun H3 s3 e3=>next_useB (dk2.same s3) fun z2 H4 k4 dk4 _ _=>⟨z2,rfl,by decide,?_⟩⟩;have ne1:p1≠d:=dk2.ne np1;have L4:=(L2.same s3).kp k4 (dk2.same s3);obtain⟨kind,one,ek,eo,hk⟩:∃ kind one:Int,atI [V.int 1,V.int 4,V.int 5] (z2 % 3)=some (.int kind)∧atI [V.int 60,V.int 30] (if decide (1<kind)=true then 1 else 0)=some (.int one)∧((kind=1∧one=60)∨(kind=4∧one=30)∨(kind=5∧one=30)):=by
     have:z2 % 3=0∨z2 % 3=1∨z2 % 3=2:=by omega
     rcases this with e | e | e<;>rw[e]
     ·exact⟨1,60,rfl,rfl,.inl ⟨rfl,rfl⟩⟩
     ·exact⟨4,30,rfl,rfl,.inr (.inl ⟨rfl,rfl⟩)⟩
     ·exact⟨5,30,rfl,rfl,.inr (.inr ⟨rfl,rfl⟩)⟩
    have hkN:kindN kind one 0=some (.int ((60:Nat):Int)):=by rcases hk with ⟨rfl,rfl⟩ | ⟨rfl,rfl⟩ | ⟨rfl,rfl⟩<;>rfl
    obtain⟨gnd,grn,gln,gah⟩:=kd_ok hk;refine⟨_,SqL.of (k4 _ _ ne1 e3),_,ek,by decide,fun p2 np2=>fresh_of np2 fun H5 s5 e5=>⟨kind,rfl,_,SqL.of e5,_,eo,kind,one,0,60,rfl,hkN,by omega,by omega,by decide,fun w0 q0 H6 s6 nw0 ew0 hq0=>?_⟩⟩;have dk6:=(dk4.same s5).same s6;have L6:=(L4.same s5).same s6;refine⟨w0,rfl,_,SqT.of ew0,_,rfl,turn_use dk6 (by decide) (by decide) fun pn ks H7 k7 dk7 nn hpn hperm=>?_⟩;have L7:=L6.kp k7 dk6;have t67:Tp H6 H7:=k7.tp dk6;obtain⟨ps,hq,hps⟩:=hq0;have hps7:=hps.tp t67;have pl:=hps.len;refine⟨w0,rfl,_,SqT.of (t67 _ _ ew0),_,rfl,q0,rfl,⟨_,SqT.of (t67 _ _ hq)⟩,fun lp nlp=>lc_tup (K:=K) (xs:=ps.map fun x=>V.ref x.1) (inv_kw3 H7 lp pn (kT kind one 60 60) ks) ⟨none,none,[],rfl,(Same.refl H7).upd nlp,upd_same,(fun x hx=>by cases hx),rfl⟩ ?_ ?_ ?_⟩
    ·rintro i τ Hc _ ⟨_,_,_,rfl,sc,_⟩;exact SqT.of (sc _ _ (t67 _ _ hq))
    ·rintro i v τ Hc hx ⟨ov,uv,ps2,rfl,sc,h2,hps2⟩;obtain⟨b,t,rfl,hti,hta⟩:=hps7.get hx;have htm:=List.mem_of_getElem? hti;obtain⟨g0,g1,g2⟩:=grn t htm;have hil:i<(kT kind one 60 60).length:=(List.getElem?_eq_some_iff.mp hti).1;have hpn5:Hc pn=some (.tup (ks.map V.int)):=sc _ _ hpn;have at1:∀ u:Int,0≤u→u<60→atI (ks.map V.int) u=some (V.int (nm ks u)):=fun u u0 u1=>by
      obtain⟨j,rfl⟩:=Int.eq_ofNat_of_zero_le u0;refine atI_nat ?_;have:=nm_at hperm u0 (by exact u1);rw[Int.toNat_natCast] at this;rw[List.getElem?_map,this];rfl
     have a1:=at1 t.1 g0 (by omega);have a2:=at1 t.2 (by omega) g2;walk_at "rd";refine⟨_,SqT.of (sc _ _ hta),rfl,_,_,rfl,_,_,rfl,rfl,_,_,rfl,SqT.of hpn5,_,a1,_,_,rfl,SqT.of hpn5,_,a2,_,_,⟨rfl,rfl⟩,_,_,rfl,SqT.of hpn5,_,a1,_,_,rfl,SqT.of hpn5,_,a2,_,_,⟨rfl,rfl⟩,by decide,fun pq nq=>?_⟩;have hlen2:ps2.length≤200:=by have:=hps2.len;rw[List.length_map,List.length_take] at this;omega
     refine⟨_,at_new h2 nq,by rw[List.length_map];exact sizeBig (by omega),_,_,ps2++[(pq,tl (ren ks t))],rfl,(sc.upd (sc.free nq)).upd nlp,by rw[upd_same,List.map_append];rfl,?_⟩;rw[List.take_succ,hti,List.map_append];refine PsAt.snoc (hps2.tp ((Tp.nw nq).trans (Tp.lst (at_new h2 nq)))) ?_;rw[upd_ne (ne_of_none h2 nq).symm,upd_same];rfl
    ·rintro τ Hc ⟨ov,uv,ps2,rfl,sc,h2,hps2⟩;rw[List.length_map,pl,List.take_length] at hps2;refine⟨w0,rfl,_,SqT.of (sc _ _ (t67 _ _ ew0)),_,rfl,ps2,hps2.src h2,fun ps3 l3 pm3 hs3 nl3=>fresh_of nl3 fun H8 s8 e8=>⟨_,.inl ⟨SqL.of e8,fun l4 nl4=>fresh_of nl4 fun H9 s9 e9=>⟨by decide,fun p5 n5=>fresh_of n5 fun HA sA eA=>?_⟩⟩⟩⟩;obtain⟨ts,pts,hts⟩:=hps2.perm pm3;have sc9:=(s8.trans s9).trans sA;exact hR _ _ ⟨p5,60,ts,_,_,_,rfl,(dk7.same sc).same sc9,(L7.same sc).same sc9,web_ren (by decide) (by decide) gnd grn gln gah hperm pts (hts.srt hs3),l4,eA,ps3,sA _ _ e9,hts.tp sc9.tp⟩
   ·refine⟨by decide,fun p1 np1=>fresh_of np1 fun H3 s3 e3=>?_⟩;obtain⟨lo,elo,b1,b2⟩:∃ lo:Int,atI [V.int 3,V.int 40,V.int 50,V.int 60] (z % 4)=some (.int lo)∧3≤lo∧lo≤60:=by
     have:z % 4=0∨z % 4=1∨z % 4=2∨z % 4=3:=by omega
     rcases this with e | e | e | e<;>rw[e]
     ·exact⟨3,rfl,by decide,by decide⟩
     ·exact⟨40,rfl,by decide,by decide⟩
     ·exact⟨50,rfl,by decide,by decide⟩
     ·exact⟨60,rfl,by decide,by decide⟩
    exact⟨_,SqL.of e3,_,elo,d,lo,60,rfl,dk2.same s3,b1,b2,by decide,fun w0 n ts H4 k4 d4 hn0 hn1 hok hw=>hR _ _ ⟨w0,n,ts,_,_,_,rfl,d4,(L2.same s3).kp k4 (dk2.same s3),hok,hw⟩⟩
  rintro σ H3 ⟨w0,n,ts,v3,v5,v6,rfl,dk3,L3,hok,hw⟩;walk_at "rd";refine⟨w0,n,ts,rfl,hw,hok,L3,fun p po pt k os gs us H5 k5 L5 np5 e5 eo5 et5 G5 un5 pu5 hs5=>?_⟩;exact⟨w0,n,ts,p,po,pt,k,os,gs,us,rfl,hw.tp (L3.tp k5),hok,e5,eo5,et5,G5,un5,pu5,hs5,fun H6 s6=>q H6⟩
end
end K59
end
section
set_option Elab.async false
set_option linter.all false
set_option maxRecDepth 100000
set_option maxHeartbeats 4000000
namespace K59
open PySem L2
def vs (s:String)(t:Tok):Value:=.str (Str.ofString s) t
def vi (i:Int)(t:Tok):Value:=.int i t
def vr (a:Addr):Value:=.ref a
def vn:Value:=.none
def fcp:Tok→Value:=vs "/claim/cut.py"
def de (P:Params)(s:String)(t:Tok)(v:Value):DictEntry:=⟨PyData.keyHash P (Str.ofString s),.str (Str.ofString s) t,v⟩
def ot (a:Array Value)(l:Array (Option Value)):Obj:=⟨.type "tuple",none,.seq a,l⟩
def oc (a:Array Value)(l:Array (Option Value)):Obj:=⟨.type "code",none,.fields a,l⟩
def fo (n:String)(i:Nat)(g:Addr)(cl:List (Str×Addr))(a b c d:Value)(e:Option Addr)(f h:Value)(k:Addr):Obj:=⟨.type "function",none,.func ⟨Str.ofString n,Str.ofString n,defArgs (top i),.stmts (defBody (top i)),defScope (top i),g,cl,a,b,c,d,e,f,h,k⟩,#[]⟩
def heapK:Params→PySem.W.Frag:=fun P=>(nat_lit 2,Obj.mk vn none (Data.dict #[]) #[])::(nat_lit 3,Obj.mk (Value.type "dict") none (Data.dict #[de P "__name__" 165 (vs "law_manyleaves_k59_grown_on_sixty_places" 242),de P "__doc__" 166 vn,de P "__package__" 167 vn,de P "__loader__" 168 (Value.builtin "__main__.__loader__#opaque"),de P "__spec__" 169 vn,de P "__annotations__" 170 (vr 6),de P "__builtins__" 171 (vr 4),de P "__file__" 173 (fcp 172),de P "__cached__" 174 vn,de P "tie_of" 196 (vr 21),de P "neighbour_rows" 202 (vr 26),de P "touched" 208 (vr 31),de P "places_but" 216 (vr 36),de P "beside" 224 (vr 41),de P "next_busy" 235 (vr 48),de P "grown" 241 (vr 53),de P "_law_mixed" 252 (vr 60),de P "_law_deck" 258 (vr 65),de P "_law_next" 265 (vr 72),de P "_law_turn" 271 (vr 77),de P "_law_web" 277 (vr 82),de P "_law_tied" 287 (vr 89),de P "_law_kind_web" 293 (vr 94),de P "_law_near" 299 (vr 99),de P "_law_reach" 311 (vr 106),de P "_law_hang" 319 (vr 113),de P "_law_is_int" 328 (vr 120),de P "_law_is_tree" 334 (vr 125),de P "_law_ready" 340 (vr 130),de P "_law_chosen" 346 (vr 135),de P "_law_right" 352 (vr 140),de P "law" 358 (vr 145)] 32) #[])::(nat_lit 15,ot (#[]) #[])::(nat_lit 17,ot (#[vs "one" 192,vs "other" 193]) #[])::(nat_lit 18,ot (#[]) #[])::(nat_lit 20,oc (#[vs "tie_of" 189,vs "tie_of" 190,fcp 191,vi 2 0,vi 2 0,vi 0 0,vi 0 0,vi 3 0,vr 15,Value.bool true,vi 181 0,vr 16,vn,vr 17,vr 18,vr 19,vi 194 0,vi 2 0,fcp 195]) #[])::(nat_lit 21,fo "tie_of" 1 3 [] vn vn vn (vs "manyleaves.webs" 187) none (vr 20) vn 0)::(nat_lit 22,ot (#[]) #[])::(nat_lit 25,oc (#[vs "neighbour_rows" 197,vs "neighbour_rows" 198,fcp 199,vi 4 0,vi 1 0,vi 0 0,vi 0 0,vi 3 0,vr 22,Value.bool true,vi 181 0,vr 23,vn,vn,vn,vr 24,vi 200 0,vi 4 0,fcp 201]) #[])::(nat_lit 26,fo "neighbour_rows" 2 3 [] vn vn vn (vs "manyleaves.webs" 187) none (vr 25) vn 0)::(nat_lit 27,ot (#[]) #[])::(nat_lit 30,oc (#[vs "touched" 203,vs "touched" 204,fcp 205,vi 11 0,vi 2 0,vi 0 0,vi 0 0,vi 3 0,vr 27,Value.bool true,vi 181 0,vr 28,vn,vn,vn,vr 29,vi 206 0,vi 11 0,fcp 207]) #[])::(nat_lit 31,fo "touched" 3 3 [] vn vn vn (vs "manyleaves.webs" 187) none (vr 30) vn 0)::(nat_lit 32,ot (#[]) #[])::(nat_lit 35,oc (#[vs "places_but" 211,vs "places_but" 212,fcp 213,vi 21 0,vi 2 0,vi 0 0,vi 0 0,vi 3 0,vr 32,Value.bool true,vi 181 0,vr 33,vn,vn,vn,vr 34,vi 214 0,vi 21 0,fcp 215]) #[])::(nat_lit 36,fo "places_but" 5 3 [] vn vn vn (vs "manyleaves.parts" 209) none (vr 35) vn 0)::(nat_lit 37,ot (#[]) #[])::(nat_lit 40,oc (#[vs "beside" 219,vs "beside" 220,fcp 221,vi 25 0,vi 2 0,vi 0 0,vi 0 0,vi 3 0,vr 37,Value.bool true,vi 181 0,vr 38,vn,vn,vn,vr 39,vi 222 0,vi 25 0,fcp 223]) #[])::(nat_lit 41,fo "beside" 7 3 [] vn vn vn (vs "manyleaves.growing" 217) none (vr 40) vn 0)::(nat_lit 42,ot (#[]) #[])::(nat_lit 44,ot (#[vs "rows" 228,vs "border" 229,vs "untouched" 230]) #[])::(nat_lit 45,ot (#[vs "rows" 231,vs "untouched" 232]) #[])::(nat_lit 47,oc (#[vs "next_busy" 225,vs "next_busy" 226,fcp 227,vi 27 0,vi 3 0,vi 0 0,vi 0 0,vi 3 0,vr 42,Value.bool true,vi 181 0,vr 43,vn,vr 44,vr 45,vr 46,vi 233 0,vi 27 0,fcp 234]) #[])::(nat_lit 48,fo "next_busy" 8 3 [] vn vn vn (vs "manyleaves.growing" 217) none (vr 47) vn 0)::(nat_lit 49,ot (#[]) #[])::(nat_lit 52,oc (#[vs "grown" 236,vs "grown" 237,fcp 238,vi 29 0,vi 1 0,vi 0 0,vi 0 0,vi 3 0,vr 49,Value.bool true,vi 181 0,vr 50,vn,vn,vn,vr 51,vi 239 0,vi 29 0,fcp 240]) #[])::(nat_lit 53,fo "grown" 9 3 [] vn vn vn (vs "manyleaves.growing" 217) none (vr 52) vn 0)::(nat_lit 54,ot (#[]) #[])::(nat_lit 56,ot (#[vs "_law_cell" 247,vs "_law_k" 248,vs "_law_number" 249]) #[])::(nat_lit 57,ot (#[]) #[])::(nat_lit 59,oc (#[vs "_law_mixed" 244,vs "_law_mixed" 245,fcp 246,vi 42 0,vi 2 0,vi 0 0,vi 0 0,vi 3 0,vr 54,Value.bool true,vi 181 0,vr 55,vn,vr 56,vr 57,vr 58,vi 250 0,vi 42 0,fcp 251]) #[])::(nat_lit 60,fo "_law_mixed" 11 3 [] vn vn vn (vs "law_manyleaves_k59_grown_on_sixty_places" 242) none (vr 59) vn 0)::(nat_lit 61,ot (#[]) #[])::(nat_lit 64,oc (#[vs "_law_deck" 253,vs "_law_deck" 254,fcp 255,vi 47 0,vi 2 0,vi 0 0,vi 0 0,vi 3 0,vr 61,Value.bool true,vi 181 0,vr 62,vn,vn,vn,vr 63,vi 256 0,vi 47 0,fcp 257]) #[])::(nat_lit 65,fo "_law_deck" 12 3 [] vn vn vn (vs "law_manyleaves_k59_grown_on_sixty_places" 242) none (vr 64) vn 0)::(nat_lit 66,ot (#[]) #[])::(nat_lit 68,ot (#[vs "_law_deck_here" 262]) #[])::(nat_lit 69,ot (#[]) #[])::(nat_lit 71,oc (#[vs "_law_next" 259,vs "_law_next" 260,fcp 261,vi 59 0,vi 1 0,vi 0 0,vi 0 0,vi 3 0,vr 66,Value.bool true,vi 181 0,vr 67,vn,vr 68,vr 69,vr 70,vi 263 0,vi 59 0,fcp 264]) #[])::(nat_lit 72,fo "_law_next" 13 3 [] vn vn vn (vs "law_manyleaves_k59_grown_on_sixty_places" 242) none (vr 71) vn 0)::(nat_lit 73,ot (#[]) #[])::(nat_lit 76,oc (#[vs "_law_turn" 266,vs "_law_turn" 267,fcp 268,vi 63 0,vi 2 0,vi 0 0,vi 0 0,vi 3 0,vr 73,Value.bool true,vi 181 0,vr 74,vn,vn,vn,vr 75,vi 269 0,vi 63 0,fcp 270]) #[])::(nat_lit 77,fo "_law_turn" 14 3 [] vn vn vn (vs "law_manyleaves_k59_grown_on_sixty_places" 242) none (vr 76) vn 0)::(nat_lit 78,ot (#[]) #[])::(nat_lit 81,oc (#[vs "_law_web" 272,vs "_law_web" 273,fcp 274,vi 65 0,vi 3 0,vi 0 0,vi 0 0,vi 3 0,vr 78,Value.bool true,vi 181 0,vr 79,vn,vn,vn,vr 80,vi 275 0,vi 65 0,fcp 276]) #[])::(nat_lit 82,fo "_law_web" 15 3 [] vn vn vn (vs "law_manyleaves_k59_grown_on_sixty_places" 242) none (vr 81) vn 0)::(nat_lit 83,ot (#[]) #[])::(nat_lit 85,ot (#[vs "_law_kind" 281,vs "_law_one" 282,vs "_law_a" 283,vs "_law_b" 284]) #[])::(nat_lit 86,ot (#[]) #[])::(nat_lit 88,oc (#[vs "_law_tied" 278,vs "_law_tied" 279,fcp 280,vi 84 0,vi 4 0,vi 0 0,vi 0 0,vi 3 0,vr 83,Value.bool true,vi 181 0,vr 84,vn,vr 85,vr 86,vr 87,vi 285 0,vi 84 0,fcp 286]) #[])::(nat_lit 89,fo "_law_tied" 16 3 [] vn vn vn (vs "law_manyleaves_k59_grown_on_sixty_places" 242) none (vr 88) vn 0)::(nat_lit 90,ot (#[]) #[])::(nat_lit 93,oc (#[vs "_law_kind_web" 288,vs "_law_kind_web" 289,fcp 290,vi 96 0,vi 3 0,vi 0 0,vi 0 0,vi 3 0,vr 90,Value.bool true,vi 181 0,vr 91,vn,vn,vn,vr 92,vi 291 0,vi 96 0,fcp 292]) #[])::(nat_lit 94,fo "_law_kind_web" 17 3 [] vn vn vn (vs "law_manyleaves_k59_grown_on_sixty_places" 242) none (vr 93) vn 0)::(nat_lit 95,ot (#[]) #[])::(nat_lit 98,oc (#[vs "_law_near" 294,vs "_law_near" 295,fcp 296,vi 102 0,vi 1 0,vi 0 0,vi 0 0,vi 3 0,vr 95,Value.bool true,vi 181 0,vr 96,vn,vn,vn,vr 97,vi 297 0,vi 102 0,fcp 298]) #[])::(nat_lit 99,fo "_law_near" 18 3 [] vn vn vn (vs "law_manyleaves_k59_grown_on_sixty_places" 242) none (vr 98) vn 0)::(nat_lit 100,ot (#[]) #[])::(nat_lit 102,ot (#[vs "_law_near_here" 303,vs "_law_start" 304,vs "_law_allowed" 305,vs "_law_found" 306,vs "_law_waiting" 307,vs "_law_other" 308]) #[])::(nat_lit 103,ot (#[]) #[])::(nat_lit 105,oc (#[vs "_law_reach" 300,vs "_law_reach" 301,fcp 302,vi 108 0,vi 3 0,vi 0 0,vi 0 0,vi 3 0,vr 100,Value.bool true,vi 181 0,vr 101,vn,vr 102,vr 103,vr 104,vi 309 0,vi 108 0,fcp 310]) #[])::(nat_lit 106,fo "_law_reach" 19 3 [] vn vn vn (vs "law_manyleaves_k59_grown_on_sixty_places" 242) none (vr 105) vn 0)::(nat_lit 107,ot (#[]) #[])::(nat_lit 109,ot (#[vs "_law_near_here" 315,vs "_law_places" 316]) #[])::(nat_lit 110,ot (#[]) #[])::(nat_lit 112,oc (#[vs "_law_hang" 312,vs "_law_hang" 313,fcp 314,vi 117 0,vi 2 0,vi 0 0,vi 0 0,vi 3 0,vr 107,Value.bool true,vi 181 0,vr 108,vn,vr 109,vr 110,vr 111,vi 317 0,vi 117 0,fcp 318]) #[])::(nat_lit 113,fo "_law_hang" 20 3 [] vn vn vn (vs "law_manyleaves_k59_grown_on_sixty_places" 242) none (vr 112) vn 0)::(nat_lit 114,ot (#[]) #[])::(nat_lit 116,ot (#[vs "_law_thing" 323,vs "_law_least" 324,vs "_law_most" 325]) #[])::(nat_lit 117,ot (#[]) #[])::(nat_lit 119,oc (#[vs "_law_is_int" 320,vs "_law_is_int" 321,fcp 322,vi 119 0,vi 3 0,vi 0 0,vi 0 0,vi 3 0,vr 114,Value.bool true,vi 181 0,vr 115,vn,vr 116,vr 117,vr 118,vi 326 0,vi 119 0,fcp 327]) #[])::(nat_lit 120,fo "_law_is_int" 21 3 [] vn vn vn (vs "law_manyleaves_k59_grown_on_sixty_places" 242) none (vr 119) vn 0)::(nat_lit 121,ot (#[]) #[])::(nat_lit 124,oc (#[vs "_law_is_tree" 329,vs "_law_is_tree" 330,fcp 331,vi 121 0,vi 2 0,vi 0 0,vi 0 0,vi 3 0,vr 121,Value.bool true,vi 181 0,vr 122,vn,vn,vn,vr 123,vi 332 0,vi 121 0,fcp 333]) #[])::(nat_lit 125,fo "_law_is_tree" 22 3 [] vn vn vn (vs "law_manyleaves_k59_grown_on_sixty_places" 242) none (vr 124) vn 0)::(nat_lit 126,ot (#[]) #[])::(nat_lit 129,oc (#[vs "_law_ready" 335,vs "_law_ready" 336,fcp 337,vi 132 0,vi 3 0,vi 0 0,vi 0 0,vi 3 0,vr 126,Value.bool true,vi 181 0,vr 127,vn,vn,vn,vr 128,vi 338 0,vi 132 0,fcp 339]) #[])::(nat_lit 130,fo "_law_ready" 23 3 [] vn vn vn (vs "law_manyleaves_k59_grown_on_sixty_places" 242) none (vr 129) vn 0)::(nat_lit 131,ot (#[]) #[])::(nat_lit 134,oc (#[vs "_law_chosen" 341,vs "_law_chosen" 342,fcp 343,vi 136 0,vi 4 0,vi 0 0,vi 0 0,vi 3 0,vr 131,Value.bool true,vi 181 0,vr 132,vn,vn,vn,vr 133,vi 344 0,vi 136 0,fcp 345]) #[])::(nat_lit 135,fo "_law_chosen" 24 3 [] vn vn vn (vs "law_manyleaves_k59_grown_on_sixty_places" 242) none (vr 134) vn 0)::(nat_lit 136,ot (#[]) #[])::(nat_lit 139,oc (#[vs "_law_right" 347,vs "_law_right" 348,fcp 349,vi 145 0,vi 2 0,vi 0 0,vi 0 0,vi 3 0,vr 136,Value.bool true,vi 181 0,vr 137,vn,vn,vn,vr 138,vi 350 0,vi 145 0,fcp 351]) #[])::(nat_lit 140,fo "_law_right" 25 3 [] vn vn vn (vs "law_manyleaves_k59_grown_on_sixty_places" 242) none (vr 139) vn 0)::(nat_lit 141,ot (#[]) #[])::(nat_lit 144,oc (#[vs "law" 353,vs "law" 354,fcp 355,vi 165 0,vi 1 0,vi 0 0,vi 0 0,vi 3 0,vr 141,Value.bool true,vi 181 0,vr 142,vn,vn,vn,vr 143,vi 356 0,vi 165 0,fcp 357]) #[])::(nat_lit 145,fo "law" 26 3 [] vn vn vn (vs "law_manyleaves_k59_grown_on_sixty_places" 242) none (vr 144) vn 0)::[]
def viewP:Program:={PySem.Challenge.pw_manyleaves_k59_grown_on_sixty_places with main:={PySem.Challenge.pw_manyleaves_k59_grown_on_sixty_places.main with body:=[top 1,top 2,top 3,top 5,top 7,top 8,top 9,top 11,top 12,top 13,top 14,top 15,top 16,top 17,top 18,top 19,top 20,top 21,top 22,top 23,top 24,top 25,top 26]}}
def addrs:List Addr:=[2,3,15,17,18,20,21,22,25,26,27,30,31,32,35,36,37,40,41,42,44,45,47,48,49,52,53,54,56,57,59,60,61,64,65,66,68,69,71,72,73,76,77,78,81,82,83,85,86,88,89,90,93,94,95,98,99,100,102,103,105,106,107,109,110,112,113,114,116,117,119,120,121,124,125,126,129,130,131,134,135,136,139,140,141,144,145]
theorem addr:∀ P,addrs=(heapK P).map (·.1):=fun _=>by kernel_rfl
theorem all_mk {l:PySem.W.OpenLaw}{w:World}{K:PySem.W.Frag}{h:Heap}{mg:Str→Option Value}{fa f1 f2 f3 f4 f5 f6 f7 f8 f9 f10 f11 f12 f13 f14 f15 f16 f17 f18 f19 f20 f21 f22 f23:Addr}(X:K.In h)(G:h.Ns mainGlobals mg)(hfa:mg "law"=some (.ref fa))
  {od1 an1 od2 an2 od3 an3 od4 an4 od5 an5 od6 an6 od7 an7 od8 an8 od9 an9 od10 an10 od11 an11 od12 an12 od13 an13 od14 an14 od15 an15 od16 an16 od17 an17 od18 an18 od19 an19 od20 an20 od21 an21 od22 an22 od23 an23:Option Addr} {sl1 sl2 sl3 sl4 sl5 sl6 sl7 sl8 sl9 sl10 sl11 sl12 sl13 sl14 sl15 sl16 sl17 sl18 sl19 sl20 sl21 sl22 sl23:Array (Option Value)} {oc1 kV1 dc1 pm1 cd1 ct1 oc2 kV2 dc2 pm2 cd2 ct2 oc3 kV3 dc3 pm3 cd3 ct3 oc4 kV4 dc4 pm4 cd4 ct4 oc5 kV5 dc5 pm5 cd5 ct5 oc6 kV6 dc6 pm6 cd6 ct6 oc7 kV7 dc7 pm7 cd7 ct7 oc8 kV8 dc8 pm8 cd8 ct8 oc9 kV9 dc9 pm9 cd9 ct9 oc10 kV10 dc10 pm10 cd10 ct10 oc11 kV11 dc11 pm11 ct11 oc12 kV12 dc12 pm12 cd12 ct12 oc13 kV13 dc13 pm13 cd13 ct13 oc14 kV14 dc14 pm14 cd14 ct14 oc15 kV15 dc15 pm15 cd15 ct15 oc16 kV16 dc16 pm16 cd16 ct16 oc17 kV17 dc17 pm17 cd17 ct17 oc18 kV18 dc18 pm18 cd18 ct18 oc19 kV19 dc19 pm19 cd19 ct19 oc20 kV20 dc20 pm20 cd20 ct20 oc21 kV21 dc21 pm21 cd21 ct21 oc22 kV22 dc22 pm22 cd22 ct22 oc23 kV23 dc23 pm23 cd23 ct23:Value}
  (a1:PySem.W.nsIn K mainGlobals "_law_mixed"=some (some (.ref f1))) (l1:K.lookup f1=some ⟨oc1,od1,.func (PySem.W.fnOf "_law_mixed" "_law_mixed" (defArgs (top 11)) (defBody (top 11)) (defScope (top 11)) .none kV1 dc1 pm1 an1 cd1 ct1),sl1⟩) (c1:PySem.W.codeIn K cd1 "_law_mixed"=true) (k1:PySem.W.keepIn K (.ref f1)=true)
  (a2:PySem.W.nsIn K mainGlobals "_law_next"=some (some (.ref f2))) (l2:K.lookup f2=some ⟨oc2,od2,.func (PySem.W.fnOf "_law_next" "_law_next" (defArgs (top 13)) (defBody (top 13)) (defScope (top 13)) .none kV2 dc2 pm2 an2 cd2 ct2),sl2⟩) (c2:PySem.W.codeIn K cd2 "_law_next"=true) (k2:PySem.W.keepIn K (.ref f2)=true)
  (a3:PySem.W.nsIn K mainGlobals "_law_deck"=some (some (.ref f3))) (l3:K.lookup f3=some ⟨oc3,od3,.func (PySem.W.fnOf "_law_deck" "_law_deck" (defArgs (top 12)) (defBody (top 12)) (defScope (top 12)) .none kV3 dc3 pm3 an3 cd3 ct3),sl3⟩) (c3:PySem.W.codeIn K cd3 "_law_deck"=true) (k3:PySem.W.keepIn K (.ref f3)=true)
  (a4:PySem.W.nsIn K mainGlobals "_law_turn"=some (some (.ref f4))) (l4:K.lookup f4=some ⟨oc4,od4,.func (PySem.W.fnOf "_law_turn" "_law_turn" (defArgs (top 14)) (defBody (top 14)) (defScope (top 14)) .none kV4 dc4 pm4 an4 cd4 ct4),sl4⟩) (c4:PySem.W.codeIn K cd4 "_law_turn"=true) (k4:PySem.W.keepIn K (.ref f4)=true)
  (a5:PySem.W.nsIn K mainGlobals "_law_web"=some (some (.ref f5))) (l5:K.lookup f5=some ⟨oc5,od5,.func (PySem.W.fnOf "_law_web" "_law_web" (defArgs (top 15)) (defBody (top 15)) (defScope (top 15)) .none kV5 dc5 pm5 an5 cd5 ct5),sl5⟩) (c5:PySem.W.codeIn K cd5 "_law_web"=true) (k5:PySem.W.keepIn K (.ref f5)=true)
  (a6:PySem.W.nsIn K mainGlobals "_law_tied"=some (some (.ref f6))) (l6:K.lookup f6=some ⟨oc6,od6,.func (PySem.W.fnOf "_law_tied" "_law_tied" (defArgs (top 16)) (defBody (top 16)) (defScope (top 16)) .none kV6 dc6 pm6 an6 cd6 ct6),sl6⟩) (c6:PySem.W.codeIn K cd6 "_law_tied"=true) (k6:PySem.W.keepIn K (.ref f6)=true)
  (a7:PySem.W.nsIn K mainGlobals "_law_kind_web"=some (some (.ref f7))) (l7:K.lookup f7=some ⟨oc7,od7,.func (PySem.W.fnOf "_law_kind_web" "_law_kind_web" (defArgs (top 17)) (defBody (top 17)) (defScope (top 17)) .none kV7 dc7 pm7 an7 cd7 ct7),sl7⟩) (c7:PySem.W.codeIn K cd7 "_law_kind_web"=true) (k7:PySem.W.keepIn K (.ref f7)=true)
  (a8:PySem.W.nsIn K mainGlobals "_law_near"=some (some (.ref f8))) (l8:K.lookup f8=some ⟨oc8,od8,.func (PySem.W.fnOf "_law_near" "_law_near" (defArgs (top 18)) (defBody (top 18)) (defScope (top 18)) .none kV8 dc8 pm8 an8 cd8 ct8),sl8⟩) (c8:PySem.W.codeIn K cd8 "_law_near"=true) (k8:PySem.W.keepIn K (.ref f8)=true)
  (a9:PySem.W.nsIn K mainGlobals "neighbour_rows"=some (some (.ref f9))) (l9:K.lookup f9=some ⟨oc9,od9,.func (PySem.W.fnOf "neighbour_rows" "neighbour_rows" (defArgs (top 2)) (defBody (top 2)) (defScope (top 2)) .none kV9 dc9 pm9 an9 cd9 ct9),sl9⟩) (c9:PySem.W.codeIn K cd9 "neighbour_rows"=true) (k9:PySem.W.keepIn K (.ref f9)=true)
  (a10:PySem.W.nsIn K mainGlobals "beside"=some (some (.ref f10))) (l10:K.lookup f10=some ⟨oc10,od10,.func (PySem.W.fnOf "beside" "beside" (defArgs (top 7)) (defBody (top 7)) (defScope (top 7)) .none kV10 dc10 pm10 an10 cd10 ct10),sl10⟩) (c10:PySem.W.codeIn K cd10 "beside"=true) (k10:PySem.W.keepIn K (.ref f10)=true)
  (a11:PySem.W.nsIn K mainGlobals "next_busy"=some (some (.ref f11))) (l11:K.lookup f11=some ⟨oc11,od11,.func (PySem.W.fnOf "next_busy" "next_busy" (defArgs (top 8)) (defBody (top 8)) (defScope (top 8)) .none kV11 dc11 pm11 an11 (.ref cLm) ct11),sl11⟩) (c11:PySem.W.codeIn K (.ref cLm) "next_busy"=true) (k11:PySem.W.keepIn K (.ref f11)=true)
  (a12:PySem.W.nsIn K mainGlobals "tie_of"=some (some (.ref f12))) (l12:K.lookup f12=some ⟨oc12,od12,.func (PySem.W.fnOf "tie_of" "tie_of" (defArgs (top 1)) (defBody (top 1)) (defScope (top 1)) .none kV12 dc12 pm12 an12 cd12 ct12),sl12⟩) (c12:PySem.W.codeIn K cd12 "tie_of"=true) (k12:PySem.W.keepIn K (.ref f12)=true)
  (a13:PySem.W.nsIn K mainGlobals "touched"=some (some (.ref f13))) (l13:K.lookup f13=some ⟨oc13,od13,.func (PySem.W.fnOf "touched" "touched" (defArgs (top 3)) (defBody (top 3)) (defScope (top 3)) .none kV13 dc13 pm13 an13 cd13 ct13),sl13⟩) (c13:PySem.W.codeIn K cd13 "touched"=true) (k13:PySem.W.keepIn K (.ref f13)=true)
  (a14:PySem.W.nsIn K mainGlobals "places_but"=some (some (.ref f14))) (l14:K.lookup f14=some ⟨oc14,od14,.func (PySem.W.fnOf "places_but" "places_but" (defArgs (top 5)) (defBody (top 5)) (defScope (top 5)) .none kV14 dc14 pm14 an14 cd14 ct14),sl14⟩) (c14:PySem.W.codeIn K cd14 "places_but"=true) (k14:PySem.W.keepIn K (.ref f14)=true)
  (a15:PySem.W.nsIn K mainGlobals "grown"=some (some (.ref f15))) (l15:K.lookup f15=some ⟨oc15,od15,.func (PySem.W.fnOf "grown" "grown" (defArgs (top 9)) (defBody (top 9)) (defScope (top 9)) .none kV15 dc15 pm15 an15 cd15 ct15),sl15⟩) (c15:PySem.W.codeIn K cd15 "grown"=true) (k15:PySem.W.keepIn K (.ref f15)=true)
  (a16:PySem.W.nsIn K mainGlobals "_law_reach"=some (some (.ref f16))) (l16:K.lookup f16=some ⟨oc16,od16,.func (PySem.W.fnOf "_law_reach" "_law_reach" (defArgs (top 19)) (defBody (top 19)) (defScope (top 19)) .none kV16 dc16 pm16 an16 cd16 ct16),sl16⟩) (c16:PySem.W.codeIn K cd16 "_law_reach"=true) (k16:PySem.W.keepIn K (.ref f16)=true)
  (a17:PySem.W.nsIn K mainGlobals "_law_hang"=some (some (.ref f17))) (l17:K.lookup f17=some ⟨oc17,od17,.func (PySem.W.fnOf "_law_hang" "_law_hang" (defArgs (top 20)) (defBody (top 20)) (defScope (top 20)) .none kV17 dc17 pm17 an17 cd17 ct17),sl17⟩) (c17:PySem.W.codeIn K cd17 "_law_hang"=true) (k17:PySem.W.keepIn K (.ref f17)=true)
  (a18:PySem.W.nsIn K mainGlobals "_law_is_int"=some (some (.ref f18))) (l18:K.lookup f18=some ⟨oc18,od18,.func (PySem.W.fnOf "_law_is_int" "_law_is_int" (defArgs (top 21)) (defBody (top 21)) (defScope (top 21)) .none kV18 dc18 pm18 an18 cd18 ct18),sl18⟩) (c18:PySem.W.codeIn K cd18 "_law_is_int"=true) (k18:PySem.W.keepIn K (.ref f18)=true)
  (a19:PySem.W.nsIn K mainGlobals "_law_is_tree"=some (some (.ref f19))) (l19:K.lookup f19=some ⟨oc19,od19,.func (PySem.W.fnOf "_law_is_tree" "_law_is_tree" (defArgs (top 22)) (defBody (top 22)) (defScope (top 22)) .none kV19 dc19 pm19 an19 cd19 ct19),sl19⟩) (c19:PySem.W.codeIn K cd19 "_law_is_tree"=true) (k19:PySem.W.keepIn K (.ref f19)=true)
  (a20:PySem.W.nsIn K mainGlobals "_law_ready"=some (some (.ref f20))) (l20:K.lookup f20=some ⟨oc20,od20,.func (PySem.W.fnOf "_law_ready" "_law_ready" (defArgs (top 23)) (defBody (top 23)) (defScope (top 23)) .none kV20 dc20 pm20 an20 cd20 ct20),sl20⟩) (c20:PySem.W.codeIn K cd20 "_law_ready"=true) (k20:PySem.W.keepIn K (.ref f20)=true)
  (a21:PySem.W.nsIn K mainGlobals "_law_chosen"=some (some (.ref f21))) (l21:K.lookup f21=some ⟨oc21,od21,.func (PySem.W.fnOf "_law_chosen" "_law_chosen" (defArgs (top 24)) (defBody (top 24)) (defScope (top 24)) .none kV21 dc21 pm21 an21 cd21 ct21),sl21⟩) (c21:PySem.W.codeIn K cd21 "_law_chosen"=true) (k21:PySem.W.keepIn K (.ref f21)=true)
  (a22:PySem.W.nsIn K mainGlobals "_law_right"=some (some (.ref f22))) (l22:K.lookup f22=some ⟨oc22,od22,.func (PySem.W.fnOf "_law_right" "_law_right" (defArgs (top 25)) (defBody (top 25)) (defScope (top 25)) .none kV22 dc22 pm22 an22 cd22 ct22),sl22⟩) (c22:PySem.W.codeIn K cd22 "_law_right"=true) (k22:PySem.W.keepIn K (.ref f22)=true)
  (a23:PySem.W.nsIn K mainGlobals "law"=some (some (.ref f23))) (l23:K.lookup f23=some ⟨oc23,od23,.func (PySem.W.fnOf "law" "law" (defArgs (top 26)) (defBody (top 26)) (defScope (top 26)) .none kV23 dc23 pm23 an23 cd23 ct23),sl23⟩) (c23:PySem.W.codeIn K cd23 "law"=true) (k23:PySem.W.keepIn K (.ref f23)=true)
  (z1:PySem.W.nsIn K mainGlobals "len"=some none) (z2:PySem.W.nsIn K mainGlobals "range"=some none) (z3:PySem.W.nsIn K mainGlobals "list"=some none) (z4:PySem.W.nsIn K mainGlobals "tuple"=some none) (z5:PySem.W.nsIn K mainGlobals "sorted"=some none) (z6:PySem.W.nsIn K mainGlobals "min"=some none) (z7:PySem.W.nsIn K mainGlobals "max"=some none) (z8:PySem.W.nsIn K mainGlobals "int"=some none) (z9:PySem.W.nsIn K mainGlobals "reversed"=some none) (z10:PySem.W.nsIn K mainGlobals "isinstance"=some none) (z11:PySem.W.nsIn K mainGlobals "bool"=some none) (z12:PySem.W.nsIn K mainGlobals "all"=some none) (z13:PySem.W.nsIn K mainGlobals "set"=some none) (z14:PySem.W.nsIn K mainGlobals "enumerate"=some none) (z15:PySem.W.nsIn K mainGlobals "zip"=some none) :
  ∃ fd:FuncData,(∀ (s:Shared) (v:Value),BindsTo s fd ⟨[v],[]⟩ [("_law_script",v)])∧∀ base:Heap,K.In base→base.Ns mainGlobals mg→PySem.W.CodeHd base cLm tLm→Bm mg base→FnOk l.prog w K mg base CX0 7 fa fd ["_law_script"] (sp_lawT K tLm):=by
 have e:=hfa.symm.trans (PySem.W.mg_of X G a23);cases e;have B:Bt mg:=⟨PySem.W.mg_none_of X G z1,PySem.W.mg_none_of X G z2,PySem.W.mg_none_of X G z3,PySem.W.mg_none_of X G z4,PySem.W.mg_none_of X G z5,PySem.W.mg_none_of X G z6,PySem.W.mg_none_of X G z7,PySem.W.mg_none_of X G z8,PySem.W.mg_none_of X G z9⟩
 have C:Bt2 mg:=⟨PySem.W.mg_none_of X G z10,PySem.W.mg_none_of X G z11,PySem.W.mg_none_of X G z12,PySem.W.mg_none_of X G z13,PySem.W.mg_none_of X G z14,PySem.W.mg_none_of X G z15⟩
 have F1:=fun_mk (st:=top 11) l1 c1 k1;have D1:Df K mg "_law_mixed" (top 11) f1 _ ["_law_cell", "_law_k"]:=⟨F1,F1.binds fun _ _ _ _ _ _ us hl=>L2.al2 (P:=fun us=>bindArgs _ ⟨us,[]⟩=pure (List.zip _ us)) (fun _ _=>rfl) us hl,PySem.W.mg_of X G a1⟩
 have F2:=fun_mk (st:=top 13) l2 c2 k2;have D2:Df K mg "_law_next" (top 13) f2 _ ["_law_deck_here"]:=⟨F2,F2.binds fun _ _ _ _ _ _ us hl=>L2.al1 (P:=fun us=>bindArgs _ ⟨us,[]⟩=pure (List.zip _ us)) (fun _=>rfl) us hl,PySem.W.mg_of X G a2⟩
 have F3:=fun_mk (st:=top 12) l3 c3 k3;have D3:Df K mg "_law_deck" (top 12) f3 _ ["_law_script", "_law_many"]:=⟨F3,F3.binds fun _ _ _ _ _ _ us hl=>L2.al2 (P:=fun us=>bindArgs _ ⟨us,[]⟩=pure (List.zip _ us)) (fun _ _=>rfl) us hl,PySem.W.mg_of X G a3⟩
 have F4:=fun_mk (st:=top 14) l4 c4 k4;have D4:Df K mg "_law_turn" (top 14) f4 _ ["_law_deck_here", "_law_many"]:=⟨F4,F4.binds fun _ _ _ _ _ _ us hl=>L2.al2 (P:=fun us=>bindArgs _ ⟨us,[]⟩=pure (List.zip _ us)) (fun _ _=>rfl) us hl,PySem.W.mg_of X G a4⟩
 have F5:=fun_mk (st:=top 15) l5 c5 k5;have D5:Df K mg "_law_web" (top 15) f5 _ ["_law_deck_here", "_law_least", "_law_most"]:=⟨F5,F5.binds fun _ _ _ _ _ _ us hl=>L2.al3 (P:=fun us=>bindArgs _ ⟨us,[]⟩=pure (List.zip _ us)) (fun _ _ _=>rfl) us hl,PySem.W.mg_of X G a5⟩
 have F6:=fun_mk (st:=top 16) l6 c6 k6;have D6:Df K mg "_law_tied" (top 16) f6 _ ["_law_kind", "_law_one", "_law_a", "_law_b"]:=⟨F6,F6.binds fun _ _ _ _ _ _ us hl=>L2.al4 (P:=fun us=>bindArgs _ ⟨us,[]⟩=pure (List.zip _ us)) (fun _ _ _ _=>rfl) us hl,PySem.W.mg_of X G a6⟩
 have F7:=fun_mk (st:=top 17) l7 c7 k7;have D7:Df K mg "_law_kind_web" (top 17) f7 _ ["_law_kind", "_law_one", "_law_other"]:=⟨F7,F7.binds fun _ _ _ _ _ _ us hl=>L2.al3 (P:=fun us=>bindArgs _ ⟨us,[]⟩=pure (List.zip _ us)) (fun _ _ _=>rfl) us hl,PySem.W.mg_of X G a7⟩
 have F8:=fun_mk (st:=top 18) l8 c8 k8;have D8:Df K mg "_law_near" (top 18) f8 _ ["_law_web_here"]:=⟨F8,F8.binds fun _ _ _ _ _ _ us hl=>L2.al1 (P:=fun us=>bindArgs _ ⟨us,[]⟩=pure (List.zip _ us)) (fun _=>rfl) us hl,PySem.W.mg_of X G a8⟩
 have F9:=fun_mk (st:=top 2) l9 c9 k9;have D9:Df K mg "neighbour_rows" (top 2) f9 _ ["web"]:=⟨F9,F9.binds fun _ _ _ _ _ _ us hl=>L2.al1 (P:=fun us=>bindArgs _ ⟨us,[]⟩=pure (List.zip _ us)) (fun _=>rfl) us hl,PySem.W.mg_of X G a9⟩
 have F10:=fun_mk (st:=top 7) l10 c10 k10;have D10:Df K mg "beside" (top 7) f10 _ ["row", "untouched"]:=⟨F10,F10.binds fun _ _ _ _ _ _ us hl=>L2.al2 (P:=fun us=>bindArgs _ ⟨us,[]⟩=pure (List.zip _ us)) (fun _ _=>rfl) us hl,PySem.W.mg_of X G a10⟩
 have F11:=fun_mk (st:=top 8) l11 c11 k11;have D11:Df K mg "next_busy" (top 8) f11 _ ["rows", "border", "untouched"]:=⟨F11,F11.binds fun _ _ _ _ _ _ us hl=>L2.al3 (P:=fun us=>bindArgs _ ⟨us,[]⟩=pure (List.zip _ us)) (fun _ _ _=>rfl) us hl,PySem.W.mg_of X G a11⟩
 have F12:=fun_mk (st:=top 1) l12 c12 k12;have D12:Df K mg "tie_of" (top 1) f12 _ ["one", "other"]:=⟨F12,F12.binds fun _ _ _ _ _ _ us hl=>L2.al2 (P:=fun us=>bindArgs _ ⟨us,[]⟩=pure (List.zip _ us)) (fun _ _=>rfl) us hl,PySem.W.mg_of X G a12⟩
 have F13:=fun_mk (st:=top 3) l13 c13 k13;have D13:Df K mg "touched" (top 3) f13 _ ["web", "places"]:=⟨F13,F13.binds fun _ _ _ _ _ _ us hl=>L2.al2 (P:=fun us=>bindArgs _ ⟨us,[]⟩=pure (List.zip _ us)) (fun _ _=>rfl) us hl,PySem.W.mg_of X G a13⟩
 have F14:=fun_mk (st:=top 5) l14 c14 k14;have D14:Df K mg "places_but" (top 5) f14 _ ["web", "some"]:=⟨F14,F14.binds fun _ _ _ _ _ _ us hl=>L2.al2 (P:=fun us=>bindArgs _ ⟨us,[]⟩=pure (List.zip _ us)) (fun _ _=>rfl) us hl,PySem.W.mg_of X G a14⟩
 have F15:=fun_mk (st:=top 9) l15 c15 k15;have D15:Df K mg "grown" (top 9) f15 _ ["web"]:=⟨F15,F15.binds fun _ _ _ _ _ _ us hl=>L2.al1 (P:=fun us=>bindArgs _ ⟨us,[]⟩=pure (List.zip _ us)) (fun _=>rfl) us hl,PySem.W.mg_of X G a15⟩
 have F16:=fun_mk (st:=top 19) l16 c16 k16;have D16:Df K mg "_law_reach" (top 19) f16 _ ["_law_near_here", "_law_start", "_law_allowed"]:=⟨F16,F16.binds fun _ _ _ _ _ _ us hl=>L2.al3 (P:=fun us=>bindArgs _ ⟨us,[]⟩=pure (List.zip _ us)) (fun _ _ _=>rfl) us hl,PySem.W.mg_of X G a16⟩
 have F17:=fun_mk (st:=top 20) l17 c17 k17;have D17:Df K mg "_law_hang" (top 20) f17 _ ["_law_near_here", "_law_places"]:=⟨F17,F17.binds fun _ _ _ _ _ _ us hl=>L2.al2 (P:=fun us=>bindArgs _ ⟨us,[]⟩=pure (List.zip _ us)) (fun _ _=>rfl) us hl,PySem.W.mg_of X G a17⟩
 have F18:=fun_mk (st:=top 21) l18 c18 k18;have D18:Df K mg "_law_is_int" (top 21) f18 _ ["_law_thing", "_law_least", "_law_most"]:=⟨F18,F18.binds fun _ _ _ _ _ _ us hl=>L2.al3 (P:=fun us=>bindArgs _ ⟨us,[]⟩=pure (List.zip _ us)) (fun _ _ _=>rfl) us hl,PySem.W.mg_of X G a18⟩
 have F19:=fun_mk (st:=top 22) l19 c19 k19;have D19:Df K mg "_law_is_tree" (top 22) f19 _ ["_law_web_here", "_law_thing"]:=⟨F19,F19.binds fun _ _ _ _ _ _ us hl=>L2.al2 (P:=fun us=>bindArgs _ ⟨us,[]⟩=pure (List.zip _ us)) (fun _ _=>rfl) us hl,PySem.W.mg_of X G a19⟩
 have F20:=fun_mk (st:=top 23) l20 c20 k20;have D20:Df K mg "_law_ready" (top 23) f20 _ ["_law_near_here", "_law_untouched", "_law_busy"]:=⟨F20,F20.binds fun _ _ _ _ _ _ us hl=>L2.al3 (P:=fun us=>bindArgs _ ⟨us,[]⟩=pure (List.zip _ us)) (fun _ _ _=>rfl) us hl,PySem.W.mg_of X G a20⟩
 have F21:=fun_mk (st:=top 24) l21 c21 k21;have D21:Df K mg "_law_chosen" (top 24) f21 _ ["_law_near_here", "_law_untouched", "_law_busy", "_law_place"]:=⟨F21,F21.binds fun _ _ _ _ _ _ us hl=>L2.al4 (P:=fun us=>bindArgs _ ⟨us,[]⟩=pure (List.zip _ us)) (fun _ _ _ _=>rfl) us hl,PySem.W.mg_of X G a21⟩
 have F22:=fun_mk (st:=top 25) l22 c22 k22;have D22:Df K mg "_law_right" (top 25) f22 _ ["_law_web_here", "_law_found"]:=⟨F22,F22.binds fun _ _ _ _ _ _ us hl=>L2.al2 (P:=fun us=>bindArgs _ ⟨us,[]⟩=pure (List.zip _ us)) (fun _ _=>rfl) us hl,PySem.W.mg_of X G a22⟩
 have F23:=fun_mk (st:=top 26) l23 c23 k23;refine⟨PySem.W.fnOf "law" "law" (defArgs (top 26)) (defBody (top 26)) (defScope (top 26)) .none kV23 dc23 pm23 an23 cd23 ct23,fun s v=>.of_eq rfl,fun base _ _ CL BL=>?_⟩;have O1:=ok_mixed (P:=l.prog) (w:=w) (base:=base) F1 B;have O2:=ok_next (P:=l.prog) (w:=w) (base:=base) F2 B;have O3:=ok_deck (P:=l.prog) (w:=w) (base:=base) F3 B D1 O1;have O4:=ok_turn (P:=l.prog) (w:=w) (base:=base) F4 B D2 O2;have O5:=ok_webc (P:=l.prog) (w:=w) (base:=base) F5 B D2 O2 D4 O4;have O6:=ok_ltied (P:=l.prog) (w:=w) (base:=base) F6 B;have O7:=ok_lkweb (P:=l.prog) (w:=w) (base:=base) F7 B D6 O6;have O8:=ok_near (P:=l.prog) (w:=w) (base:=base) F8 B;have O9:=ok_nrows (P:=l.prog) (w:=w) (base:=base) F9 B;have O10:=ok_beside (P:=l.prog) (w:=w) (base:=base) F10 B;have O11:=ok_nbusy (P:=l.prog) (w:=w) (base:=base) l11 c11 CL BL B D10 O10;have O12:=ok_tieof (P:=l.prog) (w:=w) (base:=base) F12 B C;have O13:=ok_touched (P:=l.prog) (w:=w) (base:=base) F13 B D9 O9;have O14:=ok_pbut (P:=l.prog) (w:=w) (base:=base) F14 B;have O15:=ok_grown (P:=l.prog) (w:=w) (base:=base) F15 B D9 O9 D11 O11 D10 O10 D12 O12 D13 O13 D14 O14;have O16:=ok_reach (P:=l.prog) (w:=w) (base:=base) F16 B;have O17:=ok_hang (P:=l.prog) (w:=w) (base:=base) F17 B D16 O16;have O18:=ok_isint (P:=l.prog) (w:=w) (base:=base) F18 B C;have O19:=ok_istree (P:=l.prog) (w:=w) (base:=base) F19 B D18 O18 D8 O8 D17 O17 C;have O20:=ok_lready (P:=l.prog) (w:=w) (base:=base) F20 B;have O21:=ok_lchosen (P:=l.prog) (w:=w) (base:=base) F21 B D20 O20;have O22:=ok_lright58 (P:=l.prog) (w:=w) (base:=base) F22 B D8 O8 D18 O18 D21 O21 D19 O19 C;exact ok_law59 F23 B D3 O3 D2 O2 D4 O4 D7 O7 D5 O5 D15 O15 D22 O22
theorem walk {l:PySem.W.OpenLaw}{q:Program}{loose:List Str}{XP:(Str→Option Value)→Heap→Prop}{YP:World→Heap→Prop}{d:DefRec}{K:Params→PySem.W.Frag}{c tb:Addr}(hn:l.most=some 63)(hdf:d.params.defaults=[])
  (hY:∀ (w:World) (h:Heap),YP w h→(K w.params).In h∧h.get? tb=some (PySem.W.tabObj #[])) (hC:∀ w:World,PySem.W.codeHdIn (K w.params) c tb=true) (hK:∀ w:World,(K w.params).lookup tb=none)
  (F:∀ (w:World) (mg:Str→Option Value) (fa:Addr) (h:Heap),(K w.params).In h→h.Ns mainGlobals mg→mg d.name=some (.ref fa) →
   ∃ fd:FuncData,(∀ (s:Shared) (u:Value),BindsTo s fd ⟨[u],[]⟩ [("_law_script",u)])∧∀ base:Heap,(K w.params).In base→base.Ns mainGlobals mg→PySem.W.CodeHd base c tb→Bm mg base→FnOk l.prog w (K w.params) mg base CX0 7 fa fd ["_law_script"] (sp_lawT (K w.params) tb)) :
  PySem.W.WalkO q loose XP YP l.row.toRowW d [] (fun f vs=>PySem.call f vs) :=
 L2.walk_ofT (n:=63) (k:=7) (x:="_law_script") (c:=c) (tb:=tb) (sp:=fun K=>sp_lawT K tb) hn (by decide) hdf ⟨rfl,by decide,by decide,rfl⟩ hY hC hK F (fun _ _ a ns hl h1 hS=>⟨a,ns,rfl,hS,hl,.inl h1,fun _=>rfl⟩)
end K59
end
open PySem PySem.W PyProof.Rows
set_option maxRecDepth 100000 in
set_option maxHeartbeats 0 in
theorem K59.said:PySem.Challenge.rw_manyleaves_k59_grown_on_sixty_places.wellSaid=true:=by kernel_rfl
set_option maxRecDepth 100000 in
set_option maxHeartbeats 0 in
theorem K59.left:LeftO (OpenRow.toRowW (OpenLaw.row PySem.Challenge.rw_manyleaves_k59_grown_on_sixty_places)).prog K59.viewP [] (fun s=>xlAt K59.viewP [] s && recOk (RowW.records (OpenRow.toRowW (OpenLaw.row PySem.Challenge.rw_manyleaves_k59_grown_on_sixty_places))) s) (Hook.obs (kmHook K59.heapK K59.addrs K59.addr [43])) (Hook.val (kmHook K59.heapK K59.addrs K59.addr [43])) 1478:=by intro w;kernel_rfl
set_option maxRecDepth 100000 in
set_option maxHeartbeats 0 in
theorem PySem.Challenge.cw_manyleaves_k59_grown_on_sixty_places_holds : PySem.Challenge.rw_manyleaves_k59_grown_on_sixty_places.Holds := by
 w_on;refine holds_law K59.said fun said=>?_
 refine holds_open (q:=K59.viewP) (loose:=[]) (Xt:=fun s=>xlAt K59.viewP [] s && recOk (RowW.records (OpenRow.toRowW (OpenLaw.row PySem.Challenge.rw_manyleaves_k59_grown_on_sixty_places))) s) (XP:=XL K59.viewP []) (Yf:=Hook.obs (kmHook K59.heapK K59.addrs K59.addr [43])) (Ya:=Hook.val (kmHook K59.heapK K59.addrs K59.addr [43])) (YP:=Hook.says (kmHook K59.heapK K59.addrs K59.addr [43])) (N:=1478) K59.left (Hook.of (kmHook K59.heapK K59.addrs K59.addr [43])) (Hook.keeps (kmHook K59.heapK K59.addrs K59.addr [43])) (fun s e=>xl_of s (Bool.and_eq_true_iff.mp e).1) XL.keeps (by rfl) (by rfl) (by rfl) (fun s e=>recFacts_of (Bool.and_eq_true_iff.mp e).2) (by rfl) said (by decide +kernel) ⟨rfl,rfl,rfl,rfl,rfl,by decide +kernel⟩ ?hw ?hc
 (case hw=>w_witness2)
 k_fill
 refine K59.walk (K:=K59.heapK) (c:=47) (tb:=43) (l:=PySem.Challenge.rw_manyleaves_k59_grown_on_sixty_places) rfl rfl (fun w h Y=>⟨PySem.W.km_in_of Y,PySem.W.km_tabs_of Y _ (List.mem_singleton.mpr rfl)⟩) (fun w=>by kernel_rfl) (fun w=>by kernel_rfl) ?F
 case F =>
  intro w mg fa h KX G hmg;refine' K59.all_mk KX G hmg ?a1 ?l1 ?c1 ?k1 ?a2 ?l2 ?c2 ?k2 ?a3 ?l3 ?c3 ?k3 ?a4 ?l4 ?c4 ?k4 ?a5 ?l5 ?c5 ?k5 ?a6 ?l6 ?c6 ?k6 ?a7 ?l7 ?c7 ?k7 ?a8 ?l8 ?c8 ?k8 ?a9 ?l9 ?c9 ?k9 ?a10 ?l10 ?c10 ?k10 ?a11 ?l11 ?c11 ?k11 ?a12 ?l12 ?c12 ?k12 ?a13 ?l13 ?c13 ?k13 ?a14 ?l14 ?c14 ?k14 ?a15 ?l15 ?c15 ?k15 ?a16 ?l16 ?c16 ?k16 ?a17 ?l17 ?c17 ?k17 ?a18 ?l18 ?c18 ?k18 ?a19 ?l19 ?c19 ?k19 ?a20 ?l20 ?c20 ?k20 ?a21 ?l21 ?c21 ?k21 ?a22 ?l22 ?c22 ?k22 ?a23 ?l23 ?c23 ?k23 ?z1 ?z2 ?z3 ?z4 ?z5 ?z6 ?z7 ?z8 ?z9 ?z10 ?z11 ?z12 ?z13 ?z14 ?z15
  (case a1=>k_is);(case l1=>k_is);(case c1=>k_is);(case k1=>k_is)
  (case a2=>k_is);(case l2=>k_is);(case c2=>k_is);(case k2=>k_is)
  (case a3=>k_is);(case l3=>k_is);(case c3=>k_is);(case k3=>k_is)
  (case a4=>k_is);(case l4=>k_is);(case c4=>k_is);(case k4=>k_is)
  (case a5=>k_is);(case l5=>k_is);(case c5=>k_is);(case k5=>k_is)
  (case a6=>k_is);(case l6=>k_is);(case c6=>k_is);(case k6=>k_is)
  (case a7=>k_is);(case l7=>k_is);(case c7=>k_is);(case k7=>k_is)
  (case a8=>k_is);(case l8=>k_is);(case c8=>k_is);(case k8=>k_is)
  (case a9=>k_is);(case l9=>k_is);(case c9=>k_is);(case k9=>k_is)
  (case a10=>k_is);(case l10=>k_is);(case c10=>k_is);(case k10=>k_is)
  (case a11=>k_is);(case l11=>k_is);(case c11=>k_is);(case k11=>k_is)
  (case a12=>k_is);(case l12=>k_is);(case c12=>k_is);(case k12=>k_is)
  (case a13=>k_is);(case l13=>k_is);(case c13=>k_is);(case k13=>k_is)
  (case a14=>k_is);(case l14=>k_is);(case c14=>k_is);(case k14=>k_is)
  (case a15=>k_is);(case l15=>k_is);(case c15=>k_is);(case k15=>k_is)
  (case a16=>k_is);(case l16=>k_is);(case c16=>k_is);(case k16=>k_is)
  (case a17=>k_is);(case l17=>k_is);(case c17=>k_is);(case k17=>k_is)
  (case a18=>k_is);(case l18=>k_is);(case c18=>k_is);(case k18=>k_is)
  (case a19=>k_is);(case l19=>k_is);(case c19=>k_is);(case k19=>k_is)
  (case a20=>k_is);(case l20=>k_is);(case c20=>k_is);(case k20=>k_is)
  (case a21=>k_is);(case l21=>k_is);(case c21=>k_is);(case k21=>k_is)
  (case a22=>k_is);(case l22=>k_is);(case c22=>k_is);(case k22=>k_is)
  (case a23=>k_is);(case l23=>k_is);(case c23=>k_is);(case k23=>k_is)
  (case z1=>k_is);(case z2=>k_is);(case z3=>k_is);(case z4=>k_is)
  (case z5=>k_is);(case z6=>k_is);(case z7=>k_is);(case z8=>k_is)
  (case z9=>k_is);(case z10=>k_is);(case z11=>k_is);(case z12=>k_is)
  (case z13=>k_is);(case z14=>k_is);(case z15=>k_is)
