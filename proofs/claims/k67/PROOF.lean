import PyProof.Rows.All
import Wide.All
import OpenK.AllK
import Wide.FinOn
import Lean
import PyProof.EqAt
import PyProof.EqKinds
import PyProof.TupleCall
import PySem.SetOps
import PyProof.SetScanFacts
import PyProof.Rows.SetFrom
import PyProof.SetRoads
import PyProof.WalksMore
import PyProof.EnumMake
import PyProof.EnumFor
import PyProof.P3In
import PyProof.Rows.Range3
import PyProof.ZipIter
import PyProof.TupleKey
import PyProof.DictKinds
import PyProof.Rows.SumAny
import PyProof.Rows.SortRev
import PyProof.Rows.SeqMore
import PyProof.ReprRoads
import PyProof.ReprText
import PyProof.ReprBulk
import PyProof.Rows.AssignMoreSeq
import PyProof.AttrMissSeq
import KE.KDictOf
import PySem.Challenge.RW_manyleaves_k67_bent_trees_apart
set_option Elab.async false
set_option linter.all false
set_option maxRecDepth 100000
set_option maxHeartbeats 8000000
set_option compiler.extract_closed false
section
namespace L2
open PySem PySem.Spec PyProof.Rows
abbrev Key:=Sum Int Str
def keyIs:Key→Value→Bool
 | .inl k,v=>Value.isInt k v
 | .inr x,v=>Value.isStrOf x v
def keyH (w:World):Key→Int
 | .inl k=>hashInt k
 | .inr x=>hashStr w x
theorem keyIs_shape:∀ {k:Key} {v:Value},keyIs k v=true→(∃ i t,k=Sum.inl i∧v=Value.int i t)∨(∃ x t,k=Sum.inr x∧v=Value.str x t)
 | .inl i,v,h=>by
  obtain⟨t,e⟩:=Value.isInt_shape (k:=i) (v:=v) h;exact .inl ⟨i,t,rfl,e⟩
 | .inr x,v,h=>by
  obtain⟨t,e⟩:=Value.isStrOf_shape (x:=x) (v:=v) h;exact .inr ⟨x,t,rfl,e⟩
theorem keyIs_int (i:Int)(t:Tok):keyIs (.inl i) (.int i t)=true:=by simp[keyIs,Value.isInt]
theorem keyIs_str (x:Str)(t:Tok):keyIs (.inr x) (.str x t)=true:=by simp[keyIs,Value.isStrOf]
theorem key_ll (a b:Int):decide ((Sum.inl a:Key)=Sum.inl b)=(a == b):=by
 by_cases e:a=b
 ·subst e;simp
 ·have h:¬ (Sum.inl a:Key)=Sum.inl b:=fun q=>e (Sum.inl.inj q)
  rw[decide_eq_false h];exact (beq_eq_false_iff_ne.mpr e).symm
theorem key_rr (a b:Str):decide ((Sum.inr a:Key)=Sum.inr b)=decide (a=b):=by
 by_cases e:a=b
 ·subst e;simp
 ·have h:¬ (Sum.inr a:Key)=Sum.inr b:=fun q=>e (Sum.inr.inj q)
  rw[decide_eq_false h,decide_eq_false e]
theorem key_lr (a:Int)(b:Str):decide ((Sum.inl a:Key)=Sum.inr b)=false:=decide_eq_false (fun q=>nomatch q)
theorem key_rl (a:Str)(b:Int):decide ((Sum.inr a:Key)=Sum.inl b)=false:=decide_eq_false (fun q=>nomatch q)
def mixKind (prog:Program)(w:World):PySem.KeyKind prog w Key where
 is:=keyIs
 hash:=keyH w
 inj:=fun v a b ha hb=>by
  rcases keyIs_shape ha with ⟨i,t,rfl,rfl⟩ | ⟨x,t,rfl,rfl⟩
  ·rcases keyIs_shape hb with ⟨j,u,rfl,e⟩ | ⟨y,u,rfl,e⟩
   ·injection e with e1 _;rw[e1]
   ·exact nomatch e
  ·rcases keyIs_shape hb with ⟨j,u,rfl,e⟩ | ⟨y,u,rfl,e⟩
   ·exact nomatch e
   ·injection e with e1 _;rw[e1]
 byValue:=fun k v h=>by
  rcases keyIs_shape h with ⟨i,t,rfl,rfl⟩ | ⟨x,t,rfl,rfl⟩<;>rfl
 pyHash:=fun hv h=>by
  rcases keyIs_shape hv with ⟨i,t,rfl,rfl⟩ | ⟨x,t,rfl,rfl⟩
  ·exact wpAny_pyHash_int h
  ·exact wpAny_pyHash_str h
 eqBool:=fun hu hv h=>by
  rcases keyIs_shape hu with ⟨i,t,rfl,rfl⟩ | ⟨x,t,rfl,rfl⟩
  ·rcases keyIs_shape hv with ⟨j,u,rfl,rfl⟩ | ⟨y,u,rfl,rfl⟩
   ·rw[key_ll] at h;exact wpAny_eqBool_int h
   ·rw[key_lr] at h;exact SeqAt.EqAt.int_str i t y u _ _ _ _ h
  ·rcases keyIs_shape hv with ⟨j,u,rfl,rfl⟩ | ⟨y,u,rfl,rfl⟩
   ·rw[key_rl] at h;exact SeqAt.EqAt.str_int x t j u _ _ _ _ h
   ·rw[key_rr] at h;exact wpAny_eqBool_str h
 «strs»:=fun k x t v h=>by
  rcases keyIs_shape h with ⟨i,u,rfl,e⟩ | ⟨y,u,rfl,e⟩
  ·exact nomatch e
  ·injection e with e1 _
   subst e1;cases v<;>rfl
theorem mixKind_int (prog:Program)(w:World)(i:Int)(t:Tok):(mixKind prog w).is (.inl i) (.int i t)=true:=keyIs_int i t
theorem mixKind_str (prog:Program)(w:World)(x:Str)(t:Tok):(mixKind prog w).is (.inr x) (.str x t)=true:=keyIs_str x t
end L2
namespace L2
open PySem PySem.Spec PyProof.Rows
inductive V where
 | non | bl (b:Bool) | int (i:Int) | str (x:Str) | byt (b:Array UInt8) | flt (b:UInt64) | ref (a:Addr) | ty (n:String)
 deriving DecidableEq
def RelV:V→Value→Prop
 | .non,u=>u=Value.none
 | .bl b,u=>u=Value.bool b
 | .int i,u=>∃ t,u=Value.int i t
 | .str x,u=>∃ t,u=Value.str x t
 | .byt b,u=>∃ t,u=Value.bytes b t
 | .flt b,u=>∃ t,u=Value.float b t
 | .ref a,u=>u=Value.ref a
 | .ty n,u=>u=Value.type n
abbrev Vals:List V→List Value→Prop:=Paired RelV
theorem Vals.length {xs:List V}{us:List Value}(r:Vals xs us):xs.length=us.length:=Paired.length r
theorem Vals.get:∀ {xs:List V} {us:List Value} {i:Nat} {x:V},Vals xs us→xs[i]?=some x→∃ u,us[i]?=some u∧RelV x u
 | _,_,_,_,.nil,e=>by simp at e
 | _,_,0,_,.cons r _,e=>by simp at e;subst e;exact⟨_,rfl,r⟩
 | _,_,i+1,x,.cons _ t,e=>by
  obtain⟨u,h1,h2⟩:=Vals.get (i:=i) (x:=x) t (by simpa using e);exact⟨u,by simpa using h1,h2⟩
theorem Vals.set {x:V}{u:Value}(r:RelV x u):∀ {xs:List V} {us:List Value} (i:Nat),Vals xs us→Vals (xs.set i x) (us.set i u)
 | _,_,_,.nil=>.nil
 | _,_,0,.cons _ t=>.cons r t
 | _,_,i+1,.cons q t=>.cons q (Vals.set r i t)
theorem Vals.append:∀ {xs ys:List V} {us ws:List Value},Vals xs us→Vals ys ws→Vals (xs++ys) (us++ws)
 | _,_,_,_,.nil,s=>s
 | _,_,_,_,.cons r t,s=>.cons r (Vals.append t s)
theorem Vals.take:∀ {xs:List V} {us:List Value} (n:Nat),Vals xs us→Vals (xs.take n) (us.take n)
 | _,_,0,_=>.nil
 | _,_,_+1,.nil=>.nil
 | _,_,n+1,.cons r t=>.cons r (Vals.take n t)
theorem Vals.drop:∀ {xs:List V} {us:List Value} (n:Nat),Vals xs us→Vals (xs.drop n) (us.drop n)
 | _,_,0,r=>r
 | _,_,_+1,.nil=>.nil
 | _,_,n+1,.cons _ t=>Vals.drop n t
def RelO:Option V→Option Value→Prop
 | some v,some u=>RelV v u
 | none,none=>True
 | _,_=>False
def KV {κ:Type}:List (κ×V)→List (κ×Value)→Prop:=Paired fun (p:κ×V) (q:κ×Value)=>p.1=q.1∧RelV p.2 q.2
def kV:Key→V
 | .inl i=>.int i
 | .inr x=>.str x
inductive HO where
 /-- a list -/
 | lst (xs:List V)
 /-- a tuple (never changes) -/
 | tup (xs:List V)
 /-- a dict whose keys are ints and texts;one whose keys are tuples of ints and texts (the empty one is both) -/
 | dK (kvs:List (Key×V)) | dT (kvs:List (List Key×V))
 /-- a set of ints: its members,its size -/
 | set (S:Int→Bool) (n:Nat)
 /-- an instance of the class at C,its dict at dx,its attributes -/
 | ins (C dx:Addr) (fs:List (Str×V))
 /-- the dict of the instance at x -/
 | own (x:Addr)
 /-- the dict of an exception -/
 | xd (fs:List (Str×V))
 /-- a bound method,f of x -/
 | met (f x:Addr)
 /-- a range object lo,lo+1,.. below hi -/
 | rng (lo hi:Int)
 /-- a thing that is known to the object (the script;a dict while a loop walks it): read,never written while it is so -/
 | frz (o:Obj) (u:HO)
 /-- a code object's table -/
 | tbl (ps:Array Value)
 /-- any other thing,by what is true of its one object (a def of one's own: SetO a S n:=HO.ext fun h=>..) -/
 | ext (φ:Heap→Prop)
abbrev Hp:=Addr→Option HO
def upd (H:Hp)(a:Addr)(o:HO):Hp:=fun b=>if b=a then some o else H b
theorem upd_same {H:Hp}{a:Addr}{o:HO}:upd H a o a=some o:=by unfold upd;rw[if_pos rfl]
theorem upd_ne {H:Hp}{a b:Addr}{o:HO}(h:b≠a):upd H a o b=H b:=by unfold upd;rw[if_neg h]
theorem upd_upd {H:Hp}{a:Addr}{o u:HO}:upd (upd H a o) a u=upd H a u:=by
 funext b;unfold upd;split<;>rfl
theorem ne_of {H:Hp}{a b:Addr}{o u:HO}(h:H a=some o)(h':H b=some u)(d:o≠u):a≠b:=by
 intro e;subst e;rw[h] at h';exact d (Option.some.inj h')
theorem ne_of_none {H:Hp}{a b:Addr}{o:HO}(h:H a=some o)(h':H b=none):a≠b:=by
 intro e;subst e;rw[h] at h';cases h'
section
variable (P:Program)(w:World)
def ObjOk (H:Hp)(h:Heap)(a:Addr):HO→Prop
 | .lst xs=>xs.length≤sizeLine∧∃ (its:List Value) (n:Nat),Vals xs its∧h.get? a=some {cls:=.type "list",data:=.seq its.toArray n}
 | .tup xs=>xs.length≤sizeLine∧∃ its:List Value,Vals xs its∧IsTup h a its.toArray
 | .dK kvs=>kvs.length≤sizeLine∧(a == sysModules)=false∧∃ vs,KV kvs vs∧h.DictOf (mixKind P w) a vs
 | .dT kvs=>kvs.length≤sizeLine∧(a == sysModules)=false∧∃ xs:List (List Key×Addr×Value),
   Paired (fun (p:List Key×V) (q:List Key×Addr×Value)=>p.1=q.1∧H q.2.1=some (.tup (p.1.map kV))∧RelV p.2 q.2.2) kvs xs ∧
   ∃ o es ep,h.get? a=some o∧o.ExactDict∧o.data=.dict es ep∧es.toList=xs.map (entryOfKey (tupleKind (mixKind P w)))∧(xs.map (·.1)).Nodup
 | .set S n=>h.SetOf (intKind P w) a S n
 | .ins C dx fs=>H dx=some (.own a)∧fs.length≤1000∧dx≠a∧h.get? a=some (PySem.W.instObj C dx) ∧
   ∃ mA,h.Ns1 dx mA∧(∀ f,RelO (fs.lookup f) (mA f))∧PySem.Within mA (fs.map (·.1))
 | .own _=>∃ o,h.get? a=some o
 | .xd fs=>∃ mA,h.Ns1 a mA∧∀ f,RelO (fs.lookup f) (mA f)
 | .rng lo hi=>∃ t u v,h.get? a=some {cls:=.type "range",data:=.fields #[.int lo t,.int hi u,.int 1 v]}
 | .frz o u=>h.get? a=some o∧ObjOk H h a u
 | .tbl ps=>h.get? a=some {cls:=.none,data:=.fields ps}
 | .met f x=>h.get? a=some (PySem.W.methodObj (.ref f) (.ref x))
 | .ext φ=>φ h∧(∃ o,h.get? a=some o)∧∀ h1 h2:Heap,φ h1→(∀ o,h1.get? a=some o→h2.get? a=some o)→φ h2
def HOk (H:Hp)(h:Heap):Prop:=∀ a o,H a=some o→ObjOk P w H h a o
end
section
variable {P:Program}{w:World}{H H':Hp}{h h':Heap}{a:Addr}{o:HO}
theorem ObjOk.lt (x:ObjOk P w H h a o):a<h.objs.size:=by
 cases o with
 | lst xs=>obtain⟨_,_,_,_,e⟩:=x;exact Heap.lt_size e
 | tup xs=>obtain⟨_,_,_,p⟩:=x;exact p.lt
 | dK kvs=>obtain⟨_,_,_,_,o,_,_,e,_⟩:=x;exact Heap.lt_size e
 | dT kvs=>obtain⟨_,_,_,_,o,_,_,e,_⟩:=x;exact Heap.lt_size e
 | set S n=>obtain⟨o,_,_,_,e,_⟩:=x;exact Heap.lt_size e
 | ins C dx fs=>obtain⟨_,_,_,e,_⟩:=x;exact Heap.lt_size e
 | own y=>obtain⟨_,e⟩:=x;exact Heap.lt_size e
 | xd fs=>obtain⟨_,⟨_,_,_,e,_⟩,_⟩:=x;exact Heap.lt_size e
 | rng lo hi=>obtain⟨_,_,_,e⟩:=x;exact Heap.lt_size e
 | frz ob u=>obtain⟨e,_⟩:=x;exact Heap.lt_size e
 | tbl ps=>exact Heap.lt_size (show h.get? a=some _ from x)
 | met f y=>exact Heap.lt_size (show h.get? a=some _ from x)
 | ext φ=>obtain⟨_,⟨_,e⟩,_⟩:=x;exact Heap.lt_size e
theorem Paired.mapP {α β:Type}{F G:α→β→Prop}:∀ {l₁:List α} {l₂:List β},Paired F l₁ l₂→(∀ a b,F a b→G a b)→Paired G l₁ l₂
 | _,_,.nil,_=>.nil
 | _,_,.cons r t,f=>.cons (f _ _ r) (Paired.mapP t f)
theorem ObjOk.stay (x:ObjOk P w H h a o)(k:∀ b u,(b=a∨H b=some (.own a))→h.get? b=some u→h'.get? b=some u)
  (ho:∀ b,H b=some (.own a)→H' b=some (.own a)) (ht:∀ b xs,H b=some (.tup xs)→H' b=some (.tup xs)):ObjOk P w H' h' a o:=by
 induction o with
 | lst xs=>obtain⟨z,its,n,r,e⟩:=x;exact⟨z,its,n,r,k _ _ (.inl rfl) e⟩
 | tup xs=>obtain⟨z,its,r,ob,e,c⟩:=x;exact⟨z,its,r,ob,k _ _ (.inl rfl) e,c⟩
 | dK kvs=>obtain⟨z,y,vs,r,ob,es,ep,e,c⟩:=x;exact⟨z,y,vs,r,ob,es,ep,k _ _ (.inl rfl) e,c⟩
 | dT kvs =>
  obtain⟨z,y,xs,r,ob,es,ep,e,c⟩:=x;exact⟨z,y,xs,Paired.mapP r fun p q z=>⟨z.1,ht _ _ z.2.1,z.2.2⟩,ob,es,ep,k _ _ (.inl rfl) e,c⟩
 | set S n=>obtain⟨ob,es,ep,t,e,c⟩:=x;exact⟨ob,es,ep,t,k _ _ (.inl rfl) e,c⟩
 | ins C dx fs =>
  obtain⟨d,z,ne,e,mA,⟨od,es,ep,e2,c⟩,r⟩:=x;exact⟨ho _ d,z,ne,k _ _ (.inl rfl) e,mA,⟨od,es,ep,k _ _ (.inr d) e2,c⟩,r⟩
 | own y=>obtain⟨ob,e⟩:=x;exact⟨ob,k _ _ (.inl rfl) e⟩
 | xd fs=>obtain⟨mA,⟨od,es,ep,e,c⟩,r⟩:=x;exact⟨mA,⟨od,es,ep,k _ _ (.inl rfl) e,c⟩,r⟩
 | rng lo hi=>obtain⟨t,u,v,e⟩:=x;exact⟨t,u,v,k _ _ (.inl rfl) e⟩
 | frz ob u ih=>obtain⟨e,q⟩:=x;exact⟨k _ _ (.inl rfl) e,ih q⟩
 | tbl ps =>
  have e:h.get? a=some {cls:=.none,data:=.fields ps}:=x;show h'.get? a=some {cls:=.none,data:=.fields ps};exact k a _ (.inl rfl) e
 | met f y =>
  have e:h.get? a=some (PySem.W.methodObj (.ref f) (.ref y)):=x;show h'.get? a=some (PySem.W.methodObj (.ref f) (.ref y));exact k a _ (.inl rfl) e
 | ext φ=>obtain⟨p,⟨o,e⟩,st⟩:=x;exact⟨st _ _ p fun o q=>k _ _ (.inl rfl) q,⟨o,k _ _ (.inl rfl) e⟩,st⟩
theorem HOk.lt (x:HOk P w H h)(e:H a=some o):a<h.objs.size:=(x a o e).lt
theorem HOk.fresh (x:HOk P w H h)(e:h.objs.size≤a):H a=none:=by
 cases q:H a with
 | none=>rfl
 | some u=>exact absurd (Nat.lt_of_lt_of_le (x.lt q) e) (Nat.lt_irrefl _)
theorem HOk.kept (x:HOk P w H h)(k:∀ b u,h.get? b=some u→h'.get? b=some u):HOk P w H h':=fun a o e =>
 (x a o e).stay (fun b u _ q=>k b u q) (fun _ q=>q) fun _ _ q=>q
theorem HOk.laid (x:HOk P w H h)(k:∀ b u,h.get? b=some u→h'.get? b=some u)(hp:h.objs.size≤a)(new:ObjOk P w (upd H a o) h' a o):HOk P w (upd H a o) h':=fun b u e=>by
 have hn:=x.fresh hp;by_cases hb:b=a
 ·subst hb;rw[upd_same] at e;cases e;exact new
 ·rw[upd_ne hb] at e;exact (x b u e).stay (fun c v _ q=>k c v q) (fun c q=>by rw[upd_ne (ne_of_none q hn)];exact q) fun c xs q=>by rw[upd_ne (ne_of_none q hn)];exact q
end
def Rd (H:Hp)(a:Addr)(u:HO):Prop:=H a=some u∨∃ o,H a=some (.frz o u)
theorem Rd.of {H:Hp}{a:Addr}{u:HO}(h:H a=some u):Rd H a u:=.inl h
theorem Rd.ok {P:Program}{w:World}{H:Hp}{h:Heap}{a:Addr}{u:HO}(r:Rd H a u)(x:HOk P w H h):ObjOk P w H h a u:=by
 rcases r with r | ⟨o,r⟩
 ·exact x a u r
 ·obtain⟨_,q⟩:=x a _ r;exact q
def Mut:Option HO→Prop
 | some (.lst _)=>True
 | some (.dK _)=>True
 | some (.dT _)=>True
 | some (.set _ _)=>True
 | some (.ins _ _ _)=>True
 | some (.ext _)=>True
 | _=>False
section
variable {P:Program}{w:World}{H:Hp}{h h':Heap}{x e:Addr}{o':HO}
theorem HOk.write (ok:HOk P w H h)(mu:Mut (H x))(he:e=x∨H e=some (.own x))(k:∀ b u,b≠e→h.get? b=some u→h'.get? b=some u)(heo:∃ u,h'.get? e=some u)
  (new:ObjOk P w (upd H x o') h' x o'):HOk P w (upd H x o') h':=fun b u q=>by
 have nown:∀ c y,H c=some (.own y)→c≠x:=fun c y r z=>by subst z;rw[r] at mu;exact mu
 have ntup:∀ c xs,H c=some (.tup xs)→c≠x:=fun c xs r z=>by subst z;rw[r] at mu;exact mu
 by_cases hb:b=x
 ·subst hb;rw[upd_same] at q;cases q;exact new
 ·rw[upd_ne hb] at q;by_cases hbe:b=e
  ·have q':H b=some (.own x):=by
    rcases he with z | z
    ·exact absurd (hbe.trans z) hb
    ·rw[hbe];exact z
   rw[q] at q';cases q';obtain⟨v,hv⟩:=heo;exact⟨v,by rw[hbe];exact hv⟩
  ·refine (ok b u q).stay (fun c v hc r=>k c v ?_ r) (fun c r=>by rw[upd_ne (nown c b r)];exact r) fun c xs r=>by rw[upd_ne (ntup c xs r)];exact r
   rcases hc with rfl | hc
   ·exact hbe
   ·rintro rfl;rcases he with z | z
    ·exact nown c b hc z
    ·rw[hc] at z;cases z;exact hb rfl
end
structure Un (fs ex:List Addr)(H H':Hp)(h h':Heap):Prop where
 keep:∀ b o,h.get? b=some o→H b=none→b∉fs→b∉ex→h'.get? b=some o
 slot:∀ b o,h.get? b=some o→H b=none→b∈fs→b∉ex→∃ sl,h'.get? b=some {o with slots:=sl}
 free:∀ b o,h.get? b=some o→H b=none→b∉ex→H' b=none
 there:∀ b o,h.get? b=some o→b∉ex→∃ o',h'.get? b=some o'
 tups:∀ b xs,H b=some (.tup xs)→H' b=some (.tup xs)
 frzs:∀ b o u,H b=some (.frz o u)→H' b=some (.frz o u)
 tbls:∀ b ps,H b=some (.tbl ps)→∃ more,H' b=some (.tbl (ps++more))
section
variable {fs fs' ex ex':List Addr}{H H1 H2:Hp}{h h1 h2 h':Heap}{a x e:Addr}{o:HO}
theorem Un.any (u:Un fs ex H H1 h h1){b:Addr}{ob:Obj}(q:h.get? b=some ob)(n:H b=none)(hx:b∉ex):∃ sl,h1.get? b=some {ob with slots:=sl}:=by
 by_cases hb:b∈fs
 ·exact u.slot b ob q n hb hx
 ·exact⟨ob.slots,u.keep b ob q n hb hx⟩
theorem Un.trans (a:Un fs ex H H1 h h1)(b:Un fs ex H1 H2 h1 h2):Un fs ex H H2 h h2 where
 keep:=fun c ob q n hc hx=>b.keep c ob (a.keep c ob q n hc hx) (a.free c ob q n hx) hc hx
 slot:=fun c ob q n hc hx=>by
  obtain⟨sl,e1⟩:=a.slot c ob q n hc hx;obtain⟨sl',e2⟩:=b.slot c _ e1 (a.free c ob q n hx) hc hx;exact⟨sl',e2⟩
 free:=fun c ob q n hx=>by
  obtain⟨o',e1⟩:=a.there c ob q hx;exact b.free c o' e1 (a.free c ob q n hx) hx
 there:=fun c ob q hx=>by
  obtain⟨o',e1⟩:=a.there c ob q hx;exact b.there c o' e1 hx
 tups:=fun c xs q=>b.tups c xs (a.tups c xs q)
 frzs:=fun c ob xs q=>b.frzs c ob xs (a.frzs c ob xs q)
 tbls:=fun c ps q=>by
  obtain⟨m1,e1⟩:=a.tbls c ps q;obtain⟨m2,e2⟩:=b.tbls c _ e1;exact⟨m1++m2,by rw[e2,Array.append_assoc]⟩
theorem Un.kept (k:∀ b u,h.get? b=some u→h'.get? b=some u):Un fs ex H H h h' :=
 ⟨fun b ob q _ _ _=>k b ob q,fun b ob q _ _ _=>⟨ob.slots,k b ob q⟩,fun _ _ _ n _=>n,fun b ob q _=>⟨ob,k b ob q⟩,fun _ _ q=>q,fun _ _ _ q=>q,fun _ ps q=>⟨#[],by rw[q];simp⟩⟩
theorem Un.refl:Un fs ex H H h h:=Un.kept fun _ _ q=>q
theorem Un.laid (k:∀ b u,h.get? b=some u→h'.get? b=some u)(hp:h.objs.size≤a)(hn:H a=none):Un fs ex H (upd H a o) h h' where
 keep:=fun b u q _ _ _=>k b u q
 slot:=fun b u q _ _ _=>⟨u.slots,k b u q⟩
 free:=fun b u q n _=>by rw[upd_ne (Nat.ne_of_lt (Nat.lt_of_lt_of_le (Heap.lt_size q) hp))];exact n
 there:=fun b u q _=>⟨u,k b u q⟩
 tups:=fun b xs q=>by rw[upd_ne (ne_of_none q hn)];exact q
 frzs:=fun b u xs q=>by rw[upd_ne (ne_of_none q hn)];exact q
 tbls:=fun b ps q=>⟨#[],by rw[upd_ne (ne_of_none q hn),q];simp⟩
theorem Un.write (mu:Mut (H x))(he:e=x∨H e=some (.own x))(k:∀ b u,b≠e→h.get? b=some u→h'.get? b=some u)(heo:∃ u,h'.get? e=some u):Un fs ex H (upd H x o) h h':=by
 have hx:∀ b,H b=none→b≠x:=fun b n z=>by subst z;rw[n] at mu;exact mu
 have hb:∀ b,H b=none→b≠e:=fun b n z=>by
  subst z;rcases he with r | r
  ·exact hx b n r
  ·rw[n] at r;cases r
 have hm:∀ b u,H b=some u→¬ Mut (some u)→b≠x:=fun b u q nm z=>by subst z;rw[q] at mu;exact nm mu
 refine⟨fun b u q n _ _=>k b u (hb b n) q,fun b u q n _ _=>⟨u.slots,k b u (hb b n) q⟩,fun b u q n _=>by rw[upd_ne (hx b n)];exact n,fun b u q _=>?_,
  fun b xs q=>by rw[upd_ne (hm b _ q fun z=>z)];exact q,fun b u xs q=>by rw[upd_ne (hm b _ q fun z=>z)];exact q,fun b ps q=>⟨#[],by rw[upd_ne (hm b _ q fun z=>z),q];simp⟩⟩
 by_cases hbe:b=e
 ·subst hbe;exact heo
 ·exact⟨u,k b u hbe q⟩
theorem Un.mono (u:Un fs ex H H1 h h1)(hs:∀ b∈fs,b∈fs')(hx:∀ b∈ex,b∈ex'):Un fs' ex' H H1 h h1 :=
 ⟨fun b ob q n hb he=>u.keep b ob q n (fun z=>hb (hs b z)) fun z=>he (hx b z),fun _ _ q n _ he=>u.any q n fun z=>he (hx _ z),fun b ob q n he=>u.free b ob q n fun z=>he (hx b z),fun b ob q he=>u.there b ob q fun z=>he (hx b z),u.tups,u.frzs,u.tbls⟩
end
def trk (h:Heap)(H:Hp):List Addr:=(List.range h.objs.size).filter fun a=>(H a).isSome
def hidT (h:Heap)(H:Hp):Heap:=PySem.W.hideAll h (trk h H)
theorem hidT_size (h:Heap)(H:Hp):(hidT h H).objs.size=h.objs.size:=PySem.W.hideAll_size _ _
theorem hidT_get {h:Heap}{H:Hp}{b:Addr}{o:Obj}(e:h.get? b=some o)(n:H b=none):(hidT h H).get? b=some o :=
 PySem.W.hideAll_get _ e fun hm=>by
  have q:(H b).isSome=true:=(List.mem_filter.mp hm).2;rw[n] at q;simp at q
theorem of_hidT {h:Heap}{H:Hp}{b:Addr}{o:Obj}(e:(hidT h H).get? b=some o):h.get? b=some o∧H b=none:=by
 have e':h.get? b=some o:=PySem.W.of_hideAll (trk h H) e;refine⟨e',?_⟩;cases q:H b with
 | none=>rfl
 | some x =>
  have hm:b∈trk h H:=List.mem_filter.mpr ⟨List.mem_range.mpr (Heap.lt_size e'),by simp[q]⟩;have z:(hidT h H).get? b=none:=PySem.W.hideAll_none (trk h H) hm;rw[z] at e;cases e
def allNews (g h:Heap)(L:Addr):List (Addr×Obj):=(List.range h.objs.size).filterMap fun a=>if a=L∨(g.get? a).isSome=true then none else (h.get? a).map fun o=>(a,o)
def rest (g h:Heap)(L d:Addr):List (Addr×Obj):=(allNews g h L).filter fun p=>decide (p.1≠d)
end L2
namespace L2
open PySem PySem.Spec PyProof.Rows
structure Mod (K:PySem.W.Frag)(mg:Str→Option Value)(base:Heap):Prop where
 kin:K.In base
 glob:base.Ns mainGlobals mg
 blt:∃ mb,base.Ns builtinsNs mb∧∀ x:Str,x≠"__name__"→mb x=bootBuiltins x
 nolimit:base.NoLimit
structure Cx where
 prog:Program
 w:World
 K:PySem.W.Frag
 mg:Str→Option Value
 base:Heap
 A:Around
 N:List Str
 s₀:Shared
 H₀:Hp
 env:Env
 outer:List Env
 stack:List Env
 ex:List Addr
 fn:Str→Bool
 calm:Bool
 pn:List (Addr×Obj)
 xe:Value→Shared→Prop
def frs (l:List Env):List Addr:=l.filterMap (·.frame)
abbrev Cx.fs (X:Cx):List Addr:=frs X.outer
def Vis (sc:Scope)(x:Str):Prop:=sc.names.lookup x=some .local∨sc.names.lookup x=some .cell∨sc.names.lookup x=some .free
def Loc (sc:Scope)(x:Str):Prop:=sc.names.lookup x=some .local∨sc.names.lookup x=some .cell
def Look (env:Env)(h:Heap)(m:Str→Option Value)(x:Str)(u:Value):Prop :=
 (env.kindOf x=some .local∧m x=some u)∨((env.kindOf x=some .cell∨env.kindOf x=some .free)∧∃ c,env.cells.lookup x=some c∧h.IsCell c (some u))
structure Cx.Ok (X:Cx):Prop where
 mod:Mod X.K X.mg X.base
 kind:X.env.scope.kind=.function
 glob:X.env.globals=mainGlobals
 blt:X.env.builtins=builtinsNs
 above:X.s₀.heap.objs.size≤X.env.locals
 inj:∀ x y c,X.env.cells.lookup x=some c→X.env.cells.lookup y=some c→x=y
 has:∀ x,(X.env.kindOf x=some .cell∨X.env.kindOf x=some .free)→∃ c,X.env.cells.lookup x=some c
 cab:∀ x c,X.fn x=true→X.env.cells.lookup x=some c→X.s₀.heap.objs.size≤c
 hd:X.calm=true→X.A.handled=none
 frames:X.A.frames=some X.stack
 stk:X.stack=X.outer∨(X.stack=X.env::X.outer∧X.env.frame=some X.env.locals)
 exf:∀ b∈X.ex,b≠X.env.locals∧∀ x c,X.env.cells.lookup x=some c→c≠b
 bs:∀ b o,X.base.get? b=some o→X.s₀.heap.get? b=some o∧X.H₀ b=none
 bsz:X.base.objs.size≤X.s₀.heap.objs.size
 noex:∀ b o,X.base.get? b=some o→b∉X.ex
 exfs:∀ b∈X.ex,b∉X.fs
 funs:X.s₀.heap.FunFrames X.base X.outer
 frf:∀ b∈X.fs,X.H₀ b=none
structure Inv (X:Cx)(pins:List (Addr×Obj))(σ:List (Option V))(H:Hp)(s:Shared):Prop where
 ok:X.Ok
 os:s.os=X.s₀.os
 bare:AllBare s.gens
 base:Un X.fs X.ex X.H₀ H X.s₀.heap s.heap
 loc:∃ m,s.heap.Ns X.env.locals m∧∀ (i:Nat) (x:Str) (v:V),X.N[i]?=some x→σ[i]?=some (some v)→Vis X.env.scope x→∃ u,RelV v u∧Look X.env s.heap m x u
 cell:∀ x c,X.env.cells.lookup x=some c→∃ v,s.heap.IsCell c v
 free:H X.env.locals=none
 freeC:∀ x c,X.env.cells.lookup x=some c→H c=none
 pin:∀ p∈X.pn++pins,s.heap.get? p.1=some p.2∧H p.1=none∧p.1≠X.env.locals∧p.1∉X.fs∧∀ v,p.2.data≠.cell v
 hok:HOk X.prog X.w H s.heap
 len:σ.length=X.N.length
section
variable {X:Cx}{pins:List (Addr×Obj)}{σ:List (Option V)}{H H':Hp}{s:Shared}{h':Heap}
theorem Cx.Ok.nofr (ok:X.Ok){b:Addr}{o:Obj}(e:X.base.get? b=some o):b∉X.fs:=fun hb=>by
 have:=(ok.funs.mem hb).1;rw[e] at this;cases this
theorem Inv.bs (I:Inv X pins σ H s):∀ b o,X.base.get? b=some o→s.heap.get? b=some o∧H b=none:=fun b o e =>
 ⟨I.base.keep b o (I.ok.bs b o e).1 (I.ok.bs b o e).2 (I.ok.nofr e) (I.ok.noex b o e),I.base.free b o (I.ok.bs b o e).1 (I.ok.bs b o e).2 (I.ok.noex b o e)⟩
theorem Inv.bk (I:Inv X pins σ H s):∀ b o,X.base.get? b=some o→s.heap.get? b=some o:=fun b o e=>(I.bs b o e).1
theorem Inv.mod (I:Inv X pins σ H s):Mod X.K X.mg X.base:=I.ok.mod
theorem Inv.kIn (I:Inv X pins σ H s):X.K.In s.heap:=I.ok.mod.kin.keeps I.bk
theorem Inv.nolimit (I:Inv X pins σ H s):s.heap.NoLimit:=I.ok.mod.nolimit.keeps I.bk
theorem Inv.lt (I:Inv X pins σ H s):X.env.locals<s.heap.objs.size:=let ⟨_,hn,_⟩:=I.loc;hn.lt
theorem Inv.sz (I:Inv X pins σ H s):X.s₀.heap.objs.size≤s.heap.objs.size:=Nat.le_trans I.ok.above (Nat.le_of_lt I.lt)
theorem Inv.nofs (I:Inv X pins σ H s){a:Addr}(h:s.heap.objs.size≤a):a∉X.fs:=fun hb=>by
 obtain⟨_,o,ho,_⟩:=I.ok.funs.mem hb;exact absurd (Nat.lt_of_lt_of_le (Heap.lt_size ho) (Nat.le_trans I.sz h)) (Nat.lt_irrefl _)
theorem Inv.cne (I:Inv X pins σ H s):∀ x c,X.env.cells.lookup x=some c→c≠X.env.locals:=fun x c e z=>by
 obtain⟨v,o,ho,hd⟩:=I.cell x c e;obtain⟨m,⟨o',es,ep,ho',hd',_⟩,_⟩:=I.loc;rw[z,ho'] at ho;cases ho;rw[hd'] at hd;cases hd
theorem Inv.funs (I:Inv X pins σ H s):s.heap.FunFrames X.base X.outer:=by
 have all:∀ (l:List Env),(∀ b∈frs l,b∈X.fs)→X.s₀.heap.FunFrames X.base l→s.heap.FunFrames X.base l:=by
  intro l;induction l with
  | nil=>intro _ _;trivial
  | cons env r ih =>
   intro hs hl;obtain⟨hk,⟨L,o,hf,hn,ho,hd⟩,hr⟩:=hl;have hL:L∈X.fs:=hs L (by unfold frs;rw[List.filterMap_cons,hf];exact List.mem_cons_self);obtain⟨sl,e⟩:=I.base.slot L o ho (I.ok.frf L hL) hL fun z=>I.ok.exfs L z hL
   exact⟨hk,⟨L,_,hf,hn,e,hd⟩,ih (fun b hb=>hs b (by unfold frs;rw[List.filterMap_cons,hf];exact List.mem_cons_of_mem _ hb)) hr⟩
 exact all X.outer (fun _ hb=>hb) I.ok.funs
theorem Inv.stack (I:Inv X pins σ H s):s.heap.FunFrames X.base X.stack:=by
 rcases I.ok.stk with e | ⟨e,hf⟩
 ·rw[e];exact I.funs
 ·rw[e];obtain⟨m,hn,_⟩:=I.loc;refine .cons (by rw[I.ok.kind];decide) hf hn ?_ I.funs;exact Heap.get?_none_of_le (Nat.le_trans I.ok.bsz I.ok.above)
theorem Inv.stkSub (I:Inv X pins σ H s):∀ b∈frs X.stack,b∈X.env.locals::X.fs:=fun b hb=>by
 rcases I.ok.stk with e | ⟨e,hf⟩
 ·rw[e] at hb;exact List.mem_cons_of_mem _ hb
 ·rw[e] at hb;unfold frs at hb;rw[List.filterMap_cons,hf] at hb;exact hb
theorem Inv.stkFree (I:Inv X pins σ H s):∀ b∈frs X.stack,H b=none:=fun b hb=>by
 rcases List.mem_cons.mp (I.stkSub b hb) with e | hb
 ·rw[e];exact I.free
 ·obtain⟨_,o,ho,_⟩:=I.ok.funs.mem hb;exact I.base.free b o ho (I.ok.frf b hb) fun z=>I.ok.exfs b z hb
theorem Inv.step {g':Array GenState}{t':Nat}{d':Drawn}{ch:List Addr}(I:Inv X pins σ H s)
  (hch:∀ b∈ch,(b∈X.ex∨X.s₀.heap.objs.size≤b)∧b≠X.env.locals∧(∀ x c,X.env.cells.lookup x=some c→c≠b)∧∀ p∈X.pn++pins,p.1≠b)
  (keep:∀ b o,b≠X.env.locals→b∉X.fs→b∉ch→s.heap.get? b=some o→H b=none→h'.get? b=some o)
  (slot:∀ b o,b≠X.env.locals→b∈X.fs→b∉ch→s.heap.get? b=some o→H b=none→∃ sl,h'.get? b=some {o with slots:=sl}) (free:∀ b o,b∉ch→s.heap.get? b=some o→H b=none→H' b=none)
  (there:∀ b o,b∉ch→s.heap.get? b=some o→∃ o',h'.get? b=some o')
  (tups:∀ b xs,H b=some (.tup xs)→H' b=some (.tup xs)) (frzs:∀ b o u,H b=some (.frz o u)→H' b=some (.frz o u)) (tbls:∀ b ps,H b=some (.tbl ps)→∃ more,H' b=some (.tbl (ps++more)))
  (ns:∀ m,s.heap.Ns X.env.locals m→h'.Ns X.env.locals m) (hok:HOk X.prog X.w H' h') (hg:AllBare g') :
  Inv X pins σ H' {s with heap:=h',gens:=g',drawn:=d',toks:=t'}:=by
 have neL:∀ b o,X.s₀.heap.get? b=some o→b≠X.env.locals:=fun b o e=>Nat.ne_of_lt (Nat.lt_of_lt_of_le (Heap.lt_size e) I.ok.above)
 have neC:∀ b o,X.s₀.heap.get? b=some o→b∉X.ex→b∉ch:=fun b o e hx hb=>by
  rcases (hch b hb).1 with z | z
  ·exact hx z
  ·exact absurd (Nat.lt_of_lt_of_le (Heap.lt_size e) z) (Nat.lt_irrefl _)
 have cellK:∀ x c,X.env.cells.lookup x=some c→∀ v,s.heap.IsCell c v→h'.IsCell c v:=fun x c e v ⟨o,ho,hd⟩=>by
  have nch:c∉ch:=fun z=>(hch c z).2.2.1 x c e rfl
  by_cases hc:c∈X.fs
  ·obtain⟨sl,q⟩:=slot c o (I.cne x c e) hc nch ho (I.freeC x c e);exact⟨_,q,hd⟩
  ·exact⟨o,keep c o (I.cne x c e) hc nch ho (I.freeC x c e),hd⟩
 refine⟨I.ok,I.os,hg,⟨fun b o e n hb hx=>?_,fun b o e n hb hx=>?_,fun b o e n hx=>?_,fun b o e hx=>?_,fun b xs e=>tups b xs (I.base.tups b xs e),fun b o xs e=>frzs b o xs (I.base.frzs b o xs e),fun b ps e=>?_⟩,?_,fun x c e=>?_,?_,fun x c e=>?_,fun p hp=>?_,hok,I.len⟩
 ·exact keep b o (neL b o e) hb (neC b o e hx) (I.base.keep b o e n hb hx) (I.base.free b o e n hx)
 ·obtain⟨sl,e1⟩:=I.base.slot b o e n hb hx;obtain⟨sl',e2⟩:=slot b _ (neL b o e) hb (neC b o e hx) e1 (I.base.free b o e n hx);exact⟨sl',e2⟩
 ·obtain⟨o',e1⟩:=I.base.there b o e hx;exact free b o' (neC b o e hx) e1 (I.base.free b o e n hx)
 ·obtain⟨o',e1⟩:=I.base.there b o e hx;exact there b o' (neC b o e hx) e1
 ·obtain⟨m1,e1⟩:=I.base.tbls b ps e;obtain⟨m2,e2⟩:=tbls b _ e1;exact⟨m1++m2,by rw[e2,Array.append_assoc]⟩
 ·obtain⟨m,hn,hl⟩:=I.loc;refine⟨m,ns m hn,fun i x v e1 e2 e3=>?_⟩;obtain⟨u,r,l⟩:=hl i x v e1 e2 e3;refine⟨u,r,?_⟩;rcases l with l | ⟨k,c,e,z⟩
  ·exact .inl l
  ·exact .inr ⟨k,c,e,cellK x c e _ z⟩
 ·obtain⟨v,z⟩:=I.cell x c e;exact⟨v,cellK x c e v z⟩
 ·obtain⟨m,⟨o,_,_,ho,_⟩,_⟩:=I.loc;exact free _ o (fun z=>(hch _ z).2.1 rfl) ho I.free
 ·obtain⟨v,o,ho,hd⟩:=I.cell x c e;exact free c o (fun z=>(hch c z).2.2.1 x c e rfl) ho (I.freeC x c e)
 ·obtain⟨e,n,ne,nf,d⟩:=I.pin p hp;have nch:p.1∉ch:=fun z=>(hch p.1 z).2.2.2 p hp rfl
  exact⟨keep p.1 p.2 ne nf nch e n,free p.1 p.2 nch e n,ne,nf,d⟩
theorem Inv.un {t':Nat}(I:Inv X pins σ H s)(u:Un X.fs [] H H' s.heap h')(hok:HOk X.prog X.w H' h'):Inv X pins σ H' {s with heap:=h',toks:=t'}:=by
 obtain⟨m,⟨o,es,ep,ho,r⟩,_⟩:=id I.loc;obtain⟨sl,hL⟩:=u.any ho I.free (by simp)
 exact I.step (g':=s.gens) (d':=s.drawn) (ch:=[]) (fun _ z=>nomatch z) (fun b o _ hb _ e n=>u.keep b o e n hb (by simp)) (fun b o _ hb _ e n=>u.slot b o e n hb (by simp)) (fun b o _ e n=>u.free b o e n (by simp)) (fun b o _ e=>u.there b o e (by simp)) u.tups u.frzs u.tbls (fun m' hm=>by
  obtain⟨o',es',ep',ho',r'⟩:=hm;rw[ho] at ho';cases ho'
  exact⟨_,es',ep',hL,r'⟩) hok I.bare
theorem Inv.call {g':Array GenState}{t':Nat}{d':Drawn}{ch:List Addr}(I:Inv X pins σ H s)(u:Un (frs X.stack) ch H H' s.heap h')(hok:HOk X.prog X.w H' h')(hg:AllBare g')
  (hch:∀ b∈ch,(b∈X.ex∨X.s₀.heap.objs.size≤b)∧b≠X.env.locals∧(∀ x c,X.env.cells.lookup x=some c→c≠b)∧∀ p∈X.pn++pins,p.1≠b) :
  Inv X pins σ H' {s with heap:=h',gens:=g',drawn:=d',toks:=t'}:=by
 obtain⟨m,⟨o,es,ep,ho,r⟩,_⟩:=id I.loc;obtain⟨sl,hL⟩:=u.any ho I.free fun z=>(hch _ z).2.1 rfl
 exact I.step (ch:=ch) hch (fun b o hL hb hc e n=>u.keep b o e n (fun z=>(List.mem_cons.mp (I.stkSub b z)).elim hL hb) hc) (fun b o _ _ hc e n=>u.any e n hc) (fun b o hc e n=>u.free b o e n hc) (fun b o hc e=>u.there b o e hc) u.tups u.frzs u.tbls (fun m' hm=>by
  obtain⟨o',es',ep',ho',r'⟩:=hm;rw[ho] at ho';cases ho'
  exact⟨_,es',ep',hL,r'⟩) hok hg
theorem Inv.turned {t':Nat}{it:Addr}(I:Inv X pins σ H s)(k:∀ b o,b≠it→s.heap.get? b=some o→h'.get? b=some o)(hn:H it=none)(hL:it≠X.env.locals)
  (h1:it∈X.ex∨X.s₀.heap.objs.size≤it) (h2:∀ x c,X.env.cells.lookup x=some c→c≠it) (h3:∀ p∈X.pn++pins,p.1≠it):Inv X pins σ H {s with heap:=h',toks:=t'}:=by
 have nit:∀ b u,H b=some u→b≠it:=fun b u e z=>by rw[z,hn] at e;cases e
 refine I.step (g':=s.gens) (d':=s.drawn) (ch:=[it]) (fun b hb=>?_) (fun b o _ _ hc e _=>k b o (fun z=>hc (by simp[z])) e) (fun b o _ _ hc e _=>⟨o.slots,k b o (fun z=>hc (by simp[z])) e⟩) (fun _ _ _ _ n=>n)
  (fun b o hc e=>⟨o,k b o (fun z=>hc (by simp[z])) e⟩) (fun _ _ e=>e) (fun _ _ _ e=>e) (fun b ps e=>⟨#[],by rw[e];simp⟩) (fun m hm=>?_) (fun b u e=>?_) I.bare
 ·have e:b=it:=by simpa using hb
  subst e;exact⟨h1,hL,h2,h3⟩
 ·obtain⟨o,es,ep,ho,r⟩:=hm;exact⟨o,es,ep,k _ o (Ne.symm hL) ho,r⟩
 ·refine (I.hok b u e).stay (fun c v hc q=>k c v ?_ q) (fun _ q=>q) fun _ _ q=>q
  rcases hc with z | z
  ·rw[z];exact nit b u e
  ·exact nit c _ z
theorem Inv.tok (I:Inv X pins σ H s)(t:Nat):Inv X pins σ H {s with toks:=t}:=I.un (h':=s.heap) (t':=t) Un.refl I.hok
theorem Inv.kept {t':Nat}(I:Inv X pins σ H s)(k:∀ b u,s.heap.get? b=some u→h'.get? b=some u):Inv X pins σ H {s with heap:=h',toks:=t'}:=I.un (Un.kept k) (I.hok.kept k)
theorem Inv.laid {a:Addr}{o:HO}{t':Nat}(I:Inv X pins σ H s)(k:∀ b u,s.heap.get? b=some u→h'.get? b=some u)(hp:s.heap.objs.size≤a)(new:ObjOk X.prog X.w (upd H a o) h' a o) :
  Inv X pins σ (upd H a o) {s with heap:=h',toks:=t'}:=I.un (Un.laid k hp (I.hok.fresh hp)) (I.hok.laid k hp new)
theorem Inv.write {x e:Addr}{o:HO}{t':Nat}(I:Inv X pins σ H s)(mu:Mut (H x))(he:e=x∨H e=some (.own x))(k:∀ b u,b≠e→s.heap.get? b=some u→h'.get? b=some u)(heo:∃ u,h'.get? e=some u)
  (new:ObjOk X.prog X.w (upd H x o) h' x o):Inv X pins σ (upd H x o) {s with heap:=h',toks:=t'}:=I.un (Un.write mu he k heo) (I.hok.write mu he k heo new)
theorem Inv.pins_of {pins':List (Addr×Obj)}(I:Inv X pins σ H s)(h:∀ p∈pins',s.heap.get? p.1=some p.2∧H p.1=none∧p.1≠X.env.locals∧p.1∉X.fs∧∀ v,p.2.data≠.cell v):Inv X pins' σ H s :=
 ⟨I.ok,I.os,I.bare,I.base,I.loc,I.cell,I.free,I.freeC,fun p hp=>(List.mem_append.mp hp).elim (fun z=>I.pin p (List.mem_append_left _ z)) (h p),I.hok,I.len⟩
theorem nodup_ix {N:List Str}(hN:N.Nodup){i j:Nat}{x:Str}(a:N[i]?=some x)(b:N[j]?=some x):i=j:=by
 obtain⟨h1,e1⟩:=List.getElem?_eq_some_iff.mp a;obtain⟨h2,e2⟩:=List.getElem?_eq_some_iff.mp b;exact (List.getElem_inj hN).mp (e1.trans e2.symm)
theorem store_ok2 {M:Model}{A:Around}{E:Value→Shared→Prop}{i:Nat}{x:Str}{v:V}{u:Value}{Q:Unit→Shared→Prop}(I:Inv X pins σ H s)(hN:X.N.Nodup)(hi:X.N[i]?=some x)(hx:Loc X.env.scope x)(r:RelV v u)
  (h:∀ s',Inv X pins (σ.set i (some v)) H s'→(∃ a,Heap.SameBut a s.heap s'.heap∧(a=X.env.locals∨X.env.cells.lookup x=some a))→Q () s') (hf:X.fn x=true∨X.env.scope.names.lookup x=some .local:=by first | exact .inl rfl | exact .inr rfl | assumption):wpAny M A (storeName X.env x u) Q E s:=by
 obtain⟨m,hn,hl⟩:=id I.loc;have hcls:(X.env.scope.kind == .class || (X.env.scope.kind == .module && X.env.locals != X.env.globals))=false:=by rw[I.ok.kind];rfl
 have hiσ:i<σ.length:=by rw[I.len];exact (List.getElem?_eq_some_iff.mp hi).1
 have cne:=I.cne;have tracked:∀ {a:Addr} {h':Heap},(∃ o,s.heap.get? a=some o∧H a=none)→Heap.SameBut a s.heap h'→HOk X.prog X.w H h':=fun {a h'} ha hs b ob e=>by
  obtain⟨_,_,hfree⟩:=ha;refine (I.hok b ob e).stay (fun c w' hc q=>(hs.2 c ?_).trans q) (fun _ q=>q) fun _ _ q=>q
  rintro rfl;rcases hc with rfl | hc
  ·rw[hfree] at e;cases e
  ·rw[hfree] at hc;cases hc
 rcases hx with hk | hk
 ·refine wpAny_storeName_local hk hn (fun h' hn' hs=>?_) hcls;obtain⟨oL,_,_,hoL,_⟩:=id hn;refine h _ ⟨I.ok,I.os,I.bare,⟨fun b o e n hb hx=>?_,fun b o e n hb hx=>?_,I.base.free,fun b o e hx=>?_,I.base.tups,I.base.frzs,I.base.tbls⟩,⟨_,hn',fun j y v' e1 e2 e3=>?_⟩,fun y c e=>?_,I.free,I.freeC,fun p hp=>?_,tracked ⟨oL,hoL,I.free⟩ hs,by simpa using I.len⟩ ⟨_,hs,.inl rfl⟩
  ·exact (hs.2 b (Nat.ne_of_lt (Nat.lt_of_lt_of_le (Heap.lt_size e) I.ok.above))).trans (I.base.keep b o e n hb hx)
  ·obtain⟨sl,e1⟩:=I.base.slot b o e n hb hx;exact⟨sl,(hs.2 b (Nat.ne_of_lt (Nat.lt_of_lt_of_le (Heap.lt_size e) I.ok.above))).trans e1⟩
  ·obtain⟨o',e1⟩:=I.base.there b o e hx;exact⟨o',(hs.2 b (Nat.ne_of_lt (Nat.lt_of_lt_of_le (Heap.lt_size e) I.ok.above))).trans e1⟩
  ·by_cases hj:j=i
   ·subst hj;rw[hi] at e1;cases e1;rw[List.getElem?_set_self hiσ] at e2;cases e2;exact⟨u,r,.inl ⟨hk,by simp⟩⟩
   ·rw[List.getElem?_set_ne (Ne.symm hj)] at e2;obtain⟨u',r',q⟩:=hl j y v' e1 e2 e3;refine⟨u',r',?_⟩;rcases q with ⟨k,e⟩ | ⟨k,c,e,z⟩
    ·refine .inl ⟨k,?_⟩;have:y≠x:=fun e=>hj (nodup_ix hN e1 (e ▸ hi))
     simp[this,e]
    ·exact .inr ⟨k,c,e,z.sameBut hs (cne y c e)⟩
  ·obtain⟨w',z⟩:=I.cell y c e;exact⟨w',z.sameBut hs (cne y c e)⟩
  ·obtain⟨e,n,ne,nf,d⟩:=I.pin p hp;exact⟨(hs.2 p.1 ne).trans e,n,ne,nf,d⟩
 ·have hfn:X.fn x=true:=by
   rcases hf with z | z
   ·exact z
   ·rw[z] at hk;cases hk
  obtain⟨c,hc⟩:=I.ok.has x (.inl hk);obtain⟨w',z⟩:=I.cell x c hc;refine wpAny_storeName_cell I.ok.kind hk hc z (fun h' hc' hs=>?_);obtain⟨oc,hoc,hocd⟩:=id z;refine h {s with heap:=h'} ⟨I.ok,I.os,I.bare,⟨fun b o e n hb hx=>?_,fun b o e n hb hx=>?_,I.base.free,fun b o e hx=>?_,I.base.tups,I.base.frzs,I.base.tbls⟩,⟨m,hn.sameBut hs (Ne.symm (cne x c hc)),fun j y v' e1 e2 e3=>?_⟩,fun y c' e=>?_,I.free,I.freeC,fun p hp=>?_,tracked ⟨oc,hoc,I.freeC x c hc⟩ hs,by simpa using I.len⟩ ⟨c,hs,.inr hc⟩
  ·exact (hs.2 b (Nat.ne_of_lt (Nat.lt_of_lt_of_le (Heap.lt_size e) (I.ok.cab x c hfn hc)))).trans (I.base.keep b o e n hb hx)
  ·obtain⟨sl,e1⟩:=I.base.slot b o e n hb hx;exact⟨sl,(hs.2 b (Nat.ne_of_lt (Nat.lt_of_lt_of_le (Heap.lt_size e) (I.ok.cab x c hfn hc)))).trans e1⟩
  ·obtain⟨o',e1⟩:=I.base.there b o e hx;exact⟨o',(hs.2 b (Nat.ne_of_lt (Nat.lt_of_lt_of_le (Heap.lt_size e) (I.ok.cab x c hfn hc)))).trans e1⟩
  ·by_cases hj:j=i
   ·subst hj;rw[hi] at e1;cases e1;rw[List.getElem?_set_self hiσ] at e2;cases e2;exact⟨u,r,.inr ⟨.inl hk,c,hc,hc'⟩⟩
   ·rw[List.getElem?_set_ne (Ne.symm hj)] at e2;obtain⟨u',r',q⟩:=hl j y v' e1 e2 e3;refine⟨u',r',?_⟩;rcases q with q | ⟨k,c',e,z'⟩
    ·exact .inl q
    ·refine .inr ⟨k,c',e,z'.sameBut hs ?_⟩;rintro rfl;exact hj (nodup_ix hN e1 (I.ok.inj _ _ _ e hc ▸ hi))
  ·by_cases hcc:c'=c
   ·subst hcc;exact⟨_,hc'⟩
   ·obtain⟨w2,z2⟩:=I.cell y c' e;exact⟨w2,z2.sameBut hs hcc⟩
  ·obtain⟨e,n,ne,nf,d⟩:=I.pin p hp;refine⟨(hs.2 p.1 ?_).trans e,n,ne,nf,d⟩;intro q;rw[q,hoc] at e;have q':oc=p.2:=Option.some.inj e;exact d w' (by rw[← q'];exact hocd)
theorem store_ok {M:Model}{A:Around}{E:Value→Shared→Prop}{i:Nat}{x:Str}{v:V}{u:Value}{Q:Unit→Shared→Prop}(I:Inv X pins σ H s)(hN:X.N.Nodup)(hi:X.N[i]?=some x)(hx:Loc X.env.scope x)(r:RelV v u)
  (h:∀ s',Inv X pins (σ.set i (some v)) H s'→Q () s') (hf:X.fn x=true∨X.env.scope.names.lookup x=some .local:=by first | exact .inl rfl | exact .inr rfl | assumption):wpAny M A (storeName X.env x u) Q E s :=
 store_ok2 I hN hi hx r (fun s' I' _=>h s' I') hf
theorem Inv.call' {s':Shared}{ch:List Addr}(I:Inv X pins σ H s)(ho:s'.os=s.os)(u:Un (frs X.stack) ch H H' s.heap s'.heap)(hok:HOk X.prog X.w H' s'.heap)(hg:AllBare s'.gens)
  (hch:∀ b∈ch,(b∈X.ex∨X.s₀.heap.objs.size≤b)∧b≠X.env.locals∧(∀ x c,X.env.cells.lookup x=some c→c≠b)∧∀ p∈X.pn++pins,p.1≠b):Inv X pins σ H' s':=by
 obtain⟨h',g',d',t',o'⟩:=s';have e:o'=s.os:=ho;subst e;exact I.call (g':=g') (t':=t') (d':=d') u hok hg hch
end
abbrev XK:=Value→Option Addr→Hp→Prop
abbrev St:=List (Option V)
abbrev VK:=V→Hp→Prop
abbrev TE:=St→Hp→VK→Prop
abbrev TT:=St→Hp→(Bool→Hp→Prop)→Prop
abbrev TA:=St→Hp→(List V→Hp→Prop)→Prop
structure Ends where
 nx:St→Hp→Prop
 rt:VK
 bk:St→Hp→Prop:=fun _ _=>False
 ct:St→Hp→Prop:=fun _ _=>False
abbrev TS:=Ends→St→Hp→Prop
def EP (X:Cx)(pins:List (Addr×Obj))(σ:St)(Q:VK)(u:Value)(s':Shared):Prop:=∃ v H',Inv X pins σ H' s'∧RelV v u∧Q v H'
def TP (X:Cx)(pins:List (Addr×Obj))(σ:St)(Q:Bool→Hp→Prop)(b:Bool)(s':Shared):Prop:=∃ H',Inv X pins σ H' s'∧Q b H'
def AP (X:Cx)(pins:List (Addr×Obj))(σ:St)(Q:List V→Hp→Prop)(us:List Value)(s':Shared):Prop:=∃ vs H',Inv X pins σ H' s'∧Vals vs us∧Q vs H'
def SP (X:Cx)(pins:List (Addr×Obj))(D:Ends)(f:Flow)(s':Shared):Prop :=
 match f with
 | .next=>∃ σ' H',Inv X pins σ' H' s'∧D.nx σ' H'
 | .brk=>∃ σ' H',Inv X pins σ' H' s'∧D.bk σ' H'
 | .cont=>∃ σ' H',Inv X pins σ' H' s'∧D.ct σ' H'
 | .ret u=>∃ v σ' H',Inv X pins σ' H' s'∧RelV v u∧D.rt v H'
def PE (X:Cx)(e:Expr)(t:TE):Prop :=
 ∀ (pins:List (Addr×Obj)) (s:Shared) (σ:St) (H:Hp) (Q:VK),Inv X pins σ H s→t σ H Q→wpAny (model X.prog X.w) X.A (eval e X.env) (EP X pins σ Q) X.xe s
def PT (X:Cx)(e:Expr)(t:TT):Prop :=
 ∀ (pins:List (Addr×Obj)) (s:Shared) (σ:St) (H:Hp) (Q:Bool→Hp→Prop),Inv X pins σ H s→t σ H Q→wpAny (model X.prog X.w) X.A (isTrue e X.env (eval e X.env)) (TP X pins σ Q) X.xe s
def PW (X:Cx)(e:Expr)(t:TT):Prop :=
 ∀ (whole:Sem Value) (pins:List (Addr×Obj)) (s:Shared) (σ:St) (H:Hp) (Q:Bool→Hp→Prop),Inv X pins σ H s→t σ H Q→wpAny (model X.prog X.w) X.A (isTrue e X.env whole) (TP X pins σ Q) X.xe s
theorem PW.pt {X:Cx}{e:Expr}{t:TT}(h:PW X e t):PT X e t:=h _
def PA (X:Cx)(es:List Expr)(t:TA):Prop :=
 ∀ (pos:Pos) (pins:List (Addr×Obj)) (s:Shared) (σ:St) (H:Hp) (Q:List V→Hp→Prop),Inv X pins σ H s→t σ H Q→wpAny (model X.prog X.w) X.A (spliced (backTo pos (starEach es X.env))) (AP X pins σ Q) X.xe s
def PS (X:Cx)(st:Stmt)(t:TS):Prop :=
 ∀ (pins:List (Addr×Obj)) (s:Shared) (σ:St) (H:Hp) (D:Ends),Inv X pins σ H s→t D σ H→wpAny (model X.prog X.w) X.A (exec st X.env) (SP X pins D) X.xe s
def PSs (X:Cx)(st:List Stmt)(t:TS):Prop :=
 ∀ (pins:List (Addr×Obj)) (s:Shared) (σ:St) (H:Hp) (D:Ends),Inv X pins σ H s→t D σ H→wpAny (model X.prog X.w) X.A (execs st X.env) (SP X pins D) X.xe s
theorem thn {α:Type}{t:Sem α}{Q Q':α→Shared→Prop}{M:Model}{A:Around}{E:Value→Shared→Prop}{s:Shared}(h:wpAny M A t Q E s)(hQ:∀ a s,Q a s→Q' a s):wpAny M A t Q' E s:=wpAny_mono h hQ fun _ _ x=>x
end L2
namespace L2
open PySem PySem.Spec PyProof.Rows
section
variable {X:Cx}
theorem bin {a b:Expr}{ta tb:TE}(ha:PE X a ta)(hb:PE X b tb){pins:List (Addr×Obj)}{s:Shared}{σ:St}{H:Hp}{R:V→V→Hp→Prop}(I:Inv X pins σ H s)(h:ta σ H fun x H1=>tb σ H1 fun y H2=>R x y H2)
  {α:Type} {Q:α→Shared→Prop} {f:Value→Value→Sem α}
  (hf:∀ v u s2 x y H2,Inv X pins σ H2 s2→RelV x v→RelV y u→R x y H2→wpAny (model X.prog X.w) X.A (f v u) Q X.xe s2) :
  wpAny (model X.prog X.w) X.A (eval a X.env) (fun v s₁=>wpAny (model X.prog X.w) X.A (eval b X.env) (fun u s₂=>wpAny (model X.prog X.w) X.A (f v u) Q X.xe s₂) X.xe s₁) X.xe s:=by
 refine thn (ha pins s σ H _ I h) fun v s1 ⟨x,H1,I1,r1,q1⟩=>?_
 refine thn (hb pins s1 σ H1 _ I1 q1) fun u s2 ⟨y,H2,I2,r2,q2⟩=>?_
 exact hf v u s2 x y H2 I2 r1 r2 q2
def tVar (i:Nat):TE:=fun σ H Q=>∃ v,σ[i]?=some (some v)∧Q v H
def tC (v:V):TE:=fun _ H Q=>Q v H
theorem pe_var {i:Nat}{x:Str}{pos:Pos}(hN:X.N[i]?=some x)(hv:Vis X.env.scope x)(hd:(x == ("__debug__":Str))=false:=by decide)(hcd:(x == ("__classdict__":Str))=false:=by decide):PE X (.Name x pos) (tVar i):=by
 intro pins s σ H Q I h;obtain⟨v,e,h⟩:=h;obtain⟨m,hn,hl⟩:=I.loc;obtain⟨u,r,l⟩:=hl i x v hN e hv;have fin:EP X pins σ Q u s:=⟨v,H,I,r,h⟩
 rcases l with ⟨hk,hm⟩ | ⟨hk,c,hc,hcell⟩
 ·exact wpAny_Name (wpAny_loadName_local I.ok.kind hk hn hm fin) hd
 ·rcases hk with hk | hk
  ·exact wpAny_Name (wpAny_loadName_cell I.ok.kind hk hc hcell fin) hd
  ·exact wpAny_Name (wpAny_loadName_free I.ok.kind hk hc hcell fin hcd) hd
theorem pe_int {i j pos}:PE X (.Constant (.int i) j pos) (tC (.int i)):=fun _ _ _ H _ I h=>wpAny_Constant_int ⟨.int i,H,I.tok _,⟨_,rfl⟩,h⟩
theorem pe_bl {b j pos}:PE X (.Constant (.bool b) j pos) (tC (.bl b)):=fun _ _ _ H _ I h=>Constant_bool ⟨.bl b,H,I,rfl,h⟩
theorem pe_non {j pos}:PE X (.Constant .none j pos) (tC .non):=fun _ _ _ H _ I h=>Constant_none ⟨.non,H,I,rfl,h⟩
theorem pe_str {x j pos}:PE X (.Constant (.str x) j pos) (tC (.str x)):=fun _ _ _ H _ I h=>Calls.Constant_str ⟨.str x,H,I.tok _,⟨_,rfl⟩,h⟩
def Gl (X:Cx)(x:Str):Prop:=X.env.kindOf x=some .globalImplicit
theorem ld_glob {E:Value→Shared→Prop}{pins:List (Addr×Obj)}{s:Shared}{σ:St}{H:Hp}{x:Str}{u:Value}{pos:Pos}{Q:Value→Shared→Prop}(I:Inv X pins σ H s)(hg:Gl X x)(hm:X.mg x=some u)(h:Q u s)
  (hd:(x == ("__debug__":Str))=false:=by decide):wpAny (model X.prog X.w) X.A (eval (.Name x pos) X.env) Q E s :=
 Calls.Name_function_global I.ok.kind hg (Calls.loadGlobal_global (by rw[I.ok.glob];exact I.mod.glob.keeps I.bk) hm h) hd
theorem ld_blt {E:Value→Shared→Prop}{pins:List (Addr×Obj)}{s:Shared}{σ:St}{H:Hp}{x:Str}{u:Value}{pos:Pos}{Q:Value→Shared→Prop}(I:Inv X pins σ H s)(hg:Gl X x)(hm:X.mg x=none)(hv:bootBuiltins x=some u)(h:Q u s)
  (hn:x≠"__name__":=by decide) (hd:(x == ("__debug__":Str))=false:=by decide):wpAny (model X.prog X.w) X.A (eval (.Name x pos) X.env) Q E s:=by
 obtain⟨mb,h1,h2⟩:=I.mod.blt;exact Calls.Name_function_global I.ok.kind hg (Calls.loadGlobal_builtin (by rw[I.ok.glob];exact I.mod.glob.keeps I.bk) hm (by rw[I.ok.blt];exact h1.keeps I.bk) ((h2 x hn).trans hv) h) hd
variable {a b:Expr}{ta tb:TE}{pos:Pos}
def PC (X:Cx)(op:CmpOp)(a b:Expr)(t:TE):Prop :=
 ∀ (pins:List (Addr×Obj)) (s:Shared) (σ:St) (H:Hp) (Q:VK),Inv X pins σ H s→t σ H Q →
  wpAny (model X.prog X.w) X.A (eval a X.env) (fun v s₁=>wpAny (model X.prog X.w) X.A (eval b X.env) (fun u s₂=>wpAny (model X.prog X.w) X.A (compareOp op v u) (EP X pins σ Q) X.xe s₂) X.xe s₁) X.xe s
theorem nobehind (b:Expr){op:CmpOp}(h:op≠.In)(h2:op≠.NotIn):behindInMarks op b=false:=by
 have e1:(op == CmpOp.In)=false:=by cases op<;>first | rfl | exact absurd rfl h
 have e2:(op == CmpOp.NotIn)=false:=by cases op<;>first | rfl | exact absurd rfl h2
 cases b<;>simp[behindInMarks,e1,e2]
def tIsN (ta:TE):TE:=fun σ H Q=>ta σ H fun x H1=>Q (.bl (decide (x=.non))) H1
def tNotN (ta:TE):TE:=fun σ H Q=>ta σ H fun x H1=>Q (.bl (!decide (x=.non))) H1
def tB (t:TE):TT:=fun σ H Q=>t σ H fun x H1=>∃ c,x=.bl c∧Q c H1
theorem pt_cmp {op:CmpOp}{t:TE}(h:PC X op a b t)(h1:behindInMarks op b=false:=by first | exact nobehind _ (by decide) (by decide) | rfl):PT X (.Compare a [op] [b] pos) (tB t):=by
 intro pins s σ H Q I hw;refine wpAny_isTrue_Compare1 (thn (h pins s σ H _ I hw) fun v s1 h1=>thn h1 fun u s2 h2=>thn h2 fun c s3 ⟨x,H1,I1,r1,q1⟩=>?_) h1;obtain⟨d,rfl,q⟩:=q1;cases r1;exact wpAny_truthy_bool ⟨H1,I1,q⟩
theorem pt_val {e:Expr}{t:TE}(h:PE X e t)(he:∀ whole,isTrue e X.env whole=(do let v ← whole;standAt e.pos;holding [v] (truthy v)):=by intro _;rfl):PT X e (tB t):=by
 intro pins s σ H Q I hw;refine isTrue_plain (thn (h pins s σ H _ I hw) fun v s1 ⟨x,H1,I1,r1,q1⟩=>?_) (he _);obtain⟨d,rfl,q⟩:=q1;cases r1;exact wpAny_truthy_bool ⟨H1,I1,q⟩
variable {tA tB':TT}{rest:List Expr}
def tAnd (t u:TT):TT:=fun σ H Q=>t σ H fun c H1=>if c=true then u σ H1 Q else Q false H1
def tOr (t u:TT):TT:=fun σ H Q=>t σ H fun c H1=>if c=true then Q true H1 else u σ H1 Q
def tNot (t:TT):TT:=fun σ H Q=>t σ H fun c H1=>Q (!c) H1
theorem pw_and1 (ha:PT X a tA):PW X (.BoolOp .And [a] pos) tA:=by
 intro wh pins s σ H Q I h;refine isTrue_and (thn (ha pins s σ H Q I h) fun c s1 e=>?_);cases c with
 | true=>exact isTrue_and_nil e
 | false=>exact e
theorem pw_or1 (ha:PT X a tA):PW X (.BoolOp .Or [a] pos) tA:=by
 intro wh pins s σ H Q I h;refine isTrue_or (thn (ha pins s σ H Q I h) fun c s1 e=>?_);cases c with
 | false=>exact isTrue_or_nil e
 | true=>exact e
theorem pw_and (ha:PT X a tA)(hb:PW X (.BoolOp .And (b::rest) pos) tB'):PW X (.BoolOp .And (a::b::rest) pos) (tAnd tA tB'):=by
 intro wh pins s σ H Q I h;refine isTrue_and (thn (ha pins s σ H _ I h) fun c s1 ⟨H1,I1,q1⟩=>?_);cases c with
 | true=>exact hb wh pins s1 σ H1 Q I1 q1
 | false=>exact⟨H1,I1,q1⟩
theorem pw_or (ha:PT X a tA)(hb:PW X (.BoolOp .Or (b::rest) pos) tB'):PW X (.BoolOp .Or (a::b::rest) pos) (tOr tA tB'):=by
 intro wh pins s σ H Q I h;refine isTrue_or (thn (ha pins s σ H _ I h) fun c s1 ⟨H1,I1,q1⟩=>?_);cases c with
 | true=>exact⟨H1,I1,q1⟩
 | false=>exact hb wh pins s1 σ H1 Q I1 q1
theorem pt_not (ha:PT X a tA):PT X (.UnaryOp .Not a pos) (tNot tA):=by
 intro pins s σ H Q I h;exact isTrue_not (ha pins s σ H (fun c H1=>Q (!c) H1) I h)
def tAndV (ta tb:TE):TE:=fun σ H Q=>ta σ H fun x H1=>∃ c,x=.bl c∧if c=true then tb σ H1 Q else Q (.bl false) H1
def tOrV (ta tb:TE):TE:=fun σ H Q=>ta σ H fun x H1=>∃ c,x=.bl c∧if c=true then Q (.bl true) H1 else tb σ H1 Q
def tNotV (ta:TE):TE:=fun σ H Q=>ta σ H fun x H1=>∃ c,x=.bl c∧Q (.bl (!c)) H1
theorem pe_one {op}{t:TE}(h:PE X a t):PE X (.BoolOp op [a] pos) t:=fun pins s σ H Q I hw=>BoolOp_one (h pins s σ H Q I hw)
theorem pe_and (ha:PE X a ta)(hb:PE X (.BoolOp .And (b::rest) pos) tb):PE X (.BoolOp .And (a::b::rest) pos) (tAndV ta tb):=by
 intro pins s σ H Q I h;refine BoolOp_and (thn (ha pins s σ H _ I h) fun v s1 ⟨x,H1,I1,r1,q1⟩=>?_);obtain⟨c,rfl,q1⟩:=q1;cases r1;refine wpAny_truthy_bool ?_;cases c with
 | true=>exact hb pins s1 σ H1 Q I1 q1
 | false=>exact⟨.bl false,H1,I1,rfl,q1⟩
theorem pe_not (ha:PE X a ta):PE X (.UnaryOp .Not a pos) (tNotV ta):=by
 intro pins s σ H Q I h;refine UnaryOp_ (thn (ha pins s σ H _ I h) fun v s1 ⟨x,H1,I1,r1,q1⟩=>?_);obtain⟨c,rfl,q1⟩:=q1;cases r1;exact not_of (wpAny_truthy_bool ⟨.bl (!c),H1,I1,rfl,q1⟩)
end
end L2
namespace L2
open PySem PySem.Spec PyProof.Rows
def SqL (K:PySem.W.Frag)(H:Hp)(a:Addr)(xs:List V):Prop :=
 Rd H a (.lst xs) ∨
  ∃ (o:Obj) (its:Array Value) (n:Nat),K.lookup a=some o∧o.cls=.type "list"∧o.dict=none∧o.data=.seq its n∧its.size≤sizeLine∧Vals xs its.toList
def SqT (K:PySem.W.Frag)(H:Hp)(a:Addr)(xs:List V):Prop :=
 Rd H a (.tup xs) ∨
  ∃ (o:Obj) (its:Array Value) (n:Nat),K.lookup a=some o∧o.cls=.type "tuple"∧o.data=.seq its n∧its.size≤sizeLine∧Vals xs its.toList
def absV:Value→Option V
 | .none=>some .non
 | .bool b=>some (.bl b)
 | .int i _=>some (.int i)
 | .str x _=>some (.str x)
 | .bytes b _=>some (.byt b)
 | .float b _=>some (.flt b)
 | .ref a=>some (.ref a)
 | .type n=>some (.ty n)
 | _=>none
theorem RelV.abs {x:V}{u:Value}(r:RelV x u):absV u=some x:=by
 cases x with
 | non=>cases r;rfl
 | bl _=>cases r;rfl
 | int _=>obtain⟨t,rfl⟩:=r;rfl
 | str _=>obtain⟨t,rfl⟩:=r;rfl
 | byt _=>obtain⟨t,rfl⟩:=r;rfl
 | flt _=>obtain⟨t,rfl⟩:=r;rfl
 | ref _=>cases r;rfl
 | ty _=>cases r;rfl
theorem RelV.inj {x y:V}{u:Value}(r:RelV x u)(q:RelV y u):x=y:=Option.some.inj (r.abs.symm.trans q.abs)
theorem Vals.inj:∀ {xs ys:List V} {us:List Value},Vals xs us→Vals ys us→xs=ys
 | _,_,_,.nil,.nil=>rfl
 | _,_,_,.cons r t,.cons r' t'=>by rw[r.inj r',Vals.inj t t']
section
variable {X:Cx}{pins:List (Addr×Obj)}{σ:St}{H:Hp}{s:Shared}{a:Addr}{xs ys:List V}
theorem SqL.of {K:PySem.W.Frag}(h:H a=some (.lst xs)):SqL K H a xs:=.inl (.inl h)
theorem SqT.of {K:PySem.W.Frag}(h:H a=some (.tup xs)):SqT K H a xs:=.inl (.inl h)
theorem Inv.list (I:Inv X pins σ H s)(h:SqL X.K H a xs):∃ its:List Value,Vals xs its∧PlainL s.heap a its.toArray∧xs.length≤sizeLine:=by
 rcases h with h | ⟨o,its,n,hk,hc,hd,hs,hz,r⟩
 ·obtain⟨z,its,n,r,e⟩:=h.ok I.hok;exact⟨its,r,⟨_,n,e,rfl,rfl,rfl⟩,z⟩
 ·refine⟨its.toList,r,⟨o,n,I.kIn a o hk,hc,hd,by simpa using hs⟩,?_⟩;have e:=r.length;simp only[Array.length_toList] at e;omega
theorem Inv.tuple (I:Inv X pins σ H s)(h:SqT X.K H a xs):∃ its:List Value,Vals xs its∧IsTup s.heap a its.toArray∧xs.length≤sizeLine:=by
 rcases h with h | ⟨o,its,n,hk,hc,hs,hz,r⟩
 ·obtain⟨z,its,r,p⟩:=h.ok I.hok;exact⟨its,r,p,z⟩
 ·refine⟨its.toList,r,⟨o,I.kIn a o hk,hc,n,by simpa using hs⟩,?_⟩;have e:=r.length;simp only[Array.length_toList] at e;omega
theorem Inv.list_inj (I:Inv X pins σ H s)(h:SqL X.K H a xs)(h':SqL X.K H a ys):xs=ys:=by
 obtain⟨its,r,⟨o,n,e,_,_,d⟩,_⟩:=I.list h;obtain⟨its',r',⟨o',n',e',_,_,d'⟩,_⟩:=I.list h';rw[e] at e';cases e';rw[d] at d';injection d' with d1 _
 have:its=its':=by simpa using congrArg Array.toList d1
 subst this;exact r.inj r'
theorem Inv.tuple_inj (I:Inv X pins σ H s)(h:SqT X.K H a xs)(h':SqT X.K H a ys):xs=ys:=by
 obtain⟨its,r,⟨o,e,_,n,d⟩,_⟩:=I.tuple h;obtain⟨its',r',⟨o',e',_,n',d'⟩,_⟩:=I.tuple h';rw[e] at e';cases e';rw[d] at d';injection d' with d1 _
 have:its=its':=by simpa using congrArg Array.toList d1
 subst this;exact r.inj r'
end
abbrev Cx.wish (X:Cx)(E:Value→Shared→Prop):Cx:={X with xe:=E}
abbrev Cx.nox (X:Cx):Cx:=X.wish fun _ _=>False
theorem Cx.Ok.wish {X:Cx}(ok:X.Ok)(E:Value→Shared→Prop):(X.wish E).Ok :=
 ⟨ok.mod,ok.kind,ok.glob,ok.blt,ok.above,ok.inj,ok.has,ok.cab,ok.hd,ok.frames,ok.stk,ok.exf,ok.bs,ok.bsz,ok.noex,ok.exfs,ok.funs,ok.frf⟩
theorem Cx.Ok.unwish {X:Cx}{E:Value→Shared→Prop}(ok:(X.wish E).Ok):X.Ok :=
 ⟨ok.mod,ok.kind,ok.glob,ok.blt,ok.above,ok.inj,ok.has,ok.cab,ok.hd,ok.frames,ok.stk,ok.exf,ok.bs,ok.bsz,ok.noex,ok.exfs,ok.funs,ok.frf⟩
section
variable {X:Cx}{pins:List (Addr×Obj)}{σ:St}{H:Hp}{s:Shared}{E:Value→Shared→Prop}
theorem Inv.wish (I:Inv X pins σ H s)(E:Value→Shared→Prop):Inv (X.wish E) pins σ H s:=⟨I.ok.wish E,I.os,I.bare,I.base,I.loc,I.cell,I.free,I.freeC,I.pin,I.hok,I.len⟩
theorem Inv.unwish (I:Inv (X.wish E) pins σ H s):Inv X pins σ H s:=⟨I.ok.unwish,I.os,I.bare,I.base,I.loc,I.cell,I.free,I.freeC,I.pin,I.hok,I.len⟩
theorem SP.unwish {D:Ends}{f:Flow}{s':Shared}(h:SP (X.wish E) pins D f s'):SP X pins D f s':=by
 cases f with
 | next=>obtain⟨σ',H',I,q⟩:=h;exact⟨σ',H',I.unwish,q⟩
 | brk=>obtain⟨σ',H',I,q⟩:=h;exact⟨σ',H',I.unwish,q⟩
 | cont=>obtain⟨σ',H',I,q⟩:=h;exact⟨σ',H',I.unwish,q⟩
 | ret u=>obtain⟨v,σ',H',I,r,q⟩:=h;exact⟨v,σ',H',I.unwish,r,q⟩
theorem PE.nox {e:Expr}{t:TE}(h:PE X.nox e t):PE X e t:=fun pins s σ H Q I hw =>
 wpAny_mono (h pins s σ H Q (I.wish _) hw) (fun _ _ ⟨v,H',I',r,q⟩=>⟨v,H',I'.unwish,r,q⟩) fun _ _ z=>False.elim z
theorem PT.nox {e:Expr}{t:TT}(h:PT X.nox e t):PT X e t:=fun pins s σ H Q I hw =>
 wpAny_mono (h pins s σ H Q (I.wish _) hw) (fun _ _ ⟨H',I',q⟩=>⟨H',I'.unwish,q⟩) fun _ _ z=>False.elim z
theorem PSs.nox {st:List Stmt}{t:TS}(h:PSs X.nox st t):PSs X st t:=fun pins s σ H D I hw =>
 wpAny_mono (h pins s σ H D (I.wish _) hw) (fun _ _ q=>q.unwish) fun _ _ z=>False.elim z
end
section
variable {X:Cx}{st:Stmt}{rest:List Stmt}{t u:TS}{e:Expr}{te:TE}{pos:Pos}
def tNext:TS:=fun D σ H=>D.nx σ H
def tSeq (t u:TS):TS:=fun D σ H=>t {D with nx:=u D} σ H
theorem pss_nil:PSs X [] tNext:=fun _ _ σ H _ I h=>wpAny_execs_nil ⟨σ,H,I,h⟩
theorem pss_cons (h1:PS X st t)(h2:PSs X rest u):PSs X (st::rest) (tSeq t u):=by
 intro pins s σ H D I h;refine wpAny_execs_cons (thn (h1 pins s σ H {D with nx:=u D} I h) fun f s1 q=>?_);cases f with
 | next =>
  obtain⟨σ',H',I',q⟩:=q;exact h2 pins s1 σ' H' D I' q
 | ret v=>exact q
 | brk=>exact q
 | cont=>exact q
theorem pss_one (h1:PS X st t):PSs X [st] t:=by
 intro pins s σ H D I h;refine wpAny_execs_cons (thn (h1 pins s σ H D I h) fun f s1 q=>?_);cases f with
 | next=>exact wpAny_execs_nil q
 | ret v=>exact q
 | brk=>exact q
 | cont=>exact q
theorem Inv.quiet {pins:List (Addr×Obj)}{σ:St}{H:Hp}{s:Shared}(I:Inv X pins σ H s):interactive X.env=false:=by simp[interactive,I.ok.kind]
def tDrop (te:TE):TS:=fun D σ H=>te σ H fun _ H1=>D.nx σ H1
theorem ps_expr (he:PE X e te)(hs:swapsWith e none pos.line X.env=pure false:=by rfl):PS X (.Expr e pos) (tDrop te):=by
 intro pins s σ H D I h;exact wpAny_Expr_any (thn (he pins s σ H _ I h) fun v s1 ⟨x,H1,I1,r1,q1⟩=>⟨σ,H1,I1,q1⟩) I.quiet hs
def tRet (te:TE):TS:=fun D σ H=>te σ H D.rt
theorem ps_ret (he:PE X e te):PS X (.Return (some e) pos) (tRet te):=by
 intro pins s σ H D I h;exact wpAny_Return_some (thn (he pins s σ H _ I h) fun v s1 ⟨x,H1,I1,r1,q1⟩=>⟨x,σ,H1,I1,r1,q1⟩)
def tRetN:TS:=fun D _ H=>D.rt .non H
def tIfS (c:TT)(t u:TS):TS:=fun D σ H=>c σ H fun b H1=>if b=true then t D σ H1 else u D σ H1
theorem ps_if {c:Expr}{a b:List Stmt}{tc:TT}(hc:PT X c tc)(ha:PSs X a t)(hb:PSs X b u):PS X (.If c a b pos) (tIfS tc t u):=by
 intro pins s σ H D I h;refine wpAny_If (thn (hc pins s σ H _ I h) fun d s1 ⟨H1,I1,q1⟩=>?_);cases d with
 | true=>exact ha pins s1 σ H1 D I1 q1
 | false=>exact hb pins s1 σ H1 D I1 q1
end
abbrev TG:=V→St→Hp→(St→Hp→Prop)→Prop
abbrev TGs:=List V→St→Hp→(St→Hp→Prop)→Prop
def PG (X:Cx)(target:Expr)(t:TG):Prop :=
 ∀ (pins:List (Addr×Obj)) (s:Shared) (σ:St) (H:Hp) (v:V) (u:Value) (Q:St→Hp→Prop),Inv X pins σ H s→RelV v u→t v σ H Q →
  wpAny (model X.prog X.w) X.A (assign target X.env u) (fun _ s'=>∃ σ' H',Inv X pins σ' H' s'∧Q σ' H') X.xe s
def PGs (X:Cx)(ts:List Expr)(t:TGs):Prop :=
 ∀ (pins:List (Addr×Obj)) (s:Shared) (σ:St) (H:Hp) (vs:List V) (us:List Value) (Q:St→Hp→Prop),Inv X pins σ H s→Vals vs us→t vs σ H Q →
  wpAny (model X.prog X.w) X.A (assignInOrder ((assignEach ts X.env).map (·.2)) us) (fun _ s'=>∃ σ' H',Inv X pins σ' H' s'∧Q σ' H') X.xe s
abbrev TSet:=V→V→V→Hp→(Hp→Prop)→Prop
def PSet (X:Cx)(t:TSet):Prop :=
 ∀ (pins:List (Addr×Obj)) (s:Shared) (σ:St) (H:Hp) (o i v:V) (ov iv u:Value) (Q:Hp→Prop),Inv X pins σ H s→RelV o ov→RelV i iv→RelV v u→t o i v H Q →
  wpAny (model X.prog X.w) X.A (setItem ov iv u) (fun _ s'=>∃ H',Inv X pins σ H' s'∧Q H') X.xe s
section
variable {X:Cx}{pos:Pos}
def gName (i:Nat):TG:=fun v σ H Q=>Q (σ.set i (some v)) H
theorem pg_name {i:Nat}{x:Str}(hN:X.N.Nodup)(hi:X.N[i]?=some x)(hx:Loc X.env.scope x)(hf:X.fn x=true∨X.env.scope.names.lookup x=some .local:=by first | exact .inl rfl | exact .inr rfl | assumption):PG X (.Name x pos) (gName i):=by
 intro pins s σ H v u Q I r h;exact wpAny_assign_Name (store_ok I hN hi hx r (fun s' I'=>⟨_,H,I',h⟩) hf)
def gNil:TGs:=fun vs σ H Q=>vs=[]∧Q σ H
def gCons (t:TG)(u:TGs):TGs:=fun vs σ H Q=>∃ v r,vs=v::r∧t v σ H fun σ' H'=>u r σ' H' Q
theorem pgs_nil:PGs X [] gNil:=by
 intro pins s σ H vs us Q I r h;obtain⟨e,h⟩:=h;subst e;cases r;exact assignInOrder_nil ⟨σ,H,I,h⟩
theorem pgs_cons {e:Expr}{es:List Expr}{t:TG}{u:TGs}(h1:PG X e t)(h2:PGs X es u)
  (hs:(assignEach (e::es) X.env).map (·.2)=assign e X.env::(assignEach es X.env).map (·.2):=by rfl):PGs X (e::es) (gCons t u):=by
 intro pins s σ H vs us Q I r h;obtain⟨v,vr,e1,h⟩:=h;subst e1;cases r with
 | cons r rr =>
  rw[hs];refine assignInOrder_cons (thn (h1 pins s σ H _ _ _ I r h) fun _ s1 ⟨σ1,H1,I1,q1⟩=>?_);exact h2 pins s1 σ1 H1 _ _ Q I1 rr q1
def gTup (K:PySem.W.Frag)(n:Nat)(t:TGs):TG:=fun v σ H Q=>∃ a xs,v=.ref a∧SqT K H a xs∧xs.length=n∧t xs σ H Q
theorem pg_tup {es:List Expr}{k:Nat}{t:TGs}{n:Nat}(hc:X.calm=true)(h:PGs X es t)
  (hn:(assignEach es X.env).length=n:=by rfl) (hst:(assignEach es X.env).findIdx? (·.1)=none:=by rfl):PG X (.Tuple es k pos) (gTup X.K n t):=by
 intro pins s σ H v u Q I r hw;obtain⟨a,xs,e1,hq,hl,hw⟩:=hw;subst e1;cases r;obtain⟨its,rv,ht,hz⟩:=I.tuple hq;refine assign_Tuple_tuple (I.ok.hd hc) ht (by simp[hn,← hl,rv.length]) hst fun h' hx=>?_
 have I1:Inv X pins σ H {s with heap:=h'}:=I.kept (t':=s.toks) fun b o e=>hx b o (Nat.ne_of_lt (Heap.lt_size e)) e
 exact h pins _ σ H xs _ Q I1 (by simpa using rv) hw
def gSub (to ti:TE)(t:TSet):TG:=fun v σ H Q=>to σ H fun o H1=>ti σ H1 fun i H2=>t o i v H2 fun H3=>Q σ H3
theorem pg_sub {o i:Expr}{to ti:TE}{t:TSet}(ho:PE X o to)(hi:PE X i ti)(hs:PSet X t)
  (ha:∀ v,assign (.Subscript o i pos) X.env v=(do
   let ov ← holding [v] (eval o X.env)
   let iv ← holding [v,ov] (eval i X.env)
   standAt pos
   holding [v,ov,iv] (setItem ov iv v)
   release [v,ov,iv] []):=by intro _;rfl):PG X (.Subscript o i pos) (gSub to ti t):=by
 intro pins s σ H v u Q I r h;rw[ha];refine wpAny_bind (wpAny_holding (thn (ho pins s σ H _ I h) fun ov s1 ⟨x,H1,I1,r1,q1⟩=>?_));refine wpAny_bind (wpAny_holding (thn (hi pins s1 σ H1 _ I1 q1) fun iv s2 ⟨y,H2,I2,r2,q2⟩=>?_));refine wpAny_bind (wpAny_standAt (wpAny_bind (wpAny_holding (thn (hs pins s2 σ H2 x y v ov iv u _ I2 r1 r2 r q2) fun _ s3 ⟨H3,I3,q3⟩=>?_))));exact wpAny_release ⟨σ,H3,I3,q3⟩
def tAsg (te:TE)(g:TG):TS:=fun D σ H=>te σ H fun x H1=>g x σ H1 D.nx
theorem ps_asg {tg e:Expr}{te:TE}{g:TG}(he:PE X e te)(hg:PG X tg g)(hs:swapsWithSole [tg] e pos.line X.env=pure false:=by rfl)(hw:swappedStores [tg] e X.env=pure none:=by rfl)
  (h1:(assignEach [tg] X.env).map (·.2)=[assign tg X.env]:=by rfl):PS X (.Assign [tg] e pos) (tAsg te g):=by
 intro pins s σ H D I h;refine wpAny_Assign_stores (thn (he pins s σ H _ I h) fun v s1 ⟨x,H1,I1,r1,q1⟩=>?_) hs hw;rw[h1];exact thn (hg pins s1 σ H1 x v _ I1 r1 q1) fun _ s2 q=>q
theorem ps_set {i:Nat}{x:Str}{e:Expr}{te:TE}{pos':Pos}(hN:X.N.Nodup)(hi:X.N[i]?=some x)(hx:Loc X.env.scope x)(he:PE X e te)(hs:swapsWith e (some (.Name x pos')) pos.line X.env=pure false:=by rfl)(hf:X.fn x=true∨X.env.scope.names.lookup x=some .local:=by first | exact .inl rfl | exact .inr rfl | assumption) :
  PS X (.Assign [.Name x pos'] e pos) (tAsg te (gName i)):=by
 intro pins s σ H D I h;refine wpAny_Assign_Name (thn (he pins s σ H _ I h) fun v s1 ⟨y,H1,I1,r1,q1⟩=>?_) hs;exact store_ok I1 hN hi hx r1 (fun s2 I2=>⟨_,H1,I2,q1⟩) hf
end
section
variable {X:Cx}{pos:Pos}
def tWhile (c:TT)(tb:TS):TS:=fun D σ H=>∃ W:Nat→St→Hp→Prop,(∃ m,W m σ H)∧∀ m σ H,W m σ H →
 c σ H fun b H1=>if b=true then ∃ N:St→Hp→Prop,(∀ σ' H',N σ' H'→∃ m',m'<m∧W m' σ' H')∧tb {D with nx:=N,ct:=N,bk:=D.nx} σ H1 else D.nx σ H1
theorem ps_while {c:Expr}{body:List Stmt}{tc:TT}{tb:TS}(hp:PassesOwn (model X.prog X.w) X.A X.env X.xe)(hc:PT X c tc)(hb:PSs X body tb):PS X (.While c body [] pos) (tWhile tc tb):=by
 intro pins s σ H D I h;obtain⟨W,⟨m0,w0⟩,turn⟩:=h;refine wpAny_While (codeAny_whileLoop (fun n s'=>∃ σ' H',Inv X pins σ' H' s'∧W n σ' H') ?_ m0 ⟨σ,H,I,w0⟩);rintro n s1 ⟨σ1,H1,I1,w1⟩;refine wpAny_passesOwn hp (thn (hc pins s1 σ1 H1 _ I1 (turn n σ1 H1 w1)) fun b s2 ⟨H2,I2,q2⟩=>?_);cases b with
 | true =>
  obtain⟨N,hN,q2⟩:=q2;rw[if_pos rfl];refine wpAny_passesOwn hp (thn (hb pins s2 σ1 H2 _ I2 q2) fun f s3 q3=>?_);cases f with
  | next =>
   obtain⟨σ3,H3,I3,n3⟩:=q3;obtain⟨m',hm,w3⟩:=hN σ3 H3 n3;exact⟨m',hm,σ3,H3,I3,w3⟩
  | cont =>
   obtain⟨σ3,H3,I3,n3⟩:=q3;obtain⟨m',hm,w3⟩:=hN σ3 H3 n3;exact⟨m',hm,σ3,H3,I3,w3⟩
  | brk=>exact q3
  | ret v=>exact q3
 | false =>
  rw[if_neg Bool.false_ne_true];exact wpAny_execs_nil ⟨σ1,H2,I2,q2⟩
end
structure It where
 go:Nat→Hp→Prop
 yld:Nat→Hp→V→Hp→Prop
 stop:Nat→Hp→Prop
def FpOk (X:Cx)(pins:List (Addr×Obj))(H:Hp)(b:Addr):Prop :=
 H b=none∧b≠X.env.locals∧b∉X.fs∧(b∈X.ex∨X.s₀.heap.objs.size≤b)∧(∀ x c,X.env.cells.lookup x=some c→c≠b)∧∀ p∈X.pn++pins,p.1≠b
theorem Inv.fpOk {X:Cx}{pins:List (Addr×Obj)}{σ:St}{H H':Hp}{s:Shared}{b:Addr}(I:Inv X pins σ H s)(hb:s.heap.objs.size≤b)(hn:H' b=none):FpOk X pins H' b:=by
 refine⟨hn,Nat.ne_of_gt (Nat.lt_of_lt_of_le I.lt hb),I.nofs hb,.inr (Nat.le_trans I.sz hb),fun x c e z=>?_,fun p hp z=>?_⟩
 ·obtain⟨v,q⟩:=I.cell x c e;exact absurd (Nat.lt_of_lt_of_le q.lt (by rw[z];exact hb)) (Nat.lt_irrefl _)
 ·exact absurd (Nat.lt_of_lt_of_le (Heap.lt_size (I.pin p hp).1) (by rw[z];exact hb)) (Nat.lt_irrefl _)
structure Turn (P:Program)(w:World)(K:PySem.W.Frag)(tg:Expr)(J:It)(fp:List Addr)(it:Addr)(tn:Nat→Heap→Prop):Prop where
 mem:it∈fp
 obj:∀ i h,tn i h→∀ b∈fp,∃ o,h.get? b=some o∧∀ v,o.data≠.cell v
 keep:∀ i h h',tn i h→(∀ b∈fp,∀ o,h.get? b=some o→h'.get? b=some o)→tn i h'
 item:∀ (X:Cx),X.prog=P→X.w=w→X.K=K→X.calm=true→∀ (i:Nat) (pins:List (Addr×Obj)) (s:Shared) (σ:St) (H:Hp) (E:Value→Shared→Prop),Inv X pins σ H s→(∀ b∈fp,FpOk X pins H b)→tn i s.heap→J.go i H →
  wpAny (model P w) X.A (pyNext (.ref it)) (fun r s1=>∃ u,r=some u ∧
   wpAny (model P w) X.A (letOwnedTupleGo tg (.ref it) u) (fun _ s2=>∃ x H',Inv X pins σ H' s2∧RelV x u∧J.yld i H x H'∧tn (i+1) s2.heap∧∀ b∈fp,H' b=none) E s1) E s
 done:∀ (X:Cx),X.prog=P→X.w=w→X.K=K→X.calm=true→∀ (i:Nat) (pins:List (Addr×Obj)) (s:Shared) (σ:St) (H:Hp) (E:Value→Shared→Prop),Inv X pins σ H s→(∀ b∈fp,FpOk X pins H b)→tn i s.heap→J.stop i H →
  wpAny (model P w) X.A (pyNext (.ref it)) (fun r s1=>r=none∧Inv X pins σ H s1) E s
 self:∀ (A:Around) (i:Nat) (s:Shared) (Q:Value→Shared→Prop) (E:Value→Shared→Prop),tn i s.heap→Q (.ref it) s→wpAny (model P w) A (pyIter (.ref it)) Q E s
abbrev TI:=St→Hp→(It→Hp→Prop)→Prop
def PIE (X:Cx)(pins:List (Addr×Obj))(σ:St)(tg:Expr)(R:It→Hp→Prop)(itv:Value)(s2:Shared):Prop :=
 ∃ (it:Addr) (fp:List Addr) (tn:Nat→Heap→Prop) (J:It) (H':Hp),itv=.ref it∧Inv X pins σ H' s2∧Turn X.prog X.w X.K tg J fp it tn∧tn 0 s2.heap∧(∀ b∈fp,FpOk X pins H' b)∧R J H'
def PI (X:Cx)(tg iter:Expr)(wi:TI):Prop :=
 ∀ (pins:List (Addr×Obj)) (s:Shared) (σ:St) (H:Hp) (R:It→Hp→Prop),Inv X pins σ H s→wi σ H R →
  wpAny (model X.prog X.w) X.A (eval iter X.env) (fun v s1=>wpAny (model X.prog X.w) X.A (pyIter v) (PIE X pins σ tg R) X.xe s1) X.xe s
theorem go_of {M:Model}{A:Around}{E:Value→Shared→Prop}{s:Shared}{tg:Expr}{it:Addr}{u:Value}{o:Obj}{n:String}{vs:Array Value}{Q:Unit→Shared→Prop}(ho:s.heap.get? it=some o)(hc:o.cls=.type n)(hd:o.data=.fields vs)
    (hn:["enumerate", "zip", "dict_itemiterator", "dict_reverseitemiterator", "odict_iterator", "itertools.zip_longest", "itertools.pairwise"].contains n=false) (hQ:Q () s):wpAny M A (letOwnedTupleGo tg (.ref it) u) Q E s:=by
  unfold letOwnedTupleGo;cases tg<;>first
    | exact wpAny_pure hQ
    | (cases u<;>first
        | exact wpAny_pure hQ
        | (refine wpAny_bind (wpAny_load ho ?_)
           rw[hc,hd];show wpAny M A (if (["enumerate", "zip", "dict_itemiterator", "dict_reverseitemiterator", "odict_iterator", "itertools.zip_longest", "itertools.pairwise"].contains n && vs[0]? == some (rawInt _))=true then _ else _) Q E s;rw[if_neg (by intro h;rw[hn,Bool.false_and] at h;cases h)]
           exact wpAny_pure hQ))
def Itl (K:PySem.W.Frag)(a:Addr):It :=
 ⟨fun i H=>∃ xs x,SqL K H a xs∧xs[i]?=some x,fun i H x H'=>H'=H∧∀ xs,SqL K H a xs→xs[i]?=some x,fun i H=>∃ xs,SqL K H a xs∧xs.length≤i⟩
def Itt (K:PySem.W.Frag)(a:Addr):It :=
 ⟨fun i H=>∃ xs x,SqT K H a xs∧xs[i]?=some x,fun i H x H'=>H'=H∧∀ xs,SqT K H a xs→xs[i]?=some x,fun i H=>∃ xs,SqT K H a xs∧xs.length≤i⟩
def Itr (lo:Int)(n:Nat):It:=⟨fun i _=>i<n,fun i H x H'=>H'=H∧x=.int (lo+i),fun i _=>n≤i⟩
theorem turn_list {P:Program}{w:World}{K:PySem.W.Frag}{tg:Expr}(a it:Addr):Turn P w K tg (Itl K a) [it] it (fun i h=>h.IsListIter it a i) where
 mem:=by simp
 obj:=fun i h st b hb=>by
  have e:b=it:=by simpa using hb
  subst e;obtain⟨o,e,c,d⟩:=st;exact⟨o,e,fun v z=>by rw[d] at z;cases z⟩
 keep:=fun i h h' st k=>st.at fun o e=>k it (by simp) o e
 item:=by
  intro X hP hw hK hc i pins s σ H E I hf st hg;subst hP hw hK;obtain⟨xs,x,hq,hx⟩:=hg;obtain⟨its,rv,p,hz⟩:=I.list hq;obtain⟨u,hu,ru⟩:=rv.get hx;obtain⟨f0,f1,f2,f3,f4,f5⟩:=hf it (by simp);refine wpAny_pyNext_list_item st p.isList (x:=u) (by simpa using hu) fun h' st' sb=>?_
  have I1:Inv X pins σ H {s with heap:=h'}:=I.turned (t':=s.toks) (fun b o hb e=>(sb.2 b hb).trans e) f0 f1 f3 f4 f5;obtain⟨o,e,c,d⟩:=id st';exact⟨u,rfl,go_of (s:={s with heap:=h'}) e c d (by decide) ⟨x,H,I1,ru,⟨rfl,fun ys hy=>by rw[I.list_inj hy hq];exact hx⟩,st',fun b hb=>(hf b hb).1⟩⟩
 done:=by
  intro X hP hw hK hc i pins s σ H E I hf st hg;subst hP hw hK;obtain⟨xs,hq,hx⟩:=hg;obtain⟨its,rv,p,hz⟩:=I.list hq;obtain⟨f0,f1,f2,f3,f4,f5⟩:=hf it (by simp);have hl:=rv.length;exact wpAny_pyNext_list_end (I.ok.hd hc) st p.isList (by simp;omega) fun h' eb=>⟨rfl,I.turned (t':=s.toks) (fun b o hb e=>eb b o hb e) f0 f1 f3 f4 f5⟩
 self:=fun _ _ _ _ _ st h=>wpAny_pyIter_listiter st h
theorem turn_tuple {P:Program}{w:World}{K:PySem.W.Frag}{tg:Expr}(a it:Addr):Turn P w K tg (Itt K a) [it] it (fun i h=>h.IsTupleIter it a i) where
 mem:=by simp
 obj:=fun i h st b hb=>by
  have e:b=it:=by simpa using hb
  subst e;obtain⟨o,e,c,d⟩:=st;exact⟨o,e,fun v z=>by rw[d] at z;cases z⟩
 keep:=fun i h h' st k=>st.at fun o e=>k it (by simp) o e
 item:=by
  intro X hP hw hK hc i pins s σ H E I hf st hg;subst hP hw hK;obtain⟨xs,x,hq,hx⟩:=hg;obtain⟨its,rv,p,hz⟩:=I.tuple hq;obtain⟨u,hu,ru⟩:=rv.get hx;obtain⟨f0,f1,f2,f3,f4,f5⟩:=hf it (by simp);refine wpAny_pyNext_tuple_item st (show s.heap.IsTuple a its.toArray from p) (x:=u) (by simpa using hu) fun h' st' sb=>?_
  have I1:Inv X pins σ H {s with heap:=h'}:=I.turned (t':=s.toks) (fun b o hb e=>(sb.2 b hb).trans e) f0 f1 f3 f4 f5;obtain⟨o,e,c,d⟩:=id st';exact⟨u,rfl,go_of (s:={s with heap:=h'}) e c d (by decide) ⟨x,H,I1,ru,⟨rfl,fun ys hy=>by rw[I.tuple_inj hy hq];exact hx⟩,st',fun b hb=>(hf b hb).1⟩⟩
 done:=by
  intro X hP hw hK hc i pins s σ H E I hf st hg;subst hP hw hK;obtain⟨xs,hq,hx⟩:=hg;obtain⟨its,rv,p,hz⟩:=I.tuple hq;obtain⟨f0,f1,f2,f3,f4,f5⟩:=hf it (by simp);have hl:=rv.length;exact wpAny_pyNext_tuple_end (I.ok.hd hc) st (show s.heap.IsTuple a its.toArray from p) (by simp;omega) fun h' eb=>⟨rfl,I.turned (t':=s.toks) (fun b o hb e=>eb b o hb e) f0 f1 f3 f4 f5⟩
 self:=fun _ _ _ _ _ st h=>wpAny_pyIter_tupleiter st h
theorem turn_range {P:Program}{w:World}{K:PySem.W.Frag}{tg:Expr}(it:Addr)(lo:Int)(n:Nat):Turn P w K tg (Itr lo n) [it] it (fun i h=>IsRangeIter h it (lo+(i:Nat)*1) ((n:Int)-(i:Nat)) 1) where
 mem:=by simp
 obj:=fun i h st b hb=>by
  have e:b=it:=by simpa using hb
  subst e
  exact⟨_,st,fun v z=>by
   have z':Data.fields _=Data.cell v:=z
   cases z'⟩
 keep:=fun i h h' st k=>k it (by simp) _ st
 item:=by
  intro X hP hw hK hc i pins s σ H E I hf st hg;subst hP hw hK;obtain⟨f0,f1,f2,f3,f4,f5⟩:=hf it (by simp);have W:=Walks.range (prog:=X.prog) (w:=X.w) (I.ok.hd hc) it lo 1 n;refine W.item i s _ _ hg st fun v h' tk hv st' kk=>?_
  obtain⟨t,rfl⟩:=hv;have I1:Inv X pins σ H {s with heap:=h',toks:=tk}:=I.turned (fun b o hb e=>kk b o (by simpa using hb) e) f0 f1 f3 f4 f5;refine⟨_,rfl,go_of (s:={s with heap:=h',toks:=tk}) (n:="range_iterator") st' rfl rfl (by decide) ⟨.int (lo+i),H,I1,⟨t,?_⟩,⟨rfl,rfl⟩,st',fun b hb=>(hf b hb).1⟩⟩;rw[Int.mul_one]
 done:=by
  intro X hP hw hK hc i pins s σ H E I hf st hg;subst hP hw hK;obtain⟨f0,f1,f2,f3,f4,f5⟩:=hf it (by simp);exact wpAny_pyNext_range_end (I.ok.hd hc) st (by have:n≤i:=hg;omega) fun h' eb=>⟨rfl,I.turned (t':=s.toks) (fun b o hb e=>eb b o hb e) f0 f1 f3 f4 f5⟩
 self:=fun _ _ _ _ _ st h=>wpAny_pyIter_rangeiter st h
end L2
namespace L2
open PySem PySem.Spec PyProof.Rows
section
variable {X:Cx}{tg:Expr}
def iList (K:PySem.W.Frag)(tl:TE):TI:=fun σ H R=>tl σ H fun x H1=>∃ a,x=.ref a∧(∃ xs,SqL K H1 a xs)∧R (Itl K a) H1
def iTup (K:PySem.W.Frag)(tl:TE):TI:=fun σ H R=>tl σ H fun x H1=>∃ a,x=.ref a∧(∃ xs,SqT K H1 a xs)∧R (Itt K a) H1
theorem pi_list {l:Expr}{tl:TE}(hl:PE X l tl):PI X tg l (iList X.K tl):=by
 intro pins s σ H R I h;refine thn (hl pins s σ H _ I h) fun v s1 ⟨x,H1,I1,r1,q1⟩=>?_
 obtain⟨a,e,⟨xs,hq⟩,q⟩:=q1;subst e;cases r1;obtain⟨its,rv,p,hz⟩:=I1.list hq;refine wpAny_pyIter_list p.isList ?_;refine⟨s1.heap.objs.size,[s1.heap.objs.size],_,_,H1,rfl,I1.kept (t':=s1.toks) fun b o e=>Heap.get?_push_of_some _ e,turn_list a _,⟨_,Heap.get?_push_size _ rfl,rfl,rfl⟩,fun b hb=>?_,q⟩;have e:b=s1.heap.objs.size:=by simpa using hb
 subst e;exact I1.fpOk (Nat.le_refl _) (I1.hok.fresh (Nat.le_refl _))
theorem pi_tup {l:Expr}{tl:TE}(hl:PE X l tl):PI X tg l (iTup X.K tl):=by
 intro pins s σ H R I h;refine thn (hl pins s σ H _ I h) fun v s1 ⟨x,H1,I1,r1,q1⟩=>?_
 obtain⟨a,e,⟨xs,hq⟩,q⟩:=q1;subst e;cases r1;obtain⟨its,rv,p,hz⟩:=I1.tuple hq;refine wpAny_pyIter_tuple (show s1.heap.IsTuple a its.toArray from p) ?_;refine⟨s1.heap.objs.size,[s1.heap.objs.size],_,_,H1,rfl,I1.kept (t':=s1.toks) fun b o e=>Heap.get?_push_of_some _ e,turn_tuple a _,⟨_,Heap.get?_push_size _ rfl,rfl,rfl⟩,fun b hb=>?_,q⟩;have e:b=s1.heap.objs.size:=by simpa using hb
 subst e;exact I1.fpOk (Nat.le_refl _) (I1.hok.fresh (Nat.le_refl _))
theorem range_it {pins:List (Addr×Obj)}{σ:St}{H:Hp}{s:Shared}{R:It→Hp→Prop}{E:Value→Shared→Prop}{lo hi:Int}{t u v:Tok}{tk:Nat}(I:Inv X pins σ H s)(h1:-(2 ^ 62)≤lo)(h2:lo<2 ^ 62)(h3:-(2 ^ 62)≤hi)(h4:hi<2 ^ 62)
  (q:R (Itr lo (hi-lo).toNat) H):wpAny (model X.prog X.w) X.A (pyIter (.ref s.heap.objs.size)) (PIE X pins σ tg R) E {s with heap:=s.heap.push {cls:=.type "range",data:=.fields #[.int lo t,.int hi u,.int 1 v]},toks:=tk}:=by
 refine wpAny_pyIter_range (IsRange.new ..) (small_one h1 h2 h3 h4) ?_;have I1:Inv X pins σ H {s with heap:=s.heap.push {cls:=.type "range",data:=.fields #[.int lo t,.int hi u,.int 1 v]},toks:=tk}:=I.kept fun b o e=>Heap.get?_push_of_some _ e
 refine⟨(s.heap.push {cls:=.type "range",data:=.fields #[.int lo t,.int hi u,.int 1 v]}).objs.size,[(s.heap.push {cls:=.type "range",data:=.fields #[.int lo t,.int hi u,.int 1 v]}).objs.size],_,_,H,rfl,
  I1.kept (t':=tk) fun b o e=>Heap.get?_push_of_some _ e,turn_range _ lo (hi-lo).toNat,?_,fun b hb=>?_,q⟩
 ·have e1:lo+((0:Nat):Int)*1=lo:=by simp
  have e2:(((hi-lo).toNat:Nat):Int)-((0:Nat):Int)=Builtin.Range.rangeSize lo hi 1:=by rw[rangeSize_one];split<;>omega
  show IsRangeIter _ _ (lo+((0:Nat):Int)*1) ((((hi-lo).toNat:Nat):Int)-((0:Nat):Int)) 1;rw[e1,e2];exact Heap.get?_push_size _ rfl
 ·have e:b=(s.heap.push {cls:=.type "range",data:=.fields #[.int lo t,.int hi u,.int 1 v]}).objs.size:=by simpa using hb
  subst e;exact I1.fpOk (Nat.le_refl _) (I1.hok.fresh (Nat.le_refl _))
def iRng1 (ta:TA):TI:=fun σ H R=>ta σ H fun vs H1=>∃ j:Int,vs=[.int j]∧-(2 ^ 62)≤j∧j<2 ^ 62∧R (Itr 0 j.toNat) H1
def iRng2 (ta:TA):TI:=fun σ H R=>ta σ H fun vs H1=>∃ i j:Int,vs=[.int i,.int j]∧(-(2 ^ 62)≤i∧i<2 ^ 62∧-(2 ^ 62)≤j∧j<2 ^ 62)∧R (Itr i (j-i).toNat) H1
theorem pi_range1 {a:Expr}{ta:TA}{p pos:Pos}(hg:Gl X "range")(hm:X.mg "range"=none)(ha:PA X [a] ta)(hs:starEach [a] X.env=[(false,eval a X.env)]:=by rfl):PI X tg (.Call (.Name "range" p) [a] [] pos) (iRng1 ta):=by
 intro pins s σ H R I h;refine Call_ (ld_blt I hg hm boot_range (PyProof.Rows.callWith_type1 (thn (ha pos pins s σ H _ I h) fun us s1 ⟨vs,H1,I1,r1,q1⟩=>?_) hs rfl));obtain⟨j,e,q1,q2,q⟩:=q1;subst e;cases r1 with
 | cons r rr =>
  cases rr;obtain⟨t,rfl⟩:=r;exact call_range_1 (range_it I1 (by omega) (by omega) q1 q2 (by simpa using q))
theorem pi_range2 {a b:Expr}{ta:TA}{p pos:Pos}(hg:Gl X "range")(hm:X.mg "range"=none)(ha:PA X [a,b] ta)(hs:starEach [a,b] X.env=[(false,eval a X.env),(false,eval b X.env)]:=by rfl)(hs2:starEach [b] X.env=[(false,eval b X.env)]:=by rfl) :
  PI X tg (.Call (.Name "range" p) [a,b] [] pos) (iRng2 ta):=by
 intro pins s σ H R I h;refine Call_ (ld_blt I hg hm boot_range (PyProof.Rows.callWith_type1 (thn (ha pos pins s σ H _ I h) fun us s1 ⟨vs,H1,I1,r1,q1⟩=>?_) (by rw[hs,hs2]) (by rw[hs2];rfl)));obtain⟨i,j,e,⟨q1,q2,q3,q4⟩,q⟩:=q1;subst e;cases r1 with
 | cons r rr =>
  cases rr with
  | cons r' rr =>
   cases rr;obtain⟨t,rfl⟩:=r;obtain⟨t',rfl⟩:=r';exact call_range_2 (range_it I1 q1 q2 q3 q4 q)
def tFor (wi:TI)(g:TG)(tb:TS):TS:=fun D σ H=>wi σ H fun J H1=>∃ W:Nat→Nat→St→Hp→Prop,(∃ m,W 0 m σ H1)∧∀ i m σ H,W i m σ H →
 (J.stop i H∧D.nx σ H)∨(J.go i H∧∃ N:St→Hp→Prop,(∀ σ' H',N σ' H'→∃ m',m'<m∧W (i+1) m' σ' H')∧∀ x H',J.yld i H x H'→g x σ H' fun σ2 H2=>tb {D with nx:=N,ct:=N,bk:=D.nx} σ2 H2)
def pinsAt (fp:List Addr)(h:Heap):List (Addr×Obj):=fp.filterMap fun b=>(h.get? b).map fun o=>(b,o)
theorem mem_pinsAt {fp:List Addr}{h:Heap}{b:Addr}{o:Obj}(hb:b∈fp)(e:h.get? b=some o):(b,o)∈pinsAt fp h:=List.mem_filterMap.mpr ⟨b,hb,by rw[e];rfl⟩
theorem of_pinsAt {fp:List Addr}{h:Heap}{p:Addr×Obj}(hp:p∈pinsAt fp h):p.1∈fp∧h.get? p.1=some p.2:=by
 obtain⟨b,hb,e⟩:=List.mem_filterMap.mp hp;cases q:h.get? b with
 | none=>rw[q] at e;cases e
 | some o =>
  rw[q] at e;have e':(b,o)=p:=Option.some.inj e;subst e';exact⟨hb,q⟩
theorem Inv.pinned {pins:List (Addr×Obj)}{σ:St}{H:Hp}{s:Shared}{fp:List Addr}(I:Inv X pins σ H s)(hf:∀ b∈fp,FpOk X pins H b)(ho:∀ b∈fp,∃ o,s.heap.get? b=some o∧∀ v,o.data≠.cell v):Inv X (pins++pinsAt fp s.heap) σ H s :=
 I.pins_of fun p hp=>(List.mem_append.mp hp).elim (fun z=>I.pin p (List.mem_append_right _ z)) fun z=>by
  obtain⟨hb,e⟩:=of_pinsAt z;obtain⟨f0,f1,f2,_⟩:=hf p.1 hb;obtain⟨o,e',d⟩:=ho p.1 hb;rw[e] at e';cases e';exact⟨e,f0,f1,f2,d⟩
theorem Inv.unpinned {pins pl:List (Addr×Obj)}{σ:St}{H:Hp}{s:Shared}(I:Inv X (pins++pl) σ H s):Inv X pins σ H s:=I.pins_of fun p hp=>I.pin p (List.mem_append_right _ (List.mem_append_left _ hp))
theorem ps_for {iter:Expr}{body:List Stmt}{wi:TI}{g:TG}{tb:TS}{pos:Pos}(hp:PassesOwn (model X.prog X.w) X.A X.env X.xe)(hc:X.calm=true)(hi:PI X tg iter wi)(hg:PG X tg g)(hb:PSs X body tb)
  (hs:∀ x,foldedSetIterable iter X.env x=pure x:=by intro _;rfl):PS X (.For tg iter body [] pos) (tFor wi g tb):=by
 intro pins s σ H D I h;refine wpAny_For (thn (hi pins s σ H _ I h) fun v s1 h1=>thn h1 fun itv s2 h2=>?_) hs;obtain⟨it,fp,tn,J,H2,e,I2,T,st2,f2,W,⟨m0,w0⟩,turn⟩:=h2;subst e;have stat:∀ {H':Hp},(∀ b∈fp,H' b=none)→∀ b∈fp,FpOk X pins H' b:=fun hn b hb=>⟨hn b hb,(f2 b hb).2⟩
 refine codeAny_forLoop_any (fun n s'=>∃ i σ' H',Inv X pins σ' H' s'∧tn i s'.heap∧(∀ b∈fp,H' b=none)∧W i n σ' H') ?_ m0 ⟨0,σ,H2,I2,st2,fun b hb=>(f2 b hb).1,w0⟩;rintro n s3 ⟨i,σ3,H3,I3,st3,fr3,w3⟩;rcases turn i n σ3 H3 w3 with ⟨stop,qn⟩ | ⟨go,N,hN,step⟩
 ·refine wpAny_passesOwn hp (thn (T.done X rfl rfl rfl hc i pins s3 σ3 H3 X.xe I3 (stat fr3) st3 stop) fun r s4 ⟨hr,I4⟩=>?_);subst hr;exact wpAny_execs_nil ⟨σ3,H3,I4,qn⟩
 ·refine wpAny_passesOwn hp (thn (T.item X rfl rfl rfl hc i pins s3 σ3 H3 X.xe I3 (stat fr3) st3 go) fun r s4 ⟨u,hr,h4⟩=>?_);subst hr;refine wpAny_passesOwn hp (thn h4 fun _ s5 ⟨x,H5,I5,r5,y5,st5,fr5⟩=>?_);have I5':=I5.pinned (stat fr5) (T.obj _ _ st5);refine wpAny_passesOwn hp (thn (hg _ s5 σ3 H5 x u _ I5' r5 (step x H5 y5)) fun _ s6 ⟨σ6,H6,I6,q6⟩=>?_);refine wpAny_passesOwn hp (thn (hb _ s6 σ6 H6 _ I6 q6) fun f s7 q7=>?_);have again:∀ {σ7:St} {H7:Hp},Inv X (pins++pinsAt fp s5.heap) σ7 H7 s7→N σ7 H7→∃ m,m<n∧∃ i σ' H',Inv X pins σ' H' s7∧tn i s7.heap∧(∀ b∈fp,H' b=none)∧W i m σ' H':=fun {σ7 H7} I7 n7=>by
   obtain⟨m',hm,w7⟩:=hN σ7 H7 n7;refine⟨m',hm,i+1,σ7,H7,I7.unpinned,T.keep _ _ _ st5 fun b hb o e=>(I7.pin (b,o) (List.mem_append_right _ (List.mem_append_right _ (mem_pinsAt hb e)))).1,fun b hb=>?_,w7⟩;obtain⟨o,e,d⟩:=T.obj _ _ st5 b hb;exact (I7.pin (b,o) (List.mem_append_right _ (List.mem_append_right _ (mem_pinsAt hb e)))).2.1
  cases f with
  | next=>obtain⟨σ7,H7,I7,n7⟩:=q7;exact again I7 n7
  | cont=>obtain⟨σ7,H7,I7,n7⟩:=q7;exact again I7 n7
  | brk=>obtain⟨σ7,H7,I7,q7⟩:=q7;exact⟨σ7,H7,I7.unpinned,q7⟩
  | ret v=>obtain⟨x7,σ7,H7,I7,r7,q7⟩:=q7;exact⟨x7,σ7,H7,I7.unpinned,r7,q7⟩
end
theorem for_list {K:PySem.W.Frag}{a:Addr}{xs:List V}{g:TG}{tb:TS}{D:Ends}{σ:St}{H:Hp}(Pv:Nat→St→Hp→Prop)(h0:Pv 0 σ H)(hl:∀ i σ H,i≤xs.length→Pv i σ H→SqL K H a xs)
  (hs:∀ i x σ H,xs[i]?=some x→Pv i σ H→g x σ H fun σ2 H2=>tb {D with nx:=Pv (i+1),ct:=Pv (i+1),bk:=D.nx} σ2 H2) (hd:∀ σ H,Pv xs.length σ H→D.nx σ H) :
  ∃ W:Nat→Nat→St→Hp→Prop,(∃ m,W 0 m σ H)∧∀ i m σ H,W i m σ H →
   ((Itl K a).stop i H∧D.nx σ H)∨((Itl K a).go i H∧∃ N:St→Hp→Prop,(∀ σ' H',N σ' H'→∃ m',m'<m∧W (i+1) m' σ' H')∧∀ x H',(Itl K a).yld i H x H'→g x σ H' fun σ2 H2=>tb {D with nx:=N,ct:=N,bk:=D.nx} σ2 H2):=by
 refine⟨fun i m σ H=>m=xs.length-i∧i≤xs.length∧Pv i σ H,⟨xs.length,by simp,Nat.zero_le _,h0⟩,?_⟩;rintro i m σ H ⟨rfl,hi,p⟩;have q:=hl i σ H hi p;by_cases hlt:i<xs.length
 ·refine .inr ⟨⟨xs,xs[i],q,by simp[hlt]⟩,Pv (i+1),fun σ' H' p'=>⟨xs.length-(i+1),by omega,rfl,hlt,p'⟩,fun x H' y=>?_⟩;obtain⟨e,y⟩:=y;subst e;exact hs i x σ _ (y xs q) p
 ·have e:i=xs.length:=by omega
  subst e;exact .inl ⟨⟨xs,q,Nat.le_refl _⟩,hd σ H p⟩
theorem for_tup {K:PySem.W.Frag}{a:Addr}{xs:List V}{g:TG}{tb:TS}{D:Ends}{σ:St}{H:Hp}(Pv:Nat→St→Hp→Prop)(h0:Pv 0 σ H)(hl:∀ i σ H,i≤xs.length→Pv i σ H→SqT K H a xs)
  (hs:∀ i x σ H,xs[i]?=some x→Pv i σ H→g x σ H fun σ2 H2=>tb {D with nx:=Pv (i+1),ct:=Pv (i+1),bk:=D.nx} σ2 H2) (hd:∀ σ H,Pv xs.length σ H→D.nx σ H) :
  ∃ W:Nat→Nat→St→Hp→Prop,(∃ m,W 0 m σ H)∧∀ i m σ H,W i m σ H →
   ((Itt K a).stop i H∧D.nx σ H)∨((Itt K a).go i H∧∃ N:St→Hp→Prop,(∀ σ' H',N σ' H'→∃ m',m'<m∧W (i+1) m' σ' H')∧∀ x H',(Itt K a).yld i H x H'→g x σ H' fun σ2 H2=>tb {D with nx:=N,ct:=N,bk:=D.nx} σ2 H2):=by
 refine⟨fun i m σ H=>m=xs.length-i∧i≤xs.length∧Pv i σ H,⟨xs.length,by simp,Nat.zero_le _,h0⟩,?_⟩;rintro i m σ H ⟨rfl,hi,p⟩;have q:=hl i σ H hi p;by_cases hlt:i<xs.length
 ·refine .inr ⟨⟨xs,xs[i],q,by simp[hlt]⟩,Pv (i+1),fun σ' H' p'=>⟨xs.length-(i+1),by omega,rfl,hlt,p'⟩,fun x H' y=>?_⟩;obtain⟨e,y⟩:=y;subst e;exact hs i x σ _ (y xs q) p
 ·have e:i=xs.length:=by omega
  subst e;exact .inl ⟨⟨xs,q,Nat.le_refl _⟩,hd σ H p⟩
theorem for_range {lo:Int}{n:Nat}{g:TG}{tb:TS}{D:Ends}{σ:St}{H:Hp}(Pv:Nat→St→Hp→Prop)(h0:Pv 0 σ H)
  (hs:∀ i σ H,i<n→Pv i σ H→g (.int (lo+i)) σ H fun σ2 H2=>tb {D with nx:=Pv (i+1),ct:=Pv (i+1),bk:=D.nx} σ2 H2) (hd:∀ σ H,Pv n σ H→D.nx σ H) :
  ∃ W:Nat→Nat→St→Hp→Prop,(∃ m,W 0 m σ H)∧∀ i m σ H,W i m σ H →
   ((Itr lo n).stop i H∧D.nx σ H)∨((Itr lo n).go i H∧∃ N:St→Hp→Prop,(∀ σ' H',N σ' H'→∃ m',m'<m∧W (i+1) m' σ' H')∧∀ x H',(Itr lo n).yld i H x H'→g x σ H' fun σ2 H2=>tb {D with nx:=N,ct:=N,bk:=D.nx} σ2 H2):=by
 refine⟨fun i m σ H=>m=n-i∧i≤n∧Pv i σ H,⟨n,by simp,Nat.zero_le _,h0⟩,?_⟩;rintro i m σ H ⟨rfl,hi,p⟩;by_cases hlt:i<n
 ·refine .inr ⟨hlt,Pv (i+1),fun σ' H' p'=>⟨n-(i+1),by omega,rfl,hlt,p'⟩,fun x H' y=>?_⟩;obtain⟨e,y⟩:=y;subst e y;exact hs i σ _ hlt p
 ·have e:i=n:=by omega
  subst e;exact .inl ⟨Nat.le_refl _,hd σ H p⟩
theorem while_by {c:TT}{tb:TS}{D:Ends}{σ:St}{H:Hp}(Pv:St→Hp→Prop)(μ:St→Hp→Nat)(h0:Pv σ H)
  (hs:∀ σ H,Pv σ H→c σ H fun b H1=>if b=true then tb {D with nx:=fun σ' H'=>Pv σ' H'∧μ σ' H'<μ σ H,ct:=fun σ' H'=>Pv σ' H'∧μ σ' H'<μ σ H,bk:=D.nx} σ H1 else D.nx σ H1)
  (mono:∀ σ H Q Q',(∀ b H1,Q b H1→Q' b H1)→c σ H Q→c σ H Q'):tWhile c tb D σ H:=by
 refine⟨fun m σ H=>m=μ σ H∧Pv σ H,⟨_,rfl,h0⟩,?_⟩;rintro m σ H ⟨rfl,p⟩;refine mono σ H _ _ (fun b H1 q=>?_) (hs σ H p);cases b with
 | true=>exact⟨_,fun σ' H' ⟨p',l⟩=>⟨_,l,rfl,p'⟩,q⟩
 | false=>exact q
end L2
namespace L2
open PySem PySem.Spec PyProof.Rows
abbrev R2:=V→V→Hp→VK→Prop
def OpR (X:Cx)(f:Value→Value→Sem Value)(r:R2):Prop :=
 ∀ (pins:List (Addr×Obj)) (s:Shared) (σ:St) (H:Hp) (x y:V) (v u:Value) (Q:VK),Inv X pins σ H s→RelV x v→RelV y u→r x y H Q →
  wpAny (model X.prog X.w) X.A (f v u) (EP X pins σ Q) X.xe s
def UnR (X:Cx)(f:Value→Sem Value)(r:V→Hp→VK→Prop):Prop :=
 ∀ (pins:List (Addr×Obj)) (s:Shared) (σ:St) (H:Hp) (x:V) (v:Value) (Q:VK),Inv X pins σ H s→RelV x v→r x H Q →
  wpAny (model X.prog X.w) X.A (f v) (EP X pins σ Q) X.xe s
def CallR (X:Cx)(f:Value)(r:List V→Hp→VK→Prop):Prop :=
 ∀ (pins:List (Addr×Obj)) (s:Shared) (σ:St) (H:Hp) (xs:List V) (us:List Value) (Q:VK),Inv X pins σ H s→Vals xs us→r xs H Q →
  wpAny (model X.prog X.w) X.A (call f us) (EP X pins σ Q) X.xe s
def TruR (X:Cx)(r:V→Hp→(Bool→Hp→Prop)→Prop):Prop :=
 ∀ (pins:List (Addr×Obj)) (s:Shared) (σ:St) (H:Hp) (x:V) (v:Value) (Q:Bool→Hp→Prop),Inv X pins σ H s→RelV x v→r x H Q →
  wpAny (model X.prog X.w) X.A (truthy v) (TP X pins σ Q) X.xe s
def tOp (r:R2)(ta tb:TE):TE:=fun σ H Q=>ta σ H fun x H1=>tb σ H1 fun y H2=>r x y H2 Q
def tUn (r:V→Hp→VK→Prop)(ta:TE):TE:=fun σ H Q=>ta σ H fun x H1=>r x H1 Q
def rI (C:Int→Int→Prop)(g:Int→Int→V):R2:=fun x y H Q=>∃ i j,x=.int i∧y=.int j∧C i j∧Q (g i j) H
def rI0 (g:Int→Int→V):R2:=fun x y H Q=>∃ i j,x=.int i∧y=.int j∧Q (g i j) H
def rU (g:Int→V):V→Hp→VK→Prop:=fun x H Q=>∃ i,x=.int i∧Q (g i) H
section
variable {X:Cx}{a b c:Expr}{ta tb tc:TE}{pos:Pos}
theorem binT (ha:PE X a ta)(hb:PE X b tb){pins:List (Addr×Obj)}{s:Shared}{σ:St}{H:Hp}{R:V→V→Hp→Prop}(I:Inv X pins σ H s)
  (h:ta σ H fun x H1=>tb σ H1 fun y H2=>R x y H2) {Q:Value→Shared→Prop} {f:Value→Value→Sem Value}
  (hf:∀ v u s2 x y H2,Inv X pins σ H2 s2→RelV x v→RelV y u→R x y H2→wpAny (model X.prog X.w) X.A (f v u) Q X.xe s2) :
  wpAny (model X.prog X.w) X.A (eval a X.env) (fun v s₁=>wpAny (model X.prog X.w) X.A (eval b X.env) (fun u s₂=>wpAny (model X.prog X.w) X.A (f v u) Q X.xe s₂) X.xe s₁) X.xe s:=by
 refine thn (ha pins s σ H _ I h) fun v s1 ⟨x,H1,I1,r1,q1⟩=>?_
 refine thn (hb pins s1 σ H1 _ I1 q1) fun u s2 ⟨y,H2,I2,r2,q2⟩=>?_
 exact hf v u s2 x y H2 I2 r1 r2 q2
theorem pe_op {op:Operator}{r:R2}(ho:OpR X (binaryOp op) r)(ha:PE X a ta)(hb:PE X b tb):PE X (.BinOp a op b pos) (tOp r ta tb):=by
 intro pins s σ H Q I h;exact wpAny_BinOp (binT ha hb I h fun v u s2 x y H2 I2 rx ry q=>ho pins s2 σ H2 x y v u Q I2 rx ry q)
theorem pe_un {op:UnaryOp}{r:V→Hp→VK→Prop}(ho:UnR X (unaryOp op) r)(ha:PE X a ta):PE X (.UnaryOp op a pos) (tUn r ta):=by
 intro pins s σ H Q I h;exact UnaryOp_ (thn (ha pins s σ H _ I h) fun v s1 ⟨x,H1,I1,r1,q1⟩=>ho pins s1 σ H1 x v Q I1 r1 q1)
theorem opI {f:Value→Value→Sem Value}{C:Int→Int→Prop}{g:Int→Int→Int}
  (rule:∀ (i j:Int) (t u:Tok) (s:Shared) (Q:Value→Shared→Prop) (E:Value→Shared→Prop),C i j→Q (.int (g i j) s.toks) {s with toks:=s.toks+1}→wpAny (model X.prog X.w) X.A (f (.int i t) (.int j u)) Q E s) :
  OpR X f (rI C fun i j=>.int (g i j)):=by
 intro pins s σ H x y v u Q I rx ry h;obtain⟨i,j,rfl,rfl,hc,q⟩:=h;obtain⟨t,rfl⟩:=rx;obtain⟨t',rfl⟩:=ry;exact rule i j t t' s _ _ hc ⟨.int (g i j),H,I.tok _,⟨_,rfl⟩,q⟩
theorem opI0 {f:Value→Value→Sem Value}{g:Int→Int→Int}
  (rule:∀ (i j:Int) (t u:Tok) (s:Shared) (Q:Value→Shared→Prop) (E:Value→Shared→Prop),Q (.int (g i j) s.toks) {s with toks:=s.toks+1}→wpAny (model X.prog X.w) X.A (f (.int i t) (.int j u)) Q E s) :
  OpR X f (rI0 fun i j=>.int (g i j)):=by
 intro pins s σ H x y v u Q I rx ry h;obtain⟨i,j,rfl,rfl,q⟩:=h;obtain⟨t,rfl⟩:=rx;obtain⟨t',rfl⟩:=ry;exact rule i j t t' s _ _ ⟨.int (g i j),H,I.tok _,⟨_,rfl⟩,q⟩
theorem opB0 {f:Value→Value→Sem Value}{g:Int→Int→Bool}
  (rule:∀ (i j:Int) (t u:Tok) (s:Shared) (Q:Value→Shared→Prop) (E:Value→Shared→Prop),Q (.bool (g i j)) s→wpAny (model X.prog X.w) X.A (f (.int i t) (.int j u)) Q E s) :
  OpR X f (rI0 fun i j=>.bl (g i j)):=by
 intro pins s σ H x y v u Q I rx ry h;obtain⟨i,j,rfl,rfl,q⟩:=h;obtain⟨t,rfl⟩:=rx;obtain⟨t',rfl⟩:=ry;exact rule i j t t' s _ _ ⟨.bl (g i j),H,I,rfl,q⟩
def CDiv (i j:Int):Prop:=0<j∧j<1073741824
def CPow (i j:Int):Prop:=0≤j∧j≤1000000∧i.natAbs<2 ^ 64
def CMul (i j:Int):Prop:=(-(2 ^ 64)<i∧i<2 ^ 64)∨(-(2 ^ 64)<j∧j<2 ^ 64)
theorem CMul.ok {i j:Int}(h:CMul i j):IntMulOk i j:=by
 rcases h with ⟨h1,h2⟩ | ⟨h1,h2⟩
 ·exact .of_left (intBits_le_64 h1 h2)
 ·exact .of_right (intBits_le_64 h1 h2)
theorem op_add:OpR X (binaryOp .Add) (rI0 fun i j=>.int (i+j)):=opI0 fun _ _ _ _ _ _ _ q=>add_int q
theorem op_sub:OpR X (binaryOp .Sub) (rI0 fun i j=>.int (i-j)):=opI0 fun _ _ _ _ _ _ _ q=>sub_int q
theorem op_mul:OpR X (binaryOp .Mult) (rI CMul fun i j=>.int (i*j)):=opI fun _ _ _ _ _ _ _ hc q=>mul_int q hc.ok
theorem op_fdiv:OpR X (binaryOp .FloorDiv) (rI CDiv fun i j=>.int (i / j)):=opI fun i j _ _ _ _ _ hc q=>by
 have h1:(0:Int)<j:=hc.1;have h2:j<1073741824:=hc.2;exact floordiv_int (by omega) (by rw[Int.fdiv_eq_ediv_of_nonneg i (by omega)];exact q) (.inl (PyProof.noPylong_small (by omega)))
theorem op_mod:OpR X (binaryOp .Mod) (rI (fun _ j=>0<j) fun i j=>.int (i % j)):=opI fun i j _ _ _ _ _ hc q=>by
 have h1:(0:Int)<j:=hc;exact mod_int' (by omega) (by rw[Int.fmod_eq_emod_of_nonneg i (by omega)];exact q)
theorem op_pow:OpR X (binaryOp .Pow) (rI CPow fun i j=>.int (i ^ j.toNat)):=opI fun _ _ _ _ _ _ _ hc q=>pow_int_small hc.1 hc.2.1 hc.2.2 q
theorem unI {f:Value→Sem Value}{g:Int→Int}
  (rule:∀ (i:Int) (t:Tok) (s:Shared) (Q:Value→Shared→Prop) (E:Value→Shared→Prop),Q (.int (g i) s.toks) {s with toks:=s.toks+1}→wpAny (model X.prog X.w) X.A (f (.int i t)) Q E s) :
  UnR X f (rU fun i=>.int (g i)):=by
 intro pins s σ H x v Q I rx h;obtain⟨i,rfl,q⟩:=h;obtain⟨t,rfl⟩:=rx;exact rule i t s _ _ ⟨.int (g i),H,I.tok _,⟨_,rfl⟩,q⟩
theorem un_neg:UnR X (unaryOp .USub) (rU fun i=>.int (-i)):=unI fun _ _ _ _ _ q=>neg_int q
end
def scal:V→V→Bool
 | .non,.non=>true | .non,.int _=>true | .int _,.non=>true | .non,.bl _=>true | .bl _,.non=>true | .non,.str _=>true | .str _,.non=>true
 | .int _,.int _=>true | .bl _,.bl _=>true | .str _,.str _=>true | .byt _,.byt _=>true
 | .int _,.str _=>true | .str _,.int _=>true | .bl _,.str _=>true | .str _,.bl _=>true
 | _,_=>false
def rEq:R2:=fun x y H Q=>scal x y=true∧Q (.bl (decide (x=y))) H
def rNe:R2:=fun x y H Q=>scal x y=true∧Q (.bl (!decide (x=y))) H
theorem dec_int {i j:Int}:decide (V.int i=V.int j)=(i == j):=by
 rw[Bool.eq_iff_iff];simp
theorem dec_bl {i j:Bool}:decide (V.bl i=V.bl j)=(i == j):=by
 rw[Bool.eq_iff_iff];simp
theorem dec_str {i j:Str}:decide (V.str i=V.str j)=(i == j):=by
 rw[Bool.eq_iff_iff];simp
theorem dec_byt {i j:Array UInt8}:decide (V.byt i=V.byt j)=(i.toList == j.toList):=by
 rw[Bool.eq_iff_iff];cases i;cases j;simp
section
variable {X:Cx}{a b c:Expr}{ta tb tc:TE}{pos:Pos}
theorem fin_bl {pins:List (Addr×Obj)}{σ:St}{H:Hp}{s:Shared}{Q:VK}{k k':Bool}(I:Inv X pins σ H s)(q:Q (.bl k) H)(e:k=k'):EP X pins σ Q (.bool k') s:=by
 subst e;exact⟨.bl k,H,I,rfl,q⟩
theorem op_eq:OpR X (compareOp .Eq) rEq:=by
 intro pins s σ H x y v u Q I rx ry h;obtain⟨hs,q⟩:=h;cases x with
 | non =>
  cases rx;cases y with
  | non=>cases ry;exact PySem.EqNone.eq_none_none (fin_bl I q (by simp))
  | bl j=>cases ry;exact PySem.EqNone.eq_none_bool (fin_bl I q (by simp))
  | int j=>obtain⟨t',rfl⟩:=ry;exact PySem.EqNone.eq_none_int (fin_bl I q (by simp))
  | str j=>obtain⟨t',rfl⟩:=ry;exact PySem.EqNone.eq_none_str (fin_bl I q (by simp))
  | _=>exact absurd (show false=true from hs) Bool.false_ne_true
 | bl i =>
  cases rx;cases y with
  | non=>cases ry;exact PySem.EqNone.eq_bool_none (fin_bl I q (by simp))
  | bl j=>cases ry;exact eq_bool (fin_bl I q dec_bl)
  | str j=>obtain⟨t',rfl⟩:=ry;exact PySem.EqMixed.eq_bool_str (fin_bl I q (by simp))
  | _=>exact absurd (show false=true from hs) Bool.false_ne_true
 | int i =>
  obtain⟨t,rfl⟩:=rx;cases y with
  | non=>cases ry;exact PySem.EqNone.eq_int_none (fin_bl I q (by simp))
  | int j=>obtain⟨t',rfl⟩:=ry;exact eq_int (fin_bl I q dec_int)
  | str j=>obtain⟨t',rfl⟩:=ry;exact PySem.EqMixed.eq_int_str (fin_bl I q (by simp))
  | _=>exact absurd (show false=true from hs) Bool.false_ne_true
 | str i =>
  obtain⟨t,rfl⟩:=rx;cases y with
  | non=>cases ry;exact PySem.EqNone.eq_str_none (fin_bl I q (by simp))
  | bl j=>cases ry;exact PySem.EqMixed.eq_str_bool (fin_bl I q (by simp))
  | int j=>obtain⟨t',rfl⟩:=ry;exact PySem.EqMixed.eq_str_int (fin_bl I q (by simp))
  | str j=>obtain⟨t',rfl⟩:=ry;exact eq_str (fin_bl I q dec_str)
  | _=>exact absurd (show false=true from hs) Bool.false_ne_true
 | byt i =>
  obtain⟨t,rfl⟩:=rx;cases y with
  | byt j=>obtain⟨t',rfl⟩:=ry;exact PySem.W.eq_bytes (fin_bl I q dec_byt)
  | _=>exact absurd (show false=true from hs) Bool.false_ne_true
 | _=>cases y<;>exact absurd (show false=true from hs) Bool.false_ne_true
theorem op_ne:OpR X (compareOp .NotEq) rNe:=by
 intro pins s σ H x y v u Q I rx ry h;obtain⟨hs,q⟩:=h;cases x with
 | non =>
  cases rx;cases y with
  | non=>cases ry;exact PySem.EqNone.ne_none_none (fin_bl I q (by simp))
  | bl j=>cases ry;exact PySem.EqNone.ne_none_bool (fin_bl I q (by simp))
  | int j=>obtain⟨t',rfl⟩:=ry;exact PySem.EqNone.ne_none_int (fin_bl I q (by simp))
  | str j=>obtain⟨t',rfl⟩:=ry;exact PySem.EqNone.ne_none_str (fin_bl I q (by simp))
  | _=>exact absurd (show false=true from hs) Bool.false_ne_true
 | bl i =>
  cases rx;cases y with
  | non=>cases ry;exact PySem.EqNone.ne_bool_none (fin_bl I q (by simp))
  | bl j=>cases ry;exact ne_bool (fin_bl I q (congrArg not dec_bl))
  | str j=>obtain⟨t',rfl⟩:=ry;exact PySem.EqMixed.ne_bool_str (fin_bl I q (by simp))
  | _=>exact absurd (show false=true from hs) Bool.false_ne_true
 | int i =>
  obtain⟨t,rfl⟩:=rx;cases y with
  | non=>cases ry;exact PySem.EqNone.ne_int_none (fin_bl I q (by simp))
  | int j=>obtain⟨t',rfl⟩:=ry;exact ne_int (fin_bl I q (congrArg not dec_int))
  | str j=>obtain⟨t',rfl⟩:=ry;exact PySem.EqMixed.ne_int_str (fin_bl I q (by simp))
  | _=>exact absurd (show false=true from hs) Bool.false_ne_true
 | str i =>
  obtain⟨t,rfl⟩:=rx;cases y with
  | non=>cases ry;exact PySem.EqNone.ne_str_none (fin_bl I q (by simp))
  | bl j=>cases ry;exact PySem.EqMixed.ne_str_bool (fin_bl I q (by simp))
  | int j=>obtain⟨t',rfl⟩:=ry;exact PySem.EqMixed.ne_str_int (fin_bl I q (by simp))
  | str j=>obtain⟨t',rfl⟩:=ry;exact ne_str (fin_bl I q (congrArg not dec_str))
  | _=>exact absurd (show false=true from hs) Bool.false_ne_true
 | byt i =>
  obtain⟨t,rfl⟩:=rx;cases y with
  | byt j=>obtain⟨t',rfl⟩:=ry;exact PySem.W.ne_bytes (fin_bl I q (congrArg not dec_byt))
  | _=>exact absurd (show false=true from hs) Bool.false_ne_true
 | _=>cases y<;>exact absurd (show false=true from hs) Bool.false_ne_true
theorem op_lt:OpR X (compareOp .Lt) (rI0 fun i j=>.bl (decide (i<j))):=opB0 fun _ _ _ _ _ _ _ q=>lt_int q
theorem op_le:OpR X (compareOp .LtE) (rI0 fun i j=>.bl (decide (i≤j))):=opB0 fun _ _ _ _ _ _ _ q=>le_int q
theorem op_gt:OpR X (compareOp .Gt) (rI0 fun i j=>.bl (decide (j<i))):=opB0 fun _ _ _ _ _ _ _ q=>gt_int q
theorem op_ge:OpR X (compareOp .GtE) (rI0 fun i j=>.bl (decide (j≤i))):=opB0 fun _ _ _ _ _ _ _ q=>ge_int q
theorem nomark (b:Expr){op:CmpOp}(h:op≠.In:=by decide)(h2:op≠.NotIn:=by decide):behindInMarks op b=false:=by
 have e1:(op == CmpOp.In)=false:=by cases op<;>first | rfl | exact absurd rfl h
 have e2:(op == CmpOp.NotIn)=false:=by cases op<;>first | rfl | exact absurd rfl h2
 cases b<;>simp[behindInMarks,e1,e2]
theorem pe_cmpR {op:CmpOp}{r:R2}(ho:OpR X (compareOp op) r)(ha:PE X a ta)(hb:PE X b tb)(hm:behindInMarks op b=false):PE X (.Compare a [op] [b] pos) (tOp r ta tb):=by
 intro pins s σ H Q I h;exact wpAny_Compare1 (binT ha hb I h fun v u s2 x y H2 I2 rx ry q=>ho pins s2 σ H2 x y v u Q I2 rx ry q) hm
def tTest (t:TE):TT:=fun σ H Q=>t σ H fun x H'=>∃ k,x=.bl k∧Q k H'
theorem pt_cmpR {op:CmpOp}{r:R2}(ho:OpR X (compareOp op) r)(ha:PE X a ta)(hb:PE X b tb)(hm:behindInMarks op b=false):PT X (.Compare a [op] [b] pos) (tTest (tOp r ta tb)):=by
 intro pins s σ H Q I h
 refine wpAny_isTrue_Compare1 (thn (ha pins s σ H _ I h) fun v s1 ⟨x,H1,I1,r1,q1⟩=>thn (hb pins s1 σ H1 _ I1 q1) fun u s2 ⟨y,H2,I2,r2,q2⟩ =>
  thn (ho pins s2 σ H2 x y v u _ I2 r1 r2 q2) fun c s3 ⟨z,H3,I3,r3,k,e,q3⟩=>?_) hm
 subst e;cases r3;exact wpAny_truthy_bool ⟨H3,I3,q3⟩
def tChain (r r':R2)(ta tb tc:TE):TE:=fun σ H Q=>ta σ H fun x H1=>tb σ H1 fun y H2=>r x y H2 fun z H3=>∃ k,z=.bl k ∧
 (if k=true then tc σ H3 fun w' H4=>r' y w' H4 Q else Q (.bl false) H3)
theorem pe_chain {op op':CmpOp}{r r':R2}(ho:OpR X (compareOp op) r)(ho':OpR X (compareOp op') r')(ha:PE X a ta)(hb:PE X b tb)(hc:PE X c tc)
  (hm:lastMarks [op,op'] [b,c]=false:=by with_unfolding_all rfl):PE X (.Compare a [op,op'] [b,c] pos) (tChain r r' ta tb tc):=by
 intro pins s σ H Q I h
 refine Compare_chain (thn (ha pins s σ H _ I h) fun v s1 ⟨x,H1,I1,r1,q1⟩=>chain_link (thn (hb pins s1 σ H1 _ I1 q1) fun u s2 ⟨y,H2,I2,r2,q2⟩ =>
  thn (ho pins s2 σ H2 x y v u _ I2 r1 r2 q2) fun d s3 ⟨z,H3,I3,r3,k,e,q3⟩=>?_)) hm
 subst e;cases r3;refine wpAny_truthy_bool ?_;cases k with
 | false=>exact ite_ff ⟨.bl false,H3,I3,rfl,q3⟩
 | true=>exact ite_tt (chain_last (thn (hc pins s3 σ H3 _ I3 q3) fun w' s4 ⟨z',H4,I4,r4,q4⟩=>ho' pins s4 σ H4 y z' u w' Q I4 r2 r4 q4))
def TruV (K:PySem.W.Frag)(x:V)(H:Hp)(k:Bool):Prop :=
 match x with
 | .non=>k=false
 | .bl b=>k=b
 | .int i=>k=(i != 0)
 | .str y=>y.length≤sizeLine∧k=((y.length:Int) != 0)
 | .byt y=>y.size≤sizeLine∧k=((y.size:Int) != 0)
 | .ref p=>(∃ xs,SqL K H p xs∧k=!xs.isEmpty)∨(∃ xs,SqT K H p xs∧k=!xs.isEmpty)∨∃ kvs,H p=some (.dK kvs)∧k=!kvs.isEmpty
 | _=>False
theorem isEmpty_kv {κ:Type}{kvs:List (κ×V)}{vs:List (κ×Value)}(r:KV kvs vs):(!vs.isEmpty)=!kvs.isEmpty:=by
 cases r<;>rfl
theorem isEmpty_of {xs:List V}{its:List Value}(r:Vals xs its):(!its.toArray.isEmpty)=!xs.isEmpty:=by
 cases r<;>simp
theorem line63:(sizeLine:Nat)<2 ^ 63:=by rw[sizeLine_eq];decide
theorem tru_ok:TruR X (fun x H Q=>∃ k,TruV X.K x H k∧Q k H):=by
 intro pins s σ H x v Q I rx h;obtain⟨k,e,q⟩:=h;have hl:=line63;have hs:sizeLine=16777216:=sizeLine_eq;cases x with
 | non =>
  cases rx;have e':k=false:=e;subst e';exact truthy_none ⟨H,I,q⟩
 | bl b =>
  cases rx;have e':k=b:=e;subst e';exact wpAny_truthy_bool ⟨H,I,q⟩
 | int i =>
  obtain⟨t,rfl⟩:=rx;have e':k=(i != 0):=e;subst e';exact PySem.P.truthy_int ⟨H,I,q⟩
 | str y =>
  obtain⟨t,rfl⟩:=rx;obtain⟨hy,e'⟩:y.length≤sizeLine∧k=((y.length:Int) != 0):=e;subst e';exact PySem.P.truthy_str (by omega) ⟨H,I.tok _,q⟩
 | byt y =>
  obtain⟨t,rfl⟩:=rx;obtain⟨hy,e'⟩:y.size≤sizeLine∧k=((y.size:Int) != 0):=e;subst e';exact PySem.W.truthy_bytes (by omega) ⟨H,I.tok _,q⟩
 | ref p =>
  cases rx;have e':(∃ xs,SqL X.K H p xs∧k=!xs.isEmpty)∨(∃ xs,SqT X.K H p xs∧k=!xs.isEmpty)∨∃ kvs,H p=some (.dK kvs)∧k=!kvs.isEmpty:=e;rcases e' with ⟨xs,hx,e'⟩ | ⟨xs,hx,e'⟩ | ⟨kvs,hx,e'⟩
  ·subst e';obtain⟨its,r,pl,hz⟩:=I.list hx;have hlen:=r.length;exact wpAny_truthy_list pl.isList (by simp only[List.size_toArray];omega) ⟨H,I.tok _,by rw[isEmpty_of r];exact q⟩
  ·subst e';obtain⟨its,r,pl,hz⟩:=I.tuple hx;have hlen:=r.length;exact truthy_tuple pl (by simp only[List.size_toArray];omega) ⟨H,I.tok _,by rw[isEmpty_of r];exact q⟩
  ·subst e';obtain⟨hz,hS,vs,r,m⟩:kvs.length≤sizeLine∧(p == sysModules)=false∧∃ vs,KV kvs vs∧s.heap.DictOf (mixKind X.prog X.w) p vs:=I.hok p _ hx;have hlen:kvs.length=vs.length:=Paired.length r;exact wpAny_truthy_dict hS m (by omega) ⟨H,I.tok _,by rw[isEmpty_kv r];exact q⟩
 | _=>exact (show False from e).elim
theorem pt_truth (ha:PE X a ta)(he:∀ whole,isTrue a X.env whole=(do let v ← whole;standAt a.pos;holding [v] (truthy v))) :
  PT X a (fun σ H Q=>ta σ H fun x H'=>∃ k,TruV X.K x H' k∧Q k H'):=by
 intro pins s σ H Q I h;exact isTrue_plain (thn (ha pins s σ H _ I h) fun v s1 ⟨x,H1,I1,r1,q1⟩=>tru_ok pins s1 σ H1 x v Q I1 r1 q1) (he _)
theorem vals1 {x:V}{us:List Value}(r:Vals [x] us):∃ u,us=[u]∧RelV x u:=by
 cases r with
 | cons r1 r2=>cases r2;exact⟨_,rfl,r1⟩
theorem vals2 {x y:V}{us:List Value}(r:Vals [x,y] us):∃ u w',us=[u,w']∧RelV x u∧RelV y w':=by
 cases r with
 | cons r1 r2 =>
  cases r2 with
  | cons r3 r4=>cases r4;exact⟨_,_,rfl,r1,r3⟩
theorem call_max2 (hc:X.calm=true):CallR X (.builtin "max") (fun xs H Q=>∃ i j,xs=[.int i,.int j]∧Q (.int (if j>i then j else i)) H):=by
 intro pins s σ H xs us Q I r h;obtain⟨i,j,rfl,q⟩:=h;obtain⟨u,w',rfl,⟨t,rfl⟩,⟨t',rfl⟩⟩:=vals2 r;refine max_two_ints (I.ok.hd hc) fun h' tk k=>⟨_,H,I.kept k,?_,q⟩
 by_cases hj:j>i
 ·rw[if_pos hj,if_pos hj];exact⟨_,rfl⟩
 ·rw[if_neg hj,if_neg hj];exact⟨_,rfl⟩
theorem call_min2 (hc:X.calm=true):CallR X (.builtin "min") (fun xs H Q=>∃ i j,xs=[.int i,.int j]∧Q (.int (if j<i then j else i)) H):=by
 intro pins s σ H xs us Q I r h;obtain⟨i,j,rfl,q⟩:=h;obtain⟨u,w',rfl,⟨t,rfl⟩,⟨t',rfl⟩⟩:=vals2 r;refine min_two_ints (I.ok.hd hc) fun h' tk k=>⟨_,H,I.kept k,?_,q⟩
 by_cases hj:j<i
 ·rw[if_pos hj,if_pos hj];exact⟨_,rfl⟩
 ·rw[if_neg hj,if_neg hj];exact⟨_,rfl⟩
theorem call_int1:CallR X (.type "int") (fun xs H Q=>(∃ i,xs=[.int i]∧Q (.int i) H)∨∃ k,xs=[.bl k]∧Q (.int (if k then 1 else 0)) H):=by
 intro pins s σ H xs us Q I r h;rcases h with ⟨i,rfl,q⟩ | ⟨k,rfl,q⟩
 ·obtain⟨u,rfl,t,rfl⟩:=vals1 r;exact call_int_int ⟨.int i,H,I,⟨_,rfl⟩,q⟩
 ·obtain⟨u,rfl,r1⟩:=vals1 r;cases r1;exact call_int_bool ⟨.int (if k then 1 else 0),H,I.tok _,⟨_,rfl⟩,q⟩
end
end L2
namespace L2
open PySem PySem.Spec PyProof.Rows
structure ObjM (h:Heap)(x dx C:Addr)(mA:Str→Option Value):Prop where
 obj:h.get? x=some (PySem.W.instObj C dx)
 ns:h.Ns1 dx mA
 ne:dx≠x
theorem lookIn_ns {h:Heap}{dx:Addr}{mA:Str→Option Value}(n:h.Ns1 dx mA):∃ od,h.get? dx=some od∧∀ name,PySem.W.lookIn name od=some (mA name):=by
 obtain⟨o,es,ep,ho,hd,hk,_,hm⟩:=n;refine⟨o,ho,fun name=>?_⟩;have e:=hm name;unfold nsFind findBy at e;rw[← Array.find?_toList] at e;unfold PySem.W.lookIn;rw[hd];dsimp only;split
 ·rename_i y q;rw[q] at e;exact congrArg some e
 ·rename_i q;rw[q] at e;have a:es.toList.any (·.refKey)=false:=by
   rw[List.any_eq_false];intro y hy;obtain⟨z,t,hkey⟩:=hk y (Array.mem_toList_iff.mp hy);simp[DictEntry.refKey,hkey]
  have a':¬ es.toList.any (·.refKey)=true:=by rw[a];exact Bool.false_ne_true
  rw[if_neg a'];exact congrArg some e
theorem ObjM.look {h:Heap}{x dx C:Addr}{mA:Str→Option Value}(I:ObjM h x dx C mA):∃ od,PySem.W.InstAt h x (PySem.W.instObj C dx) C (some od)∧∀ name,PySem.W.lookIn name od=some (mA name) :=
 let ⟨od,ho,hl⟩:=lookIn_ns I.ns
 ⟨od,⟨I.obj,rfl,rfl,ho⟩,hl⟩
section
variable {P:Program}{w:World}{H H':Hp}{h h':Heap}{a C dx:Addr}{fs fs':List (Str×V)}
theorem ins_get (hok:HOk P w H h)(e:H a=some (.ins C dx fs)):∃ mA,ObjM h a dx C mA∧(∀ f,RelO (fs.lookup f) (mA f))∧PySem.Within mA (fs.map (·.1))∧fs.length≤1000∧H dx=some (.own a):=by
 obtain⟨d,z,ne,ob,mA,n,r,q⟩:=(show ObjOk P w H h a (.ins C dx fs) from hok a _ e)
 exact⟨mA,⟨ob,n,ne⟩,r,q,z,d⟩
end
structure Cls (K:PySem.W.Frag)(C:Addr):Prop where
 pg:PySem.W.plainGet K C Str.empty=true
 hd:PySem.W.hasDictIn K C=true
 po:PySem.W.plainOver K C=true
 sa:PySem.W.findIn K (.ref C) "__setattr__"=some (some (.builtin "object.__setattr__"))
theorem Cls.get {K:PySem.W.Frag}{C:Addr}(c:Cls K C)(f:Str):PySem.W.plainGet K C f=true:=c.pg
section
variable {X:Cx}{pins:List (Addr×Obj)}{σ:St}{H:Hp}{s:Shared}{a C dx:Addr}{fs:List (Str×V)}{f:Str}{v:V}{A:Around}{E:Value→Shared→Prop}
theorem Inv.made (I:Inv X pins σ H s):Inv X pins σ (upd (upd H s.heap.objs.size (.own (s.heap.objs.size+1))) (s.heap.objs.size+1) (.ins C s.heap.objs.size []))
  {s with heap:=(s.heap.push PySem.W.emptyDict).push (PySem.W.instObj C s.heap.objs.size)}:=by
 have e1:(s.heap.push PySem.W.emptyDict).get? s.heap.objs.size=some PySem.W.emptyDict:=Heap.get?_push_size s.heap rfl;have e2:((s.heap.push PySem.W.emptyDict).push (PySem.W.instObj C s.heap.objs.size)).get? (s.heap.objs.size+1)=some (PySem.W.instObj C s.heap.objs.size):=by
  have:=Heap.get?_push_size (s.heap.push PySem.W.emptyDict) (o:=PySem.W.instObj C s.heap.objs.size) rfl
  rwa [Heap.size_push] at this
 have e3:(s.heap.push PySem.W.emptyDict).Ns s.heap.objs.size (fun _=>none):=⟨PySem.W.emptyDict,#[],_,e1,rfl,(fun e he=>absurd he (by simp)),fun _=>rfl⟩
 have I1:=I.laid (a:=s.heap.objs.size) (o:=.own (s.heap.objs.size+1)) (h':=s.heap.push PySem.W.emptyDict) (t':=s.toks) (fun b u q=>Heap.get?_push_of_some _ q) (Nat.le_refl _) ⟨_,e1⟩;refine I1.laid (a:=s.heap.objs.size+1) (o:=.ins C s.heap.objs.size []) (t':=s.toks) (fun b u q=>Heap.get?_push_of_some _ q) (Nat.le_of_eq (Heap.size_push _ _)) ?_;have ne:s.heap.objs.size≠s.heap.objs.size+1:=Nat.ne_of_lt (Nat.lt_succ_self _);refine⟨by rw[upd_ne ne,upd_same],Nat.zero_le _,ne,e2,fun _=>none,(Heap.Ns1.of_empty e3).at fun o q=>Heap.get?_push_of_some _ q,fun _=>True.intro,fun y hy=>absurd rfl hy⟩
end
section
variable {X:Cx}{pins:List (Addr×Obj)}{σ:St}{H:Hp}{s:Shared}{A:Around}{E:Value→Shared→Prop}{Q:Value→Shared→Prop}{c:Value}{b:Bool}
inductive TyOf (K:PySem.W.Frag)(H:Hp):V→Value→Prop where
 | non:TyOf K H .non (.type "NoneType")
 | bl (x:Bool):TyOf K H (.bl x) (.type "bool")
 | int (i:Int):TyOf K H (.int i) (.type "int")
 | str (x:Str):TyOf K H (.str x) (.type "str")
 | flt (x:UInt64):TyOf K H (.flt x) (.type "float")
 | lst {a:Addr} {xs:List V} (e:H a=some (.lst xs)):TyOf K H (.ref a) (.type "list")
 | frz {a:Addr} {o:Obj} {xs:List V} (e:H a=some (.frz o (.lst xs))):TyOf K H (.ref a) (.type "list")
 | tup {a:Addr} {xs:List V} (e:H a=some (.tup xs)):TyOf K H (.ref a) (.type "tuple")
 | dK {a:Addr} {kvs:List (Key×V)} (e:H a=some (.dK kvs)):TyOf K H (.ref a) (.type "dict")
 | dT {a:Addr} {kvs:List (List Key×V)} (e:H a=some (.dT kvs)):TyOf K H (.ref a) (.type "dict")
 | ins {a C dx:Addr} {fs:List (Str×V)} (e:H a=some (.ins C dx fs)) (cl:Cls K C) (ha:PySem.W.findIn K (.ref C) "__class__"=some (some (.builtin "object.__class__")))
   (hn:PySem.W.specialIn K (.builtin "object.__class__") "__get__"=some (some (.builtin "getset_descriptor.__get__"))) (htk:PySem.W.takesIn K (.builtin "object.__class__")=some true)
   (hm:PySem.W.mroIn K C (.type "object")=some true):TyOf K H (.ref a) (.ref C)
theorem isinst_ok {x:V}{u t:Value}(I:Inv X pins σ H s)(rx:RelV x u)(ty:TyOf X.K H x t)(e:PySem.W.kitOne X.K t c=some b)(h:∀ tk,Q (.bool b) {s with toks:=tk}) :
  wpAny (model X.prog X.w) A (call (.builtin "isinstance") [u,c]) Q E s:=by
 cases ty with
 | non=>cases (show u=Value.none from rx);exact PySem.W.kia_one PySem.W.kitx_none I.kIn True.intro e (fun z=>nomatch z) h
 | bl y=>cases (show u=Value.bool y from rx);exact PySem.W.kia_one PySem.W.kitx_bool I.kIn True.intro e (fun z=>nomatch z) h
 | int i=>obtain⟨t,q⟩:=(show ∃ t,u=Value.int i t from rx);cases q;exact PySem.W.kia_one PySem.W.kitx_int I.kIn True.intro e (fun z=>nomatch z) h
 | str y=>obtain⟨t,q⟩:=(show ∃ t,u=Value.str y t from rx);cases q;exact PySem.W.kia_one PySem.W.kitx_str I.kIn True.intro e (fun z=>nomatch z) h
 | flt y=>obtain⟨t,q⟩:=(show ∃ t,u=Value.float y t from rx);cases q;exact PySem.W.kia_one PySem.W.kitx_float I.kIn True.intro e (fun z=>nomatch z) h
 | @lst a xs ea =>
  cases (show u=Value.ref a from rx);obtain⟨_,_,n,_,h1⟩:=(show ObjOk X.prog X.w H s.heap a (.lst xs) from I.hok a _ ea)
  exact PySem.W.kia_one PySem.W.kitx_list I.kIn ⟨_,h1,rfl⟩ e (fun z=>nomatch z) h
 | @frz a ob xs ea =>
  cases (show u=Value.ref a from rx);obtain⟨_,_,_,n,_,h1⟩:=(show ObjOk X.prog X.w H s.heap a (.frz ob (.lst xs)) from I.hok a _ ea)
  exact PySem.W.kia_one PySem.W.kitx_list I.kIn ⟨_,h1,rfl⟩ e (fun z=>nomatch z) h
 | @tup a xs ea =>
  cases (show u=Value.ref a from rx);obtain⟨_,_,_,p⟩:=(show ObjOk X.prog X.w H s.heap a (.tup xs) from I.hok a _ ea)
  obtain⟨o,h1,h2,_⟩:=p;exact PySem.W.kia_one PySem.W.kitx_tuple I.kIn ⟨o,h1,h2⟩ e (fun z=>nomatch z) h
 | @dK a kvs ea =>
  cases (show u=Value.ref a from rx);obtain⟨_,_,vs,_,p⟩:=(show ObjOk X.prog X.w H s.heap a (.dK kvs) from I.hok a _ ea)
  obtain⟨o,es,ep,h1,h2,_⟩:=p;exact PySem.W.kia_one PySem.W.kitx_dict I.kIn ⟨o,h1,h2.1⟩ e (fun z=>nomatch z) h
 | @dT a kvs ea =>
  cases (show u=Value.ref a from rx);obtain⟨_,_,xs,_,o,es,ep,h1,h2,_⟩:=(show ObjOk X.prog X.w H s.heap a (.dT kvs) from I.hok a _ ea)
  exact PySem.W.kia_one PySem.W.kitx_dict I.kIn ⟨o,h1,h2.1⟩ e (fun z=>nomatch z) h
 | @ins a C dx fs ea cl ha hn htk hm =>
  cases (show u=Value.ref a from rx);obtain⟨mA,O,_⟩:=ins_get I.hok ea;obtain⟨od,J,_⟩:=O.look;exact PySem.W.kia_one (PySem.W.kitx_own (cl.get _) cl.hd ha hn htk hm) I.kIn J e (fun z=>nomatch z) h
end
end L2
namespace L2
open PySem PySem.Spec PyProof.Rows
structure Room (k:Nat)(A:Around):Prop where
 hd:A.handled=none
 dp:A.depth+3*k+5<recursionLimit
 un:A.units+16*k+200<cLine
 gd:A.guards=some []
theorem Room.mono {j k:Nat}{A:Around}(r:Room k A)(h:j≤k):Room j A:=⟨r.hd,by have:=r.dp;omega,by have:=r.un;omega,r.gd⟩
theorem Room.deeper {k:Nat}{A:Around}(r:Room (k+1) A)(env:Env):Room k (A.deeper env) :=
 ⟨r.hd,by have:=r.dp;show A.depth+1+3*k+5<_;omega,by have:=r.un;show A.units+3+16*k+200<_;omega,r.gd⟩
theorem Room.in1 {k:Nat}{A:Around}(r:Room (k+1) A):Room k A.in1 :=
 ⟨r.hd,by have:=r.dp;show A.depth+3*k+5<_;omega,by have:=r.un;show A.units+1+16*k+200<_;omega,r.gd⟩
theorem Room.depth {k:Nat}{A:Around}(r:Room k A):A.depth<recursionLimit:=by have:=r.dp;omega
theorem Room.units {k:Nat}{A:Around}(r:Room k A):A.units+64<cLine:=by have:=r.un;omega
theorem Room.units0 {k:Nat}{A:Around}(r:Room k A):A.units<cLine:=by have:=r.un;omega
def tNil:TA:=fun _ H Q=>Q [] H
def tCons (ta:TE)(tr:TA):TA:=fun σ H Q=>ta σ H fun x H1=>tr σ H1 fun xs H2=>Q (x::xs) H2
section
variable {X:Cx}{e:Expr}{es:List Expr}{te:TE}{t:TA}{pos:Pos}
theorem pa_nil:PA X [] tNil:=fun _ _ _ _ H Q I h=>Calls.spliced_nil ⟨[],H,I,.nil,h⟩
theorem pa_cons (ha:PE X e te)(hr:PA X es t)(hs:starEach (e::es) X.env=(false,eval e X.env)::starEach es X.env:=by rfl):PA X (e::es) (tCons te t):=by
 intro pos pins s σ H Q I h;rw[hs];show wpAny _ _ (spliced ((false,eval e X.env)::backTo pos (starEach es X.env))) _ _ s;refine Calls.spliced_cons (thn (ha pins s σ H _ I h) fun u s1 ⟨x,H1,I1,r1,q1⟩=>?_);exact thn (hr pos pins s1 σ H1 _ I1 q1) fun us s2 ⟨xs,H2,I2,r2,q2⟩=>⟨x::xs,H2,I2,.cons r1 r2,q2⟩
def tTup (t:TA):TE:=fun σ H Q=>t σ H fun xs H1=>xs.length≤sizeLine∧∀ p,H1 p=none→Q (.ref p) (upd H1 p (.tup xs))
def tLst (t:TA):TE:=fun σ H Q=>t σ H fun xs H1=>xs.length≤sizeLine∧∀ p,H1 p=none→Q (.ref p) (upd H1 p (.lst xs))
theorem pe_tup {x1}(h:PA X es t):PE X (.Tuple es x1 pos) (tTup t):=by
 intro pins s σ H Q I hq;refine wpAny_Tuple_spliced (thn (h pos pins s σ H _ I hq) fun us s1 ⟨xs,H1,I1,r,z,q⟩=>⟨by rw[← r.length];exact z,?_⟩);have hf:H1 s1.heap.objs.size=none:=I1.hok.fresh (Nat.le_refl _);refine⟨.ref s1.heap.objs.size,upd H1 s1.heap.objs.size (.tup xs),I1.laid (t':=s1.toks) (fun b u e=>Heap.get?_push_of_some _ e) (Nat.le_refl _) ?_,rfl,q _ hf⟩;exact⟨z,us,r,⟨_,Heap.get?_push_size _ rfl,rfl,_,rfl⟩⟩
theorem pe_lst (h:PA X es t):PE X (.List es pos) (tLst t):=by
 intro pins s σ H Q I hq;refine wpAny_List_spliced (thn (h pos pins s σ H _ I hq) fun us s1 ⟨xs,H1,I1,r,z,q⟩=>⟨by rw[← r.length];exact z,?_⟩);have hf:H1 s1.heap.objs.size=none:=I1.hok.fresh (Nat.le_refl _);refine⟨.ref s1.heap.objs.size,upd H1 s1.heap.objs.size (.lst xs),I1.laid (t':=s1.toks) (fun b u e=>Heap.get?_push_of_some _ e) (Nat.le_refl _) ?_,rfl,q _ hf⟩;exact⟨z,us,0,r,Heap.get?_push_size _ rfl⟩
end
abbrev Sp:=List V→Hp→VK→XK→Prop
abbrev CXT:=List Env→Hp→Shared→XK→Value→Shared→Prop
structure Env0 (P:Program)(w:World)(K:PySem.W.Frag)(mg:Str→Option Value)(base:Heap)(A:Around)(outer:List Env)(s:Shared)(H:Hp):Prop where
 frames:A.frames=some outer
 mod:Mod K mg base
 bs:∀ b o,base.get? b=some o→s.heap.get? b=some o∧H b=none
 bsz:base.objs.size≤s.heap.objs.size
 funs:s.heap.FunFrames base outer
 frf:∀ b∈frs outer,H b=none
 hok:HOk P w H s.heap
 bare:AllBare s.gens
def CE (outer:List Env)(P:Program)(w:World)(H:Hp)(s:Shared)(Q:VK)(u:Value)(s':Shared):Prop :=
 ∃ v H',s'.os=s.os∧AllBare s'.gens∧Un (frs outer) [] H H' s.heap s'.heap∧HOk P w H' s'.heap∧RelV v u∧Q v H'
def CR (CX:CXT)(outer:List Env)(P:Program)(w:World)(H:Hp)(s:Shared)(Q:VK)(E:XK)(r:Result)(s':Shared):Prop :=
 match r with
 | .ok (.ret u)=>CE outer P w H s Q u s'
 | .ok _=>False
 | .error e=>CX outer H s E e s'
structure FnOk (P:Program)(w:World)(K:PySem.W.Frag)(mg:Str→Option Value)(base:Heap)(CX:CXT)(k:Nat)(f:Addr)(fd:FuncData)(ps:List Str)(sp:Sp):Prop where
 len:∀ vs H Q E,sp vs H Q E→vs.length=ps.length
 run:∀ (A:Around) (outer:List Env) (s:Shared) (H:Hp) (args:Args) (us:List Value) (vs:List V) (Q:VK) (E:XK),Room k A→Env0 P w K mg base A outer s H→BindsTo s fd args (ps.zip us)→Vals vs us→sp vs H Q E →
  codeAny (model P w) A (.call (.ref f) args) (CR CX outer P w H s Q E) s
theorem FnOk.mono {P:Program}{w:World}{K:PySem.W.Frag}{mg:Str→Option Value}{base:Heap}{CX:CXT}{j k:Nat}{f:Addr}{fd:FuncData}{ps:List Str}{sp:Sp}(F:FnOk P w K mg base CX j f fd ps sp)(h:j≤k) :
  FnOk P w K mg base CX k f fd ps sp:=⟨F.len,fun A outer s H args us vs Q E hr=>F.run A outer s H args us vs Q E (hr.mono h)⟩
theorem FnOk.imp {P:Program}{w:World}{K:PySem.W.Frag}{mg:Str→Option Value}{base:Heap}{CX:CXT}{k:Nat}{f:Addr}{fd:FuncData}{ps:List Str}{sp sp':Sp}(F:FnOk P w K mg base CX k f fd ps sp)
  (h:∀ vs H Q E,sp' vs H Q E→sp vs H Q E):FnOk P w K mg base CX k f fd ps sp' :=
 ⟨fun vs H Q E q=>F.len vs H Q E (h _ _ _ _ q),fun A outer s H args us vs Q E hr he hb hv hs=>F.run A outer s H args us vs Q E hr he hb hv (h _ _ _ _ hs)⟩
theorem Env0.in1 {P:Program}{w:World}{K:PySem.W.Frag}{mg:Str→Option Value}{base:Heap}{A:Around}{outer:List Env}{s:Shared}{H:Hp}(e:Env0 P w K mg base A outer s H) :
  Env0 P w K mg base A.in1 outer s H:=⟨e.frames,e.mod,e.bs,e.bsz,e.funs,e.frf,e.hok,e.bare⟩
section
variable {X:Cx}{pins:List (Addr×Obj)}{σ:St}{H:Hp}{s s':Shared}
theorem Inv.env0 (I:Inv X pins σ H s):Env0 X.prog X.w X.K X.mg X.base X.A X.stack s H :=
 ⟨I.ok.frames,I.ok.mod,I.bs,Nat.le_trans I.ok.bsz I.sz,I.stack,I.stkFree,I.hok,I.bare⟩
theorem Inv.after {Q:VK}{u:Value}(I:Inv X pins σ H s)(h:CE X.stack X.prog X.w H s Q u s'):EP X pins σ Q u s':=by
 obtain⟨v,H',os,bare,un,hok,r,q⟩:=h;obtain⟨hh,g,d,t,os'⟩:=s';obtain rfl:os'=s.os:=os;exact⟨v,H',I.call (h':=hh) (g':=g) (d':=d) (t':=t) (ch:=[]) un hok bare (fun b z=>absurd z (by simp)),r,q⟩
end
def tCall (sp:Sp)(dvs:List V)(E:XK)(t:TA):TE:=fun σ H Q=>t σ H fun vs H1=>sp (vs++dvs) H1 Q E
def Binds (K:PySem.W.Frag)(fd:FuncData)(ps:List Str)(ds:List Value):Prop :=
 ∀ (s:Shared) (us:List Value),K.In s.heap→(us++ds).length=ps.length→BindsTo s fd ⟨us,[]⟩ (ps.zip (us++ds))
theorem Binds.all {K:PySem.W.Frag}{fd:FuncData}{ps:List Str}(h:∀ us:List Value,us.length=ps.length→bindArgs fd ⟨us,[]⟩=pure (ps.zip us)):Binds K fd ps []:=fun s us _ hl=>by
 rw[List.append_nil] at hl ⊢;exact .of_eq (h us hl)
def Passes (CX:CXT)(X:Cx)(E:XK):Prop:=∀ (pins:List (Addr×Obj)) (σ:St) (H:Hp) (s:Shared) (e:Value) (s':Shared),Inv X pins σ H s→CX X.stack H s E e s'→X.xe e s'
section
variable {X:Cx}{CX:CXT}{k:Nat}{f C:Addr}{fd:FuncData}{ps:List Str}{sp:Sp}{dvs:List V}{ds:List Value}{E:XK}{x m:Str}{p pos apos:Pos}{e o:Expr}{es:List Expr}{ta:TE}{t:TA}
theorem run_fn {pins:List (Addr×Obj)}{σ:St}{H:Hp}{s:Shared}{Q:VK}{us:List Value}{vs:List V}(F:FnOk X.prog X.w X.K X.mg X.base CX k f fd ps sp)(hr:Room k X.A)(hb:Binds X.K fd ps ds)(hd:Vals dvs ds)(hx:Passes CX X E)
  (I:Inv X pins σ H s) (r:Vals vs us) (h:sp (vs++dvs) H Q E):wpAny (model X.prog X.w) X.A (call (.ref f) us) (EP X pins σ Q) X.xe s:=by
 have r2:Vals (vs++dvs) (us++ds):=r.append hd;have hl:(us++ds).length=ps.length:=by rw[← r2.length];exact F.len _ _ _ _ h
 refine wpAny_call (codeAny_mono (F.run X.A X.stack s H ⟨us,[]⟩ (us++ds) (vs++dvs) Q E hr I.env0 (hb s us I.kIn hl) r2 h) fun r s' hq=>?_);cases r with
 | error e=>exact hx pins σ H s e s' I hq
 | ok fl =>
  cases fl with
  | ret u=>exact I.after hq
  | next=>exact False.elim hq
  | brk=>exact False.elim hq
  | cont=>exact False.elim hq
theorem pe_call (F:FnOk X.prog X.w X.K X.mg X.base CX k f fd ps sp)(hr:Room k X.A)(hg:Gl X x)(hm:X.mg x=some (.ref f))(hk:PySem.W.keepIn X.K (.ref f)=true)(hb:Binds X.K fd ps ds)(hd:Vals dvs ds)(hx:Passes CX X E)
  (ha:PA X (e::es) t) (hdb:(x == ("__debug__":Str))=false:=by decide) (he:starEach (e::es) X.env=(false,eval e X.env)::starEach es X.env:=by rfl) (hpl:(backTo pos (starEach es X.env)).any (·.1)=false:=by rfl) :
  PE X (.Call (.Name x p) (e::es) [] pos) (tCall sp dvs E t):=by
 intro pins s σ H Q I h;refine wpAny_Call_Name_kw (ld_glob I hg hm ?_ hdb);refine PySem.W.callWith_K (h₀:=X.base) I.ok.mod.kin hk (thn (ha pos pins s σ H _ I h) fun us s1 ⟨vs,H1,I1,r,q⟩=>⟨I1.kIn,?_⟩) he hpl;exact run_fn F hr hb hd hx I1 r q
end
section
variable {X:Cx}{CX:CXT}{k:Nat}{f C:Addr}{fd:FuncData}{ps ks:List Str}{sp:Sp}{E:XK}{x m:Str}{p pos apos kpos:Pos}{e o:Expr}{es:List Expr}{kws:List Keyword}{te ta:TE}{t tk:TA}{nm:Option Str}
variable {g:List Value→List Value→List Value}{gV:List V→List V→List V}
end
structure FnScope (N P:List Str)(sc:Scope):Prop where
 kind:sc.kind=.function
 co:sc.isCoroutine=false
 gen:sc.isGenerator=false
 nd:N.Nodup
 pre:N.take P.length=P
 par:∀ x∈P,sc.names.lookup x=some .local∨sc.names.lookup x=some .cell
 nofree:∀ y∈sc.names,y.2≠.free
theorem bindL_out {kindOf:Str→Option NameKind}{x:Str}:∀ {binds:List (Str×Value)} {m:Str→Option Value},(∀ v,(x,v)∉binds)→bindL kindOf binds m x=m x
 | [],_,_=>rfl
 | (n,v)::r,m,h=>by
  unfold bindL;rw[bindL_out fun w hw=>h w (List.mem_cons_of_mem _ hw)];split
  ·have:x≠n:=by rintro rfl;exact h v List.mem_cons_self
   simp[this]
  ·rfl
theorem bindC_out {kindOf:Str→Option NameKind}{x:Str}:∀ {binds:List (Str×Value)} {m:Str→Option Value},(∀ v,(x,v)∉binds)→bindC kindOf binds m x=m x
 | [],_,_=>rfl
 | (n,v)::r,m,h=>by
  unfold bindC;rw[bindC_out fun w hw=>h w (List.mem_cons_of_mem _ hw)];split
  ·rfl
  ·have:x≠n:=by rintro rfl;exact h v List.mem_cons_self
   simp[this]
theorem bindL_get {kindOf:Str→Option NameKind}{x:Str}{v:Value}:∀ {P:List Str} {vs:List Value} {i:Nat} {m:Str→Option Value},P.Nodup→P[i]?=some x→vs[i]?=some v→kindOf x=some .local →
  bindL kindOf (P.zip vs) m x=some v
 | [],_,_,_,_,h,_,_=>by simp at h
 | _::_,[],_,_,_,_,h,_=>by simp at h
 | p::P,w::vs,0,m,nd,h1,h2,hk=>by
  simp at h1 h2;subst h1;subst h2;show bindL kindOf ((p,w)::P.zip vs) m p=_;unfold bindL;rw[bindL_out fun v hv=>(List.nodup_cons.mp nd).1 (List.of_mem_zip hv).1,if_pos hk];simp
 | p::P,w::vs,i+1,m,nd,h1,h2,hk=>by
  show bindL kindOf ((p,w)::P.zip vs) m x=_;unfold bindL;exact bindL_get (i:=i) (List.nodup_cons.mp nd).2 (by simpa using h1) (by simpa using h2) hk
theorem bindC_get {kindOf:Str→Option NameKind}{x:Str}{v:Value}:∀ {P:List Str} {vs:List Value} {i:Nat} {m:Str→Option Value},P.Nodup→P[i]?=some x→vs[i]?=some v→kindOf x≠some .local →
  bindC kindOf (P.zip vs) m x=some v
 | [],_,_,_,_,h,_,_=>by simp at h
 | _::_,[],_,_,_,_,h,_=>by simp at h
 | p::P,w::vs,0,m,nd,h1,h2,hk=>by
  simp at h1 h2;subst h1;subst h2;show bindC kindOf ((p,w)::P.zip vs) m p=_;unfold bindC;rw[bindC_out fun v hv=>(List.nodup_cons.mp nd).1 (List.of_mem_zip hv).1,if_neg hk];simp
 | p::P,w::vs,i+1,m,nd,h1,h2,hk=>by
  show bindC kindOf ((p,w)::P.zip vs) m x=_;unfold bindC;exact bindC_get (i:=i) (List.nodup_cons.mp nd).2 (by simpa using h1) (by simpa using h2) hk
def start (N:List Str)(vs:List V):St:=vs.map some++List.replicate (N.length-vs.length) none
def cxOf (CX:CXT)(P:Program)(w:World)(K:PySem.W.Frag)(mg:Str→Option Value)(base:Heap)(N:List Str)(qual:Str)(scope:Scope)(f:Addr)(cd:Value)(A:Around)(outer:List Env)(s:Shared)(H:Hp)(E:XK):Cx where
 prog:=P
 w:=w
 K:=K
 mg:=mg
 base:=base
 A:=A.deeper (envOfC qual scope s.heap.objs.size f cd)
 N:=N
 s₀:=s
 H₀:=H
 env:=envOfC qual scope s.heap.objs.size f cd
 outer:=outer
 stack:=envOfC qual scope s.heap.objs.size f cd::outer
 ex:=[]
 calm:=true
 fn:=fun _=>true
 pn:=[]
 xe:=fun e s'=>wpAny (model P w) (A.deeper (envOfC qual scope s.heap.objs.size f cd)) (leaving (envOfC qual scope s.heap.objs.size f cd) e) (fun _ s''=>CX outer H s E e s'') (fun e' s''=>CX outer H s E e' s'') s'
theorem cell_has {sc:Scope}{n:Nat}{x:Str}(h:sc.names.lookup x=some .cell):∃ c,(cellsFrom n sc.names []).lookup x=some c:=by
 have q:=PySem.W.cellsFrom_some sc.names n [] (.inl h);exact Option.isSome_iff_exists.mp q
theorem inv_start {CX:CXT}{P:Program}{w:World}{K:PySem.W.Frag}{mg:Str→Option Value}{base:Heap}{N ps:List Str}{qual:Str}{scope:Scope}{f:Addr}{cd:Value}{A:Around}{outer:List Env}{s s1:Shared}{H:Hp}{E:XK}{us:List Value}{vs:List V}
  (S:FnScope N ps scope) (hd:A.handled=none) (e0:Env0 P w K mg base A outer s H) (hl:vs.length=ps.length) (r:Vals vs us)
  (x:InCallC s s.heap.objs.size (bindL (envOfC qual scope s.heap.objs.size f cd).kindOf (ps.zip us) fun _=>none) (cellsFrom (s.heap.objs.size+1) scope.names []) (bindC (envOfC qual scope s.heap.objs.size f cd).kindOf (ps.zip us) fun _=>none) s1) :
  Inv (cxOf CX P w K mg base N qual scope f cd A outer s H E) [] (start N vs) H s1:=by
 have hpl:ps.length≤N.length:=by have:=congrArg List.length S.pre;rw[List.length_take] at this;omega
 obtain⟨h1,tk,rfl,hk⟩:=x.done;have noA:∀ b:Addr,b∉(cxOf CX P w K mg base N qual scope f cd A outer s H E).ex:=fun b z=>absurd (show b∈([]:List Addr) from z) (by simp)
 refine⟨⟨e0.mod,S.kind,rfl,rfl,Nat.le_refl _,fun y z c h1 h2=>?_,fun y hy=>?_,fun y c _ h=>?_,fun _=>hd,Around.frames_deeper e0.frames,.inr ⟨rfl,rfl⟩,fun b z=>absurd z (noA b),e0.bs,e0.bsz,fun b _ _=>noA b,fun b z=>absurd z (noA b),e0.funs,e0.frf⟩,
  rfl,e0.bare,Un.kept hk,⟨_,x.toInCall.ns,fun i y v h1 h2 h3=>?_⟩,fun y c h=>⟨_,x.cell y c h⟩,e0.hok.fresh (Nat.le_refl _),fun y c h=>?_,fun p hp=>absurd (show p∈([]:List (Addr×Obj)) from hp) (by simp),e0.hok.kept hk,?_⟩
 ·exact name_of_addr x.apart (PySem.mem_of_lookup h1) (PySem.mem_of_lookup h2)
 ·have hy:scope.names.lookup y=some .cell∨scope.names.lookup y=some .free:=hy;rcases hy with hy | hy
  ·exact cell_has hy
  ·exact absurd rfl (S.nofree _ (PySem.mem_of_lookup hy))
 ·exact Nat.le_of_lt (x.above y c (PySem.mem_of_lookup h))
 ·have hi:i<vs.length:=by
   unfold start at h2;by_cases hi:i<vs.length
   ·exact hi
   ·rw[List.getElem?_append_right (by simpa using hi)] at h2;rw[List.getElem?_replicate] at h2;split at h2<;>cases h2
  have ha:vs[i]?=some v:=by
   unfold start at h2;rw[List.getElem?_append_left (by simpa using hi),List.getElem?_map] at h2;cases e:vs[i]? with
   | none=>rw[e] at h2;cases h2
   | some a=>rw[e] at h2;cases h2;rfl
  obtain⟨u,hu,rv⟩:=r.get ha;have hp:ps[i]?=some y:=by
   rw[← S.pre,List.getElem?_take_of_lt (by omega)];exact h1
  have ndP:ps.Nodup:=by rw[← S.pre];exact S.nd.sublist (List.take_sublist _ _)
  refine⟨u,rv,?_⟩;rcases S.par y (List.mem_of_getElem? hp) with k | k
  ·exact .inl ⟨k,bindL_get ndP hp hu k⟩
  ·obtain⟨c,e⟩:=cell_has (n:=s.heap.objs.size+1) k;refine .inr ⟨.inl k,c,e,?_⟩;have q:=x.cell y c e;rw[bindC_get ndP hp hu (by show scope.names.lookup y≠_;rw[k];decide)] at q;exact q
 ·exact e0.hok.fresh (Nat.le_of_lt (x.above y c (PySem.mem_of_lookup h)))
 ·unfold start;show _=N.length;rw[List.length_append,List.length_map,List.length_replicate];omega
theorem fn_of {CX:CXT}{P:Program}{w:World}{K:PySem.W.Frag}{mg:Str→Option Value}{base:Heap}{k:Nat}{f:Addr}{name qual:Str}{params:Arguments}{body:List Stmt}{scope:Scope}{dV kV doc pm cdv ct oc:Value}{an od:Option Addr}
  {osl:Array (Option Value)} {N ps:List Str} {sp:Sp} (lk:K.lookup f=some ⟨oc,od,.func (PySem.W.fnOf name qual params body scope dV kV doc pm an cdv ct),osl⟩) (hcd:PySem.W.codeIn K cdv qual=true) (S:FnScope N ps scope)
  (len:∀ vs H Q E,sp vs H Q E→vs.length=ps.length)
  (hbody:∀ (A:Around) (outer:List Env) (s:Shared) (H:Hp) (vs:List V) (Q:VK) (E:XK),Room k (A.deeper (envOfC qual scope s.heap.objs.size f cdv))→sp vs H Q E →
   ∃ t,PSs (cxOf CX P w K mg base N qual scope f cdv A outer s H E) body t∧t {nx:=fun _ H'=>Q .non H',rt:=Q} (start N vs) H) :
  FnOk P w K mg base CX (k+1) f (PySem.W.fnOf name qual params body scope dV kV doc pm an cdv ct) ps sp:=by
 refine⟨len,fun A outer s H args us vs Q E hr e0 hb r hsp=>?_⟩;have hl:=len _ _ _ _ hsp;have KX:K.In s.heap:=e0.mod.kin.keeps fun b o e=>(e0.bs b o e).1
 have lim:s.heap.NoLimit:=e0.mod.nolimit.keeps fun b o e=>(e0.bs b o e).1
 have hkind:∀ y∈ps.zip us,scope.names.lookup y.1=some .local∨(scope.names.lookup y.1=some .cell∧((cellsFrom (s.heap.objs.size+1) scope.names []).lookup y.1).isSome=true):=fun ⟨n,v⟩ hy=>by
  rcases S.par n (List.of_mem_zip hy).1 with q | q
  ·exact .inl q
  ·exact .inr ⟨q,PySem.W.cellsFrom_some _ _ _ (.inl q)⟩
 refine codeAny_call_function hr.depth (KX _ _ lk) rfl S.co S.gen rfl (PySem.W.codeRec_of KX hcd) (hb _ _ _ _ ?_);refine wpAny_newFunctionEnv_cells S.kind hkind fun env he s1 x=>?_
 subst he;refine⟨lim.keeps x.toInCall.keep,codeAny_func ?_⟩;obtain⟨t,ht,hq⟩:=hbody A outer s H vs Q E (hr.deeper _) hsp;have I:Inv (cxOf CX P w K mg base N qual scope f cdv A outer s H E) [] (start N vs) H s1:=inv_start S hr.hd e0 hl r x;refine wpAny_mono (ht [] s1 (start N vs) H _ I hq) (fun fl s' hs=>?_) fun e s' hs=>hs
 have fin:∀ {σ':St} {H':Hp} {v:V} {u:Value},Inv (cxOf CX P w K mg base N qual scope f cdv A outer s H E) [] σ' H' s'→RelV v u→Q v H'→CE outer P w H s Q u s' :=
  fun {σ' H' v u} J rv q=>⟨v,H',J.os,J.bare,J.base,J.hok,rv,q⟩
 cases fl with
 | ret u =>
  obtain⟨v,σ',H',J,rv,q⟩:=hs;exact fin J rv q
 | next =>
  obtain⟨σ',H',J,q⟩:=hs;exact fin (v:=V.non) (u:=Value.none) J rfl q
 | brk =>
  obtain⟨_,_,_,q⟩:=hs;exact False.elim q
 | cont =>
  obtain⟨_,_,_,q⟩:=hs;exact False.elim q
end L2
namespace L2
open PySem PySem.Spec PyProof.Rows
section
variable {X:Cx}{x:Str}{p pos:Pos}{e:Expr}{es:List Expr}{t:TA}{id T:String}{r:List V→Hp→VK→Prop}
def tCB (r:List V→Hp→VK→Prop)(t:TA):TE:=fun σ H Q=>t σ H fun vs H1=>r vs H1 Q
theorem pe_callB (hc:CallR X (.builtin id) r)(hg:Gl X x)(hm:X.mg x=none)(hv:bootBuiltins x=some (.builtin id))(ha:PA X (e::es) t)(hn:x≠"__name__":=by decide)(hdb:(x == ("__debug__":Str))=false:=by decide)
  (he:starEach (e::es) X.env=(false,eval e X.env)::starEach es X.env:=by rfl) (hpl:(backTo pos (starEach es X.env)).any (·.1)=false:=by rfl):PE X (.Call (.Name x p) (e::es) [] pos) (tCB r t):=by
 intro pins s σ H Q I h;refine wpAny_Call_Name_kw (ld_blt I hg hm hv ?_ hn hdb);exact PyProof.Rows.callWith_builtin1 (thn (ha pos pins s σ H _ I h) fun us s1 ⟨vs,H1,I1,r1,q1⟩=>hc pins s1 σ H1 vs us Q I1 r1 q1) he hpl
theorem pe_callTy (hc:CallR X (.type T) r)(hg:Gl X x)(hm:X.mg x=none)(hv:bootBuiltins x=some (.type T))(ha:PA X (e::es) t)(hn:x≠"__name__":=by decide)(hdb:(x == ("__debug__":Str))=false:=by decide)
  (he:starEach (e::es) X.env=(false,eval e X.env)::starEach es X.env:=by rfl) (hpl:(backTo pos (starEach es X.env)).any (·.1)=false:=by rfl):PE X (.Call (.Name x p) (e::es) [] pos) (tCB r t):=by
 intro pins s σ H Q I h;refine wpAny_Call_Name_kw (ld_blt I hg hm hv ?_ hn hdb);exact PyProof.Rows.callWith_type1 (thn (ha pos pins s σ H _ I h) fun us s1 ⟨vs,H1,I1,r1,q1⟩=>hc pins s1 σ H1 vs us Q I1 r1 q1) he hpl
end
end L2
namespace HT
open PySem PyProof.Rows
def lexLt:List Int→List Int→Bool
 | [],[]=>false
 | [],_::_=>true
 | _::_,[]=>false
 | x::xs,y::ys=>if x=y then lexLt xs ys else decide (x<y)
theorem lexLt_cons (x y:Int)(xs ys:List Int):lexLt (x::xs) (y::ys)=if x=y then lexLt xs ys else decide (x<y):=rfl
theorem lexLt_nil_nil:lexLt [] []=false:=rfl
theorem lexLt_nil_cons (y:Int)(ys:List Int):lexLt [] (y::ys)=true:=rfl
theorem lexLt_cons_nil (x:Int)(xs:List Int):lexLt (x::xs) []=false:=rfl
theorem eqAt_int (A:Around)(s:Shared)(a:Int)(t:Tok)(c:Int)(u:Tok):∃ e,SeqAt.EqAt A s (.int a t) (.int c u) e∧(e=true↔a=c) :=
 ⟨(a == c),SeqAt.EqAt.int_int a t c u,by simp⟩
theorem rcLt_int (A:Around)(s:Shared)(a:Int)(t:Tok)(c:Int)(u:Tok)(prog:Program)(w:World)(E:Value→Shared→Prop)(Q:Value→Shared→Prop)(h:Q (.bool (decide (a<c))) s) :
  wpAny (model prog w) A (richCompare .Lt (.int a t) (.int c u)) Q E s :=
 (PyProof.Rows.lt_int h:wpAny (model prog w) A (compareOp .Lt (.int a t) (.int c u)) Q E s)
section
open PySem.SeqAt
open PySem.AutoSeq1 (wpAny_loadPart')
open PySem.MeetsSeq PySem.MeetsSeq2 PySem.MeetsSeq3
theorem tuple_lt_ints (l b:Addr)(items items2:Array Value)(n n2:Nat)(dd dd2:Option Addr)(sl sl2:Array (Option Value))(ns ms:List Int)(hi:IntsAre items.toList ns)(hj:IntsAre items2.toList ms) :
  Meets (Builtin.«tuple.__lt__» ⟨[.ref l,.ref b],[]⟩)
   (fun _ R s=>s.heap.get? l=some {cls:=.type "tuple",dict:=dd,data:=.seq items n,slots:=sl}∧s.heap.get? b=some {cls:=.type "tuple",dict:=dd2,data:=.seq items2 n2,slots:=sl2} ∧
    R (.ok (.ret (.bool (lexLt ns ms)))) s) :=
 .of_wp fun prog w A R s h=>by
  obtain⟨hp,g,d,tk,os⟩:=s;obtain⟨hl,hb,h⟩:=h;have f2:=AutoSeq1.sub_tuple_tuple;have z1:items.size=ns.length:=by rw[← hi.length];simp
  have z2:items2.size=ms.length:=by rw[← hj.length];simp
  wp_walk using wpAny_loadPart' hl,wpAny_loadPart' hb,wpAny_forIn_list _ (fun rest b s'=>b.1=none∧s'=⟨hp,g,d,tk,os⟩∧∃ (vs ws:List Value) (ns' ms':List Int),rest=vs.zip ws ∧
   IntsAre vs ns'∧IntsAre ws ms'∧ns'.length+items2.size=ms'.length+items.size∧R (.ok (.ret (.bool (lexLt ns' ms')))) ⟨hp,g,d,tk,os⟩) _
  case turn =>
   rintro⟨y,x⟩ rest b s' ⟨hb',rfl,vs,ws,ns',ms',hz,hvi,hwi,hlen,hR⟩;cases hvi with
   | nil=>rw[List.zip_nil_left] at hz;cases hz
   | cons a t hvi' =>
    cases hwi with
    | nil=>rw[List.zip_nil_right] at hz;cases hz
    | cons c u hwi' =>
     rw[List.zip_cons_cons] at hz;injection hz with hyx hrest
     injection hyx with hy hx
     subst hy hx;rw[lexLt_cons] at hR;simp only[List.length_cons] at hlen;obtain⟨e,he,hiff⟩:=eqAt_int A.in1 ⟨hp,g,d,tk,os⟩ a t c u;refine wpAny_bind (he prog w _ _ ?_);cases e with
     | true =>
      rw[if_pos (hiff.mp rfl)] at hR
      wp_walk
      exact⟨rfl,rfl,_,_,_,_,hrest,hvi',hwi',by omega,hR⟩
     | false =>
      rw[if_neg (fun q=>absurd (hiff.mpr q) Bool.false_ne_true)] at hR;have hri:=rcLt_int A.in1 ⟨hp,g,d,tk,os⟩ a t c u prog w
      wp_walk using hri
      exact⟨_,rfl,by simpa using hR⟩
  case fin =>
   rintro⟨b1,b2⟩ s' ⟨hb',rfl,vs,ws,ns',ms',hz,hvi,hwi,hlen,hR⟩;simp only at hb';subst hb';have hv:lexLt ns' ms'=decide (items.size<items2.size):=by
    cases hvi with
    | nil =>
     cases hwi with
     | nil =>
      simp only[List.length_nil] at hlen;rw[lexLt_nil_nil];exact (decide_eq_false (by omega)).symm
     | cons c u hw =>
      simp only[List.length_nil,List.length_cons] at hlen;rw[lexLt_nil_cons];exact (decide_eq_true (by omega)).symm
    | cons a t hv =>
     cases hwi with
     | nil =>
      simp only[List.length_nil,List.length_cons] at hlen;rw[lexLt_cons_nil];exact (decide_eq_false (by omega)).symm
     | cons c u hw =>
      rw[List.zip_cons_cons] at hz;cases hz
   rw[hv] at hR
   wp_walk
   exact⟨_,rfl,by simpa [Builtin.Tuple.tupleCompareSizes] using hR⟩
  case h =>
   exact⟨rfl,rfl,items.toList,items2.toList,ns,ms,rfl,hi,hj,by omega,h⟩
end
section
variable {prog:Program}{w:World}{A:Around}{E:Value→Shared→Prop}{s:Shared}
theorem lt_tupInts {l b:Addr}{items items2:Array Value}{ns ms:List Int}{Q:Value→Shared→Prop}(hl:IsTup s.heap l items)(hb:IsTup s.heap b items2)(hi:IntsAre items.toList ns)(hj:IntsAre items2.toList ms)
  (hu:A.units<cLine) (h:Q (.bool (lexLt ns ms)) s):wpAny (model prog w) A (compareOp .Lt (.ref l) (.ref b)) Q E s:=by
 obtain⟨⟨cls,dd,data,sl⟩,ho,hc,n,hd⟩:=id hl;obtain⟨⟨cls2,dd2,data2,sl2⟩,ho2,hc2,n2,hd2⟩:=id hb;simp only at hc hd hc2 hd2;subst hc hd hc2 hd2;exact richCompare_meets_room (op:=.Lt) ⟨_,ho,rfl⟩ ⟨_,ho2,rfl⟩ PySem.F.slot_tuple_lt PySem.F.entry_tuple_lt (PySem.F.args_tuple_lt_2 _ _) (tuple_lt_ints l b items items2 n n2 dd dd2 sl sl2 ns ms hi hj)
  ⟨ho,ho2,show Value.bool (lexLt ns ms)≠Value.notImplemented∧Q (.bool (lexLt ns ms)) s from ⟨(fun x=>nomatch x),h⟩⟩ hu
theorem cat_tup {t b:Addr}{vs ws:List Value}{Q:Value→Shared→Prop}(ht:IsTup s.heap t vs.toArray)(hb:IsTup s.heap b ws.toArray)(hv:vs≠[])
  (h1:ws=[]→Q (.ref t) s) (h2:ws≠[]→Q (.ref s.heap.objs.size) {s with heap:=s.heap.push {cls:=.type "tuple",data:=.seq (vs++ws).toArray}})
  (hsz:vs.length+ws.length≤sizeLine):wpAny (model prog w) A (binaryOp .Add (.ref t) (.ref b)) Q E s:=by
 obtain⟨⟨cls,dd,data,sl⟩,ho,hc,n,hd⟩:=id ht;obtain⟨⟨cls2,dd2,data2,sl2⟩,ho2,hc2,n2,hd2⟩:=id hb;simp only at hc hd hc2 hd2;subst hc hd hc2 hd2;have e:vs.toArray++ws.toArray=(vs++ws).toArray:=by simp
 by_cases hw:ws=[]
 ·exact concat_meets ⟨_,ho,rfl⟩ ⟨_,ho2,rfl⟩ noFill_tuple_add seq_tuple_add PySem.F.slot_tuple_add PySem.F.entry_tuple_add (PySem.F.args_tuple_add_2 _ _)
   (tuple_addW1 t b vs.toArray ws.toArray n n2 dd dd2 sl sl2 (by simpa using hv) (by simp[hw])) ⟨ho,ho2,h1 hw⟩
 ·refine concat_meets ⟨_,ho,rfl⟩ ⟨_,ho2,rfl⟩ noFill_tuple_add seq_tuple_add PySem.F.slot_tuple_add PySem.F.entry_tuple_add (PySem.F.args_tuple_add_2 _ _)
   (tuple_addW2 t b vs.toArray ws.toArray n n2 dd dd2 sl sl2 (by simpa using hv) (by simpa using hw) (by rw[List.size_toArray,List.size_toArray];exact hsz)) ⟨ho,ho2,?_⟩
  rw[e];exact h2 hw
def sIx (n d:Nat):Option Int→Nat
 | none=>d
 | some v=>if v<0 then (v+(n:Int)).toNat else min v.toNat n
theorem sIx_none (n d:Nat):sIx n d none=d:=rfl
theorem sIx_nat (n d k:Nat):sIx n d (some (k:Int))=min k n:=by
 show (if (k:Int)<0 then ((k:Int)+(n:Int)).toNat else min (k:Int).toNat n)=min k n;rw[if_neg (by omega),Int.toNat_natCast]
theorem sIx_le (n d:Nat)(hd:d≤n)(o:Option Int):sIx n d o≤n:=by
 cases o with
 | none=>exact hd
 | some v =>
  show (if v<0 then (v+(n:Int)).toNat else min v.toNat n)≤n;by_cases hv:v<0
  ·rw[if_pos hv];omega
  ·rw[if_neg hv];exact Nat.min_le_right _ _
theorem clip_eq (v:Int)(n d:Nat):(if v<0 then max (v+(n:Int)) 0 else min v (n:Int))=((sIx n d (some v):Nat):Int):=by
 show (if v<0 then max (v+(n:Int)) 0 else min v (n:Int))=(((if v<0 then (v+(n:Int)).toNat else min v.toNat n):Nat):Int)
 by_cases hv:v<0
 ·simp only[if_pos hv];omega
 ·simp only[if_neg hv];omega
theorem adjust_gen (lo hi:Option Int)(n:Nat):Builtin.Slice.sliceAdjust lo hi 1 (n:Int)=(((sIx n 0 lo:Nat):Int),((sIx n n hi:Nat):Int)):=by
 have h1:¬ ((1:Int)<0):=by omega
 unfold Builtin.Slice.sliceAdjust;simp only[h1,if_false];refine Prod.ext ?_ ?_
 ·cases lo with
  | none=>rfl
  | some v=>exact clip_eq v n 0
 ·cases hi with
  | none=>rfl
  | some v=>exact clip_eq v n n
theorem places_gen (i j:Nat):Builtin.Slice.slicePlaces (i:Int) (j:Int) 1=j-i:=by
 unfold Builtin.Slice.slicePlaces;have h1:(1:Int)>0:=by omega
 simp only[h1,if_true,Int.ediv_one];split<;>omega
theorem slicePart_ {v:Value}{o:Option Int}{Q:Option Int→Shared→Prop}(p:IsPart v o)(h:Q o s):wpAny (model prog w) A (Builtin.Slice.slicePartIndex v) Q E s:=by
 cases p with
 | none=>exact slicePart_none h
 | int i t=>exact slicePart_int h
theorem sliceApplied_gen {sl:Addr}{vl vu:Value}{lo hi:Option Int}{n:Nat}{Q:Int×Int×Nat→Shared→Prop}(hs:s.heap.IsSliceOf sl vl vu .none)(pl:IsPart vl lo)(pu:IsPart vu hi)
  (h:Q (((sIx n 0 lo:Nat):Int),1,sIx n n hi-sIx n 0 lo) s):wpAny (model prog w) A (Builtin.Slice.sliceApplied (.ref sl) (pure (n:Int))) Q E s:=by
 obtain⟨os,hos,hcs,hds⟩:=id hs;unfold Builtin.Slice.sliceApplied Builtin.Slice.sliceFields;refine wpAny_bind (wpAny_bind (wpAny_field hos hds (x:=vl) rfl (wpAny_bind (wpAny_field hos hds (x:=vu) rfl (wpAny_bind (wpAny_field hos hds (x:=.none) rfl (wpAny_pure ?_)))))));refine wpAny_bind (slicePart_none ?_);show wpAny _ _ (if ((1:Int) == 0)=true then _ else _) _ _ s;rw[if_neg (by decide)];refine wpAny_bind (slicePart_ pl (wpAny_bind (slicePart_ pu (wpAny_bind (wpAny_pure ?_)))));show wpAny _ _ (match Builtin.Slice.sliceAdjust lo hi 1 (n:Int) with | (lo,hi)=>pure (lo,(1:Int),Builtin.Slice.slicePlaces lo hi 1)) _ _ s;rw[adjust_gen lo hi n];show wpAny _ _ (pure (((sIx n 0 lo:Nat):Int),(1:Int),Builtin.Slice.slicePlaces ((sIx n 0 lo:Nat):Int) ((sIx n n hi:Nat):Int) 1)) _ _ s;rw[places_gen];exact wpAny_pure h
theorem pick_gen (xs:Array Value)(i k:Nat):((List.range k).filterMap fun (m:Nat)=>xs[((i:Int)+(m:Int)*1).toNat]?).toArray=((xs.toList.drop i).take k).toArray:=by
 have e:(fun (m:Nat)=>xs[((i:Int)+(m:Int)*1).toNat]?)=fun m=>xs[i+m]?:=by
  funext m;have:((i:Int)+(m:Int)*1).toNat=i+m:=by omega
  rw[this]
 rw[e];have:=pick_run xs i k;rw[List.filterMap_map] at this;have e2:((fun x=>xs[x]?) ∘ fun x=>i+x)=fun m=>xs[i+m]?:=rfl
 rw[e2] at this;rw[this]
theorem getItem_tuple_cut {t sl:Addr}{items:Array Value}{vl vu:Value}{lo hi:Option Int}{Q:Value→Shared→Prop}(ht:IsTup s.heap t items)(hs:s.heap.IsSliceOf sl vl vu .none)(pl:IsPart vl lo)(pu:IsPart vu hi)
  (hw:¬ (sIx items.size 0 lo=0∧sIx items.size items.size hi=items.size))
  (h:Q (.ref s.heap.objs.size) {s with heap:=s.heap.push {cls:=.type "tuple",data:=.seq ((items.toList.drop (sIx items.size 0 lo)).take (sIx items.size items.size hi-sIx items.size 0 lo)).toArray}})
  (hsz:items.size≤sizeLine):wpAny (model prog w) A (getItem (.ref t) (.ref sl)) Q E s:=by
 have htake:sizeOk (.seq ((items.toList.drop (sIx items.size 0 lo)).take (sIx items.size items.size hi-sIx items.size 0 lo)).toArray):=by
  show ((items.toList.drop (sIx items.size 0 lo)).take (sIx items.size items.size hi-sIx items.size 0 lo)).toArray.size≤sizeLine;rw[List.size_toArray,List.length_take,List.length_drop,Array.length_toList];omega
 have hj:sIx items.size items.size hi≤items.size:=sIx_le _ _ (Nat.le_refl _) hi;obtain⟨os,hos,hcs,hds⟩:=id hs;have hTs:s.TypeIs (.ref sl) "slice":=⟨os,hos,hcs⟩
 unfold getItem;try with_reducible refine wpAny_holding ?_
 first | refine wpAny_bind (wpAny_pure ?_) | skip
 refine wpAny_bind (wpAny_sequenceKey ht.typeIs (by decide) ?_)
 refine wpAny_bind (wpAny_callSpecial?_slot (name:=Str.ofString "__getitem__") ht.typeIs PyProof.Rows.slot_tuple_getitem
  (wpAny_call_entry PyProof.Rows.slot_tuple_getitem ht.typeIs entry_tuple_getitem ?_ (args_tuple_getitem _ _)))
 show wpAny _ _ (Builtin.Tuple.tupleItemsOf (.ref t) >>= _) _ _ s;refine wpAny_bind (tupleItemsOf_ ht ?_);refine wpAny_bind (wpAny_typeOf hTs ?_);rw[if_pos (by decide)];refine wpAny_bind (sliceApplied_gen hs pl pu ?_);have hno:¬ ((((sIx items.size 0 lo:Nat):Int) == 0 && (1:Int) == 1 && (sIx items.size items.size hi-sIx items.size 0 lo) == items.size)=true):=by
  intro q;rw[Bool.and_eq_true,Bool.and_eq_true] at q;have q1:((sIx items.size 0 lo:Nat):Int)=0:=eq_of_beq q.1.1;have q2:sIx items.size items.size hi-sIx items.size 0 lo=items.size:=eq_of_beq q.2;exact hw ⟨by omega,by omega⟩
 show wpAny _ _ (if (((sIx items.size 0 lo:Nat):Int) == 0 && (1:Int) == 1 && (sIx items.size items.size hi-sIx items.size 0 lo) == items.size)=true then _ else _) _ _ s;rw[if_neg hno,pick_gen];first
  | exact wpAny_bind (m:=Builtin.Tuple.tupleExact _) (wpAny_newObj_type (wpAny_pure ⟨_,rfl,wpAny_pure h⟩) htake)
  | exact wpAny_bind (m:=Builtin.Tuple.tupleExact _) (wpAny_newObj_type (wpAny_bind (wpAny_pure (wpAny_pure ⟨_,rfl,wpAny_pure h⟩))) htake)
  | exact wpAny_bind (wpAny_bind (m:=Builtin.Tuple.tupleExact _) (wpAny_newObj_type (wpAny_pure (wpAny_pure ⟨_,rfl,wpAny_pure h⟩)) htake))
  | exact wpAny_bind (wpAny_bind (m:=Builtin.Tuple.tupleExact _) (wpAny_newObj_type (wpAny_pure ⟨_,rfl,wpAny_pure h⟩) htake))
end
end HT
namespace L2
open PySem PySem.Spec PyProof.Rows
abbrev TO:=St→Hp→(Option Int→Hp→Prop)→Prop
def PO (X:Cx)(e:Option Expr)(t:TO):Prop :=
 ∀ (pins:List (Addr×Obj)) (s:Shared) (σ:St) (H:Hp) (Q:Option Int→Hp→Prop),Inv X pins σ H s→t σ H Q →
  wpAny (model X.prog X.w) X.A (evalPart e X.env) (fun u s'=>∃ o H',Inv X pins σ H' s'∧IsPart u o∧Q o H') X.xe s
def tNoPart:TO:=fun _ H Q=>Q none H
def tPart (t:TE):TO:=fun σ H Q=>t σ H fun x H1=>∃ i,x=.int i∧Q (some i) H1
theorem intsAre_of {ns:List Int}:∀ {us:List Value},Vals (ns.map V.int) us→IntsAre us ns:=by
 induction ns with
 | nil=>intro us r;rw[List.map_nil] at r;cases r;exact .nil
 | cons n ns ih =>
  intro us r;rw[List.map_cons] at r;cases r with
  | cons r1 r2 =>
   obtain⟨t,e⟩:=r1;subst e;exact .cons n t (ih r2)
section
variable {X:Cx}{e:Expr}{te:TE}{lo hi:Option Expr}{tl th:TO}{pos p2:Pos}
theorem po_none:PO X none tNoPart:=by
 intro pins s σ H Q I h;rw[evalPart_none];exact wpAny_pure ⟨none,H,I,.none,h⟩
theorem po_some (h:PE X e te):PO X (some e) (tPart te):=by
 intro pins s σ H Q I hw;rw[evalPart_some];refine thn (h pins s σ H _ I hw) fun u s1 ⟨x,H1,I1,r1,q1⟩=>?_
 obtain⟨i,rfl,q⟩:=q1;obtain⟨t,rfl⟩:=r1;exact⟨some i,H1,I1,.int i t,q⟩
def SlR (X:Cx)(r:V→Option Int→Option Int→Hp→VK→Prop):Prop :=
 ∀ (pins:List (Addr×Obj)) (s:Shared) (σ:St) (H:Hp) (x:V) (v vl vu:Value) (lo hi:Option Int) (sl:Addr) (Q:VK),Inv X pins σ H s→RelV x v→s.heap.IsSliceOf sl vl vu .none→IsPart vl lo→IsPart vu hi→r x lo hi H Q →
  ∃ T id,typeLookup (.type T) "__getitem__"=pure (some (.builtin id))∧s.TypeIs v T∧wpAny (model X.prog X.w) X.A (getItem v (.ref sl)) (EP X pins σ Q) X.xe s
def tSl (r:V→Option Int→Option Int→Hp→VK→Prop)(te:TE)(tl th:TO):TE:=fun σ H Q=>te σ H fun x H1=>tl σ H1 fun l H2=>th σ H2 fun u H3=>r x l u H3 Q
theorem pe_slice {r:V→Option Int→Option Int→Hp→VK→Prop}(hr:SlR X r)(he:PE X e te)(hl:PO X lo tl)(hu:PO X hi th):PE X (.Subscript e (.Slice lo hi none p2) pos) (tSl r te tl th):=by
 intro pins s σ H Q I h;refine Subscript_ (thn (he pins s σ H _ I h) fun v s1 ⟨x,H1,I1,r1,q1⟩=>?_);refine wpAny_Slice (thn (hl pins s1 σ H1 _ I1 q1) fun vl s2 ⟨l,H2,I2,pl,q2⟩=>thn (hu pins s2 σ H2 _ I2 q2) fun vu s3 ⟨u,H3,I3,pu,q3⟩=>?_);rw[evalPart_none];refine wpAny_pure ?_;have I4:Inv X pins σ H3 {s3 with heap:=s3.heap.push {cls:=.type "slice",data:=.fields #[vl,vu,.none]}}:=I3.kept (t':=s3.toks) fun b ob q=>Heap.get?_push_of_some _ q
 obtain⟨T,id,hT,ht,hg⟩:=hr pins {s3 with heap:=s3.heap.push {cls:=.type "slice",data:=.fields #[vl,vu,.none]}} σ H3 x v vl vu l u s3.heap.objs.size Q I4 r1 (Heap.IsSliceOf.new ..) pl pu q3;show wpAny (model X.prog X.w) X.A (subscriptTail e (.Slice lo hi none p2) v (.ref s3.heap.objs.size)) (EP X pins σ Q) X.xe {s3 with heap:=s3.heap.push {cls:=.type "slice",data:=.fields #[vl,vu,.none]}};exact tail_any (ops:=[.ref s3.heap.objs.size,v]) ht hT hg (by with_unfolding_all rfl)
def cutV (xs:List V)(lo hi:Option Int):List V:=(xs.drop (HT.sIx xs.length 0 lo)).take (HT.sIx xs.length xs.length hi-HT.sIx xs.length 0 lo)
theorem cutV_length (xs:List V)(lo hi:Option Int):(cutV xs lo hi).length≤xs.length:=by
 unfold cutV;rw[List.length_take,List.length_drop];omega
def rLtT (K:PySem.W.Frag):R2:=fun x y H Q=>∃ a b ns ms,x=.ref a∧y=.ref b∧SqT K H a (ns.map V.int)∧SqT K H b (ms.map V.int)∧Q (.bl (HT.lexLt ns ms)) H
theorem op_ltT (hu:X.A.units<cLine):OpR X (compareOp .Lt) (rLtT X.K):=by
 intro pins s σ H x y v u Q I rx ry h;obtain⟨a,b,ns,ms,rfl,rfl,ha,hb,q⟩:=h;cases rx;cases ry;obtain⟨its,r1,p1,_⟩:=I.tuple ha;obtain⟨its2,r2,p2,_⟩:=I.tuple hb;have i1:IntsAre its.toArray.toList ns:=intsAre_of r1;have i2:IntsAre its2.toArray.toList ms:=intsAre_of r2;exact HT.lt_tupInts p1 p2 i1 i2 hu ⟨.bl (HT.lexLt ns ms),H,I,rfl,q⟩
theorem Vals.nil_iff {xs:List V}{us:List Value}(r:Vals xs us):us=[]↔xs=[]:=by
 cases r with
 | nil=>simp
 | cons _ _=>simp
end
end L2
namespace L2
open PySem PySem.Spec PyProof.Rows
def ixN (n:Nat)(i:Int):Option Nat:=if 0≤i then (if i<n then some i.toNat else none) else if -(n:Int)≤i then some (i+n).toNat else none
def atI {α:Type}(xs:List α)(i:Int):Option α:=(ixN xs.length i).bind fun j=>xs[j]?
theorem ixN_seq {n:Nat}{i:Int}{j:Nat}(h:ixN n i=some j):seqIndex? i n=some j∧j<n∧-(n:Int)≤i∧i<n:=by
 unfold ixN at h;by_cases h0:0≤i
 ·rw[if_pos h0] at h;by_cases h1:i<n
  ·rw[if_pos h1] at h;have e:i.toNat=j:=Option.some.inj h;exact⟨by rw[seqIndex_of h0 h1,e],by omega,by omega,h1⟩
  ·rw[if_neg h1] at h;cases h
 ·rw[if_neg h0] at h;by_cases h1:-(n:Int)≤i
  ·rw[if_pos h1] at h;have e:(i+n).toNat=j:=Option.some.inj h;exact⟨by rw[seqIndex_neg (by omega) h1,e],by omega,h1,by omega⟩
  ·rw[if_neg h1] at h;cases h
theorem atI_get {α:Type}{xs:List α}{i:Int}{v:α}(h:atI xs i=some v):∃ j,seqIndex? i xs.length=some j∧xs[j]?=some v∧j<xs.length∧-(xs.length:Int)≤i∧i<xs.length:=by
 unfold atI at h;cases e:ixN xs.length i with
 | none=>rw[e] at h;cases h
 | some j =>
  rw[e] at h;obtain⟨h1,h2,h3,h4⟩:=ixN_seq e;exact⟨j,h1,h,h2,h3,h4⟩
theorem atI_nat {α:Type}{xs:List α}{j:Nat}{v:α}(h:xs[j]?=some v):atI xs (j:Int)=some v:=by
 have hj:j<xs.length:=(List.getElem?_eq_some_iff.mp h).1;have e:ixN xs.length (j:Int)=some j:=by
  unfold ixN;rw[if_pos (by omega),if_pos (by omega)];simp
 unfold atI;rw[e];exact h
def PlainIx (b:Expr):Prop:=∀ o i,subscripted b false o i=operate [o,i] (getItem o i)
def IxR (X:Cx)(r:R2):Prop :=
 ∀ (value slice:Expr) (pins:List (Addr×Obj)) (s:Shared) (σ:St) (H:Hp) (x y:V) (v u:Value) (Q:VK),Inv X pins σ H s→RelV x v→RelV y u→r x y H Q →
  subscripted slice false v u=operate [v,u] (getItem v u)→wpAny (model X.prog X.w) X.A (subscriptTail value slice v u) (EP X pins σ Q) X.xe s
def MtR (X:Cx)(id:String)(r:V→List V→Hp→VK→Prop):Prop :=
 ∀ (pins:List (Addr×Obj)) (s:Shared) (σ:St) (H:Hp) (x:V) (xs:List V) (v:Value) (us:List Value) (Q:VK),Inv X pins σ H s→RelV x v→Vals xs us→r x xs H Q →
  wpAny (model X.prog X.w) X.A (call (.builtin id) (v::us)) (EP X pins σ Q) X.xe s
section
variable {X:Cx}{a b:Expr}{ta tb:TE}{pos:Pos}
theorem pe_ix {r:R2}(hr:IxR X r)(ha:PE X a ta)(hb:PE X b tb)(hs:PlainIx b):PE X (.Subscript a b pos) (tOp r ta tb):=by
 intro pins s σ H Q I h;exact Subscript_ (binT ha hb I h fun v u s2 x y H2 I2 rx ry q=>hr a b pins s2 σ H2 x y v u Q I2 rx ry q (hs _ _))
def rIxL (K:PySem.W.Frag):R2:=fun x y H Q=>∃ p xs i v,x=.ref p∧y=.int i∧SqL K H p xs∧atI xs i=some v∧Q v H
def rIxT (K:PySem.W.Frag):R2:=fun x y H Q=>∃ p xs i v,x=.ref p∧y=.int i∧SqT K H p xs∧atI xs i=some v∧Q v H
theorem ix_list:IxR X (rIxL X.K):=by
 intro value slice pins s σ H x y v u Q I rx ry h hs;obtain⟨p,xs,i,z,rfl,rfl,hq,he,q⟩:=h;cases rx;obtain⟨t,rfl⟩:=ry;obtain⟨its,r,pl,hz⟩:=I.list hq;obtain⟨j,h1,h2,h3,h4,h5⟩:=atI_get he;obtain⟨w,ew,rw'⟩:=r.get h2;have hl:=r.length;have hn:=line63;have fin:EP X pins σ Q w s:=⟨z,H,I,rw',q⟩
 by_cases h0:0≤i
 ·have hj:i.toNat=j:=by
   rw[seqIndex_of h0 h5] at h1;exact Option.some.inj h1
  exact item_listR pl.isList h0 (by omega) (by rw[hj];simpa using ew) fin hs
 ·have hj:(i+(its.toArray.size:Int)).toNat=j:=by
   rw[seqIndex_neg (by omega) h4] at h1;rw[List.size_toArray,← hl];exact Option.some.inj h1
  exact subscriptTail_builtinR (x:=w) pl.isList.typeIs slot_list_getitem.lookup
   (wpAny_getItem_list_neg (Q:=fun r s'=>r=w∧EP X pins σ Q r s') pl.isList (by omega) (by rw[List.size_toArray]<;>omega) (by omega) (by rw[hj];simpa using ew) ⟨rfl,fin⟩) hs
theorem ix_tup:IxR X (rIxT X.K):=by
 intro value slice pins s σ H x y v u Q I rx ry h hs;obtain⟨p,xs,i,z,rfl,rfl,hq,he,q⟩:=h;cases rx;obtain⟨t,rfl⟩:=ry;obtain⟨its,r,pl,hz⟩:=I.tuple hq;obtain⟨j,h1,h2,h3,h4,h5⟩:=atI_get he;obtain⟨w,ew,rw'⟩:=r.get h2;have hl:=r.length;have hn:=line63;have fin:EP X pins σ Q w s:=⟨z,H,I,rw',q⟩
 exact subscriptTail_builtinR (x:=w) pl.typeIs slot_tuple_getitem.lookup
  (getItem_tuple (j:=j) (Q:=fun r s'=>r=w∧EP X pins σ Q r s') pl (by omega) (by omega) (by rw[List.size_toArray,← hl];exact h1) (by simpa using ew) ⟨rfl,fin⟩) hs
theorem mapSeq_set (its:List Value)(n j:Nat)(u:Value):Obj.mapSeq (·.setIfInBounds j u) {cls:=.type "list",data:=.seq its.toArray n}={cls:=.type "list",data:=.seq (its.set j u).toArray n}:=by
 simp[Obj.mapSeq]
theorem Inv.lst {pins:List (Addr×Obj)}{σ:St}{H:Hp}{s:Shared}{p:Addr}{xs:List V}(I:Inv X pins σ H s)(h:H p=some (.lst xs)) :
  ∃ (its:List Value) (n:Nat),Vals xs its∧s.heap.get? p=some {cls:=.type "list",data:=.seq its.toArray n}∧xs.length≤sizeLine:=by
 obtain⟨z,its,n,r,e⟩:=I.hok p _ h;exact⟨its,n,r,e,z⟩
theorem Inv.lstUpd {pins:List (Addr×Obj)}{σ:St}{H:Hp}{s:Shared}{p:Addr}{xs ys:List V}{its its':List Value}{n n':Nat}{f:Obj→Obj}(I:Inv X pins σ H s)(h:H p=some (.lst xs))
  (ho:s.heap.get? p=some {cls:=.type "list",data:=.seq its.toArray n}) (hf:f {cls:=.type "list",data:=.seq its.toArray n}={cls:=.type "list",data:=.seq its'.toArray n'}) (r:Vals ys its') (hz:ys.length≤sizeLine) (t:Nat) :
  Inv X pins σ (upd H p (.lst ys)) {s with heap:=s.heap.update p f,toks:=t}:=by
 have e:(s.heap.update p f).get? p=some {cls:=.type "list",data:=.seq its'.toArray n'}:=by
  rw[Heap.get?_update_self f ho (by rw[hf]<;>rfl),hf]
 refine I.write (x:=p) (e:=p) (by rw[h];trivial) (.inl rfl) (fun b u hb q=>(Heap.get?_update_other _ _ (Ne.symm hb)).trans q) ⟨_,e⟩ ?_;exact⟨hz,its',n',r,e⟩
def rSetL:V→V→V→Hp→(Hp→Prop)→Prop:=fun o i v H Q=>∃ p xs k j,o=.ref p∧i=.int k∧H p=some (.lst xs)∧ixN xs.length k=some j∧Q (upd H p (.lst (xs.set j v)))
theorem set_list:PSet X rSetL:=by
 intro pins s σ H o i v ov iv u Q I ro ri rv h;obtain⟨p,xs,k,j,rfl,rfl,hp,hj,q⟩:=h;cases ro;obtain⟨t,rfl⟩:=ri;obtain⟨its,n,r,ho,hz⟩:=I.lst hp;obtain⟨h1,h2,h3,h4⟩:=ixN_seq hj;have hl:=r.length;have hn:=line63;have I':Inv X pins σ (upd H p (.lst (xs.set j v))) {s with heap:=s.heap.update p (Obj.mapSeq (·.setIfInBounds j u))} :=
  I.lstUpd hp ho (mapSeq_set its n j u) (r.set rv j) (by rw[List.length_set];exact hz) s.toks
 by_cases h0:0≤k
 ·have hk:k.toNat=j:=by
   rw[seqIndex_of h0 h4] at h1;exact Option.some.inj h1
  exact PySem.W.ki_setAt ho h0 (by omega) (by rw[List.size_toArray,← hl];exact h4) (by rw[hk];exact⟨_,I',q⟩)
 ·have hk:(k+(its.toArray.size:Int)).toNat=j:=by
   rw[seqIndex_neg (by omega) h3] at h1;rw[List.size_toArray,← hl];exact Option.some.inj h1
  exact PySem.W.ki_setBack ho (by omega) (by rw[List.size_toArray,← hl];exact h3) (by omega) (by rw[hk];exact⟨_,I',q⟩)
theorem slice_bounds (lo hi:Option Int)(n:Nat):(sliceBounds lo hi none n).1=((HT.sIx n 0 lo:Nat):Int)∧(sliceBounds lo hi none n).2.1=((HT.sIx n n hi:Nat):Int)∧(sliceBounds lo hi none n).2.2=1:=by
 refine⟨?_,?_,rfl⟩
 ·cases lo with
  | none=>simp[sliceBounds,HT.sIx]
  | some i =>
   simp only[sliceBounds,HT.sIx,Option.getD_none,show (1:Int)>0 by decide,if_true];by_cases h:i<0
   ·simp only[h,if_true]<;>omega
   ·simp only[h,if_false]<;>omega
 ·cases hi with
  | none=>simp[sliceBounds,HT.sIx]
  | some i =>
   simp only[sliceBounds,HT.sIx,Option.getD_none,show (1:Int)>0 by decide,if_true];by_cases h:i<0
   ·simp only[h,if_true]<;>omega
   ·simp only[h,if_false]<;>omega
theorem slicePick_cut (its:List Value)(lo hi:Option Int):slicePick its.toArray lo hi none=((its.drop (HT.sIx its.length 0 lo)).take (HT.sIx its.length its.length hi-HT.sIx its.length 0 lo)).toArray:=by
 obtain⟨h1,h2,h3⟩:=slice_bounds lo hi its.toArray.size;unfold slicePick;rw[h1,h2,h3];simp only[sliceRange_one,pick_run,List.size_toArray]<;>rfl
def rSlL (K:PySem.W.Frag):V→Option Int→Option Int→Hp→VK→Prop:=fun x lo hi H Q=>∃ a xs,x=.ref a∧SqL K H a xs∧∀ p,H p=none→Q (.ref p) (upd H p (.lst (cutV xs lo hi)))
theorem sl_list:SlR X (rSlL X.K):=by
 intro pins s σ H x v vl vu lo hi sl Q I rx hs pl pu h;obtain⟨a,xs,rfl,hx,q⟩:=h;cases rx;obtain⟨its,r,ht,hz⟩:=I.list hx;have hlen:=r.length;refine⟨"list",_,slot_list_getitem.lookup,ht.isList.typeIs,?_⟩;refine wpAny_getItem_list_slice ht.isList hs pl pu .none (by simp) ?_ (by rw[List.size_toArray]<;>omega);rw[slicePick_cut,← hlen];refine⟨.ref s.heap.objs.size,_,I.laid (t':=s.toks) (o:=.lst (cutV xs lo hi)) (fun b ob q=>Heap.get?_push_of_some _ q) (Nat.le_refl _) ?_,rfl,q _ (I.hok.fresh (Nat.le_refl _))⟩;exact⟨Nat.le_trans (cutV_length xs lo hi) hz,_,0,(r.drop (HT.sIx xs.length 0 lo)).take (HT.sIx xs.length xs.length hi-HT.sIx xs.length 0 lo),Heap.get?_push_size _ rfl⟩
def flatV:V→Bool
 | .non=>true
 | .bl _=>true
 | .int _=>true
 | .str _=>true
 | _=>false
def eqV:V→V→Bool
 | .non,.non=>true
 | .bl a,.bl b=>a == b
 | .bl a,.int b=>(if a then 1 else 0) == b
 | .int a,.bl b=>a == (if b then 1 else 0)
 | .int a,.int b=>a == b
 | .str a,.str b=>a == b
 | _,_=>false
theorem eqAt_V {A:Around}{s:Shared}{y x:V}{u v:Value}(ry:RelV y u)(rx:RelV x v)(fy:flatV y=true)(fx:flatV x=true):SeqAt.EqAt A s u v (eqV y x):=by
 cases y with
 | non =>
  cases ry;cases x with
  | non=>cases rx;exact SeqAt.EqAt.same _
  | bl b=>cases rx;exact SeqAt.EqAt.none_bool b
  | int b=>obtain⟨t,rfl⟩:=rx;exact SeqAt.EqAt.none_int b t
  | str b=>obtain⟨t,rfl⟩:=rx;exact SeqAt.EqAt.none_str b t
  | _=>exact absurd (show false=true from fx) Bool.false_ne_true
 | bl a =>
  cases ry;cases x with
  | non=>cases rx;exact SeqAt.EqAt.bool_none a
  | bl b=>cases rx;exact SeqAt.EqAt.bool_bool a b
  | int b=>obtain⟨t,rfl⟩:=rx;exact SeqAt.EqAt.bool_int a b t
  | str b=>obtain⟨t,rfl⟩:=rx;exact SeqAt.EqAt.bool_str a b t
  | _=>exact absurd (show false=true from fx) Bool.false_ne_true
 | int a =>
  obtain⟨t',rfl⟩:=ry;cases x with
  | non=>cases rx;exact SeqAt.EqAt.int_none a t'
  | bl b=>cases rx;exact SeqAt.EqAt.int_bool a t' b
  | int b=>obtain⟨t,rfl⟩:=rx;exact SeqAt.EqAt.int_int a t' b t
  | str b=>obtain⟨t,rfl⟩:=rx;exact SeqAt.EqAt.int_str a t' b t
  | _=>exact absurd (show false=true from fx) Bool.false_ne_true
 | str a =>
  obtain⟨t',rfl⟩:=ry;cases x with
  | non=>cases rx;exact SeqAt.EqAt.str_none a t'
  | bl b=>cases rx;exact SeqAt.EqAt.str_bool a t' b
  | int b=>obtain⟨t,rfl⟩:=rx;exact SeqAt.EqAt.str_int a t' b t
  | str b=>obtain⟨t,rfl⟩:=rx;exact SeqAt.EqAt.str_str a t' b t
  | _=>exact absurd (show false=true from fx) Bool.false_ne_true
 | _=>exact absurd (show false=true from fy) Bool.false_ne_true
def eqU (x:V)(u:Value):Bool:=match u with
 | .none=>eqV .non x
 | .bool b=>eqV (.bl b) x
 | .int i _=>eqV (.int i) x
 | .str z _=>eqV (.str z) x
 | _=>false
theorem eqU_of {x y:V}{u:Value}(r:RelV y u)(f:flatV y=true):eqU x u=eqV y x:=by
 cases y with
 | non=>cases r;rfl
 | bl b=>cases r;rfl
 | int i=>obtain⟨t,rfl⟩:=r;rfl
 | str z=>obtain⟨t,rfl⟩:=r;rfl
 | _=>exact absurd (show false=true from f) Bool.false_ne_true
theorem any_eqU {x:V}:∀ {xs:List V} {us:List Value},Vals xs us→xs.all flatV=true→us.any (eqU x)=xs.any fun y=>eqV y x
 | _,_,.nil,_=>rfl
 | y::xs,u::us,.cons r t,f=>by
  rw[List.all_cons,Bool.and_eq_true] at f;rw[List.any_cons,List.any_cons,eqU_of r f.1,any_eqU t f.2]
theorem mem_eqAt {A:Around}{s:Shared}{x:V}{v:Value}(rx:RelV x v)(fx:flatV x=true):∀ {xs:List V} {us:List Value},Vals xs us→xs.all flatV=true→∀ u∈us,SeqAt.EqAt A s u v (eqU x u)
 | _,_,.nil,_=>fun u hu=>by cases hu
 | y::xs,u::us,.cons r t,f=>fun u' hu=>by
  rw[List.all_cons,Bool.and_eq_true] at f;rcases List.mem_cons.mp hu with rfl | hu
  ·rw[eqU_of r f.1];exact eqAt_V r rx f.1 fx
  ·exact mem_eqAt rx fx t f.2 u' hu
def inV (x:V)(xs:List V):Bool:=xs.any fun y=>eqV y x
def rIn (K:PySem.W.Frag)(neg:Bool):R2:=fun x y H Q=>∃ p xs,y=.ref p∧(SqL K H p xs∨SqT K H p xs)∧flatV x=true∧xs.all flatV=true∧Q (.bl (if neg then !inV x xs else inV x xs)) H
theorem op_in_seq:OpR X (compareOp .In) (rIn X.K false):=by
 intro pins s σ H x y v u Q I rx ry h;obtain⟨p,xs,rfl,hq,fx,fs,q⟩:=h;cases ry;rcases hq with hq | hq
 ·obtain⟨its,r,pl,hz⟩:=I.list hq;refine SeqAt.in_listAt (eqU x) pl.isList (fun w hw=>mem_eqAt rx fx r fs w (by simpa using hw)) ⟨.bl _,H,I,rfl,?_⟩;rw[show its.toArray.any (eqU x)=its.any (eqU x) by simp,any_eqU r fs];exact q
 ·obtain⟨its,r,pl,hz⟩:=I.tuple hq;refine SeqAt.in_tupleAt (eqU x) pl (fun w hw=>mem_eqAt rx fx r fs w (by simpa using hw)) ⟨.bl _,H,I,rfl,?_⟩;rw[show its.toArray.any (eqU x)=its.any (eqU x) by simp,any_eqU r fs];exact q
theorem op_notIn_seq:OpR X (compareOp .NotIn) (rIn X.K true):=by
 intro pins s σ H x y v u Q I rx ry h;obtain⟨p,xs,rfl,hq,fx,fs,q⟩:=h;cases ry;rcases hq with hq | hq
 ·obtain⟨its,r,pl,hz⟩:=I.list hq;refine SeqAt.notIn_listAt (eqU x) pl.isList (fun w hw=>mem_eqAt rx fx r fs w (by simpa using hw)) ⟨.bl _,H,I,rfl,?_⟩;rw[show its.toArray.any (eqU x)=its.any (eqU x) by simp,any_eqU r fs];exact q
 ·obtain⟨its,r,pl,hz⟩:=I.tuple hq;refine SeqAt.notIn_tupleAt (eqU x) pl (fun w hw=>mem_eqAt rx fx r fs w (by simpa using hw)) ⟨.bl _,H,I,rfl,?_⟩;rw[show its.toArray.any (eqU x)=its.any (eqU x) by simp,any_eqU r fs];exact q
theorem call_len_seq:CallR X (.builtin "len") (fun xs H Q=>∃ p ys,xs=[.ref p]∧(SqL X.K H p ys∨SqT X.K H p ys)∧Q (.int ys.length) H):=by
 intro pins s σ H xs us Q I r h;obtain⟨p,ys,rfl,hq,q⟩:=h;obtain⟨u,rfl,rx⟩:=vals1 r;cases rx;have hn:=line63;rcases hq with hq | hq
 ·obtain⟨its,r',pl,hz⟩:=I.list hq;have hlen:=r'.length;exact Calls.call_len_list pl.isList (by simp only[List.size_toArray]<;>omega) ⟨.int ys.length,H,I.tok _,⟨s.toks+1,by rw[List.size_toArray,hlen]⟩,q⟩
 ·obtain⟨its,r',pl,hz⟩:=I.tuple hq;have hlen:=r'.length;exact len_tuple pl (by simp only[List.size_toArray]<;>omega) ⟨.int ys.length,H,I.tok _,⟨s.toks+1,by rw[List.size_toArray,hlen]⟩,q⟩
theorem call_list_of:CallR X (.type "list") (fun xs H Q=>∃ p ys,xs=[.ref p]∧(SqL X.K H p ys∨SqT X.K H p ys)∧∀ l,H l=none→Q (.ref l) (upd H l (.lst ys))):=by
 intro pins s σ H xs us Q I r h;obtain⟨p,ys,rfl,hq,q⟩:=h;obtain⟨u,rfl,rx⟩:=vals1 r;cases rx;have fin:∀ (its:List Value),Vals ys its→ys.length≤sizeLine→∀ (h':Heap) (c':Nat),(∀ b o',s.heap.get? b=some o'→h'.get? b=some o') →
   h'.get? s.heap.objs.size=some {cls:=.type "list",dict:=none,data:=.seq its.toArray c',slots:=#[]}→EP X pins σ Q (.ref s.heap.objs.size) {s with heap:=h'}:=fun its r' hz h' c' kp e =>
  ⟨.ref s.heap.objs.size,_,I.laid (t':=s.toks) kp (Nat.le_refl _) (show ObjOk X.prog X.w _ h' _ (.lst ys) from ⟨hz,its,c',r',e⟩),rfl,q _ (I.hok.fresh (Nat.le_refl _))⟩
 rcases hq with hq | hq
 ·obtain⟨its,r',pl,hz⟩:=I.list hq;have hlen:=r'.length;obtain⟨o,ho,hc,n,hd⟩:=pl.isList;exact call_list_seq p (.inl rfl) ho hc hd (fun h' c' kp e=>fin its r' hz h' c' kp e) (by simp only[List.size_toArray]<;>omega)
 ·obtain⟨its,r',pl,hz⟩:=I.tuple hq;have hlen:=r'.length;obtain⟨o,ho,hc,n,hd⟩:=pl;exact call_list_seq p (.inr rfl) ho hc hd (fun h' c' kp e=>fin its r' hz h' c' kp e) (by simp only[List.size_toArray]<;>omega)
theorem call_tuple_of:CallR X (.type "tuple") (fun xs H Q=>∃ p ys,xs=[.ref p]∧((SqL X.K H p ys∧∀ l,H l=none→Q (.ref l) (upd H l (.tup ys)))∨(SqT X.K H p ys∧Q (.ref p) H))):=by
 intro pins s σ H xs us Q I r h;obtain⟨p,ys,rfl,h⟩:=h;obtain⟨u,rfl,rx⟩:=vals1 r;cases rx;rcases h with ⟨hq,q⟩ | ⟨hq,q⟩
 ·obtain⟨its,r',pl,hz⟩:=I.list hq;have hlen:=r'.length;refine call_tuple_list pl.isList (fun h' kp=>?_) (by simp only[List.size_toArray]<;>omega);have I1:Inv X pins σ H {s with heap:=h'}:=I.kept (t':=s.toks) kp;have I2:Inv X pins σ (upd H h'.objs.size (.tup ys)) {s with heap:=h'.push {cls:=.type "tuple",data:=.seq its.toArray}} :=
   I1.laid (t':=s.toks) (fun b o e=>Heap.get?_push_of_some _ e) (Nat.le_refl _) (show ObjOk X.prog X.w _ _ _ (.tup ys) from ⟨hz,its,r',IsTup.new _ _⟩)
  exact⟨.ref h'.objs.size,_,I2,rfl,q _ (I1.hok.fresh (Nat.le_refl _))⟩
 ·obtain⟨its,r',pl,hz⟩:=I.tuple hq;exact call_tuple_same pl ⟨.ref p,H,I,rfl,q⟩
def tyV (K:PySem.W.Frag)(T:String)(x:V)(H:Hp):Prop:=match x with
 | .str _=>T="str"
 | .int _=>T="int"
 | .ref p=>(T="list"∧∃ xs,SqL K H p xs)∨(T="tuple"∧∃ o,K.lookup p=some o∧o.cls=.type "tuple"∧o.dict=none) ∨
   (T="dict"∧((∃ kvs,H p=some (.dK kvs))∨∃ kvs,H p=some (.dT kvs)))∨(T="set"∧∃ S n,H p=some (.set S n))
 | _=>False
theorem tyV_is {pins:List (Addr×Obj)}{σ:St}{H:Hp}{s:Shared}{T:String}{x:V}{v:Value}(I:Inv X pins σ H s)(r:RelV x v)(ty:tyV X.K T x H) :
  s.TypeIs v T∧∀ a,v=.ref a→∃ ob,s.heap.get? a=some ob∧ob.dict=none:=by
 cases x with
 | str z =>
  obtain⟨t,rfl⟩:=r;cases (show T="str" from ty);exact⟨typeIs_str s z t,fun _ e=>nomatch e⟩
 | int i =>
  obtain⟨t,rfl⟩:=r;cases (show T="int" from ty);exact⟨typeIs_int s i t,fun _ e=>nomatch e⟩
 | ref p =>
  cases r;rcases ty with ⟨rfl,xs,hq⟩ | ⟨rfl,o,hk,hc,hd⟩ | ⟨rfl,hk⟩ | ⟨rfl,S,n,hk⟩
  ·obtain⟨its,_,pl,_⟩:=I.list hq;refine⟨pl.isList.typeIs,fun a e=>?_⟩;cases e;obtain⟨o,n,e,c,hd,_⟩:=pl;exact⟨o,e,hd⟩
  ·refine⟨⟨o,I.kIn p o hk,hc⟩,fun a e=>?_⟩;cases e;exact⟨o,I.kIn _ o hk,hd⟩
  ·have z:∃ o,s.heap.get? p=some o∧o.ExactDict:=by
    rcases hk with ⟨kvs,hk⟩ | ⟨kvs,hk⟩
    ·obtain⟨_,_,_,_,o,_,_,e,ex,_⟩:=I.hok p _ hk;exact⟨o,e,ex⟩
    ·obtain⟨_,_,_,_,o,_,_,e,ex,_⟩:=I.hok p _ hk;exact⟨o,e,ex⟩
   obtain⟨o,e,ex⟩:=z;refine⟨⟨o,e,ex.1⟩,fun a e2=>?_⟩;cases e2;exact⟨o,e,ex.2.1⟩
  ·obtain⟨o,_,_,_,e,ex,_⟩:=I.hok p _ hk;refine⟨⟨o,e,ex.1⟩,fun a e2=>?_⟩;cases e2;exact⟨o,e,ex.2.1⟩
 | _=>exact False.elim ty
def tBM0 (K:PySem.W.Frag)(T:String)(r:V→List V→Hp→VK→Prop)(to:TE):TE:=fun σ H Q=>to σ H fun x H1=>tyV K T x H1∧r x [] H1 Q
def tBM (K:PySem.W.Frag)(T:String)(r:V→List V→Hp→VK→Prop)(to:TE)(t:TA):TE:=fun σ H Q=>to σ H fun x H1=>tyV K T x H1∧t σ H1 fun xs H2=>r x xs H2 Q
variable {o e:Expr}{es:List Expr}{to:TE}{t:TA}{name:Str}{apos cpos:Pos}{T id:String}{r:V→List V→Hp→VK→Prop}
theorem pe_bm0 (pa:PlainAttrs T)(slot:Slot T name id)(hty:typeOf (.builtin id)=pure (.type "method_descriptor"))(hm:MtR X id r)(ho:PE X o to)
  (hbase:attributeBase o name X.env (eval o X.env)=eval o X.env:=by rfl) (hline:(apos.endLine == cpos.line)=true:=by rfl):PE X (.Call (.Attribute o name apos) [] [] cpos) (tBM0 X.K T r to):=by
 intro pins s σ H Q I h;refine wpAny_Call_method0_late hbase hline (thn (ho pins s σ H _ I h) fun v s1 ⟨x,H1,I1,r1,ty,q1⟩=>?_);obtain⟨h1,h2⟩:=tyV_is I1 r1 ty;exact⟨T,id,pa,slot,hty,h1,h2,Calls.callWith_builtin rfl (PySem.evalArgs_none (hm pins s1 σ H1 x [] v [] Q I1 r1 .nil q1))⟩
theorem pe_bm (pa:PlainAttrs T)(slot:Slot T name id)(hty:typeOf (.builtin id)=pure (.type "method_descriptor"))(hm:MtR X id r)(ho:PE X o to)(ha:PA X (e::es) t)
  (hbase:attributeBase o name X.env (eval o X.env)=eval o X.env:=by rfl)
  (hfew:((backTo cpos (starEach (e::es) X.env)).all (fun x=>!x.1) && (backToKw cpos (keywordEach [] X.env)).all (fun x=>x.1.isSome)
   && decide ((e::es).length+([]:List Keyword).length+(if ([]:List Keyword).isEmpty then 0 else 1)<30))=true:=by rfl)
  (hline:(apos.endLine == cpos.line)=true:=by rfl) (hs:starEach (e::es) X.env=(false,eval e X.env)::starEach es X.env:=by rfl) (hplain:(backTo cpos (starEach es X.env)).any (·.1)=false:=by rfl) :
  PE X (.Call (.Attribute o name apos) (e::es) [] cpos) (tBM X.K T r to t):=by
 intro pins s σ H Q I h;refine wpAny_Call_method_late hbase hfew hline rfl (thn (ho pins s σ H _ I h) fun v s1 ⟨x,H1,I1,r1,ty,q1⟩=>?_);obtain⟨h1,h2⟩:=tyV_is I1 r1 ty;refine⟨T,id,pa,slot,hty,h1,h2,?_⟩;have hA:=ha cpos pins s1 σ H1 _ I1 q1;rw[hs] at hA ⊢;refine Calls.callWith_builtin (by show (false || (backTo cpos (starEach es X.env)).any (·.1))=false;rw[hplain]<;>rfl) (Calls.evalArgs_plain ?_);exact thn hA fun us s2 ⟨vs,H2,I2,r2,q2⟩=>hm pins s2 σ H2 x vs v us Q I2 r1 r2 q2
/- xs.append(e),list.index on a module's tuple .. are MtR facts of 06m -/
end
end L2
namespace L2
open PySem PySem.Spec PyProof.Rows
def MtM (X:Cx)(id:String)(r:V→List V→Hp→VK→Prop):Prop :=
 ∀ (pins:List (Addr×Obj)) (s:Shared) (σ:St) (H:Hp) (x:V) (xs:List V) (v:Value) (us:List Value) (Q:VK),Inv X pins σ H s→RelV x v→Vals xs us→r x xs H Q →
  wpAny (model X.prog X.w) X.A (call (.builtin id) (v::us)) (EP X pins σ Q) X.xe s
theorem Vals.one:∀ {x:V} {us:List Value},Vals [x] us→∃ u,us=[u]∧RelV x u
 | _,_,.cons r .nil=>⟨_,rfl,r⟩
theorem Vals.zero:∀ {us:List Value},Vals [] us→us=[]
 | _,.nil=>rfl
theorem Vals.dropLast {xs:List V}{us:List Value}(h:Vals xs us):Vals xs.dropLast us.dropLast:=by
 induction h with
 | nil=>exact .nil
 | cons r t ih =>
  cases t with
  | nil=>exact .nil
  | cons q t'=>exact .cons r ih
theorem Vals.eraseIdx:∀ {xs:List V} {us:List Value} (i:Nat),Vals xs us→Vals (xs.eraseIdx i) (us.eraseIdx i)
 | _,_,_,.nil=>.nil
 | _,_,0,.cons _ t=>t
 | _,_,i+1,.cons r t=>.cons r (Vals.eraseIdx i t)
theorem Vals.reverse {xs:List V}{us:List Value}(h:Vals xs us):Vals xs.reverse us.reverse:=by
 induction h with
 | nil=>exact .nil
 | cons r t ih=>rw[List.reverse_cons,List.reverse_cons];exact Vals.append ih (.cons r .nil)
theorem Vals.rep {xs:List V}{us:List Value}(h:Vals xs us):∀ k:Nat,Vals (List.replicate k xs).flatten (List.replicate k us).flatten
 | 0=>.nil
 | k+1=>by
  rw[List.replicate_succ,List.replicate_succ,List.flatten_cons,List.flatten_cons];exact Vals.append h (Vals.rep h k)
theorem erase_last {α:Type}(l:List α):l.eraseIdx (l.length-1)=l.dropLast:=by
 induction l with
 | nil=>rfl
 | cons a r ih =>
  cases r with
  | nil=>rfl
  | cons b r =>
   have e:(a::b::r).length-1=((b::r).length-1)+1:=by
    have h1:(a::b::r).length=r.length+2:=rfl;have h2:(b::r).length=r.length+1:=rfl;omega
   rw[e,List.eraseIdx_cons_succ,ih];all_goals rfl
theorem foldl_rep (its:List Value):∀ (k:Nat) (acc:List Value),
  List.foldl (fun x1 x2=>x1++x2) acc.toArray (List.replicate k its.toArray)=(acc++(List.replicate k its).flatten).toArray
 | 0,acc=>by simp
 | k+1,acc=>by
  have e:acc.toArray++its.toArray=(acc++its).toArray:=by simp
  have e2:(acc++its)++(List.replicate k its).flatten=acc++(List.replicate (k+1) its).flatten:=by
   rw[List.replicate_succ,List.flatten_cons,List.append_assoc]
  rw[← e2,← foldl_rep its k (acc++its),← e,List.replicate_succ,List.foldl_cons]
section
variable {X:Cx}{pins:List (Addr×Obj)}{σ:St}{H:Hp}{s:Shared}{l b:Addr}{xs ys zs:List V}
theorem Inv.lset {its its':List Value}{n:Nat}{f:Array Value→Array Value}{t':Nat}(I:Inv X pins σ H s)(hH:H l=some (.lst xs))
  (e:s.heap.get? l=some {cls:=.type "list",data:=.seq its.toArray n}) (hf:f its.toArray=its'.toArray) (hv:Vals ys its') (hz:ys.length≤sizeLine) :
  Inv X pins σ (upd H l (.lst ys)) {s with heap:=s.heap.update l (Obj.mapSeq f),toks:=t'}:=by
 have q:=PySem.IsL.update e f;rw[hf] at q;refine I.write (x:=l) (e:=l) (by rw[hH];exact trivial) (.inl rfl) (fun b' u hb hu=>(Heap.get?_update_other s.heap (Obj.mapSeq f) (Ne.symm hb)).trans hu) ⟨_,q⟩ ?_;exact⟨hz,its',_,hv,q⟩
theorem Inv.lnew {its:List Value}{t':Nat}(I:Inv X pins σ H s)(hv:Vals ys its)(hz:ys.length≤sizeLine) :
  Inv X pins σ (upd H s.heap.objs.size (.lst ys)) {s with heap:=s.heap.push {cls:=.type "list",data:=.seq its.toArray},toks:=t'} :=
 I.laid (fun _ _ q=>Heap.get?_push_of_some _ q) (Nat.le_refl _) ⟨hz,its,0,hv,Heap.get?_push_size _ rfl⟩
theorem Inv.fresh (I:Inv X pins σ H s):H s.heap.objs.size=none:=I.hok.fresh (Nat.le_refl _)
theorem Inv.lstM (I:Inv X pins σ H s)(hH:H l=some (.lst xs)):xs.length≤sizeLine∧∃ (its:List Value) (n:Nat),Vals xs its∧xs.length=its.length∧s.heap.get? l=some {cls:=.type "list",data:=.seq its.toArray n}:=by
 obtain⟨z,its,n,r,e⟩:=I.hok l _ hH;exact⟨z,its,n,r,r.length,e⟩
theorem notLongL {n:Nat}(h:n≤sizeLine):Builtin.List.listTooLong n=false:=by
 unfold Builtin.List.listTooLong;exact decide_eq_false (by omega)
end
section
variable {X:Cx}
def rAppend:V→List V→Hp→VK→Prop:=fun x vs H Q=>∃ l xs y,x=.ref l∧vs=[y]∧H l=some (.lst xs)∧xs.length<sizeLine∧Q .non (upd H l (.lst (xs++[y])))
theorem mt_append:MtM X "list.append" rAppend:=by
 intro pins s σ H x vs v us Q I rx rv h;obtain⟨l,xs,y,rfl,rfl,hH,hz,q⟩:=h;cases rx;obtain⟨u,rfl,ru⟩:=rv.one;obtain⟨z,its,n,r,hl,e⟩:=I.lstM hH;refine call_meets F.slot_list_append ⟨_,e,rfl⟩ F.entry_list_append (F.args_list_append_2 _ _) (PySem.list_append l its.toArray n u (by rw[List.size_toArray];omega)) ⟨e,?_⟩;refine⟨.non,_,I.lset (its':=its++[u]) hH e (by simp) (r.append (.cons ru .nil)) ?_,rfl,q⟩;rw[List.length_append,List.length_singleton];omega
def rExtend:V→List V→Hp→VK→Prop:=fun x vs H Q=>∃ l b xs zs,x=.ref l∧vs=[.ref b]∧H l=some (.lst xs)∧H b=some (.lst zs)∧xs.length+zs.length≤sizeLine∧Q .non (upd H l (.lst (xs++zs)))
theorem mt_extend:MtM X "list.extend" rExtend:=by
 intro pins s σ H x vs v us Q I rx rv h;obtain⟨l,b,xs,zs,rfl,rfl,hH,hB,hz,q⟩:=h;cases rx;obtain⟨u,rfl,ru⟩:=rv.one;cases ru;obtain⟨z,its,n,r,hl,e⟩:=I.lstM hH;obtain⟨z2,its2,n2,r2,hl2,e2⟩:=I.lstM hB;have hsz:its.toArray.size+its2.toArray.size≤sizeLine:=by rw[List.size_toArray,List.size_toArray];omega
 have hlong:¬ (!its.toArray.isEmpty && Builtin.List.listTooLong (its.toArray.size+its2.toArray.size))=true:=by
  rw[notLongL hsz,Bool.and_false];exact Bool.false_ne_true
 refine call_meets F.slot_list_extend ⟨_,e,rfl⟩ F.entry_list_extend (F.args_list_extend_2 _ _)
  (AutoSeq1.list_extend_list_list_0 l its.toArray n b its2.toArray n2 hlong (by rw[List.size_toArray];omega) (by omega)) ⟨e,e2,?_⟩
 refine⟨.non,_,I.lset (its':=its++its2) hH e (by simp) (r.append r2) ?_,rfl,q⟩;rw[List.length_append];omega
def rPop:V→List V→Hp→VK→Prop:=fun x vs H Q=>∃ l xs y,x=.ref l∧vs=[]∧H l=some (.lst xs)∧xs[xs.length-1]?=some y∧Q y (upd H l (.lst xs.dropLast))
theorem mt_pop:MtM X "list.pop" rPop:=by
 intro pins s σ H x vs v us Q I rx rv h;obtain⟨l,xs,y,rfl,rfl,hH,hy,q⟩:=h;cases rx;have hus:=rv.zero;subst hus;obtain⟨z,its,n,r,hl,e⟩:=I.lstM hH;obtain⟨u,hu,ru⟩:=r.get hy;have hy':its.toArray[its.toArray.size-1]?=some u:=by
  show its.toArray[its.length-1]?=some u;rw[← Array.getElem?_toList,← hl];exact hu
 refine call_meets F.slot_list_pop ⟨_,e,rfl⟩ F.entry_list_pop (F.args_list_pop_1 _) (MeetsSeq.list_pop_last l its.toArray n u hy' (by rw[List.size_toArray];omega)) ⟨e,?_⟩;refine⟨y,_,I.lset (its':=its.dropLast) hH e ?_ r.dropLast ?_,ru,q⟩
 ·show its.toArray.eraseIdxIfInBounds (its.toArray.size-1)=its.dropLast.toArray;rw[List.size_toArray,List.eraseIdxIfInBounds_toArray,erase_last]
 ·rw[List.length_dropLast];omega
def rCat:R2:=fun x y H Q=>∃ l b xs zs,x=.ref l∧y=.ref b∧H l=some (.lst xs)∧H b=some (.lst zs)∧xs.length+zs.length≤sizeLine∧∀ p,H p=none→Q (.ref p) (upd H p (.lst (xs++zs)))
theorem op_cat:OpR X (binaryOp .Add) rCat:=by
 intro pins s σ H x y v u Q I rx ry h;obtain⟨l,b,xs,zs,rfl,rfl,hH,hB,hz,q⟩:=h;cases rx;cases ry;obtain⟨z,its,n,r,hl,e⟩:=I.lstM hH;obtain⟨z2,its2,n2,r2,hl2,e2⟩:=I.lstM hB;refine PySem.P.add_list e e2 ?_ (by rw[List.size_toArray,List.size_toArray];omega);have ea:its.toArray++its2.toArray=(its++its2).toArray:=by simp
 rw[ea];exact⟨.ref _,_,I.lnew (t':=s.toks) (r.append r2) (by rw[List.length_append];omega),rfl,q _ I.fresh⟩
def rRep:R2:=fun x y H Q=>∃ l k xs,x=.ref l∧y=.int k∧H l=some (.lst xs)∧-(2 ^ 63)≤k∧k<2 ^ 63∧xs.length*k.toNat≤sizeLine ∧
 ∀ p,H p=none→Q (.ref p) (upd H p (.lst (List.replicate k.toNat xs).flatten))
theorem len_rep {α:Type}(xs:List α)(k:Nat):(List.replicate k xs).flatten.length=k*xs.length:=by
 induction k with
 | zero=>simp
 | succ k ih=>rw[List.replicate_succ,List.flatten_cons,List.length_append,ih,Nat.succ_mul,Nat.add_comm]
theorem op_rep:OpR X (binaryOp .Mult) rRep:=by
 intro pins s σ H x y v u Q I rx ry h;obtain⟨l,k,xs,rfl,rfl,hH,h1,h2,hz,q⟩:=h;cases rx;obtain⟨t,rfl⟩:=ry;obtain⟨z,its,n,r,hl,e⟩:=I.lstM hH;have hlen:its.toArray.size*k.toNat≤sizeLine:=by rw[List.size_toArray,← hl];exact hz
 have hcap:¬ its.toArray.size*k.toNat>(2 ^ 63-1) / 8:=by
  have:(sizeLine:Nat)≤(2 ^ 63-1) / 8:=by decide
  omega
 have hfit:¬ (!Builtin.List.listFitsIndex k)=true:=by
  rw[fitsIndex_both h1 h2];exact Bool.false_ne_true
 have hlong:¬ Builtin.List.listTooLong (its.toArray.size*k.toNat)=true:=by
  rw[notLongL hlen];exact Bool.false_ne_true
 have hnew:List.foldl (fun x1 x2=>x1++x2) #[] (List.replicate (if its.toArray.isEmpty=true then 0 else k.toNat) its.toArray)=(List.replicate k.toNat its).flatten.toArray:=by
  have f0:∀ m:Nat,List.foldl (fun x1 x2=>x1++x2) #[] (List.replicate m its.toArray)=(List.replicate m its).flatten.toArray:=fun m=>by
   have:=foldl_rep its m [];rw[List.nil_append] at this;exact this
  rw[f0];cases its with
  | nil=>simp
  | cons a r'=>rw[if_neg (by simp)]
 refine wpAny_binaryOp_repeat_ref (T:="list") (U:="int") (by decide) ⟨_,e,rfl⟩ (fun s'=>typeIs_int s' k t) noFill_list_mul F.fills_int_mul F.slot_int_rmul repeat_list F.slot_int_index.lookup
  (call_meets F.slot_int_rmul (typeIs_int s k t) F.entry_int_rmul (F.args_int_rmul_2 _ _) (int___rmul___int_list k t l its.toArray n)
   ⟨e,rfl,⟨_,e,rfl⟩,call_meets F.slot_list_mul ⟨_,e,rfl⟩ F.entry_list_mul (F.args_list_mul_2 _ _) (AutoListH.list___mul___list_int_3 l its.toArray n k t hfit hcap hlong) ⟨e,?_⟩⟩)
 rw[hnew];exact⟨.ref _,_,I.lnew (t':=s.toks) (r.rep k.toNat) (by rw[len_rep,Nat.mul_comm];exact hz),rfl,q _ I.fresh⟩
end
end L2
namespace Att
open PySem PySem.W PySem.Calls PyProof.Rows
theorem ints_of_wellAll {P:Params}{h:Heap}:∀ (ns:List Int) (vs:List Value),WellAll P h vs (ns.map WData.int)→IntsAre vs ns:=by
 intro ns;induction ns with
 | nil =>
  intro vs w;rw[List.map_nil] at w;cases w;exact .nil
 | cons n ns ih =>
  intro vs w;rw[List.map_cons] at w;cases w with
  | cons a b =>
   cases a;exact .cons _ _ (ih _ b)
theorem script_of {l:OpenLaw}{n:Nat}(hn:l.most=some n){P:Params}{h:Heap}{args:List WData}{vals:List Value}
  (hpre:l.row.toRowW.claim.pre args=true) (hwl:WellAll P h vals args) :
  ∃ a vs ns,vals=[Value.ref a]∧args=[WData.list (ns.map WData.int)]∧h.get? a=some {cls:=.type "list",data:=.seq vs.toArray}∧IntsAre vs ns∧ns.length≤n:=by
 have hsh:WShape.hasAll [] args [.list .int]=true:=(pre_splitW hpre).1;have hc:l.pre.holds [] {args:=args}=true:=(pre_splitW hpre).2;obtain⟨d,r,rfl,h1,h2⟩:=hasAllW_cons hsh;obtain rfl:=hasAllW_nil h2;obtain⟨xs,rfl,h3⟩:=hasW_list h1;obtain⟨ns,rfl⟩:=items_int h3;have hlen:ns.length≤n:=by
  unfold OpenLaw.pre at hc;have h4:(WTm.not (.lt (.lit (.int (n:Int))) (.len (.arg 0)))).holds [] {args:=[.list (ns.map .int)]}=true:=by
   have h4:=(holds_andW hc).1;rw[hn] at h4;exact h4
  have h5:=condW_of h4 (w_not (w_lt w_lit (w_len_list (w_arg rfl))));rw[List.length_map] at h5;refine Nat.le_of_not_lt fun q=>?_
  have q':(n:Int)<((ns.length:Nat):Int):=by omega
  first
   | (rw[decide_eq_true q'] at h5;exact absurd h5 (by decide))
   | (simp at h5;omega)
 cases hwl with
 | cons w1 w2 =>
  cases w2;cases w1 with
  | list ho hall=>exact⟨_,_,ns,rfl,rfl,ho,ints_of_wellAll ns _ hall,hlen⟩
theorem post_true (l:OpenLaw)(args:List WData):l.row.toRowW.claim.post args (.bool true) args=true :=
 postW_of (r:=l.row.toRowW) (X:=(true == true))
  (show WShape.has [] (.bool true) .bool=true by first | rfl | decide | simp[WShape.has,WShape.arms,WShape.armsAll])
  (show (WTm.eq .res (.lit (.bool true))).value [] {args:=args,res:=some (.bool true),after:=args}=some (.bool (true == true)) from w_eq_bool (w_res rfl) w_lit) rfl
theorem attach_call {l:OpenLaw}{n:Nat}{q:Program}{loose:List Str}{XP:(Str→Option Value)→Heap→Prop}{YP:World→Heap→Prop}{d:DefRec}
  (hn:l.most=some n) (hdf:d.params.defaults=[])
  (call:∀ (w:World) (s₀ s₁:Shared) (mg mb:Str→Option Value) (fa:Addr) (o:Obj) (pm cd doc:Value) (a:Addr) (vs:List Value) (ns:List Int),
   Ground q loose [] XP w s₀ mg mb s₁.heap→YP w s₁.heap →
   s₁.heap.get? fa=some o→o.data=.func (docDef d.name d.params d.body d.scope pm cd doc)→s₁.heap.CodeRec cd d.name→mg d.name=some (.ref fa) →
   s₁.heap.get? a=some {cls:=.type "list",data:=.seq vs.toArray}→IntsAre vs ns→ns.length≤n→s₁.gens=#[] →
   codeAny (model l.prog w) callerA (.call (.ref fa) ⟨[.ref a],[]⟩) (fun r s'=>r=.ok (.ret (.bool true))∧OldK s₁.heap s'.heap∧s'.os=s₁.os∧AllBare s'.gens) s₁) :
  WalkO q loose XP YP l.row.toRowW d [] (fun f vs=>PySem.call f vs):=by
 intro w s₀ s₁ mg mb G Y fa o pm cd doc dV kV ho hd hcd hD hmg hg args vals as hpre hlay hrd hwl hlo;obtain rfl:dV=.none:=Dflts.none hD hdf;obtain rfl:kV=.none:=Dflts.noKw hD;obtain⟨a,vs,ns,rfl,rfl,hobj,hints,hlen⟩:=script_of hn hpre hwl;refine enter_call (codeAny_mono (call w s₀ s₁ mg mb fa o pm cd doc a vs ns G Y ho (fd_plain hd) hcd hmg hobj hints hlen hg) fun r s' hq=>?_);obtain⟨rfl,h2,h3,h4⟩:=hq;exact⟨.inl ⟨.bool true,.bool true,[],rfl,fun _=>rfl,.bool true,post_true l _,fun _=>⟨List.Pairwise.nil,fun _ hm=>(nomatch hm)⟩⟩,h2,h3,h4⟩
end Att
namespace L2
open PySem PySem.Spec PyProof.Rows
theorem vals_ints:∀ {vs:List Value} {ns:List Int},IntsAre vs ns→Vals (ns.map V.int) vs
 | _,_,.nil=>.nil
 | _,_,.cons n t h=>.cons ⟨t,rfl⟩ (vals_ints h)
def Only (H:Hp):Prop:=∀ b,H b=none∨∃ o xs,H b=some (.frz o (.lst xs))
theorem law_call {P:Program}{w:World}{K:PySem.W.Frag}{mg mb:Str→Option Value}{CX:CXT}{k:Nat}{fa a:Addr}{fd:FuncData}{x:Str}{sp:Sp}{s₁:Shared}{vs:List Value}{ns:List Int}
  (KX:K.In s₁.heap) (hns:s₁.heap.Ns mainGlobals mg) (hb:s₁.heap.Ns builtinsNs mb) (hbb:∀ x:Str,x≠"__name__"→mb x=bootBuiltins x) (hlim:s₁.heap.NoLimit) (hg:s₁.gens=#[])
  (ha:s₁.heap.get? a=some {cls:=.type "list",data:=.seq vs.toArray}) (hi:IntsAre vs ns) (hl:ns.length≤sizeLine) (hr:Room k callerA)
  (F:∀ base:Heap,K.In base→base.Ns mainGlobals mg→FnOk P w K mg base CX k fa fd [x] sp) (hbind:∀ (s:Shared) (u:Value),BindsTo s fd ⟨[u],[]⟩ [(x,u)])
  (hsp:∀ H:Hp,Only H→SqL K H a (ns.map V.int)→sp [.ref a] H (fun v _=>v=.bl true) fun _ _ _=>False)
  (hCX:∀ H e s',CX [] H s₁ (fun _ _ _=>False) e s'→False) :
  codeAny (model P w) callerA (.call (.ref fa) ⟨[.ref a],[]⟩) (fun r s'=>r=.ok (.ret (.bool true))∧OldK s₁.heap s'.heap∧s'.os=s₁.os∧AllBare s'.gens) s₁:=by
 have rv:=vals_ints hi;have lenV:=hi.length;have core:∀ H:Hp,Only H→SqL K H a (ns.map V.int)→HOk P w H s₁.heap→(∀ b,H b≠none→b=a)→(H a≠none→K.lookup a=none) →
   codeAny (model P w) callerA (.call (.ref fa) ⟨[.ref a],[]⟩) (fun r s'=>r=.ok (.ret (.bool true))∧OldK s₁.heap s'.heap∧s'.os=s₁.os∧AllBare s'.gens) s₁:=by
  intro H hO hS hok hA hK;have base_of:∀ {b:Addr} {o:Obj},s₁.heap.get? b=some o→H b=none→(hidT s₁.heap H).get? b=some o:=fun e n=>hidT_get e n
  have noA:∀ {b:Addr} {o:Obj} {es:Array DictEntry} {ep:Nat},s₁.heap.get? b=some o→o.data=.dict es ep→H b=none:=fun {b o es ep} e d=>by
   cases q:H b with
   | none=>rfl
   | some u =>
    have e':b=a:=hA b (by rw[q];simp);subst e';rw[ha] at e;cases e;have d':Data.seq vs.toArray _=Data.dict es ep:=d;cases d'
  have nsK:∀ {b:Addr} {m:Str→Option Value},s₁.heap.Ns b m→(hidT s₁.heap H).Ns b m:=fun {b m} ⟨o,es,ep,e,d,r⟩=>⟨o,es,ep,base_of e (noA e d),d,r⟩
  have hKb:K.In (hidT s₁.heap H):=fun b o e=>base_of (KX b o e) (by
   cases q:H b with
   | none=>rfl
   | some u =>
    have e':b=a:=hA b (by rw[q];simp);subst e'
    rw[hK (by rw[q];simp)] at e;cases e)
  have hM:Mod K mg (hidT s₁.heap H):=⟨hKb,nsK hns,⟨mb,nsK hb,hbb⟩,let ⟨mc,h1,h2⟩:=hlim;⟨mc,nsK h1,h2⟩⟩
  have e0:Env0 P w K mg (hidT s₁.heap H) callerA [] s₁ H:=⟨rfl,hM,fun b o e=>of_hidT e,Nat.le_of_eq (hidT_size _ _),trivial,fun b hb=>absurd (show b∈([]:List Addr) from hb) (by simp),hok,.of_eq hg⟩
  refine codeAny_mono ((F _ hKb (nsK hns)).run callerA [] s₁ H ⟨[.ref a],[]⟩ [.ref a] [.ref a] _ _ hr e0 (hbind s₁ (.ref a)) (.cons rfl .nil) (hsp H hO hS)) fun r s' h=>?_
  cases r with
  | error e=>exact (hCX H e s' h).elim
  | ok fl =>
   cases fl with
   | next=>exact False.elim h
   | brk=>exact False.elim h
   | cont=>exact False.elim h
   | ret u =>
    obtain⟨v,H',os,bare,un,hok',r',q⟩:=h;have q':v=.bl true:=q;subst q';obtain rfl:u=Value.bool true:=r';refine⟨rfl,OldK.of_keep fun b o e=>?_,os,bare⟩;cases q:H b with
    | none=>exact un.keep b o e q (by intro z;exact absurd (show b∈([]:List Addr) from z) (by simp)) (by simp)
    | some u =>
     rcases hO b with z | ⟨ob,xs,z⟩
     ·rw[q] at z;cases z
     ·have z2:=un.frzs b ob _ z;obtain⟨e1,_⟩:=hok b _ z;obtain⟨e2,_⟩:=hok' b _ z2;rw[e] at e1;cases e1;exact e2
 cases hk:K.lookup a with
 | some o =>
  have e:=KX a o hk;rw[ha] at e;cases e;refine core (fun _=>none) (fun _=>.inl rfl) (.inr ⟨_,vs.toArray,_,hk,rfl,rfl,rfl,by rw[List.size_toArray,lenV];exact hl,by simpa using rv⟩) (fun b u z=>by have z':(none:Option HO)=some u:=z;cases z') (fun b z=>absurd rfl z) fun z=>absurd rfl z
 | none =>
  refine core (fun b=>if b=a then some (.frz {cls:=.type "list",data:=.seq vs.toArray} (.lst (ns.map V.int))) else none) (fun b=>?_) (.inl (.inr ⟨{cls:=.type "list",data:=.seq vs.toArray},if_pos rfl⟩)) (fun b u z=>?_) (fun b z=>?_) fun _=>hk
  ·by_cases hb:b=a
   ·exact .inr ⟨_,_,if_pos hb⟩
   ·exact .inl (if_neg hb)
  ·by_cases hb:b=a
   ·have z':=(if_pos hb).symm.trans z;cases z';subst hb;exact⟨ha,by rw[List.length_map];exact hl,vs,_,rv,ha⟩
   ·have z':=(if_neg hb).symm.trans z;cases z'
  ·by_cases hb:b=a
   ·exact hb
   ·exact absurd (if_neg hb) z
end L2
namespace L2
open PySem PySem.Spec PyProof.Rows
abbrev KOf {K:PySem.W.Frag}{h:Heap}(_:K.In h):PySem.W.Frag:=K
theorem walk_of {l:PySem.W.OpenLaw}{n k:Nat}{q:Program}{loose:List Str}{XP:(Str→Option Value)→Heap→Prop}{YP:World→Heap→Prop}{d:DefRec}{K:Params→PySem.W.Frag}{CX:World→CXT}{sp:World→Sp}{x:Str}
  (hn:l.most=some n) (hn2:n≤sizeLine) (hdf:d.params.defaults=[]) (hr:Room k callerA)
  (hY:∀ (w:World) (h:Heap),YP w h→(K w.params).In h)
  (F:∀ (w:World) (mg:Str→Option Value) (fa:Addr) (h:Heap),(K w.params).In h→h.Ns mainGlobals mg→mg d.name=some (.ref fa) →
   ∃ fd:FuncData,(∀ (s:Shared) (u:Value),BindsTo s fd ⟨[u],[]⟩ [(x,u)]) ∧
    ∀ base:Heap,(K w.params).In base→base.Ns mainGlobals mg→FnOk l.prog w (K w.params) mg base (CX w) k fa fd [x] (sp w))
  (hsp:∀ (w:World) (H:Hp) (a:Addr) (ns:List Int),ns.length≤n→Only H→SqL (K w.params) H a (ns.map V.int)→sp w [.ref a] H (fun v _=>v=.bl true) fun _ _ _=>False)
  (hCX:∀ (w:World) (H:Hp) (s:Shared) (e:Value) (s':Shared),CX w [] H s (fun _ _ _=>False) e s'→False) :
  PySem.W.WalkO q loose XP YP l.row.toRowW d [] (fun f vs=>PySem.call f vs):=by
 refine Att.attach_call hn hdf fun w s₀ s₁ mg mb fa o pm cd doc a vs ns G Y ho hd hcd hmg hobj hints hlen hg=>?_
 have KX:=hY w _ Y;obtain⟨fd,hb,hF⟩:=F w mg fa _ KX G.T.g hmg;exact law_call KX G.T.g G.T.b G.T.builtins G.T.nolimit hg hobj hints (Nat.le_trans hlen hn2) hr hF hb (fun H hO hS=>hsp w H a ns hlen hO hS) fun H e s'=>hCX w H s₁ e s'
end L2
/- THE LAST THEOREM (shape;LID,My.* are yours):
   My.Adr: a structure of the addresses that your layer names (classes,functions);My.Txt K t: a structure (Prop) of the equations over K;
   My.txt_mk:{K} {implicit addresses ..} (e1:nsIn K mainGlobals "law"=some (some (.ref f))) (e2:K.lookup f=some ⟨oc,od,.func (fnOf "law" "law" params body scope dV kV doc pm an cdv ct),sl⟩) (e3:codeIn K cdv "law"=true) ..:∃ t,My.Txt K t
set_option maxRecDepth 100000 in
set_option maxHeartbeats 0 in
theorem PySem.Challenge.cw_LID_holds : PySem.Challenge.rw_LID.Holds := by
 w_on;o_law;k_head;(case hw=>w_witness2)
 k_fill
 refine L2.walk_of (l:=PySem.Challenge.rw_LID) (n:=63) (k:=40) (x:="script") (CX:=fun w=>..) (sp:=fun _=>My.sp_law) rfl (by decide) rfl ⟨rfl,by decide,by decide⟩ (fun w h Y=>PySem.W.kIn_of Y) ?F ?S ?C
 case F =>
  intro w mg fa h KX G hmg;have T:∃ t,My.Txt (L2.KOf KX) t:=by
   dsimp only[L2.KOf]                          -- K must stand as «<heap const> w.params» for k_is;refine' My.txt_mk ?e1 ?e2 ?e3 ..
   (case e1=>PySem.W.k_is)                    -- in the order: a name -> its address -> its object -> its parts
   (case e2=>PySem.W.k_is)
   ..
  obtain⟨t,T⟩:=T;have e0:=hmg.symm.trans (PySem.W.mg_of KX G T.law);cases e0                                       -- fa is the law's own address;exact⟨_,fun s u=>.of_eq rfl,fun base kb nb=>My.law_fn T kb nb⟩     -- if «.of_eq rfl» comes too early: refine' ⟨_,?b,fun base kb nb=>My.law_fn T kb nb⟩;exact fun s u=>.of_eq rfl
 case S=>exact fun w H a ns hl hO hS=>..
 case C=>exact ..
(the tactic k_is has no namespace: write k_is) -/
namespace L2
open PySem PySem.Spec PyProof.Rows
def defArgs (s:Stmt):Arguments:=match s with
 | .FunctionDef _ a _ _ _ _ _ _ _ _=>a
 | _=>{posonlyargs:=[],args:=[],vararg:=none,kwonlyargs:=[],kw_defaults:=[],kwarg:=none,defaults:=[]}
def defBody (s:Stmt):List Stmt:=match s with
 | .FunctionDef _ _ b _ _ _ _ _ _ _=>b
 | _=>[]
def defScope (s:Stmt):Scope:=match s with
 | .FunctionDef _ _ _ _ _ _ sc _ _ _=>sc
 | _=>{kind:=.function,names:=[],isGenerator:=false,isCoroutine:=false}
abbrev CX0:CXT:=fun _ _ _ _ _ _=>False
abbrev E0:XK:=fun _ _ _=>False
theorem pass0 {X:Cx}:Passes CX0 X E0:=fun _ _ _ _ _ _ _ h=>h.elim
structure Fun (K:PySem.W.Frag)(x qual:Str)(st:Stmt)(f:Addr)(fd:FuncData):Prop where
 ex:∃ (oc:Value) (od:Option Addr) (kV doc pm:Value) (an:Option Addr) (cdv ct:Value) (osl:Array (Option Value)),
  fd=PySem.W.fnOf x qual (defArgs st) (defBody st) (defScope st) .none kV doc pm an cdv ct∧K.lookup f=some ⟨oc,od,.func fd,osl⟩∧PySem.W.codeIn K cdv qual=true
 kp:PySem.W.keepIn K (.ref f)=true
section
variable {P:Program}{w:World}{K:PySem.W.Frag}{mg:Str→Option Value}{base:Heap}
theorem Fun.ok {x qual:Str}{st:Stmt}{f:Addr}{fd:FuncData}{N ps:List Str}{k:Nat}{sp:Sp}(F:Fun K x qual st f fd)(S:FnScope N ps (defScope st))(len:∀ vs H Q E,sp vs H Q E→vs.length=ps.length)
  (hbody:∀ (cdv:Value) (A:Around) (outer:List Env) (s:Shared) (H:Hp) (vs:List V) (Q:VK) (E:XK),Room k (A.deeper (envOfC qual (defScope st) s.heap.objs.size f cdv))→sp vs H Q E →
   ∃ t,PSs (cxOf CX0 P w K mg base N qual (defScope st) f cdv A outer s H E).nox (defBody st) t∧t {nx:=fun _ H'=>Q .non H',rt:=Q} (start N vs) H):FnOk P w K mg base CX0 (k+1) f fd ps sp:=by
 obtain⟨oc,od,kV,doc,pm,an,cdv,ct,osl,rfl,lk,hcd⟩:=F.ex;refine fn_of lk hcd S len fun A outer s H vs Q E hr hsp=>?_
 obtain⟨t,h,q⟩:=hbody cdv A outer s H vs Q E hr hsp;exact⟨t,h.nox,q⟩
theorem Fun.binds {x qual:Str}{st:Stmt}{f:Addr}{fd:FuncData}{ps:List Str}(F:Fun K x qual st f fd)
  (h:∀ (kV doc pm:Value) (an:Option Addr) (cdv ct:Value) (us:List Value),us.length=ps.length→bindArgs (PySem.W.fnOf x qual (defArgs st) (defBody st) (defScope st) .none kV doc pm an cdv ct) ⟨us,[]⟩=pure (ps.zip us)):Binds K fd ps []:=by
 obtain⟨oc,od,kV,doc,pm,an,cdv,ct,osl,rfl,lk,hcd⟩:=F.ex;exact .all (h kV doc pm an cdv ct)
theorem fun_mk {x qual:Str}{st:Stmt}{f:Addr}{oc:Value}{od an:Option Addr}{osl:Array (Option Value)}{kV doc pm cdv ct:Value}(l:K.lookup f=some ⟨oc,od,.func (PySem.W.fnOf x qual (defArgs st) (defBody st) (defScope st) .none kV doc pm an cdv ct),osl⟩)
  (c:PySem.W.codeIn K cdv qual=true) (k:PySem.W.keepIn K (.ref f)=true):Fun K x qual st f (PySem.W.fnOf x qual (defArgs st) (defBody st) (defScope st) .none kV doc pm an cdv ct):=⟨⟨oc,od,kV,doc,pm,an,cdv,ct,osl,rfl,l,c⟩,k⟩
end
theorem hu_of {A:Around}{k:Nat}(hr:Room k A):A.units+1<cLine:=Nat.lt_of_le_of_lt (Nat.add_le_add_left (by decide:1≤64) _) hr.units
section
variable {X:Cx}
theorem pv (i:Nat){x:Str}{pos:Pos}(hN:X.N[i]?=some x:=by rfl)(hv:Vis X.env.scope x:=by first | exact Or.inl rfl | exact Or.inr (Or.inl rfl) | exact Or.inr (Or.inr rfl))(hd:(x == ("__debug__":Str))=false:=by decide)
  (hcd:(x == ("__classdict__":Str))=false:=by decide):PE X (.Name x pos) (tVar i):=pe_var hN hv hd hcd
end
theorem ite2 {c A B:Prop}[Decidable c](h1:c→A)(h2:¬ c→B):if c then A else B:=by
 by_cases h:c
 ·rw[if_pos h];exact h1 h
 ·rw[if_neg h];exact h2 h
def Same (H H':Hp):Prop:=∀ b o,H b=some o→H' b=some o
theorem Same.refl (H:Hp):Same H H:=fun _ _ h=>h
theorem Same.trans {H H1 H2:Hp}(a:Same H H1)(b:Same H1 H2):Same H H2:=fun c o h=>b c o (a c o h)
theorem Same.free {H H':Hp}(e:Same H H'){l:Addr}(h:H' l=Option.none):H l=Option.none:=by
 cases q:H l with
 | none=>rfl
 | some o =>
  rw[e l o q] at h;cases h
theorem Same.seq {K:PySem.W.Frag}{H H':Hp}{a:Addr}{xs:List V}(e:Same H H')(h:SqL K H a xs):SqL K H' a xs:=by
 rcases h with (h | ⟨o,h⟩) | h
 ·exact .inl (.inl (e _ _ h))
 ·exact .inl (.inr ⟨o,e _ _ h⟩)
 ·exact .inr h
end L2
namespace L2
open PySem PySem.Spec PyProof.Rows
section
variable {κ:Type}[DecidableEq κ]
def valV (kvs:List (κ×V))(k:κ):Option V:=(kvs.find? fun kv=>decide (kv.1=k)).map (·.2)
def putK (kvs:List (κ×V))(k:κ)(v:V):List (κ×V) :=
 if (kvs.any fun kv=>decide (kv.1=k))=true then kvs.map (fun kv=>if kv.1=k then (kv.1,v) else kv) else kvs++[(k,v)]
def dropK (kvs:List (κ×V))(k:κ):List (κ×V):=kvs.filter fun kv=>decide (kv.1≠k)
theorem valV_pos {p:κ×V}{r:List (κ×V)}{k:κ}(e:p.1=k):valV (p::r) k=some p.2:=by simp[valV,List.find?_cons,e]
theorem valV_neg {p:κ×V}{r:List (κ×V)}{k:κ}(e:¬ p.1=k):valV (p::r) k=valV r k:=by simp[valV,List.find?_cons,e]
theorem valV_any (k:κ):∀ kvs:List (κ×V),(kvs.any fun kv=>decide (kv.1=k))=(valV kvs k).isSome
 | []=>rfl
 | p::r=>by
  rw[List.any_cons];by_cases e:p.1=k
  ·simp only[valV_pos e,decide_eq_true e,Bool.true_or,Option.isSome_some]
  ·rw[valV_neg e,decide_eq_false e,Bool.false_or];exact valV_any k r
theorem length_putK (kvs:List (κ×V))(k:κ)(v:V):(putK kvs k v).length≤kvs.length+1:=by
 unfold putK;split
 ·rw[List.length_map];omega
 ·rw[List.length_append,List.length_cons,List.length_nil];omega
theorem RelO.isSome_eq {o:Option V}{u:Option Value}(r:RelO o u):o.isSome=u.isSome:=by
 cases o with
 | none=>cases u with
  | none=>rfl
  | some _=>exact (show False from r).elim
 | some _=>cases u with
  | none=>exact (show False from r).elim
  | some _=>rfl
theorem RelO.getD {o:Option V}{u:Option Value}{d:V}{d':Value}(r:RelO o u)(rd:RelV d d'):RelV (o.getD d) (u.getD d'):=by
 cases o with
 | none=>cases u with
  | none=>exact rd
  | some _=>exact (show False from r).elim
 | some _=>cases u with
  | none=>exact (show False from r).elim
  | some _=>exact r
theorem KV.val {kvs:List (κ×V)}{vs:List (κ×Value)}(r:KV kvs vs)(k:κ):RelO (valV kvs k) (valueAt vs k):=by
 unfold KV at r;induction r with
 | nil=>exact True.intro
 | @cons p q ps qs h t ih =>
  obtain⟨h1,h2⟩:=h;by_cases e:p.1=k
  ·have e':q.1=k:=h1.symm.trans e;have b:valueAt (q::qs) k=some q.2:=by simp[valueAt,List.find?_cons,e']
   rw[valV_pos e,b];exact h2
  ·have e':¬ q.1=k:=fun z=>e (h1.trans z)
   have b:valueAt (q::qs) k=valueAt qs k:=by simp[valueAt,List.find?_cons,e']
   rw[valV_neg e,b];exact ih
theorem KV.any {kvs:List (κ×V)}{vs:List (κ×Value)}(r:KV kvs vs)(k:κ):(kvs.any fun kv=>decide (kv.1=k))=vs.any fun kv=>decide (kv.1=k):=by
 unfold KV at r;induction r with
 | nil=>rfl
 | cons h t ih=>rw[List.any_cons,List.any_cons,ih,h.1]
theorem KV.repl {kvs:List (κ×V)}{vs:List (κ×Value)}(r:KV kvs vs)(k:κ){y:V}{u:Value}(ry:RelV y u) :
  KV (kvs.map fun kv=>if kv.1=k then (kv.1,y) else kv) (vs.map fun kv=>if kv.1=k then (kv.1,u) else kv):=by
 unfold KV at r ⊢;induction r with
 | nil=>exact .nil
 | @cons p q ps qs h t ih =>
  rw[List.map_cons,List.map_cons];refine .cons ?_ ih;obtain⟨h1,h2⟩:=h;by_cases e:p.1=k
  ·rw[if_pos e,if_pos (h1.symm.trans e)];exact⟨h1,ry⟩
  ·rw[if_neg e,if_neg (fun z=>e (h1.trans z))];exact⟨h1,h2⟩
theorem KV.put {kvs:List (κ×V)}{vs:List (κ×Value)}(r:KV kvs vs)(k:κ){y:V}{u:Value}(ry:RelV y u):KV (putK kvs k y) (stored vs k u):=by
 unfold putK stored;rw[r.any k];by_cases e:(vs.any fun kv=>decide (kv.1=k))=true
 ·rw[if_pos e,if_pos e];exact r.repl k ry
 ·rw[if_neg e,if_neg e];exact Paired.snoc r ⟨rfl,ry⟩
theorem KV.drop {kvs:List (κ×V)}{vs:List (κ×Value)}(r:KV kvs vs)(k:κ):KV (dropK kvs k) (without vs k):=by
 unfold KV at r ⊢;unfold dropK without;induction r with
 | nil=>exact .nil
 | @cons p q ps qs h t ih =>
  obtain⟨h1,h2⟩:=h;rw[List.filter_cons,List.filter_cons];by_cases e:p.1=k
  ·have a:¬ decide (p.1≠k)=true:=by simp[e]
   have b:¬ decide (q.1≠k)=true:=by simp[h1.symm.trans e]
   rw[if_neg a,if_neg b];exact ih
  ·have e':¬ q.1=k:=fun z=>e (h1.trans z)
   have a:decide (p.1≠k)=true:=by simp[e]
   have b:decide (q.1≠k)=true:=by simp[e']
   rw[if_pos a,if_pos b];exact .cons ⟨h1,h2⟩ ih
theorem KV.keys {kvs:List (κ×V)}{vs:List (κ×Value)}(r:KV kvs vs):kvs.map (·.1)=vs.map (·.1):=by
 unfold KV at r;induction r with
 | nil=>rfl
 | cons h t ih=>rw[List.map_cons,List.map_cons,ih,h.1]
theorem KV.length {kvs:List (κ×V)}{vs:List (κ×Value)}(r:KV kvs vs):kvs.length=vs.length:=Paired.length r
theorem dropK_le (kvs:List (κ×V))(k:κ):(dropK kvs k).length≤kvs.length:=List.length_filter_le _ _
end
theorem kV_is {P:Program}{w:World}{k:Key}{u:Value}(r:RelV (kV k) u):(mixKind P w).is k u=true:=by
 cases k with
 | inl i=>obtain⟨t,e⟩:=(show ∃ t,u=Value.int i t from r);subst e;exact mixKind_int P w i t
 | inr x=>obtain⟨t,e⟩:=(show ∃ t,u=Value.str x t from r);subst e;exact mixKind_str P w x t
theorem items_are {P:Program}{w:World}:∀ {ks:List Key} {us:List Value},Vals (ks.map kV) us→ItemsAre (mixKind P w) ks us
 | [],_,r=>by rw[List.map_nil] at r;cases r;exact .nil
 | k::ks,_,r=>by
  rw[List.map_cons] at r;cases r with
  | cons h t=>exact .cons (kV_is h) (items_are t)
abbrev KT (H:Hp):List (List Key×V)→List (List Key×Addr×Value)→Prop:=Paired fun p q=>p.1=q.1∧H q.2.1=some (.tup (p.1.map kV))∧RelV p.2 q.2.2
theorem KT.val {H:Hp}{kvs:List (List Key×V)}{xs:List (List Key×Addr×Value)}(r:KT H kvs xs)(k:List Key):RelO (valV kvs k) ((atKey xs k).map (·.2)):=by
 induction r with
 | nil=>exact True.intro
 | @cons p q ps qs h t ih =>
  obtain⟨h1,_,h2⟩:=h;by_cases e:p.1=k
  ·have e':q.1=k:=h1.symm.trans e;have b:atKey (q::qs) k=some q.2:=by simp[atKey,List.find?_cons,e']
   rw[valV_pos e,b];exact h2
  ·have e':¬ q.1=k:=fun z=>e (h1.trans z)
   have b:atKey (q::qs) k=atKey qs k:=by simp[atKey,List.find?_cons,e']
   rw[valV_neg e,b];exact ih
theorem KT.repl {H:Hp}{kvs:List (List Key×V)}{xs:List (List Key×Addr×Value)}(r:KT H kvs xs)(k:List Key){y:V}{u:Value}(ry:RelV y u) :
  KT H (kvs.map fun kv=>if kv.1=k then (kv.1,y) else kv) (xs.map (putAt k u)):=by
 induction r with
 | nil=>exact .nil
 | @cons p q ps qs h t ih =>
  rw[List.map_cons,List.map_cons];refine .cons ?_ ih;obtain⟨h1,h2,h3⟩:=h;unfold putAt;by_cases e:p.1=k
  ·rw[if_pos e,if_pos (h1.symm.trans e)];exact⟨h1,h2,ry⟩
  ·rw[if_neg e,if_neg (fun z=>e (h1.trans z))];exact⟨h1,h2,h3⟩
theorem KT.put {H:Hp}{kvs:List (List Key×V)}{xs:List (List Key×Addr×Value)}(r:KT H kvs xs)(k:List Key){b:Addr}{y:V}{u:Value}(hb:H b=some (.tup (k.map kV)))(ry:RelV y u) :
  KT H (putK kvs k y) (storedH xs k b u):=by
 have e:(kvs.any fun kv=>decide (kv.1=k))=(atKey xs k).isSome:=by
  rw[valV_any,(r.val k).isSome_eq,Option.isSome_map]
 unfold putK storedH;rw[e];by_cases q:(atKey xs k).isSome=true
 ·rw[if_pos q,if_pos q];exact r.repl k ry
 ·rw[if_neg q,if_neg q];exact Paired.snoc r ⟨rfl,hb,ry⟩
theorem KT.keeps {H H':Hp}{kvs:List (List Key×V)}{xs:List (List Key×Addr×Value)}(r:KT H kvs xs)(ht:∀ b ys,H b=some (.tup ys)→H' b=some (.tup ys)):KT H' kvs xs :=
 Paired.mapP r fun _ _ z=>⟨z.1,ht _ _ z.2.1,z.2.2⟩
section
variable {P:Program}{w:World}{H:Hp}{h:Heap}{a:Addr}
theorem rd_of {u:HO}(ok:HOk P w H h)(e:Rd H a u):ObjOk P w H h a u:=e.ok ok
theorem dk_rd {kvs:List (Key×V)}(ok:HOk P w H h)(e:Rd H a (.dK kvs)):kvs.length≤sizeLine∧(a == sysModules)=false∧∃ vs,KV kvs vs∧h.DictOf (mixKind P w) a vs :=
 show ObjOk P w H h a (.dK kvs) from rd_of ok e
theorem dk_of {kvs:List (Key×V)}(ok:HOk P w H h)(e:H a=some (.dK kvs)):kvs.length≤sizeLine∧(a == sysModules)=false∧∃ vs,KV kvs vs∧h.DictOf (mixKind P w) a vs:=dk_rd ok (.inl e)
theorem key_of {ks:List Key}(ok:HOk P w H h)(e:H a=some (.tup (ks.map kV))):(tupleKind (mixKind P w)).is h ks a:=by
 obtain⟨_,its,r,o,h1,h2,n,h3⟩:=(show ObjOk P w H h a (.tup (ks.map kV)) from ok a _ e)
 exact⟨o,its.toArray,n,h1,h2,h3,by simpa using items_are r⟩
theorem dt_rd {kvs:List (List Key×V)}(ok:HOk P w H h)(e:Rd H a (.dT kvs)):kvs.length≤sizeLine∧(a == sysModules)=false ∧
  ∃ xs,KT H kvs xs∧h.DictOfH (tupleKind (mixKind P w)) a xs:=by
 obtain⟨z,y,xs,r,o,es,ep,h1,h2,h3,h4,h5⟩:=(show ObjOk P w H h a (.dT kvs) from rd_of ok e)
 refine⟨z,y,xs,r,o,es,ep,h1,h2,h3,h4,fun x hx=>?_,h5⟩;have all:∀ {l:List (List Key×V)} {m:List (List Key×Addr×Value)},KT H l m→∀ x∈m,(tupleKind (mixKind P w)).is h x.1 x.2.1:=by
  intro l m q;induction q with
  | nil=>intro x hx;exact nomatch hx
  | @cons p q ps qs hq t ih =>
   intro x hx;rcases List.mem_cons.mp hx with e | hx
   ·subst e;exact key_of ok (by rw[← hq.1];exact hq.2.1)
   ·exact ih x hx
 exact all r x hx
theorem dt_of {kvs:List (List Key×V)}(ok:HOk P w H h)(e:H a=some (.dT kvs)):kvs.length≤sizeLine∧(a == sysModules)=false ∧
  ∃ xs,KT H kvs xs∧h.DictOfH (tupleKind (mixKind P w)) a xs:=dt_rd ok (.inl e)
end
def DGet (H:Hp)(a:Addr)(y:V)(r:Option V):Prop :=
 (∃ kvs k,Rd H a (.dK kvs)∧y=kV k∧r=valV kvs k)∨∃ kvs k b,Rd H a (.dT kvs)∧y=.ref b∧H b=some (.tup (k.map kV))∧r=valV kvs k
def DPut (H:Hp)(a:Addr)(y v:V)(H':Hp):Prop :=
 (∃ kvs k,H a=some (.dK kvs)∧y=kV k∧kvs.length<sizeLine∧H'=upd H a (.dK (putK kvs k v))) ∨
 ∃ kvs k b,H a=some (.dT kvs)∧y=.ref b∧H b=some (.tup (k.map kV))∧kvs.length<sizeLine∧H'=upd H a (.dT (putK kvs k v))
theorem DGet.k {H:Hp}{a:Addr}{kvs:List (Key×V)}{k:Key}(e:H a=some (.dK kvs)):DGet H a (kV k) (valV kvs k):=.inl ⟨kvs,k,.inl e,rfl,rfl⟩
theorem DGet.t {H:Hp}{a b:Addr}{kvs:List (List Key×V)}{k:List Key}(e:H a=some (.dT kvs))(eb:H b=some (.tup (k.map kV))):DGet H a (.ref b) (valV kvs k):=.inr ⟨kvs,k,b,.inl e,rfl,eb,rfl⟩
theorem DPut.k {H:Hp}{a:Addr}{kvs:List (Key×V)}{k:Key}{v:V}(e:H a=some (.dK kvs))(hl:kvs.length<sizeLine):DPut H a (kV k) v (upd H a (.dK (putK kvs k v))):=.inl ⟨kvs,k,e,rfl,hl,rfl⟩
theorem DPut.t {H:Hp}{a b:Addr}{kvs:List (List Key×V)}{k:List Key}{v:V}(e:H a=some (.dT kvs))(eb:H b=some (.tup (k.map kV)))(hl:kvs.length<sizeLine) :
  DPut H a (.ref b) v (upd H a (.dT (putK kvs k v))):=.inr ⟨kvs,k,b,e,rfl,eb,hl,rfl⟩
section
variable {X:Cx}{pins:List (Addr×Obj)}{σ:St}{H:Hp}{s:Shared}{a:Addr}{y v:V}{u r:Value}{o:Option V}{A:Around}{E:Value→Shared→Prop}
theorem Inv.big (I:Inv X pins σ H s):sysModules<s.heap.objs.size:=by
 have h:mainGlobals<s.heap.objs.size:=(I.mod.glob.keeps I.bk).lt;exact Nat.lt_trans (by decide) h
theorem d_in {Q:Value→Shared→Prop}(hu:A.units+1<cLine)(I:Inv X pins σ H s)(g:DGet H a y o)(ry:RelV y u)(h:∀ s',Inv X pins σ H s'→Q (.bool o.isSome) s') :
  wpAny (model X.prog X.w) A (compareOp .In u (.ref a)) Q E s:=by
 rcases g with ⟨kvs,k,e,ey,l⟩ | ⟨kvs,k,b,e,ey,eb,l⟩
 ·subst ey;obtain⟨z,hd,vs,rel,dd⟩:=dk_rd I.hok e;refine wpAny_in_of (kV_is ry) hd dd.mapOf ?_;rw[← (rel.val k).isSome_eq,← l];exact h _ (I.tok _)
 ·subst ey;cases (show u=Value.ref b from ry);obtain⟨z,hd,xs,rel,dd⟩:=dt_rd I.hok e;refine wpAny_in_heap (tupleKind_room_in1 hu) (key_of I.hok eb) hd dd ?_;have q:=(rel.val k).isSome_eq;rw[Option.isSome_map] at q;rw[← q,← l];exact h _ (I.tok _)
theorem d_notIn {Q:Value→Shared→Prop}(hu:A.units+1<cLine)(I:Inv X pins σ H s)(g:DGet H a y o)(ry:RelV y u)(h:∀ s',Inv X pins σ H s'→Q (.bool (!o.isSome)) s') :
  wpAny (model X.prog X.w) A (compareOp .NotIn u (.ref a)) Q E s:=by
 rcases g with ⟨kvs,k,e,ey,l⟩ | ⟨kvs,k,b,e,ey,eb,l⟩
 ·subst ey;obtain⟨z,hd,vs,rel,dd⟩:=dk_rd I.hok e;refine wpAny_notIn_of (kV_is ry) hd dd.mapOf ?_;rw[← (rel.val k).isSome_eq,← l];exact h _ (I.tok _)
 ·subst ey;cases (show u=Value.ref b from ry);obtain⟨z,hd,xs,rel,dd⟩:=dt_rd I.hok e;refine wpAny_notIn_heap (tupleKind_room_in1 hu) (key_of I.hok eb) hd dd ?_;have q:=(rel.val k).isSome_eq;rw[Option.isSome_map] at q;rw[← q,← l];exact h _ (I.tok _)
theorem d_write {h':Heap}{t':Nat}{ob:HO}(I:Inv X pins σ H s)(mu:Mut (H a))(hs:Heap.SameBut a s.heap h')(he:∃ q,h'.get? a=some q)(new:ObjOk X.prog X.w (upd H a ob) h' a ob) :
  Inv X pins σ (upd H a ob) {s with heap:=h',toks:=t'} :=
 I.write (x:=a) (e:=a) mu (.inl rfl) (fun b q hb z=>(hs.2 b hb).trans z) he new
theorem dk_new {P:Program}{w:World}{H':Hp}{h':Heap}{kvs:List (Key×V)}{vs:List (Key×Value)}(z:kvs.length≤sizeLine)(hd:(a == sysModules)=false)(rel:KV kvs vs)(dd:h'.DictOf (mixKind P w) a vs) :
  ObjOk P w H' h' a (.dK kvs):=⟨z,hd,vs,rel,dd⟩
theorem d_setItem {H':Hp}{Q:Unit→Shared→Prop}(hu:A.units+1<cLine)(I:Inv X pins σ H s)(g:DPut H a y v H')(ry:RelV y u)(rv:RelV v r)(h:∀ s',Inv X pins σ H' s'→Q () s') :
  wpAny (model X.prog X.w) A (setItem (.ref a) u r) Q E s:=by
 rcases g with ⟨kvs,k,e,ey,l,eH⟩ | ⟨kvs,k,b,e,ey,eb,l,eH⟩
 ·subst ey eH;obtain⟨z,hd,vs,rel,dd⟩:=dk_of I.hok e;have hz:vs.length≤sizeLine:=by rw[← rel.length];exact z
  have hl:(putK kvs k v).length≤sizeLine:=by have:=length_putK kvs k v;omega
  refine wpAny_setItem_pairs (hsz:=hz) (kV_is ry) dd fun h' dd' hs=>h _ ?_
  have he:∃ q,h'.get? a=some q:=let ⟨q,_,_,hq,_⟩:=dd';⟨q,hq⟩;exact d_write I (by rw[e];exact True.intro) hs he (dk_new hl hd (rel.put k rv) dd')
 ·subst ey eH;cases (show u=Value.ref b from ry);obtain⟨z,hd,xs,rel,dd⟩:=dt_of I.hok e;have hz:xs.length≤sizeLine:=by rw[← Paired.length rel];exact z
  have hl:(putK kvs k v).length≤sizeLine:=by have:=length_putK kvs k v;omega
  refine wpAny_setItem_heap (hsz:=hz) (tupleKind_room_in1 hu) (key_of I.hok eb) dd fun h' dd' hs=>h _ ?_
  obtain⟨q,es,ep,hq,h2,h3,h4,_,h5⟩:=dd';refine d_write I (by rw[e];exact True.intro) hs ⟨q,hq⟩ ⟨hl,hd,_,(rel.put k eb rv).keeps fun c ys ec=>?_,q,es,ep,hq,h2,h3,h4,h5⟩;rw[upd_ne (ne_of ec e (fun z=>nomatch z))];exact ec
end
section
variable {X:Cx}{pins:List (Addr×Obj)}{σ:St}{H:Hp}{s:Shared}{a:Addr}{kvs:List (Key×V)}{k:Key}{u:Value}{A:Around}{E:Value→Shared→Prop}
theorem d_delItem {Q:Unit→Shared→Prop}(I:Inv X pins σ H s)(e:H a=some (.dK kvs))(ry:RelV (kV k) u)(l:(valV kvs k).isSome=true)(h:∀ s',Inv X pins σ (upd H a (.dK (dropK kvs k))) s'→Q () s') :
  wpAny (model X.prog X.w) A (delItem (.ref a) u) Q E s:=by
 obtain⟨z,hd,vs,rel,dd⟩:=dk_of I.hok e;refine wpAny_delItem_slot dd.typeIs (by decide) PySem.F.slot_dict_delitem
  (call_meetsIn PySem.F.slot_dict_delitem dd.typeIs PySem.F.entry_dict_delitem (PySem.F.args_dict_delitem_2 _ _) (meets_dict_delitem_pairs (mixKind X.prog X.w) a (kV_is ry)) ⟨vs,dd,by rw[← rel.length];exact z,by rw[← (rel.val k).isSome_eq];exact l,fun h' dd' hs=>h _ ?_⟩)
 have he:∃ q,h'.get? a=some q:=let ⟨q,_,_,hq,_⟩:=dd';⟨q,hq⟩;exact d_write I (by rw[e];exact True.intro) hs he (dk_new (Nat.le_trans (dropK_le kvs k) z) hd (rel.drop k) dd')
end
def tDIn (ty td:TE):TE:=fun σ H Q=>ty σ H fun y H1=>td σ H1 fun x H2=>∃ a o,x=.ref a∧DGet H2 a y o∧Q (.bl o.isSome) H2
def tDNotIn (ty td:TE):TE:=fun σ H Q=>ty σ H fun y H1=>td σ H1 fun x H2=>∃ a o,x=.ref a∧DGet H2 a y o∧Q (.bl (!o.isSome)) H2
def sDPut (td ty tv:TE):TS:=fun D σ H=>tv σ H fun v H1=>td σ H1 fun x H2=>ty σ H2 fun y H3=>∃ a H4,x=.ref a∧DPut H3 a y v H4∧D.nx σ H4
def sDDel (td ty:TE):TS:=fun D σ H=>td σ H fun x H1=>ty σ H1 fun y H2=>∃ a kvs k,x=.ref a∧H2 a=some (.dK kvs)∧y=kV k∧(valV kvs k).isSome=true∧D.nx σ (upd H2 a (.dK (dropK kvs k)))
section
variable {X:Cx}{o i e value:Expr}{pos pos' tpos:Pos}{td ty tv:TE}
theorem pc_din (hu:X.A.units+1<cLine)(hi:PE X i ty)(ho:PE X o td):PC X .In i o (tDIn ty td):=by
 intro pins s σ H Q I h;refine thn (hi pins s σ H _ I h) fun iv s1 ⟨y,H1,I1,ry,q1⟩=>thn (ho pins s1 σ H1 _ I1 q1) fun u s2 ⟨x,H2,I2,rx,a,ov,ex,g,q2⟩=>?_
 subst ex;obtain rfl:u=Value.ref a:=rx;exact d_in hu I2 g ry fun s3 I3=>⟨.bl ov.isSome,H2,I3,rfl,q2⟩
theorem pc_dnotin (hu:X.A.units+1<cLine)(hi:PE X i ty)(ho:PE X o td):PC X .NotIn i o (tDNotIn ty td):=by
 intro pins s σ H Q I h;refine thn (hi pins s σ H _ I h) fun iv s1 ⟨y,H1,I1,ry,q1⟩=>thn (ho pins s1 σ H1 _ I1 q1) fun u s2 ⟨x,H2,I2,rx,a,ov,ex,g,q2⟩=>?_
 subst ex;obtain rfl:u=Value.ref a:=rx;exact d_notIn hu I2 g ry fun s3 I3=>⟨.bl (!ov.isSome),H2,I3,rfl,q2⟩
theorem ps_dput (hu:X.A.units+1<cLine)(ho:PE X o td)(hi:PE X i ty)(hv:PE X value tv)(hs:swapsWith value (some (.Subscript o i pos')) pos.line X.env=pure false) :
  PS X (.Assign [.Subscript o i pos'] value pos) (sDPut td ty tv):=by
 intro pins s σ H D I h;refine wpAny_Assign_Subscript (thn (hv pins s σ H _ I h) fun r s1 ⟨v,H1,I1,rv,q1⟩=>thn (ho pins s1 σ H1 _ I1 q1) fun u s2 ⟨x,H2,I2,rx,q2⟩=>thn (hi pins s2 σ H2 _ I2 q2) fun iv s3 ⟨y,H3,I3,ry,a,H4,ex,g,q3⟩=>?_) hs;subst ex;obtain rfl:u=Value.ref a:=rx;exact d_setItem hu I3 g ry rv fun s4 I4=>⟨σ,H4,I4,q3⟩
theorem ps_ddel (ho:PE X o td)(hi:PE X i ty):PS X (.Delete [.Subscript o i tpos] pos) (sDDel td ty):=by
 intro pins s σ H D I h;refine wpAny_Delete (wpAny_deleteEach_cons (wpAny_delete_Subscript (thn (ho pins s σ H _ I h) fun u s1 ⟨x,H1,I1,rx,q1⟩=>thn (hi pins s1 σ H1 _ I1 q1) fun iv s2 ⟨y,H2,I2,ry,a,kvs,k,ex,e,ey,l,q2⟩=>?_)));subst ex ey;obtain rfl:u=Value.ref a:=rx;exact d_delItem I2 e ry l fun s3 I3=>wpAny_deleteEach_nil ⟨σ,_,I3,q2⟩
end
theorem dk_empty {P:Program}{w:World}{H:Hp}(h:Heap)(hb:sysModules<h.objs.size):ObjOk P w H (h.push {cls:=.type "dict",data:=.dict #[]}) h.objs.size (.dK []) :=
 ⟨Nat.zero_le _,beq_eq_false_iff_ne.mpr (Ne.symm (Nat.ne_of_lt hb)),[],.nil,Heap.DictOf.new h⟩
theorem dt_empty {P:Program}{w:World}{H:Hp}(h:Heap)(hb:sysModules<h.objs.size):ObjOk P w H (h.push {cls:=.type "dict",data:=.dict #[]}) h.objs.size (.dT []) :=
 ⟨Nat.zero_le _,beq_eq_false_iff_ne.mpr (Ne.symm (Nat.ne_of_lt hb)),[],.nil,_,#[],0,Heap.get?_push_size _ rfl,⟨rfl,rfl,rfl⟩,rfl,rfl,List.nodup_nil⟩
def tDNewK:TE:=fun _ H Q=>∀ p,H p=none→Q (.ref p) (upd H p (.dK []))
def tDNewT:TE:=fun _ H Q=>∀ p,H p=none→Q (.ref p) (upd H p (.dT []))
section
variable {X:Cx}{pos:Pos}
theorem pe_dnewK:PE X (.Dict [] [] pos) tDNewK:=fun pins s σ H Q I h =>
 wpAny_Dict_empty ⟨.ref s.heap.objs.size,_,I.laid (a:=s.heap.objs.size) (o:=.dK []) (t':=s.toks) (fun _ _ q=>Heap.get?_push_of_some _ q) (Nat.le_refl _) (dk_empty s.heap I.big),rfl,h _ (I.hok.fresh (Nat.le_refl _))⟩
theorem pe_dnewT:PE X (.Dict [] [] pos) tDNewT:=fun pins s σ H Q I h =>
 wpAny_Dict_empty ⟨.ref s.heap.objs.size,_,I.laid (a:=s.heap.objs.size) (o:=.dT []) (t':=s.toks) (fun _ _ q=>Heap.get?_push_of_some _ q) (Nat.le_refl _) (dt_empty s.heap I.big),rfl,h _ (I.hok.fresh (Nat.le_refl _))⟩
end
def tPairs:List (TE×TE)→St→Hp→(List (V×V)→Hp→Prop)→Prop
 | [],_,H,Q=>Q [] H
 | (tk,tv)::r,σ,H,Q=>tk σ H fun x H1=>tv σ H1 fun y H2=>tPairs r σ H2 fun ps H3=>Q ((x,y)::ps) H3
abbrev VV:List (V×V)→List (Value×Value)→Prop:=Paired fun p q=>RelV p.1 q.1∧RelV p.2 q.2
def PPs (X:Cx)(pos:Pos)(keys:List (Option Expr))(values:List Expr)(trs:List (TE×TE)):Prop :=
 ∀ (pins:List (Addr×Obj)) (s:Shared) (σ:St) (H:Hp) (Q:List (V×V)→Hp→Prop),Inv X pins σ H s→tPairs trs σ H Q →
  wpAny (model X.prog X.w) X.A (evalPairs (pairTrees keys values X.env pos)) (fun vs s'=>∃ ps H',Inv X pins σ H' s'∧VV ps vs∧Q ps H') X.xe s
theorem pps_nil {X:Cx}{pos:Pos}:PPs X pos [] [] []:=fun pins s σ H Q I h=>pairTrees_nil_walk ⟨[],H,I,.nil,h⟩
theorem pps_cons {X:Cx}{pos:Pos}{k v:Expr}{ks:List (Option Expr)}{vs:List Expr}{tk tv:TE}{trs:List (TE×TE)}(hk:PE X k tk)(hv:PE X v tv)(hr:PPs X pos ks vs trs) :
  PPs X pos (some k::ks) (v::vs) ((tk,tv)::trs):=fun pins s σ H Q I h =>
 pairTrees_cons_walk (thn (hk pins s σ H _ I h) fun u s1 ⟨x,H1,I1,rx,q1⟩=>thn (hv pins s1 σ H1 _ I1 q1) fun w2 s2 ⟨y,H2,I2,ry,q2⟩ =>
  thn (hr pins s2 σ H2 _ I2 q2) fun ws s3 ⟨ps,H3,I3,rel,q3⟩=>⟨(x,y)::ps,H3,I3,.cons ⟨rx,ry⟩ rel,q3⟩)
def mergeK (kvs more:List (Key×V)):List (Key×V):=more.foldl (fun acc kv=>putK acc kv.1 kv.2) kvs
theorem KV.merge:∀ {more:List (Key×V)} {rs:List (Key×Value)} {kvs:List (Key×V)} {vs:List (Key×Value)},KV more rs→KV kvs vs→KV (mergeK kvs more) (merged vs rs):=by
 intro more rs kvs vs r;unfold KV at r;induction r generalizing kvs vs with
 | nil=>intro q;exact q
 | @cons p q ps qs h t ih =>
  intro r0;have e:KV (putK kvs p.1 p.2) (stored vs q.1 q.2):=by
   have:=r0.put p.1 h.2;rw[← h.1];exact this
  exact ih e
theorem length_mergeK:∀ (more kvs:List (Key×V)),(mergeK kvs more).length≤kvs.length+more.length
 | [],kvs=>by show kvs.length≤kvs.length+0;omega
 | p::r,kvs=>by
  have h1:=length_mergeK r (putK kvs p.1 p.2);have h2:=length_putK kvs p.1 p.2;show (mergeK (putK kvs p.1 p.2) r).length≤_;rw[List.length_cons];omega
theorem carries_of {P:Program}{w:World}:∀ {kvs:List (Key×V)} {ws:List (Value×Value)},VV (kvs.map fun kv=>(kV kv.1,kv.2)) ws→∃ rs,Carries (mixKind P w) ws rs∧KV kvs rs
 | [],_,r=>by rw[List.map_nil] at r;cases r;exact⟨[],True.intro,.nil⟩
 | p::kvs,_,r=>by
  rw[List.map_cons] at r;cases r with
  | @cons a b as bs h t =>
   obtain⟨rs,c,q⟩:=carries_of (P:=P) (w:=w) t;obtain⟨b1,b2⟩:=b;exact⟨(p.1,b2)::rs,⟨kV_is h.1,rfl,c⟩,.cons ⟨rfl,h.2⟩ q⟩
def tDisp (trs:List (TE×TE)):TE:=fun σ H Q=>∀ p,H p=none→tPairs trs σ (upd H p (.dK [])) fun ps H2=>H2 p=some (.dK [])∧∃ kvs:List (Key×V),ps=kvs.map (fun kv=>(kV kv.1,kv.2))∧kvs.length≤15∧Q (.ref p) (upd H2 p (.dK (mergeK [] kvs)))
theorem pe_disp {X:Cx}{pos:Pos}{keys:List (Option Expr)}{values:List Expr}{trs:List (TE×TE)}(h:PPs X pos keys values trs)(hall:keys.all (·.isSome)=true)(hl:keys.length=values.length)(h0:keys≠[])
  (h15:keys.length≤15):PE X (.Dict keys values pos) (tDisp trs):=by
 intro pins s σ H Q I q;have hn:=I.hok.fresh (Nat.le_refl s.heap.objs.size);have I1:=I.laid (a:=s.heap.objs.size) (o:=.dK []) (h':=s.heap.push {cls:=.type "dict",data:=.dict #[]}) (t':=s.toks) (fun _ _ q=>Heap.get?_push_of_some _ q) (Nat.le_refl _) (dk_empty s.heap I.big);refine wpAny_Dict_walk (knd:=mixKind X.prog X.w) hall hl h0 h15 (thn (h pins _ σ _ _ I1 (q _ hn)) fun ws s2 ⟨ps,H2,I2,rel,e,kvs,ep,lk,q2⟩=>?_);subst ep;obtain⟨rs,c,rk⟩:=carries_of (P:=X.prog) (w:=X.w) rel;obtain⟨z,hd,vs0,r0,dd⟩:=dk_of I2.hok e;cases r0;refine⟨rs,c,dd,fun h' dd' hs=>⟨.ref s.heap.objs.size,_,?_,rfl,q2⟩⟩;have hz:(mergeK [] kvs).length≤sizeLine:=by
  have h1:=length_mergeK kvs [];rw[List.length_nil] at h1;rw[sizeLine_eq];omega
 have he:∃ q,h'.get? s.heap.objs.size=some q:=let ⟨q,_,_,hq,_⟩:=dd';⟨q,hq⟩;exact d_write I2 (by rw[e];exact True.intro) hs he (dk_new hz hd (rk.merge .nil) dd')
end L2
end
section
local macro_rules | `(tactic| omega)=>`(tactic| first | lia | omega +splitDisjunctions)
namespace Ts
open PySem PyProof.Rows
set_option autoImplicit false
end Ts
namespace Ts
open PySem PyProof.Rows
set_option autoImplicit false
def el (xs:Array Keyed)(i:Nat):Keyed:=(xs[i]?).getD (Value.none,Value.none)
theorem el_some {xs:Array Keyed}{i:Nat}(h:i<xs.size):xs[i]?=some (el xs i):=by
 unfold el;rw[getElem?_pos xs i h];rfl
theorem el_congr {xs ys:Array Keyed}{i j:Nat}(h:xs[i]?=ys[j]?):el xs i=el ys j:=by unfold el;rw[h]
theorem el_mem {xs:Array Keyed}{i:Nat}(h:i<xs.size):el xs i∈xs.toList:=by
 have e:el xs i=xs[i]:=by unfold el;rw[getElem?_pos xs i h];rfl
 rw[e];simp
section
variable {O:KeyOrd}{key:Keyed→O.α}
abbrev KA {O:KeyOrd}(key:Keyed→O.α)(xs:Array Keyed)(i:Nat):O.α:=key (el xs i)
theorem KA_congr {xs ys:Array Keyed}{i j:Nat}(h:xs[i]?=ys[j]?):KA key xs i=KA key ys j:=by unfold KA;rw[el_congr h]
def Seg {O:KeyOrd}(key:Keyed→O.α)(xs:Array Keyed)(lo hi:Nat):Prop:=∀ i j,lo≤i→i≤j→j<hi→O.kle (KA key xs i) (KA key xs j)
def SegD {O:KeyOrd}(key:Keyed→O.α)(xs:Array Keyed)(lo hi:Nat):Prop:=∀ i j,lo≤i→i≤j→j<hi→O.kle (KA key xs j) (KA key xs i)
theorem Seg.one (xs:Array Keyed)(lo:Nat):Seg key xs lo (lo+1):=fun i j h1 h2 h3=>by
 have:i=j:=by omega
 subst this;exact KeyOrd.kle_refl _
theorem Seg.congr {xs ys:Array Keyed}{lo hi:Nat}(h:Seg key xs lo hi)(e:∀ i,lo≤i→i<hi→KA key ys i=KA key xs i):Seg key ys lo hi:=fun i j a b c=>by
 rw[e i a (by omega),e j (by omega) c];exact h i j a b c
theorem KA_bubble {xs:Array Keyed}{src d:Nat}(hs:src<xs.size)(hd:d≤src)(k:Nat) :
  KA key (bubble xs src d) k=if k=src-d then KA key xs src else if src-d<k∧k≤src then KA key xs (k-1) else KA key xs k:=by
 have e:=getElem?_bubble hs d hd k;by_cases h1:k=src-d
 ·rw[if_pos h1] at e ⊢;exact KA_congr e
 ·rw[if_neg h1] at e ⊢;by_cases h2:src-d<k∧k≤src
  ·rw[if_pos h2] at e ⊢;exact KA_congr e
  ·rw[if_neg h2] at e ⊢;exact KA_congr e
theorem KA_mirror {xs:Array Keyed}{i j:Nat}(hj:j≤xs.size)(k:Nat) :
  KA key (mirror xs i j ((j-i) / 2)) k=if i≤k∧k<j then KA key xs (i+j-1-k) else KA key xs k:=by
 have e:=getElem?_mirror_all (i:=i) hj k;by_cases h1:i≤k∧k<j
 ·rw[if_pos h1] at e ⊢;exact KA_congr e
 ·rw[if_neg h1] at e ⊢;exact KA_congr e
theorem KA_mirror_equal {xs:Array Keyed}{i j:Nat}(hj:j≤xs.size)(heq:∀ k,i≤k→k<j→KA key xs k=KA key xs (j-1))(k:Nat) :
  KA key (mirror xs i j ((j-i) / 2)) k=KA key xs k:=by
 rw[KA_mirror hj];split
 ·rw[heq _ (by omega) (by omega),heq k (by omega) (by omega)]
 ·rfl
end
structure SB (a₀:Array Keyed)(knd:SortKind)(st:SortSt):Prop where
 perm:(arrOf st).Perm a₀
 kind:kindOf st=knd
 failed:failedOf st=none
theorem SB.size {a₀:Array Keyed}{knd:SortKind}{st:SortSt}(h:SB a₀ knd st):(arrOf st).size=a₀.size:=h.perm.size_eq
theorem SB.setArr {a₀:Array Keyed}{knd:SortKind}{st:SortSt}(h:SB a₀ knd st){xs:Array Keyed}(hp:xs.Perm (arrOf st)):SB a₀ knd (setArr st xs):=⟨hp.trans h.perm,h.kind,h.failed⟩
theorem SB.mem {a₀:Array Keyed}{knd:SortKind}{st:SortSt}(h:SB a₀ knd st){i:Nat}(hi:i<a₀.size):el (arrOf st) i∈a₀.toList :=
 (Array.perm_iff_toList_perm.mp h.perm).mem_iff.mp (el_mem (by rw[h.size];exact hi))
def Cmp (M:Model)(A:Around)(E:Value→Shared→Prop)(s:Shared)(knd:SortKind)(O:KeyOrd)(key:Keyed→O.α)(a₀:Array Keyed):Prop :=
 ∀ p∈a₀.toList,∀ q∈a₀.toList,∀ (st:SortSt) (Q:Option Bool→SortSt→Prop),kindOf st=knd→Q (some (O.blt (key p) (key q))) st→wpS M A E s (lt' p q) Q st
section
variable {M:Model}{A:Around}{E:Value→Shared→Prop}{s:Shared}{a₀:Array Keyed}{knd:SortKind}{O:KeyOrd}{key:Keyed→O.α}
theorem wpS_elem {xs:Array Keyed}{i:Nat}{Q:Keyed→SortSt→Prop}{st:SortSt}(h:i<xs.size)(q:Q (el xs i) st):wpS M A E s (elem' xs i) Q st:=by
 rw[elem'_eq,el_some h];exact wpS_pure q
theorem wpS_ltI {st:SortSt}{i j:Nat}{Q:Option Bool→SortSt→Prop}(C:Cmp M A E s knd O key a₀)(hB:SB a₀ knd st)(hi:i<a₀.size)(hj:j<a₀.size)
  (h:Q (some (O.blt (KA key (arrOf st) i) (KA key (arrOf st) j))) st):wpS M A E s (ltAt' i j) Q st:=by
 rw[ltAt'_eq];refine wpS_bind (wpS_get ?_);refine wpS_bind (wpS_elem (by rw[hB.size];exact hi) ?_);refine wpS_bind (wpS_elem (by rw[hB.size];exact hj) ?_);exact C _ (hB.mem hi) _ (hB.mem hj) st Q hB.kind h
theorem wpS_rev {st:SortSt}{i j:Nat}{Q:Unit→SortSt→Prop}(h:Q () (setArr st (mirror (arrOf st) i j ((j-i) / 2)))):wpS M A E s (reverseSlice' i j) Q st:=by
 rw[reverseSlice'_eq];exact wpS_modify h
theorem wpS_rule {st:SortSt}{Q:Unit→SortSt→Prop}{x:String}(h:Q () st):wpS M A E s (liftM (rule x):StateT SortSt Sem Unit) Q st:=wpS_lift (wpAny_rule ⟨rfl,h⟩)
def ascL (lo a nrem:Nat):StateT SortSt Sem AscSt :=
 forIn [a:nrem] ((none,a):AscSt) fun _ c=>do
  let x ← ltAt' (lo+c.snd) (lo+c.snd-1)
  match x with
  | some sm=>if sm=true then pure (ForInStep.done (none,c.snd)) else pure (ForInStep.yield (none,c.snd+1))
  | _=>pure (ForInStep.done (some none,c.snd))
def t3L (lo n nrem:Nat):StateT SortSt Sem (Option Nat):=do
 reverseSlice' lo (lo+n)
 let c ← ascL lo n nrem
 match c.fst with
 | some r=>pure r
 | none=>pure (some c.snd)
def desL (lo n nrem:Nat):StateT SortSt Sem DescSt :=
 forIn [n:nrem] ((none,n,0):DescSt) fun _ c=>do
  let x ← ltAt' (lo+c.snd.fst) (lo+c.snd.fst-1)
  match x with
  | some sm =>
   if sm=true then
    if c.snd.snd>0 then do
     reverseSlice' (lo+c.snd.fst-(c.snd.snd+1)) (lo+c.snd.fst)
     pure (ForInStep.yield (none,c.snd.fst+1,0))
    else pure (ForInStep.yield (none,c.snd.fst+1,0))
   else do
    let y ← ltAt' (lo+c.snd.fst-1) (lo+c.snd.fst)
    match y with
    | some la =>
     if la=true then pure (ForInStep.done (none,c.snd.fst,c.snd.snd))
     else pure (ForInStep.yield (none,c.snd.fst+1,c.snd.snd+1))
    | _=>pure (ForInStep.done (some none,c.snd.fst,c.snd.snd))
  | _=>pure (ForInStep.done (some none,c.snd.fst,c.snd.snd))
def desP (lo n nrem:Nat):StateT SortSt Sem (Option Nat):=do
 liftM (rule "list.sort.descending-run")
 let c ← desL lo (n+1) nrem
 match c.fst with
 | some r=>pure r
 | none =>
  if c.snd.snd>0 then do
   reverseSlice' (lo+c.snd.fst-(c.snd.snd+1)) (lo+c.snd.fst)
   t3L lo c.snd.fst nrem
  else t3L lo c.snd.fst nrem
theorem cR_eq (lo nrem:Nat):countRun' lo nrem=(do
  let c ← ascL lo 1 nrem
  match c.fst with
  | some r=>pure r
  | none =>
   if (c.snd == nrem)=true then pure (some c.snd)
   else if c.snd>1 then do
    let x ← ltAt' lo (lo+c.snd-1)
    match x with
    | some rs=>if rs=true then pure (some c.snd) else do
      reverseSlice' lo (lo+c.snd)
      desP lo c.snd nrem
    | _=>pure none
   else desP lo c.snd nrem):=by
 rw[countRun'_eq];unfold desP t3L desL ascL;refine bind_congr fun c=>?_
 obtain⟨r,n⟩:=c;cases r with
 | some r=>rfl
 | none =>
  dsimp only;split
  ·rfl
  ·split
   ·refine bind_congr fun x=>?_
    cases x with
    | none=>rfl
    | some rs =>
     dsimp only;split
     ·rfl
     ·refine bind_congr fun u=>?_
      refine bind_congr fun v=>?_
      refine bind_congr fun d=>?_
      obtain⟨r2,n2,q2⟩:=d;cases r2 with
      | some r2=>rfl
      | none =>
       dsimp only;split
       ·refine bind_congr fun e=>?_
        refine bind_congr fun e=>?_
        refine bind_congr fun d=>?_
        obtain⟨r3,n3⟩:=d;cases r3<;>rfl
       ·refine bind_congr fun e=>?_
        refine bind_congr fun d=>?_
        obtain⟨r3,n3⟩:=d;cases r3<;>rfl
   ·refine bind_congr fun v=>?_
    refine bind_congr fun d=>?_
    obtain⟨r2,n2,q2⟩:=d;cases r2 with
    | some r2=>rfl
    | none =>
     dsimp only;split
     ·refine bind_congr fun e=>?_
      refine bind_congr fun e=>?_
      refine bind_congr fun d=>?_
      obtain⟨r3,n3⟩:=d;cases r3<;>rfl
     ·refine bind_congr fun e=>?_
      refine bind_congr fun d=>?_
      obtain⟨r3,n3⟩:=d;cases r3<;>rfl
structure From (lo:Nat)(st st':SortSt):Prop where
 low:∀ i,i<lo→(arrOf st')[i]?=(arrOf st)[i]?
 pend:pendingOf st'=pendingOf st
theorem From.refl (lo:Nat)(st:SortSt):From lo st st:=⟨fun _ _=>rfl,rfl⟩
theorem From.trans {lo:Nat}{a b c:SortSt}(h:From lo a b)(k:From lo b c):From lo a c:=⟨fun i hi=>(k.low i hi).trans (h.low i hi),k.pend.trans h.pend⟩
theorem From.mirror {lo i j:Nat}{st:SortSt}(hi:lo≤i)(hj:j≤(arrOf st).size):From lo st (PyProof.Rows.setArr st (PyProof.Rows.mirror (arrOf st) i j ((j-i) / 2))) :=
 ⟨fun k hk=>by show (PyProof.Rows.mirror (arrOf st) i j ((j-i) / 2))[k]?=_;rw[getElem?_mirror_all hj,if_neg (by omega)],rfl⟩
theorem From.bubble {lo src d:Nat}{st:SortSt}(hs:src<(arrOf st).size)(hd:d≤src)(hl:lo≤src-d):From lo st (PyProof.Rows.setArr st (PyProof.Rows.bubble (arrOf st) src d)) :=
 ⟨fun k hk=>by show (PyProof.Rows.bubble (arrOf st) src d)[k]?=_;rw[getElem?_bubble hs d hd,if_neg (by omega),if_neg (by omega)],rfl⟩
theorem wpS_ascL {st:SortSt}{lo a nrem:Nat}{Q:AscSt→SortSt→Prop}(C:Cmp M A E s knd O key a₀)(hn:lo+nrem≤a₀.size)(ha:1≤a)(han:a≤nrem)(hB:SB a₀ knd st)
  (hs:Seg key (arrOf st) lo (lo+a))
  (h:∀ n,a≤n→n≤nrem→Seg key (arrOf st) lo (lo+n)→(n=nrem∨O.klt (KA key (arrOf st) (lo+n)) (KA key (arrOf st) (lo+n-1)))→Q (none,n) st) :
  wpS M A E s (ascL lo a nrem) Q st:=by
 unfold ascL;refine wpS_forRange (I:=fun x c st'=>st'=st∧c=(none,x)∧Seg key (arrOf st) lo (lo+x)) ?step ?fin ⟨rfl,rfl,hs⟩
 case fin =>
  rintro c st' ⟨rfl,rfl,hs'⟩;rw[show max a nrem=nrem by omega] at hs' ⊢;exact h nrem han (Nat.le_refl _) hs' (.inl rfl)
 case step =>
  rintro x c st' hax hxn ⟨rfl,rfl,hs'⟩;dsimp only;refine wpS_bind (wpS_ltI C hB (by omega) (by omega) ?_);cases hless:O.blt (KA key (arrOf st') (lo+x)) (KA key (arrOf st') (lo+x-1))
  case true =>
   simp only[if_true];exact wpS_pure (h x hax (by omega) hs' (.inr hless))
  case false =>
   simp only[Bool.false_eq_true,if_false];refine wpS_pure ⟨rfl,rfl,fun i j hli hij hj=>?_⟩;by_cases hjx:j<lo+x
   ·exact hs' i j hli hij hjx
   ·have hj':j=lo+x:=by omega
    subst hj';by_cases hi':i=lo+x
    ·subst hi';exact KeyOrd.kle_refl _
    ·exact KeyOrd.kle_trans (hs' i (lo+x-1) hli (by omega) (by omega)) hless
theorem wpS_t3L {st:SortSt}{lo n nrem:Nat}{Q:Option Nat→SortSt→Prop}(C:Cmp M A E s knd O key a₀)(hn:lo+nrem≤a₀.size)(h1:1≤n)(hnn:n≤nrem)(hB:SB a₀ knd st)
  (hs:SegD key (arrOf st) lo (lo+n)) (h:∀ m st',SB a₀ knd st'→From lo st st'→1≤m→m≤nrem→Seg key (arrOf st') lo (lo+m)→Q (some m) st') :
  wpS M A E s (t3L lo n nrem) Q st:=by
 unfold t3L;have hsz:lo+n≤(arrOf st).size:=by rw[hB.size];omega
 refine wpS_bind (wpS_rev ?_);have hB':SB a₀ knd (setArr st (mirror (arrOf st) lo (lo+n) ((lo+n-lo) / 2))):=hB.setArr (mirror_perm _ _ _ _);have hF:=From.mirror (Nat.le_refl lo) hsz;refine wpS_bind (wpS_ascL C hn h1 hnn hB' ?_ fun m hm1 hm2 hsm _=>wpS_pure (h m _ hB' hF (by omega) hm2 hsm));intro i j hli hij hj;show O.kle (KA key (mirror (arrOf st) lo (lo+n) ((lo+n-lo) / 2)) i) (KA key (mirror (arrOf st) lo (lo+n) ((lo+n-lo) / 2)) j);rw[KA_mirror hsz,KA_mirror hsz,if_pos (by omega),if_pos (by omega)];exact hs _ _ (by omega) (by omega) (by omega)
theorem wpS_desL {st:SortSt}{lo n nrem:Nat}{Q:DescSt→SortSt→Prop}(C:Cmp M A E s knd O key a₀)(hn:lo+nrem≤a₀.size)(h1:1≤n)(hnn:n≤nrem)(hB:SB a₀ knd st)
  (hs:SegD key (arrOf st) lo (lo+n))
  (h:∀ m neq st',SB a₀ knd st'→From lo st st'→n≤m→m≤nrem→SegD key (arrOf st') lo (lo+m)→neq+1≤m→(∀ i,lo+m-(neq+1)≤i→i<lo+m→KA key (arrOf st') i=KA key (arrOf st') (lo+m-1))→Q (none,m,neq) st') :
  wpS M A E s (desL lo n nrem) Q st:=by
 unfold desL
 refine wpS_forRange (I:=fun x c st'=>∃ neq,c=(none,x,neq)∧SB a₀ knd st'∧From lo st st'∧SegD key (arrOf st') lo (lo+x)∧neq+1≤x ∧
   (∀ i,lo+x-(neq+1)≤i→i<lo+x→KA key (arrOf st') i=KA key (arrOf st') (lo+x-1))) ?step ?fin ⟨0,rfl,hB,From.refl _ _,hs,by omega,fun i h1 h2=>by congr 1;congr 1;omega⟩
 case fin =>
  rintro c st' ⟨neq,rfl,hB',hF,hs',hq,he⟩;rw[show max n nrem=nrem by omega] at hs' hq he ⊢;exact h nrem neq st' hB' hF hnn (Nat.le_refl _) hs' hq he
 case step =>
  rintro x c st' hax hxn ⟨neq,rfl,hB',hF,hs',hq,he⟩;dsimp only;have hsz:lo+x≤(arrOf st').size:=by rw[hB'.size];omega
  refine wpS_bind (wpS_ltI C hB' (by omega) (by omega) ?_);cases hless:O.blt (KA key (arrOf st') (lo+x)) (KA key (arrOf st') (lo+x-1))
  case true =>
   simp only[if_true];have step1:∀ xs:Array Keyed,(∀ k,KA key xs k=KA key (arrOf st') k)→SegD key xs lo (lo+(x+1)):=by
    intro xs hk i j hli hij hj;rw[hk,hk];by_cases hjx:j<lo+x
    ·exact hs' i j hli hij hjx
    ·have hj':j=lo+x:=by omega
     subst hj';by_cases hi':i=lo+x
     ·subst hi';exact KeyOrd.kle_refl _
     ·exact KeyOrd.kle_trans (KeyOrd.kle_of_klt hless) (hs' i (lo+x-1) hli (by omega) (by omega))
   by_cases hneq:neq>0
   ·rw[if_pos hneq];refine wpS_bind (wpS_rev (wpS_pure ⟨0,rfl,hB'.setArr (mirror_perm _ _ _ _),hF.trans (From.mirror (by omega) hsz),step1 _ (KA_mirror_equal hsz he),by omega,fun i h1 h2=>by congr 1;congr 1;omega⟩))
   ·rw[if_neg hneq];exact wpS_pure ⟨0,rfl,hB',hF,step1 _ (fun _=>rfl),by omega,fun i h1 h2=>by congr 1;congr 1;omega⟩
  case false =>
   simp only[Bool.false_eq_true,if_false];refine wpS_bind (wpS_ltI C hB' (by omega) (by omega) ?_);cases hlarger:O.blt (KA key (arrOf st') (lo+x-1)) (KA key (arrOf st') (lo+x))
   case true =>
    simp only[if_true];exact wpS_pure (h x neq st' hB' hF hax (by omega) hs' hq he)
   case false =>
    simp only[Bool.false_eq_true,if_false];have heqx:KA key (arrOf st') (lo+x)=KA key (arrOf st') (lo+x-1):=KeyOrd.kle_antisymm hlarger hless;refine wpS_pure ⟨neq+1,rfl,hB',hF,fun i j hli hij hj=>?_,by omega,fun i h1 h2=>?_⟩
    ·by_cases hjx:j<lo+x
     ·exact hs' i j hli hij hjx
     ·have hj':j=lo+x:=by omega
      subst hj';by_cases hi':i=lo+x
      ·subst hi';exact KeyOrd.kle_refl _
      ·rw[heqx];exact hs' i (lo+x-1) hli (by omega) (by omega)
    ·rw[show lo+(x+1)-1=lo+x by omega];by_cases hix:i=lo+x
     ·subst hix;rfl
     ·rw[heqx];exact he i (by omega) (by omega)
theorem wpS_desP {st:SortSt}{lo n nrem:Nat}{Q:Option Nat→SortSt→Prop}(C:Cmp M A E s knd O key a₀)(hn:lo+nrem≤a₀.size)(hnn:n+1≤nrem)(hB:SB a₀ knd st)
  (hs:SegD key (arrOf st) lo (lo+(n+1))) (h:∀ m st',SB a₀ knd st'→From lo st st'→1≤m→m≤nrem→Seg key (arrOf st') lo (lo+m)→Q (some m) st') :
  wpS M A E s (desP lo n nrem) Q st:=by
 unfold desP;refine wpS_bind (wpS_rule ?_);refine wpS_bind (wpS_desL C hn (by omega) hnn hB hs fun m neq st' hB' hF hm1 hm2 hs' hq he=>?_);dsimp only;have hsz:lo+m≤(arrOf st').size:=by rw[hB'.size];omega
 by_cases hneq:neq>0
 ·rw[if_pos hneq];refine wpS_bind (wpS_rev (wpS_t3L C hn (by omega) hm2 (hB'.setArr (mirror_perm _ _ _ _)) ?_ fun m' st'' a b=>h m' st'' a (hF.trans ((From.mirror (by omega) hsz).trans b))));intro i j hli hij hj;show O.kle (KA key (mirror (arrOf st') _ _ _) j) (KA key (mirror (arrOf st') _ _ _) i);rw[KA_mirror_equal hsz he,KA_mirror_equal hsz he];exact hs' i j hli hij hj
 ·rw[if_neg hneq];exact wpS_t3L C hn (by omega) hm2 hB' hs' fun m' st'' a b=>h m' st'' a (hF.trans b)
theorem wpS_cR {st:SortSt}{lo nrem:Nat}{Q:Option Nat→SortSt→Prop}(C:Cmp M A E s knd O key a₀)(hn:lo+nrem≤a₀.size)(h1:1≤nrem)(hB:SB a₀ knd st)
  (h:∀ m st',SB a₀ knd st'→From lo st st'→1≤m→m≤nrem→Seg key (arrOf st') lo (lo+m)→Q (some m) st') :
  wpS M A E s (countRun' lo nrem) Q st:=by
 rw[cR_eq];refine wpS_bind (wpS_ascL C hn (Nat.le_refl 1) h1 hB (Seg.one _ _) fun n hn1 hn2 hsn hor=>?_);dsimp only;by_cases hnn:n=nrem
 ·rw[if_pos (by simpa using hnn)];exact wpS_pure (h n st hB (From.refl _ _) hn1 hn2 hsn)
 ·rw[if_neg (by simpa using hnn)];have hlt:O.klt (KA key (arrOf st) (lo+n)) (KA key (arrOf st) (lo+n-1)):=hor.resolve_left hnn;by_cases hgt:n>1
  ·rw[if_pos hgt];refine wpS_bind (wpS_ltI C hB (by omega) (by omega) ?_);cases hrose:O.blt (KA key (arrOf st) lo) (KA key (arrOf st) (lo+n-1))
   case true =>
    simp only[if_true];exact wpS_pure (h n st hB (From.refl _ _) hn1 hn2 hsn)
   case false =>
    simp only[Bool.false_eq_true,if_false];have hsz:lo+n≤(arrOf st).size:=by rw[hB.size];omega
    have hall:∀ k,lo≤k→k<lo+n→KA key (arrOf st) k=KA key (arrOf st) (lo+n-1):=by
     intro k hlk hk;have a1:=hsn lo k (by omega) (by omega) hk;have a2:=hsn k (lo+n-1) hlk (by omega) (by omega);exact KeyOrd.kle_antisymm a2 (KeyOrd.kle_trans hrose a1)
    refine wpS_bind (wpS_rev (wpS_desP C hn (by omega) (hB.setArr (mirror_perm _ _ _ _)) ?_ fun m' st'' a b=>h m' st'' a ((From.mirror (Nat.le_refl lo) hsz).trans b)));intro i j hli hij hj;show O.kle (KA key (mirror (arrOf st) _ _ _) j) (KA key (mirror (arrOf st) _ _ _) i);rw[KA_mirror_equal hsz hall,KA_mirror_equal hsz hall];by_cases hjn:j<lo+n
    ·rw[hall i (by omega) (by omega),hall j (by omega) hjn];exact KeyOrd.kle_refl _
    ·have hj':j=lo+n:=by omega
     subst hj';by_cases hi':i=lo+n
     ·subst hi';exact KeyOrd.kle_refl _
     ·rw[hall i (by omega) (by omega)];exact KeyOrd.kle_of_klt hlt
  ·rw[if_neg hgt];have hn1':n=1:=by omega
   subst hn1';refine wpS_desP C hn (by omega) hB ?_ h;intro i j hli hij hj;by_cases hi':i=j
   ·subst hi';exact KeyOrd.kle_refl _
   ·have hi0:i=lo:=by omega
    have hj1:j=lo+1:=by omega
    subst hi0;subst hj1;exact KeyOrd.kle_of_klt hlt
theorem wpS_bS {st:SortSt}{lo n ok:Nat}{Q:Bool→SortSt→Prop}(C:Cmp M A E s knd O key a₀)(hn:lo+n≤a₀.size)(hok:ok≤n)(hB:SB a₀ knd st)(hs:Seg key (arrOf st) lo (lo+ok))
  (h:∀ st',SB a₀ knd st'→From lo st st'→Seg key (arrOf st') lo (lo+n)→Q true st'):wpS M A E s (binarySort' lo n ok) Q st:=by
 rw[binarySort'_eq]
 refine wpS_bind (wpS_mono (wpS_forRange (I:=fun k c st'=>c=(none,())∧SB a₀ knd st'∧From lo st st'∧Seg key (arrOf st') lo (lo+min k n))
  (Q:=fun c st'=>c=(none,())∧SB a₀ knd st'∧From lo st st'∧Seg key (arrOf st') lo (lo+n)) ?step ?fin ?init) ?post)
 case post =>
  rintro c st' ⟨rfl,hB',hF,hs'⟩;exact wpS_pure (h st' hB' hF hs')
 case init =>
  refine⟨rfl,hB,From.refl _ _,fun i j hli hij hj=>?_⟩;by_cases h1:ok=0
  ·have:i=j:=by omega
   subst this;exact KeyOrd.kle_refl _
  ·exact hs i j hli hij (by omega)
 case fin =>
  rintro c st' ⟨hc,hB',hF,hs'⟩;refine⟨hc,hB',hF,?_⟩
  rwa [show min (max (max ok 1) n) n=n by omega] at hs'
 case step =>
  rintro k c st' hak hkn ⟨rfl,hB',hF,hs'⟩;rw[show min k n=k by omega] at hs';have hk:lo+k<a₀.size:=by omega
  refine wpS_bind (wpS_mono (wpS_forRange (I:=fun x c st''=>st''=st'∧∃ l r,c=(none,l,r)∧l≤r∧r≤k∧r-l≤k-x ∧
    (∀ i,i<l→O.kle (KA key (arrOf st') (lo+i)) (KA key (arrOf st') (lo+k)))∧(∀ i,r≤i→i<k→O.klt (KA key (arrOf st') (lo+k)) (KA key (arrOf st') (lo+i))))
   (Q:=fun c st''=>st''=st'∧∃ l r,c=(none,l,r)∧l≤k ∧
    (∀ i,i<l→O.kle (KA key (arrOf st') (lo+i)) (KA key (arrOf st') (lo+k)))∧(∀ i,l≤i→i<k→O.klt (KA key (arrOf st') (lo+k)) (KA key (arrOf st') (lo+i)))) ?istep ?ifin ?iinit) ?ipost)
  case iinit=>exact⟨rfl,0,k,rfl,by omega,by omega,by omega,fun i hi=>by omega,fun i h1 h2=>by omega⟩
  case ifin =>
   rintro c st'' ⟨rfl,l,r,rfl,hlr,hrk,hm,hlo,hhi⟩;have:l=r:=by omega
   subst this;exact⟨rfl,l,l,rfl,hrk,hlo,hhi⟩
  case istep =>
   rintro x c st'' _ hxk ⟨rfl,l,r,rfl,hlr,hrk,hm,hlo,hhi⟩;dsimp only;by_cases hge:l≥r
   ·rw[if_pos hge];have:l=r:=by omega
    subst this;exact wpS_pure ⟨rfl,l,l,rfl,hrk,hlo,hhi⟩
   ·rw[if_neg hge];refine wpS_bind (wpS_ltI C hB' hk (by omega) ?_);cases hless:O.blt (KA key (arrOf st'') (lo+k)) (KA key (arrOf st'') (lo+(l+r) / 2))
    case true =>
     simp only[if_true];refine wpS_pure ⟨rfl,l,(l+r) / 2,rfl,by omega,by omega,by omega,hlo,fun i h1 h2=>?_⟩;exact KeyOrd.klt_of_klt_of_kle hless (hs' _ _ (by omega) (by omega) (by omega))
    case false =>
     simp only[Bool.false_eq_true,if_false];refine wpS_pure ⟨rfl,(l+r) / 2+1,r,rfl,by omega,by omega,by omega,fun i h1=>?_,hhi⟩;exact KeyOrd.kle_trans (hs' (lo+i) (lo+(l+r) / 2) (by omega) (by omega) (by omega)) (show O.kle _ _ from hless)
  case ipost =>
   rintro c st'' ⟨rfl,l,r,rfl,hlk,hlo,hhi⟩;show wpS _ _ _ _ (do moveDown' (lo+k) (lo+l);pure (ForInStep.yield (none,()))) _ _;rw[moveDown'_eq];have hks:lo+k<(arrOf st'').size:=by rw[hB'.size];exact hk
   refine wpS_bind (wpS_modify (wpS_pure ⟨rfl,hB'.setArr (bubble_perm _ _ _),hF.trans (From.bubble hks (by omega) (by omega)),?_⟩));rw[show min (k+1) n=k+1 by omega];intro i j hli hij hj;show O.kle (KA key (bubble (arrOf st'') (lo+k) (lo+k-(lo+l))) i) (KA key (bubble (arrOf st'') (lo+k) (lo+k-(lo+l))) j);rw[KA_bubble hks (by omega),KA_bubble hks (by omega),show lo+k-(lo+k-(lo+l))=lo+l by omega];have hlo':∀ i,lo≤i→i<lo+l→O.kle (KA key (arrOf st'') i) (KA key (arrOf st'') (lo+k)):=fun i a b=>by
    have:=hlo (i-lo) (by omega)
    rwa [show lo+(i-lo)=i by omega] at this
   have hhi':∀ i,lo+l≤i→i<lo+k→O.klt (KA key (arrOf st'') (lo+k)) (KA key (arrOf st'') i):=fun i a b=>by
    have:=hhi (i-lo) (by omega) (by omega)
    rwa [show lo+(i-lo)=i by omega] at this
   repeat' split
   all_goals first
    | (exfalso;omega)
    | exact KeyOrd.kle_refl _
    | exact hlo' _ (by omega) (by omega)
    | exact KeyOrd.kle_of_klt (hhi' _ (by omega) (by omega))
    | exact hs' _ _ (by omega) (by omega) (by omega)
end
end Ts
namespace Ts
open PySem PyProof.Rows
set_option autoImplicit false
end Ts
namespace Ts
open PySem PyProof.Rows
set_option autoImplicit false
theorem toList_el {a:Array Keyed}{k:Nat}(h:k<a.size):a.toList[k]?=some (el a k):=by
 rw[Array.getElem?_toList];exact el_some h
section
variable {O:KeyOrd}{key:Keyed→O.α}
def le {O:KeyOrd}(key:Keyed→O.α)(p q:Keyed):Prop:=O.kle (key p) (key q)
theorem pw_of_seg {a:Array Keyed}(h:Seg key a 0 a.size):a.toList.Pairwise (le key):=by
 rw[List.pairwise_iff_getElem];intro i j hi hj hij;have hi':i<a.size:=by simpa using hi
 have hj':j<a.size:=by simpa using hj
 have e1:=toList_el hi';rw[List.getElem?_eq_getElem hi] at e1;have e2:=toList_el hj';rw[List.getElem?_eq_getElem hj] at e2;rw[Option.some.inj e1,Option.some.inj e2];exact h i j (by omega) (by omega) hj'
variable {a b o:Array Keyed}{i j:Nat}
end
end Ts
namespace Ts
open PySem PyProof.Rows
set_option autoImplicit false
end Ts
namespace Ts
open PySem PyProof.Rows
set_option autoImplicit false
end Ts
namespace Ts
open PySem PyProof.Rows
set_option autoImplicit false
end Ts
namespace Ts
open PySem PyProof.Rows
set_option autoImplicit false
section
variable {M:Model}{A:Around}{E:Value→Shared→Prop}{s:Shared}{a₀:Array Keyed}{knd:SortKind}{O:KeyOrd}{key:Keyed→O.α}
def Rn {O:KeyOrd}(key:Keyed→O.α)(xs:Array Keyed):Nat→List (Nat×Nat×Nat)→Nat→Prop
 | s,[],e=>s=e
 | s,x::r,e=>x.1=s∧1≤x.2.1∧Seg key xs s (s+x.2.1)∧Rn key xs (s+x.2.1) r e
theorem Rn.le {xs:Array Keyed}:∀ {p:List (Nat×Nat×Nat)} {s e:Nat},Rn key xs s p e→s+p.length≤e
 | [],s,e,h=>by cases h;simp
 | x::r,s,e,h=>by
  have:=Rn.le h.2.2.2;have:=h.2.1;rw[List.length_cons];omega
theorem Rn.congr {xs ys:Array Keyed}:∀ {p:List (Nat×Nat×Nat)} {s e:Nat},Rn key xs s p e→(∀ k,s≤k→k<e→ys[k]?=xs[k]?)→Rn key ys s p e
 | [],s,e,h,_=>h
 | x::r,s,e,h,k=>⟨h.1,h.2.1,h.2.2.1.congr (fun i a b=>KA_congr (k i a (by have:=Rn.le h.2.2.2;omega))),Rn.congr h.2.2.2 fun i a b=>k i (by omega) b⟩
theorem Rn.cat {xs:Array Keyed}:∀ {p q:List (Nat×Nat×Nat)} {s m e:Nat},Rn key xs s p m→Rn key xs m q e→Rn key xs s (p++q) e
 | [],q,s,m,e,h,k=>by cases h;exact k
 | x::r,q,s,m,e,h,k=>⟨h.1,h.2.1,h.2.2.1,Rn.cat h.2.2.2 k⟩
structure RB {O:KeyOrd}(key:Keyed→O.α)(a₀:Array Keyed)(knd:SortKind)(lo:Nat)(p:List (Nat×Nat×Nat))(st:SortSt):Prop where
 sb:SB a₀ knd st
 pd:pendingOf st=p.toArray
 rn:Rn key (arrOf st) 0 p lo
 hl:lo≤a₀.size
theorem RB.push {st:SortSt}{lo n:Nat}{p:List (Nat×Nat×Nat)}(hR:RB key a₀ knd lo p st)(h1:1≤n)(h2:lo+n≤a₀.size)(hs:Seg key (arrOf st) lo (lo+n)) :
  RB key a₀ knd (lo+n) (p++[(lo,n,0)]) (setPending st ((pendingOf st).push (lo,n,0))) :=
 ⟨⟨hR.sb.perm,hR.sb.kind,hR.sb.failed⟩,by show (pendingOf st).push _=_;rw[hR.pd,List.push_toArray],hR.rn.cat ⟨rfl,h1,hs,rfl⟩,h2⟩
theorem minRun_short:∀ n,1≤n→n<64→minRun' n n 0=n
 | 0,h,_=>absurd h (by decide)
 | k+1,_,h=>by rw[minRun'_succ,if_pos h,Nat.add_zero]
theorem wpS_sRs {st:SortSt}{Q:Unit→SortSt→Prop}(C:Cmp M A E s knd O key a₀)(hB:SB a₀ knd st)(hp:pendingOf st=#[])(h2:2≤a₀.size)(h64:a₀.size<64)
  (h:∀ st',SB a₀ knd st'→Seg key (arrOf st') 0 a₀.size→Q () st'):wpS M A E s sortRuns' Q st:=by
 rw[sortRuns'_eq];refine wpS_bind (wpS_get ?_);dsimp only;simp only[hB.size];rw[minRun_short _ (by omega) h64]
 refine wpS_bind (wpS_mono (wpS_forRange
  (I:=fun x c st'=>∃ lo p,c=(none,lo)∧RB key a₀ knd lo p st'∧x≤lo∧(lo=0∧p=[]∨p.length≤1∧lo=a₀.size))
  (Q:=fun c st'=>∃ p,c=(none,a₀.size)∧RB key a₀ knd a₀.size p st'∧p.length≤1) ?step ?fin ⟨0,[],rfl,⟨hB,hp,rfl,by omega⟩,by omega,.inl ⟨rfl,rfl⟩⟩) ?post)
 case fin =>
  rintro c st' ⟨lo,p,rfl,hR,hx,ho⟩;have:lo=a₀.size:=by have:=hR.hl;omega
  subst this;exact⟨p,rfl,hR,by omega⟩
 case post =>
  rintro c st' ⟨p,rfl,hR,hl⟩;dsimp only
  refine wpS_bind (wpS_mono (wpS_forRange (I:=fun x c st'=>c=(none,())∧∃ p,RB key a₀ knd a₀.size p st'∧p.length≤1)
   (Q:=fun c st'=>c=(none,())∧∃ p,RB key a₀ knd a₀.size p st'∧p.length≤1) ?_ (fun _ _ z=>z) ⟨rfl,p,hR,hl⟩) ?_)
  ·rintro x c st3 _ hx ⟨rfl,p,hR3,hlen⟩;refine wpS_bind (wpS_get ?_);have hsz:(pendingOf st3).size=p.length:=by rw[hR3.pd];simp
   rw[if_pos (by omega)];exact wpS_pure ⟨rfl,p,hR3,by omega⟩
  ·rintro c st3 ⟨rfl,p,hR3,hlen⟩;refine wpS_pure (h st3 hR3.sb ?_);have hrn:=hR3.rn
   match p,hlen,hrn with
   | [],_,hrn=>exact absurd hrn (by show ¬ (0=a₀.size);omega)
   | [x],_,hrn =>
    obtain⟨_,_,g,e⟩:=hrn;have e:0+x.2.1=a₀.size:=e;rw[e] at g;exact g
   | _::_::_,hlen,_=>simp at hlen
 case step =>
  rintro x c st1 _ hx ⟨lo,p,rfl,hR,hxl,ho⟩;dsimp only;by_cases hlo:lo≥a₀.size
  ·rw[if_pos hlo];have:lo=a₀.size:=by have:=hR.hl;omega
   subst this;exact wpS_pure ⟨p,rfl,hR,by omega⟩
  rw[if_neg hlo];obtain⟨rfl,rfl⟩:lo=0∧p=[]:=ho.resolve_right (by omega);refine wpS_bind (wpS_cR C (by omega) (by omega) hR.sb fun found st2 hB2 hF2 hm1 hm2 hs2=>?_);dsimp only;have hR2:RB key a₀ knd 0 [] st2:=⟨hB2,hF2.pend.trans hR.pd,hR.rn.congr fun k _ hk=>hF2.low k hk,hR.hl⟩
  by_cases hmin:found<a₀.size
  ·rw[if_pos hmin];refine wpS_bind (wpS_rule ?_);refine wpS_bind (wpS_bS C (by omega) (by omega) hB2 hs2 fun st3 hB3 hF3 hs3=>?_);simp only[Bool.not_true,Bool.false_eq_true,if_false];have hR3:RB key a₀ knd 0 [] st3:=⟨hB3,hF3.pend.trans hR2.pd,hR2.rn.congr fun k _ hk=>hF3.low k hk,hR.hl⟩
   refine wpS_bind (wpS_get ?_);rw[show (pendingOf st3).back?=none by rw[hR3.pd];rfl];dsimp only;refine wpS_bind (wpS_modify ?_);exact wpS_pure ⟨_,_,rfl,hR3.push (by omega) (by omega) hs3,by omega,.inr ⟨by simp,by omega⟩⟩
  ·rw[if_neg hmin];refine wpS_bind (wpS_get ?_);rw[show (pendingOf st2).back?=none by rw[hR2.pd];rfl];dsimp only;refine wpS_bind (wpS_modify ?_);exact wpS_pure ⟨_,_,rfl,hR2.push hm1 (by omega) hs2,by omega,.inr ⟨by simp,by omega⟩⟩
end
end Ts
end
section
namespace L2
open PySem PySem.Spec PyProof.Rows
def clo (env:Env):List (Str×NameKind)→List (Str×Addr)→List (Str×Addr)
 | [],cs=>cs
 | y::r,cs=>clo env r (if y.2 == NameKind.free then (y.1,(env.cells.lookup y.1).getD 0)::cs else cs)
theorem clo_eq {env:Env}:∀ (names:List (Str×NameKind)) (cs:List (Str×Addr)),(∀ y∈names,y.2=.free→∃ c,env.cells.lookup y.1=some c) →
  (forIn names cs fun (x:Str×NameKind) (r:List (Str×Addr))=>(if (x.2 == NameKind.free)=true then do
   let c ← cellOf env x.1
   pure (ForInStep.yield ((x.1,c)::r)) else pure (ForInStep.yield r):Sem (ForInStep (List (Str×Addr)))))=pure (clo env names cs)
 | [],cs,_=>by rw[List.forIn_nil];rfl
 | y::r,cs,h=>by
  rw[List.forIn_cons];unfold clo;have hr:=clo_eq r (if y.2 == NameKind.free then (y.1,(env.cells.lookup y.1).getD 0)::cs else cs) fun z hz=>h z (List.mem_cons_of_mem _ hz)
  by_cases e:(y.2 == NameKind.free)=true
  ·obtain⟨c,hc⟩:=h y List.mem_cons_self (by simpa using e);have ec:cellOf env y.1=pure c:=by unfold cellOf;rw[hc]
   rw[if_pos e] at hr ⊢;rw[if_pos e,ec];rw[hc] at hr ⊢;exact hr
  ·rw[if_neg e] at hr ⊢;rw[if_neg e];exact hr
theorem closure_clo {env:Env}{scope:Scope}(h:∀ y∈scope.names,y.2=.free→∃ c,env.cells.lookup y.1=some c):closureFor scope env=pure (clo env scope.names []):=by
 have e:=clo_eq scope.names [] h;unfold closureFor;refine Eq.trans ?_ (congrArg (fun t=>t >>= fun cs=>(pure cs:Sem (List (Str×Addr)))) e);rfl
theorem lookup_cons' {β:Type}(x n:Str)(c:β)(r:List (Str×β)):List.lookup x ((n,c)::r)=if x=n then some c else List.lookup x r:=by
 rw[List.lookup_cons];by_cases e:x=n
 ·have hb:(x == n)=true:=beq_iff_eq.mpr e;rw[if_pos e];simp[hb]
 ·have hb:(x == n)=false:=beq_eq_false_iff_ne.mpr e;rw[if_neg e];simp[hb]
theorem clo_lookup {env:Env}(x:Str):∀ (names:List (Str×NameKind)) (cs:List (Str×Addr)),
  (clo env names cs).lookup x=if (names.any fun y=>decide (y.1=x) && (y.2 == NameKind.free))=true then some ((env.cells.lookup x).getD 0) else cs.lookup x
 | [],cs=>by simp[clo]
 | y::r,cs=>by
  unfold clo;rw[clo_lookup x r,List.any_cons];by_cases e:(y.2 == NameKind.free)=true
  ·rw[if_pos e,lookup_cons'];by_cases ex:y.1=x
   ·rw[decide_eq_true ex,e,if_pos ex.symm,ex];simp
   ·rw[decide_eq_false ex,if_neg (show ¬ x=y.1 from fun z=>ex z.symm),Bool.false_and,Bool.false_or]
  ·have e':(y.2 == NameKind.free)=false:=by simpa using e
   rw[if_neg e,e'];simp
def compOk (sc osc:Scope):Bool :=
 (match sc.kind with | .function=>true | _=>false) &&
  sc.names.all fun y=>match y.2 with
   | .cell=>false
   | .local=>(match sc.names.lookup y.1 with | some .local=>true | _=>false)
   | .free=>(match osc.names.lookup y.1 with | some .cell=>true | some .free=>true | _=>false)
   | _=>true
structure CompOk (sc osc:Scope):Prop where
 kind:sc.kind=.function
 noCell:∀ y∈sc.names,y.2≠.cell
 loc:∀ y∈sc.names,y.2=.local→sc.names.lookup y.1=some .local
 free:∀ y∈sc.names,y.2=.free→osc.names.lookup y.1=some .cell∨osc.names.lookup y.1=some .free
theorem compOk_of {sc osc:Scope}(h:compOk sc osc=true):CompOk sc osc:=by
 unfold compOk at h;rw[Bool.and_eq_true,List.all_eq_true] at h;obtain⟨h1,h2⟩:=h;refine⟨?_,fun y hy e=>?_,fun y hy e=>?_,fun y hy e=>?_⟩
 ·cases e:sc.kind with
  | function=>rfl
  | _=>rw[e] at h1;cases h1
 ·have:=h2 y hy;rw[e] at this;cases this
 ·have:=h2 y hy;rw[e] at this;dsimp only at this;split at this
  ·assumption
  ·cases this
 ·have:=h2 y hy;rw[e] at this;dsimp only at this;split at this
  ·left;assumption
  ·right;assumption
  ·cases this
def cxC (X:Cx)(scope:Scope)(N':List Str)(pins:List (Addr×Obj))(fp:List Addr)(s:Shared)(H:Hp):Cx where
 prog:=X.prog
 w:=X.w
 K:=X.K
 mg:=X.mg
 base:=X.base
 A:=X.A
 N:=N'
 s₀:=s
 H₀:=H
 env:=compEnvC scope (clo X.env scope.names []) s.heap.objs.size X.env
 outer:=X.stack
 stack:=X.stack
 ex:=fp
 fn:=fun _=>false
 calm:=true
 pn:=X.pn++pins
 xe:=fun _ _=>False
section
variable {X:Cx}{scope:Scope}{own:List Str}{fr:List (Str×Nat)}{fp:List Addr}{pins:List (Addr×Obj)}{σ:St}{H:Hp}{s:Shared}
def st0 (own:List Str)(fr:List (Str×Nat))(σ:St):St:=own.map (fun _=>Option.none)++fr.map fun p=>(σ[p.2]?).join
def frOk (X:Cx)(scope:Scope)(fr:List (Str×Nat)):Prop:=∀ p∈fr,X.N[p.2]?=some p.1∧scope.names.lookup p.1=some .free
theorem frOk_nil:frOk X scope []:=fun _ h=>nomatch h
theorem frOk_cons {p:Str×Nat}{r:List (Str×Nat)}(h1:X.N[p.2]?=some p.1)(h2:scope.names.lookup p.1=some .free)(h:frOk X scope r):frOk X scope (p::r):=fun q hq=>by
 rcases List.mem_cons.mp hq with rfl | hq
 ·exact⟨h1,h2⟩
 ·exact h q hq
theorem lookup_mem' {β:Type}{x:Str}{k:β}:∀ {l:List (Str×β)},l.lookup x=some k→(x,k)∈l
 | [],h=>by cases h
 | (n,c)::r,h=>by
  rw[lookup_cons'] at h;by_cases e:x=n
  ·rw[if_pos e] at h;cases h;rw[e];exact List.mem_cons_self
  ·rw[if_neg e] at h;exact List.mem_cons_of_mem _ (lookup_mem' h)
theorem relabel_lookup {env:Env}{x:Str}:∀ {names:List (Str×NameKind)} {k:NameKind},
  (names.map fun (y:Str×NameKind)=>if (y.2 == NameKind.free && env.scope.kind == .function && env.kindOf y.1 == some .cell) then (y.1,NameKind.cell) else (y.1,y.2)).lookup x=some k →
  ∃ k',names.lookup x=some k'∧(k=k'∨(k'=.free∧k=.cell))
 | [],k,h=>by cases h
 | (n,c)::r,k,h=>by
  rw[List.map_cons] at h;rw[lookup_cons'];by_cases e:x=n
  ·rw[if_pos e];refine⟨c,rfl,?_⟩;by_cases q:(c == NameKind.free && env.scope.kind == .function && env.kindOf n == some .cell)=true
   ·have hh:(if (((n,c):Str×NameKind).2 == NameKind.free && env.scope.kind == .function && env.kindOf ((n,c):Str×NameKind).1 == some .cell)=true then (((n,c):Str×NameKind).1,NameKind.cell) else (((n,c):Str×NameKind).1,((n,c):Str×NameKind).2))=(n,NameKind.cell):=if_pos q;rw[hh,lookup_cons',if_pos e] at h;cases h;refine .inr ⟨?_,rfl⟩;simp only[Bool.and_eq_true] at q;simpa using q.1.1
   ·have hh:(if (((n,c):Str×NameKind).2 == NameKind.free && env.scope.kind == .function && env.kindOf ((n,c):Str×NameKind).1 == some .cell)=true then (((n,c):Str×NameKind).1,NameKind.cell) else (((n,c):Str×NameKind).1,((n,c):Str×NameKind).2))=(n,c):=if_neg q;rw[hh,lookup_cons',if_pos e] at h;cases h;exact .inl rfl
  ·rw[if_neg e];have h':(r.map fun (y:Str×NameKind)=>if (y.2 == NameKind.free && env.scope.kind == .function && env.kindOf y.1 == some .cell) then (y.1,NameKind.cell) else (y.1,y.2)).lookup x=some k:=by
    by_cases q:(c == NameKind.free && env.scope.kind == .function && env.kindOf n == some .cell)=true
    ·have hh:(if (((n,c):Str×NameKind).2 == NameKind.free && env.scope.kind == .function && env.kindOf ((n,c):Str×NameKind).1 == some .cell)=true then (((n,c):Str×NameKind).1,NameKind.cell) else (((n,c):Str×NameKind).1,((n,c):Str×NameKind).2))=(n,NameKind.cell):=if_pos q;rw[hh,lookup_cons',if_neg e] at h;exact h
    ·have hh:(if (((n,c):Str×NameKind).2 == NameKind.free && env.scope.kind == .function && env.kindOf ((n,c):Str×NameKind).1 == some .cell)=true then (((n,c):Str×NameKind).1,NameKind.cell) else (((n,c):Str×NameKind).1,((n,c):Str×NameKind).2))=(n,c):=if_neg q;rw[hh,lookup_cons',if_neg e] at h;exact h
   exact relabel_lookup h'
theorem relabel_free {env:Env}{x:Str}:∀ {names:List (Str×NameKind)},names.lookup x=some .free →
  (names.map fun (y:Str×NameKind)=>if (y.2 == NameKind.free && env.scope.kind == .function && env.kindOf y.1 == some .cell) then (y.1,NameKind.cell) else (y.1,y.2)).lookup x=some .cell ∨
  (names.map fun (y:Str×NameKind)=>if (y.2 == NameKind.free && env.scope.kind == .function && env.kindOf y.1 == some .cell) then (y.1,NameKind.cell) else (y.1,y.2)).lookup x=some .free
 | [],h=>by cases h
 | (n,c)::r,h=>by
  rw[lookup_cons'] at h;rw[List.map_cons];have red:∀ b:Bool,(if b=true then (n,NameKind.cell) else (n,c))=(n,if b=true then NameKind.cell else c):=fun b=>by cases b<;>rfl
  have hh:(if (((n,c):Str×NameKind).2 == NameKind.free && env.scope.kind == .function && env.kindOf ((n,c):Str×NameKind).1 == some .cell)=true then (((n,c):Str×NameKind).1,NameKind.cell) else (((n,c):Str×NameKind).1,((n,c):Str×NameKind).2))=(n,if (c == NameKind.free && env.scope.kind == .function && env.kindOf n == some .cell)=true then NameKind.cell else c):=red _;rw[hh,lookup_cons'];by_cases e:x=n
  ·rw[if_pos e] at h ⊢;cases h;generalize (NameKind.free == NameKind.free && env.scope.kind == .function && env.kindOf n == some .cell)=b;cases b
   ·right;rfl
   ·left;rfl
  ·rw[if_neg e] at h ⊢;exact relabel_free h
theorem inv_comp (I:Inv X pins σ H s)(hc:CompOk scope X.env.scope)(hcalm:X.calm=true)(hf:∀ b∈fp,FpOk X pins H b)(hlt:∀ b∈fp,b<s.heap.objs.size)(hfr:frOk X scope fr){h1:Heap}{m:Str→Option Value}(hns:h1.Ns s.heap.objs.size m)
  (hsb:∀ b o,s.heap.get? b=some o→h1.get? b=some o):Inv (cxC X scope (own++fr.map (·.1)) pins fp s H) [] (st0 own fr σ) H {s with heap:=h1}:=by
 have clX:∀ x c,(clo X.env scope.names []).lookup x=some c→X.env.cells.lookup x=some c:=fun x c e=>by
  rw[clo_lookup] at e;split at e
  ·rename_i q;obtain⟨y,hy,hq⟩:=List.any_eq_true.mp q;rw[Bool.and_eq_true] at hq;have e1:y.1=x:=of_decide_eq_true hq.1;have e2:y.2=.free:=by simpa using hq.2
   obtain⟨c',hc'⟩:=I.ok.has x (by
    have:=hc.free y hy e2;rw[e1] at this
    exact this)
   rw[hc'] at e ⊢;exact e
  ·cases e
 have hlen:∀ b∈frs X.stack,b≠s.heap.objs.size∧b∈X.env.locals::X.fs:=fun b hb=>by
  have hm:=I.stkSub b hb;refine⟨fun z=>?_,hm⟩;rcases List.mem_cons.mp hm with q | q
  ·have:=I.lt;rw[← q,z] at this;exact Nat.lt_irrefl _ this
  ·exact I.nofs (Nat.le_of_eq z.symm) q
 have ok:(cxC X scope (own++fr.map (·.1)) pins fp s H).Ok :=
  {mod:=I.ok.mod
   kind:=hc.kind
   glob:=I.ok.glob
   blt:=I.ok.blt
   above:=Nat.le_refl _
   inj:=fun x y c hx hy=>I.ok.inj x y c (clX x c hx) (clX y c hy)
   has:=fun x hx=>by
    have hx:(relabel scope X.env).names.lookup x=some .cell∨(relabel scope X.env).names.lookup x=some .free:=hx;have key:scope.names.lookup x=some .free:=by
     rcases hx with hx | hx
     ·obtain⟨k',e1,e2⟩:=relabel_lookup hx;rcases e2 with e2 | ⟨e2,_⟩
      ·subst e2;exact absurd rfl (hc.noCell (x,.cell) (lookup_mem' e1))
      ·subst e2;exact e1
     ·obtain⟨k',e1,e2⟩:=relabel_lookup hx;rcases e2 with e2 | ⟨e2,e3⟩
      ·subst e2;exact e1
      ·cases e3
    have hm:=lookup_mem' key;refine⟨(X.env.cells.lookup x).getD 0,?_⟩;show (clo X.env scope.names []).lookup x=_;rw[clo_lookup,if_pos (List.any_eq_true.mpr ⟨(x,.free),hm,by simp⟩)]
   cab:=fun x c h=>nomatch h
   hd:=fun _=>I.ok.hd hcalm
   frames:=I.ok.frames
   stk:=.inl rfl
   exf:=fun b hb=>⟨Nat.ne_of_lt (hlt b hb),fun x c e=>(hf b hb).2.2.2.2.1 x c (clX x c e)⟩
   bs:=I.bs
   bsz:=Nat.le_trans I.ok.bsz I.sz
   noex:=fun b o e hb=>by
    rcases (hf b hb).2.2.2.1 with q | q
    ·exact I.ok.noex b o e q
    ·have h1:b<X.base.objs.size:=Heap.lt_size e;have h2:=I.ok.bsz;exact absurd (Nat.lt_of_lt_of_le h1 h2) (Nat.not_lt.mpr q)
   exfs:=fun b hb hm=>by
    have hm:=I.stkSub b hm;rcases List.mem_cons.mp hm with q | q
    ·exact (hf b hb).2.1 q
    ·exact (hf b hb).2.2.1 q
   funs:=I.stack
   frf:=I.stkFree}
 refine⟨ok,rfl,I.bare,Un.kept hsb,⟨m,hns,fun i x v hx hv hvis=>?_⟩,fun x c e=>?_,I.fresh,fun x c e=>I.freeC x c (clX x c e),fun p hp=>?_,I.hok.kept hsb,?_⟩
 ·-- the names
  have hi:own.length≤i:=by
   rcases Nat.lt_or_ge i own.length with h | h
   ·unfold st0 at hv;rw[List.getElem?_append_left (by simpa using h),List.getElem?_map] at hv;cases e:own[i]? with
    | none=>rw[e] at hv;cases hv
    | some z=>rw[e] at hv;cases hv
   ·exact h
  have hx:(own++fr.map (·.1))[i]?=some x:=hx;unfold st0 at hv;rw[List.getElem?_append_right (by simpa using hi),List.getElem?_map] at hv;rw[List.getElem?_append_right hi,List.getElem?_map] at hx;rw[List.length_map] at hv;cases e:fr[i-own.length]? with
  | none=>rw[e] at hx;cases hx
  | some p =>
   rw[e] at hx hv;have ex:p.1=x:=Option.some.inj hx;have ev:(σ[p.2]?).join=some v:=Option.some.inj hv;obtain⟨hN,hfree⟩:=hfr p (List.mem_iff_getElem?.mpr ⟨_,e⟩);rw[ex] at hN hfree;have hk:=hc.free (x,.free) (lookup_mem' hfree) rfl;have hσ:σ[p.2]?=some (some v):=by
    cases q:σ[p.2]? with
    | none=>rw[q] at ev;cases ev
    | some o=>rw[q] at ev;exact congrArg some ev
   obtain⟨mX,nX,lX⟩:=I.loc;obtain⟨u,ru,look⟩:=lX p.2 x v hN hσ (.inr hk);refine⟨u,ru,.inr ⟨relabel_free hfree,?_⟩⟩;rcases look with ⟨k1,_⟩ | ⟨_,c,hcc,hcell⟩
   ·exfalso;have k1:X.env.scope.names.lookup x=some .local:=k1;rcases hk with q | q<;>(rw[k1] at q;cases q)
   ·refine⟨c,?_,?_⟩
    ·show (clo X.env scope.names []).lookup x=_;rw[clo_lookup,if_pos (List.any_eq_true.mpr ⟨(x,.free),lookup_mem' hfree,by simp⟩),hcc];rfl
    ·exact hcell.keeps hsb
 ·obtain⟨v,hv⟩:=I.cell x c (clX x c e);exact⟨v,hv.keeps hsb⟩
 ·have hp:p∈X.pn++pins:=by
   rcases List.mem_append.mp hp with q | q
   ·exact q
   ·cases q
  obtain⟨a1,a2,a3,a4,a5⟩:=I.pin p hp;refine⟨hsb _ _ a1,a2,Nat.ne_of_lt (Heap.lt_size a1),fun hm=>?_,a5⟩;have hm:=I.stkSub _ hm;rcases List.mem_cons.mp hm with q | q
  ·exact a3 q
  ·exact a4 q
 ·show (st0 own fr σ).length=(own++fr.map (·.1)).length;unfold st0;rw[List.length_append,List.length_append,List.length_map,List.length_map,List.length_map]
end
end L2
namespace L2
open PySem PySem.Spec PyProof.Rows
def PTs (X:Cx)(ifs:List Expr)(t:TT):Prop :=
 ∀ (pins:List (Addr×Obj)) (s:Shared) (σ:St) (H:Hp) (Q:Bool→Hp→Prop),Inv X pins σ H s→t σ H Q →
  wpAny (model X.prog X.w) X.A (forIn ifs true fun c r=>if r=true then do let ok ← isTrue c X.env (eval c X.env);pure (ForInStep.yield ok) else pure (ForInStep.yield r)) (TP X pins σ Q) X.xe s
def tYes:TT:=fun _ H Q=>Q true H
theorem pts_nil {X:Cx}:PTs X [] tYes:=fun pins s σ H Q I h=>wpAny_tests_nil ⟨H,I,h⟩
theorem pts_one {X:Cx}{c:Expr}{t:TT}(h:PT X c t):PTs X [c] t:=fun pins s σ H Q I q=>wpAny_tests_one (h pins s σ H Q I q)
theorem lcomp_loop {prog:Program}{w:World}{A:Around}{R:Result→Shared→Prop}{s:Shared}{elt target iter:Expr}{ifs:List Expr}{scope:Scope}{pos:Pos}{it acc:Value}{env:Env}(I:Nat→Shared→Prop)
  (turn:∀ n s,I n s→wpAny (model prog w) A (pyNext it) (fun r s₁=>match r with
   | none=>R (.ok .next) s₁
   | some v=>wpAny (model prog w) A (letOwnedTupleGo target it v) (fun _ s₁=>wpAny (model prog w) A (assign target env v) (fun _ s₂ =>
     wpAny (model prog w) A (forIn ifs true fun c r=>if r=true then do let ok ← isTrue c env (eval c env);pure (ForInStep.yield ok) else pure (ForInStep.yield r)) (fun ok s₃ =>
      if ok=true then wpAny (model prog w) A (eval elt env) (fun x s₄ =>
       wpAny (model prog w) A (call (.builtin "list.append") [acc,x]) (fun _ s₅=>∃ m,m<n∧I m s₅) (fun _ _=>False) s₄) (fun _ _=>False) s₃
      else ∃ m,m<n∧I m s₃) (fun _ _=>False) s₂) (fun _ _=>False) s₁) (fun _ _=>False) s₁) (fun _ _=>False) s)
  (n:Nat) (h:I n s):codeAny (model prog w) A (.compLoop (.ListComp elt [⟨target,iter,ifs,0⟩] scope pos) 0 it acc env) R s:=by
 refine codeAny_loop rfl I (fun n s hI=>?_) n h;show wpAny _ A ((compTurn (.ListComp elt [⟨target,iter,ifs,0⟩] scope pos) 0 it acc env).onRaise (fun x=>do noteFrame x env;theTreesLotGoes x)) _ _ s;refine wpAny_noted ?_;rw[compTurn_list];refine wpAny_bind (wpAny_standAt (wpAny_bind (wpAny_mono (turn n s hI) (fun r s₁ h₁=>?_) fun _ _ h'=>h'.elim)));cases r with
 | none=>exact wpAny_pure h₁
 | some v =>
  refine wpAny_bind (wpAny_mono h₁ (fun _ s₁ h₁=>?_) fun _ _ h'=>h'.elim);refine wpAny_bind (wpAny_mono h₁ (fun _ s₂ h₂=>wpAny_bind (wpAny_mono h₂ (fun ok s₃ h₃=>?_) fun _ _ h'=>h'.elim)) fun _ _ h'=>h'.elim);cases ok with
  | false=>exact wpAny_pure ⟨rfl,h₃⟩
  | true =>
   exact wpAny_bind (wpAny_bind (wpAny_mono h₃ (fun x s₄ h₄=>wpAny_bind (wpAny_mono h₄ (fun _ s₅ h₅=>wpAny_pure (wpAny_pure ⟨rfl,h₅⟩)) fun _ _ h'=>h'.elim)) fun _ _ h'=>h'.elim))
def lcW (g:TG)(tc:TT)(te:TE)(p:Addr)(J:It)(τ0:St)(H0:Hp)(E:Hp→Prop):Prop :=
 ∃ W:Nat→Nat→St→Hp→Prop,(∃ m,W 0 m τ0 H0)∧∀ i m τ H,W i m τ H →
  (J.stop i H∧E H)∨(J.go i H∧∃ N:St→Hp→Prop,(∀ τ' H',N τ' H'→∃ m',m'<m∧W (i+1) m' τ' H') ∧
   ∀ x H',J.yld i H x H'→g x τ H' fun τ2 H2=>tc τ2 H2 fun b H3=>if b=true then te τ2 H3 fun v H4=>∃ ys,H4 p=some (.lst ys)∧ys.length<sizeLine∧N τ2 (upd H4 p (.lst (ys++[v]))) else N τ2 H3)
def tLC (own:List Str)(fr:List (Str×Nat))(wi:TI)(g:TG)(tc:TT)(te:TE):TE:=fun σ H Q =>
 wi σ H fun J H1=>∀ p,H1 p=none→lcW g tc te p J (st0 own fr σ) (upd H1 p (.lst [])) fun H2=>Q (.ref p) H2
section
variable {X:Cx}{elt tg iter:Expr}{ifs:List Expr}{scope:Scope}{pos:Pos}{own:List Str}{fr:List (Str×Nat)}{wi:TI}{g:TG}{tc:TT}{te:TE}
structure Blk (X:Cx)(scope:Scope)(N':List Str)(tg:Expr)(ifs:List Expr)(elt:Expr)(g:TG)(tc:TT)(te:TE):Prop where
 run:∀ pins fp s H,PG (cxC X scope N' pins fp s H) tg g∧PTs (cxC X scope N' pins fp s H) ifs tc∧PE (cxC X scope N' pins fp s H) elt te
structure CFree (X:Cx)(pins:List (Addr×Obj))(H:Hp)(C:Addr):Prop where
 un:H C=none
 loc:C≠X.env.locals
 new:X.s₀.heap.objs.size≤C
 cel:∀ x c,X.env.cells.lookup x=some c→c≠C
 pin:∀ p∈X.pn++pins,p.1≠C
theorem CFree.inv {pins:List (Addr×Obj)}{σ:St}{H:Hp}{s:Shared}{C:Addr}{h':Heap}(f:CFree X pins H C)(I:Inv X pins σ H s)(hs:Heap.SameBut C s.heap h'):Inv X pins σ H {s with heap:=h'} :=
 I.turned (t':=s.toks) (fun b o hb e=>hs.extBut b o hb e) f.un f.loc (.inr f.new) f.cel f.pin
theorem lcomp_run {pins:List (Addr×Obj)}{σ:St}{H2:Hp}{s2:Shared}{it:Addr}{fp:List Addr}{tn:Nat→Heap→Prop}{J:It}{EE:Hp→Prop}{RR:Value→Addr→Result→Shared→Prop}{E:Value→Shared→Prop}
  (hcalm:X.calm=true) (hc:CompOk scope X.env.scope) (hfr:frOk X scope fr) (B:Blk X scope (own++fr.map (·.1)) tg ifs elt g tc te)
  (I2:Inv X pins σ H2 s2) (T:Turn X.prog X.w X.K tg J fp it tn) (st2:tn 0 s2.heap) (f2:∀ b∈fp,FpOk X pins H2 b)
  (hw:lcW g tc te s2.heap.objs.size J (st0 own fr σ) (upd H2 s2.heap.objs.size (.lst [])) EE)
  (hRR:∀ C H' s' m,EE H'→s'.heap.Ns C m→Inv X pins σ H' s'→CFree X pins H' C→RR (.ref s2.heap.objs.size) C (.ok .next) s') :
  wpAny (model X.prog X.w) X.A (newList []) (fun acc s₃=>wpAny (model X.prog X.w) X.A (newFunctionEnv scope X.env.globals (clo X.env scope.names []) [] X.env.qual none .none (some X.env)) (fun cenv s₄ =>
   codeAny (model X.prog X.w) X.A (.compStart (.ListComp elt [⟨tg,iter,ifs,0⟩] scope pos) 0 (.ref it) acc {cenv with scope:=relabel scope X.env}) (RR acc cenv.locals) s₄) E s₃) E s2:=by
 have I3:Inv X pins σ (upd H2 s2.heap.objs.size (.lst [])) {s2 with heap:=s2.heap.push {cls:=.type "list",data:=.seq ([]:List Value).toArray},toks:=s2.toks}:=I2.lnew (ys:=[]) (its:=[]) (t':=s2.toks) .nil (Nat.zero_le _);generalize hs3:({s2 with heap:=s2.heap.push {cls:=.type "list",data:=.seq ([]:List Value).toArray},toks:=s2.toks}:Shared)=s3 at I3;have hsz3:s3.heap.objs.size=s2.heap.objs.size+1:=by rw[← hs3];exact Heap.size_push ..
 have k3:∀ b o,s2.heap.get? b=some o→s3.heap.get? b=some o:=fun b o e=>by rw[← hs3];exact Heap.get?_push_of_some _ e
 have hlt:∀ b∈fp,b<s2.heap.objs.size:=fun b hb=>let ⟨o,e,_⟩:=T.obj _ _ st2 b hb;Heap.lt_size e
 have f3:∀ b∈fp,FpOk X pins (upd H2 s2.heap.objs.size (.lst [])) b:=fun b hb=>⟨by rw[upd_ne (Nat.ne_of_lt (hlt b hb))];exact (f2 b hb).1,(f2 b hb).2⟩
 have st3:tn 0 s3.heap:=T.keep _ _ _ st2 fun b _ o e=>k3 b o e
 refine wpAny_newObj_type ?_;have e3:({s2 with heap:=s2.heap.push {cls:=.type "list",dict:=none,data:=.seq ([]:List Value).toArray}}:Shared)=s3:=hs3;rw[e3];refine wpAny_newFunctionEnv hc.noCell (by intro y hy;cases hy) (fun h₁ hns₁ hsb₁=>?_) hc.kind;have k4:∀ b o,s3.heap.get? b=some o→h₁.get? b=some o:=fun b o e=>hsb₁.extBut b o (Nat.ne_of_lt (Heap.lt_size e)) (Heap.get?_push_of_some _ e)
 have I4:=inv_comp (own:=own) I3 hc hcalm f3 (fun b hb=>Nat.lt_of_lt_of_le (hlt b hb) (by rw[hsz3];exact Nat.le_succ _)) hfr hns₁ k4;obtain⟨bg,bt,be⟩:=B.run pins fp s3 (upd H2 s2.heap.objs.size (.lst []));generalize hX':cxC X scope (own++fr.map (·.1)) pins fp s3 (upd H2 s2.heap.objs.size (.lst []))=X' at I4 bg bt be;have eP:X'.prog=X.prog:=by rw[← hX'];rfl
 have eW:X'.w=X.w:=by rw[← hX'];rfl
 have eK:X'.K=X.K:=by rw[← hX'];rfl
 have eA:X'.A=X.A:=by rw[← hX'];rfl
 have eC:X'.calm=true:=by rw[← hX'];rfl
 have eX:X'.xe=fun _ _=>False:=by rw[← hX'];rfl
 have eE:X'.env=compEnvC scope (clo X.env scope.names []) s3.heap.objs.size X.env:=by rw[← hX'];rfl
 have fC:∀ {H':Hp},(∀ b∈fp,H' b=none)→∀ b∈fp,FpOk X' [] H' b:=fun hn b hb=>by
  have hb':=f3 b hb;refine⟨hn b hb,?_,?_,?_,?_,?_⟩
  ·exact (I4.ok.exf b (by rw[← hX'];exact hb)).1
  ·exact I4.ok.exfs b (by rw[← hX'];exact hb)
  ·left;rw[← hX'];exact hb
  ·exact (I4.ok.exf b (by rw[← hX'];exact hb)).2
  ·intro p hp;have hp:p∈X.pn++pins:=by
    rw[← hX'] at hp;rcases List.mem_append.mp hp with q | q
    ·exact q
    ·cases q
   exact hb'.2.2.2.2.2 p hp
 obtain⟨W,⟨m0,w0⟩,turn⟩:=hw;have cenvE:({(newEnv scope s3.heap.objs.size X.env.globals (clo X.env scope.names []) X.env.qual none .none (some X.env) builtinsNs) with scope:=relabel scope X.env}:Env)=X'.env:=by rw[eE];rfl
 have loop:∀ s4:Shared,Inv X' [] (st0 own fr σ) (upd H2 s2.heap.objs.size (.lst [])) s4→tn 0 s4.heap →
   codeAny (model X.prog X.w) X.A (.compLoop (.ListComp elt [⟨tg,iter,ifs,0⟩] scope pos) 0 (.ref it) (.ref s2.heap.objs.size) X'.env) (RR (.ref s2.heap.objs.size) s3.heap.objs.size) s4:=by
  intro s4 J4 t4;refine lcomp_loop (fun n s'=>∃ i τ H',Inv X' [] τ H' s'∧tn i s'.heap∧(∀ b∈fp,H' b=none)∧W i n τ H') ?_ m0 ⟨0,_,_,J4,t4,fun b hb=>(f3 b hb).1,w0⟩;rintro n s5 ⟨i,τ5,H5,I5,t5,fr5,w5⟩;rcases turn i n τ5 H5 w5 with ⟨stop,qn⟩ | ⟨go,N,hN,step⟩
  ·have hd:=T.done X' eP eW eK eC i [] s5 τ5 H5 (fun _ _=>False) I5 (fC fr5) t5 stop;rw[eA] at hd;refine thn hd fun r s6 ⟨hr,I6⟩=>?_
   subst hr;have hbase:Un (frs X.stack) fp (upd H2 s2.heap.objs.size (.lst [])) H5 s3.heap s6.heap:=by have:=I6.base;rw[← hX'] at this;exact this
   have hok6:HOk X.prog X.w H5 s6.heap:=by have:=I6.hok;rw[eP,eW] at this;exact this
   have os6:s6.os=s3.os:=by have:=I6.os;rw[← hX'] at this;exact this
   obtain⟨m6,n6,_⟩:=I6.loc;have n6:s6.heap.Ns s3.heap.objs.size m6:=by rw[eE] at n6;exact n6
   have free6:H5 s3.heap.objs.size=none:=by have:=I6.free;rw[eE] at this;exact this
   refine hRR s3.heap.objs.size H5 s6 m6 qn n6 (I3.call' os6 hbase hok6 I6.bare fun b hb=>⟨(f3 b hb).2.2.2.1,(f3 b hb).2.1,(f3 b hb).2.2.2.2.1,(f3 b hb).2.2.2.2.2⟩) ⟨free6,?_,I3.sz,?_,?_⟩
   ·exact (Nat.ne_of_lt I3.lt).symm
   ·intro x c e z;obtain⟨v,hv⟩:=I3.cell x c e;have:=hv.lt;rw[z] at this;exact Nat.lt_irrefl _ this
   ·intro p hp z;have:=Heap.lt_size (I3.pin p hp).1;rw[z] at this;exact Nat.lt_irrefl _ this
  ·have hi:=T.item X' eP eW eK eC i [] s5 τ5 H5 (fun _ _=>False) I5 (fC fr5) t5 go;rw[eA] at hi;refine thn hi fun r s6 ⟨u,hr,h6⟩=>?_
   subst hr;refine thn h6 fun _ s7 ⟨x,H7,I7,r7,y7,t7,fr7⟩=>?_
   have I7':=I7.pinned (fC fr7) (T.obj _ _ t7);have again:∀ {τ:St} {H':Hp} {s':Shared},Inv X' ([]++pinsAt fp s7.heap) τ H' s'→N τ H'→∃ m,m<n∧∃ i τ H',Inv X' [] τ H' s'∧tn i s'.heap∧(∀ b∈fp,H' b=none)∧W i m τ H':=fun {τ H' s'} I8 n8=>by
    obtain⟨m',hm,w8⟩:=hN τ H' n8;refine⟨m',hm,i+1,τ,H',I8.unpinned,T.keep _ _ _ t7 fun b hb o e=>(I8.pin (b,o) (List.mem_append_right _ (List.mem_append_right _ (mem_pinsAt hb e)))).1,fun b hb=>?_,w8⟩;obtain⟨o,e,d⟩:=T.obj _ _ t7 b hb;exact (I8.pin (b,o) (List.mem_append_right _ (List.mem_append_right _ (mem_pinsAt hb e)))).2.1
   have hg:=bg _ s7 τ5 H7 x u _ I7' r7 (step x H7 y7);rw[eP,eW,eA,eX] at hg;refine thn hg fun _ s8 ⟨τ8,H8,I8,q8⟩=>?_
   have ht:=bt _ s8 τ8 H8 _ I8 q8;rw[eP,eW,eA,eX] at ht;refine thn ht fun ok s9 ⟨H9,I9,q9⟩=>?_
   cases ok with
   | false=>exact again I9 q9
   | true =>
    rw[if_pos rfl] at q9 ⊢;have hv:=be _ s9 τ8 H9 _ I9 q9;rw[eP,eW,eA,eX] at hv;refine thn hv fun y s10 ⟨v,H10,I10,r10,ys,hl,hlen,n10⟩=>?_
    have ha:=mt_append (X:=X') _ s10 τ8 H10 (.ref s2.heap.objs.size) [v] (.ref s2.heap.objs.size) [y] (fun _ H'=>N τ8 H') I10 rfl (.cons r10 .nil) ⟨_,_,_,rfl,rfl,hl,hlen,n10⟩;rw[eP,eW,eA,eX] at ha;exact thn ha fun _ s11 ⟨_,H11,I11,_,n11⟩=>again I11 n11
 have st4:tn 0 h₁:=T.keep _ _ _ st3 fun b _ o e=>k4 b o e
 show codeAny (model X.prog X.w) X.A (.compStart (.ListComp elt [⟨tg,iter,ifs,0⟩] scope pos) 0 (.ref it) (.ref s2.heap.objs.size) ({(newEnv scope s3.heap.objs.size X.env.globals (clo X.env scope.names []) X.env.qual none .none (some X.env) builtinsNs) with scope:=relabel scope X.env}:Env)) (RR (.ref s2.heap.objs.size) s3.heap.objs.size) _;rw[cenvE];exact codeAny_compStart_list (loop _ I4 st4) (T.self X.A 0 _ _ _ st4 (loop _ I4 st4))
theorem clo_ok {pins:List (Addr×Obj)}{σ:St}{H:Hp}{s:Shared}(I:Inv X pins σ H s)(hc:CompOk scope X.env.scope):closureFor scope X.env=pure (clo X.env scope.names []) :=
 closure_clo fun y hy e=>I.ok.has y.1 (hc.free y hy e)
theorem pe_lcomp (hcalm:X.calm=true)(hc:compOk scope X.env.scope=true)(hfr:frOk X scope fr)(hi:PI X tg iter wi)(B:Blk X scope (own++fr.map (·.1)) tg ifs elt g tc te)
  (hs:∀ x,foldedSetIterable iter X.env x=pure x:=by intro _;rfl):PE X (.ListComp elt [⟨tg,iter,ifs,0⟩] scope pos) (tLC own fr wi g tc te):=by
 intro pins s σ H Q I h;have hc:=compOk_of hc;rw[eval_ListComp];refine wpAny_comprehension_free (use:=none) rfl hs (clo_ok I hc) hc.kind hc.loc (thn (hi pins s σ H _ I h) fun v s1 h1=>thn h1 fun itv s2 h2=>?_);obtain⟨it,fp,tn,J,H2,e,I2,T,st2,f2,hw⟩:=h2;subst e;refine lcomp_run (RR:=fun acc C=>compPost (model X.prog X.w) X.A X.xe none (EP X pins σ Q) acc C) hcalm hc hfr B I2 T st2 f2 (hw _ I2.fresh) ?_;intro C H' s' m q n I' f;exact⟨m,n,fun h' hs'=>⟨.ref s2.heap.objs.size,H',f.inv I' hs',rfl,q⟩⟩
theorem ps_setLC {i:Nat}{x:Str}{px spos:Pos}(hcalm:X.calm=true)(hN:X.N.Nodup)(hx:X.N[i]?=some x)(hl:X.env.scope.names.lookup x=some .local)(hsw:swapsWith (.ListComp elt [⟨tg,iter,ifs,0⟩] scope pos) (some (.Name x px)) spos.line X.env=pure true)
  (hc:compOk scope X.env.scope=true) (hfr:frOk X scope fr) (hi:PI X tg iter wi) (B:Blk X scope (own++fr.map (·.1)) tg ifs elt g tc te)
  (hs:∀ x,foldedSetIterable iter X.env x=pure x:=by intro _;rfl):PS X (.Assign [.Name x px] (.ListComp elt [⟨tg,iter,ifs,0⟩] scope pos) spos) (tAsg (tLC own fr wi g tc te) (gName i)):=by
 intro pins s σ H D I h;have hc:=compOk_of hc;rw[exec_Assign_Name_used _ _ _ _ hsw];refine wpAny_bind (wpAny_standAt (wpAny_bind ?_));show wpAny _ X.A (do let _ ← comprehension (.ListComp elt [⟨tg,iter,ifs,0⟩] scope pos) scope X.env _ (newList []) false (eval iter X.env) (some (assign (.Name x px) X.env))) _ _ s
 refine wpAny_bind (wpAny_mono (wpAny_comprehension_free (use:=some (assign (.Name x px) X.env)) (Q:=fun _ s'=>SP X pins D .next s') rfl hs (clo_ok I hc) hc.kind hc.loc
  (thn (hi pins s σ H _ I h) fun v s1 h1=>thn h1 fun itv s2 h2=>?_)) (fun _ s' hq=>wpAny_pure (wpAny_pure hq)) fun _ _ e=>e)
 obtain⟨it,fp,tn,J,H2,e,I2,T,st2,f2,hw⟩:=h2;subst e;refine lcomp_run (RR:=fun acc C=>compPost (model X.prog X.w) X.A X.xe (some (assign (.Name x px) X.env)) (fun _ s'=>SP X pins D .next s') acc C) hcalm hc hfr B I2 T st2 f2 (hw _ I2.fresh) ?_;intro C H' s' m q n I' f;show wpAny _ X.A (assign (.Name x px) X.env (.ref s2.heap.objs.size)) _ _ _;refine wpAny_assign_Name (store_ok2 I' hN hx (.inl hl) (v:=.ref s2.heap.objs.size) rfl (fun s'' I'' hch=>?_) (.inr hl));obtain⟨a,sb,ha⟩:=hch;have hCa:C≠a:=by
  rcases ha with ha | ha
  ·rw[ha];exact f.loc
  ·exact fun z=>f.cel x a ha z.symm
 exact⟨m,n.sameBut sb hCa,fun h' hs'=>⟨_,H',f.inv I'' hs',q⟩⟩
end
end L2
namespace L2
open PySem PySem.Spec PyProof.Rows
theorem dcomp_loop {prog:Program}{w:World}{A:Around}{R:Result→Shared→Prop}{s:Shared}{kx vx target iter:Expr}{ifs:List Expr}{scope:Scope}{pos:Pos}{it:Value}{D:Addr}{env:Env}(I:Nat→Shared→Prop)
  (turn:∀ n s,I n s→wpAny (model prog w) A (pyNext it) (fun r s₁=>match r with
   | none=>R (.ok .next) s₁
   | some v=>wpAny (model prog w) A (letOwnedTupleGo target it v) (fun _ s₁=>wpAny (model prog w) A (assign target env v) (fun _ s₂ =>
     wpAny (model prog w) A (forIn ifs true fun c r=>if r=true then do let ok ← isTrue c env (eval c env);pure (ForInStep.yield ok) else pure (ForInStep.yield r)) (fun ok s₃ =>
      if ok=true then wpAny (model prog w) A (eval kx env) (fun kv s₄=>wpAny (model prog w) A (eval vx env) (fun vv s₄ =>
       wpAny (model prog w) A (dictSet D kv vv) (fun _ s₅=>∃ m,m<n∧I m s₅) (fun _ _=>False) s₄) (fun _ _=>False) s₄) (fun _ _=>False) s₃
      else ∃ m,m<n∧I m s₃) (fun _ _=>False) s₂) (fun _ _=>False) s₁) (fun _ _=>False) s₁) (fun _ _=>False) s)
  (n:Nat) (h:I n s):codeAny (model prog w) A (.compLoop (.DictComp kx vx [⟨target,iter,ifs,0⟩] scope pos) 0 it (.ref D) env) R s:=by
 refine codeAny_loop rfl I (fun n s hI=>?_) n h;show wpAny _ A ((compTurn (.DictComp kx vx [⟨target,iter,ifs,0⟩] scope pos) 0 it (.ref D) env).onRaise (fun x=>do noteFrame x env;theTreesLotGoes x)) _ _ s;refine wpAny_noted ?_;rw[compTurn_dict];refine wpAny_bind (wpAny_standAt (wpAny_bind (wpAny_mono (turn n s hI) (fun r s₁ h₁=>?_) fun _ _ h'=>h'.elim)));cases r with
 | none=>exact wpAny_pure h₁
 | some v =>
  refine wpAny_bind (wpAny_mono h₁ (fun _ s₁ h₁=>?_) fun _ _ h'=>h'.elim);refine wpAny_bind (wpAny_mono h₁ (fun _ s₂ h₂=>wpAny_bind (wpAny_mono h₂ (fun ok s₃ h₃=>?_) fun _ _ h'=>h'.elim)) fun _ _ h'=>h'.elim);cases ok with
  | false=>exact wpAny_pure ⟨rfl,h₃⟩
  | true =>
   exact wpAny_bind (wpAny_bind (wpAny_mono h₃ (fun kv s₄ h₄=>wpAny_bind (wpAny_holding (wpAny_mono h₄ (fun vv s₅ h₅=>wpAny_bind (wpAny_standAt (wpAny_holding (wpAny_mono h₅ (fun _ s₆ h₆=>wpAny_pure ⟨rfl,h₆⟩) fun _ _ h'=>h'.elim)))) fun _ _ h'=>h'.elim))) fun _ _ h'=>h'.elim))
theorem d_dictSet {X:Cx}{pins:List (Addr×Obj)}{σ:St}{H:Hp}{s:Shared}{a:Addr}{y v:V}{u r:Value}{A:Around}{E:Value→Shared→Prop}{H':Hp}{Q:Unit→Shared→Prop}(hu:A.units+1<cLine)(I:Inv X pins σ H s)(g:DPut H a y v H')(ry:RelV y u)(rv:RelV v r)(h:∀ s',Inv X pins σ H' s'→Q () s') :
  wpAny (model X.prog X.w) A (dictSet a u r) Q E s:=by
 rcases g with ⟨kvs,k,e,ey,l,eH⟩ | ⟨kvs,k,b,e,ey,eb,l,eH⟩
 ·subst ey eH;obtain⟨z,hd,vs,rel,dd⟩:=dk_of I.hok e;have hz:vs.length≤sizeLine:=by rw[← rel.length];exact z
  have hl:(putK kvs k v).length≤sizeLine:=by have:=length_putK kvs k v;omega
  refine wpAny_dictSet_pairs (hsz:=hz) (kV_is ry) dd fun h' dd' hs=>h _ ?_
  have he:∃ q,h'.get? a=some q:=let ⟨q,_,_,hq,_⟩:=dd';⟨q,hq⟩;exact d_write I (by rw[e];exact True.intro) hs he (dk_new hl hd (rel.put k rv) dd')
 ·subst ey eH;cases (show u=Value.ref b from ry);obtain⟨z,hd,xs,rel,dd⟩:=dt_of I.hok e;have hz:xs.length≤sizeLine:=by rw[← Paired.length rel];exact z
  have hl:(putK kvs k v).length≤sizeLine:=by have:=length_putK kvs k v;omega
  refine wpAny_dictSet_heap (hsz:=hz) (show (tupleKind (mixKind X.prog X.w)).room A from Nat.lt_of_succ_lt hu) (key_of I.hok eb) dd fun h' dd' hs=>h _ ?_
  obtain⟨q,es,ep,hq,h2,h3,h4,_,h5⟩:=dd';refine d_write I (by rw[e];exact True.intro) hs ⟨q,hq⟩ ⟨hl,hd,_,(rel.put k eb rv).keeps fun c ys ec=>?_,q,es,ep,hq,h2,h3,h4,h5⟩;rw[upd_ne (ne_of ec e (fun z=>nomatch z))];exact ec
def dNew:Bool→HO
 | true=>.dT []
 | false=>.dK []
theorem dnew_ok {P:Program}{w:World}{H:Hp}(h:Heap)(hb:sysModules<h.objs.size):∀ t,ObjOk P w H (h.push {cls:=.type "dict",data:=.dict #[]}) h.objs.size (dNew t)
 | true=>dt_empty h hb
 | false=>dk_empty h hb
def dcW (g:TG)(tc:TT)(te tv:TE)(p:Addr)(J:It)(τ0:St)(H0:Hp)(E:Hp→Prop):Prop :=
 ∃ W:Nat→Nat→St→Hp→Prop,(∃ m,W 0 m τ0 H0)∧∀ i m τ H,W i m τ H →
  (J.stop i H∧E H)∨(J.go i H∧∃ N:St→Hp→Prop,(∀ τ' H',N τ' H'→∃ m',m'<m∧W (i+1) m' τ' H') ∧
   ∀ x H',J.yld i H x H'→g x τ H' fun τ2 H2=>tc τ2 H2 fun b H3=>if b=true then te τ2 H3 fun k H4=>tv τ2 H4 fun v H5=>∃ H6,DPut H5 p k v H6∧N τ2 H6 else N τ2 H3)
def tDC (t:Bool)(own:List Str)(fr:List (Str×Nat))(wi:TI)(g:TG)(tc:TT)(te tv:TE):TE:=fun σ H Q =>
 wi σ H fun J H1=>∀ p,H1 p=none→dcW g tc te tv p J (st0 own fr σ) (upd H1 p (dNew t)) fun H2=>Q (.ref p) H2
section
variable {X:Cx}{kx vx tg iter:Expr}{ifs:List Expr}{scope:Scope}{pos:Pos}{own:List Str}{fr:List (Str×Nat)}{wi:TI}{g:TG}{tc:TT}{te tv:TE}
structure BlkD (X:Cx)(scope:Scope)(N':List Str)(tg:Expr)(ifs:List Expr)(kx vx:Expr)(g:TG)(tc:TT)(te tv:TE):Prop where
 run:∀ pins fp s H,PG (cxC X scope N' pins fp s H) tg g∧PTs (cxC X scope N' pins fp s H) ifs tc∧PE (cxC X scope N' pins fp s H) kx te∧PE (cxC X scope N' pins fp s H) vx tv
theorem dcomp_run {pins:List (Addr×Obj)}{σ:St}{H2:Hp}{s2:Shared}{it:Addr}{fp:List Addr}{tn:Nat→Heap→Prop}{J:It}{EE:Hp→Prop}{RR:Value→Addr→Result→Shared→Prop}{E:Value→Shared→Prop}
  (t:Bool) (hu:X.A.units+1<cLine) (hcalm:X.calm=true) (hc:CompOk scope X.env.scope) (hfr:frOk X scope fr) (B:BlkD X scope (own++fr.map (·.1)) tg ifs kx vx g tc te tv)
  (I2:Inv X pins σ H2 s2) (T:Turn X.prog X.w X.K tg J fp it tn) (st2:tn 0 s2.heap) (f2:∀ b∈fp,FpOk X pins H2 b)
  (hw:dcW g tc te tv s2.heap.objs.size J (st0 own fr σ) (upd H2 s2.heap.objs.size (dNew t)) EE)
  (hRR:∀ C H' s' m,EE H'→s'.heap.Ns C m→Inv X pins σ H' s'→CFree X pins H' C→RR (.ref s2.heap.objs.size) C (.ok .next) s') :
  wpAny (model X.prog X.w) X.A newDict (fun acc s₃=>wpAny (model X.prog X.w) X.A (newFunctionEnv scope X.env.globals (clo X.env scope.names []) [] X.env.qual none .none (some X.env)) (fun cenv s₄ =>
   codeAny (model X.prog X.w) X.A (.compStart (.DictComp kx vx [⟨tg,iter,ifs,0⟩] scope pos) 0 (.ref it) acc {cenv with scope:=relabel scope X.env}) (RR acc cenv.locals) s₄) E s₃) E s2:=by
 have I3:Inv X pins σ (upd H2 s2.heap.objs.size (dNew t)) {s2 with heap:=s2.heap.push {cls:=.type "dict",data:=.dict #[]},toks:=s2.toks}:=I2.laid (t':=s2.toks) (fun _ _ q=>Heap.get?_push_of_some _ q) (Nat.le_refl _) (dnew_ok s2.heap I2.big t);generalize hs3:({s2 with heap:=s2.heap.push {cls:=.type "dict",data:=.dict #[]},toks:=s2.toks}:Shared)=s3 at I3;have hsz3:s3.heap.objs.size=s2.heap.objs.size+1:=by rw[← hs3];exact Heap.size_push ..
 have k3:∀ b o,s2.heap.get? b=some o→s3.heap.get? b=some o:=fun b o e=>by rw[← hs3];exact Heap.get?_push_of_some _ e
 have hlt:∀ b∈fp,b<s2.heap.objs.size:=fun b hb=>let ⟨o,e,_⟩:=T.obj _ _ st2 b hb;Heap.lt_size e
 have f3:∀ b∈fp,FpOk X pins (upd H2 s2.heap.objs.size (dNew t)) b:=fun b hb=>⟨by rw[upd_ne (Nat.ne_of_lt (hlt b hb))];exact (f2 b hb).1,(f2 b hb).2⟩
 have st3:tn 0 s3.heap:=T.keep _ _ _ st2 fun b _ o e=>k3 b o e
 refine wpAny_newObj_type ?_;have e3:({s2 with heap:=s2.heap.push {cls:=.type "dict",dict:=none,data:=.dict #[]}}:Shared)=s3:=hs3;rw[e3];refine wpAny_newFunctionEnv hc.noCell (by intro y hy;cases hy) (fun h₁ hns₁ hsb₁=>?_) hc.kind;have k4:∀ b o,s3.heap.get? b=some o→h₁.get? b=some o:=fun b o e=>hsb₁.extBut b o (Nat.ne_of_lt (Heap.lt_size e)) (Heap.get?_push_of_some _ e)
 have I4:=inv_comp (own:=own) I3 hc hcalm f3 (fun b hb=>Nat.lt_of_lt_of_le (hlt b hb) (by rw[hsz3];exact Nat.le_succ _)) hfr hns₁ k4;obtain⟨bg,bt,be,bv⟩:=B.run pins fp s3 (upd H2 s2.heap.objs.size (dNew t));generalize hX':cxC X scope (own++fr.map (·.1)) pins fp s3 (upd H2 s2.heap.objs.size (dNew t))=X' at I4 bg bt be bv;have eP:X'.prog=X.prog:=by rw[← hX'];rfl
 have eW:X'.w=X.w:=by rw[← hX'];rfl
 have eK:X'.K=X.K:=by rw[← hX'];rfl
 have eA:X'.A=X.A:=by rw[← hX'];rfl
 have eC:X'.calm=true:=by rw[← hX'];rfl
 have eX:X'.xe=fun _ _=>False:=by rw[← hX'];rfl
 have eE:X'.env=compEnvC scope (clo X.env scope.names []) s3.heap.objs.size X.env:=by rw[← hX'];rfl
 have fC:∀ {H':Hp},(∀ b∈fp,H' b=none)→∀ b∈fp,FpOk X' [] H' b:=fun hn b hb=>by
  have hb':=f3 b hb;refine⟨hn b hb,?_,?_,?_,?_,?_⟩
  ·exact (I4.ok.exf b (by rw[← hX'];exact hb)).1
  ·exact I4.ok.exfs b (by rw[← hX'];exact hb)
  ·left;rw[← hX'];exact hb
  ·exact (I4.ok.exf b (by rw[← hX'];exact hb)).2
  ·intro p hp;have hp:p∈X.pn++pins:=by
    rw[← hX'] at hp;rcases List.mem_append.mp hp with q | q
    ·exact q
    ·cases q
   exact hb'.2.2.2.2.2 p hp
 obtain⟨W,⟨m0,w0⟩,turn⟩:=hw;have cenvE:({(newEnv scope s3.heap.objs.size X.env.globals (clo X.env scope.names []) X.env.qual none .none (some X.env) builtinsNs) with scope:=relabel scope X.env}:Env)=X'.env:=by rw[eE];rfl
 have loop:∀ s4:Shared,Inv X' [] (st0 own fr σ) (upd H2 s2.heap.objs.size (dNew t)) s4→tn 0 s4.heap →
   codeAny (model X.prog X.w) X.A (.compLoop (.DictComp kx vx [⟨tg,iter,ifs,0⟩] scope pos) 0 (.ref it) (.ref s2.heap.objs.size) X'.env) (RR (.ref s2.heap.objs.size) s3.heap.objs.size) s4:=by
  intro s4 J4 t4;refine dcomp_loop (fun n s'=>∃ i τ H',Inv X' [] τ H' s'∧tn i s'.heap∧(∀ b∈fp,H' b=none)∧W i n τ H') ?_ m0 ⟨0,_,_,J4,t4,fun b hb=>(f3 b hb).1,w0⟩;rintro n s5 ⟨i,τ5,H5,I5,t5,fr5,w5⟩;rcases turn i n τ5 H5 w5 with ⟨stop,qn⟩ | ⟨go,N,hN,step⟩
  ·have hd:=T.done X' eP eW eK eC i [] s5 τ5 H5 (fun _ _=>False) I5 (fC fr5) t5 stop;rw[eA] at hd;refine thn hd fun r s6 ⟨hr,I6⟩=>?_
   subst hr;have hbase:Un (frs X.stack) fp (upd H2 s2.heap.objs.size (dNew t)) H5 s3.heap s6.heap:=by have:=I6.base;rw[← hX'] at this;exact this
   have hok6:HOk X.prog X.w H5 s6.heap:=by have:=I6.hok;rw[eP,eW] at this;exact this
   have os6:s6.os=s3.os:=by have:=I6.os;rw[← hX'] at this;exact this
   obtain⟨m6,n6,_⟩:=I6.loc;have n6:s6.heap.Ns s3.heap.objs.size m6:=by rw[eE] at n6;exact n6
   have free6:H5 s3.heap.objs.size=none:=by have:=I6.free;rw[eE] at this;exact this
   refine hRR s3.heap.objs.size H5 s6 m6 qn n6 (I3.call' os6 hbase hok6 I6.bare fun b hb=>⟨(f3 b hb).2.2.2.1,(f3 b hb).2.1,(f3 b hb).2.2.2.2.1,(f3 b hb).2.2.2.2.2⟩) ⟨free6,?_,I3.sz,?_,?_⟩
   ·exact (Nat.ne_of_lt I3.lt).symm
   ·intro x c e z;obtain⟨v,hv⟩:=I3.cell x c e;have:=hv.lt;rw[z] at this;exact Nat.lt_irrefl _ this
   ·intro p hp z;have:=Heap.lt_size (I3.pin p hp).1;rw[z] at this;exact Nat.lt_irrefl _ this
  ·have hi:=T.item X' eP eW eK eC i [] s5 τ5 H5 (fun _ _=>False) I5 (fC fr5) t5 go;rw[eA] at hi;refine thn hi fun r s6 ⟨u,hr,h6⟩=>?_
   subst hr;refine thn h6 fun _ s7 ⟨x,H7,I7,r7,y7,t7,fr7⟩=>?_
   have I7':=I7.pinned (fC fr7) (T.obj _ _ t7);have again:∀ {τ:St} {H':Hp} {s':Shared},Inv X' ([]++pinsAt fp s7.heap) τ H' s'→N τ H'→∃ m,m<n∧∃ i τ H',Inv X' [] τ H' s'∧tn i s'.heap∧(∀ b∈fp,H' b=none)∧W i m τ H':=fun {τ H' s'} I8 n8=>by
    obtain⟨m',hm,w8⟩:=hN τ H' n8;refine⟨m',hm,i+1,τ,H',I8.unpinned,T.keep _ _ _ t7 fun b hb o e=>(I8.pin (b,o) (List.mem_append_right _ (List.mem_append_right _ (mem_pinsAt hb e)))).1,fun b hb=>?_,w8⟩;obtain⟨o,e,d⟩:=T.obj _ _ t7 b hb;exact (I8.pin (b,o) (List.mem_append_right _ (List.mem_append_right _ (mem_pinsAt hb e)))).2.1
   have hg:=bg _ s7 τ5 H7 x u _ I7' r7 (step x H7 y7);rw[eP,eW,eA,eX] at hg;refine thn hg fun _ s8 ⟨τ8,H8,I8,q8⟩=>?_
   have ht:=bt _ s8 τ8 H8 _ I8 q8;rw[eP,eW,eA,eX] at ht;refine thn ht fun ok s9 ⟨H9,I9,q9⟩=>?_
   cases ok with
   | false=>exact again I9 q9
   | true =>
    rw[if_pos rfl] at q9 ⊢;have hv:=be _ s9 τ8 H9 _ I9 q9;rw[eP,eW,eA,eX] at hv;refine thn hv fun ky s10 ⟨kk,H10,I10,r10,q10⟩=>?_
    have hv:=bv _ s10 τ8 H10 _ I10 q10;rw[eP,eW,eA,eX] at hv;refine thn hv fun y s11 ⟨v,H11,I11,r11,H12,dp,n12⟩=>?_
    have ha:=d_dictSet (A:=X.A) (E:=fun _ _=>False) (Q:=fun _ s12=>Inv X' ([]++pinsAt fp s7.heap) τ8 H12 s12) hu I11 dp r10 r11 fun s12 I12=>I12
    rw[eP,eW] at ha;exact thn ha fun _ s12 I12=>again I12 n12
 have st4:tn 0 h₁:=T.keep _ _ _ st3 fun b _ o e=>k4 b o e
 show codeAny (model X.prog X.w) X.A (.compStart (.DictComp kx vx [⟨tg,iter,ifs,0⟩] scope pos) 0 (.ref it) (.ref s2.heap.objs.size) ({(newEnv scope s3.heap.objs.size X.env.globals (clo X.env scope.names []) X.env.qual none .none (some X.env) builtinsNs) with scope:=relabel scope X.env}:Env)) (RR (.ref s2.heap.objs.size) s3.heap.objs.size) _;rw[cenvE];exact codeAny_compStart_dict (loop _ I4 st4) (T.self X.A 0 _ _ _ st4 (loop _ I4 st4))
theorem ps_setDC {i:Nat}{x:Str}{px spos:Pos}(t:Bool)(hu:X.A.units+1<cLine)(hcalm:X.calm=true)(hN:X.N.Nodup)(hx:X.N[i]?=some x)(hl:X.env.scope.names.lookup x=some .local)(hsw:swapsWith (.DictComp kx vx [⟨tg,iter,ifs,0⟩] scope pos) (some (.Name x px)) spos.line X.env=pure true)
  (hc:compOk scope X.env.scope=true) (hfr:frOk X scope fr) (hi:PI X tg iter wi) (B:BlkD X scope (own++fr.map (·.1)) tg ifs kx vx g tc te tv)
  (hs:∀ x,foldedSetIterable iter X.env x=pure x:=by intro _;rfl):PS X (.Assign [.Name x px] (.DictComp kx vx [⟨tg,iter,ifs,0⟩] scope pos) spos) (tAsg (tDC t own fr wi g tc te tv) (gName i)):=by
 intro pins s σ H D I h;have hc:=compOk_of hc;rw[exec_Assign_Name_used _ _ _ _ hsw];refine wpAny_bind (wpAny_standAt (wpAny_bind ?_));show wpAny _ X.A (do let _ ← comprehension (.DictComp kx vx [⟨tg,iter,ifs,0⟩] scope pos) scope X.env _ newDict false (eval iter X.env) (some (assign (.Name x px) X.env))) _ _ s
 refine wpAny_bind (wpAny_mono (wpAny_comprehension_free (use:=some (assign (.Name x px) X.env)) (Q:=fun _ s'=>SP X pins D .next s') rfl hs (clo_ok I hc) hc.kind hc.loc
  (thn (hi pins s σ H _ I h) fun v s1 h1=>thn h1 fun itv s2 h2=>?_)) (fun _ s' hq=>wpAny_pure (wpAny_pure hq)) fun _ _ e=>e)
 obtain⟨it,fp,tn,J,H2,e,I2,T,st2,f2,hw⟩:=h2;subst e;refine dcomp_run (RR:=fun acc C=>compPost (model X.prog X.w) X.A X.xe (some (assign (.Name x px) X.env)) (fun _ s'=>SP X pins D .next s') acc C) t hu hcalm hc hfr B I2 T st2 f2 (hw _ I2.fresh) ?_;intro C H' s' m q n I' f;show wpAny _ X.A (assign (.Name x px) X.env (.ref s2.heap.objs.size)) _ _ _;refine wpAny_assign_Name (store_ok2 I' hN hx (.inl hl) (v:=.ref s2.heap.objs.size) rfl (fun s'' I'' hch=>?_) (.inr hl));obtain⟨a,sb,ha⟩:=hch;have hCa:C≠a:=by
  rcases ha with ha | ha
  ·rw[ha];exact f.loc
  ·exact fun z=>f.cel x a ha z.symm
 exact⟨m,n.sameBut sb hCa,fun h' hs'=>⟨_,H',f.inv I'' hs',q⟩⟩
end
end L2
end
section
namespace Srt
open PySem PyProof.Rows
section
variable {prog:Program}{w:World}{A:Around}{E:Value→Shared→Prop}{s:Shared}{O:KeyOrd}{key:Value→O.α}{knd:SortKind}
def Asks (prog:Program)(w:World)(A:Around)(O:KeyOrd)(key:Value→O.α)(knd:SortKind)(vs:List Value)(s:Shared):Prop :=
 (2≤vs.length→∀ (E:Value→Shared→Prop) (Q:SortKind→Shared→Prop),Q knd s→wpAny (model prog w) A (keyKind' vs.toArray) Q E s) ∧
 ∀ x∈vs,∀ y∈vs,∀ (E:Value→Shared→Prop) (Q:Bool→Shared→Prop),Q (O.blt (key x) (key y)) s→wpAny (model prog w) A (keyLt' knd x y) Q E s
theorem mem_pairs {vs:List Value}{p:Keyed}(h:p∈(pairsOf vs).toList):p.1∈vs∧p.1=p.2:=by
 rw[pairsOf_toList] at h;obtain⟨i,hi⟩:=List.mem_iff_getElem?.mp h;rw[List.getElem?_zip_eq_some] at hi;refine⟨List.mem_iff_getElem?.mpr ⟨i,hi.1⟩,?_⟩;have:=hi.1.symm.trans hi.2;exact Option.some.inj this
theorem cmp_of {vs:List Value}(h:Asks prog w A O key knd vs s):Ts.Cmp (model prog w) A E s knd O (fun p=>key p.1) (pairsOf vs):=by
 intro p hp q hq st Q hk hQ;rw[lt'_eq];refine wpS_bind (wpS_get ?_);rw[hk];refine wpS_bind (wpS_lift (wpAny_attempt (h.2 p.1 (mem_pairs hp).1 q.1 (mem_pairs hq).1 _ _ ⟨rfl,?_⟩)));exact wpS_pure hQ
theorem out_of {vs:List Value}{xs:Array Keyed}(hp:xs.Perm (pairsOf vs))(hs:Ts.Seg (O:=O) (fun p=>key p.1) xs 0 (pairsOf vs).size) :
  (xs.map (·.2)).toList.Perm vs∧(xs.map (·.2)).toList.Pairwise fun x y=>O.kle (key x) (key y):=by
 have hp':=Array.perm_iff_toList_perm.mp hp;have hsz:xs.size=(pairsOf vs).size:=hp.size_eq;rw[Array.toList_map];refine⟨?_,?_⟩
 ·refine (hp'.map _).trans ?_;rw[pairsOf_toList,show (vs.zip vs).map (·.2)=vs from List.map_snd_zip (Nat.le_refl _)]
 ·rw[List.pairwise_map];rw[← hsz] at hs;refine (Ts.pw_of_seg hs).imp_of_mem fun {a b} ha hb hab=>?_
  have e1:=(mem_pairs (hp'.mem_iff.mp ha)).2;have e2:=(mem_pairs (hp'.mem_iff.mp hb)).2;rw[← e1,← e2];exact hab
theorem list_sort_any {a:Addr}{vs:List Value}{n:Nat}{P:Fin→Shared→Prop}(ho:s.heap.get? a=some (seqObj "list" vs.toArray n))(h64:vs.length<64)
  (hA:∀ s':Shared,(∀ b o,b≠a→s.heap.get? b=some o→s'.heap.get? b=some o)→Asks prog w A O key knd vs s')
  (h:∀ out:Array Value,out.toList.Perm vs→(out.toList.Pairwise fun x y=>O.kle (key x) (key y))→P (.done (.ret .none)) {s with heap:=sortedHeap s.heap a vs out}) :
  wpAny (model prog w) A (Builtin.«list.sort» ⟨[.ref a],[]⟩) P E s:=by
 rw[list_sort_plain];have hz:vs.length≤sizeLine:=Nat.le_trans (Nat.le_of_lt h64) (by decide);have ha:a<s.heap.objs.size:=Heap.lt_size ho;have hsz:vs.toArray.size=vs.length:=by simp
 refine wpAny_bind (listItems_at ho rfl ?_);refine wpAny_bind (listUpdate_at ho rfl ?_ (hsz:=by rw[hsz];exact hz));obtain⟨e1,ho1⟩:∃ e1,(s.heap.update a (Obj.mapSeq fun _=>#[])).get? a=some (seqObj "list" #[] e1):=⟨_,get?_update_seq ho (fun _=>#[])⟩
 refine wpAny_bind (seqEpoch_at ho1 rfl ?_);refine wpAny_bind (wpAny_newTuple ?_ (by simpa using hz));refine wpAny_bind (wpAny_newList ?_);refine wpAny_holding ?_;have ho6:(((s.heap.update a (Obj.mapSeq fun _=>#[])).push (seqObj "tuple" vs.toArray 0)).push (seqObj "list" #[] 0)).get? a=some (seqObj "list" #[] e1):=by
  rw[Heap.get?_push_ne _ _ _ (by rw[size_push',Heap.size_update];exact Nat.ne_of_lt (Nat.lt_succ_of_lt ha)),Heap.get?_push_ne _ _ _ (by rw[Heap.size_update];exact Nat.ne_of_lt ha)];exact ho1
 have keep:∀ b o,b≠a→s.heap.get? b=some o→(((s.heap.update a (Obj.mapSeq fun _=>#[])).push (seqObj "tuple" vs.toArray 0)).push (seqObj "list" #[] 0)).get? b=some o:=fun b o hb e =>
  Heap.get?_push_of_some _ (Heap.get?_push_of_some _ ((Heap.SameBut.update ..).extBut b o hb e))
 show wpAny (model prog w) A _ P E {s with heap:=((s.heap.update a (Obj.mapSeq fun _=>#[])).push (seqObj "tuple" vs.toArray 0)).push (seqObj "list" #[] 0)};dsimp only;have hA':=hA {s with heap:=((s.heap.update a (Obj.mapSeq fun _=>#[])).push (seqObj "tuple" vs.toArray 0)).push (seqObj "list" #[] 0)} keep;by_cases h2:vs.toArray.size<2
 ·rw[if_pos h2,if_pos h2];refine wpAny_bind (wpAny_pure ?_);rw[StateT.run_pure];refine wpAny_bind (wpAny_pure ?_);dsimp only;refine wpAny_bind (seqEpoch_at ho6 rfl ?_);refine wpAny_bind (listUpdate_at ho6 rfl ?_ (hsz2:=by rw[Array.size_map];show (pairsOf vs).size≤_;rw[pairsOf_size];omega));simp only[bne_self_eq_false,Bool.false_eq_true,if_false]
  have o:=out_of (O:=O) (key:=key) (vs:=vs) (Array.Perm.refl _) (fun i j h0 hij hj=>by
   rw[pairsOf_size] at hj;have:i=j:=by omega
   subst this;exact KeyOrd.kle_refl _)
  exact wpAny_pure (h _ o.1 o.2)
 ·rw[if_neg h2,if_neg h2];refine wpAny_bind (hA'.1 (by omega) _ _ ?_)
  refine wpAny_bind (wpAny_mono (Ts.wpS_sRs (O:=O) (key:=fun p=>key p.1) (a₀:=pairsOf vs) (knd:=knd) (st:=SortSt.mk' knd (vs.toArray.zip vs.toArray) #[] 7 none)
   (Q:=fun _ st'=>(arrOf st').Perm (pairsOf vs)∧failedOf st'=none∧Ts.Seg (O:=O) (fun p=>key p.1) (arrOf st') 0 (pairsOf vs).size)
   (cmp_of hA') ⟨Array.Perm.refl _,rfl,rfl⟩ rfl (by rw[pairsOf_size];omega) (by rw[pairsOf_size];exact h64) fun st' hB hS=>⟨hB.perm,hB.failed,hS⟩) ?_ fun _ _ e=>e)
  rintro⟨⟨⟩,st'⟩ s' ⟨rfl,hp,hf,hs⟩;dsimp only;refine wpAny_bind (seqEpoch_at ho6 rfl ?_);refine wpAny_bind (listUpdate_at ho6 rfl ?_ (hsz2:=by refine Nat.le_trans (Nat.le_of_eq ((Array.size_map ..).trans (hp.size_eq.trans (pairsOf_size _)))) ?_;omega));rw[hf];simp only[bne_self_eq_false,Bool.false_eq_true,if_false];have o:=out_of hp hs;exact wpAny_pure (h _ o.1 o.2)
def Coll (prog:Program)(w:World)(A:Around)(r:Addr)(s:Shared)(C:List Value→Prop):Prop :=
 ∀ (E:Value→Shared→Prop) (R:List Value→Shared→Prop),(∀ (h':Heap) (tk:Nat) (vs:List Value),(∀ b o,s.heap.get? b=some o→h'.get? b=some o)→C vs→R vs {s with heap:=h',toks:=tk})→wpAny (model prog w) A (collect (.ref r)) R E s
theorem sorted_any {r:Addr}{C:List Value→Prop}{Q:Value→Shared→Prop}(hc:Coll prog w A.in1 r s C)(hz:∀ vs,C vs→vs.length<64)
  (hA:∀ (vs:List Value) (s':Shared),C vs→(∀ b o,s.heap.get? b=some o→s'.heap.get? b=some o)→Asks prog w A.in1.in1 O key knd vs s')
  (h:∀ (vs out:List Value) (h1 h':Heap) (tk n:Nat),C vs→out.Perm vs→(out.Pairwise fun x y=>O.kle (key x) (key y))→(∀ b o,s.heap.get? b=some o→h1.get? b=some o)→(∀ b o,h1.get? b=some o→h'.get? b=some o) →
   h'.get? h1.objs.size=some (seqObj "list" out.toArray n)→Q (.ref h1.objs.size) {s with heap:=h',toks:=tk}):wpAny (model prog w) A (call (.builtin "sorted") [.ref r]) Q E s:=by
 refine Calls.call_function_entry kind_sorted plain_sorted entry_sorted (args_sorted1 _) ?_;unfold Builtin.«sorted»;refine wpAny_bind (m:=checkCount "sorted" 1 1 _) (wpAny_pure ?_);refine wpAny_bind (hc _ _ fun h1 tk vs hk hC=>?_);refine wpAny_bind (wpAny_newList ?_ (by simpa using Nat.le_trans (Nat.le_of_lt (hz vs hC)) (by decide)));have hoL:(h1.push (seqObj "list" vs.toArray 0)).get? h1.objs.size=some (seqObj "list" vs.toArray 0):=Heap.get?_push_size _ rfl;refine wpAny_bind (wpAny_holding (wpAny_call_entry slot_list_sort ⟨_,hoL,rfl⟩ entry_list_sort (list_sort_any (O:=O) (key:=key) (knd:=knd) hoL (hz vs hC) (fun s' hs'=>hA vs s' hC fun b o e=>?_) fun out hp hs=>⟨_,rfl,?_⟩) (args_list_sort _)))
 ·exact hs' b o (Nat.ne_of_lt (Heap.lt_size (hk b o e))) (Heap.get?_push_of_some _ (hk b o e))
 ·refine wpAny_pure ⟨_,rfl,?_⟩;obtain⟨n',hn'⟩:∃ n',(sortedHeap (h1.push (seqObj "list" vs.toArray 0)) h1.objs.size vs out).get? h1.objs.size=some (seqObj "list" out n'):=by
   first | exact sortedHeap_at hoL | exact⟨_,sortedHeap_at hoL⟩
  refine h vs out.toList h1 _ tk n' hC hp hs hk (fun b o e=>?_) ?_
  ·have hb:b≠h1.objs.size:=Nat.ne_of_lt (Heap.lt_size e);have hlt:b<(h1.push (seqObj "list" vs.toArray 0)).objs.size:=by rw[size_push'];exact Nat.lt_succ_of_lt (Heap.lt_size e)
   rw[sortedHeap_old hb hlt];exact Heap.get?_push_of_some _ e
  ·rw[Array.toArray_toList];exact hn'
def intOrd:KeyOrd where
 α:=Int
 blt:=fun a b=>decide (a<b)
 irrefl:=fun a=>by simp
 trans:=fun a b c h1 h2=>by simp at *;omega
 negTrans:=fun a b c h=>by simp at *;omega
 total:=fun a b h1 h2=>by simp at *;omega
def intKey:Value→Int
 | .int i _=>i
 | _=>0
theorem lex_irrefl:∀ a:List Int,HT.lexLt a a=false
 | []=>rfl
 | x::r=>by rw[HT.lexLt_cons,if_pos rfl];exact lex_irrefl r
theorem lex_trans:∀ a b c:List Int,HT.lexLt a b=true→HT.lexLt b c=true→HT.lexLt a c=true
 | [],[],_,h,_=>by cases h
 | [],_::_,[],_,h=>by cases h
 | [],_::_,_::_,_,_=>rfl
 | _::_,[],_,h,_=>by cases h
 | _::_,_::_,[],_,h=>by cases h
 | x::a,y::b,z::c,h1,h2=>by
  rw[HT.lexLt_cons] at h1 h2 ⊢;by_cases e1:x=y
  ·rw[if_pos e1] at h1;subst e1;by_cases e2:x=z
   ·rw[if_pos e2] at h2 ⊢;exact lex_trans a b c h1 h2
   ·rw[if_neg e2] at h2 ⊢;exact h2
  ·rw[if_neg e1] at h1;by_cases e2:y=z
   ·rw[if_pos e2] at h2;subst e2;rw[if_neg e1];exact h1
   ·rw[if_neg e2] at h2;simp at h1 h2;rw[if_neg (by omega)];simp;omega
theorem lex_total:∀ a b:List Int,HT.lexLt a b=false→HT.lexLt b a=false→a=b
 | [],[],_,_=>rfl
 | [],_::_,h,_=>by cases h
 | _::_,[],_,h=>by cases h
 | x::a,y::b,h1,h2=>by
  rw[HT.lexLt_cons] at h1 h2;by_cases e:x=y
  ·subst e;rw[if_pos rfl] at h1 h2;rw[lex_total a b h1 h2]
  ·rw[if_neg e] at h1;rw[if_neg (fun z=>e z.symm)] at h2;simp at h1 h2;omega
def lexOrd:KeyOrd where
 α:=List Int
 blt:=HT.lexLt
 irrefl:=lex_irrefl
 trans:=lex_trans
 negTrans:=fun a b c h=>by
  cases h1:HT.lexLt a b with
  | true=>exact .inl rfl
  | false =>
   right;cases h2:HT.lexLt b a with
   | true=>exact lex_trans b a c h2 h
   | false=>rw[← lex_total a b h1 h2];exact h
 total:=lex_total
theorem asks_ints {vs:List Value}{ns:List Int}(hI:IntsAre vs ns):Asks prog w A intOrd intKey oneType' vs s:=by
 refine⟨fun h2 E Q hq=>?_,fun x hx y hy E Q hq=>?_⟩
 ·match vs,h2,hI with
  | v₁::v₂::rest,_,hI=>rw[keyKind_ints hI];exact wpAny_pure hq
 ·have key:∀ {vs:List Value} {ns:List Int},IntsAre vs ns→∀ x∈vs,∃ i t,x=Value.int i t:=by
   intro vs ns h;induction h with
   | nil=>intro x hx;cases hx
   | cons n t _ ih =>
    intro x hx;rcases List.mem_cons.mp hx with rfl | hx
    ·exact⟨n,t,rfl⟩
    ·exact ih x hx
  obtain⟨i,t,rfl⟩:=key hI x hx;obtain⟨j,u,rfl⟩:=key hI y hy;exact PySem.W.kat_lt_int hq
end
end Srt
namespace Srt
open PySem PyProof.Rows PySem.W
section
variable {prog:Program}{w:World}{A:Around}{E:Value→Shared→Prop}{s:Shared}
def TupInts (h:Heap)(v:Value)(ks:List Int):Prop:=∃ a o items n,v=.ref a∧h.get? a=some o∧o.cls=.type "tuple"∧o.data=.seq items n∧IntsAre items.toList ks∧ks≠[]
theorem TupInts.keep {h h':Heap}{v:Value}{ks:List Int}(t:TupInts h v ks)(k:∀ b o,h.get? b=some o→h'.get? b=some o):TupInts h' v ks :=
 let ⟨a,o,items,n,e,ho,r⟩:=t;⟨a,o,items,n,e,k _ _ ho,r⟩
def tupKey (h:Heap):Value→List Int
 | .ref a=>match h.get? a with
  | some o=>match o.data with
   | .seq items _=>items.toList.map intKey
   | _=>[]
  | none=>[]
 | _=>[]
theorem intKeys_of {us:List Value}{ns:List Int}(h:IntsAre us ns):us.map intKey=ns:=by
 induction h with
 | nil=>rfl
 | cons n t _ ih=>rw[List.map_cons,ih];rfl
theorem tupKey_of {h:Heap}{v:Value}{ks:List Int}(t:TupInts h v ks):tupKey h v=ks:=by
 obtain⟨a,o,items,n,rfl,ho,hc,hd,hi,_⟩:=t;simp only[tupKey,ho,hd];exact intKeys_of hi
theorem katlex_ints {b fin:Bool}{Q:Bool→Shared→Prop}:∀ {us:List Value} {ns:List Int} {ws:List Value} {ms:List Int} (i:Nat),IntsAre us ns→IntsAre ws ms→fin=decide (us.length<ws.length)→Q (HT.lexLt ns ms) s →
  KatLex prog w A b fin Q (us.zip ws) i s
 | _,_,_,_,_,.nil,.nil,hf,hq=>by subst hf;exact hq
 | _,_,_,_,_,.nil,.cons m u h,hf,hq=>by
  subst hf;show Q (decide (0<_)) s;rw[List.length_cons,decide_eq_true (Nat.succ_pos _)];exact hq
 | _,_,_,_,_,.cons m u h,.nil,hf,hq=>by
  subst hf;show Q (decide (_<0)) s;rw[decide_eq_false (Nat.not_lt_zero _)];exact hq
 | _,_,_,_,i,.cons n t h,.cons m u k,hf,hq=>by
  rw[List.zip_cons_cons];refine kat_cons (wpAny_eqBool_int ?_);rw[HT.lexLt_cons] at hq;by_cases e:n=m
  ·rw[if_pos e] at hq;have eb:(n == m)=true:=beq_iff_eq.mpr e;rw[eb];exact kat_yes (katlex_ints (i+1) h k (by rw[hf,List.length_cons,List.length_cons];simp) hq)
  ·rw[if_neg e] at hq;have eb:(n == m)=false:=beq_eq_false_iff_ne.mpr e;rw[eb];refine kat_no ?_;cases hb:(b && i == 0) with
   | true=>exact oneLt_int hq
   | false=>exact kat_one _ _ (PyProof.Rows.lt_int hq)
theorem katTups_of {h:Heap}:∀ {vs:List Value},(∀ v∈vs,∃ ks,TupInts h v ks)→∃ fs,KatTups h vs fs∧fs.length=vs.length∧∀ f∈fs,∃ i t,f=Value.int i t
 | [],_=>⟨[],.nil,rfl,fun f hf=>nomatch hf⟩
 | v::vs,hv=>by
  obtain⟨fs,k,hl,hf⟩:=katTups_of (vs:=vs) fun u hu=>hv u (List.mem_cons_of_mem _ hu)
  obtain⟨ks,a,o,items,n,rfl,ho,hc,hd,hi,hne⟩:=hv v List.mem_cons_self;obtain⟨i,t,r,e⟩:∃ i t r,items.toList=Value.int i t::r:=by
   generalize items.toList=l at hi;cases hi with
   | nil=>exact absurd rfl hne
   | cons n t _=>exact⟨n,t,_,rfl⟩
  refine⟨.int i t::fs,.cons ho hc hd ?_ k,by rw[List.length_cons,List.length_cons,hl],fun f hf'=>?_⟩
  ·rw[← Array.getElem?_toList,e];rfl
  ·rcases List.mem_cons.mp hf' with rfl | q
   ·exact⟨i,t,rfl⟩
   ·exact hf f q
theorem asks_tups {h:Heap}{vs:List Value}(hv:∀ v∈vs,∃ ks,TupInts h v ks)(hk:∀ b o,h.get? b=some o→s.heap.get? b=some o):Asks prog w A lexOrd (tupKey h) (tuples' true) vs s:=by
 refine⟨fun h2 E Q hq=>?_,fun x hx y hy E Q hq=>?_⟩
 ·obtain⟨fs,kt,hl,hf⟩:=katTups_of (h:=s.heap) (vs:=vs) fun v hm=>let ⟨ks,t⟩:=hv v hm;⟨ks,t.keep hk⟩
  refine kat_kind (T:=.type "int") kt (by omega) (fun f hm=>?_) (by decide) hq;obtain⟨i,t,rfl⟩:=hf f hm;exact .now
 ·obtain⟨ks,tx⟩:=hv x hx;obtain⟨ms,ty⟩:=hv y hy;rw[tupKey_of tx,tupKey_of ty] at hq;obtain⟨a,o,items,n,rfl,ho,hc,hd,hi,_⟩:=tx.keep hk;obtain⟨a',o',items',n',rfl,ho',hc',hd',hi',_⟩:=ty.keep hk;exact kat_lt ho hd ho' hd' (katlex_ints 0 hi hi' (by simp) hq)
theorem coll_seq {l:Addr}{o:Obj}{c:String}{vs:List Value}{n:Nat}(ho:s.heap.get? l=some o)(hcl:o.cls=.type c)(hcc:c="list"∨c="tuple")(hd:o.data=.seq vs.toArray n)(hsz:vs.length≤sizeLine) :
  Coll prog w A l s fun us=>us=vs:=by
 intro E R h;unfold collect;refine wpAny_bind (wpAny_runValue (codeAny_builtin entry_proto_collect' ?_));show wpAny _ _ (newList [] >>= fun x=>again (.builtin "list.__iadd__" ⟨[x,.ref l],[]⟩)) _ _ s;refine wpAny_bind (wpAny_newList (wpAny_pure ⟨Code.quiet_builtin _ (by decide +kernel),codeAny_builtin entry_list_iadd' ?_⟩));show wpAny _ _ (Builtin.List.listExtendWith (.ref s.heap.objs.size) (.ref l) (.ref s.heap.objs.size)) _ _ {s with heap:=s.heap.push (seqObj "list" #[] 0)};unfold Builtin.List.listExtendWith;have ho':(s.heap.push (seqObj "list" #[] 0)).get? l=some o:=Heap.get?_push_of_some _ ho;refine wpAny_bind (wpAny_typeOf (T:=c) ⟨o,ho',hcl⟩ ?_);have ht:(Builtin.List.listSameRef (.ref s.heap.objs.size) (.ref l) || (Value.type c == Value.type "list") || (Value.type c == Value.type "tuple"))=true:=by
  rcases hcc with rfl | rfl
  ·rw[show (Value.type "list" == Value.type "list")=true from rfl];simp
  ·rw[show (Value.type "tuple" == Value.type "tuple")=true from rfl];simp
 rw[if_pos ht];refine wpAny_bind (listItems_at ho' hd ?_);refine wpAny_bind (listItems_at (xs:=#[]) (n:=0) (Heap.get?_push_size _ rfl) rfl ?_);rw[if_neg (by simp)];refine wpAny_bind (listUpdate_at (xs:=#[]) (n:=0) (Heap.get?_push_size _ rfl) rfl ?_ (Nat.zero_le _) (by show (#[]++vs.toArray).size≤sizeLine+1;simp only[Array.size_append,List.size_toArray,List.length_nil];omega));refine wpAny_pure ?_
 show wpAny (model prog w) A (do
   let q ← load s.heap.objs.size
   match q.data with
   | .seq xs _=>pure xs.toList
   | _=>unsupported "internal:collect") R E {s with heap:=(s.heap.push (seqObj "list" #[] 0)).update s.heap.objs.size (Obj.mapSeq (·++vs.toArray))}
 refine wpAny_bind (wpAny_load (get?_update_seq (Heap.get?_push_size _ rfl) _) ?_);show wpAny _ _ (pure ((#[]:Array Value)++vs.toArray).toList) R E _;rw[show ((#[]:Array Value)++vs.toArray).toList=vs by simp];exact wpAny_pure (h _ s.toks vs (fun b o e=>(Heap.SameBut.update ..).extBut b o (Nat.ne_of_lt (Heap.lt_size e)) (Heap.get?_push_of_some _ e)) rfl)
end
end Srt
namespace Srt
open PySem PyProof.Rows PySem.W
section
variable {prog:Program}{w:World}{A:Around}{E:Value→Shared→Prop}{s:Shared}
def RawD (h:Heap)(d:Addr)(es:Array DictEntry)(ep:Nat):Prop:=∃ o,h.get? d=some o∧o.ExactDict∧o.data=.dict es ep
theorem RawD.typeIs {d:Addr}{es:Array DictEntry}{ep:Nat}(r:RawD s.heap d es ep):s.TypeIs (.ref d) "dict":=let ⟨o,ho,hx,_⟩:=r;⟨o,ho,hx.1⟩
theorem RawD.keep {h h':Heap}{d:Addr}{es:Array DictEntry}{ep:Nat}(r:RawD h d es ep)(k:∀ o,h.get? d=some o→h'.get? d=some o):RawD h' d es ep:=let ⟨o,ho,q⟩:=r;⟨o,k _ ho,q⟩
theorem raw_iter {d:Addr}{es:Array DictEntry}{ep:Nat}{Q:Value→Shared→Prop}(hd:(d == sysModules)=false)(r:RawD s.heap d es ep)
  (hQ:Q (.ref s.heap.objs.size) {s with heap:=s.heap.push {cls:=.type "dict_keyiterator",data:=.fields #[.ref d,.int 0 0,.int es.size 0,.int ep 0]}}) :
  wpAny (model prog w) A (pyIter (.ref d)) Q E s:=by
 obtain⟨o,ho,hx,hdat⟩:=id r;have hT:=r.typeIs;refine wpAny_pyIter_slot hT F.slot_dict_iter (wpAny_call_entry F.slot_dict_iter hT F.entry_dict_iter ?_ (F.args_dict_iter_1 _));unfold Builtin.«dict.__iter__»;refine wpAny_bind ?_;unfold Builtin.Dict.dictSlotNone;refine wpAny_bind (wpAny_notOrdered_dict hT (wpAny_pure ?_));show wpAny _ _ (Builtin.Dict.showsAll d >>= _) _ _ s;unfold Builtin.Dict.showsAll;rw[if_neg (by rw[hd];exact Bool.false_ne_true)];refine wpAny_bind (wpAny_pure (wpAny_bind (wpAny_dictEntries ho hdat (wpAny_bind (wpAny_dictEpoch ho hdat ?_)))));refine wpAny_bind (wpAny_newObj_type (wpAny_pure ⟨_,rfl, "dict_keyiterator",_,⟨_,Heap.get?_push_size _ rfl,rfl⟩,F.slot_dict_keyiterator_next.lookup,?_⟩));simpa [rawInt] using hQ
theorem raw_next {it d:Addr}{i ep:Nat}{es:Array DictEntry}{Q:Option Value→Shared→Prop}(hit:s.heap.IsKeyIter it d i es.size ep)(r:RawD s.heap d es ep)(hlt:i<es.size)
  (hQ:∀ h',h'.IsKeyIter it d (i+1) es.size ep→Heap.SameBut it s.heap h'→Q (some es[i].key) {s with heap:=h'}):wpAny (model prog w) A (pyNext (.ref it)) Q E s:=by
 obtain⟨o,ho,hc,hd⟩:=id hit;obtain⟨od,hod,hcd,hdd⟩:=id r;unfold pyNext
 refine wpAny_bind (wpAny_attempt (wpAny_callSpecial?_slot (name:=Str.ofString "__next__") hit.typeIs F.slot_dict_keyiterator_next
  (wpAny_call_entry F.slot_dict_keyiterator_next hit.typeIs F.entry_dict_keyiterator_next ?_ (F.args_dict_keyiterator_next_1 _))))
 refine wpAny_bind (wpAny_pure (wpAny_bind (wpAny_bind ?_)));first | refine wpAny_bind (wpAny_typeNameOfWhole_keyiter hit.typeIs (wpAny_pure ?_)) | refine wpAny_bind (wpAny_typeNameOf_keyiter hit.typeIs (wpAny_pure ?_))
 refine wpAny_bind (wpAny_fieldsOf ho hd ?_);have hown:Builtin.Dict_items.ownsTuple "dict_keyiterator"=false:=by decide
 simp only[hown,Bool.false_eq_true,if_false];show wpAny _ _ (if (Value.ref d == Value.none)=true then _ else _) _ _ s;rw[if_neg (show ¬ ((Value.ref d == Value.none)=true) from Bool.false_ne_true)];refine wpAny_bind (wpAny_pure (wpAny_bind (wpAny_dictEntries hod hdd ?_)));rw[if_neg (by simp)];refine wpAny_bind (wpAny_pure (wpAny_bind (wpAny_dictEpoch hod hdd ?_)));rw[if_neg (by simp)];refine wpAny_pure ?_;simp only[show ¬ ((i:Int)<0) from by omega,if_false,Int.toNat_natCast,Array.getElem?_eq_getElem hlt];refine wpAny_bind ?_;first | refine wpAny_bind (wpAny_typeNameOfWhole_keyiter hit.typeIs (wpAny_pure ?_)) | refine wpAny_bind (wpAny_typeNameOf_keyiter hit.typeIs (wpAny_pure ?_))
 refine wpAny_bind (wpAny_isOneOf_keyiter hit.typeIs ?_);show wpAny _ _ (setField (.ref it) 1 (rawInt ((i:Int)+1)) >>= _) _ _ s;refine wpAny_bind (wpAny_setField ho hd (by simp) ?_);have hit':(s.heap.update it (Obj.mapFields (·.setIfInBounds 1 (rawInt ((i:Int)+1))))).IsKeyIter it d (i+1) es.size ep :=
  ⟨_,Heap.get?_update_self _ ho (Obj.isFreed_of_fields (Obj.data_mapFields hd _)),(Obj.cls_mapFields ..).trans hc,by rw[Obj.data_mapFields hd];simp[rawInt]⟩
 refine wpAny_bind (wpAny_holding ?_);refine wpAny_bind (wpAny_isOneOf_keyiter (s:={s with heap:=s.heap.update it (Obj.mapFields (·.setIfInBounds 1 (rawInt ((i:Int)+1))))}) hit'.typeIs ?_);show wpAny _ _ (pure es[i].key) _ _ _;exact wpAny_pure (wpAny_pure ⟨_,rfl,wpAny_pure (hQ _ hit' (Heap.SameBut.update ..))⟩)
theorem raw_end {it d:Addr}{i ep:Nat}{es:Array DictEntry}{Q:Option Value→Shared→Prop}(hh:A.handled=none)(hit:s.heap.IsKeyIter it d i es.size ep)(r:RawD s.heap d es ep)(hge:es.size≤i)
  (hQ:∀ h',Heap.ExtBut it s.heap h'→Q none {s with heap:=h'}):wpAny (model prog w) A (pyNext (.ref it)) Q E s:=by
 obtain⟨o,ho,hc,hd⟩:=id hit;obtain⟨od,hod,hcd,hdd⟩:=id r;unfold pyNext
 refine wpAny_bind (wpAny_attempt (wpAny_callSpecial?_slot (name:=Str.ofString "__next__") hit.typeIs F.slot_dict_keyiterator_next
  (wpAny_call_entry F.slot_dict_keyiterator_next hit.typeIs F.entry_dict_keyiterator_next ?_ (F.args_dict_keyiterator_next_1 _))))
 refine wpAny_bind (wpAny_pure (wpAny_bind (wpAny_bind ?_)));first | refine wpAny_bind (wpAny_typeNameOfWhole_keyiter hit.typeIs (wpAny_pure ?_)) | refine wpAny_bind (wpAny_typeNameOf_keyiter hit.typeIs (wpAny_pure ?_))
 refine wpAny_bind (wpAny_fieldsOf ho hd ?_);have hown:Builtin.Dict_items.ownsTuple "dict_keyiterator"=false:=by decide
 simp only[hown,Bool.false_eq_true,if_false];show wpAny _ _ (if (Value.ref d == Value.none)=true then _ else _) _ _ s;rw[if_neg (show ¬ ((Value.ref d == Value.none)=true) from Bool.false_ne_true)];refine wpAny_bind (wpAny_pure (wpAny_bind (wpAny_dictEntries hod hdd ?_)));rw[if_neg (by simp)];refine wpAny_bind (wpAny_pure (wpAny_bind (wpAny_dictEpoch hod hdd ?_)));rw[if_neg (by simp)];refine wpAny_pure ?_;simp only[show ¬ ((i:Int)<0) from by omega,if_false,Int.toNat_natCast,Array.getElem?_eq_none hge];refine wpAny_bind ?_;first | refine wpAny_bind (wpAny_typeNameOfWhole_keyiter hit.typeIs (wpAny_pure ?_)) | refine wpAny_bind (wpAny_typeNameOf_keyiter hit.typeIs (wpAny_pure ?_))
 show wpAny _ _ (setField (.ref it) 0 .none >>= _) _ _ s;refine wpAny_bind (wpAny_setField ho hd (by simp) ?_);show wpAny _ _ (newExc (.type "StopIteration") [] >>= _) _ _ _;refine wpAny_bind ?_;simp only[newExc,newTuple];refine wpAny_bind (wpAny_newObj_type ?_ (by size_fits));refine wpAny_bind (m:=firstArgMember _ _) (wpAny_of_eq (a:=Value.none) (by first | rfl | (simp only[firstArgMember];rfl)) ?_);refine wpAny_newObj_type ?_ (by size_fits);simp only[raiseNew];refine wpAny_bind (wpAny_handled ?_);rw[show A.in1.handled=none from hh];refine wpAny_bind (wpAny_pure (wpAny_throw ?_));refine wpAny_bind (wpAny_isInstance (T:="StopIteration") (b:=true) ⟨_,Heap.get?_push_size _ rfl,rfl⟩ isSubtype_stop ?_);exact wpAny_pure (hQ _ (((Heap.SameBut.update ..).extBut.push _).push _))
theorem raw_walks (hh:A.handled=none)(I d:Addr)(hne:d≠I)(es:Array DictEntry)(ep:Nat) :
  Walks prog w A I [I,d] [I] es.size (fun i v=>∃ e,es[i]?=some e∧e.key=v) (fun i h=>h.IsKeyIter I d i es.size ep∧RawD h d es ep) where
 sub:=fun b hb=>by simp at hb;simp[hb]
 frame:=fun _ _ _ st hk=>⟨st.1.at fun o e=>hk I (by simp) o e,st.2.keep fun o e=>hk d (by simp) o e⟩
 item:=fun i s Q E hi st hQ=>by
  refine raw_next st.1 st.2 hi fun h' hit' hs'=>?_
  exact hQ es[i].key h' s.toks ⟨es[i],by simp[hi],rfl⟩ ⟨hit',st.2.keep fun o e=>hs'.extBut d o hne e⟩ fun b o hb e=>hs'.extBut b o (fun h=>hb (by simp[h])) e
 done:=fun s Q E st hQ=>raw_end hh st.1 st.2 (Nat.le_refl _) fun h' he'=>hQ h' s.toks fun b o hb e=>he' b o (fun h=>hb (by simp[h])) e
 self:=fun _ _ _ _ st hQ=>wpAny_pyIter_keyiter st.1 hQ
theorem raw_src {d:Addr}{es:Array DictEntry}{ep:Nat}(lo:(d == sysModules)=false):KdlSrc prog w "dict" d d es.size (fun i v=>∃ e,es[i]?=some e∧e.key=v) (fun h=>RawD h d es ep) where
 type:=fun _ hm=>hm.typeIs
 there:=fun _ hm=>let ⟨_,ho,_⟩:=hm;⟨Heap.lt_size ho,Heap.lt_size ho⟩
 keep:=fun _ _ hm hk=>hm.keep fun o e=>hk d (.inl rfl) o e
 notList:=by decide
 notTuple:=by decide
 hint:=fun _ _ _ _ hm hq=>kdl_hint_dict hm.typeIs hq
 iter:=fun _ _ hh hm=>⟨_,_,(fun _ _ hq=>raw_iter lo hm hq),raw_walks hh _ d (let ⟨_,ho,_⟩:=hm;Nat.ne_of_lt (Heap.lt_size ho)) es ep,⟨⟨_,Heap.get?_push_size _ rfl,rfl,rfl⟩,hm.keep fun _ e=>Heap.get?_push_of_some _ e⟩⟩
theorem coll_raw {d:Addr}{es:Array DictEntry}{ep:Nat}(hh:A.handled=none)(lo:(d == sysModules)=false)(r:RawD s.heap d es ep)(hz:es.size≤sizeLine):Coll prog w A d s fun us=>us=es.toList.map (·.key):=by
 intro E R h;refine kdu_collect (raw_src (ep:=ep) lo) hh r hz fun h' tk acc hk hI=>h h' tk acc.toList hk ?_
 apply List.ext_getElem?;intro i;rw[Array.getElem?_toList,List.getElem?_map,Array.getElem?_toList];rcases Nat.lt_or_ge i es.size with hi | hi
 ·have hi':i<acc.size:=by rw[hI.1];exact hi
  obtain⟨e,he,hk⟩:=hI.2 i acc[i] (Array.getElem?_eq_getElem hi');rw[Array.getElem?_eq_getElem hi',he];exact congrArg some hk.symm
 ·rw[Array.getElem?_eq_none (by rw[hI.1];exact hi),Array.getElem?_eq_none hi];rfl
end
end Srt
namespace L2
open PySem PySem.Spec PyProof.Rows
theorem perm_map_inv {α β:Type}{f:α→β}:∀ {l m:List β},l.Perm m→∀ {ps:List α},m=ps.map f→∃ qs:List α,qs.Perm ps∧l=qs.map f:=by
 intro l m h;induction h with
 | nil =>
  intro ps e;cases ps with
  | nil=>exact⟨[],.nil,rfl⟩
  | cons _ _=>cases e
 | @cons x l₁ l₂ _ ih =>
  intro ps e;cases ps with
  | nil=>cases e
  | cons p r =>
   rw[List.map_cons] at e;injection e with e1 e2
   obtain⟨qs,h1,h2⟩:=ih e2;exact⟨p::qs,h1.cons _,by rw[List.map_cons,h2,e1]⟩
 | swap x y l =>
  intro ps e
  match ps,e with
  | p::q::r,e =>
   rw[List.map_cons,List.map_cons] at e;injection e with e1 e2
   injection e2 with e2 e3
   exact⟨q::p::r,.swap ..,by rw[List.map_cons,List.map_cons,← e1,← e2,← e3]⟩
 | trans _ _ ih1 ih2 =>
  intro ps e;obtain⟨qs,h1,h2⟩:=ih2 e;obtain⟨rs,h3,h4⟩:=ih1 h2;exact⟨rs,h3.trans h1,h4⟩
theorem vals_refs {α:Type}{f:α→Addr}:∀ {ps:List α} {us:List Value},Vals (ps.map fun x=>V.ref (f x)) us→us=ps.map fun x=>Value.ref (f x)
 | [],_,.nil=>rfl
 | x::r,_,.cons h t=>by
  cases (show _=Value.ref (f x) from h);rw[List.map_cons,← vals_refs t]
theorem refs_vals {α:Type}{f:α→Addr}:∀ ps:List α,Vals (ps.map fun x=>V.ref (f x)) (ps.map fun x=>Value.ref (f x))
 | []=>.nil
 | x::r=>.cons rfl (refs_vals r)
theorem ints_of_all:∀ {us:List Value},(∀ u∈us,∃ i t,u=Value.int i t)→IntsAre us (us.map Srt.intKey)
 | [],_=>.nil
 | u::r,h=>by
  obtain⟨i,t,rfl⟩:=h u List.mem_cons_self;exact .cons i t (ints_of_all fun v hv=>h v (List.mem_cons_of_mem _ hv))
theorem ints_all {us:List Value}{ns:List Int}(h:IntsAre us ns):∀ u∈us,∃ i t,u=Value.int i t:=by
 induction h with
 | nil=>intro x hx;cases hx
 | cons n t _ ih =>
  intro x hx;rcases List.mem_cons.mp hx with rfl | hx
  ·exact⟨n,t,rfl⟩
  ·exact ih x hx
def SrcI (K:PySem.W.Frag)(H:Hp)(p:Addr)(ns:List Int):Prop :=
 ns.length<64∧(SqL K H p (ns.map V.int)∨SqT K H p (ns.map V.int)∨∃ kvs,H p=some (.dK kvs)∧kvs.map (·.1)=ns.map (Sum.inl:Int→Key))
section
variable {X:Cx}{pins:List (Addr×Obj)}{σ:St}{H:Hp}{s:Shared}
theorem Inv.collI (I:Inv X pins σ H s){A:Around}(hh:A.handled=none){p:Addr}{ns:List Int}(h:SrcI X.K H p ns):Srt.Coll X.prog X.w A p s fun us=>IntsAre us ns∧us.length<64:=by
 have mono:∀ {vs:List Value},IntsAre vs ns→Srt.Coll X.prog X.w A p s (fun us=>us=vs)→Srt.Coll X.prog X.w A p s fun us=>IntsAre us ns∧us.length<64:=fun hi c E R k =>
  c E R fun h' tk us kp e=>k h' tk us kp (by subst e;exact⟨hi,by rw[IntsAre.length hi];exact h.1⟩)
 rcases h.2 with h | h | ⟨kvs,h,hk⟩
 ·obtain⟨its,r,pl,hz⟩:=I.list h;obtain⟨o,ho,hc,n,hd⟩:=pl.isList;have hl:its.length≤sizeLine:=by rw[← r.length];exact hz
  exact mono (intsAre_of r) (Srt.coll_seq ho hc (.inl rfl) hd hl)
 ·obtain⟨its,r,pl,hz⟩:=I.tuple h;obtain⟨o,ho,hc,n,hd⟩:=pl;have hl:its.length≤sizeLine:=by rw[← r.length];exact hz
  exact mono (intsAre_of r) (Srt.coll_seq ho hc (.inr rfl) hd hl)
 ·obtain⟨z,lo,vs,rel,o,es,ep,ho,hx,hd,hkeys,hp,hn⟩:=dk_of I.hok h;have hl:es.toList.length=kvs.length:=by rw[hp.length,rel.length]
  have key:∀ {l:List DictEntry} {vs:List (Key×Value)} {ns:List Int},Pairs (mixKind X.prog X.w) l vs→vs.map (·.1)=ns.map (Sum.inl:Int→Key)→IntsAre (l.map (·.key)) ns:=by
   intro l vs ns hp;induction hp generalizing ns with
   | nil =>
    intro e;cases ns with
    | nil=>exact .nil
    | cons _ _=>cases e
   | @cons e kv es kvs h1 h2 _ ih =>
    intro q;cases ns with
    | nil=>cases q
    | cons n r =>
     rw[List.map_cons,List.map_cons] at q;injection q with q1 q2
     rw[q1] at h1;have hi:Value.isInt n e.key=true:=h1;obtain⟨t,et⟩:=Value.isInt_shape hi;rw[List.map_cons,et];exact .cons n t (ih q2)
  have hi:=key hp (by rw[← rel.keys];exact hk);refine mono hi (Srt.coll_raw hh lo ⟨o,ho,hx,hd⟩ ?_)
  ·rw[← Array.length_toList,hl];exact z
theorem call_sortedI (hc:X.A.handled=none):CallR X (.builtin "sorted") (fun xs H Q=>∃ (p:Addr) (ns:List Int),xs=[.ref p]∧SrcI X.K H p ns∧∀ (ns':List Int) (l:Addr),ns'.Perm ns→ns'.Pairwise (·≤·)→H l=none→Q (.ref l) (upd H l (.lst (ns'.map V.int)))):=by
 intro pins s σ H xs us Q I r h;obtain⟨p,ns,rfl,src,q⟩:=h;obtain⟨u,rfl,rx⟩:=vals1 r;cases rx;refine Srt.sorted_any (O:=Srt.intOrd) (key:=Srt.intKey) (knd:=oneType') (I.collI (A:=X.A.in1) hc src) (fun vs h=>h.2) (fun vs s' h _=>Srt.asks_ints h.1) fun vs out h1 h' tk n hC hp hs k1 k2 hD=>?_
 have hall:∀ u∈out,∃ i t,u=Value.int i t:=fun u hu=>ints_all hC.1 u (hp.mem_iff.mp hu)
 have hio:=ints_of_all hall;have I1:Inv X pins σ H {s with heap:=h1,toks:=tk}:=I.kept k1;have hlen:(out.map Srt.intKey).length≤sizeLine:=by rw[List.length_map,hp.length_eq];exact Nat.le_trans (Nat.le_of_lt hC.2) (by decide)
 refine⟨.ref h1.objs.size,_,I1.laid (t':=tk) (o:=.lst ((out.map Srt.intKey).map V.int)) k2 (Nat.le_refl _) ⟨by rw[List.length_map];exact hlen,out,n,vals_ints hio,hD⟩,rfl,q _ _ ?_ ?_ I1.fresh⟩
 ·have:=hp.map Srt.intKey;rw[Srt.intKeys_of hC.1] at this;exact this
 ·rw[List.pairwise_map];exact hs.imp fun {a b} hab=>by
   have hab:decide (Srt.intKey b<Srt.intKey a)=false:=hab;simp at hab;exact hab
def SrcT (K:PySem.W.Frag)(H:Hp)(p:Addr)(ps:List (Addr×List Int)):Prop :=
 (SqL K H p (ps.map fun x=>V.ref x.1)∨SqT K H p (ps.map fun x=>V.ref x.1))∧(∀ x∈ps,H x.1=some (.tup (x.2.map V.int))∧x.2≠[])∧ps.length<64
theorem Inv.tupInts (I:Inv X pins σ H s){a:Addr}{ks:List Int}(h:H a=some (.tup (ks.map V.int)))(hne:ks≠[]):Srt.TupInts s.heap (.ref a) ks:=by
 obtain⟨its,r,⟨o,ho,hc,n,hd⟩,hz⟩:=I.tuple (SqT.of h);exact⟨a,o,its.toArray,n,rfl,ho,hc,hd,intsAre_of r,hne⟩
theorem sortedT_fin {p:Addr}{vs:List Value}{C:List (Addr×List Int)→Prop}{Q:VK}(I:Inv X pins σ H s)(hcol:Srt.Coll X.prog X.w X.A.in1 p s fun us=>us=vs)(ps:List (Addr×List Int))(hvs:vs=ps.map fun x=>Value.ref x.1)(h64:ps.length<64)
  (hall:∀ x∈ps,H x.1=some (.tup (x.2.map V.int))∧x.2≠[]) (q:∀ (ps':List (Addr×List Int)) (l:Addr),ps'.Perm ps→(ps'.Pairwise fun x y=>HT.lexLt y.2 x.2=false)→H l=none→Q (.ref l) (upd H l (.lst (ps'.map fun x=>V.ref x.1)))) :
  wpAny (model X.prog X.w) X.A (call (.builtin "sorted") [.ref p]) (EP X pins σ Q) X.xe s:=by
 subst hvs;have hz:ps.length≤sizeLine:=Nat.le_trans (Nat.le_of_lt h64) (by decide);have ht:∀ x∈ps,Srt.TupInts s.heap (.ref x.1) x.2:=fun x hx=>I.tupInts (hall x hx).1 (hall x hx).2
 refine Srt.sorted_any (O:=Srt.lexOrd) (key:=Srt.tupKey s.heap) (knd:=tuples' true) hcol (fun vs e=>by subst e;rw[List.length_map];exact h64) (fun vs s' e k=>?_) fun vs out h1 h' tk n e hp hs k1 k2 hD=>?_
 ·subst e;refine Srt.asks_tups (fun v hv=>?_) k;obtain⟨x,hx,rfl⟩:=List.mem_map.mp hv;exact⟨x.2,ht x hx⟩
 ·subst e;obtain⟨ps',hpp,rfl⟩:=perm_map_inv hp rfl;have I1:Inv X pins σ H {s with heap:=h1,toks:=tk}:=I.kept k1;refine⟨.ref h1.objs.size,_,I1.laid (t':=tk) (o:=.lst (ps'.map fun x=>V.ref x.1)) k2 (Nat.le_refl _) ⟨by rw[List.length_map,hpp.length_eq];exact hz,_,n,refs_vals (f:=fun x:Addr×List Int=>x.1) ps',hD⟩,rfl,q _ _ hpp ?_ I1.fresh⟩;rw[List.pairwise_map] at hs;refine hs.imp_of_mem fun {a b} ha hb hab=>?_
  have e1:=Srt.tupKey_of (ht a (hpp.mem_iff.mp ha));have e2:=Srt.tupKey_of (ht b (hpp.mem_iff.mp hb));have hab:HT.lexLt (Srt.tupKey s.heap (.ref b.1)) (Srt.tupKey s.heap (.ref a.1))=false:=hab;rw[e1,e2] at hab;exact hab
theorem call_sortedT:CallR X (.builtin "sorted") (fun xs H Q=>∃ (p:Addr) (ps:List (Addr×List Int)),xs=[.ref p]∧SrcT X.K H p ps∧∀ (ps':List (Addr×List Int)) (l:Addr),ps'.Perm ps→(ps'.Pairwise fun x y=>HT.lexLt y.2 x.2=false)→H l=none→Q (.ref l) (upd H l (.lst (ps'.map fun x=>V.ref x.1)))):=by
 intro pins s σ H xs us Q I r h;obtain⟨p,ps,rfl,⟨src,hall,h64⟩,q⟩:=h;obtain⟨u,rfl,rx⟩:=vals1 r;cases rx;rcases src with h | h
 ·obtain⟨its,r',pl,hz⟩:=I.list h;obtain⟨o,ho,hc,n,hd⟩:=pl.isList;rw[List.length_map] at hz;have e:=vals_refs r';exact sortedT_fin (C:=fun _=>True) I (Srt.coll_seq ho hc (.inl rfl) hd (by rw[e,List.length_map];exact hz)) ps e h64 hall q
 ·obtain⟨its,r',pl,hz⟩:=I.tuple h;obtain⟨o,ho,hc,n,hd⟩:=pl;rw[List.length_map] at hz;have e:=vals_refs r';exact sortedT_fin (C:=fun _=>True) I (Srt.coll_seq ho hc (.inr rfl) hd (by rw[e,List.length_map];exact hz)) ps e h64 hall q
theorem call_sortedD (hc:X.A.handled=none):CallR X (.builtin "sorted") (fun xs H Q=>∃ (p:Addr) (kvs:List (List Key×V)) (kss:List (List Int)),xs=[.ref p]∧H p=some (.dT kvs)∧kvs.map (·.1)=kss.map (fun ks=>ks.map (Sum.inl:Int→Key))∧(∀ ks∈kss,ks≠[])∧kss.length<64 ∧
  ∀ (ps:List (Addr×List Int)) (l:Addr),(ps.map (·.2)).Perm kss→(∀ x∈ps,H x.1=some (.tup (x.2.map V.int)))→(ps.Pairwise fun x y=>HT.lexLt y.2 x.2=false)→H l=none→Q (.ref l) (upd H l (.lst (ps.map fun x=>V.ref x.1)))):=by
 intro pins s σ H xs us Q I r h;obtain⟨p,kvs,kss,rfl,hH,hk,hne,h64,q⟩:=h;obtain⟨u,rfl,rx⟩:=vals1 r;cases rx;have hO:=I.hok p _ hH;unfold ObjOk at hO;obtain⟨z,lo,xs,rel,o,es,ep,ho,hx,hd,hes,hn⟩:=hO;have rel:KT H kvs xs:=rel;have key:∀ {kvs:List (List Key×V)} {xs:List (List Key×Addr×Value)} {kss:List (List Int)},KT H kvs xs→kvs.map (·.1)=kss.map (fun ks=>ks.map (Sum.inl:Int→Key)) →
   ∃ ps:List (Addr×List Int),xs.map (fun x=>x.2.1)=ps.map (·.1)∧ps.map (·.2)=kss∧∀ x∈ps,H x.1=some (.tup (x.2.map V.int)):=by
  intro kvs xs kss rel;induction rel generalizing kss with
  | nil =>
   intro e;cases kss with
   | nil=>exact⟨[],rfl,rfl,fun x hx=>nomatch hx⟩
   | cons _ _=>cases e
  | @cons pp qq ps qs hh _ ih =>
   intro e;cases kss with
   | nil=>cases e
   | cons ks r =>
    rw[List.map_cons,List.map_cons] at e;injection e with e1 e2
    obtain⟨rs,h1,h2,h3⟩:=ih e2;obtain⟨g1,g2,g3⟩:=hh;refine⟨(qq.2.1,ks)::rs,by rw[List.map_cons,List.map_cons,h1],by rw[List.map_cons,h2],fun x hx=>?_⟩;rcases List.mem_cons.mp hx with rfl | hx
    ·rw[g2,e1,List.map_map];rfl
    ·exact h3 x hx
 obtain⟨ps,e1,e2,e3⟩:=key rel hk;have hl:es.toList.length=kvs.length:=by rw[hes,List.length_map,← Paired.length rel]
 have ev:es.toList.map (·.key)=ps.map fun x=>Value.ref x.1:=by
  rw[hes,List.map_map];have:(xs.map fun x=>x.2.1).map Value.ref=(ps.map (·.1)).map Value.ref:=by rw[e1]
  rw[List.map_map,List.map_map] at this;exact this
 have hpl:ps.length=kvs.length:=by rw[← hl,← List.length_map (f:=fun x:DictEntry=>x.key),ev,List.length_map]
 refine sortedT_fin (C:=fun _=>True) I (Srt.coll_raw hc lo ⟨o,ho,hx,hd⟩ (by rw[← Array.length_toList,hl];exact z)) ps ev (by rw[← List.length_map (f:=fun x:Addr×List Int=>x.2),e2];exact h64) (fun x hx=>⟨e3 x hx,hne _ (by rw[← e2];exact List.mem_map_of_mem hx)⟩) fun ps' l hp hs hn=>q ps' l ?_ (fun x hx=>e3 x (hp.mem_iff.mp hx)) hs hn
 rw[← e2];exact hp.map _
end
end L2
end
section
namespace L2
open PySem PySem.Spec PyProof.Rows
mutual
inductive Dt (K:PySem.W.Frag)(H:Hp):V→PyData→Prop
 | non:Dt K H .non .none
 | bl (b:Bool):Dt K H (.bl b) (.bool b)
 | int (i:Int):Dt K H (.int i) (.int i)
 | str (x:Str):Dt K H (.str x) (.str x)
 | tup {a:Addr} {xs:List V} {ds:List PyData}:SqT K H a xs→Dts K H xs ds→Dt K H (.ref a) (.tuple ds)
 | lst {a:Addr} {xs:List V} {ds:List PyData}:SqL K H a xs→Dts K H xs ds→Dt K H (.ref a) (.list ds)
inductive Dts (K:PySem.W.Frag)(H:Hp):List V→List PyData→Prop
 | nil:Dts K H [] []
 | cons {x:V} {d:PyData} {xs:List V} {ds:List PyData}:Dt K H x d→Dts K H xs ds→Dts K H (x::xs) (d::ds)
end
section
variable {X:Cx}{pins:List (Addr×Obj)}{σ:St}{H:Hp}{s:Shared}
mutual
theorem Inv.reads (I:Inv X pins σ H s):∀ {x:V} {d:PyData} {u:Value},Dt X.K H x d→RelV x u→∃ as,Reads s.heap u d as
 | _,_,_,.non,r=>by cases (show _=Value.none from r);exact⟨_,.none⟩
 | _,_,_,.bl b,r=>by cases (show _=Value.bool b from r);exact⟨_,.bool b⟩
 | _,_,_,.int i,r=>by obtain⟨t,e⟩:=(show ∃ t,_=Value.int i t from r);subst e;exact⟨_,.int i t⟩
 | _,_,_,.str x,r=>by obtain⟨t,e⟩:=(show ∃ t,_=Value.str x t from r);subst e;exact⟨_,.str x t⟩
 | _,_,_,.tup (a:=a) h hs,r=>by
  cases (show _=Value.ref a from r);obtain⟨its,rv,⟨o,ho,hc,n,hd⟩,hz⟩:=I.tuple h;obtain⟨as,q⟩:=Inv.readsAll I hs rv;exact⟨_,.tuple ho hc hd (by simpa using q)⟩
 | _,_,_,.lst (a:=a) h hs,r=>by
  cases (show _=Value.ref a from r);obtain⟨its,rv,pl,hz⟩:=I.list h;obtain⟨o,ho,hc,n,hd⟩:=pl.isList;obtain⟨as,q⟩:=Inv.readsAll I hs rv;exact⟨_,.list ho hc hd (by simpa using q)⟩
theorem Inv.readsAll (I:Inv X pins σ H s):∀ {xs:List V} {ds:List PyData} {us:List Value},Dts X.K H xs ds→Vals xs us→∃ as,ReadsAll s.heap us ds as
 | _,_,_,.nil,.nil=>⟨_,.nil⟩
 | _,_,_,.cons h t,.cons r q=>by
  obtain⟨as,h1⟩:=Inv.reads I h r;obtain⟨bs,h2⟩:=Inv.readsAll I t q;exact⟨_,.cons h1 h2⟩
end
def rEqD (K:PySem.W.Frag)(neg:Bool):R2:=fun x y H Q=>∃ d e,Dt K H x d∧Dt K H y e∧SeqAt.shaped d=true∧SeqAt.shaped e=true∧Q (.bl (if neg then !PyData.eqv d e else PyData.eqv d e)) H
theorem op_eqD (hu:X.A.units+64<cLine):OpR X (compareOp .Eq) (rEqD X.K false):=by
 intro pins s σ H x y v u Q I rx ry h;obtain⟨d,e,hd,he,sd,se,q⟩:=h;obtain⟨as,r1⟩:=I.reads hd rx;obtain⟨bs,r2⟩:=I.reads he ry;exact eq_dataH r1 r2 sd se hu ⟨.bl _,H,I,rfl,q⟩
theorem op_neD (hu:X.A.units+64<cLine):OpR X (compareOp .NotEq) (rEqD X.K true):=by
 intro pins s σ H x y v u Q I rx ry h;obtain⟨d,e,hd,he,sd,se,q⟩:=h;obtain⟨as,r1⟩:=I.reads hd rx;obtain⟨bs,r2⟩:=I.reads he ry;exact ne_dataH r1 r2 sd se hu ⟨.bl _,H,I,rfl,q⟩
theorem Dts.ints {K:PySem.W.Frag}:∀ (ns:List Int),Dts K H (ns.map V.int) (ns.map PyData.int)
 | []=>.nil
 | n::r=>.cons (.int n) (Dts.ints r)
theorem canLay_ints:∀ ns:List Int,PyData.canLayAll0 (ns.map PyData.int)=true
 | []=>rfl
 | n::r=>by rw[List.map_cons,PyData.canLayAll0,canLay_ints r];rfl
theorem depth_ints:∀ ns:List Int,PyData.depthAll (ns.map PyData.int)=0
 | []=>rfl
 | n::r=>by rw[List.map_cons,PyData.depthAll,depth_ints r];rfl
theorem shaped_lstI (ns:List Int):SeqAt.shaped (.list (ns.map PyData.int))=true:=by
 unfold SeqAt.shaped PyData.canLay0 PyData.depth;rw[canLay_ints,depth_ints];rfl
theorem eqv_ints:∀ ns ms:List Int,PyData.eqvAll (ns.map PyData.int) (ms.map PyData.int)=decide (ns=ms)
 | [],[]=>rfl
 | [],_::_=>rfl
 | _::_,[]=>rfl
 | a::r,b::t=>by
  rw[List.map_cons,List.map_cons,PyData.eqvAll,PyData.eqv,eqv_ints r t];by_cases h:a=b<;>by_cases h':r=t<;>simp[h,h']
theorem eqv_tupI (ns ms:List Int):PyData.eqv (.tuple (ns.map PyData.int)) (.tuple (ms.map PyData.int))=decide (ns=ms):=by
 rw[PyData.eqv];exact eqv_ints ns ms
theorem eqv_lstI (ns ms:List Int):PyData.eqv (.list (ns.map PyData.int)) (.list (ms.map PyData.int))=decide (ns=ms):=by
 rw[PyData.eqv];exact eqv_ints ns ms
theorem Dt.tupI {K:PySem.W.Frag}{a:Addr}{ns:List Int}(h:SqT K H a (ns.map V.int)):Dt K H (.ref a) (.tuple (ns.map PyData.int)):=.tup h (Dts.ints ns)
theorem Dt.lstI {K:PySem.W.Frag}{a:Addr}{ns:List Int}(h:SqL K H a (ns.map V.int)):Dt K H (.ref a) (.list (ns.map PyData.int)):=.lst h (Dts.ints ns)
theorem neLI {K:PySem.W.Frag}{a b:Addr}{ns ms:List Int}{Q:VK}(h1:SqL K H a (ns.map V.int))(h2:SqL K H b (ms.map V.int))(q:Q (.bl (!decide (ns=ms))) H):rEqD K true (.ref a) (.ref b) H Q :=
 ⟨_,_,.lstI h1,.lstI h2,shaped_lstI _,shaped_lstI _,by rw[eqv_lstI];exact q⟩
theorem eqLI {K:PySem.W.Frag}{a b:Addr}{ns ms:List Int}{Q:VK}(h1:SqL K H a (ns.map V.int))(h2:SqL K H b (ms.map V.int))(q:Q (.bl (decide (ns=ms))) H):rEqD K false (.ref a) (.ref b) H Q :=
 ⟨_,_,.lstI h1,.lstI h2,shaped_lstI _,shaped_lstI _,by rw[eqv_lstI];exact q⟩
end
end L2
end
section
namespace Srt
open PySem PyProof.Rows PySem.W
section
variable {prog:Program}{w:World}{A:Around}{E:Value→Shared→Prop}{s:Shared}
theorem coll_range {r:Addr}{a b c:Int}{t u v:Tok}{n:Nat}(hh:A.handled=none)(hr:IsRange s.heap r a b c t u v)(hsmall:Builtin.Range.small a b c=true)(hn:Builtin.Range.rangeSize a b c=n)(hlen:n≤2 ^ 24) :
  Coll prog w A r s fun us=>us.length=n∧∀ (i:Nat) x,us[i]?=some x→∃ t,x=.int (a+i*c) t:=by
 intro E R h;unfold collect;refine wpAny_bind (wpAny_runValue (codeAny_builtin entry_proto_collect' ?_));rw[Around.under_plainId PySem.F.plain_proto_collect _];show wpAny _ A.in1 (newList [] >>= fun l=>again (.builtin "list.__iadd__" ⟨[l,.ref r],[]⟩)) _ _ s;refine wpAny_bind (wpAny_newObj_type ?_);refine wpAny_pure ⟨plainId_quiet PySem.F.plain_list_iadd _,codeAny_builtin entry_list_iadd' ?_⟩;rw[Around.under_plainId PySem.F.plain_list_iadd _];have hS₁:(s.heap.push {cls:=.type "list",data:=.seq ([]:List Value).toArray}).get? s.heap.objs.size=some {cls:=.type "list",data:=.seq #[]}:=Heap.get?_push_size _ rfl;show wpAny _ A.in1 (Builtin.List.listExtendWith (.ref s.heap.objs.size) (.ref r) (.ref s.heap.objs.size)) _ _ _;have key:=wpAny_extend_range (prog:=prog) (w:=w) (A:=A) (s:={s with heap:=s.heap.push {cls:=.type "list",data:=.seq ([]:List Value).toArray}})
  (R:=fun (q:Result) (s':Shared)=>∃ (h':Heap) (tk:Nat) (acc':Array Value) (c':Nat),q=.ok (.ret (.ref s.heap.objs.size))∧s'={s with heap:=h',toks:=tk} ∧
   (∀ b o,s.heap.get? b=some o→h'.get? b=some o)∧h'.get? s.heap.objs.size=some {cls:=.type "list",dict:=none,data:=.seq acc' c',slots:=#[]}∧ItemsOf (fun (i:Nat) v=>∃ t,v=Value.int (a+i*c) t) acc' n)
  hh (Heap.get?_push_of_some _ hr) hsmall hn hlen s.heap.objs.size (.ref s.heap.objs.size) 0 hS₁
  (fun h' tk acc' c' hk hS' hacc=>⟨h',tk,acc',c',rfl,rfl,fun b o e=>hk b o (Nat.ne_of_lt (Heap.lt_size e)) (Heap.get?_push_of_some _ e),hS',hacc⟩)
 have fin:∀ (h':Heap) (tk:Nat) (acc':Array Value),(∀ b o,s.heap.get? b=some o→h'.get? b=some o)→ItemsOf (fun (i:Nat) v=>∃ t,v=Value.int (a+i*c) t) acc' n→R acc'.toList {s with heap:=h',toks:=tk}:=fun h' tk acc' hk hacc =>
  h h' tk acc'.toList hk ⟨by rw[Array.length_toList];exact hacc.1,fun i x e=>hacc.2 i x (by rw[← Array.getElem?_toList];exact e)⟩
 refine wpAny_mono key (fun fi s' x=>?_) fun e s' x=>?_
 ·cases fi with
  | done f =>
   obtain⟨h',tk,acc',c',e,rfl,hk,hS',hacc⟩:=x;cases e;show wpAny _ A (load s.heap.objs.size >>= _) _ _ _;exact wpAny_bind (wpAny_load hS' (wpAny_pure (fin h' tk acc' hk hacc)))
  | again c₁ =>
   refine⟨x.1,codeAny_mono x.2 fun q s₂ y=>?_⟩;obtain⟨h',tk,acc',c',rfl,rfl,hk,hS',hacc⟩:=y;show wpAny _ A (load s.heap.objs.size >>= _) _ _ _;exact wpAny_bind (wpAny_load hS' (wpAny_pure (fin h' tk acc' hk hacc)))
 ·obtain⟨_,_,_,_,e',_⟩:=x;cases e'
end
end Srt
namespace PySem
open AutoSeq1 (wpAny_loadPart')
theorem own_tuple_new (r:Addr)(T:String)(hT:(Value.type T == Value.type "tuple")=false)(C:List Value→Prop) :
  Meets (Builtin.«tuple.__new__» ⟨[.type "tuple",.ref r],[]⟩)
   (fun A R s=>s.TypeIs (.ref r) T∧(∀ prog w,Srt.Coll prog w A.in1 r s C)∧(∀ vs,C vs→vs.length≤sizeLine)∧∀ (h':Heap) (tk:Nat) (vs:List Value),C vs→(∀ b o',s.heap.get? b=some o'→h'.get? b=some o')→R (.ok (.ret (.ref h'.objs.size))) {s with heap:=h'.push {cls:=.type "tuple",data:=.seq vs.toArray},toks:=tk}) :=
 .of_wp fun prog w A R s h=>by
  obtain⟨hp,g,d,tk,os⟩:=s;obtain⟨hty,hcol,hz,h⟩:=h;have hsub:=sub_tuple_self;have hinit:=init_tuple_lookup;have hmh:=madeHere_tuple;have hc:∀ {Q:List Value→Shared→Prop} {E:Value→Shared→Prop},(∀ (h':Heap) (tk':Nat) (vs:List Value),(∀ b o,hp.get? b=some o→h'.get? b=some o)→C vs→Q vs ⟨h',g,d,tk',os⟩) →
    wpAny (model prog w) A.in1 (collect (.ref r)) Q E ⟨hp,g,d,tk,os⟩:=fun {Q E} k=>hcol prog w E Q k
  wp_walk using wpAny_typeOf hty,hc
  intro h' tk' vs hk hC;show wpAny _ _ (Builtin.Tuple.tupleExact vs.toArray >>= fun v=>ret v) _ _ _;unfold Builtin.Tuple.tupleExact;refine wpAny_bind (wpAny_newObj_type ?_ (by show vs.toArray.size≤sizeLine;simpa using hz vs hC));exact wpAny_pure ⟨_,rfl,h h' tk' vs hC hk⟩
end PySem
namespace L2
open PySem PySem.Spec PyProof.Rows
section
variable {X:Cx}
theorem call_rng1:CallR X (.type "range") (fun xs H Q=>∃ hi:Int,xs=[.int hi]∧∀ p,H p=none→Q (.ref p) (upd H p (.rng 0 hi))):=by
 intro pins s σ H xs us Q I r h;obtain⟨hi,rfl,q⟩:=h;obtain⟨u,rfl,rx⟩:=vals1 r;obtain⟨t,rfl⟩:=rx;refine call_range_1 ⟨.ref s.heap.objs.size,_,I.laid (o:=.rng 0 hi) (fun _ _ q=>Heap.get?_push_of_some _ q) (Nat.le_refl _) ⟨_,_,_,Heap.get?_push_size _ rfl⟩,rfl,q _ I.fresh⟩
def rInts (lo:Int)(n:Nat):List Int:=(List.range n).map fun (i:Nat)=>lo+(i:Int)
theorem rInts_length (lo:Int)(n:Nat):(rInts lo n).length=n:=by unfold rInts;simp
theorem ints_range {us:List Value}{lo:Int}{n:Nat}(hl:us.length=n)(hi:∀ (i:Nat) x,us[i]?=some x→∃ t,x=Value.int (lo+i*1) t):Vals ((rInts lo n).map V.int) us:=by
 have key:∀ (us:List Value) (k:Nat),(∀ (i:Nat) x,us[i]?=some x→∃ t,x=Value.int (lo+((i+k:Nat):Int)) t)→Vals (((List.range' k us.length).map fun (i:Nat)=>lo+(i:Int)).map V.int) us:=by
  intro us;induction us with
  | nil=>intro k _;exact .nil
  | cons u r ih =>
   intro k h;rw[List.length_cons,List.range'_succ,List.map_cons,List.map_cons];refine .cons ?_ (ih (k+1) fun i x e=>?_)
   ·obtain⟨t,e⟩:=h 0 u rfl;rw[Nat.zero_add] at e;exact⟨t,e⟩
   ·obtain⟨t,e'⟩:=h (i+1) x (by simpa using e);exact⟨t,by rw[e'];congr 2;omega⟩
 have:=key us 0 fun i x e=>by
  obtain⟨t,e'⟩:=hi i x e;exact⟨t,by rw[e',Int.mul_one,Nat.add_zero]⟩
 unfold rInts;rw[List.range_eq_range',← hl];exact this
theorem small_of {lo hi:Int}(h1:-(2 ^ 62)≤lo)(h2:lo<2 ^ 62)(h3:-(2 ^ 62)≤hi)(h4:hi<2 ^ 62):Builtin.Range.small lo hi 1=true:=by
 exact PySem.small_one h1 h2 h3 h4
theorem call_tuple_rng (hc:X.A.handled=none):CallR X (.type "tuple") (fun xs H Q=>∃ (p:Addr) (lo hi:Int),xs=[.ref p]∧H p=some (.rng lo hi)∧(-(2 ^ 62)≤lo∧lo<2 ^ 62∧-(2 ^ 62)≤hi∧hi<2 ^ 62)∧(hi-lo).toNat≤2 ^ 24 ∧
  ∀ l,H l=none→Q (.ref l) (upd H l (.tup ((rInts lo (hi-lo).toNat).map V.int)))):=by
 intro pins s σ H xs us Q I r h;obtain⟨p,lo,hi,rfl,hp,⟨b1,b2,b3,b4⟩,hz,q⟩:=h;obtain⟨u,rfl,rx⟩:=vals1 r;cases rx;have hO:=I.hok p _ hp;unfold ObjOk at hO;obtain⟨t,u',v,hr⟩:=hO;have hsl:(hi-lo).toNat≤sizeLine:=by rw[sizeLine_eq];omega
 refine callType_new F.called_tuple (by decide) (F.typeCall_tuple_1 _) (F.newCall_tuple_1 _) (fun obj=>F.args_object_init_2 obj _) F.entry_tuple_new
  (own_tuple_new p "range" (by decide) (fun us=>us.length=(hi-lo).toNat∧∀ (i:Nat) x,us[i]?=some x→∃ t,x=Value.int (lo+i*1) t))
  ⟨⟨_,hr,rfl⟩,fun prog w=>Srt.coll_range (A:=X.A.in1.in1) hc hr (small_of b1 b2 b3 b4) (rangeSize_nat lo hi) hz,fun vs hv=>by rw[hv.1];exact hsl,fun h' tk vs hv hk=>⟨⟨_,Heap.get?_push_size _ rfl,rfl⟩,?_⟩⟩
 have I1:Inv X pins σ H {s with heap:=h',toks:=tk}:=I.kept hk;refine⟨.ref h'.objs.size,_,I1.laid (t':=tk) (o:=.tup ((rInts lo (hi-lo).toNat).map V.int)) (fun _ _ q=>Heap.get?_push_of_some _ q) (Nat.le_refl _) ⟨by rw[List.length_map,rInts_length];exact hsl,vs,ints_range hv.1 hv.2,_,Heap.get?_push_size _ rfl,rfl,0,rfl⟩,rfl,q _ I1.fresh⟩
theorem call_list_rng (hc:X.A.handled=none):CallR X (.type "list") (fun xs H Q=>∃ (p:Addr) (lo hi:Int),xs=[.ref p]∧H p=some (.rng lo hi)∧(-(2 ^ 62)≤lo∧lo<2 ^ 62∧-(2 ^ 62)≤hi∧hi<2 ^ 62)∧(hi-lo).toNat≤2 ^ 24 ∧
  ∀ l,H l=none→Q (.ref l) (upd H l (.lst ((rInts lo (hi-lo).toNat).map V.int)))):=by
 intro pins s σ H xs us Q I r h;obtain⟨p,lo,hi,rfl,hp,⟨b1,b2,b3,b4⟩,hz,q⟩:=h;obtain⟨u,rfl,rx⟩:=vals1 r;cases rx;have hO:=I.hok p _ hp;unfold ObjOk at hO;obtain⟨t,u',v,hr⟩:=hO;have hsl:(hi-lo).toNat≤sizeLine:=by rw[sizeLine_eq];omega
 refine call_list_range hc hr (small_of b1 b2 b3 b4) (rangeSize_nat lo hi) hz fun h' tk acc' c' hk hS' hacc=>?_
 refine⟨.ref s.heap.objs.size,_,I.laid (t':=tk) (o:=.lst ((rInts lo (hi-lo).toNat).map V.int)) hk (Nat.le_refl _) ⟨by rw[List.length_map,rInts_length];exact hsl,acc'.toList,c',ints_range (by rw[Array.length_toList];exact hacc.1) fun i x e=>hacc.2 i x (by rw[← Array.getElem?_toList];exact e),by rw[Array.toArray_toList];exact hS'⟩,rfl,q _ I.fresh⟩
end
end L2
namespace Srt
open PySem PyProof.Rows PySem.W
theorem nolen_lr:typeLookup (.type "list_reverseiterator") "__len__"=pure none:=by rw[typeLookup_type,builtinLookup_eq_fast];kernel_rfl
theorem hint_lr:typeLookup (.type "list_reverseiterator") "__length_hint__"=pure (some (.builtin "list_reverseiterator.__length_hint__")):=by rw[typeLookup_type,builtinLookup_eq_fast];kernel_rfl
section
variable {prog:Program}{w:World}{A:Around}{E:Value→Shared→Prop}{s:Shared}
theorem rev_extend {R:Result→Shared→Prop}{r l S:Addr}{items:Array Value}{res:Value}{c₀:Nat}(hh:A.handled=none)(hr:s.heap.IsRevIter r l ((items.size:Int)-1))(hl:s.heap.IsList l items)(hne:l≠r)(hSr:S≠r)(hSl:S≠l)
  (hS:s.heap.get? S=some {cls:=.type "list",data:=.seq #[] c₀}) (hn:items.size≤sizeLine)
  (hR:∀ h' tk acc' c',(∀ b o,b≠S→b≠r→s.heap.get? b=some o→h'.get? b=some o)→h'.get? S=some {cls:=.type "list",dict:=none,data:=.seq acc' c',slots:=#[]} →
   ItemsOf (fun i v=>items[items.size-1-i]?=some v) acc' items.size→R (.ok (.ret res)) {s with heap:=h',toks:=tk}) :
  wpAny (model prog w) A.in1 (Builtin.List.listExtendWith (.ref S) (.ref r) res)
   (fun fin s'=>match fin with | .done f=>R (.ok f) s' | .again c'=>c'.quiet=true∧codeAny (model prog w) A c' R s') (fun e s'=>R (.error e) s') s:=by
 have W:=(Walks.listRev (prog:=prog) (w:=w) (A:=A.in1) hh r l hne items).toS;have hSf:S∉[r,l]:=by simp only[List.mem_cons,List.not_mem_nil,or_false,not_or];exact⟨hSr,hSl⟩
 unfold Builtin.List.listExtendWith;refine wpAny_bind (wpAny_typeOf hr.typeIs ?_);have h1:Builtin.List.listSameRef (.ref S) (.ref r)=false:=by simp[Builtin.List.listSameRef,hSr]
 rw[if_neg (by rw[h1];decide)];refine wpAny_bind (wpAny_pyIter_revIter hr ?_);refine wpAny_bind (wpAny_holding ?_);unfold Builtin.List.listLengthHint;refine wpAny_bind (wpAny_specialOf hr.typeIs nolen_lr ?_);show wpAny _ A.in1 (specialOf (Value.ref r) (Str.ofString "__length_hint__") >>= _) _ _ _;refine wpAny_bind (wpAny_specialOf hr.typeIs hint_lr ?_);generalize hid:("list_reverseiterator.__length_hint__":String)=id0
 wp_delta
 rw[show splitId id0=some ("list_reverseiterator", "__length_hint__") from by subst hid;decide +kernel];subst hid;refine wpAny_bind (wpAny_isInstance (b:=true) hr.typeIs (by rw[isSubtype_type];kernel_rfl) ?_);refine wpAny_pure ?_;rw[if_neg (by decide)];refine wpAny_pure ⟨plainId_quiet PySem.F.plain_extend_loop _,codeAny_extend_loopS W hn S hSf res items.size 0 s #[] c₀ rfl (Nat.zero_le _) ⟨Nat.zero_le _,by simpa using hr,hl⟩ hS (ItemsOf.nil _) fun s' acc' c' hm hS' hacc=>?_⟩;rw[Moved.eq_with hm];refine hR s'.heap s'.toks acc' c' (fun b o hb hbr e=>hm.heap b o (fun hmem=>?_) e) hS' hacc;rcases List.mem_cons.mp hmem with e' | hmem
 ·exact hb e'
 ·exact hbr (List.mem_singleton.mp hmem)
theorem call_list_rev {Q:Value→Shared→Prop}{r l:Addr}{items:Array Value}(hh:A.handled=none)(hr:s.heap.IsRevIter r l ((items.size:Int)-1))(hl:s.heap.IsList l items)(hne:l≠r)(hn:items.size≤sizeLine)
  (hQ:∀ h' tk acc' c',(∀ b o,b≠r→s.heap.get? b=some o→h'.get? b=some o)→h'.get? s.heap.objs.size=some {cls:=.type "list",dict:=none,data:=.seq acc' c',slots:=#[]} →
   ItemsOf (fun i v=>items[items.size-1-i]?=some v) acc' items.size→Q (.ref s.heap.objs.size) {s with heap:=h',toks:=tk}) :
  wpAny (model prog w) A (call (.type "list") [.ref r]) Q E s:=by
 refine callType_codes (Q₁:=fun obj s₁=>obj=.ref s.heap.objs.size∧s₁={s with heap:=s.heap.push {cls:=.type "list",data:=.seq #[]}}) PySem.F.called_list (PySem.F.typeCall_list_1 _) PySem.F.entry_list_init
  (code_list_new _ ⟨rfl,rfl⟩) fun obj s₁ h₁=>?_
 obtain⟨rfl,rfl⟩:=h₁;have hS:(s.heap.push {cls:=.type "list",data:=.seq #[]}).get? s.heap.objs.size=some {cls:=.type "list",data:=.seq #[]}:=Heap.get?_push_size _ rfl;have rlt:r<s.heap.objs.size:=let ⟨o,ho,_⟩:=hr;Heap.lt_size ho;have llt:l<s.heap.objs.size:=let ⟨o,ho,_⟩:=hl;Heap.lt_size ho;refine⟨⟨_,hS,rfl⟩,PySem.F.args_list_init_2 _ _,?_⟩;show wpAny _ _ (do let old ← Builtin.List.listItems (.ref s.heap.objs.size);Builtin.List.listUpdate (.ref s.heap.objs.size) (fun _=>#[]);letGo old.toList.reverse;Builtin.List.listExtendWith (.ref s.heap.objs.size) (.ref r) .none) _ _ _;refine wpAny_bind ?_;unfold Builtin.List.listItems;refine wpAny_bind (wpAny_seqItems hS rfl (wpAny_pure ?_));show wpAny _ _ (updateSeq s.heap.objs.size (fun _=>#[]) >>= fun _=>letGo (#[]:Array Value).toList.reverse >>= fun _=>Builtin.List.listExtendWith (.ref s.heap.objs.size) (.ref r) .none) _ _ _;refine wpAny_bind (wpAny_updateSeq hS rfl ?_);have hS₂:=Heap.get?_update_self (Obj.mapSeq (fun _=>(#[]:Array Value))) hS rfl;have oth:∀ b o,b≠s.heap.objs.size→s.heap.get? b=some o→((s.heap.push {cls:=.type "list",data:=.seq #[]}).update s.heap.objs.size (Obj.mapSeq (fun _=>(#[]:Array Value)))).get? b=some o :=
  fun b o hb e=>(Heap.get?_update_other _ _ (Ne.symm hb)).trans (Heap.get?_push_of_some _ e)
 refine wpAny_bind (wpAny_letGo ?_);refine rev_extend (A:=A.in1) hh (hr.at fun o e=>oth r o (Nat.ne_of_lt rlt) e) (hl.at fun o e=>oth l o (Nat.ne_of_lt llt) e) hne (Nat.ne_of_gt rlt) (Nat.ne_of_gt llt) hS₂ hn fun h' tk acc' c' hk hS' hacc=>?_
 exact⟨rfl,hQ h' tk acc' c' (fun b o hb e=>hk b o (Nat.ne_of_lt (Heap.lt_size e)) hb (oth b o (Nat.ne_of_lt (Heap.lt_size e)) e)) hS' hacc⟩
end
end Srt
namespace L2
open PySem PySem.Spec PyProof.Rows
section
variable {X:Cx}{e:Expr}{te:TE}{p1 p2 q1 q2:Pos}
theorem boot_listT:bootBuiltins "list"=some (.type "list"):=by decide +kernel
theorem boot_reversed:bootBuiltins "reversed"=some (.type "reversed"):=by decide +kernel
theorem vals_rev:∀ {xs:List V} {us:List Value},Vals xs us→Vals xs.reverse us.reverse
 | _,_,.nil=>.nil
 | _,_,.cons r t=>by
  rw[List.reverse_cons,List.reverse_cons];exact (vals_rev t).append (.cons r .nil)
def tRevL (te:TE):TE:=fun σ H Q=>te σ H fun x H1=>∃ a xs,x=.ref a∧H1 a=some (.lst xs)∧∀ l,H1 l=none→Q (.ref l) (upd H1 l (.lst xs.reverse))
theorem pe_listrev (hc:X.A.handled=none)(hg1:Gl X "list")(hm1:X.mg "list"=none)(hg2:Gl X "reversed")(hm2:X.mg "reversed"=none)(he:PE X e te)
  (hs1:starEach [.Call (.Name "reversed" p1) [e] [] q1] X.env=[(false,eval (.Call (.Name "reversed" p1) [e] [] q1) X.env)]:=by rfl) (hs2:starEach [e] X.env=[(false,eval e X.env)]:=by rfl) :
  PE X (.Call (.Name "list" p2) [.Call (.Name "reversed" p1) [e] [] q1] [] q2) (tRevL te):=by
 intro pins s σ H Q I h;refine wpAny_Call_Name_kw (ld_blt I hg1 hm1 boot_listT ?_);refine PyProof.Rows.callWith_type1 ?_ hs1 rfl;rw[hs1];refine Calls.spliced_cons ?_;refine wpAny_Call_Name_kw (ld_blt I hg2 hm2 boot_reversed ?_);refine PyProof.Rows.callWith_type1 ?_ hs2 rfl;rw[hs2];refine Calls.spliced_cons (thn (he pins s σ H _ I h) fun u s1 ⟨x,H1,I1,r1,q1⟩=>?_);obtain⟨a,xs,rfl,ha,q⟩:=q1;cases r1;refine Calls.spliced_nil ?_;obtain⟨its,n,rv,ho,hz⟩:=I1.lst ha;have hl:s1.heap.IsList a its.toArray:=⟨_,ho,rfl,n,rfl⟩
 have alt:a<s1.heap.objs.size:=Heap.lt_size ho;refine call_reversed_list hl ?_;refine Calls.spliced_nil ?_;have k1:∀ b o,s1.heap.get? b=some o→(s1.heap.push (revObj a ((its.toArray.size:Int)-1))).get? b=some o:=fun _ _ q=>Heap.get?_push_of_some _ q
 refine Srt.call_list_rev (s:={s1 with heap:=s1.heap.push (revObj a ((its.toArray.size:Int)-1))}) hc ⟨_,Heap.get?_push_size _ rfl,rfl,rfl⟩ (hl.at fun o e=>k1 a o e) (Nat.ne_of_lt alt) (by rw[List.size_toArray,← rv.length];exact hz) fun h' tk acc' c' hk hS' hacc=>?_
 have eacc:acc'.toList=its.reverse:=by
  apply List.ext_getElem?;intro i;rw[Array.getElem?_toList];rcases Nat.lt_or_ge i its.length with hi | hi
  ·have hi':i<acc'.size:=by rw[hacc.1,List.size_toArray];exact hi
   have:=hacc.2 i acc'[i] (Array.getElem?_eq_getElem hi');rw[Array.getElem?_eq_getElem hi',List.getElem?_reverse hi];rw[List.size_toArray,List.getElem?_toArray] at this;exact this.symm
  ·rw[Array.getElem?_eq_none (by rw[hacc.1,List.size_toArray];exact hi),List.getElem?_eq_none (by rw[List.length_reverse];exact hi)]
 have keep:∀ b o,s1.heap.get? b=some o→h'.get? b=some o:=fun b o e=>hk b o (Nat.ne_of_lt (Heap.lt_size e)) (k1 b o e)
 have hsz:(s1.heap.push (revObj a ((its.toArray.size:Int)-1))).objs.size=s1.heap.objs.size+1:=Heap.size_push ..;refine⟨.ref (s1.heap.push (revObj a ((its.toArray.size:Int)-1))).objs.size,_,I1.laid (t':=tk) (a:=(s1.heap.push (revObj a ((its.toArray.size:Int)-1))).objs.size) (o:=.lst xs.reverse) keep (by rw[hsz];omega) ⟨by rw[List.length_reverse];exact hz,its.reverse,c',vals_rev rv,by rw[← eacc,Array.toArray_toList];exact hS'⟩,rfl,q _ (I1.hok.fresh (by rw[hsz];omega))⟩
end
end L2
end
section
namespace L2
open PySem PySem.Spec PyProof.Rows
structure Df (K:PySem.W.Frag)(mg:Str→Option Value)(x:Str)(st:Stmt)(f:Addr)(fd:FuncData)(ps:List Str):Prop where
 F:Fun K x x st f fd
 b:Binds K fd ps []
 m:mg x=some (.ref f)
theorem pe_own {X:Cx}{k:Nat}{f:Addr}{fd:FuncData}{ps:List Str}{sp:Sp}{x:Str}{st:Stmt}{p pos:Pos}{e:Expr}{es:List Expr}{t:TA}(G:FnOk X.prog X.w X.K X.mg X.base CX0 k f fd ps sp)(D:Df X.K X.mg x st f fd ps)(hr:Room k X.A)
  (ha:PA X (e::es) t) (hg:Gl X x:=by rfl) (hdb:(x == ("__debug__":Str))=false:=by decide) (he:starEach (e::es) X.env=(false,eval e X.env)::starEach es X.env:=by rfl) (hpl:(backTo pos (starEach es X.env)).any (·.1)=false:=by rfl) :
  PE X (.Call (.Name x p) (e::es) [] pos) (tCall sp [] E0 t):=pe_call G hr hg D.m D.F.kp D.b .nil pass0 ha hdb he hpl
structure Bt (mg:Str→Option Value):Prop where
 len:mg "len"=none
 range:mg "range"=none
 list:mg "list"=none
 tuple:mg "tuple"=none
 sorted:mg "sorted"=none
 min:mg "min"=none
 max:mg "max"=none
 int:mg "int"=none
 reversed:mg "reversed"=none
section
variable {X:Cx}(K:PySem.W.Frag)
theorem ix_listK (h:X.K=K:=by rfl):IxR X (rIxL K):=by subst h;exact ix_list
theorem ix_tupK (h:X.K=K:=by rfl):IxR X (rIxT K):=by subst h;exact ix_tup
theorem sl_listK (h:X.K=K:=by rfl):SlR X (rSlL K):=by subst h;exact sl_list
theorem in_seqK (h:X.K=K:=by rfl):OpR X (compareOp .In) (rIn K false):=by subst h;exact op_in_seq
theorem notIn_seqK (h:X.K=K:=by rfl):OpR X (compareOp .NotIn) (rIn K true):=by subst h;exact op_notIn_seq
theorem eqDK (hu:X.A.units+64<cLine)(h:X.K=K:=by rfl):OpR X (compareOp .Eq) (rEqD K false):=by subst h;exact op_eqD hu
theorem neDK (hu:X.A.units+64<cLine)(h:X.K=K:=by rfl):OpR X (compareOp .NotEq) (rEqD K true):=by subst h;exact op_neD hu
theorem ltTK (hu:X.A.units<cLine)(h:X.K=K:=by rfl):OpR X (compareOp .Lt) (rLtT K):=by subst h;exact op_ltT hu
def cLen (K:PySem.W.Frag):List V→Hp→VK→Prop:=fun xs H Q=>∃ p ys,xs=[.ref p]∧(SqL K H p ys∨SqT K H p ys)∧Q (.int ys.length) H
def cList (K:PySem.W.Frag):List V→Hp→VK→Prop:=fun xs H Q=>∃ p ys,xs=[.ref p]∧(SqL K H p ys∨SqT K H p ys)∧∀ l,H l=none→Q (.ref l) (upd H l (.lst ys))
def cTuple (K:PySem.W.Frag):List V→Hp→VK→Prop:=fun xs H Q=>∃ p ys,xs=[.ref p]∧((SqL K H p ys∧∀ l,H l=none→Q (.ref l) (upd H l (.tup ys)))∨(SqT K H p ys∧Q (.ref p) H))
def cSortI (K:PySem.W.Frag):List V→Hp→VK→Prop:=fun xs H Q=>∃ (p:Addr) (ns:List Int),xs=[.ref p]∧SrcI K H p ns∧∀ (ns':List Int) (l:Addr),ns'.Perm ns→ns'.Pairwise (·≤·)→H l=none→Q (.ref l) (upd H l (.lst (ns'.map V.int)))
def cSortT (K:PySem.W.Frag):List V→Hp→VK→Prop:=fun xs H Q=>∃ (p:Addr) (ps:List (Addr×List Int)),xs=[.ref p]∧SrcT K H p ps∧∀ (ps':List (Addr×List Int)) (l:Addr),ps'.Perm ps→(ps'.Pairwise fun x y=>HT.lexLt y.2 x.2=false)→H l=none→Q (.ref l) (upd H l (.lst (ps'.map fun x=>V.ref x.1)))
theorem lenK (h:X.K=K:=by rfl):CallR X (.builtin "len") (cLen K):=by subst h;exact call_len_seq
theorem listK (h:X.K=K:=by rfl):CallR X (.type "list") (cList K):=by subst h;exact call_list_of
theorem tupleK (h:X.K=K:=by rfl):CallR X (.type "tuple") (cTuple K):=by subst h;exact call_tuple_of
theorem sortedIK (hc:X.A.handled=none)(h:X.K=K:=by rfl):CallR X (.builtin "sorted") (cSortI K):=by subst h;exact call_sortedI hc
theorem sortedTK (h:X.K=K:=by rfl):CallR X (.builtin "sorted") (cSortT K):=by subst h;exact call_sortedT
variable {tg l o e:Expr}{tl to:TE}{es:List Expr}{t:TA}{pos:Pos}
theorem pi_listK (hl:PE X l tl)(h:X.K=K:=by rfl):PI X tg l (iList K tl):=by subst h;exact pi_list hl
theorem pi_tupK (hl:PE X l tl)(h:X.K=K:=by rfl):PI X tg l (iTup K tl):=by subst h;exact pi_tup hl
theorem pg_tupK {k:Nat}{t:TGs}{n:Nat}(hc:X.calm=true)(hg:PGs X es t)(hn:(assignEach es X.env).length=n:=by rfl)(hst:(assignEach es X.env).findIdx? (·.1)=none:=by rfl)(h:X.K=K:=by rfl):PG X (.Tuple es k pos) (gTup K n t):=by
 subst h;exact pg_tup hc hg hn hst
theorem appendK {apos cpos:Pos}(ho:PE X o to)(ha:PA X (e::es) t)(h:X.K=K:=by rfl)
  (hbase:attributeBase o "append" X.env (eval o X.env)=eval o X.env:=by rfl)
  (hfew:((backTo cpos (starEach (e::es) X.env)).all (fun x=>!x.1) && (backToKw cpos (keywordEach [] X.env)).all (fun x=>x.1.isSome)
   && decide ((e::es).length+([]:List Keyword).length+(if ([]:List Keyword).isEmpty then 0 else 1)<30))=true:=by rfl) (hst:starEach (e::es) X.env=(false,eval e X.env)::starEach es X.env:=by rfl) (hpl:(backTo cpos (starEach es X.env)).any (·.1)=false:=by rfl) (hline:(apos.endLine == cpos.line)=true:=by rfl) :
  PE X (.Call (.Attribute o "append" apos) (e::es) [] cpos) (tBM K "list" rAppend to t):=by
 subst h;exact pe_bm PySem.F.plainAttrs_list PySem.F.slot_list_append PySem.F.type_list_append mt_append ho ha hbase hfew hline hst hpl
theorem popK {apos cpos:Pos}(ho:PE X o to)(h:X.K=K:=by rfl)(hbase:attributeBase o "pop" X.env (eval o X.env)=eval o X.env:=by rfl)(hline:(apos.endLine == cpos.line)=true:=by rfl) :
  PE X (.Call (.Attribute o "pop" apos) [] [] cpos) (tBM0 K "list" rPop to):=by
 subst h;exact pe_bm0 PySem.F.plainAttrs_list PySem.F.slot_list_pop PySem.F.type_list_pop mt_pop ho hbase hline
theorem truthK (he:PE X e to)(hw:∀ whole,isTrue e X.env whole=(do let v ← whole;standAt e.pos;holding [v] (truthy v)))(h:X.K=K:=by rfl):PT X e (fun σ H Q=>to σ H fun x H'=>∃ k,TruV K x H' k∧Q k H'):=by
 subst h;exact pt_truth he hw
end
section
variable {K:PySem.W.Frag}{a p:Addr}{xs:List V}{g:TG}{tc:TT}{te tv:TE}{τ0:St}{H0:Hp}{EE:Hp→Prop}
theorem lc_list (Pv:Nat→St→Hp→Prop)(h0:Pv 0 τ0 H0)(hl:∀ i τ H,i≤xs.length→Pv i τ H→SqL K H a xs)
  (hs:∀ i x τ H,xs[i]?=some x→Pv i τ H→(∀ ys,SqL K H a ys→ys[i]?=some x)→g x τ H fun τ2 H2=>tc τ2 H2 fun b H3=>if b=true then te τ2 H3 fun v H4=>∃ ys,H4 p=some (.lst ys)∧ys.length<sizeLine∧Pv (i+1) τ2 (upd H4 p (.lst (ys++[v]))) else Pv (i+1) τ2 H3)
  (hd:∀ τ H,Pv xs.length τ H→EE H):lcW g tc te p (Itl K a) τ0 H0 EE:=by
 refine⟨fun i m τ H=>m=xs.length-i∧i≤xs.length∧Pv i τ H,⟨_,rfl,Nat.zero_le _,h0⟩,?_⟩;rintro i m τ H ⟨rfl,hi,hp⟩;have hq:=hl i τ H hi hp;rcases Nat.lt_or_ge i xs.length with h | h
 ·have hx:xs[i]?=some xs[i]:=List.getElem?_eq_getElem h;refine .inr ⟨⟨xs,_,hq,hx⟩,Pv (i+1),fun τ' H' z=>⟨_,by omega,rfl,h,z⟩,?_⟩;rintro x H' ⟨rfl,hy⟩;have e:x=xs[i]:=by have:=hy xs hq;rw[hx] at this;exact (Option.some.inj this).symm
  subst e;exact hs i _ τ H' hx hp hy
 ·have e:i=xs.length:=by omega
  subst e;exact .inl ⟨⟨xs,hq,Nat.le_refl _⟩,hd τ H hp⟩
theorem lc_tup (Pv:Nat→St→Hp→Prop)(h0:Pv 0 τ0 H0)(hl:∀ i τ H,i≤xs.length→Pv i τ H→SqT K H a xs)
  (hs:∀ i x τ H,xs[i]?=some x→Pv i τ H→g x τ H fun τ2 H2=>tc τ2 H2 fun b H3=>if b=true then te τ2 H3 fun v H4=>∃ ys,H4 p=some (.lst ys)∧ys.length<sizeLine∧Pv (i+1) τ2 (upd H4 p (.lst (ys++[v]))) else Pv (i+1) τ2 H3)
  (hd:∀ τ H,Pv xs.length τ H→EE H):lcW g tc te p (Itt K a) τ0 H0 EE:=by
 refine⟨fun i m τ H=>m=xs.length-i∧i≤xs.length∧Pv i τ H,⟨_,rfl,Nat.zero_le _,h0⟩,?_⟩;rintro i m τ H ⟨rfl,hi,hp⟩;have hq:=hl i τ H hi hp;rcases Nat.lt_or_ge i xs.length with h | h
 ·have hx:xs[i]?=some xs[i]:=List.getElem?_eq_getElem h;refine .inr ⟨⟨xs,_,hq,hx⟩,Pv (i+1),fun τ' H' z=>⟨_,by omega,rfl,h,z⟩,?_⟩;rintro x H' ⟨rfl,hy⟩;have e:x=xs[i]:=by have:=hy xs hq;rw[hx] at this;exact (Option.some.inj this).symm
  subst e;exact hs i _ τ H' hx hp
 ·have e:i=xs.length:=by omega
  subst e;exact .inl ⟨⟨xs,hq,Nat.le_refl _⟩,hd τ H hp⟩
theorem lc_range {lo:Int}{n:Nat}(Pv:Nat→St→Hp→Prop)(h0:Pv 0 τ0 H0)
  (hs:∀ i τ H,i<n→Pv i τ H→g (.int (lo+i)) τ H fun τ2 H2=>tc τ2 H2 fun b H3=>if b=true then te τ2 H3 fun v H4=>∃ ys,H4 p=some (.lst ys)∧ys.length<sizeLine∧Pv (i+1) τ2 (upd H4 p (.lst (ys++[v]))) else Pv (i+1) τ2 H3)
  (hd:∀ τ H,Pv n τ H→EE H):lcW g tc te p (Itr lo n) τ0 H0 EE:=by
 refine⟨fun i m τ H=>m=n-i∧i≤n∧Pv i τ H,⟨_,rfl,Nat.zero_le _,h0⟩,?_⟩;rintro i m τ H ⟨rfl,hi,hp⟩;rcases Nat.lt_or_ge i n with h | h
 ·refine .inr ⟨h,Pv (i+1),fun τ' H' z=>⟨_,by omega,rfl,h,z⟩,?_⟩;rintro x H' ⟨rfl,rfl⟩;exact hs i τ H' h hp
 ·have e:i=n:=by omega
  subst e;exact .inl ⟨Nat.le_refl _,hd τ H hp⟩
theorem dc_tup (Pv:Nat→St→Hp→Prop)(h0:Pv 0 τ0 H0)(hl:∀ i τ H,i≤xs.length→Pv i τ H→SqT K H a xs)
  (hs:∀ i x τ H,xs[i]?=some x→Pv i τ H→g x τ H fun τ2 H2=>tc τ2 H2 fun b H3=>if b=true then te τ2 H3 fun k H4=>tv τ2 H4 fun v H5=>∃ H6,DPut H5 p k v H6∧Pv (i+1) τ2 H6 else Pv (i+1) τ2 H3)
  (hd:∀ τ H,Pv xs.length τ H→EE H):dcW g tc te tv p (Itt K a) τ0 H0 EE:=by
 refine⟨fun i m τ H=>m=xs.length-i∧i≤xs.length∧Pv i τ H,⟨_,rfl,Nat.zero_le _,h0⟩,?_⟩;rintro i m τ H ⟨rfl,hi,hp⟩;have hq:=hl i τ H hi hp;rcases Nat.lt_or_ge i xs.length with h | h
 ·have hx:xs[i]?=some xs[i]:=List.getElem?_eq_getElem h;refine .inr ⟨⟨xs,_,hq,hx⟩,Pv (i+1),fun τ' H' z=>⟨_,by omega,rfl,h,z⟩,?_⟩;rintro x H' ⟨rfl,hy⟩;have e:x=xs[i]:=by have:=hy xs hq;rw[hx] at this;exact (Option.some.inj this).symm
  subst e;exact hs i _ τ H' hx hp
 ·have e:i=xs.length:=by omega
  subst e;exact .inl ⟨⟨xs,hq,Nat.le_refl _⟩,hd τ H hp⟩
end
theorem call_intB {X:Cx}:CallR X (.type "int") (fun xs H Q=>∃ k,xs=[.bl k]∧Q (.int (if k then 1 else 0)) H):=fun pins s σ H xs us Q I r h=>call_int1 pins s σ H xs us Q I r (.inr h)
theorem upd_self {H:Hp}{a:Addr}{o:HO}(h:H a=some o):upd H a o=H:=by
 funext b;by_cases e:b=a
 ·subst e;rw[upd_same,h]
 ·rw[upd_ne e]
theorem Same.upd {H H':Hp}(s:Same H H'){p:Addr}{o:HO}(hp:H p=none):Same H (L2.upd H' p o):=fun b u e=>by
 rw[upd_ne (ne_of_none e hp)];exact s b u e
theorem Same.seqT {K:PySem.W.Frag}{H H':Hp}{a:Addr}{xs:List V}(e:Same H H')(h:SqT K H a xs):SqT K H' a xs:=by
 rcases h with (h | ⟨o,h⟩) | h
 ·exact .inl (.inl (e _ _ h))
 ·exact .inl (.inr ⟨o,e _ _ h⟩)
 ·exact .inr h
theorem sizeBig {n:Nat}(h:n≤16000000):n<sizeLine:=by rw[sizeLine_eq];omega
end L2
end
section
local macro_rules | `(tactic| omega)=>`(tactic| first | lia | omega +splitDisjunctions)
namespace L2
open PySem
def Tp (H H':Hp):Prop:=∀ a xs,H a=some (.tup xs)→H' a=some (.tup xs)
theorem Tp.refl (H:Hp):Tp H H:=fun _ _ h=>h
theorem Tp.trans {H H1 H2:Hp}(a:Tp H H1)(b:Tp H1 H2):Tp H H2:=fun c o h=>b c o (a c o h)
theorem Same.tp {H H':Hp}(s:Same H H'):Tp H H':=fun a xs h=>s a _ h
theorem ne_tl {H:Hp}{a b:Addr}{xs ys:List V}(h:H a=some (.tup xs))(h':H b=some (.lst ys)):a≠b:=fun e=>by subst e;rw[h] at h';cases h'
theorem ne_tdT {H:Hp}{a b:Addr}{xs:List V}{ys:List (List Key×V)}(h:H a=some (.tup xs))(h':H b=some (.dT ys)):a≠b:=fun e=>by subst e;rw[h] at h';cases h'
theorem ne_tdK {H:Hp}{a b:Addr}{xs:List V}{ys:List (Key×V)}(h:H a=some (.tup xs))(h':H b=some (.dK ys)):a≠b:=fun e=>by subst e;rw[h] at h';cases h'
theorem Tp.new {H H':Hp}(s:Tp H H'){p:Addr}{o:HO}(hp:H p=none):Tp H (upd H' p o):=fun a xs h=>by rw[upd_ne (ne_of_none h hp)];exact s a xs h
theorem Tp.lst {H:Hp}{p:Addr}{o:HO}{ys:List V}(hp:H p=some (.lst ys)):Tp H (upd H p o):=fun a xs h=>by rw[upd_ne (ne_tl h hp)];exact h
theorem Tp.dT {H:Hp}{p:Addr}{o:HO}{ys:List (List Key×V)}(hp:H p=some (.dT ys)):Tp H (upd H p o):=fun a xs h=>by rw[upd_ne (ne_tdT h hp)];exact h
theorem Tp.dK {H:Hp}{p:Addr}{o:HO}{ys:List (Key×V)}(hp:H p=some (.dK ys)):Tp H (upd H p o):=fun a xs h=>by rw[upd_ne (ne_tdK h hp)];exact h
theorem Tp.nw {H:Hp}{p:Addr}{o:HO}(hp:H p=none):Tp H (upd H p o):=(Tp.refl H).new hp
theorem at_new {H:Hp}{a p:Addr}{o u:HO}(h:H a=some o)(hp:H p=none):upd H p u a=some o:=by rw[upd_ne (ne_of_none h hp)];exact h
@[elab_as_elim] theorem fresh_of {G:Hp→Prop} {H:Hp} {p:Addr} {o:HO} (n:H p=none) (k:∀ H',Same H H'→H' p=some o→G H'):G (upd H p o):=k _ ((Same.refl H).upd n) upd_same
theorem seq_rest {a b:TS}{D:Ends}{σ:St}{H:Hp}(C:St→Hp→Prop)(ha:∀ R:St→Hp→Prop,(∀ σ H,C σ H→R σ H)→a {D with nx:=R} σ H)(hb:∀ σ H,C σ H→b D σ H):tSeq a b D σ H:=ha (b D) hb
def DsOk (ds:List Int):Prop:=ds.length≤2000∧∀ x∈ds,0≤x∧x<1000
def DkAt (H:Hp)(d:Addr):Prop:=∃ ds:List Int,H d=some (.lst (ds.map V.int))∧DsOk ds
def Kp (d:Addr)(H H':Hp):Prop:=∀ b o,b≠d→H b=some o→H' b=some o
theorem Kp.refl (d:Addr)(H:Hp):Kp d H H:=fun _ _ _ h=>h
theorem Kp.trans {d:Addr}{H H1 H2:Hp}(a:Kp d H H1)(b:Kp d H1 H2):Kp d H H2:=fun c o hc e=>b c o hc (a c o hc e)
theorem Same.kp {d:Addr}{H H':Hp}(s:Same H H'):Kp d H H':=fun b o _ h=>s b o h
theorem Kp.free {d:Addr}{H H':Hp}(k:Kp d H H')(hd:DkAt H' d){l:Addr}(h:H' l=none):H l=none:=by
 cases e:H l with
 | none=>rfl
 | some o =>
  by_cases q:l=d
  ·subst q;obtain⟨ds,e',_⟩:=hd;rw[e'] at h;cases h
  ·rw[k l o q e] at h;cases h
theorem Kp.new {d:Addr}{H H':Hp}(k:Kp d H H'){p:Addr}{o:HO}(hp:H p=none):Kp d H (upd H' p o):=fun b u hb e=>by
 rw[upd_ne (ne_of_none e hp)];exact k b u hb e
theorem DkAt.new {d:Addr}{H:Hp}(h:DkAt H d){p:Addr}{o:HO}(hp:p≠d):DkAt (upd H p o) d:=by
 obtain⟨ds,e,hl⟩:=h;exact⟨ds,by rw[upd_ne hp.symm];exact e,hl⟩
theorem DkAt.ne {d p:Addr}{H:Hp}(h:DkAt H d)(hp:H p=none):p≠d:=fun e=>by
 subst e;obtain⟨ds,e,_⟩:=h;rw[hp] at e;cases e
theorem DkAt.same {d:Addr}{H H':Hp}(h:DkAt H d)(s:Same H H'):DkAt H' d:=by
 obtain⟨ds,e,hl⟩:=h;exact⟨ds,s _ _ e,hl⟩
theorem Kp.tp {d:Addr}{H H':Hp}(k:Kp d H H')(hd:DkAt H d):Tp H H':=fun a xs h=>by
 refine k a _ (fun e=>?_) h;subst e;obtain⟨ds,e',_⟩:=hd;rw[h] at e';cases e'
def sp_mixed:Sp:=fun vs H Q _=>∃ c k:Int,vs=[.int c,.int k]∧0≤k∧k<2 ^ 30∧∀ z:Int,Q (.int z) H
def sp_next:Sp:=fun vs H Q _=>∃ (d:Addr) (ns:List Int),vs=[.ref d]∧H d=some (.lst (ns.map V.int))∧∀ (z:Int) (ns':List Int),ns'.length≤ns.length→(∀ x∈ns',x∈ns)→(z=0∨z∈ns)→Q (.int z) (upd H d (.lst (ns'.map V.int)))
theorem next_use {H:Hp}{d:Addr}{Q:VK}{E:XK}(hd:DkAt H d)(h:∀ z H',Kp d H H'→DkAt H' d→(∀ b,b≠d→H' b=H b)→Q (.int z) H'):sp_next [.ref d] H Q E:=by
 obtain⟨ds,e,hl,hb⟩:=hd;exact⟨d,ds,rfl,e,fun z ns' hn hs _=>h z _ (fun b o hb eb=>by rw[upd_ne hb];exact eb) ⟨ns',upd_same,by omega,fun x hx=>hb x (hs x hx)⟩ fun b hb=>upd_ne hb⟩
def sp_deck (K:PySem.W.Frag):Sp:=fun vs H Q _=>∃ (a:Addr) (m:Int) (ns:List Int),vs=[.ref a,.int m]∧SqL K H a (ns.map V.int)∧ns.length≤63∧0≤m∧m≤2000 ∧
 ∀ (p:Addr) (ds:List Int) (H':Hp),DsOk ds→Same H H'→H p=none→H' p=some (.lst (ds.map V.int))→Q (.ref p) H'
theorem rInts_succ (i:Nat):rInts 0 (i+1)=rInts 0 i++[(0:Int)+i]:=by unfold rInts;rw[List.range_succ,List.map_append];rfl
def sp_law (K:PySem.W.Frag):Sp:=fun vs H Q _=>∃ (a:Addr) (ns:List Int),vs=[.ref a]∧SqL K H a (ns.map V.int)∧ns.length≤63∧∀ H',Q (.bl true) H'
def tl (t:Int×Int):List Int:=[t.1,t.2]
def Lex (t u:Int×Int):Prop:=t.1<u.1∨(t.1=u.1∧t.2<u.2)
structure IsWeb (n:Int)(ts:List (Int×Int)):Prop where
 n3:3≤n
 n60:n≤60
 rng:∀ t∈ts,0≤t.1∧t.1<t.2∧t.2<n
 srt:ts.Pairwise Lex
 len:ts.length≤200
 conn:∀ S:Int→Prop,(∀ t∈ts,S t.1↔S t.2)→∀ u v,0≤u→u<n→0≤v→v<n→S u→S v
structure PsAt (H:Hp)(ps:List (Addr×List Int))(ts:List (Int×Int)):Prop where
 to:∀ x∈ps,H x.1=some (.tup (x.2.map V.int))
 eq:ps.map (·.2)=ts.map tl
def TsAt (H:Hp)(q:Addr)(ts:List (Int×Int)):Prop:=∃ ps:List (Addr×List Int),H q=some (.tup (ps.map fun x=>V.ref x.1))∧PsAt H ps ts
def WebAt (H:Hp)(w:Addr)(n:Int)(ts:List (Int×Int)):Prop:=∃ q,H w=some (.tup [.int n,.ref q])∧TsAt H q ts
theorem PsAt.tp {H H':Hp}{ps:List (Addr×List Int)}{ts:List (Int×Int)}(h:PsAt H ps ts)(t:Tp H H'):PsAt H' ps ts:=⟨fun x hx=>t _ _ (h.to x hx),h.eq⟩
theorem TsAt.tp {H H':Hp}{q:Addr}{ts:List (Int×Int)}(h:TsAt H q ts)(t:Tp H H'):TsAt H' q ts:=by
 obtain⟨ps,e,p⟩:=h;exact⟨ps,t _ _ e,p.tp t⟩
theorem WebAt.tp {H H':Hp}{w:Addr}{n:Int}{ts:List (Int×Int)}(h:WebAt H w n ts)(t:Tp H H'):WebAt H' w n ts:=by
 obtain⟨q,e,p⟩:=h;exact⟨q,t _ _ e,p.tp t⟩
theorem PsAt.get {H:Hp}{ps:List (Addr×List Int)}{ts:List (Int×Int)}(h:PsAt H ps ts){i:Nat}{v:V}(e:(ps.map fun x=>V.ref x.1)[i]?=some v) :
  ∃ a t,v=.ref a∧ts[i]?=some t∧H a=some (.tup [.int t.1,.int t.2]):=by
 rw[List.getElem?_map] at e;cases hx:ps[i]? with
 | none=>rw[hx] at e;cases e
 | some x =>
  rw[hx] at e;have e1:V.ref x.1=v:=Option.some.inj e;have e2:(ps.map (·.2))[i]?=some x.2:=by rw[List.getElem?_map,hx];rfl
  rw[h.eq,List.getElem?_map] at e2;cases ht:ts[i]? with
  | none=>rw[ht] at e2;cases e2
  | some t =>
   rw[ht] at e2;have e3:tl t=x.2:=Option.some.inj e2;refine⟨x.1,t,e1.symm,rfl,?_⟩;rw[h.to x (List.mem_of_getElem? hx),← e3];rfl
theorem PsAt.len {H:Hp}{ps:List (Addr×List Int)}{ts:List (Int×Int)}(h:PsAt H ps ts):ps.length=ts.length:=by
 have:=congrArg List.length h.eq;simpa using this
def un (l:List Int):Int×Int:=(l.getD 0 0,l.getD 1 0)
theorem un_tl (t:Int×Int):un (tl t)=t:=rfl
theorem PsAt.of_perm {H:Hp}{ps:List (Addr×List Int)}{ts:List (Int×Int)}(h:∀ x∈ps,H x.1=some (.tup (x.2.map V.int)))(pm:(ps.map (·.2)).Perm (ts.map tl)):∃ ts',ts'.Perm ts∧PsAt H ps ts':=by
 refine⟨(ps.map (·.2)).map un,?_,h,?_⟩
 ·have:=pm.map un;rw[List.map_map (l:=ts),show (un ∘ tl)=id from funext un_tl,List.map_id] at this;exact this
 ·rw[List.map_map];conv=>lhs;rw[← List.map_id (ps.map (·.2))]
  refine List.map_congr_left fun l hl=>?_
  obtain⟨t,_,rfl⟩:=List.mem_map.mp (pm.mem_iff.mp hl);rfl
theorem PsAt.perm {H:Hp}{ps ps':List (Addr×List Int)}{ts:List (Int×Int)}(h:PsAt H ps ts)(pm:ps'.Perm ps):∃ ts',ts'.Perm ts∧PsAt H ps' ts' :=
 PsAt.of_perm (fun x hx=>h.to x (pm.mem_iff.mp hx)) (by rw[← h.eq];exact pm.map _)
theorem PsAt.srt {H:Hp}{ps:List (Addr×List Int)}{ts:List (Int×Int)}(h:PsAt H ps ts)(s:ps.Pairwise fun x y=>HT.lexLt y.2 x.2=false):ts.Pairwise fun x y=>HT.lexLt (tl y) (tl x)=false:=by
 have h1:(ps.map (·.2)).Pairwise fun x y=>HT.lexLt y x=false:=List.pairwise_map.mpr s
 rw[h.eq] at h1;exact List.pairwise_map.mp h1
theorem PsAt.src {K:PySem.W.Frag}{H:Hp}{p:Addr}{ps:List (Addr×List Int)}{ts:List (Int×Int)}(h:PsAt H ps ts)(e:H p=some (.lst (ps.map fun x=>V.ref x.1)))(hl:ps.length<64:=by omega):SrcT K H p ps:=by
 refine⟨.inl (SqL.of e),fun x hx=>⟨h.to x hx,fun e2=>?_⟩,hl⟩;have:x.2∈ps.map (·.2):=List.mem_map_of_mem hx;rw[h.eq] at this;obtain⟨t,_,e3⟩:=List.mem_map.mp this;rw[e2] at e3;cases e3
theorem PsAt.snoc {H:Hp}{ps:List (Addr×List Int)}{ts:List (Int×Int)}(h:PsAt H ps ts){q:Addr}{t:Int×Int}(e:H q=some (.tup [.int t.1,.int t.2])):PsAt H (ps++[(q,tl t)]) (ts++[t]):=by
 refine⟨fun x hx=>?_,by rw[List.map_append,List.map_append,h.eq];rfl⟩;rcases List.mem_append.mp hx with hx | hx
 ·exact h.to x hx
 ·cases List.mem_singleton.mp hx;exact e
def kvT (fs:List (Int×Int)):List (List Key×V):=fs.map fun t=>([.inl t.1,.inl t.2],V.bl true)
def addT (fs:List (Int×Int))(t:Int×Int):List (Int×Int):=if t∈fs then fs else fs++[t]
theorem mem_addT {fs:List (Int×Int)}{t x:Int×Int}:x∈addT fs t↔x∈fs∨x=t:=by
 unfold addT;split
 ·exact⟨.inl,fun h=>h.elim id fun e=>by subst e;assumption⟩
 ·simp
theorem nd_addT {fs:List (Int×Int)}{t:Int×Int}(h:fs.Nodup):(addT fs t).Nodup:=by
 unfold addT;split
 ·exact h
 ·rename_i hn;rw[List.nodup_append];exact⟨h,by simp,fun a ha b hb e=>hn (by simp at hb;subst hb;subst e;exact ha)⟩
theorem len_addT {fs:List (Int×Int)}{t:Int×Int}:(addT fs t).length≤fs.length+1:=by
 unfold addT;split<;>simp
theorem kvT_put_len {fs:List (Int×Int)}(h:fs.length≤1000):(kvT fs).length<sizeLine:=by unfold kvT;rw[List.length_map];exact sizeBig (by omega)
theorem put_kvT (fs:List (Int×Int))(a b:Int):putK (kvT fs) [Sum.inl a,Sum.inl b] (V.bl true)=kvT (addT fs (a,b)):=by
 have key:∀ t:Int×Int,(([Sum.inl t.1,Sum.inl t.2]:List Key)=[Sum.inl a,Sum.inl b])↔t=(a,b):=fun t=>by
  obtain⟨x,y⟩:=t;constructor
  ·intro e;injection e with e1 e2
   injection e2 with e2 _
   injection e1 with e1
   injection e2 with e2
   subst e1;subst e2;rfl
  ·intro e;cases e;rfl
 unfold putK addT;by_cases h:(a,b)∈fs
 ·have h1:((kvT fs).any fun kv=>decide (kv.1=[Sum.inl a,Sum.inl b]))=true:=by
   rw[List.any_eq_true];exact⟨_,List.mem_map_of_mem h,by simp⟩
  rw[if_pos h1,if_pos h];unfold kvT;rw[List.map_map];refine List.map_congr_left fun t ht=>?_
  show (if _ then _ else _)=_;split<;>rfl
 ·have h1:¬ ((kvT fs).any fun kv=>decide (kv.1=[Sum.inl a,Sum.inl b]))=true:=by
   rw[List.any_eq_true];rintro⟨kv,hk,e⟩;obtain⟨t,ht,rfl⟩:=List.mem_map.mp hk;have:=(key t).mp (of_decide_eq_true e);subst this;exact h ht
  rw[if_neg h1,if_neg h];unfold kvT;rw[List.map_append];rfl
theorem kvT_keys (fs:List (Int×Int)):(kvT fs).map (·.1)=(fs.map tl).map (fun ks=>ks.map (Sum.inl:Int→Key)):=by
 unfold kvT tl;rw[List.map_map,List.map_map];rfl
def nm (ks:List Int)(u:Int):Int:=ks.getD u.toNat 0
section
variable {ks:List Int}{n:Int}
theorem lex_iff {t u:Int×Int}:HT.lexLt (tl t) (tl u)=true↔Lex t u:=by
 unfold tl Lex;rw[HT.lexLt_cons];split
 ·rename_i h;rw[HT.lexLt_cons];split
  ·rename_i h2;constructor
   ·intro e;cases e
   ·intro e;omega
  ·rename_i h2;rw[decide_eq_true_iff];constructor
   ·intro e;exact .inr ⟨h,e⟩
   ·intro e;rcases e with e | e
    ·omega
    ·exact e.2
 ·rename_i h;rw[decide_eq_true_iff];constructor
  ·intro e;exact .inl e
  ·intro e;rcases e with e | e
   ·exact e
   ·exact absurd e.1 h
end
end L2
end
section
namespace L2
open PySem
def nb (ts:List (Int×Int))(v:Int):List Int:=ts.filterMap fun t=>if t.1=v then some t.2 else if t.2=v then some t.1 else none
def rowsOf (n:Int)(ts:List (Int×Int)):List (List Int):=(List.range n.toNat).map fun (v:Nat)=>nb ts (v:Int)
structure RowsAt (H:Hp)(p:Addr)(as:List Addr)(rows:List (List Int)):Prop where
 top:H p=some (.lst (as.map V.ref))
 len:as.length=rows.length
 nd:as.Nodup
 np:p∉as
 row:∀ (i:Nat) a r,as[i]?=some a→rows[i]?=some r→H a=some (.lst (r.map V.int))
section
variable {H H':Hp}{p:Addr}{as:List Addr}{rows:List (List Int)}
theorem RowsAt.mono (h:RowsAt H p as rows)(k:∀ a o,a=p∨a∈as→H a=some o→H' a=some o):RowsAt H' p as rows :=
 ⟨k _ _ (.inl rfl) h.top,h.len,h.nd,h.np,fun i a r ha hr=>k _ _ (.inr (List.mem_of_getElem? ha)) (h.row i a r ha hr)⟩
theorem RowsAt.same (h:RowsAt H p as rows)(s:Same H H'):RowsAt H' p as rows:=h.mono fun a o _ e=>s a o e
theorem RowsAt.kp {d:Addr}(h:RowsAt H p as rows)(k:Kp d H H')(hp:d≠p)(ha:d∉as):RowsAt H' p as rows :=
 h.mono fun a o q e=>k a o (fun e2=>by subst e2;exact q.elim hp ha) e
theorem RowsAt.app (h:RowsAt H p as rows){i:Nat}{a:Addr}{r:List Int}(ha:as[i]?=some a)(hr:rows[i]?=some r)(x:Int):RowsAt (upd H a (.lst ((r++[x]).map V.int))) p as (rows.set i (r++[x])):=by
 have hpa:p≠a:=fun e=>h.np (by rw[e];exact List.mem_of_getElem? ha)
 refine⟨by rw[upd_ne hpa];exact h.top,by rw[List.length_set];exact h.len,h.nd,h.np,fun j b s hb hs=>?_⟩;by_cases e:j=i
 ·subst e;rw[ha] at hb;cases hb;rw[List.getElem?_set_self (List.getElem?_eq_some_iff.mp hr).1] at hs;cases hs;exact upd_same
 ·have hba:b≠a:=fun e2=>by
   subst e2;exact e ((List.getElem?_inj (List.getElem?_eq_some_iff.mp hb).1 h.nd).mp (by rw[hb,ha]))
  rw[List.getElem?_set_ne (Ne.symm e)] at hs;rw[upd_ne hba];exact h.row j b s hb hs
theorem RowsAt.snoc (h:RowsAt H p as rows){q:Addr}(hq:H q=none){r:List Int}:RowsAt (upd (upd H q (.lst (r.map V.int))) p (.lst ((as++[q]).map V.ref))) p (as++[q]) (rows++[r]):=by
 have hpq:p≠q:=ne_of_none h.top hq;have hqa:q∉as:=fun hm=>by
  obtain⟨i,hi,e⟩:=List.getElem_of_mem hm;have hi2:i<rows.length:=by have:=h.len;omega
  have:=h.row i q rows[i] (by rw[List.getElem?_eq_getElem hi,e]) (List.getElem?_eq_getElem hi2);rw[hq] at this;cases this
 refine⟨upd_same,by rw[List.length_append,List.length_append,h.len];rfl,?_,?_,?_⟩
 ·rw[List.nodup_append];exact⟨h.nd,by simp,fun a ha b hb e=>by simp at hb;subst hb;subst e;exact hqa ha⟩
 ·intro hm;rcases List.mem_append.mp hm with hm | hm
  ·exact h.np hm
  ·exact hpq (List.mem_singleton.mp hm)
 ·intro i a s ha hs;by_cases hi:i<as.length
  ·rw[List.getElem?_append_left hi] at ha;rw[List.getElem?_append_left (by rw[← h.len];exact hi)] at hs;have ham:=List.mem_of_getElem? ha;have h1:a≠p:=fun e=>by subst e;exact h.np ham
   have h2:a≠q:=fun e=>by subst e;exact hqa ham
   rw[upd_ne h1,upd_ne h2];exact h.row i a s ha hs
  ·rw[List.getElem?_append_right (by omega)] at ha;rw[List.getElem?_append_right (by rw[← h.len];omega)] at hs;have e0:i-as.length=0:=by
    have:=(List.getElem?_eq_some_iff.mp ha).1;simp at this;omega
   rw[e0] at ha;rw[← h.len,e0] at hs;cases ha;cases hs;rw[upd_ne hpq.symm,upd_same]
theorem RowsAt.nil (h:H p=some (.lst [])):RowsAt H p [] []:=⟨h,rfl,by simp,by simp,fun i a r ha=>by cases ha⟩
theorem RowsAt.get (h:RowsAt H p as rows){v:Int}(h0:0≤v){r:List Int}(hr:rows[v.toNat]?=some r):∃ a,as[v.toNat]?=some a∧atI (as.map V.ref) v=some (.ref a)∧H a=some (.lst (r.map V.int))∧a≠p:=by
 have hl:=(List.getElem?_eq_some_iff.mp hr).1;have hl2:v.toNat<as.length:=by have:=h.len;omega
 have ha:as[v.toNat]?=some as[v.toNat]:=List.getElem?_eq_getElem hl2;refine⟨_,ha,?_,h.row _ _ _ ha hr,fun e=>h.np (by rw[← e];exact List.mem_of_getElem? ha)⟩;have:=atI_nat (xs:=as.map V.ref) (j:=v.toNat) (v:=V.ref as[v.toNat]) (by rw[List.getElem?_map,ha];rfl);rw[Int.toNat_of_nonneg h0] at this;exact this
end
theorem rowsOf_get {n:Int}{ts:List (Int×Int)}{v:Int}(h0:0≤v)(h1:v<n):(rowsOf n ts)[v.toNat]?=some (nb ts v):=by
 unfold rowsOf;rw[List.getElem?_map,List.getElem?_range (by omega)];show some (nb ts ((v.toNat:Nat):Int))=_;rw[Int.toNat_of_nonneg h0]
theorem rowsOf_len (n:Int)(ts:List (Int×Int)):(rowsOf n ts).length=n.toNat:=by unfold rowsOf;simp
theorem nb_snoc (ts:List (Int×Int))(t:Int×Int)(v:Int):nb (ts++[t]) v=nb ts v++(if t.1=v then [t.2] else if t.2=v then [t.1] else []):=by
 unfold nb;rw[List.filterMap_append];congr 1;by_cases h1:t.1=v
 ·simp[h1]
 ·by_cases h2:t.2=v
  ·simp[h1,h2]
  ·simp[h1,h2]
theorem rowsOf_snoc {n:Int}{ts:List (Int×Int)}{t:Int×Int}(h0:0≤t.1)(h1:t.1<t.2)(h2:t.2<n) :
  rowsOf n (ts++[t])=((rowsOf n ts).set t.1.toNat (nb ts t.1++[t.2])).set t.2.toNat (nb ts t.2++[t.1]):=by
 refine List.ext_getElem? fun i=>?_
 by_cases hi:i<n.toNat
 ·have hl:∀ us:List (Int×Int),(rowsOf n us)[i]?=some (nb us (i:Int)):=fun us=>by
   have:=rowsOf_get (n:=n) (ts:=us) (v:=(i:Int)) (by omega) (by omega);simpa using this
  rw[hl,nb_snoc];by_cases e2:i=t.2.toNat
  ·subst e2;rw[List.getElem?_set_self (by rw[List.length_set,rowsOf_len];exact hi)];rw[Int.toNat_of_nonneg (by omega),if_neg (by omega),if_pos rfl]
  ·rw[List.getElem?_set_ne (Ne.symm e2)];by_cases e1:i=t.1.toNat
   ·subst e1;rw[List.getElem?_set_self (by rw[rowsOf_len];exact hi)];rw[Int.toNat_of_nonneg h0,if_pos rfl]
   ·rw[List.getElem?_set_ne (Ne.symm e1),hl,if_neg (by omega),if_neg (by omega),List.append_nil]
 ·rw[List.getElem?_eq_none (by rw[rowsOf_len];omega),List.getElem?_eq_none (by rw[List.length_set,List.length_set,rowsOf_len];omega)]
theorem mem_nb {ts:List (Int×Int)}{v x:Int}:x∈nb ts v↔(v,x)∈ts∨((x,v)∈ts)∧(x≠v∨(v,x)∈ts):=by
 unfold nb;rw[List.mem_filterMap];constructor
 ·rintro⟨t,ht,e⟩;obtain⟨a,b⟩:=t;dsimp only at e;split at e
  ·rename_i h;cases e;subst h;exact .inl ht
  ·rename_i h;split at e
   ·rename_i h2;cases e;subst h2;exact .inr ⟨ht,.inl h⟩
   ·cases e
 ·rintro (h | ⟨h,h'⟩)
  ·exact⟨_,h,by simp⟩
  ·rcases h' with h' | h'
   ·exact⟨_,h,by simp[h']⟩
   ·exact⟨_,h',by simp⟩
def TsOk (n:Int)(ts:List (Int×Int)):Prop:=∀ t∈ts,0≤t.1∧t.1<t.2∧t.2<n
theorem nb_sym {n:Int}{ts:List (Int×Int)}(h:TsOk n ts){v x:Int}:x∈nb ts v↔v∈nb ts x:=by
 rw[mem_nb,mem_nb];constructor
 ·rintro (q | ⟨q,q'⟩)
  ·exact .inr ⟨q,.inl (by have:=h _ q;dsimp only at this;omega)⟩
  ·exact .inl q
 ·rintro (q | ⟨q,q'⟩)
  ·exact .inr ⟨q,.inl (by have:=h _ q;dsimp only at this;omega)⟩
  ·exact .inl q
theorem nb_rng {n:Int}{ts:List (Int×Int)}(h:TsOk n ts){v x:Int}(hx:x∈nb ts v):0≤x∧x<n∧0≤v∧v<n∧x≠v:=by
 rcases mem_nb.mp hx with q | ⟨q,_⟩
 ·have:=h _ q;dsimp only at this;omega
 ·have:=h _ q;dsimp only at this;omega
theorem nb_lt {n:Int}{ts:List (Int×Int)}(h:TsOk n ts)(hs:ts.Pairwise Lex)(v:Int):(nb ts v).Pairwise (·<·):=by
 unfold nb;rw[List.pairwise_filterMap];refine List.Pairwise.imp_of_mem ?_ hs;intro a b ha hb hab x hx y hy;have h1:=h a ha;have h2:=h b hb;unfold Lex at hab;have cx:(a.1=v∧a.2=x)∨(a.2=v∧a.1=x):=by
  split at hx
  ·rename_i q;cases hx;exact .inl ⟨q,rfl⟩
  ·split at hx
   ·rename_i q;cases hx;exact .inr ⟨q,rfl⟩
   ·cases hx
 have cy:(b.1=v∧b.2=y)∨(b.2=v∧b.1=y):=by
  split at hy
  ·rename_i q;cases hy;exact .inl ⟨q,rfl⟩
  ·split at hy
   ·rename_i q;cases hy;exact .inr ⟨q,rfl⟩
   ·cases hy
 omega
theorem nb_len {ts:List (Int×Int)}(v:Int):(nb ts v).length≤ts.length:=by unfold nb;exact List.length_filterMap_le _ _
theorem sorted_self {l l':List Int}(p:l'.Perm l)(s:l'.Pairwise (·≤·))(h:l.Pairwise (·<·)):l'=l :=
 List.Perm.eq_of_pairwise (le:=(·≤·)) (fun _ _ _ _ a b=>Int.le_antisymm a b) s (h.imp fun a=>Int.le_of_lt a) p
theorem rising_ext {l l':List Int}(h:l.Pairwise (·<·))(h':l'.Pairwise (·<·))(e:∀ x,x∈l↔x∈l'):l=l':=by
 refine List.Perm.eq_of_pairwise (le:=(·<·)) (fun a b _ _ x y=>by omega) h h' ?_;refine (List.perm_ext_iff_of_nodup (h.imp fun x e=>by omega) (h'.imp fun x e=>by omega)).mpr e
structure FrAt (H Hc:Hp)(p:Addr)(as:List Addr)(rows:List (List Int)):Prop where
 same:Same H Hc
 np:H p=none
 na:∀ a∈as,H a=none
 rows:RowsAt Hc p as rows
theorem rowsOf_nil (n:Int):rowsOf n []=List.replicate n.toNat []:=by
 unfold rowsOf nb;refine List.ext_getElem? fun i=>?_
 by_cases h:i<n.toNat
 ·rw[List.getElem?_map,List.getElem?_range h,List.getElem?_replicate,if_pos h];rfl
 ·rw[List.getElem?_eq_none (by simp;omega),List.getElem?_eq_none (by simp;omega)]
theorem FrAt.step {H Hc:Hp}{p:Addr}{as:List Addr}{n:Int}{us:List (Int×Int)}{t:Int×Int}(h:FrAt H Hc p as (rowsOf n us))(h0:0≤t.1)(h1:t.1<t.2)(h2:t.2<n) :
  ∃ a1 a2,atI (as.map V.ref) t.1=some (.ref a1)∧Hc a1=some (.lst ((nb us t.1).map V.int))∧(upd Hc a1 (.lst ((nb us t.1).map V.int++[V.int t.2]))) p=some (.lst (as.map V.ref))∧atI (as.map V.ref) t.2=some (.ref a2) ∧
   (upd Hc a1 (.lst ((nb us t.1).map V.int++[V.int t.2]))) a2=some (.lst ((nb us t.2).map V.int)) ∧
   FrAt H (upd (upd Hc a1 (.lst ((nb us t.1).map V.int++[V.int t.2]))) a2 (.lst ((nb us t.2).map V.int++[V.int t.1]))) p as (rowsOf n (us++[t])):=by
 have g1:=rowsOf_get (n:=n) (ts:=us) h0 (show t.1<n by omega);have g2:=rowsOf_get (n:=n) (ts:=us) (show 0≤t.2 by omega) h2;obtain⟨a1,e1,r1,c1,p1⟩:=h.rows.get h0 g1;have R1:=h.rows.app e1 g1 t.2;have g2':((rowsOf n us).set t.1.toNat (nb us t.1++[t.2]))[t.2.toNat]?=some (nb us t.2):=by
  rw[List.getElem?_set_ne (by omega)];exact g2
 obtain⟨a2,e2,r2,c2,p2⟩:=R1.get (show 0≤t.2 by omega) g2';have R2:=R1.app e2 g2' t.1;rw[← rowsOf_snoc h0 h1 h2] at R2;rw[List.map_append] at R1 R2 c2;rw[List.map_append] at R2;refine⟨a1,a2,r1,c1,R1.top,r2,c2,?_,h.np,h.na,R2⟩;exact (h.same.upd (h.na _ (List.mem_of_getElem? e1))).upd (h.na _ (List.mem_of_getElem? e2))
def inv_rows1 (H:Hp)(p:Addr)(i:Nat)(τ:St)(Hc:Hp):Prop:=∃ (c:Option V) (as:List Addr),τ=[c]∧FrAt H Hc p as (List.replicate i [])
theorem TsAt.get {H:Hp}{q:Addr}{ts:List (Int×Int)}(h:TsAt H q ts):∃ xs,H q=some (.tup xs)∧xs.length=ts.length∧∀ (i:Nat) v,xs[i]?=some v→∃ a t,v=.ref a∧ts[i]?=some t∧H a=some (.tup [.int t.1,.int t.2]):=by
 obtain⟨ps,e,hp⟩:=h;exact⟨_,e,by rw[List.length_map];exact hp.len,fun i v hv=>hp.get hv⟩
def sp_nrows:Sp:=fun vs H Q _=>∃ (w:Addr) (n:Int) (ts:List (Int×Int)),vs=[.ref w]∧WebAt H w n ts∧0≤n∧n≤1000∧ts.length≤1000∧TsOk n ts ∧
 ∀ (p:Addr) (as:List Addr) (H':Hp),Same H H'→H p=none→(∀ a∈as,H a=none)→RowsAt H' p as (rowsOf n ts)→Q (.ref p) H'
def sp_near:Sp:=fun vs H Q _=>∃ (w:Addr) (n:Int) (ts:List (Int×Int)),vs=[.ref w]∧WebAt H w n ts∧0≤n∧n≤60∧ts.length≤1000∧TsOk n ts∧ts.Pairwise Lex ∧
 ∀ (p:Addr) (as:List Addr) (H':Hp),Same H H'→H p=none→(∀ a∈as,H a=none)→RowsAt H' p as (rowsOf n ts)→Q (.ref p) H'
end L2
end
section
namespace L2
open PySem
theorem inV_int (x:Int)(us:List Int):inV (.int x) (us.map V.int)=decide (x∈us):=by
 unfold inV;induction us with
 | nil=>rfl
 | cons u r ih =>
  rw[List.map_cons,List.any_cons,ih];show (decide (u=x) || _)=_;by_cases h:u=x
  ·subst h;simp
  ·have h':¬ x=u:=fun e=>h e.symm
   simp[h,h']
theorem flat_ints (us:List Int):(us.map V.int).all flatV=true:=by
 rw[List.all_eq_true];intro v hv;obtain⟨u,_,rfl⟩:=List.mem_map.mp hv;rfl
section
variable {K:PySem.W.Frag}{H:Hp}{p:Addr}{us:List Int}{x:Int}{Q:VK}
theorem in_use (h:SqL K H p (us.map V.int)∨SqT K H p (us.map V.int))(q:Q (.bl (decide (x∈us))) H):rIn K false (.int x) (.ref p) H Q :=
 ⟨p,_,rfl,h,rfl,flat_ints us,by rw[inV_int];exact q⟩
theorem notin_use (h:SqL K H p (us.map V.int)∨SqT K H p (us.map V.int))(q:Q (.bl (!decide (x∈us))) H):rIn K true (.int x) (.ref p) H Q :=
 ⟨p,_,rfl,h,rfl,flat_ints us,by rw[inV_int];exact q⟩
end
def kvI (us:List Int):List (Key×V):=us.map fun x=>(Sum.inl x,V.bl true)
def addI (us:List Int)(x:Int):List Int:=if x∈us then us else us++[x]
theorem mem_addI {us:List Int}{x y:Int}:y∈addI us x↔y∈us∨y=x:=by
 unfold addI;split
 ·exact⟨.inl,fun h=>h.elim id fun e=>by subst e;assumption⟩
 ·simp
theorem nd_addI {us:List Int}{x:Int}(h:us.Nodup):(addI us x).Nodup:=by
 unfold addI;split
 ·exact h
 ·rename_i hn;rw[List.nodup_append];exact⟨h,by simp,fun a ha b hb e=>hn (by simp at hb;subst hb;subst e;exact ha)⟩
theorem len_addI {us:List Int}{x:Int}:(addI us x).length≤us.length+1:=by
 unfold addI;split<;>simp
theorem kvI_len (us:List Int):(kvI us).length=us.length:=by unfold kvI;simp
theorem key_inj {a b:Int}:(Sum.inl a:Key)=Sum.inl b↔a=b:=⟨fun e=>by injection e,fun e=>by rw[e]⟩
theorem put_kvI (us:List Int)(x:Int):putK (kvI us) (Sum.inl x) (V.bl true)=kvI (addI us x):=by
 unfold putK addI;by_cases h:x∈us
 ·have h1:((kvI us).any fun kv=>decide (kv.1=Sum.inl x))=true:=by
   rw[List.any_eq_true];exact⟨_,List.mem_map_of_mem h,by simp⟩
  rw[if_pos h1,if_pos h];unfold kvI;rw[List.map_map];refine List.map_congr_left fun t ht=>?_
  show (if _ then _ else _)=_;split<;>rfl
 ·have h1:¬ ((kvI us).any fun kv=>decide (kv.1=Sum.inl x))=true:=by
   rw[List.any_eq_true];rintro⟨kv,hk,e⟩;obtain⟨t,ht,rfl⟩:=List.mem_map.mp hk;have:=key_inj.mp (of_decide_eq_true e);subst this;exact h ht
  rw[if_neg h1,if_neg h];unfold kvI;rw[List.map_append];rfl
theorem val_kvI (us:List Int)(x:Int):(valV (kvI us) (Sum.inl x)).isSome=decide (x∈us):=by
 induction us with
 | nil=>rfl
 | cons u r ih =>
  unfold kvI at ih ⊢;rw[List.map_cons];by_cases h:u=x
  ·rw[valV_pos (key_inj.mpr h)];subst h;simp
  ·rw[valV_neg (fun e=>h (key_inj.mp e)),ih];have h':¬ x=u:=fun e=>h e.symm
   simp[h']
theorem kvI_keys (us:List Int):(kvI us).map (·.1)=us.map (Sum.inl:Int→Key):=by
 unfold kvI;rw[List.map_map];rfl
theorem drop_kvI (us:List Int)(x:Int):dropK (kvI us) (Sum.inl x)=kvI (us.filter fun y=>decide (y≠x)):=by
 unfold dropK kvI;rw[List.filter_map];congr 1;refine List.filter_congr fun y _=>?_
 show decide (_≠_)=_;by_cases h:y=x
 ·subst h;simp
 ·have:¬ (Sum.inl y:Key)=Sum.inl x:=fun e=>h (key_inj.mp e)
  simp[h,this]
theorem kvI_small {us:List Int}(h:us.length≤100000):(kvI us).length<sizeLine:=by rw[kvI_len];exact sizeBig (by omega)
theorem nd_sub:∀ {us l:List Int},us.Nodup→us ⊆ l→us.length≤l.length
 | [],_,_,_=>Nat.zero_le _
 | x::r,l,hn,hs=>by
  have hx:x∈l:=hs (List.mem_cons_self ..);have hn':=List.nodup_cons.mp hn;have:=nd_sub (us:=r) (l:=l.erase x) hn'.2 (fun y hy=>(List.mem_erase_of_ne (fun e=>by subst e;exact hn'.1 hy)).mpr (hs (List.mem_cons_of_mem _ hy)));rw[List.length_erase_of_mem hx] at this;have:=List.length_pos_of_mem hx;rw[List.length_cons];omega
theorem nd_len {us:List Int}{n:Int}(hnd:us.Nodup)(h:∀ x∈us,0≤x∧x<n):us.length≤n.toNat:=by
 have hs:us ⊆ rInts 0 n.toNat:=fun x hx=>by
  obtain⟨h0,h1⟩:=h x hx;unfold rInts;exact List.mem_map.mpr ⟨x.toNat,List.mem_range.mpr (by omega),by omega⟩
 have:=nd_sub hnd hs;rw[rInts_length] at this;exact this
theorem rInts_lt (n:Nat):(rInts 0 n).Pairwise (·<·):=by
 unfold rInts;refine List.pairwise_map.mpr (List.pairwise_lt_range.imp ?_);intro a b h;omega
theorem mem_rInts {n:Nat}{x:Int}:x∈rInts 0 n↔0≤x∧x<n:=by
 unfold rInts;rw[List.mem_map];constructor
 ·rintro⟨i,hi,rfl⟩;have:=List.mem_range.mp hi;omega
 ·rintro⟨h0,h1⟩;exact⟨x.toNat,List.mem_range.mpr (by omega),by omega⟩
theorem fil_pos (p:Int→Bool){x:Int}(h:p x=true):[x].filter p=[x]:=List.filter_cons_of_pos h
theorem fil_neg (p:Int→Bool){x:Int}(h:¬ p x=true):[x].filter p=[]:=List.filter_cons_of_neg h
theorem rising_nd {l:List Int}(h:l.Pairwise (·<·)):l.Nodup:=h.imp fun x e=>by omega
theorem nb_64 {n:Int}{ts:List (Int×Int)}(h:TsOk n ts)(hs:ts.Pairwise Lex)(hn:n≤60)(v:Int):(nb ts v).length<63:=by
 have:=nd_len (rising_nd (nb_lt h hs v)) fun x hx=>⟨(nb_rng h hx).1,(nb_rng h hx).2.1⟩
 omega
theorem sorted_rising {l l':List Int}(p:l'.Perm l)(s:l'.Pairwise (·≤·))(h:l.Nodup):l'.Pairwise (·<·):=by
 refine (List.Pairwise.and s (p.nodup_iff.mpr h)).imp ?_;rintro a b ⟨h1,h2⟩;omega
end L2
end
section
namespace L2
open PySem PySem.Spec PyProof.Rows
theorem cF_lookup {x:Str}{c:Addr}:∀ (names:List (Str×NameKind)) (n:Nat) (acc:List (Str×Addr)),(cellsFrom n names acc).lookup x=some c →
  (acc.lookup x=some c∧∀ y∈names,y.2=.cell→y.1≠x)∨(n≤c∧(x,NameKind.cell)∈names)
 | [],n,acc,h=>.inl ⟨h,fun y hy=>nomatch hy⟩
 | (y,k)::r,n,acc,h=>by
  unfold cellsFrom at h;by_cases hk:(k == NameKind.cell)=true
  ·have ek:k=.cell:=by simpa using hk
   rw[if_pos hk] at h;rcases cF_lookup r (n+1) _ h with ⟨h1,h2⟩ | ⟨h1,h2⟩
   ·rw[lookup_cons'] at h1;by_cases e:x=y
    ·rw[if_pos e] at h1;cases h1;exact .inr ⟨Nat.le_refl _,by rw[e,ek];exact List.mem_cons_self⟩
    ·rw[if_neg e] at h1;refine .inl ⟨h1,fun z hz ez=>?_⟩;rcases List.mem_cons.mp hz with q | q
     ·subst q;exact fun t=>e t.symm
     ·exact h2 z q ez
   ·exact .inr ⟨Nat.le_of_succ_le h1,List.mem_cons_of_mem _ h2⟩
  ·rw[if_neg hk] at h;rcases cF_lookup r n _ h with ⟨h1,h2⟩ | ⟨h1,h2⟩
   ·refine .inl ⟨h1,fun z hz ez=>?_⟩;rcases List.mem_cons.mp hz with q | q
    ·subst q;exact absurd (by rw[show k=NameKind.cell from ez];rfl) hk
    ·exact h2 z q ez
   ·exact .inr ⟨h1,List.mem_cons_of_mem _ h2⟩
theorem cF_inj:∀ (names:List (Str×NameKind)) (n:Nat) (acc:List (Str×Addr)),(∀ x y c,acc.lookup x=some c→acc.lookup y=some c→x=y)→(∀ x c,acc.lookup x=some c→c<n) →
  ∀ x y c,(cellsFrom n names acc).lookup x=some c→(cellsFrom n names acc).lookup y=some c→x=y
 | [],n,acc,h,_=>h
 | (z,k)::r,n,acc,h,hb=>by
  unfold cellsFrom;by_cases hk:(k == NameKind.cell)=true
  ·rw[if_pos hk];refine cF_inj r (n+1) _ (fun x y c e1 e2=>?_) (fun x c e=>?_)
   ·rw[lookup_cons'] at e1 e2;by_cases q1:x=z<;>by_cases q2:y=z
    ·rw[q1,q2]
    ·rw[if_pos q1] at e1;rw[if_neg q2] at e2;cases e1;exact absurd (hb _ _ e2) (Nat.lt_irrefl _)
    ·rw[if_neg q1] at e1;rw[if_pos q2] at e2;cases e2;exact absurd (hb _ _ e1) (Nat.lt_irrefl _)
    ·rw[if_neg q1] at e1;rw[if_neg q2] at e2;exact h x y c e1 e2
   ·rw[lookup_cons'] at e;by_cases q:x=z
    ·rw[if_pos q] at e;cases e;exact Nat.lt_succ_self _
    ·rw[if_neg q] at e;exact Nat.lt_succ_of_lt (hb x c e)
  ·rw[if_neg hk];exact cF_inj r n acc h hb
theorem cF_cells:∀ (names:List (Str×NameKind)) (h:Heap) (acc:List (Str×Addr)),(∀ x c,acc.lookup x=some c→∃ v,h.IsCell c v) →
  ∀ x c,(cellsFrom h.objs.size names acc).lookup x=some c→∃ v,(pushCells h names).IsCell c v
 | [],h,acc,q=>q
 | (z,k)::r,h,acc,q=>by
  unfold cellsFrom pushCells;by_cases hk:(k == NameKind.cell)=true
  ·rw[if_pos hk,if_pos hk]
   have:=cF_cells r (h.push {cls:=.type "cell",data:=.cell none}) ((z,h.objs.size)::acc) (fun x c e=>by
    rw[lookup_cons'] at e;by_cases t:x=z
    ·rw[if_pos t] at e;cases e;exact⟨none,_,Heap.get?_push_size _ rfl,rfl⟩
    ·rw[if_neg t] at e;obtain⟨v,hv⟩:=q x c e
     exact⟨v,hv.keeps fun b o e=>Heap.get?_push_of_some _ e⟩)
   rwa [Heap.size_push] at this
  ·rw[if_neg hk,if_neg hk];exact cF_cells r h acc q
theorem wp_newEnvC {M:Model}{A:Around}{E:Value→Shared→Prop}{s:Shared}{scope:Scope}{globals:Addr}{closure:List (Str×Addr)}{qual:Str}{func:Option Addr}{code:Value}{outer:Env}{builtins:Addr}{Q:Env→Shared→Prop}
  (hQ:Q (newEnv scope s.heap.objs.size globals (cellsFrom (s.heap.objs.size+1) scope.names closure) qual func code (some outer) builtins) {s with heap:=pushCells (s.heap.push {cls:=.type "dict",data:=.dict #[]}) scope.names}) :
  wpAny M A (newFunctionEnv scope globals closure [] qual func code (some outer) builtins) Q E s:=by
 simp only[newFunctionEnv,Option.isSome_some,if_true];refine wpAny_bind (wpAny_alloc ?_);refine wpAny_bind (wpAny_layCells _ (fun name kind cells=>by cases hkc:kind == NameKind.cell<;>simp[hkc]) _ _ _ _ ?_);rw[show ({s with heap:=s.heap.push {cls:=.type "dict",data:=.dict #[]}}:Shared).heap.objs.size=s.heap.objs.size+1 from Heap.size_push ..];refine wpAny_bind ?_;rw[List.forIn_nil];exact wpAny_pure (wpAny_pure hQ)
def compOkC (sc osc:Scope):Bool :=
 (match sc.kind with | .function=>true | _=>false) &&
  sc.names.all fun y=>match y.2 with
   | .local=>(match sc.names.lookup y.1 with | some .local=>true | _=>false)
   | .free=>(match sc.names.lookup y.1 with | some .free=>true | _=>false) && (match osc.names.lookup y.1 with | some .cell=>true | some .free=>true | _=>false)
   | .cell=>(match sc.names.lookup y.1 with | some .cell=>true | _=>false)
   | _=>true
structure CompOkC (sc osc:Scope):Prop where
 kind:sc.kind=.function
 loc:∀ y∈sc.names,y.2=.local→sc.names.lookup y.1=some .local
 cell:∀ y∈sc.names,y.2=.cell→sc.names.lookup y.1=some .cell
 free:∀ y∈sc.names,y.2=.free→osc.names.lookup y.1=some .cell∨osc.names.lookup y.1=some .free
theorem compOkC_of {sc osc:Scope}(h:compOkC sc osc=true):CompOkC sc osc:=by
 unfold compOkC at h;rw[Bool.and_eq_true,List.all_eq_true] at h;obtain⟨h1,h2⟩:=h;refine⟨?_,fun y hy e=>?_,fun y hy e=>?_,fun y hy e=>?_⟩
 ·cases e:sc.kind with
  | function=>rfl
  | _=>rw[e] at h1;cases h1
 ·have:=h2 y hy;rw[e] at this;dsimp only at this;split at this
  ·assumption
  ·cases this
 ·have:=h2 y hy;rw[e] at this;dsimp only at this;split at this
  ·assumption
  ·cases this
 ·have:=h2 y hy;rw[e] at this;dsimp only at this;have:=(Bool.and_eq_true _ _ ▸ this).2;split at this
  ·left;assumption
  ·right;assumption
  ·cases this
def ownCell (sc:Scope)(x:Str):Bool:=match sc.names.lookup x with | some .cell=>true | _=>false
theorem ownCell_of {sc:Scope}{x:Str}(h:ownCell sc x=true):sc.names.lookup x=some .cell:=by
 unfold ownCell at h;split at h
 ·assumption
 ·cases h
def cxD (X:Cx)(scope:Scope)(N':List Str)(pins:List (Addr×Obj))(fp:List Addr)(s:Shared)(H:Hp):Cx where
 prog:=X.prog
 w:=X.w
 K:=X.K
 mg:=X.mg
 base:=X.base
 A:=X.A
 N:=N'
 s₀:=s
 H₀:=H
 env:=compEnvC scope (cellsFrom (s.heap.objs.size+1) scope.names (clo X.env scope.names [])) s.heap.objs.size X.env
 outer:=X.stack
 stack:=X.stack
 ex:=fp
 fn:=ownCell scope
 calm:=true
 pn:=X.pn++pins
 xe:=fun _ _=>False
section
variable {X:Cx}{scope:Scope}{own:List Str}{fr:List (Str×Nat)}{fp:List Addr}{pins:List (Addr×Obj)}{σ:St}{H:Hp}{s:Shared}
theorem inv_compC (I:Inv X pins σ H s)(hc:CompOkC scope X.env.scope)(hcalm:X.calm=true)(hf:∀ b∈fp,FpOk X pins H b)(hlt:∀ b∈fp,b<s.heap.objs.size)(hfr:frOk X scope fr){h1:Heap}{m:Str→Option Value}(hns:h1.Ns s.heap.objs.size m)
  (hsb:∀ b o,s.heap.get? b=some o→h1.get? b=some o) (hcl:∀ x c,(cellsFrom (s.heap.objs.size+1) scope.names (clo X.env scope.names [])).lookup x=some c→∃ v,h1.IsCell c v):Inv (cxD X scope (own++fr.map (·.1)) pins fp s H) [] (st0 own fr σ) H {s with heap:=h1}:=by
 have clX:∀ x c,(clo X.env scope.names []).lookup x=some c→X.env.cells.lookup x=some c:=fun x c e=>by
  rw[clo_lookup] at e;split at e
  ·rename_i q;obtain⟨y,hy,hq⟩:=List.any_eq_true.mp q;rw[Bool.and_eq_true] at hq;have e1:y.1=x:=of_decide_eq_true hq.1;have e2:y.2=.free:=by simpa using hq.2
   obtain⟨c',hc'⟩:=I.ok.has x (by
    have:=hc.free y hy e2;rw[e1] at this
    exact this)
   rw[hc'] at e ⊢;exact e
  ·cases e
 have hlen:∀ b∈frs X.stack,b≠s.heap.objs.size∧b∈X.env.locals::X.fs:=fun b hb=>by
  have hm:=I.stkSub b hb;refine⟨fun z=>?_,hm⟩;rcases List.mem_cons.mp hm with q | q
  ·have:=I.lt;rw[← q,z] at this;exact Nat.lt_irrefl _ this
  ·exact I.nofs (Nat.le_of_eq z.symm) q
 have clN:∀ x c,(cellsFrom (s.heap.objs.size+1) scope.names (clo X.env scope.names [])).lookup x=some c→X.env.cells.lookup x=some c∨s.heap.objs.size<c:=fun x c e=>by
  rcases cF_lookup _ _ _ e with ⟨h1,_⟩ | ⟨h1,_⟩
  ·exact .inl (clX x c h1)
  ·exact .inr h1
 have ok:(cxD X scope (own++fr.map (·.1)) pins fp s H).Ok :=
  {mod:=I.ok.mod
   kind:=hc.kind
   glob:=I.ok.glob
   blt:=I.ok.blt
   above:=Nat.le_refl _
   inj:=cF_inj _ _ _ (fun x y c hx hy=>I.ok.inj x y c (clX x c hx) (clX y c hy)) fun x c e=>by
    obtain⟨v,hv⟩:=I.cell x c (clX x c e);exact Nat.lt_succ_of_lt hv.lt
   has:=fun x hx=>by
    have hx:(relabel scope X.env).names.lookup x=some .cell∨(relabel scope X.env).names.lookup x=some .free:=hx;have key:scope.names.lookup x=some .cell∨scope.names.lookup x=some .free:=by
     rcases hx with hx | hx
     ·obtain⟨k',e1,e2⟩:=relabel_lookup hx;rcases e2 with e2 | ⟨e2,_⟩
      ·subst e2;exact .inl e1
      ·subst e2;exact .inr e1
     ·obtain⟨k',e1,e2⟩:=relabel_lookup hx;rcases e2 with e2 | ⟨e2,e3⟩
      ·subst e2;exact .inr e1
      ·cases e3
    show ∃ c,(cellsFrom (s.heap.objs.size+1) scope.names (clo X.env scope.names [])).lookup x=some c;refine Option.isSome_iff_exists.mp (PySem.W.cellsFrom_some _ _ _ (key.imp id fun q=>?_));rw[clo_lookup,if_pos (List.any_eq_true.mpr ⟨(x,.free),lookup_mem' q,by simp⟩)];rfl
   cab:=fun x c h e=>by
    rcases cF_lookup _ _ _ e with ⟨_,h2⟩ | ⟨h1,_⟩
    ·exact absurd rfl (h2 (x,.cell) (lookup_mem' (ownCell_of h)) rfl)
    ·exact Nat.le_of_lt h1
   hd:=fun _=>I.ok.hd hcalm
   frames:=I.ok.frames
   stk:=.inl rfl
   exf:=fun b hb=>⟨Nat.ne_of_lt (hlt b hb),fun x c e=>by
    rcases clN x c e with q | q
    ·exact (hf b hb).2.2.2.2.1 x c q
    ·exact Nat.ne_of_gt (Nat.lt_trans (hlt b hb) q)⟩
   bs:=I.bs
   bsz:=Nat.le_trans I.ok.bsz I.sz
   noex:=fun b o e hb=>by
    rcases (hf b hb).2.2.2.1 with q | q
    ·exact I.ok.noex b o e q
    ·have h1:b<X.base.objs.size:=Heap.lt_size e;have h2:=I.ok.bsz;exact absurd (Nat.lt_of_lt_of_le h1 h2) (Nat.not_lt.mpr q)
   exfs:=fun b hb hm=>by
    have hm:=I.stkSub b hm;rcases List.mem_cons.mp hm with q | q
    ·exact (hf b hb).2.1 q
    ·exact (hf b hb).2.2.1 q
   funs:=I.stack
   frf:=I.stkFree}
 refine⟨ok,rfl,I.bare,Un.kept hsb,⟨m,hns,fun i x v hx hv hvis=>?_⟩,fun x c e=>?_,I.fresh,fun x c e=>?_,fun p hp=>?_,I.hok.kept hsb,?_⟩
 ·-- the names
  have hi:own.length≤i:=by
   rcases Nat.lt_or_ge i own.length with h | h
   ·unfold st0 at hv;rw[List.getElem?_append_left (by simpa using h),List.getElem?_map] at hv;cases e:own[i]? with
    | none=>rw[e] at hv;cases hv
    | some z=>rw[e] at hv;cases hv
   ·exact h
  have hx:(own++fr.map (·.1))[i]?=some x:=hx;unfold st0 at hv;rw[List.getElem?_append_right (by simpa using hi),List.getElem?_map] at hv;rw[List.getElem?_append_right hi,List.getElem?_map] at hx;rw[List.length_map] at hv;cases e:fr[i-own.length]? with
  | none=>rw[e] at hx;cases hx
  | some p =>
   rw[e] at hx hv;have ex:p.1=x:=Option.some.inj hx;have ev:(σ[p.2]?).join=some v:=Option.some.inj hv;obtain⟨hN,hfree⟩:=hfr p (List.mem_iff_getElem?.mpr ⟨_,e⟩);rw[ex] at hN hfree;have hk:=hc.free (x,.free) (lookup_mem' hfree) rfl;have hσ:σ[p.2]?=some (some v):=by
    cases q:σ[p.2]? with
    | none=>rw[q] at ev;cases ev
    | some o=>rw[q] at ev;exact congrArg some ev
   obtain⟨mX,nX,lX⟩:=I.loc;obtain⟨u,ru,look⟩:=lX p.2 x v hN hσ (.inr hk);refine⟨u,ru,.inr ⟨relabel_free hfree,?_⟩⟩;rcases look with ⟨k1,_⟩ | ⟨_,c,hcc,hcell⟩
   ·exfalso;have k1:X.env.scope.names.lookup x=some .local:=k1;rcases hk with q | q<;>(rw[k1] at q;cases q)
   ·refine⟨c,?_,?_⟩
    ·show (cellsFrom (s.heap.objs.size+1) scope.names (clo X.env scope.names [])).lookup x=_;obtain⟨c',hc'⟩:=ok.has x (relabel_free hfree);have hc':(cellsFrom (s.heap.objs.size+1) scope.names (clo X.env scope.names [])).lookup x=some c':=hc';rw[hc'];rcases cF_lookup _ _ _ hc' with ⟨h1,_⟩ | ⟨_,h2⟩
     ·rw[← clX x c' h1,hcc]
     ·have:=hc.cell (x,.cell) h2 rfl;rw[hfree] at this;cases this
    ·exact hcell.keeps hsb
 ·exact hcl x c e
 ·rcases clN x c e with q | q
  ·exact I.freeC x c q
  ·exact I.hok.fresh (Nat.le_of_lt q)
 ·have hp:p∈X.pn++pins:=by
   rcases List.mem_append.mp hp with q | q
   ·exact q
   ·cases q
  obtain⟨a1,a2,a3,a4,a5⟩:=I.pin p hp;refine⟨hsb _ _ a1,a2,Nat.ne_of_lt (Heap.lt_size a1),fun hm=>?_,a5⟩;have hm:=I.stkSub _ hm;rcases List.mem_cons.mp hm with q | q
  ·exact a3 q
  ·exact a4 q
 ·show (st0 own fr σ).length=(own++fr.map (·.1)).length;unfold st0;rw[List.length_append,List.length_append,List.length_map,List.length_map,List.length_map]
end
section
variable {X:Cx}{elt tg iter:Expr}{ifs:List Expr}{scope:Scope}{pos:Pos}{own:List Str}{fr:List (Str×Nat)}{wi:TI}{g:TG}{tc:TT}{te:TE}
theorem clX_of {scope:Scope}{pins:List (Addr×Obj)}{σ:St}{H:Hp}{s:Shared}(I:Inv X pins σ H s)(hc:CompOkC scope X.env.scope){x:Str}{c:Addr}(e:(clo X.env scope.names []).lookup x=some c):X.env.cells.lookup x=some c:=by
  rw[clo_lookup] at e;split at e
  ·rename_i q;obtain⟨y,hy,hq⟩:=List.any_eq_true.mp q;rw[Bool.and_eq_true] at hq;have e1:y.1=x:=of_decide_eq_true hq.1;have e2:y.2=.free:=by simpa using hq.2
   obtain⟨c',hc'⟩:=I.ok.has x (by
    have:=hc.free y hy e2;rw[e1] at this
    exact this)
   rw[hc'] at e ⊢;exact e
  ·cases e
structure BlkC (X:Cx)(scope:Scope)(N':List Str)(tg:Expr)(ifs:List Expr)(elt:Expr)(g:TG)(tc:TT)(te:TE):Prop where
 run:∀ pins fp s H,PG (cxD X scope N' pins fp s H) tg g∧PTs (cxD X scope N' pins fp s H) ifs tc∧PE (cxD X scope N' pins fp s H) elt te
theorem lcomp_runC {pins:List (Addr×Obj)}{σ:St}{H2:Hp}{s2:Shared}{it:Addr}{fp:List Addr}{tn:Nat→Heap→Prop}{J:It}{EE:Hp→Prop}{RR:Value→Addr→Result→Shared→Prop}{E:Value→Shared→Prop}
  (hcalm:X.calm=true) (hc:CompOkC scope X.env.scope) (hfr:frOk X scope fr) (B:BlkC X scope (own++fr.map (·.1)) tg ifs elt g tc te)
  (I2:Inv X pins σ H2 s2) (T:Turn X.prog X.w X.K tg J fp it tn) (st2:tn 0 s2.heap) (f2:∀ b∈fp,FpOk X pins H2 b)
  (hw:lcW g tc te s2.heap.objs.size J (st0 own fr σ) (upd H2 s2.heap.objs.size (.lst [])) EE)
  (hRR:∀ C H' s' m,EE H'→s'.heap.Ns C m→Inv X pins σ H' s'→CFree X pins H' C→RR (.ref s2.heap.objs.size) C (.ok .next) s') :
  wpAny (model X.prog X.w) X.A (newList []) (fun acc s₃=>wpAny (model X.prog X.w) X.A (newFunctionEnv scope X.env.globals (clo X.env scope.names []) [] X.env.qual none .none (some X.env)) (fun cenv s₄ =>
   codeAny (model X.prog X.w) X.A (.compStart (.ListComp elt [⟨tg,iter,ifs,0⟩] scope pos) 0 (.ref it) acc {cenv with scope:=relabel scope X.env}) (RR acc cenv.locals) s₄) E s₃) E s2:=by
 have I3:Inv X pins σ (upd H2 s2.heap.objs.size (.lst [])) {s2 with heap:=s2.heap.push {cls:=.type "list",data:=.seq ([]:List Value).toArray},toks:=s2.toks}:=I2.lnew (ys:=[]) (its:=[]) (t':=s2.toks) .nil (Nat.zero_le _);generalize hs3:({s2 with heap:=s2.heap.push {cls:=.type "list",data:=.seq ([]:List Value).toArray},toks:=s2.toks}:Shared)=s3 at I3;have hsz3:s3.heap.objs.size=s2.heap.objs.size+1:=by rw[← hs3];exact Heap.size_push ..
 have k3:∀ b o,s2.heap.get? b=some o→s3.heap.get? b=some o:=fun b o e=>by rw[← hs3];exact Heap.get?_push_of_some _ e
 have hlt:∀ b∈fp,b<s2.heap.objs.size:=fun b hb=>let ⟨o,e,_⟩:=T.obj _ _ st2 b hb;Heap.lt_size e
 have f3:∀ b∈fp,FpOk X pins (upd H2 s2.heap.objs.size (.lst [])) b:=fun b hb=>⟨by rw[upd_ne (Nat.ne_of_lt (hlt b hb))];exact (f2 b hb).1,(f2 b hb).2⟩
 have st3:tn 0 s3.heap:=T.keep _ _ _ st2 fun b _ o e=>k3 b o e
 refine wpAny_newObj_type ?_;have e3:({s2 with heap:=s2.heap.push {cls:=.type "list",dict:=none,data:=.seq ([]:List Value).toArray}}:Shared)=s3:=hs3;rw[e3];refine wp_newEnvC ?_;have k4:∀ b o,s3.heap.get? b=some o→(pushCells (s3.heap.push {cls:=.type "dict",data:=.dict #[]}) scope.names).get? b=some o:=fun b o e=>pushCells_keeps _ _ b o (Heap.get?_push_of_some _ e)
 have hns₁:=(Heap.Ns.new s3.heap (.type "dict")).keeps (pushCells_keeps scope.names (s3.heap.push {cls:=.type "dict",data:=.dict #[]}));have hcl:∀ x c,(cellsFrom (s3.heap.objs.size+1) scope.names (clo X.env scope.names [])).lookup x=some c→∃ v,(pushCells (s3.heap.push {cls:=.type "dict",data:=.dict #[]}) scope.names).IsCell c v:=by
  have q:=cF_cells scope.names (s3.heap.push {cls:=.type "dict",data:=.dict #[]}) (clo X.env scope.names []) (fun x c e=>by
   obtain⟨v,hv⟩:=I3.cell x c (clX_of I3 hc e)
   exact⟨v,hv.keeps fun b o e=>Heap.get?_push_of_some _ e⟩)
  rwa [Heap.size_push] at q
 have I4:=inv_compC (own:=own) I3 hc hcalm f3 (fun b hb=>Nat.lt_of_lt_of_le (hlt b hb) (by rw[hsz3];exact Nat.le_succ _)) hfr hns₁ k4 hcl;obtain⟨bg,bt,be⟩:=B.run pins fp s3 (upd H2 s2.heap.objs.size (.lst []));generalize hX':cxD X scope (own++fr.map (·.1)) pins fp s3 (upd H2 s2.heap.objs.size (.lst []))=X' at I4 bg bt be;have eP:X'.prog=X.prog:=by rw[← hX'];rfl
 have eW:X'.w=X.w:=by rw[← hX'];rfl
 have eK:X'.K=X.K:=by rw[← hX'];rfl
 have eA:X'.A=X.A:=by rw[← hX'];rfl
 have eC:X'.calm=true:=by rw[← hX'];rfl
 have eX:X'.xe=fun _ _=>False:=by rw[← hX'];rfl
 have eE:X'.env=compEnvC scope (cellsFrom (s3.heap.objs.size+1) scope.names (clo X.env scope.names [])) s3.heap.objs.size X.env:=by rw[← hX'];rfl
 have fC:∀ {H':Hp},(∀ b∈fp,H' b=none)→∀ b∈fp,FpOk X' [] H' b:=fun hn b hb=>by
  have hb':=f3 b hb;refine⟨hn b hb,?_,?_,?_,?_,?_⟩
  ·exact (I4.ok.exf b (by rw[← hX'];exact hb)).1
  ·exact I4.ok.exfs b (by rw[← hX'];exact hb)
  ·left;rw[← hX'];exact hb
  ·exact (I4.ok.exf b (by rw[← hX'];exact hb)).2
  ·intro p hp;have hp:p∈X.pn++pins:=by
    rw[← hX'] at hp;rcases List.mem_append.mp hp with q | q
    ·exact q
    ·cases q
   exact hb'.2.2.2.2.2 p hp
 obtain⟨W,⟨m0,w0⟩,turn⟩:=hw;have cenvE:({(newEnv scope s3.heap.objs.size X.env.globals (cellsFrom (s3.heap.objs.size+1) scope.names (clo X.env scope.names [])) X.env.qual none .none (some X.env) builtinsNs) with scope:=relabel scope X.env}:Env)=X'.env:=by rw[eE];rfl
 have loop:∀ s4:Shared,Inv X' [] (st0 own fr σ) (upd H2 s2.heap.objs.size (.lst [])) s4→tn 0 s4.heap →
   codeAny (model X.prog X.w) X.A (.compLoop (.ListComp elt [⟨tg,iter,ifs,0⟩] scope pos) 0 (.ref it) (.ref s2.heap.objs.size) X'.env) (RR (.ref s2.heap.objs.size) s3.heap.objs.size) s4:=by
  intro s4 J4 t4;refine lcomp_loop (fun n s'=>∃ i τ H',Inv X' [] τ H' s'∧tn i s'.heap∧(∀ b∈fp,H' b=none)∧W i n τ H') ?_ m0 ⟨0,_,_,J4,t4,fun b hb=>(f3 b hb).1,w0⟩;rintro n s5 ⟨i,τ5,H5,I5,t5,fr5,w5⟩;rcases turn i n τ5 H5 w5 with ⟨stop,qn⟩ | ⟨go,N,hN,step⟩
  ·have hd:=T.done X' eP eW eK eC i [] s5 τ5 H5 (fun _ _=>False) I5 (fC fr5) t5 stop;rw[eA] at hd;refine thn hd fun r s6 ⟨hr,I6⟩=>?_
   subst hr;have hbase:Un (frs X.stack) fp (upd H2 s2.heap.objs.size (.lst [])) H5 s3.heap s6.heap:=by have:=I6.base;rw[← hX'] at this;exact this
   have hok6:HOk X.prog X.w H5 s6.heap:=by have:=I6.hok;rw[eP,eW] at this;exact this
   have os6:s6.os=s3.os:=by have:=I6.os;rw[← hX'] at this;exact this
   obtain⟨m6,n6,_⟩:=I6.loc;have n6:s6.heap.Ns s3.heap.objs.size m6:=by rw[eE] at n6;exact n6
   have free6:H5 s3.heap.objs.size=none:=by have:=I6.free;rw[eE] at this;exact this
   refine hRR s3.heap.objs.size H5 s6 m6 qn n6 (I3.call' os6 hbase hok6 I6.bare fun b hb=>⟨(f3 b hb).2.2.2.1,(f3 b hb).2.1,(f3 b hb).2.2.2.2.1,(f3 b hb).2.2.2.2.2⟩) ⟨free6,?_,I3.sz,?_,?_⟩
   ·exact (Nat.ne_of_lt I3.lt).symm
   ·intro x c e z;obtain⟨v,hv⟩:=I3.cell x c e;have:=hv.lt;rw[z] at this;exact Nat.lt_irrefl _ this
   ·intro p hp z;have:=Heap.lt_size (I3.pin p hp).1;rw[z] at this;exact Nat.lt_irrefl _ this
  ·have hi:=T.item X' eP eW eK eC i [] s5 τ5 H5 (fun _ _=>False) I5 (fC fr5) t5 go;rw[eA] at hi;refine thn hi fun r s6 ⟨u,hr,h6⟩=>?_
   subst hr;refine thn h6 fun _ s7 ⟨x,H7,I7,r7,y7,t7,fr7⟩=>?_
   have I7':=I7.pinned (fC fr7) (T.obj _ _ t7);have again:∀ {τ:St} {H':Hp} {s':Shared},Inv X' ([]++pinsAt fp s7.heap) τ H' s'→N τ H'→∃ m,m<n∧∃ i τ H',Inv X' [] τ H' s'∧tn i s'.heap∧(∀ b∈fp,H' b=none)∧W i m τ H':=fun {τ H' s'} I8 n8=>by
    obtain⟨m',hm,w8⟩:=hN τ H' n8;refine⟨m',hm,i+1,τ,H',I8.unpinned,T.keep _ _ _ t7 fun b hb o e=>(I8.pin (b,o) (List.mem_append_right _ (List.mem_append_right _ (mem_pinsAt hb e)))).1,fun b hb=>?_,w8⟩;obtain⟨o,e,d⟩:=T.obj _ _ t7 b hb;exact (I8.pin (b,o) (List.mem_append_right _ (List.mem_append_right _ (mem_pinsAt hb e)))).2.1
   have hg:=bg _ s7 τ5 H7 x u _ I7' r7 (step x H7 y7);rw[eP,eW,eA,eX] at hg;refine thn hg fun _ s8 ⟨τ8,H8,I8,q8⟩=>?_
   have ht:=bt _ s8 τ8 H8 _ I8 q8;rw[eP,eW,eA,eX] at ht;refine thn ht fun ok s9 ⟨H9,I9,q9⟩=>?_
   cases ok with
   | false=>exact again I9 q9
   | true =>
    rw[if_pos rfl] at q9 ⊢;have hv:=be _ s9 τ8 H9 _ I9 q9;rw[eP,eW,eA,eX] at hv;refine thn hv fun y s10 ⟨v,H10,I10,r10,ys,hl,hlen,n10⟩=>?_
    have ha:=mt_append (X:=X') _ s10 τ8 H10 (.ref s2.heap.objs.size) [v] (.ref s2.heap.objs.size) [y] (fun _ H'=>N τ8 H') I10 rfl (.cons r10 .nil) ⟨_,_,_,rfl,rfl,hl,hlen,n10⟩;rw[eP,eW,eA,eX] at ha;exact thn ha fun _ s11 ⟨_,H11,I11,_,n11⟩=>again I11 n11
 have st4:tn 0 (pushCells (s3.heap.push {cls:=.type "dict",data:=.dict #[]}) scope.names):=T.keep _ _ _ st3 fun b _ o e=>k4 b o e
 show codeAny (model X.prog X.w) X.A (.compStart (.ListComp elt [⟨tg,iter,ifs,0⟩] scope pos) 0 (.ref it) (.ref s2.heap.objs.size) ({(newEnv scope s3.heap.objs.size X.env.globals (cellsFrom (s3.heap.objs.size+1) scope.names (clo X.env scope.names [])) X.env.qual none .none (some X.env) builtinsNs) with scope:=relabel scope X.env}:Env)) (RR (.ref s2.heap.objs.size) s3.heap.objs.size) _;rw[cenvE];exact codeAny_compStart_list (loop _ I4 st4) (T.self X.A 0 _ _ _ st4 (loop _ I4 st4))
theorem clo_okC {pins:List (Addr×Obj)}{σ:St}{H:Hp}{s:Shared}(I:Inv X pins σ H s)(hc:CompOkC scope X.env.scope):closureFor scope X.env=pure (clo X.env scope.names []) :=
 closure_clo fun y hy e=>I.ok.has y.1 (hc.free y hy e)
theorem ps_setLCC {i:Nat}{x:Str}{px spos:Pos}(hcalm:X.calm=true)(hN:X.N.Nodup)(hx:X.N[i]?=some x)(hl:X.env.scope.names.lookup x=some .local)(hsw:swapsWith (.ListComp elt [⟨tg,iter,ifs,0⟩] scope pos) (some (.Name x px)) spos.line X.env=pure true)
  (hc:compOkC scope X.env.scope=true) (hfr:frOk X scope fr) (hi:PI X tg iter wi) (B:BlkC X scope (own++fr.map (·.1)) tg ifs elt g tc te)
  (hs:∀ x,foldedSetIterable iter X.env x=pure x:=by intro _;rfl):PS X (.Assign [.Name x px] (.ListComp elt [⟨tg,iter,ifs,0⟩] scope pos) spos) (tAsg (tLC own fr wi g tc te) (gName i)):=by
 intro pins s σ H D I h;have hc:=compOkC_of hc;rw[exec_Assign_Name_used _ _ _ _ hsw];refine wpAny_bind (wpAny_standAt (wpAny_bind ?_));show wpAny _ X.A (do let _ ← comprehension (.ListComp elt [⟨tg,iter,ifs,0⟩] scope pos) scope X.env _ (newList []) false (eval iter X.env) (some (assign (.Name x px) X.env))) _ _ s
 refine wpAny_bind (wpAny_mono (wpAny_comprehension_free (use:=some (assign (.Name x px) X.env)) (Q:=fun _ s'=>SP X pins D .next s') rfl hs (clo_okC I hc) hc.kind hc.loc
  (thn (hi pins s σ H _ I h) fun v s1 h1=>thn h1 fun itv s2 h2=>?_)) (fun _ s' hq=>wpAny_pure (wpAny_pure hq)) fun _ _ e=>e)
 obtain⟨it,fp,tn,J,H2,e,I2,T,st2,f2,hw⟩:=h2;subst e;refine lcomp_runC (RR:=fun acc C=>compPost (model X.prog X.w) X.A X.xe (some (assign (.Name x px) X.env)) (fun _ s'=>SP X pins D .next s') acc C) hcalm hc hfr B I2 T st2 f2 (hw _ I2.fresh) ?_;intro C H' s' m q n I' f;show wpAny _ X.A (assign (.Name x px) X.env (.ref s2.heap.objs.size)) _ _ _;refine wpAny_assign_Name (store_ok2 I' hN hx (.inl hl) (v:=.ref s2.heap.objs.size) rfl (fun s'' I'' hch=>?_) (.inr hl));obtain⟨a,sb,ha⟩:=hch;have hCa:C≠a:=by
  rcases ha with ha | ha
  ·rw[ha];exact f.loc
  ·exact fun z=>f.cel x a ha z.symm
 exact⟨m,n.sameBut sb hCa,fun h' hs'=>⟨_,H',f.inv I'' hs',q⟩⟩
end
end L2
end
section
local macro_rules | `(tactic| omega)=>`(tactic| first | lia | omega +splitDisjunctions)
namespace STab
open PySem PySem.SetTable
def Ris (xs:Array Nat):Prop:=∀ i j (hi:i<xs.size) (hj:j<xs.size),i<j→xs[i]<xs[j]
theorem go_spec {xs:Array Nat}{j:Nat}(hr:Ris xs):∀ (fuel lo hi:Nat),lo≤hi→hi≤xs.size→hi-lo≤fuel →
  (∀ i (h:i<xs.size),i<lo→xs[i]<j)→(∀ i (h:i<xs.size),hi≤i→j≤xs[i]) →
  below.go xs j fuel lo hi≤xs.size∧(∀ i (h:i<xs.size),i<below.go xs j fuel lo hi→xs[i]<j)∧(∀ i (h:i<xs.size),below.go xs j fuel lo hi≤i→j≤xs[i])
 | 0,lo,hi,h1,h2,h3,h4,h5=>by
  have e:hi=lo:=by omega
  subst e;unfold below.go;exact⟨h2,h4,h5⟩
 | fuel+1,lo,hi,h1,h2,h3,h4,h5=>by
  unfold below.go;by_cases hlt:lo<hi
  ·rw[if_pos hlt];have hm:(lo+hi) / 2<xs.size:=by omega
   have hg:xs.getD ((lo+hi) / 2) j=xs[(lo+hi) / 2]:=by simp[Array.getD,hm]
   dsimp only;rw[hg];by_cases hc:xs[(lo+hi) / 2]<j
   ·rw[if_pos hc];refine go_spec hr fuel _ _ (by omega) h2 (by omega) (fun i h hi'=>?_) h5;by_cases he:i=(lo+hi) / 2
    ·subst he;exact hc
    ·exact Nat.lt_trans (hr i _ h hm (by omega)) hc
   ·rw[if_neg hc];refine go_spec hr fuel _ _ (by omega) (by omega) (by omega) h4 (fun i h hi'=>?_);by_cases he:i=(lo+hi) / 2
    ·subst he;omega
    ·have:=hr _ i hm h (by omega);omega
  ·rw[if_neg hlt];have e:hi=lo:=by omega
   subst e;exact⟨h2,h4,h5⟩
theorem below_spec {xs:Array Nat}(hr:Ris xs)(j:Nat):below xs j≤xs.size∧(∀ i (h:i<xs.size),i<below xs j→xs[i]<j)∧(∀ i (h:i<xs.size),below xs j≤i→j≤xs[i]):=by
 unfold below;exact go_spec hr _ _ _ (Nat.zero_le _) (Nat.le_refl _) (by omega) (fun i h hi=>absurd hi (Nat.not_lt_zero _)) (fun i h hi=>absurd h (Nat.not_lt.mpr hi))
theorem below_at {xs:Array Nat}(hr:Ris xs){i:Nat}(hi:i<xs.size):below xs xs[i]=i:=by
 obtain⟨h1,h2,h3⟩:=below_spec hr xs[i];rcases Nat.lt_trichotomy (below xs xs[i]) i with h | h | h
 ·have:=h3 (below xs xs[i]) (by omega) (Nat.le_refl _);have:=hr _ i (by omega) hi h;omega
 ·exact h
 ·have:=h2 i hi h;omega
theorem below_next {xs:Array Nat}(hr:Ris xs){i:Nat}(hi:i<xs.size):below xs (xs[i]+1)=i+1:=by
 obtain⟨h1,h2,h3⟩:=below_spec hr (xs[i]+1);rcases Nat.lt_trichotomy (below xs (xs[i]+1)) (i+1) with h | h | h
 ·have:=h3 i hi (by omega);omega
 ·exact h
 ·have:=h2 (i+1) (by omega) h;have:=hr i (i+1) hi (by omega) (by omega);omega
theorem below_zero {xs:Array Nat}(hr:Ris xs):below xs 0=0:=by
 obtain⟨h1,h2,h3⟩:=below_spec hr 0;rcases Nat.eq_zero_or_pos (below xs 0) with h | h
 ·exact h
 ·have:=h2 0 (by omega) h;omega
theorem has_none (j:Nat):has #[] j=false:=by
 unfold has;simp
theorem slot_live {t:SetTable}{j i:Nat}(h:t.slot j=.live i):t.place[i]?=some j:=by
 unfold slot at h;dsimp only at h;split at h
 ·rename_i hc;injection h with h
  subst h;simpa using hc
 ·split at h<;>exact Slot.noConfusion h
theorem slot_dummy {t:SetTable}{j:Nat}(hd:t.dummies=#[]):t.slot j≠.dummy:=by
 intro h;unfold slot at h;dsimp only at h;rw[hd,has_none] at h;split at h
 ·exact Slot.noConfusion h
 ·simp at h
theorem slot_empty {t:SetTable}{j:Nat}(hr:Ris t.place)(h:t.slot j=.empty):j∉t.place.toList:=by
 intro hm;obtain⟨i,hi,e⟩:=List.getElem_of_mem hm;have hi':i<t.place.size:=by simpa using hi
 have e':t.place[i]=j:=by simpa using e
 have hb:=below_at hr hi';rw[e'] at hb;unfold slot at h;dsimp only at h;rw[hb,Array.getElem?_eq_getElem hi',e'] at h;simp at h
theorem slot_free {t:SetTable}{j:Nat}(hd:t.dummies=#[])(h:j∉t.place.toList):t.slot j=.empty:=by
 cases hs:t.slot j with
 | empty=>rfl
 | dummy=>exact absurd hs (slot_dummy hd)
 | live i =>
  have:=slot_live hs;exact absurd (by rw[← Array.getElem?_toList] at this;exact List.mem_of_getElem? this) h
theorem ris_of {xs:Array Nat}(h:xs.toList.Pairwise (·<·)):Ris xs:=by
 intro i j hi hj hij;have:=List.pairwise_iff_getElem.mp h i j (by simpa using hi) (by simpa using hj) hij;simpa using this
theorem of_ris {xs:Array Nat}(h:Ris xs):xs.toList.Pairwise (·<·):=by
 refine List.pairwise_iff_getElem.mpr fun i j hi hj hij=>?_
 have:=h i j (by simpa using hi) (by simpa using hj) hij;simpa using this
theorem ris_put {xs:Array Nat}{j:Nat}(hr:Ris xs)(hn:j∉xs.toList):Ris (insertAt xs (below xs j) j):=by
 obtain⟨h1,h2,h3⟩:=below_spec hr j;refine ris_of ?_;rw[toList_insertAt];have hp:=of_ris hr;have hlo:∀ x∈xs.toList.take (below xs j),x<j:=by
  intro x hx;obtain⟨i,hi,e⟩:=List.getElem_of_mem hx;have hi2:i<below xs j∧i<xs.size:=by simp at hi;omega
  have:=h2 i hi2.2 hi2.1;simp at e;rw[← e];exact this
 have hhi:∀ x∈xs.toList.drop (below xs j),j<x:=by
  intro x hx;have hxm:x∈xs.toList:=List.mem_of_mem_drop hx;obtain⟨i,hi,e⟩:=List.getElem_of_mem hx;have hi2:below xs j+i<xs.size:=by simp at hi;omega
  have:=h3 (below xs j+i) hi2 (by omega);simp at e;rw[e] at this;have:j≠x:=fun e=>hn (e ▸ hxm)
  omega
 refine List.pairwise_append.mpr ⟨hp.sublist (List.take_sublist _ _),List.pairwise_cons.mpr ⟨hhi,hp.sublist (List.drop_sublist _ _)⟩,?_⟩;intro a ha b hb;rcases List.mem_cons.mp hb with rfl | hb
 ·exact hlo a ha
 ·exact Nat.lt_trans (hlo a ha) (hhi b hb)
def f5 (N i:Nat):Nat:=(i*5+1) % N
def it5 (N:Nat):Nat→Nat→Nat
 | 0,i=>i
 | n+1,i=>it5 N n (f5 N i)
theorem it5_add (N:Nat):∀ (m n i:Nat),it5 N (m+n) i=it5 N n (it5 N m i)
 | 0,n,i=>by rw[Nat.zero_add];rfl
 | m+1,n,i=>by rw[Nat.succ_add];show it5 N (m+n) (f5 N i)=it5 N n (it5 N m (f5 N i));exact it5_add N m n _
def orb (N:Nat):Nat→Nat→List Nat
 | 0,_=>[]
 | n+1,i=>i::orb N n (f5 N i)
theorem orb_mem (N:Nat):∀ (n i r:Nat),r∈orb N n i→∃ k,k<n∧it5 N k i=r
 | 0,_,_,h=>by simp[orb] at h
 | n+1,i,r,h=>by
  rcases List.mem_cons.mp h with rfl | h
  ·exact⟨0,Nat.succ_pos _,rfl⟩
  ·obtain⟨k,hk,e⟩:=orb_mem N n _ r h;exact⟨k+1,Nat.succ_lt_succ hk,e⟩
structure Full (N:Nat):Prop where
 all:∀ r,r<N→r∈orb N N 0
 back:it5 N N 0=0
theorem full_of {N:Nat}(h1:(List.range N).all (fun r=>(orb N N 0).contains r)=true)(h2:(it5 N N 0 == 0)=true):Full N :=
 ⟨fun r hr=>by have:=List.all_eq_true.mp h1 r (List.mem_range.mpr hr);simpa using this,by simpa using h2⟩
theorem full8:Full 8:=full_of (by decide +kernel) (by decide +kernel)
theorem full32:Full 32:=full_of (by decide +kernel) (by decide +kernel)
theorem full128:Full 128:=full_of (by decide +kernel) (by decide +kernel)
theorem full512:Full 512:=full_of (by decide +kernel) (by decide +kernel)
theorem Full.hit {N:Nat}(F:Full N){i r:Nat}(hi:i<N)(hr:r<N):∃ k,k<N∧it5 N k i=r:=by
 obtain⟨m,hm,em⟩:=orb_mem N N 0 i (F.all i hi);obtain⟨n,hn,en⟩:=orb_mem N N 0 r (F.all r hr);by_cases hmn:m≤n
 ·refine⟨n-m,by omega,?_⟩;have:=it5_add N m (n-m) 0;rw[em,show m+(n-m)=n by omega,en] at this;exact this.symm
 ·refine⟨N-m+n,by omega,?_⟩;have h1:=it5_add N m (N-m) 0;rw[em,show m+(N-m)=N by omega,F.back] at h1;rw[it5_add,← h1,en]
def leaps (mask:Nat):Nat→Nat×Nat→Nat×Nat
 | 0,p=>p
 | n+1,p=>leaps mask n (leap mask p.1 p.2)
theorem leaps_add (mask:Nat):∀ (m n:Nat) (p:Nat×Nat),leaps mask (m+n) p=leaps mask n (leaps mask m p)
 | 0,n,p=>by rw[Nat.zero_add];rfl
 | m+1,n,p=>by rw[Nat.succ_add];show leaps mask (m+n) _=leaps mask n (leaps mask m _);exact leaps_add mask m n _
theorem leaps_snd (mask:Nat):∀ (n:Nat) (p:Nat×Nat),(leaps mask n p).2=p.2 / 32 ^ n
 | 0,p=>by simp[leaps]
 | n+1,p=>by
  show (leaps mask n (leap mask p.1 p.2)).2=_;rw[leaps_snd];show p.2 / 32 / 32 ^ n=_;rw[Nat.div_div_eq_div_mul,Nat.pow_succ,Nat.mul_comm]
theorem leaps_fst (mask:Nat):∀ (n:Nat) (p:Nat×Nat),p.1≤mask→(leaps mask n p).1≤mask
 | 0,p,h=>h
 | n+1,p,h=>leaps_fst mask n _ (Nat.le_of_lt_succ (Nat.mod_lt (p.1*5+1+p.2 / 32) (Nat.succ_pos mask)))
theorem leaps_zero (mask:Nat):∀ (n i:Nat),leaps mask n (i,0)=(it5 (mask+1) n i,0)
 | 0,i=>rfl
 | n+1,i=>by
  show leaps mask n (leap mask i 0)=_;have:leap mask i 0=(f5 (mask+1) i,0):=by simp[leap,f5]
  rw[this,leaps_zero];rfl
theorem leaps_hit {mask:Nat}(F:Full (mask+1)){i perturb r:Nat}(hi:i≤mask)(hp:perturb<2 ^ 64)(hr:r≤mask):∃ n,n<mask+14∧(leaps mask n (i,perturb)).1=r:=by
 have h2:(leaps mask 13 (i,perturb)).2=0:=by
  rw[leaps_snd];exact Nat.div_eq_of_lt (Nat.lt_of_lt_of_le hp (by decide))
 have h1:=leaps_fst mask 13 (i,perturb) hi;have e:leaps mask 13 (i,perturb)=((leaps mask 13 (i,perturb)).1,0):=by rw[← h2]
 obtain⟨k,hk,ek⟩:=F.hit (i:=(leaps mask 13 (i,perturb)).1) (r:=r) (by omega) (by omega);refine⟨13+k,by omega,?_⟩;rw[leaps_add,e,leaps_zero];exact ek
def adv (t:SetTable):Nat→Probe→Probe
 | 0,p=>p
 | n+1,p=>adv t n (t.advance p)
theorem adv_add (t:SetTable):∀ (m n:Nat) (p:Probe),adv t (m+n) p=adv t n (adv t m p)
 | 0,n,p=>by rw[Nat.zero_add];rfl
 | m+1,n,p=>by rw[Nat.succ_add];show adv t (m+n) _=adv t n (adv t m _);exact adv_add t m n _
structure Good (t:SetTable)(p:Probe):Prop where
 i:p.i≤t.mask
 j:p.j+p.more≤t.mask
 more:p.more≤9
 perturb:p.perturb<2 ^ 64
 dummy:p.dummy=none
theorem runEnd_le {mask i:Nat}(h:i≤mask):i≤runEnd mask i∧runEnd mask i≤mask∧runEnd mask i-i≤9:=by
 unfold runEnd;split<;>omega
theorem Good.advance {t:SetTable}{p:Probe}(g:Good t p):Good t (t.advance p):=by
 obtain⟨h1,h2,h3,h4,h5⟩:=g;unfold SetTable.advance;split
 ·exact⟨h1,by simp only;omega,by simp only;omega,h4,h5⟩
 ·have hm:(leap t.mask p.i p.perturb).1≤t.mask:=Nat.le_of_lt_succ (Nat.mod_lt (p.i*5+1+p.perturb / 32) (Nat.succ_pos t.mask));have hr:=runEnd_le hm;have hp:(leap t.mask p.i p.perturb).2<2 ^ 64:=Nat.lt_of_le_of_lt (Nat.div_le_self _ _) h4;exact⟨hm,by simp only;omega,by simp only;omega,hp,h5⟩
theorem good_start (t:SetTable)(h:Int):Good t (t.probeStart h):=by
 have hm:bits h % (t.mask+1)≤t.mask:=Nat.le_of_lt_succ (Nat.mod_lt (bits h) (Nat.succ_pos t.mask));have hr:=runEnd_le hm;refine⟨hm,by simp only[probeStart];omega,by simp only[probeStart];omega,?_,rfl⟩;show bits h<2 ^ 64;unfold bits;have h1:=Int.emod_nonneg h (show (2 ^ 64:Int)≠0 by decide);have h2:=Int.emod_lt_of_pos h (show (0:Int)<2 ^ 64 by decide);have h3:(2 ^ 64:Int)=((2 ^ 64:Nat):Int):=by norm_cast
 omega
theorem to_leap (t:SetTable):∀ (m:Nat) (p:Probe),p.more=m→∃ q,adv t (m+1) p=q∧q.j=(leap t.mask p.i p.perturb).1∧q.i=(leap t.mask p.i p.perturb).1∧q.perturb=(leap t.mask p.i p.perturb).2
 | 0,p,h=>by
  refine⟨_,rfl,?_⟩;show (t.advance p).j=_∧(t.advance p).i=_∧(t.advance p).perturb=_;unfold SetTable.advance;rw[if_neg (by omega)];exact⟨rfl,rfl,rfl⟩
 | m+1,p,h=>by
  have e:t.advance p={p with j:=p.j+1,more:=p.more-1}:=by unfold SetTable.advance;rw[if_pos (by omega)]
  show ∃ q,adv t (m+1) (t.advance p)=q∧_;rw[e];exact to_leap t m {p with j:=p.j+1,more:=p.more-1} (by simp only;omega)
theorem Good.adv {t:SetTable}:∀ (n:Nat) {p:Probe},Good t p→Good t (STab.adv t n p)
 | 0,_,g=>g
 | n+1,_,g=>Good.adv n g.advance
theorem to_leaps (t:SetTable):∀ (n:Nat) (p:Probe),Good t p→p.j=p.i→∃ m,m≤10*n∧(adv t m p).j=(leaps t.mask n (p.i,p.perturb)).1
 | 0,p,_,h=>⟨0,Nat.le_refl _,h⟩
 | n+1,p,g,_=>by
  obtain⟨q,hq,h1,h2,h3⟩:=to_leap t p.more p rfl;have gq:Good t q:=hq ▸ g.adv _;obtain⟨m,hm,e⟩:=to_leaps t n q gq (h1.trans h2.symm);refine⟨p.more+1+m,by have:=g.more;omega,?_⟩;rw[adv_add,hq,e,h2,h3];rfl
theorem start_head (t:SetTable)(h:Int):(t.probeStart h).j=(t.probeStart h).i:=rfl
theorem start_hit {t:SetTable}(F:Full (t.mask+1))(h:Int){r:Nat}(hr:r≤t.mask):∃ n,n<10*turns t.mask∧(adv t n (t.probeStart h)).j=r:=by
 have g:=good_start t h;obtain⟨n,hn,e⟩:=leaps_hit F g.i g.perturb hr;obtain⟨m,hm,e'⟩:=to_leaps t n _ g (start_head t h);refine⟨m,by unfold turns;omega,e'.trans e⟩
theorem probe_go {t:SetTable}{hashAt:Nat→Int}{h:Int}(hd:t.dummies=#[]):∀ (fuel:Nat) (p:Probe) (n:Nat),Good t p→n<fuel→t.slot (adv t n p).j=.empty →
    ∃ k,k≤n∧(∀ k',k'<k→∃ i,t.slot (adv t k' p).j=.live i∧hashAt i≠h) ∧
      ((t.slot (adv t k p).j=.empty∧probe.go t hashAt h fuel p=some (.empty (adv t k p).j none)) ∨
       ∃ i,t.slot (adv t k p).j=.live i∧hashAt i=h∧probe.go t hashAt h fuel p=some (.candidate (adv t k p).j i (t.advance (adv t k p))))
  | 0,p,n,_,hn,_=>absurd hn (Nat.not_lt_zero _)
  | fuel+1,p,n,g,hn,he=>by
    cases hs:t.slot p.j with
    | empty =>
      refine⟨0,Nat.zero_le _,fun k' hk=>absurd hk (Nat.not_lt_zero _),.inl ⟨hs,?_⟩⟩;unfold probe.go;rw[hs];dsimp only;rw[g.dummy];rfl
    | dummy=>exact absurd hs (slot_dummy hd)
    | live i =>
      by_cases hi:hashAt i=h
      · refine⟨0,Nat.zero_le _,fun k' hk=>absurd hk (Nat.not_lt_zero _),.inr ⟨i,hs,hi,?_⟩⟩
        unfold probe.go;rw[hs];dsimp only;rw[if_pos (by simpa using hi)];rfl
      · cases n with
        | zero=>exact absurd (hs.symm.trans he) (by simp)
        | succ n =>
          obtain⟨k,hk,hb,hr⟩:=probe_go hd fuel (t.advance p) n g.advance (by omega) he;refine⟨k+1,by omega,fun k' hk'=>?_,?_⟩
          · cases k' with
            | zero=>exact⟨i,hs,hi⟩
            | succ k'=>exact hb k' (by omega)
          · have e:probe.go t hashAt h (fuel+1) p=probe.go t hashAt h fuel (t.advance p):=by
              rw[probe.go];rw[hs];dsimp only;rw[if_neg (by simpa using hi)]
            rw[e];exact hr
theorem nat_sub:∀ {us l:List Nat},us.Nodup→us ⊆ l→us.length≤l.length
 | [],_,_,_=>Nat.zero_le _
 | x::r,l,hn,hs=>by
  have hx:x∈l:=hs (List.mem_cons_self ..);have hn':=List.nodup_cons.mp hn;have:=nat_sub (us:=r) (l:=l.erase x) hn'.2 (fun y hy=>(List.mem_erase_of_ne (fun e=>by subst e;exact hn'.1 hy)).mpr (hs (List.mem_cons_of_mem _ hy)));rw[List.length_erase_of_mem hx] at this;have:=List.length_pos_of_mem hx;rw[List.length_cons];omega
theorem some_free {N:Nat}{xs:List Nat}(h:xs.length<N):∃ r,r<N∧r∉xs:=by
 apply Classical.byContradiction;intro hn;have hall:∀ r,r∈List.range N→r∈xs:=fun r hr=>Classical.byContradiction fun hx=>hn ⟨r,List.mem_range.mp hr,hx⟩
 have:(List.range N).length≤xs.length:=by
  exact nat_sub List.nodup_range hall
 simp at this;omega
structure Ok (t:SetTable)(n:Nat)(led:Bool):Prop where
 ris:Ris t.place
 dum:t.dummies=#[]
 size:t.place.size=n
 inn:∀ x∈t.place.toList,x≤t.mask
 full:Full (t.mask+1)
 plain:t.plain=true
 led:t.led=led
 room:n*5<t.mask*3
 mask:t.mask=7∨t.mask=31∨t.mask=127∨t.mask=511
theorem ok_fresh (led:Bool):Ok (.fresh 0 0 led) 0 led :=
 ⟨fun i j hi=>absurd hi (Nat.not_lt_zero _),rfl,rfl,fun x h=>by simp[SetTable.fresh] at h,full8,rfl,rfl,(by show 0*5<7*3;decide),.inl rfl⟩
theorem Ok.fill {t:SetTable}{n:Nat}{led:Bool}(o:Ok t n led):t.fill=n:=by unfold SetTable.fill;rw[o.dum,o.size];rfl
theorem Ok.fits {t:SetTable}{n:Nat}{led:Bool}(o:Ok t n led):t.fits n=true:=by
 unfold SetTable.fits;rw[o.fill,o.size];have:=o.room;simp;omega
theorem Ok.hole {t:SetTable}{n:Nat}{led:Bool}(o:Ok t n led):∃ r,r≤t.mask∧t.slot r=.empty:=by
 obtain⟨r,hr,hn⟩:=some_free (N:=t.mask+1) (xs:=t.place.toList) (by have:=o.room;have:=o.size;simp;omega);exact⟨r,by omega,slot_free o.dum hn⟩
theorem Ok.probe {t:SetTable}{n:Nat}{led:Bool}(o:Ok t n led)(hashAt:Nat→Int)(h:Int) :
    ∃ k,(∀ k',k'<k→∃ i,t.slot (adv t k' (t.probeStart h)).j=.live i∧hashAt i≠h) ∧
      ((t.slot (adv t k (t.probeStart h)).j=.empty∧t.probe hashAt h (t.probeStart h)=some (.empty (adv t k (t.probeStart h)).j none)) ∨
       ∃ i,t.slot (adv t k (t.probeStart h)).j=.live i∧hashAt i=h∧t.probe hashAt h (t.probeStart h)=some (.candidate (adv t k (t.probeStart h)).j i (t.advance (adv t k (t.probeStart h))))):=by
  obtain⟨r,hr,he⟩:=o.hole;obtain⟨n,hn,en⟩:=start_hit o.full h hr;obtain⟨k,hk,hb,hx⟩:=probe_go (hashAt:=hashAt) (h:=h) o.dum (10*turns t.mask) (t.probeStart h) n (good_start t h) hn (en ▸ he);exact⟨k,hb,hx⟩
structure Ok1 (t:SetTable)(n:Nat)(led:Bool):Prop where
 ris:Ris t.place
 dum:t.dummies=#[]
 size:t.place.size=n
 inn:∀ x∈t.place.toList,x≤t.mask
 full:Full (t.mask+1)
 plain:t.plain=true
 led:t.led=led
 mask:t.mask=7∨t.mask=31∨t.mask=127∨t.mask=511
 le:n≤t.mask
 last:(n-1)*5<t.mask*3
theorem Ok1.fits {t:SetTable}{n:Nat}{led:Bool}(o:Ok1 t n led):t.fits n=true:=by
 unfold SetTable.fits SetTable.fill;rw[o.dum,o.size];have:=o.le;simp;omega
theorem Ok.put {t:SetTable}{n:Nat}{led:Bool}(o:Ok t n led){j:Nat}(hj:t.slot j=.empty)(hm:j≤t.mask):Ok1 (t.put j).1 (n+1) led:=by
 have hn:=slot_empty o.ris hj;have hd:(t.put j).1.dummies=#[]:=by
  show (if has t.dummies j then eraseAt t.dummies (below t.dummies j) else t.dummies)=#[];rw[o.dum,has_none];rfl
 have hr:=o.room;refine⟨ris_put o.ris hn,hd,?_,?_,o.full,o.plain,o.led,o.mask,?_,?_⟩
 ·show (insertAt t.place (below t.place j) j).size=n+1;rw[← Array.length_toList,(insertAt_perm _ _ _).length_eq];simp[o.size]
 ·intro x hx;have hx':x∈(insertAt t.place (below t.place j) j).toList:=hx;have:=(insertAt_perm t.place (below t.place j) j).mem_iff.mp hx';simp at this;rcases this with h | rfl
  ·exact o.inn x (by simpa using h)
  ·exact hm
 ·show n+1≤t.mask;rcases o.mask with h | h | h | h<;>omega
 ·show (n+1-1)*5<t.mask*3;simpa using hr
theorem Ok1.ok {t:SetTable}{n:Nat}{led:Bool}(o:Ok1 t n led)(h:t.tooFull=false):Ok t n led:=by
 have hf:t.fill=n:=by unfold SetTable.fill;rw[o.dum,o.size];rfl
 refine⟨o.ris,o.dum,o.size,o.inn,o.full,o.plain,o.led,?_,o.mask⟩;unfold SetTable.tooFull at h;rw[hf] at h;simpa using h
theorem free_some {mask:Nat}{owner:Array (Option Nat)}:∀ (fuel i perturb n:Nat),i≤mask→n<fuel→owner.getD (leaps mask n (i,perturb)).1 (some 0)=none →
  ∃ j,layClean.free mask owner fuel i perturb=some j∧owner.getD j (some 0)=none
 | 0,_,_,_,_,hn,_=>absurd hn (Nat.not_lt_zero _)
 | fuel+1,i,perturb,n,hi,hn,he=>by
  unfold layClean.free;cases hf:(List.range (runEnd mask i+1-i)).find? (fun k=>(owner.getD (i+k) (some 0)).isNone) with
  | some k =>
   have:=List.find?_some hf;exact⟨i+k,rfl,by simpa using this⟩
  | none =>
   cases n with
   | zero =>
    have h1:=List.find?_eq_none.mp hf 0 (List.mem_range.mpr (by have:=runEnd_le hi;omega));have he':owner.getD i (some 0)=none:=he;rw[Nat.add_zero,he'] at h1;exact absurd rfl h1
   | succ n =>
    exact free_some fuel _ _ n (leaps_fst mask 1 (i,perturb) hi) (by omega) he
def own (N:Nat)(owner:Array (Option Nat)):List Nat:=(List.range N).filterMap fun j=>owner.getD j none
theorem filterMap_len {α β:Type}{f:α→Option β}:∀ {l:List α},(∀ x∈l,(f x).isSome=true)→(l.filterMap f).length=l.length
 | [],_=>rfl
 | x::l,h=>by
  obtain⟨y,hy⟩:=Option.isSome_iff_exists.mp (h x (List.mem_cons_self ..));rw[List.filterMap_cons_some hy,List.length_cons,List.length_cons,filterMap_len fun z hz=>h z (List.mem_cons_of_mem _ hz)]
theorem fm_congr {α β:Type}{f g:α→Option β}:∀ {l:List α},(∀ x∈l,g x=f x)→l.filterMap g=l.filterMap f
 | [],_=>rfl
 | x::l,h=>by
  have ih:=fm_congr (l:=l) fun y hy=>h y (List.mem_cons_of_mem _ hy)
  rw[List.filterMap_cons,List.filterMap_cons,h x (List.mem_cons_self ..),ih]
theorem filterMap_put {α:Type}{f g:Nat→Option α}{j:Nat}{k:α}:∀ {l:List Nat},l.Nodup→j∈l→f j=none→g j=some k→(∀ x,x≠j→g x=f x)→(l.filterMap g).Perm (k::l.filterMap f)
 | [],_,hj,_,_,_=>by simp at hj
 | x::l,hn,hj,hf,hg,he=>by
  have hn':=List.nodup_cons.mp hn;by_cases hx:x=j
  ·subst hx;rw[List.filterMap_cons_some hg,List.filterMap_cons_none hf];have:l.filterMap g=l.filterMap f:=fm_congr fun y hy=>he y fun e=>hn'.1 (e ▸ hy)
   rw[this]
  ·have hj':j∈l:=(List.mem_cons.mp hj).resolve_left fun e=>hx e.symm
   have ih:=filterMap_put hn'.2 hj' hf hg he;cases hfx:f x with
   | none=>rw[List.filterMap_cons_none hfx,List.filterMap_cons_none ((he x hx).trans hfx)];exact ih
   | some y =>
    rw[List.filterMap_cons_some hfx,List.filterMap_cons_some ((he x hx).trans hfx)];exact (ih.cons y).trans (List.Perm.swap ..)
theorem getD_free {owner:Array (Option Nat)}{j:Nat}(h:owner.getD j (some 0)=none):j<owner.size∧owner.getD j none=none:=by
 by_cases hj:j<owner.size
 ·refine⟨hj,?_⟩;simp[Array.getD,hj] at h ⊢;exact h
 ·simp[Array.getD,hj] at h
def layF (mask:Nat):Option (Array (Option Nat)×Nat)→Int→Option (Array (Option Nat)×Nat):=fun acc h=>do
  let (owner,k) ← acc
  let j ← layClean.free mask owner (turns mask) (bits h % (mask+1)) (bits h)
  pure (owner.setIfInBounds j (some k),k+1)
theorem layF_fold {mask:Nat}(F:Full (mask+1)):∀ (hs:List Int) (owner:Array (Option Nat)) (k:Nat),owner.size=mask+1→(own (mask+1) owner).Perm (List.range k)→k+hs.length≤mask →
  ∃ owner',hs.foldl (layF mask) (some (owner,k))=some (owner',k+hs.length)∧owner'.size=mask+1∧(own (mask+1) owner').Perm (List.range (k+hs.length))
 | [],owner,k,h1,h2,_=>⟨owner,rfl,h1,h2⟩
 | h::hs,owner,k,h1,h2,h3=>by
  rw[List.length_cons] at h3;have hole:∃ r,r≤mask∧owner.getD r (some 0)=none:=by
   apply Classical.byContradiction;intro hn;have:(own (mask+1) owner).length=mask+1:=by
    unfold own;rw[filterMap_len,List.length_range];intro x hx;have hx':x<owner.size:=by rw[h1];exact List.mem_range.mp hx
    have hx2:x≤mask:=by rw[h1] at hx';omega
    cases hg:owner.getD x none with
    | some y=>rfl
    | none =>
     refine absurd ⟨x,hx2,?_⟩ hn;simp[Array.getD,hx'] at hg ⊢;exact hg
   rw[h2.length_eq,List.length_range] at this;omega
  obtain⟨r,hr,er⟩:=hole;have hb:bits h % (mask+1)≤mask:=Nat.le_of_lt_succ (Nat.mod_lt (bits h) (Nat.succ_pos mask));have hp:bits h<2 ^ 64:=(good_start {mask:=mask,place:=#[],dummies:=#[],finger:=0,led:=true,moves:=0,plain:=true} h).perturb;obtain⟨n,hn,en⟩:=leaps_hit F hb hp hr;obtain⟨j,hj,ej⟩:=free_some (owner:=owner) (turns mask) _ (bits h) n hb (by unfold turns;omega) (by rw[en];exact er);obtain⟨hjs,hjn⟩:=getD_free ej;have hstep:layF mask (some (owner,k)) h=some (owner.setIfInBounds j (some k),k+1):=by
   show (do let j ← layClean.free mask owner (turns mask) (bits h % (mask+1)) (bits h);pure (owner.setIfInBounds j (some k),k+1))=_;rw[hj];rfl
  rw[List.foldl_cons,hstep];have hown:(own (mask+1) (owner.setIfInBounds j (some k))).Perm (List.range (k+1)):=by
   refine List.Perm.trans (filterMap_put (j:=j) (k:=k) (f:=fun j=>owner.getD j none) List.nodup_range (List.mem_range.mpr (h1 ▸ hjs)) hjn ?_ ?_) ?_
   ·simp[Array.getD,hjs]
   ·intro x hx;by_cases hxs:x<owner.size
    ·simp[Array.getD,hxs,Array.getElem_setIfInBounds,Ne.symm hx]
    ·simp[Array.getD,hxs]
   ·rw[show List.range (k+1)=List.range k++[k] from List.range_succ];exact (h2.cons k).trans (List.perm_append_singleton k _).symm
  obtain⟨o',e',s',p'⟩:=layF_fold F hs (owner.setIfInBounds j (some k)) (k+1) (by simpa using h1) hown (by omega);refine⟨o',?_,s',?_⟩
  ·rw[e',List.length_cons,show k+1+hs.length=k+(hs.length+1) by omega]
  ·rw[List.length_cons,show k+(hs.length+1)=k+1+hs.length by omega];exact p'
theorem filterMap_pairs {owner:Array (Option Nat)}:∀ l:List Nat,((l.filterMap fun j=>(owner.getD j none).map (j,·)).map (·.2))=l.filterMap fun j=>owner.getD j none
 | []=>rfl
 | x::l=>by
  cases h:owner.getD x none with
  | none=>rw[List.filterMap_cons_none (by rw[h];rfl),List.filterMap_cons_none (f:=fun j=>owner.getD j none) h];exact filterMap_pairs l
  | some y=>rw[List.filterMap_cons_some (b:=(x,y)) (by rw[h];rfl),List.filterMap_cons_some (f:=fun j=>owner.getD j none) h,List.map_cons,filterMap_pairs l]
theorem pairs_fst {owner:Array (Option Nat)}:∀ {l:List Nat},l.Pairwise (·<·)→((l.filterMap fun j=>(owner.getD j none).map (j,·)).map (·.1)).Pairwise (·<·)∧∀ x∈(l.filterMap fun j=>(owner.getD j none).map (j,·)).map (·.1),x∈l
 | [],_=>⟨.nil,fun x h=>h⟩
 | x::l,h=>by
  obtain⟨h1,h2⟩:=List.pairwise_cons.mp h;obtain⟨i1,i2⟩:=pairs_fst (owner:=owner) h2;cases hg:owner.getD x none with
  | none =>
   rw[List.filterMap_cons_none (by rw[hg];rfl)];exact⟨i1,fun y hy=>List.mem_cons_of_mem _ (i2 y hy)⟩
  | some y =>
   rw[List.filterMap_cons_some (b:=(x,y)) (by rw[hg];rfl),List.map_cons];refine⟨List.pairwise_cons.mpr ⟨fun z hz=>h1 z (i2 z hz),i1⟩,fun z hz=>?_⟩;rcases List.mem_cons.mp hz with rfl | hz
   ·exact List.mem_cons_self ..
   ·exact List.mem_cons_of_mem _ (i2 z hz)
theorem range_rising (n:Nat):(List.range n).Pairwise (·<·):=List.pairwise_lt_range
end STab
end
section
namespace Srt
open PySem PyProof.Rows
section
variable {prog:Program}{w:World}{A:Around}{E:Value→Shared→Prop}{s:Shared}
def BagAt (h:Heap)(a:Addr)(es:Array (Int×Value))(ep:Nat)(t:SetTable)(led:Bool):Prop:=∃ o,h.get? a=some o∧o.ExactSet∧o.data=.set es ep t∧STab.Ok t es.size led
theorem BagAt.keep {h h':Heap}{a:Addr}{es:Array (Int×Value)}{ep:Nat}{t:SetTable}{led:Bool}(b:BagAt h a es ep t led)(k:∀ o,h.get? a=some o→h'.get? a=some o):BagAt h' a es ep t led:=let ⟨o,ho,q⟩:=b;⟨o,k _ ho,q⟩
theorem BagAt.typeIs {a:Addr}{es:Array (Int×Value)}{ep:Nat}{t:SetTable}{led:Bool}(b:BagAt s.heap a es ep t led):s.TypeIs (.ref a) "set":=let ⟨o,ho,hx,_⟩:=b;⟨o,ho,hx.1⟩
theorem bag_store {h:Heap}{a:Addr}{o:Obj}{es es':Array (Int×Value)}{ep:Nat}{t t':SetTable}(ho:h.get? a=some o)(hx:o.ExactSet)(hd:o.data=.set es ep t) :
  ∃ o',(h.update a (Obj.putSet es' t')).get? a=some o'∧o'.ExactSet∧o'.data=.set es' (ep+1) t':=by
 have e:=putSet_of es' t' hd;refine⟨{o with data:=.set es' (ep+1) t'},?_,hx,rfl⟩;have hg:=Heap.get?_update_self (Obj.putSet es' t') ho (by rw[e];rfl);rw[hg,e]
theorem bag_loop {I S:Addr}{fp wr:List Addr}{n:Nat}{P:Nat→Value→Prop}{St:Nat→Heap→Prop}{R:Result→Shared→Prop}(W:Walks prog w A.in1 I fp wr n P St)(hSf:S∉fp)(Sd:Nat→Heap→Prop)
  (hkeep:∀ i h h',Sd i h→(∀ b o,b∉wr→h.get? b=some o→h'.get? b=some o)→Sd i h')
  (hadd:∀ (i:Nat) (v:Value) (s:Shared) (E:Value→Shared→Prop) (Q:Bool→Shared→Prop),i<n→P i v→Sd i s.heap→(∀ h' tk b,Heap.SameBut S s.heap h'→Sd (i+1) h'→Q b {s with heap:=h',toks:=tk})→wpAny (model prog w) A.in1 (setAdd S v) Q E s) :
  ∀ (k i:Nat) (s:Shared),n-i=k→i≤n→St i s.heap→Sd i s.heap →
   (∀ h' tk,(∀ b o,b∉S::wr→s.heap.get? b=some o→h'.get? b=some o)→Sd n h'→R (.ok (.ret .none)) {s with heap:=h',toks:=tk}) →
   codeAny (model prog w) A (.builtin "set.update.loop" ⟨[.ref S,.ref I],[]⟩) R s:=by
 have hSw:S∉wr:=fun h=>hSf (W.sub _ h)
 intro k;induction k with
 | zero =>
  intro i s hk hi hst hS hR;obtain rfl:i=n:=by omega
  refine codeAny_builtin F.entry_set_update_loop ?_;rw[Around.under_plainId F.plain_set_update_loop _];show wpAny _ A.in1 (pyNext (.ref I) >>= _) _ _ s;refine wpAny_bind (W.done s _ _ hst fun h' tk hm=>wpAny_pure (hR h' tk (fun b o hb e=>hm b o (fun hw=>hb (List.mem_cons_of_mem _ hw)) e) (hkeep _ _ _ hS hm)))
 | succ k ih =>
  intro i s hk hi hst hS hR;have hlt:i<n:=by omega
  refine codeAny_builtin F.entry_set_update_loop ?_;rw[Around.under_plainId F.plain_set_update_loop _];show wpAny _ A.in1 (pyNext (.ref I) >>= _) _ _ s;refine wpAny_bind (W.item i s _ _ hlt hst fun v h1 tk1 hP hst1 hm1=>?_);show wpAny _ A.in1 (holding [v] (setAdd S v) >>= _) _ _ _;refine wpAny_bind (wpAny_holding (hadd i v _ _ _ hlt hP (hkeep _ _ _ hS hm1) fun h2 tk2 b hsb hS2=>?_));refine wpAny_pure ⟨plainId_quiet F.plain_set_update_loop _,ih (i+1) _ (by omega) hlt (W.frame _ _ _ hst1 fun b hb o e=>?_) hS2 fun h3 tk3 hm3 hS3=>hR h3 tk3 (fun b o hb e=>?_) hS3⟩
  ·show h2.get? b=some o;rw[hsb.2 b (fun hb':b=S=>hSf (hb' ▸ hb))];exact e
  ·refine hm3 b o hb ?_;show h2.get? b=some o;rw[hsb.2 b (fun hb':b=S=>hb (hb' ▸ List.mem_cons_self ..))];exact hm1 b o (fun hw=>hb (List.mem_cons_of_mem _ hw)) e
def ledOf (w:World):Bool:=!w.params.followText "set-order"
def freshSet (w:World):Obj:={cls:=.type "set",dict:=none,data:=.set #[] 0 (.fresh 0 0 (ledOf w))}
theorem set_new (a:Value){Q₁:Value→Shared→Prop}(h:Q₁ (.ref s.heap.objs.size) {s with heap:=s.heap.push (freshSet w)}) :
  codeAny (model prog w) A (.call (.builtin "set.__new__") ⟨[.type "set",a],[]⟩) (wants Q₁ E) s:=by
 refine codeAny_of_tree ?_;show wpAny _ A.in1 (checkBuiltinCall "set.__new__" ⟨[.type "set",a],[]⟩ >>= fun _=>again (.builtin "set.__new__" ⟨[.type "set",a],[]⟩)) _ _ s;refine wpAny_bind (wpAny_of_eq (PySem.F.newCall_set_1 a) (wpAny_pure ⟨plainId_quiet PySem.F.plain_set_new _,codeAny_builtin PySem.F.entry_set_new ?_⟩));rw[Around.under_plainId PySem.F.plain_set_new _];unfold Builtin.«set.__new__» Builtin.Frozenset.newClass;have hsub:=PySem.sub_set_self;obtain⟨hp,g,d,tk,os⟩:=s;dsimp only
 wp_walk
 refine wpAny_askSetting (wpAny_pure ?_);dsimp only;simp only[newObj];exact wpAny_bind (wpAny_alloc (wpAny_pure (wpAny_pure h)))
structure SetSrc (prog:Program)(w:World)(h₀:Heap)(l:Addr)(c:String)(n:Nat)(P:Nat→Value→Prop):Prop where
 typ:∃ o,h₀.get? l=some o∧o.cls=.type c
 sub1:isSubtype (.type c) (.type "set")=pure false
 sub2:isSubtype (.type c) (.type "frozenset")=pure false
 ne:(Value.type c == Value.type "dict")=false
 iter:∀ (A:Around) (s:Shared),(∀ b o,h₀.get? b=some o→s.heap.get? b=some o)→∃ (oI:Obj) (St:Nat→Heap→Prop),
  (∀ (E:Value→Shared→Prop) (Q:Value→Shared→Prop),Q (.ref s.heap.objs.size) {s with heap:=s.heap.push oI}→wpAny (model prog w) A (pyIter (.ref l)) Q E s) ∧
  (∀ A':Around,A'.handled=none→Walks prog w A' s.heap.objs.size [s.heap.objs.size,l] [s.heap.objs.size] n P St)∧St 0 (s.heap.push oI)
end
end Srt
end
section
namespace Srt
open PySem PyProof.Rows
section
variable {prog:Program}{w:World}{A:Around}{E:Value→Shared→Prop}{s:Shared}
set_option maxHeartbeats 3200000 in
theorem call_bag {l:Addr}{c:String}{n:Nat}{P:Nat→Value→Prop}{Q:Value→Shared→Prop}(hh:A.handled=none)(src:SetSrc prog w s.heap l c n P)(Sd:Nat→Heap→Prop)
  (hkeep:∀ i h h',Sd i h→(∀ b o,b≤s.heap.objs.size→h.get? b=some o→h'.get? b=some o)→Sd i h')
  (hadd:∀ (i:Nat) (v:Value) (s':Shared) (E:Value→Shared→Prop) (Q:Bool→Shared→Prop),i<n→P i v→Sd i s'.heap→(∀ h' tk b,Heap.SameBut s.heap.objs.size s'.heap h'→Sd (i+1) h'→Q b {s' with heap:=h',toks:=tk})→wpAny (model prog w) A.in1.in1.in1 (setAdd s.heap.objs.size v) Q E s')
  (h0:∀ h',h'.get? s.heap.objs.size=some (freshSet w)→(∀ b o,s.heap.get? b=some o→h'.get? b=some o)→Sd 0 h')
  (h:∀ (h':Heap) (tk:Nat),(∀ b o,s.heap.get? b=some o→h'.get? b=some o)→Sd n h'→Q (.ref s.heap.objs.size) {s with heap:=h',toks:=tk}) :
  wpAny (model prog w) A (call (.type "set") [.ref l]) Q E s:=by
 obtain⟨c0,tl,hmro⟩:=PySem.F.called_set.mro;have hmade:=PySem.F.called_set.made;have hsub:=PySem.F.called_set.sub;refine wpAny_call (codeAny_of_tree ?_);show wpAny _ _ (callAny (.type "set") _) _ _ _;refine wpAny_pure ⟨Code.quiet_builtin _ (by decide +kernel),codeAny_builtin F.entry_type_call ?_⟩;rw[Around.under_plain (weight_type_call_type "set" [.ref l] []) rfl];have h1:=PySem.F.called_set.notType;have h2:=PySem.F.called_set.canCreate;have hct:=PySem.F.typeCall_set_1 (.ref l);repeat (any_goals (first | assumption | wp_step))
 obtain⟨led,hled⟩:∃ led,led=ledOf w:=⟨_,rfl⟩
 refine codeAny_mono (set_new (.ref l) (E:=E) (Q₁:=fun obj s₁=>obj=.ref s.heap.objs.size∧s₁={s with heap:=s.heap.push {cls:=.type "set",dict:=none,data:=.set #[] 0 (.fresh 0 0 led)}}) ⟨rfl,by rw[hled];rfl⟩) fun r s₁ hr=>?_
 cases r with
 | error e=>exact hr
 | ok fl =>
  cases fl with
  | ret obj =>
   obtain⟨rfl,rfl⟩:=hr;have hS:(s.heap.push ({cls:=.type "set",dict:=none,data:=.set #[] 0 (.fresh 0 0 led)})).get? s.heap.objs.size=some ({cls:=.type "set",dict:=none,data:=.set #[] 0 (.fresh 0 0 led)}):=Heap.get?_push_size _ rfl;have hT:Shared.TypeIs {s with heap:=s.heap.push ({cls:=.type "set",dict:=none,data:=.set #[] 0 (.fresh 0 0 led)})} (.ref s.heap.objs.size) "set":=⟨_,hS,rfl⟩
   have hli:=PySem.F.called_set.init.lookup;have hbi:=PySem.F.called_set.init.bind (.ref s.heap.objs.size);repeat (any_goals (first | assumption | wp_step))
   refine codeAny_mono (codeAny_call_builtin (R:=wants (fun r s₂=>r=.none∧∃ h' tk,s₂={s with heap:=h',toks:=tk}∧Sd n h'∧(∀ b o,s.heap.get? b=some o→h'.get? b=some o)) E) PySem.F.called_set.init.plain PySem.F.entry_set_init (check_set_init_1 hT ?_)) fun r₂ s₂ hr₂=>?_
   ·obtain⟨ol,hol,hcl⟩:=src.typ;have hlS:l<s.heap.objs.size:=Heap.lt_size hol;obtain⟨ocls,odict,odata,oslots⟩:=ol;simp only at hcl;subst hcl;have hol':(s.heap.push ({cls:=.type "set",dict:=none,data:=.set #[] 0 (.fresh 0 0 led)})).get? l=some {cls:=.type c,dict:=odict,data:=odata,slots:=oslots}:=Heap.get?_push_of_some _ hol;have hsls:=src.sub1;have hslf:=src.sub2;have hne:=src.ne;obtain⟨oI,St,hit,W,st⟩:=src.iter A.in1.in1 {s with heap:=s.heap.push ({cls:=.type "set",dict:=none,data:=.set #[] 0 (.fresh 0 0 led)})} fun b o e=>Heap.get?_push_of_some _ e
    unfold Builtin.«set.__init__» noKeywords Builtin.Frozenset.updateFrom;generalize hPI:pyIter=PI
    wp_walk
    subst hPI;refine hit _ _ (wpAny_bind (wpAny_runValue ?_));have hsp:(s.heap.push {cls:=.type "set",dict:=none,data:=.set #[] 0 (.fresh 0 0 led)}).objs.size=s.heap.objs.size+1:=Heap.size_push ..;refine bag_loop (W _ (by simp[hh])) (S:=s.heap.objs.size) ?_ Sd (fun i h1 h2 hs hk=>hkeep i h1 h2 hs fun b o hb e=>hk b o ?_ e) hadd (n-0) 0 _ (by omega) (Nat.zero_le _) st (h0 _ ?_ ?_) fun h' tk hm hS'=>?_
    ·show s.heap.objs.size∉[(s.heap.push {cls:=.type "set",dict:=none,data:=.set #[] 0 (.fresh 0 0 led)}).objs.size,l];rw[hsp];simp only[List.mem_cons,List.not_mem_nil,or_false,not_or];exact⟨Nat.ne_of_lt (Nat.lt_succ_self _),Nat.ne_of_gt hlS⟩
    ·show b∉[(s.heap.push {cls:=.type "set",dict:=none,data:=.set #[] 0 (.fresh 0 0 led)}).objs.size];rw[hsp,List.mem_singleton];omega
    ·rw[show freshSet w={cls:=.type "set",dict:=none,data:=.set #[] 0 (.fresh 0 0 led)} from by rw[hled];rfl];exact Heap.get?_push_of_some _ hS
    ·exact fun b o e=>Heap.get?_push_of_some _ (Heap.get?_push_of_some _ e)
    ·show wpAny _ _ _ _ _ _;refine wpAny_pure ?_;show wpAny _ _ (ret Value.none) _ _ _;refine wpAny_pure ⟨rfl,h',tk,rfl,hS',fun b o e=>hm b o ?_ (Heap.get?_push_of_some _ (Heap.get?_push_of_some _ e))⟩;have hb:b<s.heap.objs.size:=Heap.lt_size e;show b∉[s.heap.objs.size,(s.heap.push {cls:=.type "set",dict:=none,data:=.set #[] 0 (.fresh 0 0 led)}).objs.size];rw[hsp];simp only[List.mem_cons,List.not_mem_nil,or_false,not_or];exact⟨Nat.ne_of_lt hb,Nat.ne_of_lt (Nat.lt_succ_of_lt hb)⟩
   ·cases r₂ with
    | error e=>exact hr₂
    | ok fl₂ =>
     cases fl₂ with
     | ret r =>
      obtain⟨rfl,h',tk,rfl,hS',hk'⟩:=hr₂;repeat (any_goals (first | assumption | wp_step))
      exact h _ _ hk' hS'
     | _=>exact hr₂.elim
  | _=>exact hr.elim
end
end Srt
end
section
namespace Srt
open PySem PyProof.Rows
theorem ow_si:Manifest.owners.lookup (String.ofList ['r','o','t','a','r','e','t','i','_','t','e','s'].reverse)=some Manifest.sig_set_iterator:=by kernel_rfl
theorem sl_si_next:Slot "set_iterator" "__next__" "set_iterator.__next__":=.of (owner:="set_iterator") (n:="__next__") (by rw[typeLookup_type,builtinLookup_eq_fast];kernel_rfl) (by decide +kernel) (by decide +kernel) (by decide +kernel) (by first | exact .inl (by decide +kernel) | exact .inr (by decide +kernel)) (by rw[isSubtype_type];kernel_rfl)
theorem sl_si_iter:Slot "set_iterator" "__iter__" "set_iterator.__iter__":=.of (owner:="set_iterator") (n:="__iter__") (by rw[typeLookup_type,builtinLookup_eq_fast];kernel_rfl) (by decide +kernel) (by decide +kernel) (by decide +kernel) (by first | exact .inl (by decide +kernel) | exact .inr (by decide +kernel)) (by rw[isSubtype_type];kernel_rfl)
theorem en_si_next:entryFor table "set_iterator.__next__"=some Builtin.«set_iterator.__next__»:=entryFor_of_tree (by kernel_rfl)
theorem ar_si_next (a:Value):argsOk "set_iterator.__next__" ⟨[a],[]⟩:=by unfold argsOk;rw[signature?_of (id:="set_iterator.__next__") (n:=['_','_','t','x','e','n','_','_']) (o:=['r','o','t','a','r','e','t','i','_','t','e','s']) (by kernel_rfl) ow_si];kernel_rfl
theorem ar_si_iter (a:Value):argsOk "set_iterator.__iter__" ⟨[a],[]⟩:=by unfold argsOk;rw[signature?_of (id:="set_iterator.__iter__") (n:=['_','_','r','e','t','i','_','_']) (o:=['r','o','t','a','r','e','t','i','_','t','e','s']) (by kernel_rfl) ow_si];kernel_rfl
theorem en_set_iter:entryFor table "set.__iter__"=some Builtin.«frozenset.__iter__»:=entryFor_alias (id':="frozenset.__iter__") (by kernel_rfl) rfl (by decide +kernel) (by kernel_rfl)
end Srt
namespace Srt
open PySem PyProof.Rows
theorem en_si_iter:entryFor table "set_iterator.__iter__"=some Builtin.«dict_keyiterator.__iter__»:=entryFor_alias (id':="dict_keyiterator.__iter__") (by kernel_rfl) rfl (by decide +kernel) (by kernel_rfl)
theorem erase_perm {α:Type}:∀ {l:List α} {i:Nat} (h:i<l.length),(l[i]::l.eraseIdx i).Perm l
 | [],i,h=>absurd h (Nat.not_lt_zero _)
 | x::l,0,_=>.rfl
 | x::l,i+1,h=>(List.Perm.swap ..).trans ((erase_perm (l:=l) (i:=i) (Nat.lt_of_succ_lt_succ h)).cons x)
theorem pick_go {α:Type}{next:Nat→Nat}:∀ (fuel k:Nat) (left:List α) (out:Array α),left.length≤fuel→(pickOrder.go next fuel k left out).toList.Perm (out.toList++left)
 | 0,k,left,out,h=>by
  obtain rfl:left=[]:=List.eq_nil_of_length_eq_zero (by omega);simp[pickOrder.go]
 | fuel+1,k,left,out,h=>by
  unfold pickOrder.go;cases left with
  | nil=>simp
  | cons y r =>
   have hlt:next k % (y::r).length<(y::r).length:=Nat.mod_lt _ (by simp)
   rw[List.getElem?_eq_getElem hlt];dsimp only;refine (pick_go fuel (k+1) _ _ (by rw[List.length_eraseIdx_of_lt hlt];omega)).trans ?_;rw[Array.toList_push,List.append_assoc];exact (erase_perm hlt).append_left _
theorem pick_perm {α:Type}(next:Nat→Nat)(xs:Array α):(pickOrder next xs).toList.Perm xs.toList:=by
 have:=pick_go (next:=next) xs.size 0 xs.toList #[] (by simp);simpa [pickOrder] using this
def ordOf (w:World)(a:Addr)(ep:Nat)(es:Array (Int×Value)):Array (Int×Value):=if w.params.followText "set-order" then pickOrder (w.params.setOrder a ep) es else es
theorem ord_perm (w:World)(a:Addr)(ep:Nat)(es:Array (Int×Value)):(ordOf w a ep es).toList.Perm es.toList:=by
 unfold ordOf;split
 ·exact pick_perm _ _
 ·exact .rfl
theorem ord_size (w:World)(a:Addr)(ep:Nat)(es:Array (Int×Value)):(ordOf w a ep es).size=es.size:=by rw[← Array.length_toList,(ord_perm w a ep es).length_eq,Array.length_toList]
def slotAt (w:World)(t:SetTable):Nat→Nat
 | 0=>0
 | i+1=>if w.params.followText "set-order" then 0 else t.place.getD i 0+1
def IsSI (h:Heap)(it a:Addr)(slot i n ep:Nat):Prop:=∃ o,h.get? it=some o∧o.cls=.type "set_iterator"∧o.data=.fields #[.int slot 0,.int i 0,.ref a,.int n 0,.int ep 0]
theorem IsSI.keep {h h':Heap}{it a:Addr}{slot i n ep:Nat}(x:IsSI h it a slot i n ep)(k:∀ o,h.get? it=some o→h'.get? it=some o):IsSI h' it a slot i n ep:=let ⟨o,ho,q⟩:=x;⟨o,k _ ho,q⟩
section
variable {prog:Program}{w:World}{A:Around}{E:Value→Shared→Prop}{s:Shared}
theorem IsSI.typeIs {it a:Addr}{slot i n ep:Nat}(x:IsSI s.heap it a slot i n ep):s.TypeIs (.ref it) "set_iterator":=let ⟨o,ho,hc,_⟩:=x;⟨o,ho,hc⟩
theorem walk_text {a:Addr}{es:Array (Int×Value)}{ep:Nat}{t:SetTable}{led:Bool}{Q:Array (Int×Value)→Shared→Prop}(b:BagAt s.heap a es ep t led)(hft:w.params.followText "set-order"=true)
  (h:Q (ordOf w a ep es) s):wpAny (model prog w) A (setWalk a) Q E s:=by
 obtain⟨o,ho,hx,hd,hok⟩:=b;unfold setWalk setsByText;refine wpAny_bind (wpAny_setState_of ho hd hok.fits ?_);dsimp only;refine wpAny_bind (wpAny_bind (wpAny_askSetting (wpAny_pure ?_)));show wpAny _ _ (if w.params.followText "set-order"=true then _ else _) _ _ s;rw[hft,if_pos rfl];refine wpAny_bind (wpAny_askSetting (wpAny_pure ?_));unfold ordOf at h;rw[hft,if_pos rfl] at h;exact h
theorem next_of {a:Addr}{es:Array (Int×Value)}{ep:Nat}{t:SetTable}{i:Nat}{Q:Option (Value×Nat)→Shared→Prop}(b:BagAt s.heap a es ep t (ledOf w))
  (hQ:Q (((ordOf w a ep es)[i]?).map fun e=>(e.2,slotAt w t (i+1))) s) (hi:i≤es.size):wpAny (model prog w) A (setNext a (slotAt w t i) i ep) Q E s:=by
 obtain⟨o,ho,hx,hd,hok⟩:=id b;unfold setNext setsByText;refine wpAny_bind (wpAny_setState_of ho hd hok.fits ?_);dsimp only;refine wpAny_bind (wpAny_bind (wpAny_askSetting (wpAny_pure ?_)));show wpAny _ _ (if w.params.followText "set-order"=true then _ else _) _ _ s;cases hft:w.params.followText "set-order" with
 | true =>
  rw[if_pos rfl,if_neg (by simp)];refine wpAny_bind (walk_text b hft (wpAny_pure ?_));have:slotAt w t i=slotAt w t (i+1):=by
   cases i with
   | zero=>simp[slotAt,hft]
   | succ i=>simp[slotAt,hft]
  rw[this];exact hQ
 | false =>
  rw[if_neg (by decide)];refine wpAny_ite_split (fun hab=>?_) (fun _=>?_)
  ·have hab':(!t.plain && decide (es.size>1))=true:=hab;rw[hok.plain] at hab';exact Bool.noConfusion hab'
  refine wpAny_bind (wpAny_of_eq (a:=()) ?_ ?_)
  ·show (if (!t.led && !es.isEmpty)=true then _ else _)=_;have hl:t.led=true:=by rw[hok.led];unfold ledOf;rw[hft];rfl
   rw[hl,if_neg (by simp)]
  ·have hbl:SetTable.below t.place (slotAt w t i)=i:=by
    cases i with
    | zero=>exact STab.below_zero hok.ris
    | succ i =>
     have hlt:i<t.place.size:=by rw[hok.size];omega
     have:slotAt w t (i+1)=t.place[i]+1:=by simp[slotAt,hft,Array.getD,hlt]
     rw[this];exact STab.below_next hok.ris hlt
   refine wpAny_pure ?_;rw[hbl];have ho:ordOf w a ep es=es:=by unfold ordOf;rw[hft];rfl
   rw[ho] at hQ;rcases Nat.lt_or_ge i es.size with h | h
   ·have hlt:i<t.place.size:=by rw[hok.size];exact h
    rw[Array.getElem?_eq_getElem h,Array.getElem?_eq_getElem hlt];rw[Array.getElem?_eq_getElem h] at hQ;have:slotAt w t (i+1)=t.place[i]+1:=by simp[slotAt,hft,Array.getD,hlt]
    rw[this] at hQ;exact hQ
   ·rw[Array.getElem?_eq_none h];rw[Array.getElem?_eq_none h] at hQ;exact hQ
end
end Srt
end
section
namespace Srt
open PySem PyProof.Rows PySem.W
section
variable {prog:Program}{w:World}{A:Around}{E:Value→Shared→Prop}{s:Shared}
theorem si_item {it a:Addr}{es:Array (Int×Value)}{ep:Nat}{t:SetTable}{i:Nat}{Q:Option Value→Shared→Prop}(hit:IsSI s.heap it a (slotAt w t i) i es.size ep)(b:BagAt s.heap a es ep t (ledOf w))(hi:i<es.size)
  (hQ:∀ h' e,(ordOf w a ep es)[i]?=some e→IsSI h' it a (slotAt w t (i+1)) (i+1) es.size ep→Heap.SameBut it s.heap h'→Q (some e.2) {s with heap:=h'}):wpAny (model prog w) A (pyNext (.ref it)) Q E s:=by
 obtain⟨o,ho,hc,hd⟩:=id hit;obtain⟨oa,hoa,hxa,hda,hok⟩:=id b;have hz:i<(ordOf w a ep es).size:=by rw[ord_size];exact hi
 unfold pyNext
 refine wpAny_bind (wpAny_attempt (wpAny_callSpecial?_slot (name:=Str.ofString "__next__") hit.typeIs sl_si_next
  (wpAny_call_entry sl_si_next hit.typeIs en_si_next ?_ (ar_si_next _))))
 unfold Builtin.«set_iterator.__next__»;refine wpAny_bind (m:=slotArgs "__next__" 0 _) (wpAny_pure (wpAny_bind (wpAny_fieldsOf ho hd ?_)));dsimp only;refine wpAny_bind (wpAny_setEntries_of hoa hda hok.fits ?_);rw[if_neg (by simp)];simp only[Int.toNat_natCast];refine wpAny_bind (next_of b ?_ (Nat.le_of_lt hi));rw[Array.getElem?_eq_getElem hz];dsimp only[Option.map];refine wpAny_bind (wpAny_setField ho hd (by simp) ?_);have ho1:=Heap.get?_update_self (Obj.mapFields (·.setIfInBounds 0 (rawInt ((slotAt w t (i+1):Nat):Int)))) ho (Obj.isFreed_of_fields (Obj.data_mapFields hd _));have hd1:=Obj.data_mapFields hd (·.setIfInBounds 0 (rawInt ((slotAt w t (i+1):Nat):Int)));refine wpAny_bind (wpAny_setField (s:={s with heap:=s.heap.update it (Obj.mapFields (·.setIfInBounds 0 (rawInt ((slotAt w t (i+1):Nat):Int))))}) ho1 hd1 (by simp) ?_);refine wpAny_pure ⟨_,rfl,wpAny_pure (hQ _ _ (Array.getElem?_eq_getElem hz) ⟨_,Heap.get?_update_self _ ho1 (Obj.isFreed_of_fields (Obj.data_mapFields hd1 _)),?_,?_⟩ ((Heap.SameBut.update ..).trans (Heap.SameBut.update ..)))⟩
 ·exact (Obj.cls_mapFields ..).trans ((Obj.cls_mapFields ..).trans hc)
 ·rw[Obj.data_mapFields hd1];simp[rawInt]
theorem si_end {it a:Addr}{es:Array (Int×Value)}{ep:Nat}{t:SetTable}{Q:Option Value→Shared→Prop}(hh:A.handled=none)(hit:IsSI s.heap it a (slotAt w t es.size) es.size es.size ep)(b:BagAt s.heap a es ep t (ledOf w))
  (hQ:∀ h',Heap.ExtBut it s.heap h'→Q none {s with heap:=h'}):wpAny (model prog w) A (pyNext (.ref it)) Q E s:=by
 obtain⟨o,ho,hc,hd⟩:=id hit;obtain⟨oa,hoa,hxa,hda,hok⟩:=id b;unfold pyNext
 refine wpAny_bind (wpAny_attempt (wpAny_callSpecial?_slot (name:=Str.ofString "__next__") hit.typeIs sl_si_next
  (wpAny_call_entry sl_si_next hit.typeIs en_si_next ?_ (ar_si_next _))))
 unfold Builtin.«set_iterator.__next__»;refine wpAny_bind (m:=slotArgs "__next__" 0 _) (wpAny_pure (wpAny_bind (wpAny_fieldsOf ho hd ?_)));dsimp only;refine wpAny_bind (wpAny_setEntries_of hoa hda hok.fits ?_);rw[if_neg (by simp)];simp only[Int.toNat_natCast];refine wpAny_bind (next_of b ?_ (Nat.le_refl _));rw[Array.getElem?_eq_none (Nat.le_of_eq (ord_size ..))];dsimp only[Option.map];refine wpAny_bind (wpAny_setField ho hd (by simp) ?_);show wpAny _ _ (newExc (.type "StopIteration") [] >>= _) _ _ _;refine wpAny_bind ?_;simp only[newExc,newTuple];refine wpAny_bind (wpAny_newObj_type ?_ (by size_fits));refine wpAny_bind (m:=firstArgMember _ _) (wpAny_of_eq (a:=Value.none) (by first | rfl | (simp only[firstArgMember];rfl)) ?_);refine wpAny_newObj_type ?_ (by size_fits);simp only[raiseNew];refine wpAny_bind (wpAny_handled ?_);rw[show A.in1.handled=none from hh];refine wpAny_bind (wpAny_pure (wpAny_throw ?_));refine wpAny_bind (wpAny_isInstance (T:="StopIteration") (b:=true) ⟨_,Heap.get?_push_size _ rfl,rfl⟩ isSubtype_stop ?_);exact wpAny_pure (hQ _ (((Heap.SameBut.update ..).extBut.push _).push _))
theorem si_self {it a:Addr}{slot i n ep:Nat}{Q:Value→Shared→Prop}(hit:IsSI s.heap it a slot i n ep)(h:Q (.ref it) s):wpAny (model prog w) A (pyIter (.ref it)) Q E s:=by
 refine wpAny_pyIter_slot hit.typeIs sl_si_iter (wpAny_call_entry sl_si_iter hit.typeIs en_si_iter ?_ (ar_si_iter _));show wpAny _ _ (ret (.ref it)) _ _ s;exact wpAny_pure ⟨_,rfl, "set_iterator",_,hit.typeIs,sl_si_next.lookup,h⟩
theorem si_make {a:Addr}{es:Array (Int×Value)}{ep:Nat}{t:SetTable}{Q:Value→Shared→Prop}(b:BagAt s.heap a es ep t (ledOf w))
  (hQ:Q (.ref s.heap.objs.size) {s with heap:=s.heap.push {cls:=.type "set_iterator",data:=.fields #[.int 0 0,.int 0 0,.ref a,.int es.size 0,.int ep 0]}}):wpAny (model prog w) A (pyIter (.ref a)) Q E s:=by
 obtain⟨o,ho,hx,hd,hok⟩:=id b;refine wpAny_pyIter_slot b.typeIs PySem.F.slot_set_iter (wpAny_call_entry PySem.F.slot_set_iter b.typeIs en_set_iter ?_ (PySem.F.args_set_iter_1 _));unfold Builtin.«frozenset.__iter__» Builtin.Frozenset.slot0 Builtin.Frozenset.addrOf Builtin.Frozenset.sizeOf;refine wpAny_bind (wpAny_bind (m:=slotArgs "__iter__" 0 _) (wpAny_pure (wpAny_pure ?_)));refine wpAny_bind (wpAny_bind (wpAny_setEntries_of ho hd hok.fits (wpAny_pure ?_)));unfold setDrawn setsByText;refine wpAny_bind (wpAny_bind (wpAny_setState_of ho hd hok.fits (wpAny_bind (wpAny_bind (wpAny_askSetting (wpAny_pure (wpAny_pure ?_)))))));refine wpAny_ite_split (fun hab=>?_) (fun _=>?_)
 ·have hab':(!w.params.followText "set-order" && (!t.plain && decide (es.size>1)))=true:=hab;rw[hok.plain] at hab';simp at hab'
 refine wpAny_bind (wpAny_pure (wpAny_bind (wpAny_setEpoch_of ho hd hok.fits ?_)));refine wpAny_bind (wpAny_newObj_type (wpAny_pure ⟨_,rfl, "set_iterator",_,⟨_,Heap.get?_push_size _ rfl,rfl⟩,sl_si_next.lookup,?_⟩));simpa [rawInt] using hQ
theorem si_walks (hh:A.handled=none)(I a:Addr)(hne:a≠I)(es:Array (Int×Value))(ep:Nat)(t:SetTable) :
  Walks prog w A I [I,a] [I] es.size (fun i v=>∃ e,(ordOf w a ep es)[i]?=some e∧e.2=v) (fun i h=>IsSI h I a (slotAt w t i) i es.size ep∧BagAt h a es ep t (ledOf w)) where
 sub:=fun b hb=>by simp at hb;simp[hb]
 frame:=fun _ _ _ st hk=>⟨st.1.keep fun o e=>hk I (by simp) o e,st.2.keep fun o e=>hk a (by simp) o e⟩
 item:=fun i s Q E hi st hQ=>si_item st.1 st.2 hi fun h' e he hit' hs' =>
  hQ e.2 h' s.toks ⟨e,he,rfl⟩ ⟨hit',st.2.keep fun o q=>hs'.extBut a o hne q⟩ fun b o hb q=>hs'.extBut b o (fun h=>hb (by simp[h])) q
 done:=fun s Q E st hQ=>si_end hh st.1 st.2 fun h' he'=>hQ h' s.toks fun b o hb e=>he' b o (fun h=>hb (by simp[h])) e
 self:=fun _ _ _ _ st hQ=>si_self st.1 hQ
theorem hint_set {r:Addr}{Q:Bool→Shared→Prop}(hT:s.TypeIs (.ref r) "set")(h:Q false s):wpAny (model prog w) A (Builtin.List.listLengthHint (.ref r)) Q E s:=by
 unfold Builtin.List.listLengthHint;refine wpAny_bind (wpAny_specialOf hT PySem.F.slot_set_len.lookup ?_);generalize hid:("set.__len__":String)=id0
 wp_delta
 rw[show splitId id0=some ("set", "__len__") from by subst hid;decide +kernel];subst hid;refine wpAny_bind (wpAny_isInstance (T:="set") (b:=true) hT (by rw[isSubtype_type];kernel_rfl) ?_);refine wpAny_ite_split (fun hab=>absurd hab (by decide)) (fun _=>?_);refine wpAny_ite_split (fun _=>?_) (fun hab=>absurd (by decide +kernel) hab);exact wpAny_bind (wpAny_typeOf hT (wpAny_pure h))
theorem bag_src {a:Addr}{es:Array (Int×Value)}{ep:Nat}{t:SetTable}:KdlSrc prog w "set" a a es.size (fun i v=>∃ e,(ordOf w a ep es)[i]?=some e∧e.2=v) (fun h=>BagAt h a es ep t (ledOf w)) where
 type:=fun _ hm=>hm.typeIs
 there:=fun _ hm=>let ⟨_,ho,_⟩:=hm;⟨Heap.lt_size ho,Heap.lt_size ho⟩
 keep:=fun _ _ hm hk=>hm.keep fun o e=>hk a (.inl rfl) o e
 notList:=by decide
 notTuple:=by decide
 hint:=fun _ _ _ _ hm hq=>hint_set hm.typeIs hq
 iter:=fun _ _ hh hm=>⟨_,_,(fun _ _ hq=>si_make hm hq),si_walks hh _ a (let ⟨_,ho,_⟩:=hm;Nat.ne_of_lt (Heap.lt_size ho)) es ep t,⟨⟨_,Heap.get?_push_size _ rfl,rfl,rfl⟩,hm.keep fun _ e=>Heap.get?_push_of_some _ e⟩⟩
theorem coll_bag {a:Addr}{es:Array (Int×Value)}{ep:Nat}{t:SetTable}(hh:A.handled=none)(b:BagAt s.heap a es ep t (ledOf w))(hz:es.size≤sizeLine):Coll prog w A a s fun us=>us.Perm (es.toList.map (·.2)):=by
 intro E R h;refine kdu_collect (bag_src (ep:=ep) (t:=t)) hh b hz fun h' tk acc hk hI=>h h' tk acc.toList hk ?_
 have:acc.toList=(ordOf w a ep es).toList.map (·.2):=by
  apply List.ext_getElem?;intro i;rw[Array.getElem?_toList,List.getElem?_map,Array.getElem?_toList];rcases Nat.lt_or_ge i es.size with hi | hi
  ·have hi':i<acc.size:=by rw[hI.1];exact hi
   obtain⟨e,he,hk⟩:=hI.2 i acc[i] (Array.getElem?_eq_getElem hi');rw[Array.getElem?_eq_getElem hi',he];exact congrArg some hk.symm
  ·rw[Array.getElem?_eq_none (by rw[hI.1];exact hi),Array.getElem?_eq_none (by rw[ord_size];exact hi)];rfl
 rw[this];exact (ord_perm w a ep es).map _
end
end Srt
end
section
namespace Srt
open PySem PyProof.Rows PySem.W
theorem sub_tup_set:isSubtype (.type "tuple") (.type "set")=pure false:=by rw[isSubtype_type];kernel_rfl
theorem sub_tup_fro:isSubtype (.type "tuple") (.type "frozenset")=pure false:=by rw[isSubtype_type];kernel_rfl
section
variable {prog:Program}{w:World}{A:Around}{E:Value→Shared→Prop}{s:Shared}
theorem src_list {h:Heap}{l:Addr}{items:Array Value}(hl:h.IsList l items):SetSrc prog w h l "list" items.size (fun i v=>items[i]?=some v) where
 typ:=let ⟨o,ho,hc,_⟩:=hl;⟨o,ho,hc⟩
 sub1:=PySem.F.sub_list_set
 sub2:=PySem.F.sub_list_frozenset
 ne:=by decide
 iter:=fun A s hk=>by
  have hl':s.heap.IsList l items:=hl.at fun o e=>hk l o e
  refine⟨_,_,fun E Q hq=>wpAny_pyIter_list hl' hq,fun A' hh=>Walks.list hh _ l ?_ items,⟨⟨_,Heap.get?_push_size _ rfl,rfl,rfl⟩,hl'.push _⟩⟩;obtain⟨o,ho,_⟩:=hl';exact Nat.ne_of_lt (Heap.lt_size ho)
theorem src_tup {h:Heap}{l:Addr}{items:Array Value}(hl:h.IsTuple l items):SetSrc prog w h l "tuple" items.size (fun i v=>items[i]?=some v) where
 typ:=let ⟨o,ho,hc,_⟩:=hl;⟨o,ho,hc⟩
 sub1:=sub_tup_set
 sub2:=sub_tup_fro
 ne:=by decide
 iter:=fun A s hk=>by
  have hl':s.heap.IsTuple l items:=hl.at fun o e=>hk l o e
  refine⟨_,_,fun E Q hq=>wpAny_pyIter_tuple hl' hq,fun A' hh=>Walks.tuple hh _ l ?_ items,⟨⟨_,Heap.get?_push_size _ rfl,rfl,rfl⟩,hl'.at fun o e=>Heap.get?_push_of_some _ e⟩⟩;obtain⟨o,ho,_⟩:=hl';exact Nat.ne_of_lt (Heap.lt_size ho)
end
end Srt
end
section
namespace L2
open PySem PySem.Spec PyProof.Rows
section
variable {X:Cx}{pins:List (Addr×Obj)}{σ:St}{H:Hp}{s:Shared}{h':Heap}
theorem push_old {h:Heap}{o:Obj}{b:Addr}(hb:b<h.objs.size):(h.push o).get? b=h.get? b:=by
 unfold Heap.get? Heap.push;simp[Array.getElem?_push,Nat.ne_of_lt hb]
theorem inv_turns {t':Nat}{L:List Addr}(I:Inv X pins σ H s)(k:∀ b o,b∉L→s.heap.get? b=some o→h'.get? b=some o)(hf:∀ b∈L,FpOk X pins H b):Inv X pins σ H {s with heap:=h',toks:=t'}:=by
 have nit:∀ b u,H b=some u→b∉L:=fun b u e z=>by rw[(hf b z).1] at e;cases e
 refine I.step (g':=s.gens) (d':=s.drawn) (ch:=L) (fun b hb=>?_) (fun b o _ _ hc e _=>k b o hc e) (fun b o _ _ hc e _=>⟨o.slots,k b o hc e⟩) (fun _ _ _ _ n=>n)
  (fun b o hc e=>⟨o,k b o hc e⟩) (fun _ _ e=>e) (fun _ _ _ e=>e) (fun b ps e=>⟨#[],by rw[e];simp⟩) (fun m hm=>?_) (fun b u e=>?_) I.bare
 ·obtain⟨f0,f1,f2,f3,f4,f5⟩:=hf b hb;exact⟨f3,f1,f4,f5⟩
 ·obtain⟨o,es,ep,ho,r⟩:=hm;exact⟨o,es,ep,k _ o (fun z=>(hf _ z).2.1 rfl) ho,r⟩
 ·refine (I.hok b u e).stay (fun c v hc q=>k c v ?_ q) (fun _ q=>q) fun _ _ q=>q
  rcases hc with z | z
  ·rw[z];exact nit b u e
  ·exact nit c _ z
def Ite (K:PySem.W.Frag)(a:Addr):It :=
 ⟨fun i H=>∃ xs x,SqL K H a xs∧xs[i]?=some x,fun i H v H'=>∃ q x,v=.ref q∧H q=none∧H'=upd H q (.tup [.int i,x])∧∀ xs,SqL K H a xs→xs[i]?=some x,fun i H=>∃ xs,SqL K H a xs∧xs.length≤i⟩
theorem turn_enum {P:Program}{w:World}{K:PySem.W.Frag}{elts:List Expr}{k:Nat}{pos:Pos}(a e it:Addr)(hne:e≠it):Turn P w K (.Tuple elts k pos) (Ite K a) [e,it] e (fun i h=>(∃ old,IsEnum h e it i old)∧h.IsListIter it a i) where
 mem:=by simp
 obj:=fun i h st b hb=>by
  obtain⟨⟨old,he⟩,o,eo,c,d⟩:=st;rcases List.mem_cons.mp hb with rfl | hb
  ·exact⟨_,he,fun v z=>by
    have z':Data.fields _=Data.cell v:=z
    cases z'⟩
  ·have e:b=it:=by simpa using hb
   subst e;exact⟨o,eo,fun v z=>by rw[d] at z;cases z⟩
 keep:=fun i h h' st k=>⟨let ⟨old,he⟩:=st.1;⟨old,k e (by simp) _ he⟩,st.2.at fun o q=>k it (by simp) o q⟩
 item:=by
  intro X hP hw hK hc i pins s σ H E I hf st hg;subst hP hw hK;obtain⟨xs,x,hq,hx⟩:=hg;obtain⟨its,rv,p,hz⟩:=I.list hq;obtain⟨u,hu,ru⟩:=rv.get hx;obtain⟨⟨old,he⟩,hit⟩:=st;have hel:e<s.heap.objs.size:=Heap.lt_size he;have hil:it<s.heap.objs.size:=by obtain⟨_,z,_⟩:=hit;exact Heap.lt_size z
  refine wpAny_pyNext_enum_item he hit p.isList (x:=u) (by simpa using hu) hne fun h1 ho hit1 hT hsz hk=>⟨_,rfl,?_⟩
  refine wpAny_letOwnedTupleGo_enum (s:={s with heap:=h1,toks:=s.toks+1}) ho fun h2 he2 hs2=>?_
  have hs2':∀ b o,b≠e→h1.get? b=some o→h2.get? b=some o:=fun b o hb q=>(hs2.2 b hb).trans q
  have I1:Inv X pins σ (upd H s.heap.objs.size (.tup [.int i,x])) {s with heap:=s.heap.push {cls:=.type "tuple",data:=.seq #[.int i s.toks,u]},toks:=s.toks+1} :=
   I.laid (o:=.tup [.int i,x]) (fun b o q=>Heap.get?_push_of_some _ q) (Nat.le_refl _) ⟨by simp[sizeLine_eq],[.int i s.toks,u],.cons ⟨_,rfl⟩ (.cons ru .nil),⟨_,Heap.get?_push_size _ rfl,rfl,_,rfl⟩⟩
  have hfr:∀ b∈[e,it],FpOk X pins (upd H s.heap.objs.size (.tup [.int i,x])) b:=by
   intro b hb;obtain⟨f0,f⟩:=hf b hb;refine⟨?_,f⟩;rw[upd_ne];exact f0;rcases List.mem_cons.mp hb with rfl | hb
   ·exact Nat.ne_of_lt hel
   ·rw[List.mem_singleton.mp hb];exact Nat.ne_of_lt hil
  have I2:Inv X pins σ (upd H s.heap.objs.size (.tup [.int i,x])) {s with heap:=h2,toks:=s.toks+1}:=by
   refine inv_turns (s:={s with heap:=s.heap.push {cls:=.type "tuple",data:=.seq #[.int i s.toks,u]},toks:=s.toks+1}) (L:=[e,it]) I1 (fun b o hb q=>?_) hfr;have hb1:b≠e:=fun z=>hb (by simp[z])
   have hb2:b≠it:=fun z=>hb (by simp[z])
   refine hs2' b o hb1 ?_;by_cases hbT:b=s.heap.objs.size
   ·subst hbT;rw[show (s.heap.push {cls:=.type "tuple",data:=.seq #[.int i s.toks,u]}).get? s.heap.objs.size=some {cls:=.type "tuple",data:=.seq #[.int i s.toks,u]} from Heap.get?_push_size _ rfl] at q;cases q;exact hT
   ·have:s.heap.get? b=some o:=by
     have hlt:b<s.heap.objs.size+1:=by have:=Heap.lt_size q;rw[Heap.size_push] at this;exact this
     have hlt2:b<s.heap.objs.size:=Nat.lt_of_le_of_ne (Nat.le_of_lt_succ hlt) hbT;rw[← q];exact (push_old hlt2).symm
    exact hk b o hb1 hb2 this
  refine⟨.ref s.heap.objs.size,_,I2,rfl,⟨s.heap.objs.size,x,rfl,I.fresh,rfl,fun ys hy=>by rw[I.list_inj hy hq];exact hx⟩,⟨⟨_,he2⟩,hit1.at fun o q=>hs2' it o hne.symm q⟩,fun b hb=>(hfr b hb).1⟩
 done:=by
  intro X hP hw hK hc i pins s σ H E I hf st hg;subst hP hw hK;obtain⟨xs,hq,hx⟩:=hg;obtain⟨its,rv,p,hz⟩:=I.list hq;obtain⟨⟨old,he⟩,hit⟩:=st;have hl:=rv.length;refine wpAny_pyNext_enum_end (I.ok.hd hc) he hit p.isList (by simp;omega) fun h' eb=>⟨rfl,?_⟩
  exact inv_turns (t':=s.toks) (L:=[e,it]) I (fun b o hb q=>eb b o (fun z=>hb (by simp[z])) q) hf
 self:=fun _ _ _ _ _ st h=>let ⟨_,he⟩:=st.1;wpAny_pyIter_enum he h
end
section
variable {X:Cx}{K:PySem.W.Frag}{elts:List Expr}{k:Nat}{tpos p pos:Pos}{l:Expr}{t:TA}{y:Str}
def iEnum (K:PySem.W.Frag)(t:TA):TI:=fun σ H R=>t σ H fun vs H1=>∃ a,vs=[.ref a]∧(∃ xs,SqL K H1 a xs)∧R (Ite K a) H1
theorem pi_enum (hg:Gl X y)(hm:X.mg y=none)(hv:bootBuiltins y=some (.type "enumerate"))(ha:PA X [l] t)(hn:y≠"__name__":=by decide)(hdb:(y == ("__debug__":Str))=false:=by decide)
  (he:starEach [l] X.env=[(false,eval l X.env)]:=by rfl) (hpl:(backTo pos (starEach ([]:List Expr) X.env)).any (·.1)=false:=by rfl) (hK:X.K=K:=by rfl):PI X (.Tuple elts k tpos) (.Call (.Name y p) [l] [] pos) (iEnum K t):=by
 subst hK;intro pins s σ H R I h;refine wpAny_Call_Name_kw (ld_blt I hg hm hv ?_ hn hdb);refine PyProof.Rows.callWith_type1 (thn (ha pos pins s σ H _ I h) fun us s1 ⟨vs,H1,I1,r1,a,e1,⟨xs,hq⟩,q⟩=>?_) he hpl;subst e1;obtain⟨u,rfl,rx⟩:=vals1 r1;cases rx;obtain⟨its,rv,pl,hz⟩:=I1.list hq;refine call_enumerate_list pl.isList fun h' hen hit hsz hk=>wpAny_pyIter_enum (s:={s1 with heap:=h'}) hen ?_
 refine⟨s1.heap.objs.size+1,[s1.heap.objs.size+1,s1.heap.objs.size],_,_,H1,rfl,I1.kept (t':=s1.toks) hk,turn_enum a _ _ (Nat.ne_of_gt (Nat.lt_succ_self _)),⟨⟨_,hen⟩,hit⟩,fun b hb=>?_,q⟩;rcases List.mem_cons.mp hb with rfl | hb
 ·exact I1.fpOk (Nat.le_succ _) (I1.hok.fresh (Nat.le_succ _))
 ·rw[List.mem_singleton.mp hb];exact I1.fpOk (Nat.le_refl _) I1.fresh
end
section
variable {K:PySem.W.Frag}{a p:Addr}{xs:List V}{g:TG}{tc:TT}{te tv:TE}{τ0:St}{H0:Hp}{EE:Hp→Prop}
theorem lc_enum (Pv:Nat→St→Hp→Prop)(h0:Pv 0 τ0 H0)(hl:∀ i τ H,i≤xs.length→Pv i τ H→SqL K H a xs)
  (hs:∀ i x τ H q,xs[i]?=some x→Pv i τ H→H q=none→g (.ref q) τ (upd H q (.tup [.int i,x])) fun τ2 H2=>tc τ2 H2 fun b H3=>if b=true then te τ2 H3 fun v H4=>∃ ys,H4 p=some (.lst ys)∧ys.length<sizeLine∧Pv (i+1) τ2 (upd H4 p (.lst (ys++[v]))) else Pv (i+1) τ2 H3)
  (hd:∀ τ H,Pv xs.length τ H→EE H):lcW g tc te p (Ite K a) τ0 H0 EE:=by
 refine⟨fun i m τ H=>m=xs.length-i∧i≤xs.length∧Pv i τ H,⟨_,rfl,Nat.zero_le _,h0⟩,?_⟩;rintro i m τ H ⟨rfl,hi,hp⟩;have hq:=hl i τ H hi hp;rcases Nat.lt_or_ge i xs.length with h | h
 ·have hx:xs[i]?=some xs[i]:=List.getElem?_eq_getElem h;refine .inr ⟨⟨xs,_,hq,hx⟩,Pv (i+1),fun τ' H' z=>⟨_,by omega,rfl,h,z⟩,?_⟩;rintro v H' ⟨q,x,rfl,hn,rfl,hy⟩;have e:x=xs[i]:=by have:=hy xs hq;rw[hx] at this;exact (Option.some.inj this).symm
  subst e;exact hs i _ τ H q hx hp hn
 ·have e:i=xs.length:=by omega
  subst e;exact .inl ⟨⟨xs,hq,Nat.le_refl _⟩,hd τ H hp⟩
end
structure Bt2 (mg:Str→Option Value):Prop where
 isinstance:mg "isinstance"=none
 bool:mg "bool"=none
 all:mg "all"=none
 set:mg "set"=none
 enumerate:mg "enumerate"=none
 zip:mg "zip"=none
end L2
end
section
namespace L2
open PySem
inductive Rch (ts:List (Int×Int))(A:Int→Prop)(u:Int):Int→Prop
 | base:Rch ts A u u
 | step {y x:Int}:Rch ts A u y→x∈nb ts y→A x→Rch ts A u x
structure Srch (n:Int)(ts:List (Int×Int))(A:Int→Prop)(u:Int)(fs ws:List Int):Prop where
 nd:fs.Nodup
 rng:∀ x∈fs,0≤x∧x<n
 st:u∈fs
 sub:∀ x∈ws,x∈fs
 snd:∀ x∈fs,Rch ts A u x
 cl:∀ x∈fs,x∉ws→∀ y∈nb ts x,A y→y∈fs
structure Srch' (n:Int)(ts:List (Int×Int))(A:Int→Prop)(u:Int)(fs ws:List Int)(v:Int)(j:Nat):Prop where
 nd:fs.Nodup
 rng:∀ x∈fs,0≤x∧x<n
 st:u∈fs
 sub:∀ x∈ws,x∈fs
 snd:∀ x∈fs,Rch ts A u x
 cl:∀ x∈fs,x∉ws→x≠v→∀ y∈nb ts x,A y→y∈fs
 vin:v∈fs
 part:∀ y∈(nb ts v).take j,A y→y∈fs
section
variable {n:Int}{ts:List (Int×Int)}{A:Int→Prop}{u v:Int}{fs ws:List Int}{j:Nat}
theorem Srch.init (h0:0≤u)(h1:u<n):Srch n ts A u [u] [u] :=
 ⟨by simp,fun x hx=>by simp at hx;subst hx;exact⟨h0,h1⟩,by simp,by simp,fun x hx=>by simp at hx;subst hx;exact .base,fun x hx hn=>by simp at hx hn;exact absurd hx hn⟩
theorem Srch.pop (h:Srch n ts A u fs (ws++[v])):Srch' n ts A u fs ws v 0 :=
 ⟨h.nd,h.rng,h.st,fun x hx=>h.sub x (by simp[hx]),h.snd,fun x hx hn hv=>h.cl x hx (by simp[hn,hv]),h.sub v (by simp),fun y hy=>by simp at hy⟩
theorem Srch'.add (h:Srch' n ts A u fs ws v j)(hok:TsOk n ts){y:Int}(hy:(nb ts v)[j]?=some y)(ha:A y)(hn:y∉fs):Srch' n ts A u (fs++[y]) (ws++[y]) v (j+1):=by
 have hym:=List.mem_of_getElem? hy;have hr:=nb_rng hok hym;refine⟨?_,fun x hx=>?_,by simp[h.st],fun x hx=>?_,fun x hx=>?_,fun x hx hw hv z hz az=>?_,by simp[h.vin],fun z hz az=>?_⟩
 ·rw[List.nodup_append];exact⟨h.nd,by simp,fun a hq b hb e=>hn (by simp at hb;subst hb;subst e;exact hq)⟩
 ·rcases List.mem_append.mp hx with hx | hx
  ·exact h.rng x hx
  ·cases List.mem_singleton.mp hx;exact⟨hr.1,hr.2.1⟩
 ·rcases List.mem_append.mp hx with hx | hx
  ·exact List.mem_append.mpr (.inl (h.sub x hx))
  ·exact List.mem_append.mpr (.inr hx)
 ·rcases List.mem_append.mp hx with hx | hx
  ·exact h.snd x hx
  ·cases List.mem_singleton.mp hx;exact .step (h.snd v h.vin) hym ha
 ·rcases List.mem_append.mp hx with hx | hx
  ·exact List.mem_append.mpr (.inl (h.cl x hx (fun q=>hw (List.mem_append.mpr (.inl q))) hv z hz az))
  ·exact absurd (List.mem_append.mpr (.inr hx)) hw
 ·rw[List.take_succ,hy] at hz;rcases List.mem_append.mp hz with hz | hz
  ·exact List.mem_append.mpr (.inl (h.part z hz az))
  ·simp at hz;subst hz;simp
theorem Srch'.skip (h:Srch' n ts A u fs ws v j){y:Int}(hy:(nb ts v)[j]?=some y)(ha:¬ A y∨y∈fs):Srch' n ts A u fs ws v (j+1):=by
 refine⟨h.nd,h.rng,h.st,h.sub,h.snd,h.cl,h.vin,fun z hz az=>?_⟩;rw[List.take_succ,hy] at hz;rcases List.mem_append.mp hz with hz | hz
 ·exact h.part z hz az
 ·simp at hz;subst hz;exact ha.elim (fun q=>absurd az q) id
theorem Srch'.done (h:Srch' n ts A u fs ws v j)(hj:(nb ts v).length≤j):Srch n ts A u fs ws:=by
 refine⟨h.nd,h.rng,h.st,h.sub,h.snd,fun x hx hw y hy ay=>?_⟩;by_cases e:x=v
 ·subst e;exact h.part y (by rw[List.take_of_length_le hj];exact hy) ay
 ·exact h.cl x hx hw e y hy ay
theorem Srch.fin (h:Srch n ts A u fs [])(x:Int):x∈fs↔Rch ts A u x:=by
 refine⟨h.snd x,fun r=>?_⟩;induction r with
 | base=>exact h.st
 | step _ hm ha ih=>exact h.cl _ ih (by simp) _ hm ha
theorem Rch.rng (hok:TsOk n ts)(h0:0≤u)(h1:u<n){x:Int}(r:Rch ts A u x):0≤x∧x<n:=by
 induction r with
 | base=>exact⟨h0,h1⟩
 | step _ hm _ _=>have:=nb_rng hok hm;omega
theorem Rch.mem {x:Int}(r:Rch ts A u x)(h:A u):A x:=by
 cases r with
 | base=>exact h
 | step _ _ ha=>exact ha
theorem Rch.left {L:Int→Prop}(hok:TsOk n ts)(hL:∀ x,L x→A x)(hc:∀ x y,A x→¬ L x→y∈nb ts x→A y→¬ L y)(hu:L u){x:Int}:Rch ts L u x↔Rch ts A u x:=by
 constructor
 ·intro r;induction r with
  | base=>exact .base
  | step _ hm ha ih=>exact .step ih hm (hL _ ha)
 ·intro r;have:Rch ts L u x∧L x:=by
   induction r with
   | base=>exact⟨.base,hu⟩
   | @step y x _ hm ha ih =>
    have:L x:=Classical.byContradiction fun hn=>hc x y ha hn ((nb_sym hok).mp hm) (hL _ ih.2) ih.2
    exact⟨.step ih.1 hm this,this⟩
  exact this.1
theorem disp1 {H:Hp}{p:Addr}{u:Int}:upd (upd H p (.dK [])) p (.dK (mergeK [] [(Sum.inl u,V.bl true)]))=upd H p (.dK (kvI [u])):=by
 rw[upd_upd];rfl
theorem addI_new {y:Int}(h:y∉fs):addI fs y=fs++[y]:=by unfold addI;rw[if_neg h]
end
structure SrAt (H Hc:Hp)(me wl:Addr)(fs ws:List Int):Prop where
 same:Same H Hc
 met:Hc me=some (.dK (kvI fs))
 wait:Hc wl=some (.lst (ws.map V.int))
def srM (n:Int)(me wl:Addr)(Hc:Hp):Nat:=match Hc me,Hc wl with
 | some (.dK kvs),some (.lst xs)=>2*(n.toNat-kvs.length)+xs.length
 | _,_=>0
section
variable {H Hc:Hp}{me wl:Addr}{fs ws:List Int}{n:Int}
theorem SrAt.mu (h:SrAt H Hc me wl fs ws):srM n me wl Hc=2*(n.toNat-fs.length)+ws.length:=by
 unfold srM;rw[h.met,h.wait];show 2*(n.toNat-(kvI fs).length)+(ws.map V.int).length=_;rw[kvI_len,List.length_map]
theorem SrAt.ne (h:SrAt H Hc me wl fs ws):me≠wl:=fun e=>by
 have:=h.met;rw[e,h.wait] at this;cases this
theorem last_of {ws:List Int}(h:ws≠[]):∃ ws' v,ws=ws'++[v]:=⟨ws.dropLast,ws.getLast h,(List.dropLast_concat_getLast h).symm⟩
theorem SrAt.pop {v:Int}(h:SrAt H Hc me wl fs (ws++[v]))(hw:H wl=none):((ws++[v]).map V.int)[((ws++[v]).map V.int).length-1]?=some (V.int v)∧SrAt H (upd Hc wl (.lst ((ws++[v]).map V.int).dropLast)) me wl fs ws:=by
 refine⟨by simp,h.same.upd hw,by rw[upd_ne h.ne];exact h.met,?_⟩;rw[upd_same];simp
theorem SrAt.add {y:Int}(h:SrAt H Hc me wl fs ws)(hm:H me=none)(hw:H wl=none)(hy:y∉fs):SrAt H (upd (upd Hc me (.dK (kvI (addI fs y)))) wl (.lst (ws.map V.int++[V.int y]))) me wl (fs++[y]) (ws++[y]):=by
 refine⟨(h.same.upd hm).upd hw,?_,?_⟩
 ·rw[upd_ne h.ne,upd_same,addI_new hy]
 ·rw[upd_same,List.map_append];rfl
theorem SrAt.mono {H0:Hp}(h:SrAt H Hc me wl fs ws)(s:Same Hc H0):SrAt H H0 me wl fs ws:=⟨h.same.trans s,s _ _ h.met,s _ _ h.wait⟩
end
def sp_reach (K:PySem.W.Frag):Sp:=fun vs H Q _=>∃ (rp:Addr) (as:List Addr) (n:Int) (ts:List (Int×Int)) (al:Addr) (ls:List Int) (u:Int),vs=[.ref rp,.int u,.ref al]∧RowsAt H rp as (rowsOf n ts)∧TsOk n ts∧n≤60∧ts.length≤1000∧(SqL K H al (ls.map V.int)∨SqT K H al (ls.map V.int))∧0≤u∧u<n ∧
 ∀ (p:Addr) (zs:List Int) (H':Hp),Same H H'→H p=none→H' p=some (.lst (zs.map V.int))→zs.Pairwise (·<·)→(∀ x,x∈zs↔Rch ts (·∈ls) u x)→Q (.ref p) H'
end L2
end
section
namespace L2
open PySem
def tI (l:List Int):PyData:=.tuple (l.map PyData.int)
theorem canLay_tI:∀ ls:List (List Int),PyData.canLayAll0 (ls.map tI)=true
 | []=>rfl
 | n::r=>by
  rw[List.map_cons,PyData.canLayAll0,canLay_tI r];unfold tI;rw[PyData.canLay0,canLay_ints];rfl
theorem depth_tI:∀ ls:List (List Int),PyData.depthAll (ls.map tI)≤1
 | []=>Nat.zero_le _
 | n::r=>by
  rw[List.map_cons,PyData.depthAll];have:=depth_tI r;unfold tI at this ⊢;rw[PyData.depth,depth_ints];omega
theorem eqv_TT:∀ ls ms:List (List Int),PyData.eqvAll (ls.map tI) (ms.map tI)=decide (ls=ms)
 | [],[]=>rfl
 | [],_::_=>rfl
 | _::_,[]=>rfl
 | a::r,b::t=>by
  rw[List.map_cons,List.map_cons,PyData.eqvAll,eqv_TT r t];unfold tI;rw[eqv_tupI];by_cases h:a=b<;>by_cases h':r=t<;>simp[h,h']
theorem Dts.tups {K:PySem.W.Frag}{H:Hp}:∀ {ps:List (Addr×List Int)},(∀ x∈ps,SqT K H x.1 (x.2.map V.int))→Dts K H (ps.map fun x=>V.ref x.1) ((ps.map (·.2)).map tI)
 | [],_=>.nil
 | p::r,h=>.cons (.tupI (h p (List.mem_cons_self ..))) (Dts.tups fun x hx=>h x (List.mem_cons_of_mem _ hx))
def LsAt (H:Hp)(p:Addr)(ls:List (List Int)):Prop:=∃ ps:List (Addr×List Int),H p=some (.tup (ps.map fun x=>V.ref x.1))∧(∀ x∈ps,H x.1=some (.tup (x.2.map V.int)))∧ps.map (·.2)=ls
theorem LsAt.tp {H H':Hp}{p:Addr}{ls:List (List Int)}(h:LsAt H p ls)(t:Tp H H'):LsAt H' p ls:=by
 obtain⟨ps,e,ha,hl⟩:=h;exact⟨ps,t _ _ e,fun x hx=>t _ _ (ha x hx),hl⟩
theorem LsAt.dt {K:PySem.W.Frag}{H:Hp}{p:Addr}{ls:List (List Int)}(h:LsAt H p ls):Dt K H (.ref p) (.tuple (ls.map tI)):=by
 obtain⟨ps,e,ha,rfl⟩:=h;exact .tup (SqT.of e) (Dts.tups fun x hx=>SqT.of (ha x hx))
def inv_dc (Hb:Hp)(am:Addr)(us:List Int)(i:Nat)(τ:St)(Hc:Hp):Prop:=∃ (c:Option V) (fs:List Int),τ=[c]∧Same Hb Hc∧Hc am=some (.dK (kvI fs))∧fs.length≤i∧fs.Nodup∧∀ x,x∈fs↔x∈us.take i
structure LlAt (Hc:Hp)(lo:Addr)(ps:List (Addr×List Int)):Prop where
 top:Hc lo=some (.lst (ps.map fun x=>V.ref x.1))
 row:∀ x∈ps,Hc x.1=some (.tup (x.2.map V.int))
theorem LlAt.tp {H H':Hp}{lo:Addr}{ps:List (Addr×List Int)}(h:LlAt H lo ps)(t:Tp H H')(e:H' lo=some (.lst (ps.map fun x=>V.ref x.1))):LlAt H' lo ps:=⟨e,fun x hx=>t _ _ (h.row x hx)⟩
theorem LlAt.snoc {H:Hp}{lo a:Addr}{ps:List (Addr×List Int)}{l:List Int}(h:LlAt H lo ps)(ha:H a=some (.tup (l.map V.int))):LlAt (upd H lo (.lst ((ps.map fun x=>V.ref x.1)++[V.ref a]))) lo (ps++[(a,l)]):=by
 refine⟨by rw[upd_same,List.map_append];rfl,fun x hx=>?_⟩;rcases List.mem_append.mp hx with hx | hx
 ·exact Tp.lst h.top _ _ (h.row x hx)
 ·cases List.mem_singleton.mp hx;exact Tp.lst h.top _ _ ha
open Classical in
noncomputable def pcOf (n:Int)(ts:List (Int×Int))(us:List Int)(u:Int):List Int:=(rInts 0 n.toNat).filter fun x=>decide (Rch ts (·∈us) u x)
section
variable {n:Int}{ts:List (Int×Int)}{us:List Int}{u x:Int}
theorem pcOf_lt:(pcOf n ts us u).Pairwise (·<·):=(rInts_lt _).filter _
open Classical in
theorem mem_pc (hok:TsOk n ts)(h0:0≤u)(h1:u<n):x∈pcOf n ts us u↔Rch ts (·∈us) u x:=by
 unfold pcOf;rw[List.mem_filter,mem_rInts,decide_eq_true_iff];constructor
 ·exact fun h=>h.2
 ·intro h;have:=h.rng hok h0 h1;exact⟨⟨this.1,by omega⟩,h⟩
def lotsStep (f:Int→List Int)(acc:List (List Int))(u:Int):List (List Int):=if (acc.any fun l=>decide (u∈l))=true then acc else acc++[f u]
noncomputable def lots (n:Int)(ts:List (Int×Int))(us vs:List Int):List (List Int):=vs.foldl (lotsStep (pcOf n ts us)) []
def inAny (acc:List (List Int))(x:Int):Prop:=∃ l∈acc,x∈l
theorem any_iff (acc:List (List Int))(x:Int):(acc.any fun l=>decide (x∈l))=true↔inAny acc x:=by
 rw[List.any_eq_true];exact⟨fun ⟨l,h,e⟩=>⟨l,h,of_decide_eq_true e⟩,fun ⟨l,h,e⟩=>⟨l,h,decide_eq_true e⟩⟩
theorem lots_snoc (vs:List Int)(v:Int):lots n ts us (vs++[v])=lotsStep (pcOf n ts us) (lots n ts us vs) v:=by
 unfold lots;rw[List.foldl_append];rfl
theorem lots_mem (vs:List Int):∀ l∈lots n ts us vs,∃ v∈vs,l=pcOf n ts us v:=by
 have gen:∀ (vs:List Int) (acc:List (List Int)) (P:List Int→Prop),(∀ l∈acc,P l)→(∀ v∈vs,P (pcOf n ts us v))→∀ l∈vs.foldl (lotsStep (pcOf n ts us)) acc,P l:=by
  intro vs;induction vs with
  | nil=>intro acc P h _;exact h
  | cons v r ih =>
   intro acc P h1 h2;refine ih _ P ?_ fun w hw=>h2 w (List.mem_cons_of_mem _ hw)
   unfold lotsStep;split
   ·exact h1
   ·intro l hl;rcases List.mem_append.mp hl with hl | hl
    ·exact h1 l hl
    ·cases List.mem_singleton.mp hl;exact h2 v (List.mem_cons_self ..)
 exact gen vs [] (fun l=>∃ v∈vs,l=pcOf n ts us v) (fun l hl=>by cases hl) fun v hv=>⟨v,hv,rfl⟩
theorem lots_len (vs:List Int):(lots n ts us vs).length≤vs.length:=by
 have gen:∀ (vs:List Int) (acc:List (List Int)),(vs.foldl (lotsStep (pcOf n ts us)) acc).length≤acc.length+vs.length:=by
  intro vs;induction vs with
  | nil=>intro acc;exact Nat.le_refl _
  | cons v r ih =>
   intro acc;have h1:=ih (lotsStep (pcOf n ts us) acc v);have h2:(lotsStep (pcOf n ts us) acc v).length≤acc.length+1:=by unfold lotsStep;split<;>simp
   rw[List.foldl_cons,List.length_cons];omega
 have:=gen vs [];unfold lots;simpa using this
theorem rch_left (hok:TsOk n ts)(hus:∀ x∈us,0≤x∧x<n){vs ls:List Int}(hv:∀ v∈vs,v∈us)(hls:∀ x,x∈ls↔x∈us∧¬ inAny (lots n ts us vs) x)(hu:u∈ls):Rch ts (·∈ls) u x↔Rch ts (·∈us) u x:=by
 refine Rch.left hok (fun x hx=>((hls x).mp hx).1) (fun x y ax nlx hy ay ly=>?_) hu;have hx:inAny (lots n ts us vs) x:=Classical.byContradiction fun h=>nlx ((hls x).mpr ⟨ax,h⟩)
 obtain⟨l,hl,hxl⟩:=hx;obtain⟨v,hvm,rfl⟩:=lots_mem vs l hl;obtain⟨v0,v1⟩:=hus v (hv v hvm);refine ((hls y).mp ly).2 ⟨_,hl,(mem_pc hok v0 v1).mpr ?_⟩;exact .step ((mem_pc hok v0 v1).mp hxl) hy ay
theorem inAny_snoc (acc:List (List Int))(l:List Int):inAny (acc++[l]) x↔inAny acc x∨x∈l:=by
 unfold inAny;constructor
 ·rintro⟨m,hm,hx⟩;rcases List.mem_append.mp hm with hm | hm
  ·exact .inl ⟨m,hm,hx⟩
  ·cases List.mem_singleton.mp hm;exact .inr hx
 ·rintro (⟨m,hm,hx⟩ | hx)
  ·exact⟨m,List.mem_append.mpr (.inl hm),hx⟩
  ·exact⟨l,by simp,hx⟩
end
end L2
end
section
namespace L2
open PySem PySem.Spec PyProof.Rows
section
variable {X:Cx}
theorem pe_ty {x:Str}{n:String}{pos:Pos}(hg:Gl X x)(hm:X.mg x=none)(hv:bootBuiltins x=some (.type n))(hn:x≠"__name__":=by decide)(hd:(x == ("__debug__":Str))=false:=by decide):PE X (.Name x pos) (tC (.ty n)) :=
 fun _ _ _ H _ I h=>ld_blt I hg hm hv ⟨.ty n,H,I,rfl,h⟩ hn hd
def cIsi (K:PySem.W.Frag):List V→Hp→VK→Prop:=fun xs H Q=>∃ (x:V) (n:String) (t:Value) (b:Bool),xs=[x,.ty n]∧TyOf K H x t∧PySem.W.kitOne K t (.type n)=some b∧Q (.bl b) H
theorem call_isi:CallR X (.builtin "isinstance") (cIsi X.K):=by
 intro pins s σ H xs us Q I r h;obtain⟨x,n,t,b,rfl,ty,e,q⟩:=h;obtain⟨u,w',rfl,rx,rn⟩:=vals2 r;cases (show w'=Value.type n from rn);exact isinst_ok I rx ty e fun tk=>⟨.bl b,H,I.tok _,rfl,q⟩
theorem isiK (K:PySem.W.Frag)(h:X.K=K:=by rfl):CallR X (.builtin "isinstance") (cIsi K):=by subst h;exact call_isi
theorem bools_get:∀ {bs:List Bool} {us:List Value},Vals (bs.map V.bl) us→∀ (i:Nat) (v:Value),us[i]?=some v→v=Value.bool (bs.getD i true)
 | [],_,.nil,i,v,h=>by simp at h
 | b::r,_,.cons q t,0,v,h=>by simp at h;subst h;exact q
 | b::r,_,.cons q t,i+1,v,h=>by simp at h;exact bools_get t i v h
theorem range_all (bs:List Bool):(List.range bs.length).all (fun i=>bs.getD i true)=bs.all id:=by
 induction bs with
 | nil=>rfl
 | cons b r ih =>
  rw[List.length_cons,List.range_succ_eq_map,List.all_cons,List.all_map,List.all_cons];congr 1
def cAll (K:PySem.W.Frag):List V→Hp→VK→Prop:=fun xs H Q=>∃ (p:Addr) (bs:List Bool),xs=[.ref p]∧SqL K H p (bs.map V.bl)∧Q (.bl (bs.all id)) H
theorem call_allB (hh:X.A.handled=none):CallR X (.builtin "all") (cAll X.K):=by
 intro pins s σ H xs us Q I r h;obtain⟨p,bs,rfl,hq,q⟩:=h;obtain⟨u,rfl,ru⟩:=vals1 r;cases ru;obtain⟨its,rv,pl,hz⟩:=I.list hq;have hl:s.heap.IsList p its.toArray:=pl.isList;have hlen:its.length=bs.length:=by rw[← rv.length,List.length_map]
 refine call_all_walk (wpAny_pyIter_list hl ?_);have hpu:∀ b o,s.heap.get? b=some o→(s.heap.push {cls:=.type "list_iterator",data:=.fields #[.ref p,.int 0 0]}).get? b=some o:=fun b o e=>Heap.get?_push_of_some _ e
 have hne:p≠s.heap.objs.size:=by
  obtain⟨o,ho,_⟩:=hl;exact Nat.ne_of_lt (Heap.lt_size ho)
 refine⟨_,_,_,_,_,_,fun i=>bs.getD i true,rfl,Walks.list (prog:=X.prog) (w:=X.w) (A:=X.A.in1) hh s.heap.objs.size p hne its.toArray,⟨⟨_,Heap.get?_push_size _ rfl,rfl,rfl⟩,hl.at fun o e=>hpu _ _ e⟩,?_,?_⟩
 ·intro i v s' Q' E' hP hQ;have:v=Value.bool (bs.getD i true):=bools_get rv i v (by simpa using hP);subst this;exact wpAny_truthy_bool hQ
 ·intro h' tk hk;have e:(List.range its.toArray.size).all (fun i=>bs.getD i true)=bs.all id:=by rw[List.size_toArray,hlen];exact range_all bs
  rw[e];refine⟨.bl _,H,I.kept fun b o eb=>hk b o (fun hm=>?_) (hpu b o eb),rfl,q⟩;rw[List.mem_singleton.mp hm] at eb;exact absurd (Heap.lt_size eb) (Nat.lt_irrefl _)
theorem allK (K:PySem.W.Frag)(hh:X.A.handled=none)(h:X.K=K:=by rfl):CallR X (.builtin "all") (cAll K):=by subst h;exact call_allB hh
end
end L2
end
section
namespace L2
open PySem
def mm (a b:Int):Int×Int:=(if b<a then b else a,if b>a then b else a)
inductive Grow (ts:List (Int×Int)):List Int→List (Int×Int)→Prop where
 | one (s:Int):Grow ts [s] []
 | add {ins:List Int} {us:List (Int×Int)} {a b:Int} (h:Grow ts ins us) (ha:a∈ins) (hb:b∉ins) (hn:b∈nb ts a):Grow ts (ins++[b]) (us++[mm a b])
section
variable {n:Int}{ts us:List (Int×Int)}{ins:List Int}
theorem mm_mem (hok:TsOk n ts){a b:Int}(h:b∈nb ts a):mm a b∈ts:=by
 rcases mem_nb.mp h with q | ⟨q,_⟩
 ·have:=hok _ q;dsimp only at this;have e:mm a b=(a,b):=by unfold mm;rw[if_neg (by omega),if_pos (by omega)]
  rw[e];exact q
 ·have:=hok _ q;dsimp only at this;have e:mm a b=(b,a):=by unfold mm;rw[if_pos (by omega),if_neg (by omega)]
  rw[e];exact q
theorem Grow.len (g:Grow ts ins us):ins.length=us.length+1:=by
 induction g with
 | one s=>rfl
 | add h _ _ _ ih=>rw[List.length_append,List.length_append,ih];rfl
theorem Grow.nd (g:Grow ts ins us):ins.Nodup:=by
 induction g with
 | one s=>simp
 | add h _ hb _ ih =>
  rw[List.nodup_append];exact⟨ih,by simp,fun a ha b hb' e=>by simp at hb';subst hb';subst e;exact hb ha⟩
theorem Grow.ends (g:Grow ts ins us):∀ t∈us,t.1∈ins∧t.2∈ins:=by
 induction g with
 | one s=>intro t ht;cases ht
 | @add ins us a b h ha hb hn ih =>
  intro t ht;rcases List.mem_append.mp ht with ht | ht
  ·exact⟨List.mem_append_left _ (ih t ht).1,List.mem_append_left _ (ih t ht).2⟩
  ·cases List.mem_singleton.mp ht;have h1:a∈ins++[b]:=List.mem_append_left _ ha;have h2:b∈ins++[b]:=List.mem_append_right _ (List.mem_singleton.mpr rfl);unfold mm;dsimp only;constructor
   ·split<;>assumption
   ·split<;>assumption
theorem Grow.sub (g:Grow ts ins us)(hok:TsOk n ts):∀ t∈us,t∈ts:=by
 induction g with
 | one s=>intro t ht;cases ht
 | add h ha hb hn ih =>
  intro t ht;rcases List.mem_append.mp ht with ht | ht
  ·exact ih t ht
  ·cases List.mem_singleton.mp ht;exact mm_mem hok hn
theorem Grow.tnd (g:Grow ts ins us):us.Nodup:=by
 induction g with
 | one s=>exact List.nodup_nil
 | @add ins us a b h ha hb hn ih =>
  rw[List.nodup_append];refine⟨ih,by simp,fun t ht u hu e=>?_⟩;simp at hu;subst hu;subst e;have:=h.ends _ ht;unfold mm at this;dsimp only at this;obtain⟨q1,q2⟩:=this;by_cases hc:b<a
  ·rw[if_pos hc] at q1;exact hb q1
  ·rw[if_neg hc] at q1;by_cases hd:b>a
   ·rw[if_pos hd] at q2;exact hb q2
   ·have:a=b:=by omega
    subst this;exact hb ha
theorem Grow.rng (g:Grow ts ins us)(hok:TsOk n ts)(h0:∀ x∈ins.head?,0≤x∧x<n):∀ x∈ins,0≤x∧x<n:=by
 induction g with
 | one s=>intro x hx;rw[List.mem_singleton.mp hx];exact h0 s rfl
 | @add ins us a b h ha hb hn ih =>
  have hne:ins≠[]:=fun e=>by subst e;cases ha
  have h0':∀ x∈ins.head?,0≤x∧x<n:=fun x hx=>h0 x (by rw[List.head?_append,hx];rfl)
  intro x hx;rcases List.mem_append.mp hx with hx | hx
  ·exact ih h0' x hx
  ·cases List.mem_singleton.mp hx;have:=nb_rng hok hn;omega
theorem Grow.open (g:Grow ts ins us)(hw:IsWeb n ts)(hr:∀ x∈ins,0≤x∧x<n)(hl:(ins.length:Int)<n):∃ a∈ins,∃ b∈nb ts a,b∉ins:=by
 apply Classical.byContradiction;intro hno;have hcl:∀ a∈ins,∀ b∈nb ts a,b∈ins:=fun a ha b hb=>Classical.byContradiction fun hn=>hno ⟨a,ha,b,hb,hn⟩
 obtain⟨s,hs⟩:∃ s,s∈ins:=by
  cases ins with
  | nil=>have:=g.len;simp at this
  | cons x r=>exact⟨x,List.mem_cons_self ..⟩
 have hS:∀ t∈ts,(t.1∈ins↔t.2∈ins):=fun t ht=>by
  obtain⟨h0,h1,h2⟩:=hw.rng t ht;have e1:t.2∈nb ts t.1:=mem_nb.mpr (.inl ht);exact⟨fun h=>hcl _ h _ e1,fun h=>hcl _ h _ ((nb_sym hw.rng).mp e1)⟩
 have hall:=fun v h0 h1=>hw.conn (fun x=>x∈ins) hS s v (hr s hs).1 (hr s hs).2 h0 h1 hs
 have hsub:rInts 0 n.toNat ⊆ ins:=fun x hx=>by
  have:=mem_rInts.mp hx;exact hall x this.1 (by omega)
 have:=nd_sub (rising_nd (rInts_lt n.toNat)) hsub;rw[rInts_length] at this;omega
structure IsTree (n:Int)(ts us:List (Int×Int)):Prop where
 grown:∃ ins gs,Grow ts ins gs∧us.Perm gs∧(ins.length:Int)=n∧∀ x∈ins,0≤x∧x<n
 srt:us.Pairwise Lex
 sub:∀ t∈us,t∈ts
theorem IsTree.len (h:IsTree n ts us):(us.length:Int)+1=n:=by
 obtain⟨ins,gs,g,p,hl,_⟩:=h.grown;have:=g.len;rw[p.length_eq];omega
theorem IsTree.ok (h:IsTree n ts us)(hok:TsOk n ts):TsOk n us:=fun t ht=>hok t (h.sub t ht)
theorem lex_srt {us:List (Int×Int)}(hs:us.Pairwise fun x y=>HT.lexLt (tl y) (tl x)=false)(hn:us.Nodup):us.Pairwise Lex:=by
 refine (List.Pairwise.and hs hn).imp ?_;rintro a b ⟨h1,h2⟩;have h3:¬ Lex b a:=fun e=>by rw[lex_iff.mpr e] at h1;cases h1
 unfold Lex at h3 ⊢;have h4:¬ (a.1=b.1∧a.2=b.2):=fun e=>h2 (by cases a;cases b;simp at e;rw[e.1,e.2])
 omega
theorem grow_tree {gs:List (Int×Int)}(g:Grow ts ins gs)(hok:TsOk n ts)(hl:(ins.length:Int)=n)(hr:∀ x∈ins,0≤x∧x<n)(p:us.Perm gs)(hs:us.Pairwise fun x y=>HT.lexLt (tl y) (tl x)=false):IsTree n ts us :=
 ⟨⟨ins,gs,g,p,hl,hr⟩,lex_srt hs (p.nodup_iff.mpr g.tnd),fun t ht=>g.sub hok t (p.mem_iff.mp ht)⟩
end
theorem RowsAt.put {H:Hp}{p x:Addr}{as:List Addr}{rows:List (List Int)}{o:HO}(h:RowsAt H p as rows)(h1:x≠p)(h2:x∉as):RowsAt (upd H x o) p as rows :=
 h.mono fun a u q e=>by
  rw[upd_ne (fun z=>by subst z;exact q.elim (fun z=>h1 z) h2)];exact e
end L2
end
section
namespace L2
open PySem PySem.Spec PyProof.Rows
section
variable {X:Cx}
def rInD (K:PySem.W.Frag)(neg:Bool):R2:=fun x y H Q=>∃ (d:PyData) (es:List PyData),Dt K H x d∧Dt K H y (.tuple es)∧d.canLay0=true∧PyData.canLayAll0 es=true∧PyData.depthAll es≤8 ∧
 Q (.bl (if neg then !(es.any fun e=>PyData.eqv e d) else es.any fun e=>PyData.eqv e d)) H
theorem op_inD (hu:X.A.units+64<cLine):OpR X (compareOp .In) (rInD X.K false):=by
 intro pins s σ H x y v u Q I rx ry h;obtain⟨d,es,hd,he,c1,c2,dp,q⟩:=h;obtain⟨as,r1⟩:=I.reads hd rx;obtain⟨bs,r2⟩:=I.reads he ry;exact SeqAt.in_tuple_reads r2 r1 c2 c1 (by have:=Nat.min_le_left (PyData.depthAll es) d.depth;omega) ⟨.bl _,H,I,rfl,q⟩
theorem op_notInD (hu:X.A.units+64<cLine):OpR X (compareOp .NotIn) (rInD X.K true):=by
 intro pins s σ H x y v u Q I rx ry h;obtain⟨d,es,hd,he,c1,c2,dp,q⟩:=h;obtain⟨as,r1⟩:=I.reads hd rx;obtain⟨bs,r2⟩:=I.reads he ry;exact SeqAt.notIn_tuple_reads r2 r1 c2 c1 (by have:=Nat.min_le_left (PyData.depthAll es) d.depth;omega) ⟨.bl _,H,I,rfl,q⟩
theorem notInDK (K:PySem.W.Frag)(hu:X.A.units+64<cLine)(h:X.K=K:=by rfl):OpR X (compareOp .NotIn) (rInD K true):=by subst h;exact op_notInD hu
end
theorem TsAt.ls {H:Hp}{q:Addr}{ts:List (Int×Int)}(h:TsAt H q ts):LsAt H q (ts.map tl):=by
 obtain⟨ps,e,hp⟩:=h;exact⟨ps,e,hp.to,hp.eq⟩
theorem any_tl (ts:List (Int×Int))(t:Int×Int):((ts.map tl).map tI).any (fun e=>PyData.eqv e (.tuple ([t.1,t.2].map PyData.int)))=decide (t∈ts):=by
 rw[List.map_map,List.any_map,Bool.eq_iff_iff,List.any_eq_true,decide_eq_true_iff];constructor
 ·rintro⟨u,hu,e⟩;have e':PyData.eqv (.tuple ([u.1,u.2].map PyData.int)) (.tuple ([t.1,t.2].map PyData.int))=true:=e;rw[eqv_tupI] at e';have:=of_decide_eq_true e';injection this with h1 h2
  injection h2 with h2
  have:u=t:=by cases u;cases t;simp at h1 h2;rw[h1,h2]
  rw[← this];exact hu
 ·intro h;refine⟨t,h,?_⟩;show PyData.eqv (.tuple ([t.1,t.2].map PyData.int)) (.tuple ([t.1,t.2].map PyData.int))=true;rw[eqv_tupI];exact decide_eq_true rfl
theorem notin_tie {K:PySem.W.Frag}{H:Hp}{a p:Addr}{t:Int×Int}{ts:List (Int×Int)}{Q:VK}(h1:SqT K H a ([t.1,t.2].map V.int))(h2:TsAt H p ts)(q:Q (.bl (!decide (t∈ts))) H):rInD K true (.ref a) (.ref p) H Q:=by
 refine⟨_,_,Dt.tupI h1,h2.ls.dt,?_,?_,?_,?_⟩
 ·rw[PyData.canLay0,canLay_ints]
 ·exact canLay_tI _
 ·exact Nat.le_trans (depth_tI _) (by decide)
 ·rw[any_tl];exact q
end L2
end
section
namespace HT
open PySem PyProof.Rows
section
variable {prog:Program}{w:World}{A:Around}{E:Value→Shared→Prop}{s:Shared}
theorem applied_rev {sl:Addr}{tk:Tok}{n:Nat}{Q:Int×Int×Nat→Shared→Prop}(hs:s.heap.IsSliceOf sl .none .none (.int (-1) tk))
  (h:Q ((n:Int)-1,-1,n) s):wpAny (model prog w) A (Builtin.Slice.sliceApplied (.ref sl) (pure (n:Int))) Q E s:=by
 obtain⟨os,hos,hcs,hds⟩:=id hs;unfold Builtin.Slice.sliceApplied Builtin.Slice.sliceFields;refine wpAny_bind (wpAny_bind (wpAny_field hos hds (x:=.none) rfl (wpAny_bind (wpAny_field hos hds (x:=.none) rfl (wpAny_bind (wpAny_field hos hds (x:=.int (-1) tk) rfl (wpAny_pure ?_)))))));refine wpAny_bind (slicePart_ (o:=some (-1)) (.int (-1) tk) ?_);show wpAny _ _ (if ((-1:Int) == 0)=true then _ else _) _ _ s;rw[if_neg (by decide)];refine wpAny_bind (slicePart_ .none (wpAny_bind (slicePart_ .none (wpAny_bind (wpAny_pure ?_)))));show wpAny _ _ (match Builtin.Slice.sliceAdjust none none (-1) (n:Int) with | (lo,hi)=>pure (lo,(-1:Int),Builtin.Slice.slicePlaces lo hi (-1))) _ _ s;have e1:Builtin.Slice.sliceAdjust none none (-1) (n:Int)=((n:Int)-1,-1):=by
  unfold Builtin.Slice.sliceAdjust;simp
 rw[e1];have e2:Builtin.Slice.slicePlaces ((n:Int)-1) (-1) (-1)=n:=by
  unfold Builtin.Slice.slicePlaces;simp;try split
  all_goals omega
 show wpAny _ _ (pure ((n:Int)-1,(-1:Int),Builtin.Slice.slicePlaces ((n:Int)-1) (-1) (-1))) _ _ s;rw[e2];exact wpAny_pure h
theorem pick_rev (xs:List Value):((List.range xs.length).filterMap fun (m:Nat)=>xs.toArray[(((xs.length:Nat):Int)-1+(m:Int)*(-1)).toNat]?)=xs.reverse:=by
 have e:∀ m∈List.range xs.length,xs.toArray[(((xs.length:Nat):Int)-1+(m:Int)*(-1)).toNat]?=some (xs.reverse.getD m .none):=by
  intro m hm;have hm':=List.mem_range.mp hm;have e1:(((xs.length:Nat):Int)-1+(m:Int)*(-1)).toNat=xs.length-1-m:=by omega
  rw[e1,List.getElem?_toArray,List.getElem?_eq_getElem (by omega),List.getD_eq_getElem?_getD,List.getElem?_reverse hm',List.getElem?_eq_getElem (by omega)];rfl
 have h2:∀ l:List Nat,(∀ m∈l,xs.toArray[(((xs.length:Nat):Int)-1+(m:Int)*(-1)).toNat]?=some (xs.reverse.getD m .none))→(l.filterMap fun (m:Nat)=>xs.toArray[(((xs.length:Nat):Int)-1+(m:Int)*(-1)).toNat]?)=l.map fun m=>xs.reverse.getD m .none:=by
  intro l hl;induction l with
  | nil=>rfl
  | cons a r ih=>rw[List.filterMap_cons_some (f:=fun (m:Nat)=>xs.toArray[(((xs.length:Nat):Int)-1+(m:Int)*(-1)).toNat]?) (hl a (List.mem_cons_self ..)),List.map_cons,ih fun m hm=>hl m (List.mem_cons_of_mem _ hm)]
 rw[h2 _ e];refine List.ext_getElem? fun i=>?_
 rw[List.getElem?_map];rcases Nat.lt_or_ge i xs.length with h | h
 ·rw[List.getElem?_range h,List.getElem?_eq_getElem (l:=xs.reverse) (by simpa using h)];simp[List.getD_eq_getElem?_getD,h]
 ·rw[List.getElem?_eq_none (by simpa using h),List.getElem?_eq_none (by simpa using h)];rfl
theorem getItem_tuple_rev {t sl:Addr}{xs:List Value}{tk:Tok}{Q:Value→Shared→Prop}(ht:IsTup s.heap t xs.toArray)(hs:s.heap.IsSliceOf sl .none .none (.int (-1) tk))
  (h:Q (.ref s.heap.objs.size) {s with heap:=s.heap.push {cls:=.type "tuple",data:=.seq xs.reverse.toArray}})
  (hsz:xs.length≤sizeLine):wpAny (model prog w) A (getItem (.ref t) (.ref sl)) Q E s:=by
 have htake:sizeOk (.seq xs.reverse.toArray):=by
  show xs.reverse.toArray.size≤sizeLine;simpa using hsz
 obtain⟨os,hos,hcs,hds⟩:=id hs;have hTs:s.TypeIs (.ref sl) "slice":=⟨os,hos,hcs⟩
 unfold getItem;try with_reducible refine wpAny_holding ?_
 first | refine wpAny_bind (wpAny_pure ?_) | skip
 refine wpAny_bind (wpAny_sequenceKey ht.typeIs (by decide) ?_)
 refine wpAny_bind (wpAny_callSpecial?_slot (name:=Str.ofString "__getitem__") ht.typeIs PyProof.Rows.slot_tuple_getitem
  (wpAny_call_entry PyProof.Rows.slot_tuple_getitem ht.typeIs entry_tuple_getitem ?_ (args_tuple_getitem _ _)))
 show wpAny _ _ (Builtin.Tuple.tupleItemsOf (.ref t) >>= _) _ _ s;refine wpAny_bind (tupleItemsOf_ ht ?_);refine wpAny_bind (wpAny_typeOf hTs ?_);rw[if_pos (by decide)];refine wpAny_bind (applied_rev (n:=xs.toArray.size) hs ?_);show wpAny _ _ (if ((((xs.toArray.size:Nat):Int)-1) == 0 && (-1:Int) == 1 && xs.toArray.size == xs.toArray.size)=true then _ else _) _ _ s;rw[if_neg (by simp)];rw[show xs.toArray.size=xs.length by simp,pick_rev];first
  | exact wpAny_bind (m:=Builtin.Tuple.tupleExact _) (wpAny_newObj_type (wpAny_pure ⟨_,rfl,wpAny_pure h⟩) htake)
  | exact wpAny_bind (m:=Builtin.Tuple.tupleExact _) (wpAny_newObj_type (wpAny_bind (wpAny_pure (wpAny_pure ⟨_,rfl,wpAny_pure h⟩))) htake)
  | exact wpAny_bind (wpAny_bind (m:=Builtin.Tuple.tupleExact _) (wpAny_newObj_type (wpAny_pure (wpAny_pure ⟨_,rfl,wpAny_pure h⟩)) htake))
  | exact wpAny_bind (wpAny_bind (m:=Builtin.Tuple.tupleExact _) (wpAny_newObj_type (wpAny_pure ⟨_,rfl,wpAny_pure h⟩) htake))
end
end HT
namespace L2
open PySem PySem.Spec PyProof.Rows
section
variable {X:Cx}{e st:Expr}{te ts:TE}{p2 pos:Pos}
def tRevT (K:PySem.W.Frag)(te ts:TE):TE:=fun σ H Q=>te σ H fun x H1=>ts σ H1 fun y H2=>∃ a xs,x=.ref a∧SqT K H2 a xs∧y=.int (-1)∧∀ p,H2 p=none→Q (.ref p) (upd H2 p (.tup xs.reverse))
end
end L2
end
section
local macro_rules | `(tactic| omega)=>`(tactic| first | lia | omega +splitDisjunctions)
namespace L2
open PySem
theorem mm_comm {a b:Int}(h:a≠b):mm a b=mm b a:=by
 unfold mm;by_cases h1:b<a
 ·rw[if_pos h1,if_neg (show ¬ b>a by omega),if_neg (show ¬ a<b by omega),if_pos (show a>b by omega)]
 ·rw[if_neg h1,if_pos (show b>a by omega),if_pos (show a<b by omega),if_neg (show ¬ a>b by omega)]
theorem mm_cases {a b:Int}(h:a≠b):(b<a∧mm a b=(b,a))∨(a<b∧mm a b=(a,b)):=by
 unfold mm;by_cases h1:b<a
 ·exact .inl ⟨h1,by rw[if_pos h1,if_neg (show ¬ b>a by omega)]⟩
 ·exact .inr ⟨by omega,by rw[if_neg h1,if_pos (show b>a by omega)]⟩
theorem Grow.root {ts gs:List (Int×Int)}{ins:List Int}(G:Grow ts ins gs):∀ g∈ins,∃ (par:Int→Int) (rank:Int→Nat),
  (∀ v∈ins,v≠g→par v∈ins∧rank (par v)<rank v∧mm v (par v)∈gs)∧∀ t∈gs,(t.1≠g∧t.2=par t.1)∨(t.2≠g∧t.1=par t.2):=by
 induction G with
 | one s =>
  intro g hg;exact⟨id,fun _=>0,fun v hv hn=>absurd ((List.mem_singleton.mp hv).trans (List.mem_singleton.mp hg).symm) hn,fun t ht=>by cases ht⟩
 | @add ins us a b h ha hb hn ih =>
  have hab:a≠b:=fun e=>hb (e ▸ ha)
  intro g hg;rcases List.mem_append.mp hg with hg | hg
  ·obtain⟨par,rank,h1,h2⟩:=ih g hg;have hgb:g≠b:=fun e=>hb (e ▸ hg)
   refine⟨fun v=>if v=b then a else par v,fun v=>if v=b then rank a+1 else rank v,fun v hv hvg=>?_,fun t ht=>?_⟩
   ·rcases List.mem_append.mp hv with hv | hv
    ·have hvb:v≠b:=fun e=>hb (e ▸ hv)
     obtain⟨q1,q2,q3⟩:=h1 v hv hvg;have hpb:par v≠b:=fun e=>hb (e ▸ q1)
     dsimp only;rw[if_neg hvb,if_neg hpb,if_neg hvb];exact⟨List.mem_append_left _ q1,q2,List.mem_append_left _ q3⟩
    ·obtain rfl:=List.mem_singleton.mp hv;dsimp only;rw[if_pos rfl,if_neg hab,if_pos rfl];exact⟨List.mem_append_left _ ha,Nat.lt_succ_self _,List.mem_append_right _ (by rw[mm_comm hab.symm];exact List.mem_singleton.mpr rfl)⟩
   ·rcases List.mem_append.mp ht with ht | ht
    ·obtain⟨e1,e2⟩:=h.ends t ht;have n1:t.1≠b:=fun e=>hb (e ▸ e1)
     have n2:t.2≠b:=fun e=>hb (e ▸ e2)
     dsimp only;rw[if_neg n1,if_neg n2];exact h2 t ht
    ·obtain rfl:=List.mem_singleton.mp ht;rcases mm_cases hab with ⟨_,e⟩ | ⟨_,e⟩
     ·rw[e];dsimp only;rw[if_pos rfl];exact .inl ⟨hgb.symm,rfl⟩
     ·rw[e];dsimp only;rw[if_pos rfl];exact .inr ⟨hgb.symm,rfl⟩
  ·obtain rfl:=List.mem_singleton.mp hg;obtain⟨par,rank,h1,h2⟩:=ih a ha;refine⟨fun v=>if v=a then g else par v,fun v=>if v=g then 0 else rank v+1,fun v hv hvg=>?_,fun t ht=>?_⟩
   ·have hv':v∈ins:=(List.mem_append.mp hv).resolve_right fun e=>hvg (List.mem_singleton.mp e)
    by_cases hva:v=a
    ·subst hva;dsimp only;rw[if_pos rfl,if_pos rfl,if_neg hvg];exact⟨List.mem_append_right _ (List.mem_singleton.mpr rfl),Nat.succ_pos _,List.mem_append_right _ (List.mem_singleton.mpr rfl)⟩
    ·obtain⟨q1,q2,q3⟩:=h1 v hv' hva;have hpg:par v≠g:=fun e=>hb (e ▸ q1)
     dsimp only;rw[if_neg hva,if_neg hpg,if_neg hvg];exact⟨List.mem_append_left _ q1,Nat.succ_lt_succ q2,List.mem_append_left _ q3⟩
   ·rcases List.mem_append.mp ht with ht | ht
    ·obtain⟨e1,e2⟩:=h.ends t ht;have n1:t.1≠g:=fun e=>hb (e ▸ e1)
     have n2:t.2≠g:=fun e=>hb (e ▸ e2)
     dsimp only;rcases h2 t ht with ⟨q1,q2⟩ | ⟨q1,q2⟩
     ·rw[if_neg q1];exact .inl ⟨n1,q2⟩
     ·rw[if_neg q1];exact .inr ⟨n2,q2⟩
    ·obtain rfl:=List.mem_singleton.mp ht;rcases mm_cases hab with ⟨_,e⟩ | ⟨_,e⟩
     ·rw[e];dsimp only;rw[if_pos rfl];exact .inr ⟨hab,rfl⟩
     ·rw[e];dsimp only;rw[if_pos rfl];exact .inl ⟨hab,rfl⟩
structure Rooted (n:Int)(us:List (Int×Int))(g:Int)(par:Int→Int)(rank:Int→Nat):Prop where
 g0:0≤g
 g1:g<n
 up:∀ v,0≤v→v<n→v≠g→0≤par v∧par v<n∧rank (par v)<rank v∧par v∈nb us v
 edge:∀ v u,u∈nb us v→(v≠g∧u=par v)∨(u≠g∧par u=v)
theorem mem_nb_iff {n:Int}{us:List (Int×Int)}(hok:TsOk n us){v x:Int}:x∈nb us v↔(v,x)∈us∨(x,v)∈us:=by
 rw[mem_nb];constructor
 ·rintro (h | ⟨h,_⟩)
  ·exact .inl h
  ·exact .inr h
 ·rintro (h | h)
  ·exact .inl h
  ·exact .inr ⟨h,.inl (by have:=hok _ h;dsimp only at this;omega)⟩
theorem IsTree.rooted {n:Int}{ts us:List (Int×Int)}(T:IsTree n ts us)(hok:TsOk n ts){g:Int}(g0:0≤g)(g1:g<n):∃ par rank,Rooted n us g par rank:=by
 obtain⟨ins,gs,G,p,hl,hr⟩:=T.grown;have hall:∀ v,0≤v→v<n→v∈ins:=fun v h0 h1=>by
  apply Classical.byContradiction;intro hv;have hnd:(v::ins).Nodup:=List.nodup_cons.mpr ⟨hv,G.nd⟩;have:=nd_len (n:=n) hnd fun x hx=>by
   rcases List.mem_cons.mp hx with rfl | hx
   ·exact⟨h0,h1⟩
   ·exact hr x hx
  rw[List.length_cons] at this;omega
 obtain⟨par,rank,h1,h2⟩:=G.root g (hall g g0 g1);have hok':=T.ok hok;refine⟨par,rank,g0,g1,fun v v0 v1 hv=>?_,fun v u hu=>?_⟩
 ·obtain⟨q1,q2,q3⟩:=h1 v (hall v v0 v1) hv;have hm:mm v (par v)∈us:=p.mem_iff.mpr q3;have hne:v≠par v:=fun e=>by rw[← e] at q2;omega
  refine⟨(hr _ q1).1,(hr _ q1).2,q2,(mem_nb_iff hok').mpr ?_⟩;rcases mm_cases hne with ⟨_,e⟩ | ⟨_,e⟩
  ·rw[e] at hm;exact .inr hm
  ·rw[e] at hm;exact .inl hm
 ·rcases (mem_nb_iff hok').mp hu with h | h
  ·rcases h2 _ (p.mem_iff.mp h) with ⟨q1,q2⟩ | ⟨q1,q2⟩
   ·exact .inl ⟨q1,q2⟩
   ·exact .inr ⟨q1,q2.symm⟩
  ·rcases h2 _ (p.mem_iff.mp h) with ⟨q1,q2⟩ | ⟨q1,q2⟩
   ·exact .inr ⟨q1,q2.symm⟩
   ·exact .inl ⟨q1,q2⟩
def itp (par:Int→Int):Nat→Int→Int
 | 0,v=>v
 | i+1,v=>par (itp par i v)
def wayOf (par:Int→Int)(v:Int)(k:Nat):List Int:=(List.range (k+1)).map fun i=>itp par i v
section
variable {n g one:Int}{us:List (Int×Int)}{par:Int→Int}{rank:Int→Nat}
theorem Rooted.itp_in (R:Rooted n us g par rank)(o0:0≤one)(o1:one<n):∀ k,(∀ i,i<k→itp par i one≠g)→0≤itp par k one∧itp par k one<n
 | 0,_=>⟨o0,o1⟩
 | k+1,h=>by
  obtain⟨q0,q1⟩:=Rooted.itp_in R o0 o1 k fun i hi=>h i (by omega)
  have:=R.up _ q0 q1 (h k (Nat.lt_succ_self _));exact⟨this.1,this.2.1⟩
theorem Rooted.itp_rank (R:Rooted n us g par rank)(o0:0≤one)(o1:one<n){k:Nat}(h:∀ i,i<k→itp par i one≠g):∀ j i,i<j→j≤k→rank (itp par j one)<rank (itp par i one)
 | 0,i,hi,_=>absurd hi (Nat.not_lt_zero _)
 | j+1,i,hi,hj=>by
  obtain⟨q0,q1⟩:=R.itp_in o0 o1 j fun m hm=>h m (by omega)
  have h1:=(R.up _ q0 q1 (h j (by omega))).2.2.1;rcases Nat.lt_or_ge i j with h2 | h2
  ·exact Nat.lt_trans h1 (Rooted.itp_rank R o0 o1 h j i h2 (by omega))
  ·have:i=j:=by omega
   subst this;exact h1
theorem Rooted.reach (R:Rooted n us g par rank)(o0:0≤one)(o1:one<n){k:Nat}(h:∀ i,i<k→itp par i one≠g):k≤rank one:=by
 have:∀ j,j≤k→rank (itp par j one)+j≤rank one:=by
  intro j;induction j with
  | zero=>intro _;exact Nat.le_refl _
  | succ j ih =>
   intro hj;have:=R.itp_rank o0 o1 h (j+1) j (Nat.lt_succ_self _) hj;have:=ih (by omega);omega
 have:=this k (Nat.le_refl _);omega
theorem Rooted.nd (R:Rooted n us g par rank)(o0:0≤one)(o1:one<n){k:Nat}(h:∀ i,i<k→itp par i one≠g):(wayOf par one k).Nodup:=by
 unfold wayOf;refine List.pairwise_map.mpr ?_;refine List.Pairwise.imp_of_mem ?_ (List.pairwise_lt_range (n:=k+1));intro a b ha hb hab e;have:=R.itp_rank o0 o1 h b a hab (by have:=List.mem_range.mp hb;omega);rw[e] at this;omega
end
end L2
end
section
namespace STab
open PySem PySem.SetTable
def tm (m:Nat):SetTable:={mask:=m,place:=#[],dummies:=#[],finger:=0,led:=true,moves:=0,plain:=true}
theorem advance_mask {t t':SetTable}(h:t.mask=t'.mask)(p:Probe):t.advance p=t'.advance p:=by unfold SetTable.advance;rw[h]
theorem adv_mask {t t':SetTable}(h:t.mask=t'.mask):∀ (n:Nat) (p:Probe),adv t n p=adv t' n p
 | 0,_=>rfl
 | n+1,p=>by show adv t n (t.advance p)=adv t' n (t'.advance p);rw[advance_mask h,adv_mask h n]
theorem start_mask {t t':SetTable}(h:t.mask=t'.mask)(x:Int):t.probeStart x=t'.probeStart x:=by unfold SetTable.probeStart;rw[h]
def pos (m:Nat)(h:Int)(k:Nat):Nat:=(adv (tm m) k ((tm m).probeStart h)).j
theorem pos_eq (t:SetTable)(h:Int)(k:Nat):(adv t k (t.probeStart h)).j=pos t.mask h k:=by
 unfold pos;rw[adv_mask (t:=t) (t':=tm t.mask) rfl,start_mask (t:=t) (t':=tm t.mask) rfl]
def Way (m:Nat)(h:Int)(j:Nat)(S:Nat→Prop):Prop:=∃ k,pos m h k=j∧∀ k',k'<k→S (pos m h k')
theorem Way.mono {m:Nat}{h:Int}{j:Nat}{S S':Nat→Prop}(w:Way m h j S)(hs:∀ x,S x→S' x):Way m h j S':=let ⟨k,e,q⟩:=w;⟨k,e,fun k' hk=>hs _ (q k' hk)⟩
def Met (t:SetTable)(es:List (Int×Value)):Prop:=∀ e j,(e,j)∈es.zip t.place.toList→Way t.mask e.1 j fun x=>x∈t.place.toList
theorem zip_ins {α β:Type}{l:List α}{m:List β}(h:l.length=m.length)(p:Nat)(a:α)(b:β)(x:α×β) :
  x∈(l.take p++a::l.drop p).zip (m.take p++b::m.drop p)↔x∈l.zip m∨x=(a,b):=by
 rw[List.zip_append (by rw[List.length_take,List.length_take,h]),List.zip_cons_cons,List.mem_append,List.mem_cons];have e:l.zip m=(l.take p).zip (m.take p)++(l.drop p).zip (m.drop p):=by
  rw[← List.zip_append (by rw[List.length_take,List.length_take,h]),List.take_append_drop,List.take_append_drop]
 rw[e,List.mem_append];constructor
 ·rintro (h | h | h)
  ·exact .inl (.inl h)
  ·exact .inr h
  ·exact .inl (.inr h)
 ·rintro ((h | h) | h)
  ·exact .inl h
  ·exact .inr (.inr h)
  ·exact .inr (.inl h)
theorem Met.put {t:SetTable}{es:Array (Int×Value)}{led:Bool}(o:Ok t es.size led)(M:Met t es.toList){h:Int}{x:Value}{j:Nat}(w:Way t.mask h j fun y=>y∈t.place.toList) :
  Met (t.put j).1 (insertAt es (t.put j).2 (h,x)).toList:=by
 intro e i hm;have hp:(t.put j).1.place.toList=t.place.toList.take (below t.place j)++j::t.place.toList.drop (below t.place j):=toList_insertAt ..;have he:(insertAt es (t.put j).2 (h,x)).toList=es.toList.take (below t.place j)++(h,x)::es.toList.drop (below t.place j):=toList_insertAt ..;rw[hp,he,zip_ins (by rw[Array.length_toList,Array.length_toList,o.size])] at hm;have up:∀ y,y∈t.place.toList→y∈(t.put j).1.place.toList:=fun y hy=>by
  rw[hp];rw[← List.take_append_drop (below t.place j) t.place.toList] at hy;rcases List.mem_append.mp hy with hy | hy
  ·exact List.mem_append_left _ hy
  ·exact List.mem_append_right _ (List.mem_cons_of_mem _ hy)
 show Way t.mask e.1 i _;rcases hm with hm | hm
 ·exact (M e i hm).mono up
 ·injection hm with h1 h2
  subst h1;subst h2;exact w.mono up
theorem run_adv {t:SetTable}:∀ (m:Nat) (p:Probe),m≤p.more→(adv t m p).j=p.j+m
 | 0,p,_=>rfl
 | m+1,p,h=>by
  have e:t.advance p={p with j:=p.j+1,more:=p.more-1}:=by unfold SetTable.advance;rw[if_pos (by omega)]
  show (adv t m (t.advance p)).j=_;rw[e,run_adv m _ (by simp only;omega)];simp only;omega
theorem next_run {t:SetTable}:∀ (m:Nat) (p:Probe),p.more=m→adv t (m+1) p={p with j:=(leap t.mask p.i p.perturb).1,more:=runEnd t.mask (leap t.mask p.i p.perturb).1-(leap t.mask p.i p.perturb).1,i:=(leap t.mask p.i p.perturb).1,perturb:=(leap t.mask p.i p.perturb).2}
 | 0,p,h=>by
  show t.advance p=_;unfold SetTable.advance;rw[if_neg (by omega)]
 | m+1,p,h=>by
  have e:t.advance p={p with j:=p.j+1,more:=p.more-1}:=by unfold SetTable.advance;rw[if_pos (by omega)]
  show adv t (m+1) (t.advance p)=_;rw[e];exact next_run m {p with j:=p.j+1,more:=p.more-1} (by simp only;omega)
theorem find_first {n:Nat}{f:Nat→Bool}{k:Nat}(h:(List.range n).find? f=some k):f k=true∧k<n∧∀ m,m<k→f m=false:=by
 rw[List.find?_range_eq_some] at h;exact⟨h.1,List.mem_range.mp h.2.1,fun m hm=>by have:=h.2.2 m hm;simpa using this⟩
theorem free_path {t:SetTable}{owner:Array (Option Nat)}:∀ (fuel:Nat) (p:Probe) (j:Nat),p.i≤t.mask→p.j=p.i→p.more=runEnd t.mask p.i-p.i→layClean.free t.mask owner fuel p.i p.perturb=some j →
  ∃ k,(adv t k p).j=j∧∀ k',k'<k→(owner.getD (adv t k' p).j (some 0)).isNone=false
 | 0,p,j,_,_,_,h=>by simp[layClean.free] at h
 | fuel+1,p,j,hi,hj,hm,h=>by
  have hr:=runEnd_le hi;unfold layClean.free at h;cases hf:(List.range (runEnd t.mask p.i+1-p.i)).find? (fun k=>(owner.getD (p.i+k) (some 0)).isNone) with
  | some k =>
   rw[hf] at h;obtain⟨h1,h2,h3⟩:=find_first hf;have ej:p.i+k=j:=Option.some.inj h;refine⟨k,by rw[run_adv k p (by omega),hj];exact ej,fun k' hk=>?_⟩;rw[run_adv k' p (by omega),hj];exact h3 k' hk
  | none =>
   rw[hf] at h;have hn:∀ k,k≤p.more→(owner.getD (p.i+k) (some 0)).isNone=false:=fun k hk=>by
    have:=List.find?_eq_none.mp hf k (List.mem_range.mpr (by omega));exact Bool.eq_false_iff.mpr this
   have hq:=next_run (t:=t) p.more p rfl;obtain⟨k,e,hb⟩:=free_path fuel (adv t (p.more+1) p) j (by rw[hq];exact leaps_fst t.mask 1 (p.i,p.perturb) hi) (by rw[hq]) (by rw[hq]) (by rw[hq];exact h);refine⟨p.more+1+k,by rw[adv_add];exact e,fun k' hk=>?_⟩;rcases Nat.lt_or_ge k' (p.more+1) with hlt | hge
   ·rw[run_adv k' p (by omega),hj];exact hn k' (by omega)
   ·have e2:k'=p.more+1+(k'-(p.more+1)):=by omega
    rw[e2,adv_add];exact hb _ (by omega)
def OwnMet (mask:Nat)(hs:Nat→Int)(owner:Array (Option Nat)):Prop:=∀ j k,owner.getD j none=some k→Way mask (hs k) j fun x=>(owner.getD x none).isSome=true
theorem getD_some {owner:Array (Option Nat)}{x:Nat}(hx:x<owner.size)(h:(owner.getD x (some 0)).isNone=false):(owner.getD x none).isSome=true:=by
 simp[Array.getD,hx] at h ⊢;cases h2:owner[x] with
 | none=>rw[h2] at h;cases h
 | some y=>rfl
theorem layF_met {mask:Nat}(F:Full (mask+1)):∀ (hl:List Int) (done:List Int) (owner:Array (Option Nat)),owner.size=mask+1→(own (mask+1) owner).Perm (List.range done.length)→done.length+hl.length≤mask→OwnMet mask (fun i=>(done++hl).getD i 0) owner →
  ∃ owner',hl.foldl (layF mask) (some (owner,done.length))=some (owner',done.length+hl.length)∧owner'.size=mask+1∧(own (mask+1) owner').Perm (List.range (done.length+hl.length))∧OwnMet mask (fun i=>(done++hl).getD i 0) owner'
 | [],done,owner,h1,h2,_,h4=>⟨owner,rfl,h1,h2,h4⟩
 | h::hl,done,owner,h1,h2,h3,h4=>by
  rw[List.length_cons] at h3;obtain⟨o1,e1,s1,p1⟩:=layF_fold F [h] owner done.length h1 h2 (by simp;omega);have hstep:layF mask (some (owner,done.length)) h=some (o1,done.length+1):=e1;obtain⟨j,hj,eo⟩:∃ j,layClean.free mask owner (turns mask) (bits h % (mask+1)) (bits h)=some j∧o1=owner.setIfInBounds j (some done.length):=by
   have e2:(do let j ← layClean.free mask owner (turns mask) (bits h % (mask+1)) (bits h);pure (owner.setIfInBounds j (some done.length),done.length+1))=some (o1,done.length+1):=hstep;cases hf:layClean.free mask owner (turns mask) (bits h % (mask+1)) (bits h) with
   | none=>rw[hf] at e2;cases e2
   | some j =>
    rw[hf] at e2;have e3:(owner.setIfInBounds j (some done.length),done.length+1)=(o1,done.length+1):=Option.some.inj e2;injection e3 with e4 _
    exact⟨j,rfl,e4.symm⟩
  have g:=good_start (tm mask) h;obtain⟨k,ek,hb⟩:=free_path (t:=tm mask) (owner:=owner) (turns mask) ((tm mask).probeStart h) j g.i rfl rfl hj;have pin:∀ k,pos mask h k<owner.size:=fun k=>by
   have:=(g.adv k).j;rw[h1];show (adv (tm mask) k ((tm mask).probeStart h)).j<mask+1;have hm:(tm mask).mask=mask:=rfl;omega
  have upS:∀ x,(owner.getD x none).isSome=true→(o1.getD x none).isSome=true:=fun x hx=>by
   rw[eo];by_cases hxs:x<owner.size
   ·by_cases hxj:j=x
    ·subst hxj;simp[Array.getD,hxs]
    ·simp[Array.getD,hxs,Array.getElem_setIfInBounds,hxj] at hx ⊢;exact hx
   ·simp[Array.getD,hxs] at hx
  have M1:OwnMet mask (fun i=>(done++h::hl).getD i 0) o1:=by
   intro x i hx;by_cases hxj:j=x
   ·subst hxj;have hjs:j<owner.size:=by rw[← ek];exact pin k
    rw[eo] at hx;simp[Array.getD,hjs] at hx;subst hx;have eh:(done++h::hl).getD done.length 0=h:=by simp[List.getD]
    show Way mask ((done++h::hl).getD done.length 0) j _;rw[eh];exact⟨k,ek,fun k' hk=>upS _ (getD_some (pin k') (hb k' hk))⟩
   ·have hx':owner.getD x none=some i:=by
     rw[eo] at hx;by_cases hxs:x<owner.size
     ·simp[Array.getD,hxs,Array.getElem_setIfInBounds,hxj] at hx ⊢;exact hx
     ·simp[Array.getD,hxs] at hx
    exact (h4 x i hx').mono upS
  have ed:done++h::hl=(done++[h])++hl:=by simp
  have ld:(done++[h]).length=done.length+1:=by simp
  obtain⟨o',e',s',p',m'⟩:=layF_met F hl (done++[h]) o1 s1 (by rw[ld];exact p1) (by rw[ld];omega) (by rw[← ed];exact M1);rw[List.foldl_cons,hstep];rw[ld] at e' p';refine⟨o',?_,s',?_,?_⟩
  ·rw[e',List.length_cons,show done.length+1+hl.length=done.length+(hl.length+1) by omega]
  ·rw[List.length_cons,show done.length+(hl.length+1)=done.length+1+hl.length by omega];exact p'
  ·rw[ed];exact m'
theorem layClean_met {mask:Nat}(F:Full (mask+1))(hs:Array Int)(h:hs.size≤mask):∃ owner,layClean mask hs=some owner∧owner.size=mask+1∧(own (mask+1) owner).Perm (List.range hs.size)∧OwnMet mask (fun i=>hs.toList.getD i 0) owner:=by
 have h0:own (mask+1) (Array.replicate (mask+1) none)=[]:=by
  unfold own;refine List.filterMap_eq_nil_iff.mpr fun x hx=>?_
  have:x<mask+1:=List.mem_range.mp hx;simp[Array.getD,this]
 obtain⟨o,e,s,p,m⟩:=layF_met F hs.toList [] (Array.replicate (mask+1) none) (by simp) (by rw[h0];exact .nil) (by simpa using h) (fun j k hx=>by
  by_cases hj:j<mask+1
  ·simp[Array.getD,hj] at hx
  ·simp[Array.getD,hj] at hx)
 rw[List.length_nil,Nat.zero_add,Array.length_toList] at e p;refine⟨o,?_,s,p,m⟩;unfold layClean;have:hs.foldl (layF mask) (some (Array.replicate (mask+1) none,0))=some (o,hs.size):=by rw[← Array.foldl_toList];exact e
 show (hs.foldl (layF mask) (some (Array.replicate (mask+1) none,0))).map (·.1)=some o;rw[this];rfl
theorem pick_live {es:Array (Int×Value)}:∀ {live:List (Nat×Nat)},(∀ q∈live,q.2<es.size)→(live.map (·.2)).filterMap (fun i=>es[i]?)=live.map fun q=>es.getD q.2 (0,.none)
 | [],_=>rfl
 | q::live,h=>by
  have hq:=h q (List.mem_cons_self ..);rw[List.map_cons,List.filterMap_cons_some (Array.getElem?_eq_getElem hq),pick_live fun z hz=>h z (List.mem_cons_of_mem _ hz),List.map_cons];simp[Array.getD,hq]
theorem zip_live {es:Array (Int×Value)}:∀ {live:List (Nat×Nat)} {e:Int×Value} {j:Nat},(e,j)∈(live.map fun q=>es.getD q.2 (0,.none)).zip (live.map (·.1))→∃ q∈live,e=es.getD q.2 (0,.none)∧j=q.1
 | [],e,j,h=>by simp at h
 | q::live,e,j,h=>by
  rw[List.map_cons,List.map_cons,List.zip_cons_cons] at h;rcases List.mem_cons.mp h with h | h
  ·injection h with h1 h2;exact⟨q,List.mem_cons_self ..,h1,h2⟩
  ·obtain⟨z,hz,e1,e2⟩:=zip_live h;exact⟨z,List.mem_cons_of_mem _ hz,e1,e2⟩
theorem relaid_met {t:SetTable}{es:Array (Int×Value)}{n:Nat}{led:Bool}(o:Ok1 t n led)(hes:es.size=n)(hf:t.tooFull=true)(hn:n≤300) :
  ∃ t' order,t.relaid (es.map (·.1)) (grown es.size)=some (t',order)∧(order.filterMap (es[·]?)).size=es.size∧Ok t' n led∧(order.filterMap (es[·]?)).toList.Perm es.toList∧Met t' (order.filterMap (es[·]?)).toList∧sizeAbove (grown es.size)≤512:=by
 have hfill:t.fill=n:=by unfold SetTable.fill;rw[o.dum,o.size];rfl
 have hg:∃ M,sizeAbove (grown es.size)=M+1∧Full (M+1)∧n*5<M*3∧(M=7∨M=31∨M=127∨M=511):=by
  have h1:=o.last;unfold SetTable.tooFull at hf;rw[hfill] at hf;have hf':t.mask*3≤n*5:=by simpa using hf
  rw[hes];rcases o.mask with h | h | h | h
  ·have:n=5:=by omega
   subst this;exact⟨31,by decide +kernel,full32,by decide,by decide⟩
  ·have:n=19:=by omega
   subst this;exact⟨127,by decide +kernel,full128,by decide,by decide⟩
  ·have:n=77:=by omega
   subst this;exact⟨511,by decide +kernel,full512,by decide,by decide⟩
  ·omega
 obtain⟨M,hM,hF,hroom,hmask⟩:=hg;obtain⟨owner,ho,hs,hperm,hmet⟩:=layClean_met hF (es.map (·.1)) (by rw[Array.size_map,hes];omega);rw[Array.size_map,hes] at hperm
 let live:=(List.range (M+1)).filterMap fun j=>(owner.getD j none).map (j,·)
 have hlive2:(live.map (·.2)).Perm (List.range n):=by rw[show live.map (·.2)=own (M+1) owner from filterMap_pairs _];exact hperm
 obtain⟨hl1,hl2⟩:=pairs_fst (owner:=owner) (range_rising (M+1));have hlen:(live.map (·.1)).length=n:=by rw[List.length_map,← List.length_map (f:=(·.2)) (as:=live),hlive2.length_eq,List.length_range]
 have hidx:∀ q∈live,q.2<es.size:=fun q hq=>by
  have:=hlive2.mem_iff.mp (List.mem_map.mpr ⟨q,hq,rfl⟩);rw[hes];exact List.mem_range.mp this
 have hown:∀ q,q∈live↔q.1<M+1∧owner.getD q.1 none=some q.2:=fun q=>by
  show q∈(List.range (M+1)).filterMap (fun j=>(owner.getD j none).map (j,·))↔_;rw[List.mem_filterMap];constructor
  ·rintro⟨j,hj,e⟩;cases hg:owner.getD j none with
   | none=>rw[hg] at e;cases e
   | some y =>
    rw[hg] at e;have e':(j,y)=q:=Option.some.inj e;subst e';exact⟨List.mem_range.mp hj,hg⟩
  ·rintro⟨h1,h2⟩;exact⟨q.1,List.mem_range.mpr h1,by rw[h2];rfl⟩
 let t':SetTable:={mask:=M,place:=(live.map (·.1)).toArray,dummies:=#[],finger:=t.finger,led:=t.led,moves:=t.movedTo M,plain:=t.plain}
 have hr:t.relaid (es.map (·.1)) (grown es.size)=some (t',(live.map (·.2)).toArray):=by
  unfold SetTable.relaid SetTable.laid;rw[hM,show M+1-1=M by omega,ho];rfl
 have hok:Ok t' n led:=⟨ris_of (show (live.map (·.1)).Pairwise (·<·) from hl1),rfl,by simpa [t'] using hlen,fun x hx=>by
  have:x∈live.map (·.1):=by simpa [t'] using hx
  have:=List.mem_range.mp (hl2 x this);show x≤M;omega,hF,o.plain,o.led,hroom,hmask⟩
 have hl:((live.map (·.2)).toArray.filterMap (es[·]?)).toList=live.map fun q=>es.getD q.2 (0,.none):=by
  rw[Array.toList_filterMap];exact pick_live hidx
 refine⟨t',_,hr,?_,hok,?_,?_,by rw[hM];rcases hmask with h | h | h | h<;>omega⟩
 ·rw[← Array.length_toList,hl,List.length_map,← List.length_map (f:=(·.1)) (as:=live),hlen,hes]
 ·rw[Array.toList_filterMap];refine ((show (live.map (·.2)).toArray.toList.Perm (List.range n) by simpa using hlive2).filterMap _).trans ?_;rw[← hes,filterMap_getElem?_range]
 ·intro e j hm;rw[hl] at hm;have hpl:t'.place.toList=live.map (·.1):=by show (live.map (·.1)).toArray.toList=_;simp
  rw[hpl] at hm;obtain⟨q,hq,e1,e2⟩:=zip_live hm;obtain⟨q1,q2⟩:=(hown q).mp hq;have w:Way M ((es.map (·.1)).toList.getD q.2 0) q.1 _:=hmet q.1 q.2 q2;have eh:(es.map (·.1)).toList.getD q.2 0=e.1:=by
   have hi:=hidx q hq;rw[e1];simp[List.getD,Array.getD,hi]
  rw[eh] at w;subst e2;show Way M e.1 q.1 fun x=>x∈t'.place.toList
  refine w.mono fun x hx=>?_
  obtain⟨y,hy⟩:=Option.isSome_iff_exists.mp hx;have hxs:x<M+1:=by
   rw[← hs];apply Classical.byContradiction;intro hn;simp[Array.getD,hn] at hy
  rw[hpl];exact List.mem_map.mpr ⟨(x,y),(hown (x,y)).mpr ⟨hxs,hy⟩,rfl⟩
theorem met_fresh (led:Bool):Met (.fresh 0 0 led) []:=fun e j h=>by simp at h
theorem Met.found {t:SetTable}{es:Array (Int×Value)}{led:Bool}(o:Ok t es.size led)(M:Met t es.toList)(h:Int) :
  (∃ e∈es.toList,e.1=h)∧(∃ (i:Nat) (e:Int×Value) (nx:Probe) (j:Nat),es[i]?=some e∧e.1=h∧t.probe (fun i=>(es[i]?.map (·.1)).getD 0) h (t.probeStart h)=some (.candidate j i nx)) ∨
  (∀ e∈es.toList,e.1≠h)∧∃ j,j≤t.mask∧t.slot j=.empty∧t.probe (fun i=>(es[i]?.map (·.1)).getD 0) h (t.probeStart h)=some (.empty j none)∧Way t.mask h j fun x=>x∈t.place.toList:=by
 obtain⟨k,hb,hk⟩:=o.probe (fun i=>(es[i]?.map (·.1)).getD 0) h;have live:∀ {j i},t.slot j=.live i→∃ e,es[i]?=some e∧(e,j)∈es.toList.zip t.place.toList:=fun {j i} hs=>by
  have hp:=slot_live hs;have hi:i<t.place.size:=by
   rcases Nat.lt_or_ge i t.place.size with h | h
   ·exact h
   ·rw[Array.getElem?_eq_none h] at hp;cases hp
  have hi2:i<es.size:=by rw[← o.size];exact hi
  refine⟨es[i],Array.getElem?_eq_getElem hi2,?_⟩;have:(es.toList.zip t.place.toList)[i]?=some (es[i],j):=by
   rw[List.getElem?_zip_eq_some];exact⟨by rw[Array.getElem?_toList];exact Array.getElem?_eq_getElem hi2,by rw[Array.getElem?_toList];exact hp⟩
  exact List.mem_of_getElem? this
 rcases hk with ⟨he,hp⟩ | ⟨i,hs,hh,hp⟩
 ·right;refine⟨fun e hm eh=>?_,_,?_,he,hp,?_⟩
  ·obtain⟨i,hi,ei⟩:=List.getElem_of_mem hm;have hi2:i<es.size:=by simpa using hi
   have hi3:i<t.place.size:=by rw[o.size];exact hi2
   have hz:(e,t.place[i])∈es.toList.zip t.place.toList:=by
    have:(es.toList.zip t.place.toList)[i]?=some (e,t.place[i]):=by
     rw[List.getElem?_zip_eq_some];exact⟨by rw[List.getElem?_eq_getElem hi,ei],by rw[Array.getElem?_toList];exact Array.getElem?_eq_getElem hi3⟩
    exact List.mem_of_getElem? this
   obtain⟨k2,e2,b2⟩:=M e _ hz;rw[eh] at e2 b2;have hne:t.slot (pos t.mask h k)=.empty:=by rw[← pos_eq];exact he
   rcases Nat.lt_trichotomy k k2 with hlt | heq | hgt
   ·exact slot_empty o.ris hne (b2 k hlt)
   ·subst heq;rw[e2] at hne;exact slot_empty o.ris hne (by rw[← Array.getElem_toList hi3];exact List.getElem_mem _)
   ·obtain⟨i',hs',hne'⟩:=hb k2 hgt;rw[pos_eq,e2] at hs';have hpl:=slot_live hs';have hii:i'=i:=by
     have hi':i'<t.place.size:=by
      rcases Nat.lt_or_ge i' t.place.size with h | h
      ·exact h
      ·rw[Array.getElem?_eq_none h] at hpl;cases hpl
     rw[Array.getElem?_eq_getElem hi'] at hpl;have hpl':=Option.some.inj hpl;rcases Nat.lt_trichotomy i' i with q | q | q
     ·have:=o.ris i' i hi' hi3 q;omega
     ·exact q
     ·have:=o.ris i i' hi3 hi' q;omega
    subst hii;refine hne' ?_;have:es[i']?=some e:=by rw[← Array.getElem?_toList,List.getElem?_eq_getElem hi,ei]
    rw[this];exact eh
  ·have:=((good_start t h).adv k).j;omega
  ·refine⟨k,(pos_eq t h k).symm,fun k' hk'=>?_⟩;obtain⟨i,hs,_⟩:=hb k' hk';have:=slot_live hs;rw[pos_eq] at this;rw[← Array.getElem?_toList] at this;exact List.mem_of_getElem? this
 ·left;obtain⟨e,he,hz⟩:=live hs;have eh:e.1=h:=by rw[he] at hh;exact hh
  exact⟨⟨e,by rw[← Array.getElem?_toList] at he;exact List.mem_of_getElem? he,eh⟩,i,e,_,_,he,eh,hp⟩
end STab
end
section
namespace STab
open PySem
def pc (c:Nat):Int:=reduceHash (Builtin.Tuple.tupleHashOf [hashInt ((c / 60:Nat):Int),hashInt ((c % 60:Nat):Int)])
def pr (c:Nat):Nat:=(pc c % 26326).toNat
def bits:Nat→Nat→Bool
 | 0,_=>true
 | c+1,a=>!a.testBit (pr c) && bits c (a ||| 1 <<< pr c)
theorem bits_ok:bits 3600 0=true:=by decide +kernel
theorem bits_un:∀ {k a:Nat},bits k a=true→∀ c,c<k→a.testBit (pr c)=false∧∀ d,d<c→pr d≠pr c
 | 0,_,_,c,h=>absurd h (Nat.not_lt_zero c)
 | k+1,a,h,c,hc=>by
  have h':(!a.testBit (pr k) && bits k (a ||| 1 <<< pr k))=true:=h;rw[Bool.and_eq_true] at h';have hk:a.testBit (pr k)=false:=by simpa using h'.1
  by_cases e:c=k
  ·subst e;refine⟨hk,fun d hd z=>?_⟩;have:=(bits_un h'.2 d hd).1;rw[Nat.testBit_or,z,Nat.testBit_shiftLeft] at this;simp at this
  ·have i:=bits_un h'.2 c (by omega);rw[Nat.testBit_or,Bool.or_eq_false_iff] at i;exact⟨i.1.1,i.2⟩
theorem pc_inj {c d:Nat}(hc:c<3600)(hd:d<3600)(e:pc c=pc d):c=d:=by
 have er:pr c=pr d:=by unfold pr;rw[e]
 rcases Nat.lt_trichotomy c d with h | h | h
 ·exact absurd er ((bits_un bits_ok d hd).2 c h)
 ·exact h
 ·exact absurd er.symm ((bits_un bits_ok c hc).2 d h)
end STab
end
section
namespace Srt
open PySem PyProof.Rows
section
variable {prog:Program}{w:World}{A:Around}{E:Value→Shared→Prop}{s:Shared}
def TieAt (prog:Program)(w:World)(h:Heap)(a:Addr)(t:Int×Int):Prop:=IsTupleKey (intKind prog w) h [t.1,t.2] a∧0≤t.1∧t.1<60∧0≤t.2∧t.2<60
theorem TieAt.keep {h h':Heap}{a:Addr}{t:Int×Int}(x:TieAt prog w h a t)(k:∀ o,h.get? a=some o→h'.get? a=some o):TieAt prog w h' a t:=let ⟨⟨o,i,n,ho,q⟩,r⟩:=x;⟨⟨o,i,n,k _ ho,q⟩,r⟩
def tHash (t:Int×Int):Int:=reduceHash (Builtin.Tuple.tupleHashOf [hashInt t.1,hashInt t.2])
theorem tHash_pc {t:Int×Int}(h0:0≤t.1)(h1:t.1<60)(h2:0≤t.2)(h3:t.2<60):tHash t=STab.pc (t.1.toNat*60+t.2.toNat):=by
 unfold tHash STab.pc;have e1:(t.1.toNat*60+t.2.toNat) / 60=t.1.toNat:=by omega
 have e2:(t.1.toNat*60+t.2.toNat) % 60=t.2.toNat:=by omega
 rw[e1,e2,Int.toNat_of_nonneg h0,Int.toNat_of_nonneg h2]
theorem tHash_inj {h:Heap}{a b:Addr}{t u:Int×Int}(x:TieAt prog w h a t)(y:TieAt prog w h b u)(e:tHash t=tHash u):t=u:=by
 obtain⟨_,a0,a1,a2,a3⟩:=x;obtain⟨_,b0,b1,b2,b3⟩:=y;rw[tHash_pc a0 a1 a2 a3,tHash_pc b0 b1 b2 b3] at e;have:=STab.pc_inj (by omega) (by omega) e;have e1:t.1=u.1:=by omega
 have e2:t.2=u.2:=by omega
 cases t;cases u;simp at e1 e2;rw[e1,e2]
theorem hbv_tie {a:Addr}{t:Int×Int}{Q:Bool→Shared→Prop}(x:TieAt prog w s.heap a t)(h:Q true s):wpAny (model prog w) A (hashByValue 8 (.ref a)) Q E s:=by
 have hT:=x.1.typeIs;obtain⟨⟨o,items,n,ho,hc,hd,hi⟩,_⟩:=x;unfold hashByValue;refine wpAny_bind (wpAny_specialOf hT PySem.F.slot_tuple_hash.lookup ?_);show wpAny _ _ (seqItems? (.ref a) >>= _) _ _ s;refine wpAny_bind (wpAny_seqItems ho hd ?_);refine wpAny_bind ?_;show wpAny _ _ (forIn items _ _) _ _ s;rw[← Array.forIn_toList];refine wpAny_forIn_list _ (fun rest r s'=>r.1=none∧s'=s∧∃ ks,ItemsAre (intKind prog w) ks rest) _ ?_ ?_ _ _ ⟨rfl,rfl,_,hi⟩
 ·rintro v rest r s' ⟨hr,rfl,ks,hks⟩;cases hks with
  | @cons k _ ks' _ h1 h2 =>
   obtain⟨tk,rfl⟩:=Value.isInt_shape h1;rw[hashByValue_scannable _ (show (Value.int k tk).scannable=true from rfl)];refine wpAny_bind (wpAny_pure ?_);simp only[plainKind,Bool.not_true,Bool.false_eq_true,if_false];exact wpAny_pure ⟨rfl,rfl,ks',h2⟩
 ·rintro⟨r1,r2⟩ s' ⟨hr,rfl,_⟩;simp only at hr;subst hr;exact wpAny_pure h
theorem oac_tie {a:Addr}{t:Int×Int}{Q:Bool→Shared→Prop}(x:TieAt prog w s.heap a t)(h:Q false s):wpAny (model prog w) A (ofAClassStatement 8 (.ref a)) Q E s:=by
 have hT:=x.1.typeIs;obtain⟨⟨o,items,n,ho,hc,hd,hi⟩,_⟩:=x;unfold ofAClassStatement;refine wpAny_bind (wpAny_typeOf hT ?_);show wpAny _ _ (pure true >>= _) _ _ s;refine wpAny_bind (wpAny_pure ?_);simp only[Bool.not_true,Bool.false_eq_true,if_false];refine wpAny_bind (wpAny_seqItems ho hd ?_);dsimp only;refine wpAny_bind ?_;show wpAny _ _ (forIn items _ _) _ _ s;rw[← Array.forIn_toList];refine wpAny_forIn_list _ (fun rest r s'=>r.1=none∧s'=s∧∃ ks,ItemsAre (intKind prog w) ks rest) _ ?_ ?_ _ _ ⟨rfl,rfl,_,hi⟩
 ·rintro v rest r s' ⟨hr,rfl,ks,hks⟩;cases hks with
  | @cons k _ ks' _ h1 h2 =>
   obtain⟨tk,rfl⟩:=Value.isInt_shape h1;refine wpAny_bind (m:=ofAClassStatement 7 (.int k tk)) (wpAny_pure ?_);simp only[Bool.false_eq_true,if_false];exact wpAny_pure ⟨rfl,rfl,ks',h2⟩
 ·rintro⟨r1,r2⟩ s' ⟨hr,rfl,_⟩;simp only at hr;subst hr;exact wpAny_pure h
theorem scs_tie {a:Addr}{t:Int×Int}{ys:List Value}{Q:Bool→Shared→Prop}(x:TieAt prog w s.heap a t)(hy:∀ y∈ys,∃ b u,y=.ref b∧TieAt prog w s.heap b u)(h:Q false s):wpAny (model prog w) A (searchCouldBeSeen (.ref a) ys) Q E s:=by
 unfold searchCouldBeSeen;refine wpAny_bind ?_;refine wpAny_forIn_list _ (fun rest r s'=>r.1=none∧s'=s∧∀ y∈rest,∃ b u,y=.ref b∧TieAt prog w s.heap b u) _ ?_ ?_ _ _ ⟨rfl,rfl,hy⟩
 ·rintro v rest r s' ⟨hr,rfl,hall⟩;obtain⟨b,u,rfl,y⟩:=hall v (List.mem_cons_self ..);have hrest:∀ y∈rest,∃ b u,y=.ref b∧TieAt prog w s'.heap b u:=fun y hy=>hall y (List.mem_cons_of_mem _ hy)
  dsimp only;refine wpAny_ite_split (fun _=>wpAny_pure ⟨rfl,rfl,hrest⟩) (fun _=>?_);refine wpAny_bind (wpAny_eqIsQuiet_tuple x.1 ?_);simp only[Bool.not_true,Bool.false_eq_true,if_false];refine wpAny_bind (wpAny_eqIsQuiet_tuple y.1 ?_);simp only[Bool.not_true,Bool.false_eq_true,if_false];refine wpAny_bind (oac_tie x ?_);simp only[Bool.false_eq_true,if_false];refine wpAny_bind (oac_tie y ?_);simp only[Bool.false_eq_true,if_false];exact wpAny_pure ⟨rfl,rfl,hrest⟩
 ·rintro⟨r1,r2⟩ s' ⟨hr,rfl,_⟩;simp only at hr;subst hr;exact wpAny_pure h
def qE (q:Addr×(Int×Int)):Int×Value:=(tHash q.2,.ref q.1)
def BagTie (prog:Program)(w:World)(h:Heap)(S:Addr)(qs:List (Addr×(Int×Int)))(led:Bool):Prop:=∃ es ep t,BagAt h S es ep t led∧STab.Met t es.toList∧es.toList.Perm (qs.map qE)∧∀ q∈qs,TieAt prog w h q.1 q.2
theorem bagT_add {S a:Addr}{u:Int×Int}{qs:List (Addr×(Int×Int))}{led:Bool}{Q:Bool→Shared→Prop}(hu:A.units<cLine)(B:BagTie prog w s.heap S qs led)(x:TieAt prog w s.heap a u)(hz:qs.length<300)
  (h:∀ (h':Heap) (b:Bool),Heap.SameBut S s.heap h'→(if u∈qs.map (·.2) then BagTie prog w h' S qs led else BagTie prog w h' S ((a,u)::qs) led)→Q b {s with heap:=h'}) :
  wpAny (model prog w) A (setAddHashed S (.ref a) (tHash u)) Q E s:=by
 obtain⟨es,ep,t,⟨o,ho,hx,hd,hok⟩,hM,hp,hq⟩:=id B;have hsz:es.size=qs.length:=by have:=hp.length_eq;simpa using this
 have ofE:∀ e∈es.toList,∃ q∈qs,e=qE q:=fun e he=>by
  obtain⟨q,hqq,e1⟩:=List.mem_map.mp (hp.mem_iff.mp he);exact⟨q,hqq,e1.symm⟩
 have apart:∀ b v,TieAt prog w s.heap b v→b≠S:=fun b v y e=>by
  obtain⟨⟨ob,ib,nb,hob,hcb,hdb,_⟩,_⟩:=y;subst e;rw[ho] at hob;cases hob;rw[hd] at hdb;cases hdb
 unfold setAddHashed setAddHashedIn;refine wpAny_holding (wpAny_bind (wpAny_setState_of ho hd hok.fits ?_));dsimp only;rw[show byScan (.ref a) es=false from rfl];simp only[Bool.false_eq_true,if_false];unfold setSearch setSearchFrom;refine wpAny_bind (wpAny_bind (wpAny_setState_of ho hd hok.fits ?_));dsimp only;have hgw:t.gaveWay=false:=by
  unfold SetTable.gaveWay;rcases hok.mask with e | e | e | e<;>rw[e]<;>rfl
 rw[hgw];simp only[Bool.false_eq_true,if_false,Option.getD_none];rcases STab.Met.found hok hM (tHash u) with ⟨_,i,e,nx,j,he,eh,hpr⟩ | ⟨hout,j,hj,hsl,hpr,hw⟩
 ·have hem:e∈es.toList:=by rw[← Array.getElem?_toList] at he;exact List.mem_of_getElem? he
  obtain⟨q,hqq,rfl⟩:=ofE e hem;have eu:q.2=u:=tHash_inj (hq q hqq) x eh;have hmem:u∈qs.map (·.2):=List.mem_map.mpr ⟨q,hqq,eu⟩;have hstored:∀ y∈((es.filter fun e=>e.1 == tHash u).toList.map fun e=>e.2),∃ b v,y=.ref b∧TieAt prog w s.heap b v:=fun y hy=>by
   obtain⟨e',he',rfl⟩:=List.mem_map.mp hy;have he2:e'∈es.toList:=by
    simp at he';simpa using he'.1
   obtain⟨q',hq',rfl⟩:=ofE e' he2;exact⟨q'.1,q'.2,rfl,hq q' hq'⟩
  split
  ·rename_i met heq;have e1:=heq.symm.trans hpr;injection e1 with e1
   subst e1;dsimp only;refine wpAny_ite_split (fun _=>wpAny_bind (scs_tie x hstored ?_)) (fun _=>?_)
   ·simp only[Bool.false_eq_true,if_false];rw[he];dsimp only[qE];refine wpAny_bind (wpAny_holding (wpAny_eqBool_tuple hu (hq q hqq).1 x.1 ?_));refine wpAny_bind (wpAny_setState_of ho hd hok.fits ?_);rw[show decide ([q.2.1,q.2.2]=[u.1,u.2])=true by rw[eu];exact decide_eq_true rfl];simp only[Bool.and_self,if_true];refine wpAny_pure (wpAny_pure (h s.heap false (Heap.SameBut.refl S s.heap) ?_));rw[if_pos hmem];exact B
   ·skip
    rw[he];dsimp only[qE];refine wpAny_bind (wpAny_holding (wpAny_eqBool_tuple hu (hq q hqq).1 x.1 ?_));refine wpAny_bind (wpAny_setState_of ho hd hok.fits ?_);rw[show decide ([q.2.1,q.2.2]=[u.1,u.2])=true by rw[eu];exact decide_eq_true rfl];simp only[Bool.and_self,if_true];refine wpAny_pure (wpAny_pure (h s.heap false (Heap.SameBut.refl S s.heap) ?_));rw[if_pos hmem];exact B
  ·rename_i heq;exact (heq _ hpr).elim
 ·have hmem:u∉qs.map (·.2):=fun hm=>by
   obtain⟨q,hqq,eq⟩:=List.mem_map.mp hm;have:qE q∈es.toList:=hp.mem_iff.mpr (List.mem_map.mpr ⟨q,hqq,rfl⟩);exact hout _ this (by show tHash q.2=tHash u;rw[eq])
  have hN:∀ (h':Heap) (b:Bool),Heap.SameBut S s.heap h'→BagTie prog w h' S ((a,u)::qs) led→Q b {s with heap:=h'}:=fun h2 b hs hB=>h h2 b hs (by rw[if_neg hmem];exact hB)
  split
  ·rename_i met heq;have e1:=heq.symm.trans hpr;injection e1 with e1
   subst e1;dsimp only;refine wpAny_pure ?_;dsimp only;refine wpAny_bind (wpAny_setState_of ho hd hok.fits ?_);dsimp only;have ok1:=hok.put hsl hj;have M1:STab.Met (t.put j).1 (SetTable.insertAt es (t.put j).2 (tHash u,.ref a)).toList:=hM.put hok hw;rw[if_pos ok1.plain];refine wpAny_bind (hbv_tie x ?_);simp only[if_true,Bool.not_false,Bool.true_and];have hes1:(SetTable.insertAt es (t.put j).2 (tHash u,.ref a)).size=es.size+1:=by
    rw[← Array.length_toList,(SetTable.insertAt_perm _ _ _).length_eq];simp
   have hp1:(SetTable.insertAt es (t.put j).2 (tHash u,.ref a)).toList.Perm (((a,u)::qs).map qE):=by
    refine (SetTable.insertAt_perm _ _ _).trans ?_;rw[Array.toList_push,List.map_cons];exact (List.perm_append_singleton _ _).trans (hp.cons _)
   generalize hes:SetTable.insertAt es (t.put j).2 (tHash u,.ref a)=es1 at hes1 hp1 M1 ⊢;generalize ht1:(t.put j).1=t1 at ok1 M1 ⊢;rw[← hes1] at ok1;have hties:∀ h',Heap.SameBut S s.heap h'→∀ q∈(a,u)::qs,TieAt prog w h' q.1 q.2:=fun h' hs q hq'=>by
    rcases List.mem_cons.mp hq' with rfl | hq'
    ·exact x.keep fun o e=>hs.extBut _ _ (apart _ _ x) e
    ·exact (hq q hq').keep fun o e=>hs.extBut _ _ (apart _ _ (hq q hq')) e
   refine wpAny_bind (wpAny_storeSet_of ho hd ?_ (fits_of_scanBound (by rw[hes1];unfold scanBound;omega)));obtain⟨o1,ho1,hx1,hd1⟩:=bag_store (es':=es1) (t':=t1) ho hx hd;have hb1:=Heap.SameBut.update s.heap S (Obj.putSet es1 t1);by_cases hf:t1.tooFull=true
   ·rw[if_pos hf];obtain⟨t2,order,hr,hrs,ok2,hp2,M2,h512⟩:=STab.relaid_met (es:=es1) ok1 rfl hf (by omega);unfold setRelay;refine wpAny_bind (wpAny_bind (wpAny_setState_of (s:={s with heap:=s.heap.update S (Obj.putSet es1 t1)}) ho1 hd1 ok1.fits ?_));dsimp only;rw[← hes1,if_neg (by rw[sizeLine_eq];omega)];rw[hr];refine wpAny_bind (wpAny_of_eq (a:=(order.filterMap (es1[·]?),t2)) ?_ ?_)
    ·show (if ((order.filterMap (es1[·]?)).size != es1.size)=true then _ else _)=_;rw[hrs,if_neg (by simp)]
    ·refine wpAny_storeSet_of (s:={s with heap:=s.heap.update S (Obj.putSet es1 t1)}) ho1 hd1 ?_ (fits_of_scanBound (by rw[hrs,hes1];unfold scanBound;omega));obtain⟨o2,ho2,hx2,hd2⟩:=bag_store (es':=order.filterMap (es1[·]?)) (t':=t2) ho1 hx1 hd1;have hb2:=hb1.trans (Heap.SameBut.update (s.heap.update S (Obj.putSet es1 t1)) S (Obj.putSet (order.filterMap (es1[·]?)) t2));exact wpAny_pure (hN _ true hb2 ⟨_,_,t2,⟨o2,ho2,hx2,hd2,hrs.symm ▸ ok2⟩,M2,hp2.trans hp1,hties _ hb2⟩)
   ·rw[if_neg hf];exact wpAny_pure (hN _ true hb1 ⟨es1,_,t1,⟨o1,ho1,hx1,hd1,ok1.ok (by simpa using hf)⟩,M1,hp1,hties _ hb1⟩)
  ·rename_i heq;exact (heq _ hpr).elim
end
end Srt
end
section
namespace STab
open PySem L2
theorem sub_len:∀ {us l:List (Int×Int)},us.Nodup→(∀ x∈us,x∈l)→us.length≤l.length
 | [],_,_,_=>Nat.zero_le _
 | x::r,l,hn,hs=>by
  have hx:x∈l:=hs x (List.mem_cons_self ..);have hn':=List.nodup_cons.mp hn;have:=sub_len (us:=r) (l:=l.erase x) hn'.2 (fun y hy=>(List.mem_erase_of_ne (fun e=>by subst e;exact hn'.1 hy)).mpr (hs y (List.mem_cons_of_mem _ hy)));rw[List.length_erase_of_mem hx] at this;have:=List.length_pos_of_mem hx;rw[List.length_cons];omega
theorem lex_of {us:List (Int×Int)}(hs:us.Pairwise fun x y=>HT.lexLt (tl y) (tl x)=false)(hn:us.Nodup):us.Pairwise Lex:=by
 refine (List.Pairwise.and hs hn).imp ?_;rintro a b ⟨h1,h2⟩;have h3:¬ Lex b a:=fun e=>by rw[lex_iff.mpr e] at h1;cases h1
 unfold Lex at h3 ⊢;have h4:¬ (a.1=b.1∧a.2=b.2):=fun e=>h2 (by cases a;cases b;simp at e;rw[e.1,e.2])
 omega
end STab
namespace Srt
open PySem PyProof.Rows PySem.W
section
variable {prog:Program}{w:World}{A:Around}{E:Value→Shared→Prop}{s:Shared}
theorem bagT_fresh {h:Heap}{a:Addr}(ho:h.get? a=some (freshSet w)):BagTie prog w h a [] (ledOf w) :=
 ⟨#[],0,_,⟨_,ho,⟨rfl,rfl,rfl⟩,rfl,STab.ok_fresh _⟩,STab.met_fresh _,.nil,fun q hq=>by cases hq⟩
theorem call_bagT {l:Addr}{c:String}{vs:List Value}{ps:List (Addr×(Int×Int))}{Q:Value→Shared→Prop}(hh:A.handled=none)(hu:A.units+8<cLine)(src:SetSrc prog w s.heap l c vs.toArray.size (fun i v=>vs.toArray[i]?=some v))
  (hv:vs=ps.map fun q=>Value.ref q.1) (hT:∀ q∈ps,TieAt prog w s.heap q.1 q.2) (hz:ps.length<300)
  (h:∀ (h':Heap) (tk:Nat) (qs:List (Addr×(Int×Int))),(∀ b o,s.heap.get? b=some o→h'.get? b=some o)→BagTie prog w h' s.heap.objs.size qs (ledOf w)→(qs.map (·.2)).Nodup→(∀ t,t∈qs.map (·.2)↔t∈ps.map (·.2))→(∀ q∈qs,q∈ps)→Q (.ref s.heap.objs.size) {s with heap:=h',toks:=tk}) :
  wpAny (model prog w) A (call (.type "set") [.ref l]) Q E s:=by
 have hsz:vs.toArray.size=ps.length:=by rw[hv];simp
 refine call_bag hh src (fun i h=>∃ qs,BagTie prog w h s.heap.objs.size qs (ledOf w)∧(qs.map (·.2)).Nodup∧(∀ t,t∈qs.map (·.2)↔t∈(ps.take i).map (·.2))∧qs.length≤i∧(∀ q∈qs,q∈ps)∧∀ b o,s.heap.get? b=some o→h.get? b=some o) ?_ ?_ ?_ ?_
 ·rintro i h1 h2 ⟨qs,⟨es,ep,t,b,M,p,hq⟩,q1,q2,q3,q4,q5⟩ hk;have q5':∀ b o,s.heap.get? b=some o→h2.get? b=some o:=fun b o e=>hk b o (Nat.le_of_lt (Heap.lt_size e)) (q5 b o e)
  exact⟨qs,⟨es,ep,t,b.keep fun o e=>hk _ o (Nat.le_refl _) e,M,p,fun q hq'=>(hT q (q4 q hq')).keep fun o e=>q5' _ o e⟩,q1,q2,q3,q4,q5'⟩
 ·rintro i v s' E' Q' hin hvi ⟨qs,B,q1,q2,q3,q4,q5⟩ hQ;have hin':i<ps.length:=by rw[← hsz];exact hin
  have ev:v=.ref ps[i].1:=by
   have:vs[i]?=some v:=by simpa using hvi
   rw[hv,List.getElem?_map,List.getElem?_eq_getElem hin'] at this;exact (Option.some.inj this).symm
  subst ev;have x:TieAt prog w s'.heap ps[i].1 ps[i].2:=(hT _ (List.getElem_mem hin')).keep fun o e=>q5 _ o e
  have hu3:A.in1.in1.in1.units<cLine:=by show A.units+1+1+1<cLine;omega
  unfold setAdd;refine wpAny_holding (wpAny_bind (wpAny_pyHash_tuple (knd:=intKind prog w) hu3 x.1 ?_));refine bagT_add (s:={s' with toks:=s'.toks+([ps[i].2.1,ps[i].2.2].length+1)}) hu3 B x (by omega) fun h' b hs hB=>?_
  have q5':∀ b o,s.heap.get? b=some o→h'.get? b=some o:=fun b o e=>hs.extBut b o (Nat.ne_of_lt (Heap.lt_size e)) (q5 b o e)
  have htk:∀ t,t∈(ps.take (i+1)).map (·.2)↔t∈qs.map (·.2)∨t=ps[i].2:=fun t=>by
   rw[List.take_succ_eq_append_getElem hin',List.map_append,List.mem_append,← q2 t];simp
  refine hQ h' _ b hs ?_;by_cases hm:ps[i].2∈qs.map (·.2)
  ·rw[if_pos hm] at hB;refine⟨qs,hB,q1,fun t=>?_,by omega,q4,q5'⟩;rw[htk];exact⟨.inl,fun o=>o.elim id fun e=>e ▸ hm⟩
  ·rw[if_neg hm] at hB;refine⟨(ps[i].1,ps[i].2)::qs,hB,List.nodup_cons.mpr ⟨hm,q1⟩,fun t=>?_,by rw[List.length_cons];omega,fun q hq=>?_,q5'⟩
   ·rw[htk,List.map_cons,List.mem_cons];exact Or.comm
   ·rcases List.mem_cons.mp hq with rfl | hq
    ·exact List.getElem_mem hin'
    ·exact q4 q hq
 ·intro h' hf hk;exact⟨[],bagT_fresh hf,List.nodup_nil,(fun t=>by simp),Nat.le_refl _,(fun q hq=>by cases hq),hk⟩
 ·rintro h' tk hk ⟨qs,B,q1,q2,q3,q4,q5⟩;rw[hsz,List.take_length] at q2;exact h h' tk qs hk B q1 q2 q4
end
theorem items_ints {prog:Program}{w:World}:∀ {ks:List Int} {vs:List Value},ItemsAre (intKind prog w) ks vs→IntsAre vs ks
 | _,_,.nil=>.nil
 | _,_,.cons h t=>by
  obtain⟨tk,rfl⟩:=Value.isInt_shape h;exact .cons _ tk (items_ints t)
theorem ints_items {prog:Program}{w:World}:∀ {ks:List Int} {vs:List Value},IntsAre vs ks→ItemsAre (intKind prog w) ks vs
 | _,_,.nil=>.nil
 | _,_,.cons k tk t=>.cons (intKind_is _ _ _ _) (ints_items t)
end Srt
namespace L2
open PySem PySem.Spec PyProof.Rows PySem.W
def cSortSetT (K:PySem.W.Frag):List V→Hp→VK→Prop:=fun xs H Q=>∃ (p:Addr) (ps:List (Addr×List Int)) (ts:List (Int×Int)),xs=[.ref p]∧(SqL K H p (ps.map fun x=>V.ref x.1)∨SqT K H p (ps.map fun x=>V.ref x.1))∧PsAt H ps ts∧(∀ t∈ts,0≤t.1∧t.1<60∧0≤t.2∧t.2<60)∧ts.length<64 ∧
 ∀ (ps':List (Addr×List Int)) (ts':List (Int×Int)) (l:Addr),PsAt H ps' ts'→ts'.Pairwise Lex→(∀ t,t∈ts'↔t∈ts)→H l=none→Q (.ref l) (upd H l (.lst (ps'.map fun x=>V.ref x.1)))
section
variable {X:Cx}{pins:List (Addr×Obj)}{σ:St}{H:Hp}{s:Shared}{x y:Str}{e:Expr}{p p' pos pos':Pos}{t:TA}
theorem pe_sortsetT (K:PySem.W.Frag)(hh:X.A.handled=none)(hu:X.A.units+64<cLine)(hg:Gl X x)(hm:X.mg x=none)(hv:bootBuiltins x=some (.builtin "sorted"))(hg':Gl X y)(hm':X.mg y=none)(hv':bootBuiltins y=some (.type "set"))(ha:PA X [e] t)
  (hn:x≠"__name__":=by decide) (hdb:(x == ("__debug__":Str))=false:=by decide) (hn':y≠"__name__":=by decide) (hdb':(y == ("__debug__":Str))=false:=by decide)
  (he:starEach [e] X.env=[(false,eval e X.env)]:=by rfl) (hpl:(backTo pos' (starEach ([]:List Expr) X.env)).any (·.1)=false:=by rfl)
  (he2:starEach [.Call (.Name y p') [e] [] pos'] X.env=[(false,eval (.Call (.Name y p') [e] [] pos') X.env)]:=by rfl) (hpl2:(backTo pos (starEach ([]:List Expr) X.env)).any (·.1)=false:=by rfl) (hK:X.K=K:=by rfl) :
  PE X (.Call (.Name x p) [.Call (.Name y p') [e] [] pos'] [] pos) (tCB (cSortSetT K) t):=by
 subst hK;intro pins s σ H Q I h;refine wpAny_Call_Name_kw (ld_blt I hg hm hv ?_ hn hdb);refine PyProof.Rows.callWith_builtin1 ?_ he2 hpl2;rw[he2];show wpAny _ _ (spliced ((false,eval (.Call (.Name y p') [e] [] pos') X.env)::[])) _ _ s;refine Calls.spliced_cons ?_;refine wpAny_Call_Name_kw (ld_blt I hg' hm' hv' ?_ hn' hdb');refine PyProof.Rows.callWith_type1 (thn (ha pos' pins s σ H _ I h) fun us s1 ⟨vs,H1,I1,r1,q1⟩=>?_) he hpl;obtain⟨l,ps,ts,rfl,src,hps,hrg,hz,q⟩:=q1;obtain⟨u,rfl,rx⟩:=vals1 r1;cases rx;have hpl0:=hps.len
 let pq:List (Addr×(Int×Int)):=ps.map fun x=>(x.1,un x.2)
 have epq:pq.map (·.2)=ts:=by
  show (ps.map fun x=>(x.1,un x.2)).map (·.2)=ts;rw[List.map_map];have:(ps.map (·.2)).map un=ts:=by rw[hps.eq,List.map_map];exact List.map_id'' (fun t=>un_tl t) ts
  rw[List.map_map] at this;exact this
 have two:∀ x∈ps,x.2=tl (un x.2):=fun x hx=>by
  have:x.2∈ts.map tl:=by rw[← hps.eq];exact List.mem_map_of_mem hx
  obtain⟨t',_,e'⟩:=List.mem_map.mp this;rw[← e',un_tl]
 have hT:∀ q∈pq,Srt.TieAt X.prog X.w s1.heap q.1 q.2:=fun q hq=>by
  obtain⟨x,hx,rfl⟩:=List.mem_map.mp hq;have ht:=I1.tupInts (hps.to x hx) (by rw[two x hx];simp[tl]);obtain⟨a,o,items,n,ea,ho,hc,hd,hi,_⟩:=ht;injection ea with ea
  subst ea;rw[two x hx] at hi;have hmem:un x.2∈ts:=by rw[← epq];exact List.mem_map.mpr ⟨(x.1,un x.2),hq,rfl⟩
  obtain⟨b0,b1,b2,b3⟩:=hrg _ hmem;exact⟨⟨o,items,n,ho,hc,hd,Srt.ints_items hi⟩,b0,b1,b2,b3⟩
 have run:∀ {c:String} {its:List Value},its=pq.map (fun q=>Value.ref q.1)→Srt.SetSrc X.prog X.w s1.heap l c its.toArray.size (fun i v=>its.toArray[i]?=some v) →
   wpAny (model X.prog X.w) X.A (call (.type "set") [.ref l]) (fun v s2=>wpAny (model X.prog X.w) X.A (spliced []) (fun vs s3=>wpAny (model X.prog X.w) X.A (call (.builtin "sorted") (v::vs)) (EP X pins σ Q) X.xe s3) X.xe s2) X.xe s1:=by
  intro c its hits hsrc;refine Srt.call_bagT hh (by omega) hsrc hits hT (by show (ps.map _).length<300;rw[List.length_map];omega) fun h' tk qs hk hB hnd hmem hqp=>Calls.spliced_nil ?_
  obtain⟨es,ep,tb,bt,_,hp,hq⟩:=hB;have hqpl:qs.length≤ts.length:=by
   have:=STab.sub_len hnd (fun t ht=>(hmem t).mp ht);rw[List.length_map,epq] at this;exact this
  have hsz:es.size=qs.length:=by have:=hp.length_eq;simpa using this
  have hzl:es.size≤sizeLine:=by rw[sizeLine_eq];omega
  have hvals:(es.toList.map (·.2)).Perm (qs.map fun q=>Value.ref q.1):=by
   refine (hp.map _).trans ?_;rw[List.map_map];exact .rfl
  have hti:∀ q∈qs,Srt.TupInts h' (.ref q.1) (tl q.2):=fun q hq'=>by
   obtain⟨⟨o,items,n,ho,hc,hd,hi⟩,_⟩:=hq q hq';exact⟨q.1,o,items,n,rfl,ho,hc,hd,Srt.items_ints hi,by simp[tl]⟩
  refine Srt.sorted_any (O:=Srt.lexOrd) (key:=Srt.tupKey h') (knd:=tuples' true) (s:={s1 with heap:=h',toks:=tk}) (Srt.coll_bag (A:=X.A.in1) hh bt hzl) (fun vs h=>by rw[h.length_eq,List.length_map,Array.length_toList];omega) (fun vs s' hC k=>?_) fun vs out h1 h2 tk' n hC ho hs k1 k2 hD=>?_
  ·refine Srt.asks_tups (fun v hv=>?_) k;obtain⟨q,hq',rfl⟩:=List.mem_map.mp ((hC.trans hvals).mem_iff.mp hv);exact⟨_,hti q hq'⟩
  ·obtain⟨qs',hqq,rfl⟩:=perm_map_inv (ho.trans (hC.trans hvals)) rfl;have I3:Inv X pins σ H1 {s1 with heap:=h1,toks:=tk'}:=I1.kept fun b o eb=>k1 b o (hk b o eb)
   have hps':PsAt H1 (qs'.map fun q=>(q.1,tl q.2)) (qs'.map (·.2)):=by
    refine⟨fun x hx=>?_,by rw[List.map_map,List.map_map];rfl⟩;obtain⟨q',hq',rfl⟩:=List.mem_map.mp hx;obtain⟨z,hz',e'⟩:=List.mem_map.mp (hqp q' (hqq.mem_iff.mp hq'));subst e';have:=hps.to z hz';rw[two z hz'] at this;exact this
   have hlen:qs'.length≤sizeLine:=by rw[hqq.length_eq,← hsz];exact hzl
   have hres:=q (qs'.map fun q=>(q.1,tl q.2)) (qs'.map (·.2)) h1.objs.size hps' ?_ ?_ I3.fresh
   ·rw[List.map_map] at hres;have hres':Q (.ref h1.objs.size) (upd H1 h1.objs.size (.lst (qs'.map fun q:Addr×(Int×Int)=>V.ref q.1))):=hres;refine⟨.ref h1.objs.size,_,I3.laid (t':=tk') (o:=.lst (qs'.map fun q:Addr×(Int×Int)=>V.ref q.1)) k2 (Nat.le_refl _) ⟨by rw[List.length_map];exact hlen,_,n,refs_vals (f:=fun q:Addr×(Int×Int)=>q.1) qs',hD⟩,rfl,hres'⟩
   ·have hnd':(qs'.map (·.2)).Nodup:=(hqq.map _).nodup_iff.mpr hnd;refine STab.lex_of ?_ hnd';rw[List.pairwise_map] at hs ⊢;refine hs.imp_of_mem fun {a b} ha hb hab=>?_
    have e1:=Srt.tupKey_of (hti a (hqq.mem_iff.mp ha));have e2:=Srt.tupKey_of (hti b (hqq.mem_iff.mp hb));have hab:HT.lexLt (Srt.tupKey h' (.ref b.1)) (Srt.tupKey h' (.ref a.1))=false:=hab;rw[e1,e2] at hab;exact hab
   ·intro t';rw[(hqq.map (·.2)).mem_iff,hmem,epq]
 have evs:∀ {its:List Value},Vals (ps.map fun x=>V.ref x.1) its→its=pq.map (fun q=>Value.ref q.1):=fun {its} r=>by
  rw[vals_refs (f:=fun x:Addr×List Int=>x.1) r];show _=(ps.map fun x=>(x.1,un x.2)).map fun q=>Value.ref q.1
  rw[List.map_map];rfl
 rcases src with hs | hs
 ·obtain⟨its,r,pl,_⟩:=I1.list hs;exact run (evs r) (Srt.src_list pl.isList)
 ·obtain⟨its,r,pl,_⟩:=I1.tuple hs;exact run (evs r) (Srt.src_tup pl)
end
end L2
end
section
namespace L2
open PySem PySem.Spec PyProof.Rows
inductive Pl (H:Hp):V→String→Prop where
 | non:Pl H .non "NoneType"
 | bl (x:Bool):Pl H (.bl x) "bool"
 | int (i:Int):Pl H (.int i) "int"
 | str (x:Str):Pl H (.str x) "str"
 | lst {a:Addr} {xs:List V} (e:H a=some (.lst xs)):Pl H (.ref a) "list"
 | tup {a:Addr} {xs:List V} (e:H a=some (.tup xs)):Pl H (.ref a) "tuple"
 | dK {a:Addr} {kvs:List (Key×V)} (e:H a=some (.dK kvs)):Pl H (.ref a) "dict"
 | dT {a:Addr} {kvs:List (List Key×V)} (e:H a=some (.dT kvs)):Pl H (.ref a) "dict"
theorem Pl.ty {K:PySem.W.Frag}{H:Hp}{x:V}{T:String}(p:Pl H x T):TyOf K H x (.type T):=by
 cases p with
 | non=>exact .non
 | bl x=>exact .bl x
 | int i=>exact .int i
 | str x=>exact .str x
 | lst e=>exact .lst e
 | tup e=>exact .tup e
 | dK e=>exact .dK e
 | dT e=>exact .dT e
def isIn (T c:String):Bool:=T == c || (T == "bool" && c == "int")
theorem kit_plain {K:PySem.W.Frag}{H:Hp}{x:V}{T:String}(p:Pl H x T){c:String}(hc:c="int"∨c="bool"∨c="tuple"):PySem.W.kitOne K (.type T) (.type c)=some (isIn T c):=by
 rcases hc with rfl | rfl | rfl<;>cases p<;>rfl
def isI:V→Bool
 | .int _=>true
 | _=>false
theorem isI_of {H:Hp}{x:V}{T:String}(p:Pl H x T):(isIn T "int" && !isIn T "bool")=isI x:=by cases p<;>rfl
def betw (x:V)(lo hi:Int):Bool:=match x with
 | .int i=>decide (lo≤i) && decide (i≤hi)
 | _=>false
theorem betw_no {x:V}{lo hi:Int}(h:isI x=false):betw x lo hi=false:=by cases x<;>first | rfl | cases h
theorem isI_int {x:V}(h:isI x=true):∃ i,x=.int i:=by cases x<;>first | exact⟨_,rfl⟩ | cases h
def sp_pint:Sp:=fun vs H Q _=>∃ (x:V) (T:String),vs=[x]∧Pl H x T∧Q (.bl (isI x)) H
def sp_pbetw:Sp:=fun vs H Q _=>∃ (x:V) (T:String) (lo hi:Int),vs=[x,.int lo,.int hi]∧Pl H x T∧Q (.bl (betw x lo hi)) H
def asPair (H:Hp):V→Option (V×V)
 | .ref a=>match H a with
  | some (.tup [x,y])=>some (x,y)
  | _=>none
 | _=>none
theorem asPair_len {H:Hp}{a:Addr}{xs:List V}(e:H a=some (.tup xs)):(asPair H (.ref a)).isSome=decide (xs.length=2):=by
 unfold asPair;dsimp only;rw[e]
 match xs with
 | []=>rfl
 | [_]=>rfl
 | [_,_]=>rfl
 | _::_::_::_=>simp
theorem asPair_no {H:Hp}{x:V}{T:String}(p:Pl H x T)(h:isIn T "tuple"=false):asPair H x=none:=by
 cases p with
 | tup e=>cases h
 | lst e=>unfold asPair;dsimp only;rw[e]
 | dK e=>unfold asPair;dsimp only;rw[e]
 | dT e=>unfold asPair;dsimp only;rw[e]
 | _=>rfl
theorem asPair_eq {H:Hp}{x y z:V}(h:asPair H x=some (y,z)):∃ a,x=.ref a∧H a=some (.tup [y,z]):=by
 unfold asPair at h;split at h
 ·rename_i a;split at h
  ·rename_i p q e;cases h;exact⟨a,rfl,e⟩
  ·cases h
 ·cases h
def tieB (H:Hp)(x:V)(n:Int):Bool:=match asPair H x with
 | some (y,z)=>betw y 0 (n-1) && (match y with | .int i=>betw z (i+1) (n-1) | _=>false)
 | none=>false
def sp_ppair:Sp:=fun vs H Q _=>∃ (x:V) (T:String),vs=[x]∧Pl H x T∧Q (.bl (asPair H x).isSome) H
def sp_ptie:Sp:=fun vs H Q _=>∃ (x:V) (T:String) (n:Int),vs=[x,.int n]∧Pl H x T∧(∀ y z,asPair H x=some (y,z)→(∃ T,Pl H y T)∧∃ T,Pl H z T)∧Q (.bl (tieB H x n)) H
end L2
end
section
namespace L2
open PySem PySem.Spec PyProof.Rows
def PlD (H:Hp):Nat→V→Prop
 | 0,y=>∃ T,Pl H y T
 | m+1,y=>(∃ T,Pl H y T)∧∀ a ys,y=.ref a→H a=some (.tup ys)→∀ z∈ys,PlD H m z
theorem Pl.mono {H H':Hp}{y:V}{T:String}(s:Same H H')(p:Pl H y T):Pl H' y T:=by
 cases p with
 | non=>exact .non
 | bl x=>exact .bl x
 | int i=>exact .int i
 | str x=>exact .str x
 | lst e=>exact .lst (s _ _ e)
 | tup e=>exact .tup (s _ _ e)
 | dK e=>exact .dK (s _ _ e)
 | dT e=>exact .dT (s _ _ e)
theorem Pl.back {H H':Hp}{a:Addr}{ys:List V}{T:String}(s:Same H H')(p:Pl H (.ref a) T)(e:H' a=some (.tup ys)):H a=some (.tup ys):=by
 cases p with
 | lst e2=>have:=s _ _ e2;rw[e] at this;cases this
 | tup e2=>have:=s _ _ e2;rw[e] at this;cases this;exact e2
 | dK e2=>have:=s _ _ e2;rw[e] at this;cases this
 | dT e2=>have:=s _ _ e2;rw[e] at this;cases this
theorem PlD.pl {H:Hp}{m:Nat}{y:V}(h:PlD H m y):∃ T,Pl H y T:=by
 cases m with
 | zero=>exact h
 | succ m=>exact h.1
theorem PlD.mono {H H':Hp}(s:Same H H'):∀ {m:Nat} {y:V},PlD H m y→PlD H' m y
 | 0,y,⟨T,p⟩=>⟨T,p.mono s⟩
 | m+1,y,⟨⟨T,p⟩,h⟩=>⟨⟨T,p.mono s⟩,fun a ys e ea z hz=>by
  subst e
  exact PlD.mono s (h a ys rfl (p.back s ea) z hz)⟩
end L2
end
section
namespace L2
open PySem PySem.Spec PyProof.Rows
structure Bt3 (mg:Str→Option Value):Prop where
 sum:mg "sum"=none
 any:mg "any"=none
end L2
end
section
namespace L2
open PySem PySem.Spec PyProof.Rows
section
variable {X:Cx}
structure Bt4 (mg:Str→Option Value):Prop where
 repr:mg "repr"=none
end
end L2
end
section
namespace L2
open PySem PySem.Spec PyProof.Rows
theorem gN_ap {i:Nat}{v:V}{σ:St}{H:Hp}{Q:St→Hp→Prop}:gName i v σ H Q=Q (σ.set i (some v)) H:=rfl
section
variable {k m c:Nat}{d:PyData}{ds:List PyData}
def webD (n:Int)(ts:List (Int×Int)):PyData:=.tuple [.int n,.tuple ((ts.map tl).map L2.tI)]
theorem WebAt.dt {K:PySem.W.Frag}{H:Hp}{w:Addr}{n:Int}{ts:List (Int×Int)}(h:WebAt H w n ts):Dt K H (.ref w) (webD n ts):=by
 obtain⟨q,e,ht⟩:=h;exact .tup (SqT.of e) (.cons (.int n) (.cons ht.ls.dt .nil))
theorem TsAt.dt {K:PySem.W.Frag}{H:Hp}{w:Addr}{ts:List (Int×Int)}(h:TsAt H w ts):Dt K H (.ref w) (.tuple ((ts.map tl).map L2.tI)):=h.ls.dt
end
end L2
end
section
namespace L2
open PySem PySem.Spec PyProof.Rows
def kD:Key→PyData
 | .inl i=>.int i
 | .inr x=>.str x
def sD:V→PyData
 | .bl b=>.bool b
 | .int i=>.int i
 | .str x=>.str x
 | _=>.none
def isS:V→Bool
 | .non=>true
 | .bl _=>true
 | .int _=>true
 | .str _=>true
 | _=>false
mutual
def noL:PyData→Bool
 | .list _=>false
 | .tuple xs=>noLs xs
 | .none=>true
 | .bool _=>true
 | .int _=>true
 | .str _=>true
 | .dict _=>true
def noLs:List PyData→Bool
 | []=>true
 | x::r=>noL x && noLs r
end
mutual
def sOk:PyData→Bool
 | .list xs=>sOks xs
 | .tuple xs=>sOks xs
 | .none=>true
 | .bool _=>true
 | .int _=>true
 | .str x=>PyData.strOk x
 | .dict _=>true
def sOks:List PyData→Bool
 | []=>true
 | x::r=>sOk x && sOks r
end
mutual
inductive Dd (H:Hp):V→PyData→Prop
 | sc {x:V}:isS x=true→Dd H x (sD x)
 | tup {a:Addr} {xs:List V} {ds:List PyData}:H a=some (.tup xs)→Dds H xs ds→Dd H (.ref a) (.tuple ds)
 | lst {a:Addr} {xs:List V} {ds:List PyData}:H a=some (.lst xs)→Dds H xs ds→Dd H (.ref a) (.list ds)
 | dct {a:Addr} {kvs:List (Key×V)}:H a=some (.dK kvs)→(∀ kv∈kvs,isS kv.2=true)→Dd H (.ref a) (.dict (kvs.map fun kv=>(kD kv.1,sD kv.2)))
 | dc1 {a:Addr} {i:Int} {x:V} {d:PyData}:H a=some (.dK [(.inl i,x)])→Dd H x d→noL d=true→Dd H (.ref a) (.dict [(.int i,d)])
inductive Dds (H:Hp):List V→List PyData→Prop
 | nil:Dds H [] []
 | cons {x:V} {d:PyData} {xs:List V} {ds:List PyData}:Dd H x d→Dds H xs ds→Dds H (x::xs) (d::ds)
end
mutual
theorem Dd.same {H H':Hp}(s:Same H H'):∀ {x:V} {d:PyData},Dd H x d→Dd H' x d
 | _,_,.sc h=>.sc h
 | _,_,.tup e h=>.tup (s _ _ e) (Dds.same s h)
 | _,_,.lst e h=>.lst (s _ _ e) (Dds.same s h)
 | _,_,.dct e h=>.dct (s _ _ e) h
 | _,_,.dc1 e h n=>.dc1 (s _ _ e) (Dd.same s h) n
theorem Dds.same {H H':Hp}(s:Same H H'):∀ {xs:List V} {ds:List PyData},Dds H xs ds→Dds H' xs ds
 | _,_,.nil=>.nil
 | _,_,.cons h t=>.cons (Dd.same s h) (Dds.same s t)
end
section
variable {X:Cx}{pins:List (Addr×Obj)}{σ:St}{H:Hp}{s:Shared}
theorem sc_reads {h:Heap}{x:V}{u:Value}(hs:isS x=true)(r:RelV x u):Reads h u (sD x) []:=by
 cases x with
 | non=>cases (show u=Value.none from r);exact .none
 | bl b=>cases (show u=Value.bool b from r);exact .bool b
 | int i=>obtain⟨t,rfl⟩:=(show ∃ t,u=Value.int i t from r);exact .int i t
 | str x=>obtain⟨t,rfl⟩:=(show ∃ t,u=Value.str x t from r);exact .str x t
 | _=>cases hs
structure Nx (k m:Nat)(d:PyData):Prop where
 mix:noL d=true∨d.hasDict=false
 sh:d.showable=true
 dp:d.depth≤k
 lv:d.leavesShort 100=true
 bk:d.bulk≤m
theorem Nx.fits {k m:Nat}{d:PyData}(h:Nx k m d)(hm:m≤100000):d.shown.length≤sizeLine:=by
 have h1:=PyData.shown_le_bulk 100 (by decide) d h.lv;have h2:=h.bk;rw[sizeLine_eq];omega
def cReprX:List V→Hp→VK→Prop:=fun xs H Q=>∃ (x:V) (d:PyData),xs=[x]∧Dd H x d∧Nx 50 100000 d∧Q (.str d.shown) H
end
end L2
end
section
namespace L2
open PySem PySem.Spec PyProof.Rows
structure Nc (c k m:Nat)(d:PyData):Prop where
 nl:c≠2→noL d=true
 nd:c≠1→d.hasDict=false
 sh:d.showable=true
 dp:d.depth≤k
 lv:d.leavesShort 100=true
 bk:d.bulk≤m
 so:sOk d=true
structure Ncs (c k m:Nat)(ds:List PyData):Prop where
 nl:c≠2→noLs ds=true
 nd:c≠1→PyData.hasDictAll ds=false
 sh:PyData.showableAll ds=true
 dp:PyData.depthAll ds≤k
 lv:PyData.leavesShortAll 100 ds=true
 bk:PyData.bulkAll ds≤m
 so:sOks ds=true
section
variable {c k m:Nat}{d:PyData}{ds:List PyData}{H:Hp}
theorem Nc.nx (h:Nc c k m d)(hk:k≤50)(hm:m≤100000):Nx 50 100000 d:=by
 refine⟨?_,h.sh,Nat.le_trans h.dp hk,h.lv,Nat.le_trans h.bk hm⟩;by_cases e:c=2
 ·exact .inr (h.nd (by omega))
 ·exact .inl (h.nl e)
theorem Nc.mono {k' m':Nat}(h:Nc c k m d)(hk:k≤k')(hm:m≤m'):Nc c k' m' d:=⟨h.nl,h.nd,h.sh,Nat.le_trans h.dp hk,h.lv,Nat.le_trans h.bk hm,h.so⟩
theorem Nc.kind {c':Nat}(h:Nc 0 k m d):Nc c' k m d:=⟨fun _=>h.nl (by decide),fun _=>h.nd (by decide),h.sh,h.dp,h.lv,h.bk,h.so⟩
theorem Ncs.nil:Ncs c k m []:=⟨fun _=>by rw[noLs],fun _=>by rw[PyData.hasDictAll],by rw[PyData.showableAll],by rw[PyData.depthAll];exact Nat.zero_le _,by rw[PyData.leavesShortAll],by rw[PyData.bulkAll];exact Nat.zero_le _,by rw[sOks]⟩
theorem Ncs.cons {m':Nat}(h:Nc c k m d)(t:Ncs c k m' ds):Ncs c k (m+1+m') (d::ds):=by
 refine⟨fun e=>?_,fun e=>?_,?_,?_,?_,?_,by rw[sOks,h.so,t.so];rfl⟩
 ·rw[noLs,h.nl e,t.nl e];rfl
 ·rw[PyData.hasDictAll,h.nd e,t.nd e];rfl
 ·rw[PyData.showableAll,h.sh,t.sh];rfl
 ·rw[PyData.depthAll];exact Nat.max_le.mpr ⟨h.dp,t.dp⟩
 ·rw[PyData.leavesShortAll,h.lv,t.lv];rfl
 ·rw[PyData.bulkAll];have:=h.bk;have:=t.bk;omega
theorem Ncs.all:∀ {ds:List PyData},(∀ d∈ds,Nc c k m d)→Ncs c k (ds.length*(m+1)) ds
 | [],_=>.nil
 | d::r,h=>by
  have:=Ncs.cons (h d (List.mem_cons_self ..)) (Ncs.all (ds:=r) fun x hx=>h x (List.mem_cons_of_mem _ hx));rw[List.length_cons,Nat.succ_mul,Nat.add_comm];exact this
theorem Nc.tup (h:Ncs c k m ds):Nc c (k+1) m (.tuple ds):=by
 refine⟨fun e=>?_,fun e=>?_,?_,?_,?_,?_,by rw[sOk];exact h.so⟩
 ·rw[noL];exact h.nl e
 ·rw[PyData.hasDict];exact h.nd e
 ·rw[PyData.showable];exact h.sh
 ·rw[PyData.depth];have:=h.dp;omega
 ·rw[PyData.leavesShort];exact h.lv
 ·rw[PyData.bulk];exact h.bk
theorem Nc.lst (h:Ncs 0 k m ds):Nc 2 (k+1) m (.list ds):=by
 refine⟨fun e=>absurd rfl e,fun e=>?_,?_,?_,?_,?_,by rw[sOk];exact h.so⟩
 ·rw[PyData.hasDict];exact h.nd (by decide)
 ·rw[PyData.showable];exact h.sh
 ·rw[PyData.depth];have:=h.dp;omega
 ·rw[PyData.leavesShort];exact h.lv
 ·rw[PyData.bulk];exact h.bk
theorem Nc.lst2 (h:Ncs 2 k m ds):Nc 2 (k+1) m (.list ds):=by
 refine⟨fun e=>absurd rfl e,fun e=>?_,?_,?_,?_,?_,by rw[sOk];exact h.so⟩
 ·rw[PyData.hasDict];exact h.nd (by decide)
 ·rw[PyData.showable];exact h.sh
 ·rw[PyData.depth];have:=h.dp;omega
 ·rw[PyData.leavesShort];exact h.lv
 ·rw[PyData.bulk];exact h.bk
def Sm (i:Int):Prop:=i.natAbs.log2<1920∧(PyData.shown (.int i)).length≤100
theorem sm_of {i:Int}(h:i.natAbs<10 ^ 12):Sm i:=by
 refine⟨?_,Nat.le_trans (PyData.shown_int_le h) (by decide)⟩;have h12:(10:Nat) ^ 12=1000000000000:=by decide
 have h40:(2:Nat) ^ 40=1099511627776:=by decide
 rcases Nat.eq_zero_or_pos i.natAbs with e | e
 ·rw[e];decide
 ·have:i.natAbs.log2<40:=(Nat.log2_lt (by omega)).mpr (by omega);omega
theorem Nc.int {i:Int}(h:Sm i):Nc c k m (.int i):=by
 refine⟨fun _=>by rw[noL],fun _=>by rw[PyData.hasDict],?_,?_,?_,?_,by rw[sOk]⟩
 ·rw[PyData.showable,decide_eq_true_iff];exact h.1
 ·rw[PyData.depth];exact Nat.zero_le _
 ·rw[PyData.leavesShort,decide_eq_true_iff];exact h.2
 ·rw[PyData.bulk];exact Nat.zero_le _
theorem Nc.bool {b:Bool}:Nc c k m (.bool b):=⟨fun _=>by rw[noL],fun _=>by rw[PyData.hasDict],by rw[PyData.showable],by rw[PyData.depth];exact Nat.zero_le _,by rw[PyData.leavesShort],by rw[PyData.bulk];exact Nat.zero_le _,by rw[sOk]⟩
theorem Nc.none:Nc c k m .none:=⟨fun _=>by rw[noL],fun _=>by rw[PyData.hasDict],by rw[PyData.showable],by rw[PyData.depth];exact Nat.zero_le _,by rw[PyData.leavesShort],by rw[PyData.bulk];exact Nat.zero_le _,by rw[sOk]⟩
theorem cps_of {x:Str}(h1:(x.cps.toList.all fun c=>decide (c<1114112))=true):(x.cps.toList.all fun c=>decide (c<16 ^ 8))=true∧PyData.strOk x=true:=by
 refine⟨List.all_eq_true.mpr fun c hc=>?_,?_⟩
 ·have:=of_decide_eq_true (List.all_eq_true.mp h1 c hc);exact decide_eq_true (Nat.lt_trans this (by decide))
 ·unfold PyData.strOk;rw[← Array.all_toList];exact h1
theorem Nc.str {x:Str}(h1:(x.cps.toList.all fun c=>decide (c<1114112))=true)(h2:x.cps.size≤m):Nc c k m (.str x):=⟨fun _=>by rw[noL],fun _=>by rw[PyData.hasDict],by rw[PyData.showable],by rw[PyData.depth];exact Nat.zero_le _,by rw[PyData.leavesShort];exact (cps_of h1).1,by rw[PyData.bulk];exact h2,by rw[sOk];exact (cps_of h1).2⟩
theorem Nc.dict0:Nc 1 (k+1) m (.dict []):=by
 refine⟨fun _=>by rw[noL],fun e=>absurd rfl e,?_,?_,?_,?_,by rw[sOk]⟩
 ·rw[PyData.showable,PyData.showableKv]
 ·rw[PyData.depth,PyData.depthKv];exact Nat.le_add_left _ _
 ·rw[PyData.leavesShort,PyData.leavesShortKv]
 ·rw[PyData.bulk,PyData.bulkKv];exact Nat.zero_le _
def Tg (H:Hp)(c k m:Nat)(v:V):Prop:=∃ d,Dd H v d∧Nc c k m d
theorem Tg.same {H':Hp}{v:V}(s:Same H H')(h:Tg H c k m v):Tg H' c k m v:=let ⟨d,h1,h2⟩:=h;⟨d,h1.same s,h2⟩
theorem Tg.mono {k' m':Nat}{v:V}(h:Tg H c k m v)(hk:k≤k')(hm:m≤m'):Tg H c k' m' v:=let ⟨d,h1,h2⟩:=h;⟨d,h1,h2.mono hk hm⟩
theorem Tg.kind {c':Nat}{v:V}(h:Tg H 0 k m v):Tg H c' k m v:=let ⟨d,h1,h2⟩:=h;⟨d,h1,h2.kind⟩
theorem Tg.int {i:Int}(h:Sm i):Tg H c k m (.int i):=⟨_,.sc rfl,.int h⟩
theorem Tg.bl {b:Bool}:Tg H c k m (.bl b):=⟨_,.sc rfl,.bool⟩
theorem Tg.non:Tg H c k m .non:=⟨_,.sc rfl,.none⟩
theorem Tg.str {x:Str}(h1:(x.cps.toList.all fun c=>decide (c<1114112))=true)(h2:x.cps.size≤m):Tg H c k m (.str x):=⟨_,.sc rfl,.str h1 h2⟩
theorem dds_of:∀ {xs:List V},(∀ x∈xs,Tg H c k m x)→∃ ds,Dds H xs ds∧Ncs c k (xs.length*(m+1)) ds
 | [],_=>⟨[],.nil,.nil⟩
 | x::r,h=>by
  obtain⟨d,h1,h2⟩:=h x (List.mem_cons_self ..);obtain⟨ds,h3,h4⟩:=dds_of (xs:=r) fun y hy=>h y (List.mem_cons_of_mem _ hy)
  refine⟨d::ds,.cons h1 h3,?_⟩;have:=Ncs.cons h2 h4;rw[List.length_cons,Nat.succ_mul,Nat.add_comm];exact this
theorem Tg.tup {a:Addr}{xs:List V}(e:H a=some (.tup xs))(h:∀ x∈xs,Tg H c k m x):Tg H c (k+1) (xs.length*(m+1)) (.ref a):=by
 obtain⟨ds,h1,h2⟩:=dds_of h;exact⟨_,.tup e h1,.tup h2⟩
theorem Tg.lst {a:Addr}{xs:List V}(e:H a=some (.lst xs))(h:∀ x∈xs,Tg H 2 k m x):Tg H 2 (k+1) (xs.length*(m+1)) (.ref a):=by
 obtain⟨ds,h1,h2⟩:=dds_of h;exact⟨_,.lst e h1,.lst2 h2⟩
theorem Tg.dict0 {a:Addr}(e:H a=some (.dK [])):Tg H 1 (k+1) m (.ref a):=⟨_,.dct e (fun kv h=>nomatch h),.dict0⟩
theorem Tg.dict1 {a:Addr}{i j:Int}(e:H a=some (.dK [(.inl i,.int j)]))(hi:Sm i)(hj:Sm j):Tg H 1 (k+1) (m+2) (.ref a):=by
 refine⟨_,.dct e (fun kv h=>by rw[List.mem_singleton.mp h];rfl),?_⟩;show Nc 1 (k+1) (m+2) (.dict [(.int i,.int j)]);have a:=Nc.int (c:=1) (k:=k) (m:=0) hi;have b:=Nc.int (c:=1) (k:=k) (m:=0) hj;refine⟨fun _=>by rw[noL],fun e=>absurd rfl e,?_,?_,?_,?_,by rw[sOk]⟩
 ·rw[PyData.showable,PyData.showableKv,a.sh,b.sh,PyData.showableKv];rfl
 ·rw[PyData.depth,PyData.depthKv,PyData.depthKv];exact Nat.succ_le_succ (Nat.max_le.mpr ⟨Nat.max_le.mpr ⟨a.dp,b.dp⟩,Nat.zero_le _⟩)
 ·rw[PyData.leavesShort,PyData.leavesShortKv,a.lv,b.lv,PyData.leavesShortKv];rfl
 ·rw[PyData.bulk,PyData.bulkKv,PyData.bulkKv];have:=a.bk;have:=b.bk;omega
theorem Tg.repr {v:V}{Q:VK}(h:Tg H c k m v)(hk:k≤50)(hm:m≤100000)(q:∀ x,(∀ {H':Hp} {Q':VK},Same H H'→Q' (.str x) H'→cReprX [v] H' Q')→Q (.str x) H):cReprX [v] H Q:=by
 obtain⟨d,h1,h2⟩:=h;exact⟨v,d,rfl,h1,h2.nx hk hm,q _ fun s q'=>⟨v,d,rfl,h1.same s,h2.nx hk hm,q'⟩⟩
theorem dd_mem:∀ {xs:List V} {ds:List PyData},Dds H xs ds→∀ x∈xs,∃ d,Dd H x d
 | _,_,.nil,x,hx=>nomatch hx
 | _,_,.cons h t,x,hx=>by
  rcases List.mem_cons.mp hx with rfl | hx
  ·exact⟨_,h⟩
  ·exact dd_mem t x hx
theorem Dd.pl {v:V}{d:PyData}(h:Dd H v d):∃ T,Pl H v T:=by
 cases h with
 | sc hs =>
  cases v with
  | non=>exact⟨_,.non⟩
  | bl b=>exact⟨_,.bl b⟩
  | int i=>exact⟨_,.int i⟩
  | str x=>exact⟨_,.str x⟩
  | _=>cases hs
 | tup e _=>exact⟨_,.tup e⟩
 | lst e _=>exact⟨_,.lst e⟩
 | dct e _=>exact⟨_,.dK e⟩
 | dc1 e _ _=>exact⟨_,.dK e⟩
theorem Dd.pld:∀ {m:Nat} {v:V} {d:PyData},Dd H v d→PlD H m v
 | 0,_,_,h=>h.pl
 | m+1,v,d,h=>⟨h.pl,fun a ys e ea z hz=>by
  subst e;cases h with
  | sc hs=>cases hs
  | tup e2 hs =>
   rw[ea] at e2;cases e2;obtain⟨d',h'⟩:=dd_mem hs z hz;exact Dd.pld h'
  | lst e2 _=>rw[ea] at e2;cases e2
  | dct e2 _=>rw[ea] at e2;cases e2
  | dc1 e2 _ _=>rw[ea] at e2;cases e2⟩
theorem Tg.pld {n:Nat}{v:V}(h:Tg H c k m v):PlD H n v:=let ⟨_,h1,_⟩:=h;h1.pld
mutual
theorem Dd.dt {K:PySem.W.Frag}:∀ {v:V} {d:PyData},Dd H v d→d.hasDict=false→Dt K H v d
 | v,_,.sc hs,_=>by
  cases v with
  | non=>exact .non
  | bl b=>exact .bl b
  | int i=>exact .int i
  | str x=>exact .str x
  | _=>cases hs
 | _,_,.tup e h,hn=>.tup (SqT.of e) (Dds.dt h (by rw[PyData.hasDict] at hn;exact hn))
 | _,_,.lst e h,hn=>.lst (SqL.of e) (Dds.dt h (by rw[PyData.hasDict] at hn;exact hn))
 | _,_,.dct _ _,hn=>by rw[PyData.hasDict] at hn;cases hn
 | _,_,.dc1 _ _ _,hn=>by rw[PyData.hasDict] at hn;cases hn
theorem Dds.dt {K:PySem.W.Frag}:∀ {xs:List V} {ds:List PyData},Dds H xs ds→PyData.hasDictAll ds=false→Dts K H xs ds
 | _,_,.nil,_=>.nil
 | _,_,.cons h t,hn=>by
  rw[PyData.hasDictAll,Bool.or_eq_false_iff] at hn;exact .cons (Dd.dt h hn.1) (Dds.dt t hn.2)
end
mutual
theorem lay_of:∀ {d:PyData},sOk d=true→d.hasDict=false→d.canLay0=true
 | .none,_,_=>by rw[PyData.canLay0]
 | .bool _,_,_=>by rw[PyData.canLay0]
 | .int _,_,_=>by rw[PyData.canLay0]
 | .str x,h,_=>by rw[PyData.canLay0];rw[sOk] at h;exact h
 | .tuple xs,h,n=>by rw[PyData.canLay0];rw[sOk] at h;rw[PyData.hasDict] at n;exact lays_of h n
 | .list xs,h,n=>by rw[PyData.canLay0];rw[sOk] at h;rw[PyData.hasDict] at n;exact lays_of h n
 | .dict _,_,n=>by rw[PyData.hasDict] at n;cases n
theorem lays_of:∀ {ds:List PyData},sOks ds=true→PyData.hasDictAll ds=false→PyData.canLayAll0 ds=true
 | [],_,_=>by rw[PyData.canLayAll0]
 | d::r,h,n=>by
  rw[sOks,Bool.and_eq_true] at h;rw[PyData.hasDictAll,Bool.or_eq_false_iff] at n;rw[PyData.canLayAll0,lay_of h.1 n.1,lays_of h.2 n.2];rfl
end
theorem Nc.shaped (h:Nc c k m d)(hk:k≤64)(hn:d.hasDict=false):SeqAt.shaped d=true:=by
 unfold SeqAt.shaped;rw[lay_of h.so hn,decide_eq_true (Nat.le_trans h.dp hk)];rfl
theorem Tg.dt {K:PySem.W.Frag}{v:V}(h:Tg H c k m v)(hc:c≠1)(hk:k≤64):∃ d,Dt K H v d∧SeqAt.shaped d=true:=by
 obtain⟨d,h1,h2⟩:=h;exact⟨d,h1.dt (h2.nd hc),h2.shaped hk (h2.nd hc)⟩
end
end L2
end
section
namespace L2
open PySem
def TurnF (g:TG)(tc:TT)(te:TE)(p:Addr)(fr:St)(H1:Hp)(x:V)(c:Bool)(f:V)(N:Nat):Prop :=
 ∀ (v:Option V) (ys:List V) (R:St→Hp→Prop),ys.length≤N→(c=true→∀ v',R (v'::fr) (upd (upd H1 p (.lst ys)) p (.lst (ys++[f]))))→(c=false→∀ v',R (v'::fr) (upd H1 p (.lst ys))) →
  g x (v::fr) (upd H1 p (.lst ys)) fun τ2 H2=>tc τ2 H2 fun b H3=>if b=true then te τ2 H3 fun w H4=>∃ zs,H4 p=some (.lst zs)∧zs.length<sizeLine∧R τ2 (upd H4 p (.lst (zs++[w]))) else R τ2 H3
theorem turn_len {α:Type}(c:α→Bool)(f:α→V)(l:List α):((l.filter c).map f).length≤l.length:=by rw[List.length_map];exact List.length_filter_le _ _
theorem fm_snoc {α:Type}(c:α→Bool)(f:α→V)(l:List α)(x:α):((l++[x]).filter c).map f=(l.filter c).map f++(if c x=true then [f x] else []):=by
 rw[List.filter_append,List.map_append];congr 1;by_cases h:c x=true
 ·rw[List.filter_cons_of_pos h,if_pos h];rfl
 ·rw[List.filter_cons_of_neg h,if_neg h];rfl
theorem fil_true {α:Type}(l:List α):l.filter (fun _=>true)=l:=List.filter_eq_self.mpr fun _ _=>rfl
section
variable {K:PySem.W.Frag}{a p:Addr}{g:TG}{tc:TT}{te:TE}{fr:St}{H1:Hp}{EE:Hp→Prop}
theorem lc_rangeF {n:Nat}(c:Int→Bool)(f:Int→V)(hn:n≤16000000)(hs:∀ x:Int,0≤x→x<n→TurnF g tc te p fr H1 (.int x) (c x) (f x) n)
  (hd:EE (upd H1 p (.lst (((rInts 0 n).filter c).map f)))):lcW g tc te p (Itr 0 n) (none::fr) (upd H1 p (.lst [])) EE:=by
 refine lc_range (fun i τ H=>i≤n∧(∃ v,τ=v::fr)∧H=upd H1 p (.lst (((rInts 0 i).filter c).map f))) ⟨Nat.zero_le _,⟨_,rfl⟩,rfl⟩ ?_ ?_
 ·rintro i τ H hi ⟨_,⟨v,rfl⟩,rfl⟩;have e:rInts 0 (i+1)=rInts 0 i++[(0:Int)+i]:=by unfold rInts;rw[List.range_succ,List.map_append];rfl
  refine hs ((0:Int)+i) (by omega) (by omega) v _ _ (Nat.le_trans (turn_len c f _) (by rw[rInts_length];omega)) (fun h v'=>?_) fun h v'=>?_
  ·refine⟨by omega,⟨_,rfl⟩,?_⟩;rw[upd_upd,e,fm_snoc,if_pos h]
  ·refine⟨by omega,⟨_,rfl⟩,?_⟩;rw[e,fm_snoc,if_neg (by rw[h];simp),List.append_nil]
 ·rintro τ H ⟨_,_,rfl⟩;exact hd
theorem take_snoc {α:Type}{l:List α}{i:Nat}{x:α}(h:l[i]?=some x):l.take (i+1)=l.take i++[x]:=by rw[List.take_succ,h];rfl
theorem lc_listF {α:Type}{xs:List α}(V0:α→V)(c:α→Bool)(f:α→V)(hn:xs.length≤16000000)(hl:SqL K H1 a (xs.map V0))(hp:H1 p=none)(hs:∀ x∈xs,TurnF g tc te p fr H1 (V0 x) (c x) (f x) xs.length)
  (hd:EE (upd H1 p (.lst ((xs.filter c).map f)))):lcW g tc te p (Itl K a) (none::fr) (upd H1 p (.lst [])) EE:=by
 refine lc_list (xs:=xs.map V0) (fun i τ H=>(∃ v,τ=v::fr)∧H=upd H1 p (.lst (((xs.take i).filter c).map f))) ⟨⟨_,rfl⟩,by simp⟩ ?_ ?_ ?_
 ·rintro i τ H _ ⟨_,rfl⟩;exact ((Same.refl H1).upd hp).seq hl
 ·rintro i x τ H hx ⟨⟨v,rfl⟩,rfl⟩ _;rw[List.getElem?_map] at hx;cases h0:xs[i]? with
  | none=>rw[h0] at hx;cases hx
  | some y =>
  rw[h0] at hx;cases Option.some.inj hx;have hi:=(List.getElem?_eq_some_iff.mp h0).1;refine hs y (List.mem_of_getElem? h0) v _ _ (Nat.le_trans (turn_len c f _) (by rw[List.length_take];omega)) (fun h v'=>?_) fun h v'=>?_
  ·refine⟨⟨_,rfl⟩,?_⟩;rw[upd_upd,take_snoc h0,fm_snoc,if_pos h]
  ·refine⟨⟨_,rfl⟩,?_⟩;rw[take_snoc h0,fm_snoc,if_neg (by rw[h];simp),List.append_nil]
 ·rintro τ H ⟨_,rfl⟩;rw[List.length_map,List.take_length];exact hd
theorem lc_tupF {α:Type}{xs:List α}(V0:α→V)(c:α→Bool)(f:α→V)(hn:xs.length≤16000000)(hl:SqT K H1 a (xs.map V0))(hp:H1 p=none)(hs:∀ x∈xs,TurnF g tc te p fr H1 (V0 x) (c x) (f x) xs.length)
  (hd:EE (upd H1 p (.lst ((xs.filter c).map f)))):lcW g tc te p (Itt K a) (none::fr) (upd H1 p (.lst [])) EE:=by
 refine lc_tup (xs:=xs.map V0) (fun i τ H=>(∃ v,τ=v::fr)∧H=upd H1 p (.lst (((xs.take i).filter c).map f))) ⟨⟨_,rfl⟩,by simp⟩ ?_ ?_ ?_
 ·rintro i τ H _ ⟨_,rfl⟩;exact ((Same.refl H1).upd hp).seqT hl
 ·rintro i x τ H hx ⟨⟨v,rfl⟩,rfl⟩;rw[List.getElem?_map] at hx;cases h0:xs[i]? with
  | none=>rw[h0] at hx;cases hx
  | some y =>
  rw[h0] at hx;cases Option.some.inj hx;have hi:=(List.getElem?_eq_some_iff.mp h0).1;refine hs y (List.mem_of_getElem? h0) v _ _ (Nat.le_trans (turn_len c f _) (by rw[List.length_take];omega)) (fun h v'=>?_) fun h v'=>?_
  ·refine⟨⟨_,rfl⟩,?_⟩;rw[upd_upd,take_snoc h0,fm_snoc,if_pos h]
  ·refine⟨⟨_,rfl⟩,?_⟩;rw[take_snoc h0,fm_snoc,if_neg (by rw[h];simp),List.append_nil]
 ·rintro τ H ⟨_,rfl⟩;rw[List.length_map,List.take_length];exact hd
theorem turn_ite {fr:St}{H1:Hp}{p:Addr}{ys:List V}{w:V}{N:Nat}{R:St→Hp→Prop}{v:Option V}{b c:Bool}(e:b=c)(hl:ys.length≤N)(hN:N≤16000000)
  (h1:c=true→∀ v',R (v'::fr) (upd (upd H1 p (.lst ys)) p (.lst (ys++[w])))) (h2:c=false→∀ v',R (v'::fr) (upd H1 p (.lst ys))) :
  if b=true then ∃ zs,upd H1 p (.lst ys) p=some (.lst zs)∧zs.length<sizeLine∧R (v::fr) (upd (upd H1 p (.lst ys)) p (.lst (zs++[w]))) else R (v::fr) (upd H1 p (.lst ys)):=by
 subst e;by_cases hb:b=true
 ·rw[if_pos hb];exact⟨ys,upd_same,sizeBig (by omega),h1 hb v⟩
 ·rw[if_neg hb];exact h2 (by simpa using hb) v
theorem turn_yes {fr:St}{H1:Hp}{p:Addr}{ys:List V}{w:V}{N:Nat}{R:St→Hp→Prop}{v:Option V}(hl:ys.length≤N)(hN:N≤16000000)(h1:true=true→∀ v',R (v'::fr) (upd (upd H1 p (.lst ys)) p (.lst (ys++[w])))) :
  ∃ zs,upd H1 p (.lst ys) p=some (.lst zs)∧zs.length<sizeLine∧R (v::fr) (upd (upd H1 p (.lst ys)) p (.lst (zs++[w]))):=⟨ys,upd_same,sizeBig (by omega),h1 rfl v⟩
end
end L2
end
section
namespace HT
open PySem PyProof.Rows
section
variable {prog:Program}{w:World}{A:Around}{E:Value→Shared→Prop}{s:Shared}
theorem getItem_tuple_whole {t sl:Addr}{items:Array Value}{vl vu:Value}{lo hi:Option Int}{Q:Value→Shared→Prop}(ht:IsTup s.heap t items)(hs:s.heap.IsSliceOf sl vl vu .none)(pl:IsPart vl lo)(pu:IsPart vu hi)
  (hw:sIx items.size 0 lo=0∧sIx items.size items.size hi=items.size) (h:Q (.ref t) s):wpAny (model prog w) A (getItem (.ref t) (.ref sl)) Q E s:=by
 obtain⟨os,hos,hcs,hds⟩:=id hs;have hTs:s.TypeIs (.ref sl) "slice":=⟨os,hos,hcs⟩
 unfold getItem;try with_reducible refine wpAny_holding ?_
 first | refine wpAny_bind (wpAny_pure ?_) | skip
 refine wpAny_bind (wpAny_sequenceKey ht.typeIs (by decide) ?_)
 refine wpAny_bind (wpAny_callSpecial?_slot (name:=Str.ofString "__getitem__") ht.typeIs PyProof.Rows.slot_tuple_getitem
  (wpAny_call_entry PyProof.Rows.slot_tuple_getitem ht.typeIs entry_tuple_getitem ?_ (args_tuple_getitem _ _)))
 show wpAny _ _ (Builtin.Tuple.tupleItemsOf (.ref t) >>= _) _ _ s;refine wpAny_bind (tupleItemsOf_ ht ?_);refine wpAny_bind (wpAny_typeOf hTs ?_);rw[if_pos (by decide)];refine wpAny_bind (sliceApplied_gen hs pl pu ?_);have hyes:(((sIx items.size 0 lo:Nat):Int) == 0 && (1:Int) == 1 && (sIx items.size items.size hi-sIx items.size 0 lo) == items.size)=true:=by
  rw[hw.1,hw.2];simp
 show wpAny _ _ (if (((sIx items.size 0 lo:Nat):Int) == 0 && (1:Int) == 1 && (sIx items.size items.size hi-sIx items.size 0 lo) == items.size)=true then _ else _) _ _ s;rw[if_pos hyes];refine wpAny_bind ?_;unfold Builtin.Tuple.tupleIsExact;refine wpAny_bind (wpAny_typeOf ht.typeIs (wpAny_pure ?_));rw[if_pos (by decide)];refine wpAny_bind (wpAny_rule ?_);exact wpAny_pure ⟨_,rfl,wpAny_pure h⟩
end
end HT
namespace L2
open PySem PySem.Spec PyProof.Rows
theorem RowsAt.zip {H:Hp}{p:Addr}{as:List Addr}{rows:List (List Int)}(h:RowsAt H p as rows):as.map V.ref=(as.zip rows).map (fun x=>V.ref x.1)∧∀ x∈as.zip rows,H x.1=some (.lst (x.2.map V.int)):=by
 constructor
 ·have:as=(as.zip rows).map (·.1):=by rw[List.map_fst_zip (by rw[h.len];exact Nat.le_refl _)]
  rw[show (as.zip rows).map (fun x=>V.ref x.1)=((as.zip rows).map (·.1)).map V.ref by rw[List.map_map];rfl,← this]
 ·intro x hx;obtain⟨i,hi,e⟩:=List.getElem_of_mem hx;have h1:(as.zip rows)[i]?=some x:=by rw[List.getElem?_eq_getElem hi,e]
  rw[List.getElem?_zip_eq_some] at h1;exact h.row i _ _ h1.1 h1.2
end L2
end
section
namespace L2
open PySem PySem.Spec PyProof.Rows
section
variable {X:Cx}
def rSlT1 (K:PySem.W.Frag):V→Option Int→Option Int→Hp→VK→Prop:=fun x lo hi H Q=>∃ a xs,x=.ref a∧SqT K H a xs ∧
 (HT.sIx xs.length 0 lo=0∧HT.sIx xs.length xs.length hi=xs.length→Q (.ref a) H)∧(¬ (HT.sIx xs.length 0 lo=0∧HT.sIx xs.length xs.length hi=xs.length)→∀ p,H p=none→Q (.ref p) (upd H p (.tup (cutV xs lo hi))))
theorem sl_tup1:SlR X (rSlT1 X.K):=by
 intro pins s σ H x v vl vu lo hi sl Q I rx hs pl pu h;obtain⟨a,xs,rfl,hx,q1,q2⟩:=h;cases rx;obtain⟨its,r,ht,hz⟩:=I.tuple hx;have hlen:its.toArray.size=xs.length:=by rw[List.size_toArray];exact r.length.symm
 refine⟨"tuple",_,PyProof.Rows.slot_tuple_getitem.lookup,ht.typeIs,?_⟩;by_cases hw:HT.sIx xs.length 0 lo=0∧HT.sIx xs.length xs.length hi=xs.length
 ·exact HT.getItem_tuple_whole ht hs pl pu (by rw[hlen];exact hw) ⟨.ref a,H,I,rfl,q1 hw⟩
 ·refine HT.getItem_tuple_cut ht hs pl pu (by rw[hlen];exact hw) ?_ (by rw[hlen];exact hz);rw[hlen];have hf:H s.heap.objs.size=none:=I.hok.fresh (Nat.le_refl _);refine⟨.ref s.heap.objs.size,_,I.laid (t':=s.toks) (o:=.tup (cutV xs lo hi)) (fun b ob q=>Heap.get?_push_of_some _ q) (Nat.le_refl _) ?_,rfl,q2 hw _ hf⟩;exact⟨Nat.le_trans (cutV_length xs lo hi) hz,_,(r.drop (HT.sIx xs.length 0 lo)).take (HT.sIx xs.length xs.length hi-HT.sIx xs.length 0 lo),IsTup.new _ _⟩
theorem sl_tup1K (K:PySem.W.Frag)(h:X.K=K:=by rfl):SlR X (rSlT1 K):=by subst h;exact sl_tup1
end
end L2
end
section
namespace L2
open PySem PySem.Spec PyProof.Rows
section
variable {X:Cx}
def rCatT1 (K:PySem.W.Frag):R2:=fun x y H Q=>∃ a b xs ys,x=.ref a∧y=.ref b∧SqT K H a xs∧SqT K H b ys∧xs.length+ys.length≤sizeLine ∧
 (xs=[]→Q (.ref b) H)∧(xs≠[]→ys=[]→Q (.ref a) H)∧(xs≠[]→ys≠[]→∀ p,H p=none→Q (.ref p) (upd H p (.tup (xs++ys))))
theorem op_catT1:OpR X (binaryOp .Add) (rCatT1 X.K):=by
 intro pins s σ H x y v u Q I rx ry h;obtain⟨a,b,xs,ys,rfl,rfl,ha,hb,hz,q1,q2,q3⟩:=h;cases rx;cases ry;obtain⟨its,r1,p1,_⟩:=I.tuple ha;obtain⟨its2,r2,p2,_⟩:=I.tuple hb;by_cases hx:xs=[]
 ·have hi:its=[]:=r1.nil_iff.mpr hx;subst hi;obtain⟨⟨cls,dd,data,sl⟩,ho,hc,n,hd⟩:=id p1;obtain⟨⟨cls2,dd2,data2,sl2⟩,ho2,hc2,n2,hd2⟩:=id p2;simp only at hc hd hc2 hd2;subst hc hd hc2 hd2;exact concat_meets ⟨_,ho,rfl⟩ ⟨_,ho2,rfl⟩ noFill_tuple_add seq_tuple_add PySem.F.slot_tuple_add PySem.F.entry_tuple_add (PySem.F.args_tuple_add_2 _ _)
   (tuple_addW0 _ _ _ _ _ _ _ _ _ _ (by simp)) ⟨ho,ho2,⟨.ref b,H,I,rfl,q1 hx⟩⟩
 ·refine HT.cat_tup p1 p2 (fun z=>hx (r1.nil_iff.mp z)) (fun z=>⟨.ref a,H,I,rfl,q2 hx (r2.nil_iff.mp z)⟩) (fun z=>?_) (by rw[← r1.length,← r2.length];exact hz);refine⟨.ref s.heap.objs.size,_,I.laid (t':=s.toks) (o:=.tup (xs++ys)) (fun b ob q=>Heap.get?_push_of_some _ q) (Nat.le_refl _) ?_,rfl,q3 hx (fun w=>z (r2.nil_iff.mpr w)) _ (I.hok.fresh (Nat.le_refl _))⟩;exact⟨by rw[List.length_append];exact hz,_,r1.append r2,IsTup.new _ _⟩
theorem catT1K (K:PySem.W.Frag)(h:X.K=K:=by rfl):OpR X (binaryOp .Add) (rCatT1 K):=by subst h;exact op_catT1
end
end L2
end
section
namespace L2
open PySem PySem.Spec PyProof.Rows
open Classical in
noncomputable def hid (A:Addr→Prop)(H:Hp):Hp:=fun a=>if A a then none else H a
def Av (A:Addr→Prop)(H:Hp):Prop:=∀ a,A a→∃ ys,H a=some (.lst ys)
section
variable {A:Addr→Prop}{d p:Addr}{H H':Hp}
theorem hid_ne {a:Addr}(h:¬ A a):hid A H a=H a:=if_neg h
theorem hid_in:Same (hid A H) H:=fun a o h=>by
 unfold hid at h;split at h
 ·cases h
 ·exact h
theorem hid_of (h:∀ b o,¬ A b→H b=some o→H' b=some o):Same (hid A H) (hid A H'):=fun a o e=>by
 by_cases z:A a
 ·unfold hid at e;rw[if_pos z] at e;cases e
 ·rw[hid_ne z] at e ⊢;exact h a o z e
theorem Kp.hid (k:Kp d H H')(hA:A d):Same (hid A H) (hid A H'):=hid_of fun b o n h=>k b o (fun e=>n (e ▸ hA)) h
theorem Same.hid (s:Same H H'):Same (hid A H) (hid A H'):=hid_of fun b o _ h=>s b o h
theorem hid_upd {o:HO}(hA:A p):Same (L2.hid A H) (L2.hid A (upd H p o)):=hid_of fun b o' n h=>by rw[upd_ne (show b≠p from fun e=>n (e ▸ hA))];exact h
theorem Av.same (h:Av A H)(s:Same H H'):Av A H':=fun a ha=>let ⟨ys,e⟩:=h a ha;⟨ys,s _ _ e⟩
theorem Av.kp (h:Av A H)(k:Kp d H H')(hd:DkAt H' d):Av A H':=fun a ha=>by
 by_cases e:a=d
 ·obtain⟨ds,e2,_⟩:=hd;exact⟨_,by rw[e];exact e2⟩
 ·obtain⟨ys,e2⟩:=h a ha;exact⟨ys,k _ _ e e2⟩
theorem Av.upd {ys:List V}(h:Av A H):Av A (upd H p (.lst ys)):=fun a ha=>by
 by_cases e:a=p
 ·exact⟨ys,by rw[e,upd_same]⟩
 ·rw[upd_ne e];exact h a ha
theorem Av.new (h:Av A H)(hp:H p=none):¬ A p:=fun e=>let ⟨_,z⟩:=h p e;by rw[hp] at z;cases z
theorem Av.tup (h:Av A H){xs:List V}(hp:H p=some (.tup xs)):¬ A p:=fun e=>let ⟨_,z⟩:=h p e;by rw[hp] at z;cases z
end
section
variable {X:Cx}{A:Addr→Prop}{P:St→Hp→Prop}{c k m m' n:Nat}{e:Expr}{es:List Expr}{te:TE}{j:Option Str}{pos p2:Pos}
theorem ps_setL {i:Nat}{x:Str}{t:TA}{pos':Pos}(hN:X.N.Nodup)(hi:X.N[i]?=some x)(hx:Loc X.env.scope x)(he:PA X es t)(hf:X.fn x=true∨X.env.scope.names.lookup x=some .local) :
  PS X (.Assign [.Name x pos'] (.List es p2) pos) (tAsg (tLst t) (gName i)):=ps_set hN hi hx (pe_lst he) rfl hf
theorem ps_setB {i:Nat}{x:Str}{a b:Expr}{o:Operator}{te:TE}{pos':Pos}(hN:X.N.Nodup)(hi:X.N[i]?=some x)(hx:Loc X.env.scope x)(he:PE X (.BinOp a o b p2) te)(hf:X.fn x=true∨X.env.scope.names.lookup x=some .local) :
  PS X (.Assign [.Name x pos'] (.BinOp a o b p2) pos) (tAsg te (gName i)):=ps_set hN hi hx he rfl hf
end
theorem sm_small {i:Int}(h0:0≤i)(h1:i<1000):Sm i:=sm_of (Nat.lt_trans (show i.natAbs<1000 by omega) (by decide))
def rCatX (K:PySem.W.Frag):R2:=fun x y H Q=>rCatT1 K x y H Q
theorem catXK {X:Cx}(K:PySem.W.Frag)(h:X.K=K:=by rfl):OpR X (binaryOp .Add) (rCatX K):=catT1K K h
theorem catX_use {K:PySem.W.Frag}{H:Hp}{a b:Addr}{xs ys:List V}{Q:VK}(ha:H a=some (.tup xs))(hb:H b=some (.tup ys))(hz:xs.length+ys.length≤10000)(q:∀ p H',Same H H'→H' p=some (.tup (xs++ys))→Q (.ref p) H'):rCatX K (.ref a) (.ref b) H Q:=by
 refine⟨a,b,xs,ys,rfl,rfl,SqT.of ha,SqT.of hb,Nat.le_of_lt (sizeBig (by omega)),fun e=>?_,fun _ e=>?_,fun _ _ p np=>q p _ ((Same.refl H).upd np) upd_same⟩
 ·subst e;exact q b H (Same.refl H) hb
 ·subst e;exact q a H (Same.refl H) (by rw[List.append_nil];exact ha)
def rSlX (K:PySem.W.Frag):V→Option Int→Option Int→Hp→VK→Prop:=fun x lo hi H Q=>rSlT1 K x lo hi H Q
theorem slXK {X:Cx}(K:PySem.W.Frag)(h:X.K=K:=by rfl):SlR X (rSlX K):=sl_tup1K K h
theorem slX_use {K:PySem.W.Frag}{H:Hp}{a:Addr}{xs:List V}{lo hi:Option Int}{Q:VK}(ha:H a=some (.tup xs))(q:∀ p H',Same H H'→H' p=some (.tup (cutV xs lo hi))→Q (.ref p) H'):rSlX K (.ref a) lo hi H Q:=by
 refine⟨a,xs,rfl,SqT.of ha,fun e=>q a H (Same.refl H) ?_,fun _ p np=>q p _ ((Same.refl H).upd np) upd_same⟩;have:cutV xs lo hi=xs:=by
  unfold cutV;rw[e.1,e.2,List.drop_zero,Nat.sub_zero,List.take_length]
 rw[this];exact ha
def TiE (H:Hp)(ps:List (Addr×List Int)):Prop:=∀ x∈ps,∃ i j:Int,x.2=[i,j]∧H x.1=some (.tup [.int i,.int j])∧0≤i∧i<70∧0≤j∧j<70
theorem TiE.tp {H H':Hp}{ps:List (Addr×List Int)}(h:TiE H ps)(t:Tp H H'):TiE H' ps:=fun x hx=>by
 obtain⟨i,j,e1,e2,h⟩:=h x hx;exact⟨i,j,e1,t _ _ e2,h⟩
theorem TiE.app {H:Hp}{ps qs:List (Addr×List Int)}(h:TiE H ps)(h':TiE H qs):TiE H (ps++qs):=fun x hx=>(List.mem_append.mp hx).elim (h x) (h' x)
theorem TiE.sub {H:Hp}{ps qs:List (Addr×List Int)}(h:TiE H ps)(h':∀ x∈qs,x∈ps):TiE H qs:=fun x hx=>h x (h' x hx)
theorem PsAt.tiE {H:Hp}{n:Int}{ps:List (Addr×List Int)}{ts:List (Int×Int)}(h:PsAt H ps ts)(hok:TsOk n ts)(hn:n≤60):TiE H ps:=fun x hx=>by
 have:x.2∈ts.map tl:=h.eq ▸ List.mem_map_of_mem hx;obtain⟨t,ht,e⟩:=List.mem_map.mp this;have h1:=h.to x hx;rw[← e] at h1;have:=hok t ht;exact⟨t.1,t.2,e.symm,h1,by omega,by omega,by omega,by omega⟩
theorem TiE.src {K:PySem.W.Frag}{H:Hp}{p:Addr}{ps:List (Addr×List Int)}(h:TiE H ps)(e:H p=some (.tup (ps.map fun x=>V.ref x.1)))(hl:ps.length<64:=by omega):SrcT K H p ps:=⟨.inr (SqT.of e),fun x hx=>by
 obtain⟨i,j,e1,e2,_⟩:=h x hx
 exact⟨by rw[e1];exact e2,by rw[e1];simp⟩,hl⟩
theorem tie_tg {A:Addr→Prop}{H:Hp}{a:Addr}{i j:Int}{c:Nat}(e:H a=some (.tup [.int i,.int j]))(hd:Av A H)(h:0≤i∧i<70∧0≤j∧j<70):Tg (hid A H) c 1 2 (.ref a):=by
 have:=Tg.tup (H:=hid A H) (c:=c) (k:=0) (m:=0) (a:=a) (xs:=[.int i,.int j]) (by rw[hid_ne (hd.tup e)];exact e) fun x hx=>by
  simp only[List.mem_cons,List.not_mem_nil,or_false] at hx;rcases hx with rfl | rfl
  ·exact .int (sm_small h.1 (by omega))
  ·exact .int (sm_small h.2.2.1 (by omega))
 exact this.mono (Nat.le_refl _) (show 2*(0+1)≤2 by decide)
theorem TiE.tg {A:Addr→Prop}{H:Hp}{ps:List (Addr×List Int)}{c:Nat}(h:TiE H ps)(hd:Av A H):∀ v∈ps.map (fun x=>V.ref x.1),Tg (hid A H) c 1 2 v:=fun v hv=>by
 obtain⟨x,hx,rfl⟩:=List.mem_map.mp hv;obtain⟨i,j,_,e,h⟩:=h x hx;exact tie_tg e hd h
theorem Tg.len {H:Hp}{c k m:Nat}{a:Addr}{xs:List V}(h:Tg H c k m (.ref a))(e:H a=some (.tup xs)):xs.length≤m:=by
 obtain⟨D,hD,hN⟩:=h;cases hD with
 | sc h=>cases h
 | @tup _ ys ds e2 hs =>
  rw[e] at e2;cases e2;have h1:=hN.bk;rw[PyData.bulk] at h1;refine Nat.le_trans ?_ h1;clear hN h1 e;have:∀ {xs:List V} {ds:List PyData},Dds H xs ds→xs.length≤PyData.bulkAll ds:=fun {xs}=>by
   induction xs with
   | nil=>exact fun _=>Nat.zero_le _
   | cons x r ih =>
    intro ds h;cases h with
    | cons _ t =>
     have:=ih t;rw[List.length_cons,PyData.bulkAll];omega
  exact this hs
 | lst e2 _=>rw[e] at e2;cases e2
 | dct e2 _=>rw[e] at e2;cases e2
 | dc1 e2 _ _=>rw[e] at e2;cases e2
theorem cutX {α:Type}(f:α→V)(l:List α)(lo hi:Option Int):∃ l':List α,cutV (l.map f) lo hi=l'.map f∧(∀ x∈l',x∈l)∧l'.length≤l.length:=by
 unfold cutV;refine⟨(l.drop (HT.sIx (l.map f).length 0 lo)).take (HT.sIx (l.map f).length (l.map f).length hi-HT.sIx (l.map f).length 0 lo),?_,fun x hx=>List.mem_of_mem_drop (List.mem_of_mem_take hx),?_⟩
 ·rw[List.map_take,List.map_drop]
 ·rw[List.length_take,List.length_drop];omega
theorem at_in {xs:List V}{k:Int}(h0:0≤k)(h1:k<xs.length):∃ v∈xs,atI xs k=some v:=by
 obtain⟨j,rfl⟩:∃ j:Nat,k=j:=⟨_,(Int.toNat_of_nonneg h0).symm⟩
 have h3:j<xs.length:=by omega
 exact⟨xs[j],List.getElem_mem _,atI_nat (List.getElem?_eq_getElem h3)⟩
theorem pick_mod {xs:List V}(h:0<xs.length)(z:Int):∃ v∈xs,atI xs (z % (xs.length:Int))=some v:=by
 have h1:=Int.emod_nonneg z (b:=(xs.length:Int)) (by omega);have h2:=Int.emod_lt_of_pos z (b:=(xs.length:Int)) (by omega);obtain⟨k,hk⟩:∃ k:Nat,z % (xs.length:Int)=k:=⟨_,(Int.toNat_of_nonneg h1).symm⟩
 rw[hk];have h3:k<xs.length:=by omega
 exact⟨xs[k],List.getElem_mem _,atI_nat (List.getElem?_eq_getElem h3)⟩
end L2
end
section
namespace L2
open PySem
section
variable {n:Int}{ts us:List (Int×Int)}
theorem IsTree.web (T:IsTree n ts us)(hw:IsWeb n ts):IsWeb n us:=by
 have hok:=T.ok hw.rng;have hl:=T.len;have h60:=hw.n60;have h3:=hw.n3;refine⟨h3,h60,hok,T.srt,by omega,fun S hS u v u0 u1 v0 v1 hu=>?_⟩;obtain⟨par,rank,R⟩:=T.rooted hw.rng u0 u1;have key:∀ (m:Nat) (x:Int),rank x≤m→0≤x→x<n→S x:=by
  intro m;induction m with
  | zero =>
   intro x hx x0 x1;by_cases hxu:x=u
   ·rw[hxu];exact hu
   ·have:=(R.up x x0 x1 hxu).2.2.1;omega
  | succ m ih =>
   intro x hx x0 x1;by_cases hxu:x=u
   ·rw[hxu];exact hu
   ·obtain⟨q0,q1,q2,q3⟩:=R.up x x0 x1 hxu;have hp:=ih (par x) (by omega) q0 q1;rcases (mem_nb_iff hok).mp q3 with h | h
    ·exact (hS _ h).mpr hp
    ·exact (hS _ h).mp hp
 exact key (rank v) v (Nat.le_refl _) v0 v1
theorem IsWeb.reach (hw:IsWeb n us){u x:Int}(u0:0≤u)(u1:u<n)(x0:0≤x)(x1:x<n):Rch us (·∈rInts 0 n.toNat) u x:=by
 refine hw.conn (fun y=>Rch us (·∈rInts 0 n.toNat) u y) (fun t ht=>?_) u x u0 u1 x0 x1 .base;obtain⟨h0,h1,h2⟩:=hw.rng t ht;have e:t.2∈nb us t.1:=mem_nb.mpr (.inl ht);exact⟨fun h=>h.step e (mem_rInts.mpr ⟨by omega,by omega⟩),fun h=>h.step ((nb_sym hw.rng).mp e) (mem_rInts.mpr ⟨by omega,by omega⟩)⟩
theorem IsWeb.onelot (hw:IsWeb n us):lots n us (rInts 0 n.toNat) (rInts 0 n.toNat)=[rInts 0 n.toNat]:=by
 have h3:=hw.n3;have hpc:∀ u,0≤u→u<n→pcOf n us (rInts 0 n.toNat) u=rInts 0 n.toNat:=fun u u0 u1=>by
  refine rising_ext pcOf_lt (rInts_lt _) fun x=>?_
  rw[mem_pc hw.rng u0 u1,mem_rInts];constructor
  ·intro h;have:=h.rng hw.rng u0 u1;omega
  ·intro h;exact hw.reach u0 u1 h.1 (by omega)
 have gen:∀ vs:List Int,(∀ v∈vs,0≤v∧v<n)→vs.foldl (lotsStep (pcOf n us (rInts 0 n.toNat))) [rInts 0 n.toNat]=[rInts 0 n.toNat]:=by
  intro vs;induction vs with
  | nil=>intro _;rfl
  | cons v r ih =>
   intro h;obtain⟨v0,v1⟩:=h v (List.mem_cons_self ..);rw[List.foldl_cons];have:lotsStep (pcOf n us (rInts 0 n.toNat)) [rInts 0 n.toNat] v=[rInts 0 n.toNat]:=by
    unfold lotsStep;rw[if_pos ((any_iff _ _).mpr ⟨_,List.mem_singleton.mpr rfl,mem_rInts.mpr ⟨v0,by omega⟩⟩)]
   rw[this];exact ih fun x hx=>h x (List.mem_cons_of_mem _ hx)
 obtain⟨m,hm⟩:∃ m,n.toNat=m+1:=⟨n.toNat-1,by omega⟩
 have hcons:rInts 0 n.toNat=0::(rInts 0 n.toNat).tail:=by
  rw[hm];unfold rInts;rw[List.range_succ_eq_map];rfl
 unfold lots;rw[show (rInts 0 n.toNat).foldl (lotsStep (pcOf n us (rInts 0 n.toNat))) []=(0::(rInts 0 n.toNat).tail).foldl (lotsStep (pcOf n us (rInts 0 n.toNat))) [] by rw[← hcons],List.foldl_cons];have h0:lotsStep (pcOf n us (rInts 0 n.toNat)) [] 0=[rInts 0 n.toNat]:=by
  unfold lotsStep;rw[if_neg (by simp),hpc 0 (by decide) (by omega)];rfl
 rw[h0];refine gen _ fun v hv=>?_
 have:v∈rInts 0 n.toNat:=List.mem_of_mem_tail hv;have:=mem_rInts.mp this;omega
end
theorem val_kvT (fs:List (Int×Int))(t:Int×Int):(valV (kvT fs) [Sum.inl t.1,Sum.inl t.2]).isSome=decide (t∈fs):=by
 induction fs with
 | nil=>rfl
 | cons a r ih =>
  have hk:(([Sum.inl a.1,Sum.inl a.2]:List Key)=[Sum.inl t.1,Sum.inl t.2])↔a=t:=by
   constructor
   ·intro e;injection e with e1 e2
    injection e2 with e2 _
    injection e1 with e1
    injection e2 with e2
    cases a;cases t;simp at e1 e2;rw[e1,e2]
   ·intro e;rw[e]
  show (valV (([Sum.inl a.1,Sum.inl a.2],V.bl true)::kvT r) [Sum.inl t.1,Sum.inl t.2]).isSome=_;by_cases h:a=t
  ·rw[valV_pos (hk.mpr h)];subst h;simp
  ·rw[valV_neg (fun e=>h (hk.mp e)),ih];have:t≠a:=fun e=>h e.symm
   simp[this]
end L2
end
section
namespace L2
open PySem
section
variable {n g:Int}{us ts:List (Int×Int)}{par:Int→Int}{rank:Int→Nat}
theorem lex_ext {l l':List (Int×Int)}(h:l.Pairwise Lex)(h':l'.Pairwise Lex)(e:∀ x,x∈l↔x∈l'):l=l':=by
 have nd:∀ {m:List (Int×Int)},m.Pairwise Lex→m.Nodup:=fun hm=>hm.imp fun {a b} hab e'=>by subst e';unfold Lex at hab;omega
 refine List.Perm.eq_of_pairwise (le:=Lex) (fun a b _ _ x y=>by unfold Lex at x y;omega) h h' ?_;exact (List.perm_ext_iff_of_nodup (nd h) (nd h')).mpr e
end
def dV:V→PyData
 | .int i=>.int i
 | _=>.none
end L2
end
section
namespace L2
open PySem PySem.Spec PyProof.Rows
theorem bools_getF:∀ {bs:List Bool} {us:List Value},Vals (bs.map V.bl) us→∀ (i:Nat) (v:Value),us[i]?=some v→v=Value.bool (bs.getD i false)
 | [],_,.nil,i,v,h=>by simp at h
 | b::r,_,.cons q t,0,v,h=>by simp at h;subst h;exact q
 | b::r,_,.cons q t,i+1,v,h=>by simp at h;exact bools_getF t i v h
theorem range_any (bs:List Bool):(List.range bs.length).any (fun i=>bs.getD i false)=bs.any id:=by
 induction bs with
 | nil=>rfl
 | cons b r ih =>
  rw[List.length_cons,List.range_succ_eq_map,List.any_cons,List.any_map,List.any_cons];congr 1
section
variable {X:Cx}
def cAny (K:PySem.W.Frag):List V→Hp→VK→Prop:=fun xs H Q=>∃ (p:Addr) (bs:List Bool),xs=[.ref p]∧SqL K H p (bs.map V.bl)∧Q (.bl (bs.any id)) H
theorem call_anyB (hh:X.A.handled=none):CallR X (.builtin "any") (cAny X.K):=by
 intro pins s σ H xs us Q I r h;obtain⟨p,bs,rfl,hq,q⟩:=h;obtain⟨u,rfl,ru⟩:=vals1 r;cases ru;obtain⟨its,rv,pl,hz⟩:=I.list hq;have hl:s.heap.IsList p its.toArray:=pl.isList;have hlen:its.length=bs.length:=by rw[← rv.length,List.length_map]
 refine call_any_walk (wpAny_pyIter_list hl ?_);have hpu:∀ b o,s.heap.get? b=some o→(s.heap.push {cls:=.type "list_iterator",data:=.fields #[.ref p,.int 0 0]}).get? b=some o:=fun b o e=>Heap.get?_push_of_some _ e
 have hne:p≠s.heap.objs.size:=by
  obtain⟨o,ho,_⟩:=hl;exact Nat.ne_of_lt (Heap.lt_size ho)
 refine⟨_,_,_,_,_,_,fun i=>bs.getD i false,rfl,Walks.list (prog:=X.prog) (w:=X.w) (A:=X.A.in1) hh s.heap.objs.size p hne its.toArray,⟨⟨_,Heap.get?_push_size _ rfl,rfl,rfl⟩,hl.at fun o e=>hpu _ _ e⟩,?_,?_⟩
 ·intro i v s' Q' E' hP hQ;have:v=Value.bool (bs.getD i false):=bools_getF rv i v (by simpa using hP);subst this;exact wpAny_truthy_bool hQ
 ·intro h' tk hk;have e:(List.range its.toArray.size).any (fun i=>bs.getD i false)=bs.any id:=by rw[List.size_toArray,hlen];exact range_any bs
  rw[e];refine⟨.bl _,H,I.kept fun b o eb=>hk b o (fun hm=>?_) (hpu b o eb),rfl,q⟩;rw[List.mem_singleton.mp hm] at eb;exact absurd (Heap.lt_size eb) (Nat.lt_irrefl _)
theorem anyK (K:PySem.W.Frag)(hh:X.A.handled=none)(h:X.K=K:=by rfl):CallR X (.builtin "any") (cAny K):=by subst h;exact call_anyB hh
theorem boot_anyB:bootBuiltins "any"=some (.builtin "any"):=by decide +kernel
end
def iAny (K:PySem.W.Frag)(tl:TE):TI:=fun σ H R=>tl σ H fun x H1=>∃ a,x=.ref a∧(((∃ xs,SqL K H1 a xs)∧R (Itl K a) H1)∨((∃ xs,SqT K H1 a xs)∧R (Itt K a) H1))
theorem pi_anyK {X:Cx}{tg l:Expr}{tl:TE}(K:PySem.W.Frag)(hl:PE X l tl)(h:X.K=K:=by rfl):PI X tg l (iAny K tl):=by
 subst h;intro pins s σ H R I h;refine thn (hl pins s σ H _ I h) fun v s1 ⟨x,H1,I1,r1,q1⟩=>?_
 obtain⟨a,e,⟨⟨xs,hq⟩,q⟩ | ⟨⟨xs,hq⟩,q⟩⟩:=q1
 ·subst e;cases r1;obtain⟨its,rv,p,hz⟩:=I1.list hq;refine wpAny_pyIter_list p.isList ?_;refine⟨s1.heap.objs.size,[s1.heap.objs.size],_,_,H1,rfl,I1.kept (t':=s1.toks) fun b o e=>Heap.get?_push_of_some _ e,turn_list a _,⟨_,Heap.get?_push_size _ rfl,rfl,rfl⟩,fun b hb=>?_,q⟩;have e:b=s1.heap.objs.size:=by simpa using hb
  subst e;exact I1.fpOk (Nat.le_refl _) (I1.hok.fresh (Nat.le_refl _))
 ·subst e;cases r1;obtain⟨its,rv,p,hz⟩:=I1.tuple hq;refine wpAny_pyIter_tuple (show s1.heap.IsTuple a its.toArray from p) ?_;refine⟨s1.heap.objs.size,[s1.heap.objs.size],_,_,H1,rfl,I1.kept (t':=s1.toks) fun b o e=>Heap.get?_push_of_some _ e,turn_tuple a _,⟨_,Heap.get?_push_size _ rfl,rfl,rfl⟩,fun b hb=>?_,q⟩;have e:b=s1.heap.objs.size:=by simpa using hb
  subst e;exact I1.fpOk (Nat.le_refl _) (I1.hok.fresh (Nat.le_refl _))
def ForJ (g:TG)(tb:TS)(D:Ends)(σ:St)(J:It)(H1:Hp):Prop:=tFor (fun _ H R=>R J H) g tb D σ H1
theorem tFor_eq {wi:TI}{g:TG}{tb:TS}{D:Ends}{σ:St}{H:Hp}:tFor wi g tb D σ H=wi σ H (fun J H1=>ForJ g tb D σ J H1):=rfl
end L2
end
section
namespace L2
open PySem
section
variable {n:Int}{ts:List (Int×Int)}{A B:Int→Prop}{u v x:Int}
theorem Rch.tr (h:Rch ts A u v)(k:Rch ts A v x):Rch ts A u x:=by
 induction k with
 | base=>exact h
 | step _ hy ha ih=>exact .step ih hy ha
theorem Rch.mono' (h:Rch ts A u x)(k:∀ y,A y→B y):Rch ts B u x:=by
 induction h with
 | base=>exact .base
 | step _ hy ha ih=>exact .step ih hy (k _ ha)
theorem Rch.sy (hok:TsOk n ts)(h:Rch ts A u x)(ha:A u):Rch ts A x u:=by
 induction h with
 | base=>exact .base
 | @step y z k hz az ih =>
  have ay:A y:=k.mem ha;exact Rch.tr (.step .base ((nb_sym hok).mp hz) ay) ih
end
def Hng (ts:List (Int×Int))(us:List Int):Prop:=us≠[]∧∀ x∈us,∀ y∈us,Rch ts (·∈us) x y
def Busy (n:Int)(ts:List (Int×Int))(us:List Int):Prop:=Hng ts us∧∀ x,0≤x→x<n→x∉us→∃ y∈nb ts x,y∈us
theorem hng_of {n:Int}{ts:List (Int×Int)}{us:List Int}{u:Int}(hok:TsOk n ts)(hu:u∈us)(h:∀ y∈us,Rch ts (·∈us) u y):Hng ts us :=
 ⟨fun e=>(by rw[e] at hu;cases hu),fun x hx y hy=>((h x hx).sy hok hu).tr (h y hy)⟩
theorem nd_all {us l:List Int}(hnd:us.Nodup)(hs:us ⊆ l)(hl:l.length≤us.length)(hl2:l.Nodup):∀ x∈l,x∈us:=by
 intro x hx;refine Classical.byContradiction fun hn=>?_
 have h1:(x::us).Nodup:=List.nodup_cons.mpr ⟨hn,hnd⟩;have h2:(x::us) ⊆ l:=fun y hy=>by
  rcases List.mem_cons.mp hy with rfl | hy
  ·exact hx
  ·exact hs hy
 have:=nd_sub h1 h2;rw[List.length_cons] at this;omega
end L2
end
section
namespace L2
open PySem
structure TB where
 vs:List Int
 ws:List Int
 par:Int→Int
end L2
end
section
namespace L2
open PySem
section
variable {n:Int}{ts gs us:List (Int×Int)}{ins:List Int}
theorem dg_add {a b:Int}(hab:a≠b)(v:Int):(nb (gs++[mm a b]) v).length=(nb gs v).length+if v=a∨v=b then 1 else 0:=by
 rw[nb_snoc,List.length_append];congr 1;rcases mm_cases hab with ⟨_,e⟩ | ⟨_,e⟩
 ·rw[e];dsimp only;by_cases h1:b=v
  ·rw[if_pos h1,if_pos (.inr h1.symm)];rfl
  ·rw[if_neg h1];by_cases h2:a=v
   ·rw[if_pos h2,if_pos (.inl h2.symm)];rfl
   ·rw[if_neg h2,if_neg (fun h=>h.elim (fun z=>h2 z.symm) fun z=>h1 z.symm)];rfl
 ·rw[e];dsimp only;by_cases h1:a=v
  ·rw[if_pos h1,if_pos (.inl h1.symm)];rfl
  ·rw[if_neg h1];by_cases h2:b=v
   ·rw[if_pos h2,if_pos (.inr h2.symm)];rfl
   ·rw[if_neg h2,if_neg (fun h=>h.elim (fun z=>h1 z.symm) fun z=>h2 z.symm)];rfl
theorem dg_out (G:Grow ts ins gs){b:Int}(hb:b∉ins):(nb gs b).length=0:=by
 rw[List.length_eq_zero_iff];refine List.eq_nil_iff_forall_not_mem.mpr fun y hy=>?_
 rcases mem_nb.mp hy with q | ⟨q,_⟩
 ·exact hb (G.ends _ q).1
 ·exact hb (G.ends _ q).2
theorem Busy.more {us vs:List Int}(hok:TsOk n ts)(h:Busy n ts us)(hs:∀ x∈us,x∈vs)(hr:∀ x∈vs,0≤x∧x<n):Busy n ts vs:=by
 obtain⟨u,hu⟩:=List.exists_mem_of_ne_nil us h.1.1;refine⟨hng_of hok (hs u hu) fun y hy=>?_,fun x x0 x1 hx=>?_⟩
 ·by_cases hyu:y∈us
  ·exact (h.1.2 u hu y hyu).mono' hs
  ·obtain⟨z,hz,hzu⟩:=h.2 y (hr y hy).1 (hr y hy).2 hyu;exact .step ((h.1.2 u hu z hzu).mono' hs) ((nb_sym hok).mp hz) hy
 ·obtain⟨y,hy,hyu⟩:=h.2 x x0 x1 fun k=>hx (hs x k)
  exact⟨y,hy,hs y hyu⟩
end
end L2
end
section
namespace L2
open PySem
theorem nd_subP {α:Type}[DecidableEq α]:∀ {us l:List α},us.Nodup→us ⊆ l→us.length≤l.length
 | [],_,_,_=>Nat.zero_le _
 | x::r,l,hn,hs=>by
  have hx:x∈l:=hs (List.mem_cons_self ..);have h1:=List.nodup_cons.mp hn;have h2:=nd_subP (us:=r) (l:=l.erase x) h1.2 fun y hy=>(List.mem_erase_of_ne fun (e:y=x)=>h1.1 (e ▸ hy)).mpr (hs (List.mem_cons_of_mem _ hy))
  rw[List.length_erase_of_mem hx] at h2;have:=List.length_pos_of_mem hx;rw[List.length_cons];omega
theorem nd_allP {α:Type}[DecidableEq α]{us l:List α}(hnd:us.Nodup)(hs:us ⊆ l)(hl:l.length≤us.length):∀ x∈l,x∈us:=by
 intro x hx;refine Classical.byContradiction fun hn=>?_
 have:=nd_subP (us:=x::us) (l:=l) (List.nodup_cons.mpr ⟨hn,hnd⟩) fun y hy=>by
  rcases List.mem_cons.mp hy with rfl | hy
  ·exact hx
  ·exact hs hy
 rw[List.length_cons] at this;omega
theorem lex_nd {A:List (Int×Int)}(h:A.Pairwise Lex):A.Nodup:=h.imp fun {x y} hl e=>by
 rw[e] at hl;rcases hl with h | h<;>omega
section
variable {n:Int}{ts T T' T'':List (Int×Int)}{put taken:Int×Int}
theorem hng_conn (hok:TsOk n T)(h:Hng T (rInts 0 n.toNat)):∀ S:Int→Prop,(∀ t∈T,S t.1↔S t.2)→∀ u v,0≤u→u<n→0≤v→v<n→S u→S v:=by
 intro S hS u v u0 u1 v0 v1 su;have r:=h.2 u (mem_rInts.mpr ⟨u0,by omega⟩) v (mem_rInts.mpr ⟨v0,by omega⟩);induction r with
 | base=>exact su
 | @step y x r hx _ ih =>
  have hy:=r.rng hok u0 u1;have sy:=ih hy.1 hy.2;rcases (mem_nb_iff hok).mp hx with h | h
  ·exact (hS _ h).mp sy
  ·exact (hS _ h).mpr sy
theorem web_tree (hw:IsWeb n ts):∃ ins gs,Grow ts ins gs∧(ins.length:Int)=n∧∀ x∈ins,0≤x∧x<n:=by
 have h3:=hw.n3;have:∀ k:Nat,(k:Int)+1≤n→∃ ins gs,Grow ts ins gs∧ins.length=k+1∧∀ x∈ins,0≤x∧x<n:=by
  intro k;induction k with
  | zero=>exact fun _=>⟨[0],[],.one 0,rfl,fun x hx=>by rw[List.mem_singleton.mp hx];omega⟩
  | succ k ih =>
   intro hk;obtain⟨ins,gs,g,hl,hr⟩:=ih (by omega);obtain⟨a,ha,b,hb,hn⟩:=g.open hw hr (by omega);refine⟨_,_,.add g ha hn hb,by rw[List.length_append,hl];rfl,fun x hx=>?_⟩;rcases List.mem_append.mp hx with hx | hx
   ·exact hr x hx
   ·rw[List.mem_singleton.mp hx];have:=nb_rng hw.rng hb;omega
 obtain⟨ins,gs,g,hl,hr⟩:=this (n.toNat-1) (by omega);exact⟨ins,gs,g,by omega,hr⟩
theorem nb_mono (hok:TsOk n ts)(hs:∀ t∈T,t∈ts){a b:Int}(h:b∈nb T a):b∈nb ts a:=by
 have hT:TsOk n T:=fun t ht=>hok t (hs t ht)
 rw[mem_nb_iff hok];exact ((mem_nb_iff hT).mp h).imp (hs _) (hs _)
theorem Grow.mono {ins:List Int}{gs:List (Int×Int)}(g:Grow T ins gs)(hok:TsOk n ts)(hs:∀ t∈T,t∈ts):Grow ts ins gs:=by
 induction g with
 | one s=>exact .one s
 | add _ ha hb hn ih=>exact .add ih ha hb (nb_mono hok hs hn)
theorem conn_tree (hw:IsWeb n ts)(hs:∀ t∈T,t∈ts)(hx:T.Pairwise Lex)(hl:(T.length:Int)+1=n)(hh:Hng T (rInts 0 n.toNat)):IsTree n ts T:=by
 have hT:TsOk n T:=fun t ht=>hw.rng t (hs t ht)
 have w:IsWeb n T:=⟨hw.n3,hw.n60,hT,hx,by have:=hw.n60;omega,hng_conn hT hh⟩
 obtain⟨ins,gs,g,hi,hr⟩:=web_tree w;have hg:=g.len;refine⟨⟨ins,gs,g.mono hw.rng hs,?_,hi,hr⟩,hx,hs⟩;refine (List.perm_ext_iff_of_nodup (lex_nd hx) g.tnd).mpr fun x=>⟨nd_allP g.tnd (g.sub hT) (by omega) x,g.sub hT x⟩
end
end L2
end
section
namespace L2
open PySem
section
variable {n:Int}{ts:List (Int×Int)}{us bs:List Int}
theorem lots_all (hok:TsOk n ts)(hr:∀ x∈us,0≤x∧x<n)(vs:List Int)(hv:∀ v∈vs,v∈us):∀ v∈vs,inAny (lots n ts us vs) v:=by
 have gen:∀ (vs:List Int) (acc:List (List Int)),(∀ v∈vs,v∈us)→(∀ x,inAny acc x→inAny (vs.foldl (lotsStep (pcOf n ts us)) acc) x)∧∀ v∈vs,inAny (vs.foldl (lotsStep (pcOf n ts us)) acc) v:=by
  intro vs;induction vs with
  | nil=>intro acc _;exact⟨fun x h=>h,fun v h=>by cases h⟩
  | cons v r ih =>
   intro acc hv;obtain⟨h1,h2⟩:=ih (lotsStep (pcOf n ts us) acc v) fun w hw=>hv w (List.mem_cons_of_mem _ hw)
   have hvu:=hv v (List.mem_cons_self ..);have key:(∀ x,inAny acc x→inAny (lotsStep (pcOf n ts us) acc v) x)∧inAny (lotsStep (pcOf n ts us) acc v) v:=by
    unfold lotsStep;by_cases hc:(acc.any fun l=>decide (v∈l))=true
    ·rw[if_pos hc];exact⟨fun x h=>h,(any_iff _ _).mp hc⟩
    ·rw[if_neg hc];exact⟨fun x h=>(inAny_snoc _ _).mpr (.inl h),(inAny_snoc _ _).mpr (.inr ((mem_pc hok (hr v hvu).1 (hr v hvu).2).mpr .base))⟩
   refine⟨fun x h=>h1 x (key.1 x h),fun w hw=>?_⟩;rcases List.mem_cons.mp hw with rfl | hw
   ·exact h1 _ key.2
   ·exact h2 w hw
 exact (gen vs [] hv).2
end
end L2
end
section
namespace L2
open PySem PySem.Spec PyProof.Rows
section
variable {H:Hp}{n:Int}
theorem tieB_iff {x:V}:tieB H x n=true↔∃ a t,x=.ref a∧H a=some (.tup [.int (Prod.fst t),.int (Prod.snd t)])∧0≤Prod.fst t∧Prod.fst t<Prod.snd t∧Prod.snd t<n:=by
 unfold tieB;constructor
 ·intro h;cases hp:asPair H x with
  | none=>rw[hp] at h;cases h
  | some yz =>
   obtain⟨y,z⟩:=yz;rw[hp] at h;obtain⟨a,rfl,ea⟩:=asPair_eq hp;dsimp only at h;rw[Bool.and_eq_true] at h;cases y with
   | int i =>
    cases z with
    | int j =>
     have h1:=h.1;have h2:=h.2;unfold betw at h1 h2;simp at h1 h2;exact⟨a,(i,j),rfl,ea,by omega,by show i<j;omega,by show j<n;omega⟩
    | _=>exact absurd h.2 (by simp[betw])
   | _=>exact absurd h.1 (by simp[betw])
 ·rintro⟨a,t,rfl,ea,h0,h1,h2⟩;have hap:asPair H (.ref a)=some (.int t.1,.int t.2):=by unfold asPair;dsimp only;rw[ea]
  rw[hap];simp[betw];omega
theorem ties_of:∀ {xs:List V},(∀ x∈xs,tieB H x n=true)→∃ (ps:List (Addr×List Int)) (us:List (Int×Int)),xs=ps.map (fun x=>V.ref x.1)∧PsAt H ps us∧TsOk n us
 | [],_=>⟨[],[],rfl,⟨(fun x hx=>nomatch hx),rfl⟩,(fun t ht=>nomatch ht)⟩
 | x::r,h=>by
  obtain⟨ps,us,e,hp,hu⟩:=ties_of (xs:=r) fun y hy=>h y (List.mem_cons_of_mem _ hy)
  obtain⟨a,t,rfl,ea,h0,h1,h2⟩:=tieB_iff.mp (h x (List.mem_cons_self ..));refine⟨(a,tl t)::ps,t::us,by rw[e];rfl,⟨fun y hy=>?_,by rw[List.map_cons,List.map_cons,hp.eq]⟩,fun u hu'=>?_⟩
  ·rcases List.mem_cons.mp hy with rfl | hy
   ·exact ea
   ·exact hp.to y hy
  ·rcases List.mem_cons.mp hu' with rfl | hu'
   ·exact⟨h0,h1,h2⟩
   ·exact hu u hu'
theorem ties_at {ps:List (Addr×List Int)}{us:List (Int×Int)}(hp:PsAt H ps us)(hu:TsOk n us):∀ x∈ps.map (fun x=>V.ref x.1),tieB H x n=true:=by
 intro x hx;obtain⟨i,hi⟩:=List.getElem?_of_mem hx;obtain⟨b,t,rfl,hti,hb⟩:=hp.get hi;exact tieB_iff.mpr ⟨b,t,rfl,hb,hu t (List.mem_of_getElem? hti)⟩
def IsRow (H:Hp)(n:Int)(x:V)(us:List (Int×Int)):Prop:=∃ a,x=.ref a∧TsAt H a us∧TsOk n us∧us.Pairwise Lex
theorem PsAt.inj {ps ps':List (Addr×List Int)}{us us':List (Int×Int)}(h:PsAt H ps us)(h':PsAt H ps' us')(e:ps.map (fun x=>V.ref x.1)=ps'.map fun x=>V.ref x.1):us=us':=by
 have hl:us.length=us'.length:=by
  have:=congrArg List.length e;rw[List.length_map,List.length_map,h.len,h'.len] at this;exact this
 refine List.ext_getElem? fun i=>?_
 rcases Nat.lt_or_ge i us.length with hi | hi
 ·obtain⟨v,h1⟩:∃ v,(ps.map fun x=>V.ref x.1)[i]?=some v:=⟨_,List.getElem?_eq_getElem (by rw[List.length_map,h.len];exact hi)⟩
  obtain⟨b,t,e1,e2,e3⟩:=h.get h1;rw[e] at h1;obtain⟨b',t',e1',e2',e3'⟩:=h'.get h1;rw[e1] at e1';cases e1';rw[e3] at e3';injection e3' with e4
  injection e4 with e5
  have e6:=List.cons.inj e5;have e7:=List.cons.inj e6.2;have:t=t':=Prod.ext (V.int.inj e6.1) (V.int.inj e7.1);rw[e2,e2',this]
 ·rw[List.getElem?_eq_none hi,List.getElem?_eq_none (by omega)]
theorem TsAt.inj {a:Addr}{us us':List (Int×Int)}(h:TsAt H a us)(h':TsAt H a us'):us=us':=by
 obtain⟨ps,e,hp⟩:=h;obtain⟨ps',e',hp'⟩:=h';rw[e] at e';injection e' with e2
 injection e2 with e3
 exact hp.inj hp' e3
def IsTr (H:Hp)(n:Int)(ts:List (Int×Int))(x:V):Prop:=∃ a us,x=.ref a∧TsAt H a us∧us.Pairwise Lex∧(us.length:Int)+1=n∧(∀ t∈us,t∈ts)∧Hng us (rInts 0 n.toNat)
theorem IsTr.tree {ts:List (Int×Int)}(hw:IsWeb n ts){a:Addr}{us:List (Int×Int)}(h:TsAt H a us):IsTr H n ts (.ref a)↔IsTree n ts us:=by
 constructor
 ·rintro⟨a',us',e,h',hx,hl,hs,hh⟩;cases e;cases h.inj h';exact conn_tree hw hs hx hl hh
 ·intro hT;have h3:=hw.n3;have wT:=hT.web hw;refine⟨a,us,rfl,h,hT.srt,hT.len,hT.sub,hng_of (hT.ok hw.rng) (u:=0) (mem_rInts.mpr ⟨by omega,by omega⟩) fun y hy=>?_⟩;have:=mem_rInts.mp hy;exact wT.reach (by omega) (by omega) (by omega) (by omega)
theorem IsTr.back {H':Hp}{ts:List (Int×Int)}{x:V}(s:Same H H')(hd:PlD H 2 x)(h:IsTr H' n ts x):IsTr H n ts x:=by
 obtain⟨a,us,rfl,⟨ps,e1,e2⟩,r⟩:=h;obtain⟨T,p⟩:=hd.pl;have e1':=p.back s e1;refine⟨a,us,rfl,⟨ps,e1',⟨fun x hx=>?_,e2.eq⟩⟩,r⟩;obtain⟨T2,p2⟩:=(hd.2 a _ rfl e1' (.ref x.1) (List.mem_map_of_mem (f:=fun x=>V.ref x.1) hx)).pl;exact p2.back s (e2.to x hx)
theorem one_lot {us:List (Int×Int)}(h3:3≤n)(h60:n≤60)(hok:TsOk n us)(hsr:us.Pairwise Lex)(hl:us.length≤200):(lots n us (rInts 0 n.toNat) (rInts 0 n.toNat)).length=1↔Hng us (rInts 0 n.toNat):=by
 have hr:∀ x∈rInts 0 n.toNat,0≤x∧x<n:=fun x hx=>by have:=mem_rInts.mp hx;omega
 constructor
 ·intro h;obtain⟨l,e⟩:∃ l,lots n us (rInts 0 n.toNat) (rInts 0 n.toNat)=[l]:=List.length_eq_one_iff.mp h;obtain⟨v,hv,ev⟩:=lots_mem (n:=n) (ts:=us) (us:=rInts 0 n.toNat) (rInts 0 n.toNat) l (by rw[e];simp);refine hng_of hok hv fun y hy=>?_
  have hin:=lots_all hok hr (rInts 0 n.toNat) (fun v h=>h) y hy;rw[e] at hin;have hyl:y∈l:=by
   obtain⟨m,hm,hy⟩:=hin;rw[List.mem_singleton.mp hm] at hy;exact hy
  rw[ev] at hyl;exact (mem_pc hok (hr v hv).1 (hr v hv).2).mp hyl
 ·intro h;have w:IsWeb n us:=⟨h3,h60,hok,hsr,hl,hng_conn hok h⟩
  rw[w.onelot];rfl
end
end L2
end
section
namespace L2
theorem tV0 {v:V}{σ:St}{H:Hp}{Q:VK}:tVar 0 (some v::σ) H Q=Q v H:=propext ⟨fun ⟨_,e,q⟩=>by cases e;exact q,fun q=>⟨_,rfl,q⟩⟩
theorem gN0 {v:V}{σ:St}{H:Hp}{Q:St→Hp→Prop}{b:Option V}:gName 0 v (b::σ) H Q=Q (some v::σ) H:=rfl
theorem tV1 {v:V}{σ:St}{H:Hp}{Q:VK}{a0:Option V}:tVar 1 (a0::some v::σ) H Q=Q v H:=propext ⟨fun ⟨_,e,q⟩=>by cases e;exact q,fun q=>⟨_,rfl,q⟩⟩
theorem gN1 {v:V}{σ:St}{H:Hp}{Q:St→Hp→Prop}{b:Option V}{a0:Option V}:gName 1 v (a0::b::σ) H Q=Q (a0::some v::σ) H:=rfl
theorem tV2 {v:V}{σ:St}{H:Hp}{Q:VK}{a0 a1:Option V}:tVar 2 (a0::a1::some v::σ) H Q=Q v H:=propext ⟨fun ⟨_,e,q⟩=>by cases e;exact q,fun q=>⟨_,rfl,q⟩⟩
theorem gN2 {v:V}{σ:St}{H:Hp}{Q:St→Hp→Prop}{b:Option V}{a0 a1:Option V}:gName 2 v (a0::a1::b::σ) H Q=Q (a0::a1::some v::σ) H:=rfl
theorem tV3 {v:V}{σ:St}{H:Hp}{Q:VK}{a0 a1 a2:Option V}:tVar 3 (a0::a1::a2::some v::σ) H Q=Q v H:=propext ⟨fun ⟨_,e,q⟩=>by cases e;exact q,fun q=>⟨_,rfl,q⟩⟩
theorem gN3 {v:V}{σ:St}{H:Hp}{Q:St→Hp→Prop}{b:Option V}{a0 a1 a2:Option V}:gName 3 v (a0::a1::a2::b::σ) H Q=Q (a0::a1::a2::some v::σ) H:=rfl
theorem tV4 {v:V}{σ:St}{H:Hp}{Q:VK}{a0 a1 a2 a3:Option V}:tVar 4 (a0::a1::a2::a3::some v::σ) H Q=Q v H:=propext ⟨fun ⟨_,e,q⟩=>by cases e;exact q,fun q=>⟨_,rfl,q⟩⟩
theorem gN4 {v:V}{σ:St}{H:Hp}{Q:St→Hp→Prop}{b:Option V}{a0 a1 a2 a3:Option V}:gName 4 v (a0::a1::a2::a3::b::σ) H Q=Q (a0::a1::a2::a3::some v::σ) H:=rfl
theorem tV5 {v:V}{σ:St}{H:Hp}{Q:VK}{a0 a1 a2 a3 a4:Option V}:tVar 5 (a0::a1::a2::a3::a4::some v::σ) H Q=Q v H:=propext ⟨fun ⟨_,e,q⟩=>by cases e;exact q,fun q=>⟨_,rfl,q⟩⟩
theorem gN5 {v:V}{σ:St}{H:Hp}{Q:St→Hp→Prop}{b:Option V}{a0 a1 a2 a3 a4:Option V}:gName 5 v (a0::a1::a2::a3::a4::b::σ) H Q=Q (a0::a1::a2::a3::a4::some v::σ) H:=rfl
theorem tV6 {v:V}{σ:St}{H:Hp}{Q:VK}{a0 a1 a2 a3 a4 a5:Option V}:tVar 6 (a0::a1::a2::a3::a4::a5::some v::σ) H Q=Q v H:=propext ⟨fun ⟨_,e,q⟩=>by cases e;exact q,fun q=>⟨_,rfl,q⟩⟩
theorem gN6 {v:V}{σ:St}{H:Hp}{Q:St→Hp→Prop}{b:Option V}{a0 a1 a2 a3 a4 a5:Option V}:gName 6 v (a0::a1::a2::a3::a4::a5::b::σ) H Q=Q (a0::a1::a2::a3::a4::a5::some v::σ) H:=rfl
theorem tV7 {v:V}{σ:St}{H:Hp}{Q:VK}{a0 a1 a2 a3 a4 a5 a6:Option V}:tVar 7 (a0::a1::a2::a3::a4::a5::a6::some v::σ) H Q=Q v H:=propext ⟨fun ⟨_,e,q⟩=>by cases e;exact q,fun q=>⟨_,rfl,q⟩⟩
theorem gN7 {v:V}{σ:St}{H:Hp}{Q:St→Hp→Prop}{b:Option V}{a0 a1 a2 a3 a4 a5 a6:Option V}:gName 7 v (a0::a1::a2::a3::a4::a5::a6::b::σ) H Q=Q (a0::a1::a2::a3::a4::a5::a6::some v::σ) H:=rfl
theorem tV8 {v:V}{σ:St}{H:Hp}{Q:VK}{a0 a1 a2 a3 a4 a5 a6 a7:Option V}:tVar 8 (a0::a1::a2::a3::a4::a5::a6::a7::some v::σ) H Q=Q v H:=propext ⟨fun ⟨_,e,q⟩=>by cases e;exact q,fun q=>⟨_,rfl,q⟩⟩
theorem gN8 {v:V}{σ:St}{H:Hp}{Q:St→Hp→Prop}{b:Option V}{a0 a1 a2 a3 a4 a5 a6 a7:Option V}:gName 8 v (a0::a1::a2::a3::a4::a5::a6::a7::b::σ) H Q=Q (a0::a1::a2::a3::a4::a5::a6::a7::some v::σ) H:=rfl
theorem tV9 {v:V}{σ:St}{H:Hp}{Q:VK}{a0 a1 a2 a3 a4 a5 a6 a7 a8:Option V}:tVar 9 (a0::a1::a2::a3::a4::a5::a6::a7::a8::some v::σ) H Q=Q v H:=propext ⟨fun ⟨_,e,q⟩=>by cases e;exact q,fun q=>⟨_,rfl,q⟩⟩
theorem gN9 {v:V}{σ:St}{H:Hp}{Q:St→Hp→Prop}{b:Option V}{a0 a1 a2 a3 a4 a5 a6 a7 a8:Option V}:gName 9 v (a0::a1::a2::a3::a4::a5::a6::a7::a8::b::σ) H Q=Q (a0::a1::a2::a3::a4::a5::a6::a7::a8::some v::σ) H:=rfl
theorem tV10 {v:V}{σ:St}{H:Hp}{Q:VK}{a0 a1 a2 a3 a4 a5 a6 a7 a8 a9:Option V}:tVar 10 (a0::a1::a2::a3::a4::a5::a6::a7::a8::a9::some v::σ) H Q=Q v H:=propext ⟨fun ⟨_,e,q⟩=>by cases e;exact q,fun q=>⟨_,rfl,q⟩⟩
theorem gN10 {v:V}{σ:St}{H:Hp}{Q:St→Hp→Prop}{b:Option V}{a0 a1 a2 a3 a4 a5 a6 a7 a8 a9:Option V}:gName 10 v (a0::a1::a2::a3::a4::a5::a6::a7::a8::a9::b::σ) H Q=Q (a0::a1::a2::a3::a4::a5::a6::a7::a8::a9::some v::σ) H:=rfl
theorem tV11 {v:V}{σ:St}{H:Hp}{Q:VK}{a0 a1 a2 a3 a4 a5 a6 a7 a8 a9 a10:Option V}:tVar 11 (a0::a1::a2::a3::a4::a5::a6::a7::a8::a9::a10::some v::σ) H Q=Q v H:=propext ⟨fun ⟨_,e,q⟩=>by cases e;exact q,fun q=>⟨_,rfl,q⟩⟩
theorem gN11 {v:V}{σ:St}{H:Hp}{Q:St→Hp→Prop}{b:Option V}{a0 a1 a2 a3 a4 a5 a6 a7 a8 a9 a10:Option V}:gName 11 v (a0::a1::a2::a3::a4::a5::a6::a7::a8::a9::a10::b::σ) H Q=Q (a0::a1::a2::a3::a4::a5::a6::a7::a8::a9::a10::some v::σ) H:=rfl
theorem tV12 {v:V}{σ:St}{H:Hp}{Q:VK}{a0 a1 a2 a3 a4 a5 a6 a7 a8 a9 a10 a11:Option V}:tVar 12 (a0::a1::a2::a3::a4::a5::a6::a7::a8::a9::a10::a11::some v::σ) H Q=Q v H:=propext ⟨fun ⟨_,e,q⟩=>by cases e;exact q,fun q=>⟨_,rfl,q⟩⟩
theorem gN12 {v:V}{σ:St}{H:Hp}{Q:St→Hp→Prop}{b:Option V}{a0 a1 a2 a3 a4 a5 a6 a7 a8 a9 a10 a11:Option V}:gName 12 v (a0::a1::a2::a3::a4::a5::a6::a7::a8::a9::a10::a11::b::σ) H Q=Q (a0::a1::a2::a3::a4::a5::a6::a7::a8::a9::a10::a11::some v::σ) H:=rfl
theorem tV13 {v:V}{σ:St}{H:Hp}{Q:VK}{a0 a1 a2 a3 a4 a5 a6 a7 a8 a9 a10 a11 a12:Option V}:tVar 13 (a0::a1::a2::a3::a4::a5::a6::a7::a8::a9::a10::a11::a12::some v::σ) H Q=Q v H:=propext ⟨fun ⟨_,e,q⟩=>by cases e;exact q,fun q=>⟨_,rfl,q⟩⟩
theorem gN13 {v:V}{σ:St}{H:Hp}{Q:St→Hp→Prop}{b:Option V}{a0 a1 a2 a3 a4 a5 a6 a7 a8 a9 a10 a11 a12:Option V}:gName 13 v (a0::a1::a2::a3::a4::a5::a6::a7::a8::a9::a10::a11::a12::b::σ) H Q=Q (a0::a1::a2::a3::a4::a5::a6::a7::a8::a9::a10::a11::a12::some v::σ) H:=rfl
theorem tV14 {v:V}{σ:St}{H:Hp}{Q:VK}{a0 a1 a2 a3 a4 a5 a6 a7 a8 a9 a10 a11 a12 a13:Option V}:tVar 14 (a0::a1::a2::a3::a4::a5::a6::a7::a8::a9::a10::a11::a12::a13::some v::σ) H Q=Q v H:=propext ⟨fun ⟨_,e,q⟩=>by cases e;exact q,fun q=>⟨_,rfl,q⟩⟩
theorem gN14 {v:V}{σ:St}{H:Hp}{Q:St→Hp→Prop}{b:Option V}{a0 a1 a2 a3 a4 a5 a6 a7 a8 a9 a10 a11 a12 a13:Option V}:gName 14 v (a0::a1::a2::a3::a4::a5::a6::a7::a8::a9::a10::a11::a12::a13::b::σ) H Q=Q (a0::a1::a2::a3::a4::a5::a6::a7::a8::a9::a10::a11::a12::a13::some v::σ) H:=rfl
theorem tV15 {v:V}{σ:St}{H:Hp}{Q:VK}{a0 a1 a2 a3 a4 a5 a6 a7 a8 a9 a10 a11 a12 a13 a14:Option V}:tVar 15 (a0::a1::a2::a3::a4::a5::a6::a7::a8::a9::a10::a11::a12::a13::a14::some v::σ) H Q=Q v H:=propext ⟨fun ⟨_,e,q⟩=>by cases e;exact q,fun q=>⟨_,rfl,q⟩⟩
theorem gN15 {v:V}{σ:St}{H:Hp}{Q:St→Hp→Prop}{b:Option V}{a0 a1 a2 a3 a4 a5 a6 a7 a8 a9 a10 a11 a12 a13 a14:Option V}:gName 15 v (a0::a1::a2::a3::a4::a5::a6::a7::a8::a9::a10::a11::a12::a13::a14::b::σ) H Q=Q (a0::a1::a2::a3::a4::a5::a6::a7::a8::a9::a10::a11::a12::a13::a14::some v::σ) H:=rfl
theorem rI0i {g:Int→Int→V}{i j:Int}{H:Hp}{Q:VK}:rI0 g (.int i) (.int j) H Q=Q (g i j) H:=propext ⟨fun ⟨_,_,e,e',q⟩=>by cases e;cases e';exact q,fun q=>⟨_,_,rfl,rfl,q⟩⟩
theorem rIi {C:Int→Int→Prop}{g:Int→Int→V}{i j:Int}{H:Hp}{Q:VK}:rI C g (.int i) (.int j) H Q=(C i j∧Q (g i j) H):=propext ⟨fun ⟨_,_,e,e',q⟩=>by cases e;cases e';exact q,fun q=>⟨_,_,rfl,rfl,q⟩⟩
theorem rIxLr {K:PySem.W.Frag}{p:PySem.Addr}{i:Int}{H:Hp}{Q:VK}:rIxL K (.ref p) (.int i) H Q=∃ xs,SqL K H p xs∧∃ v,atI xs i=some v∧Q v H:=propext ⟨fun ⟨_,_,_,_,e,e',a,b,q⟩=>by cases e;cases e';exact⟨_,a,_,b,q⟩,fun ⟨_,a,_,b,q⟩=>⟨_,_,_,_,rfl,rfl,a,b,q⟩⟩
theorem rIxTr {K:PySem.W.Frag}{p:PySem.Addr}{i:Int}{H:Hp}{Q:VK}:rIxT K (.ref p) (.int i) H Q=∃ xs,SqT K H p xs∧∃ v,atI xs i=some v∧Q v H:=propext ⟨fun ⟨_,_,_,_,e,e',a,b,q⟩=>by cases e;cases e';exact⟨_,a,_,b,q⟩,fun ⟨_,a,_,b,q⟩=>⟨_,_,_,_,rfl,rfl,a,b,q⟩⟩
theorem exB {b:Bool}{P:Bool→Prop}:(∃ k,V.bl b=V.bl k∧P k)=P b:=propext ⟨fun ⟨_,e,q⟩=>by cases e;exact q,fun q=>⟨_,rfl,q⟩⟩
theorem exI {b:Int}{P:Int→Prop}:(∃ k,V.int b=V.int k∧P k)=P b:=propext ⟨fun ⟨_,e,q⟩=>by cases e;exact q,fun q=>⟨_,rfl,q⟩⟩
theorem exR {b:PySem.Addr}{P:PySem.Addr→Prop}:(∃ k,V.ref b=V.ref k∧P k)=P b:=propext ⟨fun ⟨_,e,q⟩=>by cases e;exact q,fun q=>⟨_,rfl,q⟩⟩
theorem rEqI {i j:Int}{H:Hp}{Q:VK}:rEq (.int i) (.int j) H Q=Q (.bl (decide (i=j))) H:=by
 unfold rEq;have e:decide (V.int i=V.int j)=decide (i=j):=by simp
 rw[e];simp[scal]
theorem rNeI {i j:Int}{H:Hp}{Q:VK}:rNe (.int i) (.int j) H Q=Q (.bl (!decide (i=j))) H:=by
 unfold rNe;have e:decide (V.int i=V.int j)=decide (i=j):=by simp
 rw[e];simp[scal]
theorem cLenR {K:PySem.W.Frag}{p:PySem.Addr}{H:Hp}{Q:VK}:cLen K [.ref p] H Q=∃ ys,(SqL K H p ys∨SqT K H p ys)∧Q (.int ys.length) H:=propext ⟨fun ⟨_,ys,e,a,q⟩=>by cases e;exact⟨ys,a,q⟩,fun ⟨ys,a,q⟩=>⟨_,ys,rfl,a,q⟩⟩
theorem al0 {α:Type}{P:List α→Prop}(h:P [])(us:List α)(hl:us.length=0):P us:=by cases us with
 | nil=>exact h
 | cons a r=>cases hl
theorem al1 {α:Type}{P:List α→Prop}(h:∀ a0,P [a0])(us:List α)(hl:us.length=1):P us:=by cases us with
 | nil=>cases hl
 | cons a r=>exact al0 (P:=fun r=>P (a::r)) (h a) r (Nat.succ.inj hl)
theorem al2 {α:Type}{P:List α→Prop}(h:∀ a0 a1,P [a0,a1])(us:List α)(hl:us.length=2):P us:=by cases us with
 | nil=>cases hl
 | cons a r=>exact al1 (P:=fun r=>P (a::r)) (h a) r (Nat.succ.inj hl)
theorem al3 {α:Type}{P:List α→Prop}(h:∀ a0 a1 a2,P [a0,a1,a2])(us:List α)(hl:us.length=3):P us:=by cases us with
 | nil=>cases hl
 | cons a r=>exact al2 (P:=fun r=>P (a::r)) (h a) r (Nat.succ.inj hl)
end L2
end
section
namespace L2
open PySem
theorem tSeqA {t u:TS}{D:Ends}{σ:St}{H:Hp}:tSeq t u D σ H=(t {D with nx:=u D} σ H):=rfl
theorem tAsgA {te:TE}{g:TG}{D:Ends}{σ:St}{H:Hp}:tAsg te g D σ H=(te σ H fun x H1=>g x σ H1 D.nx):=rfl
theorem tOpA {r:R2}{ta tb:TE}{σ:St}{H:Hp}{Q:VK}:tOp r ta tb σ H Q=(ta σ H fun x H1=>tb σ H1 fun y H2=>r x y H2 Q):=rfl
theorem tCA {v:V}{u0:St}{H:Hp}{Q:VK}:tC v u0 H Q=(Q v H):=rfl
theorem tRetA {te:TE}{D:Ends}{σ:St}{H:Hp}:tRet te D σ H=(te σ H D.rt):=rfl
theorem tRetNA  {D:Ends}{u0:St}{H:Hp}:tRetN D u0 H=(D.rt .non H):=rfl
theorem tIfSA {c:TT}{t u:TS}{D:Ends}{σ:St}{H:Hp}:tIfS c t u D σ H=(c σ H fun b H1=>if b=true then t D σ H1 else u D σ H1):=rfl
theorem tTestA {t:TE}{σ:St}{H:Hp}{Q:Bool→Hp→Prop}:tTest t σ H Q=(t σ H fun x H'=>∃ k,x=.bl k∧Q k H'):=rfl
theorem tBA {t:TE}{σ:St}{H:Hp}{Q:Bool→Hp→Prop}:tB t σ H Q=(t σ H fun x H1=>∃ c,x=.bl c∧Q c H1):=rfl
theorem tNextA  {D:Ends}{σ:St}{H:Hp}:tNext D σ H=(D.nx σ H):=rfl
theorem tDropA {te:TE}{D:Ends}{σ:St}{H:Hp}:tDrop te D σ H=(te σ H fun _ H1=>D.nx σ H1):=rfl
theorem tCallA {sp:Sp}{dvs:List V}{E:XK}{t:TA}{σ:St}{H:Hp}{Q:VK}:tCall sp dvs E t σ H Q=(t σ H fun vs H1=>sp (vs++dvs) H1 Q E):=rfl
theorem tConsA {ta:TE}{tr:TA}{σ:St}{H:Hp}{Q:List V→Hp→Prop}:tCons ta tr σ H Q=(ta σ H fun x H1=>tr σ H1 fun xs H2=>Q (x::xs) H2):=rfl
theorem tNilA  {u0:St}{H:Hp}{Q:List V→Hp→Prop}:tNil u0 H Q=(Q [] H):=rfl
theorem tCBA {r:List V→Hp→VK→Prop}{t:TA}{σ:St}{H:Hp}{Q:VK}:tCB r t σ H Q=(t σ H fun vs H1=>r vs H1 Q):=rfl
theorem tBMA {K:PySem.W.Frag}{T:String}{r:V→List V→Hp→VK→Prop}{to:TE}{t:TA}{σ:St}{H:Hp}{Q:VK}:tBM K T r to t σ H Q=(to σ H fun x H1=>tyV K T x H1∧t σ H1 fun xs H2=>r x xs H2 Q):=rfl
theorem tBM0A {K:PySem.W.Frag}{T:String}{r:V→List V→Hp→VK→Prop}{to:TE}{σ:St}{H:Hp}{Q:VK}:tBM0 K T r to σ H Q=(to σ H fun x H1=>tyV K T x H1∧r x [] H1 Q):=rfl
theorem tTupA {t:TA}{σ:St}{H:Hp}{Q:VK}:tTup t σ H Q=(t σ H fun xs H1=>xs.length≤sizeLine∧∀ p,H1 p=none→Q (.ref p) (upd H1 p (.tup xs))):=rfl
theorem tLstA {t:TA}{σ:St}{H:Hp}{Q:VK}:tLst t σ H Q=(t σ H fun xs H1=>xs.length≤sizeLine∧∀ p,H1 p=none→Q (.ref p) (upd H1 p (.lst xs))):=rfl
theorem gTupA {K:PySem.W.Frag}{n:Nat}{t:TGs}{v:V}{σ:St}{H:Hp}{Q:St→Hp→Prop}:gTup K n t v σ H Q=(∃ a xs,v=.ref a∧SqT K H a xs∧xs.length=n∧t xs σ H Q):=rfl
theorem gConsA {t:TG}{u:TGs}{vs:List V}{σ:St}{H:Hp}{Q:St→Hp→Prop}:gCons t u vs σ H Q=(∃ v r,vs=v::r∧t v σ H fun σ' H'=>u r σ' H' Q):=rfl
theorem gNilA  {vs:List V}{σ:St}{H:Hp}{Q:St→Hp→Prop}:gNil vs σ H Q=(vs=[]∧Q σ H):=rfl
theorem gSubA {to ti:TE}{t:TSet}{v:V}{σ:St}{H:Hp}{Q:St→Hp→Prop}:gSub to ti t v σ H Q=(to σ H fun o H1=>ti σ H1 fun i H2=>t o i v H2 fun H3=>Q σ H3):=rfl
theorem tSlA {r:V→Option Int→Option Int→Hp→VK→Prop}{te:TE}{tl th:TO}{σ:St}{H:Hp}{Q:VK}:tSl r te tl th σ H Q=(te σ H fun x H1=>tl σ H1 fun l H2=>th σ H2 fun u H3=>r x l u H3 Q):=rfl
theorem tNoPartA  {u0:St}{H:Hp}{Q:Option Int→Hp→Prop}:tNoPart u0 H Q=(Q none H):=rfl
theorem tPartA {t:TE}{σ:St}{H:Hp}{Q:Option Int→Hp→Prop}:tPart t σ H Q=(t σ H fun x H1=>∃ i,x=.int i∧Q (some i) H1):=rfl
theorem tAndA {t u:TT}{σ:St}{H:Hp}{Q:Bool→Hp→Prop}:tAnd t u σ H Q=(t σ H fun c H1=>if c=true then u σ H1 Q else Q false H1):=rfl
theorem tOrA {t u:TT}{σ:St}{H:Hp}{Q:Bool→Hp→Prop}:tOr t u σ H Q=(t σ H fun c H1=>if c=true then Q true H1 else u σ H1 Q):=rfl
theorem tNotA {t:TT}{σ:St}{H:Hp}{Q:Bool→Hp→Prop}:tNot t σ H Q=(t σ H fun c H1=>Q (!c) H1):=rfl
theorem tDInA {ty td:TE}{σ:St}{H:Hp}{Q:VK}:tDIn ty td σ H Q=(ty σ H fun y H1=>td σ H1 fun x H2=>∃ a o,x=.ref a∧DGet H2 a y o∧Q (.bl o.isSome) H2):=rfl
theorem tDNotInA {ty td:TE}{σ:St}{H:Hp}{Q:VK}:tDNotIn ty td σ H Q=(ty σ H fun y H1=>td σ H1 fun x H2=>∃ a o,x=.ref a∧DGet H2 a y o∧Q (.bl (!o.isSome)) H2):=rfl
theorem sDPutA {td ty tv:TE}{D:Ends}{σ:St}{H:Hp}:sDPut td ty tv D σ H=(tv σ H fun v H1=>td σ H1 fun x H2=>ty σ H2 fun y H3=>∃ a H4,x=.ref a∧DPut H3 a y v H4∧D.nx σ H4):=rfl
theorem iListA {K:PySem.W.Frag}{tl:TE}{σ:St}{H:Hp}{R:It→Hp→Prop}:iList K tl σ H R=(tl σ H fun x H1=>∃ a,x=.ref a∧(∃ xs,SqL K H1 a xs)∧R (Itl K a) H1):=rfl
theorem iTupA {K:PySem.W.Frag}{tl:TE}{σ:St}{H:Hp}{R:It→Hp→Prop}:iTup K tl σ H R=(tl σ H fun x H1=>∃ a,x=.ref a∧(∃ xs,SqT K H1 a xs)∧R (Itt K a) H1):=rfl
theorem iRng1A {ta:TA}{σ:St}{H:Hp}{R:It→Hp→Prop}:iRng1 ta σ H R=(ta σ H fun vs H1=>∃ j:Int,vs=[.int j]∧-(2 ^ 62)≤j∧j<2 ^ 62∧R (Itr 0 j.toNat) H1):=rfl
theorem iRng2A {ta:TA}{σ:St}{H:Hp}{R:It→Hp→Prop}:iRng2 ta σ H R=(ta σ H fun vs H1=>∃ i j:Int,vs=[.int i,.int j]∧(-(2 ^ 62)≤i∧i<2 ^ 62∧-(2 ^ 62)≤j∧j<2 ^ 62)∧R (Itr i (j-i).toNat) H1):=rfl
theorem tChainA {r r':R2}{ta tb tc:TE}{σ:St}{H:Hp}{Q:VK}:tChain r r' ta tb tc σ H Q=(ta σ H fun x H1=>tb σ H1 fun y H2=>r x y H2 fun z H3=>∃ k,z=.bl k∧(if k=true then tc σ H3 fun w' H4=>r' y w' H4 Q else Q (.bl false) H3)):=rfl
theorem tAndVA {ta tb:TE}{σ:St}{H:Hp}{Q:VK}:tAndV ta tb σ H Q=(ta σ H fun x H1=>∃ c,x=.bl c∧if c=true then tb σ H1 Q else Q (.bl false) H1):=rfl
theorem tOrVA {ta tb:TE}{σ:St}{H:Hp}{Q:VK}:tOrV ta tb σ H Q=(ta σ H fun x H1=>∃ c,x=.bl c∧if c=true then Q (.bl true) H1 else tb σ H1 Q):=rfl
theorem tNotVA {ta:TE}{σ:St}{H:Hp}{Q:VK}:tNotV ta σ H Q=(ta σ H fun x H1=>∃ c,x=.bl c∧Q (.bl (!c)) H1):=rfl
theorem tUnA {r:V→Hp→VK→Prop}{ta:TE}{σ:St}{H:Hp}{Q:VK}:tUn r ta σ H Q=(ta σ H fun x H1=>r x H1 Q):=rfl
theorem tYesA  {u0:St}{H:Hp}{Q:Bool→Hp→Prop}:tYes u0 H Q=(Q true H):=rfl
theorem tDNewKA  {u0:St}{H:Hp}{Q:VK}:tDNewK u0 H Q=(∀ p,H p=none→Q (.ref p) (upd H p (.dK []))):=rfl
theorem tDNewTA  {u0:St}{H:Hp}{Q:VK}:tDNewT u0 H Q=(∀ p,H p=none→Q (.ref p) (upd H p (.dT []))):=rfl
theorem tIsNA {ta:TE}{σ:St}{H:Hp}{Q:VK}:tIsN ta σ H Q=(ta σ H fun x H1=>Q (.bl (decide (x=.non))) H1):=rfl
theorem tNotNA {ta:TE}{σ:St}{H:Hp}{Q:VK}:tNotN ta σ H Q=(ta σ H fun x H1=>Q (.bl (!decide (x=.non))) H1):=rfl
theorem tLCA {own:List Str}{fr:List (Str×Nat)}{wi:TI}{g:TG}{tc:TT}{te:TE}{σ:St}{H:Hp}{Q:VK}:tLC own fr wi g tc te σ H Q=wi σ H fun J H1=>∀ p,H1 p=none→lcW g tc te p J (st0 own fr σ) (upd H1 p (.lst [])) fun H2=>Q (.ref p) H2:=rfl
theorem tDCA {t:Bool}{own:List Str}{fr:List (Str×Nat)}{wi:TI}{g:TG}{tc:TT}{te tv:TE}{σ:St}{H:Hp}{Q:VK}:tDC t own fr wi g tc te tv σ H Q=wi σ H fun J H1=>∀ p,H1 p=none→dcW g tc te tv p J (st0 own fr σ) (upd H1 p (dNew t)) fun H2=>Q (.ref p) H2:=rfl
end L2
end
section
namespace L2
open PySem PySem.Spec PyProof.Rows
section
variable {n:Int}{ts us:List (Int×Int)}{g:Int}{par:Int→Int}
theorem mm_nb (hok:TsOk n us){a b:Int}(h:mm a b∈us):b∈nb us a:=by
 rw[mem_nb_iff hok];have:=hok _ h;unfold mm at h this;dsimp only at this;by_cases h1:b<a
 ·rw[if_pos h1,if_neg (by omega)] at h;exact .inr h
 ·rw[if_neg h1] at h;by_cases h2:b>a
  ·rw[if_pos h2] at h;exact .inl h
  ·rw[if_neg h1,if_neg h2] at this;omega
end
theorem TsAt.pld {H:Hp}{p:Addr}{us:List (Int×Int)}(h:TsAt H p us):PlD H 2 (.ref p)∧∀ a xs,V.ref p=.ref a→H a=some (.tup xs)→xs.length=us.length:=by
 obtain⟨ps,e,hps⟩:=h;refine⟨⟨⟨_,.tup e⟩,fun a ys ea e2 z hz=>?_⟩,fun a xs ea e2=>?_⟩
 ·cases ea;rw[e] at e2;cases e2;obtain⟨i,hi⟩:=List.getElem?_of_mem hz;obtain⟨b,t,rfl,_,hb⟩:=hps.get hi;refine⟨⟨_,.tup hb⟩,fun a' ys' e3 e4 y hy=>?_⟩;cases e3;rw[hb] at e4;cases e4;simp only[List.mem_cons,List.not_mem_nil,or_false] at hy;rcases hy with rfl | rfl<;>exact⟨_,.int _⟩
 ·cases ea;rw[e] at e2;cases e2;rw[List.length_map,hps.len]
end L2
end
section
namespace L2
open PySem PySem.Spec PyProof.Rows
theorem Ncs.mem {c k m:Nat}:∀ {ds:List PyData},Ncs c k m ds→∀ d∈ds,Nc c k m d
 | d::r,h,x,hx=>by
  have h7:=h.so;rw[sOks,Bool.and_eq_true] at h7;have h1:=h.sh;have h2:=h.dp;have h3:=h.lv;have h4:=h.bk;rw[PyData.showableAll,Bool.and_eq_true] at h1;rw[PyData.depthAll] at h2;rw[PyData.leavesShortAll,Bool.and_eq_true] at h3;rw[PyData.bulkAll] at h4;have h5:c≠2→noL d=true∧noLs r=true:=fun e=>by have:=h.nl e;rw[noLs,Bool.and_eq_true] at this;exact this
  have h6:c≠1→d.hasDict=false∧PyData.hasDictAll r=false:=fun e=>by have:=h.nd e;rw[PyData.hasDictAll,Bool.or_eq_false_iff] at this;exact this
  rcases List.mem_cons.mp hx with rfl | hx
  ·exact⟨fun e=>(h5 e).1,fun e=>(h6 e).1,h1.1,by omega,h3.1,by omega,h7.1⟩
  ·exact Ncs.mem ⟨fun e=>(h5 e).2,fun e=>(h6 e).2,h1.2,by omega,h3.2,by omega,h7.2⟩ x hx
theorem dds_mem {H:Hp}:∀ {xs:List V} {ds:List PyData},Dds H xs ds→∀ x∈xs,∃ d∈ds,Dd H x d
 | _,_,.nil,x,hx=>nomatch hx
 | _,_,.cons h t,x,hx=>by
  rcases List.mem_cons.mp hx with rfl | hx
  ·exact⟨_,List.mem_cons_self ..,h⟩
  ·obtain⟨d,h1,h2⟩:=dds_mem t x hx;exact⟨d,List.mem_cons_of_mem _ h1,h2⟩
theorem Tg.item {H:Hp}{c k m:Nat}{a:Addr}{xs:List V}(h:Tg H c (k+1) m (.ref a))(e:H a=some (.tup xs)):∀ x∈xs,Tg H c k m x:=fun x hx=>by
 obtain⟨D,hD,hN⟩:=h;cases hD with
 | sc h=>cases h
 | @tup _ ys ds e2 hs =>
  rw[e] at e2;cases e2;obtain⟨d,h1,h2⟩:=dds_mem hs x hx;refine⟨d,h2,Ncs.mem ⟨fun e=>?_,fun e=>?_,?_,?_,?_,?_,?_⟩ d h1⟩
  ·have:=hN.nl e;rw[noL] at this;exact this
  ·have:=hN.nd e;rw[PyData.hasDict] at this;exact this
  ·have:=hN.sh;rw[PyData.showable] at this;exact this
  ·have:=hN.dp;rw[PyData.depth] at this;omega
  ·have:=hN.lv;rw[PyData.leavesShort] at this;exact this
  ·have:=hN.bk;rw[PyData.bulk] at this;exact this
  ·have:=hN.so;rw[sOk] at this;exact this
 | lst e2 _=>rw[e] at e2;cases e2
 | dct e2 _=>rw[e] at e2;cases e2
 | dc1 e2 _ _=>rw[e] at e2;cases e2
end L2
namespace L2
open PySem PySem.Spec PyProof.Rows
section
variable {A:Addr→Prop}{l:Addr}{H H':Hp}
theorem hid_less (s:Same H H'):Same (hid (fun a=>A a∨a=l) H) (hid A H'):=fun b o h=>by
 have h2:=hid_in _ _ h;rw[hid_ne (fun e=>by unfold hid at h;rw[if_pos (.inl e)] at h;cases h)];exact s _ _ h2
end
end L2
end
section
namespace L2
open PySem PySem.Spec PyProof.Rows
theorem Room.u200 {k:Nat}{A:Around}(r:Room k A):A.units+200<cLine:=by have:=r.un;omega
mutual
inductive DA (H:Hp):V→PyData→Prop
 | sc {x:V}:isS x=true→DA H x (sD x)
 | tup {a:Addr} {xs:List V} {ds:List PyData}:H a=some (.tup xs)→DAs H xs ds→DA H (.ref a) (.tuple ds)
 | lst {a:Addr} {xs:List V} {ds:List PyData}:H a=some (.lst xs)→DAs H xs ds→DA H (.ref a) (.list ds)
 | dct {a:Addr} {kvs:List (Key×V)} {ds:List PyData}:H a=some (.dK kvs)→DAs H (kvs.map (·.2)) ds→DA H (.ref a) (.dict ((kvs.map fun kv=>kD kv.1).zip ds))
inductive DAs (H:Hp):List V→List PyData→Prop
 | nil:DAs H [] []
 | cons {x:V} {d:PyData} {xs:List V} {ds:List PyData}:DA H x d→DAs H xs ds→DAs H (x::xs) (d::ds)
end
mutual
theorem DA.same {H H':Hp}(s:Same H H'):∀ {x:V} {d:PyData},DA H x d→DA H' x d
 | _,_,.sc h=>.sc h
 | _,_,.tup e h=>.tup (s _ _ e) (DAs.same s h)
 | _,_,.lst e h=>.lst (s _ _ e) (DAs.same s h)
 | _,_,.dct e h=>.dct (s _ _ e) (DAs.same s h)
theorem DAs.same {H H':Hp}(s:Same H H'):∀ {xs:List V} {ds:List PyData},DAs H xs ds→DAs H' xs ds
 | _,_,.nil=>.nil
 | _,_,.cons h t=>.cons (DA.same s h) (DAs.same s t)
end
theorem DAs.len {H:Hp}:∀ {xs:List V} {ds:List PyData},DAs H xs ds→xs.length=ds.length
 | _,_,.nil=>rfl
 | _,_,.cons _ t=>by rw[List.length_cons,List.length_cons,DAs.len t]
theorem sds_da {H:Hp}:∀ {kvs:List (Key×V)},(∀ kv∈kvs,isS kv.2=true)→DAs H (kvs.map (·.2)) (kvs.map fun kv=>sD kv.2)
 | [],_=>.nil
 | kv::r,h=>.cons (.sc (h kv (List.mem_cons_self ..))) (sds_da fun x hx=>h x (List.mem_cons_of_mem _ hx))
theorem zip_sd:∀ (kvs:List (Key×V)),(kvs.map fun kv=>kD kv.1).zip (kvs.map fun kv=>sD kv.2)=kvs.map fun kv=>(kD kv.1,sD kv.2)
 | []=>rfl
 | kv::r=>by rw[List.map_cons,List.map_cons,List.zip_cons_cons,zip_sd r];rfl
mutual
theorem Dd.da {H:Hp}:∀ {x:V} {d:PyData},Dd H x d→DA H x d
 | _,_,.sc h=>.sc h
 | _,_,.tup e h=>.tup e (Dds.da h)
 | _,_,.lst e h=>.lst e (Dds.da h)
 | _,_,.dct (kvs:=kvs) e h=>by rw[← zip_sd kvs];exact .dct e (sds_da h)
 | _,_,.dc1 e h _=>.dct e (.cons (Dd.da h) .nil)
theorem Dds.da {H:Hp}:∀ {xs:List V} {ds:List PyData},Dds H xs ds→DAs H xs ds
 | _,_,.nil=>.nil
 | _,_,.cons h t=>.cons (Dd.da h) (Dds.da t)
end
section
variable {X:Cx}{pins:List (Addr×Obj)}{σ:St}{H:Hp}{s:Shared}
theorem Inv.sys (I:Inv X pins σ H s)(hK:(X.K.lookup sysModules).isSome=true):H sysModules=none:=by
 obtain⟨o,e⟩:=Option.isSome_iff_exists.mp hK;exact (I.bs _ _ (I.mod.kin _ _ e)).2
theorem keys_readA {P:Program}{w:World}{h:Heap}:∀ {es:List DictEntry} {vs:List (Key×Value)} {kvs:List (Key×V)},Pairs (mixKind P w) es vs→KV kvs vs →
  ReadsAll h (es.map (·.key)) (kvs.map fun kv=>kD kv.1) []∧Vals (kvs.map (·.2)) (es.map (·.val))
 | _,_,_,.nil,.nil=>⟨.nil,.nil⟩
 | _,_,_,.cons (e:=e) hk hv t,.cons (a:=kv) r q=>by
  obtain⟨h1,h2⟩:=keys_readA (h:=h) t q;have a1:Reads h e.key (kD kv.1) []:=by
   have hk':=hk;rw[← r.1] at hk';rcases keyIs_shape hk' with ⟨i,t,e1,e2⟩ | ⟨x,t,e1,e2⟩
   ·rw[e1,e2];exact .int i t
   ·rw[e1,e2];exact .str x t
  exact⟨.cons (as:=[]) (bs:=[]) a1 h1,.cons (show RelV kv.2 e.val by rw[hv];exact r.2) h2⟩
mutual
theorem Inv.readsA (I:Inv X pins σ H s):∀ {x:V} {d:PyData} {u:Value},DA H x d→RelV x u→∃ as,Reads s.heap u d as∧∀ a∈as,H a≠none
 | _,_,_,.sc h,r=>⟨[],sc_reads h r,fun _ z=>nomatch z⟩
 | _,_,_,.tup (a:=a) e hs,r=>by
  cases (show _=Value.ref a from r);obtain⟨z,its,rv,o,ho,hc,n,hd⟩:=I.hok a _ e;obtain⟨as,q,hn⟩:=Inv.readsAs I hs rv;exact⟨_,.tuple ho hc hd (by simpa using q),hn⟩
 | _,_,_,.lst (a:=a) e hs,r=>by
  cases (show _=Value.ref a from r);obtain⟨z,its,n,rv,ho⟩:=I.hok a _ e;obtain⟨as,q,hn⟩:=Inv.readsAs I hs rv;exact⟨_,.list ho rfl rfl (by simpa using q),fun b hb=>(List.mem_cons.mp hb).elim (fun z=>by rw[z,e];exact fun h=>nomatch h) (hn b)⟩
 | _,_,_,.dct (a:=a) (kvs:=kvs) (ds:=ds) e hs,r=>by
  cases (show _=Value.ref a from r);obtain⟨z,hd,vs,rel,o,es,ep,ho,hx,hda,hk,hp,hn⟩:=dk_of I.hok e;obtain⟨h1,h2⟩:=keys_readA (h:=s.heap) hp rel;obtain⟨bs,q,hb⟩:=Inv.readsAs I hs h2;have hl:=hs.len;rw[List.length_map] at hl;refine⟨_,.dict (as:=[]) (bs:=bs) ho hx.1 hda ?_ ?_,fun b hb'=>?_⟩
  ·rw[List.map_fst_zip (by rw[List.length_map];omega)];exact h1
  ·rw[List.map_snd_zip (by rw[List.length_map];omega)];exact q
  ·rcases List.mem_cons.mp hb' with z | z
   ·rw[z,e];exact fun h=>nomatch h
   ·exact hb b z
theorem Inv.readsAs (I:Inv X pins σ H s):∀ {xs:List V} {ds:List PyData} {us:List Value},DAs H xs ds→Vals xs us→∃ as,ReadsAll s.heap us ds as∧∀ a∈as,H a≠none
 | _,_,_,.nil,.nil=>⟨_,.nil,fun _ z=>nomatch z⟩
 | _,_,_,.cons h t,.cons r q=>by
  obtain⟨as,h1,n1⟩:=Inv.readsA I h r;obtain⟨bs,h2,n2⟩:=Inv.readsAs I t q;exact⟨_,.cons h1 h2,fun a ha=>(List.mem_append.mp ha).elim (n1 a) (n2 a)⟩
end
structure NA (k m:Nat)(d:PyData):Prop where
 sh:d.showable=true
 dp:d.depth≤k
 lv:d.leavesShort 100=true
 bk:d.bulk≤m
structure NAs (k m:Nat)(ds:List PyData):Prop where
 sh:PyData.showableAll ds=true
 dp:PyData.depthAll ds≤k
 lv:PyData.leavesShortAll 100 ds=true
 bk:PyData.bulkAll ds≤m
theorem NA.fits {k m:Nat}{d:PyData}(h:NA k m d)(hm:m≤100000):d.shown.length≤sizeLine:=by
 have h1:=PyData.shown_le_bulk 100 (by decide) d h.lv;have h2:=h.bk;rw[sizeLine_eq];omega
def cReprA:List V→Hp→VK→Prop:=fun xs H Q=>∃ (x:V) (d:PyData),xs=[x]∧DA H x d∧NA 150 100000 d∧Q (.str d.shown) H
theorem reprAK (hK:(X.K.lookup sysModules).isSome=true)(hg:X.A.guards=some [])(hu:X.A.units+200<cLine):CallR X (.builtin "repr") cReprA:=by
 intro pins s σ H xs us Q I r h;obtain⟨x,d,rfl,hd,hn,q⟩:=h;obtain⟨u,rfl,rx⟩:=vals1 r;have fin:∀ h' u tk,(∀ b o,s.heap.get? b=some o→h'.get? b=some o)→EP X pins σ Q (.str d.shown u) {s with heap:=h',toks:=tk}:=fun h' u tk hk=>⟨.str d.shown,H,I.kept (t':=tk) hk,⟨u,rfl⟩,q⟩
 have fits:=hn.fits (Nat.le_refl _);have ref:∀ {a:Addr},x=.ref a→wpAny (model X.prog X.w) X.A (call (.builtin "repr") [u]) (EP X pins σ Q) X.xe s:=fun {a} e=>by
  subst e;cases (show u=Value.ref a from rx);obtain⟨as,hr,hs⟩:=I.readsA hd rfl;exact PySem.repr_of_reads' hr hn.sh (fun _ hm=>hs _ hm (I.sys hK)) hg (by have:=hn.dp;omega) (fun _ _ e=>e) fin fits
 cases hd with
 | sc hs =>
  cases x with
  | non=>cases (show u=Value.none from rx);exact PySem.P.repr_of_none (fin s.heap _ _ fun _ _ e=>e)
  | bl b =>
   cases (show u=Value.bool b from rx);refine PySem.P.repr_of_bool ?_;have:=fin s.heap s.toks (s.toks+1) fun _ _ e=>e
   rw[show (sD (.bl b)).shown=(if b then "True" else "False":Str) from by show (PyData.bool b).shown=_;rw[PyData.shown_bool]] at this;cases b<;>exact this
  | int i =>
   obtain⟨t,rfl⟩:=(show ∃ t,u=Value.int i t from rx)
   have hsh:=hn.sh;refine PySem.P.repr_of_int (by have h:=hsh;rw[show sD (.int i)=PyData.int i from rfl,PyData.showable] at h;exact of_decide_eq_true h) ?_;have:=fin s.heap s.toks (s.toks+1) fun _ _ e=>e
   rw[show (sD (.int i)).shown=((toString i:String):Str) from PyData.shown_int i] at this;exact this
  | str y =>
   obtain⟨t,rfl⟩:=(show ∃ t,u=Value.str y t from rx)
   have e:(sD (.str y)).shown=reprText y:=PyData.shown_str y;rw[e] at fits;refine PySem.P.repr_of_str ?_ fits;have:=fin s.heap s.toks (s.toks+1) fun _ _ e=>e
   rw[e] at this;exact this
  | _=>cases hs
 | tup _ _=>exact ref rfl
 | lst _ _=>exact ref rfl
 | dct _ _=>exact ref rfl
end
section
variable {k m:Nat}{d:PyData}{ds:List PyData}{H:Hp}
theorem NA.mono {k' m':Nat}(h:NA k m d)(hk:k≤k')(hm:m≤m'):NA k' m' d:=⟨h.sh,Nat.le_trans h.dp hk,h.lv,Nat.le_trans h.bk hm⟩
theorem Nc.na {c:Nat}(h:Nc c k m d):NA k m d:=⟨h.sh,h.dp,h.lv,h.bk⟩
theorem NAs.nil:NAs k m []:=⟨by rw[PyData.showableAll],by rw[PyData.depthAll];exact Nat.zero_le _,by rw[PyData.leavesShortAll],by rw[PyData.bulkAll];exact Nat.zero_le _⟩
theorem NAs.cons {m':Nat}(h:NA k m d)(t:NAs k m' ds):NAs k (m+1+m') (d::ds):=by
 refine⟨?_,?_,?_,?_⟩
 ·rw[PyData.showableAll,h.sh,t.sh];rfl
 ·rw[PyData.depthAll];exact Nat.max_le.mpr ⟨h.dp,t.dp⟩
 ·rw[PyData.leavesShortAll,h.lv,t.lv];rfl
 ·rw[PyData.bulkAll];have:=h.bk;have:=t.bk;omega
def Ta (H:Hp)(k m:Nat)(v:V):Prop:=∃ d,DA H v d∧NA k m d
theorem Ta.same {H':Hp}{v:V}(s:Same H H')(h:Ta H k m v):Ta H' k m v:=let ⟨d,h1,h2⟩:=h;⟨d,h1.same s,h2⟩
theorem Ta.mono {k' m':Nat}{v:V}(h:Ta H k m v)(hk:k≤k')(hm:m≤m'):Ta H k' m' v:=let ⟨d,h1,h2⟩:=h;⟨d,h1,h2.mono hk hm⟩
theorem Tg.ta {c:Nat}{v:V}(h:Tg H c k m v):Ta H k m v:=let ⟨d,h1,h2⟩:=h;⟨d,h1.da,h2.na⟩
theorem das_of:∀ {xs:List V},(∀ x∈xs,Ta H k m x)→∃ ds,DAs H xs ds∧NAs k (xs.length*(m+1)) ds
 | [],_=>⟨[],.nil,.nil⟩
 | x::r,h=>by
  obtain⟨d,h1,h2⟩:=h x (List.mem_cons_self ..);obtain⟨ds,h3,h4⟩:=das_of (xs:=r) fun y hy=>h y (List.mem_cons_of_mem _ hy)
  refine⟨d::ds,.cons h1 h3,?_⟩;have:=NAs.cons h2 h4;rw[List.length_cons,Nat.succ_mul,Nat.add_comm];exact this
theorem NA.tup (h:NAs k m ds):NA (k+1) m (.tuple ds):=by
 refine⟨?_,?_,?_,?_⟩
 ·rw[PyData.showable];exact h.sh
 ·rw[PyData.depth];have:=h.dp;omega
 ·rw[PyData.leavesShort];exact h.lv
 ·rw[PyData.bulk];exact h.bk
theorem NA.lst (h:NAs k m ds):NA (k+1) m (.list ds):=by
 refine⟨?_,?_,?_,?_⟩
 ·rw[PyData.showable];exact h.sh
 ·rw[PyData.depth];have:=h.dp;omega
 ·rw[PyData.leavesShort];exact h.lv
 ·rw[PyData.bulk];exact h.bk
theorem Ta.tup {a:Addr}{xs:List V}(e:H a=some (.tup xs))(h:∀ x∈xs,Ta H k m x):Ta H (k+1) (xs.length*(m+1)) (.ref a):=by
 obtain⟨ds,h1,h2⟩:=das_of h;exact⟨_,.tup e h1,.tup h2⟩
theorem Ta.lst {a:Addr}{xs:List V}(e:H a=some (.lst xs))(h:∀ x∈xs,Ta H k m x):Ta H (k+1) (xs.length*(m+1)) (.ref a):=by
 obtain⟨ds,h1,h2⟩:=das_of h;exact⟨_,.lst e h1,.lst h2⟩
theorem Ta.repr {v:V}{Q:VK}(h:Ta H k m v)(hk:k≤150)(hm:m≤100000)(q:∀ x,(∀ {H':Hp} {Q':VK},Same H H'→Q' (.str x) H'→cReprA [v] H' Q')→Q (.str x) H):cReprA [v] H Q:=by
 obtain⟨d,h1,h2⟩:=h;exact⟨v,d,rfl,h1,h2.mono hk hm,q _ fun s q'=>⟨v,d,rfl,h1.same s,h2.mono hk hm,q'⟩⟩
theorem da_mem:∀ {xs:List V} {ds:List PyData},DAs H xs ds→∀ x∈xs,∃ d,DA H x d
 | _,_,.nil,x,hx=>nomatch hx
 | _,_,.cons h t,x,hx=>by
  rcases List.mem_cons.mp hx with rfl | hx
  ·exact⟨_,h⟩
  ·exact da_mem t x hx
theorem DA.pl {v:V}{d:PyData}(h:DA H v d):∃ T,Pl H v T:=by
 cases h with
 | sc hs =>
  cases v with
  | non=>exact⟨_,.non⟩
  | bl b=>exact⟨_,.bl b⟩
  | int i=>exact⟨_,.int i⟩
  | str x=>exact⟨_,.str x⟩
  | _=>cases hs
 | tup e _=>exact⟨_,.tup e⟩
 | lst e _=>exact⟨_,.lst e⟩
 | dct e _=>exact⟨_,.dK e⟩
theorem DA.pld:∀ {m:Nat} {v:V} {d:PyData},DA H v d→PlD H m v
 | 0,_,_,h=>h.pl
 | m+1,v,d,h=>⟨h.pl,fun a ys e ea z hz=>by
  subst e;cases h with
  | sc hs=>cases hs
  | tup e2 hs =>
   rw[ea] at e2;cases e2;obtain⟨d',h'⟩:=da_mem hs z hz;exact DA.pld h'
  | lst e2 _=>rw[ea] at e2;cases e2
  | dct e2 _=>rw[ea] at e2;cases e2⟩
theorem NAs.mem:∀ {ds:List PyData},NAs k m ds→∀ d∈ds,NA k m d
 | d::r,h,x,hx=>by
  have h1:=h.sh;have h2:=h.dp;have h3:=h.lv;have h4:=h.bk;rw[PyData.showableAll,Bool.and_eq_true] at h1;rw[PyData.depthAll] at h2;rw[PyData.leavesShortAll,Bool.and_eq_true] at h3;rw[PyData.bulkAll] at h4;rcases List.mem_cons.mp hx with rfl | hx
  ·exact⟨h1.1,by omega,h3.1,by omega⟩
  ·exact NAs.mem ⟨h1.2,by omega,h3.2,by omega⟩ x hx
theorem das_mem:∀ {xs:List V} {ds:List PyData},DAs H xs ds→∀ x∈xs,∃ d∈ds,DA H x d
 | _,_,.nil,x,hx=>nomatch hx
 | _,_,.cons h t,x,hx=>by
  rcases List.mem_cons.mp hx with rfl | hx
  ·exact⟨_,List.mem_cons_self ..,h⟩
  ·obtain⟨d,h1,h2⟩:=das_mem t x hx;exact⟨d,List.mem_cons_of_mem _ h1,h2⟩
theorem bulk_len:∀ (ds:List PyData),ds.length≤PyData.bulkAll ds
 | []=>Nat.zero_le _
 | d::r=>by rw[PyData.bulkAll,List.length_cons];have:=bulk_len r;omega
theorem Ta.tups {a:Addr}{xs:List V}(h:Ta H k m (.ref a))(e:H a=some (.tup xs)):xs.length≤m∧∀ x∈xs,Ta H k m x:=by
 obtain⟨D,hD,hN⟩:=h;cases hD with
 | sc h=>cases h
 | @tup _ ys ds e2 hs =>
  rw[e] at e2;cases e2;have h4:=hN.bk;rw[PyData.bulk] at h4;refine⟨by rw[hs.len];exact Nat.le_trans (bulk_len ds) h4,fun x hx=>?_⟩;obtain⟨d,h1,h2⟩:=das_mem hs x hx;refine⟨d,h2,NAs.mem ⟨?_,?_,?_,h4⟩ d h1⟩
  ·have:=hN.sh;rw[PyData.showable] at this;exact this
  ·have:=hN.dp;rw[PyData.depth] at this;omega
  ·have:=hN.lv;rw[PyData.leavesShort] at this;exact this
 | lst e2 _=>rw[e] at e2;cases e2
 | dct e2 _=>rw[e] at e2;cases e2
theorem Ta.pld {n:Nat}{v:V}(h:Ta H k m v):PlD H n v:=let ⟨_,h1,_⟩:=h;h1.pld
end
theorem call_boolI {X:Cx}:CallR X (.type "bool") (fun xs H Q=>∃ i,xs=[.int i]∧Q (.bl (i != 0)) H):=by
 intro pins s σ H xs us Q I r h;obtain⟨i,rfl,q⟩:=h;obtain⟨u,rfl,t,rfl⟩:=vals1 r;exact PySem.call_bool_int ⟨.bl _,H,I,rfl,q⟩
end L2
end
section
namespace L2
open PySem PySem.Spec PyProof.Rows
def clr (cs:List Int)(v:Int):Int:=cs.getD v.toNat 0
def ownC (cs:List Int)(n:Int)(c:Int):List Int:=(rInts 0 n.toNat).filter fun v=>decide (clr cs v=c)
structure Pf (n:Int)(cs:List Int)(fs:List (Int×Int))(i:Int):Prop where
 nd:fs.Nodup
 rng:∀ t∈fs,0≤t.1∧t.1<t.2∧t.2<n
 a:∀ v,0≤v→v<i→∃ o,0≤o∧o<n∧clr cs o≠clr cs v∧mm v o∈fs
 b:∀ v,0≤v→v<i→(∃ u,0≤u∧u<v∧clr cs u=clr cs v)→∃ u,0≤u∧u<v∧clr cs u=clr cs v∧mm v u∈fs
structure Ptd (n:Int)(ts:List (Int×Int))(c0 c1:List Int):Prop where
 web:IsWeb n ts
 b0:Busy n ts c0
 b1:Busy n ts c1
 n0:c0.Nodup
 n1:c1.Nodup
 r0:∀ x∈c0,0≤x∧x<n
 r1:∀ x∈c1,0≤x∧x<n
 ap:∀ x,¬ (x∈c0∧x∈c1)
section
variable {n i:Int}{cs:List Int}{fs ts:List (Int×Int)}
theorem mm_rng {a b:Int}(h:a≠b)(a0:0≤a)(a1:a<n)(b0:0≤b)(b1:b<n):0≤(mm a b).1∧(mm a b).1<(mm a b).2∧(mm a b).2<n:=by
 unfold mm;dsimp only;split<;>split<;>omega
theorem Pf.add {t:Int×Int}(h:Pf n cs fs i)(ht:0≤t.1∧t.1<t.2∧t.2<n):Pf n cs (addT fs t) i:=by
 refine⟨nd_addT h.nd,fun u hu=>?_,fun v v0 v1=>?_,fun v v0 v1 hu=>?_⟩
 ·rcases mem_addT.mp hu with hu | rfl
  ·exact h.rng u hu
  ·exact ht
 ·obtain⟨o,h1,h2,h3,h4⟩:=h.a v v0 v1;exact⟨o,h1,h2,h3,mem_addT.mpr (.inl h4)⟩
 ·obtain⟨o,h1,h2,h3,h4⟩:=h.b v v0 v1 hu;exact⟨o,h1,h2,h3,mem_addT.mpr (.inl h4)⟩
theorem Pf.next (h:Pf n cs fs i)(ha:∃ o,0≤o∧o<n∧clr cs o≠clr cs i∧mm i o∈fs)(hb:(∃ u,0≤u∧u<i∧clr cs u=clr cs i)→∃ u,0≤u∧u<i∧clr cs u=clr cs i∧mm i u∈fs):Pf n cs fs (i+1):=by
 refine⟨h.nd,h.rng,fun v v0 v1=>?_,fun v v0 v1=>?_⟩
 ·by_cases e:v=i
  ·rw[e];exact ha
  ·exact h.a v v0 (by omega)
 ·by_cases e:v=i
  ·rw[e];exact hb
  ·exact h.b v v0 (by omega)
theorem mem_own {c x:Int}:x∈ownC cs n c↔(0≤x∧x<n)∧clr cs x=c:=by
 unfold ownC;rw[List.mem_filter,mem_rInts,decide_eq_true_iff];constructor
 ·rintro⟨h1,h2⟩;exact⟨⟨by omega,by omega⟩,h2⟩
 ·rintro⟨h1,h2⟩;exact⟨⟨by omega,by omega⟩,h2⟩
theorem Rch.wide {A B:Int→Prop}(h:∀ x,A x→B x){u x:Int}(r:Rch ts A u x):Rch ts B u x:=by
 induction r with
 | base=>exact .base
 | step _ h1 h2 ih=>exact .step ih h1 (h _ h2)
theorem Pf.ptd (h:Pf n cs fs n)(h4:4≤n)(h60:n≤60)(hl:fs.length≤200)(hc:∀ v,clr cs v=0∨clr cs v=1)(e0:clr cs 0=0)(e1:clr cs 1=1)(pm:ts.Perm fs)(hs:ts.Pairwise fun x y=>HT.lexLt (tl y) (tl x)=false):Ptd n ts (ownC cs n 0) (ownC cs n 1):=by
 have hok:TsOk n ts:=fun t ht=>h.rng t (pm.mem_iff.mp ht)
 have hlx:=lex_srt hs (pm.nodup_iff.mpr h.nd);have inN:∀ {a b:Int},mm a b∈fs→b∈nb ts a:=fun hm=>mm_nb hok (pm.mem_iff.mpr hm)
 have hng:∀ c,(c=0∨c=1)→Hng ts (ownC cs n c):=fun c hc'=>by
  have ec:clr cs c=c:=by rcases hc' with rfl | rfl<;>assumption
  have mc:c∈ownC cs n c:=mem_own.mpr ⟨by omega,ec⟩;refine hng_of hok mc fun y hy=>?_
  have key:∀ k:Nat,∀ v:Int,v≤k→0≤v→v<n→clr cs v=c→Rch ts (·∈ownC cs n c) c v:=by
   intro k;induction k with
   | zero =>
    intro v vk v0 v1 ev;have:v=c:=by
     have:v=0:=by omega
     subst this;rw[e0] at ev;exact ev
    rw[this];exact .base
   | succ k ih =>
    intro v vk v0 v1 ev;by_cases e:v=c
    ·rw[e];exact .base
    ·have hcv:c<v:=by
      rcases hc' with rfl | rfl
      ·omega
      ·by_cases z:v=0
       ·rw[z,e0] at ev;omega
       ·omega
     obtain⟨u,u0,u1,eu,hm⟩:=h.b v v0 v1 ⟨c,by omega,hcv,by rw[ec,ev]⟩;exact .step (ih u (by omega) u0 (by omega) (by rw[eu,ev])) ((nb_sym hok).mp (inN hm)) (mem_own.mpr ⟨⟨v0,v1⟩,ev⟩)
  obtain⟨⟨y0,y1⟩,ey⟩:=mem_own.mp hy;exact key y.toNat y (by omega) y0 y1 ey
 have tch:∀ c,(c=0∨c=1)→∀ x,0≤x→x<n→x∉ownC cs n c→∃ y∈nb ts x,y∈ownC cs n c:=fun c hc' x x0 x1 hx=>by
  obtain⟨o,o0,o1,eo,hm⟩:=h.a x x0 x1;have hxc:clr cs x≠c:=fun e=>hx (mem_own.mpr ⟨⟨x0,x1⟩,e⟩)
  refine⟨o,inN hm,mem_own.mpr ⟨⟨o0,o1⟩,?_⟩⟩;have:=hc x;have:=hc o;omega
 have hall:Hng ts (rInts 0 n.toNat):=by
  refine hng_of hok (u:=0) (mem_rInts.mpr ⟨by omega,by omega⟩) fun y hy=>?_
  have:=mem_rInts.mp hy;have sub:∀ x,x∈ownC cs n 0→x∈rInts 0 n.toNat:=fun x hx=>by
   obtain⟨⟨h0,h1⟩,_⟩:=mem_own.mp hx;exact mem_rInts.mpr ⟨by omega,by omega⟩
  have m0:(0:Int)∈ownC cs n 0:=mem_own.mpr ⟨by omega,e0⟩;by_cases hy0:y∈ownC cs n 0
  ·exact ((hng 0 (.inl rfl)).2 0 m0 y hy0).wide sub
  ·obtain⟨z,hz1,hz2⟩:=tch 0 (.inl rfl) y (by omega) (by omega) hy0;exact .step (((hng 0 (.inl rfl)).2 0 m0 z hz2).wide sub) ((nb_sym hok).mp hz1) hy
 have nd:∀ c,(ownC cs n c).Nodup:=fun c=>(rising_nd (rInts_lt _)).filter _
 exact⟨⟨by omega,h60,hok,hlx,by rw[pm.length_eq];exact hl,hng_conn hok hall⟩,⟨hng 0 (.inl rfl),tch 0 (.inl rfl)⟩,⟨hng 1 (.inr rfl),tch 1 (.inr rfl)⟩,nd 0,nd 1,fun x hx=>(mem_own.mp hx).1,fun x hx=>(mem_own.mp hx).1,fun x ⟨h0,h1⟩=>by
  have a:=(mem_own.mp h0).2;have b:=(mem_own.mp h1).2
  omega⟩
end
end L2
end
section
namespace L2
open PySem PySem.Spec PyProof.Rows
section
variable {X:Cx}{e st:Expr}{te ts:TE}{p2 pos:Pos}
theorem pe_revTX (K:PySem.W.Frag)(he:PE X e te)(hst:PE X st ts)(hK:X.K=K:=by rfl):PE X (.Subscript e (.Slice none none (some st) p2) pos) (tRevT K te ts):=by
 subst hK;intro pins s σ H Q I h;refine Subscript_ (thn (he pins s σ H _ I h) fun v s1 ⟨x,H1,I1,r1,q1⟩=>?_);refine wpAny_Slice ?_;rw[evalPart_none];refine wpAny_pure (wpAny_pure ?_);rw[evalPart_some];refine thn (hst pins s1 σ H1 _ I1 q1) fun vs s2 ⟨y,H2,I2,r2,a,xs,e1,hx,e2,q2⟩=>?_
 subst e1;subst e2;cases r1;obtain⟨tk,rfl⟩:=r2;have I3:Inv X pins σ H2 {s2 with heap:=s2.heap.push {cls:=.type "slice",data:=.fields #[.none,.none,.int (-1) tk]}}:=I2.kept (t':=s2.toks) fun b ob q=>Heap.get?_push_of_some _ q
 obtain⟨its,r,htup,hz⟩:=I3.tuple hx;have hlr:xs.reverse.length≤sizeLine:=by simpa using hz
 have fin:=HT.getItem_tuple_rev (prog:=X.prog) (w:=X.w) (A:=X.A) (E:=X.xe) (Q:=EP X pins σ Q) htup (Heap.IsSliceOf.new ..) ⟨.ref _,_,I3.laid (t':=s2.toks) (o:=.tup xs.reverse) (fun b o q=>Heap.get?_push_of_some _ q) (Nat.le_refl _) ⟨hlr,its.reverse,vals_rev r,⟨_,Heap.get?_push_size _ rfl,rfl,_,rfl⟩⟩,rfl,q2 _ I3.fresh⟩ (by rw[← r.length];exact hz);exact tail_any (ops:=[.ref a,.ref s2.heap.objs.size]) htup.typeIs PyProof.Rows.slot_tuple_getitem.lookup fin (by with_unfolding_all rfl)
end
end L2
end
section
local macro_rules | `(tactic| omega)=>`(tactic| first | lia | omega +splitDisjunctions)
set_option format.width 230
set_option pp.deepTerms true
set_option pp.maxSteps 20000
namespace K67
open PySem L2
local macro_rules | `(tactic| walk_at "rd")=>`(tactic| ((try simp only[L2.start,st0,List.map_cons,List.map_nil,List.length_cons,List.length_nil,List.replicate,List.cons_append,List.nil_append,Nat.reduceAdd,Nat.reduceSub,List.getElem?_cons_zero,List.getElem?_cons_succ,Option.join_some]);simp only[↓tSeqA,↓tAsgA,↓tOpA,↓tCA,↓tRetA,↓tRetNA,↓tIfSA,↓tTestA,↓tBA,↓tNextA,↓tDropA,↓tCallA,↓tConsA,↓tNilA,↓tCBA,↓tBMA,↓tBM0A,↓tTupA,↓tLstA,↓gTupA,↓gConsA,↓gNilA,↓gSubA,↓tSlA,↓tNoPartA,↓tPartA,↓tAndA,↓tOrA,↓tNotA,↓tDInA,↓tDNotInA,↓sDPutA,↓iListA,↓iTupA,↓iRng1A,↓iRng2A,↓tLCA,↓tDCA,↓tChainA,↓tAndVA,↓tOrVA,↓tNotVA,↓tUnA,↓tYesA,↓tDNewKA,↓tDNewTA,↓tIsNA,↓tNotNA,↓tV0,↓tV1,↓tV2,↓tV3,↓tV4,↓tV5,↓tV6,↓tV7,↓tV8,↓tV9,↓tV10,↓tV11,↓tV12,↓tV13,↓tV14,↓tV15,↓gN0,↓gN1,↓gN2,↓gN3,↓gN4,↓gN5,↓gN6,↓gN7,↓gN8,↓gN9,↓gN10,↓gN11,↓gN12,↓gN13,↓gN14,↓gN15,↓rI0i,↓rIi,↓rIxLr,↓rIxTr,↓exB,↓exI,↓exR,↓rEqI,↓rNeI,↓cLenR,rI,rI0,rAppend,rPop,rSetL,tRevL,tDisp,tPairs,rIxL,rIxT,rEq,rNe,cLen,cList,cTuple,cSortI,cSortT,cIsi,cAll,cSortSetT,iAny,cAny,rCatT1,iEnum,tRevT,rU,L2.start,st0,List.map_cons,List.map_nil,List.length_cons,List.length_nil,List.replicate,List.cons_append,List.nil_append,List.append_nil,List.getElem?_cons_zero,List.getElem?_cons_succ,List.set_cons_zero,List.set_cons_succ,Option.some.injEq,V.int.injEq,V.bl.injEq,V.ref.injEq,List.cons.injEq,and_true,true_and,exists_eq_left',exists_eq_left,exists_eq',exists_eq,Nat.reduceAdd,Nat.reduceSub,exists_and_left,and_self,Option.join_some,scal,decide_true,if_true,if_false,Bool.false_eq_true,Bool.not_true,Bool.not_false,tVar,gName]))
def top (i:Nat):Stmt:=PySem.Challenge.pw_manyleaves_k67_bent_trees_apart.main.body.getD i (.Pass ⟨0,0,0,0⟩)
section
variable {P:Program}{w:World}{K:PySem.W.Frag}{mg:Str→Option Value}{base:Heap}
set_option hygiene false
local macro_rules | `(tactic| walk_at "s") => `(tactic| exact⟨rfl,rfl,rfl,by decide +kernel,rfl,by decide +kernel,by decide +kernel⟩)
local macro_rules | `(tactic| walk_at "w") => `(tactic| with_unfolding_all rfl)
local macro_rules | `(tactic| walk_at "h") => `(tactic| ((repeat first | (obtain⟨rfl,h⟩:=h) | (obtain⟨_,h⟩:=h));rfl))
set_option hygiene true
theorem _root_.L2.Room.m {j k:Nat}{A:Around}(r:Room k A)(h:j≤k:=by decide):Room j A:=r.mono h
open PyProof.Rows (boot_all boot_bool boot_enumerate boot_int boot_isinstance boot_list boot_max boot_min boot_range boot_repr boot_set boot_sorted boot_tuple)
theorem sc_mixed:FnScope ["_law_cell","_law_k","_law_number"] ["_law_cell","_law_k"] (defScope (top 21)):=by walk_at "s"
theorem ok_mixed (F:Fun K "_law_mixed" "_law_mixed" (top 21) f fd)(B:Bt mg):FnOk P w K mg base CX0 1 f fd ["_law_cell","_law_k"] sp_mixed:=by
 refine F.ok sc_mixed (fun vs H Q E h=>?_) (fun cdv A outer s H vs Q E hr h=>?_)
 ·walk_at "h"
 ·obtain⟨c,k,rfl,hk0,hk1,q⟩:=h;have nd:=sc_mixed.nd;have hu:=hu_of hr
  refine⟨_,(@pss_cons _ _ _ _ _ (ps_set (i:=2) nd rfl (.inl rfl) (@pe_op _ _ _ _ _ _ _ _ op_mod (@pe_op _ _ _ _ _ _ _ _ op_add (@pe_op _ _ _ _ _ _ _ _ op_add (pv 0) (@pe_op _ _ _ _ _ _ _ _ op_mul (@pe_op _ _ _ _ _ _ _ _ op_mul (pv 1) (pv 1)) pe_int)) pe_int) pe_int))
    (@pss_cons _ _ _ _ _ (ps_set (i:=2) nd rfl (.inl rfl) (@pe_op _ _ _ _ _ _ _ _ op_mod (@pe_op _ _ _ _ _ _ _ _ op_mul (pv 2) (pv 2)) pe_int))
    (@pss_cons _ _ _ _ _ (ps_set (i:=2) nd rfl (.inl rfl) (@pe_op _ _ _ _ _ _ _ _ op_mod (@pe_op _ _ _ _ _ _ _ _ op_mul (@pe_op _ _ _ _ _ _ _ _ op_add (@pe_op _ _ _ _ _ _ _ _ op_add (pv 2) (@pe_op _ _ _ _ _ _ _ _ op_mul (pv 1) pe_int)) pe_int) pe_int) pe_int))
    (@pss_one _ _ _ (ps_ret (@pe_op _ _ _ _ _ _ _ _ op_fdiv (@pe_op _ _ _ _ _ _ _ _ op_mod (@pe_op _ _ _ _ _ _ _ _ op_mul (pv 2) (pv 2)) pe_int) pe_int)))))),?_⟩
  walk_at "rd";have hm:∀ x:Int,0≤x % 2305843009213693951∧x % 2305843009213693951<2305843009213693951:=fun x=>⟨Int.emod_nonneg _ (by decide),Int.emod_lt_of_pos _ (by decide)⟩
  have small:∀ x y:Int,CMul (x % 2305843009213693951) y:=fun x y=>.inl ⟨by have:=hm x;omega,by have:=hm x;omega⟩
  have pos:(0:Int)<2305843009213693951:=by decide
  exact⟨.inl ⟨by omega,by omega⟩,.inr ⟨by decide,by decide⟩,pos,small _ _,pos,.inl ⟨by omega,by omega⟩,.inr ⟨by decide,by decide⟩,pos,small _ _,pos,⟨by decide,by decide⟩,q _⟩
theorem sc_next:FnScope ["_law_deck_here"] ["_law_deck_here"] (defScope (top 23)):=by walk_at "s"
theorem ok_next (F:Fun K "_law_next" "_law_next" (top 23) f fd)(B:Bt mg):FnOk P w K mg base CX0 1 f fd ["_law_deck_here"] sp_next:=by
 refine F.ok sc_next (fun vs H Q E h=>?_) (fun cdv A outer s H vs Q E hr h=>?_)
 ·walk_at "h"
 ·obtain⟨d,ns,rfl,hd,q⟩:=h;have nd:=sc_next.nd;have hu:=hu_of hr
  refine⟨_,(@pss_cons _ _ _ _ _ (@ps_if _ _ _ _ _ _ _ _ (pt_cmpR op_gt (pe_callB (lenK K) (by rfl) B.len PySem.boot_len (@pa_cons _ _ _ _ _ (pv 0) pa_nil (by rfl))) pe_int (nomark _))
     (@pss_one _ _ _ (ps_ret (popK K (pv 0))))
     pss_nil)
    (@pss_one _ _ _ (ps_ret pe_int))),?_⟩
  walk_at "rd";refine⟨ns.map V.int,.inl (SqL.of hd),ite2 (fun h=>?_) fun h=>?_⟩
  ·refine⟨.inl ⟨rfl,_,SqL.of hd⟩,?_⟩;have hne:ns≠[]:=fun e=>by subst e;simp at h
   have h1:(ns.map V.int)[(ns.map V.int).length-1]?=some (V.int (ns.getLast hne)):=by
    rw[List.length_map,List.getElem?_map,← List.getLast?_eq_getElem?,List.getLast?_eq_some_getLast hne];rfl
   refine⟨ns.map V.int,hd,_,h1,?_⟩;rw[← List.map_dropLast];exact q _ _ (by rw[List.length_dropLast];omega) (fun x hx=>List.dropLast_subset _ hx) (.inr (List.getLast_mem hne))
  ·have e:upd H d (.lst (ns.map V.int))=H:=upd_self hd;have:=q 0 ns (Nat.le_refl _) (fun _ h=>h) (.inl rfl);rw[e] at this;exact this
def inv_deck (H:Hp)(a p4 p5 p6:Addr)(m:Int)(os:List Int)(i:Nat)(σ:St)(Hc:Hp):Prop:=∃ (kv av:Option V) (rs ds:List Int),σ=[some (.ref a),some (.int m),some (.ref p4),some (.ref p5),some (.ref p6),kv,av]∧Same H Hc∧Hc p4=some (.lst (os.map V.int)) ∧
 Hc p5=some (.lst (rs.map V.int))∧rs.length=os.length∧Hc p6=some (.lst (ds.map V.int))∧ds.length=i∧(∀ x∈ds,0≤x∧x<1000)
theorem sc_deck:FnScope ["_law_script","_law_many","_law_own","_law_rest","_law_deck_here","_law_k","_law_at"] ["_law_script","_law_many"] (defScope (top 22)):=by walk_at "s"
theorem ok_deck (F:Fun K "_law_deck" "_law_deck" (top 22) f fd)(B:Bt mg)(D1:Df K mg "_law_mixed" st1 f1 fd1 ["_law_cell","_law_k"])(G1:FnOk P w K mg base CX0 1 f1 fd1 ["_law_cell","_law_k"] sp_mixed):FnOk P w K mg base CX0 2 f fd ["_law_script","_law_many"] (sp_deck K):=by
 refine F.ok sc_deck (fun vs H Q E h=>?_) (fun cdv A outer s H vs Q E hr h=>?_)
 ·walk_at "h"
 ·obtain⟨a,m,ns,rfl,hS,hl,hm0,hm1,q⟩:=h;have nd:=sc_deck.nd;have hu:=hu_of hr
  refine⟨_,(@pss_cons _ _ _ _ _ (ps_set (i:=2) nd rfl (.inl rfl) (@pe_op _ _ _ _ _ _ _ _ op_cat (pe_callTy (listK K) (by rfl) B.list boot_list (@pa_cons _ _ _ _ _ (pe_slice (sl_listK K) (pv 0) po_none (po_some pe_int)) pa_nil (by rfl))) (@pe_op _ _ _ _ _ _ _ _ op_rep (@pe_lst _ _ _ _ (@pa_cons _ _ _ _ _ pe_int pa_nil (by rfl))) (pe_callTy call_intB (by rfl) B.int boot_int (@pa_cons _ _ _ _ _ (pe_cmpR op_eq (pe_callB (lenK K) (by rfl) B.len PySem.boot_len (@pa_cons _ _ _ _ _ (pv 0) pa_nil (by rfl))) pe_int (nomark _)) pa_nil (by rfl))))))
    (@pss_cons _ _ _ _ _ (ps_setLC (i:=3) (own:=["_law_cell"]) (fr:=[]) rfl nd rfl rfl (by walk_at "w") (by walk_at "w") frOk_nil (pi_listK K (pv 2)) ⟨fun _ _ _ _=>⟨(pg_name (i:=0) (show List.Nodup (["_law_cell"]:List Str) by decide +kernel) rfl (.inl rfl)),pts_nil,(@pe_ix _ _ _ _ _ _ _ (ix_listK K) (@pe_lst _ _ _ _ (@pa_cons _ _ _ _ _ pe_int (@pa_cons _ _ _ _ _ (pv 0) pa_nil (by rfl)) (by rfl))) (pe_callTy call_intB (by rfl) B.int boot_int (@pa_cons _ _ _ _ _ (pe_cmpR op_ge (pv 0) (@pe_op _ _ _ _ _ _ _ _ op_pow pe_int pe_int) (nomark _)) pa_nil (by rfl))) (fun _ _=>rfl))⟩⟩)
    (@pss_cons _ _ _ _ _ (ps_set (i:=4) nd rfl (.inl rfl) (@pe_lst _ _ _ _ pa_nil))
    (@pss_cons _ _ _ _ _ (ps_for PassesOwn.never rfl (pi_range1 (by rfl) B.range (@pa_cons _ _ _ _ _ (pv 1) pa_nil (by rfl))) (pg_name (i:=5) nd rfl (.inl rfl))
     (@pss_cons _ _ _ _ _ (ps_set (i:=6) nd rfl (.inl rfl) (@pe_op _ _ _ _ _ _ _ _ op_mod (pv 5) (pe_callB (lenK K) (by rfl) B.len PySem.boot_len (@pa_cons _ _ _ _ _ (pv 2) pa_nil (by rfl)))))
     (@pss_one _ _ _ (@ps_if _ _ _ _ _ _ _ _ (pt_cmpR op_gt (@pe_ix _ _ _ _ _ _ _ (ix_listK K) (pv 3) (pv 6) (fun _ _=>rfl)) pe_int (nomark _))
      (@pss_cons _ _ _ _ _ (ps_expr (appendK K (pv 4) (@pa_cons _ _ _ _ _ (@pe_op _ _ _ _ _ _ _ _ op_mod (@pe_ix _ _ _ _ _ _ _ (ix_listK K) (pv 3) (pv 6) (fun _ _=>rfl)) pe_int) pa_nil (by rfl))))
      (@pss_one _ _ _ (@ps_asg _ _ _ _ _ _ (@pe_op _ _ _ _ _ _ _ _ op_fdiv (@pe_ix _ _ _ _ _ _ _ (ix_listK K) (pv 3) (pv 6) (fun _ _=>rfl)) pe_int) (pg_sub (pv 3) (pv 6) set_list) (by rfl) (by rfl) (by rfl))))
      (@pss_one _ _ _ (ps_expr (appendK K (pv 4) (@pa_cons _ _ _ _ _ (@pe_op _ _ _ _ _ _ _ _ op_mod (pe_own G1 D1 hr.m (@pa_cons _ _ _ _ _ (@pe_ix _ _ _ _ _ _ _ (ix_listK K) (pv 2) (pv 6) (fun _ _=>rfl)) (@pa_cons _ _ _ _ _ (@pe_op _ _ _ _ _ _ _ _ op_add (pv 5) pe_int) pa_nil (by rfl)) (by rfl))) pe_int) pa_nil (by rfl)))))))))
    (@pss_one _ _ _ (ps_ret (pe_listrev hr.hd (by rfl) B.list (by rfl) B.reversed (pv 4)))))))),?_⟩
  walk_at "rd";refine⟨a,ns.map V.int,rfl,hS,fun p1 n1=>⟨p1,rfl,_,.inl (SqL.of upd_same),fun l nl=>⟨by decide,fun p2 n2=>?_⟩⟩⟩;have s1:=(Same.refl H).upd (o:=.lst (cutV (ns.map V.int) none (some 60))) n1;have s2:=s1.upd (o:=.lst (cutV (ns.map V.int) none (some 60))) (s1.free nl);have s3:=s2.upd (o:=.lst [V.int 0]) (s2.free n2);refine⟨ns.map V.int,.inl (s3.seq hS),p2,_,_,rfl,rfl,upd_same,?_,?_,?_,fun p3 n3=>?_⟩
  ·split<;>decide
  ·split<;>decide
  ·rw[sizeLine_eq];split<;>decide
  have s4:=s3.upd (o:=.lst (List.replicate (if decide ((ns.map V.int).length=(0:Int))=true then (1:Int) else 0).toNat [V.int 0]).flatten) (s3.free n3);have hlp:l≠p2:=fun e=>by subst e;rw[upd_same] at n2;cases n2
  have hl3:l≠p3:=fun e=>by subst e;rw[upd_ne hlp,upd_same] at n3;cases n3
  obtain⟨os,eo,ho1,ho2⟩:∃ os:List Int,cutV (ns.map V.int) none (some 60)++(List.replicate (if decide ((ns.map V.int).length=(0:Int))=true then (1:Int) else 0).toNat [V.int 0]).flatten=os.map V.int∧1≤os.length∧os.length≤64:=by
   by_cases e:ns=[]
   ·subst e;exact⟨[0],rfl,by decide,by decide⟩
   ·have hne:¬ ((ns.map V.int).length:Int)=0:=by rw[List.length_map];have:=List.length_pos_iff.mpr e;omega
    rw[decide_eq_false hne];refine⟨ns.take 60,?_,?_,?_⟩
    ·have h60:HT.sIx (ns.map V.int).length (ns.map V.int).length (some 60)=min 60 ns.length:=by rw[show (60:Int)=((60:Nat):Int) from rfl,HT.sIx_nat,List.length_map]
     unfold cutV;rw[HT.sIx_none,List.drop_zero,h60,Nat.sub_zero];simp only[Bool.false_eq_true,if_false,Int.toNat_zero,List.replicate,List.flatten_nil,List.append_nil];rw[← List.map_take];congr 1;by_cases h:60≤ns.length
     ·rw[Nat.min_eq_left h]
     ·rw[Nat.min_eq_right (by omega),List.take_of_length_le (Nat.le_refl _),List.take_of_length_le (by omega)]
    ·have:=List.length_pos_iff.mpr e;rw[List.length_take];omega
    ·rw[List.length_take];omega
  refine⟨l,p3,_,_,rfl,rfl,by rw[upd_ne hl3,upd_ne hlp,upd_same],upd_same,?_,fun p4 n4=>?_⟩
  ·have:=congrArg List.length eo;have e2:(os.map V.int).length=os.length:=List.length_map _;rw[List.length_append] at this;rw[sizeLine_eq];omega
  rw[eo];have s5:=s4.upd (o:=.lst (os.map V.int)) (s4.free n4);generalize hH5:upd (upd (upd (upd (upd H p1 (HO.lst (cutV (ns.map V.int) none (some 60)))) l (HO.lst (cutV (ns.map V.int) none (some 60)))) p2 (HO.lst [V.int 0])) p3 (HO.lst (List.replicate (if decide ((ns.map V.int).length=(0:Int))=true then (1:Int) else 0).toNat [V.int 0]).flatten)) p4 (HO.lst (os.map V.int))=H5 at s5 ⊢;have h4:H5 p4=some (.lst (os.map V.int)):=by rw[← hH5];exact upd_same
  refine⟨p4,rfl,⟨_,SqL.of h4⟩,fun p5 n5=>lc_list (K:=K) (xs:=os.map V.int) (fun i τ Hc=>∃ (c:Option V) (rs:List Int),τ=[c]∧Same H5 Hc∧Hc p5=some (.lst (rs.map V.int))∧rs.length=i)
   ⟨none,[],rfl,(Same.refl H5).upd n5,upd_same,rfl⟩ (fun i τ Hc _ ⟨_,_,_,sc,_⟩=>SqL.of (sc _ _ h4)) ?_ ?_⟩
  ·rintro i x τ Hc hx ⟨c,rs,rfl,sc,h5,hi⟩ _;have hil:i<os.length:=by have:=(List.getElem?_eq_some_iff.mp hx).1;rw[List.length_map] at this;exact this
   obtain⟨z,rfl⟩:∃ z,x=V.int z:=by
    rw[List.getElem?_map] at hx;cases e:os[i]? with
    | none=>rw[e] at hx;cases hx
    | some z=>rw[e] at hx;exact⟨z,(Option.some.inj hx).symm⟩
   walk_at "rd";refine⟨by decide,fun p n=>⟨⟨by decide,by decide,by decide⟩,?_⟩⟩;have h5':∀ o,(upd Hc p o) p5=some (.lst (rs.map V.int)):=fun o=>by rw[upd_ne (ne_of_none h5 n)];exact h5
   refine⟨[V.int 0,V.int z],SqL.of upd_same,?_⟩;generalize decide ((10:Int) ^ Int.toNat 18≤z)=b;obtain⟨y,hy⟩:∃ y:Int,atI [V.int 0,V.int z] (if b=true then 1 else 0)=some (V.int y):=by
    cases b
    ·exact⟨0,rfl⟩
    ·exact⟨z,rfl⟩
   refine⟨_,hy,_,h5' _,?_,(sc.upd (sc.free n)).upd n5,rs++[y],?_,?_⟩
   ·rw[List.length_map];exact sizeBig (by omega)
   ·rw[upd_same,List.map_append];rfl
   ·rw[List.length_append,hi];rfl
  ·rintro τ H6 ⟨c,rs,rfl,s6,h5,hrs⟩;rw[List.length_map] at hrs;refine⟨by decide,fun p6 n6=>?_⟩;have s06:Same H H6:=s5.trans s6;have h46:H6 p4=some (.lst (os.map V.int)):=s6 _ _ h4;have n45:p4≠p5:=ne_of_none h4 n5;have n46:p4≠p6:=ne_of_none h46 n6;have n56:p5≠p6:=ne_of_none h5 n6
   refine⟨_,rfl,m,rfl,by omega,by omega,for_range (lo:=0) (n:=m.toNat) (inv_deck H a p4 p5 p6 m os)
    ⟨none,none,rs,[],rfl,s06.upd (s06.free n6),by rw[upd_ne n46];exact h46,by rw[upd_ne n56];exact h5,hrs,upd_same,rfl,fun x hx=>(by cases hx)⟩ ?_ ?_⟩
   ·rintro i σ Hc hi ⟨kv,av,rs,ds,rfl,sc,c4,c5,hrl,c6,hdl,hdb⟩;have hoi:(0:Int)<(os.map V.int).length:=by rw[List.length_map];omega
    have hat:∃ j:Nat,j<os.length∧(0+(i:Int)) % ((os.map V.int).length:Int)=(j:Int):=by
     have h1:=Int.emod_nonneg (0+(i:Int)) (b:=((os.map V.int).length:Int)) (by omega);have h2:=Int.emod_lt_of_pos (0+(i:Int)) hoi;refine⟨((0+(i:Int)) % ((os.map V.int).length:Int)).toNat,?_,by omega⟩;rw[List.length_map] at h2 ⊢;omega
    obtain⟨j,hj,ej⟩:=hat;have atR:∀ (l:List Int),l.length=os.length→∃ z,atI (l.map V.int) (j:Int)=some (V.int z):=fun l e=>by
     have hjl:j<l.length:=by omega
     exact⟨l[j],atI_nat (by rw[List.getElem?_map,List.getElem?_eq_getElem hjl];rfl)⟩
    obtain⟨z,hz⟩:=atR rs hrl;obtain⟨z',hz'⟩:=atR os rfl;have n65:p6≠p5:=n56.symm;have hdb2:∀ y:Int,∀ x∈ds++[y % 1000],0≤x∧x<1000:=fun y x hx=>by
     rcases List.mem_append.mp hx with hx | hx
     ·exact hdb x hx
     ·rw[List.mem_singleton.mp hx];omega
    have n64:p6≠p4:=n46.symm;have hdl2:(ds.map V.int).length<sizeLine:=by rw[List.length_map];exact sizeBig (by omega)
    have c5':∀ o,(upd Hc p6 o) p5=some (.lst (rs.map V.int)):=fun o=>by rw[upd_ne n56];exact c5
    have hm6:H p6=none:=s06.free n6;have hm5:H p5=none:=(s5.free n5)
    walk_at "rd";refine⟨_,.inl (SqL.of c4),hoi,_,SqL.of c5,?_⟩;rw[ej];refine⟨_,hz,z,rfl,ite2 (fun _=>?_) fun _=>?_⟩
    ·refine⟨.inl ⟨rfl,_,SqL.of c6⟩,_,SqL.of c5,_,hz,z,rfl,by decide,_,c6,hdl2,_,SqL.of (c5' _),_,hz,z,rfl,⟨by decide,by decide⟩,?_⟩;have hix:ixN (rs.map V.int).length (j:Int)=some j:=by
      unfold ixN;rw[List.length_map,if_pos (by omega),if_pos (by omega)];simp
     refine⟨_,c5' _,j,hix,?_⟩;refine⟨_,_,rs.set j (z / 1000),ds++[z % 1000],rfl,(sc.upd hm6).upd hm5,by rw[upd_ne n45,upd_ne n46];exact c4,by rw[upd_same,List.map_set],by rw[List.length_set];exact hrl,?_,by rw[List.length_append,hdl];rfl,hdb2 z⟩;rw[upd_ne n65,upd_same,List.map_append];rfl
    ·refine⟨.inl ⟨rfl,_,SqL.of c6⟩,_,SqL.of c4,_,hz',z',_,rfl,by omega,by omega,fun y=>?_⟩;walk_at "rd";refine⟨by decide,_,c6,hdl2,?_⟩;refine⟨_,_,rs,ds++[y % 1000],rfl,sc.upd hm6,by rw[upd_ne n46];exact c4,by rw[upd_ne n56];exact c5,hrl,by rw[upd_same,List.map_append];rfl,by rw[List.length_append,hdl];rfl,hdb2 y⟩
   ·rintro σ Hc ⟨kv,av,rs,ds,rfl,sc,c4,c5,hrl,c6,hdl,hdb⟩;walk_at "rd";refine⟨_,c6,fun p7 n7=>?_⟩;rw[← List.map_reverse];exact q p7 ds.reverse _ ⟨by rw[List.length_reverse];omega,fun x hx=>hdb x (List.mem_reverse.mp hx)⟩ (sc.upd (sc.free n7)) (sc.free n7) upd_same
def inv_near (H:Hp)(w0 p:Addr)(n:Int)(ts:List (Int×Int))(i:Nat)(σ:St)(Hc:Hp):Prop:=∃ (av bv:Option V) (as:List Addr),σ=[some (.ref w0),some (.ref p),av,bv]∧FrAt H Hc p as (rowsOf n (ts.take i))
def inv_near2 (H:Hp)(p:Addr)(n:Int)(ts:List (Int×Int))(i:Nat)(τ:St)(Hc:Hp):Prop:=∃ (c:Option V) (as:List Addr),τ=[c]∧FrAt H Hc p as ((rowsOf n ts).take i)
theorem sc_near:FnScope ["_law_web_here","_law_near_here","_law_one","_law_other"] ["_law_web_here"] (defScope (top 26)):=by walk_at "s"
theorem ok_near (F:Fun K "_law_near" "_law_near" (top 26) f fd)(B:Bt mg):FnOk P w K mg base CX0 1 f fd ["_law_web_here"] sp_near:=by
 refine F.ok sc_near (fun vs H Q E h=>?_) (fun cdv A outer s H vs Q E hr h=>?_)
 ·walk_at "h"
 ·obtain⟨w0,n,ts,rfl,hw,hn0,hn1,htl,hok,hsr,q⟩:=h;have nd:=sc_near.nd;have hu:=hu_of hr
  refine⟨_,(@pss_cons _ _ _ _ _ (ps_setLC (i:=1) (own:=["_law_place"]) (fr:=[]) rfl nd rfl rfl (by walk_at "w") (by walk_at "w") frOk_nil (pi_range1 (by rfl) B.range (@pa_cons _ _ _ _ _ (@pe_ix _ _ _ _ _ _ _ (ix_tupK K) (pv 0) pe_int (fun _ _=>rfl)) pa_nil (by rfl))) ⟨fun _ _ _ _=>⟨(pg_name (i:=0) (show List.Nodup (["_law_place"]:List Str) by decide +kernel) rfl (.inl rfl)),pts_nil,(@pe_lst _ _ _ _ pa_nil)⟩⟩)
    (@pss_cons _ _ _ _ _ (ps_for PassesOwn.never rfl (pi_tupK K (@pe_ix _ _ _ _ _ _ _ (ix_tupK K) (pv 0) pe_int (fun _ _=>rfl))) (pg_tupK K (n:=2) rfl (pgs_cons (pg_name (i:=2) nd rfl (.inl rfl)) (pgs_cons (pg_name (i:=3) nd rfl (.inl rfl)) pgs_nil)))
     (@pss_cons _ _ _ _ _ (ps_expr (appendK K (@pe_ix _ _ _ _ _ _ _ (ix_listK K) (pv 1) (pv 2) (fun _ _=>rfl)) (@pa_cons _ _ _ _ _ (pv 3) pa_nil (by rfl))))
     (@pss_one _ _ _ (ps_expr (appendK K (@pe_ix _ _ _ _ _ _ _ (ix_listK K) (pv 1) (pv 3) (fun _ _=>rfl)) (@pa_cons _ _ _ _ _ (pv 2) pa_nil (by rfl)))))))
    (@pss_one _ _ _ (ps_ret (pe_lcomp (own:=["_law_row"]) (fr:=[]) rfl (by walk_at "w") frOk_nil (pi_listK K (pv 1)) ⟨fun _ _ _ _=>⟨(pg_name (i:=0) (show List.Nodup (["_law_row"]:List Str) by decide +kernel) rfl (.inl rfl)),pts_nil,(pe_callB (sortedIK K hr.hd) (by rfl) B.sorted boot_sorted (@pa_cons _ _ _ _ _ (pv 0) pa_nil (by rfl)))⟩⟩))))),?_⟩
  walk_at "rd";obtain⟨q0,hw0,ht⟩:=hw;obtain⟨xs,hx0,hxl,hxs⟩:=ht.get;refine⟨_,SqT.of hw0,_,rfl,n,rfl,by omega,by omega,fun p np=>lc_range (inv_rows1 H p) ?_ ?_ ?_⟩
  ·exact⟨none,[],rfl,(Same.refl H).upd np,np,(fun a ha=>by cases ha),RowsAt.nil upd_same⟩
  ·rintro i τ Hc hi ⟨c,as,rfl,fr⟩;walk_at "rd";refine⟨by decide,fun pq nq=>⟨_,at_new fr.rows.top nq,?_,?_⟩⟩
   ·rw[List.length_map,fr.rows.len,List.length_replicate];exact sizeBig (by omega)
   ·have:=fr.rows.snoc nq (r:=[]);refine⟨_,as++[pq],rfl,(fr.same.upd (fr.same.free nq)).upd np,np,fun a ha=>?_,?_⟩
    ·rcases List.mem_append.mp ha with ha | ha
     ·exact fr.na a ha
     ·cases List.mem_singleton.mp ha;exact fr.same.free nq
    ·rw[List.map_append] at this;rw[List.replicate_succ'];exact this
  ·rintro τ H2 ⟨c,as,rfl,fr⟩;rw[← rowsOf_nil] at fr;refine⟨_,rfl,_,_,1,_,rfl,rfl,SqT.of (fr.same _ _ hw0),rfl,_,rfl,⟨_,SqT.of (fr.same _ _ hx0)⟩,for_tup (xs:=xs) (inv_near H w0 p n ts) ⟨none,none,as,rfl,by rw[List.take_zero];exact fr⟩ ?_ ?_ ?_⟩
   ·rintro i σ Hc _ ⟨_,_,_,rfl,fr⟩;exact SqT.of (fr.same _ _ hx0)
   ·rintro i v σ Hc hv ⟨av,bv,as,rfl,fr⟩;obtain⟨a,t,rfl,hti,hta⟩:=hxs i v hv;obtain⟨t0,t1,t2⟩:=hok t (List.mem_of_getElem? hti);obtain⟨a1,a2,i1,c1,tp1,i2,c2,fr2⟩:=fr.step t0 t1 t2;have l1:∀ v,((nb (ts.take i) v).map V.int).length<sizeLine:=fun v=>by
     rw[List.length_map];have:=nb_len (ts:=ts.take i) v;rw[List.length_take] at this;exact sizeBig (by omega)
    walk_at "rd";refine⟨_,SqT.of (fr.same _ _ hta),rfl,_,_,rfl,_,_,rfl,rfl,_,_,rfl,SqL.of fr.rows.top,_,i1,.inl ⟨rfl,_,SqL.of c1⟩,_,rfl,_,c1,l1 _,_,_,rfl,SqL.of tp1,_,i2,.inl ⟨rfl,_,SqL.of c2⟩,_,rfl,_,c2,l1 _,_,_,as,rfl,?_⟩;rw[List.take_succ,hti];exact fr2
   ·rintro σ Hc ⟨av,bv,as,rfl,fr⟩;rw[hxl,List.take_length] at fr;walk_at "rd";refine⟨⟨_,SqL.of fr.rows.top⟩,fun p2 n2=>lc_list (K:=K) (xs:=as.map V.ref) (inv_near2 Hc p2 n ts) ?_ ?_ ?_ ?_⟩
    ·exact⟨none,[],rfl,(Same.refl Hc).upd n2,n2,(fun a ha=>by cases ha),RowsAt.nil upd_same⟩
    ·rintro i τ H4 _ ⟨_,_,rfl,fr4⟩;exact SqL.of (fr4.same _ _ fr.rows.top)
    ·rintro i v τ H4 hv ⟨c,bs,rfl,fr4⟩ _;have hil:i<n.toNat:=by
      have:=(List.getElem?_eq_some_iff.mp hv).1;rw[List.length_map,fr.rows.len,rowsOf_len] at this;exact this
     have hri:=rowsOf_get (n:=n) (ts:=ts) (v:=(i:Int)) (by omega) (by omega);rw[Int.toNat_natCast] at hri;rw[List.getElem?_map] at hv;cases ha:as[i]? with
     | none=>rw[ha] at hv;cases hv
     | some a =>
     rw[ha] at hv;cases Option.some.inj hv;have hra:=fr4.same _ _ (fr.rows.row i a _ ha hri);walk_at "rd";refine⟨_,⟨Nat.lt_succ_of_lt (nb_64 hok hsr hn1 _),.inl (SqL.of hra)⟩,fun ns' l pm hs nl=>?_⟩;have e:ns'=nb ts (i:Int):=sorted_self pm hs (nb_lt hok hsr _);subst e;refine⟨_,at_new fr4.rows.top nl,?_,_,bs++[l],rfl,(fr4.same.upd (fr4.same.free nl)).upd n2,n2,fun b hb=>?_,?_⟩
     ·rw[List.length_map,fr4.rows.len,List.length_take,rowsOf_len];exact sizeBig (by omega)
     ·rcases List.mem_append.mp hb with hb | hb
      ·exact fr4.na b hb
      ·cases List.mem_singleton.mp hb;exact fr4.same.free nl
     ·have:=fr4.rows.snoc nl (r:=nb ts (i:Int));rw[List.map_append] at this;rw[List.take_succ,hri];exact this
    ·rintro τ H4 ⟨c,bs,rfl,fr4⟩;rw[List.length_map,fr.rows.len,List.take_length] at fr4;exact q p2 bs H4 (fr.same.trans fr4.same) (fr.same.free n2) (fun b hb=>fr.same.free (fr4.na b hb)) fr4.rows
def inv_nrows (H:Hp)(w0 q0 p:Addr)(n:Int)(ts:List (Int×Int))(i:Nat)(σ:St)(Hc:Hp):Prop:=∃ (av bv:Option V) (as:List Addr),σ=[some (.ref w0),some (.int n),some (.ref q0),some (.ref p),av,bv]∧FrAt H Hc p as (rowsOf n (ts.take i))
theorem sc_nrows:FnScope ["web","places","ties","rows","a","b"] ["web"] (defScope (top 8)):=by walk_at "s"
theorem ok_nrows (F:Fun K "neighbour_rows" "neighbour_rows" (top 8) f fd)(B:Bt mg):FnOk P w K mg base CX0 1 f fd ["web"] sp_nrows:=by
 refine F.ok sc_nrows (fun vs H Q E h=>?_) (fun cdv A outer s H vs Q E hr h=>?_)
 ·walk_at "h"
 ·obtain⟨w0,n,ts,rfl,hw,hn0,hn1,htl,hok,q⟩:=h;have nd:=sc_nrows.nd;have hu:=hu_of hr
  refine⟨_,(@pss_cons _ _ _ _ _ (@ps_asg _ _ _ _ _ _ (pv 0) (pg_tupK K (n:=2) rfl (pgs_cons (pg_name (i:=1) nd rfl (.inl rfl)) (pgs_cons (pg_name (i:=2) nd rfl (.inl rfl)) pgs_nil))) (by rfl) (by rfl) (by rfl))
    (@pss_cons _ _ _ _ _ (ps_setLC (i:=3) (own:=["place"]) (fr:=[]) rfl nd rfl rfl (by walk_at "w") (by walk_at "w") frOk_nil (pi_range1 (by rfl) B.range (@pa_cons _ _ _ _ _ (pv 1) pa_nil (by rfl))) ⟨fun _ _ _ _=>⟨(pg_name (i:=0) (show List.Nodup (["place"]:List Str) by decide +kernel) rfl (.inl rfl)),pts_nil,(@pe_lst _ _ _ _ pa_nil)⟩⟩)
    (@pss_cons _ _ _ _ _ (ps_for PassesOwn.never rfl (pi_tupK K (pv 2)) (pg_tupK K (n:=2) rfl (pgs_cons (pg_name (i:=4) nd rfl (.inl rfl)) (pgs_cons (pg_name (i:=5) nd rfl (.inl rfl)) pgs_nil)))
     (@pss_cons _ _ _ _ _ (ps_expr (appendK K (@pe_ix _ _ _ _ _ _ _ (ix_listK K) (pv 3) (pv 4) (fun _ _=>rfl)) (@pa_cons _ _ _ _ _ (pv 5) pa_nil (by rfl))))
     (@pss_one _ _ _ (ps_expr (appendK K (@pe_ix _ _ _ _ _ _ _ (ix_listK K) (pv 3) (pv 5) (fun _ _=>rfl)) (@pa_cons _ _ _ _ _ (pv 4) pa_nil (by rfl)))))))
    (@pss_one _ _ _ (ps_ret (pv 3)))))),?_⟩
  walk_at "rd";obtain⟨q0,hw0,ht⟩:=hw;obtain⟨xs,hx0,hxl,hxs⟩:=ht.get;refine⟨_,SqT.of hw0,rfl,_,_,rfl,_,_,rfl,rfl,n,rfl,by omega,by omega,fun p np=>lc_range (inv_rows1 H p) ?_ ?_ ?_⟩
  ·exact⟨none,[],rfl,(Same.refl H).upd np,np,(fun a ha=>by cases ha),RowsAt.nil upd_same⟩
  ·rintro i τ Hc hi ⟨c,as,rfl,fr⟩;walk_at "rd";refine⟨by decide,fun pq nq=>⟨_,at_new fr.rows.top nq,?_,?_⟩⟩
   ·rw[List.length_map,fr.rows.len,List.length_replicate];exact sizeBig (by omega)
   ·have:=fr.rows.snoc nq (r:=[]);refine⟨_,as++[pq],rfl,(fr.same.upd (fr.same.free nq)).upd np,np,fun a ha=>?_,?_⟩
    ·rcases List.mem_append.mp ha with ha | ha
     ·exact fr.na a ha
     ·cases List.mem_singleton.mp ha;exact fr.same.free nq
    ·rw[List.map_append] at this;rw[List.replicate_succ'];exact this
  ·rintro τ H2 ⟨c,as,rfl,fr⟩;rw[← rowsOf_nil] at fr;refine⟨_,rfl,_,rfl,⟨_,SqT.of (fr.same _ _ hx0)⟩,for_tup (xs:=xs) (inv_nrows H w0 q0 p n ts) ⟨none,none,as,rfl,by rw[List.take_zero];exact fr⟩ ?_ ?_ ?_⟩
   ·rintro i σ Hc _ ⟨_,_,_,rfl,fr⟩;exact SqT.of (fr.same _ _ hx0)
   ·rintro i v σ Hc hv ⟨av,bv,as,rfl,fr⟩;obtain⟨a,t,rfl,hti,hta⟩:=hxs i v hv;obtain⟨t0,t1,t2⟩:=hok t (List.mem_of_getElem? hti);obtain⟨a1,a2,i1,c1,tp1,i2,c2,fr2⟩:=fr.step t0 t1 t2;have l1:∀ v,((nb (ts.take i) v).map V.int).length<sizeLine:=fun v=>by
     rw[List.length_map];have:=nb_len (ts:=ts.take i) v;rw[List.length_take] at this;exact sizeBig (by omega)
    walk_at "rd";refine⟨_,SqT.of (fr.same _ _ hta),rfl,_,_,rfl,_,_,rfl,rfl,_,_,rfl,SqL.of fr.rows.top,_,i1,.inl ⟨rfl,_,SqL.of c1⟩,_,rfl,_,c1,l1 _,_,_,rfl,SqL.of tp1,_,i2,.inl ⟨rfl,_,SqL.of c2⟩,_,rfl,_,c2,l1 _,_,_,as,rfl,?_⟩;rw[List.take_succ,hti];exact fr2
   ·rintro σ Hc ⟨av,bv,as,rfl,fr⟩;rw[hxl,List.take_length] at fr;exact⟨_,rfl,q p as Hc fr.same fr.np fr.na fr.rows⟩
def sp_trows:Sp:=fun vs H Q _=>∃ (p:Addr) (n:Int) (ts:List (Int×Int)),vs=[.ref p]∧TsAt H p ts∧(ts.length:Int)+1=n∧n≤1000∧TsOk n ts ∧
 ∀ (rp:Addr) (as:List Addr) (H':Hp),Same H H'→H rp=none→(∀ a∈as,H a=none)→RowsAt H' rp as (rowsOf n ts)→Q (.ref rp) H'
theorem sc_trows:FnScope ["tree"] ["tree"] (defScope (top 16)):=by walk_at "s"
theorem ok_trows (F:Fun K "tree_rows" "tree_rows" (top 16) f fd)(B:Bt mg)(D1:Df K mg "neighbour_rows" st1 f1 fd1 ["web"])(G1:FnOk P w K mg base CX0 1 f1 fd1 ["web"] sp_nrows):FnOk P w K mg base CX0 2 f fd ["tree"] sp_trows:=by
 refine F.ok sc_trows (fun vs H Q E h=>?_) (fun cdv A outer s H vs Q E hr h=>?_)
 ·walk_at "h"
 ·obtain⟨p,n,ts,rfl,hp,hl,hn1,hok,q⟩:=h;have nd:=sc_trows.nd;have hu:=hu_of hr;refine⟨_,(@pss_one _ _ _ (ps_ret (pe_own G1 D1 hr.m (@pa_cons _ _ _ _ _ (@pe_tup _ _ _ _ _ (@pa_cons _ _ _ _ _ (@pe_op _ _ _ _ _ _ _ _ op_add (pe_callB (lenK K) (by rfl) B.len PySem.boot_len (@pa_cons _ _ _ _ _ (pv 0) pa_nil (by rfl))) pe_int) (@pa_cons _ _ _ _ _ (pv 0) pa_nil (by rfl)) (by rfl))) pa_nil (by rfl))))),?_⟩;walk_at "rd";obtain⟨xs,hx0,hxl,hxs⟩:=hp.get;refine⟨_,.inr (SqT.of hx0),by decide,fun w0 nw=>fresh_of nw fun H1 s1 e1=>?_⟩;refine⟨w0,n,ts,rfl,⟨p,by rw[e1,hxl,hl],hp.tp s1.tp⟩,by omega,hn1,by omega,hok,fun rp as H2 s2 nrp nas hR=>?_⟩;exact q rp as H2 (s1.trans s2) (s1.free nrp) (fun a ha=>s1.free (nas a ha)) hR
def inv_re (H:Hp)(rp al me wl:Addr)(n:Int)(ts:List (Int×Int))(ls:List Int)(u:Int)(σ:St)(Hc:Hp):Prop:=∃ (ov:Option V) (fs ws:List Int),σ=[some (.ref rp),some (.int u),some (.ref al),some (.ref me),some (.ref wl),ov]∧SrAt H Hc me wl fs ws∧Srch n ts (·∈ls) u fs ws∧2*(n.toNat-fs.length)+ws.length≤2*n.toNat
def inv_re2 (H:Hp)(rp al me wl:Addr)(n:Int)(ts:List (Int×Int))(ls:List Int)(u v:Int)(m0:Nat)(j:Nat)(σ:St)(Hc:Hp):Prop:=∃ (ov:Option V) (fs ws:List Int),σ=[some (.ref rp),some (.int u),some (.ref al),some (.ref me),some (.ref wl),ov]∧SrAt H Hc me wl fs ws∧Srch' n ts (·∈ls) u fs ws v j∧2*(n.toNat-fs.length)+ws.length<m0
theorem sc_reach:FnScope ["_law_near_here","_law_start","_law_allowed","_law_found","_law_waiting","_law_other"] ["_law_near_here","_law_start","_law_allowed"] (defScope (top 27)):=by walk_at "s"
theorem ok_reach (F:Fun K "_law_reach" "_law_reach" (top 27) f fd)(B:Bt mg):FnOk P w K mg base CX0 1 f fd ["_law_near_here","_law_start","_law_allowed"] (sp_reach K):=by
 refine F.ok sc_reach (fun vs H Q E h=>?_) (fun cdv A outer s H vs Q E hr h=>?_)
 ·walk_at "h"
 ·obtain⟨rp,as,n,ts,al,ls,u,rfl,hR,hok,hn1,htl,hal,u0,u1,q⟩:=h;have nd:=sc_reach.nd;have hu:=hu_of hr
  refine⟨_,(@pss_cons _ _ _ _ _ (ps_set (i:=3) nd rfl (.inl rfl) (pe_disp (pps_cons (pv 1) pe_bl pps_nil) rfl rfl (by simp) (by decide)))
    (@pss_cons _ _ _ _ _ (ps_set (i:=4) nd rfl (.inl rfl) (@pe_lst _ _ _ _ (@pa_cons _ _ _ _ _ (pv 1) pa_nil (by rfl))))
    (@pss_cons _ _ _ _ _ (ps_while PassesOwn.never (pt_cmpR (neDK K hr.units) (pv 4) (@pe_lst _ _ _ _ pa_nil) (nomark _))
     (@pss_one _ _ _ (ps_for PassesOwn.never rfl (pi_listK K (@pe_ix _ _ _ _ _ _ _ (ix_listK K) (pv 0) (popK K (pv 4)) (fun _ _=>rfl))) (pg_name (i:=5) nd rfl (.inl rfl))
      (@pss_one _ _ _ (@ps_if _ _ _ _ _ _ _ _ (PW.pt (pw_and (pt_cmpR (in_seqK K) (pv 5) (pv 2) (by walk_at "w")) (pw_and1 (pt_cmp (pc_dnotin hu (pv 5) (pv 3))))))
       (@pss_cons _ _ _ _ _ (ps_dput hu (pv 3) (pv 5) pe_bl rfl)
       (@pss_one _ _ _ (ps_expr (appendK K (pv 4) (@pa_cons _ _ _ _ _ (pv 5) pa_nil (by rfl))))))
       pss_nil)))))
    (@pss_one _ _ _ (ps_ret (pe_callB (sortedIK K hr.hd) (by rfl) B.sorted boot_sorted (@pa_cons _ _ _ _ _ (pv 3) pa_nil (by rfl)))))))),?_⟩
  walk_at "rd";refine fun me nme=>⟨upd_same,[(Sum.inl u,V.bl true)],rfl,Nat.le_of_ble_eq_true rfl,?_⟩
  rw[disp1];refine fresh_of nme fun H1 s1 e1=>⟨by decide,fun wl nwl=>fresh_of nwl fun H2 s2 e2=>?_⟩
  have nw:H wl=none:=s1.free nwl;refine while_by (inv_re H rp al me wl n ts ls u) (fun _ Hc=>srM n me wl Hc) ⟨none,[u],[u],rfl,⟨s1.trans s2,s2 _ _ e1,e2⟩,Srch.init u0 u1,by simp;omega⟩ ?_ (fun σ H Q Q' h ⟨x,e,z,q⟩=>⟨x,e,z,fun p n=>let ⟨d1,d2,x1,x2,x3,x4,k,e2,q2⟩:=q p n;⟨d1,d2,x1,x2,x3,x4,k,e2,h _ _ q2⟩⟩);rintro σ Hc ⟨ov,fs,ws,rfl,sr,sh,hb⟩;refine⟨_,rfl,Nat.zero_le _,fun pe ne=>fresh_of ne fun He se ee=>neLI (ns:=ws) (ms:=[]) (SqL.of (se _ _ sr.wait)) (SqL.of ee) ⟨_,rfl,ite2 (fun hne=>?_) fun he=>?_⟩⟩
  ·have hw0:ws≠[]:=by simpa using hne
   obtain⟨ws',v,rfl⟩:=last_of hw0;have sre:=sr.mono se;obtain⟨hl1,sr1⟩:=sre.pop nw;have sh1:=sh.pop;have hm0:2*(n.toNat-fs.length)+ws'.length<srM n me wl Hc:=by rw[sr.mu,List.length_append,List.length_singleton];omega
   have hmb:srM n me wl Hc≤2*n.toNat:=by rw[sr.mu];exact hb
   obtain⟨v0,v1⟩:=sh1.rng v sh1.vin;obtain⟨a,a1,a2,a3,a4⟩:=hR.get v0 (rowsOf_get v0 v1);have top2:=sr1.same _ _ hR.top;refine⟨_,rfl,_,rfl,.inl ⟨rfl,_,SqL.of sre.wait⟩,wl,_,_,rfl,rfl,sre.wait,hl1,_,_,_,_,rfl,rfl,SqL.of top2,a2,_,rfl,⟨_,SqL.of (sr1.same _ _ a3)⟩,for_list (K:=K) (xs:=(nb ts v).map V.int) (inv_re2 H rp al me wl n ts ls u v (srM n me wl Hc)) ⟨_,fs,ws',rfl,sr1,sh1,hm0⟩ ?_ ?_ ?_⟩
   ·rintro j σ Hd _ ⟨_,_,_,rfl,sr2,_⟩;exact SqL.of (sr2.same _ _ a3)
   ·rintro j w σ Hd hv ⟨ov,fs,ws,rfl,sr2,sh2,hm2⟩;rw[List.getElem?_map] at hv;cases hy0:(nb ts v)[j]? with
    | none=>rw[hy0] at hv;cases hv
    | some y =>
    rw[hy0] at hv;cases Option.some.inj hv;have hfl:=nd_len sh2.nd sh2.rng;walk_at "rd";have hal2:SqL K Hd al (ls.map V.int)∨SqT K Hd al (ls.map V.int):=hal.elim (fun z=>.inl (sr2.same.seq z)) fun z=>.inr (sr2.same.seqT z)
    refine in_use hal2 ⟨_,rfl,ite2 (fun hA=>⟨_,DGet.k (k:=Sum.inl y) sr2.met,?_⟩) fun hA=>⟨_,fs,ws,rfl,sr2,sh2.skip hy0 (.inl (by simpa using hA)),hm2⟩⟩;rw[val_kvI];refine ite2 (fun hB=>?_) fun hB=>⟨_,fs,ws,rfl,sr2,sh2.skip hy0 (.inr (by simpa using hB)),hm2⟩
    have hyl:y∈ls:=by simpa using hA
    have hyf:y∉fs:=by simpa using hB
    have sh3:=sh2.add hok hy0 hyl hyf;have hfl3:=nd_len sh3.nd sh3.rng;rw[List.length_append,List.length_singleton] at hfl3;refine⟨_,DPut.k (k:=Sum.inl y) sr2.met (kvI_small (by omega)),?_⟩;rw[put_kvI];have hwt:(upd Hd me (.dK (kvI (addI fs y)))) wl=some (.lst (ws.map V.int)):=by rw[upd_ne sr2.ne.symm];exact sr2.wait
    have hwl:ws.length≤3000:=by omega
    refine⟨.inl ⟨rfl,_,SqL.of hwt⟩,_,hwt,by rw[List.length_map];exact sizeBig (by omega),_,fs++[y],ws++[y],rfl,sr2.add nme nw hyf,sh3,?_⟩;rw[List.length_append,List.length_append,List.length_singleton];omega
   ·rintro σ Hd ⟨ov,fs,ws,rfl,sr2,sh2,hm2⟩;rw[List.length_map] at sh2;exact⟨⟨_,fs,ws,rfl,sr2,sh2.done (Nat.le_refl _),by omega⟩,by rw[sr2.mu];exact hm2⟩
  ·have hw0:ws=[]:=by simpa using he
   subst hw0;walk_at "rd";refine⟨fs,⟨by have:=nd_len sh.nd sh.rng;omega,.inr (.inr ⟨_,se _ _ sr.met,kvI_keys fs⟩)⟩,fun ns l pm hs nl=>fresh_of nl fun H4 s4 e4=>?_⟩;have s3:=sr.same.trans se;refine q l ns H4 (s3.trans s4) (s3.free nl) e4 (sorted_rising pm hs sh.nd) fun x=>?_
   rw[pm.mem_iff];exact sh.fin x
def sp_hang46 (K:PySem.W.Frag):Sp:=fun vs H Q _=>∃ (np:Addr) (as:List Addr) (n:Int) (ts:List (Int×Int)) (pl:Addr) (us:List Int),vs=[.ref np,.ref pl]∧RowsAt H np as (rowsOf n ts)∧TsOk n ts∧n≤60∧ts.length≤1000∧H pl=some (.lst (us.map V.int))∧us.Nodup∧(∀ x∈us,0≤x∧x<n)∧∀ (b:Bool) (H':Hp),Same H H'→(b=true↔Hng ts us)→Q (.bl b) H'
theorem sc_hang46:FnScope ["_law_near_here","_law_places"] ["_law_near_here","_law_places"] (defScope (top 28)):=by walk_at "s"
theorem ok_hang46 (F:Fun K "_law_hang" "_law_hang" (top 28) f fd)(B:Bt mg)(D1:Df K mg "_law_reach" st1 f1 fd1 ["_law_near_here","_law_start","_law_allowed"])(G1:FnOk P w K mg base CX0 1 f1 fd1 ["_law_near_here","_law_start","_law_allowed"] (sp_reach K)):FnOk P w K mg base CX0 2 f fd ["_law_near_here","_law_places"] (sp_hang46 K):=by
 refine F.ok sc_hang46 (fun vs H Q E h=>?_) (fun cdv A outer s H vs Q E hr h=>?_)
 ·walk_at "h"
 ·obtain⟨np,as,n,ts,pl,us,rfl,hR,hok,h60,hl,hpl,hnd,hus,q⟩:=h;have nd:=sc_hang46.nd;have hu:=hu_of hr;refine⟨_,(@pss_one _ _ _ (ps_ret (pe_and (pe_cmpR op_gt (pe_callB (lenK K) (by rfl) B.len PySem.boot_len (@pa_cons _ _ _ _ _ (pv 1) pa_nil (by rfl))) pe_int (nomark _)) (pe_one (pe_cmpR op_eq (pe_callB (lenK K) (by rfl) B.len PySem.boot_len (@pa_cons _ _ _ _ _ (pe_own G1 D1 hr.m (@pa_cons _ _ _ _ _ (pv 0) (@pa_cons _ _ _ _ _ (@pe_ix _ _ _ _ _ _ _ (ix_listK K) (pv 1) pe_int (fun _ _=>rfl)) (@pa_cons _ _ _ _ _ (pv 1) pa_nil (by rfl)) (by rfl)) (by rfl))) pa_nil (by rfl))) (pe_callB (lenK K) (by rfl) B.len PySem.boot_len (@pa_cons _ _ _ _ _ (pv 1) pa_nil (by rfl))) (nomark _)))))),?_⟩;walk_at "rd";have hul:=nd_len hnd hus;refine⟨_,.inl (SqL.of hpl),?_⟩;cases us with
  | nil =>
   rw[if_neg (by simp)];exact q false H (Same.refl H) ⟨fun h=>(by cases h),fun h=>absurd rfl h.1⟩
  | cons u r =>
   rw[if_pos (by simp)];obtain⟨u0,u1⟩:=hus u (by simp);have hat:atI ((u::r).map V.int) 0=some (.int u):=by show atI (V.int u::r.map V.int) 0=_;unfold atI ixN;simp
   refine⟨_,SqL.of hpl,_,hat,np,as,n,ts,pl,u::r,u,rfl,hR,hok,by omega,by omega,.inl (SqL.of hpl),u0,u1,fun lt zs H5 s5 n5 e5 zsr hzs=>?_⟩;refine⟨lt,rfl,_,.inl (SqL.of e5),_,.inl (SqL.of (s5 _ _ hpl)),q _ H5 s5 ?_⟩;have hsub:zs ⊆ u::r:=fun x hx=>((hzs x).mp hx).mem (by simp)
   rw[decide_eq_true_iff,List.length_map,List.length_map];constructor
   ·intro e;have:=nd_all (rising_nd zsr) hsub (by omega) hnd;exact hng_of hok (by simp) fun y hy=>(hzs y).mp (this y hy)
   ·intro h;have h1:=nd_sub (rising_nd zsr) hsub;have h2:=nd_sub hnd (l:=zs) fun x hx=>(hzs x).mpr (h.2 u (by simp) x hx)
    omega
theorem sc_pint:FnScope ["thing"] ["thing"] (defScope (top 1)):=by walk_at "s"
theorem ok_pint (F:Fun K "is_int" "is_int" (top 1) f fd)(B:Bt mg)(C:Bt2 mg):FnOk P w K mg base CX0 1 f fd ["thing"] sp_pint:=by
 refine F.ok sc_pint (fun vs H Q E h=>?_) (fun cdv A outer s H vs Q E hr h=>?_)
 ·walk_at "h"
 ·obtain⟨x,T,rfl,hx,q⟩:=h;have nd:=sc_pint.nd;have hu:=hu_of hr;refine⟨_,(@pss_one _ _ _ (ps_ret (pe_and (pe_callB (isiK K) (by rfl) C.isinstance boot_isinstance (@pa_cons _ _ _ _ _ (pv 0) (@pa_cons _ _ _ _ _ (pe_ty (by rfl) B.int boot_int) pa_nil (by rfl)) (by rfl))) (pe_one (pe_not (pe_callB (isiK K) (by rfl) C.isinstance boot_isinstance (@pa_cons _ _ _ _ _ (pv 0) (@pa_cons _ _ _ _ _ (pe_ty (by rfl) C.bool boot_bool) pa_nil (by rfl)) (by rfl)))))))),?_⟩;walk_at "rd";refine⟨_,_,⟨rfl,rfl⟩,_,hx.ty,_,kit_plain hx (.inl rfl),?_⟩;have e:=isI_of hx;cases h1:isIn T "int" with
  | true =>
   rw[if_pos rfl];rw[h1,Bool.true_and] at e;refine⟨_,_,⟨rfl,rfl⟩,_,hx.ty,_,kit_plain hx (.inr (.inl rfl)),?_⟩;rw[e];exact q
  | false =>
   rw[if_neg (by decide)];rw[h1,Bool.false_and] at e;rw[← e] at q;exact q
theorem sc_pbetw:FnScope ["thing","least","most"] ["thing","least","most"] (defScope (top 2)):=by walk_at "s"
theorem ok_pbetw (F:Fun K "is_between" "is_between" (top 2) f fd)(B:Bt mg)(D1:Df K mg "is_int" st1 f1 fd1 ["thing"])(G1:FnOk P w K mg base CX0 1 f1 fd1 ["thing"] sp_pint):FnOk P w K mg base CX0 2 f fd ["thing","least","most"] sp_pbetw:=by
 refine F.ok sc_pbetw (fun vs H Q E h=>?_) (fun cdv A outer s H vs Q E hr h=>?_)
 ·walk_at "h"
 ·obtain⟨x,T,lo,hi,rfl,hx,q⟩:=h;have nd:=sc_pbetw.nd;have hu:=hu_of hr;refine⟨_,(@pss_one _ _ _ (ps_ret (pe_and (pe_own G1 D1 hr.m (@pa_cons _ _ _ _ _ (pv 0) pa_nil (by rfl))) (pe_and (pe_cmpR op_le (pv 1) (pv 0) (nomark _)) (pe_one (pe_cmpR op_le (pv 0) (pv 2) (nomark _))))))),?_⟩;walk_at "rd";refine⟨x,T,rfl,hx,_,rfl,?_⟩;cases h1:isI x with
  | true =>
   rw[if_pos rfl];obtain⟨i,rfl⟩:=isI_int h1;refine⟨i,rfl,?_⟩;unfold betw at q;dsimp only at q;by_cases h2:lo≤i
   ·rw[if_pos (by simpa using h2)];rw[decide_eq_true h2,Bool.true_and] at q;exact⟨i,rfl,q⟩
   ·rw[if_neg (by simpa using h2)];rw[decide_eq_false h2,Bool.false_and] at q;exact q
  | false =>
   rw[if_neg (by decide)];rw[betw_no h1] at q;exact q
theorem sc_ppair:FnScope ["thing"] ["thing"] (defScope (top 4)):=by walk_at "s"
theorem ok_ppair (F:Fun K "is_pair" "is_pair" (top 4) f fd)(B:Bt mg)(C:Bt2 mg):FnOk P w K mg base CX0 1 f fd ["thing"] sp_ppair:=by
 refine F.ok sc_ppair (fun vs H Q E h=>?_) (fun cdv A outer s H vs Q E hr h=>?_)
 ·walk_at "h"
 ·obtain⟨x,T,rfl,hx,q⟩:=h;have nd:=sc_ppair.nd;have hu:=hu_of hr;refine⟨_,(@pss_one _ _ _ (ps_ret (pe_and (pe_callB (isiK K) (by rfl) C.isinstance boot_isinstance (@pa_cons _ _ _ _ _ (pv 0) (@pa_cons _ _ _ _ _ (pe_ty (by rfl) B.tuple boot_tuple) pa_nil (by rfl)) (by rfl))) (pe_one (pe_cmpR op_eq (pe_callB (lenK K) (by rfl) B.len PySem.boot_len (@pa_cons _ _ _ _ _ (pv 0) pa_nil (by rfl))) pe_int (nomark _)))))),?_⟩;walk_at "rd";refine⟨_,_,⟨rfl,rfl⟩,_,hx.ty,_,kit_plain hx (.inr (.inr rfl)),?_⟩;cases h1:isIn T "tuple" with
  | true =>
   rw[if_pos rfl];cases hx with
   | tup e =>
    rw[asPair_len e] at q;refine⟨_,rfl,_,.inr (SqT.of e),?_⟩;refine Eq.mp (congrArg (fun b=>Q (V.bl b) H) ?_) q;rw[Bool.eq_iff_iff];simp;omega
   | _=>cases h1
  | false =>
   rw[if_neg (by decide)];rw[asPair_no hx h1] at q;exact q
theorem sc_ptie:FnScope ["thing","places","a","b"] ["thing","places"] (defScope (top 5)):=by walk_at "s"
theorem ok_ptie (F:Fun K "is_tie" "is_tie" (top 5) f fd)(B:Bt mg)(D1:Df K mg "is_pair" st1 f1 fd1 ["thing"])(G1:FnOk P w K mg base CX0 1 f1 fd1 ["thing"] sp_ppair)(D2:Df K mg "is_between" st2 f2 fd2 ["thing","least","most"])(G2:FnOk P w K mg base CX0 2 f2 fd2 ["thing","least","most"] sp_pbetw):FnOk P w K mg base CX0 3 f fd ["thing","places"] sp_ptie:=by
 refine F.ok sc_ptie (fun vs H Q E h=>?_) (fun cdv A outer s H vs Q E hr h=>?_)
 ·walk_at "h"
 ·obtain⟨x,T,n,rfl,hx,hyz,q⟩:=h;have nd:=sc_ptie.nd;have hu:=hu_of hr
  refine⟨_,(@pss_cons _ _ _ _ _ (@ps_if _ _ _ _ _ _ _ _ (pt_not (pt_val (pe_own G1 D1 hr.m (@pa_cons _ _ _ _ _ (pv 0) pa_nil (by rfl)))))
     (@pss_one _ _ _ (ps_ret pe_bl))
     pss_nil)
    (@pss_cons _ _ _ _ _ (@ps_asg _ _ _ _ _ _ (pv 0) (pg_tupK K (n:=2) rfl (pgs_cons (pg_name (i:=2) nd rfl (.inl rfl)) (pgs_cons (pg_name (i:=3) nd rfl (.inl rfl)) pgs_nil))) (by rfl) (by rfl) (by rfl))
    (@pss_one _ _ _ (ps_ret (pe_and (pe_own G2 D2 hr.m (@pa_cons _ _ _ _ _ (pv 2) (@pa_cons _ _ _ _ _ pe_int (@pa_cons _ _ _ _ _ (@pe_op _ _ _ _ _ _ _ _ op_sub (pv 1) pe_int) pa_nil (by rfl)) (by rfl)) (by rfl))) (pe_one (pe_own G2 D2 hr.m (@pa_cons _ _ _ _ _ (pv 3) (@pa_cons _ _ _ _ _ (@pe_op _ _ _ _ _ _ _ _ op_add (pv 2) pe_int) (@pa_cons _ _ _ _ _ (@pe_op _ _ _ _ _ _ _ _ op_sub (pv 1) pe_int) pa_nil (by rfl)) (by rfl)) (by rfl))))))))),?_⟩
  walk_at "rd";refine⟨x,T,rfl,hx,?_⟩;cases hp:asPair H x with
  | none =>
   unfold tieB at q;rw[hp] at q;refine⟨_,rfl,?_⟩;rw[if_pos (by rfl)];exact q
  | some yz =>
   obtain⟨y,z⟩:=yz;obtain⟨a,rfl,ha⟩:=asPair_eq hp;obtain⟨⟨Ty,hy⟩,Tz,hz⟩:=hyz y z hp;unfold tieB at q;rw[hp] at q;dsimp only at q;refine⟨_,rfl,?_⟩;rw[if_neg (by simp)];refine⟨a,rfl,_,SqT.of ha,rfl,y,_,rfl,z,_,rfl,rfl,y,Ty,0,n-1,rfl,hy,_,rfl,?_⟩;cases hb:betw y 0 (n-1) with
   | true =>
    rw[hb,Bool.true_and] at q;rw[if_pos rfl];obtain⟨i,rfl⟩:∃ i,y=.int i:=by
     cases y<;>first | exact⟨_,rfl⟩ | cases hb
    exact⟨i,rfl,z,Tz,i+1,n-1,rfl,hz,q⟩
   | false =>
    rw[hb,Bool.false_and] at q;rw[if_neg (by decide)];exact q
def nxB (ts:List (Int×Int))(i:Nat):Bool:=HT.lexLt (tl (ts.getD i (0,0))) (tl (ts.getD (i+1) (0,0)))
def risB (ts:List (Int×Int)):Bool:=(List.range (ts.length-1)).all (nxB ts)
theorem risB_of {ts:List (Int×Int)}(h:ts.Pairwise Lex):risB ts=true:=by
 refine List.all_eq_true.mpr fun i hi=>?_
 have hi':=List.mem_range.mp hi;have:=List.pairwise_iff_getElem.mp h i (i+1) (by omega) (by omega) (by omega);unfold nxB;rw[show ts.getD i (0,0)=ts[i] by simp[List.getD,show i<ts.length by omega],show ts.getD (i+1) (0,0)=ts[i+1] by simp[List.getD,show i+1<ts.length by omega]];exact lex_iff.mpr this
def sp_prising:Sp:=fun vs H Q _=>∃ (p:Addr) (ps:List (Addr×List Int)) (ts:List (Int×Int)),vs=[.ref p]∧H p=some (.tup (ps.map fun x=>V.ref x.1))∧PsAt H ps ts∧ts.length≤1000∧Q (.bl (risB ts)) H
def inv_ris (H:Hp)(p:Addr)(ts:List (Int×Int))(i:Nat)(σ:St)(Hc:Hp):Prop:=∃ a:Option V,σ=[some (.ref p),a]∧Hc=H∧∀ j,j<i→nxB ts j=true
theorem sc_prising:FnScope ["items","at"] ["items"] (defScope (top 6)):=by walk_at "s"
theorem ok_prising (F:Fun K "is_rising" "is_rising" (top 6) f fd)(B:Bt mg):FnOk P w K mg base CX0 1 f fd ["items"] sp_prising:=by
 refine F.ok sc_prising (fun vs H Q E h=>?_) (fun cdv A outer s H vs Q E hr h=>?_)
 ·walk_at "h"
 ·obtain⟨p,ps,ts,rfl,hp,hps,hz,q⟩:=h;have nd:=sc_prising.nd;have hu:=hu_of hr
  refine⟨_,(@pss_cons _ _ _ _ _ (ps_for PassesOwn.never rfl (pi_range2 (by rfl) B.range (@pa_cons _ _ _ _ _ pe_int (@pa_cons _ _ _ _ _ (pe_callB (lenK K) (by rfl) B.len PySem.boot_len (@pa_cons _ _ _ _ _ (pv 0) pa_nil (by rfl))) pa_nil (by rfl)) (by rfl))) (pg_name (i:=1) nd rfl (.inl rfl))
     (@pss_one _ _ _ (@ps_if _ _ _ _ _ _ _ _ (pt_not (pt_cmpR (ltTK K hr.units0) (@pe_ix _ _ _ _ _ _ _ (ix_tupK K) (pv 0) (@pe_op _ _ _ _ _ _ _ _ op_sub (pv 1) pe_int) (fun _ _=>rfl)) (@pe_ix _ _ _ _ _ _ _ (ix_tupK K) (pv 0) (pv 1) (fun _ _=>rfl)) (nomark _)))
      (@pss_one _ _ _ (ps_ret pe_bl))
      pss_nil)))
    (@pss_one _ _ _ (ps_ret pe_bl))),?_⟩
  walk_at "rd";have hpl:=hps.len;have hlm:(ps.map fun x=>V.ref x.1).length=ts.length:=by rw[List.length_map];exact hpl
  refine⟨_,rfl,p,_,rfl,.inr (SqT.of hp),1,_,rfl,⟨by decide,by decide,by omega,by omega⟩,for_range (lo:=1) (n:=(((ps.map fun x=>V.ref x.1).length:Int)-1).toNat) (inv_ris H p ts) ⟨none,rfl,rfl,fun j hj=>absurd hj (Nat.not_lt_zero _)⟩ ?_ ?_⟩
  ·rintro i σ Hc hi ⟨a,rfl,rfl,hb⟩;have hil:i+1<ts.length:=by omega
   have at':∀ k (hk:k<ts.length),∃ b,atI (ps.map fun x=>V.ref x.1) (k:Int)=some (.ref b)∧Hc b=some (.tup ([(ts.getD k (0,0)).1,(ts.getD k (0,0)).2].map V.int)):=fun k hk=>by
    have hk2:k<(ps.map fun x=>V.ref x.1).length:=by omega
    obtain⟨b,t,e1,e2,e3⟩:=hps.get (i:=k) (List.getElem?_eq_getElem hk2);refine⟨b,atI_nat (by rw[List.getElem?_eq_getElem hk2,e1]),?_⟩;have:ts.getD k (0,0)=t:=by rw[List.getD_eq_getElem?_getD,e2];rfl
    rw[this];exact e3
   obtain⟨b1,f1,g1⟩:=at' i (by omega);obtain⟨b2,f2,g2⟩:=at' (i+1) hil;walk_at "rd";refine⟨_,SqT.of hp,_,?_,_,SqT.of hp,_,?_,b1,b2,_,_,rfl,rfl,SqT.of g1,SqT.of g2,_,rfl,?_⟩
   ·rw[show (1:Int)+(i:Int)-1=(i:Int) by omega];exact f1
   ·rw[show (1:Int)+(i:Int)=((i+1:Nat):Int) by omega];exact f2
   ·show (if (!nxB ts i)=true then _ else _);cases hx:nxB ts i with
    | true =>
     rw[if_neg (by decide)];refine⟨_,rfl,rfl,fun j hj=>?_⟩;rcases Nat.lt_or_ge j i with h | h
     ·exact hb j h
     ·have:j=i:=by omega
      rw[this];exact hx
    | false =>
     rw[if_pos (by rfl)];have:risB ts=false:=by
      rw[← Bool.not_eq_true];intro h;have:=List.all_eq_true.mp h i (List.mem_range.mpr (by omega));rw[hx] at this;cases this
     rw[this] at q;exact q
  ·rintro σ Hc ⟨a,rfl,rfl,hb⟩;have:risB ts=true:=List.all_eq_true.mpr fun j hj=>hb j (by have:=List.mem_range.mp hj;omega)
   rw[this] at q;exact q
def sp_pfromS:Sp:=fun vs H Q _=>∃ (rp:Addr) (as:List Addr) (n:Int) (ts:List (Int×Int)) (am:Addr) (ls:List Int) (u:Int),vs=[.ref rp,.ref am,.int u]∧RowsAt H rp as (rowsOf n ts)∧TsOk n ts∧n≤60∧ts.length≤1000∧H am=some (.dK (kvI ls))∧0≤u∧u<n ∧
 ∀ (p:Addr) (zs:List Int) (H':Hp),Same H H'→H p=none→H' p=some (.tup (zs.map V.int))→zs.Pairwise (·<·)→(∀ x,x∈zs↔Rch ts (·∈ls) u x)→Q (.ref p) H'
def inv_pf (H:Hp)(rp am me wl:Addr)(n:Int)(ts:List (Int×Int))(ls:List Int)(u:Int)(σ:St)(Hc:Hp):Prop:=∃ (pv ov:Option V) (fs ws:List Int),σ=[some (.ref rp),some (.ref am),some (.int u),some (.ref me),some (.ref wl),pv,ov]∧SrAt H Hc me wl fs ws∧Srch n ts (·∈ls) u fs ws∧2*(n.toNat-fs.length)+ws.length≤2*n.toNat
def inv_pf2 (H:Hp)(rp am me wl:Addr)(n:Int)(ts:List (Int×Int))(ls:List Int)(u v:Int)(m0:Nat)(j:Nat)(σ:St)(Hc:Hp):Prop:=∃ (ov:Option V) (fs ws:List Int),σ=[some (.ref rp),some (.ref am),some (.int u),some (.ref me),some (.ref wl),some (.int v),ov]∧SrAt H Hc me wl fs ws∧Srch' n ts (·∈ls) u fs ws v j∧2*(n.toNat-fs.length)+ws.length<m0
theorem sc_pfrom:FnScope ["rows","among","start","met","waiting","place","other"] ["rows","among","start"] (defScope (top 9)):=by walk_at "s"
theorem ok_pfrom (F:Fun K "piece_from" "piece_from" (top 9) f fd)(B:Bt mg):FnOk P w K mg base CX0 1 f fd ["rows","among","start"] sp_pfromS:=by
 refine F.ok sc_pfrom (fun vs H Q E h=>?_) (fun cdv A outer s H vs Q E hr h=>?_)
 ·walk_at "h"
 ·obtain⟨rp,as,n,ts,am,ls,u,rfl,hR,hok,hn1,htl,ham,u0,u1,q⟩:=h;have nd:=sc_pfrom.nd;have hu:=hu_of hr
  refine⟨_,(@pss_cons _ _ _ _ _ (ps_set (i:=3) nd rfl (.inl rfl) (pe_disp (pps_cons (pv 2) pe_bl pps_nil) rfl rfl (by simp) (by decide)))
    (@pss_cons _ _ _ _ _ (ps_set (i:=4) nd rfl (.inl rfl) (@pe_lst _ _ _ _ (@pa_cons _ _ _ _ _ (pv 2) pa_nil (by rfl))))
    (@pss_cons _ _ _ _ _ (ps_while PassesOwn.never (truthK K (pv 4) (fun _=>rfl))
     (@pss_cons _ _ _ _ _ (ps_set (i:=5) nd rfl (.inl rfl) (popK K (pv 4)))
     (@pss_one _ _ _ (ps_for PassesOwn.never rfl (pi_listK K (@pe_ix _ _ _ _ _ _ _ (ix_listK K) (pv 0) (pv 5) (fun _ _=>rfl))) (pg_name (i:=6) nd rfl (.inl rfl))
      (@pss_one _ _ _ (@ps_if _ _ _ _ _ _ _ _ (PW.pt (pw_and (pt_cmp (pc_din hu (pv 6) (pv 1))) (pw_and1 (pt_cmp (pc_dnotin hu (pv 6) (pv 3))))))
       (@pss_cons _ _ _ _ _ (ps_dput hu (pv 3) (pv 6) pe_bl rfl)
       (@pss_one _ _ _ (ps_expr (appendK K (pv 4) (@pa_cons _ _ _ _ _ (pv 6) pa_nil (by rfl))))))
       pss_nil))))))
    (@pss_one _ _ _ (ps_ret (pe_callTy (tupleK K) (by rfl) B.tuple boot_tuple (@pa_cons _ _ _ _ _ (pe_callB (sortedIK K hr.hd) (by rfl) B.sorted boot_sorted (@pa_cons _ _ _ _ _ (pv 3) pa_nil (by rfl))) pa_nil (by rfl)))))))),?_⟩
  walk_at "rd";refine fun me nme=>⟨upd_same,[(Sum.inl u,V.bl true)],rfl,Nat.le_of_ble_eq_true rfl,?_⟩
  rw[disp1];refine fresh_of nme fun H1 s1 e1=>⟨by decide,fun wl nwl=>fresh_of nwl fun H2 s2 e2=>?_⟩
  have nw:H wl=none:=s1.free nwl;refine while_by (inv_pf H rp am me wl n ts ls u) (fun _ Hc=>srM n me wl Hc) ⟨none,none,[u],[u],rfl,⟨s1.trans s2,s2 _ _ e1,e2⟩,Srch.init u0 u1,by simp;omega⟩ ?_ (fun σ H Q Q' h ⟨x,e,k,t,q⟩=>⟨x,e,k,t,h _ _ q⟩);rintro σ Hc ⟨pv,ov,fs,ws,rfl,sr,sh,hb⟩;refine⟨_,rfl,_,.inl ⟨_,SqL.of sr.wait,rfl⟩,ite2 (fun hne=>?_) fun he=>?_⟩
  ·have hw0:ws≠[]:=fun e=>by subst e;simp at hne
   obtain⟨ws',v,rfl⟩:=last_of hw0;obtain⟨hl1,sr1⟩:=sr.pop nw;have sh1:=sh.pop;have hm0:2*(n.toNat-fs.length)+ws'.length<srM n me wl Hc:=by rw[sr.mu,List.length_append,List.length_singleton];omega
   have hmb:srM n me wl Hc≤2*n.toNat:=by rw[sr.mu];exact hb
   obtain⟨v0,v1⟩:=sh1.rng v sh1.vin;walk_at "rd";refine⟨.inl ⟨rfl,_,SqL.of sr.wait⟩,_,sr.wait,_,hl1,?_⟩;obtain⟨a,a1,a2,a3,a4⟩:=hR.get v0 (rowsOf_get v0 v1);have top2:=sr1.same _ _ hR.top;refine⟨_,rfl,_,rfl,_,_,_,_,rfl,rfl,SqL.of top2,a2,_,rfl,⟨_,SqL.of (sr1.same _ _ a3)⟩,for_list (K:=K) (xs:=(nb ts v).map V.int) (inv_pf2 H rp am me wl n ts ls u v (srM n me wl Hc)) ⟨_,fs,ws',rfl,sr1,sh1,hm0⟩ ?_ ?_ ?_⟩
   ·rintro j σ Hd _ ⟨_,_,_,rfl,sr2,_⟩;exact SqL.of (sr2.same _ _ a3)
   ·rintro j w σ Hd hv ⟨ov,fs,ws,rfl,sr2,sh2,hm2⟩;rw[List.getElem?_map] at hv;cases hy0:(nb ts v)[j]? with
    | none=>rw[hy0] at hv;cases hv
    | some y =>
    rw[hy0] at hv;cases Option.some.inj hv;have hfl:=nd_len sh2.nd sh2.rng;walk_at "rd";refine⟨_,DGet.k (k:=Sum.inl y) (sr2.same _ _ ham),?_⟩;rw[val_kvI];refine ite2 (fun hA=>⟨_,DGet.k (k:=Sum.inl y) sr2.met,?_⟩) fun hA=>⟨_,fs,ws,rfl,sr2,sh2.skip hy0 (.inl (by simpa using hA)),hm2⟩
    rw[val_kvI];refine ite2 (fun hB=>?_) fun hB=>⟨_,fs,ws,rfl,sr2,sh2.skip hy0 (.inr (by simpa using hB)),hm2⟩
    have hyl:y∈ls:=by simpa using hA
    have hyf:y∉fs:=by simpa using hB
    have sh3:=sh2.add hok hy0 hyl hyf;have hfl3:=nd_len sh3.nd sh3.rng;rw[List.length_append,List.length_singleton] at hfl3;refine⟨_,DPut.k (k:=Sum.inl y) sr2.met (kvI_small (by omega)),?_⟩;rw[put_kvI];have hwt:(upd Hd me (.dK (kvI (addI fs y)))) wl=some (.lst (ws.map V.int)):=by rw[upd_ne sr2.ne.symm];exact sr2.wait
    have hwl:ws.length≤3000:=by omega
    refine⟨.inl ⟨rfl,_,SqL.of hwt⟩,_,hwt,by rw[List.length_map];exact sizeBig (by omega),_,fs++[y],ws++[y],rfl,sr2.add nme nw hyf,sh3,?_⟩;rw[List.length_append,List.length_append,List.length_singleton];omega
   ·rintro σ Hd ⟨ov,fs,ws,rfl,sr2,sh2,hm2⟩;rw[List.length_map] at sh2;exact⟨⟨_,_,fs,ws,rfl,sr2,sh2.done (Nat.le_refl _),by omega⟩,by rw[sr2.mu];exact hm2⟩
  ·have hw0:ws=[]:=by simpa using he
   subst hw0;walk_at "rd";refine⟨fs,⟨by have:=nd_len sh.nd sh.rng;omega,.inr (.inr ⟨_,sr.met,kvI_keys fs⟩)⟩,fun ns l pm hs nl=>fresh_of nl fun H4 s4 e4=>⟨_,.inl ⟨SqL.of e4,fun l2 n2=>fresh_of n2 fun H5 s5 e5=>?_⟩⟩⟩;have s3:=(sr.same.trans s4)
   refine q l2 ns H5 (s3.trans s5) (s3.free n2) e5 (sorted_rising pm hs sh.nd) fun x=>?_
   rw[pm.mem_iff];exact sh.fin x
def sp_pieces:Sp:=fun vs H Q _=>∃ (w:Addr) (n:Int) (ts:List (Int×Int)) (pl:Addr) (us:List Int),vs=[.ref w,.ref pl]∧WebAt H w n ts∧TsOk n ts∧0≤n∧n≤60∧ts.length≤1000∧H pl=some (.tup (us.map V.int))∧us.length≤1000∧(∀ x∈us,0≤x∧x<n) ∧
 ∀ (p:Addr) (H':Hp),Same H H'→H p=none→LsAt H' p (lots n ts us us)→Q (.ref p) H'
def inv_pc (Hb:Hp)(w0 pl rp le lo:Addr)(n:Int)(ts:List (Int×Int))(us:List Int)(i:Nat)(σ:St)(Hc:Hp):Prop:=∃ (pv tv ov:Option V) (ls:List Int) (ps:List (Addr×List Int)),σ=[some (.ref w0),some (.ref pl),some (.ref rp),pv,some (.ref le),some (.ref lo),tv,ov] ∧
 Same Hb Hc∧Hc le=some (.dK (kvI ls))∧LlAt Hc lo ps∧ps.map (·.2)=lots n ts us (us.take i)∧ls.Nodup∧∀ x,x∈ls↔x∈us∧¬ inAny (lots n ts us (us.take i)) x
def inv_pc2 (Hb:Hp)(w0 pl rp le lo lt:Addr)(u:Int)(ls zs:List Int)(ps:List (Addr×List Int))(j:Nat)(σ:St)(Hc:Hp):Prop:=∃ (ov:Option V),σ=[some (.ref w0),some (.ref pl),some (.ref rp),some (.int u),some (.ref le),some (.ref lo),some (.ref lt),ov] ∧
 Same Hb Hc∧Hc le=some (.dK (kvI (ls.filter fun x=>!decide (x∈zs.take j))))∧LlAt Hc lo ps∧Hc lt=some (.tup (zs.map V.int))
theorem sc_pieces:FnScope ["web","places","rows","place","left","lots","lot","other"] ["web","places"] (defScope (top 10)):=by walk_at "s"
theorem ok_pieces (F:Fun K "pieces" "pieces" (top 10) f fd)(B:Bt mg)(D1:Df K mg "neighbour_rows" st1 f1 fd1 ["web"])(G1:FnOk P w K mg base CX0 1 f1 fd1 ["web"] sp_nrows)(D2:Df K mg "piece_from" st2 f2 fd2 ["rows","among","start"])(G2:FnOk P w K mg base CX0 1 f2 fd2 ["rows","among","start"] sp_pfromS):FnOk P w K mg base CX0 2 f fd ["web","places"] sp_pieces:=by
 refine F.ok sc_pieces (fun vs H Q E h=>?_) (fun cdv A outer s H vs Q E hr h=>?_)
 ·walk_at "h"
 ·obtain⟨w0,n,ts,pl,us,rfl,hw,hok,hn0,hn1,htl,hpl,hul,hus,q⟩:=h;have nd:=sc_pieces.nd;have hu:=hu_of hr
  refine⟨_,(@pss_cons _ _ _ _ _ (ps_set (i:=2) nd rfl (.inl rfl) (pe_own G1 D1 hr.m (@pa_cons _ _ _ _ _ (pv 0) pa_nil (by rfl))))
    (@pss_cons _ _ _ _ _ (ps_setDC (i:=4) (own:=["place"]) (fr:=[]) false hu rfl nd rfl rfl (by walk_at "w") (by walk_at "w") frOk_nil (pi_tupK K (pv 1)) ⟨fun _ _ _ _=>⟨(pg_name (i:=0) (show List.Nodup (["place"]:List Str) by decide +kernel) rfl (.inl rfl)),pts_nil,(pv 0),pe_bl⟩⟩)
    (@pss_cons _ _ _ _ _ (ps_set (i:=5) nd rfl (.inl rfl) (@pe_lst _ _ _ _ pa_nil))
    (@pss_cons _ _ _ _ _ (ps_for PassesOwn.never rfl (pi_tupK K (pv 1)) (pg_name (i:=3) nd rfl (.inl rfl))
     (@pss_one _ _ _ (@ps_if _ _ _ _ _ _ _ _ (pt_cmp (pc_din hu (pv 3) (pv 4)))
      (@pss_cons _ _ _ _ _ (ps_set (i:=6) nd rfl (.inl rfl) (pe_own G2 D2 hr.m (@pa_cons _ _ _ _ _ (pv 2) (@pa_cons _ _ _ _ _ (pv 4) (@pa_cons _ _ _ _ _ (pv 3) pa_nil (by rfl)) (by rfl)) (by rfl))))
      (@pss_cons _ _ _ _ _ (ps_expr (appendK K (pv 5) (@pa_cons _ _ _ _ _ (pv 6) pa_nil (by rfl))))
      (@pss_one _ _ _ (ps_for PassesOwn.never rfl (pi_tupK K (pv 6)) (pg_name (i:=7) nd rfl (.inl rfl))
       (@pss_one _ _ _ (ps_ddel (pv 4) (pv 7)))))))
      pss_nil)))
    (@pss_one _ _ _ (ps_ret (pe_callTy (tupleK K) (by rfl) B.tuple boot_tuple (@pa_cons _ _ _ _ _ (pv 5) pa_nil (by rfl))))))))),?_⟩
  walk_at "rd";refine⟨w0,n,ts,rfl,hw,by omega,by omega,by omega,hok,fun rp as H1 s1 np na hR=>?_⟩;refine⟨⟨_,SqT.of (s1 _ _ hpl)⟩,fun le nle=>dc_tup (K:=K) (xs:=us.map V.int) (inv_dc H1 le us) ⟨none,[],rfl,(Same.refl H1).upd nle,upd_same,Nat.le_refl _,by simp,by simp⟩ ?_ ?_ ?_⟩
  ·rintro i τ Hc _ ⟨_,_,rfl,sc,_⟩;exact SqT.of (sc _ _ (s1 _ _ hpl))
  ·rintro i v τ Hc hv ⟨c,fs,rfl,sc,ha,hfl,hnd,hm⟩;rw[List.getElem?_map] at hv;cases hu0:us[i]? with
   | none=>rw[hu0] at hv;cases hv
   | some u =>
   rw[hu0] at hv;cases Option.some.inj hv;have hil:=(List.getElem?_eq_some_iff.mp hu0).1;walk_at "rd";refine⟨_,DPut.k (k:=Sum.inl u) ha (kvI_small (by omega)),?_⟩;rw[put_kvI];refine⟨_,_,rfl,sc.upd nle,upd_same,?_,nd_addI hnd,fun x=>?_⟩
   ·have:=len_addI (us:=fs) (x:=u);omega
   ·rw[mem_addI,hm,List.take_succ,hu0];simp
  ·rintro τ H2 ⟨c,fs,rfl,sc,ha,hfl,hfnd,hm⟩;rw[List.length_map,List.take_length] at hm;refine⟨by decide,fun lo nlo=>fresh_of nlo fun H3 s3 e3=>?_⟩;have nlo1:H1 lo=none:=sc.free nlo;have nele:lo≠le:=(ne_of_none ha nlo).symm;refine⟨_,rfl,_,rfl,⟨_,SqT.of (s3 _ _ (sc _ _ (s1 _ _ hpl)))⟩,for_tup (K:=K) (xs:=us.map V.int) (inv_pc H1 w0 pl rp le lo n ts us) ⟨none,none,none,fs,[],rfl,sc.trans s3,s3 _ _ ha,⟨e3,fun x hx=>by cases hx⟩,rfl,hfnd,fun x=>?_⟩ ?_ ?_ ?_⟩
   ·rw[hm];exact⟨fun h=>⟨h,fun ⟨l,hl,_⟩=>by cases hl⟩,fun h=>h.1⟩
   ·rintro i σ Hc _ ⟨_,_,_,_,_,rfl,sd,_⟩;exact SqT.of (sd _ _ (s1 _ _ hpl))
   ·rintro i v σ Hc hv ⟨pv,tv,ov,ls,ps,rfl,sd,hle,hlo,hps,lnd,hls⟩;rw[List.getElem?_map] at hv;cases hu0:us[i]? with
    | none=>rw[hu0] at hv;cases hv
    | some u =>
    rw[hu0] at hv;cases Option.some.inj hv;have hum:=List.mem_of_getElem? hu0;obtain⟨u0,u1⟩:=hus u hum;have hil:=(List.getElem?_eq_some_iff.mp hu0).1;have hsn:lots n ts us (us.take (i+1))=lotsStep (pcOf n ts us) (lots n ts us (us.take i)) u:=by
     rw[List.take_succ,hu0];exact lots_snoc _ _
    have hpl2:ps.length≤1000:=by
     have h1:=congrArg List.length hps;rw[List.length_map] at h1;have h2:=lots_len (n:=n) (ts:=ts) (us:=us) (us.take i);rw[List.length_take] at h2;omega
    walk_at "rd";refine⟨_,DGet.k (k:=Sum.inl u) hle,?_⟩;rw[val_kvI];refine ite2 (fun h=>?_) fun h=>?_
    ·have hul:u∈ls:=by simpa using h
     have hnu:¬ inAny (lots n ts us (us.take i)) u:=((hls u).mp hul).2;have hsn2:lots n ts us (us.take (i+1))=lots n ts us (us.take i)++[pcOf n ts us u]:=by
      rw[hsn];unfold lotsStep;rw[if_neg (fun q=>hnu ((any_iff _ _).mp q))]
     refine⟨rp,as,n,ts,le,ls,u,rfl,hR.same sd,hok,by omega,by omega,hle,u0,u1,fun lt zs H5 s5 n5 e5 zsr hzs=>?_⟩;have hzs2:∀ x,x∈zs↔Rch ts (·∈us) u x:=fun x=>by
      rw[hzs];exact rch_left hok hus (vs:=us.take i) (fun v hv=>List.mem_of_mem_take hv) hls hul
     have hzp:zs=pcOf n ts us u:=rising_ext zsr pcOf_lt fun x=>by rw[hzs2,mem_pc hok u0 u1]
     have hzl:∀ x∈zs,x∈ls:=fun x hx=>((hzs x).mp hx).mem hul
     have hlo5:=s5 _ _ hlo.top;have L5:=(hlo.tp s5.tp hlo5).snoc e5;have hle6:(upd H5 lo (.lst ((ps.map fun x=>V.ref x.1)++[V.ref lt]))) le=some (.dK (kvI ls)):=by rw[upd_ne nele.symm];exact s5 _ _ hle
     have hlt6:(upd H5 lo (.lst ((ps.map fun x=>V.ref x.1)++[V.ref lt]))) lt=some (.tup (zs.map V.int)):=Tp.lst hlo5 _ _ e5;refine⟨.inl ⟨rfl,_,SqL.of hlo5⟩,_,hlo5,by rw[List.length_map];exact sizeBig (by omega),?_⟩;refine⟨_,rfl,_,rfl,⟨_,SqT.of hlt6⟩,for_tup (K:=K) (xs:=zs.map V.int) (inv_pc2 H1 w0 pl rp le lo lt u ls zs (ps++[(lt,zs)])) ⟨_,rfl,(sd.trans s5).upd nlo1,?_,L5,hlt6⟩ ?_ ?_ ?_⟩
     ·rw[hle6,List.take_zero,List.filter_eq_self.mpr (by simp)]
     ·rintro j σ Hd _ ⟨_,rfl,_,_,_,h⟩;exact SqT.of h
     ·rintro j w σ Hd hv ⟨ov,rfl,se,hle7,L7,hlt7⟩;rw[List.getElem?_map] at hv;cases hy0:zs[j]? with
      | none=>rw[hy0] at hv;cases hv
      | some y =>
      rw[hy0] at hv;cases Option.some.inj hv;have hym:=List.mem_of_getElem? hy0;have hyj:y∉zs.take j:=fun hq=>by
       obtain⟨k,hk,e⟩:=List.getElem_of_mem hq;rw[List.length_take] at hk;have h1:zs[k]?=some y:=by
        have:(zs.take j)[k]?=some y:=by rw[List.getElem?_eq_getElem (by rw[List.length_take];exact hk),e]
        rwa [List.getElem?_take_of_lt (by omega)] at this
       have:=(List.getElem?_inj (l:=zs) (by omega) (rising_nd zsr)).mp (h1.trans hy0.symm);omega
      have hin:y∈ls.filter fun x=>!decide (x∈zs.take j):=List.mem_filter.mpr ⟨hzl y hym,by simpa using hyj⟩
      walk_at "rd";refine⟨_,rfl,_,rfl,le,_,Sum.inl y,rfl,hle7,rfl,by rw[val_kvI];simpa using hin,?_⟩;rw[drop_kvI];refine⟨_,rfl,se.upd nle,?_,L7.tp (Tp.dK hle7) (by rw[upd_ne nele];exact L7.top),Tp.dK hle7 _ _ hlt7⟩;rw[upd_same,List.filter_filter];congr 4;funext x;rw[List.take_succ,hy0];by_cases e1:x=y<;>by_cases e2:x∈zs.take j<;>simp[e1,e2]
     ·rintro σ Hd ⟨ov,rfl,se,hle7,L7,hlt7⟩;rw[List.length_map,List.take_length] at hle7;refine⟨_,_,_,_,_,rfl,se,hle7,L7,?_,lnd.filter _,fun x=>?_⟩
      ·rw[List.map_append,hps,hsn2,← hzp];rfl
      ·rw[List.mem_filter,hls,hsn2,inAny_snoc,← hzp];constructor
       ·rintro⟨⟨a,b⟩,c⟩;exact⟨a,fun q=>q.elim b (by simpa using c)⟩
       ·rintro⟨a,b⟩;exact⟨⟨a,fun q=>b (.inl q)⟩,by simpa using fun q=>b (.inr q)⟩
    ·have hul:u∉ls:=by simpa using h
     have hin:inAny (lots n ts us (us.take i)) u:=Classical.byContradiction fun q=>hul ((hls u).mpr ⟨hum,q⟩)
     have hsn2:lots n ts us (us.take (i+1))=lots n ts us (us.take i):=by
      rw[hsn];unfold lotsStep;rw[if_pos ((any_iff _ _).mpr hin)]
     exact⟨_,_,_,ls,ps,rfl,sd,hle,hlo,by rw[hsn2];exact hps,lnd,by rw[hsn2];exact hls⟩
   ·rintro σ Hc ⟨pv,tv,ov,ls,ps,rfl,sd,hle,hlo,hps,lnd,hls⟩;rw[List.length_map,List.take_length] at hps;walk_at "rd";refine⟨_,.inl ⟨SqL.of hlo.top,fun l nl=>fresh_of nl fun H6 s6 e6=>?_⟩⟩;have s06:=s1.trans sd;exact q l H6 (s06.trans s6) (s06.free nl) ⟨ps,e6,fun x hx=>s6 _ _ (hlo.row x hx),hps⟩
theorem ris_pw {ts:List (Int×Int)}(h:risB ts=true):ts.Pairwise Lex:=by
 have h1:∀ i (h:i+1<ts.length),Lex ts[i] ts[i+1]:=fun i hi=>by
  have:=List.all_eq_true.mp h i (List.mem_range.mpr (by omega));unfold nxB at this;rw[show ts.getD i (0,0)=ts[i] by simp[List.getD,show i<ts.length by omega],show ts.getD (i+1) (0,0)=ts[i+1] by simp[List.getD,hi]] at this;exact lex_iff.mp this
 have key:∀ d i (h:i+d+1<ts.length),Lex ts[i] ts[i+d+1]:=by
  intro d;induction d with
  | zero=>exact fun i hi=>h1 i hi
  | succ d ih =>
   intro i hi;have a:=ih i (by omega);have b:=h1 (i+d+1) (by omega);change Lex ts[i] (ts[i+d+1+1]'(by omega));unfold Lex at a b ⊢;omega
 refine List.pairwise_iff_getElem.mpr fun i j hi hj hij=>?_
 have:=key (j-i-1) i (by omega);simpa [show i+(j-i-1)+1=j by omega] using this
theorem row_all {H:Hp}{n:Int}{a:Addr}{xs:List V}(e:H a=some (.tup xs)){us:List (Int×Int)}(h:IsRow H n (.ref a) us):∀ x∈xs,tieB H x n=true:=by
 obtain⟨b,eb,⟨ps,h1,h2⟩,h3,_⟩:=h;cases eb;rw[e] at h1;cases h1;exact ties_at h2 h3
def sp_prowX:Sp:=fun vs H Q _=>∃ (x:V) (T:String) (n:Int),vs=[x,.int n]∧Pl H x T∧PlD H 2 x∧(∀ a xs,x=.ref a→H a=some (.tup xs)→xs.length≤1000)∧∀ b:Bool,(b=true↔∃ us,IsRow H n x us)→Q (.bl b) H
def inv_prX (H:Hp)(p:Addr)(n:Int)(xs:List V)(i:Nat)(σ:St)(Hc:Hp):Prop:=∃ a:Option V,σ=[some (.ref p),some (.int n),a]∧Hc=H∧∀ x∈xs.take i,tieB H x n=true
theorem sc_prowX:FnScope ["thing","places","item"] ["thing","places"] (defScope (top 7)):=by walk_at "s"
theorem ok_prowX (F:Fun K "is_tie_row" "is_tie_row" (top 7) f fd)(B:Bt mg)(D1:Df K mg "is_tie" st1 f1 fd1 ["thing","places"])(G1:FnOk P w K mg base CX0 3 f1 fd1 ["thing","places"] sp_ptie)(D2:Df K mg "is_rising" st2 f2 fd2 ["items"])(G2:FnOk P w K mg base CX0 1 f2 fd2 ["items"] sp_prising)(C:Bt2 mg):FnOk P w K mg base CX0 4 f fd ["thing","places"] sp_prowX:=by
 refine F.ok sc_prowX (fun vs H Q E h=>?_) (fun cdv A outer s H vs Q E hr h=>?_)
 ·walk_at "h"
 ·obtain⟨x,T,n,rfl,hx,hd,hlen,q⟩:=h;have nd:=sc_prowX.nd;have hu:=hu_of hr
  refine⟨_,(@pss_cons _ _ _ _ _ (@ps_if _ _ _ _ _ _ _ _ (pt_not (pt_val (pe_callB (isiK K) (by rfl) C.isinstance boot_isinstance (@pa_cons _ _ _ _ _ (pv 0) (@pa_cons _ _ _ _ _ (pe_ty (by rfl) B.tuple boot_tuple) pa_nil (by rfl)) (by rfl)))))
     (@pss_one _ _ _ (ps_ret pe_bl))
     pss_nil)
    (@pss_cons _ _ _ _ _ (ps_for PassesOwn.never rfl (pi_tupK K (pv 0)) (pg_name (i:=2) nd rfl (.inl rfl))
     (@pss_one _ _ _ (@ps_if _ _ _ _ _ _ _ _ (pt_not (pt_val (pe_own G1 D1 hr.m (@pa_cons _ _ _ _ _ (pv 2) (@pa_cons _ _ _ _ _ (pv 1) pa_nil (by rfl)) (by rfl)))))
      (@pss_one _ _ _ (ps_ret pe_bl))
      pss_nil)))
    (@pss_one _ _ _ (ps_ret (pe_own G2 D2 hr.m (@pa_cons _ _ _ _ _ (pv 0) pa_nil (by rfl))))))),?_⟩
  walk_at "rd";refine⟨_,_,⟨rfl,rfl⟩,_,hx.ty,_,kit_plain hx (.inr (.inr rfl)),?_⟩;cases h1:isIn T "tuple" with
  | false =>
   rw[if_pos (by rfl)];refine q false ⟨fun h=>(by cases h),fun ⟨us,a,e,⟨ps,h2,_⟩,_⟩=>?_⟩;subst e;cases hx with
   | lst e=>rw[e] at h2;cases h2
   | tup e=>cases h1
   | dK e=>rw[e] at h2;cases h2
   | dT e=>rw[e] at h2;cases h2
  | true =>
   rw[if_neg (by decide)];cases hx with
   | @tup p xs hp =>
    have hl:=hlen p xs rfl hp;refine⟨_,rfl,p,rfl,⟨_,SqT.of hp⟩,for_tup (K:=K) (xs:=xs) (inv_prX H p n xs) ⟨none,rfl,rfl,fun x hx=>(by rw[List.take_zero] at hx;cases hx)⟩ ?_ ?_ ?_⟩
    ·rintro i σ Hc _ ⟨_,rfl,rfl,_⟩;exact SqT.of hp
    ·rintro i v σ Hc hv ⟨a,rfl,rfl,hs⟩;have hm:=List.mem_of_getElem? hv;have hdv:=hd.2 p xs rfl hp v hm;obtain⟨Tv,hTv⟩:=hdv.pl;walk_at "rd";refine⟨v,Tv,n,rfl,hTv,fun y z e=>?_,?_⟩
     ·obtain⟨a',rfl,ea'⟩:=asPair_eq e;exact⟨(hdv.2 a' _ rfl ea' y (by simp)).pl,(hdv.2 a' _ rfl ea' z (by simp)).pl⟩
     ·refine⟨_,rfl,?_⟩;cases hb:tieB Hc v n with
      | false =>
       rw[if_pos (by rfl)];refine q false ⟨fun h=>(by cases h),fun ⟨us,hr⟩=>?_⟩;have:=row_all hp hr v hm;rw[hb] at this;cases this
      | true =>
       rw[if_neg (by decide)];refine⟨_,rfl,rfl,fun x hx=>?_⟩;rw[take_snoc hv] at hx;rcases List.mem_append.mp hx with hx | hx
       ·exact hs x hx
       ·rw[List.mem_singleton.mp hx];exact hb
    ·rintro σ Hc ⟨a,rfl,rfl,hs⟩;rw[List.take_length] at hs;obtain⟨ps,us,rfl,hps,hok⟩:=ties_of hs;have hul:us.length≤1000:=by rw[← hps.len];rw[List.length_map] at hl;exact hl
     walk_at "rd";refine⟨p,ps,us,rfl,hp,hps,hul,q _ ⟨fun h=>⟨us,p,rfl,⟨ps,hp,hps⟩,hok,ris_pw h⟩,fun ⟨us',a',e',ht',_,hx'⟩=>?_⟩⟩;cases e';cases ht'.inj ⟨ps,hp,hps⟩;exact risB_of hx'
   | _=>cases h1
def sp_onepX:Sp:=fun vs H Q _=>∃ (w:Addr) (n:Int) (us:List (Int×Int)),vs=[.ref w]∧WebAt H w n us∧3≤n∧n≤60∧TsOk n us∧us.Pairwise Lex∧us.length≤200∧∀ (b:Bool) (H':Hp),Same H H'→(b=true↔Hng us (rInts 0 n.toNat))→Q (.bl b) H'
theorem sc_onepX:FnScope ["web"] ["web"] (defScope (top 11)):=by walk_at "s"
theorem ok_onepX (F:Fun K "in_one_piece" "in_one_piece" (top 11) f fd)(B:Bt mg)(D1:Df K mg "pieces" st1 f1 fd1 ["web","places"])(G1:FnOk P w K mg base CX0 2 f1 fd1 ["web","places"] sp_pieces):FnOk P w K mg base CX0 3 f fd ["web"] sp_onepX:=by
 refine F.ok sc_onepX (fun vs H Q E h=>?_) (fun cdv A outer s H vs Q E hr h=>?_)
 ·walk_at "h"
 ·obtain⟨w0,n,us,rfl,hw,h3,h60,hok,hsr,hl,q⟩:=h;have nd:=sc_onepX.nd;have hu:=hu_of hr;refine⟨_,(@pss_one _ _ _ (ps_ret (pe_cmpR op_eq (pe_callB (lenK K) (by rfl) B.len PySem.boot_len (@pa_cons _ _ _ _ _ (pe_own G1 D1 hr.m (@pa_cons _ _ _ _ _ (pv 0) (@pa_cons _ _ _ _ _ (pe_callTy (call_tuple_rng hr.hd) (by rfl) B.tuple boot_tuple (@pa_cons _ _ _ _ _ (pe_callTy call_rng1 (by rfl) B.range boot_range (@pa_cons _ _ _ _ _ (@pe_ix _ _ _ _ _ _ _ (ix_tupK K) (pv 0) pe_int (fun _ _=>rfl)) pa_nil (by rfl))) pa_nil (by rfl))) pa_nil (by rfl)) (by rfl))) pa_nil (by rfl))) pe_int (nomark _)))),?_⟩;walk_at "rd";obtain⟨q0,hw0,ht⟩:=id hw;refine⟨_,SqT.of hw0,_,rfl,n,rfl,fun pr npr=>fresh_of npr fun H1 s1 e1=>⟨0,n,e1,⟨by decide,by decide,by omega,by omega⟩,by omega,fun pl npl=>fresh_of npl fun H2 s2 e2=>?_⟩⟩;rw[Int.sub_zero] at e2;have s02:=s1.trans s2;refine⟨w0,n,us,pl,rInts 0 n.toNat,rfl,hw.tp s02.tp,hok,by omega,by omega,by omega,e2,by rw[rInts_length];omega,fun x hx=>by have:=mem_rInts.mp hx;omega,fun p3 H3 s3 n3 L3=>?_⟩;obtain⟨ps,hp3,_,hps3⟩:=L3;refine⟨p3,rfl,_,.inr (SqT.of hp3),q _ H3 (s02.trans s3) ?_⟩;rw[← one_lot h3 h60 hok hsr hl,← hps3,List.length_map,List.length_map,decide_eq_true_iff];constructor
  ·intro e;omega
  ·intro e;rw[e];rfl
def sp_rtreeX:Sp:=fun vs H Q _=>∃ (w:Addr) (n:Int) (ts:List (Int×Int)) (x:V),vs=[.ref w,x]∧WebAt H w n ts∧IsWeb n ts∧PlD H 2 x∧(∀ a xs,x=.ref a→H a=some (.tup xs)→xs.length≤1000)∧∀ (b:Bool) (H':Hp),Same H H'→(b=true↔IsTr H n ts x)→Q (.bl b) H'
def inv_kn (H:Hp)(kd:Addr)(ts:List (Int×Int))(i:Nat)(τ:St)(Hc:Hp):Prop:=∃ (c:Option V) (fs:List (Int×Int)),τ=[c]∧Same H Hc∧Hc kd=some (.dT (kvT fs))∧fs.length≤i∧∀ t,t∈fs↔t∈ts.take i
def inv_rtX (H:Hp)(w0 t0 q0 kd:Addr)(n:Int)(ts us:List (Int×Int))(i:Nat)(σ:St)(Hc:Hp):Prop:=∃ c:Option V,σ=[some (.ref w0),some (.ref t0),some (.int n),some (.ref q0),c,some (.ref kd)]∧Hc=H∧∀ t∈us.take i,t∈ts
theorem sc_rtreeX:FnScope ["web","thing","places","ties","tie","known"] ["web","thing"] (defScope (top 15)):=by walk_at "s"
theorem ok_rtreeX (F:Fun K "right_tree" "right_tree" (top 15) f fd)(B:Bt mg)(D1:Df K mg "is_tie_row" st1 f1 fd1 ["thing","places"])(G1:FnOk P w K mg base CX0 4 f1 fd1 ["thing","places"] sp_prowX)(D2:Df K mg "in_one_piece" st2 f2 fd2 ["web"])(G2:FnOk P w K mg base CX0 3 f2 fd2 ["web"] sp_onepX):FnOk P w K mg base CX0 5 f fd ["web","thing"] sp_rtreeX:=by
 refine F.ok sc_rtreeX (fun vs H Q E h=>?_) (fun cdv A outer s H vs Q E hr h=>?_)
 ·walk_at "h"
 ·obtain⟨w0,n,ts,x,rfl,hw,hok,hd,hlen,q⟩:=h;have nd:=sc_rtreeX.nd;have hu:=hu_of hr
  refine⟨_,(@pss_cons _ _ _ _ _ (@ps_asg _ _ _ _ _ _ (pv 0) (pg_tupK K (n:=2) rfl (pgs_cons (pg_name (i:=2) nd rfl (.inl rfl)) (pgs_cons (pg_name (i:=3) nd rfl (.inl rfl)) pgs_nil))) (by rfl) (by rfl) (by rfl))
    (@pss_cons _ _ _ _ _ (@ps_if _ _ _ _ _ _ _ _ (PW.pt (pw_or (pt_not (pt_val (pe_own G1 D1 hr.m (@pa_cons _ _ _ _ _ (pv 1) (@pa_cons _ _ _ _ _ (pv 2) pa_nil (by rfl)) (by rfl))))) (pw_or1 (pt_cmpR op_ne (pe_callB (lenK K) (by rfl) B.len PySem.boot_len (@pa_cons _ _ _ _ _ (pv 1) pa_nil (by rfl))) (@pe_op _ _ _ _ _ _ _ _ op_sub (pv 2) pe_int) (nomark _)))))
     (@pss_one _ _ _ (ps_ret pe_bl))
     pss_nil)
    (@pss_cons _ _ _ _ _ (ps_setDC (i:=5) (own:=["tie"]) (fr:=[]) true hu rfl nd rfl rfl (by walk_at "w") (by walk_at "w") frOk_nil (pi_tupK K (pv 3)) ⟨fun _ _ _ _=>⟨(pg_name (i:=0) (show List.Nodup (["tie"]:List Str) by decide +kernel) rfl (.inl rfl)),pts_nil,(pv 0),pe_bl⟩⟩)
    (@pss_cons _ _ _ _ _ (ps_for PassesOwn.never rfl (pi_tupK K (pv 1)) (pg_name (i:=4) nd rfl (.inl rfl))
     (@pss_one _ _ _ (@ps_if _ _ _ _ _ _ _ _ (pt_cmp (pc_dnotin hu (pv 4) (pv 5)))
      (@pss_one _ _ _ (ps_ret pe_bl))
      pss_nil)))
    (@pss_one _ _ _ (ps_ret (pe_own G2 D2 hr.m (@pa_cons _ _ _ _ _ (@pe_tup _ _ _ _ _ (@pa_cons _ _ _ _ _ (pv 2) (@pa_cons _ _ _ _ _ (pv 1) pa_nil (by rfl)) (by rfl))) pa_nil (by rfl))))))))),?_⟩
  walk_at "rd";have h3:=hok.n3;have h60:=hok.n60;have hl:=hok.len;obtain⟨q0,hw0,htq⟩:=id hw;obtain⟨psw,hq0,hpsw⟩:=id htq;obtain⟨T,hT⟩:=hd.pl;refine⟨_,SqT.of hw0,rfl,_,_,rfl,_,_,rfl,rfl,x,T,n,rfl,hT,hd,hlen,fun b hb=>⟨b,rfl,?_⟩⟩;cases b with
  | false =>
   rw[if_pos (by rfl)];refine q false H (Same.refl H) ⟨fun h=>(by cases h),fun ⟨a,us,e,h1,h2,h4,h5,_⟩=>?_⟩;exact absurd (hb.mpr ⟨us,a,e,h1,fun t ht=>hok.rng t (h5 t ht),h2⟩) (by decide)
  | true =>
   rw[if_neg (by decide)];obtain⟨us,t0,rfl,ht,hus,hsr⟩:=hb.mp rfl;obtain⟨ps,hp,hps⟩:=id ht;refine⟨t0,rfl,_,.inr (SqT.of hp),n,rfl,?_⟩;have hE:∀ {us'},IsTr H n ts (.ref t0)→us'=us→(us'.length:Int)+1=n∧(∀ t∈us',t∈ts)∧Hng us' (rInts 0 n.toNat):=fun {us'} ⟨a,us2,e,h1,h2,h4,h5,h6⟩ eu=>by
    cases e;cases h1.inj ht;rw[eu];exact⟨h4,h5,h6⟩
   by_cases hlen2:(us.length:Int)+1=n
   ·rw[if_neg (by rw[List.length_map,hps.len];simp;omega)];refine⟨q0,rfl,⟨_,SqT.of hq0⟩,fun kd nkd=>dc_tup (K:=K) (xs:=psw.map fun x=>V.ref x.1) (inv_kn H kd ts) ⟨none,[],rfl,(Same.refl H).upd nkd,upd_same,Nat.le_refl _,by simp⟩ ?_ ?_ ?_⟩
    ·rintro i τ Hc _ ⟨_,_,rfl,sc,_⟩;exact SqT.of (sc _ _ hq0)
    ·rintro i v τ Hc hv ⟨c,fs,rfl,sc,hkd,hfl,hfs⟩;obtain⟨b,t,rfl,hti,hb⟩:=hpsw.get hv;have hil:=(List.getElem?_eq_some_iff.mp hti).1;walk_at "rd";refine⟨_,DPut.t (k:=[Sum.inl t.1,Sum.inl t.2]) hkd (sc _ _ hb) (kvT_put_len (by omega)),?_⟩;rw[put_kvT];have hla:=len_addT (fs:=fs) (t:=t);refine⟨_,addT fs t,rfl,sc.upd nkd,upd_same,by omega,fun x=>?_⟩;rw[mem_addT,hfs,List.take_succ,hti];simp
    ·rintro τ H2 ⟨c,fs,rfl,s2,hkd,hfl,hfs⟩;rw[List.length_map,hpsw.len,List.take_length] at hfs;refine⟨_,rfl,t0,rfl,⟨_,SqT.of (s2 _ _ hp)⟩,for_tup (K:=K) (xs:=ps.map fun x=>V.ref x.1) (inv_rtX H2 w0 t0 q0 kd n ts us) ⟨none,rfl,rfl,fun t ht=>(by rw[List.take_zero] at ht;cases ht)⟩ ?_ ?_ ?_⟩
     ·rintro i σ Hc _ ⟨_,rfl,rfl,_⟩;exact SqT.of (s2 _ _ hp)
     ·rintro i v σ Hc hv ⟨c,rfl,rfl,hs⟩;obtain⟨b,t,rfl,hti,hb⟩:=hps.get hv;walk_at "rd";refine⟨_,DGet.t (k:=[Sum.inl t.1,Sum.inl t.2]) hkd (s2 _ _ hb),?_⟩;rw[val_kvT];by_cases hin:t∈ts
      ·rw[decide_eq_true ((hfs t).mpr hin)];refine ite2 (fun h=>absurd h (by decide)) fun _=>⟨_,rfl,rfl,fun x hx=>?_⟩
       rw[take_snoc hti] at hx;rcases List.mem_append.mp hx with hx | hx
       ·exact hs x hx
       ·rw[List.mem_singleton.mp hx];exact hin
      ·rw[decide_eq_false (fun h=>hin ((hfs t).mp h))];refine ite2 (fun _=>?_) fun h=>absurd (by decide) h
       exact q false _ s2 ⟨fun h=>(by cases h),fun h=>absurd ((hE h rfl).2.1 t (List.mem_of_getElem? hti)) hin⟩
     ·rintro σ Hc ⟨c,rfl,rfl,hs⟩;rw[List.length_map,hps.len,List.take_length] at hs;walk_at "rd";refine⟨by decide,fun wp nwp=>fresh_of nwp fun H4 s4 e4=>⟨wp,n,us,rfl,⟨t0,e4,ht.tp (s2.trans s4).tp⟩,h3,h60,hus,hsr,by omega,fun b H5 s5 hb=>q b H5 ((s2.trans s4).trans s5) ?_⟩⟩;rw[hb];exact⟨fun h=>⟨t0,us,rfl,ht,hsr,hlen2,hs,h⟩,fun h=>(hE h rfl).2.2⟩
   ·rw[if_pos (by rw[List.length_map,hps.len];simp;omega)];exact q false H (Same.refl H) ⟨fun h=>(by cases h),fun h=>absurd (hE h rfl).1 hlen2⟩
def sp_isintX:Sp:=fun vs H Q _=>∃ (x:V) (T:String) (lo hi:Int),vs=[x,.int lo,.int hi]∧Pl H x T∧Q (.bl (betw x lo hi)) H
theorem sc_isintX:FnScope ["_law_thing","_law_least","_law_most"] ["_law_thing","_law_least","_law_most"] (defScope (top 29)):=by walk_at "s"
theorem ok_isintX (F:Fun K "_law_is_int" "_law_is_int" (top 29) f fd)(B:Bt mg)(C:Bt2 mg):FnOk P w K mg base CX0 1 f fd ["_law_thing","_law_least","_law_most"] sp_isintX:=by
 refine F.ok sc_isintX (fun vs H Q E h=>?_) (fun cdv A outer s H vs Q E hr h=>?_)
 ·walk_at "h"
 ·obtain⟨x,T,lo,hi,rfl,hx,q⟩:=h;have nd:=sc_isintX.nd;have hu:=hu_of hr;refine⟨_,(@pss_one _ _ _ (ps_ret (pe_and (pe_callB (isiK K) (by rfl) C.isinstance boot_isinstance (@pa_cons _ _ _ _ _ (pv 0) (@pa_cons _ _ _ _ _ (pe_ty (by rfl) B.int boot_int) pa_nil (by rfl)) (by rfl))) (pe_and (pe_not (pe_callB (isiK K) (by rfl) C.isinstance boot_isinstance (@pa_cons _ _ _ _ _ (pv 0) (@pa_cons _ _ _ _ _ (pe_ty (by rfl) C.bool boot_bool) pa_nil (by rfl)) (by rfl)))) (pe_one (pe_chain op_le op_le (pv 1) (pv 0) (pv 2))))))),?_⟩;walk_at "rd";refine⟨_,_,⟨rfl,rfl⟩,_,hx.ty,_,kit_plain hx (.inl rfl),?_⟩;have e:=isI_of hx;cases h1:isIn T "int" with
  | true =>
   rw[if_pos rfl];rw[h1,Bool.true_and] at e;refine⟨_,_,⟨rfl,rfl⟩,_,hx.ty,_,kit_plain hx (.inr (.inl rfl)),?_⟩;rw[e];cases h2:isI x with
   | false =>
    rw[if_neg (by decide)];rw[betw_no h2] at q;exact q
   | true =>
    rw[if_pos rfl];obtain⟨i,rfl⟩:=isI_int h2;refine⟨i,rfl,?_⟩;unfold betw at q;dsimp only at q;by_cases h3:lo≤i
    ·rw[if_pos (by simpa using h3)];rw[decide_eq_true h3,Bool.true_and] at q;exact⟨i,rfl,q⟩
    ·rw[if_neg (by simpa using h3)];rw[decide_eq_false h3,Bool.false_and] at q;exact q
  | false =>
   rw[if_neg (by decide)];rw[h1,Bool.false_and] at e;rw[betw_no e.symm] at q;exact q
theorem neLT2 {K:PySem.W.Frag}{H:Hp}{a b:Addr}{ps ps':List (Addr×List Int)}{ts us:List (Int×Int)}{Q:VK}(h1:H a=some (.lst (ps.map fun x=>V.ref x.1)))(p1:PsAt H ps ts)(h2:H b=some (.lst (ps'.map fun x=>V.ref x.1)))(p2:PsAt H ps' us)(q:∀ c:Bool,(c=true↔ts=us)→Q (.bl (!c)) H):rEqD K true (.ref a) (.ref b) H Q:=by
 have d1:Dt K H (.ref a) (.list ((ts.map tl).map tI)):=.lst (SqL.of h1) (by rw[← p1.eq];exact Dts.tups fun x hx=>SqT.of (p1.to x hx));have d2:Dt K H (.ref b) (.list ((us.map tl).map tI)):=.lst (SqL.of h2) (by rw[← p2.eq];exact Dts.tups fun x hx=>SqT.of (p2.to x hx));have sh:∀ ts:List (Int×Int),SeqAt.shaped (.list ((ts.map tl).map tI))=true:=fun ts=>by
  unfold SeqAt.shaped;rw[PyData.canLay0,PyData.depth,canLay_tI];have:=depth_tI (ts.map tl);rw[Bool.true_and,decide_eq_true_iff];omega
 refine⟨_,_,d1,d2,sh _,sh _,?_⟩;have e:PyData.eqv (.list ((ts.map tl).map tI)) (.list ((us.map tl).map tI))=decide (ts.map tl=us.map tl):=by rw[PyData.eqv,eqv_TT]
 rw[e];refine q _ ?_;rw[decide_eq_true_iff];refine⟨fun h=>?_,fun h=>by rw[h]⟩;have h2:=congrArg (List.map un) h;rw[List.map_map,List.map_map] at h2;have hid:(un ∘ tl)=id:=rfl;rw[hid,List.map_id,List.map_id] at h2;exact h2
def sp_istreeX (K:PySem.W.Frag):Sp:=fun vs H Q _=>∃ (w:Addr) (n:Int) (ts:List (Int×Int)) (x:V),vs=[.ref w,x]∧WebAt H w n ts∧IsWeb n ts∧PlD H 2 x∧(∀ a xs,x=.ref a→H a=some (.tup xs)→xs.length≤1000)∧∀ (b:Bool) (H':Hp),Same H H'→(b=true↔IsTr H n ts x)→Q (.bl b) H'
def TieIn (H:Hp)(ts:List (Int×Int))(xs:List V):Prop:=∃ (ps:List (Addr×List Int)) (us:List (Int×Int)),xs=ps.map (fun x=>V.ref x.1)∧PsAt H ps us∧∀ t∈us,t∈ts
def inv_iX (H:Hp)(w0 t0:Addr)(ts:List (Int×Int))(xs:List V)(i:Nat)(σ:St)(Hc:Hp):Prop:=∃ c:Option V,σ=[some (.ref w0),some (.ref t0),c]∧Same H Hc∧TieIn H ts (xs.take i)
def inv_iX2 (H:Hp)(p2 w0:Addr)(n:Int)(ys:List V)(i:Nat)(τ:St)(Hc:Hp):Prop:=∃ c:Option V,τ=[c,some (.ref w0)]∧Same H Hc∧Hc p2=some (.lst (((ys.take i).map fun y=>betw y 0 (n-1)).map V.bl))
theorem sc_istreeX:FnScope ["_law_web_here","_law_thing","_law_tie"] ["_law_web_here","_law_thing"] (defScope (top 30)):=by walk_at "s"
theorem ok_istreeX (F:Fun K "_law_is_tree" "_law_is_tree" (top 30) f fd)(B:Bt mg)(D1:Df K mg "_law_is_int" st1 f1 fd1 ["_law_thing","_law_least","_law_most"])(G1:FnOk P w K mg base CX0 1 f1 fd1 ["_law_thing","_law_least","_law_most"] sp_isintX)(D2:Df K mg "_law_near" st2 f2 fd2 ["_law_web_here"])(G2:FnOk P w K mg base CX0 1 f2 fd2 ["_law_web_here"] sp_near)(D3:Df K mg "_law_hang" st3 f3 fd3 ["_law_near_here","_law_places"])(G3:FnOk P w K mg base CX0 2 f3 fd3 ["_law_near_here","_law_places"] (sp_hang46 K))(C:Bt2 mg):FnOk P w K mg base CX0 3 f fd ["_law_web_here","_law_thing"] (sp_istreeX K):=by
 refine F.ok sc_istreeX (fun vs H Q E h=>?_) (fun cdv A outer s H vs Q E hr h=>?_)
 ·walk_at "h"
 ·obtain⟨w0,n,ts,x,rfl,hw,hok,hd,hlen,q⟩:=h;have nd:=sc_istreeX.nd;have hu:=hu_of hr
  refine⟨_,(@pss_cons _ _ _ _ _ (@ps_if _ _ _ _ _ _ _ _ (PW.pt (pw_or (pt_not (pt_val (pe_callB (isiK K) (by rfl) C.isinstance boot_isinstance (@pa_cons _ _ _ _ _ (pv 1) (@pa_cons _ _ _ _ _ (pe_ty (by rfl) B.tuple boot_tuple) pa_nil (by rfl)) (by rfl))))) (pw_or1 (pt_cmpR op_ne (pe_callB (lenK K) (by rfl) B.len PySem.boot_len (@pa_cons _ _ _ _ _ (pv 1) pa_nil (by rfl))) (@pe_op _ _ _ _ _ _ _ _ op_sub (@pe_ix _ _ _ _ _ _ _ (ix_tupK K) (pv 0) pe_int (fun _ _=>rfl)) pe_int) (nomark _)))))
     (@pss_one _ _ _ (ps_ret pe_bl))
     pss_nil)
    (@pss_cons _ _ _ _ _ (ps_for PassesOwn.never rfl (pi_tupK K (pv 1)) (pg_name (i:=2) nd rfl (.inl rfl))
     (@pss_cons _ _ _ _ _ (@ps_if _ _ _ _ _ _ _ _ (PW.pt (pw_or (pt_not (pt_val (pe_callB (isiK K) (by rfl) C.isinstance boot_isinstance (@pa_cons _ _ _ _ _ (pv 2) (@pa_cons _ _ _ _ _ (pe_ty (by rfl) B.tuple boot_tuple) pa_nil (by rfl)) (by rfl))))) (pw_or (pt_cmpR op_ne (pe_callB (lenK K) (by rfl) B.len PySem.boot_len (@pa_cons _ _ _ _ _ (pv 2) pa_nil (by rfl))) pe_int (nomark _)) (pw_or1 (pt_not (pt_val (pe_callB (allK K hr.hd) (by rfl) C.all boot_all (@pa_cons _ _ _ _ _ (pe_lcomp (own:=["_law_one"]) (fr:=[("_law_web_here",0)]) rfl (by walk_at "w") (frOk_cons rfl rfl frOk_nil) (pi_tupK K (pv 2)) ⟨fun _ _ _ _=>⟨(pg_name (i:=0) (show List.Nodup (["_law_one","_law_web_here"]:List Str) by decide +kernel) rfl (.inl rfl)),pts_nil,(pe_own G1 D1 hr.m (@pa_cons _ _ _ _ _ (pv 0) (@pa_cons _ _ _ _ _ pe_int (@pa_cons _ _ _ _ _ (@pe_op _ _ _ _ _ _ _ _ op_sub (@pe_ix _ _ _ _ _ _ _ (ix_tupK K) (pv 1) pe_int (fun _ _=>rfl)) pe_int) pa_nil (by rfl)) (by rfl)) (by rfl)))⟩⟩) pa_nil (by rfl)))))))))
      (@pss_one _ _ _ (ps_ret pe_bl))
      pss_nil)
     (@pss_one _ _ _ (@ps_if _ _ _ _ _ _ _ _ (pt_cmpR (notInDK K hr.units) (pv 2) (@pe_ix _ _ _ _ _ _ _ (ix_tupK K) (pv 0) pe_int (fun _ _=>rfl)) (by walk_at "w"))
      (@pss_one _ _ _ (ps_ret pe_bl))
      pss_nil))))
    (@pss_cons _ _ _ _ _ (@ps_if _ _ _ _ _ _ _ _ (pt_cmpR (neDK K hr.units) (pe_callTy (listK K) (by rfl) B.list boot_list (@pa_cons _ _ _ _ _ (pv 1) pa_nil (by rfl))) (pe_sortsetT K hr.hd hr.units (by rfl) B.sorted boot_sorted (by rfl) C.set boot_set (@pa_cons _ _ _ _ _ (pv 1) pa_nil (by rfl))) (nomark _))
     (@pss_one _ _ _ (ps_ret pe_bl))
     pss_nil)
    (@pss_one _ _ _ (ps_ret (pe_own G3 D3 hr.m (@pa_cons _ _ _ _ _ (pe_own G2 D2 hr.m (@pa_cons _ _ _ _ _ (@pe_tup _ _ _ _ _ (@pa_cons _ _ _ _ _ (@pe_ix _ _ _ _ _ _ _ (ix_tupK K) (pv 0) pe_int (fun _ _=>rfl)) (@pa_cons _ _ _ _ _ (pv 1) pa_nil (by rfl)) (by rfl))) pa_nil (by rfl))) (@pa_cons _ _ _ _ _ (pe_callTy (call_list_rng hr.hd) (by rfl) B.list boot_list (@pa_cons _ _ _ _ _ (pe_callTy call_rng1 (by rfl) B.range boot_range (@pa_cons _ _ _ _ _ (@pe_ix _ _ _ _ _ _ _ (ix_tupK K) (pv 0) pe_int (fun _ _=>rfl)) pa_nil (by rfl))) pa_nil (by rfl))) pa_nil (by rfl)) (by rfl)))))))),?_⟩
  walk_at "rd";have h3:=hok.n3;have h60:=hok.n60;have hl:=hok.len;obtain⟨q0,hw0,htq⟩:=id hw;obtain⟨T,hT⟩:=hd.pl;refine⟨_,_,⟨rfl,rfl⟩,_,hT.ty,_,kit_plain hT (.inr (.inr rfl)),?_⟩;cases h1:isIn T "tuple" with
  | false =>
   rw[if_pos (by rfl)];refine q false H (Same.refl H) ⟨fun h=>(by cases h),fun ⟨a,us,e,⟨ps,h2,_⟩,_⟩=>?_⟩;subst e;cases hT with
   | lst e=>rw[e] at h2;cases h2
   | tup e=>cases h1
   | dK e=>rw[e] at h2;cases h2
   | dT e=>rw[e] at h2;cases h2
  | true =>
   rw[if_neg (by decide)];cases hT with
   | @tup t0 xs hp =>
    have hE:IsTr H n ts (.ref t0)→∃ (ps:List (Addr×List Int)) (us:List (Int×Int)),xs=ps.map (fun x=>V.ref x.1)∧PsAt H ps us∧us.Pairwise Lex∧(us.length:Int)+1=n∧(∀ t∈us,t∈ts)∧Hng us (rInts 0 n.toNat):=fun ⟨a,us,e,⟨ps,e1,e2⟩,h2,h4,h5,h6⟩=>by
     cases e;rw[hp] at e1;cases e1;exact⟨ps,us,rfl,e2,h2,h4,h5,h6⟩
    refine⟨_,rfl,_,.inr (SqT.of hp),_,SqT.of hw0,_,rfl,n,rfl,?_⟩;by_cases hln:(xs.length:Int)+1=n
    ·rw[if_neg (by simp;omega)];refine⟨_,rfl,t0,rfl,⟨_,SqT.of hp⟩,for_tup (K:=K) (xs:=xs) (inv_iX H w0 t0 ts xs) ⟨none,rfl,Same.refl H,[],[],by rw[List.take_zero];rfl,⟨fun x hx=>(by cases hx),rfl⟩,fun t ht=>(by cases ht)⟩ ?_ ?_ ?_⟩
     ·rintro i σ Hc _ ⟨_,rfl,sc,_⟩;exact SqT.of (sc _ _ hp)
     ·rintro i v σ Hc hv ⟨c,rfl,sc,hin⟩;have hm:=List.mem_of_getElem? hv;have hdv:=hd.2 t0 xs rfl hp v hm;obtain⟨Tv,hTv⟩:=hdv.pl;have hTc:=hTv.mono sc;have hV:IsTr H n ts (.ref t0)→∃ b t,v=.ref b∧H b=some (.tup [.int (Prod.fst t),.int (Prod.snd t)])∧t∈ts:=fun h=>by
       obtain⟨ps,us,e,hps,_,_,h5,_⟩:=hE h;rw[e] at hv;obtain⟨b,t,e1,e2,e3⟩:=hps.get hv;exact⟨b,t,e1,e3,h5 t (List.mem_of_getElem? e2)⟩
      walk_at "rd";refine⟨_,_,⟨rfl,rfl⟩,_,hTc.ty,_,kit_plain hTc (.inr (.inr rfl)),?_⟩;cases h2:isIn Tv "tuple" with
      | false =>
       rw[if_pos (by rfl)];refine q false Hc sc ⟨fun h=>(by cases h),fun h=>?_⟩;obtain⟨b,t,rfl,eb,_⟩:=hV h;cases hTv with
       | lst e=>rw[e] at eb;cases eb
       | tup e=>cases h2
       | dK e=>rw[e] at eb;cases eb
       | dT e=>rw[e] at eb;cases eb
      | true =>
       rw[if_neg (by decide)];cases hTv with
       | @tup b ys hb =>
        have hbc:=sc _ _ hb;refine⟨_,rfl,_,.inr (SqT.of hbc),?_⟩;by_cases hy2:ys.length=2
        ·rw[if_neg (by rw[hy2];simp)];refine⟨b,rfl,⟨_,SqT.of hbc⟩,fun p2 n2=>lc_tup (K:=K) (xs:=ys) (inv_iX2 Hc p2 w0 n ys) ⟨none,rfl,(Same.refl Hc).upd n2,by rw[upd_same,List.take_zero];rfl⟩ ?_ ?_ ?_⟩
         ·rintro j τ Hd _ ⟨_,rfl,sd,_⟩;exact SqT.of (sd _ _ hbc)
         ·rintro j y τ Hd hy ⟨c2,rfl,sd,hd2⟩;have hdy:=hdv.2 b ys rfl hb y (List.mem_of_getElem? hy);obtain⟨Ty,hTy⟩:=hdy.pl;have hjl:=(List.getElem?_eq_some_iff.mp hy).1;walk_at "rd";refine⟨_,SqT.of (sd _ _ (sc _ _ hw0)),_,rfl,n,rfl,y,Ty,0,n-1,rfl,hTy.mono (sc.trans sd),?_⟩;refine⟨_,hd2,by rw[List.length_map,List.length_map,List.length_take];exact sizeBig (by omega),_,rfl,sd.upd n2,?_⟩;rw[upd_same,take_snoc hy,List.map_append,List.map_append];rfl
         ·rintro τ H2 ⟨c2,rfl,sd,hd2⟩;rw[List.take_length] at hd2;refine⟨_,SqL.of hd2,?_⟩
          match ys,hy2 with
          | [y,z],_ =>
           by_cases hbz:betw y 0 (n-1)=true∧betw z 0 (n-1)=true
           ·have ha:(([y,z].map fun y=>betw y 0 (n-1)).all id)=true:=by simp[hbz.1,hbz.2]
            rw[ha,if_neg (by decide)];obtain⟨iy,rfl⟩:∃ i,y=.int i:=by
             have:=hbz.1;cases y<;>first | exact⟨_,rfl⟩ | cases this
            obtain⟨iz,rfl⟩:∃ i,z=.int i:=by
             have:=hbz.2;cases z<;>first | exact⟨_,rfl⟩ | cases this
            have scd:=sc.trans sd;refine⟨_,SqT.of (scd _ _ hw0),_,rfl,?_⟩;refine notin_tie (t:=(iy,iz)) (SqT.of (sd _ _ hbc)) (htq.tp scd.tp) ⟨_,rfl,?_⟩;by_cases hti:(iy,iz)∈ts
            ·rw[if_neg (by simp[hti])];obtain⟨ps,us,e,hps,hus⟩:=hin;refine⟨_,rfl,scd,ps++[(b,tl (iy,iz))],us++[(iy,iz)],by rw[take_snoc hv,e,List.map_append];rfl,⟨fun x hx=>?_,by rw[List.map_append,List.map_append,hps.eq];rfl⟩,fun t ht=>?_⟩
             ·rcases List.mem_append.mp hx with hx | hx
              ·exact hps.to x hx
              ·rw[List.mem_singleton.mp hx];exact hb
             ·rcases List.mem_append.mp ht with ht | ht
              ·exact hus t ht
              ·rw[List.mem_singleton.mp ht];exact hti
            ·rw[if_pos (by simp[hti])];refine q false H2 scd ⟨fun h=>(by cases h),fun h=>?_⟩;obtain⟨b',t,e,eb,ht⟩:=hV h;cases e;rw[hb] at eb;injection eb with e2
             injection e2 with e3
             have e4:=List.cons.inj e3;have e5:=List.cons.inj e4.2;exact absurd (by rw[show (iy,iz)=t from Prod.ext (V.int.inj e4.1) (V.int.inj e5.1)];exact ht) hti
           ·have ha:(([y,z].map fun y=>betw y 0 (n-1)).all id)=false:=by
             rw[← Bool.not_eq_true];intro e;exact hbz (by simpa using e)
            rw[ha,if_pos (by rfl)];refine q false H2 (sc.trans sd) ⟨fun h=>(by cases h),fun h=>?_⟩;obtain⟨b',t,e,eb,ht⟩:=hV h;cases e;rw[hb] at eb;injection eb with e2
            injection e2 with e3
            have e4:=List.cons.inj e3;have e5:=List.cons.inj e4.2;have hr:=hok.rng t ht;refine absurd ⟨?_,?_⟩ hbz
            ·rw[e4.1];unfold betw;simp;omega
            ·rw[e5.1];unfold betw;simp;omega
        ·rw[if_pos (by simp;omega)];refine q false Hc sc ⟨fun h=>(by cases h),fun h=>?_⟩;obtain⟨b',t,e,eb,_⟩:=hV h;cases e;rw[hb] at eb;cases eb;exact absurd rfl hy2
       | _=>cases h2
     ·rintro σ Hc ⟨c,rfl,sc,hin⟩;rw[List.take_length] at hin;obtain⟨ps,us,rfl,hps,hus⟩:=hin;rw[List.length_map,hps.len] at hln;have hp':=sc _ _ hp;have huk:TsOk n us:=fun t ht=>hok.rng t (hus t ht)
      have ht:TsAt H t0 us:=⟨ps,hp,hps⟩
      walk_at "rd";refine⟨_,.inr (SqT.of hp'),fun l nl=>fresh_of nl fun H2 s2 e2=>?_⟩;have s02:=sc.trans s2;have hps2:=hps.tp s02.tp;refine⟨ps,.inr (SqT.of (s02 _ _ hp)),us,hps2,fun t ht'=>?_,by omega,fun ps' ts' l1 hps' hlx hmem n1=>?_⟩
      ·have:=huk t ht';omega
      refine fresh_of n1 fun H3 s3 e3=>neLT2 (s3 _ _ e2) (hps2.tp s3.tp) e3 (hps'.tp s3.tp) fun b hb=>⟨_,rfl,?_⟩
      have s03:=s02.trans s3;cases b with
      | false =>
       rw[if_pos (by rfl)];refine q false H3 s03 ⟨fun h=>(by cases h),fun h=>?_⟩;obtain⟨ps2,us2,e,hps2,hx2,_⟩:=hE h;cases hps.inj hps2 e;exact absurd (hb.mpr (lex_ext hlx hx2 hmem).symm) (by decide)
      | true =>
       have eu:=hb.mp rfl;subst eu;rw[if_neg (by decide)];refine⟨_,SqT.of (s03 _ _ hw0),_,rfl,by decide,fun wp nwp=>fresh_of nwp fun H4 s4 e4=>?_⟩;have s04:=s03.trans s4;refine⟨wp,n,us,rfl,⟨t0,e4,ht.tp s04.tp⟩,by omega,by omega,by omega,huk,hlx,fun np as H5 s5 nnp nas hR=>?_⟩;have s05:=s04.trans s5;refine⟨_,SqT.of (s05 _ _ hw0),_,rfl,n,rfl,fun pr npr=>fresh_of npr fun H6 s6 e6=>⟨0,n,e6,⟨by decide,by decide,by omega,by omega⟩,by omega,fun pl npl=>fresh_of npl fun H7 s7 e7=>?_⟩⟩;rw[Int.sub_zero] at e7;refine⟨np,as,n,us,pl,_,rfl,hR.same (s6.trans s7),huk,h60,by omega,e7,rising_nd (rInts_lt _),fun x hx=>(by have:=mem_rInts.mp hx;omega),fun b H8 s8 hb=>q b H8 (((s05.trans s6).trans s7).trans s8) ?_⟩;rw[hb];refine⟨fun h=>⟨t0,us,rfl,ht,hlx,hln,hus,h⟩,fun h=>?_⟩;obtain⟨ps2,us2,e,hps2,_,_,_,h6⟩:=hE h;cases hps.inj hps2 e;exact h6
    ·rw[if_pos (by simp;omega)];refine q false H (Same.refl H) ⟨fun h=>(by cases h),fun h=>?_⟩;obtain⟨ps,us,rfl,hps,_,h4,_⟩:=hE h;rw[List.length_map,hps.len] at hln;exact absurd h4 hln
   | _=>cases h1
def busyOf (n:Int)(ts:List (Int×Int)):List Int:=(rInts 0 n.toNat).filter fun v=>decide ((nb ts v).length>1)
def sp_busy:Sp:=fun vs H Q _=>∃ (p:Addr) (n:Int) (ts:List (Int×Int)),vs=[.ref p]∧TsAt H p ts∧(ts.length:Int)+1=n∧n≤1000∧TsOk n ts ∧
 ∀ (l:Addr) (H':Hp),Same H H'→H l=none→H' l=some (.tup ((busyOf n ts).map V.int))→Q (.ref l) H'
def inv_busy (Hb:Hp)(l:Addr)(ts:List (Int×Int))(i:Nat)(τ:St)(Hc:Hp):Prop:=∃ c d:Option V,τ=[c,d]∧Same Hb Hc∧Hc l=some (.lst (((rInts 0 i).filter fun v=>decide ((nb ts v).length>1)).map V.int))
theorem sc_busy:FnScope ["tree"] ["tree"] (defScope (top 17)):=by walk_at "s"
theorem ok_busy (F:Fun K "busy_of" "busy_of" (top 17) f fd)(B:Bt mg)(D1:Df K mg "tree_rows" st1 f1 fd1 ["tree"])(G1:FnOk P w K mg base CX0 2 f1 fd1 ["tree"] sp_trows)(C:Bt2 mg):FnOk P w K mg base CX0 3 f fd ["tree"] sp_busy:=by
 refine F.ok sc_busy (fun vs H Q E h=>?_) (fun cdv A outer s H vs Q E hr h=>?_)
 ·walk_at "h"
 ·obtain⟨p,n,ts,rfl,hp,hl,hn1,hok,q⟩:=h;have nd:=sc_busy.nd;have hu:=hu_of hr;refine⟨_,(@pss_one _ _ _ (ps_ret (pe_callTy (tupleK K) (by rfl) B.tuple boot_tuple (@pa_cons _ _ _ _ _ (pe_lcomp (own:=["place","row"]) (fr:=[]) rfl (by walk_at "w") frOk_nil (pi_enum (K:=K) (by rfl) C.enumerate boot_enumerate (@pa_cons _ _ _ _ _ (pe_own G1 D1 hr.m (@pa_cons _ _ _ _ _ (pv 0) pa_nil (by rfl))) pa_nil (by rfl))) ⟨fun _ _ _ _=>⟨(pg_tupK K (n:=2) rfl (pgs_cons (pg_name (i:=0) (show List.Nodup (["place","row"]:List Str) by decide +kernel) rfl (.inl rfl)) (pgs_cons (pg_name (i:=1) (show List.Nodup (["place","row"]:List Str) by decide +kernel) rfl (.inl rfl)) pgs_nil))),(pts_one (pt_cmpR op_gt (pe_callB (lenK K) (by rfl) B.len PySem.boot_len (@pa_cons _ _ _ _ _ (pv 1) pa_nil (by rfl))) pe_int (nomark _))),(pv 0)⟩⟩) pa_nil (by rfl))))),?_⟩;walk_at "rd";refine⟨p,n,ts,rfl,hp,hl,hn1,hok,fun rp as H1 s1 nrp nas hR=>?_⟩;refine⟨rp,rfl,⟨_,SqL.of hR.top⟩,fun l nl=>lc_enum (K:=K) (xs:=as.map V.ref) (inv_busy H1 l ts) ⟨none,none,rfl,(Same.refl H1).upd nl,upd_same⟩ ?_ ?_ ?_⟩
  ·rintro i τ Hc _ ⟨_,_,rfl,sc,_⟩;exact SqL.of (sc _ _ hR.top)
  ·rintro i v τ Hc q0 hv ⟨c,d,rfl,sc,hc⟩ nq;have hil:i<n.toNat:=by
    have:=(List.getElem?_eq_some_iff.mp hv).1;rw[List.length_map,hR.len,rowsOf_len] at this;exact this
   have hri:=rowsOf_get (n:=n) (ts:=ts) (v:=(i:Int)) (by omega) (by omega);rw[Int.toNat_natCast] at hri;rw[List.getElem?_map] at hv;cases ha:as[i]? with
   | none=>rw[ha] at hv;cases hv
   | some a =>
   rw[ha] at hv;cases Option.some.inj hv;refine fresh_of nq fun Hd sd ed=>?_
   have hra:=sd _ _ (sc _ _ (hR.row i a _ ha hri));have hcl:=sd _ _ hc;walk_at "rd";refine⟨_,SqT.of ed,rfl,_,_,rfl,_,_,rfl,rfl,?_⟩;refine⟨a,rfl,_,.inl (SqL.of hra),?_⟩;rw[List.length_map];have hfl:((rInts 0 i).filter fun v=>decide ((nb ts v).length>1)).length≤i:=Nat.le_trans (List.length_filter_le _ _) (by rw[rInts_length];exact Nat.le_refl _);refine ite2 (fun h=>⟨_,hcl,by rw[List.length_map];exact sizeBig (by omega),_,_,rfl,(sc.trans sd).upd nl,?_⟩) fun h=>⟨_,_,rfl,sc.trans sd,?_⟩
   ·rw[upd_same,rInts_succ,List.filter_append,fil_pos _ (by simp at h ⊢;omega),List.map_append,Int.zero_add];rfl
   ·rw[rInts_succ,List.filter_append,fil_neg _ (by simp at h ⊢;omega),List.append_nil];exact hcl
  ·rintro τ H2 ⟨c,d,rfl,sc,hc⟩;rw[List.length_map,hR.len,rowsOf_len] at hc;exact⟨_,.inl ⟨SqL.of hc,fun l2 n2=>fresh_of n2 fun H3 s3 e3=>q l2 H3 ((s1.trans sc).trans s3) ((s1.trans sc).free n2) e3⟩⟩
def sp_common (K:PySem.W.Frag):Sp:=fun zs H Q _=>∃ (pa:Addr) (us:List Int) (pb:Addr) (vs:List Int),zs=[.ref pa,.ref pb]∧(SqL K H pa (us.map V.int)∨SqT K H pa (us.map V.int))∧us.length≤100000∧(SqL K H pb (vs.map V.int)∨SqT K H pb (vs.map V.int)) ∧
 ∀ (b:Bool) (H':Hp),Same H H'→(b=true↔∃ x∈us,x∈vs)→Q (.bl b) H'
theorem sc_common:FnScope ["one","other"] ["one","other"] (defScope (top 13)):=by walk_at "s"
theorem ok_common (F:Fun K "have_common" "have_common" (top 13) f fd)(B:Bt mg)(C3:Bt3 mg):FnOk P w K mg base CX0 1 f fd ["one","other"] (sp_common K):=by
 refine F.ok sc_common (fun vs H Q E h=>?_) (fun cdv A outer s H vs Q E hr h=>?_)
 ·walk_at "h"
 ·obtain⟨pa,us,pb,vs,rfl,hpa,hul,hpb,q⟩:=h;have nd:=sc_common.nd;have hu:=hu_of hr;refine⟨_,(@pss_one _ _ _ (ps_ret (pe_callB (anyK K hr.hd) (by rfl) C3.any boot_anyB (@pa_cons _ _ _ _ _ (pe_lcomp (own:=["place"]) (fr:=[("other",1)]) rfl (by walk_at "w") (frOk_cons rfl rfl frOk_nil) (pi_anyK K (pv 0)) ⟨fun _ _ _ _=>⟨(pg_name (i:=0) (show List.Nodup (["place","other"]:List Str) by decide +kernel) rfl (.inl rfl)),pts_nil,(pe_cmpR (in_seqK K) (pv 0) (pv 1) (by walk_at "w"))⟩⟩) pa_nil (by rfl))))),?_⟩;walk_at "rd";have key:∀ p (np:H p=none),(∀ ys:List V,upd H p (.lst ys) p=some (.lst ys))→∀ x∈us,TurnF (gName 0) tYes (tOp (rIn K false) (tVar 0) (tVar 1)) p [some (V.ref pb)] H (.int x) true (V.bl (decide (x∈vs))) us.length:=by
   intro p np _ x hx v ys R hy hR1 hR2;have sm:Same H (upd H p (.lst ys)):=(Same.refl H).upd np;walk_at "rd";exact in_use (hpb.imp (fun h=>sm.seq h) (fun h=>sm.seqT h)) (turn_yes hy (by omega) hR1)
  have fin:∀ p (np:H p=none),∃ x:List Bool,SqL K (upd H p (.lst ((us.filter fun _=>true).map fun x=>V.bl (decide (x∈vs))))) p (x.map V.bl)∧Q (.bl (x.any id)) (upd H p (.lst ((us.filter fun _=>true).map fun x=>V.bl (decide (x∈vs))))):=by
   intro p np;rw[fil_true];refine⟨us.map fun x=>decide (x∈vs),SqL.of (by rw[upd_same,List.map_map];rfl),q _ _ ((Same.refl H).upd np) ?_⟩;rw[List.any_map,List.any_eq_true];simp
  rcases hpa with hpa | hpa
  ·exact .inl ⟨⟨_,hpa⟩,fun p np=>lc_listF V.int (fun _=>true) (fun x=>V.bl (decide (x∈vs))) (by omega) hpa np (key p np fun _=>upd_same) (fin p np)⟩
  ·exact .inr ⟨⟨_,hpa⟩,fun p np=>lc_tupF V.int (fun _=>true) (fun x=>V.bl (decide (x∈vs))) (by omega) hpa np (key p np fun _=>upd_same) (fin p np)⟩
def sp_istrue:Sp:=fun vs H Q _=>∃ (a b:Bool),vs=[.bl a,.bl b]∧Q (.bl (decide (a=b))) H
theorem sc_istrue:FnScope ["_law_found","_law_due"] ["_law_found","_law_due"] (defScope (top 36)):=by walk_at "s"
theorem ok_istrue (F:Fun K "_law_is_true" "_law_is_true" (top 36) f fd)(B:Bt mg)(C:Bt2 mg):FnOk P w K mg base CX0 1 f fd ["_law_found","_law_due"] sp_istrue:=by
 refine F.ok sc_istrue (fun vs H Q E h=>?_) (fun cdv A outer s H vs Q E hr h=>?_)
 ·walk_at "h"
 ·obtain⟨a,b,rfl,q⟩:=h;have nd:=sc_istrue.nd;have hu:=hu_of hr;refine⟨_,(@pss_one _ _ _ (ps_ret (pe_and (pe_callB (isiK K) (by rfl) C.isinstance boot_isinstance (@pa_cons _ _ _ _ _ (pv 0) (@pa_cons _ _ _ _ _ (pe_ty (by rfl) C.bool boot_bool) pa_nil (by rfl)) (by rfl))) (pe_one (pe_cmpR op_eq (pv 0) (pv 1) (nomark _)))))),?_⟩;walk_at "rd";exact⟨_,_,⟨rfl,rfl⟩,_,.bl a,true,rfl,by rw[if_pos rfl];exact q⟩
def sp_lbusy (K:PySem.W.Frag):Sp:=fun vs H Q _=>∃ (n:Int) (pt:Addr) (T:List (Int×Int)),vs=[.int n,.ref pt]∧0≤n∧n≤60∧TsAt H pt T∧T.length≤1000∧TsOk n T∧T.Pairwise Lex∧∀ (l:Addr) (H':Hp),Same H H'→H l=none→H' l=some (.lst ((busyOf n T).map V.int))→Q (.ref l) H'
def inv_lb (Hb:Hp)(l np:Addr)(T:List (Int×Int))(i:Nat)(τ:St)(Hc:Hp):Prop:=∃ c:Option V,τ=[c,some (.ref np)]∧Same Hb Hc∧Hc l=some (.lst (((rInts 0 i).filter fun v=>decide ((nb T v).length>1)).map V.int))
theorem sc_lbusy66:FnScope ["_law_places","_law_tree_here","_law_near_here"] ["_law_places","_law_tree_here"] (defScope (top 34)):=by walk_at "s"
theorem ok_lbusy66 (F:Fun K "_law_busy" "_law_busy" (top 34) f fd)(B:Bt mg)(D1:Df K mg "_law_near" st1 f1 fd1 ["_law_web_here"])(G1:FnOk P w K mg base CX0 1 f1 fd1 ["_law_web_here"] sp_near):FnOk P w K mg base CX0 2 f fd ["_law_places","_law_tree_here"] (sp_lbusy K):=by
 refine F.ok sc_lbusy66 (fun vs H Q E h=>?_) (fun cdv A outer s H vs Q E hr h=>?_)
 ·walk_at "h"
 ·obtain⟨n,pt,T,rfl,n0,h60,ht,hl,hok,hsr,q⟩:=h;have nd:=sc_lbusy66.nd;have hu:=hu_of hr
  refine⟨_,(@pss_cons _ _ _ _ _ (ps_set (i:=2) nd rfl (.inr rfl) (pe_own G1 D1 hr.m (@pa_cons _ _ _ _ _ (@pe_tup _ _ _ _ _ (@pa_cons _ _ _ _ _ (pv 0) (@pa_cons _ _ _ _ _ (pv 1) pa_nil (by rfl)) (by rfl))) pa_nil (by rfl))))
    (@pss_one _ _ _ (ps_ret (pe_lcomp (own:=["_law_place"]) (fr:=[("_law_near_here",2)]) rfl (by walk_at "w") (frOk_cons rfl rfl frOk_nil) (pi_range1 (by rfl) B.range (@pa_cons _ _ _ _ _ (pv 0) pa_nil (by rfl))) ⟨fun _ _ _ _=>⟨(pg_name (i:=0) (show List.Nodup (["_law_place","_law_near_here"]:List Str) by decide +kernel) rfl (.inl rfl)),(pts_one (pt_cmpR op_gt (pe_callB (lenK K) (by rfl) B.len PySem.boot_len (@pa_cons _ _ _ _ _ (@pe_ix _ _ _ _ _ _ _ (ix_listK K) (pv 1) (pv 0) (fun _ _=>rfl)) pa_nil (by rfl))) pe_int (nomark _))),(pv 0)⟩⟩)))),?_⟩
  simp only[L2.start,st0,List.map_cons,List.map_nil,List.length_cons,List.length_nil,List.replicate,List.cons_append,List.nil_append,Nat.reduceAdd,Nat.reduceSub];walk_at "rd";refine⟨by decide,fun wp nw=>fresh_of nw fun H1 s1 e1=>⟨wp,n,T,rfl,⟨pt,e1,ht.tp s1.tp⟩,n0,by omega,hl,hok,hsr,fun np as H2 s2 nnp nas hR=>?_⟩⟩;have s12:=s1.trans s2;refine⟨by omega,by omega,fun l nl=>lc_range (inv_lb H2 l np T) ⟨none,rfl,(Same.refl H2).upd nl,upd_same⟩ ?_ ?_⟩
  ·rintro i τ Hc hi ⟨c,rfl,sc,hc⟩;obtain⟨ra,_,g2,g3,_⟩:=hR.get (v:=(i:Int)) (by omega) (rowsOf_get (by omega) (by omega));have hfl:((rInts 0 i).filter fun v=>decide ((nb T v).length>1)).length≤60:=Nat.le_trans (List.length_filter_le ..) (by rw[rInts_length];omega);walk_at "rd";rw[Int.zero_add];refine⟨_,SqL.of (sc _ _ hR.top),_,g2,ra,rfl,_,.inl (SqL.of (sc _ _ g3)),?_⟩;rw[List.length_map];by_cases hd:(nb T (i:Int)).length>1
   ·rw[if_pos (by simp;omega)];refine⟨_,hc,by rw[List.length_map];exact sizeBig (by omega),_,rfl,sc.upd nl,?_⟩;rw[upd_same,rInts_succ,List.filter_append,List.map_append,Int.zero_add,List.filter_cons_of_pos (by simpa using hd)];rfl
   ·rw[if_neg (by simp;omega)];refine⟨_,rfl,sc,?_⟩;rw[rInts_succ,List.filter_append,Int.zero_add,List.filter_cons_of_neg (by simpa using hd)];rw[List.filter_nil,List.append_nil];exact hc
  ·rintro τ Hc ⟨c,rfl,sc,hc⟩;exact q l Hc (s12.trans sc) (s12.free nl) hc
def sp_within (K:PySem.W.Frag):Sp:=fun vs H Q _=>∃ (d np:Addr) (as:List Addr) (n:Int) (ts:List (Int×Int)) (pbz:Addr) (bs:List Int),vs=[.ref d,.ref np,.ref pbz]∧DkAt H d∧RowsAt H np as (rowsOf n ts)∧d≠np∧d∉as∧IsWeb n ts∧H pbz=some (.lst (bs.map V.int))∧d≠pbz∧bs.Nodup∧(∀ x∈bs,0≤x∧x<n)∧Busy n ts bs ∧
 ∀ (pt:Addr) (T:List (Int×Int)) (H':Hp),Kp d H H'→DkAt H' d→H pt=none→TsAt H' pt T→IsTree n ts T→(∀ x∈busyOf n T,x∈bs)→Q (.ref pt) H'
structure Wi (ts:List (Int×Int))(bs seen:List Int)(gs:List (Int×Int))(k:Nat):Prop where
 G:Grow ts seen gs
 sub:∀ x∈seen,x∈bs
 cl:∀ x∈seen.take k,∀ y∈nb ts x,y∈bs→y∈seen
structure Wi2 (ts:List (Int×Int))(bs seen:List Int)(gs:List (Int×Int))(k:Nat)(p:Int)(j:Nat):Prop where
 w:Wi ts bs seen gs k
 at':seen[k]?=some p
 mine:∀ y∈(nb ts p).take j,y∈bs→y∈seen
theorem Wi.le {ts:List (Int×Int)}{bs seen:List Int}{gs:List (Int×Int)}{k:Nat}(h:Wi ts bs seen gs k)(hnd:bs.Nodup):seen.length≤bs.length:=nd_sub h.G.nd h.sub
theorem Wi2.add {ts:List (Int×Int)}{bs seen:List Int}{gs:List (Int×Int)}{k:Nat}{p y:Int}{j:Nat}(h:Wi2 ts bs seen gs k p j)(hy:(nb ts p)[j]?=some y)(hb:y∈bs)(hn:y∉seen):Wi2 ts bs (seen++[y]) (gs++[mm p y]) k p (j+1):=by
 have hk:=(List.getElem?_eq_some_iff.mp h.at').1;refine⟨⟨.add h.w.G (List.mem_of_getElem? h.at') hn (List.mem_of_getElem? hy),fun x hx=>?_,fun x hx z hz hzb=>?_⟩,by rw[List.getElem?_append_left hk];exact h.at',fun z hz hzb=>?_⟩
 ·rcases List.mem_append.mp hx with hx | hx
  ·exact h.w.sub x hx
  ·rw[List.mem_singleton.mp hx];exact hb
 ·rw[List.take_append_of_le_length (by omega)] at hx;exact List.mem_append_left _ (h.w.cl x hx z hz hzb)
 ·rw[take_snoc hy] at hz;rcases List.mem_append.mp hz with hz | hz
  ·exact List.mem_append_left _ (h.mine z hz hzb)
  ·exact List.mem_append_right _ hz
theorem Wi2.skip {ts:List (Int×Int)}{bs seen:List Int}{gs:List (Int×Int)}{k:Nat}{p y:Int}{j:Nat}(h:Wi2 ts bs seen gs k p j)(hy:(nb ts p)[j]?=some y)(hb:y∈bs→y∈seen):Wi2 ts bs seen gs k p (j+1):=by
 refine⟨h.w,h.at',fun z hz hzb=>?_⟩;rw[take_snoc hy] at hz;rcases List.mem_append.mp hz with hz | hz
 ·exact h.mine z hz hzb
 ·rw[List.mem_singleton.mp hz] at hzb ⊢;exact hb hzb
theorem Wi2.fin {ts:List (Int×Int)}{bs seen:List Int}{gs:List (Int×Int)}{k:Nat}{p:Int}{j:Nat}(h:Wi2 ts bs seen gs k p j)(hj:(nb ts p).length≤j):Wi ts bs seen gs (k+1):=by
 refine⟨h.w.G,h.w.sub,fun x hx y hy hyb=>?_⟩;rw[take_snoc h.at'] at hx;rcases List.mem_append.mp hx with hx | hx
 ·exact h.w.cl x hx y hy hyb
 ·rw[List.mem_singleton.mp hx] at hy;exact h.mine y (by rw[List.take_of_length_le hj];exact hy) hyb
theorem Wi.all {ts:List (Int×Int)}{bs seen:List Int}{gs:List (Int×Int)}{k:Nat}(h:Wi ts bs seen gs k)(hk:seen.length≤k){u:Int}(hu:u∈seen)(hB:Hng ts bs):∀ x∈bs,x∈seen:=fun x hx=>by
 have r:=hB.2 u (h.sub u hu) x hx;induction r with
 | base=>exact hu
 | @step y z r1 hz hA ih =>
  have hy:y∈bs:=r1.mem (h.sub u hu);exact h.cl y (by rw[List.take_of_length_le hk];exact ih hy) z hz hA
structure Wo (ts:List (Int×Int))(bs ins:List Int)(gs:List (Int×Int)):Prop where
 G:Grow ts ins gs
 lf:∀ x,x∉bs→(nb gs x).length≤1
theorem Wo.add {ts:List (Int×Int)}{bs ins:List Int}{gs:List (Int×Int)}{p o:Int}(h:Wo ts bs ins gs)(ho:o∈ins)(hob:o∈bs)(hp:p∉ins)(hpb:p∉bs)(hn:p∈nb ts o):Wo ts bs (ins++[p]) (gs++[mm o p]):=by
 refine⟨.add h.G ho hp hn,fun x hx=>?_⟩;rw[dg_add (show o≠p from fun e=>hp (e ▸ ho))];by_cases e:x=p
 ·have:=dg_out h.G hp;rw[e,this,if_pos (.inr rfl)];omega
 ·rw[if_neg (fun z=>z.elim (fun z=>hx (z ▸ hob)) e)];exact h.lf x hx
def inv_w1 (Hb:Hp)(d np pbz lt ls:Addr)(ts:List (Int×Int))(bs:List Int)(m:Nat)(σ:St)(Hc:Hp):Prop:=∃ (c6 c7 c8:Option V) (k:Nat) (seen:List Int) (ps:List (Addr×List Int)) (gs:List (Int×Int)),σ=[some (.ref d),some (.ref np),some (.ref pbz),some (.ref lt),some (.ref ls),some (.int (k:Int)),c6,c7,c8]∧Same Hb Hc∧Hc lt=some (.lst (ps.map fun x=>V.ref x.1))∧PsAt Hc ps gs∧Hc ls=some (.lst (seen.map V.int))∧Wi ts bs seen gs k∧k≤seen.length∧m=bs.length-k
def inv_w2 (Hb:Hp)(d np pbz lt ls:Addr)(ts:List (Int×Int))(bs:List Int)(k:Nat)(p:Int)(j:Nat)(σ:St)(Hc:Hp):Prop:=∃ (c7 c8:Option V) (seen:List Int) (ps:List (Addr×List Int)) (gs:List (Int×Int)),σ=[some (.ref d),some (.ref np),some (.ref pbz),some (.ref lt),some (.ref ls),some (.int ((k:Int)+1)),some (.int p),c7,c8]∧Same Hb Hc∧Hc lt=some (.lst (ps.map fun x=>V.ref x.1))∧PsAt Hc ps gs∧Hc ls=some (.lst (seen.map V.int))∧Wi2 ts bs seen gs k p j
def inv_w3 (Hb:Hp)(d np pbz lt ls lo:Addr)(ts:List (Int×Int))(bs seen O:List Int)(k:Nat)(i:Nat)(σ:St)(Hc:Hp):Prop:=∃ (c6 c7 c8:Option V) (ps:List (Addr×List Int)) (gs:List (Int×Int)),σ=[some (.ref d),some (.ref np),some (.ref pbz),some (.ref lt),some (.ref ls),some (.int (k:Int)),c6,c7,c8]∧Kp d Hb Hc∧DkAt Hc d∧Hc lo=some (.lst (O.map V.int))∧Hc lt=some (.lst (ps.map fun x=>V.ref x.1))∧PsAt Hc ps gs∧Wo ts bs (seen++O.take i) gs
theorem sc_ltwithin:FnScope ["_law_deck_here","_law_near_here","_law_busy_here","_law_ties","_law_seen","_law_at","_law_place","_law_other","_law_ready"] ["_law_deck_here","_law_near_here","_law_busy_here"] (defScope (top 33)):=by walk_at "s"
theorem ok_ltwithin (F:Fun K "_law_tree_within" "_law_tree_within" (top 33) f fd)(B:Bt mg)(D1:Df K mg "_law_next" st1 f1 fd1 ["_law_deck_here"])(G1:FnOk P w K mg base CX0 1 f1 fd1 ["_law_deck_here"] sp_next):FnOk P w K mg base CX0 2 f fd ["_law_deck_here","_law_near_here","_law_busy_here"] (sp_within K):=by
 refine F.ok sc_ltwithin (fun vs H Q E h=>?_) (fun cdv A outer s H vs Q E hr h=>?_)
 ·walk_at "h"
 ·obtain⟨d,np,as,n,ts,pbz,bs,rfl,dk,hR,dnp,das,hok,hbz,dbz,hnd,hbr,hB,q⟩:=h;have nd:=sc_ltwithin.nd;have hu:=hu_of hr
  refine⟨_,(@pss_cons _ _ _ _ _ (ps_set (i:=3) nd rfl (.inl rfl) (@pe_lst _ _ _ _ pa_nil))
    (@pss_cons _ _ _ _ _ (ps_set (i:=4) nd rfl (.inl rfl) (@pe_lst _ _ _ _ (@pa_cons _ _ _ _ _ (@pe_ix _ _ _ _ _ _ _ (ix_listK K) (pv 2) pe_int (fun _ _=>rfl)) pa_nil (by rfl))))
    (@pss_cons _ _ _ _ _ (ps_set (i:=5) nd rfl (.inl rfl) pe_int)
    (@pss_cons _ _ _ _ _ (ps_while PassesOwn.never (pt_cmpR op_lt (pv 5) (pe_callB (lenK K) (by rfl) B.len PySem.boot_len (@pa_cons _ _ _ _ _ (pv 4) pa_nil (by rfl))) (nomark _))
     (@pss_cons _ _ _ _ _ (ps_set (i:=6) nd rfl (.inl rfl) (@pe_ix _ _ _ _ _ _ _ (ix_listK K) (pv 4) (pv 5) (fun _ _=>rfl)))
     (@pss_cons _ _ _ _ _ (ps_set (i:=5) nd rfl (.inl rfl) (@pe_op _ _ _ _ _ _ _ _ op_add (pv 5) pe_int))
     (@pss_one _ _ _ (ps_for PassesOwn.never rfl (pi_listK K (@pe_ix _ _ _ _ _ _ _ (ix_listK K) (pv 1) (pv 6) (fun _ _=>rfl))) (pg_name (i:=7) nd rfl (.inl rfl))
      (@pss_one _ _ _ (@ps_if _ _ _ _ _ _ _ _ (PW.pt (pw_and (pt_cmpR (in_seqK K) (pv 7) (pv 2) (by walk_at "w")) (pw_and1 (pt_cmpR (notIn_seqK K) (pv 7) (pv 4) (by walk_at "w")))))
       (@pss_cons _ _ _ _ _ (ps_expr (appendK K (pv 4) (@pa_cons _ _ _ _ _ (pv 7) pa_nil (by rfl))))
       (@pss_one _ _ _ (ps_expr (appendK K (pv 3) (@pa_cons _ _ _ _ _ (@pe_tup _ _ _ _ _ (@pa_cons _ _ _ _ _ (pe_callB (call_min2 rfl) (by rfl) B.min boot_min (@pa_cons _ _ _ _ _ (pv 6) (@pa_cons _ _ _ _ _ (pv 7) pa_nil (by rfl)) (by rfl))) (@pa_cons _ _ _ _ _ (pe_callB (call_max2 rfl) (by rfl) B.max boot_max (@pa_cons _ _ _ _ _ (pv 6) (@pa_cons _ _ _ _ _ (pv 7) pa_nil (by rfl)) (by rfl))) pa_nil (by rfl)) (by rfl))) pa_nil (by rfl))))))
       pss_nil)))))))
    (@pss_cons _ _ _ _ _ (ps_for PassesOwn.never rfl (pi_listK K (pe_lcomp (own:=["_law_one"]) (fr:=[("_law_busy_here",2)]) rfl (by walk_at "w") (frOk_cons rfl rfl frOk_nil) (pi_range1 (by rfl) B.range (@pa_cons _ _ _ _ _ (pe_callB (lenK K) (by rfl) B.len PySem.boot_len (@pa_cons _ _ _ _ _ (pv 1) pa_nil (by rfl))) pa_nil (by rfl))) ⟨fun _ _ _ _=>⟨(pg_name (i:=0) (show List.Nodup (["_law_one","_law_busy_here"]:List Str) by decide +kernel) rfl (.inl rfl)),(pts_one (pt_cmpR (notIn_seqK K) (pv 0) (pv 1) (by walk_at "w"))),(pv 0)⟩⟩)) (pg_name (i:=6) nd rfl (.inl rfl))
     (@pss_cons _ _ _ _ _ (ps_setLC (i:=8) (own:=["_law_one"]) (fr:=[("_law_busy_here",2)]) rfl nd rfl rfl (by walk_at "w") (by walk_at "w") (frOk_cons rfl rfl frOk_nil) (pi_listK K (@pe_ix _ _ _ _ _ _ _ (ix_listK K) (pv 1) (pv 6) (fun _ _=>rfl))) ⟨fun _ _ _ _=>⟨(pg_name (i:=0) (show List.Nodup (["_law_one","_law_busy_here"]:List Str) by decide +kernel) rfl (.inl rfl)),(pts_one (pt_cmpR (in_seqK K) (pv 0) (pv 1) (by walk_at "w"))),(pv 0)⟩⟩)
     (@pss_cons _ _ _ _ _ (ps_set (i:=7) nd rfl (.inl rfl) (@pe_ix _ _ _ _ _ _ _ (ix_listK K) (pv 8) (@pe_op _ _ _ _ _ _ _ _ op_mod (pe_own G1 D1 hr.m (@pa_cons _ _ _ _ _ (pv 0) pa_nil (by rfl))) (pe_callB (lenK K) (by rfl) B.len PySem.boot_len (@pa_cons _ _ _ _ _ (pv 8) pa_nil (by rfl)))) (fun _ _=>rfl)))
     (@pss_one _ _ _ (ps_expr (appendK K (pv 3) (@pa_cons _ _ _ _ _ (@pe_tup _ _ _ _ _ (@pa_cons _ _ _ _ _ (pe_callB (call_min2 rfl) (by rfl) B.min boot_min (@pa_cons _ _ _ _ _ (pv 6) (@pa_cons _ _ _ _ _ (pv 7) pa_nil (by rfl)) (by rfl))) (@pa_cons _ _ _ _ _ (pe_callB (call_max2 rfl) (by rfl) B.max boot_max (@pa_cons _ _ _ _ _ (pv 6) (@pa_cons _ _ _ _ _ (pv 7) pa_nil (by rfl)) (by rfl))) pa_nil (by rfl)) (by rfl))) pa_nil (by rfl))))))))
    (@pss_one _ _ _ (ps_ret (pe_callTy (tupleK K) (by rfl) B.tuple boot_tuple (@pa_cons _ _ _ _ _ (pe_callB (sortedTK K) (by rfl) B.sorted boot_sorted (@pa_cons _ _ _ _ _ (pv 3) pa_nil (by rfl))) pa_nil (by rfl)))))))))),?_⟩
  simp only[L2.start,st0,List.map_cons,List.map_nil,List.length_cons,List.length_nil,List.replicate,List.cons_append,List.nil_append,Nat.reduceAdd,Nat.reduceSub];walk_at "rd";have h3:=hok.n3;have h60:=hok.n60;have hbl:=nd_len hnd hbr;have hne:=hB.1.1;refine⟨by decide,fun lt nlt=>fresh_of nlt fun H1 s1 e1=>?_⟩;obtain⟨u,hu,eu⟩:∃ u∈bs,atI (bs.map V.int) 0=some (.int u):=by
   match bs,hne with
   | u::r,_=>exact⟨u,by simp,by show atI (V.int u::r.map V.int) 0=_;unfold atI ixN;simp⟩
  refine⟨_,SqL.of (s1 _ _ hbz),_,eu,by decide,fun ls nls=>fresh_of nls fun H2 s2 e2=>?_⟩;have s12:=s1.trans s2;have nls0:H ls=none:=s1.free nls;have ltls:lt≠ls:=ne_of_none e1 nls;refine⟨inv_w1 H d np pbz lt ls ts bs,⟨_,none,none,none,0,[u],[],[],rfl,s12,s2 _ _ e1,⟨fun x hx=>(by cases hx),rfl⟩,e2,⟨.one u,fun x hx=>by rw[List.mem_singleton.mp hx];exact hu,fun x hx=>(by rw[List.take_zero] at hx;cases hx)⟩,by simp,rfl⟩,?_⟩;rintro m σ Hc ⟨c6,c7,c8,k,seen,ps,gs,rfl,sc,hlt,hps,hls,W,hks,rfl⟩;have hsl:=W.le hnd;walk_at "rd";refine⟨_,.inl (SqL.of hls),?_⟩;rw[List.length_map];refine ite2 (fun hkl=>?_) fun hkl=>?_
  ·have hkl':k<seen.length:=by have:=of_decide_eq_true hkl;omega
   have hp:=List.getElem?_eq_getElem hkl';have hpm:=List.getElem_mem hkl';generalize seen[k]=p at hp hpm;have hpa:atI (seen.map V.int) (k:Int)=some (.int p):=atI_nat (by rw[List.getElem?_map,hp];rfl);obtain⟨p0,p1⟩:=hbr p (W.sub p hpm);obtain⟨ra,_,g2,g3,_⟩:=hR.get p0 (rowsOf_get p0 p1);refine⟨fun σ' H'=>∃ m',m'<bs.length-k∧inv_w1 H d np pbz lt ls ts bs m' σ' H',fun _ _ z=>z,_,SqL.of hls,_,hpa,?_⟩;rw[tFor_eq];walk_at "rd";refine⟨_,SqL.of (sc _ _ hR.top),_,g2,ra,rfl,⟨_,SqL.of (sc _ _ g3)⟩,for_list (K:=K) (xs:=(nb ts p).map V.int) (inv_w2 H d np pbz lt ls ts bs k p) ⟨_,_,seen,ps,gs,rfl,sc,hlt,hps,hls,⟨W,hp,fun y hy=>(by rw[List.take_zero] at hy;cases hy)⟩⟩ ?_ ?_ ?_⟩
   ·rintro j σ Hd _ ⟨_,_,_,_,_,rfl,sd,_⟩;exact SqL.of (sd _ _ g3)
   ·rintro j v σ Hd hv ⟨c7,c8,seen,ps,gs,rfl,sd,hlt,hps,hls,W⟩;rw[List.getElem?_map] at hv;obtain⟨y,hy,rfl⟩:=Option.map_eq_some_iff.mp hv;have hsl:=W.w.le hnd;have hgl:=W.w.G.len;have hpl:=hps.len;walk_at "rd";refine in_use (.inl (SqL.of (sd _ _ hbz))) ⟨_,rfl,?_⟩;by_cases hyb:y∈bs
    ·rw[if_pos (by simpa using hyb)];refine notin_use (.inl (SqL.of hls)) ⟨_,rfl,?_⟩;by_cases hys:y∈seen
     ·rw[if_neg (by simp[hys])];exact⟨_,_,seen,ps,gs,rfl,sd,hlt,hps,hls,W.skip hy fun _=>hys⟩
     ·rw[if_pos (by simp[hys])];refine⟨.inl ⟨rfl,_,SqL.of hls⟩,_,hls,by rw[List.length_map];exact sizeBig (by omega),?_⟩;have tA:Tp Hd (upd Hd ls (.lst (seen.map V.int++[V.int y]))):=Tp.lst hls;have hltA:(upd Hd ls (.lst (seen.map V.int++[V.int y]))) lt=some (.lst (ps.map fun x=>V.ref x.1)):=by rw[upd_ne ltls];exact hlt
      have eA:(upd Hd ls (.lst (seen.map V.int++[V.int y]))) ls=some (.lst ((seen++[y]).map V.int)):=by rw[upd_same,List.map_append];rfl
      have sA:Same H (upd Hd ls (.lst (seen.map V.int++[V.int y]))):=sd.upd nls0;generalize upd Hd ls (.lst (seen.map V.int++[V.int y]))=HA at tA hltA eA sA ⊢;refine⟨.inl ⟨rfl,_,SqL.of hltA⟩,_,_,⟨rfl,rfl⟩,_,_,⟨rfl,rfl⟩,by decide,fun pw npw=>?_⟩;have hltB:(upd HA pw (.tup [V.int (if y<p then y else p),V.int (if y>p then y else p)])) lt=some (.lst (ps.map fun x=>V.ref x.1)):=at_new hltA npw;refine⟨_,hltB,by rw[List.length_map];exact sizeBig (by omega),_,_,seen++[y],ps++[(pw,tl (mm p y))],gs++[mm p y],rfl,(sA.upd (sA.free npw)).upd nlt,by rw[upd_same,List.map_append];rfl,?_,?_,W.add hy hyb hys⟩
      ·refine PsAt.snoc ((hps.tp tA).tp ((Tp.nw npw).trans (Tp.lst hltB))) ?_;rw[upd_ne (ne_of_none hltA npw).symm,upd_same];rfl
      ·rw[upd_ne ltls.symm];exact at_new eA npw
    ·rw[if_neg (by simpa using hyb)];exact⟨_,_,seen,ps,gs,rfl,sd,hlt,hps,hls,W.skip hy fun h=>absurd h hyb⟩
   ·rintro σ Hd ⟨c7,c8,seen,ps,gs,rfl,sd,hlt,hps,hls,W⟩;rw[List.length_map] at W;have hk2:=(List.getElem?_eq_some_iff.mp W.at').1;have:=W.w.le hnd;exact⟨bs.length-(k+1),by omega,_,_,_,k+1,seen,ps,gs,by rw[Int.natCast_add];rfl,sd,hlt,hps,hls,W.fin (Nat.le_refl _),by omega,rfl⟩
  ·have hkl':seen.length≤k:=by
    rcases Nat.lt_or_ge k seen.length with h | h
    ·exact absurd (decide_eq_true (by omega)) hkl
    ·exact h
   have hu0:∃ x,x∈seen:=by
    have:=W.G.len;exact List.exists_mem_of_length_pos (by omega)
   obtain⟨x0,hx0⟩:=hu0;have hall:=W.all hkl' hx0 hB.1;rw[tFor_eq];walk_at "rd";have hnl:((as.map V.ref).length:Int)=n:=by rw[List.length_map,hR.len,rowsOf_len];omega
   have dc:=dk.same sc;refine⟨_,.inl (SqL.of (sc _ _ hR.top)),by omega,by omega,fun lo nlo=>?_⟩;rw[hnl];refine lc_rangeF (fun x=>!decide (x∈bs)) (fun x=>V.int x) (by omega) ?_ ?_
   ·intro x x0 x1 v ys R hys hR1 hR2;have sm:Same Hc (upd Hc lo (.lst ys)):=(Same.refl Hc).upd nlo;walk_at "rd";exact notin_use (.inl (SqL.of (sm _ _ (sc _ _ hbz)))) ⟨_,rfl,turn_ite rfl hys (by omega) hR1 hR2⟩
   have lold:lo≠d:=dc.ne nlo;have lolt:lo≠lt:=(ne_of_none hlt nlo).symm;have nlo0:H lo=none:=sc.free nlo;have O1:∀ x∈(rInts 0 n.toNat).filter (fun x=>!decide (x∈bs)),(0≤x∧x<n)∧x∉bs:=fun x hx=>by
    obtain⟨h1,h2⟩:=List.mem_filter.mp hx;have:=mem_rInts.mp h1;exact⟨⟨by omega,by omega⟩,by simpa using h2⟩
   have O2:∀ x,0≤x→x<n→x∉bs→x∈(rInts 0 n.toNat).filter (fun x=>!decide (x∈bs)):=fun x x0 x1 hx=>List.mem_filter.mpr ⟨mem_rInts.mpr ⟨by omega,by omega⟩,by simpa using hx⟩
   have O3:((rInts 0 n.toNat).filter (fun x=>!decide (x∈bs))).Nodup:=(rising_nd (rInts_lt _)).filter _;generalize (rInts 0 n.toNat).filter (fun x=>!decide (x∈bs))=O at O1 O2 O3 ⊢;refine fresh_of nlo fun H5 s5 e5=>⟨⟨_,SqL.of e5⟩,for_list (K:=K) (xs:=O.map V.int) (inv_w3 H d np pbz lt ls lo ts bs seen O k) ⟨_,_,_,ps,gs,rfl,(sc.trans s5).kp,dc.same s5,e5,s5 _ _ hlt,hps.tp s5.tp,?_⟩ ?_ ?_ ?_⟩
   ·rw[List.take_zero,List.append_nil];exact⟨W.G,fun x hx=>by rw[dg_out W.G fun h=>hx (W.sub x h)];exact Nat.zero_le _⟩
   ·rintro i σ Hd _ ⟨_,_,_,_,_,rfl,_,_,eo,_⟩;exact SqL.of eo
   ·rintro i v σ Hd hv ⟨c6,c7,c8,ps,gs,rfl,kd,dd,eo,hlt,hps,W2⟩;rw[List.getElem?_map] at hv;obtain⟨p,hp,rfl⟩:=Option.map_eq_some_iff.mp hv;obtain⟨⟨p0,p1⟩,hpb⟩:=O1 p (List.mem_of_getElem? hp);have hil:=(List.getElem?_eq_some_iff.mp hp).1;have hgl:=W2.G.len;have hpl:=hps.len;have hins:(seen++O.take i).length≤60:=by
     have:=nd_len (n:=n) W2.G.nd fun x hx=>by
      rcases List.mem_append.mp hx with hx | hx
      ·exact hbr x (W.sub x hx)
      ·exact (O1 x (List.mem_of_mem_take hx)).1
     omega
    have hRd:=hR.kp kd dnp das;have hbzd:Hd pbz=some (.lst (bs.map V.int)):=kd _ _ dbz.symm hbz;obtain⟨ra,_,g2,g3,_⟩:=hRd.get p0 (rowsOf_get p0 p1);have hnbl:(nb ts p).length≤1000:=by
     have:=nb_lt hok.rng hok.srt p;have:=nd_len (rising_nd this) fun x hx=>⟨(nb_rng hok.rng hx).1,(nb_rng hok.rng hx).2.1⟩
     omega
    walk_at "rd";refine⟨_,SqL.of hRd.top,_,g2,ra,rfl,⟨_,SqL.of g3⟩,fun r nr=>lc_listF V.int (fun x=>decide (x∈bs)) (fun x=>V.int x) (by omega) (SqL.of g3) nr ?_ ?_⟩
    ·intro x hx v ys R hys hR1 hR2;have sm:Same Hd (upd Hd r (.lst ys)):=(Same.refl Hd).upd nr;walk_at "rd";exact in_use (.inl (SqL.of (sm _ _ hbzd))) ⟨_,rfl,turn_ite rfl hys (by omega) hR1 hR2⟩
    have rd:r≠d:=dd.ne nr;have rlt:r≠lt:=(ne_of_none hlt nr).symm;refine fresh_of nr fun He se ee=>next_use (dd.same se) fun z Hf kf df _=>?_
    have ef:=kf _ _ rd ee;obtain⟨y,hy1,hy2⟩:=hB.2 p p0 p1 hpb;have hrl:0<(((nb ts p).filter fun x=>decide (x∈bs)).map V.int).length:=by
     rw[List.length_map];exact List.length_pos_of_mem (List.mem_filter.mpr ⟨hy1,decide_eq_true hy2⟩)
    obtain⟨ov,hov,eov⟩:=pick_mod hrl z;obtain⟨o,ho,rfl⟩:=List.mem_map.mp hov;obtain⟨ho1,ho2⟩:=List.mem_filter.mp ho;have hob:o∈bs:=of_decide_eq_true ho2;have hop:o≠p:=fun e=>hpb (e ▸ hob)
    refine⟨_,.inl (SqL.of ef),z,rfl,Int.natCast_pos.mpr hrl,_,SqL.of ef,_,eov,?_⟩;have ltd:lt≠d:=(dk.ne nlt)
    have hltf:Hf lt=some (.lst (ps.map fun x=>V.ref x.1)):=kf _ _ ltd (se _ _ hlt);have tf:Tp Hd Hf:=se.tp.trans (kf.tp (dd.same se));have eof:Hf lo=some (.lst (O.map V.int)):=kf _ _ lold (se _ _ eo);refine⟨.inl ⟨rfl,_,SqL.of hltf⟩,_,_,⟨rfl,rfl⟩,_,_,⟨rfl,rfl⟩,by decide,fun pw npw=>?_⟩;have hltB:(upd Hf pw (.tup [V.int (if o<p then o else p),V.int (if o>p then o else p)])) lt=some (.lst (ps.map fun x=>V.ref x.1)):=at_new hltf npw;have eoB:(upd Hf pw (.tup [V.int (if o<p then o else p),V.int (if o>p then o else p)])) lo=some (.lst (O.map V.int)):=at_new eof npw;have pwd:pw≠d:=df.ne npw;have kk:Kp d H Hf:=(kd.trans se.kp).trans kf;have pwH:H pw=none:=kk.free df npw;refine⟨_,hltB,by rw[List.length_map];exact sizeBig (by omega),_,_,_,ps++[(pw,tl (mm p o))],gs++[mm p o],rfl,(kk.new pwH).new nlt,(df.new pwd).new ltd,by rw[upd_ne lolt];exact eoB,by rw[upd_same,List.map_append];rfl,?_,?_⟩
    ·refine PsAt.snoc ((hps.tp tf).tp ((Tp.nw npw).trans (Tp.lst hltB))) ?_;rw[upd_ne (ne_of_none hltf npw).symm,upd_same];rfl
    ·have hpn:p∉seen++O.take i:=fun h=>by
      rcases List.mem_append.mp h with h | h
      ·exact hpb (W.sub p h)
      ·obtain⟨j,hj⟩:=List.getElem?_of_mem h;have hji:j<i:=by
        have:=(List.getElem?_eq_some_iff.mp hj).1;rw[List.length_take] at this;omega
       rw[List.getElem?_take_of_lt hji] at hj;have:=(List.getElem?_inj (i:=j) (j:=i) (by omega) O3).mp (hj.trans hp.symm);omega
     have:=W2.add (List.mem_append_left _ (hall o hob)) hob hpn hpb ((nb_sym hok.rng).mp ho1);rw[take_snoc hp,← List.append_assoc,← mm_comm hop];exact this
   ·rintro σ Hd ⟨c6,c7,c8,ps,gs,rfl,kd,dd,eo,hlt,hps,W2⟩;rw[List.length_map,List.take_length] at W2;have hrg:∀ x∈seen++O,0≤x∧x<n:=fun x hx=>by
     rcases List.mem_append.mp hx with hx | hx
     ·exact hbr x (W.sub x hx)
     ·exact (O1 x hx).1
    have hl1:=nd_len (n:=n) W2.G.nd hrg;have hl2:=nd_sub (rising_nd (rInts_lt n.toNat)) (l:=seen++O) fun x hx=>by
     have:=mem_rInts.mp hx;by_cases hb:x∈bs
     ·exact List.mem_append_left _ (hall x hb)
     ·exact List.mem_append_right _ (O2 x (by omega) (by omega) hb)
    rw[rInts_length] at hl2;walk_at "rd";have hgl:=W2.G.len;have hpl:=hps.len;have h60':=hok.n60;refine⟨ps,hps.src hlt (by omega),fun ps' l2 pm hs nl2=>?_⟩;obtain⟨us',pu,hps'⟩:=hps.perm pm;refine fresh_of nl2 fun He se ee=>⟨_,.inl ⟨SqL.of ee,fun l3 n3=>fresh_of n3 fun Hf sf ef=>?_⟩⟩
    have hT:=grow_tree W2.G hok.rng (by omega) hrg pu (hps'.srt hs);have ddf:=dd.same (se.trans sf);refine q l3 us' Hf (kd.trans (se.trans sf).kp) ddf ((kd.trans se.kp).free (dd.same se) n3) ⟨ps',ef,hps'.tp (se.trans sf).tp⟩ hT fun x hx=>?_
    have hx2:=(List.mem_filter.mp hx).2;refine Classical.byContradiction fun hb=>?_
    have h1:=W2.lf x hb;have h2:(nb us' x).length=(nb gs x).length:=by unfold nb;exact (pu.filterMap _).length_eq
    have h3':(nb us' x).length>1:=of_decide_eq_true hx2;omega
def sp_parted (K:PySem.W.Frag):Sp:=fun vs H Q _=>∃ (d:Addr) (lo hi:Int),vs=[.ref d,.int lo,.int hi]∧DkAt H d∧4≤lo∧lo≤hi∧hi≤20 ∧
 ∀ (p w:Addr) (n:Int) (ts:List (Int×Int)) (po p0 p1:Addr) (c0 c1:List Int) (H':Hp),Kp d H H'→DkAt H' d→H' p=some (.tup [.ref w,.ref po])→WebAt H' w n ts→H po=none→H p0=none→H p1=none→H' po=some (.lst [.ref p0,.ref p1])→H' p0=some (.lst (c0.map V.int))→H' p1=some (.lst (c1.map V.int))→Ptd n ts c0 c1→n≤hi→Q (.ref p) H'
def inv_pq (Hb:Hp)(d p:Addr)(i:Nat)(τ:St)(Hc:Hp):Prop:=∃ (c:Option V) (zs:List Int),τ=[c,some (.ref d)]∧Kp d Hb Hc∧DkAt Hc d∧Hc p=some (.lst (zs.map V.int))∧zs.length=i∧∀ z∈zs,z=0∨z=1
def inv_po (Hb:Hp)(po pc:Addr)(n:Int)(cs:List Int)(i:Nat)(τ:St)(Hc:Hp):Prop:=∃ (c:Option V) (ps:List Addr),τ=[c,some (.ref pc),some (.int n)]∧Same Hb Hc∧Hc po=some (.lst (ps.map V.ref))∧ps.length=i∧∀ (j:Nat) a,ps[j]?=some a→Hc a=some (.lst ((ownC cs n (j:Int)).map V.int))∧Hb a=none
structure Pk (H Hc:Hp)(d pc po p0 p1:Addr)(n:Int)(cs:List Int):Prop where
 k:Kp d H Hc
 dk:DkAt Hc d
 c:Hc pc=some (.lst (cs.map V.int))
 o:Hc po=some (.lst [.ref p0,.ref p1])
 o0:Hc p0=some (.lst ((ownC cs n 0).map V.int))
 o1:Hc p1=some (.lst ((ownC cs n 1).map V.int))
structure Nd (H:Hp)(d pc po p0 p1 pf:Addr):Prop where
 c:H pc=none
 o:H po=none
 o0:H p0=none
 o1:H p1=none
 f:H pf=none
 cf:pc≠pf
 of:po≠pf
 f0:p0≠pf
 f1:p1≠pf
theorem Pk.same {H Hc Hd:Hp}{d pc po p0 p1:Addr}{n:Int}{cs:List Int}(h:Pk H Hc d pc po p0 p1 n cs)(s:Same Hc Hd):Pk H Hd d pc po p0 p1 n cs:=⟨h.k.trans s.kp,h.dk.same s,s _ _ h.c,s _ _ h.o,s _ _ h.o0,s _ _ h.o1⟩
theorem Pk.kp {H Hc Hd:Hp}{d pc po p0 p1 pf:Addr}{n:Int}{cs:List Int}(h:Pk H Hc d pc po p0 p1 n cs)(N:Nd H d pc po p0 p1 pf)(hd:DkAt H d)(k:Kp d Hc Hd)(dd:DkAt Hd d):Pk H Hd d pc po p0 p1 n cs:=⟨h.k.trans k,dd,k _ _ (hd.ne N.c) h.c,k _ _ (hd.ne N.o) h.o,k _ _ (hd.ne N.o0) h.o0,k _ _ (hd.ne N.o1) h.o1⟩
theorem Pk.put {H Hc:Hp}{d pc po p0 p1 pf:Addr}{n:Int}{cs:List Int}{o:HO}(h:Pk H Hc d pc po p0 p1 n cs)(N:Nd H d pc po p0 p1 pf)(hd:DkAt H d):Pk H (upd Hc pf o) d pc po p0 p1 n cs:=⟨h.k.new N.f,h.dk.new (hd.ne N.f),by rw[upd_ne N.cf];exact h.c,by rw[upd_ne N.of];exact h.o,by rw[upd_ne N.f0];exact h.o0,by rw[upd_ne N.f1];exact h.o1⟩
def inv_p1 (H:Hp)(d pc po p0 p1 pf:Addr)(lo hi n:Int)(cs:List Int)(i:Nat)(σ:St)(Hc:Hp):Prop:=∃ (c4 c8 c9 c10 c11 c12 c13:Option V) (fs:List (Int×Int)),σ=[some (.ref d),some (.int lo),some (.int hi),some (.int n),c4,some (.ref pc),some (.ref po),some (.ref pf),c8,c9,c10,c11,c12,c13]∧Pk H Hc d pc po p0 p1 n cs∧Hc pf=some (.dT (kvT fs))∧fs.length≤2*i∧Pf n cs fs (i:Int)
def HasA (n:Int)(cs:List Int)(fs:List (Int×Int))(i:Int):Prop:=∃ o,0≤o∧o<n∧clr cs o≠clr cs i∧mm i o∈fs
def HasB (cs:List Int)(fs:List (Int×Int))(i:Int):Prop:=∃ u,0≤u∧u<i∧clr cs u=clr cs i∧mm i u∈fs
def inv_p2 (H:Hp)(d pc po p0 p1 pf:Addr)(lo hi n:Int)(cs:List Int)(i:Nat)(pr:Addr)(rs:List V)(pa:Addr)(ah:List Int)(c9:Option V)(j:Nat)(σ:St)(Hc:Hp):Prop:=∃ (c8 c11 c12 c13:Option V) (fs:List (Int×Int)),σ=[some (.ref d),some (.int lo),some (.int hi),some (.int n),some (.int (0+(i:Int))),some (.ref pc),some (.ref po),some (.ref pf),c8,c9,some (.ref pr),c11,c12,c13]∧Pk H Hc d pc po p0 p1 n cs∧Hc pf=some (.dT (kvT fs))∧Hc pr=some (.lst rs)∧Hc pa=some (.lst (ah.map V.int))∧fs.length≤2*i+j∧Pf n cs fs (i:Int)∧(1≤j→HasA n cs fs i)∧(2≤j→HasB cs fs i)
def inv_p3 (H:Hp)(d pc po p0 p1 pf:Addr)(lo hi n:Int)(cs:List Int)(i:Nat)(σ:St)(Hc:Hp):Prop:=∃ (c4 c8 c9 c10 c11 c12 c13:Option V) (fs:List (Int×Int)),σ=[some (.ref d),some (.int lo),some (.int hi),some (.int n),c4,some (.ref pc),some (.ref po),some (.ref pf),c8,c9,c10,c11,c12,c13]∧Pk H Hc d pc po p0 p1 n cs∧Hc pf=some (.dT (kvT fs))∧fs.length≤40+i∧Pf n cs fs n
theorem sc_lparted:FnScope ["_law_deck_here","_law_least","_law_most","_law_places","_law_place","_law_colours","_law_own","_law_found","_law_one","_law_ahead","_law_rows","_law_row","_law_other","_law_turn_here"] ["_law_deck_here","_law_least","_law_most"] (defScope (top 32)):=by walk_at "s"
theorem ok_lparted (F:Fun K "_law_parted_web" "_law_parted_web" (top 32) f fd)(B:Bt mg)(D1:Df K mg "_law_next" st1 f1 fd1 ["_law_deck_here"])(G1:FnOk P w K mg base CX0 1 f1 fd1 ["_law_deck_here"] sp_next):FnOk P w K mg base CX0 2 f fd ["_law_deck_here","_law_least","_law_most"] (sp_parted K):=by
 refine F.ok sc_lparted (fun vs H Q E h=>?_) (fun cdv A outer s H vs Q E hr h=>?_)
 ·walk_at "h"
 ·obtain⟨d,lo,hi,rfl,dk,l4,lh,h60,q⟩:=h;have nd:=sc_lparted.nd;have hu:=hu_of hr
  refine⟨_,(@pss_cons _ _ _ _ _ (ps_set (i:=3) nd rfl (.inr rfl) (@pe_op _ _ _ _ _ _ _ _ op_add (pv 1) (@pe_op _ _ _ _ _ _ _ _ op_mod (pe_own G1 D1 hr.m (@pa_cons _ _ _ _ _ (pv 0) pa_nil (by rfl))) (@pe_op _ _ _ _ _ _ _ _ op_add (@pe_op _ _ _ _ _ _ _ _ op_sub (pv 2) (pv 1)) pe_int))))
    (@pss_cons _ _ _ _ _ (ps_set (i:=5) nd rfl (.inr rfl) (@pe_op _ _ _ _ _ _ _ _ op_cat (@pe_lst _ _ _ _ (@pa_cons _ _ _ _ _ pe_int (@pa_cons _ _ _ _ _ pe_int pa_nil (by rfl)) (by rfl))) (pe_lcomp (own:=["_law_place"]) (fr:=[("_law_deck_here",0)]) rfl (by walk_at "w") (frOk_cons rfl rfl frOk_nil) (pi_range1 (by rfl) B.range (@pa_cons _ _ _ _ _ (@pe_op _ _ _ _ _ _ _ _ op_sub (pv 3) pe_int) pa_nil (by rfl))) ⟨fun _ _ _ _=>⟨(pg_name (i:=0) (show List.Nodup (["_law_place","_law_deck_here"]:List Str) by decide +kernel) rfl (.inl rfl)),pts_nil,(@pe_op _ _ _ _ _ _ _ _ op_mod (pe_own G1 D1 hr.m (@pa_cons _ _ _ _ _ (pv 1) pa_nil (by rfl))) pe_int)⟩⟩)))
    (@pss_cons _ _ _ _ _ (ps_setLCC (i:=6) (own:=["_law_c"]) (fr:=[("_law_colours",5),("_law_places",3)]) rfl nd rfl rfl (by walk_at "w") (by walk_at "w") (frOk_cons rfl rfl (frOk_cons rfl rfl frOk_nil)) (pi_tupK K (@pe_tup _ _ _ _ _ (@pa_cons _ _ _ _ _ pe_int (@pa_cons _ _ _ _ _ pe_int pa_nil (by rfl)) (by rfl)))) ⟨fun _ _ _ _=>⟨(pg_name (i:=0) (show List.Nodup (["_law_c","_law_colours","_law_places"]:List Str) by decide +kernel) rfl (.inr rfl)),pts_nil,(pe_lcomp (own:=["_law_place"]) (fr:=[("_law_c",0),("_law_colours",1)]) rfl (by walk_at "w") (frOk_cons rfl rfl (frOk_cons rfl rfl frOk_nil)) (pi_range1 (by rfl) B.range (@pa_cons _ _ _ _ _ (pv 2) pa_nil (by rfl))) ⟨fun _ _ _ _=>⟨(pg_name (i:=0) (show List.Nodup (["_law_place","_law_c","_law_colours"]:List Str) by decide +kernel) rfl (.inl rfl)),(pts_one (pt_cmpR op_eq (@pe_ix _ _ _ _ _ _ _ (ix_listK K) (pv 2) (pv 0) (fun _ _=>rfl)) (pv 1) (nomark _))),(pv 0)⟩⟩)⟩⟩)
    (@pss_cons _ _ _ _ _ (ps_set (i:=7) nd rfl (.inl rfl) pe_dnewT)
    (@pss_cons _ _ _ _ _ (ps_for PassesOwn.never rfl (pi_range1 (by rfl) B.range (@pa_cons _ _ _ _ _ (pv 3) pa_nil (by rfl))) (pg_name (i:=4) nd rfl (.inr rfl))
     (@pss_cons _ _ _ _ _ (ps_setLC (i:=9) (own:=["_law_one"]) (fr:=[("_law_place",4)]) rfl nd rfl rfl (by walk_at "w") (by walk_at "w") (frOk_cons rfl rfl frOk_nil) (pi_listK K (@pe_ix _ _ _ _ _ _ _ (ix_listK K) (pv 6) (@pe_ix _ _ _ _ _ _ _ (ix_listK K) (pv 5) (pv 4) (fun _ _=>rfl)) (fun _ _=>rfl))) ⟨fun _ _ _ _=>⟨(pg_name (i:=0) (show List.Nodup (["_law_one","_law_place"]:List Str) by decide +kernel) rfl (.inl rfl)),(pts_one (pt_cmpR op_lt (pv 0) (pv 1) (nomark _))),(pv 0)⟩⟩)
     (@pss_cons _ _ _ _ _ (ps_set (i:=10) nd rfl (.inl rfl) (@pe_op _ _ _ _ _ _ _ _ op_cat (@pe_lst _ _ _ _ (@pa_cons _ _ _ _ _ (@pe_ix _ _ _ _ _ _ _ (ix_listK K) (pv 6) (@pe_op _ _ _ _ _ _ _ _ op_sub pe_int (@pe_ix _ _ _ _ _ _ _ (ix_listK K) (pv 5) (pv 4) (fun _ _=>rfl))) (fun _ _=>rfl)) pa_nil (by rfl))) (@pe_op _ _ _ _ _ _ _ _ op_rep (@pe_lst _ _ _ _ (@pa_cons _ _ _ _ _ (pv 9) pa_nil (by rfl))) (pe_callTy call_intB (by rfl) B.int boot_int (@pa_cons _ _ _ _ _ (pe_cmpR (neDK K hr.units) (pv 9) (@pe_lst _ _ _ _ pa_nil) (nomark _)) pa_nil (by rfl))))))
     (@pss_one _ _ _ (ps_for PassesOwn.never rfl (pi_listK K (pv 10)) (pg_name (i:=11) nd rfl (.inl rfl))
      (@pss_cons _ _ _ _ _ (ps_set (i:=12) nd rfl (.inl rfl) (@pe_ix _ _ _ _ _ _ _ (ix_listK K) (pv 11) (@pe_op _ _ _ _ _ _ _ _ op_mod (pe_own G1 D1 hr.m (@pa_cons _ _ _ _ _ (pv 0) pa_nil (by rfl))) (pe_callB (lenK K) (by rfl) B.len PySem.boot_len (@pa_cons _ _ _ _ _ (pv 11) pa_nil (by rfl)))) (fun _ _=>rfl)))
      (@pss_one _ _ _ (ps_dput hu (pv 7) (@pe_tup _ _ _ _ _ (@pa_cons _ _ _ _ _ (pe_callB (call_min2 rfl) (by rfl) B.min boot_min (@pa_cons _ _ _ _ _ (pv 4) (@pa_cons _ _ _ _ _ (pv 12) pa_nil (by rfl)) (by rfl))) (@pa_cons _ _ _ _ _ (pe_callB (call_max2 rfl) (by rfl) B.max boot_max (@pa_cons _ _ _ _ _ (pv 4) (@pa_cons _ _ _ _ _ (pv 12) pa_nil (by rfl)) (by rfl))) pa_nil (by rfl)) (by rfl))) pe_bl rfl))))))))
    (@pss_cons _ _ _ _ _ (ps_for PassesOwn.never rfl (pi_range1 (by rfl) B.range (@pa_cons _ _ _ _ _ (@pe_op _ _ _ _ _ _ _ _ op_mod (pe_own G1 D1 hr.m (@pa_cons _ _ _ _ _ (pv 0) pa_nil (by rfl))) pe_int) pa_nil (by rfl))) (pg_name (i:=13) nd rfl (.inl rfl))
     (@pss_cons _ _ _ _ _ (ps_set (i:=8) nd rfl (.inl rfl) (@pe_op _ _ _ _ _ _ _ _ op_mod (pe_own G1 D1 hr.m (@pa_cons _ _ _ _ _ (pv 0) pa_nil (by rfl))) (pv 3)))
     (@pss_cons _ _ _ _ _ (ps_set (i:=12) nd rfl (.inl rfl) (@pe_op _ _ _ _ _ _ _ _ op_mod (pe_own G1 D1 hr.m (@pa_cons _ _ _ _ _ (pv 0) pa_nil (by rfl))) (pv 3)))
     (@pss_one _ _ _ (@ps_if _ _ _ _ _ _ _ _ (pt_cmpR op_ne (pv 8) (pv 12) (nomark _))
      (@pss_one _ _ _ (ps_dput hu (pv 7) (@pe_tup _ _ _ _ _ (@pa_cons _ _ _ _ _ (pe_callB (call_min2 rfl) (by rfl) B.min boot_min (@pa_cons _ _ _ _ _ (pv 8) (@pa_cons _ _ _ _ _ (pv 12) pa_nil (by rfl)) (by rfl))) (@pa_cons _ _ _ _ _ (pe_callB (call_max2 rfl) (by rfl) B.max boot_max (@pa_cons _ _ _ _ _ (pv 8) (@pa_cons _ _ _ _ _ (pv 12) pa_nil (by rfl)) (by rfl))) pa_nil (by rfl)) (by rfl))) pe_bl rfl))
      pss_nil)))))
    (@pss_one _ _ _ (ps_ret (@pe_tup _ _ _ _ _ (@pa_cons _ _ _ _ _ (@pe_tup _ _ _ _ _ (@pa_cons _ _ _ _ _ (pv 3) (@pa_cons _ _ _ _ _ (pe_callTy (tupleK K) (by rfl) B.tuple boot_tuple (@pa_cons _ _ _ _ _ (pe_callB (call_sortedD hr.hd) (by rfl) B.sorted boot_sorted (@pa_cons _ _ _ _ _ (pv 7) pa_nil (by rfl))) pa_nil (by rfl))) pa_nil (by rfl)) (by rfl))) (@pa_cons _ _ _ _ _ (pv 6) pa_nil (by rfl)) (by rfl))))))))))),?_⟩
  simp only[L2.start,st0,List.map_cons,List.map_nil,List.length_cons,List.length_nil,List.replicate,List.cons_append,List.nil_append,Nat.reduceAdd,Nat.reduceSub];walk_at "rd";refine next_use dk fun z1 H1 k1 d1 _=>⟨z1,rfl,by omega,by decide,fun pq nq=>fresh_of nq fun H2 s2 e2=>?_⟩
  have r1:=Int.emod_nonneg z1 (b:=hi-lo+1) (by omega);have r2:=Int.emod_lt_of_pos z1 (b:=hi-lo+1) (by omega);obtain⟨n,hn⟩:∃ n:Int,n=lo+z1 % (hi-lo+1):=⟨_,rfl⟩
  rw[← hn];have n4:4≤n:=by omega
  have n20:n≤20:=by omega
  have nhi:n≤hi:=by omega
  have n60:n≤60:=by omega
  clear hn r1 r2 l4 lh h60;have d2:=d1.same s2;have pqd:pq≠d:=d1.ne nq;refine⟨by omega,by omega,fun pz nz=>?_⟩;have pzd:pz≠d:=d2.ne nz;refine lc_range (inv_pq H2 d pz) ⟨none,[],rfl,((Same.refl H2).upd nz).kp,d2.new pzd,upd_same,rfl,fun z hz=>(by cases hz)⟩ ?_ ?_
  ·rintro i τ Hc hi' ⟨c,zs,rfl,kc,dc,hc,hl,hz⟩;walk_at "rd";refine next_use dc fun z3 H3 k3 d3 _=>⟨z3,rfl,by decide,_,k3 _ _ pzd hc,by rw[List.length_map,hl];exact sizeBig (by omega),_,zs++[z3 % 2],rfl,(kc.trans k3).new nz,d3.new pzd,by rw[upd_same,List.map_append];rfl,by rw[List.length_append,hl];rfl,fun z hz'=>?_⟩
   rcases List.mem_append.mp hz' with h | h
   ·exact hz z h
   ·rw[List.mem_singleton.mp h];omega
  rintro τ H3 ⟨c,zs,rfl,k3,d3,hc3,hl,hz⟩;refine⟨pq,pz,_,_,rfl,rfl,k3 _ _ pqd e2,hc3,by rw[List.length_map,hl];exact Nat.le_of_lt (sizeBig (by simp;omega)),fun pc npc=>fresh_of npc fun H4 s4 e4=>?_⟩;have k04:Kp d H H4:=((k1.trans s2.kp).trans k3).trans s4.kp;have npcH:H pc=none:=((k1.trans s2.kp).trans k3).free d3 npc;obtain⟨cs,hcs⟩:∃ cs:List Int,cs=0::1::zs:=⟨_,rfl⟩
  have e4':H4 pc=some (.lst (cs.map V.int)):=by rw[hcs];exact e4
  have csl:(cs.length:Int)=n:=by rw[hcs,List.length_cons,List.length_cons,hl];omega
  have csz:∀ v,clr cs v=0∨clr cs v=1:=fun v=>by
   unfold clr;rw[List.getD_eq_getElem?_getD];cases h:cs[v.toNat]? with
   | none=>exact .inl rfl
   | some z =>
    have hm:=List.mem_of_getElem? h;rw[hcs] at hm;rcases List.mem_cons.mp hm with rfl | hm
    ·exact .inl rfl
    ·rcases List.mem_cons.mp hm with rfl | hm
     ·exact .inr rfl
     ·exact hz z hm
  have cs0:clr cs 0=0:=by rw[hcs];rfl
  have cs1:clr cs 1=1:=by rw[hcs];rfl
  have csa:∀ v,0≤v→v<n→atI (cs.map V.int) v=some (.int (clr cs v)):=fun v v0 v1=>by
   have hv:v.toNat<cs.length:=by omega
   have h1:cs[v.toNat]?=some (clr cs v):=by unfold clr;rw[List.getD_eq_getElem?_getD,List.getElem?_eq_getElem hv];rfl
   have h2:(cs.map V.int)[v.toNat]?=some (.int (clr cs v)):=by rw[List.getElem?_map,h1];rfl
   have:=atI_nat h2;rw[Int.toNat_of_nonneg v0] at this;exact this
  clear e4 hcs hz hl hc3 e2;have d4:=d3.same s4;refine⟨by decide,fun pt npt=>fresh_of npt fun H5 s5 e5=>⟨⟨_,SqT.of e5⟩,fun po npo=>?_⟩⟩;refine lc_tup (K:=K) (xs:=[V.int 0,V.int 1]) (inv_po H5 po pc n cs) ⟨none,[],rfl,(Same.refl H5).upd npo,upd_same,rfl,fun j a h=>(by cases h)⟩ ?_ ?_ ?_
  ·rintro i τ Hc _ ⟨_,_,rfl,sc,_⟩;exact SqT.of (sc _ _ e5)
  ·rintro i v τ Hc hv ⟨c,ps,rfl,sc,hc,hpl,hps⟩;obtain⟨rfl,hi2⟩:v=.int (i:Int)∧i<2:=by
    match i,hv with
    | 0,hv=>exact⟨(Option.some.inj hv).symm,by decide⟩
    | 1,hv=>exact⟨(Option.some.inj hv).symm,by decide⟩
   walk_at "rd";refine⟨by omega,by omega,fun pw npw=>lc_rangeF (fun x=>decide (clr cs x=(i:Int))) (fun x=>V.int x) (by omega) ?_ ?_⟩
   ·intro x x0 x1 v ys R hys hR1 hR2;have sm:Same Hc (upd Hc pw (.lst ys)):=(Same.refl Hc).upd npw;walk_at "rd";refine⟨_,SqL.of (sm _ _ (sc _ _ (s5 _ _ e4'))),_,csa x x0 (by omega),rfl,?_⟩;have e:decide (V.int (clr cs x)=V.int (i:Int))=decide (clr cs x=(i:Int)):=by simp
    rw[e];exact turn_ite rfl hys (by omega) hR1 hR2
   ·refine fresh_of npw fun Hd sd ed=>?_
    have hcd:=sd _ _ hc;have popw:po≠pw:=ne_of_none hc npw;refine⟨_,hcd,by rw[List.length_map,hpl];exact sizeBig (by omega),_,ps++[pw],rfl,(sc.trans sd).upd npo,by rw[upd_same,List.map_append];rfl,by rw[List.length_append,hpl];rfl,fun j a hj=>?_⟩;rcases Nat.lt_or_ge j ps.length with h | h
    ·rw[List.getElem?_append_left h] at hj;obtain⟨h1,h2⟩:=hps j a hj;have:a≠po:=fun e=>by rw[e,npo] at h2;rw[e,hc] at h1;injection h1 with h1;injection h1 with h1;cases ps with
      | nil=>cases hj
      | cons q r =>
       rw[List.map_cons] at h1;cases hl2:ownC cs n (j:Int) with
       | nil=>rw[hl2] at h1;cases h1
       | cons y ys=>rw[hl2,List.map_cons] at h1;injection h1 with h1;cases h1
     exact⟨by rw[upd_ne this];exact sd _ _ h1,h2⟩
    ·rw[List.getElem?_append_right h] at hj;have hj0:j-ps.length=0:=by
      have:=(List.getElem?_eq_some_iff.mp hj).1;rw[List.length_singleton] at this;omega
     rw[hj0] at hj;cases Option.some.inj hj;have:j=i:=by omega
     subst this;exact⟨by rw[upd_ne popw.symm];exact ed,sc.free npw⟩
  rintro τ H6 ⟨c,ps,rfl,s6,e6,hpl,hps⟩;obtain⟨p0,p1,rfl⟩:∃ p0 p1,ps=[p0,p1]:=by
   match ps,hpl with
   | [a,b],_=>exact⟨a,b,rfl⟩
  obtain⟨o0,m0⟩:=hps 0 p0 rfl;obtain⟨o1,m1⟩:=hps 1 p1 rfl;have d6:=(d4.same s5).same s6;have k06:Kp d H H6:=k04.trans (s5.trans s6).kp;have kfr:∀ {p},H5 p=none→H p=none:=fun h=>(k04.trans s5.kp).free (d4.same s5) h
  intro pf npf;have N:Nd H d pc po p0 p1 pf:=⟨npcH,kfr npo,kfr m0,kfr m1,k06.free d6 npf,ne_of_none (s6 _ _ (s5 _ _ e4')) npf,ne_of_none e6 npf,ne_of_none o0 npf,ne_of_none o1 npf⟩
  have P6:Pk H H6 d pc po p0 p1 n cs:=⟨k06,d6,s6 _ _ (s5 _ _ e4'),e6,o0,o1⟩
  have P7:Pk H (upd H6 pf (.dT [])) d pc po p0 p1 n cs:=P6.put N dk;have e7:(upd H6 pf (.dT [])) pf=some (.dT (kvT [])):=upd_same;generalize upd H6 pf (.dT [])=H7 at P7 e7 ⊢;clear hps e6 o0 o1 m0 m1 s6 d6 P6 s5 e5 npo npt;rw[tFor_eq];walk_at "rd";refine⟨by omega,by omega,for_range (lo:=0) (n:=n.toNat) (inv_p1 H d pc po p0 p1 pf lo hi n cs) ⟨_,_,_,_,_,_,_,[],rfl,P7,e7,by simp,⟨by simp,by simp,fun v v0 v1=>by omega,fun v v0 v1=>by omega⟩⟩ ?_ ?_⟩
  ·rintro i σ Hc hin ⟨c4,c8,c9,c10,c11,c12,c13,fs,rfl,Pc,hpf,hfl,hF⟩;rw[gN_ap];simp only[List.set_cons_succ,List.set_cons_zero];walk_at "rd";have ii:(0:Int)+(i:Int)=i:=Int.zero_add _;obtain⟨c,hc⟩:∃ c,c=clr cs (i:Int):=⟨_,rfl⟩
   have c01:=csz (i:Int);rw[← hc] at c01;have own:∀ c:Int,c=0∨c=1→∃ qa,atI [V.ref p0,V.ref p1] c=some (.ref qa)∧H qa=none∧∀ {G},Pk H G d pc po p0 p1 n cs→G qa=some (.lst ((ownC cs n c).map V.int)):=fun c h=>by
    rcases h with rfl | rfl
    ·exact⟨p0,rfl,N.o0,fun P=>P.o0⟩
    ·exact⟨p1,rfl,N.o1,fun P=>P.o1⟩
   obtain⟨qc,a1,nqc,g1⟩:=own c c01;obtain⟨qo,a2,nqo,g2⟩:=own (1-c) (by omega);have oln:∀ c,(ownC cs n c).length≤60:=fun c=>by
    unfold ownC;refine Nat.le_trans (List.length_filter_le ..) ?_;rw[rInts_length];omega
   have olc:=oln c;refine⟨_,SqL.of Pc.c,_,by rw[ii];exact csa i (by omega) (by omega),_,_,rfl,SqL.of Pc.o,_,by rw[← hc];exact a1,qc,rfl,⟨_,SqL.of (g1 Pc)⟩,fun pa npa=>lc_listF V.int (fun x=>decide (x<0+(i:Int))) (fun x=>V.int x) (by omega) (SqL.of (g1 Pc)) npa ?_ ?_⟩
   ·intro x hx v ys R hys hR1 hR2;walk_at "rd";exact turn_ite rfl hys (by omega) hR1 hR2
   obtain⟨ah,hah⟩:∃ ah,ah=(ownC cs n c).filter fun x=>decide (x<0+(i:Int)):=⟨_,rfl⟩
   rw[← hah];have mah:∀ x,x∈ah↔0≤x∧x<(i:Int)∧clr cs x=c:=fun x=>by
    rw[hah,List.mem_filter,mem_own,decide_eq_true_iff];constructor
    ·rintro⟨⟨⟨h1,_⟩,h2⟩,h3⟩;exact⟨h1,by omega,h2⟩
    ·rintro⟨h1,h2,h3⟩;exact⟨⟨⟨h1,by omega⟩,h3⟩,by omega⟩
   refine fresh_of npa fun HA sA eA=>?_
   have PA:=Pc.same sA;refine⟨_,SqL.of PA.c,_,by rw[ii];exact csa i (by omega) (by omega),_,rfl,_,SqL.of PA.o,_,by rw[← hc];exact a2,by decide,fun pB nB=>fresh_of nB fun HB sB eB=>⟨by decide,fun pC nC=>fresh_of nC fun HC sC eC=>⟨by decide,fun pD nD=>fresh_of nD fun HD sD eD=>?_⟩⟩⟩;have sBD:=(sB.trans sC).trans sD;refine neLI (ms:=[]) (SqL.of (sBD _ _ eA)) (SqL.of eD) ⟨_,rfl,?_⟩;refine⟨pC,_,_,rfl,rfl,sD _ _ eC,by split<;>decide,by split<;>decide,by split<;>(show 1*_≤sizeLine;exact Nat.le_of_lt (sizeBig (by decide))),fun pE nE=>fresh_of nE fun HE sE eE=>?_⟩;obtain⟨rs2,er2,hr0,hr1⟩:∃ rs2:List V,(List.replicate (if (!decide (ah=[]))=true then (1:Int) else 0).toNat [V.ref pa]).flatten=rs2∧(ah=[]→rs2=[])∧(ah≠[]→rs2=[V.ref pa]):=by
    by_cases h:ah=[]
    ·exact⟨[],by rw[if_neg (by simp[h])];rfl,fun _=>rfl,fun h'=>absurd h h'⟩
    ·exact⟨[V.ref pa],by rw[if_pos (by simp[h])];rfl,fun h'=>absurd h' h,fun _=>rfl⟩
   rw[er2] at eE;have r2l:rs2.length≤1:=by
    by_cases h:ah=[]
    ·rw[hr0 h];exact Nat.zero_le _
    ·rw[hr1 h];exact Nat.le_refl _
   have sBE:=sBD.trans sE;refine⟨pB,pE,_,_,rfl,rfl,((sC.trans sD).trans sE) _ _ eB,eE,by rw[List.length_singleton];exact Nat.le_of_lt (sizeBig (by omega)),fun pr npr=>fresh_of npr fun HF sF eF=>?_⟩;have sBF:=sBE.trans sF;have PF:=PA.same sBF;have sAF:=sA.trans sBF;have hpfF:=sAF _ _ hpf;have prpf:pr≠pf:=(ne_of_none ((sA.trans sBE) _ _ hpf) npr).symm;have papf:pa≠pf:=(ne_of_none hpf npa).symm;have npaH:H pa=none:=Pc.k.free Pc.dk npa;have nprH:H pr=none:=(Pc.k.trans (sA.trans sBE).kp).free (PA.same sBE).dk npr;clear eB eC eD eE nB nC nD nE hah;dsimp only;rw[tFor_eq];walk_at "rd";refine⟨⟨_,SqL.of eF⟩,for_list (K:=K) (xs:=[V.ref qo]++rs2) (inv_p2 H d pc po p0 p1 pf lo hi n cs i pr ([V.ref qo]++rs2) pa ah (some (.ref pa))) ⟨_,_,_,_,fs,rfl,PF,hpfF,eF,sBF _ _ eA,by omega,hF,fun h=>absurd h (by decide),fun h=>absurd h (by decide)⟩ ?_ ?_ ?_⟩
   ·rintro j σ Hd _ ⟨_,_,_,_,_,rfl,_,_,er,_⟩;exact SqL.of er
   ·rintro j v σ Hd hv ⟨c8,c11,c12,c13,fs,rfl,Pd,hpf,er,ea,hfl,hF,hA,hB⟩;have hjl:=(List.getElem?_eq_some_iff.mp hv).1;rw[List.length_append,List.length_singleton] at hjl;obtain⟨qv,us,rfl,nqv,hqv,hus,hne⟩:∃ (qv:Addr) (us:List Int),v=.ref qv∧qv≠d∧Hd qv=some (.lst (us.map V.int))∧(∀ x∈us,0≤x∧x<n∧x≠(i:Int)∧(j=0→clr cs x≠clr cs i)∧(1≤j→x<(i:Int)∧clr cs x=clr cs i))∧us≠[]:=by
     clear hA hB hF
     match j,hv with
     | 0,hv =>
      refine⟨qo,ownC cs n (1-c),(Option.some.inj hv).symm,dk.ne nqo,g2 Pd,fun x hx=>?_,fun e=>?_⟩
      ·obtain⟨⟨x0,x1⟩,ex⟩:=mem_own.mp hx;refine⟨x0,x1,fun e=>?_,fun _=>by omega,fun h=>absurd h (by decide)⟩;rw[e,← hc] at ex;omega
      ·have:(1-c)∈ownC cs n (1-c):=mem_own.mpr ⟨by omega,by rcases c01 with h | h<;>rw[h]<;>assumption⟩;rw[e] at this;cases this
     | j+1,hv =>
      by_cases h:ah=[]
      ·rw[hr0 h] at hv;cases hv
      ·rw[hr1 h] at hv
       match j,hv with
       | 0,hv =>
        refine⟨pa,ah,(Option.some.inj hv).symm,dk.ne npaH,ea,fun x hx=>?_,h⟩;obtain⟨x0,x1,ex⟩:=(mah x).mp hx;exact⟨x0,by omega,by omega,fun h=>absurd h (by decide),fun _=>⟨x1,by rw[← hc];exact ex⟩⟩
    have hupos:0<(us.map V.int).length:=by rw[List.length_map];exact List.length_pos_iff.mpr hne
    walk_at "rd";refine next_use Pd.dk fun z Hf kf df _=>?_
    have Pf':=Pd.kp N dk kf df;obtain⟨ov,hov,eov⟩:=pick_mod hupos z;obtain⟨o,ho,rfl⟩:=List.mem_map.mp hov;obtain⟨o0,o1,oi,oa,ob⟩:=hus o ho;have pfd:pf≠d:=dk.ne N.f;have hqf:=kf _ _ nqv hqv;have hpff:=kf _ _ pfd hpf;refine⟨_,.inl (SqL.of hqf),z,rfl,Int.natCast_pos.mpr hupos,_,SqL.of hqf,_,eov,_,_,⟨rfl,rfl⟩,_,_,⟨rfl,rfl⟩,by decide,fun pw npw=>?_⟩;have et:((if o<0+(i:Int) then o else 0+(i:Int)),(if o>0+(i:Int) then o else 0+(i:Int)))=mm (i:Int) o:=by rw[ii];rfl
    refine⟨_,DPut.t (k:=[Sum.inl (if o<0+(i:Int) then o else 0+(i:Int)),Sum.inl (if o>0+(i:Int) then o else 0+(i:Int))]) (at_new hpff npw) upd_same (kvT_put_len (by omega)),?_⟩;rw[put_kvT,et];have hla:=len_addT (fs:=fs) (t:=mm (i:Int) o);have sw:Same Hf (upd Hf pw (.tup [V.int (if o<0+(i:Int) then o else 0+(i:Int)),V.int (if o>0+(i:Int) then o else 0+(i:Int))])):=(Same.refl Hf).upd npw;have mtie:mm (i:Int) o∈addT fs (mm (i:Int) o):=mem_addT.mpr (.inr rfl);refine⟨_,_,_,_,addT fs (mm (i:Int) o),rfl,(Pf'.same sw).put N dk,upd_same,?_,?_,by omega,hF.add (mm_rng (Ne.symm oi) (by omega) (by omega) o0 o1),fun _=>?_,fun h=>?_⟩
    ·rw[upd_ne prpf];exact sw _ _ (kf _ _ (dk.ne nprH) er)
    ·rw[upd_ne papf];exact sw _ _ (kf _ _ (dk.ne npaH) ea)
    ·rcases Nat.eq_zero_or_pos j with e | e
     ·exact⟨o,o0,o1,oa e,mtie⟩
     ·obtain⟨w,w0,w1,w2,w3⟩:=hA e;exact⟨w,w0,w1,w2,mem_addT.mpr (.inl w3)⟩
    ·obtain⟨h1,h2⟩:=ob (by omega);exact⟨o,o0,h1,h2,mtie⟩
   ·rintro σ Hd ⟨c8,c11,c12,c13,fs,rfl,Pd,hpf,er,ea,hfl,hF,hA,hB⟩;rw[List.length_append,List.length_singleton] at hfl hA hB;refine⟨_,_,_,_,_,_,_,fs,rfl,Pd,hpf,by omega,?_⟩;rw[Int.natCast_add];refine hF.next (hA (by omega)) fun ⟨u,u0,u1,eu⟩=>hB ?_
    have:ah≠[]:=fun e=>by
     have:=(mah u).mpr ⟨u0,u1,by rw[hc];exact eu⟩;rw[e] at this;cases this
    rw[hr1 this];exact Nat.le_refl _
  ·rintro σ Hc ⟨c4,c8,c9,c10,c11,c12,c13,fs,rfl,Pc,hpf,hfl,hF⟩;dsimp only;walk_at "rd";rw[tFor_eq];walk_at "rd";rw[show ((n.toNat:Nat):Int)=n by omega] at hF;have pfd:pf≠d:=dk.ne N.f;refine next_use Pc.dk fun zq Hd kd dd _=>⟨zq,rfl,by decide,?_⟩
   have Pd:=Pc.kp N dk kd dd;have hpfd:=kd _ _ pfd hpf;have m0:=Int.emod_nonneg zq (b:=4) (by decide);have m1:=Int.emod_lt_of_pos zq (b:=4) (by decide);generalize zq % 4=more at m0 m1 ⊢;refine⟨by omega,by omega,for_range (lo:=0) (n:=more.toNat) (inv_p3 H d pc po p0 p1 pf lo hi n cs) ⟨_,_,_,_,_,_,_,fs,rfl,Pd,hpfd,by omega,hF⟩ ?_ ?_⟩
   ·rintro i σ He hin ⟨c4,c8,c9,c10,c11,c12,c13,fs,rfl,Pe,hpf,hfl,hF⟩;walk_at "rd";refine next_use Pe.dk fun z4 H8 k8 d8 _=>⟨z4,rfl,by omega,next_use d8 fun z5 H9 k9 d9 _=>⟨z5,rfl,by omega,?_⟩⟩
    have P9:=(Pe.kp N dk k8 d8).kp N dk k9 d9;have hp9:=k9 _ _ pfd (k8 _ _ pfd hpf);have s0:=Int.emod_nonneg z4 (b:=n) (by omega);have s1:=Int.emod_lt_of_pos z4 (b:=n) (by omega);have t0:=Int.emod_nonneg z5 (b:=n) (by omega);have t1:=Int.emod_lt_of_pos z5 (b:=n) (by omega);generalize z4 % n=o1 at s0 s1 ⊢;generalize z5 % n=o2 at t0 t1 ⊢;by_cases ho:o1=o2
    ·rw[if_neg (by simp[ho])];exact⟨_,_,_,_,_,_,_,fs,rfl,P9,hp9,by omega,hF⟩
    ·rw[if_pos (by simp[ho])];refine⟨_,_,⟨rfl,rfl⟩,_,_,⟨rfl,rfl⟩,by decide,fun pw npw=>⟨_,DPut.t (k:=[Sum.inl (if o2<o1 then o2 else o1),Sum.inl (if o2>o1 then o2 else o1)]) (at_new hp9 npw) upd_same (kvT_put_len (by omega)),?_⟩⟩;rw[put_kvT];have sw:Same H9 (upd H9 pw (.tup [V.int (if o2<o1 then o2 else o1),V.int (if o2>o1 then o2 else o1)])):=(Same.refl H9).upd npw;have hla:=len_addT (fs:=fs) (t:=mm o1 o2);exact⟨_,_,_,_,_,_,_,addT fs (mm o1 o2),rfl,(P9.same sw).put N dk,upd_same,by omega,hF.add (mm_rng ho s0 s1 t0 t1)⟩
   ·rintro σ He ⟨c4,c8,c9,c10,c11,c12,c13,fs,rfl,Pe,hpf,hfl,hF⟩;walk_at "rd";refine⟨_,hpf,fs.map tl,kvT_keys fs,(fun l hl=>by obtain⟨t,_,rfl⟩:=List.mem_map.mp hl;simp[tl]),by rw[List.length_map];omega,fun ps l pm hto hsr nl=>?_⟩;obtain⟨gs,pgs,hgs⟩:=PsAt.of_perm hto pm;refine fresh_of nl fun Hf sf ef=>⟨_,.inl ⟨SqL.of ef,fun l2 nl2=>fresh_of nl2 fun Hg sg eg=>⟨by decide,fun pw npw=>fresh_of npw fun Hh sh eh=>⟨by decide,fun pp npp=>fresh_of npp fun Hi si ei=>?_⟩⟩⟩⟩
    have sfi:=(sf.trans sg).trans (sh.trans si);have Pi:=Pe.same sfi;refine q pp pw n gs po p0 p1 _ _ Hi Pi.k Pi.dk ei ⟨l2,si _ _ eh,ps,(sh.trans si) _ _ eg,hgs.tp sfi.tp⟩ N.o N.o0 N.o1 Pi.o Pi.o0 Pi.o1 (hF.ptd n4 n60 (by omega) csz cs0 cs1 pgs (hgs.srt hsr)) nhi
def IsTwo (n:Int)(ts Ta Tb:List (Int×Int)):Prop:=IsTree n ts Ta∧IsTree n ts Tb∧¬ ∃ x∈busyOf n Ta,x∈busyOf n Tb
def IsTwX (H:Hp)(n:Int)(ts:List (Int×Int))(v:V):Prop:=∃ p pa pb Ta Tb,v=.ref p∧H p=some (.tup [.ref pa,.ref pb])∧TsAt H pa Ta∧TsAt H pb Tb∧IsTwo n ts Ta Tb
def TwF (H:Hp)(v:V):Prop:=∀ p x y,v=.ref p→H p=some (.tup [x,y])→(PlD H 2 x∧PlD H 2 y)∧(∀ a xs,x=.ref a→H a=some (.tup xs)→xs.length≤1000)∧∀ a xs,y=.ref a→H a=some (.tup xs)→xs.length≤1000
theorem istr_two {H:Hp}{n:Int}{ts:List (Int×Int)}{x:V}(hok:IsWeb n ts)(h:IsTr H n ts x):∃ a us,x=.ref a∧TsAt H a us∧IsTree n ts us:=by
 obtain⟨a,us,e,h1,_⟩:=id h;subst e;exact⟨a,us,rfl,h1,(IsTr.tree hok h1).mp h⟩
theorem twx_iff {H:Hp}{n:Int}{ts:List (Int×Int)}{p:Addr}{x y:V}(hp:H p=some (.tup [x,y])):IsTwX H n ts (.ref p)↔∃ pa pb Ta Tb,x=.ref pa∧y=.ref pb∧TsAt H pa Ta∧TsAt H pb Tb∧IsTwo n ts Ta Tb:=by
 constructor
 ·rintro⟨p',pa,pb,Ta,Tb,e,e2,h⟩;cases e;rw[hp] at e2;cases e2;exact⟨pa,pb,Ta,Tb,rfl,rfl,h⟩
 ·rintro⟨pa,pb,Ta,Tb,rfl,rfl,h⟩;exact⟨p,pa,pb,Ta,Tb,rfl,hp,h⟩
theorem two_iff {H:Hp}{n:Int}{ts Ta Tb:List (Int×Int)}{pa pb:Addr}(ha:TsAt H pa Ta)(hb:TsAt H pb Tb)(hTa:IsTree n ts Ta)(hTb:IsTree n ts Tb):(∃ pa' pb' Ta' Tb',V.ref pa=.ref pa'∧V.ref pb=.ref pb'∧TsAt H pa' Ta'∧TsAt H pb' Tb'∧IsTwo n ts Ta' Tb')↔¬ ∃ x∈busyOf n Ta,x∈busyOf n Tb:=by
 constructor
 ·rintro⟨_,_,Ta',Tb',ea,eb,h1,h2,h3⟩;cases ea;cases eb;cases ha.inj h1;cases hb.inj h2;exact h3.2.2
 ·exact fun h=>⟨_,_,Ta,Tb,rfl,rfl,ha,hb,hTa,hTb,h⟩
theorem asPair_no {H:Hp}{v:V}(h:¬ ∃ p x y,v=.ref p∧H p=some (.tup [x,y])):(asPair H v).isSome=false:=by
 cases hh:asPair H v with
 | none=>rfl
 | some z =>
  refine absurd ?_ h;cases v with
  | ref a =>
   unfold asPair at hh;dsimp only at hh;split at hh
   ·rename_i x y e;exact⟨a,x,y,rfl,e⟩
   ·cases hh
  | _=>cases hh
theorem len_back {H H':Hp}{y:V}(hd:PlD H 2 y)(s:Same H H')(h:∀ a xs,y=.ref a→H a=some (.tup xs)→xs.length≤1000):∀ a xs,y=.ref a→H' a=some (.tup xs)→xs.length≤1000:=fun a xs e e2=>by
 subst e;obtain⟨T,p⟩:=hd.pl;exact h a xs rfl (p.back s e2)
def sp_rtwoX (K:PySem.W.Frag):Sp:=fun vs H Q _=>∃ (w:Addr) (n:Int) (ts:List (Int×Int)) (v:V) (T:String),vs=[.ref w,v]∧WebAt H w n ts∧IsWeb n ts∧Pl H v T∧TwF H v∧∀ (b:Bool) (H':Hp),Same H H'→(b=true↔IsTwX H n ts v)→Q (.bl b) H'
theorem busy_len {n:Int}{T:List (Int×Int)}(h60:n≤60):(busyOf n T).length≤100000:=by
 unfold busyOf;refine Nat.le_trans (List.length_filter_le ..) ?_;rw[rInts_length];omega
theorem sc_rtwoX:FnScope ["web","thing"] ["web","thing"] (defScope (top 19)):=by walk_at "s"
theorem ok_rtwoX (F:Fun K "right_two" "right_two" (top 19) f fd)(B:Bt mg)(D1:Df K mg "is_pair" st1 f1 fd1 ["thing"])(G1:FnOk P w K mg base CX0 1 f1 fd1 ["thing"] sp_ppair)(D2:Df K mg "right_tree" st2 f2 fd2 ["web","thing"])(G2:FnOk P w K mg base CX0 5 f2 fd2 ["web","thing"] sp_rtreeX)(D3:Df K mg "busy_of" st3 f3 fd3 ["tree"])(G3:FnOk P w K mg base CX0 3 f3 fd3 ["tree"] sp_busy)(D4:Df K mg "have_common" st4 f4 fd4 ["one","other"])(G4:FnOk P w K mg base CX0 1 f4 fd4 ["one","other"] (sp_common K)):FnOk P w K mg base CX0 6 f fd ["web","thing"] (sp_rtwoX K):=by
 refine F.ok sc_rtwoX (fun vs H Q E h=>?_) (fun cdv A outer s H vs Q E hr h=>?_)
 ·walk_at "h"
 ·obtain⟨w0,n,ts,v,T,rfl,hw,hok,hv,hF,q⟩:=h;have nd:=sc_rtwoX.nd;have hu:=hu_of hr
  refine⟨_,(@pss_cons _ _ _ _ _ (@ps_if _ _ _ _ _ _ _ _ (PW.pt (pw_or (pt_not (pt_val (pe_own G1 D1 hr.m (@pa_cons _ _ _ _ _ (pv 1) pa_nil (by rfl))))) (pw_or (pt_not (pt_val (pe_own G2 D2 hr.m (@pa_cons _ _ _ _ _ (pv 0) (@pa_cons _ _ _ _ _ (@pe_ix _ _ _ _ _ _ _ (ix_tupK K) (pv 1) pe_int (fun _ _=>rfl)) pa_nil (by rfl)) (by rfl))))) (pw_or1 (pt_not (pt_val (pe_own G2 D2 hr.m (@pa_cons _ _ _ _ _ (pv 0) (@pa_cons _ _ _ _ _ (@pe_ix _ _ _ _ _ _ _ (ix_tupK K) (pv 1) pe_int (fun _ _=>rfl)) pa_nil (by rfl)) (by rfl)))))))))
     (@pss_one _ _ _ (ps_ret pe_bl))
     pss_nil)
    (@pss_one _ _ _ (ps_ret (pe_not (pe_own G4 D4 hr.m (@pa_cons _ _ _ _ _ (pe_own G3 D3 hr.m (@pa_cons _ _ _ _ _ (@pe_ix _ _ _ _ _ _ _ (ix_tupK K) (pv 1) pe_int (fun _ _=>rfl)) pa_nil (by rfl))) (@pa_cons _ _ _ _ _ (pe_own G3 D3 hr.m (@pa_cons _ _ _ _ _ (@pe_ix _ _ _ _ _ _ _ (ix_tupK K) (pv 1) pe_int (fun _ _=>rfl)) pa_nil (by rfl))) pa_nil (by rfl)) (by rfl))))))),?_⟩
  simp only[L2.start,st0,List.map_cons,List.map_nil,List.length_cons,List.length_nil,List.replicate,List.cons_append,List.nil_append,Nat.reduceAdd,Nat.reduceSub];walk_at "rd";have h3:=hok.n3;have h60:=hok.n60;have no:∀ {H'},Same H H'→¬ IsTwX H n ts v→Q (.bl false) H':=fun s h=>q false _ s ⟨fun h=>(by cases h),fun h'=>absurd h' h⟩
  refine⟨v,T,rfl,hv,?_⟩;by_cases hpp:∃ p x y,v=.ref p∧H p=some (.tup [x,y])
  ·obtain⟨p,x,y,rfl,hp⟩:=hpp;obtain⟨⟨dx,dy⟩,lx,ly⟩:=hF p x y rfl hp;have hap:asPair H (.ref p)=some (x,y):=by unfold asPair;dsimp only;rw[hp]
   rw[twx_iff hp] at no q;rw[hap];refine⟨_,rfl,?_⟩;rw[if_neg (by simp)];refine⟨p,rfl,_,SqT.of hp,_,rfl,w0,n,ts,x,rfl,hw,hok,dx,lx,fun b1 H1 s1 hb1=>⟨b1,rfl,?_⟩⟩;cases b1 with
   | false =>
    rw[if_pos (by rfl)];refine no s1 fun ⟨pa,pb,Ta,Tb,ex,_,h1,_,h2⟩=>?_
    subst ex;cases hb1.mpr ((IsTr.tree hok h1).mpr h2.1)
   | true =>
    rw[if_neg (by decide)];obtain⟨pa,Ta,rfl,ha,hTa⟩:=istr_two hok (hb1.mp rfl);refine⟨p,rfl,_,SqT.of (s1 _ _ hp),_,rfl,w0,n,ts,y,rfl,hw.tp s1.tp,hok,dy.mono s1,len_back dy s1 ly,fun b2 H2 s2 hb2=>⟨b2,rfl,?_⟩⟩;have s12:=s1.trans s2;cases b2 with
    | false =>
     rw[if_pos (by rfl)];refine no s12 fun ⟨pa',pb,Ta',Tb,_,ey,_,h1,h2⟩=>?_
     subst ey;cases hb2.mpr ((IsTr.tree hok (h1.tp s1.tp)).mpr h2.2.1)
    | true =>
     rw[if_neg (by decide)];obtain⟨pb,Tb,rfl,hb,hTb⟩:=istr_two hok (IsTr.back s1 dy (hb2.mp rfl));refine⟨p,rfl,_,SqT.of (s12 _ _ hp),_,rfl,pa,n,Ta,rfl,ha.tp s12.tp,hTa.len,by omega,hTa.ok hok.rng,fun lA HA sA nA eA=>?_⟩;have s1A:=s12.trans sA;refine⟨p,rfl,_,SqT.of (s1A _ _ hp),_,rfl,pb,n,Tb,rfl,hb.tp s1A.tp,hTb.len,by omega,hTb.ok hok.rng,fun lB HB sB nB eB=>?_⟩;refine⟨lA,_,lB,_,rfl,.inr (SqT.of (sB _ _ eA)),busy_len h60,.inr (SqT.of eB),fun b HC sC hbc=>?_⟩;refine⟨b,rfl,q _ HC ((s1A.trans sB).trans sC) ?_⟩;rw[two_iff ha hb hTa hTb,← hbc];cases b<;>simp
  ·rw[asPair_no hpp];refine⟨_,rfl,?_⟩;rw[if_pos (by rfl)];exact no (Same.refl H) fun ⟨p,pa,pb,_,_,e,e2,_⟩=>hpp ⟨p,_,_,e,e2⟩
def sp_listwoX (K:PySem.W.Frag):Sp:=fun vs H Q _=>∃ (w:Addr) (n:Int) (ts:List (Int×Int)) (v:V) (T:String),vs=[.ref w,v]∧WebAt H w n ts∧IsWeb n ts∧Pl H v T∧TwF H v∧∀ (b:Bool) (H':Hp),Same H H'→(b=true↔IsTwX H n ts v)→Q (.bl b) H'
theorem sc_listwoX:FnScope ["_law_web_here","_law_thing","_law_other"] ["_law_web_here","_law_thing"] (defScope (top 35)):=by walk_at "s"
theorem ok_listwoX (F:Fun K "_law_is_two" "_law_is_two" (top 35) f fd)(B:Bt mg)(D1:Df K mg "_law_is_tree" st1 f1 fd1 ["_law_web_here","_law_thing"])(G1:FnOk P w K mg base CX0 3 f1 fd1 ["_law_web_here","_law_thing"] (sp_istreeX K))(D2:Df K mg "_law_busy" st2 f2 fd2 ["_law_places","_law_tree_here"])(G2:FnOk P w K mg base CX0 2 f2 fd2 ["_law_places","_law_tree_here"] (sp_lbusy K))(C:Bt2 mg):FnOk P w K mg base CX0 4 f fd ["_law_web_here","_law_thing"] (sp_listwoX K):=by
 refine F.ok sc_listwoX (fun vs H Q E h=>?_) (fun cdv A outer s H vs Q E hr h=>?_)
 ·walk_at "h"
 ·obtain⟨w0,n,ts,v,T,rfl,hw,hok,hv,hF,q⟩:=h;have nd:=sc_listwoX.nd;have hu:=hu_of hr
  refine⟨_,(@pss_cons _ _ _ _ _ (@ps_if _ _ _ _ _ _ _ _ (PW.pt (pw_or (pt_not (pt_val (pe_callB (isiK K) (by rfl) C.isinstance boot_isinstance (@pa_cons _ _ _ _ _ (pv 1) (@pa_cons _ _ _ _ _ (pe_ty (by rfl) B.tuple boot_tuple) pa_nil (by rfl)) (by rfl))))) (pw_or1 (pt_cmpR op_ne (pe_callB (lenK K) (by rfl) B.len PySem.boot_len (@pa_cons _ _ _ _ _ (pv 1) pa_nil (by rfl))) pe_int (nomark _)))))
     (@pss_one _ _ _ (ps_ret pe_bl))
     pss_nil)
    (@pss_cons _ _ _ _ _ (@ps_if _ _ _ _ _ _ _ _ (PW.pt (pw_or (pt_not (pt_val (pe_own G1 D1 hr.m (@pa_cons _ _ _ _ _ (pv 0) (@pa_cons _ _ _ _ _ (@pe_ix _ _ _ _ _ _ _ (ix_tupK K) (pv 1) pe_int (fun _ _=>rfl)) pa_nil (by rfl)) (by rfl))))) (pw_or1 (pt_not (pt_val (pe_own G1 D1 hr.m (@pa_cons _ _ _ _ _ (pv 0) (@pa_cons _ _ _ _ _ (@pe_ix _ _ _ _ _ _ _ (ix_tupK K) (pv 1) pe_int (fun _ _=>rfl)) pa_nil (by rfl)) (by rfl))))))))
     (@pss_one _ _ _ (ps_ret pe_bl))
     pss_nil)
    (@pss_cons _ _ _ _ _ (ps_set (i:=2) nd rfl (.inr rfl) (pe_own G2 D2 hr.m (@pa_cons _ _ _ _ _ (@pe_ix _ _ _ _ _ _ _ (ix_tupK K) (pv 0) pe_int (fun _ _=>rfl)) (@pa_cons _ _ _ _ _ (@pe_ix _ _ _ _ _ _ _ (ix_tupK K) (pv 1) pe_int (fun _ _=>rfl)) pa_nil (by rfl)) (by rfl))))
    (@pss_one _ _ _ (ps_ret (pe_cmpR (eqDK K hr.units) (pe_lcomp (own:=["_law_place"]) (fr:=[("_law_other",2)]) rfl (by walk_at "w") (frOk_cons rfl rfl frOk_nil) (pi_listK K (pe_own G2 D2 hr.m (@pa_cons _ _ _ _ _ (@pe_ix _ _ _ _ _ _ _ (ix_tupK K) (pv 0) pe_int (fun _ _=>rfl)) (@pa_cons _ _ _ _ _ (@pe_ix _ _ _ _ _ _ _ (ix_tupK K) (pv 1) pe_int (fun _ _=>rfl)) pa_nil (by rfl)) (by rfl)))) ⟨fun _ _ _ _=>⟨(pg_name (i:=0) (show List.Nodup (["_law_place","_law_other"]:List Str) by decide +kernel) rfl (.inl rfl)),(pts_one (pt_cmpR (in_seqK K) (pv 0) (pv 1) (by walk_at "w"))),(pv 0)⟩⟩) (@pe_lst _ _ _ _ pa_nil) (nomark _))))))),?_⟩
  simp only[L2.start,st0,List.map_cons,List.map_nil,List.length_cons,List.length_nil,List.replicate,List.cons_append,List.nil_append,Nat.reduceAdd,Nat.reduceSub];walk_at "rd";have h3:=hok.n3;have h60:=hok.n60;obtain⟨q0,hw0,_⟩:=id hw;have no:∀ {H'},Same H H'→¬ IsTwX H n ts v→Q (.bl false) H':=fun s h=>q false _ s ⟨fun h=>(by cases h),fun h'=>absurd h' h⟩
  refine⟨_,_,⟨rfl,rfl⟩,_,hv.ty,_,kit_plain hv (.inr (.inr rfl)),?_⟩;cases h1:isIn T "tuple" with
  | false =>
   rw[if_pos (by rfl)];refine no (Same.refl H) fun ⟨p,pa,pb,_,_,e,h2,_⟩=>?_
   subst e;cases hv with
   | lst e=>rw[e] at h2;cases h2
   | tup e=>cases h1
   | dK e=>rw[e] at h2;cases h2
   | dT e=>rw[e] at h2;cases h2
  | true =>
   rw[if_neg (by decide)];cases hv with
   | @tup p xs hp =>
    refine⟨p,rfl,_,.inr (SqT.of hp),?_⟩;by_cases hx2:xs.length=2
    ·obtain⟨x,y,rfl⟩:∃ x y,xs=[x,y]:=by
      match xs,hx2 with
      | [x,y],_=>exact⟨x,y,rfl⟩
     rw[if_neg (by simp)];obtain⟨⟨dx,dy⟩,lx,ly⟩:=hF p x y rfl hp;rw[twx_iff hp] at no q;refine⟨p,rfl,_,SqT.of hp,_,rfl,w0,n,ts,x,rfl,hw,hok,dx,lx,fun b1 H1 s1 hb1=>⟨b1,rfl,?_⟩⟩;cases b1 with
     | false =>
      rw[if_pos (by rfl)];refine no s1 fun ⟨pa,pb,Ta,Tb,ex,_,h1,_,h2⟩=>?_
      subst ex;cases hb1.mpr ((IsTr.tree hok h1).mpr h2.1)
     | true =>
      rw[if_neg (by decide)];obtain⟨pa,Ta,rfl,ha,hTa⟩:=istr_two hok (hb1.mp rfl);refine⟨p,rfl,_,SqT.of (s1 _ _ hp),_,rfl,w0,n,ts,y,rfl,hw.tp s1.tp,hok,dy.mono s1,len_back dy s1 ly,fun b2 H2 s2 hb2=>⟨b2,rfl,?_⟩⟩;have s12:=s1.trans s2;cases b2 with
      | false =>
       rw[if_pos (by rfl)];refine no s12 fun ⟨pa',pb,Ta',Tb,_,ey,_,h1,h2⟩=>?_
       subst ey;cases hb2.mpr ((IsTr.tree hok (h1.tp s1.tp)).mpr h2.2.1)
      | true =>
       rw[if_neg (by decide)];obtain⟨pb,Tb,rfl,hb,hTb⟩:=istr_two hok (IsTr.back s1 dy (hb2.mp rfl));have hlb:=hTb.len;have hla:=hTa.len;refine⟨_,SqT.of (s12 _ _ hw0),_,rfl,p,rfl,_,SqT.of (s12 _ _ hp),_,rfl,n,pb,Tb,rfl,by omega,h60,hb.tp s12.tp,by omega,hTb.ok hok.rng,hTb.srt,fun lA HA sA nA eA=>?_⟩;have s1A:=s12.trans sA;refine⟨_,SqT.of (s1A _ _ hw0),_,rfl,p,rfl,_,SqT.of (s1A _ _ hp),_,rfl,n,pa,Ta,rfl,by omega,h60,ha.tp s1A.tp,by omega,hTa.ok hok.rng,hTa.srt,fun lB HB sB nB eB=>?_⟩;have s1B:=s1A.trans sB;have bl:=busy_len (T:=Ta) h60;refine⟨lB,rfl,⟨_,SqL.of eB⟩,fun l nl=>lc_listF V.int (fun x=>decide (x∈busyOf n Tb)) (fun x=>V.int x) (by omega) (SqL.of eB) nl ?_ ?_⟩
       ·intro x hx v ys R hys hR1 hR2;have sm:Same HB (upd HB l (.lst ys)):=(Same.refl HB).upd nl;walk_at "rd";exact in_use (.inl (SqL.of (sm _ _ (sB _ _ eA)))) ⟨_,rfl,turn_ite rfl hys (by omega) hR1 hR2⟩
       ·refine fresh_of nl fun HC sC eC=>⟨by decide,fun pD nD=>fresh_of nD fun HD sD eD=>eqLI (ms:=[]) (SqL.of (sD _ _ eC)) (SqL.of eD) (q _ HD ((s1B.trans sC).trans sD) ?_)⟩
        rw[two_iff ha hb hTa hTb,decide_eq_true_iff,List.filter_eq_nil_iff];constructor
        ·rintro h ⟨x,h1,h2⟩;exact h x h1 (decide_eq_true h2)
        ·intro h x hx e;exact h ⟨x,hx,of_decide_eq_true e⟩
    ·rw[if_pos (by simp;omega)];refine no (Same.refl H) fun ⟨p',pa,pb,_,_,e,e2,_⟩=>?_
     cases e;rw[hp] at e2;cases e2;exact hx2 rfl
   | _=>cases h1
theorem at_new7 {A:Addr→Prop}{G H:Hp}{a:Addr}{o:HO}(hd:Av A G)(n:G a=none)(e:H a=some o):hid A H a=some o:=by rw[hid_ne (hd.new n)];exact e
theorem at_tup7 {A:Addr→Prop}{H:Hp}{a:Addr}{xs:List V}(hd:Av A H)(e:H a=some (.tup xs)):hid A H a=some (.tup xs):=by rw[hid_ne (hd.tup e)];exact e
theorem ta_int {H:Hp}{k m:Nat}{i:Int}(h:Sm i):Ta H k m (.int i):=(Tg.int (c:=0) h).ta
theorem ta_pair {H:Hp}{a:Addr}{k m1 m2:Nat}{x y:V}(e:H a=some (.tup [x,y]))(hx:Ta H k m1 x)(hy:Ta H k m2 y):Ta H (k+1) (m1+m2+2) (.ref a):=by
 obtain⟨d1,h1,n1⟩:=hx;obtain⟨d2,h2,n2⟩:=hy;exact⟨_,.tup e (.cons h1 (.cons h2 .nil)),(NA.tup (NAs.cons n1 (NAs.cons n2 (NAs.nil (m:=0))))).mono (Nat.le_refl _) (by omega)⟩
theorem ta_one {H:Hp}{a:Addr}{k m:Nat}{x:V}(e:H a=some (.tup [x]))(hx:Ta H k m x):Ta H (k+1) (m+1) (.ref a):=(Ta.tup e fun y hy=>by rw[List.mem_singleton.mp hy];exact hx).mono (Nat.le_refl _) (by show 1*(m+1)≤m+1;omega)
theorem TiE.ta {A:Addr→Prop}{H:Hp}{ps:List (Addr×List Int)}(h:TiE H ps)(hd:Av A H):∀ v∈ps.map (fun x=>V.ref x.1),Ta (hid A H) 1 2 v:=fun v hv=>(h.tg (c:=0) hd v hv).ta
theorem ta_ties {A:Addr→Prop}{H:Hp}{p:Addr}{ps:List (Addr×List Int)}(e:H p=some (.tup (ps.map fun x=>V.ref x.1)))(h:TiE H ps)(hd:Av A H)(hl:ps.length≤24):Ta (hid A H) 2 72 (.ref p):=(Ta.tup (at_tup7 hd e) (TiE.ta h hd)).mono (Nat.le_refl _) (by rw[List.length_map];show ps.length*3≤72;omega)
theorem ta_mid {H:Hp}{a:Addr}{k m M:Nat}{xs ys:List V}{v:V}(e:H a=some (.tup (xs++[v]++ys)))(hx:∀ x∈xs,Ta H k m x)(hy:∀ x∈ys,Ta H k m x)(hv:Ta H k M v)(hm:m≤M)(hl:xs.length+ys.length≤24):Ta H (k+1) (25*(M+1)) (.ref a):=(Ta.tup (m:=M) e fun x hx'=>by
 rcases List.mem_append.mp hx' with h | h
 ·rcases List.mem_append.mp h with h | h
  ·exact (hx x h).mono (Nat.le_refl _) hm
  ·rw[List.mem_singleton.mp h];exact hv
 ·exact (hy x h).mono (Nat.le_refl _) hm).mono (Nat.le_refl _) (Nat.mul_le_mul_right _ (by rw[List.length_append,List.length_append,List.length_singleton];omega))
def sp_btree67 (K:PySem.W.Frag):Sp:=fun vs H Q _=>∃ (A:Addr→Prop) (d w:Addr) (n:Int) (ts:List (Int×Int)) (pt:Addr) (T:List (Int×Int)),vs=[.ref d,.ref w,.ref pt]∧DkAt H d∧Av A H∧A d∧WebAt H w n ts∧IsWeb n ts∧n≤12∧0<ts.length∧TsAt H pt T∧IsTree n ts T ∧
 ∀ (v:V) (H':Hp),Kp d H H'→DkAt H' d→Ta (hid A H') 4 230 v→Q v H'
theorem sc_btree67:FnScope ["_law_deck_here","_law_web_here","_law_tree_here","_law_at","_law_a","_law_b","_law_known","_law_others","_law_other","_law_some"] ["_law_deck_here","_law_web_here","_law_tree_here"] (defScope (top 37)):=by walk_at "s"
theorem ok_btree67 (F:Fun K "_law_bent_tree" "_law_bent_tree" (top 37) f fd)(B:Bt mg)(D1:Df K mg "_law_next" st1 f1 fd1 ["_law_deck_here"])(G1:FnOk P w K mg base CX0 1 f1 fd1 ["_law_deck_here"] sp_next)(C:Bt2 mg):FnOk P w K mg base CX0 2 f fd ["_law_deck_here","_law_web_here","_law_tree_here"] (sp_btree67 K):=by
 refine F.ok sc_btree67 (fun vs H Q E h=>?_) (fun cdv A outer s H vs Q E hr h=>?_)
 ·walk_at "h"
 ·obtain⟨Av0,d,w0,n,ts,pt,T,rfl,dk,hd,hA,hw,hok,hn12,htl,ht,hT,q⟩:=h;have nd:=sc_btree67.nd;have hu:=hu_of hr
  refine⟨_,(@pss_cons _ _ _ _ _ (@ps_setB _ _ _ 3 _ _ _ _ _ _ nd rfl (.inl rfl) (@pe_op _ _ _ _ _ _ _ _ op_mod (pe_own G1 D1 hr.m (@pa_cons _ _ _ _ _ (pv 0) pa_nil (by rfl))) (pe_callB (lenK K) (by rfl) B.len PySem.boot_len (@pa_cons _ _ _ _ _ (pv 2) pa_nil (by rfl)))) (by first | exact .inl rfl | exact .inr rfl | assumption))
    (@pss_cons _ _ _ _ _ (@ps_setB _ _ _ 4 _ _ _ _ _ _ nd rfl (.inl rfl) (@pe_op _ _ _ _ _ _ _ _ op_mod (pe_own G1 D1 hr.m (@pa_cons _ _ _ _ _ (pv 0) pa_nil (by rfl))) (@pe_ix _ _ _ _ _ _ _ (ix_tupK K) (pv 1) pe_int (fun _ _=>rfl))) (by first | exact .inl rfl | exact .inr rfl | assumption))
    (@pss_cons _ _ _ _ _ (@ps_setB _ _ _ 5 _ _ _ _ _ _ nd rfl (.inl rfl) (@pe_op _ _ _ _ _ _ _ _ op_mod (pe_own G1 D1 hr.m (@pa_cons _ _ _ _ _ (pv 0) pa_nil (by rfl))) (@pe_ix _ _ _ _ _ _ _ (ix_tupK K) (pv 1) pe_int (fun _ _=>rfl))) (by first | exact .inl rfl | exact .inr rfl | assumption))
    (@pss_cons _ _ _ _ _ (ps_set (i:=6) nd rfl (.inl rfl) (@pe_ix _ _ _ _ _ _ _ (ix_tupK K) (@pe_ix _ _ _ _ _ _ _ (ix_tupK K) (pv 1) pe_int (fun _ _=>rfl)) (@pe_op _ _ _ _ _ _ _ _ op_mod (pe_own G1 D1 hr.m (@pa_cons _ _ _ _ _ (pv 0) pa_nil (by rfl))) (pe_callB (lenK K) (by rfl) B.len PySem.boot_len (@pa_cons _ _ _ _ _ (@pe_ix _ _ _ _ _ _ _ (ix_tupK K) (pv 1) pe_int (fun _ _=>rfl)) pa_nil (by rfl)))) (fun _ _=>rfl)))
    (@pss_cons _ _ _ _ _ (@ps_setL _ _ _ _ 7 _ _ _ nd rfl (.inl rfl) (@pa_cons _ _ _ _ _ (pv 6) (@pa_cons _ _ _ _ _ (@pe_tup _ _ _ _ _ (@pa_cons _ _ _ _ _ (pe_callB (call_min2 rfl) (by rfl) B.min boot_min (@pa_cons _ _ _ _ _ (pv 4) (@pa_cons _ _ _ _ _ (pv 5) pa_nil (by rfl)) (by rfl))) (@pa_cons _ _ _ _ _ (pe_callB (call_max2 rfl) (by rfl) B.max boot_max (@pa_cons _ _ _ _ _ (pv 4) (@pa_cons _ _ _ _ _ (pv 5) pa_nil (by rfl)) (by rfl))) pa_nil (by rfl)) (by rfl))) (@pa_cons _ _ _ _ _ (pe_revTX K (@pe_ix _ _ _ _ _ _ _ (ix_tupK K) (pv 2) (pv 3) (fun _ _=>rfl)) (pe_un un_neg pe_int)) (@pa_cons _ _ _ _ _ (pe_callTy (listK K) (by rfl) B.list boot_list (@pa_cons _ _ _ _ _ (@pe_ix _ _ _ _ _ _ _ (ix_tupK K) (pv 2) (pv 3) (fun _ _=>rfl)) pa_nil (by rfl))) (@pa_cons _ _ _ _ _ pe_non (@pa_cons _ _ _ _ _ pe_str (@pa_cons _ _ _ _ _ (@pe_tup _ _ _ _ _ (@pa_cons _ _ _ _ _ (@pe_ix _ _ _ _ _ _ _ (ix_tupK K) (pv 2) (pv 3) (fun _ _=>rfl)) pa_nil (by rfl))) (@pa_cons _ _ _ _ _ (@pe_tup _ _ _ _ _ (@pa_cons _ _ _ _ _ (pv 4) pa_nil (by rfl))) (@pa_cons _ _ _ _ _ pe_int pa_nil (by rfl)) (by rfl)) (by rfl)) (by rfl)) (by rfl)) (by rfl)) (by rfl)) (by rfl)) (by rfl)) (by first | exact .inl rfl | exact .inr rfl | assumption))
    (@pss_cons _ _ _ _ _ (@ps_setB _ _ _ 7 _ _ _ _ _ _ nd rfl (.inl rfl) (@pe_op _ _ _ _ _ _ _ _ op_cat (pv 7) (@pe_lst _ _ _ _ (@pa_cons _ _ _ _ _ (@pe_tup _ _ _ _ _ (@pa_cons _ _ _ _ _ (pe_callTy call_boolI (by rfl) C.bool boot_bool (@pa_cons _ _ _ _ _ (@pe_ix _ _ _ _ _ _ _ (ix_tupK K) (@pe_ix _ _ _ _ _ _ _ (ix_tupK K) (pv 2) (pv 3) (fun _ _=>rfl)) pe_int (fun _ _=>rfl)) pa_nil (by rfl))) (@pa_cons _ _ _ _ _ (@pe_ix _ _ _ _ _ _ _ (ix_tupK K) (@pe_ix _ _ _ _ _ _ _ (ix_tupK K) (pv 2) (pv 3) (fun _ _=>rfl)) pe_int (fun _ _=>rfl)) pa_nil (by rfl)) (by rfl))) (@pa_cons _ _ _ _ _ (@pe_tup _ _ _ _ _ (@pa_cons _ _ _ _ _ (@pe_ix _ _ _ _ _ _ _ (ix_tupK K) (@pe_ix _ _ _ _ _ _ _ (ix_tupK K) (pv 2) (pv 3) (fun _ _=>rfl)) pe_int (fun _ _=>rfl)) (@pa_cons _ _ _ _ _ (@pe_ix _ _ _ _ _ _ _ (ix_tupK K) (pv 1) pe_int (fun _ _=>rfl)) pa_nil (by rfl)) (by rfl))) (@pa_cons _ _ _ _ _ (@pe_tup _ _ _ _ _ (@pa_cons _ _ _ _ _ (pe_un un_neg pe_int) (@pa_cons _ _ _ _ _ (@pe_ix _ _ _ _ _ _ _ (ix_tupK K) (@pe_ix _ _ _ _ _ _ _ (ix_tupK K) (pv 2) (pv 3) (fun _ _=>rfl)) pe_int (fun _ _=>rfl)) pa_nil (by rfl)) (by rfl))) (@pa_cons _ _ _ _ _ (@pe_op _ _ _ _ _ _ _ _ (catXK K) (@pe_ix _ _ _ _ _ _ _ (ix_tupK K) (pv 2) (pv 3) (fun _ _=>rfl)) (@pe_tup _ _ _ _ _ (@pa_cons _ _ _ _ _ pe_int pa_nil (by rfl)))) pa_nil (by rfl)) (by rfl)) (by rfl)) (by rfl)))) (by first | exact .inl rfl | exact .inr rfl | assumption))
    (@pss_cons _ _ _ _ _ (ps_set (i:=8) nd rfl (.inl rfl) (@pe_ix _ _ _ _ _ _ _ (ix_listK K) (pv 7) (@pe_op _ _ _ _ _ _ _ _ op_mod (pe_own G1 D1 hr.m (@pa_cons _ _ _ _ _ (pv 0) pa_nil (by rfl))) (pe_callB (lenK K) (by rfl) B.len PySem.boot_len (@pa_cons _ _ _ _ _ (pv 7) pa_nil (by rfl)))) (fun _ _=>rfl)))
    (@pss_cons _ _ _ _ _ (@ps_setL _ _ _ _ 9 _ _ _ nd rfl (.inl rfl) (@pa_cons _ _ _ _ _ (@pe_op _ _ _ _ _ _ _ _ (catXK K) (pe_slice (slXK K) (pv 2) po_none (po_some (pv 3))) (pe_slice (slXK K) (pv 2) (po_some (@pe_op _ _ _ _ _ _ _ _ op_add (pv 3) pe_int)) po_none)) (@pa_cons _ _ _ _ _ (@pe_op _ _ _ _ _ _ _ _ (catXK K) (@pe_op _ _ _ _ _ _ _ _ (catXK K) (pe_slice (slXK K) (pv 2) po_none (po_some (pv 3))) (@pe_tup _ _ _ _ _ (@pa_cons _ _ _ _ _ (pv 8) pa_nil (by rfl)))) (pe_slice (slXK K) (pv 2) (po_some (@pe_op _ _ _ _ _ _ _ _ op_add (pv 3) pe_int)) po_none)) (@pa_cons _ _ _ _ _ (@pe_op _ _ _ _ _ _ _ _ (catXK K) (pv 2) (@pe_tup _ _ _ _ _ (@pa_cons _ _ _ _ _ (pv 8) pa_nil (by rfl)))) (@pa_cons _ _ _ _ _ (pe_callTy (listK K) (by rfl) B.list boot_list (@pa_cons _ _ _ _ _ (pv 2) pa_nil (by rfl))) (@pa_cons _ _ _ _ _ (pe_revTX K (pv 2) (pe_un un_neg pe_int)) pa_nil (by rfl)) (by rfl)) (by rfl)) (by rfl)) (by rfl)) (by first | exact .inl rfl | exact .inr rfl | assumption))
    (@pss_cons _ _ _ _ _ (@ps_setB _ _ _ 9 _ _ _ _ _ _ nd rfl (.inl rfl) (@pe_op _ _ _ _ _ _ _ _ op_cat (pv 9) (@pe_lst _ _ _ _ (@pa_cons _ _ _ _ _ (@pe_op _ _ _ _ _ _ _ _ (catXK K) (@pe_op _ _ _ _ _ _ _ _ (catXK K) (pe_slice (slXK K) (pv 2) po_none (po_some (pv 3))) (@pe_tup _ _ _ _ _ (@pa_cons _ _ _ _ _ (@pe_ix _ _ _ _ _ _ _ (ix_tupK K) (pv 2) (pv 3) (fun _ _=>rfl)) pa_nil (by rfl)))) (pe_slice (slXK K) (pv 2) (po_some (pv 3)) po_none)) (@pa_cons _ _ _ _ _ (@pe_op _ _ _ _ _ _ _ _ (catXK K) (pe_slice (slXK K) (pv 2) (po_some (pv 3)) po_none) (pe_slice (slXK K) (pv 2) po_none (po_some (pv 3)))) (@pa_cons _ _ _ _ _ (@pe_tup _ _ _ _ _ pa_nil) (@pa_cons _ _ _ _ _ pe_non (@pa_cons _ _ _ _ _ pe_dnewK (@pa_cons _ _ _ _ _ pe_str (@pa_cons _ _ _ _ _ (@pe_tup _ _ _ _ _ (@pa_cons _ _ _ _ _ (pv 2) pa_nil (by rfl))) pa_nil (by rfl)) (by rfl)) (by rfl)) (by rfl)) (by rfl)) (by rfl)) (by rfl)))) (by first | exact .inl rfl | exact .inr rfl | assumption))
    (@pss_one _ _ _ (ps_ret (@pe_ix _ _ _ _ _ _ _ (ix_listK K) (pv 9) (@pe_op _ _ _ _ _ _ _ _ op_mod (pe_own G1 D1 hr.m (@pa_cons _ _ _ _ _ (pv 0) pa_nil (by rfl))) (pe_callB (lenK K) (by rfl) B.len PySem.boot_len (@pa_cons _ _ _ _ _ (pv 9) pa_nil (by rfl)))) (fun _ _=>rfl))))))))))))),?_⟩
  simp only[L2.start,st0,List.map_cons,List.map_nil,List.length_cons,List.length_nil,List.replicate,List.cons_append,List.nil_append,Nat.reduceAdd,Nat.reduceSub];have h3:=hok.n3;have h60:=hok.n60;have hTl:=hT.len;obtain⟨q0,hw0,psw,hq0,hpsw⟩:=id hw;obtain⟨pst,ht0,hpst⟩:=id ht;have hlt:=hpst.len;have hlw:=hpsw.len;have tE:=hpst.tiE (hT.ok hok.rng) h60;have wE:=hpsw.tiE hok.rng h60;refine seq_rest (fun σ Hc=>∃ k:Int,σ=[some (.ref d),some (.ref w0),some (.ref pt),some (.int k),none,none,none,none,none,none]∧Kp d H Hc∧DkAt Hc d∧0≤k∧k<T.length) (fun R hRR=>?_) ?_
  ·walk_at "rd";refine next_use dk fun z H1 k1 d1 _=>⟨_,.inr (SqT.of ((k1.tp dk) _ _ ht0)),z,rfl,by rw[List.length_map];omega,hRR _ _ ⟨_,rfl,k1,d1,Int.emod_nonneg z (by rw[List.length_map];omega),?_⟩⟩
   have:=Int.emod_lt_of_pos z (b:=((pst.map fun x=>V.ref x.1).length:Int)) (by rw[List.length_map];omega);rw[List.length_map] at this ⊢;omega
  rintro σ H1 ⟨k,rfl,k1,d1,p0,p1⟩;obtain⟨v0,hv0,ev0⟩:=at_in (xs:=pst.map fun x=>V.ref x.1) p0 (by rw[List.length_map];omega);obtain⟨x0,hx0,rfl⟩:=List.mem_map.mp hv0;obtain⟨i0,j0,e20,e10,b0⟩:=tE x0 hx0;refine seq_rest (fun σ Hc=>∃ a:Int,σ=[some (.ref d),some (.ref w0),some (.ref pt),some (.int k),some (.int a),none,none,none,none,none]∧Kp d H Hc∧DkAt Hc d∧0≤a∧a<n) (fun R hRR=>?_) ?_
  ·walk_at "rd";exact next_use d1 fun z H2 k2 d2 _=>⟨_,SqT.of (((k1.trans k2).tp dk) _ _ hw0),_,rfl,z,rfl,n,rfl,by omega,hRR _ _ ⟨_,rfl,k1.trans k2,d2,Int.emod_nonneg z (by omega),Int.emod_lt_of_pos z (by omega)⟩⟩
  clear k1 d1;rintro σ H1 ⟨a,rfl,k1,d1,a0,a1⟩;refine seq_rest (fun σ Hc=>∃ b:Int,σ=[some (.ref d),some (.ref w0),some (.ref pt),some (.int k),some (.int a),some (.int b),none,none,none,none]∧Kp d H Hc∧DkAt Hc d∧0≤b∧b<n) (fun R hRR=>?_) ?_
  ·walk_at "rd";exact next_use d1 fun z H2 k2 d2 _=>⟨_,SqT.of (((k1.trans k2).tp dk) _ _ hw0),_,rfl,z,rfl,n,rfl,by omega,hRR _ _ ⟨_,rfl,k1.trans k2,d2,Int.emod_nonneg z (by omega),Int.emod_lt_of_pos z (by omega)⟩⟩
  clear k1 d1;rintro σ H1 ⟨b,rfl,k1,d1,b00,b1⟩;refine seq_rest (fun σ Hc=>∃ kn:V,σ=[some (.ref d),some (.ref w0),some (.ref pt),some (.int k),some (.int a),some (.int b),some kn,none,none,none]∧Kp d H Hc∧DkAt Hc d∧kn∈psw.map fun x=>V.ref x.1) (fun R hRR=>?_) ?_
  ·walk_at "rd";refine⟨_,SqT.of ((k1.tp dk) _ _ hw0),_,rfl,next_use d1 fun z H2 k2 d2 _=>?_⟩;have t2:=(k1.trans k2).tp dk;obtain⟨v,hv,ev⟩:=pick_mod (xs:=psw.map fun x=>V.ref x.1) (by rw[List.length_map];omega) z;exact⟨_,SqT.of (t2 _ _ hw0),_,rfl,q0,rfl,_,.inr (SqT.of (t2 _ _ hq0)),z,rfl,by rw[List.length_map];omega,q0,rfl,_,SqT.of (t2 _ _ hq0),v,ev,hRR _ _ ⟨v,rfl,k1.trans k2,d2,hv⟩⟩
  clear k1 d1;rintro σ H1 ⟨kn,rfl,k1,d1,hkn⟩;have hd1:=hd.kp k1 d1;have t1:=k1.tp dk;have tE1:=tE.tp t1;have wE1:=wE.tp t1;have ht1:=t1 _ _ ht0;have e11:=t1 _ _ e10;have hw1:=t1 _ _ hw0;refine seq_rest (fun σ Hc=>∃ (lo:Addr) (xs:List V),σ=[some (.ref d),some (.ref w0),some (.ref pt),some (.int k),some (.int a),some (.int b),some kn,some (.ref lo),none,none]∧Same H1 Hc∧Hc lo=some (.lst xs)∧xs.length=9∧∀ x∈xs,Ta (hid Av0 Hc) 2 8 x) (fun R hRR=>?_) ?_
  ·walk_at "rd";refine⟨a,b,⟨rfl,rfl⟩,a,b,⟨rfl,rfl⟩,by decide,fun p1 n1=>fresh_of n1 fun G1 g1 f1=>⟨_,SqT.of (g1 _ _ ht1),_,ev0,x0.1,rfl,_,SqT.of (g1 _ _ e11),fun p2 n2=>fresh_of n2 fun G2 g2 f2=>⟨_,SqT.of ((g1.trans g2) _ _ ht1),_,ev0,x0.1,rfl,_,.inr (SqT.of ((g1.trans g2) _ _ e11)),fun p3 n3=>fresh_of n3 fun G3 g3 f3=>⟨_,SqT.of ((g1.trans (g2.trans g3)) _ _ ht1),_,ev0,by decide,fun p4 n4=>fresh_of n4 fun G4 g4 f4=>⟨by decide,fun p5 n5=>fresh_of n5 fun G5 g5 f5=>⟨by decide,fun lo nlo=>fresh_of nlo fun G6 g6 f6=>?_⟩⟩⟩⟩⟩⟩;have s46:=g5.trans g6;have s36:=g4.trans s46;have s26:=g3.trans s36;have s16:=g2.trans s26;have s06:=g1.trans s16;have hd6:=hd1.same s06;have c1:=at_new7 hd1 n1 (s16 _ _ f1);have c2:=at_new7 (hd1.same g1) n2 (s26 _ _ f2);have c3:=at_new7 (hd1.same (g1.trans g2)) n3 (s36 _ _ f3);have c4:=at_new7 (hd1.same (g1.trans (g2.trans g3))) n4 (s46 _ _ f4);have c5:=at_new7 (hd1.same (g1.trans (g2.trans (g3.trans g4)))) n5 (g6 _ _ f5);have sm:∀ {i:Int},0≤i→i<100→Ta (hid Av0 G6) 1 0 (.int i):=fun h0 h1=>ta_int (sm_small h0 (by omega))
   have hi0:=sm b0.1 (by omega);have hj0:=sm b0.2.2.1 (by omega);have tie:Ta (hid Av0 G6) 1 2 (.ref x0.1):=TiE.ta (tE1.tp s06.tp) hd6 _ (List.mem_map_of_mem (f:=fun x:Addr×List Int=>V.ref x.1) hx0);refine hRR _ _ ⟨lo,_,rfl,s06,f6,rfl,fun x hx=>?_⟩;simp only[List.mem_cons,List.not_mem_nil,or_false] at hx;rcases hx with rfl | rfl | rfl | rfl | rfl | rfl | rfl | rfl | rfl
   ·exact (TiE.ta (wE1.tp s06.tp) hd6 _ hkn).mono (by decide) (by decide)
   ·exact (ta_pair c1 (sm (by split<;>omega) (by split<;>omega)) (sm (by split<;>omega) (by split<;>omega))).mono (by decide) (by decide)
   ·exact (ta_pair c2 hj0 hi0).mono (by decide) (by decide)
   ·refine (Ta.lst (k:=1) (m:=0) c3 fun y hy=>?_).mono (by decide) (by show 2*1≤8;decide);simp only[List.mem_cons,List.not_mem_nil,or_false] at hy;rcases hy with rfl | rfl
    ·exact hi0
    ·exact hj0
   ·exact (Tg.non (c:=0)).ta
   ·exact (Tg.str (c:=0) (by decide +kernel) (by decide +kernel)).ta
   ·exact (ta_one c4 tie).mono (by decide) (by decide)
   ·exact (ta_one c5 (sm a0 (by omega))).mono (by decide) (by decide)
   ·exact ta_int (sm_of (by decide))
  rintro σ H2 ⟨lo,xs,rfl,s2,e2,hxl,hxs⟩;refine seq_rest (fun σ Hc=>∃ (lo:Addr) (xs:List V),σ=[some (.ref d),some (.ref w0),some (.ref pt),some (.int k),some (.int a),some (.int b),some kn,some (.ref lo),none,none]∧Same H1 Hc∧H1 lo=none∧Hc lo=some (.lst xs)∧xs.length=13∧∀ x∈xs,Ta (hid Av0 Hc) 2 8 x) (fun R hRR=>?_) ?_
  ·walk_at "rd";have ht2:=s2 _ _ ht1;have e12:=s2 _ _ e11;have hw2:=s2 _ _ hw1;have hd2:=hd1.same s2;refine⟨_,SqT.of ht2,_,ev0,x0.1,rfl,_,SqT.of e12,_,rfl,i0,rfl,_,SqT.of ht2,_,ev0,x0.1,rfl,_,SqT.of e12,_,rfl,by decide,fun p1 n1=>fresh_of n1 fun G1 g1 f1=>⟨_,SqT.of (g1 _ _ ht2),_,ev0,x0.1,rfl,_,SqT.of (g1 _ _ e12),_,rfl,_,SqT.of (g1 _ _ hw2),_,rfl,by decide,fun p2 n2=>fresh_of n2 fun G2 g2 f2=>⟨_,SqT.of ((g1.trans g2) _ _ ht2),_,ev0,x0.1,rfl,_,SqT.of ((g1.trans g2) _ _ e12),_,rfl,by decide,fun p3 n3=>fresh_of n3 fun G3 g3 f3=>⟨_,SqT.of ((g1.trans (g2.trans g3)) _ _ ht2),_,ev0,by decide,fun p4 n4=>fresh_of n4 fun G4 g4 f4=>catX_use ((g1.trans (g2.trans (g3.trans g4))) _ _ e12) f4 (by show 2+1≤10000;decide) fun p5 G5 g5 f5=>⟨by decide,fun p6 n6=>fresh_of n6 fun G6 g6 f6=>?_⟩⟩⟩⟩⟩;have s05:=g1.trans (g2.trans (g3.trans (g4.trans g5)));have s06:=s05.trans g6;refine⟨lo,p6,_,_,rfl,rfl,s06 _ _ e2,f6,by refine Nat.le_of_lt (sizeBig ?_);rw[hxl];show 9+4≤_;omega,fun l7 n7=>fresh_of n7 fun G7 g7 f7=>?_⟩;have s17:=g2.trans (g3.trans (g4.trans (g5.trans (g6.trans g7))));have s07:=g1.trans s17;have hd7:=hd2.same s07;have c1:=at_new7 hd2 n1 (s17 _ _ f1);have c2:=at_new7 (hd2.same g1) n2 ((g3.trans (g4.trans (g5.trans (g6.trans g7)))) _ _ f2);have c3:=at_new7 (hd2.same (g1.trans g2)) n3 ((g4.trans (g5.trans (g6.trans g7))) _ _ f3);have c5:=at_tup7 hd7 ((g6.trans g7) _ _ f5);have sm:∀ {i:Int},0≤i→i<100→Ta (hid Av0 G7) 1 0 (.int i):=fun h0 h1=>ta_int (sm_small h0 (by omega))
   have hi0:=sm b0.1 (by omega);have hj0:=sm b0.2.2.1 (by omega);refine hRR _ _ ⟨l7,_,rfl,s2.trans s07,(s2.trans s06).free n7,f7,by rw[List.length_append,hxl];rfl,fun x hx=>?_⟩;rcases List.mem_append.mp hx with hx | hx
   ·exact (hxs x hx).same s07.hid
   simp only[List.mem_cons,List.not_mem_nil,or_false] at hx;rcases hx with rfl | rfl | rfl | rfl
   ·exact (ta_pair c1 ((Tg.bl (c:=0) (k:=1) (m:=0)).ta) hj0).mono (by decide) (by decide)
   ·exact (ta_pair c2 hi0 (sm (by omega) (by omega))).mono (by decide) (by decide)
   ·exact (ta_pair c3 (ta_int (m:=0) (sm_of (by decide))) hj0).mono (by decide) (by decide)
   ·refine (Ta.tup (k:=1) (m:=0) c5 fun y hy=>?_).mono (by decide) (by show 3*1≤8;decide);have hy:y=.int i0∨y=.int j0∨y=.int 0:=by simpa using hy
    rcases hy with rfl | rfl | rfl
    ·exact hi0
    ·exact hj0
    ·exact sm (by decide) (by decide)
  clear hxs hxl e2 s2;rintro σ H2 ⟨lo0,xs,rfl,s2,nlo,e2,hxl,hxs⟩;have d2:=d1.same s2;have lod:lo0≠d:=d1.ne nlo;refine seq_rest (fun σ Hc=>∃ (ot:V),σ=[some (.ref d),some (.ref w0),some (.ref pt),some (.int k),some (.int a),some (.int b),some kn,some (.ref lo0),some ot,none]∧Kp d H Hc∧DkAt Hc d∧Ta (hid Av0 Hc) 2 8 ot) (fun R hRR=>?_) ?_
  ·walk_at "rd";refine next_use d2 fun z H3 k3 d3 _=>?_
   have e3:=k3 _ _ lod e2;obtain⟨v,hv,ev⟩:=pick_mod (xs:=xs) (by omega) z;exact⟨_,.inl (SqL.of e3),z,rfl,by omega,_,SqL.of e3,v,ev,hRR _ _ ⟨v,rfl,k1.trans (s2.kp.trans k3),d3,(hxs v hv).same (k3.hid hA)⟩⟩
  clear hxs hxl e2 s2 d2 lod nlo k1 d1 hd1 t1 tE1 wE1 ht1 e11 hw1 hkn;rintro σ H1 ⟨ot,rfl,k1,d1,hot⟩;have hd1:=hd.kp k1 d1;have t1:=k1.tp dk;have tE1:=tE.tp t1;have ht1:=t1 _ _ ht0;obtain⟨c1,f1,m1,l1⟩:=cutX (fun x:Addr×List Int=>V.ref x.1) pst none (some k);obtain⟨c2,f2,m2,l2⟩:=cutX (fun x:Addr×List Int=>V.ref x.1) pst (some (k+1)) none;obtain⟨c3,f3,m3,l3⟩:=cutX (fun x:Addr×List Int=>V.ref x.1) pst (some k) none;refine seq_rest (fun σ Hc=>∃ (lo:Addr) (xs:List V),σ=[some (.ref d),some (.ref w0),some (.ref pt),some (.int k),some (.int a),some (.int b),some kn,some (.ref lo0),some ot,some (.ref lo)]∧Same H1 Hc∧Hc lo=some (.lst xs)∧xs.length=5∧∀ x∈xs,Ta (hid Av0 Hc) 4 230 x) (fun R hRR=>?_) ?_
  ·walk_at "rd";refine slX_use ht1 fun a1 G1 g1 e1=>?_
   rw[f1] at e1;refine slX_use (g1 _ _ ht1) fun a2 G2 g2 e2=>?_
   rw[f2] at e2;refine catX_use (g2 _ _ e1) e2 (by rw[List.length_map,List.length_map];omega) fun a3 G3 g3 e3=>?_
   have s03:=g1.trans (g2.trans g3);refine slX_use (s03 _ _ ht1) fun a4 G4 g4 e4=>?_
   rw[f1] at e4;refine⟨by decide,fun a5 n5=>fresh_of n5 fun G5 g5 e5=>catX_use (g5 _ _ e4) e5 (by rw[List.length_map];show c1.length+1≤10000;omega) fun a6 G6 g6 e6=>?_⟩;have s06:=s03.trans (g4.trans (g5.trans g6));refine slX_use (s06 _ _ ht1) fun a7 G7 g7 e7=>?_
   rw[f2] at e7;refine catX_use (g7 _ _ e6) e7 (by rw[List.length_append,List.length_map,List.length_map];show c1.length+1+c2.length≤10000;omega) fun a8 G8 g8 e8=>⟨by decide,fun a9 n9=>fresh_of n9 fun G9 g9 e9=>?_⟩
   have s09:=s06.trans (g7.trans (g8.trans g9));refine catX_use (s09 _ _ ht1) e9 (by rw[List.length_map];show pst.length+1≤10000;omega) fun b1 J1 j1 h1=>⟨_,.inr (SqT.of ((s09.trans j1) _ _ ht1)),fun b2 nb2=>fresh_of nb2 fun J2 j2 h2=>⟨_,SqT.of ((s09.trans (j1.trans j2)) _ _ ht1),fun b3 nb3=>fresh_of nb3 fun J3 j3 h3=>⟨by decide,fun lo nlo=>fresh_of nlo fun J4 j4 h4=>?_⟩⟩⟩
   have s14:=j2.trans (j3.trans j4);have s0J:=s09.trans (j1.trans s14);have hdJ:=hd1.same s0J;have tEJ:=tE1.tp s0J.tp;have otJ:=hot.same s0J.hid;have tu:∀ us:List (Addr×List Int),(∀ x∈us,x∈pst)→∀ v∈us.map (fun x=>V.ref x.1),Ta (hid Av0 J4) 2 2 v:=fun us h v hv=>(TiE.ta (tEJ.sub h) hdJ v hv).mono (by decide) (Nat.le_refl _)
   refine hRR _ _ ⟨lo,_,rfl,s0J,h4,rfl,fun x hx=>?_⟩;simp only[List.mem_cons,List.not_mem_nil,or_false] at hx;rcases hx with rfl | rfl | rfl | rfl | rfl
   ·have:=(g4.trans (g5.trans (g6.trans (g7.trans (g8.trans (g9.trans (j1.trans s14))))))) _ _ e3;rw[← List.map_append] at this;exact (ta_ties this ((tEJ.sub m1).app (tEJ.sub m2)) hdJ (by rw[List.length_append];omega)).mono (by decide) (by decide)
   ·exact (ta_mid (at_tup7 hdJ ((g9.trans (j1.trans s14)) _ _ e8)) (tu c1 m1) (tu c2 m2) otJ (by decide) (by rw[List.length_map,List.length_map];omega)).mono (by decide) (by decide)
   ·have:=at_tup7 hdJ (s14 _ _ h1);rw[← List.append_nil (pst.map (fun x=>V.ref x.1)++[ot])] at this;exact (ta_mid this (tu pst fun x h=>h) (fun x hx=>nomatch hx) otJ (by decide) (by rw[List.length_map];show pst.length+0≤24;omega)).mono (by decide) (by decide)
   ·exact (Ta.lst (k:=2) (m:=2) (at_new7 (hd1.same (s09.trans j1)) nb2 ((j3.trans j4) _ _ h2)) (tu pst fun x h=>h)).mono (by decide) (by rw[List.length_map];omega)
   ·have:=j4 _ _ h3;rw[← List.map_reverse] at this;exact (ta_ties this (tEJ.sub fun x hx=>List.mem_reverse.mp hx) hdJ (by rw[List.length_reverse];omega)).mono (by decide) (by decide)
  rintro σ H2 ⟨lo,xs,rfl,s2,e2,hxl,hxs⟩;have ht2:=s2 _ _ ht1;have hd2:=hd1.same s2;refine seq_rest (fun σ Hc=>∃ (lo:Addr) (xs:List V),σ=[some (.ref d),some (.ref w0),some (.ref pt),some (.int k),some (.int a),some (.int b),some kn,some (.ref lo0),some ot,some (.ref lo)]∧Same H2 Hc∧H2 lo=none∧Hc lo=some (.lst xs)∧xs.length=12∧∀ x∈xs,Ta (hid Av0 Hc) 4 230 x) (fun R hRR=>?_) ?_
  ·walk_at "rd";refine slX_use ht2 fun a1 G1 g1 e1=>?_
   rw[f1] at e1;refine⟨_,SqT.of (g1 _ _ ht2),_,ev0,by decide,fun a2 n2=>fresh_of n2 fun G2 g2 e4=>catX_use (g2 _ _ e1) e4 (by rw[List.length_map];show c1.length+1≤10000;omega) fun a3 G3 g3 e5=>?_⟩;have s03:=g1.trans (g2.trans g3);refine slX_use (s03 _ _ ht2) fun a4 G4 g4 e6=>?_
   rw[f3] at e6;refine catX_use (g4 _ _ e5) e6 (by rw[List.length_append,List.length_map,List.length_map];show c1.length+1+c3.length≤10000;omega) fun a5 G5 g5 e7=>?_
   have s05:=s03.trans (g4.trans g5);refine slX_use (s05 _ _ ht2) fun a6 G6 g6 e8=>?_
   rw[f3] at e8;refine slX_use ((s05.trans g6) _ _ ht2) fun a7 G7 g7 e9=>?_
   rw[f1] at e9;refine catX_use (g7 _ _ e8) e9 (by rw[List.length_map,List.length_map];omega) fun a8 G8 g8 h1=>?_
   have s08:=s05.trans (g6.trans (g7.trans g8));refine⟨by decide,fun b1 n1=>fresh_of n1 fun J1 j1 h2=>fun b2 n3=>fresh_of n3 fun J2 j2 h3=>⟨by decide,fun b3 n4=>fresh_of n4 fun J3 j3 h4=>⟨by decide,fun b4 n5=>fresh_of n5 fun J4 j4 h5=>?_⟩⟩⟩;have s04':=s08.trans (j1.trans (j2.trans (j3.trans j4)));refine⟨lo,b4,_,_,rfl,rfl,s04' _ _ e2,h5,by refine Nat.le_of_lt (sizeBig ?_);rw[hxl];show 5+7≤_;omega,fun b5 n6=>fresh_of n6 fun J5 j5 h6=>?_⟩;have s35:=j4.trans j5;have s15:=j2.trans (j3.trans s35);have s85:=j1.trans s15;have s05':=s08.trans s85;have hdJ:=hd2.same s05';have tEJ:=tE1.tp (s2.trans s05').tp;have tu:∀ us:List (Addr×List Int),(∀ x∈us,x∈pst)→∀ v∈us.map (fun x=>V.ref x.1),Ta (hid Av0 J5) 2 2 v:=fun us h v hv=>(TiE.ta (tEJ.sub h) hdJ v hv).mono (by decide) (Nat.le_refl _)
   refine hRR _ _ ⟨b5,_,rfl,s05',s04'.free n6,h6,by rw[List.length_append,hxl];rfl,fun x hx=>?_⟩;rcases List.mem_append.mp hx with hx | hx
   ·exact (hxs x hx).same s05'.hid
   simp only[List.mem_cons,List.not_mem_nil,or_false] at hx;rcases hx with rfl | rfl | rfl | rfl | rfl | rfl | rfl
   ·exact (ta_mid (at_tup7 hdJ ((g6.trans (g7.trans (g8.trans s85))) _ _ e7)) (tu c1 m1) (tu c3 m3) (tu [x0] (fun x hx=>by rw[List.mem_singleton.mp hx];exact hx0) _ (by simp)) (by decide) (by rw[List.length_map,List.length_map];omega)).mono (by decide) (by decide)
   ·have:=s85 _ _ h1;rw[← List.map_append] at this;exact (ta_ties this ((tEJ.sub m3).app (tEJ.sub m1)) hdJ (by rw[List.length_append];omega)).mono (by decide) (by decide)
   ·exact (Ta.tup (k:=0) (m:=0) (at_new7 (hd2.same s08) n1 (s15 _ _ h2)) fun y hy=>nomatch hy).mono (by decide) (by decide)
   ·exact (Tg.non (c:=0)).ta
   ·exact (Tg.dict0 (k:=0) (m:=0) (at_new7 (hd2.same (s08.trans j1)) n3 ((j3.trans s35) _ _ h3))).ta.mono (by decide) (by decide)
   ·exact (Tg.str (c:=0) (by decide +kernel) (by decide +kernel)).ta
   ·exact (ta_one (at_new7 (hd2.same (s08.trans (j1.trans j2))) n4 (s35 _ _ h4)) (ta_ties ((s2.trans s05') _ _ ht1) tEJ hdJ (by omega))).mono (by decide) (by decide)
  clear hxs hxl e2;rintro σ H3 ⟨l9,xs,rfl,s3,nl,e3,hxl,hxs⟩;have d3:=d1.same (s2.trans s3);have ld:l9≠d:=(d1.same s2).ne nl;walk_at "rd";refine next_use d3 fun z H4 k4 d4 _=>?_
  have e4:=k4 _ _ ld e3;obtain⟨v,hv,ev⟩:=pick_mod (xs:=xs) (by omega) z;exact⟨_,.inl (SqL.of e4),z,rfl,by omega,_,SqL.of e4,v,ev,q v H4 (k1.trans ((s2.trans s3).kp.trans k4)) d4 ((hxs v hv).same (k4.hid hA))⟩
def sp_bent67 (K:PySem.W.Frag):Sp:=fun vs H Q _=>∃ (A:Addr→Prop) (d w:Addr) (n:Int) (ts:List (Int×Int)) (pp pa:Addr) (T1:List (Int×Int)) (pb:Addr) (T2:List (Int×Int)),vs=[.ref d,.ref w,.ref pp]∧DkAt H d∧Av A H∧A d∧WebAt H w n ts∧IsWeb n ts∧n≤12∧0<ts.length∧H pp=some (.tup [.ref pa,.ref pb])∧TsAt H pa T1∧IsTree n ts T1∧TsAt H pb T2∧IsTree n ts T2 ∧
 ∀ (v:V) (H':Hp),Kp d H H'→DkAt H' d→Ta (hid A H') 6 500 v→Q v H'
def inv_b67 (Hb:Hp)(A:Addr→Prop)(d w lp:Addr)(i:Nat)(τ:St)(Hc:Hp):Prop:=∃ (c:Option V) (vs:List V),τ=[c,some (.ref d),some (.ref w)]∧Kp d Hb Hc∧DkAt Hc d∧Av (fun a=>A a∨a=lp) Hc∧Hc lp=some (.lst vs)∧vs.length=i∧∀ v∈vs,Ta (hid (fun a=>A a∨a=lp) Hc) 4 230 v
theorem av_or7 {A:Addr→Prop}{H:Hp}{p:Addr}{ys:List V}(h:Av A H)(e:H p=some (.lst ys)):Av (fun a=>A a∨a=p) H:=fun a ha=>ha.elim (h a) fun z=>⟨ys,by rw[show a=p from z];exact e⟩
theorem TsAt.ta {A:Addr→Prop}{H:Hp}{p:Addr}{n:Int}{ts us:List (Int×Int)}(h:TsAt H p us)(hT:IsTree n ts us)(hok:IsWeb n ts)(hn:n≤12)(hd:Av A H):Ta (hid A H) 2 72 (.ref p):=by
 obtain⟨ps,e,hp⟩:=h;have:=hp.len;have:=hT.len;exact ta_ties e (hp.tiE (hT.ok hok.rng) hok.n60) hd (by omega)
theorem sc_bent67:FnScope ["_law_deck_here","_law_web_here","_law_pair","_law_way","_law_bent_here","_law_some"] ["_law_deck_here","_law_web_here","_law_pair"] (defScope (top 38)):=by walk_at "s"
theorem ok_bent67 (F:Fun K "_law_bent" "_law_bent" (top 38) f fd)(B:Bt mg)(D1:Df K mg "_law_next" st1 f1 fd1 ["_law_deck_here"])(G1:FnOk P w K mg base CX0 1 f1 fd1 ["_law_deck_here"] sp_next)(D2:Df K mg "_law_bent_tree" st2 f2 fd2 ["_law_deck_here","_law_web_here","_law_tree_here"])(G2:FnOk P w K mg base CX0 2 f2 fd2 ["_law_deck_here","_law_web_here","_law_tree_here"] (sp_btree67 K)):FnOk P w K mg base CX0 3 f fd ["_law_deck_here","_law_web_here","_law_pair"] (sp_bent67 K):=by
 refine F.ok sc_bent67 (fun vs H Q E h=>?_) (fun cdv A outer s H vs Q E hr h=>?_)
 ·walk_at "h"
 ·obtain⟨Av0,d,w0,n,ts,pp,pa,Ta',pb,Tb',rfl,dk,hd,hA,hw,hok,hn12,htl,hpp,ha,hTa,hb,hTb,q⟩:=h;have nd:=sc_bent67.nd;have hu:=hu_of hr
  refine⟨_,(@pss_cons _ _ _ _ _ (@ps_setB _ _ _ 3 _ _ _ _ _ _ nd rfl (.inl rfl) (@pe_op _ _ _ _ _ _ _ _ op_mod (pe_own G1 D1 hr.m (@pa_cons _ _ _ _ _ (pv 0) pa_nil (by rfl))) pe_int) (by first | exact .inl rfl | exact .inr rfl | assumption))
    (@pss_cons _ _ _ _ _ (ps_setLC (i:=4) (own:=["_law_tree_here"]) (fr:=[("_law_deck_here",0),("_law_web_here",1)]) rfl nd rfl rfl (by walk_at "w") (by walk_at "w") (frOk_cons rfl rfl (frOk_cons rfl rfl frOk_nil)) (pi_tupK K (pv 2)) ⟨fun _ _ _ _=>⟨(pg_name (i:=0) (show List.Nodup (["_law_tree_here","_law_deck_here","_law_web_here"]:List Str) by decide +kernel) rfl (.inl rfl)),pts_nil,(pe_own G2 D2 hr.m (@pa_cons _ _ _ _ _ (pv 1) (@pa_cons _ _ _ _ _ (pv 2) (@pa_cons _ _ _ _ _ (pv 0) pa_nil (by rfl)) (by rfl)) (by rfl)))⟩⟩)
    (@pss_cons _ _ _ _ _ (@ps_setL _ _ _ _ 5 _ _ _ nd rfl (.inl rfl) (@pa_cons _ _ _ _ _ (@pe_tup _ _ _ _ _ (@pa_cons _ _ _ _ _ (@pe_ix _ _ _ _ _ _ _ (ix_listK K) (pv 4) pe_int (fun _ _=>rfl)) (@pa_cons _ _ _ _ _ (@pe_ix _ _ _ _ _ _ _ (ix_tupK K) (pv 2) pe_int (fun _ _=>rfl)) pa_nil (by rfl)) (by rfl))) (@pa_cons _ _ _ _ _ (@pe_tup _ _ _ _ _ (@pa_cons _ _ _ _ _ (@pe_ix _ _ _ _ _ _ _ (ix_tupK K) (pv 2) pe_int (fun _ _=>rfl)) (@pa_cons _ _ _ _ _ (@pe_ix _ _ _ _ _ _ _ (ix_listK K) (pv 4) pe_int (fun _ _=>rfl)) pa_nil (by rfl)) (by rfl))) (@pa_cons _ _ _ _ _ (@pe_tup _ _ _ _ _ (@pa_cons _ _ _ _ _ (@pe_ix _ _ _ _ _ _ _ (ix_listK K) (pv 4) pe_int (fun _ _=>rfl)) (@pa_cons _ _ _ _ _ (@pe_ix _ _ _ _ _ _ _ (ix_listK K) (pv 4) pe_int (fun _ _=>rfl)) pa_nil (by rfl)) (by rfl))) (@pa_cons _ _ _ _ _ (@pe_tup _ _ _ _ _ (@pa_cons _ _ _ _ _ (@pe_ix _ _ _ _ _ _ _ (ix_tupK K) (pv 2) pe_int (fun _ _=>rfl)) (@pa_cons _ _ _ _ _ (@pe_ix _ _ _ _ _ _ _ (ix_listK K) (pv 4) pe_int (fun _ _=>rfl)) pa_nil (by rfl)) (by rfl))) pa_nil (by rfl)) (by rfl)) (by rfl)) (by rfl)) (by first | exact .inl rfl | exact .inr rfl | assumption))
    (@pss_cons _ _ _ _ _ (@ps_setB _ _ _ 5 _ _ _ _ _ _ nd rfl (.inl rfl) (@pe_op _ _ _ _ _ _ _ _ op_cat (pv 5) (@pe_lst _ _ _ _ (@pa_cons _ _ _ _ _ (pe_callTy (listK K) (by rfl) B.list boot_list (@pa_cons _ _ _ _ _ (pv 2) pa_nil (by rfl))) (@pa_cons _ _ _ _ _ (@pe_op _ _ _ _ _ _ _ _ (catXK K) (pv 2) (@pe_tup _ _ _ _ _ (@pa_cons _ _ _ _ _ (@pe_ix _ _ _ _ _ _ _ (ix_tupK K) (pv 2) pe_int (fun _ _=>rfl)) pa_nil (by rfl)))) (@pa_cons _ _ _ _ _ (pe_slice (slXK K) (pv 2) po_none (po_some pe_int)) (@pa_cons _ _ _ _ _ (@pe_ix _ _ _ _ _ _ _ (ix_listK K) (@pe_lst _ _ _ _ (@pa_cons _ _ _ _ _ pe_non (@pa_cons _ _ _ _ _ pe_bl (@pa_cons _ _ _ _ _ pe_int (@pa_cons _ _ _ _ _ (@pe_tup _ _ _ _ _ pa_nil) (@pa_cons _ _ _ _ _ pe_str (@pa_cons _ _ _ _ _ (@pe_tup _ _ _ _ _ (@pa_cons _ _ _ _ _ (@pe_tup _ _ _ _ _ pa_nil) (@pa_cons _ _ _ _ _ (@pe_tup _ _ _ _ _ pa_nil) pa_nil (by rfl)) (by rfl))) (@pa_cons _ _ _ _ _ (pe_disp (pps_cons pe_int pe_int pps_nil) rfl rfl (by simp) (by decide)) pa_nil (by rfl)) (by rfl)) (by rfl)) (by rfl)) (by rfl)) (by rfl)) (by rfl))) (@pe_op _ _ _ _ _ _ _ _ op_mod (pv 3) pe_int) (fun _ _=>rfl)) (@pa_cons _ _ _ _ _ (@pe_ix _ _ _ _ _ _ _ (ix_tupK K) (pv 2) pe_int (fun _ _=>rfl)) pa_nil (by rfl)) (by rfl)) (by rfl)) (by rfl)) (by rfl)))) (by first | exact .inl rfl | exact .inr rfl | assumption))
    (@pss_one _ _ _ (ps_ret (@pe_ix _ _ _ _ _ _ _ (ix_listK K) (pv 5) (pv 3) (fun _ _=>rfl)))))))),?_⟩
  simp only[L2.start,st0,List.map_cons,List.map_nil,List.length_cons,List.length_nil,List.replicate,List.cons_append,List.nil_append,Nat.reduceAdd,Nat.reduceSub];have h3:=hok.n3;refine seq_rest (fun σ Hc=>∃ k:Int,σ=[some (.ref d),some (.ref w0),some (.ref pp),some (.int k),none,none]∧Kp d H Hc∧DkAt Hc d∧0≤k∧k<9) (fun R hRR=>?_) ?_
  ·walk_at "rd";exact next_use dk fun z H1 k1 d1 _=>⟨z,rfl,by decide,hRR _ _ ⟨_,rfl,k1,d1,Int.emod_nonneg z (by decide),Int.emod_lt_of_pos z (by decide)⟩⟩
  rintro σ H1 ⟨k,rfl,k1,d1,k0,k9⟩;have hd1:=hd.kp k1 d1;have t1:=k1.tp dk;refine seq_rest (fun σ Hc=>∃ (lp:Addr) (u0 u1:V),σ=[some (.ref d),some (.ref w0),some (.ref pp),some (.int k),some (.ref lp),none]∧Kp d H Hc∧DkAt Hc d∧Hc lp=some (.lst [u0,u1])∧Ta (hid Av0 Hc) 4 230 u0∧Ta (hid Av0 Hc) 4 230 u1) (fun R hRR=>?_) ?_
  ·walk_at "rd";refine⟨⟨_,SqT.of (t1 _ _ hpp)⟩,fun lp nlp=>?_⟩;have ld:lp≠d:=d1.ne nlp;have su:=(Same.refl H1).upd (o:=.lst []) nlp;refine lc_tup (K:=K) (xs:=[V.ref pa,V.ref pb]) (inv_b67 H1 Av0 d w0 lp) ⟨none,[],rfl,su.kp,d1.same su,av_or7 (hd1.same su) upd_same,upd_same,rfl,fun v hv=>(by cases hv)⟩ ?_ ?_ ?_
   ·rintro i τ Hc _ ⟨_,_,rfl,kc,_⟩;exact SqT.of (kc.tp d1 _ _ (t1 _ _ hpp))
   ·rintro i v τ Hc hv ⟨c,vs,rfl,kc,dc,ac,ec,hvl,hvs⟩;have tc:=t1.trans (kc.tp d1);have hil:=(List.getElem?_eq_some_iff.mp hv).1;have hil:i<2:=hil;obtain⟨p,T,rfl,hp,hT⟩:∃ p T,v=.ref p∧TsAt Hc p T∧IsTree n ts T:=by
     have hv:=List.mem_of_getElem? hv;simp only[List.mem_cons,List.not_mem_nil,or_false] at hv;rcases hv with rfl | rfl
     ·exact⟨pa,_,rfl,ha.tp tc,hTa⟩
     ·exact⟨pb,_,rfl,hb.tp tc,hTb⟩
    walk_at "rd";refine⟨fun a=>Av0 a∨a=lp,d,w0,n,ts,p,T,rfl,dc,ac,.inl hA,hw.tp tc,hok,hn12,htl,hp,hT,fun u Hd kd dd hu=>?_⟩;have ecd:=kd _ _ ld ec;have ad:=ac.kp kd dd;refine⟨_,ecd,sizeBig (by omega),_,vs++[u],rfl,(kc.trans kd).new nlp,dd.new ld,ad.upd,upd_same,by rw[List.length_append,hvl];rfl,fun x hx=>?_⟩;rcases List.mem_append.mp hx with hx | hx
    ·exact ((hvs x hx).same (kd.hid (.inl hA))).same (hid_upd (.inr rfl))
    ·rw[List.mem_singleton.mp hx];exact hu.same (hid_upd (.inr rfl))
   ·rintro τ Hc ⟨c,vs,rfl,kc,dc,ac,ec,hvl,hvs⟩;have hvl:vs.length=2:=hvl
    match vs,hvl with
    | [u0,u1],_=>exact hRR _ _ ⟨lp,u0,u1,rfl,k1.trans kc,dc,ec,(hvs u0 (by simp)).same (hid_less (Same.refl Hc)),(hvs u1 (by simp)).same (hid_less (Same.refl Hc))⟩
  clear k1 d1 hd1 t1;rintro σ H1 ⟨lp,u0,u1,rfl,k1,d1,e1,hu0,hu1⟩;have hd1:=hd.kp k1 d1;have t1:=k1.tp dk;have hpp1:=t1 _ _ hpp;have ha1:=ha.tp t1;have hb1:=hb.tp t1;refine seq_rest (fun σ Hc=>∃ (lo:Addr) (xs:List V),σ=[some (.ref d),some (.ref w0),some (.ref pp),some (.int k),some (.ref lp),some (.ref lo)]∧Same H1 Hc∧Hc lo=some (.lst xs)∧xs.length=4∧∀ x∈xs,Ta (hid Av0 Hc) 6 500 x) (fun R hRR=>?_) ?_
  ·walk_at "rd";refine⟨_,SqL.of e1,_,rfl,_,SqT.of hpp1,_,rfl,by decide,fun p1 n1=>fresh_of n1 fun G1 g1 f1=>⟨_,SqT.of (g1 _ _ hpp1),_,rfl,_,SqL.of (g1 _ _ e1),_,rfl,by decide,fun p2 n2=>fresh_of n2 fun G2 g2 f2=>?_⟩⟩;have s2:=g1.trans g2;refine⟨_,SqL.of (s2 _ _ e1),_,rfl,_,SqL.of (s2 _ _ e1),_,rfl,by decide,fun p3 n3=>fresh_of n3 fun G3 g3 f3=>?_⟩;have s3:=s2.trans g3;refine⟨_,SqT.of (s3 _ _ hpp1),_,rfl,_,SqL.of (s3 _ _ e1),_,rfl,by decide,fun p4 n4=>fresh_of n4 fun G4 g4 f4=>⟨by decide,fun p5 n5=>fresh_of n5 fun G5 g5 f5=>?_⟩⟩;have s05:=s3.trans (g4.trans g5);have hd5:=hd1.same s05;have v0:=hu0.same s05.hid;have v1:=hu1.same s05.hid;have ga:=(TsAt.ta (ha1.tp s05.tp) hTa hok hn12 hd5).mono (show 2≤4 by decide) (show 72≤230 by decide);have gb:=(TsAt.ta (hb1.tp s05.tp) hTb hok hn12 hd5).mono (show 2≤4 by decide) (show 72≤230 by decide);refine hRR _ _ ⟨p5,_,rfl,s05,f5,rfl,fun x hx=>?_⟩;simp only[List.mem_cons,List.not_mem_nil,or_false] at hx;rcases hx with rfl | rfl | rfl | rfl
   ·exact (ta_pair (at_new7 hd1 n1 ((g2.trans (g3.trans (g4.trans g5))) _ _ f1)) v0 gb).mono (by decide) (by decide)
   ·exact (ta_pair (at_new7 (hd1.same g1) n2 ((g3.trans (g4.trans g5)) _ _ f2)) ga v1).mono (by decide) (by decide)
   ·exact (ta_pair (at_new7 (hd1.same s2) n3 ((g4.trans g5) _ _ f3)) v0 v1).mono (by decide) (by decide)
   ·exact (ta_pair (at_new7 (hd1.same s3) n4 (g5 _ _ f4)) ga v1).mono (by decide) (by decide)
  rintro σ H2 ⟨lo,xs,rfl,s2,e2,hxl,hxs⟩;refine seq_rest (fun σ Hc=>∃ (lo:Addr) (xs:List V),σ=[some (.ref d),some (.ref w0),some (.ref pp),some (.int k),some (.ref lp),some (.ref lo)]∧Same H1 Hc∧Hc lo=some (.lst xs)∧xs.length=9∧∀ x∈xs,Ta (hid Av0 Hc) 6 500 x) (fun R hRR=>?_) ?_
  ·walk_at "rd";have hpp2:=s2 _ _ hpp1;have hd2:=hd1.same s2;have ha2:=ha1.tp s2.tp;have hb2:=hb1.tp s2.tp;refine⟨_,.inr (SqT.of hpp2),fun p1 n1=>fresh_of n1 fun G1 g1 f1=>⟨_,SqT.of (g1 _ _ hpp2),_,rfl,by decide,fun p2 n2=>fresh_of n2 fun G2 g2 f2=>catX_use ((g1.trans g2) _ _ hpp2) f2 (by show 2+1≤10000;decide) fun p3 G3 g3 f3=>slX_use ((g1.trans (g2.trans g3)) _ _ hpp2) fun p4 G4 g4 f4=>?_⟩⟩;have s04:=g1.trans (g2.trans (g3.trans g4));have hd4:=hd2.same s04;refine⟨by decide,fun a1 m1=>fresh_of m1 fun J1 j1 h1=>⟨by decide,fun a2 m2=>fresh_of m2 fun J2 j2 h2=>⟨by decide,fun a3 m3=>fresh_of m3 fun J3 j3 h3=>⟨by decide,fun a4 m4=>fresh_of m4 fun J4 j4 h4=>fun a5 m5=>fresh_of m5 fun J5 j5 h5=>⟨h5,[(.inl 0,.int 1)],rfl,(show 1≤15 by decide),?_⟩⟩⟩⟩⟩;generalize hH:upd J5 a5 _=J6;have j6:Same J4 J6:=hH ▸ j5.upd m5;have h6:J6 a5=some (.dK [(.inl 0,.int 1)]):=by rw[← hH,upd_same];rfl
   clear hH h5 j5;have s4J:=j1.trans (j2.trans (j3.trans (j4.trans j6)));refine⟨by decide,fun a7 m7=>fresh_of m7 fun J7 j7 h7=>⟨by decide,_,SqL.of h7,?_⟩⟩;obtain⟨v,hv,ev⟩:=at_in (xs:=[V.non,V.bl true,V.int 7,V.ref a1,V.str (Str.ofString ""),V.ref a4,V.ref a5]) (k:=k % 7) (Int.emod_nonneg k (by decide)) (Int.emod_lt_of_pos k (by decide));have s07:=s04.trans (s4J.trans j7);refine⟨v,ev,_,SqT.of (s07 _ _ hpp2),_,rfl,by decide,fun a8 m8=>fresh_of m8 fun J8 j8 h8=>?_⟩;have s08:=s07.trans j8;refine⟨lo,a8,_,_,rfl,rfl,s08 _ _ e2,h8,by refine Nat.le_of_lt (sizeBig ?_);rw[hxl];show 4+5≤_;omega,fun a9 m9=>fresh_of m9 fun J9 j9 h9=>?_⟩;have s79:=j8.trans j9;have s69:=j7.trans s79;have s09:=s08.trans j9;have hd9:=hd2.same s09;have ga:=TsAt.ta (ha2.tp s09.tp) hTa hok hn12 hd9;have gb:=TsAt.ta (hb2.tp s09.tp) hTb hok hn12 hd9;have both:∀ x∈[V.ref pa,V.ref pb],Ta (hid Av0 J9) 2 72 x:=fun x hx=>by
    simp only[List.mem_cons,List.not_mem_nil,or_false] at hx;rcases hx with rfl | rfl
    ·exact ga
    ·exact gb
   have nil:∀ {p:Addr},hid Av0 J9 p=some (.tup [])→Ta (hid Av0 J9) 1 0 (.ref p):=fun e=>(Ta.tup (k:=0) (m:=0) e fun y hy=>nomatch hy).mono (by decide) (by decide)
   refine hRR _ _ ⟨a9,_,rfl,s2.trans s09,h9,by rw[List.length_append,hxl];rfl,fun x hx=>?_⟩;rcases List.mem_append.mp hx with hx | hx
   ·exact (hxs x hx).same s09.hid
   have s49:=s4J.trans s69;simp only[List.mem_cons,List.not_mem_nil,or_false] at hx;rcases hx with rfl | rfl | rfl | rfl | rfl
   ·exact (Ta.lst (at_new7 hd2 n1 ((g2.trans (g3.trans (g4.trans s49))) _ _ f1)) both).mono (by decide) (by show 2*73≤500;decide)
   ·refine (Ta.tup (k:=2) (m:=72) (at_tup7 hd9 ((g4.trans s49) _ _ f3)) fun y hy=>?_).mono (by decide) (by show 3*73≤500;decide);have hy:y=.ref pa∨y=.ref pb∨y=.ref pa:=by simpa using hy
    rcases hy with rfl | rfl | rfl
    ·exact ga
    ·exact gb
    ·exact ga
   ·obtain⟨cs,ec,hc1,hc2⟩:=cutX id [V.ref pa,V.ref pb] none (some 1);rw[List.map_id] at ec;have f4':=s49 _ _ f4;rw[ec,List.map_id] at f4';exact (Ta.tup (at_tup7 hd9 f4') fun y hy=>both y (hc1 y hy)).mono (by decide) (Nat.le_trans (Nat.mul_le_mul_right _ hc2) (by show 2*73≤500;decide))
   ·simp only[List.mem_cons,List.not_mem_nil,or_false] at hv;rcases hv with rfl | rfl | rfl | rfl | rfl | rfl | rfl
    ·exact (Tg.non (c:=0)).ta
    ·exact (Tg.bl (c:=0)).ta
    ·exact ta_int (sm_of (by decide))
    ·exact (nil (at_new7 hd4 m1 ((j2.trans (j3.trans (j4.trans (j6.trans s69)))) _ _ h1))).mono (by decide) (by decide)
    ·exact (Tg.str (c:=0) (by decide +kernel) (by decide +kernel)).ta
    ·exact (ta_pair (at_new7 (hd4.same (j1.trans (j2.trans j3))) m4 ((j6.trans s69) _ _ h4)) (nil (at_new7 (hd4.same j1) m2 ((j3.trans (j4.trans (j6.trans s69))) _ _ h2))) (nil (at_new7 (hd4.same (j1.trans j2)) m3 ((j4.trans (j6.trans s69)) _ _ h3)))).mono (by decide) (by decide)
    ·exact (Tg.dict1 (k:=0) (m:=0) (at_new7 (hd4.same (j1.trans (j2.trans (j3.trans j4)))) m5 (s69 _ _ h6)) (sm_of (by decide)) (sm_of (by decide))).ta.mono (by decide) (by decide)
   ·exact ga.mono (by decide) (by decide)
  rintro σ H3 ⟨lo',xs',rfl,s3,e3,hxl',hxs'⟩;walk_at "rd";obtain⟨v,hv,ev⟩:=at_in (xs:=xs') k0 (by rw[hxl'];exact k9);exact⟨_,SqL.of e3,v,ev,q v H3 (k1.trans s3.kp) (d1.same s3) (hxs' v hv)⟩
def sp_told67 (K:PySem.W.Frag):Sp:=fun vs H Q _=>∃ (A:Addr→Prop) (w:Addr) (n:Int) (ts:List (Int×Int)) (v:V),vs=[.ref w,v]∧Av A H∧WebAt H w n ts∧IsWeb n ts∧Ta (hid A H) 6 500 v∧∀ H',Same H H'→Q (.bl true) H'
theorem ta_twf {A:Addr→Prop}{H:Hp}{v:V}(hd:Av A H)(h:Ta (hid A H) 6 500 v):TwF H v:=fun p x y e e2=>by
 subst e;obtain⟨_,hi⟩:=h.tups (at_tup7 hd e2);have hx:=hi x (by simp);have hy:=hi y (by simp);refine⟨⟨(hx.same hid_in).pld,(hy.same hid_in).pld⟩,fun a xs e e3=>?_,fun a xs e e3=>?_⟩
 ·subst e;exact Nat.le_trans (hx.tups (at_tup7 hd e3)).1 (by decide)
 ·subst e;exact Nat.le_trans (hy.tups (at_tup7 hd e3)).1 (by decide)
theorem web_ta {A:Addr→Prop}{H:Hp}{w:Addr}{n:Int}{ts:List (Int×Int)}(hd:Av A H)(hw:WebAt H w n ts)(hok:IsWeb n ts):Ta (hid A H) 3 602 (.ref w):=by
 obtain⟨q,e,ps,e2,hp⟩:=hw;have:=hp.len;have:=hok.len;have h3:=hok.n3;have h60:=hok.n60;exact ta_pair (m1:=0) (m2:=600) (at_tup7 hd e) (ta_int (sm_small (by omega) (by omega))) ((Ta.tup (at_tup7 hd e2) (TiE.ta (hp.tiE hok.rng h60) hd)).mono (Nat.le_refl _) (by rw[List.length_map];show ps.length*3≤600;omega))
theorem twx_back {H H':Hp}{n:Int}{ts:List (Int×Int)}{v:V}(s:Same H H')(hd:PlD H 3 v):IsTwX H' n ts v↔IsTwX H n ts v:=by
 constructor
 ·rintro⟨p,pa,pb,Ta,Tb,rfl,e,⟨ps,e1,h1⟩,⟨qs,e2,h2⟩,h⟩;obtain⟨T,hp⟩:=hd.pl;have e':=hp.back s e;have da:=hd.2 p _ rfl e' (.ref pa) (by simp);have db:=hd.2 p _ rfl e' (.ref pb) (by simp);have bk:∀ {pa:Addr} {ps:List (Addr×List Int)} {T:List (Int×Int)},PlD H 2 (.ref pa)→H' pa=some (.tup (ps.map fun x=>V.ref x.1))→PsAt H' ps T→TsAt H pa T:=fun {pa ps T} d e1 h1=>by
   obtain⟨T1,p1⟩:=d.pl;have e1':=p1.back s e1;refine⟨ps,e1',⟨fun x hx=>?_,h1.eq⟩⟩;obtain⟨T2,p2⟩:=(d.2 pa _ rfl e1' (.ref x.1) (List.mem_map_of_mem (f:=fun x=>V.ref x.1) hx)).pl;exact p2.back s (h1.to x hx)
  exact⟨p,pa,pb,Ta,Tb,rfl,e',bk da e1 h1,bk db e2 h2,h⟩
 ·rintro⟨p,pa,pb,Ta,Tb,rfl,e,h1,h2,h⟩;exact⟨p,pa,pb,Ta,Tb,rfl,s _ _ e,h1.tp s.tp,h2.tp s.tp,h⟩
theorem sc_told67:FnScope ["_law_web_here","_law_thing","_law_due","_law_before"] ["_law_web_here","_law_thing"] (defScope (top 39)):=by walk_at "s"
theorem ok_told67 (F:Fun K "_law_told" "_law_told" (top 39) f fd)(B:Bt mg)(D1:Df K mg "_law_is_two" st1 f1 fd1 ["_law_web_here","_law_thing"])(G1:FnOk P w K mg base CX0 4 f1 fd1 ["_law_web_here","_law_thing"] (sp_listwoX K))(D2:Df K mg "_law_is_true" st2 f2 fd2 ["_law_found","_law_due"])(G2:FnOk P w K mg base CX0 1 f2 fd2 ["_law_found","_law_due"] sp_istrue)(D3:Df K mg "right_two" st3 f3 fd3 ["web","thing"])(G3:FnOk P w K mg base CX0 6 f3 fd3 ["web","thing"] (sp_rtwoX K))(C4:Bt4 mg)(X9:(K.lookup sysModules).isSome=true):FnOk P w K mg base CX0 7 f fd ["_law_web_here","_law_thing"] (sp_told67 K):=by
 refine F.ok sc_told67 (fun vs H Q E h=>?_) (fun cdv A outer s H vs Q E hr h=>?_)
 ·walk_at "h"
 ·obtain⟨Av0,w0,n,ts,v,rfl,hd,hw,hok,hv,q⟩:=h;have nd:=sc_told67.nd;have hu:=hu_of hr
  refine⟨_,(@pss_cons _ _ _ _ _ (ps_set (i:=2) nd rfl (.inl rfl) (pe_own G1 D1 hr.m (@pa_cons _ _ _ _ _ (pv 0) (@pa_cons _ _ _ _ _ (pv 1) pa_nil (by rfl)) (by rfl))))
    (@pss_cons _ _ _ _ _ (ps_set (i:=3) nd rfl (.inl rfl) (pe_callB (reprAK X9 hr.gd hr.u200) (by rfl) C4.repr boot_repr (@pa_cons _ _ _ _ _ (@pe_tup _ _ _ _ _ (@pa_cons _ _ _ _ _ (pv 0) (@pa_cons _ _ _ _ _ (pv 1) pa_nil (by rfl)) (by rfl))) pa_nil (by rfl))))
    (@pss_one _ _ _ (ps_ret (pe_and (pe_own G2 D2 hr.m (@pa_cons _ _ _ _ _ (pe_own G3 D3 hr.m (@pa_cons _ _ _ _ _ (pv 0) (@pa_cons _ _ _ _ _ (pv 1) pa_nil (by rfl)) (by rfl))) (@pa_cons _ _ _ _ _ (pv 2) pa_nil (by rfl)) (by rfl))) (pe_one (pe_cmpR op_eq (pe_callB (reprAK X9 hr.gd hr.u200) (by rfl) C4.repr boot_repr (@pa_cons _ _ _ _ _ (@pe_tup _ _ _ _ _ (@pa_cons _ _ _ _ _ (pv 0) (@pa_cons _ _ _ _ _ (pv 1) pa_nil (by rfl)) (by rfl))) pa_nil (by rfl))) (pv 3) (nomark _)))))))),?_⟩
  simp only[L2.start,st0,List.map_cons,List.map_nil,List.length_cons,List.length_nil,List.replicate,List.cons_append,List.nil_append,Nat.reduceAdd,Nat.reduceSub];obtain⟨T,hP⟩:=((hv.same hid_in).pld (n:=3)).pl;have hF:=ta_twf hd hv;walk_at "rd";refine⟨w0,n,ts,v,T,rfl,hw,hok,hP,hF,fun b H1 s1 hb=>⟨by decide,fun p1 n1=>fresh_of n1 fun H2 s2 e2=>?_⟩⟩;have s12:=s1.trans s2;have hv2:=hv.same s12.hid;have hd2:=hd.same s12;obtain⟨dv,a1,a2⟩:=id (hv2.same hid_in);obtain⟨dw,b1,b2⟩:=id ((web_ta hd2 (hw.tp s12.tp) hok).same hid_in);have nn:NA 150 100000 (.tuple [dw,dv]):=(NA.tup (NAs.cons (b2.mono (show 3≤6 by decide) (Nat.le_refl _)) (NAs.cons a2 (NAs.nil (m:=0))))).mono (by decide) (by decide);refine⟨.ref p1,.tuple [dw,dv],rfl,.tup e2 (.cons b1 (.cons a1 .nil)),nn,?_⟩;obtain⟨T2,hP2⟩:=((hv2.same hid_in).pld (n:=3)).pl;refine⟨w0,n,ts,v,T2,rfl,hw.tp s12.tp,hok,hP2,ta_twf hd2 hv2,fun b2' H3 s3 hb3=>⟨b2',b,rfl,?_⟩⟩;have e:b2'=b:=by rw[Bool.eq_iff_iff,hb3,hb,twx_back s12 (hv.same hid_in).pld]
  subst e;refine⟨_,rfl,?_⟩;rw[if_pos (by simp)];refine⟨by decide,fun p2 n2=>fresh_of n2 fun H4 s4 e4=>?_⟩;have s24:=s3.trans s4;refine⟨.ref p2,.tuple [dw,dv],rfl,.tup e4 (.cons (b1.same s24) (.cons (a1.same s24) .nil)),nn,rfl,?_⟩;rw[decide_eq_true rfl];exact q H4 (s12.trans s24)
def inv_pr (Hb:Hp)(d pl:Addr)(fr:List (Option V))(n:Int)(ts:List (Int×Int))(c0 c1:List Int)(i:Nat)(τ:St)(Hc:Hp):Prop:=∃ (c:Option V) (ls:List Addr),τ=c::fr∧Kp d Hb Hc∧DkAt Hc d∧Hc pl=some (.lst (ls.map V.ref))∧ls.length=i∧∀ (j:Nat) a,ls[j]?=some a→∃ T,TsAt Hc a T∧IsTree n ts T∧∀ x∈busyOf n T,(j=0→x∈c0)∧(1≤j→x∈c1)
structure Sa (H:Hp)(d w0:Addr)(n:Int)(ts:List (Int×Int))(po p0 p1:Addr)(c0 c1:List Int):Prop where
 dk:DkAt H d
 hw:WebAt H w0 n ts
 eo:H po=some (.lst [.ref p0,.ref p1])
 e0:H p0=some (.lst (c0.map V.int))
 e1:H p1=some (.lst (c1.map V.int))
 od:po≠d
 d0:p0≠d
 d1:p1≠d
 P:Ptd n ts c0 c1
theorem Sa.same {H H':Hp}{d w0:Addr}{n:Int}{ts:List (Int×Int)}{po p0 p1:Addr}{c0 c1:List Int}(h:Sa H d w0 n ts po p0 p1 c0 c1)(s:Same H H'):Sa H' d w0 n ts po p0 p1 c0 c1:=⟨h.dk.same s,h.hw.tp s.tp,s _ _ h.eo,s _ _ h.e0,s _ _ h.e1,h.od,h.d0,h.d1,h.P⟩
theorem len2 {α:Type}:∀ {l:List α},l.length=2→∃ x y,l=[x,y]
 | [x,y],_=>⟨x,y,rfl⟩
theorem pr_add {Hb Hd He:Hp}{d pl:Addr}{fr:List (Option V)}{n:Int}{ts:List (Int×Int)}{c0 c1:List Int}{j:Nat}{τ:St}{pt:Addr}(h:inv_pr Hb d pl fr n ts c0 c1 j τ Hd)(hj:j<2)(npl:Hb pl=none)(pld:pl≠d)(ke:Kp d Hd He)(hT:∃ T,TsAt He pt T∧IsTree n ts T∧∀ x∈busyOf n T,(j=0→x∈c0)∧(1≤j→x∈c1))(de:DkAt He d) :
  ∃ ys,He pl=some (.lst ys)∧ys.length<sizeLine∧∀ c',inv_pr Hb d pl fr n ts c0 c1 (j+1) (c'::fr) (upd He pl (.lst (ys++[V.ref pt]))):=by
 obtain⟨c,ls,rfl,kd,dd,hls,hll,hlT⟩:=h;have hle:=ke _ _ pld hls;have tE:=ke.tp dd;refine⟨_,hle,by rw[List.length_map,hll];exact sizeBig (by omega),fun c'=>⟨c',ls++[pt],rfl,(kd.trans ke).new npl,de.new pld,by rw[upd_same,List.map_append];rfl,by rw[List.length_append,hll];rfl,fun j' a' ha=>?_⟩⟩;rcases Nat.lt_or_ge j' ls.length with h | h
 ·rw[List.getElem?_append_left h] at ha;obtain⟨T,h1,h2⟩:=hlT j' a' ha;exact⟨T,(h1.tp tE).tp (Tp.lst hle),h2⟩
 ·rw[List.getElem?_append_right h] at ha;have h0:j'-ls.length=0:=by
   have:=(List.getElem?_eq_some_iff.mp ha).1;rw[List.length_singleton] at this;omega
  rw[h0] at ha;cases Option.some.inj ha;obtain⟨T,h1,h2⟩:=hT;rw[show j'=j by omega];exact⟨T,h1.tp (Tp.lst hle),h2⟩
theorem pr_ask {K:PySem.W.Frag}{G Hd:Hp}{d np pl w0 po p0 p1:Addr}{as:List Addr}{fr:List (Option V)}{n:Int}{ts:List (Int×Int)}{c0 c1:List Int}{j:Nat}{τ:St}{v:V}{R:VK}(S:Sa G d w0 n ts po p0 p1 c0 c1)(hv:[V.ref p0,V.ref p1][j]?=some v)(h:inv_pr G d pl fr n ts c0 c1 j τ Hd)(hR:RowsAt Hd np as (rowsOf n ts))(dnp:d≠np)(das:d∉as)
  (q:∀ pt He,Kp d Hd He→(∃ T,TsAt He pt T∧IsTree n ts T∧∀ x∈busyOf n T,(j=0→x∈c0)∧(1≤j→x∈c1))→DkAt He d→R (.ref pt) He):sp_within K [.ref d,.ref np,v] Hd R E0:=by
 obtain⟨c,ls,rfl,kd,dd,hls,hll,hlT⟩:=h;have hj:j<2:=(List.getElem?_eq_some_iff.mp hv).1;rcases (by omega:j=0∨j=1) with rfl | rfl
 ·cases Option.some.inj hv;exact⟨d,np,as,n,ts,p0,c0,rfl,dd,hR,dnp,das,S.P.web,kd _ _ S.d0 S.e0,S.d0.symm,S.P.n0,S.P.r0,S.P.b0,fun pt T He ke de npt ht hT hb=>q pt He ke ⟨T,ht,hT,fun x hx=>⟨fun _=>hb x hx,fun h=>absurd h (by decide)⟩⟩ de⟩
 ·cases Option.some.inj hv;exact⟨d,np,as,n,ts,p1,c1,rfl,dd,hR,dnp,das,S.P.web,kd _ _ S.d1 S.e1,S.d1.symm,S.P.n1,S.P.r1,S.P.b1,fun pt T He ke de npt ht hT hb=>q pt He ke ⟨T,ht,hT,fun x hx=>⟨fun h=>absurd h (by decide),fun _=>hb x hx⟩⟩ de⟩
def inv_l67 (a d:Addr)(i:Nat)(σ:St)(Hc:Hp):Prop:=∃ v2 v3 v4 v5 v6 v7 v8:Option V,σ=[some (.ref a),some (.ref d),v2,v3,v4,v5,v6,v7,v8]∧DkAt Hc d
def inv_s67 (Hb:Hp)(d:Addr)(σ1:List (Option V))(i:Nat)(σ:St)(Hc:Hp):Prop:=∃ v7 v8:Option V,σ=σ1++[v7,v8]∧Kp d Hb Hc∧DkAt Hc d
theorem sc_law67:FnScope ["_law_script","_law_deck_here","_law_turn_here","_law_web_here","_law_own","_law_near_here","_law_pair","_law_step","_law_thing"] ["_law_script"] (defScope (top 40)):=by walk_at "s"
theorem ok_law67 (F:Fun K "law" "law" (top 40) f fd)(B:Bt mg)(D1:Df K mg "_law_deck" st1 f1 fd1 ["_law_script","_law_many"])(G1:FnOk P w K mg base CX0 2 f1 fd1 ["_law_script","_law_many"] (sp_deck K))(D2:Df K mg "_law_parted_web" st2 f2 fd2 ["_law_deck_here","_law_least","_law_most"])(G2:FnOk P w K mg base CX0 2 f2 fd2 ["_law_deck_here","_law_least","_law_most"] (sp_parted K))(D3:Df K mg "_law_near" st3 f3 fd3 ["_law_web_here"])(G3:FnOk P w K mg base CX0 1 f3 fd3 ["_law_web_here"] sp_near)(D4:Df K mg "_law_tree_within" st4 f4 fd4 ["_law_deck_here","_law_near_here","_law_busy_here"])(G4:FnOk P w K mg base CX0 2 f4 fd4 ["_law_deck_here","_law_near_here","_law_busy_here"] (sp_within K))(D5:Df K mg "_law_bent" st5 f5 fd5 ["_law_deck_here","_law_web_here","_law_pair"])(G5:FnOk P w K mg base CX0 3 f5 fd5 ["_law_deck_here","_law_web_here","_law_pair"] (sp_bent67 K))(D6:Df K mg "_law_told" st6 f6 fd6 ["_law_web_here","_law_thing"])(G6:FnOk P w K mg base CX0 7 f6 fd6 ["_law_web_here","_law_thing"] (sp_told67 K)):FnOk P w K mg base CX0 8 f fd ["_law_script"] (sp_law K):=by
 refine F.ok sc_law67 (fun vs H Q E h=>?_) (fun cdv A outer s H vs Q E hr h=>?_)
 ·walk_at "h"
 ·obtain⟨a,ns,rfl,hS,hl,q⟩:=h;have nd:=sc_law67.nd;have hu:=hu_of hr
  refine⟨_,(@pss_cons _ _ _ _ _ (ps_set (i:=1) nd rfl (.inr rfl) (pe_own G1 D1 hr.m (@pa_cons _ _ _ _ _ (pv 0) (@pa_cons _ _ _ _ _ pe_int pa_nil (by rfl)) (by rfl))))
    (@pss_cons _ _ _ _ _ (ps_for PassesOwn.never rfl (pi_range1 (by rfl) B.range (@pa_cons _ _ _ _ _ pe_int pa_nil (by rfl))) (pg_name (i:=2) nd rfl (.inl rfl))
     (@pss_cons _ _ _ _ _ (@ps_asg _ _ _ _ _ _ (pe_own G2 D2 hr.m (@pa_cons _ _ _ _ _ (pv 1) (@pa_cons _ _ _ _ _ pe_int (@pa_cons _ _ _ _ _ (@pe_ix _ _ _ _ _ _ _ (ix_listK K) (@pe_lst _ _ _ _ (@pa_cons _ _ _ _ _ pe_int (@pa_cons _ _ _ _ _ pe_int (@pa_cons _ _ _ _ _ pe_int pa_nil (by rfl)) (by rfl)) (by rfl))) (pv 2) (fun _ _=>rfl)) pa_nil (by rfl)) (by rfl)) (by rfl))) (pg_tupK K (n:=2) rfl (pgs_cons (pg_name (i:=3) nd rfl (.inl rfl)) (pgs_cons (pg_name (i:=4) nd rfl (.inl rfl)) pgs_nil))) (by rfl) (by rfl) (by rfl))
     (@pss_cons _ _ _ _ _ (ps_set (i:=5) nd rfl (.inr rfl) (pe_own G3 D3 hr.m (@pa_cons _ _ _ _ _ (pv 3) pa_nil (by rfl))))
     (@pss_cons _ _ _ _ _ (ps_set (i:=6) nd rfl (.inl rfl) (pe_callTy (tupleK K) (by rfl) B.tuple boot_tuple (@pa_cons _ _ _ _ _ (pe_lcomp (own:=["_law_busy_here"]) (fr:=[("_law_deck_here",1),("_law_near_here",5)]) rfl (by walk_at "w") (frOk_cons rfl rfl (frOk_cons rfl rfl frOk_nil)) (pi_listK K (pv 4)) ⟨fun _ _ _ _=>⟨(pg_name (i:=0) (show List.Nodup (["_law_busy_here","_law_deck_here","_law_near_here"]:List Str) by decide +kernel) rfl (.inl rfl)),pts_nil,(pe_own G4 D4 hr.m (@pa_cons _ _ _ _ _ (pv 1) (@pa_cons _ _ _ _ _ (pv 2) (@pa_cons _ _ _ _ _ (pv 0) pa_nil (by rfl)) (by rfl)) (by rfl)))⟩⟩) pa_nil (by rfl))))
     (@pss_one _ _ _ (ps_for PassesOwn.never rfl (pi_range1 (by rfl) B.range (@pa_cons _ _ _ _ _ pe_int pa_nil (by rfl))) (pg_name (i:=7) nd rfl (.inl rfl))
      (@pss_cons _ _ _ _ _ (ps_set (i:=8) nd rfl (.inl rfl) (pe_own G5 D5 hr.m (@pa_cons _ _ _ _ _ (pv 1) (@pa_cons _ _ _ _ _ (pv 3) (@pa_cons _ _ _ _ _ (pv 6) pa_nil (by rfl)) (by rfl)) (by rfl))))
      (@pss_one _ _ _ (@ps_if _ _ _ _ _ _ _ _ (pt_not (pt_val (pe_own G6 D6 hr.m (@pa_cons _ _ _ _ _ (pv 3) (@pa_cons _ _ _ _ _ (pv 8) pa_nil (by rfl)) (by rfl)))))
       (@pss_one _ _ _ (ps_ret pe_bl))
       pss_nil)))))))))
    (@pss_one _ _ _ (ps_ret pe_bl)))),?_⟩
  simp only[L2.start,st0,List.map_cons,List.map_nil,List.length_cons,List.length_nil,List.replicate,List.cons_append,List.nil_append,Nat.reduceAdd,Nat.reduceSub];walk_at "rd";refine⟨a,900,ns,rfl,hS,hl,by decide,by decide,fun d ds H1 hdl s1 nd1 hd1=>?_⟩;have dk1:DkAt H1 d:=⟨ds,hd1,hdl⟩
  clear hS hl hd1 hdl s1 nd1;dsimp only;rw[tFor_eq];walk_at "rd";refine⟨by decide,by decide,for_range (lo:=0) (n:=3) (inv_l67 a d) ⟨_,_,_,_,_,_,_,rfl,dk1⟩ ?_ ?_⟩
  ·clear q;rintro i σ Hc hi ⟨v2,v3,v4,v5,v6,v7,v8,rfl,dc⟩;rw[gN_ap];simp only[List.set_cons_succ,List.set_cons_zero];refine seq_rest (fun σ H=>∃ w0 n ts po p0 p1 c0 c1,σ=[some (.ref a),some (.ref d),some (.int (0+(i:Int))),some (.ref w0),some (.ref po),v5,v6,v7,v8]∧Sa H d w0 n ts po p0 p1 c0 c1∧n≤12) (fun R hRR=>?_) ?_
   ·walk_at "rd";refine⟨by decide,fun l1 nl1=>fresh_of nl1 fun G1 t1 f1=>?_⟩;obtain⟨hi',e1,b2,b3⟩:∃ hi':Int,atI [V.int 5,V.int 8,V.int 12] (0+(i:Int))=some (.int hi')∧4≤hi'∧hi'≤12:=by
     rcases (by omega:i=0∨i=1∨i=2) with rfl | rfl | rfl
     ·exact⟨5,rfl,by decide,by decide⟩
     ·exact⟨8,rfl,by decide,by decide⟩
     ·exact⟨12,rfl,by decide,by decide⟩
    have dG1:=dc.same t1;refine⟨_,SqL.of f1,_,e1,d,4,hi',rfl,dG1,by decide,b2,by omega,fun px w0 n ts po p0 p1 c0 c1 G2 k2 d2 epx hw npo np0 np1 epo ep0 ep1 hP nhi=>?_⟩;exact⟨px,rfl,_,SqT.of epx,rfl,_,_,rfl,_,_,rfl,rfl,hRR _ _ ⟨w0,n,ts,po,p0,p1,c0,c1,rfl,⟨d2,hw,epo,ep0,ep1,dG1.ne npo,dG1.ne np0,dG1.ne np1,hP⟩,by omega⟩⟩
   clear dc;rintro σ G2 ⟨w0,n,ts,po,p0,p1,c0,c1,rfl,S,n12⟩;refine seq_rest (fun σ H=>∃ np as,σ=[some (.ref a),some (.ref d),some (.int (0+(i:Int))),some (.ref w0),some (.ref po),some (.ref np),v6,v7,v8]∧Sa H d w0 n ts po p0 p1 c0 c1∧RowsAt H np as (rowsOf n ts)∧d≠np∧d∉as) (fun R hRR=>?_) ?_
   ·walk_at "rd";have hok:=S.P.web;have h3:=hok.n3;have h60:=hok.n60;have hlt:=hok.len;exact⟨w0,n,ts,rfl,S.hw,by omega,by omega,by omega,hok.rng,hok.srt,fun np as G3 t3 nnp nas hR=>hRR _ _ ⟨np,as,rfl,S.same t3,hR,fun z=>S.dk.ne nnp z.symm,fun z=>S.dk.ne (nas d z) rfl⟩⟩
   clear S;rintro σ G3 ⟨np,as,rfl,S,hR,dnp,das⟩;refine seq_rest (fun σ H=>∃ pp ta tb T1 T2,σ=[some (.ref a),some (.ref d),some (.int (0+(i:Int))),some (.ref w0),some (.ref po),some (.ref np),some (.ref pp),v7,v8]∧DkAt H d∧WebAt H w0 n ts∧IsWeb n ts∧H pp=some (.tup [.ref ta,.ref tb])∧TsAt H ta T1∧IsTree n ts T1∧TsAt H tb T2∧IsTree n ts T2) (fun R hRR=>?_) ?_
   ·walk_at "rd";refine⟨⟨_,SqL.of S.eo⟩,fun pl npl=>?_⟩;have pld:pl≠d:=S.dk.ne npl;refine lc_list (K:=K) (xs:=[V.ref p0,V.ref p1]) (inv_pr G3 d pl [some (.ref d),some (.ref np)] n ts c0 c1) ⟨none,[],rfl,((Same.refl G3).upd npl).kp,S.dk.new pld,upd_same,rfl,fun j a h=>(by cases h)⟩ ?_ ?_ ?_
    ·rintro j τ Hd _ ⟨_,_,rfl,kd,_⟩;exact SqL.of (kd _ _ S.od S.eo)
    ·rintro j v τ Hd hv hI _;have hj:j<2:=(List.getElem?_eq_some_iff.mp hv).1;obtain⟨c,ls,rfl,kd,_⟩:=id hI;walk_at "rd";refine pr_ask S hv hI (hR.kp kd dnp das) dnp das fun pt He ke hT de=>?_
     obtain⟨ys,h1,h2,h3⟩:=pr_add hI hj npl pld ke hT de;exact⟨ys,h1,h2,h3 _⟩
    ·rintro τ G4 ⟨c,ls,rfl,k4,d4,els,hll,hlT⟩;obtain⟨ta,tb,rfl⟩:=len2 hll;obtain⟨T1,hta,hT1,_⟩:=hlT 0 ta rfl;obtain⟨T2,htb,hT2,_⟩:=hlT 1 tb rfl;exact⟨_,.inl ⟨SqL.of els,fun pp npp=>fresh_of npp fun G5 t5 e5=>hRR _ _ ⟨pp,ta,tb,T1,T2,rfl,d4.same t5,S.hw.tp ((k4.tp S.dk).trans t5.tp),S.P.web,e5,hta.tp t5.tp,hT1,htb.tp t5.tp,hT2⟩⟩⟩
   clear S hR dnp das;rintro σ G4 ⟨pp,ta,tb,T1,T2,rfl,dG,hw,hok,epp,ha,hT1,hb,hT2⟩;have h3:=hok.n3;have htl:0<ts.length:=by
    have:=hT1.len;obtain⟨t,ht⟩:=List.exists_mem_of_length_pos (show 0<T1.length by omega);exact List.length_pos_of_mem (hT1.sub t ht)
   rw[tFor_eq];walk_at "rd";refine⟨by decide,by decide,for_range (lo:=0) (n:=12) (inv_s67 G4 d [some (.ref a),some (.ref d),some (.int (0+(i:Int))),some (.ref w0),some (.ref po),some (.ref np),some (.ref pp)]) ⟨_,_,rfl,Kp.refl d G4,dG⟩ ?_ ?_⟩
   ·rintro j σ Hd hj ⟨c7,c8,rfl,kd,dd⟩;have td:=kd.tp dG;have avd:Av (fun x=>x=d) Hd:=fun x hx=>by
     obtain⟨ds,e,_⟩:=id dd;exact⟨_,by rw[show x=d from hx];exact e⟩
    walk_at "rd";refine⟨fun x=>x=d,d,w0,n,ts,pp,ta,T1,tb,T2,rfl,dd,avd,rfl,hw.tp td,hok,n12,htl,td _ _ epp,ha.tp td,hT1,hb.tp td,hT2,fun v He ke de hv=>?_⟩;have te:=td.trans (ke.tp dd);refine⟨fun x=>x=d,w0,n,ts,v,rfl,avd.kp ke de,hw.tp te,hok,hv,fun Hf sf=>⟨true,rfl,?_⟩⟩;rw[if_neg (by decide)];exact⟨_,_,rfl,kd.trans (ke.trans sf.kp),de.same sf⟩
   ·rintro σ Hd ⟨c7,c8,rfl,kd,dd⟩;exact⟨_,_,_,_,_,_,_,rfl,dd⟩
  ·rintro σ Hc ⟨v2,v3,v4,v5,v6,v7,v8,rfl,dc⟩;walk_at "rd";exact q Hc
end
end K67
end
section
namespace K67
open PySem L2
def vs (s:String)(t:Tok):Value:=.str (Str.ofString s) t
def vi (i:Int)(t:Tok):Value:=.int i t
def vr (a:Addr):Value:=.ref a
def vn:Value:=.none
def fcp:Tok→Value:=vs "/claim/cut.py"
def de (P:Params)(s:String)(t:Tok)(v:Value):DictEntry:=⟨PyData.keyHash P (Str.ofString s),.str (Str.ofString s) t,v⟩
def ot (a:Array Value)(l:Array (Option Value)):Obj:=⟨.type "tuple",none,.seq a,l⟩
def oc (a:Array Value)(l:Array (Option Value)):Obj:=⟨.type "code",none,.fields a,l⟩
def fo (n:String)(i:Nat)(g:Addr)(cl:List (Str×Addr))(a b c d:Value)(e:Option Addr)(f h:Value)(k:Addr):Obj:=⟨.type "function",none,.func ⟨Str.ofString n,Str.ofString n,defArgs (top i),.stmts (defBody (top i)),defScope (top i),g,cl,a,b,c,d,e,f,h,k⟩,#[]⟩
def heapK:Params→PySem.W.Frag:=fun P=>(nat_lit 1,Obj.mk (Value.type "dict") none (Data.dict #[de P "builtins" 162 (vr 4),de P "__main__" 163 (vr 5)] 2) #[])::(nat_lit 2,Obj.mk vn none (Data.dict #[]) #[])::(nat_lit 3,Obj.mk (Value.type "dict") none (Data.dict #[de P "__name__" 165 (vs "law_manyleaves_k67_bent_trees_apart" 312),de P "__doc__" 166 vn,de P "__package__" 167 vn,de P "__loader__" 168 (Value.builtin "__main__.__loader__#opaque"),de P "__spec__" 169 vn,de P "__annotations__" 170 (vr 6),de P "__builtins__" 171 (vr 4),de P "__file__" 173 (fcp 172),de P "__cached__" 174 vn,de P "is_int" 195 (vr 21),de P "is_between" 204 (vr 28),de P "is_pair" 213 (vr 35),de P "is_tie" 223 (vr 42),de P "is_rising" 231 (vr 49),de P "is_tie_row" 240 (vr 56),de P "neighbour_rows" 246 (vr 61),de P "piece_from" 259 (vr 68),de P "pieces" 265 (vr 73),de P "in_one_piece" 272 (vr 80),de P "have_common" 280 (vr 85),de P "right_tree" 288 (vr 90),de P "tree_rows" 295 (vr 97),de P "busy_of" 301 (vr 102),de P "right_two" 311 (vr 109),de P "_law_mixed" 322 (vr 116),de P "_law_deck" 328 (vr 121),de P "_law_next" 335 (vr 128),de P "_law_turn" 341 (vr 133),de P "_law_web" 347 (vr 138),de P "_law_near" 353 (vr 143),de P "_law_reach" 365 (vr 150),de P "_law_hang" 373 (vr 157),de P "_law_is_int" 382 (vr 164),de P "_law_is_tree" 388 (vr 169),de P "_law_tree" 394 (vr 174),de P "_law_parted_web" 400 (vr 179),de P "_law_tree_within" 406 (vr 184),de P "_law_busy" 412 (vr 189),de P "_law_is_two" 418 (vr 194),de P "_law_is_true" 426 (vr 201),de P "_law_bent_tree" 442 (vr 208),de P "_law_bent" 448 (vr 213),de P "_law_told" 458 (vr 220),de P "law" 464 (vr 225)] 44) #[])::(nat_lit 15,ot (#[]) #[])::(nat_lit 17,ot (#[vs "thing" 192]) #[])::(nat_lit 18,ot (#[]) #[])::(nat_lit 20,oc (#[vs "is_int" 189,vs "is_int" 190,fcp 191,vi 2 0,vi 1 0,vi 0 0,vi 0 0,vi 3 0,vr 15,Value.bool true,vi 181 0,vr 16,vn,vr 17,vr 18,vr 19,vi 193 0,vi 2 0,fcp 194]) #[])::(nat_lit 21,fo "is_int" 1 3 [] vn vn vn (vs "manyleaves.ints" 187) none (vr 20) vn 0)::(nat_lit 22,ot (#[]) #[])::(nat_lit 24,ot (#[vs "thing" 199,vs "least" 200,vs "most" 201]) #[])::(nat_lit 25,ot (#[]) #[])::(nat_lit 27,oc (#[vs "is_between" 196,vs "is_between" 197,fcp 198,vi 4 0,vi 3 0,vi 0 0,vi 0 0,vi 3 0,vr 22,Value.bool true,vi 181 0,vr 23,vn,vr 24,vr 25,vr 26,vi 202 0,vi 4 0,fcp 203]) #[])::(nat_lit 28,fo "is_between" 2 3 [] vn vn vn (vs "manyleaves.ints" 187) none (vr 27) vn 0)::(nat_lit 29,ot (#[]) #[])::(nat_lit 31,ot (#[vs "thing" 210]) #[])::(nat_lit 32,ot (#[]) #[])::(nat_lit 34,oc (#[vs "is_pair" 207,vs "is_pair" 208,fcp 209,vi 7 0,vi 1 0,vi 0 0,vi 0 0,vi 3 0,vr 29,Value.bool true,vi 181 0,vr 30,vn,vr 31,vr 32,vr 33,vi 211 0,vi 7 0,fcp 212]) #[])::(nat_lit 35,fo "is_pair" 4 3 [] vn vn vn (vs "manyleaves.webs" 205) none (vr 34) vn 0)::(nat_lit 36,ot (#[]) #[])::(nat_lit 38,ot (#[vs "thing" 217,vs "places" 218,vs "a" 219,vs "b" 220]) #[])::(nat_lit 39,ot (#[]) #[])::(nat_lit 41,oc (#[vs "is_tie" 214,vs "is_tie" 215,fcp 216,vi 9 0,vi 2 0,vi 0 0,vi 0 0,vi 3 0,vr 36,Value.bool true,vi 181 0,vr 37,vn,vr 38,vr 39,vr 40,vi 221 0,vi 9 0,fcp 222]) #[])::(nat_lit 42,fo "is_tie" 5 3 [] vn vn vn (vs "manyleaves.webs" 205) none (vr 41) vn 0)::(nat_lit 43,ot (#[]) #[])::(nat_lit 45,ot (#[vs "items" 227,vs "at" 228]) #[])::(nat_lit 46,ot (#[]) #[])::(nat_lit 48,oc (#[vs "is_rising" 224,vs "is_rising" 225,fcp 226,vi 14 0,vi 1 0,vi 0 0,vi 0 0,vi 3 0,vr 43,Value.bool true,vi 181 0,vr 44,vn,vr 45,vr 46,vr 47,vi 229 0,vi 14 0,fcp 230]) #[])::(nat_lit 49,fo "is_rising" 6 3 [] vn vn vn (vs "manyleaves.webs" 205) none (vr 48) vn 0)::(nat_lit 50,ot (#[]) #[])::(nat_lit 52,ot (#[vs "thing" 235,vs "places" 236,vs "item" 237]) #[])::(nat_lit 53,ot (#[]) #[])::(nat_lit 55,oc (#[vs "is_tie_row" 232,vs "is_tie_row" 233,fcp 234,vi 19 0,vi 2 0,vi 0 0,vi 0 0,vi 3 0,vr 50,Value.bool true,vi 181 0,vr 51,vn,vr 52,vr 53,vr 54,vi 238 0,vi 19 0,fcp 239]) #[])::(nat_lit 56,fo "is_tie_row" 7 3 [] vn vn vn (vs "manyleaves.webs" 205) none (vr 55) vn 0)::(nat_lit 57,ot (#[]) #[])::(nat_lit 60,oc (#[vs "neighbour_rows" 241,vs "neighbour_rows" 242,fcp 243,vi 26 0,vi 1 0,vi 0 0,vi 0 0,vi 3 0,vr 57,Value.bool true,vi 181 0,vr 58,vn,vn,vn,vr 59,vi 244 0,vi 26 0,fcp 245]) #[])::(nat_lit 61,fo "neighbour_rows" 8 3 [] vn vn vn (vs "manyleaves.webs" 205) none (vr 60) vn 0)::(nat_lit 62,ot (#[]) #[])::(nat_lit 64,ot (#[vs "rows" 250,vs "among" 251,vs "start" 252,vs "met" 253,vs "waiting" 254,vs "place" 255,vs "other" 256]) #[])::(nat_lit 65,ot (#[]) #[])::(nat_lit 67,oc (#[vs "piece_from" 247,vs "piece_from" 248,fcp 249,vi 33 0,vi 3 0,vi 0 0,vi 0 0,vi 3 0,vr 62,Value.bool true,vi 181 0,vr 63,vn,vr 64,vr 65,vr 66,vi 257 0,vi 33 0,fcp 258]) #[])::(nat_lit 68,fo "piece_from" 9 3 [] vn vn vn (vs "manyleaves.webs" 205) none (vr 67) vn 0)::(nat_lit 69,ot (#[]) #[])::(nat_lit 72,oc (#[vs "pieces" 260,vs "pieces" 261,fcp 262,vi 43 0,vi 2 0,vi 0 0,vi 0 0,vi 3 0,vr 69,Value.bool true,vi 181 0,vr 70,vn,vn,vn,vr 71,vi 263 0,vi 43 0,fcp 264]) #[])::(nat_lit 73,fo "pieces" 10 3 [] vn vn vn (vs "manyleaves.webs" 205) none (vr 72) vn 0)::(nat_lit 74,ot (#[]) #[])::(nat_lit 76,ot (#[vs "web" 269]) #[])::(nat_lit 77,ot (#[]) #[])::(nat_lit 79,oc (#[vs "in_one_piece" 266,vs "in_one_piece" 267,fcp 268,vi 54 0,vi 1 0,vi 0 0,vi 0 0,vi 3 0,vr 74,Value.bool true,vi 181 0,vr 75,vn,vr 76,vr 77,vr 78,vi 270 0,vi 54 0,fcp 271]) #[])::(nat_lit 80,fo "in_one_piece" 11 3 [] vn vn vn (vs "manyleaves.webs" 205) none (vr 79) vn 0)::(nat_lit 81,ot (#[]) #[])::(nat_lit 84,oc (#[vs "have_common" 275,vs "have_common" 276,fcp 277,vi 57 0,vi 2 0,vi 0 0,vi 0 0,vi 3 0,vr 81,Value.bool true,vi 181 0,vr 82,vn,vn,vn,vr 83,vi 278 0,vi 57 0,fcp 279]) #[])::(nat_lit 85,fo "have_common" 13 3 [] vn vn vn (vs "manyleaves.parts" 273) none (vr 84) vn 0)::(nat_lit 86,ot (#[]) #[])::(nat_lit 89,oc (#[vs "right_tree" 283,vs "right_tree" 284,fcp 285,vi 60 0,vi 2 0,vi 0 0,vi 0 0,vi 3 0,vr 86,Value.bool true,vi 181 0,vr 87,vn,vn,vn,vr 88,vi 286 0,vi 60 0,fcp 287]) #[])::(nat_lit 90,fo "right_tree" 15 3 [] vn vn vn (vs "manyleaves.trees" 281) none (vr 89) vn 0)::(nat_lit 91,ot (#[]) #[])::(nat_lit 93,ot (#[vs "tree" 292]) #[])::(nat_lit 94,ot (#[]) #[])::(nat_lit 96,oc (#[vs "tree_rows" 289,vs "tree_rows" 290,fcp 291,vi 69 0,vi 1 0,vi 0 0,vi 0 0,vi 3 0,vr 91,Value.bool true,vi 181 0,vr 92,vn,vr 93,vr 94,vr 95,vi 293 0,vi 69 0,fcp 294]) #[])::(nat_lit 97,fo "tree_rows" 16 3 [] vn vn vn (vs "manyleaves.trees" 281) none (vr 96) vn 0)::(nat_lit 98,ot (#[]) #[])::(nat_lit 101,oc (#[vs "busy_of" 296,vs "busy_of" 297,fcp 298,vi 71 0,vi 1 0,vi 0 0,vi 0 0,vi 3 0,vr 98,Value.bool true,vi 181 0,vr 99,vn,vn,vn,vr 100,vi 299 0,vi 71 0,fcp 300]) #[])::(nat_lit 102,fo "busy_of" 17 3 [] vn vn vn (vs "manyleaves.trees" 281) none (vr 101) vn 0)::(nat_lit 103,ot (#[]) #[])::(nat_lit 105,ot (#[vs "web" 307,vs "thing" 308]) #[])::(nat_lit 106,ot (#[]) #[])::(nat_lit 108,oc (#[vs "right_two" 304,vs "right_two" 305,fcp 306,vi 74 0,vi 2 0,vi 0 0,vi 0 0,vi 3 0,vr 103,Value.bool true,vi 181 0,vr 104,vn,vr 105,vr 106,vr 107,vi 309 0,vi 74 0,fcp 310]) #[])::(nat_lit 109,fo "right_two" 19 3 [] vn vn vn (vs "manyleaves.apart" 302) none (vr 108) vn 0)::(nat_lit 110,ot (#[]) #[])::(nat_lit 112,ot (#[vs "_law_cell" 317,vs "_law_k" 318,vs "_law_number" 319]) #[])::(nat_lit 113,ot (#[]) #[])::(nat_lit 115,oc (#[vs "_law_mixed" 314,vs "_law_mixed" 315,fcp 316,vi 79 0,vi 2 0,vi 0 0,vi 0 0,vi 3 0,vr 110,Value.bool true,vi 181 0,vr 111,vn,vr 112,vr 113,vr 114,vi 320 0,vi 79 0,fcp 321]) #[])::(nat_lit 116,fo "_law_mixed" 21 3 [] vn vn vn (vs "law_manyleaves_k67_bent_trees_apart" 312) none (vr 115) vn 0)::(nat_lit 117,ot (#[]) #[])::(nat_lit 120,oc (#[vs "_law_deck" 323,vs "_law_deck" 324,fcp 325,vi 84 0,vi 2 0,vi 0 0,vi 0 0,vi 3 0,vr 117,Value.bool true,vi 181 0,vr 118,vn,vn,vn,vr 119,vi 326 0,vi 84 0,fcp 327]) #[])::(nat_lit 121,fo "_law_deck" 22 3 [] vn vn vn (vs "law_manyleaves_k67_bent_trees_apart" 312) none (vr 120) vn 0)::(nat_lit 122,ot (#[]) #[])::(nat_lit 124,ot (#[vs "_law_deck_here" 332]) #[])::(nat_lit 125,ot (#[]) #[])::(nat_lit 127,oc (#[vs "_law_next" 329,vs "_law_next" 330,fcp 331,vi 96 0,vi 1 0,vi 0 0,vi 0 0,vi 3 0,vr 122,Value.bool true,vi 181 0,vr 123,vn,vr 124,vr 125,vr 126,vi 333 0,vi 96 0,fcp 334]) #[])::(nat_lit 128,fo "_law_next" 23 3 [] vn vn vn (vs "law_manyleaves_k67_bent_trees_apart" 312) none (vr 127) vn 0)::(nat_lit 139,ot (#[]) #[])::(nat_lit 142,oc (#[vs "_law_near" 348,vs "_law_near" 349,fcp 350,vi 121 0,vi 1 0,vi 0 0,vi 0 0,vi 3 0,vr 139,Value.bool true,vi 181 0,vr 140,vn,vn,vn,vr 141,vi 351 0,vi 121 0,fcp 352]) #[])::(nat_lit 143,fo "_law_near" 26 3 [] vn vn vn (vs "law_manyleaves_k67_bent_trees_apart" 312) none (vr 142) vn 0)::(nat_lit 144,ot (#[]) #[])::(nat_lit 146,ot (#[vs "_law_near_here" 357,vs "_law_start" 358,vs "_law_allowed" 359,vs "_law_found" 360,vs "_law_waiting" 361,vs "_law_other" 362]) #[])::(nat_lit 147,ot (#[]) #[])::(nat_lit 149,oc (#[vs "_law_reach" 354,vs "_law_reach" 355,fcp 356,vi 127 0,vi 3 0,vi 0 0,vi 0 0,vi 3 0,vr 144,Value.bool true,vi 181 0,vr 145,vn,vr 146,vr 147,vr 148,vi 363 0,vi 127 0,fcp 364]) #[])::(nat_lit 150,fo "_law_reach" 27 3 [] vn vn vn (vs "law_manyleaves_k67_bent_trees_apart" 312) none (vr 149) vn 0)::(nat_lit 151,ot (#[]) #[])::(nat_lit 153,ot (#[vs "_law_near_here" 369,vs "_law_places" 370]) #[])::(nat_lit 154,ot (#[]) #[])::(nat_lit 156,oc (#[vs "_law_hang" 366,vs "_law_hang" 367,fcp 368,vi 136 0,vi 2 0,vi 0 0,vi 0 0,vi 3 0,vr 151,Value.bool true,vi 181 0,vr 152,vn,vr 153,vr 154,vr 155,vi 371 0,vi 136 0,fcp 372]) #[])::(nat_lit 157,fo "_law_hang" 28 3 [] vn vn vn (vs "law_manyleaves_k67_bent_trees_apart" 312) none (vr 156) vn 0)::(nat_lit 158,ot (#[]) #[])::(nat_lit 160,ot (#[vs "_law_thing" 377,vs "_law_least" 378,vs "_law_most" 379]) #[])::(nat_lit 161,ot (#[]) #[])::(nat_lit 163,oc (#[vs "_law_is_int" 374,vs "_law_is_int" 375,fcp 376,vi 138 0,vi 3 0,vi 0 0,vi 0 0,vi 3 0,vr 158,Value.bool true,vi 181 0,vr 159,vn,vr 160,vr 161,vr 162,vi 380 0,vi 138 0,fcp 381]) #[])::(nat_lit 164,fo "_law_is_int" 29 3 [] vn vn vn (vs "law_manyleaves_k67_bent_trees_apart" 312) none (vr 163) vn 0)::(nat_lit 165,ot (#[]) #[])::(nat_lit 168,oc (#[vs "_law_is_tree" 383,vs "_law_is_tree" 384,fcp 385,vi 140 0,vi 2 0,vi 0 0,vi 0 0,vi 3 0,vr 165,Value.bool true,vi 181 0,vr 166,vn,vn,vn,vr 167,vi 386 0,vi 140 0,fcp 387]) #[])::(nat_lit 169,fo "_law_is_tree" 30 3 [] vn vn vn (vs "law_manyleaves_k67_bent_trees_apart" 312) none (vr 168) vn 0)::(nat_lit 175,ot (#[]) #[])::(nat_lit 178,oc (#[vs "_law_parted_web" 395,vs "_law_parted_web" 396,fcp 397,vi 165 0,vi 3 0,vi 0 0,vi 0 0,vi 3 0,vr 175,Value.bool true,vi 181 0,vr 176,vn,vn,vn,vr 177,vi 398 0,vi 165 0,fcp 399]) #[])::(nat_lit 179,fo "_law_parted_web" 32 3 [] vn vn vn (vs "law_manyleaves_k67_bent_trees_apart" 312) none (vr 178) vn 0)::(nat_lit 180,ot (#[]) #[])::(nat_lit 183,oc (#[vs "_law_tree_within" 401,vs "_law_tree_within" 402,fcp 403,vi 182 0,vi 3 0,vi 0 0,vi 0 0,vi 3 0,vr 180,Value.bool true,vi 181 0,vr 181,vn,vn,vn,vr 182,vi 404 0,vi 182 0,fcp 405]) #[])::(nat_lit 184,fo "_law_tree_within" 33 3 [] vn vn vn (vs "law_manyleaves_k67_bent_trees_apart" 312) none (vr 183) vn 0)::(nat_lit 185,ot (#[]) #[])::(nat_lit 188,oc (#[vs "_law_busy" 407,vs "_law_busy" 408,fcp 409,vi 198 0,vi 2 0,vi 0 0,vi 0 0,vi 3 0,vr 185,Value.bool true,vi 181 0,vr 186,vn,vn,vn,vr 187,vi 410 0,vi 198 0,fcp 411]) #[])::(nat_lit 189,fo "_law_busy" 34 3 [] vn vn vn (vs "law_manyleaves_k67_bent_trees_apart" 312) none (vr 188) vn 0)::(nat_lit 190,ot (#[]) #[])::(nat_lit 193,oc (#[vs "_law_is_two" 413,vs "_law_is_two" 414,fcp 415,vi 201 0,vi 2 0,vi 0 0,vi 0 0,vi 3 0,vr 190,Value.bool true,vi 181 0,vr 191,vn,vn,vn,vr 192,vi 416 0,vi 201 0,fcp 417]) #[])::(nat_lit 194,fo "_law_is_two" 35 3 [] vn vn vn (vs "law_manyleaves_k67_bent_trees_apart" 312) none (vr 193) vn 0)::(nat_lit 195,ot (#[]) #[])::(nat_lit 197,ot (#[vs "_law_found" 422,vs "_law_due" 423]) #[])::(nat_lit 198,ot (#[]) #[])::(nat_lit 200,oc (#[vs "_law_is_true" 419,vs "_law_is_true" 420,fcp 421,vi 208 0,vi 2 0,vi 0 0,vi 0 0,vi 3 0,vr 195,Value.bool true,vi 181 0,vr 196,vn,vr 197,vr 198,vr 199,vi 424 0,vi 208 0,fcp 425]) #[])::(nat_lit 201,fo "_law_is_true" 36 3 [] vn vn vn (vs "law_manyleaves_k67_bent_trees_apart" 312) none (vr 200) vn 0)::(nat_lit 202,ot (#[]) #[])::(nat_lit 204,ot (#[vs "_law_deck_here" 430,vs "_law_web_here" 431,vs "_law_tree_here" 432,vs "_law_at" 433,vs "_law_a" 434,vs "_law_b" 435,vs "_law_known" 436,vs "_law_others" 437,vs "_law_other" 438,vs "_law_some" 439]) #[])::(nat_lit 205,ot (#[]) #[])::(nat_lit 207,oc (#[vs "_law_bent_tree" 427,vs "_law_bent_tree" 428,fcp 429,vi 210 0,vi 3 0,vi 0 0,vi 0 0,vi 3 0,vr 202,Value.bool true,vi 181 0,vr 203,vn,vr 204,vr 205,vr 206,vi 440 0,vi 210 0,fcp 441]) #[])::(nat_lit 208,fo "_law_bent_tree" 37 3 [] vn vn vn (vs "law_manyleaves_k67_bent_trees_apart" 312) none (vr 207) vn 0)::(nat_lit 209,ot (#[]) #[])::(nat_lit 212,oc (#[vs "_law_bent" 443,vs "_law_bent" 444,fcp 445,vi 221 0,vi 3 0,vi 0 0,vi 0 0,vi 3 0,vr 209,Value.bool true,vi 181 0,vr 210,vn,vn,vn,vr 211,vi 446 0,vi 221 0,fcp 447]) #[])::(nat_lit 213,fo "_law_bent" 38 3 [] vn vn vn (vs "law_manyleaves_k67_bent_trees_apart" 312) none (vr 212) vn 0)::(nat_lit 214,ot (#[]) #[])::(nat_lit 216,ot (#[vs "_law_web_here" 452,vs "_law_thing" 453,vs "_law_due" 454,vs "_law_before" 455]) #[])::(nat_lit 217,ot (#[]) #[])::(nat_lit 219,oc (#[vs "_law_told" 449,vs "_law_told" 450,fcp 451,vi 227 0,vi 2 0,vi 0 0,vi 0 0,vi 3 0,vr 214,Value.bool true,vi 181 0,vr 215,vn,vr 216,vr 217,vr 218,vi 456 0,vi 227 0,fcp 457]) #[])::(nat_lit 220,fo "_law_told" 39 3 [] vn vn vn (vs "law_manyleaves_k67_bent_trees_apart" 312) none (vr 219) vn 0)::(nat_lit 221,ot (#[]) #[])::(nat_lit 224,oc (#[vs "law" 459,vs "law" 460,fcp 461,vi 231 0,vi 1 0,vi 0 0,vi 0 0,vi 3 0,vr 221,Value.bool true,vi 181 0,vr 222,vn,vn,vn,vr 223,vi 462 0,vi 231 0,fcp 463]) #[])::(nat_lit 225,fo "law" 40 3 [] vn vn vn (vs "law_manyleaves_k67_bent_trees_apart" 312) none (vr 224) vn 0)::[]
def viewP:Program:={PySem.Challenge.pw_manyleaves_k67_bent_trees_apart with main:={PySem.Challenge.pw_manyleaves_k67_bent_trees_apart.main with body:=[top 1,top 2,top 4,top 5,top 6,top 7,top 8,top 9,top 10,top 11,top 13,top 15,top 16,top 17,top 19,top 21,top 22,top 23,top 24,top 25,top 26,top 27,top 28,top 29,top 30,top 31,top 32,top 33,top 34,top 35,top 36,top 37,top 38,top 39,top 40]}}
def addrs:List Addr:=[1,2,3,15,17,18,20,21,22,24,25,27,28,29,31,32,34,35,36,38,39,41,42,43,45,46,48,49,50,52,53,55,56,57,60,61,62,64,65,67,68,69,72,73,74,76,77,79,80,81,84,85,86,89,90,91,93,94,96,97,98,101,102,103,105,106,108,109,110,112,113,115,116,117,120,121,122,124,125,127,128,139,142,143,144,146,147,149,150,151,153,154,156,157,158,160,161,163,164,165,168,169,175,178,179,180,183,184,185,188,189,190,193,194,195,197,198,200,201,202,204,205,207,208,209,212,213,214,216,217,219,220,221,224,225]
theorem addr:∀ P,addrs=(heapK P).map (·.1):=fun _=>by kernel_rfl
abbrev A_ (K:PySem.W.Frag)(n:Str)(f:Addr):Prop:=PySem.W.nsIn K mainGlobals n=some (some (.ref f))
abbrev L_ (K:PySem.W.Frag)(f:Addr)(oc:Value)(od:Option Addr)(n:Str)(i:Nat)(kv dc pm:Value)(an:Option Addr)(cd ct:Value)(sl:Array (Option Value)):Prop:=K.lookup f=some ⟨oc,od,.func (PySem.W.fnOf n n (defArgs (top i)) (defBody (top i)) (defScope (top i)) .none kv dc pm an cd ct),sl⟩
abbrev C_ (K:PySem.W.Frag)(cd:Value)(n:Str):Prop:=PySem.W.codeIn K cd n=true
abbrev J_ (K:PySem.W.Frag)(f:Addr):Prop:=PySem.W.keepIn K (.ref f)=true
theorem all_mk {l:PySem.W.OpenLaw}{w:World}{K:PySem.W.Frag}{h:Heap}{mg:Str→Option Value}(X:K.In h)(G:h.Ns mainGlobals mg)(hfa:mg "law"=some (.ref fa))(a1:A_ K "_law_mixed" f1)(l1:L_ K f1 oc1 od1 "_law_mixed" 21 kV1 dc1 pm1 an1 cd1 ct1 sl1)(c1:C_ K cd1 "_law_mixed")(k1:J_ K f1)(a2:A_ K "_law_next" f2)(l2:L_ K f2 oc2 od2 "_law_next" 23 kV2 dc2 pm2 an2 cd2 ct2 sl2)(c2:C_ K cd2 "_law_next")(k2:J_ K f2)(a3:A_ K "_law_deck" f3)(l3:L_ K f3 oc3 od3 "_law_deck" 22 kV3 dc3 pm3 an3 cd3 ct3 sl3)(c3:C_ K cd3 "_law_deck")(k3:J_ K f3)(a4:A_ K "_law_near" f4)(l4:L_ K f4 oc4 od4 "_law_near" 26 kV4 dc4 pm4 an4 cd4 ct4 sl4)(c4:C_ K cd4 "_law_near")(k4:J_ K f4)(a5:A_ K "neighbour_rows" f5)(l5:L_ K f5 oc5 od5 "neighbour_rows" 8 kV5 dc5 pm5 an5 cd5 ct5 sl5)(c5:C_ K cd5 "neighbour_rows")(k5:J_ K f5)(a6:A_ K "tree_rows" f6)(l6:L_ K f6 oc6 od6 "tree_rows" 16 kV6 dc6 pm6 an6 cd6 ct6 sl6)(c6:C_ K cd6 "tree_rows")(k6:J_ K f6)(a7:A_ K "_law_reach" f7)(l7:L_ K f7 oc7 od7 "_law_reach" 27 kV7 dc7 pm7 an7 cd7 ct7 sl7)(c7:C_ K cd7 "_law_reach")(k7:J_ K f7)(a8:A_ K "_law_hang" f8)(l8:L_ K f8 oc8 od8 "_law_hang" 28 kV8 dc8 pm8 an8 cd8 ct8 sl8)(c8:C_ K cd8 "_law_hang")(k8:J_ K f8)(a9:A_ K "is_int" f9)(l9:L_ K f9 oc9 od9 "is_int" 1 kV9 dc9 pm9 an9 cd9 ct9 sl9)(c9:C_ K cd9 "is_int")(k9:J_ K f9)(a10:A_ K "is_between" f10)(l10:L_ K f10 oc10 od10 "is_between" 2 kV10 dc10 pm10 an10 cd10 ct10 sl10)(c10:C_ K cd10 "is_between")(k10:J_ K f10)(a11:A_ K "is_pair" f11)(l11:L_ K f11 oc11 od11 "is_pair" 4 kV11 dc11 pm11 an11 cd11 ct11 sl11)(c11:C_ K cd11 "is_pair")(k11:J_ K f11)(a12:A_ K "is_tie" f12)(l12:L_ K f12 oc12 od12 "is_tie" 5 kV12 dc12 pm12 an12 cd12 ct12 sl12)(c12:C_ K cd12 "is_tie")(k12:J_ K f12)(a13:A_ K "is_rising" f13)(l13:L_ K f13 oc13 od13 "is_rising" 6 kV13 dc13 pm13 an13 cd13 ct13 sl13)(c13:C_ K cd13 "is_rising")(k13:J_ K f13)(a14:A_ K "piece_from" f14)(l14:L_ K f14 oc14 od14 "piece_from" 9 kV14 dc14 pm14 an14 cd14 ct14 sl14)(c14:C_ K cd14 "piece_from")(k14:J_ K f14)(a15:A_ K "pieces" f15)(l15:L_ K f15 oc15 od15 "pieces" 10 kV15 dc15 pm15 an15 cd15 ct15 sl15)(c15:C_ K cd15 "pieces")(k15:J_ K f15)(a16:A_ K "is_tie_row" f16)(l16:L_ K f16 oc16 od16 "is_tie_row" 7 kV16 dc16 pm16 an16 cd16 ct16 sl16)(c16:C_ K cd16 "is_tie_row")(k16:J_ K f16)(a17:A_ K "in_one_piece" f17)(l17:L_ K f17 oc17 od17 "in_one_piece" 11 kV17 dc17 pm17 an17 cd17 ct17 sl17)(c17:C_ K cd17 "in_one_piece")(k17:J_ K f17)(a18:A_ K "right_tree" f18)(l18:L_ K f18 oc18 od18 "right_tree" 15 kV18 dc18 pm18 an18 cd18 ct18 sl18)(c18:C_ K cd18 "right_tree")(k18:J_ K f18)(a19:A_ K "_law_is_int" f19)(l19:L_ K f19 oc19 od19 "_law_is_int" 29 kV19 dc19 pm19 an19 cd19 ct19 sl19)(c19:C_ K cd19 "_law_is_int")(k19:J_ K f19)(a20:A_ K "_law_is_tree" f20)(l20:L_ K f20 oc20 od20 "_law_is_tree" 30 kV20 dc20 pm20 an20 cd20 ct20 sl20)(c20:C_ K cd20 "_law_is_tree")(k20:J_ K f20)(a21:A_ K "busy_of" f21)(l21:L_ K f21 oc21 od21 "busy_of" 17 kV21 dc21 pm21 an21 cd21 ct21 sl21)(c21:C_ K cd21 "busy_of")(k21:J_ K f21)(a22:A_ K "have_common" f22)(l22:L_ K f22 oc22 od22 "have_common" 13 kV22 dc22 pm22 an22 cd22 ct22 sl22)(c22:C_ K cd22 "have_common")(k22:J_ K f22)(a23:A_ K "_law_is_true" f23)(l23:L_ K f23 oc23 od23 "_law_is_true" 36 kV23 dc23 pm23 an23 cd23 ct23 sl23)(c23:C_ K cd23 "_law_is_true")(k23:J_ K f23)(a24:A_ K "_law_busy" f24)(l24:L_ K f24 oc24 od24 "_law_busy" 34 kV24 dc24 pm24 an24 cd24 ct24 sl24)(c24:C_ K cd24 "_law_busy")(k24:J_ K f24)(a25:A_ K "_law_tree_within" f25)(l25:L_ K f25 oc25 od25 "_law_tree_within" 33 kV25 dc25 pm25 an25 cd25 ct25 sl25)(c25:C_ K cd25 "_law_tree_within")(k25:J_ K f25)(a26:A_ K "_law_parted_web" f26)(l26:L_ K f26 oc26 od26 "_law_parted_web" 32 kV26 dc26 pm26 an26 cd26 ct26 sl26)(c26:C_ K cd26 "_law_parted_web")(k26:J_ K f26)(a27:A_ K "right_two" f27)(l27:L_ K f27 oc27 od27 "right_two" 19 kV27 dc27 pm27 an27 cd27 ct27 sl27)(c27:C_ K cd27 "right_two")(k27:J_ K f27)(a28:A_ K "_law_is_two" f28)(l28:L_ K f28 oc28 od28 "_law_is_two" 35 kV28 dc28 pm28 an28 cd28 ct28 sl28)(c28:C_ K cd28 "_law_is_two")(k28:J_ K f28)(a29:A_ K "_law_bent_tree" f29)(l29:L_ K f29 oc29 od29 "_law_bent_tree" 37 kV29 dc29 pm29 an29 cd29 ct29 sl29)(c29:C_ K cd29 "_law_bent_tree")(k29:J_ K f29)(a30:A_ K "_law_bent" f30)(l30:L_ K f30 oc30 od30 "_law_bent" 38 kV30 dc30 pm30 an30 cd30 ct30 sl30)(c30:C_ K cd30 "_law_bent")(k30:J_ K f30)(a31:A_ K "_law_told" f31)(l31:L_ K f31 oc31 od31 "_law_told" 39 kV31 dc31 pm31 an31 cd31 ct31 sl31)(c31:C_ K cd31 "_law_told")(k31:J_ K f31)(a32:A_ K "law" f32)(l32:L_ K f32 oc32 od32 "law" 40 kV32 dc32 pm32 an32 cd32 ct32 sl32)(c32:C_ K cd32 "law")(k32:J_ K f32)
  (X9:(K.lookup sysModules).isSome=true)
  (z1:PySem.W.nsIn K mainGlobals "len"=some none) (z2:PySem.W.nsIn K mainGlobals "range"=some none) (z3:PySem.W.nsIn K mainGlobals "list"=some none) (z4:PySem.W.nsIn K mainGlobals "tuple"=some none) (z5:PySem.W.nsIn K mainGlobals "sorted"=some none) (z6:PySem.W.nsIn K mainGlobals "min"=some none) (z7:PySem.W.nsIn K mainGlobals "max"=some none) (z8:PySem.W.nsIn K mainGlobals "int"=some none) (z9:PySem.W.nsIn K mainGlobals "reversed"=some none) (z10:PySem.W.nsIn K mainGlobals "isinstance"=some none) (z11:PySem.W.nsIn K mainGlobals "bool"=some none) (z12:PySem.W.nsIn K mainGlobals "all"=some none) (z13:PySem.W.nsIn K mainGlobals "set"=some none) (z14:PySem.W.nsIn K mainGlobals "enumerate"=some none) (z15:PySem.W.nsIn K mainGlobals "zip"=some none) (z16:PySem.W.nsIn K mainGlobals "sum"=some none) (z17:PySem.W.nsIn K mainGlobals "any"=some none) (z18:PySem.W.nsIn K mainGlobals "repr"=some none) :
  ∃ fd:FuncData,(∀ (s:Shared) (v:Value),BindsTo s fd ⟨[v],[]⟩ [("_law_script",v)])∧∀ base:Heap,K.In base→base.Ns mainGlobals mg→FnOk l.prog w K mg base CX0 8 fa fd ["_law_script"] (sp_law K):=by
 have e:=hfa.symm.trans (PySem.W.mg_of X G a32);cases e;have B:Bt mg:=⟨PySem.W.mg_none_of X G z1,PySem.W.mg_none_of X G z2,PySem.W.mg_none_of X G z3,PySem.W.mg_none_of X G z4,PySem.W.mg_none_of X G z5,PySem.W.mg_none_of X G z6,PySem.W.mg_none_of X G z7,PySem.W.mg_none_of X G z8,PySem.W.mg_none_of X G z9⟩
 have C:Bt2 mg:=⟨PySem.W.mg_none_of X G z10,PySem.W.mg_none_of X G z11,PySem.W.mg_none_of X G z12,PySem.W.mg_none_of X G z13,PySem.W.mg_none_of X G z14,PySem.W.mg_none_of X G z15⟩
 have C3:Bt3 mg:=⟨PySem.W.mg_none_of X G z16,PySem.W.mg_none_of X G z17⟩
 have C4:Bt4 mg:=⟨PySem.W.mg_none_of X G z18⟩
 have F1:=fun_mk (st:=top 21) l1 c1 k1;have D1:Df K mg "_law_mixed" (top 21) f1 _ ["_law_cell", "_law_k"]:=⟨F1,F1.binds fun _ _ _ _ _ _ us hl=>L2.al2 (P:=fun us=>bindArgs _ ⟨us,[]⟩=pure (List.zip _ us)) (fun _ _=>rfl) us hl,PySem.W.mg_of X G a1⟩
 have F2:=fun_mk (st:=top 23) l2 c2 k2;have D2:Df K mg "_law_next" (top 23) f2 _ ["_law_deck_here"]:=⟨F2,F2.binds fun _ _ _ _ _ _ us hl=>L2.al1 (P:=fun us=>bindArgs _ ⟨us,[]⟩=pure (List.zip _ us)) (fun _=>rfl) us hl,PySem.W.mg_of X G a2⟩
 have F3:=fun_mk (st:=top 22) l3 c3 k3;have D3:Df K mg "_law_deck" (top 22) f3 _ ["_law_script", "_law_many"]:=⟨F3,F3.binds fun _ _ _ _ _ _ us hl=>L2.al2 (P:=fun us=>bindArgs _ ⟨us,[]⟩=pure (List.zip _ us)) (fun _ _=>rfl) us hl,PySem.W.mg_of X G a3⟩
 have F4:=fun_mk (st:=top 26) l4 c4 k4;have D4:Df K mg "_law_near" (top 26) f4 _ ["_law_web_here"]:=⟨F4,F4.binds fun _ _ _ _ _ _ us hl=>L2.al1 (P:=fun us=>bindArgs _ ⟨us,[]⟩=pure (List.zip _ us)) (fun _=>rfl) us hl,PySem.W.mg_of X G a4⟩
 have F5:=fun_mk (st:=top 8) l5 c5 k5;have D5:Df K mg "neighbour_rows" (top 8) f5 _ ["web"]:=⟨F5,F5.binds fun _ _ _ _ _ _ us hl=>L2.al1 (P:=fun us=>bindArgs _ ⟨us,[]⟩=pure (List.zip _ us)) (fun _=>rfl) us hl,PySem.W.mg_of X G a5⟩
 have F6:=fun_mk (st:=top 16) l6 c6 k6;have D6:Df K mg "tree_rows" (top 16) f6 _ ["tree"]:=⟨F6,F6.binds fun _ _ _ _ _ _ us hl=>L2.al1 (P:=fun us=>bindArgs _ ⟨us,[]⟩=pure (List.zip _ us)) (fun _=>rfl) us hl,PySem.W.mg_of X G a6⟩
 have F7:=fun_mk (st:=top 27) l7 c7 k7;have D7:Df K mg "_law_reach" (top 27) f7 _ ["_law_near_here", "_law_start", "_law_allowed"]:=⟨F7,F7.binds fun _ _ _ _ _ _ us hl=>L2.al3 (P:=fun us=>bindArgs _ ⟨us,[]⟩=pure (List.zip _ us)) (fun _ _ _=>rfl) us hl,PySem.W.mg_of X G a7⟩
 have F8:=fun_mk (st:=top 28) l8 c8 k8;have D8:Df K mg "_law_hang" (top 28) f8 _ ["_law_near_here", "_law_places"]:=⟨F8,F8.binds fun _ _ _ _ _ _ us hl=>L2.al2 (P:=fun us=>bindArgs _ ⟨us,[]⟩=pure (List.zip _ us)) (fun _ _=>rfl) us hl,PySem.W.mg_of X G a8⟩
 have F9:=fun_mk (st:=top 1) l9 c9 k9;have D9:Df K mg "is_int" (top 1) f9 _ ["thing"]:=⟨F9,F9.binds fun _ _ _ _ _ _ us hl=>L2.al1 (P:=fun us=>bindArgs _ ⟨us,[]⟩=pure (List.zip _ us)) (fun _=>rfl) us hl,PySem.W.mg_of X G a9⟩
 have F10:=fun_mk (st:=top 2) l10 c10 k10;have D10:Df K mg "is_between" (top 2) f10 _ ["thing", "least", "most"]:=⟨F10,F10.binds fun _ _ _ _ _ _ us hl=>L2.al3 (P:=fun us=>bindArgs _ ⟨us,[]⟩=pure (List.zip _ us)) (fun _ _ _=>rfl) us hl,PySem.W.mg_of X G a10⟩
 have F11:=fun_mk (st:=top 4) l11 c11 k11;have D11:Df K mg "is_pair" (top 4) f11 _ ["thing"]:=⟨F11,F11.binds fun _ _ _ _ _ _ us hl=>L2.al1 (P:=fun us=>bindArgs _ ⟨us,[]⟩=pure (List.zip _ us)) (fun _=>rfl) us hl,PySem.W.mg_of X G a11⟩
 have F12:=fun_mk (st:=top 5) l12 c12 k12;have D12:Df K mg "is_tie" (top 5) f12 _ ["thing", "places"]:=⟨F12,F12.binds fun _ _ _ _ _ _ us hl=>L2.al2 (P:=fun us=>bindArgs _ ⟨us,[]⟩=pure (List.zip _ us)) (fun _ _=>rfl) us hl,PySem.W.mg_of X G a12⟩
 have F13:=fun_mk (st:=top 6) l13 c13 k13;have D13:Df K mg "is_rising" (top 6) f13 _ ["items"]:=⟨F13,F13.binds fun _ _ _ _ _ _ us hl=>L2.al1 (P:=fun us=>bindArgs _ ⟨us,[]⟩=pure (List.zip _ us)) (fun _=>rfl) us hl,PySem.W.mg_of X G a13⟩
 have F14:=fun_mk (st:=top 9) l14 c14 k14;have D14:Df K mg "piece_from" (top 9) f14 _ ["rows", "among", "start"]:=⟨F14,F14.binds fun _ _ _ _ _ _ us hl=>L2.al3 (P:=fun us=>bindArgs _ ⟨us,[]⟩=pure (List.zip _ us)) (fun _ _ _=>rfl) us hl,PySem.W.mg_of X G a14⟩
 have F15:=fun_mk (st:=top 10) l15 c15 k15;have D15:Df K mg "pieces" (top 10) f15 _ ["web", "places"]:=⟨F15,F15.binds fun _ _ _ _ _ _ us hl=>L2.al2 (P:=fun us=>bindArgs _ ⟨us,[]⟩=pure (List.zip _ us)) (fun _ _=>rfl) us hl,PySem.W.mg_of X G a15⟩
 have F16:=fun_mk (st:=top 7) l16 c16 k16;have D16:Df K mg "is_tie_row" (top 7) f16 _ ["thing", "places"]:=⟨F16,F16.binds fun _ _ _ _ _ _ us hl=>L2.al2 (P:=fun us=>bindArgs _ ⟨us,[]⟩=pure (List.zip _ us)) (fun _ _=>rfl) us hl,PySem.W.mg_of X G a16⟩
 have F17:=fun_mk (st:=top 11) l17 c17 k17;have D17:Df K mg "in_one_piece" (top 11) f17 _ ["web"]:=⟨F17,F17.binds fun _ _ _ _ _ _ us hl=>L2.al1 (P:=fun us=>bindArgs _ ⟨us,[]⟩=pure (List.zip _ us)) (fun _=>rfl) us hl,PySem.W.mg_of X G a17⟩
 have F18:=fun_mk (st:=top 15) l18 c18 k18;have D18:Df K mg "right_tree" (top 15) f18 _ ["web", "thing"]:=⟨F18,F18.binds fun _ _ _ _ _ _ us hl=>L2.al2 (P:=fun us=>bindArgs _ ⟨us,[]⟩=pure (List.zip _ us)) (fun _ _=>rfl) us hl,PySem.W.mg_of X G a18⟩
 have F19:=fun_mk (st:=top 29) l19 c19 k19;have D19:Df K mg "_law_is_int" (top 29) f19 _ ["_law_thing", "_law_least", "_law_most"]:=⟨F19,F19.binds fun _ _ _ _ _ _ us hl=>L2.al3 (P:=fun us=>bindArgs _ ⟨us,[]⟩=pure (List.zip _ us)) (fun _ _ _=>rfl) us hl,PySem.W.mg_of X G a19⟩
 have F20:=fun_mk (st:=top 30) l20 c20 k20;have D20:Df K mg "_law_is_tree" (top 30) f20 _ ["_law_web_here", "_law_thing"]:=⟨F20,F20.binds fun _ _ _ _ _ _ us hl=>L2.al2 (P:=fun us=>bindArgs _ ⟨us,[]⟩=pure (List.zip _ us)) (fun _ _=>rfl) us hl,PySem.W.mg_of X G a20⟩
 have F21:=fun_mk (st:=top 17) l21 c21 k21;have D21:Df K mg "busy_of" (top 17) f21 _ ["tree"]:=⟨F21,F21.binds fun _ _ _ _ _ _ us hl=>L2.al1 (P:=fun us=>bindArgs _ ⟨us,[]⟩=pure (List.zip _ us)) (fun _=>rfl) us hl,PySem.W.mg_of X G a21⟩
 have F22:=fun_mk (st:=top 13) l22 c22 k22;have D22:Df K mg "have_common" (top 13) f22 _ ["one", "other"]:=⟨F22,F22.binds fun _ _ _ _ _ _ us hl=>L2.al2 (P:=fun us=>bindArgs _ ⟨us,[]⟩=pure (List.zip _ us)) (fun _ _=>rfl) us hl,PySem.W.mg_of X G a22⟩
 have F23:=fun_mk (st:=top 36) l23 c23 k23;have D23:Df K mg "_law_is_true" (top 36) f23 _ ["_law_found", "_law_due"]:=⟨F23,F23.binds fun _ _ _ _ _ _ us hl=>L2.al2 (P:=fun us=>bindArgs _ ⟨us,[]⟩=pure (List.zip _ us)) (fun _ _=>rfl) us hl,PySem.W.mg_of X G a23⟩
 have F24:=fun_mk (st:=top 34) l24 c24 k24;have D24:Df K mg "_law_busy" (top 34) f24 _ ["_law_places", "_law_tree_here"]:=⟨F24,F24.binds fun _ _ _ _ _ _ us hl=>L2.al2 (P:=fun us=>bindArgs _ ⟨us,[]⟩=pure (List.zip _ us)) (fun _ _=>rfl) us hl,PySem.W.mg_of X G a24⟩
 have F25:=fun_mk (st:=top 33) l25 c25 k25;have D25:Df K mg "_law_tree_within" (top 33) f25 _ ["_law_deck_here", "_law_near_here", "_law_busy_here"]:=⟨F25,F25.binds fun _ _ _ _ _ _ us hl=>L2.al3 (P:=fun us=>bindArgs _ ⟨us,[]⟩=pure (List.zip _ us)) (fun _ _ _=>rfl) us hl,PySem.W.mg_of X G a25⟩
 have F26:=fun_mk (st:=top 32) l26 c26 k26;have D26:Df K mg "_law_parted_web" (top 32) f26 _ ["_law_deck_here", "_law_least", "_law_most"]:=⟨F26,F26.binds fun _ _ _ _ _ _ us hl=>L2.al3 (P:=fun us=>bindArgs _ ⟨us,[]⟩=pure (List.zip _ us)) (fun _ _ _=>rfl) us hl,PySem.W.mg_of X G a26⟩
 have F27:=fun_mk (st:=top 19) l27 c27 k27;have D27:Df K mg "right_two" (top 19) f27 _ ["web", "thing"]:=⟨F27,F27.binds fun _ _ _ _ _ _ us hl=>L2.al2 (P:=fun us=>bindArgs _ ⟨us,[]⟩=pure (List.zip _ us)) (fun _ _=>rfl) us hl,PySem.W.mg_of X G a27⟩
 have F28:=fun_mk (st:=top 35) l28 c28 k28;have D28:Df K mg "_law_is_two" (top 35) f28 _ ["_law_web_here", "_law_thing"]:=⟨F28,F28.binds fun _ _ _ _ _ _ us hl=>L2.al2 (P:=fun us=>bindArgs _ ⟨us,[]⟩=pure (List.zip _ us)) (fun _ _=>rfl) us hl,PySem.W.mg_of X G a28⟩
 have F29:=fun_mk (st:=top 37) l29 c29 k29;have D29:Df K mg "_law_bent_tree" (top 37) f29 _ ["_law_deck_here", "_law_web_here", "_law_tree_here"]:=⟨F29,F29.binds fun _ _ _ _ _ _ us hl=>L2.al3 (P:=fun us=>bindArgs _ ⟨us,[]⟩=pure (List.zip _ us)) (fun _ _ _=>rfl) us hl,PySem.W.mg_of X G a29⟩
 have F30:=fun_mk (st:=top 38) l30 c30 k30;have D30:Df K mg "_law_bent" (top 38) f30 _ ["_law_deck_here", "_law_web_here", "_law_pair"]:=⟨F30,F30.binds fun _ _ _ _ _ _ us hl=>L2.al3 (P:=fun us=>bindArgs _ ⟨us,[]⟩=pure (List.zip _ us)) (fun _ _ _=>rfl) us hl,PySem.W.mg_of X G a30⟩
 have F31:=fun_mk (st:=top 39) l31 c31 k31;have D31:Df K mg "_law_told" (top 39) f31 _ ["_law_web_here", "_law_thing"]:=⟨F31,F31.binds fun _ _ _ _ _ _ us hl=>L2.al2 (P:=fun us=>bindArgs _ ⟨us,[]⟩=pure (List.zip _ us)) (fun _ _=>rfl) us hl,PySem.W.mg_of X G a31⟩
 have F32:=fun_mk (st:=top 40) l32 c32 k32;refine⟨PySem.W.fnOf "law" "law" (defArgs (top 40)) (defBody (top 40)) (defScope (top 40)) .none kV32 dc32 pm32 an32 cd32 ct32,fun s v=>.of_eq rfl,fun base _ _=>?_⟩;have O1:=ok_mixed (P:=l.prog) (w:=w) (base:=base) F1 B;have O2:=ok_next (P:=l.prog) (w:=w) (base:=base) F2 B;have O3:=ok_deck (P:=l.prog) (w:=w) (base:=base) F3 B D1 O1;have O4:=ok_near (P:=l.prog) (w:=w) (base:=base) F4 B;have O5:=ok_nrows (P:=l.prog) (w:=w) (base:=base) F5 B;have O6:=ok_trows (P:=l.prog) (w:=w) (base:=base) F6 B D5 O5;have O7:=ok_reach (P:=l.prog) (w:=w) (base:=base) F7 B;have O8:=ok_hang46 (P:=l.prog) (w:=w) (base:=base) F8 B D7 O7;have O9:=ok_pint (P:=l.prog) (w:=w) (base:=base) F9 B C;have O10:=ok_pbetw (P:=l.prog) (w:=w) (base:=base) F10 B D9 O9;have O11:=ok_ppair (P:=l.prog) (w:=w) (base:=base) F11 B C;have O12:=ok_ptie (P:=l.prog) (w:=w) (base:=base) F12 B D11 O11 D10 O10;have O13:=ok_prising (P:=l.prog) (w:=w) (base:=base) F13 B;have O14:=ok_pfrom (P:=l.prog) (w:=w) (base:=base) F14 B;have O15:=ok_pieces (P:=l.prog) (w:=w) (base:=base) F15 B D5 O5 D14 O14;have O16:=ok_prowX (P:=l.prog) (w:=w) (base:=base) F16 B D12 O12 D13 O13 C;have O17:=ok_onepX (P:=l.prog) (w:=w) (base:=base) F17 B D15 O15;have O18:=ok_rtreeX (P:=l.prog) (w:=w) (base:=base) F18 B D16 O16 D17 O17;have O19:=ok_isintX (P:=l.prog) (w:=w) (base:=base) F19 B C;have O20:=ok_istreeX (P:=l.prog) (w:=w) (base:=base) F20 B D19 O19 D4 O4 D8 O8 C;have O21:=ok_busy (P:=l.prog) (w:=w) (base:=base) F21 B D6 O6 C;have O22:=ok_common (P:=l.prog) (w:=w) (base:=base) F22 B C3;have O23:=ok_istrue (P:=l.prog) (w:=w) (base:=base) F23 B C;have O24:=ok_lbusy66 (P:=l.prog) (w:=w) (base:=base) F24 B D4 O4;have O25:=ok_ltwithin (P:=l.prog) (w:=w) (base:=base) F25 B D2 O2;have O26:=ok_lparted (P:=l.prog) (w:=w) (base:=base) F26 B D2 O2;have O27:=ok_rtwoX (P:=l.prog) (w:=w) (base:=base) F27 B D11 O11 D18 O18 D21 O21 D22 O22;have O28:=ok_listwoX (P:=l.prog) (w:=w) (base:=base) F28 B D20 O20 D24 O24 C;have O29:=ok_btree67 (P:=l.prog) (w:=w) (base:=base) F29 B D2 O2 C;have O30:=ok_bent67 (P:=l.prog) (w:=w) (base:=base) F30 B D2 O2 D29 O29;have O31:=ok_told67 (P:=l.prog) (w:=w) (base:=base) F31 B D28 O28 D23 O23 D27 O27 C4 X9;exact ok_law67 F32 B D3 O3 D26 O26 D4 O4 D25 O25 D30 O30 D31 O31
theorem walk {l:PySem.W.OpenLaw}{q:Program}{loose:List Str}{XP:(Str→Option Value)→Heap→Prop}{YP:World→Heap→Prop}{d:DefRec}{K:Params→PySem.W.Frag}(hn:l.most=some 63)(hdf:d.params.defaults=[])
  (hY:∀ (w:World) (h:Heap),YP w h→(K w.params).In h)
  (F:∀ (w:World) (mg:Str→Option Value) (fa:Addr) (h:Heap),(K w.params).In h→h.Ns mainGlobals mg→mg d.name=some (.ref fa) →
   ∃ fd:FuncData,(∀ (s:Shared) (u:Value),BindsTo s fd ⟨[u],[]⟩ [("_law_script",u)])∧∀ base:Heap,(K w.params).In base→base.Ns mainGlobals mg→FnOk l.prog w (K w.params) mg base CX0 8 fa fd ["_law_script"] (sp_law (K w.params))) :
  PySem.W.WalkO q loose XP YP l.row.toRowW d [] (fun f vs=>PySem.call f vs) :=
 L2.walk_of (n:=63) (k:=8) (x:="_law_script") (CX:=fun _=>CX0) (sp:=fun w=>sp_law (K w.params)) hn (by decide) hdf ⟨rfl,by decide,by decide,rfl⟩ hY F (fun _ _ a ns hl _ hS=>⟨a,ns,rfl,hS,hl,fun _=>rfl⟩) fun _ _ _ _ _ z=>z
end K67
end
open PySem PySem.W PyProof.Rows
set_option maxRecDepth 100000 in
set_option maxHeartbeats 0 in
theorem K67.said:PySem.Challenge.rw_manyleaves_k67_bent_trees_apart.wellSaid=true:=by kernel_rfl
set_option maxRecDepth 100000 in
set_option maxHeartbeats 0 in
theorem K67.left:LeftO (OpenRow.toRowW (OpenLaw.row PySem.Challenge.rw_manyleaves_k67_bent_trees_apart)).prog K67.viewP [] (fun s=>xlAt K67.viewP [] s && recOk (RowW.records (OpenRow.toRowW (OpenLaw.row PySem.Challenge.rw_manyleaves_k67_bent_trees_apart))) s) (Hook.obs (kHook K67.heapK K67.addrs K67.addr)) (Hook.val (kHook K67.heapK K67.addrs K67.addr)) 2238:=by intro w;kernel_rfl
set_option maxRecDepth 100000 in
set_option maxHeartbeats 0 in
theorem PySem.Challenge.cw_manyleaves_k67_bent_trees_apart_holds : PySem.Challenge.rw_manyleaves_k67_bent_trees_apart.Holds := by
 w_on;refine holds_law K67.said fun said=>?_
 refine holds_open (q:=K67.viewP) (loose:=[]) (Xt:=fun s=>xlAt K67.viewP [] s && recOk (RowW.records (OpenRow.toRowW (OpenLaw.row PySem.Challenge.rw_manyleaves_k67_bent_trees_apart))) s) (XP:=XL K67.viewP []) (Yf:=Hook.obs (kHook K67.heapK K67.addrs K67.addr)) (Ya:=Hook.val (kHook K67.heapK K67.addrs K67.addr)) (YP:=Hook.says (kHook K67.heapK K67.addrs K67.addr)) (N:=2238) K67.left (Hook.of (kHook K67.heapK K67.addrs K67.addr)) (Hook.keeps (kHook K67.heapK K67.addrs K67.addr)) (fun s e=>xl_of s (Bool.and_eq_true_iff.mp e).1) XL.keeps (by rfl) (by rfl) (by rfl) (fun s e=>recFacts_of (Bool.and_eq_true_iff.mp e).2) (by rfl) said (by decide +kernel) ⟨rfl,rfl,rfl,rfl,rfl,by decide +kernel⟩ ?hw ?hc
 (case hw=>w_witness2)
 k_fill
 refine K67.walk (l:=PySem.Challenge.rw_manyleaves_k67_bent_trees_apart) rfl rfl (fun w h Y=>PySem.W.kIn_of Y) ?F
 case F =>
  intro w mg fa h KX G hmg;refine' K67.all_mk KX G hmg ?a1 ?l1 ?c1 ?k1 ?a2 ?l2 ?c2 ?k2 ?a3 ?l3 ?c3 ?k3 ?a4 ?l4 ?c4 ?k4 ?a5 ?l5 ?c5 ?k5 ?a6 ?l6 ?c6 ?k6 ?a7 ?l7 ?c7 ?k7 ?a8 ?l8 ?c8 ?k8 ?a9 ?l9 ?c9 ?k9 ?a10 ?l10 ?c10 ?k10 ?a11 ?l11 ?c11 ?k11 ?a12 ?l12 ?c12 ?k12 ?a13 ?l13 ?c13 ?k13 ?a14 ?l14 ?c14 ?k14 ?a15 ?l15 ?c15 ?k15 ?a16 ?l16 ?c16 ?k16 ?a17 ?l17 ?c17 ?k17 ?a18 ?l18 ?c18 ?k18 ?a19 ?l19 ?c19 ?k19 ?a20 ?l20 ?c20 ?k20 ?a21 ?l21 ?c21 ?k21 ?a22 ?l22 ?c22 ?k22 ?a23 ?l23 ?c23 ?k23 ?a24 ?l24 ?c24 ?k24 ?a25 ?l25 ?c25 ?k25 ?a26 ?l26 ?c26 ?k26 ?a27 ?l27 ?c27 ?k27 ?a28 ?l28 ?c28 ?k28 ?a29 ?l29 ?c29 ?k29 ?a30 ?l30 ?c30 ?k30 ?a31 ?l31 ?c31 ?k31 ?a32 ?l32 ?c32 ?k32 ?X9 ?z1 ?z2 ?z3 ?z4 ?z5 ?z6 ?z7 ?z8 ?z9 ?z10 ?z11 ?z12 ?z13 ?z14 ?z15 ?z16 ?z17 ?z18
  (case a1|a2|a3|a4|a5|a6|a7|a8|a9|a10|a11|a12|a13|a14|a15|a16|a17|a18|a19|a20|a21|a22|a23|a24|a25|a26|a27|a28|a29|a30|a31|a32=>unfold K67.A_;k_is)
  (case l1|l2|l3|l4|l5|l6|l7|l8|l9|l10|l11|l12|l13|l14|l15|l16|l17|l18|l19|l20|l21|l22|l23|l24|l25|l26|l27|l28|l29|l30|l31|l32=>unfold K67.L_;k_is)
  (case c1|c2|c3|c4|c5|c6|c7|c8|c9|c10|c11|c12|c13|c14|c15|c16|c17|c18|c19|c20|c21|c22|c23|c24|c25|c26|c27|c28|c29|c30|c31|c32=>unfold K67.C_;k_is)
  (case k1|k2|k3|k4|k5|k6|k7|k8|k9|k10|k11|k12|k13|k14|k15|k16|k17|k18|k19|k20|k21|k22|k23|k24|k25|k26|k27|k28|k29|k30|k31|k32=>unfold K67.J_;k_is)
  (case z1|z2|z3|z4|z5|z6|z7|z8|z9|z10|z11|z12|z13|z14|z15|z16|z17|z18=>k_is)
  (case X9=>kernel_rfl)
