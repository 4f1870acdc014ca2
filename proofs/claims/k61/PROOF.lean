import PyProof.Rows.All
import Wide.All
import OpenK.AllK
import Wide.FinOn
import Lean
import PyProof.EqAt
import PyProof.EqKinds
import PyProof.TupleCall
import PySem.SetOps
import PyProof.SetScanFacts
import PyProof.Rows.SetFrom
import PyProof.SetRoads
import PyProof.WalksMore
import PyProof.EnumMake
import PyProof.EnumFor
import PyProof.P3In
import PyProof.Rows.Range3
import PyProof.ZipIter
import PyProof.TupleKey
import PyProof.DictKinds
import PyProof.Rows.SumAny
import PyProof.Rows.SortRev
import PyProof.Rows.SeqMore
import PyProof.ReprRoads
import PyProof.ReprText
import PyProof.ReprBulk
import PyProof.Rows.AssignMoreSeq
import KE.KMinKey
import KE.KLam
import PySem.Challenge.RW_manyleaves_k61_made
set_option compiler.extract_closed false
section
set_option Elab.async false
set_option linter.all false
set_option maxRecDepth 100000
namespace L2
open PySem PySem.Spec PyProof.Rows
abbrev Key:=Sum Int Str
def keyIs:Key→Value→Bool
 | .inl k,v=>Value.isInt k v
 | .inr x,v=>Value.isStrOf x v
def keyH (w:World):Key→Int
 | .inl k=>hashInt k
 | .inr x=>hashStr w x
theorem keyIs_shape:∀ {k:Key} {v:Value},keyIs k v=true→(∃ i t,k=Sum.inl i∧v=Value.int i t)∨(∃ x t,k=Sum.inr x∧v=Value.str x t)
 | .inl i,v,h=>by
  obtain⟨t,e⟩:=Value.isInt_shape (k:=i) (v:=v) h;exact .inl ⟨i,t,rfl,e⟩
 | .inr x,v,h=>by
  obtain⟨t,e⟩:=Value.isStrOf_shape (x:=x) (v:=v) h;exact .inr ⟨x,t,rfl,e⟩
theorem keyIs_int (i:Int)(t:Tok):keyIs (.inl i) (.int i t)=true:=by simp[keyIs,Value.isInt]
theorem keyIs_str (x:Str)(t:Tok):keyIs (.inr x) (.str x t)=true:=by simp[keyIs,Value.isStrOf]
theorem key_ll (a b:Int):decide ((Sum.inl a:Key)=Sum.inl b)=(a == b):=by
 by_cases e:a=b
 ·subst e;simp
 ·have h:¬ (Sum.inl a:Key)=Sum.inl b:=fun q=>e (Sum.inl.inj q)
  rw[decide_eq_false h];exact (beq_eq_false_iff_ne.mpr e).symm
theorem key_rr (a b:Str):decide ((Sum.inr a:Key)=Sum.inr b)=decide (a=b):=by
 by_cases e:a=b
 ·subst e;simp
 ·have h:¬ (Sum.inr a:Key)=Sum.inr b:=fun q=>e (Sum.inr.inj q)
  rw[decide_eq_false h,decide_eq_false e]
theorem key_lr (a:Int)(b:Str):decide ((Sum.inl a:Key)=Sum.inr b)=false:=decide_eq_false (fun q=>nomatch q)
theorem key_rl (a:Str)(b:Int):decide ((Sum.inr a:Key)=Sum.inl b)=false:=decide_eq_false (fun q=>nomatch q)
def mixKind (prog:Program)(w:World):PySem.KeyKind prog w Key where
 is:=keyIs
 hash:=keyH w
 inj:=fun v a b ha hb=>by
  rcases keyIs_shape ha with ⟨i,t,rfl,rfl⟩ | ⟨x,t,rfl,rfl⟩
  ·rcases keyIs_shape hb with ⟨j,u,rfl,e⟩ | ⟨y,u,rfl,e⟩
   ·injection e with e1 _;rw[e1]
   ·exact nomatch e
  ·rcases keyIs_shape hb with ⟨j,u,rfl,e⟩ | ⟨y,u,rfl,e⟩
   ·exact nomatch e
   ·injection e with e1 _;rw[e1]
 byValue:=fun k v h=>by
  rcases keyIs_shape h with ⟨i,t,rfl,rfl⟩ | ⟨x,t,rfl,rfl⟩<;>rfl
 pyHash:=fun hv h=>by
  rcases keyIs_shape hv with ⟨i,t,rfl,rfl⟩ | ⟨x,t,rfl,rfl⟩
  ·exact wpAny_pyHash_int h
  ·exact wpAny_pyHash_str h
 eqBool:=fun hu hv h=>by
  rcases keyIs_shape hu with ⟨i,t,rfl,rfl⟩ | ⟨x,t,rfl,rfl⟩
  ·rcases keyIs_shape hv with ⟨j,u,rfl,rfl⟩ | ⟨y,u,rfl,rfl⟩
   ·rw[key_ll] at h;exact wpAny_eqBool_int h
   ·rw[key_lr] at h;exact SeqAt.EqAt.int_str i t y u _ _ _ _ h
  ·rcases keyIs_shape hv with ⟨j,u,rfl,rfl⟩ | ⟨y,u,rfl,rfl⟩
   ·rw[key_rl] at h;exact SeqAt.EqAt.str_int x t j u _ _ _ _ h
   ·rw[key_rr] at h;exact wpAny_eqBool_str h
 «strs»:=fun k x t v h=>by
  rcases keyIs_shape h with ⟨i,u,rfl,e⟩ | ⟨y,u,rfl,e⟩
  ·exact nomatch e
  ·injection e with e1 _
   subst e1;cases v<;>rfl
theorem mixKind_int (prog:Program)(w:World)(i:Int)(t:Tok):(mixKind prog w).is (.inl i) (.int i t)=true:=keyIs_int i t
theorem mixKind_str (prog:Program)(w:World)(x:Str)(t:Tok):(mixKind prog w).is (.inr x) (.str x t)=true:=keyIs_str x t
end L2
namespace L2
open PySem PySem.Spec PyProof.Rows
inductive V where
 | non | bl (b:Bool) | int (i:Int) | str (x:Str) | byt (b:Array UInt8) | flt (b:UInt64) | ref (a:Addr) | ty (n:String)
 deriving DecidableEq
def RelV:V→Value→Prop
 | .non,u=>u=Value.none
 | .bl b,u=>u=Value.bool b
 | .int i,u=>∃ t,u=Value.int i t
 | .str x,u=>∃ t,u=Value.str x t
 | .byt b,u=>∃ t,u=Value.bytes b t
 | .flt b,u=>∃ t,u=Value.float b t
 | .ref a,u=>u=Value.ref a
 | .ty n,u=>u=Value.type n
abbrev Vals:List V→List Value→Prop:=Paired RelV
theorem Vals.length {xs:List V}{us:List Value}(r:Vals xs us):xs.length=us.length:=Paired.length r
theorem Vals.get:∀ {xs:List V} {us:List Value} {i:Nat} {x:V},Vals xs us→xs[i]?=some x→∃ u,us[i]?=some u∧RelV x u
 | _,_,_,_,.nil,e=>by simp at e
 | _,_,0,_,.cons r _,e=>by simp at e;subst e;exact⟨_,rfl,r⟩
 | _,_,i+1,x,.cons _ t,e=>by
  obtain⟨u,h1,h2⟩:=Vals.get (i:=i) (x:=x) t (by simpa using e);exact⟨u,by simpa using h1,h2⟩
theorem Vals.set {x:V}{u:Value}(r:RelV x u):∀ {xs:List V} {us:List Value} (i:Nat),Vals xs us→Vals (xs.set i x) (us.set i u)
 | _,_,_,.nil=>.nil
 | _,_,0,.cons _ t=>.cons r t
 | _,_,i+1,.cons q t=>.cons q (Vals.set r i t)
theorem Vals.append:∀ {xs ys:List V} {us ws:List Value},Vals xs us→Vals ys ws→Vals (xs++ys) (us++ws)
 | _,_,_,_,.nil,s=>s
 | _,_,_,_,.cons r t,s=>.cons r (Vals.append t s)
theorem Vals.take:∀ {xs:List V} {us:List Value} (n:Nat),Vals xs us→Vals (xs.take n) (us.take n)
 | _,_,0,_=>.nil
 | _,_,_+1,.nil=>.nil
 | _,_,n+1,.cons r t=>.cons r (Vals.take n t)
theorem Vals.drop:∀ {xs:List V} {us:List Value} (n:Nat),Vals xs us→Vals (xs.drop n) (us.drop n)
 | _,_,0,r=>r
 | _,_,_+1,.nil=>.nil
 | _,_,n+1,.cons _ t=>Vals.drop n t
def RelO:Option V→Option Value→Prop
 | some v,some u=>RelV v u
 | none,none=>True
 | _,_=>False
def KV {κ:Type}:List (κ×V)→List (κ×Value)→Prop:=Paired fun (p:κ×V) (q:κ×Value)=>p.1=q.1∧RelV p.2 q.2
def kV:Key→V
 | .inl i=>.int i
 | .inr x=>.str x
inductive HO where
 /-- a list -/
 | lst (xs:List V)
 /-- a tuple (never changes) -/
 | tup (xs:List V)
 /-- a dict whose keys are ints and texts;one whose keys are tuples of ints and texts (the empty one is both) -/
 | dK (kvs:List (Key×V)) | dT (kvs:List (List Key×V))
 /-- a set of ints: its members,its size -/
 | set (S:Int→Bool) (n:Nat)
 /-- an instance of the class at C,its dict at dx,its attributes -/
 | ins (C dx:Addr) (fs:List (Str×V))
 /-- the dict of the instance at x -/
 | own (x:Addr)
 /-- the dict of an exception -/
 | xd (fs:List (Str×V))
 /-- a bound method,f of x -/
 | met (f x:Addr)
 /-- a range object lo,lo+1,.. below hi -/
 | rng (lo hi:Int)
 /-- a thing that is known to the object (the script;a dict while a loop walks it): read,never written while it is so -/
 | frz (o:Obj) (u:HO)
 /-- a code object's table -/
 | tbl (ps:Array Value)
 /-- any other thing,by what is true of its one object (a def of one's own: SetO a S n:=HO.ext fun h=>..) -/
 | ext (φ:Heap→Prop)
abbrev Hp:=Addr→Option HO
def upd (H:Hp)(a:Addr)(o:HO):Hp:=fun b=>if b=a then some o else H b
theorem upd_same {H:Hp}{a:Addr}{o:HO}:upd H a o a=some o:=by unfold upd;rw[if_pos rfl]
theorem upd_ne {H:Hp}{a b:Addr}{o:HO}(h:b≠a):upd H a o b=H b:=by unfold upd;rw[if_neg h]
theorem ne_of_none {H:Hp}{a b:Addr}{o:HO}(h:H a=some o)(h':H b=none):a≠b:=by
 intro e;subst e;rw[h] at h';cases h'
section
variable (P:Program)(w:World)
def ObjOk (H:Hp)(h:Heap)(a:Addr):HO→Prop
 | .lst xs=>xs.length≤sizeLine∧∃ (its:List Value) (n:Nat),Vals xs its∧h.get? a=some {cls:=.type "list",data:=.seq its.toArray n}
 | .tup xs=>xs.length≤sizeLine∧∃ its:List Value,Vals xs its∧IsTup h a its.toArray
 | .dK kvs=>kvs.length≤sizeLine∧(a == sysModules)=false∧∃ vs,KV kvs vs∧h.DictOf (mixKind P w) a vs
 | .dT kvs=>kvs.length≤sizeLine∧(a == sysModules)=false∧∃ xs:List (List Key×Addr×Value),
   Paired (fun (p:List Key×V) (q:List Key×Addr×Value)=>p.1=q.1∧H q.2.1=some (.tup (p.1.map kV))∧RelV p.2 q.2.2) kvs xs ∧
   ∃ o es ep,h.get? a=some o∧o.ExactDict∧o.data=.dict es ep∧es.toList=xs.map (entryOfKey (tupleKind (mixKind P w)))∧(xs.map (·.1)).Nodup
 | .set S n=>h.SetOf (intKind P w) a S n
 | .ins C dx fs=>H dx=some (.own a)∧fs.length≤1000∧dx≠a∧h.get? a=some (PySem.W.instObj C dx) ∧
   ∃ mA,h.Ns1 dx mA∧(∀ f,RelO (fs.lookup f) (mA f))∧PySem.Within mA (fs.map (·.1))
 | .own _=>∃ o,h.get? a=some o
 | .xd fs=>∃ mA,h.Ns1 a mA∧∀ f,RelO (fs.lookup f) (mA f)
 | .rng lo hi=>∃ t u v,h.get? a=some {cls:=.type "range",data:=.fields #[.int lo t,.int hi u,.int 1 v]}
 | .frz o u=>h.get? a=some o∧ObjOk H h a u
 | .tbl ps=>h.get? a=some {cls:=.none,data:=.fields ps}
 | .met f x=>h.get? a=some (PySem.W.methodObj (.ref f) (.ref x))
 | .ext φ=>φ h∧(∃ o,h.get? a=some o)∧∀ h1 h2:Heap,φ h1→(∀ o,h1.get? a=some o→h2.get? a=some o)→φ h2
def HOk (H:Hp)(h:Heap):Prop:=∀ a o,H a=some o→ObjOk P w H h a o
end
section
variable {P:Program}{w:World}{H H':Hp}{h h':Heap}{a:Addr}{o:HO}
theorem ObjOk.lt (x:ObjOk P w H h a o):a<h.objs.size:=by
 cases o with
 | lst xs=>obtain⟨_,_,_,_,e⟩:=x;exact Heap.lt_size e
 | tup xs=>obtain⟨_,_,_,p⟩:=x;exact p.lt
 | dK kvs=>obtain⟨_,_,_,_,o,_,_,e,_⟩:=x;exact Heap.lt_size e
 | dT kvs=>obtain⟨_,_,_,_,o,_,_,e,_⟩:=x;exact Heap.lt_size e
 | set S n=>obtain⟨o,_,_,_,e,_⟩:=x;exact Heap.lt_size e
 | ins C dx fs=>obtain⟨_,_,_,e,_⟩:=x;exact Heap.lt_size e
 | own y=>obtain⟨_,e⟩:=x;exact Heap.lt_size e
 | xd fs=>obtain⟨_,⟨_,_,_,e,_⟩,_⟩:=x;exact Heap.lt_size e
 | rng lo hi=>obtain⟨_,_,_,e⟩:=x;exact Heap.lt_size e
 | frz ob u=>obtain⟨e,_⟩:=x;exact Heap.lt_size e
 | tbl ps=>exact Heap.lt_size (show h.get? a=some _ from x)
 | met f y=>exact Heap.lt_size (show h.get? a=some _ from x)
 | ext φ=>obtain⟨_,⟨_,e⟩,_⟩:=x;exact Heap.lt_size e
theorem Paired.mapP {α β:Type}{F G:α→β→Prop}:∀ {l₁:List α} {l₂:List β},Paired F l₁ l₂→(∀ a b,F a b→G a b)→Paired G l₁ l₂
 | _,_,.nil,_=>.nil
 | _,_,.cons r t,f=>.cons (f _ _ r) (Paired.mapP t f)
theorem ObjOk.stay (x:ObjOk P w H h a o)(k:∀ b u,(b=a∨H b=some (.own a))→h.get? b=some u→h'.get? b=some u)
  (ho:∀ b,H b=some (.own a)→H' b=some (.own a)) (ht:∀ b xs,H b=some (.tup xs)→H' b=some (.tup xs)):ObjOk P w H' h' a o:=by
 induction o with
 | lst xs=>obtain⟨z,its,n,r,e⟩:=x;exact⟨z,its,n,r,k _ _ (.inl rfl) e⟩
 | tup xs=>obtain⟨z,its,r,ob,e,c⟩:=x;exact⟨z,its,r,ob,k _ _ (.inl rfl) e,c⟩
 | dK kvs=>obtain⟨z,y,vs,r,ob,es,ep,e,c⟩:=x;exact⟨z,y,vs,r,ob,es,ep,k _ _ (.inl rfl) e,c⟩
 | dT kvs =>
  obtain⟨z,y,xs,r,ob,es,ep,e,c⟩:=x;exact⟨z,y,xs,Paired.mapP r fun p q z=>⟨z.1,ht _ _ z.2.1,z.2.2⟩,ob,es,ep,k _ _ (.inl rfl) e,c⟩
 | set S n=>obtain⟨ob,es,ep,t,e,c⟩:=x;exact⟨ob,es,ep,t,k _ _ (.inl rfl) e,c⟩
 | ins C dx fs =>
  obtain⟨d,z,ne,e,mA,⟨od,es,ep,e2,c⟩,r⟩:=x;exact⟨ho _ d,z,ne,k _ _ (.inl rfl) e,mA,⟨od,es,ep,k _ _ (.inr d) e2,c⟩,r⟩
 | own y=>obtain⟨ob,e⟩:=x;exact⟨ob,k _ _ (.inl rfl) e⟩
 | xd fs=>obtain⟨mA,⟨od,es,ep,e,c⟩,r⟩:=x;exact⟨mA,⟨od,es,ep,k _ _ (.inl rfl) e,c⟩,r⟩
 | rng lo hi=>obtain⟨t,u,v,e⟩:=x;exact⟨t,u,v,k _ _ (.inl rfl) e⟩
 | frz ob u ih=>obtain⟨e,q⟩:=x;exact⟨k _ _ (.inl rfl) e,ih q⟩
 | tbl ps =>
  have e:h.get? a=some {cls:=.none,data:=.fields ps}:=x;show h'.get? a=some {cls:=.none,data:=.fields ps};exact k a _ (.inl rfl) e
 | met f y =>
  have e:h.get? a=some (PySem.W.methodObj (.ref f) (.ref y)):=x;show h'.get? a=some (PySem.W.methodObj (.ref f) (.ref y));exact k a _ (.inl rfl) e
 | ext φ=>obtain⟨p,⟨o,e⟩,st⟩:=x;exact⟨st _ _ p fun o q=>k _ _ (.inl rfl) q,⟨o,k _ _ (.inl rfl) e⟩,st⟩
theorem HOk.lt (x:HOk P w H h)(e:H a=some o):a<h.objs.size:=(x a o e).lt
theorem HOk.fresh (x:HOk P w H h)(e:h.objs.size≤a):H a=none:=by
 cases q:H a with
 | none=>rfl
 | some u=>exact absurd (Nat.lt_of_lt_of_le (x.lt q) e) (Nat.lt_irrefl _)
theorem HOk.kept (x:HOk P w H h)(k:∀ b u,h.get? b=some u→h'.get? b=some u):HOk P w H h':=fun a o e =>
 (x a o e).stay (fun b u _ q=>k b u q) (fun _ q=>q) fun _ _ q=>q
theorem HOk.laid (x:HOk P w H h)(k:∀ b u,h.get? b=some u→h'.get? b=some u)(hp:h.objs.size≤a)(new:ObjOk P w (upd H a o) h' a o):HOk P w (upd H a o) h':=fun b u e=>by
 have hn:=x.fresh hp;by_cases hb:b=a
 ·subst hb;rw[upd_same] at e;cases e;exact new
 ·rw[upd_ne hb] at e;exact (x b u e).stay (fun c v _ q=>k c v q) (fun c q=>by rw[upd_ne (ne_of_none q hn)];exact q) fun c xs q=>by rw[upd_ne (ne_of_none q hn)];exact q
end
def Rd (H:Hp)(a:Addr)(u:HO):Prop:=H a=some u∨∃ o,H a=some (.frz o u)
theorem Rd.of {H:Hp}{a:Addr}{u:HO}(h:H a=some u):Rd H a u:=.inl h
theorem Rd.ok {P:Program}{w:World}{H:Hp}{h:Heap}{a:Addr}{u:HO}(r:Rd H a u)(x:HOk P w H h):ObjOk P w H h a u:=by
 rcases r with r | ⟨o,r⟩
 ·exact x a u r
 ·obtain⟨_,q⟩:=x a _ r;exact q
def Mut:Option HO→Prop
 | some (.lst _)=>True
 | some (.dK _)=>True
 | some (.dT _)=>True
 | some (.set _ _)=>True
 | some (.ins _ _ _)=>True
 | some (.ext _)=>True
 | _=>False
section
variable {P:Program}{w:World}{H:Hp}{h h':Heap}{x e:Addr}{o':HO}
theorem HOk.write (ok:HOk P w H h)(mu:Mut (H x))(he:e=x∨H e=some (.own x))(k:∀ b u,b≠e→h.get? b=some u→h'.get? b=some u)(heo:∃ u,h'.get? e=some u)
  (new:ObjOk P w (upd H x o') h' x o'):HOk P w (upd H x o') h':=fun b u q=>by
 have nown:∀ c y,H c=some (.own y)→c≠x:=fun c y r z=>by subst z;rw[r] at mu;exact mu
 have ntup:∀ c xs,H c=some (.tup xs)→c≠x:=fun c xs r z=>by subst z;rw[r] at mu;exact mu
 by_cases hb:b=x
 ·subst hb;rw[upd_same] at q;cases q;exact new
 ·rw[upd_ne hb] at q;by_cases hbe:b=e
  ·have q':H b=some (.own x):=by
    rcases he with z | z
    ·exact absurd (hbe.trans z) hb
    ·rw[hbe];exact z
   rw[q] at q';cases q';obtain⟨v,hv⟩:=heo;exact⟨v,by rw[hbe];exact hv⟩
  ·refine (ok b u q).stay (fun c v hc r=>k c v ?_ r) (fun c r=>by rw[upd_ne (nown c b r)];exact r) fun c xs r=>by rw[upd_ne (ntup c xs r)];exact r
   rcases hc with rfl | hc
   ·exact hbe
   ·rintro rfl;rcases he with z | z
    ·exact nown c b hc z
    ·rw[hc] at z;cases z;exact hb rfl
end
structure Un (fs ex:List Addr)(H H':Hp)(h h':Heap):Prop where
 keep:∀ b o,h.get? b=some o→H b=none→b∉fs→b∉ex→h'.get? b=some o
 slot:∀ b o,h.get? b=some o→H b=none→b∈fs→b∉ex→∃ sl,h'.get? b=some {o with slots:=sl}
 free:∀ b o,h.get? b=some o→H b=none→b∉ex→H' b=none
 there:∀ b o,h.get? b=some o→b∉ex→∃ o',h'.get? b=some o'
 tups:∀ b xs,H b=some (.tup xs)→H' b=some (.tup xs)
 frzs:∀ b o u,H b=some (.frz o u)→H' b=some (.frz o u)
 tbls:∀ b ps,H b=some (.tbl ps)→∃ more,H' b=some (.tbl (ps++more))
section
variable {fs fs' ex ex':List Addr}{H H1 H2:Hp}{h h1 h2 h':Heap}{a x e:Addr}{o:HO}
theorem Un.any (u:Un fs ex H H1 h h1){b:Addr}{ob:Obj}(q:h.get? b=some ob)(n:H b=none)(hx:b∉ex):∃ sl,h1.get? b=some {ob with slots:=sl}:=by
 by_cases hb:b∈fs
 ·exact u.slot b ob q n hb hx
 ·exact⟨ob.slots,u.keep b ob q n hb hx⟩
theorem Un.trans (a:Un fs ex H H1 h h1)(b:Un fs ex H1 H2 h1 h2):Un fs ex H H2 h h2 where
 keep:=fun c ob q n hc hx=>b.keep c ob (a.keep c ob q n hc hx) (a.free c ob q n hx) hc hx
 slot:=fun c ob q n hc hx=>by
  obtain⟨sl,e1⟩:=a.slot c ob q n hc hx;obtain⟨sl',e2⟩:=b.slot c _ e1 (a.free c ob q n hx) hc hx;exact⟨sl',e2⟩
 free:=fun c ob q n hx=>by
  obtain⟨o',e1⟩:=a.there c ob q hx;exact b.free c o' e1 (a.free c ob q n hx) hx
 there:=fun c ob q hx=>by
  obtain⟨o',e1⟩:=a.there c ob q hx;exact b.there c o' e1 hx
 tups:=fun c xs q=>b.tups c xs (a.tups c xs q)
 frzs:=fun c ob xs q=>b.frzs c ob xs (a.frzs c ob xs q)
 tbls:=fun c ps q=>by
  obtain⟨m1,e1⟩:=a.tbls c ps q;obtain⟨m2,e2⟩:=b.tbls c _ e1;exact⟨m1++m2,by rw[e2,Array.append_assoc]⟩
theorem Un.kept (k:∀ b u,h.get? b=some u→h'.get? b=some u):Un fs ex H H h h' :=
 ⟨fun b ob q _ _ _=>k b ob q,fun b ob q _ _ _=>⟨ob.slots,k b ob q⟩,fun _ _ _ n _=>n,fun b ob q _=>⟨ob,k b ob q⟩,fun _ _ q=>q,fun _ _ _ q=>q,fun _ ps q=>⟨#[],by rw[q];simp⟩⟩
theorem Un.refl:Un fs ex H H h h:=Un.kept fun _ _ q=>q
theorem Un.laid (k:∀ b u,h.get? b=some u→h'.get? b=some u)(hp:h.objs.size≤a)(hn:H a=none):Un fs ex H (upd H a o) h h' where
 keep:=fun b u q _ _ _=>k b u q
 slot:=fun b u q _ _ _=>⟨u.slots,k b u q⟩
 free:=fun b u q n _=>by rw[upd_ne (Nat.ne_of_lt (Nat.lt_of_lt_of_le (Heap.lt_size q) hp))];exact n
 there:=fun b u q _=>⟨u,k b u q⟩
 tups:=fun b xs q=>by rw[upd_ne (ne_of_none q hn)];exact q
 frzs:=fun b u xs q=>by rw[upd_ne (ne_of_none q hn)];exact q
 tbls:=fun b ps q=>⟨#[],by rw[upd_ne (ne_of_none q hn),q];simp⟩
theorem Un.write (mu:Mut (H x))(he:e=x∨H e=some (.own x))(k:∀ b u,b≠e→h.get? b=some u→h'.get? b=some u)(heo:∃ u,h'.get? e=some u):Un fs ex H (upd H x o) h h':=by
 have hx:∀ b,H b=none→b≠x:=fun b n z=>by subst z;rw[n] at mu;exact mu
 have hb:∀ b,H b=none→b≠e:=fun b n z=>by
  subst z;rcases he with r | r
  ·exact hx b n r
  ·rw[n] at r;cases r
 have hm:∀ b u,H b=some u→¬ Mut (some u)→b≠x:=fun b u q nm z=>by subst z;rw[q] at mu;exact nm mu
 refine⟨fun b u q n _ _=>k b u (hb b n) q,fun b u q n _ _=>⟨u.slots,k b u (hb b n) q⟩,fun b u q n _=>by rw[upd_ne (hx b n)];exact n,fun b u q _=>?_,
  fun b xs q=>by rw[upd_ne (hm b _ q fun z=>z)];exact q,fun b u xs q=>by rw[upd_ne (hm b _ q fun z=>z)];exact q,fun b ps q=>⟨#[],by rw[upd_ne (hm b _ q fun z=>z),q];simp⟩⟩
 by_cases hbe:b=e
 ·subst hbe;exact heo
 ·exact⟨u,k b u hbe q⟩
theorem Un.mono (u:Un fs ex H H1 h h1)(hs:∀ b∈fs,b∈fs')(hx:∀ b∈ex,b∈ex'):Un fs' ex' H H1 h h1 :=
 ⟨fun b ob q n hb he=>u.keep b ob q n (fun z=>hb (hs b z)) fun z=>he (hx b z),fun _ _ q n _ he=>u.any q n fun z=>he (hx _ z),fun b ob q n he=>u.free b ob q n fun z=>he (hx b z),fun b ob q he=>u.there b ob q fun z=>he (hx b z),u.tups,u.frzs,u.tbls⟩
end
def trk (h:Heap)(H:Hp):List Addr:=(List.range h.objs.size).filter fun a=>(H a).isSome
def hidT (h:Heap)(H:Hp):Heap:=PySem.W.hideAll h (trk h H)
theorem hidT_size (h:Heap)(H:Hp):(hidT h H).objs.size=h.objs.size:=PySem.W.hideAll_size _ _
theorem hidT_get {h:Heap}{H:Hp}{b:Addr}{o:Obj}(e:h.get? b=some o)(n:H b=none):(hidT h H).get? b=some o :=
 PySem.W.hideAll_get _ e fun hm=>by
  have q:(H b).isSome=true:=(List.mem_filter.mp hm).2;rw[n] at q;simp at q
theorem of_hidT {h:Heap}{H:Hp}{b:Addr}{o:Obj}(e:(hidT h H).get? b=some o):h.get? b=some o∧H b=none:=by
 have e':h.get? b=some o:=PySem.W.of_hideAll (trk h H) e;refine⟨e',?_⟩;cases q:H b with
 | none=>rfl
 | some x =>
  have hm:b∈trk h H:=List.mem_filter.mpr ⟨List.mem_range.mpr (Heap.lt_size e'),by simp[q]⟩;have z:(hidT h H).get? b=none:=PySem.W.hideAll_none (trk h H) hm;rw[z] at e;cases e
def allNews (g h:Heap)(L:Addr):List (Addr×Obj):=(List.range h.objs.size).filterMap fun a=>if a=L∨(g.get? a).isSome=true then none else (h.get? a).map fun o=>(a,o)
def rest (g h:Heap)(L d:Addr):List (Addr×Obj):=(allNews g h L).filter fun p=>decide (p.1≠d)
end L2
namespace L2
open PySem PySem.Spec PyProof.Rows
structure Mod (K:PySem.W.Frag)(mg:Str→Option Value)(base:Heap):Prop where
 kin:K.In base
 glob:base.Ns mainGlobals mg
 blt:∃ mb,base.Ns builtinsNs mb∧∀ x:Str,x≠"__name__"→mb x=bootBuiltins x
 nolimit:base.NoLimit
structure Cx where
 prog:Program
 w:World
 K:PySem.W.Frag
 mg:Str→Option Value
 base:Heap
 A:Around
 N:List Str
 s₀:Shared
 H₀:Hp
 env:Env
 outer:List Env
 stack:List Env
 ex:List Addr
 fn:Str→Bool
 calm:Bool
 pn:List (Addr×Obj)
 xe:Value→Shared→Prop
def frs (l:List Env):List Addr:=l.filterMap (·.frame)
abbrev Cx.fs (X:Cx):List Addr:=frs X.outer
def Vis (sc:Scope)(x:Str):Prop:=sc.names.lookup x=some .local∨sc.names.lookup x=some .cell∨sc.names.lookup x=some .free
def Loc (sc:Scope)(x:Str):Prop:=sc.names.lookup x=some .local∨sc.names.lookup x=some .cell
def Look (env:Env)(h:Heap)(m:Str→Option Value)(x:Str)(u:Value):Prop :=
 (env.kindOf x=some .local∧m x=some u)∨((env.kindOf x=some .cell∨env.kindOf x=some .free)∧∃ c,env.cells.lookup x=some c∧h.IsCell c (some u))
structure Cx.Ok (X:Cx):Prop where
 mod:Mod X.K X.mg X.base
 kind:X.env.scope.kind=.function
 glob:X.env.globals=mainGlobals
 blt:X.env.builtins=builtinsNs
 above:X.s₀.heap.objs.size≤X.env.locals
 inj:∀ x y c,X.env.cells.lookup x=some c→X.env.cells.lookup y=some c→x=y
 has:∀ x,(X.env.kindOf x=some .cell∨X.env.kindOf x=some .free)→∃ c,X.env.cells.lookup x=some c
 cab:∀ x c,X.fn x=true→X.env.cells.lookup x=some c→X.s₀.heap.objs.size≤c
 hd:X.calm=true→X.A.handled=none
 frames:X.A.frames=some X.stack
 stk:X.stack=X.outer∨(X.stack=X.env::X.outer∧X.env.frame=some X.env.locals)
 exf:∀ b∈X.ex,b≠X.env.locals∧∀ x c,X.env.cells.lookup x=some c→c≠b
 bs:∀ b o,X.base.get? b=some o→X.s₀.heap.get? b=some o∧X.H₀ b=none
 bsz:X.base.objs.size≤X.s₀.heap.objs.size
 noex:∀ b o,X.base.get? b=some o→b∉X.ex
 exfs:∀ b∈X.ex,b∉X.fs
 funs:X.s₀.heap.FunFrames X.base X.outer
 frf:∀ b∈X.fs,X.H₀ b=none
structure Inv (X:Cx)(pins:List (Addr×Obj))(σ:List (Option V))(H:Hp)(s:Shared):Prop where
 ok:X.Ok
 os:s.os=X.s₀.os
 bare:AllBare s.gens
 base:Un X.fs X.ex X.H₀ H X.s₀.heap s.heap
 loc:∃ m,s.heap.Ns X.env.locals m∧∀ (i:Nat) (x:Str) (v:V),X.N[i]?=some x→σ[i]?=some (some v)→Vis X.env.scope x→∃ u,RelV v u∧Look X.env s.heap m x u
 cell:∀ x c,X.env.cells.lookup x=some c→∃ v,s.heap.IsCell c v
 free:H X.env.locals=none
 freeC:∀ x c,X.env.cells.lookup x=some c→H c=none
 pin:∀ p∈X.pn++pins,s.heap.get? p.1=some p.2∧H p.1=none∧p.1≠X.env.locals∧p.1∉X.fs∧∀ v,p.2.data≠.cell v
 hok:HOk X.prog X.w H s.heap
 len:σ.length=X.N.length
section
variable {X:Cx}{pins:List (Addr×Obj)}{σ:List (Option V)}{H H':Hp}{s:Shared}{h':Heap}
theorem Cx.Ok.nofr (ok:X.Ok){b:Addr}{o:Obj}(e:X.base.get? b=some o):b∉X.fs:=fun hb=>by
 have:=(ok.funs.mem hb).1;rw[e] at this;cases this
theorem Inv.bs (I:Inv X pins σ H s):∀ b o,X.base.get? b=some o→s.heap.get? b=some o∧H b=none:=fun b o e =>
 ⟨I.base.keep b o (I.ok.bs b o e).1 (I.ok.bs b o e).2 (I.ok.nofr e) (I.ok.noex b o e),I.base.free b o (I.ok.bs b o e).1 (I.ok.bs b o e).2 (I.ok.noex b o e)⟩
theorem Inv.bk (I:Inv X pins σ H s):∀ b o,X.base.get? b=some o→s.heap.get? b=some o:=fun b o e=>(I.bs b o e).1
theorem Inv.mod (I:Inv X pins σ H s):Mod X.K X.mg X.base:=I.ok.mod
theorem Inv.kIn (I:Inv X pins σ H s):X.K.In s.heap:=I.ok.mod.kin.keeps I.bk
theorem Inv.nolimit (I:Inv X pins σ H s):s.heap.NoLimit:=I.ok.mod.nolimit.keeps I.bk
theorem Inv.lt (I:Inv X pins σ H s):X.env.locals<s.heap.objs.size:=let ⟨_,hn,_⟩:=I.loc;hn.lt
theorem Inv.sz (I:Inv X pins σ H s):X.s₀.heap.objs.size≤s.heap.objs.size:=Nat.le_trans I.ok.above (Nat.le_of_lt I.lt)
theorem Inv.nofs (I:Inv X pins σ H s){a:Addr}(h:s.heap.objs.size≤a):a∉X.fs:=fun hb=>by
 obtain⟨_,o,ho,_⟩:=I.ok.funs.mem hb;exact absurd (Nat.lt_of_lt_of_le (Heap.lt_size ho) (Nat.le_trans I.sz h)) (Nat.lt_irrefl _)
theorem Inv.cne (I:Inv X pins σ H s):∀ x c,X.env.cells.lookup x=some c→c≠X.env.locals:=fun x c e z=>by
 obtain⟨v,o,ho,hd⟩:=I.cell x c e;obtain⟨m,⟨o',es,ep,ho',hd',_⟩,_⟩:=I.loc;rw[z,ho'] at ho;cases ho;rw[hd'] at hd;cases hd
theorem Inv.funs (I:Inv X pins σ H s):s.heap.FunFrames X.base X.outer:=by
 have all:∀ (l:List Env),(∀ b∈frs l,b∈X.fs)→X.s₀.heap.FunFrames X.base l→s.heap.FunFrames X.base l:=by
  intro l;induction l with
  | nil=>intro _ _;trivial
  | cons env r ih =>
   intro hs hl;obtain⟨hk,⟨L,o,hf,hn,ho,hd⟩,hr⟩:=hl;have hL:L∈X.fs:=hs L (by unfold frs;rw[List.filterMap_cons,hf];exact List.mem_cons_self);obtain⟨sl,e⟩:=I.base.slot L o ho (I.ok.frf L hL) hL fun z=>I.ok.exfs L z hL
   exact⟨hk,⟨L,_,hf,hn,e,hd⟩,ih (fun b hb=>hs b (by unfold frs;rw[List.filterMap_cons,hf];exact List.mem_cons_of_mem _ hb)) hr⟩
 exact all X.outer (fun _ hb=>hb) I.ok.funs
theorem Inv.stack (I:Inv X pins σ H s):s.heap.FunFrames X.base X.stack:=by
 rcases I.ok.stk with e | ⟨e,hf⟩
 ·rw[e];exact I.funs
 ·rw[e];obtain⟨m,hn,_⟩:=I.loc;refine .cons (by rw[I.ok.kind];decide) hf hn ?_ I.funs;exact Heap.get?_none_of_le (Nat.le_trans I.ok.bsz I.ok.above)
theorem Inv.stkSub (I:Inv X pins σ H s):∀ b∈frs X.stack,b∈X.env.locals::X.fs:=fun b hb=>by
 rcases I.ok.stk with e | ⟨e,hf⟩
 ·rw[e] at hb;exact List.mem_cons_of_mem _ hb
 ·rw[e] at hb;unfold frs at hb;rw[List.filterMap_cons,hf] at hb;exact hb
theorem Inv.stkFree (I:Inv X pins σ H s):∀ b∈frs X.stack,H b=none:=fun b hb=>by
 rcases List.mem_cons.mp (I.stkSub b hb) with e | hb
 ·rw[e];exact I.free
 ·obtain⟨_,o,ho,_⟩:=I.ok.funs.mem hb;exact I.base.free b o ho (I.ok.frf b hb) fun z=>I.ok.exfs b z hb
theorem Inv.step {g':Array GenState}{t':Nat}{d':Drawn}{ch:List Addr}(I:Inv X pins σ H s)
  (hch:∀ b∈ch,(b∈X.ex∨X.s₀.heap.objs.size≤b)∧b≠X.env.locals∧(∀ x c,X.env.cells.lookup x=some c→c≠b)∧∀ p∈X.pn++pins,p.1≠b)
  (keep:∀ b o,b≠X.env.locals→b∉X.fs→b∉ch→s.heap.get? b=some o→H b=none→h'.get? b=some o)
  (slot:∀ b o,b≠X.env.locals→b∈X.fs→b∉ch→s.heap.get? b=some o→H b=none→∃ sl,h'.get? b=some {o with slots:=sl}) (free:∀ b o,b∉ch→s.heap.get? b=some o→H b=none→H' b=none)
  (there:∀ b o,b∉ch→s.heap.get? b=some o→∃ o',h'.get? b=some o')
  (tups:∀ b xs,H b=some (.tup xs)→H' b=some (.tup xs)) (frzs:∀ b o u,H b=some (.frz o u)→H' b=some (.frz o u)) (tbls:∀ b ps,H b=some (.tbl ps)→∃ more,H' b=some (.tbl (ps++more)))
  (ns:∀ m,s.heap.Ns X.env.locals m→h'.Ns X.env.locals m) (hok:HOk X.prog X.w H' h') (hg:AllBare g') :
  Inv X pins σ H' {s with heap:=h',gens:=g',drawn:=d',toks:=t'}:=by
 have neL:∀ b o,X.s₀.heap.get? b=some o→b≠X.env.locals:=fun b o e=>Nat.ne_of_lt (Nat.lt_of_lt_of_le (Heap.lt_size e) I.ok.above)
 have neC:∀ b o,X.s₀.heap.get? b=some o→b∉X.ex→b∉ch:=fun b o e hx hb=>by
  rcases (hch b hb).1 with z | z
  ·exact hx z
  ·exact absurd (Nat.lt_of_lt_of_le (Heap.lt_size e) z) (Nat.lt_irrefl _)
 have cellK:∀ x c,X.env.cells.lookup x=some c→∀ v,s.heap.IsCell c v→h'.IsCell c v:=fun x c e v ⟨o,ho,hd⟩=>by
  have nch:c∉ch:=fun z=>(hch c z).2.2.1 x c e rfl
  by_cases hc:c∈X.fs
  ·obtain⟨sl,q⟩:=slot c o (I.cne x c e) hc nch ho (I.freeC x c e);exact⟨_,q,hd⟩
  ·exact⟨o,keep c o (I.cne x c e) hc nch ho (I.freeC x c e),hd⟩
 refine⟨I.ok,I.os,hg,⟨fun b o e n hb hx=>?_,fun b o e n hb hx=>?_,fun b o e n hx=>?_,fun b o e hx=>?_,fun b xs e=>tups b xs (I.base.tups b xs e),fun b o xs e=>frzs b o xs (I.base.frzs b o xs e),fun b ps e=>?_⟩,?_,fun x c e=>?_,?_,fun x c e=>?_,fun p hp=>?_,hok,I.len⟩
 ·exact keep b o (neL b o e) hb (neC b o e hx) (I.base.keep b o e n hb hx) (I.base.free b o e n hx)
 ·obtain⟨sl,e1⟩:=I.base.slot b o e n hb hx;obtain⟨sl',e2⟩:=slot b _ (neL b o e) hb (neC b o e hx) e1 (I.base.free b o e n hx);exact⟨sl',e2⟩
 ·obtain⟨o',e1⟩:=I.base.there b o e hx;exact free b o' (neC b o e hx) e1 (I.base.free b o e n hx)
 ·obtain⟨o',e1⟩:=I.base.there b o e hx;exact there b o' (neC b o e hx) e1
 ·obtain⟨m1,e1⟩:=I.base.tbls b ps e;obtain⟨m2,e2⟩:=tbls b _ e1;exact⟨m1++m2,by rw[e2,Array.append_assoc]⟩
 ·obtain⟨m,hn,hl⟩:=I.loc;refine⟨m,ns m hn,fun i x v e1 e2 e3=>?_⟩;obtain⟨u,r,l⟩:=hl i x v e1 e2 e3;refine⟨u,r,?_⟩;rcases l with l | ⟨k,c,e,z⟩
  ·exact .inl l
  ·exact .inr ⟨k,c,e,cellK x c e _ z⟩
 ·obtain⟨v,z⟩:=I.cell x c e;exact⟨v,cellK x c e v z⟩
 ·obtain⟨m,⟨o,_,_,ho,_⟩,_⟩:=I.loc;exact free _ o (fun z=>(hch _ z).2.1 rfl) ho I.free
 ·obtain⟨v,o,ho,hd⟩:=I.cell x c e;exact free c o (fun z=>(hch c z).2.2.1 x c e rfl) ho (I.freeC x c e)
 ·obtain⟨e,n,ne,nf,d⟩:=I.pin p hp;have nch:p.1∉ch:=fun z=>(hch p.1 z).2.2.2 p hp rfl
  exact⟨keep p.1 p.2 ne nf nch e n,free p.1 p.2 nch e n,ne,nf,d⟩
theorem Inv.un {t':Nat}(I:Inv X pins σ H s)(u:Un X.fs [] H H' s.heap h')(hok:HOk X.prog X.w H' h'):Inv X pins σ H' {s with heap:=h',toks:=t'}:=by
 obtain⟨m,⟨o,es,ep,ho,r⟩,_⟩:=id I.loc;obtain⟨sl,hL⟩:=u.any ho I.free (by simp)
 exact I.step (g':=s.gens) (d':=s.drawn) (ch:=[]) (fun _ z=>nomatch z) (fun b o _ hb _ e n=>u.keep b o e n hb (by simp)) (fun b o _ hb _ e n=>u.slot b o e n hb (by simp)) (fun b o _ e n=>u.free b o e n (by simp)) (fun b o _ e=>u.there b o e (by simp)) u.tups u.frzs u.tbls (fun m' hm=>by
  obtain⟨o',es',ep',ho',r'⟩:=hm;rw[ho] at ho';cases ho'
  exact⟨_,es',ep',hL,r'⟩) hok I.bare
theorem Inv.call {g':Array GenState}{t':Nat}{d':Drawn}{ch:List Addr}(I:Inv X pins σ H s)(u:Un (frs X.stack) ch H H' s.heap h')(hok:HOk X.prog X.w H' h')(hg:AllBare g')
  (hch:∀ b∈ch,(b∈X.ex∨X.s₀.heap.objs.size≤b)∧b≠X.env.locals∧(∀ x c,X.env.cells.lookup x=some c→c≠b)∧∀ p∈X.pn++pins,p.1≠b) :
  Inv X pins σ H' {s with heap:=h',gens:=g',drawn:=d',toks:=t'}:=by
 obtain⟨m,⟨o,es,ep,ho,r⟩,_⟩:=id I.loc;obtain⟨sl,hL⟩:=u.any ho I.free fun z=>(hch _ z).2.1 rfl
 exact I.step (ch:=ch) hch (fun b o hL hb hc e n=>u.keep b o e n (fun z=>(List.mem_cons.mp (I.stkSub b z)).elim hL hb) hc) (fun b o _ _ hc e n=>u.any e n hc) (fun b o hc e n=>u.free b o e n hc) (fun b o hc e=>u.there b o e hc) u.tups u.frzs u.tbls (fun m' hm=>by
  obtain⟨o',es',ep',ho',r'⟩:=hm;rw[ho] at ho';cases ho'
  exact⟨_,es',ep',hL,r'⟩) hok hg
theorem Inv.turned {t':Nat}{it:Addr}(I:Inv X pins σ H s)(k:∀ b o,b≠it→s.heap.get? b=some o→h'.get? b=some o)(hn:H it=none)(hL:it≠X.env.locals)
  (h1:it∈X.ex∨X.s₀.heap.objs.size≤it) (h2:∀ x c,X.env.cells.lookup x=some c→c≠it) (h3:∀ p∈X.pn++pins,p.1≠it):Inv X pins σ H {s with heap:=h',toks:=t'}:=by
 have nit:∀ b u,H b=some u→b≠it:=fun b u e z=>by rw[z,hn] at e;cases e
 refine I.step (g':=s.gens) (d':=s.drawn) (ch:=[it]) (fun b hb=>?_) (fun b o _ _ hc e _=>k b o (fun z=>hc (by simp[z])) e) (fun b o _ _ hc e _=>⟨o.slots,k b o (fun z=>hc (by simp[z])) e⟩) (fun _ _ _ _ n=>n)
  (fun b o hc e=>⟨o,k b o (fun z=>hc (by simp[z])) e⟩) (fun _ _ e=>e) (fun _ _ _ e=>e) (fun b ps e=>⟨#[],by rw[e];simp⟩) (fun m hm=>?_) (fun b u e=>?_) I.bare
 ·have e:b=it:=by simpa using hb
  subst e;exact⟨h1,hL,h2,h3⟩
 ·obtain⟨o,es,ep,ho,r⟩:=hm;exact⟨o,es,ep,k _ o (Ne.symm hL) ho,r⟩
 ·refine (I.hok b u e).stay (fun c v hc q=>k c v ?_ q) (fun _ q=>q) fun _ _ q=>q
  rcases hc with z | z
  ·rw[z];exact nit b u e
  ·exact nit c _ z
theorem Inv.tok (I:Inv X pins σ H s)(t:Nat):Inv X pins σ H {s with toks:=t}:=I.un (h':=s.heap) (t':=t) Un.refl I.hok
theorem Inv.kept {t':Nat}(I:Inv X pins σ H s)(k:∀ b u,s.heap.get? b=some u→h'.get? b=some u):Inv X pins σ H {s with heap:=h',toks:=t'}:=I.un (Un.kept k) (I.hok.kept k)
theorem Inv.laid {a:Addr}{o:HO}{t':Nat}(I:Inv X pins σ H s)(k:∀ b u,s.heap.get? b=some u→h'.get? b=some u)(hp:s.heap.objs.size≤a)(new:ObjOk X.prog X.w (upd H a o) h' a o) :
  Inv X pins σ (upd H a o) {s with heap:=h',toks:=t'}:=I.un (Un.laid k hp (I.hok.fresh hp)) (I.hok.laid k hp new)
theorem Inv.write {x e:Addr}{o:HO}{t':Nat}(I:Inv X pins σ H s)(mu:Mut (H x))(he:e=x∨H e=some (.own x))(k:∀ b u,b≠e→s.heap.get? b=some u→h'.get? b=some u)(heo:∃ u,h'.get? e=some u)
  (new:ObjOk X.prog X.w (upd H x o) h' x o):Inv X pins σ (upd H x o) {s with heap:=h',toks:=t'}:=I.un (Un.write mu he k heo) (I.hok.write mu he k heo new)
theorem Inv.pins_of {pins':List (Addr×Obj)}(I:Inv X pins σ H s)(h:∀ p∈pins',s.heap.get? p.1=some p.2∧H p.1=none∧p.1≠X.env.locals∧p.1∉X.fs∧∀ v,p.2.data≠.cell v):Inv X pins' σ H s :=
 ⟨I.ok,I.os,I.bare,I.base,I.loc,I.cell,I.free,I.freeC,fun p hp=>(List.mem_append.mp hp).elim (fun z=>I.pin p (List.mem_append_left _ z)) (h p),I.hok,I.len⟩
theorem nodup_ix {N:List Str}(hN:N.Nodup){i j:Nat}{x:Str}(a:N[i]?=some x)(b:N[j]?=some x):i=j:=by
 obtain⟨h1,e1⟩:=List.getElem?_eq_some_iff.mp a;obtain⟨h2,e2⟩:=List.getElem?_eq_some_iff.mp b;exact (List.getElem_inj hN).mp (e1.trans e2.symm)
theorem store_ok2 {M:Model}{A:Around}{E:Value→Shared→Prop}{i:Nat}{x:Str}{v:V}{u:Value}{Q:Unit→Shared→Prop}(I:Inv X pins σ H s)(hN:X.N.Nodup)(hi:X.N[i]?=some x)(hx:Loc X.env.scope x)(r:RelV v u)
  (h:∀ s',Inv X pins (σ.set i (some v)) H s'→(∃ a,Heap.SameBut a s.heap s'.heap∧(a=X.env.locals∨X.env.cells.lookup x=some a))→Q () s') (hf:X.fn x=true∨X.env.scope.names.lookup x=some .local:=by first | exact .inl rfl | exact .inr rfl | assumption):wpAny M A (storeName X.env x u) Q E s:=by
 obtain⟨m,hn,hl⟩:=id I.loc;have hcls:(X.env.scope.kind == .class || (X.env.scope.kind == .module && X.env.locals != X.env.globals))=false:=by rw[I.ok.kind];rfl
 have hiσ:i<σ.length:=by rw[I.len];exact (List.getElem?_eq_some_iff.mp hi).1
 have cne:=I.cne;have tracked:∀ {a:Addr} {h':Heap},(∃ o,s.heap.get? a=some o∧H a=none)→Heap.SameBut a s.heap h'→HOk X.prog X.w H h':=fun {a h'} ha hs b ob e=>by
  obtain⟨_,_,hfree⟩:=ha;refine (I.hok b ob e).stay (fun c w' hc q=>(hs.2 c ?_).trans q) (fun _ q=>q) fun _ _ q=>q
  rintro rfl;rcases hc with rfl | hc
  ·rw[hfree] at e;cases e
  ·rw[hfree] at hc;cases hc
 rcases hx with hk | hk
 ·refine wpAny_storeName_local hk hn (fun h' hn' hs=>?_) hcls;obtain⟨oL,_,_,hoL,_⟩:=id hn;refine h _ ⟨I.ok,I.os,I.bare,⟨fun b o e n hb hx=>?_,fun b o e n hb hx=>?_,I.base.free,fun b o e hx=>?_,I.base.tups,I.base.frzs,I.base.tbls⟩,⟨_,hn',fun j y v' e1 e2 e3=>?_⟩,fun y c e=>?_,I.free,I.freeC,fun p hp=>?_,tracked ⟨oL,hoL,I.free⟩ hs,by simpa using I.len⟩ ⟨_,hs,.inl rfl⟩
  ·exact (hs.2 b (Nat.ne_of_lt (Nat.lt_of_lt_of_le (Heap.lt_size e) I.ok.above))).trans (I.base.keep b o e n hb hx)
  ·obtain⟨sl,e1⟩:=I.base.slot b o e n hb hx;exact⟨sl,(hs.2 b (Nat.ne_of_lt (Nat.lt_of_lt_of_le (Heap.lt_size e) I.ok.above))).trans e1⟩
  ·obtain⟨o',e1⟩:=I.base.there b o e hx;exact⟨o',(hs.2 b (Nat.ne_of_lt (Nat.lt_of_lt_of_le (Heap.lt_size e) I.ok.above))).trans e1⟩
  ·by_cases hj:j=i
   ·subst hj;rw[hi] at e1;cases e1;rw[List.getElem?_set_self hiσ] at e2;cases e2;exact⟨u,r,.inl ⟨hk,by simp⟩⟩
   ·rw[List.getElem?_set_ne (Ne.symm hj)] at e2;obtain⟨u',r',q⟩:=hl j y v' e1 e2 e3;refine⟨u',r',?_⟩;rcases q with ⟨k,e⟩ | ⟨k,c,e,z⟩
    ·refine .inl ⟨k,?_⟩;have:y≠x:=fun e=>hj (nodup_ix hN e1 (e ▸ hi))
     simp[this,e]
    ·exact .inr ⟨k,c,e,z.sameBut hs (cne y c e)⟩
  ·obtain⟨w',z⟩:=I.cell y c e;exact⟨w',z.sameBut hs (cne y c e)⟩
  ·obtain⟨e,n,ne,nf,d⟩:=I.pin p hp;exact⟨(hs.2 p.1 ne).trans e,n,ne,nf,d⟩
 ·have hfn:X.fn x=true:=by
   rcases hf with z | z
   ·exact z
   ·rw[z] at hk;cases hk
  obtain⟨c,hc⟩:=I.ok.has x (.inl hk);obtain⟨w',z⟩:=I.cell x c hc;refine wpAny_storeName_cell I.ok.kind hk hc z (fun h' hc' hs=>?_);obtain⟨oc,hoc,hocd⟩:=id z;refine h {s with heap:=h'} ⟨I.ok,I.os,I.bare,⟨fun b o e n hb hx=>?_,fun b o e n hb hx=>?_,I.base.free,fun b o e hx=>?_,I.base.tups,I.base.frzs,I.base.tbls⟩,⟨m,hn.sameBut hs (Ne.symm (cne x c hc)),fun j y v' e1 e2 e3=>?_⟩,fun y c' e=>?_,I.free,I.freeC,fun p hp=>?_,tracked ⟨oc,hoc,I.freeC x c hc⟩ hs,by simpa using I.len⟩ ⟨c,hs,.inr hc⟩
  ·exact (hs.2 b (Nat.ne_of_lt (Nat.lt_of_lt_of_le (Heap.lt_size e) (I.ok.cab x c hfn hc)))).trans (I.base.keep b o e n hb hx)
  ·obtain⟨sl,e1⟩:=I.base.slot b o e n hb hx;exact⟨sl,(hs.2 b (Nat.ne_of_lt (Nat.lt_of_lt_of_le (Heap.lt_size e) (I.ok.cab x c hfn hc)))).trans e1⟩
  ·obtain⟨o',e1⟩:=I.base.there b o e hx;exact⟨o',(hs.2 b (Nat.ne_of_lt (Nat.lt_of_lt_of_le (Heap.lt_size e) (I.ok.cab x c hfn hc)))).trans e1⟩
  ·by_cases hj:j=i
   ·subst hj;rw[hi] at e1;cases e1;rw[List.getElem?_set_self hiσ] at e2;cases e2;exact⟨u,r,.inr ⟨.inl hk,c,hc,hc'⟩⟩
   ·rw[List.getElem?_set_ne (Ne.symm hj)] at e2;obtain⟨u',r',q⟩:=hl j y v' e1 e2 e3;refine⟨u',r',?_⟩;rcases q with q | ⟨k,c',e,z'⟩
    ·exact .inl q
    ·refine .inr ⟨k,c',e,z'.sameBut hs ?_⟩;rintro rfl;exact hj (nodup_ix hN e1 (I.ok.inj _ _ _ e hc ▸ hi))
  ·by_cases hcc:c'=c
   ·subst hcc;exact⟨_,hc'⟩
   ·obtain⟨w2,z2⟩:=I.cell y c' e;exact⟨w2,z2.sameBut hs hcc⟩
  ·obtain⟨e,n,ne,nf,d⟩:=I.pin p hp;refine⟨(hs.2 p.1 ?_).trans e,n,ne,nf,d⟩;intro q;rw[q,hoc] at e;have q':oc=p.2:=Option.some.inj e;exact d w' (by rw[← q'];exact hocd)
theorem store_ok {M:Model}{A:Around}{E:Value→Shared→Prop}{i:Nat}{x:Str}{v:V}{u:Value}{Q:Unit→Shared→Prop}(I:Inv X pins σ H s)(hN:X.N.Nodup)(hi:X.N[i]?=some x)(hx:Loc X.env.scope x)(r:RelV v u)
  (h:∀ s',Inv X pins (σ.set i (some v)) H s'→Q () s') (hf:X.fn x=true∨X.env.scope.names.lookup x=some .local:=by first | exact .inl rfl | exact .inr rfl | assumption):wpAny M A (storeName X.env x u) Q E s :=
 store_ok2 I hN hi hx r (fun s' I' _=>h s' I') hf
theorem Inv.call' {s':Shared}{ch:List Addr}(I:Inv X pins σ H s)(ho:s'.os=s.os)(u:Un (frs X.stack) ch H H' s.heap s'.heap)(hok:HOk X.prog X.w H' s'.heap)(hg:AllBare s'.gens)
  (hch:∀ b∈ch,(b∈X.ex∨X.s₀.heap.objs.size≤b)∧b≠X.env.locals∧(∀ x c,X.env.cells.lookup x=some c→c≠b)∧∀ p∈X.pn++pins,p.1≠b):Inv X pins σ H' s':=by
 obtain⟨h',g',d',t',o'⟩:=s';have e:o'=s.os:=ho;subst e;exact I.call (g':=g') (t':=t') (d':=d') u hok hg hch
end
abbrev XK:=Value→Option Addr→Hp→Prop
abbrev St:=List (Option V)
abbrev VK:=V→Hp→Prop
abbrev TE:=St→Hp→VK→Prop
abbrev TT:=St→Hp→(Bool→Hp→Prop)→Prop
abbrev TA:=St→Hp→(List V→Hp→Prop)→Prop
structure Ends where
 nx:St→Hp→Prop
 rt:VK
 bk:St→Hp→Prop:=fun _ _=>False
 ct:St→Hp→Prop:=fun _ _=>False
abbrev TS:=Ends→St→Hp→Prop
def EP (X:Cx)(pins:List (Addr×Obj))(σ:St)(Q:VK)(u:Value)(s':Shared):Prop:=∃ v H',Inv X pins σ H' s'∧RelV v u∧Q v H'
def TP (X:Cx)(pins:List (Addr×Obj))(σ:St)(Q:Bool→Hp→Prop)(b:Bool)(s':Shared):Prop:=∃ H',Inv X pins σ H' s'∧Q b H'
def AP (X:Cx)(pins:List (Addr×Obj))(σ:St)(Q:List V→Hp→Prop)(us:List Value)(s':Shared):Prop:=∃ vs H',Inv X pins σ H' s'∧Vals vs us∧Q vs H'
def SP (X:Cx)(pins:List (Addr×Obj))(D:Ends)(f:Flow)(s':Shared):Prop :=
 match f with
 | .next=>∃ σ' H',Inv X pins σ' H' s'∧D.nx σ' H'
 | .brk=>∃ σ' H',Inv X pins σ' H' s'∧D.bk σ' H'
 | .cont=>∃ σ' H',Inv X pins σ' H' s'∧D.ct σ' H'
 | .ret u=>∃ v σ' H',Inv X pins σ' H' s'∧RelV v u∧D.rt v H'
def PE (X:Cx)(e:Expr)(t:TE):Prop :=
 ∀ (pins:List (Addr×Obj)) (s:Shared) (σ:St) (H:Hp) (Q:VK),Inv X pins σ H s→t σ H Q→wpAny (model X.prog X.w) X.A (eval e X.env) (EP X pins σ Q) X.xe s
def PT (X:Cx)(e:Expr)(t:TT):Prop :=
 ∀ (pins:List (Addr×Obj)) (s:Shared) (σ:St) (H:Hp) (Q:Bool→Hp→Prop),Inv X pins σ H s→t σ H Q→wpAny (model X.prog X.w) X.A (isTrue e X.env (eval e X.env)) (TP X pins σ Q) X.xe s
def PW (X:Cx)(e:Expr)(t:TT):Prop :=
 ∀ (whole:Sem Value) (pins:List (Addr×Obj)) (s:Shared) (σ:St) (H:Hp) (Q:Bool→Hp→Prop),Inv X pins σ H s→t σ H Q→wpAny (model X.prog X.w) X.A (isTrue e X.env whole) (TP X pins σ Q) X.xe s
theorem PW.pt {X:Cx}{e:Expr}{t:TT}(h:PW X e t):PT X e t:=h _
def PA (X:Cx)(es:List Expr)(t:TA):Prop :=
 ∀ (pos:Pos) (pins:List (Addr×Obj)) (s:Shared) (σ:St) (H:Hp) (Q:List V→Hp→Prop),Inv X pins σ H s→t σ H Q→wpAny (model X.prog X.w) X.A (spliced (backTo pos (starEach es X.env))) (AP X pins σ Q) X.xe s
def PS (X:Cx)(st:Stmt)(t:TS):Prop :=
 ∀ (pins:List (Addr×Obj)) (s:Shared) (σ:St) (H:Hp) (D:Ends),Inv X pins σ H s→t D σ H→wpAny (model X.prog X.w) X.A (exec st X.env) (SP X pins D) X.xe s
def PSs (X:Cx)(st:List Stmt)(t:TS):Prop :=
 ∀ (pins:List (Addr×Obj)) (s:Shared) (σ:St) (H:Hp) (D:Ends),Inv X pins σ H s→t D σ H→wpAny (model X.prog X.w) X.A (execs st X.env) (SP X pins D) X.xe s
theorem thn {α:Type}{t:Sem α}{Q Q':α→Shared→Prop}{M:Model}{A:Around}{E:Value→Shared→Prop}{s:Shared}(h:wpAny M A t Q E s)(hQ:∀ a s,Q a s→Q' a s):wpAny M A t Q' E s:=wpAny_mono h hQ fun _ _ x=>x
end L2
namespace L2
open PySem PySem.Spec PyProof.Rows
section
variable {X:Cx}
theorem bin {a b:Expr}{ta tb:TE}(ha:PE X a ta)(hb:PE X b tb){pins:List (Addr×Obj)}{s:Shared}{σ:St}{H:Hp}{R:V→V→Hp→Prop}(I:Inv X pins σ H s)(h:ta σ H fun x H1=>tb σ H1 fun y H2=>R x y H2)
  {α:Type} {Q:α→Shared→Prop} {f:Value→Value→Sem α}
  (hf:∀ v u s2 x y H2,Inv X pins σ H2 s2→RelV x v→RelV y u→R x y H2→wpAny (model X.prog X.w) X.A (f v u) Q X.xe s2) :
  wpAny (model X.prog X.w) X.A (eval a X.env) (fun v s₁=>wpAny (model X.prog X.w) X.A (eval b X.env) (fun u s₂=>wpAny (model X.prog X.w) X.A (f v u) Q X.xe s₂) X.xe s₁) X.xe s:=by
 refine thn (ha pins s σ H _ I h) fun v s1 ⟨x,H1,I1,r1,q1⟩=>?_
 refine thn (hb pins s1 σ H1 _ I1 q1) fun u s2 ⟨y,H2,I2,r2,q2⟩=>?_
 exact hf v u s2 x y H2 I2 r1 r2 q2
def tVar (i:Nat):TE:=fun σ H Q=>∃ v,σ[i]?=some (some v)∧Q v H
def tC (v:V):TE:=fun _ H Q=>Q v H
theorem pe_var {i:Nat}{x:Str}{pos:Pos}(hN:X.N[i]?=some x)(hv:Vis X.env.scope x)(hd:(x == ("__debug__":Str))=false:=by decide)(hcd:(x == ("__classdict__":Str))=false:=by decide):PE X (.Name x pos) (tVar i):=by
 intro pins s σ H Q I h;obtain⟨v,e,h⟩:=h;obtain⟨m,hn,hl⟩:=I.loc;obtain⟨u,r,l⟩:=hl i x v hN e hv;have fin:EP X pins σ Q u s:=⟨v,H,I,r,h⟩
 rcases l with ⟨hk,hm⟩ | ⟨hk,c,hc,hcell⟩
 ·exact wpAny_Name (wpAny_loadName_local I.ok.kind hk hn hm fin) hd
 ·rcases hk with hk | hk
  ·exact wpAny_Name (wpAny_loadName_cell I.ok.kind hk hc hcell fin) hd
  ·exact wpAny_Name (wpAny_loadName_free I.ok.kind hk hc hcell fin hcd) hd
theorem pe_int {i j pos}:PE X (.Constant (.int i) j pos) (tC (.int i)):=fun _ _ _ H _ I h=>wpAny_Constant_int ⟨.int i,H,I.tok _,⟨_,rfl⟩,h⟩
theorem pe_bl {b j pos}:PE X (.Constant (.bool b) j pos) (tC (.bl b)):=fun _ _ _ H _ I h=>Constant_bool ⟨.bl b,H,I,rfl,h⟩
theorem pe_str {x j pos}:PE X (.Constant (.str x) j pos) (tC (.str x)):=fun _ _ _ H _ I h=>Calls.Constant_str ⟨.str x,H,I.tok _,⟨_,rfl⟩,h⟩
def Gl (X:Cx)(x:Str):Prop:=X.env.kindOf x=some .globalImplicit
theorem ld_glob {E:Value→Shared→Prop}{pins:List (Addr×Obj)}{s:Shared}{σ:St}{H:Hp}{x:Str}{u:Value}{pos:Pos}{Q:Value→Shared→Prop}(I:Inv X pins σ H s)(hg:Gl X x)(hm:X.mg x=some u)(h:Q u s)
  (hd:(x == ("__debug__":Str))=false:=by decide):wpAny (model X.prog X.w) X.A (eval (.Name x pos) X.env) Q E s :=
 Calls.Name_function_global I.ok.kind hg (Calls.loadGlobal_global (by rw[I.ok.glob];exact I.mod.glob.keeps I.bk) hm h) hd
theorem ld_blt {E:Value→Shared→Prop}{pins:List (Addr×Obj)}{s:Shared}{σ:St}{H:Hp}{x:Str}{u:Value}{pos:Pos}{Q:Value→Shared→Prop}(I:Inv X pins σ H s)(hg:Gl X x)(hm:X.mg x=none)(hv:bootBuiltins x=some u)(h:Q u s)
  (hn:x≠"__name__":=by decide) (hd:(x == ("__debug__":Str))=false:=by decide):wpAny (model X.prog X.w) X.A (eval (.Name x pos) X.env) Q E s:=by
 obtain⟨mb,h1,h2⟩:=I.mod.blt;exact Calls.Name_function_global I.ok.kind hg (Calls.loadGlobal_builtin (by rw[I.ok.glob];exact I.mod.glob.keeps I.bk) hm (by rw[I.ok.blt];exact h1.keeps I.bk) ((h2 x hn).trans hv) h) hd
theorem pe_glob {x:Str}{v:V}{u:Value}{pos:Pos}(hg:Gl X x)(hm:X.mg x=some u)(r:RelV v u)(hd:(x == ("__debug__":Str))=false:=by decide):PE X (.Name x pos) (tC v) :=
 fun _ _ _ H _ I h=>ld_glob I hg hm ⟨v,H,I,r,h⟩ hd
variable {a b:Expr}{ta tb:TE}{pos:Pos}
def PC (X:Cx)(op:CmpOp)(a b:Expr)(t:TE):Prop :=
 ∀ (pins:List (Addr×Obj)) (s:Shared) (σ:St) (H:Hp) (Q:VK),Inv X pins σ H s→t σ H Q →
  wpAny (model X.prog X.w) X.A (eval a X.env) (fun v s₁=>wpAny (model X.prog X.w) X.A (eval b X.env) (fun u s₂=>wpAny (model X.prog X.w) X.A (compareOp op v u) (EP X pins σ Q) X.xe s₂) X.xe s₁) X.xe s
theorem nobehind (b:Expr){op:CmpOp}(h:op≠.In)(h2:op≠.NotIn):behindInMarks op b=false:=by
 have e1:(op == CmpOp.In)=false:=by cases op<;>first | rfl | exact absurd rfl h
 have e2:(op == CmpOp.NotIn)=false:=by cases op<;>first | rfl | exact absurd rfl h2
 cases b<;>simp[behindInMarks,e1,e2]
def tIsN (ta:TE):TE:=fun σ H Q=>ta σ H fun x H1=>Q (.bl (decide (x=.non))) H1
def tNotN (ta:TE):TE:=fun σ H Q=>ta σ H fun x H1=>Q (.bl (!decide (x=.non))) H1
def tB (t:TE):TT:=fun σ H Q=>t σ H fun x H1=>∃ c,x=.bl c∧Q c H1
theorem pt_cmp {op:CmpOp}{t:TE}(h:PC X op a b t)(h1:behindInMarks op b=false:=by first | exact nobehind _ (by decide) (by decide) | rfl):PT X (.Compare a [op] [b] pos) (tB t):=by
 intro pins s σ H Q I hw;refine wpAny_isTrue_Compare1 (thn (h pins s σ H _ I hw) fun v s1 h1=>thn h1 fun u s2 h2=>thn h2 fun c s3 ⟨x,H1,I1,r1,q1⟩=>?_) h1;obtain⟨d,rfl,q⟩:=q1;cases r1;exact wpAny_truthy_bool ⟨H1,I1,q⟩
theorem pt_val {e:Expr}{t:TE}(h:PE X e t)(he:∀ whole,isTrue e X.env whole=(do let v ← whole;standAt e.pos;holding [v] (truthy v)):=by intro _;rfl):PT X e (tB t):=by
 intro pins s σ H Q I hw;refine isTrue_plain (thn (h pins s σ H _ I hw) fun v s1 ⟨x,H1,I1,r1,q1⟩=>?_) (he _);obtain⟨d,rfl,q⟩:=q1;cases r1;exact wpAny_truthy_bool ⟨H1,I1,q⟩
variable {tA tB':TT}{rest:List Expr}
def tAnd (t u:TT):TT:=fun σ H Q=>t σ H fun c H1=>if c=true then u σ H1 Q else Q false H1
def tOr (t u:TT):TT:=fun σ H Q=>t σ H fun c H1=>if c=true then Q true H1 else u σ H1 Q
def tNot (t:TT):TT:=fun σ H Q=>t σ H fun c H1=>Q (!c) H1
theorem pw_or1 (ha:PT X a tA):PW X (.BoolOp .Or [a] pos) tA:=by
 intro wh pins s σ H Q I h;refine isTrue_or (thn (ha pins s σ H Q I h) fun c s1 e=>?_);cases c with
 | false=>exact isTrue_or_nil e
 | true=>exact e
theorem pw_or (ha:PT X a tA)(hb:PW X (.BoolOp .Or (b::rest) pos) tB'):PW X (.BoolOp .Or (a::b::rest) pos) (tOr tA tB'):=by
 intro wh pins s σ H Q I h;refine isTrue_or (thn (ha pins s σ H _ I h) fun c s1 ⟨H1,I1,q1⟩=>?_);cases c with
 | true=>exact⟨H1,I1,q1⟩
 | false=>exact hb wh pins s1 σ H1 Q I1 q1
theorem pt_not (ha:PT X a tA):PT X (.UnaryOp .Not a pos) (tNot tA):=by
 intro pins s σ H Q I h;exact isTrue_not (ha pins s σ H (fun c H1=>Q (!c) H1) I h)
def tAndV (ta tb:TE):TE:=fun σ H Q=>ta σ H fun x H1=>∃ c,x=.bl c∧if c=true then tb σ H1 Q else Q (.bl false) H1
def tOrV (ta tb:TE):TE:=fun σ H Q=>ta σ H fun x H1=>∃ c,x=.bl c∧if c=true then Q (.bl true) H1 else tb σ H1 Q
def tNotV (ta:TE):TE:=fun σ H Q=>ta σ H fun x H1=>∃ c,x=.bl c∧Q (.bl (!c)) H1
theorem pe_one {op}{t:TE}(h:PE X a t):PE X (.BoolOp op [a] pos) t:=fun pins s σ H Q I hw=>BoolOp_one (h pins s σ H Q I hw)
theorem pe_and (ha:PE X a ta)(hb:PE X (.BoolOp .And (b::rest) pos) tb):PE X (.BoolOp .And (a::b::rest) pos) (tAndV ta tb):=by
 intro pins s σ H Q I h;refine BoolOp_and (thn (ha pins s σ H _ I h) fun v s1 ⟨x,H1,I1,r1,q1⟩=>?_);obtain⟨c,rfl,q1⟩:=q1;cases r1;refine wpAny_truthy_bool ?_;cases c with
 | true=>exact hb pins s1 σ H1 Q I1 q1
 | false=>exact⟨.bl false,H1,I1,rfl,q1⟩
theorem pe_or (ha:PE X a ta)(hb:PE X (.BoolOp .Or (b::rest) pos) tb):PE X (.BoolOp .Or (a::b::rest) pos) (tOrV ta tb):=by
 intro pins s σ H Q I h;refine BoolOp_or (thn (ha pins s σ H _ I h) fun v s1 ⟨x,H1,I1,r1,q1⟩=>?_);obtain⟨c,rfl,q1⟩:=q1;cases r1;refine wpAny_truthy_bool ?_;cases c with
 | false=>exact hb pins s1 σ H1 Q I1 q1
 | true=>exact⟨.bl true,H1,I1,rfl,q1⟩
theorem pe_not (ha:PE X a ta):PE X (.UnaryOp .Not a pos) (tNotV ta):=by
 intro pins s σ H Q I h;refine UnaryOp_ (thn (ha pins s σ H _ I h) fun v s1 ⟨x,H1,I1,r1,q1⟩=>?_);obtain⟨c,rfl,q1⟩:=q1;cases r1;exact not_of (wpAny_truthy_bool ⟨.bl (!c),H1,I1,rfl,q1⟩)
end
end L2
namespace L2
open PySem PySem.Spec PyProof.Rows
def SqL (K:PySem.W.Frag)(H:Hp)(a:Addr)(xs:List V):Prop :=
 Rd H a (.lst xs) ∨
  ∃ (o:Obj) (its:Array Value) (n:Nat),K.lookup a=some o∧o.cls=.type "list"∧o.dict=none∧o.data=.seq its n∧its.size≤sizeLine∧Vals xs its.toList
def SqT (K:PySem.W.Frag)(H:Hp)(a:Addr)(xs:List V):Prop :=
 Rd H a (.tup xs) ∨
  ∃ (o:Obj) (its:Array Value) (n:Nat),K.lookup a=some o∧o.cls=.type "tuple"∧o.data=.seq its n∧its.size≤sizeLine∧Vals xs its.toList
def absV:Value→Option V
 | .none=>some .non
 | .bool b=>some (.bl b)
 | .int i _=>some (.int i)
 | .str x _=>some (.str x)
 | .bytes b _=>some (.byt b)
 | .float b _=>some (.flt b)
 | .ref a=>some (.ref a)
 | .type n=>some (.ty n)
 | _=>none
theorem RelV.abs {x:V}{u:Value}(r:RelV x u):absV u=some x:=by
 cases x with
 | non=>cases r;rfl
 | bl _=>cases r;rfl
 | int _=>obtain⟨t,rfl⟩:=r;rfl
 | str _=>obtain⟨t,rfl⟩:=r;rfl
 | byt _=>obtain⟨t,rfl⟩:=r;rfl
 | flt _=>obtain⟨t,rfl⟩:=r;rfl
 | ref _=>cases r;rfl
 | ty _=>cases r;rfl
theorem RelV.inj {x y:V}{u:Value}(r:RelV x u)(q:RelV y u):x=y:=Option.some.inj (r.abs.symm.trans q.abs)
theorem Vals.inj:∀ {xs ys:List V} {us:List Value},Vals xs us→Vals ys us→xs=ys
 | _,_,_,.nil,.nil=>rfl
 | _,_,_,.cons r t,.cons r' t'=>by rw[r.inj r',Vals.inj t t']
section
variable {X:Cx}{pins:List (Addr×Obj)}{σ:St}{H:Hp}{s:Shared}{a:Addr}{xs ys:List V}
theorem SqL.of {K:PySem.W.Frag}(h:H a=some (.lst xs)):SqL K H a xs:=.inl (.inl h)
theorem SqT.of {K:PySem.W.Frag}(h:H a=some (.tup xs)):SqT K H a xs:=.inl (.inl h)
theorem Inv.list (I:Inv X pins σ H s)(h:SqL X.K H a xs):∃ its:List Value,Vals xs its∧PlainL s.heap a its.toArray∧xs.length≤sizeLine:=by
 rcases h with h | ⟨o,its,n,hk,hc,hd,hs,hz,r⟩
 ·obtain⟨z,its,n,r,e⟩:=h.ok I.hok;exact⟨its,r,⟨_,n,e,rfl,rfl,rfl⟩,z⟩
 ·refine⟨its.toList,r,⟨o,n,I.kIn a o hk,hc,hd,by simpa using hs⟩,?_⟩;have e:=r.length;simp only[Array.length_toList] at e;omega
theorem Inv.tuple (I:Inv X pins σ H s)(h:SqT X.K H a xs):∃ its:List Value,Vals xs its∧IsTup s.heap a its.toArray∧xs.length≤sizeLine:=by
 rcases h with h | ⟨o,its,n,hk,hc,hs,hz,r⟩
 ·obtain⟨z,its,r,p⟩:=h.ok I.hok;exact⟨its,r,p,z⟩
 ·refine⟨its.toList,r,⟨o,I.kIn a o hk,hc,n,by simpa using hs⟩,?_⟩;have e:=r.length;simp only[Array.length_toList] at e;omega
theorem Inv.list_inj (I:Inv X pins σ H s)(h:SqL X.K H a xs)(h':SqL X.K H a ys):xs=ys:=by
 obtain⟨its,r,⟨o,n,e,_,_,d⟩,_⟩:=I.list h;obtain⟨its',r',⟨o',n',e',_,_,d'⟩,_⟩:=I.list h';rw[e] at e';cases e';rw[d] at d';injection d' with d1 _
 have:its=its':=by simpa using congrArg Array.toList d1
 subst this;exact r.inj r'
theorem Inv.tuple_inj (I:Inv X pins σ H s)(h:SqT X.K H a xs)(h':SqT X.K H a ys):xs=ys:=by
 obtain⟨its,r,⟨o,e,_,n,d⟩,_⟩:=I.tuple h;obtain⟨its',r',⟨o',e',_,n',d'⟩,_⟩:=I.tuple h';rw[e] at e';cases e';rw[d] at d';injection d' with d1 _
 have:its=its':=by simpa using congrArg Array.toList d1
 subst this;exact r.inj r'
end
abbrev Cx.wish (X:Cx)(E:Value→Shared→Prop):Cx:={X with xe:=E}
abbrev Cx.nox (X:Cx):Cx:=X.wish fun _ _=>False
theorem Cx.Ok.wish {X:Cx}(ok:X.Ok)(E:Value→Shared→Prop):(X.wish E).Ok :=
 ⟨ok.mod,ok.kind,ok.glob,ok.blt,ok.above,ok.inj,ok.has,ok.cab,ok.hd,ok.frames,ok.stk,ok.exf,ok.bs,ok.bsz,ok.noex,ok.exfs,ok.funs,ok.frf⟩
theorem Cx.Ok.unwish {X:Cx}{E:Value→Shared→Prop}(ok:(X.wish E).Ok):X.Ok :=
 ⟨ok.mod,ok.kind,ok.glob,ok.blt,ok.above,ok.inj,ok.has,ok.cab,ok.hd,ok.frames,ok.stk,ok.exf,ok.bs,ok.bsz,ok.noex,ok.exfs,ok.funs,ok.frf⟩
section
variable {X:Cx}{pins:List (Addr×Obj)}{σ:St}{H:Hp}{s:Shared}{E:Value→Shared→Prop}
theorem Inv.wish (I:Inv X pins σ H s)(E:Value→Shared→Prop):Inv (X.wish E) pins σ H s:=⟨I.ok.wish E,I.os,I.bare,I.base,I.loc,I.cell,I.free,I.freeC,I.pin,I.hok,I.len⟩
theorem Inv.unwish (I:Inv (X.wish E) pins σ H s):Inv X pins σ H s:=⟨I.ok.unwish,I.os,I.bare,I.base,I.loc,I.cell,I.free,I.freeC,I.pin,I.hok,I.len⟩
theorem SP.unwish {D:Ends}{f:Flow}{s':Shared}(h:SP (X.wish E) pins D f s'):SP X pins D f s':=by
 cases f with
 | next=>obtain⟨σ',H',I,q⟩:=h;exact⟨σ',H',I.unwish,q⟩
 | brk=>obtain⟨σ',H',I,q⟩:=h;exact⟨σ',H',I.unwish,q⟩
 | cont=>obtain⟨σ',H',I,q⟩:=h;exact⟨σ',H',I.unwish,q⟩
 | ret u=>obtain⟨v,σ',H',I,r,q⟩:=h;exact⟨v,σ',H',I.unwish,r,q⟩
theorem PE.nox {e:Expr}{t:TE}(h:PE X.nox e t):PE X e t:=fun pins s σ H Q I hw =>
 wpAny_mono (h pins s σ H Q (I.wish _) hw) (fun _ _ ⟨v,H',I',r,q⟩=>⟨v,H',I'.unwish,r,q⟩) fun _ _ z=>False.elim z
theorem PT.nox {e:Expr}{t:TT}(h:PT X.nox e t):PT X e t:=fun pins s σ H Q I hw =>
 wpAny_mono (h pins s σ H Q (I.wish _) hw) (fun _ _ ⟨H',I',q⟩=>⟨H',I'.unwish,q⟩) fun _ _ z=>False.elim z
theorem PSs.nox {st:List Stmt}{t:TS}(h:PSs X.nox st t):PSs X st t:=fun pins s σ H D I hw =>
 wpAny_mono (h pins s σ H D (I.wish _) hw) (fun _ _ q=>q.unwish) fun _ _ z=>False.elim z
end
section
variable {X:Cx}{st:Stmt}{rest:List Stmt}{t u:TS}{e:Expr}{te:TE}{pos:Pos}
def tNext:TS:=fun D σ H=>D.nx σ H
def tSeq (t u:TS):TS:=fun D σ H=>t {D with nx:=u D} σ H
theorem pss_nil:PSs X [] tNext:=fun _ _ σ H _ I h=>wpAny_execs_nil ⟨σ,H,I,h⟩
theorem pss_cons (h1:PS X st t)(h2:PSs X rest u):PSs X (st::rest) (tSeq t u):=by
 intro pins s σ H D I h;refine wpAny_execs_cons (thn (h1 pins s σ H {D with nx:=u D} I h) fun f s1 q=>?_);cases f with
 | next =>
  obtain⟨σ',H',I',q⟩:=q;exact h2 pins s1 σ' H' D I' q
 | ret v=>exact q
 | brk=>exact q
 | cont=>exact q
theorem pss_one (h1:PS X st t):PSs X [st] t:=by
 intro pins s σ H D I h;refine wpAny_execs_cons (thn (h1 pins s σ H D I h) fun f s1 q=>?_);cases f with
 | next=>exact wpAny_execs_nil q
 | ret v=>exact q
 | brk=>exact q
 | cont=>exact q
theorem Inv.quiet {pins:List (Addr×Obj)}{σ:St}{H:Hp}{s:Shared}(I:Inv X pins σ H s):interactive X.env=false:=by simp[interactive,I.ok.kind]
def tDrop (te:TE):TS:=fun D σ H=>te σ H fun _ H1=>D.nx σ H1
theorem ps_expr (he:PE X e te)(hs:swapsWith e none pos.line X.env=pure false:=by rfl):PS X (.Expr e pos) (tDrop te):=by
 intro pins s σ H D I h;exact wpAny_Expr_any (thn (he pins s σ H _ I h) fun v s1 ⟨x,H1,I1,r1,q1⟩=>⟨σ,H1,I1,q1⟩) I.quiet hs
def tRet (te:TE):TS:=fun D σ H=>te σ H D.rt
theorem ps_ret (he:PE X e te):PS X (.Return (some e) pos) (tRet te):=by
 intro pins s σ H D I h;exact wpAny_Return_some (thn (he pins s σ H _ I h) fun v s1 ⟨x,H1,I1,r1,q1⟩=>⟨x,σ,H1,I1,r1,q1⟩)
def tRetN:TS:=fun D _ H=>D.rt .non H
def tIfS (c:TT)(t u:TS):TS:=fun D σ H=>c σ H fun b H1=>if b=true then t D σ H1 else u D σ H1
theorem ps_if {c:Expr}{a b:List Stmt}{tc:TT}(hc:PT X c tc)(ha:PSs X a t)(hb:PSs X b u):PS X (.If c a b pos) (tIfS tc t u):=by
 intro pins s σ H D I h;refine wpAny_If (thn (hc pins s σ H _ I h) fun d s1 ⟨H1,I1,q1⟩=>?_);cases d with
 | true=>exact ha pins s1 σ H1 D I1 q1
 | false=>exact hb pins s1 σ H1 D I1 q1
end
abbrev TG:=V→St→Hp→(St→Hp→Prop)→Prop
abbrev TGs:=List V→St→Hp→(St→Hp→Prop)→Prop
def PG (X:Cx)(target:Expr)(t:TG):Prop :=
 ∀ (pins:List (Addr×Obj)) (s:Shared) (σ:St) (H:Hp) (v:V) (u:Value) (Q:St→Hp→Prop),Inv X pins σ H s→RelV v u→t v σ H Q →
  wpAny (model X.prog X.w) X.A (assign target X.env u) (fun _ s'=>∃ σ' H',Inv X pins σ' H' s'∧Q σ' H') X.xe s
def PGs (X:Cx)(ts:List Expr)(t:TGs):Prop :=
 ∀ (pins:List (Addr×Obj)) (s:Shared) (σ:St) (H:Hp) (vs:List V) (us:List Value) (Q:St→Hp→Prop),Inv X pins σ H s→Vals vs us→t vs σ H Q →
  wpAny (model X.prog X.w) X.A (assignInOrder ((assignEach ts X.env).map (·.2)) us) (fun _ s'=>∃ σ' H',Inv X pins σ' H' s'∧Q σ' H') X.xe s
abbrev TSet:=V→V→V→Hp→(Hp→Prop)→Prop
def PSet (X:Cx)(t:TSet):Prop :=
 ∀ (pins:List (Addr×Obj)) (s:Shared) (σ:St) (H:Hp) (o i v:V) (ov iv u:Value) (Q:Hp→Prop),Inv X pins σ H s→RelV o ov→RelV i iv→RelV v u→t o i v H Q →
  wpAny (model X.prog X.w) X.A (setItem ov iv u) (fun _ s'=>∃ H',Inv X pins σ H' s'∧Q H') X.xe s
section
variable {X:Cx}{pos:Pos}
def gName (i:Nat):TG:=fun v σ H Q=>Q (σ.set i (some v)) H
theorem pg_name {i:Nat}{x:Str}(hN:X.N.Nodup)(hi:X.N[i]?=some x)(hx:Loc X.env.scope x)(hf:X.fn x=true∨X.env.scope.names.lookup x=some .local:=by first | exact .inl rfl | exact .inr rfl | assumption):PG X (.Name x pos) (gName i):=by
 intro pins s σ H v u Q I r h;exact wpAny_assign_Name (store_ok I hN hi hx r (fun s' I'=>⟨_,H,I',h⟩) hf)
def gNil:TGs:=fun vs σ H Q=>vs=[]∧Q σ H
def gCons (t:TG)(u:TGs):TGs:=fun vs σ H Q=>∃ v r,vs=v::r∧t v σ H fun σ' H'=>u r σ' H' Q
theorem pgs_nil:PGs X [] gNil:=by
 intro pins s σ H vs us Q I r h;obtain⟨e,h⟩:=h;subst e;cases r;exact assignInOrder_nil ⟨σ,H,I,h⟩
theorem pgs_cons {e:Expr}{es:List Expr}{t:TG}{u:TGs}(h1:PG X e t)(h2:PGs X es u)
  (hs:(assignEach (e::es) X.env).map (·.2)=assign e X.env::(assignEach es X.env).map (·.2):=by rfl):PGs X (e::es) (gCons t u):=by
 intro pins s σ H vs us Q I r h;obtain⟨v,vr,e1,h⟩:=h;subst e1;cases r with
 | cons r rr =>
  rw[hs];refine assignInOrder_cons (thn (h1 pins s σ H _ _ _ I r h) fun _ s1 ⟨σ1,H1,I1,q1⟩=>?_);exact h2 pins s1 σ1 H1 _ _ Q I1 rr q1
def gTup (K:PySem.W.Frag)(n:Nat)(t:TGs):TG:=fun v σ H Q=>∃ a xs,v=.ref a∧SqT K H a xs∧xs.length=n∧t xs σ H Q
theorem pg_tup {es:List Expr}{k:Nat}{t:TGs}{n:Nat}(hc:X.calm=true)(h:PGs X es t)
  (hn:(assignEach es X.env).length=n:=by rfl) (hst:(assignEach es X.env).findIdx? (·.1)=none:=by rfl):PG X (.Tuple es k pos) (gTup X.K n t):=by
 intro pins s σ H v u Q I r hw;obtain⟨a,xs,e1,hq,hl,hw⟩:=hw;subst e1;cases r;obtain⟨its,rv,ht,hz⟩:=I.tuple hq;refine assign_Tuple_tuple (I.ok.hd hc) ht (by simp[hn,← hl,rv.length]) hst fun h' hx=>?_
 have I1:Inv X pins σ H {s with heap:=h'}:=I.kept (t':=s.toks) fun b o e=>hx b o (Nat.ne_of_lt (Heap.lt_size e)) e
 exact h pins _ σ H xs _ Q I1 (by simpa using rv) hw
def gSub (to ti:TE)(t:TSet):TG:=fun v σ H Q=>to σ H fun o H1=>ti σ H1 fun i H2=>t o i v H2 fun H3=>Q σ H3
theorem pg_sub {o i:Expr}{to ti:TE}{t:TSet}(ho:PE X o to)(hi:PE X i ti)(hs:PSet X t)
  (ha:∀ v,assign (.Subscript o i pos) X.env v=(do
   let ov ← holding [v] (eval o X.env)
   let iv ← holding [v,ov] (eval i X.env)
   standAt pos
   holding [v,ov,iv] (setItem ov iv v)
   release [v,ov,iv] []):=by intro _;rfl):PG X (.Subscript o i pos) (gSub to ti t):=by
 intro pins s σ H v u Q I r h;rw[ha];refine wpAny_bind (wpAny_holding (thn (ho pins s σ H _ I h) fun ov s1 ⟨x,H1,I1,r1,q1⟩=>?_));refine wpAny_bind (wpAny_holding (thn (hi pins s1 σ H1 _ I1 q1) fun iv s2 ⟨y,H2,I2,r2,q2⟩=>?_));refine wpAny_bind (wpAny_standAt (wpAny_bind (wpAny_holding (thn (hs pins s2 σ H2 x y v ov iv u _ I2 r1 r2 r q2) fun _ s3 ⟨H3,I3,q3⟩=>?_))));exact wpAny_release ⟨σ,H3,I3,q3⟩
def tAsg (te:TE)(g:TG):TS:=fun D σ H=>te σ H fun x H1=>g x σ H1 D.nx
theorem ps_asg {tg e:Expr}{te:TE}{g:TG}(he:PE X e te)(hg:PG X tg g)(hs:swapsWithSole [tg] e pos.line X.env=pure false:=by rfl)(hw:swappedStores [tg] e X.env=pure none:=by rfl)
  (h1:(assignEach [tg] X.env).map (·.2)=[assign tg X.env]:=by rfl):PS X (.Assign [tg] e pos) (tAsg te g):=by
 intro pins s σ H D I h;refine wpAny_Assign_stores (thn (he pins s σ H _ I h) fun v s1 ⟨x,H1,I1,r1,q1⟩=>?_) hs hw;rw[h1];exact thn (hg pins s1 σ H1 x v _ I1 r1 q1) fun _ s2 q=>q
theorem ps_set {i:Nat}{x:Str}{e:Expr}{te:TE}{pos':Pos}(hN:X.N.Nodup)(hi:X.N[i]?=some x)(hx:Loc X.env.scope x)(he:PE X e te)(hs:swapsWith e (some (.Name x pos')) pos.line X.env=pure false:=by rfl)(hf:X.fn x=true∨X.env.scope.names.lookup x=some .local:=by first | exact .inl rfl | exact .inr rfl | assumption) :
  PS X (.Assign [.Name x pos'] e pos) (tAsg te (gName i)):=by
 intro pins s σ H D I h;refine wpAny_Assign_Name (thn (he pins s σ H _ I h) fun v s1 ⟨y,H1,I1,r1,q1⟩=>?_) hs;exact store_ok I1 hN hi hx r1 (fun s2 I2=>⟨_,H1,I2,q1⟩) hf
end
section
variable {X:Cx}{pos:Pos}
end
structure It where
 go:Nat→Hp→Prop
 yld:Nat→Hp→V→Hp→Prop
 stop:Nat→Hp→Prop
def FpOk (X:Cx)(pins:List (Addr×Obj))(H:Hp)(b:Addr):Prop :=
 H b=none∧b≠X.env.locals∧b∉X.fs∧(b∈X.ex∨X.s₀.heap.objs.size≤b)∧(∀ x c,X.env.cells.lookup x=some c→c≠b)∧∀ p∈X.pn++pins,p.1≠b
theorem Inv.fpOk {X:Cx}{pins:List (Addr×Obj)}{σ:St}{H H':Hp}{s:Shared}{b:Addr}(I:Inv X pins σ H s)(hb:s.heap.objs.size≤b)(hn:H' b=none):FpOk X pins H' b:=by
 refine⟨hn,Nat.ne_of_gt (Nat.lt_of_lt_of_le I.lt hb),I.nofs hb,.inr (Nat.le_trans I.sz hb),fun x c e z=>?_,fun p hp z=>?_⟩
 ·obtain⟨v,q⟩:=I.cell x c e;exact absurd (Nat.lt_of_lt_of_le q.lt (by rw[z];exact hb)) (Nat.lt_irrefl _)
 ·exact absurd (Nat.lt_of_lt_of_le (Heap.lt_size (I.pin p hp).1) (by rw[z];exact hb)) (Nat.lt_irrefl _)
structure Turn (P:Program)(w:World)(K:PySem.W.Frag)(tg:Expr)(J:It)(fp:List Addr)(it:Addr)(tn:Nat→Heap→Prop):Prop where
 mem:it∈fp
 obj:∀ i h,tn i h→∀ b∈fp,∃ o,h.get? b=some o∧∀ v,o.data≠.cell v
 keep:∀ i h h',tn i h→(∀ b∈fp,∀ o,h.get? b=some o→h'.get? b=some o)→tn i h'
 item:∀ (X:Cx),X.prog=P→X.w=w→X.K=K→X.calm=true→∀ (i:Nat) (pins:List (Addr×Obj)) (s:Shared) (σ:St) (H:Hp) (E:Value→Shared→Prop),Inv X pins σ H s→(∀ b∈fp,FpOk X pins H b)→tn i s.heap→J.go i H →
  wpAny (model P w) X.A (pyNext (.ref it)) (fun r s1=>∃ u,r=some u ∧
   wpAny (model P w) X.A (letOwnedTupleGo tg (.ref it) u) (fun _ s2=>∃ x H',Inv X pins σ H' s2∧RelV x u∧J.yld i H x H'∧tn (i+1) s2.heap∧∀ b∈fp,H' b=none) E s1) E s
 done:∀ (X:Cx),X.prog=P→X.w=w→X.K=K→X.calm=true→∀ (i:Nat) (pins:List (Addr×Obj)) (s:Shared) (σ:St) (H:Hp) (E:Value→Shared→Prop),Inv X pins σ H s→(∀ b∈fp,FpOk X pins H b)→tn i s.heap→J.stop i H →
  wpAny (model P w) X.A (pyNext (.ref it)) (fun r s1=>r=none∧Inv X pins σ H s1) E s
 self:∀ (A:Around) (i:Nat) (s:Shared) (Q:Value→Shared→Prop) (E:Value→Shared→Prop),tn i s.heap→Q (.ref it) s→wpAny (model P w) A (pyIter (.ref it)) Q E s
abbrev TI:=St→Hp→(It→Hp→Prop)→Prop
def PIE (X:Cx)(pins:List (Addr×Obj))(σ:St)(tg:Expr)(R:It→Hp→Prop)(itv:Value)(s2:Shared):Prop :=
 ∃ (it:Addr) (fp:List Addr) (tn:Nat→Heap→Prop) (J:It) (H':Hp),itv=.ref it∧Inv X pins σ H' s2∧Turn X.prog X.w X.K tg J fp it tn∧tn 0 s2.heap∧(∀ b∈fp,FpOk X pins H' b)∧R J H'
def PI (X:Cx)(tg iter:Expr)(wi:TI):Prop :=
 ∀ (pins:List (Addr×Obj)) (s:Shared) (σ:St) (H:Hp) (R:It→Hp→Prop),Inv X pins σ H s→wi σ H R →
  wpAny (model X.prog X.w) X.A (eval iter X.env) (fun v s1=>wpAny (model X.prog X.w) X.A (pyIter v) (PIE X pins σ tg R) X.xe s1) X.xe s
theorem go_of {M:Model}{A:Around}{E:Value→Shared→Prop}{s:Shared}{tg:Expr}{it:Addr}{u:Value}{o:Obj}{n:String}{vs:Array Value}{Q:Unit→Shared→Prop}(ho:s.heap.get? it=some o)(hc:o.cls=.type n)(hd:o.data=.fields vs)
    (hn:["enumerate", "zip", "dict_itemiterator", "dict_reverseitemiterator", "odict_iterator", "itertools.zip_longest", "itertools.pairwise"].contains n=false) (hQ:Q () s):wpAny M A (letOwnedTupleGo tg (.ref it) u) Q E s:=by
  unfold letOwnedTupleGo;cases tg<;>first
    | exact wpAny_pure hQ
    | (cases u<;>first
        | exact wpAny_pure hQ
        | (refine wpAny_bind (wpAny_load ho ?_)
           rw[hc,hd];show wpAny M A (if (["enumerate", "zip", "dict_itemiterator", "dict_reverseitemiterator", "odict_iterator", "itertools.zip_longest", "itertools.pairwise"].contains n && vs[0]? == some (rawInt _))=true then _ else _) Q E s;rw[if_neg (by intro h;rw[hn,Bool.false_and] at h;cases h)]
           exact wpAny_pure hQ))
def Itl (K:PySem.W.Frag)(a:Addr):It :=
 ⟨fun i H=>∃ xs x,SqL K H a xs∧xs[i]?=some x,fun i H x H'=>H'=H∧∀ xs,SqL K H a xs→xs[i]?=some x,fun i H=>∃ xs,SqL K H a xs∧xs.length≤i⟩
def Itt (K:PySem.W.Frag)(a:Addr):It :=
 ⟨fun i H=>∃ xs x,SqT K H a xs∧xs[i]?=some x,fun i H x H'=>H'=H∧∀ xs,SqT K H a xs→xs[i]?=some x,fun i H=>∃ xs,SqT K H a xs∧xs.length≤i⟩
def Itr (lo:Int)(n:Nat):It:=⟨fun i _=>i<n,fun i H x H'=>H'=H∧x=.int (lo+i),fun i _=>n≤i⟩
theorem turn_list {P:Program}{w:World}{K:PySem.W.Frag}{tg:Expr}(a it:Addr):Turn P w K tg (Itl K a) [it] it (fun i h=>h.IsListIter it a i) where
 mem:=by simp
 obj:=fun i h st b hb=>by
  have e:b=it:=by simpa using hb
  subst e;obtain⟨o,e,c,d⟩:=st;exact⟨o,e,fun v z=>by rw[d] at z;cases z⟩
 keep:=fun i h h' st k=>st.at fun o e=>k it (by simp) o e
 item:=by
  intro X hP hw hK hc i pins s σ H E I hf st hg;subst hP hw hK;obtain⟨xs,x,hq,hx⟩:=hg;obtain⟨its,rv,p,hz⟩:=I.list hq;obtain⟨u,hu,ru⟩:=rv.get hx;obtain⟨f0,f1,f2,f3,f4,f5⟩:=hf it (by simp);refine wpAny_pyNext_list_item st p.isList (x:=u) (by simpa using hu) fun h' st' sb=>?_
  have I1:Inv X pins σ H {s with heap:=h'}:=I.turned (t':=s.toks) (fun b o hb e=>(sb.2 b hb).trans e) f0 f1 f3 f4 f5;obtain⟨o,e,c,d⟩:=id st';exact⟨u,rfl,go_of (s:={s with heap:=h'}) e c d (by decide) ⟨x,H,I1,ru,⟨rfl,fun ys hy=>by rw[I.list_inj hy hq];exact hx⟩,st',fun b hb=>(hf b hb).1⟩⟩
 done:=by
  intro X hP hw hK hc i pins s σ H E I hf st hg;subst hP hw hK;obtain⟨xs,hq,hx⟩:=hg;obtain⟨its,rv,p,hz⟩:=I.list hq;obtain⟨f0,f1,f2,f3,f4,f5⟩:=hf it (by simp);have hl:=rv.length;exact wpAny_pyNext_list_end (I.ok.hd hc) st p.isList (by simp;omega) fun h' eb=>⟨rfl,I.turned (t':=s.toks) (fun b o hb e=>eb b o hb e) f0 f1 f3 f4 f5⟩
 self:=fun _ _ _ _ _ st h=>wpAny_pyIter_listiter st h
theorem turn_tuple {P:Program}{w:World}{K:PySem.W.Frag}{tg:Expr}(a it:Addr):Turn P w K tg (Itt K a) [it] it (fun i h=>h.IsTupleIter it a i) where
 mem:=by simp
 obj:=fun i h st b hb=>by
  have e:b=it:=by simpa using hb
  subst e;obtain⟨o,e,c,d⟩:=st;exact⟨o,e,fun v z=>by rw[d] at z;cases z⟩
 keep:=fun i h h' st k=>st.at fun o e=>k it (by simp) o e
 item:=by
  intro X hP hw hK hc i pins s σ H E I hf st hg;subst hP hw hK;obtain⟨xs,x,hq,hx⟩:=hg;obtain⟨its,rv,p,hz⟩:=I.tuple hq;obtain⟨u,hu,ru⟩:=rv.get hx;obtain⟨f0,f1,f2,f3,f4,f5⟩:=hf it (by simp);refine wpAny_pyNext_tuple_item st (show s.heap.IsTuple a its.toArray from p) (x:=u) (by simpa using hu) fun h' st' sb=>?_
  have I1:Inv X pins σ H {s with heap:=h'}:=I.turned (t':=s.toks) (fun b o hb e=>(sb.2 b hb).trans e) f0 f1 f3 f4 f5;obtain⟨o,e,c,d⟩:=id st';exact⟨u,rfl,go_of (s:={s with heap:=h'}) e c d (by decide) ⟨x,H,I1,ru,⟨rfl,fun ys hy=>by rw[I.tuple_inj hy hq];exact hx⟩,st',fun b hb=>(hf b hb).1⟩⟩
 done:=by
  intro X hP hw hK hc i pins s σ H E I hf st hg;subst hP hw hK;obtain⟨xs,hq,hx⟩:=hg;obtain⟨its,rv,p,hz⟩:=I.tuple hq;obtain⟨f0,f1,f2,f3,f4,f5⟩:=hf it (by simp);have hl:=rv.length;exact wpAny_pyNext_tuple_end (I.ok.hd hc) st (show s.heap.IsTuple a its.toArray from p) (by simp;omega) fun h' eb=>⟨rfl,I.turned (t':=s.toks) (fun b o hb e=>eb b o hb e) f0 f1 f3 f4 f5⟩
 self:=fun _ _ _ _ _ st h=>wpAny_pyIter_tupleiter st h
theorem turn_range {P:Program}{w:World}{K:PySem.W.Frag}{tg:Expr}(it:Addr)(lo:Int)(n:Nat):Turn P w K tg (Itr lo n) [it] it (fun i h=>IsRangeIter h it (lo+(i:Nat)*1) ((n:Int)-(i:Nat)) 1) where
 mem:=by simp
 obj:=fun i h st b hb=>by
  have e:b=it:=by simpa using hb
  subst e
  exact⟨_,st,fun v z=>by
   have z':Data.fields _=Data.cell v:=z
   cases z'⟩
 keep:=fun i h h' st k=>k it (by simp) _ st
 item:=by
  intro X hP hw hK hc i pins s σ H E I hf st hg;subst hP hw hK;obtain⟨f0,f1,f2,f3,f4,f5⟩:=hf it (by simp);have W:=Walks.range (prog:=X.prog) (w:=X.w) (I.ok.hd hc) it lo 1 n;refine W.item i s _ _ hg st fun v h' tk hv st' kk=>?_
  obtain⟨t,rfl⟩:=hv;have I1:Inv X pins σ H {s with heap:=h',toks:=tk}:=I.turned (fun b o hb e=>kk b o (by simpa using hb) e) f0 f1 f3 f4 f5;refine⟨_,rfl,go_of (s:={s with heap:=h',toks:=tk}) (n:="range_iterator") st' rfl rfl (by decide) ⟨.int (lo+i),H,I1,⟨t,?_⟩,⟨rfl,rfl⟩,st',fun b hb=>(hf b hb).1⟩⟩;rw[Int.mul_one]
 done:=by
  intro X hP hw hK hc i pins s σ H E I hf st hg;subst hP hw hK;obtain⟨f0,f1,f2,f3,f4,f5⟩:=hf it (by simp);exact wpAny_pyNext_range_end (I.ok.hd hc) st (by have:n≤i:=hg;omega) fun h' eb=>⟨rfl,I.turned (t':=s.toks) (fun b o hb e=>eb b o hb e) f0 f1 f3 f4 f5⟩
 self:=fun _ _ _ _ _ st h=>wpAny_pyIter_rangeiter st h
end L2
namespace L2
open PySem PySem.Spec PyProof.Rows
section
variable {X:Cx}{tg:Expr}
def iList (K:PySem.W.Frag)(tl:TE):TI:=fun σ H R=>tl σ H fun x H1=>∃ a,x=.ref a∧(∃ xs,SqL K H1 a xs)∧R (Itl K a) H1
def iTup (K:PySem.W.Frag)(tl:TE):TI:=fun σ H R=>tl σ H fun x H1=>∃ a,x=.ref a∧(∃ xs,SqT K H1 a xs)∧R (Itt K a) H1
theorem pi_list {l:Expr}{tl:TE}(hl:PE X l tl):PI X tg l (iList X.K tl):=by
 intro pins s σ H R I h;refine thn (hl pins s σ H _ I h) fun v s1 ⟨x,H1,I1,r1,q1⟩=>?_
 obtain⟨a,e,⟨xs,hq⟩,q⟩:=q1;subst e;cases r1;obtain⟨its,rv,p,hz⟩:=I1.list hq;refine wpAny_pyIter_list p.isList ?_;refine⟨s1.heap.objs.size,[s1.heap.objs.size],_,_,H1,rfl,I1.kept (t':=s1.toks) fun b o e=>Heap.get?_push_of_some _ e,turn_list a _,⟨_,Heap.get?_push_size _ rfl,rfl,rfl⟩,fun b hb=>?_,q⟩;have e:b=s1.heap.objs.size:=by simpa using hb
 subst e;exact I1.fpOk (Nat.le_refl _) (I1.hok.fresh (Nat.le_refl _))
theorem pi_tup {l:Expr}{tl:TE}(hl:PE X l tl):PI X tg l (iTup X.K tl):=by
 intro pins s σ H R I h;refine thn (hl pins s σ H _ I h) fun v s1 ⟨x,H1,I1,r1,q1⟩=>?_
 obtain⟨a,e,⟨xs,hq⟩,q⟩:=q1;subst e;cases r1;obtain⟨its,rv,p,hz⟩:=I1.tuple hq;refine wpAny_pyIter_tuple (show s1.heap.IsTuple a its.toArray from p) ?_;refine⟨s1.heap.objs.size,[s1.heap.objs.size],_,_,H1,rfl,I1.kept (t':=s1.toks) fun b o e=>Heap.get?_push_of_some _ e,turn_tuple a _,⟨_,Heap.get?_push_size _ rfl,rfl,rfl⟩,fun b hb=>?_,q⟩;have e:b=s1.heap.objs.size:=by simpa using hb
 subst e;exact I1.fpOk (Nat.le_refl _) (I1.hok.fresh (Nat.le_refl _))
theorem range_it {pins:List (Addr×Obj)}{σ:St}{H:Hp}{s:Shared}{R:It→Hp→Prop}{E:Value→Shared→Prop}{lo hi:Int}{t u v:Tok}{tk:Nat}(I:Inv X pins σ H s)(h1:-(2 ^ 62)≤lo)(h2:lo<2 ^ 62)(h3:-(2 ^ 62)≤hi)(h4:hi<2 ^ 62)
  (q:R (Itr lo (hi-lo).toNat) H):wpAny (model X.prog X.w) X.A (pyIter (.ref s.heap.objs.size)) (PIE X pins σ tg R) E {s with heap:=s.heap.push {cls:=.type "range",data:=.fields #[.int lo t,.int hi u,.int 1 v]},toks:=tk}:=by
 refine wpAny_pyIter_range (IsRange.new ..) (small_one h1 h2 h3 h4) ?_;have I1:Inv X pins σ H {s with heap:=s.heap.push {cls:=.type "range",data:=.fields #[.int lo t,.int hi u,.int 1 v]},toks:=tk}:=I.kept fun b o e=>Heap.get?_push_of_some _ e
 refine⟨(s.heap.push {cls:=.type "range",data:=.fields #[.int lo t,.int hi u,.int 1 v]}).objs.size,[(s.heap.push {cls:=.type "range",data:=.fields #[.int lo t,.int hi u,.int 1 v]}).objs.size],_,_,H,rfl,
  I1.kept (t':=tk) fun b o e=>Heap.get?_push_of_some _ e,turn_range _ lo (hi-lo).toNat,?_,fun b hb=>?_,q⟩
 ·have e1:lo+((0:Nat):Int)*1=lo:=by simp
  have e2:(((hi-lo).toNat:Nat):Int)-((0:Nat):Int)=Builtin.Range.rangeSize lo hi 1:=by rw[rangeSize_one];split<;>omega
  show IsRangeIter _ _ (lo+((0:Nat):Int)*1) ((((hi-lo).toNat:Nat):Int)-((0:Nat):Int)) 1;rw[e1,e2];exact Heap.get?_push_size _ rfl
 ·have e:b=(s.heap.push {cls:=.type "range",data:=.fields #[.int lo t,.int hi u,.int 1 v]}).objs.size:=by simpa using hb
  subst e;exact I1.fpOk (Nat.le_refl _) (I1.hok.fresh (Nat.le_refl _))
def iRng1 (ta:TA):TI:=fun σ H R=>ta σ H fun vs H1=>∃ j:Int,vs=[.int j]∧-(2 ^ 62)≤j∧j<2 ^ 62∧R (Itr 0 j.toNat) H1
def iRng2 (ta:TA):TI:=fun σ H R=>ta σ H fun vs H1=>∃ i j:Int,vs=[.int i,.int j]∧(-(2 ^ 62)≤i∧i<2 ^ 62∧-(2 ^ 62)≤j∧j<2 ^ 62)∧R (Itr i (j-i).toNat) H1
theorem pi_range1 {a:Expr}{ta:TA}{p pos:Pos}(hg:Gl X "range")(hm:X.mg "range"=none)(ha:PA X [a] ta)(hs:starEach [a] X.env=[(false,eval a X.env)]:=by rfl):PI X tg (.Call (.Name "range" p) [a] [] pos) (iRng1 ta):=by
 intro pins s σ H R I h;refine Call_ (ld_blt I hg hm boot_range (PyProof.Rows.callWith_type1 (thn (ha pos pins s σ H _ I h) fun us s1 ⟨vs,H1,I1,r1,q1⟩=>?_) hs rfl));obtain⟨j,e,q1,q2,q⟩:=q1;subst e;cases r1 with
 | cons r rr =>
  cases rr;obtain⟨t,rfl⟩:=r;exact call_range_1 (range_it I1 (by omega) (by omega) q1 q2 (by simpa using q))
theorem pi_range2 {a b:Expr}{ta:TA}{p pos:Pos}(hg:Gl X "range")(hm:X.mg "range"=none)(ha:PA X [a,b] ta)(hs:starEach [a,b] X.env=[(false,eval a X.env),(false,eval b X.env)]:=by rfl)(hs2:starEach [b] X.env=[(false,eval b X.env)]:=by rfl) :
  PI X tg (.Call (.Name "range" p) [a,b] [] pos) (iRng2 ta):=by
 intro pins s σ H R I h;refine Call_ (ld_blt I hg hm boot_range (PyProof.Rows.callWith_type1 (thn (ha pos pins s σ H _ I h) fun us s1 ⟨vs,H1,I1,r1,q1⟩=>?_) (by rw[hs,hs2]) (by rw[hs2];rfl)));obtain⟨i,j,e,⟨q1,q2,q3,q4⟩,q⟩:=q1;subst e;cases r1 with
 | cons r rr =>
  cases rr with
  | cons r' rr =>
   cases rr;obtain⟨t,rfl⟩:=r;obtain⟨t',rfl⟩:=r';exact call_range_2 (range_it I1 q1 q2 q3 q4 q)
def tFor (wi:TI)(g:TG)(tb:TS):TS:=fun D σ H=>wi σ H fun J H1=>∃ W:Nat→Nat→St→Hp→Prop,(∃ m,W 0 m σ H1)∧∀ i m σ H,W i m σ H →
 (J.stop i H∧D.nx σ H)∨(J.go i H∧∃ N:St→Hp→Prop,(∀ σ' H',N σ' H'→∃ m',m'<m∧W (i+1) m' σ' H')∧∀ x H',J.yld i H x H'→g x σ H' fun σ2 H2=>tb {D with nx:=N,ct:=N,bk:=D.nx} σ2 H2)
def pinsAt (fp:List Addr)(h:Heap):List (Addr×Obj):=fp.filterMap fun b=>(h.get? b).map fun o=>(b,o)
theorem mem_pinsAt {fp:List Addr}{h:Heap}{b:Addr}{o:Obj}(hb:b∈fp)(e:h.get? b=some o):(b,o)∈pinsAt fp h:=List.mem_filterMap.mpr ⟨b,hb,by rw[e];rfl⟩
theorem of_pinsAt {fp:List Addr}{h:Heap}{p:Addr×Obj}(hp:p∈pinsAt fp h):p.1∈fp∧h.get? p.1=some p.2:=by
 obtain⟨b,hb,e⟩:=List.mem_filterMap.mp hp;cases q:h.get? b with
 | none=>rw[q] at e;cases e
 | some o =>
  rw[q] at e;have e':(b,o)=p:=Option.some.inj e;subst e';exact⟨hb,q⟩
theorem Inv.pinned {pins:List (Addr×Obj)}{σ:St}{H:Hp}{s:Shared}{fp:List Addr}(I:Inv X pins σ H s)(hf:∀ b∈fp,FpOk X pins H b)(ho:∀ b∈fp,∃ o,s.heap.get? b=some o∧∀ v,o.data≠.cell v):Inv X (pins++pinsAt fp s.heap) σ H s :=
 I.pins_of fun p hp=>(List.mem_append.mp hp).elim (fun z=>I.pin p (List.mem_append_right _ z)) fun z=>by
  obtain⟨hb,e⟩:=of_pinsAt z;obtain⟨f0,f1,f2,_⟩:=hf p.1 hb;obtain⟨o,e',d⟩:=ho p.1 hb;rw[e] at e';cases e';exact⟨e,f0,f1,f2,d⟩
theorem Inv.unpinned {pins pl:List (Addr×Obj)}{σ:St}{H:Hp}{s:Shared}(I:Inv X (pins++pl) σ H s):Inv X pins σ H s:=I.pins_of fun p hp=>I.pin p (List.mem_append_right _ (List.mem_append_left _ hp))
theorem ps_for {iter:Expr}{body:List Stmt}{wi:TI}{g:TG}{tb:TS}{pos:Pos}(hp:PassesOwn (model X.prog X.w) X.A X.env X.xe)(hc:X.calm=true)(hi:PI X tg iter wi)(hg:PG X tg g)(hb:PSs X body tb)
  (hs:∀ x,foldedSetIterable iter X.env x=pure x:=by intro _;rfl):PS X (.For tg iter body [] pos) (tFor wi g tb):=by
 intro pins s σ H D I h;refine wpAny_For (thn (hi pins s σ H _ I h) fun v s1 h1=>thn h1 fun itv s2 h2=>?_) hs;obtain⟨it,fp,tn,J,H2,e,I2,T,st2,f2,W,⟨m0,w0⟩,turn⟩:=h2;subst e;have stat:∀ {H':Hp},(∀ b∈fp,H' b=none)→∀ b∈fp,FpOk X pins H' b:=fun hn b hb=>⟨hn b hb,(f2 b hb).2⟩
 refine codeAny_forLoop_any (fun n s'=>∃ i σ' H',Inv X pins σ' H' s'∧tn i s'.heap∧(∀ b∈fp,H' b=none)∧W i n σ' H') ?_ m0 ⟨0,σ,H2,I2,st2,fun b hb=>(f2 b hb).1,w0⟩;rintro n s3 ⟨i,σ3,H3,I3,st3,fr3,w3⟩;rcases turn i n σ3 H3 w3 with ⟨stop,qn⟩ | ⟨go,N,hN,step⟩
 ·refine wpAny_passesOwn hp (thn (T.done X rfl rfl rfl hc i pins s3 σ3 H3 X.xe I3 (stat fr3) st3 stop) fun r s4 ⟨hr,I4⟩=>?_);subst hr;exact wpAny_execs_nil ⟨σ3,H3,I4,qn⟩
 ·refine wpAny_passesOwn hp (thn (T.item X rfl rfl rfl hc i pins s3 σ3 H3 X.xe I3 (stat fr3) st3 go) fun r s4 ⟨u,hr,h4⟩=>?_);subst hr;refine wpAny_passesOwn hp (thn h4 fun _ s5 ⟨x,H5,I5,r5,y5,st5,fr5⟩=>?_);have I5':=I5.pinned (stat fr5) (T.obj _ _ st5);refine wpAny_passesOwn hp (thn (hg _ s5 σ3 H5 x u _ I5' r5 (step x H5 y5)) fun _ s6 ⟨σ6,H6,I6,q6⟩=>?_);refine wpAny_passesOwn hp (thn (hb _ s6 σ6 H6 _ I6 q6) fun f s7 q7=>?_);have again:∀ {σ7:St} {H7:Hp},Inv X (pins++pinsAt fp s5.heap) σ7 H7 s7→N σ7 H7→∃ m,m<n∧∃ i σ' H',Inv X pins σ' H' s7∧tn i s7.heap∧(∀ b∈fp,H' b=none)∧W i m σ' H':=fun {σ7 H7} I7 n7=>by
   obtain⟨m',hm,w7⟩:=hN σ7 H7 n7;refine⟨m',hm,i+1,σ7,H7,I7.unpinned,T.keep _ _ _ st5 fun b hb o e=>(I7.pin (b,o) (List.mem_append_right _ (List.mem_append_right _ (mem_pinsAt hb e)))).1,fun b hb=>?_,w7⟩;obtain⟨o,e,d⟩:=T.obj _ _ st5 b hb;exact (I7.pin (b,o) (List.mem_append_right _ (List.mem_append_right _ (mem_pinsAt hb e)))).2.1
  cases f with
  | next=>obtain⟨σ7,H7,I7,n7⟩:=q7;exact again I7 n7
  | cont=>obtain⟨σ7,H7,I7,n7⟩:=q7;exact again I7 n7
  | brk=>obtain⟨σ7,H7,I7,q7⟩:=q7;exact⟨σ7,H7,I7.unpinned,q7⟩
  | ret v=>obtain⟨x7,σ7,H7,I7,r7,q7⟩:=q7;exact⟨x7,σ7,H7,I7.unpinned,r7,q7⟩
end
theorem for_list {K:PySem.W.Frag}{a:Addr}{xs:List V}{g:TG}{tb:TS}{D:Ends}{σ:St}{H:Hp}(Pv:Nat→St→Hp→Prop)(h0:Pv 0 σ H)(hl:∀ i σ H,i≤xs.length→Pv i σ H→SqL K H a xs)
  (hs:∀ i x σ H,xs[i]?=some x→Pv i σ H→g x σ H fun σ2 H2=>tb {D with nx:=Pv (i+1),ct:=Pv (i+1),bk:=D.nx} σ2 H2) (hd:∀ σ H,Pv xs.length σ H→D.nx σ H) :
  ∃ W:Nat→Nat→St→Hp→Prop,(∃ m,W 0 m σ H)∧∀ i m σ H,W i m σ H →
   ((Itl K a).stop i H∧D.nx σ H)∨((Itl K a).go i H∧∃ N:St→Hp→Prop,(∀ σ' H',N σ' H'→∃ m',m'<m∧W (i+1) m' σ' H')∧∀ x H',(Itl K a).yld i H x H'→g x σ H' fun σ2 H2=>tb {D with nx:=N,ct:=N,bk:=D.nx} σ2 H2):=by
 refine⟨fun i m σ H=>m=xs.length-i∧i≤xs.length∧Pv i σ H,⟨xs.length,by simp,Nat.zero_le _,h0⟩,?_⟩;rintro i m σ H ⟨rfl,hi,p⟩;have q:=hl i σ H hi p;by_cases hlt:i<xs.length
 ·refine .inr ⟨⟨xs,xs[i],q,by simp[hlt]⟩,Pv (i+1),fun σ' H' p'=>⟨xs.length-(i+1),by omega,rfl,hlt,p'⟩,fun x H' y=>?_⟩;obtain⟨e,y⟩:=y;subst e;exact hs i x σ _ (y xs q) p
 ·have e:i=xs.length:=by omega
  subst e;exact .inl ⟨⟨xs,q,Nat.le_refl _⟩,hd σ H p⟩
theorem for_tup {K:PySem.W.Frag}{a:Addr}{xs:List V}{g:TG}{tb:TS}{D:Ends}{σ:St}{H:Hp}(Pv:Nat→St→Hp→Prop)(h0:Pv 0 σ H)(hl:∀ i σ H,i≤xs.length→Pv i σ H→SqT K H a xs)
  (hs:∀ i x σ H,xs[i]?=some x→Pv i σ H→g x σ H fun σ2 H2=>tb {D with nx:=Pv (i+1),ct:=Pv (i+1),bk:=D.nx} σ2 H2) (hd:∀ σ H,Pv xs.length σ H→D.nx σ H) :
  ∃ W:Nat→Nat→St→Hp→Prop,(∃ m,W 0 m σ H)∧∀ i m σ H,W i m σ H →
   ((Itt K a).stop i H∧D.nx σ H)∨((Itt K a).go i H∧∃ N:St→Hp→Prop,(∀ σ' H',N σ' H'→∃ m',m'<m∧W (i+1) m' σ' H')∧∀ x H',(Itt K a).yld i H x H'→g x σ H' fun σ2 H2=>tb {D with nx:=N,ct:=N,bk:=D.nx} σ2 H2):=by
 refine⟨fun i m σ H=>m=xs.length-i∧i≤xs.length∧Pv i σ H,⟨xs.length,by simp,Nat.zero_le _,h0⟩,?_⟩;rintro i m σ H ⟨rfl,hi,p⟩;have q:=hl i σ H hi p;by_cases hlt:i<xs.length
 ·refine .inr ⟨⟨xs,xs[i],q,by simp[hlt]⟩,Pv (i+1),fun σ' H' p'=>⟨xs.length-(i+1),by omega,rfl,hlt,p'⟩,fun x H' y=>?_⟩;obtain⟨e,y⟩:=y;subst e;exact hs i x σ _ (y xs q) p
 ·have e:i=xs.length:=by omega
  subst e;exact .inl ⟨⟨xs,q,Nat.le_refl _⟩,hd σ H p⟩
theorem for_range {lo:Int}{n:Nat}{g:TG}{tb:TS}{D:Ends}{σ:St}{H:Hp}(Pv:Nat→St→Hp→Prop)(h0:Pv 0 σ H)
  (hs:∀ i σ H,i<n→Pv i σ H→g (.int (lo+i)) σ H fun σ2 H2=>tb {D with nx:=Pv (i+1),ct:=Pv (i+1),bk:=D.nx} σ2 H2) (hd:∀ σ H,Pv n σ H→D.nx σ H) :
  ∃ W:Nat→Nat→St→Hp→Prop,(∃ m,W 0 m σ H)∧∀ i m σ H,W i m σ H →
   ((Itr lo n).stop i H∧D.nx σ H)∨((Itr lo n).go i H∧∃ N:St→Hp→Prop,(∀ σ' H',N σ' H'→∃ m',m'<m∧W (i+1) m' σ' H')∧∀ x H',(Itr lo n).yld i H x H'→g x σ H' fun σ2 H2=>tb {D with nx:=N,ct:=N,bk:=D.nx} σ2 H2):=by
 refine⟨fun i m σ H=>m=n-i∧i≤n∧Pv i σ H,⟨n,by simp,Nat.zero_le _,h0⟩,?_⟩;rintro i m σ H ⟨rfl,hi,p⟩;by_cases hlt:i<n
 ·refine .inr ⟨hlt,Pv (i+1),fun σ' H' p'=>⟨n-(i+1),by omega,rfl,hlt,p'⟩,fun x H' y=>?_⟩;obtain⟨e,y⟩:=y;subst e y;exact hs i σ _ hlt p
 ·have e:i=n:=by omega
  subst e;exact .inl ⟨Nat.le_refl _,hd σ H p⟩
end L2
namespace L2
open PySem PySem.Spec PyProof.Rows
abbrev R2:=V→V→Hp→VK→Prop
def OpR (X:Cx)(f:Value→Value→Sem Value)(r:R2):Prop :=
 ∀ (pins:List (Addr×Obj)) (s:Shared) (σ:St) (H:Hp) (x y:V) (v u:Value) (Q:VK),Inv X pins σ H s→RelV x v→RelV y u→r x y H Q →
  wpAny (model X.prog X.w) X.A (f v u) (EP X pins σ Q) X.xe s
def CallR (X:Cx)(f:Value)(r:List V→Hp→VK→Prop):Prop :=
 ∀ (pins:List (Addr×Obj)) (s:Shared) (σ:St) (H:Hp) (xs:List V) (us:List Value) (Q:VK),Inv X pins σ H s→Vals xs us→r xs H Q →
  wpAny (model X.prog X.w) X.A (call f us) (EP X pins σ Q) X.xe s
def tOp (r:R2)(ta tb:TE):TE:=fun σ H Q=>ta σ H fun x H1=>tb σ H1 fun y H2=>r x y H2 Q
def tUn (r:V→Hp→VK→Prop)(ta:TE):TE:=fun σ H Q=>ta σ H fun x H1=>r x H1 Q
def rI (C:Int→Int→Prop)(g:Int→Int→V):R2:=fun x y H Q=>∃ i j,x=.int i∧y=.int j∧C i j∧Q (g i j) H
def rI0 (g:Int→Int→V):R2:=fun x y H Q=>∃ i j,x=.int i∧y=.int j∧Q (g i j) H
section
variable {X:Cx}{a b c:Expr}{ta tb tc:TE}{pos:Pos}
theorem binT (ha:PE X a ta)(hb:PE X b tb){pins:List (Addr×Obj)}{s:Shared}{σ:St}{H:Hp}{R:V→V→Hp→Prop}(I:Inv X pins σ H s)
  (h:ta σ H fun x H1=>tb σ H1 fun y H2=>R x y H2) {Q:Value→Shared→Prop} {f:Value→Value→Sem Value}
  (hf:∀ v u s2 x y H2,Inv X pins σ H2 s2→RelV x v→RelV y u→R x y H2→wpAny (model X.prog X.w) X.A (f v u) Q X.xe s2) :
  wpAny (model X.prog X.w) X.A (eval a X.env) (fun v s₁=>wpAny (model X.prog X.w) X.A (eval b X.env) (fun u s₂=>wpAny (model X.prog X.w) X.A (f v u) Q X.xe s₂) X.xe s₁) X.xe s:=by
 refine thn (ha pins s σ H _ I h) fun v s1 ⟨x,H1,I1,r1,q1⟩=>?_
 refine thn (hb pins s1 σ H1 _ I1 q1) fun u s2 ⟨y,H2,I2,r2,q2⟩=>?_
 exact hf v u s2 x y H2 I2 r1 r2 q2
theorem pe_op {op:Operator}{r:R2}(ho:OpR X (binaryOp op) r)(ha:PE X a ta)(hb:PE X b tb):PE X (.BinOp a op b pos) (tOp r ta tb):=by
 intro pins s σ H Q I h;exact wpAny_BinOp (binT ha hb I h fun v u s2 x y H2 I2 rx ry q=>ho pins s2 σ H2 x y v u Q I2 rx ry q)
theorem opI {f:Value→Value→Sem Value}{C:Int→Int→Prop}{g:Int→Int→Int}
  (rule:∀ (i j:Int) (t u:Tok) (s:Shared) (Q:Value→Shared→Prop) (E:Value→Shared→Prop),C i j→Q (.int (g i j) s.toks) {s with toks:=s.toks+1}→wpAny (model X.prog X.w) X.A (f (.int i t) (.int j u)) Q E s) :
  OpR X f (rI C fun i j=>.int (g i j)):=by
 intro pins s σ H x y v u Q I rx ry h;obtain⟨i,j,rfl,rfl,hc,q⟩:=h;obtain⟨t,rfl⟩:=rx;obtain⟨t',rfl⟩:=ry;exact rule i j t t' s _ _ hc ⟨.int (g i j),H,I.tok _,⟨_,rfl⟩,q⟩
theorem opI0 {f:Value→Value→Sem Value}{g:Int→Int→Int}
  (rule:∀ (i j:Int) (t u:Tok) (s:Shared) (Q:Value→Shared→Prop) (E:Value→Shared→Prop),Q (.int (g i j) s.toks) {s with toks:=s.toks+1}→wpAny (model X.prog X.w) X.A (f (.int i t) (.int j u)) Q E s) :
  OpR X f (rI0 fun i j=>.int (g i j)):=by
 intro pins s σ H x y v u Q I rx ry h;obtain⟨i,j,rfl,rfl,q⟩:=h;obtain⟨t,rfl⟩:=rx;obtain⟨t',rfl⟩:=ry;exact rule i j t t' s _ _ ⟨.int (g i j),H,I.tok _,⟨_,rfl⟩,q⟩
theorem opB0 {f:Value→Value→Sem Value}{g:Int→Int→Bool}
  (rule:∀ (i j:Int) (t u:Tok) (s:Shared) (Q:Value→Shared→Prop) (E:Value→Shared→Prop),Q (.bool (g i j)) s→wpAny (model X.prog X.w) X.A (f (.int i t) (.int j u)) Q E s) :
  OpR X f (rI0 fun i j=>.bl (g i j)):=by
 intro pins s σ H x y v u Q I rx ry h;obtain⟨i,j,rfl,rfl,q⟩:=h;obtain⟨t,rfl⟩:=rx;obtain⟨t',rfl⟩:=ry;exact rule i j t t' s _ _ ⟨.bl (g i j),H,I,rfl,q⟩
def CDiv (i j:Int):Prop:=0<j∧j<1073741824
def CPow (i j:Int):Prop:=0≤j∧j≤1000000∧i.natAbs<2 ^ 64
def CMul (i j:Int):Prop:=(-(2 ^ 64)<i∧i<2 ^ 64)∨(-(2 ^ 64)<j∧j<2 ^ 64)
theorem CMul.ok {i j:Int}(h:CMul i j):IntMulOk i j:=by
 rcases h with ⟨h1,h2⟩ | ⟨h1,h2⟩
 ·exact .of_left (intBits_le_64 h1 h2)
 ·exact .of_right (intBits_le_64 h1 h2)
theorem op_add:OpR X (binaryOp .Add) (rI0 fun i j=>.int (i+j)):=opI0 fun _ _ _ _ _ _ _ q=>add_int q
theorem op_sub:OpR X (binaryOp .Sub) (rI0 fun i j=>.int (i-j)):=opI0 fun _ _ _ _ _ _ _ q=>sub_int q
theorem op_mul:OpR X (binaryOp .Mult) (rI CMul fun i j=>.int (i*j)):=opI fun _ _ _ _ _ _ _ hc q=>mul_int q hc.ok
theorem op_fdiv:OpR X (binaryOp .FloorDiv) (rI CDiv fun i j=>.int (i / j)):=opI fun i j _ _ _ _ _ hc q=>by
 have h1:(0:Int)<j:=hc.1;have h2:j<1073741824:=hc.2;exact floordiv_int (by omega) (by rw[Int.fdiv_eq_ediv_of_nonneg i (by omega)];exact q) (.inl (PyProof.noPylong_small (by omega)))
theorem op_mod:OpR X (binaryOp .Mod) (rI (fun _ j=>0<j) fun i j=>.int (i % j)):=opI fun i j _ _ _ _ _ hc q=>by
 have h1:(0:Int)<j:=hc;exact mod_int' (by omega) (by rw[Int.fmod_eq_emod_of_nonneg i (by omega)];exact q)
theorem op_pow:OpR X (binaryOp .Pow) (rI CPow fun i j=>.int (i ^ j.toNat)):=opI fun _ _ _ _ _ _ _ hc q=>pow_int_small hc.1 hc.2.1 hc.2.2 q
end
def scal:V→V→Bool
 | .non,.non=>true | .non,.int _=>true | .int _,.non=>true | .non,.bl _=>true | .bl _,.non=>true | .non,.str _=>true | .str _,.non=>true
 | .int _,.int _=>true | .bl _,.bl _=>true | .str _,.str _=>true | .byt _,.byt _=>true
 | .int _,.str _=>true | .str _,.int _=>true | .bl _,.str _=>true | .str _,.bl _=>true
 | _,_=>false
def rEq:R2:=fun x y H Q=>scal x y=true∧Q (.bl (decide (x=y))) H
def rNe:R2:=fun x y H Q=>scal x y=true∧Q (.bl (!decide (x=y))) H
theorem dec_int {i j:Int}:decide (V.int i=V.int j)=(i == j):=by
 rw[Bool.eq_iff_iff];simp
theorem dec_bl {i j:Bool}:decide (V.bl i=V.bl j)=(i == j):=by
 rw[Bool.eq_iff_iff];simp
theorem dec_str {i j:Str}:decide (V.str i=V.str j)=(i == j):=by
 rw[Bool.eq_iff_iff];simp
theorem dec_byt {i j:Array UInt8}:decide (V.byt i=V.byt j)=(i.toList == j.toList):=by
 rw[Bool.eq_iff_iff];cases i;cases j;simp
section
variable {X:Cx}{a b c:Expr}{ta tb tc:TE}{pos:Pos}
theorem fin_bl {pins:List (Addr×Obj)}{σ:St}{H:Hp}{s:Shared}{Q:VK}{k k':Bool}(I:Inv X pins σ H s)(q:Q (.bl k) H)(e:k=k'):EP X pins σ Q (.bool k') s:=by
 subst e;exact⟨.bl k,H,I,rfl,q⟩
theorem op_eq:OpR X (compareOp .Eq) rEq:=by
 intro pins s σ H x y v u Q I rx ry h;obtain⟨hs,q⟩:=h;cases x with
 | non =>
  cases rx;cases y with
  | non=>cases ry;exact PySem.EqNone.eq_none_none (fin_bl I q (by simp))
  | bl j=>cases ry;exact PySem.EqNone.eq_none_bool (fin_bl I q (by simp))
  | int j=>obtain⟨t',rfl⟩:=ry;exact PySem.EqNone.eq_none_int (fin_bl I q (by simp))
  | str j=>obtain⟨t',rfl⟩:=ry;exact PySem.EqNone.eq_none_str (fin_bl I q (by simp))
  | _=>exact absurd (show false=true from hs) Bool.false_ne_true
 | bl i =>
  cases rx;cases y with
  | non=>cases ry;exact PySem.EqNone.eq_bool_none (fin_bl I q (by simp))
  | bl j=>cases ry;exact eq_bool (fin_bl I q dec_bl)
  | str j=>obtain⟨t',rfl⟩:=ry;exact PySem.EqMixed.eq_bool_str (fin_bl I q (by simp))
  | _=>exact absurd (show false=true from hs) Bool.false_ne_true
 | int i =>
  obtain⟨t,rfl⟩:=rx;cases y with
  | non=>cases ry;exact PySem.EqNone.eq_int_none (fin_bl I q (by simp))
  | int j=>obtain⟨t',rfl⟩:=ry;exact eq_int (fin_bl I q dec_int)
  | str j=>obtain⟨t',rfl⟩:=ry;exact PySem.EqMixed.eq_int_str (fin_bl I q (by simp))
  | _=>exact absurd (show false=true from hs) Bool.false_ne_true
 | str i =>
  obtain⟨t,rfl⟩:=rx;cases y with
  | non=>cases ry;exact PySem.EqNone.eq_str_none (fin_bl I q (by simp))
  | bl j=>cases ry;exact PySem.EqMixed.eq_str_bool (fin_bl I q (by simp))
  | int j=>obtain⟨t',rfl⟩:=ry;exact PySem.EqMixed.eq_str_int (fin_bl I q (by simp))
  | str j=>obtain⟨t',rfl⟩:=ry;exact eq_str (fin_bl I q dec_str)
  | _=>exact absurd (show false=true from hs) Bool.false_ne_true
 | byt i =>
  obtain⟨t,rfl⟩:=rx;cases y with
  | byt j=>obtain⟨t',rfl⟩:=ry;exact PySem.W.eq_bytes (fin_bl I q dec_byt)
  | _=>exact absurd (show false=true from hs) Bool.false_ne_true
 | _=>cases y<;>exact absurd (show false=true from hs) Bool.false_ne_true
theorem op_ne:OpR X (compareOp .NotEq) rNe:=by
 intro pins s σ H x y v u Q I rx ry h;obtain⟨hs,q⟩:=h;cases x with
 | non =>
  cases rx;cases y with
  | non=>cases ry;exact PySem.EqNone.ne_none_none (fin_bl I q (by simp))
  | bl j=>cases ry;exact PySem.EqNone.ne_none_bool (fin_bl I q (by simp))
  | int j=>obtain⟨t',rfl⟩:=ry;exact PySem.EqNone.ne_none_int (fin_bl I q (by simp))
  | str j=>obtain⟨t',rfl⟩:=ry;exact PySem.EqNone.ne_none_str (fin_bl I q (by simp))
  | _=>exact absurd (show false=true from hs) Bool.false_ne_true
 | bl i =>
  cases rx;cases y with
  | non=>cases ry;exact PySem.EqNone.ne_bool_none (fin_bl I q (by simp))
  | bl j=>cases ry;exact ne_bool (fin_bl I q (congrArg not dec_bl))
  | str j=>obtain⟨t',rfl⟩:=ry;exact PySem.EqMixed.ne_bool_str (fin_bl I q (by simp))
  | _=>exact absurd (show false=true from hs) Bool.false_ne_true
 | int i =>
  obtain⟨t,rfl⟩:=rx;cases y with
  | non=>cases ry;exact PySem.EqNone.ne_int_none (fin_bl I q (by simp))
  | int j=>obtain⟨t',rfl⟩:=ry;exact ne_int (fin_bl I q (congrArg not dec_int))
  | str j=>obtain⟨t',rfl⟩:=ry;exact PySem.EqMixed.ne_int_str (fin_bl I q (by simp))
  | _=>exact absurd (show false=true from hs) Bool.false_ne_true
 | str i =>
  obtain⟨t,rfl⟩:=rx;cases y with
  | non=>cases ry;exact PySem.EqNone.ne_str_none (fin_bl I q (by simp))
  | bl j=>cases ry;exact PySem.EqMixed.ne_str_bool (fin_bl I q (by simp))
  | int j=>obtain⟨t',rfl⟩:=ry;exact PySem.EqMixed.ne_str_int (fin_bl I q (by simp))
  | str j=>obtain⟨t',rfl⟩:=ry;exact ne_str (fin_bl I q (congrArg not dec_str))
  | _=>exact absurd (show false=true from hs) Bool.false_ne_true
 | byt i =>
  obtain⟨t,rfl⟩:=rx;cases y with
  | byt j=>obtain⟨t',rfl⟩:=ry;exact PySem.W.ne_bytes (fin_bl I q (congrArg not dec_byt))
  | _=>exact absurd (show false=true from hs) Bool.false_ne_true
 | _=>cases y<;>exact absurd (show false=true from hs) Bool.false_ne_true
theorem op_lt:OpR X (compareOp .Lt) (rI0 fun i j=>.bl (decide (i<j))):=opB0 fun _ _ _ _ _ _ _ q=>lt_int q
theorem op_le:OpR X (compareOp .LtE) (rI0 fun i j=>.bl (decide (i≤j))):=opB0 fun _ _ _ _ _ _ _ q=>le_int q
theorem op_gt:OpR X (compareOp .Gt) (rI0 fun i j=>.bl (decide (j<i))):=opB0 fun _ _ _ _ _ _ _ q=>gt_int q
theorem op_ge:OpR X (compareOp .GtE) (rI0 fun i j=>.bl (decide (j≤i))):=opB0 fun _ _ _ _ _ _ _ q=>ge_int q
theorem nomark (b:Expr){op:CmpOp}(h:op≠.In:=by decide)(h2:op≠.NotIn:=by decide):behindInMarks op b=false:=by
 have e1:(op == CmpOp.In)=false:=by cases op<;>first | rfl | exact absurd rfl h
 have e2:(op == CmpOp.NotIn)=false:=by cases op<;>first | rfl | exact absurd rfl h2
 cases b<;>simp[behindInMarks,e1,e2]
theorem pe_cmpR {op:CmpOp}{r:R2}(ho:OpR X (compareOp op) r)(ha:PE X a ta)(hb:PE X b tb)(hm:behindInMarks op b=false):PE X (.Compare a [op] [b] pos) (tOp r ta tb):=by
 intro pins s σ H Q I h;exact wpAny_Compare1 (binT ha hb I h fun v u s2 x y H2 I2 rx ry q=>ho pins s2 σ H2 x y v u Q I2 rx ry q) hm
def tTest (t:TE):TT:=fun σ H Q=>t σ H fun x H'=>∃ k,x=.bl k∧Q k H'
theorem pt_cmpR {op:CmpOp}{r:R2}(ho:OpR X (compareOp op) r)(ha:PE X a ta)(hb:PE X b tb)(hm:behindInMarks op b=false):PT X (.Compare a [op] [b] pos) (tTest (tOp r ta tb)):=by
 intro pins s σ H Q I h
 refine wpAny_isTrue_Compare1 (thn (ha pins s σ H _ I h) fun v s1 ⟨x,H1,I1,r1,q1⟩=>thn (hb pins s1 σ H1 _ I1 q1) fun u s2 ⟨y,H2,I2,r2,q2⟩ =>
  thn (ho pins s2 σ H2 x y v u _ I2 r1 r2 q2) fun c s3 ⟨z,H3,I3,r3,k,e,q3⟩=>?_) hm
 subst e;cases r3;exact wpAny_truthy_bool ⟨H3,I3,q3⟩
def tChain (r r':R2)(ta tb tc:TE):TE:=fun σ H Q=>ta σ H fun x H1=>tb σ H1 fun y H2=>r x y H2 fun z H3=>∃ k,z=.bl k ∧
 (if k=true then tc σ H3 fun w' H4=>r' y w' H4 Q else Q (.bl false) H3)
theorem pe_chain {op op':CmpOp}{r r':R2}(ho:OpR X (compareOp op) r)(ho':OpR X (compareOp op') r')(ha:PE X a ta)(hb:PE X b tb)(hc:PE X c tc)
  (hm:lastMarks [op,op'] [b,c]=false:=by with_unfolding_all rfl):PE X (.Compare a [op,op'] [b,c] pos) (tChain r r' ta tb tc):=by
 intro pins s σ H Q I h
 refine Compare_chain (thn (ha pins s σ H _ I h) fun v s1 ⟨x,H1,I1,r1,q1⟩=>chain_link (thn (hb pins s1 σ H1 _ I1 q1) fun u s2 ⟨y,H2,I2,r2,q2⟩ =>
  thn (ho pins s2 σ H2 x y v u _ I2 r1 r2 q2) fun d s3 ⟨z,H3,I3,r3,k,e,q3⟩=>?_)) hm
 subst e;cases r3;refine wpAny_truthy_bool ?_;cases k with
 | false=>exact ite_ff ⟨.bl false,H3,I3,rfl,q3⟩
 | true=>exact ite_tt (chain_last (thn (hc pins s3 σ H3 _ I3 q3) fun w' s4 ⟨z',H4,I4,r4,q4⟩=>ho' pins s4 σ H4 y z' u w' Q I4 r2 r4 q4))
theorem line63:(sizeLine:Nat)<2 ^ 63:=by rw[sizeLine_eq];decide
theorem vals1 {x:V}{us:List Value}(r:Vals [x] us):∃ u,us=[u]∧RelV x u:=by
 cases r with
 | cons r1 r2=>cases r2;exact⟨_,rfl,r1⟩
theorem vals2 {x y:V}{us:List Value}(r:Vals [x,y] us):∃ u w',us=[u,w']∧RelV x u∧RelV y w':=by
 cases r with
 | cons r1 r2 =>
  cases r2 with
  | cons r3 r4=>cases r4;exact⟨_,_,rfl,r1,r3⟩
theorem call_max2 (hc:X.calm=true):CallR X (.builtin "max") (fun xs H Q=>∃ i j,xs=[.int i,.int j]∧Q (.int (if j>i then j else i)) H):=by
 intro pins s σ H xs us Q I r h;obtain⟨i,j,rfl,q⟩:=h;obtain⟨u,w',rfl,⟨t,rfl⟩,⟨t',rfl⟩⟩:=vals2 r;refine max_two_ints (I.ok.hd hc) fun h' tk k=>⟨_,H,I.kept k,?_,q⟩
 by_cases hj:j>i
 ·rw[if_pos hj,if_pos hj];exact⟨_,rfl⟩
 ·rw[if_neg hj,if_neg hj];exact⟨_,rfl⟩
theorem call_min2 (hc:X.calm=true):CallR X (.builtin "min") (fun xs H Q=>∃ i j,xs=[.int i,.int j]∧Q (.int (if j<i then j else i)) H):=by
 intro pins s σ H xs us Q I r h;obtain⟨i,j,rfl,q⟩:=h;obtain⟨u,w',rfl,⟨t,rfl⟩,⟨t',rfl⟩⟩:=vals2 r;refine min_two_ints (I.ok.hd hc) fun h' tk k=>⟨_,H,I.kept k,?_,q⟩
 by_cases hj:j<i
 ·rw[if_pos hj,if_pos hj];exact⟨_,rfl⟩
 ·rw[if_neg hj,if_neg hj];exact⟨_,rfl⟩
theorem call_int1:CallR X (.type "int") (fun xs H Q=>(∃ i,xs=[.int i]∧Q (.int i) H)∨∃ k,xs=[.bl k]∧Q (.int (if k then 1 else 0)) H):=by
 intro pins s σ H xs us Q I r h;rcases h with ⟨i,rfl,q⟩ | ⟨k,rfl,q⟩
 ·obtain⟨u,rfl,t,rfl⟩:=vals1 r;exact call_int_int ⟨.int i,H,I,⟨_,rfl⟩,q⟩
 ·obtain⟨u,rfl,r1⟩:=vals1 r;cases r1;exact call_int_bool ⟨.int (if k then 1 else 0),H,I.tok _,⟨_,rfl⟩,q⟩
end
end L2
namespace L2
open PySem PySem.Spec PyProof.Rows
structure ObjM (h:Heap)(x dx C:Addr)(mA:Str→Option Value):Prop where
 obj:h.get? x=some (PySem.W.instObj C dx)
 ns:h.Ns1 dx mA
 ne:dx≠x
theorem lookIn_ns {h:Heap}{dx:Addr}{mA:Str→Option Value}(n:h.Ns1 dx mA):∃ od,h.get? dx=some od∧∀ name,PySem.W.lookIn name od=some (mA name):=by
 obtain⟨o,es,ep,ho,hd,hk,_,hm⟩:=n;refine⟨o,ho,fun name=>?_⟩;have e:=hm name;unfold nsFind findBy at e;rw[← Array.find?_toList] at e;unfold PySem.W.lookIn;rw[hd];dsimp only;split
 ·rename_i y q;rw[q] at e;exact congrArg some e
 ·rename_i q;rw[q] at e;have a:es.toList.any (·.refKey)=false:=by
   rw[List.any_eq_false];intro y hy;obtain⟨z,t,hkey⟩:=hk y (Array.mem_toList_iff.mp hy);simp[DictEntry.refKey,hkey]
  have a':¬ es.toList.any (·.refKey)=true:=by rw[a];exact Bool.false_ne_true
  rw[if_neg a'];exact congrArg some e
theorem ObjM.look {h:Heap}{x dx C:Addr}{mA:Str→Option Value}(I:ObjM h x dx C mA):∃ od,PySem.W.InstAt h x (PySem.W.instObj C dx) C (some od)∧∀ name,PySem.W.lookIn name od=some (mA name) :=
 let ⟨od,ho,hl⟩:=lookIn_ns I.ns
 ⟨od,⟨I.obj,rfl,rfl,ho⟩,hl⟩
section
variable {prog:Program}{w:World}{A:Around}{E:Value→Shared→Prop}{s:Shared}{K:PySem.W.Frag}{x dx C f:Addr}{mA:Str→Option Value}{name:Str}{v:Value}
end
section
variable {P:Program}{w:World}{H H':Hp}{h h':Heap}{a C dx:Addr}{fs fs':List (Str×V)}
theorem ins_get (hok:HOk P w H h)(e:H a=some (.ins C dx fs)):∃ mA,ObjM h a dx C mA∧(∀ f,RelO (fs.lookup f) (mA f))∧PySem.Within mA (fs.map (·.1))∧fs.length≤1000∧H dx=some (.own a):=by
 obtain⟨d,z,ne,ob,mA,n,r,q⟩:=(show ObjOk P w H h a (.ins C dx fs) from hok a _ e)
 exact⟨mA,⟨ob,n,ne⟩,r,q,z,d⟩
end
structure Cls (K:PySem.W.Frag)(C:Addr):Prop where
 pg:PySem.W.plainGet K C Str.empty=true
 hd:PySem.W.hasDictIn K C=true
 po:PySem.W.plainOver K C=true
 sa:PySem.W.findIn K (.ref C) "__setattr__"=some (some (.builtin "object.__setattr__"))
theorem Cls.get {K:PySem.W.Frag}{C:Addr}(c:Cls K C)(f:Str):PySem.W.plainGet K C f=true:=c.pg
section
variable {X:Cx}{pins:List (Addr×Obj)}{σ:St}{H:Hp}{s:Shared}{a C dx:Addr}{fs:List (Str×V)}{f:Str}{v:V}{A:Around}{E:Value→Shared→Prop}
end
section
variable {X:Cx}{o e value:Expr}{f:Str}{pos pos' tpos:Pos}{ta tv:TE}
end
section
variable {X:Cx}{pins:List (Addr×Obj)}{σ:St}{H:Hp}{s:Shared}{A:Around}{E:Value→Shared→Prop}{Q:Value→Shared→Prop}{c:Value}{b:Bool}
inductive TyOf (K:PySem.W.Frag)(H:Hp):V→Value→Prop where
 | non:TyOf K H .non (.type "NoneType")
 | bl (x:Bool):TyOf K H (.bl x) (.type "bool")
 | int (i:Int):TyOf K H (.int i) (.type "int")
 | str (x:Str):TyOf K H (.str x) (.type "str")
 | flt (x:UInt64):TyOf K H (.flt x) (.type "float")
 | lst {a:Addr} {xs:List V} (e:H a=some (.lst xs)):TyOf K H (.ref a) (.type "list")
 | frz {a:Addr} {o:Obj} {xs:List V} (e:H a=some (.frz o (.lst xs))):TyOf K H (.ref a) (.type "list")
 | tup {a:Addr} {xs:List V} (e:H a=some (.tup xs)):TyOf K H (.ref a) (.type "tuple")
 | dK {a:Addr} {kvs:List (Key×V)} (e:H a=some (.dK kvs)):TyOf K H (.ref a) (.type "dict")
 | dT {a:Addr} {kvs:List (List Key×V)} (e:H a=some (.dT kvs)):TyOf K H (.ref a) (.type "dict")
 | ins {a C dx:Addr} {fs:List (Str×V)} (e:H a=some (.ins C dx fs)) (cl:Cls K C) (ha:PySem.W.findIn K (.ref C) "__class__"=some (some (.builtin "object.__class__")))
   (hn:PySem.W.specialIn K (.builtin "object.__class__") "__get__"=some (some (.builtin "getset_descriptor.__get__"))) (htk:PySem.W.takesIn K (.builtin "object.__class__")=some true)
   (hm:PySem.W.mroIn K C (.type "object")=some true):TyOf K H (.ref a) (.ref C)
theorem isinst_ok {x:V}{u t:Value}(I:Inv X pins σ H s)(rx:RelV x u)(ty:TyOf X.K H x t)(e:PySem.W.kitOne X.K t c=some b)(h:∀ tk,Q (.bool b) {s with toks:=tk}) :
  wpAny (model X.prog X.w) A (call (.builtin "isinstance") [u,c]) Q E s:=by
 cases ty with
 | non=>cases (show u=Value.none from rx);exact PySem.W.kia_one PySem.W.kitx_none I.kIn True.intro e (fun z=>nomatch z) h
 | bl y=>cases (show u=Value.bool y from rx);exact PySem.W.kia_one PySem.W.kitx_bool I.kIn True.intro e (fun z=>nomatch z) h
 | int i=>obtain⟨t,q⟩:=(show ∃ t,u=Value.int i t from rx);cases q;exact PySem.W.kia_one PySem.W.kitx_int I.kIn True.intro e (fun z=>nomatch z) h
 | str y=>obtain⟨t,q⟩:=(show ∃ t,u=Value.str y t from rx);cases q;exact PySem.W.kia_one PySem.W.kitx_str I.kIn True.intro e (fun z=>nomatch z) h
 | flt y=>obtain⟨t,q⟩:=(show ∃ t,u=Value.float y t from rx);cases q;exact PySem.W.kia_one PySem.W.kitx_float I.kIn True.intro e (fun z=>nomatch z) h
 | @lst a xs ea =>
  cases (show u=Value.ref a from rx);obtain⟨_,_,n,_,h1⟩:=(show ObjOk X.prog X.w H s.heap a (.lst xs) from I.hok a _ ea)
  exact PySem.W.kia_one PySem.W.kitx_list I.kIn ⟨_,h1,rfl⟩ e (fun z=>nomatch z) h
 | @frz a ob xs ea =>
  cases (show u=Value.ref a from rx);obtain⟨_,_,_,n,_,h1⟩:=(show ObjOk X.prog X.w H s.heap a (.frz ob (.lst xs)) from I.hok a _ ea)
  exact PySem.W.kia_one PySem.W.kitx_list I.kIn ⟨_,h1,rfl⟩ e (fun z=>nomatch z) h
 | @tup a xs ea =>
  cases (show u=Value.ref a from rx);obtain⟨_,_,_,p⟩:=(show ObjOk X.prog X.w H s.heap a (.tup xs) from I.hok a _ ea)
  obtain⟨o,h1,h2,_⟩:=p;exact PySem.W.kia_one PySem.W.kitx_tuple I.kIn ⟨o,h1,h2⟩ e (fun z=>nomatch z) h
 | @dK a kvs ea =>
  cases (show u=Value.ref a from rx);obtain⟨_,_,vs,_,p⟩:=(show ObjOk X.prog X.w H s.heap a (.dK kvs) from I.hok a _ ea)
  obtain⟨o,es,ep,h1,h2,_⟩:=p;exact PySem.W.kia_one PySem.W.kitx_dict I.kIn ⟨o,h1,h2.1⟩ e (fun z=>nomatch z) h
 | @dT a kvs ea =>
  cases (show u=Value.ref a from rx);obtain⟨_,_,xs,_,o,es,ep,h1,h2,_⟩:=(show ObjOk X.prog X.w H s.heap a (.dT kvs) from I.hok a _ ea)
  exact PySem.W.kia_one PySem.W.kitx_dict I.kIn ⟨o,h1,h2.1⟩ e (fun z=>nomatch z) h
 | @ins a C dx fs ea cl ha hn htk hm =>
  cases (show u=Value.ref a from rx);obtain⟨mA,O,_⟩:=ins_get I.hok ea;obtain⟨od,J,_⟩:=O.look;exact PySem.W.kia_one (PySem.W.kitx_own (cl.get _) cl.hd ha hn htk hm) I.kIn J e (fun z=>nomatch z) h
end
end L2
namespace L2
open PySem PySem.Spec PyProof.Rows
structure Room (k:Nat)(A:Around):Prop where
 hd:A.handled=none
 dp:A.depth+3*k+5<recursionLimit
 un:A.units+16*k+200<cLine
 gd:A.guards=some []
theorem Room.mono {j k:Nat}{A:Around}(r:Room k A)(h:j≤k):Room j A:=⟨r.hd,by have:=r.dp;omega,by have:=r.un;omega,r.gd⟩
theorem Room.deeper {k:Nat}{A:Around}(r:Room (k+1) A)(env:Env):Room k (A.deeper env) :=
 ⟨r.hd,by have:=r.dp;show A.depth+1+3*k+5<_;omega,by have:=r.un;show A.units+3+16*k+200<_;omega,r.gd⟩
theorem Room.in1 {k:Nat}{A:Around}(r:Room (k+1) A):Room k A.in1 :=
 ⟨r.hd,by have:=r.dp;show A.depth+3*k+5<_;omega,by have:=r.un;show A.units+1+16*k+200<_;omega,r.gd⟩
theorem Room.depth {k:Nat}{A:Around}(r:Room k A):A.depth<recursionLimit:=by have:=r.dp;omega
theorem Room.units {k:Nat}{A:Around}(r:Room k A):A.units+64<cLine:=by have:=r.un;omega
def tNil:TA:=fun _ H Q=>Q [] H
def tCons (ta:TE)(tr:TA):TA:=fun σ H Q=>ta σ H fun x H1=>tr σ H1 fun xs H2=>Q (x::xs) H2
section
variable {X:Cx}{e:Expr}{es:List Expr}{te:TE}{t:TA}{pos:Pos}
theorem pa_nil:PA X [] tNil:=fun _ _ _ _ H Q I h=>Calls.spliced_nil ⟨[],H,I,.nil,h⟩
theorem pa_cons (ha:PE X e te)(hr:PA X es t)(hs:starEach (e::es) X.env=(false,eval e X.env)::starEach es X.env:=by rfl):PA X (e::es) (tCons te t):=by
 intro pos pins s σ H Q I h;rw[hs];show wpAny _ _ (spliced ((false,eval e X.env)::backTo pos (starEach es X.env))) _ _ s;refine Calls.spliced_cons (thn (ha pins s σ H _ I h) fun u s1 ⟨x,H1,I1,r1,q1⟩=>?_);exact thn (hr pos pins s1 σ H1 _ I1 q1) fun us s2 ⟨xs,H2,I2,r2,q2⟩=>⟨x::xs,H2,I2,.cons r1 r2,q2⟩
def tTup (t:TA):TE:=fun σ H Q=>t σ H fun xs H1=>xs.length≤sizeLine∧∀ p,H1 p=none→Q (.ref p) (upd H1 p (.tup xs))
def tLst (t:TA):TE:=fun σ H Q=>t σ H fun xs H1=>xs.length≤sizeLine∧∀ p,H1 p=none→Q (.ref p) (upd H1 p (.lst xs))
theorem pe_tup {x1}(h:PA X es t):PE X (.Tuple es x1 pos) (tTup t):=by
 intro pins s σ H Q I hq;refine wpAny_Tuple_spliced (thn (h pos pins s σ H _ I hq) fun us s1 ⟨xs,H1,I1,r,z,q⟩=>⟨by rw[← r.length];exact z,?_⟩);have hf:H1 s1.heap.objs.size=none:=I1.hok.fresh (Nat.le_refl _);refine⟨.ref s1.heap.objs.size,upd H1 s1.heap.objs.size (.tup xs),I1.laid (t':=s1.toks) (fun b u e=>Heap.get?_push_of_some _ e) (Nat.le_refl _) ?_,rfl,q _ hf⟩;exact⟨z,us,r,⟨_,Heap.get?_push_size _ rfl,rfl,_,rfl⟩⟩
theorem pe_lst (h:PA X es t):PE X (.List es pos) (tLst t):=by
 intro pins s σ H Q I hq;refine wpAny_List_spliced (thn (h pos pins s σ H _ I hq) fun us s1 ⟨xs,H1,I1,r,z,q⟩=>⟨by rw[← r.length];exact z,?_⟩);have hf:H1 s1.heap.objs.size=none:=I1.hok.fresh (Nat.le_refl _);refine⟨.ref s1.heap.objs.size,upd H1 s1.heap.objs.size (.lst xs),I1.laid (t':=s1.toks) (fun b u e=>Heap.get?_push_of_some _ e) (Nat.le_refl _) ?_,rfl,q _ hf⟩;exact⟨z,us,0,r,Heap.get?_push_size _ rfl⟩
end
abbrev Sp:=List V→Hp→VK→XK→Prop
abbrev CXT:=List Env→Hp→Shared→XK→Value→Shared→Prop
structure Env0 (P:Program)(w:World)(K:PySem.W.Frag)(mg:Str→Option Value)(base:Heap)(A:Around)(outer:List Env)(s:Shared)(H:Hp):Prop where
 frames:A.frames=some outer
 mod:Mod K mg base
 bs:∀ b o,base.get? b=some o→s.heap.get? b=some o∧H b=none
 bsz:base.objs.size≤s.heap.objs.size
 funs:s.heap.FunFrames base outer
 frf:∀ b∈frs outer,H b=none
 hok:HOk P w H s.heap
 bare:AllBare s.gens
def CE (outer:List Env)(P:Program)(w:World)(H:Hp)(s:Shared)(Q:VK)(u:Value)(s':Shared):Prop :=
 ∃ v H',s'.os=s.os∧AllBare s'.gens∧Un (frs outer) [] H H' s.heap s'.heap∧HOk P w H' s'.heap∧RelV v u∧Q v H'
def CR (CX:CXT)(outer:List Env)(P:Program)(w:World)(H:Hp)(s:Shared)(Q:VK)(E:XK)(r:Result)(s':Shared):Prop :=
 match r with
 | .ok (.ret u)=>CE outer P w H s Q u s'
 | .ok _=>False
 | .error e=>CX outer H s E e s'
structure FnOk (P:Program)(w:World)(K:PySem.W.Frag)(mg:Str→Option Value)(base:Heap)(CX:CXT)(k:Nat)(f:Addr)(fd:FuncData)(ps:List Str)(sp:Sp):Prop where
 len:∀ vs H Q E,sp vs H Q E→vs.length=ps.length
 run:∀ (A:Around) (outer:List Env) (s:Shared) (H:Hp) (args:Args) (us:List Value) (vs:List V) (Q:VK) (E:XK),Room k A→Env0 P w K mg base A outer s H→BindsTo s fd args (ps.zip us)→Vals vs us→sp vs H Q E →
  codeAny (model P w) A (.call (.ref f) args) (CR CX outer P w H s Q E) s
theorem FnOk.mono {P:Program}{w:World}{K:PySem.W.Frag}{mg:Str→Option Value}{base:Heap}{CX:CXT}{j k:Nat}{f:Addr}{fd:FuncData}{ps:List Str}{sp:Sp}(F:FnOk P w K mg base CX j f fd ps sp)(h:j≤k) :
  FnOk P w K mg base CX k f fd ps sp:=⟨F.len,fun A outer s H args us vs Q E hr=>F.run A outer s H args us vs Q E (hr.mono h)⟩
theorem FnOk.imp {P:Program}{w:World}{K:PySem.W.Frag}{mg:Str→Option Value}{base:Heap}{CX:CXT}{k:Nat}{f:Addr}{fd:FuncData}{ps:List Str}{sp sp':Sp}(F:FnOk P w K mg base CX k f fd ps sp)
  (h:∀ vs H Q E,sp' vs H Q E→sp vs H Q E):FnOk P w K mg base CX k f fd ps sp' :=
 ⟨fun vs H Q E q=>F.len vs H Q E (h _ _ _ _ q),fun A outer s H args us vs Q E hr he hb hv hs=>F.run A outer s H args us vs Q E hr he hb hv (h _ _ _ _ hs)⟩
theorem Env0.in1 {P:Program}{w:World}{K:PySem.W.Frag}{mg:Str→Option Value}{base:Heap}{A:Around}{outer:List Env}{s:Shared}{H:Hp}(e:Env0 P w K mg base A outer s H) :
  Env0 P w K mg base A.in1 outer s H:=⟨e.frames,e.mod,e.bs,e.bsz,e.funs,e.frf,e.hok,e.bare⟩
section
variable {X:Cx}{pins:List (Addr×Obj)}{σ:St}{H:Hp}{s s':Shared}
theorem Inv.env0 (I:Inv X pins σ H s):Env0 X.prog X.w X.K X.mg X.base X.A X.stack s H :=
 ⟨I.ok.frames,I.ok.mod,I.bs,Nat.le_trans I.ok.bsz I.sz,I.stack,I.stkFree,I.hok,I.bare⟩
theorem Inv.after {Q:VK}{u:Value}(I:Inv X pins σ H s)(h:CE X.stack X.prog X.w H s Q u s'):EP X pins σ Q u s':=by
 obtain⟨v,H',os,bare,un,hok,r,q⟩:=h;obtain⟨hh,g,d,t,os'⟩:=s';obtain rfl:os'=s.os:=os;exact⟨v,H',I.call (h':=hh) (g':=g) (d':=d) (t':=t) (ch:=[]) un hok bare (fun b z=>absurd z (by simp)),r,q⟩
end
def tCall (sp:Sp)(dvs:List V)(E:XK)(t:TA):TE:=fun σ H Q=>t σ H fun vs H1=>sp (vs++dvs) H1 Q E
def Binds (K:PySem.W.Frag)(fd:FuncData)(ps:List Str)(ds:List Value):Prop :=
 ∀ (s:Shared) (us:List Value),K.In s.heap→(us++ds).length=ps.length→BindsTo s fd ⟨us,[]⟩ (ps.zip (us++ds))
theorem Binds.all {K:PySem.W.Frag}{fd:FuncData}{ps:List Str}(h:∀ us:List Value,us.length=ps.length→bindArgs fd ⟨us,[]⟩=pure (ps.zip us)):Binds K fd ps []:=fun s us _ hl=>by
 rw[List.append_nil] at hl ⊢;exact .of_eq (h us hl)
def Passes (CX:CXT)(X:Cx)(E:XK):Prop:=∀ (pins:List (Addr×Obj)) (σ:St) (H:Hp) (s:Shared) (e:Value) (s':Shared),Inv X pins σ H s→CX X.stack H s E e s'→X.xe e s'
section
variable {X:Cx}{CX:CXT}{k:Nat}{f C:Addr}{fd:FuncData}{ps:List Str}{sp:Sp}{dvs:List V}{ds:List Value}{E:XK}{x m:Str}{p pos apos:Pos}{e o:Expr}{es:List Expr}{ta:TE}{t:TA}
theorem run_fn {pins:List (Addr×Obj)}{σ:St}{H:Hp}{s:Shared}{Q:VK}{us:List Value}{vs:List V}(F:FnOk X.prog X.w X.K X.mg X.base CX k f fd ps sp)(hr:Room k X.A)(hb:Binds X.K fd ps ds)(hd:Vals dvs ds)(hx:Passes CX X E)
  (I:Inv X pins σ H s) (r:Vals vs us) (h:sp (vs++dvs) H Q E):wpAny (model X.prog X.w) X.A (call (.ref f) us) (EP X pins σ Q) X.xe s:=by
 have r2:Vals (vs++dvs) (us++ds):=r.append hd;have hl:(us++ds).length=ps.length:=by rw[← r2.length];exact F.len _ _ _ _ h
 refine wpAny_call (codeAny_mono (F.run X.A X.stack s H ⟨us,[]⟩ (us++ds) (vs++dvs) Q E hr I.env0 (hb s us I.kIn hl) r2 h) fun r s' hq=>?_);cases r with
 | error e=>exact hx pins σ H s e s' I hq
 | ok fl =>
  cases fl with
  | ret u=>exact I.after hq
  | next=>exact False.elim hq
  | brk=>exact False.elim hq
  | cont=>exact False.elim hq
theorem pe_call (F:FnOk X.prog X.w X.K X.mg X.base CX k f fd ps sp)(hr:Room k X.A)(hg:Gl X x)(hm:X.mg x=some (.ref f))(hk:PySem.W.keepIn X.K (.ref f)=true)(hb:Binds X.K fd ps ds)(hd:Vals dvs ds)(hx:Passes CX X E)
  (ha:PA X (e::es) t) (hdb:(x == ("__debug__":Str))=false:=by decide) (he:starEach (e::es) X.env=(false,eval e X.env)::starEach es X.env:=by rfl) (hpl:(backTo pos (starEach es X.env)).any (·.1)=false:=by rfl) :
  PE X (.Call (.Name x p) (e::es) [] pos) (tCall sp dvs E t):=by
 intro pins s σ H Q I h;refine wpAny_Call_Name_kw (ld_glob I hg hm ?_ hdb);refine PySem.W.callWith_K (h₀:=X.base) I.ok.mod.kin hk (thn (ha pos pins s σ H _ I h) fun us s1 ⟨vs,H1,I1,r,q⟩=>⟨I1.kIn,?_⟩) he hpl;exact run_fn F hr hb hd hx I1 r q
end
section
variable {X:Cx}{CX:CXT}{k:Nat}{f C:Addr}{fd:FuncData}{ps ks:List Str}{sp:Sp}{E:XK}{x m:Str}{p pos apos kpos:Pos}{e o:Expr}{es:List Expr}{kws:List Keyword}{te ta:TE}{t tk:TA}{nm:Option Str}
variable {g:List Value→List Value→List Value}{gV:List V→List V→List V}
end
structure FnScope (N P:List Str)(sc:Scope):Prop where
 kind:sc.kind=.function
 co:sc.isCoroutine=false
 gen:sc.isGenerator=false
 nd:N.Nodup
 pre:N.take P.length=P
 par:∀ x∈P,sc.names.lookup x=some .local∨sc.names.lookup x=some .cell
 nofree:∀ y∈sc.names,y.2≠.free
theorem bindL_out {kindOf:Str→Option NameKind}{x:Str}:∀ {binds:List (Str×Value)} {m:Str→Option Value},(∀ v,(x,v)∉binds)→bindL kindOf binds m x=m x
 | [],_,_=>rfl
 | (n,v)::r,m,h=>by
  unfold bindL;rw[bindL_out fun w hw=>h w (List.mem_cons_of_mem _ hw)];split
  ·have:x≠n:=by rintro rfl;exact h v List.mem_cons_self
   simp[this]
  ·rfl
theorem bindC_out {kindOf:Str→Option NameKind}{x:Str}:∀ {binds:List (Str×Value)} {m:Str→Option Value},(∀ v,(x,v)∉binds)→bindC kindOf binds m x=m x
 | [],_,_=>rfl
 | (n,v)::r,m,h=>by
  unfold bindC;rw[bindC_out fun w hw=>h w (List.mem_cons_of_mem _ hw)];split
  ·rfl
  ·have:x≠n:=by rintro rfl;exact h v List.mem_cons_self
   simp[this]
theorem bindL_get {kindOf:Str→Option NameKind}{x:Str}{v:Value}:∀ {P:List Str} {vs:List Value} {i:Nat} {m:Str→Option Value},P.Nodup→P[i]?=some x→vs[i]?=some v→kindOf x=some .local →
  bindL kindOf (P.zip vs) m x=some v
 | [],_,_,_,_,h,_,_=>by simp at h
 | _::_,[],_,_,_,_,h,_=>by simp at h
 | p::P,w::vs,0,m,nd,h1,h2,hk=>by
  simp at h1 h2;subst h1;subst h2;show bindL kindOf ((p,w)::P.zip vs) m p=_;unfold bindL;rw[bindL_out fun v hv=>(List.nodup_cons.mp nd).1 (List.of_mem_zip hv).1,if_pos hk];simp
 | p::P,w::vs,i+1,m,nd,h1,h2,hk=>by
  show bindL kindOf ((p,w)::P.zip vs) m x=_;unfold bindL;exact bindL_get (i:=i) (List.nodup_cons.mp nd).2 (by simpa using h1) (by simpa using h2) hk
theorem bindC_get {kindOf:Str→Option NameKind}{x:Str}{v:Value}:∀ {P:List Str} {vs:List Value} {i:Nat} {m:Str→Option Value},P.Nodup→P[i]?=some x→vs[i]?=some v→kindOf x≠some .local →
  bindC kindOf (P.zip vs) m x=some v
 | [],_,_,_,_,h,_,_=>by simp at h
 | _::_,[],_,_,_,_,h,_=>by simp at h
 | p::P,w::vs,0,m,nd,h1,h2,hk=>by
  simp at h1 h2;subst h1;subst h2;show bindC kindOf ((p,w)::P.zip vs) m p=_;unfold bindC;rw[bindC_out fun v hv=>(List.nodup_cons.mp nd).1 (List.of_mem_zip hv).1,if_neg hk];simp
 | p::P,w::vs,i+1,m,nd,h1,h2,hk=>by
  show bindC kindOf ((p,w)::P.zip vs) m x=_;unfold bindC;exact bindC_get (i:=i) (List.nodup_cons.mp nd).2 (by simpa using h1) (by simpa using h2) hk
def start (N:List Str)(vs:List V):St:=vs.map some++List.replicate (N.length-vs.length) none
def cxOf (CX:CXT)(P:Program)(w:World)(K:PySem.W.Frag)(mg:Str→Option Value)(base:Heap)(N:List Str)(qual:Str)(scope:Scope)(f:Addr)(cd:Value)(A:Around)(outer:List Env)(s:Shared)(H:Hp)(E:XK):Cx where
 prog:=P
 w:=w
 K:=K
 mg:=mg
 base:=base
 A:=A.deeper (envOfC qual scope s.heap.objs.size f cd)
 N:=N
 s₀:=s
 H₀:=H
 env:=envOfC qual scope s.heap.objs.size f cd
 outer:=outer
 stack:=envOfC qual scope s.heap.objs.size f cd::outer
 ex:=[]
 calm:=true
 fn:=fun _=>true
 pn:=[]
 xe:=fun e s'=>wpAny (model P w) (A.deeper (envOfC qual scope s.heap.objs.size f cd)) (leaving (envOfC qual scope s.heap.objs.size f cd) e) (fun _ s''=>CX outer H s E e s'') (fun e' s''=>CX outer H s E e' s'') s'
theorem cell_has {sc:Scope}{n:Nat}{x:Str}(h:sc.names.lookup x=some .cell):∃ c,(cellsFrom n sc.names []).lookup x=some c:=by
 have q:=PySem.W.cellsFrom_some sc.names n [] (.inl h);exact Option.isSome_iff_exists.mp q
theorem inv_start {CX:CXT}{P:Program}{w:World}{K:PySem.W.Frag}{mg:Str→Option Value}{base:Heap}{N ps:List Str}{qual:Str}{scope:Scope}{f:Addr}{cd:Value}{A:Around}{outer:List Env}{s s1:Shared}{H:Hp}{E:XK}{us:List Value}{vs:List V}
  (S:FnScope N ps scope) (hd:A.handled=none) (e0:Env0 P w K mg base A outer s H) (hl:vs.length=ps.length) (r:Vals vs us)
  (x:InCallC s s.heap.objs.size (bindL (envOfC qual scope s.heap.objs.size f cd).kindOf (ps.zip us) fun _=>none) (cellsFrom (s.heap.objs.size+1) scope.names []) (bindC (envOfC qual scope s.heap.objs.size f cd).kindOf (ps.zip us) fun _=>none) s1) :
  Inv (cxOf CX P w K mg base N qual scope f cd A outer s H E) [] (start N vs) H s1:=by
 have hpl:ps.length≤N.length:=by have:=congrArg List.length S.pre;rw[List.length_take] at this;omega
 obtain⟨h1,tk,rfl,hk⟩:=x.done;have noA:∀ b:Addr,b∉(cxOf CX P w K mg base N qual scope f cd A outer s H E).ex:=fun b z=>absurd (show b∈([]:List Addr) from z) (by simp)
 refine⟨⟨e0.mod,S.kind,rfl,rfl,Nat.le_refl _,fun y z c h1 h2=>?_,fun y hy=>?_,fun y c _ h=>?_,fun _=>hd,Around.frames_deeper e0.frames,.inr ⟨rfl,rfl⟩,fun b z=>absurd z (noA b),e0.bs,e0.bsz,fun b _ _=>noA b,fun b z=>absurd z (noA b),e0.funs,e0.frf⟩,
  rfl,e0.bare,Un.kept hk,⟨_,x.toInCall.ns,fun i y v h1 h2 h3=>?_⟩,fun y c h=>⟨_,x.cell y c h⟩,e0.hok.fresh (Nat.le_refl _),fun y c h=>?_,fun p hp=>absurd (show p∈([]:List (Addr×Obj)) from hp) (by simp),e0.hok.kept hk,?_⟩
 ·exact name_of_addr x.apart (PySem.mem_of_lookup h1) (PySem.mem_of_lookup h2)
 ·have hy:scope.names.lookup y=some .cell∨scope.names.lookup y=some .free:=hy;rcases hy with hy | hy
  ·exact cell_has hy
  ·exact absurd rfl (S.nofree _ (PySem.mem_of_lookup hy))
 ·exact Nat.le_of_lt (x.above y c (PySem.mem_of_lookup h))
 ·have hi:i<vs.length:=by
   unfold start at h2;by_cases hi:i<vs.length
   ·exact hi
   ·rw[List.getElem?_append_right (by simpa using hi)] at h2;rw[List.getElem?_replicate] at h2;split at h2<;>cases h2
  have ha:vs[i]?=some v:=by
   unfold start at h2;rw[List.getElem?_append_left (by simpa using hi),List.getElem?_map] at h2;cases e:vs[i]? with
   | none=>rw[e] at h2;cases h2
   | some a=>rw[e] at h2;cases h2;rfl
  obtain⟨u,hu,rv⟩:=r.get ha;have hp:ps[i]?=some y:=by
   rw[← S.pre,List.getElem?_take_of_lt (by omega)];exact h1
  have ndP:ps.Nodup:=by rw[← S.pre];exact S.nd.sublist (List.take_sublist _ _)
  refine⟨u,rv,?_⟩;rcases S.par y (List.mem_of_getElem? hp) with k | k
  ·exact .inl ⟨k,bindL_get ndP hp hu k⟩
  ·obtain⟨c,e⟩:=cell_has (n:=s.heap.objs.size+1) k;refine .inr ⟨.inl k,c,e,?_⟩;have q:=x.cell y c e;rw[bindC_get ndP hp hu (by show scope.names.lookup y≠_;rw[k];decide)] at q;exact q
 ·exact e0.hok.fresh (Nat.le_of_lt (x.above y c (PySem.mem_of_lookup h)))
 ·unfold start;show _=N.length;rw[List.length_append,List.length_map,List.length_replicate];omega
theorem fn_of {CX:CXT}{P:Program}{w:World}{K:PySem.W.Frag}{mg:Str→Option Value}{base:Heap}{k:Nat}{f:Addr}{name qual:Str}{params:Arguments}{body:List Stmt}{scope:Scope}{dV kV doc pm cdv ct oc:Value}{an od:Option Addr}
  {osl:Array (Option Value)} {N ps:List Str} {sp:Sp} (lk:K.lookup f=some ⟨oc,od,.func (PySem.W.fnOf name qual params body scope dV kV doc pm an cdv ct),osl⟩) (hcd:PySem.W.codeIn K cdv qual=true) (S:FnScope N ps scope)
  (len:∀ vs H Q E,sp vs H Q E→vs.length=ps.length)
  (hbody:∀ (A:Around) (outer:List Env) (s:Shared) (H:Hp) (vs:List V) (Q:VK) (E:XK),Room k (A.deeper (envOfC qual scope s.heap.objs.size f cdv))→sp vs H Q E →
   ∃ t,PSs (cxOf CX P w K mg base N qual scope f cdv A outer s H E) body t∧t {nx:=fun _ H'=>Q .non H',rt:=Q} (start N vs) H) :
  FnOk P w K mg base CX (k+1) f (PySem.W.fnOf name qual params body scope dV kV doc pm an cdv ct) ps sp:=by
 refine⟨len,fun A outer s H args us vs Q E hr e0 hb r hsp=>?_⟩;have hl:=len _ _ _ _ hsp;have KX:K.In s.heap:=e0.mod.kin.keeps fun b o e=>(e0.bs b o e).1
 have lim:s.heap.NoLimit:=e0.mod.nolimit.keeps fun b o e=>(e0.bs b o e).1
 have hkind:∀ y∈ps.zip us,scope.names.lookup y.1=some .local∨(scope.names.lookup y.1=some .cell∧((cellsFrom (s.heap.objs.size+1) scope.names []).lookup y.1).isSome=true):=fun ⟨n,v⟩ hy=>by
  rcases S.par n (List.of_mem_zip hy).1 with q | q
  ·exact .inl q
  ·exact .inr ⟨q,PySem.W.cellsFrom_some _ _ _ (.inl q)⟩
 refine codeAny_call_function hr.depth (KX _ _ lk) rfl S.co S.gen rfl (PySem.W.codeRec_of KX hcd) (hb _ _ _ _ ?_);refine wpAny_newFunctionEnv_cells S.kind hkind fun env he s1 x=>?_
 subst he;refine⟨lim.keeps x.toInCall.keep,codeAny_func ?_⟩;obtain⟨t,ht,hq⟩:=hbody A outer s H vs Q E (hr.deeper _) hsp;have I:Inv (cxOf CX P w K mg base N qual scope f cdv A outer s H E) [] (start N vs) H s1:=inv_start S hr.hd e0 hl r x;refine wpAny_mono (ht [] s1 (start N vs) H _ I hq) (fun fl s' hs=>?_) fun e s' hs=>hs
 have fin:∀ {σ':St} {H':Hp} {v:V} {u:Value},Inv (cxOf CX P w K mg base N qual scope f cdv A outer s H E) [] σ' H' s'→RelV v u→Q v H'→CE outer P w H s Q u s' :=
  fun {σ' H' v u} J rv q=>⟨v,H',J.os,J.bare,J.base,J.hok,rv,q⟩
 cases fl with
 | ret u =>
  obtain⟨v,σ',H',J,rv,q⟩:=hs;exact fin J rv q
 | next =>
  obtain⟨σ',H',J,q⟩:=hs;exact fin (v:=V.non) (u:=Value.none) J rfl q
 | brk =>
  obtain⟨_,_,_,q⟩:=hs;exact False.elim q
 | cont =>
  obtain⟨_,_,_,q⟩:=hs;exact False.elim q
end L2
namespace L2
open PySem PySem.Spec PyProof.Rows
section
variable {X:Cx}{x:Str}{p pos:Pos}{e:Expr}{es:List Expr}{t:TA}{id T:String}{r:List V→Hp→VK→Prop}
def tCB (r:List V→Hp→VK→Prop)(t:TA):TE:=fun σ H Q=>t σ H fun vs H1=>r vs H1 Q
theorem pe_callB (hc:CallR X (.builtin id) r)(hg:Gl X x)(hm:X.mg x=none)(hv:bootBuiltins x=some (.builtin id))(ha:PA X (e::es) t)(hn:x≠"__name__":=by decide)(hdb:(x == ("__debug__":Str))=false:=by decide)
  (he:starEach (e::es) X.env=(false,eval e X.env)::starEach es X.env:=by rfl) (hpl:(backTo pos (starEach es X.env)).any (·.1)=false:=by rfl):PE X (.Call (.Name x p) (e::es) [] pos) (tCB r t):=by
 intro pins s σ H Q I h;refine wpAny_Call_Name_kw (ld_blt I hg hm hv ?_ hn hdb);exact PyProof.Rows.callWith_builtin1 (thn (ha pos pins s σ H _ I h) fun us s1 ⟨vs,H1,I1,r1,q1⟩=>hc pins s1 σ H1 vs us Q I1 r1 q1) he hpl
theorem pe_callTy (hc:CallR X (.type T) r)(hg:Gl X x)(hm:X.mg x=none)(hv:bootBuiltins x=some (.type T))(ha:PA X (e::es) t)(hn:x≠"__name__":=by decide)(hdb:(x == ("__debug__":Str))=false:=by decide)
  (he:starEach (e::es) X.env=(false,eval e X.env)::starEach es X.env:=by rfl) (hpl:(backTo pos (starEach es X.env)).any (·.1)=false:=by rfl):PE X (.Call (.Name x p) (e::es) [] pos) (tCB r t):=by
 intro pins s σ H Q I h;refine wpAny_Call_Name_kw (ld_blt I hg hm hv ?_ hn hdb);exact PyProof.Rows.callWith_type1 (thn (ha pos pins s σ H _ I h) fun us s1 ⟨vs,H1,I1,r1,q1⟩=>hc pins s1 σ H1 vs us Q I1 r1 q1) he hpl
end
end L2
namespace HT
open PySem PyProof.Rows
def lexLt:List Int→List Int→Bool
 | [],[]=>false
 | [],_::_=>true
 | _::_,[]=>false
 | x::xs,y::ys=>if x=y then lexLt xs ys else decide (x<y)
theorem lexLt_cons (x y:Int)(xs ys:List Int):lexLt (x::xs) (y::ys)=if x=y then lexLt xs ys else decide (x<y):=rfl
section
open PySem.SeqAt
open PySem.AutoSeq1 (wpAny_loadPart')
open PySem.MeetsSeq PySem.MeetsSeq2 PySem.MeetsSeq3
end
section
variable {prog:Program}{w:World}{A:Around}{E:Value→Shared→Prop}{s:Shared}
def sIx (n d:Nat):Option Int→Nat
 | none=>d
 | some v=>if v<0 then (v+(n:Int)).toNat else min v.toNat n
theorem sIx_none (n d:Nat):sIx n d none=d:=rfl
theorem sIx_nat (n d k:Nat):sIx n d (some (k:Int))=min k n:=by
 show (if (k:Int)<0 then ((k:Int)+(n:Int)).toNat else min (k:Int).toNat n)=min k n;rw[if_neg (by omega),Int.toNat_natCast]
end
end HT
namespace L2
open PySem PySem.Spec PyProof.Rows
abbrev TO:=St→Hp→(Option Int→Hp→Prop)→Prop
def PO (X:Cx)(e:Option Expr)(t:TO):Prop :=
 ∀ (pins:List (Addr×Obj)) (s:Shared) (σ:St) (H:Hp) (Q:Option Int→Hp→Prop),Inv X pins σ H s→t σ H Q →
  wpAny (model X.prog X.w) X.A (evalPart e X.env) (fun u s'=>∃ o H',Inv X pins σ H' s'∧IsPart u o∧Q o H') X.xe s
def tNoPart:TO:=fun _ H Q=>Q none H
def tPart (t:TE):TO:=fun σ H Q=>t σ H fun x H1=>∃ i,x=.int i∧Q (some i) H1
theorem intsAre_of {ns:List Int}:∀ {us:List Value},Vals (ns.map V.int) us→IntsAre us ns:=by
 induction ns with
 | nil=>intro us r;rw[List.map_nil] at r;cases r;exact .nil
 | cons n ns ih =>
  intro us r;rw[List.map_cons] at r;cases r with
  | cons r1 r2 =>
   obtain⟨t,e⟩:=r1;subst e;exact .cons n t (ih r2)
section
variable {X:Cx}{e:Expr}{te:TE}{lo hi:Option Expr}{tl th:TO}{pos p2:Pos}
theorem po_none:PO X none tNoPart:=by
 intro pins s σ H Q I h;rw[evalPart_none];exact wpAny_pure ⟨none,H,I,.none,h⟩
theorem po_some (h:PE X e te):PO X (some e) (tPart te):=by
 intro pins s σ H Q I hw;rw[evalPart_some];refine thn (h pins s σ H _ I hw) fun u s1 ⟨x,H1,I1,r1,q1⟩=>?_
 obtain⟨i,rfl,q⟩:=q1;obtain⟨t,rfl⟩:=r1;exact⟨some i,H1,I1,.int i t,q⟩
def SlR (X:Cx)(r:V→Option Int→Option Int→Hp→VK→Prop):Prop :=
 ∀ (pins:List (Addr×Obj)) (s:Shared) (σ:St) (H:Hp) (x:V) (v vl vu:Value) (lo hi:Option Int) (sl:Addr) (Q:VK),Inv X pins σ H s→RelV x v→s.heap.IsSliceOf sl vl vu .none→IsPart vl lo→IsPart vu hi→r x lo hi H Q →
  ∃ T id,typeLookup (.type T) "__getitem__"=pure (some (.builtin id))∧s.TypeIs v T∧wpAny (model X.prog X.w) X.A (getItem v (.ref sl)) (EP X pins σ Q) X.xe s
def tSl (r:V→Option Int→Option Int→Hp→VK→Prop)(te:TE)(tl th:TO):TE:=fun σ H Q=>te σ H fun x H1=>tl σ H1 fun l H2=>th σ H2 fun u H3=>r x l u H3 Q
theorem pe_slice {r:V→Option Int→Option Int→Hp→VK→Prop}(hr:SlR X r)(he:PE X e te)(hl:PO X lo tl)(hu:PO X hi th):PE X (.Subscript e (.Slice lo hi none p2) pos) (tSl r te tl th):=by
 intro pins s σ H Q I h;refine Subscript_ (thn (he pins s σ H _ I h) fun v s1 ⟨x,H1,I1,r1,q1⟩=>?_);refine wpAny_Slice (thn (hl pins s1 σ H1 _ I1 q1) fun vl s2 ⟨l,H2,I2,pl,q2⟩=>thn (hu pins s2 σ H2 _ I2 q2) fun vu s3 ⟨u,H3,I3,pu,q3⟩=>?_);rw[evalPart_none];refine wpAny_pure ?_;have I4:Inv X pins σ H3 {s3 with heap:=s3.heap.push {cls:=.type "slice",data:=.fields #[vl,vu,.none]}}:=I3.kept (t':=s3.toks) fun b ob q=>Heap.get?_push_of_some _ q
 obtain⟨T,id,hT,ht,hg⟩:=hr pins {s3 with heap:=s3.heap.push {cls:=.type "slice",data:=.fields #[vl,vu,.none]}} σ H3 x v vl vu l u s3.heap.objs.size Q I4 r1 (Heap.IsSliceOf.new ..) pl pu q3;show wpAny (model X.prog X.w) X.A (subscriptTail e (.Slice lo hi none p2) v (.ref s3.heap.objs.size)) (EP X pins σ Q) X.xe {s3 with heap:=s3.heap.push {cls:=.type "slice",data:=.fields #[vl,vu,.none]}};exact tail_any (ops:=[.ref s3.heap.objs.size,v]) ht hT hg (by with_unfolding_all rfl)
def cutV (xs:List V)(lo hi:Option Int):List V:=(xs.drop (HT.sIx xs.length 0 lo)).take (HT.sIx xs.length xs.length hi-HT.sIx xs.length 0 lo)
theorem cutV_length (xs:List V)(lo hi:Option Int):(cutV xs lo hi).length≤xs.length:=by
 unfold cutV;rw[List.length_take,List.length_drop];omega
end
end L2
namespace L2
open PySem PySem.Spec PyProof.Rows
def ixN (n:Nat)(i:Int):Option Nat:=if 0≤i then (if i<n then some i.toNat else none) else if -(n:Int)≤i then some (i+n).toNat else none
def atI {α:Type}(xs:List α)(i:Int):Option α:=(ixN xs.length i).bind fun j=>xs[j]?
theorem ixN_seq {n:Nat}{i:Int}{j:Nat}(h:ixN n i=some j):seqIndex? i n=some j∧j<n∧-(n:Int)≤i∧i<n:=by
 unfold ixN at h;by_cases h0:0≤i
 ·rw[if_pos h0] at h;by_cases h1:i<n
  ·rw[if_pos h1] at h;have e:i.toNat=j:=Option.some.inj h;exact⟨by rw[seqIndex_of h0 h1,e],by omega,by omega,h1⟩
  ·rw[if_neg h1] at h;cases h
 ·rw[if_neg h0] at h;by_cases h1:-(n:Int)≤i
  ·rw[if_pos h1] at h;have e:(i+n).toNat=j:=Option.some.inj h;exact⟨by rw[seqIndex_neg (by omega) h1,e],by omega,h1,by omega⟩
  ·rw[if_neg h1] at h;cases h
theorem atI_get {α:Type}{xs:List α}{i:Int}{v:α}(h:atI xs i=some v):∃ j,seqIndex? i xs.length=some j∧xs[j]?=some v∧j<xs.length∧-(xs.length:Int)≤i∧i<xs.length:=by
 unfold atI at h;cases e:ixN xs.length i with
 | none=>rw[e] at h;cases h
 | some j =>
  rw[e] at h;obtain⟨h1,h2,h3,h4⟩:=ixN_seq e;exact⟨j,h1,h,h2,h3,h4⟩
theorem atI_nat {α:Type}{xs:List α}{j:Nat}{v:α}(h:xs[j]?=some v):atI xs (j:Int)=some v:=by
 have hj:j<xs.length:=(List.getElem?_eq_some_iff.mp h).1;have e:ixN xs.length (j:Int)=some j:=by
  unfold ixN;rw[if_pos (by omega),if_pos (by omega)];simp
 unfold atI;rw[e];exact h
def PlainIx (b:Expr):Prop:=∀ o i,subscripted b false o i=operate [o,i] (getItem o i)
def IxR (X:Cx)(r:R2):Prop :=
 ∀ (value slice:Expr) (pins:List (Addr×Obj)) (s:Shared) (σ:St) (H:Hp) (x y:V) (v u:Value) (Q:VK),Inv X pins σ H s→RelV x v→RelV y u→r x y H Q →
  subscripted slice false v u=operate [v,u] (getItem v u)→wpAny (model X.prog X.w) X.A (subscriptTail value slice v u) (EP X pins σ Q) X.xe s
def MtR (X:Cx)(id:String)(r:V→List V→Hp→VK→Prop):Prop :=
 ∀ (pins:List (Addr×Obj)) (s:Shared) (σ:St) (H:Hp) (x:V) (xs:List V) (v:Value) (us:List Value) (Q:VK),Inv X pins σ H s→RelV x v→Vals xs us→r x xs H Q →
  wpAny (model X.prog X.w) X.A (call (.builtin id) (v::us)) (EP X pins σ Q) X.xe s
section
variable {X:Cx}{a b:Expr}{ta tb:TE}{pos:Pos}
theorem pe_ix {r:R2}(hr:IxR X r)(ha:PE X a ta)(hb:PE X b tb)(hs:PlainIx b):PE X (.Subscript a b pos) (tOp r ta tb):=by
 intro pins s σ H Q I h;exact Subscript_ (binT ha hb I h fun v u s2 x y H2 I2 rx ry q=>hr a b pins s2 σ H2 x y v u Q I2 rx ry q (hs _ _))
def rIxL (K:PySem.W.Frag):R2:=fun x y H Q=>∃ p xs i v,x=.ref p∧y=.int i∧SqL K H p xs∧atI xs i=some v∧Q v H
def rIxT (K:PySem.W.Frag):R2:=fun x y H Q=>∃ p xs i v,x=.ref p∧y=.int i∧SqT K H p xs∧atI xs i=some v∧Q v H
theorem ix_list:IxR X (rIxL X.K):=by
 intro value slice pins s σ H x y v u Q I rx ry h hs;obtain⟨p,xs,i,z,rfl,rfl,hq,he,q⟩:=h;cases rx;obtain⟨t,rfl⟩:=ry;obtain⟨its,r,pl,hz⟩:=I.list hq;obtain⟨j,h1,h2,h3,h4,h5⟩:=atI_get he;obtain⟨w,ew,rw'⟩:=r.get h2;have hl:=r.length;have hn:=line63;have fin:EP X pins σ Q w s:=⟨z,H,I,rw',q⟩
 by_cases h0:0≤i
 ·have hj:i.toNat=j:=by
   rw[seqIndex_of h0 h5] at h1;exact Option.some.inj h1
  exact item_listR pl.isList h0 (by omega) (by rw[hj];simpa using ew) fin hs
 ·have hj:(i+(its.toArray.size:Int)).toNat=j:=by
   rw[seqIndex_neg (by omega) h4] at h1;rw[List.size_toArray,← hl];exact Option.some.inj h1
  exact subscriptTail_builtinR (x:=w) pl.isList.typeIs slot_list_getitem.lookup
   (wpAny_getItem_list_neg (Q:=fun r s'=>r=w∧EP X pins σ Q r s') pl.isList (by omega) (by rw[List.size_toArray]<;>omega) (by omega) (by rw[hj];simpa using ew) ⟨rfl,fin⟩) hs
theorem ix_tup:IxR X (rIxT X.K):=by
 intro value slice pins s σ H x y v u Q I rx ry h hs;obtain⟨p,xs,i,z,rfl,rfl,hq,he,q⟩:=h;cases rx;obtain⟨t,rfl⟩:=ry;obtain⟨its,r,pl,hz⟩:=I.tuple hq;obtain⟨j,h1,h2,h3,h4,h5⟩:=atI_get he;obtain⟨w,ew,rw'⟩:=r.get h2;have hl:=r.length;have hn:=line63;have fin:EP X pins σ Q w s:=⟨z,H,I,rw',q⟩
 exact subscriptTail_builtinR (x:=w) pl.typeIs slot_tuple_getitem.lookup
  (getItem_tuple (j:=j) (Q:=fun r s'=>r=w∧EP X pins σ Q r s') pl (by omega) (by omega) (by rw[List.size_toArray,← hl];exact h1) (by simpa using ew) ⟨rfl,fin⟩) hs
theorem mapSeq_set (its:List Value)(n j:Nat)(u:Value):Obj.mapSeq (·.setIfInBounds j u) {cls:=.type "list",data:=.seq its.toArray n}={cls:=.type "list",data:=.seq (its.set j u).toArray n}:=by
 simp[Obj.mapSeq]
theorem Inv.lst {pins:List (Addr×Obj)}{σ:St}{H:Hp}{s:Shared}{p:Addr}{xs:List V}(I:Inv X pins σ H s)(h:H p=some (.lst xs)) :
  ∃ (its:List Value) (n:Nat),Vals xs its∧s.heap.get? p=some {cls:=.type "list",data:=.seq its.toArray n}∧xs.length≤sizeLine:=by
 obtain⟨z,its,n,r,e⟩:=I.hok p _ h;exact⟨its,n,r,e,z⟩
theorem Inv.lstUpd {pins:List (Addr×Obj)}{σ:St}{H:Hp}{s:Shared}{p:Addr}{xs ys:List V}{its its':List Value}{n n':Nat}{f:Obj→Obj}(I:Inv X pins σ H s)(h:H p=some (.lst xs))
  (ho:s.heap.get? p=some {cls:=.type "list",data:=.seq its.toArray n}) (hf:f {cls:=.type "list",data:=.seq its.toArray n}={cls:=.type "list",data:=.seq its'.toArray n'}) (r:Vals ys its') (hz:ys.length≤sizeLine) (t:Nat) :
  Inv X pins σ (upd H p (.lst ys)) {s with heap:=s.heap.update p f,toks:=t}:=by
 have e:(s.heap.update p f).get? p=some {cls:=.type "list",data:=.seq its'.toArray n'}:=by
  rw[Heap.get?_update_self f ho (by rw[hf]<;>rfl),hf]
 refine I.write (x:=p) (e:=p) (by rw[h];trivial) (.inl rfl) (fun b u hb q=>(Heap.get?_update_other _ _ (Ne.symm hb)).trans q) ⟨_,e⟩ ?_;exact⟨hz,its',n',r,e⟩
def rSetL:V→V→V→Hp→(Hp→Prop)→Prop:=fun o i v H Q=>∃ p xs k j,o=.ref p∧i=.int k∧H p=some (.lst xs)∧ixN xs.length k=some j∧Q (upd H p (.lst (xs.set j v)))
theorem set_list:PSet X rSetL:=by
 intro pins s σ H o i v ov iv u Q I ro ri rv h;obtain⟨p,xs,k,j,rfl,rfl,hp,hj,q⟩:=h;cases ro;obtain⟨t,rfl⟩:=ri;obtain⟨its,n,r,ho,hz⟩:=I.lst hp;obtain⟨h1,h2,h3,h4⟩:=ixN_seq hj;have hl:=r.length;have hn:=line63;have I':Inv X pins σ (upd H p (.lst (xs.set j v))) {s with heap:=s.heap.update p (Obj.mapSeq (·.setIfInBounds j u))} :=
  I.lstUpd hp ho (mapSeq_set its n j u) (r.set rv j) (by rw[List.length_set];exact hz) s.toks
 by_cases h0:0≤k
 ·have hk:k.toNat=j:=by
   rw[seqIndex_of h0 h4] at h1;exact Option.some.inj h1
  exact PySem.W.ki_setAt ho h0 (by omega) (by rw[List.size_toArray,← hl];exact h4) (by rw[hk];exact⟨_,I',q⟩)
 ·have hk:(k+(its.toArray.size:Int)).toNat=j:=by
   rw[seqIndex_neg (by omega) h3] at h1;rw[List.size_toArray,← hl];exact Option.some.inj h1
  exact PySem.W.ki_setBack ho (by omega) (by rw[List.size_toArray,← hl];exact h3) (by omega) (by rw[hk];exact⟨_,I',q⟩)
theorem slice_bounds (lo hi:Option Int)(n:Nat):(sliceBounds lo hi none n).1=((HT.sIx n 0 lo:Nat):Int)∧(sliceBounds lo hi none n).2.1=((HT.sIx n n hi:Nat):Int)∧(sliceBounds lo hi none n).2.2=1:=by
 refine⟨?_,?_,rfl⟩
 ·cases lo with
  | none=>simp[sliceBounds,HT.sIx]
  | some i =>
   simp only[sliceBounds,HT.sIx,Option.getD_none,show (1:Int)>0 by decide,if_true];by_cases h:i<0
   ·simp only[h,if_true]<;>omega
   ·simp only[h,if_false]<;>omega
 ·cases hi with
  | none=>simp[sliceBounds,HT.sIx]
  | some i =>
   simp only[sliceBounds,HT.sIx,Option.getD_none,show (1:Int)>0 by decide,if_true];by_cases h:i<0
   ·simp only[h,if_true]<;>omega
   ·simp only[h,if_false]<;>omega
theorem slicePick_cut (its:List Value)(lo hi:Option Int):slicePick its.toArray lo hi none=((its.drop (HT.sIx its.length 0 lo)).take (HT.sIx its.length its.length hi-HT.sIx its.length 0 lo)).toArray:=by
 obtain⟨h1,h2,h3⟩:=slice_bounds lo hi its.toArray.size;unfold slicePick;rw[h1,h2,h3];simp only[sliceRange_one,pick_run,List.size_toArray]<;>rfl
def rSlL (K:PySem.W.Frag):V→Option Int→Option Int→Hp→VK→Prop:=fun x lo hi H Q=>∃ a xs,x=.ref a∧SqL K H a xs∧∀ p,H p=none→Q (.ref p) (upd H p (.lst (cutV xs lo hi)))
theorem sl_list:SlR X (rSlL X.K):=by
 intro pins s σ H x v vl vu lo hi sl Q I rx hs pl pu h;obtain⟨a,xs,rfl,hx,q⟩:=h;cases rx;obtain⟨its,r,ht,hz⟩:=I.list hx;have hlen:=r.length;refine⟨"list",_,slot_list_getitem.lookup,ht.isList.typeIs,?_⟩;refine wpAny_getItem_list_slice ht.isList hs pl pu .none (by simp) ?_ (by rw[List.size_toArray]<;>omega);rw[slicePick_cut,← hlen];refine⟨.ref s.heap.objs.size,_,I.laid (t':=s.toks) (o:=.lst (cutV xs lo hi)) (fun b ob q=>Heap.get?_push_of_some _ q) (Nat.le_refl _) ?_,rfl,q _ (I.hok.fresh (Nat.le_refl _))⟩;exact⟨Nat.le_trans (cutV_length xs lo hi) hz,_,0,(r.drop (HT.sIx xs.length 0 lo)).take (HT.sIx xs.length xs.length hi-HT.sIx xs.length 0 lo),Heap.get?_push_size _ rfl⟩
theorem call_len_seq:CallR X (.builtin "len") (fun xs H Q=>∃ p ys,xs=[.ref p]∧(SqL X.K H p ys∨SqT X.K H p ys)∧Q (.int ys.length) H):=by
 intro pins s σ H xs us Q I r h;obtain⟨p,ys,rfl,hq,q⟩:=h;obtain⟨u,rfl,rx⟩:=vals1 r;cases rx;have hn:=line63;rcases hq with hq | hq
 ·obtain⟨its,r',pl,hz⟩:=I.list hq;have hlen:=r'.length;exact Calls.call_len_list pl.isList (by simp only[List.size_toArray]<;>omega) ⟨.int ys.length,H,I.tok _,⟨s.toks+1,by rw[List.size_toArray,hlen]⟩,q⟩
 ·obtain⟨its,r',pl,hz⟩:=I.tuple hq;have hlen:=r'.length;exact len_tuple pl (by simp only[List.size_toArray]<;>omega) ⟨.int ys.length,H,I.tok _,⟨s.toks+1,by rw[List.size_toArray,hlen]⟩,q⟩
theorem call_list_of:CallR X (.type "list") (fun xs H Q=>∃ p ys,xs=[.ref p]∧(SqL X.K H p ys∨SqT X.K H p ys)∧∀ l,H l=none→Q (.ref l) (upd H l (.lst ys))):=by
 intro pins s σ H xs us Q I r h;obtain⟨p,ys,rfl,hq,q⟩:=h;obtain⟨u,rfl,rx⟩:=vals1 r;cases rx;have fin:∀ (its:List Value),Vals ys its→ys.length≤sizeLine→∀ (h':Heap) (c':Nat),(∀ b o',s.heap.get? b=some o'→h'.get? b=some o') →
   h'.get? s.heap.objs.size=some {cls:=.type "list",dict:=none,data:=.seq its.toArray c',slots:=#[]}→EP X pins σ Q (.ref s.heap.objs.size) {s with heap:=h'}:=fun its r' hz h' c' kp e =>
  ⟨.ref s.heap.objs.size,_,I.laid (t':=s.toks) kp (Nat.le_refl _) (show ObjOk X.prog X.w _ h' _ (.lst ys) from ⟨hz,its,c',r',e⟩),rfl,q _ (I.hok.fresh (Nat.le_refl _))⟩
 rcases hq with hq | hq
 ·obtain⟨its,r',pl,hz⟩:=I.list hq;have hlen:=r'.length;obtain⟨o,ho,hc,n,hd⟩:=pl.isList;exact call_list_seq p (.inl rfl) ho hc hd (fun h' c' kp e=>fin its r' hz h' c' kp e) (by simp only[List.size_toArray]<;>omega)
 ·obtain⟨its,r',pl,hz⟩:=I.tuple hq;have hlen:=r'.length;obtain⟨o,ho,hc,n,hd⟩:=pl;exact call_list_seq p (.inr rfl) ho hc hd (fun h' c' kp e=>fin its r' hz h' c' kp e) (by simp only[List.size_toArray]<;>omega)
theorem call_tuple_of:CallR X (.type "tuple") (fun xs H Q=>∃ p ys,xs=[.ref p]∧((SqL X.K H p ys∧∀ l,H l=none→Q (.ref l) (upd H l (.tup ys)))∨(SqT X.K H p ys∧Q (.ref p) H))):=by
 intro pins s σ H xs us Q I r h;obtain⟨p,ys,rfl,h⟩:=h;obtain⟨u,rfl,rx⟩:=vals1 r;cases rx;rcases h with ⟨hq,q⟩ | ⟨hq,q⟩
 ·obtain⟨its,r',pl,hz⟩:=I.list hq;have hlen:=r'.length;refine call_tuple_list pl.isList (fun h' kp=>?_) (by simp only[List.size_toArray]<;>omega);have I1:Inv X pins σ H {s with heap:=h'}:=I.kept (t':=s.toks) kp;have I2:Inv X pins σ (upd H h'.objs.size (.tup ys)) {s with heap:=h'.push {cls:=.type "tuple",data:=.seq its.toArray}} :=
   I1.laid (t':=s.toks) (fun b o e=>Heap.get?_push_of_some _ e) (Nat.le_refl _) (show ObjOk X.prog X.w _ _ _ (.tup ys) from ⟨hz,its,r',IsTup.new _ _⟩)
  exact⟨.ref h'.objs.size,_,I2,rfl,q _ (I1.hok.fresh (Nat.le_refl _))⟩
 ·obtain⟨its,r',pl,hz⟩:=I.tuple hq;exact call_tuple_same pl ⟨.ref p,H,I,rfl,q⟩
def tyV (K:PySem.W.Frag)(T:String)(x:V)(H:Hp):Prop:=match x with
 | .str _=>T="str"
 | .int _=>T="int"
 | .ref p=>(T="list"∧∃ xs,SqL K H p xs)∨(T="tuple"∧∃ o,K.lookup p=some o∧o.cls=.type "tuple"∧o.dict=none) ∨
   (T="dict"∧((∃ kvs,H p=some (.dK kvs))∨∃ kvs,H p=some (.dT kvs)))∨(T="set"∧∃ S n,H p=some (.set S n))
 | _=>False
theorem tyV_is {pins:List (Addr×Obj)}{σ:St}{H:Hp}{s:Shared}{T:String}{x:V}{v:Value}(I:Inv X pins σ H s)(r:RelV x v)(ty:tyV X.K T x H) :
  s.TypeIs v T∧∀ a,v=.ref a→∃ ob,s.heap.get? a=some ob∧ob.dict=none:=by
 cases x with
 | str z =>
  obtain⟨t,rfl⟩:=r;cases (show T="str" from ty);exact⟨typeIs_str s z t,fun _ e=>nomatch e⟩
 | int i =>
  obtain⟨t,rfl⟩:=r;cases (show T="int" from ty);exact⟨typeIs_int s i t,fun _ e=>nomatch e⟩
 | ref p =>
  cases r;rcases ty with ⟨rfl,xs,hq⟩ | ⟨rfl,o,hk,hc,hd⟩ | ⟨rfl,hk⟩ | ⟨rfl,S,n,hk⟩
  ·obtain⟨its,_,pl,_⟩:=I.list hq;refine⟨pl.isList.typeIs,fun a e=>?_⟩;cases e;obtain⟨o,n,e,c,hd,_⟩:=pl;exact⟨o,e,hd⟩
  ·refine⟨⟨o,I.kIn p o hk,hc⟩,fun a e=>?_⟩;cases e;exact⟨o,I.kIn _ o hk,hd⟩
  ·have z:∃ o,s.heap.get? p=some o∧o.ExactDict:=by
    rcases hk with ⟨kvs,hk⟩ | ⟨kvs,hk⟩
    ·obtain⟨_,_,_,_,o,_,_,e,ex,_⟩:=I.hok p _ hk;exact⟨o,e,ex⟩
    ·obtain⟨_,_,_,_,o,_,_,e,ex,_⟩:=I.hok p _ hk;exact⟨o,e,ex⟩
   obtain⟨o,e,ex⟩:=z;refine⟨⟨o,e,ex.1⟩,fun a e2=>?_⟩;cases e2;exact⟨o,e,ex.2.1⟩
  ·obtain⟨o,_,_,_,e,ex,_⟩:=I.hok p _ hk;refine⟨⟨o,e,ex.1⟩,fun a e2=>?_⟩;cases e2;exact⟨o,e,ex.2.1⟩
 | _=>exact False.elim ty
def tBM0 (K:PySem.W.Frag)(T:String)(r:V→List V→Hp→VK→Prop)(to:TE):TE:=fun σ H Q=>to σ H fun x H1=>tyV K T x H1∧r x [] H1 Q
def tBM (K:PySem.W.Frag)(T:String)(r:V→List V→Hp→VK→Prop)(to:TE)(t:TA):TE:=fun σ H Q=>to σ H fun x H1=>tyV K T x H1∧t σ H1 fun xs H2=>r x xs H2 Q
variable {o e:Expr}{es:List Expr}{to:TE}{t:TA}{name:Str}{apos cpos:Pos}{T id:String}{r:V→List V→Hp→VK→Prop}
theorem pe_bm0 (pa:PlainAttrs T)(slot:Slot T name id)(hty:typeOf (.builtin id)=pure (.type "method_descriptor"))(hm:MtR X id r)(ho:PE X o to)
  (hbase:attributeBase o name X.env (eval o X.env)=eval o X.env:=by rfl) (hline:(apos.endLine == cpos.line)=true:=by rfl):PE X (.Call (.Attribute o name apos) [] [] cpos) (tBM0 X.K T r to):=by
 intro pins s σ H Q I h;refine wpAny_Call_method0_late hbase hline (thn (ho pins s σ H _ I h) fun v s1 ⟨x,H1,I1,r1,ty,q1⟩=>?_);obtain⟨h1,h2⟩:=tyV_is I1 r1 ty;exact⟨T,id,pa,slot,hty,h1,h2,Calls.callWith_builtin rfl (PySem.evalArgs_none (hm pins s1 σ H1 x [] v [] Q I1 r1 .nil q1))⟩
theorem pe_bm (pa:PlainAttrs T)(slot:Slot T name id)(hty:typeOf (.builtin id)=pure (.type "method_descriptor"))(hm:MtR X id r)(ho:PE X o to)(ha:PA X (e::es) t)
  (hbase:attributeBase o name X.env (eval o X.env)=eval o X.env:=by rfl)
  (hfew:((backTo cpos (starEach (e::es) X.env)).all (fun x=>!x.1) && (backToKw cpos (keywordEach [] X.env)).all (fun x=>x.1.isSome)
   && decide ((e::es).length+([]:List Keyword).length+(if ([]:List Keyword).isEmpty then 0 else 1)<30))=true:=by rfl)
  (hline:(apos.endLine == cpos.line)=true:=by rfl) (hs:starEach (e::es) X.env=(false,eval e X.env)::starEach es X.env:=by rfl) (hplain:(backTo cpos (starEach es X.env)).any (·.1)=false:=by rfl) :
  PE X (.Call (.Attribute o name apos) (e::es) [] cpos) (tBM X.K T r to t):=by
 intro pins s σ H Q I h;refine wpAny_Call_method_late hbase hfew hline rfl (thn (ho pins s σ H _ I h) fun v s1 ⟨x,H1,I1,r1,ty,q1⟩=>?_);obtain⟨h1,h2⟩:=tyV_is I1 r1 ty;refine⟨T,id,pa,slot,hty,h1,h2,?_⟩;have hA:=ha cpos pins s1 σ H1 _ I1 q1;rw[hs] at hA ⊢;refine Calls.callWith_builtin (by show (false || (backTo cpos (starEach es X.env)).any (·.1))=false;rw[hplain]<;>rfl) (Calls.evalArgs_plain ?_);exact thn hA fun us s2 ⟨vs,H2,I2,r2,q2⟩=>hm pins s2 σ H2 x vs v us Q I2 r1 r2 q2
/- xs.append(e),list.index on a module's tuple .. are MtR facts of 06m -/
end
end L2
namespace L2
open PySem PySem.Spec PyProof.Rows
def MtM (X:Cx)(id:String)(r:V→List V→Hp→VK→Prop):Prop :=
 ∀ (pins:List (Addr×Obj)) (s:Shared) (σ:St) (H:Hp) (x:V) (xs:List V) (v:Value) (us:List Value) (Q:VK),Inv X pins σ H s→RelV x v→Vals xs us→r x xs H Q →
  wpAny (model X.prog X.w) X.A (call (.builtin id) (v::us)) (EP X pins σ Q) X.xe s
theorem Vals.one:∀ {x:V} {us:List Value},Vals [x] us→∃ u,us=[u]∧RelV x u
 | _,_,.cons r .nil=>⟨_,rfl,r⟩
theorem Vals.zero:∀ {us:List Value},Vals [] us→us=[]
 | _,.nil=>rfl
theorem Vals.dropLast {xs:List V}{us:List Value}(h:Vals xs us):Vals xs.dropLast us.dropLast:=by
 induction h with
 | nil=>exact .nil
 | cons r t ih =>
  cases t with
  | nil=>exact .nil
  | cons q t'=>exact .cons r ih
theorem Vals.eraseIdx:∀ {xs:List V} {us:List Value} (i:Nat),Vals xs us→Vals (xs.eraseIdx i) (us.eraseIdx i)
 | _,_,_,.nil=>.nil
 | _,_,0,.cons _ t=>t
 | _,_,i+1,.cons r t=>.cons r (Vals.eraseIdx i t)
theorem Vals.reverse {xs:List V}{us:List Value}(h:Vals xs us):Vals xs.reverse us.reverse:=by
 induction h with
 | nil=>exact .nil
 | cons r t ih=>rw[List.reverse_cons,List.reverse_cons];exact Vals.append ih (.cons r .nil)
theorem Vals.rep {xs:List V}{us:List Value}(h:Vals xs us):∀ k:Nat,Vals (List.replicate k xs).flatten (List.replicate k us).flatten
 | 0=>.nil
 | k+1=>by
  rw[List.replicate_succ,List.replicate_succ,List.flatten_cons,List.flatten_cons];exact Vals.append h (Vals.rep h k)
theorem erase_last {α:Type}(l:List α):l.eraseIdx (l.length-1)=l.dropLast:=by
 induction l with
 | nil=>rfl
 | cons a r ih =>
  cases r with
  | nil=>rfl
  | cons b r =>
   have e:(a::b::r).length-1=((b::r).length-1)+1:=by
    have h1:(a::b::r).length=r.length+2:=rfl;have h2:(b::r).length=r.length+1:=rfl;omega
   rw[e,List.eraseIdx_cons_succ,ih];all_goals rfl
theorem foldl_rep (its:List Value):∀ (k:Nat) (acc:List Value),
  List.foldl (fun x1 x2=>x1++x2) acc.toArray (List.replicate k its.toArray)=(acc++(List.replicate k its).flatten).toArray
 | 0,acc=>by simp
 | k+1,acc=>by
  have e:acc.toArray++its.toArray=(acc++its).toArray:=by simp
  have e2:(acc++its)++(List.replicate k its).flatten=acc++(List.replicate (k+1) its).flatten:=by
   rw[List.replicate_succ,List.flatten_cons,List.append_assoc]
  rw[← e2,← foldl_rep its k (acc++its),← e,List.replicate_succ,List.foldl_cons]
section
variable {X:Cx}{pins:List (Addr×Obj)}{σ:St}{H:Hp}{s:Shared}{l b:Addr}{xs ys zs:List V}
theorem Inv.lset {its its':List Value}{n:Nat}{f:Array Value→Array Value}{t':Nat}(I:Inv X pins σ H s)(hH:H l=some (.lst xs))
  (e:s.heap.get? l=some {cls:=.type "list",data:=.seq its.toArray n}) (hf:f its.toArray=its'.toArray) (hv:Vals ys its') (hz:ys.length≤sizeLine) :
  Inv X pins σ (upd H l (.lst ys)) {s with heap:=s.heap.update l (Obj.mapSeq f),toks:=t'}:=by
 have q:=PySem.IsL.update e f;rw[hf] at q;refine I.write (x:=l) (e:=l) (by rw[hH];exact trivial) (.inl rfl) (fun b' u hb hu=>(Heap.get?_update_other s.heap (Obj.mapSeq f) (Ne.symm hb)).trans hu) ⟨_,q⟩ ?_;exact⟨hz,its',_,hv,q⟩
theorem Inv.lnew {its:List Value}{t':Nat}(I:Inv X pins σ H s)(hv:Vals ys its)(hz:ys.length≤sizeLine) :
  Inv X pins σ (upd H s.heap.objs.size (.lst ys)) {s with heap:=s.heap.push {cls:=.type "list",data:=.seq its.toArray},toks:=t'} :=
 I.laid (fun _ _ q=>Heap.get?_push_of_some _ q) (Nat.le_refl _) ⟨hz,its,0,hv,Heap.get?_push_size _ rfl⟩
theorem Inv.fresh (I:Inv X pins σ H s):H s.heap.objs.size=none:=I.hok.fresh (Nat.le_refl _)
theorem Inv.lstM (I:Inv X pins σ H s)(hH:H l=some (.lst xs)):xs.length≤sizeLine∧∃ (its:List Value) (n:Nat),Vals xs its∧xs.length=its.length∧s.heap.get? l=some {cls:=.type "list",data:=.seq its.toArray n}:=by
 obtain⟨z,its,n,r,e⟩:=I.hok l _ hH;exact⟨z,its,n,r,r.length,e⟩
theorem notLongL {n:Nat}(h:n≤sizeLine):Builtin.List.listTooLong n=false:=by
 unfold Builtin.List.listTooLong;exact decide_eq_false (by omega)
end
section
variable {X:Cx}
def rAppend:V→List V→Hp→VK→Prop:=fun x vs H Q=>∃ l xs y,x=.ref l∧vs=[y]∧H l=some (.lst xs)∧xs.length<sizeLine∧Q .non (upd H l (.lst (xs++[y])))
theorem mt_append:MtM X "list.append" rAppend:=by
 intro pins s σ H x vs v us Q I rx rv h;obtain⟨l,xs,y,rfl,rfl,hH,hz,q⟩:=h;cases rx;obtain⟨u,rfl,ru⟩:=rv.one;obtain⟨z,its,n,r,hl,e⟩:=I.lstM hH;refine call_meets F.slot_list_append ⟨_,e,rfl⟩ F.entry_list_append (F.args_list_append_2 _ _) (PySem.list_append l its.toArray n u (by rw[List.size_toArray];omega)) ⟨e,?_⟩;refine⟨.non,_,I.lset (its':=its++[u]) hH e (by simp) (r.append (.cons ru .nil)) ?_,rfl,q⟩;rw[List.length_append,List.length_singleton];omega
def rExtend:V→List V→Hp→VK→Prop:=fun x vs H Q=>∃ l b xs zs,x=.ref l∧vs=[.ref b]∧H l=some (.lst xs)∧H b=some (.lst zs)∧xs.length+zs.length≤sizeLine∧Q .non (upd H l (.lst (xs++zs)))
theorem mt_extend:MtM X "list.extend" rExtend:=by
 intro pins s σ H x vs v us Q I rx rv h;obtain⟨l,b,xs,zs,rfl,rfl,hH,hB,hz,q⟩:=h;cases rx;obtain⟨u,rfl,ru⟩:=rv.one;cases ru;obtain⟨z,its,n,r,hl,e⟩:=I.lstM hH;obtain⟨z2,its2,n2,r2,hl2,e2⟩:=I.lstM hB;have hsz:its.toArray.size+its2.toArray.size≤sizeLine:=by rw[List.size_toArray,List.size_toArray];omega
 have hlong:¬ (!its.toArray.isEmpty && Builtin.List.listTooLong (its.toArray.size+its2.toArray.size))=true:=by
  rw[notLongL hsz,Bool.and_false];exact Bool.false_ne_true
 refine call_meets F.slot_list_extend ⟨_,e,rfl⟩ F.entry_list_extend (F.args_list_extend_2 _ _)
  (AutoSeq1.list_extend_list_list_0 l its.toArray n b its2.toArray n2 hlong (by rw[List.size_toArray];omega) (by omega)) ⟨e,e2,?_⟩
 refine⟨.non,_,I.lset (its':=its++its2) hH e (by simp) (r.append r2) ?_,rfl,q⟩;rw[List.length_append];omega
def rPop:V→List V→Hp→VK→Prop:=fun x vs H Q=>∃ l xs y,x=.ref l∧vs=[]∧H l=some (.lst xs)∧xs[xs.length-1]?=some y∧Q y (upd H l (.lst xs.dropLast))
theorem mt_pop:MtM X "list.pop" rPop:=by
 intro pins s σ H x vs v us Q I rx rv h;obtain⟨l,xs,y,rfl,rfl,hH,hy,q⟩:=h;cases rx;have hus:=rv.zero;subst hus;obtain⟨z,its,n,r,hl,e⟩:=I.lstM hH;obtain⟨u,hu,ru⟩:=r.get hy;have hy':its.toArray[its.toArray.size-1]?=some u:=by
  show its.toArray[its.length-1]?=some u;rw[← Array.getElem?_toList,← hl];exact hu
 refine call_meets F.slot_list_pop ⟨_,e,rfl⟩ F.entry_list_pop (F.args_list_pop_1 _) (MeetsSeq.list_pop_last l its.toArray n u hy' (by rw[List.size_toArray];omega)) ⟨e,?_⟩;refine⟨y,_,I.lset (its':=its.dropLast) hH e ?_ r.dropLast ?_,ru,q⟩
 ·show its.toArray.eraseIdxIfInBounds (its.toArray.size-1)=its.dropLast.toArray;rw[List.size_toArray,List.eraseIdxIfInBounds_toArray,erase_last]
 ·rw[List.length_dropLast];omega
def rCat:R2:=fun x y H Q=>∃ l b xs zs,x=.ref l∧y=.ref b∧H l=some (.lst xs)∧H b=some (.lst zs)∧xs.length+zs.length≤sizeLine∧∀ p,H p=none→Q (.ref p) (upd H p (.lst (xs++zs)))
theorem op_cat:OpR X (binaryOp .Add) rCat:=by
 intro pins s σ H x y v u Q I rx ry h;obtain⟨l,b,xs,zs,rfl,rfl,hH,hB,hz,q⟩:=h;cases rx;cases ry;obtain⟨z,its,n,r,hl,e⟩:=I.lstM hH;obtain⟨z2,its2,n2,r2,hl2,e2⟩:=I.lstM hB;refine PySem.P.add_list e e2 ?_ (by rw[List.size_toArray,List.size_toArray];omega);have ea:its.toArray++its2.toArray=(its++its2).toArray:=by simp
 rw[ea];exact⟨.ref _,_,I.lnew (t':=s.toks) (r.append r2) (by rw[List.length_append];omega),rfl,q _ I.fresh⟩
def rRep:R2:=fun x y H Q=>∃ l k xs,x=.ref l∧y=.int k∧H l=some (.lst xs)∧-(2 ^ 63)≤k∧k<2 ^ 63∧xs.length*k.toNat≤sizeLine ∧
 ∀ p,H p=none→Q (.ref p) (upd H p (.lst (List.replicate k.toNat xs).flatten))
theorem len_rep {α:Type}(xs:List α)(k:Nat):(List.replicate k xs).flatten.length=k*xs.length:=by
 induction k with
 | zero=>simp
 | succ k ih=>rw[List.replicate_succ,List.flatten_cons,List.length_append,ih,Nat.succ_mul,Nat.add_comm]
theorem op_rep:OpR X (binaryOp .Mult) rRep:=by
 intro pins s σ H x y v u Q I rx ry h;obtain⟨l,k,xs,rfl,rfl,hH,h1,h2,hz,q⟩:=h;cases rx;obtain⟨t,rfl⟩:=ry;obtain⟨z,its,n,r,hl,e⟩:=I.lstM hH;have hlen:its.toArray.size*k.toNat≤sizeLine:=by rw[List.size_toArray,← hl];exact hz
 have hcap:¬ its.toArray.size*k.toNat>(2 ^ 63-1) / 8:=by
  have:(sizeLine:Nat)≤(2 ^ 63-1) / 8:=by decide
  omega
 have hfit:¬ (!Builtin.List.listFitsIndex k)=true:=by
  rw[fitsIndex_both h1 h2];exact Bool.false_ne_true
 have hlong:¬ Builtin.List.listTooLong (its.toArray.size*k.toNat)=true:=by
  rw[notLongL hlen];exact Bool.false_ne_true
 have hnew:List.foldl (fun x1 x2=>x1++x2) #[] (List.replicate (if its.toArray.isEmpty=true then 0 else k.toNat) its.toArray)=(List.replicate k.toNat its).flatten.toArray:=by
  have f0:∀ m:Nat,List.foldl (fun x1 x2=>x1++x2) #[] (List.replicate m its.toArray)=(List.replicate m its).flatten.toArray:=fun m=>by
   have:=foldl_rep its m [];rw[List.nil_append] at this;exact this
  rw[f0];cases its with
  | nil=>simp
  | cons a r'=>rw[if_neg (by simp)]
 refine wpAny_binaryOp_repeat_ref (T:="list") (U:="int") (by decide) ⟨_,e,rfl⟩ (fun s'=>typeIs_int s' k t) noFill_list_mul F.fills_int_mul F.slot_int_rmul repeat_list F.slot_int_index.lookup
  (call_meets F.slot_int_rmul (typeIs_int s k t) F.entry_int_rmul (F.args_int_rmul_2 _ _) (int___rmul___int_list k t l its.toArray n)
   ⟨e,rfl,⟨_,e,rfl⟩,call_meets F.slot_list_mul ⟨_,e,rfl⟩ F.entry_list_mul (F.args_list_mul_2 _ _) (AutoListH.list___mul___list_int_3 l its.toArray n k t hfit hcap hlong) ⟨e,?_⟩⟩)
 rw[hnew];exact⟨.ref _,_,I.lnew (t':=s.toks) (r.rep k.toNat) (by rw[len_rep,Nat.mul_comm];exact hz),rfl,q _ I.fresh⟩
end
section
variable {prog:Program}{w:World}{A:Around}{E:Value→Shared→Prop}{s:Shared}
end
section
variable {X:Cx}
end
end L2
namespace Att
open PySem PySem.W PySem.Calls PyProof.Rows
theorem ints_of_wellAll {P:Params}{h:Heap}:∀ (ns:List Int) (vs:List Value),WellAll P h vs (ns.map WData.int)→IntsAre vs ns:=by
 intro ns;induction ns with
 | nil =>
  intro vs w;rw[List.map_nil] at w;cases w;exact .nil
 | cons n ns ih =>
  intro vs w;rw[List.map_cons] at w;cases w with
  | cons a b =>
   cases a;exact .cons _ _ (ih _ b)
theorem script_of {l:OpenLaw}{n:Nat}(hn:l.most=some n){P:Params}{h:Heap}{args:List WData}{vals:List Value}
  (hpre:l.row.toRowW.claim.pre args=true) (hwl:WellAll P h vals args) :
  ∃ a vs ns,vals=[Value.ref a]∧args=[WData.list (ns.map WData.int)]∧h.get? a=some {cls:=.type "list",data:=.seq vs.toArray}∧IntsAre vs ns∧ns.length≤n:=by
 have hsh:WShape.hasAll [] args [.list .int]=true:=(pre_splitW hpre).1;have hc:l.pre.holds [] {args:=args}=true:=(pre_splitW hpre).2;obtain⟨d,r,rfl,h1,h2⟩:=hasAllW_cons hsh;obtain rfl:=hasAllW_nil h2;obtain⟨xs,rfl,h3⟩:=hasW_list h1;obtain⟨ns,rfl⟩:=items_int h3;have hlen:ns.length≤n:=by
  unfold OpenLaw.pre at hc;have h4:(WTm.not (.lt (.lit (.int (n:Int))) (.len (.arg 0)))).holds [] {args:=[.list (ns.map .int)]}=true:=by
   have h4:=(holds_andW hc).1;rw[hn] at h4;exact h4
  have h5:=condW_of h4 (w_not (w_lt w_lit (w_len_list (w_arg rfl))));rw[List.length_map] at h5;refine Nat.le_of_not_lt fun q=>?_
  have q':(n:Int)<((ns.length:Nat):Int):=by omega
  first
   | (rw[decide_eq_true q'] at h5;exact absurd h5 (by decide))
   | (simp at h5;omega)
 cases hwl with
 | cons w1 w2 =>
  cases w2;cases w1 with
  | list ho hall=>exact⟨_,_,ns,rfl,rfl,ho,ints_of_wellAll ns _ hall,hlen⟩
theorem post_true (l:OpenLaw)(args:List WData):l.row.toRowW.claim.post args (.bool true) args=true :=
 postW_of (r:=l.row.toRowW) (X:=(true == true))
  (show WShape.has [] (.bool true) .bool=true by first | rfl | decide | simp[WShape.has,WShape.arms,WShape.armsAll])
  (show (WTm.eq .res (.lit (.bool true))).value [] {args:=args,res:=some (.bool true),after:=args}=some (.bool (true == true)) from w_eq_bool (w_res rfl) w_lit) rfl
theorem attach_call {l:OpenLaw}{n:Nat}{q:Program}{loose:List Str}{XP:(Str→Option Value)→Heap→Prop}{YP:World→Heap→Prop}{d:DefRec}
  (hn:l.most=some n) (hdf:d.params.defaults=[])
  (call:∀ (w:World) (s₀ s₁:Shared) (mg mb:Str→Option Value) (fa:Addr) (o:Obj) (pm cd doc:Value) (a:Addr) (vs:List Value) (ns:List Int),
   Ground q loose [] XP w s₀ mg mb s₁.heap→YP w s₁.heap →
   s₁.heap.get? fa=some o→o.data=.func (docDef d.name d.params d.body d.scope pm cd doc)→s₁.heap.CodeRec cd d.name→mg d.name=some (.ref fa) →
   s₁.heap.get? a=some {cls:=.type "list",data:=.seq vs.toArray}→IntsAre vs ns→ns.length≤n→s₁.gens=#[] →
   codeAny (model l.prog w) callerA (.call (.ref fa) ⟨[.ref a],[]⟩) (fun r s'=>r=.ok (.ret (.bool true))∧OldK s₁.heap s'.heap∧s'.os=s₁.os∧AllBare s'.gens) s₁) :
  WalkO q loose XP YP l.row.toRowW d [] (fun f vs=>PySem.call f vs):=by
 intro w s₀ s₁ mg mb G Y fa o pm cd doc dV kV ho hd hcd hD hmg hg args vals as hpre hlay hrd hwl hlo;obtain rfl:dV=.none:=Dflts.none hD hdf;obtain rfl:kV=.none:=Dflts.noKw hD;obtain⟨a,vs,ns,rfl,rfl,hobj,hints,hlen⟩:=script_of hn hpre hwl;refine enter_call (codeAny_mono (call w s₀ s₁ mg mb fa o pm cd doc a vs ns G Y ho (fd_plain hd) hcd hmg hobj hints hlen hg) fun r s' hq=>?_);obtain⟨rfl,h2,h3,h4⟩:=hq;exact⟨.inl ⟨.bool true,.bool true,[],rfl,fun _=>rfl,.bool true,post_true l _,fun _=>⟨List.Pairwise.nil,fun _ hm=>(nomatch hm)⟩⟩,h2,h3,h4⟩
section
variable {prog:Program}{w:World}{A:Around}{E:Value→Shared→Prop}{s:Shared}{K:Frag}
end
end Att
namespace L2
open PySem PySem.Spec PyProof.Rows
theorem vals_ints:∀ {vs:List Value} {ns:List Int},IntsAre vs ns→Vals (ns.map V.int) vs
 | _,_,.nil=>.nil
 | _,_,.cons n t h=>.cons ⟨t,rfl⟩ (vals_ints h)
def Only (H:Hp):Prop:=∀ b,H b=none∨∃ o xs,H b=some (.frz o (.lst xs))
theorem law_call {P:Program}{w:World}{K:PySem.W.Frag}{mg mb:Str→Option Value}{CX:CXT}{k:Nat}{fa a:Addr}{fd:FuncData}{x:Str}{sp:Sp}{s₁:Shared}{vs:List Value}{ns:List Int}
  (KX:K.In s₁.heap) (hns:s₁.heap.Ns mainGlobals mg) (hb:s₁.heap.Ns builtinsNs mb) (hbb:∀ x:Str,x≠"__name__"→mb x=bootBuiltins x) (hlim:s₁.heap.NoLimit) (hg:s₁.gens=#[])
  (ha:s₁.heap.get? a=some {cls:=.type "list",data:=.seq vs.toArray}) (hi:IntsAre vs ns) (hl:ns.length≤sizeLine) (hr:Room k callerA)
  (F:∀ base:Heap,K.In base→base.Ns mainGlobals mg→FnOk P w K mg base CX k fa fd [x] sp) (hbind:∀ (s:Shared) (u:Value),BindsTo s fd ⟨[u],[]⟩ [(x,u)])
  (hsp:∀ H:Hp,Only H→SqL K H a (ns.map V.int)→sp [.ref a] H (fun v _=>v=.bl true) fun _ _ _=>False)
  (hCX:∀ H e s',CX [] H s₁ (fun _ _ _=>False) e s'→False) :
  codeAny (model P w) callerA (.call (.ref fa) ⟨[.ref a],[]⟩) (fun r s'=>r=.ok (.ret (.bool true))∧OldK s₁.heap s'.heap∧s'.os=s₁.os∧AllBare s'.gens) s₁:=by
 have rv:=vals_ints hi;have lenV:=hi.length;have core:∀ H:Hp,Only H→SqL K H a (ns.map V.int)→HOk P w H s₁.heap→(∀ b,H b≠none→b=a)→(H a≠none→K.lookup a=none) →
   codeAny (model P w) callerA (.call (.ref fa) ⟨[.ref a],[]⟩) (fun r s'=>r=.ok (.ret (.bool true))∧OldK s₁.heap s'.heap∧s'.os=s₁.os∧AllBare s'.gens) s₁:=by
  intro H hO hS hok hA hK;have base_of:∀ {b:Addr} {o:Obj},s₁.heap.get? b=some o→H b=none→(hidT s₁.heap H).get? b=some o:=fun e n=>hidT_get e n
  have noA:∀ {b:Addr} {o:Obj} {es:Array DictEntry} {ep:Nat},s₁.heap.get? b=some o→o.data=.dict es ep→H b=none:=fun {b o es ep} e d=>by
   cases q:H b with
   | none=>rfl
   | some u =>
    have e':b=a:=hA b (by rw[q];simp);subst e';rw[ha] at e;cases e;have d':Data.seq vs.toArray _=Data.dict es ep:=d;cases d'
  have nsK:∀ {b:Addr} {m:Str→Option Value},s₁.heap.Ns b m→(hidT s₁.heap H).Ns b m:=fun {b m} ⟨o,es,ep,e,d,r⟩=>⟨o,es,ep,base_of e (noA e d),d,r⟩
  have hKb:K.In (hidT s₁.heap H):=fun b o e=>base_of (KX b o e) (by
   cases q:H b with
   | none=>rfl
   | some u =>
    have e':b=a:=hA b (by rw[q];simp);subst e'
    rw[hK (by rw[q];simp)] at e;cases e)
  have hM:Mod K mg (hidT s₁.heap H):=⟨hKb,nsK hns,⟨mb,nsK hb,hbb⟩,let ⟨mc,h1,h2⟩:=hlim;⟨mc,nsK h1,h2⟩⟩
  have e0:Env0 P w K mg (hidT s₁.heap H) callerA [] s₁ H:=⟨rfl,hM,fun b o e=>of_hidT e,Nat.le_of_eq (hidT_size _ _),trivial,fun b hb=>absurd (show b∈([]:List Addr) from hb) (by simp),hok,.of_eq hg⟩
  refine codeAny_mono ((F _ hKb (nsK hns)).run callerA [] s₁ H ⟨[.ref a],[]⟩ [.ref a] [.ref a] _ _ hr e0 (hbind s₁ (.ref a)) (.cons rfl .nil) (hsp H hO hS)) fun r s' h=>?_
  cases r with
  | error e=>exact (hCX H e s' h).elim
  | ok fl =>
   cases fl with
   | next=>exact False.elim h
   | brk=>exact False.elim h
   | cont=>exact False.elim h
   | ret u =>
    obtain⟨v,H',os,bare,un,hok',r',q⟩:=h;have q':v=.bl true:=q;subst q';obtain rfl:u=Value.bool true:=r';refine⟨rfl,OldK.of_keep fun b o e=>?_,os,bare⟩;cases q:H b with
    | none=>exact un.keep b o e q (by intro z;exact absurd (show b∈([]:List Addr) from z) (by simp)) (by simp)
    | some u =>
     rcases hO b with z | ⟨ob,xs,z⟩
     ·rw[q] at z;cases z
     ·have z2:=un.frzs b ob _ z;obtain⟨e1,_⟩:=hok b _ z;obtain⟨e2,_⟩:=hok' b _ z2;rw[e] at e1;cases e1;exact e2
 cases hk:K.lookup a with
 | some o =>
  have e:=KX a o hk;rw[ha] at e;cases e;refine core (fun _=>none) (fun _=>.inl rfl) (.inr ⟨_,vs.toArray,_,hk,rfl,rfl,rfl,by rw[List.size_toArray,lenV];exact hl,by simpa using rv⟩) (fun b u z=>by have z':(none:Option HO)=some u:=z;cases z') (fun b z=>absurd rfl z) fun z=>absurd rfl z
 | none =>
  refine core (fun b=>if b=a then some (.frz {cls:=.type "list",data:=.seq vs.toArray} (.lst (ns.map V.int))) else none) (fun b=>?_) (.inl (.inr ⟨{cls:=.type "list",data:=.seq vs.toArray},if_pos rfl⟩)) (fun b u z=>?_) (fun b z=>?_) fun _=>hk
  ·by_cases hb:b=a
   ·exact .inr ⟨_,_,if_pos hb⟩
   ·exact .inl (if_neg hb)
  ·by_cases hb:b=a
   ·have z':=(if_pos hb).symm.trans z;cases z';subst hb;exact⟨ha,by rw[List.length_map];exact hl,vs,_,rv,ha⟩
   ·have z':=(if_neg hb).symm.trans z;cases z'
  ·by_cases hb:b=a
   ·exact hb
   ·exact absurd (if_neg hb) z
end L2
namespace L2
open PySem PySem.Spec PyProof.Rows
abbrev KOf {K:PySem.W.Frag}{h:Heap}(_:K.In h):PySem.W.Frag:=K
theorem walk_of {l:PySem.W.OpenLaw}{n k:Nat}{q:Program}{loose:List Str}{XP:(Str→Option Value)→Heap→Prop}{YP:World→Heap→Prop}{d:DefRec}{K:Params→PySem.W.Frag}{CX:World→CXT}{sp:World→Sp}{x:Str}
  (hn:l.most=some n) (hn2:n≤sizeLine) (hdf:d.params.defaults=[]) (hr:Room k callerA)
  (hY:∀ (w:World) (h:Heap),YP w h→(K w.params).In h)
  (F:∀ (w:World) (mg:Str→Option Value) (fa:Addr) (h:Heap),(K w.params).In h→h.Ns mainGlobals mg→mg d.name=some (.ref fa) →
   ∃ fd:FuncData,(∀ (s:Shared) (u:Value),BindsTo s fd ⟨[u],[]⟩ [(x,u)]) ∧
    ∀ base:Heap,(K w.params).In base→base.Ns mainGlobals mg→FnOk l.prog w (K w.params) mg base (CX w) k fa fd [x] (sp w))
  (hsp:∀ (w:World) (H:Hp) (a:Addr) (ns:List Int),ns.length≤n→Only H→SqL (K w.params) H a (ns.map V.int)→sp w [.ref a] H (fun v _=>v=.bl true) fun _ _ _=>False)
  (hCX:∀ (w:World) (H:Hp) (s:Shared) (e:Value) (s':Shared),CX w [] H s (fun _ _ _=>False) e s'→False) :
  PySem.W.WalkO q loose XP YP l.row.toRowW d [] (fun f vs=>PySem.call f vs):=by
 refine Att.attach_call hn hdf fun w s₀ s₁ mg mb fa o pm cd doc a vs ns G Y ho hd hcd hmg hobj hints hlen hg=>?_
 have KX:=hY w _ Y;obtain⟨fd,hb,hF⟩:=F w mg fa _ KX G.T.g hmg;exact law_call KX G.T.g G.T.b G.T.builtins G.T.nolimit hg hobj hints (Nat.le_trans hlen hn2) hr hF hb (fun H hO hS=>hsp w H a ns hlen hO hS) fun H e s'=>hCX w H s₁ e s'
end L2
/- THE LAST THEOREM (shape;LID,My.* are yours):
   My.Adr: a structure of the addresses that your layer names (classes,functions);My.Txt K t: a structure (Prop) of the equations over K;
   My.txt_mk:{K} {implicit addresses ..} (e1:nsIn K mainGlobals "law"=some (some (.ref f))) (e2:K.lookup f=some ⟨oc,od,.func (fnOf "law" "law" params body scope dV kV doc pm an cdv ct),sl⟩) (e3:codeIn K cdv "law"=true) ..:∃ t,My.Txt K t
set_option maxRecDepth 100000 in
set_option maxHeartbeats 0 in
theorem PySem.Challenge.cw_LID_holds : PySem.Challenge.rw_LID.Holds := by
 w_on;o_law;k_head;(case hw=>w_witness2)
 k_fill
 refine L2.walk_of (l:=PySem.Challenge.rw_LID) (n:=63) (k:=40) (x:="script") (CX:=fun w=>..) (sp:=fun _=>My.sp_law) rfl (by decide) rfl ⟨rfl,by decide,by decide⟩ (fun w h Y=>PySem.W.kIn_of Y) ?F ?S ?C
 case F =>
  intro w mg fa h KX G hmg;have T:∃ t,My.Txt (L2.KOf KX) t:=by
   dsimp only[L2.KOf]                          -- K must stand as «<heap const> w.params» for k_is;refine' My.txt_mk ?e1 ?e2 ?e3 ..
   (case e1=>PySem.W.k_is)                    -- in the order: a name -> its address -> its object -> its parts
   (case e2=>PySem.W.k_is)
   ..
  obtain⟨t,T⟩:=T;have e0:=hmg.symm.trans (PySem.W.mg_of KX G T.law);cases e0                                       -- fa is the law's own address;exact⟨_,fun s u=>.of_eq rfl,fun base kb nb=>My.law_fn T kb nb⟩     -- if «.of_eq rfl» comes too early: refine' ⟨_,?b,fun base kb nb=>My.law_fn T kb nb⟩;exact fun s u=>.of_eq rfl
 case S=>exact fun w H a ns hl hO hS=>..
 case C=>exact ..
(the tactic k_is has no namespace: write k_is) -/
namespace L2
open PySem PySem.Spec PyProof.Rows
def defArgs (s:Stmt):Arguments:=match s with
 | .FunctionDef _ a _ _ _ _ _ _ _ _=>a
 | _=>{posonlyargs:=[],args:=[],vararg:=none,kwonlyargs:=[],kw_defaults:=[],kwarg:=none,defaults:=[]}
def defBody (s:Stmt):List Stmt:=match s with
 | .FunctionDef _ _ b _ _ _ _ _ _ _=>b
 | _=>[]
def defScope (s:Stmt):Scope:=match s with
 | .FunctionDef _ _ _ _ _ _ sc _ _ _=>sc
 | _=>{kind:=.function,names:=[],isGenerator:=false,isCoroutine:=false}
abbrev CX0:CXT:=fun _ _ _ _ _ _=>False
abbrev E0:XK:=fun _ _ _=>False
theorem pass0 {X:Cx}:Passes CX0 X E0:=fun _ _ _ _ _ _ _ h=>h.elim
structure Fun (K:PySem.W.Frag)(x qual:Str)(st:Stmt)(f:Addr)(fd:FuncData):Prop where
 ex:∃ (oc:Value) (od:Option Addr) (kV doc pm:Value) (an:Option Addr) (cdv ct:Value) (osl:Array (Option Value)),
  fd=PySem.W.fnOf x qual (defArgs st) (defBody st) (defScope st) .none kV doc pm an cdv ct∧K.lookup f=some ⟨oc,od,.func fd,osl⟩∧PySem.W.codeIn K cdv qual=true
 kp:PySem.W.keepIn K (.ref f)=true
section
variable {P:Program}{w:World}{K:PySem.W.Frag}{mg:Str→Option Value}{base:Heap}
theorem Fun.ok {x qual:Str}{st:Stmt}{f:Addr}{fd:FuncData}{N ps:List Str}{k:Nat}{sp:Sp}(F:Fun K x qual st f fd)(S:FnScope N ps (defScope st))(len:∀ vs H Q E,sp vs H Q E→vs.length=ps.length)
  (hbody:∀ (cdv:Value) (A:Around) (outer:List Env) (s:Shared) (H:Hp) (vs:List V) (Q:VK) (E:XK),Room k (A.deeper (envOfC qual (defScope st) s.heap.objs.size f cdv))→sp vs H Q E →
   ∃ t,PSs (cxOf CX0 P w K mg base N qual (defScope st) f cdv A outer s H E).nox (defBody st) t∧t {nx:=fun _ H'=>Q .non H',rt:=Q} (start N vs) H):FnOk P w K mg base CX0 (k+1) f fd ps sp:=by
 obtain⟨oc,od,kV,doc,pm,an,cdv,ct,osl,rfl,lk,hcd⟩:=F.ex;refine fn_of lk hcd S len fun A outer s H vs Q E hr hsp=>?_
 obtain⟨t,h,q⟩:=hbody cdv A outer s H vs Q E hr hsp;exact⟨t,h.nox,q⟩
theorem Fun.binds {x qual:Str}{st:Stmt}{f:Addr}{fd:FuncData}{ps:List Str}(F:Fun K x qual st f fd)
  (h:∀ (kV doc pm:Value) (an:Option Addr) (cdv ct:Value) (us:List Value),us.length=ps.length→bindArgs (PySem.W.fnOf x qual (defArgs st) (defBody st) (defScope st) .none kV doc pm an cdv ct) ⟨us,[]⟩=pure (ps.zip us)):Binds K fd ps []:=by
 obtain⟨oc,od,kV,doc,pm,an,cdv,ct,osl,rfl,lk,hcd⟩:=F.ex;exact .all (h kV doc pm an cdv ct)
theorem fun_mk {x qual:Str}{st:Stmt}{f:Addr}{oc:Value}{od an:Option Addr}{osl:Array (Option Value)}{kV doc pm cdv ct:Value}(l:K.lookup f=some ⟨oc,od,.func (PySem.W.fnOf x qual (defArgs st) (defBody st) (defScope st) .none kV doc pm an cdv ct),osl⟩)
  (c:PySem.W.codeIn K cdv qual=true) (k:PySem.W.keepIn K (.ref f)=true):Fun K x qual st f (PySem.W.fnOf x qual (defArgs st) (defBody st) (defScope st) .none kV doc pm an cdv ct):=⟨⟨oc,od,kV,doc,pm,an,cdv,ct,osl,rfl,l,c⟩,k⟩
end
theorem hu_of {A:Around}{k:Nat}(hr:Room k A):A.units+1<cLine:=Nat.lt_of_le_of_lt (Nat.add_le_add_left (by decide:1≤64) _) hr.units
section
variable {X:Cx}
theorem pv (i:Nat){x:Str}{pos:Pos}(hN:X.N[i]?=some x:=by rfl)(hv:Vis X.env.scope x:=by first | exact Or.inl rfl | exact Or.inr (Or.inl rfl) | exact Or.inr (Or.inr rfl))(hd:(x == ("__debug__":Str))=false:=by decide)
  (hcd:(x == ("__classdict__":Str))=false:=by decide):PE X (.Name x pos) (tVar i):=pe_var hN hv hd hcd
end
theorem ite2 {c A B:Prop}[Decidable c](h1:c→A)(h2:¬ c→B):if c then A else B:=by
 by_cases h:c
 ·rw[if_pos h];exact h1 h
 ·rw[if_neg h];exact h2 h
def Same (H H':Hp):Prop:=∀ b o,H b=some o→H' b=some o
theorem Same.refl (H:Hp):Same H H:=fun _ _ h=>h
theorem Same.trans {H H1 H2:Hp}(a:Same H H1)(b:Same H1 H2):Same H H2:=fun c o h=>b c o (a c o h)
theorem Same.free {H H':Hp}(e:Same H H'){l:Addr}(h:H' l=Option.none):H l=Option.none:=by
 cases q:H l with
 | none=>rfl
 | some o =>
  rw[e l o q] at h;cases h
theorem Same.seq {K:PySem.W.Frag}{H H':Hp}{a:Addr}{xs:List V}(e:Same H H')(h:SqL K H a xs):SqL K H' a xs:=by
 rcases h with (h | ⟨o,h⟩) | h
 ·exact .inl (.inl (e _ _ h))
 ·exact .inl (.inr ⟨o,e _ _ h⟩)
 ·exact .inr h
end L2
namespace L2
open PySem PySem.Spec PyProof.Rows
section
variable {κ:Type}[DecidableEq κ]
def valV (kvs:List (κ×V))(k:κ):Option V:=(kvs.find? fun kv=>decide (kv.1=k)).map (·.2)
def putK (kvs:List (κ×V))(k:κ)(v:V):List (κ×V) :=
 if (kvs.any fun kv=>decide (kv.1=k))=true then kvs.map (fun kv=>if kv.1=k then (kv.1,v) else kv) else kvs++[(k,v)]
def dropK (kvs:List (κ×V))(k:κ):List (κ×V):=kvs.filter fun kv=>decide (kv.1≠k)
theorem valV_pos {p:κ×V}{r:List (κ×V)}{k:κ}(e:p.1=k):valV (p::r) k=some p.2:=by simp[valV,List.find?_cons,e]
theorem valV_neg {p:κ×V}{r:List (κ×V)}{k:κ}(e:¬ p.1=k):valV (p::r) k=valV r k:=by simp[valV,List.find?_cons,e]
theorem RelO.getD {o:Option V}{u:Option Value}{d:V}{d':Value}(r:RelO o u)(rd:RelV d d'):RelV (o.getD d) (u.getD d'):=by
 cases o with
 | none=>cases u with
  | none=>exact rd
  | some _=>exact (show False from r).elim
 | some _=>cases u with
  | none=>exact (show False from r).elim
  | some _=>exact r
theorem KV.val {kvs:List (κ×V)}{vs:List (κ×Value)}(r:KV kvs vs)(k:κ):RelO (valV kvs k) (valueAt vs k):=by
 unfold KV at r;induction r with
 | nil=>exact True.intro
 | @cons p q ps qs h t ih =>
  obtain⟨h1,h2⟩:=h;by_cases e:p.1=k
  ·have e':q.1=k:=h1.symm.trans e;have b:valueAt (q::qs) k=some q.2:=by simp[valueAt,List.find?_cons,e']
   rw[valV_pos e,b];exact h2
  ·have e':¬ q.1=k:=fun z=>e (h1.trans z)
   have b:valueAt (q::qs) k=valueAt qs k:=by simp[valueAt,List.find?_cons,e']
   rw[valV_neg e,b];exact ih
theorem KV.any {kvs:List (κ×V)}{vs:List (κ×Value)}(r:KV kvs vs)(k:κ):(kvs.any fun kv=>decide (kv.1=k))=vs.any fun kv=>decide (kv.1=k):=by
 unfold KV at r;induction r with
 | nil=>rfl
 | cons h t ih=>rw[List.any_cons,List.any_cons,ih,h.1]
theorem KV.repl {kvs:List (κ×V)}{vs:List (κ×Value)}(r:KV kvs vs)(k:κ){y:V}{u:Value}(ry:RelV y u) :
  KV (kvs.map fun kv=>if kv.1=k then (kv.1,y) else kv) (vs.map fun kv=>if kv.1=k then (kv.1,u) else kv):=by
 unfold KV at r ⊢;induction r with
 | nil=>exact .nil
 | @cons p q ps qs h t ih =>
  rw[List.map_cons,List.map_cons];refine .cons ?_ ih;obtain⟨h1,h2⟩:=h;by_cases e:p.1=k
  ·rw[if_pos e,if_pos (h1.symm.trans e)];exact⟨h1,ry⟩
  ·rw[if_neg e,if_neg (fun z=>e (h1.trans z))];exact⟨h1,h2⟩
theorem KV.put {kvs:List (κ×V)}{vs:List (κ×Value)}(r:KV kvs vs)(k:κ){y:V}{u:Value}(ry:RelV y u):KV (putK kvs k y) (stored vs k u):=by
 unfold putK stored;rw[r.any k];by_cases e:(vs.any fun kv=>decide (kv.1=k))=true
 ·rw[if_pos e,if_pos e];exact r.repl k ry
 ·rw[if_neg e,if_neg e];exact Paired.snoc r ⟨rfl,ry⟩
theorem KV.drop {kvs:List (κ×V)}{vs:List (κ×Value)}(r:KV kvs vs)(k:κ):KV (dropK kvs k) (without vs k):=by
 unfold KV at r ⊢;unfold dropK without;induction r with
 | nil=>exact .nil
 | @cons p q ps qs h t ih =>
  obtain⟨h1,h2⟩:=h;rw[List.filter_cons,List.filter_cons];by_cases e:p.1=k
  ·have a:¬ decide (p.1≠k)=true:=by simp[e]
   have b:¬ decide (q.1≠k)=true:=by simp[h1.symm.trans e]
   rw[if_neg a,if_neg b];exact ih
  ·have e':¬ q.1=k:=fun z=>e (h1.trans z)
   have a:decide (p.1≠k)=true:=by simp[e]
   have b:decide (q.1≠k)=true:=by simp[e']
   rw[if_pos a,if_pos b];exact .cons ⟨h1,h2⟩ ih
theorem KV.length {kvs:List (κ×V)}{vs:List (κ×Value)}(r:KV kvs vs):kvs.length=vs.length:=Paired.length r
end
theorem kV_is {P:Program}{w:World}{k:Key}{u:Value}(r:RelV (kV k) u):(mixKind P w).is k u=true:=by
 cases k with
 | inl i=>obtain⟨t,e⟩:=(show ∃ t,u=Value.int i t from r);subst e;exact mixKind_int P w i t
 | inr x=>obtain⟨t,e⟩:=(show ∃ t,u=Value.str x t from r);subst e;exact mixKind_str P w x t
section
variable {P:Program}{w:World}{H:Hp}{h:Heap}{a:Addr}
end
def DGet (H:Hp)(a:Addr)(y:V)(r:Option V):Prop :=
 (∃ kvs k,Rd H a (.dK kvs)∧y=kV k∧r=valV kvs k)∨∃ kvs k b,Rd H a (.dT kvs)∧y=.ref b∧H b=some (.tup (k.map kV))∧r=valV kvs k
def DPut (H:Hp)(a:Addr)(y v:V)(H':Hp):Prop :=
 (∃ kvs k,H a=some (.dK kvs)∧y=kV k∧kvs.length<sizeLine∧H'=upd H a (.dK (putK kvs k v))) ∨
 ∃ kvs k b,H a=some (.dT kvs)∧y=.ref b∧H b=some (.tup (k.map kV))∧kvs.length<sizeLine∧H'=upd H a (.dT (putK kvs k v))
section
variable {X:Cx}{pins:List (Addr×Obj)}{σ:St}{H:Hp}{s:Shared}{a:Addr}{y v:V}{u r:Value}{o:Option V}{A:Around}{E:Value→Shared→Prop}
end
section
variable {X:Cx}{pins:List (Addr×Obj)}{σ:St}{H:Hp}{s:Shared}{a:Addr}{kvs:List (Key×V)}{k:Key}{u:Value}{A:Around}{E:Value→Shared→Prop}
end
def NoSl (i:Expr):Prop:=∀ ov iv,subscripted i false ov iv=operate [ov,iv] (getItem ov iv)
theorem subD_of {prog:Program}{w:World}{A:Around}{E:Value→Shared→Prop}{s:Shared}{env:Env}{value slice:Expr}{pos:Pos}{T id:String}{Q:Value→Shared→Prop}
  (hl:typeLookup (.type T) "__getitem__"=pure (some (.builtin id))) (hs:NoSl slice)
  (h:wpAny (model prog w) A (eval value env) (fun o s₁=>wpAny (model prog w) A (eval slice env) (fun i s₂=>s₂.TypeIs o T∧wpAny (model prog w) A (getItem o i) Q E s₂) E s₁) E s) :
  wpAny (model prog w) A (eval (.Subscript value slice pos) env) Q E s:=by
 refine Subscript_ (wpAny_mono h (fun o s₁ h₁=>wpAny_mono h₁ (fun i s₂ h₂=>?_) fun _ _ x=>x) fun _ _ x=>x);obtain⟨hT,h₂⟩:=h₂;unfold subscriptTail;refine wpAny_bind ?_;rw[getitemInPython_of_ne hT.not_modules];refine wpAny_bind (wpAny_specialOf hT hl ?_);have fin:wpAny (model prog w) A (subscripted slice false o i) (fun r s₃=>wpAny (model prog w) A (letTemporaryGo value o r >>= fun _=>pure r) Q E s₃) E s₂:=by
  rw[hs o i];exact wpAny_operating (wpAny_mono h₂ (fun r s₃ h₃=>wpAny_bind (wpAny_letTemporaryGo (wpAny_pure h₃))) fun _ _ x=>x)
 first
  | exact wpAny_pure (wpAny_bind fin)
  | exact wpAny_bind (wpAny_pure (wpAny_bind fin))
  | exact wpAny_bind fin
def tDIn (ty td:TE):TE:=fun σ H Q=>ty σ H fun y H1=>td σ H1 fun x H2=>∃ a o,x=.ref a∧DGet H2 a y o∧Q (.bl o.isSome) H2
def tDNotIn (ty td:TE):TE:=fun σ H Q=>ty σ H fun y H1=>td σ H1 fun x H2=>∃ a o,x=.ref a∧DGet H2 a y o∧Q (.bl (!o.isSome)) H2
def sDPut (td ty tv:TE):TS:=fun D σ H=>tv σ H fun v H1=>td σ H1 fun x H2=>ty σ H2 fun y H3=>∃ a H4,x=.ref a∧DPut H3 a y v H4∧D.nx σ H4
section
variable {X:Cx}{o i e value:Expr}{pos pos' tpos:Pos}{td ty tv:TE}
end
def tDNewK:TE:=fun _ H Q=>∀ p,H p=none→Q (.ref p) (upd H p (.dK []))
def tDNewT:TE:=fun _ H Q=>∀ p,H p=none→Q (.ref p) (upd H p (.dT []))
section
variable {X:Cx}{pos:Pos}
end
def mergeK (kvs more:List (Key×V)):List (Key×V):=more.foldl (fun acc kv=>putK acc kv.1 kv.2) kvs
theorem KV.merge:∀ {more:List (Key×V)} {rs:List (Key×Value)} {kvs:List (Key×V)} {vs:List (Key×Value)},KV more rs→KV kvs vs→KV (mergeK kvs more) (merged vs rs):=by
 intro more rs kvs vs r;unfold KV at r;induction r generalizing kvs vs with
 | nil=>intro q;exact q
 | @cons p q ps qs h t ih =>
  intro r0;have e:KV (putK kvs p.1 p.2) (stored vs q.1 q.2):=by
   have:=r0.put p.1 h.2;rw[← h.1];exact this
  exact ih e
section
variable {X:Cx}{pins:List (Addr×Obj)}{σ:St}{H:Hp}{s:Shared}{a:Addr}{y d:V}{u r:Value}{o:Option V}{A:Around}{E:Value→Shared→Prop}
end
section
variable {X:Cx}{o e f:Expr}{apos cpos:Pos}{td ty tx:TE}
end
section
variable {X:Cx}{pins:List (Addr×Obj)}{σ:St}{H:Hp}{s:Shared}{a:Addr}{kvs:List (Key×V)}{A:Around}{E:Value→Shared→Prop}
end
section
variable {X:Cx}{pins:List (Addr×Obj)}{σ:St}{H:Hp}{s:Shared}{a:Addr}{y:V}{u:Value}{A:Around}{E:Value→Shared→Prop}
end
end L2
namespace L2
open PySem PySem.Spec PyProof.Rows
section
variable {X:Cx}
end
section
variable {κ:Type}[DecidableEq κ]
end
end L2
end
section
set_option maxHeartbeats 8000000
local macro_rules | `(tactic| omega)=>`(tactic| first | lia | omega +splitDisjunctions)
set_option Elab.async false
set_option linter.all false
set_option maxRecDepth 100000
namespace Ts
open PySem PyProof.Rows
set_option autoImplicit false
def galP:Bool→Keyed→Array Keyed→Nat→Nat→Nat→StateT SortSt Sem (Option Nat):=sortPriv% PySem.Builtin.gallop
def mLo:Array Keyed→Array Keyed→StateT SortSt Sem (Array Keyed):=sortPriv% PySem.Builtin.mergeLo
def mHi:Array Keyed→Array Keyed→StateT SortSt Sem (Array Keyed):=sortPriv% PySem.Builtin.mergeHi
def setGal (g:Nat):StateT SortSt Sem Unit:=modify fun s=>SortSt.mk' (kindOf s) (arrOf s) (pendingOf s) g (failedOf s)
theorem galP_eq (lf:Bool)(ky:Keyed)(ar:Array Keyed)(bs nn hn:Nat):galP lf ky ar bs nn hn=(do
 let bey (i:Nat):StateT SortSt Sem (Option Bool):=do
  let xx ← elem' ar (bs+i)
  if lf then lt' xx ky else return (← lt' ky xx).map (!·)
 let mut la:=0
 let mut of:=1
 let mut l0:=0
 let mut h0:=0
 let some rg ← bey hn | return none
 if rg then
  let mx:=nn-hn
  for _ in [0:nn] do
   if of≥mx then break
   let some mo ← bey (hn+of) | return none
   if !mo then break
   la:=of
   of:=2*of+1
  l0:=hn+la+1
  h0:=hn+min of mx
 else
  let mx:=hn+1
  for _ in [0:nn] do
   if of≥mx then break
   let some fo ← bey (hn-of) | return none
   if fo then break
   la:=of
   of:=2*of+1
  l0:=hn+1-min of mx
  h0:=hn-la
 for _ in [0:nn] do
  if l0≥h0 then break
  let mm:=l0+(h0-l0) / 2
  let some mo ← bey mm | return none
  if mo then l0:=mm+1 else h0:=mm
 return some h0):=rfl
theorem mLo_eq (a b:Array Keyed):mLo a b=(do
 rule "list.sort.merge-lo"
 let tot:=a.size+b.size
 let dn (o:Array Keyed) (i j:Nat):=o++a.extract i a.size++b.extract j b.size
 let lst (o:Array Keyed) (i j:Nat):=o++b.extract j b.size++a.extract i a.size
 let mut o:Array Keyed:=#[← elem' b 0]
 let mut i:=0
 let mut j:=1
 if j == b.size then return dn o i j
 if i+1 == a.size then return lst o i j
 let mut mg:=gallopOf (← get)
 for _ in [0:tot] do
  let mut ac:=0
  let mut bc:=0
  for _ in [0:tot] do
   let some bw ← lt' (← elem' b j) (← elem' a i) | return dn o i j
   if bw then
    o:=o.push (← elem' b j);j:=j+1;bc:=bc+1;ac:=0
    if j == b.size then return dn o i j
    if bc≥mg then break
   else
    o:=o.push (← elem' a i);i:=i+1;ac:=ac+1;bc:=0
    if i+1 == a.size then return lst o i j
    if ac≥mg then break
  rule "list.sort.gallop"
  mg:=mg+1
  for _ in [0:tot] do
   if mg>1 then mg:=mg-1
   setGal mg
   let some k ← galP false (← elem' b j) a i (a.size-i) 0 | return dn o i j
   ac:=k
   if k>0 then
    o:=o++a.extract i (i+k);i:=i+k
    if i+1 == a.size then return lst o i j
    if i == a.size then return dn o i j
   o:=o.push (← elem' b j);j:=j+1
   if j == b.size then return dn o i j
   let some k ← galP true (← elem' a i) b j (b.size-j) 0 | return dn o i j
   bc:=k
   if k>0 then
    o:=o++b.extract j (j+k);j:=j+k
    if j == b.size then return dn o i j
   o:=o.push (← elem' a i);i:=i+1
   if i+1 == a.size then return lst o i j
   if ac<7 && bc<7 then break
  mg:=mg+1
  setGal mg
 unsupported "internal:list.sort.merge-bound"):=rfl
theorem mHi_eq (a b:Array Keyed):mHi a b=(do
 rule "list.sort.merge-hi"
 let tot:=a.size+b.size
 let dn (o:Array Keyed) (i j:Nat):=a.extract 0 i++b.extract 0 j++o.reverse
 let fst (o:Array Keyed) (i j:Nat):=b.extract 0 j++a.extract 0 i++o.reverse
 let mut i:=a.size-1
 let mut j:=b.size
 let mut o:Array Keyed:=#[← elem' a i]
 if i == 0 then return dn o i j
 if j == 1 then return fst o i j
 let mut mg:=gallopOf (← get)
 for _ in [0:tot] do
  let mut ac:=0
  let mut bc:=0
  for _ in [0:tot] do
   let some aw ← lt' (← elem' b (j-1)) (← elem' a (i-1)) | return dn o i j
   if aw then
    i:=i-1;o:=o.push (← elem' a i);ac:=ac+1;bc:=0
    if i == 0 then return dn o i j
    if ac≥mg then break
   else
    j:=j-1;o:=o.push (← elem' b j);bc:=bc+1;ac:=0
    if j == 1 then return fst o i j
    if bc≥mg then break
  rule "list.sort.gallop"
  mg:=mg+1
  for _ in [0:tot] do
   if mg>1 then mg:=mg-1
   setGal mg
   let some p ← galP false (← elem' b (j-1)) a 0 i (i-1) | return dn o i j
   let k:=i-p
   ac:=k
   if k>0 then
    o:=o++(a.extract p i).reverse;i:=p
    if i == 0 then return dn o i j
   j:=j-1;o:=o.push (← elem' b j)
   if j == 1 then return fst o i j
   let some p ← galP true (← elem' a (i-1)) b 0 j (j-1) | return dn o i j
   let k:=j-p
   bc:=k
   if k>0 then
    o:=o++(b.extract p j).reverse;j:=p
    if j == 1 then return fst o i j
    if j == 0 then return dn o i j
   i:=i-1;o:=o.push (← elem' a i)
   if i == 0 then return dn o i j
   if ac<7 && bc<7 then break
  mg:=mg+1
  setGal mg
 unsupported "internal:list.sort.merge-bound"):=rfl
theorem mAt_eq (i:Nat):mergeAt' i=(do
 let s ← get
 let (some (sa,na,pw),some (sb,nb,_)):=((pendingOf s)[i]?,(pendingOf s)[i+1]?) | unsupported "internal:list.sort.pending"
 set (SortSt.mk' (kindOf s) (arrOf s) (((pendingOf s).setIfInBounds i (sa,na+nb,pw)).eraseIdxIfInBounds (i+1)) (gallopOf s) (failedOf s))
 let some k ← galP false (← elem' (arrOf s) sb) (arrOf s) sa na 0 | return false
 let (sa,na):=(sa+k,na-k)
 if na == 0 then return true
 let some nb ← galP true (← elem' (arrOf s) (sa+na-1)) (arrOf s) sb nb (nb-1) | return false
 if nb == 0 then return true
 let xx:=(arrOf s).extract sa sb
 let yy:=(arrOf s).extract sb (sb+nb)
 let mm ← if na≤nb then mLo xx yy else mHi xx yy
 modify fun s=>setArr s (mm.toList.zipIdx.foldl (fun a (p,j)=>a.setIfInBounds (sa+j) p) (arrOf s))
 return (failedOf (← get)).isNone):=rfl
end Ts
namespace Ts
open PySem PyProof.Rows
set_option autoImplicit false
def el (xs:Array Keyed)(i:Nat):Keyed:=(xs[i]?).getD (Value.none,Value.none)
theorem el_some {xs:Array Keyed}{i:Nat}(h:i<xs.size):xs[i]?=some (el xs i):=by
 unfold el;rw[getElem?_pos xs i h];rfl
theorem el_congr {xs ys:Array Keyed}{i j:Nat}(h:xs[i]?=ys[j]?):el xs i=el ys j:=by unfold el;rw[h]
theorem el_mem {xs:Array Keyed}{i:Nat}(h:i<xs.size):el xs i∈xs.toList:=by
 have e:el xs i=xs[i]:=by unfold el;rw[getElem?_pos xs i h];rfl
 rw[e];simp
section
variable {O:KeyOrd}{key:Keyed→O.α}
abbrev KA {O:KeyOrd}(key:Keyed→O.α)(xs:Array Keyed)(i:Nat):O.α:=key (el xs i)
theorem KA_congr {xs ys:Array Keyed}{i j:Nat}(h:xs[i]?=ys[j]?):KA key xs i=KA key ys j:=by unfold KA;rw[el_congr h]
def Seg {O:KeyOrd}(key:Keyed→O.α)(xs:Array Keyed)(lo hi:Nat):Prop:=∀ i j,lo≤i→i≤j→j<hi→O.kle (KA key xs i) (KA key xs j)
def SegD {O:KeyOrd}(key:Keyed→O.α)(xs:Array Keyed)(lo hi:Nat):Prop:=∀ i j,lo≤i→i≤j→j<hi→O.kle (KA key xs j) (KA key xs i)
theorem Seg.one (xs:Array Keyed)(lo:Nat):Seg key xs lo (lo+1):=fun i j h1 h2 h3=>by
 have:i=j:=by omega
 subst this;exact KeyOrd.kle_refl _
theorem Seg.sub {xs:Array Keyed}{lo hi lo' hi':Nat}(h:Seg key xs lo hi)(h1:lo≤lo')(h2:hi'≤hi):Seg key xs lo' hi':=fun i j a b c=>h i j (by omega) b (by omega)
theorem Seg.congr {xs ys:Array Keyed}{lo hi:Nat}(h:Seg key xs lo hi)(e:∀ i,lo≤i→i<hi→KA key ys i=KA key xs i):Seg key ys lo hi:=fun i j a b c=>by
 rw[e i a (by omega),e j (by omega) c];exact h i j a b c
theorem KA_bubble {xs:Array Keyed}{src d:Nat}(hs:src<xs.size)(hd:d≤src)(k:Nat) :
  KA key (bubble xs src d) k=if k=src-d then KA key xs src else if src-d<k∧k≤src then KA key xs (k-1) else KA key xs k:=by
 have e:=getElem?_bubble hs d hd k;by_cases h1:k=src-d
 ·rw[if_pos h1] at e ⊢;exact KA_congr e
 ·rw[if_neg h1] at e ⊢;by_cases h2:src-d<k∧k≤src
  ·rw[if_pos h2] at e ⊢;exact KA_congr e
  ·rw[if_neg h2] at e ⊢;exact KA_congr e
theorem KA_mirror {xs:Array Keyed}{i j:Nat}(hj:j≤xs.size)(k:Nat) :
  KA key (mirror xs i j ((j-i) / 2)) k=if i≤k∧k<j then KA key xs (i+j-1-k) else KA key xs k:=by
 have e:=getElem?_mirror_all (i:=i) hj k;by_cases h1:i≤k∧k<j
 ·rw[if_pos h1] at e ⊢;exact KA_congr e
 ·rw[if_neg h1] at e ⊢;exact KA_congr e
theorem KA_mirror_equal {xs:Array Keyed}{i j:Nat}(hj:j≤xs.size)(heq:∀ k,i≤k→k<j→KA key xs k=KA key xs (j-1))(k:Nat) :
  KA key (mirror xs i j ((j-i) / 2)) k=KA key xs k:=by
 rw[KA_mirror hj];split
 ·rw[heq _ (by omega) (by omega),heq k (by omega) (by omega)]
 ·rfl
end
structure SB (a₀:Array Keyed)(knd:SortKind)(st:SortSt):Prop where
 perm:(arrOf st).Perm a₀
 kind:kindOf st=knd
 failed:failedOf st=none
theorem SB.size {a₀:Array Keyed}{knd:SortKind}{st:SortSt}(h:SB a₀ knd st):(arrOf st).size=a₀.size:=h.perm.size_eq
theorem SB.setArr {a₀:Array Keyed}{knd:SortKind}{st:SortSt}(h:SB a₀ knd st){xs:Array Keyed}(hp:xs.Perm (arrOf st)):SB a₀ knd (setArr st xs):=⟨hp.trans h.perm,h.kind,h.failed⟩
theorem SB.mem {a₀:Array Keyed}{knd:SortKind}{st:SortSt}(h:SB a₀ knd st){i:Nat}(hi:i<a₀.size):el (arrOf st) i∈a₀.toList :=
 (Array.perm_iff_toList_perm.mp h.perm).mem_iff.mp (el_mem (by rw[h.size];exact hi))
def Cmp (M:Model)(A:Around)(E:Value→Shared→Prop)(s:Shared)(knd:SortKind)(O:KeyOrd)(key:Keyed→O.α)(a₀:Array Keyed):Prop :=
 ∀ p∈a₀.toList,∀ q∈a₀.toList,∀ (st:SortSt) (Q:Option Bool→SortSt→Prop),kindOf st=knd→Q (some (O.blt (key p) (key q))) st→wpS M A E s (lt' p q) Q st
section
variable {M:Model}{A:Around}{E:Value→Shared→Prop}{s:Shared}{a₀:Array Keyed}{knd:SortKind}{O:KeyOrd}{key:Keyed→O.α}
theorem wpS_elem {xs:Array Keyed}{i:Nat}{Q:Keyed→SortSt→Prop}{st:SortSt}(h:i<xs.size)(q:Q (el xs i) st):wpS M A E s (elem' xs i) Q st:=by
 rw[elem'_eq,el_some h];exact wpS_pure q
theorem wpS_ltI {st:SortSt}{i j:Nat}{Q:Option Bool→SortSt→Prop}(C:Cmp M A E s knd O key a₀)(hB:SB a₀ knd st)(hi:i<a₀.size)(hj:j<a₀.size)
  (h:Q (some (O.blt (KA key (arrOf st) i) (KA key (arrOf st) j))) st):wpS M A E s (ltAt' i j) Q st:=by
 rw[ltAt'_eq];refine wpS_bind (wpS_get ?_);refine wpS_bind (wpS_elem (by rw[hB.size];exact hi) ?_);refine wpS_bind (wpS_elem (by rw[hB.size];exact hj) ?_);exact C _ (hB.mem hi) _ (hB.mem hj) st Q hB.kind h
theorem wpS_rev {st:SortSt}{i j:Nat}{Q:Unit→SortSt→Prop}(h:Q () (setArr st (mirror (arrOf st) i j ((j-i) / 2)))):wpS M A E s (reverseSlice' i j) Q st:=by
 rw[reverseSlice'_eq];exact wpS_modify h
theorem wpS_rule {st:SortSt}{Q:Unit→SortSt→Prop}{x:String}(h:Q () st):wpS M A E s (liftM (rule x):StateT SortSt Sem Unit) Q st:=wpS_lift (wpAny_rule ⟨rfl,h⟩)
def ascL (lo a nrem:Nat):StateT SortSt Sem AscSt :=
 forIn [a:nrem] ((none,a):AscSt) fun _ c=>do
  let x ← ltAt' (lo+c.snd) (lo+c.snd-1)
  match x with
  | some sm=>if sm=true then pure (ForInStep.done (none,c.snd)) else pure (ForInStep.yield (none,c.snd+1))
  | _=>pure (ForInStep.done (some none,c.snd))
def t3L (lo n nrem:Nat):StateT SortSt Sem (Option Nat):=do
 reverseSlice' lo (lo+n)
 let c ← ascL lo n nrem
 match c.fst with
 | some r=>pure r
 | none=>pure (some c.snd)
def desL (lo n nrem:Nat):StateT SortSt Sem DescSt :=
 forIn [n:nrem] ((none,n,0):DescSt) fun _ c=>do
  let x ← ltAt' (lo+c.snd.fst) (lo+c.snd.fst-1)
  match x with
  | some sm =>
   if sm=true then
    if c.snd.snd>0 then do
     reverseSlice' (lo+c.snd.fst-(c.snd.snd+1)) (lo+c.snd.fst)
     pure (ForInStep.yield (none,c.snd.fst+1,0))
    else pure (ForInStep.yield (none,c.snd.fst+1,0))
   else do
    let y ← ltAt' (lo+c.snd.fst-1) (lo+c.snd.fst)
    match y with
    | some la =>
     if la=true then pure (ForInStep.done (none,c.snd.fst,c.snd.snd))
     else pure (ForInStep.yield (none,c.snd.fst+1,c.snd.snd+1))
    | _=>pure (ForInStep.done (some none,c.snd.fst,c.snd.snd))
  | _=>pure (ForInStep.done (some none,c.snd.fst,c.snd.snd))
def desP (lo n nrem:Nat):StateT SortSt Sem (Option Nat):=do
 liftM (rule "list.sort.descending-run")
 let c ← desL lo (n+1) nrem
 match c.fst with
 | some r=>pure r
 | none =>
  if c.snd.snd>0 then do
   reverseSlice' (lo+c.snd.fst-(c.snd.snd+1)) (lo+c.snd.fst)
   t3L lo c.snd.fst nrem
  else t3L lo c.snd.fst nrem
theorem cR_eq (lo nrem:Nat):countRun' lo nrem=(do
  let c ← ascL lo 1 nrem
  match c.fst with
  | some r=>pure r
  | none =>
   if (c.snd == nrem)=true then pure (some c.snd)
   else if c.snd>1 then do
    let x ← ltAt' lo (lo+c.snd-1)
    match x with
    | some rs=>if rs=true then pure (some c.snd) else do
      reverseSlice' lo (lo+c.snd)
      desP lo c.snd nrem
    | _=>pure none
   else desP lo c.snd nrem):=by
 rw[countRun'_eq];unfold desP t3L desL ascL;refine bind_congr fun c=>?_
 obtain⟨r,n⟩:=c;cases r with
 | some r=>rfl
 | none =>
  dsimp only;split
  ·rfl
  ·split
   ·refine bind_congr fun x=>?_
    cases x with
    | none=>rfl
    | some rs =>
     dsimp only;split
     ·rfl
     ·refine bind_congr fun u=>?_
      refine bind_congr fun v=>?_
      refine bind_congr fun d=>?_
      obtain⟨r2,n2,q2⟩:=d;cases r2 with
      | some r2=>rfl
      | none =>
       dsimp only;split
       ·refine bind_congr fun e=>?_
        refine bind_congr fun e=>?_
        refine bind_congr fun d=>?_
        obtain⟨r3,n3⟩:=d;cases r3<;>rfl
       ·refine bind_congr fun e=>?_
        refine bind_congr fun d=>?_
        obtain⟨r3,n3⟩:=d;cases r3<;>rfl
   ·refine bind_congr fun v=>?_
    refine bind_congr fun d=>?_
    obtain⟨r2,n2,q2⟩:=d;cases r2 with
    | some r2=>rfl
    | none =>
     dsimp only;split
     ·refine bind_congr fun e=>?_
      refine bind_congr fun e=>?_
      refine bind_congr fun d=>?_
      obtain⟨r3,n3⟩:=d;cases r3<;>rfl
     ·refine bind_congr fun e=>?_
      refine bind_congr fun d=>?_
      obtain⟨r3,n3⟩:=d;cases r3<;>rfl
structure From (lo:Nat)(st st':SortSt):Prop where
 low:∀ i,i<lo→(arrOf st')[i]?=(arrOf st)[i]?
 pend:pendingOf st'=pendingOf st
theorem From.refl (lo:Nat)(st:SortSt):From lo st st:=⟨fun _ _=>rfl,rfl⟩
theorem From.trans {lo:Nat}{a b c:SortSt}(h:From lo a b)(k:From lo b c):From lo a c:=⟨fun i hi=>(k.low i hi).trans (h.low i hi),k.pend.trans h.pend⟩
theorem From.mirror {lo i j:Nat}{st:SortSt}(hi:lo≤i)(hj:j≤(arrOf st).size):From lo st (PyProof.Rows.setArr st (PyProof.Rows.mirror (arrOf st) i j ((j-i) / 2))) :=
 ⟨fun k hk=>by show (PyProof.Rows.mirror (arrOf st) i j ((j-i) / 2))[k]?=_;rw[getElem?_mirror_all hj,if_neg (by omega)],rfl⟩
theorem From.bubble {lo src d:Nat}{st:SortSt}(hs:src<(arrOf st).size)(hd:d≤src)(hl:lo≤src-d):From lo st (PyProof.Rows.setArr st (PyProof.Rows.bubble (arrOf st) src d)) :=
 ⟨fun k hk=>by show (PyProof.Rows.bubble (arrOf st) src d)[k]?=_;rw[getElem?_bubble hs d hd,if_neg (by omega),if_neg (by omega)],rfl⟩
theorem wpS_ascL {st:SortSt}{lo a nrem:Nat}{Q:AscSt→SortSt→Prop}(C:Cmp M A E s knd O key a₀)(hn:lo+nrem≤a₀.size)(ha:1≤a)(han:a≤nrem)(hB:SB a₀ knd st)
  (hs:Seg key (arrOf st) lo (lo+a))
  (h:∀ n,a≤n→n≤nrem→Seg key (arrOf st) lo (lo+n)→(n=nrem∨O.klt (KA key (arrOf st) (lo+n)) (KA key (arrOf st) (lo+n-1)))→Q (none,n) st) :
  wpS M A E s (ascL lo a nrem) Q st:=by
 unfold ascL;refine wpS_forRange (I:=fun x c st'=>st'=st∧c=(none,x)∧Seg key (arrOf st) lo (lo+x)) ?step ?fin ⟨rfl,rfl,hs⟩
 case fin =>
  rintro c st' ⟨rfl,rfl,hs'⟩;rw[show max a nrem=nrem by omega] at hs' ⊢;exact h nrem han (Nat.le_refl _) hs' (.inl rfl)
 case step =>
  rintro x c st' hax hxn ⟨rfl,rfl,hs'⟩;dsimp only;refine wpS_bind (wpS_ltI C hB (by omega) (by omega) ?_);cases hless:O.blt (KA key (arrOf st') (lo+x)) (KA key (arrOf st') (lo+x-1))
  case true =>
   simp only[if_true];exact wpS_pure (h x hax (by omega) hs' (.inr hless))
  case false =>
   simp only[Bool.false_eq_true,if_false];refine wpS_pure ⟨rfl,rfl,fun i j hli hij hj=>?_⟩;by_cases hjx:j<lo+x
   ·exact hs' i j hli hij hjx
   ·have hj':j=lo+x:=by omega
    subst hj';by_cases hi':i=lo+x
    ·subst hi';exact KeyOrd.kle_refl _
    ·exact KeyOrd.kle_trans (hs' i (lo+x-1) hli (by omega) (by omega)) hless
theorem wpS_t3L {st:SortSt}{lo n nrem:Nat}{Q:Option Nat→SortSt→Prop}(C:Cmp M A E s knd O key a₀)(hn:lo+nrem≤a₀.size)(h1:1≤n)(hnn:n≤nrem)(hB:SB a₀ knd st)
  (hs:SegD key (arrOf st) lo (lo+n)) (h:∀ m st',SB a₀ knd st'→From lo st st'→1≤m→m≤nrem→Seg key (arrOf st') lo (lo+m)→Q (some m) st') :
  wpS M A E s (t3L lo n nrem) Q st:=by
 unfold t3L;have hsz:lo+n≤(arrOf st).size:=by rw[hB.size];omega
 refine wpS_bind (wpS_rev ?_);have hB':SB a₀ knd (setArr st (mirror (arrOf st) lo (lo+n) ((lo+n-lo) / 2))):=hB.setArr (mirror_perm _ _ _ _);have hF:=From.mirror (Nat.le_refl lo) hsz;refine wpS_bind (wpS_ascL C hn h1 hnn hB' ?_ fun m hm1 hm2 hsm _=>wpS_pure (h m _ hB' hF (by omega) hm2 hsm));intro i j hli hij hj;show O.kle (KA key (mirror (arrOf st) lo (lo+n) ((lo+n-lo) / 2)) i) (KA key (mirror (arrOf st) lo (lo+n) ((lo+n-lo) / 2)) j);rw[KA_mirror hsz,KA_mirror hsz,if_pos (by omega),if_pos (by omega)];exact hs _ _ (by omega) (by omega) (by omega)
theorem wpS_desL {st:SortSt}{lo n nrem:Nat}{Q:DescSt→SortSt→Prop}(C:Cmp M A E s knd O key a₀)(hn:lo+nrem≤a₀.size)(h1:1≤n)(hnn:n≤nrem)(hB:SB a₀ knd st)
  (hs:SegD key (arrOf st) lo (lo+n))
  (h:∀ m neq st',SB a₀ knd st'→From lo st st'→n≤m→m≤nrem→SegD key (arrOf st') lo (lo+m)→neq+1≤m→(∀ i,lo+m-(neq+1)≤i→i<lo+m→KA key (arrOf st') i=KA key (arrOf st') (lo+m-1))→Q (none,m,neq) st') :
  wpS M A E s (desL lo n nrem) Q st:=by
 unfold desL
 refine wpS_forRange (I:=fun x c st'=>∃ neq,c=(none,x,neq)∧SB a₀ knd st'∧From lo st st'∧SegD key (arrOf st') lo (lo+x)∧neq+1≤x ∧
   (∀ i,lo+x-(neq+1)≤i→i<lo+x→KA key (arrOf st') i=KA key (arrOf st') (lo+x-1))) ?step ?fin ⟨0,rfl,hB,From.refl _ _,hs,by omega,fun i h1 h2=>by congr 1;congr 1;omega⟩
 case fin =>
  rintro c st' ⟨neq,rfl,hB',hF,hs',hq,he⟩;rw[show max n nrem=nrem by omega] at hs' hq he ⊢;exact h nrem neq st' hB' hF hnn (Nat.le_refl _) hs' hq he
 case step =>
  rintro x c st' hax hxn ⟨neq,rfl,hB',hF,hs',hq,he⟩;dsimp only;have hsz:lo+x≤(arrOf st').size:=by rw[hB'.size];omega
  refine wpS_bind (wpS_ltI C hB' (by omega) (by omega) ?_);cases hless:O.blt (KA key (arrOf st') (lo+x)) (KA key (arrOf st') (lo+x-1))
  case true =>
   simp only[if_true];have step1:∀ xs:Array Keyed,(∀ k,KA key xs k=KA key (arrOf st') k)→SegD key xs lo (lo+(x+1)):=by
    intro xs hk i j hli hij hj;rw[hk,hk];by_cases hjx:j<lo+x
    ·exact hs' i j hli hij hjx
    ·have hj':j=lo+x:=by omega
     subst hj';by_cases hi':i=lo+x
     ·subst hi';exact KeyOrd.kle_refl _
     ·exact KeyOrd.kle_trans (KeyOrd.kle_of_klt hless) (hs' i (lo+x-1) hli (by omega) (by omega))
   by_cases hneq:neq>0
   ·rw[if_pos hneq];refine wpS_bind (wpS_rev (wpS_pure ⟨0,rfl,hB'.setArr (mirror_perm _ _ _ _),hF.trans (From.mirror (by omega) hsz),step1 _ (KA_mirror_equal hsz he),by omega,fun i h1 h2=>by congr 1;congr 1;omega⟩))
   ·rw[if_neg hneq];exact wpS_pure ⟨0,rfl,hB',hF,step1 _ (fun _=>rfl),by omega,fun i h1 h2=>by congr 1;congr 1;omega⟩
  case false =>
   simp only[Bool.false_eq_true,if_false];refine wpS_bind (wpS_ltI C hB' (by omega) (by omega) ?_);cases hlarger:O.blt (KA key (arrOf st') (lo+x-1)) (KA key (arrOf st') (lo+x))
   case true =>
    simp only[if_true];exact wpS_pure (h x neq st' hB' hF hax (by omega) hs' hq he)
   case false =>
    simp only[Bool.false_eq_true,if_false];have heqx:KA key (arrOf st') (lo+x)=KA key (arrOf st') (lo+x-1):=KeyOrd.kle_antisymm hlarger hless;refine wpS_pure ⟨neq+1,rfl,hB',hF,fun i j hli hij hj=>?_,by omega,fun i h1 h2=>?_⟩
    ·by_cases hjx:j<lo+x
     ·exact hs' i j hli hij hjx
     ·have hj':j=lo+x:=by omega
      subst hj';by_cases hi':i=lo+x
      ·subst hi';exact KeyOrd.kle_refl _
      ·rw[heqx];exact hs' i (lo+x-1) hli (by omega) (by omega)
    ·rw[show lo+(x+1)-1=lo+x by omega];by_cases hix:i=lo+x
     ·subst hix;rfl
     ·rw[heqx];exact he i (by omega) (by omega)
theorem wpS_desP {st:SortSt}{lo n nrem:Nat}{Q:Option Nat→SortSt→Prop}(C:Cmp M A E s knd O key a₀)(hn:lo+nrem≤a₀.size)(hnn:n+1≤nrem)(hB:SB a₀ knd st)
  (hs:SegD key (arrOf st) lo (lo+(n+1))) (h:∀ m st',SB a₀ knd st'→From lo st st'→1≤m→m≤nrem→Seg key (arrOf st') lo (lo+m)→Q (some m) st') :
  wpS M A E s (desP lo n nrem) Q st:=by
 unfold desP;refine wpS_bind (wpS_rule ?_);refine wpS_bind (wpS_desL C hn (by omega) hnn hB hs fun m neq st' hB' hF hm1 hm2 hs' hq he=>?_);dsimp only;have hsz:lo+m≤(arrOf st').size:=by rw[hB'.size];omega
 by_cases hneq:neq>0
 ·rw[if_pos hneq];refine wpS_bind (wpS_rev (wpS_t3L C hn (by omega) hm2 (hB'.setArr (mirror_perm _ _ _ _)) ?_ fun m' st'' a b=>h m' st'' a (hF.trans ((From.mirror (by omega) hsz).trans b))));intro i j hli hij hj;show O.kle (KA key (mirror (arrOf st') _ _ _) j) (KA key (mirror (arrOf st') _ _ _) i);rw[KA_mirror_equal hsz he,KA_mirror_equal hsz he];exact hs' i j hli hij hj
 ·rw[if_neg hneq];exact wpS_t3L C hn (by omega) hm2 hB' hs' fun m' st'' a b=>h m' st'' a (hF.trans b)
theorem wpS_cR {st:SortSt}{lo nrem:Nat}{Q:Option Nat→SortSt→Prop}(C:Cmp M A E s knd O key a₀)(hn:lo+nrem≤a₀.size)(h1:1≤nrem)(hB:SB a₀ knd st)
  (h:∀ m st',SB a₀ knd st'→From lo st st'→1≤m→m≤nrem→Seg key (arrOf st') lo (lo+m)→Q (some m) st') :
  wpS M A E s (countRun' lo nrem) Q st:=by
 rw[cR_eq];refine wpS_bind (wpS_ascL C hn (Nat.le_refl 1) h1 hB (Seg.one _ _) fun n hn1 hn2 hsn hor=>?_);dsimp only;by_cases hnn:n=nrem
 ·rw[if_pos (by simpa using hnn)];exact wpS_pure (h n st hB (From.refl _ _) hn1 hn2 hsn)
 ·rw[if_neg (by simpa using hnn)];have hlt:O.klt (KA key (arrOf st) (lo+n)) (KA key (arrOf st) (lo+n-1)):=hor.resolve_left hnn;by_cases hgt:n>1
  ·rw[if_pos hgt];refine wpS_bind (wpS_ltI C hB (by omega) (by omega) ?_);cases hrose:O.blt (KA key (arrOf st) lo) (KA key (arrOf st) (lo+n-1))
   case true =>
    simp only[if_true];exact wpS_pure (h n st hB (From.refl _ _) hn1 hn2 hsn)
   case false =>
    simp only[Bool.false_eq_true,if_false];have hsz:lo+n≤(arrOf st).size:=by rw[hB.size];omega
    have hall:∀ k,lo≤k→k<lo+n→KA key (arrOf st) k=KA key (arrOf st) (lo+n-1):=by
     intro k hlk hk;have a1:=hsn lo k (by omega) (by omega) hk;have a2:=hsn k (lo+n-1) hlk (by omega) (by omega);exact KeyOrd.kle_antisymm a2 (KeyOrd.kle_trans hrose a1)
    refine wpS_bind (wpS_rev (wpS_desP C hn (by omega) (hB.setArr (mirror_perm _ _ _ _)) ?_ fun m' st'' a b=>h m' st'' a ((From.mirror (Nat.le_refl lo) hsz).trans b)));intro i j hli hij hj;show O.kle (KA key (mirror (arrOf st) _ _ _) j) (KA key (mirror (arrOf st) _ _ _) i);rw[KA_mirror_equal hsz hall,KA_mirror_equal hsz hall];by_cases hjn:j<lo+n
    ·rw[hall i (by omega) (by omega),hall j (by omega) hjn];exact KeyOrd.kle_refl _
    ·have hj':j=lo+n:=by omega
     subst hj';by_cases hi':i=lo+n
     ·subst hi';exact KeyOrd.kle_refl _
     ·rw[hall i (by omega) (by omega)];exact KeyOrd.kle_of_klt hlt
  ·rw[if_neg hgt];have hn1':n=1:=by omega
   subst hn1';refine wpS_desP C hn (by omega) hB ?_ h;intro i j hli hij hj;by_cases hi':i=j
   ·subst hi';exact KeyOrd.kle_refl _
   ·have hi0:i=lo:=by omega
    have hj1:j=lo+1:=by omega
    subst hi0;subst hj1;exact KeyOrd.kle_of_klt hlt
theorem wpS_bS {st:SortSt}{lo n ok:Nat}{Q:Bool→SortSt→Prop}(C:Cmp M A E s knd O key a₀)(hn:lo+n≤a₀.size)(hok:ok≤n)(hB:SB a₀ knd st)(hs:Seg key (arrOf st) lo (lo+ok))
  (h:∀ st',SB a₀ knd st'→From lo st st'→Seg key (arrOf st') lo (lo+n)→Q true st'):wpS M A E s (binarySort' lo n ok) Q st:=by
 rw[binarySort'_eq]
 refine wpS_bind (wpS_mono (wpS_forRange (I:=fun k c st'=>c=(none,())∧SB a₀ knd st'∧From lo st st'∧Seg key (arrOf st') lo (lo+min k n))
  (Q:=fun c st'=>c=(none,())∧SB a₀ knd st'∧From lo st st'∧Seg key (arrOf st') lo (lo+n)) ?step ?fin ?init) ?post)
 case post =>
  rintro c st' ⟨rfl,hB',hF,hs'⟩;exact wpS_pure (h st' hB' hF hs')
 case init =>
  refine⟨rfl,hB,From.refl _ _,fun i j hli hij hj=>?_⟩;by_cases h1:ok=0
  ·have:i=j:=by omega
   subst this;exact KeyOrd.kle_refl _
  ·exact hs i j hli hij (by omega)
 case fin =>
  rintro c st' ⟨hc,hB',hF,hs'⟩;refine⟨hc,hB',hF,?_⟩
  rwa [show min (max (max ok 1) n) n=n by omega] at hs'
 case step =>
  rintro k c st' hak hkn ⟨rfl,hB',hF,hs'⟩;rw[show min k n=k by omega] at hs';have hk:lo+k<a₀.size:=by omega
  refine wpS_bind (wpS_mono (wpS_forRange (I:=fun x c st''=>st''=st'∧∃ l r,c=(none,l,r)∧l≤r∧r≤k∧r-l≤k-x ∧
    (∀ i,i<l→O.kle (KA key (arrOf st') (lo+i)) (KA key (arrOf st') (lo+k)))∧(∀ i,r≤i→i<k→O.klt (KA key (arrOf st') (lo+k)) (KA key (arrOf st') (lo+i))))
   (Q:=fun c st''=>st''=st'∧∃ l r,c=(none,l,r)∧l≤k ∧
    (∀ i,i<l→O.kle (KA key (arrOf st') (lo+i)) (KA key (arrOf st') (lo+k)))∧(∀ i,l≤i→i<k→O.klt (KA key (arrOf st') (lo+k)) (KA key (arrOf st') (lo+i)))) ?istep ?ifin ?iinit) ?ipost)
  case iinit=>exact⟨rfl,0,k,rfl,by omega,by omega,by omega,fun i hi=>by omega,fun i h1 h2=>by omega⟩
  case ifin =>
   rintro c st'' ⟨rfl,l,r,rfl,hlr,hrk,hm,hlo,hhi⟩;have:l=r:=by omega
   subst this;exact⟨rfl,l,l,rfl,hrk,hlo,hhi⟩
  case istep =>
   rintro x c st'' _ hxk ⟨rfl,l,r,rfl,hlr,hrk,hm,hlo,hhi⟩;dsimp only;by_cases hge:l≥r
   ·rw[if_pos hge];have:l=r:=by omega
    subst this;exact wpS_pure ⟨rfl,l,l,rfl,hrk,hlo,hhi⟩
   ·rw[if_neg hge];refine wpS_bind (wpS_ltI C hB' hk (by omega) ?_);cases hless:O.blt (KA key (arrOf st'') (lo+k)) (KA key (arrOf st'') (lo+(l+r) / 2))
    case true =>
     simp only[if_true];refine wpS_pure ⟨rfl,l,(l+r) / 2,rfl,by omega,by omega,by omega,hlo,fun i h1 h2=>?_⟩;exact KeyOrd.klt_of_klt_of_kle hless (hs' _ _ (by omega) (by omega) (by omega))
    case false =>
     simp only[Bool.false_eq_true,if_false];refine wpS_pure ⟨rfl,(l+r) / 2+1,r,rfl,by omega,by omega,by omega,fun i h1=>?_,hhi⟩;exact KeyOrd.kle_trans (hs' (lo+i) (lo+(l+r) / 2) (by omega) (by omega) (by omega)) (show O.kle _ _ from hless)
  case ipost =>
   rintro c st'' ⟨rfl,l,r,rfl,hlk,hlo,hhi⟩;show wpS _ _ _ _ (do moveDown' (lo+k) (lo+l);pure (ForInStep.yield (none,()))) _ _;rw[moveDown'_eq];have hks:lo+k<(arrOf st'').size:=by rw[hB'.size];exact hk
   refine wpS_bind (wpS_modify (wpS_pure ⟨rfl,hB'.setArr (bubble_perm _ _ _),hF.trans (From.bubble hks (by omega) (by omega)),?_⟩));rw[show min (k+1) n=k+1 by omega];intro i j hli hij hj;show O.kle (KA key (bubble (arrOf st'') (lo+k) (lo+k-(lo+l))) i) (KA key (bubble (arrOf st'') (lo+k) (lo+k-(lo+l))) j);rw[KA_bubble hks (by omega),KA_bubble hks (by omega),show lo+k-(lo+k-(lo+l))=lo+l by omega];have hlo':∀ i,lo≤i→i<lo+l→O.kle (KA key (arrOf st'') i) (KA key (arrOf st'') (lo+k)):=fun i a b=>by
    have:=hlo (i-lo) (by omega)
    rwa [show lo+(i-lo)=i by omega] at this
   have hhi':∀ i,lo+l≤i→i<lo+k→O.klt (KA key (arrOf st'') (lo+k)) (KA key (arrOf st'') i):=fun i a b=>by
    have:=hhi (i-lo) (by omega) (by omega)
    rwa [show lo+(i-lo)=i by omega] at this
   repeat' split
   all_goals first
    | (exfalso;omega)
    | exact KeyOrd.kle_refl _
    | exact hlo' _ (by omega) (by omega)
    | exact KeyOrd.kle_of_klt (hhi' _ (by omega) (by omega))
    | exact hs' _ _ (by omega) (by omega) (by omega)
end
end Ts
namespace Ts
open PySem PyProof.Rows
set_option autoImplicit false
section
variable {M:Model}{A:Around}{E:Value→Shared→Prop}{s:Shared}{a₀:Array Keyed}{knd:SortKind}{O:KeyOrd}{key:Keyed→O.α}
theorem wpS_galP {P:Nat→Bool}{lf:Bool}{ky:Keyed}{ar:Array Keyed}{bs nn hn:Nat}{st:SortSt}{Q:Option Nat→SortSt→Prop}(hk:kindOf st=knd)
  (hb:∀ i,i<nn→∀ (st:SortSt) (Q:Option Bool→SortSt→Prop),kindOf st=knd→Q (some (P i)) st →
   wpS M A E s (do let xx ← elem' ar (bs+i);if lf then lt' xx ky else return (← lt' ky xx).map (!·)) Q st)
  (hP:∀ i j,i≤j→j<nn→P j=true→P i=true) (hh:hn<nn)
  (h:∀ k,k≤nn→(∀ i,i<k→P i=true)→(∀ i,k≤i→i<nn→P i=false)→Q (some k) st):wpS M A E s (galP lf ky ar bs nn hn) Q st:=by
 rw[galP_eq];have hN:∀ i j,i≤j→j<nn→P i=false→P j=false:=fun i j a b c=>by
  cases e:P j with
  | false=>rfl
  | true=>rw[hP i j a b e] at c;exact absurd c (by simp)
 refine wpS_bind (hb hn hh _ _ hk ?_);cases e:P hn with
 | true =>
  simp only[if_true]
  refine wpS_bind (wpS_mono (wpS_forRange (I:=fun x c st'=>st'=st∧∃ la o,c=(none,la,o)∧la<o∧x+1≤o∧hn+la<nn∧P (hn+la)=true)
   (Q:=fun c st'=>st'=st∧∃ la o,c=(none,la,o)∧la<o∧hn+la<nn∧P (hn+la)=true∧(nn-hn≤o∨(o<nn-hn∧P (hn+o)=false))) ?step ?fin ⟨rfl,0,1,rfl,by omega,by omega,hh,e⟩) ?post)
  case fin =>
   rintro c st' ⟨rfl,la,o,rfl,h1,h2,h3,h4⟩;exact⟨rfl,la,o,rfl,h1,h3,h4,.inl (by omega)⟩
  case step =>
   rintro x c st' _ hx ⟨rfl,la,o,rfl,h1,h2,h3,h4⟩;dsimp only;by_cases hge:o≥nn-hn
   ·rw[if_pos hge];exact wpS_pure ⟨rfl,la,o,rfl,h1,h3,h4,.inl hge⟩
   ·rw[if_neg hge];refine wpS_bind (hb (hn+o) (by omega) _ _ hk ?_);cases e2:P (hn+o) with
    | true =>
     simp only[Bool.not_true,Bool.false_eq_true,if_false];exact wpS_pure ⟨rfl,o,_,rfl,by omega,by omega,by omega,e2⟩
    | false =>
     simp only[Bool.not_false,if_true];exact wpS_pure ⟨rfl,la,o,rfl,h1,h3,h4,.inr ⟨by omega,e2⟩⟩
  case post =>
   rintro c st' ⟨rfl,la,o,rfl,h1,h3,h4,h5⟩;dsimp only;have hT:∀ i,i<(hn+la+1)→P i=true:=fun i hi=>hP i (hn+la) (by omega) h3 h4
   have hF:∀ i,(hn+min o (nn-hn))≤i→i<nn→P i=false:=fun i hi hin=>by
    rcases h5 with h5 | ⟨h5,h6⟩
    ·omega
    ·exact hN (hn+o) i (by omega) hin h6
   refine wpS_bind (wpS_mono (wpS_forRange (I:=fun x c st''=>st''=st'∧∃ l r,c=(none,l,r)∧l≤r∧r≤nn∧r-l≤nn-x∧(∀ i,i<l→P i=true)∧(∀ i,r≤i→i<nn→P i=false))
    (Q:=fun c st''=>st''=st'∧∃ l,c=(none,l,l)∧l≤nn∧(∀ i,i<l→P i=true)∧(∀ i,l≤i→i<nn→P i=false)) ?step2 ?fin2 ⟨rfl,(hn+la+1),(hn+min o (nn-hn)),rfl,by omega,by omega,by omega,hT,hF⟩) ?post2)
   case fin2 =>
    rintro c st'' ⟨rfl,l,r,rfl,h1,h2,h3,h4,h5⟩;have:l=r:=by omega
    subst this;exact⟨rfl,l,rfl,h2,h4,h5⟩
   case post2 =>
    rintro c st'' ⟨rfl,l,rfl,h2,h4,h5⟩;exact wpS_pure (h l h2 h4 h5)
   case step2 =>
    rintro x c st'' _ hx ⟨rfl,l,r,rfl,h1,h2,h3,h4,h5⟩;dsimp only;by_cases hge:l≥r
    ·rw[if_pos hge];have:l=r:=by omega
     subst this;exact wpS_pure ⟨rfl,l,rfl,h2,h4,h5⟩
    ·rw[if_neg hge];refine wpS_bind (hb (l+(r-l) / 2) (by omega) _ _ hk ?_);cases e:P (l+(r-l) / 2) with
     | true =>
      simp only[if_true];exact wpS_pure ⟨rfl,_,r,rfl,by omega,h2,by omega,fun i hi=>hP i _ (by omega) (by omega) e,h5⟩
     | false =>
      simp only[Bool.false_eq_true,if_false];exact wpS_pure ⟨rfl,l,_,rfl,by omega,by omega,by omega,h4,fun i a b=>hN _ i a b e⟩
 | false =>
  simp only[Bool.false_eq_true,if_false]
  refine wpS_bind (wpS_mono (wpS_forRange (I:=fun x c st'=>st'=st∧∃ la o,c=(none,la,o)∧la<o∧x+1≤o∧la≤hn∧P (hn-la)=false)
   (Q:=fun c st'=>st'=st∧∃ la o,c=(none,la,o)∧la<o∧la≤hn∧P (hn-la)=false∧(hn+1≤o∨(o≤hn∧P (hn-o)=true))) ?step ?fin ⟨rfl,0,1,rfl,by omega,by omega,by omega,e⟩) ?post)
  case fin =>
   rintro c st' ⟨rfl,la,o,rfl,h1,h2,h3,h4⟩;exact⟨rfl,la,o,rfl,h1,h3,h4,.inl (by omega)⟩
  case step =>
   rintro x c st' _ hx ⟨rfl,la,o,rfl,h1,h2,h3,h4⟩;dsimp only;by_cases hge:o≥hn+1
   ·rw[if_pos hge];exact wpS_pure ⟨rfl,la,o,rfl,h1,h3,h4,.inl hge⟩
   ·rw[if_neg hge];refine wpS_bind (hb (hn-o) (by omega) _ _ hk ?_);cases e2:P (hn-o) with
    | true =>
     simp only[if_true];exact wpS_pure ⟨rfl,la,o,rfl,h1,h3,h4,.inr ⟨by omega,e2⟩⟩
    | false =>
     simp only[Bool.false_eq_true,if_false];exact wpS_pure ⟨rfl,o,_,rfl,by omega,by omega,by omega,e2⟩
  case post =>
   rintro c st' ⟨rfl,la,o,rfl,h1,h3,h4,h5⟩;dsimp only;have hT:∀ i,i<(hn+1-min o (hn+1))→P i=true:=fun i hi=>by
    rcases h5 with h5 | ⟨h5,h6⟩
    ·omega
    ·exact hP i (hn-o) (by omega) (by omega) h6
   have hF:∀ i,(hn-la)≤i→i<nn→P i=false:=fun i hi hin=>hN (hn-la) i hi hin h4
   refine wpS_bind (wpS_mono (wpS_forRange (I:=fun x c st''=>st''=st'∧∃ l r,c=(none,l,r)∧l≤r∧r≤nn∧r-l≤nn-x∧(∀ i,i<l→P i=true)∧(∀ i,r≤i→i<nn→P i=false))
    (Q:=fun c st''=>st''=st'∧∃ l,c=(none,l,l)∧l≤nn∧(∀ i,i<l→P i=true)∧(∀ i,l≤i→i<nn→P i=false)) ?step2 ?fin2 ⟨rfl,(hn+1-min o (hn+1)),(hn-la),rfl,by omega,by omega,by omega,hT,hF⟩) ?post2)
   case fin2 =>
    rintro c st'' ⟨rfl,l,r,rfl,h1,h2,h3,h4,h5⟩;have:l=r:=by omega
    subst this;exact⟨rfl,l,rfl,h2,h4,h5⟩
   case post2 =>
    rintro c st'' ⟨rfl,l,rfl,h2,h4,h5⟩;exact wpS_pure (h l h2 h4 h5)
   case step2 =>
    rintro x c st'' _ hx ⟨rfl,l,r,rfl,h1,h2,h3,h4,h5⟩;dsimp only;by_cases hge:l≥r
    ·rw[if_pos hge];have:l=r:=by omega
     subst this;exact wpS_pure ⟨rfl,l,rfl,h2,h4,h5⟩
    ·rw[if_neg hge];refine wpS_bind (hb (l+(r-l) / 2) (by omega) _ _ hk ?_);cases e:P (l+(r-l) / 2) with
     | true =>
      simp only[if_true];exact wpS_pure ⟨rfl,_,r,rfl,by omega,h2,by omega,fun i hi=>hP i _ (by omega) (by omega) e,h5⟩
     | false =>
      simp only[Bool.false_eq_true,if_false];exact wpS_pure ⟨rfl,l,_,rfl,by omega,by omega,by omega,h4,fun i a b=>hN _ i a b e⟩
theorem wpS_galR {ky:Keyed}{ar:Array Keyed}{bs nn hn:Nat}{st:SortSt}{Q:Option Nat→SortSt→Prop}(C:Cmp M A E s knd O key a₀)(hk:kindOf st=knd)(hm:ky∈a₀.toList)
  (ha:∀ i,i<nn→el ar (bs+i)∈a₀.toList) (hsz:bs+nn≤ar.size) (hs:Seg key ar bs (bs+nn)) (hh:hn<nn)
  (h:∀ k,k≤nn→(∀ i,bs≤i→i<bs+k→O.kle (KA key ar i) (key ky))→(∀ i,bs+k≤i→i<bs+nn→O.klt (key ky) (KA key ar i))→Q (some k) st):wpS M A E s (galP false ky ar bs nn hn) Q st:=by
 refine wpS_galP (P:=fun i=>!O.blt (key ky) (KA key ar (bs+i))) hk (fun i hi st Q hk q=>?_) (fun i j hij hj e=>?_) hh fun k hk1 h1 h2=>?_
 ·refine wpS_bind (wpS_elem (by omega) ?_);simp only[Bool.false_eq_true,if_false];exact wpS_bind (C _ hm _ (ha i hi) st _ hk (wpS_pure q))
 ·have e':O.kle (KA key ar (bs+j)) (key ky):=by simpa [KeyOrd.kle] using e
  have:=KeyOrd.kle_trans (hs (bs+i) (bs+j) (by omega) (by omega) (by omega)) e';simpa [KeyOrd.kle] using this
 ·refine h k hk1 (fun i a b=>?_) fun i a b=>?_
  ·have:=h1 (i-bs) (by omega);rw[show bs+(i-bs)=i by omega] at this;simpa [KeyOrd.kle] using this
  ·have:=h2 (i-bs) (by omega) (by omega);rw[show bs+(i-bs)=i by omega] at this;simpa [KeyOrd.klt] using this
theorem wpS_galL {ky:Keyed}{ar:Array Keyed}{bs nn hn:Nat}{st:SortSt}{Q:Option Nat→SortSt→Prop}(C:Cmp M A E s knd O key a₀)(hk:kindOf st=knd)(hm:ky∈a₀.toList)
  (ha:∀ i,i<nn→el ar (bs+i)∈a₀.toList) (hsz:bs+nn≤ar.size) (hs:Seg key ar bs (bs+nn)) (hh:hn<nn)
  (h:∀ k,k≤nn→(∀ i,bs≤i→i<bs+k→O.klt (KA key ar i) (key ky))→(∀ i,bs+k≤i→i<bs+nn→O.kle (key ky) (KA key ar i))→Q (some k) st):wpS M A E s (galP true ky ar bs nn hn) Q st:=by
 refine wpS_galP (P:=fun i=>O.blt (KA key ar (bs+i)) (key ky)) hk (fun i hi st Q hk q=>?_) (fun i j hij hj e=>?_) hh fun k hk1 h1 h2=>?_
 ·refine wpS_bind (wpS_elem (by omega) ?_);simp only[if_true];exact C _ (ha i hi) _ hm st _ hk q
 ·exact KeyOrd.klt_of_kle_of_klt (hs (bs+i) (bs+j) (by omega) (by omega) (by omega)) e
 ·refine h k hk1 (fun i a b=>?_) fun i a b=>?_
  ·have:=h1 (i-bs) (by omega)
   rwa [show bs+(i-bs)=i by omega] at this
  ·have:=h2 (i-bs) (by omega) (by omega)
   rwa [show bs+(i-bs)=i by omega] at this
end
end Ts
namespace Ts
open PySem PyProof.Rows
set_option autoImplicit false
theorem toList_el {a:Array Keyed}{k:Nat}(h:k<a.size):a.toList[k]?=some (el a k):=by
 rw[Array.getElem?_toList];exact el_some h
theorem take_succ_el {a:Array Keyed}{i:Nat}(h:i<a.size):a.toList.take (i+1)=a.toList.take i++[el a i]:=by
 rw[List.take_add_one,toList_el h];rfl
theorem drop_el {a:Array Keyed}{i:Nat}(h:i<a.size):a.toList.drop i=el a i::a.toList.drop (i+1):=by
 have hl:i<a.toList.length:=by simpa using h
 rw[List.drop_eq_getElem_cons hl];congr 1;have:=toList_el h;rw[List.getElem?_eq_getElem hl] at this;exact Option.some.inj this
theorem mem_drop_el {a:Array Keyed}{i:Nat}{y:Keyed}(h:y∈a.toList.drop i):∃ k,i≤k∧k<a.size∧y=el a k:=by
 obtain⟨n,hn⟩:=List.mem_iff_getElem?.mp h;rw[List.getElem?_drop] at hn;have hlt:i+n<a.size:=by
  have:=(List.getElem?_eq_some_iff.mp hn).1;simpa using this
 rw[toList_el hlt] at hn;exact⟨i+n,by omega,hlt,(Option.some.inj hn).symm⟩
theorem mem_take_el {a:Array Keyed}{i:Nat}{y:Keyed}(h:y∈a.toList.take i):∃ k,k<i∧k<a.size∧y=el a k:=by
 obtain⟨n,hn⟩:=List.mem_iff_getElem?.mp h;by_cases hi:n<i
 ·rw[List.getElem?_take_of_lt hi] at hn;have hlt:n<a.size:=by
   have:=(List.getElem?_eq_some_iff.mp hn).1;simpa using this
  rw[toList_el hlt] at hn;exact⟨n,hi,hlt,(Option.some.inj hn).symm⟩
 ·rw[List.getElem?_take_eq_none (by omega)] at hn;cases hn
theorem ext_end (a:Array Keyed)(i:Nat):(a.extract i a.size).toList=a.toList.drop i:=by
 rw[Array.toList_extract,List.extract_eq_take_drop,List.take_of_length_le (by simp)]
theorem ext_top (a:Array Keyed)(i:Nat):(a.extract 0 i).toList=a.toList.take i:=by
 rw[Array.toList_extract,List.extract_eq_take_drop];simp
theorem ext_mid {a:Array Keyed}{i k:Nat}(h:i+k<a.size):(a.extract i (i+(k+1))).toList=(a.extract i (i+k)).toList++[el a (i+k)]:=by
 rw[Array.toList_extract,List.extract_eq_take_drop,Array.toList_extract,List.extract_eq_take_drop,show i+(k+1)-i=k+1 by omega,show i+k-i=k by omega,List.take_add_one,List.getElem?_drop,toList_el h];rfl
theorem ext_low {a:Array Keyed}{p i:Nat}(h:p<i)(hi:i≤a.size):(a.extract p i).toList=el a p::(a.extract (p+1) i).toList:=by
 rw[Array.toList_extract,List.extract_eq_take_drop,Array.toList_extract,List.extract_eq_take_drop,drop_el (by omega),show i-p=(i-(p+1))+1 by omega,List.take_succ_cons]
section
variable {O:KeyOrd}{key:Keyed→O.α}
def le {O:KeyOrd}(key:Keyed→O.α)(p q:Keyed):Prop:=O.kle (key p) (key q)
theorem pw_of_seg {a:Array Keyed}(h:Seg key a 0 a.size):a.toList.Pairwise (le key):=by
 rw[List.pairwise_iff_getElem];intro i j hi hj hij;have hi':i<a.size:=by simpa using hi
 have hj':j<a.size:=by simpa using hj
 have e1:=toList_el hi';rw[List.getElem?_eq_getElem hi] at e1;have e2:=toList_el hj';rw[List.getElem?_eq_getElem hj] at e2;rw[Option.some.inj e1,Option.some.inj e2];exact h i j (by omega) (by omega) hj'
theorem seg_of_pw {a:Array Keyed}(h:a.toList.Pairwise (le key)):Seg key a 0 a.size:=by
 rw[List.pairwise_iff_getElem] at h;intro i j _ hij hj;by_cases e:i=j
 ·subst e;exact KeyOrd.kle_refl _
 ·have hi':i<a.size:=by omega
  have hi:i<a.toList.length:=by simpa using hi'
  have hj2:j<a.toList.length:=by simpa using hj
  have e1:=toList_el hi';rw[List.getElem?_eq_getElem hi] at e1;have e2:=toList_el hj;rw[List.getElem?_eq_getElem hj2] at e2;have:=h i j hi hj2 (by omega);rw[Option.some.inj e1,Option.some.inj e2] at this;exact this
def Res {O:KeyOrd}(key:Keyed→O.α)(a b m:Array Keyed):Prop:=m.toList.Perm (a.toList++b.toList)∧m.toList.Pairwise (le key)
structure GLo {O:KeyOrd}(key:Keyed→O.α)(a b o:Array Keyed)(i j:Nat):Prop where
 hi:i≤a.size
 hj:j≤b.size
 sz:o.size=i+j
 pm:o.toList.Perm (a.toList.take i++b.toList.take j)
 so:o.toList.Pairwise (le key)
 la:∀ x∈o.toList,∀ k,i≤k→k<a.size→le key x (el a k)
 lb:∀ x∈o.toList,∀ k,j≤k→k<b.size→le key x (el b k)
variable {a b o:Array Keyed}{i j:Nat}
theorem GLo.pushB (g:GLo key a b o i j)(sb:Seg key b 0 b.size)(h:j<b.size)(hl:∀ k,i≤k→k<a.size→le key (el b j) (el a k)):GLo key a b (o.push (el b j)) i (j+1) where
 hi:=g.hi
 hj:=h
 sz:=by rw[Array.size_push,g.sz];omega
 pm:=by
  rw[Array.toList_push,take_succ_el h,← List.append_assoc];exact g.pm.append_right _
 so:=by
  rw[Array.toList_push,List.pairwise_append];refine⟨g.so,List.pairwise_singleton _ _,fun x hx y hy=>?_⟩;rw[List.mem_singleton.mp hy];exact g.lb x hx j (Nat.le_refl _) h
 la:=fun x hx k h1 h2=>by
  rw[Array.toList_push,List.mem_append,List.mem_singleton] at hx;rcases hx with hx | rfl
  ·exact g.la x hx k h1 h2
  ·exact hl k h1 h2
 lb:=fun x hx k h1 h2=>by
  rw[Array.toList_push,List.mem_append,List.mem_singleton] at hx;rcases hx with hx | rfl
  ·exact g.lb x hx k (by omega) h2
  ·exact sb j k (by omega) (by omega) h2
theorem GLo.pushA (g:GLo key a b o i j)(sa:Seg key a 0 a.size)(h:i<a.size)(hl:∀ k,j≤k→k<b.size→le key (el a i) (el b k)):GLo key a b (o.push (el a i)) (i+1) j where
 hi:=h
 hj:=g.hj
 sz:=by rw[Array.size_push,g.sz];omega
 pm:=by
  rw[Array.toList_push,take_succ_el h];refine (g.pm.append_right _).trans ?_;rw[List.append_assoc,List.append_assoc];exact List.perm_append_comm.append_left _
 so:=by
  rw[Array.toList_push,List.pairwise_append];refine⟨g.so,List.pairwise_singleton _ _,fun x hx y hy=>?_⟩;rw[List.mem_singleton.mp hy];exact g.la x hx i (Nat.le_refl _) h
 la:=fun x hx k h1 h2=>by
  rw[Array.toList_push,List.mem_append,List.mem_singleton] at hx;rcases hx with hx | rfl
  ·exact g.la x hx k (by omega) h2
  ·exact sa i k (by omega) (by omega) h2
 lb:=fun x hx k h1 h2=>by
  rw[Array.toList_push,List.mem_append,List.mem_singleton] at hx;rcases hx with hx | rfl
  ·exact g.lb x hx k h1 h2
  ·exact hl k h1 h2
theorem app_nil (a o:Array Keyed)(i:Nat):o++a.extract i (i+0)=o:=by
 apply Array.ext';simp
theorem app_succ {a o:Array Keyed}{i k:Nat}(h:i+k<a.size):o++a.extract i (i+(k+1))=(o++a.extract i (i+k)).push (el a (i+k)):=by
 apply Array.ext';rw[Array.toList_append,ext_mid h,Array.toList_push,Array.toList_append,List.append_assoc]
theorem GLo.appA (g:GLo key a b o i j)(sa:Seg key a 0 a.size):∀ k,i+k≤a.size→(∀ m,i≤m→m<i+k→∀ n,j≤n→n<b.size→le key (el a m) (el b n))→GLo key a b (o++a.extract i (i+k)) (i+k) j
 | 0,_,_=>by rw[app_nil];exact g
 | k+1,h,hl=>by
  rw[app_succ (by omega)];exact (GLo.appA g sa k (by omega) fun m h1 h2=>hl m h1 (by omega)).pushA sa (by omega) fun n h1 h2=>hl (i+k) (by omega) (by omega) n h1 h2
theorem GLo.appB (g:GLo key a b o i j)(sb:Seg key b 0 b.size):∀ k,j+k≤b.size→(∀ m,j≤m→m<j+k→∀ n,i≤n→n<a.size→le key (el b m) (el a n))→GLo key a b (o++b.extract j (j+k)) i (j+k)
 | 0,_,_=>by rw[app_nil];exact g
 | k+1,h,hl=>by
  rw[app_succ (by omega)];exact (GLo.appB g sb k (by omega) fun m h1 h2=>hl m h1 (by omega)).pushB sb (by omega) fun n h1 h2=>hl (j+k) (by omega) (by omega) n h1 h2
theorem pw_drop {a:Array Keyed}(h:Seg key a 0 a.size)(i:Nat):(a.toList.drop i).Pairwise (le key):=(pw_of_seg h).sublist (List.drop_sublist _ _)
theorem pw_take {a:Array Keyed}(h:Seg key a 0 a.size)(i:Nat):(a.toList.take i).Pairwise (le key):=(pw_of_seg h).sublist (List.take_sublist _ _)
theorem perm4 {α:Type}(A B C D:List α):(A++B++(C++D)).Perm (A++C++(B++D)):=by
 rw[List.append_assoc,List.append_assoc];refine List.Perm.append_left A ?_;rw[← List.append_assoc,← List.append_assoc];exact List.perm_append_comm.append_right D
theorem GLo.done (g:GLo key a b o i j)(sa:Seg key a 0 a.size)(sb:Seg key b 0 b.size)(h:i=a.size∨j=b.size):Res key a b (o++a.extract i a.size++b.extract j b.size):=by
 unfold Res;rw[Array.toList_append,Array.toList_append,ext_end,ext_end];refine⟨?_,?_⟩
 ·rw[List.append_assoc];refine (g.pm.append_right _).trans ((perm4 _ _ _ _).trans ?_);rw[List.take_append_drop,List.take_append_drop]
 ·rw[List.append_assoc,List.pairwise_append];refine⟨g.so,?_,fun x hx y hy=>?_⟩
  ·rcases h with h | h
   ·rw[h,List.drop_of_length_le (by simp)];exact pw_drop sb j
   ·rw[h,List.drop_of_length_le (l:=b.toList) (by simp),List.append_nil];exact pw_drop sa i
  ·rcases List.mem_append.mp hy with hy | hy
   ·obtain⟨k,h1,h2,rfl⟩:=mem_drop_el hy;exact g.la x hx k h1 h2
   ·obtain⟨k,h1,h2,rfl⟩:=mem_drop_el hy;exact g.lb x hx k h1 h2
theorem GLo.last (g:GLo key a b o i j)(sb:Seg key b 0 b.size)(h:i+1=a.size)(hl:∀ k,j≤k→k<b.size→le key (el b k) (el a i)):Res key a b (o++b.extract j b.size++a.extract i a.size):=by
 unfold Res;rw[Array.toList_append,Array.toList_append,ext_end,ext_end];have ed:a.toList.drop i=[el a i]:=by rw[drop_el (by omega),List.drop_of_length_le (by simp;omega)]
 refine⟨?_,?_⟩
 ·rw[List.append_assoc];refine (g.pm.append_right _).trans ((List.perm_append_comm.append_left _).trans ((perm4 _ _ _ _).trans ?_));rw[List.take_append_drop,List.take_append_drop]
 ·rw[List.append_assoc,List.pairwise_append,ed];refine⟨g.so,?_,fun x hx y hy=>?_⟩
  ·rw[List.pairwise_append];refine⟨pw_drop sb j,List.pairwise_singleton _ _,fun x hx y hy=>?_⟩;obtain⟨k,h1,h2,rfl⟩:=mem_drop_el hx;rw[List.mem_singleton.mp hy];exact hl k h1 h2
  ·rcases List.mem_append.mp hy with hy | hy
   ·obtain⟨k,h1,h2,rfl⟩:=mem_drop_el hy;exact g.lb x hx k h1 h2
   ·rw[List.mem_singleton.mp hy];exact g.la x hx i (Nat.le_refl _) (by omega)
structure GHi {O:KeyOrd}(key:Keyed→O.α)(a b o:Array Keyed)(i j:Nat):Prop where
 hi:i≤a.size
 hj:j≤b.size
 sz:o.size+i+j=a.size+b.size
 pm:o.toList.Perm (a.toList.drop i++b.toList.drop j)
 so:o.toList.Pairwise fun p q=>le key q p
 la:∀ x∈o.toList,∀ k,k<i→le key (el a k) x
 lb:∀ x∈o.toList,∀ k,k<j→le key (el b k) x
theorem GHi.pushA (g:GHi key a b o (i+1) j)(sa:Seg key a 0 a.size)(hl:∀ k,k<j→le key (el b k) (el a i)):GHi key a b (o.push (el a i)) i j where
 hi:=by have:=g.hi;omega
 hj:=g.hj
 sz:=by rw[Array.size_push];have:=g.sz;omega
 pm:=by
  rw[Array.toList_push,drop_el (show i<a.size by have:=g.hi;omega)];refine (List.perm_append_comm).trans ?_;exact List.Perm.cons _ g.pm
 so:=by
  rw[Array.toList_push,List.pairwise_append];refine⟨g.so,List.pairwise_singleton _ _,fun x hx y hy=>?_⟩;rw[List.mem_singleton.mp hy];exact g.la x hx i (by omega)
 la:=fun x hx k h1=>by
  rw[Array.toList_push,List.mem_append,List.mem_singleton] at hx;rcases hx with hx | rfl
  ·exact g.la x hx k (by omega)
  ·exact sa k i (by omega) (by omega) (by have:=g.hi;omega)
 lb:=fun x hx k h1=>by
  rw[Array.toList_push,List.mem_append,List.mem_singleton] at hx;rcases hx with hx | rfl
  ·exact g.lb x hx k h1
  ·exact hl k h1
theorem GHi.pushB (g:GHi key a b o i (j+1))(sb:Seg key b 0 b.size)(hl:∀ k,k<i→le key (el a k) (el b j)):GHi key a b (o.push (el b j)) i j where
 hi:=g.hi
 hj:=by have:=g.hj;omega
 sz:=by rw[Array.size_push];have:=g.sz;omega
 pm:=by
  rw[Array.toList_push,drop_el (show j<b.size by have:=g.hj;omega)];refine (g.pm.append_right _).trans ?_;rw[List.append_assoc];exact List.Perm.append_left _ List.perm_append_comm
 so:=by
  rw[Array.toList_push,List.pairwise_append];refine⟨g.so,List.pairwise_singleton _ _,fun x hx y hy=>?_⟩;rw[List.mem_singleton.mp hy];exact g.lb x hx j (by omega)
 la:=fun x hx k h1=>by
  rw[Array.toList_push,List.mem_append,List.mem_singleton] at hx;rcases hx with hx | rfl
  ·exact g.la x hx k h1
  ·exact hl k h1
 lb:=fun x hx k h1=>by
  rw[Array.toList_push,List.mem_append,List.mem_singleton] at hx;rcases hx with hx | rfl
  ·exact g.lb x hx k (by omega)
  ·exact sb k j (by omega) (by omega) (by have:=g.hj;omega)
theorem rev_nil (a o:Array Keyed)(p:Nat):o++(a.extract p p).reverse=o:=by
 apply Array.ext';simp
theorem rev_succ {a o:Array Keyed}{p i:Nat}(h:p<i)(hi:i≤a.size):o++(a.extract p i).reverse=(o++(a.extract (p+1) i).reverse).push (el a p):=by
 apply Array.ext';rw[Array.toList_append,Array.toList_reverse,ext_low h hi,Array.toList_push,Array.toList_append,Array.toList_reverse,List.reverse_cons,List.append_assoc]
theorem GHi.appA (g:GHi key a b o i j)(sa:Seg key a 0 a.size):∀ d p,p+d=i→(∀ m,p≤m→m<i→∀ k,k<j→le key (el b k) (el a m))→GHi key a b (o++(a.extract p i).reverse) p j
 | 0,p,h,_=>by
  have:p=i:=by omega
  subst this;rw[rev_nil];exact g
 | d+1,p,h,hl=>by
  rw[rev_succ (by omega) g.hi];exact (GHi.appA g sa d (p+1) (by omega) fun m h1 h2=>hl m (by omega) h2).pushA sa fun k hk=>hl p (by omega) (by omega) k hk
theorem GHi.appB (g:GHi key a b o i j)(sb:Seg key b 0 b.size):∀ d p,p+d=j→(∀ m,p≤m→m<j→∀ k,k<i→le key (el a k) (el b m))→GHi key a b (o++(b.extract p j).reverse) i p
 | 0,p,h,_=>by
  have:p=j:=by omega
  subst this;rw[rev_nil];exact g
 | d+1,p,h,hl=>by
  rw[rev_succ (by omega) g.hj];exact (GHi.appB g sb d (p+1) (by omega) fun m h1 h2=>hl m (by omega) h2).pushB sb fun k hk=>hl p (by omega) (by omega) k hk
theorem GHi.done (g:GHi key a b o i j)(sa:Seg key a 0 a.size)(sb:Seg key b 0 b.size)(h:i=0∨j=0):Res key a b (a.extract 0 i++b.extract 0 j++o.reverse):=by
 unfold Res;rw[Array.toList_append,Array.toList_append,ext_top,ext_top,Array.toList_reverse];refine⟨?_,?_⟩
 ·refine (((List.reverse_perm _).trans g.pm).append_left _).trans ((perm4 _ _ _ _).trans ?_);rw[List.take_append_drop,List.take_append_drop]
 ·rw[List.pairwise_append];refine⟨?_,List.pairwise_reverse.mpr g.so,fun x hx y hy=>?_⟩
  ·rcases h with h | h
   ·rw[h,List.take_zero,List.nil_append];exact pw_take sb j
   ·rw[h,List.take_zero,List.append_nil];exact pw_take sa i
  ·rw[List.mem_reverse] at hy;rcases List.mem_append.mp hx with hx | hx
   ·obtain⟨k,h1,h2,rfl⟩:=mem_take_el hx;exact g.la y hy k h1
   ·obtain⟨k,h1,h2,rfl⟩:=mem_take_el hx;exact g.lb y hy k h1
theorem GHi.first (g:GHi key a b o i j)(sa:Seg key a 0 a.size)(h:j=1)(hl:∀ k,k<i→le key (el b 0) (el a k)):Res key a b (b.extract 0 j++a.extract 0 i++o.reverse):=by
 subst h;unfold Res;rw[Array.toList_append,Array.toList_append,ext_top,ext_top,Array.toList_reverse];refine⟨?_,?_⟩
 ·refine (((List.reverse_perm _).trans g.pm).append_left _).trans ((List.perm_append_comm.append_right _).trans ((perm4 _ _ _ _).trans ?_));rw[List.take_append_drop,List.take_append_drop]
 ·rw[List.pairwise_append];refine⟨?_,List.pairwise_reverse.mpr g.so,fun x hx y hy=>?_⟩
  ·rw[List.pairwise_append];refine⟨?_,pw_take sa i,fun x hx y hy=>?_⟩
   ·rw[take_succ_el g.hj,List.take_zero];exact List.pairwise_singleton _ _
   ·obtain⟨k,h1,h2,rfl⟩:=mem_take_el hx;obtain⟨k',h1',h2',rfl⟩:=mem_take_el hy;have:k=0:=by omega
    subst this;exact hl k' h1'
  ·rw[List.mem_reverse] at hy;rcases List.mem_append.mp hx with hx | hx
   ·obtain⟨k,h1,h2,rfl⟩:=mem_take_el hx;exact g.lb y hy k h1
   ·obtain⟨k,h1,h2,rfl⟩:=mem_take_el hx;exact g.la y hy k h1
end
end Ts
namespace Ts
open PySem PyProof.Rows
set_option autoImplicit false
def Sg (st st':SortSt):Prop:=∃ g,st'=SortSt.mk' (kindOf st) (arrOf st) (pendingOf st) g (failedOf st)
theorem Sg.refl (st:SortSt):Sg st st:=⟨gallopOf st,rfl⟩
theorem Sg.kind {st st':SortSt}(h:Sg st st'):kindOf st'=kindOf st:=by obtain⟨g,rfl⟩:=h;rfl
theorem Sg.set {st st':SortSt}(h:Sg st st')(g:Nat):Sg st (SortSt.mk' (kindOf st') (arrOf st') (pendingOf st') g (failedOf st')):=by obtain⟨g',rfl⟩:=h;exact⟨g,rfl⟩
section
variable {M:Model}{A:Around}{E:Value→Shared→Prop}{s:Shared}{a₀:Array Keyed}{knd:SortKind}{O:KeyOrd}{key:Keyed→O.α}
theorem wpS_setGal {g:Nat}{st:SortSt}{Q:Unit→SortSt→Prop}(h:Q () (SortSt.mk' (kindOf st) (arrOf st) (pendingOf st) g (failedOf st))):wpS M A E s (setGal g) Q st:=wpS_modify h
theorem wpS_mLo {a b:Array Keyed}{st:SortSt}{Q:Array Keyed→SortSt→Prop}(C:Cmp M A E s knd O key a₀)(hk:kindOf st=knd)
  (ma:∀ k,k<a.size→el a k∈a₀.toList) (mb:∀ k,k<b.size→el b k∈a₀.toList) (sa:Seg key a 0 a.size) (sb:Seg key b 0 b.size) (ha:1≤a.size) (hb:1≤b.size)
  (h0:∀ k,k<a.size→le key (el b 0) (el a k)) (hl:∀ k,k<b.size→le key (el b k) (el a (a.size-1)))
  (h:∀ m st',Res key a b m→Sg st st'→Q m st'):wpS M A E s (mLo a b) Q st:=by
 rw[mLo_eq];refine wpS_bind (wpS_rule ?_);refine wpS_bind (wpS_elem hb ?_);dsimp only;have G0:GLo key a b #[el b 0] 0 1 :=
  ⟨by omega,hb,rfl,by rw[take_succ_el hb];simp,List.pairwise_singleton _ _,fun x hx k _ h2=>by rw[List.mem_singleton.mp hx];exact h0 k h2,fun x hx k h1 h2=>by rw[List.mem_singleton.mp hx];exact sb 0 k (by omega) (by omega) h2⟩
 by_cases c1:1=b.size
 ·rw[if_pos (by simpa using c1)];exact wpS_pure (h _ _ (G0.done sa sb (.inr c1)) (Sg.refl _))
 rw[if_neg (by simpa using c1)];by_cases c2:0+1=a.size
 ·rw[if_pos (by simpa using c2)];exact wpS_pure (h _ _ (G0.last sb c2 fun k _ h2=>by rw[show (0:Nat)=a.size-1 by omega];exact hl k h2) (Sg.refl _))
 rw[if_neg (by simpa using c2)];refine wpS_bind (wpS_get ?_)
 refine wpS_bind (wpS_mono (wpS_forRange (I:=fun x c st'=>Sg st st'∧∃ o i j mg,c=(none,o,i,j,mg)∧GLo key a b o i j∧i+1<a.size∧j<b.size∧x<o.size)
  (Q:=fun c st'=>Sg st st'∧∃ m,c.fst=some m∧Res key a b m) ?step ?fin ⟨Sg.refl _,_,_,_,_,rfl,G0,by omega,by omega,by simp⟩) ?post)
 case fin =>
  rintro c st' ⟨_,o,i,j,mg,rfl,G,h1,h2,h3⟩;have:=G.sz;omega
 case post =>
  rintro⟨r,c⟩ st' ⟨hg,m,e,hr⟩;cases e;exact wpS_pure (h m st' hr hg)
 case step =>
  rintro x c st1 _ hx ⟨hg,o,i,j,mg,rfl,G,h1,h2,h3⟩;dsimp only
  refine wpS_bind (wpS_mono (wpS_forRange (I:=fun y c st'=>st'=st1∧∃ o i j ac bc,c=(none,o,i,j,ac,bc)∧GLo key a b o i j∧i+1<a.size∧j<b.size∧x<o.size∧(0<y→x+1<o.size))
   (Q:=fun c st'=>st'=st1∧((∃ m,c.fst=some m∧Res key a b m)∨∃ o i j ac bc,c=(none,o,i,j,ac,bc)∧GLo key a b o i j∧i+1<a.size∧j<b.size∧x+1<o.size)) ?s1 ?f1 ⟨rfl,_,_,_,_,_,rfl,G,h1,h2,h3,by omega⟩) ?p1)
  case f1 =>
   rintro c st' ⟨rfl,o,i,j,ac,bc,rfl,G,h1,h2,h3,h4⟩;exact⟨rfl,.inr ⟨o,i,j,ac,bc,rfl,G,h1,h2,h4 (by omega)⟩⟩
  case s1 =>
   rintro y c st' _ hy ⟨rfl,o,i,j,ac,bc,rfl,G,h1,h2,h3,h4⟩;dsimp only;refine wpS_bind (wpS_elem (by omega) ?_);refine wpS_bind (wpS_elem (by omega) ?_);refine wpS_bind (C _ (mb _ (by omega)) _ (ma _ (by omega)) _ _ (hg.kind.trans hk) ?_);cases hw:O.blt (key (el b j)) (key (el a i)) with
   | true =>
    simp only[if_true];refine wpS_bind (wpS_elem (by omega) ?_);have G1:=G.pushB sb h2 fun k a1 a2=>KeyOrd.kle_trans (KeyOrd.kle_of_klt hw) (sa i k (by omega) a1 a2)
    have hz:=G.sz;have hz1:=G1.sz;by_cases e1:j+1=b.size
    ·rw[if_pos (by simpa using e1)];exact wpS_pure ⟨rfl,.inl ⟨_,rfl,G1.done sa sb (.inr e1)⟩⟩
    ·rw[if_neg (by simpa using e1)];split
     ·exact wpS_pure ⟨rfl,.inr ⟨_,_,_,_,_,rfl,G1,by omega,by omega,by omega⟩⟩
     ·exact wpS_pure ⟨rfl,_,_,_,_,_,rfl,G1,by omega,by omega,by omega,fun _=>by omega⟩
   | false =>
    simp only[Bool.false_eq_true,if_false];refine wpS_bind (wpS_elem (by omega) ?_);have hw':O.kle (key (el a i)) (key (el b j)):=hw;have G1:=G.pushA sa (by omega) fun k a1 a2=>KeyOrd.kle_trans hw' (sb j k (by omega) a1 a2)
    have hz:=G.sz;have hz1:=G1.sz;by_cases e1:i+1+1=a.size
    ·rw[if_pos (by simpa using e1)];exact wpS_pure ⟨rfl,.inl ⟨_,rfl,G1.last sb e1 fun k a1 a2=>by rw[show i+1=a.size-1 by omega];exact hl k a2⟩⟩
    ·rw[if_neg (by simpa using e1)];split
     ·exact wpS_pure ⟨rfl,.inr ⟨_,_,_,_,_,rfl,G1,by omega,by omega,by omega⟩⟩
     ·exact wpS_pure ⟨rfl,_,_,_,_,_,rfl,G1,by omega,by omega,by omega,fun _=>by omega⟩
  case p1 =>
   rintro⟨r,c⟩ st' ⟨rfl,⟨m,e,hr⟩ | ⟨o,i,j,ac,bc,e,G,h1,h2,h3⟩⟩
   ·cases e;exact wpS_pure ⟨hg,m,rfl,hr⟩
   ·cases e;dsimp only;refine wpS_bind (wpS_rule ?_)
    refine wpS_bind (wpS_mono (wpS_forRange (I:=fun y c st'=>Sg st st'∧∃ o i j mg ac bc,c=(none,o,i,j,mg,ac,bc)∧GLo key a b o i j∧i+1<a.size∧j<b.size∧x+1<o.size)
     (Q:=fun c st'=>Sg st st'∧((∃ m,c.fst=some m∧Res key a b m)∨∃ o i j mg ac bc,c=(none,o,i,j,mg,ac,bc)∧GLo key a b o i j∧i+1<a.size∧j<b.size∧x+1<o.size)) ?s2 ?f2 ⟨hg,_,_,_,_,_,_,rfl,G,h1,h2,h3⟩) ?p2)
    case f2 =>
     rintro c st' ⟨hg,o,i,j,mg,ac,bc,rfl,G,h1,h2,h3⟩;exact⟨hg,.inr ⟨o,i,j,mg,ac,bc,rfl,G,h1,h2,h3⟩⟩
    case p2 =>
     rintro⟨r,c⟩ st' ⟨hg,⟨m,e,hr⟩ | ⟨o,i,j,mg,ac,bc,e,G,h1,h2,h3⟩⟩
     ·cases e;exact wpS_pure ⟨hg,m,rfl,hr⟩
     ·cases e;dsimp only;refine wpS_bind (wpS_setGal ?_);exact wpS_pure ⟨hg.set _,o,i,j,_,rfl,G,h1,h2,h3⟩
    case s2 =>
     rintro y c st' _ hy ⟨hg,o,i,j,mg,ac,bc,rfl,G,h1,h2,h3⟩;dsimp only;have hz0:=G.sz;by_cases hmg:mg>1
     ·rw[if_pos hmg];refine wpS_bind (wpS_setGal ?_);refine wpS_bind (wpS_elem (by omega) ?_);refine wpS_bind (wpS_galR C (by exact hg.kind.trans hk) (mb _ (by omega)) (fun m hm=>ma _ (by omega)) (by omega) (sa.sub (by omega) (by omega)) (by omega) fun k hkk hle hgt0=>?_);dsimp only;have hgt:∀ m,i+k≤m→m<a.size→O.klt (KA key b j) (KA key a m):=fun m h1 h2=>hgt0 m h1 (by omega)
      by_cases hk0:k>0
      ·rw[if_pos hk0];have G1:=G.appA sa k (by omega) fun m h1 h2 n h3 h4=>KeyOrd.kle_trans (hle m h1 h2) (sb _ n (by omega) h3 h4)
       by_cases e1:i+k+1=a.size
       ·rw[if_pos (by simpa using e1)];exact wpS_pure ⟨hg.set _,.inl ⟨_,rfl,G1.last sb e1 fun m h1 h2=>by rw[show i+k=a.size-1 by omega];exact hl m h2⟩⟩
       ·rw[if_neg (by simpa using e1)];by_cases e2:i+k=a.size
        ·rw[if_pos (by simpa using e2)];exact wpS_pure ⟨hg.set _,.inl ⟨_,rfl,G1.done sa sb (.inl e2)⟩⟩
        ·rw[if_neg (by simpa using e2)];refine wpS_bind (wpS_elem (by omega) ?_);have G2:=G1.pushB sb (by omega) fun m h1 h2=>KeyOrd.kle_of_klt (hgt m h1 h2)
         have hz1:=G1.sz;have hz2:=G2.sz;by_cases e3:j+1=b.size
         ·rw[if_pos (by simpa using e3)];exact wpS_pure ⟨hg.set _,.inl ⟨_,rfl,G2.done sa sb (.inr e3)⟩⟩
         ·rw[if_neg (by simpa using e3)];refine wpS_bind (wpS_elem (by omega) ?_);refine wpS_bind (wpS_galL C (by exact hg.kind.trans hk) (ma _ (by omega)) (fun m hm=>mb _ (by omega)) (by omega) (sb.sub (by omega) (by omega)) (by omega) fun k2 hk2 hlt hge0=>?_);dsimp only;have hge:∀ m,j+1+k2≤m→m<b.size→O.kle (KA key a (i+k)) (KA key b m):=fun m h1 h2=>hge0 m h1 (by omega)
          by_cases hk20:k2>0
          ·rw[if_pos hk20];have G3:=G2.appB sb k2 (by omega) fun m h1 h2 n h3 h4=>KeyOrd.kle_trans (KeyOrd.kle_of_klt (hlt m h1 h2)) (sa _ n (by omega) h3 h4)
           by_cases e5:j+1+k2=b.size
           ·rw[if_pos (by simpa using e5)];exact wpS_pure ⟨hg.set _,.inl ⟨_,rfl,G3.done sa sb (.inr e5)⟩⟩
           ·rw[if_neg (by simpa using e5)];refine wpS_bind (wpS_elem (by omega) ?_);have G4:=G3.pushA sa (by omega) fun k h1 h2=>hge k h1 h2
            by_cases e4:(i+k)+1+1=a.size
            ·rw[if_pos (by simpa using e4)];exact wpS_pure ⟨hg.set _,.inl ⟨_,rfl,G4.last sb e4 fun n h1 h2=>by rw[show (i+k)+1=a.size-1 by omega];exact hl n h2⟩⟩
            ·rw[if_neg (by simpa using e4)];have hz4:=G4.sz;have hz3:=G3.sz;split
             ·exact wpS_pure ⟨hg.set _,.inr ⟨_,_,_,_,_,_,rfl,G4,by omega,by omega,by omega⟩⟩
             ·exact wpS_pure ⟨hg.set _,_,_,_,_,_,_,rfl,G4,by omega,by omega,by omega⟩
          ·rw[if_neg hk20];have hk2z:k2=0:=by omega
           subst hk2z;have G3:=G2;refine wpS_bind (wpS_elem (by omega) ?_);have G4:=G3.pushA sa (by omega) fun k h1 h2=>hge k h1 h2
           by_cases e4:(i+k)+1+1=a.size
           ·rw[if_pos (by simpa using e4)];exact wpS_pure ⟨hg.set _,.inl ⟨_,rfl,G4.last sb e4 fun n h1 h2=>by rw[show (i+k)+1=a.size-1 by omega];exact hl n h2⟩⟩
           ·rw[if_neg (by simpa using e4)];have hz4:=G4.sz;have hz3:=G3.sz;split
            ·exact wpS_pure ⟨hg.set _,.inr ⟨_,_,_,_,_,_,rfl,G4,by omega,by omega,by omega⟩⟩
            ·exact wpS_pure ⟨hg.set _,_,_,_,_,_,_,rfl,G4,by omega,by omega,by omega⟩
      ·rw[if_neg hk0];have hkz:k=0:=by omega
       subst hkz;have G1:=G;refine wpS_bind (wpS_elem (by omega) ?_);have G2:=G1.pushB sb (by omega) fun m h1 h2=>KeyOrd.kle_of_klt (hgt m h1 h2)
       have hz1:=G1.sz;have hz2:=G2.sz;by_cases e3:j+1=b.size
       ·rw[if_pos (by simpa using e3)];exact wpS_pure ⟨hg.set _,.inl ⟨_,rfl,G2.done sa sb (.inr e3)⟩⟩
       ·rw[if_neg (by simpa using e3)];refine wpS_bind (wpS_elem (by omega) ?_);refine wpS_bind (wpS_galL C (by exact hg.kind.trans hk) (ma _ (by omega)) (fun m hm=>mb _ (by omega)) (by omega) (sb.sub (by omega) (by omega)) (by omega) fun k2 hk2 hlt hge0=>?_);dsimp only;have hge:∀ m,j+1+k2≤m→m<b.size→O.kle (KA key a (i)) (KA key b m):=fun m h1 h2=>hge0 m h1 (by omega)
        by_cases hk20:k2>0
        ·rw[if_pos hk20];have G3:=G2.appB sb k2 (by omega) fun m h1 h2 n h3 h4=>KeyOrd.kle_trans (KeyOrd.kle_of_klt (hlt m h1 h2)) (sa _ n (by omega) h3 h4)
         by_cases e5:j+1+k2=b.size
         ·rw[if_pos (by simpa using e5)];exact wpS_pure ⟨hg.set _,.inl ⟨_,rfl,G3.done sa sb (.inr e5)⟩⟩
         ·rw[if_neg (by simpa using e5)];refine wpS_bind (wpS_elem (by omega) ?_);have G4:=G3.pushA sa (by omega) fun k h1 h2=>hge k h1 h2
          by_cases e4:(i)+1+1=a.size
          ·rw[if_pos (by simpa using e4)];exact wpS_pure ⟨hg.set _,.inl ⟨_,rfl,G4.last sb e4 fun n h1 h2=>by rw[show (i)+1=a.size-1 by omega];exact hl n h2⟩⟩
          ·rw[if_neg (by simpa using e4)];have hz4:=G4.sz;have hz3:=G3.sz;split
           ·exact wpS_pure ⟨hg.set _,.inr ⟨_,_,_,_,_,_,rfl,G4,by omega,by omega,by omega⟩⟩
           ·exact wpS_pure ⟨hg.set _,_,_,_,_,_,_,rfl,G4,by omega,by omega,by omega⟩
        ·rw[if_neg hk20];have hk2z:k2=0:=by omega
         subst hk2z;have G3:=G2;refine wpS_bind (wpS_elem (by omega) ?_);have G4:=G3.pushA sa (by omega) fun k h1 h2=>hge k h1 h2
         by_cases e4:(i)+1+1=a.size
         ·rw[if_pos (by simpa using e4)];exact wpS_pure ⟨hg.set _,.inl ⟨_,rfl,G4.last sb e4 fun n h1 h2=>by rw[show (i)+1=a.size-1 by omega];exact hl n h2⟩⟩
         ·rw[if_neg (by simpa using e4)];have hz4:=G4.sz;have hz3:=G3.sz;split
          ·exact wpS_pure ⟨hg.set _,.inr ⟨_,_,_,_,_,_,rfl,G4,by omega,by omega,by omega⟩⟩
          ·exact wpS_pure ⟨hg.set _,_,_,_,_,_,_,rfl,G4,by omega,by omega,by omega⟩
     ·rw[if_neg hmg];refine wpS_bind (wpS_setGal ?_);refine wpS_bind (wpS_elem (by omega) ?_);refine wpS_bind (wpS_galR C (by exact hg.kind.trans hk) (mb _ (by omega)) (fun m hm=>ma _ (by omega)) (by omega) (sa.sub (by omega) (by omega)) (by omega) fun k hkk hle hgt0=>?_);dsimp only;have hgt:∀ m,i+k≤m→m<a.size→O.klt (KA key b j) (KA key a m):=fun m h1 h2=>hgt0 m h1 (by omega)
      by_cases hk0:k>0
      ·rw[if_pos hk0];have G1:=G.appA sa k (by omega) fun m h1 h2 n h3 h4=>KeyOrd.kle_trans (hle m h1 h2) (sb _ n (by omega) h3 h4)
       by_cases e1:i+k+1=a.size
       ·rw[if_pos (by simpa using e1)];exact wpS_pure ⟨hg.set _,.inl ⟨_,rfl,G1.last sb e1 fun m h1 h2=>by rw[show i+k=a.size-1 by omega];exact hl m h2⟩⟩
       ·rw[if_neg (by simpa using e1)];by_cases e2:i+k=a.size
        ·rw[if_pos (by simpa using e2)];exact wpS_pure ⟨hg.set _,.inl ⟨_,rfl,G1.done sa sb (.inl e2)⟩⟩
        ·rw[if_neg (by simpa using e2)];refine wpS_bind (wpS_elem (by omega) ?_);have G2:=G1.pushB sb (by omega) fun m h1 h2=>KeyOrd.kle_of_klt (hgt m h1 h2)
         have hz1:=G1.sz;have hz2:=G2.sz;by_cases e3:j+1=b.size
         ·rw[if_pos (by simpa using e3)];exact wpS_pure ⟨hg.set _,.inl ⟨_,rfl,G2.done sa sb (.inr e3)⟩⟩
         ·rw[if_neg (by simpa using e3)];refine wpS_bind (wpS_elem (by omega) ?_);refine wpS_bind (wpS_galL C (by exact hg.kind.trans hk) (ma _ (by omega)) (fun m hm=>mb _ (by omega)) (by omega) (sb.sub (by omega) (by omega)) (by omega) fun k2 hk2 hlt hge0=>?_);dsimp only;have hge:∀ m,j+1+k2≤m→m<b.size→O.kle (KA key a (i+k)) (KA key b m):=fun m h1 h2=>hge0 m h1 (by omega)
          by_cases hk20:k2>0
          ·rw[if_pos hk20];have G3:=G2.appB sb k2 (by omega) fun m h1 h2 n h3 h4=>KeyOrd.kle_trans (KeyOrd.kle_of_klt (hlt m h1 h2)) (sa _ n (by omega) h3 h4)
           by_cases e5:j+1+k2=b.size
           ·rw[if_pos (by simpa using e5)];exact wpS_pure ⟨hg.set _,.inl ⟨_,rfl,G3.done sa sb (.inr e5)⟩⟩
           ·rw[if_neg (by simpa using e5)];refine wpS_bind (wpS_elem (by omega) ?_);have G4:=G3.pushA sa (by omega) fun k h1 h2=>hge k h1 h2
            by_cases e4:(i+k)+1+1=a.size
            ·rw[if_pos (by simpa using e4)];exact wpS_pure ⟨hg.set _,.inl ⟨_,rfl,G4.last sb e4 fun n h1 h2=>by rw[show (i+k)+1=a.size-1 by omega];exact hl n h2⟩⟩
            ·rw[if_neg (by simpa using e4)];have hz4:=G4.sz;have hz3:=G3.sz;split
             ·exact wpS_pure ⟨hg.set _,.inr ⟨_,_,_,_,_,_,rfl,G4,by omega,by omega,by omega⟩⟩
             ·exact wpS_pure ⟨hg.set _,_,_,_,_,_,_,rfl,G4,by omega,by omega,by omega⟩
          ·rw[if_neg hk20];have hk2z:k2=0:=by omega
           subst hk2z;have G3:=G2;refine wpS_bind (wpS_elem (by omega) ?_);have G4:=G3.pushA sa (by omega) fun k h1 h2=>hge k h1 h2
           by_cases e4:(i+k)+1+1=a.size
           ·rw[if_pos (by simpa using e4)];exact wpS_pure ⟨hg.set _,.inl ⟨_,rfl,G4.last sb e4 fun n h1 h2=>by rw[show (i+k)+1=a.size-1 by omega];exact hl n h2⟩⟩
           ·rw[if_neg (by simpa using e4)];have hz4:=G4.sz;have hz3:=G3.sz;split
            ·exact wpS_pure ⟨hg.set _,.inr ⟨_,_,_,_,_,_,rfl,G4,by omega,by omega,by omega⟩⟩
            ·exact wpS_pure ⟨hg.set _,_,_,_,_,_,_,rfl,G4,by omega,by omega,by omega⟩
      ·rw[if_neg hk0];have hkz:k=0:=by omega
       subst hkz;have G1:=G;refine wpS_bind (wpS_elem (by omega) ?_);have G2:=G1.pushB sb (by omega) fun m h1 h2=>KeyOrd.kle_of_klt (hgt m h1 h2)
       have hz1:=G1.sz;have hz2:=G2.sz;by_cases e3:j+1=b.size
       ·rw[if_pos (by simpa using e3)];exact wpS_pure ⟨hg.set _,.inl ⟨_,rfl,G2.done sa sb (.inr e3)⟩⟩
       ·rw[if_neg (by simpa using e3)];refine wpS_bind (wpS_elem (by omega) ?_);refine wpS_bind (wpS_galL C (by exact hg.kind.trans hk) (ma _ (by omega)) (fun m hm=>mb _ (by omega)) (by omega) (sb.sub (by omega) (by omega)) (by omega) fun k2 hk2 hlt hge0=>?_);dsimp only;have hge:∀ m,j+1+k2≤m→m<b.size→O.kle (KA key a (i)) (KA key b m):=fun m h1 h2=>hge0 m h1 (by omega)
        by_cases hk20:k2>0
        ·rw[if_pos hk20];have G3:=G2.appB sb k2 (by omega) fun m h1 h2 n h3 h4=>KeyOrd.kle_trans (KeyOrd.kle_of_klt (hlt m h1 h2)) (sa _ n (by omega) h3 h4)
         by_cases e5:j+1+k2=b.size
         ·rw[if_pos (by simpa using e5)];exact wpS_pure ⟨hg.set _,.inl ⟨_,rfl,G3.done sa sb (.inr e5)⟩⟩
         ·rw[if_neg (by simpa using e5)];refine wpS_bind (wpS_elem (by omega) ?_);have G4:=G3.pushA sa (by omega) fun k h1 h2=>hge k h1 h2
          by_cases e4:(i)+1+1=a.size
          ·rw[if_pos (by simpa using e4)];exact wpS_pure ⟨hg.set _,.inl ⟨_,rfl,G4.last sb e4 fun n h1 h2=>by rw[show (i)+1=a.size-1 by omega];exact hl n h2⟩⟩
          ·rw[if_neg (by simpa using e4)];have hz4:=G4.sz;have hz3:=G3.sz;split
           ·exact wpS_pure ⟨hg.set _,.inr ⟨_,_,_,_,_,_,rfl,G4,by omega,by omega,by omega⟩⟩
           ·exact wpS_pure ⟨hg.set _,_,_,_,_,_,_,rfl,G4,by omega,by omega,by omega⟩
        ·rw[if_neg hk20];have hk2z:k2=0:=by omega
         subst hk2z;have G3:=G2;refine wpS_bind (wpS_elem (by omega) ?_);have G4:=G3.pushA sa (by omega) fun k h1 h2=>hge k h1 h2
         by_cases e4:(i)+1+1=a.size
         ·rw[if_pos (by simpa using e4)];exact wpS_pure ⟨hg.set _,.inl ⟨_,rfl,G4.last sb e4 fun n h1 h2=>by rw[show (i)+1=a.size-1 by omega];exact hl n h2⟩⟩
         ·rw[if_neg (by simpa using e4)];have hz4:=G4.sz;have hz3:=G3.sz;split
          ·exact wpS_pure ⟨hg.set _,.inr ⟨_,_,_,_,_,_,rfl,G4,by omega,by omega,by omega⟩⟩
          ·exact wpS_pure ⟨hg.set _,_,_,_,_,_,_,rfl,G4,by omega,by omega,by omega⟩
end
end Ts
namespace Ts
open PySem PyProof.Rows
set_option autoImplicit false
section
variable {M:Model}{A:Around}{E:Value→Shared→Prop}{s:Shared}{a₀:Array Keyed}{knd:SortKind}{O:KeyOrd}{key:Keyed→O.α}
theorem GHi.pushA' {a b o:Array Keyed}{i j:Nat}(g:GHi key a b o i j)(h:1≤i)(sa:Seg key a 0 a.size)(hl:∀ k,k<j→le key (el b k) (el a (i-1))):GHi key a b (o.push (el a (i-1))) (i-1) j:=by
 cases i with
 | zero=>omega
 | succ i=>exact GHi.pushA g sa hl
theorem GHi.pushB' {a b o:Array Keyed}{i j:Nat}(g:GHi key a b o i j)(h:1≤j)(sb:Seg key b 0 b.size)(hl:∀ k,k<i→le key (el a k) (el b (j-1))):GHi key a b (o.push (el b (j-1))) i (j-1):=by
 cases j with
 | zero=>omega
 | succ j=>exact GHi.pushB g sb hl
theorem wpS_mHi {a b:Array Keyed}{st:SortSt}{Q:Array Keyed→SortSt→Prop}(C:Cmp M A E s knd O key a₀)(hk:kindOf st=knd)
  (ma:∀ k,k<a.size→el a k∈a₀.toList) (mb:∀ k,k<b.size→el b k∈a₀.toList) (sa:Seg key a 0 a.size) (sb:Seg key b 0 b.size) (ha:1≤a.size) (hb:1≤b.size)
  (h0:∀ k,k<a.size→le key (el b 0) (el a k)) (hl:∀ k,k<b.size→le key (el b k) (el a (a.size-1)))
  (h:∀ m st',Res key a b m→Sg st st'→Q m st'):wpS M A E s (mHi a b) Q st:=by
 rw[mHi_eq];refine wpS_bind (wpS_rule ?_);refine wpS_bind (wpS_elem (by omega) ?_);dsimp only;have G0:GHi key a b #[el a (a.size-1)] (a.size-1) b.size :=
  ⟨by omega,by omega,by show 1+(a.size-1)+b.size=_;omega,by
   rw[drop_el (show a.size-1<a.size by omega),List.drop_of_length_le (show a.toList.length≤a.size-1+1 by simp;omega),List.drop_of_length_le (l:=b.toList) (by simp)];simp,
   List.pairwise_singleton _ _,fun x hx k h1=>by rw[List.mem_singleton.mp hx];exact sa k (a.size-1) (by omega) (by omega) (by omega),fun x hx k h1=>by rw[List.mem_singleton.mp hx];exact hl k h1⟩
 by_cases c1:a.size-1=0
 ·rw[if_pos (by simpa using c1)];exact wpS_pure (h _ _ (G0.done sa sb (.inl c1)) (Sg.refl _))
 rw[if_neg (by simpa using c1)];by_cases c2:b.size=1
 ·rw[if_pos (by simpa using c2)];exact wpS_pure (h _ _ (G0.first sa c2 fun k hk=>h0 k (by omega)) (Sg.refl _))
 rw[if_neg (by simpa using c2)];refine wpS_bind (wpS_get ?_)
 refine wpS_bind (wpS_mono (wpS_forRange (I:=fun x c st'=>Sg st st'∧∃ i j o mg,c=(none,i,j,o,mg)∧GHi key a b o i j∧1≤i∧2≤j∧x<o.size)
  (Q:=fun c st'=>Sg st st'∧∃ m,c.fst=some m∧Res key a b m) ?step ?fin ⟨Sg.refl _,_,_,_,_,rfl,G0,by omega,by omega,by simp⟩) ?post)
 case fin =>
  rintro c st' ⟨_,i,j,o,mg,rfl,G,h1,h2,h3⟩;have:=G.sz;omega
 case post =>
  rintro⟨r,c⟩ st' ⟨hg,m,e,hr⟩;cases e;exact wpS_pure (h m st' hr hg)
 case step =>
  rintro x c st1 _ hx ⟨hg,i,j,o,mg,rfl,G,h1,h2,h3⟩;dsimp only
  refine wpS_bind (wpS_mono (wpS_forRange (I:=fun y c st'=>st'=st1∧∃ i j o ac bc,c=(none,i,j,o,ac,bc)∧GHi key a b o i j∧1≤i∧2≤j∧x<o.size∧(0<y→x+1<o.size))
   (Q:=fun c st'=>st'=st1∧((∃ m,c.fst=some m∧Res key a b m)∨∃ i j o ac bc,c=(none,i,j,o,ac,bc)∧GHi key a b o i j∧1≤i∧2≤j∧x+1<o.size)) ?s1 ?f1 ⟨rfl,_,_,_,_,_,rfl,G,h1,h2,h3,by omega⟩) ?p1)
  case f1 =>
   rintro c st' ⟨rfl,i,j,o,ac,bc,rfl,G,h1,h2,h3,h4⟩;exact⟨rfl,.inr ⟨i,j,o,ac,bc,rfl,G,h1,h2,h4 (by omega)⟩⟩
  case s1 =>
   rintro y c st' _ hy ⟨rfl,i,j,o,ac,bc,rfl,G,h1,h2,h3,h4⟩;dsimp only;refine wpS_bind (wpS_elem (by have:=G.hj;omega) ?_);refine wpS_bind (wpS_elem (by have:=G.hi;omega) ?_);refine wpS_bind (C _ (mb _ (by have:=G.hj;omega)) _ (ma _ (by have:=G.hi;omega)) _ _ (hg.kind.trans hk) ?_);cases hw:O.blt (key (el b (j-1))) (key (el a (i-1))) with
   | true =>
    simp only[if_true];refine wpS_bind (wpS_elem (by have:=G.hi;omega) ?_);have G1:=G.pushA' h1 sa fun k a1=>KeyOrd.kle_trans (sb k (j-1) (by omega) (by omega) (by have:=G.hj;omega)) (KeyOrd.kle_of_klt hw)
    have hz:=G.sz;have hz1:=G1.sz;by_cases e1:i-1=0
    ·rw[if_pos (by simpa using e1)];exact wpS_pure ⟨rfl,.inl ⟨_,rfl,G1.done sa sb (.inl e1)⟩⟩
    ·rw[if_neg (by simpa using e1)];split
     ·exact wpS_pure ⟨rfl,.inr ⟨_,_,_,_,_,rfl,G1,by omega,by omega,by omega⟩⟩
     ·exact wpS_pure ⟨rfl,_,_,_,_,_,rfl,G1,by omega,by omega,by omega,fun _=>by omega⟩
   | false =>
    simp only[Bool.false_eq_true,if_false];refine wpS_bind (wpS_elem (by have:=G.hj;omega) ?_);have hw':O.kle (key (el a (i-1))) (key (el b (j-1))):=hw;have G1:=G.pushB' (by omega) sb fun k a1=>KeyOrd.kle_trans (sa k (i-1) (by omega) (by omega) (by have:=G.hi;omega)) hw'
    have hz:=G.sz;have hz1:=G1.sz;by_cases e1:j-1=1
    ·rw[if_pos (by simpa using e1)];exact wpS_pure ⟨rfl,.inl ⟨_,rfl,G1.first sa e1 fun k a1=>h0 k (by have:=G1.hi;omega)⟩⟩
    ·rw[if_neg (by simpa using e1)];split
     ·exact wpS_pure ⟨rfl,.inr ⟨_,_,_,_,_,rfl,G1,by omega,by omega,by omega⟩⟩
     ·exact wpS_pure ⟨rfl,_,_,_,_,_,rfl,G1,by omega,by omega,by omega,fun _=>by omega⟩
  case p1 =>
   rintro⟨r,c⟩ st' ⟨rfl,⟨m,e,hr⟩ | ⟨i,j,o,ac,bc,e,G,h1,h2,h3⟩⟩
   ·cases e;exact wpS_pure ⟨hg,m,rfl,hr⟩
   ·cases e;dsimp only;refine wpS_bind (wpS_rule ?_)
    refine wpS_bind (wpS_mono (wpS_forRange (I:=fun y c st'=>Sg st st'∧∃ i j o mg ac bc,c=(none,i,j,o,mg,ac,bc)∧GHi key a b o i j∧1≤i∧2≤j∧x+1<o.size)
     (Q:=fun c st'=>Sg st st'∧((∃ m,c.fst=some m∧Res key a b m)∨∃ i j o mg ac bc,c=(none,i,j,o,mg,ac,bc)∧GHi key a b o i j∧1≤i∧2≤j∧x+1<o.size)) ?s2 ?f2 ⟨hg,_,_,_,_,_,_,rfl,G,h1,h2,h3⟩) ?p2)
    case f2 =>
     rintro c st' ⟨hg,i,j,o,mg,ac,bc,rfl,G,h1,h2,h3⟩;exact⟨hg,.inr ⟨i,j,o,mg,ac,bc,rfl,G,h1,h2,h3⟩⟩
    case p2 =>
     rintro⟨r,c⟩ st' ⟨hg,⟨m,e,hr⟩ | ⟨i,j,o,mg,ac,bc,e,G,h1,h2,h3⟩⟩
     ·cases e;exact wpS_pure ⟨hg,m,rfl,hr⟩
     ·cases e;dsimp only;refine wpS_bind (wpS_setGal ?_);exact wpS_pure ⟨hg.set _,i,j,o,_,rfl,G,h1,h2,h3⟩
    case s2 =>
     rintro y c st' _ hy ⟨hg,i,j,o,mg,ac,bc,rfl,G,h1,h2,h3⟩;dsimp only;have hz0:=G.sz;by_cases hmg:mg>1
     ·rw[if_pos hmg];refine wpS_bind (wpS_setGal ?_);refine wpS_bind (wpS_elem (by have:=G.hj;omega) ?_);refine wpS_bind (wpS_galR C (by exact hg.kind.trans hk) (mb _ (by have:=G.hj;omega)) (fun m hm=>by rw[Nat.zero_add];exact ma _ (by have:=G.hi;omega)) (by have:=G.hi;omega) (sa.sub (by omega) (by have:=G.hi;omega)) (by omega) fun p hp hle0 hgt0=>?_);dsimp only;have hle:∀ m,m<p→O.kle (KA key a m) (KA key b (j-1)):=fun m h1=>hle0 m (by omega) (by omega)
      have hgt:∀ m,p≤m→m<i→O.klt (KA key b (j-1)) (KA key a m):=fun m h1 h2=>hgt0 m (by omega) (by omega)
      by_cases hk0:i-p>0
      ·rw[if_pos hk0];have G1:=G.appA sa (i-p) p (by omega) fun m h1 h2 n h3=>KeyOrd.kle_trans (sb n (j-1) (by omega) (by omega) (by have:=G.hj;omega)) (KeyOrd.kle_of_klt (hgt m h1 h2))
       by_cases e1:p=0
       ·rw[if_pos (by simpa using e1)];exact wpS_pure ⟨hg.set _,.inl ⟨_,rfl,G1.done sa sb (.inl e1)⟩⟩
       ·rw[if_neg (by simpa using e1)];have hlo:∀ n,n<p→le key (el a n) (el b (j-1)):=hle;refine wpS_bind (wpS_elem (by have:=G1.hj;omega) ?_);have hz1:=G1.sz;have G2:=G1.pushB' (by omega) sb hlo;have hz2:=G2.sz;by_cases e3:j-1=1
        ·rw[if_pos (by simpa using e3)];exact wpS_pure ⟨hg.set _,.inl ⟨_,rfl,G2.first sa e3 fun m hm=>h0 m (by have:=G2.hi;omega)⟩⟩
        ·rw[if_neg (by simpa using e3)];refine wpS_bind (wpS_elem (by have:=G2.hi;omega) ?_);refine wpS_bind (wpS_galL C (by exact hg.kind.trans hk) (ma _ (by have:=G2.hi;omega)) (fun m hm=>by rw[Nat.zero_add];exact mb _ (by have:=G2.hj;omega)) (by have:=G2.hj;omega) (sb.sub (by omega) (by have:=G2.hj;omega)) (by omega) fun p2 hp2 hlt0 hge0=>?_);dsimp only;have hlt:∀ m,m<p2→O.klt (KA key b m) (KA key a (p-1)):=fun m h1=>hlt0 m (by omega) (by omega)
         have hge:∀ m,p2≤m→m<j-1→O.kle (KA key a (p-1)) (KA key b m):=fun m h1 h2=>hge0 m (by omega) (by omega)
         by_cases hk20:j-1-p2>0
         ·rw[if_pos hk20];have G3:=G2.appB sb (j-1-p2) p2 (by omega) fun m h1 h2 n h3=>KeyOrd.kle_trans (sa n (p-1) (by omega) (by omega) (by have:=G2.hi;omega)) (hge m h1 h2)
          by_cases e5:p2=1
          ·rw[if_pos (by simpa using e5)];exact wpS_pure ⟨hg.set _,.inl ⟨_,rfl,G3.first sa e5 fun m hm=>h0 m (by have:=G3.hi;omega)⟩⟩
          ·rw[if_neg (by simpa using e5)];by_cases e6:p2=0
           ·rw[if_pos (by simpa using e6)];exact wpS_pure ⟨hg.set _,.inl ⟨_,rfl,G3.done sa sb (.inr e6)⟩⟩
           ·rw[if_neg (by simpa using e6)];have hlow:∀ n,n<p2→le key (el b n) (el a (p-1)):=fun n hn=>KeyOrd.kle_of_klt (hlt n hn)
            refine wpS_bind (wpS_elem (by have:=G3.hi;omega) ?_);have hz3:=G3.sz;have G4:=G3.pushA' (by omega) sa hlow;have hz4:=G4.sz;by_cases e4:p-1=0
            ·rw[if_pos (by simpa using e4)];exact wpS_pure ⟨hg.set _,.inl ⟨_,rfl,G4.done sa sb (.inl e4)⟩⟩
            ·rw[if_neg (by simpa using e4)];split
             ·exact wpS_pure ⟨hg.set _,.inr ⟨_,_,_,_,_,_,rfl,G4,by omega,by omega,by omega⟩⟩
             ·exact wpS_pure ⟨hg.set _,_,_,_,_,_,_,rfl,G4,by omega,by omega,by omega⟩
         ·rw[if_neg hk20];have hp2z:p2=j-1:=by omega
          have G3:=G2;have hlow:∀ n,n<j-1→le key (el b n) (el a (p-1)):=fun n hn=>KeyOrd.kle_of_klt (hlt n (by omega))
          refine wpS_bind (wpS_elem (by have:=G3.hi;omega) ?_);have hz3:=G3.sz;have G4:=G3.pushA' (by omega) sa hlow;have hz4:=G4.sz;by_cases e4:p-1=0
          ·rw[if_pos (by simpa using e4)];exact wpS_pure ⟨hg.set _,.inl ⟨_,rfl,G4.done sa sb (.inl e4)⟩⟩
          ·rw[if_neg (by simpa using e4)];split
           ·exact wpS_pure ⟨hg.set _,.inr ⟨_,_,_,_,_,_,rfl,G4,by omega,by omega,by omega⟩⟩
           ·exact wpS_pure ⟨hg.set _,_,_,_,_,_,_,rfl,G4,by omega,by omega,by omega⟩
      ·rw[if_neg hk0];have hpz:p=i:=by omega
       have G1:=G;have hlo:∀ n,n<i→le key (el a n) (el b (j-1)):=fun n hn=>hle n (by omega)
       refine wpS_bind (wpS_elem (by have:=G1.hj;omega) ?_);have hz1:=G1.sz;have G2:=G1.pushB' (by omega) sb hlo;have hz2:=G2.sz;by_cases e3:j-1=1
       ·rw[if_pos (by simpa using e3)];exact wpS_pure ⟨hg.set _,.inl ⟨_,rfl,G2.first sa e3 fun m hm=>h0 m (by have:=G2.hi;omega)⟩⟩
       ·rw[if_neg (by simpa using e3)];refine wpS_bind (wpS_elem (by have:=G2.hi;omega) ?_);refine wpS_bind (wpS_galL C (by exact hg.kind.trans hk) (ma _ (by have:=G2.hi;omega)) (fun m hm=>by rw[Nat.zero_add];exact mb _ (by have:=G2.hj;omega)) (by have:=G2.hj;omega) (sb.sub (by omega) (by have:=G2.hj;omega)) (by omega) fun p2 hp2 hlt0 hge0=>?_);dsimp only;have hlt:∀ m,m<p2→O.klt (KA key b m) (KA key a (i-1)):=fun m h1=>hlt0 m (by omega) (by omega)
        have hge:∀ m,p2≤m→m<j-1→O.kle (KA key a (i-1)) (KA key b m):=fun m h1 h2=>hge0 m (by omega) (by omega)
        by_cases hk20:j-1-p2>0
        ·rw[if_pos hk20];have G3:=G2.appB sb (j-1-p2) p2 (by omega) fun m h1 h2 n h3=>KeyOrd.kle_trans (sa n (i-1) (by omega) (by omega) (by have:=G2.hi;omega)) (hge m h1 h2)
         by_cases e5:p2=1
         ·rw[if_pos (by simpa using e5)];exact wpS_pure ⟨hg.set _,.inl ⟨_,rfl,G3.first sa e5 fun m hm=>h0 m (by have:=G3.hi;omega)⟩⟩
         ·rw[if_neg (by simpa using e5)];by_cases e6:p2=0
          ·rw[if_pos (by simpa using e6)];exact wpS_pure ⟨hg.set _,.inl ⟨_,rfl,G3.done sa sb (.inr e6)⟩⟩
          ·rw[if_neg (by simpa using e6)];have hlow:∀ n,n<p2→le key (el b n) (el a (i-1)):=fun n hn=>KeyOrd.kle_of_klt (hlt n hn)
           refine wpS_bind (wpS_elem (by have:=G3.hi;omega) ?_);have hz3:=G3.sz;have G4:=G3.pushA' (by omega) sa hlow;have hz4:=G4.sz;by_cases e4:i-1=0
           ·rw[if_pos (by simpa using e4)];exact wpS_pure ⟨hg.set _,.inl ⟨_,rfl,G4.done sa sb (.inl e4)⟩⟩
           ·rw[if_neg (by simpa using e4)];split
            ·exact wpS_pure ⟨hg.set _,.inr ⟨_,_,_,_,_,_,rfl,G4,by omega,by omega,by omega⟩⟩
            ·exact wpS_pure ⟨hg.set _,_,_,_,_,_,_,rfl,G4,by omega,by omega,by omega⟩
        ·rw[if_neg hk20];have hp2z:p2=j-1:=by omega
         have G3:=G2;have hlow:∀ n,n<j-1→le key (el b n) (el a (i-1)):=fun n hn=>KeyOrd.kle_of_klt (hlt n (by omega))
         refine wpS_bind (wpS_elem (by have:=G3.hi;omega) ?_);have hz3:=G3.sz;have G4:=G3.pushA' (by omega) sa hlow;have hz4:=G4.sz;by_cases e4:i-1=0
         ·rw[if_pos (by simpa using e4)];exact wpS_pure ⟨hg.set _,.inl ⟨_,rfl,G4.done sa sb (.inl e4)⟩⟩
         ·rw[if_neg (by simpa using e4)];split
          ·exact wpS_pure ⟨hg.set _,.inr ⟨_,_,_,_,_,_,rfl,G4,by omega,by omega,by omega⟩⟩
          ·exact wpS_pure ⟨hg.set _,_,_,_,_,_,_,rfl,G4,by omega,by omega,by omega⟩
     ·rw[if_neg hmg];refine wpS_bind (wpS_setGal ?_);refine wpS_bind (wpS_elem (by have:=G.hj;omega) ?_);refine wpS_bind (wpS_galR C (by exact hg.kind.trans hk) (mb _ (by have:=G.hj;omega)) (fun m hm=>by rw[Nat.zero_add];exact ma _ (by have:=G.hi;omega)) (by have:=G.hi;omega) (sa.sub (by omega) (by have:=G.hi;omega)) (by omega) fun p hp hle0 hgt0=>?_);dsimp only;have hle:∀ m,m<p→O.kle (KA key a m) (KA key b (j-1)):=fun m h1=>hle0 m (by omega) (by omega)
      have hgt:∀ m,p≤m→m<i→O.klt (KA key b (j-1)) (KA key a m):=fun m h1 h2=>hgt0 m (by omega) (by omega)
      by_cases hk0:i-p>0
      ·rw[if_pos hk0];have G1:=G.appA sa (i-p) p (by omega) fun m h1 h2 n h3=>KeyOrd.kle_trans (sb n (j-1) (by omega) (by omega) (by have:=G.hj;omega)) (KeyOrd.kle_of_klt (hgt m h1 h2))
       by_cases e1:p=0
       ·rw[if_pos (by simpa using e1)];exact wpS_pure ⟨hg.set _,.inl ⟨_,rfl,G1.done sa sb (.inl e1)⟩⟩
       ·rw[if_neg (by simpa using e1)];have hlo:∀ n,n<p→le key (el a n) (el b (j-1)):=hle;refine wpS_bind (wpS_elem (by have:=G1.hj;omega) ?_);have hz1:=G1.sz;have G2:=G1.pushB' (by omega) sb hlo;have hz2:=G2.sz;by_cases e3:j-1=1
        ·rw[if_pos (by simpa using e3)];exact wpS_pure ⟨hg.set _,.inl ⟨_,rfl,G2.first sa e3 fun m hm=>h0 m (by have:=G2.hi;omega)⟩⟩
        ·rw[if_neg (by simpa using e3)];refine wpS_bind (wpS_elem (by have:=G2.hi;omega) ?_);refine wpS_bind (wpS_galL C (by exact hg.kind.trans hk) (ma _ (by have:=G2.hi;omega)) (fun m hm=>by rw[Nat.zero_add];exact mb _ (by have:=G2.hj;omega)) (by have:=G2.hj;omega) (sb.sub (by omega) (by have:=G2.hj;omega)) (by omega) fun p2 hp2 hlt0 hge0=>?_);dsimp only;have hlt:∀ m,m<p2→O.klt (KA key b m) (KA key a (p-1)):=fun m h1=>hlt0 m (by omega) (by omega)
         have hge:∀ m,p2≤m→m<j-1→O.kle (KA key a (p-1)) (KA key b m):=fun m h1 h2=>hge0 m (by omega) (by omega)
         by_cases hk20:j-1-p2>0
         ·rw[if_pos hk20];have G3:=G2.appB sb (j-1-p2) p2 (by omega) fun m h1 h2 n h3=>KeyOrd.kle_trans (sa n (p-1) (by omega) (by omega) (by have:=G2.hi;omega)) (hge m h1 h2)
          by_cases e5:p2=1
          ·rw[if_pos (by simpa using e5)];exact wpS_pure ⟨hg.set _,.inl ⟨_,rfl,G3.first sa e5 fun m hm=>h0 m (by have:=G3.hi;omega)⟩⟩
          ·rw[if_neg (by simpa using e5)];by_cases e6:p2=0
           ·rw[if_pos (by simpa using e6)];exact wpS_pure ⟨hg.set _,.inl ⟨_,rfl,G3.done sa sb (.inr e6)⟩⟩
           ·rw[if_neg (by simpa using e6)];have hlow:∀ n,n<p2→le key (el b n) (el a (p-1)):=fun n hn=>KeyOrd.kle_of_klt (hlt n hn)
            refine wpS_bind (wpS_elem (by have:=G3.hi;omega) ?_);have hz3:=G3.sz;have G4:=G3.pushA' (by omega) sa hlow;have hz4:=G4.sz;by_cases e4:p-1=0
            ·rw[if_pos (by simpa using e4)];exact wpS_pure ⟨hg.set _,.inl ⟨_,rfl,G4.done sa sb (.inl e4)⟩⟩
            ·rw[if_neg (by simpa using e4)];split
             ·exact wpS_pure ⟨hg.set _,.inr ⟨_,_,_,_,_,_,rfl,G4,by omega,by omega,by omega⟩⟩
             ·exact wpS_pure ⟨hg.set _,_,_,_,_,_,_,rfl,G4,by omega,by omega,by omega⟩
         ·rw[if_neg hk20];have hp2z:p2=j-1:=by omega
          have G3:=G2;have hlow:∀ n,n<j-1→le key (el b n) (el a (p-1)):=fun n hn=>KeyOrd.kle_of_klt (hlt n (by omega))
          refine wpS_bind (wpS_elem (by have:=G3.hi;omega) ?_);have hz3:=G3.sz;have G4:=G3.pushA' (by omega) sa hlow;have hz4:=G4.sz;by_cases e4:p-1=0
          ·rw[if_pos (by simpa using e4)];exact wpS_pure ⟨hg.set _,.inl ⟨_,rfl,G4.done sa sb (.inl e4)⟩⟩
          ·rw[if_neg (by simpa using e4)];split
           ·exact wpS_pure ⟨hg.set _,.inr ⟨_,_,_,_,_,_,rfl,G4,by omega,by omega,by omega⟩⟩
           ·exact wpS_pure ⟨hg.set _,_,_,_,_,_,_,rfl,G4,by omega,by omega,by omega⟩
      ·rw[if_neg hk0];have hpz:p=i:=by omega
       have G1:=G;have hlo:∀ n,n<i→le key (el a n) (el b (j-1)):=fun n hn=>hle n (by omega)
       refine wpS_bind (wpS_elem (by have:=G1.hj;omega) ?_);have hz1:=G1.sz;have G2:=G1.pushB' (by omega) sb hlo;have hz2:=G2.sz;by_cases e3:j-1=1
       ·rw[if_pos (by simpa using e3)];exact wpS_pure ⟨hg.set _,.inl ⟨_,rfl,G2.first sa e3 fun m hm=>h0 m (by have:=G2.hi;omega)⟩⟩
       ·rw[if_neg (by simpa using e3)];refine wpS_bind (wpS_elem (by have:=G2.hi;omega) ?_);refine wpS_bind (wpS_galL C (by exact hg.kind.trans hk) (ma _ (by have:=G2.hi;omega)) (fun m hm=>by rw[Nat.zero_add];exact mb _ (by have:=G2.hj;omega)) (by have:=G2.hj;omega) (sb.sub (by omega) (by have:=G2.hj;omega)) (by omega) fun p2 hp2 hlt0 hge0=>?_);dsimp only;have hlt:∀ m,m<p2→O.klt (KA key b m) (KA key a (i-1)):=fun m h1=>hlt0 m (by omega) (by omega)
        have hge:∀ m,p2≤m→m<j-1→O.kle (KA key a (i-1)) (KA key b m):=fun m h1 h2=>hge0 m (by omega) (by omega)
        by_cases hk20:j-1-p2>0
        ·rw[if_pos hk20];have G3:=G2.appB sb (j-1-p2) p2 (by omega) fun m h1 h2 n h3=>KeyOrd.kle_trans (sa n (i-1) (by omega) (by omega) (by have:=G2.hi;omega)) (hge m h1 h2)
         by_cases e5:p2=1
         ·rw[if_pos (by simpa using e5)];exact wpS_pure ⟨hg.set _,.inl ⟨_,rfl,G3.first sa e5 fun m hm=>h0 m (by have:=G3.hi;omega)⟩⟩
         ·rw[if_neg (by simpa using e5)];by_cases e6:p2=0
          ·rw[if_pos (by simpa using e6)];exact wpS_pure ⟨hg.set _,.inl ⟨_,rfl,G3.done sa sb (.inr e6)⟩⟩
          ·rw[if_neg (by simpa using e6)];have hlow:∀ n,n<p2→le key (el b n) (el a (i-1)):=fun n hn=>KeyOrd.kle_of_klt (hlt n hn)
           refine wpS_bind (wpS_elem (by have:=G3.hi;omega) ?_);have hz3:=G3.sz;have G4:=G3.pushA' (by omega) sa hlow;have hz4:=G4.sz;by_cases e4:i-1=0
           ·rw[if_pos (by simpa using e4)];exact wpS_pure ⟨hg.set _,.inl ⟨_,rfl,G4.done sa sb (.inl e4)⟩⟩
           ·rw[if_neg (by simpa using e4)];split
            ·exact wpS_pure ⟨hg.set _,.inr ⟨_,_,_,_,_,_,rfl,G4,by omega,by omega,by omega⟩⟩
            ·exact wpS_pure ⟨hg.set _,_,_,_,_,_,_,rfl,G4,by omega,by omega,by omega⟩
        ·rw[if_neg hk20];have hp2z:p2=j-1:=by omega
         have G3:=G2;have hlow:∀ n,n<j-1→le key (el b n) (el a (i-1)):=fun n hn=>KeyOrd.kle_of_klt (hlt n (by omega))
         refine wpS_bind (wpS_elem (by have:=G3.hi;omega) ?_);have hz3:=G3.sz;have G4:=G3.pushA' (by omega) sa hlow;have hz4:=G4.sz;by_cases e4:i-1=0
         ·rw[if_pos (by simpa using e4)];exact wpS_pure ⟨hg.set _,.inl ⟨_,rfl,G4.done sa sb (.inl e4)⟩⟩
         ·rw[if_neg (by simpa using e4)];split
          ·exact wpS_pure ⟨hg.set _,.inr ⟨_,_,_,_,_,_,rfl,G4,by omega,by omega,by omega⟩⟩
          ·exact wpS_pure ⟨hg.set _,_,_,_,_,_,_,rfl,G4,by omega,by omega,by omega⟩
end
end Ts
namespace Ts
open PySem PyProof.Rows
set_option autoImplicit false
def wb (sa:Nat)(m ar:Array Keyed):Array Keyed:=m.toList.zipIdx.foldl (fun a (p,j)=>a.setIfInBounds (sa+j) p) ar
theorem wbL:∀ (l:List Keyed) (n sa:Nat) (ar:Array Keyed),sa+n+l.length≤ar.size →
  ((l.zipIdx n).foldl (fun a (p,j)=>a.setIfInBounds (sa+j) p) ar).toList=ar.toList.take (sa+n)++l++ar.toList.drop (sa+n+l.length)
 | [],n,sa,ar,h=>by simp
 | x::l,n,sa,ar,h=>by
  rw[List.zipIdx_cons,List.foldl_cons];have hs:sa+n<ar.size:=by rw[List.length_cons] at h;omega
  have hl:(ar.setIfInBounds (sa+n) x).size=ar.size:=by simp
  have ih:=wbL l (n+1) sa (ar.setIfInBounds (sa+n) x) (by rw[hl];rw[List.length_cons] at h;omega);refine ih.trans ?_;rw[Array.toList_setIfInBounds,List.length_cons];have e1:(ar.toList.set (sa+n) x).take (sa+(n+1))=ar.toList.take (sa+n)++[x]:=by
   rw[show sa+(n+1)=(sa+n)+1 by omega,List.take_add_one,List.take_set_of_le (Nat.le_refl _),List.getElem?_set_self (by simpa using hs)];rfl
  have e2:(ar.toList.set (sa+n) x).drop (sa+(n+1)+l.length)=ar.toList.drop (sa+n+(l.length+1)):=by
   rw[List.drop_set_of_lt (by omega)];congr 1;omega
  rw[e1,e2];simp
theorem wb_toList {sa:Nat}{m ar:Array Keyed}(h:sa+m.size≤ar.size):(wb sa m ar).toList=ar.toList.take sa++m.toList++ar.toList.drop (sa+m.size):=by
 have:=wbL m.toList 0 sa ar (by simpa using h);rw[Nat.add_zero,Array.length_toList] at this;exact this
theorem wb_get {sa:Nat}{m ar:Array Keyed}(h:sa+m.size≤ar.size)(k:Nat):(wb sa m ar)[k]?=if sa≤k∧k<sa+m.size then m[k-sa]? else ar[k]?:=by
 have hl1:(ar.toList.take sa).length=sa:=by simp;omega
 have hl2:(ar.toList.take sa++m.toList).length=sa+m.size:=by rw[List.length_append,hl1];simp
 rw[← Array.getElem?_toList,wb_toList h,← Array.getElem?_toList (xs:=m),← Array.getElem?_toList (xs:=ar)];by_cases h1:k<sa
 ·rw[if_neg (by omega),List.getElem?_append_left (by rw[hl2];omega),List.getElem?_append_left (by rw[hl1];exact h1),List.getElem?_take_of_lt h1]
 ·by_cases h2:k<sa+m.size
  ·rw[if_pos ⟨by omega,h2⟩,List.getElem?_append_left (by rw[hl2];exact h2),List.getElem?_append_right (by rw[hl1];omega),hl1]
  ·rw[if_neg (by omega),List.getElem?_append_right (by rw[hl2];omega),hl2,List.getElem?_drop];congr 1;omega
theorem split3 {ar:Array Keyed}{i j:Nat}(hij:i≤j)(hj:j≤ar.size):ar.toList=ar.toList.take i++(ar.extract i j).toList++ar.toList.drop j:=by
 rw[Array.toList_extract,List.extract_eq_take_drop];conv=>lhs;rw[← List.take_append_drop i ar.toList,← List.take_append_drop (j-i) (ar.toList.drop i)]
 rw[List.append_assoc,List.drop_drop];congr 3;omega
theorem ext_split {ar:Array Keyed}{i j k:Nat}(hij:i≤j)(hjk:j≤k)(hk:k≤ar.size):(ar.extract i j).toList++(ar.extract j k).toList=(ar.extract i k).toList:=by
 rw[← Array.toList_append,Array.extract_append_extract,Nat.min_eq_left hij,Nat.max_eq_right hjk]
theorem wb_perm {sa e:Nat}{m ar:Array Keyed}(hs:m.size=e-sa)(hse:sa≤e)(he:e≤ar.size)(hp:m.toList.Perm (ar.extract sa e).toList):(wb sa m ar).Perm ar:=by
 rw[Array.perm_iff_toList_perm,wb_toList (by omega)];conv=>rhs;rw[split3 hse he]
 rw[show sa+m.size=e by omega];exact (hp.append_left _).append_right _
theorem el_extract {ar:Array Keyed}{i j k:Nat}(h:i+k<j)(hj:j≤ar.size):el (ar.extract i j) k=el ar (i+k):=by
 apply el_congr;rw[Array.getElem?_extract];rw[if_pos (by omega)]
section
variable {M:Model}{A:Around}{E:Value→Shared→Prop}{s:Shared}{a₀:Array Keyed}{knd:SortKind}{O:KeyOrd}{key:Keyed→O.α}
theorem wpS_set {f:SortSt}{st:SortSt}{Q:PUnit→SortSt→Prop}(h:Q ⟨⟩ f):wpS M A E s (set f:StateT SortSt Sem PUnit) Q st:=by
 unfold wpS;rw[StateT.run_set];exact wpAny_pure ⟨rfl,h⟩
theorem pend_arr (p1 p2:List (Nat×Nat×Nat))(x y z:Nat×Nat×Nat):((p1++x::y::p2).toArray.setIfInBounds p1.length z).eraseIdxIfInBounds (p1.length+1)=(p1++z::p2).toArray:=by
 apply Array.ext';rw[Array.eraseIdxIfInBounds_eq];simp[List.set_append_right,List.eraseIdx_append_of_length_le]
theorem wpS_mAt {st:SortSt}{p1 p2:List (Nat×Nat×Nat)}{sa na pw sb nb pw2:Nat}{Q:Bool→SortSt→Prop}(C:Cmp M A E s knd O key a₀)(hB:SB a₀ knd st)
  (hp:pendingOf st=(p1++(sa,na,pw)::(sb,nb,pw2)::p2).toArray) (hsb:sb=sa+na) (hna:1≤na) (hnb:1≤nb) (hsz:sb+nb≤a₀.size)
  (sA:Seg key (arrOf st) sa (sa+na)) (sB:Seg key (arrOf st) sb (sb+nb))
  (h:∀ st',SB a₀ knd st'→pendingOf st'=(p1++(sa,na+nb,pw)::p2).toArray→Seg key (arrOf st') sa (sa+na+nb)→(∀ k,k<sa∨sa+na+nb≤k→(arrOf st')[k]?=(arrOf st)[k]?)→Q true st') :
  wpS M A E s (mergeAt' p1.length) Q st:=by
 rw[mAt_eq];refine wpS_bind (wpS_get ?_);have hP:pendingOf st=(p1++(sa,na,pw)::(sb,nb,pw2)::p2).toArray:=hp;have g1:(pendingOf st)[p1.length]?=some (sa,na,pw):=by rw[hP];simp
 have g2:(pendingOf st)[p1.length+1]?=some (sb,nb,pw2):=by rw[hP];simp
 have hZ:(arrOf st).size=a₀.size:=hB.size;dsimp only;rw[g1,g2];dsimp only;refine wpS_bind (wpS_set ?_);rw[hP,pend_arr];refine wpS_bind (wpS_elem (by omega) ?_);refine wpS_bind (wpS_galR C (by exact hB.kind) (hB.mem (by omega)) (fun i hi=>hB.mem (by omega)) (by omega) sA (by omega) fun k hk hle hgt=>?_);dsimp only;have hB1:SB a₀ knd (SortSt.mk' (kindOf st) (arrOf st) ((p1++(sa,na+nb,pw)::p2).toArray) (gallopOf st) (failedOf st)):=⟨hB.perm,hB.kind,hB.failed⟩
 by_cases c1:na-k=0
 ·rw[if_pos (by simpa using c1)];refine wpS_pure (h _ hB1 rfl (fun i j h1 h2 h3=>?_) fun k hk=>rfl);show O.kle (KA key (arrOf st) i) (KA key (arrOf st) j);by_cases hj:j<sb
  ·exact sA i j h1 h2 (by omega)
  ·by_cases hi:i<sb
   ·exact KeyOrd.kle_trans (hle i h1 (by omega)) (sB sb j (by omega) (by omega) (by omega))
   ·exact sB i j (by omega) h2 (by omega)
 rw[if_neg (by simpa using c1)];refine wpS_bind (wpS_elem (by omega) ?_);refine wpS_bind (wpS_galL C (by exact hB.kind) (hB.mem (by omega)) (fun i hi=>hB.mem (by omega)) (by omega) sB (by omega) fun n hn hlt hge=>?_);dsimp only;have eL:sa+k+(na-k)-1=sb-1:=by omega
 rw[eL] at hlt hge;by_cases c2:n=0
 ·rw[if_pos (by simpa using c2)];refine wpS_pure (h _ hB1 rfl (fun i j h1 h2 h3=>?_) fun k hk=>rfl);show O.kle (KA key (arrOf st) i) (KA key (arrOf st) j);by_cases hj:j<sb
  ·exact sA i j h1 h2 (by omega)
  ·by_cases hi:i<sb
   ·exact KeyOrd.kle_trans (sA i (sb-1) h1 (by omega) (by omega)) (hge j (by omega) (by omega))
   ·exact sB i j (by omega) h2 (by omega)
 rw[if_neg (by simpa using c2)];have zx:((arrOf st).extract (sa+k) sb).size=sb-(sa+k):=by rw[Array.size_extract];omega
 have zy:((arrOf st).extract sb (sb+n)).size=n:=by rw[Array.size_extract];omega
 have ex:∀ q,q<sb-(sa+k)→el ((arrOf st).extract (sa+k) sb) q=el (arrOf st) (sa+k+q):=fun q hq=>el_extract (by omega) (by omega)
 have ey:∀ q,q<n→el ((arrOf st).extract sb (sb+n)) q=el (arrOf st) (sb+q):=fun q hq=>el_extract (by omega) (by omega)
 have mx:∀ q,q<((arrOf st).extract (sa+k) sb).size→el ((arrOf st).extract (sa+k) sb) q∈a₀.toList:=fun q hq=>by rw[ex q (by omega)];exact hB.mem (by omega)
 have my:∀ q,q<((arrOf st).extract sb (sb+n)).size→el ((arrOf st).extract sb (sb+n)) q∈a₀.toList:=fun q hq=>by rw[ey q (by omega)];exact hB.mem (by omega)
 have gx:Seg key ((arrOf st).extract (sa+k) sb) 0 ((arrOf st).extract (sa+k) sb).size:=fun i j h1 h2 h3=>by
  unfold KA;rw[ex i (by omega),ex j (by omega)];exact sA _ _ (by omega) (by omega) (by omega)
 have gy:Seg key ((arrOf st).extract sb (sb+n)) 0 ((arrOf st).extract sb (sb+n)).size:=fun i j h1 h2 h3=>by
  unfold KA;rw[ey i (by omega),ey j (by omega)];exact sB _ _ (by omega) (by omega) (by omega)
 have h00:∀ q,q<((arrOf st).extract (sa+k) sb).size→le key (el ((arrOf st).extract sb (sb+n)) 0) (el ((arrOf st).extract (sa+k) sb) q):=fun q hq=>by
  rw[ex q (by omega),ey 0 (by omega)];exact KeyOrd.kle_of_klt (hgt _ (by omega) (by omega))
 have hll:∀ q,q<((arrOf st).extract sb (sb+n)).size→le key (el ((arrOf st).extract sb (sb+n)) q) (el ((arrOf st).extract (sa+k) sb) (((arrOf st).extract (sa+k) sb).size-1)):=fun q hq=>by
  rw[ey q (by omega),ex _ (by omega),show sa+k+(((arrOf st).extract (sa+k) sb).size-1)=sb-1 by omega];exact KeyOrd.kle_of_klt (hlt _ (by omega) (by omega))
 have fin:∀ (m:Array Keyed) (st':SortSt),Res key ((arrOf st).extract (sa+k) sb) ((arrOf st).extract sb (sb+n)) m →
   Sg (SortSt.mk' (kindOf st) (arrOf st) ((p1++(sa,na+nb,pw)::p2).toArray) (gallopOf st) (failedOf st)) st' →
   wpS M A E s (do
    modify fun s=>setArr s (m.toList.zipIdx.foldl (fun a (p,j)=>a.setIfInBounds (sa+k+j) p) (arrOf s))
    return (failedOf (← get)).isNone) Q st':=by
  rintro m st' ⟨hm,hpw⟩ ⟨g,rfl⟩;rw[ext_split (by omega) (by omega) (by omega)] at hm;have zm:m.size=sb+n-(sa+k):=by
   have:=hm.length_eq;rw[Array.length_toList,Array.length_toList,Array.size_extract] at this;omega
  refine wpS_bind (wpS_modify ?_);refine wpS_bind (wpS_get ?_);have hf:failedOf st=none:=hB.failed;show wpS M A E s (pure (failedOf st).isNone) Q (setArr _ (wb (sa+k) m (arrOf st)));rw[hf];have hpm:(wb (sa+k) m (arrOf st)).Perm (arrOf st):=wb_perm zm (by omega) (by omega) hm;refine wpS_pure (h _ ⟨hpm.trans hB.perm,hB.kind,rfl⟩ rfl ?_ fun q hq=>?_)
  ·have sm:=seg_of_pw hpw;have em:∀ q,q<m.size→∃ r,sa+k≤r∧r<sb+n∧el m q=el (arrOf st) r:=fun q hq=>by
    have h1:=hm.mem_iff.mp (el_mem hq);obtain⟨r,hr⟩:=List.mem_iff_getElem?.mp h1;rw[Array.getElem?_toList] at hr;have hr':r<((arrOf st).extract (sa+k) (sb+n)).size:=by
     rcases Nat.lt_or_ge r ((arrOf st).extract (sa+k) (sb+n)).size with h | h
     ·exact h
     ·rw[Array.getElem?_eq_none h] at hr;cases hr
    rw[el_some hr'] at hr;rw[Array.size_extract] at hr';refine⟨sa+k+r,by omega,by omega,?_⟩;rw[← Option.some.inj hr,el_extract (by omega) (by omega)]
   have kin:∀ q,sa+k≤q→q<sb+n→el (wb (sa+k) m (arrOf st)) q=el m (q-(sa+k)):=fun q h1 h2=>by
    apply el_congr;rw[wb_get (by omega),if_pos (by omega)]
   have kout:∀ q,q<sa+k∨sb+n≤q→el (wb (sa+k) m (arrOf st)) q=el (arrOf st) q:=fun q h1=>by
    apply el_congr;rw[wb_get (by omega),if_neg (by omega)]
   show Seg key (wb (sa+k) m (arrOf st)) sa (sa+na+nb);have lowmid:∀ i r,sa≤i→i<sa+k→sa+k≤r→r<sb+n→O.kle (KA key (arrOf st) i) (KA key (arrOf st) r):=fun i r h1 h2 h3 h4=>by
    by_cases hr:r<sb
    ·exact sA i r h1 (by omega) (by omega)
    ·exact KeyOrd.kle_trans (hle i h1 h2) (sB sb r (by omega) (by omega) (by omega))
   have midend:∀ r j,sa+k≤r→r<sb+n→sb+n≤j→j<sb+nb→O.kle (KA key (arrOf st) r) (KA key (arrOf st) j):=fun r j h1 h2 h3 h4=>by
    by_cases hr:r<sb
    ·exact KeyOrd.kle_trans (sA r (sb-1) (by omega) (by omega) (by omega)) (hge j (by omega) (by omega))
    ·exact sB r j (by omega) (by omega) (by omega)
   intro i j h1 h2 h3;unfold KA;by_cases i1:i<sa+k
   ·rw[kout i (.inl i1)];by_cases j1:j<sa+k
    ·rw[kout j (.inl j1)];exact sA i j h1 h2 (by omega)
    ·by_cases j2:j<sb+n
     ·rw[kin j (by omega) j2];obtain⟨r,r1,r2,e⟩:=em (j-(sa+k)) (by omega);rw[e];exact lowmid i r h1 i1 r1 r2
     ·rw[kout j (.inr (by omega))];exact KeyOrd.kle_trans (lowmid i sb h1 i1 (by omega) (by omega)) (sB sb j (by omega) (by omega) (by omega))
   ·by_cases i2:i<sb+n
    ·rw[kin i (by omega) i2];by_cases j2:j<sb+n
     ·rw[kin j (by omega) j2];exact sm _ _ (by omega) (by omega) (by omega)
     ·rw[kout j (.inr (by omega))];obtain⟨r,r1,r2,e⟩:=em (i-(sa+k)) (by omega);rw[e];exact midend r j r1 r2 (by omega) (by omega)
    ·rw[kout i (.inr (by omega)),kout j (.inr (by omega))];exact sB i j (by omega) h2 (by omega)
  ·show (wb (sa+k) m (arrOf st))[q]?=_;rw[wb_get (by omega),if_neg (by omega)]
 by_cases c3:na-k≤n
 ·rw[if_pos c3];exact wpS_bind (wpS_mLo C (by exact hB.kind) mx my gx gy (by omega) (by omega) h00 hll fin)
 ·rw[if_neg c3];exact wpS_bind (wpS_mHi C (by exact hB.kind) mx my gx gy (by omega) (by omega) h00 hll fin)
end
end Ts
namespace Ts
open PySem PyProof.Rows
set_option autoImplicit false
section
variable {M:Model}{A:Around}{E:Value→Shared→Prop}{s:Shared}{a₀:Array Keyed}{knd:SortKind}{O:KeyOrd}{key:Keyed→O.α}
def Rn {O:KeyOrd}(key:Keyed→O.α)(xs:Array Keyed):Nat→List (Nat×Nat×Nat)→Nat→Prop
 | s,[],e=>s=e
 | s,x::r,e=>x.1=s∧1≤x.2.1∧Seg key xs s (s+x.2.1)∧Rn key xs (s+x.2.1) r e
theorem Rn.le {xs:Array Keyed}:∀ {p:List (Nat×Nat×Nat)} {s e:Nat},Rn key xs s p e→s+p.length≤e
 | [],s,e,h=>by cases h;simp
 | x::r,s,e,h=>by
  have:=Rn.le h.2.2.2;have:=h.2.1;rw[List.length_cons];omega
theorem Rn.congr {xs ys:Array Keyed}:∀ {p:List (Nat×Nat×Nat)} {s e:Nat},Rn key xs s p e→(∀ k,s≤k→k<e→ys[k]?=xs[k]?)→Rn key ys s p e
 | [],s,e,h,_=>h
 | x::r,s,e,h,k=>⟨h.1,h.2.1,h.2.2.1.congr (fun i a b=>KA_congr (k i a (by have:=Rn.le h.2.2.2;omega))),Rn.congr h.2.2.2 fun i a b=>k i (by omega) b⟩
theorem Rn.app {xs:Array Keyed}:∀ {p q:List (Nat×Nat×Nat)} {s e:Nat},Rn key xs s (p++q) e→∃ m,Rn key xs s p m∧Rn key xs m q e
 | [],q,s,e,h=>⟨s,rfl,h⟩
 | x::r,q,s,e,h=>by
  obtain⟨m,h1,h2⟩:=Rn.app h.2.2.2;exact⟨m,⟨h.1,h.2.1,h.2.2.1,h1⟩,h2⟩
theorem Rn.cat {xs:Array Keyed}:∀ {p q:List (Nat×Nat×Nat)} {s m e:Nat},Rn key xs s p m→Rn key xs m q e→Rn key xs s (p++q) e
 | [],q,s,m,e,h,k=>by cases h;exact k
 | x::r,q,s,m,e,h,k=>⟨h.1,h.2.1,h.2.2.1,Rn.cat h.2.2.2 k⟩
structure RB {O:KeyOrd}(key:Keyed→O.α)(a₀:Array Keyed)(knd:SortKind)(lo:Nat)(p:List (Nat×Nat×Nat))(st:SortSt):Prop where
 sb:SB a₀ knd st
 pd:pendingOf st=p.toArray
 rn:Rn key (arrOf st) 0 p lo
 hl:lo≤a₀.size
theorem wpS_mRB {st:SortSt}{lo:Nat}{p1 p2:List (Nat×Nat×Nat)}{x y:Nat×Nat×Nat}{Q:Bool→SortSt→Prop}(C:Cmp M A E s knd O key a₀)(hB:RB key a₀ knd lo (p1++x::y::p2) st)
  (h:∀ st',RB key a₀ knd lo (p1++(x.1,x.2.1+y.2.1,x.2.2)::p2) st'→(∀ k,lo≤k→(arrOf st')[k]?=(arrOf st)[k]?)→Q true st'):wpS M A E s (mergeAt' p1.length) Q st:=by
 obtain⟨sa,na,pw⟩:=x;obtain⟨sb,nb,pw2⟩:=y;obtain⟨m,r1,r2⟩:=hB.rn.app;obtain⟨e1,n1,g1,e2,n2,g2,r3⟩:=r2;dsimp only at e1 n1 g1 e2 n2 g2 r3;subst e1;have hle:=r3.le;have hl1:=r1.le;have hlo:=hB.hl;refine wpS_mAt C hB.sb hB.pd e2 n1 n2 (by omega) g1 (by rw[e2];exact g2) fun st' b1 b2 b3 b4=>h st' ⟨b1,b2,?_,hB.hl⟩ fun k hk=>b4 k (by omega)
 refine (r1.congr fun k _ hk=>b4 k (.inl hk)).cat ⟨rfl,by dsimp only;omega,?_,?_⟩
 ·dsimp only;rw[← Nat.add_assoc];exact b3
 ·dsimp only;rw[← Nat.add_assoc];exact r3.congr fun k hk _=>b4 k (.inr hk)
theorem split_at2 {p:List (Nat×Nat×Nat)}{n:Nat}(h:n+1<p.length):∃ p1 x y p2,p=p1++x::y::p2∧p1.length=n:=by
 refine⟨p.take n,p[n],p[n+1],p.drop (n+2),?_,by simp;omega⟩;conv=>lhs;rw[← List.take_append_drop n p]
 congr 1;rw[List.drop_eq_getElem_cons (by omega),List.drop_eq_getElem_cons (by omega)]
theorem Rn.modify {xs:Array Keyed}{f:Nat×Nat×Nat→Nat×Nat×Nat}(h1:∀ x,(f x).1=x.1)(h2:∀ x,(f x).2.1=x.2.1):∀ {p:List (Nat×Nat×Nat)} {i s e:Nat},Rn key xs s p e→Rn key xs s (p.modify i f) e
 | [],i,s,e,h=>by cases i<;>exact h
 | x::r,0,s,e,h=>by
  rw[List.modify_zero_cons];unfold Rn at h ⊢;rw[h1,h2];exact h
 | x::r,i+1,s,e,h=>by
  rw[List.modify_succ_cons];exact⟨h.1,h.2.1,h.2.2.1,Rn.modify h1 h2 h.2.2.2⟩
theorem RB.power {st:SortSt}{lo:Nat}{p:List (Nat×Nat×Nat)}{f:Nat×Nat×Nat→Nat×Nat×Nat}(hR:RB key a₀ knd lo p st)(h1:∀ x,(f x).1=x.1)(h2:∀ x,(f x).2.1=x.2.1) :
  RB key a₀ knd lo (p.modify (p.length-1) f) (setPending st ((pendingOf st).modify ((pendingOf st).size-1) f)) :=
 ⟨⟨hR.sb.perm,hR.sb.kind,hR.sb.failed⟩,by show (pendingOf st).modify ((pendingOf st).size-1) f=_;rw[hR.pd,List.modify_toArray];simp,hR.rn.modify h1 h2,hR.hl⟩
theorem RB.push {st:SortSt}{lo n:Nat}{p:List (Nat×Nat×Nat)}(hR:RB key a₀ knd lo p st)(h1:1≤n)(h2:lo+n≤a₀.size)(hs:Seg key (arrOf st) lo (lo+n)) :
  RB key a₀ knd (lo+n) (p++[(lo,n,0)]) (setPending st ((pendingOf st).push (lo,n,0))) :=
 ⟨⟨hR.sb.perm,hR.sb.kind,hR.sb.failed⟩,by show (pendingOf st).push _=_;rw[hR.pd,List.push_toArray],hR.rn.cat ⟨rfl,h1,hs,rfl⟩,h2⟩
theorem wpS_sR {st:SortSt}{Q:Unit→SortSt→Prop}(C:Cmp M A E s knd O key a₀)(hB:SB a₀ knd st)(hp:pendingOf st=#[])(h2:2≤a₀.size)
  (h:∀ st',SB a₀ knd st'→Seg key (arrOf st') 0 a₀.size→Q () st'):wpS M A E s sortRuns' Q st:=by
 rw[sortRuns'_eq];refine wpS_bind (wpS_get ?_);dsimp only;simp only[hB.size];generalize minRun' a₀.size a₀.size 0=mr
 refine wpS_bind (wpS_mono (wpS_forRange
  (I:=fun x c st'=>∃ lo p,c=(none,lo)∧RB key a₀ knd lo p st'∧x≤lo)
  (Q:=fun c st'=>∃ p,c=(none,a₀.size)∧RB key a₀ knd a₀.size p st') ?step ?fin ⟨0,[],rfl,⟨hB,hp,rfl,by omega⟩,by omega⟩) ?post)
 case fin =>
  rintro c st' ⟨lo,p,rfl,hR,hx⟩;have:lo=a₀.size:=by have:=hR.hl;omega
  subst this;exact⟨p,rfl,hR⟩
 case post =>
  rintro c st' ⟨p,rfl,hR⟩;dsimp only
  refine wpS_bind (wpS_mono (wpS_forRange (I:=fun x c st'=>c=(none,())∧∃ p,RB key a₀ knd a₀.size p st'∧(p.length≤1∨p.length+x≤a₀.size))
   (Q:=fun c st'=>c=(none,())∧∃ p,RB key a₀ knd a₀.size p st'∧p.length≤1) ?_ ?_ ⟨rfl,p,hR,.inr (by have:=hR.rn.le;omega)⟩) ?_)
  ·rintro x c st3 _ hx ⟨rfl,p,hR3,hlen⟩;refine wpS_bind (wpS_get ?_);have hsz:(pendingOf st3).size=p.length:=by rw[hR3.pd];simp
   by_cases hz:(pendingOf st3).size≤1
   ·rw[if_pos hz];exact wpS_pure ⟨rfl,p,hR3,by omega⟩
   ·rw[if_neg hz];have key1:∀ n,n+1<p.length→wpS M A E s (mergeAt' n) (fun b st'=>b=true∧∃ p',RB key a₀ knd a₀.size p' st'∧p'.length+1=p.length) st3:=by
     intro n hn;obtain⟨p1,xx,yy,p2,rfl,rfl⟩:=split_at2 hn;exact wpS_mRB C hR3 fun st4 hR4 _=>⟨rfl,_,hR4,by simp;omega⟩
    refine wpS_bind (wpS_mono (key1 _ ?_) ?_)
    ·have hh:∀ (c:Prop) [Decidable c],(if c then p.length-2-1 else p.length-2)+1<p.length:=fun c _=>by split<;>omega
     rw[hsz];exact hh _
    ·rintro b st4 ⟨rfl,p',hR4,hl4⟩;simp only[Bool.not_true,Bool.false_eq_true,if_false];exact wpS_pure ⟨rfl,p',hR4,by omega⟩
  ·rintro c st3 ⟨rfl,p,hR3,hlen⟩;exact⟨rfl,p,hR3,by omega⟩
  ·rintro c st3 ⟨rfl,p,hR3,hlen⟩;refine wpS_pure (h st3 hR3.sb ?_);have hrn:=hR3.rn
   match p,hlen,hrn with
   | [],_,hrn=>exact absurd hrn (by show ¬ (0=a₀.size);omega)
   | [x],_,hrn =>
    obtain⟨_,_,g,e⟩:=hrn;have e:0+x.2.1=a₀.size:=e;rw[e] at g;exact g
   | _::_::_,hlen,_=>simp at hlen
 case step =>
  rintro x c st1 _ hx ⟨lo,p,rfl,hR,hxl⟩;dsimp only;by_cases hlo:lo≥a₀.size
  ·rw[if_pos hlo];have:lo=a₀.size:=by have:=hR.hl;omega
   subst this;exact wpS_pure ⟨p,rfl,hR⟩
  rw[if_neg hlo];refine wpS_bind (wpS_cR C (by omega) (by omega) hR.sb fun found st2 hB2 hF2 hm1 hm2 hs2=>?_);dsimp only;have hR2:RB key a₀ knd lo p st2:=⟨hB2,hF2.pend.trans hR.pd,hR.rn.congr fun k _ hk=>hF2.low k hk,hR.hl⟩
  by_cases hmin:found<mr
  ·rw[if_pos hmin];refine wpS_bind (wpS_rule ?_);refine wpS_bind (wpS_bS C (by omega) (by omega) hB2 hs2 fun st3 hB3 hF3 hs3=>?_);simp only[Bool.not_true,Bool.false_eq_true,if_false];have hR3:RB key a₀ knd lo p st3:=⟨hB3,hF3.pend.trans hR2.pd,hR2.rn.congr fun k _ hk=>hF3.low k hk,hR.hl⟩
   have hn1:1≤min (a₀.size-lo) mr:=by omega
   have hn2:lo+min (a₀.size-lo) mr≤a₀.size:=by omega
   have hseg:=hs3;refine wpS_bind (wpS_get ?_);cases hbk:(pendingOf st3).back? with
   | none =>
    dsimp only;refine wpS_bind (wpS_modify ?_);exact wpS_pure ⟨_,_,rfl,hR3.push hn1 hn2 hseg,by omega⟩
   | some t =>
    obtain⟨s1,n1,q⟩:=t;dsimp only
    refine wpS_bind (wpS_mono (wpS_forRange (I:=fun y c st'=>c=(none,())∧∃ p,RB key a₀ knd lo p st'∧∀ k,lo≤k→(arrOf st')[k]?=(arrOf st3)[k]?)
     (Q:=fun c st'=>c=(none,())∧∃ p,RB key a₀ knd lo p st'∧∀ k,lo≤k→(arrOf st')[k]?=(arrOf st3)[k]?) ?_ (fun c st' z=>z) ⟨rfl,p,hR3,fun _ _=>rfl⟩) ?_)
    ·rintro y c stt _ hy ⟨rfl,p,hR3,hk3⟩;refine wpS_bind (wpS_get ?_);by_cases hz:(pendingOf stt).size>1
     ·rw[if_pos hz];have hz':p.length-2+1<p.length:=by rw[hR3.pd] at hz;simp at hz;omega
      obtain⟨p1,xx,yy,p2,rfl,hl⟩:=split_at2 hz';have e1:(pendingOf stt).size-2=p1.length:=by rw[hR3.pd,hl];simp
      rw[e1];have e2:(pendingOf stt)[p1.length]?=some xx:=by rw[hR3.pd];simp
      rw[e2];obtain⟨x1,x2,x3⟩:=xx;dsimp only;split
      ·exact wpS_pure ⟨rfl,_,hR3,hk3⟩
      ·refine wpS_bind (wpS_mRB C hR3 fun st4 hR4 hk4=>?_);simp only[Bool.not_true,Bool.false_eq_true,if_false];exact wpS_pure ⟨rfl,_,hR4,fun k hk=>(hk4 k hk).trans (hk3 k hk)⟩
     ·rw[if_neg hz];exact wpS_pure ⟨rfl,p,hR3,hk3⟩
    ·rintro c stt ⟨rfl,p,hR3,hk3⟩;dsimp only;refine wpS_bind (wpS_modify ?_);refine wpS_bind (wpS_modify ?_);have hR5:=hR3.power (f:=fun x=>(x.fst,x.snd.fst,power' a₀.size (2*s1+n1) (2*s1+n1+n1+min (a₀.size-lo) mr) a₀.size)) (fun _=>rfl) (fun _=>rfl);exact wpS_pure ⟨_,_,rfl,hR5.push hn1 hn2 (hseg.congr fun k h1 _=>KA_congr (hk3 k h1)),by omega⟩
  ·rw[if_neg hmin];have hn1:1≤found:=hm1;have hn2:lo+found≤a₀.size:=by omega
   have hseg:=hs2;refine wpS_bind (wpS_get ?_);cases hbk:(pendingOf st2).back? with
   | none =>
    dsimp only;refine wpS_bind (wpS_modify ?_);exact wpS_pure ⟨_,_,rfl,hR2.push hn1 hn2 hseg,by omega⟩
   | some t =>
    obtain⟨s1,n1,q⟩:=t;dsimp only
    refine wpS_bind (wpS_mono (wpS_forRange (I:=fun y c st'=>c=(none,())∧∃ p,RB key a₀ knd lo p st'∧∀ k,lo≤k→(arrOf st')[k]?=(arrOf st2)[k]?)
     (Q:=fun c st'=>c=(none,())∧∃ p,RB key a₀ knd lo p st'∧∀ k,lo≤k→(arrOf st')[k]?=(arrOf st2)[k]?) ?_ (fun c st' z=>z) ⟨rfl,p,hR2,fun _ _=>rfl⟩) ?_)
    ·rintro y c stt _ hy ⟨rfl,p,hR3,hk3⟩;refine wpS_bind (wpS_get ?_);by_cases hz:(pendingOf stt).size>1
     ·rw[if_pos hz];have hz':p.length-2+1<p.length:=by rw[hR3.pd] at hz;simp at hz;omega
      obtain⟨p1,xx,yy,p2,rfl,hl⟩:=split_at2 hz';have e1:(pendingOf stt).size-2=p1.length:=by rw[hR3.pd,hl];simp
      rw[e1];have e2:(pendingOf stt)[p1.length]?=some xx:=by rw[hR3.pd];simp
      rw[e2];obtain⟨x1,x2,x3⟩:=xx;dsimp only;split
      ·exact wpS_pure ⟨rfl,_,hR3,hk3⟩
      ·refine wpS_bind (wpS_mRB C hR3 fun st4 hR4 hk4=>?_);simp only[Bool.not_true,Bool.false_eq_true,if_false];exact wpS_pure ⟨rfl,_,hR4,fun k hk=>(hk4 k hk).trans (hk3 k hk)⟩
     ·rw[if_neg hz];exact wpS_pure ⟨rfl,p,hR3,hk3⟩
    ·rintro c stt ⟨rfl,p,hR3,hk3⟩;dsimp only;refine wpS_bind (wpS_modify ?_);refine wpS_bind (wpS_modify ?_);have hR5:=hR3.power (f:=fun x=>(x.fst,x.snd.fst,power' a₀.size (2*s1+n1) (2*s1+n1+n1+found) a₀.size)) (fun _=>rfl) (fun _=>rfl);exact wpS_pure ⟨_,_,rfl,hR5.push hn1 hn2 (hseg.congr fun k h1 _=>KA_congr (hk3 k h1)),by omega⟩
end
end Ts
end
section
set_option Elab.async false
set_option linter.all false
set_option maxRecDepth 100000
namespace L2
open PySem PySem.Spec PyProof.Rows
def clo (env:Env):List (Str×NameKind)→List (Str×Addr)→List (Str×Addr)
 | [],cs=>cs
 | y::r,cs=>clo env r (if y.2 == NameKind.free then (y.1,(env.cells.lookup y.1).getD 0)::cs else cs)
theorem clo_eq {env:Env}:∀ (names:List (Str×NameKind)) (cs:List (Str×Addr)),(∀ y∈names,y.2=.free→∃ c,env.cells.lookup y.1=some c) →
  (forIn names cs fun (x:Str×NameKind) (r:List (Str×Addr))=>(if (x.2 == NameKind.free)=true then do
   let c ← cellOf env x.1
   pure (ForInStep.yield ((x.1,c)::r)) else pure (ForInStep.yield r):Sem (ForInStep (List (Str×Addr)))))=pure (clo env names cs)
 | [],cs,_=>by rw[List.forIn_nil];rfl
 | y::r,cs,h=>by
  rw[List.forIn_cons];unfold clo;have hr:=clo_eq r (if y.2 == NameKind.free then (y.1,(env.cells.lookup y.1).getD 0)::cs else cs) fun z hz=>h z (List.mem_cons_of_mem _ hz)
  by_cases e:(y.2 == NameKind.free)=true
  ·obtain⟨c,hc⟩:=h y List.mem_cons_self (by simpa using e);have ec:cellOf env y.1=pure c:=by unfold cellOf;rw[hc]
   rw[if_pos e] at hr ⊢;rw[if_pos e,ec];rw[hc] at hr ⊢;exact hr
  ·rw[if_neg e] at hr ⊢;rw[if_neg e];exact hr
theorem closure_clo {env:Env}{scope:Scope}(h:∀ y∈scope.names,y.2=.free→∃ c,env.cells.lookup y.1=some c):closureFor scope env=pure (clo env scope.names []):=by
 have e:=clo_eq scope.names [] h;unfold closureFor;refine Eq.trans ?_ (congrArg (fun t=>t >>= fun cs=>(pure cs:Sem (List (Str×Addr)))) e);rfl
theorem lookup_cons' {β:Type}(x n:Str)(c:β)(r:List (Str×β)):List.lookup x ((n,c)::r)=if x=n then some c else List.lookup x r:=by
 rw[List.lookup_cons];by_cases e:x=n
 ·have hb:(x == n)=true:=beq_iff_eq.mpr e;rw[if_pos e];simp[hb]
 ·have hb:(x == n)=false:=beq_eq_false_iff_ne.mpr e;rw[if_neg e];simp[hb]
theorem clo_lookup {env:Env}(x:Str):∀ (names:List (Str×NameKind)) (cs:List (Str×Addr)),
  (clo env names cs).lookup x=if (names.any fun y=>decide (y.1=x) && (y.2 == NameKind.free))=true then some ((env.cells.lookup x).getD 0) else cs.lookup x
 | [],cs=>by simp[clo]
 | y::r,cs=>by
  unfold clo;rw[clo_lookup x r,List.any_cons];by_cases e:(y.2 == NameKind.free)=true
  ·rw[if_pos e,lookup_cons'];by_cases ex:y.1=x
   ·rw[decide_eq_true ex,e,if_pos ex.symm,ex];simp
   ·rw[decide_eq_false ex,if_neg (show ¬ x=y.1 from fun z=>ex z.symm),Bool.false_and,Bool.false_or]
  ·have e':(y.2 == NameKind.free)=false:=by simpa using e
   rw[if_neg e,e'];simp
def compOk (sc osc:Scope):Bool :=
 (match sc.kind with | .function=>true | _=>false) &&
  sc.names.all fun y=>match y.2 with
   | .cell=>false
   | .local=>(match sc.names.lookup y.1 with | some .local=>true | _=>false)
   | .free=>(match osc.names.lookup y.1 with | some .cell=>true | some .free=>true | _=>false)
   | _=>true
structure CompOk (sc osc:Scope):Prop where
 kind:sc.kind=.function
 noCell:∀ y∈sc.names,y.2≠.cell
 loc:∀ y∈sc.names,y.2=.local→sc.names.lookup y.1=some .local
 free:∀ y∈sc.names,y.2=.free→osc.names.lookup y.1=some .cell∨osc.names.lookup y.1=some .free
theorem compOk_of {sc osc:Scope}(h:compOk sc osc=true):CompOk sc osc:=by
 unfold compOk at h;rw[Bool.and_eq_true,List.all_eq_true] at h;obtain⟨h1,h2⟩:=h;refine⟨?_,fun y hy e=>?_,fun y hy e=>?_,fun y hy e=>?_⟩
 ·cases e:sc.kind with
  | function=>rfl
  | _=>rw[e] at h1;cases h1
 ·have:=h2 y hy;rw[e] at this;cases this
 ·have:=h2 y hy;rw[e] at this;dsimp only at this;split at this
  ·assumption
  ·cases this
 ·have:=h2 y hy;rw[e] at this;dsimp only at this;split at this
  ·left;assumption
  ·right;assumption
  ·cases this
def cxC (X:Cx)(scope:Scope)(N':List Str)(pins:List (Addr×Obj))(fp:List Addr)(s:Shared)(H:Hp):Cx where
 prog:=X.prog
 w:=X.w
 K:=X.K
 mg:=X.mg
 base:=X.base
 A:=X.A
 N:=N'
 s₀:=s
 H₀:=H
 env:=compEnvC scope (clo X.env scope.names []) s.heap.objs.size X.env
 outer:=X.stack
 stack:=X.stack
 ex:=fp
 fn:=fun _=>false
 calm:=true
 pn:=X.pn++pins
 xe:=fun _ _=>False
section
variable {X:Cx}{scope:Scope}{own:List Str}{fr:List (Str×Nat)}{fp:List Addr}{pins:List (Addr×Obj)}{σ:St}{H:Hp}{s:Shared}
def st0 (own:List Str)(fr:List (Str×Nat))(σ:St):St:=own.map (fun _=>Option.none)++fr.map fun p=>(σ[p.2]?).join
def frOk (X:Cx)(scope:Scope)(fr:List (Str×Nat)):Prop:=∀ p∈fr,X.N[p.2]?=some p.1∧scope.names.lookup p.1=some .free
theorem frOk_nil:frOk X scope []:=fun _ h=>nomatch h
theorem frOk_cons {p:Str×Nat}{r:List (Str×Nat)}(h1:X.N[p.2]?=some p.1)(h2:scope.names.lookup p.1=some .free)(h:frOk X scope r):frOk X scope (p::r):=fun q hq=>by
 rcases List.mem_cons.mp hq with rfl | hq
 ·exact⟨h1,h2⟩
 ·exact h q hq
theorem lookup_mem' {β:Type}{x:Str}{k:β}:∀ {l:List (Str×β)},l.lookup x=some k→(x,k)∈l
 | [],h=>by cases h
 | (n,c)::r,h=>by
  rw[lookup_cons'] at h;by_cases e:x=n
  ·rw[if_pos e] at h;cases h;rw[e];exact List.mem_cons_self
  ·rw[if_neg e] at h;exact List.mem_cons_of_mem _ (lookup_mem' h)
theorem relabel_lookup {env:Env}{x:Str}:∀ {names:List (Str×NameKind)} {k:NameKind},
  (names.map fun (y:Str×NameKind)=>if (y.2 == NameKind.free && env.scope.kind == .function && env.kindOf y.1 == some .cell) then (y.1,NameKind.cell) else (y.1,y.2)).lookup x=some k →
  ∃ k',names.lookup x=some k'∧(k=k'∨(k'=.free∧k=.cell))
 | [],k,h=>by cases h
 | (n,c)::r,k,h=>by
  rw[List.map_cons] at h;rw[lookup_cons'];by_cases e:x=n
  ·rw[if_pos e];refine⟨c,rfl,?_⟩;by_cases q:(c == NameKind.free && env.scope.kind == .function && env.kindOf n == some .cell)=true
   ·have hh:(if (((n,c):Str×NameKind).2 == NameKind.free && env.scope.kind == .function && env.kindOf ((n,c):Str×NameKind).1 == some .cell)=true then (((n,c):Str×NameKind).1,NameKind.cell) else (((n,c):Str×NameKind).1,((n,c):Str×NameKind).2))=(n,NameKind.cell):=if_pos q;rw[hh,lookup_cons',if_pos e] at h;cases h;refine .inr ⟨?_,rfl⟩;simp only[Bool.and_eq_true] at q;simpa using q.1.1
   ·have hh:(if (((n,c):Str×NameKind).2 == NameKind.free && env.scope.kind == .function && env.kindOf ((n,c):Str×NameKind).1 == some .cell)=true then (((n,c):Str×NameKind).1,NameKind.cell) else (((n,c):Str×NameKind).1,((n,c):Str×NameKind).2))=(n,c):=if_neg q;rw[hh,lookup_cons',if_pos e] at h;cases h;exact .inl rfl
  ·rw[if_neg e];have h':(r.map fun (y:Str×NameKind)=>if (y.2 == NameKind.free && env.scope.kind == .function && env.kindOf y.1 == some .cell) then (y.1,NameKind.cell) else (y.1,y.2)).lookup x=some k:=by
    by_cases q:(c == NameKind.free && env.scope.kind == .function && env.kindOf n == some .cell)=true
    ·have hh:(if (((n,c):Str×NameKind).2 == NameKind.free && env.scope.kind == .function && env.kindOf ((n,c):Str×NameKind).1 == some .cell)=true then (((n,c):Str×NameKind).1,NameKind.cell) else (((n,c):Str×NameKind).1,((n,c):Str×NameKind).2))=(n,NameKind.cell):=if_pos q;rw[hh,lookup_cons',if_neg e] at h;exact h
    ·have hh:(if (((n,c):Str×NameKind).2 == NameKind.free && env.scope.kind == .function && env.kindOf ((n,c):Str×NameKind).1 == some .cell)=true then (((n,c):Str×NameKind).1,NameKind.cell) else (((n,c):Str×NameKind).1,((n,c):Str×NameKind).2))=(n,c):=if_neg q;rw[hh,lookup_cons',if_neg e] at h;exact h
   exact relabel_lookup h'
theorem relabel_free {env:Env}{x:Str}:∀ {names:List (Str×NameKind)},names.lookup x=some .free →
  (names.map fun (y:Str×NameKind)=>if (y.2 == NameKind.free && env.scope.kind == .function && env.kindOf y.1 == some .cell) then (y.1,NameKind.cell) else (y.1,y.2)).lookup x=some .cell ∨
  (names.map fun (y:Str×NameKind)=>if (y.2 == NameKind.free && env.scope.kind == .function && env.kindOf y.1 == some .cell) then (y.1,NameKind.cell) else (y.1,y.2)).lookup x=some .free
 | [],h=>by cases h
 | (n,c)::r,h=>by
  rw[lookup_cons'] at h;rw[List.map_cons];have red:∀ b:Bool,(if b=true then (n,NameKind.cell) else (n,c))=(n,if b=true then NameKind.cell else c):=fun b=>by cases b<;>rfl
  have hh:(if (((n,c):Str×NameKind).2 == NameKind.free && env.scope.kind == .function && env.kindOf ((n,c):Str×NameKind).1 == some .cell)=true then (((n,c):Str×NameKind).1,NameKind.cell) else (((n,c):Str×NameKind).1,((n,c):Str×NameKind).2))=(n,if (c == NameKind.free && env.scope.kind == .function && env.kindOf n == some .cell)=true then NameKind.cell else c):=red _;rw[hh,lookup_cons'];by_cases e:x=n
  ·rw[if_pos e] at h ⊢;cases h;generalize (NameKind.free == NameKind.free && env.scope.kind == .function && env.kindOf n == some .cell)=b;cases b
   ·right;rfl
   ·left;rfl
  ·rw[if_neg e] at h ⊢;exact relabel_free h
theorem inv_comp (I:Inv X pins σ H s)(hc:CompOk scope X.env.scope)(hcalm:X.calm=true)(hf:∀ b∈fp,FpOk X pins H b)(hlt:∀ b∈fp,b<s.heap.objs.size)(hfr:frOk X scope fr){h1:Heap}{m:Str→Option Value}(hns:h1.Ns s.heap.objs.size m)
  (hsb:∀ b o,s.heap.get? b=some o→h1.get? b=some o):Inv (cxC X scope (own++fr.map (·.1)) pins fp s H) [] (st0 own fr σ) H {s with heap:=h1}:=by
 have clX:∀ x c,(clo X.env scope.names []).lookup x=some c→X.env.cells.lookup x=some c:=fun x c e=>by
  rw[clo_lookup] at e;split at e
  ·rename_i q;obtain⟨y,hy,hq⟩:=List.any_eq_true.mp q;rw[Bool.and_eq_true] at hq;have e1:y.1=x:=of_decide_eq_true hq.1;have e2:y.2=.free:=by simpa using hq.2
   obtain⟨c',hc'⟩:=I.ok.has x (by
    have:=hc.free y hy e2;rw[e1] at this
    exact this)
   rw[hc'] at e ⊢;exact e
  ·cases e
 have hlen:∀ b∈frs X.stack,b≠s.heap.objs.size∧b∈X.env.locals::X.fs:=fun b hb=>by
  have hm:=I.stkSub b hb;refine⟨fun z=>?_,hm⟩;rcases List.mem_cons.mp hm with q | q
  ·have:=I.lt;rw[← q,z] at this;exact Nat.lt_irrefl _ this
  ·exact I.nofs (Nat.le_of_eq z.symm) q
 have ok:(cxC X scope (own++fr.map (·.1)) pins fp s H).Ok :=
  {mod:=I.ok.mod
   kind:=hc.kind
   glob:=I.ok.glob
   blt:=I.ok.blt
   above:=Nat.le_refl _
   inj:=fun x y c hx hy=>I.ok.inj x y c (clX x c hx) (clX y c hy)
   has:=fun x hx=>by
    have hx:(relabel scope X.env).names.lookup x=some .cell∨(relabel scope X.env).names.lookup x=some .free:=hx;have key:scope.names.lookup x=some .free:=by
     rcases hx with hx | hx
     ·obtain⟨k',e1,e2⟩:=relabel_lookup hx;rcases e2 with e2 | ⟨e2,_⟩
      ·subst e2;exact absurd rfl (hc.noCell (x,.cell) (lookup_mem' e1))
      ·subst e2;exact e1
     ·obtain⟨k',e1,e2⟩:=relabel_lookup hx;rcases e2 with e2 | ⟨e2,e3⟩
      ·subst e2;exact e1
      ·cases e3
    have hm:=lookup_mem' key;refine⟨(X.env.cells.lookup x).getD 0,?_⟩;show (clo X.env scope.names []).lookup x=_;rw[clo_lookup,if_pos (List.any_eq_true.mpr ⟨(x,.free),hm,by simp⟩)]
   cab:=fun x c h=>nomatch h
   hd:=fun _=>I.ok.hd hcalm
   frames:=I.ok.frames
   stk:=.inl rfl
   exf:=fun b hb=>⟨Nat.ne_of_lt (hlt b hb),fun x c e=>(hf b hb).2.2.2.2.1 x c (clX x c e)⟩
   bs:=I.bs
   bsz:=Nat.le_trans I.ok.bsz I.sz
   noex:=fun b o e hb=>by
    rcases (hf b hb).2.2.2.1 with q | q
    ·exact I.ok.noex b o e q
    ·have h1:b<X.base.objs.size:=Heap.lt_size e;have h2:=I.ok.bsz;exact absurd (Nat.lt_of_lt_of_le h1 h2) (Nat.not_lt.mpr q)
   exfs:=fun b hb hm=>by
    have hm:=I.stkSub b hm;rcases List.mem_cons.mp hm with q | q
    ·exact (hf b hb).2.1 q
    ·exact (hf b hb).2.2.1 q
   funs:=I.stack
   frf:=I.stkFree}
 refine⟨ok,rfl,I.bare,Un.kept hsb,⟨m,hns,fun i x v hx hv hvis=>?_⟩,fun x c e=>?_,I.fresh,fun x c e=>I.freeC x c (clX x c e),fun p hp=>?_,I.hok.kept hsb,?_⟩
 ·-- the names
  have hi:own.length≤i:=by
   rcases Nat.lt_or_ge i own.length with h | h
   ·unfold st0 at hv;rw[List.getElem?_append_left (by simpa using h),List.getElem?_map] at hv;cases e:own[i]? with
    | none=>rw[e] at hv;cases hv
    | some z=>rw[e] at hv;cases hv
   ·exact h
  have hx:(own++fr.map (·.1))[i]?=some x:=hx;unfold st0 at hv;rw[List.getElem?_append_right (by simpa using hi),List.getElem?_map] at hv;rw[List.getElem?_append_right hi,List.getElem?_map] at hx;rw[List.length_map] at hv;cases e:fr[i-own.length]? with
  | none=>rw[e] at hx;cases hx
  | some p =>
   rw[e] at hx hv;have ex:p.1=x:=Option.some.inj hx;have ev:(σ[p.2]?).join=some v:=Option.some.inj hv;obtain⟨hN,hfree⟩:=hfr p (List.mem_iff_getElem?.mpr ⟨_,e⟩);rw[ex] at hN hfree;have hk:=hc.free (x,.free) (lookup_mem' hfree) rfl;have hσ:σ[p.2]?=some (some v):=by
    cases q:σ[p.2]? with
    | none=>rw[q] at ev;cases ev
    | some o=>rw[q] at ev;exact congrArg some ev
   obtain⟨mX,nX,lX⟩:=I.loc;obtain⟨u,ru,look⟩:=lX p.2 x v hN hσ (.inr hk);refine⟨u,ru,.inr ⟨relabel_free hfree,?_⟩⟩;rcases look with ⟨k1,_⟩ | ⟨_,c,hcc,hcell⟩
   ·exfalso;have k1:X.env.scope.names.lookup x=some .local:=k1;rcases hk with q | q<;>(rw[k1] at q;cases q)
   ·refine⟨c,?_,?_⟩
    ·show (clo X.env scope.names []).lookup x=_;rw[clo_lookup,if_pos (List.any_eq_true.mpr ⟨(x,.free),lookup_mem' hfree,by simp⟩),hcc];rfl
    ·exact hcell.keeps hsb
 ·obtain⟨v,hv⟩:=I.cell x c (clX x c e);exact⟨v,hv.keeps hsb⟩
 ·have hp:p∈X.pn++pins:=by
   rcases List.mem_append.mp hp with q | q
   ·exact q
   ·cases q
  obtain⟨a1,a2,a3,a4,a5⟩:=I.pin p hp;refine⟨hsb _ _ a1,a2,Nat.ne_of_lt (Heap.lt_size a1),fun hm=>?_,a5⟩;have hm:=I.stkSub _ hm;rcases List.mem_cons.mp hm with q | q
  ·exact a3 q
  ·exact a4 q
 ·show (st0 own fr σ).length=(own++fr.map (·.1)).length;unfold st0;rw[List.length_append,List.length_append,List.length_map,List.length_map,List.length_map]
end
end L2
namespace L2
open PySem PySem.Spec PyProof.Rows
def PTs (X:Cx)(ifs:List Expr)(t:TT):Prop :=
 ∀ (pins:List (Addr×Obj)) (s:Shared) (σ:St) (H:Hp) (Q:Bool→Hp→Prop),Inv X pins σ H s→t σ H Q →
  wpAny (model X.prog X.w) X.A (forIn ifs true fun c r=>if r=true then do let ok ← isTrue c X.env (eval c X.env);pure (ForInStep.yield ok) else pure (ForInStep.yield r)) (TP X pins σ Q) X.xe s
def tYes:TT:=fun _ H Q=>Q true H
theorem pts_nil {X:Cx}:PTs X [] tYes:=fun pins s σ H Q I h=>wpAny_tests_nil ⟨H,I,h⟩
theorem pts_one {X:Cx}{c:Expr}{t:TT}(h:PT X c t):PTs X [c] t:=fun pins s σ H Q I q=>wpAny_tests_one (h pins s σ H Q I q)
theorem lcomp_loop {prog:Program}{w:World}{A:Around}{R:Result→Shared→Prop}{s:Shared}{elt target iter:Expr}{ifs:List Expr}{scope:Scope}{pos:Pos}{it acc:Value}{env:Env}(I:Nat→Shared→Prop)
  (turn:∀ n s,I n s→wpAny (model prog w) A (pyNext it) (fun r s₁=>match r with
   | none=>R (.ok .next) s₁
   | some v=>wpAny (model prog w) A (letOwnedTupleGo target it v) (fun _ s₁=>wpAny (model prog w) A (assign target env v) (fun _ s₂ =>
     wpAny (model prog w) A (forIn ifs true fun c r=>if r=true then do let ok ← isTrue c env (eval c env);pure (ForInStep.yield ok) else pure (ForInStep.yield r)) (fun ok s₃ =>
      if ok=true then wpAny (model prog w) A (eval elt env) (fun x s₄ =>
       wpAny (model prog w) A (call (.builtin "list.append") [acc,x]) (fun _ s₅=>∃ m,m<n∧I m s₅) (fun _ _=>False) s₄) (fun _ _=>False) s₃
      else ∃ m,m<n∧I m s₃) (fun _ _=>False) s₂) (fun _ _=>False) s₁) (fun _ _=>False) s₁) (fun _ _=>False) s)
  (n:Nat) (h:I n s):codeAny (model prog w) A (.compLoop (.ListComp elt [⟨target,iter,ifs,0⟩] scope pos) 0 it acc env) R s:=by
 refine codeAny_loop rfl I (fun n s hI=>?_) n h;show wpAny _ A ((compTurn (.ListComp elt [⟨target,iter,ifs,0⟩] scope pos) 0 it acc env).onRaise (fun x=>do noteFrame x env;theTreesLotGoes x)) _ _ s;refine wpAny_noted ?_;rw[compTurn_list];refine wpAny_bind (wpAny_standAt (wpAny_bind (wpAny_mono (turn n s hI) (fun r s₁ h₁=>?_) fun _ _ h'=>h'.elim)));cases r with
 | none=>exact wpAny_pure h₁
 | some v =>
  refine wpAny_bind (wpAny_mono h₁ (fun _ s₁ h₁=>?_) fun _ _ h'=>h'.elim);refine wpAny_bind (wpAny_mono h₁ (fun _ s₂ h₂=>wpAny_bind (wpAny_mono h₂ (fun ok s₃ h₃=>?_) fun _ _ h'=>h'.elim)) fun _ _ h'=>h'.elim);cases ok with
  | false=>exact wpAny_pure ⟨rfl,h₃⟩
  | true =>
   exact wpAny_bind (wpAny_bind (wpAny_mono h₃ (fun x s₄ h₄=>wpAny_bind (wpAny_mono h₄ (fun _ s₅ h₅=>wpAny_pure (wpAny_pure ⟨rfl,h₅⟩)) fun _ _ h'=>h'.elim)) fun _ _ h'=>h'.elim))
def lcW (g:TG)(tc:TT)(te:TE)(p:Addr)(J:It)(τ0:St)(H0:Hp)(E:Hp→Prop):Prop :=
 ∃ W:Nat→Nat→St→Hp→Prop,(∃ m,W 0 m τ0 H0)∧∀ i m τ H,W i m τ H →
  (J.stop i H∧E H)∨(J.go i H∧∃ N:St→Hp→Prop,(∀ τ' H',N τ' H'→∃ m',m'<m∧W (i+1) m' τ' H') ∧
   ∀ x H',J.yld i H x H'→g x τ H' fun τ2 H2=>tc τ2 H2 fun b H3=>if b=true then te τ2 H3 fun v H4=>∃ ys,H4 p=some (.lst ys)∧ys.length<sizeLine∧N τ2 (upd H4 p (.lst (ys++[v]))) else N τ2 H3)
def tLC (own:List Str)(fr:List (Str×Nat))(wi:TI)(g:TG)(tc:TT)(te:TE):TE:=fun σ H Q =>
 wi σ H fun J H1=>∀ p,H1 p=none→lcW g tc te p J (st0 own fr σ) (upd H1 p (.lst [])) fun H2=>Q (.ref p) H2
section
variable {X:Cx}{elt tg iter:Expr}{ifs:List Expr}{scope:Scope}{pos:Pos}{own:List Str}{fr:List (Str×Nat)}{wi:TI}{g:TG}{tc:TT}{te:TE}
structure Blk (X:Cx)(scope:Scope)(N':List Str)(tg:Expr)(ifs:List Expr)(elt:Expr)(g:TG)(tc:TT)(te:TE):Prop where
 run:∀ pins fp s H,PG (cxC X scope N' pins fp s H) tg g∧PTs (cxC X scope N' pins fp s H) ifs tc∧PE (cxC X scope N' pins fp s H) elt te
structure CFree (X:Cx)(pins:List (Addr×Obj))(H:Hp)(C:Addr):Prop where
 un:H C=none
 loc:C≠X.env.locals
 new:X.s₀.heap.objs.size≤C
 cel:∀ x c,X.env.cells.lookup x=some c→c≠C
 pin:∀ p∈X.pn++pins,p.1≠C
theorem CFree.inv {pins:List (Addr×Obj)}{σ:St}{H:Hp}{s:Shared}{C:Addr}{h':Heap}(f:CFree X pins H C)(I:Inv X pins σ H s)(hs:Heap.SameBut C s.heap h'):Inv X pins σ H {s with heap:=h'} :=
 I.turned (t':=s.toks) (fun b o hb e=>hs.extBut b o hb e) f.un f.loc (.inr f.new) f.cel f.pin
theorem lcomp_run {pins:List (Addr×Obj)}{σ:St}{H2:Hp}{s2:Shared}{it:Addr}{fp:List Addr}{tn:Nat→Heap→Prop}{J:It}{EE:Hp→Prop}{RR:Value→Addr→Result→Shared→Prop}{E:Value→Shared→Prop}
  (hcalm:X.calm=true) (hc:CompOk scope X.env.scope) (hfr:frOk X scope fr) (B:Blk X scope (own++fr.map (·.1)) tg ifs elt g tc te)
  (I2:Inv X pins σ H2 s2) (T:Turn X.prog X.w X.K tg J fp it tn) (st2:tn 0 s2.heap) (f2:∀ b∈fp,FpOk X pins H2 b)
  (hw:lcW g tc te s2.heap.objs.size J (st0 own fr σ) (upd H2 s2.heap.objs.size (.lst [])) EE)
  (hRR:∀ C H' s' m,EE H'→s'.heap.Ns C m→Inv X pins σ H' s'→CFree X pins H' C→RR (.ref s2.heap.objs.size) C (.ok .next) s') :
  wpAny (model X.prog X.w) X.A (newList []) (fun acc s₃=>wpAny (model X.prog X.w) X.A (newFunctionEnv scope X.env.globals (clo X.env scope.names []) [] X.env.qual none .none (some X.env)) (fun cenv s₄ =>
   codeAny (model X.prog X.w) X.A (.compStart (.ListComp elt [⟨tg,iter,ifs,0⟩] scope pos) 0 (.ref it) acc {cenv with scope:=relabel scope X.env}) (RR acc cenv.locals) s₄) E s₃) E s2:=by
 have I3:Inv X pins σ (upd H2 s2.heap.objs.size (.lst [])) {s2 with heap:=s2.heap.push {cls:=.type "list",data:=.seq ([]:List Value).toArray},toks:=s2.toks}:=I2.lnew (ys:=[]) (its:=[]) (t':=s2.toks) .nil (Nat.zero_le _);generalize hs3:({s2 with heap:=s2.heap.push {cls:=.type "list",data:=.seq ([]:List Value).toArray},toks:=s2.toks}:Shared)=s3 at I3;have hsz3:s3.heap.objs.size=s2.heap.objs.size+1:=by rw[← hs3];exact Heap.size_push ..
 have k3:∀ b o,s2.heap.get? b=some o→s3.heap.get? b=some o:=fun b o e=>by rw[← hs3];exact Heap.get?_push_of_some _ e
 have hlt:∀ b∈fp,b<s2.heap.objs.size:=fun b hb=>let ⟨o,e,_⟩:=T.obj _ _ st2 b hb;Heap.lt_size e
 have f3:∀ b∈fp,FpOk X pins (upd H2 s2.heap.objs.size (.lst [])) b:=fun b hb=>⟨by rw[upd_ne (Nat.ne_of_lt (hlt b hb))];exact (f2 b hb).1,(f2 b hb).2⟩
 have st3:tn 0 s3.heap:=T.keep _ _ _ st2 fun b _ o e=>k3 b o e
 refine wpAny_newObj_type ?_;have e3:({s2 with heap:=s2.heap.push {cls:=.type "list",dict:=none,data:=.seq ([]:List Value).toArray}}:Shared)=s3:=hs3;rw[e3];refine wpAny_newFunctionEnv hc.noCell (by intro y hy;cases hy) (fun h₁ hns₁ hsb₁=>?_) hc.kind;have k4:∀ b o,s3.heap.get? b=some o→h₁.get? b=some o:=fun b o e=>hsb₁.extBut b o (Nat.ne_of_lt (Heap.lt_size e)) (Heap.get?_push_of_some _ e)
 have I4:=inv_comp (own:=own) I3 hc hcalm f3 (fun b hb=>Nat.lt_of_lt_of_le (hlt b hb) (by rw[hsz3];exact Nat.le_succ _)) hfr hns₁ k4;obtain⟨bg,bt,be⟩:=B.run pins fp s3 (upd H2 s2.heap.objs.size (.lst []));generalize hX':cxC X scope (own++fr.map (·.1)) pins fp s3 (upd H2 s2.heap.objs.size (.lst []))=X' at I4 bg bt be;have eP:X'.prog=X.prog:=by rw[← hX'];rfl
 have eW:X'.w=X.w:=by rw[← hX'];rfl
 have eK:X'.K=X.K:=by rw[← hX'];rfl
 have eA:X'.A=X.A:=by rw[← hX'];rfl
 have eC:X'.calm=true:=by rw[← hX'];rfl
 have eX:X'.xe=fun _ _=>False:=by rw[← hX'];rfl
 have eE:X'.env=compEnvC scope (clo X.env scope.names []) s3.heap.objs.size X.env:=by rw[← hX'];rfl
 have fC:∀ {H':Hp},(∀ b∈fp,H' b=none)→∀ b∈fp,FpOk X' [] H' b:=fun hn b hb=>by
  have hb':=f3 b hb;refine⟨hn b hb,?_,?_,?_,?_,?_⟩
  ·exact (I4.ok.exf b (by rw[← hX'];exact hb)).1
  ·exact I4.ok.exfs b (by rw[← hX'];exact hb)
  ·left;rw[← hX'];exact hb
  ·exact (I4.ok.exf b (by rw[← hX'];exact hb)).2
  ·intro p hp;have hp:p∈X.pn++pins:=by
    rw[← hX'] at hp;rcases List.mem_append.mp hp with q | q
    ·exact q
    ·cases q
   exact hb'.2.2.2.2.2 p hp
 obtain⟨W,⟨m0,w0⟩,turn⟩:=hw;have cenvE:({(newEnv scope s3.heap.objs.size X.env.globals (clo X.env scope.names []) X.env.qual none .none (some X.env) builtinsNs) with scope:=relabel scope X.env}:Env)=X'.env:=by rw[eE];rfl
 have loop:∀ s4:Shared,Inv X' [] (st0 own fr σ) (upd H2 s2.heap.objs.size (.lst [])) s4→tn 0 s4.heap →
   codeAny (model X.prog X.w) X.A (.compLoop (.ListComp elt [⟨tg,iter,ifs,0⟩] scope pos) 0 (.ref it) (.ref s2.heap.objs.size) X'.env) (RR (.ref s2.heap.objs.size) s3.heap.objs.size) s4:=by
  intro s4 J4 t4;refine lcomp_loop (fun n s'=>∃ i τ H',Inv X' [] τ H' s'∧tn i s'.heap∧(∀ b∈fp,H' b=none)∧W i n τ H') ?_ m0 ⟨0,_,_,J4,t4,fun b hb=>(f3 b hb).1,w0⟩;rintro n s5 ⟨i,τ5,H5,I5,t5,fr5,w5⟩;rcases turn i n τ5 H5 w5 with ⟨stop,qn⟩ | ⟨go,N,hN,step⟩
  ·have hd:=T.done X' eP eW eK eC i [] s5 τ5 H5 (fun _ _=>False) I5 (fC fr5) t5 stop;rw[eA] at hd;refine thn hd fun r s6 ⟨hr,I6⟩=>?_
   subst hr;have hbase:Un (frs X.stack) fp (upd H2 s2.heap.objs.size (.lst [])) H5 s3.heap s6.heap:=by have:=I6.base;rw[← hX'] at this;exact this
   have hok6:HOk X.prog X.w H5 s6.heap:=by have:=I6.hok;rw[eP,eW] at this;exact this
   have os6:s6.os=s3.os:=by have:=I6.os;rw[← hX'] at this;exact this
   obtain⟨m6,n6,_⟩:=I6.loc;have n6:s6.heap.Ns s3.heap.objs.size m6:=by rw[eE] at n6;exact n6
   have free6:H5 s3.heap.objs.size=none:=by have:=I6.free;rw[eE] at this;exact this
   refine hRR s3.heap.objs.size H5 s6 m6 qn n6 (I3.call' os6 hbase hok6 I6.bare fun b hb=>⟨(f3 b hb).2.2.2.1,(f3 b hb).2.1,(f3 b hb).2.2.2.2.1,(f3 b hb).2.2.2.2.2⟩) ⟨free6,?_,I3.sz,?_,?_⟩
   ·exact (Nat.ne_of_lt I3.lt).symm
   ·intro x c e z;obtain⟨v,hv⟩:=I3.cell x c e;have:=hv.lt;rw[z] at this;exact Nat.lt_irrefl _ this
   ·intro p hp z;have:=Heap.lt_size (I3.pin p hp).1;rw[z] at this;exact Nat.lt_irrefl _ this
  ·have hi:=T.item X' eP eW eK eC i [] s5 τ5 H5 (fun _ _=>False) I5 (fC fr5) t5 go;rw[eA] at hi;refine thn hi fun r s6 ⟨u,hr,h6⟩=>?_
   subst hr;refine thn h6 fun _ s7 ⟨x,H7,I7,r7,y7,t7,fr7⟩=>?_
   have I7':=I7.pinned (fC fr7) (T.obj _ _ t7);have again:∀ {τ:St} {H':Hp} {s':Shared},Inv X' ([]++pinsAt fp s7.heap) τ H' s'→N τ H'→∃ m,m<n∧∃ i τ H',Inv X' [] τ H' s'∧tn i s'.heap∧(∀ b∈fp,H' b=none)∧W i m τ H':=fun {τ H' s'} I8 n8=>by
    obtain⟨m',hm,w8⟩:=hN τ H' n8;refine⟨m',hm,i+1,τ,H',I8.unpinned,T.keep _ _ _ t7 fun b hb o e=>(I8.pin (b,o) (List.mem_append_right _ (List.mem_append_right _ (mem_pinsAt hb e)))).1,fun b hb=>?_,w8⟩;obtain⟨o,e,d⟩:=T.obj _ _ t7 b hb;exact (I8.pin (b,o) (List.mem_append_right _ (List.mem_append_right _ (mem_pinsAt hb e)))).2.1
   have hg:=bg _ s7 τ5 H7 x u _ I7' r7 (step x H7 y7);rw[eP,eW,eA,eX] at hg;refine thn hg fun _ s8 ⟨τ8,H8,I8,q8⟩=>?_
   have ht:=bt _ s8 τ8 H8 _ I8 q8;rw[eP,eW,eA,eX] at ht;refine thn ht fun ok s9 ⟨H9,I9,q9⟩=>?_
   cases ok with
   | false=>exact again I9 q9
   | true =>
    rw[if_pos rfl] at q9 ⊢;have hv:=be _ s9 τ8 H9 _ I9 q9;rw[eP,eW,eA,eX] at hv;refine thn hv fun y s10 ⟨v,H10,I10,r10,ys,hl,hlen,n10⟩=>?_
    have ha:=mt_append (X:=X') _ s10 τ8 H10 (.ref s2.heap.objs.size) [v] (.ref s2.heap.objs.size) [y] (fun _ H'=>N τ8 H') I10 rfl (.cons r10 .nil) ⟨_,_,_,rfl,rfl,hl,hlen,n10⟩;rw[eP,eW,eA,eX] at ha;exact thn ha fun _ s11 ⟨_,H11,I11,_,n11⟩=>again I11 n11
 have st4:tn 0 h₁:=T.keep _ _ _ st3 fun b _ o e=>k4 b o e
 show codeAny (model X.prog X.w) X.A (.compStart (.ListComp elt [⟨tg,iter,ifs,0⟩] scope pos) 0 (.ref it) (.ref s2.heap.objs.size) ({(newEnv scope s3.heap.objs.size X.env.globals (clo X.env scope.names []) X.env.qual none .none (some X.env) builtinsNs) with scope:=relabel scope X.env}:Env)) (RR (.ref s2.heap.objs.size) s3.heap.objs.size) _;rw[cenvE];exact codeAny_compStart_list (loop _ I4 st4) (T.self X.A 0 _ _ _ st4 (loop _ I4 st4))
theorem clo_ok {pins:List (Addr×Obj)}{σ:St}{H:Hp}{s:Shared}(I:Inv X pins σ H s)(hc:CompOk scope X.env.scope):closureFor scope X.env=pure (clo X.env scope.names []) :=
 closure_clo fun y hy e=>I.ok.has y.1 (hc.free y hy e)
theorem pe_lcomp (hcalm:X.calm=true)(hc:compOk scope X.env.scope=true)(hfr:frOk X scope fr)(hi:PI X tg iter wi)(B:Blk X scope (own++fr.map (·.1)) tg ifs elt g tc te)
  (hs:∀ x,foldedSetIterable iter X.env x=pure x:=by intro _;rfl):PE X (.ListComp elt [⟨tg,iter,ifs,0⟩] scope pos) (tLC own fr wi g tc te):=by
 intro pins s σ H Q I h;have hc:=compOk_of hc;rw[eval_ListComp];refine wpAny_comprehension_free (use:=none) rfl hs (clo_ok I hc) hc.kind hc.loc (thn (hi pins s σ H _ I h) fun v s1 h1=>thn h1 fun itv s2 h2=>?_);obtain⟨it,fp,tn,J,H2,e,I2,T,st2,f2,hw⟩:=h2;subst e;refine lcomp_run (RR:=fun acc C=>compPost (model X.prog X.w) X.A X.xe none (EP X pins σ Q) acc C) hcalm hc hfr B I2 T st2 f2 (hw _ I2.fresh) ?_;intro C H' s' m q n I' f;exact⟨m,n,fun h' hs'=>⟨.ref s2.heap.objs.size,H',f.inv I' hs',rfl,q⟩⟩
theorem ps_setLC {i:Nat}{x:Str}{px spos:Pos}(hcalm:X.calm=true)(hN:X.N.Nodup)(hx:X.N[i]?=some x)(hl:X.env.scope.names.lookup x=some .local)(hsw:swapsWith (.ListComp elt [⟨tg,iter,ifs,0⟩] scope pos) (some (.Name x px)) spos.line X.env=pure true)
  (hc:compOk scope X.env.scope=true) (hfr:frOk X scope fr) (hi:PI X tg iter wi) (B:Blk X scope (own++fr.map (·.1)) tg ifs elt g tc te)
  (hs:∀ x,foldedSetIterable iter X.env x=pure x:=by intro _;rfl):PS X (.Assign [.Name x px] (.ListComp elt [⟨tg,iter,ifs,0⟩] scope pos) spos) (tAsg (tLC own fr wi g tc te) (gName i)):=by
 intro pins s σ H D I h;have hc:=compOk_of hc;rw[exec_Assign_Name_used _ _ _ _ hsw];refine wpAny_bind (wpAny_standAt (wpAny_bind ?_));show wpAny _ X.A (do let _ ← comprehension (.ListComp elt [⟨tg,iter,ifs,0⟩] scope pos) scope X.env _ (newList []) false (eval iter X.env) (some (assign (.Name x px) X.env))) _ _ s
 refine wpAny_bind (wpAny_mono (wpAny_comprehension_free (use:=some (assign (.Name x px) X.env)) (Q:=fun _ s'=>SP X pins D .next s') rfl hs (clo_ok I hc) hc.kind hc.loc
  (thn (hi pins s σ H _ I h) fun v s1 h1=>thn h1 fun itv s2 h2=>?_)) (fun _ s' hq=>wpAny_pure (wpAny_pure hq)) fun _ _ e=>e)
 obtain⟨it,fp,tn,J,H2,e,I2,T,st2,f2,hw⟩:=h2;subst e;refine lcomp_run (RR:=fun acc C=>compPost (model X.prog X.w) X.A X.xe (some (assign (.Name x px) X.env)) (fun _ s'=>SP X pins D .next s') acc C) hcalm hc hfr B I2 T st2 f2 (hw _ I2.fresh) ?_;intro C H' s' m q n I' f;show wpAny _ X.A (assign (.Name x px) X.env (.ref s2.heap.objs.size)) _ _ _;refine wpAny_assign_Name (store_ok2 I' hN hx (.inl hl) (v:=.ref s2.heap.objs.size) rfl (fun s'' I'' hch=>?_) (.inr hl));obtain⟨a,sb,ha⟩:=hch;have hCa:C≠a:=by
  rcases ha with ha | ha
  ·rw[ha];exact f.loc
  ·exact fun z=>f.cel x a ha z.symm
 exact⟨m,n.sameBut sb hCa,fun h' hs'=>⟨_,H',f.inv I'' hs',q⟩⟩
end
end L2
namespace L2
open PySem PySem.Spec PyProof.Rows
def dNew:Bool→HO
 | true=>.dT []
 | false=>.dK []
def dcW (g:TG)(tc:TT)(te tv:TE)(p:Addr)(J:It)(τ0:St)(H0:Hp)(E:Hp→Prop):Prop :=
 ∃ W:Nat→Nat→St→Hp→Prop,(∃ m,W 0 m τ0 H0)∧∀ i m τ H,W i m τ H →
  (J.stop i H∧E H)∨(J.go i H∧∃ N:St→Hp→Prop,(∀ τ' H',N τ' H'→∃ m',m'<m∧W (i+1) m' τ' H') ∧
   ∀ x H',J.yld i H x H'→g x τ H' fun τ2 H2=>tc τ2 H2 fun b H3=>if b=true then te τ2 H3 fun k H4=>tv τ2 H4 fun v H5=>∃ H6,DPut H5 p k v H6∧N τ2 H6 else N τ2 H3)
def tDC (t:Bool)(own:List Str)(fr:List (Str×Nat))(wi:TI)(g:TG)(tc:TT)(te tv:TE):TE:=fun σ H Q =>
 wi σ H fun J H1=>∀ p,H1 p=none→dcW g tc te tv p J (st0 own fr σ) (upd H1 p (dNew t)) fun H2=>Q (.ref p) H2
section
variable {X:Cx}{kx vx tg iter:Expr}{ifs:List Expr}{scope:Scope}{pos:Pos}{own:List Str}{fr:List (Str×Nat)}{wi:TI}{g:TG}{tc:TT}{te tv:TE}
end
end L2
end
section
set_option Elab.async false
set_option linter.all false
set_option maxRecDepth 100000
namespace Srt
open PySem PyProof.Rows
section
variable {prog:Program}{w:World}{A:Around}{E:Value→Shared→Prop}{s:Shared}{O:KeyOrd}{key:Value→O.α}{knd:SortKind}
def Asks (prog:Program)(w:World)(A:Around)(O:KeyOrd)(key:Value→O.α)(knd:SortKind)(vs:List Value)(s:Shared):Prop :=
 (2≤vs.length→∀ (E:Value→Shared→Prop) (Q:SortKind→Shared→Prop),Q knd s→wpAny (model prog w) A (keyKind' vs.toArray) Q E s) ∧
 ∀ x∈vs,∀ y∈vs,∀ (E:Value→Shared→Prop) (Q:Bool→Shared→Prop),Q (O.blt (key x) (key y)) s→wpAny (model prog w) A (keyLt' knd x y) Q E s
theorem mem_pairs {vs:List Value}{p:Keyed}(h:p∈(pairsOf vs).toList):p.1∈vs∧p.1=p.2:=by
 rw[pairsOf_toList] at h;obtain⟨i,hi⟩:=List.mem_iff_getElem?.mp h;rw[List.getElem?_zip_eq_some] at hi;refine⟨List.mem_iff_getElem?.mpr ⟨i,hi.1⟩,?_⟩;have:=hi.1.symm.trans hi.2;exact Option.some.inj this
theorem cmp_of {vs:List Value}(h:Asks prog w A O key knd vs s):Ts.Cmp (model prog w) A E s knd O (fun p=>key p.1) (pairsOf vs):=by
 intro p hp q hq st Q hk hQ;rw[lt'_eq];refine wpS_bind (wpS_get ?_);rw[hk];refine wpS_bind (wpS_lift (wpAny_attempt (h.2 p.1 (mem_pairs hp).1 q.1 (mem_pairs hq).1 _ _ ⟨rfl,?_⟩)));exact wpS_pure hQ
theorem out_of {vs:List Value}{xs:Array Keyed}(hp:xs.Perm (pairsOf vs))(hs:Ts.Seg (O:=O) (fun p=>key p.1) xs 0 (pairsOf vs).size) :
  (xs.map (·.2)).toList.Perm vs∧(xs.map (·.2)).toList.Pairwise fun x y=>O.kle (key x) (key y):=by
 have hp':=Array.perm_iff_toList_perm.mp hp;have hsz:xs.size=(pairsOf vs).size:=hp.size_eq;rw[Array.toList_map];refine⟨?_,?_⟩
 ·refine (hp'.map _).trans ?_;rw[pairsOf_toList,show (vs.zip vs).map (·.2)=vs from List.map_snd_zip (Nat.le_refl _)]
 ·rw[List.pairwise_map];rw[← hsz] at hs;refine (Ts.pw_of_seg hs).imp_of_mem fun {a b} ha hb hab=>?_
  have e1:=(mem_pairs (hp'.mem_iff.mp ha)).2;have e2:=(mem_pairs (hp'.mem_iff.mp hb)).2;rw[← e1,← e2];exact hab
theorem list_sort_any {a:Addr}{vs:List Value}{n:Nat}{P:Fin→Shared→Prop}(ho:s.heap.get? a=some (seqObj "list" vs.toArray n))(hz:vs.length≤sizeLine)
  (hA:∀ s':Shared,(∀ b o,b≠a→s.heap.get? b=some o→s'.heap.get? b=some o)→Asks prog w A O key knd vs s')
  (h:∀ out:Array Value,out.toList.Perm vs→(out.toList.Pairwise fun x y=>O.kle (key x) (key y))→P (.done (.ret .none)) {s with heap:=sortedHeap s.heap a vs out}) :
  wpAny (model prog w) A (Builtin.«list.sort» ⟨[.ref a],[]⟩) P E s:=by
 rw[list_sort_plain];have ha:a<s.heap.objs.size:=Heap.lt_size ho;have hsz:vs.toArray.size=vs.length:=by simp
 refine wpAny_bind (listItems_at ho rfl ?_);refine wpAny_bind (listUpdate_at ho rfl ?_ (hsz:=by rw[hsz];exact hz));obtain⟨e1,ho1⟩:∃ e1,(s.heap.update a (Obj.mapSeq fun _=>#[])).get? a=some (seqObj "list" #[] e1):=⟨_,get?_update_seq ho (fun _=>#[])⟩
 refine wpAny_bind (seqEpoch_at ho1 rfl ?_);refine wpAny_bind (wpAny_newTuple ?_ (by simpa using hz));refine wpAny_bind (wpAny_newList ?_);refine wpAny_holding ?_;have ho6:(((s.heap.update a (Obj.mapSeq fun _=>#[])).push (seqObj "tuple" vs.toArray 0)).push (seqObj "list" #[] 0)).get? a=some (seqObj "list" #[] e1):=by
  rw[Heap.get?_push_ne _ _ _ (by rw[size_push',Heap.size_update];exact Nat.ne_of_lt (Nat.lt_succ_of_lt ha)),Heap.get?_push_ne _ _ _ (by rw[Heap.size_update];exact Nat.ne_of_lt ha)];exact ho1
 have keep:∀ b o,b≠a→s.heap.get? b=some o→(((s.heap.update a (Obj.mapSeq fun _=>#[])).push (seqObj "tuple" vs.toArray 0)).push (seqObj "list" #[] 0)).get? b=some o:=fun b o hb e =>
  Heap.get?_push_of_some _ (Heap.get?_push_of_some _ ((Heap.SameBut.update ..).extBut b o hb e))
 show wpAny (model prog w) A _ P E {s with heap:=((s.heap.update a (Obj.mapSeq fun _=>#[])).push (seqObj "tuple" vs.toArray 0)).push (seqObj "list" #[] 0)};dsimp only;have hA':=hA {s with heap:=((s.heap.update a (Obj.mapSeq fun _=>#[])).push (seqObj "tuple" vs.toArray 0)).push (seqObj "list" #[] 0)} keep;by_cases h2:vs.toArray.size<2
 ·rw[if_pos h2,if_pos h2];refine wpAny_bind (wpAny_pure ?_);rw[StateT.run_pure];refine wpAny_bind (wpAny_pure ?_);dsimp only;refine wpAny_bind (seqEpoch_at ho6 rfl ?_);refine wpAny_bind (listUpdate_at ho6 rfl ?_ (hsz2:=by rw[Array.size_map];show (pairsOf vs).size≤_;rw[pairsOf_size];omega));simp only[bne_self_eq_false,Bool.false_eq_true,if_false]
  have o:=out_of (O:=O) (key:=key) (vs:=vs) (Array.Perm.refl _) (fun i j h0 hij hj=>by
   rw[pairsOf_size] at hj;have:i=j:=by omega
   subst this;exact KeyOrd.kle_refl _)
  exact wpAny_pure (h _ o.1 o.2)
 ·rw[if_neg h2,if_neg h2];refine wpAny_bind (hA'.1 (by omega) _ _ ?_)
  refine wpAny_bind (wpAny_mono (Ts.wpS_sR (O:=O) (key:=fun p=>key p.1) (a₀:=pairsOf vs) (knd:=knd) (st:=SortSt.mk' knd (vs.toArray.zip vs.toArray) #[] 7 none)
   (Q:=fun _ st'=>(arrOf st').Perm (pairsOf vs)∧failedOf st'=none∧Ts.Seg (O:=O) (fun p=>key p.1) (arrOf st') 0 (pairsOf vs).size)
   (cmp_of hA') ⟨Array.Perm.refl _,rfl,rfl⟩ rfl (by rw[pairsOf_size];omega) fun st' hB hS=>⟨hB.perm,hB.failed,hS⟩) ?_ fun _ _ e=>e)
  rintro⟨⟨⟩,st'⟩ s' ⟨rfl,hp,hf,hs⟩;dsimp only;refine wpAny_bind (seqEpoch_at ho6 rfl ?_);refine wpAny_bind (listUpdate_at ho6 rfl ?_ (hsz2:=by refine Nat.le_trans (Nat.le_of_eq ((Array.size_map ..).trans (hp.size_eq.trans (pairsOf_size _)))) ?_;omega));rw[hf];simp only[bne_self_eq_false,Bool.false_eq_true,if_false];have o:=out_of hp hs;exact wpAny_pure (h _ o.1 o.2)
def Coll (prog:Program)(w:World)(A:Around)(r:Addr)(s:Shared)(C:List Value→Prop):Prop :=
 ∀ (E:Value→Shared→Prop) (R:List Value→Shared→Prop),(∀ (h':Heap) (tk:Nat) (vs:List Value),(∀ b o,s.heap.get? b=some o→h'.get? b=some o)→C vs→R vs {s with heap:=h',toks:=tk})→wpAny (model prog w) A (collect (.ref r)) R E s
theorem sorted_any {r:Addr}{C:List Value→Prop}{Q:Value→Shared→Prop}(hc:Coll prog w A.in1 r s C)(hz:∀ vs,C vs→vs.length≤sizeLine)
  (hA:∀ (vs:List Value) (s':Shared),C vs→(∀ b o,s.heap.get? b=some o→s'.heap.get? b=some o)→Asks prog w A.in1.in1 O key knd vs s')
  (h:∀ (vs out:List Value) (h1 h':Heap) (tk n:Nat),C vs→out.Perm vs→(out.Pairwise fun x y=>O.kle (key x) (key y))→(∀ b o,s.heap.get? b=some o→h1.get? b=some o)→(∀ b o,h1.get? b=some o→h'.get? b=some o) →
   h'.get? h1.objs.size=some (seqObj "list" out.toArray n)→Q (.ref h1.objs.size) {s with heap:=h',toks:=tk}):wpAny (model prog w) A (call (.builtin "sorted") [.ref r]) Q E s:=by
 refine Calls.call_function_entry kind_sorted plain_sorted entry_sorted (args_sorted1 _) ?_;unfold Builtin.«sorted»;refine wpAny_bind (m:=checkCount "sorted" 1 1 _) (wpAny_pure ?_);refine wpAny_bind (hc _ _ fun h1 tk vs hk hC=>?_);refine wpAny_bind (wpAny_newList ?_ (by simpa using hz vs hC));have hoL:(h1.push (seqObj "list" vs.toArray 0)).get? h1.objs.size=some (seqObj "list" vs.toArray 0):=Heap.get?_push_size _ rfl;refine wpAny_bind (wpAny_holding (wpAny_call_entry slot_list_sort ⟨_,hoL,rfl⟩ entry_list_sort (list_sort_any (O:=O) (key:=key) (knd:=knd) hoL (hz vs hC) (fun s' hs'=>hA vs s' hC fun b o e=>?_) fun out hp hs=>⟨_,rfl,?_⟩) (args_list_sort _)))
 ·exact hs' b o (Nat.ne_of_lt (Heap.lt_size (hk b o e))) (Heap.get?_push_of_some _ (hk b o e))
 ·refine wpAny_pure ⟨_,rfl,?_⟩;obtain⟨n',hn'⟩:∃ n',(sortedHeap (h1.push (seqObj "list" vs.toArray 0)) h1.objs.size vs out).get? h1.objs.size=some (seqObj "list" out n'):=by
   first | exact sortedHeap_at hoL | exact⟨_,sortedHeap_at hoL⟩
  refine h vs out.toList h1 _ tk n' hC hp hs hk (fun b o e=>?_) ?_
  ·have hb:b≠h1.objs.size:=Nat.ne_of_lt (Heap.lt_size e);have hlt:b<(h1.push (seqObj "list" vs.toArray 0)).objs.size:=by rw[size_push'];exact Nat.lt_succ_of_lt (Heap.lt_size e)
   rw[sortedHeap_old hb hlt];exact Heap.get?_push_of_some _ e
  ·rw[Array.toArray_toList];exact hn'
def intOrd:KeyOrd where
 α:=Int
 blt:=fun a b=>decide (a<b)
 irrefl:=fun a=>by simp
 trans:=fun a b c h1 h2=>by simp at *;omega
 negTrans:=fun a b c h=>by simp at *;omega
 total:=fun a b h1 h2=>by simp at *;omega
def intKey:Value→Int
 | .int i _=>i
 | _=>0
theorem lex_irrefl:∀ a:List Int,HT.lexLt a a=false
 | []=>rfl
 | x::r=>by rw[HT.lexLt_cons,if_pos rfl];exact lex_irrefl r
theorem lex_trans:∀ a b c:List Int,HT.lexLt a b=true→HT.lexLt b c=true→HT.lexLt a c=true
 | [],[],_,h,_=>by cases h
 | [],_::_,[],_,h=>by cases h
 | [],_::_,_::_,_,_=>rfl
 | _::_,[],_,h,_=>by cases h
 | _::_,_::_,[],_,h=>by cases h
 | x::a,y::b,z::c,h1,h2=>by
  rw[HT.lexLt_cons] at h1 h2 ⊢;by_cases e1:x=y
  ·rw[if_pos e1] at h1;subst e1;by_cases e2:x=z
   ·rw[if_pos e2] at h2 ⊢;exact lex_trans a b c h1 h2
   ·rw[if_neg e2] at h2 ⊢;exact h2
  ·rw[if_neg e1] at h1;by_cases e2:y=z
   ·rw[if_pos e2] at h2;subst e2;rw[if_neg e1];exact h1
   ·rw[if_neg e2] at h2;simp at h1 h2;rw[if_neg (by omega)];simp;omega
theorem lex_total:∀ a b:List Int,HT.lexLt a b=false→HT.lexLt b a=false→a=b
 | [],[],_,_=>rfl
 | [],_::_,h,_=>by cases h
 | _::_,[],_,h=>by cases h
 | x::a,y::b,h1,h2=>by
  rw[HT.lexLt_cons] at h1 h2;by_cases e:x=y
  ·subst e;rw[if_pos rfl] at h1 h2;rw[lex_total a b h1 h2]
  ·rw[if_neg e] at h1;rw[if_neg (fun z=>e z.symm)] at h2;simp at h1 h2;omega
def lexOrd:KeyOrd where
 α:=List Int
 blt:=HT.lexLt
 irrefl:=lex_irrefl
 trans:=lex_trans
 negTrans:=fun a b c h=>by
  cases h1:HT.lexLt a b with
  | true=>exact .inl rfl
  | false =>
   right;cases h2:HT.lexLt b a with
   | true=>exact lex_trans b a c h2 h
   | false=>rw[← lex_total a b h1 h2];exact h
 total:=lex_total
end
end Srt
namespace Srt
open PySem PyProof.Rows PySem.W
section
variable {prog:Program}{w:World}{A:Around}{E:Value→Shared→Prop}{s:Shared}
def TupInts (h:Heap)(v:Value)(ks:List Int):Prop:=∃ a o items n,v=.ref a∧h.get? a=some o∧o.cls=.type "tuple"∧o.data=.seq items n∧IntsAre items.toList ks∧ks≠[]
theorem TupInts.keep {h h':Heap}{v:Value}{ks:List Int}(t:TupInts h v ks)(k:∀ b o,h.get? b=some o→h'.get? b=some o):TupInts h' v ks :=
 let ⟨a,o,items,n,e,ho,r⟩:=t;⟨a,o,items,n,e,k _ _ ho,r⟩
def tupKey (h:Heap):Value→List Int
 | .ref a=>match h.get? a with
  | some o=>match o.data with
   | .seq items _=>items.toList.map intKey
   | _=>[]
  | none=>[]
 | _=>[]
theorem intKeys_of {us:List Value}{ns:List Int}(h:IntsAre us ns):us.map intKey=ns:=by
 induction h with
 | nil=>rfl
 | cons n t _ ih=>rw[List.map_cons,ih];rfl
theorem tupKey_of {h:Heap}{v:Value}{ks:List Int}(t:TupInts h v ks):tupKey h v=ks:=by
 obtain⟨a,o,items,n,rfl,ho,hc,hd,hi,_⟩:=t;simp only[tupKey,ho,hd];exact intKeys_of hi
theorem katlex_ints {b fin:Bool}{Q:Bool→Shared→Prop}:∀ {us:List Value} {ns:List Int} {ws:List Value} {ms:List Int} (i:Nat),IntsAre us ns→IntsAre ws ms→fin=decide (us.length<ws.length)→Q (HT.lexLt ns ms) s →
  KatLex prog w A b fin Q (us.zip ws) i s
 | _,_,_,_,_,.nil,.nil,hf,hq=>by subst hf;exact hq
 | _,_,_,_,_,.nil,.cons m u h,hf,hq=>by
  subst hf;show Q (decide (0<_)) s;rw[List.length_cons,decide_eq_true (Nat.succ_pos _)];exact hq
 | _,_,_,_,_,.cons m u h,.nil,hf,hq=>by
  subst hf;show Q (decide (_<0)) s;rw[decide_eq_false (Nat.not_lt_zero _)];exact hq
 | _,_,_,_,i,.cons n t h,.cons m u k,hf,hq=>by
  rw[List.zip_cons_cons];refine kat_cons (wpAny_eqBool_int ?_);rw[HT.lexLt_cons] at hq;by_cases e:n=m
  ·rw[if_pos e] at hq;have eb:(n == m)=true:=beq_iff_eq.mpr e;rw[eb];exact kat_yes (katlex_ints (i+1) h k (by rw[hf,List.length_cons,List.length_cons];simp) hq)
  ·rw[if_neg e] at hq;have eb:(n == m)=false:=beq_eq_false_iff_ne.mpr e;rw[eb];refine kat_no ?_;cases hb:(b && i == 0) with
   | true=>exact oneLt_int hq
   | false=>exact kat_one _ _ (PyProof.Rows.lt_int hq)
theorem katTups_of {h:Heap}:∀ {vs:List Value},(∀ v∈vs,∃ ks,TupInts h v ks)→∃ fs,KatTups h vs fs∧fs.length=vs.length∧∀ f∈fs,∃ i t,f=Value.int i t
 | [],_=>⟨[],.nil,rfl,fun f hf=>nomatch hf⟩
 | v::vs,hv=>by
  obtain⟨fs,k,hl,hf⟩:=katTups_of (vs:=vs) fun u hu=>hv u (List.mem_cons_of_mem _ hu)
  obtain⟨ks,a,o,items,n,rfl,ho,hc,hd,hi,hne⟩:=hv v List.mem_cons_self;obtain⟨i,t,r,e⟩:∃ i t r,items.toList=Value.int i t::r:=by
   generalize items.toList=l at hi;cases hi with
   | nil=>exact absurd rfl hne
   | cons n t _=>exact⟨n,t,_,rfl⟩
  refine⟨.int i t::fs,.cons ho hc hd ?_ k,by rw[List.length_cons,List.length_cons,hl],fun f hf'=>?_⟩
  ·rw[← Array.getElem?_toList,e];rfl
  ·rcases List.mem_cons.mp hf' with rfl | q
   ·exact⟨i,t,rfl⟩
   ·exact hf f q
theorem asks_tups {h:Heap}{vs:List Value}(hv:∀ v∈vs,∃ ks,TupInts h v ks)(hk:∀ b o,h.get? b=some o→s.heap.get? b=some o):Asks prog w A lexOrd (tupKey h) (tuples' true) vs s:=by
 refine⟨fun h2 E Q hq=>?_,fun x hx y hy E Q hq=>?_⟩
 ·obtain⟨fs,kt,hl,hf⟩:=katTups_of (h:=s.heap) (vs:=vs) fun v hm=>let ⟨ks,t⟩:=hv v hm;⟨ks,t.keep hk⟩
  refine kat_kind (T:=.type "int") kt (by omega) (fun f hm=>?_) (by decide) hq;obtain⟨i,t,rfl⟩:=hf f hm;exact .now
 ·obtain⟨ks,tx⟩:=hv x hx;obtain⟨ms,ty⟩:=hv y hy;rw[tupKey_of tx,tupKey_of ty] at hq;obtain⟨a,o,items,n,rfl,ho,hc,hd,hi,_⟩:=tx.keep hk;obtain⟨a',o',items',n',rfl,ho',hc',hd',hi',_⟩:=ty.keep hk;exact kat_lt ho hd ho' hd' (katlex_ints 0 hi hi' (by simp) hq)
theorem coll_seq {l:Addr}{o:Obj}{c:String}{vs:List Value}{n:Nat}(ho:s.heap.get? l=some o)(hcl:o.cls=.type c)(hcc:c="list"∨c="tuple")(hd:o.data=.seq vs.toArray n)(hsz:vs.length≤sizeLine) :
  Coll prog w A l s fun us=>us=vs:=by
 intro E R h;unfold collect;refine wpAny_bind (wpAny_runValue (codeAny_builtin entry_proto_collect' ?_));show wpAny _ _ (newList [] >>= fun x=>again (.builtin "list.__iadd__" ⟨[x,.ref l],[]⟩)) _ _ s;refine wpAny_bind (wpAny_newList (wpAny_pure ⟨Code.quiet_builtin _ (by decide +kernel),codeAny_builtin entry_list_iadd' ?_⟩));show wpAny _ _ (Builtin.List.listExtendWith (.ref s.heap.objs.size) (.ref l) (.ref s.heap.objs.size)) _ _ {s with heap:=s.heap.push (seqObj "list" #[] 0)};unfold Builtin.List.listExtendWith;have ho':(s.heap.push (seqObj "list" #[] 0)).get? l=some o:=Heap.get?_push_of_some _ ho;refine wpAny_bind (wpAny_typeOf (T:=c) ⟨o,ho',hcl⟩ ?_);have ht:(Builtin.List.listSameRef (.ref s.heap.objs.size) (.ref l) || (Value.type c == Value.type "list") || (Value.type c == Value.type "tuple"))=true:=by
  rcases hcc with rfl | rfl
  ·rw[show (Value.type "list" == Value.type "list")=true from rfl];simp
  ·rw[show (Value.type "tuple" == Value.type "tuple")=true from rfl];simp
 rw[if_pos ht];refine wpAny_bind (listItems_at ho' hd ?_);refine wpAny_bind (listItems_at (xs:=#[]) (n:=0) (Heap.get?_push_size _ rfl) rfl ?_);rw[if_neg (by simp)];refine wpAny_bind (listUpdate_at (xs:=#[]) (n:=0) (Heap.get?_push_size _ rfl) rfl ?_ (Nat.zero_le _) (by show (#[]++vs.toArray).size≤sizeLine+1;simp only[Array.size_append,List.size_toArray,List.length_nil];omega));refine wpAny_pure ?_
 show wpAny (model prog w) A (do
   let q ← load s.heap.objs.size
   match q.data with
   | .seq xs _=>pure xs.toList
   | _=>unsupported "internal:collect") R E {s with heap:=(s.heap.push (seqObj "list" #[] 0)).update s.heap.objs.size (Obj.mapSeq (·++vs.toArray))}
 refine wpAny_bind (wpAny_load (get?_update_seq (Heap.get?_push_size _ rfl) _) ?_);show wpAny _ _ (pure ((#[]:Array Value)++vs.toArray).toList) R E _;rw[show ((#[]:Array Value)++vs.toArray).toList=vs by simp];exact wpAny_pure (h _ s.toks vs (fun b o e=>(Heap.SameBut.update ..).extBut b o (Nat.ne_of_lt (Heap.lt_size e)) (Heap.get?_push_of_some _ e)) rfl)
end
end Srt
namespace Srt
open PySem PyProof.Rows PySem.W
section
variable {prog:Program}{w:World}{A:Around}{E:Value→Shared→Prop}{s:Shared}
end
end Srt
namespace L2
open PySem PySem.Spec PyProof.Rows
theorem perm_map_inv {α β:Type}{f:α→β}:∀ {l m:List β},l.Perm m→∀ {ps:List α},m=ps.map f→∃ qs:List α,qs.Perm ps∧l=qs.map f:=by
 intro l m h;induction h with
 | nil =>
  intro ps e;cases ps with
  | nil=>exact⟨[],.nil,rfl⟩
  | cons _ _=>cases e
 | @cons x l₁ l₂ _ ih =>
  intro ps e;cases ps with
  | nil=>cases e
  | cons p r =>
   rw[List.map_cons] at e;injection e with e1 e2
   obtain⟨qs,h1,h2⟩:=ih e2;exact⟨p::qs,h1.cons _,by rw[List.map_cons,h2,e1]⟩
 | swap x y l =>
  intro ps e
  match ps,e with
  | p::q::r,e =>
   rw[List.map_cons,List.map_cons] at e;injection e with e1 e2
   injection e2 with e2 e3
   exact⟨q::p::r,.swap ..,by rw[List.map_cons,List.map_cons,← e1,← e2,← e3]⟩
 | trans _ _ ih1 ih2 =>
  intro ps e;obtain⟨qs,h1,h2⟩:=ih2 e;obtain⟨rs,h3,h4⟩:=ih1 h2;exact⟨rs,h3.trans h1,h4⟩
theorem vals_refs {α:Type}{f:α→Addr}:∀ {ps:List α} {us:List Value},Vals (ps.map fun x=>V.ref (f x)) us→us=ps.map fun x=>Value.ref (f x)
 | [],_,.nil=>rfl
 | x::r,_,.cons h t=>by
  cases (show _=Value.ref (f x) from h);rw[List.map_cons,← vals_refs t]
theorem refs_vals {α:Type}{f:α→Addr}:∀ ps:List α,Vals (ps.map fun x=>V.ref (f x)) (ps.map fun x=>Value.ref (f x))
 | []=>.nil
 | x::r=>.cons rfl (refs_vals r)
section
variable {X:Cx}{pins:List (Addr×Obj)}{σ:St}{H:Hp}{s:Shared}
def SrcT (K:PySem.W.Frag)(H:Hp)(p:Addr)(ps:List (Addr×List Int)):Prop :=
 (SqL K H p (ps.map fun x=>V.ref x.1)∨SqT K H p (ps.map fun x=>V.ref x.1))∧∀ x∈ps,H x.1=some (.tup (x.2.map V.int))∧x.2≠[]
theorem Inv.tupInts (I:Inv X pins σ H s){a:Addr}{ks:List Int}(h:H a=some (.tup (ks.map V.int)))(hne:ks≠[]):Srt.TupInts s.heap (.ref a) ks:=by
 obtain⟨its,r,⟨o,ho,hc,n,hd⟩,hz⟩:=I.tuple (SqT.of h);exact⟨a,o,its.toArray,n,rfl,ho,hc,hd,intsAre_of r,hne⟩
theorem sortedT_fin {p:Addr}{vs:List Value}{C:List (Addr×List Int)→Prop}{Q:VK}(I:Inv X pins σ H s)(hcol:Srt.Coll X.prog X.w X.A.in1 p s fun us=>us=vs)(ps:List (Addr×List Int))(hvs:vs=ps.map fun x=>Value.ref x.1)(hz:ps.length≤sizeLine)
  (hall:∀ x∈ps,H x.1=some (.tup (x.2.map V.int))∧x.2≠[]) (q:∀ (ps':List (Addr×List Int)) (l:Addr),ps'.Perm ps→(ps'.Pairwise fun x y=>HT.lexLt y.2 x.2=false)→H l=none→Q (.ref l) (upd H l (.lst (ps'.map fun x=>V.ref x.1)))) :
  wpAny (model X.prog X.w) X.A (call (.builtin "sorted") [.ref p]) (EP X pins σ Q) X.xe s:=by
 subst hvs;have ht:∀ x∈ps,Srt.TupInts s.heap (.ref x.1) x.2:=fun x hx=>I.tupInts (hall x hx).1 (hall x hx).2
 refine Srt.sorted_any (O:=Srt.lexOrd) (key:=Srt.tupKey s.heap) (knd:=tuples' true) hcol (fun vs e=>by subst e;rw[List.length_map];exact hz) (fun vs s' e k=>?_) fun vs out h1 h' tk n e hp hs k1 k2 hD=>?_
 ·subst e;refine Srt.asks_tups (fun v hv=>?_) k;obtain⟨x,hx,rfl⟩:=List.mem_map.mp hv;exact⟨x.2,ht x hx⟩
 ·subst e;obtain⟨ps',hpp,rfl⟩:=perm_map_inv hp rfl;have I1:Inv X pins σ H {s with heap:=h1,toks:=tk}:=I.kept k1;refine⟨.ref h1.objs.size,_,I1.laid (t':=tk) (o:=.lst (ps'.map fun x=>V.ref x.1)) k2 (Nat.le_refl _) ⟨by rw[List.length_map,hpp.length_eq];exact hz,_,n,refs_vals (f:=fun x:Addr×List Int=>x.1) ps',hD⟩,rfl,q _ _ hpp ?_ I1.fresh⟩;rw[List.pairwise_map] at hs;refine hs.imp_of_mem fun {a b} ha hb hab=>?_
  have e1:=Srt.tupKey_of (ht a (hpp.mem_iff.mp ha));have e2:=Srt.tupKey_of (ht b (hpp.mem_iff.mp hb));have hab:HT.lexLt (Srt.tupKey s.heap (.ref b.1)) (Srt.tupKey s.heap (.ref a.1))=false:=hab;rw[e1,e2] at hab;exact hab
theorem call_sortedT:CallR X (.builtin "sorted") (fun xs H Q=>∃ (p:Addr) (ps:List (Addr×List Int)),xs=[.ref p]∧SrcT X.K H p ps∧∀ (ps':List (Addr×List Int)) (l:Addr),ps'.Perm ps→(ps'.Pairwise fun x y=>HT.lexLt y.2 x.2=false)→H l=none→Q (.ref l) (upd H l (.lst (ps'.map fun x=>V.ref x.1)))):=by
 intro pins s σ H xs us Q I r h;obtain⟨p,ps,rfl,⟨src,hall⟩,q⟩:=h;obtain⟨u,rfl,rx⟩:=vals1 r;cases rx;rcases src with h | h
 ·obtain⟨its,r',pl,hz⟩:=I.list h;obtain⟨o,ho,hc,n,hd⟩:=pl.isList;rw[List.length_map] at hz;have e:=vals_refs r';exact sortedT_fin (C:=fun _=>True) I (Srt.coll_seq ho hc (.inl rfl) hd (by rw[e,List.length_map];exact hz)) ps e hz hall q
 ·obtain⟨its,r',pl,hz⟩:=I.tuple h;obtain⟨o,ho,hc,n,hd⟩:=pl;rw[List.length_map] at hz;have e:=vals_refs r';exact sortedT_fin (C:=fun _=>True) I (Srt.coll_seq ho hc (.inr rfl) hd (by rw[e,List.length_map];exact hz)) ps e hz hall q
end
end L2
end
section
set_option Elab.async false
set_option linter.all false
set_option maxRecDepth 100000
namespace L2
open PySem PySem.Spec PyProof.Rows
mutual
inductive Dt (K:PySem.W.Frag)(H:Hp):V→PyData→Prop
 | non:Dt K H .non .none
 | bl (b:Bool):Dt K H (.bl b) (.bool b)
 | int (i:Int):Dt K H (.int i) (.int i)
 | str (x:Str):Dt K H (.str x) (.str x)
 | tup {a:Addr} {xs:List V} {ds:List PyData}:SqT K H a xs→Dts K H xs ds→Dt K H (.ref a) (.tuple ds)
 | lst {a:Addr} {xs:List V} {ds:List PyData}:SqL K H a xs→Dts K H xs ds→Dt K H (.ref a) (.list ds)
inductive Dts (K:PySem.W.Frag)(H:Hp):List V→List PyData→Prop
 | nil:Dts K H [] []
 | cons {x:V} {d:PyData} {xs:List V} {ds:List PyData}:Dt K H x d→Dts K H xs ds→Dts K H (x::xs) (d::ds)
end
section
variable {X:Cx}{pins:List (Addr×Obj)}{σ:St}{H:Hp}{s:Shared}
mutual
theorem Inv.reads (I:Inv X pins σ H s):∀ {x:V} {d:PyData} {u:Value},Dt X.K H x d→RelV x u→∃ as,Reads s.heap u d as
 | _,_,_,.non,r=>by cases (show _=Value.none from r);exact⟨_,.none⟩
 | _,_,_,.bl b,r=>by cases (show _=Value.bool b from r);exact⟨_,.bool b⟩
 | _,_,_,.int i,r=>by obtain⟨t,e⟩:=(show ∃ t,_=Value.int i t from r);subst e;exact⟨_,.int i t⟩
 | _,_,_,.str x,r=>by obtain⟨t,e⟩:=(show ∃ t,_=Value.str x t from r);subst e;exact⟨_,.str x t⟩
 | _,_,_,.tup (a:=a) h hs,r=>by
  cases (show _=Value.ref a from r);obtain⟨its,rv,⟨o,ho,hc,n,hd⟩,hz⟩:=I.tuple h;obtain⟨as,q⟩:=Inv.readsAll I hs rv;exact⟨_,.tuple ho hc hd (by simpa using q)⟩
 | _,_,_,.lst (a:=a) h hs,r=>by
  cases (show _=Value.ref a from r);obtain⟨its,rv,pl,hz⟩:=I.list h;obtain⟨o,ho,hc,n,hd⟩:=pl.isList;obtain⟨as,q⟩:=Inv.readsAll I hs rv;exact⟨_,.list ho hc hd (by simpa using q)⟩
theorem Inv.readsAll (I:Inv X pins σ H s):∀ {xs:List V} {ds:List PyData} {us:List Value},Dts X.K H xs ds→Vals xs us→∃ as,ReadsAll s.heap us ds as
 | _,_,_,.nil,.nil=>⟨_,.nil⟩
 | _,_,_,.cons h t,.cons r q=>by
  obtain⟨as,h1⟩:=Inv.reads I h r;obtain⟨bs,h2⟩:=Inv.readsAll I t q;exact⟨_,.cons h1 h2⟩
end
def rEqD (K:PySem.W.Frag)(neg:Bool):R2:=fun x y H Q=>∃ d e,Dt K H x d∧Dt K H y e∧SeqAt.shaped d=true∧SeqAt.shaped e=true∧Q (.bl (if neg then !PyData.eqv d e else PyData.eqv d e)) H
theorem op_eqD (hu:X.A.units+64<cLine):OpR X (compareOp .Eq) (rEqD X.K false):=by
 intro pins s σ H x y v u Q I rx ry h;obtain⟨d,e,hd,he,sd,se,q⟩:=h;obtain⟨as,r1⟩:=I.reads hd rx;obtain⟨bs,r2⟩:=I.reads he ry;exact eq_dataH r1 r2 sd se hu ⟨.bl _,H,I,rfl,q⟩
theorem op_neD (hu:X.A.units+64<cLine):OpR X (compareOp .NotEq) (rEqD X.K true):=by
 intro pins s σ H x y v u Q I rx ry h;obtain⟨d,e,hd,he,sd,se,q⟩:=h;obtain⟨as,r1⟩:=I.reads hd rx;obtain⟨bs,r2⟩:=I.reads he ry;exact ne_dataH r1 r2 sd se hu ⟨.bl _,H,I,rfl,q⟩
theorem Dts.ints {K:PySem.W.Frag}:∀ (ns:List Int),Dts K H (ns.map V.int) (ns.map PyData.int)
 | []=>.nil
 | n::r=>.cons (.int n) (Dts.ints r)
theorem canLay_ints:∀ ns:List Int,PyData.canLayAll0 (ns.map PyData.int)=true
 | []=>rfl
 | n::r=>by rw[List.map_cons,PyData.canLayAll0,canLay_ints r];rfl
theorem depth_ints:∀ ns:List Int,PyData.depthAll (ns.map PyData.int)=0
 | []=>rfl
 | n::r=>by rw[List.map_cons,PyData.depthAll,depth_ints r];rfl
theorem eqv_ints:∀ ns ms:List Int,PyData.eqvAll (ns.map PyData.int) (ms.map PyData.int)=decide (ns=ms)
 | [],[]=>rfl
 | [],_::_=>rfl
 | _::_,[]=>rfl
 | a::r,b::t=>by
  rw[List.map_cons,List.map_cons,PyData.eqvAll,PyData.eqv,eqv_ints r t];by_cases h:a=b<;>by_cases h':r=t<;>simp[h,h']
theorem eqv_tupI (ns ms:List Int):PyData.eqv (.tuple (ns.map PyData.int)) (.tuple (ms.map PyData.int))=decide (ns=ms):=by
 rw[PyData.eqv];exact eqv_ints ns ms
theorem Dt.tupI {K:PySem.W.Frag}{a:Addr}{ns:List Int}(h:SqT K H a (ns.map V.int)):Dt K H (.ref a) (.tuple (ns.map PyData.int)):=.tup h (Dts.ints ns)
end
end L2
end
section
set_option Elab.async false
set_option linter.all false
set_option maxRecDepth 100000
namespace Srt
open PySem PyProof.Rows PySem.W
section
variable {prog:Program}{w:World}{A:Around}{E:Value→Shared→Prop}{s:Shared}
end
end Srt
namespace PySem
open AutoSeq1 (wpAny_loadPart')
set_option maxRecDepth 100000
end PySem
namespace L2
open PySem PySem.Spec PyProof.Rows
section
variable {X:Cx}
def rInts (lo:Int)(n:Nat):List Int:=(List.range n).map fun (i:Nat)=>lo+(i:Int)
theorem rInts_length (lo:Int)(n:Nat):(rInts lo n).length=n:=by unfold rInts;simp
end
end L2
namespace Srt
open PySem PyProof.Rows PySem.W
theorem nolen_lr:typeLookup (.type "list_reverseiterator") "__len__"=pure none:=by rw[typeLookup_type,builtinLookup_eq_fast];kernel_rfl
theorem hint_lr:typeLookup (.type "list_reverseiterator") "__length_hint__"=pure (some (.builtin "list_reverseiterator.__length_hint__")):=by rw[typeLookup_type,builtinLookup_eq_fast];kernel_rfl
section
variable {prog:Program}{w:World}{A:Around}{E:Value→Shared→Prop}{s:Shared}
theorem rev_extend {R:Result→Shared→Prop}{r l S:Addr}{items:Array Value}{res:Value}{c₀:Nat}(hh:A.handled=none)(hr:s.heap.IsRevIter r l ((items.size:Int)-1))(hl:s.heap.IsList l items)(hne:l≠r)(hSr:S≠r)(hSl:S≠l)
  (hS:s.heap.get? S=some {cls:=.type "list",data:=.seq #[] c₀}) (hn:items.size≤sizeLine)
  (hR:∀ h' tk acc' c',(∀ b o,b≠S→b≠r→s.heap.get? b=some o→h'.get? b=some o)→h'.get? S=some {cls:=.type "list",dict:=none,data:=.seq acc' c',slots:=#[]} →
   ItemsOf (fun i v=>items[items.size-1-i]?=some v) acc' items.size→R (.ok (.ret res)) {s with heap:=h',toks:=tk}) :
  wpAny (model prog w) A.in1 (Builtin.List.listExtendWith (.ref S) (.ref r) res)
   (fun fin s'=>match fin with | .done f=>R (.ok f) s' | .again c'=>c'.quiet=true∧codeAny (model prog w) A c' R s') (fun e s'=>R (.error e) s') s:=by
 have W:=(Walks.listRev (prog:=prog) (w:=w) (A:=A.in1) hh r l hne items).toS;have hSf:S∉[r,l]:=by simp only[List.mem_cons,List.not_mem_nil,or_false,not_or];exact⟨hSr,hSl⟩
 unfold Builtin.List.listExtendWith;refine wpAny_bind (wpAny_typeOf hr.typeIs ?_);have h1:Builtin.List.listSameRef (.ref S) (.ref r)=false:=by simp[Builtin.List.listSameRef,hSr]
 rw[if_neg (by rw[h1];decide)];refine wpAny_bind (wpAny_pyIter_revIter hr ?_);refine wpAny_bind (wpAny_holding ?_);unfold Builtin.List.listLengthHint;refine wpAny_bind (wpAny_specialOf hr.typeIs nolen_lr ?_);show wpAny _ A.in1 (specialOf (Value.ref r) (Str.ofString "__length_hint__") >>= _) _ _ _;refine wpAny_bind (wpAny_specialOf hr.typeIs hint_lr ?_);generalize hid:("list_reverseiterator.__length_hint__":String)=id0
 wp_delta
 rw[show splitId id0=some ("list_reverseiterator", "__length_hint__") from by subst hid;decide +kernel];subst hid;refine wpAny_bind (wpAny_isInstance (b:=true) hr.typeIs (by rw[isSubtype_type];kernel_rfl) ?_);refine wpAny_pure ?_;rw[if_neg (by decide)];refine wpAny_pure ⟨plainId_quiet PySem.F.plain_extend_loop _,codeAny_extend_loopS W hn S hSf res items.size 0 s #[] c₀ rfl (Nat.zero_le _) ⟨Nat.zero_le _,by simpa using hr,hl⟩ hS (ItemsOf.nil _) fun s' acc' c' hm hS' hacc=>?_⟩;rw[Moved.eq_with hm];refine hR s'.heap s'.toks acc' c' (fun b o hb hbr e=>hm.heap b o (fun hmem=>?_) e) hS' hacc;rcases List.mem_cons.mp hmem with e' | hmem
 ·exact hb e'
 ·exact hbr (List.mem_singleton.mp hmem)
theorem call_list_rev {Q:Value→Shared→Prop}{r l:Addr}{items:Array Value}(hh:A.handled=none)(hr:s.heap.IsRevIter r l ((items.size:Int)-1))(hl:s.heap.IsList l items)(hne:l≠r)(hn:items.size≤sizeLine)
  (hQ:∀ h' tk acc' c',(∀ b o,b≠r→s.heap.get? b=some o→h'.get? b=some o)→h'.get? s.heap.objs.size=some {cls:=.type "list",dict:=none,data:=.seq acc' c',slots:=#[]} →
   ItemsOf (fun i v=>items[items.size-1-i]?=some v) acc' items.size→Q (.ref s.heap.objs.size) {s with heap:=h',toks:=tk}) :
  wpAny (model prog w) A (call (.type "list") [.ref r]) Q E s:=by
 refine callType_codes (Q₁:=fun obj s₁=>obj=.ref s.heap.objs.size∧s₁={s with heap:=s.heap.push {cls:=.type "list",data:=.seq #[]}}) PySem.F.called_list (PySem.F.typeCall_list_1 _) PySem.F.entry_list_init
  (code_list_new _ ⟨rfl,rfl⟩) fun obj s₁ h₁=>?_
 obtain⟨rfl,rfl⟩:=h₁;have hS:(s.heap.push {cls:=.type "list",data:=.seq #[]}).get? s.heap.objs.size=some {cls:=.type "list",data:=.seq #[]}:=Heap.get?_push_size _ rfl;have rlt:r<s.heap.objs.size:=let ⟨o,ho,_⟩:=hr;Heap.lt_size ho;have llt:l<s.heap.objs.size:=let ⟨o,ho,_⟩:=hl;Heap.lt_size ho;refine⟨⟨_,hS,rfl⟩,PySem.F.args_list_init_2 _ _,?_⟩;show wpAny _ _ (do let old ← Builtin.List.listItems (.ref s.heap.objs.size);Builtin.List.listUpdate (.ref s.heap.objs.size) (fun _=>#[]);letGo old.toList.reverse;Builtin.List.listExtendWith (.ref s.heap.objs.size) (.ref r) .none) _ _ _;refine wpAny_bind ?_;unfold Builtin.List.listItems;refine wpAny_bind (wpAny_seqItems hS rfl (wpAny_pure ?_));show wpAny _ _ (updateSeq s.heap.objs.size (fun _=>#[]) >>= fun _=>letGo (#[]:Array Value).toList.reverse >>= fun _=>Builtin.List.listExtendWith (.ref s.heap.objs.size) (.ref r) .none) _ _ _;refine wpAny_bind (wpAny_updateSeq hS rfl ?_);have hS₂:=Heap.get?_update_self (Obj.mapSeq (fun _=>(#[]:Array Value))) hS rfl;have oth:∀ b o,b≠s.heap.objs.size→s.heap.get? b=some o→((s.heap.push {cls:=.type "list",data:=.seq #[]}).update s.heap.objs.size (Obj.mapSeq (fun _=>(#[]:Array Value)))).get? b=some o :=
  fun b o hb e=>(Heap.get?_update_other _ _ (Ne.symm hb)).trans (Heap.get?_push_of_some _ e)
 refine wpAny_bind (wpAny_letGo ?_);refine rev_extend (A:=A.in1) hh (hr.at fun o e=>oth r o (Nat.ne_of_lt rlt) e) (hl.at fun o e=>oth l o (Nat.ne_of_lt llt) e) hne (Nat.ne_of_gt rlt) (Nat.ne_of_gt llt) hS₂ hn fun h' tk acc' c' hk hS' hacc=>?_
 exact⟨rfl,hQ h' tk acc' c' (fun b o hb e=>hk b o (Nat.ne_of_lt (Heap.lt_size e)) hb (oth b o (Nat.ne_of_lt (Heap.lt_size e)) e)) hS' hacc⟩
end
end Srt
namespace L2
open PySem PySem.Spec PyProof.Rows
section
variable {X:Cx}{e:Expr}{te:TE}{p1 p2 q1 q2:Pos}
theorem boot_listT:bootBuiltins "list"=some (.type "list"):=by decide +kernel
theorem boot_reversed:bootBuiltins "reversed"=some (.type "reversed"):=by decide +kernel
theorem vals_rev:∀ {xs:List V} {us:List Value},Vals xs us→Vals xs.reverse us.reverse
 | _,_,.nil=>.nil
 | _,_,.cons r t=>by
  rw[List.reverse_cons,List.reverse_cons];exact (vals_rev t).append (.cons r .nil)
def tRevL (te:TE):TE:=fun σ H Q=>te σ H fun x H1=>∃ a xs,x=.ref a∧H1 a=some (.lst xs)∧∀ l,H1 l=none→Q (.ref l) (upd H1 l (.lst xs.reverse))
theorem pe_listrev (hc:X.A.handled=none)(hg1:Gl X "list")(hm1:X.mg "list"=none)(hg2:Gl X "reversed")(hm2:X.mg "reversed"=none)(he:PE X e te)
  (hs1:starEach [.Call (.Name "reversed" p1) [e] [] q1] X.env=[(false,eval (.Call (.Name "reversed" p1) [e] [] q1) X.env)]:=by rfl) (hs2:starEach [e] X.env=[(false,eval e X.env)]:=by rfl) :
  PE X (.Call (.Name "list" p2) [.Call (.Name "reversed" p1) [e] [] q1] [] q2) (tRevL te):=by
 intro pins s σ H Q I h;refine wpAny_Call_Name_kw (ld_blt I hg1 hm1 boot_listT ?_);refine PyProof.Rows.callWith_type1 ?_ hs1 rfl;rw[hs1];refine Calls.spliced_cons ?_;refine wpAny_Call_Name_kw (ld_blt I hg2 hm2 boot_reversed ?_);refine PyProof.Rows.callWith_type1 ?_ hs2 rfl;rw[hs2];refine Calls.spliced_cons (thn (he pins s σ H _ I h) fun u s1 ⟨x,H1,I1,r1,q1⟩=>?_);obtain⟨a,xs,rfl,ha,q⟩:=q1;cases r1;refine Calls.spliced_nil ?_;obtain⟨its,n,rv,ho,hz⟩:=I1.lst ha;have hl:s1.heap.IsList a its.toArray:=⟨_,ho,rfl,n,rfl⟩
 have alt:a<s1.heap.objs.size:=Heap.lt_size ho;refine call_reversed_list hl ?_;refine Calls.spliced_nil ?_;have k1:∀ b o,s1.heap.get? b=some o→(s1.heap.push (revObj a ((its.toArray.size:Int)-1))).get? b=some o:=fun _ _ q=>Heap.get?_push_of_some _ q
 refine Srt.call_list_rev (s:={s1 with heap:=s1.heap.push (revObj a ((its.toArray.size:Int)-1))}) hc ⟨_,Heap.get?_push_size _ rfl,rfl,rfl⟩ (hl.at fun o e=>k1 a o e) (Nat.ne_of_lt alt) (by rw[List.size_toArray,← rv.length];exact hz) fun h' tk acc' c' hk hS' hacc=>?_
 have eacc:acc'.toList=its.reverse:=by
  apply List.ext_getElem?;intro i;rw[Array.getElem?_toList];rcases Nat.lt_or_ge i its.length with hi | hi
  ·have hi':i<acc'.size:=by rw[hacc.1,List.size_toArray];exact hi
   have:=hacc.2 i acc'[i] (Array.getElem?_eq_getElem hi');rw[Array.getElem?_eq_getElem hi',List.getElem?_reverse hi];rw[List.size_toArray,List.getElem?_toArray] at this;exact this.symm
  ·rw[Array.getElem?_eq_none (by rw[hacc.1,List.size_toArray];exact hi),List.getElem?_eq_none (by rw[List.length_reverse];exact hi)]
 have keep:∀ b o,s1.heap.get? b=some o→h'.get? b=some o:=fun b o e=>hk b o (Nat.ne_of_lt (Heap.lt_size e)) (k1 b o e)
 have hsz:(s1.heap.push (revObj a ((its.toArray.size:Int)-1))).objs.size=s1.heap.objs.size+1:=Heap.size_push ..;refine⟨.ref (s1.heap.push (revObj a ((its.toArray.size:Int)-1))).objs.size,_,I1.laid (t':=tk) (a:=(s1.heap.push (revObj a ((its.toArray.size:Int)-1))).objs.size) (o:=.lst xs.reverse) keep (by rw[hsz];omega) ⟨by rw[List.length_reverse];exact hz,its.reverse,c',vals_rev rv,by rw[← eacc,Array.toArray_toList];exact hS'⟩,rfl,q _ (I1.hok.fresh (by rw[hsz];omega))⟩
end
end L2
end
section
set_option Elab.async false
set_option linter.all false
set_option maxRecDepth 100000
namespace L2
open PySem PySem.Spec PyProof.Rows
section
variable {X:Cx}
end
structure Df (K:PySem.W.Frag)(mg:Str→Option Value)(x:Str)(st:Stmt)(f:Addr)(fd:FuncData)(ps:List Str):Prop where
 F:Fun K x x st f fd
 b:Binds K fd ps []
 m:mg x=some (.ref f)
theorem pe_own {X:Cx}{k:Nat}{f:Addr}{fd:FuncData}{ps:List Str}{sp:Sp}{x:Str}{st:Stmt}{p pos:Pos}{e:Expr}{es:List Expr}{t:TA}(G:FnOk X.prog X.w X.K X.mg X.base CX0 k f fd ps sp)(D:Df X.K X.mg x st f fd ps)(hr:Room k X.A)
  (ha:PA X (e::es) t) (hg:Gl X x:=by rfl) (hdb:(x == ("__debug__":Str))=false:=by decide) (he:starEach (e::es) X.env=(false,eval e X.env)::starEach es X.env:=by rfl) (hpl:(backTo pos (starEach es X.env)).any (·.1)=false:=by rfl) :
  PE X (.Call (.Name x p) (e::es) [] pos) (tCall sp [] E0 t):=pe_call G hr hg D.m D.F.kp D.b .nil pass0 ha hdb he hpl
structure Bt (mg:Str→Option Value):Prop where
 len:mg "len"=none
 range:mg "range"=none
 list:mg "list"=none
 tuple:mg "tuple"=none
 sorted:mg "sorted"=none
 min:mg "min"=none
 max:mg "max"=none
 int:mg "int"=none
 reversed:mg "reversed"=none
section
variable {X:Cx}(K:PySem.W.Frag)
theorem ix_listK (h:X.K=K:=by rfl):IxR X (rIxL K):=by subst h;exact ix_list
theorem ix_tupK (h:X.K=K:=by rfl):IxR X (rIxT K):=by subst h;exact ix_tup
theorem sl_listK (h:X.K=K:=by rfl):SlR X (rSlL K):=by subst h;exact sl_list
theorem eqDK (hu:X.A.units+64<cLine)(h:X.K=K:=by rfl):OpR X (compareOp .Eq) (rEqD K false):=by subst h;exact op_eqD hu
theorem neDK (hu:X.A.units+64<cLine)(h:X.K=K:=by rfl):OpR X (compareOp .NotEq) (rEqD K true):=by subst h;exact op_neD hu
def cLen (K:PySem.W.Frag):List V→Hp→VK→Prop:=fun xs H Q=>∃ p ys,xs=[.ref p]∧(SqL K H p ys∨SqT K H p ys)∧Q (.int ys.length) H
def cList (K:PySem.W.Frag):List V→Hp→VK→Prop:=fun xs H Q=>∃ p ys,xs=[.ref p]∧(SqL K H p ys∨SqT K H p ys)∧∀ l,H l=none→Q (.ref l) (upd H l (.lst ys))
def cTuple (K:PySem.W.Frag):List V→Hp→VK→Prop:=fun xs H Q=>∃ p ys,xs=[.ref p]∧((SqL K H p ys∧∀ l,H l=none→Q (.ref l) (upd H l (.tup ys)))∨(SqT K H p ys∧Q (.ref p) H))
def cSortT (K:PySem.W.Frag):List V→Hp→VK→Prop:=fun xs H Q=>∃ (p:Addr) (ps:List (Addr×List Int)),xs=[.ref p]∧SrcT K H p ps∧∀ (ps':List (Addr×List Int)) (l:Addr),ps'.Perm ps→(ps'.Pairwise fun x y=>HT.lexLt y.2 x.2=false)→H l=none→Q (.ref l) (upd H l (.lst (ps'.map fun x=>V.ref x.1)))
theorem lenK (h:X.K=K:=by rfl):CallR X (.builtin "len") (cLen K):=by subst h;exact call_len_seq
theorem listK (h:X.K=K:=by rfl):CallR X (.type "list") (cList K):=by subst h;exact call_list_of
theorem tupleK (h:X.K=K:=by rfl):CallR X (.type "tuple") (cTuple K):=by subst h;exact call_tuple_of
theorem sortedTK (h:X.K=K:=by rfl):CallR X (.builtin "sorted") (cSortT K):=by subst h;exact call_sortedT
variable {tg l o e:Expr}{tl to:TE}{es:List Expr}{t:TA}{pos:Pos}
theorem pi_listK (hl:PE X l tl)(h:X.K=K:=by rfl):PI X tg l (iList K tl):=by subst h;exact pi_list hl
theorem pi_tupK (hl:PE X l tl)(h:X.K=K:=by rfl):PI X tg l (iTup K tl):=by subst h;exact pi_tup hl
theorem pg_tupK {k:Nat}{t:TGs}{n:Nat}(hc:X.calm=true)(hg:PGs X es t)(hn:(assignEach es X.env).length=n:=by rfl)(hst:(assignEach es X.env).findIdx? (·.1)=none:=by rfl)(h:X.K=K:=by rfl):PG X (.Tuple es k pos) (gTup K n t):=by
 subst h;exact pg_tup hc hg hn hst
theorem appendK {apos cpos:Pos}(ho:PE X o to)(ha:PA X (e::es) t)(h:X.K=K:=by rfl)
  (hbase:attributeBase o "append" X.env (eval o X.env)=eval o X.env:=by rfl)
  (hfew:((backTo cpos (starEach (e::es) X.env)).all (fun x=>!x.1) && (backToKw cpos (keywordEach [] X.env)).all (fun x=>x.1.isSome)
   && decide ((e::es).length+([]:List Keyword).length+(if ([]:List Keyword).isEmpty then 0 else 1)<30))=true:=by rfl) (hst:starEach (e::es) X.env=(false,eval e X.env)::starEach es X.env:=by rfl) (hpl:(backTo cpos (starEach es X.env)).any (·.1)=false:=by rfl) (hline:(apos.endLine == cpos.line)=true:=by rfl) :
  PE X (.Call (.Attribute o "append" apos) (e::es) [] cpos) (tBM K "list" rAppend to t):=by
 subst h;exact pe_bm PySem.F.plainAttrs_list PySem.F.slot_list_append PySem.F.type_list_append mt_append ho ha hbase hfew hline hst hpl
theorem popK {apos cpos:Pos}(ho:PE X o to)(h:X.K=K:=by rfl)(hbase:attributeBase o "pop" X.env (eval o X.env)=eval o X.env:=by rfl)(hline:(apos.endLine == cpos.line)=true:=by rfl) :
  PE X (.Call (.Attribute o "pop" apos) [] [] cpos) (tBM0 K "list" rPop to):=by
 subst h;exact pe_bm0 PySem.F.plainAttrs_list PySem.F.slot_list_pop PySem.F.type_list_pop mt_pop ho hbase hline
end
section
variable {K:PySem.W.Frag}{a p:Addr}{xs:List V}{g:TG}{tc:TT}{te tv:TE}{τ0:St}{H0:Hp}{EE:Hp→Prop}
theorem lc_list (Pv:Nat→St→Hp→Prop)(h0:Pv 0 τ0 H0)(hl:∀ i τ H,i≤xs.length→Pv i τ H→SqL K H a xs)
  (hs:∀ i x τ H,xs[i]?=some x→Pv i τ H→(∀ ys,SqL K H a ys→ys[i]?=some x)→g x τ H fun τ2 H2=>tc τ2 H2 fun b H3=>if b=true then te τ2 H3 fun v H4=>∃ ys,H4 p=some (.lst ys)∧ys.length<sizeLine∧Pv (i+1) τ2 (upd H4 p (.lst (ys++[v]))) else Pv (i+1) τ2 H3)
  (hd:∀ τ H,Pv xs.length τ H→EE H):lcW g tc te p (Itl K a) τ0 H0 EE:=by
 refine⟨fun i m τ H=>m=xs.length-i∧i≤xs.length∧Pv i τ H,⟨_,rfl,Nat.zero_le _,h0⟩,?_⟩;rintro i m τ H ⟨rfl,hi,hp⟩;have hq:=hl i τ H hi hp;rcases Nat.lt_or_ge i xs.length with h | h
 ·have hx:xs[i]?=some xs[i]:=List.getElem?_eq_getElem h;refine .inr ⟨⟨xs,_,hq,hx⟩,Pv (i+1),fun τ' H' z=>⟨_,by omega,rfl,h,z⟩,?_⟩;rintro x H' ⟨rfl,hy⟩;have e:x=xs[i]:=by have:=hy xs hq;rw[hx] at this;exact (Option.some.inj this).symm
  subst e;exact hs i _ τ H' hx hp hy
 ·have e:i=xs.length:=by omega
  subst e;exact .inl ⟨⟨xs,hq,Nat.le_refl _⟩,hd τ H hp⟩
theorem lc_tup (Pv:Nat→St→Hp→Prop)(h0:Pv 0 τ0 H0)(hl:∀ i τ H,i≤xs.length→Pv i τ H→SqT K H a xs)
  (hs:∀ i x τ H,xs[i]?=some x→Pv i τ H→g x τ H fun τ2 H2=>tc τ2 H2 fun b H3=>if b=true then te τ2 H3 fun v H4=>∃ ys,H4 p=some (.lst ys)∧ys.length<sizeLine∧Pv (i+1) τ2 (upd H4 p (.lst (ys++[v]))) else Pv (i+1) τ2 H3)
  (hd:∀ τ H,Pv xs.length τ H→EE H):lcW g tc te p (Itt K a) τ0 H0 EE:=by
 refine⟨fun i m τ H=>m=xs.length-i∧i≤xs.length∧Pv i τ H,⟨_,rfl,Nat.zero_le _,h0⟩,?_⟩;rintro i m τ H ⟨rfl,hi,hp⟩;have hq:=hl i τ H hi hp;rcases Nat.lt_or_ge i xs.length with h | h
 ·have hx:xs[i]?=some xs[i]:=List.getElem?_eq_getElem h;refine .inr ⟨⟨xs,_,hq,hx⟩,Pv (i+1),fun τ' H' z=>⟨_,by omega,rfl,h,z⟩,?_⟩;rintro x H' ⟨rfl,hy⟩;have e:x=xs[i]:=by have:=hy xs hq;rw[hx] at this;exact (Option.some.inj this).symm
  subst e;exact hs i _ τ H' hx hp
 ·have e:i=xs.length:=by omega
  subst e;exact .inl ⟨⟨xs,hq,Nat.le_refl _⟩,hd τ H hp⟩
theorem lc_range {lo:Int}{n:Nat}(Pv:Nat→St→Hp→Prop)(h0:Pv 0 τ0 H0)
  (hs:∀ i τ H,i<n→Pv i τ H→g (.int (lo+i)) τ H fun τ2 H2=>tc τ2 H2 fun b H3=>if b=true then te τ2 H3 fun v H4=>∃ ys,H4 p=some (.lst ys)∧ys.length<sizeLine∧Pv (i+1) τ2 (upd H4 p (.lst (ys++[v]))) else Pv (i+1) τ2 H3)
  (hd:∀ τ H,Pv n τ H→EE H):lcW g tc te p (Itr lo n) τ0 H0 EE:=by
 refine⟨fun i m τ H=>m=n-i∧i≤n∧Pv i τ H,⟨_,rfl,Nat.zero_le _,h0⟩,?_⟩;rintro i m τ H ⟨rfl,hi,hp⟩;rcases Nat.lt_or_ge i n with h | h
 ·refine .inr ⟨h,Pv (i+1),fun τ' H' z=>⟨_,by omega,rfl,h,z⟩,?_⟩;rintro x H' ⟨rfl,rfl⟩;exact hs i τ H' h hp
 ·have e:i=n:=by omega
  subst e;exact .inl ⟨Nat.le_refl _,hd τ H hp⟩
end
theorem call_intB {X:Cx}:CallR X (.type "int") (fun xs H Q=>∃ k,xs=[.bl k]∧Q (.int (if k then 1 else 0)) H):=fun pins s σ H xs us Q I r h=>call_int1 pins s σ H xs us Q I r (.inr h)
theorem upd_self {H:Hp}{a:Addr}{o:HO}(h:H a=some o):upd H a o=H:=by
 funext b;by_cases e:b=a
 ·subst e;rw[upd_same,h]
 ·rw[upd_ne e]
theorem Same.upd {H H':Hp}(s:Same H H'){p:Addr}{o:HO}(hp:H p=none):Same H (L2.upd H' p o):=fun b u e=>by
 rw[upd_ne (ne_of_none e hp)];exact s b u e
theorem sizeBig {n:Nat}(h:n≤16000000):n<sizeLine:=by rw[sizeLine_eq];omega
end L2
end
section
set_option maxHeartbeats 8000000
local macro_rules | `(tactic| omega)=>`(tactic| first | lia | omega +splitDisjunctions)
set_option Elab.async false
set_option linter.all false
set_option maxRecDepth 100000
namespace L2
open PySem
def Tp (H H':Hp):Prop:=∀ a xs,H a=some (.tup xs)→H' a=some (.tup xs)
theorem Tp.refl (H:Hp):Tp H H:=fun _ _ h=>h
theorem Tp.trans {H H1 H2:Hp}(a:Tp H H1)(b:Tp H1 H2):Tp H H2:=fun c o h=>b c o (a c o h)
theorem Same.tp {H H':Hp}(s:Same H H'):Tp H H':=fun a xs h=>s a _ h
theorem ne_tl {H:Hp}{a b:Addr}{xs ys:List V}(h:H a=some (.tup xs))(h':H b=some (.lst ys)):a≠b:=fun e=>by subst e;rw[h] at h';cases h'
theorem ne_tdT {H:Hp}{a b:Addr}{xs:List V}{ys:List (List Key×V)}(h:H a=some (.tup xs))(h':H b=some (.dT ys)):a≠b:=fun e=>by subst e;rw[h] at h';cases h'
theorem ne_tdK {H:Hp}{a b:Addr}{xs:List V}{ys:List (Key×V)}(h:H a=some (.tup xs))(h':H b=some (.dK ys)):a≠b:=fun e=>by subst e;rw[h] at h';cases h'
theorem Tp.new {H H':Hp}(s:Tp H H'){p:Addr}{o:HO}(hp:H p=none):Tp H (upd H' p o):=fun a xs h=>by rw[upd_ne (ne_of_none h hp)];exact s a xs h
theorem Tp.lst {H:Hp}{p:Addr}{o:HO}{ys:List V}(hp:H p=some (.lst ys)):Tp H (upd H p o):=fun a xs h=>by rw[upd_ne (ne_tl h hp)];exact h
theorem Tp.dT {H:Hp}{p:Addr}{o:HO}{ys:List (List Key×V)}(hp:H p=some (.dT ys)):Tp H (upd H p o):=fun a xs h=>by rw[upd_ne (ne_tdT h hp)];exact h
theorem Tp.dK {H:Hp}{p:Addr}{o:HO}{ys:List (Key×V)}(hp:H p=some (.dK ys)):Tp H (upd H p o):=fun a xs h=>by rw[upd_ne (ne_tdK h hp)];exact h
theorem Tp.nw {H:Hp}{p:Addr}{o:HO}(hp:H p=none):Tp H (upd H p o):=(Tp.refl H).new hp
theorem at_new {H:Hp}{a p:Addr}{o u:HO}(h:H a=some o)(hp:H p=none):upd H p u a=some o:=by rw[upd_ne (ne_of_none h hp)];exact h
@[elab_as_elim] theorem fresh_of {G:Hp→Prop} {H:Hp} {p:Addr} {o:HO} (n:H p=none) (k:∀ H',Same H H'→H' p=some o→G H'):G (upd H p o):=k _ ((Same.refl H).upd n) upd_same
def DsOk (ds:List Int):Prop:=ds.length≤2000∧∀ x∈ds,0≤x∧x<1000
def DkAt (H:Hp)(d:Addr):Prop:=∃ ds:List Int,H d=some (.lst (ds.map V.int))∧DsOk ds
def Kp (d:Addr)(H H':Hp):Prop:=∀ b o,b≠d→H b=some o→H' b=some o
theorem Kp.refl (d:Addr)(H:Hp):Kp d H H:=fun _ _ _ h=>h
theorem Kp.trans {d:Addr}{H H1 H2:Hp}(a:Kp d H H1)(b:Kp d H1 H2):Kp d H H2:=fun c o hc e=>b c o hc (a c o hc e)
theorem Same.kp {d:Addr}{H H':Hp}(s:Same H H'):Kp d H H':=fun b o _ h=>s b o h
theorem Kp.free {d:Addr}{H H':Hp}(k:Kp d H H')(hd:DkAt H' d){l:Addr}(h:H' l=none):H l=none:=by
 cases e:H l with
 | none=>rfl
 | some o =>
  by_cases q:l=d
  ·subst q;obtain⟨ds,e',_⟩:=hd;rw[e'] at h;cases h
  ·rw[k l o q e] at h;cases h
theorem Kp.new {d:Addr}{H H':Hp}(k:Kp d H H'){p:Addr}{o:HO}(hp:H p=none):Kp d H (upd H' p o):=fun b u hb e=>by
 rw[upd_ne (ne_of_none e hp)];exact k b u hb e
theorem DkAt.new {d:Addr}{H:Hp}(h:DkAt H d){p:Addr}{o:HO}(hp:p≠d):DkAt (upd H p o) d:=by
 obtain⟨ds,e,hl⟩:=h;exact⟨ds,by rw[upd_ne hp.symm];exact e,hl⟩
theorem DkAt.ne {d p:Addr}{H:Hp}(h:DkAt H d)(hp:H p=none):p≠d:=fun e=>by
 subst e;obtain⟨ds,e,_⟩:=h;rw[hp] at e;cases e
theorem DkAt.same {d:Addr}{H H':Hp}(h:DkAt H d)(s:Same H H'):DkAt H' d:=by
 obtain⟨ds,e,hl⟩:=h;exact⟨ds,s _ _ e,hl⟩
theorem Kp.tp {d:Addr}{H H':Hp}(k:Kp d H H')(hd:DkAt H d):Tp H H':=fun a xs h=>by
 refine k a _ (fun e=>?_) h;subst e;obtain⟨ds,e',_⟩:=hd;rw[h] at e';cases e'
def sp_mixed:Sp:=fun vs H Q _=>∃ c k:Int,vs=[.int c,.int k]∧0≤k∧k<2 ^ 30∧∀ z:Int,Q (.int z) H
def sp_next:Sp:=fun vs H Q _=>∃ (d:Addr) (ns:List Int),vs=[.ref d]∧H d=some (.lst (ns.map V.int))∧∀ (z:Int) (ns':List Int),ns'.length≤ns.length→(∀ x∈ns',x∈ns)→(z=0∨z∈ns)→Q (.int z) (upd H d (.lst (ns'.map V.int)))
theorem next_useB {H:Hp}{d:Addr}{Q:VK}{E:XK}(hd:DkAt H d)(h:∀ z H',Kp d H H'→DkAt H' d→0≤z→z<1000→Q (.int z) H'):sp_next [.ref d] H Q E:=by
 obtain⟨ds,e,hl,hb⟩:=hd;refine⟨d,ds,rfl,e,fun z ns' hn hs hz=>?_⟩;have hz':0≤z∧z<1000:=by
  rcases hz with rfl | hz
  ·exact⟨by decide,by decide⟩
  ·exact hb z hz
 exact h z _ (fun b o hb eb=>by rw[upd_ne hb];exact eb) ⟨ns',upd_same,by omega,fun x hx=>hb x (hs x hx)⟩ hz'.1 hz'.2
def sp_deck (K:PySem.W.Frag):Sp:=fun vs H Q _=>∃ (a:Addr) (m:Int) (ns:List Int),vs=[.ref a,.int m]∧SqL K H a (ns.map V.int)∧ns.length≤63∧0≤m∧m≤2000 ∧
 ∀ (p:Addr) (ds:List Int) (H':Hp),DsOk ds→Same H H'→H p=none→H' p=some (.lst (ds.map V.int))→Q (.ref p) H'
def sp_law (K:PySem.W.Frag):Sp:=fun vs H Q _=>∃ (a:Addr) (ns:List Int),vs=[.ref a]∧SqL K H a (ns.map V.int)∧ns.length≤63∧∀ H',Q (.bl true) H'
def tl (t:Int×Int):List Int:=[t.1,t.2]
def Lex (t u:Int×Int):Prop:=t.1<u.1∨(t.1=u.1∧t.2<u.2)
structure PsAt (H:Hp)(ps:List (Addr×List Int))(ts:List (Int×Int)):Prop where
 to:∀ x∈ps,H x.1=some (.tup (x.2.map V.int))
 eq:ps.map (·.2)=ts.map tl
def TsAt (H:Hp)(q:Addr)(ts:List (Int×Int)):Prop:=∃ ps:List (Addr×List Int),H q=some (.tup (ps.map fun x=>V.ref x.1))∧PsAt H ps ts
def WebAt (H:Hp)(w:Addr)(n:Int)(ts:List (Int×Int)):Prop:=∃ q,H w=some (.tup [.int n,.ref q])∧TsAt H q ts
theorem PsAt.tp {H H':Hp}{ps:List (Addr×List Int)}{ts:List (Int×Int)}(h:PsAt H ps ts)(t:Tp H H'):PsAt H' ps ts:=⟨fun x hx=>t _ _ (h.to x hx),h.eq⟩
theorem TsAt.tp {H H':Hp}{q:Addr}{ts:List (Int×Int)}(h:TsAt H q ts)(t:Tp H H'):TsAt H' q ts:=by
 obtain⟨ps,e,p⟩:=h;exact⟨ps,t _ _ e,p.tp t⟩
theorem WebAt.tp {H H':Hp}{w:Addr}{n:Int}{ts:List (Int×Int)}(h:WebAt H w n ts)(t:Tp H H'):WebAt H' w n ts:=by
 obtain⟨q,e,p⟩:=h;exact⟨q,t _ _ e,p.tp t⟩
theorem PsAt.get {H:Hp}{ps:List (Addr×List Int)}{ts:List (Int×Int)}(h:PsAt H ps ts){i:Nat}{v:V}(e:(ps.map fun x=>V.ref x.1)[i]?=some v) :
  ∃ a t,v=.ref a∧ts[i]?=some t∧H a=some (.tup [.int t.1,.int t.2]):=by
 rw[List.getElem?_map] at e;cases hx:ps[i]? with
 | none=>rw[hx] at e;cases e
 | some x =>
  rw[hx] at e;have e1:V.ref x.1=v:=Option.some.inj e;have e2:(ps.map (·.2))[i]?=some x.2:=by rw[List.getElem?_map,hx];rfl
  rw[h.eq,List.getElem?_map] at e2;cases ht:ts[i]? with
  | none=>rw[ht] at e2;cases e2
  | some t =>
   rw[ht] at e2;have e3:tl t=x.2:=Option.some.inj e2;refine⟨x.1,t,e1.symm,rfl,?_⟩;rw[h.to x (List.mem_of_getElem? hx),← e3];rfl
theorem PsAt.len {H:Hp}{ps:List (Addr×List Int)}{ts:List (Int×Int)}(h:PsAt H ps ts):ps.length=ts.length:=by
 have:=congrArg List.length h.eq;simpa using this
def un (l:List Int):Int×Int:=(l.getD 0 0,l.getD 1 0)
theorem un_tl (t:Int×Int):un (tl t)=t:=rfl
theorem PsAt.of_perm {H:Hp}{ps:List (Addr×List Int)}{ts:List (Int×Int)}(h:∀ x∈ps,H x.1=some (.tup (x.2.map V.int)))(pm:(ps.map (·.2)).Perm (ts.map tl)):∃ ts',ts'.Perm ts∧PsAt H ps ts':=by
 refine⟨(ps.map (·.2)).map un,?_,h,?_⟩
 ·have:=pm.map un;rw[List.map_map (l:=ts),show (un ∘ tl)=id from funext un_tl,List.map_id] at this;exact this
 ·rw[List.map_map];conv=>lhs;rw[← List.map_id (ps.map (·.2))]
  refine List.map_congr_left fun l hl=>?_
  obtain⟨t,_,rfl⟩:=List.mem_map.mp (pm.mem_iff.mp hl);rfl
theorem PsAt.perm {H:Hp}{ps ps':List (Addr×List Int)}{ts:List (Int×Int)}(h:PsAt H ps ts)(pm:ps'.Perm ps):∃ ts',ts'.Perm ts∧PsAt H ps' ts' :=
 PsAt.of_perm (fun x hx=>h.to x (pm.mem_iff.mp hx)) (by rw[← h.eq];exact pm.map _)
theorem PsAt.srt {H:Hp}{ps:List (Addr×List Int)}{ts:List (Int×Int)}(h:PsAt H ps ts)(s:ps.Pairwise fun x y=>HT.lexLt y.2 x.2=false):ts.Pairwise fun x y=>HT.lexLt (tl y) (tl x)=false:=by
 have h1:(ps.map (·.2)).Pairwise fun x y=>HT.lexLt y x=false:=List.pairwise_map.mpr s
 rw[h.eq] at h1;exact List.pairwise_map.mp h1
theorem PsAt.src {K:PySem.W.Frag}{H:Hp}{p:Addr}{ps:List (Addr×List Int)}{ts:List (Int×Int)}(h:PsAt H ps ts)(e:H p=some (.lst (ps.map fun x=>V.ref x.1))):SrcT K H p ps:=by
 refine⟨.inl (SqL.of e),fun x hx=>⟨h.to x hx,fun e2=>?_⟩⟩;have:x.2∈ps.map (·.2):=List.mem_map_of_mem hx;rw[h.eq] at this;obtain⟨t,_,e3⟩:=List.mem_map.mp this;rw[e2] at e3;cases e3
theorem PsAt.snoc {H:Hp}{ps:List (Addr×List Int)}{ts:List (Int×Int)}(h:PsAt H ps ts){q:Addr}{t:Int×Int}(e:H q=some (.tup [.int t.1,.int t.2])):PsAt H (ps++[(q,tl t)]) (ts++[t]):=by
 refine⟨fun x hx=>?_,by rw[List.map_append,List.map_append,h.eq];rfl⟩;rcases List.mem_append.mp hx with hx | hx
 ·exact h.to x hx
 ·cases List.mem_singleton.mp hx;exact e
def nm (ks:List Int)(u:Int):Int:=ks.getD u.toNat 0
section
variable {ks:List Int}{n:Int}
theorem lex_iff {t u:Int×Int}:HT.lexLt (tl t) (tl u)=true↔Lex t u:=by
 unfold tl Lex;rw[HT.lexLt_cons];split
 ·rename_i h;rw[HT.lexLt_cons];split
  ·rename_i h2;constructor
   ·intro e;cases e
   ·intro e;omega
  ·rename_i h2;rw[decide_eq_true_iff];constructor
   ·intro e;exact .inr ⟨h,e⟩
   ·intro e;rcases e with e | e
    ·omega
    ·exact e.2
 ·rename_i h;rw[decide_eq_true_iff];constructor
  ·intro e;exact .inl e
  ·intro e;rcases e with e | e
   ·exact e
   ·exact absurd e.1 h
end
end L2
end
section
set_option Elab.async false
set_option linter.all false
set_option maxRecDepth 100000
namespace L2
open PySem
section
variable {H H':Hp}{p:Addr}{as:List Addr}{rows:List (List Int)}
end
theorem TsAt.get {H:Hp}{q:Addr}{ts:List (Int×Int)}(h:TsAt H q ts):∃ xs,H q=some (.tup xs)∧xs.length=ts.length∧∀ (i:Nat) v,xs[i]?=some v→∃ a t,v=.ref a∧ts[i]?=some t∧H a=some (.tup [.int t.1,.int t.2]):=by
 obtain⟨ps,e,hp⟩:=h;exact⟨_,e,by rw[List.length_map];exact hp.len,fun i v hv=>hp.get hv⟩
end L2
end
section
set_option Elab.async false
set_option linter.all false
set_option maxRecDepth 100000
namespace L2
open PySem
section
variable {K:PySem.W.Frag}{H:Hp}{p:Addr}{us:List Int}{x:Int}{Q:VK}
end
theorem fil_pos (p:Int→Bool){x:Int}(h:p x=true):[x].filter p=[x]:=List.filter_cons_of_pos h
theorem fil_neg (p:Int→Bool){x:Int}(h:¬ p x=true):[x].filter p=[]:=List.filter_cons_of_neg h
end L2
end
section
set_option maxHeartbeats 8000000
local macro_rules | `(tactic| omega)=>`(tactic| first | lia | omega +splitDisjunctions)
set_option Elab.async false
set_option linter.all false
set_option maxRecDepth 100000
namespace STab
open PySem PySem.SetTable
end STab
end
section
set_option Elab.async false
set_option linter.all false
set_option maxRecDepth 100000
namespace Srt
open PySem PyProof.Rows
section
variable {prog:Program}{w:World}{A:Around}{E:Value→Shared→Prop}{s:Shared}
end
end Srt
end
section
set_option Elab.async false
set_option linter.all false
set_option maxRecDepth 100000
namespace Srt
open PySem PyProof.Rows
section
variable {prog:Program}{w:World}{A:Around}{E:Value→Shared→Prop}{s:Shared}
end
end Srt
end
section
set_option Elab.async false
set_option linter.all false
set_option maxRecDepth 100000
namespace Srt
open PySem PyProof.Rows
end Srt
namespace Srt
open PySem PyProof.Rows
section
variable {prog:Program}{w:World}{A:Around}{E:Value→Shared→Prop}{s:Shared}
end
end Srt
end
section
set_option Elab.async false
set_option linter.all false
set_option maxRecDepth 100000
namespace Srt
open PySem PyProof.Rows PySem.W
section
variable {prog:Program}{w:World}{A:Around}{E:Value→Shared→Prop}{s:Shared}
end
end Srt
end
section
set_option Elab.async false
set_option linter.all false
set_option maxRecDepth 100000
namespace Srt
open PySem PyProof.Rows PySem.W
section
variable {prog:Program}{w:World}{A:Around}{E:Value→Shared→Prop}{s:Shared}
end
end Srt
namespace L2
open PySem PySem.Spec PyProof.Rows PySem.W
section
variable {X:Cx}{pins:List (Addr×Obj)}{σ:St}{H:Hp}{s:Shared}{x y:Str}{e:Expr}{p p' pos pos':Pos}{t:TA}
end
end L2
end
section
set_option Elab.async false
set_option linter.all false
set_option maxRecDepth 100000
namespace L2
open PySem PySem.Spec PyProof.Rows
section
variable {X:Cx}{pins:List (Addr×Obj)}{σ:St}{H:Hp}{s:Shared}{h':Heap}
end
section
variable {X:Cx}{K:PySem.W.Frag}{elts:List Expr}{k:Nat}{tpos p pos:Pos}{l:Expr}{t:TA}{y:Str}
end
section
variable {K:PySem.W.Frag}{a p:Addr}{xs:List V}{g:TG}{tc:TT}{te tv:TE}{τ0:St}{H0:Hp}{EE:Hp→Prop}
end
structure Bt2 (mg:Str→Option Value):Prop where
 isinstance:mg "isinstance"=none
 bool:mg "bool"=none
 all:mg "all"=none
 set:mg "set"=none
 enumerate:mg "enumerate"=none
 zip:mg "zip"=none
end L2
end
section
set_option Elab.async false
set_option linter.all false
set_option maxRecDepth 100000
namespace L2
open PySem
section
variable {n:Int}{ts:List (Int×Int)}{A:Int→Prop}{u v:Int}{fs ws:List Int}{j:Nat}
end
section
variable {H Hc:Hp}{me wl:Addr}{fs ws:List Int}{n:Int}
end
end L2
end
section
set_option Elab.async false
set_option linter.all false
set_option maxRecDepth 100000
namespace L2
open PySem
def tI (l:List Int):PyData:=.tuple (l.map PyData.int)
theorem canLay_tI:∀ ls:List (List Int),PyData.canLayAll0 (ls.map tI)=true
 | []=>rfl
 | n::r=>by
  rw[List.map_cons,PyData.canLayAll0,canLay_tI r];unfold tI;rw[PyData.canLay0,canLay_ints];rfl
theorem depth_tI:∀ ls:List (List Int),PyData.depthAll (ls.map tI)≤1
 | []=>Nat.zero_le _
 | n::r=>by
  rw[List.map_cons,PyData.depthAll];have:=depth_tI r;unfold tI at this ⊢;rw[PyData.depth,depth_ints];omega
theorem shaped_TT (ls:List (List Int)):SeqAt.shaped (.tuple (ls.map tI))=true:=by
 unfold SeqAt.shaped;rw[PyData.canLay0,PyData.depth,canLay_tI];have:=depth_tI ls;rw[Bool.true_and,decide_eq_true_iff];omega
theorem eqv_TT:∀ ls ms:List (List Int),PyData.eqvAll (ls.map tI) (ms.map tI)=decide (ls=ms)
 | [],[]=>rfl
 | [],_::_=>rfl
 | _::_,[]=>rfl
 | a::r,b::t=>by
  rw[List.map_cons,List.map_cons,PyData.eqvAll,eqv_TT r t];unfold tI;rw[eqv_tupI];by_cases h:a=b<;>by_cases h':r=t<;>simp[h,h']
theorem Dts.tups {K:PySem.W.Frag}{H:Hp}:∀ {ps:List (Addr×List Int)},(∀ x∈ps,SqT K H x.1 (x.2.map V.int))→Dts K H (ps.map fun x=>V.ref x.1) ((ps.map (·.2)).map tI)
 | [],_=>.nil
 | p::r,h=>.cons (.tupI (h p (List.mem_cons_self ..))) (Dts.tups fun x hx=>h x (List.mem_cons_of_mem _ hx))
def LsAt (H:Hp)(p:Addr)(ls:List (List Int)):Prop:=∃ ps:List (Addr×List Int),H p=some (.tup (ps.map fun x=>V.ref x.1))∧(∀ x∈ps,H x.1=some (.tup (x.2.map V.int)))∧ps.map (·.2)=ls
theorem LsAt.tp {H H':Hp}{p:Addr}{ls:List (List Int)}(h:LsAt H p ls)(t:Tp H H'):LsAt H' p ls:=by
 obtain⟨ps,e,ha,hl⟩:=h;exact⟨ps,t _ _ e,fun x hx=>t _ _ (ha x hx),hl⟩
theorem LsAt.dt {K:PySem.W.Frag}{H:Hp}{p:Addr}{ls:List (List Int)}(h:LsAt H p ls):Dt K H (.ref p) (.tuple (ls.map tI)):=by
 obtain⟨ps,e,ha,rfl⟩:=h;exact .tup (SqT.of e) (Dts.tups fun x hx=>SqT.of (ha x hx))
section
variable {n:Int}{ts:List (Int×Int)}{us:List Int}{u x:Int}
end
end L2
end
section
set_option Elab.async false
set_option linter.all false
set_option maxRecDepth 100000
namespace L2
open PySem PySem.Spec PyProof.Rows
section
variable {X:Cx}
theorem pe_ty {x:Str}{n:String}{pos:Pos}(hg:Gl X x)(hm:X.mg x=none)(hv:bootBuiltins x=some (.type n))(hn:x≠"__name__":=by decide)(hd:(x == ("__debug__":Str))=false:=by decide):PE X (.Name x pos) (tC (.ty n)) :=
 fun _ _ _ H _ I h=>ld_blt I hg hm hv ⟨.ty n,H,I,rfl,h⟩ hn hd
def cIsi (K:PySem.W.Frag):List V→Hp→VK→Prop:=fun xs H Q=>∃ (x:V) (n:String) (t:Value) (b:Bool),xs=[x,.ty n]∧TyOf K H x t∧PySem.W.kitOne K t (.type n)=some b∧Q (.bl b) H
theorem call_isi:CallR X (.builtin "isinstance") (cIsi X.K):=by
 intro pins s σ H xs us Q I r h;obtain⟨x,n,t,b,rfl,ty,e,q⟩:=h;obtain⟨u,w',rfl,rx,rn⟩:=vals2 r;cases (show w'=Value.type n from rn);exact isinst_ok I rx ty e fun tk=>⟨.bl b,H,I.tok _,rfl,q⟩
theorem isiK (K:PySem.W.Frag)(h:X.K=K:=by rfl):CallR X (.builtin "isinstance") (cIsi K):=by subst h;exact call_isi
theorem bools_get:∀ {bs:List Bool} {us:List Value},Vals (bs.map V.bl) us→∀ (i:Nat) (v:Value),us[i]?=some v→v=Value.bool (bs.getD i true)
 | [],_,.nil,i,v,h=>by simp at h
 | b::r,_,.cons q t,0,v,h=>by simp at h;subst h;exact q
 | b::r,_,.cons q t,i+1,v,h=>by simp at h;exact bools_get t i v h
theorem range_all (bs:List Bool):(List.range bs.length).all (fun i=>bs.getD i true)=bs.all id:=by
 induction bs with
 | nil=>rfl
 | cons b r ih =>
  rw[List.length_cons,List.range_succ_eq_map,List.all_cons,List.all_map,List.all_cons];congr 1
def cAll (K:PySem.W.Frag):List V→Hp→VK→Prop:=fun xs H Q=>∃ (p:Addr) (bs:List Bool),xs=[.ref p]∧SqL K H p (bs.map V.bl)∧Q (.bl (bs.all id)) H
theorem call_allB (hh:X.A.handled=none):CallR X (.builtin "all") (cAll X.K):=by
 intro pins s σ H xs us Q I r h;obtain⟨p,bs,rfl,hq,q⟩:=h;obtain⟨u,rfl,ru⟩:=vals1 r;cases ru;obtain⟨its,rv,pl,hz⟩:=I.list hq;have hl:s.heap.IsList p its.toArray:=pl.isList;have hlen:its.length=bs.length:=by rw[← rv.length,List.length_map]
 refine call_all_walk (wpAny_pyIter_list hl ?_);have hpu:∀ b o,s.heap.get? b=some o→(s.heap.push {cls:=.type "list_iterator",data:=.fields #[.ref p,.int 0 0]}).get? b=some o:=fun b o e=>Heap.get?_push_of_some _ e
 have hne:p≠s.heap.objs.size:=by
  obtain⟨o,ho,_⟩:=hl;exact Nat.ne_of_lt (Heap.lt_size ho)
 refine⟨_,_,_,_,_,_,fun i=>bs.getD i true,rfl,Walks.list (prog:=X.prog) (w:=X.w) (A:=X.A.in1) hh s.heap.objs.size p hne its.toArray,⟨⟨_,Heap.get?_push_size _ rfl,rfl,rfl⟩,hl.at fun o e=>hpu _ _ e⟩,?_,?_⟩
 ·intro i v s' Q' E' hP hQ;have:v=Value.bool (bs.getD i true):=bools_get rv i v (by simpa using hP);subst this;exact wpAny_truthy_bool hQ
 ·intro h' tk hk;have e:(List.range its.toArray.size).all (fun i=>bs.getD i true)=bs.all id:=by rw[List.size_toArray,hlen];exact range_all bs
  rw[e];refine⟨.bl _,H,I.kept fun b o eb=>hk b o (fun hm=>?_) (hpu b o eb),rfl,q⟩;rw[List.mem_singleton.mp hm] at eb;exact absurd (Heap.lt_size eb) (Nat.lt_irrefl _)
theorem allK (K:PySem.W.Frag)(hh:X.A.handled=none)(h:X.K=K:=by rfl):CallR X (.builtin "all") (cAll K):=by subst h;exact call_allB hh
end
end L2
end
section
set_option Elab.async false
set_option linter.all false
set_option maxRecDepth 100000
namespace L2
open PySem
def mm (a b:Int):Int×Int:=(if b<a then b else a,if b>a then b else a)
section
variable {n:Int}{ts us:List (Int×Int)}{ins:List Int}
theorem lex_srt {us:List (Int×Int)}(hs:us.Pairwise fun x y=>HT.lexLt (tl y) (tl x)=false)(hn:us.Nodup):us.Pairwise Lex:=by
 refine (List.Pairwise.and hs hn).imp ?_;rintro a b ⟨h1,h2⟩;have h3:¬ Lex b a:=fun e=>by rw[lex_iff.mpr e] at h1;cases h1
 unfold Lex at h3 ⊢;have h4:¬ (a.1=b.1∧a.2=b.2):=fun e=>h2 (by cases a;cases b;simp at e;rw[e.1,e.2])
 omega
end
end L2
end
section
set_option Elab.async false
set_option linter.all false
set_option maxRecDepth 100000
namespace L2
open PySem PySem.Spec PyProof.Rows
section
variable {X:Cx}
end
theorem TsAt.ls {H:Hp}{q:Addr}{ts:List (Int×Int)}(h:TsAt H q ts):LsAt H q (ts.map tl):=by
 obtain⟨ps,e,hp⟩:=h;exact⟨ps,e,hp.to,hp.eq⟩
end L2
namespace L2
open PySem PySem.Spec PyProof.Rows PySem.W
section
variable {X:Cx}{x y:Str}{e1 e2 e3:Expr}{p p' pos pos':Pos}{t:TA}
end
end L2
end
section
set_option Elab.async false
set_option linter.all false
set_option maxRecDepth 100000
namespace HT
open PySem PyProof.Rows
section
variable {prog:Program}{w:World}{A:Around}{E:Value→Shared→Prop}{s:Shared}
end
end HT
namespace L2
open PySem PySem.Spec PyProof.Rows
section
variable {X:Cx}{e st:Expr}{te ts:TE}{p2 pos:Pos}
end
end L2
end
section
set_option Elab.async false
set_option linter.all false
set_option maxRecDepth 100000
namespace Srt
open PySem PyProof.Rows
section
variable {prog:Program}{w:World}{A:Around}{E:Value→Shared→Prop}{s:Shared}{z TI TO i1 i2 l1 l2:Addr}{n1 n2 k:Nat}{P1 P2:Nat→Value→Prop}{S1 S2:Nat→Heap→Prop}{a b:Value}
end
section
variable {prog:Program}{w:World}{A:Around}{E:Value→Shared→Prop}{s:Shared}
end
end Srt
end
section
set_option Elab.async false
set_option linter.all false
set_option maxRecDepth 100000
namespace L2
open PySem PySem.Spec PyProof.Rows
section
variable {X:Cx}{K:PySem.W.Frag}{elts:List Expr}{k:Nat}{tpos p pos:Pos}{l m:Expr}{t:TA}{y:Str}
end
end L2
end
section
set_option maxHeartbeats 8000000
local macro_rules | `(tactic| omega)=>`(tactic| first | lia | omega +splitDisjunctions)
set_option Elab.async false
set_option linter.all false
set_option maxRecDepth 100000
namespace L2
open PySem
section
variable {n g one:Int}{us:List (Int×Int)}{par:Int→Int}{rank:Int→Nat}
end
section
variable {n g p:Int}{us:List (Int×Int)}{par:Int→Int}{rank:Int→Nat}{vs ws:List Int}{j:Nat}
end
end L2
end
section
set_option Elab.async false
set_option linter.all false
set_option maxRecDepth 100000
namespace STab
open PySem PySem.SetTable
end STab
end
section
set_option Elab.async false
set_option linter.all false
set_option maxRecDepth 100000
namespace STab
open PySem
end STab
end
section
set_option Elab.async false
set_option linter.all false
set_option maxRecDepth 100000
namespace Srt
open PySem PyProof.Rows
section
variable {prog:Program}{w:World}{A:Around}{E:Value→Shared→Prop}{s:Shared}
end
end Srt
end
section
set_option Elab.async false
set_option linter.all false
set_option maxRecDepth 100000
namespace STab
open PySem L2
end STab
namespace Srt
open PySem PyProof.Rows PySem.W
section
variable {prog:Program}{w:World}{A:Around}{E:Value→Shared→Prop}{s:Shared}
end
end Srt
namespace L2
open PySem PySem.Spec PyProof.Rows PySem.W
section
variable {X:Cx}{pins:List (Addr×Obj)}{σ:St}{H:Hp}{s:Shared}{x y:Str}{e:Expr}{p p' pos pos':Pos}{t:TA}
end
end L2
end
section
set_option Elab.async false
set_option linter.all false
set_option maxRecDepth 100000
namespace L2
open PySem PySem.Spec PyProof.Rows
end L2
end
section
set_option Elab.async false
set_option linter.all false
set_option maxRecDepth 100000
namespace L2
open PySem PySem.Spec PyProof.Rows
end L2
end
section
set_option Elab.async false
set_option linter.all false
set_option maxRecDepth 100000
namespace L2
open PySem PySem.Spec PyProof.Rows
section
variable {X:Cx}
end
end L2
end
section
set_option Elab.async false
set_option linter.all false
set_option maxRecDepth 100000
namespace L2
open PySem PySem.Spec PyProof.Rows
section
variable {X:Cx}
end
end L2
end
section
set_option Elab.async false
set_option linter.all false
set_option maxRecDepth 100000
namespace L2
open PySem PySem.Spec PyProof.Rows
section
variable {k m c:Nat}{d:PyData}{ds:List PyData}
def webD (n:Int)(ts:List (Int×Int)):PyData:=.tuple [.int n,.tuple ((ts.map tl).map L2.tI)]
theorem WebAt.dt {K:PySem.W.Frag}{H:Hp}{w:Addr}{n:Int}{ts:List (Int×Int)}(h:WebAt H w n ts):Dt K H (.ref w) (webD n ts):=by
 obtain⟨q,e,ht⟩:=h;exact .tup (SqT.of e) (.cons (.int n) (.cons ht.ls.dt .nil))
theorem TsAt.dt {K:PySem.W.Frag}{H:Hp}{w:Addr}{ts:List (Int×Int)}(h:TsAt H w ts):Dt K H (.ref w) (.tuple ((ts.map tl).map L2.tI)):=h.ls.dt
end
end L2
end
section
set_option Elab.async false
set_option linter.all false
set_option maxRecDepth 100000
namespace L2
open PySem PySem.Spec PyProof.Rows
section
variable {X:Cx}{pins:List (Addr×Obj)}{σ:St}{H:Hp}{s:Shared}
end
end L2
end
section
set_option Elab.async false
set_option linter.all false
set_option maxRecDepth 100000
namespace L2
open PySem PySem.Spec PyProof.Rows
section
variable {c k m:Nat}{d:PyData}{ds:List PyData}{H:Hp}
end
end L2
end
section
set_option Elab.async false
set_option linter.all false
set_option maxRecDepth 100000
namespace L2
open PySem
section
variable {K:PySem.W.Frag}{a p:Addr}{g:TG}{tc:TT}{te:TE}{fr:St}{H1:Hp}{EE:Hp→Prop}
end
end L2
end
section
set_option Elab.async false
set_option linter.all false
set_option maxRecDepth 100000
namespace HT
open PySem PyProof.Rows
section
variable {prog:Program}{w:World}{A:Around}{E:Value→Shared→Prop}{s:Shared}
end
end HT
namespace L2
open PySem PySem.Spec PyProof.Rows
section
variable {X:Cx}
end
section
variable {K:PySem.W.Frag}{a p:Addr}{g:TG}{tc:TT}{te tv:TE}{fr:St}{H1:Hp}{EE:Hp→Prop}
end
end L2
end
section
set_option Elab.async false
set_option linter.all false
set_option maxRecDepth 100000
namespace L2
open PySem PySem.Spec PyProof.Rows
section
variable {X:Cx}
end
end L2
end
section
set_option Elab.async false
set_option linter.all false
namespace L2
open PySem PySem.Spec PyProof.Rows
section
variable {X:Cx}
end
end L2
end
section
set_option Elab.async false
set_option linter.all false
set_option maxRecDepth 100000
namespace L2
open PySem PySem.Spec PyProof.Rows
section
variable {A:Addr→Prop}{d p:Addr}{H H':Hp}
end
section
variable {X:Cx}{A:Addr→Prop}{P:St→Hp→Prop}{c k m m' n:Nat}{e:Expr}{es:List Expr}{te:TE}{j:Option Str}{pos p2:Pos}
end
end L2
end
section
set_option Elab.async false
set_option linter.all false
set_option maxRecDepth 100000
namespace L2
open PySem
section
variable {n:Int}{ts us:List (Int×Int)}
end
end L2
end
section
set_option Elab.async false
set_option linter.all false
set_option maxRecDepth 100000
namespace Srt
open PySem PyProof.Rows
section
variable {prog:Program}{w:World}{A:Around}{E:Value→Shared→Prop}{s:Shared}{e it l:Addr}{n k:Nat}{P:Nat→Value→Prop}{S:Nat→Heap→Prop}{old:Value}
end
open AutoSeq1 (wpAny_loadPart')
section
variable {prog:Program}{w:World}{A:Around}{E:Value→Shared→Prop}{s:Shared}
end
end Srt
end
section
set_option Elab.async false
set_option linter.all false
set_option maxRecDepth 100000
namespace L2
open PySem PySem.Spec PyProof.Rows
section
variable {X:Cx}{K:PySem.W.Frag}{elts:List Expr}{k:Nat}{tpos p pos:Pos}{l:Expr}{t:TA}{y:Str}
end
end L2
end
section
set_option Elab.async false
set_option linter.all false
set_option maxRecDepth 100000
namespace L2
open PySem PySem.Spec PyProof.Rows
section
variable {X:Cx}
end
end L2
end
section
set_option Elab.async false
set_option linter.all false
set_option maxRecDepth 100000
namespace L2
open PySem
section
variable {n g:Int}{us ts:List (Int×Int)}{par:Int→Int}{rank:Int→Nat}
theorem lex_ext {l l':List (Int×Int)}(h:l.Pairwise Lex)(h':l'.Pairwise Lex)(e:∀ x,x∈l↔x∈l'):l=l':=by
 have nd:∀ {m:List (Int×Int)},m.Pairwise Lex→m.Nodup:=fun hm=>hm.imp fun {a b} hab e'=>by subst e';unfold Lex at hab;omega
 refine List.Perm.eq_of_pairwise (le:=Lex) (fun a b _ _ x y=>by unfold Lex at x y;omega) h h' ?_;exact (List.perm_ext_iff_of_nodup (nd h) (nd h')).mpr e
end
def dV:V→PyData
 | .int i=>.int i
 | _=>.none
end L2
end
section
set_option Elab.async false
set_option linter.all false
set_option maxRecDepth 100000
namespace L2
open PySem PySem.Spec PyProof.Rows
section
variable {X:Cx}
end
def ForJ (g:TG)(tb:TS)(D:Ends)(σ:St)(J:It)(H1:Hp):Prop:=tFor (fun _ H R=>R J H) g tb D σ H1
theorem tFor_eq {wi:TI}{g:TG}{tb:TS}{D:Ends}{σ:St}{H:Hp}:tFor wi g tb D σ H=wi σ H (fun J H1=>ForJ g tb D σ J H1):=rfl
end L2
end
section
set_option Elab.async false
set_option linter.all false
set_option maxRecDepth 100000
namespace L2
open PySem
section
variable {n:Int}{ts:List (Int×Int)}{A B:Int→Prop}{u v x:Int}
end
end L2
end
section
set_option Elab.async false
set_option linter.all false
set_option maxRecDepth 100000
namespace L2
open PySem
structure TB where
 vs:List Int
 ws:List Int
 par:Int→Int
section
variable {n g p:Int}{ts:List (Int×Int)}{bs:List Int}{s:TB}{j:Nat}
end
end L2
end
section
set_option Elab.async false
set_option linter.all false
set_option maxRecDepth 100000
namespace L2
open PySem
section
variable {n:Int}{ts gs us:List (Int×Int)}{ins:List Int}
end
end L2
end
section
set_option Elab.async false
set_option linter.all false
set_option maxRecDepth 100000
namespace L2
open PySem
theorem lex_nd {A:List (Int×Int)}(h:A.Pairwise Lex):A.Nodup:=h.imp fun {x y} hl e=>by
 rw[e] at hl;rcases hl with h | h<;>omega
section
variable {n:Int}{ts T T' T'':List (Int×Int)}{put taken:Int×Int}
end
end L2
namespace L2
open PySem
section
variable {lv:List (Int×Int)→Nat}{n:Int}{A B T:List (Int×Int)}{put taken:Int×Int}
end
end L2
end
section
set_option Elab.async false
set_option linter.all false
set_option maxRecDepth 100000
namespace L2
open PySem
section
variable {n:Int}{ts:List (Int×Int)}{us bs:List Int}
end
end L2
end
section
set_option Elab.async false
set_option linter.all false
set_option maxRecDepth 100000
namespace L2
open PySem PySem.Spec PyProof.Rows
section
variable {H:Hp}{n:Int}
theorem PsAt.inj {ps ps':List (Addr×List Int)}{us us':List (Int×Int)}(h:PsAt H ps us)(h':PsAt H ps' us')(e:ps.map (fun x=>V.ref x.1)=ps'.map fun x=>V.ref x.1):us=us':=by
 have hl:us.length=us'.length:=by
  have:=congrArg List.length e;rw[List.length_map,List.length_map,h.len,h'.len] at this;exact this
 refine List.ext_getElem? fun i=>?_
 rcases Nat.lt_or_ge i us.length with hi | hi
 ·obtain⟨v,h1⟩:∃ v,(ps.map fun x=>V.ref x.1)[i]?=some v:=⟨_,List.getElem?_eq_getElem (by rw[List.length_map,h.len];exact hi)⟩
  obtain⟨b,t,e1,e2,e3⟩:=h.get h1;rw[e] at h1;obtain⟨b',t',e1',e2',e3'⟩:=h'.get h1;rw[e1] at e1';cases e1';rw[e3] at e3';injection e3' with e4
  injection e4 with e5
  have e6:=List.cons.inj e5;have e7:=List.cons.inj e6.2;have:t=t':=Prod.ext (V.int.inj e6.1) (V.int.inj e7.1);rw[e2,e2',this]
 ·rw[List.getElem?_eq_none hi,List.getElem?_eq_none (by omega)]
theorem TsAt.inj {a:Addr}{us us':List (Int×Int)}(h:TsAt H a us)(h':TsAt H a us'):us=us':=by
 obtain⟨ps,e,hp⟩:=h;obtain⟨ps',e',hp'⟩:=h';rw[e] at e';injection e' with e2
 injection e2 with e3
 exact hp.inj hp' e3
end
end L2
end
section
namespace L2
theorem tV0 {v:V}{σ:St}{H:Hp}{Q:VK}:tVar 0 (some v::σ) H Q=Q v H:=propext ⟨fun ⟨_,e,q⟩=>by cases e;exact q,fun q=>⟨_,rfl,q⟩⟩
theorem gN0 {v:V}{σ:St}{H:Hp}{Q:St→Hp→Prop}{b:Option V}:gName 0 v (b::σ) H Q=Q (some v::σ) H:=rfl
theorem tV1 {v:V}{σ:St}{H:Hp}{Q:VK}{a0:Option V}:tVar 1 (a0::some v::σ) H Q=Q v H:=propext ⟨fun ⟨_,e,q⟩=>by cases e;exact q,fun q=>⟨_,rfl,q⟩⟩
theorem gN1 {v:V}{σ:St}{H:Hp}{Q:St→Hp→Prop}{b:Option V}{a0:Option V}:gName 1 v (a0::b::σ) H Q=Q (a0::some v::σ) H:=rfl
theorem tV2 {v:V}{σ:St}{H:Hp}{Q:VK}{a0 a1:Option V}:tVar 2 (a0::a1::some v::σ) H Q=Q v H:=propext ⟨fun ⟨_,e,q⟩=>by cases e;exact q,fun q=>⟨_,rfl,q⟩⟩
theorem gN2 {v:V}{σ:St}{H:Hp}{Q:St→Hp→Prop}{b:Option V}{a0 a1:Option V}:gName 2 v (a0::a1::b::σ) H Q=Q (a0::a1::some v::σ) H:=rfl
theorem tV3 {v:V}{σ:St}{H:Hp}{Q:VK}{a0 a1 a2:Option V}:tVar 3 (a0::a1::a2::some v::σ) H Q=Q v H:=propext ⟨fun ⟨_,e,q⟩=>by cases e;exact q,fun q=>⟨_,rfl,q⟩⟩
theorem gN3 {v:V}{σ:St}{H:Hp}{Q:St→Hp→Prop}{b:Option V}{a0 a1 a2:Option V}:gName 3 v (a0::a1::a2::b::σ) H Q=Q (a0::a1::a2::some v::σ) H:=rfl
theorem tV4 {v:V}{σ:St}{H:Hp}{Q:VK}{a0 a1 a2 a3:Option V}:tVar 4 (a0::a1::a2::a3::some v::σ) H Q=Q v H:=propext ⟨fun ⟨_,e,q⟩=>by cases e;exact q,fun q=>⟨_,rfl,q⟩⟩
theorem gN4 {v:V}{σ:St}{H:Hp}{Q:St→Hp→Prop}{b:Option V}{a0 a1 a2 a3:Option V}:gName 4 v (a0::a1::a2::a3::b::σ) H Q=Q (a0::a1::a2::a3::some v::σ) H:=rfl
theorem tV5 {v:V}{σ:St}{H:Hp}{Q:VK}{a0 a1 a2 a3 a4:Option V}:tVar 5 (a0::a1::a2::a3::a4::some v::σ) H Q=Q v H:=propext ⟨fun ⟨_,e,q⟩=>by cases e;exact q,fun q=>⟨_,rfl,q⟩⟩
theorem gN5 {v:V}{σ:St}{H:Hp}{Q:St→Hp→Prop}{b:Option V}{a0 a1 a2 a3 a4:Option V}:gName 5 v (a0::a1::a2::a3::a4::b::σ) H Q=Q (a0::a1::a2::a3::a4::some v::σ) H:=rfl
theorem tV6 {v:V}{σ:St}{H:Hp}{Q:VK}{a0 a1 a2 a3 a4 a5:Option V}:tVar 6 (a0::a1::a2::a3::a4::a5::some v::σ) H Q=Q v H:=propext ⟨fun ⟨_,e,q⟩=>by cases e;exact q,fun q=>⟨_,rfl,q⟩⟩
theorem gN6 {v:V}{σ:St}{H:Hp}{Q:St→Hp→Prop}{b:Option V}{a0 a1 a2 a3 a4 a5:Option V}:gName 6 v (a0::a1::a2::a3::a4::a5::b::σ) H Q=Q (a0::a1::a2::a3::a4::a5::some v::σ) H:=rfl
theorem tV7 {v:V}{σ:St}{H:Hp}{Q:VK}{a0 a1 a2 a3 a4 a5 a6:Option V}:tVar 7 (a0::a1::a2::a3::a4::a5::a6::some v::σ) H Q=Q v H:=propext ⟨fun ⟨_,e,q⟩=>by cases e;exact q,fun q=>⟨_,rfl,q⟩⟩
theorem gN7 {v:V}{σ:St}{H:Hp}{Q:St→Hp→Prop}{b:Option V}{a0 a1 a2 a3 a4 a5 a6:Option V}:gName 7 v (a0::a1::a2::a3::a4::a5::a6::b::σ) H Q=Q (a0::a1::a2::a3::a4::a5::a6::some v::σ) H:=rfl
theorem tV8 {v:V}{σ:St}{H:Hp}{Q:VK}{a0 a1 a2 a3 a4 a5 a6 a7:Option V}:tVar 8 (a0::a1::a2::a3::a4::a5::a6::a7::some v::σ) H Q=Q v H:=propext ⟨fun ⟨_,e,q⟩=>by cases e;exact q,fun q=>⟨_,rfl,q⟩⟩
theorem gN8 {v:V}{σ:St}{H:Hp}{Q:St→Hp→Prop}{b:Option V}{a0 a1 a2 a3 a4 a5 a6 a7:Option V}:gName 8 v (a0::a1::a2::a3::a4::a5::a6::a7::b::σ) H Q=Q (a0::a1::a2::a3::a4::a5::a6::a7::some v::σ) H:=rfl
theorem tV9 {v:V}{σ:St}{H:Hp}{Q:VK}{a0 a1 a2 a3 a4 a5 a6 a7 a8:Option V}:tVar 9 (a0::a1::a2::a3::a4::a5::a6::a7::a8::some v::σ) H Q=Q v H:=propext ⟨fun ⟨_,e,q⟩=>by cases e;exact q,fun q=>⟨_,rfl,q⟩⟩
theorem gN9 {v:V}{σ:St}{H:Hp}{Q:St→Hp→Prop}{b:Option V}{a0 a1 a2 a3 a4 a5 a6 a7 a8:Option V}:gName 9 v (a0::a1::a2::a3::a4::a5::a6::a7::a8::b::σ) H Q=Q (a0::a1::a2::a3::a4::a5::a6::a7::a8::some v::σ) H:=rfl
theorem tV10 {v:V}{σ:St}{H:Hp}{Q:VK}{a0 a1 a2 a3 a4 a5 a6 a7 a8 a9:Option V}:tVar 10 (a0::a1::a2::a3::a4::a5::a6::a7::a8::a9::some v::σ) H Q=Q v H:=propext ⟨fun ⟨_,e,q⟩=>by cases e;exact q,fun q=>⟨_,rfl,q⟩⟩
theorem gN10 {v:V}{σ:St}{H:Hp}{Q:St→Hp→Prop}{b:Option V}{a0 a1 a2 a3 a4 a5 a6 a7 a8 a9:Option V}:gName 10 v (a0::a1::a2::a3::a4::a5::a6::a7::a8::a9::b::σ) H Q=Q (a0::a1::a2::a3::a4::a5::a6::a7::a8::a9::some v::σ) H:=rfl
theorem tV11 {v:V}{σ:St}{H:Hp}{Q:VK}{a0 a1 a2 a3 a4 a5 a6 a7 a8 a9 a10:Option V}:tVar 11 (a0::a1::a2::a3::a4::a5::a6::a7::a8::a9::a10::some v::σ) H Q=Q v H:=propext ⟨fun ⟨_,e,q⟩=>by cases e;exact q,fun q=>⟨_,rfl,q⟩⟩
theorem gN11 {v:V}{σ:St}{H:Hp}{Q:St→Hp→Prop}{b:Option V}{a0 a1 a2 a3 a4 a5 a6 a7 a8 a9 a10:Option V}:gName 11 v (a0::a1::a2::a3::a4::a5::a6::a7::a8::a9::a10::b::σ) H Q=Q (a0::a1::a2::a3::a4::a5::a6::a7::a8::a9::a10::some v::σ) H:=rfl
theorem tV12 {v:V}{σ:St}{H:Hp}{Q:VK}{a0 a1 a2 a3 a4 a5 a6 a7 a8 a9 a10 a11:Option V}:tVar 12 (a0::a1::a2::a3::a4::a5::a6::a7::a8::a9::a10::a11::some v::σ) H Q=Q v H:=propext ⟨fun ⟨_,e,q⟩=>by cases e;exact q,fun q=>⟨_,rfl,q⟩⟩
theorem gN12 {v:V}{σ:St}{H:Hp}{Q:St→Hp→Prop}{b:Option V}{a0 a1 a2 a3 a4 a5 a6 a7 a8 a9 a10 a11:Option V}:gName 12 v (a0::a1::a2::a3::a4::a5::a6::a7::a8::a9::a10::a11::b::σ) H Q=Q (a0::a1::a2::a3::a4::a5::a6::a7::a8::a9::a10::a11::some v::σ) H:=rfl
theorem tV13 {v:V}{σ:St}{H:Hp}{Q:VK}{a0 a1 a2 a3 a4 a5 a6 a7 a8 a9 a10 a11 a12:Option V}:tVar 13 (a0::a1::a2::a3::a4::a5::a6::a7::a8::a9::a10::a11::a12::some v::σ) H Q=Q v H:=propext ⟨fun ⟨_,e,q⟩=>by cases e;exact q,fun q=>⟨_,rfl,q⟩⟩
theorem gN13 {v:V}{σ:St}{H:Hp}{Q:St→Hp→Prop}{b:Option V}{a0 a1 a2 a3 a4 a5 a6 a7 a8 a9 a10 a11 a12:Option V}:gName 13 v (a0::a1::a2::a3::a4::a5::a6::a7::a8::a9::a10::a11::a12::b::σ) H Q=Q (a0::a1::a2::a3::a4::a5::a6::a7::a8::a9::a10::a11::a12::some v::σ) H:=rfl
theorem tV14 {v:V}{σ:St}{H:Hp}{Q:VK}{a0 a1 a2 a3 a4 a5 a6 a7 a8 a9 a10 a11 a12 a13:Option V}:tVar 14 (a0::a1::a2::a3::a4::a5::a6::a7::a8::a9::a10::a11::a12::a13::some v::σ) H Q=Q v H:=propext ⟨fun ⟨_,e,q⟩=>by cases e;exact q,fun q=>⟨_,rfl,q⟩⟩
theorem gN14 {v:V}{σ:St}{H:Hp}{Q:St→Hp→Prop}{b:Option V}{a0 a1 a2 a3 a4 a5 a6 a7 a8 a9 a10 a11 a12 a13:Option V}:gName 14 v (a0::a1::a2::a3::a4::a5::a6::a7::a8::a9::a10::a11::a12::a13::b::σ) H Q=Q (a0::a1::a2::a3::a4::a5::a6::a7::a8::a9::a10::a11::a12::a13::some v::σ) H:=rfl
theorem tV15 {v:V}{σ:St}{H:Hp}{Q:VK}{a0 a1 a2 a3 a4 a5 a6 a7 a8 a9 a10 a11 a12 a13 a14:Option V}:tVar 15 (a0::a1::a2::a3::a4::a5::a6::a7::a8::a9::a10::a11::a12::a13::a14::some v::σ) H Q=Q v H:=propext ⟨fun ⟨_,e,q⟩=>by cases e;exact q,fun q=>⟨_,rfl,q⟩⟩
theorem gN15 {v:V}{σ:St}{H:Hp}{Q:St→Hp→Prop}{b:Option V}{a0 a1 a2 a3 a4 a5 a6 a7 a8 a9 a10 a11 a12 a13 a14:Option V}:gName 15 v (a0::a1::a2::a3::a4::a5::a6::a7::a8::a9::a10::a11::a12::a13::a14::b::σ) H Q=Q (a0::a1::a2::a3::a4::a5::a6::a7::a8::a9::a10::a11::a12::a13::a14::some v::σ) H:=rfl
theorem rI0i {g:Int→Int→V}{i j:Int}{H:Hp}{Q:VK}:rI0 g (.int i) (.int j) H Q=Q (g i j) H:=propext ⟨fun ⟨_,_,e,e',q⟩=>by cases e;cases e';exact q,fun q=>⟨_,_,rfl,rfl,q⟩⟩
theorem rIi {C:Int→Int→Prop}{g:Int→Int→V}{i j:Int}{H:Hp}{Q:VK}:rI C g (.int i) (.int j) H Q=(C i j∧Q (g i j) H):=propext ⟨fun ⟨_,_,e,e',q⟩=>by cases e;cases e';exact q,fun q=>⟨_,_,rfl,rfl,q⟩⟩
theorem rIxLr {K:PySem.W.Frag}{p:PySem.Addr}{i:Int}{H:Hp}{Q:VK}:rIxL K (.ref p) (.int i) H Q=∃ xs,SqL K H p xs∧∃ v,atI xs i=some v∧Q v H:=propext ⟨fun ⟨_,_,_,_,e,e',a,b,q⟩=>by cases e;cases e';exact⟨_,a,_,b,q⟩,fun ⟨_,a,_,b,q⟩=>⟨_,_,_,_,rfl,rfl,a,b,q⟩⟩
theorem rIxTr {K:PySem.W.Frag}{p:PySem.Addr}{i:Int}{H:Hp}{Q:VK}:rIxT K (.ref p) (.int i) H Q=∃ xs,SqT K H p xs∧∃ v,atI xs i=some v∧Q v H:=propext ⟨fun ⟨_,_,_,_,e,e',a,b,q⟩=>by cases e;cases e';exact⟨_,a,_,b,q⟩,fun ⟨_,a,_,b,q⟩=>⟨_,_,_,_,rfl,rfl,a,b,q⟩⟩
theorem exB {b:Bool}{P:Bool→Prop}:(∃ k,V.bl b=V.bl k∧P k)=P b:=propext ⟨fun ⟨_,e,q⟩=>by cases e;exact q,fun q=>⟨_,rfl,q⟩⟩
theorem exI {b:Int}{P:Int→Prop}:(∃ k,V.int b=V.int k∧P k)=P b:=propext ⟨fun ⟨_,e,q⟩=>by cases e;exact q,fun q=>⟨_,rfl,q⟩⟩
theorem exR {b:PySem.Addr}{P:PySem.Addr→Prop}:(∃ k,V.ref b=V.ref k∧P k)=P b:=propext ⟨fun ⟨_,e,q⟩=>by cases e;exact q,fun q=>⟨_,rfl,q⟩⟩
theorem rEqI {i j:Int}{H:Hp}{Q:VK}:rEq (.int i) (.int j) H Q=Q (.bl (decide (i=j))) H:=by
 unfold rEq;have e:decide (V.int i=V.int j)=decide (i=j):=by simp
 rw[e];simp[scal]
theorem rNeI {i j:Int}{H:Hp}{Q:VK}:rNe (.int i) (.int j) H Q=Q (.bl (!decide (i=j))) H:=by
 unfold rNe;have e:decide (V.int i=V.int j)=decide (i=j):=by simp
 rw[e];simp[scal]
theorem cLenR {K:PySem.W.Frag}{p:PySem.Addr}{H:Hp}{Q:VK}:cLen K [.ref p] H Q=∃ ys,(SqL K H p ys∨SqT K H p ys)∧Q (.int ys.length) H:=propext ⟨fun ⟨_,ys,e,a,q⟩=>by cases e;exact⟨ys,a,q⟩,fun ⟨ys,a,q⟩=>⟨_,ys,rfl,a,q⟩⟩
theorem al0 {α:Type}{P:List α→Prop}(h:P [])(us:List α)(hl:us.length=0):P us:=by cases us with
 | nil=>exact h
 | cons a r=>cases hl
theorem al1 {α:Type}{P:List α→Prop}(h:∀ a0,P [a0])(us:List α)(hl:us.length=1):P us:=by cases us with
 | nil=>cases hl
 | cons a r=>exact al0 (P:=fun r=>P (a::r)) (h a) r (Nat.succ.inj hl)
theorem al2 {α:Type}{P:List α→Prop}(h:∀ a0 a1,P [a0,a1])(us:List α)(hl:us.length=2):P us:=by cases us with
 | nil=>cases hl
 | cons a r=>exact al1 (P:=fun r=>P (a::r)) (h a) r (Nat.succ.inj hl)
theorem al3 {α:Type}{P:List α→Prop}(h:∀ a0 a1 a2,P [a0,a1,a2])(us:List α)(hl:us.length=3):P us:=by cases us with
 | nil=>cases hl
 | cons a r=>exact al2 (P:=fun r=>P (a::r)) (h a) r (Nat.succ.inj hl)
theorem al4 {α:Type}{P:List α→Prop}(h:∀ a0 a1 a2 a3,P [a0,a1,a2,a3])(us:List α)(hl:us.length=4):P us:=by cases us with
 | nil=>cases hl
 | cons a r=>exact al3 (P:=fun r=>P (a::r)) (h a) r (Nat.succ.inj hl)
end L2
end
section
set_option linter.all false
namespace L2
open PySem
theorem tSeqA {t u:TS}{D:Ends}{σ:St}{H:Hp}:tSeq t u D σ H=(t {D with nx:=u D} σ H):=rfl
theorem tAsgA {te:TE}{g:TG}{D:Ends}{σ:St}{H:Hp}:tAsg te g D σ H=(te σ H fun x H1=>g x σ H1 D.nx):=rfl
theorem tOpA {r:R2}{ta tb:TE}{σ:St}{H:Hp}{Q:VK}:tOp r ta tb σ H Q=(ta σ H fun x H1=>tb σ H1 fun y H2=>r x y H2 Q):=rfl
theorem tCA {v:V}{u0:St}{H:Hp}{Q:VK}:tC v u0 H Q=(Q v H):=rfl
theorem tRetA {te:TE}{D:Ends}{σ:St}{H:Hp}:tRet te D σ H=(te σ H D.rt):=rfl
theorem tRetNA  {D:Ends}{u0:St}{H:Hp}:tRetN D u0 H=(D.rt .non H):=rfl
theorem tIfSA {c:TT}{t u:TS}{D:Ends}{σ:St}{H:Hp}:tIfS c t u D σ H=(c σ H fun b H1=>if b=true then t D σ H1 else u D σ H1):=rfl
theorem tTestA {t:TE}{σ:St}{H:Hp}{Q:Bool→Hp→Prop}:tTest t σ H Q=(t σ H fun x H'=>∃ k,x=.bl k∧Q k H'):=rfl
theorem tBA {t:TE}{σ:St}{H:Hp}{Q:Bool→Hp→Prop}:tB t σ H Q=(t σ H fun x H1=>∃ c,x=.bl c∧Q c H1):=rfl
theorem tNextA  {D:Ends}{σ:St}{H:Hp}:tNext D σ H=(D.nx σ H):=rfl
theorem tDropA {te:TE}{D:Ends}{σ:St}{H:Hp}:tDrop te D σ H=(te σ H fun _ H1=>D.nx σ H1):=rfl
theorem tCallA {sp:Sp}{dvs:List V}{E:XK}{t:TA}{σ:St}{H:Hp}{Q:VK}:tCall sp dvs E t σ H Q=(t σ H fun vs H1=>sp (vs++dvs) H1 Q E):=rfl
theorem tConsA {ta:TE}{tr:TA}{σ:St}{H:Hp}{Q:List V→Hp→Prop}:tCons ta tr σ H Q=(ta σ H fun x H1=>tr σ H1 fun xs H2=>Q (x::xs) H2):=rfl
theorem tNilA  {u0:St}{H:Hp}{Q:List V→Hp→Prop}:tNil u0 H Q=(Q [] H):=rfl
theorem tCBA {r:List V→Hp→VK→Prop}{t:TA}{σ:St}{H:Hp}{Q:VK}:tCB r t σ H Q=(t σ H fun vs H1=>r vs H1 Q):=rfl
theorem tBMA {K:PySem.W.Frag}{T:String}{r:V→List V→Hp→VK→Prop}{to:TE}{t:TA}{σ:St}{H:Hp}{Q:VK}:tBM K T r to t σ H Q=(to σ H fun x H1=>tyV K T x H1∧t σ H1 fun xs H2=>r x xs H2 Q):=rfl
theorem tBM0A {K:PySem.W.Frag}{T:String}{r:V→List V→Hp→VK→Prop}{to:TE}{σ:St}{H:Hp}{Q:VK}:tBM0 K T r to σ H Q=(to σ H fun x H1=>tyV K T x H1∧r x [] H1 Q):=rfl
theorem tTupA {t:TA}{σ:St}{H:Hp}{Q:VK}:tTup t σ H Q=(t σ H fun xs H1=>xs.length≤sizeLine∧∀ p,H1 p=none→Q (.ref p) (upd H1 p (.tup xs))):=rfl
theorem tLstA {t:TA}{σ:St}{H:Hp}{Q:VK}:tLst t σ H Q=(t σ H fun xs H1=>xs.length≤sizeLine∧∀ p,H1 p=none→Q (.ref p) (upd H1 p (.lst xs))):=rfl
theorem gTupA {K:PySem.W.Frag}{n:Nat}{t:TGs}{v:V}{σ:St}{H:Hp}{Q:St→Hp→Prop}:gTup K n t v σ H Q=(∃ a xs,v=.ref a∧SqT K H a xs∧xs.length=n∧t xs σ H Q):=rfl
theorem gConsA {t:TG}{u:TGs}{vs:List V}{σ:St}{H:Hp}{Q:St→Hp→Prop}:gCons t u vs σ H Q=(∃ v r,vs=v::r∧t v σ H fun σ' H'=>u r σ' H' Q):=rfl
theorem gNilA  {vs:List V}{σ:St}{H:Hp}{Q:St→Hp→Prop}:gNil vs σ H Q=(vs=[]∧Q σ H):=rfl
theorem gSubA {to ti:TE}{t:TSet}{v:V}{σ:St}{H:Hp}{Q:St→Hp→Prop}:gSub to ti t v σ H Q=(to σ H fun o H1=>ti σ H1 fun i H2=>t o i v H2 fun H3=>Q σ H3):=rfl
theorem tSlA {r:V→Option Int→Option Int→Hp→VK→Prop}{te:TE}{tl th:TO}{σ:St}{H:Hp}{Q:VK}:tSl r te tl th σ H Q=(te σ H fun x H1=>tl σ H1 fun l H2=>th σ H2 fun u H3=>r x l u H3 Q):=rfl
theorem tNoPartA  {u0:St}{H:Hp}{Q:Option Int→Hp→Prop}:tNoPart u0 H Q=(Q none H):=rfl
theorem tPartA {t:TE}{σ:St}{H:Hp}{Q:Option Int→Hp→Prop}:tPart t σ H Q=(t σ H fun x H1=>∃ i,x=.int i∧Q (some i) H1):=rfl
theorem tAndA {t u:TT}{σ:St}{H:Hp}{Q:Bool→Hp→Prop}:tAnd t u σ H Q=(t σ H fun c H1=>if c=true then u σ H1 Q else Q false H1):=rfl
theorem tOrA {t u:TT}{σ:St}{H:Hp}{Q:Bool→Hp→Prop}:tOr t u σ H Q=(t σ H fun c H1=>if c=true then Q true H1 else u σ H1 Q):=rfl
theorem tNotA {t:TT}{σ:St}{H:Hp}{Q:Bool→Hp→Prop}:tNot t σ H Q=(t σ H fun c H1=>Q (!c) H1):=rfl
theorem tDInA {ty td:TE}{σ:St}{H:Hp}{Q:VK}:tDIn ty td σ H Q=(ty σ H fun y H1=>td σ H1 fun x H2=>∃ a o,x=.ref a∧DGet H2 a y o∧Q (.bl o.isSome) H2):=rfl
theorem tDNotInA {ty td:TE}{σ:St}{H:Hp}{Q:VK}:tDNotIn ty td σ H Q=(ty σ H fun y H1=>td σ H1 fun x H2=>∃ a o,x=.ref a∧DGet H2 a y o∧Q (.bl (!o.isSome)) H2):=rfl
theorem sDPutA {td ty tv:TE}{D:Ends}{σ:St}{H:Hp}:sDPut td ty tv D σ H=(tv σ H fun v H1=>td σ H1 fun x H2=>ty σ H2 fun y H3=>∃ a H4,x=.ref a∧DPut H3 a y v H4∧D.nx σ H4):=rfl
theorem iListA {K:PySem.W.Frag}{tl:TE}{σ:St}{H:Hp}{R:It→Hp→Prop}:iList K tl σ H R=(tl σ H fun x H1=>∃ a,x=.ref a∧(∃ xs,SqL K H1 a xs)∧R (Itl K a) H1):=rfl
theorem iTupA {K:PySem.W.Frag}{tl:TE}{σ:St}{H:Hp}{R:It→Hp→Prop}:iTup K tl σ H R=(tl σ H fun x H1=>∃ a,x=.ref a∧(∃ xs,SqT K H1 a xs)∧R (Itt K a) H1):=rfl
theorem iRng1A {ta:TA}{σ:St}{H:Hp}{R:It→Hp→Prop}:iRng1 ta σ H R=(ta σ H fun vs H1=>∃ j:Int,vs=[.int j]∧-(2 ^ 62)≤j∧j<2 ^ 62∧R (Itr 0 j.toNat) H1):=rfl
theorem iRng2A {ta:TA}{σ:St}{H:Hp}{R:It→Hp→Prop}:iRng2 ta σ H R=(ta σ H fun vs H1=>∃ i j:Int,vs=[.int i,.int j]∧(-(2 ^ 62)≤i∧i<2 ^ 62∧-(2 ^ 62)≤j∧j<2 ^ 62)∧R (Itr i (j-i).toNat) H1):=rfl
theorem tChainA {r r':R2}{ta tb tc:TE}{σ:St}{H:Hp}{Q:VK}:tChain r r' ta tb tc σ H Q=(ta σ H fun x H1=>tb σ H1 fun y H2=>r x y H2 fun z H3=>∃ k,z=.bl k∧(if k=true then tc σ H3 fun w' H4=>r' y w' H4 Q else Q (.bl false) H3)):=rfl
theorem tAndVA {ta tb:TE}{σ:St}{H:Hp}{Q:VK}:tAndV ta tb σ H Q=(ta σ H fun x H1=>∃ c,x=.bl c∧if c=true then tb σ H1 Q else Q (.bl false) H1):=rfl
theorem tOrVA {ta tb:TE}{σ:St}{H:Hp}{Q:VK}:tOrV ta tb σ H Q=(ta σ H fun x H1=>∃ c,x=.bl c∧if c=true then Q (.bl true) H1 else tb σ H1 Q):=rfl
theorem tNotVA {ta:TE}{σ:St}{H:Hp}{Q:VK}:tNotV ta σ H Q=(ta σ H fun x H1=>∃ c,x=.bl c∧Q (.bl (!c)) H1):=rfl
theorem tUnA {r:V→Hp→VK→Prop}{ta:TE}{σ:St}{H:Hp}{Q:VK}:tUn r ta σ H Q=(ta σ H fun x H1=>r x H1 Q):=rfl
theorem tYesA  {u0:St}{H:Hp}{Q:Bool→Hp→Prop}:tYes u0 H Q=(Q true H):=rfl
theorem tDNewKA  {u0:St}{H:Hp}{Q:VK}:tDNewK u0 H Q=(∀ p,H p=none→Q (.ref p) (upd H p (.dK []))):=rfl
theorem tDNewTA  {u0:St}{H:Hp}{Q:VK}:tDNewT u0 H Q=(∀ p,H p=none→Q (.ref p) (upd H p (.dT []))):=rfl
theorem tIsNA {ta:TE}{σ:St}{H:Hp}{Q:VK}:tIsN ta σ H Q=(ta σ H fun x H1=>Q (.bl (decide (x=.non))) H1):=rfl
theorem tNotNA {ta:TE}{σ:St}{H:Hp}{Q:VK}:tNotN ta σ H Q=(ta σ H fun x H1=>Q (.bl (!decide (x=.non))) H1):=rfl
theorem tLCA {own:List Str}{fr:List (Str×Nat)}{wi:TI}{g:TG}{tc:TT}{te:TE}{σ:St}{H:Hp}{Q:VK}:tLC own fr wi g tc te σ H Q=wi σ H fun J H1=>∀ p,H1 p=none→lcW g tc te p J (st0 own fr σ) (upd H1 p (.lst [])) fun H2=>Q (.ref p) H2:=rfl
theorem tDCA {t:Bool}{own:List Str}{fr:List (Str×Nat)}{wi:TI}{g:TG}{tc:TT}{te tv:TE}{σ:St}{H:Hp}{Q:VK}:tDC t own fr wi g tc te tv σ H Q=wi σ H fun J H1=>∀ p,H1 p=none→dcW g tc te tv p J (st0 own fr σ) (upd H1 p (dNew t)) fun H2=>Q (.ref p) H2:=rfl
end L2
end
section
set_option Elab.async false
set_option linter.all false
set_option maxRecDepth 100000
namespace L2
open PySem
end L2
end
section
set_option Elab.async false
set_option linter.all false
set_option maxRecDepth 100000
namespace L2
open PySem PySem.Spec PyProof.Rows
section
variable {X:Cx}
end
end L2
end
section
set_option Elab.async false
set_option linter.all false
set_option maxRecDepth 100000
namespace L2
open PySem PySem.Spec PyProof.Rows
section
variable {X:Cx}
end
end L2
end
section
set_option Elab.async false
set_option linter.all false
set_option maxRecDepth 100000
namespace L2
open PySem PySem.Spec PyProof.Rows
section
variable {n:Int}{ts us:List (Int×Int)}{g:Int}{par:Int→Int}
end
end L2
end
section
set_option Elab.async false
set_option linter.all false
set_option maxRecDepth 100000
namespace L2
open PySem PySem.Spec PyProof.Rows
section
variable {K:PySem.W.Frag}{H:Hp}{a b:Addr}{xs ys:List V}{lo hi:Option Int}{Q:VK}
end
end L2
end
section
set_option Elab.async false
set_option linter.all false
set_option maxRecDepth 100000
namespace L2
open PySem PySem.Spec PyProof.Rows
end L2
end
section
set_option Elab.async false
set_option linter.all false
set_option maxRecDepth 100000
namespace L2
open PySem PySem.Spec PyProof.Rows
section
variable {A A':Addr→Prop}{H H':Hp}{v:V}
end
end L2
namespace L2
open PySem PySem.Spec PyProof.Rows
section
variable {A:Addr→Prop}{l:Addr}{H H':Hp}
end
end L2
end
section
set_option Elab.async false
set_option linter.all false
set_option maxRecDepth 100000
namespace L2
open PySem PySem.Spec PyProof.Rows
end L2
end
section
set_option Elab.async false
set_option linter.all false
set_option maxRecDepth 100000
namespace L2
open PySem PySem.Spec PyProof.Rows
section
variable {X:Cx}
end
end L2
end
section
set_option Elab.async false
set_option linter.all false
set_option maxRecDepth 100000
namespace L2
open PySem
end L2
end
section
set_option Elab.async false
set_option linter.all false
set_option maxRecDepth 100000
namespace L2
open PySem PySem.Spec PyProof.Rows
section
variable {A A':Addr→Prop}{H H':Hp}{v:V}
end
end L2
end
section
set_option Elab.async false
set_option linter.all false
set_option maxRecDepth 100000
namespace L2
open PySem PySem.Spec PyProof.Rows
section
variable {X:Cx}{scope:Scope}{own:List Str}{fr:List (Str×Nat)}{fp:List Addr}{pins:List (Addr×Obj)}{σ:St}{H:Hp}{s:Shared}
end
section
variable {X:Cx}{elt tg iter:Expr}{ifs:List Expr}{scope:Scope}{pos:Pos}{own:List Str}{fr:List (Str×Nat)}{wi:TI}{g:TG}{tc:TT}{te:TE}
end
end L2
end
section
set_option Elab.async false
set_option linter.all false
set_option maxRecDepth 100000
set_option maxHeartbeats 4000000
namespace L2
open PySem PySem.Spec PyProof.Rows PySem.W
section
variable {X:Cx}{pins:List (Addr×Obj)}{σ:St}{H:Hp}{s:Shared}
theorem CFree.upd {C:Addr}{H':Hp}(f:CFree X pins H C)(hn:H' C=none):CFree X pins H' C:=⟨hn,f.loc,f.new,f.cel,f.pin⟩
end
end L2
end
section
set_option Elab.async false
set_option linter.all false
set_option maxRecDepth 100000
set_option maxHeartbeats 4000000
namespace L2
open PySem PySem.Spec PyProof.Rows PySem.W
section
variable {P:Program}{w:World}{K:PySem.W.Frag}{mg:Str→Option Value}{base:Heap}
end
end L2
end
section
set_option Elab.async false
set_option linter.all false
set_option maxRecDepth 100000
namespace L2
open PySem PySem.Spec PyProof.Rows PySem.W
theorem PsAt.cat {H:Hp}{ps qs:List (Addr×List Int)}{ts us:List (Int×Int)}(h:PsAt H ps ts)(h':PsAt H qs us):PsAt H (ps++qs) (ts++us):=⟨fun x hx=>(List.mem_append.mp hx).elim (h.to x) (h'.to x),by rw[List.map_append,List.map_append,h.eq,h'.eq]⟩
end L2
end
section
namespace L2
open PySem PySem.Spec PyProof.Rows
def lcG (g:TG)(tc:TT)(tm:St→Hp→(St→Hp→Prop)→Prop)(J:It)(τ0:St)(H0:Hp)(E:St→Hp→Prop):Prop :=
 ∃ W:Nat→Nat→St→Hp→Prop,(∃ m,W 0 m τ0 H0)∧∀ i m τ H,W i m τ H →
  (J.stop i H∧E τ H)∨(J.go i H∧∃ N:St→Hp→Prop,(∀ τ' H',N τ' H'→∃ m',m'<m∧W (i+1) m' τ' H') ∧
   ∀ x H',J.yld i H x H'→g x τ H' fun τ2 H2=>tc τ2 H2 fun b H3=>if b=true then tm τ2 H3 N else N τ2 H3)
def tmEl (te:TE)(p:Addr):St→Hp→(St→Hp→Prop)→Prop:=fun τ H N=>te τ H fun v H4=>∃ ys,H4 p=some (.lst ys)∧ys.length<sizeLine∧N τ (upd H4 p (.lst (ys++[v])))
def tmIn (wi:TI)(g:TG)(tc:TT)(te:TE)(p:Addr):St→Hp→(St→Hp→Prop)→Prop:=fun τ H N=>wi τ H fun J H1=>lcG g tc (tmEl te p) J τ H1 N
def tLC2 (own:List Str)(fr:List (Str×Nat))(wi:TI)(g:TG)(tc:TT)(wi2:TI)(g2:TG)(tc2:TT)(te:TE):TE:=fun σ H Q =>
 wi σ H fun J H1=>∀ p,H1 p=none→lcG g tc (tmIn wi2 g2 tc2 te p) J (st0 own fr σ) (upd H1 p (.lst [])) fun _ H2=>Q (.ref p) H2
def turnT (e:Expr)(d:Nat)(it acc:Value)(env:Env)(tg iter:Expr)(ifs:List Expr)(mm:Sem Fin):Sem Fin :=
 standAt iter.pos >>= fun _=>pyNext it >>= fun r=>match r with
 | none=>pure (.done .next)
 | some v=>letOwnedTupleGo tg it v >>= fun _=>assign tg env v >>= fun _ =>
  (forIn ifs true fun c r=>if r=true then do let ok ← isTrue c env (eval c env);pure (ForInStep.yield ok) else pure (ForInStep.yield r)) >>= fun ok=>if ok=true then mm else again (.compLoop e d it acc env)
theorem clause_loop {prog:Program}{w:World}{A:Around}{R:Result→Shared→Prop}{s:Shared}{elt tg iter:Expr}{ifs:List Expr}{gens:List Comprehension}{d:Nat}{scope:Scope}{pos:Pos}{it acc:Value}{env:Env}{mm:Sem Fin}
  (ht:compTurn (.ListComp elt gens scope pos) d it acc env=turnT (.ListComp elt gens scope pos) d it acc env tg iter ifs mm) (I:Nat→Shared→Prop)
  (turn:∀ n s,I n s→wpAny (model prog w) A (pyNext it) (fun r s₁=>match r with
   | none=>R (.ok .next) s₁
   | some v=>wpAny (model prog w) A (letOwnedTupleGo tg it v) (fun _ s₁=>wpAny (model prog w) A (assign tg env v) (fun _ s₂ =>
     wpAny (model prog w) A (forIn ifs true fun c r=>if r=true then do let ok ← isTrue c env (eval c env);pure (ForInStep.yield ok) else pure (ForInStep.yield r)) (fun ok s₃ =>
      if ok=true then wpAny (model prog w) A mm (fun f s₅=>f=.again (.compLoop (.ListComp elt gens scope pos) d it acc env)∧∃ m,m<n∧I m s₅) (fun _ _=>False) s₃
      else ∃ m,m<n∧I m s₃) (fun _ _=>False) s₂) (fun _ _=>False) s₁) (fun _ _=>False) s₁) (fun _ _=>False) s)
  (n:Nat) (h:I n s):codeAny (model prog w) A (.compLoop (.ListComp elt gens scope pos) d it acc env) R s:=by
 refine codeAny_loop rfl I (fun n s hI=>?_) n h;show wpAny _ A ((compTurn (.ListComp elt gens scope pos) d it acc env).onRaise (fun x=>do noteFrame x env;theTreesLotGoes x)) _ _ s;refine wpAny_noted ?_;rw[ht];refine wpAny_bind (wpAny_standAt (wpAny_bind (wpAny_mono (turn n s hI) (fun r s₁ h₁=>?_) fun _ _ h'=>h'.elim)));cases r with
 | none=>exact wpAny_pure h₁
 | some v =>
  refine wpAny_bind (wpAny_mono h₁ (fun _ s₁ h₁=>?_) fun _ _ h'=>h'.elim);refine wpAny_bind (wpAny_mono h₁ (fun _ s₂ h₂=>wpAny_bind (wpAny_mono h₂ (fun ok s₃ h₃=>?_) fun _ _ h'=>h'.elim)) fun _ _ h'=>h'.elim);cases ok with
  | false=>exact wpAny_pure ⟨rfl,h₃⟩
  | true=>exact wpAny_mono h₃ (fun f s₅ h₅=>by obtain⟨rfl,h₅⟩:=h₅;exact⟨rfl,h₅⟩) fun _ _ h'=>h'.elim
theorem clause_run {X:Cx}{P:Program}{w:World}{K:PySem.W.Frag}{elt tg iter:Expr}{ifs:List Expr}{gens:List Comprehension}{d:Nat}{scope:Scope}{pos:Pos}{acc:Value}{mm:Sem Fin}{g:TG}{tc:TT}{tm:St→Hp→(St→Hp→Prop)→Prop}
  {pins:List (Addr×Obj)} {τ0:St} {H0:Hp} {s:Shared} {it:Addr} {fp:List Addr} {tn:Nat→Heap→Prop} {J:It} {E:St→Hp→Prop} {R:Result→Shared→Prop}
  (hc:X.calm=true) (hx:X.xe=fun _ _=>False) (eP:X.prog=P) (eW:X.w=w) (eK:X.K=K) (T:Turn P w K tg J fp it tn) (bg:PG X tg g) (bt:PTs X ifs tc)
  (bm:∀ (pins:List (Addr×Obj)) (s:Shared) (τ:St) (H:Hp) (N:St→Hp→Prop),Inv X pins τ H s→tm τ H N→wpAny (model X.prog X.w) X.A mm (fun f s'=>f=.again (.compLoop (.ListComp elt gens scope pos) d (.ref it) acc X.env)∧∃ τ' H',Inv X pins τ' H' s'∧N τ' H') (fun _ _=>False) s)
  (ht:compTurn (.ListComp elt gens scope pos) d (.ref it) acc X.env=turnT (.ListComp elt gens scope pos) d (.ref it) acc X.env tg iter ifs mm)
  (I:Inv X pins τ0 H0 s) (st:tn 0 s.heap) (ff:∀ b∈fp,FpOk X pins H0 b) (hw:lcG g tc tm J τ0 H0 E) (hR:∀ τ H s',Inv X pins τ H s'→E τ H→R (.ok .next) s') :
  codeAny (model P w) X.A (.compLoop (.ListComp elt gens scope pos) d (.ref it) acc X.env) R s:=by
 subst eP eW eK;obtain⟨W,⟨m0,w0⟩,turn⟩:=hw;have stat:∀ {H':Hp},(∀ b∈fp,H' b=none)→∀ b∈fp,FpOk X pins H' b:=fun hn b hb=>⟨hn b hb,(ff b hb).2⟩
 refine clause_loop ht (fun n s'=>∃ i τ H',Inv X pins τ H' s'∧tn i s'.heap∧(∀ b∈fp,H' b=none)∧W i n τ H') ?_ m0 ⟨0,_,_,I,st,fun b hb=>(ff b hb).1,w0⟩;rintro n s5 ⟨i,τ5,H5,I5,t5,fr5,w5⟩;rcases turn i n τ5 H5 w5 with ⟨stop,qn⟩ | ⟨go,N,hN,step⟩
 ·refine thn (T.done X rfl rfl rfl hc i pins s5 τ5 H5 (fun _ _=>False) I5 (stat fr5) t5 stop) fun r s6 ⟨hr,I6⟩=>?_
  subst hr;exact hR _ _ _ I6 qn
 ·refine thn (T.item X rfl rfl rfl hc i pins s5 τ5 H5 (fun _ _=>False) I5 (stat fr5) t5 go) fun r s6 ⟨u,hr,h6⟩=>?_
  subst hr;refine thn h6 fun _ s7 ⟨x,H7,I7,r7,y7,t7,fr7⟩=>?_
  have I7':=I7.pinned (stat fr7) (T.obj _ _ t7);have again:∀ {τ:St} {H':Hp} {s':Shared},Inv X (pins++pinsAt fp s7.heap) τ H' s'→N τ H'→∃ m,m<n∧∃ i τ H',Inv X pins τ H' s'∧tn i s'.heap∧(∀ b∈fp,H' b=none)∧W i m τ H':=fun {τ H' s'} I8 n8=>by
   obtain⟨m',hm,w8⟩:=hN τ H' n8;refine⟨m',hm,i+1,τ,H',I8.unpinned,T.keep _ _ _ t7 fun b hb o e=>(I8.pin (b,o) (List.mem_append_right _ (List.mem_append_right _ (mem_pinsAt hb e)))).1,fun b hb=>?_,w8⟩;obtain⟨o,e,d⟩:=T.obj _ _ t7 b hb;exact (I8.pin (b,o) (List.mem_append_right _ (List.mem_append_right _ (mem_pinsAt hb e)))).2.1
  have hg:=bg _ s7 τ5 H7 x u _ I7' r7 (step x H7 y7);rw[hx] at hg;refine thn hg fun _ s8 ⟨τ8,H8,I8,q8⟩=>?_
  have hb:=bt _ s8 τ8 H8 _ I8 q8;rw[hx] at hb;refine thn hb fun ok s9 ⟨H9,I9,q9⟩=>?_
  cases ok with
  | false=>exact again I9 q9
  | true =>
   rw[if_pos rfl] at q9 ⊢;exact thn (bm _ s9 τ8 H9 _ I9 q9) fun _ s10 ⟨e10,_,_,I10,n10⟩=>⟨e10,again I10 n10⟩
theorem emit_ok {X:Cx}{elt:Expr}{c:Code}{te:TE}{p:Addr}(hx:X.xe=fun _ _=>False)(be:PE X elt te)(pins:List (Addr×Obj))(s:Shared)(τ:St)(H:Hp)(N:St→Hp→Prop)(I:Inv X pins τ H s)(h:tmEl te p τ H N) :
  wpAny (model X.prog X.w) X.A ((do let _ ← call (.builtin "list.append") [.ref p,← eval elt X.env]) >>= fun _=>again c) (fun f s'=>f=.again c∧∃ τ' H',Inv X pins τ' H' s'∧N τ' H') (fun _ _=>False) s:=by
 have hv:=be _ s τ H _ I h;rw[hx] at hv;refine wpAny_bind (wpAny_bind (thn hv fun y s10 ⟨v,H10,I10,r10,ys,hl,hlen,n10⟩=>?_));have ha:=mt_append (X:=X) _ s10 τ H10 (.ref p) [v] (.ref p) [y] (fun _ H'=>N τ H') I10 rfl (.cons r10 .nil) ⟨_,_,_,rfl,rfl,hl,hlen,n10⟩;rw[hx] at ha;exact wpAny_bind (thn ha fun _ s11 ⟨_,H11,I11,_,n11⟩=>wpAny_pure (wpAny_pure ⟨rfl,_,_,I11,n11⟩))
theorem codeAny_compStart1 {prog:Program}{w:World}{A:Around}{R:Result→Shared→Prop}{s:Shared}{elt t1 i1 t2 i2:Expr}{f1 f2:List Expr}{scope:Scope}{pos:Pos}{it acc:Value}{env:Env}
  (h0:codeAny (model prog w) A (.compLoop (.ListComp elt [⟨t1,i1,f1,0⟩,⟨t2,i2,f2,0⟩] scope pos) 1 it acc env) R s)
  (h:wpAny (model prog w) A (pyIter it) (fun it' s'=>codeAny (model prog w) A (.compLoop (.ListComp elt [⟨t1,i1,f1,0⟩,⟨t2,i2,f2,0⟩] scope pos) 1 it' acc env) R s')
   (notedBy (model prog w) A env fun x s'=>R (.error x) s') s) :
  codeAny (model prog w) A (.compStart (.ListComp elt [⟨t1,i1,f1,0⟩,⟨t2,i2,f2,0⟩] scope pos) 1 it acc env) R s:=by
 refine codeAny_of_tree ?_;show wpAny _ _ ((compStart (.ListComp elt [⟨t1,i1,f1,0⟩,⟨t2,i2,f2,0⟩] scope pos) 1 it acc env).onRaise (fun x=>do noteFrame x env;standAt theWindowsPlace)) _ _ s;refine wpAny_notedAt ?_;unfold compStart;show wpAny _ _ (ask >>= _) _ _ s;refine wpAny_bind (wpAny_askSetting (wpAny_ite ?_));split
 ·first
   | exact wpAny_bind (wpAny_pure (wpAny_pure (And.intro rfl h0)))
   | exact wpAny_pure (And.intro rfl h0)
 ·first
   | exact wpAny_bind (wpAny_rule (wpAny_bind (wpAny_standAt (wpAny_bind (wpAny_mono h (fun it' s' h'=>wpAny_pure (And.intro rfl h')) fun _ _ x=>x)))))
   | (refine wpAny_bind (wpAny_rule ?_);show wpAny _ _ (standAt i2.pos >>= _) _ _ s;exact wpAny_bind (wpAny_standAt (wpAny_bind (wpAny_mono h (fun it' s' h'=>wpAny_pure (And.intro rfl h')) fun _ _ x=>x))))
def innerT (e:Expr)(it acc:Value)(env:Env)(i2:Expr):Sem Fin :=
 eval i2 env >>= fun x=>standAt i2.pos >>= fun _=>foldedSetIterable i2 env x >>= fun x=>holding [x] (pyIter x) >>= fun i=>runOwn (.compStart e 1 i acc env) env >>= fun _=>again (.compLoop e 0 it acc env)
theorem turn0 (elt t1 i1 t2 i2:Expr)(f1 f2:List Expr)(scope:Scope)(pos:Pos)(it acc:Value)(env:Env) :
  compTurn (.ListComp elt [⟨t1,i1,f1,0⟩,⟨t2,i2,f2,0⟩] scope pos) 0 it acc env=turnT (.ListComp elt [⟨t1,i1,f1,0⟩,⟨t2,i2,f2,0⟩] scope pos) 0 it acc env t1 i1 f1 (innerT (.ListComp elt [⟨t1,i1,f1,0⟩,⟨t2,i2,f2,0⟩] scope pos) it acc env i2):=by rfl
theorem turn1 (elt t1 i1 t2 i2:Expr)(f1 f2:List Expr)(scope:Scope)(pos:Pos)(it acc:Value)(env:Env) :
  compTurn (.ListComp elt [⟨t1,i1,f1,0⟩,⟨t2,i2,f2,0⟩] scope pos) 1 it acc env=turnT (.ListComp elt [⟨t1,i1,f1,0⟩,⟨t2,i2,f2,0⟩] scope pos) 1 it acc env t2 i2 f2 ((do let _ ← call (.builtin "list.append") [acc,← eval elt env]) >>= fun _=>again (.compLoop (.ListComp elt [⟨t1,i1,f1,0⟩,⟨t2,i2,f2,0⟩] scope pos) 1 it acc env)):=by rfl
theorem inner_ok {X:Cx}{elt t1 i1 t2 i2:Expr}{f1 f2:List Expr}{scope:Scope}{pos:Pos}{wi2:TI}{g2:TG}{tc2:TT}{te:TE}{p:Addr}{it:Value}(hc:X.calm=true)(hx:X.xe=fun _ _=>False)
  (hi:PI X t2 i2 wi2) (bg:PG X t2 g2) (bt:PTs X f2 tc2) (be:PE X elt te) (hs:∀ x,foldedSetIterable i2 X.env x=pure x)
  (pins:List (Addr×Obj)) (s:Shared) (τ:St) (H:Hp) (N:St→Hp→Prop) (I:Inv X pins τ H s) (h:tmIn wi2 g2 tc2 te p τ H N) :
  wpAny (model X.prog X.w) X.A (innerT (.ListComp elt [⟨t1,i1,f1,0⟩,⟨t2,i2,f2,0⟩] scope pos) it (.ref p) X.env i2) (fun f s'=>f=.again (.compLoop (.ListComp elt [⟨t1,i1,f1,0⟩,⟨t2,i2,f2,0⟩] scope pos) 0 it (.ref p) X.env)∧∃ τ' H',Inv X pins τ' H' s'∧N τ' H') (fun _ _=>False) s:=by
 have hv:=hi _ s τ H _ I h;rw[hx] at hv;unfold innerT;refine wpAny_bind (thn hv fun v s1 h1=>wpAny_bind (wpAny_standAt ?_));rw[hs];refine wpAny_bind (wpAny_pure (wpAny_bind (wpAny_holding (thn h1 fun itv s2 h2=>?_))));obtain⟨it,fp,tn,J,H2,e,I2,T,st2,f2,hw⟩:=h2;subst e;have loop:=clause_run (R:=fun r s'=>match r with | .ok f=>(∃ τ' H',Inv X pins τ' H' s'∧N τ' H') | .error e=>cameBackBy (model X.prog X.w) X.A X.env (fun _ _=>False) e s') hc hx rfl rfl rfl T bg bt (emit_ok hx be) (turn1 elt t1 i1 t2 i2 f1 _ scope pos (.ref it) (.ref p) X.env) I2 st2 f2 hw fun τ' H' s' I' n'=>⟨τ',H',I',n'⟩
 exact wpAny_bind (wpAny_runOwn (codeAny_mono (codeAny_compStart1 loop (T.self X.A 0 _ _ _ st2 loop)) fun r s' hr=>by
  cases r with
  | ok f=>exact wpAny_pure ⟨rfl,hr⟩
  | error e=>exact hr))
section
variable {X:Cx}{elt t1 i1 t2 i2:Expr}{f1 f2:List Expr}{scope:Scope}{pos:Pos}{own:List Str}{fr:List (Str×Nat)}{wi:TI}{g:TG}{tc:TT}{wi2:TI}{g2:TG}{tc2:TT}{te:TE}
structure Blk2 (X:Cx)(scope:Scope)(N':List Str)(t1:Expr)(f1:List Expr)(t2 i2:Expr)(f2:List Expr)(elt:Expr)(g:TG)(tc:TT)(wi2:TI)(g2:TG)(tc2:TT)(te:TE):Prop where
 run:∀ pins fp s H,PG (cxC X scope N' pins fp s H) t1 g∧PTs (cxC X scope N' pins fp s H) f1 tc∧PI (cxC X scope N' pins fp s H) t2 i2 wi2∧PG (cxC X scope N' pins fp s H) t2 g2∧PTs (cxC X scope N' pins fp s H) f2 tc2∧PE (cxC X scope N' pins fp s H) elt te
theorem lcomp2_run {pins:List (Addr×Obj)}{σ:St}{H2:Hp}{s2:Shared}{it:Addr}{fp:List Addr}{tn:Nat→Heap→Prop}{J:It}{EE:Hp→Prop}{RR:Value→Addr→Result→Shared→Prop}{E:Value→Shared→Prop}
  (hcalm:X.calm=true) (hc:CompOk scope X.env.scope) (hfr:frOk X scope fr) (B:Blk2 X scope (own++fr.map (·.1)) t1 f1 t2 i2 f2 elt g tc wi2 g2 tc2 te) (hs2:∀ env x,foldedSetIterable i2 env x=pure x)
  (I2:Inv X pins σ H2 s2) (T:Turn X.prog X.w X.K t1 J fp it tn) (st2:tn 0 s2.heap) (f2':∀ b∈fp,FpOk X pins H2 b)
  (hw:lcG g tc (tmIn wi2 g2 tc2 te s2.heap.objs.size) J (st0 own fr σ) (upd H2 s2.heap.objs.size (.lst [])) fun _ H'=>EE H')
  (hRR:∀ C H' s' m,EE H'→s'.heap.Ns C m→Inv X pins σ H' s'→CFree X pins H' C→RR (.ref s2.heap.objs.size) C (.ok .next) s') :
  wpAny (model X.prog X.w) X.A (newList []) (fun acc s₃=>wpAny (model X.prog X.w) X.A (newFunctionEnv scope X.env.globals (clo X.env scope.names []) [] X.env.qual none .none (some X.env)) (fun cenv s₄ =>
   codeAny (model X.prog X.w) X.A (.compStart (.ListComp elt [⟨t1,i1,f1,0⟩,⟨t2,i2,f2,0⟩] scope pos) 0 (.ref it) acc {cenv with scope:=relabel scope X.env}) (RR acc cenv.locals) s₄) E s₃) E s2:=by
 have I3:Inv X pins σ (upd H2 s2.heap.objs.size (.lst [])) {s2 with heap:=s2.heap.push {cls:=.type "list",data:=.seq ([]:List Value).toArray},toks:=s2.toks}:=I2.lnew (ys:=[]) (its:=[]) (t':=s2.toks) .nil (Nat.zero_le _);generalize hs3:({s2 with heap:=s2.heap.push {cls:=.type "list",data:=.seq ([]:List Value).toArray},toks:=s2.toks}:Shared)=s3 at I3;have hsz3:s3.heap.objs.size=s2.heap.objs.size+1:=by rw[← hs3];exact Heap.size_push ..
 have k3:∀ b o,s2.heap.get? b=some o→s3.heap.get? b=some o:=fun b o e=>by rw[← hs3];exact Heap.get?_push_of_some _ e
 have hlt:∀ b∈fp,b<s2.heap.objs.size:=fun b hb=>let ⟨o,e,_⟩:=T.obj _ _ st2 b hb;Heap.lt_size e
 have f3:∀ b∈fp,FpOk X pins (upd H2 s2.heap.objs.size (.lst [])) b:=fun b hb=>⟨by rw[upd_ne (Nat.ne_of_lt (hlt b hb))];exact (f2' b hb).1,(f2' b hb).2⟩
 have st3:tn 0 s3.heap:=T.keep _ _ _ st2 fun b _ o e=>k3 b o e
 refine wpAny_newObj_type ?_;have e3:({s2 with heap:=s2.heap.push {cls:=.type "list",dict:=none,data:=.seq ([]:List Value).toArray}}:Shared)=s3:=hs3;rw[e3];refine wpAny_newFunctionEnv hc.noCell (by intro y hy;cases hy) (fun h₁ hns₁ hsb₁=>?_) hc.kind;have k4:∀ b o,s3.heap.get? b=some o→h₁.get? b=some o:=fun b o e=>hsb₁.extBut b o (Nat.ne_of_lt (Heap.lt_size e)) (Heap.get?_push_of_some _ e)
 have I4:=inv_comp (own:=own) I3 hc hcalm f3 (fun b hb=>Nat.lt_of_lt_of_le (hlt b hb) (by rw[hsz3];exact Nat.le_succ _)) hfr hns₁ k4;obtain⟨bg,bt,bi,bg2,bt2,be⟩:=B.run pins fp s3 (upd H2 s2.heap.objs.size (.lst []));generalize hX':cxC X scope (own++fr.map (·.1)) pins fp s3 (upd H2 s2.heap.objs.size (.lst []))=X' at I4 bg bt bi bg2 bt2 be;have eP:X'.prog=X.prog:=by rw[← hX'];rfl
 have eW:X'.w=X.w:=by rw[← hX'];rfl
 have eK:X'.K=X.K:=by rw[← hX'];rfl
 have eA:X'.A=X.A:=by rw[← hX'];rfl
 have eC:X'.calm=true:=by rw[← hX'];rfl
 have eX:X'.xe=fun _ _=>False:=by rw[← hX'];rfl
 have eE:X'.env=compEnvC scope (clo X.env scope.names []) s3.heap.objs.size X.env:=by rw[← hX'];rfl
 have fC:∀ {H':Hp},(∀ b∈fp,H' b=none)→∀ b∈fp,FpOk X' [] H' b:=fun hn b hb=>by
  have hb':=f3 b hb;refine⟨hn b hb,?_,?_,?_,?_,?_⟩
  ·exact (I4.ok.exf b (by rw[← hX'];exact hb)).1
  ·exact I4.ok.exfs b (by rw[← hX'];exact hb)
  ·left;rw[← hX'];exact hb
  ·exact (I4.ok.exf b (by rw[← hX'];exact hb)).2
  ·intro p hp;have hp:p∈X.pn++pins:=by
    rw[← hX'] at hp;rcases List.mem_append.mp hp with q | q
    ·exact q
    ·cases q
   exact hb'.2.2.2.2.2 p hp
 have cenvE:({(newEnv scope s3.heap.objs.size X.env.globals (clo X.env scope.names []) X.env.qual none .none (some X.env) builtinsNs) with scope:=relabel scope X.env}:Env)=X'.env:=by rw[eE];rfl
 have loop:∀ s4:Shared,Inv X' [] (st0 own fr σ) (upd H2 s2.heap.objs.size (.lst [])) s4→tn 0 s4.heap →
   codeAny (model X.prog X.w) X.A (.compLoop (.ListComp elt [⟨t1,i1,f1,0⟩,⟨t2,i2,f2,0⟩] scope pos) 0 (.ref it) (.ref s2.heap.objs.size) X'.env) (RR (.ref s2.heap.objs.size) s3.heap.objs.size) s4:=by
  intro s4 J4 t4;rw[← eA];refine clause_run eC eX eP eW eK T bg bt (inner_ok eC eX bi bg2 bt2 be fun x=>hs2 _ x) (turn0 ..) J4 t4 (fC fun b hb=>(f3 b hb).1) hw fun τ H5 s6 I6 qn=>?_
  have hbase:Un (frs X.stack) fp (upd H2 s2.heap.objs.size (.lst [])) H5 s3.heap s6.heap:=by have:=I6.base;rw[← hX'] at this;exact this
  have hok6:HOk X.prog X.w H5 s6.heap:=by have:=I6.hok;rw[eP,eW] at this;exact this
  have os6:s6.os=s3.os:=by have:=I6.os;rw[← hX'] at this;exact this
  obtain⟨m6,n6,_⟩:=I6.loc;have n6:s6.heap.Ns s3.heap.objs.size m6:=by rw[eE] at n6;exact n6
  have free6:H5 s3.heap.objs.size=none:=by have:=I6.free;rw[eE] at this;exact this
  refine hRR s3.heap.objs.size H5 s6 m6 qn n6 (I3.call' os6 hbase hok6 I6.bare fun b hb=>⟨(f3 b hb).2.2.2.1,(f3 b hb).2.1,(f3 b hb).2.2.2.2.1,(f3 b hb).2.2.2.2.2⟩) ⟨free6,?_,I3.sz,?_,?_⟩
  ·exact (Nat.ne_of_lt I3.lt).symm
  ·intro x c e z;obtain⟨v,hv⟩:=I3.cell x c e;have:=hv.lt;rw[z] at this;exact Nat.lt_irrefl _ this
  ·intro p hp z;have:=Heap.lt_size (I3.pin p hp).1;rw[z] at this;exact Nat.lt_irrefl _ this
 have st4:tn 0 h₁:=T.keep _ _ _ st3 fun b _ o e=>k4 b o e
 show codeAny (model X.prog X.w) X.A (.compStart (.ListComp elt [⟨t1,i1,f1,0⟩,⟨t2,i2,f2,0⟩] scope pos) 0 (.ref it) (.ref s2.heap.objs.size) ({(newEnv scope s3.heap.objs.size X.env.globals (clo X.env scope.names []) X.env.qual none .none (some X.env) builtinsNs) with scope:=relabel scope X.env}:Env)) (RR (.ref s2.heap.objs.size) s3.heap.objs.size) _;rw[cenvE];exact codeAny_compStart_list (loop _ I4 st4) (T.self X.A 0 _ _ _ st4 (loop _ I4 st4))
theorem pe_lcomp2 (hcalm:X.calm=true)(hc:compOk scope X.env.scope=true)(hfr:frOk X scope fr)(hi:PI X t1 i1 wi)(B:Blk2 X scope (own++fr.map (·.1)) t1 f1 t2 i2 f2 elt g tc wi2 g2 tc2 te)
  (hs:∀ x,foldedSetIterable i1 X.env x=pure x:=by intro _;rfl) (hs2:∀ env x,foldedSetIterable i2 env x=pure x:=by intro _ _;rfl) :
  PE X (.ListComp elt [⟨t1,i1,f1,0⟩,⟨t2,i2,f2,0⟩] scope pos) (tLC2 own fr wi g tc wi2 g2 tc2 te):=by
 intro pins s σ H Q I h;have hc:=compOk_of hc;rw[eval_ListComp];refine wpAny_comprehension_free (use:=none) rfl hs (clo_ok I hc) hc.kind hc.loc (thn (hi pins s σ H _ I h) fun v s1 h1=>thn h1 fun itv s2 h2=>?_);obtain⟨it,fp,tn,J,H2,e,I2,T,st2,f2,hw⟩:=h2;subst e;refine lcomp2_run (RR:=fun acc C=>compPost (model X.prog X.w) X.A X.xe none (EP X pins σ Q) acc C) hcalm hc hfr B hs2 I2 T st2 f2 (hw _ I2.fresh) ?_;intro C H' s' m q n I' f;exact⟨m,n,fun h' hs'=>⟨.ref s2.heap.objs.size,H',f.inv I' hs',rfl,q⟩⟩
end
theorem lg_range {lo:Int}{n:Nat}{g:TG}{tc:TT}{tm:St→Hp→(St→Hp→Prop)→Prop}{τ0:St}{H0:Hp}{E:St→Hp→Prop}(Pv:Nat→St→Hp→Prop)(h0:Pv 0 τ0 H0)
  (hs:∀ i τ H,i<n→Pv i τ H→g (.int (lo+i)) τ H fun τ2 H2=>tc τ2 H2 fun b H3=>if b=true then tm τ2 H3 (Pv (i+1)) else Pv (i+1) τ2 H3)
  (hd:∀ τ H,Pv n τ H→E τ H):lcG g tc tm (Itr lo n) τ0 H0 E:=by
 refine⟨fun i m τ H=>m=n-i∧i≤n∧Pv i τ H,⟨_,rfl,Nat.zero_le _,h0⟩,?_⟩;rintro i m τ H ⟨rfl,hi,hp⟩;rcases Nat.lt_or_ge i n with h | h
 ·refine .inr ⟨h,Pv (i+1),fun τ' H' z=>⟨_,by omega,rfl,h,z⟩,?_⟩;rintro x H' ⟨rfl,rfl⟩;exact hs i τ H' h hp
 ·have e:i=n:=by omega
  subst e;exact .inl ⟨Nat.le_refl _,hd τ H hp⟩
end L2
end
section
namespace L2
open PySem PySem.Spec PyProof.Rows
def kdO (P:Params)(n:Nat)(ps:List (Str×Tok×Addr)):Obj:=⟨.type "dict",none,.dict (ps.map fun p=>⟨PyData.keyHash P p.1,.str p.1 p.2.1,.ref p.2.2⟩).toArray n,#[]⟩
def tKG (a:Addr)(ps:List (Str×Tok×Addr))(td ty:TE):TE:=fun σ H Q=>td σ H fun x H1=>ty σ H1 fun y H2=>x=.ref a∧∃ k b,y=.str k∧(ps.map fun p=>(p.1,p.2.2)).lookup k=some b∧Q (.ref b) H2
theorem kd_of {prog:Program}{w:World}{h:Heap}{a:Addr}{n:Nat}{ps:List (Str×Tok×Addr)}(e:h.get? a=some (kdO w.params n ps))(nd:(ps.map (·.1)).Nodup) :
  h.DictOf (mixKind prog w) a (ps.map fun p=>((.inr p.1:Key),Value.ref p.2.2)):=by
 refine⟨_,_,_,e,⟨rfl,rfl,rfl⟩,rfl,?_,?_,?_⟩
 ·intro x hx;rw[List.mem_toArray] at hx;obtain⟨p,_,rfl⟩:=List.mem_map.mp hx;exact⟨.inr p.1,mixKind_str ..,rfl⟩
 ·clear e nd;show PySem.Pairs _ (ps.map _) _;induction ps with
  | nil=>exact .nil
  | cons p ps ih=>exact .cons (mixKind_str ..) rfl ih
 ·rw[List.map_map];have:((·.1) ∘ fun p:Str×Tok×Addr=>((.inr p.1:Key),Value.ref p.2.2))=Sum.inr ∘ (·.1):=rfl;rw[this,← List.map_map];exact nd.map _ fun a b hab e=>hab (Sum.inr.inj e)
theorem kd_val {ps:List (Str×Tok×Addr)}{k:Str}{b:Addr}(h:(ps.map fun p=>(p.1,p.2.2)).lookup k=some b):valueAt (ps.map fun p=>((.inr p.1:Key),Value.ref p.2.2)) (.inr k)=some (.ref b):=by
 unfold valueAt;induction ps with
 | nil=>cases h
 | cons p ps ih =>
  rw[List.map_cons,List.find?_cons];rw[List.map_cons,lookup_cons'] at h;by_cases e:k=p.1
  ·rw[if_pos e] at h;cases h;rw[decide_eq_true (by rw[e])];rfl
  ·rw[if_neg e] at h;rw[decide_eq_false (fun q=>e (Sum.inr.inj q).symm)];exact ih h
section
variable {X:Cx}{o i:Expr}{pos:Pos}{td ty:TE}
theorem pe_kget {a:Addr}{n:Nat}{ps:List (Str×Tok×Addr)}(hk:X.K.lookup a=some (kdO X.w.params n ps))(nd:(ps.map (·.1)).Nodup)(ho:PE X o td)(hi:PE X i ty)(hs:NoSl i):PE X (.Subscript o i pos) (tKG a ps td ty):=by
 intro pins s σ H Q I h;refine subD_of PySem.F.slot_dict_getitem.lookup hs (thn (ho pins s σ H _ I h) fun u s1 ⟨x,H1,I1,rx,q1⟩=>thn (hi pins s1 σ H1 _ I1 q1) fun iv s2 ⟨y,H2,I2,ry,ex,k,b,ey,l,q2⟩=>?_);subst ex ey;obtain rfl:u=Value.ref a:=rx;have dd:=kd_of (prog:=X.prog) (w:=X.w) (I2.kIn a _ hk) nd;exact⟨dd.typeIs,wpAny_getItem_of (kV_is (k:=.inr k) ry) dd.mapOf (kd_val l) ⟨.ref b,H2,I2.tok _,rfl,q2⟩⟩
structure CallV (X:Cx)(f:Addr)(sp:Sp):Prop where
 kp:PySem.W.keepIn X.K (.ref f)=true
 run:∀ (pins:List (Addr×Obj)) (σ:St) (H:Hp) (s:Shared) (Q:VK) (us:List Value) (vs:List V),Inv X pins σ H s→Vals vs us→sp vs H Q E0→wpAny (model X.prog X.w) X.A (call (.ref f) us) (EP X pins σ Q) X.xe s
theorem callV_of {k:Nat}{f:Addr}{fd:FuncData}{ps:List Str}{sp:Sp}{x:Str}{st:Stmt}(G:FnOk X.prog X.w X.K X.mg X.base CX0 k f fd ps sp)(D:Df X.K X.mg x st f fd ps)(hr:Room k X.A):CallV X f sp :=
 ⟨D.F.kp,fun _ _ _ _ _ _ _ I r h=>run_fn G hr D.b .nil pass0 I r (by rw[List.append_nil];exact h)⟩
def CallVs (X:Cx)(fs:List (Addr×Sp)):Prop:=∀ p∈fs,CallV X p.1 p.2
theorem callVs_nil:CallVs X []:=fun _ h=>nomatch h
theorem callVs_cons {f:Addr}{sp:Sp}{fs:List (Addr×Sp)}(h:CallV X f sp)(r:CallVs X fs):CallVs X ((f,sp)::fs):=fun p hp=>by
 rcases List.mem_cons.mp hp with rfl | hp
 ·exact h
 ·exact r p hp
def tCallV (fs:List (Addr×Sp))(i:Nat)(t:TA):TE:=fun σ H Q=>∃ p∈fs,σ[i]?=some (some (.ref p.1))∧t σ H fun vs H1=>p.2 vs H1 Q E0
theorem pe_callV {fs:List (Addr×Sp)}{ix:Nat}{x:Str}{p:Pos}{e:Expr}{es:List Expr}{t:TA}(hf:CallVs X fs)(hN:X.N[ix]?=some x)(hl:X.env.scope.names.lookup x=some .local)(ha:PA X (e::es) t)(hd:(x == ("__debug__":Str))=false:=by decide)
  (he:starEach (e::es) X.env=(false,eval e X.env)::starEach es X.env:=by rfl) (hpl:(backTo pos (starEach es X.env)).any (·.1)=false:=by rfl):PE X (.Call (.Name x p) (e::es) [] pos) (tCallV fs ix t):=by
 intro pins s σ H Q I h;obtain⟨g,hg,ev,h⟩:=h;obtain⟨m,hn,hlk⟩:=I.loc;obtain⟨u,r,l⟩:=hlk ix x _ hN ev (.inl hl);obtain rfl:u=Value.ref g.1:=r;have C:=hf g hg;rcases l with ⟨hk,hm⟩ | ⟨hk,_⟩
 ·refine wpAny_Call_Name_kw (wpAny_Name (wpAny_loadName_local I.ok.kind hk hn hm ?_) hd);exact PySem.W.callWith_K (h₀:=X.base) I.ok.mod.kin C.kp (thn (ha pos pins s σ H _ I h) fun us s1 ⟨vs,H1,I1,r,q⟩=>⟨I1.kIn,C.run _ _ _ _ _ _ _ I1 r q⟩) he hpl
 ·have hl:X.env.kindOf x=some .local:=hl;rcases hk with hk | hk<;>(rw[hl] at hk;cases hk)
end
structure KdX (K:PySem.W.Frag)(mg:Str→Option Value)(P:Params)(x:Str)(a:Addr)(n:Nat)(ps:List (Str×Tok×Addr)):Prop where
 m:mg x=some (.ref a)
 k:K.lookup a=some (kdO P n ps)
theorem call_min3 {X:Cx}(hc:X.calm=true):CallR X (.builtin "min") (fun xs H Q=>∃ i j k,xs=[.int i,.int j,.int k]∧Q (.int (if j<i then (if k<j then k else j) else (if k<i then k else i))) H):=by
 intro pins s σ H xs us Q I r h;obtain⟨i,j,k,rfl,q⟩:=h;cases r with
 | cons r1 r =>
 cases r with
 | cons r2 r =>
 cases r with
 | cons r3 r =>
 cases r;obtain⟨t,rfl⟩:=r1;obtain⟨t',rfl⟩:=r2;obtain⟨t2,rfl⟩:=r3;refine min_three_ints (I.ok.hd hc) fun h' tk kp=>⟨_,H,I.kept kp,?_,q⟩
 by_cases h1:j<i
 ·rw[if_pos h1,if_pos h1];by_cases h2:k<j
  ·rw[if_pos h2,if_pos h2];exact⟨_,rfl⟩
  ·rw[if_neg h2,if_neg h2];exact⟨_,rfl⟩
 ·rw[if_neg h1,if_neg h1];by_cases h2:k<i
  ·rw[if_pos h2,if_pos h2];exact⟨_,rfl⟩
  ·rw[if_neg h2,if_neg h2];exact⟨_,rfl⟩
end L2
end
section
set_option Elab.async false
set_option linter.all false
set_option maxRecDepth 100000
set_option maxHeartbeats 4000000
set_option format.width 230
set_option pp.deepTerms true
set_option pp.maxSteps 20000
namespace K61
open PySem L2
local macro_rules | `(tactic| walk_at "rd")=>`(tactic| ((try simp only[L2.start,st0,List.map_cons,List.map_nil,List.length_cons,List.length_nil,List.replicate,List.cons_append,List.nil_append,Nat.reduceAdd,Nat.reduceSub,List.getElem?_cons_zero,List.getElem?_cons_succ,Option.join_some]);simp only[↓tSeqA,↓tAsgA,↓tOpA,↓tCA,↓tRetA,↓tRetNA,↓tIfSA,↓tTestA,↓tBA,↓tNextA,↓tDropA,↓tCallA,↓tConsA,↓tNilA,↓tCBA,↓tBMA,↓tBM0A,↓tTupA,↓tLstA,↓gTupA,↓gConsA,↓gNilA,↓gSubA,↓tSlA,↓tNoPartA,↓tPartA,↓tAndA,↓tOrA,↓tNotA,↓tDInA,↓tDNotInA,↓sDPutA,↓iListA,↓iTupA,↓iRng1A,↓iRng2A,↓tLCA,↓tDCA,↓tChainA,↓tAndVA,↓tOrVA,↓tNotVA,↓tUnA,↓tYesA,↓tDNewKA,↓tDNewTA,↓tIsNA,↓tNotNA,↓tV0,↓tV1,↓tV2,↓tV3,↓tV4,↓tV5,↓tV6,↓tV7,↓tV8,↓tV9,↓tV10,↓tV11,↓tV12,↓tV13,↓tV14,↓tV15,↓gN0,↓gN1,↓gN2,↓gN3,↓gN4,↓gN5,↓gN6,↓gN7,↓gN8,↓gN9,↓gN10,↓gN11,↓gN12,↓gN13,↓gN14,↓gN15,↓rI0i,↓rIi,↓rIxLr,↓rIxTr,↓exB,↓exI,↓exR,↓rEqI,↓rNeI,↓cLenR,rI,rI0,rAppend,rPop,rSetL,tRevL,rIxL,rIxT,rEq,rNe,cLen,cList,cTuple,cSortT,cIsi,cAll,L2.start,st0,List.map_cons,List.map_nil,List.length_cons,List.length_nil,List.replicate,List.cons_append,List.nil_append,List.append_nil,List.getElem?_cons_zero,List.getElem?_cons_succ,List.set_cons_zero,List.set_cons_succ,Option.some.injEq,V.int.injEq,V.bl.injEq,V.ref.injEq,List.cons.injEq,and_true,true_and,exists_eq_left',exists_eq_left,exists_eq',exists_eq,Nat.reduceAdd,Nat.reduceSub,exists_and_left,and_self,Option.join_some,scal,decide_true,if_true,if_false,Bool.false_eq_true,Bool.not_true,Bool.not_false,tVar,gName]))
def top (i:Nat):Stmt:=PySem.Challenge.pw_manyleaves_k61_made.main.body.getD i (.Pass ⟨0,0,0,0⟩)
section
variable {P:Program}{w:World}{K:PySem.W.Frag}{mg:Str→Option Value}{base:Heap}
theorem sc_mixed:FnScope ["_law_cell", "_law_k", "_law_number"] ["_law_cell", "_law_k"] (defScope (top 11)):=⟨rfl,rfl,rfl,by decide +kernel,rfl,by decide +kernel,by decide +kernel⟩
theorem ok_mixed {f:Addr}{fd:FuncData}(F:Fun K "_law_mixed" "_law_mixed" (top 11) f fd)(B:Bt mg):FnOk P w K mg base CX0 1 f fd ["_law_cell", "_law_k"] sp_mixed:=by
 refine F.ok sc_mixed (fun vs H Q E h=>?_) (fun cdv A outer s H vs Q E hr h=>?_)
 ·obtain⟨c,k,rfl,hk0,hk1,q⟩:=h;rfl
 ·obtain⟨c,k,rfl,hk0,hk1,q⟩:=h;have nd:=sc_mixed.nd;have hu:=hu_of hr
  refine⟨_,(pss_cons (ps_set (i:=2) nd rfl (Or.inl rfl) (pe_op op_mod (pe_op op_add (pe_op op_add (pv 0) (pe_op op_mul (pe_op op_mul (pv 1) (pv 1)) pe_int)) pe_int) pe_int))
    (pss_cons (ps_set (i:=2) nd rfl (Or.inl rfl) (pe_op op_mod (pe_op op_mul (pv 2) (pv 2)) pe_int))
    (pss_cons (ps_set (i:=2) nd rfl (Or.inl rfl) (pe_op op_mod (pe_op op_mul (pe_op op_add (pe_op op_add (pv 2) (pe_op op_mul (pv 1) pe_int)) pe_int) pe_int) pe_int))
    (pss_one (ps_ret (pe_op op_fdiv (pe_op op_mod (pe_op op_mul (pv 2) (pv 2)) pe_int) pe_int)))))),?_⟩
  walk_at "rd";have hm:∀ x:Int,0≤x % 2305843009213693951∧x % 2305843009213693951<2305843009213693951:=fun x=>⟨Int.emod_nonneg _ (by decide),Int.emod_lt_of_pos _ (by decide)⟩
  have small:∀ x y:Int,CMul (x % 2305843009213693951) y:=fun x y=>.inl ⟨by have:=hm x;omega,by have:=hm x;omega⟩
  have pos:(0:Int)<2305843009213693951:=by decide
  exact⟨.inl ⟨by omega,by omega⟩,.inr ⟨by decide,by decide⟩,pos,small _ _,pos,.inl ⟨by omega,by omega⟩,.inr ⟨by decide,by decide⟩,pos,small _ _,pos,⟨by decide,by decide⟩,q _⟩
theorem sc_next:FnScope ["_law_deck_here"] ["_law_deck_here"] (defScope (top 13)):=⟨rfl,rfl,rfl,by decide +kernel,rfl,by decide +kernel,by decide +kernel⟩
theorem ok_next {f:Addr}{fd:FuncData}(F:Fun K "_law_next" "_law_next" (top 13) f fd)(B:Bt mg):FnOk P w K mg base CX0 1 f fd ["_law_deck_here"] sp_next:=by
 refine F.ok sc_next (fun vs H Q E h=>?_) (fun cdv A outer s H vs Q E hr h=>?_)
 ·obtain⟨d,ns,rfl,hd,q⟩:=h;rfl
 ·obtain⟨d,ns,rfl,hd,q⟩:=h;have nd:=sc_next.nd;have hu:=hu_of hr
  refine⟨_,(pss_cons (ps_if (pt_cmpR op_gt (pe_callB (lenK K) (by rfl) B.len PySem.boot_len (pa_cons (pv 0) pa_nil)) pe_int (nomark _))
     (pss_one (ps_ret (popK K (pv 0))))
     pss_nil)
    (pss_one (ps_ret pe_int))),?_⟩
  walk_at "rd";refine⟨ns.map V.int,.inl (SqL.of hd),ite2 (fun h=>?_) fun h=>?_⟩
  ·refine⟨.inl ⟨rfl,_,SqL.of hd⟩,?_⟩;have hne:ns≠[]:=fun e=>by subst e;simp at h
   have h1:(ns.map V.int)[(ns.map V.int).length-1]?=some (V.int (ns.getLast hne)):=by
    rw[List.length_map,List.getElem?_map,← List.getLast?_eq_getElem?,List.getLast?_eq_some_getLast hne];rfl
   refine⟨ns.map V.int,hd,_,h1,?_⟩;rw[← List.map_dropLast];exact q _ _ (by rw[List.length_dropLast];omega) (fun x hx=>List.dropLast_subset _ hx) (.inr (List.getLast_mem hne))
  ·have e:upd H d (.lst (ns.map V.int))=H:=upd_self hd;have:=q 0 ns (Nat.le_refl _) (fun _ h=>h) (.inl rfl);rw[e] at this;exact this
def inv_deck (H:Hp)(a p4 p5 p6:Addr)(m:Int)(os:List Int)(i:Nat)(σ:St)(Hc:Hp):Prop:=∃ (kv av:Option V) (rs ds:List Int),σ=[some (.ref a),some (.int m),some (.ref p4),some (.ref p5),some (.ref p6),kv,av]∧Same H Hc∧Hc p4=some (.lst (os.map V.int)) ∧
 Hc p5=some (.lst (rs.map V.int))∧rs.length=os.length∧Hc p6=some (.lst (ds.map V.int))∧ds.length=i∧(∀ x∈ds,0≤x∧x<1000)
theorem sc_deck:FnScope ["_law_script", "_law_many", "_law_own", "_law_rest", "_law_deck_here", "_law_k", "_law_at"] ["_law_script", "_law_many"] (defScope (top 12)):=⟨rfl,rfl,rfl,by decide +kernel,rfl,by decide +kernel,by decide +kernel⟩
theorem ok_deck {f:Addr}{fd:FuncData}(F:Fun K "_law_deck" "_law_deck" (top 12) f fd)(B:Bt mg){f1:Addr}{fd1:FuncData}{st1:Stmt}(D_law_mixed:Df K mg "_law_mixed" st1 f1 fd1 ["_law_cell", "_law_k"])(G_law_mixed:FnOk P w K mg base CX0 1 f1 fd1 ["_law_cell", "_law_k"] sp_mixed):FnOk P w K mg base CX0 2 f fd ["_law_script", "_law_many"] (sp_deck K):=by
 refine F.ok sc_deck (fun vs H Q E h=>?_) (fun cdv A outer s H vs Q E hr h=>?_)
 ·obtain⟨a,m,ns,rfl,hS,hl,hm0,hm1,q⟩:=h;rfl
 ·obtain⟨a,m,ns,rfl,hS,hl,hm0,hm1,q⟩:=h;have nd:=sc_deck.nd;have hu:=hu_of hr
  refine⟨_,(pss_cons (ps_set (i:=2) nd rfl (Or.inl rfl) (pe_op op_cat (pe_callTy (listK K) (by rfl) B.list PyProof.Rows.boot_list (pa_cons (pe_slice (sl_listK K) (pv 0) po_none (po_some pe_int)) pa_nil)) (pe_op op_rep (pe_lst (pa_cons pe_int pa_nil)) (pe_callTy call_intB (by rfl) B.int PyProof.Rows.boot_int (pa_cons (pe_cmpR op_eq (pe_callB (lenK K) (by rfl) B.len PySem.boot_len (pa_cons (pv 0) pa_nil)) pe_int (nomark _)) pa_nil)))))
    (pss_cons (ps_setLC (i:=3) (own:=["_law_cell"]) (fr:=[]) rfl nd rfl rfl (by with_unfolding_all rfl) (by with_unfolding_all rfl) frOk_nil (pi_listK K (pv 2)) ⟨fun _ _ _ _=>⟨(pg_name (i:=0) (show List.Nodup (["_law_cell"]:List Str) by decide +kernel) rfl (Or.inl rfl)),pts_nil,(pe_ix (ix_listK K) (pe_lst (pa_cons pe_int (pa_cons (pv 0) pa_nil))) (pe_callTy call_intB (by rfl) B.int PyProof.Rows.boot_int (pa_cons (pe_cmpR op_ge (pv 0) (pe_op op_pow pe_int pe_int) (nomark _)) pa_nil)) (fun _ _=>rfl))⟩⟩)
    (pss_cons (ps_set (i:=4) nd rfl (Or.inl rfl) (pe_lst pa_nil))
    (pss_cons (ps_for PassesOwn.never rfl (pi_range1 (by rfl) B.range (pa_cons (pv 1) pa_nil)) (pg_name (i:=5) nd rfl (Or.inl rfl))
     (pss_cons (ps_set (i:=6) nd rfl (Or.inl rfl) (pe_op op_mod (pv 5) (pe_callB (lenK K) (by rfl) B.len PySem.boot_len (pa_cons (pv 2) pa_nil))))
     (pss_one (ps_if (pt_cmpR op_gt (pe_ix (ix_listK K) (pv 3) (pv 6) (fun _ _=>rfl)) pe_int (nomark _))
      (pss_cons (ps_expr (appendK K (pv 4) (pa_cons (pe_op op_mod (pe_ix (ix_listK K) (pv 3) (pv 6) (fun _ _=>rfl)) pe_int) pa_nil)))
      (pss_one (ps_asg (pe_op op_fdiv (pe_ix (ix_listK K) (pv 3) (pv 6) (fun _ _=>rfl)) pe_int) (pg_sub (pv 3) (pv 6) set_list))))
      (pss_one (ps_expr (appendK K (pv 4) (pa_cons (pe_op op_mod (pe_own G_law_mixed D_law_mixed (hr.mono (by decide)) (pa_cons (pe_ix (ix_listK K) (pv 2) (pv 6) (fun _ _=>rfl)) (pa_cons (pe_op op_add (pv 5) pe_int) pa_nil))) pe_int) pa_nil))))))))
    (pss_one (ps_ret (pe_listrev hr.hd (by rfl) B.list (by rfl) B.reversed (pv 4)))))))),?_⟩
  walk_at "rd";refine⟨a,ns.map V.int,rfl,hS,fun p1 n1=>⟨p1,rfl,_,.inl (SqL.of upd_same),fun l nl=>⟨by decide,fun p2 n2=>?_⟩⟩⟩;have s1:=(Same.refl H).upd (o:=.lst (cutV (ns.map V.int) none (some 60))) n1;have s2:=s1.upd (o:=.lst (cutV (ns.map V.int) none (some 60))) (s1.free nl);have s3:=s2.upd (o:=.lst [V.int 0]) (s2.free n2);refine⟨ns.map V.int,.inl (s3.seq hS),p2,_,_,rfl,rfl,upd_same,?_,?_,?_,fun p3 n3=>?_⟩
  ·split<;>decide
  ·split<;>decide
  ·rw[sizeLine_eq];split<;>decide
  have s4:=s3.upd (o:=.lst (List.replicate (if decide ((ns.map V.int).length=(0:Int))=true then (1:Int) else 0).toNat [V.int 0]).flatten) (s3.free n3);have hlp:l≠p2:=fun e=>by subst e;rw[upd_same] at n2;cases n2
  have hl3:l≠p3:=fun e=>by subst e;rw[upd_ne hlp,upd_same] at n3;cases n3
  obtain⟨os,eo,ho1,ho2⟩:∃ os:List Int,cutV (ns.map V.int) none (some 60)++(List.replicate (if decide ((ns.map V.int).length=(0:Int))=true then (1:Int) else 0).toNat [V.int 0]).flatten=os.map V.int∧1≤os.length∧os.length≤64:=by
   by_cases e:ns=[]
   ·subst e;exact⟨[0],rfl,by decide,by decide⟩
   ·have hne:¬ ((ns.map V.int).length:Int)=0:=by rw[List.length_map];have:=List.length_pos_iff.mpr e;omega
    rw[decide_eq_false hne];refine⟨ns.take 60,?_,?_,?_⟩
    ·have h60:HT.sIx (ns.map V.int).length (ns.map V.int).length (some 60)=min 60 ns.length:=by rw[show (60:Int)=((60:Nat):Int) from rfl,HT.sIx_nat,List.length_map]
     unfold cutV;rw[HT.sIx_none,List.drop_zero,h60,Nat.sub_zero];simp only[Bool.false_eq_true,if_false,Int.toNat_zero,List.replicate,List.flatten_nil,List.append_nil];rw[← List.map_take];congr 1;by_cases h:60≤ns.length
     ·rw[Nat.min_eq_left h]
     ·rw[Nat.min_eq_right (by omega),List.take_of_length_le (Nat.le_refl _),List.take_of_length_le (by omega)]
    ·have:=List.length_pos_iff.mpr e;rw[List.length_take];omega
    ·rw[List.length_take];omega
  refine⟨l,p3,_,_,rfl,rfl,by rw[upd_ne hl3,upd_ne hlp,upd_same],upd_same,?_,fun p4 n4=>?_⟩
  ·have:=congrArg List.length eo;have e2:(os.map V.int).length=os.length:=List.length_map _;rw[List.length_append] at this;rw[sizeLine_eq];omega
  rw[eo];have s5:=s4.upd (o:=.lst (os.map V.int)) (s4.free n4);generalize hH5:upd (upd (upd (upd (upd H p1 (HO.lst (cutV (ns.map V.int) none (some 60)))) l (HO.lst (cutV (ns.map V.int) none (some 60)))) p2 (HO.lst [V.int 0])) p3 (HO.lst (List.replicate (if decide ((ns.map V.int).length=(0:Int))=true then (1:Int) else 0).toNat [V.int 0]).flatten)) p4 (HO.lst (os.map V.int))=H5 at s5 ⊢;have h4:H5 p4=some (.lst (os.map V.int)):=by rw[← hH5];exact upd_same
  refine⟨p4,rfl,⟨_,SqL.of h4⟩,fun p5 n5=>lc_list (K:=K) (xs:=os.map V.int) (fun i τ Hc=>∃ (c:Option V) (rs:List Int),τ=[c]∧Same H5 Hc∧Hc p5=some (.lst (rs.map V.int))∧rs.length=i)
   ⟨none,[],rfl,(Same.refl H5).upd n5,upd_same,rfl⟩ (fun i τ Hc _ ⟨_,_,_,sc,_⟩=>SqL.of (sc _ _ h4)) ?_ ?_⟩
  ·rintro i x τ Hc hx ⟨c,rs,rfl,sc,h5,hi⟩ _;have hil:i<os.length:=by have:=(List.getElem?_eq_some_iff.mp hx).1;rw[List.length_map] at this;exact this
   obtain⟨z,rfl⟩:∃ z,x=V.int z:=by
    rw[List.getElem?_map] at hx;cases e:os[i]? with
    | none=>rw[e] at hx;cases hx
    | some z=>rw[e] at hx;exact⟨z,(Option.some.inj hx).symm⟩
   walk_at "rd";refine⟨by decide,fun p n=>⟨⟨by decide,by decide,by decide⟩,?_⟩⟩;have h5':∀ o,(upd Hc p o) p5=some (.lst (rs.map V.int)):=fun o=>by rw[upd_ne (ne_of_none h5 n)];exact h5
   refine⟨[V.int 0,V.int z],SqL.of upd_same,?_⟩;generalize decide ((10:Int) ^ Int.toNat 18≤z)=b;obtain⟨y,hy⟩:∃ y:Int,atI [V.int 0,V.int z] (if b=true then 1 else 0)=some (V.int y):=by
    cases b
    ·exact⟨0,rfl⟩
    ·exact⟨z,rfl⟩
   refine⟨_,hy,_,h5' _,?_,(sc.upd (sc.free n)).upd n5,rs++[y],?_,?_⟩
   ·rw[List.length_map];exact sizeBig (by omega)
   ·rw[upd_same,List.map_append];rfl
   ·rw[List.length_append,hi];rfl
  ·rintro τ H6 ⟨c,rs,rfl,s6,h5,hrs⟩;rw[List.length_map] at hrs;refine⟨by decide,fun p6 n6=>?_⟩;have s06:Same H H6:=s5.trans s6;have h46:H6 p4=some (.lst (os.map V.int)):=s6 _ _ h4;have n45:p4≠p5:=ne_of_none h4 n5;have n46:p4≠p6:=ne_of_none h46 n6;have n56:p5≠p6:=ne_of_none h5 n6
   refine⟨_,rfl,m,rfl,by omega,by omega,for_range (lo:=0) (n:=m.toNat) (inv_deck H a p4 p5 p6 m os)
    ⟨none,none,rs,[],rfl,s06.upd (s06.free n6),by rw[upd_ne n46];exact h46,by rw[upd_ne n56];exact h5,hrs,upd_same,rfl,fun x hx=>(by cases hx)⟩ ?_ ?_⟩
   ·rintro i σ Hc hi ⟨kv,av,rs,ds,rfl,sc,c4,c5,hrl,c6,hdl,hdb⟩;have hoi:(0:Int)<(os.map V.int).length:=by rw[List.length_map];omega
    have hat:∃ j:Nat,j<os.length∧(0+(i:Int)) % ((os.map V.int).length:Int)=(j:Int):=by
     have h1:=Int.emod_nonneg (0+(i:Int)) (b:=((os.map V.int).length:Int)) (by omega);have h2:=Int.emod_lt_of_pos (0+(i:Int)) hoi;refine⟨((0+(i:Int)) % ((os.map V.int).length:Int)).toNat,?_,by omega⟩;rw[List.length_map] at h2 ⊢;omega
    obtain⟨j,hj,ej⟩:=hat;have atR:∀ (l:List Int),l.length=os.length→∃ z,atI (l.map V.int) (j:Int)=some (V.int z):=fun l e=>by
     have hjl:j<l.length:=by omega
     exact⟨l[j],atI_nat (by rw[List.getElem?_map,List.getElem?_eq_getElem hjl];rfl)⟩
    obtain⟨z,hz⟩:=atR rs hrl;obtain⟨z',hz'⟩:=atR os rfl;have n65:p6≠p5:=n56.symm;have hdb2:∀ y:Int,∀ x∈ds++[y % 1000],0≤x∧x<1000:=fun y x hx=>by
     rcases List.mem_append.mp hx with hx | hx
     ·exact hdb x hx
     ·rw[List.mem_singleton.mp hx];omega
    have n64:p6≠p4:=n46.symm;have hdl2:(ds.map V.int).length<sizeLine:=by rw[List.length_map];exact sizeBig (by omega)
    have c5':∀ o,(upd Hc p6 o) p5=some (.lst (rs.map V.int)):=fun o=>by rw[upd_ne n56];exact c5
    have hm6:H p6=none:=s06.free n6;have hm5:H p5=none:=(s5.free n5)
    walk_at "rd";refine⟨_,.inl (SqL.of c4),hoi,_,SqL.of c5,?_⟩;rw[ej];refine⟨_,hz,z,rfl,ite2 (fun _=>?_) fun _=>?_⟩
    ·refine⟨.inl ⟨rfl,_,SqL.of c6⟩,_,SqL.of c5,_,hz,z,rfl,by decide,_,c6,hdl2,_,SqL.of (c5' _),_,hz,z,rfl,⟨by decide,by decide⟩,?_⟩;have hix:ixN (rs.map V.int).length (j:Int)=some j:=by
      unfold ixN;rw[List.length_map,if_pos (by omega),if_pos (by omega)];simp
     refine⟨_,c5' _,j,hix,?_⟩;refine⟨_,_,rs.set j (z / 1000),ds++[z % 1000],rfl,(sc.upd hm6).upd hm5,by rw[upd_ne n45,upd_ne n46];exact c4,by rw[upd_same,List.map_set],by rw[List.length_set];exact hrl,?_,by rw[List.length_append,hdl];rfl,hdb2 z⟩;rw[upd_ne n65,upd_same,List.map_append];rfl
    ·refine⟨.inl ⟨rfl,_,SqL.of c6⟩,_,SqL.of c4,_,hz',z',_,rfl,by omega,by omega,fun y=>?_⟩;walk_at "rd";refine⟨by decide,_,c6,hdl2,?_⟩;refine⟨_,_,rs,ds++[y % 1000],rfl,sc.upd hm6,by rw[upd_ne n46];exact c4,by rw[upd_ne n56];exact c5,hrl,by rw[upd_same,List.map_append];rfl,by rw[List.length_append,hdl];rfl,hdb2 y⟩
   ·rintro σ Hc ⟨kv,av,rs,ds,rfl,sc,c4,c5,hrl,c6,hdl,hdb⟩;walk_at "rd";refine⟨_,c6,fun p7 n7=>?_⟩;rw[← List.map_reverse];exact q p7 ds.reverse _ ⟨by rw[List.length_reverse];omega,fun x hx=>hdb x (List.mem_reverse.mp hx)⟩ (sc.upd (sc.free n7)) (sc.free n7) upd_same
def tiedB (kind one a b:Int):Bool :=
 if decide (kind=0)=true then decide (b=a+1)
 else if decide (kind=1)=true then decide (b=a+1) || (decide (a=0) && decide (b=one-1))
 else if decide (kind=2)=true then true
 else if decide (kind=3)=true then decide (a<one) && decide (one≤b)
 else if decide (kind=4)=true then (decide (b=a+1) && decide (b<one)) || (decide (a<one) && decide (b=a+one))
 else (decide (b=a+1) && !decide (b=one)) || decide (b=a+one)
def sp_ltied:Sp:=fun vs H Q _=>∃ kind one a b:Int,vs=[.int kind,.int one,.int a,.int b]∧Q (.bl (tiedB kind one a b)) H
theorem sc_ltied:FnScope ["_law_kind", "_law_one", "_law_a", "_law_b"] ["_law_kind", "_law_one", "_law_a", "_law_b"] (defScope (top 14)):=⟨rfl,rfl,rfl,by decide +kernel,rfl,by decide +kernel,by decide +kernel⟩
theorem ok_ltied {f:Addr}{fd:FuncData}(F:Fun K "_law_tied" "_law_tied" (top 14) f fd)(B:Bt mg):FnOk P w K mg base CX0 1 f fd ["_law_kind", "_law_one", "_law_a", "_law_b"] sp_ltied:=by
 refine F.ok sc_ltied (fun vs H Q E h=>?_) (fun cdv A outer s H vs Q E hr h=>?_)
 ·obtain⟨kind,one,a,b,rfl,q⟩:=h;rfl
 ·obtain⟨kind,one,a,b,rfl,q⟩:=h;have nd:=sc_ltied.nd;have hu:=hu_of hr
  refine⟨_,(pss_cons (ps_if (pt_cmpR op_eq (pv 0) pe_int (nomark _))
     (pss_one (ps_ret (pe_cmpR op_eq (pv 3) (pe_op op_add (pv 2) pe_int) (nomark _))))
     pss_nil)
    (pss_cons (ps_if (pt_cmpR op_eq (pv 0) pe_int (nomark _))
     (pss_one (ps_ret (pe_or (pe_cmpR op_eq (pv 3) (pe_op op_add (pv 2) pe_int) (nomark _)) (pe_one (pe_and (pe_cmpR op_eq (pv 2) pe_int (nomark _)) (pe_one (pe_cmpR op_eq (pv 3) (pe_op op_sub (pv 1) pe_int) (nomark _))))))))
     pss_nil)
    (pss_cons (ps_if (pt_cmpR op_eq (pv 0) pe_int (nomark _))
     (pss_one (ps_ret pe_bl))
     pss_nil)
    (pss_cons (ps_if (pt_cmpR op_eq (pv 0) pe_int (nomark _))
     (pss_one (ps_ret (pe_and (pe_cmpR op_lt (pv 2) (pv 1) (nomark _)) (pe_one (pe_cmpR op_ge (pv 3) (pv 1) (nomark _))))))
     pss_nil)
    (pss_cons (ps_if (pt_cmpR op_eq (pv 0) pe_int (nomark _))
     (pss_one (ps_ret (pe_or (pe_and (pe_cmpR op_eq (pv 3) (pe_op op_add (pv 2) pe_int) (nomark _)) (pe_one (pe_cmpR op_lt (pv 3) (pv 1) (nomark _)))) (pe_one (pe_and (pe_cmpR op_lt (pv 2) (pv 1) (nomark _)) (pe_one (pe_cmpR op_eq (pv 3) (pe_op op_add (pv 2) (pv 1)) (nomark _))))))))
     pss_nil)
    (pss_one (ps_ret (pe_or (pe_and (pe_cmpR op_eq (pv 3) (pe_op op_add (pv 2) pe_int) (nomark _)) (pe_one (pe_cmpR op_ne (pv 3) (pv 1) (nomark _)))) (pe_one (pe_cmpR op_eq (pv 3) (pe_op op_add (pv 2) (pv 1)) (nomark _))))))))))),?_⟩
  walk_at "rd";unfold tiedB at q;generalize decide (kind=0)=k0 at q ⊢;generalize decide (kind=1)=k1 at q ⊢;generalize decide (kind=2)=k2 at q ⊢;generalize decide (kind=3)=k3 at q ⊢;generalize decide (kind=4)=k4 at q ⊢;generalize decide (b=a+1)=d1 at q ⊢;generalize decide (a=0)=d2 at q ⊢;generalize decide (b=one-1)=d3 at q ⊢;generalize decide (a<one)=d4 at q ⊢;generalize decide (one≤b)=d5 at q ⊢;generalize decide (b<one)=d6 at q ⊢;generalize decide (b=a+one)=d7 at q ⊢;generalize decide (b=one)=d8 at q ⊢;cases k0
  ·cases k1
   ·cases k2
    ·cases k3
     ·cases k4
      ·cases d1<;>cases d8<;>exact q
      ·cases d1<;>cases d6<;>cases d4<;>exact q
     ·cases d4<;>exact q
    ·exact q
   ·cases d1<;>cases d2<;>exact q
  ·exact q
def kindN (kind one other:Int):Option V:=atI [.int one,.int one,.int one,.int (one+other),.int (2*one),.int (2*one)] kind
def kR (kind one:Int)(a:Nat)(m:Nat):List (Int×Int):=((rInts ((a:Int)+1) m).filter (tiedB kind one a)).map fun b=>((a:Int),b)
def kT (kind one:Int)(n:Nat)(i:Nat):List (Int×Int):=(List.range i).flatMap fun a=>kR kind one a (n-(a+1))
theorem kR_len {kind one:Int}{a m:Nat}:(kR kind one a m).length≤m:=by
 unfold kR;rw[List.length_map];refine Nat.le_trans (List.length_filter_le ..) ?_;rw[rInts_length];exact Nat.le_refl _
theorem kT_succ {kind one:Int}{n i:Nat}:kT kind one n (i+1)=kT kind one n i++kR kind one i (n-(i+1)):=by
 unfold kT;rw[List.range_succ,List.flatMap_append,List.flatMap_singleton]
theorem kT_len {kind one:Int}{n i:Nat}:(kT kind one n i).length≤i*n:=by
 induction i with
 | zero=>exact Nat.zero_le _
 | succ i ih =>
  rw[kT_succ,List.length_append,Nat.succ_mul];have:=kR_len (kind:=kind) (one:=one) (a:=i) (m:=n-(i+1));omega
def sp_lkweb (K:PySem.W.Frag):Sp:=fun vs H Q _=>∃ (kind one other:Int) (n:Nat),vs=[.int kind,.int one,.int other]∧kindN kind one other=some (.int n)∧0≤one∧one≤1000∧n≤200 ∧
 ∀ (p q:Addr) (H':Hp),Same H H'→H p=none→H' p=some (.tup [.int n,.ref q])→TsAt H' q (kT kind one n n)→Q (.ref p) H'
def inv_kw (Hb:Hp)(kind one other:Int)(n:Nat)(i:Nat)(σ:St)(Hc:Hp):Prop:=∃ (tp:Addr) (av:Option V) (ps:List (Addr×List Int)),σ=[some (.int kind),some (.int one),some (.int other),some (.int n),some (.ref tp),av]∧Same Hb Hc∧Hc tp=some (.lst (ps.map fun x=>V.ref x.1))∧PsAt Hc ps (kT kind one n i)
def inv_kr (Hb:Hp)(l:Addr)(kind one:Int)(a:Nat)(i:Nat)(τ:St)(Hc:Hp):Prop:=∃ (c:Option V) (ps:List (Addr×List Int)),τ=[c,some (.int a),some (.int kind),some (.int one)]∧Same Hb Hc∧Hc l=some (.lst (ps.map fun x=>V.ref x.1))∧PsAt Hc ps (kR kind one a i)
theorem sc_lkweb:FnScope ["_law_kind", "_law_one", "_law_other", "_law_places", "_law_ties", "_law_a"] ["_law_kind", "_law_one", "_law_other"] (defScope (top 15)):=⟨rfl,rfl,rfl,by decide +kernel,rfl,by decide +kernel,by decide +kernel⟩
theorem ok_lkweb {f:Addr}{fd:FuncData}(F:Fun K "_law_kind_web" "_law_kind_web" (top 15) f fd)(B:Bt mg){f1:Addr}{fd1:FuncData}{st1:Stmt}(D_law_tied:Df K mg "_law_tied" st1 f1 fd1 ["_law_kind", "_law_one", "_law_a", "_law_b"])(G_law_tied:FnOk P w K mg base CX0 1 f1 fd1 ["_law_kind", "_law_one", "_law_a", "_law_b"] sp_ltied):FnOk P w K mg base CX0 2 f fd ["_law_kind", "_law_one", "_law_other"] (sp_lkweb K):=by
 refine F.ok sc_lkweb (fun vs H Q E h=>?_) (fun cdv A outer s H vs Q E hr h=>?_)
 ·obtain⟨kind,one,other,n,rfl,hn,ho0,ho1,hn2,q0⟩:=h;rfl
 ·obtain⟨kind,one,other,n,rfl,hn,ho0,ho1,hn2,q0⟩:=h;have nd:=sc_lkweb.nd;have hu:=hu_of hr
  refine⟨_,(pss_cons (ps_set (i:=3) nd rfl (Or.inl rfl) (pe_ix (ix_listK K) (pe_lst (pa_cons (pv 1) (pa_cons (pv 1) (pa_cons (pv 1) (pa_cons (pe_op op_add (pv 1) (pv 2)) (pa_cons (pe_op op_mul pe_int (pv 1)) (pa_cons (pe_op op_mul pe_int (pv 1)) pa_nil))))))) (pv 0) (fun _ _=>rfl)))
    (pss_cons (ps_set (i:=4) nd rfl (Or.inl rfl) (pe_lst pa_nil))
    (pss_cons (ps_for PassesOwn.never rfl (pi_range1 (by rfl) B.range (pa_cons (pv 3) pa_nil)) (pg_name (i:=5) nd rfl (Or.inr rfl))
     (pss_one (ps_set (i:=4) nd rfl (Or.inl rfl) (pe_op op_cat (pv 4) (pe_lcomp (own:=["_law_b"]) (fr:=[("_law_a",5),("_law_kind",0),("_law_one",1)]) rfl (by with_unfolding_all rfl) (frOk_cons rfl rfl (frOk_cons rfl rfl (frOk_cons rfl rfl frOk_nil))) (pi_range2 (by rfl) B.range (pa_cons (pe_op op_add (pv 5) pe_int) (pa_cons (pv 3) pa_nil))) ⟨fun _ _ _ _=>⟨(pg_name (i:=0) (show List.Nodup (["_law_b", "_law_a", "_law_kind", "_law_one"]:List Str) by decide +kernel) rfl (Or.inl rfl)),(pts_one (pt_val (pe_own G_law_tied D_law_tied (hr.mono (by decide)) (pa_cons (pv 2) (pa_cons (pv 3) (pa_cons (pv 1) (pa_cons (pv 0) pa_nil))))))),(pe_tup (pa_cons (pv 1) (pa_cons (pv 0) pa_nil)))⟩⟩)))))
    (pss_one (ps_ret (pe_tup (pa_cons (pv 3) (pa_cons (pe_callTy (tupleK K) (by rfl) B.tuple PyProof.Rows.boot_tuple (pa_cons (pv 4) pa_nil)) pa_nil)))))))),?_⟩
  walk_at "rd";refine⟨.inl ⟨by decide,by decide⟩,.inl ⟨by decide,by decide⟩,by decide,fun p1 np1=>fresh_of np1 fun H1 s1 e1=>⟨_,SqL.of e1,_,hn,by decide,fun tp ntp=>fresh_of ntp fun H2 s2 e2=>?_⟩⟩;rw[tFor_eq];walk_at "rd";have s02:=s1.trans s2;refine⟨by omega,by omega,for_range (lo:=0) (n:=n) (inv_kw H kind one other n) ⟨tp,none,[],rfl,s02,e2,⟨fun x hx=>(by cases hx),rfl⟩⟩ ?_ ?_⟩
  ·rintro i σ Hc hi ⟨tp,av,ps,rfl,sc,hc,hps⟩;have pl:=hps.len;have kl:=kT_len (kind:=kind) (one:=one) (n:=n) (i:=i);have k2:i*n≤200*200:=Nat.mul_le_mul (by omega) hn2;walk_at "rd";refine⟨_,_,⟨rfl,rfl⟩,⟨by omega,by omega,by omega,by omega⟩,fun l nl=>?_⟩;rw[Int.zero_add,show ((n:Int)-((i:Int)+1)).toNat=n-(i+1) by omega];refine lc_range (inv_kr Hc l kind one i) ⟨none,[],rfl,(Same.refl Hc).upd nl,upd_same,⟨fun x hx=>(by cases hx),rfl⟩⟩ ?_ ?_
   ·rintro j τ Hd hj ⟨c,qs,rfl,sd,hd,hqs⟩;have ql:=hqs.len;have kl2:=kR_len (kind:=kind) (one:=one) (a:=i) (m:=j);walk_at "rd";refine⟨_,_,_,_,rfl,⟨_,rfl,?_⟩⟩;have er:kR kind one i (j+1)=kR kind one i j++if tiedB kind one i ((i:Int)+1+j)=true then [((i:Int),(i:Int)+1+j)] else []:=by
     unfold kR;rw[show rInts ((i:Int)+1) (j+1)=rInts ((i:Int)+1) j++[(i:Int)+1+j] by unfold rInts;rw[List.range_succ,List.map_append];rfl,List.filter_append,List.map_append];congr 1;by_cases h:tiedB kind one i ((i:Int)+1+j)=true
     ·rw[if_pos h,fil_pos _ h];rfl
     ·rw[if_neg h,fil_neg _ (by simpa using h)];rfl
    refine ite2 (fun h=>⟨by decide,fun pq nq=>⟨_,at_new hd nq,by rw[List.length_map];exact sizeBig (by omega),_,qs++[(pq,tl ((i:Int),(i:Int)+1+j))],rfl,(sd.upd (sd.free nq)).upd nl,by rw[upd_same,List.map_append];rfl,?_⟩⟩) fun h=>⟨_,qs,rfl,sd,hd,?_⟩
    ·rw[er,if_pos h];refine (hqs.tp ((Tp.nw nq).trans (Tp.lst (at_new hd nq)))).snoc ?_;rw[upd_ne (ne_of_none hd nq).symm,upd_same]
    ·rw[er,if_neg h,List.append_nil];exact hqs
   ·rintro τ Hd ⟨c,qs,rfl,sd,hd,hqs⟩;have ql:=hqs.len;have kl2:=kR_len (kind:=kind) (one:=one) (a:=i) (m:=n-(i+1));refine⟨tp,l,_,_,rfl,rfl,sd _ _ hc,hd,by rw[List.length_map,List.length_map];exact Nat.le_of_lt (sizeBig (by omega)),fun l2 nl2=>fresh_of nl2 fun He se ee=>⟨l2,_,ps++qs,rfl,(sc.trans sd).trans se,by rw[ee,List.map_append],?_⟩⟩;rw[kT_succ];exact (hps.tp (sd.trans se).tp).cat (hqs.tp se.tp)
  ·rintro σ Hc ⟨tp,av,ps,rfl,sc,hc,hps⟩;walk_at "rd";refine⟨_,.inl ⟨SqL.of hc,fun q nq=>fresh_of nq fun Hd sd ed=>⟨by decide,fun p np=>fresh_of np fun He se ee=>?_⟩⟩⟩;exact q0 p q He ((sc.trans sd).trans se) ((sc.trans sd).free np) ee ⟨ps,se _ _ ed,hps.tp (sd.trans se).tp⟩
def sp_isint (K:PySem.W.Frag):Sp:=fun vs H Q _=>∃ (x lo hi:Int),vs=[.int x,.int lo,.int hi]∧Q (.bl (decide (lo≤x∧x≤hi))) H
theorem sc_isint:FnScope ["_law_thing", "_law_least", "_law_most"] ["_law_thing", "_law_least", "_law_most"] (defScope (top 17)):=⟨rfl,rfl,rfl,by decide +kernel,rfl,by decide +kernel,by decide +kernel⟩
theorem ok_isint {f:Addr}{fd:FuncData}(F:Fun K "_law_is_int" "_law_is_int" (top 17) f fd)(B:Bt mg)(C:Bt2 mg):FnOk P w K mg base CX0 1 f fd ["_law_thing", "_law_least", "_law_most"] (sp_isint K):=by
 refine F.ok sc_isint (fun vs H Q E h=>?_) (fun cdv A outer s H vs Q E hr h=>?_)
 ·obtain⟨x,lo,hi,rfl,q⟩:=h;rfl
 ·obtain⟨x,lo,hi,rfl,q⟩:=h;have nd:=sc_isint.nd;have hu:=hu_of hr;refine⟨_,(pss_one (ps_ret (pe_and (pe_callB (isiK K) (by rfl) C.isinstance PyProof.Rows.boot_isinstance (pa_cons (pv 0) (pa_cons (pe_ty (by rfl) B.int PyProof.Rows.boot_int) pa_nil))) (pe_and (pe_not (pe_callB (isiK K) (by rfl) C.isinstance PyProof.Rows.boot_isinstance (pa_cons (pv 0) (pa_cons (pe_ty (by rfl) C.bool PyProof.Rows.boot_bool) pa_nil)))) (pe_one (pe_chain op_le op_le (pv 1) (pv 0) (pv 2))))))),?_⟩;walk_at "rd";refine⟨_,_,⟨rfl,rfl⟩,_,.int x,true,rfl,?_⟩;rw[if_pos rfl];refine⟨_,_,⟨rfl,rfl⟩,_,.int x,false,rfl,?_⟩;rw[if_pos (show (!false)=true from rfl)];by_cases h1:lo≤x
  ·rw[if_pos (by simpa using h1)];have:decide (lo≤x∧x≤hi)=decide (x≤hi):=by simp[h1]
   rw[this] at q;exact q
  ·rw[if_neg (by simpa using h1)];have:decide (lo≤x∧x≤hi)=false:=by simp[h1]
   rw[this] at q;exact q
def wayL (f:Int)(m:Nat):List (Int×Int):=(rInts f m).map fun x=>(x,x+1)
theorem wayL_succ {f:Int}{m:Nat}:wayL f (m+1)=wayL f m++[(f+m,f+m+1)]:=by unfold wayL rInts;rw[List.range_succ,List.map_append,List.map_append];rfl
theorem wayL_len {f:Int}{m:Nat}:(wayL f m).length=m:=by unfold wayL;rw[List.length_map,rInts_length]
def LP (H:Hp)(l:Addr)(T:List (Int×Int)):Prop:=∃ ps:List (Addr×List Int),H l=some (.lst (ps.map fun x=>V.ref x.1))∧PsAt H ps T
def sp_wayf:Sp:=fun vs H Q _=>∃ f m:Int,vs=[.int f,.int m]∧0≤f∧f≤1000∧0≤m∧m≤1000∧∀ l H',Same H H'→H l=none→LP H' l (wayL f (m-1).toNat)→Q (.ref l) H'
def inv_wf (Hb:Hp)(l:Addr)(f:Int)(i:Nat)(τ:St)(Hc:Hp):Prop:=∃ (c:Option V) (ps:List (Addr×List Int)),τ=[c]∧Same Hb Hc∧Hc l=some (.lst (ps.map fun x=>V.ref x.1))∧PsAt Hc ps (wayL f i)
theorem sc_wayfrom:FnScope ["first", "many"] ["first", "many"] (defScope (top 1)):=⟨rfl,rfl,rfl,by decide +kernel,rfl,by decide +kernel,by decide +kernel⟩
theorem ok_wayfrom {f:Addr}{fd:FuncData}(F:Fun K "way_from" "way_from" (top 1) f fd)(B:Bt mg):FnOk P w K mg base CX0 1 f fd ["first", "many"] sp_wayf:=by
 refine F.ok sc_wayfrom (fun vs H Q E h=>?_) (fun cdv A outer s H vs Q E hr h=>?_)
 ·obtain⟨f,m,rfl,hf0,hf1,hm0,hm1,q0⟩:=h;rfl
 ·obtain⟨f,m,rfl,hf0,hf1,hm0,hm1,q0⟩:=h;have nd:=sc_wayfrom.nd;have hu:=hu_of hr;refine⟨_,(pss_one (ps_ret (pe_lcomp (own:=["place"]) (fr:=[]) rfl (by with_unfolding_all rfl) frOk_nil (pi_range2 (by rfl) B.range (pa_cons (pv 0) (pa_cons (pe_op op_sub (pe_op op_add (pv 0) (pv 1)) pe_int) pa_nil))) ⟨fun _ _ _ _=>⟨(pg_name (i:=0) (show List.Nodup (["place"]:List Str) by decide +kernel) rfl (Or.inl rfl)),pts_nil,(pe_tup (pa_cons (pv 0) (pa_cons (pe_op op_add (pv 0) pe_int) pa_nil)))⟩⟩))),?_⟩;walk_at "rd";refine⟨_,_,⟨rfl,rfl⟩,⟨by omega,by omega,by omega,by omega⟩,fun l nl=>?_⟩;rw[show (f+m-1-f).toNat=(m-1).toNat by omega];refine lc_range (inv_wf H l f) ⟨none,[],rfl,(Same.refl H).upd nl,upd_same,⟨fun x hx=>(by cases hx),rfl⟩⟩ ?_ ?_
  ·rintro j τ Hd hj ⟨c,qs,rfl,sd,hd,hqs⟩;have ql:=hqs.len;rw[wayL_len] at ql;walk_at "rd"
   exact⟨by decide,fun pq nq=>⟨_,at_new hd nq,by rw[List.length_map];exact sizeBig (by omega),_,qs++[(pq,tl (f+j,f+j+1))],rfl,(sd.upd (sd.free nq)).upd nl,by rw[upd_same,List.map_append];rfl,by
    rw[wayL_succ];refine (hqs.tp ((Tp.nw nq).trans (Tp.lst (at_new hd nq)))).snoc ?_
    rw[upd_ne (ne_of_none hd nq).symm,upd_same]⟩⟩
  ·rintro τ Hd ⟨c,qs,rfl,sd,hd,hqs⟩;exact q0 l _ sd nl ⟨qs,hd,hqs⟩
def sp_mk (P:Int→Int→Prop)(n:Int→Int→Int)(T:Int→Int→List (Int×Int)):Sp:=fun vs H Q _=>∃ one other:Int,vs=[.int one,.int other]∧P one other∧∀ p q H',Same H H'→H p=none→H' p=some (.tup [.int (n one other),.ref q])→LP H' q (T one other)→Q (.ref p) H'
theorem LP.nw {H:Hp}{l p:Addr}{o:HO}{T:List (Int×Int)}(h:LP H l T)(np:H p=none):LP (upd H p o) l T:=by
 obtain⟨ps,a,b⟩:=h;exact⟨ps,at_new a np,b.tp (Tp.nw np)⟩
theorem LP.same {H H':Hp}{l:Addr}{T:List (Int×Int)}(h:LP H l T)(s:Same H H'):LP H' l T:=by
 obtain⟨ps,a,b⟩:=h;exact⟨ps,s _ _ a,b.tp s.tp⟩
theorem LP.one {H:Hp}{p q:Addr}{t:Int×Int}(np:H p=none)(nq:upd H p (.tup [.int t.1,.int t.2]) q=none):LP (upd (upd H p (.tup [.int t.1,.int t.2])) q (.lst [.ref p])) q [t] :=
 ⟨[(p,tl t)],upd_same,PsAt.snoc (ps:=[]) (ts:=[]) ⟨fun x hx=>(by cases hx),rfl⟩ (at_new upd_same nq)⟩
theorem LP.cat {H:Hp}{a b:Addr}{T U:List (Int×Int)}{Q:VK}(ha:LP H a T)(hb:LP H b U)(hz:T.length+U.length≤4000)(q:∀ p H',H p=none→Same H H'→LP H' p (T++U)→Q (.ref p) H'):rCat (.ref a) (.ref b) H Q:=by
 obtain⟨ps,e,h⟩:=ha;obtain⟨qs,f,k⟩:=hb;have h1:=h.len;have h2:=k.len;exact⟨a,b,_,_,rfl,rfl,e,f,by rw[List.length_map,List.length_map];exact Nat.le_of_lt (sizeBig (by omega)),fun p np=>q p _ np ((Same.refl H).upd np) ⟨ps++qs,by rw[upd_same,List.map_append],(h.tp (Tp.nw np)).cat (k.tp (Tp.nw np))⟩⟩
def pWay (one _:Int):Prop:=0≤one∧one≤60
def nOne (one _:Int):Int:=one
def tWay (one _:Int):List (Int×Int):=wayL 0 (one-1).toNat
theorem sc_mway:FnScope ["n", "zero"] ["n", "zero"] (defScope (top 2)):=⟨rfl,rfl,rfl,by decide +kernel,rfl,by decide +kernel,by decide +kernel⟩
theorem ok_mway {f:Addr}{fd:FuncData}(F:Fun K "made_way" "made_way" (top 2) f fd)(B:Bt mg){f1:Addr}{fd1:FuncData}{st1:Stmt}(Dway_from:Df K mg "way_from" st1 f1 fd1 ["first", "many"])(Gway_from:FnOk P w K mg base CX0 1 f1 fd1 ["first", "many"] sp_wayf):FnOk P w K mg base CX0 2 f fd ["n", "zero"] (sp_mk pWay nOne tWay):=by
 refine F.ok sc_mway (fun vs H Q E h=>?_) (fun cdv A outer s H vs Q E hr h=>?_)
 ·obtain⟨one,other,rfl,⟨h0,h1⟩,q0⟩:=h;rfl
 ·obtain⟨one,other,rfl,⟨h0,h1⟩,q0⟩:=h;have nd:=sc_mway.nd;have hu:=hu_of hr;refine⟨_,(pss_one (ps_ret (pe_tup (pa_cons (pv 0) (pa_cons (pe_own Gway_from Dway_from (hr.mono (by decide)) (pa_cons pe_int (pa_cons (pv 0) pa_nil))) pa_nil))))),?_⟩;walk_at "rd";refine⟨_,_,rfl,by omega,by omega,by omega,by omega,fun l H1 s1 nl hl=>⟨by decide,fun p np=>?_⟩⟩;exact q0 p l _ (s1.trans ((Same.refl H1).upd np)) (s1.free np) upd_same (hl.nw np)
def tRing (one _:Int):List (Int×Int):=wayL 0 (one-1).toNat++[(0,one-1)]
theorem sc_mring:FnScope ["n", "zero"] ["n", "zero"] (defScope (top 3)):=⟨rfl,rfl,rfl,by decide +kernel,rfl,by decide +kernel,by decide +kernel⟩
theorem ok_mring {f:Addr}{fd:FuncData}(F:Fun K "made_ring" "made_ring" (top 3) f fd)(B:Bt mg){f1:Addr}{fd1:FuncData}{st1:Stmt}(Dway_from:Df K mg "way_from" st1 f1 fd1 ["first", "many"])(Gway_from:FnOk P w K mg base CX0 1 f1 fd1 ["first", "many"] sp_wayf):FnOk P w K mg base CX0 2 f fd ["n", "zero"] (sp_mk pWay nOne tRing):=by
 refine F.ok sc_mring (fun vs H Q E h=>?_) (fun cdv A outer s H vs Q E hr h=>?_)
 ·obtain⟨one,other,rfl,⟨h0,h1⟩,q0⟩:=h;rfl
 ·obtain⟨one,other,rfl,⟨h0,h1⟩,q0⟩:=h;have nd:=sc_mring.nd;have hu:=hu_of hr;refine⟨_,(pss_one (ps_ret (pe_tup (pa_cons (pv 0) (pa_cons (pe_op op_cat (pe_own Gway_from Dway_from (hr.mono (by decide)) (pa_cons pe_int (pa_cons (pv 0) pa_nil))) (pe_lst (pa_cons (pe_tup (pa_cons pe_int (pa_cons (pe_op op_sub (pv 0) pe_int) pa_nil))) pa_nil))) pa_nil))))),?_⟩;walk_at "rd";refine⟨_,_,rfl,by omega,by omega,by omega,by omega,fun l H1 s1 nl hl=>?_⟩;refine⟨by decide,fun p np=>⟨by decide,fun p2 np2=>?_⟩⟩;have s2:Same H1 (upd (upd H1 p (.tup [.int 0,.int (one-1)])) p2 (.lst [.ref p])):=((Same.refl H1).upd np).trans ((Same.refl _).upd np2);refine LP.cat (hl.same s2) (LP.one (t:=(0,one-1)) np np2) (by rw[wayL_len];simp only[List.length_cons,List.length_nil];omega) fun q H3 nq s3 h3=>?_
  have s:=(s1.trans s2).trans s3;exact⟨by decide,fun r nr=>q0 r q _ (s.trans ((Same.refl H3).upd nr)) (s.free nr) upd_same (h3.nw nr)⟩
def pFull (one _:Int):Prop:=0≤one∧one≤20
def tFull (one _:Int):List (Int×Int):=(rInts 0 one.toNat).flatMap fun b=>(rInts 0 b.toNat).map fun a=>(a,b)
theorem tFull_nat {n c:Int}(h:0≤n):tFull n c=tFull (n.toNat:Int) 0:=by unfold tFull;rw[Int.toNat_natCast]
theorem tFull_succ {n:Nat}:tFull ((n+1:Nat):Int) 0=tFull n 0++(rInts 0 n).map fun a=>(a,(n:Int)):=by
 unfold tFull;rw[Int.toNat_natCast,Int.toNat_natCast,show rInts 0 (n+1)=rInts 0 n++[0+(n:Int)] by unfold rInts;rw[List.range_succ,List.map_append];rfl,List.flatMap_append,List.flatMap_singleton,Int.zero_add,Int.toNat_natCast]
theorem tFull_len {n:Nat}:(tFull (n:Int) 0).length≤n*n:=by
 induction n with
 | zero=>exact Nat.le_refl _
 | succ n ih=>rw[tFull_succ,List.length_append,List.length_map,rInts_length,Nat.succ_mul,Nat.mul_succ];omega
def inv_f (Hb:Hp)(l:Addr)(T:List (Int×Int))(τ:St)(Hc:Hp):Prop:=∃ (b c:Option V) (ps:List (Addr×List Int)),τ=[b,c]∧Same Hb Hc∧Hc l=some (.lst (ps.map fun x=>V.ref x.1))∧PsAt Hc ps T
def inv_g (Hb:Hp)(l:Addr)(T:List (Int×Int))(y:Int)(i:Nat)(τ:St)(Hc:Hp):Prop:=∃ (c:Option V) (ps:List (Addr×List Int)),τ=[some (.int y),c]∧Same Hb Hc∧Hc l=some (.lst (ps.map fun x=>V.ref x.1))∧PsAt Hc ps (T++(rInts 0 i).map fun a=>(a,y))
theorem rI_succ {f:Int}{n:Nat}:rInts f (n+1)=rInts f n++[f+(n:Int)]:=by unfold rInts;rw[List.range_succ,List.map_append];rfl
theorem sc_mfull:FnScope ["n", "zero"] ["n", "zero"] (defScope (top 4)):=⟨rfl,rfl,rfl,by decide +kernel,rfl,by decide +kernel,by decide +kernel⟩
theorem ok_mfull {f:Addr}{fd:FuncData}(F:Fun K "made_full" "made_full" (top 4) f fd)(B:Bt mg):FnOk P w K mg base CX0 1 f fd ["n", "zero"] (sp_mk pFull nOne tFull):=by
 refine F.ok sc_mfull (fun vs H Q E h=>?_) (fun cdv A outer s H vs Q E hr h=>?_)
 ·obtain⟨one,other,rfl,⟨h0,h1⟩,q0⟩:=h;rfl
 ·obtain⟨one,other,rfl,⟨h0,h1⟩,q0⟩:=h;have nd:=sc_mfull.nd;have hu:=hu_of hr;refine⟨_,(pss_one (ps_ret (pe_tup (pa_cons (pv 0) (pa_cons (pe_lcomp2 (own:=["b", "a"]) (fr:=[]) rfl (by with_unfolding_all rfl) frOk_nil (pi_range1 (by rfl) B.range (pa_cons (pv 0) pa_nil)) ⟨fun _ _ _ _=>⟨(pg_name (i:=0) (show List.Nodup (["b", "a"]:List Str) by decide +kernel) rfl (Or.inl rfl)),pts_nil,(pi_range1 (by rfl) B.range (pa_cons (pv 0) pa_nil)),(pg_name (i:=1) (show List.Nodup (["b", "a"]:List Str) by decide +kernel) rfl (Or.inl rfl)),pts_nil,(pe_tup (pa_cons (pv 1) (pa_cons (pv 0) pa_nil)))⟩⟩) pa_nil))))),?_⟩;walk_at "rd";unfold tLC2 tmIn tmEl;walk_at "rd";refine⟨by omega,by omega,fun l nl=>lg_range (fun i τ Hc=>inv_f H l (tFull i 0) τ Hc) ⟨none,none,[],rfl,(Same.refl H).upd nl,upd_same,⟨fun x hx=>(by cases hx),rfl⟩⟩ ?_ ?_⟩
  ·rintro i τ Hc hi ⟨b,c,ps,rfl,sc,hc,hps⟩;have tlen:=tFull_len (n:=i);have ki:i*i≤20*20:=Nat.mul_le_mul (by omega) (by omega);walk_at "rd";refine⟨by omega,by omega,lg_range (inv_g H l (tFull i 0) (0+i)) ⟨c,ps,rfl,sc,hc,(List.append_nil (tFull i 0)).symm ▸ hps⟩ ?_ ?_⟩
   ·rintro j τ Hd hj ⟨c2,qs,rfl,sd,hd,hqs⟩;have ql:=hqs.len;rw[List.length_append,List.length_map,rInts_length] at ql;walk_at "rd";refine⟨by decide,fun pq np=>⟨_,at_new hd np,by rw[List.length_map];exact sizeBig (by omega),_,qs++[(pq,tl (0+j,0+i))],rfl,(sd.upd (sd.free np)).upd nl,by rw[upd_same,List.map_append];rfl,?_⟩⟩;rw[rI_succ,List.map_append,← List.append_assoc];refine (hqs.tp ((Tp.nw np).trans (Tp.lst (at_new hd np)))).snoc ?_;rw[upd_ne (ne_of_none hd np).symm,upd_same]
   ·rintro τ Hd ⟨c2,qs,rfl,sd,hd,hqs⟩;refine⟨_,c2,qs,rfl,sd,hd,?_⟩;rw[tFull_succ];rw[show (0+(i:Int)).toNat=i by omega,Int.zero_add] at hqs;exact hqs
  ·rintro τ Hc ⟨b,c,ps,rfl,sc,hc,hps⟩;refine⟨by decide,fun r nr=>q0 r l _ (sc.trans ((Same.refl Hc).upd nr)) (sc.free nr) upd_same (LP.nw ⟨ps,hc,?_⟩ nr)⟩;rw[tFull_nat h0];exact hps
def pSide (one other:Int):Prop:=0≤one∧one≤60∧0≤other∧other≤60
def nSide (one other:Int):Int:=one+other
def sT (n m:Nat)(one:Int):List (Int×Int):=(rInts 0 n).flatMap fun a=>(rInts 0 m).map fun b=>(a,one+b)
def tSide (one other:Int):List (Int×Int):=sT one.toNat other.toNat one
theorem sT_succ {n m:Nat}{one:Int}:sT (n+1) m one=sT n m one++(rInts 0 m).map fun b=>(0+(n:Int),one+b):=by
 unfold sT;rw[rI_succ,List.flatMap_append,List.flatMap_singleton]
theorem sT_len {n m:Nat}{one:Int}:(sT n m one).length≤n*m:=by
 induction n with
 | zero=>exact Nat.zero_le _
 | succ n ih=>rw[sT_succ,List.length_append,List.length_map,rInts_length,Nat.succ_mul];omega
def inv_s (Hb:Hp)(l:Addr)(T:List (Int×Int))(one other:Int)(τ:St)(Hc:Hp):Prop:=∃ (b c:Option V) (ps:List (Addr×List Int)),τ=[b,c,some (.int one),some (.int other)]∧Same Hb Hc∧Hc l=some (.lst (ps.map fun x=>V.ref x.1))∧PsAt Hc ps T
def inv_t (Hb:Hp)(l:Addr)(T:List (Int×Int))(one other y:Int)(i:Nat)(τ:St)(Hc:Hp):Prop:=∃ (c:Option V) (ps:List (Addr×List Int)),τ=[some (.int y),c,some (.int one),some (.int other)]∧Same Hb Hc∧Hc l=some (.lst (ps.map fun x=>V.ref x.1))∧PsAt Hc ps (T++(rInts 0 i).map fun b=>(y,one+b))
theorem sc_msides:FnScope ["many", "others"] ["many", "others"] (defScope (top 5)):=⟨rfl,rfl,rfl,by decide +kernel,rfl,by decide +kernel,by decide +kernel⟩
theorem ok_msides {f:Addr}{fd:FuncData}(F:Fun K "made_sides" "made_sides" (top 5) f fd)(B:Bt mg):FnOk P w K mg base CX0 1 f fd ["many", "others"] (sp_mk pSide nSide tSide):=by
 refine F.ok sc_msides (fun vs H Q E h=>?_) (fun cdv A outer s H vs Q E hr h=>?_)
 ·obtain⟨one,other,rfl,⟨h0,h1,h2,h3⟩,q0⟩:=h;rfl
 ·obtain⟨one,other,rfl,⟨h0,h1,h2,h3⟩,q0⟩:=h;have nd:=sc_msides.nd;have hu:=hu_of hr;refine⟨_,(pss_one (ps_ret (pe_tup (pa_cons (pe_op op_add (pv 0) (pv 1)) (pa_cons (pe_lcomp2 (own:=["a", "b"]) (fr:=[("many",0),("others",1)]) rfl (by with_unfolding_all rfl) (frOk_cons rfl rfl (frOk_cons rfl rfl frOk_nil)) (pi_range1 (by rfl) B.range (pa_cons (pv 0) pa_nil)) ⟨fun _ _ _ _=>⟨(pg_name (i:=0) (show List.Nodup (["a", "b", "many", "others"]:List Str) by decide +kernel) rfl (Or.inl rfl)),pts_nil,(pi_range1 (by rfl) B.range (pa_cons (pv 3) pa_nil)),(pg_name (i:=1) (show List.Nodup (["a", "b", "many", "others"]:List Str) by decide +kernel) rfl (Or.inl rfl)),pts_nil,(pe_tup (pa_cons (pv 0) (pa_cons (pe_op op_add (pv 2) (pv 1)) pa_nil)))⟩⟩) pa_nil))))),?_⟩;walk_at "rd";unfold tLC2 tmIn tmEl;walk_at "rd";refine⟨by omega,by omega,fun l nl=>lg_range (fun i τ Hc=>inv_s H l (sT i other.toNat one) one other τ Hc) ⟨none,none,[],rfl,(Same.refl H).upd nl,upd_same,⟨fun x hx=>(by cases hx),rfl⟩⟩ ?_ ?_⟩
  ·rintro i τ Hc hi ⟨b,c,ps,rfl,sc,hc,hps⟩;have tlen:=sT_len (n:=i) (m:=other.toNat) (one:=one);have ki:i*other.toNat≤60*60:=Nat.mul_le_mul (by omega) (by omega);walk_at "rd";refine⟨by omega,by omega,lg_range (inv_t H l (sT i other.toNat one) one other (0+i)) ⟨c,ps,rfl,sc,hc,(List.append_nil (sT i other.toNat one)).symm ▸ hps⟩ ?_ ?_⟩
   ·rintro j τ Hd hj ⟨c2,qs,rfl,sd,hd,hqs⟩;have ql:=hqs.len;rw[List.length_append,List.length_map,rInts_length] at ql;walk_at "rd";refine⟨by decide,fun pq np=>⟨_,at_new hd np,by rw[List.length_map];exact sizeBig (by omega),_,qs++[(pq,tl (0+i,one+(0+j)))],rfl,(sd.upd (sd.free np)).upd nl,by rw[upd_same,List.map_append];rfl,?_⟩⟩;rw[rI_succ,List.map_append,← List.append_assoc];refine (hqs.tp ((Tp.nw np).trans (Tp.lst (at_new hd np)))).snoc ?_;rw[upd_ne (ne_of_none hd np).symm,upd_same]
   ·rintro τ Hd ⟨c2,qs,rfl,sd,hd,hqs⟩;refine⟨_,c2,qs,rfl,sd,hd,?_⟩;rw[sT_succ];exact hqs
  ·rintro τ Hc ⟨b,c,ps,rfl,sc,hc,hps⟩;exact⟨by decide,fun r nr=>q0 r l _ (sc.trans ((Same.refl Hc).upd nr)) (sc.free nr) upd_same (LP.nw ⟨ps,hc,hps⟩ nr)⟩
def nTwo (one _:Int):Int:=one+one
def tComb (one _:Int):List (Int×Int):=wayL 0 (one-1).toNat++(rInts 0 one.toNat).map fun x=>(x,one+x)
def inv_mc (Hb:Hp)(l:Addr)(k:Int)(i:Nat)(τ:St)(Hc:Hp):Prop:=∃ (c:Option V) (ps:List (Addr×List Int)),τ=[c,some (.int k)]∧Same Hb Hc∧Hc l=some (.lst (ps.map fun x=>V.ref x.1))∧PsAt Hc ps ((rInts 0 i).map fun x=>(x,k+x))
theorem sc_mcomb:FnScope ["k", "zero"] ["k", "zero"] (defScope (top 6)):=⟨rfl,rfl,rfl,by decide +kernel,rfl,by decide +kernel,by decide +kernel⟩
theorem ok_mcomb {f:Addr}{fd:FuncData}(F:Fun K "made_comb" "made_comb" (top 6) f fd)(B:Bt mg){f1:Addr}{fd1:FuncData}{st1:Stmt}(Dway_from:Df K mg "way_from" st1 f1 fd1 ["first", "many"])(Gway_from:FnOk P w K mg base CX0 1 f1 fd1 ["first", "many"] sp_wayf):FnOk P w K mg base CX0 2 f fd ["k", "zero"] (sp_mk pWay nTwo tComb):=by
 refine F.ok sc_mcomb (fun vs H Q E h=>?_) (fun cdv A outer s H vs Q E hr h=>?_)
 ·obtain⟨one,other,rfl,⟨h0,h1⟩,q0⟩:=h;rfl
 ·obtain⟨one,other,rfl,⟨h0,h1⟩,q0⟩:=h;have nd:=sc_mcomb.nd;have hu:=hu_of hr;refine⟨_,(pss_one (ps_ret (pe_tup (pa_cons (pe_op op_add (pv 0) (pv 0)) (pa_cons (pe_op op_cat (pe_own Gway_from Dway_from (hr.mono (by decide)) (pa_cons pe_int (pa_cons (pv 0) pa_nil))) (pe_lcomp (own:=["place"]) (fr:=[("k",0)]) rfl (by with_unfolding_all rfl) (frOk_cons rfl rfl frOk_nil) (pi_range1 (by rfl) B.range (pa_cons (pv 0) pa_nil)) ⟨fun _ _ _ _=>⟨(pg_name (i:=0) (show List.Nodup (["place", "k"]:List Str) by decide +kernel) rfl (Or.inl rfl)),pts_nil,(pe_tup (pa_cons (pv 0) (pa_cons (pe_op op_add (pv 1) (pv 0)) pa_nil)))⟩⟩)) pa_nil))))),?_⟩;walk_at "rd";refine⟨_,_,rfl,by omega,by omega,by omega,by omega,fun l H1 s1 nl hl=>?_⟩;show _∧_;refine⟨by omega,by omega,fun q nq=>?_⟩;refine lc_range (lo:=0) (inv_mc H1 q one) ⟨none,[],rfl,(Same.refl H1).upd nq,upd_same,⟨fun x hx=>(by cases hx),rfl⟩⟩ ?_ ?_
  ·rintro j τ Hd hj ⟨c,qs,rfl,sd,hd,hqs⟩;have ql:=hqs.len;rw[List.length_map,rInts_length] at ql;walk_at "rd"
   exact⟨by decide,fun pq np=>⟨_,at_new hd np,by rw[List.length_map];exact sizeBig (by omega),_,qs++[(pq,tl (0+j,one+(0+j)))],rfl,(sd.upd (sd.free np)).upd nq,by rw[upd_same,List.map_append];rfl,by
    rw[show (rInts 0 (j+1)).map (fun x=>(x,one+x))=(rInts 0 j).map (fun x=>(x,one+x))++[(0+(j:Int),one+(0+(j:Int)))] by unfold rInts;rw[List.range_succ,List.map_append,List.map_append];rfl];refine (hqs.tp ((Tp.nw np).trans (Tp.lst (at_new hd np)))).snoc ?_
    rw[upd_ne (ne_of_none hd np).symm,upd_same]⟩⟩
  ·rintro τ Hd ⟨c,qs,rfl,sd,hd,hqs⟩;refine LP.cat (hl.same sd) ⟨qs,hd,hqs⟩ (by rw[wayL_len,List.length_map,rInts_length];omega) fun q H3 nq s3 h3=>?_
   have s:=(s1.trans sd).trans s3;exact⟨by decide,fun r nr=>q0 r q _ (s.trans ((Same.refl H3).upd nr)) (s.free nr) upd_same (h3.nw nr)⟩
def tLadder (one other:Int):List (Int×Int):=tComb one other++wayL one (one-1).toNat
theorem sc_mladder:FnScope ["k", "zero", "places", "ties"] ["k", "zero"] (defScope (top 7)):=⟨rfl,rfl,rfl,by decide +kernel,rfl,by decide +kernel,by decide +kernel⟩
theorem ok_mladder {f:Addr}{fd:FuncData}(F:Fun K "made_ladder" "made_ladder" (top 7) f fd)(B:Bt mg){f1:Addr}{fd1:FuncData}{st1:Stmt}(Dway_from:Df K mg "way_from" st1 f1 fd1 ["first", "many"])(Gway_from:FnOk P w K mg base CX0 1 f1 fd1 ["first", "many"] sp_wayf){f2:Addr}{fd2:FuncData}{st2:Stmt}(Dmade_comb:Df K mg "made_comb" st2 f2 fd2 ["k", "zero"])(Gmade_comb:FnOk P w K mg base CX0 2 f2 fd2 ["k", "zero"] (sp_mk pWay nTwo tComb)):FnOk P w K mg base CX0 3 f fd ["k", "zero"] (sp_mk pWay nTwo tLadder):=by
 refine F.ok sc_mladder (fun vs H Q E h=>?_) (fun cdv A outer s H vs Q E hr h=>?_)
 ·obtain⟨one,other,rfl,⟨h0,h1⟩,q0⟩:=h;rfl
 ·obtain⟨one,other,rfl,⟨h0,h1⟩,q0⟩:=h;have nd:=sc_mladder.nd;have hu:=hu_of hr
  refine⟨_,(pss_cons (ps_asg (pe_own Gmade_comb Dmade_comb (hr.mono (by decide)) (pa_cons (pv 0) (pa_cons (pv 1) pa_nil))) (pg_tupK K (n:=2) rfl (pgs_cons (pg_name (i:=2) nd rfl (Or.inl rfl)) (pgs_cons (pg_name (i:=3) nd rfl (Or.inl rfl)) pgs_nil))))
    (pss_one (ps_ret (pe_tup (pa_cons (pv 2) (pa_cons (pe_op op_cat (pv 3) (pe_own Gway_from Dway_from (hr.mono (by decide)) (pa_cons (pv 0) (pa_cons (pv 0) pa_nil)))) pa_nil)))))),?_⟩
  walk_at "rd";refine⟨one,other,rfl,⟨h0,h1⟩,fun p q H1 s1 np ep hq=>⟨p,rfl,_,SqT.of ep,rfl,_,_,rfl,_,_,rfl,rfl,_,_,rfl,by omega,by omega,by omega,by omega,fun l H2 s2 nl hl=>?_⟩⟩;refine LP.cat (hq.same s2) hl (by unfold tComb;rw[wayL_len,List.length_append,wayL_len,List.length_map,rInts_length];omega) fun q H3 nq s3 h3=>?_
  have s:=(s1.trans s2).trans s3;exact⟨by decide,fun r nr=>q0 r q _ (s.trans ((Same.refl H3).upd nr)) (s.free nr) upd_same (h3.nw nr)⟩
inductive MkR (a b:Int):Str→Int→List (Int×Int)→Prop
 | way:pWay a b→MkR a b "way" (nOne a b) (tWay a b)
 | ring:pWay a b→MkR a b "ring" (nOne a b) (tRing a b)
 | full:pFull a b→MkR a b "full" (nOne a b) (tFull a b)
 | sides:pSide a b→MkR a b "sides" (nSide a b) (tSide a b)
 | comb:pWay a b→MkR a b "comb" (nTwo a b) (tComb a b)
 | ladder:pWay a b→MkR a b "ladder" (nTwo a b) (tLadder a b)
def sp_made:Sp:=fun vs H Q _=>∃ (word:Str) (one other n:Int) (T:List (Int×Int)),vs=[.str word,.int one,.int other]∧MkR one other word n T ∧
 ∀ p q H' U,Same H H'→H p=none→H' p=some (.tup [.int n,.ref q])→U.Perm T→U.Pairwise (fun x y=>HT.lexLt (tl y) (tl x)=false)→TsAt H' q U→Q (.ref p) H'
theorem sc_made:FnScope ["kind", "one", "other", "maker", "places", "ties"] ["kind", "one", "other"] (defScope (top 9)):=⟨rfl,rfl,rfl,by decide +kernel,rfl,by decide +kernel,by decide +kernel⟩
theorem ok_made {f:Addr}{fd:FuncData}(F:Fun K "made" "made" (top 9) f fd)(B:Bt mg){aMk:Addr}{tk1 tk2 tk3 tk4 tk5 tk6:Tok}{f1:Addr}{fd1:FuncData}{st1:Stmt}(Dmade_way:Df K mg "made_way" st1 f1 fd1 ["n", "zero"])(Gmade_way:FnOk P w K mg base CX0 2 f1 fd1 ["n", "zero"] (sp_mk pWay nOne tWay)){f2:Addr}{fd2:FuncData}{st2:Stmt}(Dmade_ring:Df K mg "made_ring" st2 f2 fd2 ["n", "zero"])(Gmade_ring:FnOk P w K mg base CX0 2 f2 fd2 ["n", "zero"] (sp_mk pWay nOne tRing)){f3:Addr}{fd3:FuncData}{st3:Stmt}(Dmade_full:Df K mg "made_full" st3 f3 fd3 ["n", "zero"])(Gmade_full:FnOk P w K mg base CX0 1 f3 fd3 ["n", "zero"] (sp_mk pFull nOne tFull)){f4:Addr}{fd4:FuncData}{st4:Stmt}(Dmade_sides:Df K mg "made_sides" st4 f4 fd4 ["many", "others"])(Gmade_sides:FnOk P w K mg base CX0 1 f4 fd4 ["many", "others"] (sp_mk pSide nSide tSide)){f5:Addr}{fd5:FuncData}{st5:Stmt}(Dmade_comb:Df K mg "made_comb" st5 f5 fd5 ["k", "zero"])(Gmade_comb:FnOk P w K mg base CX0 2 f5 fd5 ["k", "zero"] (sp_mk pWay nTwo tComb)){f6:Addr}{fd6:FuncData}{st6:Stmt}(Dmade_ladder:Df K mg "made_ladder" st6 f6 fd6 ["k", "zero"])(Gmade_ladder:FnOk P w K mg base CX0 3 f6 fd6 ["k", "zero"] (sp_mk pWay nTwo tLadder))(XK:KdX K mg w.params "MAKERS" aMk 6 [("way",tk1,f1),("ring",tk2,f2),("full",tk3,f3),("sides",tk4,f4),("comb",tk5,f5),("ladder",tk6,f6)]):FnOk P w K mg base CX0 4 f fd ["kind", "one", "other"] sp_made:=by
 refine F.ok sc_made (fun vs H Q E h=>?_) (fun cdv A outer s H vs Q E hr h=>?_)
 ·obtain⟨word,one,other,n,T,rfl,hm,q0⟩:=h;rfl
 ·obtain⟨word,one,other,n,T,rfl,hm,q0⟩:=h;have nd:=sc_made.nd;have hu:=hu_of hr
  refine⟨_,(pss_cons (ps_set (i:=3) nd rfl (Or.inl rfl) (pe_kget XK.k (by simp only[List.map_cons,List.map_nil];decide) (pe_glob rfl XK.m (show RelV (V.ref _) _ from rfl)) (pv 0) (fun _ _=>rfl)))
    (pss_cons (ps_asg (pe_callV (ix:=3) (callVs_cons (callV_of Gmade_way Dmade_way (hr.mono (by decide))) (callVs_cons (callV_of Gmade_ring Dmade_ring (hr.mono (by decide))) (callVs_cons (callV_of Gmade_full Dmade_full (hr.mono (by decide))) (callVs_cons (callV_of Gmade_sides Dmade_sides (hr.mono (by decide))) (callVs_cons (callV_of Gmade_comb Dmade_comb (hr.mono (by decide))) (callVs_cons (callV_of Gmade_ladder Dmade_ladder (hr.mono (by decide))) callVs_nil)))))) rfl rfl (pa_cons (pv 1) (pa_cons (pv 2) pa_nil))) (pg_tupK K (n:=2) rfl (pgs_cons (pg_name (i:=4) nd rfl (Or.inl rfl)) (pgs_cons (pg_name (i:=5) nd rfl (Or.inl rfl)) pgs_nil))))
    (pss_one (ps_ret (pe_tup (pa_cons (pv 4) (pa_cons (pe_callTy (tupleK K) (by rfl) B.tuple PyProof.Rows.boot_tuple (pa_cons (pe_callB (sortedTK K) (by rfl) B.sorted PyProof.Rows.boot_sorted (pa_cons (pv 5) pa_nil)) pa_nil)) pa_nil))))))),?_⟩
  walk_at "rd";unfold tKG tCallV;cases hm;all_goals walk_at "rd"
  case refine_2.way hp =>
   refine⟨_,rfl,f1,by rfl,(f1,sp_mk pWay nOne tWay),by simp,rfl,one,other,rfl,hp,fun p q H1 s1 np ep hq=>?_⟩;obtain⟨ps,e,hps⟩:=hq;refine⟨p,rfl,_,SqT.of ep,rfl,_,_,rfl,_,_,rfl,rfl,q,rfl,ps,hps.src e,fun ps' l pm srt nl=>⟨_,.inl ⟨SqL.of upd_same,fun t nt=>⟨by decide,fun r nr=>?_⟩⟩⟩⟩;obtain⟨U,pu,hU⟩:=hps.perm pm;have sa:=((Same.refl H1).upd (o:=.lst (ps'.map fun x=>V.ref x.1)) nl).trans ((Same.refl _).upd (o:=.tup (ps'.map fun x=>V.ref x.1)) nt);exact q0 r t _ U (s1.trans (sa.trans ((Same.refl _).upd nr))) ((s1.trans sa).free nr) upd_same pu (hU.srt srt) ⟨ps',at_new upd_same nr,((hU.tp (Tp.nw nl)).tp (Tp.nw nt)).tp (Tp.nw nr)⟩
  case refine_2.ring hp =>
   refine⟨_,rfl,f2,by rfl,(f2,sp_mk pWay nOne tRing),by simp,rfl,one,other,rfl,hp,fun p q H1 s1 np ep hq=>?_⟩;obtain⟨ps,e,hps⟩:=hq;refine⟨p,rfl,_,SqT.of ep,rfl,_,_,rfl,_,_,rfl,rfl,q,rfl,ps,hps.src e,fun ps' l pm srt nl=>⟨_,.inl ⟨SqL.of upd_same,fun t nt=>⟨by decide,fun r nr=>?_⟩⟩⟩⟩;obtain⟨U,pu,hU⟩:=hps.perm pm;have sa:=((Same.refl H1).upd (o:=.lst (ps'.map fun x=>V.ref x.1)) nl).trans ((Same.refl _).upd (o:=.tup (ps'.map fun x=>V.ref x.1)) nt);exact q0 r t _ U (s1.trans (sa.trans ((Same.refl _).upd nr))) ((s1.trans sa).free nr) upd_same pu (hU.srt srt) ⟨ps',at_new upd_same nr,((hU.tp (Tp.nw nl)).tp (Tp.nw nt)).tp (Tp.nw nr)⟩
  case refine_2.full hp =>
   refine⟨_,rfl,f3,by rfl,(f3,sp_mk pFull nOne tFull),by simp,rfl,one,other,rfl,hp,fun p q H1 s1 np ep hq=>?_⟩;obtain⟨ps,e,hps⟩:=hq;refine⟨p,rfl,_,SqT.of ep,rfl,_,_,rfl,_,_,rfl,rfl,q,rfl,ps,hps.src e,fun ps' l pm srt nl=>⟨_,.inl ⟨SqL.of upd_same,fun t nt=>⟨by decide,fun r nr=>?_⟩⟩⟩⟩;obtain⟨U,pu,hU⟩:=hps.perm pm;have sa:=((Same.refl H1).upd (o:=.lst (ps'.map fun x=>V.ref x.1)) nl).trans ((Same.refl _).upd (o:=.tup (ps'.map fun x=>V.ref x.1)) nt);exact q0 r t _ U (s1.trans (sa.trans ((Same.refl _).upd nr))) ((s1.trans sa).free nr) upd_same pu (hU.srt srt) ⟨ps',at_new upd_same nr,((hU.tp (Tp.nw nl)).tp (Tp.nw nt)).tp (Tp.nw nr)⟩
  case refine_2.sides hp =>
   refine⟨_,rfl,f4,by rfl,(f4,sp_mk pSide nSide tSide),by simp,rfl,one,other,rfl,hp,fun p q H1 s1 np ep hq=>?_⟩;obtain⟨ps,e,hps⟩:=hq;refine⟨p,rfl,_,SqT.of ep,rfl,_,_,rfl,_,_,rfl,rfl,q,rfl,ps,hps.src e,fun ps' l pm srt nl=>⟨_,.inl ⟨SqL.of upd_same,fun t nt=>⟨by decide,fun r nr=>?_⟩⟩⟩⟩;obtain⟨U,pu,hU⟩:=hps.perm pm;have sa:=((Same.refl H1).upd (o:=.lst (ps'.map fun x=>V.ref x.1)) nl).trans ((Same.refl _).upd (o:=.tup (ps'.map fun x=>V.ref x.1)) nt);exact q0 r t _ U (s1.trans (sa.trans ((Same.refl _).upd nr))) ((s1.trans sa).free nr) upd_same pu (hU.srt srt) ⟨ps',at_new upd_same nr,((hU.tp (Tp.nw nl)).tp (Tp.nw nt)).tp (Tp.nw nr)⟩
  case refine_2.comb hp =>
   refine⟨_,rfl,f5,by rfl,(f5,sp_mk pWay nTwo tComb),by simp,rfl,one,other,rfl,hp,fun p q H1 s1 np ep hq=>?_⟩;obtain⟨ps,e,hps⟩:=hq;refine⟨p,rfl,_,SqT.of ep,rfl,_,_,rfl,_,_,rfl,rfl,q,rfl,ps,hps.src e,fun ps' l pm srt nl=>⟨_,.inl ⟨SqL.of upd_same,fun t nt=>⟨by decide,fun r nr=>?_⟩⟩⟩⟩;obtain⟨U,pu,hU⟩:=hps.perm pm;have sa:=((Same.refl H1).upd (o:=.lst (ps'.map fun x=>V.ref x.1)) nl).trans ((Same.refl _).upd (o:=.tup (ps'.map fun x=>V.ref x.1)) nt);exact q0 r t _ U (s1.trans (sa.trans ((Same.refl _).upd nr))) ((s1.trans sa).free nr) upd_same pu (hU.srt srt) ⟨ps',at_new upd_same nr,((hU.tp (Tp.nw nl)).tp (Tp.nw nt)).tp (Tp.nw nr)⟩
  case refine_2.ladder hp =>
   refine⟨_,rfl,f6,by rfl,(f6,sp_mk pWay nTwo tLadder),by simp,rfl,one,other,rfl,hp,fun p q H1 s1 np ep hq=>?_⟩;obtain⟨ps,e,hps⟩:=hq;refine⟨p,rfl,_,SqT.of ep,rfl,_,_,rfl,_,_,rfl,rfl,q,rfl,ps,hps.src e,fun ps' l pm srt nl=>⟨_,.inl ⟨SqL.of upd_same,fun t nt=>⟨by decide,fun r nr=>?_⟩⟩⟩⟩;obtain⟨U,pu,hU⟩:=hps.perm pm;have sa:=((Same.refl H1).upd (o:=.lst (ps'.map fun x=>V.ref x.1)) nl).trans ((Same.refl _).upd (o:=.tup (ps'.map fun x=>V.ref x.1)) nt);exact q0 r t _ U (s1.trans (sa.trans ((Same.refl _).upd nr))) ((s1.trans sa).free nr) upd_same pu (hU.srt srt) ⟨ps',at_new upd_same nr,((hU.tp (Tp.nw nl)).tp (Tp.nw nt)).tp (Tp.nw nr)⟩
def SzR (kind a b:Int):Prop:=(kind=3∧1≤a∧1≤b∧a*b≤200∧3≤a+b∧a+b≤60)∨((kind=0∨kind=1)∧3≤a∧a≤60∧b=0)∨(kind=2∧3≤a∧a≤20∧b=0)∨((kind=4∨kind=5)∧2≤a∧a≤30∧b=0)
def sp_lsizes (K:PySem.W.Frag):Sp:=fun vs H Q _=>∃ (d:Addr) (kind:Int),vs=[.ref d,.int kind,.int 60]∧0≤kind∧kind≤5∧DkAt H d ∧
 ∀ p a b H',DkAt H' d→H' p=some (.tup [.int a,.int b])→SzR kind a b→Q (.ref p) H'
theorem sc_lsizes61:FnScope ["_law_deck_here", "_law_kind", "_law_great", "_law_cell", "_law_one", "_law_most", "_law_least", "_law_other"] ["_law_deck_here", "_law_kind", "_law_great"] (defScope (top 16)):=⟨rfl,rfl,rfl,by decide +kernel,rfl,by decide +kernel,by decide +kernel⟩
theorem ok_lsizes61 {f:Addr}{fd:FuncData}(F:Fun K "_law_sizes" "_law_sizes" (top 16) f fd)(B:Bt mg){f1:Addr}{fd1:FuncData}{st1:Stmt}(D_law_next:Df K mg "_law_next" st1 f1 fd1 ["_law_deck_here"])(G_law_next:FnOk P w K mg base CX0 1 f1 fd1 ["_law_deck_here"] sp_next):FnOk P w K mg base CX0 2 f fd ["_law_deck_here", "_law_kind", "_law_great"] (sp_lsizes K):=by
 refine F.ok sc_lsizes61 (fun vs H Q E h=>?_) (fun cdv A outer s H vs Q E hr h=>?_)
 ·obtain⟨d,kind,rfl,hk0,hk1,hd,q0⟩:=h;rfl
 ·obtain⟨d,kind,rfl,hk0,hk1,hd,q0⟩:=h;have nd:=sc_lsizes61.nd;have hu:=hu_of hr
  refine⟨_,(pss_cons (ps_set (i:=3) nd rfl (Or.inl rfl) (pe_own G_law_next D_law_next (hr.mono (by decide)) (pa_cons (pv 0) pa_nil)))
    (pss_cons (ps_if (pt_cmpR op_eq (pv 1) pe_int (nomark _))
     (pss_cons (ps_set (i:=4) nd rfl (Or.inl rfl) (pe_op op_add pe_int (pe_op op_mod (pe_own G_law_next D_law_next (hr.mono (by decide)) (pa_cons (pv 0) pa_nil)) pe_int)))
     (pss_cons (ps_set (i:=5) nd rfl (Or.inl rfl) (pe_callB (call_min3 rfl) (by rfl) B.min PyProof.Rows.boot_min (pa_cons (pe_op op_fdiv pe_int (pv 4)) (pa_cons (pe_op op_sub pe_int (pv 4)) (pa_cons (pv 2) pa_nil)))))
     (pss_cons (ps_set (i:=6) nd rfl (Or.inl rfl) (pe_callB (call_max2 rfl) (by rfl) B.max PyProof.Rows.boot_max (pa_cons pe_int (pa_cons (pe_op op_sub pe_int (pv 4)) pa_nil))))
     (pss_cons (ps_set (i:=7) nd rfl (Or.inl rfl) (pe_ix (ix_listK K) (pe_lst (pa_cons (pv 6) (pa_cons (pv 5) (pa_cons (pe_op op_add (pv 6) (pe_op op_mod (pe_op op_fdiv (pv 3) pe_int) (pe_op op_add (pe_op op_sub (pv 5) (pv 6)) pe_int))) pa_nil)))) (pe_op op_mod (pv 3) pe_int) (fun _ _=>rfl)))
     (pss_one (ps_ret (pe_ix (ix_listK K) (pe_lst (pa_cons (pe_tup (pa_cons (pv 4) (pa_cons (pv 7) pa_nil))) (pa_cons (pe_tup (pa_cons (pv 7) (pa_cons (pv 4) pa_nil))) pa_nil))) (pe_op op_mod (pe_own G_law_next D_law_next (hr.mono (by decide)) (pa_cons (pv 0) pa_nil)) pe_int) (fun _ _=>rfl))))))))
     pss_nil)
    (pss_cons (ps_set (i:=6) nd rfl (Or.inl rfl) (pe_ix (ix_listK K) (pe_lst (pa_cons pe_int (pa_cons pe_int (pa_cons pe_int (pa_cons pe_int (pa_cons pe_int (pa_cons pe_int pa_nil))))))) (pv 1) (fun _ _=>rfl)))
    (pss_cons (ps_set (i:=5) nd rfl (Or.inl rfl) (pe_callB (call_min2 rfl) (by rfl) B.min PyProof.Rows.boot_min (pa_cons (pv 2) (pa_cons (pe_ix (ix_listK K) (pe_lst (pa_cons pe_int (pa_cons pe_int (pa_cons pe_int (pa_cons pe_int (pa_cons pe_int (pa_cons pe_int pa_nil))))))) (pv 1) (fun _ _=>rfl)) pa_nil))))
    (pss_one (ps_ret (pe_tup (pa_cons (pe_ix (ix_listK K) (pe_lst (pa_cons (pv 6) (pa_cons (pv 5) (pa_cons (pe_op op_add (pv 6) (pe_op op_mod (pe_op op_fdiv (pv 3) pe_int) (pe_op op_add (pe_op op_sub (pv 5) (pv 6)) pe_int))) pa_nil)))) (pe_op op_mod (pv 3) pe_int) (fun _ _=>rfl)) (pa_cons pe_int pa_nil))))))))),?_⟩
  walk_at "rd";refine next_useB hd fun z H1 k1 dk1 z0 z1=>ite2 (fun h=>?_) fun h=>?_
  ·have e:kind=3:=by simpa using h
   refine next_useB dk1 fun y H2 k2 dk2 y0 y1=>⟨y,rfl,by decide,?_⟩
   generalize ho:1+y % 14=one;have o0:1≤one:=by omega
   have o1:one≤14:=by omega
   have q1:14≤200 / one:=(Int.le_ediv_iff_mul_le (by omega)).mpr (by omega);have q2:one*(200 / one)≤200:=Int.mul_ediv_self_le (by omega);refine⟨?_,_,_,_,⟨rfl,rfl,rfl⟩,_,_,⟨rfl,rfl⟩,?_⟩
   ·unfold CDiv;omega
   generalize 200 / one=q at q1 q2 ⊢;obtain⟨most,hm,m1,m2,m3⟩:∃ m:Int,(if 60-one<q then if (60:Int)<60-one then (60:Int) else 60-one else if (60:Int)<q then (60:Int) else q)=m∧m≤q∧m≤60-one∧14≤m:=⟨_,rfl,by split<;>split<;>omega,by split<;>split<;>omega,by split<;>split<;>omega⟩
   obtain⟨least,hl,l1,l2,l3⟩:∃ l:Int,(if 3-one>1 then 3-one else 1)=l∧1≤l∧l≤2∧3≤one+l:=⟨_,rfl,by split<;>omega,by split<;>omega,by split<;>omega⟩
   rw[hm,hl];have r0:=Int.emod_nonneg (z / 3) (show most-least+1≠0 by omega);have r1:=Int.emod_lt_of_pos (z / 3) (show 0<most-least+1 by omega);generalize hr:z / 3 % (most-least+1)=r at r0 r1;obtain⟨b,hb,b0,b1⟩:∃ b:Int,atI [V.int least,.int most,.int (least+r)] (z % 3)=some (.int b)∧least≤b∧b≤most:=by
    have:z % 3=0∨z % 3=1∨z % 3=2:=by omega
    rcases this with e | e | e<;>rw[e]
    ·exact⟨least,rfl,by omega,by omega⟩
    ·exact⟨most,rfl,by omega,by omega⟩
    ·exact⟨least+r,rfl,by omega,by omega⟩
   have sz:one*b≤200:=Int.le_trans (Int.mul_le_mul_of_nonneg_left (by omega) (by omega)) q2;refine⟨z,rfl,by unfold CDiv;omega,by omega,by decide,fun p1 np1=>fresh_of np1 fun H3 s3 e3=>⟨z,rfl,by decide,_,SqL.of e3,_,by rw[hr];exact hb,by decide,fun p2 np2=>fresh_of np2 fun H4 s4 e4=>⟨by decide,fun p3 np3=>fresh_of np3 fun H5 s5 e5=>⟨by decide,fun p4 np4=>fresh_of np4 fun H6 s6 e6=>?_⟩⟩⟩⟩;have dk6:=(((dk2.same s3).same s4).same s5).same s6;have ne2:p2≠d:=(dk2.same s3).ne np2;have ne3:p3≠d:=((dk2.same s3).same s4).ne np3;have ne4:p4≠d:=(((dk2.same s3).same s4).same s5).ne np4;refine next_useB dk6 fun u H7 k7 dk7 _ _=>⟨u,rfl,by decide,_,SqL.of (k7 _ _ ne4 e6),?_⟩
   have:u % 2=0∨u % 2=1:=by omega
   rcases this with e' | e'<;>rw[e']
   ·exact⟨_,rfl,q0 p2 one b H7 dk7 (k7 _ _ ne2 (s6 _ _ (s5 _ _ e4))) (.inl ⟨e,o0,by omega,sz,by omega,by omega⟩)⟩
   ·exact⟨_,rfl,q0 p3 b one H7 dk7 (k7 _ _ ne3 (s6 _ _ e5)) (.inl ⟨e,by omega,o0,by rw[Int.mul_comm];exact sz,by omega,by omega⟩)⟩
  ·have e:kind≠3:=by simpa using h
   obtain⟨lo,hi,hlo,hhi,hok,h3,h4,h5⟩:∃ lo hi:Int,atI [V.int 3,.int 3,.int 3,.int 0,.int 2,.int 2] kind=some (.int lo)∧atI [V.int 60,.int 60,.int 20,.int 0,.int 30,.int 30] kind=some (.int hi)∧(∀ b,lo≤b→b≤hi→SzR kind b 0)∧lo≤hi∧2≤lo∧hi≤60:=by
    have:kind=0∨kind=1∨kind=2∨kind=4∨kind=5:=by omega
    rcases this with rfl | rfl | rfl | rfl | rfl
    ·exact⟨3,60,rfl,rfl,fun b _ _=>by unfold SzR;omega,by decide,by decide,by decide⟩
    ·exact⟨3,60,rfl,rfl,fun b _ _=>by unfold SzR;omega,by decide,by decide,by decide⟩
    ·exact⟨3,20,rfl,rfl,fun b _ _=>by unfold SzR;omega,by decide,by decide,by decide⟩
    ·exact⟨2,30,rfl,rfl,fun b _ _=>by unfold SzR;omega,by decide,by decide,by decide⟩
    ·exact⟨2,30,rfl,rfl,fun b _ _=>by unfold SzR;omega,by decide,by decide,by decide⟩
   have hmn:(if hi<(60:Int) then hi else 60)=hi:=by split<;>omega
   have r0:=Int.emod_nonneg (z / 3) (show hi-lo+1≠0 by omega);have r1:=Int.emod_lt_of_pos (z / 3) (show 0<hi-lo+1 by omega);generalize hr:z / 3 % (hi-lo+1)=r at r0 r1;obtain⟨b,hb,b0,b1⟩:∃ b:Int,atI [V.int lo,.int hi,.int (lo+r)] (z % 3)=some (.int b)∧lo≤b∧b≤hi:=by
    have:z % 3=0∨z % 3=1∨z % 3=2:=by omega
    rcases this with e | e | e<;>rw[e]
    ·exact⟨lo,rfl,by omega,by omega⟩
    ·exact⟨hi,rfl,by omega,by omega⟩
    ·exact⟨lo+r,rfl,by omega,by omega⟩
   refine⟨by decide,fun p1 np1=>fresh_of np1 fun H3 s3 e3=>⟨_,SqL.of e3,_,hlo,by decide,fun p2 np2=>fresh_of np2 fun H4 s4 e4=>⟨_,SqL.of e4,_,hhi,60,hi,⟨rfl,rfl⟩,z,rfl,by unfold CDiv;omega,lo,rfl,by rw[hmn];omega,lo,rfl,?_⟩⟩⟩;rw[hmn,hr];exact⟨by decide,fun p3 np3=>fresh_of np3 fun H5 s5 e5=>⟨z,rfl,by decide,_,SqL.of e5,_,hb,by decide,fun p4 np4=>fresh_of np4 fun H6 s6 e6=>q0 p4 b 0 H6 ((((dk1.same s3).same s4).same s5).same s6) e6 (hok b b0 b1)⟩⟩
theorem mem_rI {f:Int}{n:Nat}{x:Int}:x∈rInts f n↔f≤x∧x<f+n:=by
 unfold rInts;simp only[List.mem_map,List.mem_range];exact⟨fun ⟨i,hi,e⟩=>by omega,fun ⟨h,h'⟩=>⟨(x-f).toNat,by omega,by omega⟩⟩
theorem rI_lt {f:Int}{n:Nat}:(rInts f n).Pairwise (·<·):=by
 unfold rInts;rw[List.pairwise_map];exact List.pairwise_lt_range.imp fun h=>by omega
theorem mem_kT {kind one:Int}{n:Nat}{t:Int×Int}:t∈kT kind one n n↔0≤t.1∧t.1<t.2∧t.2<n∧tiedB kind one t.1 t.2=true:=by
 unfold kT kR;simp only[List.mem_flatMap,List.mem_range,List.mem_map,List.mem_filter,mem_rI];constructor
 ·rintro⟨a,ha,b,⟨⟨h1,h2⟩,h3⟩,rfl⟩;exact⟨by omega,by omega,by omega,h3⟩
 ·rintro⟨h1,h2,h3,h4⟩;refine⟨t.1.toNat,by omega,t.2,⟨⟨by omega,by omega⟩,?_⟩,?_⟩
  ·rw[Int.toNat_of_nonneg h1];exact h4
  ·rw[Int.toNat_of_nonneg h1]
theorem kT_lex {kind one:Int}{n:Nat}:(kT kind one n n).Pairwise Lex:=by
 unfold kT;rw[List.pairwise_flatMap];refine⟨fun a _=>?_,List.pairwise_lt_range.imp fun {a b} h x hx y hy=>?_⟩
 ·unfold kR;rw[List.pairwise_map];exact (rI_lt.filter _).imp fun h=>.inr ⟨rfl,h⟩
 ·unfold kR at hx hy;obtain⟨_,_,rfl⟩:=List.mem_map.mp hx;obtain⟨_,_,rfl⟩:=List.mem_map.mp hy;exact .inl (by show (a:Int)<b;omega)
theorem mem_way {f:Int}{m:Nat}{t:Int×Int}:t∈wayL f m↔f≤t.1∧t.1<f+m∧t.2=t.1+1:=by
 unfold wayL;simp only[List.mem_map,mem_rI];exact⟨fun ⟨x,h,e⟩=>by subst e;exact⟨h.1,h.2,rfl⟩,fun ⟨h1,h2,h3⟩=>⟨t.1,⟨h1,h2⟩,Prod.ext rfl h3.symm⟩⟩
theorem way_lex {f:Int}{m:Nat}:(wayL f m).Pairwise Lex:=by
 unfold wayL;rw[List.pairwise_map];exact rI_lt.imp fun h=>.inl h
theorem mem_rung {k:Int}{m:Nat}{t:Int×Int}:t∈(rInts 0 m).map (fun x=>(x,k+x))↔0≤t.1∧t.1<m∧t.2=k+t.1:=by
 simp only[List.mem_map,mem_rI];exact⟨fun ⟨x,h,e⟩=>by subst e;exact⟨h.1,by simpa using h.2,rfl⟩,fun ⟨h1,h2,h3⟩=>⟨t.1,⟨h1,by omega⟩,Prod.ext rfl h3.symm⟩⟩
theorem rung_lex {k:Int}{m:Nat}:((rInts 0 m).map fun x=>(x,k+x)).Pairwise Lex:=by
 rw[List.pairwise_map];exact rI_lt.imp fun h=>.inl h
theorem nd_app {l l':List (Int×Int)}(h:l.Nodup)(h':l'.Nodup)(d:∀ t∈l,t∉l'):(l++l').Nodup:=List.nodup_append.mpr ⟨h,h',fun x hx y hy e=>d x hx (e ▸ hy)⟩
theorem comb_nd {a b:Int}(h:2≤a):(tComb a b).Nodup:=nd_app (lex_nd way_lex) (lex_nd rung_lex) fun t ht ht'=>by
 rw[mem_way] at ht;rw[mem_rung] at ht';omega
theorem mem_comb {a b:Int}{t:Int×Int}:t∈tComb a b↔(0≤t.1∧t.1<a-1∧t.2=t.1+1)∨(0≤t.1∧t.1<a∧t.2=a+t.1):=by
 unfold tComb;rw[List.mem_append,mem_way,mem_rung];constructor
 ·rintro (h | h)
  ·exact .inl (by omega)
  ·exact .inr (by omega)
 ·rintro (h | h)
  ·exact .inl (by omega)
  ·exact .inr (by omega)
theorem mem_full {a b:Int}{t:Int×Int}:t∈tFull a b↔0≤t.1∧t.1<t.2∧t.2<a:=by
 unfold tFull;simp only[List.mem_flatMap,List.mem_map,mem_rI];constructor
 ·rintro⟨y,h,x,h',rfl⟩;exact⟨h'.1,by show x<y;omega,by show y<a;omega⟩
 ·rintro⟨h1,h2,h3⟩;exact⟨t.2,⟨by omega,by omega⟩,t.1,⟨h1,by omega⟩,rfl⟩
theorem full_nd {a b:Int}:(tFull a b).Nodup:=by
 unfold tFull List.Nodup;rw[List.pairwise_flatMap];refine⟨fun y _=>?_,rI_lt.imp fun {y z} h u hu v hv e=>?_⟩
 ·rw[List.pairwise_map];exact rI_lt.imp fun {x z} h e=>by have:=(Prod.mk.inj e).1;omega
 ·obtain⟨_,_,rfl⟩:=List.mem_map.mp hu;obtain⟨_,_,rfl⟩:=List.mem_map.mp hv;have:=(Prod.mk.inj e).2;omega
theorem mem_side {a b:Int}{t:Int×Int}(hb:0≤b)(ha:0≤a):t∈tSide a b↔0≤t.1∧t.1<a∧a≤t.2∧t.2<a+b:=by
 unfold tSide sT;simp only[List.mem_flatMap,List.mem_map,mem_rI];constructor
 ·rintro⟨y,h,x,h',rfl⟩;exact⟨h.1,by show y<a;omega,by show a≤a+x;omega,by show a+x<a+b;omega⟩
 ·rintro⟨h1,h2,h3,h4⟩;exact⟨t.1,⟨h1,by omega⟩,t.2-a,⟨by omega,by omega⟩,Prod.ext rfl (by show a+(t.2-a)=t.2;omega)⟩
theorem side_nd {a b:Int}:(tSide a b).Nodup:=by
 unfold tSide sT List.Nodup;rw[List.pairwise_flatMap];refine⟨fun y _=>?_,rI_lt.imp fun {y z} h u hu v hv e=>?_⟩
 ·rw[List.pairwise_map];exact rI_lt.imp fun {x z} h e=>by have:=(Prod.mk.inj e).2;omega
 ·obtain⟨_,_,rfl⟩:=List.mem_map.mp hu;obtain⟨_,_,rfl⟩:=List.mem_map.mp hv;have:=(Prod.mk.inj e).1;omega
def kWords:List V:=[.str "way",.str "ring",.str "full",.str "sides",.str "comb",.str "ladder"]
structure MkOk (kind a b:Int)(word:Str)(n:Nat)(T:List (Int×Int)):Prop where
 w:atI kWords kind=some (.str word)
 r:MkR a b word n T
 k:kindN kind a b=some (.int n)
 n3:3≤n
 n60:n≤60
 a0:0≤a
 a1:a≤60
 nd:T.Nodup
 m:∀ t,t∈T↔t∈kT kind a n n
theorem mk_ok {kind a b:Int}(h:SzR kind a b):∃ word n T,MkOk kind a b word n T:=by
 rcases h with ⟨rfl,h1,h2,h3,h4,h5⟩ | ⟨rfl | rfl,h1,h2,rfl⟩ | ⟨rfl,h1,h2,rfl⟩ | ⟨rfl | rfl,h1,h2,rfl⟩
 ·refine⟨_,(a+b).toNat,tSide a b,rfl,?_,?_,by omega,by omega,by omega,by omega,side_nd,fun t=>?_⟩
  ·rw[Int.toNat_of_nonneg (by omega)];exact .sides ⟨by omega,by omega,by omega,by omega⟩
  ·rw[Int.toNat_of_nonneg (by omega)];rfl
  ·rw[mem_side (by omega) (by omega),mem_kT];unfold tiedB;simp;omega
 ·refine⟨_,a.toNat,tWay a 0,rfl,?_,?_,by omega,by omega,by omega,by omega,lex_nd way_lex,fun t=>?_⟩
  ·rw[Int.toNat_of_nonneg (by omega)];exact .way ⟨by omega,by omega⟩
  ·rw[Int.toNat_of_nonneg (by omega)];rfl
  ·unfold tWay;rw[mem_way,mem_kT];unfold tiedB;simp;omega
 ·refine⟨_,a.toNat,tRing a 0,rfl,?_,?_,by omega,by omega,by omega,by omega,?_,fun t=>?_⟩
  ·rw[Int.toNat_of_nonneg (by omega)];exact .ring ⟨by omega,by omega⟩
  ·rw[Int.toNat_of_nonneg (by omega)];rfl
  ·exact nd_app (lex_nd way_lex) (List.nodup_cons.mpr ⟨by simp,List.nodup_nil⟩) fun t ht ht'=>by
    rw[mem_way] at ht;have e:=List.mem_singleton.mp ht';subst e;have:=ht.2.2;simp at this;omega
  ·unfold tRing;rw[List.mem_append,mem_way,List.mem_singleton,mem_kT];unfold tiedB;obtain⟨x,y⟩:=t;simp;omega
 ·refine⟨_,a.toNat,tFull a 0,rfl,?_,?_,by omega,by omega,by omega,by omega,full_nd,fun t=>?_⟩
  ·rw[Int.toNat_of_nonneg (by omega)];exact .full ⟨by omega,by omega⟩
  ·rw[Int.toNat_of_nonneg (by omega)];rfl
  ·rw[mem_full,mem_kT];unfold tiedB;simp;omega
 ·refine⟨_,(a+a).toNat,tComb a 0,rfl,?_,?_,by omega,by omega,by omega,by omega,comb_nd (by omega),fun t=>?_⟩
  ·rw[Int.toNat_of_nonneg (by omega)];exact .comb ⟨by omega,by omega⟩
  ·rw[Int.toNat_of_nonneg (by omega),← Int.two_mul];rfl
  ·rw[mem_comb,mem_kT];unfold tiedB;simp;omega
 ·refine⟨_,(a+a).toNat,tLadder a 0,rfl,?_,?_,by omega,by omega,by omega,by omega,?_,fun t=>?_⟩
  ·rw[Int.toNat_of_nonneg (by omega)];exact .ladder ⟨by omega,by omega⟩
  ·rw[Int.toNat_of_nonneg (by omega),← Int.two_mul];rfl
  ·exact nd_app (comb_nd (by omega)) (lex_nd way_lex) fun t ht ht'=>by
    rw[mem_comb] at ht;rw[mem_way] at ht';omega
  ·unfold tLadder;rw[List.mem_append,mem_comb,mem_way,mem_kT];unfold tiedB;simp;omega
theorem eqW {K:PySem.W.Frag}{H:Hp}{a b:Addr}{n:Int}{ts:List (Int×Int)}{Q:VK}(neg:Bool)(ha:WebAt H a n ts)(hb:WebAt H b n ts)(q:Q (.bl (!neg)) H):rEqD K neg (.ref a) (.ref b) H Q:=by
 have sh:SeqAt.shaped (webD n ts)=true:=by
  have s2:=shaped_TT (ts.map tl);have e1:=depth_tI (ts.map tl);unfold SeqAt.shaped webD at *
  rw[Bool.and_eq_true,decide_eq_true_iff] at s2 ⊢;refine⟨?_,?_⟩
  ·rw[PyData.canLay0,PyData.canLayAll0,PyData.canLayAll0,PyData.canLayAll0,s2.1,PyData.canLay0];rfl
  ·rw[PyData.depth,PyData.depthAll,PyData.depthAll,PyData.depthAll,PyData.depth];simp only[PyData.depth] at *
   omega
 refine⟨_,_,ha.dt,hb.dt,sh,sh,?_⟩;have e:PyData.eqv (webD n ts) (webD n ts)=true:=by
  have e2:PyData.eqv (.tuple ((ts.map tl).map tI)) (.tuple ((ts.map tl).map tI))=true:=by rw[PyData.eqv,eqv_TT];exact decide_eq_true rfl
  unfold webD;rw[PyData.eqv,PyData.eqvAll,PyData.eqvAll,PyData.eqvAll,e2];simp[PyData.eqv]
 rw[e];cases neg<;>exact q
def inv_r61 (H:Hp)(kind a b:Int)(word:Str)(p:Addr)(_:Nat)(σ:St)(Hc:Hp):Prop:=∃ c:Option V,σ=[some (.int kind),some (.int a),some (.int b),some (.str word),some (.ref p),c]∧Same H Hc
def inv_q61 (H:Hp)(p2 p:Addr)(i:Nat)(τ:St)(Hc:Hp):Prop:=∃ c:Option V,τ=[c,some (.ref p)]∧Same H Hc∧Hc p2=some (.lst ((List.replicate i true).map V.bl))
def sp_lright61 (K:PySem.W.Frag):Sp:=fun vs H Q _=>∃ (kind a b:Int),vs=[.int kind,.int a,.int b]∧0≤kind∧kind≤5∧SzR kind a b∧∀ H',Same H H'→Q (.bl true) H'
theorem sc_lright61:FnScope ["_law_kind", "_law_one", "_law_other", "_law_word", "_law_found", "_law_tie"] ["_law_kind", "_law_one", "_law_other"] (defScope (top 18)):=⟨rfl,rfl,rfl,by decide +kernel,rfl,by decide +kernel,by decide +kernel⟩
theorem ok_lright61 {f:Addr}{fd:FuncData}(F:Fun K "_law_right" "_law_right" (top 18) f fd)(B:Bt mg){f1:Addr}{fd1:FuncData}{st1:Stmt}(Dmade:Df K mg "made" st1 f1 fd1 ["kind", "one", "other"])(Gmade:FnOk P w K mg base CX0 4 f1 fd1 ["kind", "one", "other"] sp_made){f2:Addr}{fd2:FuncData}{st2:Stmt}(D_law_kind_web:Df K mg "_law_kind_web" st2 f2 fd2 ["_law_kind", "_law_one", "_law_other"])(G_law_kind_web:FnOk P w K mg base CX0 2 f2 fd2 ["_law_kind", "_law_one", "_law_other"] (sp_lkweb K)){f3:Addr}{fd3:FuncData}{st3:Stmt}(D_law_is_int:Df K mg "_law_is_int" st3 f3 fd3 ["_law_thing", "_law_least", "_law_most"])(G_law_is_int:FnOk P w K mg base CX0 1 f3 fd3 ["_law_thing", "_law_least", "_law_most"] (sp_isint K))(C:Bt2 mg):FnOk P w K mg base CX0 5 f fd ["_law_kind", "_law_one", "_law_other"] (sp_lright61 K):=by
 refine F.ok sc_lright61 (fun vs H Q E h=>?_) (fun cdv A outer s H vs Q E hr h=>?_)
 ·obtain⟨kind,a,b,rfl,hk0,hk1,hsz,q0⟩:=h;rfl
 ·obtain⟨kind,a,b,rfl,hk0,hk1,hsz,q0⟩:=h;have nd:=sc_lright61.nd;have hu:=hu_of hr
  refine⟨_,(pss_cons (ps_set (i:=3) nd rfl (Or.inl rfl) (pe_ix (ix_listK K) (pe_lst (pa_cons pe_str (pa_cons pe_str (pa_cons pe_str (pa_cons pe_str (pa_cons pe_str (pa_cons pe_str pa_nil))))))) (pv 0) (fun _ _=>rfl)))
    (pss_cons (ps_set (i:=4) nd rfl (Or.inr rfl) (pe_own Gmade Dmade (hr.mono (by decide)) (pa_cons (pv 3) (pa_cons (pv 1) (pa_cons (pv 2) pa_nil)))))
    (pss_cons (ps_if (PW.pt (pw_or (pt_cmpR (neDK K hr.units) (pv 4) (pe_own G_law_kind_web D_law_kind_web (hr.mono (by decide)) (pa_cons (pv 0) (pa_cons (pv 1) (pa_cons (pv 2) pa_nil)))) (nomark _)) (pw_or (pt_not (pt_val (pe_callB (isiK K) (by rfl) C.isinstance PyProof.Rows.boot_isinstance (pa_cons (pv 4) (pa_cons (pe_ty (by rfl) B.tuple PyProof.Rows.boot_tuple) pa_nil))))) (pw_or1 (pt_not (pt_val (pe_callB (isiK K) (by rfl) C.isinstance PyProof.Rows.boot_isinstance (pa_cons (pe_ix (ix_tupK K) (pv 4) pe_int (fun _ _=>rfl)) (pa_cons (pe_ty (by rfl) B.tuple PyProof.Rows.boot_tuple) pa_nil)))))))))
     (pss_one (ps_ret pe_bl))
     pss_nil)
    (pss_cons (ps_for PassesOwn.never rfl (pi_tupK K (pe_ix (ix_tupK K) (pv 4) pe_int (fun _ _=>rfl))) (pg_name (i:=5) nd rfl (Or.inl rfl))
     (pss_one (ps_if (PW.pt (pw_or (pt_not (pt_val (pe_callB (isiK K) (by rfl) C.isinstance PyProof.Rows.boot_isinstance (pa_cons (pv 5) (pa_cons (pe_ty (by rfl) B.tuple PyProof.Rows.boot_tuple) pa_nil))))) (pw_or1 (pt_not (pt_val (pe_callB (allK K hr.hd) (by rfl) C.all PyProof.Rows.boot_all (pa_cons (pe_lcomp (own:=["_law_place"]) (fr:=[("_law_found",4)]) rfl (by with_unfolding_all rfl) (frOk_cons rfl rfl frOk_nil) (pi_tupK K (pv 5)) ⟨fun _ _ _ _=>⟨(pg_name (i:=0) (show List.Nodup (["_law_place", "_law_found"]:List Str) by decide +kernel) rfl (Or.inl rfl)),pts_nil,(pe_own G_law_is_int D_law_is_int (hr.mono (by decide)) (pa_cons (pv 0) (pa_cons pe_int (pa_cons (pe_op op_sub (pe_ix (ix_tupK K) (pv 1) pe_int (fun _ _=>rfl)) pe_int) pa_nil))))⟩⟩) pa_nil)))))))
      (pss_one (ps_ret pe_bl))
      pss_nil)))
    (pss_one (ps_ret (pe_and (pe_own G_law_is_int D_law_is_int (hr.mono (by decide)) (pa_cons (pe_ix (ix_tupK K) (pv 4) pe_int (fun _ _=>rfl)) (pa_cons pe_int (pa_cons pe_int pa_nil)))) (pe_one (pe_cmpR (eqDK K hr.units) (pe_own Gmade Dmade (hr.mono (by decide)) (pa_cons (pv 3) (pa_cons (pv 1) (pa_cons (pv 2) pa_nil)))) (pv 4) (nomark _)))))))))),?_⟩
  walk_at "rd";obtain⟨word,n,T,M⟩:=mk_ok hsz;refine⟨by decide,fun p1 np1=>fresh_of np1 fun H1 s1 e1=>⟨_,SqL.of e1,_,M.w,word,a,b,n,T,rfl,M.r,fun p q H2 U s2 np ep pu srt hU=>?_⟩⟩;refine⟨kind,a,b,n,rfl,M.k,M.a0,by have:=M.a1;omega,by have:=M.n60;omega,fun p' q' H3 s3 np' ep' hU'=>?_⟩;obtain rfl:U=kT kind a n n:=lex_ext (lex_srt srt (pu.nodup_iff.mpr M.nd)) kT_lex fun t=>(pu.mem_iff).trans (M.m t)
  have w1:WebAt H3 p n (kT kind a n n):=⟨q,s3 _ _ ep,hU.tp s3.tp⟩
  have w2:WebAt H3 p' n (kT kind a n n):=⟨q',ep',hU'⟩
  obtain⟨ps,hq,hps⟩:=hU.tp s3.tp;have hep:=s3 _ _ ep;refine eqW true w1 w2 ⟨_,rfl,?_⟩;rw[if_neg (by decide)];refine⟨_,_,⟨rfl,rfl⟩,_,.tup hep,true,rfl,?_⟩;rw[if_neg (by decide)];refine⟨p,rfl,_,SqT.of hep,_,rfl,_,_,⟨rfl,rfl⟩,_,.tup hq,true,rfl,?_⟩;rw[if_neg (by decide),tFor_eq];walk_at "rd";refine⟨_,SqT.of hep,_,rfl,q,rfl,⟨_,SqT.of hq⟩,for_tup (K:=K) (xs:=ps.map fun x=>V.ref x.1) (inv_r61 H3 kind a b word p) ⟨none,rfl,Same.refl H3⟩ ?_ ?_ ?_⟩
  ·rintro i σ Hc _ ⟨_,rfl,sc⟩;exact SqT.of (sc _ _ hq)
  ·rintro i v σ Hc hv ⟨c,rfl,sc⟩;obtain⟨x,t,rfl,hti,hb⟩:=hps.get hv;have hbc:=sc _ _ hb;obtain⟨t1,t2,t3,_⟩:=mem_kT.mp (List.mem_of_getElem? hti);walk_at "rd";refine⟨_,_,⟨rfl,rfl⟩,_,.tup hbc,true,rfl,?_⟩;rw[if_neg (by decide)];refine⟨⟨_,SqT.of hbc⟩,fun p2 n2=>lc_tup (K:=K) (xs:=[V.int t.1,V.int t.2]) (inv_q61 Hc p2 p) ⟨none,rfl,(Same.refl Hc).upd n2,upd_same⟩ ?_ ?_ ?_⟩
   ·rintro j τ Hd _ ⟨_,rfl,sd,_⟩;exact SqT.of (sd _ _ hbc)
   ·rintro j v τ Hd hv ⟨c2,rfl,sd,hd⟩;obtain⟨x,rfl,x0,x1⟩:∃ x:Int,v=.int x∧0≤x∧x<n:=by
     have hm:=List.mem_of_getElem? hv;simp only[List.mem_cons,List.not_mem_nil,or_false] at hm;rcases hm with rfl | rfl
     ·exact⟨t.1,rfl,by omega,by omega⟩
     ·exact⟨t.2,rfl,by omega,by omega⟩
    have hjl:j<2:=(List.getElem?_eq_some_iff.mp hv).1;walk_at "rd";refine⟨_,SqT.of (sd _ _ (sc _ _ hep)),_,rfl,n,rfl,x,0,n-1,rfl,?_⟩;have e:decide (0≤x∧x≤n-1)=true:=by simp;omega
    rw[e];refine⟨_,hd,by rw[List.length_map,List.length_replicate];exact sizeBig (by omega),_,rfl,sd.upd n2,?_⟩;rw[upd_same,List.replicate_succ',List.map_append];rfl
   ·rintro τ Hf ⟨c2,rfl,sd,hd⟩;refine⟨_,SqL.of hd,?_⟩;rw[if_neg (by simp)];exact⟨_,rfl,sc.trans sd⟩
  ·rintro σ Hc ⟨c,rfl,sc⟩;walk_at "rd";have hpc:=sc _ _ hep;have hn3:=M.n3;have hn60:=M.n60;refine⟨_,SqT.of hpc,_,rfl,n,3,60,rfl,?_⟩;rw[show decide ((3:Int)≤n∧(n:Int)≤60)=true by simp;omega];refine⟨true,rfl,?_⟩;rw[if_pos rfl];refine⟨word,a,b,n,T,rfl,M.r,fun p5 q5 H5 U5 s5 np5 ep5 pu5 srt5 hU5=>?_⟩;obtain rfl:U5=kT kind a n n:=lex_ext (lex_srt srt5 (pu5.nodup_iff.mpr M.nd)) kT_lex fun t=>(pu5.mem_iff).trans (M.m t)
   exact eqW false ⟨q5,ep5,hU5⟩ ⟨q,s5 _ _ hpc,hU.tp ((s3.trans sc).trans s5).tp⟩ (q0 H5 ((((s1.trans s2).trans s3).trans sc).trans s5))
def inv_l61 (H:Hp)(a d:Addr)(i:Nat)(σ:St)(Hc:Hp):Prop:=∃ v2 v3 v4 v5:Option V,σ=[some (.ref a),some (.ref d),v2,v3,v4,v5]∧DkAt Hc d
def inv_m61 (H:Hp)(a d:Addr)(k:Int)(i:Nat)(σ:St)(Hc:Hp):Prop:=∃ v3 v4 v5:Option V,σ=[some (.ref a),some (.ref d),some (.int k),v3,v4,v5]∧DkAt Hc d
theorem sc_law61:FnScope ["_law_script", "_law_deck_here", "_law_kind", "_law_turn", "_law_one", "_law_other"] ["_law_script"] (defScope (top 19)):=⟨rfl,rfl,rfl,by decide +kernel,rfl,by decide +kernel,by decide +kernel⟩
theorem ok_law61 {f:Addr}{fd:FuncData}(F:Fun K "law" "law" (top 19) f fd)(B:Bt mg){f1:Addr}{fd1:FuncData}{st1:Stmt}(D_law_deck:Df K mg "_law_deck" st1 f1 fd1 ["_law_script", "_law_many"])(G_law_deck:FnOk P w K mg base CX0 2 f1 fd1 ["_law_script", "_law_many"] (sp_deck K)){f2:Addr}{fd2:FuncData}{st2:Stmt}(D_law_sizes:Df K mg "_law_sizes" st2 f2 fd2 ["_law_deck_here", "_law_kind", "_law_great"])(G_law_sizes:FnOk P w K mg base CX0 2 f2 fd2 ["_law_deck_here", "_law_kind", "_law_great"] (sp_lsizes K)){f3:Addr}{fd3:FuncData}{st3:Stmt}(D_law_right:Df K mg "_law_right" st3 f3 fd3 ["_law_kind", "_law_one", "_law_other"])(G_law_right:FnOk P w K mg base CX0 5 f3 fd3 ["_law_kind", "_law_one", "_law_other"] (sp_lright61 K)):FnOk P w K mg base CX0 7 f fd ["_law_script"] (sp_law K):=by
 refine F.ok sc_law61 (fun vs H Q E h=>?_) (fun cdv A outer s H vs Q E hr h=>?_)
 ·obtain⟨a,ns,rfl,hS,hl,q⟩:=h;rfl
 ·obtain⟨a,ns,rfl,hS,hl,q⟩:=h;have nd:=sc_law61.nd;have hu:=hu_of hr
  refine⟨_,(pss_cons (ps_set (i:=1) nd rfl (Or.inl rfl) (pe_own G_law_deck D_law_deck (hr.mono (by decide)) (pa_cons (pv 0) (pa_cons pe_int pa_nil))))
    (pss_cons (ps_for PassesOwn.never rfl (pi_range1 (by rfl) B.range (pa_cons pe_int pa_nil)) (pg_name (i:=2) nd rfl (Or.inl rfl))
     (pss_one (ps_for PassesOwn.never rfl (pi_range1 (by rfl) B.range (pa_cons (pe_op op_add pe_int (pe_op op_mul pe_int (pe_callTy call_intB (by rfl) B.int PyProof.Rows.boot_int (pa_cons (pe_cmpR op_eq (pv 2) pe_int (nomark _)) pa_nil)))) pa_nil)) (pg_name (i:=3) nd rfl (Or.inl rfl))
      (pss_cons (ps_asg (pe_own G_law_sizes D_law_sizes (hr.mono (by decide)) (pa_cons (pv 1) (pa_cons (pv 2) (pa_cons pe_int pa_nil)))) (pg_tupK K (n:=2) rfl (pgs_cons (pg_name (i:=4) nd rfl (Or.inl rfl)) (pgs_cons (pg_name (i:=5) nd rfl (Or.inl rfl)) pgs_nil))))
      (pss_one (ps_if (pt_not (pt_val (pe_own G_law_right D_law_right (hr.mono (by decide)) (pa_cons (pv 2) (pa_cons (pv 4) (pa_cons (pv 5) pa_nil))))))
       (pss_one (ps_ret pe_bl))
       pss_nil))))))
    (pss_one (ps_ret pe_bl)))),?_⟩
  walk_at "rd";refine⟨a,80,ns,rfl,hS,hl,by decide,by decide,fun d ds H1 hdl s1 nd1 hd1=>?_⟩;dsimp only;rw[tFor_eq];walk_at "rd";refine⟨by decide,by decide,for_range (lo:=0) (n:=6) (inv_l61 H a d) ⟨none,none,none,none,rfl,⟨ds,hd1,hdl⟩⟩ ?_ ?_⟩
  ·rintro i σ Hc hi ⟨v2,v3,v4,v5,rfl,dc⟩;walk_at "rd";rw[tFor_eq];walk_at "rd";have e01:(if decide ((0:Int)+(i:Int)=3)=true then (1:Int) else 0)=0∨(if decide ((0:Int)+(i:Int)=3)=true then (1:Int) else 0)=1:=by split<;>simp
   generalize (if decide ((0:Int)+(i:Int)=3)=true then (1:Int) else 0)=c at e01 ⊢;refine⟨by unfold CMul;omega,by omega,by omega,for_range (lo:=0) (n:=(2+2*c).toNat) (inv_m61 H a d (0+i)) ⟨v3,v4,v5,rfl,dc⟩ ?_ ?_⟩
   ·rintro j τ Hd _ ⟨w3,w4,w5,rfl,dd⟩;walk_at "rd";refine⟨d,0+i,rfl,by omega,by omega,dd,fun p x y He de ep sz=>?_⟩;refine⟨p,rfl,_,SqT.of ep,rfl,_,_,rfl,_,_,rfl,rfl,0+i,x,y,rfl,by omega,by omega,sz,fun Hf sf=>⟨true,rfl,?_⟩⟩;rw[if_neg (by decide)];exact⟨_,_,_,rfl,de.same sf⟩
   ·rintro τ Hd ⟨w3,w4,w5,rfl,dd⟩;exact⟨_,_,_,_,rfl,dd⟩
  ·rintro σ Hc ⟨v2,v3,v4,v5,rfl,dc⟩;walk_at "rd";exact q Hc
end
end K61
end
section
set_option Elab.async false
set_option linter.all false
set_option maxRecDepth 100000
set_option maxHeartbeats 4000000
namespace K61
open PySem L2
def vs (s:String)(t:Tok):Value:=.str (Str.ofString s) t
def vi (i:Int)(t:Tok):Value:=.int i t
def vr (a:Addr):Value:=.ref a
def vn:Value:=.none
def fcp:Tok→Value:=vs "/claim/cut.py"
def de (P:Params)(s:String)(t:Tok)(v:Value):DictEntry:=⟨PyData.keyHash P (Str.ofString s),.str (Str.ofString s) t,v⟩
def ot (a:Array Value)(l:Array (Option Value)):Obj:=⟨.type "tuple",none,.seq a,l⟩
def oc (a:Array Value)(l:Array (Option Value)):Obj:=⟨.type "code",none,.fields a,l⟩
def fo (n:String)(i:Nat)(g:Addr)(cl:List (Str×Addr))(a b c d:Value)(e:Option Addr)(f h:Value)(k:Addr):Obj:=⟨.type "function",none,.func ⟨Str.ofString n,Str.ofString n,defArgs (top i),.stmts (defBody (top i)),defScope (top i),g,cl,a,b,c,d,e,f,h,k⟩,#[]⟩
def heapK:Params→PySem.W.Frag:=fun P=>(nat_lit 2,Obj.mk vn none (Data.dict #[]) #[])::(nat_lit 3,Obj.mk (Value.type "dict") none (Data.dict #[de P "__name__" 165 (vs "law_manyleaves_k61_made" 264),de P "__doc__" 166 vn,de P "__package__" 167 vn,de P "__loader__" 168 (Value.builtin "__main__.__loader__#opaque"),de P "__spec__" 169 vn,de P "__annotations__" 170 (vr 6),de P "__builtins__" 171 (vr 4),de P "__file__" 173 (fcp 172),de P "__cached__" 174 vn,de P "way_from" 194 (vr 19),de P "made_way" 202 (vr 26),de P "made_ring" 210 (vr 33),de P "made_full" 216 (vr 38),de P "made_sides" 222 (vr 43),de P "made_comb" 228 (vr 48),de P "made_ladder" 238 (vr 55),de P "MAKERS" 251 (vr 56),de P "made" 263 (vr 63),de P "_law_mixed" 274 (vr 70),de P "_law_deck" 280 (vr 75),de P "_law_next" 287 (vr 82),de P "_law_tied" 297 (vr 89),de P "_law_kind_web" 303 (vr 94),de P "_law_sizes" 317 (vr 101),de P "_law_is_int" 326 (vr 108),de P "_law_right" 332 (vr 113),de P "law" 344 (vr 120)] 27) #[])::(nat_lit 6,Obj.mk (Value.type "dict") none (Data.dict #[]) #[])::(nat_lit 15,ot (#[]) #[])::(nat_lit 18,oc (#[vs "way_from" 189,vs "way_from" 190,fcp 191,vi 2 0,vi 2 0,vi 0 0,vi 0 0,vi 3 0,vr 15,Value.bool true,vi 181 0,vr 16,vn,vn,vn,vr 17,vi 192 0,vi 2 0,fcp 193]) #[])::(nat_lit 19,fo "way_from" 1 3 [] vn vn vn (vs "manyleaves.kinds" 187) none (vr 18) vn 0)::(nat_lit 20,ot (#[]) #[])::(nat_lit 22,ot (#[vs "n" 198,vs "zero" 199]) #[])::(nat_lit 23,ot (#[]) #[])::(nat_lit 25,oc (#[vs "made_way" 195,vs "made_way" 196,fcp 197,vi 4 0,vi 2 0,vi 0 0,vi 0 0,vi 3 0,vr 20,Value.bool true,vi 181 0,vr 21,vn,vr 22,vr 23,vr 24,vi 200 0,vi 4 0,fcp 201]) #[])::(nat_lit 26,fo "made_way" 2 3 [] vn vn vn (vs "manyleaves.kinds" 187) none (vr 25) vn 0)::(nat_lit 27,ot (#[]) #[])::(nat_lit 29,ot (#[vs "n" 206,vs "zero" 207]) #[])::(nat_lit 30,ot (#[]) #[])::(nat_lit 32,oc (#[vs "made_ring" 203,vs "made_ring" 204,fcp 205,vi 6 0,vi 2 0,vi 0 0,vi 0 0,vi 3 0,vr 27,Value.bool true,vi 181 0,vr 28,vn,vr 29,vr 30,vr 31,vi 208 0,vi 6 0,fcp 209]) #[])::(nat_lit 33,fo "made_ring" 3 3 [] vn vn vn (vs "manyleaves.kinds" 187) none (vr 32) vn 0)::(nat_lit 34,ot (#[]) #[])::(nat_lit 37,oc (#[vs "made_full" 211,vs "made_full" 212,fcp 213,vi 8 0,vi 2 0,vi 0 0,vi 0 0,vi 3 0,vr 34,Value.bool true,vi 181 0,vr 35,vn,vn,vn,vr 36,vi 214 0,vi 8 0,fcp 215]) #[])::(nat_lit 38,fo "made_full" 4 3 [] vn vn vn (vs "manyleaves.kinds" 187) none (vr 37) vn 0)::(nat_lit 39,ot (#[]) #[])::(nat_lit 42,oc (#[vs "made_sides" 217,vs "made_sides" 218,fcp 219,vi 10 0,vi 2 0,vi 0 0,vi 0 0,vi 3 0,vr 39,Value.bool true,vi 181 0,vr 40,vn,vn,vn,vr 41,vi 220 0,vi 10 0,fcp 221]) #[])::(nat_lit 43,fo "made_sides" 5 3 [] vn vn vn (vs "manyleaves.kinds" 187) none (vr 42) vn 0)::(nat_lit 44,ot (#[]) #[])::(nat_lit 47,oc (#[vs "made_comb" 223,vs "made_comb" 224,fcp 225,vi 12 0,vi 2 0,vi 0 0,vi 0 0,vi 3 0,vr 44,Value.bool true,vi 181 0,vr 45,vn,vn,vn,vr 46,vi 226 0,vi 12 0,fcp 227]) #[])::(nat_lit 48,fo "made_comb" 6 3 [] vn vn vn (vs "manyleaves.kinds" 187) none (vr 47) vn 0)::(nat_lit 49,ot (#[]) #[])::(nat_lit 51,ot (#[vs "k" 232,vs "zero" 233,vs "places" 234,vs "ties" 235]) #[])::(nat_lit 52,ot (#[]) #[])::(nat_lit 54,oc (#[vs "made_ladder" 229,vs "made_ladder" 230,fcp 231,vi 14 0,vi 2 0,vi 0 0,vi 0 0,vi 3 0,vr 49,Value.bool true,vi 181 0,vr 50,vn,vr 51,vr 52,vr 53,vi 236 0,vi 14 0,fcp 237]) #[])::(nat_lit 55,fo "made_ladder" 7 3 [] vn vn vn (vs "manyleaves.kinds" 187) none (vr 54) vn 0)::(nat_lit 56,Obj.mk (Value.type "dict") none (Data.dict #[de P "way" 239 (vr 26),de P "ring" 240 (vr 33),de P "full" 241 (vr 38),de P "sides" 242 (vr 43),de P "comb" 243 (vr 48),de P "ladder" 244 (vr 55)] 6) #[])::(nat_lit 57,ot (#[]) #[])::(nat_lit 59,ot (#[vs "kind" 255,vs "one" 256,vs "other" 257,vs "maker" 258,vs "places" 259,vs "ties" 260]) #[])::(nat_lit 60,ot (#[]) #[])::(nat_lit 62,oc (#[vs "made" 252,vs "made" 253,fcp 254,vi 18 0,vi 3 0,vi 0 0,vi 0 0,vi 3 0,vr 57,Value.bool true,vi 181 0,vr 58,vn,vr 59,vr 60,vr 61,vi 261 0,vi 18 0,fcp 262]) #[])::(nat_lit 63,fo "made" 9 3 [] vn vn vn (vs "manyleaves.kinds" 187) none (vr 62) vn 0)::(nat_lit 64,ot (#[]) #[])::(nat_lit 66,ot (#[vs "_law_cell" 269,vs "_law_k" 270,vs "_law_number" 271]) #[])::(nat_lit 67,ot (#[]) #[])::(nat_lit 69,oc (#[vs "_law_mixed" 266,vs "_law_mixed" 267,fcp 268,vi 23 0,vi 2 0,vi 0 0,vi 0 0,vi 3 0,vr 64,Value.bool true,vi 181 0,vr 65,vn,vr 66,vr 67,vr 68,vi 272 0,vi 23 0,fcp 273]) #[])::(nat_lit 70,fo "_law_mixed" 11 3 [] vn vn vn (vs "law_manyleaves_k61_made" 264) none (vr 69) vn 0)::(nat_lit 71,ot (#[]) #[])::(nat_lit 74,oc (#[vs "_law_deck" 275,vs "_law_deck" 276,fcp 277,vi 28 0,vi 2 0,vi 0 0,vi 0 0,vi 3 0,vr 71,Value.bool true,vi 181 0,vr 72,vn,vn,vn,vr 73,vi 278 0,vi 28 0,fcp 279]) #[])::(nat_lit 75,fo "_law_deck" 12 3 [] vn vn vn (vs "law_manyleaves_k61_made" 264) none (vr 74) vn 0)::(nat_lit 76,ot (#[]) #[])::(nat_lit 78,ot (#[vs "_law_deck_here" 284]) #[])::(nat_lit 79,ot (#[]) #[])::(nat_lit 81,oc (#[vs "_law_next" 281,vs "_law_next" 282,fcp 283,vi 40 0,vi 1 0,vi 0 0,vi 0 0,vi 3 0,vr 76,Value.bool true,vi 181 0,vr 77,vn,vr 78,vr 79,vr 80,vi 285 0,vi 40 0,fcp 286]) #[])::(nat_lit 82,fo "_law_next" 13 3 [] vn vn vn (vs "law_manyleaves_k61_made" 264) none (vr 81) vn 0)::(nat_lit 83,ot (#[]) #[])::(nat_lit 85,ot (#[vs "_law_kind" 291,vs "_law_one" 292,vs "_law_a" 293,vs "_law_b" 294]) #[])::(nat_lit 86,ot (#[]) #[])::(nat_lit 88,oc (#[vs "_law_tied" 288,vs "_law_tied" 289,fcp 290,vi 44 0,vi 4 0,vi 0 0,vi 0 0,vi 3 0,vr 83,Value.bool true,vi 181 0,vr 84,vn,vr 85,vr 86,vr 87,vi 295 0,vi 44 0,fcp 296]) #[])::(nat_lit 89,fo "_law_tied" 14 3 [] vn vn vn (vs "law_manyleaves_k61_made" 264) none (vr 88) vn 0)::(nat_lit 90,ot (#[]) #[])::(nat_lit 93,oc (#[vs "_law_kind_web" 298,vs "_law_kind_web" 299,fcp 300,vi 56 0,vi 3 0,vi 0 0,vi 0 0,vi 3 0,vr 90,Value.bool true,vi 181 0,vr 91,vn,vn,vn,vr 92,vi 301 0,vi 56 0,fcp 302]) #[])::(nat_lit 94,fo "_law_kind_web" 15 3 [] vn vn vn (vs "law_manyleaves_k61_made" 264) none (vr 93) vn 0)::(nat_lit 95,ot (#[]) #[])::(nat_lit 97,ot (#[vs "_law_deck_here" 307,vs "_law_kind" 308,vs "_law_great" 309,vs "_law_cell" 310,vs "_law_one" 311,vs "_law_most" 312,vs "_law_least" 313,vs "_law_other" 314]) #[])::(nat_lit 98,ot (#[]) #[])::(nat_lit 100,oc (#[vs "_law_sizes" 304,vs "_law_sizes" 305,fcp 306,vi 62 0,vi 3 0,vi 0 0,vi 0 0,vi 3 0,vr 95,Value.bool true,vi 181 0,vr 96,vn,vr 97,vr 98,vr 99,vi 315 0,vi 62 0,fcp 316]) #[])::(nat_lit 101,fo "_law_sizes" 16 3 [] vn vn vn (vs "law_manyleaves_k61_made" 264) none (vr 100) vn 0)::(nat_lit 102,ot (#[]) #[])::(nat_lit 104,ot (#[vs "_law_thing" 321,vs "_law_least" 322,vs "_law_most" 323]) #[])::(nat_lit 105,ot (#[]) #[])::(nat_lit 107,oc (#[vs "_law_is_int" 318,vs "_law_is_int" 319,fcp 320,vi 73 0,vi 3 0,vi 0 0,vi 0 0,vi 3 0,vr 102,Value.bool true,vi 181 0,vr 103,vn,vr 104,vr 105,vr 106,vi 324 0,vi 73 0,fcp 325]) #[])::(nat_lit 108,fo "_law_is_int" 17 3 [] vn vn vn (vs "law_manyleaves_k61_made" 264) none (vr 107) vn 0)::(nat_lit 109,ot (#[]) #[])::(nat_lit 112,oc (#[vs "_law_right" 327,vs "_law_right" 328,fcp 329,vi 75 0,vi 3 0,vi 0 0,vi 0 0,vi 3 0,vr 109,Value.bool true,vi 181 0,vr 110,vn,vn,vn,vr 111,vi 330 0,vi 75 0,fcp 331]) #[])::(nat_lit 113,fo "_law_right" 18 3 [] vn vn vn (vs "law_manyleaves_k61_made" 264) none (vr 112) vn 0)::(nat_lit 114,ot (#[]) #[])::(nat_lit 116,ot (#[vs "_law_script" 336,vs "_law_deck_here" 337,vs "_law_kind" 338,vs "_law_turn" 339,vs "_law_one" 340,vs "_law_other" 341]) #[])::(nat_lit 117,ot (#[]) #[])::(nat_lit 119,oc (#[vs "law" 333,vs "law" 334,fcp 335,vi 84 0,vi 1 0,vi 0 0,vi 0 0,vi 3 0,vr 114,Value.bool true,vi 181 0,vr 115,vn,vr 116,vr 117,vr 118,vi 342 0,vi 84 0,fcp 343]) #[])::(nat_lit 120,fo "law" 19 3 [] vn vn vn (vs "law_manyleaves_k61_made" 264) none (vr 119) vn 0)::[]
def viewP:Program:={PySem.Challenge.pw_manyleaves_k61_made with main:={PySem.Challenge.pw_manyleaves_k61_made.main with body:=[top 1,top 2,top 3,top 4,top 5,top 6,top 7,top 8,top 9,top 11,top 12,top 13,top 14,top 15,top 16,top 17,top 18,top 19]}}
def addrs:List Addr:=[2,3,6,15,18,19,20,22,23,25,26,27,29,30,32,33,34,37,38,39,42,43,44,47,48,49,51,52,54,55,56,57,59,60,62,63,64,66,67,69,70,71,74,75,76,78,79,81,82,83,85,86,88,89,90,93,94,95,97,98,100,101,102,104,105,107,108,109,112,113,114,116,117,119,120]
theorem addr:∀ P,addrs=(heapK P).map (·.1):=fun _=>by kernel_rfl
theorem all_mk {l:PySem.W.OpenLaw}{w:World}{K:PySem.W.Frag}{h:Heap}{mg:Str→Option Value}{fa f1 f2 f3 f4 f5 f6 f7 f8 f9 f10 f11 f12 f13 f14 f15 f16 f17:Addr}(X:K.In h)(G:h.Ns mainGlobals mg)(hfa:mg "law"=some (.ref fa))
  {od1 an1 od2 an2 od3 an3 od4 an4 od5 an5 od6 an6 od7 an7 od8 an8 od9 an9 od10 an10 od11 an11 od12 an12 od13 an13 od14 an14 od15 an15 od16 an16 od17 an17:Option Addr} {sl1 sl2 sl3 sl4 sl5 sl6 sl7 sl8 sl9 sl10 sl11 sl12 sl13 sl14 sl15 sl16 sl17:Array (Option Value)} {oc1 kV1 dc1 pm1 cd1 ct1 oc2 kV2 dc2 pm2 cd2 ct2 oc3 kV3 dc3 pm3 cd3 ct3 oc4 kV4 dc4 pm4 cd4 ct4 oc5 kV5 dc5 pm5 cd5 ct5 oc6 kV6 dc6 pm6 cd6 ct6 oc7 kV7 dc7 pm7 cd7 ct7 oc8 kV8 dc8 pm8 cd8 ct8 oc9 kV9 dc9 pm9 cd9 ct9 oc10 kV10 dc10 pm10 cd10 ct10 oc11 kV11 dc11 pm11 cd11 ct11 oc12 kV12 dc12 pm12 cd12 ct12 oc13 kV13 dc13 pm13 cd13 ct13 oc14 kV14 dc14 pm14 cd14 ct14 oc15 kV15 dc15 pm15 cd15 ct15 oc16 kV16 dc16 pm16 cd16 ct16 oc17 kV17 dc17 pm17 cd17 ct17:Value}
  (a1:PySem.W.nsIn K mainGlobals "_law_mixed"=some (some (.ref f1))) (l1:K.lookup f1=some ⟨oc1,od1,.func (PySem.W.fnOf "_law_mixed" "_law_mixed" (defArgs (top 11)) (defBody (top 11)) (defScope (top 11)) .none kV1 dc1 pm1 an1 cd1 ct1),sl1⟩) (c1:PySem.W.codeIn K cd1 "_law_mixed"=true) (k1:PySem.W.keepIn K (.ref f1)=true)
  (a2:PySem.W.nsIn K mainGlobals "_law_next"=some (some (.ref f2))) (l2:K.lookup f2=some ⟨oc2,od2,.func (PySem.W.fnOf "_law_next" "_law_next" (defArgs (top 13)) (defBody (top 13)) (defScope (top 13)) .none kV2 dc2 pm2 an2 cd2 ct2),sl2⟩) (c2:PySem.W.codeIn K cd2 "_law_next"=true) (k2:PySem.W.keepIn K (.ref f2)=true)
  (a3:PySem.W.nsIn K mainGlobals "_law_deck"=some (some (.ref f3))) (l3:K.lookup f3=some ⟨oc3,od3,.func (PySem.W.fnOf "_law_deck" "_law_deck" (defArgs (top 12)) (defBody (top 12)) (defScope (top 12)) .none kV3 dc3 pm3 an3 cd3 ct3),sl3⟩) (c3:PySem.W.codeIn K cd3 "_law_deck"=true) (k3:PySem.W.keepIn K (.ref f3)=true)
  (a4:PySem.W.nsIn K mainGlobals "_law_tied"=some (some (.ref f4))) (l4:K.lookup f4=some ⟨oc4,od4,.func (PySem.W.fnOf "_law_tied" "_law_tied" (defArgs (top 14)) (defBody (top 14)) (defScope (top 14)) .none kV4 dc4 pm4 an4 cd4 ct4),sl4⟩) (c4:PySem.W.codeIn K cd4 "_law_tied"=true) (k4:PySem.W.keepIn K (.ref f4)=true)
  (a5:PySem.W.nsIn K mainGlobals "_law_kind_web"=some (some (.ref f5))) (l5:K.lookup f5=some ⟨oc5,od5,.func (PySem.W.fnOf "_law_kind_web" "_law_kind_web" (defArgs (top 15)) (defBody (top 15)) (defScope (top 15)) .none kV5 dc5 pm5 an5 cd5 ct5),sl5⟩) (c5:PySem.W.codeIn K cd5 "_law_kind_web"=true) (k5:PySem.W.keepIn K (.ref f5)=true)
  (a6:PySem.W.nsIn K mainGlobals "_law_is_int"=some (some (.ref f6))) (l6:K.lookup f6=some ⟨oc6,od6,.func (PySem.W.fnOf "_law_is_int" "_law_is_int" (defArgs (top 17)) (defBody (top 17)) (defScope (top 17)) .none kV6 dc6 pm6 an6 cd6 ct6),sl6⟩) (c6:PySem.W.codeIn K cd6 "_law_is_int"=true) (k6:PySem.W.keepIn K (.ref f6)=true)
  (a7:PySem.W.nsIn K mainGlobals "way_from"=some (some (.ref f7))) (l7:K.lookup f7=some ⟨oc7,od7,.func (PySem.W.fnOf "way_from" "way_from" (defArgs (top 1)) (defBody (top 1)) (defScope (top 1)) .none kV7 dc7 pm7 an7 cd7 ct7),sl7⟩) (c7:PySem.W.codeIn K cd7 "way_from"=true) (k7:PySem.W.keepIn K (.ref f7)=true)
  (a8:PySem.W.nsIn K mainGlobals "made_way"=some (some (.ref f8))) (l8:K.lookup f8=some ⟨oc8,od8,.func (PySem.W.fnOf "made_way" "made_way" (defArgs (top 2)) (defBody (top 2)) (defScope (top 2)) .none kV8 dc8 pm8 an8 cd8 ct8),sl8⟩) (c8:PySem.W.codeIn K cd8 "made_way"=true) (k8:PySem.W.keepIn K (.ref f8)=true)
  (a9:PySem.W.nsIn K mainGlobals "made_ring"=some (some (.ref f9))) (l9:K.lookup f9=some ⟨oc9,od9,.func (PySem.W.fnOf "made_ring" "made_ring" (defArgs (top 3)) (defBody (top 3)) (defScope (top 3)) .none kV9 dc9 pm9 an9 cd9 ct9),sl9⟩) (c9:PySem.W.codeIn K cd9 "made_ring"=true) (k9:PySem.W.keepIn K (.ref f9)=true)
  (a10:PySem.W.nsIn K mainGlobals "made_full"=some (some (.ref f10))) (l10:K.lookup f10=some ⟨oc10,od10,.func (PySem.W.fnOf "made_full" "made_full" (defArgs (top 4)) (defBody (top 4)) (defScope (top 4)) .none kV10 dc10 pm10 an10 cd10 ct10),sl10⟩) (c10:PySem.W.codeIn K cd10 "made_full"=true) (k10:PySem.W.keepIn K (.ref f10)=true)
  (a11:PySem.W.nsIn K mainGlobals "made_sides"=some (some (.ref f11))) (l11:K.lookup f11=some ⟨oc11,od11,.func (PySem.W.fnOf "made_sides" "made_sides" (defArgs (top 5)) (defBody (top 5)) (defScope (top 5)) .none kV11 dc11 pm11 an11 cd11 ct11),sl11⟩) (c11:PySem.W.codeIn K cd11 "made_sides"=true) (k11:PySem.W.keepIn K (.ref f11)=true)
  (a12:PySem.W.nsIn K mainGlobals "made_comb"=some (some (.ref f12))) (l12:K.lookup f12=some ⟨oc12,od12,.func (PySem.W.fnOf "made_comb" "made_comb" (defArgs (top 6)) (defBody (top 6)) (defScope (top 6)) .none kV12 dc12 pm12 an12 cd12 ct12),sl12⟩) (c12:PySem.W.codeIn K cd12 "made_comb"=true) (k12:PySem.W.keepIn K (.ref f12)=true)
  (a13:PySem.W.nsIn K mainGlobals "made_ladder"=some (some (.ref f13))) (l13:K.lookup f13=some ⟨oc13,od13,.func (PySem.W.fnOf "made_ladder" "made_ladder" (defArgs (top 7)) (defBody (top 7)) (defScope (top 7)) .none kV13 dc13 pm13 an13 cd13 ct13),sl13⟩) (c13:PySem.W.codeIn K cd13 "made_ladder"=true) (k13:PySem.W.keepIn K (.ref f13)=true)
  (a14:PySem.W.nsIn K mainGlobals "made"=some (some (.ref f14))) (l14:K.lookup f14=some ⟨oc14,od14,.func (PySem.W.fnOf "made" "made" (defArgs (top 9)) (defBody (top 9)) (defScope (top 9)) .none kV14 dc14 pm14 an14 cd14 ct14),sl14⟩) (c14:PySem.W.codeIn K cd14 "made"=true) (k14:PySem.W.keepIn K (.ref f14)=true)
  (a15:PySem.W.nsIn K mainGlobals "_law_sizes"=some (some (.ref f15))) (l15:K.lookup f15=some ⟨oc15,od15,.func (PySem.W.fnOf "_law_sizes" "_law_sizes" (defArgs (top 16)) (defBody (top 16)) (defScope (top 16)) .none kV15 dc15 pm15 an15 cd15 ct15),sl15⟩) (c15:PySem.W.codeIn K cd15 "_law_sizes"=true) (k15:PySem.W.keepIn K (.ref f15)=true)
  (a16:PySem.W.nsIn K mainGlobals "_law_right"=some (some (.ref f16))) (l16:K.lookup f16=some ⟨oc16,od16,.func (PySem.W.fnOf "_law_right" "_law_right" (defArgs (top 18)) (defBody (top 18)) (defScope (top 18)) .none kV16 dc16 pm16 an16 cd16 ct16),sl16⟩) (c16:PySem.W.codeIn K cd16 "_law_right"=true) (k16:PySem.W.keepIn K (.ref f16)=true)
  (a17:PySem.W.nsIn K mainGlobals "law"=some (some (.ref f17))) (l17:K.lookup f17=some ⟨oc17,od17,.func (PySem.W.fnOf "law" "law" (defArgs (top 19)) (defBody (top 19)) (defScope (top 19)) .none kV17 dc17 pm17 an17 cd17 ct17),sl17⟩) (c17:PySem.W.codeIn K cd17 "law"=true) (k17:PySem.W.keepIn K (.ref f17)=true)
  {aMk:Addr} {tk1 tk2 tk3 tk4 tk5 tk6:Tok} (X1:PySem.W.nsIn K mainGlobals "MAKERS"=some (some (.ref aMk))) (X2:K.lookup aMk=some (kdO w.params 6 [("way",tk1,f8),("ring",tk2,f9),("full",tk3,f10),("sides",tk4,f11),("comb",tk5,f12),("ladder",tk6,f13)]))
  (z1:PySem.W.nsIn K mainGlobals "len"=some none) (z2:PySem.W.nsIn K mainGlobals "range"=some none) (z3:PySem.W.nsIn K mainGlobals "list"=some none) (z4:PySem.W.nsIn K mainGlobals "tuple"=some none) (z5:PySem.W.nsIn K mainGlobals "sorted"=some none) (z6:PySem.W.nsIn K mainGlobals "min"=some none) (z7:PySem.W.nsIn K mainGlobals "max"=some none) (z8:PySem.W.nsIn K mainGlobals "int"=some none) (z9:PySem.W.nsIn K mainGlobals "reversed"=some none) (z10:PySem.W.nsIn K mainGlobals "isinstance"=some none) (z11:PySem.W.nsIn K mainGlobals "bool"=some none) (z12:PySem.W.nsIn K mainGlobals "all"=some none) (z13:PySem.W.nsIn K mainGlobals "set"=some none) (z14:PySem.W.nsIn K mainGlobals "enumerate"=some none) (z15:PySem.W.nsIn K mainGlobals "zip"=some none) :
  ∃ fd:FuncData,(∀ (s:Shared) (v:Value),BindsTo s fd ⟨[v],[]⟩ [("_law_script",v)])∧∀ base:Heap,K.In base→base.Ns mainGlobals mg→FnOk l.prog w K mg base CX0 7 fa fd ["_law_script"] (sp_law K):=by
 have e:=hfa.symm.trans (PySem.W.mg_of X G a17);cases e;have B:Bt mg:=⟨PySem.W.mg_none_of X G z1,PySem.W.mg_none_of X G z2,PySem.W.mg_none_of X G z3,PySem.W.mg_none_of X G z4,PySem.W.mg_none_of X G z5,PySem.W.mg_none_of X G z6,PySem.W.mg_none_of X G z7,PySem.W.mg_none_of X G z8,PySem.W.mg_none_of X G z9⟩
 have C:Bt2 mg:=⟨PySem.W.mg_none_of X G z10,PySem.W.mg_none_of X G z11,PySem.W.mg_none_of X G z12,PySem.W.mg_none_of X G z13,PySem.W.mg_none_of X G z14,PySem.W.mg_none_of X G z15⟩
 have F1:=fun_mk (st:=top 11) l1 c1 k1;have D1:Df K mg "_law_mixed" (top 11) f1 _ ["_law_cell", "_law_k"]:=⟨F1,F1.binds fun _ _ _ _ _ _ us hl=>L2.al2 (P:=fun us=>bindArgs _ ⟨us,[]⟩=pure (List.zip _ us)) (fun _ _=>rfl) us hl,PySem.W.mg_of X G a1⟩
 have F2:=fun_mk (st:=top 13) l2 c2 k2;have D2:Df K mg "_law_next" (top 13) f2 _ ["_law_deck_here"]:=⟨F2,F2.binds fun _ _ _ _ _ _ us hl=>L2.al1 (P:=fun us=>bindArgs _ ⟨us,[]⟩=pure (List.zip _ us)) (fun _=>rfl) us hl,PySem.W.mg_of X G a2⟩
 have F3:=fun_mk (st:=top 12) l3 c3 k3;have D3:Df K mg "_law_deck" (top 12) f3 _ ["_law_script", "_law_many"]:=⟨F3,F3.binds fun _ _ _ _ _ _ us hl=>L2.al2 (P:=fun us=>bindArgs _ ⟨us,[]⟩=pure (List.zip _ us)) (fun _ _=>rfl) us hl,PySem.W.mg_of X G a3⟩
 have F4:=fun_mk (st:=top 14) l4 c4 k4;have D4:Df K mg "_law_tied" (top 14) f4 _ ["_law_kind", "_law_one", "_law_a", "_law_b"]:=⟨F4,F4.binds fun _ _ _ _ _ _ us hl=>L2.al4 (P:=fun us=>bindArgs _ ⟨us,[]⟩=pure (List.zip _ us)) (fun _ _ _ _=>rfl) us hl,PySem.W.mg_of X G a4⟩
 have F5:=fun_mk (st:=top 15) l5 c5 k5;have D5:Df K mg "_law_kind_web" (top 15) f5 _ ["_law_kind", "_law_one", "_law_other"]:=⟨F5,F5.binds fun _ _ _ _ _ _ us hl=>L2.al3 (P:=fun us=>bindArgs _ ⟨us,[]⟩=pure (List.zip _ us)) (fun _ _ _=>rfl) us hl,PySem.W.mg_of X G a5⟩
 have F6:=fun_mk (st:=top 17) l6 c6 k6;have D6:Df K mg "_law_is_int" (top 17) f6 _ ["_law_thing", "_law_least", "_law_most"]:=⟨F6,F6.binds fun _ _ _ _ _ _ us hl=>L2.al3 (P:=fun us=>bindArgs _ ⟨us,[]⟩=pure (List.zip _ us)) (fun _ _ _=>rfl) us hl,PySem.W.mg_of X G a6⟩
 have F7:=fun_mk (st:=top 1) l7 c7 k7;have D7:Df K mg "way_from" (top 1) f7 _ ["first", "many"]:=⟨F7,F7.binds fun _ _ _ _ _ _ us hl=>L2.al2 (P:=fun us=>bindArgs _ ⟨us,[]⟩=pure (List.zip _ us)) (fun _ _=>rfl) us hl,PySem.W.mg_of X G a7⟩
 have F8:=fun_mk (st:=top 2) l8 c8 k8;have D8:Df K mg "made_way" (top 2) f8 _ ["n", "zero"]:=⟨F8,F8.binds fun _ _ _ _ _ _ us hl=>L2.al2 (P:=fun us=>bindArgs _ ⟨us,[]⟩=pure (List.zip _ us)) (fun _ _=>rfl) us hl,PySem.W.mg_of X G a8⟩
 have F9:=fun_mk (st:=top 3) l9 c9 k9;have D9:Df K mg "made_ring" (top 3) f9 _ ["n", "zero"]:=⟨F9,F9.binds fun _ _ _ _ _ _ us hl=>L2.al2 (P:=fun us=>bindArgs _ ⟨us,[]⟩=pure (List.zip _ us)) (fun _ _=>rfl) us hl,PySem.W.mg_of X G a9⟩
 have F10:=fun_mk (st:=top 4) l10 c10 k10;have D10:Df K mg "made_full" (top 4) f10 _ ["n", "zero"]:=⟨F10,F10.binds fun _ _ _ _ _ _ us hl=>L2.al2 (P:=fun us=>bindArgs _ ⟨us,[]⟩=pure (List.zip _ us)) (fun _ _=>rfl) us hl,PySem.W.mg_of X G a10⟩
 have F11:=fun_mk (st:=top 5) l11 c11 k11;have D11:Df K mg "made_sides" (top 5) f11 _ ["many", "others"]:=⟨F11,F11.binds fun _ _ _ _ _ _ us hl=>L2.al2 (P:=fun us=>bindArgs _ ⟨us,[]⟩=pure (List.zip _ us)) (fun _ _=>rfl) us hl,PySem.W.mg_of X G a11⟩
 have F12:=fun_mk (st:=top 6) l12 c12 k12;have D12:Df K mg "made_comb" (top 6) f12 _ ["k", "zero"]:=⟨F12,F12.binds fun _ _ _ _ _ _ us hl=>L2.al2 (P:=fun us=>bindArgs _ ⟨us,[]⟩=pure (List.zip _ us)) (fun _ _=>rfl) us hl,PySem.W.mg_of X G a12⟩
 have F13:=fun_mk (st:=top 7) l13 c13 k13;have D13:Df K mg "made_ladder" (top 7) f13 _ ["k", "zero"]:=⟨F13,F13.binds fun _ _ _ _ _ _ us hl=>L2.al2 (P:=fun us=>bindArgs _ ⟨us,[]⟩=pure (List.zip _ us)) (fun _ _=>rfl) us hl,PySem.W.mg_of X G a13⟩
 have F14:=fun_mk (st:=top 9) l14 c14 k14;have D14:Df K mg "made" (top 9) f14 _ ["kind", "one", "other"]:=⟨F14,F14.binds fun _ _ _ _ _ _ us hl=>L2.al3 (P:=fun us=>bindArgs _ ⟨us,[]⟩=pure (List.zip _ us)) (fun _ _ _=>rfl) us hl,PySem.W.mg_of X G a14⟩
 have F15:=fun_mk (st:=top 16) l15 c15 k15;have D15:Df K mg "_law_sizes" (top 16) f15 _ ["_law_deck_here", "_law_kind", "_law_great"]:=⟨F15,F15.binds fun _ _ _ _ _ _ us hl=>L2.al3 (P:=fun us=>bindArgs _ ⟨us,[]⟩=pure (List.zip _ us)) (fun _ _ _=>rfl) us hl,PySem.W.mg_of X G a15⟩
 have F16:=fun_mk (st:=top 18) l16 c16 k16;have D16:Df K mg "_law_right" (top 18) f16 _ ["_law_kind", "_law_one", "_law_other"]:=⟨F16,F16.binds fun _ _ _ _ _ _ us hl=>L2.al3 (P:=fun us=>bindArgs _ ⟨us,[]⟩=pure (List.zip _ us)) (fun _ _ _=>rfl) us hl,PySem.W.mg_of X G a16⟩
 have F17:=fun_mk (st:=top 19) l17 c17 k17;refine⟨PySem.W.fnOf "law" "law" (defArgs (top 19)) (defBody (top 19)) (defScope (top 19)) .none kV17 dc17 pm17 an17 cd17 ct17,fun s v=>.of_eq rfl,fun base _ _=>?_⟩;have O1:=ok_mixed (P:=l.prog) (w:=w) (base:=base) F1 B;have O2:=ok_next (P:=l.prog) (w:=w) (base:=base) F2 B;have O3:=ok_deck (P:=l.prog) (w:=w) (base:=base) F3 B D1 O1;have O4:=ok_ltied (P:=l.prog) (w:=w) (base:=base) F4 B;have O5:=ok_lkweb (P:=l.prog) (w:=w) (base:=base) F5 B D4 O4;have O6:=ok_isint (P:=l.prog) (w:=w) (base:=base) F6 B C;have O7:=ok_wayfrom (P:=l.prog) (w:=w) (base:=base) F7 B;have O8:=ok_mway (P:=l.prog) (w:=w) (base:=base) F8 B D7 O7;have O9:=ok_mring (P:=l.prog) (w:=w) (base:=base) F9 B D7 O7;have O10:=ok_mfull (P:=l.prog) (w:=w) (base:=base) F10 B;have O11:=ok_msides (P:=l.prog) (w:=w) (base:=base) F11 B;have O12:=ok_mcomb (P:=l.prog) (w:=w) (base:=base) F12 B D7 O7;have O13:=ok_mladder (P:=l.prog) (w:=w) (base:=base) F13 B D7 O7 D12 O12;have O14:=ok_made (P:=l.prog) (w:=w) (base:=base) F14 B D8 O8 D9 O9 D10 O10 D11 O11 D12 O12 D13 O13 ⟨PySem.W.mg_of X G X1,X2⟩;have O15:=ok_lsizes61 (P:=l.prog) (w:=w) (base:=base) F15 B D2 O2;have O16:=ok_lright61 (P:=l.prog) (w:=w) (base:=base) F16 B D14 O14 D5 O5 D6 O6 C;exact ok_law61 F17 B D3 O3 D15 O15 D16 O16
theorem walk {l:PySem.W.OpenLaw}{q:Program}{loose:List Str}{XP:(Str→Option Value)→Heap→Prop}{YP:World→Heap→Prop}{d:DefRec}{K:Params→PySem.W.Frag}(hn:l.most=some 63)(hdf:d.params.defaults=[])
  (hY:∀ (w:World) (h:Heap),YP w h→(K w.params).In h)
  (F:∀ (w:World) (mg:Str→Option Value) (fa:Addr) (h:Heap),(K w.params).In h→h.Ns mainGlobals mg→mg d.name=some (.ref fa) →
   ∃ fd:FuncData,(∀ (s:Shared) (u:Value),BindsTo s fd ⟨[u],[]⟩ [("_law_script",u)])∧∀ base:Heap,(K w.params).In base→base.Ns mainGlobals mg→FnOk l.prog w (K w.params) mg base CX0 7 fa fd ["_law_script"] (sp_law (K w.params))) :
  PySem.W.WalkO q loose XP YP l.row.toRowW d [] (fun f vs=>PySem.call f vs) :=
 L2.walk_of (n:=63) (k:=7) (x:="_law_script") (CX:=fun _=>CX0) (sp:=fun w=>sp_law (K w.params)) hn (by decide) hdf ⟨rfl,by decide,by decide,rfl⟩ hY F (fun _ _ a ns hl _ hS=>⟨a,ns,rfl,hS,hl,fun _=>rfl⟩) fun _ _ _ _ _ z=>z
end K61
end
open PySem PySem.W PyProof.Rows
set_option maxRecDepth 100000 in
set_option maxHeartbeats 0 in
theorem K61.said:PySem.Challenge.rw_manyleaves_k61_made.wellSaid=true:=by kernel_rfl
set_option maxRecDepth 100000 in
set_option maxHeartbeats 0 in
theorem K61.left:LeftO (OpenRow.toRowW (OpenLaw.row PySem.Challenge.rw_manyleaves_k61_made)).prog K61.viewP ["MAKERS"] (fun s=>xlAt K61.viewP [] s && recOk (RowW.records (OpenRow.toRowW (OpenLaw.row PySem.Challenge.rw_manyleaves_k61_made))) s) (Hook.obs (kHook K61.heapK K61.addrs K61.addr)) (Hook.val (kHook K61.heapK K61.addrs K61.addr)) 1376:=by refine LeftO.of_split "special-get-raises" ?_;intro w;kernel_rfl
set_option maxRecDepth 100000 in
set_option maxHeartbeats 0 in
theorem PySem.Challenge.cw_manyleaves_k61_made_holds : PySem.Challenge.rw_manyleaves_k61_made.Holds := by
 w_on;refine holds_law K61.said fun said=>?_
 refine holds_open (q:=K61.viewP) (loose:=["MAKERS"]) (Xt:=fun s=>xlAt K61.viewP [] s && recOk (RowW.records (OpenRow.toRowW (OpenLaw.row PySem.Challenge.rw_manyleaves_k61_made))) s) (XP:=XL K61.viewP []) (Yf:=Hook.obs (kHook K61.heapK K61.addrs K61.addr)) (Ya:=Hook.val (kHook K61.heapK K61.addrs K61.addr)) (YP:=Hook.says (kHook K61.heapK K61.addrs K61.addr)) (N:=1376) K61.left (Hook.of (kHook K61.heapK K61.addrs K61.addr)) (Hook.keeps (kHook K61.heapK K61.addrs K61.addr)) (fun s e=>xl_of s (Bool.and_eq_true_iff.mp e).1) XL.keeps (by rfl) (by rfl) (by rfl) (fun s e=>recFacts_of (Bool.and_eq_true_iff.mp e).2) (by rfl) said (by decide +kernel) ⟨rfl,rfl,rfl,rfl,rfl,by decide +kernel⟩ ?hw ?hc
 (case hw=>w_witness2)
 k_fill
 refine K61.walk (l:=PySem.Challenge.rw_manyleaves_k61_made) rfl rfl (fun w h Y=>PySem.W.kIn_of Y) ?F
 case F =>
  intro w mg fa h KX G hmg;refine' K61.all_mk KX G hmg ?a1 ?l1 ?c1 ?k1 ?a2 ?l2 ?c2 ?k2 ?a3 ?l3 ?c3 ?k3 ?a4 ?l4 ?c4 ?k4 ?a5 ?l5 ?c5 ?k5 ?a6 ?l6 ?c6 ?k6 ?a7 ?l7 ?c7 ?k7 ?a8 ?l8 ?c8 ?k8 ?a9 ?l9 ?c9 ?k9 ?a10 ?l10 ?c10 ?k10 ?a11 ?l11 ?c11 ?k11 ?a12 ?l12 ?c12 ?k12 ?a13 ?l13 ?c13 ?k13 ?a14 ?l14 ?c14 ?k14 ?a15 ?l15 ?c15 ?k15 ?a16 ?l16 ?c16 ?k16 ?a17 ?l17 ?c17 ?k17 ?X1 ?X2 ?z1 ?z2 ?z3 ?z4 ?z5 ?z6 ?z7 ?z8 ?z9 ?z10 ?z11 ?z12 ?z13 ?z14 ?z15
  (case a1=>k_is);(case l1=>k_is);(case c1=>k_is);(case k1=>k_is)
  (case a2=>k_is);(case l2=>k_is);(case c2=>k_is);(case k2=>k_is)
  (case a3=>k_is);(case l3=>k_is);(case c3=>k_is);(case k3=>k_is)
  (case a4=>k_is);(case l4=>k_is);(case c4=>k_is);(case k4=>k_is)
  (case a5=>k_is);(case l5=>k_is);(case c5=>k_is);(case k5=>k_is)
  (case a6=>k_is);(case l6=>k_is);(case c6=>k_is);(case k6=>k_is)
  (case a7=>k_is);(case l7=>k_is);(case c7=>k_is);(case k7=>k_is)
  (case a8=>k_is);(case l8=>k_is);(case c8=>k_is);(case k8=>k_is)
  (case a9=>k_is);(case l9=>k_is);(case c9=>k_is);(case k9=>k_is)
  (case a10=>k_is);(case l10=>k_is);(case c10=>k_is);(case k10=>k_is)
  (case a11=>k_is);(case l11=>k_is);(case c11=>k_is);(case k11=>k_is)
  (case a12=>k_is);(case l12=>k_is);(case c12=>k_is);(case k12=>k_is)
  (case a13=>k_is);(case l13=>k_is);(case c13=>k_is);(case k13=>k_is)
  (case a14=>k_is);(case l14=>k_is);(case c14=>k_is);(case k14=>k_is)
  (case a15=>k_is);(case l15=>k_is);(case c15=>k_is);(case k15=>k_is)
  (case a16=>k_is);(case l16=>k_is);(case c16=>k_is);(case k16=>k_is)
  (case a17=>k_is);(case l17=>k_is);(case c17=>k_is);(case k17=>k_is)
  (case X1=>k_is);(case X2=>k_is);(case z1=>k_is);(case z2=>k_is)
  (case z3=>k_is);(case z4=>k_is);(case z5=>k_is);(case z6=>k_is)
  (case z7=>k_is);(case z8=>k_is);(case z9=>k_is);(case z10=>k_is)
  (case z11=>k_is);(case z12=>k_is);(case z13=>k_is);(case z14=>k_is)
  (case z15=>k_is)
