import PyProof.Rows.All
import Wide.All
import OpenK.AllK
import Wide.FinOn
import Lean
import PyProof.EqAt
import PyProof.EqKinds
import PyProof.TupleCall
import PySem.SetOps
import PyProof.SetScanFacts
import PyProof.Rows.SetFrom
import PyProof.SetRoads
import PyProof.WalksMore
import PyProof.EnumMake
import PyProof.EnumFor
import PyProof.P3In
import PyProof.Rows.Range3
import PyProof.ZipIter
import PyProof.TupleKey
import PyProof.DictKinds
import PyProof.Rows.SumAny
import PyProof.Rows.SortRev
import PyProof.Rows.SeqMore
import PyProof.ReprRoads
import PyProof.ReprText
import PyProof.ReprBulk
import PyProof.Rows.AssignMoreSeq
import PySem.Challenge.RW_manyleaves_k36_whole_lean_sets
set_option Elab.async false
set_option linter.all false
set_option maxRecDepth 100000
set_option maxHeartbeats 8000000
set_option compiler.extract_closed false
section
namespace L2
open PySem PySem.Spec PyProof.Rows
abbrev Key:=Sum Int Str
def keyIs:Key→Value→Bool
 | .inl k,v=>Value.isInt k v
 | .inr x,v=>Value.isStrOf x v
def keyH (w:World):Key→Int
 | .inl k=>hashInt k
 | .inr x=>hashStr w x
theorem keyIs_shape:∀ {k:Key} {v:Value},keyIs k v=true→(∃ i t,k=Sum.inl i∧v=Value.int i t)∨(∃ x t,k=Sum.inr x∧v=Value.str x t)
 | .inl i,v,h=>by
  obtain⟨t,e⟩:=Value.isInt_shape (k:=i) (v:=v) h;exact .inl ⟨i,t,rfl,e⟩
 | .inr x,v,h=>by
  obtain⟨t,e⟩:=Value.isStrOf_shape (x:=x) (v:=v) h;exact .inr ⟨x,t,rfl,e⟩
theorem keyIs_int (i:Int)(t:Tok):keyIs (.inl i) (.int i t)=true:=by simp[keyIs,Value.isInt]
theorem keyIs_str (x:Str)(t:Tok):keyIs (.inr x) (.str x t)=true:=by simp[keyIs,Value.isStrOf]
theorem key_ll (a b:Int):decide ((Sum.inl a:Key)=Sum.inl b)=(a == b):=by
 by_cases e:a=b
 ·subst e;simp
 ·have h:¬ (Sum.inl a:Key)=Sum.inl b:=fun q=>e (Sum.inl.inj q)
  rw[decide_eq_false h];exact (beq_eq_false_iff_ne.mpr e).symm
theorem key_rr (a b:Str):decide ((Sum.inr a:Key)=Sum.inr b)=decide (a=b):=by
 by_cases e:a=b
 ·subst e;simp
 ·have h:¬ (Sum.inr a:Key)=Sum.inr b:=fun q=>e (Sum.inr.inj q)
  rw[decide_eq_false h,decide_eq_false e]
theorem key_lr (a:Int)(b:Str):decide ((Sum.inl a:Key)=Sum.inr b)=false:=decide_eq_false (fun q=>nomatch q)
theorem key_rl (a:Str)(b:Int):decide ((Sum.inr a:Key)=Sum.inl b)=false:=decide_eq_false (fun q=>nomatch q)
def mixKind (prog:Program)(w:World):PySem.KeyKind prog w Key where
 is:=keyIs
 hash:=keyH w
 inj:=fun v a b ha hb=>by
  rcases keyIs_shape ha with ⟨i,t,rfl,rfl⟩ | ⟨x,t,rfl,rfl⟩
  ·rcases keyIs_shape hb with ⟨j,u,rfl,e⟩ | ⟨y,u,rfl,e⟩
   ·injection e with e1 _;rw[e1]
   ·exact nomatch e
  ·rcases keyIs_shape hb with ⟨j,u,rfl,e⟩ | ⟨y,u,rfl,e⟩
   ·exact nomatch e
   ·injection e with e1 _;rw[e1]
 byValue:=fun k v h=>by
  rcases keyIs_shape h with ⟨i,t,rfl,rfl⟩ | ⟨x,t,rfl,rfl⟩<;>rfl
 pyHash:=fun hv h=>by
  rcases keyIs_shape hv with ⟨i,t,rfl,rfl⟩ | ⟨x,t,rfl,rfl⟩
  ·exact wpAny_pyHash_int h
  ·exact wpAny_pyHash_str h
 eqBool:=fun hu hv h=>by
  rcases keyIs_shape hu with ⟨i,t,rfl,rfl⟩ | ⟨x,t,rfl,rfl⟩
  ·rcases keyIs_shape hv with ⟨j,u,rfl,rfl⟩ | ⟨y,u,rfl,rfl⟩
   ·rw[key_ll] at h;exact wpAny_eqBool_int h
   ·rw[key_lr] at h;exact SeqAt.EqAt.int_str i t y u _ _ _ _ h
  ·rcases keyIs_shape hv with ⟨j,u,rfl,rfl⟩ | ⟨y,u,rfl,rfl⟩
   ·rw[key_rl] at h;exact SeqAt.EqAt.str_int x t j u _ _ _ _ h
   ·rw[key_rr] at h;exact wpAny_eqBool_str h
 «strs»:=fun k x t v h=>by
  rcases keyIs_shape h with ⟨i,u,rfl,e⟩ | ⟨y,u,rfl,e⟩
  ·exact nomatch e
  ·injection e with e1 _
   subst e1;cases v<;>rfl
theorem mixKind_int (prog:Program)(w:World)(i:Int)(t:Tok):(mixKind prog w).is (.inl i) (.int i t)=true:=keyIs_int i t
theorem mixKind_str (prog:Program)(w:World)(x:Str)(t:Tok):(mixKind prog w).is (.inr x) (.str x t)=true:=keyIs_str x t
end L2
namespace L2
open PySem PySem.Spec PyProof.Rows
inductive V where
 | non | bl (b:Bool) | int (i:Int) | str (x:Str) | byt (b:Array UInt8) | flt (b:UInt64) | ref (a:Addr) | ty (n:String)
 deriving DecidableEq
def RelV:V→Value→Prop
 | .non,u=>u=Value.none
 | .bl b,u=>u=Value.bool b
 | .int i,u=>∃ t,u=Value.int i t
 | .str x,u=>∃ t,u=Value.str x t
 | .byt b,u=>∃ t,u=Value.bytes b t
 | .flt b,u=>∃ t,u=Value.float b t
 | .ref a,u=>u=Value.ref a
 | .ty n,u=>u=Value.type n
abbrev Vals:List V→List Value→Prop:=Paired RelV
theorem Vals.length {xs:List V}{us:List Value}(r:Vals xs us):xs.length=us.length:=Paired.length r
theorem Vals.get:∀ {xs:List V} {us:List Value} {i:Nat} {x:V},Vals xs us→xs[i]?=some x→∃ u,us[i]?=some u∧RelV x u
 | _,_,_,_,.nil,e=>by simp at e
 | _,_,0,_,.cons r _,e=>by simp at e;subst e;exact⟨_,rfl,r⟩
 | _,_,i+1,x,.cons _ t,e=>by
  obtain⟨u,h1,h2⟩:=Vals.get (i:=i) (x:=x) t (by simpa using e);exact⟨u,by simpa using h1,h2⟩
theorem Vals.set {x:V}{u:Value}(r:RelV x u):∀ {xs:List V} {us:List Value} (i:Nat),Vals xs us→Vals (xs.set i x) (us.set i u)
 | _,_,_,.nil=>.nil
 | _,_,0,.cons _ t=>.cons r t
 | _,_,i+1,.cons q t=>.cons q (Vals.set r i t)
theorem Vals.append:∀ {xs ys:List V} {us ws:List Value},Vals xs us→Vals ys ws→Vals (xs++ys) (us++ws)
 | _,_,_,_,.nil,s=>s
 | _,_,_,_,.cons r t,s=>.cons r (Vals.append t s)
theorem Vals.take:∀ {xs:List V} {us:List Value} (n:Nat),Vals xs us→Vals (xs.take n) (us.take n)
 | _,_,0,_=>.nil
 | _,_,_+1,.nil=>.nil
 | _,_,n+1,.cons r t=>.cons r (Vals.take n t)
theorem Vals.drop:∀ {xs:List V} {us:List Value} (n:Nat),Vals xs us→Vals (xs.drop n) (us.drop n)
 | _,_,0,r=>r
 | _,_,_+1,.nil=>.nil
 | _,_,n+1,.cons _ t=>Vals.drop n t
def RelO:Option V→Option Value→Prop
 | some v,some u=>RelV v u
 | none,none=>True
 | _,_=>False
def KV {κ:Type}:List (κ×V)→List (κ×Value)→Prop:=Paired fun (p:κ×V) (q:κ×Value)=>p.1=q.1∧RelV p.2 q.2
def kV:Key→V
 | .inl i=>.int i
 | .inr x=>.str x
inductive HO where
 /-- a list -/
 | lst (xs:List V)
 /-- a tuple (never changes) -/
 | tup (xs:List V)
 /-- a dict whose keys are ints and texts;one whose keys are tuples of ints and texts (the empty one is both) -/
 | dK (kvs:List (Key×V)) | dT (kvs:List (List Key×V))
 /-- a set of ints: its members,its size -/
 | set (S:Int→Bool) (n:Nat)
 /-- an instance of the class at C,its dict at dx,its attributes -/
 | ins (C dx:Addr) (fs:List (Str×V))
 /-- the dict of the instance at x -/
 | own (x:Addr)
 /-- the dict of an exception -/
 | xd (fs:List (Str×V))
 /-- a bound method,f of x -/
 | met (f x:Addr)
 /-- a range object lo,lo+1,.. below hi -/
 | rng (lo hi:Int)
 /-- a thing that is known to the object (the script;a dict while a loop walks it): read,never written while it is so -/
 | frz (o:Obj) (u:HO)
 /-- a code object's table -/
 | tbl (ps:Array Value)
 /-- any other thing,by what is true of its one object (a def of one's own: SetO a S n:=HO.ext fun h=>..) -/
 | ext (φ:Heap→Prop)
abbrev Hp:=Addr→Option HO
def upd (H:Hp)(a:Addr)(o:HO):Hp:=fun b=>if b=a then some o else H b
theorem upd_same {H:Hp}{a:Addr}{o:HO}:upd H a o a=some o:=by unfold upd;rw[if_pos rfl]
theorem upd_ne {H:Hp}{a b:Addr}{o:HO}(h:b≠a):upd H a o b=H b:=by unfold upd;rw[if_neg h]
theorem upd_upd {H:Hp}{a:Addr}{o u:HO}:upd (upd H a o) a u=upd H a u:=by
 funext b;unfold upd;split<;>rfl
theorem ne_of {H:Hp}{a b:Addr}{o u:HO}(h:H a=some o)(h':H b=some u)(d:o≠u):a≠b:=by
 intro e;subst e;rw[h] at h';exact d (Option.some.inj h')
theorem ne_of_none {H:Hp}{a b:Addr}{o:HO}(h:H a=some o)(h':H b=none):a≠b:=by
 intro e;subst e;rw[h] at h';cases h'
section
variable (P:Program)(w:World)
def ObjOk (H:Hp)(h:Heap)(a:Addr):HO→Prop
 | .lst xs=>xs.length≤sizeLine∧∃ (its:List Value) (n:Nat),Vals xs its∧h.get? a=some {cls:=.type "list",data:=.seq its.toArray n}
 | .tup xs=>xs.length≤sizeLine∧∃ its:List Value,Vals xs its∧IsTup h a its.toArray
 | .dK kvs=>kvs.length≤sizeLine∧(a == sysModules)=false∧∃ vs,KV kvs vs∧h.DictOf (mixKind P w) a vs
 | .dT kvs=>kvs.length≤sizeLine∧(a == sysModules)=false∧∃ xs:List (List Key×Addr×Value),
   Paired (fun (p:List Key×V) (q:List Key×Addr×Value)=>p.1=q.1∧H q.2.1=some (.tup (p.1.map kV))∧RelV p.2 q.2.2) kvs xs ∧
   ∃ o es ep,h.get? a=some o∧o.ExactDict∧o.data=.dict es ep∧es.toList=xs.map (entryOfKey (tupleKind (mixKind P w)))∧(xs.map (·.1)).Nodup
 | .set S n=>h.SetOf (intKind P w) a S n
 | .ins C dx fs=>H dx=some (.own a)∧fs.length≤1000∧dx≠a∧h.get? a=some (PySem.W.instObj C dx) ∧
   ∃ mA,h.Ns1 dx mA∧(∀ f,RelO (fs.lookup f) (mA f))∧PySem.Within mA (fs.map (·.1))
 | .own _=>∃ o,h.get? a=some o
 | .xd fs=>∃ mA,h.Ns1 a mA∧∀ f,RelO (fs.lookup f) (mA f)
 | .rng lo hi=>∃ t u v,h.get? a=some {cls:=.type "range",data:=.fields #[.int lo t,.int hi u,.int 1 v]}
 | .frz o u=>h.get? a=some o∧ObjOk H h a u
 | .tbl ps=>h.get? a=some {cls:=.none,data:=.fields ps}
 | .met f x=>h.get? a=some (PySem.W.methodObj (.ref f) (.ref x))
 | .ext φ=>φ h∧(∃ o,h.get? a=some o)∧∀ h1 h2:Heap,φ h1→(∀ o,h1.get? a=some o→h2.get? a=some o)→φ h2
def HOk (H:Hp)(h:Heap):Prop:=∀ a o,H a=some o→ObjOk P w H h a o
end
section
variable {P:Program}{w:World}{H H':Hp}{h h':Heap}{a:Addr}{o:HO}
theorem ObjOk.lt (x:ObjOk P w H h a o):a<h.objs.size:=by
 cases o with
 | lst xs=>obtain⟨_,_,_,_,e⟩:=x;exact Heap.lt_size e
 | tup xs=>obtain⟨_,_,_,p⟩:=x;exact p.lt
 | dK kvs=>obtain⟨_,_,_,_,o,_,_,e,_⟩:=x;exact Heap.lt_size e
 | dT kvs=>obtain⟨_,_,_,_,o,_,_,e,_⟩:=x;exact Heap.lt_size e
 | set S n=>obtain⟨o,_,_,_,e,_⟩:=x;exact Heap.lt_size e
 | ins C dx fs=>obtain⟨_,_,_,e,_⟩:=x;exact Heap.lt_size e
 | own y=>obtain⟨_,e⟩:=x;exact Heap.lt_size e
 | xd fs=>obtain⟨_,⟨_,_,_,e,_⟩,_⟩:=x;exact Heap.lt_size e
 | rng lo hi=>obtain⟨_,_,_,e⟩:=x;exact Heap.lt_size e
 | frz ob u=>obtain⟨e,_⟩:=x;exact Heap.lt_size e
 | tbl ps=>exact Heap.lt_size (show h.get? a=some _ from x)
 | met f y=>exact Heap.lt_size (show h.get? a=some _ from x)
 | ext φ=>obtain⟨_,⟨_,e⟩,_⟩:=x;exact Heap.lt_size e
theorem Paired.mapP {α β:Type}{F G:α→β→Prop}:∀ {l₁:List α} {l₂:List β},Paired F l₁ l₂→(∀ a b,F a b→G a b)→Paired G l₁ l₂
 | _,_,.nil,_=>.nil
 | _,_,.cons r t,f=>.cons (f _ _ r) (Paired.mapP t f)
theorem ObjOk.stay (x:ObjOk P w H h a o)(k:∀ b u,(b=a∨H b=some (.own a))→h.get? b=some u→h'.get? b=some u)
  (ho:∀ b,H b=some (.own a)→H' b=some (.own a)) (ht:∀ b xs,H b=some (.tup xs)→H' b=some (.tup xs)):ObjOk P w H' h' a o:=by
 induction o with
 | lst xs=>obtain⟨z,its,n,r,e⟩:=x;exact⟨z,its,n,r,k _ _ (.inl rfl) e⟩
 | tup xs=>obtain⟨z,its,r,ob,e,c⟩:=x;exact⟨z,its,r,ob,k _ _ (.inl rfl) e,c⟩
 | dK kvs=>obtain⟨z,y,vs,r,ob,es,ep,e,c⟩:=x;exact⟨z,y,vs,r,ob,es,ep,k _ _ (.inl rfl) e,c⟩
 | dT kvs =>
  obtain⟨z,y,xs,r,ob,es,ep,e,c⟩:=x;exact⟨z,y,xs,Paired.mapP r fun p q z=>⟨z.1,ht _ _ z.2.1,z.2.2⟩,ob,es,ep,k _ _ (.inl rfl) e,c⟩
 | set S n=>obtain⟨ob,es,ep,t,e,c⟩:=x;exact⟨ob,es,ep,t,k _ _ (.inl rfl) e,c⟩
 | ins C dx fs =>
  obtain⟨d,z,ne,e,mA,⟨od,es,ep,e2,c⟩,r⟩:=x;exact⟨ho _ d,z,ne,k _ _ (.inl rfl) e,mA,⟨od,es,ep,k _ _ (.inr d) e2,c⟩,r⟩
 | own y=>obtain⟨ob,e⟩:=x;exact⟨ob,k _ _ (.inl rfl) e⟩
 | xd fs=>obtain⟨mA,⟨od,es,ep,e,c⟩,r⟩:=x;exact⟨mA,⟨od,es,ep,k _ _ (.inl rfl) e,c⟩,r⟩
 | rng lo hi=>obtain⟨t,u,v,e⟩:=x;exact⟨t,u,v,k _ _ (.inl rfl) e⟩
 | frz ob u ih=>obtain⟨e,q⟩:=x;exact⟨k _ _ (.inl rfl) e,ih q⟩
 | tbl ps =>
  have e:h.get? a=some {cls:=.none,data:=.fields ps}:=x;show h'.get? a=some {cls:=.none,data:=.fields ps};exact k a _ (.inl rfl) e
 | met f y =>
  have e:h.get? a=some (PySem.W.methodObj (.ref f) (.ref y)):=x;show h'.get? a=some (PySem.W.methodObj (.ref f) (.ref y));exact k a _ (.inl rfl) e
 | ext φ=>obtain⟨p,⟨o,e⟩,st⟩:=x;exact⟨st _ _ p fun o q=>k _ _ (.inl rfl) q,⟨o,k _ _ (.inl rfl) e⟩,st⟩
theorem HOk.lt (x:HOk P w H h)(e:H a=some o):a<h.objs.size:=(x a o e).lt
theorem HOk.fresh (x:HOk P w H h)(e:h.objs.size≤a):H a=none:=by
 cases q:H a with
 | none=>rfl
 | some u=>exact absurd (Nat.lt_of_lt_of_le (x.lt q) e) (Nat.lt_irrefl _)
theorem HOk.kept (x:HOk P w H h)(k:∀ b u,h.get? b=some u→h'.get? b=some u):HOk P w H h':=fun a o e =>
 (x a o e).stay (fun b u _ q=>k b u q) (fun _ q=>q) fun _ _ q=>q
theorem HOk.laid (x:HOk P w H h)(k:∀ b u,h.get? b=some u→h'.get? b=some u)(hp:h.objs.size≤a)(new:ObjOk P w (upd H a o) h' a o):HOk P w (upd H a o) h':=fun b u e=>by
 have hn:=x.fresh hp;by_cases hb:b=a
 ·subst hb;rw[upd_same] at e;cases e;exact new
 ·rw[upd_ne hb] at e;exact (x b u e).stay (fun c v _ q=>k c v q) (fun c q=>by rw[upd_ne (ne_of_none q hn)];exact q) fun c xs q=>by rw[upd_ne (ne_of_none q hn)];exact q
end
def Rd (H:Hp)(a:Addr)(u:HO):Prop:=H a=some u∨∃ o,H a=some (.frz o u)
theorem Rd.of {H:Hp}{a:Addr}{u:HO}(h:H a=some u):Rd H a u:=.inl h
theorem Rd.ok {P:Program}{w:World}{H:Hp}{h:Heap}{a:Addr}{u:HO}(r:Rd H a u)(x:HOk P w H h):ObjOk P w H h a u:=by
 rcases r with r | ⟨o,r⟩
 ·exact x a u r
 ·obtain⟨_,q⟩:=x a _ r;exact q
def Mut:Option HO→Prop
 | some (.lst _)=>True
 | some (.dK _)=>True
 | some (.dT _)=>True
 | some (.set _ _)=>True
 | some (.ins _ _ _)=>True
 | some (.ext _)=>True
 | _=>False
section
variable {P:Program}{w:World}{H:Hp}{h h':Heap}{x e:Addr}{o':HO}
theorem HOk.write (ok:HOk P w H h)(mu:Mut (H x))(he:e=x∨H e=some (.own x))(k:∀ b u,b≠e→h.get? b=some u→h'.get? b=some u)(heo:∃ u,h'.get? e=some u)
  (new:ObjOk P w (upd H x o') h' x o'):HOk P w (upd H x o') h':=fun b u q=>by
 have nown:∀ c y,H c=some (.own y)→c≠x:=fun c y r z=>by subst z;rw[r] at mu;exact mu
 have ntup:∀ c xs,H c=some (.tup xs)→c≠x:=fun c xs r z=>by subst z;rw[r] at mu;exact mu
 by_cases hb:b=x
 ·subst hb;rw[upd_same] at q;cases q;exact new
 ·rw[upd_ne hb] at q;by_cases hbe:b=e
  ·have q':H b=some (.own x):=by
    rcases he with z | z
    ·exact absurd (hbe.trans z) hb
    ·rw[hbe];exact z
   rw[q] at q';cases q';obtain⟨v,hv⟩:=heo;exact⟨v,by rw[hbe];exact hv⟩
  ·refine (ok b u q).stay (fun c v hc r=>k c v ?_ r) (fun c r=>by rw[upd_ne (nown c b r)];exact r) fun c xs r=>by rw[upd_ne (ntup c xs r)];exact r
   rcases hc with rfl | hc
   ·exact hbe
   ·rintro rfl;rcases he with z | z
    ·exact nown c b hc z
    ·rw[hc] at z;cases z;exact hb rfl
end
structure Un (fs ex:List Addr)(H H':Hp)(h h':Heap):Prop where
 keep:∀ b o,h.get? b=some o→H b=none→b∉fs→b∉ex→h'.get? b=some o
 slot:∀ b o,h.get? b=some o→H b=none→b∈fs→b∉ex→∃ sl,h'.get? b=some {o with slots:=sl}
 free:∀ b o,h.get? b=some o→H b=none→b∉ex→H' b=none
 there:∀ b o,h.get? b=some o→b∉ex→∃ o',h'.get? b=some o'
 tups:∀ b xs,H b=some (.tup xs)→H' b=some (.tup xs)
 frzs:∀ b o u,H b=some (.frz o u)→H' b=some (.frz o u)
 tbls:∀ b ps,H b=some (.tbl ps)→∃ more,H' b=some (.tbl (ps++more))
section
variable {fs fs' ex ex':List Addr}{H H1 H2:Hp}{h h1 h2 h':Heap}{a x e:Addr}{o:HO}
theorem Un.any (u:Un fs ex H H1 h h1){b:Addr}{ob:Obj}(q:h.get? b=some ob)(n:H b=none)(hx:b∉ex):∃ sl,h1.get? b=some {ob with slots:=sl}:=by
 by_cases hb:b∈fs
 ·exact u.slot b ob q n hb hx
 ·exact⟨ob.slots,u.keep b ob q n hb hx⟩
theorem Un.trans (a:Un fs ex H H1 h h1)(b:Un fs ex H1 H2 h1 h2):Un fs ex H H2 h h2 where
 keep:=fun c ob q n hc hx=>b.keep c ob (a.keep c ob q n hc hx) (a.free c ob q n hx) hc hx
 slot:=fun c ob q n hc hx=>by
  obtain⟨sl,e1⟩:=a.slot c ob q n hc hx;obtain⟨sl',e2⟩:=b.slot c _ e1 (a.free c ob q n hx) hc hx;exact⟨sl',e2⟩
 free:=fun c ob q n hx=>by
  obtain⟨o',e1⟩:=a.there c ob q hx;exact b.free c o' e1 (a.free c ob q n hx) hx
 there:=fun c ob q hx=>by
  obtain⟨o',e1⟩:=a.there c ob q hx;exact b.there c o' e1 hx
 tups:=fun c xs q=>b.tups c xs (a.tups c xs q)
 frzs:=fun c ob xs q=>b.frzs c ob xs (a.frzs c ob xs q)
 tbls:=fun c ps q=>by
  obtain⟨m1,e1⟩:=a.tbls c ps q;obtain⟨m2,e2⟩:=b.tbls c _ e1;exact⟨m1++m2,by rw[e2,Array.append_assoc]⟩
theorem Un.kept (k:∀ b u,h.get? b=some u→h'.get? b=some u):Un fs ex H H h h' :=
 ⟨fun b ob q _ _ _=>k b ob q,fun b ob q _ _ _=>⟨ob.slots,k b ob q⟩,fun _ _ _ n _=>n,fun b ob q _=>⟨ob,k b ob q⟩,fun _ _ q=>q,fun _ _ _ q=>q,fun _ ps q=>⟨#[],by rw[q];simp⟩⟩
theorem Un.refl:Un fs ex H H h h:=Un.kept fun _ _ q=>q
theorem Un.laid (k:∀ b u,h.get? b=some u→h'.get? b=some u)(hp:h.objs.size≤a)(hn:H a=none):Un fs ex H (upd H a o) h h' where
 keep:=fun b u q _ _ _=>k b u q
 slot:=fun b u q _ _ _=>⟨u.slots,k b u q⟩
 free:=fun b u q n _=>by rw[upd_ne (Nat.ne_of_lt (Nat.lt_of_lt_of_le (Heap.lt_size q) hp))];exact n
 there:=fun b u q _=>⟨u,k b u q⟩
 tups:=fun b xs q=>by rw[upd_ne (ne_of_none q hn)];exact q
 frzs:=fun b u xs q=>by rw[upd_ne (ne_of_none q hn)];exact q
 tbls:=fun b ps q=>⟨#[],by rw[upd_ne (ne_of_none q hn),q];simp⟩
theorem Un.write (mu:Mut (H x))(he:e=x∨H e=some (.own x))(k:∀ b u,b≠e→h.get? b=some u→h'.get? b=some u)(heo:∃ u,h'.get? e=some u):Un fs ex H (upd H x o) h h':=by
 have hx:∀ b,H b=none→b≠x:=fun b n z=>by subst z;rw[n] at mu;exact mu
 have hb:∀ b,H b=none→b≠e:=fun b n z=>by
  subst z;rcases he with r | r
  ·exact hx b n r
  ·rw[n] at r;cases r
 have hm:∀ b u,H b=some u→¬ Mut (some u)→b≠x:=fun b u q nm z=>by subst z;rw[q] at mu;exact nm mu
 refine⟨fun b u q n _ _=>k b u (hb b n) q,fun b u q n _ _=>⟨u.slots,k b u (hb b n) q⟩,fun b u q n _=>by rw[upd_ne (hx b n)];exact n,fun b u q _=>?_,
  fun b xs q=>by rw[upd_ne (hm b _ q fun z=>z)];exact q,fun b u xs q=>by rw[upd_ne (hm b _ q fun z=>z)];exact q,fun b ps q=>⟨#[],by rw[upd_ne (hm b _ q fun z=>z),q];simp⟩⟩
 by_cases hbe:b=e
 ·subst hbe;exact heo
 ·exact⟨u,k b u hbe q⟩
theorem Un.mono (u:Un fs ex H H1 h h1)(hs:∀ b∈fs,b∈fs')(hx:∀ b∈ex,b∈ex'):Un fs' ex' H H1 h h1 :=
 ⟨fun b ob q n hb he=>u.keep b ob q n (fun z=>hb (hs b z)) fun z=>he (hx b z),fun _ _ q n _ he=>u.any q n fun z=>he (hx _ z),fun b ob q n he=>u.free b ob q n fun z=>he (hx b z),fun b ob q he=>u.there b ob q fun z=>he (hx b z),u.tups,u.frzs,u.tbls⟩
end
def trk (h:Heap)(H:Hp):List Addr:=(List.range h.objs.size).filter fun a=>(H a).isSome
def hidT (h:Heap)(H:Hp):Heap:=PySem.W.hideAll h (trk h H)
theorem hidT_size (h:Heap)(H:Hp):(hidT h H).objs.size=h.objs.size:=PySem.W.hideAll_size _ _
theorem hidT_get {h:Heap}{H:Hp}{b:Addr}{o:Obj}(e:h.get? b=some o)(n:H b=none):(hidT h H).get? b=some o :=
 PySem.W.hideAll_get _ e fun hm=>by
  have q:(H b).isSome=true:=(List.mem_filter.mp hm).2;rw[n] at q;simp at q
theorem of_hidT {h:Heap}{H:Hp}{b:Addr}{o:Obj}(e:(hidT h H).get? b=some o):h.get? b=some o∧H b=none:=by
 have e':h.get? b=some o:=PySem.W.of_hideAll (trk h H) e;refine⟨e',?_⟩;cases q:H b with
 | none=>rfl
 | some x =>
  have hm:b∈trk h H:=List.mem_filter.mpr ⟨List.mem_range.mpr (Heap.lt_size e'),by simp[q]⟩;have z:(hidT h H).get? b=none:=PySem.W.hideAll_none (trk h H) hm;rw[z] at e;cases e
def allNews (g h:Heap)(L:Addr):List (Addr×Obj):=(List.range h.objs.size).filterMap fun a=>if a=L∨(g.get? a).isSome=true then none else (h.get? a).map fun o=>(a,o)
def rest (g h:Heap)(L d:Addr):List (Addr×Obj):=(allNews g h L).filter fun p=>decide (p.1≠d)
end L2
namespace L2
open PySem PySem.Spec PyProof.Rows
structure Mod (K:PySem.W.Frag)(mg:Str→Option Value)(base:Heap):Prop where
 kin:K.In base
 glob:base.Ns mainGlobals mg
 blt:∃ mb,base.Ns builtinsNs mb∧∀ x:Str,x≠"__name__"→mb x=bootBuiltins x
 nolimit:base.NoLimit
structure Cx where
 prog:Program
 w:World
 K:PySem.W.Frag
 mg:Str→Option Value
 base:Heap
 A:Around
 N:List Str
 s₀:Shared
 H₀:Hp
 env:Env
 outer:List Env
 stack:List Env
 ex:List Addr
 fn:Str→Bool
 calm:Bool
 pn:List (Addr×Obj)
 xe:Value→Shared→Prop
def frs (l:List Env):List Addr:=l.filterMap (·.frame)
abbrev Cx.fs (X:Cx):List Addr:=frs X.outer
def Vis (sc:Scope)(x:Str):Prop:=sc.names.lookup x=some .local∨sc.names.lookup x=some .cell∨sc.names.lookup x=some .free
def Loc (sc:Scope)(x:Str):Prop:=sc.names.lookup x=some .local∨sc.names.lookup x=some .cell
def Look (env:Env)(h:Heap)(m:Str→Option Value)(x:Str)(u:Value):Prop :=
 (env.kindOf x=some .local∧m x=some u)∨((env.kindOf x=some .cell∨env.kindOf x=some .free)∧∃ c,env.cells.lookup x=some c∧h.IsCell c (some u))
structure Cx.Ok (X:Cx):Prop where
 mod:Mod X.K X.mg X.base
 kind:X.env.scope.kind=.function
 glob:X.env.globals=mainGlobals
 blt:X.env.builtins=builtinsNs
 above:X.s₀.heap.objs.size≤X.env.locals
 inj:∀ x y c,X.env.cells.lookup x=some c→X.env.cells.lookup y=some c→x=y
 has:∀ x,(X.env.kindOf x=some .cell∨X.env.kindOf x=some .free)→∃ c,X.env.cells.lookup x=some c
 cab:∀ x c,X.fn x=true→X.env.cells.lookup x=some c→X.s₀.heap.objs.size≤c
 hd:X.calm=true→X.A.handled=none
 frames:X.A.frames=some X.stack
 stk:X.stack=X.outer∨(X.stack=X.env::X.outer∧X.env.frame=some X.env.locals)
 exf:∀ b∈X.ex,b≠X.env.locals∧∀ x c,X.env.cells.lookup x=some c→c≠b
 bs:∀ b o,X.base.get? b=some o→X.s₀.heap.get? b=some o∧X.H₀ b=none
 bsz:X.base.objs.size≤X.s₀.heap.objs.size
 noex:∀ b o,X.base.get? b=some o→b∉X.ex
 exfs:∀ b∈X.ex,b∉X.fs
 funs:X.s₀.heap.FunFrames X.base X.outer
 frf:∀ b∈X.fs,X.H₀ b=none
structure Inv (X:Cx)(pins:List (Addr×Obj))(σ:List (Option V))(H:Hp)(s:Shared):Prop where
 ok:X.Ok
 os:s.os=X.s₀.os
 bare:AllBare s.gens
 base:Un X.fs X.ex X.H₀ H X.s₀.heap s.heap
 loc:∃ m,s.heap.Ns X.env.locals m∧∀ (i:Nat) (x:Str) (v:V),X.N[i]?=some x→σ[i]?=some (some v)→Vis X.env.scope x→∃ u,RelV v u∧Look X.env s.heap m x u
 cell:∀ x c,X.env.cells.lookup x=some c→∃ v,s.heap.IsCell c v
 free:H X.env.locals=none
 freeC:∀ x c,X.env.cells.lookup x=some c→H c=none
 pin:∀ p∈X.pn++pins,s.heap.get? p.1=some p.2∧H p.1=none∧p.1≠X.env.locals∧p.1∉X.fs∧∀ v,p.2.data≠.cell v
 hok:HOk X.prog X.w H s.heap
 len:σ.length=X.N.length
section
variable {X:Cx}{pins:List (Addr×Obj)}{σ:List (Option V)}{H H':Hp}{s:Shared}{h':Heap}
theorem Cx.Ok.nofr (ok:X.Ok){b:Addr}{o:Obj}(e:X.base.get? b=some o):b∉X.fs:=fun hb=>by
 have:=(ok.funs.mem hb).1;rw[e] at this;cases this
theorem Inv.bs (I:Inv X pins σ H s):∀ b o,X.base.get? b=some o→s.heap.get? b=some o∧H b=none:=fun b o e =>
 ⟨I.base.keep b o (I.ok.bs b o e).1 (I.ok.bs b o e).2 (I.ok.nofr e) (I.ok.noex b o e),I.base.free b o (I.ok.bs b o e).1 (I.ok.bs b o e).2 (I.ok.noex b o e)⟩
theorem Inv.bk (I:Inv X pins σ H s):∀ b o,X.base.get? b=some o→s.heap.get? b=some o:=fun b o e=>(I.bs b o e).1
theorem Inv.mod (I:Inv X pins σ H s):Mod X.K X.mg X.base:=I.ok.mod
theorem Inv.kIn (I:Inv X pins σ H s):X.K.In s.heap:=I.ok.mod.kin.keeps I.bk
theorem Inv.nolimit (I:Inv X pins σ H s):s.heap.NoLimit:=I.ok.mod.nolimit.keeps I.bk
theorem Inv.lt (I:Inv X pins σ H s):X.env.locals<s.heap.objs.size:=let ⟨_,hn,_⟩:=I.loc;hn.lt
theorem Inv.sz (I:Inv X pins σ H s):X.s₀.heap.objs.size≤s.heap.objs.size:=Nat.le_trans I.ok.above (Nat.le_of_lt I.lt)
theorem Inv.nofs (I:Inv X pins σ H s){a:Addr}(h:s.heap.objs.size≤a):a∉X.fs:=fun hb=>by
 obtain⟨_,o,ho,_⟩:=I.ok.funs.mem hb;exact absurd (Nat.lt_of_lt_of_le (Heap.lt_size ho) (Nat.le_trans I.sz h)) (Nat.lt_irrefl _)
theorem Inv.cne (I:Inv X pins σ H s):∀ x c,X.env.cells.lookup x=some c→c≠X.env.locals:=fun x c e z=>by
 obtain⟨v,o,ho,hd⟩:=I.cell x c e;obtain⟨m,⟨o',es,ep,ho',hd',_⟩,_⟩:=I.loc;rw[z,ho'] at ho;cases ho;rw[hd'] at hd;cases hd
theorem Inv.funs (I:Inv X pins σ H s):s.heap.FunFrames X.base X.outer:=by
 have all:∀ (l:List Env),(∀ b∈frs l,b∈X.fs)→X.s₀.heap.FunFrames X.base l→s.heap.FunFrames X.base l:=by
  intro l;induction l with
  | nil=>intro _ _;trivial
  | cons env r ih =>
   intro hs hl;obtain⟨hk,⟨L,o,hf,hn,ho,hd⟩,hr⟩:=hl;have hL:L∈X.fs:=hs L (by unfold frs;rw[List.filterMap_cons,hf];exact List.mem_cons_self);obtain⟨sl,e⟩:=I.base.slot L o ho (I.ok.frf L hL) hL fun z=>I.ok.exfs L z hL
   exact⟨hk,⟨L,_,hf,hn,e,hd⟩,ih (fun b hb=>hs b (by unfold frs;rw[List.filterMap_cons,hf];exact List.mem_cons_of_mem _ hb)) hr⟩
 exact all X.outer (fun _ hb=>hb) I.ok.funs
theorem Inv.stack (I:Inv X pins σ H s):s.heap.FunFrames X.base X.stack:=by
 rcases I.ok.stk with e | ⟨e,hf⟩
 ·rw[e];exact I.funs
 ·rw[e];obtain⟨m,hn,_⟩:=I.loc;refine .cons (by rw[I.ok.kind];decide) hf hn ?_ I.funs;exact Heap.get?_none_of_le (Nat.le_trans I.ok.bsz I.ok.above)
theorem Inv.stkSub (I:Inv X pins σ H s):∀ b∈frs X.stack,b∈X.env.locals::X.fs:=fun b hb=>by
 rcases I.ok.stk with e | ⟨e,hf⟩
 ·rw[e] at hb;exact List.mem_cons_of_mem _ hb
 ·rw[e] at hb;unfold frs at hb;rw[List.filterMap_cons,hf] at hb;exact hb
theorem Inv.stkFree (I:Inv X pins σ H s):∀ b∈frs X.stack,H b=none:=fun b hb=>by
 rcases List.mem_cons.mp (I.stkSub b hb) with e | hb
 ·rw[e];exact I.free
 ·obtain⟨_,o,ho,_⟩:=I.ok.funs.mem hb;exact I.base.free b o ho (I.ok.frf b hb) fun z=>I.ok.exfs b z hb
theorem Inv.step {g':Array GenState}{t':Nat}{d':Drawn}{ch:List Addr}(I:Inv X pins σ H s)
  (hch:∀ b∈ch,(b∈X.ex∨X.s₀.heap.objs.size≤b)∧b≠X.env.locals∧(∀ x c,X.env.cells.lookup x=some c→c≠b)∧∀ p∈X.pn++pins,p.1≠b)
  (keep:∀ b o,b≠X.env.locals→b∉X.fs→b∉ch→s.heap.get? b=some o→H b=none→h'.get? b=some o)
  (slot:∀ b o,b≠X.env.locals→b∈X.fs→b∉ch→s.heap.get? b=some o→H b=none→∃ sl,h'.get? b=some {o with slots:=sl}) (free:∀ b o,b∉ch→s.heap.get? b=some o→H b=none→H' b=none)
  (there:∀ b o,b∉ch→s.heap.get? b=some o→∃ o',h'.get? b=some o')
  (tups:∀ b xs,H b=some (.tup xs)→H' b=some (.tup xs)) (frzs:∀ b o u,H b=some (.frz o u)→H' b=some (.frz o u)) (tbls:∀ b ps,H b=some (.tbl ps)→∃ more,H' b=some (.tbl (ps++more)))
  (ns:∀ m,s.heap.Ns X.env.locals m→h'.Ns X.env.locals m) (hok:HOk X.prog X.w H' h') (hg:AllBare g') :
  Inv X pins σ H' {s with heap:=h',gens:=g',drawn:=d',toks:=t'}:=by
 have neL:∀ b o,X.s₀.heap.get? b=some o→b≠X.env.locals:=fun b o e=>Nat.ne_of_lt (Nat.lt_of_lt_of_le (Heap.lt_size e) I.ok.above)
 have neC:∀ b o,X.s₀.heap.get? b=some o→b∉X.ex→b∉ch:=fun b o e hx hb=>by
  rcases (hch b hb).1 with z | z
  ·exact hx z
  ·exact absurd (Nat.lt_of_lt_of_le (Heap.lt_size e) z) (Nat.lt_irrefl _)
 have cellK:∀ x c,X.env.cells.lookup x=some c→∀ v,s.heap.IsCell c v→h'.IsCell c v:=fun x c e v ⟨o,ho,hd⟩=>by
  have nch:c∉ch:=fun z=>(hch c z).2.2.1 x c e rfl
  by_cases hc:c∈X.fs
  ·obtain⟨sl,q⟩:=slot c o (I.cne x c e) hc nch ho (I.freeC x c e);exact⟨_,q,hd⟩
  ·exact⟨o,keep c o (I.cne x c e) hc nch ho (I.freeC x c e),hd⟩
 refine⟨I.ok,I.os,hg,⟨fun b o e n hb hx=>?_,fun b o e n hb hx=>?_,fun b o e n hx=>?_,fun b o e hx=>?_,fun b xs e=>tups b xs (I.base.tups b xs e),fun b o xs e=>frzs b o xs (I.base.frzs b o xs e),fun b ps e=>?_⟩,?_,fun x c e=>?_,?_,fun x c e=>?_,fun p hp=>?_,hok,I.len⟩
 ·exact keep b o (neL b o e) hb (neC b o e hx) (I.base.keep b o e n hb hx) (I.base.free b o e n hx)
 ·obtain⟨sl,e1⟩:=I.base.slot b o e n hb hx;obtain⟨sl',e2⟩:=slot b _ (neL b o e) hb (neC b o e hx) e1 (I.base.free b o e n hx);exact⟨sl',e2⟩
 ·obtain⟨o',e1⟩:=I.base.there b o e hx;exact free b o' (neC b o e hx) e1 (I.base.free b o e n hx)
 ·obtain⟨o',e1⟩:=I.base.there b o e hx;exact there b o' (neC b o e hx) e1
 ·obtain⟨m1,e1⟩:=I.base.tbls b ps e;obtain⟨m2,e2⟩:=tbls b _ e1;exact⟨m1++m2,by rw[e2,Array.append_assoc]⟩
 ·obtain⟨m,hn,hl⟩:=I.loc;refine⟨m,ns m hn,fun i x v e1 e2 e3=>?_⟩;obtain⟨u,r,l⟩:=hl i x v e1 e2 e3;refine⟨u,r,?_⟩;rcases l with l | ⟨k,c,e,z⟩
  ·exact .inl l
  ·exact .inr ⟨k,c,e,cellK x c e _ z⟩
 ·obtain⟨v,z⟩:=I.cell x c e;exact⟨v,cellK x c e v z⟩
 ·obtain⟨m,⟨o,_,_,ho,_⟩,_⟩:=I.loc;exact free _ o (fun z=>(hch _ z).2.1 rfl) ho I.free
 ·obtain⟨v,o,ho,hd⟩:=I.cell x c e;exact free c o (fun z=>(hch c z).2.2.1 x c e rfl) ho (I.freeC x c e)
 ·obtain⟨e,n,ne,nf,d⟩:=I.pin p hp;have nch:p.1∉ch:=fun z=>(hch p.1 z).2.2.2 p hp rfl
  exact⟨keep p.1 p.2 ne nf nch e n,free p.1 p.2 nch e n,ne,nf,d⟩
theorem Inv.un {t':Nat}(I:Inv X pins σ H s)(u:Un X.fs [] H H' s.heap h')(hok:HOk X.prog X.w H' h'):Inv X pins σ H' {s with heap:=h',toks:=t'}:=by
 obtain⟨m,⟨o,es,ep,ho,r⟩,_⟩:=id I.loc;obtain⟨sl,hL⟩:=u.any ho I.free (by simp)
 exact I.step (g':=s.gens) (d':=s.drawn) (ch:=[]) (fun _ z=>nomatch z) (fun b o _ hb _ e n=>u.keep b o e n hb (by simp)) (fun b o _ hb _ e n=>u.slot b o e n hb (by simp)) (fun b o _ e n=>u.free b o e n (by simp)) (fun b o _ e=>u.there b o e (by simp)) u.tups u.frzs u.tbls (fun m' hm=>by
  obtain⟨o',es',ep',ho',r'⟩:=hm;rw[ho] at ho';cases ho'
  exact⟨_,es',ep',hL,r'⟩) hok I.bare
theorem Inv.call {g':Array GenState}{t':Nat}{d':Drawn}{ch:List Addr}(I:Inv X pins σ H s)(u:Un (frs X.stack) ch H H' s.heap h')(hok:HOk X.prog X.w H' h')(hg:AllBare g')
  (hch:∀ b∈ch,(b∈X.ex∨X.s₀.heap.objs.size≤b)∧b≠X.env.locals∧(∀ x c,X.env.cells.lookup x=some c→c≠b)∧∀ p∈X.pn++pins,p.1≠b) :
  Inv X pins σ H' {s with heap:=h',gens:=g',drawn:=d',toks:=t'}:=by
 obtain⟨m,⟨o,es,ep,ho,r⟩,_⟩:=id I.loc;obtain⟨sl,hL⟩:=u.any ho I.free fun z=>(hch _ z).2.1 rfl
 exact I.step (ch:=ch) hch (fun b o hL hb hc e n=>u.keep b o e n (fun z=>(List.mem_cons.mp (I.stkSub b z)).elim hL hb) hc) (fun b o _ _ hc e n=>u.any e n hc) (fun b o hc e n=>u.free b o e n hc) (fun b o hc e=>u.there b o e hc) u.tups u.frzs u.tbls (fun m' hm=>by
  obtain⟨o',es',ep',ho',r'⟩:=hm;rw[ho] at ho';cases ho'
  exact⟨_,es',ep',hL,r'⟩) hok hg
theorem Inv.turned {t':Nat}{it:Addr}(I:Inv X pins σ H s)(k:∀ b o,b≠it→s.heap.get? b=some o→h'.get? b=some o)(hn:H it=none)(hL:it≠X.env.locals)
  (h1:it∈X.ex∨X.s₀.heap.objs.size≤it) (h2:∀ x c,X.env.cells.lookup x=some c→c≠it) (h3:∀ p∈X.pn++pins,p.1≠it):Inv X pins σ H {s with heap:=h',toks:=t'}:=by
 have nit:∀ b u,H b=some u→b≠it:=fun b u e z=>by rw[z,hn] at e;cases e
 refine I.step (g':=s.gens) (d':=s.drawn) (ch:=[it]) (fun b hb=>?_) (fun b o _ _ hc e _=>k b o (fun z=>hc (by simp[z])) e) (fun b o _ _ hc e _=>⟨o.slots,k b o (fun z=>hc (by simp[z])) e⟩) (fun _ _ _ _ n=>n)
  (fun b o hc e=>⟨o,k b o (fun z=>hc (by simp[z])) e⟩) (fun _ _ e=>e) (fun _ _ _ e=>e) (fun b ps e=>⟨#[],by rw[e];simp⟩) (fun m hm=>?_) (fun b u e=>?_) I.bare
 ·have e:b=it:=by simpa using hb
  subst e;exact⟨h1,hL,h2,h3⟩
 ·obtain⟨o,es,ep,ho,r⟩:=hm;exact⟨o,es,ep,k _ o (Ne.symm hL) ho,r⟩
 ·refine (I.hok b u e).stay (fun c v hc q=>k c v ?_ q) (fun _ q=>q) fun _ _ q=>q
  rcases hc with z | z
  ·rw[z];exact nit b u e
  ·exact nit c _ z
theorem Inv.tok (I:Inv X pins σ H s)(t:Nat):Inv X pins σ H {s with toks:=t}:=I.un (h':=s.heap) (t':=t) Un.refl I.hok
theorem Inv.kept {t':Nat}(I:Inv X pins σ H s)(k:∀ b u,s.heap.get? b=some u→h'.get? b=some u):Inv X pins σ H {s with heap:=h',toks:=t'}:=I.un (Un.kept k) (I.hok.kept k)
theorem Inv.laid {a:Addr}{o:HO}{t':Nat}(I:Inv X pins σ H s)(k:∀ b u,s.heap.get? b=some u→h'.get? b=some u)(hp:s.heap.objs.size≤a)(new:ObjOk X.prog X.w (upd H a o) h' a o) :
  Inv X pins σ (upd H a o) {s with heap:=h',toks:=t'}:=I.un (Un.laid k hp (I.hok.fresh hp)) (I.hok.laid k hp new)
theorem Inv.write {x e:Addr}{o:HO}{t':Nat}(I:Inv X pins σ H s)(mu:Mut (H x))(he:e=x∨H e=some (.own x))(k:∀ b u,b≠e→s.heap.get? b=some u→h'.get? b=some u)(heo:∃ u,h'.get? e=some u)
  (new:ObjOk X.prog X.w (upd H x o) h' x o):Inv X pins σ (upd H x o) {s with heap:=h',toks:=t'}:=I.un (Un.write mu he k heo) (I.hok.write mu he k heo new)
theorem Inv.pins_of {pins':List (Addr×Obj)}(I:Inv X pins σ H s)(h:∀ p∈pins',s.heap.get? p.1=some p.2∧H p.1=none∧p.1≠X.env.locals∧p.1∉X.fs∧∀ v,p.2.data≠.cell v):Inv X pins' σ H s :=
 ⟨I.ok,I.os,I.bare,I.base,I.loc,I.cell,I.free,I.freeC,fun p hp=>(List.mem_append.mp hp).elim (fun z=>I.pin p (List.mem_append_left _ z)) (h p),I.hok,I.len⟩
theorem nodup_ix {N:List Str}(hN:N.Nodup){i j:Nat}{x:Str}(a:N[i]?=some x)(b:N[j]?=some x):i=j:=by
 obtain⟨h1,e1⟩:=List.getElem?_eq_some_iff.mp a;obtain⟨h2,e2⟩:=List.getElem?_eq_some_iff.mp b;exact (List.getElem_inj hN).mp (e1.trans e2.symm)
theorem store_ok2 {M:Model}{A:Around}{E:Value→Shared→Prop}{i:Nat}{x:Str}{v:V}{u:Value}{Q:Unit→Shared→Prop}(I:Inv X pins σ H s)(hN:X.N.Nodup)(hi:X.N[i]?=some x)(hx:Loc X.env.scope x)(r:RelV v u)
  (h:∀ s',Inv X pins (σ.set i (some v)) H s'→(∃ a,Heap.SameBut a s.heap s'.heap∧(a=X.env.locals∨X.env.cells.lookup x=some a))→Q () s') (hf:X.fn x=true∨X.env.scope.names.lookup x=some .local:=by first | exact .inl rfl | exact .inr rfl | assumption):wpAny M A (storeName X.env x u) Q E s:=by
 obtain⟨m,hn,hl⟩:=id I.loc;have hcls:(X.env.scope.kind == .class || (X.env.scope.kind == .module && X.env.locals != X.env.globals))=false:=by rw[I.ok.kind];rfl
 have hiσ:i<σ.length:=by rw[I.len];exact (List.getElem?_eq_some_iff.mp hi).1
 have cne:=I.cne;have tracked:∀ {a:Addr} {h':Heap},(∃ o,s.heap.get? a=some o∧H a=none)→Heap.SameBut a s.heap h'→HOk X.prog X.w H h':=fun {a h'} ha hs b ob e=>by
  obtain⟨_,_,hfree⟩:=ha;refine (I.hok b ob e).stay (fun c w' hc q=>(hs.2 c ?_).trans q) (fun _ q=>q) fun _ _ q=>q
  rintro rfl;rcases hc with rfl | hc
  ·rw[hfree] at e;cases e
  ·rw[hfree] at hc;cases hc
 rcases hx with hk | hk
 ·refine wpAny_storeName_local hk hn (fun h' hn' hs=>?_) hcls;obtain⟨oL,_,_,hoL,_⟩:=id hn;refine h _ ⟨I.ok,I.os,I.bare,⟨fun b o e n hb hx=>?_,fun b o e n hb hx=>?_,I.base.free,fun b o e hx=>?_,I.base.tups,I.base.frzs,I.base.tbls⟩,⟨_,hn',fun j y v' e1 e2 e3=>?_⟩,fun y c e=>?_,I.free,I.freeC,fun p hp=>?_,tracked ⟨oL,hoL,I.free⟩ hs,by simpa using I.len⟩ ⟨_,hs,.inl rfl⟩
  ·exact (hs.2 b (Nat.ne_of_lt (Nat.lt_of_lt_of_le (Heap.lt_size e) I.ok.above))).trans (I.base.keep b o e n hb hx)
  ·obtain⟨sl,e1⟩:=I.base.slot b o e n hb hx;exact⟨sl,(hs.2 b (Nat.ne_of_lt (Nat.lt_of_lt_of_le (Heap.lt_size e) I.ok.above))).trans e1⟩
  ·obtain⟨o',e1⟩:=I.base.there b o e hx;exact⟨o',(hs.2 b (Nat.ne_of_lt (Nat.lt_of_lt_of_le (Heap.lt_size e) I.ok.above))).trans e1⟩
  ·by_cases hj:j=i
   ·subst hj;rw[hi] at e1;cases e1;rw[List.getElem?_set_self hiσ] at e2;cases e2;exact⟨u,r,.inl ⟨hk,by simp⟩⟩
   ·rw[List.getElem?_set_ne (Ne.symm hj)] at e2;obtain⟨u',r',q⟩:=hl j y v' e1 e2 e3;refine⟨u',r',?_⟩;rcases q with ⟨k,e⟩ | ⟨k,c,e,z⟩
    ·refine .inl ⟨k,?_⟩;have:y≠x:=fun e=>hj (nodup_ix hN e1 (e ▸ hi))
     simp[this,e]
    ·exact .inr ⟨k,c,e,z.sameBut hs (cne y c e)⟩
  ·obtain⟨w',z⟩:=I.cell y c e;exact⟨w',z.sameBut hs (cne y c e)⟩
  ·obtain⟨e,n,ne,nf,d⟩:=I.pin p hp;exact⟨(hs.2 p.1 ne).trans e,n,ne,nf,d⟩
 ·have hfn:X.fn x=true:=by
   rcases hf with z | z
   ·exact z
   ·rw[z] at hk;cases hk
  obtain⟨c,hc⟩:=I.ok.has x (.inl hk);obtain⟨w',z⟩:=I.cell x c hc;refine wpAny_storeName_cell I.ok.kind hk hc z (fun h' hc' hs=>?_);obtain⟨oc,hoc,hocd⟩:=id z;refine h {s with heap:=h'} ⟨I.ok,I.os,I.bare,⟨fun b o e n hb hx=>?_,fun b o e n hb hx=>?_,I.base.free,fun b o e hx=>?_,I.base.tups,I.base.frzs,I.base.tbls⟩,⟨m,hn.sameBut hs (Ne.symm (cne x c hc)),fun j y v' e1 e2 e3=>?_⟩,fun y c' e=>?_,I.free,I.freeC,fun p hp=>?_,tracked ⟨oc,hoc,I.freeC x c hc⟩ hs,by simpa using I.len⟩ ⟨c,hs,.inr hc⟩
  ·exact (hs.2 b (Nat.ne_of_lt (Nat.lt_of_lt_of_le (Heap.lt_size e) (I.ok.cab x c hfn hc)))).trans (I.base.keep b o e n hb hx)
  ·obtain⟨sl,e1⟩:=I.base.slot b o e n hb hx;exact⟨sl,(hs.2 b (Nat.ne_of_lt (Nat.lt_of_lt_of_le (Heap.lt_size e) (I.ok.cab x c hfn hc)))).trans e1⟩
  ·obtain⟨o',e1⟩:=I.base.there b o e hx;exact⟨o',(hs.2 b (Nat.ne_of_lt (Nat.lt_of_lt_of_le (Heap.lt_size e) (I.ok.cab x c hfn hc)))).trans e1⟩
  ·by_cases hj:j=i
   ·subst hj;rw[hi] at e1;cases e1;rw[List.getElem?_set_self hiσ] at e2;cases e2;exact⟨u,r,.inr ⟨.inl hk,c,hc,hc'⟩⟩
   ·rw[List.getElem?_set_ne (Ne.symm hj)] at e2;obtain⟨u',r',q⟩:=hl j y v' e1 e2 e3;refine⟨u',r',?_⟩;rcases q with q | ⟨k,c',e,z'⟩
    ·exact .inl q
    ·refine .inr ⟨k,c',e,z'.sameBut hs ?_⟩;rintro rfl;exact hj (nodup_ix hN e1 (I.ok.inj _ _ _ e hc ▸ hi))
  ·by_cases hcc:c'=c
   ·subst hcc;exact⟨_,hc'⟩
   ·obtain⟨w2,z2⟩:=I.cell y c' e;exact⟨w2,z2.sameBut hs hcc⟩
  ·obtain⟨e,n,ne,nf,d⟩:=I.pin p hp;refine⟨(hs.2 p.1 ?_).trans e,n,ne,nf,d⟩;intro q;rw[q,hoc] at e;have q':oc=p.2:=Option.some.inj e;exact d w' (by rw[← q'];exact hocd)
theorem store_ok {M:Model}{A:Around}{E:Value→Shared→Prop}{i:Nat}{x:Str}{v:V}{u:Value}{Q:Unit→Shared→Prop}(I:Inv X pins σ H s)(hN:X.N.Nodup)(hi:X.N[i]?=some x)(hx:Loc X.env.scope x)(r:RelV v u)
  (h:∀ s',Inv X pins (σ.set i (some v)) H s'→Q () s') (hf:X.fn x=true∨X.env.scope.names.lookup x=some .local:=by first | exact .inl rfl | exact .inr rfl | assumption):wpAny M A (storeName X.env x u) Q E s :=
 store_ok2 I hN hi hx r (fun s' I' _=>h s' I') hf
theorem Inv.call' {s':Shared}{ch:List Addr}(I:Inv X pins σ H s)(ho:s'.os=s.os)(u:Un (frs X.stack) ch H H' s.heap s'.heap)(hok:HOk X.prog X.w H' s'.heap)(hg:AllBare s'.gens)
  (hch:∀ b∈ch,(b∈X.ex∨X.s₀.heap.objs.size≤b)∧b≠X.env.locals∧(∀ x c,X.env.cells.lookup x=some c→c≠b)∧∀ p∈X.pn++pins,p.1≠b):Inv X pins σ H' s':=by
 obtain⟨h',g',d',t',o'⟩:=s';have e:o'=s.os:=ho;subst e;exact I.call (g':=g') (t':=t') (d':=d') u hok hg hch
end
abbrev XK:=Value→Option Addr→Hp→Prop
abbrev St:=List (Option V)
abbrev VK:=V→Hp→Prop
abbrev TE:=St→Hp→VK→Prop
abbrev TT:=St→Hp→(Bool→Hp→Prop)→Prop
abbrev TA:=St→Hp→(List V→Hp→Prop)→Prop
structure Ends where
 nx:St→Hp→Prop
 rt:VK
 bk:St→Hp→Prop:=fun _ _=>False
 ct:St→Hp→Prop:=fun _ _=>False
abbrev TS:=Ends→St→Hp→Prop
def EP (X:Cx)(pins:List (Addr×Obj))(σ:St)(Q:VK)(u:Value)(s':Shared):Prop:=∃ v H',Inv X pins σ H' s'∧RelV v u∧Q v H'
def TP (X:Cx)(pins:List (Addr×Obj))(σ:St)(Q:Bool→Hp→Prop)(b:Bool)(s':Shared):Prop:=∃ H',Inv X pins σ H' s'∧Q b H'
def AP (X:Cx)(pins:List (Addr×Obj))(σ:St)(Q:List V→Hp→Prop)(us:List Value)(s':Shared):Prop:=∃ vs H',Inv X pins σ H' s'∧Vals vs us∧Q vs H'
def SP (X:Cx)(pins:List (Addr×Obj))(D:Ends)(f:Flow)(s':Shared):Prop :=
 match f with
 | .next=>∃ σ' H',Inv X pins σ' H' s'∧D.nx σ' H'
 | .brk=>∃ σ' H',Inv X pins σ' H' s'∧D.bk σ' H'
 | .cont=>∃ σ' H',Inv X pins σ' H' s'∧D.ct σ' H'
 | .ret u=>∃ v σ' H',Inv X pins σ' H' s'∧RelV v u∧D.rt v H'
def PE (X:Cx)(e:Expr)(t:TE):Prop :=
 ∀ (pins:List (Addr×Obj)) (s:Shared) (σ:St) (H:Hp) (Q:VK),Inv X pins σ H s→t σ H Q→wpAny (model X.prog X.w) X.A (eval e X.env) (EP X pins σ Q) X.xe s
def PT (X:Cx)(e:Expr)(t:TT):Prop :=
 ∀ (pins:List (Addr×Obj)) (s:Shared) (σ:St) (H:Hp) (Q:Bool→Hp→Prop),Inv X pins σ H s→t σ H Q→wpAny (model X.prog X.w) X.A (isTrue e X.env (eval e X.env)) (TP X pins σ Q) X.xe s
def PW (X:Cx)(e:Expr)(t:TT):Prop :=
 ∀ (whole:Sem Value) (pins:List (Addr×Obj)) (s:Shared) (σ:St) (H:Hp) (Q:Bool→Hp→Prop),Inv X pins σ H s→t σ H Q→wpAny (model X.prog X.w) X.A (isTrue e X.env whole) (TP X pins σ Q) X.xe s
theorem PW.pt {X:Cx}{e:Expr}{t:TT}(h:PW X e t):PT X e t:=h _
def PA (X:Cx)(es:List Expr)(t:TA):Prop :=
 ∀ (pos:Pos) (pins:List (Addr×Obj)) (s:Shared) (σ:St) (H:Hp) (Q:List V→Hp→Prop),Inv X pins σ H s→t σ H Q→wpAny (model X.prog X.w) X.A (spliced (backTo pos (starEach es X.env))) (AP X pins σ Q) X.xe s
def PS (X:Cx)(st:Stmt)(t:TS):Prop :=
 ∀ (pins:List (Addr×Obj)) (s:Shared) (σ:St) (H:Hp) (D:Ends),Inv X pins σ H s→t D σ H→wpAny (model X.prog X.w) X.A (exec st X.env) (SP X pins D) X.xe s
def PSs (X:Cx)(st:List Stmt)(t:TS):Prop :=
 ∀ (pins:List (Addr×Obj)) (s:Shared) (σ:St) (H:Hp) (D:Ends),Inv X pins σ H s→t D σ H→wpAny (model X.prog X.w) X.A (execs st X.env) (SP X pins D) X.xe s
theorem thn {α:Type}{t:Sem α}{Q Q':α→Shared→Prop}{M:Model}{A:Around}{E:Value→Shared→Prop}{s:Shared}(h:wpAny M A t Q E s)(hQ:∀ a s,Q a s→Q' a s):wpAny M A t Q' E s:=wpAny_mono h hQ fun _ _ x=>x
end L2
namespace L2
open PySem PySem.Spec PyProof.Rows
section
variable {X:Cx}
theorem bin {a b:Expr}{ta tb:TE}(ha:PE X a ta)(hb:PE X b tb){pins:List (Addr×Obj)}{s:Shared}{σ:St}{H:Hp}{R:V→V→Hp→Prop}(I:Inv X pins σ H s)(h:ta σ H fun x H1=>tb σ H1 fun y H2=>R x y H2)
  {α:Type} {Q:α→Shared→Prop} {f:Value→Value→Sem α}
  (hf:∀ v u s2 x y H2,Inv X pins σ H2 s2→RelV x v→RelV y u→R x y H2→wpAny (model X.prog X.w) X.A (f v u) Q X.xe s2) :
  wpAny (model X.prog X.w) X.A (eval a X.env) (fun v s₁=>wpAny (model X.prog X.w) X.A (eval b X.env) (fun u s₂=>wpAny (model X.prog X.w) X.A (f v u) Q X.xe s₂) X.xe s₁) X.xe s:=by
 refine thn (ha pins s σ H _ I h) fun v s1 ⟨x,H1,I1,r1,q1⟩=>?_
 refine thn (hb pins s1 σ H1 _ I1 q1) fun u s2 ⟨y,H2,I2,r2,q2⟩=>?_
 exact hf v u s2 x y H2 I2 r1 r2 q2
def tVar (i:Nat):TE:=fun σ H Q=>∃ v,σ[i]?=some (some v)∧Q v H
def tC (v:V):TE:=fun _ H Q=>Q v H
theorem pe_var {i:Nat}{x:Str}{pos:Pos}(hN:X.N[i]?=some x)(hv:Vis X.env.scope x)(hd:(x == ("__debug__":Str))=false:=by decide)(hcd:(x == ("__classdict__":Str))=false:=by decide):PE X (.Name x pos) (tVar i):=by
 intro pins s σ H Q I h;obtain⟨v,e,h⟩:=h;obtain⟨m,hn,hl⟩:=I.loc;obtain⟨u,r,l⟩:=hl i x v hN e hv;have fin:EP X pins σ Q u s:=⟨v,H,I,r,h⟩
 rcases l with ⟨hk,hm⟩ | ⟨hk,c,hc,hcell⟩
 ·exact wpAny_Name (wpAny_loadName_local I.ok.kind hk hn hm fin) hd
 ·rcases hk with hk | hk
  ·exact wpAny_Name (wpAny_loadName_cell I.ok.kind hk hc hcell fin) hd
  ·exact wpAny_Name (wpAny_loadName_free I.ok.kind hk hc hcell fin hcd) hd
theorem pe_int {i j pos}:PE X (.Constant (.int i) j pos) (tC (.int i)):=fun _ _ _ H _ I h=>wpAny_Constant_int ⟨.int i,H,I.tok _,⟨_,rfl⟩,h⟩
theorem pe_bl {b j pos}:PE X (.Constant (.bool b) j pos) (tC (.bl b)):=fun _ _ _ H _ I h=>Constant_bool ⟨.bl b,H,I,rfl,h⟩
theorem pe_non {j pos}:PE X (.Constant .none j pos) (tC .non):=fun _ _ _ H _ I h=>Constant_none ⟨.non,H,I,rfl,h⟩
theorem pe_str {x j pos}:PE X (.Constant (.str x) j pos) (tC (.str x)):=fun _ _ _ H _ I h=>Calls.Constant_str ⟨.str x,H,I.tok _,⟨_,rfl⟩,h⟩
def Gl (X:Cx)(x:Str):Prop:=X.env.kindOf x=some .globalImplicit
theorem ld_glob {E:Value→Shared→Prop}{pins:List (Addr×Obj)}{s:Shared}{σ:St}{H:Hp}{x:Str}{u:Value}{pos:Pos}{Q:Value→Shared→Prop}(I:Inv X pins σ H s)(hg:Gl X x)(hm:X.mg x=some u)(h:Q u s)
  (hd:(x == ("__debug__":Str))=false:=by decide):wpAny (model X.prog X.w) X.A (eval (.Name x pos) X.env) Q E s :=
 Calls.Name_function_global I.ok.kind hg (Calls.loadGlobal_global (by rw[I.ok.glob];exact I.mod.glob.keeps I.bk) hm h) hd
theorem ld_blt {E:Value→Shared→Prop}{pins:List (Addr×Obj)}{s:Shared}{σ:St}{H:Hp}{x:Str}{u:Value}{pos:Pos}{Q:Value→Shared→Prop}(I:Inv X pins σ H s)(hg:Gl X x)(hm:X.mg x=none)(hv:bootBuiltins x=some u)(h:Q u s)
  (hn:x≠"__name__":=by decide) (hd:(x == ("__debug__":Str))=false:=by decide):wpAny (model X.prog X.w) X.A (eval (.Name x pos) X.env) Q E s:=by
 obtain⟨mb,h1,h2⟩:=I.mod.blt;exact Calls.Name_function_global I.ok.kind hg (Calls.loadGlobal_builtin (by rw[I.ok.glob];exact I.mod.glob.keeps I.bk) hm (by rw[I.ok.blt];exact h1.keeps I.bk) ((h2 x hn).trans hv) h) hd
variable {a b:Expr}{ta tb:TE}{pos:Pos}
def PC (X:Cx)(op:CmpOp)(a b:Expr)(t:TE):Prop :=
 ∀ (pins:List (Addr×Obj)) (s:Shared) (σ:St) (H:Hp) (Q:VK),Inv X pins σ H s→t σ H Q →
  wpAny (model X.prog X.w) X.A (eval a X.env) (fun v s₁=>wpAny (model X.prog X.w) X.A (eval b X.env) (fun u s₂=>wpAny (model X.prog X.w) X.A (compareOp op v u) (EP X pins σ Q) X.xe s₂) X.xe s₁) X.xe s
theorem nobehind (b:Expr){op:CmpOp}(h:op≠.In)(h2:op≠.NotIn):behindInMarks op b=false:=by
 have e1:(op == CmpOp.In)=false:=by cases op<;>first | rfl | exact absurd rfl h
 have e2:(op == CmpOp.NotIn)=false:=by cases op<;>first | rfl | exact absurd rfl h2
 cases b<;>simp[behindInMarks,e1,e2]
def tIsN (ta:TE):TE:=fun σ H Q=>ta σ H fun x H1=>Q (.bl (decide (x=.non))) H1
def tNotN (ta:TE):TE:=fun σ H Q=>ta σ H fun x H1=>Q (.bl (!decide (x=.non))) H1
theorem RelV.none_iff {x:V}{v:Value}(r:RelV x v):(v == Value.none)=decide (x=.non):=by
 cases x with
 | non=>cases r;rfl
 | bl _=>cases r;rfl
 | int _=>obtain⟨t,rfl⟩:=r;rfl
 | str _=>obtain⟨t,rfl⟩:=r;rfl
 | byt _=>obtain⟨t,rfl⟩:=r;rfl
 | flt _=>obtain⟨t,rfl⟩:=r;rfl
 | ref _=>cases r;rfl
 | ty _=>cases r;rfl
theorem pc_isN {j pos'}(ha:PE X a ta):PC X .Is a (.Constant .none j pos') (tIsN ta):=by
 intro pins s σ H Q I h;refine thn (ha pins s σ H _ I h) fun v s1 ⟨x,H1,I1,r1,q1⟩=>?_
 exact Constant_none (is_none_gen ⟨.bl _,H1,I1,by rw[r1.none_iff];rfl,q1⟩)
theorem pc_notN {j pos'}(ha:PE X a ta):PC X .IsNot a (.Constant .none j pos') (tNotN ta):=by
 intro pins s σ H Q I h;refine thn (ha pins s σ H _ I h) fun v s1 ⟨x,H1,I1,r1,q1⟩=>?_
 exact Constant_none (isnot_none_gen ⟨.bl _,H1,I1,by rw[r1.none_iff];rfl,q1⟩)
def tB (t:TE):TT:=fun σ H Q=>t σ H fun x H1=>∃ c,x=.bl c∧Q c H1
theorem pt_cmp {op:CmpOp}{t:TE}(h:PC X op a b t)(h1:behindInMarks op b=false:=by first | exact nobehind _ (by decide) (by decide) | rfl):PT X (.Compare a [op] [b] pos) (tB t):=by
 intro pins s σ H Q I hw;refine wpAny_isTrue_Compare1 (thn (h pins s σ H _ I hw) fun v s1 h1=>thn h1 fun u s2 h2=>thn h2 fun c s3 ⟨x,H1,I1,r1,q1⟩=>?_) h1;obtain⟨d,rfl,q⟩:=q1;cases r1;exact wpAny_truthy_bool ⟨H1,I1,q⟩
theorem pt_val {e:Expr}{t:TE}(h:PE X e t)(he:∀ whole,isTrue e X.env whole=(do let v ← whole;standAt e.pos;holding [v] (truthy v)):=by intro _;rfl):PT X e (tB t):=by
 intro pins s σ H Q I hw;refine isTrue_plain (thn (h pins s σ H _ I hw) fun v s1 ⟨x,H1,I1,r1,q1⟩=>?_) (he _);obtain⟨d,rfl,q⟩:=q1;cases r1;exact wpAny_truthy_bool ⟨H1,I1,q⟩
variable {tA tB':TT}{rest:List Expr}
def tAnd (t u:TT):TT:=fun σ H Q=>t σ H fun c H1=>if c=true then u σ H1 Q else Q false H1
def tOr (t u:TT):TT:=fun σ H Q=>t σ H fun c H1=>if c=true then Q true H1 else u σ H1 Q
def tNot (t:TT):TT:=fun σ H Q=>t σ H fun c H1=>Q (!c) H1
theorem pw_and1 (ha:PT X a tA):PW X (.BoolOp .And [a] pos) tA:=by
 intro wh pins s σ H Q I h;refine isTrue_and (thn (ha pins s σ H Q I h) fun c s1 e=>?_);cases c with
 | true=>exact isTrue_and_nil e
 | false=>exact e
theorem pw_or1 (ha:PT X a tA):PW X (.BoolOp .Or [a] pos) tA:=by
 intro wh pins s σ H Q I h;refine isTrue_or (thn (ha pins s σ H Q I h) fun c s1 e=>?_);cases c with
 | false=>exact isTrue_or_nil e
 | true=>exact e
theorem pw_and (ha:PT X a tA)(hb:PW X (.BoolOp .And (b::rest) pos) tB'):PW X (.BoolOp .And (a::b::rest) pos) (tAnd tA tB'):=by
 intro wh pins s σ H Q I h;refine isTrue_and (thn (ha pins s σ H _ I h) fun c s1 ⟨H1,I1,q1⟩=>?_);cases c with
 | true=>exact hb wh pins s1 σ H1 Q I1 q1
 | false=>exact⟨H1,I1,q1⟩
theorem pw_or (ha:PT X a tA)(hb:PW X (.BoolOp .Or (b::rest) pos) tB'):PW X (.BoolOp .Or (a::b::rest) pos) (tOr tA tB'):=by
 intro wh pins s σ H Q I h;refine isTrue_or (thn (ha pins s σ H _ I h) fun c s1 ⟨H1,I1,q1⟩=>?_);cases c with
 | true=>exact⟨H1,I1,q1⟩
 | false=>exact hb wh pins s1 σ H1 Q I1 q1
theorem pt_not (ha:PT X a tA):PT X (.UnaryOp .Not a pos) (tNot tA):=by
 intro pins s σ H Q I h;exact isTrue_not (ha pins s σ H (fun c H1=>Q (!c) H1) I h)
def tAndV (ta tb:TE):TE:=fun σ H Q=>ta σ H fun x H1=>∃ c,x=.bl c∧if c=true then tb σ H1 Q else Q (.bl false) H1
def tOrV (ta tb:TE):TE:=fun σ H Q=>ta σ H fun x H1=>∃ c,x=.bl c∧if c=true then Q (.bl true) H1 else tb σ H1 Q
def tNotV (ta:TE):TE:=fun σ H Q=>ta σ H fun x H1=>∃ c,x=.bl c∧Q (.bl (!c)) H1
theorem pe_one {op}{t:TE}(h:PE X a t):PE X (.BoolOp op [a] pos) t:=fun pins s σ H Q I hw=>BoolOp_one (h pins s σ H Q I hw)
theorem pe_and (ha:PE X a ta)(hb:PE X (.BoolOp .And (b::rest) pos) tb):PE X (.BoolOp .And (a::b::rest) pos) (tAndV ta tb):=by
 intro pins s σ H Q I h;refine BoolOp_and (thn (ha pins s σ H _ I h) fun v s1 ⟨x,H1,I1,r1,q1⟩=>?_);obtain⟨c,rfl,q1⟩:=q1;cases r1;refine wpAny_truthy_bool ?_;cases c with
 | true=>exact hb pins s1 σ H1 Q I1 q1
 | false=>exact⟨.bl false,H1,I1,rfl,q1⟩
theorem pe_not (ha:PE X a ta):PE X (.UnaryOp .Not a pos) (tNotV ta):=by
 intro pins s σ H Q I h;refine UnaryOp_ (thn (ha pins s σ H _ I h) fun v s1 ⟨x,H1,I1,r1,q1⟩=>?_);obtain⟨c,rfl,q1⟩:=q1;cases r1;exact not_of (wpAny_truthy_bool ⟨.bl (!c),H1,I1,rfl,q1⟩)
end
end L2
namespace L2
open PySem PySem.Spec PyProof.Rows
def SqL (K:PySem.W.Frag)(H:Hp)(a:Addr)(xs:List V):Prop :=
 Rd H a (.lst xs) ∨
  ∃ (o:Obj) (its:Array Value) (n:Nat),K.lookup a=some o∧o.cls=.type "list"∧o.dict=none∧o.data=.seq its n∧its.size≤sizeLine∧Vals xs its.toList
def SqT (K:PySem.W.Frag)(H:Hp)(a:Addr)(xs:List V):Prop :=
 Rd H a (.tup xs) ∨
  ∃ (o:Obj) (its:Array Value) (n:Nat),K.lookup a=some o∧o.cls=.type "tuple"∧o.data=.seq its n∧its.size≤sizeLine∧Vals xs its.toList
def absV:Value→Option V
 | .none=>some .non
 | .bool b=>some (.bl b)
 | .int i _=>some (.int i)
 | .str x _=>some (.str x)
 | .bytes b _=>some (.byt b)
 | .float b _=>some (.flt b)
 | .ref a=>some (.ref a)
 | .type n=>some (.ty n)
 | _=>none
theorem RelV.abs {x:V}{u:Value}(r:RelV x u):absV u=some x:=by
 cases x with
 | non=>cases r;rfl
 | bl _=>cases r;rfl
 | int _=>obtain⟨t,rfl⟩:=r;rfl
 | str _=>obtain⟨t,rfl⟩:=r;rfl
 | byt _=>obtain⟨t,rfl⟩:=r;rfl
 | flt _=>obtain⟨t,rfl⟩:=r;rfl
 | ref _=>cases r;rfl
 | ty _=>cases r;rfl
theorem RelV.inj {x y:V}{u:Value}(r:RelV x u)(q:RelV y u):x=y:=Option.some.inj (r.abs.symm.trans q.abs)
theorem Vals.inj:∀ {xs ys:List V} {us:List Value},Vals xs us→Vals ys us→xs=ys
 | _,_,_,.nil,.nil=>rfl
 | _,_,_,.cons r t,.cons r' t'=>by rw[r.inj r',Vals.inj t t']
section
variable {X:Cx}{pins:List (Addr×Obj)}{σ:St}{H:Hp}{s:Shared}{a:Addr}{xs ys:List V}
theorem SqL.of {K:PySem.W.Frag}(h:H a=some (.lst xs)):SqL K H a xs:=.inl (.inl h)
theorem SqT.of {K:PySem.W.Frag}(h:H a=some (.tup xs)):SqT K H a xs:=.inl (.inl h)
theorem Inv.list (I:Inv X pins σ H s)(h:SqL X.K H a xs):∃ its:List Value,Vals xs its∧PlainL s.heap a its.toArray∧xs.length≤sizeLine:=by
 rcases h with h | ⟨o,its,n,hk,hc,hd,hs,hz,r⟩
 ·obtain⟨z,its,n,r,e⟩:=h.ok I.hok;exact⟨its,r,⟨_,n,e,rfl,rfl,rfl⟩,z⟩
 ·refine⟨its.toList,r,⟨o,n,I.kIn a o hk,hc,hd,by simpa using hs⟩,?_⟩;have e:=r.length;simp only[Array.length_toList] at e;omega
theorem Inv.tuple (I:Inv X pins σ H s)(h:SqT X.K H a xs):∃ its:List Value,Vals xs its∧IsTup s.heap a its.toArray∧xs.length≤sizeLine:=by
 rcases h with h | ⟨o,its,n,hk,hc,hs,hz,r⟩
 ·obtain⟨z,its,r,p⟩:=h.ok I.hok;exact⟨its,r,p,z⟩
 ·refine⟨its.toList,r,⟨o,I.kIn a o hk,hc,n,by simpa using hs⟩,?_⟩;have e:=r.length;simp only[Array.length_toList] at e;omega
theorem Inv.list_inj (I:Inv X pins σ H s)(h:SqL X.K H a xs)(h':SqL X.K H a ys):xs=ys:=by
 obtain⟨its,r,⟨o,n,e,_,_,d⟩,_⟩:=I.list h;obtain⟨its',r',⟨o',n',e',_,_,d'⟩,_⟩:=I.list h';rw[e] at e';cases e';rw[d] at d';injection d' with d1 _
 have:its=its':=by simpa using congrArg Array.toList d1
 subst this;exact r.inj r'
theorem Inv.tuple_inj (I:Inv X pins σ H s)(h:SqT X.K H a xs)(h':SqT X.K H a ys):xs=ys:=by
 obtain⟨its,r,⟨o,e,_,n,d⟩,_⟩:=I.tuple h;obtain⟨its',r',⟨o',e',_,n',d'⟩,_⟩:=I.tuple h';rw[e] at e';cases e';rw[d] at d';injection d' with d1 _
 have:its=its':=by simpa using congrArg Array.toList d1
 subst this;exact r.inj r'
end
abbrev Cx.wish (X:Cx)(E:Value→Shared→Prop):Cx:={X with xe:=E}
abbrev Cx.nox (X:Cx):Cx:=X.wish fun _ _=>False
theorem Cx.Ok.wish {X:Cx}(ok:X.Ok)(E:Value→Shared→Prop):(X.wish E).Ok :=
 ⟨ok.mod,ok.kind,ok.glob,ok.blt,ok.above,ok.inj,ok.has,ok.cab,ok.hd,ok.frames,ok.stk,ok.exf,ok.bs,ok.bsz,ok.noex,ok.exfs,ok.funs,ok.frf⟩
theorem Cx.Ok.unwish {X:Cx}{E:Value→Shared→Prop}(ok:(X.wish E).Ok):X.Ok :=
 ⟨ok.mod,ok.kind,ok.glob,ok.blt,ok.above,ok.inj,ok.has,ok.cab,ok.hd,ok.frames,ok.stk,ok.exf,ok.bs,ok.bsz,ok.noex,ok.exfs,ok.funs,ok.frf⟩
section
variable {X:Cx}{pins:List (Addr×Obj)}{σ:St}{H:Hp}{s:Shared}{E:Value→Shared→Prop}
theorem Inv.wish (I:Inv X pins σ H s)(E:Value→Shared→Prop):Inv (X.wish E) pins σ H s:=⟨I.ok.wish E,I.os,I.bare,I.base,I.loc,I.cell,I.free,I.freeC,I.pin,I.hok,I.len⟩
theorem Inv.unwish (I:Inv (X.wish E) pins σ H s):Inv X pins σ H s:=⟨I.ok.unwish,I.os,I.bare,I.base,I.loc,I.cell,I.free,I.freeC,I.pin,I.hok,I.len⟩
theorem SP.unwish {D:Ends}{f:Flow}{s':Shared}(h:SP (X.wish E) pins D f s'):SP X pins D f s':=by
 cases f with
 | next=>obtain⟨σ',H',I,q⟩:=h;exact⟨σ',H',I.unwish,q⟩
 | brk=>obtain⟨σ',H',I,q⟩:=h;exact⟨σ',H',I.unwish,q⟩
 | cont=>obtain⟨σ',H',I,q⟩:=h;exact⟨σ',H',I.unwish,q⟩
 | ret u=>obtain⟨v,σ',H',I,r,q⟩:=h;exact⟨v,σ',H',I.unwish,r,q⟩
theorem PE.nox {e:Expr}{t:TE}(h:PE X.nox e t):PE X e t:=fun pins s σ H Q I hw =>
 wpAny_mono (h pins s σ H Q (I.wish _) hw) (fun _ _ ⟨v,H',I',r,q⟩=>⟨v,H',I'.unwish,r,q⟩) fun _ _ z=>False.elim z
theorem PT.nox {e:Expr}{t:TT}(h:PT X.nox e t):PT X e t:=fun pins s σ H Q I hw =>
 wpAny_mono (h pins s σ H Q (I.wish _) hw) (fun _ _ ⟨H',I',q⟩=>⟨H',I'.unwish,q⟩) fun _ _ z=>False.elim z
theorem PSs.nox {st:List Stmt}{t:TS}(h:PSs X.nox st t):PSs X st t:=fun pins s σ H D I hw =>
 wpAny_mono (h pins s σ H D (I.wish _) hw) (fun _ _ q=>q.unwish) fun _ _ z=>False.elim z
end
section
variable {X:Cx}{st:Stmt}{rest:List Stmt}{t u:TS}{e:Expr}{te:TE}{pos:Pos}
def tNext:TS:=fun D σ H=>D.nx σ H
def tSeq (t u:TS):TS:=fun D σ H=>t {D with nx:=u D} σ H
theorem pss_nil:PSs X [] tNext:=fun _ _ σ H _ I h=>wpAny_execs_nil ⟨σ,H,I,h⟩
theorem pss_cons (h1:PS X st t)(h2:PSs X rest u):PSs X (st::rest) (tSeq t u):=by
 intro pins s σ H D I h;refine wpAny_execs_cons (thn (h1 pins s σ H {D with nx:=u D} I h) fun f s1 q=>?_);cases f with
 | next =>
  obtain⟨σ',H',I',q⟩:=q;exact h2 pins s1 σ' H' D I' q
 | ret v=>exact q
 | brk=>exact q
 | cont=>exact q
theorem pss_one (h1:PS X st t):PSs X [st] t:=by
 intro pins s σ H D I h;refine wpAny_execs_cons (thn (h1 pins s σ H D I h) fun f s1 q=>?_);cases f with
 | next=>exact wpAny_execs_nil q
 | ret v=>exact q
 | brk=>exact q
 | cont=>exact q
theorem Inv.quiet {pins:List (Addr×Obj)}{σ:St}{H:Hp}{s:Shared}(I:Inv X pins σ H s):interactive X.env=false:=by simp[interactive,I.ok.kind]
def tDrop (te:TE):TS:=fun D σ H=>te σ H fun _ H1=>D.nx σ H1
theorem ps_expr (he:PE X e te)(hs:swapsWith e none pos.line X.env=pure false:=by rfl):PS X (.Expr e pos) (tDrop te):=by
 intro pins s σ H D I h;exact wpAny_Expr_any (thn (he pins s σ H _ I h) fun v s1 ⟨x,H1,I1,r1,q1⟩=>⟨σ,H1,I1,q1⟩) I.quiet hs
def tRet (te:TE):TS:=fun D σ H=>te σ H D.rt
theorem ps_ret (he:PE X e te):PS X (.Return (some e) pos) (tRet te):=by
 intro pins s σ H D I h;exact wpAny_Return_some (thn (he pins s σ H _ I h) fun v s1 ⟨x,H1,I1,r1,q1⟩=>⟨x,σ,H1,I1,r1,q1⟩)
def tRetN:TS:=fun D _ H=>D.rt .non H
def tIfS (c:TT)(t u:TS):TS:=fun D σ H=>c σ H fun b H1=>if b=true then t D σ H1 else u D σ H1
theorem ps_if {c:Expr}{a b:List Stmt}{tc:TT}(hc:PT X c tc)(ha:PSs X a t)(hb:PSs X b u):PS X (.If c a b pos) (tIfS tc t u):=by
 intro pins s σ H D I h;refine wpAny_If (thn (hc pins s σ H _ I h) fun d s1 ⟨H1,I1,q1⟩=>?_);cases d with
 | true=>exact ha pins s1 σ H1 D I1 q1
 | false=>exact hb pins s1 σ H1 D I1 q1
end
abbrev TG:=V→St→Hp→(St→Hp→Prop)→Prop
abbrev TGs:=List V→St→Hp→(St→Hp→Prop)→Prop
def PG (X:Cx)(target:Expr)(t:TG):Prop :=
 ∀ (pins:List (Addr×Obj)) (s:Shared) (σ:St) (H:Hp) (v:V) (u:Value) (Q:St→Hp→Prop),Inv X pins σ H s→RelV v u→t v σ H Q →
  wpAny (model X.prog X.w) X.A (assign target X.env u) (fun _ s'=>∃ σ' H',Inv X pins σ' H' s'∧Q σ' H') X.xe s
def PGs (X:Cx)(ts:List Expr)(t:TGs):Prop :=
 ∀ (pins:List (Addr×Obj)) (s:Shared) (σ:St) (H:Hp) (vs:List V) (us:List Value) (Q:St→Hp→Prop),Inv X pins σ H s→Vals vs us→t vs σ H Q →
  wpAny (model X.prog X.w) X.A (assignInOrder ((assignEach ts X.env).map (·.2)) us) (fun _ s'=>∃ σ' H',Inv X pins σ' H' s'∧Q σ' H') X.xe s
abbrev TSet:=V→V→V→Hp→(Hp→Prop)→Prop
def PSet (X:Cx)(t:TSet):Prop :=
 ∀ (pins:List (Addr×Obj)) (s:Shared) (σ:St) (H:Hp) (o i v:V) (ov iv u:Value) (Q:Hp→Prop),Inv X pins σ H s→RelV o ov→RelV i iv→RelV v u→t o i v H Q →
  wpAny (model X.prog X.w) X.A (setItem ov iv u) (fun _ s'=>∃ H',Inv X pins σ H' s'∧Q H') X.xe s
section
variable {X:Cx}{pos:Pos}
def gName (i:Nat):TG:=fun v σ H Q=>Q (σ.set i (some v)) H
theorem pg_name {i:Nat}{x:Str}(hN:X.N.Nodup)(hi:X.N[i]?=some x)(hx:Loc X.env.scope x)(hf:X.fn x=true∨X.env.scope.names.lookup x=some .local:=by first | exact .inl rfl | exact .inr rfl | assumption):PG X (.Name x pos) (gName i):=by
 intro pins s σ H v u Q I r h;exact wpAny_assign_Name (store_ok I hN hi hx r (fun s' I'=>⟨_,H,I',h⟩) hf)
def gNil:TGs:=fun vs σ H Q=>vs=[]∧Q σ H
def gCons (t:TG)(u:TGs):TGs:=fun vs σ H Q=>∃ v r,vs=v::r∧t v σ H fun σ' H'=>u r σ' H' Q
theorem pgs_nil:PGs X [] gNil:=by
 intro pins s σ H vs us Q I r h;obtain⟨e,h⟩:=h;subst e;cases r;exact assignInOrder_nil ⟨σ,H,I,h⟩
theorem pgs_cons {e:Expr}{es:List Expr}{t:TG}{u:TGs}(h1:PG X e t)(h2:PGs X es u)
  (hs:(assignEach (e::es) X.env).map (·.2)=assign e X.env::(assignEach es X.env).map (·.2):=by rfl):PGs X (e::es) (gCons t u):=by
 intro pins s σ H vs us Q I r h;obtain⟨v,vr,e1,h⟩:=h;subst e1;cases r with
 | cons r rr =>
  rw[hs];refine assignInOrder_cons (thn (h1 pins s σ H _ _ _ I r h) fun _ s1 ⟨σ1,H1,I1,q1⟩=>?_);exact h2 pins s1 σ1 H1 _ _ Q I1 rr q1
def gTup (K:PySem.W.Frag)(n:Nat)(t:TGs):TG:=fun v σ H Q=>∃ a xs,v=.ref a∧SqT K H a xs∧xs.length=n∧t xs σ H Q
theorem pg_tup {es:List Expr}{k:Nat}{t:TGs}{n:Nat}(hc:X.calm=true)(h:PGs X es t)
  (hn:(assignEach es X.env).length=n:=by rfl) (hst:(assignEach es X.env).findIdx? (·.1)=none:=by rfl):PG X (.Tuple es k pos) (gTup X.K n t):=by
 intro pins s σ H v u Q I r hw;obtain⟨a,xs,e1,hq,hl,hw⟩:=hw;subst e1;cases r;obtain⟨its,rv,ht,hz⟩:=I.tuple hq;refine assign_Tuple_tuple (I.ok.hd hc) ht (by simp[hn,← hl,rv.length]) hst fun h' hx=>?_
 have I1:Inv X pins σ H {s with heap:=h'}:=I.kept (t':=s.toks) fun b o e=>hx b o (Nat.ne_of_lt (Heap.lt_size e)) e
 exact h pins _ σ H xs _ Q I1 (by simpa using rv) hw
def gSub (to ti:TE)(t:TSet):TG:=fun v σ H Q=>to σ H fun o H1=>ti σ H1 fun i H2=>t o i v H2 fun H3=>Q σ H3
theorem pg_sub {o i:Expr}{to ti:TE}{t:TSet}(ho:PE X o to)(hi:PE X i ti)(hs:PSet X t)
  (ha:∀ v,assign (.Subscript o i pos) X.env v=(do
   let ov ← holding [v] (eval o X.env)
   let iv ← holding [v,ov] (eval i X.env)
   standAt pos
   holding [v,ov,iv] (setItem ov iv v)
   release [v,ov,iv] []):=by intro _;rfl):PG X (.Subscript o i pos) (gSub to ti t):=by
 intro pins s σ H v u Q I r h;rw[ha];refine wpAny_bind (wpAny_holding (thn (ho pins s σ H _ I h) fun ov s1 ⟨x,H1,I1,r1,q1⟩=>?_));refine wpAny_bind (wpAny_holding (thn (hi pins s1 σ H1 _ I1 q1) fun iv s2 ⟨y,H2,I2,r2,q2⟩=>?_));refine wpAny_bind (wpAny_standAt (wpAny_bind (wpAny_holding (thn (hs pins s2 σ H2 x y v ov iv u _ I2 r1 r2 r q2) fun _ s3 ⟨H3,I3,q3⟩=>?_))));exact wpAny_release ⟨σ,H3,I3,q3⟩
def tAsg (te:TE)(g:TG):TS:=fun D σ H=>te σ H fun x H1=>g x σ H1 D.nx
theorem ps_asg {tg e:Expr}{te:TE}{g:TG}(he:PE X e te)(hg:PG X tg g)(hs:swapsWithSole [tg] e pos.line X.env=pure false:=by rfl)(hw:swappedStores [tg] e X.env=pure none:=by rfl)
  (h1:(assignEach [tg] X.env).map (·.2)=[assign tg X.env]:=by rfl):PS X (.Assign [tg] e pos) (tAsg te g):=by
 intro pins s σ H D I h;refine wpAny_Assign_stores (thn (he pins s σ H _ I h) fun v s1 ⟨x,H1,I1,r1,q1⟩=>?_) hs hw;rw[h1];exact thn (hg pins s1 σ H1 x v _ I1 r1 q1) fun _ s2 q=>q
theorem ps_set {i:Nat}{x:Str}{e:Expr}{te:TE}{pos':Pos}(hN:X.N.Nodup)(hi:X.N[i]?=some x)(hx:Loc X.env.scope x)(he:PE X e te)(hs:swapsWith e (some (.Name x pos')) pos.line X.env=pure false:=by rfl)(hf:X.fn x=true∨X.env.scope.names.lookup x=some .local:=by first | exact .inl rfl | exact .inr rfl | assumption) :
  PS X (.Assign [.Name x pos'] e pos) (tAsg te (gName i)):=by
 intro pins s σ H D I h;refine wpAny_Assign_Name (thn (he pins s σ H _ I h) fun v s1 ⟨y,H1,I1,r1,q1⟩=>?_) hs;exact store_ok I1 hN hi hx r1 (fun s2 I2=>⟨_,H1,I2,q1⟩) hf
end
section
variable {X:Cx}{pos:Pos}
def tWhile (c:TT)(tb:TS):TS:=fun D σ H=>∃ W:Nat→St→Hp→Prop,(∃ m,W m σ H)∧∀ m σ H,W m σ H →
 c σ H fun b H1=>if b=true then ∃ N:St→Hp→Prop,(∀ σ' H',N σ' H'→∃ m',m'<m∧W m' σ' H')∧tb {D with nx:=N,ct:=N,bk:=D.nx} σ H1 else D.nx σ H1
theorem ps_while {c:Expr}{body:List Stmt}{tc:TT}{tb:TS}(hp:PassesOwn (model X.prog X.w) X.A X.env X.xe)(hc:PT X c tc)(hb:PSs X body tb):PS X (.While c body [] pos) (tWhile tc tb):=by
 intro pins s σ H D I h;obtain⟨W,⟨m0,w0⟩,turn⟩:=h;refine wpAny_While (codeAny_whileLoop (fun n s'=>∃ σ' H',Inv X pins σ' H' s'∧W n σ' H') ?_ m0 ⟨σ,H,I,w0⟩);rintro n s1 ⟨σ1,H1,I1,w1⟩;refine wpAny_passesOwn hp (thn (hc pins s1 σ1 H1 _ I1 (turn n σ1 H1 w1)) fun b s2 ⟨H2,I2,q2⟩=>?_);cases b with
 | true =>
  obtain⟨N,hN,q2⟩:=q2;rw[if_pos rfl];refine wpAny_passesOwn hp (thn (hb pins s2 σ1 H2 _ I2 q2) fun f s3 q3=>?_);cases f with
  | next =>
   obtain⟨σ3,H3,I3,n3⟩:=q3;obtain⟨m',hm,w3⟩:=hN σ3 H3 n3;exact⟨m',hm,σ3,H3,I3,w3⟩
  | cont =>
   obtain⟨σ3,H3,I3,n3⟩:=q3;obtain⟨m',hm,w3⟩:=hN σ3 H3 n3;exact⟨m',hm,σ3,H3,I3,w3⟩
  | brk=>exact q3
  | ret v=>exact q3
 | false =>
  rw[if_neg Bool.false_ne_true];exact wpAny_execs_nil ⟨σ1,H2,I2,q2⟩
end
structure It where
 go:Nat→Hp→Prop
 yld:Nat→Hp→V→Hp→Prop
 stop:Nat→Hp→Prop
def FpOk (X:Cx)(pins:List (Addr×Obj))(H:Hp)(b:Addr):Prop :=
 H b=none∧b≠X.env.locals∧b∉X.fs∧(b∈X.ex∨X.s₀.heap.objs.size≤b)∧(∀ x c,X.env.cells.lookup x=some c→c≠b)∧∀ p∈X.pn++pins,p.1≠b
theorem Inv.fpOk {X:Cx}{pins:List (Addr×Obj)}{σ:St}{H H':Hp}{s:Shared}{b:Addr}(I:Inv X pins σ H s)(hb:s.heap.objs.size≤b)(hn:H' b=none):FpOk X pins H' b:=by
 refine⟨hn,Nat.ne_of_gt (Nat.lt_of_lt_of_le I.lt hb),I.nofs hb,.inr (Nat.le_trans I.sz hb),fun x c e z=>?_,fun p hp z=>?_⟩
 ·obtain⟨v,q⟩:=I.cell x c e;exact absurd (Nat.lt_of_lt_of_le q.lt (by rw[z];exact hb)) (Nat.lt_irrefl _)
 ·exact absurd (Nat.lt_of_lt_of_le (Heap.lt_size (I.pin p hp).1) (by rw[z];exact hb)) (Nat.lt_irrefl _)
structure Turn (P:Program)(w:World)(K:PySem.W.Frag)(tg:Expr)(J:It)(fp:List Addr)(it:Addr)(tn:Nat→Heap→Prop):Prop where
 mem:it∈fp
 obj:∀ i h,tn i h→∀ b∈fp,∃ o,h.get? b=some o∧∀ v,o.data≠.cell v
 keep:∀ i h h',tn i h→(∀ b∈fp,∀ o,h.get? b=some o→h'.get? b=some o)→tn i h'
 item:∀ (X:Cx),X.prog=P→X.w=w→X.K=K→X.calm=true→∀ (i:Nat) (pins:List (Addr×Obj)) (s:Shared) (σ:St) (H:Hp) (E:Value→Shared→Prop),Inv X pins σ H s→(∀ b∈fp,FpOk X pins H b)→tn i s.heap→J.go i H →
  wpAny (model P w) X.A (pyNext (.ref it)) (fun r s1=>∃ u,r=some u ∧
   wpAny (model P w) X.A (letOwnedTupleGo tg (.ref it) u) (fun _ s2=>∃ x H',Inv X pins σ H' s2∧RelV x u∧J.yld i H x H'∧tn (i+1) s2.heap∧∀ b∈fp,H' b=none) E s1) E s
 done:∀ (X:Cx),X.prog=P→X.w=w→X.K=K→X.calm=true→∀ (i:Nat) (pins:List (Addr×Obj)) (s:Shared) (σ:St) (H:Hp) (E:Value→Shared→Prop),Inv X pins σ H s→(∀ b∈fp,FpOk X pins H b)→tn i s.heap→J.stop i H →
  wpAny (model P w) X.A (pyNext (.ref it)) (fun r s1=>r=none∧Inv X pins σ H s1) E s
 self:∀ (A:Around) (i:Nat) (s:Shared) (Q:Value→Shared→Prop) (E:Value→Shared→Prop),tn i s.heap→Q (.ref it) s→wpAny (model P w) A (pyIter (.ref it)) Q E s
abbrev TI:=St→Hp→(It→Hp→Prop)→Prop
def PIE (X:Cx)(pins:List (Addr×Obj))(σ:St)(tg:Expr)(R:It→Hp→Prop)(itv:Value)(s2:Shared):Prop :=
 ∃ (it:Addr) (fp:List Addr) (tn:Nat→Heap→Prop) (J:It) (H':Hp),itv=.ref it∧Inv X pins σ H' s2∧Turn X.prog X.w X.K tg J fp it tn∧tn 0 s2.heap∧(∀ b∈fp,FpOk X pins H' b)∧R J H'
def PI (X:Cx)(tg iter:Expr)(wi:TI):Prop :=
 ∀ (pins:List (Addr×Obj)) (s:Shared) (σ:St) (H:Hp) (R:It→Hp→Prop),Inv X pins σ H s→wi σ H R →
  wpAny (model X.prog X.w) X.A (eval iter X.env) (fun v s1=>wpAny (model X.prog X.w) X.A (pyIter v) (PIE X pins σ tg R) X.xe s1) X.xe s
theorem go_of {M:Model}{A:Around}{E:Value→Shared→Prop}{s:Shared}{tg:Expr}{it:Addr}{u:Value}{o:Obj}{n:String}{vs:Array Value}{Q:Unit→Shared→Prop}(ho:s.heap.get? it=some o)(hc:o.cls=.type n)(hd:o.data=.fields vs)
    (hn:["enumerate", "zip", "dict_itemiterator", "dict_reverseitemiterator", "odict_iterator", "itertools.zip_longest", "itertools.pairwise"].contains n=false) (hQ:Q () s):wpAny M A (letOwnedTupleGo tg (.ref it) u) Q E s:=by
  unfold letOwnedTupleGo;cases tg<;>first
    | exact wpAny_pure hQ
    | (cases u<;>first
        | exact wpAny_pure hQ
        | (refine wpAny_bind (wpAny_load ho ?_)
           rw[hc,hd];show wpAny M A (if (["enumerate", "zip", "dict_itemiterator", "dict_reverseitemiterator", "odict_iterator", "itertools.zip_longest", "itertools.pairwise"].contains n && vs[0]? == some (rawInt _))=true then _ else _) Q E s;rw[if_neg (by intro h;rw[hn,Bool.false_and] at h;cases h)]
           exact wpAny_pure hQ))
def Itl (K:PySem.W.Frag)(a:Addr):It :=
 ⟨fun i H=>∃ xs x,SqL K H a xs∧xs[i]?=some x,fun i H x H'=>H'=H∧∀ xs,SqL K H a xs→xs[i]?=some x,fun i H=>∃ xs,SqL K H a xs∧xs.length≤i⟩
def Itt (K:PySem.W.Frag)(a:Addr):It :=
 ⟨fun i H=>∃ xs x,SqT K H a xs∧xs[i]?=some x,fun i H x H'=>H'=H∧∀ xs,SqT K H a xs→xs[i]?=some x,fun i H=>∃ xs,SqT K H a xs∧xs.length≤i⟩
def Itr (lo:Int)(n:Nat):It:=⟨fun i _=>i<n,fun i H x H'=>H'=H∧x=.int (lo+i),fun i _=>n≤i⟩
theorem turn_list {P:Program}{w:World}{K:PySem.W.Frag}{tg:Expr}(a it:Addr):Turn P w K tg (Itl K a) [it] it (fun i h=>h.IsListIter it a i) where
 mem:=by simp
 obj:=fun i h st b hb=>by
  have e:b=it:=by simpa using hb
  subst e;obtain⟨o,e,c,d⟩:=st;exact⟨o,e,fun v z=>by rw[d] at z;cases z⟩
 keep:=fun i h h' st k=>st.at fun o e=>k it (by simp) o e
 item:=by
  intro X hP hw hK hc i pins s σ H E I hf st hg;subst hP hw hK;obtain⟨xs,x,hq,hx⟩:=hg;obtain⟨its,rv,p,hz⟩:=I.list hq;obtain⟨u,hu,ru⟩:=rv.get hx;obtain⟨f0,f1,f2,f3,f4,f5⟩:=hf it (by simp);refine wpAny_pyNext_list_item st p.isList (x:=u) (by simpa using hu) fun h' st' sb=>?_
  have I1:Inv X pins σ H {s with heap:=h'}:=I.turned (t':=s.toks) (fun b o hb e=>(sb.2 b hb).trans e) f0 f1 f3 f4 f5;obtain⟨o,e,c,d⟩:=id st';exact⟨u,rfl,go_of (s:={s with heap:=h'}) e c d (by decide) ⟨x,H,I1,ru,⟨rfl,fun ys hy=>by rw[I.list_inj hy hq];exact hx⟩,st',fun b hb=>(hf b hb).1⟩⟩
 done:=by
  intro X hP hw hK hc i pins s σ H E I hf st hg;subst hP hw hK;obtain⟨xs,hq,hx⟩:=hg;obtain⟨its,rv,p,hz⟩:=I.list hq;obtain⟨f0,f1,f2,f3,f4,f5⟩:=hf it (by simp);have hl:=rv.length;exact wpAny_pyNext_list_end (I.ok.hd hc) st p.isList (by simp;omega) fun h' eb=>⟨rfl,I.turned (t':=s.toks) (fun b o hb e=>eb b o hb e) f0 f1 f3 f4 f5⟩
 self:=fun _ _ _ _ _ st h=>wpAny_pyIter_listiter st h
theorem turn_tuple {P:Program}{w:World}{K:PySem.W.Frag}{tg:Expr}(a it:Addr):Turn P w K tg (Itt K a) [it] it (fun i h=>h.IsTupleIter it a i) where
 mem:=by simp
 obj:=fun i h st b hb=>by
  have e:b=it:=by simpa using hb
  subst e;obtain⟨o,e,c,d⟩:=st;exact⟨o,e,fun v z=>by rw[d] at z;cases z⟩
 keep:=fun i h h' st k=>st.at fun o e=>k it (by simp) o e
 item:=by
  intro X hP hw hK hc i pins s σ H E I hf st hg;subst hP hw hK;obtain⟨xs,x,hq,hx⟩:=hg;obtain⟨its,rv,p,hz⟩:=I.tuple hq;obtain⟨u,hu,ru⟩:=rv.get hx;obtain⟨f0,f1,f2,f3,f4,f5⟩:=hf it (by simp);refine wpAny_pyNext_tuple_item st (show s.heap.IsTuple a its.toArray from p) (x:=u) (by simpa using hu) fun h' st' sb=>?_
  have I1:Inv X pins σ H {s with heap:=h'}:=I.turned (t':=s.toks) (fun b o hb e=>(sb.2 b hb).trans e) f0 f1 f3 f4 f5;obtain⟨o,e,c,d⟩:=id st';exact⟨u,rfl,go_of (s:={s with heap:=h'}) e c d (by decide) ⟨x,H,I1,ru,⟨rfl,fun ys hy=>by rw[I.tuple_inj hy hq];exact hx⟩,st',fun b hb=>(hf b hb).1⟩⟩
 done:=by
  intro X hP hw hK hc i pins s σ H E I hf st hg;subst hP hw hK;obtain⟨xs,hq,hx⟩:=hg;obtain⟨its,rv,p,hz⟩:=I.tuple hq;obtain⟨f0,f1,f2,f3,f4,f5⟩:=hf it (by simp);have hl:=rv.length;exact wpAny_pyNext_tuple_end (I.ok.hd hc) st (show s.heap.IsTuple a its.toArray from p) (by simp;omega) fun h' eb=>⟨rfl,I.turned (t':=s.toks) (fun b o hb e=>eb b o hb e) f0 f1 f3 f4 f5⟩
 self:=fun _ _ _ _ _ st h=>wpAny_pyIter_tupleiter st h
theorem turn_range {P:Program}{w:World}{K:PySem.W.Frag}{tg:Expr}(it:Addr)(lo:Int)(n:Nat):Turn P w K tg (Itr lo n) [it] it (fun i h=>IsRangeIter h it (lo+(i:Nat)*1) ((n:Int)-(i:Nat)) 1) where
 mem:=by simp
 obj:=fun i h st b hb=>by
  have e:b=it:=by simpa using hb
  subst e
  exact⟨_,st,fun v z=>by
   have z':Data.fields _=Data.cell v:=z
   cases z'⟩
 keep:=fun i h h' st k=>k it (by simp) _ st
 item:=by
  intro X hP hw hK hc i pins s σ H E I hf st hg;subst hP hw hK;obtain⟨f0,f1,f2,f3,f4,f5⟩:=hf it (by simp);have W:=Walks.range (prog:=X.prog) (w:=X.w) (I.ok.hd hc) it lo 1 n;refine W.item i s _ _ hg st fun v h' tk hv st' kk=>?_
  obtain⟨t,rfl⟩:=hv;have I1:Inv X pins σ H {s with heap:=h',toks:=tk}:=I.turned (fun b o hb e=>kk b o (by simpa using hb) e) f0 f1 f3 f4 f5;refine⟨_,rfl,go_of (s:={s with heap:=h',toks:=tk}) (n:="range_iterator") st' rfl rfl (by decide) ⟨.int (lo+i),H,I1,⟨t,?_⟩,⟨rfl,rfl⟩,st',fun b hb=>(hf b hb).1⟩⟩;rw[Int.mul_one]
 done:=by
  intro X hP hw hK hc i pins s σ H E I hf st hg;subst hP hw hK;obtain⟨f0,f1,f2,f3,f4,f5⟩:=hf it (by simp);exact wpAny_pyNext_range_end (I.ok.hd hc) st (by have:n≤i:=hg;omega) fun h' eb=>⟨rfl,I.turned (t':=s.toks) (fun b o hb e=>eb b o hb e) f0 f1 f3 f4 f5⟩
 self:=fun _ _ _ _ _ st h=>wpAny_pyIter_rangeiter st h
end L2
namespace L2
open PySem PySem.Spec PyProof.Rows
section
variable {X:Cx}{tg:Expr}
def iList (K:PySem.W.Frag)(tl:TE):TI:=fun σ H R=>tl σ H fun x H1=>∃ a,x=.ref a∧(∃ xs,SqL K H1 a xs)∧R (Itl K a) H1
def iTup (K:PySem.W.Frag)(tl:TE):TI:=fun σ H R=>tl σ H fun x H1=>∃ a,x=.ref a∧(∃ xs,SqT K H1 a xs)∧R (Itt K a) H1
theorem pi_list {l:Expr}{tl:TE}(hl:PE X l tl):PI X tg l (iList X.K tl):=by
 intro pins s σ H R I h;refine thn (hl pins s σ H _ I h) fun v s1 ⟨x,H1,I1,r1,q1⟩=>?_
 obtain⟨a,e,⟨xs,hq⟩,q⟩:=q1;subst e;cases r1;obtain⟨its,rv,p,hz⟩:=I1.list hq;refine wpAny_pyIter_list p.isList ?_;refine⟨s1.heap.objs.size,[s1.heap.objs.size],_,_,H1,rfl,I1.kept (t':=s1.toks) fun b o e=>Heap.get?_push_of_some _ e,turn_list a _,⟨_,Heap.get?_push_size _ rfl,rfl,rfl⟩,fun b hb=>?_,q⟩;have e:b=s1.heap.objs.size:=by simpa using hb
 subst e;exact I1.fpOk (Nat.le_refl _) (I1.hok.fresh (Nat.le_refl _))
theorem pi_tup {l:Expr}{tl:TE}(hl:PE X l tl):PI X tg l (iTup X.K tl):=by
 intro pins s σ H R I h;refine thn (hl pins s σ H _ I h) fun v s1 ⟨x,H1,I1,r1,q1⟩=>?_
 obtain⟨a,e,⟨xs,hq⟩,q⟩:=q1;subst e;cases r1;obtain⟨its,rv,p,hz⟩:=I1.tuple hq;refine wpAny_pyIter_tuple (show s1.heap.IsTuple a its.toArray from p) ?_;refine⟨s1.heap.objs.size,[s1.heap.objs.size],_,_,H1,rfl,I1.kept (t':=s1.toks) fun b o e=>Heap.get?_push_of_some _ e,turn_tuple a _,⟨_,Heap.get?_push_size _ rfl,rfl,rfl⟩,fun b hb=>?_,q⟩;have e:b=s1.heap.objs.size:=by simpa using hb
 subst e;exact I1.fpOk (Nat.le_refl _) (I1.hok.fresh (Nat.le_refl _))
theorem range_it {pins:List (Addr×Obj)}{σ:St}{H:Hp}{s:Shared}{R:It→Hp→Prop}{E:Value→Shared→Prop}{lo hi:Int}{t u v:Tok}{tk:Nat}(I:Inv X pins σ H s)(h1:-(2 ^ 62)≤lo)(h2:lo<2 ^ 62)(h3:-(2 ^ 62)≤hi)(h4:hi<2 ^ 62)
  (q:R (Itr lo (hi-lo).toNat) H):wpAny (model X.prog X.w) X.A (pyIter (.ref s.heap.objs.size)) (PIE X pins σ tg R) E {s with heap:=s.heap.push {cls:=.type "range",data:=.fields #[.int lo t,.int hi u,.int 1 v]},toks:=tk}:=by
 refine wpAny_pyIter_range (IsRange.new ..) (small_one h1 h2 h3 h4) ?_;have I1:Inv X pins σ H {s with heap:=s.heap.push {cls:=.type "range",data:=.fields #[.int lo t,.int hi u,.int 1 v]},toks:=tk}:=I.kept fun b o e=>Heap.get?_push_of_some _ e
 refine⟨(s.heap.push {cls:=.type "range",data:=.fields #[.int lo t,.int hi u,.int 1 v]}).objs.size,[(s.heap.push {cls:=.type "range",data:=.fields #[.int lo t,.int hi u,.int 1 v]}).objs.size],_,_,H,rfl,
  I1.kept (t':=tk) fun b o e=>Heap.get?_push_of_some _ e,turn_range _ lo (hi-lo).toNat,?_,fun b hb=>?_,q⟩
 ·have e1:lo+((0:Nat):Int)*1=lo:=by simp
  have e2:(((hi-lo).toNat:Nat):Int)-((0:Nat):Int)=Builtin.Range.rangeSize lo hi 1:=by rw[rangeSize_one];split<;>omega
  show IsRangeIter _ _ (lo+((0:Nat):Int)*1) ((((hi-lo).toNat:Nat):Int)-((0:Nat):Int)) 1;rw[e1,e2];exact Heap.get?_push_size _ rfl
 ·have e:b=(s.heap.push {cls:=.type "range",data:=.fields #[.int lo t,.int hi u,.int 1 v]}).objs.size:=by simpa using hb
  subst e;exact I1.fpOk (Nat.le_refl _) (I1.hok.fresh (Nat.le_refl _))
def iRng1 (ta:TA):TI:=fun σ H R=>ta σ H fun vs H1=>∃ j:Int,vs=[.int j]∧-(2 ^ 62)≤j∧j<2 ^ 62∧R (Itr 0 j.toNat) H1
def iRng2 (ta:TA):TI:=fun σ H R=>ta σ H fun vs H1=>∃ i j:Int,vs=[.int i,.int j]∧(-(2 ^ 62)≤i∧i<2 ^ 62∧-(2 ^ 62)≤j∧j<2 ^ 62)∧R (Itr i (j-i).toNat) H1
theorem pi_range1 {a:Expr}{ta:TA}{p pos:Pos}(hg:Gl X "range")(hm:X.mg "range"=none)(ha:PA X [a] ta)(hs:starEach [a] X.env=[(false,eval a X.env)]:=by rfl):PI X tg (.Call (.Name "range" p) [a] [] pos) (iRng1 ta):=by
 intro pins s σ H R I h;refine Call_ (ld_blt I hg hm boot_range (PyProof.Rows.callWith_type1 (thn (ha pos pins s σ H _ I h) fun us s1 ⟨vs,H1,I1,r1,q1⟩=>?_) hs rfl));obtain⟨j,e,q1,q2,q⟩:=q1;subst e;cases r1 with
 | cons r rr =>
  cases rr;obtain⟨t,rfl⟩:=r;exact call_range_1 (range_it I1 (by omega) (by omega) q1 q2 (by simpa using q))
theorem pi_range2 {a b:Expr}{ta:TA}{p pos:Pos}(hg:Gl X "range")(hm:X.mg "range"=none)(ha:PA X [a,b] ta)(hs:starEach [a,b] X.env=[(false,eval a X.env),(false,eval b X.env)]:=by rfl)(hs2:starEach [b] X.env=[(false,eval b X.env)]:=by rfl) :
  PI X tg (.Call (.Name "range" p) [a,b] [] pos) (iRng2 ta):=by
 intro pins s σ H R I h;refine Call_ (ld_blt I hg hm boot_range (PyProof.Rows.callWith_type1 (thn (ha pos pins s σ H _ I h) fun us s1 ⟨vs,H1,I1,r1,q1⟩=>?_) (by rw[hs,hs2]) (by rw[hs2];rfl)));obtain⟨i,j,e,⟨q1,q2,q3,q4⟩,q⟩:=q1;subst e;cases r1 with
 | cons r rr =>
  cases rr with
  | cons r' rr =>
   cases rr;obtain⟨t,rfl⟩:=r;obtain⟨t',rfl⟩:=r';exact call_range_2 (range_it I1 q1 q2 q3 q4 q)
def tFor (wi:TI)(g:TG)(tb:TS):TS:=fun D σ H=>wi σ H fun J H1=>∃ W:Nat→Nat→St→Hp→Prop,(∃ m,W 0 m σ H1)∧∀ i m σ H,W i m σ H →
 (J.stop i H∧D.nx σ H)∨(J.go i H∧∃ N:St→Hp→Prop,(∀ σ' H',N σ' H'→∃ m',m'<m∧W (i+1) m' σ' H')∧∀ x H',J.yld i H x H'→g x σ H' fun σ2 H2=>tb {D with nx:=N,ct:=N,bk:=D.nx} σ2 H2)
def pinsAt (fp:List Addr)(h:Heap):List (Addr×Obj):=fp.filterMap fun b=>(h.get? b).map fun o=>(b,o)
theorem mem_pinsAt {fp:List Addr}{h:Heap}{b:Addr}{o:Obj}(hb:b∈fp)(e:h.get? b=some o):(b,o)∈pinsAt fp h:=List.mem_filterMap.mpr ⟨b,hb,by rw[e];rfl⟩
theorem of_pinsAt {fp:List Addr}{h:Heap}{p:Addr×Obj}(hp:p∈pinsAt fp h):p.1∈fp∧h.get? p.1=some p.2:=by
 obtain⟨b,hb,e⟩:=List.mem_filterMap.mp hp;cases q:h.get? b with
 | none=>rw[q] at e;cases e
 | some o =>
  rw[q] at e;have e':(b,o)=p:=Option.some.inj e;subst e';exact⟨hb,q⟩
theorem Inv.pinned {pins:List (Addr×Obj)}{σ:St}{H:Hp}{s:Shared}{fp:List Addr}(I:Inv X pins σ H s)(hf:∀ b∈fp,FpOk X pins H b)(ho:∀ b∈fp,∃ o,s.heap.get? b=some o∧∀ v,o.data≠.cell v):Inv X (pins++pinsAt fp s.heap) σ H s :=
 I.pins_of fun p hp=>(List.mem_append.mp hp).elim (fun z=>I.pin p (List.mem_append_right _ z)) fun z=>by
  obtain⟨hb,e⟩:=of_pinsAt z;obtain⟨f0,f1,f2,_⟩:=hf p.1 hb;obtain⟨o,e',d⟩:=ho p.1 hb;rw[e] at e';cases e';exact⟨e,f0,f1,f2,d⟩
theorem Inv.unpinned {pins pl:List (Addr×Obj)}{σ:St}{H:Hp}{s:Shared}(I:Inv X (pins++pl) σ H s):Inv X pins σ H s:=I.pins_of fun p hp=>I.pin p (List.mem_append_right _ (List.mem_append_left _ hp))
theorem ps_for {iter:Expr}{body:List Stmt}{wi:TI}{g:TG}{tb:TS}{pos:Pos}(hp:PassesOwn (model X.prog X.w) X.A X.env X.xe)(hc:X.calm=true)(hi:PI X tg iter wi)(hg:PG X tg g)(hb:PSs X body tb)
  (hs:∀ x,foldedSetIterable iter X.env x=pure x:=by intro _;rfl):PS X (.For tg iter body [] pos) (tFor wi g tb):=by
 intro pins s σ H D I h;refine wpAny_For (thn (hi pins s σ H _ I h) fun v s1 h1=>thn h1 fun itv s2 h2=>?_) hs;obtain⟨it,fp,tn,J,H2,e,I2,T,st2,f2,W,⟨m0,w0⟩,turn⟩:=h2;subst e;have stat:∀ {H':Hp},(∀ b∈fp,H' b=none)→∀ b∈fp,FpOk X pins H' b:=fun hn b hb=>⟨hn b hb,(f2 b hb).2⟩
 refine codeAny_forLoop_any (fun n s'=>∃ i σ' H',Inv X pins σ' H' s'∧tn i s'.heap∧(∀ b∈fp,H' b=none)∧W i n σ' H') ?_ m0 ⟨0,σ,H2,I2,st2,fun b hb=>(f2 b hb).1,w0⟩;rintro n s3 ⟨i,σ3,H3,I3,st3,fr3,w3⟩;rcases turn i n σ3 H3 w3 with ⟨stop,qn⟩ | ⟨go,N,hN,step⟩
 ·refine wpAny_passesOwn hp (thn (T.done X rfl rfl rfl hc i pins s3 σ3 H3 X.xe I3 (stat fr3) st3 stop) fun r s4 ⟨hr,I4⟩=>?_);subst hr;exact wpAny_execs_nil ⟨σ3,H3,I4,qn⟩
 ·refine wpAny_passesOwn hp (thn (T.item X rfl rfl rfl hc i pins s3 σ3 H3 X.xe I3 (stat fr3) st3 go) fun r s4 ⟨u,hr,h4⟩=>?_);subst hr;refine wpAny_passesOwn hp (thn h4 fun _ s5 ⟨x,H5,I5,r5,y5,st5,fr5⟩=>?_);have I5':=I5.pinned (stat fr5) (T.obj _ _ st5);refine wpAny_passesOwn hp (thn (hg _ s5 σ3 H5 x u _ I5' r5 (step x H5 y5)) fun _ s6 ⟨σ6,H6,I6,q6⟩=>?_);refine wpAny_passesOwn hp (thn (hb _ s6 σ6 H6 _ I6 q6) fun f s7 q7=>?_);have again:∀ {σ7:St} {H7:Hp},Inv X (pins++pinsAt fp s5.heap) σ7 H7 s7→N σ7 H7→∃ m,m<n∧∃ i σ' H',Inv X pins σ' H' s7∧tn i s7.heap∧(∀ b∈fp,H' b=none)∧W i m σ' H':=fun {σ7 H7} I7 n7=>by
   obtain⟨m',hm,w7⟩:=hN σ7 H7 n7;refine⟨m',hm,i+1,σ7,H7,I7.unpinned,T.keep _ _ _ st5 fun b hb o e=>(I7.pin (b,o) (List.mem_append_right _ (List.mem_append_right _ (mem_pinsAt hb e)))).1,fun b hb=>?_,w7⟩;obtain⟨o,e,d⟩:=T.obj _ _ st5 b hb;exact (I7.pin (b,o) (List.mem_append_right _ (List.mem_append_right _ (mem_pinsAt hb e)))).2.1
  cases f with
  | next=>obtain⟨σ7,H7,I7,n7⟩:=q7;exact again I7 n7
  | cont=>obtain⟨σ7,H7,I7,n7⟩:=q7;exact again I7 n7
  | brk=>obtain⟨σ7,H7,I7,q7⟩:=q7;exact⟨σ7,H7,I7.unpinned,q7⟩
  | ret v=>obtain⟨x7,σ7,H7,I7,r7,q7⟩:=q7;exact⟨x7,σ7,H7,I7.unpinned,r7,q7⟩
end
theorem for_list {K:PySem.W.Frag}{a:Addr}{xs:List V}{g:TG}{tb:TS}{D:Ends}{σ:St}{H:Hp}(Pv:Nat→St→Hp→Prop)(h0:Pv 0 σ H)(hl:∀ i σ H,i≤xs.length→Pv i σ H→SqL K H a xs)
  (hs:∀ i x σ H,xs[i]?=some x→Pv i σ H→g x σ H fun σ2 H2=>tb {D with nx:=Pv (i+1),ct:=Pv (i+1),bk:=D.nx} σ2 H2) (hd:∀ σ H,Pv xs.length σ H→D.nx σ H) :
  ∃ W:Nat→Nat→St→Hp→Prop,(∃ m,W 0 m σ H)∧∀ i m σ H,W i m σ H →
   ((Itl K a).stop i H∧D.nx σ H)∨((Itl K a).go i H∧∃ N:St→Hp→Prop,(∀ σ' H',N σ' H'→∃ m',m'<m∧W (i+1) m' σ' H')∧∀ x H',(Itl K a).yld i H x H'→g x σ H' fun σ2 H2=>tb {D with nx:=N,ct:=N,bk:=D.nx} σ2 H2):=by
 refine⟨fun i m σ H=>m=xs.length-i∧i≤xs.length∧Pv i σ H,⟨xs.length,by simp,Nat.zero_le _,h0⟩,?_⟩;rintro i m σ H ⟨rfl,hi,p⟩;have q:=hl i σ H hi p;by_cases hlt:i<xs.length
 ·refine .inr ⟨⟨xs,xs[i],q,by simp[hlt]⟩,Pv (i+1),fun σ' H' p'=>⟨xs.length-(i+1),by omega,rfl,hlt,p'⟩,fun x H' y=>?_⟩;obtain⟨e,y⟩:=y;subst e;exact hs i x σ _ (y xs q) p
 ·have e:i=xs.length:=by omega
  subst e;exact .inl ⟨⟨xs,q,Nat.le_refl _⟩,hd σ H p⟩
theorem for_tup {K:PySem.W.Frag}{a:Addr}{xs:List V}{g:TG}{tb:TS}{D:Ends}{σ:St}{H:Hp}(Pv:Nat→St→Hp→Prop)(h0:Pv 0 σ H)(hl:∀ i σ H,i≤xs.length→Pv i σ H→SqT K H a xs)
  (hs:∀ i x σ H,xs[i]?=some x→Pv i σ H→g x σ H fun σ2 H2=>tb {D with nx:=Pv (i+1),ct:=Pv (i+1),bk:=D.nx} σ2 H2) (hd:∀ σ H,Pv xs.length σ H→D.nx σ H) :
  ∃ W:Nat→Nat→St→Hp→Prop,(∃ m,W 0 m σ H)∧∀ i m σ H,W i m σ H →
   ((Itt K a).stop i H∧D.nx σ H)∨((Itt K a).go i H∧∃ N:St→Hp→Prop,(∀ σ' H',N σ' H'→∃ m',m'<m∧W (i+1) m' σ' H')∧∀ x H',(Itt K a).yld i H x H'→g x σ H' fun σ2 H2=>tb {D with nx:=N,ct:=N,bk:=D.nx} σ2 H2):=by
 refine⟨fun i m σ H=>m=xs.length-i∧i≤xs.length∧Pv i σ H,⟨xs.length,by simp,Nat.zero_le _,h0⟩,?_⟩;rintro i m σ H ⟨rfl,hi,p⟩;have q:=hl i σ H hi p;by_cases hlt:i<xs.length
 ·refine .inr ⟨⟨xs,xs[i],q,by simp[hlt]⟩,Pv (i+1),fun σ' H' p'=>⟨xs.length-(i+1),by omega,rfl,hlt,p'⟩,fun x H' y=>?_⟩;obtain⟨e,y⟩:=y;subst e;exact hs i x σ _ (y xs q) p
 ·have e:i=xs.length:=by omega
  subst e;exact .inl ⟨⟨xs,q,Nat.le_refl _⟩,hd σ H p⟩
theorem for_range {lo:Int}{n:Nat}{g:TG}{tb:TS}{D:Ends}{σ:St}{H:Hp}(Pv:Nat→St→Hp→Prop)(h0:Pv 0 σ H)
  (hs:∀ i σ H,i<n→Pv i σ H→g (.int (lo+i)) σ H fun σ2 H2=>tb {D with nx:=Pv (i+1),ct:=Pv (i+1),bk:=D.nx} σ2 H2) (hd:∀ σ H,Pv n σ H→D.nx σ H) :
  ∃ W:Nat→Nat→St→Hp→Prop,(∃ m,W 0 m σ H)∧∀ i m σ H,W i m σ H →
   ((Itr lo n).stop i H∧D.nx σ H)∨((Itr lo n).go i H∧∃ N:St→Hp→Prop,(∀ σ' H',N σ' H'→∃ m',m'<m∧W (i+1) m' σ' H')∧∀ x H',(Itr lo n).yld i H x H'→g x σ H' fun σ2 H2=>tb {D with nx:=N,ct:=N,bk:=D.nx} σ2 H2):=by
 refine⟨fun i m σ H=>m=n-i∧i≤n∧Pv i σ H,⟨n,by simp,Nat.zero_le _,h0⟩,?_⟩;rintro i m σ H ⟨rfl,hi,p⟩;by_cases hlt:i<n
 ·refine .inr ⟨hlt,Pv (i+1),fun σ' H' p'=>⟨n-(i+1),by omega,rfl,hlt,p'⟩,fun x H' y=>?_⟩;obtain⟨e,y⟩:=y;subst e y;exact hs i σ _ hlt p
 ·have e:i=n:=by omega
  subst e;exact .inl ⟨Nat.le_refl _,hd σ H p⟩
theorem while_by {c:TT}{tb:TS}{D:Ends}{σ:St}{H:Hp}(Pv:St→Hp→Prop)(μ:St→Hp→Nat)(h0:Pv σ H)
  (hs:∀ σ H,Pv σ H→c σ H fun b H1=>if b=true then tb {D with nx:=fun σ' H'=>Pv σ' H'∧μ σ' H'<μ σ H,ct:=fun σ' H'=>Pv σ' H'∧μ σ' H'<μ σ H,bk:=D.nx} σ H1 else D.nx σ H1)
  (mono:∀ σ H Q Q',(∀ b H1,Q b H1→Q' b H1)→c σ H Q→c σ H Q'):tWhile c tb D σ H:=by
 refine⟨fun m σ H=>m=μ σ H∧Pv σ H,⟨_,rfl,h0⟩,?_⟩;rintro m σ H ⟨rfl,p⟩;refine mono σ H _ _ (fun b H1 q=>?_) (hs σ H p);cases b with
 | true=>exact⟨_,fun σ' H' ⟨p',l⟩=>⟨_,l,rfl,p'⟩,q⟩
 | false=>exact q
end L2
namespace L2
open PySem PySem.Spec PyProof.Rows
abbrev R2:=V→V→Hp→VK→Prop
def OpR (X:Cx)(f:Value→Value→Sem Value)(r:R2):Prop :=
 ∀ (pins:List (Addr×Obj)) (s:Shared) (σ:St) (H:Hp) (x y:V) (v u:Value) (Q:VK),Inv X pins σ H s→RelV x v→RelV y u→r x y H Q →
  wpAny (model X.prog X.w) X.A (f v u) (EP X pins σ Q) X.xe s
def UnR (X:Cx)(f:Value→Sem Value)(r:V→Hp→VK→Prop):Prop :=
 ∀ (pins:List (Addr×Obj)) (s:Shared) (σ:St) (H:Hp) (x:V) (v:Value) (Q:VK),Inv X pins σ H s→RelV x v→r x H Q →
  wpAny (model X.prog X.w) X.A (f v) (EP X pins σ Q) X.xe s
def CallR (X:Cx)(f:Value)(r:List V→Hp→VK→Prop):Prop :=
 ∀ (pins:List (Addr×Obj)) (s:Shared) (σ:St) (H:Hp) (xs:List V) (us:List Value) (Q:VK),Inv X pins σ H s→Vals xs us→r xs H Q →
  wpAny (model X.prog X.w) X.A (call f us) (EP X pins σ Q) X.xe s
def TruR (X:Cx)(r:V→Hp→(Bool→Hp→Prop)→Prop):Prop :=
 ∀ (pins:List (Addr×Obj)) (s:Shared) (σ:St) (H:Hp) (x:V) (v:Value) (Q:Bool→Hp→Prop),Inv X pins σ H s→RelV x v→r x H Q →
  wpAny (model X.prog X.w) X.A (truthy v) (TP X pins σ Q) X.xe s
def tOp (r:R2)(ta tb:TE):TE:=fun σ H Q=>ta σ H fun x H1=>tb σ H1 fun y H2=>r x y H2 Q
def tUn (r:V→Hp→VK→Prop)(ta:TE):TE:=fun σ H Q=>ta σ H fun x H1=>r x H1 Q
def rI (C:Int→Int→Prop)(g:Int→Int→V):R2:=fun x y H Q=>∃ i j,x=.int i∧y=.int j∧C i j∧Q (g i j) H
def rI0 (g:Int→Int→V):R2:=fun x y H Q=>∃ i j,x=.int i∧y=.int j∧Q (g i j) H
def rU (g:Int→V):V→Hp→VK→Prop:=fun x H Q=>∃ i,x=.int i∧Q (g i) H
section
variable {X:Cx}{a b c:Expr}{ta tb tc:TE}{pos:Pos}
theorem binT (ha:PE X a ta)(hb:PE X b tb){pins:List (Addr×Obj)}{s:Shared}{σ:St}{H:Hp}{R:V→V→Hp→Prop}(I:Inv X pins σ H s)
  (h:ta σ H fun x H1=>tb σ H1 fun y H2=>R x y H2) {Q:Value→Shared→Prop} {f:Value→Value→Sem Value}
  (hf:∀ v u s2 x y H2,Inv X pins σ H2 s2→RelV x v→RelV y u→R x y H2→wpAny (model X.prog X.w) X.A (f v u) Q X.xe s2) :
  wpAny (model X.prog X.w) X.A (eval a X.env) (fun v s₁=>wpAny (model X.prog X.w) X.A (eval b X.env) (fun u s₂=>wpAny (model X.prog X.w) X.A (f v u) Q X.xe s₂) X.xe s₁) X.xe s:=by
 refine thn (ha pins s σ H _ I h) fun v s1 ⟨x,H1,I1,r1,q1⟩=>?_
 refine thn (hb pins s1 σ H1 _ I1 q1) fun u s2 ⟨y,H2,I2,r2,q2⟩=>?_
 exact hf v u s2 x y H2 I2 r1 r2 q2
theorem pe_op {op:Operator}{r:R2}(ho:OpR X (binaryOp op) r)(ha:PE X a ta)(hb:PE X b tb):PE X (.BinOp a op b pos) (tOp r ta tb):=by
 intro pins s σ H Q I h;exact wpAny_BinOp (binT ha hb I h fun v u s2 x y H2 I2 rx ry q=>ho pins s2 σ H2 x y v u Q I2 rx ry q)
theorem pe_un {op:UnaryOp}{r:V→Hp→VK→Prop}(ho:UnR X (unaryOp op) r)(ha:PE X a ta):PE X (.UnaryOp op a pos) (tUn r ta):=by
 intro pins s σ H Q I h;exact UnaryOp_ (thn (ha pins s σ H _ I h) fun v s1 ⟨x,H1,I1,r1,q1⟩=>ho pins s1 σ H1 x v Q I1 r1 q1)
theorem opI {f:Value→Value→Sem Value}{C:Int→Int→Prop}{g:Int→Int→Int}
  (rule:∀ (i j:Int) (t u:Tok) (s:Shared) (Q:Value→Shared→Prop) (E:Value→Shared→Prop),C i j→Q (.int (g i j) s.toks) {s with toks:=s.toks+1}→wpAny (model X.prog X.w) X.A (f (.int i t) (.int j u)) Q E s) :
  OpR X f (rI C fun i j=>.int (g i j)):=by
 intro pins s σ H x y v u Q I rx ry h;obtain⟨i,j,rfl,rfl,hc,q⟩:=h;obtain⟨t,rfl⟩:=rx;obtain⟨t',rfl⟩:=ry;exact rule i j t t' s _ _ hc ⟨.int (g i j),H,I.tok _,⟨_,rfl⟩,q⟩
theorem opI0 {f:Value→Value→Sem Value}{g:Int→Int→Int}
  (rule:∀ (i j:Int) (t u:Tok) (s:Shared) (Q:Value→Shared→Prop) (E:Value→Shared→Prop),Q (.int (g i j) s.toks) {s with toks:=s.toks+1}→wpAny (model X.prog X.w) X.A (f (.int i t) (.int j u)) Q E s) :
  OpR X f (rI0 fun i j=>.int (g i j)):=by
 intro pins s σ H x y v u Q I rx ry h;obtain⟨i,j,rfl,rfl,q⟩:=h;obtain⟨t,rfl⟩:=rx;obtain⟨t',rfl⟩:=ry;exact rule i j t t' s _ _ ⟨.int (g i j),H,I.tok _,⟨_,rfl⟩,q⟩
theorem opB0 {f:Value→Value→Sem Value}{g:Int→Int→Bool}
  (rule:∀ (i j:Int) (t u:Tok) (s:Shared) (Q:Value→Shared→Prop) (E:Value→Shared→Prop),Q (.bool (g i j)) s→wpAny (model X.prog X.w) X.A (f (.int i t) (.int j u)) Q E s) :
  OpR X f (rI0 fun i j=>.bl (g i j)):=by
 intro pins s σ H x y v u Q I rx ry h;obtain⟨i,j,rfl,rfl,q⟩:=h;obtain⟨t,rfl⟩:=rx;obtain⟨t',rfl⟩:=ry;exact rule i j t t' s _ _ ⟨.bl (g i j),H,I,rfl,q⟩
def CDiv (i j:Int):Prop:=0<j∧j<1073741824
def CPow (i j:Int):Prop:=0≤j∧j≤1000000∧i.natAbs<2 ^ 64
def CMul (i j:Int):Prop:=(-(2 ^ 64)<i∧i<2 ^ 64)∨(-(2 ^ 64)<j∧j<2 ^ 64)
theorem CMul.ok {i j:Int}(h:CMul i j):IntMulOk i j:=by
 rcases h with ⟨h1,h2⟩ | ⟨h1,h2⟩
 ·exact .of_left (intBits_le_64 h1 h2)
 ·exact .of_right (intBits_le_64 h1 h2)
theorem two_pow_nn (k:Nat):(0:Int)≤2 ^ k:=by
 rw[two_pow_cast];exact Int.natCast_nonneg _
theorem op_add:OpR X (binaryOp .Add) (rI0 fun i j=>.int (i+j)):=opI0 fun _ _ _ _ _ _ _ q=>add_int q
theorem op_sub:OpR X (binaryOp .Sub) (rI0 fun i j=>.int (i-j)):=opI0 fun _ _ _ _ _ _ _ q=>sub_int q
theorem op_mul:OpR X (binaryOp .Mult) (rI CMul fun i j=>.int (i*j)):=opI fun _ _ _ _ _ _ _ hc q=>mul_int q hc.ok
theorem op_fdiv:OpR X (binaryOp .FloorDiv) (rI CDiv fun i j=>.int (i / j)):=opI fun i j _ _ _ _ _ hc q=>by
 have h1:(0:Int)<j:=hc.1;have h2:j<1073741824:=hc.2;exact floordiv_int (by omega) (by rw[Int.fdiv_eq_ediv_of_nonneg i (by omega)];exact q) (.inl (PyProof.noPylong_small (by omega)))
theorem op_mod:OpR X (binaryOp .Mod) (rI (fun _ j=>0<j) fun i j=>.int (i % j)):=opI fun i j _ _ _ _ _ hc q=>by
 have h1:(0:Int)<j:=hc;exact mod_int' (by omega) (by rw[Int.fmod_eq_emod_of_nonneg i (by omega)];exact q)
theorem op_pow:OpR X (binaryOp .Pow) (rI CPow fun i j=>.int (i ^ j.toNat)):=opI fun _ _ _ _ _ _ _ hc q=>pow_int_small hc.1 hc.2.1 hc.2.2 q
theorem op_shl:OpR X (binaryOp .LShift) (rI CPow fun i j=>.int (i*2 ^ j.toNat)):=opI fun _ _ _ _ _ _ _ hc q=>lshift_int_small hc.1 hc.2.1 hc.2.2 q
theorem op_shr:OpR X (binaryOp .RShift) (rI (fun _ j=>0≤j) fun i j=>.int (i / 2 ^ j.toNat)):=opI fun i j _ _ _ _ _ hc q =>
 rshift_int hc (by rw[Int.fdiv_eq_ediv_of_nonneg i (two_pow_nn _)];exact q)
theorem op_and:OpR X (binaryOp .BitAnd) (rI0 fun i j=>.int (Builtin.bitAnd i j)):=opI0 fun _ _ _ _ _ _ _ q=>and_int q
theorem unI {f:Value→Sem Value}{g:Int→Int}
  (rule:∀ (i:Int) (t:Tok) (s:Shared) (Q:Value→Shared→Prop) (E:Value→Shared→Prop),Q (.int (g i) s.toks) {s with toks:=s.toks+1}→wpAny (model X.prog X.w) X.A (f (.int i t)) Q E s) :
  UnR X f (rU fun i=>.int (g i)):=by
 intro pins s σ H x v Q I rx h;obtain⟨i,rfl,q⟩:=h;obtain⟨t,rfl⟩:=rx;exact rule i t s _ _ ⟨.int (g i),H,I.tok _,⟨_,rfl⟩,q⟩
theorem un_neg:UnR X (unaryOp .USub) (rU fun i=>.int (-i)):=unI fun _ _ _ _ _ q=>neg_int q
end
def scal:V→V→Bool
 | .non,.non=>true | .non,.int _=>true | .int _,.non=>true | .non,.bl _=>true | .bl _,.non=>true | .non,.str _=>true | .str _,.non=>true
 | .int _,.int _=>true | .bl _,.bl _=>true | .str _,.str _=>true | .byt _,.byt _=>true
 | .int _,.str _=>true | .str _,.int _=>true | .bl _,.str _=>true | .str _,.bl _=>true
 | _,_=>false
def rEq:R2:=fun x y H Q=>scal x y=true∧Q (.bl (decide (x=y))) H
def rNe:R2:=fun x y H Q=>scal x y=true∧Q (.bl (!decide (x=y))) H
theorem dec_int {i j:Int}:decide (V.int i=V.int j)=(i == j):=by
 rw[Bool.eq_iff_iff];simp
theorem dec_bl {i j:Bool}:decide (V.bl i=V.bl j)=(i == j):=by
 rw[Bool.eq_iff_iff];simp
theorem dec_str {i j:Str}:decide (V.str i=V.str j)=(i == j):=by
 rw[Bool.eq_iff_iff];simp
theorem dec_byt {i j:Array UInt8}:decide (V.byt i=V.byt j)=(i.toList == j.toList):=by
 rw[Bool.eq_iff_iff];cases i;cases j;simp
section
variable {X:Cx}{a b c:Expr}{ta tb tc:TE}{pos:Pos}
theorem fin_bl {pins:List (Addr×Obj)}{σ:St}{H:Hp}{s:Shared}{Q:VK}{k k':Bool}(I:Inv X pins σ H s)(q:Q (.bl k) H)(e:k=k'):EP X pins σ Q (.bool k') s:=by
 subst e;exact⟨.bl k,H,I,rfl,q⟩
theorem op_eq:OpR X (compareOp .Eq) rEq:=by
 intro pins s σ H x y v u Q I rx ry h;obtain⟨hs,q⟩:=h;cases x with
 | non =>
  cases rx;cases y with
  | non=>cases ry;exact PySem.EqNone.eq_none_none (fin_bl I q (by simp))
  | bl j=>cases ry;exact PySem.EqNone.eq_none_bool (fin_bl I q (by simp))
  | int j=>obtain⟨t',rfl⟩:=ry;exact PySem.EqNone.eq_none_int (fin_bl I q (by simp))
  | str j=>obtain⟨t',rfl⟩:=ry;exact PySem.EqNone.eq_none_str (fin_bl I q (by simp))
  | _=>exact absurd (show false=true from hs) Bool.false_ne_true
 | bl i =>
  cases rx;cases y with
  | non=>cases ry;exact PySem.EqNone.eq_bool_none (fin_bl I q (by simp))
  | bl j=>cases ry;exact eq_bool (fin_bl I q dec_bl)
  | str j=>obtain⟨t',rfl⟩:=ry;exact PySem.EqMixed.eq_bool_str (fin_bl I q (by simp))
  | _=>exact absurd (show false=true from hs) Bool.false_ne_true
 | int i =>
  obtain⟨t,rfl⟩:=rx;cases y with
  | non=>cases ry;exact PySem.EqNone.eq_int_none (fin_bl I q (by simp))
  | int j=>obtain⟨t',rfl⟩:=ry;exact eq_int (fin_bl I q dec_int)
  | str j=>obtain⟨t',rfl⟩:=ry;exact PySem.EqMixed.eq_int_str (fin_bl I q (by simp))
  | _=>exact absurd (show false=true from hs) Bool.false_ne_true
 | str i =>
  obtain⟨t,rfl⟩:=rx;cases y with
  | non=>cases ry;exact PySem.EqNone.eq_str_none (fin_bl I q (by simp))
  | bl j=>cases ry;exact PySem.EqMixed.eq_str_bool (fin_bl I q (by simp))
  | int j=>obtain⟨t',rfl⟩:=ry;exact PySem.EqMixed.eq_str_int (fin_bl I q (by simp))
  | str j=>obtain⟨t',rfl⟩:=ry;exact eq_str (fin_bl I q dec_str)
  | _=>exact absurd (show false=true from hs) Bool.false_ne_true
 | byt i =>
  obtain⟨t,rfl⟩:=rx;cases y with
  | byt j=>obtain⟨t',rfl⟩:=ry;exact PySem.W.eq_bytes (fin_bl I q dec_byt)
  | _=>exact absurd (show false=true from hs) Bool.false_ne_true
 | _=>cases y<;>exact absurd (show false=true from hs) Bool.false_ne_true
theorem op_ne:OpR X (compareOp .NotEq) rNe:=by
 intro pins s σ H x y v u Q I rx ry h;obtain⟨hs,q⟩:=h;cases x with
 | non =>
  cases rx;cases y with
  | non=>cases ry;exact PySem.EqNone.ne_none_none (fin_bl I q (by simp))
  | bl j=>cases ry;exact PySem.EqNone.ne_none_bool (fin_bl I q (by simp))
  | int j=>obtain⟨t',rfl⟩:=ry;exact PySem.EqNone.ne_none_int (fin_bl I q (by simp))
  | str j=>obtain⟨t',rfl⟩:=ry;exact PySem.EqNone.ne_none_str (fin_bl I q (by simp))
  | _=>exact absurd (show false=true from hs) Bool.false_ne_true
 | bl i =>
  cases rx;cases y with
  | non=>cases ry;exact PySem.EqNone.ne_bool_none (fin_bl I q (by simp))
  | bl j=>cases ry;exact ne_bool (fin_bl I q (congrArg not dec_bl))
  | str j=>obtain⟨t',rfl⟩:=ry;exact PySem.EqMixed.ne_bool_str (fin_bl I q (by simp))
  | _=>exact absurd (show false=true from hs) Bool.false_ne_true
 | int i =>
  obtain⟨t,rfl⟩:=rx;cases y with
  | non=>cases ry;exact PySem.EqNone.ne_int_none (fin_bl I q (by simp))
  | int j=>obtain⟨t',rfl⟩:=ry;exact ne_int (fin_bl I q (congrArg not dec_int))
  | str j=>obtain⟨t',rfl⟩:=ry;exact PySem.EqMixed.ne_int_str (fin_bl I q (by simp))
  | _=>exact absurd (show false=true from hs) Bool.false_ne_true
 | str i =>
  obtain⟨t,rfl⟩:=rx;cases y with
  | non=>cases ry;exact PySem.EqNone.ne_str_none (fin_bl I q (by simp))
  | bl j=>cases ry;exact PySem.EqMixed.ne_str_bool (fin_bl I q (by simp))
  | int j=>obtain⟨t',rfl⟩:=ry;exact PySem.EqMixed.ne_str_int (fin_bl I q (by simp))
  | str j=>obtain⟨t',rfl⟩:=ry;exact ne_str (fin_bl I q (congrArg not dec_str))
  | _=>exact absurd (show false=true from hs) Bool.false_ne_true
 | byt i =>
  obtain⟨t,rfl⟩:=rx;cases y with
  | byt j=>obtain⟨t',rfl⟩:=ry;exact PySem.W.ne_bytes (fin_bl I q (congrArg not dec_byt))
  | _=>exact absurd (show false=true from hs) Bool.false_ne_true
 | _=>cases y<;>exact absurd (show false=true from hs) Bool.false_ne_true
theorem op_lt:OpR X (compareOp .Lt) (rI0 fun i j=>.bl (decide (i<j))):=opB0 fun _ _ _ _ _ _ _ q=>lt_int q
theorem op_le:OpR X (compareOp .LtE) (rI0 fun i j=>.bl (decide (i≤j))):=opB0 fun _ _ _ _ _ _ _ q=>le_int q
theorem op_gt:OpR X (compareOp .Gt) (rI0 fun i j=>.bl (decide (j<i))):=opB0 fun _ _ _ _ _ _ _ q=>gt_int q
theorem op_ge:OpR X (compareOp .GtE) (rI0 fun i j=>.bl (decide (j≤i))):=opB0 fun _ _ _ _ _ _ _ q=>ge_int q
theorem nomark (b:Expr){op:CmpOp}(h:op≠.In:=by decide)(h2:op≠.NotIn:=by decide):behindInMarks op b=false:=by
 have e1:(op == CmpOp.In)=false:=by cases op<;>first | rfl | exact absurd rfl h
 have e2:(op == CmpOp.NotIn)=false:=by cases op<;>first | rfl | exact absurd rfl h2
 cases b<;>simp[behindInMarks,e1,e2]
theorem pe_cmpR {op:CmpOp}{r:R2}(ho:OpR X (compareOp op) r)(ha:PE X a ta)(hb:PE X b tb)(hm:behindInMarks op b=false):PE X (.Compare a [op] [b] pos) (tOp r ta tb):=by
 intro pins s σ H Q I h;exact wpAny_Compare1 (binT ha hb I h fun v u s2 x y H2 I2 rx ry q=>ho pins s2 σ H2 x y v u Q I2 rx ry q) hm
def tTest (t:TE):TT:=fun σ H Q=>t σ H fun x H'=>∃ k,x=.bl k∧Q k H'
theorem pt_cmpR {op:CmpOp}{r:R2}(ho:OpR X (compareOp op) r)(ha:PE X a ta)(hb:PE X b tb)(hm:behindInMarks op b=false):PT X (.Compare a [op] [b] pos) (tTest (tOp r ta tb)):=by
 intro pins s σ H Q I h
 refine wpAny_isTrue_Compare1 (thn (ha pins s σ H _ I h) fun v s1 ⟨x,H1,I1,r1,q1⟩=>thn (hb pins s1 σ H1 _ I1 q1) fun u s2 ⟨y,H2,I2,r2,q2⟩ =>
  thn (ho pins s2 σ H2 x y v u _ I2 r1 r2 q2) fun c s3 ⟨z,H3,I3,r3,k,e,q3⟩=>?_) hm
 subst e;cases r3;exact wpAny_truthy_bool ⟨H3,I3,q3⟩
def tChain (r r':R2)(ta tb tc:TE):TE:=fun σ H Q=>ta σ H fun x H1=>tb σ H1 fun y H2=>r x y H2 fun z H3=>∃ k,z=.bl k ∧
 (if k=true then tc σ H3 fun w' H4=>r' y w' H4 Q else Q (.bl false) H3)
def TruV (K:PySem.W.Frag)(x:V)(H:Hp)(k:Bool):Prop :=
 match x with
 | .non=>k=false
 | .bl b=>k=b
 | .int i=>k=(i != 0)
 | .str y=>y.length≤sizeLine∧k=((y.length:Int) != 0)
 | .byt y=>y.size≤sizeLine∧k=((y.size:Int) != 0)
 | .ref p=>(∃ xs,SqL K H p xs∧k=!xs.isEmpty)∨(∃ xs,SqT K H p xs∧k=!xs.isEmpty)∨∃ kvs,H p=some (.dK kvs)∧k=!kvs.isEmpty
 | _=>False
theorem isEmpty_kv {κ:Type}{kvs:List (κ×V)}{vs:List (κ×Value)}(r:KV kvs vs):(!vs.isEmpty)=!kvs.isEmpty:=by
 cases r<;>rfl
theorem isEmpty_of {xs:List V}{its:List Value}(r:Vals xs its):(!its.toArray.isEmpty)=!xs.isEmpty:=by
 cases r<;>simp
theorem line63:(sizeLine:Nat)<2 ^ 63:=by rw[sizeLine_eq];decide
theorem tru_ok:TruR X (fun x H Q=>∃ k,TruV X.K x H k∧Q k H):=by
 intro pins s σ H x v Q I rx h;obtain⟨k,e,q⟩:=h;have hl:=line63;have hs:sizeLine=16777216:=sizeLine_eq;cases x with
 | non =>
  cases rx;have e':k=false:=e;subst e';exact truthy_none ⟨H,I,q⟩
 | bl b =>
  cases rx;have e':k=b:=e;subst e';exact wpAny_truthy_bool ⟨H,I,q⟩
 | int i =>
  obtain⟨t,rfl⟩:=rx;have e':k=(i != 0):=e;subst e';exact PySem.P.truthy_int ⟨H,I,q⟩
 | str y =>
  obtain⟨t,rfl⟩:=rx;obtain⟨hy,e'⟩:y.length≤sizeLine∧k=((y.length:Int) != 0):=e;subst e';exact PySem.P.truthy_str (by omega) ⟨H,I.tok _,q⟩
 | byt y =>
  obtain⟨t,rfl⟩:=rx;obtain⟨hy,e'⟩:y.size≤sizeLine∧k=((y.size:Int) != 0):=e;subst e';exact PySem.W.truthy_bytes (by omega) ⟨H,I.tok _,q⟩
 | ref p =>
  cases rx;have e':(∃ xs,SqL X.K H p xs∧k=!xs.isEmpty)∨(∃ xs,SqT X.K H p xs∧k=!xs.isEmpty)∨∃ kvs,H p=some (.dK kvs)∧k=!kvs.isEmpty:=e;rcases e' with ⟨xs,hx,e'⟩ | ⟨xs,hx,e'⟩ | ⟨kvs,hx,e'⟩
  ·subst e';obtain⟨its,r,pl,hz⟩:=I.list hx;have hlen:=r.length;exact wpAny_truthy_list pl.isList (by simp only[List.size_toArray];omega) ⟨H,I.tok _,by rw[isEmpty_of r];exact q⟩
  ·subst e';obtain⟨its,r,pl,hz⟩:=I.tuple hx;have hlen:=r.length;exact truthy_tuple pl (by simp only[List.size_toArray];omega) ⟨H,I.tok _,by rw[isEmpty_of r];exact q⟩
  ·subst e';obtain⟨hz,hS,vs,r,m⟩:kvs.length≤sizeLine∧(p == sysModules)=false∧∃ vs,KV kvs vs∧s.heap.DictOf (mixKind X.prog X.w) p vs:=I.hok p _ hx;have hlen:kvs.length=vs.length:=Paired.length r;exact wpAny_truthy_dict hS m (by omega) ⟨H,I.tok _,by rw[isEmpty_kv r];exact q⟩
 | _=>exact (show False from e).elim
theorem pt_truth (ha:PE X a ta)(he:∀ whole,isTrue a X.env whole=(do let v ← whole;standAt a.pos;holding [v] (truthy v))) :
  PT X a (fun σ H Q=>ta σ H fun x H'=>∃ k,TruV X.K x H' k∧Q k H'):=by
 intro pins s σ H Q I h;exact isTrue_plain (thn (ha pins s σ H _ I h) fun v s1 ⟨x,H1,I1,r1,q1⟩=>tru_ok pins s1 σ H1 x v Q I1 r1 q1) (he _)
theorem vals1 {x:V}{us:List Value}(r:Vals [x] us):∃ u,us=[u]∧RelV x u:=by
 cases r with
 | cons r1 r2=>cases r2;exact⟨_,rfl,r1⟩
theorem vals2 {x y:V}{us:List Value}(r:Vals [x,y] us):∃ u w',us=[u,w']∧RelV x u∧RelV y w':=by
 cases r with
 | cons r1 r2 =>
  cases r2 with
  | cons r3 r4=>cases r4;exact⟨_,_,rfl,r1,r3⟩
theorem call_max2 (hc:X.calm=true):CallR X (.builtin "max") (fun xs H Q=>∃ i j,xs=[.int i,.int j]∧Q (.int (if j>i then j else i)) H):=by
 intro pins s σ H xs us Q I r h;obtain⟨i,j,rfl,q⟩:=h;obtain⟨u,w',rfl,⟨t,rfl⟩,⟨t',rfl⟩⟩:=vals2 r;refine max_two_ints (I.ok.hd hc) fun h' tk k=>⟨_,H,I.kept k,?_,q⟩
 by_cases hj:j>i
 ·rw[if_pos hj,if_pos hj];exact⟨_,rfl⟩
 ·rw[if_neg hj,if_neg hj];exact⟨_,rfl⟩
theorem call_min2 (hc:X.calm=true):CallR X (.builtin "min") (fun xs H Q=>∃ i j,xs=[.int i,.int j]∧Q (.int (if j<i then j else i)) H):=by
 intro pins s σ H xs us Q I r h;obtain⟨i,j,rfl,q⟩:=h;obtain⟨u,w',rfl,⟨t,rfl⟩,⟨t',rfl⟩⟩:=vals2 r;refine min_two_ints (I.ok.hd hc) fun h' tk k=>⟨_,H,I.kept k,?_,q⟩
 by_cases hj:j<i
 ·rw[if_pos hj,if_pos hj];exact⟨_,rfl⟩
 ·rw[if_neg hj,if_neg hj];exact⟨_,rfl⟩
theorem call_int1:CallR X (.type "int") (fun xs H Q=>(∃ i,xs=[.int i]∧Q (.int i) H)∨∃ k,xs=[.bl k]∧Q (.int (if k then 1 else 0)) H):=by
 intro pins s σ H xs us Q I r h;rcases h with ⟨i,rfl,q⟩ | ⟨k,rfl,q⟩
 ·obtain⟨u,rfl,t,rfl⟩:=vals1 r;exact call_int_int ⟨.int i,H,I,⟨_,rfl⟩,q⟩
 ·obtain⟨u,rfl,r1⟩:=vals1 r;cases r1;exact call_int_bool ⟨.int (if k then 1 else 0),H,I.tok _,⟨_,rfl⟩,q⟩
end
end L2
namespace L2
open PySem PySem.Spec PyProof.Rows
structure ObjM (h:Heap)(x dx C:Addr)(mA:Str→Option Value):Prop where
 obj:h.get? x=some (PySem.W.instObj C dx)
 ns:h.Ns1 dx mA
 ne:dx≠x
theorem lookIn_ns {h:Heap}{dx:Addr}{mA:Str→Option Value}(n:h.Ns1 dx mA):∃ od,h.get? dx=some od∧∀ name,PySem.W.lookIn name od=some (mA name):=by
 obtain⟨o,es,ep,ho,hd,hk,_,hm⟩:=n;refine⟨o,ho,fun name=>?_⟩;have e:=hm name;unfold nsFind findBy at e;rw[← Array.find?_toList] at e;unfold PySem.W.lookIn;rw[hd];dsimp only;split
 ·rename_i y q;rw[q] at e;exact congrArg some e
 ·rename_i q;rw[q] at e;have a:es.toList.any (·.refKey)=false:=by
   rw[List.any_eq_false];intro y hy;obtain⟨z,t,hkey⟩:=hk y (Array.mem_toList_iff.mp hy);simp[DictEntry.refKey,hkey]
  have a':¬ es.toList.any (·.refKey)=true:=by rw[a];exact Bool.false_ne_true
  rw[if_neg a'];exact congrArg some e
theorem ObjM.look {h:Heap}{x dx C:Addr}{mA:Str→Option Value}(I:ObjM h x dx C mA):∃ od,PySem.W.InstAt h x (PySem.W.instObj C dx) C (some od)∧∀ name,PySem.W.lookIn name od=some (mA name) :=
 let ⟨od,ho,hl⟩:=lookIn_ns I.ns
 ⟨od,⟨I.obj,rfl,rfl,ho⟩,hl⟩
section
variable {P:Program}{w:World}{H H':Hp}{h h':Heap}{a C dx:Addr}{fs fs':List (Str×V)}
theorem ins_get (hok:HOk P w H h)(e:H a=some (.ins C dx fs)):∃ mA,ObjM h a dx C mA∧(∀ f,RelO (fs.lookup f) (mA f))∧PySem.Within mA (fs.map (·.1))∧fs.length≤1000∧H dx=some (.own a):=by
 obtain⟨d,z,ne,ob,mA,n,r,q⟩:=(show ObjOk P w H h a (.ins C dx fs) from hok a _ e)
 exact⟨mA,⟨ob,n,ne⟩,r,q,z,d⟩
end
structure Cls (K:PySem.W.Frag)(C:Addr):Prop where
 pg:PySem.W.plainGet K C Str.empty=true
 hd:PySem.W.hasDictIn K C=true
 po:PySem.W.plainOver K C=true
 sa:PySem.W.findIn K (.ref C) "__setattr__"=some (some (.builtin "object.__setattr__"))
theorem Cls.get {K:PySem.W.Frag}{C:Addr}(c:Cls K C)(f:Str):PySem.W.plainGet K C f=true:=c.pg
section
variable {X:Cx}{pins:List (Addr×Obj)}{σ:St}{H:Hp}{s:Shared}{A:Around}{E:Value→Shared→Prop}{Q:Value→Shared→Prop}{c:Value}{b:Bool}
inductive TyOf (K:PySem.W.Frag)(H:Hp):V→Value→Prop where
 | non:TyOf K H .non (.type "NoneType")
 | bl (x:Bool):TyOf K H (.bl x) (.type "bool")
 | int (i:Int):TyOf K H (.int i) (.type "int")
 | str (x:Str):TyOf K H (.str x) (.type "str")
 | flt (x:UInt64):TyOf K H (.flt x) (.type "float")
 | lst {a:Addr} {xs:List V} (e:H a=some (.lst xs)):TyOf K H (.ref a) (.type "list")
 | frz {a:Addr} {o:Obj} {xs:List V} (e:H a=some (.frz o (.lst xs))):TyOf K H (.ref a) (.type "list")
 | tup {a:Addr} {xs:List V} (e:H a=some (.tup xs)):TyOf K H (.ref a) (.type "tuple")
 | dK {a:Addr} {kvs:List (Key×V)} (e:H a=some (.dK kvs)):TyOf K H (.ref a) (.type "dict")
 | dT {a:Addr} {kvs:List (List Key×V)} (e:H a=some (.dT kvs)):TyOf K H (.ref a) (.type "dict")
 | ins {a C dx:Addr} {fs:List (Str×V)} (e:H a=some (.ins C dx fs)) (cl:Cls K C) (ha:PySem.W.findIn K (.ref C) "__class__"=some (some (.builtin "object.__class__")))
   (hn:PySem.W.specialIn K (.builtin "object.__class__") "__get__"=some (some (.builtin "getset_descriptor.__get__"))) (htk:PySem.W.takesIn K (.builtin "object.__class__")=some true)
   (hm:PySem.W.mroIn K C (.type "object")=some true):TyOf K H (.ref a) (.ref C)
theorem isinst_ok {x:V}{u t:Value}(I:Inv X pins σ H s)(rx:RelV x u)(ty:TyOf X.K H x t)(e:PySem.W.kitOne X.K t c=some b)(h:∀ tk,Q (.bool b) {s with toks:=tk}) :
  wpAny (model X.prog X.w) A (call (.builtin "isinstance") [u,c]) Q E s:=by
 cases ty with
 | non=>cases (show u=Value.none from rx);exact PySem.W.kia_one PySem.W.kitx_none I.kIn True.intro e (fun z=>nomatch z) h
 | bl y=>cases (show u=Value.bool y from rx);exact PySem.W.kia_one PySem.W.kitx_bool I.kIn True.intro e (fun z=>nomatch z) h
 | int i=>obtain⟨t,q⟩:=(show ∃ t,u=Value.int i t from rx);cases q;exact PySem.W.kia_one PySem.W.kitx_int I.kIn True.intro e (fun z=>nomatch z) h
 | str y=>obtain⟨t,q⟩:=(show ∃ t,u=Value.str y t from rx);cases q;exact PySem.W.kia_one PySem.W.kitx_str I.kIn True.intro e (fun z=>nomatch z) h
 | flt y=>obtain⟨t,q⟩:=(show ∃ t,u=Value.float y t from rx);cases q;exact PySem.W.kia_one PySem.W.kitx_float I.kIn True.intro e (fun z=>nomatch z) h
 | @lst a xs ea =>
  cases (show u=Value.ref a from rx);obtain⟨_,_,n,_,h1⟩:=(show ObjOk X.prog X.w H s.heap a (.lst xs) from I.hok a _ ea)
  exact PySem.W.kia_one PySem.W.kitx_list I.kIn ⟨_,h1,rfl⟩ e (fun z=>nomatch z) h
 | @frz a ob xs ea =>
  cases (show u=Value.ref a from rx);obtain⟨_,_,_,n,_,h1⟩:=(show ObjOk X.prog X.w H s.heap a (.frz ob (.lst xs)) from I.hok a _ ea)
  exact PySem.W.kia_one PySem.W.kitx_list I.kIn ⟨_,h1,rfl⟩ e (fun z=>nomatch z) h
 | @tup a xs ea =>
  cases (show u=Value.ref a from rx);obtain⟨_,_,_,p⟩:=(show ObjOk X.prog X.w H s.heap a (.tup xs) from I.hok a _ ea)
  obtain⟨o,h1,h2,_⟩:=p;exact PySem.W.kia_one PySem.W.kitx_tuple I.kIn ⟨o,h1,h2⟩ e (fun z=>nomatch z) h
 | @dK a kvs ea =>
  cases (show u=Value.ref a from rx);obtain⟨_,_,vs,_,p⟩:=(show ObjOk X.prog X.w H s.heap a (.dK kvs) from I.hok a _ ea)
  obtain⟨o,es,ep,h1,h2,_⟩:=p;exact PySem.W.kia_one PySem.W.kitx_dict I.kIn ⟨o,h1,h2.1⟩ e (fun z=>nomatch z) h
 | @dT a kvs ea =>
  cases (show u=Value.ref a from rx);obtain⟨_,_,xs,_,o,es,ep,h1,h2,_⟩:=(show ObjOk X.prog X.w H s.heap a (.dT kvs) from I.hok a _ ea)
  exact PySem.W.kia_one PySem.W.kitx_dict I.kIn ⟨o,h1,h2.1⟩ e (fun z=>nomatch z) h
 | @ins a C dx fs ea cl ha hn htk hm =>
  cases (show u=Value.ref a from rx);obtain⟨mA,O,_⟩:=ins_get I.hok ea;obtain⟨od,J,_⟩:=O.look;exact PySem.W.kia_one (PySem.W.kitx_own (cl.get _) cl.hd ha hn htk hm) I.kIn J e (fun z=>nomatch z) h
end
end L2
namespace L2
open PySem PySem.Spec PyProof.Rows
structure Room (k:Nat)(A:Around):Prop where
 hd:A.handled=none
 dp:A.depth+3*k+5<recursionLimit
 un:A.units+16*k+200<cLine
 gd:A.guards=some []
theorem Room.mono {j k:Nat}{A:Around}(r:Room k A)(h:j≤k):Room j A:=⟨r.hd,by have:=r.dp;omega,by have:=r.un;omega,r.gd⟩
theorem Room.deeper {k:Nat}{A:Around}(r:Room (k+1) A)(env:Env):Room k (A.deeper env) :=
 ⟨r.hd,by have:=r.dp;show A.depth+1+3*k+5<_;omega,by have:=r.un;show A.units+3+16*k+200<_;omega,r.gd⟩
theorem Room.in1 {k:Nat}{A:Around}(r:Room (k+1) A):Room k A.in1 :=
 ⟨r.hd,by have:=r.dp;show A.depth+3*k+5<_;omega,by have:=r.un;show A.units+1+16*k+200<_;omega,r.gd⟩
theorem Room.depth {k:Nat}{A:Around}(r:Room k A):A.depth<recursionLimit:=by have:=r.dp;omega
theorem Room.units {k:Nat}{A:Around}(r:Room k A):A.units+64<cLine:=by have:=r.un;omega
def tNil:TA:=fun _ H Q=>Q [] H
def tCons (ta:TE)(tr:TA):TA:=fun σ H Q=>ta σ H fun x H1=>tr σ H1 fun xs H2=>Q (x::xs) H2
section
variable {X:Cx}{e:Expr}{es:List Expr}{te:TE}{t:TA}{pos:Pos}
theorem pa_nil:PA X [] tNil:=fun _ _ _ _ H Q I h=>Calls.spliced_nil ⟨[],H,I,.nil,h⟩
theorem pa_cons (ha:PE X e te)(hr:PA X es t)(hs:starEach (e::es) X.env=(false,eval e X.env)::starEach es X.env:=by rfl):PA X (e::es) (tCons te t):=by
 intro pos pins s σ H Q I h;rw[hs];show wpAny _ _ (spliced ((false,eval e X.env)::backTo pos (starEach es X.env))) _ _ s;refine Calls.spliced_cons (thn (ha pins s σ H _ I h) fun u s1 ⟨x,H1,I1,r1,q1⟩=>?_);exact thn (hr pos pins s1 σ H1 _ I1 q1) fun us s2 ⟨xs,H2,I2,r2,q2⟩=>⟨x::xs,H2,I2,.cons r1 r2,q2⟩
def tTup (t:TA):TE:=fun σ H Q=>t σ H fun xs H1=>xs.length≤sizeLine∧∀ p,H1 p=none→Q (.ref p) (upd H1 p (.tup xs))
def tLst (t:TA):TE:=fun σ H Q=>t σ H fun xs H1=>xs.length≤sizeLine∧∀ p,H1 p=none→Q (.ref p) (upd H1 p (.lst xs))
theorem pe_tup {x1}(h:PA X es t):PE X (.Tuple es x1 pos) (tTup t):=by
 intro pins s σ H Q I hq;refine wpAny_Tuple_spliced (thn (h pos pins s σ H _ I hq) fun us s1 ⟨xs,H1,I1,r,z,q⟩=>⟨by rw[← r.length];exact z,?_⟩);have hf:H1 s1.heap.objs.size=none:=I1.hok.fresh (Nat.le_refl _);refine⟨.ref s1.heap.objs.size,upd H1 s1.heap.objs.size (.tup xs),I1.laid (t':=s1.toks) (fun b u e=>Heap.get?_push_of_some _ e) (Nat.le_refl _) ?_,rfl,q _ hf⟩;exact⟨z,us,r,⟨_,Heap.get?_push_size _ rfl,rfl,_,rfl⟩⟩
theorem pe_lst (h:PA X es t):PE X (.List es pos) (tLst t):=by
 intro pins s σ H Q I hq;refine wpAny_List_spliced (thn (h pos pins s σ H _ I hq) fun us s1 ⟨xs,H1,I1,r,z,q⟩=>⟨by rw[← r.length];exact z,?_⟩);have hf:H1 s1.heap.objs.size=none:=I1.hok.fresh (Nat.le_refl _);refine⟨.ref s1.heap.objs.size,upd H1 s1.heap.objs.size (.lst xs),I1.laid (t':=s1.toks) (fun b u e=>Heap.get?_push_of_some _ e) (Nat.le_refl _) ?_,rfl,q _ hf⟩;exact⟨z,us,0,r,Heap.get?_push_size _ rfl⟩
end
abbrev Sp:=List V→Hp→VK→XK→Prop
abbrev CXT:=List Env→Hp→Shared→XK→Value→Shared→Prop
structure Env0 (P:Program)(w:World)(K:PySem.W.Frag)(mg:Str→Option Value)(base:Heap)(A:Around)(outer:List Env)(s:Shared)(H:Hp):Prop where
 frames:A.frames=some outer
 mod:Mod K mg base
 bs:∀ b o,base.get? b=some o→s.heap.get? b=some o∧H b=none
 bsz:base.objs.size≤s.heap.objs.size
 funs:s.heap.FunFrames base outer
 frf:∀ b∈frs outer,H b=none
 hok:HOk P w H s.heap
 bare:AllBare s.gens
def CE (outer:List Env)(P:Program)(w:World)(H:Hp)(s:Shared)(Q:VK)(u:Value)(s':Shared):Prop :=
 ∃ v H',s'.os=s.os∧AllBare s'.gens∧Un (frs outer) [] H H' s.heap s'.heap∧HOk P w H' s'.heap∧RelV v u∧Q v H'
def CR (CX:CXT)(outer:List Env)(P:Program)(w:World)(H:Hp)(s:Shared)(Q:VK)(E:XK)(r:Result)(s':Shared):Prop :=
 match r with
 | .ok (.ret u)=>CE outer P w H s Q u s'
 | .ok _=>False
 | .error e=>CX outer H s E e s'
structure FnOk (P:Program)(w:World)(K:PySem.W.Frag)(mg:Str→Option Value)(base:Heap)(CX:CXT)(k:Nat)(f:Addr)(fd:FuncData)(ps:List Str)(sp:Sp):Prop where
 len:∀ vs H Q E,sp vs H Q E→vs.length=ps.length
 run:∀ (A:Around) (outer:List Env) (s:Shared) (H:Hp) (args:Args) (us:List Value) (vs:List V) (Q:VK) (E:XK),Room k A→Env0 P w K mg base A outer s H→BindsTo s fd args (ps.zip us)→Vals vs us→sp vs H Q E →
  codeAny (model P w) A (.call (.ref f) args) (CR CX outer P w H s Q E) s
theorem FnOk.mono {P:Program}{w:World}{K:PySem.W.Frag}{mg:Str→Option Value}{base:Heap}{CX:CXT}{j k:Nat}{f:Addr}{fd:FuncData}{ps:List Str}{sp:Sp}(F:FnOk P w K mg base CX j f fd ps sp)(h:j≤k) :
  FnOk P w K mg base CX k f fd ps sp:=⟨F.len,fun A outer s H args us vs Q E hr=>F.run A outer s H args us vs Q E (hr.mono h)⟩
theorem FnOk.imp {P:Program}{w:World}{K:PySem.W.Frag}{mg:Str→Option Value}{base:Heap}{CX:CXT}{k:Nat}{f:Addr}{fd:FuncData}{ps:List Str}{sp sp':Sp}(F:FnOk P w K mg base CX k f fd ps sp)
  (h:∀ vs H Q E,sp' vs H Q E→sp vs H Q E):FnOk P w K mg base CX k f fd ps sp' :=
 ⟨fun vs H Q E q=>F.len vs H Q E (h _ _ _ _ q),fun A outer s H args us vs Q E hr he hb hv hs=>F.run A outer s H args us vs Q E hr he hb hv (h _ _ _ _ hs)⟩
theorem Env0.in1 {P:Program}{w:World}{K:PySem.W.Frag}{mg:Str→Option Value}{base:Heap}{A:Around}{outer:List Env}{s:Shared}{H:Hp}(e:Env0 P w K mg base A outer s H) :
  Env0 P w K mg base A.in1 outer s H:=⟨e.frames,e.mod,e.bs,e.bsz,e.funs,e.frf,e.hok,e.bare⟩
section
variable {X:Cx}{pins:List (Addr×Obj)}{σ:St}{H:Hp}{s s':Shared}
theorem Inv.env0 (I:Inv X pins σ H s):Env0 X.prog X.w X.K X.mg X.base X.A X.stack s H :=
 ⟨I.ok.frames,I.ok.mod,I.bs,Nat.le_trans I.ok.bsz I.sz,I.stack,I.stkFree,I.hok,I.bare⟩
theorem Inv.after {Q:VK}{u:Value}(I:Inv X pins σ H s)(h:CE X.stack X.prog X.w H s Q u s'):EP X pins σ Q u s':=by
 obtain⟨v,H',os,bare,un,hok,r,q⟩:=h;obtain⟨hh,g,d,t,os'⟩:=s';obtain rfl:os'=s.os:=os;exact⟨v,H',I.call (h':=hh) (g':=g) (d':=d) (t':=t) (ch:=[]) un hok bare (fun b z=>absurd z (by simp)),r,q⟩
end
def tCall (sp:Sp)(dvs:List V)(E:XK)(t:TA):TE:=fun σ H Q=>t σ H fun vs H1=>sp (vs++dvs) H1 Q E
def Binds (K:PySem.W.Frag)(fd:FuncData)(ps:List Str)(ds:List Value):Prop :=
 ∀ (s:Shared) (us:List Value),K.In s.heap→(us++ds).length=ps.length→BindsTo s fd ⟨us,[]⟩ (ps.zip (us++ds))
theorem Binds.all {K:PySem.W.Frag}{fd:FuncData}{ps:List Str}(h:∀ us:List Value,us.length=ps.length→bindArgs fd ⟨us,[]⟩=pure (ps.zip us)):Binds K fd ps []:=fun s us _ hl=>by
 rw[List.append_nil] at hl ⊢;exact .of_eq (h us hl)
def Passes (CX:CXT)(X:Cx)(E:XK):Prop:=∀ (pins:List (Addr×Obj)) (σ:St) (H:Hp) (s:Shared) (e:Value) (s':Shared),Inv X pins σ H s→CX X.stack H s E e s'→X.xe e s'
section
variable {X:Cx}{CX:CXT}{k:Nat}{f C:Addr}{fd:FuncData}{ps:List Str}{sp:Sp}{dvs:List V}{ds:List Value}{E:XK}{x m:Str}{p pos apos:Pos}{e o:Expr}{es:List Expr}{ta:TE}{t:TA}
theorem run_fn {pins:List (Addr×Obj)}{σ:St}{H:Hp}{s:Shared}{Q:VK}{us:List Value}{vs:List V}(F:FnOk X.prog X.w X.K X.mg X.base CX k f fd ps sp)(hr:Room k X.A)(hb:Binds X.K fd ps ds)(hd:Vals dvs ds)(hx:Passes CX X E)
  (I:Inv X pins σ H s) (r:Vals vs us) (h:sp (vs++dvs) H Q E):wpAny (model X.prog X.w) X.A (call (.ref f) us) (EP X pins σ Q) X.xe s:=by
 have r2:Vals (vs++dvs) (us++ds):=r.append hd;have hl:(us++ds).length=ps.length:=by rw[← r2.length];exact F.len _ _ _ _ h
 refine wpAny_call (codeAny_mono (F.run X.A X.stack s H ⟨us,[]⟩ (us++ds) (vs++dvs) Q E hr I.env0 (hb s us I.kIn hl) r2 h) fun r s' hq=>?_);cases r with
 | error e=>exact hx pins σ H s e s' I hq
 | ok fl =>
  cases fl with
  | ret u=>exact I.after hq
  | next=>exact False.elim hq
  | brk=>exact False.elim hq
  | cont=>exact False.elim hq
theorem pe_call (F:FnOk X.prog X.w X.K X.mg X.base CX k f fd ps sp)(hr:Room k X.A)(hg:Gl X x)(hm:X.mg x=some (.ref f))(hk:PySem.W.keepIn X.K (.ref f)=true)(hb:Binds X.K fd ps ds)(hd:Vals dvs ds)(hx:Passes CX X E)
  (ha:PA X (e::es) t) (hdb:(x == ("__debug__":Str))=false:=by decide) (he:starEach (e::es) X.env=(false,eval e X.env)::starEach es X.env:=by rfl) (hpl:(backTo pos (starEach es X.env)).any (·.1)=false:=by rfl) :
  PE X (.Call (.Name x p) (e::es) [] pos) (tCall sp dvs E t):=by
 intro pins s σ H Q I h;refine wpAny_Call_Name_kw (ld_glob I hg hm ?_ hdb);refine PySem.W.callWith_K (h₀:=X.base) I.ok.mod.kin hk (thn (ha pos pins s σ H _ I h) fun us s1 ⟨vs,H1,I1,r,q⟩=>⟨I1.kIn,?_⟩) he hpl;exact run_fn F hr hb hd hx I1 r q
end
section
variable {X:Cx}{CX:CXT}{k:Nat}{f C:Addr}{fd:FuncData}{ps ks:List Str}{sp:Sp}{E:XK}{x m:Str}{p pos apos kpos:Pos}{e o:Expr}{es:List Expr}{kws:List Keyword}{te ta:TE}{t tk:TA}{nm:Option Str}
variable {g:List Value→List Value→List Value}{gV:List V→List V→List V}
end
structure FnScope (N P:List Str)(sc:Scope):Prop where
 kind:sc.kind=.function
 co:sc.isCoroutine=false
 gen:sc.isGenerator=false
 nd:N.Nodup
 pre:N.take P.length=P
 par:∀ x∈P,sc.names.lookup x=some .local∨sc.names.lookup x=some .cell
 nofree:∀ y∈sc.names,y.2≠.free
theorem bindL_out {kindOf:Str→Option NameKind}{x:Str}:∀ {binds:List (Str×Value)} {m:Str→Option Value},(∀ v,(x,v)∉binds)→bindL kindOf binds m x=m x
 | [],_,_=>rfl
 | (n,v)::r,m,h=>by
  unfold bindL;rw[bindL_out fun w hw=>h w (List.mem_cons_of_mem _ hw)];split
  ·have:x≠n:=by rintro rfl;exact h v List.mem_cons_self
   simp[this]
  ·rfl
theorem bindC_out {kindOf:Str→Option NameKind}{x:Str}:∀ {binds:List (Str×Value)} {m:Str→Option Value},(∀ v,(x,v)∉binds)→bindC kindOf binds m x=m x
 | [],_,_=>rfl
 | (n,v)::r,m,h=>by
  unfold bindC;rw[bindC_out fun w hw=>h w (List.mem_cons_of_mem _ hw)];split
  ·rfl
  ·have:x≠n:=by rintro rfl;exact h v List.mem_cons_self
   simp[this]
theorem bindL_get {kindOf:Str→Option NameKind}{x:Str}{v:Value}:∀ {P:List Str} {vs:List Value} {i:Nat} {m:Str→Option Value},P.Nodup→P[i]?=some x→vs[i]?=some v→kindOf x=some .local →
  bindL kindOf (P.zip vs) m x=some v
 | [],_,_,_,_,h,_,_=>by simp at h
 | _::_,[],_,_,_,_,h,_=>by simp at h
 | p::P,w::vs,0,m,nd,h1,h2,hk=>by
  simp at h1 h2;subst h1;subst h2;show bindL kindOf ((p,w)::P.zip vs) m p=_;unfold bindL;rw[bindL_out fun v hv=>(List.nodup_cons.mp nd).1 (List.of_mem_zip hv).1,if_pos hk];simp
 | p::P,w::vs,i+1,m,nd,h1,h2,hk=>by
  show bindL kindOf ((p,w)::P.zip vs) m x=_;unfold bindL;exact bindL_get (i:=i) (List.nodup_cons.mp nd).2 (by simpa using h1) (by simpa using h2) hk
theorem bindC_get {kindOf:Str→Option NameKind}{x:Str}{v:Value}:∀ {P:List Str} {vs:List Value} {i:Nat} {m:Str→Option Value},P.Nodup→P[i]?=some x→vs[i]?=some v→kindOf x≠some .local →
  bindC kindOf (P.zip vs) m x=some v
 | [],_,_,_,_,h,_,_=>by simp at h
 | _::_,[],_,_,_,_,h,_=>by simp at h
 | p::P,w::vs,0,m,nd,h1,h2,hk=>by
  simp at h1 h2;subst h1;subst h2;show bindC kindOf ((p,w)::P.zip vs) m p=_;unfold bindC;rw[bindC_out fun v hv=>(List.nodup_cons.mp nd).1 (List.of_mem_zip hv).1,if_neg hk];simp
 | p::P,w::vs,i+1,m,nd,h1,h2,hk=>by
  show bindC kindOf ((p,w)::P.zip vs) m x=_;unfold bindC;exact bindC_get (i:=i) (List.nodup_cons.mp nd).2 (by simpa using h1) (by simpa using h2) hk
def start (N:List Str)(vs:List V):St:=vs.map some++List.replicate (N.length-vs.length) none
def cxOf (CX:CXT)(P:Program)(w:World)(K:PySem.W.Frag)(mg:Str→Option Value)(base:Heap)(N:List Str)(qual:Str)(scope:Scope)(f:Addr)(cd:Value)(A:Around)(outer:List Env)(s:Shared)(H:Hp)(E:XK):Cx where
 prog:=P
 w:=w
 K:=K
 mg:=mg
 base:=base
 A:=A.deeper (envOfC qual scope s.heap.objs.size f cd)
 N:=N
 s₀:=s
 H₀:=H
 env:=envOfC qual scope s.heap.objs.size f cd
 outer:=outer
 stack:=envOfC qual scope s.heap.objs.size f cd::outer
 ex:=[]
 calm:=true
 fn:=fun _=>true
 pn:=[]
 xe:=fun e s'=>wpAny (model P w) (A.deeper (envOfC qual scope s.heap.objs.size f cd)) (leaving (envOfC qual scope s.heap.objs.size f cd) e) (fun _ s''=>CX outer H s E e s'') (fun e' s''=>CX outer H s E e' s'') s'
theorem cell_has {sc:Scope}{n:Nat}{x:Str}(h:sc.names.lookup x=some .cell):∃ c,(cellsFrom n sc.names []).lookup x=some c:=by
 have q:=PySem.W.cellsFrom_some sc.names n [] (.inl h);exact Option.isSome_iff_exists.mp q
theorem inv_start {CX:CXT}{P:Program}{w:World}{K:PySem.W.Frag}{mg:Str→Option Value}{base:Heap}{N ps:List Str}{qual:Str}{scope:Scope}{f:Addr}{cd:Value}{A:Around}{outer:List Env}{s s1:Shared}{H:Hp}{E:XK}{us:List Value}{vs:List V}
  (S:FnScope N ps scope) (hd:A.handled=none) (e0:Env0 P w K mg base A outer s H) (hl:vs.length=ps.length) (r:Vals vs us)
  (x:InCallC s s.heap.objs.size (bindL (envOfC qual scope s.heap.objs.size f cd).kindOf (ps.zip us) fun _=>none) (cellsFrom (s.heap.objs.size+1) scope.names []) (bindC (envOfC qual scope s.heap.objs.size f cd).kindOf (ps.zip us) fun _=>none) s1) :
  Inv (cxOf CX P w K mg base N qual scope f cd A outer s H E) [] (start N vs) H s1:=by
 have hpl:ps.length≤N.length:=by have:=congrArg List.length S.pre;rw[List.length_take] at this;omega
 obtain⟨h1,tk,rfl,hk⟩:=x.done;have noA:∀ b:Addr,b∉(cxOf CX P w K mg base N qual scope f cd A outer s H E).ex:=fun b z=>absurd (show b∈([]:List Addr) from z) (by simp)
 refine⟨⟨e0.mod,S.kind,rfl,rfl,Nat.le_refl _,fun y z c h1 h2=>?_,fun y hy=>?_,fun y c _ h=>?_,fun _=>hd,Around.frames_deeper e0.frames,.inr ⟨rfl,rfl⟩,fun b z=>absurd z (noA b),e0.bs,e0.bsz,fun b _ _=>noA b,fun b z=>absurd z (noA b),e0.funs,e0.frf⟩,
  rfl,e0.bare,Un.kept hk,⟨_,x.toInCall.ns,fun i y v h1 h2 h3=>?_⟩,fun y c h=>⟨_,x.cell y c h⟩,e0.hok.fresh (Nat.le_refl _),fun y c h=>?_,fun p hp=>absurd (show p∈([]:List (Addr×Obj)) from hp) (by simp),e0.hok.kept hk,?_⟩
 ·exact name_of_addr x.apart (PySem.mem_of_lookup h1) (PySem.mem_of_lookup h2)
 ·have hy:scope.names.lookup y=some .cell∨scope.names.lookup y=some .free:=hy;rcases hy with hy | hy
  ·exact cell_has hy
  ·exact absurd rfl (S.nofree _ (PySem.mem_of_lookup hy))
 ·exact Nat.le_of_lt (x.above y c (PySem.mem_of_lookup h))
 ·have hi:i<vs.length:=by
   unfold start at h2;by_cases hi:i<vs.length
   ·exact hi
   ·rw[List.getElem?_append_right (by simpa using hi)] at h2;rw[List.getElem?_replicate] at h2;split at h2<;>cases h2
  have ha:vs[i]?=some v:=by
   unfold start at h2;rw[List.getElem?_append_left (by simpa using hi),List.getElem?_map] at h2;cases e:vs[i]? with
   | none=>rw[e] at h2;cases h2
   | some a=>rw[e] at h2;cases h2;rfl
  obtain⟨u,hu,rv⟩:=r.get ha;have hp:ps[i]?=some y:=by
   rw[← S.pre,List.getElem?_take_of_lt (by omega)];exact h1
  have ndP:ps.Nodup:=by rw[← S.pre];exact S.nd.sublist (List.take_sublist _ _)
  refine⟨u,rv,?_⟩;rcases S.par y (List.mem_of_getElem? hp) with k | k
  ·exact .inl ⟨k,bindL_get ndP hp hu k⟩
  ·obtain⟨c,e⟩:=cell_has (n:=s.heap.objs.size+1) k;refine .inr ⟨.inl k,c,e,?_⟩;have q:=x.cell y c e;rw[bindC_get ndP hp hu (by show scope.names.lookup y≠_;rw[k];decide)] at q;exact q
 ·exact e0.hok.fresh (Nat.le_of_lt (x.above y c (PySem.mem_of_lookup h)))
 ·unfold start;show _=N.length;rw[List.length_append,List.length_map,List.length_replicate];omega
theorem fn_of {CX:CXT}{P:Program}{w:World}{K:PySem.W.Frag}{mg:Str→Option Value}{base:Heap}{k:Nat}{f:Addr}{name qual:Str}{params:Arguments}{body:List Stmt}{scope:Scope}{dV kV doc pm cdv ct oc:Value}{an od:Option Addr}
  {osl:Array (Option Value)} {N ps:List Str} {sp:Sp} (lk:K.lookup f=some ⟨oc,od,.func (PySem.W.fnOf name qual params body scope dV kV doc pm an cdv ct),osl⟩) (hcd:PySem.W.codeIn K cdv qual=true) (S:FnScope N ps scope)
  (len:∀ vs H Q E,sp vs H Q E→vs.length=ps.length)
  (hbody:∀ (A:Around) (outer:List Env) (s:Shared) (H:Hp) (vs:List V) (Q:VK) (E:XK),Room k (A.deeper (envOfC qual scope s.heap.objs.size f cdv))→sp vs H Q E →
   ∃ t,PSs (cxOf CX P w K mg base N qual scope f cdv A outer s H E) body t∧t {nx:=fun _ H'=>Q .non H',rt:=Q} (start N vs) H) :
  FnOk P w K mg base CX (k+1) f (PySem.W.fnOf name qual params body scope dV kV doc pm an cdv ct) ps sp:=by
 refine⟨len,fun A outer s H args us vs Q E hr e0 hb r hsp=>?_⟩;have hl:=len _ _ _ _ hsp;have KX:K.In s.heap:=e0.mod.kin.keeps fun b o e=>(e0.bs b o e).1
 have lim:s.heap.NoLimit:=e0.mod.nolimit.keeps fun b o e=>(e0.bs b o e).1
 have hkind:∀ y∈ps.zip us,scope.names.lookup y.1=some .local∨(scope.names.lookup y.1=some .cell∧((cellsFrom (s.heap.objs.size+1) scope.names []).lookup y.1).isSome=true):=fun ⟨n,v⟩ hy=>by
  rcases S.par n (List.of_mem_zip hy).1 with q | q
  ·exact .inl q
  ·exact .inr ⟨q,PySem.W.cellsFrom_some _ _ _ (.inl q)⟩
 refine codeAny_call_function hr.depth (KX _ _ lk) rfl S.co S.gen rfl (PySem.W.codeRec_of KX hcd) (hb _ _ _ _ ?_);refine wpAny_newFunctionEnv_cells S.kind hkind fun env he s1 x=>?_
 subst he;refine⟨lim.keeps x.toInCall.keep,codeAny_func ?_⟩;obtain⟨t,ht,hq⟩:=hbody A outer s H vs Q E (hr.deeper _) hsp;have I:Inv (cxOf CX P w K mg base N qual scope f cdv A outer s H E) [] (start N vs) H s1:=inv_start S hr.hd e0 hl r x;refine wpAny_mono (ht [] s1 (start N vs) H _ I hq) (fun fl s' hs=>?_) fun e s' hs=>hs
 have fin:∀ {σ':St} {H':Hp} {v:V} {u:Value},Inv (cxOf CX P w K mg base N qual scope f cdv A outer s H E) [] σ' H' s'→RelV v u→Q v H'→CE outer P w H s Q u s' :=
  fun {σ' H' v u} J rv q=>⟨v,H',J.os,J.bare,J.base,J.hok,rv,q⟩
 cases fl with
 | ret u =>
  obtain⟨v,σ',H',J,rv,q⟩:=hs;exact fin J rv q
 | next =>
  obtain⟨σ',H',J,q⟩:=hs;exact fin (v:=V.non) (u:=Value.none) J rfl q
 | brk =>
  obtain⟨_,_,_,q⟩:=hs;exact False.elim q
 | cont =>
  obtain⟨_,_,_,q⟩:=hs;exact False.elim q
end L2
namespace L2
open PySem PySem.Spec PyProof.Rows
section
variable {X:Cx}{x:Str}{p pos:Pos}{e:Expr}{es:List Expr}{t:TA}{id T:String}{r:List V→Hp→VK→Prop}
def tCB (r:List V→Hp→VK→Prop)(t:TA):TE:=fun σ H Q=>t σ H fun vs H1=>r vs H1 Q
theorem pe_callB (hc:CallR X (.builtin id) r)(hg:Gl X x)(hm:X.mg x=none)(hv:bootBuiltins x=some (.builtin id))(ha:PA X (e::es) t)(hn:x≠"__name__":=by decide)(hdb:(x == ("__debug__":Str))=false:=by decide)
  (he:starEach (e::es) X.env=(false,eval e X.env)::starEach es X.env:=by rfl) (hpl:(backTo pos (starEach es X.env)).any (·.1)=false:=by rfl):PE X (.Call (.Name x p) (e::es) [] pos) (tCB r t):=by
 intro pins s σ H Q I h;refine wpAny_Call_Name_kw (ld_blt I hg hm hv ?_ hn hdb);exact PyProof.Rows.callWith_builtin1 (thn (ha pos pins s σ H _ I h) fun us s1 ⟨vs,H1,I1,r1,q1⟩=>hc pins s1 σ H1 vs us Q I1 r1 q1) he hpl
theorem pe_callTy (hc:CallR X (.type T) r)(hg:Gl X x)(hm:X.mg x=none)(hv:bootBuiltins x=some (.type T))(ha:PA X (e::es) t)(hn:x≠"__name__":=by decide)(hdb:(x == ("__debug__":Str))=false:=by decide)
  (he:starEach (e::es) X.env=(false,eval e X.env)::starEach es X.env:=by rfl) (hpl:(backTo pos (starEach es X.env)).any (·.1)=false:=by rfl):PE X (.Call (.Name x p) (e::es) [] pos) (tCB r t):=by
 intro pins s σ H Q I h;refine wpAny_Call_Name_kw (ld_blt I hg hm hv ?_ hn hdb);exact PyProof.Rows.callWith_type1 (thn (ha pos pins s σ H _ I h) fun us s1 ⟨vs,H1,I1,r1,q1⟩=>hc pins s1 σ H1 vs us Q I1 r1 q1) he hpl
end
end L2
namespace HT
open PySem PyProof.Rows
def lexLt:List Int→List Int→Bool
 | [],[]=>false
 | [],_::_=>true
 | _::_,[]=>false
 | x::xs,y::ys=>if x=y then lexLt xs ys else decide (x<y)
theorem lexLt_cons (x y:Int)(xs ys:List Int):lexLt (x::xs) (y::ys)=if x=y then lexLt xs ys else decide (x<y):=rfl
section
open PySem.SeqAt
open PySem.AutoSeq1 (wpAny_loadPart')
open PySem.MeetsSeq PySem.MeetsSeq2 PySem.MeetsSeq3
end
section
variable {prog:Program}{w:World}{A:Around}{E:Value→Shared→Prop}{s:Shared}
theorem cat_tup {t b:Addr}{vs ws:List Value}{Q:Value→Shared→Prop}(ht:IsTup s.heap t vs.toArray)(hb:IsTup s.heap b ws.toArray)(hv:vs≠[])
  (h1:ws=[]→Q (.ref t) s) (h2:ws≠[]→Q (.ref s.heap.objs.size) {s with heap:=s.heap.push {cls:=.type "tuple",data:=.seq (vs++ws).toArray}})
  (hsz:vs.length+ws.length≤sizeLine):wpAny (model prog w) A (binaryOp .Add (.ref t) (.ref b)) Q E s:=by
 obtain⟨⟨cls,dd,data,sl⟩,ho,hc,n,hd⟩:=id ht;obtain⟨⟨cls2,dd2,data2,sl2⟩,ho2,hc2,n2,hd2⟩:=id hb;simp only at hc hd hc2 hd2;subst hc hd hc2 hd2;have e:vs.toArray++ws.toArray=(vs++ws).toArray:=by simp
 by_cases hw:ws=[]
 ·exact concat_meets ⟨_,ho,rfl⟩ ⟨_,ho2,rfl⟩ noFill_tuple_add seq_tuple_add PySem.F.slot_tuple_add PySem.F.entry_tuple_add (PySem.F.args_tuple_add_2 _ _)
   (tuple_addW1 t b vs.toArray ws.toArray n n2 dd dd2 sl sl2 (by simpa using hv) (by simp[hw])) ⟨ho,ho2,h1 hw⟩
 ·refine concat_meets ⟨_,ho,rfl⟩ ⟨_,ho2,rfl⟩ noFill_tuple_add seq_tuple_add PySem.F.slot_tuple_add PySem.F.entry_tuple_add (PySem.F.args_tuple_add_2 _ _)
   (tuple_addW2 t b vs.toArray ws.toArray n n2 dd dd2 sl sl2 (by simpa using hv) (by simpa using hw) (by rw[List.size_toArray,List.size_toArray];exact hsz)) ⟨ho,ho2,?_⟩
  rw[e];exact h2 hw
def sIx (n d:Nat):Option Int→Nat
 | none=>d
 | some v=>if v<0 then (v+(n:Int)).toNat else min v.toNat n
theorem sIx_none (n d:Nat):sIx n d none=d:=rfl
theorem sIx_nat (n d k:Nat):sIx n d (some (k:Int))=min k n:=by
 show (if (k:Int)<0 then ((k:Int)+(n:Int)).toNat else min (k:Int).toNat n)=min k n;rw[if_neg (by omega),Int.toNat_natCast]
theorem sIx_le (n d:Nat)(hd:d≤n)(o:Option Int):sIx n d o≤n:=by
 cases o with
 | none=>exact hd
 | some v =>
  show (if v<0 then (v+(n:Int)).toNat else min v.toNat n)≤n;by_cases hv:v<0
  ·rw[if_pos hv];omega
  ·rw[if_neg hv];exact Nat.min_le_right _ _
theorem clip_eq (v:Int)(n d:Nat):(if v<0 then max (v+(n:Int)) 0 else min v (n:Int))=((sIx n d (some v):Nat):Int):=by
 show (if v<0 then max (v+(n:Int)) 0 else min v (n:Int))=(((if v<0 then (v+(n:Int)).toNat else min v.toNat n):Nat):Int)
 by_cases hv:v<0
 ·simp only[if_pos hv];omega
 ·simp only[if_neg hv];omega
theorem adjust_gen (lo hi:Option Int)(n:Nat):Builtin.Slice.sliceAdjust lo hi 1 (n:Int)=(((sIx n 0 lo:Nat):Int),((sIx n n hi:Nat):Int)):=by
 have h1:¬ ((1:Int)<0):=by omega
 unfold Builtin.Slice.sliceAdjust;simp only[h1,if_false];refine Prod.ext ?_ ?_
 ·cases lo with
  | none=>rfl
  | some v=>exact clip_eq v n 0
 ·cases hi with
  | none=>rfl
  | some v=>exact clip_eq v n n
theorem places_gen (i j:Nat):Builtin.Slice.slicePlaces (i:Int) (j:Int) 1=j-i:=by
 unfold Builtin.Slice.slicePlaces;have h1:(1:Int)>0:=by omega
 simp only[h1,if_true,Int.ediv_one];split<;>omega
theorem slicePart_ {v:Value}{o:Option Int}{Q:Option Int→Shared→Prop}(p:IsPart v o)(h:Q o s):wpAny (model prog w) A (Builtin.Slice.slicePartIndex v) Q E s:=by
 cases p with
 | none=>exact slicePart_none h
 | int i t=>exact slicePart_int h
theorem sliceApplied_gen {sl:Addr}{vl vu:Value}{lo hi:Option Int}{n:Nat}{Q:Int×Int×Nat→Shared→Prop}(hs:s.heap.IsSliceOf sl vl vu .none)(pl:IsPart vl lo)(pu:IsPart vu hi)
  (h:Q (((sIx n 0 lo:Nat):Int),1,sIx n n hi-sIx n 0 lo) s):wpAny (model prog w) A (Builtin.Slice.sliceApplied (.ref sl) (pure (n:Int))) Q E s:=by
 obtain⟨os,hos,hcs,hds⟩:=id hs;unfold Builtin.Slice.sliceApplied Builtin.Slice.sliceFields;refine wpAny_bind (wpAny_bind (wpAny_field hos hds (x:=vl) rfl (wpAny_bind (wpAny_field hos hds (x:=vu) rfl (wpAny_bind (wpAny_field hos hds (x:=.none) rfl (wpAny_pure ?_)))))));refine wpAny_bind (slicePart_none ?_);show wpAny _ _ (if ((1:Int) == 0)=true then _ else _) _ _ s;rw[if_neg (by decide)];refine wpAny_bind (slicePart_ pl (wpAny_bind (slicePart_ pu (wpAny_bind (wpAny_pure ?_)))));show wpAny _ _ (match Builtin.Slice.sliceAdjust lo hi 1 (n:Int) with | (lo,hi)=>pure (lo,(1:Int),Builtin.Slice.slicePlaces lo hi 1)) _ _ s;rw[adjust_gen lo hi n];show wpAny _ _ (pure (((sIx n 0 lo:Nat):Int),(1:Int),Builtin.Slice.slicePlaces ((sIx n 0 lo:Nat):Int) ((sIx n n hi:Nat):Int) 1)) _ _ s;rw[places_gen];exact wpAny_pure h
theorem pick_gen (xs:Array Value)(i k:Nat):((List.range k).filterMap fun (m:Nat)=>xs[((i:Int)+(m:Int)*1).toNat]?).toArray=((xs.toList.drop i).take k).toArray:=by
 have e:(fun (m:Nat)=>xs[((i:Int)+(m:Int)*1).toNat]?)=fun m=>xs[i+m]?:=by
  funext m;have:((i:Int)+(m:Int)*1).toNat=i+m:=by omega
  rw[this]
 rw[e];have:=pick_run xs i k;rw[List.filterMap_map] at this;have e2:((fun x=>xs[x]?) ∘ fun x=>i+x)=fun m=>xs[i+m]?:=rfl
 rw[e2] at this;rw[this]
theorem getItem_tuple_cut {t sl:Addr}{items:Array Value}{vl vu:Value}{lo hi:Option Int}{Q:Value→Shared→Prop}(ht:IsTup s.heap t items)(hs:s.heap.IsSliceOf sl vl vu .none)(pl:IsPart vl lo)(pu:IsPart vu hi)
  (hw:¬ (sIx items.size 0 lo=0∧sIx items.size items.size hi=items.size))
  (h:Q (.ref s.heap.objs.size) {s with heap:=s.heap.push {cls:=.type "tuple",data:=.seq ((items.toList.drop (sIx items.size 0 lo)).take (sIx items.size items.size hi-sIx items.size 0 lo)).toArray}})
  (hsz:items.size≤sizeLine):wpAny (model prog w) A (getItem (.ref t) (.ref sl)) Q E s:=by
 have htake:sizeOk (.seq ((items.toList.drop (sIx items.size 0 lo)).take (sIx items.size items.size hi-sIx items.size 0 lo)).toArray):=by
  show ((items.toList.drop (sIx items.size 0 lo)).take (sIx items.size items.size hi-sIx items.size 0 lo)).toArray.size≤sizeLine;rw[List.size_toArray,List.length_take,List.length_drop,Array.length_toList];omega
 have hj:sIx items.size items.size hi≤items.size:=sIx_le _ _ (Nat.le_refl _) hi;obtain⟨os,hos,hcs,hds⟩:=id hs;have hTs:s.TypeIs (.ref sl) "slice":=⟨os,hos,hcs⟩
 unfold getItem;try with_reducible refine wpAny_holding ?_
 first | refine wpAny_bind (wpAny_pure ?_) | skip
 refine wpAny_bind (wpAny_sequenceKey ht.typeIs (by decide) ?_)
 refine wpAny_bind (wpAny_callSpecial?_slot (name:=Str.ofString "__getitem__") ht.typeIs PyProof.Rows.slot_tuple_getitem
  (wpAny_call_entry PyProof.Rows.slot_tuple_getitem ht.typeIs entry_tuple_getitem ?_ (args_tuple_getitem _ _)))
 show wpAny _ _ (Builtin.Tuple.tupleItemsOf (.ref t) >>= _) _ _ s;refine wpAny_bind (tupleItemsOf_ ht ?_);refine wpAny_bind (wpAny_typeOf hTs ?_);rw[if_pos (by decide)];refine wpAny_bind (sliceApplied_gen hs pl pu ?_);have hno:¬ ((((sIx items.size 0 lo:Nat):Int) == 0 && (1:Int) == 1 && (sIx items.size items.size hi-sIx items.size 0 lo) == items.size)=true):=by
  intro q;rw[Bool.and_eq_true,Bool.and_eq_true] at q;have q1:((sIx items.size 0 lo:Nat):Int)=0:=eq_of_beq q.1.1;have q2:sIx items.size items.size hi-sIx items.size 0 lo=items.size:=eq_of_beq q.2;exact hw ⟨by omega,by omega⟩
 show wpAny _ _ (if (((sIx items.size 0 lo:Nat):Int) == 0 && (1:Int) == 1 && (sIx items.size items.size hi-sIx items.size 0 lo) == items.size)=true then _ else _) _ _ s;rw[if_neg hno,pick_gen];first
  | exact wpAny_bind (m:=Builtin.Tuple.tupleExact _) (wpAny_newObj_type (wpAny_pure ⟨_,rfl,wpAny_pure h⟩) htake)
  | exact wpAny_bind (m:=Builtin.Tuple.tupleExact _) (wpAny_newObj_type (wpAny_bind (wpAny_pure (wpAny_pure ⟨_,rfl,wpAny_pure h⟩))) htake)
  | exact wpAny_bind (wpAny_bind (m:=Builtin.Tuple.tupleExact _) (wpAny_newObj_type (wpAny_pure (wpAny_pure ⟨_,rfl,wpAny_pure h⟩)) htake))
  | exact wpAny_bind (wpAny_bind (m:=Builtin.Tuple.tupleExact _) (wpAny_newObj_type (wpAny_pure ⟨_,rfl,wpAny_pure h⟩) htake))
end
end HT
namespace L2
open PySem PySem.Spec PyProof.Rows
abbrev TO:=St→Hp→(Option Int→Hp→Prop)→Prop
def PO (X:Cx)(e:Option Expr)(t:TO):Prop :=
 ∀ (pins:List (Addr×Obj)) (s:Shared) (σ:St) (H:Hp) (Q:Option Int→Hp→Prop),Inv X pins σ H s→t σ H Q →
  wpAny (model X.prog X.w) X.A (evalPart e X.env) (fun u s'=>∃ o H',Inv X pins σ H' s'∧IsPart u o∧Q o H') X.xe s
def tNoPart:TO:=fun _ H Q=>Q none H
def tPart (t:TE):TO:=fun σ H Q=>t σ H fun x H1=>∃ i,x=.int i∧Q (some i) H1
theorem intsAre_of {ns:List Int}:∀ {us:List Value},Vals (ns.map V.int) us→IntsAre us ns:=by
 induction ns with
 | nil=>intro us r;rw[List.map_nil] at r;cases r;exact .nil
 | cons n ns ih =>
  intro us r;rw[List.map_cons] at r;cases r with
  | cons r1 r2 =>
   obtain⟨t,e⟩:=r1;subst e;exact .cons n t (ih r2)
section
variable {X:Cx}{e:Expr}{te:TE}{lo hi:Option Expr}{tl th:TO}{pos p2:Pos}
theorem po_none:PO X none tNoPart:=by
 intro pins s σ H Q I h;rw[evalPart_none];exact wpAny_pure ⟨none,H,I,.none,h⟩
theorem po_some (h:PE X e te):PO X (some e) (tPart te):=by
 intro pins s σ H Q I hw;rw[evalPart_some];refine thn (h pins s σ H _ I hw) fun u s1 ⟨x,H1,I1,r1,q1⟩=>?_
 obtain⟨i,rfl,q⟩:=q1;obtain⟨t,rfl⟩:=r1;exact⟨some i,H1,I1,.int i t,q⟩
def SlR (X:Cx)(r:V→Option Int→Option Int→Hp→VK→Prop):Prop :=
 ∀ (pins:List (Addr×Obj)) (s:Shared) (σ:St) (H:Hp) (x:V) (v vl vu:Value) (lo hi:Option Int) (sl:Addr) (Q:VK),Inv X pins σ H s→RelV x v→s.heap.IsSliceOf sl vl vu .none→IsPart vl lo→IsPart vu hi→r x lo hi H Q →
  ∃ T id,typeLookup (.type T) "__getitem__"=pure (some (.builtin id))∧s.TypeIs v T∧wpAny (model X.prog X.w) X.A (getItem v (.ref sl)) (EP X pins σ Q) X.xe s
def tSl (r:V→Option Int→Option Int→Hp→VK→Prop)(te:TE)(tl th:TO):TE:=fun σ H Q=>te σ H fun x H1=>tl σ H1 fun l H2=>th σ H2 fun u H3=>r x l u H3 Q
theorem pe_slice {r:V→Option Int→Option Int→Hp→VK→Prop}(hr:SlR X r)(he:PE X e te)(hl:PO X lo tl)(hu:PO X hi th):PE X (.Subscript e (.Slice lo hi none p2) pos) (tSl r te tl th):=by
 intro pins s σ H Q I h;refine Subscript_ (thn (he pins s σ H _ I h) fun v s1 ⟨x,H1,I1,r1,q1⟩=>?_);refine wpAny_Slice (thn (hl pins s1 σ H1 _ I1 q1) fun vl s2 ⟨l,H2,I2,pl,q2⟩=>thn (hu pins s2 σ H2 _ I2 q2) fun vu s3 ⟨u,H3,I3,pu,q3⟩=>?_);rw[evalPart_none];refine wpAny_pure ?_;have I4:Inv X pins σ H3 {s3 with heap:=s3.heap.push {cls:=.type "slice",data:=.fields #[vl,vu,.none]}}:=I3.kept (t':=s3.toks) fun b ob q=>Heap.get?_push_of_some _ q
 obtain⟨T,id,hT,ht,hg⟩:=hr pins {s3 with heap:=s3.heap.push {cls:=.type "slice",data:=.fields #[vl,vu,.none]}} σ H3 x v vl vu l u s3.heap.objs.size Q I4 r1 (Heap.IsSliceOf.new ..) pl pu q3;show wpAny (model X.prog X.w) X.A (subscriptTail e (.Slice lo hi none p2) v (.ref s3.heap.objs.size)) (EP X pins σ Q) X.xe {s3 with heap:=s3.heap.push {cls:=.type "slice",data:=.fields #[vl,vu,.none]}};exact tail_any (ops:=[.ref s3.heap.objs.size,v]) ht hT hg (by with_unfolding_all rfl)
def cutV (xs:List V)(lo hi:Option Int):List V:=(xs.drop (HT.sIx xs.length 0 lo)).take (HT.sIx xs.length xs.length hi-HT.sIx xs.length 0 lo)
theorem cutV_length (xs:List V)(lo hi:Option Int):(cutV xs lo hi).length≤xs.length:=by
 unfold cutV;rw[List.length_take,List.length_drop];omega
theorem Vals.nil_iff {xs:List V}{us:List Value}(r:Vals xs us):us=[]↔xs=[]:=by
 cases r with
 | nil=>simp
 | cons _ _=>simp
end
end L2
namespace L2
open PySem PySem.Spec PyProof.Rows
def ixN (n:Nat)(i:Int):Option Nat:=if 0≤i then (if i<n then some i.toNat else none) else if -(n:Int)≤i then some (i+n).toNat else none
def atI {α:Type}(xs:List α)(i:Int):Option α:=(ixN xs.length i).bind fun j=>xs[j]?
theorem ixN_seq {n:Nat}{i:Int}{j:Nat}(h:ixN n i=some j):seqIndex? i n=some j∧j<n∧-(n:Int)≤i∧i<n:=by
 unfold ixN at h;by_cases h0:0≤i
 ·rw[if_pos h0] at h;by_cases h1:i<n
  ·rw[if_pos h1] at h;have e:i.toNat=j:=Option.some.inj h;exact⟨by rw[seqIndex_of h0 h1,e],by omega,by omega,h1⟩
  ·rw[if_neg h1] at h;cases h
 ·rw[if_neg h0] at h;by_cases h1:-(n:Int)≤i
  ·rw[if_pos h1] at h;have e:(i+n).toNat=j:=Option.some.inj h;exact⟨by rw[seqIndex_neg (by omega) h1,e],by omega,h1,by omega⟩
  ·rw[if_neg h1] at h;cases h
theorem atI_get {α:Type}{xs:List α}{i:Int}{v:α}(h:atI xs i=some v):∃ j,seqIndex? i xs.length=some j∧xs[j]?=some v∧j<xs.length∧-(xs.length:Int)≤i∧i<xs.length:=by
 unfold atI at h;cases e:ixN xs.length i with
 | none=>rw[e] at h;cases h
 | some j =>
  rw[e] at h;obtain⟨h1,h2,h3,h4⟩:=ixN_seq e;exact⟨j,h1,h,h2,h3,h4⟩
theorem atI_nat {α:Type}{xs:List α}{j:Nat}{v:α}(h:xs[j]?=some v):atI xs (j:Int)=some v:=by
 have hj:j<xs.length:=(List.getElem?_eq_some_iff.mp h).1;have e:ixN xs.length (j:Int)=some j:=by
  unfold ixN;rw[if_pos (by omega),if_pos (by omega)];simp
 unfold atI;rw[e];exact h
def PlainIx (b:Expr):Prop:=∀ o i,subscripted b false o i=operate [o,i] (getItem o i)
def IxR (X:Cx)(r:R2):Prop :=
 ∀ (value slice:Expr) (pins:List (Addr×Obj)) (s:Shared) (σ:St) (H:Hp) (x y:V) (v u:Value) (Q:VK),Inv X pins σ H s→RelV x v→RelV y u→r x y H Q →
  subscripted slice false v u=operate [v,u] (getItem v u)→wpAny (model X.prog X.w) X.A (subscriptTail value slice v u) (EP X pins σ Q) X.xe s
def MtR (X:Cx)(id:String)(r:V→List V→Hp→VK→Prop):Prop :=
 ∀ (pins:List (Addr×Obj)) (s:Shared) (σ:St) (H:Hp) (x:V) (xs:List V) (v:Value) (us:List Value) (Q:VK),Inv X pins σ H s→RelV x v→Vals xs us→r x xs H Q →
  wpAny (model X.prog X.w) X.A (call (.builtin id) (v::us)) (EP X pins σ Q) X.xe s
section
variable {X:Cx}{a b:Expr}{ta tb:TE}{pos:Pos}
theorem pe_ix {r:R2}(hr:IxR X r)(ha:PE X a ta)(hb:PE X b tb)(hs:PlainIx b):PE X (.Subscript a b pos) (tOp r ta tb):=by
 intro pins s σ H Q I h;exact Subscript_ (binT ha hb I h fun v u s2 x y H2 I2 rx ry q=>hr a b pins s2 σ H2 x y v u Q I2 rx ry q (hs _ _))
def rIxL (K:PySem.W.Frag):R2:=fun x y H Q=>∃ p xs i v,x=.ref p∧y=.int i∧SqL K H p xs∧atI xs i=some v∧Q v H
def rIxT (K:PySem.W.Frag):R2:=fun x y H Q=>∃ p xs i v,x=.ref p∧y=.int i∧SqT K H p xs∧atI xs i=some v∧Q v H
theorem ix_list:IxR X (rIxL X.K):=by
 intro value slice pins s σ H x y v u Q I rx ry h hs;obtain⟨p,xs,i,z,rfl,rfl,hq,he,q⟩:=h;cases rx;obtain⟨t,rfl⟩:=ry;obtain⟨its,r,pl,hz⟩:=I.list hq;obtain⟨j,h1,h2,h3,h4,h5⟩:=atI_get he;obtain⟨w,ew,rw'⟩:=r.get h2;have hl:=r.length;have hn:=line63;have fin:EP X pins σ Q w s:=⟨z,H,I,rw',q⟩
 by_cases h0:0≤i
 ·have hj:i.toNat=j:=by
   rw[seqIndex_of h0 h5] at h1;exact Option.some.inj h1
  exact item_listR pl.isList h0 (by omega) (by rw[hj];simpa using ew) fin hs
 ·have hj:(i+(its.toArray.size:Int)).toNat=j:=by
   rw[seqIndex_neg (by omega) h4] at h1;rw[List.size_toArray,← hl];exact Option.some.inj h1
  exact subscriptTail_builtinR (x:=w) pl.isList.typeIs slot_list_getitem.lookup
   (wpAny_getItem_list_neg (Q:=fun r s'=>r=w∧EP X pins σ Q r s') pl.isList (by omega) (by rw[List.size_toArray]<;>omega) (by omega) (by rw[hj];simpa using ew) ⟨rfl,fin⟩) hs
theorem ix_tup:IxR X (rIxT X.K):=by
 intro value slice pins s σ H x y v u Q I rx ry h hs;obtain⟨p,xs,i,z,rfl,rfl,hq,he,q⟩:=h;cases rx;obtain⟨t,rfl⟩:=ry;obtain⟨its,r,pl,hz⟩:=I.tuple hq;obtain⟨j,h1,h2,h3,h4,h5⟩:=atI_get he;obtain⟨w,ew,rw'⟩:=r.get h2;have hl:=r.length;have hn:=line63;have fin:EP X pins σ Q w s:=⟨z,H,I,rw',q⟩
 exact subscriptTail_builtinR (x:=w) pl.typeIs slot_tuple_getitem.lookup
  (getItem_tuple (j:=j) (Q:=fun r s'=>r=w∧EP X pins σ Q r s') pl (by omega) (by omega) (by rw[List.size_toArray,← hl];exact h1) (by simpa using ew) ⟨rfl,fin⟩) hs
theorem mapSeq_set (its:List Value)(n j:Nat)(u:Value):Obj.mapSeq (·.setIfInBounds j u) {cls:=.type "list",data:=.seq its.toArray n}={cls:=.type "list",data:=.seq (its.set j u).toArray n}:=by
 simp[Obj.mapSeq]
theorem Inv.lst {pins:List (Addr×Obj)}{σ:St}{H:Hp}{s:Shared}{p:Addr}{xs:List V}(I:Inv X pins σ H s)(h:H p=some (.lst xs)) :
  ∃ (its:List Value) (n:Nat),Vals xs its∧s.heap.get? p=some {cls:=.type "list",data:=.seq its.toArray n}∧xs.length≤sizeLine:=by
 obtain⟨z,its,n,r,e⟩:=I.hok p _ h;exact⟨its,n,r,e,z⟩
theorem Inv.lstUpd {pins:List (Addr×Obj)}{σ:St}{H:Hp}{s:Shared}{p:Addr}{xs ys:List V}{its its':List Value}{n n':Nat}{f:Obj→Obj}(I:Inv X pins σ H s)(h:H p=some (.lst xs))
  (ho:s.heap.get? p=some {cls:=.type "list",data:=.seq its.toArray n}) (hf:f {cls:=.type "list",data:=.seq its.toArray n}={cls:=.type "list",data:=.seq its'.toArray n'}) (r:Vals ys its') (hz:ys.length≤sizeLine) (t:Nat) :
  Inv X pins σ (upd H p (.lst ys)) {s with heap:=s.heap.update p f,toks:=t}:=by
 have e:(s.heap.update p f).get? p=some {cls:=.type "list",data:=.seq its'.toArray n'}:=by
  rw[Heap.get?_update_self f ho (by rw[hf]<;>rfl),hf]
 refine I.write (x:=p) (e:=p) (by rw[h];trivial) (.inl rfl) (fun b u hb q=>(Heap.get?_update_other _ _ (Ne.symm hb)).trans q) ⟨_,e⟩ ?_;exact⟨hz,its',n',r,e⟩
def rSetL:V→V→V→Hp→(Hp→Prop)→Prop:=fun o i v H Q=>∃ p xs k j,o=.ref p∧i=.int k∧H p=some (.lst xs)∧ixN xs.length k=some j∧Q (upd H p (.lst (xs.set j v)))
theorem set_list:PSet X rSetL:=by
 intro pins s σ H o i v ov iv u Q I ro ri rv h;obtain⟨p,xs,k,j,rfl,rfl,hp,hj,q⟩:=h;cases ro;obtain⟨t,rfl⟩:=ri;obtain⟨its,n,r,ho,hz⟩:=I.lst hp;obtain⟨h1,h2,h3,h4⟩:=ixN_seq hj;have hl:=r.length;have hn:=line63;have I':Inv X pins σ (upd H p (.lst (xs.set j v))) {s with heap:=s.heap.update p (Obj.mapSeq (·.setIfInBounds j u))} :=
  I.lstUpd hp ho (mapSeq_set its n j u) (r.set rv j) (by rw[List.length_set];exact hz) s.toks
 by_cases h0:0≤k
 ·have hk:k.toNat=j:=by
   rw[seqIndex_of h0 h4] at h1;exact Option.some.inj h1
  exact PySem.W.ki_setAt ho h0 (by omega) (by rw[List.size_toArray,← hl];exact h4) (by rw[hk];exact⟨_,I',q⟩)
 ·have hk:(k+(its.toArray.size:Int)).toNat=j:=by
   rw[seqIndex_neg (by omega) h3] at h1;rw[List.size_toArray,← hl];exact Option.some.inj h1
  exact PySem.W.ki_setBack ho (by omega) (by rw[List.size_toArray,← hl];exact h3) (by omega) (by rw[hk];exact⟨_,I',q⟩)
theorem slice_bounds (lo hi:Option Int)(n:Nat):(sliceBounds lo hi none n).1=((HT.sIx n 0 lo:Nat):Int)∧(sliceBounds lo hi none n).2.1=((HT.sIx n n hi:Nat):Int)∧(sliceBounds lo hi none n).2.2=1:=by
 refine⟨?_,?_,rfl⟩
 ·cases lo with
  | none=>simp[sliceBounds,HT.sIx]
  | some i =>
   simp only[sliceBounds,HT.sIx,Option.getD_none,show (1:Int)>0 by decide,if_true];by_cases h:i<0
   ·simp only[h,if_true]<;>omega
   ·simp only[h,if_false]<;>omega
 ·cases hi with
  | none=>simp[sliceBounds,HT.sIx]
  | some i =>
   simp only[sliceBounds,HT.sIx,Option.getD_none,show (1:Int)>0 by decide,if_true];by_cases h:i<0
   ·simp only[h,if_true]<;>omega
   ·simp only[h,if_false]<;>omega
theorem slicePick_cut (its:List Value)(lo hi:Option Int):slicePick its.toArray lo hi none=((its.drop (HT.sIx its.length 0 lo)).take (HT.sIx its.length its.length hi-HT.sIx its.length 0 lo)).toArray:=by
 obtain⟨h1,h2,h3⟩:=slice_bounds lo hi its.toArray.size;unfold slicePick;rw[h1,h2,h3];simp only[sliceRange_one,pick_run,List.size_toArray]<;>rfl
def rSlL (K:PySem.W.Frag):V→Option Int→Option Int→Hp→VK→Prop:=fun x lo hi H Q=>∃ a xs,x=.ref a∧SqL K H a xs∧∀ p,H p=none→Q (.ref p) (upd H p (.lst (cutV xs lo hi)))
theorem sl_list:SlR X (rSlL X.K):=by
 intro pins s σ H x v vl vu lo hi sl Q I rx hs pl pu h;obtain⟨a,xs,rfl,hx,q⟩:=h;cases rx;obtain⟨its,r,ht,hz⟩:=I.list hx;have hlen:=r.length;refine⟨"list",_,slot_list_getitem.lookup,ht.isList.typeIs,?_⟩;refine wpAny_getItem_list_slice ht.isList hs pl pu .none (by simp) ?_ (by rw[List.size_toArray]<;>omega);rw[slicePick_cut,← hlen];refine⟨.ref s.heap.objs.size,_,I.laid (t':=s.toks) (o:=.lst (cutV xs lo hi)) (fun b ob q=>Heap.get?_push_of_some _ q) (Nat.le_refl _) ?_,rfl,q _ (I.hok.fresh (Nat.le_refl _))⟩;exact⟨Nat.le_trans (cutV_length xs lo hi) hz,_,0,(r.drop (HT.sIx xs.length 0 lo)).take (HT.sIx xs.length xs.length hi-HT.sIx xs.length 0 lo),Heap.get?_push_size _ rfl⟩
def flatV:V→Bool
 | .non=>true
 | .bl _=>true
 | .int _=>true
 | .str _=>true
 | _=>false
def eqV:V→V→Bool
 | .non,.non=>true
 | .bl a,.bl b=>a == b
 | .bl a,.int b=>(if a then 1 else 0) == b
 | .int a,.bl b=>a == (if b then 1 else 0)
 | .int a,.int b=>a == b
 | .str a,.str b=>a == b
 | _,_=>false
theorem eqAt_V {A:Around}{s:Shared}{y x:V}{u v:Value}(ry:RelV y u)(rx:RelV x v)(fy:flatV y=true)(fx:flatV x=true):SeqAt.EqAt A s u v (eqV y x):=by
 cases y with
 | non =>
  cases ry;cases x with
  | non=>cases rx;exact SeqAt.EqAt.same _
  | bl b=>cases rx;exact SeqAt.EqAt.none_bool b
  | int b=>obtain⟨t,rfl⟩:=rx;exact SeqAt.EqAt.none_int b t
  | str b=>obtain⟨t,rfl⟩:=rx;exact SeqAt.EqAt.none_str b t
  | _=>exact absurd (show false=true from fx) Bool.false_ne_true
 | bl a =>
  cases ry;cases x with
  | non=>cases rx;exact SeqAt.EqAt.bool_none a
  | bl b=>cases rx;exact SeqAt.EqAt.bool_bool a b
  | int b=>obtain⟨t,rfl⟩:=rx;exact SeqAt.EqAt.bool_int a b t
  | str b=>obtain⟨t,rfl⟩:=rx;exact SeqAt.EqAt.bool_str a b t
  | _=>exact absurd (show false=true from fx) Bool.false_ne_true
 | int a =>
  obtain⟨t',rfl⟩:=ry;cases x with
  | non=>cases rx;exact SeqAt.EqAt.int_none a t'
  | bl b=>cases rx;exact SeqAt.EqAt.int_bool a t' b
  | int b=>obtain⟨t,rfl⟩:=rx;exact SeqAt.EqAt.int_int a t' b t
  | str b=>obtain⟨t,rfl⟩:=rx;exact SeqAt.EqAt.int_str a t' b t
  | _=>exact absurd (show false=true from fx) Bool.false_ne_true
 | str a =>
  obtain⟨t',rfl⟩:=ry;cases x with
  | non=>cases rx;exact SeqAt.EqAt.str_none a t'
  | bl b=>cases rx;exact SeqAt.EqAt.str_bool a t' b
  | int b=>obtain⟨t,rfl⟩:=rx;exact SeqAt.EqAt.str_int a t' b t
  | str b=>obtain⟨t,rfl⟩:=rx;exact SeqAt.EqAt.str_str a t' b t
  | _=>exact absurd (show false=true from fx) Bool.false_ne_true
 | _=>exact absurd (show false=true from fy) Bool.false_ne_true
def eqU (x:V)(u:Value):Bool:=match u with
 | .none=>eqV .non x
 | .bool b=>eqV (.bl b) x
 | .int i _=>eqV (.int i) x
 | .str z _=>eqV (.str z) x
 | _=>false
theorem eqU_of {x y:V}{u:Value}(r:RelV y u)(f:flatV y=true):eqU x u=eqV y x:=by
 cases y with
 | non=>cases r;rfl
 | bl b=>cases r;rfl
 | int i=>obtain⟨t,rfl⟩:=r;rfl
 | str z=>obtain⟨t,rfl⟩:=r;rfl
 | _=>exact absurd (show false=true from f) Bool.false_ne_true
theorem any_eqU {x:V}:∀ {xs:List V} {us:List Value},Vals xs us→xs.all flatV=true→us.any (eqU x)=xs.any fun y=>eqV y x
 | _,_,.nil,_=>rfl
 | y::xs,u::us,.cons r t,f=>by
  rw[List.all_cons,Bool.and_eq_true] at f;rw[List.any_cons,List.any_cons,eqU_of r f.1,any_eqU t f.2]
theorem mem_eqAt {A:Around}{s:Shared}{x:V}{v:Value}(rx:RelV x v)(fx:flatV x=true):∀ {xs:List V} {us:List Value},Vals xs us→xs.all flatV=true→∀ u∈us,SeqAt.EqAt A s u v (eqU x u)
 | _,_,.nil,_=>fun u hu=>by cases hu
 | y::xs,u::us,.cons r t,f=>fun u' hu=>by
  rw[List.all_cons,Bool.and_eq_true] at f;rcases List.mem_cons.mp hu with rfl | hu
  ·rw[eqU_of r f.1];exact eqAt_V r rx f.1 fx
  ·exact mem_eqAt rx fx t f.2 u' hu
def inV (x:V)(xs:List V):Bool:=xs.any fun y=>eqV y x
def rIn (K:PySem.W.Frag)(neg:Bool):R2:=fun x y H Q=>∃ p xs,y=.ref p∧(SqL K H p xs∨SqT K H p xs)∧flatV x=true∧xs.all flatV=true∧Q (.bl (if neg then !inV x xs else inV x xs)) H
theorem op_in_seq:OpR X (compareOp .In) (rIn X.K false):=by
 intro pins s σ H x y v u Q I rx ry h;obtain⟨p,xs,rfl,hq,fx,fs,q⟩:=h;cases ry;rcases hq with hq | hq
 ·obtain⟨its,r,pl,hz⟩:=I.list hq;refine SeqAt.in_listAt (eqU x) pl.isList (fun w hw=>mem_eqAt rx fx r fs w (by simpa using hw)) ⟨.bl _,H,I,rfl,?_⟩;rw[show its.toArray.any (eqU x)=its.any (eqU x) by simp,any_eqU r fs];exact q
 ·obtain⟨its,r,pl,hz⟩:=I.tuple hq;refine SeqAt.in_tupleAt (eqU x) pl (fun w hw=>mem_eqAt rx fx r fs w (by simpa using hw)) ⟨.bl _,H,I,rfl,?_⟩;rw[show its.toArray.any (eqU x)=its.any (eqU x) by simp,any_eqU r fs];exact q
theorem op_notIn_seq:OpR X (compareOp .NotIn) (rIn X.K true):=by
 intro pins s σ H x y v u Q I rx ry h;obtain⟨p,xs,rfl,hq,fx,fs,q⟩:=h;cases ry;rcases hq with hq | hq
 ·obtain⟨its,r,pl,hz⟩:=I.list hq;refine SeqAt.notIn_listAt (eqU x) pl.isList (fun w hw=>mem_eqAt rx fx r fs w (by simpa using hw)) ⟨.bl _,H,I,rfl,?_⟩;rw[show its.toArray.any (eqU x)=its.any (eqU x) by simp,any_eqU r fs];exact q
 ·obtain⟨its,r,pl,hz⟩:=I.tuple hq;refine SeqAt.notIn_tupleAt (eqU x) pl (fun w hw=>mem_eqAt rx fx r fs w (by simpa using hw)) ⟨.bl _,H,I,rfl,?_⟩;rw[show its.toArray.any (eqU x)=its.any (eqU x) by simp,any_eqU r fs];exact q
theorem call_len_seq:CallR X (.builtin "len") (fun xs H Q=>∃ p ys,xs=[.ref p]∧(SqL X.K H p ys∨SqT X.K H p ys)∧Q (.int ys.length) H):=by
 intro pins s σ H xs us Q I r h;obtain⟨p,ys,rfl,hq,q⟩:=h;obtain⟨u,rfl,rx⟩:=vals1 r;cases rx;have hn:=line63;rcases hq with hq | hq
 ·obtain⟨its,r',pl,hz⟩:=I.list hq;have hlen:=r'.length;exact Calls.call_len_list pl.isList (by simp only[List.size_toArray]<;>omega) ⟨.int ys.length,H,I.tok _,⟨s.toks+1,by rw[List.size_toArray,hlen]⟩,q⟩
 ·obtain⟨its,r',pl,hz⟩:=I.tuple hq;have hlen:=r'.length;exact len_tuple pl (by simp only[List.size_toArray]<;>omega) ⟨.int ys.length,H,I.tok _,⟨s.toks+1,by rw[List.size_toArray,hlen]⟩,q⟩
theorem call_list_of:CallR X (.type "list") (fun xs H Q=>∃ p ys,xs=[.ref p]∧(SqL X.K H p ys∨SqT X.K H p ys)∧∀ l,H l=none→Q (.ref l) (upd H l (.lst ys))):=by
 intro pins s σ H xs us Q I r h;obtain⟨p,ys,rfl,hq,q⟩:=h;obtain⟨u,rfl,rx⟩:=vals1 r;cases rx;have fin:∀ (its:List Value),Vals ys its→ys.length≤sizeLine→∀ (h':Heap) (c':Nat),(∀ b o',s.heap.get? b=some o'→h'.get? b=some o') →
   h'.get? s.heap.objs.size=some {cls:=.type "list",dict:=none,data:=.seq its.toArray c',slots:=#[]}→EP X pins σ Q (.ref s.heap.objs.size) {s with heap:=h'}:=fun its r' hz h' c' kp e =>
  ⟨.ref s.heap.objs.size,_,I.laid (t':=s.toks) kp (Nat.le_refl _) (show ObjOk X.prog X.w _ h' _ (.lst ys) from ⟨hz,its,c',r',e⟩),rfl,q _ (I.hok.fresh (Nat.le_refl _))⟩
 rcases hq with hq | hq
 ·obtain⟨its,r',pl,hz⟩:=I.list hq;have hlen:=r'.length;obtain⟨o,ho,hc,n,hd⟩:=pl.isList;exact call_list_seq p (.inl rfl) ho hc hd (fun h' c' kp e=>fin its r' hz h' c' kp e) (by simp only[List.size_toArray]<;>omega)
 ·obtain⟨its,r',pl,hz⟩:=I.tuple hq;have hlen:=r'.length;obtain⟨o,ho,hc,n,hd⟩:=pl;exact call_list_seq p (.inr rfl) ho hc hd (fun h' c' kp e=>fin its r' hz h' c' kp e) (by simp only[List.size_toArray]<;>omega)
theorem call_tuple_of:CallR X (.type "tuple") (fun xs H Q=>∃ p ys,xs=[.ref p]∧((SqL X.K H p ys∧∀ l,H l=none→Q (.ref l) (upd H l (.tup ys)))∨(SqT X.K H p ys∧Q (.ref p) H))):=by
 intro pins s σ H xs us Q I r h;obtain⟨p,ys,rfl,h⟩:=h;obtain⟨u,rfl,rx⟩:=vals1 r;cases rx;rcases h with ⟨hq,q⟩ | ⟨hq,q⟩
 ·obtain⟨its,r',pl,hz⟩:=I.list hq;have hlen:=r'.length;refine call_tuple_list pl.isList (fun h' kp=>?_) (by simp only[List.size_toArray]<;>omega);have I1:Inv X pins σ H {s with heap:=h'}:=I.kept (t':=s.toks) kp;have I2:Inv X pins σ (upd H h'.objs.size (.tup ys)) {s with heap:=h'.push {cls:=.type "tuple",data:=.seq its.toArray}} :=
   I1.laid (t':=s.toks) (fun b o e=>Heap.get?_push_of_some _ e) (Nat.le_refl _) (show ObjOk X.prog X.w _ _ _ (.tup ys) from ⟨hz,its,r',IsTup.new _ _⟩)
  exact⟨.ref h'.objs.size,_,I2,rfl,q _ (I1.hok.fresh (Nat.le_refl _))⟩
 ·obtain⟨its,r',pl,hz⟩:=I.tuple hq;exact call_tuple_same pl ⟨.ref p,H,I,rfl,q⟩
def tyV (K:PySem.W.Frag)(T:String)(x:V)(H:Hp):Prop:=match x with
 | .str _=>T="str"
 | .int _=>T="int"
 | .ref p=>(T="list"∧∃ xs,SqL K H p xs)∨(T="tuple"∧∃ o,K.lookup p=some o∧o.cls=.type "tuple"∧o.dict=none) ∨
   (T="dict"∧((∃ kvs,H p=some (.dK kvs))∨∃ kvs,H p=some (.dT kvs)))∨(T="set"∧∃ S n,H p=some (.set S n))
 | _=>False
theorem tyV_is {pins:List (Addr×Obj)}{σ:St}{H:Hp}{s:Shared}{T:String}{x:V}{v:Value}(I:Inv X pins σ H s)(r:RelV x v)(ty:tyV X.K T x H) :
  s.TypeIs v T∧∀ a,v=.ref a→∃ ob,s.heap.get? a=some ob∧ob.dict=none:=by
 cases x with
 | str z =>
  obtain⟨t,rfl⟩:=r;cases (show T="str" from ty);exact⟨typeIs_str s z t,fun _ e=>nomatch e⟩
 | int i =>
  obtain⟨t,rfl⟩:=r;cases (show T="int" from ty);exact⟨typeIs_int s i t,fun _ e=>nomatch e⟩
 | ref p =>
  cases r;rcases ty with ⟨rfl,xs,hq⟩ | ⟨rfl,o,hk,hc,hd⟩ | ⟨rfl,hk⟩ | ⟨rfl,S,n,hk⟩
  ·obtain⟨its,_,pl,_⟩:=I.list hq;refine⟨pl.isList.typeIs,fun a e=>?_⟩;cases e;obtain⟨o,n,e,c,hd,_⟩:=pl;exact⟨o,e,hd⟩
  ·refine⟨⟨o,I.kIn p o hk,hc⟩,fun a e=>?_⟩;cases e;exact⟨o,I.kIn _ o hk,hd⟩
  ·have z:∃ o,s.heap.get? p=some o∧o.ExactDict:=by
    rcases hk with ⟨kvs,hk⟩ | ⟨kvs,hk⟩
    ·obtain⟨_,_,_,_,o,_,_,e,ex,_⟩:=I.hok p _ hk;exact⟨o,e,ex⟩
    ·obtain⟨_,_,_,_,o,_,_,e,ex,_⟩:=I.hok p _ hk;exact⟨o,e,ex⟩
   obtain⟨o,e,ex⟩:=z;refine⟨⟨o,e,ex.1⟩,fun a e2=>?_⟩;cases e2;exact⟨o,e,ex.2.1⟩
  ·obtain⟨o,_,_,_,e,ex,_⟩:=I.hok p _ hk;refine⟨⟨o,e,ex.1⟩,fun a e2=>?_⟩;cases e2;exact⟨o,e,ex.2.1⟩
 | _=>exact False.elim ty
def tBM0 (K:PySem.W.Frag)(T:String)(r:V→List V→Hp→VK→Prop)(to:TE):TE:=fun σ H Q=>to σ H fun x H1=>tyV K T x H1∧r x [] H1 Q
def tBM (K:PySem.W.Frag)(T:String)(r:V→List V→Hp→VK→Prop)(to:TE)(t:TA):TE:=fun σ H Q=>to σ H fun x H1=>tyV K T x H1∧t σ H1 fun xs H2=>r x xs H2 Q
variable {o e:Expr}{es:List Expr}{to:TE}{t:TA}{name:Str}{apos cpos:Pos}{T id:String}{r:V→List V→Hp→VK→Prop}
theorem pe_bm0 (pa:PlainAttrs T)(slot:Slot T name id)(hty:typeOf (.builtin id)=pure (.type "method_descriptor"))(hm:MtR X id r)(ho:PE X o to)
  (hbase:attributeBase o name X.env (eval o X.env)=eval o X.env:=by rfl) (hline:(apos.endLine == cpos.line)=true:=by rfl):PE X (.Call (.Attribute o name apos) [] [] cpos) (tBM0 X.K T r to):=by
 intro pins s σ H Q I h;refine wpAny_Call_method0_late hbase hline (thn (ho pins s σ H _ I h) fun v s1 ⟨x,H1,I1,r1,ty,q1⟩=>?_);obtain⟨h1,h2⟩:=tyV_is I1 r1 ty;exact⟨T,id,pa,slot,hty,h1,h2,Calls.callWith_builtin rfl (PySem.evalArgs_none (hm pins s1 σ H1 x [] v [] Q I1 r1 .nil q1))⟩
theorem pe_bm (pa:PlainAttrs T)(slot:Slot T name id)(hty:typeOf (.builtin id)=pure (.type "method_descriptor"))(hm:MtR X id r)(ho:PE X o to)(ha:PA X (e::es) t)
  (hbase:attributeBase o name X.env (eval o X.env)=eval o X.env:=by rfl)
  (hfew:((backTo cpos (starEach (e::es) X.env)).all (fun x=>!x.1) && (backToKw cpos (keywordEach [] X.env)).all (fun x=>x.1.isSome)
   && decide ((e::es).length+([]:List Keyword).length+(if ([]:List Keyword).isEmpty then 0 else 1)<30))=true:=by rfl)
  (hline:(apos.endLine == cpos.line)=true:=by rfl) (hs:starEach (e::es) X.env=(false,eval e X.env)::starEach es X.env:=by rfl) (hplain:(backTo cpos (starEach es X.env)).any (·.1)=false:=by rfl) :
  PE X (.Call (.Attribute o name apos) (e::es) [] cpos) (tBM X.K T r to t):=by
 intro pins s σ H Q I h;refine wpAny_Call_method_late hbase hfew hline rfl (thn (ho pins s σ H _ I h) fun v s1 ⟨x,H1,I1,r1,ty,q1⟩=>?_);obtain⟨h1,h2⟩:=tyV_is I1 r1 ty;refine⟨T,id,pa,slot,hty,h1,h2,?_⟩;have hA:=ha cpos pins s1 σ H1 _ I1 q1;rw[hs] at hA ⊢;refine Calls.callWith_builtin (by show (false || (backTo cpos (starEach es X.env)).any (·.1))=false;rw[hplain]<;>rfl) (Calls.evalArgs_plain ?_);exact thn hA fun us s2 ⟨vs,H2,I2,r2,q2⟩=>hm pins s2 σ H2 x vs v us Q I2 r1 r2 q2
/- xs.append(e),list.index on a module's tuple .. are MtR facts of 06m -/
end
end L2
namespace L2
open PySem PySem.Spec PyProof.Rows
def MtM (X:Cx)(id:String)(r:V→List V→Hp→VK→Prop):Prop :=
 ∀ (pins:List (Addr×Obj)) (s:Shared) (σ:St) (H:Hp) (x:V) (xs:List V) (v:Value) (us:List Value) (Q:VK),Inv X pins σ H s→RelV x v→Vals xs us→r x xs H Q →
  wpAny (model X.prog X.w) X.A (call (.builtin id) (v::us)) (EP X pins σ Q) X.xe s
theorem Vals.one:∀ {x:V} {us:List Value},Vals [x] us→∃ u,us=[u]∧RelV x u
 | _,_,.cons r .nil=>⟨_,rfl,r⟩
theorem Vals.zero:∀ {us:List Value},Vals [] us→us=[]
 | _,.nil=>rfl
theorem Vals.dropLast {xs:List V}{us:List Value}(h:Vals xs us):Vals xs.dropLast us.dropLast:=by
 induction h with
 | nil=>exact .nil
 | cons r t ih =>
  cases t with
  | nil=>exact .nil
  | cons q t'=>exact .cons r ih
theorem Vals.eraseIdx:∀ {xs:List V} {us:List Value} (i:Nat),Vals xs us→Vals (xs.eraseIdx i) (us.eraseIdx i)
 | _,_,_,.nil=>.nil
 | _,_,0,.cons _ t=>t
 | _,_,i+1,.cons r t=>.cons r (Vals.eraseIdx i t)
theorem Vals.reverse {xs:List V}{us:List Value}(h:Vals xs us):Vals xs.reverse us.reverse:=by
 induction h with
 | nil=>exact .nil
 | cons r t ih=>rw[List.reverse_cons,List.reverse_cons];exact Vals.append ih (.cons r .nil)
theorem Vals.rep {xs:List V}{us:List Value}(h:Vals xs us):∀ k:Nat,Vals (List.replicate k xs).flatten (List.replicate k us).flatten
 | 0=>.nil
 | k+1=>by
  rw[List.replicate_succ,List.replicate_succ,List.flatten_cons,List.flatten_cons];exact Vals.append h (Vals.rep h k)
theorem erase_last {α:Type}(l:List α):l.eraseIdx (l.length-1)=l.dropLast:=by
 induction l with
 | nil=>rfl
 | cons a r ih =>
  cases r with
  | nil=>rfl
  | cons b r =>
   have e:(a::b::r).length-1=((b::r).length-1)+1:=by
    have h1:(a::b::r).length=r.length+2:=rfl;have h2:(b::r).length=r.length+1:=rfl;omega
   rw[e,List.eraseIdx_cons_succ,ih];all_goals rfl
theorem foldl_rep (its:List Value):∀ (k:Nat) (acc:List Value),
  List.foldl (fun x1 x2=>x1++x2) acc.toArray (List.replicate k its.toArray)=(acc++(List.replicate k its).flatten).toArray
 | 0,acc=>by simp
 | k+1,acc=>by
  have e:acc.toArray++its.toArray=(acc++its).toArray:=by simp
  have e2:(acc++its)++(List.replicate k its).flatten=acc++(List.replicate (k+1) its).flatten:=by
   rw[List.replicate_succ,List.flatten_cons,List.append_assoc]
  rw[← e2,← foldl_rep its k (acc++its),← e,List.replicate_succ,List.foldl_cons]
section
variable {X:Cx}{pins:List (Addr×Obj)}{σ:St}{H:Hp}{s:Shared}{l b:Addr}{xs ys zs:List V}
theorem Inv.lset {its its':List Value}{n:Nat}{f:Array Value→Array Value}{t':Nat}(I:Inv X pins σ H s)(hH:H l=some (.lst xs))
  (e:s.heap.get? l=some {cls:=.type "list",data:=.seq its.toArray n}) (hf:f its.toArray=its'.toArray) (hv:Vals ys its') (hz:ys.length≤sizeLine) :
  Inv X pins σ (upd H l (.lst ys)) {s with heap:=s.heap.update l (Obj.mapSeq f),toks:=t'}:=by
 have q:=PySem.IsL.update e f;rw[hf] at q;refine I.write (x:=l) (e:=l) (by rw[hH];exact trivial) (.inl rfl) (fun b' u hb hu=>(Heap.get?_update_other s.heap (Obj.mapSeq f) (Ne.symm hb)).trans hu) ⟨_,q⟩ ?_;exact⟨hz,its',_,hv,q⟩
theorem Inv.lnew {its:List Value}{t':Nat}(I:Inv X pins σ H s)(hv:Vals ys its)(hz:ys.length≤sizeLine) :
  Inv X pins σ (upd H s.heap.objs.size (.lst ys)) {s with heap:=s.heap.push {cls:=.type "list",data:=.seq its.toArray},toks:=t'} :=
 I.laid (fun _ _ q=>Heap.get?_push_of_some _ q) (Nat.le_refl _) ⟨hz,its,0,hv,Heap.get?_push_size _ rfl⟩
theorem Inv.fresh (I:Inv X pins σ H s):H s.heap.objs.size=none:=I.hok.fresh (Nat.le_refl _)
theorem Inv.lstM (I:Inv X pins σ H s)(hH:H l=some (.lst xs)):xs.length≤sizeLine∧∃ (its:List Value) (n:Nat),Vals xs its∧xs.length=its.length∧s.heap.get? l=some {cls:=.type "list",data:=.seq its.toArray n}:=by
 obtain⟨z,its,n,r,e⟩:=I.hok l _ hH;exact⟨z,its,n,r,r.length,e⟩
theorem notLongL {n:Nat}(h:n≤sizeLine):Builtin.List.listTooLong n=false:=by
 unfold Builtin.List.listTooLong;exact decide_eq_false (by omega)
end
section
variable {X:Cx}
def rAppend:V→List V→Hp→VK→Prop:=fun x vs H Q=>∃ l xs y,x=.ref l∧vs=[y]∧H l=some (.lst xs)∧xs.length<sizeLine∧Q .non (upd H l (.lst (xs++[y])))
theorem mt_append:MtM X "list.append" rAppend:=by
 intro pins s σ H x vs v us Q I rx rv h;obtain⟨l,xs,y,rfl,rfl,hH,hz,q⟩:=h;cases rx;obtain⟨u,rfl,ru⟩:=rv.one;obtain⟨z,its,n,r,hl,e⟩:=I.lstM hH;refine call_meets F.slot_list_append ⟨_,e,rfl⟩ F.entry_list_append (F.args_list_append_2 _ _) (PySem.list_append l its.toArray n u (by rw[List.size_toArray];omega)) ⟨e,?_⟩;refine⟨.non,_,I.lset (its':=its++[u]) hH e (by simp) (r.append (.cons ru .nil)) ?_,rfl,q⟩;rw[List.length_append,List.length_singleton];omega
def rExtend:V→List V→Hp→VK→Prop:=fun x vs H Q=>∃ l b xs zs,x=.ref l∧vs=[.ref b]∧H l=some (.lst xs)∧H b=some (.lst zs)∧xs.length+zs.length≤sizeLine∧Q .non (upd H l (.lst (xs++zs)))
theorem mt_extend:MtM X "list.extend" rExtend:=by
 intro pins s σ H x vs v us Q I rx rv h;obtain⟨l,b,xs,zs,rfl,rfl,hH,hB,hz,q⟩:=h;cases rx;obtain⟨u,rfl,ru⟩:=rv.one;cases ru;obtain⟨z,its,n,r,hl,e⟩:=I.lstM hH;obtain⟨z2,its2,n2,r2,hl2,e2⟩:=I.lstM hB;have hsz:its.toArray.size+its2.toArray.size≤sizeLine:=by rw[List.size_toArray,List.size_toArray];omega
 have hlong:¬ (!its.toArray.isEmpty && Builtin.List.listTooLong (its.toArray.size+its2.toArray.size))=true:=by
  rw[notLongL hsz,Bool.and_false];exact Bool.false_ne_true
 refine call_meets F.slot_list_extend ⟨_,e,rfl⟩ F.entry_list_extend (F.args_list_extend_2 _ _)
  (AutoSeq1.list_extend_list_list_0 l its.toArray n b its2.toArray n2 hlong (by rw[List.size_toArray];omega) (by omega)) ⟨e,e2,?_⟩
 refine⟨.non,_,I.lset (its':=its++its2) hH e (by simp) (r.append r2) ?_,rfl,q⟩;rw[List.length_append];omega
def rPop:V→List V→Hp→VK→Prop:=fun x vs H Q=>∃ l xs y,x=.ref l∧vs=[]∧H l=some (.lst xs)∧xs[xs.length-1]?=some y∧Q y (upd H l (.lst xs.dropLast))
theorem mt_pop:MtM X "list.pop" rPop:=by
 intro pins s σ H x vs v us Q I rx rv h;obtain⟨l,xs,y,rfl,rfl,hH,hy,q⟩:=h;cases rx;have hus:=rv.zero;subst hus;obtain⟨z,its,n,r,hl,e⟩:=I.lstM hH;obtain⟨u,hu,ru⟩:=r.get hy;have hy':its.toArray[its.toArray.size-1]?=some u:=by
  show its.toArray[its.length-1]?=some u;rw[← Array.getElem?_toList,← hl];exact hu
 refine call_meets F.slot_list_pop ⟨_,e,rfl⟩ F.entry_list_pop (F.args_list_pop_1 _) (MeetsSeq.list_pop_last l its.toArray n u hy' (by rw[List.size_toArray];omega)) ⟨e,?_⟩;refine⟨y,_,I.lset (its':=its.dropLast) hH e ?_ r.dropLast ?_,ru,q⟩
 ·show its.toArray.eraseIdxIfInBounds (its.toArray.size-1)=its.dropLast.toArray;rw[List.size_toArray,List.eraseIdxIfInBounds_toArray,erase_last]
 ·rw[List.length_dropLast];omega
def rCat:R2:=fun x y H Q=>∃ l b xs zs,x=.ref l∧y=.ref b∧H l=some (.lst xs)∧H b=some (.lst zs)∧xs.length+zs.length≤sizeLine∧∀ p,H p=none→Q (.ref p) (upd H p (.lst (xs++zs)))
theorem op_cat:OpR X (binaryOp .Add) rCat:=by
 intro pins s σ H x y v u Q I rx ry h;obtain⟨l,b,xs,zs,rfl,rfl,hH,hB,hz,q⟩:=h;cases rx;cases ry;obtain⟨z,its,n,r,hl,e⟩:=I.lstM hH;obtain⟨z2,its2,n2,r2,hl2,e2⟩:=I.lstM hB;refine PySem.P.add_list e e2 ?_ (by rw[List.size_toArray,List.size_toArray];omega);have ea:its.toArray++its2.toArray=(its++its2).toArray:=by simp
 rw[ea];exact⟨.ref _,_,I.lnew (t':=s.toks) (r.append r2) (by rw[List.length_append];omega),rfl,q _ I.fresh⟩
def rRep:R2:=fun x y H Q=>∃ l k xs,x=.ref l∧y=.int k∧H l=some (.lst xs)∧-(2 ^ 63)≤k∧k<2 ^ 63∧xs.length*k.toNat≤sizeLine ∧
 ∀ p,H p=none→Q (.ref p) (upd H p (.lst (List.replicate k.toNat xs).flatten))
theorem len_rep {α:Type}(xs:List α)(k:Nat):(List.replicate k xs).flatten.length=k*xs.length:=by
 induction k with
 | zero=>simp
 | succ k ih=>rw[List.replicate_succ,List.flatten_cons,List.length_append,ih,Nat.succ_mul,Nat.add_comm]
theorem op_rep:OpR X (binaryOp .Mult) rRep:=by
 intro pins s σ H x y v u Q I rx ry h;obtain⟨l,k,xs,rfl,rfl,hH,h1,h2,hz,q⟩:=h;cases rx;obtain⟨t,rfl⟩:=ry;obtain⟨z,its,n,r,hl,e⟩:=I.lstM hH;have hlen:its.toArray.size*k.toNat≤sizeLine:=by rw[List.size_toArray,← hl];exact hz
 have hcap:¬ its.toArray.size*k.toNat>(2 ^ 63-1) / 8:=by
  have:(sizeLine:Nat)≤(2 ^ 63-1) / 8:=by decide
  omega
 have hfit:¬ (!Builtin.List.listFitsIndex k)=true:=by
  rw[fitsIndex_both h1 h2];exact Bool.false_ne_true
 have hlong:¬ Builtin.List.listTooLong (its.toArray.size*k.toNat)=true:=by
  rw[notLongL hlen];exact Bool.false_ne_true
 have hnew:List.foldl (fun x1 x2=>x1++x2) #[] (List.replicate (if its.toArray.isEmpty=true then 0 else k.toNat) its.toArray)=(List.replicate k.toNat its).flatten.toArray:=by
  have f0:∀ m:Nat,List.foldl (fun x1 x2=>x1++x2) #[] (List.replicate m its.toArray)=(List.replicate m its).flatten.toArray:=fun m=>by
   have:=foldl_rep its m [];rw[List.nil_append] at this;exact this
  rw[f0];cases its with
  | nil=>simp
  | cons a r'=>rw[if_neg (by simp)]
 refine wpAny_binaryOp_repeat_ref (T:="list") (U:="int") (by decide) ⟨_,e,rfl⟩ (fun s'=>typeIs_int s' k t) noFill_list_mul F.fills_int_mul F.slot_int_rmul repeat_list F.slot_int_index.lookup
  (call_meets F.slot_int_rmul (typeIs_int s k t) F.entry_int_rmul (F.args_int_rmul_2 _ _) (int___rmul___int_list k t l its.toArray n)
   ⟨e,rfl,⟨_,e,rfl⟩,call_meets F.slot_list_mul ⟨_,e,rfl⟩ F.entry_list_mul (F.args_list_mul_2 _ _) (AutoListH.list___mul___list_int_3 l its.toArray n k t hfit hcap hlong) ⟨e,?_⟩⟩)
 rw[hnew];exact⟨.ref _,_,I.lnew (t':=s.toks) (r.rep k.toNat) (by rw[len_rep,Nat.mul_comm];exact hz),rfl,q _ I.fresh⟩
end
end L2
namespace Att
open PySem PySem.W PySem.Calls PyProof.Rows
theorem ints_of_wellAll {P:Params}{h:Heap}:∀ (ns:List Int) (vs:List Value),WellAll P h vs (ns.map WData.int)→IntsAre vs ns:=by
 intro ns;induction ns with
 | nil =>
  intro vs w;rw[List.map_nil] at w;cases w;exact .nil
 | cons n ns ih =>
  intro vs w;rw[List.map_cons] at w;cases w with
  | cons a b =>
   cases a;exact .cons _ _ (ih _ b)
theorem script_of {l:OpenLaw}{n:Nat}(hn:l.most=some n){P:Params}{h:Heap}{args:List WData}{vals:List Value}
  (hpre:l.row.toRowW.claim.pre args=true) (hwl:WellAll P h vals args) :
  ∃ a vs ns,vals=[Value.ref a]∧args=[WData.list (ns.map WData.int)]∧h.get? a=some {cls:=.type "list",data:=.seq vs.toArray}∧IntsAre vs ns∧ns.length≤n:=by
 have hsh:WShape.hasAll [] args [.list .int]=true:=(pre_splitW hpre).1;have hc:l.pre.holds [] {args:=args}=true:=(pre_splitW hpre).2;obtain⟨d,r,rfl,h1,h2⟩:=hasAllW_cons hsh;obtain rfl:=hasAllW_nil h2;obtain⟨xs,rfl,h3⟩:=hasW_list h1;obtain⟨ns,rfl⟩:=items_int h3;have hlen:ns.length≤n:=by
  unfold OpenLaw.pre at hc;have h4:(WTm.not (.lt (.lit (.int (n:Int))) (.len (.arg 0)))).holds [] {args:=[.list (ns.map .int)]}=true:=by
   have h4:=(holds_andW hc).1;rw[hn] at h4;exact h4
  have h5:=condW_of h4 (w_not (w_lt w_lit (w_len_list (w_arg rfl))));rw[List.length_map] at h5;refine Nat.le_of_not_lt fun q=>?_
  have q':(n:Int)<((ns.length:Nat):Int):=by omega
  first
   | (rw[decide_eq_true q'] at h5;exact absurd h5 (by decide))
   | (simp at h5;omega)
 cases hwl with
 | cons w1 w2 =>
  cases w2;cases w1 with
  | list ho hall=>exact⟨_,_,ns,rfl,rfl,ho,ints_of_wellAll ns _ hall,hlen⟩
theorem post_true (l:OpenLaw)(args:List WData):l.row.toRowW.claim.post args (.bool true) args=true :=
 postW_of (r:=l.row.toRowW) (X:=(true == true))
  (show WShape.has [] (.bool true) .bool=true by first | rfl | decide | simp[WShape.has,WShape.arms,WShape.armsAll])
  (show (WTm.eq .res (.lit (.bool true))).value [] {args:=args,res:=some (.bool true),after:=args}=some (.bool (true == true)) from w_eq_bool (w_res rfl) w_lit) rfl
theorem attach_call {l:OpenLaw}{n:Nat}{q:Program}{loose:List Str}{XP:(Str→Option Value)→Heap→Prop}{YP:World→Heap→Prop}{d:DefRec}
  (hn:l.most=some n) (hdf:d.params.defaults=[])
  (call:∀ (w:World) (s₀ s₁:Shared) (mg mb:Str→Option Value) (fa:Addr) (o:Obj) (pm cd doc:Value) (a:Addr) (vs:List Value) (ns:List Int),
   Ground q loose [] XP w s₀ mg mb s₁.heap→YP w s₁.heap →
   s₁.heap.get? fa=some o→o.data=.func (docDef d.name d.params d.body d.scope pm cd doc)→s₁.heap.CodeRec cd d.name→mg d.name=some (.ref fa) →
   s₁.heap.get? a=some {cls:=.type "list",data:=.seq vs.toArray}→IntsAre vs ns→ns.length≤n→s₁.gens=#[] →
   codeAny (model l.prog w) callerA (.call (.ref fa) ⟨[.ref a],[]⟩) (fun r s'=>r=.ok (.ret (.bool true))∧OldK s₁.heap s'.heap∧s'.os=s₁.os∧AllBare s'.gens) s₁) :
  WalkO q loose XP YP l.row.toRowW d [] (fun f vs=>PySem.call f vs):=by
 intro w s₀ s₁ mg mb G Y fa o pm cd doc dV kV ho hd hcd hD hmg hg args vals as hpre hlay hrd hwl hlo;obtain rfl:dV=.none:=Dflts.none hD hdf;obtain rfl:kV=.none:=Dflts.noKw hD;obtain⟨a,vs,ns,rfl,rfl,hobj,hints,hlen⟩:=script_of hn hpre hwl;refine enter_call (codeAny_mono (call w s₀ s₁ mg mb fa o pm cd doc a vs ns G Y ho (fd_plain hd) hcd hmg hobj hints hlen hg) fun r s' hq=>?_);obtain⟨rfl,h2,h3,h4⟩:=hq;exact⟨.inl ⟨.bool true,.bool true,[],rfl,fun _=>rfl,.bool true,post_true l _,fun _=>⟨List.Pairwise.nil,fun _ hm=>(nomatch hm)⟩⟩,h2,h3,h4⟩
end Att
namespace L2
open PySem PySem.Spec PyProof.Rows
theorem vals_ints:∀ {vs:List Value} {ns:List Int},IntsAre vs ns→Vals (ns.map V.int) vs
 | _,_,.nil=>.nil
 | _,_,.cons n t h=>.cons ⟨t,rfl⟩ (vals_ints h)
def Only (H:Hp):Prop:=∀ b,H b=none∨∃ o xs,H b=some (.frz o (.lst xs))
theorem law_call {P:Program}{w:World}{K:PySem.W.Frag}{mg mb:Str→Option Value}{CX:CXT}{k:Nat}{fa a:Addr}{fd:FuncData}{x:Str}{sp:Sp}{s₁:Shared}{vs:List Value}{ns:List Int}
  (KX:K.In s₁.heap) (hns:s₁.heap.Ns mainGlobals mg) (hb:s₁.heap.Ns builtinsNs mb) (hbb:∀ x:Str,x≠"__name__"→mb x=bootBuiltins x) (hlim:s₁.heap.NoLimit) (hg:s₁.gens=#[])
  (ha:s₁.heap.get? a=some {cls:=.type "list",data:=.seq vs.toArray}) (hi:IntsAre vs ns) (hl:ns.length≤sizeLine) (hr:Room k callerA)
  (F:∀ base:Heap,K.In base→base.Ns mainGlobals mg→FnOk P w K mg base CX k fa fd [x] sp) (hbind:∀ (s:Shared) (u:Value),BindsTo s fd ⟨[u],[]⟩ [(x,u)])
  (hsp:∀ H:Hp,Only H→SqL K H a (ns.map V.int)→sp [.ref a] H (fun v _=>v=.bl true) fun _ _ _=>False)
  (hCX:∀ H e s',CX [] H s₁ (fun _ _ _=>False) e s'→False) :
  codeAny (model P w) callerA (.call (.ref fa) ⟨[.ref a],[]⟩) (fun r s'=>r=.ok (.ret (.bool true))∧OldK s₁.heap s'.heap∧s'.os=s₁.os∧AllBare s'.gens) s₁:=by
 have rv:=vals_ints hi;have lenV:=hi.length;have core:∀ H:Hp,Only H→SqL K H a (ns.map V.int)→HOk P w H s₁.heap→(∀ b,H b≠none→b=a)→(H a≠none→K.lookup a=none) →
   codeAny (model P w) callerA (.call (.ref fa) ⟨[.ref a],[]⟩) (fun r s'=>r=.ok (.ret (.bool true))∧OldK s₁.heap s'.heap∧s'.os=s₁.os∧AllBare s'.gens) s₁:=by
  intro H hO hS hok hA hK;have base_of:∀ {b:Addr} {o:Obj},s₁.heap.get? b=some o→H b=none→(hidT s₁.heap H).get? b=some o:=fun e n=>hidT_get e n
  have noA:∀ {b:Addr} {o:Obj} {es:Array DictEntry} {ep:Nat},s₁.heap.get? b=some o→o.data=.dict es ep→H b=none:=fun {b o es ep} e d=>by
   cases q:H b with
   | none=>rfl
   | some u =>
    have e':b=a:=hA b (by rw[q];simp);subst e';rw[ha] at e;cases e;have d':Data.seq vs.toArray _=Data.dict es ep:=d;cases d'
  have nsK:∀ {b:Addr} {m:Str→Option Value},s₁.heap.Ns b m→(hidT s₁.heap H).Ns b m:=fun {b m} ⟨o,es,ep,e,d,r⟩=>⟨o,es,ep,base_of e (noA e d),d,r⟩
  have hKb:K.In (hidT s₁.heap H):=fun b o e=>base_of (KX b o e) (by
   cases q:H b with
   | none=>rfl
   | some u =>
    have e':b=a:=hA b (by rw[q];simp);subst e'
    rw[hK (by rw[q];simp)] at e;cases e)
  have hM:Mod K mg (hidT s₁.heap H):=⟨hKb,nsK hns,⟨mb,nsK hb,hbb⟩,let ⟨mc,h1,h2⟩:=hlim;⟨mc,nsK h1,h2⟩⟩
  have e0:Env0 P w K mg (hidT s₁.heap H) callerA [] s₁ H:=⟨rfl,hM,fun b o e=>of_hidT e,Nat.le_of_eq (hidT_size _ _),trivial,fun b hb=>absurd (show b∈([]:List Addr) from hb) (by simp),hok,.of_eq hg⟩
  refine codeAny_mono ((F _ hKb (nsK hns)).run callerA [] s₁ H ⟨[.ref a],[]⟩ [.ref a] [.ref a] _ _ hr e0 (hbind s₁ (.ref a)) (.cons rfl .nil) (hsp H hO hS)) fun r s' h=>?_
  cases r with
  | error e=>exact (hCX H e s' h).elim
  | ok fl =>
   cases fl with
   | next=>exact False.elim h
   | brk=>exact False.elim h
   | cont=>exact False.elim h
   | ret u =>
    obtain⟨v,H',os,bare,un,hok',r',q⟩:=h;have q':v=.bl true:=q;subst q';obtain rfl:u=Value.bool true:=r';refine⟨rfl,OldK.of_keep fun b o e=>?_,os,bare⟩;cases q:H b with
    | none=>exact un.keep b o e q (by intro z;exact absurd (show b∈([]:List Addr) from z) (by simp)) (by simp)
    | some u =>
     rcases hO b with z | ⟨ob,xs,z⟩
     ·rw[q] at z;cases z
     ·have z2:=un.frzs b ob _ z;obtain⟨e1,_⟩:=hok b _ z;obtain⟨e2,_⟩:=hok' b _ z2;rw[e] at e1;cases e1;exact e2
 cases hk:K.lookup a with
 | some o =>
  have e:=KX a o hk;rw[ha] at e;cases e;refine core (fun _=>none) (fun _=>.inl rfl) (.inr ⟨_,vs.toArray,_,hk,rfl,rfl,rfl,by rw[List.size_toArray,lenV];exact hl,by simpa using rv⟩) (fun b u z=>by have z':(none:Option HO)=some u:=z;cases z') (fun b z=>absurd rfl z) fun z=>absurd rfl z
 | none =>
  refine core (fun b=>if b=a then some (.frz {cls:=.type "list",data:=.seq vs.toArray} (.lst (ns.map V.int))) else none) (fun b=>?_) (.inl (.inr ⟨{cls:=.type "list",data:=.seq vs.toArray},if_pos rfl⟩)) (fun b u z=>?_) (fun b z=>?_) fun _=>hk
  ·by_cases hb:b=a
   ·exact .inr ⟨_,_,if_pos hb⟩
   ·exact .inl (if_neg hb)
  ·by_cases hb:b=a
   ·have z':=(if_pos hb).symm.trans z;cases z';subst hb;exact⟨ha,by rw[List.length_map];exact hl,vs,_,rv,ha⟩
   ·have z':=(if_neg hb).symm.trans z;cases z'
  ·by_cases hb:b=a
   ·exact hb
   ·exact absurd (if_neg hb) z
end L2
namespace L2
open PySem PySem.Spec PyProof.Rows
abbrev KOf {K:PySem.W.Frag}{h:Heap}(_:K.In h):PySem.W.Frag:=K
theorem walk_of {l:PySem.W.OpenLaw}{n k:Nat}{q:Program}{loose:List Str}{XP:(Str→Option Value)→Heap→Prop}{YP:World→Heap→Prop}{d:DefRec}{K:Params→PySem.W.Frag}{CX:World→CXT}{sp:World→Sp}{x:Str}
  (hn:l.most=some n) (hn2:n≤sizeLine) (hdf:d.params.defaults=[]) (hr:Room k callerA)
  (hY:∀ (w:World) (h:Heap),YP w h→(K w.params).In h)
  (F:∀ (w:World) (mg:Str→Option Value) (fa:Addr) (h:Heap),(K w.params).In h→h.Ns mainGlobals mg→mg d.name=some (.ref fa) →
   ∃ fd:FuncData,(∀ (s:Shared) (u:Value),BindsTo s fd ⟨[u],[]⟩ [(x,u)]) ∧
    ∀ base:Heap,(K w.params).In base→base.Ns mainGlobals mg→FnOk l.prog w (K w.params) mg base (CX w) k fa fd [x] (sp w))
  (hsp:∀ (w:World) (H:Hp) (a:Addr) (ns:List Int),ns.length≤n→Only H→SqL (K w.params) H a (ns.map V.int)→sp w [.ref a] H (fun v _=>v=.bl true) fun _ _ _=>False)
  (hCX:∀ (w:World) (H:Hp) (s:Shared) (e:Value) (s':Shared),CX w [] H s (fun _ _ _=>False) e s'→False) :
  PySem.W.WalkO q loose XP YP l.row.toRowW d [] (fun f vs=>PySem.call f vs):=by
 refine Att.attach_call hn hdf fun w s₀ s₁ mg mb fa o pm cd doc a vs ns G Y ho hd hcd hmg hobj hints hlen hg=>?_
 have KX:=hY w _ Y;obtain⟨fd,hb,hF⟩:=F w mg fa _ KX G.T.g hmg;exact law_call KX G.T.g G.T.b G.T.builtins G.T.nolimit hg hobj hints (Nat.le_trans hlen hn2) hr hF hb (fun H hO hS=>hsp w H a ns hlen hO hS) fun H e s'=>hCX w H s₁ e s'
end L2
/- THE LAST THEOREM (shape;LID,My.* are yours):
   My.Adr: a structure of the addresses that your layer names (classes,functions);My.Txt K t: a structure (Prop) of the equations over K;
   My.txt_mk:{K} {implicit addresses ..} (e1:nsIn K mainGlobals "law"=some (some (.ref f))) (e2:K.lookup f=some ⟨oc,od,.func (fnOf "law" "law" params body scope dV kV doc pm an cdv ct),sl⟩) (e3:codeIn K cdv "law"=true) ..:∃ t,My.Txt K t
set_option maxRecDepth 100000 in
set_option maxHeartbeats 0 in
theorem PySem.Challenge.cw_LID_holds : PySem.Challenge.rw_LID.Holds := by
 w_on;o_law;k_head;(case hw=>w_witness2)
 k_fill
 refine L2.walk_of (l:=PySem.Challenge.rw_LID) (n:=63) (k:=40) (x:="script") (CX:=fun w=>..) (sp:=fun _=>My.sp_law) rfl (by decide) rfl ⟨rfl,by decide,by decide⟩ (fun w h Y=>PySem.W.kIn_of Y) ?F ?S ?C
 case F =>
  intro w mg fa h KX G hmg;have T:∃ t,My.Txt (L2.KOf KX) t:=by
   dsimp only[L2.KOf]                          -- K must stand as «<heap const> w.params» for k_is;refine' My.txt_mk ?e1 ?e2 ?e3 ..
   (case e1=>PySem.W.k_is)                    -- in the order: a name -> its address -> its object -> its parts
   (case e2=>PySem.W.k_is)
   ..
  obtain⟨t,T⟩:=T;have e0:=hmg.symm.trans (PySem.W.mg_of KX G T.law);cases e0                                       -- fa is the law's own address;exact⟨_,fun s u=>.of_eq rfl,fun base kb nb=>My.law_fn T kb nb⟩     -- if «.of_eq rfl» comes too early: refine' ⟨_,?b,fun base kb nb=>My.law_fn T kb nb⟩;exact fun s u=>.of_eq rfl
 case S=>exact fun w H a ns hl hO hS=>..
 case C=>exact ..
(the tactic k_is has no namespace: write k_is) -/
namespace L2
open PySem PySem.Spec PyProof.Rows
def defArgs (s:Stmt):Arguments:=match s with
 | .FunctionDef _ a _ _ _ _ _ _ _ _=>a
 | _=>{posonlyargs:=[],args:=[],vararg:=none,kwonlyargs:=[],kw_defaults:=[],kwarg:=none,defaults:=[]}
def defBody (s:Stmt):List Stmt:=match s with
 | .FunctionDef _ _ b _ _ _ _ _ _ _=>b
 | _=>[]
def defScope (s:Stmt):Scope:=match s with
 | .FunctionDef _ _ _ _ _ _ sc _ _ _=>sc
 | _=>{kind:=.function,names:=[],isGenerator:=false,isCoroutine:=false}
abbrev CX0:CXT:=fun _ _ _ _ _ _=>False
abbrev E0:XK:=fun _ _ _=>False
theorem pass0 {X:Cx}:Passes CX0 X E0:=fun _ _ _ _ _ _ _ h=>h.elim
structure Fun (K:PySem.W.Frag)(x qual:Str)(st:Stmt)(f:Addr)(fd:FuncData):Prop where
 ex:∃ (oc:Value) (od:Option Addr) (kV doc pm:Value) (an:Option Addr) (cdv ct:Value) (osl:Array (Option Value)),
  fd=PySem.W.fnOf x qual (defArgs st) (defBody st) (defScope st) .none kV doc pm an cdv ct∧K.lookup f=some ⟨oc,od,.func fd,osl⟩∧PySem.W.codeIn K cdv qual=true
 kp:PySem.W.keepIn K (.ref f)=true
section
variable {P:Program}{w:World}{K:PySem.W.Frag}{mg:Str→Option Value}{base:Heap}
theorem Fun.ok {x qual:Str}{st:Stmt}{f:Addr}{fd:FuncData}{N ps:List Str}{k:Nat}{sp:Sp}(F:Fun K x qual st f fd)(S:FnScope N ps (defScope st))(len:∀ vs H Q E,sp vs H Q E→vs.length=ps.length)
  (hbody:∀ (cdv:Value) (A:Around) (outer:List Env) (s:Shared) (H:Hp) (vs:List V) (Q:VK) (E:XK),Room k (A.deeper (envOfC qual (defScope st) s.heap.objs.size f cdv))→sp vs H Q E →
   ∃ t,PSs (cxOf CX0 P w K mg base N qual (defScope st) f cdv A outer s H E).nox (defBody st) t∧t {nx:=fun _ H'=>Q .non H',rt:=Q} (start N vs) H):FnOk P w K mg base CX0 (k+1) f fd ps sp:=by
 obtain⟨oc,od,kV,doc,pm,an,cdv,ct,osl,rfl,lk,hcd⟩:=F.ex;refine fn_of lk hcd S len fun A outer s H vs Q E hr hsp=>?_
 obtain⟨t,h,q⟩:=hbody cdv A outer s H vs Q E hr hsp;exact⟨t,h.nox,q⟩
theorem Fun.binds {x qual:Str}{st:Stmt}{f:Addr}{fd:FuncData}{ps:List Str}(F:Fun K x qual st f fd)
  (h:∀ (kV doc pm:Value) (an:Option Addr) (cdv ct:Value) (us:List Value),us.length=ps.length→bindArgs (PySem.W.fnOf x qual (defArgs st) (defBody st) (defScope st) .none kV doc pm an cdv ct) ⟨us,[]⟩=pure (ps.zip us)):Binds K fd ps []:=by
 obtain⟨oc,od,kV,doc,pm,an,cdv,ct,osl,rfl,lk,hcd⟩:=F.ex;exact .all (h kV doc pm an cdv ct)
theorem fun_mk {x qual:Str}{st:Stmt}{f:Addr}{oc:Value}{od an:Option Addr}{osl:Array (Option Value)}{kV doc pm cdv ct:Value}(l:K.lookup f=some ⟨oc,od,.func (PySem.W.fnOf x qual (defArgs st) (defBody st) (defScope st) .none kV doc pm an cdv ct),osl⟩)
  (c:PySem.W.codeIn K cdv qual=true) (k:PySem.W.keepIn K (.ref f)=true):Fun K x qual st f (PySem.W.fnOf x qual (defArgs st) (defBody st) (defScope st) .none kV doc pm an cdv ct):=⟨⟨oc,od,kV,doc,pm,an,cdv,ct,osl,rfl,l,c⟩,k⟩
end
theorem hu_of {A:Around}{k:Nat}(hr:Room k A):A.units+1<cLine:=Nat.lt_of_le_of_lt (Nat.add_le_add_left (by decide:1≤64) _) hr.units
section
variable {X:Cx}
theorem pv (i:Nat){x:Str}{pos:Pos}(hN:X.N[i]?=some x:=by rfl)(hv:Vis X.env.scope x:=by first | exact Or.inl rfl | exact Or.inr (Or.inl rfl) | exact Or.inr (Or.inr rfl))(hd:(x == ("__debug__":Str))=false:=by decide)
  (hcd:(x == ("__classdict__":Str))=false:=by decide):PE X (.Name x pos) (tVar i):=pe_var hN hv hd hcd
end
theorem ite2 {c A B:Prop}[Decidable c](h1:c→A)(h2:¬ c→B):if c then A else B:=by
 by_cases h:c
 ·rw[if_pos h];exact h1 h
 ·rw[if_neg h];exact h2 h
def Same (H H':Hp):Prop:=∀ b o,H b=some o→H' b=some o
theorem Same.refl (H:Hp):Same H H:=fun _ _ h=>h
theorem Same.trans {H H1 H2:Hp}(a:Same H H1)(b:Same H1 H2):Same H H2:=fun c o h=>b c o (a c o h)
theorem Same.free {H H':Hp}(e:Same H H'){l:Addr}(h:H' l=Option.none):H l=Option.none:=by
 cases q:H l with
 | none=>rfl
 | some o =>
  rw[e l o q] at h;cases h
theorem Same.seq {K:PySem.W.Frag}{H H':Hp}{a:Addr}{xs:List V}(e:Same H H')(h:SqL K H a xs):SqL K H' a xs:=by
 rcases h with (h | ⟨o,h⟩) | h
 ·exact .inl (.inl (e _ _ h))
 ·exact .inl (.inr ⟨o,e _ _ h⟩)
 ·exact .inr h
end L2
namespace L2
open PySem PySem.Spec PyProof.Rows
section
variable {κ:Type}[DecidableEq κ]
def valV (kvs:List (κ×V))(k:κ):Option V:=(kvs.find? fun kv=>decide (kv.1=k)).map (·.2)
def putK (kvs:List (κ×V))(k:κ)(v:V):List (κ×V) :=
 if (kvs.any fun kv=>decide (kv.1=k))=true then kvs.map (fun kv=>if kv.1=k then (kv.1,v) else kv) else kvs++[(k,v)]
def dropK (kvs:List (κ×V))(k:κ):List (κ×V):=kvs.filter fun kv=>decide (kv.1≠k)
theorem valV_pos {p:κ×V}{r:List (κ×V)}{k:κ}(e:p.1=k):valV (p::r) k=some p.2:=by simp[valV,List.find?_cons,e]
theorem valV_neg {p:κ×V}{r:List (κ×V)}{k:κ}(e:¬ p.1=k):valV (p::r) k=valV r k:=by simp[valV,List.find?_cons,e]
theorem valV_any (k:κ):∀ kvs:List (κ×V),(kvs.any fun kv=>decide (kv.1=k))=(valV kvs k).isSome
 | []=>rfl
 | p::r=>by
  rw[List.any_cons];by_cases e:p.1=k
  ·simp only[valV_pos e,decide_eq_true e,Bool.true_or,Option.isSome_some]
  ·rw[valV_neg e,decide_eq_false e,Bool.false_or];exact valV_any k r
theorem length_putK (kvs:List (κ×V))(k:κ)(v:V):(putK kvs k v).length≤kvs.length+1:=by
 unfold putK;split
 ·rw[List.length_map];omega
 ·rw[List.length_append,List.length_cons,List.length_nil];omega
theorem RelO.isSome_eq {o:Option V}{u:Option Value}(r:RelO o u):o.isSome=u.isSome:=by
 cases o with
 | none=>cases u with
  | none=>rfl
  | some _=>exact (show False from r).elim
 | some _=>cases u with
  | none=>exact (show False from r).elim
  | some _=>rfl
theorem RelO.getD {o:Option V}{u:Option Value}{d:V}{d':Value}(r:RelO o u)(rd:RelV d d'):RelV (o.getD d) (u.getD d'):=by
 cases o with
 | none=>cases u with
  | none=>exact rd
  | some _=>exact (show False from r).elim
 | some _=>cases u with
  | none=>exact (show False from r).elim
  | some _=>exact r
theorem KV.val {kvs:List (κ×V)}{vs:List (κ×Value)}(r:KV kvs vs)(k:κ):RelO (valV kvs k) (valueAt vs k):=by
 unfold KV at r;induction r with
 | nil=>exact True.intro
 | @cons p q ps qs h t ih =>
  obtain⟨h1,h2⟩:=h;by_cases e:p.1=k
  ·have e':q.1=k:=h1.symm.trans e;have b:valueAt (q::qs) k=some q.2:=by simp[valueAt,List.find?_cons,e']
   rw[valV_pos e,b];exact h2
  ·have e':¬ q.1=k:=fun z=>e (h1.trans z)
   have b:valueAt (q::qs) k=valueAt qs k:=by simp[valueAt,List.find?_cons,e']
   rw[valV_neg e,b];exact ih
theorem KV.any {kvs:List (κ×V)}{vs:List (κ×Value)}(r:KV kvs vs)(k:κ):(kvs.any fun kv=>decide (kv.1=k))=vs.any fun kv=>decide (kv.1=k):=by
 unfold KV at r;induction r with
 | nil=>rfl
 | cons h t ih=>rw[List.any_cons,List.any_cons,ih,h.1]
theorem KV.repl {kvs:List (κ×V)}{vs:List (κ×Value)}(r:KV kvs vs)(k:κ){y:V}{u:Value}(ry:RelV y u) :
  KV (kvs.map fun kv=>if kv.1=k then (kv.1,y) else kv) (vs.map fun kv=>if kv.1=k then (kv.1,u) else kv):=by
 unfold KV at r ⊢;induction r with
 | nil=>exact .nil
 | @cons p q ps qs h t ih =>
  rw[List.map_cons,List.map_cons];refine .cons ?_ ih;obtain⟨h1,h2⟩:=h;by_cases e:p.1=k
  ·rw[if_pos e,if_pos (h1.symm.trans e)];exact⟨h1,ry⟩
  ·rw[if_neg e,if_neg (fun z=>e (h1.trans z))];exact⟨h1,h2⟩
theorem KV.put {kvs:List (κ×V)}{vs:List (κ×Value)}(r:KV kvs vs)(k:κ){y:V}{u:Value}(ry:RelV y u):KV (putK kvs k y) (stored vs k u):=by
 unfold putK stored;rw[r.any k];by_cases e:(vs.any fun kv=>decide (kv.1=k))=true
 ·rw[if_pos e,if_pos e];exact r.repl k ry
 ·rw[if_neg e,if_neg e];exact Paired.snoc r ⟨rfl,ry⟩
theorem KV.drop {kvs:List (κ×V)}{vs:List (κ×Value)}(r:KV kvs vs)(k:κ):KV (dropK kvs k) (without vs k):=by
 unfold KV at r ⊢;unfold dropK without;induction r with
 | nil=>exact .nil
 | @cons p q ps qs h t ih =>
  obtain⟨h1,h2⟩:=h;rw[List.filter_cons,List.filter_cons];by_cases e:p.1=k
  ·have a:¬ decide (p.1≠k)=true:=by simp[e]
   have b:¬ decide (q.1≠k)=true:=by simp[h1.symm.trans e]
   rw[if_neg a,if_neg b];exact ih
  ·have e':¬ q.1=k:=fun z=>e (h1.trans z)
   have a:decide (p.1≠k)=true:=by simp[e]
   have b:decide (q.1≠k)=true:=by simp[e']
   rw[if_pos a,if_pos b];exact .cons ⟨h1,h2⟩ ih
theorem KV.keys {kvs:List (κ×V)}{vs:List (κ×Value)}(r:KV kvs vs):kvs.map (·.1)=vs.map (·.1):=by
 unfold KV at r;induction r with
 | nil=>rfl
 | cons h t ih=>rw[List.map_cons,List.map_cons,ih,h.1]
theorem KV.length {kvs:List (κ×V)}{vs:List (κ×Value)}(r:KV kvs vs):kvs.length=vs.length:=Paired.length r
theorem dropK_le (kvs:List (κ×V))(k:κ):(dropK kvs k).length≤kvs.length:=List.length_filter_le _ _
end
theorem kV_is {P:Program}{w:World}{k:Key}{u:Value}(r:RelV (kV k) u):(mixKind P w).is k u=true:=by
 cases k with
 | inl i=>obtain⟨t,e⟩:=(show ∃ t,u=Value.int i t from r);subst e;exact mixKind_int P w i t
 | inr x=>obtain⟨t,e⟩:=(show ∃ t,u=Value.str x t from r);subst e;exact mixKind_str P w x t
theorem items_are {P:Program}{w:World}:∀ {ks:List Key} {us:List Value},Vals (ks.map kV) us→ItemsAre (mixKind P w) ks us
 | [],_,r=>by rw[List.map_nil] at r;cases r;exact .nil
 | k::ks,_,r=>by
  rw[List.map_cons] at r;cases r with
  | cons h t=>exact .cons (kV_is h) (items_are t)
abbrev KT (H:Hp):List (List Key×V)→List (List Key×Addr×Value)→Prop:=Paired fun p q=>p.1=q.1∧H q.2.1=some (.tup (p.1.map kV))∧RelV p.2 q.2.2
theorem KT.val {H:Hp}{kvs:List (List Key×V)}{xs:List (List Key×Addr×Value)}(r:KT H kvs xs)(k:List Key):RelO (valV kvs k) ((atKey xs k).map (·.2)):=by
 induction r with
 | nil=>exact True.intro
 | @cons p q ps qs h t ih =>
  obtain⟨h1,_,h2⟩:=h;by_cases e:p.1=k
  ·have e':q.1=k:=h1.symm.trans e;have b:atKey (q::qs) k=some q.2:=by simp[atKey,List.find?_cons,e']
   rw[valV_pos e,b];exact h2
  ·have e':¬ q.1=k:=fun z=>e (h1.trans z)
   have b:atKey (q::qs) k=atKey qs k:=by simp[atKey,List.find?_cons,e']
   rw[valV_neg e,b];exact ih
theorem KT.repl {H:Hp}{kvs:List (List Key×V)}{xs:List (List Key×Addr×Value)}(r:KT H kvs xs)(k:List Key){y:V}{u:Value}(ry:RelV y u) :
  KT H (kvs.map fun kv=>if kv.1=k then (kv.1,y) else kv) (xs.map (putAt k u)):=by
 induction r with
 | nil=>exact .nil
 | @cons p q ps qs h t ih =>
  rw[List.map_cons,List.map_cons];refine .cons ?_ ih;obtain⟨h1,h2,h3⟩:=h;unfold putAt;by_cases e:p.1=k
  ·rw[if_pos e,if_pos (h1.symm.trans e)];exact⟨h1,h2,ry⟩
  ·rw[if_neg e,if_neg (fun z=>e (h1.trans z))];exact⟨h1,h2,h3⟩
theorem KT.put {H:Hp}{kvs:List (List Key×V)}{xs:List (List Key×Addr×Value)}(r:KT H kvs xs)(k:List Key){b:Addr}{y:V}{u:Value}(hb:H b=some (.tup (k.map kV)))(ry:RelV y u) :
  KT H (putK kvs k y) (storedH xs k b u):=by
 have e:(kvs.any fun kv=>decide (kv.1=k))=(atKey xs k).isSome:=by
  rw[valV_any,(r.val k).isSome_eq,Option.isSome_map]
 unfold putK storedH;rw[e];by_cases q:(atKey xs k).isSome=true
 ·rw[if_pos q,if_pos q];exact r.repl k ry
 ·rw[if_neg q,if_neg q];exact Paired.snoc r ⟨rfl,hb,ry⟩
theorem KT.keeps {H H':Hp}{kvs:List (List Key×V)}{xs:List (List Key×Addr×Value)}(r:KT H kvs xs)(ht:∀ b ys,H b=some (.tup ys)→H' b=some (.tup ys)):KT H' kvs xs :=
 Paired.mapP r fun _ _ z=>⟨z.1,ht _ _ z.2.1,z.2.2⟩
section
variable {P:Program}{w:World}{H:Hp}{h:Heap}{a:Addr}
theorem rd_of {u:HO}(ok:HOk P w H h)(e:Rd H a u):ObjOk P w H h a u:=e.ok ok
theorem dk_rd {kvs:List (Key×V)}(ok:HOk P w H h)(e:Rd H a (.dK kvs)):kvs.length≤sizeLine∧(a == sysModules)=false∧∃ vs,KV kvs vs∧h.DictOf (mixKind P w) a vs :=
 show ObjOk P w H h a (.dK kvs) from rd_of ok e
theorem dk_of {kvs:List (Key×V)}(ok:HOk P w H h)(e:H a=some (.dK kvs)):kvs.length≤sizeLine∧(a == sysModules)=false∧∃ vs,KV kvs vs∧h.DictOf (mixKind P w) a vs:=dk_rd ok (.inl e)
theorem key_of {ks:List Key}(ok:HOk P w H h)(e:H a=some (.tup (ks.map kV))):(tupleKind (mixKind P w)).is h ks a:=by
 obtain⟨_,its,r,o,h1,h2,n,h3⟩:=(show ObjOk P w H h a (.tup (ks.map kV)) from ok a _ e)
 exact⟨o,its.toArray,n,h1,h2,h3,by simpa using items_are r⟩
theorem dt_rd {kvs:List (List Key×V)}(ok:HOk P w H h)(e:Rd H a (.dT kvs)):kvs.length≤sizeLine∧(a == sysModules)=false ∧
  ∃ xs,KT H kvs xs∧h.DictOfH (tupleKind (mixKind P w)) a xs:=by
 obtain⟨z,y,xs,r,o,es,ep,h1,h2,h3,h4,h5⟩:=(show ObjOk P w H h a (.dT kvs) from rd_of ok e)
 refine⟨z,y,xs,r,o,es,ep,h1,h2,h3,h4,fun x hx=>?_,h5⟩;have all:∀ {l:List (List Key×V)} {m:List (List Key×Addr×Value)},KT H l m→∀ x∈m,(tupleKind (mixKind P w)).is h x.1 x.2.1:=by
  intro l m q;induction q with
  | nil=>intro x hx;exact nomatch hx
  | @cons p q ps qs hq t ih =>
   intro x hx;rcases List.mem_cons.mp hx with e | hx
   ·subst e;exact key_of ok (by rw[← hq.1];exact hq.2.1)
   ·exact ih x hx
 exact all r x hx
theorem dt_of {kvs:List (List Key×V)}(ok:HOk P w H h)(e:H a=some (.dT kvs)):kvs.length≤sizeLine∧(a == sysModules)=false ∧
  ∃ xs,KT H kvs xs∧h.DictOfH (tupleKind (mixKind P w)) a xs:=dt_rd ok (.inl e)
end
def DGet (H:Hp)(a:Addr)(y:V)(r:Option V):Prop :=
 (∃ kvs k,Rd H a (.dK kvs)∧y=kV k∧r=valV kvs k)∨∃ kvs k b,Rd H a (.dT kvs)∧y=.ref b∧H b=some (.tup (k.map kV))∧r=valV kvs k
def DPut (H:Hp)(a:Addr)(y v:V)(H':Hp):Prop :=
 (∃ kvs k,H a=some (.dK kvs)∧y=kV k∧kvs.length<sizeLine∧H'=upd H a (.dK (putK kvs k v))) ∨
 ∃ kvs k b,H a=some (.dT kvs)∧y=.ref b∧H b=some (.tup (k.map kV))∧kvs.length<sizeLine∧H'=upd H a (.dT (putK kvs k v))
theorem DGet.k {H:Hp}{a:Addr}{kvs:List (Key×V)}{k:Key}(e:H a=some (.dK kvs)):DGet H a (kV k) (valV kvs k):=.inl ⟨kvs,k,.inl e,rfl,rfl⟩
theorem DGet.t {H:Hp}{a b:Addr}{kvs:List (List Key×V)}{k:List Key}(e:H a=some (.dT kvs))(eb:H b=some (.tup (k.map kV))):DGet H a (.ref b) (valV kvs k):=.inr ⟨kvs,k,b,.inl e,rfl,eb,rfl⟩
theorem DPut.k {H:Hp}{a:Addr}{kvs:List (Key×V)}{k:Key}{v:V}(e:H a=some (.dK kvs))(hl:kvs.length<sizeLine):DPut H a (kV k) v (upd H a (.dK (putK kvs k v))):=.inl ⟨kvs,k,e,rfl,hl,rfl⟩
theorem DPut.t {H:Hp}{a b:Addr}{kvs:List (List Key×V)}{k:List Key}{v:V}(e:H a=some (.dT kvs))(eb:H b=some (.tup (k.map kV)))(hl:kvs.length<sizeLine) :
  DPut H a (.ref b) v (upd H a (.dT (putK kvs k v))):=.inr ⟨kvs,k,b,e,rfl,eb,hl,rfl⟩
section
variable {X:Cx}{pins:List (Addr×Obj)}{σ:St}{H:Hp}{s:Shared}{a:Addr}{y v:V}{u r:Value}{o:Option V}{A:Around}{E:Value→Shared→Prop}
theorem Inv.big (I:Inv X pins σ H s):sysModules<s.heap.objs.size:=by
 have h:mainGlobals<s.heap.objs.size:=(I.mod.glob.keeps I.bk).lt;exact Nat.lt_trans (by decide) h
theorem d_in {Q:Value→Shared→Prop}(hu:A.units+1<cLine)(I:Inv X pins σ H s)(g:DGet H a y o)(ry:RelV y u)(h:∀ s',Inv X pins σ H s'→Q (.bool o.isSome) s') :
  wpAny (model X.prog X.w) A (compareOp .In u (.ref a)) Q E s:=by
 rcases g with ⟨kvs,k,e,ey,l⟩ | ⟨kvs,k,b,e,ey,eb,l⟩
 ·subst ey;obtain⟨z,hd,vs,rel,dd⟩:=dk_rd I.hok e;refine wpAny_in_of (kV_is ry) hd dd.mapOf ?_;rw[← (rel.val k).isSome_eq,← l];exact h _ (I.tok _)
 ·subst ey;cases (show u=Value.ref b from ry);obtain⟨z,hd,xs,rel,dd⟩:=dt_rd I.hok e;refine wpAny_in_heap (tupleKind_room_in1 hu) (key_of I.hok eb) hd dd ?_;have q:=(rel.val k).isSome_eq;rw[Option.isSome_map] at q;rw[← q,← l];exact h _ (I.tok _)
theorem d_notIn {Q:Value→Shared→Prop}(hu:A.units+1<cLine)(I:Inv X pins σ H s)(g:DGet H a y o)(ry:RelV y u)(h:∀ s',Inv X pins σ H s'→Q (.bool (!o.isSome)) s') :
  wpAny (model X.prog X.w) A (compareOp .NotIn u (.ref a)) Q E s:=by
 rcases g with ⟨kvs,k,e,ey,l⟩ | ⟨kvs,k,b,e,ey,eb,l⟩
 ·subst ey;obtain⟨z,hd,vs,rel,dd⟩:=dk_rd I.hok e;refine wpAny_notIn_of (kV_is ry) hd dd.mapOf ?_;rw[← (rel.val k).isSome_eq,← l];exact h _ (I.tok _)
 ·subst ey;cases (show u=Value.ref b from ry);obtain⟨z,hd,xs,rel,dd⟩:=dt_rd I.hok e;refine wpAny_notIn_heap (tupleKind_room_in1 hu) (key_of I.hok eb) hd dd ?_;have q:=(rel.val k).isSome_eq;rw[Option.isSome_map] at q;rw[← q,← l];exact h _ (I.tok _)
theorem d_write {h':Heap}{t':Nat}{ob:HO}(I:Inv X pins σ H s)(mu:Mut (H a))(hs:Heap.SameBut a s.heap h')(he:∃ q,h'.get? a=some q)(new:ObjOk X.prog X.w (upd H a ob) h' a ob) :
  Inv X pins σ (upd H a ob) {s with heap:=h',toks:=t'} :=
 I.write (x:=a) (e:=a) mu (.inl rfl) (fun b q hb z=>(hs.2 b hb).trans z) he new
theorem dk_new {P:Program}{w:World}{H':Hp}{h':Heap}{kvs:List (Key×V)}{vs:List (Key×Value)}(z:kvs.length≤sizeLine)(hd:(a == sysModules)=false)(rel:KV kvs vs)(dd:h'.DictOf (mixKind P w) a vs) :
  ObjOk P w H' h' a (.dK kvs):=⟨z,hd,vs,rel,dd⟩
theorem d_setItem {H':Hp}{Q:Unit→Shared→Prop}(hu:A.units+1<cLine)(I:Inv X pins σ H s)(g:DPut H a y v H')(ry:RelV y u)(rv:RelV v r)(h:∀ s',Inv X pins σ H' s'→Q () s') :
  wpAny (model X.prog X.w) A (setItem (.ref a) u r) Q E s:=by
 rcases g with ⟨kvs,k,e,ey,l,eH⟩ | ⟨kvs,k,b,e,ey,eb,l,eH⟩
 ·subst ey eH;obtain⟨z,hd,vs,rel,dd⟩:=dk_of I.hok e;have hz:vs.length≤sizeLine:=by rw[← rel.length];exact z
  have hl:(putK kvs k v).length≤sizeLine:=by have:=length_putK kvs k v;omega
  refine wpAny_setItem_pairs (hsz:=hz) (kV_is ry) dd fun h' dd' hs=>h _ ?_
  have he:∃ q,h'.get? a=some q:=let ⟨q,_,_,hq,_⟩:=dd';⟨q,hq⟩;exact d_write I (by rw[e];exact True.intro) hs he (dk_new hl hd (rel.put k rv) dd')
 ·subst ey eH;cases (show u=Value.ref b from ry);obtain⟨z,hd,xs,rel,dd⟩:=dt_of I.hok e;have hz:xs.length≤sizeLine:=by rw[← Paired.length rel];exact z
  have hl:(putK kvs k v).length≤sizeLine:=by have:=length_putK kvs k v;omega
  refine wpAny_setItem_heap (hsz:=hz) (tupleKind_room_in1 hu) (key_of I.hok eb) dd fun h' dd' hs=>h _ ?_
  obtain⟨q,es,ep,hq,h2,h3,h4,_,h5⟩:=dd';refine d_write I (by rw[e];exact True.intro) hs ⟨q,hq⟩ ⟨hl,hd,_,(rel.put k eb rv).keeps fun c ys ec=>?_,q,es,ep,hq,h2,h3,h4,h5⟩;rw[upd_ne (ne_of ec e (fun z=>nomatch z))];exact ec
end
section
variable {X:Cx}{pins:List (Addr×Obj)}{σ:St}{H:Hp}{s:Shared}{a:Addr}{kvs:List (Key×V)}{k:Key}{u:Value}{A:Around}{E:Value→Shared→Prop}
theorem d_delItem {Q:Unit→Shared→Prop}(I:Inv X pins σ H s)(e:H a=some (.dK kvs))(ry:RelV (kV k) u)(l:(valV kvs k).isSome=true)(h:∀ s',Inv X pins σ (upd H a (.dK (dropK kvs k))) s'→Q () s') :
  wpAny (model X.prog X.w) A (delItem (.ref a) u) Q E s:=by
 obtain⟨z,hd,vs,rel,dd⟩:=dk_of I.hok e;refine wpAny_delItem_slot dd.typeIs (by decide) PySem.F.slot_dict_delitem
  (call_meetsIn PySem.F.slot_dict_delitem dd.typeIs PySem.F.entry_dict_delitem (PySem.F.args_dict_delitem_2 _ _) (meets_dict_delitem_pairs (mixKind X.prog X.w) a (kV_is ry)) ⟨vs,dd,by rw[← rel.length];exact z,by rw[← (rel.val k).isSome_eq];exact l,fun h' dd' hs=>h _ ?_⟩)
 have he:∃ q,h'.get? a=some q:=let ⟨q,_,_,hq,_⟩:=dd';⟨q,hq⟩;exact d_write I (by rw[e];exact True.intro) hs he (dk_new (Nat.le_trans (dropK_le kvs k) z) hd (rel.drop k) dd')
end
def tDIn (ty td:TE):TE:=fun σ H Q=>ty σ H fun y H1=>td σ H1 fun x H2=>∃ a o,x=.ref a∧DGet H2 a y o∧Q (.bl o.isSome) H2
def tDNotIn (ty td:TE):TE:=fun σ H Q=>ty σ H fun y H1=>td σ H1 fun x H2=>∃ a o,x=.ref a∧DGet H2 a y o∧Q (.bl (!o.isSome)) H2
def sDPut (td ty tv:TE):TS:=fun D σ H=>tv σ H fun v H1=>td σ H1 fun x H2=>ty σ H2 fun y H3=>∃ a H4,x=.ref a∧DPut H3 a y v H4∧D.nx σ H4
def sDDel (td ty:TE):TS:=fun D σ H=>td σ H fun x H1=>ty σ H1 fun y H2=>∃ a kvs k,x=.ref a∧H2 a=some (.dK kvs)∧y=kV k∧(valV kvs k).isSome=true∧D.nx σ (upd H2 a (.dK (dropK kvs k)))
section
variable {X:Cx}{o i e value:Expr}{pos pos' tpos:Pos}{td ty tv:TE}
theorem pc_din (hu:X.A.units+1<cLine)(hi:PE X i ty)(ho:PE X o td):PC X .In i o (tDIn ty td):=by
 intro pins s σ H Q I h;refine thn (hi pins s σ H _ I h) fun iv s1 ⟨y,H1,I1,ry,q1⟩=>thn (ho pins s1 σ H1 _ I1 q1) fun u s2 ⟨x,H2,I2,rx,a,ov,ex,g,q2⟩=>?_
 subst ex;obtain rfl:u=Value.ref a:=rx;exact d_in hu I2 g ry fun s3 I3=>⟨.bl ov.isSome,H2,I3,rfl,q2⟩
theorem pc_dnotin (hu:X.A.units+1<cLine)(hi:PE X i ty)(ho:PE X o td):PC X .NotIn i o (tDNotIn ty td):=by
 intro pins s σ H Q I h;refine thn (hi pins s σ H _ I h) fun iv s1 ⟨y,H1,I1,ry,q1⟩=>thn (ho pins s1 σ H1 _ I1 q1) fun u s2 ⟨x,H2,I2,rx,a,ov,ex,g,q2⟩=>?_
 subst ex;obtain rfl:u=Value.ref a:=rx;exact d_notIn hu I2 g ry fun s3 I3=>⟨.bl (!ov.isSome),H2,I3,rfl,q2⟩
theorem ps_dput (hu:X.A.units+1<cLine)(ho:PE X o td)(hi:PE X i ty)(hv:PE X value tv)(hs:swapsWith value (some (.Subscript o i pos')) pos.line X.env=pure false) :
  PS X (.Assign [.Subscript o i pos'] value pos) (sDPut td ty tv):=by
 intro pins s σ H D I h;refine wpAny_Assign_Subscript (thn (hv pins s σ H _ I h) fun r s1 ⟨v,H1,I1,rv,q1⟩=>thn (ho pins s1 σ H1 _ I1 q1) fun u s2 ⟨x,H2,I2,rx,q2⟩=>thn (hi pins s2 σ H2 _ I2 q2) fun iv s3 ⟨y,H3,I3,ry,a,H4,ex,g,q3⟩=>?_) hs;subst ex;obtain rfl:u=Value.ref a:=rx;exact d_setItem hu I3 g ry rv fun s4 I4=>⟨σ,H4,I4,q3⟩
theorem ps_ddel (ho:PE X o td)(hi:PE X i ty):PS X (.Delete [.Subscript o i tpos] pos) (sDDel td ty):=by
 intro pins s σ H D I h;refine wpAny_Delete (wpAny_deleteEach_cons (wpAny_delete_Subscript (thn (ho pins s σ H _ I h) fun u s1 ⟨x,H1,I1,rx,q1⟩=>thn (hi pins s1 σ H1 _ I1 q1) fun iv s2 ⟨y,H2,I2,ry,a,kvs,k,ex,e,ey,l,q2⟩=>?_)));subst ex ey;obtain rfl:u=Value.ref a:=rx;exact d_delItem I2 e ry l fun s3 I3=>wpAny_deleteEach_nil ⟨σ,_,I3,q2⟩
end
theorem dk_empty {P:Program}{w:World}{H:Hp}(h:Heap)(hb:sysModules<h.objs.size):ObjOk P w H (h.push {cls:=.type "dict",data:=.dict #[]}) h.objs.size (.dK []) :=
 ⟨Nat.zero_le _,beq_eq_false_iff_ne.mpr (Ne.symm (Nat.ne_of_lt hb)),[],.nil,Heap.DictOf.new h⟩
theorem dt_empty {P:Program}{w:World}{H:Hp}(h:Heap)(hb:sysModules<h.objs.size):ObjOk P w H (h.push {cls:=.type "dict",data:=.dict #[]}) h.objs.size (.dT []) :=
 ⟨Nat.zero_le _,beq_eq_false_iff_ne.mpr (Ne.symm (Nat.ne_of_lt hb)),[],.nil,_,#[],0,Heap.get?_push_size _ rfl,⟨rfl,rfl,rfl⟩,rfl,rfl,List.nodup_nil⟩
def tDNewK:TE:=fun _ H Q=>∀ p,H p=none→Q (.ref p) (upd H p (.dK []))
def tDNewT:TE:=fun _ H Q=>∀ p,H p=none→Q (.ref p) (upd H p (.dT []))
section
variable {X:Cx}{pos:Pos}
theorem pe_dnewK:PE X (.Dict [] [] pos) tDNewK:=fun pins s σ H Q I h =>
 wpAny_Dict_empty ⟨.ref s.heap.objs.size,_,I.laid (a:=s.heap.objs.size) (o:=.dK []) (t':=s.toks) (fun _ _ q=>Heap.get?_push_of_some _ q) (Nat.le_refl _) (dk_empty s.heap I.big),rfl,h _ (I.hok.fresh (Nat.le_refl _))⟩
theorem pe_dnewT:PE X (.Dict [] [] pos) tDNewT:=fun pins s σ H Q I h =>
 wpAny_Dict_empty ⟨.ref s.heap.objs.size,_,I.laid (a:=s.heap.objs.size) (o:=.dT []) (t':=s.toks) (fun _ _ q=>Heap.get?_push_of_some _ q) (Nat.le_refl _) (dt_empty s.heap I.big),rfl,h _ (I.hok.fresh (Nat.le_refl _))⟩
end
def tPairs:List (TE×TE)→St→Hp→(List (V×V)→Hp→Prop)→Prop
 | [],_,H,Q=>Q [] H
 | (tk,tv)::r,σ,H,Q=>tk σ H fun x H1=>tv σ H1 fun y H2=>tPairs r σ H2 fun ps H3=>Q ((x,y)::ps) H3
abbrev VV:List (V×V)→List (Value×Value)→Prop:=Paired fun p q=>RelV p.1 q.1∧RelV p.2 q.2
def PPs (X:Cx)(pos:Pos)(keys:List (Option Expr))(values:List Expr)(trs:List (TE×TE)):Prop :=
 ∀ (pins:List (Addr×Obj)) (s:Shared) (σ:St) (H:Hp) (Q:List (V×V)→Hp→Prop),Inv X pins σ H s→tPairs trs σ H Q →
  wpAny (model X.prog X.w) X.A (evalPairs (pairTrees keys values X.env pos)) (fun vs s'=>∃ ps H',Inv X pins σ H' s'∧VV ps vs∧Q ps H') X.xe s
theorem pps_nil {X:Cx}{pos:Pos}:PPs X pos [] [] []:=fun pins s σ H Q I h=>pairTrees_nil_walk ⟨[],H,I,.nil,h⟩
theorem pps_cons {X:Cx}{pos:Pos}{k v:Expr}{ks:List (Option Expr)}{vs:List Expr}{tk tv:TE}{trs:List (TE×TE)}(hk:PE X k tk)(hv:PE X v tv)(hr:PPs X pos ks vs trs) :
  PPs X pos (some k::ks) (v::vs) ((tk,tv)::trs):=fun pins s σ H Q I h =>
 pairTrees_cons_walk (thn (hk pins s σ H _ I h) fun u s1 ⟨x,H1,I1,rx,q1⟩=>thn (hv pins s1 σ H1 _ I1 q1) fun w2 s2 ⟨y,H2,I2,ry,q2⟩ =>
  thn (hr pins s2 σ H2 _ I2 q2) fun ws s3 ⟨ps,H3,I3,rel,q3⟩=>⟨(x,y)::ps,H3,I3,.cons ⟨rx,ry⟩ rel,q3⟩)
def mergeK (kvs more:List (Key×V)):List (Key×V):=more.foldl (fun acc kv=>putK acc kv.1 kv.2) kvs
theorem KV.merge:∀ {more:List (Key×V)} {rs:List (Key×Value)} {kvs:List (Key×V)} {vs:List (Key×Value)},KV more rs→KV kvs vs→KV (mergeK kvs more) (merged vs rs):=by
 intro more rs kvs vs r;unfold KV at r;induction r generalizing kvs vs with
 | nil=>intro q;exact q
 | @cons p q ps qs h t ih =>
  intro r0;have e:KV (putK kvs p.1 p.2) (stored vs q.1 q.2):=by
   have:=r0.put p.1 h.2;rw[← h.1];exact this
  exact ih e
theorem length_mergeK:∀ (more kvs:List (Key×V)),(mergeK kvs more).length≤kvs.length+more.length
 | [],kvs=>by show kvs.length≤kvs.length+0;omega
 | p::r,kvs=>by
  have h1:=length_mergeK r (putK kvs p.1 p.2);have h2:=length_putK kvs p.1 p.2;show (mergeK (putK kvs p.1 p.2) r).length≤_;rw[List.length_cons];omega
theorem carries_of {P:Program}{w:World}:∀ {kvs:List (Key×V)} {ws:List (Value×Value)},VV (kvs.map fun kv=>(kV kv.1,kv.2)) ws→∃ rs,Carries (mixKind P w) ws rs∧KV kvs rs
 | [],_,r=>by rw[List.map_nil] at r;cases r;exact⟨[],True.intro,.nil⟩
 | p::kvs,_,r=>by
  rw[List.map_cons] at r;cases r with
  | @cons a b as bs h t =>
   obtain⟨rs,c,q⟩:=carries_of (P:=P) (w:=w) t;obtain⟨b1,b2⟩:=b;exact⟨(p.1,b2)::rs,⟨kV_is h.1,rfl,c⟩,.cons ⟨rfl,h.2⟩ q⟩
def tDisp (trs:List (TE×TE)):TE:=fun σ H Q=>∀ p,H p=none→tPairs trs σ (upd H p (.dK [])) fun ps H2=>H2 p=some (.dK [])∧∃ kvs:List (Key×V),ps=kvs.map (fun kv=>(kV kv.1,kv.2))∧kvs.length≤15∧Q (.ref p) (upd H2 p (.dK (mergeK [] kvs)))
theorem pe_disp {X:Cx}{pos:Pos}{keys:List (Option Expr)}{values:List Expr}{trs:List (TE×TE)}(h:PPs X pos keys values trs)(hall:keys.all (·.isSome)=true)(hl:keys.length=values.length)(h0:keys≠[])
  (h15:keys.length≤15):PE X (.Dict keys values pos) (tDisp trs):=by
 intro pins s σ H Q I q;have hn:=I.hok.fresh (Nat.le_refl s.heap.objs.size);have I1:=I.laid (a:=s.heap.objs.size) (o:=.dK []) (h':=s.heap.push {cls:=.type "dict",data:=.dict #[]}) (t':=s.toks) (fun _ _ q=>Heap.get?_push_of_some _ q) (Nat.le_refl _) (dk_empty s.heap I.big);refine wpAny_Dict_walk (knd:=mixKind X.prog X.w) hall hl h0 h15 (thn (h pins _ σ _ _ I1 (q _ hn)) fun ws s2 ⟨ps,H2,I2,rel,e,kvs,ep,lk,q2⟩=>?_);subst ep;obtain⟨rs,c,rk⟩:=carries_of (P:=X.prog) (w:=X.w) rel;obtain⟨z,hd,vs0,r0,dd⟩:=dk_of I2.hok e;cases r0;refine⟨rs,c,dd,fun h' dd' hs=>⟨.ref s.heap.objs.size,_,?_,rfl,q2⟩⟩;have hz:(mergeK [] kvs).length≤sizeLine:=by
  have h1:=length_mergeK kvs [];rw[List.length_nil] at h1;rw[sizeLine_eq];omega
 have he:∃ q,h'.get? s.heap.objs.size=some q:=let ⟨q,_,_,hq,_⟩:=dd';⟨q,hq⟩;exact d_write I2 (by rw[e];exact True.intro) hs he (dk_new hz hd (rk.merge .nil) dd')
end L2
end
section
local macro_rules | `(tactic| omega)=>`(tactic| first | lia | omega +splitDisjunctions)
namespace Ts
open PySem PyProof.Rows
set_option autoImplicit false
end Ts
namespace Ts
open PySem PyProof.Rows
set_option autoImplicit false
def el (xs:Array Keyed)(i:Nat):Keyed:=(xs[i]?).getD (Value.none,Value.none)
theorem el_some {xs:Array Keyed}{i:Nat}(h:i<xs.size):xs[i]?=some (el xs i):=by
 unfold el;rw[getElem?_pos xs i h];rfl
theorem el_congr {xs ys:Array Keyed}{i j:Nat}(h:xs[i]?=ys[j]?):el xs i=el ys j:=by unfold el;rw[h]
theorem el_mem {xs:Array Keyed}{i:Nat}(h:i<xs.size):el xs i∈xs.toList:=by
 have e:el xs i=xs[i]:=by unfold el;rw[getElem?_pos xs i h];rfl
 rw[e];simp
section
variable {O:KeyOrd}{key:Keyed→O.α}
abbrev KA {O:KeyOrd}(key:Keyed→O.α)(xs:Array Keyed)(i:Nat):O.α:=key (el xs i)
theorem KA_congr {xs ys:Array Keyed}{i j:Nat}(h:xs[i]?=ys[j]?):KA key xs i=KA key ys j:=by unfold KA;rw[el_congr h]
def Seg {O:KeyOrd}(key:Keyed→O.α)(xs:Array Keyed)(lo hi:Nat):Prop:=∀ i j,lo≤i→i≤j→j<hi→O.kle (KA key xs i) (KA key xs j)
def SegD {O:KeyOrd}(key:Keyed→O.α)(xs:Array Keyed)(lo hi:Nat):Prop:=∀ i j,lo≤i→i≤j→j<hi→O.kle (KA key xs j) (KA key xs i)
theorem Seg.one (xs:Array Keyed)(lo:Nat):Seg key xs lo (lo+1):=fun i j h1 h2 h3=>by
 have:i=j:=by omega
 subst this;exact KeyOrd.kle_refl _
theorem Seg.congr {xs ys:Array Keyed}{lo hi:Nat}(h:Seg key xs lo hi)(e:∀ i,lo≤i→i<hi→KA key ys i=KA key xs i):Seg key ys lo hi:=fun i j a b c=>by
 rw[e i a (by omega),e j (by omega) c];exact h i j a b c
theorem KA_bubble {xs:Array Keyed}{src d:Nat}(hs:src<xs.size)(hd:d≤src)(k:Nat) :
  KA key (bubble xs src d) k=if k=src-d then KA key xs src else if src-d<k∧k≤src then KA key xs (k-1) else KA key xs k:=by
 have e:=getElem?_bubble hs d hd k;by_cases h1:k=src-d
 ·rw[if_pos h1] at e ⊢;exact KA_congr e
 ·rw[if_neg h1] at e ⊢;by_cases h2:src-d<k∧k≤src
  ·rw[if_pos h2] at e ⊢;exact KA_congr e
  ·rw[if_neg h2] at e ⊢;exact KA_congr e
theorem KA_mirror {xs:Array Keyed}{i j:Nat}(hj:j≤xs.size)(k:Nat) :
  KA key (mirror xs i j ((j-i) / 2)) k=if i≤k∧k<j then KA key xs (i+j-1-k) else KA key xs k:=by
 have e:=getElem?_mirror_all (i:=i) hj k;by_cases h1:i≤k∧k<j
 ·rw[if_pos h1] at e ⊢;exact KA_congr e
 ·rw[if_neg h1] at e ⊢;exact KA_congr e
theorem KA_mirror_equal {xs:Array Keyed}{i j:Nat}(hj:j≤xs.size)(heq:∀ k,i≤k→k<j→KA key xs k=KA key xs (j-1))(k:Nat) :
  KA key (mirror xs i j ((j-i) / 2)) k=KA key xs k:=by
 rw[KA_mirror hj];split
 ·rw[heq _ (by omega) (by omega),heq k (by omega) (by omega)]
 ·rfl
end
structure SB (a₀:Array Keyed)(knd:SortKind)(st:SortSt):Prop where
 perm:(arrOf st).Perm a₀
 kind:kindOf st=knd
 failed:failedOf st=none
theorem SB.size {a₀:Array Keyed}{knd:SortKind}{st:SortSt}(h:SB a₀ knd st):(arrOf st).size=a₀.size:=h.perm.size_eq
theorem SB.setArr {a₀:Array Keyed}{knd:SortKind}{st:SortSt}(h:SB a₀ knd st){xs:Array Keyed}(hp:xs.Perm (arrOf st)):SB a₀ knd (setArr st xs):=⟨hp.trans h.perm,h.kind,h.failed⟩
theorem SB.mem {a₀:Array Keyed}{knd:SortKind}{st:SortSt}(h:SB a₀ knd st){i:Nat}(hi:i<a₀.size):el (arrOf st) i∈a₀.toList :=
 (Array.perm_iff_toList_perm.mp h.perm).mem_iff.mp (el_mem (by rw[h.size];exact hi))
def Cmp (M:Model)(A:Around)(E:Value→Shared→Prop)(s:Shared)(knd:SortKind)(O:KeyOrd)(key:Keyed→O.α)(a₀:Array Keyed):Prop :=
 ∀ p∈a₀.toList,∀ q∈a₀.toList,∀ (st:SortSt) (Q:Option Bool→SortSt→Prop),kindOf st=knd→Q (some (O.blt (key p) (key q))) st→wpS M A E s (lt' p q) Q st
section
variable {M:Model}{A:Around}{E:Value→Shared→Prop}{s:Shared}{a₀:Array Keyed}{knd:SortKind}{O:KeyOrd}{key:Keyed→O.α}
theorem wpS_elem {xs:Array Keyed}{i:Nat}{Q:Keyed→SortSt→Prop}{st:SortSt}(h:i<xs.size)(q:Q (el xs i) st):wpS M A E s (elem' xs i) Q st:=by
 rw[elem'_eq,el_some h];exact wpS_pure q
theorem wpS_ltI {st:SortSt}{i j:Nat}{Q:Option Bool→SortSt→Prop}(C:Cmp M A E s knd O key a₀)(hB:SB a₀ knd st)(hi:i<a₀.size)(hj:j<a₀.size)
  (h:Q (some (O.blt (KA key (arrOf st) i) (KA key (arrOf st) j))) st):wpS M A E s (ltAt' i j) Q st:=by
 rw[ltAt'_eq];refine wpS_bind (wpS_get ?_);refine wpS_bind (wpS_elem (by rw[hB.size];exact hi) ?_);refine wpS_bind (wpS_elem (by rw[hB.size];exact hj) ?_);exact C _ (hB.mem hi) _ (hB.mem hj) st Q hB.kind h
theorem wpS_rev {st:SortSt}{i j:Nat}{Q:Unit→SortSt→Prop}(h:Q () (setArr st (mirror (arrOf st) i j ((j-i) / 2)))):wpS M A E s (reverseSlice' i j) Q st:=by
 rw[reverseSlice'_eq];exact wpS_modify h
theorem wpS_rule {st:SortSt}{Q:Unit→SortSt→Prop}{x:String}(h:Q () st):wpS M A E s (liftM (rule x):StateT SortSt Sem Unit) Q st:=wpS_lift (wpAny_rule ⟨rfl,h⟩)
def ascL (lo a nrem:Nat):StateT SortSt Sem AscSt :=
 forIn [a:nrem] ((none,a):AscSt) fun _ c=>do
  let x ← ltAt' (lo+c.snd) (lo+c.snd-1)
  match x with
  | some sm=>if sm=true then pure (ForInStep.done (none,c.snd)) else pure (ForInStep.yield (none,c.snd+1))
  | _=>pure (ForInStep.done (some none,c.snd))
def t3L (lo n nrem:Nat):StateT SortSt Sem (Option Nat):=do
 reverseSlice' lo (lo+n)
 let c ← ascL lo n nrem
 match c.fst with
 | some r=>pure r
 | none=>pure (some c.snd)
def desL (lo n nrem:Nat):StateT SortSt Sem DescSt :=
 forIn [n:nrem] ((none,n,0):DescSt) fun _ c=>do
  let x ← ltAt' (lo+c.snd.fst) (lo+c.snd.fst-1)
  match x with
  | some sm =>
   if sm=true then
    if c.snd.snd>0 then do
     reverseSlice' (lo+c.snd.fst-(c.snd.snd+1)) (lo+c.snd.fst)
     pure (ForInStep.yield (none,c.snd.fst+1,0))
    else pure (ForInStep.yield (none,c.snd.fst+1,0))
   else do
    let y ← ltAt' (lo+c.snd.fst-1) (lo+c.snd.fst)
    match y with
    | some la =>
     if la=true then pure (ForInStep.done (none,c.snd.fst,c.snd.snd))
     else pure (ForInStep.yield (none,c.snd.fst+1,c.snd.snd+1))
    | _=>pure (ForInStep.done (some none,c.snd.fst,c.snd.snd))
  | _=>pure (ForInStep.done (some none,c.snd.fst,c.snd.snd))
def desP (lo n nrem:Nat):StateT SortSt Sem (Option Nat):=do
 liftM (rule "list.sort.descending-run")
 let c ← desL lo (n+1) nrem
 match c.fst with
 | some r=>pure r
 | none =>
  if c.snd.snd>0 then do
   reverseSlice' (lo+c.snd.fst-(c.snd.snd+1)) (lo+c.snd.fst)
   t3L lo c.snd.fst nrem
  else t3L lo c.snd.fst nrem
theorem cR_eq (lo nrem:Nat):countRun' lo nrem=(do
  let c ← ascL lo 1 nrem
  match c.fst with
  | some r=>pure r
  | none =>
   if (c.snd == nrem)=true then pure (some c.snd)
   else if c.snd>1 then do
    let x ← ltAt' lo (lo+c.snd-1)
    match x with
    | some rs=>if rs=true then pure (some c.snd) else do
      reverseSlice' lo (lo+c.snd)
      desP lo c.snd nrem
    | _=>pure none
   else desP lo c.snd nrem):=by
 rw[countRun'_eq];unfold desP t3L desL ascL;refine bind_congr fun c=>?_
 obtain⟨r,n⟩:=c;cases r with
 | some r=>rfl
 | none =>
  dsimp only;split
  ·rfl
  ·split
   ·refine bind_congr fun x=>?_
    cases x with
    | none=>rfl
    | some rs =>
     dsimp only;split
     ·rfl
     ·refine bind_congr fun u=>?_
      refine bind_congr fun v=>?_
      refine bind_congr fun d=>?_
      obtain⟨r2,n2,q2⟩:=d;cases r2 with
      | some r2=>rfl
      | none =>
       dsimp only;split
       ·refine bind_congr fun e=>?_
        refine bind_congr fun e=>?_
        refine bind_congr fun d=>?_
        obtain⟨r3,n3⟩:=d;cases r3<;>rfl
       ·refine bind_congr fun e=>?_
        refine bind_congr fun d=>?_
        obtain⟨r3,n3⟩:=d;cases r3<;>rfl
   ·refine bind_congr fun v=>?_
    refine bind_congr fun d=>?_
    obtain⟨r2,n2,q2⟩:=d;cases r2 with
    | some r2=>rfl
    | none =>
     dsimp only;split
     ·refine bind_congr fun e=>?_
      refine bind_congr fun e=>?_
      refine bind_congr fun d=>?_
      obtain⟨r3,n3⟩:=d;cases r3<;>rfl
     ·refine bind_congr fun e=>?_
      refine bind_congr fun d=>?_
      obtain⟨r3,n3⟩:=d;cases r3<;>rfl
structure From (lo:Nat)(st st':SortSt):Prop where
 low:∀ i,i<lo→(arrOf st')[i]?=(arrOf st)[i]?
 pend:pendingOf st'=pendingOf st
theorem From.refl (lo:Nat)(st:SortSt):From lo st st:=⟨fun _ _=>rfl,rfl⟩
theorem From.trans {lo:Nat}{a b c:SortSt}(h:From lo a b)(k:From lo b c):From lo a c:=⟨fun i hi=>(k.low i hi).trans (h.low i hi),k.pend.trans h.pend⟩
theorem From.mirror {lo i j:Nat}{st:SortSt}(hi:lo≤i)(hj:j≤(arrOf st).size):From lo st (PyProof.Rows.setArr st (PyProof.Rows.mirror (arrOf st) i j ((j-i) / 2))) :=
 ⟨fun k hk=>by show (PyProof.Rows.mirror (arrOf st) i j ((j-i) / 2))[k]?=_;rw[getElem?_mirror_all hj,if_neg (by omega)],rfl⟩
theorem From.bubble {lo src d:Nat}{st:SortSt}(hs:src<(arrOf st).size)(hd:d≤src)(hl:lo≤src-d):From lo st (PyProof.Rows.setArr st (PyProof.Rows.bubble (arrOf st) src d)) :=
 ⟨fun k hk=>by show (PyProof.Rows.bubble (arrOf st) src d)[k]?=_;rw[getElem?_bubble hs d hd,if_neg (by omega),if_neg (by omega)],rfl⟩
theorem wpS_ascL {st:SortSt}{lo a nrem:Nat}{Q:AscSt→SortSt→Prop}(C:Cmp M A E s knd O key a₀)(hn:lo+nrem≤a₀.size)(ha:1≤a)(han:a≤nrem)(hB:SB a₀ knd st)
  (hs:Seg key (arrOf st) lo (lo+a))
  (h:∀ n,a≤n→n≤nrem→Seg key (arrOf st) lo (lo+n)→(n=nrem∨O.klt (KA key (arrOf st) (lo+n)) (KA key (arrOf st) (lo+n-1)))→Q (none,n) st) :
  wpS M A E s (ascL lo a nrem) Q st:=by
 unfold ascL;refine wpS_forRange (I:=fun x c st'=>st'=st∧c=(none,x)∧Seg key (arrOf st) lo (lo+x)) ?step ?fin ⟨rfl,rfl,hs⟩
 case fin =>
  rintro c st' ⟨rfl,rfl,hs'⟩;rw[show max a nrem=nrem by omega] at hs' ⊢;exact h nrem han (Nat.le_refl _) hs' (.inl rfl)
 case step =>
  rintro x c st' hax hxn ⟨rfl,rfl,hs'⟩;dsimp only;refine wpS_bind (wpS_ltI C hB (by omega) (by omega) ?_);cases hless:O.blt (KA key (arrOf st') (lo+x)) (KA key (arrOf st') (lo+x-1))
  case true =>
   simp only[if_true];exact wpS_pure (h x hax (by omega) hs' (.inr hless))
  case false =>
   simp only[Bool.false_eq_true,if_false];refine wpS_pure ⟨rfl,rfl,fun i j hli hij hj=>?_⟩;by_cases hjx:j<lo+x
   ·exact hs' i j hli hij hjx
   ·have hj':j=lo+x:=by omega
    subst hj';by_cases hi':i=lo+x
    ·subst hi';exact KeyOrd.kle_refl _
    ·exact KeyOrd.kle_trans (hs' i (lo+x-1) hli (by omega) (by omega)) hless
theorem wpS_t3L {st:SortSt}{lo n nrem:Nat}{Q:Option Nat→SortSt→Prop}(C:Cmp M A E s knd O key a₀)(hn:lo+nrem≤a₀.size)(h1:1≤n)(hnn:n≤nrem)(hB:SB a₀ knd st)
  (hs:SegD key (arrOf st) lo (lo+n)) (h:∀ m st',SB a₀ knd st'→From lo st st'→1≤m→m≤nrem→Seg key (arrOf st') lo (lo+m)→Q (some m) st') :
  wpS M A E s (t3L lo n nrem) Q st:=by
 unfold t3L;have hsz:lo+n≤(arrOf st).size:=by rw[hB.size];omega
 refine wpS_bind (wpS_rev ?_);have hB':SB a₀ knd (setArr st (mirror (arrOf st) lo (lo+n) ((lo+n-lo) / 2))):=hB.setArr (mirror_perm _ _ _ _);have hF:=From.mirror (Nat.le_refl lo) hsz;refine wpS_bind (wpS_ascL C hn h1 hnn hB' ?_ fun m hm1 hm2 hsm _=>wpS_pure (h m _ hB' hF (by omega) hm2 hsm));intro i j hli hij hj;show O.kle (KA key (mirror (arrOf st) lo (lo+n) ((lo+n-lo) / 2)) i) (KA key (mirror (arrOf st) lo (lo+n) ((lo+n-lo) / 2)) j);rw[KA_mirror hsz,KA_mirror hsz,if_pos (by omega),if_pos (by omega)];exact hs _ _ (by omega) (by omega) (by omega)
theorem wpS_desL {st:SortSt}{lo n nrem:Nat}{Q:DescSt→SortSt→Prop}(C:Cmp M A E s knd O key a₀)(hn:lo+nrem≤a₀.size)(h1:1≤n)(hnn:n≤nrem)(hB:SB a₀ knd st)
  (hs:SegD key (arrOf st) lo (lo+n))
  (h:∀ m neq st',SB a₀ knd st'→From lo st st'→n≤m→m≤nrem→SegD key (arrOf st') lo (lo+m)→neq+1≤m→(∀ i,lo+m-(neq+1)≤i→i<lo+m→KA key (arrOf st') i=KA key (arrOf st') (lo+m-1))→Q (none,m,neq) st') :
  wpS M A E s (desL lo n nrem) Q st:=by
 unfold desL
 refine wpS_forRange (I:=fun x c st'=>∃ neq,c=(none,x,neq)∧SB a₀ knd st'∧From lo st st'∧SegD key (arrOf st') lo (lo+x)∧neq+1≤x ∧
   (∀ i,lo+x-(neq+1)≤i→i<lo+x→KA key (arrOf st') i=KA key (arrOf st') (lo+x-1))) ?step ?fin ⟨0,rfl,hB,From.refl _ _,hs,by omega,fun i h1 h2=>by congr 1;congr 1;omega⟩
 case fin =>
  rintro c st' ⟨neq,rfl,hB',hF,hs',hq,he⟩;rw[show max n nrem=nrem by omega] at hs' hq he ⊢;exact h nrem neq st' hB' hF hnn (Nat.le_refl _) hs' hq he
 case step =>
  rintro x c st' hax hxn ⟨neq,rfl,hB',hF,hs',hq,he⟩;dsimp only;have hsz:lo+x≤(arrOf st').size:=by rw[hB'.size];omega
  refine wpS_bind (wpS_ltI C hB' (by omega) (by omega) ?_);cases hless:O.blt (KA key (arrOf st') (lo+x)) (KA key (arrOf st') (lo+x-1))
  case true =>
   simp only[if_true];have step1:∀ xs:Array Keyed,(∀ k,KA key xs k=KA key (arrOf st') k)→SegD key xs lo (lo+(x+1)):=by
    intro xs hk i j hli hij hj;rw[hk,hk];by_cases hjx:j<lo+x
    ·exact hs' i j hli hij hjx
    ·have hj':j=lo+x:=by omega
     subst hj';by_cases hi':i=lo+x
     ·subst hi';exact KeyOrd.kle_refl _
     ·exact KeyOrd.kle_trans (KeyOrd.kle_of_klt hless) (hs' i (lo+x-1) hli (by omega) (by omega))
   by_cases hneq:neq>0
   ·rw[if_pos hneq];refine wpS_bind (wpS_rev (wpS_pure ⟨0,rfl,hB'.setArr (mirror_perm _ _ _ _),hF.trans (From.mirror (by omega) hsz),step1 _ (KA_mirror_equal hsz he),by omega,fun i h1 h2=>by congr 1;congr 1;omega⟩))
   ·rw[if_neg hneq];exact wpS_pure ⟨0,rfl,hB',hF,step1 _ (fun _=>rfl),by omega,fun i h1 h2=>by congr 1;congr 1;omega⟩
  case false =>
   simp only[Bool.false_eq_true,if_false];refine wpS_bind (wpS_ltI C hB' (by omega) (by omega) ?_);cases hlarger:O.blt (KA key (arrOf st') (lo+x-1)) (KA key (arrOf st') (lo+x))
   case true =>
    simp only[if_true];exact wpS_pure (h x neq st' hB' hF hax (by omega) hs' hq he)
   case false =>
    simp only[Bool.false_eq_true,if_false];have heqx:KA key (arrOf st') (lo+x)=KA key (arrOf st') (lo+x-1):=KeyOrd.kle_antisymm hlarger hless;refine wpS_pure ⟨neq+1,rfl,hB',hF,fun i j hli hij hj=>?_,by omega,fun i h1 h2=>?_⟩
    ·by_cases hjx:j<lo+x
     ·exact hs' i j hli hij hjx
     ·have hj':j=lo+x:=by omega
      subst hj';by_cases hi':i=lo+x
      ·subst hi';exact KeyOrd.kle_refl _
      ·rw[heqx];exact hs' i (lo+x-1) hli (by omega) (by omega)
    ·rw[show lo+(x+1)-1=lo+x by omega];by_cases hix:i=lo+x
     ·subst hix;rfl
     ·rw[heqx];exact he i (by omega) (by omega)
theorem wpS_desP {st:SortSt}{lo n nrem:Nat}{Q:Option Nat→SortSt→Prop}(C:Cmp M A E s knd O key a₀)(hn:lo+nrem≤a₀.size)(hnn:n+1≤nrem)(hB:SB a₀ knd st)
  (hs:SegD key (arrOf st) lo (lo+(n+1))) (h:∀ m st',SB a₀ knd st'→From lo st st'→1≤m→m≤nrem→Seg key (arrOf st') lo (lo+m)→Q (some m) st') :
  wpS M A E s (desP lo n nrem) Q st:=by
 unfold desP;refine wpS_bind (wpS_rule ?_);refine wpS_bind (wpS_desL C hn (by omega) hnn hB hs fun m neq st' hB' hF hm1 hm2 hs' hq he=>?_);dsimp only;have hsz:lo+m≤(arrOf st').size:=by rw[hB'.size];omega
 by_cases hneq:neq>0
 ·rw[if_pos hneq];refine wpS_bind (wpS_rev (wpS_t3L C hn (by omega) hm2 (hB'.setArr (mirror_perm _ _ _ _)) ?_ fun m' st'' a b=>h m' st'' a (hF.trans ((From.mirror (by omega) hsz).trans b))));intro i j hli hij hj;show O.kle (KA key (mirror (arrOf st') _ _ _) j) (KA key (mirror (arrOf st') _ _ _) i);rw[KA_mirror_equal hsz he,KA_mirror_equal hsz he];exact hs' i j hli hij hj
 ·rw[if_neg hneq];exact wpS_t3L C hn (by omega) hm2 hB' hs' fun m' st'' a b=>h m' st'' a (hF.trans b)
theorem wpS_cR {st:SortSt}{lo nrem:Nat}{Q:Option Nat→SortSt→Prop}(C:Cmp M A E s knd O key a₀)(hn:lo+nrem≤a₀.size)(h1:1≤nrem)(hB:SB a₀ knd st)
  (h:∀ m st',SB a₀ knd st'→From lo st st'→1≤m→m≤nrem→Seg key (arrOf st') lo (lo+m)→Q (some m) st') :
  wpS M A E s (countRun' lo nrem) Q st:=by
 rw[cR_eq];refine wpS_bind (wpS_ascL C hn (Nat.le_refl 1) h1 hB (Seg.one _ _) fun n hn1 hn2 hsn hor=>?_);dsimp only;by_cases hnn:n=nrem
 ·rw[if_pos (by simpa using hnn)];exact wpS_pure (h n st hB (From.refl _ _) hn1 hn2 hsn)
 ·rw[if_neg (by simpa using hnn)];have hlt:O.klt (KA key (arrOf st) (lo+n)) (KA key (arrOf st) (lo+n-1)):=hor.resolve_left hnn;by_cases hgt:n>1
  ·rw[if_pos hgt];refine wpS_bind (wpS_ltI C hB (by omega) (by omega) ?_);cases hrose:O.blt (KA key (arrOf st) lo) (KA key (arrOf st) (lo+n-1))
   case true =>
    simp only[if_true];exact wpS_pure (h n st hB (From.refl _ _) hn1 hn2 hsn)
   case false =>
    simp only[Bool.false_eq_true,if_false];have hsz:lo+n≤(arrOf st).size:=by rw[hB.size];omega
    have hall:∀ k,lo≤k→k<lo+n→KA key (arrOf st) k=KA key (arrOf st) (lo+n-1):=by
     intro k hlk hk;have a1:=hsn lo k (by omega) (by omega) hk;have a2:=hsn k (lo+n-1) hlk (by omega) (by omega);exact KeyOrd.kle_antisymm a2 (KeyOrd.kle_trans hrose a1)
    refine wpS_bind (wpS_rev (wpS_desP C hn (by omega) (hB.setArr (mirror_perm _ _ _ _)) ?_ fun m' st'' a b=>h m' st'' a ((From.mirror (Nat.le_refl lo) hsz).trans b)));intro i j hli hij hj;show O.kle (KA key (mirror (arrOf st) _ _ _) j) (KA key (mirror (arrOf st) _ _ _) i);rw[KA_mirror_equal hsz hall,KA_mirror_equal hsz hall];by_cases hjn:j<lo+n
    ·rw[hall i (by omega) (by omega),hall j (by omega) hjn];exact KeyOrd.kle_refl _
    ·have hj':j=lo+n:=by omega
     subst hj';by_cases hi':i=lo+n
     ·subst hi';exact KeyOrd.kle_refl _
     ·rw[hall i (by omega) (by omega)];exact KeyOrd.kle_of_klt hlt
  ·rw[if_neg hgt];have hn1':n=1:=by omega
   subst hn1';refine wpS_desP C hn (by omega) hB ?_ h;intro i j hli hij hj;by_cases hi':i=j
   ·subst hi';exact KeyOrd.kle_refl _
   ·have hi0:i=lo:=by omega
    have hj1:j=lo+1:=by omega
    subst hi0;subst hj1;exact KeyOrd.kle_of_klt hlt
theorem wpS_bS {st:SortSt}{lo n ok:Nat}{Q:Bool→SortSt→Prop}(C:Cmp M A E s knd O key a₀)(hn:lo+n≤a₀.size)(hok:ok≤n)(hB:SB a₀ knd st)(hs:Seg key (arrOf st) lo (lo+ok))
  (h:∀ st',SB a₀ knd st'→From lo st st'→Seg key (arrOf st') lo (lo+n)→Q true st'):wpS M A E s (binarySort' lo n ok) Q st:=by
 rw[binarySort'_eq]
 refine wpS_bind (wpS_mono (wpS_forRange (I:=fun k c st'=>c=(none,())∧SB a₀ knd st'∧From lo st st'∧Seg key (arrOf st') lo (lo+min k n))
  (Q:=fun c st'=>c=(none,())∧SB a₀ knd st'∧From lo st st'∧Seg key (arrOf st') lo (lo+n)) ?step ?fin ?init) ?post)
 case post =>
  rintro c st' ⟨rfl,hB',hF,hs'⟩;exact wpS_pure (h st' hB' hF hs')
 case init =>
  refine⟨rfl,hB,From.refl _ _,fun i j hli hij hj=>?_⟩;by_cases h1:ok=0
  ·have:i=j:=by omega
   subst this;exact KeyOrd.kle_refl _
  ·exact hs i j hli hij (by omega)
 case fin =>
  rintro c st' ⟨hc,hB',hF,hs'⟩;refine⟨hc,hB',hF,?_⟩
  rwa [show min (max (max ok 1) n) n=n by omega] at hs'
 case step =>
  rintro k c st' hak hkn ⟨rfl,hB',hF,hs'⟩;rw[show min k n=k by omega] at hs';have hk:lo+k<a₀.size:=by omega
  refine wpS_bind (wpS_mono (wpS_forRange (I:=fun x c st''=>st''=st'∧∃ l r,c=(none,l,r)∧l≤r∧r≤k∧r-l≤k-x ∧
    (∀ i,i<l→O.kle (KA key (arrOf st') (lo+i)) (KA key (arrOf st') (lo+k)))∧(∀ i,r≤i→i<k→O.klt (KA key (arrOf st') (lo+k)) (KA key (arrOf st') (lo+i))))
   (Q:=fun c st''=>st''=st'∧∃ l r,c=(none,l,r)∧l≤k ∧
    (∀ i,i<l→O.kle (KA key (arrOf st') (lo+i)) (KA key (arrOf st') (lo+k)))∧(∀ i,l≤i→i<k→O.klt (KA key (arrOf st') (lo+k)) (KA key (arrOf st') (lo+i)))) ?istep ?ifin ?iinit) ?ipost)
  case iinit=>exact⟨rfl,0,k,rfl,by omega,by omega,by omega,fun i hi=>by omega,fun i h1 h2=>by omega⟩
  case ifin =>
   rintro c st'' ⟨rfl,l,r,rfl,hlr,hrk,hm,hlo,hhi⟩;have:l=r:=by omega
   subst this;exact⟨rfl,l,l,rfl,hrk,hlo,hhi⟩
  case istep =>
   rintro x c st'' _ hxk ⟨rfl,l,r,rfl,hlr,hrk,hm,hlo,hhi⟩;dsimp only;by_cases hge:l≥r
   ·rw[if_pos hge];have:l=r:=by omega
    subst this;exact wpS_pure ⟨rfl,l,l,rfl,hrk,hlo,hhi⟩
   ·rw[if_neg hge];refine wpS_bind (wpS_ltI C hB' hk (by omega) ?_);cases hless:O.blt (KA key (arrOf st'') (lo+k)) (KA key (arrOf st'') (lo+(l+r) / 2))
    case true =>
     simp only[if_true];refine wpS_pure ⟨rfl,l,(l+r) / 2,rfl,by omega,by omega,by omega,hlo,fun i h1 h2=>?_⟩;exact KeyOrd.klt_of_klt_of_kle hless (hs' _ _ (by omega) (by omega) (by omega))
    case false =>
     simp only[Bool.false_eq_true,if_false];refine wpS_pure ⟨rfl,(l+r) / 2+1,r,rfl,by omega,by omega,by omega,fun i h1=>?_,hhi⟩;exact KeyOrd.kle_trans (hs' (lo+i) (lo+(l+r) / 2) (by omega) (by omega) (by omega)) (show O.kle _ _ from hless)
  case ipost =>
   rintro c st'' ⟨rfl,l,r,rfl,hlk,hlo,hhi⟩;show wpS _ _ _ _ (do moveDown' (lo+k) (lo+l);pure (ForInStep.yield (none,()))) _ _;rw[moveDown'_eq];have hks:lo+k<(arrOf st'').size:=by rw[hB'.size];exact hk
   refine wpS_bind (wpS_modify (wpS_pure ⟨rfl,hB'.setArr (bubble_perm _ _ _),hF.trans (From.bubble hks (by omega) (by omega)),?_⟩));rw[show min (k+1) n=k+1 by omega];intro i j hli hij hj;show O.kle (KA key (bubble (arrOf st'') (lo+k) (lo+k-(lo+l))) i) (KA key (bubble (arrOf st'') (lo+k) (lo+k-(lo+l))) j);rw[KA_bubble hks (by omega),KA_bubble hks (by omega),show lo+k-(lo+k-(lo+l))=lo+l by omega];have hlo':∀ i,lo≤i→i<lo+l→O.kle (KA key (arrOf st'') i) (KA key (arrOf st'') (lo+k)):=fun i a b=>by
    have:=hlo (i-lo) (by omega)
    rwa [show lo+(i-lo)=i by omega] at this
   have hhi':∀ i,lo+l≤i→i<lo+k→O.klt (KA key (arrOf st'') (lo+k)) (KA key (arrOf st'') i):=fun i a b=>by
    have:=hhi (i-lo) (by omega) (by omega)
    rwa [show lo+(i-lo)=i by omega] at this
   repeat' split
   all_goals first
    | (exfalso;omega)
    | exact KeyOrd.kle_refl _
    | exact hlo' _ (by omega) (by omega)
    | exact KeyOrd.kle_of_klt (hhi' _ (by omega) (by omega))
    | exact hs' _ _ (by omega) (by omega) (by omega)
end
end Ts
namespace Ts
open PySem PyProof.Rows
set_option autoImplicit false
end Ts
namespace Ts
open PySem PyProof.Rows
set_option autoImplicit false
theorem toList_el {a:Array Keyed}{k:Nat}(h:k<a.size):a.toList[k]?=some (el a k):=by
 rw[Array.getElem?_toList];exact el_some h
section
variable {O:KeyOrd}{key:Keyed→O.α}
def le {O:KeyOrd}(key:Keyed→O.α)(p q:Keyed):Prop:=O.kle (key p) (key q)
theorem pw_of_seg {a:Array Keyed}(h:Seg key a 0 a.size):a.toList.Pairwise (le key):=by
 rw[List.pairwise_iff_getElem];intro i j hi hj hij;have hi':i<a.size:=by simpa using hi
 have hj':j<a.size:=by simpa using hj
 have e1:=toList_el hi';rw[List.getElem?_eq_getElem hi] at e1;have e2:=toList_el hj';rw[List.getElem?_eq_getElem hj] at e2;rw[Option.some.inj e1,Option.some.inj e2];exact h i j (by omega) (by omega) hj'
variable {a b o:Array Keyed}{i j:Nat}
end
end Ts
namespace Ts
open PySem PyProof.Rows
set_option autoImplicit false
end Ts
namespace Ts
open PySem PyProof.Rows
set_option autoImplicit false
end Ts
namespace Ts
open PySem PyProof.Rows
set_option autoImplicit false
end Ts
namespace Ts
open PySem PyProof.Rows
set_option autoImplicit false
section
variable {M:Model}{A:Around}{E:Value→Shared→Prop}{s:Shared}{a₀:Array Keyed}{knd:SortKind}{O:KeyOrd}{key:Keyed→O.α}
def Rn {O:KeyOrd}(key:Keyed→O.α)(xs:Array Keyed):Nat→List (Nat×Nat×Nat)→Nat→Prop
 | s,[],e=>s=e
 | s,x::r,e=>x.1=s∧1≤x.2.1∧Seg key xs s (s+x.2.1)∧Rn key xs (s+x.2.1) r e
theorem Rn.le {xs:Array Keyed}:∀ {p:List (Nat×Nat×Nat)} {s e:Nat},Rn key xs s p e→s+p.length≤e
 | [],s,e,h=>by cases h;simp
 | x::r,s,e,h=>by
  have:=Rn.le h.2.2.2;have:=h.2.1;rw[List.length_cons];omega
theorem Rn.congr {xs ys:Array Keyed}:∀ {p:List (Nat×Nat×Nat)} {s e:Nat},Rn key xs s p e→(∀ k,s≤k→k<e→ys[k]?=xs[k]?)→Rn key ys s p e
 | [],s,e,h,_=>h
 | x::r,s,e,h,k=>⟨h.1,h.2.1,h.2.2.1.congr (fun i a b=>KA_congr (k i a (by have:=Rn.le h.2.2.2;omega))),Rn.congr h.2.2.2 fun i a b=>k i (by omega) b⟩
theorem Rn.cat {xs:Array Keyed}:∀ {p q:List (Nat×Nat×Nat)} {s m e:Nat},Rn key xs s p m→Rn key xs m q e→Rn key xs s (p++q) e
 | [],q,s,m,e,h,k=>by cases h;exact k
 | x::r,q,s,m,e,h,k=>⟨h.1,h.2.1,h.2.2.1,Rn.cat h.2.2.2 k⟩
structure RB {O:KeyOrd}(key:Keyed→O.α)(a₀:Array Keyed)(knd:SortKind)(lo:Nat)(p:List (Nat×Nat×Nat))(st:SortSt):Prop where
 sb:SB a₀ knd st
 pd:pendingOf st=p.toArray
 rn:Rn key (arrOf st) 0 p lo
 hl:lo≤a₀.size
theorem RB.push {st:SortSt}{lo n:Nat}{p:List (Nat×Nat×Nat)}(hR:RB key a₀ knd lo p st)(h1:1≤n)(h2:lo+n≤a₀.size)(hs:Seg key (arrOf st) lo (lo+n)) :
  RB key a₀ knd (lo+n) (p++[(lo,n,0)]) (setPending st ((pendingOf st).push (lo,n,0))) :=
 ⟨⟨hR.sb.perm,hR.sb.kind,hR.sb.failed⟩,by show (pendingOf st).push _=_;rw[hR.pd,List.push_toArray],hR.rn.cat ⟨rfl,h1,hs,rfl⟩,h2⟩
theorem minRun_short:∀ n,1≤n→n<64→minRun' n n 0=n
 | 0,h,_=>absurd h (by decide)
 | k+1,_,h=>by rw[minRun'_succ,if_pos h,Nat.add_zero]
theorem wpS_sRs {st:SortSt}{Q:Unit→SortSt→Prop}(C:Cmp M A E s knd O key a₀)(hB:SB a₀ knd st)(hp:pendingOf st=#[])(h2:2≤a₀.size)(h64:a₀.size<64)
  (h:∀ st',SB a₀ knd st'→Seg key (arrOf st') 0 a₀.size→Q () st'):wpS M A E s sortRuns' Q st:=by
 rw[sortRuns'_eq];refine wpS_bind (wpS_get ?_);dsimp only;simp only[hB.size];rw[minRun_short _ (by omega) h64]
 refine wpS_bind (wpS_mono (wpS_forRange
  (I:=fun x c st'=>∃ lo p,c=(none,lo)∧RB key a₀ knd lo p st'∧x≤lo∧(lo=0∧p=[]∨p.length≤1∧lo=a₀.size))
  (Q:=fun c st'=>∃ p,c=(none,a₀.size)∧RB key a₀ knd a₀.size p st'∧p.length≤1) ?step ?fin ⟨0,[],rfl,⟨hB,hp,rfl,by omega⟩,by omega,.inl ⟨rfl,rfl⟩⟩) ?post)
 case fin =>
  rintro c st' ⟨lo,p,rfl,hR,hx,ho⟩;have:lo=a₀.size:=by have:=hR.hl;omega
  subst this;exact⟨p,rfl,hR,by omega⟩
 case post =>
  rintro c st' ⟨p,rfl,hR,hl⟩;dsimp only
  refine wpS_bind (wpS_mono (wpS_forRange (I:=fun x c st'=>c=(none,())∧∃ p,RB key a₀ knd a₀.size p st'∧p.length≤1)
   (Q:=fun c st'=>c=(none,())∧∃ p,RB key a₀ knd a₀.size p st'∧p.length≤1) ?_ (fun _ _ z=>z) ⟨rfl,p,hR,hl⟩) ?_)
  ·rintro x c st3 _ hx ⟨rfl,p,hR3,hlen⟩;refine wpS_bind (wpS_get ?_);have hsz:(pendingOf st3).size=p.length:=by rw[hR3.pd];simp
   rw[if_pos (by omega)];exact wpS_pure ⟨rfl,p,hR3,by omega⟩
  ·rintro c st3 ⟨rfl,p,hR3,hlen⟩;refine wpS_pure (h st3 hR3.sb ?_);have hrn:=hR3.rn
   match p,hlen,hrn with
   | [],_,hrn=>exact absurd hrn (by show ¬ (0=a₀.size);omega)
   | [x],_,hrn =>
    obtain⟨_,_,g,e⟩:=hrn;have e:0+x.2.1=a₀.size:=e;rw[e] at g;exact g
   | _::_::_,hlen,_=>simp at hlen
 case step =>
  rintro x c st1 _ hx ⟨lo,p,rfl,hR,hxl,ho⟩;dsimp only;by_cases hlo:lo≥a₀.size
  ·rw[if_pos hlo];have:lo=a₀.size:=by have:=hR.hl;omega
   subst this;exact wpS_pure ⟨p,rfl,hR,by omega⟩
  rw[if_neg hlo];obtain⟨rfl,rfl⟩:lo=0∧p=[]:=ho.resolve_right (by omega);refine wpS_bind (wpS_cR C (by omega) (by omega) hR.sb fun found st2 hB2 hF2 hm1 hm2 hs2=>?_);dsimp only;have hR2:RB key a₀ knd 0 [] st2:=⟨hB2,hF2.pend.trans hR.pd,hR.rn.congr fun k _ hk=>hF2.low k hk,hR.hl⟩
  by_cases hmin:found<a₀.size
  ·rw[if_pos hmin];refine wpS_bind (wpS_rule ?_);refine wpS_bind (wpS_bS C (by omega) (by omega) hB2 hs2 fun st3 hB3 hF3 hs3=>?_);simp only[Bool.not_true,Bool.false_eq_true,if_false];have hR3:RB key a₀ knd 0 [] st3:=⟨hB3,hF3.pend.trans hR2.pd,hR2.rn.congr fun k _ hk=>hF3.low k hk,hR.hl⟩
   refine wpS_bind (wpS_get ?_);rw[show (pendingOf st3).back?=none by rw[hR3.pd];rfl];dsimp only;refine wpS_bind (wpS_modify ?_);exact wpS_pure ⟨_,_,rfl,hR3.push (by omega) (by omega) hs3,by omega,.inr ⟨by simp,by omega⟩⟩
  ·rw[if_neg hmin];refine wpS_bind (wpS_get ?_);rw[show (pendingOf st2).back?=none by rw[hR2.pd];rfl];dsimp only;refine wpS_bind (wpS_modify ?_);exact wpS_pure ⟨_,_,rfl,hR2.push hm1 (by omega) hs2,by omega,.inr ⟨by simp,by omega⟩⟩
end
end Ts
end
section
namespace L2
open PySem PySem.Spec PyProof.Rows
def clo (env:Env):List (Str×NameKind)→List (Str×Addr)→List (Str×Addr)
 | [],cs=>cs
 | y::r,cs=>clo env r (if y.2 == NameKind.free then (y.1,(env.cells.lookup y.1).getD 0)::cs else cs)
theorem clo_eq {env:Env}:∀ (names:List (Str×NameKind)) (cs:List (Str×Addr)),(∀ y∈names,y.2=.free→∃ c,env.cells.lookup y.1=some c) →
  (forIn names cs fun (x:Str×NameKind) (r:List (Str×Addr))=>(if (x.2 == NameKind.free)=true then do
   let c ← cellOf env x.1
   pure (ForInStep.yield ((x.1,c)::r)) else pure (ForInStep.yield r):Sem (ForInStep (List (Str×Addr)))))=pure (clo env names cs)
 | [],cs,_=>by rw[List.forIn_nil];rfl
 | y::r,cs,h=>by
  rw[List.forIn_cons];unfold clo;have hr:=clo_eq r (if y.2 == NameKind.free then (y.1,(env.cells.lookup y.1).getD 0)::cs else cs) fun z hz=>h z (List.mem_cons_of_mem _ hz)
  by_cases e:(y.2 == NameKind.free)=true
  ·obtain⟨c,hc⟩:=h y List.mem_cons_self (by simpa using e);have ec:cellOf env y.1=pure c:=by unfold cellOf;rw[hc]
   rw[if_pos e] at hr ⊢;rw[if_pos e,ec];rw[hc] at hr ⊢;exact hr
  ·rw[if_neg e] at hr ⊢;rw[if_neg e];exact hr
theorem closure_clo {env:Env}{scope:Scope}(h:∀ y∈scope.names,y.2=.free→∃ c,env.cells.lookup y.1=some c):closureFor scope env=pure (clo env scope.names []):=by
 have e:=clo_eq scope.names [] h;unfold closureFor;refine Eq.trans ?_ (congrArg (fun t=>t >>= fun cs=>(pure cs:Sem (List (Str×Addr)))) e);rfl
theorem lookup_cons' {β:Type}(x n:Str)(c:β)(r:List (Str×β)):List.lookup x ((n,c)::r)=if x=n then some c else List.lookup x r:=by
 rw[List.lookup_cons];by_cases e:x=n
 ·have hb:(x == n)=true:=beq_iff_eq.mpr e;rw[if_pos e];simp[hb]
 ·have hb:(x == n)=false:=beq_eq_false_iff_ne.mpr e;rw[if_neg e];simp[hb]
theorem clo_lookup {env:Env}(x:Str):∀ (names:List (Str×NameKind)) (cs:List (Str×Addr)),
  (clo env names cs).lookup x=if (names.any fun y=>decide (y.1=x) && (y.2 == NameKind.free))=true then some ((env.cells.lookup x).getD 0) else cs.lookup x
 | [],cs=>by simp[clo]
 | y::r,cs=>by
  unfold clo;rw[clo_lookup x r,List.any_cons];by_cases e:(y.2 == NameKind.free)=true
  ·rw[if_pos e,lookup_cons'];by_cases ex:y.1=x
   ·rw[decide_eq_true ex,e,if_pos ex.symm,ex];simp
   ·rw[decide_eq_false ex,if_neg (show ¬ x=y.1 from fun z=>ex z.symm),Bool.false_and,Bool.false_or]
  ·have e':(y.2 == NameKind.free)=false:=by simpa using e
   rw[if_neg e,e'];simp
def compOk (sc osc:Scope):Bool :=
 (match sc.kind with | .function=>true | _=>false) &&
  sc.names.all fun y=>match y.2 with
   | .cell=>false
   | .local=>(match sc.names.lookup y.1 with | some .local=>true | _=>false)
   | .free=>(match osc.names.lookup y.1 with | some .cell=>true | some .free=>true | _=>false)
   | _=>true
structure CompOk (sc osc:Scope):Prop where
 kind:sc.kind=.function
 noCell:∀ y∈sc.names,y.2≠.cell
 loc:∀ y∈sc.names,y.2=.local→sc.names.lookup y.1=some .local
 free:∀ y∈sc.names,y.2=.free→osc.names.lookup y.1=some .cell∨osc.names.lookup y.1=some .free
theorem compOk_of {sc osc:Scope}(h:compOk sc osc=true):CompOk sc osc:=by
 unfold compOk at h;rw[Bool.and_eq_true,List.all_eq_true] at h;obtain⟨h1,h2⟩:=h;refine⟨?_,fun y hy e=>?_,fun y hy e=>?_,fun y hy e=>?_⟩
 ·cases e:sc.kind with
  | function=>rfl
  | _=>rw[e] at h1;cases h1
 ·have:=h2 y hy;rw[e] at this;cases this
 ·have:=h2 y hy;rw[e] at this;dsimp only at this;split at this
  ·assumption
  ·cases this
 ·have:=h2 y hy;rw[e] at this;dsimp only at this;split at this
  ·left;assumption
  ·right;assumption
  ·cases this
def cxC (X:Cx)(scope:Scope)(N':List Str)(pins:List (Addr×Obj))(fp:List Addr)(s:Shared)(H:Hp):Cx where
 prog:=X.prog
 w:=X.w
 K:=X.K
 mg:=X.mg
 base:=X.base
 A:=X.A
 N:=N'
 s₀:=s
 H₀:=H
 env:=compEnvC scope (clo X.env scope.names []) s.heap.objs.size X.env
 outer:=X.stack
 stack:=X.stack
 ex:=fp
 fn:=fun _=>false
 calm:=true
 pn:=X.pn++pins
 xe:=fun _ _=>False
section
variable {X:Cx}{scope:Scope}{own:List Str}{fr:List (Str×Nat)}{fp:List Addr}{pins:List (Addr×Obj)}{σ:St}{H:Hp}{s:Shared}
def st0 (own:List Str)(fr:List (Str×Nat))(σ:St):St:=own.map (fun _=>Option.none)++fr.map fun p=>(σ[p.2]?).join
def frOk (X:Cx)(scope:Scope)(fr:List (Str×Nat)):Prop:=∀ p∈fr,X.N[p.2]?=some p.1∧scope.names.lookup p.1=some .free
theorem frOk_nil:frOk X scope []:=fun _ h=>nomatch h
theorem frOk_cons {p:Str×Nat}{r:List (Str×Nat)}(h1:X.N[p.2]?=some p.1)(h2:scope.names.lookup p.1=some .free)(h:frOk X scope r):frOk X scope (p::r):=fun q hq=>by
 rcases List.mem_cons.mp hq with rfl | hq
 ·exact⟨h1,h2⟩
 ·exact h q hq
theorem lookup_mem' {β:Type}{x:Str}{k:β}:∀ {l:List (Str×β)},l.lookup x=some k→(x,k)∈l
 | [],h=>by cases h
 | (n,c)::r,h=>by
  rw[lookup_cons'] at h;by_cases e:x=n
  ·rw[if_pos e] at h;cases h;rw[e];exact List.mem_cons_self
  ·rw[if_neg e] at h;exact List.mem_cons_of_mem _ (lookup_mem' h)
theorem relabel_lookup {env:Env}{x:Str}:∀ {names:List (Str×NameKind)} {k:NameKind},
  (names.map fun (y:Str×NameKind)=>if (y.2 == NameKind.free && env.scope.kind == .function && env.kindOf y.1 == some .cell) then (y.1,NameKind.cell) else (y.1,y.2)).lookup x=some k →
  ∃ k',names.lookup x=some k'∧(k=k'∨(k'=.free∧k=.cell))
 | [],k,h=>by cases h
 | (n,c)::r,k,h=>by
  rw[List.map_cons] at h;rw[lookup_cons'];by_cases e:x=n
  ·rw[if_pos e];refine⟨c,rfl,?_⟩;by_cases q:(c == NameKind.free && env.scope.kind == .function && env.kindOf n == some .cell)=true
   ·have hh:(if (((n,c):Str×NameKind).2 == NameKind.free && env.scope.kind == .function && env.kindOf ((n,c):Str×NameKind).1 == some .cell)=true then (((n,c):Str×NameKind).1,NameKind.cell) else (((n,c):Str×NameKind).1,((n,c):Str×NameKind).2))=(n,NameKind.cell):=if_pos q;rw[hh,lookup_cons',if_pos e] at h;cases h;refine .inr ⟨?_,rfl⟩;simp only[Bool.and_eq_true] at q;simpa using q.1.1
   ·have hh:(if (((n,c):Str×NameKind).2 == NameKind.free && env.scope.kind == .function && env.kindOf ((n,c):Str×NameKind).1 == some .cell)=true then (((n,c):Str×NameKind).1,NameKind.cell) else (((n,c):Str×NameKind).1,((n,c):Str×NameKind).2))=(n,c):=if_neg q;rw[hh,lookup_cons',if_pos e] at h;cases h;exact .inl rfl
  ·rw[if_neg e];have h':(r.map fun (y:Str×NameKind)=>if (y.2 == NameKind.free && env.scope.kind == .function && env.kindOf y.1 == some .cell) then (y.1,NameKind.cell) else (y.1,y.2)).lookup x=some k:=by
    by_cases q:(c == NameKind.free && env.scope.kind == .function && env.kindOf n == some .cell)=true
    ·have hh:(if (((n,c):Str×NameKind).2 == NameKind.free && env.scope.kind == .function && env.kindOf ((n,c):Str×NameKind).1 == some .cell)=true then (((n,c):Str×NameKind).1,NameKind.cell) else (((n,c):Str×NameKind).1,((n,c):Str×NameKind).2))=(n,NameKind.cell):=if_pos q;rw[hh,lookup_cons',if_neg e] at h;exact h
    ·have hh:(if (((n,c):Str×NameKind).2 == NameKind.free && env.scope.kind == .function && env.kindOf ((n,c):Str×NameKind).1 == some .cell)=true then (((n,c):Str×NameKind).1,NameKind.cell) else (((n,c):Str×NameKind).1,((n,c):Str×NameKind).2))=(n,c):=if_neg q;rw[hh,lookup_cons',if_neg e] at h;exact h
   exact relabel_lookup h'
theorem relabel_free {env:Env}{x:Str}:∀ {names:List (Str×NameKind)},names.lookup x=some .free →
  (names.map fun (y:Str×NameKind)=>if (y.2 == NameKind.free && env.scope.kind == .function && env.kindOf y.1 == some .cell) then (y.1,NameKind.cell) else (y.1,y.2)).lookup x=some .cell ∨
  (names.map fun (y:Str×NameKind)=>if (y.2 == NameKind.free && env.scope.kind == .function && env.kindOf y.1 == some .cell) then (y.1,NameKind.cell) else (y.1,y.2)).lookup x=some .free
 | [],h=>by cases h
 | (n,c)::r,h=>by
  rw[lookup_cons'] at h;rw[List.map_cons];have red:∀ b:Bool,(if b=true then (n,NameKind.cell) else (n,c))=(n,if b=true then NameKind.cell else c):=fun b=>by cases b<;>rfl
  have hh:(if (((n,c):Str×NameKind).2 == NameKind.free && env.scope.kind == .function && env.kindOf ((n,c):Str×NameKind).1 == some .cell)=true then (((n,c):Str×NameKind).1,NameKind.cell) else (((n,c):Str×NameKind).1,((n,c):Str×NameKind).2))=(n,if (c == NameKind.free && env.scope.kind == .function && env.kindOf n == some .cell)=true then NameKind.cell else c):=red _;rw[hh,lookup_cons'];by_cases e:x=n
  ·rw[if_pos e] at h ⊢;cases h;generalize (NameKind.free == NameKind.free && env.scope.kind == .function && env.kindOf n == some .cell)=b;cases b
   ·right;rfl
   ·left;rfl
  ·rw[if_neg e] at h ⊢;exact relabel_free h
theorem inv_comp (I:Inv X pins σ H s)(hc:CompOk scope X.env.scope)(hcalm:X.calm=true)(hf:∀ b∈fp,FpOk X pins H b)(hlt:∀ b∈fp,b<s.heap.objs.size)(hfr:frOk X scope fr){h1:Heap}{m:Str→Option Value}(hns:h1.Ns s.heap.objs.size m)
  (hsb:∀ b o,s.heap.get? b=some o→h1.get? b=some o):Inv (cxC X scope (own++fr.map (·.1)) pins fp s H) [] (st0 own fr σ) H {s with heap:=h1}:=by
 have clX:∀ x c,(clo X.env scope.names []).lookup x=some c→X.env.cells.lookup x=some c:=fun x c e=>by
  rw[clo_lookup] at e;split at e
  ·rename_i q;obtain⟨y,hy,hq⟩:=List.any_eq_true.mp q;rw[Bool.and_eq_true] at hq;have e1:y.1=x:=of_decide_eq_true hq.1;have e2:y.2=.free:=by simpa using hq.2
   obtain⟨c',hc'⟩:=I.ok.has x (by
    have:=hc.free y hy e2;rw[e1] at this
    exact this)
   rw[hc'] at e ⊢;exact e
  ·cases e
 have hlen:∀ b∈frs X.stack,b≠s.heap.objs.size∧b∈X.env.locals::X.fs:=fun b hb=>by
  have hm:=I.stkSub b hb;refine⟨fun z=>?_,hm⟩;rcases List.mem_cons.mp hm with q | q
  ·have:=I.lt;rw[← q,z] at this;exact Nat.lt_irrefl _ this
  ·exact I.nofs (Nat.le_of_eq z.symm) q
 have ok:(cxC X scope (own++fr.map (·.1)) pins fp s H).Ok :=
  {mod:=I.ok.mod
   kind:=hc.kind
   glob:=I.ok.glob
   blt:=I.ok.blt
   above:=Nat.le_refl _
   inj:=fun x y c hx hy=>I.ok.inj x y c (clX x c hx) (clX y c hy)
   has:=fun x hx=>by
    have hx:(relabel scope X.env).names.lookup x=some .cell∨(relabel scope X.env).names.lookup x=some .free:=hx;have key:scope.names.lookup x=some .free:=by
     rcases hx with hx | hx
     ·obtain⟨k',e1,e2⟩:=relabel_lookup hx;rcases e2 with e2 | ⟨e2,_⟩
      ·subst e2;exact absurd rfl (hc.noCell (x,.cell) (lookup_mem' e1))
      ·subst e2;exact e1
     ·obtain⟨k',e1,e2⟩:=relabel_lookup hx;rcases e2 with e2 | ⟨e2,e3⟩
      ·subst e2;exact e1
      ·cases e3
    have hm:=lookup_mem' key;refine⟨(X.env.cells.lookup x).getD 0,?_⟩;show (clo X.env scope.names []).lookup x=_;rw[clo_lookup,if_pos (List.any_eq_true.mpr ⟨(x,.free),hm,by simp⟩)]
   cab:=fun x c h=>nomatch h
   hd:=fun _=>I.ok.hd hcalm
   frames:=I.ok.frames
   stk:=.inl rfl
   exf:=fun b hb=>⟨Nat.ne_of_lt (hlt b hb),fun x c e=>(hf b hb).2.2.2.2.1 x c (clX x c e)⟩
   bs:=I.bs
   bsz:=Nat.le_trans I.ok.bsz I.sz
   noex:=fun b o e hb=>by
    rcases (hf b hb).2.2.2.1 with q | q
    ·exact I.ok.noex b o e q
    ·have h1:b<X.base.objs.size:=Heap.lt_size e;have h2:=I.ok.bsz;exact absurd (Nat.lt_of_lt_of_le h1 h2) (Nat.not_lt.mpr q)
   exfs:=fun b hb hm=>by
    have hm:=I.stkSub b hm;rcases List.mem_cons.mp hm with q | q
    ·exact (hf b hb).2.1 q
    ·exact (hf b hb).2.2.1 q
   funs:=I.stack
   frf:=I.stkFree}
 refine⟨ok,rfl,I.bare,Un.kept hsb,⟨m,hns,fun i x v hx hv hvis=>?_⟩,fun x c e=>?_,I.fresh,fun x c e=>I.freeC x c (clX x c e),fun p hp=>?_,I.hok.kept hsb,?_⟩
 ·-- the names
  have hi:own.length≤i:=by
   rcases Nat.lt_or_ge i own.length with h | h
   ·unfold st0 at hv;rw[List.getElem?_append_left (by simpa using h),List.getElem?_map] at hv;cases e:own[i]? with
    | none=>rw[e] at hv;cases hv
    | some z=>rw[e] at hv;cases hv
   ·exact h
  have hx:(own++fr.map (·.1))[i]?=some x:=hx;unfold st0 at hv;rw[List.getElem?_append_right (by simpa using hi),List.getElem?_map] at hv;rw[List.getElem?_append_right hi,List.getElem?_map] at hx;rw[List.length_map] at hv;cases e:fr[i-own.length]? with
  | none=>rw[e] at hx;cases hx
  | some p =>
   rw[e] at hx hv;have ex:p.1=x:=Option.some.inj hx;have ev:(σ[p.2]?).join=some v:=Option.some.inj hv;obtain⟨hN,hfree⟩:=hfr p (List.mem_iff_getElem?.mpr ⟨_,e⟩);rw[ex] at hN hfree;have hk:=hc.free (x,.free) (lookup_mem' hfree) rfl;have hσ:σ[p.2]?=some (some v):=by
    cases q:σ[p.2]? with
    | none=>rw[q] at ev;cases ev
    | some o=>rw[q] at ev;exact congrArg some ev
   obtain⟨mX,nX,lX⟩:=I.loc;obtain⟨u,ru,look⟩:=lX p.2 x v hN hσ (.inr hk);refine⟨u,ru,.inr ⟨relabel_free hfree,?_⟩⟩;rcases look with ⟨k1,_⟩ | ⟨_,c,hcc,hcell⟩
   ·exfalso;have k1:X.env.scope.names.lookup x=some .local:=k1;rcases hk with q | q<;>(rw[k1] at q;cases q)
   ·refine⟨c,?_,?_⟩
    ·show (clo X.env scope.names []).lookup x=_;rw[clo_lookup,if_pos (List.any_eq_true.mpr ⟨(x,.free),lookup_mem' hfree,by simp⟩),hcc];rfl
    ·exact hcell.keeps hsb
 ·obtain⟨v,hv⟩:=I.cell x c (clX x c e);exact⟨v,hv.keeps hsb⟩
 ·have hp:p∈X.pn++pins:=by
   rcases List.mem_append.mp hp with q | q
   ·exact q
   ·cases q
  obtain⟨a1,a2,a3,a4,a5⟩:=I.pin p hp;refine⟨hsb _ _ a1,a2,Nat.ne_of_lt (Heap.lt_size a1),fun hm=>?_,a5⟩;have hm:=I.stkSub _ hm;rcases List.mem_cons.mp hm with q | q
  ·exact a3 q
  ·exact a4 q
 ·show (st0 own fr σ).length=(own++fr.map (·.1)).length;unfold st0;rw[List.length_append,List.length_append,List.length_map,List.length_map,List.length_map]
end
end L2
namespace L2
open PySem PySem.Spec PyProof.Rows
def PTs (X:Cx)(ifs:List Expr)(t:TT):Prop :=
 ∀ (pins:List (Addr×Obj)) (s:Shared) (σ:St) (H:Hp) (Q:Bool→Hp→Prop),Inv X pins σ H s→t σ H Q →
  wpAny (model X.prog X.w) X.A (forIn ifs true fun c r=>if r=true then do let ok ← isTrue c X.env (eval c X.env);pure (ForInStep.yield ok) else pure (ForInStep.yield r)) (TP X pins σ Q) X.xe s
def tYes:TT:=fun _ H Q=>Q true H
theorem pts_nil {X:Cx}:PTs X [] tYes:=fun pins s σ H Q I h=>wpAny_tests_nil ⟨H,I,h⟩
theorem pts_one {X:Cx}{c:Expr}{t:TT}(h:PT X c t):PTs X [c] t:=fun pins s σ H Q I q=>wpAny_tests_one (h pins s σ H Q I q)
theorem lcomp_loop {prog:Program}{w:World}{A:Around}{R:Result→Shared→Prop}{s:Shared}{elt target iter:Expr}{ifs:List Expr}{scope:Scope}{pos:Pos}{it acc:Value}{env:Env}(I:Nat→Shared→Prop)
  (turn:∀ n s,I n s→wpAny (model prog w) A (pyNext it) (fun r s₁=>match r with
   | none=>R (.ok .next) s₁
   | some v=>wpAny (model prog w) A (letOwnedTupleGo target it v) (fun _ s₁=>wpAny (model prog w) A (assign target env v) (fun _ s₂ =>
     wpAny (model prog w) A (forIn ifs true fun c r=>if r=true then do let ok ← isTrue c env (eval c env);pure (ForInStep.yield ok) else pure (ForInStep.yield r)) (fun ok s₃ =>
      if ok=true then wpAny (model prog w) A (eval elt env) (fun x s₄ =>
       wpAny (model prog w) A (call (.builtin "list.append") [acc,x]) (fun _ s₅=>∃ m,m<n∧I m s₅) (fun _ _=>False) s₄) (fun _ _=>False) s₃
      else ∃ m,m<n∧I m s₃) (fun _ _=>False) s₂) (fun _ _=>False) s₁) (fun _ _=>False) s₁) (fun _ _=>False) s)
  (n:Nat) (h:I n s):codeAny (model prog w) A (.compLoop (.ListComp elt [⟨target,iter,ifs,0⟩] scope pos) 0 it acc env) R s:=by
 refine codeAny_loop rfl I (fun n s hI=>?_) n h;show wpAny _ A ((compTurn (.ListComp elt [⟨target,iter,ifs,0⟩] scope pos) 0 it acc env).onRaise (fun x=>do noteFrame x env;theTreesLotGoes x)) _ _ s;refine wpAny_noted ?_;rw[compTurn_list];refine wpAny_bind (wpAny_standAt (wpAny_bind (wpAny_mono (turn n s hI) (fun r s₁ h₁=>?_) fun _ _ h'=>h'.elim)));cases r with
 | none=>exact wpAny_pure h₁
 | some v =>
  refine wpAny_bind (wpAny_mono h₁ (fun _ s₁ h₁=>?_) fun _ _ h'=>h'.elim);refine wpAny_bind (wpAny_mono h₁ (fun _ s₂ h₂=>wpAny_bind (wpAny_mono h₂ (fun ok s₃ h₃=>?_) fun _ _ h'=>h'.elim)) fun _ _ h'=>h'.elim);cases ok with
  | false=>exact wpAny_pure ⟨rfl,h₃⟩
  | true =>
   exact wpAny_bind (wpAny_bind (wpAny_mono h₃ (fun x s₄ h₄=>wpAny_bind (wpAny_mono h₄ (fun _ s₅ h₅=>wpAny_pure (wpAny_pure ⟨rfl,h₅⟩)) fun _ _ h'=>h'.elim)) fun _ _ h'=>h'.elim))
def lcW (g:TG)(tc:TT)(te:TE)(p:Addr)(J:It)(τ0:St)(H0:Hp)(E:Hp→Prop):Prop :=
 ∃ W:Nat→Nat→St→Hp→Prop,(∃ m,W 0 m τ0 H0)∧∀ i m τ H,W i m τ H →
  (J.stop i H∧E H)∨(J.go i H∧∃ N:St→Hp→Prop,(∀ τ' H',N τ' H'→∃ m',m'<m∧W (i+1) m' τ' H') ∧
   ∀ x H',J.yld i H x H'→g x τ H' fun τ2 H2=>tc τ2 H2 fun b H3=>if b=true then te τ2 H3 fun v H4=>∃ ys,H4 p=some (.lst ys)∧ys.length<sizeLine∧N τ2 (upd H4 p (.lst (ys++[v]))) else N τ2 H3)
def tLC (own:List Str)(fr:List (Str×Nat))(wi:TI)(g:TG)(tc:TT)(te:TE):TE:=fun σ H Q =>
 wi σ H fun J H1=>∀ p,H1 p=none→lcW g tc te p J (st0 own fr σ) (upd H1 p (.lst [])) fun H2=>Q (.ref p) H2
section
variable {X:Cx}{elt tg iter:Expr}{ifs:List Expr}{scope:Scope}{pos:Pos}{own:List Str}{fr:List (Str×Nat)}{wi:TI}{g:TG}{tc:TT}{te:TE}
structure Blk (X:Cx)(scope:Scope)(N':List Str)(tg:Expr)(ifs:List Expr)(elt:Expr)(g:TG)(tc:TT)(te:TE):Prop where
 run:∀ pins fp s H,PG (cxC X scope N' pins fp s H) tg g∧PTs (cxC X scope N' pins fp s H) ifs tc∧PE (cxC X scope N' pins fp s H) elt te
structure CFree (X:Cx)(pins:List (Addr×Obj))(H:Hp)(C:Addr):Prop where
 un:H C=none
 loc:C≠X.env.locals
 new:X.s₀.heap.objs.size≤C
 cel:∀ x c,X.env.cells.lookup x=some c→c≠C
 pin:∀ p∈X.pn++pins,p.1≠C
theorem CFree.inv {pins:List (Addr×Obj)}{σ:St}{H:Hp}{s:Shared}{C:Addr}{h':Heap}(f:CFree X pins H C)(I:Inv X pins σ H s)(hs:Heap.SameBut C s.heap h'):Inv X pins σ H {s with heap:=h'} :=
 I.turned (t':=s.toks) (fun b o hb e=>hs.extBut b o hb e) f.un f.loc (.inr f.new) f.cel f.pin
theorem lcomp_run {pins:List (Addr×Obj)}{σ:St}{H2:Hp}{s2:Shared}{it:Addr}{fp:List Addr}{tn:Nat→Heap→Prop}{J:It}{EE:Hp→Prop}{RR:Value→Addr→Result→Shared→Prop}{E:Value→Shared→Prop}
  (hcalm:X.calm=true) (hc:CompOk scope X.env.scope) (hfr:frOk X scope fr) (B:Blk X scope (own++fr.map (·.1)) tg ifs elt g tc te)
  (I2:Inv X pins σ H2 s2) (T:Turn X.prog X.w X.K tg J fp it tn) (st2:tn 0 s2.heap) (f2:∀ b∈fp,FpOk X pins H2 b)
  (hw:lcW g tc te s2.heap.objs.size J (st0 own fr σ) (upd H2 s2.heap.objs.size (.lst [])) EE)
  (hRR:∀ C H' s' m,EE H'→s'.heap.Ns C m→Inv X pins σ H' s'→CFree X pins H' C→RR (.ref s2.heap.objs.size) C (.ok .next) s') :
  wpAny (model X.prog X.w) X.A (newList []) (fun acc s₃=>wpAny (model X.prog X.w) X.A (newFunctionEnv scope X.env.globals (clo X.env scope.names []) [] X.env.qual none .none (some X.env)) (fun cenv s₄ =>
   codeAny (model X.prog X.w) X.A (.compStart (.ListComp elt [⟨tg,iter,ifs,0⟩] scope pos) 0 (.ref it) acc {cenv with scope:=relabel scope X.env}) (RR acc cenv.locals) s₄) E s₃) E s2:=by
 have I3:Inv X pins σ (upd H2 s2.heap.objs.size (.lst [])) {s2 with heap:=s2.heap.push {cls:=.type "list",data:=.seq ([]:List Value).toArray},toks:=s2.toks}:=I2.lnew (ys:=[]) (its:=[]) (t':=s2.toks) .nil (Nat.zero_le _);generalize hs3:({s2 with heap:=s2.heap.push {cls:=.type "list",data:=.seq ([]:List Value).toArray},toks:=s2.toks}:Shared)=s3 at I3;have hsz3:s3.heap.objs.size=s2.heap.objs.size+1:=by rw[← hs3];exact Heap.size_push ..
 have k3:∀ b o,s2.heap.get? b=some o→s3.heap.get? b=some o:=fun b o e=>by rw[← hs3];exact Heap.get?_push_of_some _ e
 have hlt:∀ b∈fp,b<s2.heap.objs.size:=fun b hb=>let ⟨o,e,_⟩:=T.obj _ _ st2 b hb;Heap.lt_size e
 have f3:∀ b∈fp,FpOk X pins (upd H2 s2.heap.objs.size (.lst [])) b:=fun b hb=>⟨by rw[upd_ne (Nat.ne_of_lt (hlt b hb))];exact (f2 b hb).1,(f2 b hb).2⟩
 have st3:tn 0 s3.heap:=T.keep _ _ _ st2 fun b _ o e=>k3 b o e
 refine wpAny_newObj_type ?_;have e3:({s2 with heap:=s2.heap.push {cls:=.type "list",dict:=none,data:=.seq ([]:List Value).toArray}}:Shared)=s3:=hs3;rw[e3];refine wpAny_newFunctionEnv hc.noCell (by intro y hy;cases hy) (fun h₁ hns₁ hsb₁=>?_) hc.kind;have k4:∀ b o,s3.heap.get? b=some o→h₁.get? b=some o:=fun b o e=>hsb₁.extBut b o (Nat.ne_of_lt (Heap.lt_size e)) (Heap.get?_push_of_some _ e)
 have I4:=inv_comp (own:=own) I3 hc hcalm f3 (fun b hb=>Nat.lt_of_lt_of_le (hlt b hb) (by rw[hsz3];exact Nat.le_succ _)) hfr hns₁ k4;obtain⟨bg,bt,be⟩:=B.run pins fp s3 (upd H2 s2.heap.objs.size (.lst []));generalize hX':cxC X scope (own++fr.map (·.1)) pins fp s3 (upd H2 s2.heap.objs.size (.lst []))=X' at I4 bg bt be;have eP:X'.prog=X.prog:=by rw[← hX'];rfl
 have eW:X'.w=X.w:=by rw[← hX'];rfl
 have eK:X'.K=X.K:=by rw[← hX'];rfl
 have eA:X'.A=X.A:=by rw[← hX'];rfl
 have eC:X'.calm=true:=by rw[← hX'];rfl
 have eX:X'.xe=fun _ _=>False:=by rw[← hX'];rfl
 have eE:X'.env=compEnvC scope (clo X.env scope.names []) s3.heap.objs.size X.env:=by rw[← hX'];rfl
 have fC:∀ {H':Hp},(∀ b∈fp,H' b=none)→∀ b∈fp,FpOk X' [] H' b:=fun hn b hb=>by
  have hb':=f3 b hb;refine⟨hn b hb,?_,?_,?_,?_,?_⟩
  ·exact (I4.ok.exf b (by rw[← hX'];exact hb)).1
  ·exact I4.ok.exfs b (by rw[← hX'];exact hb)
  ·left;rw[← hX'];exact hb
  ·exact (I4.ok.exf b (by rw[← hX'];exact hb)).2
  ·intro p hp;have hp:p∈X.pn++pins:=by
    rw[← hX'] at hp;rcases List.mem_append.mp hp with q | q
    ·exact q
    ·cases q
   exact hb'.2.2.2.2.2 p hp
 obtain⟨W,⟨m0,w0⟩,turn⟩:=hw;have cenvE:({(newEnv scope s3.heap.objs.size X.env.globals (clo X.env scope.names []) X.env.qual none .none (some X.env) builtinsNs) with scope:=relabel scope X.env}:Env)=X'.env:=by rw[eE];rfl
 have loop:∀ s4:Shared,Inv X' [] (st0 own fr σ) (upd H2 s2.heap.objs.size (.lst [])) s4→tn 0 s4.heap →
   codeAny (model X.prog X.w) X.A (.compLoop (.ListComp elt [⟨tg,iter,ifs,0⟩] scope pos) 0 (.ref it) (.ref s2.heap.objs.size) X'.env) (RR (.ref s2.heap.objs.size) s3.heap.objs.size) s4:=by
  intro s4 J4 t4;refine lcomp_loop (fun n s'=>∃ i τ H',Inv X' [] τ H' s'∧tn i s'.heap∧(∀ b∈fp,H' b=none)∧W i n τ H') ?_ m0 ⟨0,_,_,J4,t4,fun b hb=>(f3 b hb).1,w0⟩;rintro n s5 ⟨i,τ5,H5,I5,t5,fr5,w5⟩;rcases turn i n τ5 H5 w5 with ⟨stop,qn⟩ | ⟨go,N,hN,step⟩
  ·have hd:=T.done X' eP eW eK eC i [] s5 τ5 H5 (fun _ _=>False) I5 (fC fr5) t5 stop;rw[eA] at hd;refine thn hd fun r s6 ⟨hr,I6⟩=>?_
   subst hr;have hbase:Un (frs X.stack) fp (upd H2 s2.heap.objs.size (.lst [])) H5 s3.heap s6.heap:=by have:=I6.base;rw[← hX'] at this;exact this
   have hok6:HOk X.prog X.w H5 s6.heap:=by have:=I6.hok;rw[eP,eW] at this;exact this
   have os6:s6.os=s3.os:=by have:=I6.os;rw[← hX'] at this;exact this
   obtain⟨m6,n6,_⟩:=I6.loc;have n6:s6.heap.Ns s3.heap.objs.size m6:=by rw[eE] at n6;exact n6
   have free6:H5 s3.heap.objs.size=none:=by have:=I6.free;rw[eE] at this;exact this
   refine hRR s3.heap.objs.size H5 s6 m6 qn n6 (I3.call' os6 hbase hok6 I6.bare fun b hb=>⟨(f3 b hb).2.2.2.1,(f3 b hb).2.1,(f3 b hb).2.2.2.2.1,(f3 b hb).2.2.2.2.2⟩) ⟨free6,?_,I3.sz,?_,?_⟩
   ·exact (Nat.ne_of_lt I3.lt).symm
   ·intro x c e z;obtain⟨v,hv⟩:=I3.cell x c e;have:=hv.lt;rw[z] at this;exact Nat.lt_irrefl _ this
   ·intro p hp z;have:=Heap.lt_size (I3.pin p hp).1;rw[z] at this;exact Nat.lt_irrefl _ this
  ·have hi:=T.item X' eP eW eK eC i [] s5 τ5 H5 (fun _ _=>False) I5 (fC fr5) t5 go;rw[eA] at hi;refine thn hi fun r s6 ⟨u,hr,h6⟩=>?_
   subst hr;refine thn h6 fun _ s7 ⟨x,H7,I7,r7,y7,t7,fr7⟩=>?_
   have I7':=I7.pinned (fC fr7) (T.obj _ _ t7);have again:∀ {τ:St} {H':Hp} {s':Shared},Inv X' ([]++pinsAt fp s7.heap) τ H' s'→N τ H'→∃ m,m<n∧∃ i τ H',Inv X' [] τ H' s'∧tn i s'.heap∧(∀ b∈fp,H' b=none)∧W i m τ H':=fun {τ H' s'} I8 n8=>by
    obtain⟨m',hm,w8⟩:=hN τ H' n8;refine⟨m',hm,i+1,τ,H',I8.unpinned,T.keep _ _ _ t7 fun b hb o e=>(I8.pin (b,o) (List.mem_append_right _ (List.mem_append_right _ (mem_pinsAt hb e)))).1,fun b hb=>?_,w8⟩;obtain⟨o,e,d⟩:=T.obj _ _ t7 b hb;exact (I8.pin (b,o) (List.mem_append_right _ (List.mem_append_right _ (mem_pinsAt hb e)))).2.1
   have hg:=bg _ s7 τ5 H7 x u _ I7' r7 (step x H7 y7);rw[eP,eW,eA,eX] at hg;refine thn hg fun _ s8 ⟨τ8,H8,I8,q8⟩=>?_
   have ht:=bt _ s8 τ8 H8 _ I8 q8;rw[eP,eW,eA,eX] at ht;refine thn ht fun ok s9 ⟨H9,I9,q9⟩=>?_
   cases ok with
   | false=>exact again I9 q9
   | true =>
    rw[if_pos rfl] at q9 ⊢;have hv:=be _ s9 τ8 H9 _ I9 q9;rw[eP,eW,eA,eX] at hv;refine thn hv fun y s10 ⟨v,H10,I10,r10,ys,hl,hlen,n10⟩=>?_
    have ha:=mt_append (X:=X') _ s10 τ8 H10 (.ref s2.heap.objs.size) [v] (.ref s2.heap.objs.size) [y] (fun _ H'=>N τ8 H') I10 rfl (.cons r10 .nil) ⟨_,_,_,rfl,rfl,hl,hlen,n10⟩;rw[eP,eW,eA,eX] at ha;exact thn ha fun _ s11 ⟨_,H11,I11,_,n11⟩=>again I11 n11
 have st4:tn 0 h₁:=T.keep _ _ _ st3 fun b _ o e=>k4 b o e
 show codeAny (model X.prog X.w) X.A (.compStart (.ListComp elt [⟨tg,iter,ifs,0⟩] scope pos) 0 (.ref it) (.ref s2.heap.objs.size) ({(newEnv scope s3.heap.objs.size X.env.globals (clo X.env scope.names []) X.env.qual none .none (some X.env) builtinsNs) with scope:=relabel scope X.env}:Env)) (RR (.ref s2.heap.objs.size) s3.heap.objs.size) _;rw[cenvE];exact codeAny_compStart_list (loop _ I4 st4) (T.self X.A 0 _ _ _ st4 (loop _ I4 st4))
theorem clo_ok {pins:List (Addr×Obj)}{σ:St}{H:Hp}{s:Shared}(I:Inv X pins σ H s)(hc:CompOk scope X.env.scope):closureFor scope X.env=pure (clo X.env scope.names []) :=
 closure_clo fun y hy e=>I.ok.has y.1 (hc.free y hy e)
theorem pe_lcomp (hcalm:X.calm=true)(hc:compOk scope X.env.scope=true)(hfr:frOk X scope fr)(hi:PI X tg iter wi)(B:Blk X scope (own++fr.map (·.1)) tg ifs elt g tc te)
  (hs:∀ x,foldedSetIterable iter X.env x=pure x:=by intro _;rfl):PE X (.ListComp elt [⟨tg,iter,ifs,0⟩] scope pos) (tLC own fr wi g tc te):=by
 intro pins s σ H Q I h;have hc:=compOk_of hc;rw[eval_ListComp];refine wpAny_comprehension_free (use:=none) rfl hs (clo_ok I hc) hc.kind hc.loc (thn (hi pins s σ H _ I h) fun v s1 h1=>thn h1 fun itv s2 h2=>?_);obtain⟨it,fp,tn,J,H2,e,I2,T,st2,f2,hw⟩:=h2;subst e;refine lcomp_run (RR:=fun acc C=>compPost (model X.prog X.w) X.A X.xe none (EP X pins σ Q) acc C) hcalm hc hfr B I2 T st2 f2 (hw _ I2.fresh) ?_;intro C H' s' m q n I' f;exact⟨m,n,fun h' hs'=>⟨.ref s2.heap.objs.size,H',f.inv I' hs',rfl,q⟩⟩
theorem ps_setLC {i:Nat}{x:Str}{px spos:Pos}(hcalm:X.calm=true)(hN:X.N.Nodup)(hx:X.N[i]?=some x)(hl:X.env.scope.names.lookup x=some .local)(hsw:swapsWith (.ListComp elt [⟨tg,iter,ifs,0⟩] scope pos) (some (.Name x px)) spos.line X.env=pure true)
  (hc:compOk scope X.env.scope=true) (hfr:frOk X scope fr) (hi:PI X tg iter wi) (B:Blk X scope (own++fr.map (·.1)) tg ifs elt g tc te)
  (hs:∀ x,foldedSetIterable iter X.env x=pure x:=by intro _;rfl):PS X (.Assign [.Name x px] (.ListComp elt [⟨tg,iter,ifs,0⟩] scope pos) spos) (tAsg (tLC own fr wi g tc te) (gName i)):=by
 intro pins s σ H D I h;have hc:=compOk_of hc;rw[exec_Assign_Name_used _ _ _ _ hsw];refine wpAny_bind (wpAny_standAt (wpAny_bind ?_));show wpAny _ X.A (do let _ ← comprehension (.ListComp elt [⟨tg,iter,ifs,0⟩] scope pos) scope X.env _ (newList []) false (eval iter X.env) (some (assign (.Name x px) X.env))) _ _ s
 refine wpAny_bind (wpAny_mono (wpAny_comprehension_free (use:=some (assign (.Name x px) X.env)) (Q:=fun _ s'=>SP X pins D .next s') rfl hs (clo_ok I hc) hc.kind hc.loc
  (thn (hi pins s σ H _ I h) fun v s1 h1=>thn h1 fun itv s2 h2=>?_)) (fun _ s' hq=>wpAny_pure (wpAny_pure hq)) fun _ _ e=>e)
 obtain⟨it,fp,tn,J,H2,e,I2,T,st2,f2,hw⟩:=h2;subst e;refine lcomp_run (RR:=fun acc C=>compPost (model X.prog X.w) X.A X.xe (some (assign (.Name x px) X.env)) (fun _ s'=>SP X pins D .next s') acc C) hcalm hc hfr B I2 T st2 f2 (hw _ I2.fresh) ?_;intro C H' s' m q n I' f;show wpAny _ X.A (assign (.Name x px) X.env (.ref s2.heap.objs.size)) _ _ _;refine wpAny_assign_Name (store_ok2 I' hN hx (.inl hl) (v:=.ref s2.heap.objs.size) rfl (fun s'' I'' hch=>?_) (.inr hl));obtain⟨a,sb,ha⟩:=hch;have hCa:C≠a:=by
  rcases ha with ha | ha
  ·rw[ha];exact f.loc
  ·exact fun z=>f.cel x a ha z.symm
 exact⟨m,n.sameBut sb hCa,fun h' hs'=>⟨_,H',f.inv I'' hs',q⟩⟩
end
end L2
namespace L2
open PySem PySem.Spec PyProof.Rows
theorem dcomp_loop {prog:Program}{w:World}{A:Around}{R:Result→Shared→Prop}{s:Shared}{kx vx target iter:Expr}{ifs:List Expr}{scope:Scope}{pos:Pos}{it:Value}{D:Addr}{env:Env}(I:Nat→Shared→Prop)
  (turn:∀ n s,I n s→wpAny (model prog w) A (pyNext it) (fun r s₁=>match r with
   | none=>R (.ok .next) s₁
   | some v=>wpAny (model prog w) A (letOwnedTupleGo target it v) (fun _ s₁=>wpAny (model prog w) A (assign target env v) (fun _ s₂ =>
     wpAny (model prog w) A (forIn ifs true fun c r=>if r=true then do let ok ← isTrue c env (eval c env);pure (ForInStep.yield ok) else pure (ForInStep.yield r)) (fun ok s₃ =>
      if ok=true then wpAny (model prog w) A (eval kx env) (fun kv s₄=>wpAny (model prog w) A (eval vx env) (fun vv s₄ =>
       wpAny (model prog w) A (dictSet D kv vv) (fun _ s₅=>∃ m,m<n∧I m s₅) (fun _ _=>False) s₄) (fun _ _=>False) s₄) (fun _ _=>False) s₃
      else ∃ m,m<n∧I m s₃) (fun _ _=>False) s₂) (fun _ _=>False) s₁) (fun _ _=>False) s₁) (fun _ _=>False) s)
  (n:Nat) (h:I n s):codeAny (model prog w) A (.compLoop (.DictComp kx vx [⟨target,iter,ifs,0⟩] scope pos) 0 it (.ref D) env) R s:=by
 refine codeAny_loop rfl I (fun n s hI=>?_) n h;show wpAny _ A ((compTurn (.DictComp kx vx [⟨target,iter,ifs,0⟩] scope pos) 0 it (.ref D) env).onRaise (fun x=>do noteFrame x env;theTreesLotGoes x)) _ _ s;refine wpAny_noted ?_;rw[compTurn_dict];refine wpAny_bind (wpAny_standAt (wpAny_bind (wpAny_mono (turn n s hI) (fun r s₁ h₁=>?_) fun _ _ h'=>h'.elim)));cases r with
 | none=>exact wpAny_pure h₁
 | some v =>
  refine wpAny_bind (wpAny_mono h₁ (fun _ s₁ h₁=>?_) fun _ _ h'=>h'.elim);refine wpAny_bind (wpAny_mono h₁ (fun _ s₂ h₂=>wpAny_bind (wpAny_mono h₂ (fun ok s₃ h₃=>?_) fun _ _ h'=>h'.elim)) fun _ _ h'=>h'.elim);cases ok with
  | false=>exact wpAny_pure ⟨rfl,h₃⟩
  | true =>
   exact wpAny_bind (wpAny_bind (wpAny_mono h₃ (fun kv s₄ h₄=>wpAny_bind (wpAny_holding (wpAny_mono h₄ (fun vv s₅ h₅=>wpAny_bind (wpAny_standAt (wpAny_holding (wpAny_mono h₅ (fun _ s₆ h₆=>wpAny_pure ⟨rfl,h₆⟩) fun _ _ h'=>h'.elim)))) fun _ _ h'=>h'.elim))) fun _ _ h'=>h'.elim))
theorem d_dictSet {X:Cx}{pins:List (Addr×Obj)}{σ:St}{H:Hp}{s:Shared}{a:Addr}{y v:V}{u r:Value}{A:Around}{E:Value→Shared→Prop}{H':Hp}{Q:Unit→Shared→Prop}(hu:A.units+1<cLine)(I:Inv X pins σ H s)(g:DPut H a y v H')(ry:RelV y u)(rv:RelV v r)(h:∀ s',Inv X pins σ H' s'→Q () s') :
  wpAny (model X.prog X.w) A (dictSet a u r) Q E s:=by
 rcases g with ⟨kvs,k,e,ey,l,eH⟩ | ⟨kvs,k,b,e,ey,eb,l,eH⟩
 ·subst ey eH;obtain⟨z,hd,vs,rel,dd⟩:=dk_of I.hok e;have hz:vs.length≤sizeLine:=by rw[← rel.length];exact z
  have hl:(putK kvs k v).length≤sizeLine:=by have:=length_putK kvs k v;omega
  refine wpAny_dictSet_pairs (hsz:=hz) (kV_is ry) dd fun h' dd' hs=>h _ ?_
  have he:∃ q,h'.get? a=some q:=let ⟨q,_,_,hq,_⟩:=dd';⟨q,hq⟩;exact d_write I (by rw[e];exact True.intro) hs he (dk_new hl hd (rel.put k rv) dd')
 ·subst ey eH;cases (show u=Value.ref b from ry);obtain⟨z,hd,xs,rel,dd⟩:=dt_of I.hok e;have hz:xs.length≤sizeLine:=by rw[← Paired.length rel];exact z
  have hl:(putK kvs k v).length≤sizeLine:=by have:=length_putK kvs k v;omega
  refine wpAny_dictSet_heap (hsz:=hz) (show (tupleKind (mixKind X.prog X.w)).room A from Nat.lt_of_succ_lt hu) (key_of I.hok eb) dd fun h' dd' hs=>h _ ?_
  obtain⟨q,es,ep,hq,h2,h3,h4,_,h5⟩:=dd';refine d_write I (by rw[e];exact True.intro) hs ⟨q,hq⟩ ⟨hl,hd,_,(rel.put k eb rv).keeps fun c ys ec=>?_,q,es,ep,hq,h2,h3,h4,h5⟩;rw[upd_ne (ne_of ec e (fun z=>nomatch z))];exact ec
def dNew:Bool→HO
 | true=>.dT []
 | false=>.dK []
theorem dnew_ok {P:Program}{w:World}{H:Hp}(h:Heap)(hb:sysModules<h.objs.size):∀ t,ObjOk P w H (h.push {cls:=.type "dict",data:=.dict #[]}) h.objs.size (dNew t)
 | true=>dt_empty h hb
 | false=>dk_empty h hb
def dcW (g:TG)(tc:TT)(te tv:TE)(p:Addr)(J:It)(τ0:St)(H0:Hp)(E:Hp→Prop):Prop :=
 ∃ W:Nat→Nat→St→Hp→Prop,(∃ m,W 0 m τ0 H0)∧∀ i m τ H,W i m τ H →
  (J.stop i H∧E H)∨(J.go i H∧∃ N:St→Hp→Prop,(∀ τ' H',N τ' H'→∃ m',m'<m∧W (i+1) m' τ' H') ∧
   ∀ x H',J.yld i H x H'→g x τ H' fun τ2 H2=>tc τ2 H2 fun b H3=>if b=true then te τ2 H3 fun k H4=>tv τ2 H4 fun v H5=>∃ H6,DPut H5 p k v H6∧N τ2 H6 else N τ2 H3)
def tDC (t:Bool)(own:List Str)(fr:List (Str×Nat))(wi:TI)(g:TG)(tc:TT)(te tv:TE):TE:=fun σ H Q =>
 wi σ H fun J H1=>∀ p,H1 p=none→dcW g tc te tv p J (st0 own fr σ) (upd H1 p (dNew t)) fun H2=>Q (.ref p) H2
section
variable {X:Cx}{kx vx tg iter:Expr}{ifs:List Expr}{scope:Scope}{pos:Pos}{own:List Str}{fr:List (Str×Nat)}{wi:TI}{g:TG}{tc:TT}{te tv:TE}
structure BlkD (X:Cx)(scope:Scope)(N':List Str)(tg:Expr)(ifs:List Expr)(kx vx:Expr)(g:TG)(tc:TT)(te tv:TE):Prop where
 run:∀ pins fp s H,PG (cxC X scope N' pins fp s H) tg g∧PTs (cxC X scope N' pins fp s H) ifs tc∧PE (cxC X scope N' pins fp s H) kx te∧PE (cxC X scope N' pins fp s H) vx tv
theorem dcomp_run {pins:List (Addr×Obj)}{σ:St}{H2:Hp}{s2:Shared}{it:Addr}{fp:List Addr}{tn:Nat→Heap→Prop}{J:It}{EE:Hp→Prop}{RR:Value→Addr→Result→Shared→Prop}{E:Value→Shared→Prop}
  (t:Bool) (hu:X.A.units+1<cLine) (hcalm:X.calm=true) (hc:CompOk scope X.env.scope) (hfr:frOk X scope fr) (B:BlkD X scope (own++fr.map (·.1)) tg ifs kx vx g tc te tv)
  (I2:Inv X pins σ H2 s2) (T:Turn X.prog X.w X.K tg J fp it tn) (st2:tn 0 s2.heap) (f2:∀ b∈fp,FpOk X pins H2 b)
  (hw:dcW g tc te tv s2.heap.objs.size J (st0 own fr σ) (upd H2 s2.heap.objs.size (dNew t)) EE)
  (hRR:∀ C H' s' m,EE H'→s'.heap.Ns C m→Inv X pins σ H' s'→CFree X pins H' C→RR (.ref s2.heap.objs.size) C (.ok .next) s') :
  wpAny (model X.prog X.w) X.A newDict (fun acc s₃=>wpAny (model X.prog X.w) X.A (newFunctionEnv scope X.env.globals (clo X.env scope.names []) [] X.env.qual none .none (some X.env)) (fun cenv s₄ =>
   codeAny (model X.prog X.w) X.A (.compStart (.DictComp kx vx [⟨tg,iter,ifs,0⟩] scope pos) 0 (.ref it) acc {cenv with scope:=relabel scope X.env}) (RR acc cenv.locals) s₄) E s₃) E s2:=by
 have I3:Inv X pins σ (upd H2 s2.heap.objs.size (dNew t)) {s2 with heap:=s2.heap.push {cls:=.type "dict",data:=.dict #[]},toks:=s2.toks}:=I2.laid (t':=s2.toks) (fun _ _ q=>Heap.get?_push_of_some _ q) (Nat.le_refl _) (dnew_ok s2.heap I2.big t);generalize hs3:({s2 with heap:=s2.heap.push {cls:=.type "dict",data:=.dict #[]},toks:=s2.toks}:Shared)=s3 at I3;have hsz3:s3.heap.objs.size=s2.heap.objs.size+1:=by rw[← hs3];exact Heap.size_push ..
 have k3:∀ b o,s2.heap.get? b=some o→s3.heap.get? b=some o:=fun b o e=>by rw[← hs3];exact Heap.get?_push_of_some _ e
 have hlt:∀ b∈fp,b<s2.heap.objs.size:=fun b hb=>let ⟨o,e,_⟩:=T.obj _ _ st2 b hb;Heap.lt_size e
 have f3:∀ b∈fp,FpOk X pins (upd H2 s2.heap.objs.size (dNew t)) b:=fun b hb=>⟨by rw[upd_ne (Nat.ne_of_lt (hlt b hb))];exact (f2 b hb).1,(f2 b hb).2⟩
 have st3:tn 0 s3.heap:=T.keep _ _ _ st2 fun b _ o e=>k3 b o e
 refine wpAny_newObj_type ?_;have e3:({s2 with heap:=s2.heap.push {cls:=.type "dict",dict:=none,data:=.dict #[]}}:Shared)=s3:=hs3;rw[e3];refine wpAny_newFunctionEnv hc.noCell (by intro y hy;cases hy) (fun h₁ hns₁ hsb₁=>?_) hc.kind;have k4:∀ b o,s3.heap.get? b=some o→h₁.get? b=some o:=fun b o e=>hsb₁.extBut b o (Nat.ne_of_lt (Heap.lt_size e)) (Heap.get?_push_of_some _ e)
 have I4:=inv_comp (own:=own) I3 hc hcalm f3 (fun b hb=>Nat.lt_of_lt_of_le (hlt b hb) (by rw[hsz3];exact Nat.le_succ _)) hfr hns₁ k4;obtain⟨bg,bt,be,bv⟩:=B.run pins fp s3 (upd H2 s2.heap.objs.size (dNew t));generalize hX':cxC X scope (own++fr.map (·.1)) pins fp s3 (upd H2 s2.heap.objs.size (dNew t))=X' at I4 bg bt be bv;have eP:X'.prog=X.prog:=by rw[← hX'];rfl
 have eW:X'.w=X.w:=by rw[← hX'];rfl
 have eK:X'.K=X.K:=by rw[← hX'];rfl
 have eA:X'.A=X.A:=by rw[← hX'];rfl
 have eC:X'.calm=true:=by rw[← hX'];rfl
 have eX:X'.xe=fun _ _=>False:=by rw[← hX'];rfl
 have eE:X'.env=compEnvC scope (clo X.env scope.names []) s3.heap.objs.size X.env:=by rw[← hX'];rfl
 have fC:∀ {H':Hp},(∀ b∈fp,H' b=none)→∀ b∈fp,FpOk X' [] H' b:=fun hn b hb=>by
  have hb':=f3 b hb;refine⟨hn b hb,?_,?_,?_,?_,?_⟩
  ·exact (I4.ok.exf b (by rw[← hX'];exact hb)).1
  ·exact I4.ok.exfs b (by rw[← hX'];exact hb)
  ·left;rw[← hX'];exact hb
  ·exact (I4.ok.exf b (by rw[← hX'];exact hb)).2
  ·intro p hp;have hp:p∈X.pn++pins:=by
    rw[← hX'] at hp;rcases List.mem_append.mp hp with q | q
    ·exact q
    ·cases q
   exact hb'.2.2.2.2.2 p hp
 obtain⟨W,⟨m0,w0⟩,turn⟩:=hw;have cenvE:({(newEnv scope s3.heap.objs.size X.env.globals (clo X.env scope.names []) X.env.qual none .none (some X.env) builtinsNs) with scope:=relabel scope X.env}:Env)=X'.env:=by rw[eE];rfl
 have loop:∀ s4:Shared,Inv X' [] (st0 own fr σ) (upd H2 s2.heap.objs.size (dNew t)) s4→tn 0 s4.heap →
   codeAny (model X.prog X.w) X.A (.compLoop (.DictComp kx vx [⟨tg,iter,ifs,0⟩] scope pos) 0 (.ref it) (.ref s2.heap.objs.size) X'.env) (RR (.ref s2.heap.objs.size) s3.heap.objs.size) s4:=by
  intro s4 J4 t4;refine dcomp_loop (fun n s'=>∃ i τ H',Inv X' [] τ H' s'∧tn i s'.heap∧(∀ b∈fp,H' b=none)∧W i n τ H') ?_ m0 ⟨0,_,_,J4,t4,fun b hb=>(f3 b hb).1,w0⟩;rintro n s5 ⟨i,τ5,H5,I5,t5,fr5,w5⟩;rcases turn i n τ5 H5 w5 with ⟨stop,qn⟩ | ⟨go,N,hN,step⟩
  ·have hd:=T.done X' eP eW eK eC i [] s5 τ5 H5 (fun _ _=>False) I5 (fC fr5) t5 stop;rw[eA] at hd;refine thn hd fun r s6 ⟨hr,I6⟩=>?_
   subst hr;have hbase:Un (frs X.stack) fp (upd H2 s2.heap.objs.size (dNew t)) H5 s3.heap s6.heap:=by have:=I6.base;rw[← hX'] at this;exact this
   have hok6:HOk X.prog X.w H5 s6.heap:=by have:=I6.hok;rw[eP,eW] at this;exact this
   have os6:s6.os=s3.os:=by have:=I6.os;rw[← hX'] at this;exact this
   obtain⟨m6,n6,_⟩:=I6.loc;have n6:s6.heap.Ns s3.heap.objs.size m6:=by rw[eE] at n6;exact n6
   have free6:H5 s3.heap.objs.size=none:=by have:=I6.free;rw[eE] at this;exact this
   refine hRR s3.heap.objs.size H5 s6 m6 qn n6 (I3.call' os6 hbase hok6 I6.bare fun b hb=>⟨(f3 b hb).2.2.2.1,(f3 b hb).2.1,(f3 b hb).2.2.2.2.1,(f3 b hb).2.2.2.2.2⟩) ⟨free6,?_,I3.sz,?_,?_⟩
   ·exact (Nat.ne_of_lt I3.lt).symm
   ·intro x c e z;obtain⟨v,hv⟩:=I3.cell x c e;have:=hv.lt;rw[z] at this;exact Nat.lt_irrefl _ this
   ·intro p hp z;have:=Heap.lt_size (I3.pin p hp).1;rw[z] at this;exact Nat.lt_irrefl _ this
  ·have hi:=T.item X' eP eW eK eC i [] s5 τ5 H5 (fun _ _=>False) I5 (fC fr5) t5 go;rw[eA] at hi;refine thn hi fun r s6 ⟨u,hr,h6⟩=>?_
   subst hr;refine thn h6 fun _ s7 ⟨x,H7,I7,r7,y7,t7,fr7⟩=>?_
   have I7':=I7.pinned (fC fr7) (T.obj _ _ t7);have again:∀ {τ:St} {H':Hp} {s':Shared},Inv X' ([]++pinsAt fp s7.heap) τ H' s'→N τ H'→∃ m,m<n∧∃ i τ H',Inv X' [] τ H' s'∧tn i s'.heap∧(∀ b∈fp,H' b=none)∧W i m τ H':=fun {τ H' s'} I8 n8=>by
    obtain⟨m',hm,w8⟩:=hN τ H' n8;refine⟨m',hm,i+1,τ,H',I8.unpinned,T.keep _ _ _ t7 fun b hb o e=>(I8.pin (b,o) (List.mem_append_right _ (List.mem_append_right _ (mem_pinsAt hb e)))).1,fun b hb=>?_,w8⟩;obtain⟨o,e,d⟩:=T.obj _ _ t7 b hb;exact (I8.pin (b,o) (List.mem_append_right _ (List.mem_append_right _ (mem_pinsAt hb e)))).2.1
   have hg:=bg _ s7 τ5 H7 x u _ I7' r7 (step x H7 y7);rw[eP,eW,eA,eX] at hg;refine thn hg fun _ s8 ⟨τ8,H8,I8,q8⟩=>?_
   have ht:=bt _ s8 τ8 H8 _ I8 q8;rw[eP,eW,eA,eX] at ht;refine thn ht fun ok s9 ⟨H9,I9,q9⟩=>?_
   cases ok with
   | false=>exact again I9 q9
   | true =>
    rw[if_pos rfl] at q9 ⊢;have hv:=be _ s9 τ8 H9 _ I9 q9;rw[eP,eW,eA,eX] at hv;refine thn hv fun ky s10 ⟨kk,H10,I10,r10,q10⟩=>?_
    have hv:=bv _ s10 τ8 H10 _ I10 q10;rw[eP,eW,eA,eX] at hv;refine thn hv fun y s11 ⟨v,H11,I11,r11,H12,dp,n12⟩=>?_
    have ha:=d_dictSet (A:=X.A) (E:=fun _ _=>False) (Q:=fun _ s12=>Inv X' ([]++pinsAt fp s7.heap) τ8 H12 s12) hu I11 dp r10 r11 fun s12 I12=>I12
    rw[eP,eW] at ha;exact thn ha fun _ s12 I12=>again I12 n12
 have st4:tn 0 h₁:=T.keep _ _ _ st3 fun b _ o e=>k4 b o e
 show codeAny (model X.prog X.w) X.A (.compStart (.DictComp kx vx [⟨tg,iter,ifs,0⟩] scope pos) 0 (.ref it) (.ref s2.heap.objs.size) ({(newEnv scope s3.heap.objs.size X.env.globals (clo X.env scope.names []) X.env.qual none .none (some X.env) builtinsNs) with scope:=relabel scope X.env}:Env)) (RR (.ref s2.heap.objs.size) s3.heap.objs.size) _;rw[cenvE];exact codeAny_compStart_dict (loop _ I4 st4) (T.self X.A 0 _ _ _ st4 (loop _ I4 st4))
theorem ps_setDC {i:Nat}{x:Str}{px spos:Pos}(t:Bool)(hu:X.A.units+1<cLine)(hcalm:X.calm=true)(hN:X.N.Nodup)(hx:X.N[i]?=some x)(hl:X.env.scope.names.lookup x=some .local)(hsw:swapsWith (.DictComp kx vx [⟨tg,iter,ifs,0⟩] scope pos) (some (.Name x px)) spos.line X.env=pure true)
  (hc:compOk scope X.env.scope=true) (hfr:frOk X scope fr) (hi:PI X tg iter wi) (B:BlkD X scope (own++fr.map (·.1)) tg ifs kx vx g tc te tv)
  (hs:∀ x,foldedSetIterable iter X.env x=pure x:=by intro _;rfl):PS X (.Assign [.Name x px] (.DictComp kx vx [⟨tg,iter,ifs,0⟩] scope pos) spos) (tAsg (tDC t own fr wi g tc te tv) (gName i)):=by
 intro pins s σ H D I h;have hc:=compOk_of hc;rw[exec_Assign_Name_used _ _ _ _ hsw];refine wpAny_bind (wpAny_standAt (wpAny_bind ?_));show wpAny _ X.A (do let _ ← comprehension (.DictComp kx vx [⟨tg,iter,ifs,0⟩] scope pos) scope X.env _ newDict false (eval iter X.env) (some (assign (.Name x px) X.env))) _ _ s
 refine wpAny_bind (wpAny_mono (wpAny_comprehension_free (use:=some (assign (.Name x px) X.env)) (Q:=fun _ s'=>SP X pins D .next s') rfl hs (clo_ok I hc) hc.kind hc.loc
  (thn (hi pins s σ H _ I h) fun v s1 h1=>thn h1 fun itv s2 h2=>?_)) (fun _ s' hq=>wpAny_pure (wpAny_pure hq)) fun _ _ e=>e)
 obtain⟨it,fp,tn,J,H2,e,I2,T,st2,f2,hw⟩:=h2;subst e;refine dcomp_run (RR:=fun acc C=>compPost (model X.prog X.w) X.A X.xe (some (assign (.Name x px) X.env)) (fun _ s'=>SP X pins D .next s') acc C) t hu hcalm hc hfr B I2 T st2 f2 (hw _ I2.fresh) ?_;intro C H' s' m q n I' f;show wpAny _ X.A (assign (.Name x px) X.env (.ref s2.heap.objs.size)) _ _ _;refine wpAny_assign_Name (store_ok2 I' hN hx (.inl hl) (v:=.ref s2.heap.objs.size) rfl (fun s'' I'' hch=>?_) (.inr hl));obtain⟨a,sb,ha⟩:=hch;have hCa:C≠a:=by
  rcases ha with ha | ha
  ·rw[ha];exact f.loc
  ·exact fun z=>f.cel x a ha z.symm
 exact⟨m,n.sameBut sb hCa,fun h' hs'=>⟨_,H',f.inv I'' hs',q⟩⟩
end
end L2
end
section
namespace Srt
open PySem PyProof.Rows
section
variable {prog:Program}{w:World}{A:Around}{E:Value→Shared→Prop}{s:Shared}{O:KeyOrd}{key:Value→O.α}{knd:SortKind}
def Asks (prog:Program)(w:World)(A:Around)(O:KeyOrd)(key:Value→O.α)(knd:SortKind)(vs:List Value)(s:Shared):Prop :=
 (2≤vs.length→∀ (E:Value→Shared→Prop) (Q:SortKind→Shared→Prop),Q knd s→wpAny (model prog w) A (keyKind' vs.toArray) Q E s) ∧
 ∀ x∈vs,∀ y∈vs,∀ (E:Value→Shared→Prop) (Q:Bool→Shared→Prop),Q (O.blt (key x) (key y)) s→wpAny (model prog w) A (keyLt' knd x y) Q E s
theorem mem_pairs {vs:List Value}{p:Keyed}(h:p∈(pairsOf vs).toList):p.1∈vs∧p.1=p.2:=by
 rw[pairsOf_toList] at h;obtain⟨i,hi⟩:=List.mem_iff_getElem?.mp h;rw[List.getElem?_zip_eq_some] at hi;refine⟨List.mem_iff_getElem?.mpr ⟨i,hi.1⟩,?_⟩;have:=hi.1.symm.trans hi.2;exact Option.some.inj this
theorem cmp_of {vs:List Value}(h:Asks prog w A O key knd vs s):Ts.Cmp (model prog w) A E s knd O (fun p=>key p.1) (pairsOf vs):=by
 intro p hp q hq st Q hk hQ;rw[lt'_eq];refine wpS_bind (wpS_get ?_);rw[hk];refine wpS_bind (wpS_lift (wpAny_attempt (h.2 p.1 (mem_pairs hp).1 q.1 (mem_pairs hq).1 _ _ ⟨rfl,?_⟩)));exact wpS_pure hQ
theorem out_of {vs:List Value}{xs:Array Keyed}(hp:xs.Perm (pairsOf vs))(hs:Ts.Seg (O:=O) (fun p=>key p.1) xs 0 (pairsOf vs).size) :
  (xs.map (·.2)).toList.Perm vs∧(xs.map (·.2)).toList.Pairwise fun x y=>O.kle (key x) (key y):=by
 have hp':=Array.perm_iff_toList_perm.mp hp;have hsz:xs.size=(pairsOf vs).size:=hp.size_eq;rw[Array.toList_map];refine⟨?_,?_⟩
 ·refine (hp'.map _).trans ?_;rw[pairsOf_toList,show (vs.zip vs).map (·.2)=vs from List.map_snd_zip (Nat.le_refl _)]
 ·rw[List.pairwise_map];rw[← hsz] at hs;refine (Ts.pw_of_seg hs).imp_of_mem fun {a b} ha hb hab=>?_
  have e1:=(mem_pairs (hp'.mem_iff.mp ha)).2;have e2:=(mem_pairs (hp'.mem_iff.mp hb)).2;rw[← e1,← e2];exact hab
theorem list_sort_any {a:Addr}{vs:List Value}{n:Nat}{P:Fin→Shared→Prop}(ho:s.heap.get? a=some (seqObj "list" vs.toArray n))(h64:vs.length<64)
  (hA:∀ s':Shared,(∀ b o,b≠a→s.heap.get? b=some o→s'.heap.get? b=some o)→Asks prog w A O key knd vs s')
  (h:∀ out:Array Value,out.toList.Perm vs→(out.toList.Pairwise fun x y=>O.kle (key x) (key y))→P (.done (.ret .none)) {s with heap:=sortedHeap s.heap a vs out}) :
  wpAny (model prog w) A (Builtin.«list.sort» ⟨[.ref a],[]⟩) P E s:=by
 rw[list_sort_plain];have hz:vs.length≤sizeLine:=Nat.le_trans (Nat.le_of_lt h64) (by decide);have ha:a<s.heap.objs.size:=Heap.lt_size ho;have hsz:vs.toArray.size=vs.length:=by simp
 refine wpAny_bind (listItems_at ho rfl ?_);refine wpAny_bind (listUpdate_at ho rfl ?_ (hsz:=by rw[hsz];exact hz));obtain⟨e1,ho1⟩:∃ e1,(s.heap.update a (Obj.mapSeq fun _=>#[])).get? a=some (seqObj "list" #[] e1):=⟨_,get?_update_seq ho (fun _=>#[])⟩
 refine wpAny_bind (seqEpoch_at ho1 rfl ?_);refine wpAny_bind (wpAny_newTuple ?_ (by simpa using hz));refine wpAny_bind (wpAny_newList ?_);refine wpAny_holding ?_;have ho6:(((s.heap.update a (Obj.mapSeq fun _=>#[])).push (seqObj "tuple" vs.toArray 0)).push (seqObj "list" #[] 0)).get? a=some (seqObj "list" #[] e1):=by
  rw[Heap.get?_push_ne _ _ _ (by rw[size_push',Heap.size_update];exact Nat.ne_of_lt (Nat.lt_succ_of_lt ha)),Heap.get?_push_ne _ _ _ (by rw[Heap.size_update];exact Nat.ne_of_lt ha)];exact ho1
 have keep:∀ b o,b≠a→s.heap.get? b=some o→(((s.heap.update a (Obj.mapSeq fun _=>#[])).push (seqObj "tuple" vs.toArray 0)).push (seqObj "list" #[] 0)).get? b=some o:=fun b o hb e =>
  Heap.get?_push_of_some _ (Heap.get?_push_of_some _ ((Heap.SameBut.update ..).extBut b o hb e))
 show wpAny (model prog w) A _ P E {s with heap:=((s.heap.update a (Obj.mapSeq fun _=>#[])).push (seqObj "tuple" vs.toArray 0)).push (seqObj "list" #[] 0)};dsimp only;have hA':=hA {s with heap:=((s.heap.update a (Obj.mapSeq fun _=>#[])).push (seqObj "tuple" vs.toArray 0)).push (seqObj "list" #[] 0)} keep;by_cases h2:vs.toArray.size<2
 ·rw[if_pos h2,if_pos h2];refine wpAny_bind (wpAny_pure ?_);rw[StateT.run_pure];refine wpAny_bind (wpAny_pure ?_);dsimp only;refine wpAny_bind (seqEpoch_at ho6 rfl ?_);refine wpAny_bind (listUpdate_at ho6 rfl ?_ (hsz2:=by rw[Array.size_map];show (pairsOf vs).size≤_;rw[pairsOf_size];omega));simp only[bne_self_eq_false,Bool.false_eq_true,if_false]
  have o:=out_of (O:=O) (key:=key) (vs:=vs) (Array.Perm.refl _) (fun i j h0 hij hj=>by
   rw[pairsOf_size] at hj;have:i=j:=by omega
   subst this;exact KeyOrd.kle_refl _)
  exact wpAny_pure (h _ o.1 o.2)
 ·rw[if_neg h2,if_neg h2];refine wpAny_bind (hA'.1 (by omega) _ _ ?_)
  refine wpAny_bind (wpAny_mono (Ts.wpS_sRs (O:=O) (key:=fun p=>key p.1) (a₀:=pairsOf vs) (knd:=knd) (st:=SortSt.mk' knd (vs.toArray.zip vs.toArray) #[] 7 none)
   (Q:=fun _ st'=>(arrOf st').Perm (pairsOf vs)∧failedOf st'=none∧Ts.Seg (O:=O) (fun p=>key p.1) (arrOf st') 0 (pairsOf vs).size)
   (cmp_of hA') ⟨Array.Perm.refl _,rfl,rfl⟩ rfl (by rw[pairsOf_size];omega) (by rw[pairsOf_size];exact h64) fun st' hB hS=>⟨hB.perm,hB.failed,hS⟩) ?_ fun _ _ e=>e)
  rintro⟨⟨⟩,st'⟩ s' ⟨rfl,hp,hf,hs⟩;dsimp only;refine wpAny_bind (seqEpoch_at ho6 rfl ?_);refine wpAny_bind (listUpdate_at ho6 rfl ?_ (hsz2:=by refine Nat.le_trans (Nat.le_of_eq ((Array.size_map ..).trans (hp.size_eq.trans (pairsOf_size _)))) ?_;omega));rw[hf];simp only[bne_self_eq_false,Bool.false_eq_true,if_false];have o:=out_of hp hs;exact wpAny_pure (h _ o.1 o.2)
def Coll (prog:Program)(w:World)(A:Around)(r:Addr)(s:Shared)(C:List Value→Prop):Prop :=
 ∀ (E:Value→Shared→Prop) (R:List Value→Shared→Prop),(∀ (h':Heap) (tk:Nat) (vs:List Value),(∀ b o,s.heap.get? b=some o→h'.get? b=some o)→C vs→R vs {s with heap:=h',toks:=tk})→wpAny (model prog w) A (collect (.ref r)) R E s
theorem sorted_any {r:Addr}{C:List Value→Prop}{Q:Value→Shared→Prop}(hc:Coll prog w A.in1 r s C)(hz:∀ vs,C vs→vs.length<64)
  (hA:∀ (vs:List Value) (s':Shared),C vs→(∀ b o,s.heap.get? b=some o→s'.heap.get? b=some o)→Asks prog w A.in1.in1 O key knd vs s')
  (h:∀ (vs out:List Value) (h1 h':Heap) (tk n:Nat),C vs→out.Perm vs→(out.Pairwise fun x y=>O.kle (key x) (key y))→(∀ b o,s.heap.get? b=some o→h1.get? b=some o)→(∀ b o,h1.get? b=some o→h'.get? b=some o) →
   h'.get? h1.objs.size=some (seqObj "list" out.toArray n)→Q (.ref h1.objs.size) {s with heap:=h',toks:=tk}):wpAny (model prog w) A (call (.builtin "sorted") [.ref r]) Q E s:=by
 refine Calls.call_function_entry kind_sorted plain_sorted entry_sorted (args_sorted1 _) ?_;unfold Builtin.«sorted»;refine wpAny_bind (m:=checkCount "sorted" 1 1 _) (wpAny_pure ?_);refine wpAny_bind (hc _ _ fun h1 tk vs hk hC=>?_);refine wpAny_bind (wpAny_newList ?_ (by simpa using Nat.le_trans (Nat.le_of_lt (hz vs hC)) (by decide)));have hoL:(h1.push (seqObj "list" vs.toArray 0)).get? h1.objs.size=some (seqObj "list" vs.toArray 0):=Heap.get?_push_size _ rfl;refine wpAny_bind (wpAny_holding (wpAny_call_entry slot_list_sort ⟨_,hoL,rfl⟩ entry_list_sort (list_sort_any (O:=O) (key:=key) (knd:=knd) hoL (hz vs hC) (fun s' hs'=>hA vs s' hC fun b o e=>?_) fun out hp hs=>⟨_,rfl,?_⟩) (args_list_sort _)))
 ·exact hs' b o (Nat.ne_of_lt (Heap.lt_size (hk b o e))) (Heap.get?_push_of_some _ (hk b o e))
 ·refine wpAny_pure ⟨_,rfl,?_⟩;obtain⟨n',hn'⟩:∃ n',(sortedHeap (h1.push (seqObj "list" vs.toArray 0)) h1.objs.size vs out).get? h1.objs.size=some (seqObj "list" out n'):=by
   first | exact sortedHeap_at hoL | exact⟨_,sortedHeap_at hoL⟩
  refine h vs out.toList h1 _ tk n' hC hp hs hk (fun b o e=>?_) ?_
  ·have hb:b≠h1.objs.size:=Nat.ne_of_lt (Heap.lt_size e);have hlt:b<(h1.push (seqObj "list" vs.toArray 0)).objs.size:=by rw[size_push'];exact Nat.lt_succ_of_lt (Heap.lt_size e)
   rw[sortedHeap_old hb hlt];exact Heap.get?_push_of_some _ e
  ·rw[Array.toArray_toList];exact hn'
def intOrd:KeyOrd where
 α:=Int
 blt:=fun a b=>decide (a<b)
 irrefl:=fun a=>by simp
 trans:=fun a b c h1 h2=>by simp at *;omega
 negTrans:=fun a b c h=>by simp at *;omega
 total:=fun a b h1 h2=>by simp at *;omega
def intKey:Value→Int
 | .int i _=>i
 | _=>0
theorem lex_irrefl:∀ a:List Int,HT.lexLt a a=false
 | []=>rfl
 | x::r=>by rw[HT.lexLt_cons,if_pos rfl];exact lex_irrefl r
theorem lex_trans:∀ a b c:List Int,HT.lexLt a b=true→HT.lexLt b c=true→HT.lexLt a c=true
 | [],[],_,h,_=>by cases h
 | [],_::_,[],_,h=>by cases h
 | [],_::_,_::_,_,_=>rfl
 | _::_,[],_,h,_=>by cases h
 | _::_,_::_,[],_,h=>by cases h
 | x::a,y::b,z::c,h1,h2=>by
  rw[HT.lexLt_cons] at h1 h2 ⊢;by_cases e1:x=y
  ·rw[if_pos e1] at h1;subst e1;by_cases e2:x=z
   ·rw[if_pos e2] at h2 ⊢;exact lex_trans a b c h1 h2
   ·rw[if_neg e2] at h2 ⊢;exact h2
  ·rw[if_neg e1] at h1;by_cases e2:y=z
   ·rw[if_pos e2] at h2;subst e2;rw[if_neg e1];exact h1
   ·rw[if_neg e2] at h2;simp at h1 h2;rw[if_neg (by omega)];simp;omega
theorem lex_total:∀ a b:List Int,HT.lexLt a b=false→HT.lexLt b a=false→a=b
 | [],[],_,_=>rfl
 | [],_::_,h,_=>by cases h
 | _::_,[],_,h=>by cases h
 | x::a,y::b,h1,h2=>by
  rw[HT.lexLt_cons] at h1 h2;by_cases e:x=y
  ·subst e;rw[if_pos rfl] at h1 h2;rw[lex_total a b h1 h2]
  ·rw[if_neg e] at h1;rw[if_neg (fun z=>e z.symm)] at h2;simp at h1 h2;omega
def lexOrd:KeyOrd where
 α:=List Int
 blt:=HT.lexLt
 irrefl:=lex_irrefl
 trans:=lex_trans
 negTrans:=fun a b c h=>by
  cases h1:HT.lexLt a b with
  | true=>exact .inl rfl
  | false =>
   right;cases h2:HT.lexLt b a with
   | true=>exact lex_trans b a c h2 h
   | false=>rw[← lex_total a b h1 h2];exact h
 total:=lex_total
theorem asks_ints {vs:List Value}{ns:List Int}(hI:IntsAre vs ns):Asks prog w A intOrd intKey oneType' vs s:=by
 refine⟨fun h2 E Q hq=>?_,fun x hx y hy E Q hq=>?_⟩
 ·match vs,h2,hI with
  | v₁::v₂::rest,_,hI=>rw[keyKind_ints hI];exact wpAny_pure hq
 ·have key:∀ {vs:List Value} {ns:List Int},IntsAre vs ns→∀ x∈vs,∃ i t,x=Value.int i t:=by
   intro vs ns h;induction h with
   | nil=>intro x hx;cases hx
   | cons n t _ ih =>
    intro x hx;rcases List.mem_cons.mp hx with rfl | hx
    ·exact⟨n,t,rfl⟩
    ·exact ih x hx
  obtain⟨i,t,rfl⟩:=key hI x hx;obtain⟨j,u,rfl⟩:=key hI y hy;exact PySem.W.kat_lt_int hq
end
end Srt
namespace Srt
open PySem PyProof.Rows PySem.W
section
variable {prog:Program}{w:World}{A:Around}{E:Value→Shared→Prop}{s:Shared}
def TupInts (h:Heap)(v:Value)(ks:List Int):Prop:=∃ a o items n,v=.ref a∧h.get? a=some o∧o.cls=.type "tuple"∧o.data=.seq items n∧IntsAre items.toList ks∧ks≠[]
theorem TupInts.keep {h h':Heap}{v:Value}{ks:List Int}(t:TupInts h v ks)(k:∀ b o,h.get? b=some o→h'.get? b=some o):TupInts h' v ks :=
 let ⟨a,o,items,n,e,ho,r⟩:=t;⟨a,o,items,n,e,k _ _ ho,r⟩
def tupKey (h:Heap):Value→List Int
 | .ref a=>match h.get? a with
  | some o=>match o.data with
   | .seq items _=>items.toList.map intKey
   | _=>[]
  | none=>[]
 | _=>[]
theorem intKeys_of {us:List Value}{ns:List Int}(h:IntsAre us ns):us.map intKey=ns:=by
 induction h with
 | nil=>rfl
 | cons n t _ ih=>rw[List.map_cons,ih];rfl
theorem tupKey_of {h:Heap}{v:Value}{ks:List Int}(t:TupInts h v ks):tupKey h v=ks:=by
 obtain⟨a,o,items,n,rfl,ho,hc,hd,hi,_⟩:=t;simp only[tupKey,ho,hd];exact intKeys_of hi
theorem katlex_ints {b fin:Bool}{Q:Bool→Shared→Prop}:∀ {us:List Value} {ns:List Int} {ws:List Value} {ms:List Int} (i:Nat),IntsAre us ns→IntsAre ws ms→fin=decide (us.length<ws.length)→Q (HT.lexLt ns ms) s →
  KatLex prog w A b fin Q (us.zip ws) i s
 | _,_,_,_,_,.nil,.nil,hf,hq=>by subst hf;exact hq
 | _,_,_,_,_,.nil,.cons m u h,hf,hq=>by
  subst hf;show Q (decide (0<_)) s;rw[List.length_cons,decide_eq_true (Nat.succ_pos _)];exact hq
 | _,_,_,_,_,.cons m u h,.nil,hf,hq=>by
  subst hf;show Q (decide (_<0)) s;rw[decide_eq_false (Nat.not_lt_zero _)];exact hq
 | _,_,_,_,i,.cons n t h,.cons m u k,hf,hq=>by
  rw[List.zip_cons_cons];refine kat_cons (wpAny_eqBool_int ?_);rw[HT.lexLt_cons] at hq;by_cases e:n=m
  ·rw[if_pos e] at hq;have eb:(n == m)=true:=beq_iff_eq.mpr e;rw[eb];exact kat_yes (katlex_ints (i+1) h k (by rw[hf,List.length_cons,List.length_cons];simp) hq)
  ·rw[if_neg e] at hq;have eb:(n == m)=false:=beq_eq_false_iff_ne.mpr e;rw[eb];refine kat_no ?_;cases hb:(b && i == 0) with
   | true=>exact oneLt_int hq
   | false=>exact kat_one _ _ (PyProof.Rows.lt_int hq)
theorem katTups_of {h:Heap}:∀ {vs:List Value},(∀ v∈vs,∃ ks,TupInts h v ks)→∃ fs,KatTups h vs fs∧fs.length=vs.length∧∀ f∈fs,∃ i t,f=Value.int i t
 | [],_=>⟨[],.nil,rfl,fun f hf=>nomatch hf⟩
 | v::vs,hv=>by
  obtain⟨fs,k,hl,hf⟩:=katTups_of (vs:=vs) fun u hu=>hv u (List.mem_cons_of_mem _ hu)
  obtain⟨ks,a,o,items,n,rfl,ho,hc,hd,hi,hne⟩:=hv v List.mem_cons_self;obtain⟨i,t,r,e⟩:∃ i t r,items.toList=Value.int i t::r:=by
   generalize items.toList=l at hi;cases hi with
   | nil=>exact absurd rfl hne
   | cons n t _=>exact⟨n,t,_,rfl⟩
  refine⟨.int i t::fs,.cons ho hc hd ?_ k,by rw[List.length_cons,List.length_cons,hl],fun f hf'=>?_⟩
  ·rw[← Array.getElem?_toList,e];rfl
  ·rcases List.mem_cons.mp hf' with rfl | q
   ·exact⟨i,t,rfl⟩
   ·exact hf f q
theorem asks_tups {h:Heap}{vs:List Value}(hv:∀ v∈vs,∃ ks,TupInts h v ks)(hk:∀ b o,h.get? b=some o→s.heap.get? b=some o):Asks prog w A lexOrd (tupKey h) (tuples' true) vs s:=by
 refine⟨fun h2 E Q hq=>?_,fun x hx y hy E Q hq=>?_⟩
 ·obtain⟨fs,kt,hl,hf⟩:=katTups_of (h:=s.heap) (vs:=vs) fun v hm=>let ⟨ks,t⟩:=hv v hm;⟨ks,t.keep hk⟩
  refine kat_kind (T:=.type "int") kt (by omega) (fun f hm=>?_) (by decide) hq;obtain⟨i,t,rfl⟩:=hf f hm;exact .now
 ·obtain⟨ks,tx⟩:=hv x hx;obtain⟨ms,ty⟩:=hv y hy;rw[tupKey_of tx,tupKey_of ty] at hq;obtain⟨a,o,items,n,rfl,ho,hc,hd,hi,_⟩:=tx.keep hk;obtain⟨a',o',items',n',rfl,ho',hc',hd',hi',_⟩:=ty.keep hk;exact kat_lt ho hd ho' hd' (katlex_ints 0 hi hi' (by simp) hq)
theorem coll_seq {l:Addr}{o:Obj}{c:String}{vs:List Value}{n:Nat}(ho:s.heap.get? l=some o)(hcl:o.cls=.type c)(hcc:c="list"∨c="tuple")(hd:o.data=.seq vs.toArray n)(hsz:vs.length≤sizeLine) :
  Coll prog w A l s fun us=>us=vs:=by
 intro E R h;unfold collect;refine wpAny_bind (wpAny_runValue (codeAny_builtin entry_proto_collect' ?_));show wpAny _ _ (newList [] >>= fun x=>again (.builtin "list.__iadd__" ⟨[x,.ref l],[]⟩)) _ _ s;refine wpAny_bind (wpAny_newList (wpAny_pure ⟨Code.quiet_builtin _ (by decide +kernel),codeAny_builtin entry_list_iadd' ?_⟩));show wpAny _ _ (Builtin.List.listExtendWith (.ref s.heap.objs.size) (.ref l) (.ref s.heap.objs.size)) _ _ {s with heap:=s.heap.push (seqObj "list" #[] 0)};unfold Builtin.List.listExtendWith;have ho':(s.heap.push (seqObj "list" #[] 0)).get? l=some o:=Heap.get?_push_of_some _ ho;refine wpAny_bind (wpAny_typeOf (T:=c) ⟨o,ho',hcl⟩ ?_);have ht:(Builtin.List.listSameRef (.ref s.heap.objs.size) (.ref l) || (Value.type c == Value.type "list") || (Value.type c == Value.type "tuple"))=true:=by
  rcases hcc with rfl | rfl
  ·rw[show (Value.type "list" == Value.type "list")=true from rfl];simp
  ·rw[show (Value.type "tuple" == Value.type "tuple")=true from rfl];simp
 rw[if_pos ht];refine wpAny_bind (listItems_at ho' hd ?_);refine wpAny_bind (listItems_at (xs:=#[]) (n:=0) (Heap.get?_push_size _ rfl) rfl ?_);rw[if_neg (by simp)];refine wpAny_bind (listUpdate_at (xs:=#[]) (n:=0) (Heap.get?_push_size _ rfl) rfl ?_ (Nat.zero_le _) (by show (#[]++vs.toArray).size≤sizeLine+1;simp only[Array.size_append,List.size_toArray,List.length_nil];omega));refine wpAny_pure ?_
 show wpAny (model prog w) A (do
   let q ← load s.heap.objs.size
   match q.data with
   | .seq xs _=>pure xs.toList
   | _=>unsupported "internal:collect") R E {s with heap:=(s.heap.push (seqObj "list" #[] 0)).update s.heap.objs.size (Obj.mapSeq (·++vs.toArray))}
 refine wpAny_bind (wpAny_load (get?_update_seq (Heap.get?_push_size _ rfl) _) ?_);show wpAny _ _ (pure ((#[]:Array Value)++vs.toArray).toList) R E _;rw[show ((#[]:Array Value)++vs.toArray).toList=vs by simp];exact wpAny_pure (h _ s.toks vs (fun b o e=>(Heap.SameBut.update ..).extBut b o (Nat.ne_of_lt (Heap.lt_size e)) (Heap.get?_push_of_some _ e)) rfl)
end
end Srt
namespace Srt
open PySem PyProof.Rows PySem.W
section
variable {prog:Program}{w:World}{A:Around}{E:Value→Shared→Prop}{s:Shared}
def RawD (h:Heap)(d:Addr)(es:Array DictEntry)(ep:Nat):Prop:=∃ o,h.get? d=some o∧o.ExactDict∧o.data=.dict es ep
theorem RawD.typeIs {d:Addr}{es:Array DictEntry}{ep:Nat}(r:RawD s.heap d es ep):s.TypeIs (.ref d) "dict":=let ⟨o,ho,hx,_⟩:=r;⟨o,ho,hx.1⟩
theorem RawD.keep {h h':Heap}{d:Addr}{es:Array DictEntry}{ep:Nat}(r:RawD h d es ep)(k:∀ o,h.get? d=some o→h'.get? d=some o):RawD h' d es ep:=let ⟨o,ho,q⟩:=r;⟨o,k _ ho,q⟩
theorem raw_iter {d:Addr}{es:Array DictEntry}{ep:Nat}{Q:Value→Shared→Prop}(hd:(d == sysModules)=false)(r:RawD s.heap d es ep)
  (hQ:Q (.ref s.heap.objs.size) {s with heap:=s.heap.push {cls:=.type "dict_keyiterator",data:=.fields #[.ref d,.int 0 0,.int es.size 0,.int ep 0]}}) :
  wpAny (model prog w) A (pyIter (.ref d)) Q E s:=by
 obtain⟨o,ho,hx,hdat⟩:=id r;have hT:=r.typeIs;refine wpAny_pyIter_slot hT F.slot_dict_iter (wpAny_call_entry F.slot_dict_iter hT F.entry_dict_iter ?_ (F.args_dict_iter_1 _));unfold Builtin.«dict.__iter__»;refine wpAny_bind ?_;unfold Builtin.Dict.dictSlotNone;refine wpAny_bind (wpAny_notOrdered_dict hT (wpAny_pure ?_));show wpAny _ _ (Builtin.Dict.showsAll d >>= _) _ _ s;unfold Builtin.Dict.showsAll;rw[if_neg (by rw[hd];exact Bool.false_ne_true)];refine wpAny_bind (wpAny_pure (wpAny_bind (wpAny_dictEntries ho hdat (wpAny_bind (wpAny_dictEpoch ho hdat ?_)))));refine wpAny_bind (wpAny_newObj_type (wpAny_pure ⟨_,rfl, "dict_keyiterator",_,⟨_,Heap.get?_push_size _ rfl,rfl⟩,F.slot_dict_keyiterator_next.lookup,?_⟩));simpa [rawInt] using hQ
theorem raw_next {it d:Addr}{i ep:Nat}{es:Array DictEntry}{Q:Option Value→Shared→Prop}(hit:s.heap.IsKeyIter it d i es.size ep)(r:RawD s.heap d es ep)(hlt:i<es.size)
  (hQ:∀ h',h'.IsKeyIter it d (i+1) es.size ep→Heap.SameBut it s.heap h'→Q (some es[i].key) {s with heap:=h'}):wpAny (model prog w) A (pyNext (.ref it)) Q E s:=by
 obtain⟨o,ho,hc,hd⟩:=id hit;obtain⟨od,hod,hcd,hdd⟩:=id r;unfold pyNext
 refine wpAny_bind (wpAny_attempt (wpAny_callSpecial?_slot (name:=Str.ofString "__next__") hit.typeIs F.slot_dict_keyiterator_next
  (wpAny_call_entry F.slot_dict_keyiterator_next hit.typeIs F.entry_dict_keyiterator_next ?_ (F.args_dict_keyiterator_next_1 _))))
 refine wpAny_bind (wpAny_pure (wpAny_bind (wpAny_bind ?_)));first | refine wpAny_bind (wpAny_typeNameOfWhole_keyiter hit.typeIs (wpAny_pure ?_)) | refine wpAny_bind (wpAny_typeNameOf_keyiter hit.typeIs (wpAny_pure ?_))
 refine wpAny_bind (wpAny_fieldsOf ho hd ?_);have hown:Builtin.Dict_items.ownsTuple "dict_keyiterator"=false:=by decide
 simp only[hown,Bool.false_eq_true,if_false];show wpAny _ _ (if (Value.ref d == Value.none)=true then _ else _) _ _ s;rw[if_neg (show ¬ ((Value.ref d == Value.none)=true) from Bool.false_ne_true)];refine wpAny_bind (wpAny_pure (wpAny_bind (wpAny_dictEntries hod hdd ?_)));rw[if_neg (by simp)];refine wpAny_bind (wpAny_pure (wpAny_bind (wpAny_dictEpoch hod hdd ?_)));rw[if_neg (by simp)];refine wpAny_pure ?_;simp only[show ¬ ((i:Int)<0) from by omega,if_false,Int.toNat_natCast,Array.getElem?_eq_getElem hlt];refine wpAny_bind ?_;first | refine wpAny_bind (wpAny_typeNameOfWhole_keyiter hit.typeIs (wpAny_pure ?_)) | refine wpAny_bind (wpAny_typeNameOf_keyiter hit.typeIs (wpAny_pure ?_))
 refine wpAny_bind (wpAny_isOneOf_keyiter hit.typeIs ?_);show wpAny _ _ (setField (.ref it) 1 (rawInt ((i:Int)+1)) >>= _) _ _ s;refine wpAny_bind (wpAny_setField ho hd (by simp) ?_);have hit':(s.heap.update it (Obj.mapFields (·.setIfInBounds 1 (rawInt ((i:Int)+1))))).IsKeyIter it d (i+1) es.size ep :=
  ⟨_,Heap.get?_update_self _ ho (Obj.isFreed_of_fields (Obj.data_mapFields hd _)),(Obj.cls_mapFields ..).trans hc,by rw[Obj.data_mapFields hd];simp[rawInt]⟩
 refine wpAny_bind (wpAny_holding ?_);refine wpAny_bind (wpAny_isOneOf_keyiter (s:={s with heap:=s.heap.update it (Obj.mapFields (·.setIfInBounds 1 (rawInt ((i:Int)+1))))}) hit'.typeIs ?_);show wpAny _ _ (pure es[i].key) _ _ _;exact wpAny_pure (wpAny_pure ⟨_,rfl,wpAny_pure (hQ _ hit' (Heap.SameBut.update ..))⟩)
theorem raw_end {it d:Addr}{i ep:Nat}{es:Array DictEntry}{Q:Option Value→Shared→Prop}(hh:A.handled=none)(hit:s.heap.IsKeyIter it d i es.size ep)(r:RawD s.heap d es ep)(hge:es.size≤i)
  (hQ:∀ h',Heap.ExtBut it s.heap h'→Q none {s with heap:=h'}):wpAny (model prog w) A (pyNext (.ref it)) Q E s:=by
 obtain⟨o,ho,hc,hd⟩:=id hit;obtain⟨od,hod,hcd,hdd⟩:=id r;unfold pyNext
 refine wpAny_bind (wpAny_attempt (wpAny_callSpecial?_slot (name:=Str.ofString "__next__") hit.typeIs F.slot_dict_keyiterator_next
  (wpAny_call_entry F.slot_dict_keyiterator_next hit.typeIs F.entry_dict_keyiterator_next ?_ (F.args_dict_keyiterator_next_1 _))))
 refine wpAny_bind (wpAny_pure (wpAny_bind (wpAny_bind ?_)));first | refine wpAny_bind (wpAny_typeNameOfWhole_keyiter hit.typeIs (wpAny_pure ?_)) | refine wpAny_bind (wpAny_typeNameOf_keyiter hit.typeIs (wpAny_pure ?_))
 refine wpAny_bind (wpAny_fieldsOf ho hd ?_);have hown:Builtin.Dict_items.ownsTuple "dict_keyiterator"=false:=by decide
 simp only[hown,Bool.false_eq_true,if_false];show wpAny _ _ (if (Value.ref d == Value.none)=true then _ else _) _ _ s;rw[if_neg (show ¬ ((Value.ref d == Value.none)=true) from Bool.false_ne_true)];refine wpAny_bind (wpAny_pure (wpAny_bind (wpAny_dictEntries hod hdd ?_)));rw[if_neg (by simp)];refine wpAny_bind (wpAny_pure (wpAny_bind (wpAny_dictEpoch hod hdd ?_)));rw[if_neg (by simp)];refine wpAny_pure ?_;simp only[show ¬ ((i:Int)<0) from by omega,if_false,Int.toNat_natCast,Array.getElem?_eq_none hge];refine wpAny_bind ?_;first | refine wpAny_bind (wpAny_typeNameOfWhole_keyiter hit.typeIs (wpAny_pure ?_)) | refine wpAny_bind (wpAny_typeNameOf_keyiter hit.typeIs (wpAny_pure ?_))
 show wpAny _ _ (setField (.ref it) 0 .none >>= _) _ _ s;refine wpAny_bind (wpAny_setField ho hd (by simp) ?_);show wpAny _ _ (newExc (.type "StopIteration") [] >>= _) _ _ _;refine wpAny_bind ?_;simp only[newExc,newTuple];refine wpAny_bind (wpAny_newObj_type ?_ (by size_fits));refine wpAny_bind (m:=firstArgMember _ _) (wpAny_of_eq (a:=Value.none) (by first | rfl | (simp only[firstArgMember];rfl)) ?_);refine wpAny_newObj_type ?_ (by size_fits);simp only[raiseNew];refine wpAny_bind (wpAny_handled ?_);rw[show A.in1.handled=none from hh];refine wpAny_bind (wpAny_pure (wpAny_throw ?_));refine wpAny_bind (wpAny_isInstance (T:="StopIteration") (b:=true) ⟨_,Heap.get?_push_size _ rfl,rfl⟩ isSubtype_stop ?_);exact wpAny_pure (hQ _ (((Heap.SameBut.update ..).extBut.push _).push _))
theorem raw_walks (hh:A.handled=none)(I d:Addr)(hne:d≠I)(es:Array DictEntry)(ep:Nat) :
  Walks prog w A I [I,d] [I] es.size (fun i v=>∃ e,es[i]?=some e∧e.key=v) (fun i h=>h.IsKeyIter I d i es.size ep∧RawD h d es ep) where
 sub:=fun b hb=>by simp at hb;simp[hb]
 frame:=fun _ _ _ st hk=>⟨st.1.at fun o e=>hk I (by simp) o e,st.2.keep fun o e=>hk d (by simp) o e⟩
 item:=fun i s Q E hi st hQ=>by
  refine raw_next st.1 st.2 hi fun h' hit' hs'=>?_
  exact hQ es[i].key h' s.toks ⟨es[i],by simp[hi],rfl⟩ ⟨hit',st.2.keep fun o e=>hs'.extBut d o hne e⟩ fun b o hb e=>hs'.extBut b o (fun h=>hb (by simp[h])) e
 done:=fun s Q E st hQ=>raw_end hh st.1 st.2 (Nat.le_refl _) fun h' he'=>hQ h' s.toks fun b o hb e=>he' b o (fun h=>hb (by simp[h])) e
 self:=fun _ _ _ _ st hQ=>wpAny_pyIter_keyiter st.1 hQ
theorem raw_src {d:Addr}{es:Array DictEntry}{ep:Nat}(lo:(d == sysModules)=false):KdlSrc prog w "dict" d d es.size (fun i v=>∃ e,es[i]?=some e∧e.key=v) (fun h=>RawD h d es ep) where
 type:=fun _ hm=>hm.typeIs
 there:=fun _ hm=>let ⟨_,ho,_⟩:=hm;⟨Heap.lt_size ho,Heap.lt_size ho⟩
 keep:=fun _ _ hm hk=>hm.keep fun o e=>hk d (.inl rfl) o e
 notList:=by decide
 notTuple:=by decide
 hint:=fun _ _ _ _ hm hq=>kdl_hint_dict hm.typeIs hq
 iter:=fun _ _ hh hm=>⟨_,_,(fun _ _ hq=>raw_iter lo hm hq),raw_walks hh _ d (let ⟨_,ho,_⟩:=hm;Nat.ne_of_lt (Heap.lt_size ho)) es ep,⟨⟨_,Heap.get?_push_size _ rfl,rfl,rfl⟩,hm.keep fun _ e=>Heap.get?_push_of_some _ e⟩⟩
theorem coll_raw {d:Addr}{es:Array DictEntry}{ep:Nat}(hh:A.handled=none)(lo:(d == sysModules)=false)(r:RawD s.heap d es ep)(hz:es.size≤sizeLine):Coll prog w A d s fun us=>us=es.toList.map (·.key):=by
 intro E R h;refine kdu_collect (raw_src (ep:=ep) lo) hh r hz fun h' tk acc hk hI=>h h' tk acc.toList hk ?_
 apply List.ext_getElem?;intro i;rw[Array.getElem?_toList,List.getElem?_map,Array.getElem?_toList];rcases Nat.lt_or_ge i es.size with hi | hi
 ·have hi':i<acc.size:=by rw[hI.1];exact hi
  obtain⟨e,he,hk⟩:=hI.2 i acc[i] (Array.getElem?_eq_getElem hi');rw[Array.getElem?_eq_getElem hi',he];exact congrArg some hk.symm
 ·rw[Array.getElem?_eq_none (by rw[hI.1];exact hi),Array.getElem?_eq_none hi];rfl
end
end Srt
namespace L2
open PySem PySem.Spec PyProof.Rows
theorem perm_map_inv {α β:Type}{f:α→β}:∀ {l m:List β},l.Perm m→∀ {ps:List α},m=ps.map f→∃ qs:List α,qs.Perm ps∧l=qs.map f:=by
 intro l m h;induction h with
 | nil =>
  intro ps e;cases ps with
  | nil=>exact⟨[],.nil,rfl⟩
  | cons _ _=>cases e
 | @cons x l₁ l₂ _ ih =>
  intro ps e;cases ps with
  | nil=>cases e
  | cons p r =>
   rw[List.map_cons] at e;injection e with e1 e2
   obtain⟨qs,h1,h2⟩:=ih e2;exact⟨p::qs,h1.cons _,by rw[List.map_cons,h2,e1]⟩
 | swap x y l =>
  intro ps e
  match ps,e with
  | p::q::r,e =>
   rw[List.map_cons,List.map_cons] at e;injection e with e1 e2
   injection e2 with e2 e3
   exact⟨q::p::r,.swap ..,by rw[List.map_cons,List.map_cons,← e1,← e2,← e3]⟩
 | trans _ _ ih1 ih2 =>
  intro ps e;obtain⟨qs,h1,h2⟩:=ih2 e;obtain⟨rs,h3,h4⟩:=ih1 h2;exact⟨rs,h3.trans h1,h4⟩
theorem vals_refs {α:Type}{f:α→Addr}:∀ {ps:List α} {us:List Value},Vals (ps.map fun x=>V.ref (f x)) us→us=ps.map fun x=>Value.ref (f x)
 | [],_,.nil=>rfl
 | x::r,_,.cons h t=>by
  cases (show _=Value.ref (f x) from h);rw[List.map_cons,← vals_refs t]
theorem refs_vals {α:Type}{f:α→Addr}:∀ ps:List α,Vals (ps.map fun x=>V.ref (f x)) (ps.map fun x=>Value.ref (f x))
 | []=>.nil
 | x::r=>.cons rfl (refs_vals r)
theorem ints_of_all:∀ {us:List Value},(∀ u∈us,∃ i t,u=Value.int i t)→IntsAre us (us.map Srt.intKey)
 | [],_=>.nil
 | u::r,h=>by
  obtain⟨i,t,rfl⟩:=h u List.mem_cons_self;exact .cons i t (ints_of_all fun v hv=>h v (List.mem_cons_of_mem _ hv))
theorem ints_all {us:List Value}{ns:List Int}(h:IntsAre us ns):∀ u∈us,∃ i t,u=Value.int i t:=by
 induction h with
 | nil=>intro x hx;cases hx
 | cons n t _ ih =>
  intro x hx;rcases List.mem_cons.mp hx with rfl | hx
  ·exact⟨n,t,rfl⟩
  ·exact ih x hx
def SrcI (K:PySem.W.Frag)(H:Hp)(p:Addr)(ns:List Int):Prop :=
 ns.length<64∧(SqL K H p (ns.map V.int)∨SqT K H p (ns.map V.int)∨∃ kvs,H p=some (.dK kvs)∧kvs.map (·.1)=ns.map (Sum.inl:Int→Key))
section
variable {X:Cx}{pins:List (Addr×Obj)}{σ:St}{H:Hp}{s:Shared}
theorem Inv.collI (I:Inv X pins σ H s){A:Around}(hh:A.handled=none){p:Addr}{ns:List Int}(h:SrcI X.K H p ns):Srt.Coll X.prog X.w A p s fun us=>IntsAre us ns∧us.length<64:=by
 have mono:∀ {vs:List Value},IntsAre vs ns→Srt.Coll X.prog X.w A p s (fun us=>us=vs)→Srt.Coll X.prog X.w A p s fun us=>IntsAre us ns∧us.length<64:=fun hi c E R k =>
  c E R fun h' tk us kp e=>k h' tk us kp (by subst e;exact⟨hi,by rw[IntsAre.length hi];exact h.1⟩)
 rcases h.2 with h | h | ⟨kvs,h,hk⟩
 ·obtain⟨its,r,pl,hz⟩:=I.list h;obtain⟨o,ho,hc,n,hd⟩:=pl.isList;have hl:its.length≤sizeLine:=by rw[← r.length];exact hz
  exact mono (intsAre_of r) (Srt.coll_seq ho hc (.inl rfl) hd hl)
 ·obtain⟨its,r,pl,hz⟩:=I.tuple h;obtain⟨o,ho,hc,n,hd⟩:=pl;have hl:its.length≤sizeLine:=by rw[← r.length];exact hz
  exact mono (intsAre_of r) (Srt.coll_seq ho hc (.inr rfl) hd hl)
 ·obtain⟨z,lo,vs,rel,o,es,ep,ho,hx,hd,hkeys,hp,hn⟩:=dk_of I.hok h;have hl:es.toList.length=kvs.length:=by rw[hp.length,rel.length]
  have key:∀ {l:List DictEntry} {vs:List (Key×Value)} {ns:List Int},Pairs (mixKind X.prog X.w) l vs→vs.map (·.1)=ns.map (Sum.inl:Int→Key)→IntsAre (l.map (·.key)) ns:=by
   intro l vs ns hp;induction hp generalizing ns with
   | nil =>
    intro e;cases ns with
    | nil=>exact .nil
    | cons _ _=>cases e
   | @cons e kv es kvs h1 h2 _ ih =>
    intro q;cases ns with
    | nil=>cases q
    | cons n r =>
     rw[List.map_cons,List.map_cons] at q;injection q with q1 q2
     rw[q1] at h1;have hi:Value.isInt n e.key=true:=h1;obtain⟨t,et⟩:=Value.isInt_shape hi;rw[List.map_cons,et];exact .cons n t (ih q2)
  have hi:=key hp (by rw[← rel.keys];exact hk);refine mono hi (Srt.coll_raw hh lo ⟨o,ho,hx,hd⟩ ?_)
  ·rw[← Array.length_toList,hl];exact z
theorem call_sortedI (hc:X.A.handled=none):CallR X (.builtin "sorted") (fun xs H Q=>∃ (p:Addr) (ns:List Int),xs=[.ref p]∧SrcI X.K H p ns∧∀ (ns':List Int) (l:Addr),ns'.Perm ns→ns'.Pairwise (·≤·)→H l=none→Q (.ref l) (upd H l (.lst (ns'.map V.int)))):=by
 intro pins s σ H xs us Q I r h;obtain⟨p,ns,rfl,src,q⟩:=h;obtain⟨u,rfl,rx⟩:=vals1 r;cases rx;refine Srt.sorted_any (O:=Srt.intOrd) (key:=Srt.intKey) (knd:=oneType') (I.collI (A:=X.A.in1) hc src) (fun vs h=>h.2) (fun vs s' h _=>Srt.asks_ints h.1) fun vs out h1 h' tk n hC hp hs k1 k2 hD=>?_
 have hall:∀ u∈out,∃ i t,u=Value.int i t:=fun u hu=>ints_all hC.1 u (hp.mem_iff.mp hu)
 have hio:=ints_of_all hall;have I1:Inv X pins σ H {s with heap:=h1,toks:=tk}:=I.kept k1;have hlen:(out.map Srt.intKey).length≤sizeLine:=by rw[List.length_map,hp.length_eq];exact Nat.le_trans (Nat.le_of_lt hC.2) (by decide)
 refine⟨.ref h1.objs.size,_,I1.laid (t':=tk) (o:=.lst ((out.map Srt.intKey).map V.int)) k2 (Nat.le_refl _) ⟨by rw[List.length_map];exact hlen,out,n,vals_ints hio,hD⟩,rfl,q _ _ ?_ ?_ I1.fresh⟩
 ·have:=hp.map Srt.intKey;rw[Srt.intKeys_of hC.1] at this;exact this
 ·rw[List.pairwise_map];exact hs.imp fun {a b} hab=>by
   have hab:decide (Srt.intKey b<Srt.intKey a)=false:=hab;simp at hab;exact hab
def SrcT (K:PySem.W.Frag)(H:Hp)(p:Addr)(ps:List (Addr×List Int)):Prop :=
 (SqL K H p (ps.map fun x=>V.ref x.1)∨SqT K H p (ps.map fun x=>V.ref x.1))∧(∀ x∈ps,H x.1=some (.tup (x.2.map V.int))∧x.2≠[])∧ps.length<64
theorem Inv.tupInts (I:Inv X pins σ H s){a:Addr}{ks:List Int}(h:H a=some (.tup (ks.map V.int)))(hne:ks≠[]):Srt.TupInts s.heap (.ref a) ks:=by
 obtain⟨its,r,⟨o,ho,hc,n,hd⟩,hz⟩:=I.tuple (SqT.of h);exact⟨a,o,its.toArray,n,rfl,ho,hc,hd,intsAre_of r,hne⟩
theorem sortedT_fin {p:Addr}{vs:List Value}{C:List (Addr×List Int)→Prop}{Q:VK}(I:Inv X pins σ H s)(hcol:Srt.Coll X.prog X.w X.A.in1 p s fun us=>us=vs)(ps:List (Addr×List Int))(hvs:vs=ps.map fun x=>Value.ref x.1)(h64:ps.length<64)
  (hall:∀ x∈ps,H x.1=some (.tup (x.2.map V.int))∧x.2≠[]) (q:∀ (ps':List (Addr×List Int)) (l:Addr),ps'.Perm ps→(ps'.Pairwise fun x y=>HT.lexLt y.2 x.2=false)→H l=none→Q (.ref l) (upd H l (.lst (ps'.map fun x=>V.ref x.1)))) :
  wpAny (model X.prog X.w) X.A (call (.builtin "sorted") [.ref p]) (EP X pins σ Q) X.xe s:=by
 subst hvs;have hz:ps.length≤sizeLine:=Nat.le_trans (Nat.le_of_lt h64) (by decide);have ht:∀ x∈ps,Srt.TupInts s.heap (.ref x.1) x.2:=fun x hx=>I.tupInts (hall x hx).1 (hall x hx).2
 refine Srt.sorted_any (O:=Srt.lexOrd) (key:=Srt.tupKey s.heap) (knd:=tuples' true) hcol (fun vs e=>by subst e;rw[List.length_map];exact h64) (fun vs s' e k=>?_) fun vs out h1 h' tk n e hp hs k1 k2 hD=>?_
 ·subst e;refine Srt.asks_tups (fun v hv=>?_) k;obtain⟨x,hx,rfl⟩:=List.mem_map.mp hv;exact⟨x.2,ht x hx⟩
 ·subst e;obtain⟨ps',hpp,rfl⟩:=perm_map_inv hp rfl;have I1:Inv X pins σ H {s with heap:=h1,toks:=tk}:=I.kept k1;refine⟨.ref h1.objs.size,_,I1.laid (t':=tk) (o:=.lst (ps'.map fun x=>V.ref x.1)) k2 (Nat.le_refl _) ⟨by rw[List.length_map,hpp.length_eq];exact hz,_,n,refs_vals (f:=fun x:Addr×List Int=>x.1) ps',hD⟩,rfl,q _ _ hpp ?_ I1.fresh⟩;rw[List.pairwise_map] at hs;refine hs.imp_of_mem fun {a b} ha hb hab=>?_
  have e1:=Srt.tupKey_of (ht a (hpp.mem_iff.mp ha));have e2:=Srt.tupKey_of (ht b (hpp.mem_iff.mp hb));have hab:HT.lexLt (Srt.tupKey s.heap (.ref b.1)) (Srt.tupKey s.heap (.ref a.1))=false:=hab;rw[e1,e2] at hab;exact hab
theorem call_sortedT:CallR X (.builtin "sorted") (fun xs H Q=>∃ (p:Addr) (ps:List (Addr×List Int)),xs=[.ref p]∧SrcT X.K H p ps∧∀ (ps':List (Addr×List Int)) (l:Addr),ps'.Perm ps→(ps'.Pairwise fun x y=>HT.lexLt y.2 x.2=false)→H l=none→Q (.ref l) (upd H l (.lst (ps'.map fun x=>V.ref x.1)))):=by
 intro pins s σ H xs us Q I r h;obtain⟨p,ps,rfl,⟨src,hall,h64⟩,q⟩:=h;obtain⟨u,rfl,rx⟩:=vals1 r;cases rx;rcases src with h | h
 ·obtain⟨its,r',pl,hz⟩:=I.list h;obtain⟨o,ho,hc,n,hd⟩:=pl.isList;rw[List.length_map] at hz;have e:=vals_refs r';exact sortedT_fin (C:=fun _=>True) I (Srt.coll_seq ho hc (.inl rfl) hd (by rw[e,List.length_map];exact hz)) ps e h64 hall q
 ·obtain⟨its,r',pl,hz⟩:=I.tuple h;obtain⟨o,ho,hc,n,hd⟩:=pl;rw[List.length_map] at hz;have e:=vals_refs r';exact sortedT_fin (C:=fun _=>True) I (Srt.coll_seq ho hc (.inr rfl) hd (by rw[e,List.length_map];exact hz)) ps e h64 hall q
theorem call_sortedD (hc:X.A.handled=none):CallR X (.builtin "sorted") (fun xs H Q=>∃ (p:Addr) (kvs:List (List Key×V)) (kss:List (List Int)),xs=[.ref p]∧H p=some (.dT kvs)∧kvs.map (·.1)=kss.map (fun ks=>ks.map (Sum.inl:Int→Key))∧(∀ ks∈kss,ks≠[])∧kss.length<64 ∧
  ∀ (ps:List (Addr×List Int)) (l:Addr),(ps.map (·.2)).Perm kss→(∀ x∈ps,H x.1=some (.tup (x.2.map V.int)))→(ps.Pairwise fun x y=>HT.lexLt y.2 x.2=false)→H l=none→Q (.ref l) (upd H l (.lst (ps.map fun x=>V.ref x.1)))):=by
 intro pins s σ H xs us Q I r h;obtain⟨p,kvs,kss,rfl,hH,hk,hne,h64,q⟩:=h;obtain⟨u,rfl,rx⟩:=vals1 r;cases rx;have hO:=I.hok p _ hH;unfold ObjOk at hO;obtain⟨z,lo,xs,rel,o,es,ep,ho,hx,hd,hes,hn⟩:=hO;have rel:KT H kvs xs:=rel;have key:∀ {kvs:List (List Key×V)} {xs:List (List Key×Addr×Value)} {kss:List (List Int)},KT H kvs xs→kvs.map (·.1)=kss.map (fun ks=>ks.map (Sum.inl:Int→Key)) →
   ∃ ps:List (Addr×List Int),xs.map (fun x=>x.2.1)=ps.map (·.1)∧ps.map (·.2)=kss∧∀ x∈ps,H x.1=some (.tup (x.2.map V.int)):=by
  intro kvs xs kss rel;induction rel generalizing kss with
  | nil =>
   intro e;cases kss with
   | nil=>exact⟨[],rfl,rfl,fun x hx=>nomatch hx⟩
   | cons _ _=>cases e
  | @cons pp qq ps qs hh _ ih =>
   intro e;cases kss with
   | nil=>cases e
   | cons ks r =>
    rw[List.map_cons,List.map_cons] at e;injection e with e1 e2
    obtain⟨rs,h1,h2,h3⟩:=ih e2;obtain⟨g1,g2,g3⟩:=hh;refine⟨(qq.2.1,ks)::rs,by rw[List.map_cons,List.map_cons,h1],by rw[List.map_cons,h2],fun x hx=>?_⟩;rcases List.mem_cons.mp hx with rfl | hx
    ·rw[g2,e1,List.map_map];rfl
    ·exact h3 x hx
 obtain⟨ps,e1,e2,e3⟩:=key rel hk;have hl:es.toList.length=kvs.length:=by rw[hes,List.length_map,← Paired.length rel]
 have ev:es.toList.map (·.key)=ps.map fun x=>Value.ref x.1:=by
  rw[hes,List.map_map];have:(xs.map fun x=>x.2.1).map Value.ref=(ps.map (·.1)).map Value.ref:=by rw[e1]
  rw[List.map_map,List.map_map] at this;exact this
 have hpl:ps.length=kvs.length:=by rw[← hl,← List.length_map (f:=fun x:DictEntry=>x.key),ev,List.length_map]
 refine sortedT_fin (C:=fun _=>True) I (Srt.coll_raw hc lo ⟨o,ho,hx,hd⟩ (by rw[← Array.length_toList,hl];exact z)) ps ev (by rw[← List.length_map (f:=fun x:Addr×List Int=>x.2),e2];exact h64) (fun x hx=>⟨e3 x hx,hne _ (by rw[← e2];exact List.mem_map_of_mem hx)⟩) fun ps' l hp hs hn=>q ps' l ?_ (fun x hx=>e3 x (hp.mem_iff.mp hx)) hs hn
 rw[← e2];exact hp.map _
end
end L2
end
section
namespace L2
open PySem PySem.Spec PyProof.Rows
mutual
inductive Dt (K:PySem.W.Frag)(H:Hp):V→PyData→Prop
 | non:Dt K H .non .none
 | bl (b:Bool):Dt K H (.bl b) (.bool b)
 | int (i:Int):Dt K H (.int i) (.int i)
 | str (x:Str):Dt K H (.str x) (.str x)
 | tup {a:Addr} {xs:List V} {ds:List PyData}:SqT K H a xs→Dts K H xs ds→Dt K H (.ref a) (.tuple ds)
 | lst {a:Addr} {xs:List V} {ds:List PyData}:SqL K H a xs→Dts K H xs ds→Dt K H (.ref a) (.list ds)
inductive Dts (K:PySem.W.Frag)(H:Hp):List V→List PyData→Prop
 | nil:Dts K H [] []
 | cons {x:V} {d:PyData} {xs:List V} {ds:List PyData}:Dt K H x d→Dts K H xs ds→Dts K H (x::xs) (d::ds)
end
section
variable {X:Cx}{pins:List (Addr×Obj)}{σ:St}{H:Hp}{s:Shared}
mutual
theorem Inv.reads (I:Inv X pins σ H s):∀ {x:V} {d:PyData} {u:Value},Dt X.K H x d→RelV x u→∃ as,Reads s.heap u d as
 | _,_,_,.non,r=>by cases (show _=Value.none from r);exact⟨_,.none⟩
 | _,_,_,.bl b,r=>by cases (show _=Value.bool b from r);exact⟨_,.bool b⟩
 | _,_,_,.int i,r=>by obtain⟨t,e⟩:=(show ∃ t,_=Value.int i t from r);subst e;exact⟨_,.int i t⟩
 | _,_,_,.str x,r=>by obtain⟨t,e⟩:=(show ∃ t,_=Value.str x t from r);subst e;exact⟨_,.str x t⟩
 | _,_,_,.tup (a:=a) h hs,r=>by
  cases (show _=Value.ref a from r);obtain⟨its,rv,⟨o,ho,hc,n,hd⟩,hz⟩:=I.tuple h;obtain⟨as,q⟩:=Inv.readsAll I hs rv;exact⟨_,.tuple ho hc hd (by simpa using q)⟩
 | _,_,_,.lst (a:=a) h hs,r=>by
  cases (show _=Value.ref a from r);obtain⟨its,rv,pl,hz⟩:=I.list h;obtain⟨o,ho,hc,n,hd⟩:=pl.isList;obtain⟨as,q⟩:=Inv.readsAll I hs rv;exact⟨_,.list ho hc hd (by simpa using q)⟩
theorem Inv.readsAll (I:Inv X pins σ H s):∀ {xs:List V} {ds:List PyData} {us:List Value},Dts X.K H xs ds→Vals xs us→∃ as,ReadsAll s.heap us ds as
 | _,_,_,.nil,.nil=>⟨_,.nil⟩
 | _,_,_,.cons h t,.cons r q=>by
  obtain⟨as,h1⟩:=Inv.reads I h r;obtain⟨bs,h2⟩:=Inv.readsAll I t q;exact⟨_,.cons h1 h2⟩
end
def rEqD (K:PySem.W.Frag)(neg:Bool):R2:=fun x y H Q=>∃ d e,Dt K H x d∧Dt K H y e∧SeqAt.shaped d=true∧SeqAt.shaped e=true∧Q (.bl (if neg then !PyData.eqv d e else PyData.eqv d e)) H
theorem op_eqD (hu:X.A.units+64<cLine):OpR X (compareOp .Eq) (rEqD X.K false):=by
 intro pins s σ H x y v u Q I rx ry h;obtain⟨d,e,hd,he,sd,se,q⟩:=h;obtain⟨as,r1⟩:=I.reads hd rx;obtain⟨bs,r2⟩:=I.reads he ry;exact eq_dataH r1 r2 sd se hu ⟨.bl _,H,I,rfl,q⟩
theorem op_neD (hu:X.A.units+64<cLine):OpR X (compareOp .NotEq) (rEqD X.K true):=by
 intro pins s σ H x y v u Q I rx ry h;obtain⟨d,e,hd,he,sd,se,q⟩:=h;obtain⟨as,r1⟩:=I.reads hd rx;obtain⟨bs,r2⟩:=I.reads he ry;exact ne_dataH r1 r2 sd se hu ⟨.bl _,H,I,rfl,q⟩
theorem Dts.ints {K:PySem.W.Frag}:∀ (ns:List Int),Dts K H (ns.map V.int) (ns.map PyData.int)
 | []=>.nil
 | n::r=>.cons (.int n) (Dts.ints r)
theorem canLay_ints:∀ ns:List Int,PyData.canLayAll0 (ns.map PyData.int)=true
 | []=>rfl
 | n::r=>by rw[List.map_cons,PyData.canLayAll0,canLay_ints r];rfl
theorem depth_ints:∀ ns:List Int,PyData.depthAll (ns.map PyData.int)=0
 | []=>rfl
 | n::r=>by rw[List.map_cons,PyData.depthAll,depth_ints r];rfl
theorem shaped_tupI (ns:List Int):SeqAt.shaped (.tuple (ns.map PyData.int))=true:=by
 unfold SeqAt.shaped PyData.canLay0 PyData.depth;rw[canLay_ints,depth_ints];rfl
theorem shaped_lstI (ns:List Int):SeqAt.shaped (.list (ns.map PyData.int))=true:=by
 unfold SeqAt.shaped PyData.canLay0 PyData.depth;rw[canLay_ints,depth_ints];rfl
theorem eqv_ints:∀ ns ms:List Int,PyData.eqvAll (ns.map PyData.int) (ms.map PyData.int)=decide (ns=ms)
 | [],[]=>rfl
 | [],_::_=>rfl
 | _::_,[]=>rfl
 | a::r,b::t=>by
  rw[List.map_cons,List.map_cons,PyData.eqvAll,PyData.eqv,eqv_ints r t];by_cases h:a=b<;>by_cases h':r=t<;>simp[h,h']
theorem eqv_tupI (ns ms:List Int):PyData.eqv (.tuple (ns.map PyData.int)) (.tuple (ms.map PyData.int))=decide (ns=ms):=by
 rw[PyData.eqv];exact eqv_ints ns ms
theorem eqv_lstI (ns ms:List Int):PyData.eqv (.list (ns.map PyData.int)) (.list (ms.map PyData.int))=decide (ns=ms):=by
 rw[PyData.eqv];exact eqv_ints ns ms
theorem Dt.tupI {K:PySem.W.Frag}{a:Addr}{ns:List Int}(h:SqT K H a (ns.map V.int)):Dt K H (.ref a) (.tuple (ns.map PyData.int)):=.tup h (Dts.ints ns)
theorem Dt.lstI {K:PySem.W.Frag}{a:Addr}{ns:List Int}(h:SqL K H a (ns.map V.int)):Dt K H (.ref a) (.list (ns.map PyData.int)):=.lst h (Dts.ints ns)
theorem neTI {K:PySem.W.Frag}{a b:Addr}{ns ms:List Int}{Q:VK}(h1:SqT K H a (ns.map V.int))(h2:SqT K H b (ms.map V.int))(q:Q (.bl (!decide (ns=ms))) H):rEqD K true (.ref a) (.ref b) H Q :=
 ⟨_,_,.tupI h1,.tupI h2,shaped_tupI _,shaped_tupI _,by rw[eqv_tupI];exact q⟩
theorem eqTI {K:PySem.W.Frag}{a b:Addr}{ns ms:List Int}{Q:VK}(h1:SqT K H a (ns.map V.int))(h2:SqT K H b (ms.map V.int))(q:Q (.bl (decide (ns=ms))) H):rEqD K false (.ref a) (.ref b) H Q :=
 ⟨_,_,.tupI h1,.tupI h2,shaped_tupI _,shaped_tupI _,by rw[eqv_tupI];exact q⟩
theorem neLI {K:PySem.W.Frag}{a b:Addr}{ns ms:List Int}{Q:VK}(h1:SqL K H a (ns.map V.int))(h2:SqL K H b (ms.map V.int))(q:Q (.bl (!decide (ns=ms))) H):rEqD K true (.ref a) (.ref b) H Q :=
 ⟨_,_,.lstI h1,.lstI h2,shaped_lstI _,shaped_lstI _,by rw[eqv_lstI];exact q⟩
theorem eqLI {K:PySem.W.Frag}{a b:Addr}{ns ms:List Int}{Q:VK}(h1:SqL K H a (ns.map V.int))(h2:SqL K H b (ms.map V.int))(q:Q (.bl (decide (ns=ms))) H):rEqD K false (.ref a) (.ref b) H Q :=
 ⟨_,_,.lstI h1,.lstI h2,shaped_lstI _,shaped_lstI _,by rw[eqv_lstI];exact q⟩
end
end L2
end
section
namespace L2
open PySem PySem.Spec PyProof.Rows
section
variable {X:Cx}
def rInts (lo:Int)(n:Nat):List Int:=(List.range n).map fun (i:Nat)=>lo+(i:Int)
theorem rInts_length (lo:Int)(n:Nat):(rInts lo n).length=n:=by unfold rInts;simp
theorem rInts_get {lo:Int}{n i:Nat}(h:i<n):(rInts lo n)[i]?=some (lo+(i:Int)):=by unfold rInts;simp[h]
end
end L2
namespace Srt
open PySem PyProof.Rows PySem.W
theorem nolen_lr:typeLookup (.type "list_reverseiterator") "__len__"=pure none:=by rw[typeLookup_type,builtinLookup_eq_fast];kernel_rfl
theorem hint_lr:typeLookup (.type "list_reverseiterator") "__length_hint__"=pure (some (.builtin "list_reverseiterator.__length_hint__")):=by rw[typeLookup_type,builtinLookup_eq_fast];kernel_rfl
section
variable {prog:Program}{w:World}{A:Around}{E:Value→Shared→Prop}{s:Shared}
theorem rev_extend {R:Result→Shared→Prop}{r l S:Addr}{items:Array Value}{res:Value}{c₀:Nat}(hh:A.handled=none)(hr:s.heap.IsRevIter r l ((items.size:Int)-1))(hl:s.heap.IsList l items)(hne:l≠r)(hSr:S≠r)(hSl:S≠l)
  (hS:s.heap.get? S=some {cls:=.type "list",data:=.seq #[] c₀}) (hn:items.size≤sizeLine)
  (hR:∀ h' tk acc' c',(∀ b o,b≠S→b≠r→s.heap.get? b=some o→h'.get? b=some o)→h'.get? S=some {cls:=.type "list",dict:=none,data:=.seq acc' c',slots:=#[]} →
   ItemsOf (fun i v=>items[items.size-1-i]?=some v) acc' items.size→R (.ok (.ret res)) {s with heap:=h',toks:=tk}) :
  wpAny (model prog w) A.in1 (Builtin.List.listExtendWith (.ref S) (.ref r) res)
   (fun fin s'=>match fin with | .done f=>R (.ok f) s' | .again c'=>c'.quiet=true∧codeAny (model prog w) A c' R s') (fun e s'=>R (.error e) s') s:=by
 have W:=(Walks.listRev (prog:=prog) (w:=w) (A:=A.in1) hh r l hne items).toS;have hSf:S∉[r,l]:=by simp only[List.mem_cons,List.not_mem_nil,or_false,not_or];exact⟨hSr,hSl⟩
 unfold Builtin.List.listExtendWith;refine wpAny_bind (wpAny_typeOf hr.typeIs ?_);have h1:Builtin.List.listSameRef (.ref S) (.ref r)=false:=by simp[Builtin.List.listSameRef,hSr]
 rw[if_neg (by rw[h1];decide)];refine wpAny_bind (wpAny_pyIter_revIter hr ?_);refine wpAny_bind (wpAny_holding ?_);unfold Builtin.List.listLengthHint;refine wpAny_bind (wpAny_specialOf hr.typeIs nolen_lr ?_);show wpAny _ A.in1 (specialOf (Value.ref r) (Str.ofString "__length_hint__") >>= _) _ _ _;refine wpAny_bind (wpAny_specialOf hr.typeIs hint_lr ?_);generalize hid:("list_reverseiterator.__length_hint__":String)=id0
 wp_delta
 rw[show splitId id0=some ("list_reverseiterator", "__length_hint__") from by subst hid;decide +kernel];subst hid;refine wpAny_bind (wpAny_isInstance (b:=true) hr.typeIs (by rw[isSubtype_type];kernel_rfl) ?_);refine wpAny_pure ?_;rw[if_neg (by decide)];refine wpAny_pure ⟨plainId_quiet PySem.F.plain_extend_loop _,codeAny_extend_loopS W hn S hSf res items.size 0 s #[] c₀ rfl (Nat.zero_le _) ⟨Nat.zero_le _,by simpa using hr,hl⟩ hS (ItemsOf.nil _) fun s' acc' c' hm hS' hacc=>?_⟩;rw[Moved.eq_with hm];refine hR s'.heap s'.toks acc' c' (fun b o hb hbr e=>hm.heap b o (fun hmem=>?_) e) hS' hacc;rcases List.mem_cons.mp hmem with e' | hmem
 ·exact hb e'
 ·exact hbr (List.mem_singleton.mp hmem)
theorem call_list_rev {Q:Value→Shared→Prop}{r l:Addr}{items:Array Value}(hh:A.handled=none)(hr:s.heap.IsRevIter r l ((items.size:Int)-1))(hl:s.heap.IsList l items)(hne:l≠r)(hn:items.size≤sizeLine)
  (hQ:∀ h' tk acc' c',(∀ b o,b≠r→s.heap.get? b=some o→h'.get? b=some o)→h'.get? s.heap.objs.size=some {cls:=.type "list",dict:=none,data:=.seq acc' c',slots:=#[]} →
   ItemsOf (fun i v=>items[items.size-1-i]?=some v) acc' items.size→Q (.ref s.heap.objs.size) {s with heap:=h',toks:=tk}) :
  wpAny (model prog w) A (call (.type "list") [.ref r]) Q E s:=by
 refine callType_codes (Q₁:=fun obj s₁=>obj=.ref s.heap.objs.size∧s₁={s with heap:=s.heap.push {cls:=.type "list",data:=.seq #[]}}) PySem.F.called_list (PySem.F.typeCall_list_1 _) PySem.F.entry_list_init
  (code_list_new _ ⟨rfl,rfl⟩) fun obj s₁ h₁=>?_
 obtain⟨rfl,rfl⟩:=h₁;have hS:(s.heap.push {cls:=.type "list",data:=.seq #[]}).get? s.heap.objs.size=some {cls:=.type "list",data:=.seq #[]}:=Heap.get?_push_size _ rfl;have rlt:r<s.heap.objs.size:=let ⟨o,ho,_⟩:=hr;Heap.lt_size ho;have llt:l<s.heap.objs.size:=let ⟨o,ho,_⟩:=hl;Heap.lt_size ho;refine⟨⟨_,hS,rfl⟩,PySem.F.args_list_init_2 _ _,?_⟩;show wpAny _ _ (do let old ← Builtin.List.listItems (.ref s.heap.objs.size);Builtin.List.listUpdate (.ref s.heap.objs.size) (fun _=>#[]);letGo old.toList.reverse;Builtin.List.listExtendWith (.ref s.heap.objs.size) (.ref r) .none) _ _ _;refine wpAny_bind ?_;unfold Builtin.List.listItems;refine wpAny_bind (wpAny_seqItems hS rfl (wpAny_pure ?_));show wpAny _ _ (updateSeq s.heap.objs.size (fun _=>#[]) >>= fun _=>letGo (#[]:Array Value).toList.reverse >>= fun _=>Builtin.List.listExtendWith (.ref s.heap.objs.size) (.ref r) .none) _ _ _;refine wpAny_bind (wpAny_updateSeq hS rfl ?_);have hS₂:=Heap.get?_update_self (Obj.mapSeq (fun _=>(#[]:Array Value))) hS rfl;have oth:∀ b o,b≠s.heap.objs.size→s.heap.get? b=some o→((s.heap.push {cls:=.type "list",data:=.seq #[]}).update s.heap.objs.size (Obj.mapSeq (fun _=>(#[]:Array Value)))).get? b=some o :=
  fun b o hb e=>(Heap.get?_update_other _ _ (Ne.symm hb)).trans (Heap.get?_push_of_some _ e)
 refine wpAny_bind (wpAny_letGo ?_);refine rev_extend (A:=A.in1) hh (hr.at fun o e=>oth r o (Nat.ne_of_lt rlt) e) (hl.at fun o e=>oth l o (Nat.ne_of_lt llt) e) hne (Nat.ne_of_gt rlt) (Nat.ne_of_gt llt) hS₂ hn fun h' tk acc' c' hk hS' hacc=>?_
 exact⟨rfl,hQ h' tk acc' c' (fun b o hb e=>hk b o (Nat.ne_of_lt (Heap.lt_size e)) hb (oth b o (Nat.ne_of_lt (Heap.lt_size e)) e)) hS' hacc⟩
end
end Srt
namespace L2
open PySem PySem.Spec PyProof.Rows
section
variable {X:Cx}{e:Expr}{te:TE}{p1 p2 q1 q2:Pos}
theorem boot_listT:bootBuiltins "list"=some (.type "list"):=by decide +kernel
theorem boot_reversed:bootBuiltins "reversed"=some (.type "reversed"):=by decide +kernel
theorem vals_rev:∀ {xs:List V} {us:List Value},Vals xs us→Vals xs.reverse us.reverse
 | _,_,.nil=>.nil
 | _,_,.cons r t=>by
  rw[List.reverse_cons,List.reverse_cons];exact (vals_rev t).append (.cons r .nil)
def tRevL (te:TE):TE:=fun σ H Q=>te σ H fun x H1=>∃ a xs,x=.ref a∧H1 a=some (.lst xs)∧∀ l,H1 l=none→Q (.ref l) (upd H1 l (.lst xs.reverse))
theorem pe_listrev (hc:X.A.handled=none)(hg1:Gl X "list")(hm1:X.mg "list"=none)(hg2:Gl X "reversed")(hm2:X.mg "reversed"=none)(he:PE X e te)
  (hs1:starEach [.Call (.Name "reversed" p1) [e] [] q1] X.env=[(false,eval (.Call (.Name "reversed" p1) [e] [] q1) X.env)]:=by rfl) (hs2:starEach [e] X.env=[(false,eval e X.env)]:=by rfl) :
  PE X (.Call (.Name "list" p2) [.Call (.Name "reversed" p1) [e] [] q1] [] q2) (tRevL te):=by
 intro pins s σ H Q I h;refine wpAny_Call_Name_kw (ld_blt I hg1 hm1 boot_listT ?_);refine PyProof.Rows.callWith_type1 ?_ hs1 rfl;rw[hs1];refine Calls.spliced_cons ?_;refine wpAny_Call_Name_kw (ld_blt I hg2 hm2 boot_reversed ?_);refine PyProof.Rows.callWith_type1 ?_ hs2 rfl;rw[hs2];refine Calls.spliced_cons (thn (he pins s σ H _ I h) fun u s1 ⟨x,H1,I1,r1,q1⟩=>?_);obtain⟨a,xs,rfl,ha,q⟩:=q1;cases r1;refine Calls.spliced_nil ?_;obtain⟨its,n,rv,ho,hz⟩:=I1.lst ha;have hl:s1.heap.IsList a its.toArray:=⟨_,ho,rfl,n,rfl⟩
 have alt:a<s1.heap.objs.size:=Heap.lt_size ho;refine call_reversed_list hl ?_;refine Calls.spliced_nil ?_;have k1:∀ b o,s1.heap.get? b=some o→(s1.heap.push (revObj a ((its.toArray.size:Int)-1))).get? b=some o:=fun _ _ q=>Heap.get?_push_of_some _ q
 refine Srt.call_list_rev (s:={s1 with heap:=s1.heap.push (revObj a ((its.toArray.size:Int)-1))}) hc ⟨_,Heap.get?_push_size _ rfl,rfl,rfl⟩ (hl.at fun o e=>k1 a o e) (Nat.ne_of_lt alt) (by rw[List.size_toArray,← rv.length];exact hz) fun h' tk acc' c' hk hS' hacc=>?_
 have eacc:acc'.toList=its.reverse:=by
  apply List.ext_getElem?;intro i;rw[Array.getElem?_toList];rcases Nat.lt_or_ge i its.length with hi | hi
  ·have hi':i<acc'.size:=by rw[hacc.1,List.size_toArray];exact hi
   have:=hacc.2 i acc'[i] (Array.getElem?_eq_getElem hi');rw[Array.getElem?_eq_getElem hi',List.getElem?_reverse hi];rw[List.size_toArray,List.getElem?_toArray] at this;exact this.symm
  ·rw[Array.getElem?_eq_none (by rw[hacc.1,List.size_toArray];exact hi),List.getElem?_eq_none (by rw[List.length_reverse];exact hi)]
 have keep:∀ b o,s1.heap.get? b=some o→h'.get? b=some o:=fun b o e=>hk b o (Nat.ne_of_lt (Heap.lt_size e)) (k1 b o e)
 have hsz:(s1.heap.push (revObj a ((its.toArray.size:Int)-1))).objs.size=s1.heap.objs.size+1:=Heap.size_push ..;refine⟨.ref (s1.heap.push (revObj a ((its.toArray.size:Int)-1))).objs.size,_,I1.laid (t':=tk) (a:=(s1.heap.push (revObj a ((its.toArray.size:Int)-1))).objs.size) (o:=.lst xs.reverse) keep (by rw[hsz];omega) ⟨by rw[List.length_reverse];exact hz,its.reverse,c',vals_rev rv,by rw[← eacc,Array.toArray_toList];exact hS'⟩,rfl,q _ (I1.hok.fresh (by rw[hsz];omega))⟩
end
end L2
end
section
namespace L2
open PySem PySem.Spec PyProof.Rows
theorem raw_len {prog:Program}{w:World}{A:Around}{E:Value→Shared→Prop}{s:Shared}{d:Addr}{es:Array DictEntry}{ep:Nat}{Q:Value→Shared→Prop}(hd:(d == sysModules)=false)(r:Srt.RawD s.heap d es ep)
  (h:Q (.int es.size s.toks) {s with toks:=s.toks+1}):wpAny (model prog w) A (call (.builtin "dict.__len__") [.ref d]) Q E s:=by
 obtain⟨o,ho,hx,hdat⟩:=id r;refine wpAny_call_entry F.slot_dict_len r.typeIs F.entry_dict_len ?_ (F.args_dict_len_1 _);show wpAny _ _ (dictSize d >>= _) _ _ s;unfold dictSize;refine wpAny_bind (wpAny_bind (wpAny_dictEntries ho hdat (wpAny_pure ?_)));show wpAny _ _ (Builtin.Dict.pendingCount d >>= _) _ _ s;refine wpAny_bind (wpAny_pendingCount_other hd ?_);refine wpAny_ret_mkInt ?_;first | exact⟨_,rfl,h⟩ | exact h | simpa using h
section
variable {X:Cx}
theorem call_lenDT:CallR X (.builtin "len") (fun xs H Q=>∃ (a:Addr) (kvs:List (List Key×V)),xs=[V.ref a]∧H a=some (.dT kvs)∧Q (.int kvs.length) H):=by
 intro pins s σ H xs us Q I r h;obtain⟨a,kvs,rfl,ha,q⟩:=h;obtain⟨u,rfl,ru⟩:=vals1 r;cases ru;have hO:=I.hok a _ ha;unfold ObjOk at hO;obtain⟨z,lo,xs,rel,o,es,ep,ho,hx,hd,hes,hn⟩:=hO;have hl:es.size=kvs.length:=by rw[← Array.length_toList,hes,List.length_map,← Paired.length rel]
 have rd:Srt.RawD s.heap a es ep:=⟨o,ho,hx,hd⟩
 rw[sizeLine_eq] at z;refine call_len_slot (n:=kvs.length) rd.typeIs F.slot_dict_len (fun Q' hq=>raw_len lo rd (by rw[hl];exact hq)) (by omega) (by omega) ?_;exact⟨.int kvs.length,H,I.tok _,⟨_,rfl⟩,q⟩
end
structure Df (K:PySem.W.Frag)(mg:Str→Option Value)(x:Str)(st:Stmt)(f:Addr)(fd:FuncData)(ps:List Str):Prop where
 F:Fun K x x st f fd
 b:Binds K fd ps []
 m:mg x=some (.ref f)
theorem pe_own {X:Cx}{k:Nat}{f:Addr}{fd:FuncData}{ps:List Str}{sp:Sp}{x:Str}{st:Stmt}{p pos:Pos}{e:Expr}{es:List Expr}{t:TA}(G:FnOk X.prog X.w X.K X.mg X.base CX0 k f fd ps sp)(D:Df X.K X.mg x st f fd ps)(hr:Room k X.A)
  (ha:PA X (e::es) t) (hg:Gl X x:=by rfl) (hdb:(x == ("__debug__":Str))=false:=by decide) (he:starEach (e::es) X.env=(false,eval e X.env)::starEach es X.env:=by rfl) (hpl:(backTo pos (starEach es X.env)).any (·.1)=false:=by rfl) :
  PE X (.Call (.Name x p) (e::es) [] pos) (tCall sp [] E0 t):=pe_call G hr hg D.m D.F.kp D.b .nil pass0 ha hdb he hpl
structure Bt (mg:Str→Option Value):Prop where
 len:mg "len"=none
 range:mg "range"=none
 list:mg "list"=none
 tuple:mg "tuple"=none
 sorted:mg "sorted"=none
 min:mg "min"=none
 max:mg "max"=none
 int:mg "int"=none
 reversed:mg "reversed"=none
section
variable {X:Cx}(K:PySem.W.Frag)
theorem ix_listK (h:X.K=K:=by rfl):IxR X (rIxL K):=by subst h;exact ix_list
theorem ix_tupK (h:X.K=K:=by rfl):IxR X (rIxT K):=by subst h;exact ix_tup
theorem sl_listK (h:X.K=K:=by rfl):SlR X (rSlL K):=by subst h;exact sl_list
theorem in_seqK (h:X.K=K:=by rfl):OpR X (compareOp .In) (rIn K false):=by subst h;exact op_in_seq
theorem notIn_seqK (h:X.K=K:=by rfl):OpR X (compareOp .NotIn) (rIn K true):=by subst h;exact op_notIn_seq
theorem eqDK (hu:X.A.units+64<cLine)(h:X.K=K:=by rfl):OpR X (compareOp .Eq) (rEqD K false):=by subst h;exact op_eqD hu
theorem neDK (hu:X.A.units+64<cLine)(h:X.K=K:=by rfl):OpR X (compareOp .NotEq) (rEqD K true):=by subst h;exact op_neD hu
def cLen (K:PySem.W.Frag):List V→Hp→VK→Prop:=fun xs H Q=>∃ p ys,xs=[.ref p]∧(SqL K H p ys∨SqT K H p ys)∧Q (.int ys.length) H
def cList (K:PySem.W.Frag):List V→Hp→VK→Prop:=fun xs H Q=>∃ p ys,xs=[.ref p]∧(SqL K H p ys∨SqT K H p ys)∧∀ l,H l=none→Q (.ref l) (upd H l (.lst ys))
def cTuple (K:PySem.W.Frag):List V→Hp→VK→Prop:=fun xs H Q=>∃ p ys,xs=[.ref p]∧((SqL K H p ys∧∀ l,H l=none→Q (.ref l) (upd H l (.tup ys)))∨(SqT K H p ys∧Q (.ref p) H))
def cSortI (K:PySem.W.Frag):List V→Hp→VK→Prop:=fun xs H Q=>∃ (p:Addr) (ns:List Int),xs=[.ref p]∧SrcI K H p ns∧∀ (ns':List Int) (l:Addr),ns'.Perm ns→ns'.Pairwise (·≤·)→H l=none→Q (.ref l) (upd H l (.lst (ns'.map V.int)))
def cSortT (K:PySem.W.Frag):List V→Hp→VK→Prop:=fun xs H Q=>∃ (p:Addr) (ps:List (Addr×List Int)),xs=[.ref p]∧SrcT K H p ps∧∀ (ps':List (Addr×List Int)) (l:Addr),ps'.Perm ps→(ps'.Pairwise fun x y=>HT.lexLt y.2 x.2=false)→H l=none→Q (.ref l) (upd H l (.lst (ps'.map fun x=>V.ref x.1)))
theorem lenK (h:X.K=K:=by rfl):CallR X (.builtin "len") (cLen K):=by subst h;exact call_len_seq
theorem listK (h:X.K=K:=by rfl):CallR X (.type "list") (cList K):=by subst h;exact call_list_of
theorem tupleK (h:X.K=K:=by rfl):CallR X (.type "tuple") (cTuple K):=by subst h;exact call_tuple_of
theorem sortedIK (hc:X.A.handled=none)(h:X.K=K:=by rfl):CallR X (.builtin "sorted") (cSortI K):=by subst h;exact call_sortedI hc
theorem sortedTK (h:X.K=K:=by rfl):CallR X (.builtin "sorted") (cSortT K):=by subst h;exact call_sortedT
variable {tg l o e:Expr}{tl to:TE}{es:List Expr}{t:TA}{pos:Pos}
theorem pi_listK (hl:PE X l tl)(h:X.K=K:=by rfl):PI X tg l (iList K tl):=by subst h;exact pi_list hl
theorem pi_tupK (hl:PE X l tl)(h:X.K=K:=by rfl):PI X tg l (iTup K tl):=by subst h;exact pi_tup hl
theorem pg_tupK {k:Nat}{t:TGs}{n:Nat}(hc:X.calm=true)(hg:PGs X es t)(hn:(assignEach es X.env).length=n:=by rfl)(hst:(assignEach es X.env).findIdx? (·.1)=none:=by rfl)(h:X.K=K:=by rfl):PG X (.Tuple es k pos) (gTup K n t):=by
 subst h;exact pg_tup hc hg hn hst
theorem appendK {apos cpos:Pos}(ho:PE X o to)(ha:PA X (e::es) t)(h:X.K=K:=by rfl)
  (hbase:attributeBase o "append" X.env (eval o X.env)=eval o X.env:=by rfl)
  (hfew:((backTo cpos (starEach (e::es) X.env)).all (fun x=>!x.1) && (backToKw cpos (keywordEach [] X.env)).all (fun x=>x.1.isSome)
   && decide ((e::es).length+([]:List Keyword).length+(if ([]:List Keyword).isEmpty then 0 else 1)<30))=true:=by rfl) (hst:starEach (e::es) X.env=(false,eval e X.env)::starEach es X.env:=by rfl) (hpl:(backTo cpos (starEach es X.env)).any (·.1)=false:=by rfl) (hline:(apos.endLine == cpos.line)=true:=by rfl) :
  PE X (.Call (.Attribute o "append" apos) (e::es) [] cpos) (tBM K "list" rAppend to t):=by
 subst h;exact pe_bm PySem.F.plainAttrs_list PySem.F.slot_list_append PySem.F.type_list_append mt_append ho ha hbase hfew hline hst hpl
theorem popK {apos cpos:Pos}(ho:PE X o to)(h:X.K=K:=by rfl)(hbase:attributeBase o "pop" X.env (eval o X.env)=eval o X.env:=by rfl)(hline:(apos.endLine == cpos.line)=true:=by rfl) :
  PE X (.Call (.Attribute o "pop" apos) [] [] cpos) (tBM0 K "list" rPop to):=by
 subst h;exact pe_bm0 PySem.F.plainAttrs_list PySem.F.slot_list_pop PySem.F.type_list_pop mt_pop ho hbase hline
theorem truthK (he:PE X e to)(hw:∀ whole,isTrue e X.env whole=(do let v ← whole;standAt e.pos;holding [v] (truthy v)))(h:X.K=K:=by rfl):PT X e (fun σ H Q=>to σ H fun x H'=>∃ k,TruV K x H' k∧Q k H'):=by
 subst h;exact pt_truth he hw
end
section
variable {K:PySem.W.Frag}{a p:Addr}{xs:List V}{g:TG}{tc:TT}{te tv:TE}{τ0:St}{H0:Hp}{EE:Hp→Prop}
theorem lc_list (Pv:Nat→St→Hp→Prop)(h0:Pv 0 τ0 H0)(hl:∀ i τ H,i≤xs.length→Pv i τ H→SqL K H a xs)
  (hs:∀ i x τ H,xs[i]?=some x→Pv i τ H→(∀ ys,SqL K H a ys→ys[i]?=some x)→g x τ H fun τ2 H2=>tc τ2 H2 fun b H3=>if b=true then te τ2 H3 fun v H4=>∃ ys,H4 p=some (.lst ys)∧ys.length<sizeLine∧Pv (i+1) τ2 (upd H4 p (.lst (ys++[v]))) else Pv (i+1) τ2 H3)
  (hd:∀ τ H,Pv xs.length τ H→EE H):lcW g tc te p (Itl K a) τ0 H0 EE:=by
 refine⟨fun i m τ H=>m=xs.length-i∧i≤xs.length∧Pv i τ H,⟨_,rfl,Nat.zero_le _,h0⟩,?_⟩;rintro i m τ H ⟨rfl,hi,hp⟩;have hq:=hl i τ H hi hp;rcases Nat.lt_or_ge i xs.length with h | h
 ·have hx:xs[i]?=some xs[i]:=List.getElem?_eq_getElem h;refine .inr ⟨⟨xs,_,hq,hx⟩,Pv (i+1),fun τ' H' z=>⟨_,by omega,rfl,h,z⟩,?_⟩;rintro x H' ⟨rfl,hy⟩;have e:x=xs[i]:=by have:=hy xs hq;rw[hx] at this;exact (Option.some.inj this).symm
  subst e;exact hs i _ τ H' hx hp hy
 ·have e:i=xs.length:=by omega
  subst e;exact .inl ⟨⟨xs,hq,Nat.le_refl _⟩,hd τ H hp⟩
theorem lc_tup (Pv:Nat→St→Hp→Prop)(h0:Pv 0 τ0 H0)(hl:∀ i τ H,i≤xs.length→Pv i τ H→SqT K H a xs)
  (hs:∀ i x τ H,xs[i]?=some x→Pv i τ H→g x τ H fun τ2 H2=>tc τ2 H2 fun b H3=>if b=true then te τ2 H3 fun v H4=>∃ ys,H4 p=some (.lst ys)∧ys.length<sizeLine∧Pv (i+1) τ2 (upd H4 p (.lst (ys++[v]))) else Pv (i+1) τ2 H3)
  (hd:∀ τ H,Pv xs.length τ H→EE H):lcW g tc te p (Itt K a) τ0 H0 EE:=by
 refine⟨fun i m τ H=>m=xs.length-i∧i≤xs.length∧Pv i τ H,⟨_,rfl,Nat.zero_le _,h0⟩,?_⟩;rintro i m τ H ⟨rfl,hi,hp⟩;have hq:=hl i τ H hi hp;rcases Nat.lt_or_ge i xs.length with h | h
 ·have hx:xs[i]?=some xs[i]:=List.getElem?_eq_getElem h;refine .inr ⟨⟨xs,_,hq,hx⟩,Pv (i+1),fun τ' H' z=>⟨_,by omega,rfl,h,z⟩,?_⟩;rintro x H' ⟨rfl,hy⟩;have e:x=xs[i]:=by have:=hy xs hq;rw[hx] at this;exact (Option.some.inj this).symm
  subst e;exact hs i _ τ H' hx hp
 ·have e:i=xs.length:=by omega
  subst e;exact .inl ⟨⟨xs,hq,Nat.le_refl _⟩,hd τ H hp⟩
theorem lc_range {lo:Int}{n:Nat}(Pv:Nat→St→Hp→Prop)(h0:Pv 0 τ0 H0)
  (hs:∀ i τ H,i<n→Pv i τ H→g (.int (lo+i)) τ H fun τ2 H2=>tc τ2 H2 fun b H3=>if b=true then te τ2 H3 fun v H4=>∃ ys,H4 p=some (.lst ys)∧ys.length<sizeLine∧Pv (i+1) τ2 (upd H4 p (.lst (ys++[v]))) else Pv (i+1) τ2 H3)
  (hd:∀ τ H,Pv n τ H→EE H):lcW g tc te p (Itr lo n) τ0 H0 EE:=by
 refine⟨fun i m τ H=>m=n-i∧i≤n∧Pv i τ H,⟨_,rfl,Nat.zero_le _,h0⟩,?_⟩;rintro i m τ H ⟨rfl,hi,hp⟩;rcases Nat.lt_or_ge i n with h | h
 ·refine .inr ⟨h,Pv (i+1),fun τ' H' z=>⟨_,by omega,rfl,h,z⟩,?_⟩;rintro x H' ⟨rfl,rfl⟩;exact hs i τ H' h hp
 ·have e:i=n:=by omega
  subst e;exact .inl ⟨Nat.le_refl _,hd τ H hp⟩
theorem dc_tup (Pv:Nat→St→Hp→Prop)(h0:Pv 0 τ0 H0)(hl:∀ i τ H,i≤xs.length→Pv i τ H→SqT K H a xs)
  (hs:∀ i x τ H,xs[i]?=some x→Pv i τ H→g x τ H fun τ2 H2=>tc τ2 H2 fun b H3=>if b=true then te τ2 H3 fun k H4=>tv τ2 H4 fun v H5=>∃ H6,DPut H5 p k v H6∧Pv (i+1) τ2 H6 else Pv (i+1) τ2 H3)
  (hd:∀ τ H,Pv xs.length τ H→EE H):dcW g tc te tv p (Itt K a) τ0 H0 EE:=by
 refine⟨fun i m τ H=>m=xs.length-i∧i≤xs.length∧Pv i τ H,⟨_,rfl,Nat.zero_le _,h0⟩,?_⟩;rintro i m τ H ⟨rfl,hi,hp⟩;have hq:=hl i τ H hi hp;rcases Nat.lt_or_ge i xs.length with h | h
 ·have hx:xs[i]?=some xs[i]:=List.getElem?_eq_getElem h;refine .inr ⟨⟨xs,_,hq,hx⟩,Pv (i+1),fun τ' H' z=>⟨_,by omega,rfl,h,z⟩,?_⟩;rintro x H' ⟨rfl,hy⟩;have e:x=xs[i]:=by have:=hy xs hq;rw[hx] at this;exact (Option.some.inj this).symm
  subst e;exact hs i _ τ H' hx hp
 ·have e:i=xs.length:=by omega
  subst e;exact .inl ⟨⟨xs,hq,Nat.le_refl _⟩,hd τ H hp⟩
end
theorem call_intB {X:Cx}:CallR X (.type "int") (fun xs H Q=>∃ k,xs=[.bl k]∧Q (.int (if k then 1 else 0)) H):=fun pins s σ H xs us Q I r h=>call_int1 pins s σ H xs us Q I r (.inr h)
theorem upd_self {H:Hp}{a:Addr}{o:HO}(h:H a=some o):upd H a o=H:=by
 funext b;by_cases e:b=a
 ·subst e;rw[upd_same,h]
 ·rw[upd_ne e]
theorem Same.upd {H H':Hp}(s:Same H H'){p:Addr}{o:HO}(hp:H p=none):Same H (L2.upd H' p o):=fun b u e=>by
 rw[upd_ne (ne_of_none e hp)];exact s b u e
theorem Same.seqT {K:PySem.W.Frag}{H H':Hp}{a:Addr}{xs:List V}(e:Same H H')(h:SqT K H a xs):SqT K H' a xs:=by
 rcases h with (h | ⟨o,h⟩) | h
 ·exact .inl (.inl (e _ _ h))
 ·exact .inl (.inr ⟨o,e _ _ h⟩)
 ·exact .inr h
theorem sizeBig {n:Nat}(h:n≤16000000):n<sizeLine:=by rw[sizeLine_eq];omega
end L2
end
section
local macro_rules | `(tactic| omega)=>`(tactic| first | lia | omega +splitDisjunctions)
namespace L2
open PySem
def Tp (H H':Hp):Prop:=∀ a xs,H a=some (.tup xs)→H' a=some (.tup xs)
theorem Tp.refl (H:Hp):Tp H H:=fun _ _ h=>h
theorem Tp.trans {H H1 H2:Hp}(a:Tp H H1)(b:Tp H1 H2):Tp H H2:=fun c o h=>b c o (a c o h)
theorem Same.tp {H H':Hp}(s:Same H H'):Tp H H':=fun a xs h=>s a _ h
theorem ne_tl {H:Hp}{a b:Addr}{xs ys:List V}(h:H a=some (.tup xs))(h':H b=some (.lst ys)):a≠b:=fun e=>by subst e;rw[h] at h';cases h'
theorem ne_tdT {H:Hp}{a b:Addr}{xs:List V}{ys:List (List Key×V)}(h:H a=some (.tup xs))(h':H b=some (.dT ys)):a≠b:=fun e=>by subst e;rw[h] at h';cases h'
theorem ne_tdK {H:Hp}{a b:Addr}{xs:List V}{ys:List (Key×V)}(h:H a=some (.tup xs))(h':H b=some (.dK ys)):a≠b:=fun e=>by subst e;rw[h] at h';cases h'
theorem Tp.new {H H':Hp}(s:Tp H H'){p:Addr}{o:HO}(hp:H p=none):Tp H (upd H' p o):=fun a xs h=>by rw[upd_ne (ne_of_none h hp)];exact s a xs h
theorem Tp.lst {H:Hp}{p:Addr}{o:HO}{ys:List V}(hp:H p=some (.lst ys)):Tp H (upd H p o):=fun a xs h=>by rw[upd_ne (ne_tl h hp)];exact h
theorem Tp.dT {H:Hp}{p:Addr}{o:HO}{ys:List (List Key×V)}(hp:H p=some (.dT ys)):Tp H (upd H p o):=fun a xs h=>by rw[upd_ne (ne_tdT h hp)];exact h
theorem Tp.dK {H:Hp}{p:Addr}{o:HO}{ys:List (Key×V)}(hp:H p=some (.dK ys)):Tp H (upd H p o):=fun a xs h=>by rw[upd_ne (ne_tdK h hp)];exact h
theorem Tp.nw {H:Hp}{p:Addr}{o:HO}(hp:H p=none):Tp H (upd H p o):=(Tp.refl H).new hp
theorem at_new {H:Hp}{a p:Addr}{o u:HO}(h:H a=some o)(hp:H p=none):upd H p u a=some o:=by rw[upd_ne (ne_of_none h hp)];exact h
theorem of_upd_none {H:Hp}{p q:Addr}{o:HO}(h:upd H p o q=none):H q=none:=by
 by_cases e:q=p
 ·subst e;rw[upd_same] at h;cases h
 ·rwa [upd_ne e] at h
@[elab_as_elim] theorem fresh_of {G:Hp→Prop} {H:Hp} {p:Addr} {o:HO} (n:H p=none) (k:∀ H',Same H H'→H' p=some o→G H'):G (upd H p o):=k _ ((Same.refl H).upd n) upd_same
theorem seq_rest {a b:TS}{D:Ends}{σ:St}{H:Hp}(C:St→Hp→Prop)(ha:∀ R:St→Hp→Prop,(∀ σ H,C σ H→R σ H)→a {D with nx:=R} σ H)(hb:∀ σ H,C σ H→b D σ H):tSeq a b D σ H:=ha (b D) hb
def DsOk (ds:List Int):Prop:=ds.length≤2000∧∀ x∈ds,0≤x∧x<1000
def DkAt (H:Hp)(d:Addr):Prop:=∃ ds:List Int,H d=some (.lst (ds.map V.int))∧DsOk ds
def Kp (d:Addr)(H H':Hp):Prop:=∀ b o,b≠d→H b=some o→H' b=some o
theorem Kp.refl (d:Addr)(H:Hp):Kp d H H:=fun _ _ _ h=>h
theorem Kp.trans {d:Addr}{H H1 H2:Hp}(a:Kp d H H1)(b:Kp d H1 H2):Kp d H H2:=fun c o hc e=>b c o hc (a c o hc e)
theorem Same.kp {d:Addr}{H H':Hp}(s:Same H H'):Kp d H H':=fun b o _ h=>s b o h
theorem Kp.free {d:Addr}{H H':Hp}(k:Kp d H H')(hd:DkAt H' d){l:Addr}(h:H' l=none):H l=none:=by
 cases e:H l with
 | none=>rfl
 | some o =>
  by_cases q:l=d
  ·subst q;obtain⟨ds,e',_⟩:=hd;rw[e'] at h;cases h
  ·rw[k l o q e] at h;cases h
theorem Kp.new {d:Addr}{H H':Hp}(k:Kp d H H'){p:Addr}{o:HO}(hp:H p=none):Kp d H (upd H' p o):=fun b u hb e=>by
 rw[upd_ne (ne_of_none e hp)];exact k b u hb e
theorem DkAt.new {d:Addr}{H:Hp}(h:DkAt H d){p:Addr}{o:HO}(hp:p≠d):DkAt (upd H p o) d:=by
 obtain⟨ds,e,hl⟩:=h;exact⟨ds,by rw[upd_ne hp.symm];exact e,hl⟩
theorem DkAt.ne {d p:Addr}{H:Hp}(h:DkAt H d)(hp:H p=none):p≠d:=fun e=>by
 subst e;obtain⟨ds,e,_⟩:=h;rw[hp] at e;cases e
theorem DkAt.same {d:Addr}{H H':Hp}(h:DkAt H d)(s:Same H H'):DkAt H' d:=by
 obtain⟨ds,e,hl⟩:=h;exact⟨ds,s _ _ e,hl⟩
theorem Kp.tp {d:Addr}{H H':Hp}(k:Kp d H H')(hd:DkAt H d):Tp H H':=fun a xs h=>by
 refine k a _ (fun e=>?_) h;subst e;obtain⟨ds,e',_⟩:=hd;rw[h] at e';cases e'
def sp_mixed:Sp:=fun vs H Q _=>∃ c k:Int,vs=[.int c,.int k]∧0≤k∧k<2 ^ 30∧∀ z:Int,Q (.int z) H
def sp_next:Sp:=fun vs H Q _=>∃ (d:Addr) (ns:List Int),vs=[.ref d]∧H d=some (.lst (ns.map V.int))∧∀ (z:Int) (ns':List Int),ns'.length≤ns.length→(∀ x∈ns',x∈ns)→(z=0∨z∈ns)→Q (.int z) (upd H d (.lst (ns'.map V.int)))
theorem next_use {H:Hp}{d:Addr}{Q:VK}{E:XK}(hd:DkAt H d)(h:∀ z H',Kp d H H'→DkAt H' d→(∀ b,b≠d→H' b=H b)→Q (.int z) H'):sp_next [.ref d] H Q E:=by
 obtain⟨ds,e,hl,hb⟩:=hd;exact⟨d,ds,rfl,e,fun z ns' hn hs _=>h z _ (fun b o hb eb=>by rw[upd_ne hb];exact eb) ⟨ns',upd_same,by omega,fun x hx=>hb x (hs x hx)⟩ fun b hb=>upd_ne hb⟩
def sp_deck (K:PySem.W.Frag):Sp:=fun vs H Q _=>∃ (a:Addr) (m:Int) (ns:List Int),vs=[.ref a,.int m]∧SqL K H a (ns.map V.int)∧ns.length≤63∧0≤m∧m≤2000 ∧
 ∀ (p:Addr) (ds:List Int) (H':Hp),DsOk ds→Same H H'→H p=none→H' p=some (.lst (ds.map V.int))→Q (.ref p) H'
def sp_turn:Sp:=fun vs H Q _=>∃ (d:Addr) (n:Int),vs=[.ref d,.int n]∧DkAt H d∧0≤n∧n≤60 ∧
 ∀ (p:Addr) (ks:List Int) (H':Hp),Kp d H H'→DkAt H' d→H p=none→H' p=some (.tup (ks.map V.int))→ks.Perm (rInts 0 n.toNat)→Q (.ref p) H'
theorem turn_use {H:Hp}{d:Addr}{n:Int}{Q:VK}{E:XK}(hd:DkAt H d)(h0:0≤n)(h1:n≤60)(h:∀ (p:Addr) (ks:List Int) (H':Hp),Kp d H H'→DkAt H' d→H p=none→H' p=some (.tup (ks.map V.int))→ks.Perm (rInts 0 n.toNat)→Q (.ref p) H'):sp_turn [.ref d,.int n] H Q E :=
 ⟨d,n,rfl,hd,h0,h1,h⟩
theorem rInts_succ (i:Nat):rInts 0 (i+1)=rInts 0 i++[(0:Int)+i]:=by unfold rInts;rw[List.range_succ,List.map_append];rfl
def sp_law (K:PySem.W.Frag):Sp:=fun vs H Q _=>∃ (a:Addr) (ns:List Int),vs=[.ref a]∧SqL K H a (ns.map V.int)∧ns.length≤63∧∀ H',Q (.bl true) H'
def tl (t:Int×Int):List Int:=[t.1,t.2]
def Lex (t u:Int×Int):Prop:=t.1<u.1∨(t.1=u.1∧t.2<u.2)
structure IsWeb (n:Int)(ts:List (Int×Int)):Prop where
 n3:3≤n
 n60:n≤60
 rng:∀ t∈ts,0≤t.1∧t.1<t.2∧t.2<n
 srt:ts.Pairwise Lex
 len:ts.length≤200
 conn:∀ S:Int→Prop,(∀ t∈ts,S t.1↔S t.2)→∀ u v,0≤u→u<n→0≤v→v<n→S u→S v
structure PsAt (H:Hp)(ps:List (Addr×List Int))(ts:List (Int×Int)):Prop where
 to:∀ x∈ps,H x.1=some (.tup (x.2.map V.int))
 eq:ps.map (·.2)=ts.map tl
def TsAt (H:Hp)(q:Addr)(ts:List (Int×Int)):Prop:=∃ ps:List (Addr×List Int),H q=some (.tup (ps.map fun x=>V.ref x.1))∧PsAt H ps ts
def WebAt (H:Hp)(w:Addr)(n:Int)(ts:List (Int×Int)):Prop:=∃ q,H w=some (.tup [.int n,.ref q])∧TsAt H q ts
theorem PsAt.tp {H H':Hp}{ps:List (Addr×List Int)}{ts:List (Int×Int)}(h:PsAt H ps ts)(t:Tp H H'):PsAt H' ps ts:=⟨fun x hx=>t _ _ (h.to x hx),h.eq⟩
theorem TsAt.tp {H H':Hp}{q:Addr}{ts:List (Int×Int)}(h:TsAt H q ts)(t:Tp H H'):TsAt H' q ts:=by
 obtain⟨ps,e,p⟩:=h;exact⟨ps,t _ _ e,p.tp t⟩
theorem WebAt.tp {H H':Hp}{w:Addr}{n:Int}{ts:List (Int×Int)}(h:WebAt H w n ts)(t:Tp H H'):WebAt H' w n ts:=by
 obtain⟨q,e,p⟩:=h;exact⟨q,t _ _ e,p.tp t⟩
theorem PsAt.get {H:Hp}{ps:List (Addr×List Int)}{ts:List (Int×Int)}(h:PsAt H ps ts){i:Nat}{v:V}(e:(ps.map fun x=>V.ref x.1)[i]?=some v) :
  ∃ a t,v=.ref a∧ts[i]?=some t∧H a=some (.tup [.int t.1,.int t.2]):=by
 rw[List.getElem?_map] at e;cases hx:ps[i]? with
 | none=>rw[hx] at e;cases e
 | some x =>
  rw[hx] at e;have e1:V.ref x.1=v:=Option.some.inj e;have e2:(ps.map (·.2))[i]?=some x.2:=by rw[List.getElem?_map,hx];rfl
  rw[h.eq,List.getElem?_map] at e2;cases ht:ts[i]? with
  | none=>rw[ht] at e2;cases e2
  | some t =>
   rw[ht] at e2;have e3:tl t=x.2:=Option.some.inj e2;refine⟨x.1,t,e1.symm,rfl,?_⟩;rw[h.to x (List.mem_of_getElem? hx),← e3];rfl
theorem PsAt.len {H:Hp}{ps:List (Addr×List Int)}{ts:List (Int×Int)}(h:PsAt H ps ts):ps.length=ts.length:=by
 have:=congrArg List.length h.eq;simpa using this
def un (l:List Int):Int×Int:=(l.getD 0 0,l.getD 1 0)
theorem un_tl (t:Int×Int):un (tl t)=t:=rfl
theorem PsAt.of_perm {H:Hp}{ps:List (Addr×List Int)}{ts:List (Int×Int)}(h:∀ x∈ps,H x.1=some (.tup (x.2.map V.int)))(pm:(ps.map (·.2)).Perm (ts.map tl)):∃ ts',ts'.Perm ts∧PsAt H ps ts':=by
 refine⟨(ps.map (·.2)).map un,?_,h,?_⟩
 ·have:=pm.map un;rw[List.map_map (l:=ts),show (un ∘ tl)=id from funext un_tl,List.map_id] at this;exact this
 ·rw[List.map_map];conv=>lhs;rw[← List.map_id (ps.map (·.2))]
  refine List.map_congr_left fun l hl=>?_
  obtain⟨t,_,rfl⟩:=List.mem_map.mp (pm.mem_iff.mp hl);rfl
theorem PsAt.perm {H:Hp}{ps ps':List (Addr×List Int)}{ts:List (Int×Int)}(h:PsAt H ps ts)(pm:ps'.Perm ps):∃ ts',ts'.Perm ts∧PsAt H ps' ts' :=
 PsAt.of_perm (fun x hx=>h.to x (pm.mem_iff.mp hx)) (by rw[← h.eq];exact pm.map _)
theorem PsAt.srt {H:Hp}{ps:List (Addr×List Int)}{ts:List (Int×Int)}(h:PsAt H ps ts)(s:ps.Pairwise fun x y=>HT.lexLt y.2 x.2=false):ts.Pairwise fun x y=>HT.lexLt (tl y) (tl x)=false:=by
 have h1:(ps.map (·.2)).Pairwise fun x y=>HT.lexLt y x=false:=List.pairwise_map.mpr s
 rw[h.eq] at h1;exact List.pairwise_map.mp h1
theorem PsAt.src {K:PySem.W.Frag}{H:Hp}{p:Addr}{ps:List (Addr×List Int)}{ts:List (Int×Int)}(h:PsAt H ps ts)(e:H p=some (.lst (ps.map fun x=>V.ref x.1)))(hl:ps.length<64:=by omega):SrcT K H p ps:=by
 refine⟨.inl (SqL.of e),fun x hx=>⟨h.to x hx,fun e2=>?_⟩,hl⟩;have:x.2∈ps.map (·.2):=List.mem_map_of_mem hx;rw[h.eq] at this;obtain⟨t,_,e3⟩:=List.mem_map.mp this;rw[e2] at e3;cases e3
theorem PsAt.snoc {H:Hp}{ps:List (Addr×List Int)}{ts:List (Int×Int)}(h:PsAt H ps ts){q:Addr}{t:Int×Int}(e:H q=some (.tup [.int t.1,.int t.2])):PsAt H (ps++[(q,tl t)]) (ts++[t]):=by
 refine⟨fun x hx=>?_,by rw[List.map_append,List.map_append,h.eq];rfl⟩;rcases List.mem_append.mp hx with hx | hx
 ·exact h.to x hx
 ·cases List.mem_singleton.mp hx;exact e
def sp_web:Sp:=fun vs H Q _=>∃ (d:Addr) (lo hi:Int),vs=[.ref d,.int lo,.int hi]∧DkAt H d∧3≤lo∧lo≤hi∧hi≤20 ∧
 ∀ (w:Addr) (n:Int) (ts:List (Int×Int)) (H':Hp),Kp d H H'→DkAt H' d→lo≤n→n≤hi→IsWeb n ts→WebAt H' w n ts→Q (.ref w) H'
def kvT (fs:List (Int×Int)):List (List Key×V):=fs.map fun t=>([.inl t.1,.inl t.2],V.bl true)
def addT (fs:List (Int×Int))(t:Int×Int):List (Int×Int):=if t∈fs then fs else fs++[t]
theorem mem_addT {fs:List (Int×Int)}{t x:Int×Int}:x∈addT fs t↔x∈fs∨x=t:=by
 unfold addT;split
 ·exact⟨.inl,fun h=>h.elim id fun e=>by subst e;assumption⟩
 ·simp
theorem nd_addT {fs:List (Int×Int)}{t:Int×Int}(h:fs.Nodup):(addT fs t).Nodup:=by
 unfold addT;split
 ·exact h
 ·rename_i hn;rw[List.nodup_append];exact⟨h,by simp,fun a ha b hb e=>hn (by simp at hb;subst hb;subst e;exact ha)⟩
theorem len_addT {fs:List (Int×Int)}{t:Int×Int}:(addT fs t).length≤fs.length+1:=by
 unfold addT;split<;>simp
theorem kvT_put_len {fs:List (Int×Int)}(h:fs.length≤1000):(kvT fs).length<sizeLine:=by unfold kvT;rw[List.length_map];exact sizeBig (by omega)
theorem put_kvT (fs:List (Int×Int))(a b:Int):putK (kvT fs) [Sum.inl a,Sum.inl b] (V.bl true)=kvT (addT fs (a,b)):=by
 have key:∀ t:Int×Int,(([Sum.inl t.1,Sum.inl t.2]:List Key)=[Sum.inl a,Sum.inl b])↔t=(a,b):=fun t=>by
  obtain⟨x,y⟩:=t;constructor
  ·intro e;injection e with e1 e2
   injection e2 with e2 _
   injection e1 with e1
   injection e2 with e2
   subst e1;subst e2;rfl
  ·intro e;cases e;rfl
 unfold putK addT;by_cases h:(a,b)∈fs
 ·have h1:((kvT fs).any fun kv=>decide (kv.1=[Sum.inl a,Sum.inl b]))=true:=by
   rw[List.any_eq_true];exact⟨_,List.mem_map_of_mem h,by simp⟩
  rw[if_pos h1,if_pos h];unfold kvT;rw[List.map_map];refine List.map_congr_left fun t ht=>?_
  show (if _ then _ else _)=_;split<;>rfl
 ·have h1:¬ ((kvT fs).any fun kv=>decide (kv.1=[Sum.inl a,Sum.inl b]))=true:=by
   rw[List.any_eq_true];rintro⟨kv,hk,e⟩;obtain⟨t,ht,rfl⟩:=List.mem_map.mp hk;have:=(key t).mp (of_decide_eq_true e);subst this;exact h ht
  rw[if_neg h1,if_neg h];unfold kvT;rw[List.map_append];rfl
theorem kvT_len (fs:List (Int×Int)):(kvT fs).length=fs.length:=by unfold kvT;simp
theorem kvT_keys (fs:List (Int×Int)):(kvT fs).map (·.1)=(fs.map tl).map (fun ks=>ks.map (Sum.inl:Int→Key)):=by
 unfold kvT tl;rw[List.map_map,List.map_map];rfl
def nm (ks:List Int)(u:Int):Int:=ks.getD u.toNat 0
def ren (ks:List Int)(t:Int×Int):Int×Int:=(if nm ks t.2<nm ks t.1 then nm ks t.2 else nm ks t.1,if nm ks t.2>nm ks t.1 then nm ks t.2 else nm ks t.1)
section
variable {ks:List Int}{n:Int}
theorem nm_at (hp:ks.Perm (rInts 0 n.toNat)){u:Int}(h0:0≤u)(h1:u<n):ks[u.toNat]?=some (nm ks u):=by
 have hl:ks.length=n.toNat:=by rw[hp.length_eq,rInts_length]
 have hu:u.toNat<ks.length:=by omega
 unfold nm;rw[List.getD_eq_getElem?_getD,List.getElem?_eq_getElem hu];rfl
theorem nm_rng (hp:ks.Perm (rInts 0 n.toNat)){u:Int}(h0:0≤u)(h1:u<n):0≤nm ks u∧nm ks u<n:=by
 have hm:=hp.mem_iff.mp (List.mem_of_getElem? (nm_at hp h0 h1));unfold rInts at hm;obtain⟨i,hi,e⟩:=List.mem_map.mp hm;have:=List.mem_range.mp hi;omega
theorem nm_inj (hp:ks.Perm (rInts 0 n.toNat)){u v:Int}(h0:0≤u)(h1:u<n)(k0:0≤v)(k1:v<n)(e:nm ks u=nm ks v):u=v:=by
 have hnd:ks.Nodup:=hp.nodup_iff.mpr (by
  unfold rInts;refine List.pairwise_map.mpr (List.Pairwise.imp ?_ List.pairwise_lt_range)
  intro a b h e;omega)
 have a1:=nm_at hp h0 h1;have a2:=nm_at hp k0 k1;rw[← e] at a2;have hl:ks.length=n.toNat:=by rw[hp.length_eq,rInts_length]
 have:=(List.getElem?_inj (l:=ks) (i:=u.toNat) (j:=v.toNat) (by omega) hnd).mp (by rw[a1,a2]);omega
theorem nm_sur (hp:ks.Perm (rInts 0 n.toNat)){v:Int}(k0:0≤v)(k1:v<n):∃ u,0≤u∧u<n∧nm ks u=v:=by
 have hm:v∈rInts 0 n.toNat:=by
  unfold rInts;exact List.mem_map.mpr ⟨v.toNat,List.mem_range.mpr (by omega),by omega⟩
 obtain⟨i,hi,e⟩:=List.getElem_of_mem (hp.mem_iff.mpr hm);have hl:ks.length=n.toNat:=by rw[hp.length_eq,rInts_length]
 refine⟨(i:Int),by omega,by omega,?_⟩;unfold nm;rw[List.getD_eq_getElem?_getD,Int.toNat_natCast,List.getElem?_eq_getElem hi];exact e
theorem lex_iff {t u:Int×Int}:HT.lexLt (tl t) (tl u)=true↔Lex t u:=by
 unfold tl Lex;rw[HT.lexLt_cons];split
 ·rename_i h;rw[HT.lexLt_cons];split
  ·rename_i h2;constructor
   ·intro e;cases e
   ·intro e;omega
  ·rename_i h2;rw[decide_eq_true_iff];constructor
   ·intro e;exact .inr ⟨h,e⟩
   ·intro e;rcases e with e | e
    ·omega
    ·exact e.2
 ·rename_i h;rw[decide_eq_true_iff];constructor
  ·intro e;exact .inl e
  ·intro e;rcases e with e | e
   ·exact e
   ·exact absurd e.1 h
theorem web_ren {fs ts:List (Int×Int)}(h3:3≤n)(h60:n≤60)(hnd:fs.Nodup)(hrng:∀ t∈fs,0≤t.1∧t.1<t.2∧t.2<n)(hlen:fs.length≤200)(hah:∀ k:Int,1≤k→k<n→∃ a,0≤a∧a<k∧(a,k)∈fs)
  (hp:ks.Perm (rInts 0 n.toNat)) (hts:ts.Perm (fs.map (ren ks))) (hs:ts.Pairwise fun x y=>HT.lexLt (tl y) (tl x)=false):IsWeb n ts:=by
 have rr:∀ t∈fs,0≤(ren ks t).1∧(ren ks t).1<(ren ks t).2∧(ren ks t).2<n:=fun t ht=>by
  obtain⟨h0,h1,h2⟩:=hrng t ht;have a:=nm_rng hp h0 (by omega);have b:=nm_rng hp (u:=t.2) (by omega) h2;have c:nm ks t.1≠nm ks t.2:=fun e=>by have:=nm_inj hp h0 (by omega) (by omega) h2 e;omega
  unfold ren;dsimp only;split<;>split<;>omega
 have inj:∀ t∈fs,∀ u∈fs,ren ks t=ren ks u→t=u:=fun t ht u hu e=>by
  obtain⟨h0,h1,h2⟩:=hrng t ht;obtain⟨k0,k1,k2⟩:=hrng u hu;unfold ren at e;injection e with e1 e2
  have i1:nm ks t.1=nm ks u.1→t.1=u.1:=nm_inj hp h0 (by omega) k0 (by omega);have i2:nm ks t.2=nm ks u.2→t.2=u.2:=nm_inj hp (by omega) h2 (by omega) k2;have i3:nm ks t.1=nm ks u.2→t.1=u.2:=nm_inj hp h0 (by omega) (by omega) k2;have i4:nm ks t.2=nm ks u.1→t.2=u.1:=nm_inj hp (by omega) h2 k0 (by omega);have:t.1=u.1∧t.2=u.2:=by
   split at e1<;>split at e1<;>split at e2<;>split at e2<;>omega
  obtain⟨q1,q2⟩:=this;cases t;cases u;simp at q1 q2;rw[q1,q2]
 have nd2:(fs.map (ren ks)).Nodup:=by
  refine List.pairwise_map.mpr ?_;refine List.Pairwise.imp_of_mem ?_ hnd;intro a b ha hb hab e;exact hab (inj a ha b hb e)
 have nd3:ts.Nodup:=hts.nodup_iff.mpr nd2;refine⟨h3,h60,fun t ht=>?_,?_,by rw[hts.length_eq,List.length_map];exact hlen,fun S hS=>?_⟩
 ·obtain⟨u,hu,rfl⟩:=List.mem_map.mp (hts.mem_iff.mp ht);exact rr u hu
 ·refine (List.Pairwise.and hs nd3).imp ?_;rintro a b ⟨h1,h2⟩;have h3:¬ Lex b a:=fun e=>by rw[lex_iff.mpr e] at h1;cases h1
  have h4:a.1≠b.1∨a.2≠b.2:=by
   by_cases q:a.1=b.1
   ·refine .inr fun e=>h2 ?_
    cases a;cases b;simp at q e;rw[q,e]
   ·exact .inl q
  unfold Lex at h3 ⊢;omega
 ·have hf:∀ t∈fs,S (nm ks t.1)↔S (nm ks t.2):=fun t ht=>by
   have:=hS _ (hts.mem_iff.mpr (List.mem_map_of_mem ht));unfold ren at this
   revert this
   dsimp only;obtain⟨h0,h1,h2⟩:=hrng t ht;have c:nm ks t.1≠nm ks t.2:=fun e=>by have:=nm_inj hp h0 (by omega) (by omega) h2 e;omega
   split<;>split<;>intro q
   ·omega
   ·exact q.symm
   ·exact q
   ·omega
  have h0:∀ m:Nat,∀ k:Int,0≤k→k<n→k.toNat=m→(S (nm ks k)↔S (nm ks 0)):=by
   intro m;induction m using Nat.strongRecOn with
   | ind m ih =>
    intro k k0 k1 e;by_cases hk:k=0
    ·subst hk;exact Iff.rfl
    ·obtain⟨a,a0,a1,hm⟩:=hah k (by omega) k1;exact (hf _ hm).symm.trans (ih a.toNat (by omega) a a0 (by omega) rfl)
  intro u v u0 u1 v0 v1 su;obtain⟨u',p0,p1,rfl⟩:=nm_sur hp u0 u1;obtain⟨v',q0,q1,rfl⟩:=nm_sur hp v0 v1;exact (h0 _ v' q0 q1 rfl).mpr ((h0 _ u' p0 p1 rfl).mp su)
end
end L2
end
section
namespace L2
open PySem
def nb (ts:List (Int×Int))(v:Int):List Int:=ts.filterMap fun t=>if t.1=v then some t.2 else if t.2=v then some t.1 else none
def rowsOf (n:Int)(ts:List (Int×Int)):List (List Int):=(List.range n.toNat).map fun (v:Nat)=>nb ts (v:Int)
structure RowsAt (H:Hp)(p:Addr)(as:List Addr)(rows:List (List Int)):Prop where
 top:H p=some (.lst (as.map V.ref))
 len:as.length=rows.length
 nd:as.Nodup
 np:p∉as
 row:∀ (i:Nat) a r,as[i]?=some a→rows[i]?=some r→H a=some (.lst (r.map V.int))
section
variable {H H':Hp}{p:Addr}{as:List Addr}{rows:List (List Int)}
theorem RowsAt.mono (h:RowsAt H p as rows)(k:∀ a o,a=p∨a∈as→H a=some o→H' a=some o):RowsAt H' p as rows :=
 ⟨k _ _ (.inl rfl) h.top,h.len,h.nd,h.np,fun i a r ha hr=>k _ _ (.inr (List.mem_of_getElem? ha)) (h.row i a r ha hr)⟩
theorem RowsAt.same (h:RowsAt H p as rows)(s:Same H H'):RowsAt H' p as rows:=h.mono fun a o _ e=>s a o e
theorem RowsAt.kp {d:Addr}(h:RowsAt H p as rows)(k:Kp d H H')(hp:d≠p)(ha:d∉as):RowsAt H' p as rows :=
 h.mono fun a o q e=>k a o (fun e2=>by subst e2;exact q.elim hp ha) e
theorem RowsAt.app (h:RowsAt H p as rows){i:Nat}{a:Addr}{r:List Int}(ha:as[i]?=some a)(hr:rows[i]?=some r)(x:Int):RowsAt (upd H a (.lst ((r++[x]).map V.int))) p as (rows.set i (r++[x])):=by
 have hpa:p≠a:=fun e=>h.np (by rw[e];exact List.mem_of_getElem? ha)
 refine⟨by rw[upd_ne hpa];exact h.top,by rw[List.length_set];exact h.len,h.nd,h.np,fun j b s hb hs=>?_⟩;by_cases e:j=i
 ·subst e;rw[ha] at hb;cases hb;rw[List.getElem?_set_self (List.getElem?_eq_some_iff.mp hr).1] at hs;cases hs;exact upd_same
 ·have hba:b≠a:=fun e2=>by
   subst e2;exact e ((List.getElem?_inj (List.getElem?_eq_some_iff.mp hb).1 h.nd).mp (by rw[hb,ha]))
  rw[List.getElem?_set_ne (Ne.symm e)] at hs;rw[upd_ne hba];exact h.row j b s hb hs
theorem RowsAt.snoc (h:RowsAt H p as rows){q:Addr}(hq:H q=none){r:List Int}:RowsAt (upd (upd H q (.lst (r.map V.int))) p (.lst ((as++[q]).map V.ref))) p (as++[q]) (rows++[r]):=by
 have hpq:p≠q:=ne_of_none h.top hq;have hqa:q∉as:=fun hm=>by
  obtain⟨i,hi,e⟩:=List.getElem_of_mem hm;have hi2:i<rows.length:=by have:=h.len;omega
  have:=h.row i q rows[i] (by rw[List.getElem?_eq_getElem hi,e]) (List.getElem?_eq_getElem hi2);rw[hq] at this;cases this
 refine⟨upd_same,by rw[List.length_append,List.length_append,h.len];rfl,?_,?_,?_⟩
 ·rw[List.nodup_append];exact⟨h.nd,by simp,fun a ha b hb e=>by simp at hb;subst hb;subst e;exact hqa ha⟩
 ·intro hm;rcases List.mem_append.mp hm with hm | hm
  ·exact h.np hm
  ·exact hpq (List.mem_singleton.mp hm)
 ·intro i a s ha hs;by_cases hi:i<as.length
  ·rw[List.getElem?_append_left hi] at ha;rw[List.getElem?_append_left (by rw[← h.len];exact hi)] at hs;have ham:=List.mem_of_getElem? ha;have h1:a≠p:=fun e=>by subst e;exact h.np ham
   have h2:a≠q:=fun e=>by subst e;exact hqa ham
   rw[upd_ne h1,upd_ne h2];exact h.row i a s ha hs
  ·rw[List.getElem?_append_right (by omega)] at ha;rw[List.getElem?_append_right (by rw[← h.len];omega)] at hs;have e0:i-as.length=0:=by
    have:=(List.getElem?_eq_some_iff.mp ha).1;simp at this;omega
   rw[e0] at ha;rw[← h.len,e0] at hs;cases ha;cases hs;rw[upd_ne hpq.symm,upd_same]
theorem RowsAt.nil (h:H p=some (.lst [])):RowsAt H p [] []:=⟨h,rfl,by simp,by simp,fun i a r ha=>by cases ha⟩
theorem RowsAt.get (h:RowsAt H p as rows){v:Int}(h0:0≤v){r:List Int}(hr:rows[v.toNat]?=some r):∃ a,as[v.toNat]?=some a∧atI (as.map V.ref) v=some (.ref a)∧H a=some (.lst (r.map V.int))∧a≠p:=by
 have hl:=(List.getElem?_eq_some_iff.mp hr).1;have hl2:v.toNat<as.length:=by have:=h.len;omega
 have ha:as[v.toNat]?=some as[v.toNat]:=List.getElem?_eq_getElem hl2;refine⟨_,ha,?_,h.row _ _ _ ha hr,fun e=>h.np (by rw[← e];exact List.mem_of_getElem? ha)⟩;have:=atI_nat (xs:=as.map V.ref) (j:=v.toNat) (v:=V.ref as[v.toNat]) (by rw[List.getElem?_map,ha];rfl);rw[Int.toNat_of_nonneg h0] at this;exact this
end
theorem rowsOf_get {n:Int}{ts:List (Int×Int)}{v:Int}(h0:0≤v)(h1:v<n):(rowsOf n ts)[v.toNat]?=some (nb ts v):=by
 unfold rowsOf;rw[List.getElem?_map,List.getElem?_range (by omega)];show some (nb ts ((v.toNat:Nat):Int))=_;rw[Int.toNat_of_nonneg h0]
theorem rowsOf_len (n:Int)(ts:List (Int×Int)):(rowsOf n ts).length=n.toNat:=by unfold rowsOf;simp
theorem nb_snoc (ts:List (Int×Int))(t:Int×Int)(v:Int):nb (ts++[t]) v=nb ts v++(if t.1=v then [t.2] else if t.2=v then [t.1] else []):=by
 unfold nb;rw[List.filterMap_append];congr 1;by_cases h1:t.1=v
 ·simp[h1]
 ·by_cases h2:t.2=v
  ·simp[h1,h2]
  ·simp[h1,h2]
theorem rowsOf_snoc {n:Int}{ts:List (Int×Int)}{t:Int×Int}(h0:0≤t.1)(h1:t.1<t.2)(h2:t.2<n) :
  rowsOf n (ts++[t])=((rowsOf n ts).set t.1.toNat (nb ts t.1++[t.2])).set t.2.toNat (nb ts t.2++[t.1]):=by
 refine List.ext_getElem? fun i=>?_
 by_cases hi:i<n.toNat
 ·have hl:∀ us:List (Int×Int),(rowsOf n us)[i]?=some (nb us (i:Int)):=fun us=>by
   have:=rowsOf_get (n:=n) (ts:=us) (v:=(i:Int)) (by omega) (by omega);simpa using this
  rw[hl,nb_snoc];by_cases e2:i=t.2.toNat
  ·subst e2;rw[List.getElem?_set_self (by rw[List.length_set,rowsOf_len];exact hi)];rw[Int.toNat_of_nonneg (by omega),if_neg (by omega),if_pos rfl]
  ·rw[List.getElem?_set_ne (Ne.symm e2)];by_cases e1:i=t.1.toNat
   ·subst e1;rw[List.getElem?_set_self (by rw[rowsOf_len];exact hi)];rw[Int.toNat_of_nonneg h0,if_pos rfl]
   ·rw[List.getElem?_set_ne (Ne.symm e1),hl,if_neg (by omega),if_neg (by omega),List.append_nil]
 ·rw[List.getElem?_eq_none (by rw[rowsOf_len];omega),List.getElem?_eq_none (by rw[List.length_set,List.length_set,rowsOf_len];omega)]
theorem mem_nb {ts:List (Int×Int)}{v x:Int}:x∈nb ts v↔(v,x)∈ts∨((x,v)∈ts)∧(x≠v∨(v,x)∈ts):=by
 unfold nb;rw[List.mem_filterMap];constructor
 ·rintro⟨t,ht,e⟩;obtain⟨a,b⟩:=t;dsimp only at e;split at e
  ·rename_i h;cases e;subst h;exact .inl ht
  ·rename_i h;split at e
   ·rename_i h2;cases e;subst h2;exact .inr ⟨ht,.inl h⟩
   ·cases e
 ·rintro (h | ⟨h,h'⟩)
  ·exact⟨_,h,by simp⟩
  ·rcases h' with h' | h'
   ·exact⟨_,h,by simp[h']⟩
   ·exact⟨_,h',by simp⟩
def TsOk (n:Int)(ts:List (Int×Int)):Prop:=∀ t∈ts,0≤t.1∧t.1<t.2∧t.2<n
theorem nb_sym {n:Int}{ts:List (Int×Int)}(h:TsOk n ts){v x:Int}:x∈nb ts v↔v∈nb ts x:=by
 rw[mem_nb,mem_nb];constructor
 ·rintro (q | ⟨q,q'⟩)
  ·exact .inr ⟨q,.inl (by have:=h _ q;dsimp only at this;omega)⟩
  ·exact .inl q
 ·rintro (q | ⟨q,q'⟩)
  ·exact .inr ⟨q,.inl (by have:=h _ q;dsimp only at this;omega)⟩
  ·exact .inl q
theorem nb_rng {n:Int}{ts:List (Int×Int)}(h:TsOk n ts){v x:Int}(hx:x∈nb ts v):0≤x∧x<n∧0≤v∧v<n∧x≠v:=by
 rcases mem_nb.mp hx with q | ⟨q,_⟩
 ·have:=h _ q;dsimp only at this;omega
 ·have:=h _ q;dsimp only at this;omega
theorem nb_lt {n:Int}{ts:List (Int×Int)}(h:TsOk n ts)(hs:ts.Pairwise Lex)(v:Int):(nb ts v).Pairwise (·<·):=by
 unfold nb;rw[List.pairwise_filterMap];refine List.Pairwise.imp_of_mem ?_ hs;intro a b ha hb hab x hx y hy;have h1:=h a ha;have h2:=h b hb;unfold Lex at hab;have cx:(a.1=v∧a.2=x)∨(a.2=v∧a.1=x):=by
  split at hx
  ·rename_i q;cases hx;exact .inl ⟨q,rfl⟩
  ·split at hx
   ·rename_i q;cases hx;exact .inr ⟨q,rfl⟩
   ·cases hx
 have cy:(b.1=v∧b.2=y)∨(b.2=v∧b.1=y):=by
  split at hy
  ·rename_i q;cases hy;exact .inl ⟨q,rfl⟩
  ·split at hy
   ·rename_i q;cases hy;exact .inr ⟨q,rfl⟩
   ·cases hy
 omega
theorem nb_len {ts:List (Int×Int)}(v:Int):(nb ts v).length≤ts.length:=by unfold nb;exact List.length_filterMap_le _ _
theorem sorted_self {l l':List Int}(p:l'.Perm l)(s:l'.Pairwise (·≤·))(h:l.Pairwise (·<·)):l'=l :=
 List.Perm.eq_of_pairwise (le:=(·≤·)) (fun _ _ _ _ a b=>Int.le_antisymm a b) s (h.imp fun a=>Int.le_of_lt a) p
theorem rising_ext {l l':List Int}(h:l.Pairwise (·<·))(h':l'.Pairwise (·<·))(e:∀ x,x∈l↔x∈l'):l=l':=by
 refine List.Perm.eq_of_pairwise (le:=(·<·)) (fun a b _ _ x y=>by omega) h h' ?_;refine (List.perm_ext_iff_of_nodup (h.imp fun x e=>by omega) (h'.imp fun x e=>by omega)).mpr e
structure FrAt (H Hc:Hp)(p:Addr)(as:List Addr)(rows:List (List Int)):Prop where
 same:Same H Hc
 np:H p=none
 na:∀ a∈as,H a=none
 rows:RowsAt Hc p as rows
theorem rowsOf_nil (n:Int):rowsOf n []=List.replicate n.toNat []:=by
 unfold rowsOf nb;refine List.ext_getElem? fun i=>?_
 by_cases h:i<n.toNat
 ·rw[List.getElem?_map,List.getElem?_range h,List.getElem?_replicate,if_pos h];rfl
 ·rw[List.getElem?_eq_none (by simp;omega),List.getElem?_eq_none (by simp;omega)]
theorem FrAt.step {H Hc:Hp}{p:Addr}{as:List Addr}{n:Int}{us:List (Int×Int)}{t:Int×Int}(h:FrAt H Hc p as (rowsOf n us))(h0:0≤t.1)(h1:t.1<t.2)(h2:t.2<n) :
  ∃ a1 a2,atI (as.map V.ref) t.1=some (.ref a1)∧Hc a1=some (.lst ((nb us t.1).map V.int))∧(upd Hc a1 (.lst ((nb us t.1).map V.int++[V.int t.2]))) p=some (.lst (as.map V.ref))∧atI (as.map V.ref) t.2=some (.ref a2) ∧
   (upd Hc a1 (.lst ((nb us t.1).map V.int++[V.int t.2]))) a2=some (.lst ((nb us t.2).map V.int)) ∧
   FrAt H (upd (upd Hc a1 (.lst ((nb us t.1).map V.int++[V.int t.2]))) a2 (.lst ((nb us t.2).map V.int++[V.int t.1]))) p as (rowsOf n (us++[t])):=by
 have g1:=rowsOf_get (n:=n) (ts:=us) h0 (show t.1<n by omega);have g2:=rowsOf_get (n:=n) (ts:=us) (show 0≤t.2 by omega) h2;obtain⟨a1,e1,r1,c1,p1⟩:=h.rows.get h0 g1;have R1:=h.rows.app e1 g1 t.2;have g2':((rowsOf n us).set t.1.toNat (nb us t.1++[t.2]))[t.2.toNat]?=some (nb us t.2):=by
  rw[List.getElem?_set_ne (by omega)];exact g2
 obtain⟨a2,e2,r2,c2,p2⟩:=R1.get (show 0≤t.2 by omega) g2';have R2:=R1.app e2 g2' t.1;rw[← rowsOf_snoc h0 h1 h2] at R2;rw[List.map_append] at R1 R2 c2;rw[List.map_append] at R2;refine⟨a1,a2,r1,c1,R1.top,r2,c2,?_,h.np,h.na,R2⟩;exact (h.same.upd (h.na _ (List.mem_of_getElem? e1))).upd (h.na _ (List.mem_of_getElem? e2))
def inv_rows1 (H:Hp)(p:Addr)(i:Nat)(τ:St)(Hc:Hp):Prop:=∃ (c:Option V) (as:List Addr),τ=[c]∧FrAt H Hc p as (List.replicate i [])
theorem TsAt.get {H:Hp}{q:Addr}{ts:List (Int×Int)}(h:TsAt H q ts):∃ xs,H q=some (.tup xs)∧xs.length=ts.length∧∀ (i:Nat) v,xs[i]?=some v→∃ a t,v=.ref a∧ts[i]?=some t∧H a=some (.tup [.int t.1,.int t.2]):=by
 obtain⟨ps,e,hp⟩:=h;exact⟨_,e,by rw[List.length_map];exact hp.len,fun i v hv=>hp.get hv⟩
def sp_nrows:Sp:=fun vs H Q _=>∃ (w:Addr) (n:Int) (ts:List (Int×Int)),vs=[.ref w]∧WebAt H w n ts∧0≤n∧n≤1000∧ts.length≤1000∧TsOk n ts ∧
 ∀ (p:Addr) (as:List Addr) (H':Hp),Same H H'→H p=none→(∀ a∈as,H a=none)→RowsAt H' p as (rowsOf n ts)→Q (.ref p) H'
def sp_near:Sp:=fun vs H Q _=>∃ (w:Addr) (n:Int) (ts:List (Int×Int)),vs=[.ref w]∧WebAt H w n ts∧0≤n∧n≤60∧ts.length≤1000∧TsOk n ts∧ts.Pairwise Lex ∧
 ∀ (p:Addr) (as:List Addr) (H':Hp),Same H H'→H p=none→(∀ a∈as,H a=none)→RowsAt H' p as (rowsOf n ts)→Q (.ref p) H'
end L2
end
section
namespace L2
open PySem
theorem inV_int (x:Int)(us:List Int):inV (.int x) (us.map V.int)=decide (x∈us):=by
 unfold inV;induction us with
 | nil=>rfl
 | cons u r ih =>
  rw[List.map_cons,List.any_cons,ih];show (decide (u=x) || _)=_;by_cases h:u=x
  ·subst h;simp
  ·have h':¬ x=u:=fun e=>h e.symm
   simp[h,h']
theorem flat_ints (us:List Int):(us.map V.int).all flatV=true:=by
 rw[List.all_eq_true];intro v hv;obtain⟨u,_,rfl⟩:=List.mem_map.mp hv;rfl
section
variable {K:PySem.W.Frag}{H:Hp}{p:Addr}{us:List Int}{x:Int}{Q:VK}
theorem in_use (h:SqL K H p (us.map V.int)∨SqT K H p (us.map V.int))(q:Q (.bl (decide (x∈us))) H):rIn K false (.int x) (.ref p) H Q :=
 ⟨p,_,rfl,h,rfl,flat_ints us,by rw[inV_int];exact q⟩
theorem notin_use (h:SqL K H p (us.map V.int)∨SqT K H p (us.map V.int))(q:Q (.bl (!decide (x∈us))) H):rIn K true (.int x) (.ref p) H Q :=
 ⟨p,_,rfl,h,rfl,flat_ints us,by rw[inV_int];exact q⟩
end
def kvI (us:List Int):List (Key×V):=us.map fun x=>(Sum.inl x,V.bl true)
def addI (us:List Int)(x:Int):List Int:=if x∈us then us else us++[x]
theorem mem_addI {us:List Int}{x y:Int}:y∈addI us x↔y∈us∨y=x:=by
 unfold addI;split
 ·exact⟨.inl,fun h=>h.elim id fun e=>by subst e;assumption⟩
 ·simp
theorem nd_addI {us:List Int}{x:Int}(h:us.Nodup):(addI us x).Nodup:=by
 unfold addI;split
 ·exact h
 ·rename_i hn;rw[List.nodup_append];exact⟨h,by simp,fun a ha b hb e=>hn (by simp at hb;subst hb;subst e;exact ha)⟩
theorem len_addI {us:List Int}{x:Int}:(addI us x).length≤us.length+1:=by
 unfold addI;split<;>simp
theorem kvI_len (us:List Int):(kvI us).length=us.length:=by unfold kvI;simp
theorem key_inj {a b:Int}:(Sum.inl a:Key)=Sum.inl b↔a=b:=⟨fun e=>by injection e,fun e=>by rw[e]⟩
theorem put_kvI (us:List Int)(x:Int):putK (kvI us) (Sum.inl x) (V.bl true)=kvI (addI us x):=by
 unfold putK addI;by_cases h:x∈us
 ·have h1:((kvI us).any fun kv=>decide (kv.1=Sum.inl x))=true:=by
   rw[List.any_eq_true];exact⟨_,List.mem_map_of_mem h,by simp⟩
  rw[if_pos h1,if_pos h];unfold kvI;rw[List.map_map];refine List.map_congr_left fun t ht=>?_
  show (if _ then _ else _)=_;split<;>rfl
 ·have h1:¬ ((kvI us).any fun kv=>decide (kv.1=Sum.inl x))=true:=by
   rw[List.any_eq_true];rintro⟨kv,hk,e⟩;obtain⟨t,ht,rfl⟩:=List.mem_map.mp hk;have:=key_inj.mp (of_decide_eq_true e);subst this;exact h ht
  rw[if_neg h1,if_neg h];unfold kvI;rw[List.map_append];rfl
theorem val_kvI (us:List Int)(x:Int):(valV (kvI us) (Sum.inl x)).isSome=decide (x∈us):=by
 induction us with
 | nil=>rfl
 | cons u r ih =>
  unfold kvI at ih ⊢;rw[List.map_cons];by_cases h:u=x
  ·rw[valV_pos (key_inj.mpr h)];subst h;simp
  ·rw[valV_neg (fun e=>h (key_inj.mp e)),ih];have h':¬ x=u:=fun e=>h e.symm
   simp[h']
theorem kvI_keys (us:List Int):(kvI us).map (·.1)=us.map (Sum.inl:Int→Key):=by
 unfold kvI;rw[List.map_map];rfl
theorem drop_kvI (us:List Int)(x:Int):dropK (kvI us) (Sum.inl x)=kvI (us.filter fun y=>decide (y≠x)):=by
 unfold dropK kvI;rw[List.filter_map];congr 1;refine List.filter_congr fun y _=>?_
 show decide (_≠_)=_;by_cases h:y=x
 ·subst h;simp
 ·have:¬ (Sum.inl y:Key)=Sum.inl x:=fun e=>h (key_inj.mp e)
  simp[h,this]
theorem kvI_small {us:List Int}(h:us.length≤100000):(kvI us).length<sizeLine:=by rw[kvI_len];exact sizeBig (by omega)
theorem nd_sub:∀ {us l:List Int},us.Nodup→us ⊆ l→us.length≤l.length
 | [],_,_,_=>Nat.zero_le _
 | x::r,l,hn,hs=>by
  have hx:x∈l:=hs (List.mem_cons_self ..);have hn':=List.nodup_cons.mp hn;have:=nd_sub (us:=r) (l:=l.erase x) hn'.2 (fun y hy=>(List.mem_erase_of_ne (fun e=>by subst e;exact hn'.1 hy)).mpr (hs (List.mem_cons_of_mem _ hy)));rw[List.length_erase_of_mem hx] at this;have:=List.length_pos_of_mem hx;rw[List.length_cons];omega
theorem nd_len {us:List Int}{n:Int}(hnd:us.Nodup)(h:∀ x∈us,0≤x∧x<n):us.length≤n.toNat:=by
 have hs:us ⊆ rInts 0 n.toNat:=fun x hx=>by
  obtain⟨h0,h1⟩:=h x hx;unfold rInts;exact List.mem_map.mpr ⟨x.toNat,List.mem_range.mpr (by omega),by omega⟩
 have:=nd_sub hnd hs;rw[rInts_length] at this;exact this
theorem rInts_lt (n:Nat):(rInts 0 n).Pairwise (·<·):=by
 unfold rInts;refine List.pairwise_map.mpr (List.pairwise_lt_range.imp ?_);intro a b h;omega
theorem mem_rInts {n:Nat}{x:Int}:x∈rInts 0 n↔0≤x∧x<n:=by
 unfold rInts;rw[List.mem_map];constructor
 ·rintro⟨i,hi,rfl⟩;have:=List.mem_range.mp hi;omega
 ·rintro⟨h0,h1⟩;exact⟨x.toNat,List.mem_range.mpr (by omega),by omega⟩
theorem fil_pos (p:Int→Bool){x:Int}(h:p x=true):[x].filter p=[x]:=List.filter_cons_of_pos h
theorem fil_neg (p:Int→Bool){x:Int}(h:¬ p x=true):[x].filter p=[]:=List.filter_cons_of_neg h
theorem rising_nd {l:List Int}(h:l.Pairwise (·<·)):l.Nodup:=h.imp fun x e=>by omega
theorem nb_64 {n:Int}{ts:List (Int×Int)}(h:TsOk n ts)(hs:ts.Pairwise Lex)(hn:n≤60)(v:Int):(nb ts v).length<63:=by
 have:=nd_len (rising_nd (nb_lt h hs v)) fun x hx=>⟨(nb_rng h hx).1,(nb_rng h hx).2.1⟩
 omega
theorem sorted_rising {l l':List Int}(p:l'.Perm l)(s:l'.Pairwise (·≤·))(h:l.Nodup):l'.Pairwise (·<·):=by
 refine (List.Pairwise.and s (p.nodup_iff.mpr h)).imp ?_;rintro a b ⟨h1,h2⟩;omega
end L2
end
section
namespace L2
open PySem PySem.Spec PyProof.Rows
theorem cF_lookup {x:Str}{c:Addr}:∀ (names:List (Str×NameKind)) (n:Nat) (acc:List (Str×Addr)),(cellsFrom n names acc).lookup x=some c →
  (acc.lookup x=some c∧∀ y∈names,y.2=.cell→y.1≠x)∨(n≤c∧(x,NameKind.cell)∈names)
 | [],n,acc,h=>.inl ⟨h,fun y hy=>nomatch hy⟩
 | (y,k)::r,n,acc,h=>by
  unfold cellsFrom at h;by_cases hk:(k == NameKind.cell)=true
  ·have ek:k=.cell:=by simpa using hk
   rw[if_pos hk] at h;rcases cF_lookup r (n+1) _ h with ⟨h1,h2⟩ | ⟨h1,h2⟩
   ·rw[lookup_cons'] at h1;by_cases e:x=y
    ·rw[if_pos e] at h1;cases h1;exact .inr ⟨Nat.le_refl _,by rw[e,ek];exact List.mem_cons_self⟩
    ·rw[if_neg e] at h1;refine .inl ⟨h1,fun z hz ez=>?_⟩;rcases List.mem_cons.mp hz with q | q
     ·subst q;exact fun t=>e t.symm
     ·exact h2 z q ez
   ·exact .inr ⟨Nat.le_of_succ_le h1,List.mem_cons_of_mem _ h2⟩
  ·rw[if_neg hk] at h;rcases cF_lookup r n _ h with ⟨h1,h2⟩ | ⟨h1,h2⟩
   ·refine .inl ⟨h1,fun z hz ez=>?_⟩;rcases List.mem_cons.mp hz with q | q
    ·subst q;exact absurd (by rw[show k=NameKind.cell from ez];rfl) hk
    ·exact h2 z q ez
   ·exact .inr ⟨h1,List.mem_cons_of_mem _ h2⟩
theorem cF_inj:∀ (names:List (Str×NameKind)) (n:Nat) (acc:List (Str×Addr)),(∀ x y c,acc.lookup x=some c→acc.lookup y=some c→x=y)→(∀ x c,acc.lookup x=some c→c<n) →
  ∀ x y c,(cellsFrom n names acc).lookup x=some c→(cellsFrom n names acc).lookup y=some c→x=y
 | [],n,acc,h,_=>h
 | (z,k)::r,n,acc,h,hb=>by
  unfold cellsFrom;by_cases hk:(k == NameKind.cell)=true
  ·rw[if_pos hk];refine cF_inj r (n+1) _ (fun x y c e1 e2=>?_) (fun x c e=>?_)
   ·rw[lookup_cons'] at e1 e2;by_cases q1:x=z<;>by_cases q2:y=z
    ·rw[q1,q2]
    ·rw[if_pos q1] at e1;rw[if_neg q2] at e2;cases e1;exact absurd (hb _ _ e2) (Nat.lt_irrefl _)
    ·rw[if_neg q1] at e1;rw[if_pos q2] at e2;cases e2;exact absurd (hb _ _ e1) (Nat.lt_irrefl _)
    ·rw[if_neg q1] at e1;rw[if_neg q2] at e2;exact h x y c e1 e2
   ·rw[lookup_cons'] at e;by_cases q:x=z
    ·rw[if_pos q] at e;cases e;exact Nat.lt_succ_self _
    ·rw[if_neg q] at e;exact Nat.lt_succ_of_lt (hb x c e)
  ·rw[if_neg hk];exact cF_inj r n acc h hb
theorem cF_cells:∀ (names:List (Str×NameKind)) (h:Heap) (acc:List (Str×Addr)),(∀ x c,acc.lookup x=some c→∃ v,h.IsCell c v) →
  ∀ x c,(cellsFrom h.objs.size names acc).lookup x=some c→∃ v,(pushCells h names).IsCell c v
 | [],h,acc,q=>q
 | (z,k)::r,h,acc,q=>by
  unfold cellsFrom pushCells;by_cases hk:(k == NameKind.cell)=true
  ·rw[if_pos hk,if_pos hk]
   have:=cF_cells r (h.push {cls:=.type "cell",data:=.cell none}) ((z,h.objs.size)::acc) (fun x c e=>by
    rw[lookup_cons'] at e;by_cases t:x=z
    ·rw[if_pos t] at e;cases e;exact⟨none,_,Heap.get?_push_size _ rfl,rfl⟩
    ·rw[if_neg t] at e;obtain⟨v,hv⟩:=q x c e
     exact⟨v,hv.keeps fun b o e=>Heap.get?_push_of_some _ e⟩)
   rwa [Heap.size_push] at this
  ·rw[if_neg hk,if_neg hk];exact cF_cells r h acc q
theorem wp_newEnvC {M:Model}{A:Around}{E:Value→Shared→Prop}{s:Shared}{scope:Scope}{globals:Addr}{closure:List (Str×Addr)}{qual:Str}{func:Option Addr}{code:Value}{outer:Env}{builtins:Addr}{Q:Env→Shared→Prop}
  (hQ:Q (newEnv scope s.heap.objs.size globals (cellsFrom (s.heap.objs.size+1) scope.names closure) qual func code (some outer) builtins) {s with heap:=pushCells (s.heap.push {cls:=.type "dict",data:=.dict #[]}) scope.names}) :
  wpAny M A (newFunctionEnv scope globals closure [] qual func code (some outer) builtins) Q E s:=by
 simp only[newFunctionEnv,Option.isSome_some,if_true];refine wpAny_bind (wpAny_alloc ?_);refine wpAny_bind (wpAny_layCells _ (fun name kind cells=>by cases hkc:kind == NameKind.cell<;>simp[hkc]) _ _ _ _ ?_);rw[show ({s with heap:=s.heap.push {cls:=.type "dict",data:=.dict #[]}}:Shared).heap.objs.size=s.heap.objs.size+1 from Heap.size_push ..];refine wpAny_bind ?_;rw[List.forIn_nil];exact wpAny_pure (wpAny_pure hQ)
def compOkC (sc osc:Scope):Bool :=
 (match sc.kind with | .function=>true | _=>false) &&
  sc.names.all fun y=>match y.2 with
   | .local=>(match sc.names.lookup y.1 with | some .local=>true | _=>false)
   | .free=>(match sc.names.lookup y.1 with | some .free=>true | _=>false) && (match osc.names.lookup y.1 with | some .cell=>true | some .free=>true | _=>false)
   | .cell=>(match sc.names.lookup y.1 with | some .cell=>true | _=>false)
   | _=>true
structure CompOkC (sc osc:Scope):Prop where
 kind:sc.kind=.function
 loc:∀ y∈sc.names,y.2=.local→sc.names.lookup y.1=some .local
 cell:∀ y∈sc.names,y.2=.cell→sc.names.lookup y.1=some .cell
 free:∀ y∈sc.names,y.2=.free→osc.names.lookup y.1=some .cell∨osc.names.lookup y.1=some .free
theorem compOkC_of {sc osc:Scope}(h:compOkC sc osc=true):CompOkC sc osc:=by
 unfold compOkC at h;rw[Bool.and_eq_true,List.all_eq_true] at h;obtain⟨h1,h2⟩:=h;refine⟨?_,fun y hy e=>?_,fun y hy e=>?_,fun y hy e=>?_⟩
 ·cases e:sc.kind with
  | function=>rfl
  | _=>rw[e] at h1;cases h1
 ·have:=h2 y hy;rw[e] at this;dsimp only at this;split at this
  ·assumption
  ·cases this
 ·have:=h2 y hy;rw[e] at this;dsimp only at this;split at this
  ·assumption
  ·cases this
 ·have:=h2 y hy;rw[e] at this;dsimp only at this;have:=(Bool.and_eq_true _ _ ▸ this).2;split at this
  ·left;assumption
  ·right;assumption
  ·cases this
def ownCell (sc:Scope)(x:Str):Bool:=match sc.names.lookup x with | some .cell=>true | _=>false
theorem ownCell_of {sc:Scope}{x:Str}(h:ownCell sc x=true):sc.names.lookup x=some .cell:=by
 unfold ownCell at h;split at h
 ·assumption
 ·cases h
def cxD (X:Cx)(scope:Scope)(N':List Str)(pins:List (Addr×Obj))(fp:List Addr)(s:Shared)(H:Hp):Cx where
 prog:=X.prog
 w:=X.w
 K:=X.K
 mg:=X.mg
 base:=X.base
 A:=X.A
 N:=N'
 s₀:=s
 H₀:=H
 env:=compEnvC scope (cellsFrom (s.heap.objs.size+1) scope.names (clo X.env scope.names [])) s.heap.objs.size X.env
 outer:=X.stack
 stack:=X.stack
 ex:=fp
 fn:=ownCell scope
 calm:=true
 pn:=X.pn++pins
 xe:=fun _ _=>False
section
variable {X:Cx}{scope:Scope}{own:List Str}{fr:List (Str×Nat)}{fp:List Addr}{pins:List (Addr×Obj)}{σ:St}{H:Hp}{s:Shared}
theorem inv_compC (I:Inv X pins σ H s)(hc:CompOkC scope X.env.scope)(hcalm:X.calm=true)(hf:∀ b∈fp,FpOk X pins H b)(hlt:∀ b∈fp,b<s.heap.objs.size)(hfr:frOk X scope fr){h1:Heap}{m:Str→Option Value}(hns:h1.Ns s.heap.objs.size m)
  (hsb:∀ b o,s.heap.get? b=some o→h1.get? b=some o) (hcl:∀ x c,(cellsFrom (s.heap.objs.size+1) scope.names (clo X.env scope.names [])).lookup x=some c→∃ v,h1.IsCell c v):Inv (cxD X scope (own++fr.map (·.1)) pins fp s H) [] (st0 own fr σ) H {s with heap:=h1}:=by
 have clX:∀ x c,(clo X.env scope.names []).lookup x=some c→X.env.cells.lookup x=some c:=fun x c e=>by
  rw[clo_lookup] at e;split at e
  ·rename_i q;obtain⟨y,hy,hq⟩:=List.any_eq_true.mp q;rw[Bool.and_eq_true] at hq;have e1:y.1=x:=of_decide_eq_true hq.1;have e2:y.2=.free:=by simpa using hq.2
   obtain⟨c',hc'⟩:=I.ok.has x (by
    have:=hc.free y hy e2;rw[e1] at this
    exact this)
   rw[hc'] at e ⊢;exact e
  ·cases e
 have hlen:∀ b∈frs X.stack,b≠s.heap.objs.size∧b∈X.env.locals::X.fs:=fun b hb=>by
  have hm:=I.stkSub b hb;refine⟨fun z=>?_,hm⟩;rcases List.mem_cons.mp hm with q | q
  ·have:=I.lt;rw[← q,z] at this;exact Nat.lt_irrefl _ this
  ·exact I.nofs (Nat.le_of_eq z.symm) q
 have clN:∀ x c,(cellsFrom (s.heap.objs.size+1) scope.names (clo X.env scope.names [])).lookup x=some c→X.env.cells.lookup x=some c∨s.heap.objs.size<c:=fun x c e=>by
  rcases cF_lookup _ _ _ e with ⟨h1,_⟩ | ⟨h1,_⟩
  ·exact .inl (clX x c h1)
  ·exact .inr h1
 have ok:(cxD X scope (own++fr.map (·.1)) pins fp s H).Ok :=
  {mod:=I.ok.mod
   kind:=hc.kind
   glob:=I.ok.glob
   blt:=I.ok.blt
   above:=Nat.le_refl _
   inj:=cF_inj _ _ _ (fun x y c hx hy=>I.ok.inj x y c (clX x c hx) (clX y c hy)) fun x c e=>by
    obtain⟨v,hv⟩:=I.cell x c (clX x c e);exact Nat.lt_succ_of_lt hv.lt
   has:=fun x hx=>by
    have hx:(relabel scope X.env).names.lookup x=some .cell∨(relabel scope X.env).names.lookup x=some .free:=hx;have key:scope.names.lookup x=some .cell∨scope.names.lookup x=some .free:=by
     rcases hx with hx | hx
     ·obtain⟨k',e1,e2⟩:=relabel_lookup hx;rcases e2 with e2 | ⟨e2,_⟩
      ·subst e2;exact .inl e1
      ·subst e2;exact .inr e1
     ·obtain⟨k',e1,e2⟩:=relabel_lookup hx;rcases e2 with e2 | ⟨e2,e3⟩
      ·subst e2;exact .inr e1
      ·cases e3
    show ∃ c,(cellsFrom (s.heap.objs.size+1) scope.names (clo X.env scope.names [])).lookup x=some c;refine Option.isSome_iff_exists.mp (PySem.W.cellsFrom_some _ _ _ (key.imp id fun q=>?_));rw[clo_lookup,if_pos (List.any_eq_true.mpr ⟨(x,.free),lookup_mem' q,by simp⟩)];rfl
   cab:=fun x c h e=>by
    rcases cF_lookup _ _ _ e with ⟨_,h2⟩ | ⟨h1,_⟩
    ·exact absurd rfl (h2 (x,.cell) (lookup_mem' (ownCell_of h)) rfl)
    ·exact Nat.le_of_lt h1
   hd:=fun _=>I.ok.hd hcalm
   frames:=I.ok.frames
   stk:=.inl rfl
   exf:=fun b hb=>⟨Nat.ne_of_lt (hlt b hb),fun x c e=>by
    rcases clN x c e with q | q
    ·exact (hf b hb).2.2.2.2.1 x c q
    ·exact Nat.ne_of_gt (Nat.lt_trans (hlt b hb) q)⟩
   bs:=I.bs
   bsz:=Nat.le_trans I.ok.bsz I.sz
   noex:=fun b o e hb=>by
    rcases (hf b hb).2.2.2.1 with q | q
    ·exact I.ok.noex b o e q
    ·have h1:b<X.base.objs.size:=Heap.lt_size e;have h2:=I.ok.bsz;exact absurd (Nat.lt_of_lt_of_le h1 h2) (Nat.not_lt.mpr q)
   exfs:=fun b hb hm=>by
    have hm:=I.stkSub b hm;rcases List.mem_cons.mp hm with q | q
    ·exact (hf b hb).2.1 q
    ·exact (hf b hb).2.2.1 q
   funs:=I.stack
   frf:=I.stkFree}
 refine⟨ok,rfl,I.bare,Un.kept hsb,⟨m,hns,fun i x v hx hv hvis=>?_⟩,fun x c e=>?_,I.fresh,fun x c e=>?_,fun p hp=>?_,I.hok.kept hsb,?_⟩
 ·-- the names
  have hi:own.length≤i:=by
   rcases Nat.lt_or_ge i own.length with h | h
   ·unfold st0 at hv;rw[List.getElem?_append_left (by simpa using h),List.getElem?_map] at hv;cases e:own[i]? with
    | none=>rw[e] at hv;cases hv
    | some z=>rw[e] at hv;cases hv
   ·exact h
  have hx:(own++fr.map (·.1))[i]?=some x:=hx;unfold st0 at hv;rw[List.getElem?_append_right (by simpa using hi),List.getElem?_map] at hv;rw[List.getElem?_append_right hi,List.getElem?_map] at hx;rw[List.length_map] at hv;cases e:fr[i-own.length]? with
  | none=>rw[e] at hx;cases hx
  | some p =>
   rw[e] at hx hv;have ex:p.1=x:=Option.some.inj hx;have ev:(σ[p.2]?).join=some v:=Option.some.inj hv;obtain⟨hN,hfree⟩:=hfr p (List.mem_iff_getElem?.mpr ⟨_,e⟩);rw[ex] at hN hfree;have hk:=hc.free (x,.free) (lookup_mem' hfree) rfl;have hσ:σ[p.2]?=some (some v):=by
    cases q:σ[p.2]? with
    | none=>rw[q] at ev;cases ev
    | some o=>rw[q] at ev;exact congrArg some ev
   obtain⟨mX,nX,lX⟩:=I.loc;obtain⟨u,ru,look⟩:=lX p.2 x v hN hσ (.inr hk);refine⟨u,ru,.inr ⟨relabel_free hfree,?_⟩⟩;rcases look with ⟨k1,_⟩ | ⟨_,c,hcc,hcell⟩
   ·exfalso;have k1:X.env.scope.names.lookup x=some .local:=k1;rcases hk with q | q<;>(rw[k1] at q;cases q)
   ·refine⟨c,?_,?_⟩
    ·show (cellsFrom (s.heap.objs.size+1) scope.names (clo X.env scope.names [])).lookup x=_;obtain⟨c',hc'⟩:=ok.has x (relabel_free hfree);have hc':(cellsFrom (s.heap.objs.size+1) scope.names (clo X.env scope.names [])).lookup x=some c':=hc';rw[hc'];rcases cF_lookup _ _ _ hc' with ⟨h1,_⟩ | ⟨_,h2⟩
     ·rw[← clX x c' h1,hcc]
     ·have:=hc.cell (x,.cell) h2 rfl;rw[hfree] at this;cases this
    ·exact hcell.keeps hsb
 ·exact hcl x c e
 ·rcases clN x c e with q | q
  ·exact I.freeC x c q
  ·exact I.hok.fresh (Nat.le_of_lt q)
 ·have hp:p∈X.pn++pins:=by
   rcases List.mem_append.mp hp with q | q
   ·exact q
   ·cases q
  obtain⟨a1,a2,a3,a4,a5⟩:=I.pin p hp;refine⟨hsb _ _ a1,a2,Nat.ne_of_lt (Heap.lt_size a1),fun hm=>?_,a5⟩;have hm:=I.stkSub _ hm;rcases List.mem_cons.mp hm with q | q
  ·exact a3 q
  ·exact a4 q
 ·show (st0 own fr σ).length=(own++fr.map (·.1)).length;unfold st0;rw[List.length_append,List.length_append,List.length_map,List.length_map,List.length_map]
end
section
variable {X:Cx}{elt tg iter:Expr}{ifs:List Expr}{scope:Scope}{pos:Pos}{own:List Str}{fr:List (Str×Nat)}{wi:TI}{g:TG}{tc:TT}{te:TE}
theorem clX_of {scope:Scope}{pins:List (Addr×Obj)}{σ:St}{H:Hp}{s:Shared}(I:Inv X pins σ H s)(hc:CompOkC scope X.env.scope){x:Str}{c:Addr}(e:(clo X.env scope.names []).lookup x=some c):X.env.cells.lookup x=some c:=by
  rw[clo_lookup] at e;split at e
  ·rename_i q;obtain⟨y,hy,hq⟩:=List.any_eq_true.mp q;rw[Bool.and_eq_true] at hq;have e1:y.1=x:=of_decide_eq_true hq.1;have e2:y.2=.free:=by simpa using hq.2
   obtain⟨c',hc'⟩:=I.ok.has x (by
    have:=hc.free y hy e2;rw[e1] at this
    exact this)
   rw[hc'] at e ⊢;exact e
  ·cases e
structure BlkC (X:Cx)(scope:Scope)(N':List Str)(tg:Expr)(ifs:List Expr)(elt:Expr)(g:TG)(tc:TT)(te:TE):Prop where
 run:∀ pins fp s H,PG (cxD X scope N' pins fp s H) tg g∧PTs (cxD X scope N' pins fp s H) ifs tc∧PE (cxD X scope N' pins fp s H) elt te
theorem lcomp_runC {pins:List (Addr×Obj)}{σ:St}{H2:Hp}{s2:Shared}{it:Addr}{fp:List Addr}{tn:Nat→Heap→Prop}{J:It}{EE:Hp→Prop}{RR:Value→Addr→Result→Shared→Prop}{E:Value→Shared→Prop}
  (hcalm:X.calm=true) (hc:CompOkC scope X.env.scope) (hfr:frOk X scope fr) (B:BlkC X scope (own++fr.map (·.1)) tg ifs elt g tc te)
  (I2:Inv X pins σ H2 s2) (T:Turn X.prog X.w X.K tg J fp it tn) (st2:tn 0 s2.heap) (f2:∀ b∈fp,FpOk X pins H2 b)
  (hw:lcW g tc te s2.heap.objs.size J (st0 own fr σ) (upd H2 s2.heap.objs.size (.lst [])) EE)
  (hRR:∀ C H' s' m,EE H'→s'.heap.Ns C m→Inv X pins σ H' s'→CFree X pins H' C→RR (.ref s2.heap.objs.size) C (.ok .next) s') :
  wpAny (model X.prog X.w) X.A (newList []) (fun acc s₃=>wpAny (model X.prog X.w) X.A (newFunctionEnv scope X.env.globals (clo X.env scope.names []) [] X.env.qual none .none (some X.env)) (fun cenv s₄ =>
   codeAny (model X.prog X.w) X.A (.compStart (.ListComp elt [⟨tg,iter,ifs,0⟩] scope pos) 0 (.ref it) acc {cenv with scope:=relabel scope X.env}) (RR acc cenv.locals) s₄) E s₃) E s2:=by
 have I3:Inv X pins σ (upd H2 s2.heap.objs.size (.lst [])) {s2 with heap:=s2.heap.push {cls:=.type "list",data:=.seq ([]:List Value).toArray},toks:=s2.toks}:=I2.lnew (ys:=[]) (its:=[]) (t':=s2.toks) .nil (Nat.zero_le _);generalize hs3:({s2 with heap:=s2.heap.push {cls:=.type "list",data:=.seq ([]:List Value).toArray},toks:=s2.toks}:Shared)=s3 at I3;have hsz3:s3.heap.objs.size=s2.heap.objs.size+1:=by rw[← hs3];exact Heap.size_push ..
 have k3:∀ b o,s2.heap.get? b=some o→s3.heap.get? b=some o:=fun b o e=>by rw[← hs3];exact Heap.get?_push_of_some _ e
 have hlt:∀ b∈fp,b<s2.heap.objs.size:=fun b hb=>let ⟨o,e,_⟩:=T.obj _ _ st2 b hb;Heap.lt_size e
 have f3:∀ b∈fp,FpOk X pins (upd H2 s2.heap.objs.size (.lst [])) b:=fun b hb=>⟨by rw[upd_ne (Nat.ne_of_lt (hlt b hb))];exact (f2 b hb).1,(f2 b hb).2⟩
 have st3:tn 0 s3.heap:=T.keep _ _ _ st2 fun b _ o e=>k3 b o e
 refine wpAny_newObj_type ?_;have e3:({s2 with heap:=s2.heap.push {cls:=.type "list",dict:=none,data:=.seq ([]:List Value).toArray}}:Shared)=s3:=hs3;rw[e3];refine wp_newEnvC ?_;have k4:∀ b o,s3.heap.get? b=some o→(pushCells (s3.heap.push {cls:=.type "dict",data:=.dict #[]}) scope.names).get? b=some o:=fun b o e=>pushCells_keeps _ _ b o (Heap.get?_push_of_some _ e)
 have hns₁:=(Heap.Ns.new s3.heap (.type "dict")).keeps (pushCells_keeps scope.names (s3.heap.push {cls:=.type "dict",data:=.dict #[]}));have hcl:∀ x c,(cellsFrom (s3.heap.objs.size+1) scope.names (clo X.env scope.names [])).lookup x=some c→∃ v,(pushCells (s3.heap.push {cls:=.type "dict",data:=.dict #[]}) scope.names).IsCell c v:=by
  have q:=cF_cells scope.names (s3.heap.push {cls:=.type "dict",data:=.dict #[]}) (clo X.env scope.names []) (fun x c e=>by
   obtain⟨v,hv⟩:=I3.cell x c (clX_of I3 hc e)
   exact⟨v,hv.keeps fun b o e=>Heap.get?_push_of_some _ e⟩)
  rwa [Heap.size_push] at q
 have I4:=inv_compC (own:=own) I3 hc hcalm f3 (fun b hb=>Nat.lt_of_lt_of_le (hlt b hb) (by rw[hsz3];exact Nat.le_succ _)) hfr hns₁ k4 hcl;obtain⟨bg,bt,be⟩:=B.run pins fp s3 (upd H2 s2.heap.objs.size (.lst []));generalize hX':cxD X scope (own++fr.map (·.1)) pins fp s3 (upd H2 s2.heap.objs.size (.lst []))=X' at I4 bg bt be;have eP:X'.prog=X.prog:=by rw[← hX'];rfl
 have eW:X'.w=X.w:=by rw[← hX'];rfl
 have eK:X'.K=X.K:=by rw[← hX'];rfl
 have eA:X'.A=X.A:=by rw[← hX'];rfl
 have eC:X'.calm=true:=by rw[← hX'];rfl
 have eX:X'.xe=fun _ _=>False:=by rw[← hX'];rfl
 have eE:X'.env=compEnvC scope (cellsFrom (s3.heap.objs.size+1) scope.names (clo X.env scope.names [])) s3.heap.objs.size X.env:=by rw[← hX'];rfl
 have fC:∀ {H':Hp},(∀ b∈fp,H' b=none)→∀ b∈fp,FpOk X' [] H' b:=fun hn b hb=>by
  have hb':=f3 b hb;refine⟨hn b hb,?_,?_,?_,?_,?_⟩
  ·exact (I4.ok.exf b (by rw[← hX'];exact hb)).1
  ·exact I4.ok.exfs b (by rw[← hX'];exact hb)
  ·left;rw[← hX'];exact hb
  ·exact (I4.ok.exf b (by rw[← hX'];exact hb)).2
  ·intro p hp;have hp:p∈X.pn++pins:=by
    rw[← hX'] at hp;rcases List.mem_append.mp hp with q | q
    ·exact q
    ·cases q
   exact hb'.2.2.2.2.2 p hp
 obtain⟨W,⟨m0,w0⟩,turn⟩:=hw;have cenvE:({(newEnv scope s3.heap.objs.size X.env.globals (cellsFrom (s3.heap.objs.size+1) scope.names (clo X.env scope.names [])) X.env.qual none .none (some X.env) builtinsNs) with scope:=relabel scope X.env}:Env)=X'.env:=by rw[eE];rfl
 have loop:∀ s4:Shared,Inv X' [] (st0 own fr σ) (upd H2 s2.heap.objs.size (.lst [])) s4→tn 0 s4.heap →
   codeAny (model X.prog X.w) X.A (.compLoop (.ListComp elt [⟨tg,iter,ifs,0⟩] scope pos) 0 (.ref it) (.ref s2.heap.objs.size) X'.env) (RR (.ref s2.heap.objs.size) s3.heap.objs.size) s4:=by
  intro s4 J4 t4;refine lcomp_loop (fun n s'=>∃ i τ H',Inv X' [] τ H' s'∧tn i s'.heap∧(∀ b∈fp,H' b=none)∧W i n τ H') ?_ m0 ⟨0,_,_,J4,t4,fun b hb=>(f3 b hb).1,w0⟩;rintro n s5 ⟨i,τ5,H5,I5,t5,fr5,w5⟩;rcases turn i n τ5 H5 w5 with ⟨stop,qn⟩ | ⟨go,N,hN,step⟩
  ·have hd:=T.done X' eP eW eK eC i [] s5 τ5 H5 (fun _ _=>False) I5 (fC fr5) t5 stop;rw[eA] at hd;refine thn hd fun r s6 ⟨hr,I6⟩=>?_
   subst hr;have hbase:Un (frs X.stack) fp (upd H2 s2.heap.objs.size (.lst [])) H5 s3.heap s6.heap:=by have:=I6.base;rw[← hX'] at this;exact this
   have hok6:HOk X.prog X.w H5 s6.heap:=by have:=I6.hok;rw[eP,eW] at this;exact this
   have os6:s6.os=s3.os:=by have:=I6.os;rw[← hX'] at this;exact this
   obtain⟨m6,n6,_⟩:=I6.loc;have n6:s6.heap.Ns s3.heap.objs.size m6:=by rw[eE] at n6;exact n6
   have free6:H5 s3.heap.objs.size=none:=by have:=I6.free;rw[eE] at this;exact this
   refine hRR s3.heap.objs.size H5 s6 m6 qn n6 (I3.call' os6 hbase hok6 I6.bare fun b hb=>⟨(f3 b hb).2.2.2.1,(f3 b hb).2.1,(f3 b hb).2.2.2.2.1,(f3 b hb).2.2.2.2.2⟩) ⟨free6,?_,I3.sz,?_,?_⟩
   ·exact (Nat.ne_of_lt I3.lt).symm
   ·intro x c e z;obtain⟨v,hv⟩:=I3.cell x c e;have:=hv.lt;rw[z] at this;exact Nat.lt_irrefl _ this
   ·intro p hp z;have:=Heap.lt_size (I3.pin p hp).1;rw[z] at this;exact Nat.lt_irrefl _ this
  ·have hi:=T.item X' eP eW eK eC i [] s5 τ5 H5 (fun _ _=>False) I5 (fC fr5) t5 go;rw[eA] at hi;refine thn hi fun r s6 ⟨u,hr,h6⟩=>?_
   subst hr;refine thn h6 fun _ s7 ⟨x,H7,I7,r7,y7,t7,fr7⟩=>?_
   have I7':=I7.pinned (fC fr7) (T.obj _ _ t7);have again:∀ {τ:St} {H':Hp} {s':Shared},Inv X' ([]++pinsAt fp s7.heap) τ H' s'→N τ H'→∃ m,m<n∧∃ i τ H',Inv X' [] τ H' s'∧tn i s'.heap∧(∀ b∈fp,H' b=none)∧W i m τ H':=fun {τ H' s'} I8 n8=>by
    obtain⟨m',hm,w8⟩:=hN τ H' n8;refine⟨m',hm,i+1,τ,H',I8.unpinned,T.keep _ _ _ t7 fun b hb o e=>(I8.pin (b,o) (List.mem_append_right _ (List.mem_append_right _ (mem_pinsAt hb e)))).1,fun b hb=>?_,w8⟩;obtain⟨o,e,d⟩:=T.obj _ _ t7 b hb;exact (I8.pin (b,o) (List.mem_append_right _ (List.mem_append_right _ (mem_pinsAt hb e)))).2.1
   have hg:=bg _ s7 τ5 H7 x u _ I7' r7 (step x H7 y7);rw[eP,eW,eA,eX] at hg;refine thn hg fun _ s8 ⟨τ8,H8,I8,q8⟩=>?_
   have ht:=bt _ s8 τ8 H8 _ I8 q8;rw[eP,eW,eA,eX] at ht;refine thn ht fun ok s9 ⟨H9,I9,q9⟩=>?_
   cases ok with
   | false=>exact again I9 q9
   | true =>
    rw[if_pos rfl] at q9 ⊢;have hv:=be _ s9 τ8 H9 _ I9 q9;rw[eP,eW,eA,eX] at hv;refine thn hv fun y s10 ⟨v,H10,I10,r10,ys,hl,hlen,n10⟩=>?_
    have ha:=mt_append (X:=X') _ s10 τ8 H10 (.ref s2.heap.objs.size) [v] (.ref s2.heap.objs.size) [y] (fun _ H'=>N τ8 H') I10 rfl (.cons r10 .nil) ⟨_,_,_,rfl,rfl,hl,hlen,n10⟩;rw[eP,eW,eA,eX] at ha;exact thn ha fun _ s11 ⟨_,H11,I11,_,n11⟩=>again I11 n11
 have st4:tn 0 (pushCells (s3.heap.push {cls:=.type "dict",data:=.dict #[]}) scope.names):=T.keep _ _ _ st3 fun b _ o e=>k4 b o e
 show codeAny (model X.prog X.w) X.A (.compStart (.ListComp elt [⟨tg,iter,ifs,0⟩] scope pos) 0 (.ref it) (.ref s2.heap.objs.size) ({(newEnv scope s3.heap.objs.size X.env.globals (cellsFrom (s3.heap.objs.size+1) scope.names (clo X.env scope.names [])) X.env.qual none .none (some X.env) builtinsNs) with scope:=relabel scope X.env}:Env)) (RR (.ref s2.heap.objs.size) s3.heap.objs.size) _;rw[cenvE];exact codeAny_compStart_list (loop _ I4 st4) (T.self X.A 0 _ _ _ st4 (loop _ I4 st4))
theorem clo_okC {pins:List (Addr×Obj)}{σ:St}{H:Hp}{s:Shared}(I:Inv X pins σ H s)(hc:CompOkC scope X.env.scope):closureFor scope X.env=pure (clo X.env scope.names []) :=
 closure_clo fun y hy e=>I.ok.has y.1 (hc.free y hy e)
theorem ps_setLCC {i:Nat}{x:Str}{px spos:Pos}(hcalm:X.calm=true)(hN:X.N.Nodup)(hx:X.N[i]?=some x)(hl:X.env.scope.names.lookup x=some .local)(hsw:swapsWith (.ListComp elt [⟨tg,iter,ifs,0⟩] scope pos) (some (.Name x px)) spos.line X.env=pure true)
  (hc:compOkC scope X.env.scope=true) (hfr:frOk X scope fr) (hi:PI X tg iter wi) (B:BlkC X scope (own++fr.map (·.1)) tg ifs elt g tc te)
  (hs:∀ x,foldedSetIterable iter X.env x=pure x:=by intro _;rfl):PS X (.Assign [.Name x px] (.ListComp elt [⟨tg,iter,ifs,0⟩] scope pos) spos) (tAsg (tLC own fr wi g tc te) (gName i)):=by
 intro pins s σ H D I h;have hc:=compOkC_of hc;rw[exec_Assign_Name_used _ _ _ _ hsw];refine wpAny_bind (wpAny_standAt (wpAny_bind ?_));show wpAny _ X.A (do let _ ← comprehension (.ListComp elt [⟨tg,iter,ifs,0⟩] scope pos) scope X.env _ (newList []) false (eval iter X.env) (some (assign (.Name x px) X.env))) _ _ s
 refine wpAny_bind (wpAny_mono (wpAny_comprehension_free (use:=some (assign (.Name x px) X.env)) (Q:=fun _ s'=>SP X pins D .next s') rfl hs (clo_okC I hc) hc.kind hc.loc
  (thn (hi pins s σ H _ I h) fun v s1 h1=>thn h1 fun itv s2 h2=>?_)) (fun _ s' hq=>wpAny_pure (wpAny_pure hq)) fun _ _ e=>e)
 obtain⟨it,fp,tn,J,H2,e,I2,T,st2,f2,hw⟩:=h2;subst e;refine lcomp_runC (RR:=fun acc C=>compPost (model X.prog X.w) X.A X.xe (some (assign (.Name x px) X.env)) (fun _ s'=>SP X pins D .next s') acc C) hcalm hc hfr B I2 T st2 f2 (hw _ I2.fresh) ?_;intro C H' s' m q n I' f;show wpAny _ X.A (assign (.Name x px) X.env (.ref s2.heap.objs.size)) _ _ _;refine wpAny_assign_Name (store_ok2 I' hN hx (.inl hl) (v:=.ref s2.heap.objs.size) rfl (fun s'' I'' hch=>?_) (.inr hl));obtain⟨a,sb,ha⟩:=hch;have hCa:C≠a:=by
  rcases ha with ha | ha
  ·rw[ha];exact f.loc
  ·exact fun z=>f.cel x a ha z.symm
 exact⟨m,n.sameBut sb hCa,fun h' hs'=>⟨_,H',f.inv I'' hs',q⟩⟩
end
end L2
end
section
namespace L2
open PySem PySem.Spec PyProof.Rows
section
variable {X:Cx}{pins:List (Addr×Obj)}{σ:St}{H:Hp}{s:Shared}{h':Heap}
theorem push_old {h:Heap}{o:Obj}{b:Addr}(hb:b<h.objs.size):(h.push o).get? b=h.get? b:=by
 unfold Heap.get? Heap.push;simp[Array.getElem?_push,Nat.ne_of_lt hb]
theorem inv_turns {t':Nat}{L:List Addr}(I:Inv X pins σ H s)(k:∀ b o,b∉L→s.heap.get? b=some o→h'.get? b=some o)(hf:∀ b∈L,FpOk X pins H b):Inv X pins σ H {s with heap:=h',toks:=t'}:=by
 have nit:∀ b u,H b=some u→b∉L:=fun b u e z=>by rw[(hf b z).1] at e;cases e
 refine I.step (g':=s.gens) (d':=s.drawn) (ch:=L) (fun b hb=>?_) (fun b o _ _ hc e _=>k b o hc e) (fun b o _ _ hc e _=>⟨o.slots,k b o hc e⟩) (fun _ _ _ _ n=>n)
  (fun b o hc e=>⟨o,k b o hc e⟩) (fun _ _ e=>e) (fun _ _ _ e=>e) (fun b ps e=>⟨#[],by rw[e];simp⟩) (fun m hm=>?_) (fun b u e=>?_) I.bare
 ·obtain⟨f0,f1,f2,f3,f4,f5⟩:=hf b hb;exact⟨f3,f1,f4,f5⟩
 ·obtain⟨o,es,ep,ho,r⟩:=hm;exact⟨o,es,ep,k _ o (fun z=>(hf _ z).2.1 rfl) ho,r⟩
 ·refine (I.hok b u e).stay (fun c v hc q=>k c v ?_ q) (fun _ q=>q) fun _ _ q=>q
  rcases hc with z | z
  ·rw[z];exact nit b u e
  ·exact nit c _ z
def Ite (K:PySem.W.Frag)(a:Addr):It :=
 ⟨fun i H=>∃ xs x,SqL K H a xs∧xs[i]?=some x,fun i H v H'=>∃ q x,v=.ref q∧H q=none∧H'=upd H q (.tup [.int i,x])∧∀ xs,SqL K H a xs→xs[i]?=some x,fun i H=>∃ xs,SqL K H a xs∧xs.length≤i⟩
theorem turn_enum {P:Program}{w:World}{K:PySem.W.Frag}{elts:List Expr}{k:Nat}{pos:Pos}(a e it:Addr)(hne:e≠it):Turn P w K (.Tuple elts k pos) (Ite K a) [e,it] e (fun i h=>(∃ old,IsEnum h e it i old)∧h.IsListIter it a i) where
 mem:=by simp
 obj:=fun i h st b hb=>by
  obtain⟨⟨old,he⟩,o,eo,c,d⟩:=st;rcases List.mem_cons.mp hb with rfl | hb
  ·exact⟨_,he,fun v z=>by
    have z':Data.fields _=Data.cell v:=z
    cases z'⟩
  ·have e:b=it:=by simpa using hb
   subst e;exact⟨o,eo,fun v z=>by rw[d] at z;cases z⟩
 keep:=fun i h h' st k=>⟨let ⟨old,he⟩:=st.1;⟨old,k e (by simp) _ he⟩,st.2.at fun o q=>k it (by simp) o q⟩
 item:=by
  intro X hP hw hK hc i pins s σ H E I hf st hg;subst hP hw hK;obtain⟨xs,x,hq,hx⟩:=hg;obtain⟨its,rv,p,hz⟩:=I.list hq;obtain⟨u,hu,ru⟩:=rv.get hx;obtain⟨⟨old,he⟩,hit⟩:=st;have hel:e<s.heap.objs.size:=Heap.lt_size he;have hil:it<s.heap.objs.size:=by obtain⟨_,z,_⟩:=hit;exact Heap.lt_size z
  refine wpAny_pyNext_enum_item he hit p.isList (x:=u) (by simpa using hu) hne fun h1 ho hit1 hT hsz hk=>⟨_,rfl,?_⟩
  refine wpAny_letOwnedTupleGo_enum (s:={s with heap:=h1,toks:=s.toks+1}) ho fun h2 he2 hs2=>?_
  have hs2':∀ b o,b≠e→h1.get? b=some o→h2.get? b=some o:=fun b o hb q=>(hs2.2 b hb).trans q
  have I1:Inv X pins σ (upd H s.heap.objs.size (.tup [.int i,x])) {s with heap:=s.heap.push {cls:=.type "tuple",data:=.seq #[.int i s.toks,u]},toks:=s.toks+1} :=
   I.laid (o:=.tup [.int i,x]) (fun b o q=>Heap.get?_push_of_some _ q) (Nat.le_refl _) ⟨by simp[sizeLine_eq],[.int i s.toks,u],.cons ⟨_,rfl⟩ (.cons ru .nil),⟨_,Heap.get?_push_size _ rfl,rfl,_,rfl⟩⟩
  have hfr:∀ b∈[e,it],FpOk X pins (upd H s.heap.objs.size (.tup [.int i,x])) b:=by
   intro b hb;obtain⟨f0,f⟩:=hf b hb;refine⟨?_,f⟩;rw[upd_ne];exact f0;rcases List.mem_cons.mp hb with rfl | hb
   ·exact Nat.ne_of_lt hel
   ·rw[List.mem_singleton.mp hb];exact Nat.ne_of_lt hil
  have I2:Inv X pins σ (upd H s.heap.objs.size (.tup [.int i,x])) {s with heap:=h2,toks:=s.toks+1}:=by
   refine inv_turns (s:={s with heap:=s.heap.push {cls:=.type "tuple",data:=.seq #[.int i s.toks,u]},toks:=s.toks+1}) (L:=[e,it]) I1 (fun b o hb q=>?_) hfr;have hb1:b≠e:=fun z=>hb (by simp[z])
   have hb2:b≠it:=fun z=>hb (by simp[z])
   refine hs2' b o hb1 ?_;by_cases hbT:b=s.heap.objs.size
   ·subst hbT;rw[show (s.heap.push {cls:=.type "tuple",data:=.seq #[.int i s.toks,u]}).get? s.heap.objs.size=some {cls:=.type "tuple",data:=.seq #[.int i s.toks,u]} from Heap.get?_push_size _ rfl] at q;cases q;exact hT
   ·have:s.heap.get? b=some o:=by
     have hlt:b<s.heap.objs.size+1:=by have:=Heap.lt_size q;rw[Heap.size_push] at this;exact this
     have hlt2:b<s.heap.objs.size:=Nat.lt_of_le_of_ne (Nat.le_of_lt_succ hlt) hbT;rw[← q];exact (push_old hlt2).symm
    exact hk b o hb1 hb2 this
  refine⟨.ref s.heap.objs.size,_,I2,rfl,⟨s.heap.objs.size,x,rfl,I.fresh,rfl,fun ys hy=>by rw[I.list_inj hy hq];exact hx⟩,⟨⟨_,he2⟩,hit1.at fun o q=>hs2' it o hne.symm q⟩,fun b hb=>(hfr b hb).1⟩
 done:=by
  intro X hP hw hK hc i pins s σ H E I hf st hg;subst hP hw hK;obtain⟨xs,hq,hx⟩:=hg;obtain⟨its,rv,p,hz⟩:=I.list hq;obtain⟨⟨old,he⟩,hit⟩:=st;have hl:=rv.length;refine wpAny_pyNext_enum_end (I.ok.hd hc) he hit p.isList (by simp;omega) fun h' eb=>⟨rfl,?_⟩
  exact inv_turns (t':=s.toks) (L:=[e,it]) I (fun b o hb q=>eb b o (fun z=>hb (by simp[z])) q) hf
 self:=fun _ _ _ _ _ st h=>let ⟨_,he⟩:=st.1;wpAny_pyIter_enum he h
end
section
variable {X:Cx}{K:PySem.W.Frag}{elts:List Expr}{k:Nat}{tpos p pos:Pos}{l:Expr}{t:TA}{y:Str}
def iEnum (K:PySem.W.Frag)(t:TA):TI:=fun σ H R=>t σ H fun vs H1=>∃ a,vs=[.ref a]∧(∃ xs,SqL K H1 a xs)∧R (Ite K a) H1
theorem pi_enum (hg:Gl X y)(hm:X.mg y=none)(hv:bootBuiltins y=some (.type "enumerate"))(ha:PA X [l] t)(hn:y≠"__name__":=by decide)(hdb:(y == ("__debug__":Str))=false:=by decide)
  (he:starEach [l] X.env=[(false,eval l X.env)]:=by rfl) (hpl:(backTo pos (starEach ([]:List Expr) X.env)).any (·.1)=false:=by rfl) (hK:X.K=K:=by rfl):PI X (.Tuple elts k tpos) (.Call (.Name y p) [l] [] pos) (iEnum K t):=by
 subst hK;intro pins s σ H R I h;refine wpAny_Call_Name_kw (ld_blt I hg hm hv ?_ hn hdb);refine PyProof.Rows.callWith_type1 (thn (ha pos pins s σ H _ I h) fun us s1 ⟨vs,H1,I1,r1,a,e1,⟨xs,hq⟩,q⟩=>?_) he hpl;subst e1;obtain⟨u,rfl,rx⟩:=vals1 r1;cases rx;obtain⟨its,rv,pl,hz⟩:=I1.list hq;refine call_enumerate_list pl.isList fun h' hen hit hsz hk=>wpAny_pyIter_enum (s:={s1 with heap:=h'}) hen ?_
 refine⟨s1.heap.objs.size+1,[s1.heap.objs.size+1,s1.heap.objs.size],_,_,H1,rfl,I1.kept (t':=s1.toks) hk,turn_enum a _ _ (Nat.ne_of_gt (Nat.lt_succ_self _)),⟨⟨_,hen⟩,hit⟩,fun b hb=>?_,q⟩;rcases List.mem_cons.mp hb with rfl | hb
 ·exact I1.fpOk (Nat.le_succ _) (I1.hok.fresh (Nat.le_succ _))
 ·rw[List.mem_singleton.mp hb];exact I1.fpOk (Nat.le_refl _) I1.fresh
end
section
variable {K:PySem.W.Frag}{a p:Addr}{xs:List V}{g:TG}{tc:TT}{te tv:TE}{τ0:St}{H0:Hp}{EE:Hp→Prop}
theorem lc_enum (Pv:Nat→St→Hp→Prop)(h0:Pv 0 τ0 H0)(hl:∀ i τ H,i≤xs.length→Pv i τ H→SqL K H a xs)
  (hs:∀ i x τ H q,xs[i]?=some x→Pv i τ H→H q=none→g (.ref q) τ (upd H q (.tup [.int i,x])) fun τ2 H2=>tc τ2 H2 fun b H3=>if b=true then te τ2 H3 fun v H4=>∃ ys,H4 p=some (.lst ys)∧ys.length<sizeLine∧Pv (i+1) τ2 (upd H4 p (.lst (ys++[v]))) else Pv (i+1) τ2 H3)
  (hd:∀ τ H,Pv xs.length τ H→EE H):lcW g tc te p (Ite K a) τ0 H0 EE:=by
 refine⟨fun i m τ H=>m=xs.length-i∧i≤xs.length∧Pv i τ H,⟨_,rfl,Nat.zero_le _,h0⟩,?_⟩;rintro i m τ H ⟨rfl,hi,hp⟩;have hq:=hl i τ H hi hp;rcases Nat.lt_or_ge i xs.length with h | h
 ·have hx:xs[i]?=some xs[i]:=List.getElem?_eq_getElem h;refine .inr ⟨⟨xs,_,hq,hx⟩,Pv (i+1),fun τ' H' z=>⟨_,by omega,rfl,h,z⟩,?_⟩;rintro v H' ⟨q,x,rfl,hn,rfl,hy⟩;have e:x=xs[i]:=by have:=hy xs hq;rw[hx] at this;exact (Option.some.inj this).symm
  subst e;exact hs i _ τ H q hx hp hn
 ·have e:i=xs.length:=by omega
  subst e;exact .inl ⟨⟨xs,hq,Nat.le_refl _⟩,hd τ H hp⟩
end
structure Bt2 (mg:Str→Option Value):Prop where
 isinstance:mg "isinstance"=none
 bool:mg "bool"=none
 all:mg "all"=none
 set:mg "set"=none
 enumerate:mg "enumerate"=none
 zip:mg "zip"=none
end L2
end
section
namespace L2
open PySem
inductive Rch (ts:List (Int×Int))(A:Int→Prop)(u:Int):Int→Prop
 | base:Rch ts A u u
 | step {y x:Int}:Rch ts A u y→x∈nb ts y→A x→Rch ts A u x
structure Srch (n:Int)(ts:List (Int×Int))(A:Int→Prop)(u:Int)(fs ws:List Int):Prop where
 nd:fs.Nodup
 rng:∀ x∈fs,0≤x∧x<n
 st:u∈fs
 sub:∀ x∈ws,x∈fs
 snd:∀ x∈fs,Rch ts A u x
 cl:∀ x∈fs,x∉ws→∀ y∈nb ts x,A y→y∈fs
structure Srch' (n:Int)(ts:List (Int×Int))(A:Int→Prop)(u:Int)(fs ws:List Int)(v:Int)(j:Nat):Prop where
 nd:fs.Nodup
 rng:∀ x∈fs,0≤x∧x<n
 st:u∈fs
 sub:∀ x∈ws,x∈fs
 snd:∀ x∈fs,Rch ts A u x
 cl:∀ x∈fs,x∉ws→x≠v→∀ y∈nb ts x,A y→y∈fs
 vin:v∈fs
 part:∀ y∈(nb ts v).take j,A y→y∈fs
section
variable {n:Int}{ts:List (Int×Int)}{A:Int→Prop}{u v:Int}{fs ws:List Int}{j:Nat}
theorem Srch.init (h0:0≤u)(h1:u<n):Srch n ts A u [u] [u] :=
 ⟨by simp,fun x hx=>by simp at hx;subst hx;exact⟨h0,h1⟩,by simp,by simp,fun x hx=>by simp at hx;subst hx;exact .base,fun x hx hn=>by simp at hx hn;exact absurd hx hn⟩
theorem Srch.pop (h:Srch n ts A u fs (ws++[v])):Srch' n ts A u fs ws v 0 :=
 ⟨h.nd,h.rng,h.st,fun x hx=>h.sub x (by simp[hx]),h.snd,fun x hx hn hv=>h.cl x hx (by simp[hn,hv]),h.sub v (by simp),fun y hy=>by simp at hy⟩
theorem Srch'.add (h:Srch' n ts A u fs ws v j)(hok:TsOk n ts){y:Int}(hy:(nb ts v)[j]?=some y)(ha:A y)(hn:y∉fs):Srch' n ts A u (fs++[y]) (ws++[y]) v (j+1):=by
 have hym:=List.mem_of_getElem? hy;have hr:=nb_rng hok hym;refine⟨?_,fun x hx=>?_,by simp[h.st],fun x hx=>?_,fun x hx=>?_,fun x hx hw hv z hz az=>?_,by simp[h.vin],fun z hz az=>?_⟩
 ·rw[List.nodup_append];exact⟨h.nd,by simp,fun a hq b hb e=>hn (by simp at hb;subst hb;subst e;exact hq)⟩
 ·rcases List.mem_append.mp hx with hx | hx
  ·exact h.rng x hx
  ·cases List.mem_singleton.mp hx;exact⟨hr.1,hr.2.1⟩
 ·rcases List.mem_append.mp hx with hx | hx
  ·exact List.mem_append.mpr (.inl (h.sub x hx))
  ·exact List.mem_append.mpr (.inr hx)
 ·rcases List.mem_append.mp hx with hx | hx
  ·exact h.snd x hx
  ·cases List.mem_singleton.mp hx;exact .step (h.snd v h.vin) hym ha
 ·rcases List.mem_append.mp hx with hx | hx
  ·exact List.mem_append.mpr (.inl (h.cl x hx (fun q=>hw (List.mem_append.mpr (.inl q))) hv z hz az))
  ·exact absurd (List.mem_append.mpr (.inr hx)) hw
 ·rw[List.take_succ,hy] at hz;rcases List.mem_append.mp hz with hz | hz
  ·exact List.mem_append.mpr (.inl (h.part z hz az))
  ·simp at hz;subst hz;simp
theorem Srch'.skip (h:Srch' n ts A u fs ws v j){y:Int}(hy:(nb ts v)[j]?=some y)(ha:¬ A y∨y∈fs):Srch' n ts A u fs ws v (j+1):=by
 refine⟨h.nd,h.rng,h.st,h.sub,h.snd,h.cl,h.vin,fun z hz az=>?_⟩;rw[List.take_succ,hy] at hz;rcases List.mem_append.mp hz with hz | hz
 ·exact h.part z hz az
 ·simp at hz;subst hz;exact ha.elim (fun q=>absurd az q) id
theorem Srch'.done (h:Srch' n ts A u fs ws v j)(hj:(nb ts v).length≤j):Srch n ts A u fs ws:=by
 refine⟨h.nd,h.rng,h.st,h.sub,h.snd,fun x hx hw y hy ay=>?_⟩;by_cases e:x=v
 ·subst e;exact h.part y (by rw[List.take_of_length_le hj];exact hy) ay
 ·exact h.cl x hx hw e y hy ay
theorem Srch.fin (h:Srch n ts A u fs [])(x:Int):x∈fs↔Rch ts A u x:=by
 refine⟨h.snd x,fun r=>?_⟩;induction r with
 | base=>exact h.st
 | step _ hm ha ih=>exact h.cl _ ih (by simp) _ hm ha
theorem Rch.rng (hok:TsOk n ts)(h0:0≤u)(h1:u<n){x:Int}(r:Rch ts A u x):0≤x∧x<n:=by
 induction r with
 | base=>exact⟨h0,h1⟩
 | step _ hm _ _=>have:=nb_rng hok hm;omega
theorem Rch.mem {x:Int}(r:Rch ts A u x)(h:A u):A x:=by
 cases r with
 | base=>exact h
 | step _ _ ha=>exact ha
theorem Rch.left {L:Int→Prop}(hok:TsOk n ts)(hL:∀ x,L x→A x)(hc:∀ x y,A x→¬ L x→y∈nb ts x→A y→¬ L y)(hu:L u){x:Int}:Rch ts L u x↔Rch ts A u x:=by
 constructor
 ·intro r;induction r with
  | base=>exact .base
  | step _ hm ha ih=>exact .step ih hm (hL _ ha)
 ·intro r;have:Rch ts L u x∧L x:=by
   induction r with
   | base=>exact⟨.base,hu⟩
   | @step y x _ hm ha ih =>
    have:L x:=Classical.byContradiction fun hn=>hc x y ha hn ((nb_sym hok).mp hm) (hL _ ih.2) ih.2
    exact⟨.step ih.1 hm this,this⟩
  exact this.1
theorem disp1 {H:Hp}{p:Addr}{u:Int}:upd (upd H p (.dK [])) p (.dK (mergeK [] [(Sum.inl u,V.bl true)]))=upd H p (.dK (kvI [u])):=by
 rw[upd_upd];rfl
theorem addI_new {y:Int}(h:y∉fs):addI fs y=fs++[y]:=by unfold addI;rw[if_neg h]
end
structure SrAt (H Hc:Hp)(me wl:Addr)(fs ws:List Int):Prop where
 same:Same H Hc
 met:Hc me=some (.dK (kvI fs))
 wait:Hc wl=some (.lst (ws.map V.int))
def srM (n:Int)(me wl:Addr)(Hc:Hp):Nat:=match Hc me,Hc wl with
 | some (.dK kvs),some (.lst xs)=>2*(n.toNat-kvs.length)+xs.length
 | _,_=>0
section
variable {H Hc:Hp}{me wl:Addr}{fs ws:List Int}{n:Int}
theorem SrAt.mu (h:SrAt H Hc me wl fs ws):srM n me wl Hc=2*(n.toNat-fs.length)+ws.length:=by
 unfold srM;rw[h.met,h.wait];show 2*(n.toNat-(kvI fs).length)+(ws.map V.int).length=_;rw[kvI_len,List.length_map]
theorem SrAt.ne (h:SrAt H Hc me wl fs ws):me≠wl:=fun e=>by
 have:=h.met;rw[e,h.wait] at this;cases this
theorem last_of {ws:List Int}(h:ws≠[]):∃ ws' v,ws=ws'++[v]:=⟨ws.dropLast,ws.getLast h,(List.dropLast_concat_getLast h).symm⟩
theorem SrAt.pop {v:Int}(h:SrAt H Hc me wl fs (ws++[v]))(hw:H wl=none):((ws++[v]).map V.int)[((ws++[v]).map V.int).length-1]?=some (V.int v)∧SrAt H (upd Hc wl (.lst ((ws++[v]).map V.int).dropLast)) me wl fs ws:=by
 refine⟨by simp,h.same.upd hw,by rw[upd_ne h.ne];exact h.met,?_⟩;rw[upd_same];simp
theorem SrAt.add {y:Int}(h:SrAt H Hc me wl fs ws)(hm:H me=none)(hw:H wl=none)(hy:y∉fs):SrAt H (upd (upd Hc me (.dK (kvI (addI fs y)))) wl (.lst (ws.map V.int++[V.int y]))) me wl (fs++[y]) (ws++[y]):=by
 refine⟨(h.same.upd hm).upd hw,?_,?_⟩
 ·rw[upd_ne h.ne,upd_same,addI_new hy]
 ·rw[upd_same,List.map_append];rfl
theorem SrAt.mono {H0:Hp}(h:SrAt H Hc me wl fs ws)(s:Same Hc H0):SrAt H H0 me wl fs ws:=⟨h.same.trans s,s _ _ h.met,s _ _ h.wait⟩
end
def sp_reach (K:PySem.W.Frag):Sp:=fun vs H Q _=>∃ (rp:Addr) (as:List Addr) (n:Int) (ts:List (Int×Int)) (al:Addr) (ls:List Int) (u:Int),vs=[.ref rp,.int u,.ref al]∧RowsAt H rp as (rowsOf n ts)∧TsOk n ts∧n≤60∧ts.length≤1000∧(SqL K H al (ls.map V.int)∨SqT K H al (ls.map V.int))∧0≤u∧u<n ∧
 ∀ (p:Addr) (zs:List Int) (H':Hp),Same H H'→H p=none→H' p=some (.lst (zs.map V.int))→zs.Pairwise (·<·)→(∀ x,x∈zs↔Rch ts (·∈ls) u x)→Q (.ref p) H'
end L2
end
section
namespace L2
open PySem
def tI (l:List Int):PyData:=.tuple (l.map PyData.int)
theorem canLay_tI:∀ ls:List (List Int),PyData.canLayAll0 (ls.map tI)=true
 | []=>rfl
 | n::r=>by
  rw[List.map_cons,PyData.canLayAll0,canLay_tI r];unfold tI;rw[PyData.canLay0,canLay_ints];rfl
theorem depth_tI:∀ ls:List (List Int),PyData.depthAll (ls.map tI)≤1
 | []=>Nat.zero_le _
 | n::r=>by
  rw[List.map_cons,PyData.depthAll];have:=depth_tI r;unfold tI at this ⊢;rw[PyData.depth,depth_ints];omega
theorem Dts.tups {K:PySem.W.Frag}{H:Hp}:∀ {ps:List (Addr×List Int)},(∀ x∈ps,SqT K H x.1 (x.2.map V.int))→Dts K H (ps.map fun x=>V.ref x.1) ((ps.map (·.2)).map tI)
 | [],_=>.nil
 | p::r,h=>.cons (.tupI (h p (List.mem_cons_self ..))) (Dts.tups fun x hx=>h x (List.mem_cons_of_mem _ hx))
def LsAt (H:Hp)(p:Addr)(ls:List (List Int)):Prop:=∃ ps:List (Addr×List Int),H p=some (.tup (ps.map fun x=>V.ref x.1))∧(∀ x∈ps,H x.1=some (.tup (x.2.map V.int)))∧ps.map (·.2)=ls
theorem LsAt.tp {H H':Hp}{p:Addr}{ls:List (List Int)}(h:LsAt H p ls)(t:Tp H H'):LsAt H' p ls:=by
 obtain⟨ps,e,ha,hl⟩:=h;exact⟨ps,t _ _ e,fun x hx=>t _ _ (ha x hx),hl⟩
theorem LsAt.dt {K:PySem.W.Frag}{H:Hp}{p:Addr}{ls:List (List Int)}(h:LsAt H p ls):Dt K H (.ref p) (.tuple (ls.map tI)):=by
 obtain⟨ps,e,ha,rfl⟩:=h;exact .tup (SqT.of e) (Dts.tups fun x hx=>SqT.of (ha x hx))
def inv_dc (Hb:Hp)(am:Addr)(us:List Int)(i:Nat)(τ:St)(Hc:Hp):Prop:=∃ (c:Option V) (fs:List Int),τ=[c]∧Same Hb Hc∧Hc am=some (.dK (kvI fs))∧fs.length≤i∧fs.Nodup∧∀ x,x∈fs↔x∈us.take i
structure LlAt (Hc:Hp)(lo:Addr)(ps:List (Addr×List Int)):Prop where
 top:Hc lo=some (.lst (ps.map fun x=>V.ref x.1))
 row:∀ x∈ps,Hc x.1=some (.tup (x.2.map V.int))
theorem LlAt.tp {H H':Hp}{lo:Addr}{ps:List (Addr×List Int)}(h:LlAt H lo ps)(t:Tp H H')(e:H' lo=some (.lst (ps.map fun x=>V.ref x.1))):LlAt H' lo ps:=⟨e,fun x hx=>t _ _ (h.row x hx)⟩
theorem LlAt.snoc {H:Hp}{lo a:Addr}{ps:List (Addr×List Int)}{l:List Int}(h:LlAt H lo ps)(ha:H a=some (.tup (l.map V.int))):LlAt (upd H lo (.lst ((ps.map fun x=>V.ref x.1)++[V.ref a]))) lo (ps++[(a,l)]):=by
 refine⟨by rw[upd_same,List.map_append];rfl,fun x hx=>?_⟩;rcases List.mem_append.mp hx with hx | hx
 ·exact Tp.lst h.top _ _ (h.row x hx)
 ·cases List.mem_singleton.mp hx;exact Tp.lst h.top _ _ ha
open Classical in
noncomputable def pcOf (n:Int)(ts:List (Int×Int))(us:List Int)(u:Int):List Int:=(rInts 0 n.toNat).filter fun x=>decide (Rch ts (·∈us) u x)
section
variable {n:Int}{ts:List (Int×Int)}{us:List Int}{u x:Int}
theorem pcOf_lt:(pcOf n ts us u).Pairwise (·<·):=(rInts_lt _).filter _
open Classical in
theorem mem_pc (hok:TsOk n ts)(h0:0≤u)(h1:u<n):x∈pcOf n ts us u↔Rch ts (·∈us) u x:=by
 unfold pcOf;rw[List.mem_filter,mem_rInts,decide_eq_true_iff];constructor
 ·exact fun h=>h.2
 ·intro h;have:=h.rng hok h0 h1;exact⟨⟨this.1,by omega⟩,h⟩
def lotsStep (f:Int→List Int)(acc:List (List Int))(u:Int):List (List Int):=if (acc.any fun l=>decide (u∈l))=true then acc else acc++[f u]
noncomputable def lots (n:Int)(ts:List (Int×Int))(us vs:List Int):List (List Int):=vs.foldl (lotsStep (pcOf n ts us)) []
def inAny (acc:List (List Int))(x:Int):Prop:=∃ l∈acc,x∈l
theorem any_iff (acc:List (List Int))(x:Int):(acc.any fun l=>decide (x∈l))=true↔inAny acc x:=by
 rw[List.any_eq_true];exact⟨fun ⟨l,h,e⟩=>⟨l,h,of_decide_eq_true e⟩,fun ⟨l,h,e⟩=>⟨l,h,decide_eq_true e⟩⟩
theorem lots_snoc (vs:List Int)(v:Int):lots n ts us (vs++[v])=lotsStep (pcOf n ts us) (lots n ts us vs) v:=by
 unfold lots;rw[List.foldl_append];rfl
theorem lots_mem (vs:List Int):∀ l∈lots n ts us vs,∃ v∈vs,l=pcOf n ts us v:=by
 have gen:∀ (vs:List Int) (acc:List (List Int)) (P:List Int→Prop),(∀ l∈acc,P l)→(∀ v∈vs,P (pcOf n ts us v))→∀ l∈vs.foldl (lotsStep (pcOf n ts us)) acc,P l:=by
  intro vs;induction vs with
  | nil=>intro acc P h _;exact h
  | cons v r ih =>
   intro acc P h1 h2;refine ih _ P ?_ fun w hw=>h2 w (List.mem_cons_of_mem _ hw)
   unfold lotsStep;split
   ·exact h1
   ·intro l hl;rcases List.mem_append.mp hl with hl | hl
    ·exact h1 l hl
    ·cases List.mem_singleton.mp hl;exact h2 v (List.mem_cons_self ..)
 exact gen vs [] (fun l=>∃ v∈vs,l=pcOf n ts us v) (fun l hl=>by cases hl) fun v hv=>⟨v,hv,rfl⟩
theorem lots_len (vs:List Int):(lots n ts us vs).length≤vs.length:=by
 have gen:∀ (vs:List Int) (acc:List (List Int)),(vs.foldl (lotsStep (pcOf n ts us)) acc).length≤acc.length+vs.length:=by
  intro vs;induction vs with
  | nil=>intro acc;exact Nat.le_refl _
  | cons v r ih =>
   intro acc;have h1:=ih (lotsStep (pcOf n ts us) acc v);have h2:(lotsStep (pcOf n ts us) acc v).length≤acc.length+1:=by unfold lotsStep;split<;>simp
   rw[List.foldl_cons,List.length_cons];omega
 have:=gen vs [];unfold lots;simpa using this
theorem rch_left (hok:TsOk n ts)(hus:∀ x∈us,0≤x∧x<n){vs ls:List Int}(hv:∀ v∈vs,v∈us)(hls:∀ x,x∈ls↔x∈us∧¬ inAny (lots n ts us vs) x)(hu:u∈ls):Rch ts (·∈ls) u x↔Rch ts (·∈us) u x:=by
 refine Rch.left hok (fun x hx=>((hls x).mp hx).1) (fun x y ax nlx hy ay ly=>?_) hu;have hx:inAny (lots n ts us vs) x:=Classical.byContradiction fun h=>nlx ((hls x).mpr ⟨ax,h⟩)
 obtain⟨l,hl,hxl⟩:=hx;obtain⟨v,hvm,rfl⟩:=lots_mem vs l hl;obtain⟨v0,v1⟩:=hus v (hv v hvm);refine ((hls y).mp ly).2 ⟨_,hl,(mem_pc hok v0 v1).mpr ?_⟩;exact .step ((mem_pc hok v0 v1).mp hxl) hy ay
theorem inAny_snoc (acc:List (List Int))(l:List Int):inAny (acc++[l]) x↔inAny acc x∨x∈l:=by
 unfold inAny;constructor
 ·rintro⟨m,hm,hx⟩;rcases List.mem_append.mp hm with hm | hm
  ·exact .inl ⟨m,hm,hx⟩
  ·cases List.mem_singleton.mp hm;exact .inr hx
 ·rintro (⟨m,hm,hx⟩ | hx)
  ·exact⟨m,List.mem_append.mpr (.inl hm),hx⟩
  ·exact⟨l,by simp,hx⟩
end
end L2
end
section
namespace L2
open PySem PySem.Spec PyProof.Rows
section
variable {X:Cx}
theorem pe_ty {x:Str}{n:String}{pos:Pos}(hg:Gl X x)(hm:X.mg x=none)(hv:bootBuiltins x=some (.type n))(hn:x≠"__name__":=by decide)(hd:(x == ("__debug__":Str))=false:=by decide):PE X (.Name x pos) (tC (.ty n)) :=
 fun _ _ _ H _ I h=>ld_blt I hg hm hv ⟨.ty n,H,I,rfl,h⟩ hn hd
def cIsi (K:PySem.W.Frag):List V→Hp→VK→Prop:=fun xs H Q=>∃ (x:V) (n:String) (t:Value) (b:Bool),xs=[x,.ty n]∧TyOf K H x t∧PySem.W.kitOne K t (.type n)=some b∧Q (.bl b) H
theorem call_isi:CallR X (.builtin "isinstance") (cIsi X.K):=by
 intro pins s σ H xs us Q I r h;obtain⟨x,n,t,b,rfl,ty,e,q⟩:=h;obtain⟨u,w',rfl,rx,rn⟩:=vals2 r;cases (show w'=Value.type n from rn);exact isinst_ok I rx ty e fun tk=>⟨.bl b,H,I.tok _,rfl,q⟩
theorem isiK (K:PySem.W.Frag)(h:X.K=K:=by rfl):CallR X (.builtin "isinstance") (cIsi K):=by subst h;exact call_isi
end
end L2
end
section
namespace L2
open PySem
def mm (a b:Int):Int×Int:=(if b<a then b else a,if b>a then b else a)
inductive Grow (ts:List (Int×Int)):List Int→List (Int×Int)→Prop where
 | one (s:Int):Grow ts [s] []
 | add {ins:List Int} {us:List (Int×Int)} {a b:Int} (h:Grow ts ins us) (ha:a∈ins) (hb:b∉ins) (hn:b∈nb ts a):Grow ts (ins++[b]) (us++[mm a b])
section
variable {n:Int}{ts us:List (Int×Int)}{ins:List Int}
theorem mm_mem (hok:TsOk n ts){a b:Int}(h:b∈nb ts a):mm a b∈ts:=by
 rcases mem_nb.mp h with q | ⟨q,_⟩
 ·have:=hok _ q;dsimp only at this;have e:mm a b=(a,b):=by unfold mm;rw[if_neg (by omega),if_pos (by omega)]
  rw[e];exact q
 ·have:=hok _ q;dsimp only at this;have e:mm a b=(b,a):=by unfold mm;rw[if_pos (by omega),if_neg (by omega)]
  rw[e];exact q
theorem Grow.len (g:Grow ts ins us):ins.length=us.length+1:=by
 induction g with
 | one s=>rfl
 | add h _ _ _ ih=>rw[List.length_append,List.length_append,ih];rfl
theorem Grow.nd (g:Grow ts ins us):ins.Nodup:=by
 induction g with
 | one s=>simp
 | add h _ hb _ ih =>
  rw[List.nodup_append];exact⟨ih,by simp,fun a ha b hb' e=>by simp at hb';subst hb';subst e;exact hb ha⟩
theorem Grow.ends (g:Grow ts ins us):∀ t∈us,t.1∈ins∧t.2∈ins:=by
 induction g with
 | one s=>intro t ht;cases ht
 | @add ins us a b h ha hb hn ih =>
  intro t ht;rcases List.mem_append.mp ht with ht | ht
  ·exact⟨List.mem_append_left _ (ih t ht).1,List.mem_append_left _ (ih t ht).2⟩
  ·cases List.mem_singleton.mp ht;have h1:a∈ins++[b]:=List.mem_append_left _ ha;have h2:b∈ins++[b]:=List.mem_append_right _ (List.mem_singleton.mpr rfl);unfold mm;dsimp only;constructor
   ·split<;>assumption
   ·split<;>assumption
theorem Grow.sub (g:Grow ts ins us)(hok:TsOk n ts):∀ t∈us,t∈ts:=by
 induction g with
 | one s=>intro t ht;cases ht
 | add h ha hb hn ih =>
  intro t ht;rcases List.mem_append.mp ht with ht | ht
  ·exact ih t ht
  ·cases List.mem_singleton.mp ht;exact mm_mem hok hn
theorem Grow.tnd (g:Grow ts ins us):us.Nodup:=by
 induction g with
 | one s=>exact List.nodup_nil
 | @add ins us a b h ha hb hn ih =>
  rw[List.nodup_append];refine⟨ih,by simp,fun t ht u hu e=>?_⟩;simp at hu;subst hu;subst e;have:=h.ends _ ht;unfold mm at this;dsimp only at this;obtain⟨q1,q2⟩:=this;by_cases hc:b<a
  ·rw[if_pos hc] at q1;exact hb q1
  ·rw[if_neg hc] at q1;by_cases hd:b>a
   ·rw[if_pos hd] at q2;exact hb q2
   ·have:a=b:=by omega
    subst this;exact hb ha
theorem Grow.rng (g:Grow ts ins us)(hok:TsOk n ts)(h0:∀ x∈ins.head?,0≤x∧x<n):∀ x∈ins,0≤x∧x<n:=by
 induction g with
 | one s=>intro x hx;rw[List.mem_singleton.mp hx];exact h0 s rfl
 | @add ins us a b h ha hb hn ih =>
  have hne:ins≠[]:=fun e=>by subst e;cases ha
  have h0':∀ x∈ins.head?,0≤x∧x<n:=fun x hx=>h0 x (by rw[List.head?_append,hx];rfl)
  intro x hx;rcases List.mem_append.mp hx with hx | hx
  ·exact ih h0' x hx
  ·cases List.mem_singleton.mp hx;have:=nb_rng hok hn;omega
structure IsTree (n:Int)(ts us:List (Int×Int)):Prop where
 grown:∃ ins gs,Grow ts ins gs∧us.Perm gs∧(ins.length:Int)=n∧∀ x∈ins,0≤x∧x<n
 srt:us.Pairwise Lex
 sub:∀ t∈us,t∈ts
theorem IsTree.len (h:IsTree n ts us):(us.length:Int)+1=n:=by
 obtain⟨ins,gs,g,p,hl,_⟩:=h.grown;have:=g.len;rw[p.length_eq];omega
theorem IsTree.ok (h:IsTree n ts us)(hok:TsOk n ts):TsOk n us:=fun t ht=>hok t (h.sub t ht)
theorem lex_srt {us:List (Int×Int)}(hs:us.Pairwise fun x y=>HT.lexLt (tl y) (tl x)=false)(hn:us.Nodup):us.Pairwise Lex:=by
 refine (List.Pairwise.and hs hn).imp ?_;rintro a b ⟨h1,h2⟩;have h3:¬ Lex b a:=fun e=>by rw[lex_iff.mpr e] at h1;cases h1
 unfold Lex at h3 ⊢;have h4:¬ (a.1=b.1∧a.2=b.2):=fun e=>h2 (by cases a;cases b;simp at e;rw[e.1,e.2])
 omega
theorem grow_tree {gs:List (Int×Int)}(g:Grow ts ins gs)(hok:TsOk n ts)(hl:(ins.length:Int)=n)(hr:∀ x∈ins,0≤x∧x<n)(p:us.Perm gs)(hs:us.Pairwise fun x y=>HT.lexLt (tl y) (tl x)=false):IsTree n ts us :=
 ⟨⟨ins,gs,g,p,hl,hr⟩,lex_srt hs (p.nodup_iff.mpr g.tnd),fun t ht=>g.sub hok t (p.mem_iff.mp ht)⟩
end
theorem RowsAt.put {H:Hp}{p x:Addr}{as:List Addr}{rows:List (List Int)}{o:HO}(h:RowsAt H p as rows)(h1:x≠p)(h2:x∉as):RowsAt (upd H x o) p as rows :=
 h.mono fun a u q e=>by
  rw[upd_ne (fun z=>by subst z;exact q.elim (fun z=>h1 z) h2)];exact e
theorem atI_in {xs:List Int}{i:Int}(hn:0≤i)(h1:i<xs.length):∃ x,x∈xs∧atI (xs.map V.int) i=some (.int x):=by
 have hlt:i.toNat<xs.length:=by omega
 refine⟨xs[i.toNat],List.getElem_mem hlt,?_⟩;have:=atI_nat (xs:=xs.map V.int) (j:=i.toNat) (v:=V.int xs[i.toNat]) (by rw[List.getElem?_map,List.getElem?_eq_getElem hlt];rfl);rw[Int.toNat_of_nonneg hn] at this;exact this
theorem fil_rising {n:Nat}{f:Int→Bool}:((rInts 0 n).filter f).Pairwise (·<·):=(rInts_lt n).sublist List.filter_sublist
def leavesOf (n:Int)(ts:List (Int×Int)):List Int:=(rInts 0 n.toNat).filter fun v=>decide ((nb ts v).length=1)
end L2
end
section
namespace L2
open PySem PySem.Spec PyProof.Rows
theorem TsAt.ls {H:Hp}{q:Addr}{ts:List (Int×Int)}(h:TsAt H q ts):LsAt H q (ts.map tl):=by
 obtain⟨ps,e,hp⟩:=h;exact⟨ps,e,hp.to,hp.eq⟩
end L2
end
section
namespace HT
open PySem PyProof.Rows
section
variable {prog:Program}{w:World}{A:Around}{E:Value→Shared→Prop}{s:Shared}
theorem applied_rev {sl:Addr}{tk:Tok}{n:Nat}{Q:Int×Int×Nat→Shared→Prop}(hs:s.heap.IsSliceOf sl .none .none (.int (-1) tk))
  (h:Q ((n:Int)-1,-1,n) s):wpAny (model prog w) A (Builtin.Slice.sliceApplied (.ref sl) (pure (n:Int))) Q E s:=by
 obtain⟨os,hos,hcs,hds⟩:=id hs;unfold Builtin.Slice.sliceApplied Builtin.Slice.sliceFields;refine wpAny_bind (wpAny_bind (wpAny_field hos hds (x:=.none) rfl (wpAny_bind (wpAny_field hos hds (x:=.none) rfl (wpAny_bind (wpAny_field hos hds (x:=.int (-1) tk) rfl (wpAny_pure ?_)))))));refine wpAny_bind (slicePart_ (o:=some (-1)) (.int (-1) tk) ?_);show wpAny _ _ (if ((-1:Int) == 0)=true then _ else _) _ _ s;rw[if_neg (by decide)];refine wpAny_bind (slicePart_ .none (wpAny_bind (slicePart_ .none (wpAny_bind (wpAny_pure ?_)))));show wpAny _ _ (match Builtin.Slice.sliceAdjust none none (-1) (n:Int) with | (lo,hi)=>pure (lo,(-1:Int),Builtin.Slice.slicePlaces lo hi (-1))) _ _ s;have e1:Builtin.Slice.sliceAdjust none none (-1) (n:Int)=((n:Int)-1,-1):=by
  unfold Builtin.Slice.sliceAdjust;simp
 rw[e1];have e2:Builtin.Slice.slicePlaces ((n:Int)-1) (-1) (-1)=n:=by
  unfold Builtin.Slice.slicePlaces;simp;try split
  all_goals omega
 show wpAny _ _ (pure ((n:Int)-1,(-1:Int),Builtin.Slice.slicePlaces ((n:Int)-1) (-1) (-1))) _ _ s;rw[e2];exact wpAny_pure h
theorem pick_rev (xs:List Value):((List.range xs.length).filterMap fun (m:Nat)=>xs.toArray[(((xs.length:Nat):Int)-1+(m:Int)*(-1)).toNat]?)=xs.reverse:=by
 have e:∀ m∈List.range xs.length,xs.toArray[(((xs.length:Nat):Int)-1+(m:Int)*(-1)).toNat]?=some (xs.reverse.getD m .none):=by
  intro m hm;have hm':=List.mem_range.mp hm;have e1:(((xs.length:Nat):Int)-1+(m:Int)*(-1)).toNat=xs.length-1-m:=by omega
  rw[e1,List.getElem?_toArray,List.getElem?_eq_getElem (by omega),List.getD_eq_getElem?_getD,List.getElem?_reverse hm',List.getElem?_eq_getElem (by omega)];rfl
 have h2:∀ l:List Nat,(∀ m∈l,xs.toArray[(((xs.length:Nat):Int)-1+(m:Int)*(-1)).toNat]?=some (xs.reverse.getD m .none))→(l.filterMap fun (m:Nat)=>xs.toArray[(((xs.length:Nat):Int)-1+(m:Int)*(-1)).toNat]?)=l.map fun m=>xs.reverse.getD m .none:=by
  intro l hl;induction l with
  | nil=>rfl
  | cons a r ih=>rw[List.filterMap_cons_some (f:=fun (m:Nat)=>xs.toArray[(((xs.length:Nat):Int)-1+(m:Int)*(-1)).toNat]?) (hl a (List.mem_cons_self ..)),List.map_cons,ih fun m hm=>hl m (List.mem_cons_of_mem _ hm)]
 rw[h2 _ e];refine List.ext_getElem? fun i=>?_
 rw[List.getElem?_map];rcases Nat.lt_or_ge i xs.length with h | h
 ·rw[List.getElem?_range h,List.getElem?_eq_getElem (l:=xs.reverse) (by simpa using h)];simp[List.getD_eq_getElem?_getD,h]
 ·rw[List.getElem?_eq_none (by simpa using h),List.getElem?_eq_none (by simpa using h)];rfl
theorem getItem_tuple_rev {t sl:Addr}{xs:List Value}{tk:Tok}{Q:Value→Shared→Prop}(ht:IsTup s.heap t xs.toArray)(hs:s.heap.IsSliceOf sl .none .none (.int (-1) tk))
  (h:Q (.ref s.heap.objs.size) {s with heap:=s.heap.push {cls:=.type "tuple",data:=.seq xs.reverse.toArray}})
  (hsz:xs.length≤sizeLine):wpAny (model prog w) A (getItem (.ref t) (.ref sl)) Q E s:=by
 have htake:sizeOk (.seq xs.reverse.toArray):=by
  show xs.reverse.toArray.size≤sizeLine;simpa using hsz
 obtain⟨os,hos,hcs,hds⟩:=id hs;have hTs:s.TypeIs (.ref sl) "slice":=⟨os,hos,hcs⟩
 unfold getItem;try with_reducible refine wpAny_holding ?_
 first | refine wpAny_bind (wpAny_pure ?_) | skip
 refine wpAny_bind (wpAny_sequenceKey ht.typeIs (by decide) ?_)
 refine wpAny_bind (wpAny_callSpecial?_slot (name:=Str.ofString "__getitem__") ht.typeIs PyProof.Rows.slot_tuple_getitem
  (wpAny_call_entry PyProof.Rows.slot_tuple_getitem ht.typeIs entry_tuple_getitem ?_ (args_tuple_getitem _ _)))
 show wpAny _ _ (Builtin.Tuple.tupleItemsOf (.ref t) >>= _) _ _ s;refine wpAny_bind (tupleItemsOf_ ht ?_);refine wpAny_bind (wpAny_typeOf hTs ?_);rw[if_pos (by decide)];refine wpAny_bind (applied_rev (n:=xs.toArray.size) hs ?_);show wpAny _ _ (if ((((xs.toArray.size:Nat):Int)-1) == 0 && (-1:Int) == 1 && xs.toArray.size == xs.toArray.size)=true then _ else _) _ _ s;rw[if_neg (by simp)];rw[show xs.toArray.size=xs.length by simp,pick_rev];first
  | exact wpAny_bind (m:=Builtin.Tuple.tupleExact _) (wpAny_newObj_type (wpAny_pure ⟨_,rfl,wpAny_pure h⟩) htake)
  | exact wpAny_bind (m:=Builtin.Tuple.tupleExact _) (wpAny_newObj_type (wpAny_bind (wpAny_pure (wpAny_pure ⟨_,rfl,wpAny_pure h⟩))) htake)
  | exact wpAny_bind (wpAny_bind (m:=Builtin.Tuple.tupleExact _) (wpAny_newObj_type (wpAny_pure (wpAny_pure ⟨_,rfl,wpAny_pure h⟩)) htake))
  | exact wpAny_bind (wpAny_bind (m:=Builtin.Tuple.tupleExact _) (wpAny_newObj_type (wpAny_pure ⟨_,rfl,wpAny_pure h⟩) htake))
end
end HT
namespace L2
open PySem PySem.Spec PyProof.Rows
section
variable {X:Cx}{e st:Expr}{te ts:TE}{p2 pos:Pos}
def tRevT (K:PySem.W.Frag)(te ts:TE):TE:=fun σ H Q=>te σ H fun x H1=>ts σ H1 fun y H2=>∃ a xs,x=.ref a∧SqT K H2 a xs∧y=.int (-1)∧∀ p,H2 p=none→Q (.ref p) (upd H2 p (.tup xs.reverse))
theorem pe_revT (K:PySem.W.Frag)(he:PE X e te)(hst:PE X st ts)(ht:∀ o r,letTemporaryGo e o r=pure ():=by intro _ _;rfl)(hK:X.K=K:=by rfl):PE X (.Subscript e (.Slice none none (some st) p2) pos) (tRevT K te ts):=by
 subst hK;intro pins s σ H Q I h;refine wpAny_Subscript_Slice_step (T:="tuple") PyProof.Rows.slot_tuple_getitem.lookup (thn (he pins s σ H _ I h) fun v s1 ⟨x,H1,I1,r1,q1⟩=>?_) ht;refine wpAny_Slice ?_;rw[evalPart_none];refine wpAny_pure (wpAny_pure ?_);rw[evalPart_some];refine thn (hst pins s1 σ H1 _ I1 q1) fun vs s2 ⟨y,H2,I2,r2,a,xs,e1,hx,e2,q2⟩=>?_
 subst e1;subst e2;cases r1;obtain⟨tk,rfl⟩:=r2;have I3:Inv X pins σ H2 {s2 with heap:=s2.heap.push {cls:=.type "slice",data:=.fields #[.none,.none,.int (-1) tk]}}:=I2.kept (t':=s2.toks) fun b ob q=>Heap.get?_push_of_some _ q
 obtain⟨its,r,htup,hz⟩:=I3.tuple hx;refine⟨htup.typeIs,HT.getItem_tuple_rev htup (Heap.IsSliceOf.new ..) ?_ (by rw[← r.length];exact hz)⟩;have hlr:xs.reverse.length≤sizeLine:=by simpa using hz
 exact⟨.ref _,_,I3.laid (t':=s2.toks) (o:=.tup xs.reverse) (fun b o q=>Heap.get?_push_of_some _ q) (Nat.le_refl _) ⟨hlr,its.reverse,vals_rev r,⟨_,Heap.get?_push_size _ rfl,rfl,_,rfl⟩⟩,rfl,q2 _ I3.fresh⟩
end
end L2
end
section
namespace Srt
open PySem PyProof.Rows
structure NxIt (prog:Program)(w:World)(i l:Addr)(n:Nat)(P:Nat→Value→Prop)(St:Nat→Heap→Prop):Prop where
 lt:∀ k h,St k h→i<h.objs.size
 frame:∀ k h h',St k h→(∀ b o,b=i∨b=l→h.get? b=some o→h'.get? b=some o)→St k h'
 item:∀ (A:Around) (k:Nat) (s:Shared) (Q:Value→Shared→Prop) (E:Value→Shared→Prop),k<n→St k s.heap→(∀ v h',P k v→St (k+1) h'→Heap.SameBut i s.heap h'→Q v {s with heap:=h'}) →
  wpAny (model prog w) A (Builtin.SmallTypes.nextOf (.ref i)) Q E s
 done:∀ (A:Around) (k:Nat) (s:Shared) (Q:Value→Shared→Prop) (E:Value→Shared→Prop),A.handled=none→n≤k→St k s.heap →
  (∀ h' e,Heap.ExtBut i s.heap h'→(∃ o,h'.get? e=some o∧o.cls=.type "StopIteration")→E (.ref e) {s with heap:=h'})→wpAny (model prog w) A (Builtin.SmallTypes.nextOf (.ref i)) Q E s
theorem nx_tup {prog:Program}{w:World}{i l:Addr}{items:Array Value}(hne:l≠i):NxIt prog w i l items.size (fun k v=>items[k]?=some v) (fun k h=>h.IsTupleIter i l k∧h.IsTuple l items) where
 lt:=fun k h st=>by obtain⟨⟨o,e,_⟩,_⟩:=st;exact Heap.lt_size e
 frame:=fun k h h' st kp=>⟨st.1.at fun o e=>kp i o (.inl rfl) e,st.2.at fun o e=>kp l o (.inr rfl) e⟩
 item:=fun A k s Q E hk st hQ=>by
  obtain⟨hit,ht⟩:=st;obtain⟨o,ho,hc,hd⟩:=id hit;obtain⟨ol,hol,_,nl,hdl⟩:=id ht;unfold Builtin.SmallTypes.nextOf;refine wpAny_bind (wpAny_callSpecial?_slot (name:=Str.ofString "__next__") hit.typeIs PySem.F.slot_tuple_iterator_next (wpAny_call_entry PySem.F.slot_tuple_iterator_next hit.typeIs PySem.F.entry_tuple_iterator_next ?_ (PySem.F.args_tuple_iterator_next_1 _)));show wpAny _ _ (field (.ref i) 0 >>= _) _ _ s;refine wpAny_bind (wpAny_field ho hd (x:=.ref l) rfl ?_);show wpAny _ _ (if (Value.ref l == Value.none)=true then _ else _) _ _ s;rw[if_neg (show ¬ ((Value.ref l == Value.none)=true) from Bool.false_ne_true)];show wpAny _ _ (field (.ref i) 1 >>= _) _ _ s;refine wpAny_bind (wpAny_field ho hd (x:=.int k 0) rfl ?_);show wpAny _ _ (seqItems? (.ref l) >>= _) _ _ s;refine wpAny_bind (wpAny_seqItems hol hdl ?_);simp only[Int.toNat_natCast,Array.getElem?_eq_getElem hk];refine wpAny_bind (wpAny_setField ho hd (by simp) (wpAny_pure ⟨_,rfl,wpAny_pure (hQ _ _ (Array.getElem?_eq_getElem hk) ⟨?_,?_⟩ (Heap.SameBut.update ..))⟩))
  ·exact⟨_,Heap.get?_update_self _ ho (Obj.isFreed_of_fields (Obj.data_mapFields hd _)),(Obj.cls_mapFields ..).trans hc,by rw[Obj.data_mapFields hd];simp[rawInt]⟩
  ·exact ht.extBut (Heap.SameBut.update ..).extBut hne
 done:=fun A k s Q E hh hk st hE=>by
  obtain⟨hit,ht⟩:=st;obtain⟨o,ho,hc,hd⟩:=id hit;obtain⟨ol,hol,_,nl,hdl⟩:=id ht;unfold Builtin.SmallTypes.nextOf;refine wpAny_bind (wpAny_callSpecial?_slot (name:=Str.ofString "__next__") hit.typeIs PySem.F.slot_tuple_iterator_next (wpAny_call_entry PySem.F.slot_tuple_iterator_next hit.typeIs PySem.F.entry_tuple_iterator_next ?_ (PySem.F.args_tuple_iterator_next_1 _)));show wpAny _ _ (field (.ref i) 0 >>= _) _ _ s;refine wpAny_bind (wpAny_field ho hd (x:=.ref l) rfl ?_);show wpAny _ _ (if (Value.ref l == Value.none)=true then _ else _) _ _ s;rw[if_neg (show ¬ ((Value.ref l == Value.none)=true) from Bool.false_ne_true)];show wpAny _ _ (field (.ref i) 1 >>= _) _ _ s;refine wpAny_bind (wpAny_field ho hd (x:=.int k 0) rfl ?_);show wpAny _ _ (seqItems? (.ref l) >>= _) _ _ s;refine wpAny_bind (wpAny_seqItems hol hdl ?_);simp only[Int.toNat_natCast,Array.getElem?_eq_none hk];refine wpAny_bind (wpAny_rule (wpAny_bind (wpAny_setField ho hd (by simp) ?_)));show wpAny _ _ (newExc (.type "StopIteration") [] >>= _) _ _ _;refine wpAny_bind ?_;simp only[newExc,newTuple];refine wpAny_bind (wpAny_newObj_type ?_ (by size_fits));refine wpAny_bind (m:=firstArgMember _ _) (wpAny_of_eq (a:=Value.none) (by first | rfl | (simp only[firstArgMember];rfl)) ?_);refine wpAny_newObj_type ?_ (by size_fits);simp only[raiseNew];refine wpAny_bind (wpAny_handled ?_);first | rw[show A.in1.handled=none from hh] | rw[hh]
  refine wpAny_bind (wpAny_pure (wpAny_throw ?_));exact hE _ _ (((Heap.SameBut.update ..).extBut.push _).push _) ⟨_,Heap.get?_push_size _ rfl,rfl⟩
section
variable {prog:Program}{w:World}{A:Around}{E:Value→Shared→Prop}{s:Shared}{z TI TO i1 i2 l1 l2:Addr}{n1 n2 k:Nat}{P1 P2:Nat→Value→Prop}{S1 S2:Nat→Heap→Prop}{a b:Value}
theorem zip_item {Q:Value→Shared→Prop}(N1:NxIt prog w i1 l1 n1 P1 S1)(N2:NxIt prog w i2 l2 n2 P2 S2)(D:ZipApart z TI TO i1 i2 l1 l2)(hz:IsZip s.heap z TI TO .none)(hTI:IsPair s.heap TI (.ref i1) (.ref i2))(hTO:IsPair s.heap TO a b)
  (h1:S1 k s.heap) (h2:S2 k s.heap) (k1:k<n1) (k2:k<n2)
  (hQ:∀ h' x y,P1 k x→P2 k y→IsZip h' z TI TO (rawInt s.heap.objs.size)→IsPair h' TO x y→S1 (k+1) h'→S2 (k+1) h'→IsPair h' s.heap.objs.size x y→h'.objs.size=s.heap.objs.size+1 →
   (∀ c o,c≠z→c≠TO→c≠i1→c≠i2→s.heap.get? c=some o→h'.get? c=some o)→Q (.ref s.heap.objs.size) {s with heap:=h'}) :
  wpAny (model prog w) A (Builtin.«zip.__next__» ⟨[.ref z],[]⟩) (fun fin s'=>∃ v,fin=.done (.ret v)∧Q v s') E s:=by
 show wpAny _ _ (field (.ref z) 2 >>= _) _ _ _;refine wpAny_bind (wpAny_field hz rfl (x:=.bool false) rfl ?_);show wpAny _ _ (field (.ref z) 3 >>= _) _ _ _;refine wpAny_bind (wpAny_field hz rfl (x:=.ref TI) rfl (wpAny_bind (wpAny_seqItems hTI rfl ?_)));show wpAny _ _ (Builtin.SmallTypes.ownedTupleIsFree (.ref z) >>= _) _ _ _;refine wpAny_bind ?_;unfold Builtin.SmallTypes.ownedTupleIsFree;refine wpAny_bind (wpAny_field hz rfl (x:=.none) rfl (wpAny_pure ?_));simp only[if_true];refine wpAny_bind (wpAny_rule (wpAny_bind (wpAny_field hz rfl (x:=.ref TO) rfl ?_)));refine wpAny_bind (wpAny_setField_rec hz (by simp) fun g1 z1 b1=>?_);replace z1:IsZip g1 z TI TO .ellipsis:=z1;have f1:S1 k g1:=N1.frame _ _ _ h1 fun c o hc e=>b1.extBut c o (by rcases hc with rfl | rfl;exact D.i1z;exact D.l1z) e
 have f2:S2 k g1:=N2.frame _ _ _ h2 fun c o hc e=>b1.extBut c o (by rcases hc with rfl | rfl;exact D.i2z;exact D.l2z) e
 refine wpAny_bind ?_;simp only[List.zipIdx_cons,List.zipIdx_nil,List.forIn_cons,List.forIn_nil];refine wpAny_bind (wpAny_bind (wpAny_onRaise ?_));show wpAny _ _ (Builtin.SmallTypes.nextOf (.ref i1) >>= _) _ _ _;refine wpAny_bind (N1.item _ k _ _ _ k1 f1 fun x g2 px f1' b2=>wpAny_pure ?_);have t2:IsPair g2 TO a b:=b2.extBut _ _ D.TOi1 (b1.extBut _ _ D.TOz hTO);refine wpAny_bind (wpAny_seqItems t2 rfl (wpAny_bind (wpAny_updateSeq_pair t2 fun g3 t3 b3=>?_)));replace t3:IsPair g3 TO x b:=t3;have f2':S2 k g3:=N2.frame _ _ _ f2 fun c o hc e=>b3.extBut c o (by rcases hc with rfl | rfl;exact D.TOi2.symm;exact D.l2TO) (b2.extBut c o (by rcases hc with rfl | rfl;exact D.i12.symm;exact D.l2i1) e)
 refine wpAny_bind (wpAny_letGo (wpAny_pure (wpAny_bind (wpAny_bind (wpAny_onRaise ?_)))));show wpAny _ _ (Builtin.SmallTypes.nextOf (.ref i2) >>= _) _ _ _;refine wpAny_bind (N2.item _ k _ _ _ k2 f2' fun y g4 py f2'' b4=>wpAny_pure ?_);have t4:IsPair g4 TO x b:=b4.extBut _ _ D.TOi2 t3;refine wpAny_bind (wpAny_seqItems t4 rfl (wpAny_bind (wpAny_updateSeq_pair t4 fun g5 t5 b5=>?_)));replace t5:IsPair g5 TO x y:=t5;refine wpAny_bind (wpAny_letGo (wpAny_pure (wpAny_pure (wpAny_bind (wpAny_seqItems t5 rfl (wpAny_bind (wpAny_newTuple ?_)))))));have hsz:g5.objs.size=s.heap.objs.size:=by rw[b5.1,b4.1,b3.1,b2.1,b1.1]
 have z5:IsZip g5 z TI TO .ellipsis:=b5.extBut _ _ D.TOz.symm (b4.extBut _ _ D.i2z.symm (b3.extBut _ _ D.TOz.symm (b2.extBut _ _ D.i1z.symm z1)));have kp5:∀ c o,c≠z→c≠TO→c≠i1→c≠i2→s.heap.get? c=some o→g5.get? c=some o:=fun c o c1 c2 c3 c4 e =>
  b5.extBut _ _ c2 (b4.extBut _ _ c4 (b3.extBut _ _ c2 (b2.extBut _ _ c3 (b1.extBut _ _ c1 e))))
 have zlt:z<g5.objs.size:=Heap.lt_size z5;show wpAny _ _ (Builtin.SmallTypes.ownedTupleHandOut (.ref z) (.ref g5.objs.size) >>= _) _ _ _;refine wpAny_bind ?_;unfold Builtin.SmallTypes.ownedTupleHandOut;have z6:IsZip (g5.push {cls:=.type "tuple",data:=.seq #[x,y]}) z TI TO .ellipsis:=Heap.get?_push_of_some _ z5;refine wpAny_bind (wpAny_setField_rec z6 (by simp) fun g7 z7 b7=>?_);replace z7:IsZip g7 z TI TO (rawInt g5.objs.size):=z7;refine wpAny_setField_rec z7 (by simp) fun g8 z8 b8=>?_
 replace z8:IsZip g8 z TI TO (rawInt g5.objs.size):=z8;have up:∀ c o,c≠z→g5.get? c=some o→g8.get? c=some o:=fun c o c1 e=>b8.extBut _ _ c1 (b7.extBut _ _ c1 (Heap.get?_push_of_some _ e))
 have t8:IsPair g8 g5.objs.size x y:=b8.extBut _ _ (Nat.ne_of_gt zlt) (b7.extBut _ _ (Nat.ne_of_gt zlt) (Heap.get?_push_size _ rfl));have s8:g8.objs.size=g5.objs.size+1:=by rw[b8.1,b7.1,Heap.size_push]
 rw[hsz] at z8 t8 s8;refine wpAny_pure ⟨_,rfl,?_⟩;show Q (.ref g5.objs.size) _;rw[hsz];refine hQ g8 x y px py z8 (up _ _ D.TOz t5) ?_ ?_ t8 s8 fun c o c1 c2 c3 c4 e=>up c o c1 (kp5 c o c1 c2 c3 c4 e)
 ·refine N1.frame _ _ _ f1' fun c o hc e=>up c o (by rcases hc with rfl | rfl;exact D.i1z;exact D.l1z) (b5.extBut c o ?_ (b4.extBut c o ?_ (b3.extBut c o ?_ e)))
  ·rcases hc with rfl | rfl;exact D.TOi1.symm;exact D.l1TO
  ·rcases hc with rfl | rfl;exact D.i12;exact D.l1i2
  ·rcases hc with rfl | rfl;exact D.TOi1.symm;exact D.l1TO
 ·refine N2.frame _ _ _ f2'' fun c o hc e=>up c o (by rcases hc with rfl | rfl;exact D.i2z;exact D.l2z) (b5.extBut c o ?_ e)
  rcases hc with rfl | rfl;exact D.TOi2.symm;exact D.l2TO
theorem zip_done {Q:Fin→Shared→Prop}(hh:A.handled=none)(N1:NxIt prog w i1 l1 n1 P1 S1)(N2:NxIt prog w i2 l2 n2 P2 S2)(D:ZipApart z TI TO i1 i2 l1 l2)(hz:IsZip s.heap z TI TO .none)(hTI:IsPair s.heap TI (.ref i1) (.ref i2))(hTO:IsPair s.heap TO a b)
  (h1:S1 k s.heap) (h2:S2 k s.heap) (hend:n1≤k∨n2≤k)
  (hE:∀ h' e,(∀ c o,c≠z→c≠TO→c≠i1→c≠i2→s.heap.get? c=some o→h'.get? c=some o)→(∃ o,h'.get? e=some o∧o.cls=.type "StopIteration")→E (.ref e) {s with heap:=h'}) :
  wpAny (model prog w) A (Builtin.«zip.__next__» ⟨[.ref z],[]⟩) Q E s:=by
 show wpAny _ _ (field (.ref z) 2 >>= _) _ _ _;refine wpAny_bind (wpAny_field hz rfl (x:=.bool false) rfl ?_);show wpAny _ _ (field (.ref z) 3 >>= _) _ _ _;refine wpAny_bind (wpAny_field hz rfl (x:=.ref TI) rfl (wpAny_bind (wpAny_seqItems hTI rfl ?_)));show wpAny _ _ (Builtin.SmallTypes.ownedTupleIsFree (.ref z) >>= _) _ _ _;refine wpAny_bind ?_;unfold Builtin.SmallTypes.ownedTupleIsFree;refine wpAny_bind (wpAny_field hz rfl (x:=.none) rfl (wpAny_pure ?_));simp only[if_true];refine wpAny_bind (wpAny_rule (wpAny_bind (wpAny_field hz rfl (x:=.ref TO) rfl ?_)));refine wpAny_bind (wpAny_setField_rec hz (by simp) fun g1 z1 b1=>?_);replace z1:IsZip g1 z TI TO .ellipsis:=z1;have f1:S1 k g1:=N1.frame _ _ _ h1 fun c o hc e=>b1.extBut c o (by rcases hc with rfl | rfl;exact D.i1z;exact D.l1z) e
 have f2:S2 k g1:=N2.frame _ _ _ h2 fun c o hc e=>b1.extBut c o (by rcases hc with rfl | rfl;exact D.i2z;exact D.l2z) e
 refine wpAny_bind ?_;simp only[List.zipIdx_cons,List.zipIdx_nil,List.forIn_cons,List.forIn_nil];refine wpAny_bind (wpAny_bind (wpAny_onRaise ?_));show wpAny _ _ (Builtin.SmallTypes.nextOf (.ref i1) >>= _) _ _ _;rcases Nat.lt_or_ge k n1 with k1 | k1
 ·have k2:n2≤k:=hend.resolve_left (Nat.not_le.mpr k1);refine wpAny_bind (N1.item _ k _ _ _ k1 f1 fun x g2 px f1' b2=>wpAny_pure ?_);have t2:IsPair g2 TO a b:=b2.extBut _ _ D.TOi1 (b1.extBut _ _ D.TOz hTO);refine wpAny_bind (wpAny_seqItems t2 rfl (wpAny_bind (wpAny_updateSeq_pair t2 fun g3 t3 b3=>?_)));have f2':S2 k g3:=N2.frame _ _ _ f2 fun c o hc e=>b3.extBut c o (by rcases hc with rfl | rfl;exact D.TOi2.symm;exact D.l2TO) (b2.extBut c o (by rcases hc with rfl | rfl;exact D.i12.symm;exact D.l2i1) e)
  refine wpAny_bind (wpAny_letGo (wpAny_pure (wpAny_bind (wpAny_bind (wpAny_onRaise ?_)))));show wpAny _ _ (Builtin.SmallTypes.nextOf (.ref i2) >>= _) _ _ _;refine wpAny_bind (N2.done _ k _ _ _ hh k2 f2' fun g4 e b4 he=>?_);obtain⟨oe,hoe,hce⟩:=he;have z4:IsZip g4 z TI TO .ellipsis:=b4 _ _ D.i2z.symm (b3.extBut _ _ D.TOz.symm (b2.extBut _ _ D.i1z.symm z1));have hez:e≠z:=fun x=>by subst x;rw[z4] at hoe;cases hoe;simp at hce
  refine wpAny_setField_rec z4 (by simp) fun g5 _ b5=>hE g5 e (fun c o c1 c2 c3 c4 x=>b5.extBut _ _ c1 (b4 _ _ c4 (b3.extBut _ _ c2 (b2.extBut _ _ c3 (b1.extBut _ _ c1 x))))) ⟨oe,b5.extBut _ _ hez hoe,hce⟩
 ·refine wpAny_bind (N1.done _ k _ _ _ hh k1 f1 fun g2 e b2 he=>?_);obtain⟨oe,hoe,hce⟩:=he;have z2:IsZip g2 z TI TO .ellipsis:=b2 _ _ D.i1z.symm z1;have hez:e≠z:=fun x=>by subst x;rw[z2] at hoe;cases hoe;simp at hce
  refine wpAny_setField_rec z2 (by simp) fun g3 _ b3=>hE g3 e (fun c o c1 _ c3 _ x=>b3.extBut _ _ c1 (b2 _ _ c3 (b1.extBut _ _ c1 x))) ⟨oe,b3.extBut _ _ hez hoe,hce⟩
theorem pyNext_zip {Q:Option Value→Shared→Prop}(N1:NxIt prog w i1 l1 n1 P1 S1)(N2:NxIt prog w i2 l2 n2 P2 S2)(D:ZipApart z TI TO i1 i2 l1 l2)(hz:IsZip s.heap z TI TO .none)(hTI:IsPair s.heap TI (.ref i1) (.ref i2))(hTO:IsPair s.heap TO a b)
  (h1:S1 k s.heap) (h2:S2 k s.heap) (k1:k<n1) (k2:k<n2)
  (hQ:∀ h' x y,P1 k x→P2 k y→IsZip h' z TI TO (rawInt s.heap.objs.size)→IsPair h' TO x y→S1 (k+1) h'→S2 (k+1) h'→IsPair h' s.heap.objs.size x y→h'.objs.size=s.heap.objs.size+1 →
   (∀ c o,c≠z→c≠TO→c≠i1→c≠i2→s.heap.get? c=some o→h'.get? c=some o)→Q (some (.ref s.heap.objs.size)) {s with heap:=h'}):wpAny (model prog w) A (pyNext (.ref z)) Q E s:=by
 have hT:s.TypeIs (.ref z) "zip":=⟨_,hz,rfl⟩
 unfold pyNext
 exact wpAny_bind (wpAny_attempt (wpAny_callSpecial?_slot (name:=Str.ofString "__next__") hT PySem.F.slot_zip_next (wpAny_call_entry PySem.F.slot_zip_next hT PySem.F.entry_zip_next
  (zip_item N1 N2 D hz hTI hTO h1 h2 k1 k2 fun h' x y px py a1 a2 a3 a4 a5 a6 a7=>wpAny_pure (hQ h' x y px py a1 a2 a3 a4 a5 a6 a7)) (PySem.F.args_zip_next_1 _))))
theorem pyNext_zip_end {Q:Option Value→Shared→Prop}(hh:A.handled=none)(N1:NxIt prog w i1 l1 n1 P1 S1)(N2:NxIt prog w i2 l2 n2 P2 S2)(D:ZipApart z TI TO i1 i2 l1 l2)(hz:IsZip s.heap z TI TO .none)(hTI:IsPair s.heap TI (.ref i1) (.ref i2))(hTO:IsPair s.heap TO a b)
  (h1:S1 k s.heap) (h2:S2 k s.heap) (hend:n1≤k∨n2≤k)
  (hQ:∀ h',(∀ c o,c≠z→c≠TO→c≠i1→c≠i2→s.heap.get? c=some o→h'.get? c=some o)→Q none {s with heap:=h'}):wpAny (model prog w) A (pyNext (.ref z)) Q E s:=by
 have hT:s.TypeIs (.ref z) "zip":=⟨_,hz,rfl⟩
 unfold pyNext
 refine wpAny_bind (wpAny_attempt (wpAny_callSpecial?_slot (name:=Str.ofString "__next__") hT PySem.F.slot_zip_next (wpAny_call_entry PySem.F.slot_zip_next hT PySem.F.entry_zip_next
  (zip_done hh N1 N2 D hz hTI hTO h1 h2 hend fun h' e hk he=>?_) (PySem.F.args_zip_next_1 _))))
 obtain⟨o,ho,hc⟩:=he;refine wpAny_bind (wpAny_isInstance (T:="StopIteration") (b:=true) ⟨o,ho,hc⟩ isSubtype_stop ?_);exact wpAny_pure (hQ _ hk)
end
def zh (h:Heap)(l1 l2:Addr):Heap:=((((h.push {cls:=.type "tuple_iterator",data:=.fields #[.ref l1,.int 0 0]}).push {cls:=.type "tuple_iterator",data:=.fields #[.ref l2,.int 0 0]}).push {cls:=.type "tuple",data:=.seq #[.ref h.objs.size,.ref (h.objs.size+1)]}).push
 {cls:=.type "tuple",data:=.seq #[.none,.none]}).push {cls:=.type "zip",data:=.fields #[.none,.bool false,.bool false,.ref (h.objs.size+2),.ref (h.objs.size+3)]}
theorem zip_new (l1 l2:Addr)(xs ys:Array Value) :
  Meets (Builtin.«zip.__new__» ⟨[.type "zip",.ref l1,.ref l2],[]⟩) (fun _ R s=>s.heap.IsTuple l1 xs∧s.heap.IsTuple l2 ys∧R (.ok (.ret (.ref (s.heap.objs.size+4)))) {s with heap:=zh s.heap l1 l2}) :=
 .of_wp fun prog w A R s h=>by
  obtain⟨hp,g,d,tk,os⟩:=s;obtain⟨hl1,hl2,h⟩:=h;have hsub:=sub_zip;have hL1:Heap.IsTuple (Shared.heap ⟨hp,g,d,tk,os⟩) l1 xs:=hl1;have hL2:Heap.IsTuple (Shared.heap ⟨hp.push {cls:=.type "tuple_iterator",data:=.fields #[.ref l1,.int 0 0]},g,d,tk,os⟩) l2 ys:=hl2.at fun o e=>Heap.get?_push_of_some _ e
  wp_walk using wpAny_pyIter_tuple hL1,wpAny_pyIter_tuple hL2
  refine⟨_,rfl,?_⟩;unfold zh at h;simp only[Heap.size_push] at h ⊢;exact h
section
variable {prog:Program}{w:World}{A:Around}{E:Value→Shared→Prop}{s:Shared}
theorem call_zipT {l1 l2:Addr}{xs ys:Array Value}{Q:Value→Shared→Prop}(hl1:s.heap.IsTuple l1 xs)(hl2:s.heap.IsTuple l2 ys)
  (h:∀ h',IsZip h' (s.heap.objs.size+4) (s.heap.objs.size+2) (s.heap.objs.size+3) .none→IsPair h' (s.heap.objs.size+2) (.ref s.heap.objs.size) (.ref (s.heap.objs.size+1)) →
   IsPair h' (s.heap.objs.size+3) .none .none→h'.IsTupleIter s.heap.objs.size l1 0→h'.IsTupleIter (s.heap.objs.size+1) l2 0 →
   (∀ c o,s.heap.get? c=some o→h'.get? c=some o)→Q (.ref (s.heap.objs.size+4)) {s with heap:=h'}) :
  wpAny (model prog w) A (call (.type "zip") [.ref l1,.ref l2]) Q E s:=by
 have kp:∀ c o,s.heap.get? c=some o→(zh s.heap l1 l2).get? c=some o:=fun c o x=>Heap.get?_push_of_some _ (Heap.get?_push_of_some _ (Heap.get?_push_of_some _ (Heap.get?_push_of_some _ (Heap.get?_push_of_some _ x))))
 have at':∀ {h:Heap} {o:Obj} {n:Nat},h.objs.size=n→o.isFreed=false→(h.push o).get? n=some o:=fun e f=>by subst e;exact Heap.get?_push_size _ f
 have g1:(zh s.heap l1 l2).get? s.heap.objs.size=some {cls:=.type "tuple_iterator",data:=.fields #[.ref l1,.int 0 0]}:=Heap.get?_push_of_some _ (Heap.get?_push_of_some _ (Heap.get?_push_of_some _ (Heap.get?_push_of_some _ (Heap.get?_push_size _ rfl))));have g2:(zh s.heap l1 l2).get? (s.heap.objs.size+1)=some {cls:=.type "tuple_iterator",data:=.fields #[.ref l2,.int 0 0]}:=Heap.get?_push_of_some _ (Heap.get?_push_of_some _ (Heap.get?_push_of_some _ (at' (by simp[Heap.size_push]) rfl)));have g3:(zh s.heap l1 l2).get? (s.heap.objs.size+2)=some {cls:=.type "tuple",data:=.seq #[.ref s.heap.objs.size,.ref (s.heap.objs.size+1)]}:=Heap.get?_push_of_some _ (Heap.get?_push_of_some _ (at' (by simp[Heap.size_push]) rfl));have g4:(zh s.heap l1 l2).get? (s.heap.objs.size+3)=some {cls:=.type "tuple",data:=.seq #[.none,.none]}:=Heap.get?_push_of_some _ (at' (by simp[Heap.size_push]) rfl);have g5:(zh s.heap l1 l2).get? (s.heap.objs.size+4)=some {cls:=.type "zip",data:=.fields #[.none,.bool false,.bool false,.ref (s.heap.objs.size+2),.ref (s.heap.objs.size+3)]}:=at' (by simp[Heap.size_push]) rfl;refine callType_new PySem.F.called_zip (by decide) (PySem.F.typeCall_zip_2 _ _) (PySem.F.newCall_zip_2 _ _) (fun obj=>PySem.F.args_object_init_3 obj _ _) PySem.F.entry_zip_new (zip_new l1 l2 xs ys) ⟨hl1,hl2,?_⟩;exact⟨⟨_,g5,rfl⟩,h _ g5 g3 g4 ⟨_,g1,rfl,rfl⟩ ⟨_,g2,rfl,rfl⟩ kp⟩
end
end Srt
end
section
namespace L2
open PySem PySem.Spec PyProof.Rows
def Itz (K:PySem.W.Frag)(a b:Addr):It :=
  ⟨fun i H=>∃ xs ys x y,SqT K H a xs∧SqT K H b ys∧xs[i]?=some x∧ys[i]?=some y,
   fun i H v H'=>∃ q x y,v=.ref q∧H q=none∧H'=upd H q (.tup [x,y])∧(∀ xs,SqT K H a xs→xs[i]?=some x)∧∀ ys,SqT K H b ys→ys[i]?=some y,
   fun i H=>∃ xs ys,SqT K H a xs∧SqT K H b ys∧(xs.length≤i∨ys.length≤i)⟩
def ZipTn (z TI TO i1 i2 a b:Addr)(i:Nat)(h:Heap):Prop:=IsZip h z TI TO .none∧IsPair h TI (.ref i1) (.ref i2)∧(∃ u v,IsPair h TO u v)∧h.IsTupleIter i1 a i∧h.IsTupleIter i2 b i
theorem turn_zip {P:Program}{w:World}{K:PySem.W.Frag}{elts:List Expr}{k:Nat}{pos:Pos}{z TI TO i1 i2 a b:Addr}(D:ZipApart z TI TO i1 i2 a b):Turn P w K (.Tuple elts k pos) (Itz K a b) [z,TI,TO,i1,i2] z (ZipTn z TI TO i1 i2 a b) where
 mem:=by simp
 obj:=fun i h st c hc=>by
  obtain⟨hz,hTI,⟨u,v,hTO⟩,⟨o1,e1,c1,d1⟩,⟨o2,e2,c2,d2⟩⟩:=st;simp only[List.mem_cons,List.not_mem_nil,or_false] at hc;rcases hc with rfl | rfl | rfl | rfl | rfl
  ·exact⟨_,hz,fun v e=>by
    have e':Data.fields _=Data.cell v:=e
    cases e'⟩
  ·exact⟨_,hTI,fun v e=>by
    have e':Data.seq _ _=Data.cell v:=e
    cases e'⟩
  ·exact⟨_,hTO,fun v e=>by
    have e':Data.seq _ _=Data.cell v:=e
    cases e'⟩
  ·exact⟨o1,e1,fun v e=>by rw[d1] at e;cases e⟩
  ·exact⟨o2,e2,fun v e=>by rw[d2] at e;cases e⟩
 keep:=fun i h h' st kp=>by
  obtain⟨hz,hTI,⟨u,v,hTO⟩,h1,h2⟩:=st;exact⟨kp z (by simp) _ hz,kp TI (by simp) _ hTI,⟨u,v,kp TO (by simp) _ hTO⟩,h1.at fun o e=>kp i1 (by simp) o e,h2.at fun o e=>kp i2 (by simp) o e⟩
 item:=by
  intro X hP hw hK hc i pins s σ H E I hf st hg;subst hP hw hK;obtain⟨xs,ys,x,y,qx,qy,hx,hy⟩:=hg;obtain⟨its,rv,p,_⟩:=I.tuple qx;obtain⟨jts,rw',p',_⟩:=I.tuple qy;obtain⟨u,hu,ru⟩:=rv.get hx;obtain⟨v,hv,rv'⟩:=rw'.get hy;obtain⟨hz,hTI,⟨c0,d0,hTO⟩,h1,h2⟩:=id st;have hlu:=(List.getElem?_eq_some_iff.mp hu).1;have hlv:=(List.getElem?_eq_some_iff.mp hv).1;have old:∀ c∈[z,TI,TO,i1,i2],c<s.heap.objs.size:=fun c hc=>by
   simp only[List.mem_cons,List.not_mem_nil,or_false] at hc;rcases hc with rfl | rfl | rfl | rfl | rfl
   ·exact Heap.lt_size hz
   ·exact Heap.lt_size hTI
   ·exact Heap.lt_size hTO
   ·obtain⟨_,q,_⟩:=h1;exact Heap.lt_size q
   ·obtain⟨_,q,_⟩:=h2;exact Heap.lt_size q
  refine Srt.pyNext_zip (k:=i) (Srt.nx_tup (items:=its.toArray) D.l1i1) (Srt.nx_tup (items:=jts.toArray) D.l2i2) D hz hTI hTO ⟨h1,p⟩ ⟨h2,p'⟩ (by simpa using hlu) (by simpa using hlv) fun g1 xv yv px py z1 t1 n1 n2 tp sz kp=>⟨_,rfl,?_⟩
  have exv:xv=u:=by
   have hp1:its.toArray[i]?=some xv:=px;rw[List.getElem?_toArray,hu] at hp1;exact (Option.some.inj hp1).symm
  have eyv:yv=v:=by
   have hp2:jts.toArray[i]?=some yv:=py;rw[List.getElem?_toArray,hv] at hp2;exact (Option.some.inj hp2).symm
  subst exv;subst eyv;refine wpAny_letOwnedTupleGo_zip (s:={s with heap:=g1}) z1 fun g2 z2 b2=>?_
  have b2':∀ c o,c≠z→g1.get? c=some o→g2.get? c=some o:=fun c o hc q=>(b2.2 c hc).trans q
  have I1:Inv X pins σ (upd H s.heap.objs.size (.tup [x,y])) {s with heap:=s.heap.push {cls:=.type "tuple",data:=.seq #[xv,yv]}} :=
   I.laid (t':=s.toks) (o:=.tup [x,y]) (fun b o q=>Heap.get?_push_of_some _ q) (Nat.le_refl _) ⟨by simp[sizeLine_eq],[xv,yv],.cons ru (.cons rv' .nil),⟨_,Heap.get?_push_size _ rfl,rfl,_,rfl⟩⟩
  have hfr:∀ c∈[z,TI,TO,i1,i2],FpOk X pins (upd H s.heap.objs.size (.tup [x,y])) c:=by
   intro c hc;obtain⟨f0,f⟩:=hf c hc;exact⟨by rw[upd_ne (Nat.ne_of_lt (old c hc))];exact f0,f⟩
  have I2:Inv X pins σ (upd H s.heap.objs.size (.tup [x,y])) {s with heap:=g2}:=by
   refine inv_turns (t':=s.toks) (s:={s with heap:=s.heap.push {cls:=.type "tuple",data:=.seq #[xv,yv]}}) (L:=[z,TI,TO,i1,i2]) I1 (fun c o hc q=>?_) hfr;simp only[List.mem_cons,List.not_mem_nil,or_false,not_or] at hc;refine b2' c o hc.1 ?_;by_cases hcT:c=s.heap.objs.size
   ·subst hcT;rw[show (s.heap.push {cls:=.type "tuple",data:=.seq #[xv,yv]}).get? s.heap.objs.size=some {cls:=.type "tuple",data:=.seq #[xv,yv]} from Heap.get?_push_size _ rfl] at q;cases q;exact tp
   ·have hlt:c<s.heap.objs.size+1:=by have:=Heap.lt_size q;rw[Heap.size_push] at this;exact this
    have hlt2:c<s.heap.objs.size:=Nat.lt_of_le_of_ne (Nat.le_of_lt_succ hlt) hcT;exact kp c o hc.1 hc.2.2.1 hc.2.2.2.1 hc.2.2.2.2 (by rw[← q];exact (push_old hlt2).symm)
  refine⟨.ref s.heap.objs.size,_,I2,rfl,⟨s.heap.objs.size,x,y,rfl,I.fresh,rfl,fun zs h=>by rw[I.tuple_inj h qx];exact hx,fun zs h=>by rw[I.tuple_inj h qy];exact hy⟩,⟨z2,b2' _ _ D.TIz (kp _ _ D.TIz D.TITO D.TIi1 D.TIi2 hTI),⟨_,_,b2' _ _ D.TOz t1⟩,n1.1.at fun o q=>b2' _ o D.i1z q,n2.1.at fun o q=>b2' _ o D.i2z q⟩,fun c hc=>(hfr c hc).1⟩
 done:=by
  intro X hP hw hK hc i pins s σ H E I hf st hg;subst hP hw hK;obtain⟨xs,ys,qx,qy,hend⟩:=hg;obtain⟨its,rv,p,_⟩:=I.tuple qx;obtain⟨jts,rw',p',_⟩:=I.tuple qy;obtain⟨hz,hTI,⟨c0,d0,hTO⟩,h1,h2⟩:=id st;have l1:=rv.length;have l2:=rw'.length;refine Srt.pyNext_zip_end (k:=i) (I.ok.hd hc) (Srt.nx_tup (items:=its.toArray) D.l1i1) (Srt.nx_tup (items:=jts.toArray) D.l2i2) D hz hTI hTO ⟨h1,p⟩ ⟨h2,p'⟩ (by simp;omega) fun g kp=>⟨rfl,?_⟩
  refine inv_turns (t':=s.toks) (L:=[z,TI,TO,i1,i2]) I (fun c o hc q=>?_) hf;simp only[List.mem_cons,List.not_mem_nil,or_false,not_or] at hc;exact kp c o hc.1 hc.2.2.1 hc.2.2.2.1 hc.2.2.2.2 q
 self:=fun _ _ _ _ _ st h=>wpAny_pyIter_zip st.1 h
section
variable {X:Cx}{K:PySem.W.Frag}{elts:List Expr}{k:Nat}{tpos p pos:Pos}{l m:Expr}{t:TA}{y:Str}
def iZip (K:PySem.W.Frag)(t:TA):TI:=fun σ H R=>t σ H fun vs H1=>∃ a b,vs=[.ref a,.ref b]∧(∃ xs,SqT K H1 a xs)∧(∃ ys,SqT K H1 b ys)∧R (Itz K a b) H1
theorem pi_zip (hg:Gl X y)(hm:X.mg y=none)(hv:bootBuiltins y=some (.type "zip"))(ha:PA X [l,m] t)(hn:y≠"__name__":=by decide)(hdb:(y == ("__debug__":Str))=false:=by decide)
  (he:starEach [l,m] X.env=(false,eval l X.env)::starEach [m] X.env:=by rfl) (hpl:(backTo pos (starEach [m] X.env)).any (·.1)=false:=by rfl) (hK:X.K=K:=by rfl):PI X (.Tuple elts k tpos) (.Call (.Name y p) [l,m] [] pos) (iZip K t):=by
 subst hK;intro pins s σ H R I h;refine wpAny_Call_Name_kw (ld_blt I hg hm hv ?_ hn hdb);refine PyProof.Rows.callWith_type1 (thn (ha pos pins s σ H _ I h) fun us s1 ⟨vs,H1,I1,r1,a,b,e1,⟨xs,hq⟩,⟨ys,hq'⟩,q⟩=>?_) he hpl;subst e1;obtain⟨u,v,rfl,rx,ry⟩:=vals2 r1;cases rx;cases ry;obtain⟨its,rv,pl,_⟩:=I1.tuple hq;obtain⟨jts,rw',pl',_⟩:=I1.tuple hq';have la:a<s1.heap.objs.size:=by obtain⟨_,e,_⟩:=pl;exact Heap.lt_size e
 have lb:b<s1.heap.objs.size:=by obtain⟨_,e,_⟩:=pl';exact Heap.lt_size e
 refine Srt.call_zipT pl pl' fun h' hz hTI hTO h1 h2 kp=>wpAny_pyIter_zip (s:={s1 with heap:=h'}) hz ?_
 have ne:∀ {i j:Nat},i≠j→s1.heap.objs.size+i≠s1.heap.objs.size+j:=fun hij e=>hij (Nat.add_left_cancel e)
 have na:∀ {c:Addr} (i:Nat),c<s1.heap.objs.size→c≠s1.heap.objs.size+i:=fun i hc=>Nat.ne_of_lt (Nat.lt_of_lt_of_le hc (Nat.le_add_right _ _))
 have D:ZipApart (s1.heap.objs.size+4) (s1.heap.objs.size+2) (s1.heap.objs.size+3) (s1.heap.objs.size+0) (s1.heap.objs.size+1) a b :=
  ⟨ne (by decide),ne (by decide),ne (by decide),ne (by decide),ne (by decide),ne (by decide),ne (by decide),ne (by decide),ne (by decide),ne (by decide),na 4 la,na 3 la,na 0 la,na 1 la,na 4 lb,na 3 lb,na 0 lb,na 1 lb⟩
 refine⟨s1.heap.objs.size+4,_,_,_,H1,rfl,I1.kept (t':=s1.toks) kp,turn_zip D,⟨hz,hTI,⟨_,_,hTO⟩,h1,h2⟩,fun c hc=>?_,q⟩;simp only[List.mem_cons,List.not_mem_nil,or_false] at hc;have fr:∀ i:Nat,FpOk X pins H1 (s1.heap.objs.size+i):=fun i=>I1.fpOk (Nat.le_add_right _ _) (I1.hok.fresh (Nat.le_add_right _ _))
 rcases hc with rfl | rfl | rfl | rfl | rfl
 ·exact fr 4
 ·exact fr 2
 ·exact fr 3
 ·exact fr 0
 ·exact fr 1
end
theorem for_zip {K:PySem.W.Frag}{a b:Addr}{xs ys:List V}{g:TG}{tb:TS}{D:Ends}{σ:St}{H:Hp}(Pv:Nat→St→Hp→Prop)(h0:Pv 0 σ H)(hl:ys.length≤xs.length)(hx:∀ i σ H,i≤ys.length→Pv i σ H→SqT K H a xs∧SqT K H b ys)
  (hs:∀ i x y σ H q,xs[i]?=some x→ys[i]?=some y→Pv i σ H→H q=none→g (.ref q) σ (upd H q (.tup [x,y])) fun σ2 H2=>tb {D with nx:=Pv (i+1),ct:=Pv (i+1),bk:=D.nx} σ2 H2) (hd:∀ σ H,Pv ys.length σ H→D.nx σ H) :
  ∃ W:Nat→Nat→St→Hp→Prop,(∃ m,W 0 m σ H)∧∀ i m σ H,W i m σ H →
   ((Itz K a b).stop i H∧D.nx σ H)∨((Itz K a b).go i H∧∃ N:St→Hp→Prop,(∀ σ' H',N σ' H'→∃ m',m'<m∧W (i+1) m' σ' H')∧∀ x H',(Itz K a b).yld i H x H'→g x σ H' fun σ2 H2=>tb {D with nx:=N,ct:=N,bk:=D.nx} σ2 H2):=by
 refine⟨fun i m σ H=>m=ys.length-i∧i≤ys.length∧Pv i σ H,⟨_,rfl,Nat.zero_le _,h0⟩,?_⟩;rintro i m σ H ⟨rfl,hi,p⟩;obtain⟨q1,q2⟩:=hx i σ H hi p;by_cases hlt:i<ys.length
 ·have ex:xs[i]?=some xs[i]:=List.getElem?_eq_getElem (by omega);have ey:ys[i]?=some ys[i]:=List.getElem?_eq_getElem hlt;refine .inr ⟨⟨xs,ys,_,_,q1,q2,ex,ey⟩,Pv (i+1),fun σ' H' p'=>⟨_,by omega,rfl,hlt,p'⟩,?_⟩;rintro v H' ⟨q,x,y,rfl,hn,rfl,y1,y2⟩;exact hs i x y σ H q (y1 xs q1) (y2 ys q2) p hn
 ·have e:i=ys.length:=by omega
  subst e;exact .inl ⟨⟨xs,ys,q1,q2,.inr (Nat.le_refl _)⟩,hd σ H p⟩
end L2
end
section
local macro_rules | `(tactic| omega)=>`(tactic| first | lia | omega +splitDisjunctions)
namespace L2
open PySem
theorem mm_comm {a b:Int}(h:a≠b):mm a b=mm b a:=by
 unfold mm;by_cases h1:b<a
 ·rw[if_pos h1,if_neg (show ¬ b>a by omega),if_neg (show ¬ a<b by omega),if_pos (show a>b by omega)]
 ·rw[if_neg h1,if_pos (show b>a by omega),if_pos (show a<b by omega),if_neg (show ¬ a>b by omega)]
theorem mm_cases {a b:Int}(h:a≠b):(b<a∧mm a b=(b,a))∨(a<b∧mm a b=(a,b)):=by
 unfold mm;by_cases h1:b<a
 ·exact .inl ⟨h1,by rw[if_pos h1,if_neg (show ¬ b>a by omega)]⟩
 ·exact .inr ⟨by omega,by rw[if_neg h1,if_pos (show b>a by omega)]⟩
theorem Grow.root {ts gs:List (Int×Int)}{ins:List Int}(G:Grow ts ins gs):∀ g∈ins,∃ (par:Int→Int) (rank:Int→Nat),
  (∀ v∈ins,v≠g→par v∈ins∧rank (par v)<rank v∧mm v (par v)∈gs)∧∀ t∈gs,(t.1≠g∧t.2=par t.1)∨(t.2≠g∧t.1=par t.2):=by
 induction G with
 | one s =>
  intro g hg;exact⟨id,fun _=>0,fun v hv hn=>absurd ((List.mem_singleton.mp hv).trans (List.mem_singleton.mp hg).symm) hn,fun t ht=>by cases ht⟩
 | @add ins us a b h ha hb hn ih =>
  have hab:a≠b:=fun e=>hb (e ▸ ha)
  intro g hg;rcases List.mem_append.mp hg with hg | hg
  ·obtain⟨par,rank,h1,h2⟩:=ih g hg;have hgb:g≠b:=fun e=>hb (e ▸ hg)
   refine⟨fun v=>if v=b then a else par v,fun v=>if v=b then rank a+1 else rank v,fun v hv hvg=>?_,fun t ht=>?_⟩
   ·rcases List.mem_append.mp hv with hv | hv
    ·have hvb:v≠b:=fun e=>hb (e ▸ hv)
     obtain⟨q1,q2,q3⟩:=h1 v hv hvg;have hpb:par v≠b:=fun e=>hb (e ▸ q1)
     dsimp only;rw[if_neg hvb,if_neg hpb,if_neg hvb];exact⟨List.mem_append_left _ q1,q2,List.mem_append_left _ q3⟩
    ·obtain rfl:=List.mem_singleton.mp hv;dsimp only;rw[if_pos rfl,if_neg hab,if_pos rfl];exact⟨List.mem_append_left _ ha,Nat.lt_succ_self _,List.mem_append_right _ (by rw[mm_comm hab.symm];exact List.mem_singleton.mpr rfl)⟩
   ·rcases List.mem_append.mp ht with ht | ht
    ·obtain⟨e1,e2⟩:=h.ends t ht;have n1:t.1≠b:=fun e=>hb (e ▸ e1)
     have n2:t.2≠b:=fun e=>hb (e ▸ e2)
     dsimp only;rw[if_neg n1,if_neg n2];exact h2 t ht
    ·obtain rfl:=List.mem_singleton.mp ht;rcases mm_cases hab with ⟨_,e⟩ | ⟨_,e⟩
     ·rw[e];dsimp only;rw[if_pos rfl];exact .inl ⟨hgb.symm,rfl⟩
     ·rw[e];dsimp only;rw[if_pos rfl];exact .inr ⟨hgb.symm,rfl⟩
  ·obtain rfl:=List.mem_singleton.mp hg;obtain⟨par,rank,h1,h2⟩:=ih a ha;refine⟨fun v=>if v=a then g else par v,fun v=>if v=g then 0 else rank v+1,fun v hv hvg=>?_,fun t ht=>?_⟩
   ·have hv':v∈ins:=(List.mem_append.mp hv).resolve_right fun e=>hvg (List.mem_singleton.mp e)
    by_cases hva:v=a
    ·subst hva;dsimp only;rw[if_pos rfl,if_pos rfl,if_neg hvg];exact⟨List.mem_append_right _ (List.mem_singleton.mpr rfl),Nat.succ_pos _,List.mem_append_right _ (List.mem_singleton.mpr rfl)⟩
    ·obtain⟨q1,q2,q3⟩:=h1 v hv' hva;have hpg:par v≠g:=fun e=>hb (e ▸ q1)
     dsimp only;rw[if_neg hva,if_neg hpg,if_neg hvg];exact⟨List.mem_append_left _ q1,Nat.succ_lt_succ q2,List.mem_append_left _ q3⟩
   ·rcases List.mem_append.mp ht with ht | ht
    ·obtain⟨e1,e2⟩:=h.ends t ht;have n1:t.1≠g:=fun e=>hb (e ▸ e1)
     have n2:t.2≠g:=fun e=>hb (e ▸ e2)
     dsimp only;rcases h2 t ht with ⟨q1,q2⟩ | ⟨q1,q2⟩
     ·rw[if_neg q1];exact .inl ⟨n1,q2⟩
     ·rw[if_neg q1];exact .inr ⟨n2,q2⟩
    ·obtain rfl:=List.mem_singleton.mp ht;rcases mm_cases hab with ⟨_,e⟩ | ⟨_,e⟩
     ·rw[e];dsimp only;rw[if_pos rfl];exact .inr ⟨hab,rfl⟩
     ·rw[e];dsimp only;rw[if_pos rfl];exact .inl ⟨hab,rfl⟩
structure Rooted (n:Int)(us:List (Int×Int))(g:Int)(par:Int→Int)(rank:Int→Nat):Prop where
 g0:0≤g
 g1:g<n
 up:∀ v,0≤v→v<n→v≠g→0≤par v∧par v<n∧rank (par v)<rank v∧par v∈nb us v
 edge:∀ v u,u∈nb us v→(v≠g∧u=par v)∨(u≠g∧par u=v)
theorem mem_nb_iff {n:Int}{us:List (Int×Int)}(hok:TsOk n us){v x:Int}:x∈nb us v↔(v,x)∈us∨(x,v)∈us:=by
 rw[mem_nb];constructor
 ·rintro (h | ⟨h,_⟩)
  ·exact .inl h
  ·exact .inr h
 ·rintro (h | h)
  ·exact .inl h
  ·exact .inr ⟨h,.inl (by have:=hok _ h;dsimp only at this;omega)⟩
theorem IsTree.rooted {n:Int}{ts us:List (Int×Int)}(T:IsTree n ts us)(hok:TsOk n ts){g:Int}(g0:0≤g)(g1:g<n):∃ par rank,Rooted n us g par rank:=by
 obtain⟨ins,gs,G,p,hl,hr⟩:=T.grown;have hall:∀ v,0≤v→v<n→v∈ins:=fun v h0 h1=>by
  apply Classical.byContradiction;intro hv;have hnd:(v::ins).Nodup:=List.nodup_cons.mpr ⟨hv,G.nd⟩;have:=nd_len (n:=n) hnd fun x hx=>by
   rcases List.mem_cons.mp hx with rfl | hx
   ·exact⟨h0,h1⟩
   ·exact hr x hx
  rw[List.length_cons] at this;omega
 obtain⟨par,rank,h1,h2⟩:=G.root g (hall g g0 g1);have hok':=T.ok hok;refine⟨par,rank,g0,g1,fun v v0 v1 hv=>?_,fun v u hu=>?_⟩
 ·obtain⟨q1,q2,q3⟩:=h1 v (hall v v0 v1) hv;have hm:mm v (par v)∈us:=p.mem_iff.mpr q3;have hne:v≠par v:=fun e=>by rw[← e] at q2;omega
  refine⟨(hr _ q1).1,(hr _ q1).2,q2,(mem_nb_iff hok').mpr ?_⟩;rcases mm_cases hne with ⟨_,e⟩ | ⟨_,e⟩
  ·rw[e] at hm;exact .inr hm
  ·rw[e] at hm;exact .inl hm
 ·rcases (mem_nb_iff hok').mp hu with h | h
  ·rcases h2 _ (p.mem_iff.mp h) with ⟨q1,q2⟩ | ⟨q1,q2⟩
   ·exact .inl ⟨q1,q2⟩
   ·exact .inr ⟨q1,q2.symm⟩
  ·rcases h2 _ (p.mem_iff.mp h) with ⟨q1,q2⟩ | ⟨q1,q2⟩
   ·exact .inr ⟨q1,q2.symm⟩
   ·exact .inl ⟨q1,q2⟩
def itp (par:Int→Int):Nat→Int→Int
 | 0,v=>v
 | i+1,v=>par (itp par i v)
def wayOf (par:Int→Int)(v:Int)(k:Nat):List Int:=(List.range (k+1)).map fun i=>itp par i v
section
variable {n g one:Int}{us:List (Int×Int)}{par:Int→Int}{rank:Int→Nat}
theorem Rooted.itp_in (R:Rooted n us g par rank)(o0:0≤one)(o1:one<n):∀ k,(∀ i,i<k→itp par i one≠g)→0≤itp par k one∧itp par k one<n
 | 0,_=>⟨o0,o1⟩
 | k+1,h=>by
  obtain⟨q0,q1⟩:=Rooted.itp_in R o0 o1 k fun i hi=>h i (by omega)
  have:=R.up _ q0 q1 (h k (Nat.lt_succ_self _));exact⟨this.1,this.2.1⟩
theorem Rooted.itp_rank (R:Rooted n us g par rank)(o0:0≤one)(o1:one<n){k:Nat}(h:∀ i,i<k→itp par i one≠g):∀ j i,i<j→j≤k→rank (itp par j one)<rank (itp par i one)
 | 0,i,hi,_=>absurd hi (Nat.not_lt_zero _)
 | j+1,i,hi,hj=>by
  obtain⟨q0,q1⟩:=R.itp_in o0 o1 j fun m hm=>h m (by omega)
  have h1:=(R.up _ q0 q1 (h j (by omega))).2.2.1;rcases Nat.lt_or_ge i j with h2 | h2
  ·exact Nat.lt_trans h1 (Rooted.itp_rank R o0 o1 h j i h2 (by omega))
  ·have:i=j:=by omega
   subst this;exact h1
theorem Rooted.reach (R:Rooted n us g par rank)(o0:0≤one)(o1:one<n){k:Nat}(h:∀ i,i<k→itp par i one≠g):k≤rank one:=by
 have:∀ j,j≤k→rank (itp par j one)+j≤rank one:=by
  intro j;induction j with
  | zero=>intro _;exact Nat.le_refl _
  | succ j ih =>
   intro hj;have:=R.itp_rank o0 o1 h (j+1) j (Nat.lt_succ_self _) hj;have:=ih (by omega);omega
 have:=this k (Nat.le_refl _);omega
theorem Rooted.nd (R:Rooted n us g par rank)(o0:0≤one)(o1:one<n){k:Nat}(h:∀ i,i<k→itp par i one≠g):(wayOf par one k).Nodup:=by
 unfold wayOf;refine List.pairwise_map.mpr ?_;refine List.Pairwise.imp_of_mem ?_ (List.pairwise_lt_range (n:=k+1));intro a b ha hb hab e;have:=R.itp_rank o0 o1 h b a hab (by have:=List.mem_range.mp hb;omega);rw[e] at this;omega
end
def stV (n g:Int)(par:Int→Int)(vs:List Int):List V:=(rInts 0 n.toNat).map fun v=>if v∈vs∧v≠g then V.int (par v) else V.non
theorem stV_len (n g:Int)(par:Int→Int)(vs:List Int):(stV n g par vs).length=n.toNat:=by unfold stV;rw[List.length_map,rInts_length]
theorem stV_get {n g:Int}{par:Int→Int}{vs:List Int}{v:Int}(h0:0≤v)(h1:v<n):(stV n g par vs)[v.toNat]?=some (if v∈vs∧v≠g then V.int (par v) else V.non):=by
 unfold stV;rw[List.getElem?_map,rInts_get (by omega)];have e:(0:Int)+(v.toNat:Int)=v:=by omega
 show some _=_;rw[e]
theorem stV_at {n g:Int}{par:Int→Int}{vs:List Int}{v:Int}(h0:0≤v)(h1:v<n):atI (stV n g par vs) v=some (if v∈vs∧v≠g then V.int (par v) else V.non):=by
 have:=atI_nat (stV_get (par:=par) (g:=g) (vs:=vs) h0 h1);rw[Int.toNat_of_nonneg h0] at this;exact this
theorem ixN_at {m:Nat}{v:Int}(h0:0≤v)(h1:v<m):ixN m v=some v.toNat:=by
 unfold ixN;rw[if_pos h0,if_pos h1]
theorem stV_set {n g:Int}{par:Int→Int}{vs:List Int}{y:Int}(h0:0≤y)(h1:y<n)(hg:y≠g):(stV n g par vs).set y.toNat (V.int (par y))=stV n g par (vs++[y]):=by
 refine List.ext_getElem? fun i=>?_
 by_cases hi:i<n.toNat
 ·have e2:=stV_get (n:=n) (g:=g) (par:=par) (vs:=vs++[y]) (v:=(i:Int)) (by omega) (by omega);have e1:=stV_get (n:=n) (g:=g) (par:=par) (vs:=vs) (v:=(i:Int)) (by omega) (by omega);rw[Int.toNat_natCast] at e1 e2;rw[e2];by_cases hy:i=y.toNat
  ·subst hy;rw[List.getElem?_set_self (by rw[stV_len];exact hi),if_pos ⟨by simp;omega,by omega⟩,Int.toNat_of_nonneg h0]
  ·rw[List.getElem?_set_ne (Ne.symm hy),e1];have hiy:(i:Int)≠y:=by omega
   simp only[List.mem_append,List.mem_singleton,hiy,or_false]
 ·rw[List.getElem?_eq_none (by rw[List.length_set,stV_len];omega),List.getElem?_eq_none (by rw[stV_len];omega)]
theorem stV_all {n g:Int}{par:Int→Int}{vs:List Int}(h:∀ v,0≤v→v<n→v∈vs):stV n g par vs=(rInts 0 n.toNat).map fun v=>if v=g then V.non else V.int (par v):=by
 unfold stV;refine List.map_congr_left fun v hv=>?_
 have:=mem_rInts.mp hv;have hm:=h v this.1 (by omega);by_cases hg:v=g
 ·rw[if_neg (fun q=>q.2 hg),if_pos hg]
 ·rw[if_pos ⟨hm,hg⟩,if_neg hg]
theorem last_at (ws:List Int)(v:Int):((ws++[v]).map V.int)[((ws++[v]).map V.int).length-1]?=some (V.int v)∧((ws++[v]).map V.int).dropLast=ws.map V.int:=by
 constructor
 ·simp
 ·simp
end L2
end
section
namespace L2
open PySem PySem.Spec PyProof.Rows
inductive Pl (H:Hp):V→String→Prop where
 | non:Pl H .non "NoneType"
 | bl (x:Bool):Pl H (.bl x) "bool"
 | int (i:Int):Pl H (.int i) "int"
 | str (x:Str):Pl H (.str x) "str"
 | lst {a:Addr} {xs:List V} (e:H a=some (.lst xs)):Pl H (.ref a) "list"
 | tup {a:Addr} {xs:List V} (e:H a=some (.tup xs)):Pl H (.ref a) "tuple"
 | dK {a:Addr} {kvs:List (Key×V)} (e:H a=some (.dK kvs)):Pl H (.ref a) "dict"
 | dT {a:Addr} {kvs:List (List Key×V)} (e:H a=some (.dT kvs)):Pl H (.ref a) "dict"
theorem Pl.ty {K:PySem.W.Frag}{H:Hp}{x:V}{T:String}(p:Pl H x T):TyOf K H x (.type T):=by
 cases p with
 | non=>exact .non
 | bl x=>exact .bl x
 | int i=>exact .int i
 | str x=>exact .str x
 | lst e=>exact .lst e
 | tup e=>exact .tup e
 | dK e=>exact .dK e
 | dT e=>exact .dT e
def isIn (T c:String):Bool:=T == c || (T == "bool" && c == "int")
theorem kit_plain {K:PySem.W.Frag}{H:Hp}{x:V}{T:String}(p:Pl H x T){c:String}(hc:c="int"∨c="bool"∨c="tuple"):PySem.W.kitOne K (.type T) (.type c)=some (isIn T c):=by
 rcases hc with rfl | rfl | rfl<;>cases p<;>rfl
def isI:V→Bool
 | .int _=>true
 | _=>false
theorem isI_of {H:Hp}{x:V}{T:String}(p:Pl H x T):(isIn T "int" && !isIn T "bool")=isI x:=by cases p<;>rfl
def betw (x:V)(lo hi:Int):Bool:=match x with
 | .int i=>decide (lo≤i) && decide (i≤hi)
 | _=>false
theorem betw_no {x:V}{lo hi:Int}(h:isI x=false):betw x lo hi=false:=by cases x<;>first | rfl | cases h
theorem isI_int {x:V}(h:isI x=true):∃ i,x=.int i:=by cases x<;>first | exact⟨_,rfl⟩ | cases h
def sp_pint:Sp:=fun vs H Q _=>∃ (x:V) (T:String),vs=[x]∧Pl H x T∧Q (.bl (isI x)) H
def sp_pbetw:Sp:=fun vs H Q _=>∃ (x:V) (T:String) (lo hi:Int),vs=[x,.int lo,.int hi]∧Pl H x T∧Q (.bl (betw x lo hi)) H
end L2
end
section
namespace L2
open PySem PySem.Spec PyProof.Rows
def PlD (H:Hp):Nat→V→Prop
 | 0,y=>∃ T,Pl H y T
 | m+1,y=>(∃ T,Pl H y T)∧∀ a ys,y=.ref a→H a=some (.tup ys)→∀ z∈ys,PlD H m z
theorem Pl.mono {H H':Hp}{y:V}{T:String}(s:Same H H')(p:Pl H y T):Pl H' y T:=by
 cases p with
 | non=>exact .non
 | bl x=>exact .bl x
 | int i=>exact .int i
 | str x=>exact .str x
 | lst e=>exact .lst (s _ _ e)
 | tup e=>exact .tup (s _ _ e)
 | dK e=>exact .dK (s _ _ e)
 | dT e=>exact .dT (s _ _ e)
theorem Pl.back {H H':Hp}{a:Addr}{ys:List V}{T:String}(s:Same H H')(p:Pl H (.ref a) T)(e:H' a=some (.tup ys)):H a=some (.tup ys):=by
 cases p with
 | lst e2=>have:=s _ _ e2;rw[e] at this;cases this
 | tup e2=>have:=s _ _ e2;rw[e] at this;cases this;exact e2
 | dK e2=>have:=s _ _ e2;rw[e] at this;cases this
 | dT e2=>have:=s _ _ e2;rw[e] at this;cases this
theorem PlD.pl {H:Hp}{m:Nat}{y:V}(h:PlD H m y):∃ T,Pl H y T:=by
 cases m with
 | zero=>exact h
 | succ m=>exact h.1
theorem PlD.mono {H H':Hp}(s:Same H H'):∀ {m:Nat} {y:V},PlD H m y→PlD H' m y
 | 0,y,⟨T,p⟩=>⟨T,p.mono s⟩
 | m+1,y,⟨⟨T,p⟩,h⟩=>⟨⟨T,p.mono s⟩,fun a ys e ea z hz=>by
  subst e
  exact PlD.mono s (h a ys rfl (p.back s ea) z hz)⟩
end L2
end
section
namespace L2
open PySem PySem.Spec PyProof.Rows
structure Bt3 (mg:Str→Option Value):Prop where
 sum:mg "sum"=none
 any:mg "any"=none
end L2
end
section
namespace L2
open PySem PySem.Spec PyProof.Rows
section
variable {k m c:Nat}{d:PyData}{ds:List PyData}
def webD (n:Int)(ts:List (Int×Int)):PyData:=.tuple [.int n,.tuple ((ts.map tl).map L2.tI)]
theorem WebAt.dt {K:PySem.W.Frag}{H:Hp}{w:Addr}{n:Int}{ts:List (Int×Int)}(h:WebAt H w n ts):Dt K H (.ref w) (webD n ts):=by
 obtain⟨q,e,ht⟩:=h;exact .tup (SqT.of e) (.cons (.int n) (.cons ht.ls.dt .nil))
theorem TsAt.dt {K:PySem.W.Frag}{H:Hp}{w:Addr}{ts:List (Int×Int)}(h:TsAt H w ts):Dt K H (.ref w) (.tuple ((ts.map tl).map L2.tI)):=h.ls.dt
end
end L2
end
section
namespace L2
open PySem
def TurnF (g:TG)(tc:TT)(te:TE)(p:Addr)(fr:St)(H1:Hp)(x:V)(c:Bool)(f:V)(N:Nat):Prop :=
 ∀ (v:Option V) (ys:List V) (R:St→Hp→Prop),ys.length≤N→(c=true→∀ v',R (v'::fr) (upd (upd H1 p (.lst ys)) p (.lst (ys++[f]))))→(c=false→∀ v',R (v'::fr) (upd H1 p (.lst ys))) →
  g x (v::fr) (upd H1 p (.lst ys)) fun τ2 H2=>tc τ2 H2 fun b H3=>if b=true then te τ2 H3 fun w H4=>∃ zs,H4 p=some (.lst zs)∧zs.length<sizeLine∧R τ2 (upd H4 p (.lst (zs++[w]))) else R τ2 H3
theorem turn_len {α:Type}(c:α→Bool)(f:α→V)(l:List α):((l.filter c).map f).length≤l.length:=by rw[List.length_map];exact List.length_filter_le _ _
theorem fm_snoc {α:Type}(c:α→Bool)(f:α→V)(l:List α)(x:α):((l++[x]).filter c).map f=(l.filter c).map f++(if c x=true then [f x] else []):=by
 rw[List.filter_append,List.map_append];congr 1;by_cases h:c x=true
 ·rw[List.filter_cons_of_pos h,if_pos h];rfl
 ·rw[List.filter_cons_of_neg h,if_neg h];rfl
theorem fil_true {α:Type}(l:List α):l.filter (fun _=>true)=l:=List.filter_eq_self.mpr fun _ _=>rfl
section
variable {K:PySem.W.Frag}{a p:Addr}{g:TG}{tc:TT}{te:TE}{fr:St}{H1:Hp}{EE:Hp→Prop}
theorem lc_rangeF {n:Nat}(c:Int→Bool)(f:Int→V)(hn:n≤16000000)(hs:∀ x:Int,0≤x→x<n→TurnF g tc te p fr H1 (.int x) (c x) (f x) n)
  (hd:EE (upd H1 p (.lst (((rInts 0 n).filter c).map f)))):lcW g tc te p (Itr 0 n) (none::fr) (upd H1 p (.lst [])) EE:=by
 refine lc_range (fun i τ H=>i≤n∧(∃ v,τ=v::fr)∧H=upd H1 p (.lst (((rInts 0 i).filter c).map f))) ⟨Nat.zero_le _,⟨_,rfl⟩,rfl⟩ ?_ ?_
 ·rintro i τ H hi ⟨_,⟨v,rfl⟩,rfl⟩;have e:rInts 0 (i+1)=rInts 0 i++[(0:Int)+i]:=by unfold rInts;rw[List.range_succ,List.map_append];rfl
  refine hs ((0:Int)+i) (by omega) (by omega) v _ _ (Nat.le_trans (turn_len c f _) (by rw[rInts_length];omega)) (fun h v'=>?_) fun h v'=>?_
  ·refine⟨by omega,⟨_,rfl⟩,?_⟩;rw[upd_upd,e,fm_snoc,if_pos h]
  ·refine⟨by omega,⟨_,rfl⟩,?_⟩;rw[e,fm_snoc,if_neg (by rw[h];simp),List.append_nil]
 ·rintro τ H ⟨_,_,rfl⟩;exact hd
theorem take_snoc {α:Type}{l:List α}{i:Nat}{x:α}(h:l[i]?=some x):l.take (i+1)=l.take i++[x]:=by rw[List.take_succ,h];rfl
theorem lc_listF {α:Type}{xs:List α}(V0:α→V)(c:α→Bool)(f:α→V)(hn:xs.length≤16000000)(hl:SqL K H1 a (xs.map V0))(hp:H1 p=none)(hs:∀ x∈xs,TurnF g tc te p fr H1 (V0 x) (c x) (f x) xs.length)
  (hd:EE (upd H1 p (.lst ((xs.filter c).map f)))):lcW g tc te p (Itl K a) (none::fr) (upd H1 p (.lst [])) EE:=by
 refine lc_list (xs:=xs.map V0) (fun i τ H=>(∃ v,τ=v::fr)∧H=upd H1 p (.lst (((xs.take i).filter c).map f))) ⟨⟨_,rfl⟩,by simp⟩ ?_ ?_ ?_
 ·rintro i τ H _ ⟨_,rfl⟩;exact ((Same.refl H1).upd hp).seq hl
 ·rintro i x τ H hx ⟨⟨v,rfl⟩,rfl⟩ _;rw[List.getElem?_map] at hx;cases h0:xs[i]? with
  | none=>rw[h0] at hx;cases hx
  | some y =>
  rw[h0] at hx;cases Option.some.inj hx;have hi:=(List.getElem?_eq_some_iff.mp h0).1;refine hs y (List.mem_of_getElem? h0) v _ _ (Nat.le_trans (turn_len c f _) (by rw[List.length_take];omega)) (fun h v'=>?_) fun h v'=>?_
  ·refine⟨⟨_,rfl⟩,?_⟩;rw[upd_upd,take_snoc h0,fm_snoc,if_pos h]
  ·refine⟨⟨_,rfl⟩,?_⟩;rw[take_snoc h0,fm_snoc,if_neg (by rw[h];simp),List.append_nil]
 ·rintro τ H ⟨_,rfl⟩;rw[List.length_map,List.take_length];exact hd
theorem lc_tupF {α:Type}{xs:List α}(V0:α→V)(c:α→Bool)(f:α→V)(hn:xs.length≤16000000)(hl:SqT K H1 a (xs.map V0))(hp:H1 p=none)(hs:∀ x∈xs,TurnF g tc te p fr H1 (V0 x) (c x) (f x) xs.length)
  (hd:EE (upd H1 p (.lst ((xs.filter c).map f)))):lcW g tc te p (Itt K a) (none::fr) (upd H1 p (.lst [])) EE:=by
 refine lc_tup (xs:=xs.map V0) (fun i τ H=>(∃ v,τ=v::fr)∧H=upd H1 p (.lst (((xs.take i).filter c).map f))) ⟨⟨_,rfl⟩,by simp⟩ ?_ ?_ ?_
 ·rintro i τ H _ ⟨_,rfl⟩;exact ((Same.refl H1).upd hp).seqT hl
 ·rintro i x τ H hx ⟨⟨v,rfl⟩,rfl⟩;rw[List.getElem?_map] at hx;cases h0:xs[i]? with
  | none=>rw[h0] at hx;cases hx
  | some y =>
  rw[h0] at hx;cases Option.some.inj hx;have hi:=(List.getElem?_eq_some_iff.mp h0).1;refine hs y (List.mem_of_getElem? h0) v _ _ (Nat.le_trans (turn_len c f _) (by rw[List.length_take];omega)) (fun h v'=>?_) fun h v'=>?_
  ·refine⟨⟨_,rfl⟩,?_⟩;rw[upd_upd,take_snoc h0,fm_snoc,if_pos h]
  ·refine⟨⟨_,rfl⟩,?_⟩;rw[take_snoc h0,fm_snoc,if_neg (by rw[h];simp),List.append_nil]
 ·rintro τ H ⟨_,rfl⟩;rw[List.length_map,List.take_length];exact hd
theorem turn_ite {fr:St}{H1:Hp}{p:Addr}{ys:List V}{w:V}{N:Nat}{R:St→Hp→Prop}{v:Option V}{b c:Bool}(e:b=c)(hl:ys.length≤N)(hN:N≤16000000)
  (h1:c=true→∀ v',R (v'::fr) (upd (upd H1 p (.lst ys)) p (.lst (ys++[w])))) (h2:c=false→∀ v',R (v'::fr) (upd H1 p (.lst ys))) :
  if b=true then ∃ zs,upd H1 p (.lst ys) p=some (.lst zs)∧zs.length<sizeLine∧R (v::fr) (upd (upd H1 p (.lst ys)) p (.lst (zs++[w]))) else R (v::fr) (upd H1 p (.lst ys)):=by
 subst e;by_cases hb:b=true
 ·rw[if_pos hb];exact⟨ys,upd_same,sizeBig (by omega),h1 hb v⟩
 ·rw[if_neg hb];exact h2 (by simpa using hb) v
theorem turn_yes {fr:St}{H1:Hp}{p:Addr}{ys:List V}{w:V}{N:Nat}{R:St→Hp→Prop}{v:Option V}(hl:ys.length≤N)(hN:N≤16000000)(h1:true=true→∀ v',R (v'::fr) (upd (upd H1 p (.lst ys)) p (.lst (ys++[w])))) :
  ∃ zs,upd H1 p (.lst ys) p=some (.lst zs)∧zs.length<sizeLine∧R (v::fr) (upd (upd H1 p (.lst ys)) p (.lst (zs++[w]))):=⟨ys,upd_same,sizeBig (by omega),h1 rfl v⟩
end
end L2
end
section
namespace HT
open PySem PyProof.Rows
section
variable {prog:Program}{w:World}{A:Around}{E:Value→Shared→Prop}{s:Shared}
theorem getItem_tuple_whole {t sl:Addr}{items:Array Value}{vl vu:Value}{lo hi:Option Int}{Q:Value→Shared→Prop}(ht:IsTup s.heap t items)(hs:s.heap.IsSliceOf sl vl vu .none)(pl:IsPart vl lo)(pu:IsPart vu hi)
  (hw:sIx items.size 0 lo=0∧sIx items.size items.size hi=items.size) (h:Q (.ref t) s):wpAny (model prog w) A (getItem (.ref t) (.ref sl)) Q E s:=by
 obtain⟨os,hos,hcs,hds⟩:=id hs;have hTs:s.TypeIs (.ref sl) "slice":=⟨os,hos,hcs⟩
 unfold getItem;try with_reducible refine wpAny_holding ?_
 first | refine wpAny_bind (wpAny_pure ?_) | skip
 refine wpAny_bind (wpAny_sequenceKey ht.typeIs (by decide) ?_)
 refine wpAny_bind (wpAny_callSpecial?_slot (name:=Str.ofString "__getitem__") ht.typeIs PyProof.Rows.slot_tuple_getitem
  (wpAny_call_entry PyProof.Rows.slot_tuple_getitem ht.typeIs entry_tuple_getitem ?_ (args_tuple_getitem _ _)))
 show wpAny _ _ (Builtin.Tuple.tupleItemsOf (.ref t) >>= _) _ _ s;refine wpAny_bind (tupleItemsOf_ ht ?_);refine wpAny_bind (wpAny_typeOf hTs ?_);rw[if_pos (by decide)];refine wpAny_bind (sliceApplied_gen hs pl pu ?_);have hyes:(((sIx items.size 0 lo:Nat):Int) == 0 && (1:Int) == 1 && (sIx items.size items.size hi-sIx items.size 0 lo) == items.size)=true:=by
  rw[hw.1,hw.2];simp
 show wpAny _ _ (if (((sIx items.size 0 lo:Nat):Int) == 0 && (1:Int) == 1 && (sIx items.size items.size hi-sIx items.size 0 lo) == items.size)=true then _ else _) _ _ s;rw[if_pos hyes];refine wpAny_bind ?_;unfold Builtin.Tuple.tupleIsExact;refine wpAny_bind (wpAny_typeOf ht.typeIs (wpAny_pure ?_));rw[if_pos (by decide)];refine wpAny_bind (wpAny_rule ?_);exact wpAny_pure ⟨_,rfl,wpAny_pure h⟩
end
end HT
namespace L2
open PySem PySem.Spec PyProof.Rows
theorem RowsAt.zip {H:Hp}{p:Addr}{as:List Addr}{rows:List (List Int)}(h:RowsAt H p as rows):as.map V.ref=(as.zip rows).map (fun x=>V.ref x.1)∧∀ x∈as.zip rows,H x.1=some (.lst (x.2.map V.int)):=by
 constructor
 ·have:as=(as.zip rows).map (·.1):=by rw[List.map_fst_zip (by rw[h.len];exact Nat.le_refl _)]
  rw[show (as.zip rows).map (fun x=>V.ref x.1)=((as.zip rows).map (·.1)).map V.ref by rw[List.map_map];rfl,← this]
 ·intro x hx;obtain⟨i,hi,e⟩:=List.getElem_of_mem hx;have h1:(as.zip rows)[i]?=some x:=by rw[List.getElem?_eq_getElem hi,e]
  rw[List.getElem?_zip_eq_some] at h1;exact h.row i _ _ h1.1 h1.2
end L2
end
section
namespace L2
open PySem PySem.Spec PyProof.Rows
section
variable {X:Cx}
def rSlT1 (K:PySem.W.Frag):V→Option Int→Option Int→Hp→VK→Prop:=fun x lo hi H Q=>∃ a xs,x=.ref a∧SqT K H a xs ∧
 (HT.sIx xs.length 0 lo=0∧HT.sIx xs.length xs.length hi=xs.length→Q (.ref a) H)∧(¬ (HT.sIx xs.length 0 lo=0∧HT.sIx xs.length xs.length hi=xs.length)→∀ p,H p=none→Q (.ref p) (upd H p (.tup (cutV xs lo hi))))
theorem sl_tup1:SlR X (rSlT1 X.K):=by
 intro pins s σ H x v vl vu lo hi sl Q I rx hs pl pu h;obtain⟨a,xs,rfl,hx,q1,q2⟩:=h;cases rx;obtain⟨its,r,ht,hz⟩:=I.tuple hx;have hlen:its.toArray.size=xs.length:=by rw[List.size_toArray];exact r.length.symm
 refine⟨"tuple",_,PyProof.Rows.slot_tuple_getitem.lookup,ht.typeIs,?_⟩;by_cases hw:HT.sIx xs.length 0 lo=0∧HT.sIx xs.length xs.length hi=xs.length
 ·exact HT.getItem_tuple_whole ht hs pl pu (by rw[hlen];exact hw) ⟨.ref a,H,I,rfl,q1 hw⟩
 ·refine HT.getItem_tuple_cut ht hs pl pu (by rw[hlen];exact hw) ?_ (by rw[hlen];exact hz);rw[hlen];have hf:H s.heap.objs.size=none:=I.hok.fresh (Nat.le_refl _);refine⟨.ref s.heap.objs.size,_,I.laid (t':=s.toks) (o:=.tup (cutV xs lo hi)) (fun b ob q=>Heap.get?_push_of_some _ q) (Nat.le_refl _) ?_,rfl,q2 hw _ hf⟩;exact⟨Nat.le_trans (cutV_length xs lo hi) hz,_,(r.drop (HT.sIx xs.length 0 lo)).take (HT.sIx xs.length xs.length hi-HT.sIx xs.length 0 lo),IsTup.new _ _⟩
theorem sl_tup1K (K:PySem.W.Frag)(h:X.K=K:=by rfl):SlR X (rSlT1 K):=by subst h;exact sl_tup1
end
end L2
end
section
namespace L2
open PySem PySem.Spec PyProof.Rows
section
variable {X:Cx}
def rCatT1 (K:PySem.W.Frag):R2:=fun x y H Q=>∃ a b xs ys,x=.ref a∧y=.ref b∧SqT K H a xs∧SqT K H b ys∧xs.length+ys.length≤sizeLine ∧
 (xs=[]→Q (.ref b) H)∧(xs≠[]→ys=[]→Q (.ref a) H)∧(xs≠[]→ys≠[]→∀ p,H p=none→Q (.ref p) (upd H p (.tup (xs++ys))))
theorem op_catT1:OpR X (binaryOp .Add) (rCatT1 X.K):=by
 intro pins s σ H x y v u Q I rx ry h;obtain⟨a,b,xs,ys,rfl,rfl,ha,hb,hz,q1,q2,q3⟩:=h;cases rx;cases ry;obtain⟨its,r1,p1,_⟩:=I.tuple ha;obtain⟨its2,r2,p2,_⟩:=I.tuple hb;by_cases hx:xs=[]
 ·have hi:its=[]:=r1.nil_iff.mpr hx;subst hi;obtain⟨⟨cls,dd,data,sl⟩,ho,hc,n,hd⟩:=id p1;obtain⟨⟨cls2,dd2,data2,sl2⟩,ho2,hc2,n2,hd2⟩:=id p2;simp only at hc hd hc2 hd2;subst hc hd hc2 hd2;exact concat_meets ⟨_,ho,rfl⟩ ⟨_,ho2,rfl⟩ noFill_tuple_add seq_tuple_add PySem.F.slot_tuple_add PySem.F.entry_tuple_add (PySem.F.args_tuple_add_2 _ _)
   (tuple_addW0 _ _ _ _ _ _ _ _ _ _ (by simp)) ⟨ho,ho2,⟨.ref b,H,I,rfl,q1 hx⟩⟩
 ·refine HT.cat_tup p1 p2 (fun z=>hx (r1.nil_iff.mp z)) (fun z=>⟨.ref a,H,I,rfl,q2 hx (r2.nil_iff.mp z)⟩) (fun z=>?_) (by rw[← r1.length,← r2.length];exact hz);refine⟨.ref s.heap.objs.size,_,I.laid (t':=s.toks) (o:=.tup (xs++ys)) (fun b ob q=>Heap.get?_push_of_some _ q) (Nat.le_refl _) ?_,rfl,q3 hx (fun w=>z (r2.nil_iff.mpr w)) _ (I.hok.fresh (Nat.le_refl _))⟩;exact⟨by rw[List.length_append];exact hz,_,r1.append r2,IsTup.new _ _⟩
theorem catT1K (K:PySem.W.Frag)(h:X.K=K:=by rfl):OpR X (binaryOp .Add) (rCatT1 K):=by subst h;exact op_catT1
end
end L2
end
section
namespace L2
open PySem PySem.Spec PyProof.Rows
def rCatX (K:PySem.W.Frag):R2:=fun x y H Q=>rCatT1 K x y H Q
theorem catXK {X:Cx}(K:PySem.W.Frag)(h:X.K=K:=by rfl):OpR X (binaryOp .Add) (rCatX K):=catT1K K h
theorem catX_use {K:PySem.W.Frag}{H:Hp}{a b:Addr}{xs ys:List V}{Q:VK}(ha:H a=some (.tup xs))(hb:H b=some (.tup ys))(hz:xs.length+ys.length≤10000)(q:∀ p H',Same H H'→H' p=some (.tup (xs++ys))→Q (.ref p) H'):rCatX K (.ref a) (.ref b) H Q:=by
 refine⟨a,b,xs,ys,rfl,rfl,SqT.of ha,SqT.of hb,Nat.le_of_lt (sizeBig (by omega)),fun e=>?_,fun _ e=>?_,fun _ _ p np=>q p _ ((Same.refl H).upd np) upd_same⟩
 ·subst e;exact q b H (Same.refl H) hb
 ·subst e;exact q a H (Same.refl H) (by rw[List.append_nil];exact ha)
def rSlX (K:PySem.W.Frag):V→Option Int→Option Int→Hp→VK→Prop:=fun x lo hi H Q=>rSlT1 K x lo hi H Q
theorem slXK {X:Cx}(K:PySem.W.Frag)(h:X.K=K:=by rfl):SlR X (rSlX K):=sl_tup1K K h
theorem slX_use {K:PySem.W.Frag}{H:Hp}{a:Addr}{xs:List V}{lo hi:Option Int}{Q:VK}(ha:H a=some (.tup xs))(q:∀ p H',Same H H'→H' p=some (.tup (cutV xs lo hi))→Q (.ref p) H'):rSlX K (.ref a) lo hi H Q:=by
 refine⟨a,xs,rfl,SqT.of ha,fun e=>q a H (Same.refl H) ?_,fun _ p np=>q p _ ((Same.refl H).upd np) upd_same⟩;have:cutV xs lo hi=xs:=by
  unfold cutV;rw[e.1,e.2,List.drop_zero,Nat.sub_zero,List.take_length]
 rw[this];exact ha
theorem cutX {α:Type}(f:α→V)(l:List α)(lo hi:Option Int):∃ l':List α,cutV (l.map f) lo hi=l'.map f∧(∀ x∈l',x∈l)∧l'.length≤l.length:=by
 unfold cutV;refine⟨(l.drop (HT.sIx (l.map f).length 0 lo)).take (HT.sIx (l.map f).length (l.map f).length hi-HT.sIx (l.map f).length 0 lo),?_,fun x hx=>List.mem_of_mem_drop (List.mem_of_mem_take hx),?_⟩
 ·rw[List.map_take,List.map_drop]
 ·rw[List.length_take,List.length_drop];omega
theorem at_in {xs:List V}{k:Int}(h0:0≤k)(h1:k<xs.length):∃ v∈xs,atI xs k=some v:=by
 obtain⟨j,rfl⟩:∃ j:Nat,k=j:=⟨_,(Int.toNat_of_nonneg h0).symm⟩
 have h3:j<xs.length:=by omega
 exact⟨xs[j],List.getElem_mem _,atI_nat (List.getElem?_eq_getElem h3)⟩
theorem pick_mod {xs:List V}(h:0<xs.length)(z:Int):∃ v∈xs,atI xs (z % (xs.length:Int))=some v:=by
 have h1:=Int.emod_nonneg z (b:=(xs.length:Int)) (by omega);have h2:=Int.emod_lt_of_pos z (b:=(xs.length:Int)) (by omega);obtain⟨k,hk⟩:∃ k:Nat,z % (xs.length:Int)=k:=⟨_,(Int.toNat_of_nonneg h1).symm⟩
 rw[hk];have h3:k<xs.length:=by omega
 exact⟨xs[k],List.getElem_mem _,atI_nat (List.getElem?_eq_getElem h3)⟩
end L2
end
section
namespace L2
open PySem
section
variable {n:Int}{ts us:List (Int×Int)}
theorem IsTree.web (T:IsTree n ts us)(hw:IsWeb n ts):IsWeb n us:=by
 have hok:=T.ok hw.rng;have hl:=T.len;have h60:=hw.n60;have h3:=hw.n3;refine⟨h3,h60,hok,T.srt,by omega,fun S hS u v u0 u1 v0 v1 hu=>?_⟩;obtain⟨par,rank,R⟩:=T.rooted hw.rng u0 u1;have key:∀ (m:Nat) (x:Int),rank x≤m→0≤x→x<n→S x:=by
  intro m;induction m with
  | zero =>
   intro x hx x0 x1;by_cases hxu:x=u
   ·rw[hxu];exact hu
   ·have:=(R.up x x0 x1 hxu).2.2.1;omega
  | succ m ih =>
   intro x hx x0 x1;by_cases hxu:x=u
   ·rw[hxu];exact hu
   ·obtain⟨q0,q1,q2,q3⟩:=R.up x x0 x1 hxu;have hp:=ih (par x) (by omega) q0 q1;rcases (mem_nb_iff hok).mp q3 with h | h
    ·exact (hS _ h).mpr hp
    ·exact (hS _ h).mp hp
 exact key (rank v) v (Nat.le_refl _) v0 v1
theorem IsWeb.reach (hw:IsWeb n us){u x:Int}(u0:0≤u)(u1:u<n)(x0:0≤x)(x1:x<n):Rch us (·∈rInts 0 n.toNat) u x:=by
 refine hw.conn (fun y=>Rch us (·∈rInts 0 n.toNat) u y) (fun t ht=>?_) u x u0 u1 x0 x1 .base;obtain⟨h0,h1,h2⟩:=hw.rng t ht;have e:t.2∈nb us t.1:=mem_nb.mpr (.inl ht);exact⟨fun h=>h.step e (mem_rInts.mpr ⟨by omega,by omega⟩),fun h=>h.step ((nb_sym hw.rng).mp e) (mem_rInts.mpr ⟨by omega,by omega⟩)⟩
end
end L2
end
section
namespace Srt
open PySem PyProof.Rows
section
variable {prog:Program}{w:World}{A:Around}{E:Value→Shared→Prop}{s:Shared}{e it l:Addr}{n k:Nat}{P:Nat→Value→Prop}{S:Nat→Heap→Prop}{old:Value}
theorem en_item {Q:Value→Shared→Prop}(N:NxIt prog w it l n P S)(hei:e≠it)(hel:e≠l)(he:IsEnum s.heap e it k old)(hs:S k s.heap)(hk:k<n)
  (hQ:∀ h' x,P k x→IsEnumOut h' e it ((k:Int)+1) x s.heap.objs.size→S (k+1) h'→h'.get? s.heap.objs.size=some {cls:=.type "tuple",data:=.seq #[.int k s.toks,x]} →
   (∀ b o,b≠e→b≠it→s.heap.get? b=some o→h'.get? b=some o)→Q (.ref s.heap.objs.size) {s with heap:=h',toks:=s.toks+1}) :
  wpAny (model prog w) A (Builtin.«enumerate.__next__» ⟨[.ref e],[]⟩) (fun fin s'=>∃ v,fin=.done (.ret v)∧Q v s') E s:=by
 obtain⟨hp,g,d,tk,os⟩:=s;show wpAny _ _ (field (.ref e) 2 >>= _) _ _ _;refine wpAny_bind (wpAny_field he rfl (x:=.ref it) rfl ?_);refine wpAny_bind (N.item _ k _ _ _ hk hs fun x g1 px f1 b1=>?_);replace b1:Heap.SameBut it hp g1:=b1;have e1:IsEnum g1 e it k old:=(b1.2 e hei).trans he;show wpAny _ _ (field (.ref e) 3 >>= _) _ _ ⟨g1,g,d,tk,os⟩;refine wpAny_bind (wpAny_field e1 rfl (x:=rawInt k) rfl ?_);show wpAny _ _ (field (.ref e) 4 >>= _) _ _ ⟨g1,g,d,tk,os⟩;refine wpAny_bind (wpAny_field e1 rfl (x:=.none) rfl ?_);show wpAny _ _ (mkInt k >>= _) _ _ ⟨g1,g,d,tk,os⟩;refine wpAny_bind (wpAny_mkInt ?_);show wpAny _ _ (setField (.ref e) 3 (rawInt ((k:Int)+1)) >>= _) _ _ ⟨g1,g,d,tk+1,os⟩;refine wpAny_bind (wpAny_setField_rec e1 (by simp) fun g2 e2 b2=>?_);replace b2:Heap.SameBut e g1 g2:=b2;replace e2:IsEnum g2 e it ((k:Int)+1) old:=e2;show wpAny _ _ (setField (.ref e) 4 .none >>= _) _ _ ⟨g2,g,d,tk+1,os⟩;refine wpAny_bind (wpAny_setField_rec e2 (by simp) fun g3 e3 b3=>?_);replace b3:Heap.SameBut e g2 g3:=b3;replace e3:IsEnum g3 e it ((k:Int)+1) old:=e3;show wpAny _ _ (newTuple [.int k tk,x] >>= _) _ _ ⟨g3,g,d,tk+1,os⟩;refine wpAny_bind (wpAny_newTuple ?_);have hsz:g3.objs.size=hp.objs.size:=by rw[b3.1,b2.1,b1.1]
 have e4:IsEnum (g3.push {cls:=.type "tuple",data:=.seq #[.int k tk,x]}) e it ((k:Int)+1) old:=Heap.get?_push_of_some _ e3;have t4:(g3.push {cls:=.type "tuple",data:=.seq #[.int k tk,x]}).get? hp.objs.size=some {cls:=.type "tuple",data:=.seq #[.int k tk,x]}:=by rw[← hsz];exact Heap.get?_push_size _ rfl
 have k4:∀ b o,b≠e→b≠it→hp.get? b=some o→(g3.push {cls:=.type "tuple",data:=.seq #[.int k tk,x]}).get? b=some o:=fun b o c1 c2 q=>Heap.get?_push_of_some _ (b3.extBut b o c1 (b2.extBut b o c1 (b1.extBut b o c2 q)))
 have elt:e<hp.objs.size:=Heap.lt_size he;have f4:S (k+1) (g3.push {cls:=.type "tuple",data:=.seq #[.int k tk,x]}):=N.frame _ _ _ f1 fun c o hc q=>by
  have ce:c≠e:=by rcases hc with rfl | rfl;exact hei.symm;exact hel.symm
  exact Heap.get?_push_of_some _ (b3.extBut c o ce (b2.extBut c o ce q))
 show wpAny _ _ (Builtin.SmallTypes.ownedTupleIsFree (.ref e) >>= _) _ _ ⟨g3.push {cls:=.type "tuple",data:=.seq #[.int k tk,x]},g,d,tk+1,os⟩;rw[hsz];generalize g3.push {cls:=.type "tuple",data:=.seq #[.int k tk,x]}=g4 at e4 t4 k4 f4;refine wpAny_bind ?_;unfold Builtin.SmallTypes.ownedTupleIsFree;refine wpAny_bind (wpAny_field e4 rfl (x:=.none) rfl (wpAny_pure ?_));simp only[if_true];refine wpAny_bind (wpAny_rule (wpAny_bind (wpAny_field e4 rfl (x:=old) rfl ?_)));refine wpAny_bind (wpAny_setField_rec e4 (by simp) fun g5 e5 b5=>?_);replace b5:Heap.SameBut e g4 g5:=b5;replace e5:IsEnum g5 e it ((k:Int)+1) x:=e5;show wpAny _ _ (Builtin.SmallTypes.ownedTupleHandOut (.ref e) (.ref hp.objs.size) >>= _) _ _ ⟨g5,g,d,tk+1,os⟩;refine wpAny_bind ?_;unfold Builtin.SmallTypes.ownedTupleHandOut;refine wpAny_bind (wpAny_setField_rec e5 (by simp) fun g6 e6 b6=>?_);replace b6:Heap.SameBut e g5 g6:=b6;replace e6:IsEnumOut g6 e it ((k:Int)+1) x hp.objs.size:=e6;refine wpAny_setField_rec e6 (by simp) fun g7 e7 b7=>?_
 replace b7:Heap.SameBut e g6 g7:=b7;replace e7:IsEnumOut g7 e it ((k:Int)+1) x hp.objs.size:=e7;have up:∀ b o,b≠e→g4.get? b=some o→g7.get? b=some o:=fun b o c q=>b7.extBut b o c (b6.extBut b o c (b5.extBut b o c q))
 refine wpAny_bind (wpAny_letGo (wpAny_pure ⟨_,rfl,hQ g7 x px e7 (N.frame _ _ _ f4 fun c o hc q=>up c o (by rcases hc with rfl | rfl;exact hei.symm;exact hel.symm) q) (up _ _ (Nat.ne_of_gt elt) t4) fun b o c1 c2 q=>up b o c1 (k4 b o c1 c2 q)⟩))
theorem en_next {Q:Option Value→Shared→Prop}(N:NxIt prog w it l n P S)(hei:e≠it)(hel:e≠l)(he:IsEnum s.heap e it k old)(hs:S k s.heap)(hk:k<n)
  (hQ:∀ h' x,P k x→IsEnumOut h' e it ((k:Int)+1) x s.heap.objs.size→S (k+1) h'→h'.get? s.heap.objs.size=some {cls:=.type "tuple",data:=.seq #[.int k s.toks,x]} →
   (∀ b o,b≠e→b≠it→s.heap.get? b=some o→h'.get? b=some o)→Q (some (.ref s.heap.objs.size)) {s with heap:=h',toks:=s.toks+1}):wpAny (model prog w) A (pyNext (.ref e)) Q E s:=by
 have hT:s.TypeIs (.ref e) "enumerate":=⟨_,he,rfl⟩
 unfold pyNext
 exact wpAny_bind (wpAny_attempt (wpAny_callSpecial?_slot (name:=Str.ofString "__next__") hT PySem.F.slot_enumerate_next (wpAny_call_entry PySem.F.slot_enumerate_next hT PySem.F.entry_enumerate_next
  (en_item N hei hel he hs hk fun h' x px a1 a2 a3 a4=>wpAny_pure (hQ h' x px a1 a2 a3 a4)) (PySem.F.args_enumerate_next_1 _))))
theorem en_done {Q:Option Value→Shared→Prop}(hh:A.handled=none)(N:NxIt prog w it l n P S)(he:IsEnum s.heap e it k old)(hs:S k s.heap)(hk:n≤k)
  (hQ:∀ h',Heap.ExtBut it s.heap h'→Q none {s with heap:=h'}):wpAny (model prog w) A (pyNext (.ref e)) Q E s:=by
 have hT:s.TypeIs (.ref e) "enumerate":=⟨_,he,rfl⟩
 unfold pyNext;refine wpAny_bind (wpAny_attempt (wpAny_callSpecial?_slot (name:=Str.ofString "__next__") hT PySem.F.slot_enumerate_next (wpAny_call_entry PySem.F.slot_enumerate_next hT PySem.F.entry_enumerate_next ?_ (PySem.F.args_enumerate_next_1 _))));show wpAny _ _ (field (.ref e) 2 >>= _) _ _ _;refine wpAny_bind (wpAny_field he rfl (x:=.ref it) rfl ?_);refine wpAny_bind (N.done _ k _ _ _ hh hk hs fun h' x b he'=>?_);obtain⟨o,ho,hc⟩:=he';refine wpAny_bind (wpAny_isInstance (T:="StopIteration") (b:=true) ⟨o,ho,hc⟩ isSubtype_stop ?_);exact wpAny_pure (hQ _ b)
end
open AutoSeq1 (wpAny_loadPart')
theorem en_new (l:Addr)(items:Array Value) :
  Meets (Builtin.«enumerate.__new__» ⟨[.type "enumerate",.ref l],[]⟩) (fun _ R s=>s.heap.IsTuple l items ∧
   R (.ok (.ret (.ref (s.heap.objs.size+1)))) {s with heap:=(s.heap.push {cls:=.type "tuple_iterator",data:=.fields #[.ref l,.int 0 0]}).push {cls:=.type "enumerate",data:=.fields #[.none,.bool false,.ref s.heap.objs.size,rawInt 0,.none,.none]}}) :=
 .of_wp fun prog w A R s h=>by
  obtain⟨hp,g,d,tk,os⟩:=s;obtain⟨hl,h⟩:=h;have hsub:=sub_enumerate;have hL:Heap.IsTuple (Shared.heap ⟨hp,g,d,tk,os⟩) l items:=hl;obtain⟨⟨c,dct,dt,sl⟩,hol,hc,n,hd⟩:=id hl;replace hc:c=.type "tuple":=hc;replace hd:dt=.seq items n:=hd;subst hc hd;have hsz:(hp.push {cls:=.type "tuple_iterator",data:=.fields #[.ref l,.int 0 0]}).objs.size=hp.objs.size+1:=Heap.size_push ..
  wp_walk using wpAny_loadPart' hol
  refine wpAny_stack_any fun st=>wpAny_pure ?_
  split
  ·rename_i c _ _ _ _ _;cases (c == Value.type "enumerate")
   ·wp_walk using wpAny_loadPart' hol,wpAny_pyIter_tuple hL
    exact⟨_,rfl,by rw[hsz];exact h⟩
   ·wp_walk using wpAny_loadPart' hol,wpAny_pyIter_tuple hL
    exact⟨_,rfl,by rw[hsz];exact h⟩
  ·wp_walk using wpAny_loadPart' hol,wpAny_pyIter_tuple hL
   exact⟨_,rfl,by rw[hsz];exact h⟩
section
variable {prog:Program}{w:World}{A:Around}{E:Value→Shared→Prop}{s:Shared}
theorem call_enT {l:Addr}{items:Array Value}{Q:Value→Shared→Prop}(hL:s.heap.IsTuple l items)
  (h:∀ h',IsEnum h' (s.heap.objs.size+1) s.heap.objs.size 0 .none→h'.IsTupleIter s.heap.objs.size l 0→(∀ b o,s.heap.get? b=some o→h'.get? b=some o)→Q (.ref (s.heap.objs.size+1)) {s with heap:=h'}) :
  wpAny (model prog w) A (call (.type "enumerate") [.ref l]) Q E s:=by
 refine callType_new PySem.F.called_enumerate (by decide) (PySem.F.typeCall_enumerate_1 _) (PySem.F.newCall_enumerate_1 _) (fun obj=>PySem.F.args_object_init_2 obj _) PySem.F.entry_enumerate_new (en_new l items) ⟨hL,?_⟩;have hz:(s.heap.push {cls:=.type "tuple_iterator",data:=.fields #[.ref l,.int 0 0]}).objs.size=s.heap.objs.size+1:=Heap.size_push ..;have he:IsEnum ((s.heap.push {cls:=.type "tuple_iterator",data:=.fields #[.ref l,.int 0 0]}).push {cls:=.type "enumerate",data:=.fields #[.none,.bool false,.ref s.heap.objs.size,rawInt 0,.none,.none]}) (s.heap.objs.size+1) s.heap.objs.size 0 .none:=by
  have:=Heap.get?_push_size (s.heap.push {cls:=.type "tuple_iterator",data:=.fields #[.ref l,.int 0 0]}) (o:={cls:=.type "enumerate",data:=.fields #[.none,.bool false,.ref s.heap.objs.size,rawInt 0,.none,.none]}) rfl;rw[hz] at this;exact this
 exact⟨⟨_,he,rfl⟩,h _ he ⟨_,Heap.get?_push_of_some _ (Heap.get?_push_size _ rfl),rfl,rfl⟩ fun b o x=>Heap.get?_push_of_some _ (Heap.get?_push_of_some _ x)⟩
end
end Srt
end
section
namespace L2
open PySem PySem.Spec PyProof.Rows
def Itet (K:PySem.W.Frag)(a:Addr):It :=
 ⟨fun i H=>∃ xs x,SqT K H a xs∧xs[i]?=some x,fun i H v H'=>∃ q x,v=.ref q∧H q=none∧H'=upd H q (.tup [.int i,x])∧∀ xs,SqT K H a xs→xs[i]?=some x,fun i H=>∃ xs,SqT K H a xs∧xs.length≤i⟩
theorem turn_enT {P:Program}{w:World}{K:PySem.W.Frag}{elts:List Expr}{k:Nat}{pos:Pos}(a e it:Addr)(hne:e≠it)(hea:e≠a)(hia:a≠it):Turn P w K (.Tuple elts k pos) (Itet K a) [e,it] e (fun i h=>(∃ old,IsEnum h e it i old)∧h.IsTupleIter it a i) where
 mem:=by simp
 obj:=fun i h st b hb=>by
  obtain⟨⟨old,he⟩,o,eo,c,d⟩:=st;rcases List.mem_cons.mp hb with rfl | hb
  ·exact⟨_,he,fun v z=>by
    have z':Data.fields _=Data.cell v:=z
    cases z'⟩
  ·have e:b=it:=by simpa using hb
   subst e;exact⟨o,eo,fun v z=>by rw[d] at z;cases z⟩
 keep:=fun i h h' st k=>⟨let ⟨old,he⟩:=st.1;⟨old,k e (by simp) _ he⟩,st.2.at fun o q=>k it (by simp) o q⟩
 item:=by
  intro X hP hw hK hc i pins s σ H E I hf st hg;subst hP hw hK;obtain⟨xs,x,hq,hx⟩:=hg;obtain⟨its,rv,p,hz⟩:=I.tuple hq;obtain⟨u,hu,ru⟩:=rv.get hx;obtain⟨⟨old,he⟩,hit⟩:=st;have hel:e<s.heap.objs.size:=Heap.lt_size he;have hil:it<s.heap.objs.size:=by obtain⟨_,z,_⟩:=hit;exact Heap.lt_size z
  have hlu:=(List.getElem?_eq_some_iff.mp hu).1;refine Srt.en_next (k:=i) (Srt.nx_tup (items:=its.toArray) hia) hne hea he ⟨hit,p⟩ (by simpa using hlu) fun h1 xv px ho st1 hT hk=>⟨_,rfl,?_⟩
  have exv:xv=u:=by
   have hp1:its.toArray[i]?=some xv:=px;rw[List.getElem?_toArray,hu] at hp1;exact (Option.some.inj hp1).symm
  subst exv;refine wpAny_letOwnedTupleGo_enum (s:={s with heap:=h1,toks:=s.toks+1}) ho fun h2 he2 hs2=>?_
  have hs2':∀ b o,b≠e→h1.get? b=some o→h2.get? b=some o:=fun b o hb q=>(hs2.2 b hb).trans q
  have I1:Inv X pins σ (upd H s.heap.objs.size (.tup [.int i,x])) {s with heap:=s.heap.push {cls:=.type "tuple",data:=.seq #[.int i s.toks,xv]},toks:=s.toks+1} :=
   I.laid (o:=.tup [.int i,x]) (fun b o q=>Heap.get?_push_of_some _ q) (Nat.le_refl _) ⟨by simp[sizeLine_eq],[.int i s.toks,xv],.cons ⟨_,rfl⟩ (.cons ru .nil),⟨_,Heap.get?_push_size _ rfl,rfl,_,rfl⟩⟩
  have hfr:∀ b∈[e,it],FpOk X pins (upd H s.heap.objs.size (.tup [.int i,x])) b:=by
   intro b hb;obtain⟨f0,f⟩:=hf b hb;refine⟨?_,f⟩;rw[upd_ne];exact f0;rcases List.mem_cons.mp hb with rfl | hb
   ·exact Nat.ne_of_lt hel
   ·rw[List.mem_singleton.mp hb];exact Nat.ne_of_lt hil
  have I2:Inv X pins σ (upd H s.heap.objs.size (.tup [.int i,x])) {s with heap:=h2,toks:=s.toks+1}:=by
   refine inv_turns (s:={s with heap:=s.heap.push {cls:=.type "tuple",data:=.seq #[.int i s.toks,xv]},toks:=s.toks+1}) (L:=[e,it]) I1 (fun b o hb q=>?_) hfr;have hb1:b≠e:=fun z=>hb (by simp[z])
   have hb2:b≠it:=fun z=>hb (by simp[z])
   refine hs2' b o hb1 ?_;by_cases hbT:b=s.heap.objs.size
   ·subst hbT;rw[show (s.heap.push {cls:=.type "tuple",data:=.seq #[.int i s.toks,xv]}).get? s.heap.objs.size=some {cls:=.type "tuple",data:=.seq #[.int i s.toks,xv]} from Heap.get?_push_size _ rfl] at q;cases q;exact hT
   ·have hlt:b<s.heap.objs.size+1:=by have:=Heap.lt_size q;rw[Heap.size_push] at this;exact this
    have hlt2:b<s.heap.objs.size:=Nat.lt_of_le_of_ne (Nat.le_of_lt_succ hlt) hbT;exact hk b o hb1 hb2 (by rw[← q];exact (push_old hlt2).symm)
  refine⟨.ref s.heap.objs.size,_,I2,rfl,⟨s.heap.objs.size,x,rfl,I.fresh,rfl,fun ys hy=>by rw[I.tuple_inj hy hq];exact hx⟩,⟨⟨_,he2⟩,st1.1.at fun o q=>hs2' it o hne.symm q⟩,fun b hb=>(hfr b hb).1⟩
 done:=by
  intro X hP hw hK hc i pins s σ H E I hf st hg;subst hP hw hK;obtain⟨xs,hq,hx⟩:=hg;obtain⟨its,rv,p,hz⟩:=I.tuple hq;obtain⟨⟨old,he⟩,hit⟩:=st;have hl:=rv.length;refine Srt.en_done (k:=i) (I.ok.hd hc) (Srt.nx_tup (items:=its.toArray) hia) he ⟨hit,p⟩ (by simp;omega) fun h' eb=>⟨rfl,?_⟩
  exact inv_turns (t':=s.toks) (L:=[e,it]) I (fun b o hb q=>eb b o (fun z=>hb (by simp[z])) q) hf
 self:=fun _ _ _ _ _ st h=>let ⟨_,he⟩:=st.1;wpAny_pyIter_enum he h
section
variable {X:Cx}{K:PySem.W.Frag}{elts:List Expr}{k:Nat}{tpos p pos:Pos}{l:Expr}{t:TA}{y:Str}
def iEnumT (K:PySem.W.Frag)(t:TA):TI:=fun σ H R=>t σ H fun vs H1=>∃ a,vs=[.ref a]∧(∃ xs,SqT K H1 a xs)∧R (Itet K a) H1
theorem pi_enT (hg:Gl X y)(hm:X.mg y=none)(hv:bootBuiltins y=some (.type "enumerate"))(ha:PA X [l] t)(hn:y≠"__name__":=by decide)(hdb:(y == ("__debug__":Str))=false:=by decide)
  (he:starEach [l] X.env=[(false,eval l X.env)]:=by rfl) (hpl:(backTo pos (starEach ([]:List Expr) X.env)).any (·.1)=false:=by rfl) (hK:X.K=K:=by rfl):PI X (.Tuple elts k tpos) (.Call (.Name y p) [l] [] pos) (iEnumT K t):=by
 subst hK;intro pins s σ H R I h;refine wpAny_Call_Name_kw (ld_blt I hg hm hv ?_ hn hdb);refine PyProof.Rows.callWith_type1 (thn (ha pos pins s σ H _ I h) fun us s1 ⟨vs,H1,I1,r1,a,e1,⟨xs,hq⟩,q⟩=>?_) he hpl;subst e1;obtain⟨u,rfl,rx⟩:=vals1 r1;cases rx;obtain⟨its,rv,pl,hz⟩:=I1.tuple hq;have la:a<s1.heap.objs.size:=by obtain⟨_,e,_⟩:=pl;exact Heap.lt_size e
 refine Srt.call_enT pl fun h' hen hit hk=>wpAny_pyIter_enum (s:={s1 with heap:=h'}) hen ?_
 refine⟨s1.heap.objs.size+1,[s1.heap.objs.size+1,s1.heap.objs.size],_,_,H1,rfl,I1.kept (t':=s1.toks) hk,turn_enT a _ _ (Nat.ne_of_gt (Nat.lt_succ_self _)) (Nat.ne_of_gt (Nat.lt_succ_of_lt la)) (Nat.ne_of_lt la),⟨⟨_,hen⟩,hit⟩,fun b hb=>?_,q⟩;rcases List.mem_cons.mp hb with rfl | hb
 ·exact I1.fpOk (Nat.le_succ _) (I1.hok.fresh (Nat.le_succ _))
 ·rw[List.mem_singleton.mp hb];exact I1.fpOk (Nat.le_refl _) I1.fresh
end
theorem for_enT {K:PySem.W.Frag}{a:Addr}{xs:List V}{g:TG}{tb:TS}{D:Ends}{σ:St}{H:Hp}(Pv:Nat→St→Hp→Prop)(h0:Pv 0 σ H)(hx:∀ i σ H,i≤xs.length→Pv i σ H→SqT K H a xs)
  (hs:∀ i x σ H q,xs[i]?=some x→Pv i σ H→H q=none→g (.ref q) σ (upd H q (.tup [.int i,x])) fun σ2 H2=>tb {D with nx:=Pv (i+1),ct:=Pv (i+1),bk:=D.nx} σ2 H2) (hd:∀ σ H,Pv xs.length σ H→D.nx σ H) :
  ∃ W:Nat→Nat→St→Hp→Prop,(∃ m,W 0 m σ H)∧∀ i m σ H,W i m σ H →
   ((Itet K a).stop i H∧D.nx σ H)∨((Itet K a).go i H∧∃ N:St→Hp→Prop,(∀ σ' H',N σ' H'→∃ m',m'<m∧W (i+1) m' σ' H')∧∀ x H',(Itet K a).yld i H x H'→g x σ H' fun σ2 H2=>tb {D with nx:=N,ct:=N,bk:=D.nx} σ2 H2):=by
 refine⟨fun i m σ H=>m=xs.length-i∧i≤xs.length∧Pv i σ H,⟨_,rfl,Nat.zero_le _,h0⟩,?_⟩;rintro i m σ H ⟨rfl,hi,p⟩;have q1:=hx i σ H hi p;by_cases hlt:i<xs.length
 ·refine .inr ⟨⟨xs,_,q1,List.getElem?_eq_getElem hlt⟩,Pv (i+1),fun σ' H' p'=>⟨_,by omega,rfl,hlt,p'⟩,?_⟩;rintro v H' ⟨q,x,rfl,hn,rfl,y1⟩;exact hs i x σ H q (y1 xs q1) p hn
 ·have e:i=xs.length:=by omega
  subst e;exact .inl ⟨⟨xs,q1,Nat.le_refl _⟩,hd σ H p⟩
end L2
end
section
namespace L2
open PySem
def pV (n g:Int)(par:Int→Int):List V:=(rInts 0 n.toNat).map fun v=>if v=g then V.non else V.int (par v)
theorem pV_len (n g:Int)(par:Int→Int):(pV n g par).length=n.toNat:=by unfold pV;rw[List.length_map,rInts_length]
theorem pV_get {n g:Int}{par:Int→Int}{i:Nat}(h:i<n.toNat):(pV n g par)[i]?=some (if (i:Int)=g then V.non else V.int (par i)):=by
 unfold pV;rw[List.getElem?_map,rInts_get h,Int.zero_add];rfl
def parT (g:Int)(par:Int→Int)(i:Nat):List (Int×Int):=((rInts 0 i).filter fun v=>!decide (v=g)).map fun v=>mm v (par v)
theorem parT_succ (g:Int)(par:Int→Int)(i:Nat):parT g par (i+1)=parT g par i++(if (i:Int)=g then [] else [mm i (par i)]):=by
 unfold parT;rw[rInts_succ,List.filter_append,List.map_append,Int.zero_add];by_cases h:(i:Int)=g
 ·rw[if_pos h,fil_neg _ (by simp[h])];rfl
 ·rw[if_neg h,fil_pos _ (by simp[h])];rfl
def dV:V→PyData
 | .int i=>.int i
 | _=>.none
end L2
end
section
namespace L2
open PySem PySem.Spec PyProof.Rows
theorem bools_getF:∀ {bs:List Bool} {us:List Value},Vals (bs.map V.bl) us→∀ (i:Nat) (v:Value),us[i]?=some v→v=Value.bool (bs.getD i false)
 | [],_,.nil,i,v,h=>by simp at h
 | b::r,_,.cons q t,0,v,h=>by simp at h;subst h;exact q
 | b::r,_,.cons q t,i+1,v,h=>by simp at h;exact bools_getF t i v h
theorem range_any (bs:List Bool):(List.range bs.length).any (fun i=>bs.getD i false)=bs.any id:=by
 induction bs with
 | nil=>rfl
 | cons b r ih =>
  rw[List.length_cons,List.range_succ_eq_map,List.any_cons,List.any_map,List.any_cons];congr 1
section
variable {X:Cx}
def cAny (K:PySem.W.Frag):List V→Hp→VK→Prop:=fun xs H Q=>∃ (p:Addr) (bs:List Bool),xs=[.ref p]∧SqL K H p (bs.map V.bl)∧Q (.bl (bs.any id)) H
theorem call_anyB (hh:X.A.handled=none):CallR X (.builtin "any") (cAny X.K):=by
 intro pins s σ H xs us Q I r h;obtain⟨p,bs,rfl,hq,q⟩:=h;obtain⟨u,rfl,ru⟩:=vals1 r;cases ru;obtain⟨its,rv,pl,hz⟩:=I.list hq;have hl:s.heap.IsList p its.toArray:=pl.isList;have hlen:its.length=bs.length:=by rw[← rv.length,List.length_map]
 refine call_any_walk (wpAny_pyIter_list hl ?_);have hpu:∀ b o,s.heap.get? b=some o→(s.heap.push {cls:=.type "list_iterator",data:=.fields #[.ref p,.int 0 0]}).get? b=some o:=fun b o e=>Heap.get?_push_of_some _ e
 have hne:p≠s.heap.objs.size:=by
  obtain⟨o,ho,_⟩:=hl;exact Nat.ne_of_lt (Heap.lt_size ho)
 refine⟨_,_,_,_,_,_,fun i=>bs.getD i false,rfl,Walks.list (prog:=X.prog) (w:=X.w) (A:=X.A.in1) hh s.heap.objs.size p hne its.toArray,⟨⟨_,Heap.get?_push_size _ rfl,rfl,rfl⟩,hl.at fun o e=>hpu _ _ e⟩,?_,?_⟩
 ·intro i v s' Q' E' hP hQ;have:v=Value.bool (bs.getD i false):=bools_getF rv i v (by simpa using hP);subst this;exact wpAny_truthy_bool hQ
 ·intro h' tk hk;have e:(List.range its.toArray.size).any (fun i=>bs.getD i false)=bs.any id:=by rw[List.size_toArray,hlen];exact range_any bs
  rw[e];refine⟨.bl _,H,I.kept fun b o eb=>hk b o (fun hm=>?_) (hpu b o eb),rfl,q⟩;rw[List.mem_singleton.mp hm] at eb;exact absurd (Heap.lt_size eb) (Nat.lt_irrefl _)
theorem anyK (K:PySem.W.Frag)(hh:X.A.handled=none)(h:X.K=K:=by rfl):CallR X (.builtin "any") (cAny K):=by subst h;exact call_anyB hh
theorem boot_anyB:bootBuiltins "any"=some (.builtin "any"):=by decide +kernel
end
def iAny (K:PySem.W.Frag)(tl:TE):TI:=fun σ H R=>tl σ H fun x H1=>∃ a,x=.ref a∧(((∃ xs,SqL K H1 a xs)∧R (Itl K a) H1)∨((∃ xs,SqT K H1 a xs)∧R (Itt K a) H1))
theorem pi_anyK {X:Cx}{tg l:Expr}{tl:TE}(K:PySem.W.Frag)(hl:PE X l tl)(h:X.K=K:=by rfl):PI X tg l (iAny K tl):=by
 subst h;intro pins s σ H R I h;refine thn (hl pins s σ H _ I h) fun v s1 ⟨x,H1,I1,r1,q1⟩=>?_
 obtain⟨a,e,⟨⟨xs,hq⟩,q⟩ | ⟨⟨xs,hq⟩,q⟩⟩:=q1
 ·subst e;cases r1;obtain⟨its,rv,p,hz⟩:=I1.list hq;refine wpAny_pyIter_list p.isList ?_;refine⟨s1.heap.objs.size,[s1.heap.objs.size],_,_,H1,rfl,I1.kept (t':=s1.toks) fun b o e=>Heap.get?_push_of_some _ e,turn_list a _,⟨_,Heap.get?_push_size _ rfl,rfl,rfl⟩,fun b hb=>?_,q⟩;have e:b=s1.heap.objs.size:=by simpa using hb
  subst e;exact I1.fpOk (Nat.le_refl _) (I1.hok.fresh (Nat.le_refl _))
 ·subst e;cases r1;obtain⟨its,rv,p,hz⟩:=I1.tuple hq;refine wpAny_pyIter_tuple (show s1.heap.IsTuple a its.toArray from p) ?_;refine⟨s1.heap.objs.size,[s1.heap.objs.size],_,_,H1,rfl,I1.kept (t':=s1.toks) fun b o e=>Heap.get?_push_of_some _ e,turn_tuple a _,⟨_,Heap.get?_push_size _ rfl,rfl,rfl⟩,fun b hb=>?_,q⟩;have e:b=s1.heap.objs.size:=by simpa using hb
  subst e;exact I1.fpOk (Nat.le_refl _) (I1.hok.fresh (Nat.le_refl _))
def ForJ (g:TG)(tb:TS)(D:Ends)(σ:St)(J:It)(H1:Hp):Prop:=tFor (fun _ H R=>R J H) g tb D σ H1
theorem tFor_eq {wi:TI}{g:TG}{tb:TS}{D:Ends}{σ:St}{H:Hp}:tFor wi g tb D σ H=wi σ H (fun J H1=>ForJ g tb D σ J H1):=rfl
def lotsOf (n:Int)(ts:List (Int×Int)):List (List Int):=(List.range n.toNat).map fun (v:Nat)=>(v:Int)::nb ts (v:Int)
theorem lotsOf_get {n:Int}{ts:List (Int×Int)}{v:Int}(h0:0≤v)(h1:v<n):(lotsOf n ts)[v.toNat]?=some (v::nb ts v):=by
 unfold lotsOf;rw[List.getElem?_map,List.getElem?_range (by omega)];show some (((v.toNat:Nat):Int)::nb ts ((v.toNat:Nat):Int))=_;rw[Int.toNat_of_nonneg h0]
theorem lotsOf_len (n:Int)(ts:List (Int×Int)):(lotsOf n ts).length=n.toNat:=by unfold lotsOf;simp
theorem lotsOf_take {n:Int}{ts:List (Int×Int)}{i:Nat}(h:i<n.toNat):(lotsOf n ts).take (i+1)=(lotsOf n ts).take i++[(i:Int)::nb ts (i:Int)]:=by
 have:=lotsOf_get (n:=n) (ts:=ts) (v:=(i:Int)) (by omega) (by omega);rw[Int.toNat_natCast] at this;exact take_snoc this
end L2
end
section
namespace L2
open PySem
section
variable {n:Int}{ts:List (Int×Int)}{A B:Int→Prop}{u v x:Int}
theorem Rch.tr (h:Rch ts A u v)(k:Rch ts A v x):Rch ts A u x:=by
 induction k with
 | base=>exact h
 | step _ hy ha ih=>exact .step ih hy ha
theorem Rch.mono' (h:Rch ts A u x)(k:∀ y,A y→B y):Rch ts B u x:=by
 induction h with
 | base=>exact .base
 | step _ hy ha ih=>exact .step ih hy (k _ ha)
theorem Rch.sy (hok:TsOk n ts)(h:Rch ts A u x)(ha:A u):Rch ts A x u:=by
 induction h with
 | base=>exact .base
 | @step y z k hz az ih =>
  have ay:A y:=k.mem ha;exact Rch.tr (.step .base ((nb_sym hok).mp hz) ay) ih
end
def Hng (ts:List (Int×Int))(us:List Int):Prop:=us≠[]∧∀ x∈us,∀ y∈us,Rch ts (·∈us) x y
def Busy (n:Int)(ts:List (Int×Int))(us:List Int):Prop:=Hng ts us∧∀ x,0≤x→x<n→x∉us→∃ y∈nb ts x,y∈us
theorem hng_of {n:Int}{ts:List (Int×Int)}{us:List Int}{u:Int}(hok:TsOk n ts)(hu:u∈us)(h:∀ y∈us,Rch ts (·∈us) u y):Hng ts us :=
 ⟨fun e=>(by rw[e] at hu;cases hu),fun x hx y hy=>((h x hx).sy hok hu).tr (h y hy)⟩
theorem nd_all {us l:List Int}(hnd:us.Nodup)(hs:us ⊆ l)(hl:l.length≤us.length)(hl2:l.Nodup):∀ x∈l,x∈us:=by
 intro x hx;refine Classical.byContradiction fun hn=>?_
 have h1:(x::us).Nodup:=List.nodup_cons.mpr ⟨hn,hnd⟩;have h2:(x::us) ⊆ l:=fun y hy=>by
  rcases List.mem_cons.mp hy with rfl | hy
  ·exact hx
  ·exact hs hy
 have:=nd_sub h1 h2;rw[List.length_cons] at this;omega
theorem len_split {us:List Int}:∀ {l:List Int},(l.filter fun x=>!decide (x∈us)).length+(l.filter fun x=>decide (x∈us)).length=l.length
 | []=>rfl
 | a::l=>by
  have ih:=len_split (us:=us) (l:=l);by_cases h:a∈us
  ·rw[List.filter_cons_of_neg (by simp[h]),List.filter_cons_of_pos (by simp[h]),List.length_cons,List.length_cons];omega
  ·rw[List.filter_cons_of_pos (by simp[h]),List.filter_cons_of_neg (by simp[h]),List.length_cons,List.length_cons];omega
theorem busy_iff {n:Int}{ts:List (Int×Int)}{us zs:List Int}(hnd:us.Nodup)(hr:∀ x∈us,0≤x∧x<n)(h0:0≤n)(hz:zs.Pairwise (·<·))(hm:∀ x,x∈zs↔0≤x∧x<n∧x∉us∧∃ y∈us,y∈nb ts x) :
  ((zs.length:Int)+us.length=n)↔∀ x,0≤x→x<n→x∉us→∃ y∈nb ts x,y∈us:=by
 have ho:∀ x,x∈(rInts 0 n.toNat).filter (fun x=>!decide (x∈us))↔(0≤x∧x<n)∧x∉us:=fun x=>by
  rw[List.mem_filter,mem_rInts];simp;omega
 have hond:((rInts 0 n.toNat).filter fun x=>!decide (x∈us)).Nodup:=rising_nd fil_rising;have hc:((rInts 0 n.toNat).filter fun x=>decide (x∈us)).length=us.length:=by
  refine List.Perm.length_eq ((List.perm_ext_iff_of_nodup (rising_nd fil_rising) hnd).mpr fun x=>?_);rw[List.mem_filter,mem_rInts];constructor
  ·intro h;simpa using h.2
  ·intro h;have:=hr x h;exact⟨⟨by omega,by omega⟩,by simpa using h⟩
 have hsp:=len_split (us:=us) (l:=rInts 0 n.toNat);rw[rInts_length] at hsp;constructor
 ·intro e x x0 x1 hx;have:=nd_all (rising_nd hz) (fun y hy=>(ho y).mpr (by have:=(hm y).mp hy;exact⟨⟨this.1,this.2.1⟩,this.2.2.1⟩)) (by omega) hond x ((ho x).mpr ⟨⟨x0,x1⟩,hx⟩);obtain⟨_,_,_,y,hy,hyx⟩:=(hm x).mp this;exact⟨y,hyx,hy⟩
 ·intro h;have:zs=(rInts 0 n.toNat).filter fun x=>!decide (x∈us):=rising_ext hz fil_rising fun x=>by
   rw[hm,ho];constructor
   ·rintro⟨a,b,c,_⟩;exact⟨⟨a,b⟩,c⟩
   ·rintro⟨⟨a,b⟩,c⟩;obtain⟨y,hy,hyu⟩:=h x a b c;exact⟨a,b,c,y,hyu,hy⟩
  rw[this];omega
def bitsOf (n:Int)(m:Int):List Int:=(rInts 0 n.toNat).filter fun i=>decide (Builtin.bitAnd (m / 2 ^ i.toNat) 1=1)
theorem band1 {m:Nat}:Builtin.bitAnd (m:Int) 1=((m % 2:Nat):Int):=by
 show ((((m:Int).toNat &&& (1:Int).toNat:Nat)):Int)=_;rw[Int.toNat_natCast];show (((m &&& 1:Nat)):Int)=_;rw[Nat.and_one_is_mod]
theorem bit_iff {m i:Nat}:Builtin.bitAnd ((m:Int) / 2 ^ i) 1=1↔m.testBit i=true:=by
 have:((m:Int) / 2 ^ i)=((m / 2 ^ i:Nat):Int):=by
  rw[Int.natCast_ediv];congr 1
 rw[this,band1,Nat.testBit_eq_decide_div_mod_eq];simp;omega
theorem mem_bits {n:Int}{m:Nat}{x:Int}:x∈bitsOf n m↔0≤x∧x<n∧m.testBit x.toNat=true:=by
 unfold bitsOf;rw[List.mem_filter,mem_rInts,decide_eq_true_iff,bit_iff];constructor
 ·rintro⟨⟨a,b⟩,c⟩;exact⟨a,by omega,c⟩
 ·rintro⟨a,b,c⟩;exact⟨⟨a,by omega⟩,c⟩
theorem num_of (p:Nat→Bool):∀ k:Nat,∃ m:Nat,m<2 ^ k∧∀ i,i<k→m.testBit i=p i
 | 0=>⟨0,by simp,fun i hi=>absurd hi (Nat.not_lt_zero _)⟩
 | k+1=>by
  obtain⟨m,hm,hb⟩:=num_of p k;by_cases hp:p k=true
  ·refine⟨m ||| 2 ^ k,Nat.or_lt_two_pow (Nat.lt_trans hm (Nat.pow_lt_pow_succ (by decide))) (Nat.pow_lt_pow_succ (by decide)),fun i hi=>?_⟩;rw[Nat.testBit_or,Nat.testBit_two_pow];rcases Nat.lt_or_ge i k with h | h
   ·rw[hb i h,decide_eq_false (by omega),Bool.or_false]
   ·cases (show i=k by omega);rw[hp,decide_eq_true rfl,Bool.or_true]
  ·refine⟨m,Nat.lt_trans hm (Nat.pow_lt_pow_succ (by decide)),fun i hi=>?_⟩;rcases Nat.lt_or_ge i k with h | h
   ·exact hb i h
   ·cases (show i=k by omega);rw[Nat.testBit_lt_two_pow hm];simpa using hp
theorem bits_all {n:Int}(h0:0≤n){us:List Int}(hs:us.Pairwise (·<·))(hr:∀ x∈us,0≤x∧x<n)(hne:us≠[]):∃ m:Nat,1≤m∧m<2 ^ n.toNat∧bitsOf n m=us:=by
 obtain⟨m,hm,hb⟩:=num_of (fun i=>decide ((i:Int)∈us)) n.toNat;have e:bitsOf n m=us:=rising_ext fil_rising hs fun x=>by
  rw[mem_bits];constructor
  ·rintro⟨a,b,c⟩;rw[hb x.toNat (by omega),decide_eq_true_iff,Int.toNat_of_nonneg a] at c;exact c
  ·intro h;have:=hr x h;refine⟨this.1,this.2,?_⟩;rw[hb x.toNat (by omega),decide_eq_true_iff,Int.toNat_of_nonneg this.1];exact h
 refine⟨m,?_,hm,e⟩;rcases Nat.eq_zero_or_pos m with h | h
 ·subst h;obtain⟨u,hu⟩:=List.exists_mem_of_ne_nil us hne;rw[← e,mem_bits] at hu;simp at hu
 ·exact h
end L2
end
section
namespace L2
open PySem
structure TB where
 vs:List Int
 ws:List Int
 par:Int→Int
def tbTry (bs:List Int)(p:Int)(s:TB)(y:Int):TB :=
 if y∈s.vs then s else ⟨s.vs++[y],if y∈bs then s.ws++[y] else s.ws,fun v=>if v=y then p else s.par v⟩
def tbTake (ts:List (Int×Int))(bs:List Int)(p:Int)(s:TB)(j:Nat):TB:=((nb ts p).take j).foldl (tbTry bs p) s
def tbStep (ts:List (Int×Int))(bs:List Int)(s:TB):TB:=match s.ws.getLast? with
 | none=>s
 | some p=>tbTake ts bs p ⟨s.vs,s.ws.dropLast,s.par⟩ (nb ts p).length
def tbRun (ts:List (Int×Int))(bs:List Int)(g:Int):Nat→TB
 | 0=>⟨[g],[g],id⟩
 | k+1=>tbStep ts bs (tbRun ts bs g k)
def tbM (n:Int)(s:TB):Nat:=2*(n.toNat-s.vs.length)+s.ws.length
structure TBok (n:Int)(ts:List (Int×Int))(bs:List Int)(g:Int)(s:TB):Prop where
 grow:Grow ts s.vs ((s.vs.filter fun v=>!decide (v=g)).map fun v=>mm v (s.par v))
 gin:g∈s.vs
 rng:∀ v∈s.vs,0≤v∧v<n
 sub:∀ v∈s.ws,v∈s.vs∧v∈bs
 wl:s.ws.length≤s.vs.length
 pb:∀ v∈s.vs,v≠g→s.par v∈bs
 cl:∀ v∈s.vs,v∈bs→v∉s.ws→∀ y∈nb ts v,y∈s.vs
structure TBok' (n:Int)(ts:List (Int×Int))(bs:List Int)(g p:Int)(j:Nat)(s:TB):Prop where
 grow:Grow ts s.vs ((s.vs.filter fun v=>!decide (v=g)).map fun v=>mm v (s.par v))
 gin:g∈s.vs
 rng:∀ v∈s.vs,0≤v∧v<n
 sub:∀ v∈s.ws,v∈s.vs∧v∈bs
 wl:s.ws.length≤s.vs.length
 pb:∀ v∈s.vs,v≠g→s.par v∈bs
 pin:p∈s.vs
 pbs:p∈bs
 cl:∀ v∈s.vs,v∈bs→v∉s.ws→v≠p→∀ y∈nb ts v,y∈s.vs
 part:∀ y∈(nb ts p).take j,y∈s.vs
section
variable {n g p:Int}{ts:List (Int×Int)}{bs:List Int}{s:TB}{j:Nat}
theorem TBok.init (g0:0≤g)(g1:g<n)(hg:g∈bs):TBok n ts bs g ⟨[g],[g],id⟩:=by
 refine⟨?_,by simp,fun v hv=>?_,fun v hv=>?_,by simp,fun v hv hn=>?_,fun v hv _ hw=>?_⟩
 ·have:([g].filter fun v=>!decide (v=g))=[]:=by simp
  show Grow ts [g] (([g].filter fun v=>!decide (v=g)).map _);rw[this];exact Grow.one g
 ·rw[List.mem_singleton.mp hv];exact⟨g0,g1⟩
 ·rw[List.mem_singleton.mp hv];exact⟨by simp,hg⟩
 ·exact absurd (List.mem_singleton.mp hv) hn
 ·exact absurd hv hw
theorem TBok.pop {ws:List Int}(h:TBok n ts bs g s)(e:s.ws=ws++[p]):TBok' n ts bs g p 0 ⟨s.vs,ws,s.par⟩:=by
 have hp:=h.sub p (by rw[e];simp);refine⟨h.grow,h.gin,h.rng,fun v hv=>h.sub v (by rw[e];simp[hv]),?_,h.pb,hp.1,hp.2,fun v hv hb hw hvp=>h.cl v hv hb (by rw[e];simp;exact⟨hw,hvp⟩),fun y hy=>by simp at hy⟩;have:=h.wl;rw[e,List.length_append,List.length_singleton] at this;show ws.length≤s.vs.length;omega
theorem TBok'.try (h:TBok' n ts bs g p j s)(hok:TsOk n ts){y:Int}(hy:(nb ts p)[j]?=some y):TBok' n ts bs g p (j+1) (tbTry bs p s y)∧tbM n (tbTry bs p s y)≤tbM n s:=by
 have hym:=List.mem_of_getElem? hy;have hr:=nb_rng hok hym;have hpart:∀ z,z∈(nb ts p).take (j+1)↔z∈(nb ts p).take j∨z=y:=fun z=>by rw[List.take_succ,hy];simp
 unfold tbTry;by_cases hv:y∈s.vs
 ·rw[if_pos hv];refine⟨{h with part:=fun z hz=>?_},Nat.le_refl _⟩;rcases (hpart z).mp hz with hz | hz
  ·exact h.part z hz
  ·rw[hz];exact hv
 ·rw[if_neg hv];have hyg:y≠g:=fun e=>hv (e ▸ h.gin)
  have hpy:p≠y:=fun e=>hv (e ▸ h.pin)
  have hnd:(s.vs++[y]).Nodup:=(h.grow.add h.pin hv hym).nd;have hrng:∀ v∈s.vs++[y],0≤v∧v<n:=fun v hv'=>by
   rcases List.mem_append.mp hv' with q | q
   ·exact h.rng v q
   ·rw[List.mem_singleton.mp q];exact⟨hr.1,hr.2.1⟩
  have hlen:=nd_len hnd hrng;rw[List.length_append,List.length_singleton] at hlen;have hwl:(if y∈bs then s.ws++[y] else s.ws).length≤s.ws.length+1:=by split<;>simp
  refine⟨⟨?_,List.mem_append_left _ h.gin,hrng,fun v hv'=>?_,?_,fun v hv' hvg=>?_,List.mem_append_left _ h.pin,h.pbs,fun v hv' hb hw hvp z hz=>?_,fun z hz=>?_⟩,?_⟩
  ·have e:((s.vs++[y]).filter fun v=>!decide (v=g)).map (fun v=>mm v (if v=y then p else s.par v))=((s.vs.filter fun v=>!decide (v=g)).map fun v=>mm v (s.par v))++[mm p y]:=by
    rw[List.filter_append,fil_pos _ (by simp[hyg]),List.map_append];congr 1
    ·refine List.map_congr_left fun v hv'=>?_
     have hvs:=(List.mem_filter.mp hv').1;rw[if_neg (show ¬ v=y from fun e=>hv (e ▸ hvs))]
    ·show [mm y (if y=y then p else s.par y)]=_;rw[if_pos rfl,mm_comm hpy.symm]
   show Grow ts (s.vs++[y]) _;rw[e];exact h.grow.add h.pin hv hym
  ·have key:v∈s.ws∨(v=y∧y∈bs):=by
    dsimp only at hv';split at hv'
    ·rename_i hb;rcases List.mem_append.mp hv' with q | q
     ·exact .inl q
     ·exact .inr ⟨List.mem_singleton.mp q,hb⟩
    ·exact .inl hv'
   rcases key with q | ⟨rfl,q⟩
   ·exact⟨List.mem_append_left _ (h.sub v q).1,(h.sub v q).2⟩
   ·exact⟨List.mem_append_right _ (List.mem_singleton.mpr rfl),q⟩
  ·have:=h.wl;rw[List.length_append,List.length_singleton];dsimp only;omega
  ·show (if v=y then p else s.par v)∈bs;by_cases e:v=y
   ·rw[if_pos e];exact h.pbs
   ·rw[if_neg e];rcases List.mem_append.mp hv' with q | q
    ·exact h.pb v q hvg
    ·exact absurd (List.mem_singleton.mp q) e
  ·dsimp only at hw;rcases List.mem_append.mp hv' with q | q
   ·refine List.mem_append_left _ (h.cl v q hb (fun k=>hw ?_) hvp z hz);split
    ·exact List.mem_append_left _ k
    ·exact k
   ·rw[List.mem_singleton.mp q] at hb hw;rw[if_pos hb] at hw;exact absurd (List.mem_append_right _ (List.mem_singleton.mpr rfl)) hw
  ·rcases (hpart z).mp hz with hz | hz
   ·exact List.mem_append_left _ (h.part z hz)
   ·rw[hz];exact List.mem_append_right _ (List.mem_singleton.mpr rfl)
  ·unfold tbM;dsimp only;rw[List.length_append,List.length_singleton];omega
theorem TBok'.done (h:TBok' n ts bs g p j s)(hj:(nb ts p).length≤j):TBok n ts bs g s:=by
 refine⟨h.grow,h.gin,h.rng,h.sub,h.wl,h.pb,fun v hv hb hw y hy=>?_⟩;by_cases e:v=p
 ·subst e;exact h.part y (by rw[List.take_of_length_le hj];exact hy)
 ·exact h.cl v hv hb hw e y hy
theorem tbTake_succ {y:Int}(hy:(nb ts p)[j]?=some y):tbTake ts bs p s (j+1)=tbTry bs p (tbTake ts bs p s j) y:=by
 unfold tbTake;rw[List.take_succ,hy];simp
theorem tbStep_pop {ws:List Int}(e:s.ws=ws++[p]):tbStep ts bs s=tbTake ts bs p ⟨s.vs,ws,s.par⟩ (nb ts p).length:=by
 unfold tbStep;rw[e];simp
theorem TBok.all (h:TBok n ts bs g s)(hw:s.ws=[])(hok:TsOk n ts)(hB:Busy n ts bs)(hg:g∈bs):∀ v,0≤v→v<n→v∈s.vs:=by
 have hcl:∀ v∈s.vs,v∈bs→∀ y∈nb ts v,y∈s.vs:=fun v hv hb=>h.cl v hv hb (by rw[hw];simp)
 have key:∀ x,Rch ts (·∈bs) g x→x∈s.vs:=by
  intro x r;induction r with
  | base=>exact h.gin
  | @step y x r hm ha ih=>exact hcl y ih (r.mem hg) x hm
 intro v v0 v1;by_cases hv:v∈bs
 ·exact key v (hB.1.2 g hg v hv)
 ·obtain⟨y,hy,hyb⟩:=hB.2 v v0 v1 hv;exact hcl y (key y (hB.1.2 g hg y hyb)) hyb v ((nb_sym hok).mp hy)
theorem TBok.len (h:TBok n ts bs g s)(h0:0≤n)(hall:∀ v,0≤v→v<n→v∈s.vs):(s.vs.length:Int)=n:=by
 have h1:=nd_len h.grow.nd h.rng;have h2:=nd_sub (rising_nd (rInts_lt n.toNat)) (l:=s.vs) fun x hx=>by have:=mem_rInts.mp hx;exact hall x this.1 (by omega)
 rw[rInts_length] at h2;omega
theorem TBok.perm (h:TBok n ts bs g s)(hall:∀ v,0≤v→v<n→v∈s.vs):(parT g s.par n.toNat).Perm ((s.vs.filter fun v=>!decide (v=g)).map fun v=>mm v (s.par v)):=by
 unfold parT;refine List.Perm.map _ (List.Perm.filter _ ((List.perm_ext_iff_of_nodup (rising_nd (rInts_lt _)) h.grow.nd).mpr fun x=>?_));rw[mem_rInts];constructor
 ·intro q;exact hall x q.1 (by omega)
 ·intro q;have:=h.rng x q;omega
theorem TBok.leaf (h:TBok n ts bs g s)(hok:TsOk n ts)(hg:g∈bs)(hall:∀ v,0≤v→v<n→v∈s.vs){us:List (Int×Int)}(pm:us.Perm (parT g s.par n.toNat))(T:IsTree n ts us){x:Int}(x0:0≤x)(x1:x<n)(hx:x∉bs):(nb us x).length=1:=by
 have huk:=T.ok hok;have hxg:x≠g:=fun e=>hx (e ▸ hg)
 have e:nb us x=[s.par x]:=by
  refine rising_ext (nb_lt huk T.srt x) (by simp) fun y=>?_
  have hxp:x≠s.par x:=fun e=>hx (by rw[e];exact h.pb x (hall x x0 x1) hxg)
  have tie:∀ a b,(a,b)∈us→(x=a∨x=b)→(a=x∧b=s.par x)∨(b=x∧a=s.par x):=by
   intro a b hm hab;have hm':=pm.mem_iff.mp hm;unfold parT at hm';obtain⟨v,hv,ev⟩:=List.mem_map.mp hm';obtain⟨hv1,hv2⟩:=List.mem_filter.mp hv;have hv3:=mem_rInts.mp hv1;have hvg:v≠g:=by simpa using hv2
   have hpv:s.par v∈bs:=h.pb v (hall v hv3.1 (by omega)) hvg;have hab':=huk _ hm;dsimp only at hab';by_cases hvv:v=s.par v
   ·exfalso;have:mm v (s.par v)=(v,v):=by rw[← hvv];unfold mm;simp
    rw[this] at ev;cases ev;omega
   rcases mm_cases hvv with ⟨_,q⟩ | ⟨_,q⟩
   ·rw[q] at ev;cases ev;rcases hab with rfl | rfl
    ·exact absurd hpv hx
    ·exact .inr ⟨rfl,rfl⟩
   ·rw[q] at ev;cases ev;rcases hab with rfl | rfl
    ·exact .inl ⟨rfl,rfl⟩
    ·exact absurd hpv hx
  rw[mem_nb_iff huk,List.mem_singleton];constructor
  ·rintro (q | q)
   ·rcases tie _ _ q (.inl rfl) with ⟨_,r⟩ | ⟨r1,r2⟩
    ·exact r
    ·exact absurd r2 hxp
   ·rcases tie _ _ q (.inr rfl) with ⟨r1,r2⟩ | ⟨_,r⟩
    ·exact absurd r2 hxp
    ·exact r
  ·rintro rfl
   have hm:mm x (s.par x)∈us:=pm.mem_iff.mpr (by
    unfold parT
    exact List.mem_map.mpr ⟨x,List.mem_filter.mpr ⟨mem_rInts.mpr ⟨x0,by omega⟩,by simp[hxg]⟩,rfl⟩)
   rcases mm_cases hxp with ⟨_,q⟩ | ⟨_,q⟩
   ·rw[q] at hm;exact .inr hm
   ·rw[q] at hm;exact .inl hm
 rw[e];rfl
end
def TbOf (n:Int)(ts:List (Int×Int))(bs:List Int)(us:List (Int×Int)):Prop:=∃ k,(tbRun ts bs (bs.headD 0) k).ws=[]∧us.Perm (parT (bs.headD 0) (tbRun ts bs (bs.headD 0) k).par n.toNat)
def sp_treeof2:Sp:=fun vs H Q _=>∃ (p:Addr) (n g:Int) (par:Int→Int),vs=[.ref p]∧H p=some (.tup (pV n g par))∧0≤n∧n≤60 ∧
 ∀ (l:Addr) (us:List (Int×Int)) (H':Hp),Same H H'→H l=none→TsAt H' l us→us.Perm (parT g par n.toNat)→(us.Pairwise fun x y=>HT.lexLt (tl y) (tl x)=false)→Q (.ref l) H'
def sp_treeby (K:PySem.W.Frag):Sp:=fun vs H Q _=>∃ (w:Addr) (n:Int) (ts:List (Int×Int)) (pb:Addr) (bs:List Int),vs=[.ref w,.ref pb]∧WebAt H w n ts∧IsWeb n ts∧SqT K H pb (bs.map V.int)∧Busy n ts bs∧(∀ x∈bs,0≤x∧x<n)∧bs.length≤60 ∧
 ∀ (l:Addr) (us:List (Int×Int)) (H':Hp),Same H H'→H l=none→TsAt H' l us→IsTree n ts us→(∀ x,0≤x→x<n→x∉bs→(nb us x).length=1)→TbOf n ts bs us→Q (.ref l) H'
end L2
end
section
namespace L2
open PySem
section
variable {n:Int}{ts gs us:List (Int×Int)}{ins:List Int}
theorem dg_add {a b:Int}(hab:a≠b)(v:Int):(nb (gs++[mm a b]) v).length=(nb gs v).length+if v=a∨v=b then 1 else 0:=by
 rw[nb_snoc,List.length_append];congr 1;rcases mm_cases hab with ⟨_,e⟩ | ⟨_,e⟩
 ·rw[e];dsimp only;by_cases h1:b=v
  ·rw[if_pos h1,if_pos (.inr h1.symm)];rfl
  ·rw[if_neg h1];by_cases h2:a=v
   ·rw[if_pos h2,if_pos (.inl h2.symm)];rfl
   ·rw[if_neg h2,if_neg (fun h=>h.elim (fun z=>h2 z.symm) fun z=>h1 z.symm)];rfl
 ·rw[e];dsimp only;by_cases h1:a=v
  ·rw[if_pos h1,if_pos (.inl h1.symm)];rfl
  ·rw[if_neg h1];by_cases h2:b=v
   ·rw[if_pos h2,if_pos (.inr h2.symm)];rfl
   ·rw[if_neg h2,if_neg (fun h=>h.elim (fun z=>h1 z.symm) fun z=>h2 z.symm)];rfl
theorem dg_out (G:Grow ts ins gs){b:Int}(hb:b∉ins):(nb gs b).length=0:=by
 rw[List.length_eq_zero_iff];refine List.eq_nil_iff_forall_not_mem.mpr fun y hy=>?_
 rcases mem_nb.mp hy with q | ⟨q,_⟩
 ·exact hb (G.ends _ q).1
 ·exact hb (G.ends _ q).2
theorem dg_pos (G:Grow ts ins gs):2≤ins.length→∀ v∈ins,1≤(nb gs v).length:=by
 induction G with
 | one s=>intro h;simp at h
 | @add ins us a b h ha hb hn ih =>
  intro _ v hv;have hab:a≠b:=fun e=>hb (e ▸ ha)
  rw[dg_add hab];rcases List.mem_append.mp hv with hv | hv
  ·by_cases hl:2≤ins.length
   ·have:=ih hl v hv;omega
   ·have h1:ins.length=1:=by have:=h.len;omega
    obtain⟨x,rfl⟩:=List.length_eq_one_iff.mp h1;rw[List.mem_singleton.mp hv,List.mem_singleton.mp ha,if_pos (.inl rfl)];omega
  ·rw[List.mem_singleton.mp hv,if_pos (.inr rfl)];omega
theorem grow_busy (hok:TsOk n ts)(G:Grow ts ins gs):3≤ins.length→(∃ u,(u∈ins∧2≤(nb gs u).length)∧∀ x,x∈ins→2≤(nb gs x).length→Rch ts (fun z=>z∈ins∧2≤(nb gs z).length) u x) ∧
  ∀ x∈ins,(nb gs x).length<2→∃ y∈nb ts x,y∈ins∧2≤(nb gs y).length:=by
 induction G with
 | one s=>intro h;simp at h
 | @add ins us a b h ha hb hn ih =>
  intro hl;rw[List.length_append,List.length_singleton] at hl;have hab:a≠b:=fun e=>hb (e ▸ ha)
  have hpos:=dg_pos h (by omega);have dgb:=dg_out h hb;have ea:2≤(nb (us++[mm a b]) a).length:=by rw[dg_add hab,if_pos (.inl rfl)];have:=hpos a ha;omega
  have eb:(nb (us++[mm a b]) b).length<2:=by rw[dg_add hab,if_pos (.inr rfl)];omega
  have hba:a∈nb ts b:=(nb_sym hok).mp hn;have ha':a∈ins++[b]:=List.mem_append_left _ ha;by_cases h3:3≤ins.length
  ·obtain⟨⟨u,⟨hu1,hu2⟩,hur⟩,hlf⟩:=ih h3;have mono:∀ z,z∈ins∧2≤(nb us z).length→z∈ins++[b]∧2≤(nb (us++[mm a b]) z).length:=fun z hz=>⟨List.mem_append_left _ hz.1,by rw[dg_add hab];omega⟩
   refine⟨⟨u,mono u ⟨hu1,hu2⟩,fun x hx hx2=>?_⟩,fun x hx hx2=>?_⟩
   ·rcases List.mem_append.mp hx with hx | hx
    ·by_cases hd:2≤(nb us x).length
     ·exact (hur x hx hd).mono' mono
     ·have hxa:x=a:=by
       rw[dg_add hab] at hx2;split at hx2
       ·rename_i q;rcases q with q | q
        ·exact q
        ·rw[q] at hx;exact absurd hx hb
       ·omega
      subst hxa;obtain⟨c,hc,hci,hcd⟩:=hlf x hx (by omega);exact .step ((hur c hci hcd).mono' mono) ((nb_sym hok).mp hc) ⟨ha',ea⟩
    ·rw[List.mem_singleton.mp hx] at hx2;omega
   ·rcases List.mem_append.mp hx with hx | hx
    ·have hd:(nb us x).length<2:=by rw[dg_add hab] at hx2;omega
     obtain⟨c,hc,hci,hcd⟩:=hlf x hx hd;exact⟨c,hc,mono c ⟨hci,hcd⟩⟩
    ·rw[List.mem_singleton.mp hx];exact⟨a,hba,ha',ea⟩
  ·have h2:ins.length=2:=by omega
   cases h with
   | one s=>simp at h2
   | @add ins us c d h' hc hd hcd =>
    rw[List.length_append,List.length_singleton] at h2;cases h' with
    | @add _ _ _ _ h'' _ _ _=>have:=h''.len;rw[List.length_append,List.length_singleton] at h2;omega
    | one s =>
     have ecs:=List.mem_singleton.mp hc;subst ecs;have hcd':c≠d:=fun e=>hd (e ▸ hc)
     have hmem:∀ z,z∈[c]++[d]↔z=c∨z=d:=fun z=>by simp
     have e0:∀ z,(nb ([]++[mm c d]++[mm a b]) z).length=(if z=c∨z=d then 1 else 0)+if z=a∨z=b then 1 else 0:=fun z=>by
      rw[dg_add hab,dg_add hcd',show (nb ([]:List (Int×Int)) z).length=0 from rfl,Nat.zero_add]
     refine⟨⟨a,⟨ha',ea⟩,fun x hx hx2=>?_⟩,fun x hx hx2=>?_⟩
     ·have:x=a:=by
       rw[e0] at hx2;have hxb:x≠b:=fun e=>by rw[e] at hx2;rw[if_neg (c:=b=c∨b=d) (fun q=>hb ((hmem b).mpr q))] at hx2;split at hx2<;>omega
       by_cases q:x=a
       ·exact q
       ·rw[if_neg (c:=x=a∨x=b) (fun k=>k.elim q hxb)] at hx2;split at hx2<;>omega
      rw[this];exact .base
     ·refine⟨a,?_,ha',ea⟩;rcases List.mem_append.mp hx with hx | hx
      ·have hxa:x≠a:=fun e=>by rw[e] at hx2;omega
       rcases (hmem x).mp hx with rfl | rfl
       ·rcases (hmem a).mp ha with q | q
        ·exact absurd q.symm hxa
        ·rw[q];exact hcd
       ·rcases (hmem a).mp ha with q | q
        ·rw[q];exact (nb_sym hok).mp hcd
        ·exact absurd q.symm hxa
      ·rw[List.mem_singleton.mp hx];exact hba
theorem IsTree.busy (T:IsTree n ts us)(hok:TsOk n ts)(h3:3≤n){L:List Int}(hL:∀ x,x∈L↔(0≤x∧x<n)∧1<(nb us x).length):Busy n ts L:=by
 obtain⟨ins,gs,G,p,hl,hr⟩:=T.grown;have hall:∀ v,0≤v→v<n→v∈ins:=fun v h0 h1=>by
  apply Classical.byContradiction;intro hv;have:=nd_len (n:=n) (List.nodup_cons.mpr ⟨hv,G.nd⟩) fun x hx=>by
   rcases List.mem_cons.mp hx with rfl | hx
   ·exact⟨h0,h1⟩
   ·exact hr x hx
  rw[List.length_cons] at this;omega
 have hd:∀ v,(nb us v).length=(nb gs v).length:=fun v=>by unfold nb;exact (p.filterMap _).length_eq
 have hm:∀ z,z∈ins∧2≤(nb gs z).length→z∈L:=fun z hz=>(hL z).mpr ⟨hr z hz.1,by rw[hd];omega⟩
 obtain⟨⟨u,hu,hur⟩,hlf⟩:=grow_busy hok G (by omega);refine⟨hng_of hok (hm u hu) fun y hy=>?_,fun x x0 x1 hx=>?_⟩
 ·obtain⟨hy1,hy2⟩:=(hL y).mp hy;rw[hd] at hy2;exact (hur y (hall y hy1.1 hy1.2) (by omega)).mono' hm
 ·have hlt:(nb gs x).length<2:=by
   apply Classical.byContradiction;intro h;exact hx ((hL x).mpr ⟨⟨x0,x1⟩,by rw[hd];omega⟩)
  obtain⟨y,hy,hy2⟩:=hlf x (hall x x0 x1) hlt;exact⟨y,hy,hm y hy2⟩
theorem Busy.more {us vs:List Int}(hok:TsOk n ts)(h:Busy n ts us)(hs:∀ x∈us,x∈vs)(hr:∀ x∈vs,0≤x∧x<n):Busy n ts vs:=by
 obtain⟨u,hu⟩:=List.exists_mem_of_ne_nil us h.1.1;refine⟨hng_of hok (hs u hu) fun y hy=>?_,fun x x0 x1 hx=>?_⟩
 ·by_cases hyu:y∈us
  ·exact (h.1.2 u hu y hyu).mono' hs
  ·obtain⟨z,hz,hzu⟩:=h.2 y (hr y hy).1 (hr y hy).2 hyu;exact .step ((h.1.2 u hu z hzu).mono' hs) ((nb_sym hok).mp hz) hy
 ·obtain⟨y,hy,hyu⟩:=h.2 x x0 x1 fun k=>hx (hs x k)
  exact⟨y,hy,hs y hyu⟩
end
end L2
end
section
namespace L2
open PySem
section
variable {n:Int}{ts T T' T'':List (Int×Int)}{put taken:Int×Int}
theorem nb_mono (hok:TsOk n ts)(hs:∀ t∈T,t∈ts){a b:Int}(h:b∈nb T a):b∈nb ts a:=by
 have hT:TsOk n T:=fun t ht=>hok t (hs t ht)
 rw[mem_nb_iff hok];exact ((mem_nb_iff hT).mp h).imp (hs _) (hs _)
theorem Grow.mono {ins:List Int}{gs:List (Int×Int)}(g:Grow T ins gs)(hok:TsOk n ts)(hs:∀ t∈T,t∈ts):Grow ts ins gs:=by
 induction g with
 | one s=>exact .one s
 | add _ ha hb hn ih=>exact .add ih ha hb (nb_mono hok hs hn)
end
end L2
end
section
namespace L2
open PySem
theorem for_enL {K:PySem.W.Frag}{a:Addr}{xs:List V}{g:TG}{tb:TS}{D:Ends}{σ:St}{H:Hp}(Pv:Nat→St→Hp→Prop)(h0:Pv 0 σ H)(hx:∀ i σ H,i≤xs.length→Pv i σ H→SqL K H a xs)
  (hs:∀ i x σ H q,xs[i]?=some x→Pv i σ H→H q=none→g (.ref q) σ (upd H q (.tup [.int i,x])) fun σ2 H2=>tb {D with nx:=Pv (i+1),ct:=Pv (i+1),bk:=D.nx} σ2 H2) (hd:∀ σ H,Pv xs.length σ H→D.nx σ H) :
  ∃ W:Nat→Nat→St→Hp→Prop,(∃ m,W 0 m σ H)∧∀ i m σ H,W i m σ H →
   ((Ite K a).stop i H∧D.nx σ H)∨((Ite K a).go i H∧∃ N:St→Hp→Prop,(∀ σ' H',N σ' H'→∃ m',m'<m∧W (i+1) m' σ' H')∧∀ x H',(Ite K a).yld i H x H'→g x σ H' fun σ2 H2=>tb {D with nx:=N,ct:=N,bk:=D.nx} σ2 H2):=by
 refine⟨fun i m σ H=>m=xs.length-i∧i≤xs.length∧Pv i σ H,⟨_,rfl,Nat.zero_le _,h0⟩,?_⟩;rintro i m σ H ⟨rfl,hi,p⟩;have q1:=hx i σ H hi p;by_cases hlt:i<xs.length
 ·refine .inr ⟨⟨xs,_,q1,List.getElem?_eq_getElem hlt⟩,Pv (i+1),fun σ' H' p'=>⟨_,by omega,rfl,hlt,p'⟩,?_⟩;rintro v H' ⟨q,x,rfl,hn,rfl,y1⟩;exact hs i x σ H q (y1 xs q1) p hn
 ·have e:i=xs.length:=by omega
  subst e;exact .inl ⟨⟨xs,q1,Nat.le_refl _⟩,hd σ H p⟩
section
variable {n:Int}{ts:List (Int×Int)}{us bs:List Int}
theorem lots_pw (vs:List Int)(hv:∀ v∈vs,v∈us):(lots n ts us vs).Pairwise fun l m=>∃ v∈us,m=pcOf n ts us v∧v∉l:=by
 have gen:∀ (vs:List Int) (acc:List (List Int)),(∀ v∈vs,v∈us)→(acc.Pairwise fun l m=>∃ v∈us,m=pcOf n ts us v∧v∉l)→(vs.foldl (lotsStep (pcOf n ts us)) acc).Pairwise fun l m=>∃ v∈us,m=pcOf n ts us v∧v∉l:=by
  intro vs;induction vs with
  | nil=>intro acc _ h;exact h
  | cons v r ih =>
   intro acc hv h;refine ih _ (fun w hw=>hv w (List.mem_cons_of_mem _ hw)) ?_;unfold lotsStep;by_cases hc:(acc.any fun l=>decide (v∈l))=true
   ·rw[if_pos hc];exact h
   ·rw[if_neg hc,List.pairwise_append];refine⟨h,List.pairwise_singleton _ _,fun l hl m hm=>?_⟩;rw[List.mem_singleton.mp hm];exact⟨v,hv v (List.mem_cons_self ..),rfl,fun hvl=>hc ((any_iff _ _).mpr ⟨l,hl,hvl⟩)⟩
 exact gen vs [] hv List.Pairwise.nil
theorem lots_all (hok:TsOk n ts)(hr:∀ x∈us,0≤x∧x<n)(vs:List Int)(hv:∀ v∈vs,v∈us):∀ v∈vs,inAny (lots n ts us vs) v:=by
 have gen:∀ (vs:List Int) (acc:List (List Int)),(∀ v∈vs,v∈us)→(∀ x,inAny acc x→inAny (vs.foldl (lotsStep (pcOf n ts us)) acc) x)∧∀ v∈vs,inAny (vs.foldl (lotsStep (pcOf n ts us)) acc) v:=by
  intro vs;induction vs with
  | nil=>intro acc _;exact⟨fun x h=>h,fun v h=>by cases h⟩
  | cons v r ih =>
   intro acc hv;obtain⟨h1,h2⟩:=ih (lotsStep (pcOf n ts us) acc v) fun w hw=>hv w (List.mem_cons_of_mem _ hw)
   have hvu:=hv v (List.mem_cons_self ..);have key:(∀ x,inAny acc x→inAny (lotsStep (pcOf n ts us) acc v) x)∧inAny (lotsStep (pcOf n ts us) acc v) v:=by
    unfold lotsStep;by_cases hc:(acc.any fun l=>decide (v∈l))=true
    ·rw[if_pos hc];exact⟨fun x h=>h,(any_iff _ _).mp hc⟩
    ·rw[if_neg hc];exact⟨fun x h=>(inAny_snoc _ _).mpr (.inl h),(inAny_snoc _ _).mpr (.inr ((mem_pc hok (hr v hvu).1 (hr v hvu).2).mpr .base))⟩
   refine⟨fun x h=>h1 x (key.1 x h),fun w hw=>?_⟩;rcases List.mem_cons.mp hw with rfl | hw
   ·exact h1 _ key.2
   ·exact h2 w hw
 exact (gen vs [] hv).2
end
end L2
end
section
namespace L2
open PySem PySem.Spec PyProof.Rows
section
variable {H:Hp}{n:Int}
theorem PsAt.inj {ps ps':List (Addr×List Int)}{us us':List (Int×Int)}(h:PsAt H ps us)(h':PsAt H ps' us')(e:ps.map (fun x=>V.ref x.1)=ps'.map fun x=>V.ref x.1):us=us':=by
 have hl:us.length=us'.length:=by
  have:=congrArg List.length e;rw[List.length_map,List.length_map,h.len,h'.len] at this;exact this
 refine List.ext_getElem? fun i=>?_
 rcases Nat.lt_or_ge i us.length with hi | hi
 ·obtain⟨v,h1⟩:∃ v,(ps.map fun x=>V.ref x.1)[i]?=some v:=⟨_,List.getElem?_eq_getElem (by rw[List.length_map,h.len];exact hi)⟩
  obtain⟨b,t,e1,e2,e3⟩:=h.get h1;rw[e] at h1;obtain⟨b',t',e1',e2',e3'⟩:=h'.get h1;rw[e1] at e1';cases e1';rw[e3] at e3';injection e3' with e4
  injection e4 with e5
  have e6:=List.cons.inj e5;have e7:=List.cons.inj e6.2;have:t=t':=Prod.ext (V.int.inj e6.1) (V.int.inj e7.1);rw[e2,e2',this]
 ·rw[List.getElem?_eq_none hi,List.getElem?_eq_none (by omega)]
theorem TsAt.inj {a:Addr}{us us':List (Int×Int)}(h:TsAt H a us)(h':TsAt H a us'):us=us':=by
 obtain⟨ps,e,hp⟩:=h;obtain⟨ps',e',hp'⟩:=h';rw[e] at e';injection e' with e2
 injection e2 with e3
 exact hp.inj hp' e3
end
end L2
end
section
namespace L2
theorem tV0 {v:V}{σ:St}{H:Hp}{Q:VK}:tVar 0 (some v::σ) H Q=Q v H:=propext ⟨fun ⟨_,e,q⟩=>by cases e;exact q,fun q=>⟨_,rfl,q⟩⟩
theorem gN0 {v:V}{σ:St}{H:Hp}{Q:St→Hp→Prop}{b:Option V}:gName 0 v (b::σ) H Q=Q (some v::σ) H:=rfl
theorem tV1 {v:V}{σ:St}{H:Hp}{Q:VK}{a0:Option V}:tVar 1 (a0::some v::σ) H Q=Q v H:=propext ⟨fun ⟨_,e,q⟩=>by cases e;exact q,fun q=>⟨_,rfl,q⟩⟩
theorem gN1 {v:V}{σ:St}{H:Hp}{Q:St→Hp→Prop}{b:Option V}{a0:Option V}:gName 1 v (a0::b::σ) H Q=Q (a0::some v::σ) H:=rfl
theorem tV2 {v:V}{σ:St}{H:Hp}{Q:VK}{a0 a1:Option V}:tVar 2 (a0::a1::some v::σ) H Q=Q v H:=propext ⟨fun ⟨_,e,q⟩=>by cases e;exact q,fun q=>⟨_,rfl,q⟩⟩
theorem gN2 {v:V}{σ:St}{H:Hp}{Q:St→Hp→Prop}{b:Option V}{a0 a1:Option V}:gName 2 v (a0::a1::b::σ) H Q=Q (a0::a1::some v::σ) H:=rfl
theorem tV3 {v:V}{σ:St}{H:Hp}{Q:VK}{a0 a1 a2:Option V}:tVar 3 (a0::a1::a2::some v::σ) H Q=Q v H:=propext ⟨fun ⟨_,e,q⟩=>by cases e;exact q,fun q=>⟨_,rfl,q⟩⟩
theorem gN3 {v:V}{σ:St}{H:Hp}{Q:St→Hp→Prop}{b:Option V}{a0 a1 a2:Option V}:gName 3 v (a0::a1::a2::b::σ) H Q=Q (a0::a1::a2::some v::σ) H:=rfl
theorem tV4 {v:V}{σ:St}{H:Hp}{Q:VK}{a0 a1 a2 a3:Option V}:tVar 4 (a0::a1::a2::a3::some v::σ) H Q=Q v H:=propext ⟨fun ⟨_,e,q⟩=>by cases e;exact q,fun q=>⟨_,rfl,q⟩⟩
theorem gN4 {v:V}{σ:St}{H:Hp}{Q:St→Hp→Prop}{b:Option V}{a0 a1 a2 a3:Option V}:gName 4 v (a0::a1::a2::a3::b::σ) H Q=Q (a0::a1::a2::a3::some v::σ) H:=rfl
theorem tV5 {v:V}{σ:St}{H:Hp}{Q:VK}{a0 a1 a2 a3 a4:Option V}:tVar 5 (a0::a1::a2::a3::a4::some v::σ) H Q=Q v H:=propext ⟨fun ⟨_,e,q⟩=>by cases e;exact q,fun q=>⟨_,rfl,q⟩⟩
theorem gN5 {v:V}{σ:St}{H:Hp}{Q:St→Hp→Prop}{b:Option V}{a0 a1 a2 a3 a4:Option V}:gName 5 v (a0::a1::a2::a3::a4::b::σ) H Q=Q (a0::a1::a2::a3::a4::some v::σ) H:=rfl
theorem tV6 {v:V}{σ:St}{H:Hp}{Q:VK}{a0 a1 a2 a3 a4 a5:Option V}:tVar 6 (a0::a1::a2::a3::a4::a5::some v::σ) H Q=Q v H:=propext ⟨fun ⟨_,e,q⟩=>by cases e;exact q,fun q=>⟨_,rfl,q⟩⟩
theorem gN6 {v:V}{σ:St}{H:Hp}{Q:St→Hp→Prop}{b:Option V}{a0 a1 a2 a3 a4 a5:Option V}:gName 6 v (a0::a1::a2::a3::a4::a5::b::σ) H Q=Q (a0::a1::a2::a3::a4::a5::some v::σ) H:=rfl
theorem tV7 {v:V}{σ:St}{H:Hp}{Q:VK}{a0 a1 a2 a3 a4 a5 a6:Option V}:tVar 7 (a0::a1::a2::a3::a4::a5::a6::some v::σ) H Q=Q v H:=propext ⟨fun ⟨_,e,q⟩=>by cases e;exact q,fun q=>⟨_,rfl,q⟩⟩
theorem gN7 {v:V}{σ:St}{H:Hp}{Q:St→Hp→Prop}{b:Option V}{a0 a1 a2 a3 a4 a5 a6:Option V}:gName 7 v (a0::a1::a2::a3::a4::a5::a6::b::σ) H Q=Q (a0::a1::a2::a3::a4::a5::a6::some v::σ) H:=rfl
theorem tV8 {v:V}{σ:St}{H:Hp}{Q:VK}{a0 a1 a2 a3 a4 a5 a6 a7:Option V}:tVar 8 (a0::a1::a2::a3::a4::a5::a6::a7::some v::σ) H Q=Q v H:=propext ⟨fun ⟨_,e,q⟩=>by cases e;exact q,fun q=>⟨_,rfl,q⟩⟩
theorem gN8 {v:V}{σ:St}{H:Hp}{Q:St→Hp→Prop}{b:Option V}{a0 a1 a2 a3 a4 a5 a6 a7:Option V}:gName 8 v (a0::a1::a2::a3::a4::a5::a6::a7::b::σ) H Q=Q (a0::a1::a2::a3::a4::a5::a6::a7::some v::σ) H:=rfl
theorem tV9 {v:V}{σ:St}{H:Hp}{Q:VK}{a0 a1 a2 a3 a4 a5 a6 a7 a8:Option V}:tVar 9 (a0::a1::a2::a3::a4::a5::a6::a7::a8::some v::σ) H Q=Q v H:=propext ⟨fun ⟨_,e,q⟩=>by cases e;exact q,fun q=>⟨_,rfl,q⟩⟩
theorem gN9 {v:V}{σ:St}{H:Hp}{Q:St→Hp→Prop}{b:Option V}{a0 a1 a2 a3 a4 a5 a6 a7 a8:Option V}:gName 9 v (a0::a1::a2::a3::a4::a5::a6::a7::a8::b::σ) H Q=Q (a0::a1::a2::a3::a4::a5::a6::a7::a8::some v::σ) H:=rfl
theorem tV10 {v:V}{σ:St}{H:Hp}{Q:VK}{a0 a1 a2 a3 a4 a5 a6 a7 a8 a9:Option V}:tVar 10 (a0::a1::a2::a3::a4::a5::a6::a7::a8::a9::some v::σ) H Q=Q v H:=propext ⟨fun ⟨_,e,q⟩=>by cases e;exact q,fun q=>⟨_,rfl,q⟩⟩
theorem gN10 {v:V}{σ:St}{H:Hp}{Q:St→Hp→Prop}{b:Option V}{a0 a1 a2 a3 a4 a5 a6 a7 a8 a9:Option V}:gName 10 v (a0::a1::a2::a3::a4::a5::a6::a7::a8::a9::b::σ) H Q=Q (a0::a1::a2::a3::a4::a5::a6::a7::a8::a9::some v::σ) H:=rfl
theorem tV11 {v:V}{σ:St}{H:Hp}{Q:VK}{a0 a1 a2 a3 a4 a5 a6 a7 a8 a9 a10:Option V}:tVar 11 (a0::a1::a2::a3::a4::a5::a6::a7::a8::a9::a10::some v::σ) H Q=Q v H:=propext ⟨fun ⟨_,e,q⟩=>by cases e;exact q,fun q=>⟨_,rfl,q⟩⟩
theorem gN11 {v:V}{σ:St}{H:Hp}{Q:St→Hp→Prop}{b:Option V}{a0 a1 a2 a3 a4 a5 a6 a7 a8 a9 a10:Option V}:gName 11 v (a0::a1::a2::a3::a4::a5::a6::a7::a8::a9::a10::b::σ) H Q=Q (a0::a1::a2::a3::a4::a5::a6::a7::a8::a9::a10::some v::σ) H:=rfl
theorem tV12 {v:V}{σ:St}{H:Hp}{Q:VK}{a0 a1 a2 a3 a4 a5 a6 a7 a8 a9 a10 a11:Option V}:tVar 12 (a0::a1::a2::a3::a4::a5::a6::a7::a8::a9::a10::a11::some v::σ) H Q=Q v H:=propext ⟨fun ⟨_,e,q⟩=>by cases e;exact q,fun q=>⟨_,rfl,q⟩⟩
theorem gN12 {v:V}{σ:St}{H:Hp}{Q:St→Hp→Prop}{b:Option V}{a0 a1 a2 a3 a4 a5 a6 a7 a8 a9 a10 a11:Option V}:gName 12 v (a0::a1::a2::a3::a4::a5::a6::a7::a8::a9::a10::a11::b::σ) H Q=Q (a0::a1::a2::a3::a4::a5::a6::a7::a8::a9::a10::a11::some v::σ) H:=rfl
theorem tV13 {v:V}{σ:St}{H:Hp}{Q:VK}{a0 a1 a2 a3 a4 a5 a6 a7 a8 a9 a10 a11 a12:Option V}:tVar 13 (a0::a1::a2::a3::a4::a5::a6::a7::a8::a9::a10::a11::a12::some v::σ) H Q=Q v H:=propext ⟨fun ⟨_,e,q⟩=>by cases e;exact q,fun q=>⟨_,rfl,q⟩⟩
theorem gN13 {v:V}{σ:St}{H:Hp}{Q:St→Hp→Prop}{b:Option V}{a0 a1 a2 a3 a4 a5 a6 a7 a8 a9 a10 a11 a12:Option V}:gName 13 v (a0::a1::a2::a3::a4::a5::a6::a7::a8::a9::a10::a11::a12::b::σ) H Q=Q (a0::a1::a2::a3::a4::a5::a6::a7::a8::a9::a10::a11::a12::some v::σ) H:=rfl
theorem tV14 {v:V}{σ:St}{H:Hp}{Q:VK}{a0 a1 a2 a3 a4 a5 a6 a7 a8 a9 a10 a11 a12 a13:Option V}:tVar 14 (a0::a1::a2::a3::a4::a5::a6::a7::a8::a9::a10::a11::a12::a13::some v::σ) H Q=Q v H:=propext ⟨fun ⟨_,e,q⟩=>by cases e;exact q,fun q=>⟨_,rfl,q⟩⟩
theorem gN14 {v:V}{σ:St}{H:Hp}{Q:St→Hp→Prop}{b:Option V}{a0 a1 a2 a3 a4 a5 a6 a7 a8 a9 a10 a11 a12 a13:Option V}:gName 14 v (a0::a1::a2::a3::a4::a5::a6::a7::a8::a9::a10::a11::a12::a13::b::σ) H Q=Q (a0::a1::a2::a3::a4::a5::a6::a7::a8::a9::a10::a11::a12::a13::some v::σ) H:=rfl
theorem tV15 {v:V}{σ:St}{H:Hp}{Q:VK}{a0 a1 a2 a3 a4 a5 a6 a7 a8 a9 a10 a11 a12 a13 a14:Option V}:tVar 15 (a0::a1::a2::a3::a4::a5::a6::a7::a8::a9::a10::a11::a12::a13::a14::some v::σ) H Q=Q v H:=propext ⟨fun ⟨_,e,q⟩=>by cases e;exact q,fun q=>⟨_,rfl,q⟩⟩
theorem gN15 {v:V}{σ:St}{H:Hp}{Q:St→Hp→Prop}{b:Option V}{a0 a1 a2 a3 a4 a5 a6 a7 a8 a9 a10 a11 a12 a13 a14:Option V}:gName 15 v (a0::a1::a2::a3::a4::a5::a6::a7::a8::a9::a10::a11::a12::a13::a14::b::σ) H Q=Q (a0::a1::a2::a3::a4::a5::a6::a7::a8::a9::a10::a11::a12::a13::a14::some v::σ) H:=rfl
theorem rI0i {g:Int→Int→V}{i j:Int}{H:Hp}{Q:VK}:rI0 g (.int i) (.int j) H Q=Q (g i j) H:=propext ⟨fun ⟨_,_,e,e',q⟩=>by cases e;cases e';exact q,fun q=>⟨_,_,rfl,rfl,q⟩⟩
theorem rIi {C:Int→Int→Prop}{g:Int→Int→V}{i j:Int}{H:Hp}{Q:VK}:rI C g (.int i) (.int j) H Q=(C i j∧Q (g i j) H):=propext ⟨fun ⟨_,_,e,e',q⟩=>by cases e;cases e';exact q,fun q=>⟨_,_,rfl,rfl,q⟩⟩
theorem rIxLr {K:PySem.W.Frag}{p:PySem.Addr}{i:Int}{H:Hp}{Q:VK}:rIxL K (.ref p) (.int i) H Q=∃ xs,SqL K H p xs∧∃ v,atI xs i=some v∧Q v H:=propext ⟨fun ⟨_,_,_,_,e,e',a,b,q⟩=>by cases e;cases e';exact⟨_,a,_,b,q⟩,fun ⟨_,a,_,b,q⟩=>⟨_,_,_,_,rfl,rfl,a,b,q⟩⟩
theorem rIxTr {K:PySem.W.Frag}{p:PySem.Addr}{i:Int}{H:Hp}{Q:VK}:rIxT K (.ref p) (.int i) H Q=∃ xs,SqT K H p xs∧∃ v,atI xs i=some v∧Q v H:=propext ⟨fun ⟨_,_,_,_,e,e',a,b,q⟩=>by cases e;cases e';exact⟨_,a,_,b,q⟩,fun ⟨_,a,_,b,q⟩=>⟨_,_,_,_,rfl,rfl,a,b,q⟩⟩
theorem exB {b:Bool}{P:Bool→Prop}:(∃ k,V.bl b=V.bl k∧P k)=P b:=propext ⟨fun ⟨_,e,q⟩=>by cases e;exact q,fun q=>⟨_,rfl,q⟩⟩
theorem exI {b:Int}{P:Int→Prop}:(∃ k,V.int b=V.int k∧P k)=P b:=propext ⟨fun ⟨_,e,q⟩=>by cases e;exact q,fun q=>⟨_,rfl,q⟩⟩
theorem exR {b:PySem.Addr}{P:PySem.Addr→Prop}:(∃ k,V.ref b=V.ref k∧P k)=P b:=propext ⟨fun ⟨_,e,q⟩=>by cases e;exact q,fun q=>⟨_,rfl,q⟩⟩
theorem rEqI {i j:Int}{H:Hp}{Q:VK}:rEq (.int i) (.int j) H Q=Q (.bl (decide (i=j))) H:=by
 unfold rEq;have e:decide (V.int i=V.int j)=decide (i=j):=by simp
 rw[e];simp[scal]
theorem rNeI {i j:Int}{H:Hp}{Q:VK}:rNe (.int i) (.int j) H Q=Q (.bl (!decide (i=j))) H:=by
 unfold rNe;have e:decide (V.int i=V.int j)=decide (i=j):=by simp
 rw[e];simp[scal]
theorem cLenR {K:PySem.W.Frag}{p:PySem.Addr}{H:Hp}{Q:VK}:cLen K [.ref p] H Q=∃ ys,(SqL K H p ys∨SqT K H p ys)∧Q (.int ys.length) H:=propext ⟨fun ⟨_,ys,e,a,q⟩=>by cases e;exact⟨ys,a,q⟩,fun ⟨ys,a,q⟩=>⟨_,ys,rfl,a,q⟩⟩
theorem al0 {α:Type}{P:List α→Prop}(h:P [])(us:List α)(hl:us.length=0):P us:=by cases us with
 | nil=>exact h
 | cons a r=>cases hl
theorem al1 {α:Type}{P:List α→Prop}(h:∀ a0,P [a0])(us:List α)(hl:us.length=1):P us:=by cases us with
 | nil=>cases hl
 | cons a r=>exact al0 (P:=fun r=>P (a::r)) (h a) r (Nat.succ.inj hl)
theorem al2 {α:Type}{P:List α→Prop}(h:∀ a0 a1,P [a0,a1])(us:List α)(hl:us.length=2):P us:=by cases us with
 | nil=>cases hl
 | cons a r=>exact al1 (P:=fun r=>P (a::r)) (h a) r (Nat.succ.inj hl)
theorem al3 {α:Type}{P:List α→Prop}(h:∀ a0 a1 a2,P [a0,a1,a2])(us:List α)(hl:us.length=3):P us:=by cases us with
 | nil=>cases hl
 | cons a r=>exact al2 (P:=fun r=>P (a::r)) (h a) r (Nat.succ.inj hl)
theorem al4 {α:Type}{P:List α→Prop}(h:∀ a0 a1 a2 a3,P [a0,a1,a2,a3])(us:List α)(hl:us.length=4):P us:=by cases us with
 | nil=>cases hl
 | cons a r=>exact al3 (P:=fun r=>P (a::r)) (h a) r (Nat.succ.inj hl)
theorem al5 {α:Type}{P:List α→Prop}(h:∀ a0 a1 a2 a3 a4,P [a0,a1,a2,a3,a4])(us:List α)(hl:us.length=5):P us:=by cases us with
 | nil=>cases hl
 | cons a r=>exact al4 (P:=fun r=>P (a::r)) (h a) r (Nat.succ.inj hl)
end L2
end
section
namespace L2
open PySem
theorem tSeqA {t u:TS}{D:Ends}{σ:St}{H:Hp}:tSeq t u D σ H=(t {D with nx:=u D} σ H):=rfl
theorem tAsgA {te:TE}{g:TG}{D:Ends}{σ:St}{H:Hp}:tAsg te g D σ H=(te σ H fun x H1=>g x σ H1 D.nx):=rfl
theorem tOpA {r:R2}{ta tb:TE}{σ:St}{H:Hp}{Q:VK}:tOp r ta tb σ H Q=(ta σ H fun x H1=>tb σ H1 fun y H2=>r x y H2 Q):=rfl
theorem tCA {v:V}{u0:St}{H:Hp}{Q:VK}:tC v u0 H Q=(Q v H):=rfl
theorem tRetA {te:TE}{D:Ends}{σ:St}{H:Hp}:tRet te D σ H=(te σ H D.rt):=rfl
theorem tRetNA  {D:Ends}{u0:St}{H:Hp}:tRetN D u0 H=(D.rt .non H):=rfl
theorem tIfSA {c:TT}{t u:TS}{D:Ends}{σ:St}{H:Hp}:tIfS c t u D σ H=(c σ H fun b H1=>if b=true then t D σ H1 else u D σ H1):=rfl
theorem tTestA {t:TE}{σ:St}{H:Hp}{Q:Bool→Hp→Prop}:tTest t σ H Q=(t σ H fun x H'=>∃ k,x=.bl k∧Q k H'):=rfl
theorem tBA {t:TE}{σ:St}{H:Hp}{Q:Bool→Hp→Prop}:tB t σ H Q=(t σ H fun x H1=>∃ c,x=.bl c∧Q c H1):=rfl
theorem tNextA  {D:Ends}{σ:St}{H:Hp}:tNext D σ H=(D.nx σ H):=rfl
theorem tDropA {te:TE}{D:Ends}{σ:St}{H:Hp}:tDrop te D σ H=(te σ H fun _ H1=>D.nx σ H1):=rfl
theorem tCallA {sp:Sp}{dvs:List V}{E:XK}{t:TA}{σ:St}{H:Hp}{Q:VK}:tCall sp dvs E t σ H Q=(t σ H fun vs H1=>sp (vs++dvs) H1 Q E):=rfl
theorem tConsA {ta:TE}{tr:TA}{σ:St}{H:Hp}{Q:List V→Hp→Prop}:tCons ta tr σ H Q=(ta σ H fun x H1=>tr σ H1 fun xs H2=>Q (x::xs) H2):=rfl
theorem tNilA  {u0:St}{H:Hp}{Q:List V→Hp→Prop}:tNil u0 H Q=(Q [] H):=rfl
theorem tCBA {r:List V→Hp→VK→Prop}{t:TA}{σ:St}{H:Hp}{Q:VK}:tCB r t σ H Q=(t σ H fun vs H1=>r vs H1 Q):=rfl
theorem tBMA {K:PySem.W.Frag}{T:String}{r:V→List V→Hp→VK→Prop}{to:TE}{t:TA}{σ:St}{H:Hp}{Q:VK}:tBM K T r to t σ H Q=(to σ H fun x H1=>tyV K T x H1∧t σ H1 fun xs H2=>r x xs H2 Q):=rfl
theorem tBM0A {K:PySem.W.Frag}{T:String}{r:V→List V→Hp→VK→Prop}{to:TE}{σ:St}{H:Hp}{Q:VK}:tBM0 K T r to σ H Q=(to σ H fun x H1=>tyV K T x H1∧r x [] H1 Q):=rfl
theorem tTupA {t:TA}{σ:St}{H:Hp}{Q:VK}:tTup t σ H Q=(t σ H fun xs H1=>xs.length≤sizeLine∧∀ p,H1 p=none→Q (.ref p) (upd H1 p (.tup xs))):=rfl
theorem tLstA {t:TA}{σ:St}{H:Hp}{Q:VK}:tLst t σ H Q=(t σ H fun xs H1=>xs.length≤sizeLine∧∀ p,H1 p=none→Q (.ref p) (upd H1 p (.lst xs))):=rfl
theorem gTupA {K:PySem.W.Frag}{n:Nat}{t:TGs}{v:V}{σ:St}{H:Hp}{Q:St→Hp→Prop}:gTup K n t v σ H Q=(∃ a xs,v=.ref a∧SqT K H a xs∧xs.length=n∧t xs σ H Q):=rfl
theorem gConsA {t:TG}{u:TGs}{vs:List V}{σ:St}{H:Hp}{Q:St→Hp→Prop}:gCons t u vs σ H Q=(∃ v r,vs=v::r∧t v σ H fun σ' H'=>u r σ' H' Q):=rfl
theorem gNilA  {vs:List V}{σ:St}{H:Hp}{Q:St→Hp→Prop}:gNil vs σ H Q=(vs=[]∧Q σ H):=rfl
theorem gSubA {to ti:TE}{t:TSet}{v:V}{σ:St}{H:Hp}{Q:St→Hp→Prop}:gSub to ti t v σ H Q=(to σ H fun o H1=>ti σ H1 fun i H2=>t o i v H2 fun H3=>Q σ H3):=rfl
theorem tSlA {r:V→Option Int→Option Int→Hp→VK→Prop}{te:TE}{tl th:TO}{σ:St}{H:Hp}{Q:VK}:tSl r te tl th σ H Q=(te σ H fun x H1=>tl σ H1 fun l H2=>th σ H2 fun u H3=>r x l u H3 Q):=rfl
theorem tNoPartA  {u0:St}{H:Hp}{Q:Option Int→Hp→Prop}:tNoPart u0 H Q=(Q none H):=rfl
theorem tPartA {t:TE}{σ:St}{H:Hp}{Q:Option Int→Hp→Prop}:tPart t σ H Q=(t σ H fun x H1=>∃ i,x=.int i∧Q (some i) H1):=rfl
theorem tAndA {t u:TT}{σ:St}{H:Hp}{Q:Bool→Hp→Prop}:tAnd t u σ H Q=(t σ H fun c H1=>if c=true then u σ H1 Q else Q false H1):=rfl
theorem tOrA {t u:TT}{σ:St}{H:Hp}{Q:Bool→Hp→Prop}:tOr t u σ H Q=(t σ H fun c H1=>if c=true then Q true H1 else u σ H1 Q):=rfl
theorem tNotA {t:TT}{σ:St}{H:Hp}{Q:Bool→Hp→Prop}:tNot t σ H Q=(t σ H fun c H1=>Q (!c) H1):=rfl
theorem tDInA {ty td:TE}{σ:St}{H:Hp}{Q:VK}:tDIn ty td σ H Q=(ty σ H fun y H1=>td σ H1 fun x H2=>∃ a o,x=.ref a∧DGet H2 a y o∧Q (.bl o.isSome) H2):=rfl
theorem tDNotInA {ty td:TE}{σ:St}{H:Hp}{Q:VK}:tDNotIn ty td σ H Q=(ty σ H fun y H1=>td σ H1 fun x H2=>∃ a o,x=.ref a∧DGet H2 a y o∧Q (.bl (!o.isSome)) H2):=rfl
theorem sDPutA {td ty tv:TE}{D:Ends}{σ:St}{H:Hp}:sDPut td ty tv D σ H=(tv σ H fun v H1=>td σ H1 fun x H2=>ty σ H2 fun y H3=>∃ a H4,x=.ref a∧DPut H3 a y v H4∧D.nx σ H4):=rfl
theorem iListA {K:PySem.W.Frag}{tl:TE}{σ:St}{H:Hp}{R:It→Hp→Prop}:iList K tl σ H R=(tl σ H fun x H1=>∃ a,x=.ref a∧(∃ xs,SqL K H1 a xs)∧R (Itl K a) H1):=rfl
theorem iTupA {K:PySem.W.Frag}{tl:TE}{σ:St}{H:Hp}{R:It→Hp→Prop}:iTup K tl σ H R=(tl σ H fun x H1=>∃ a,x=.ref a∧(∃ xs,SqT K H1 a xs)∧R (Itt K a) H1):=rfl
theorem iRng1A {ta:TA}{σ:St}{H:Hp}{R:It→Hp→Prop}:iRng1 ta σ H R=(ta σ H fun vs H1=>∃ j:Int,vs=[.int j]∧-(2 ^ 62)≤j∧j<2 ^ 62∧R (Itr 0 j.toNat) H1):=rfl
theorem iRng2A {ta:TA}{σ:St}{H:Hp}{R:It→Hp→Prop}:iRng2 ta σ H R=(ta σ H fun vs H1=>∃ i j:Int,vs=[.int i,.int j]∧(-(2 ^ 62)≤i∧i<2 ^ 62∧-(2 ^ 62)≤j∧j<2 ^ 62)∧R (Itr i (j-i).toNat) H1):=rfl
theorem tChainA {r r':R2}{ta tb tc:TE}{σ:St}{H:Hp}{Q:VK}:tChain r r' ta tb tc σ H Q=(ta σ H fun x H1=>tb σ H1 fun y H2=>r x y H2 fun z H3=>∃ k,z=.bl k∧(if k=true then tc σ H3 fun w' H4=>r' y w' H4 Q else Q (.bl false) H3)):=rfl
theorem tAndVA {ta tb:TE}{σ:St}{H:Hp}{Q:VK}:tAndV ta tb σ H Q=(ta σ H fun x H1=>∃ c,x=.bl c∧if c=true then tb σ H1 Q else Q (.bl false) H1):=rfl
theorem tOrVA {ta tb:TE}{σ:St}{H:Hp}{Q:VK}:tOrV ta tb σ H Q=(ta σ H fun x H1=>∃ c,x=.bl c∧if c=true then Q (.bl true) H1 else tb σ H1 Q):=rfl
theorem tNotVA {ta:TE}{σ:St}{H:Hp}{Q:VK}:tNotV ta σ H Q=(ta σ H fun x H1=>∃ c,x=.bl c∧Q (.bl (!c)) H1):=rfl
theorem tUnA {r:V→Hp→VK→Prop}{ta:TE}{σ:St}{H:Hp}{Q:VK}:tUn r ta σ H Q=(ta σ H fun x H1=>r x H1 Q):=rfl
theorem tYesA  {u0:St}{H:Hp}{Q:Bool→Hp→Prop}:tYes u0 H Q=(Q true H):=rfl
theorem tDNewKA  {u0:St}{H:Hp}{Q:VK}:tDNewK u0 H Q=(∀ p,H p=none→Q (.ref p) (upd H p (.dK []))):=rfl
theorem tDNewTA  {u0:St}{H:Hp}{Q:VK}:tDNewT u0 H Q=(∀ p,H p=none→Q (.ref p) (upd H p (.dT []))):=rfl
theorem tIsNA {ta:TE}{σ:St}{H:Hp}{Q:VK}:tIsN ta σ H Q=(ta σ H fun x H1=>Q (.bl (decide (x=.non))) H1):=rfl
theorem tNotNA {ta:TE}{σ:St}{H:Hp}{Q:VK}:tNotN ta σ H Q=(ta σ H fun x H1=>Q (.bl (!decide (x=.non))) H1):=rfl
theorem tLCA {own:List Str}{fr:List (Str×Nat)}{wi:TI}{g:TG}{tc:TT}{te:TE}{σ:St}{H:Hp}{Q:VK}:tLC own fr wi g tc te σ H Q=wi σ H fun J H1=>∀ p,H1 p=none→lcW g tc te p J (st0 own fr σ) (upd H1 p (.lst [])) fun H2=>Q (.ref p) H2:=rfl
theorem tDCA {t:Bool}{own:List Str}{fr:List (Str×Nat)}{wi:TI}{g:TG}{tc:TT}{te tv:TE}{σ:St}{H:Hp}{Q:VK}:tDC t own fr wi g tc te tv σ H Q=wi σ H fun J H1=>∀ p,H1 p=none→dcW g tc te tv p J (st0 own fr σ) (upd H1 p (dNew t)) fun H2=>Q (.ref p) H2:=rfl
end L2
end
section
namespace L2
open PySem PySem.Spec PyProof.Rows
section
variable {X:Cx}
def rIsNB:R2:=fun x y H Q=>∃ a b:Bool,x=.bl a∧y=.bl b∧Q (.bl (!(a == b))) H
theorem op_isNB:OpR X (compareOp .IsNot) rIsNB:=by
 intro pins s σ H x y v u Q I rx ry h;obtain⟨a,b,rfl,rfl,q⟩:=h;cases (show v=Value.bool a from rx);cases (show u=Value.bool b from ry);have hp:wpAny (model X.prog X.w) X.A (pure (Value.bool (!(a == b)))) (EP X pins σ Q) X.xe s:=wpAny_pure ⟨.bl (!(a == b)),H,I,rfl,q⟩;cases a<;>cases b<;>exact hp
end
end L2
end
section
namespace L2
open PySem PySem.Spec PyProof.Rows
section
variable {K:PySem.W.Frag}{H:Hp}{a b:Addr}{xs ys:List V}{lo hi:Option Int}{Q:VK}
theorem slL_use (ha:H a=some (.lst xs))(q:∀ p H',H p=none→Same H H'→H' p=some (.lst (cutV xs lo hi))→Q (.ref p) H'):rSlL K (.ref a) lo hi H Q :=
 ⟨a,xs,rfl,SqL.of ha,fun p np=>q p _ np ((Same.refl H).upd np) upd_same⟩
theorem catL_use (ha:H a=some (.lst xs))(hb:H b=some (.lst ys))(hz:xs.length+ys.length≤10000)(q:∀ p H',H p=none→Same H H'→H' p=some (.lst (xs++ys))→Q (.ref p) H'):rCat (.ref a) (.ref b) H Q :=
 ⟨a,b,xs,ys,rfl,rfl,ha,hb,Nat.le_of_lt (sizeBig (by omega)),fun p np=>q p _ np ((Same.refl H).upd np) upd_same⟩
end
end L2
end
section
namespace L2
open PySem PySem.Spec PyProof.Rows
def stOk (w:Str):Prop:=PyData.strOk w=true
inductive W0 (H:Hp):V→Prop
 | non:W0 H .non
 | bl (b:Bool):W0 H (.bl b)
 | int (i:Int):W0 H (.int i)
 | str {w:Str}:stOk w→W0 H (.str w)
 | tup {a:Addr} {w:Str}:H a=some (.tup [.str w])→stOk w→W0 H (.ref a)
 | lst {a:Addr} {w:Str}:H a=some (.lst [.str w])→stOk w→W0 H (.ref a)
theorem W0.same {H H':Hp}{v:V}(s:Same H H')(h:W0 H v):W0 H' v:=by
 cases h with
 | non=>exact .non
 | bl b=>exact .bl b
 | int i=>exact .int i
 | str h=>exact .str h
 | tup e h=>exact .tup (s _ _ e) h
 | lst e h=>exact .lst (s _ _ e) h
theorem sh_str {w:Str}(h:stOk w):SeqAt.shaped (.str w)=true:=by
 unfold SeqAt.shaped;rw[PyData.canLay0,show PyData.strOk w=true from h,PyData.depth];rfl
theorem sh_all {w:Str}(h:stOk w):PyData.canLayAll0 [.str w]=true:=by
 rw[PyData.canLayAll0,PyData.canLay0,show PyData.strOk w=true from h,PyData.canLayAll0];rfl
theorem dp_all {w:Str}:PyData.depthAll [.str w]=0:=by
 rw[PyData.depthAll,PyData.depth,PyData.depthAll];rfl
theorem W0.nd {K:PySem.W.Frag}{H:Hp}{v:V}(h:W0 H v):∃ d,Dt K H v d∧SeqAt.shaped d=true:=by
 cases h with
 | non=>exact⟨_,.non,by unfold SeqAt.shaped;rw[PyData.canLay0,PyData.depth];rfl⟩
 | bl b=>exact⟨_,.bl b,by unfold SeqAt.shaped;rw[PyData.canLay0,PyData.depth];rfl⟩
 | int i=>exact⟨_,.int i,by unfold SeqAt.shaped;rw[PyData.canLay0,PyData.depth];rfl⟩
 | str h=>exact⟨_,.str _,sh_str h⟩
 | tup e h=>exact⟨_,.tup (SqT.of e) (.cons (.str _) .nil),by unfold SeqAt.shaped;rw[PyData.canLay0,sh_all h,PyData.depth,dp_all];rfl⟩
 | lst e h=>exact⟨_,.lst (SqL.of e) (.cons (.str _) .nil),by unfold SeqAt.shaped;rw[PyData.canLay0,sh_all h,PyData.depth,dp_all];rfl⟩
theorem eqv_str {K:PySem.W.Frag}{H:Hp}{v:V}{d:PyData}{w:Str}(h:Dt K H v d):PyData.eqv d (.str w)=decide (v=.str w):=by
 cases h with
 | str x =>
  rw[PyData.eqv];by_cases e:x=w
  ·subst e;simp
  ·rw[decide_eq_false (by simpa using e)];simpa using e
 | _=>first | (rw[PyData.eqv];rfl) | (unfold PyData.eqv;simp)
end L2
end
section
namespace L2
open PySem PySem.Spec PyProof.Rows
inductive W1 (H:Hp):V→Prop
 | w0 {v:V}:W0 H v→W1 H v
 | tps {a:Addr} {l:List Int}:H a=some (.tup (l.map V.int))→W1 H (.ref a)
theorem W1.same {H H':Hp}{v:V}(s:Same H H')(h:W1 H v):W1 H' v:=by
 cases h with
 | w0 h=>exact .w0 (h.same s)
 | tps e=>exact .tps (s _ _ e)
theorem W1.nd {K:PySem.W.Frag}{H:Hp}{v:V}(h:W1 H v):∃ d,Dt K H v d∧SeqAt.shaped d=true:=by
 cases h with
 | w0 h=>exact h.nd
 | @tps a l e=>exact⟨_,.tupI (SqT.of e),shaped_tupI l⟩
theorem eqStr1 {K:PySem.W.Frag}{H:Hp}{v:V}{w:Str}{Q:VK}(h:W1 H v)(sw:stOk w)(q:Q (.bl (decide (v=.str w))) H):rEqD K false v (.str w) H Q:=by
 obtain⟨d,h1,h2⟩:=h.nd (K:=K);refine⟨d,_,h1,.str w,h2,sh_str sw,?_⟩;rw[eqv_str h1];exact q
end L2
end
section
namespace L2
open PySem
def lessOf (bs:List Int)(p:Int):List Int:=bs.filter fun x=>!decide (x∈[p])
theorem mem_less {bs:List Int}{p x:Int}:x∈lessOf bs p↔x∈bs∧x≠p:=by unfold lessOf;rw[List.mem_filter];simp
theorem less_eq {bs:List Int}{p:Int}(h:p∉bs):lessOf bs p=bs:=List.filter_eq_self.mpr fun x hx=>by
 have:x≠p:=fun e=>h (e ▸ hx)
 simp[this]
def alOf (ts:List (Int×Int))(bs:List Int)(x:Int):List Int:=bs.filter fun y=>decide (y∈x::nb ts x)
structure PartOk (ts:List (Int×Int))(bs:List Int)(p:Int)(l:List Int):Prop where
 ne:l≠[]
 up:l.Pairwise (·<·)
 sub:∀ x∈l,x∈bs∧x≠p
 rest:∃ y∈bs,y≠p∧y∉l
 cut:∀ x∈l,∀ y∈nb ts x,y∈bs→y≠p→y∈l
inductive NeedAt (H:Hp)(n:Int)(ts:List (Int×Int))(bs:List Int)(p:Int):V→Prop
 | own {t:Addr} {x:Int}:H t=some (.tup [.str "own",.int x])→0≤x→x<n→alOf ts bs x=[p]→NeedAt H n ts bs p (.ref t)
 | parts {t a:Addr} {l:List Int}:H t=some (.tup [.str "parts",.ref a])→H a=some (.tup (l.map V.int))→PartOk ts bs p l→NeedAt H n ts bs p (.ref t)
theorem NeedAt.tp {H H':Hp}{n:Int}{ts:List (Int×Int)}{bs:List Int}{p:Int}{v:V}(h:NeedAt H n ts bs p v)(k:Tp H H'):NeedAt H' n ts bs p v:=by
 cases h with
 | own a b c d=>exact .own (k _ _ a) b c d
 | parts a b c=>exact .parts (k _ _ a) (k _ _ b) c
section
variable {n:Int}{ts:List (Int×Int)}{bs:List Int}{p:Int}
theorem other_of:∀ {l:List Int},l.Nodup→l≠[]→l≠[p]→∃ z∈l,z≠p
 | [],_,h,_=>absurd rfl h
 | [a],_,_,h=>⟨a,by simp,fun e=>h (by rw[e])⟩
 | a::b::r,hn,_,_=>by
  by_cases ha:a=p
  ·refine⟨b,by simp,fun e=>?_⟩;rw[ha,e] at hn;exact (List.nodup_cons.mp hn).1 (by simp)
  ·exact⟨a,by simp,ha⟩
theorem need_part (hok:TsOk n ts)(hr:∀ x∈bs,0≤x∧x<n)(hnd:bs.Nodup)(hB:Busy n ts bs)(hp:p∈bs)(hL:¬ Busy n ts (lessOf bs p))(hno:∀ x,0≤x→x<n→alOf ts bs x≠[p]) :
  ∃ l0 r,lots n ts (lessOf bs p) (lessOf bs p)=l0::r∧PartOk ts bs p l0:=by
 have st:∀ x,0≤x→x<n→x∉lessOf bs p→∃ y∈nb ts x,y∈lessOf bs p:=fun x x0 x1 hx=>by
  have hne:alOf ts bs x≠[]:=by
   by_cases hxb:x∈bs
   ·intro e;have:x∈alOf ts bs x:=List.mem_filter.mpr ⟨hxb,by simp⟩;rw[e] at this;cases this
   ·obtain⟨y,y1,y2⟩:=hB.2 x x0 x1 hxb;intro e;have:y∈alOf ts bs x:=List.mem_filter.mpr ⟨y2,by simp[y1]⟩;rw[e] at this;cases this
  obtain⟨z,z1,z2⟩:=other_of (hnd.sublist List.filter_sublist) hne (hno x x0 x1);obtain⟨z3,z4⟩:=List.mem_filter.mp z1;have hzL:z∈lessOf bs p:=mem_less.mpr ⟨z3,z2⟩;rcases List.mem_cons.mp (of_decide_eq_true z4) with e | h
  ·exact absurd (e ▸ hzL) hx
  ·exact⟨z,h,hzL⟩
 have hrL:∀ x∈lessOf bs p,0≤x∧x<n:=fun x hx=>hr x (mem_less.mp hx).1
 obtain⟨z,_,hz⟩:=st p (hr p hp).1 (hr p hp).2 fun h=>(mem_less.mp h).2 rfl
 have hall:=lots_all hok hrL (lessOf bs p) fun v h=>h
 have pw:=lots_pw (n:=n) (ts:=ts) (us:=lessOf bs p) (lessOf bs p) fun v h=>h
 match e:lots n ts (lessOf bs p) (lessOf bs p) with
 | [] =>
  obtain⟨l,hl,_⟩:=hall z hz;rw[e] at hl;cases hl
 | [l] =>
  obtain⟨v,hv,rfl⟩:=lots_mem (lessOf bs p) l (by rw[e];simp);refine absurd ⟨hng_of hok hv fun y hy=>?_,st⟩ hL;obtain⟨m,hm,hym⟩:=hall y hy;rw[e] at hm;rw[List.mem_singleton.mp hm] at hym;exact (mem_pc hok (hrL v hv).1 (hrL v hv).2).mp hym
 | l0::l1::r =>
  rw[e] at pw;obtain⟨v1,hv1,rfl,hn1⟩:=(List.pairwise_cons.mp pw).1 l1 (by simp);obtain⟨v0,hv0,rfl⟩:=lots_mem (lessOf bs p) l0 (by rw[e];simp);have m0:=fun x=>mem_pc (us:=lessOf bs p) (x:=x) hok (hrL v0 hv0).1 (hrL v0 hv0).2
  refine⟨_,_,rfl,⟨fun h=>?_,pcOf_lt,fun x hx=>mem_less.mp (((m0 x).mp hx).mem hv0),⟨v1,(mem_less.mp hv1).1,(mem_less.mp hv1).2,hn1⟩,fun x hx y hy hyb hyp=>?_⟩⟩
  ·have:=(m0 v0).mpr .base;rw[h] at this;cases this
  ·exact (m0 y).mpr (.step ((m0 x).mp hx) hy (mem_less.mpr ⟨hyb,hyp⟩))
open Classical in
noncomputable def leanStep (n:Int)(ts:List (Int×Int))(l:List Int)(p:Int):List Int:=if Busy n ts (lessOf l p) then lessOf l p else l
noncomputable def leanOf (n:Int)(ts:List (Int×Int))(bs ks:List Int):List Int:=ks.foldl (leanStep n ts) bs
theorem lean_pos (h:Busy n ts (lessOf bs p)):leanStep n ts bs p=lessOf bs p:=by unfold leanStep;rw[if_pos h]
theorem lean_neg (h:¬ Busy n ts (lessOf bs p)):leanStep n ts bs p=bs:=by unfold leanStep;rw[if_neg h]
theorem lean_snoc {ks:List Int}:leanOf n ts bs (ks++[p])=leanStep n ts (leanOf n ts bs ks) p:=by unfold leanOf;rw[List.foldl_append];rfl
theorem lean_inv (hok:TsOk n ts):∀ (ks l:List Int),Busy n ts l→(∀ x∈l,0≤x∧x<n)→Busy n ts (leanOf n ts l ks)∧(leanOf n ts l ks).Sublist l∧∀ p∈ks,p∈leanOf n ts l ks→¬ Busy n ts (lessOf (leanOf n ts l ks) p)
 | [],l,h,_=>⟨h,List.Sublist.refl l,fun p hp=>by cases hp⟩
 | k::r,l,h,hr=>by
  have e:leanOf n ts l (k::r)=leanOf n ts (leanStep n ts l k) r:=rfl;rw[e];by_cases hk:Busy n ts (lessOf l k)
  ·rw[lean_pos hk];obtain⟨h1,h2,h3⟩:=lean_inv hok r (lessOf l k) hk fun x hx=>hr x (mem_less.mp hx).1
   refine⟨h1,h2.trans List.filter_sublist,fun p hp hpR=>?_⟩;rcases List.mem_cons.mp hp with rfl | hp
   ·exact absurd rfl (mem_less.mp (h2.subset hpR)).2
   ·exact h3 p hp hpR
  ·rw[lean_neg hk];obtain⟨h1,h2,h3⟩:=lean_inv hok r l h hr;refine⟨h1,h2,fun p hp hpR=>?_⟩;rcases List.mem_cons.mp hp with rfl | hp
   ·intro hb;exact hk (hb.more hok (fun x hx=>mem_less.mpr ⟨h2.subset (mem_less.mp hx).1,(mem_less.mp hx).2⟩) fun x hx=>hr x (mem_less.mp hx).1)
   ·exact h3 p hp hpR
theorem lean_stay:∀ (ks:List Int),(∀ p∈bs,¬ Busy n ts (lessOf bs p))→leanOf n ts bs ks=bs
 | [],_=>rfl
 | k::r,h=>by
  have e:leanOf n ts bs (k::r)=leanOf n ts (leanStep n ts bs k) r:=rfl;have e2:leanStep n ts bs k=bs:=by
   by_cases hk:k∈bs
   ·exact lean_neg (h k hk)
   ·unfold leanStep;rw[less_eq hk];split<;>rfl
  rw[e,e2];exact lean_stay r h
noncomputable def needN (n:Int)(ts:List (Int×Int))(bs:List Int)(p:Int):Int ⊕ List Int :=
 match (rInts 0 n.toNat).find? fun x=>decide (alOf ts bs x=[p]) with
 | some x=>.inl x
 | none=>.inr ((lots n ts (lessOf bs p) (lessOf bs p)).headD [])
def ndD:Int ⊕ List Int→PyData
 | .inl x=>.tuple [.str "own",.int x]
 | .inr l=>.tuple [.str "parts",tI l]
theorem needN_own {i:Nat}(hi:i<n.toNat)(hb:alOf ts bs i=[p])(hn:∀ j:Nat,j<i→alOf ts bs j≠[p]):needN n ts bs p=.inl (i:Int):=by
 have:((rInts 0 n.toNat).find? fun x=>decide (alOf ts bs x=[p]))=some (i:Int):=by
  rw[List.find?_eq_some_iff_getElem];refine⟨decide_eq_true hb,i,by rw[rInts_length];exact hi,?_,fun j hj=>?_⟩
  ·have:=rInts_get (lo:=0) hi;rw[List.getElem?_eq_getElem (by rw[rInts_length];exact hi),Int.zero_add] at this;exact Option.some.inj this
  ·have hj':j<n.toNat:=by omega
   have:=rInts_get (lo:=0) hj';rw[List.getElem?_eq_getElem (by rw[rInts_length];exact hj'),Int.zero_add] at this;rw[Option.some.inj this];simpa using hn j hj
 unfold needN;rw[this]
theorem needN_parts (hn:∀ x,0≤x→x<n→alOf ts bs x≠[p]):needN n ts bs p=.inr ((lots n ts (lessOf bs p) (lessOf bs p)).headD []):=by
 have:((rInts 0 n.toNat).find? fun x=>decide (alOf ts bs x=[p]))=none:=by
  rw[List.find?_eq_none];intro x hx h;have r:=mem_rInts.mp hx;exact hn x r.1 (by omega) (of_decide_eq_true h)
 unfold needN;rw[this]
theorem ndD_ok (z:Int ⊕ List Int):PyData.canLay0 (ndD z)=true∧PyData.depth (ndD z)≤2∧PyData.eqv (ndD z) (ndD z)=true:=by
 cases z with
 | inl x =>
  refine⟨?_,?_,by simp[ndD,PyData.eqv,PyData.eqvAll]⟩
  ·simp only[ndD,PyData.canLayAll0,PyData.canLay0];rw[show PyData.strOk (Str.ofString "own")=true by decide +kernel];rfl
  ·simp only[ndD,PyData.depthAll,PyData.depth];omega
 | inr l =>
  have h1:PyData.canLay0 (tI l)=true:=by unfold tI;rw[PyData.canLay0,canLay_ints]
  have h2:PyData.depth (tI l)≤1:=by unfold tI;rw[PyData.depth,depth_ints];omega
  have h3:PyData.eqv (tI l) (tI l)=true:=by unfold tI;rw[eqv_tupI];simp
  refine⟨?_,?_,by simp only[ndD,PyData.eqv,PyData.eqvAll,h3];simp⟩
  ·simp only[ndD,PyData.canLayAll0,h1,PyData.canLay0];rw[show PyData.strOk (Str.ofString "parts")=true by decide +kernel];rfl
  ·simp only[ndD,PyData.depthAll,PyData.depth];omega
noncomputable def leanD (n:Int)(ts:List (Int×Int))(R:List Int):PyData:=.tuple [tI R,.tuple ((R.map (needN n ts R)).map ndD)]
def NdAt (H:Hp)(v:V):Int ⊕ List Int→Prop
 | .inl x=>∃ t,v=.ref t∧H t=some (.tup [.str "own",.int x])
 | .inr l=>∃ t a,v=.ref t∧H t=some (.tup [.str "parts",.ref a])∧H a=some (.tup (l.map V.int))
theorem NdAt.tp {H H':Hp}{v:V}{z:Int ⊕ List Int}(h:NdAt H v z)(k:Tp H H'):NdAt H' v z:=by
 cases z with
 | inl x=>obtain⟨t,e,h⟩:=h;exact⟨t,e,k _ _ h⟩
 | inr l=>obtain⟨t,a,e,h,h2⟩:=h;exact⟨t,a,e,k _ _ h,k _ _ h2⟩
theorem NdAt.dt {K:PySem.W.Frag}{H:Hp}{v:V}{z:Int ⊕ List Int}(h:NdAt H v z):Dt K H v (ndD z):=by
 cases z with
 | inl x=>obtain⟨t,rfl,h⟩:=h;exact .tup (SqT.of h) (.cons (.str _) (.cons (.int _) .nil))
 | inr l=>obtain⟨t,a,rfl,h,h2⟩:=h;exact .tup (SqT.of h) (.cons (.str _) (.cons (.tupI (SqT.of h2)) .nil))
theorem nds_dt {K:PySem.W.Frag}{H:Hp}{f:Int→Int ⊕ List Int}:∀ {vs:List V} {R:List Int},vs.length=R.length→(∀ (i:Nat) v p,vs[i]?=some v→R[i]?=some p→NdAt H v (f p))→Dts K H vs ((R.map f).map ndD)
 | [],[],_,_=>.nil
 | v::vs,p::R,hl,h=>.cons (h 0 v p rfl rfl).dt (nds_dt (by simpa using hl) fun i v p h1 h2=>h (i+1) v p h1 h2)
def NsAt (H:Hp)(b:Addr)(n:Int)(ts:List (Int×Int))(R:List Int):Prop:=∃ vs:List V,H b=some (.tup vs)∧vs.length=R.length∧∀ (i:Nat) v p,vs[i]?=some v→R[i]?=some p→NeedAt H n ts R p v∧NdAt H v (needN n ts R p)
theorem NsAt.tp {H H':Hp}{b:Addr}{R:List Int}(h:NsAt H b n ts R)(k:Tp H H'):NsAt H' b n ts R:=by
 obtain⟨vs,e,l,r⟩:=h;exact⟨vs,k _ _ e,l,fun i v p h1 h2=>⟨(r i v p h1 h2).1.tp k,(r i v p h1 h2).2.tp k⟩⟩
def LnAt (H:Hp)(t:Addr)(n:Int)(ts:List (Int×Int))(R:List Int):Prop:=∃ a b:Addr,H t=some (.tup [.ref a,.ref b])∧H a=some (.tup (R.map V.int))∧NsAt H b n ts R
theorem LnAt.tp {H H':Hp}{t:Addr}{R:List Int}(h:LnAt H t n ts R)(k:Tp H H'):LnAt H' t n ts R:=by
 obtain⟨a,b,e,ea,r⟩:=h;exact⟨a,b,k _ _ e,k _ _ ea,r.tp k⟩
theorem LnAt.dt {K:PySem.W.Frag}{H:Hp}{t:Addr}{R:List Int}(h:LnAt H t n ts R):Dt K H (.ref t) (leanD n ts R):=by
 obtain⟨a,b,e,ea,vs,eb,l,r⟩:=h;exact .tup (SqT.of e) (.cons (.tupI (SqT.of ea)) (.cons (.tup (SqT.of eb) (nds_dt l fun i v p h1 h2=>(r i v p h1 h2).2)) .nil))
end
end L2
end
section
namespace L2
open PySem
section
variable {n:Int}{ts us:List (Int×Int)}{bs:List Int}{p:Int}{H:Hp}{v:V}
theorem own_less {x:Int}(x0:0≤x)(x1:x<n)(h:alOf ts bs x=[p]):¬ Busy n ts (lessOf bs p):=fun hB=>by
 have key:∀ y∈lessOf bs p,y∈x::nb ts x→False:=fun y hy hm=>by
  obtain⟨h1,h2⟩:=mem_less.mp hy;have:y∈alOf ts bs x:=List.mem_filter.mpr ⟨h1,decide_eq_true hm⟩;rw[h] at this;exact h2 (List.mem_singleton.mp this)
 by_cases hx:x∈lessOf bs p
 ·exact key x hx (List.mem_cons_self ..)
 ·obtain⟨y,y1,y2⟩:=hB.2 x x0 x1 hx;exact key y y2 (List.mem_cons_of_mem _ y1)
theorem part_less {l:List Int}(h:PartOk ts bs p l):¬ Busy n ts (lessOf bs p):=fun hB=>by
 obtain⟨x,hx⟩:=List.exists_mem_of_ne_nil _ h.ne;obtain⟨y,y1,y2,y3⟩:=h.rest;have r:=hB.1.2 x (mem_less.mpr (h.sub x hx)) y (mem_less.mpr ⟨y1,y2⟩);have:∀ z,Rch ts (·∈lessOf bs p) x z→z∈l:=fun z r=>by
  induction r with
  | base=>exact hx
  | step _ hn hm ih=>exact h.cut _ ih _ hn (mem_less.mp hm).1 (mem_less.mp hm).2
 exact y3 (this y r)
theorem need_less (h:NeedAt H n ts bs p v):¬ Busy n ts (lessOf bs p):=by
 cases h with
 | own _ x0 x1 h=>exact own_less x0 x1 h
 | parts _ _ h=>exact part_less h
theorem lean_leaves (T:IsTree n ts us)(hok:TsOk n ts)(h3:3≤n)(hnd:bs.Nodup)(hr:∀ x∈bs,0≤x∧x<n)(hL:∀ p∈bs,¬ Busy n ts (lessOf bs p))(hs:∀ x,0≤x→x<n→x∉bs→(nb us x).length=1):((leavesOf n us).length:Int)=n-bs.length:=by
 have hin:∀ x∈bs,(nb us x).length≠1:=fun x hx e=>by
  have hB:=T.busy hok h3 (L:=(rInts 0 n.toNat).filter fun v=>decide (1<(nb us v).length)) fun x=>by
   rw[List.mem_filter,mem_rInts];simp;omega
  refine hL x hx (hB.more hok (fun y hy=>?_) fun y hy=>hr y (mem_less.mp hy).1);obtain⟨h1,h2⟩:=List.mem_filter.mp hy;have h1:=mem_rInts.mp h1;have h2:=of_decide_eq_true h2;refine mem_less.mpr ⟨Classical.byContradiction fun hn=>?_,fun e2=>?_⟩
  ·have:=hs y h1.1 (by omega) hn;omega
  ·rw[e2] at h2;omega
 have hp:(bs++leavesOf n us).Perm (rInts 0 n.toNat):=by
  refine (List.perm_ext_iff_of_nodup ?_ (rising_nd (rInts_lt _))).mpr fun x=>?_
  ·rw[List.nodup_append];refine⟨hnd,rising_nd fil_rising,fun a ha b hb e=>?_⟩;subst e;have:=of_decide_eq_true (List.mem_filter.mp hb).2;exact hin a ha this
  ·rw[List.mem_append];constructor
   ·rintro (h | h)
    ·have:=hr x h;exact mem_rInts.mpr (by omega)
    ·exact (List.mem_filter.mp h).1
   ·intro h;by_cases k:x∈bs
    ·exact .inl k
    ·have:=mem_rInts.mp h;exact .inr (List.mem_filter.mpr ⟨h,decide_eq_true (hs x this.1 (by omega) k)⟩)
 have:=hp.length_eq;rw[List.length_append,rInts_length] at this;omega
end
end L2
end
section
namespace L2
open PySem PySem.Spec PyProof.Rows
section
variable {X:Cx}
def rInL (K:PySem.W.Frag)(neg:Bool):R2:=fun x y H Q=>∃ (d:PyData) (es:List PyData),Dt K H x d∧Dt K H y (.list es)∧d.canLay0=true∧PyData.canLayAll0 es=true∧PyData.depthAll es≤8 ∧
 Q (.bl (if neg then !(es.any fun e=>PyData.eqv e d) else es.any fun e=>PyData.eqv e d)) H
theorem op_inL (hu:X.A.units+64<cLine):OpR X (compareOp .In) (rInL X.K false):=by
 intro pins s σ H x y v u Q I rx ry h;obtain⟨d,es,hd,he,c1,c2,dp,q⟩:=h;obtain⟨as,r1⟩:=I.reads hd rx;obtain⟨bs,r2⟩:=I.reads he ry;exact SeqAt.in_list_reads r2 r1 c2 c1 (by have:=Nat.min_le_left (PyData.depthAll es) d.depth;omega) ⟨.bl _,H,I,rfl,q⟩
theorem inLK (K:PySem.W.Frag)(hu:X.A.units+64<cLine)(h:X.K=K:=by rfl):OpR X (compareOp .In) (rInL K false):=by subst h;exact op_inL hu
end
theorem dts_ll {K:PySem.W.Frag}{H:Hp}:∀ {ps:List (Addr×List Int)},(∀ x∈ps,H x.1=some (.tup (x.2.map V.int)))→Dts K H (ps.map fun x=>V.ref x.1) ((ps.map (·.2)).map tI)
 | [],_=>.nil
 | x::r,h=>.cons (.tupI (SqT.of (h x (List.mem_cons_self ..)))) (dts_ll fun y hy=>h y (List.mem_cons_of_mem _ hy))
theorem any_tIs (ls:List (List Int))(l:List Int):(ls.map tI).any (fun e=>PyData.eqv e (.tuple (l.map PyData.int)))=decide (l∈ls):=by
 rw[List.any_map,Bool.eq_iff_iff,List.any_eq_true,decide_eq_true_iff];constructor
 ·rintro⟨u,hu,e⟩;have e':PyData.eqv (.tuple (u.map PyData.int)) (.tuple (l.map PyData.int))=true:=e;rw[eqv_tupI] at e';rw[← of_decide_eq_true e'];exact hu
 ·intro h;refine⟨l,h,?_⟩;show PyData.eqv (.tuple (l.map PyData.int)) (.tuple (l.map PyData.int))=true;rw[eqv_tupI];exact decide_eq_true rfl
theorem in_ll {K:PySem.W.Frag}{H:Hp}{a p:Addr}{l:List Int}{ps:List (Addr×List Int)}{Q:VK}(h1:H a=some (.tup (l.map V.int)))(h2:LlAt H p ps)(q:Q (.bl (decide (l∈ps.map (·.2)))) H):rInL K false (.ref a) (.ref p) H Q:=by
 refine⟨_,_,Dt.tupI (SqT.of h1),.lst (SqL.of h2.top) (dts_ll h2.row),?_,?_,?_,?_⟩
 ·rw[PyData.canLay0,canLay_ints]
 ·exact canLay_tI _
 ·exact Nat.le_trans (depth_tI _) (by decide)
 ·rw[any_tIs];exact q
def Dok (K:PySem.W.Frag)(H:Hp)(v:V):Prop:=∃ d,Dt K H v d∧PyData.canLay0 d=true∧PyData.depth d≤8
theorem dts_ok {K:PySem.W.Frag}{H:Hp}:∀ {xs:List V},(∀ v∈xs,Dok K H v)→∃ ds,Dts K H xs ds∧PyData.canLayAll0 ds=true∧PyData.depthAll ds≤8∧(ds=[]↔xs=[])
 | [],_=>⟨[],.nil,rfl,by simp[PyData.depthAll],by simp⟩
 | x::r,h=>by
  obtain⟨d,h1,h2,h3⟩:=h x (List.mem_cons_self ..);obtain⟨ds,k1,k2,k3,_⟩:=dts_ok fun v hv=>h v (List.mem_cons_of_mem _ hv)
  refine⟨d::ds,.cons h1 k1,?_,?_,by simp⟩
  ·rw[PyData.canLayAll0,h2,k2];rfl
  ·rw[PyData.depthAll];omega
theorem eqL0 {K:PySem.W.Frag}{H:Hp}{a b:Addr}{xs:List V}{neg:Bool}{Q:VK}(h1:H a=some (.lst xs))(hx:∀ v∈xs,Dok K H v)(h2:H b=some (.lst []))(q:∀ c:Bool,(c=true↔xs=[])→Q (.bl (if neg then !c else c)) H):rEqD K neg (.ref a) (.ref b) H Q:=by
 obtain⟨ds,k1,k2,k3,k4⟩:=dts_ok hx;refine⟨.list ds,.list [],.lst (SqL.of h1) k1,.lst (SqL.of h2) .nil,?_,?_,?_⟩
 ·unfold SeqAt.shaped;rw[PyData.canLay0,PyData.depth,k2,Bool.true_and,decide_eq_true_iff];omega
 ·exact shaped_lstI []
 ·refine q _ ?_;rw[← k4];cases ds with
  | nil=>simp[PyData.eqv,PyData.eqvAll]
  | cons d r=>simp[PyData.eqv,PyData.eqvAll]
theorem dok_tup {K:PySem.W.Frag}{H:Hp}{a:Addr}{l:List Int}(e:H a=some (.tup (l.map V.int))):Dok K H (.ref a):=⟨_,.tupI (SqT.of e),by rw[PyData.canLay0,canLay_ints],by rw[PyData.depth,depth_ints];omega⟩
end L2
end
section
set_option format.width 230
set_option pp.deepTerms true
set_option pp.maxSteps 20000
namespace K36
open PySem L2
local macro_rules | `(tactic| walk_at "rd")=>`(tactic| ((try simp only[L2.start,st0,List.map_cons,List.map_nil,List.length_cons,List.length_nil,List.replicate,List.cons_append,List.nil_append,Nat.reduceAdd,Nat.reduceSub,List.getElem?_cons_zero,List.getElem?_cons_succ,Option.join_some]);simp only[↓tSeqA,↓tAsgA,↓tOpA,↓tCA,↓tRetA,↓tRetNA,↓tIfSA,↓tTestA,↓tBA,↓tNextA,↓tDropA,↓tCallA,↓tConsA,↓tNilA,↓tCBA,↓tBMA,↓tBM0A,↓tTupA,↓tLstA,↓gTupA,↓gConsA,↓gNilA,↓gSubA,↓tSlA,↓tNoPartA,↓tPartA,↓tAndA,↓tOrA,↓tNotA,↓tDInA,↓tDNotInA,↓sDPutA,↓iListA,↓iTupA,↓iRng1A,↓iRng2A,↓tLCA,↓tDCA,↓tChainA,↓tAndVA,↓tOrVA,↓tNotVA,↓tUnA,↓tYesA,↓tDNewKA,↓tDNewTA,↓tIsNA,↓tNotNA,↓tV0,↓tV1,↓tV2,↓tV3,↓tV4,↓tV5,↓tV6,↓tV7,↓tV8,↓tV9,↓tV10,↓tV11,↓tV12,↓tV13,↓tV14,↓tV15,↓gN0,↓gN1,↓gN2,↓gN3,↓gN4,↓gN5,↓gN6,↓gN7,↓gN8,↓gN9,↓gN10,↓gN11,↓gN12,↓gN13,↓gN14,↓gN15,↓rI0i,↓rIi,↓rIxLr,↓rIxTr,↓exB,↓exI,↓exR,↓rEqI,↓rNeI,↓cLenR,rI,rI0,rAppend,rPop,rSetL,tRevL,tDisp,tPairs,rIxL,rIxT,rEq,rNe,cLen,cList,cTuple,cSortI,cSortT,cIsi,iAny,cAny,rCatT1,iEnum,iEnumT,rIsNB,iZip,tRevT,rU,L2.start,st0,List.map_cons,List.map_nil,List.length_cons,List.length_nil,List.replicate,List.cons_append,List.nil_append,List.append_nil,List.getElem?_cons_zero,List.getElem?_cons_succ,List.set_cons_zero,List.set_cons_succ,Option.some.injEq,V.int.injEq,V.bl.injEq,V.ref.injEq,List.cons.injEq,and_true,true_and,exists_eq_left',exists_eq_left,exists_eq',exists_eq,Nat.reduceAdd,Nat.reduceSub,exists_and_left,and_self,Option.join_some,scal,decide_true,if_true,if_false,Bool.false_eq_true,Bool.not_true,Bool.not_false,tVar,gName]))
def top (i:Nat):Stmt:=PySem.Challenge.pw_manyleaves_k36_whole_lean_sets.main.body.getD i (.Pass ⟨0,0,0,0⟩)
section
variable {P:Program}{w:World}{K:PySem.W.Frag}{mg:Str→Option Value}{base:Heap}
set_option hygiene false
local macro_rules | `(tactic| walk_at "s") => `(tactic| exact⟨rfl,rfl,rfl,by decide +kernel,rfl,by decide +kernel,by decide +kernel⟩)
local macro_rules | `(tactic| walk_at "w") => `(tactic| with_unfolding_all rfl)
local macro_rules | `(tactic| walk_at "h") => `(tactic| ((repeat first | (obtain⟨rfl,h⟩:=h) | (obtain⟨_,h⟩:=h));rfl))
set_option hygiene true
theorem _root_.L2.Room.m {j k:Nat}{A:Around}(r:Room k A)(h:j≤k:=by decide):Room j A:=r.mono h
open PyProof.Rows (boot_bool boot_enumerate boot_int boot_isinstance boot_list boot_max boot_min boot_sorted boot_tuple boot_zip)
theorem sc_mixed:FnScope ["_law_cell","_law_k","_law_number"] ["_law_cell","_law_k"] (defScope (top 33)):=by walk_at "s"
theorem ok_mixed (F:Fun K "_law_mixed" "_law_mixed" (top 33) f fd)(B:Bt mg):FnOk P w K mg base CX0 1 f fd ["_law_cell","_law_k"] sp_mixed:=by
 refine F.ok sc_mixed (fun vs H Q E h=>?_) (fun cdv A outer s H vs Q E hr h=>?_)
 ·walk_at "h"
 ·obtain⟨c,k,rfl,hk0,hk1,q⟩:=h;have nd:=sc_mixed.nd;have hu:=hu_of hr
  refine⟨_,(pss_cons (ps_set (i:=2) nd rfl (.inl rfl) (pe_op op_mod (pe_op op_add (pe_op op_add (pv 0) (pe_op op_mul (pe_op op_mul (pv 1) (pv 1)) pe_int)) pe_int) pe_int))
    (pss_cons (ps_set (i:=2) nd rfl (.inl rfl) (pe_op op_mod (pe_op op_mul (pv 2) (pv 2)) pe_int))
    (pss_cons (ps_set (i:=2) nd rfl (.inl rfl) (pe_op op_mod (pe_op op_mul (pe_op op_add (pe_op op_add (pv 2) (pe_op op_mul (pv 1) pe_int)) pe_int) pe_int) pe_int))
    (pss_one (ps_ret (pe_op op_fdiv (pe_op op_mod (pe_op op_mul (pv 2) (pv 2)) pe_int) pe_int)))))),?_⟩
  walk_at "rd";have hm:∀ x:Int,0≤x % 2305843009213693951∧x % 2305843009213693951<2305843009213693951:=fun x=>⟨Int.emod_nonneg _ (by decide),Int.emod_lt_of_pos _ (by decide)⟩
  have small:∀ x y:Int,CMul (x % 2305843009213693951) y:=fun x y=>.inl ⟨by have:=hm x;omega,by have:=hm x;omega⟩
  have pos:(0:Int)<2305843009213693951:=by decide
  exact⟨.inl ⟨by omega,by omega⟩,.inr ⟨by decide,by decide⟩,pos,small _ _,pos,.inl ⟨by omega,by omega⟩,.inr ⟨by decide,by decide⟩,pos,small _ _,pos,⟨by decide,by decide⟩,q _⟩
theorem sc_next:FnScope ["_law_deck_here"] ["_law_deck_here"] (defScope (top 35)):=by walk_at "s"
theorem ok_next (F:Fun K "_law_next" "_law_next" (top 35) f fd)(B:Bt mg):FnOk P w K mg base CX0 1 f fd ["_law_deck_here"] sp_next:=by
 refine F.ok sc_next (fun vs H Q E h=>?_) (fun cdv A outer s H vs Q E hr h=>?_)
 ·walk_at "h"
 ·obtain⟨d,ns,rfl,hd,q⟩:=h;have nd:=sc_next.nd;have hu:=hu_of hr
  refine⟨_,(pss_cons (ps_if (pt_cmpR op_gt (pe_callB (lenK K) (by rfl) B.len PySem.boot_len (pa_cons (pv 0) pa_nil)) pe_int (nomark _))
     (pss_one (ps_ret (popK K (pv 0))))
     pss_nil)
    (pss_one (ps_ret pe_int))),?_⟩
  walk_at "rd";refine⟨ns.map V.int,.inl (SqL.of hd),ite2 (fun h=>?_) fun h=>?_⟩
  ·refine⟨.inl ⟨rfl,_,SqL.of hd⟩,?_⟩;have hne:ns≠[]:=fun e=>by subst e;simp at h
   have h1:(ns.map V.int)[(ns.map V.int).length-1]?=some (V.int (ns.getLast hne)):=by
    rw[List.length_map,List.getElem?_map,← List.getLast?_eq_getElem?,List.getLast?_eq_some_getLast hne];rfl
   refine⟨ns.map V.int,hd,_,h1,?_⟩;rw[← List.map_dropLast];exact q _ _ (by rw[List.length_dropLast];omega) (fun x hx=>List.dropLast_subset _ hx) (.inr (List.getLast_mem hne))
  ·have e:upd H d (.lst (ns.map V.int))=H:=upd_self hd;have:=q 0 ns (Nat.le_refl _) (fun _ h=>h) (.inl rfl);rw[e] at this;exact this
def inv_deck (H:Hp)(a p4 p5 p6:Addr)(m:Int)(os:List Int)(i:Nat)(σ:St)(Hc:Hp):Prop:=∃ (kv av:Option V) (rs ds:List Int),σ=[some (.ref a),some (.int m),some (.ref p4),some (.ref p5),some (.ref p6),kv,av]∧Same H Hc∧Hc p4=some (.lst (os.map V.int)) ∧
 Hc p5=some (.lst (rs.map V.int))∧rs.length=os.length∧Hc p6=some (.lst (ds.map V.int))∧ds.length=i∧(∀ x∈ds,0≤x∧x<1000)
theorem sc_deck:FnScope ["_law_script","_law_many","_law_own","_law_rest","_law_deck_here","_law_k","_law_at"] ["_law_script","_law_many"] (defScope (top 34)):=by walk_at "s"
theorem ok_deck (F:Fun K "_law_deck" "_law_deck" (top 34) f fd)(B:Bt mg)(D1:Df K mg "_law_mixed" st1 f1 fd1 ["_law_cell","_law_k"])(G1:FnOk P w K mg base CX0 1 f1 fd1 ["_law_cell","_law_k"] sp_mixed):FnOk P w K mg base CX0 2 f fd ["_law_script","_law_many"] (sp_deck K):=by
 refine F.ok sc_deck (fun vs H Q E h=>?_) (fun cdv A outer s H vs Q E hr h=>?_)
 ·walk_at "h"
 ·obtain⟨a,m,ns,rfl,hS,hl,hm0,hm1,q⟩:=h;have nd:=sc_deck.nd;have hu:=hu_of hr
  refine⟨_,(pss_cons (ps_set (i:=2) nd rfl (.inl rfl) (pe_op op_cat (pe_callTy (listK K) (by rfl) B.list boot_list (pa_cons (pe_slice (sl_listK K) (pv 0) po_none (po_some pe_int)) pa_nil)) (pe_op op_rep (pe_lst (pa_cons pe_int pa_nil)) (pe_callTy call_intB (by rfl) B.int boot_int (pa_cons (pe_cmpR op_eq (pe_callB (lenK K) (by rfl) B.len PySem.boot_len (pa_cons (pv 0) pa_nil)) pe_int (nomark _)) pa_nil)))))
    (pss_cons (ps_setLC (i:=3) (own:=["_law_cell"]) (fr:=[]) rfl nd rfl rfl (by walk_at "w") (by walk_at "w") frOk_nil (pi_listK K (pv 2)) ⟨fun _ _ _ _=>⟨(pg_name (i:=0) (show List.Nodup (["_law_cell"]:List Str) by decide +kernel) rfl (.inl rfl)),pts_nil,(pe_ix (ix_listK K) (pe_lst (pa_cons pe_int (pa_cons (pv 0) pa_nil))) (pe_callTy call_intB (by rfl) B.int boot_int (pa_cons (pe_cmpR op_ge (pv 0) (pe_op op_pow pe_int pe_int) (nomark _)) pa_nil)) (fun _ _=>rfl))⟩⟩)
    (pss_cons (ps_set (i:=4) nd rfl (.inl rfl) (pe_lst pa_nil))
    (pss_cons (ps_for PassesOwn.never rfl (pi_range1 (by rfl) B.range (pa_cons (pv 1) pa_nil)) (pg_name (i:=5) nd rfl (.inl rfl))
     (pss_cons (ps_set (i:=6) nd rfl (.inl rfl) (pe_op op_mod (pv 5) (pe_callB (lenK K) (by rfl) B.len PySem.boot_len (pa_cons (pv 2) pa_nil))))
     (pss_one (ps_if (pt_cmpR op_gt (pe_ix (ix_listK K) (pv 3) (pv 6) (fun _ _=>rfl)) pe_int (nomark _))
      (pss_cons (ps_expr (appendK K (pv 4) (pa_cons (pe_op op_mod (pe_ix (ix_listK K) (pv 3) (pv 6) (fun _ _=>rfl)) pe_int) pa_nil)))
      (pss_one (ps_asg (pe_op op_fdiv (pe_ix (ix_listK K) (pv 3) (pv 6) (fun _ _=>rfl)) pe_int) (pg_sub (pv 3) (pv 6) set_list))))
      (pss_one (ps_expr (appendK K (pv 4) (pa_cons (pe_op op_mod (pe_own G1 D1 hr.m (pa_cons (pe_ix (ix_listK K) (pv 2) (pv 6) (fun _ _=>rfl)) (pa_cons (pe_op op_add (pv 5) pe_int) pa_nil))) pe_int) pa_nil))))))))
    (pss_one (ps_ret (pe_listrev hr.hd (by rfl) B.list (by rfl) B.reversed (pv 4)))))))),?_⟩
  walk_at "rd";refine⟨a,ns.map V.int,rfl,hS,fun p1 n1=>⟨p1,rfl,_,.inl (SqL.of upd_same),fun l nl=>⟨by decide,fun p2 n2=>?_⟩⟩⟩;have s1:=(Same.refl H).upd (o:=.lst (cutV (ns.map V.int) none (some 60))) n1;have s2:=s1.upd (o:=.lst (cutV (ns.map V.int) none (some 60))) (s1.free nl);have s3:=s2.upd (o:=.lst [V.int 0]) (s2.free n2);refine⟨ns.map V.int,.inl (s3.seq hS),p2,_,_,rfl,rfl,upd_same,?_,?_,?_,fun p3 n3=>?_⟩
  ·split<;>decide
  ·split<;>decide
  ·rw[sizeLine_eq];split<;>decide
  have s4:=s3.upd (o:=.lst (List.replicate (if decide ((ns.map V.int).length=(0:Int))=true then (1:Int) else 0).toNat [V.int 0]).flatten) (s3.free n3);have hlp:l≠p2:=fun e=>by subst e;rw[upd_same] at n2;cases n2
  have hl3:l≠p3:=fun e=>by subst e;rw[upd_ne hlp,upd_same] at n3;cases n3
  obtain⟨os,eo,ho1,ho2⟩:∃ os:List Int,cutV (ns.map V.int) none (some 60)++(List.replicate (if decide ((ns.map V.int).length=(0:Int))=true then (1:Int) else 0).toNat [V.int 0]).flatten=os.map V.int∧1≤os.length∧os.length≤64:=by
   by_cases e:ns=[]
   ·subst e;exact⟨[0],rfl,by decide,by decide⟩
   ·have hne:¬ ((ns.map V.int).length:Int)=0:=by rw[List.length_map];have:=List.length_pos_iff.mpr e;omega
    rw[decide_eq_false hne];refine⟨ns.take 60,?_,?_,?_⟩
    ·have h60:HT.sIx (ns.map V.int).length (ns.map V.int).length (some 60)=min 60 ns.length:=by rw[show (60:Int)=((60:Nat):Int) from rfl,HT.sIx_nat,List.length_map]
     unfold cutV;rw[HT.sIx_none,List.drop_zero,h60,Nat.sub_zero];simp only[Bool.false_eq_true,if_false,Int.toNat_zero,List.replicate,List.flatten_nil,List.append_nil];rw[← List.map_take];congr 1;by_cases h:60≤ns.length
     ·rw[Nat.min_eq_left h]
     ·rw[Nat.min_eq_right (by omega),List.take_of_length_le (Nat.le_refl _),List.take_of_length_le (by omega)]
    ·have:=List.length_pos_iff.mpr e;rw[List.length_take];omega
    ·rw[List.length_take];omega
  refine⟨l,p3,_,_,rfl,rfl,by rw[upd_ne hl3,upd_ne hlp,upd_same],upd_same,?_,fun p4 n4=>?_⟩
  ·have:=congrArg List.length eo;have e2:(os.map V.int).length=os.length:=List.length_map _;rw[List.length_append] at this;rw[sizeLine_eq];omega
  rw[eo];have s5:=s4.upd (o:=.lst (os.map V.int)) (s4.free n4);generalize hH5:upd (upd (upd (upd (upd H p1 (HO.lst (cutV (ns.map V.int) none (some 60)))) l (HO.lst (cutV (ns.map V.int) none (some 60)))) p2 (HO.lst [V.int 0])) p3 (HO.lst (List.replicate (if decide ((ns.map V.int).length=(0:Int))=true then (1:Int) else 0).toNat [V.int 0]).flatten)) p4 (HO.lst (os.map V.int))=H5 at s5 ⊢;have h4:H5 p4=some (.lst (os.map V.int)):=by rw[← hH5];exact upd_same
  refine⟨p4,rfl,⟨_,SqL.of h4⟩,fun p5 n5=>lc_list (K:=K) (xs:=os.map V.int) (fun i τ Hc=>∃ (c:Option V) (rs:List Int),τ=[c]∧Same H5 Hc∧Hc p5=some (.lst (rs.map V.int))∧rs.length=i)
   ⟨none,[],rfl,(Same.refl H5).upd n5,upd_same,rfl⟩ (fun i τ Hc _ ⟨_,_,_,sc,_⟩=>SqL.of (sc _ _ h4)) ?_ ?_⟩
  ·rintro i x τ Hc hx ⟨c,rs,rfl,sc,h5,hi⟩ _;have hil:i<os.length:=by have:=(List.getElem?_eq_some_iff.mp hx).1;rw[List.length_map] at this;exact this
   obtain⟨z,rfl⟩:∃ z,x=V.int z:=by
    rw[List.getElem?_map] at hx;cases e:os[i]? with
    | none=>rw[e] at hx;cases hx
    | some z=>rw[e] at hx;exact⟨z,(Option.some.inj hx).symm⟩
   walk_at "rd";refine⟨by decide,fun p n=>⟨⟨by decide,by decide,by decide⟩,?_⟩⟩;have h5':∀ o,(upd Hc p o) p5=some (.lst (rs.map V.int)):=fun o=>by rw[upd_ne (ne_of_none h5 n)];exact h5
   refine⟨[V.int 0,V.int z],SqL.of upd_same,?_⟩;generalize decide ((10:Int) ^ Int.toNat 18≤z)=b;obtain⟨y,hy⟩:∃ y:Int,atI [V.int 0,V.int z] (if b=true then 1 else 0)=some (V.int y):=by
    cases b
    ·exact⟨0,rfl⟩
    ·exact⟨z,rfl⟩
   refine⟨_,hy,_,h5' _,?_,(sc.upd (sc.free n)).upd n5,rs++[y],?_,?_⟩
   ·rw[List.length_map];exact sizeBig (by omega)
   ·rw[upd_same,List.map_append];rfl
   ·rw[List.length_append,hi];rfl
  ·rintro τ H6 ⟨c,rs,rfl,s6,h5,hrs⟩;rw[List.length_map] at hrs;refine⟨by decide,fun p6 n6=>?_⟩;have s06:Same H H6:=s5.trans s6;have h46:H6 p4=some (.lst (os.map V.int)):=s6 _ _ h4;have n45:p4≠p5:=ne_of_none h4 n5;have n46:p4≠p6:=ne_of_none h46 n6;have n56:p5≠p6:=ne_of_none h5 n6
   refine⟨_,rfl,m,rfl,by omega,by omega,for_range (lo:=0) (n:=m.toNat) (inv_deck H a p4 p5 p6 m os)
    ⟨none,none,rs,[],rfl,s06.upd (s06.free n6),by rw[upd_ne n46];exact h46,by rw[upd_ne n56];exact h5,hrs,upd_same,rfl,fun x hx=>(by cases hx)⟩ ?_ ?_⟩
   ·rintro i σ Hc hi ⟨kv,av,rs,ds,rfl,sc,c4,c5,hrl,c6,hdl,hdb⟩;have hoi:(0:Int)<(os.map V.int).length:=by rw[List.length_map];omega
    have hat:∃ j:Nat,j<os.length∧(0+(i:Int)) % ((os.map V.int).length:Int)=(j:Int):=by
     have h1:=Int.emod_nonneg (0+(i:Int)) (b:=((os.map V.int).length:Int)) (by omega);have h2:=Int.emod_lt_of_pos (0+(i:Int)) hoi;refine⟨((0+(i:Int)) % ((os.map V.int).length:Int)).toNat,?_,by omega⟩;rw[List.length_map] at h2 ⊢;omega
    obtain⟨j,hj,ej⟩:=hat;have atR:∀ (l:List Int),l.length=os.length→∃ z,atI (l.map V.int) (j:Int)=some (V.int z):=fun l e=>by
     have hjl:j<l.length:=by omega
     exact⟨l[j],atI_nat (by rw[List.getElem?_map,List.getElem?_eq_getElem hjl];rfl)⟩
    obtain⟨z,hz⟩:=atR rs hrl;obtain⟨z',hz'⟩:=atR os rfl;have n65:p6≠p5:=n56.symm;have hdb2:∀ y:Int,∀ x∈ds++[y % 1000],0≤x∧x<1000:=fun y x hx=>by
     rcases List.mem_append.mp hx with hx | hx
     ·exact hdb x hx
     ·rw[List.mem_singleton.mp hx];omega
    have n64:p6≠p4:=n46.symm;have hdl2:(ds.map V.int).length<sizeLine:=by rw[List.length_map];exact sizeBig (by omega)
    have c5':∀ o,(upd Hc p6 o) p5=some (.lst (rs.map V.int)):=fun o=>by rw[upd_ne n56];exact c5
    have hm6:H p6=none:=s06.free n6;have hm5:H p5=none:=(s5.free n5)
    walk_at "rd";refine⟨_,.inl (SqL.of c4),hoi,_,SqL.of c5,?_⟩;rw[ej];refine⟨_,hz,z,rfl,ite2 (fun _=>?_) fun _=>?_⟩
    ·refine⟨.inl ⟨rfl,_,SqL.of c6⟩,_,SqL.of c5,_,hz,z,rfl,by decide,_,c6,hdl2,_,SqL.of (c5' _),_,hz,z,rfl,⟨by decide,by decide⟩,?_⟩;have hix:ixN (rs.map V.int).length (j:Int)=some j:=by
      unfold ixN;rw[List.length_map,if_pos (by omega),if_pos (by omega)];simp
     refine⟨_,c5' _,j,hix,?_⟩;refine⟨_,_,rs.set j (z / 1000),ds++[z % 1000],rfl,(sc.upd hm6).upd hm5,by rw[upd_ne n45,upd_ne n46];exact c4,by rw[upd_same,List.map_set],by rw[List.length_set];exact hrl,?_,by rw[List.length_append,hdl];rfl,hdb2 z⟩;rw[upd_ne n65,upd_same,List.map_append];rfl
    ·refine⟨.inl ⟨rfl,_,SqL.of c6⟩,_,SqL.of c4,_,hz',z',_,rfl,by omega,by omega,fun y=>?_⟩;walk_at "rd";refine⟨by decide,_,c6,hdl2,?_⟩;refine⟨_,_,rs,ds++[y % 1000],rfl,sc.upd hm6,by rw[upd_ne n46];exact c4,by rw[upd_ne n56];exact c5,hrl,by rw[upd_same,List.map_append];rfl,by rw[List.length_append,hdl];rfl,hdb2 y⟩
   ·rintro σ Hc ⟨kv,av,rs,ds,rfl,sc,c4,c5,hrl,c6,hdl,hdb⟩;walk_at "rd";refine⟨_,c6,fun p7 n7=>?_⟩;rw[← List.map_reverse];exact q p7 ds.reverse _ ⟨by rw[List.length_reverse];omega,fun x hx=>hdb x (List.mem_reverse.mp hx)⟩ (sc.upd (sc.free n7)) (sc.free n7) upd_same
def inv_turn1 (H:Hp)(d p:Addr)(i:Nat)(τ:St)(Hc:Hp):Prop:=∃ (c:Option V) (ps:List (Addr×List Int)),τ=[c,some (.ref d)]∧Kp d H Hc∧DkAt Hc d∧Hc p=some (.lst (ps.map fun x=>V.ref x.1)) ∧
 (∀ x∈ps,Hc x.1=some (.tup (x.2.map V.int))∧∃ z k,x.2=[z,k])∧ps.length=i∧ps.map (fun x=>x.2.getD 1 0)=rInts 0 i
def inv_turn2 (H:Hp)(p:Addr)(ps:List (Addr×List Int))(i:Nat)(τ:St)(Hc:Hp):Prop:=∃ (c k:Option V),τ=[c,k]∧Same H Hc∧Hc p=some (.lst (((ps.map fun x=>x.2.getD 1 0).take i).map V.int))
theorem sc_turn:FnScope ["_law_deck_here","_law_many"] ["_law_deck_here","_law_many"] (defScope (top 36)):=by walk_at "s"
theorem ok_turn (F:Fun K "_law_turn" "_law_turn" (top 36) f fd)(B:Bt mg)(D1:Df K mg "_law_next" st1 f1 fd1 ["_law_deck_here"])(G1:FnOk P w K mg base CX0 1 f1 fd1 ["_law_deck_here"] sp_next):FnOk P w K mg base CX0 2 f fd ["_law_deck_here","_law_many"] sp_turn:=by
 refine F.ok sc_turn (fun vs H Q E h=>?_) (fun cdv A outer s H vs Q E hr h=>?_)
 ·walk_at "h"
 ·obtain⟨d,n,rfl,hd,hn0,hn1,q⟩:=h;have nd:=sc_turn.nd;have hu:=hu_of hr;refine⟨_,(pss_one (ps_ret (pe_callTy (tupleK K) (by rfl) B.tuple boot_tuple (pa_cons (pe_lcomp (own:=["_law_cell","_law_at"]) (fr:=[]) rfl (by walk_at "w") frOk_nil (pi_listK K (pe_callB (sortedTK K) (by rfl) B.sorted boot_sorted (pa_cons (pe_lcomp (own:=["_law_at"]) (fr:=[("_law_deck_here",0)]) rfl (by walk_at "w") (frOk_cons rfl rfl frOk_nil) (pi_range1 (by rfl) B.range (pa_cons (pv 1) pa_nil)) ⟨fun _ _ _ _=>⟨(pg_name (i:=0) (show List.Nodup (["_law_at","_law_deck_here"]:List Str) by decide +kernel) rfl (.inl rfl)),pts_nil,(pe_tup (pa_cons (pe_own G1 D1 hr.m (pa_cons (pv 1) pa_nil)) (pa_cons (pv 0) pa_nil)))⟩⟩) pa_nil))) ⟨fun _ _ _ _=>⟨(pg_tupK K (n:=2) rfl (pgs_cons (pg_name (i:=0) (show List.Nodup (["_law_cell","_law_at"]:List Str) by decide +kernel) rfl (.inl rfl)) (pgs_cons (pg_name (i:=1) (show List.Nodup (["_law_cell","_law_at"]:List Str) by decide +kernel) rfl (.inl rfl)) pgs_nil))),pts_nil,(pv 1)⟩⟩) pa_nil)))),?_⟩;walk_at "rd";refine⟨by omega,by omega,fun p n=>lc_range (inv_turn1 H d p) ⟨none,[],rfl,(Kp.refl d H).new n,hd.new (hd.ne n),upd_same,(fun x hx=>by cases hx),rfl,rfl⟩ ?_ ?_⟩
  ·rintro i τ Hc hi ⟨c,ps,rfl,k,dk,hp,hall,hl,hm⟩;walk_at "rd";refine next_use dk fun z H1 k1 dk1 e1=>⟨by decide,fun q1 nq=>?_⟩
   have hp1:H1 p=some (.lst (ps.map fun x=>V.ref x.1)):=by rw[e1 p (hd.ne n)];exact hp
   have k2:=k.trans k1;have nH:H q1=none:=k2.free dk1 nq;refine⟨_,at_new hp1 nq,by rw[List.length_map,hl];exact sizeBig (by omega),?_⟩;refine⟨_,ps++[(q1,[z,0+(i:Int)])],rfl,(k2.new nH).new n,(dk1.new (dk1.ne nq)).new (hd.ne n),by rw[upd_same,List.map_append];rfl,?_,by rw[List.length_append,hl];rfl,by rw[List.map_append,hm,rInts_succ];rfl⟩;intro x hx;rcases List.mem_append.mp hx with hx | hx
   ·obtain⟨h1,h2⟩:=hall x hx;have h3:=k1.tp dk _ _ h1;exact⟨by rw[upd_ne (ne_tl h3 hp1)];exact at_new h3 nq,h2⟩
   ·cases List.mem_singleton.mp hx;exact⟨by rw[upd_ne (ne_of_none hp1 nq).symm,upd_same];rfl,z,_,rfl⟩
  ·rintro τ H1 ⟨c,ps,rfl,k,dk,hp,hall,hl,hm⟩;refine⟨ps,⟨.inl (SqL.of hp),fun x hx=>⟨(hall x hx).1,by obtain⟨_,z,k,e⟩:=hall x hx;rw[e];simp⟩,by omega⟩,fun ps' l pm _ nl=>⟨⟨_,SqL.of upd_same⟩,fun p2 n2=>?_⟩⟩;have nl':H l=none:=k.free dk nl;have s1:Same H1 (upd H1 l (.lst (ps'.map fun x=>V.ref x.1))):=(Same.refl H1).upd nl;have n2':H1 p2=none:=s1.free n2;generalize hH2:upd H1 l (.lst (ps'.map fun x=>V.ref x.1))=H2 at s1 n2 ⊢;have hl2:H2 l=some (.lst (ps'.map fun x=>V.ref x.1)):=by rw[← hH2];exact upd_same
   refine lc_list (K:=K) (xs:=ps'.map fun x=>V.ref x.1) (inv_turn2 H2 p2 ps') ?_ ?_ ?_ ?_
   ·exact⟨none,none,rfl,(Same.refl H2).upd n2,upd_same⟩
   ·rintro i τ Hc _ ⟨_,_,rfl,sc,_⟩;exact SqL.of (sc _ _ hl2)
   ·rintro i v τ Hc hx ⟨c,k',rfl,sc,h2⟩ _;rw[List.getElem?_map] at hx;cases hy:ps'[i]? with
    | none=>rw[hy] at hx;cases hx
    | some y =>
    rw[hy] at hx;cases Option.some.inj hx;have hym:=List.mem_of_getElem? hy;obtain⟨h3,z,m,e⟩:=hall y (pm.mem_iff.mp hym);have h4:=sc _ _ (s1 _ _ h3);rw[e] at h4;walk_at "rd";have hil:i<ps'.length:=(List.getElem?_eq_some_iff.mp hy).1;refine⟨_,SqT.of h4,rfl,_,_,rfl,_,_,rfl,rfl,_,h2,?_,?_⟩
    ·rw[List.length_map,List.length_take];refine sizeBig (Nat.le_trans (Nat.min_le_left _ _) ?_);have:=pm.length_eq;omega
    ·refine⟨_,_,rfl,sc.upd n2,?_⟩;rw[upd_same,List.take_succ,List.getElem?_map,hy,List.map_append];show _=some (HO.lst (_++[V.int (y.2.getD 1 0)]));rw[e];rfl
   ·rintro τ Hc ⟨c,k',rfl,sc,h2⟩;refine⟨_,.inl ⟨SqL.of h2,fun l3 n3=>?_⟩⟩;rw[List.length_map,List.take_of_length_le (by rw[List.length_map];exact Nat.le_refl _)];have s3:Same H1 Hc:=s1.trans sc;have nH3:H l3=none:=k.free dk (s3.free n3);refine q l3 _ _ ((k.trans s3.kp).new nH3) ((dk.same s3).new (hd.ne nH3)) nH3 upd_same ?_;rw[← hm];exact pm.map _
theorem ahead_at {k c form:Int}(hk:1≤k)(hf0:0≤form)(hf1:form<8):∃ x:Int,atI [V.int (k-1),V.int 0,V.int (c % k),V.int (if k-1-c % 3>0 then k-1-c % 3 else 0),V.int (k-1),V.int (if k-2>0 then k-2 else 0),V.int ((k-1) / 2),V.int (c % k)] form=some (V.int x)∧0≤x∧x<k:=by
 have h1:=Int.emod_nonneg c (b:=k) (by omega);have h2:=Int.emod_lt_of_pos c (b:=k) (by omega);have hf:form=0∨form=1∨form=2∨form=3∨form=4∨form=5∨form=6∨form=7:=by omega
 rcases hf with rfl | rfl | rfl | rfl | rfl | rfl | rfl | rfl
 ·exact⟨_,rfl,by omega,by omega⟩
 ·exact⟨_,rfl,by omega,by omega⟩
 ·exact⟨_,rfl,by omega,by omega⟩
 ·refine⟨_,rfl,?_,?_⟩<;>split<;>omega
 ·exact⟨_,rfl,by omega,by omega⟩
 ·refine⟨_,rfl,?_,?_⟩<;>split<;>omega
 ·exact⟨_,rfl,by omega,by omega⟩
 ·exact⟨_,rfl,by omega,by omega⟩
def Fd (n:Int)(fs:List (Int×Int))(i:Int):Prop:=fs.Nodup∧(∀ t∈fs,0≤t.1∧t.1<t.2∧t.2<n)∧∀ k:Int,1≤k→k≤i→∃ a,0≤a∧a<k∧(a,k)∈fs
theorem Fd.add {n i:Int}{fs:List (Int×Int)}{t:Int×Int}(h:Fd n fs i)(ht:0≤t.1∧t.1<t.2∧t.2<n):Fd n (addT fs t) i:=by
 refine⟨nd_addT h.1,fun u hu=>?_,fun k k0 k1=>?_⟩
 ·rcases mem_addT.mp hu with hu | rfl
  ·exact h.2.1 u hu
  ·exact ht
 ·obtain⟨a,a0,a1,hm⟩:=h.2.2 k k0 k1;exact⟨a,a0,a1,mem_addT.mpr (.inl hm)⟩
theorem Fd.next {n i:Int}{fs:List (Int×Int)}{a:Int}(h:Fd n fs i)(a0:0≤a)(a1:a<i+1)(hn:i+1<n):Fd n (addT fs (a,i+1)) (i+1):=by
 have h':=h.add (t:=(a,i+1)) ⟨a0,a1,hn⟩;refine⟨h'.1,h'.2.1,fun k k0 k1=>?_⟩;by_cases e:k=i+1
 ·subst e;exact⟨a,a0,a1,mem_addT.mpr (.inr rfl)⟩
 ·exact h'.2.2 k k0 (by omega)
def inv_web1 (H:Hp)(d p:Addr)(lo hi n form:Int)(i:Nat)(σ:St)(Hc:Hp):Prop:=∃ (kv cv av:Option V) (fs:List (Int×Int)),σ=[some (.ref d),some (.int lo),some (.int hi),some (.int n),some (.int form),some (.ref p),kv,cv,av,none,none,none,none,none,none] ∧
 Kp d H Hc∧DkAt Hc d∧Hc p=some (.dT (kvT fs))∧fs.length≤i∧Fd n fs i
def inv_web2 (H:Hp)(d p:Addr)(lo hi n form more:Int)(i:Nat)(σ:St)(Hc:Hp):Prop:=∃ (kv cv av tv ov uv:Option V) (fs:List (Int×Int)),σ=[some (.ref d),some (.int lo),some (.int hi),some (.int n),some (.int form),some (.ref p),kv,cv,av,some (.int more),tv,ov,uv,none,none] ∧
 Kp d H Hc∧DkAt Hc d∧Hc p=some (.dT (kvT fs))∧(fs.length:Int)≤n+i∧Fd n fs (n-1)
def inv_web3 (H:Hp)(p pn:Addr)(gs:List (Int×Int))(ks:List Int)(i:Nat)(τ:St)(Hc:Hp):Prop:=∃ (ov uv:Option V) (ps:List (Addr×List Int)),τ=[ov,uv,some (.ref pn)]∧Same H Hc∧Hc p=some (.lst (ps.map fun x=>V.ref x.1))∧PsAt Hc ps ((gs.take i).map (ren ks))
theorem sc_webc:FnScope ["_law_deck_here","_law_least","_law_most","_law_places","_law_form","_law_found","_law_k","_law_cell","_law_ahead","_law_more","_law_turn_here","_law_one","_law_other","_law_names","_law_ties"] ["_law_deck_here","_law_least","_law_most"] (defScope (top 37)):=by walk_at "s"
theorem ok_webc (F:Fun K "_law_web" "_law_web" (top 37) f fd)(B:Bt mg)(D1:Df K mg "_law_next" st1 f1 fd1 ["_law_deck_here"])(G1:FnOk P w K mg base CX0 1 f1 fd1 ["_law_deck_here"] sp_next)(D2:Df K mg "_law_turn" st2 f2 fd2 ["_law_deck_here","_law_many"])(G2:FnOk P w K mg base CX0 2 f2 fd2 ["_law_deck_here","_law_many"] sp_turn):FnOk P w K mg base CX0 3 f fd ["_law_deck_here","_law_least","_law_most"] sp_web:=by
 refine F.ok sc_webc (fun vs H Q E h=>?_) (fun cdv A outer s H vs Q E hr h=>?_)
 ·walk_at "h"
 ·obtain⟨d,lo,hi,rfl,hd,h3,hlh,h60,q⟩:=h;have nd:=sc_webc.nd;have hu:=hu_of hr
  refine⟨_,(pss_cons (ps_set (i:=3) nd rfl (.inl rfl) (pe_op op_add (pv 1) (pe_op op_mod (pe_own G1 D1 hr.m (pa_cons (pv 0) pa_nil)) (pe_op op_add (pe_op op_sub (pv 2) (pv 1)) pe_int))))
    (pss_cons (ps_set (i:=4) nd rfl (.inl rfl) (pe_op op_mod (pe_own G1 D1 hr.m (pa_cons (pv 0) pa_nil)) pe_int))
    (pss_cons (ps_set (i:=5) nd rfl (.inl rfl) pe_dnewT)
    (pss_cons (ps_for PassesOwn.never rfl (pi_range2 (by rfl) B.range (pa_cons pe_int (pa_cons (pv 3) pa_nil))) (pg_name (i:=6) nd rfl (.inl rfl))
     (pss_cons (ps_set (i:=7) nd rfl (.inl rfl) (pe_own G1 D1 hr.m (pa_cons (pv 0) pa_nil)))
     (pss_cons (ps_set (i:=8) nd rfl (.inl rfl) (pe_ix (ix_listK K) (pe_lst (pa_cons (pe_op op_sub (pv 6) pe_int) (pa_cons pe_int (pa_cons (pe_op op_mod (pv 7) (pv 6)) (pa_cons (pe_callB (call_max2 rfl) (by rfl) B.max boot_max (pa_cons pe_int (pa_cons (pe_op op_sub (pe_op op_sub (pv 6) pe_int) (pe_op op_mod (pv 7) pe_int)) pa_nil))) (pa_cons (pe_op op_sub (pv 6) pe_int) (pa_cons (pe_callB (call_max2 rfl) (by rfl) B.max boot_max (pa_cons pe_int (pa_cons (pe_op op_sub (pv 6) pe_int) pa_nil))) (pa_cons (pe_op op_fdiv (pe_op op_sub (pv 6) pe_int) pe_int) (pa_cons (pe_op op_mod (pv 7) (pv 6)) pa_nil))))))))) (pv 4) (fun _ _=>rfl)))
     (pss_one (ps_dput hu (pv 5) (pe_tup (pa_cons (pv 8) (pa_cons (pv 6) pa_nil))) pe_bl rfl)))))
    (pss_cons (ps_if (pt_cmpR op_eq (pv 4) pe_int (nomark _))
     (pss_one (ps_dput hu (pv 5) (pe_tup (pa_cons pe_int (pa_cons (pe_op op_sub (pv 3) pe_int) pa_nil))) pe_bl rfl))
     pss_nil)
    (pss_cons (ps_set (i:=9) nd rfl (.inl rfl) (pe_ix (ix_listK K) (pe_lst (pa_cons pe_int (pa_cons pe_int (pa_cons pe_int (pa_cons (pv 3) (pa_cons (pe_op op_mul pe_int (pv 3)) (pa_cons pe_int pa_nil))))))) (pe_op op_mod (pe_own G1 D1 hr.m (pa_cons (pv 0) pa_nil)) pe_int) (fun _ _=>rfl)))
    (pss_cons (ps_for PassesOwn.never rfl (pi_range1 (by rfl) B.range (pa_cons (pv 9) pa_nil)) (pg_name (i:=10) nd rfl (.inl rfl))
     (pss_cons (ps_set (i:=11) nd rfl (.inl rfl) (pe_op op_mod (pe_own G1 D1 hr.m (pa_cons (pv 0) pa_nil)) (pv 3)))
     (pss_cons (ps_set (i:=12) nd rfl (.inl rfl) (pe_op op_mod (pe_own G1 D1 hr.m (pa_cons (pv 0) pa_nil)) (pv 3)))
     (pss_one (ps_if (PW.pt (pw_and (pt_cmpR op_ne (pv 11) (pv 12) (nomark _)) (pw_and1 (pt_cmpR op_lt (pe_callB call_lenDT (by rfl) B.len PySem.boot_len (pa_cons (pv 5) pa_nil)) pe_int (nomark _)))))
      (pss_one (ps_dput hu (pv 5) (pe_tup (pa_cons (pe_callB (call_min2 rfl) (by rfl) B.min boot_min (pa_cons (pv 11) (pa_cons (pv 12) pa_nil))) (pa_cons (pe_callB (call_max2 rfl) (by rfl) B.max boot_max (pa_cons (pv 11) (pa_cons (pv 12) pa_nil))) pa_nil))) pe_bl rfl))
      pss_nil)))))
    (pss_cons (ps_set (i:=13) nd rfl (.inr rfl) (pe_own G2 D2 hr.m (pa_cons (pv 0) (pa_cons (pv 3) pa_nil))))
    (pss_cons (ps_setLC (i:=14) (own:=["_law_one","_law_other"]) (fr:=[("_law_names",13)]) rfl nd rfl rfl (by walk_at "w") (by walk_at "w") (frOk_cons rfl rfl frOk_nil) (pi_listK K (pe_callB (call_sortedD hr.hd) (by rfl) B.sorted boot_sorted (pa_cons (pv 5) pa_nil))) ⟨fun _ _ _ _=>⟨(pg_tupK K (n:=2) rfl (pgs_cons (pg_name (i:=0) (show List.Nodup (["_law_one","_law_other","_law_names"]:List Str) by decide +kernel) rfl (.inl rfl)) (pgs_cons (pg_name (i:=1) (show List.Nodup (["_law_one","_law_other","_law_names"]:List Str) by decide +kernel) rfl (.inl rfl)) pgs_nil))),pts_nil,(pe_tup (pa_cons (pe_callB (call_min2 rfl) (by rfl) B.min boot_min (pa_cons (pe_ix (ix_tupK K) (pv 2) (pv 0) (fun _ _=>rfl)) (pa_cons (pe_ix (ix_tupK K) (pv 2) (pv 1) (fun _ _=>rfl)) pa_nil))) (pa_cons (pe_callB (call_max2 rfl) (by rfl) B.max boot_max (pa_cons (pe_ix (ix_tupK K) (pv 2) (pv 0) (fun _ _=>rfl)) (pa_cons (pe_ix (ix_tupK K) (pv 2) (pv 1) (fun _ _=>rfl)) pa_nil))) pa_nil)))⟩⟩)
    (pss_one (ps_ret (pe_tup (pa_cons (pv 3) (pa_cons (pe_callTy (tupleK K) (by rfl) B.tuple boot_tuple (pa_cons (pe_callB (sortedTK K) (by rfl) B.sorted boot_sorted (pa_cons (pv 14) pa_nil)) pa_nil)) pa_nil)))))))))))))),?_⟩
  walk_at "rd";refine next_use hd fun z1 H1 k1 dk1 e1=>?_
  have r1:=Int.emod_nonneg z1 (b:=hi-lo+1) (by omega);have r2:=Int.emod_lt_of_pos z1 (b:=hi-lo+1) (by omega);refine⟨z1,rfl,by omega,next_use dk1 fun z2 H2 k2 dk2 e2=>⟨z2,rfl,by decide,fun p np=>?_⟩⟩;obtain⟨n,hn⟩:∃ n:Int,n=lo+z1 % (hi-lo+1):=⟨_,rfl⟩
  obtain⟨form,hfo⟩:∃ m:Int,m=z2 % 8:=⟨_,rfl⟩
  rw[← hn,← hfo];have n3:3≤n:=by omega
  have n20:n≤20:=by omega
  have nlo:lo≤n:=by omega
  have nhi:n≤hi:=by omega
  have f0:0≤form:=by omega
  have f8:form<8:=by omega
  clear hn hfo r1 r2 h3 hlh h60;have k02:=k1.trans k2;have nHp:H p=none:=k02.free dk2 np;have pd:p≠d:=hd.ne nHp;refine⟨_,rfl,1,n,rfl,⟨by decide,by decide,by omega,by omega⟩,for_range (lo:=1) (n:=(n-1).toNat) (inv_web1 H d p lo hi n form) ?_ ?_ ?_⟩
  ·exact⟨none,none,none,[],rfl,k02.new nHp,dk2.new pd,upd_same,Nat.le_refl _,by simp,by simp,fun k k0 k1=>by omega⟩
  ·rintro i σ Hc hin ⟨kv,cv,av,fs,rfl,kc,dc,hp,hfl,hF⟩;walk_at "rd";refine next_use dc fun z3 H3 k3 dk3 e3=>?_
   obtain⟨x,hx,x0,x1⟩:=ahead_at (k:=1+(i:Int)) (c:=z3) (form:=form) (by omega) (by omega) (by omega);have hp3:H3 p=some (.dT (kvT fs)):=by rw[e3 p pd];exact hp
   have kk:=kc.trans k3;refine⟨z3,rfl,by omega,z3,rfl,by decide,0,_,⟨rfl,rfl⟩,0,_,⟨rfl,rfl⟩,⟨by omega,by omega⟩,z3,rfl,by omega,by decide,fun pl nl=>⟨_,SqL.of upd_same,_,hx,by decide,fun pt nt=>?_⟩⟩;have nHl:H pl=none:=kk.free dk3 nl;have nHt:H pt=none:=kk.free dk3 (of_upd_none nt);refine⟨_,DPut.t (k:=[Sum.inl x,Sum.inl (1+(i:Int))]) (at_new (at_new hp3 nl) nt) upd_same (by rw[kvT_len];exact sizeBig (by omega)),?_⟩;rw[put_kvT];refine⟨_,_,_,_,rfl,((kk.new nHl).new nHt).new nHp,((dk3.new (hd.ne nHl)).new (hd.ne nHt)).new pd,upd_same,?_,?_⟩
   ·have:=len_addT (fs:=fs) (t:=(x,1+(i:Int)));omega
   ·have:=hF.next x0 (by omega) (by omega);rw[show (1:Int)+i=(i:Int)+1 by omega,show (((i+1:Nat)):Int)=(i:Int)+1 by omega];exact this
  ·rintro σ Hc ⟨kv,cv,av,fs,rfl,kc,dc,hp,hfl,hF⟩;rw[show ((n-1).toNat:Int)=n-1 by omega] at hF;dsimp only
   refine seq_rest (fun σ Hc=>∃ (kv cv av:Option V) (fs:List (Int×Int)),σ=[some (.ref d),some (.int lo),some (.int hi),some (.int n),some (.int form),some (.ref p),kv,cv,av,none,none,none,none,none,none] ∧
     Kp d H Hc∧DkAt Hc d∧Hc p=some (.dT (kvT fs))∧(fs.length:Int)≤n∧Fd n fs (n-1)) (fun R hR=>?_) ?_
   ·walk_at "rd";refine ite2 (fun _=>?_) fun _=>hR _ _ ⟨kv,cv,av,fs,rfl,kc,dc,hp,by omega,hF⟩
    refine⟨by decide,fun pt nt=>⟨_,DPut.t (k:=[Sum.inl 0,Sum.inl (n-1)]) (at_new hp nt) upd_same (kvT_put_len (by omega)),?_⟩⟩;have nHt:H pt=none:=kc.free dc nt;rw[put_kvT];refine hR _ _ ⟨_,_,_,_,rfl,(kc.new nHt).new nHp,(dc.new (hd.ne nHt)).new pd,upd_same,?_,hF.add ⟨Int.le_refl 0,show (0:Int)<n-1 by omega,show n-1<n by omega⟩⟩;have:=len_addT (fs:=fs) (t:=(0,n-1));omega
   ·rintro σ Hc ⟨kv,cv,av,fs,rfl,kc,dc,hp,hfl,hF⟩;walk_at "rd";refine⟨.inl ⟨by omega,by omega⟩,by decide,fun pl nl=>?_⟩;have nHl:H pl=none:=kc.free dc nl;refine next_use (dc.new (hd.ne nHl)) fun z3 H3 k3 dk3 e3=>⟨z3,rfl,by decide,?_⟩
    have hpl:H3 pl=some (.lst [V.int 0,V.int 1,V.int 3,V.int n,V.int (2*n),V.int 0]):=by rw[e3 pl (hd.ne nHl)];exact upd_same
    have hp3:H3 p=some (.dT (kvT fs)):=by rw[e3 p pd];exact at_new hp nl
    obtain⟨more,hmo,m0,m1⟩:∃ m:Int,atI [V.int 0,V.int 1,V.int 3,V.int n,V.int (2*n),V.int 0] (z3 % 6)=some (V.int m)∧0≤m∧m≤2*n:=by
     have hf:z3 % 6=0∨z3 % 6=1∨z3 % 6=2∨z3 % 6=3∨z3 % 6=4∨z3 % 6=5:=by omega
     rcases hf with e | e | e | e | e | e<;>rw[e]
     ·exact⟨_,rfl,by omega,by omega⟩
     ·exact⟨_,rfl,by omega,by omega⟩
     ·exact⟨_,rfl,by omega,by omega⟩
     ·exact⟨_,rfl,by omega,by omega⟩
     ·exact⟨_,rfl,by omega,by omega⟩
     ·exact⟨_,rfl,by omega,by omega⟩
    refine⟨_,SqL.of hpl,_,hmo,?_⟩;refine⟨_,rfl,more,rfl,by omega,by omega,for_range (lo:=0) (n:=more.toNat) (inv_web2 H d p lo hi n form more) ?_ ?_ ?_⟩
    ·exact⟨_,_,_,none,none,none,fs,rfl,(kc.new nHl).trans k3,dk3,hp3,by omega,hF⟩
    ·rintro i σ Hc hin ⟨kv,cv,av,tv,ov,uv,fs,rfl,kc,dc,hp,hfl,hF⟩;walk_at "rd";refine next_use dc fun z4 H4 k4 dk4 e4=>⟨z4,rfl,by omega,next_use dk4 fun z5 H5 k5 dk5 e5=>⟨z5,rfl,by omega,?_⟩⟩
     have hp5:H5 p=some (.dT (kvT fs)):=by rw[e5 p pd,e4 p pd];exact hp
     have kk:=(kc.trans k4).trans k5;have s0:=Int.emod_nonneg z4 (b:=n) (by omega);have s1:=Int.emod_lt_of_pos z4 (b:=n) (by omega);have t0:=Int.emod_nonneg z5 (b:=n) (by omega);have t1:=Int.emod_lt_of_pos z5 (b:=n) (by omega);have same:inv_web2 H d p lo hi n form more (i+1) [some (.ref d),some (.int lo),some (.int hi),some (.int n),some (.int form),some (.ref p),kv,cv,av,some (.int more),some (.int (0+(i:Int))),some (.int (z4 % n)),some (.int (z5 % n)),none,none] H5 :=
      ⟨_,_,_,_,_,_,fs,rfl,kk,dk5,hp5,by omega,hF⟩
     refine ite2 (fun h1=>⟨_,hp5,ite2 (fun h2=>?_) fun _=>same⟩) fun _=>same
     have h1':z4 % n≠z5 % n:=by simpa using h1
     have h2':fs.length<200:=by rw[kvT_len] at h2;have:=of_decide_eq_true h2;omega
     refine⟨_,_,⟨rfl,rfl⟩,_,_,⟨rfl,rfl⟩,by decide,fun pt nt=>?_⟩;have nHt:H pt=none:=kk.free dk5 nt;refine⟨_,DPut.t (k:=[Sum.inl (if z5 % n<z4 % n then z5 % n else z4 % n),Sum.inl (if z5 % n>z4 % n then z5 % n else z4 % n)]) (at_new hp5 nt) upd_same (kvT_put_len (by omega)),?_⟩;rw[put_kvT];refine⟨_,_,_,_,_,_,_,rfl,(kk.new nHt).new nHp,(dk5.new (hd.ne nHt)).new pd,upd_same,?_,hF.add ?_⟩
     ·have:=len_addT (fs:=fs) (t:=(if z5 % n<z4 % n then z5 % n else z4 % n,if z5 % n>z4 % n then z5 % n else z4 % n));omega
     ·dsimp only;split<;>split<;>omega
    ·rintro σ Hc ⟨kv,cv,av,tv,ov,uv,fs,rfl,kc,dc,hp,hfl,hF⟩;walk_at "rd";refine turn_use dc (by omega) (by omega) fun pn ks H4 k4 dk4 nn hpn hperm=>?_
     have hp4:H4 p=some (.dT (kvT fs)):=k4 _ _ pd hp;refine⟨_,hp4,fs.map tl,kvT_keys fs,(fun l hl=>by obtain⟨t,_,rfl⟩:=List.mem_map.mp hl;simp[tl]),by rw[List.length_map];omega,fun ps l pm hto _ nl=>?_⟩;obtain⟨gs,pgs,hgs⟩:=PsAt.of_perm hto pm;have s1:Same H4 (upd H4 l (.lst (ps.map fun x=>V.ref x.1))):=(Same.refl H4).upd nl;refine⟨⟨_,SqL.of upd_same⟩,fun p2 n2=>?_⟩;generalize hH2:upd H4 l (.lst (ps.map fun x=>V.ref x.1))=H5 at s1 n2 ⊢;have hl5:H5 l=some (.lst (ps.map fun x=>V.ref x.1)):=by rw[← hH2];exact upd_same
     have hgs5:=hgs.tp s1.tp;have gr:∀ t∈gs,0≤t.1∧t.1<t.2∧t.2<n:=fun t ht=>hF.2.1 t (pgs.mem_iff.mp ht)
     have gl:gs.length≤60:=by rw[pgs.length_eq];omega
     have kk:=kc.trans k4;refine lc_list (K:=K) (xs:=ps.map fun x=>V.ref x.1) (inv_web3 H5 p2 pn gs ks) ?_ ?_ ?_ ?_
     ·exact⟨none,none,[],rfl,(Same.refl H5).upd n2,upd_same,(fun x hx=>by cases hx),rfl⟩
     ·rintro i τ Hc _ ⟨_,_,_,rfl,sc,_⟩;exact SqL.of (sc _ _ hl5)
     ·rintro i v τ Hc hx ⟨ov,uv,ps2,rfl,sc,h2,hps2⟩ _;obtain⟨a,t,rfl,hti,hta⟩:=hgs5.get hx;have htm:=List.mem_of_getElem? hti;obtain⟨g0,g1,g2⟩:=gr t htm;have hil:i<gs.length:=(List.getElem?_eq_some_iff.mp hti).1;have hpn5:Hc pn=some (.tup (ks.map V.int)):=sc _ _ (s1 _ _ hpn);have a1:atI (ks.map V.int) t.1=some (V.int (nm ks t.1)):=by
       rw[← Int.toNat_of_nonneg g0];refine atI_nat ?_;rw[List.getElem?_map,nm_at hperm g0 (by omega)];rw[Int.toNat_of_nonneg g0];rfl
      have a2:atI (ks.map V.int) t.2=some (V.int (nm ks t.2)):=by
       rw[← Int.toNat_of_nonneg (show 0≤t.2 by omega)];refine atI_nat ?_;rw[List.getElem?_map,nm_at hperm (by omega) g2];rw[Int.toNat_of_nonneg (show 0≤t.2 by omega)];rfl
      walk_at "rd";refine⟨_,SqT.of (sc _ _ hta),rfl,_,_,rfl,_,_,rfl,rfl,_,_,rfl,SqT.of hpn5,_,a1,_,_,rfl,SqT.of hpn5,_,a2,_,_,⟨rfl,rfl⟩,_,_,rfl,SqT.of hpn5,_,a1,_,_,rfl,SqT.of hpn5,_,a2,_,_,⟨rfl,rfl⟩,by decide,fun pq nq=>?_⟩;have hlen2:ps2.length≤200:=by have:=hps2.len;rw[List.length_map,List.length_take] at this;omega
      refine⟨_,at_new h2 nq,by rw[List.length_map];exact sizeBig (by omega),_,_,ps2++[(pq,tl (ren ks t))],rfl,(sc.upd (sc.free nq)).upd n2,by rw[upd_same,List.map_append];rfl,?_⟩;rw[List.take_succ,hti,List.map_append];refine PsAt.snoc (hps2.tp ((Tp.nw nq).trans (Tp.lst (at_new h2 nq)))) ?_;rw[upd_ne (ne_of_none h2 nq).symm,upd_same];rfl
     ·rintro τ Hc ⟨ov,uv,ps2,rfl,sc,h2,hps2⟩;rw[List.length_map,hgs.len,List.take_length] at hps2;refine⟨ps2,hps2.src h2 (by have:=hps2.len;rw[List.length_map] at this;omega),fun ps3 l3 pm3 hs3 nl3=>⟨_,.inl ⟨SqL.of upd_same,fun l4 nl4=>⟨by decide,fun p5 n5=>?_⟩⟩⟩⟩;obtain⟨ts,pts,hts⟩:=hps2.perm pm3;have sc4:Same H4 Hc:=s1.trans sc;have n4a:=sc4.free nl3;have n4b:=sc4.free (of_upd_none nl4);have n4c:=sc4.free (of_upd_none (of_upd_none n5));have nHa:=kk.free dk4 n4a;have nHb:=kk.free dk4 n4b;have nHc:=kk.free dk4 n4c;refine q p5 n ts _ ((((kk.trans sc4.kp).new nHa).new nHb).new nHc) ((((dk4.same sc4).new (hd.ne nHa)).new (hd.ne nHb)).new (hd.ne nHc)) (by omega) (by omega) ?_ ?_
      ·exact web_ren (by omega) (by omega) hF.1 hF.2.1 (by omega) (fun k k0 k1=>hF.2.2 k k0 (by omega)) hperm (pts.trans (pgs.map _)) (hts.srt hs3)
      ·refine⟨l4,upd_same,ps3,at_new upd_same n5,hts.tp ?_⟩;exact (((Tp.refl Hc).new nl3).new (of_upd_none nl4)).new (of_upd_none (of_upd_none n5))
def inv_near (H:Hp)(w0 p:Addr)(n:Int)(ts:List (Int×Int))(i:Nat)(σ:St)(Hc:Hp):Prop:=∃ (av bv:Option V) (as:List Addr),σ=[some (.ref w0),some (.ref p),av,bv]∧FrAt H Hc p as (rowsOf n (ts.take i))
def inv_near2 (H:Hp)(p:Addr)(n:Int)(ts:List (Int×Int))(i:Nat)(τ:St)(Hc:Hp):Prop:=∃ (c:Option V) (as:List Addr),τ=[c]∧FrAt H Hc p as ((rowsOf n ts).take i)
theorem sc_near:FnScope ["_law_web_here","_law_near_here","_law_one","_law_other"] ["_law_web_here"] (defScope (top 38)):=by walk_at "s"
theorem ok_near (F:Fun K "_law_near" "_law_near" (top 38) f fd)(B:Bt mg):FnOk P w K mg base CX0 1 f fd ["_law_web_here"] sp_near:=by
 refine F.ok sc_near (fun vs H Q E h=>?_) (fun cdv A outer s H vs Q E hr h=>?_)
 ·walk_at "h"
 ·obtain⟨w0,n,ts,rfl,hw,hn0,hn1,htl,hok,hsr,q⟩:=h;have nd:=sc_near.nd;have hu:=hu_of hr
  refine⟨_,(pss_cons (ps_setLC (i:=1) (own:=["_law_place"]) (fr:=[]) rfl nd rfl rfl (by walk_at "w") (by walk_at "w") frOk_nil (pi_range1 (by rfl) B.range (pa_cons (pe_ix (ix_tupK K) (pv 0) pe_int (fun _ _=>rfl)) pa_nil)) ⟨fun _ _ _ _=>⟨(pg_name (i:=0) (show List.Nodup (["_law_place"]:List Str) by decide +kernel) rfl (.inl rfl)),pts_nil,(pe_lst pa_nil)⟩⟩)
    (pss_cons (ps_for PassesOwn.never rfl (pi_tupK K (pe_ix (ix_tupK K) (pv 0) pe_int (fun _ _=>rfl))) (pg_tupK K (n:=2) rfl (pgs_cons (pg_name (i:=2) nd rfl (.inl rfl)) (pgs_cons (pg_name (i:=3) nd rfl (.inl rfl)) pgs_nil)))
     (pss_cons (ps_expr (appendK K (pe_ix (ix_listK K) (pv 1) (pv 2) (fun _ _=>rfl)) (pa_cons (pv 3) pa_nil)))
     (pss_one (ps_expr (appendK K (pe_ix (ix_listK K) (pv 1) (pv 3) (fun _ _=>rfl)) (pa_cons (pv 2) pa_nil))))))
    (pss_one (ps_ret (pe_lcomp (own:=["_law_row"]) (fr:=[]) rfl (by walk_at "w") frOk_nil (pi_listK K (pv 1)) ⟨fun _ _ _ _=>⟨(pg_name (i:=0) (show List.Nodup (["_law_row"]:List Str) by decide +kernel) rfl (.inl rfl)),pts_nil,(pe_callB (sortedIK K hr.hd) (by rfl) B.sorted boot_sorted (pa_cons (pv 0) pa_nil))⟩⟩))))),?_⟩
  walk_at "rd";obtain⟨q0,hw0,ht⟩:=hw;obtain⟨xs,hx0,hxl,hxs⟩:=ht.get;refine⟨_,SqT.of hw0,_,rfl,n,rfl,by omega,by omega,fun p np=>lc_range (inv_rows1 H p) ?_ ?_ ?_⟩
  ·exact⟨none,[],rfl,(Same.refl H).upd np,np,(fun a ha=>by cases ha),RowsAt.nil upd_same⟩
  ·rintro i τ Hc hi ⟨c,as,rfl,fr⟩;walk_at "rd";refine⟨by decide,fun pq nq=>⟨_,at_new fr.rows.top nq,?_,?_⟩⟩
   ·rw[List.length_map,fr.rows.len,List.length_replicate];exact sizeBig (by omega)
   ·have:=fr.rows.snoc nq (r:=[]);refine⟨_,as++[pq],rfl,(fr.same.upd (fr.same.free nq)).upd np,np,fun a ha=>?_,?_⟩
    ·rcases List.mem_append.mp ha with ha | ha
     ·exact fr.na a ha
     ·cases List.mem_singleton.mp ha;exact fr.same.free nq
    ·rw[List.map_append] at this;rw[List.replicate_succ'];exact this
  ·rintro τ H2 ⟨c,as,rfl,fr⟩;rw[← rowsOf_nil] at fr;refine⟨_,rfl,_,_,1,_,rfl,rfl,SqT.of (fr.same _ _ hw0),rfl,_,rfl,⟨_,SqT.of (fr.same _ _ hx0)⟩,for_tup (xs:=xs) (inv_near H w0 p n ts) ⟨none,none,as,rfl,by rw[List.take_zero];exact fr⟩ ?_ ?_ ?_⟩
   ·rintro i σ Hc _ ⟨_,_,_,rfl,fr⟩;exact SqT.of (fr.same _ _ hx0)
   ·rintro i v σ Hc hv ⟨av,bv,as,rfl,fr⟩;obtain⟨a,t,rfl,hti,hta⟩:=hxs i v hv;obtain⟨t0,t1,t2⟩:=hok t (List.mem_of_getElem? hti);obtain⟨a1,a2,i1,c1,tp1,i2,c2,fr2⟩:=fr.step t0 t1 t2;have l1:∀ v,((nb (ts.take i) v).map V.int).length<sizeLine:=fun v=>by
     rw[List.length_map];have:=nb_len (ts:=ts.take i) v;rw[List.length_take] at this;exact sizeBig (by omega)
    walk_at "rd";refine⟨_,SqT.of (fr.same _ _ hta),rfl,_,_,rfl,_,_,rfl,rfl,_,_,rfl,SqL.of fr.rows.top,_,i1,.inl ⟨rfl,_,SqL.of c1⟩,_,rfl,_,c1,l1 _,_,_,rfl,SqL.of tp1,_,i2,.inl ⟨rfl,_,SqL.of c2⟩,_,rfl,_,c2,l1 _,_,_,as,rfl,?_⟩;rw[List.take_succ,hti];exact fr2
   ·rintro σ Hc ⟨av,bv,as,rfl,fr⟩;rw[hxl,List.take_length] at fr;walk_at "rd";refine⟨⟨_,SqL.of fr.rows.top⟩,fun p2 n2=>lc_list (K:=K) (xs:=as.map V.ref) (inv_near2 Hc p2 n ts) ?_ ?_ ?_ ?_⟩
    ·exact⟨none,[],rfl,(Same.refl Hc).upd n2,n2,(fun a ha=>by cases ha),RowsAt.nil upd_same⟩
    ·rintro i τ H4 _ ⟨_,_,rfl,fr4⟩;exact SqL.of (fr4.same _ _ fr.rows.top)
    ·rintro i v τ H4 hv ⟨c,bs,rfl,fr4⟩ _;have hil:i<n.toNat:=by
      have:=(List.getElem?_eq_some_iff.mp hv).1;rw[List.length_map,fr.rows.len,rowsOf_len] at this;exact this
     have hri:=rowsOf_get (n:=n) (ts:=ts) (v:=(i:Int)) (by omega) (by omega);rw[Int.toNat_natCast] at hri;rw[List.getElem?_map] at hv;cases ha:as[i]? with
     | none=>rw[ha] at hv;cases hv
     | some a =>
     rw[ha] at hv;cases Option.some.inj hv;have hra:=fr4.same _ _ (fr.rows.row i a _ ha hri);walk_at "rd";refine⟨_,⟨Nat.lt_succ_of_lt (nb_64 hok hsr hn1 _),.inl (SqL.of hra)⟩,fun ns' l pm hs nl=>?_⟩;have e:ns'=nb ts (i:Int):=sorted_self pm hs (nb_lt hok hsr _);subst e;refine⟨_,at_new fr4.rows.top nl,?_,_,bs++[l],rfl,(fr4.same.upd (fr4.same.free nl)).upd n2,n2,fun b hb=>?_,?_⟩
     ·rw[List.length_map,fr4.rows.len,List.length_take,rowsOf_len];exact sizeBig (by omega)
     ·rcases List.mem_append.mp hb with hb | hb
      ·exact fr4.na b hb
      ·cases List.mem_singleton.mp hb;exact fr4.same.free nl
     ·have:=fr4.rows.snoc nl (r:=nb ts (i:Int));rw[List.map_append] at this;rw[List.take_succ,hri];exact this
    ·rintro τ H4 ⟨c,bs,rfl,fr4⟩;rw[List.length_map,fr.rows.len,List.take_length] at fr4;exact q p2 bs H4 (fr.same.trans fr4.same) (fr.same.free n2) (fun b hb=>fr.same.free (fr4.na b hb)) fr4.rows
def inv_nrows (H:Hp)(w0 q0 p:Addr)(n:Int)(ts:List (Int×Int))(i:Nat)(σ:St)(Hc:Hp):Prop:=∃ (av bv:Option V) (as:List Addr),σ=[some (.ref w0),some (.int n),some (.ref q0),some (.ref p),av,bv]∧FrAt H Hc p as (rowsOf n (ts.take i))
theorem sc_nrows:FnScope ["web","places","ties","rows","a","b"] ["web"] (defScope (top 6)):=by walk_at "s"
theorem ok_nrows (F:Fun K "neighbour_rows" "neighbour_rows" (top 6) f fd)(B:Bt mg):FnOk P w K mg base CX0 1 f fd ["web"] sp_nrows:=by
 refine F.ok sc_nrows (fun vs H Q E h=>?_) (fun cdv A outer s H vs Q E hr h=>?_)
 ·walk_at "h"
 ·obtain⟨w0,n,ts,rfl,hw,hn0,hn1,htl,hok,q⟩:=h;have nd:=sc_nrows.nd;have hu:=hu_of hr
  refine⟨_,(pss_cons (ps_asg (pv 0) (pg_tupK K (n:=2) rfl (pgs_cons (pg_name (i:=1) nd rfl (.inl rfl)) (pgs_cons (pg_name (i:=2) nd rfl (.inl rfl)) pgs_nil))))
    (pss_cons (ps_setLC (i:=3) (own:=["place"]) (fr:=[]) rfl nd rfl rfl (by walk_at "w") (by walk_at "w") frOk_nil (pi_range1 (by rfl) B.range (pa_cons (pv 1) pa_nil)) ⟨fun _ _ _ _=>⟨(pg_name (i:=0) (show List.Nodup (["place"]:List Str) by decide +kernel) rfl (.inl rfl)),pts_nil,(pe_lst pa_nil)⟩⟩)
    (pss_cons (ps_for PassesOwn.never rfl (pi_tupK K (pv 2)) (pg_tupK K (n:=2) rfl (pgs_cons (pg_name (i:=4) nd rfl (.inl rfl)) (pgs_cons (pg_name (i:=5) nd rfl (.inl rfl)) pgs_nil)))
     (pss_cons (ps_expr (appendK K (pe_ix (ix_listK K) (pv 3) (pv 4) (fun _ _=>rfl)) (pa_cons (pv 5) pa_nil)))
     (pss_one (ps_expr (appendK K (pe_ix (ix_listK K) (pv 3) (pv 5) (fun _ _=>rfl)) (pa_cons (pv 4) pa_nil))))))
    (pss_one (ps_ret (pv 3)))))),?_⟩
  walk_at "rd";obtain⟨q0,hw0,ht⟩:=hw;obtain⟨xs,hx0,hxl,hxs⟩:=ht.get;refine⟨_,SqT.of hw0,rfl,_,_,rfl,_,_,rfl,rfl,n,rfl,by omega,by omega,fun p np=>lc_range (inv_rows1 H p) ?_ ?_ ?_⟩
  ·exact⟨none,[],rfl,(Same.refl H).upd np,np,(fun a ha=>by cases ha),RowsAt.nil upd_same⟩
  ·rintro i τ Hc hi ⟨c,as,rfl,fr⟩;walk_at "rd";refine⟨by decide,fun pq nq=>⟨_,at_new fr.rows.top nq,?_,?_⟩⟩
   ·rw[List.length_map,fr.rows.len,List.length_replicate];exact sizeBig (by omega)
   ·have:=fr.rows.snoc nq (r:=[]);refine⟨_,as++[pq],rfl,(fr.same.upd (fr.same.free nq)).upd np,np,fun a ha=>?_,?_⟩
    ·rcases List.mem_append.mp ha with ha | ha
     ·exact fr.na a ha
     ·cases List.mem_singleton.mp ha;exact fr.same.free nq
    ·rw[List.map_append] at this;rw[List.replicate_succ'];exact this
  ·rintro τ H2 ⟨c,as,rfl,fr⟩;rw[← rowsOf_nil] at fr;refine⟨_,rfl,_,rfl,⟨_,SqT.of (fr.same _ _ hx0)⟩,for_tup (xs:=xs) (inv_nrows H w0 q0 p n ts) ⟨none,none,as,rfl,by rw[List.take_zero];exact fr⟩ ?_ ?_ ?_⟩
   ·rintro i σ Hc _ ⟨_,_,_,rfl,fr⟩;exact SqT.of (fr.same _ _ hx0)
   ·rintro i v σ Hc hv ⟨av,bv,as,rfl,fr⟩;obtain⟨a,t,rfl,hti,hta⟩:=hxs i v hv;obtain⟨t0,t1,t2⟩:=hok t (List.mem_of_getElem? hti);obtain⟨a1,a2,i1,c1,tp1,i2,c2,fr2⟩:=fr.step t0 t1 t2;have l1:∀ v,((nb (ts.take i) v).map V.int).length<sizeLine:=fun v=>by
     rw[List.length_map];have:=nb_len (ts:=ts.take i) v;rw[List.length_take] at this;exact sizeBig (by omega)
    walk_at "rd";refine⟨_,SqT.of (fr.same _ _ hta),rfl,_,_,rfl,_,_,rfl,rfl,_,_,rfl,SqL.of fr.rows.top,_,i1,.inl ⟨rfl,_,SqL.of c1⟩,_,rfl,_,c1,l1 _,_,_,rfl,SqL.of tp1,_,i2,.inl ⟨rfl,_,SqL.of c2⟩,_,rfl,_,c2,l1 _,_,_,as,rfl,?_⟩;rw[List.take_succ,hti];exact fr2
   ·rintro σ Hc ⟨av,bv,as,rfl,fr⟩;rw[hxl,List.take_length] at fr;exact⟨_,rfl,q p as Hc fr.same fr.np fr.na fr.rows⟩
theorem sc_pint:FnScope ["thing"] ["thing"] (defScope (top 1)):=by walk_at "s"
theorem ok_pint (F:Fun K "is_int" "is_int" (top 1) f fd)(B:Bt mg)(C:Bt2 mg):FnOk P w K mg base CX0 1 f fd ["thing"] sp_pint:=by
 refine F.ok sc_pint (fun vs H Q E h=>?_) (fun cdv A outer s H vs Q E hr h=>?_)
 ·walk_at "h"
 ·obtain⟨x,T,rfl,hx,q⟩:=h;have nd:=sc_pint.nd;have hu:=hu_of hr;refine⟨_,(pss_one (ps_ret (pe_and (pe_callB (isiK K) (by rfl) C.isinstance boot_isinstance (pa_cons (pv 0) (pa_cons (pe_ty (by rfl) B.int boot_int) pa_nil))) (pe_one (pe_not (pe_callB (isiK K) (by rfl) C.isinstance boot_isinstance (pa_cons (pv 0) (pa_cons (pe_ty (by rfl) C.bool boot_bool) pa_nil)))))))),?_⟩;walk_at "rd";refine⟨_,_,⟨rfl,rfl⟩,_,hx.ty,_,kit_plain hx (.inl rfl),?_⟩;have e:=isI_of hx;cases h1:isIn T "int" with
  | true =>
   rw[if_pos rfl];rw[h1,Bool.true_and] at e;refine⟨_,_,⟨rfl,rfl⟩,_,hx.ty,_,kit_plain hx (.inr (.inl rfl)),?_⟩;rw[e];exact q
  | false =>
   rw[if_neg (by decide)];rw[h1,Bool.false_and] at e;rw[← e] at q;exact q
theorem sc_pbetw:FnScope ["thing","least","most"] ["thing","least","most"] (defScope (top 2)):=by walk_at "s"
theorem ok_pbetw (F:Fun K "is_between" "is_between" (top 2) f fd)(B:Bt mg)(D1:Df K mg "is_int" st1 f1 fd1 ["thing"])(G1:FnOk P w K mg base CX0 1 f1 fd1 ["thing"] sp_pint):FnOk P w K mg base CX0 2 f fd ["thing","least","most"] sp_pbetw:=by
 refine F.ok sc_pbetw (fun vs H Q E h=>?_) (fun cdv A outer s H vs Q E hr h=>?_)
 ·walk_at "h"
 ·obtain⟨x,T,lo,hi,rfl,hx,q⟩:=h;have nd:=sc_pbetw.nd;have hu:=hu_of hr;refine⟨_,(pss_one (ps_ret (pe_and (pe_own G1 D1 hr.m (pa_cons (pv 0) pa_nil)) (pe_and (pe_cmpR op_le (pv 1) (pv 0) (nomark _)) (pe_one (pe_cmpR op_le (pv 0) (pv 2) (nomark _))))))),?_⟩;walk_at "rd";refine⟨x,T,rfl,hx,_,rfl,?_⟩;cases h1:isI x with
  | true =>
   rw[if_pos rfl];obtain⟨i,rfl⟩:=isI_int h1;refine⟨i,rfl,?_⟩;unfold betw at q;dsimp only at q;by_cases h2:lo≤i
   ·rw[if_pos (by simpa using h2)];rw[decide_eq_true h2,Bool.true_and] at q;exact⟨i,rfl,q⟩
   ·rw[if_neg (by simpa using h2)];rw[decide_eq_false h2,Bool.false_and] at q;exact q
  | false =>
   rw[if_neg (by decide)];rw[betw_no h1] at q;exact q
def sp_isplace:Sp:=fun vs H Q _=>∃ (w:Addr) (n:Int) (y:V) (x:V) (T:String),vs=[.ref w,x]∧H w=some (.tup [.int n,y])∧Pl H x T∧Q (.bl (betw x 0 (n-1))) H
theorem sc_isplace:FnScope ["web","thing"] ["web","thing"] (defScope (top 11)):=by walk_at "s"
theorem ok_isplace (F:Fun K "is_place" "is_place" (top 11) f fd)(B:Bt mg)(D1:Df K mg "is_between" st1 f1 fd1 ["thing","least","most"])(G1:FnOk P w K mg base CX0 2 f1 fd1 ["thing","least","most"] sp_pbetw):FnOk P w K mg base CX0 3 f fd ["web","thing"] sp_isplace:=by
 refine F.ok sc_isplace (fun vs H Q E h=>?_) (fun cdv A outer s H vs Q E hr h=>?_)
 ·walk_at "h"
 ·obtain⟨w0,n,y,x,T,rfl,hw,hx,q⟩:=h;have nd:=sc_isplace.nd;have hu:=hu_of hr;refine⟨_,(pss_one (ps_ret (pe_own G1 D1 hr.m (pa_cons (pv 1) (pa_cons pe_int (pa_cons (pe_op op_sub (pe_ix (ix_tupK K) (pv 0) pe_int (fun _ _=>rfl)) pe_int) pa_nil)))))),?_⟩;walk_at "rd";exact⟨_,SqT.of hw,_,rfl,n,rfl,x,T,0,n-1,rfl,hx,q⟩
def sp_risI:Sp:=fun vs H Q _=>∃ (p:Addr) (us:List Int),vs=[.ref p]∧H p=some (.tup (us.map V.int))∧us.length≤100000∧∀ b:Bool,(b=true↔us.Pairwise (·<·))→Q (.bl b) H
def inv_risI (H:Hp)(p:Addr)(us:List Int)(i:Nat)(σ:St)(Hc:Hp):Prop:=∃ c:Option V,σ=[some (.ref p),c]∧Hc=H∧∀ j,j<i→us.getD j 0<us.getD (j+1) 0
theorem steps_rise:∀ {us:List Int},(∀ j,j+1<us.length→us.getD j 0<us.getD (j+1) 0)→us.Pairwise (·<·)
 | [],_=>.nil
 | [x],_=>List.pairwise_singleton _ _
 | x::y::r,h=>by
  have ih:=steps_rise (us:=y::r) fun j hj=>by simpa using h (j+1) (by simpa using hj)
  have h0:x<y:=by simpa using h 0 (by simp)
  refine List.pairwise_cons.mpr ⟨fun z hz=>?_,ih⟩;rcases List.mem_cons.mp hz with rfl | hz
  ·exact h0
  ·have:=(List.pairwise_cons.mp ih).1 z hz;omega
theorem rise_step {us:List Int}(h:us.Pairwise (·<·)){j:Nat}(hj:j+1<us.length):us.getD j 0<us.getD (j+1) 0:=by
 rw[List.getD_eq_getElem?_getD,List.getD_eq_getElem?_getD,List.getElem?_eq_getElem hj,List.getElem?_eq_getElem (by omega)];exact List.pairwise_iff_getElem.mp h j (j+1) (by omega) hj (by omega)
theorem atI_D {us:List Int}{j:Int}(h0:0≤j)(h1:j<us.length):atI (us.map V.int) j=some (.int (us.getD j.toNat 0)):=by
 unfold atI ixN;rw[List.length_map,if_pos h0,if_pos h1];show (us.map V.int)[j.toNat]?=_;rw[List.getElem?_map,List.getD_eq_getElem?_getD,List.getElem?_eq_getElem (by omega)];rfl
theorem sc_risI:FnScope ["items","at"] ["items"] (defScope (top 5)):=by walk_at "s"
theorem ok_risI (F:Fun K "is_rising" "is_rising" (top 5) f fd)(B:Bt mg):FnOk P w K mg base CX0 1 f fd ["items"] sp_risI:=by
 refine F.ok sc_risI (fun vs H Q E h=>?_) (fun cdv A outer s H vs Q E hr h=>?_)
 ·walk_at "h"
 ·obtain⟨p,us,rfl,hp,hl,q⟩:=h;have nd:=sc_risI.nd;have hu:=hu_of hr
  refine⟨_,(pss_cons (ps_for PassesOwn.never rfl (pi_range2 (by rfl) B.range (pa_cons pe_int (pa_cons (pe_callB (lenK K) (by rfl) B.len PySem.boot_len (pa_cons (pv 0) pa_nil)) pa_nil))) (pg_name (i:=1) nd rfl (.inl rfl))
     (pss_one (ps_if (pt_not (pt_cmpR op_lt (pe_ix (ix_tupK K) (pv 0) (pe_op op_sub (pv 1) pe_int) (fun _ _=>rfl)) (pe_ix (ix_tupK K) (pv 0) (pv 1) (fun _ _=>rfl)) (nomark _)))
      (pss_one (ps_ret pe_bl))
      pss_nil)))
    (pss_one (ps_ret pe_bl))),?_⟩
  walk_at "rd";refine⟨_,rfl,p,_,rfl,.inr (SqT.of hp),1,_,rfl,⟨by decide,by decide,by rw[List.length_map];omega,by rw[List.length_map];omega⟩,for_range (lo:=1) (n:=(((us.map V.int).length:Int)-1).toNat) (inv_risI H p us) ⟨none,rfl,rfl,fun j hj=>absurd hj (Nat.not_lt_zero _)⟩ ?_ ?_⟩
  ·rintro i σ Hc hi ⟨c,rfl,rfl,hs⟩;rw[List.length_map] at hi;walk_at "rd";refine⟨_,SqT.of hp,_,atI_D (by omega) (by omega),_,SqT.of hp,_,atI_D (by omega) (by omega),?_⟩;refine⟨_,rfl,_,rfl,?_⟩;have e1:(1+(i:Int)-1).toNat=i:=by omega
   have e2:(1+(i:Int)).toNat=i+1:=by omega
   rw[e1,e2];by_cases hlt:us.getD i 0<us.getD (i+1) 0
   ·rw[if_neg (by rw[decide_eq_true hlt];decide)];refine⟨_,rfl,rfl,fun j hj=>?_⟩;rcases Nat.lt_or_ge j i with h | h
    ·exact hs j h
    ·cases (show j=i by omega);exact hlt
   ·rw[if_pos (by rw[decide_eq_false hlt];decide)];exact q false ⟨fun h=>(by cases h),fun h=>absurd (rise_step h (by omega)) hlt⟩
  ·rintro σ Hc ⟨c,rfl,rfl,hs⟩;rw[List.length_map] at hs;exact q true ⟨fun _=>steps_rise fun j hj=>hs j (by omega),fun _=>rfl⟩
def IsPl (H:Hp)(n:Int)(x:V)(bs:List Int):Prop:=∃ p,x=.ref p∧H p=some (.tup (bs.map V.int))∧(∀ v∈bs,0≤v∧v<n)∧bs.Pairwise (·<·)
theorem betw_int {x:V}{n:Int}(h:betw x 0 (n-1)=true):∃ i,x=.int i∧0≤i∧i<n:=by
 cases x with
 | int i =>
  unfold betw at h;simp at h;exact⟨i,rfl,by omega,by omega⟩
 | _=>cases h
theorem ints_of {n:Int}:∀ {xs:List V},(∀ x∈xs,betw x 0 (n-1)=true)→∃ us:List Int,xs=us.map V.int∧∀ v∈us,0≤v∧v<n
 | [],_=>⟨[],rfl,fun v hv=>nomatch hv⟩
 | x::r,h=>by
  obtain⟨us,e,hu⟩:=ints_of (xs:=r) fun z hz=>h z (List.mem_cons_of_mem _ hz)
  obtain⟨i,rfl,h0,h1⟩:=betw_int (h x (List.mem_cons_self ..));refine⟨i::us,by rw[e];rfl,fun v hv=>?_⟩;rcases List.mem_cons.mp hv with rfl | hv
  ·exact⟨h0,h1⟩
  ·exact hu v hv
theorem ints_inj {us vs:List Int}(h:us.map V.int=vs.map V.int):us=vs:=by
 have:=congrArg (List.map fun v:V=>match v with | .int i=>i | _=>0) h;rw[List.map_map,List.map_map] at this;have e:((fun v:V=>match v with | .int i=>i | _=>0) ∘ V.int)=id:=rfl;rw[e,List.map_id,List.map_id] at this;exact this
def sp_vrowX:Sp:=fun vs H Q _=>∃ (w:Addr) (n:Int) (y x:V) (T:String),vs=[.ref w,x]∧H w=some (.tup [.int n,y])∧Pl H x T∧PlD H 1 x∧(∀ a xs,x=.ref a→H a=some (.tup xs)→xs.length≤1000)∧∀ b:Bool,(b=true↔∃ bs,IsPl H n x bs)→Q (.bl b) H
def inv_vrX (H:Hp)(w p:Addr)(n:Int)(xs:List V)(i:Nat)(σ:St)(Hc:Hp):Prop:=∃ c:Option V,σ=[some (.ref w),some (.ref p),c]∧Hc=H∧∀ x∈xs.take i,betw x 0 (n-1)=true
theorem sc_vrowX:FnScope ["web","thing","item"] ["web","thing"] (defScope (top 12)):=by walk_at "s"
theorem ok_vrowX (F:Fun K "is_place_row" "is_place_row" (top 12) f fd)(B:Bt mg)(D1:Df K mg "is_place" st1 f1 fd1 ["web","thing"])(G1:FnOk P w K mg base CX0 3 f1 fd1 ["web","thing"] sp_isplace)(D2:Df K mg "is_rising" st2 f2 fd2 ["items"])(G2:FnOk P w K mg base CX0 1 f2 fd2 ["items"] sp_risI)(C:Bt2 mg):FnOk P w K mg base CX0 4 f fd ["web","thing"] sp_vrowX:=by
 refine F.ok sc_vrowX (fun vs H Q E h=>?_) (fun cdv A outer s H vs Q E hr h=>?_)
 ·walk_at "h"
 ·obtain⟨w0,n,y,x,T,rfl,hw,hx,hd,hlen,q⟩:=h;have nd:=sc_vrowX.nd;have hu:=hu_of hr
  refine⟨_,(pss_cons (ps_if (pt_not (pt_val (pe_callB (isiK K) (by rfl) C.isinstance boot_isinstance (pa_cons (pv 1) (pa_cons (pe_ty (by rfl) B.tuple boot_tuple) pa_nil)))))
     (pss_one (ps_ret pe_bl))
     pss_nil)
    (pss_cons (ps_for PassesOwn.never rfl (pi_tupK K (pv 1)) (pg_name (i:=2) nd rfl (.inl rfl))
     (pss_one (ps_if (pt_not (pt_val (pe_own G1 D1 hr.m (pa_cons (pv 0) (pa_cons (pv 2) pa_nil)))))
      (pss_one (ps_ret pe_bl))
      pss_nil)))
    (pss_one (ps_ret (pe_own G2 D2 hr.m (pa_cons (pv 1) pa_nil)))))),?_⟩
  walk_at "rd";refine⟨_,_,⟨rfl,rfl⟩,_,hx.ty,_,kit_plain hx (.inr (.inr rfl)),?_⟩;cases h1:isIn T "tuple" with
  | false =>
   rw[if_pos (by rfl)];refine q false ⟨fun h=>(by cases h),fun ⟨us,p,e,h2,_⟩=>?_⟩;subst e;cases hx with
   | lst e=>rw[e] at h2;cases h2
   | tup e=>cases h1
   | dK e=>rw[e] at h2;cases h2
   | dT e=>rw[e] at h2;cases h2
  | true =>
   rw[if_neg (by decide)];cases hx with
   | @tup p xs hp =>
    have hl:=hlen p xs rfl hp;have back:(∃ bs,IsPl H n (.ref p) bs)→∀ x∈xs,betw x 0 (n-1)=true:=fun ⟨bs,p',e,h2,h3,_⟩ x hx=>by
     cases e;rw[hp] at h2;cases h2;obtain⟨v,hv,rfl⟩:=List.mem_map.mp hx;have:=h3 v hv;unfold betw;simp;omega
    refine⟨_,rfl,p,rfl,⟨_,SqT.of hp⟩,for_tup (K:=K) (xs:=xs) (inv_vrX H w0 p n xs) ⟨none,rfl,rfl,fun x hx=>(by rw[List.take_zero] at hx;cases hx)⟩ ?_ ?_ ?_⟩
    ·rintro i σ Hc _ ⟨_,rfl,rfl,_⟩;exact SqT.of hp
    ·rintro i v σ Hc hv ⟨a,rfl,rfl,hs⟩;have hm:=List.mem_of_getElem? hv;obtain⟨Tv,hTv⟩:=(hd.2 p xs rfl hp v hm).pl;walk_at "rd";refine⟨w0,n,y,v,Tv,rfl,hw,hTv,_,rfl,?_⟩;by_cases hb:betw v 0 (n-1)=true
     ·rw[hb,if_neg (by decide)];refine⟨_,rfl,rfl,fun x hx=>?_⟩;rw[take_snoc hv] at hx;rcases List.mem_append.mp hx with hx | hx
      ·exact hs x hx
      ·rw[List.mem_singleton.mp hx];exact hb
     ·rw[Bool.eq_false_iff.mpr hb,if_pos (by rfl)];exact q false ⟨fun h=>(by cases h),fun h=>absurd (back h v hm) hb⟩
    ·rintro σ Hc ⟨a,rfl,rfl,hs⟩;rw[List.take_length] at hs;obtain⟨us,rfl,hus⟩:=ints_of hs;walk_at "rd";refine⟨p,us,rfl,hp,by rw[List.length_map] at hl;omega,fun b hb=>q b ⟨fun h=>⟨us,p,rfl,hp,hus,hb.mp h⟩,fun ⟨bs,p',e,h2,_,h4⟩=>hb.mpr ?_⟩⟩;cases e;rw[hp] at h2;injection h2 with h2
     injection h2 with h2
     rw[ints_inj h2];exact h4
   | _=>cases h1
def sp_lots:Sp:=fun vs H Q _=>∃ (w:Addr) (n:Int) (ts:List (Int×Int)),vs=[.ref w]∧WebAt H w n ts∧0≤n∧n≤1000∧ts.length≤1000∧TsOk n ts ∧
 ∀ (p:Addr) (as:List Addr) (H':Hp),Same H H'→H p=none→(∀ a∈as,H a=none)→RowsAt H' p as (lotsOf n ts)→Q (.ref p) H'
def inv_lots (H:Hp)(p:Addr)(n:Int)(ts:List (Int×Int))(i:Nat)(τ:St)(Hc:Hp):Prop:=∃ (c d:Option V) (as:List Addr),τ=[c,d]∧FrAt H Hc p as ((lotsOf n ts).take i)
theorem sc_lots:FnScope ["web"] ["web"] (defScope (top 13)):=by walk_at "s"
theorem ok_lots (F:Fun K "lot_rows" "lot_rows" (top 13) f fd)(B:Bt mg)(D1:Df K mg "neighbour_rows" st1 f1 fd1 ["web"])(G1:FnOk P w K mg base CX0 1 f1 fd1 ["web"] sp_nrows)(C:Bt2 mg):FnOk P w K mg base CX0 2 f fd ["web"] sp_lots:=by
 refine F.ok sc_lots (fun vs H Q E h=>?_) (fun cdv A outer s H vs Q E hr h=>?_)
 ·walk_at "h"
 ·obtain⟨w0,n,ts,rfl,hw,hn0,hn1,htl,hok,q⟩:=h;have nd:=sc_lots.nd;have hu:=hu_of hr;refine⟨_,(pss_one (ps_ret (pe_lcomp (own:=["place","row"]) (fr:=[]) rfl (by walk_at "w") frOk_nil (pi_enum (K:=K) (by rfl) C.enumerate boot_enumerate (pa_cons (pe_own G1 D1 hr.m (pa_cons (pv 0) pa_nil)) pa_nil)) ⟨fun _ _ _ _=>⟨(pg_tupK K (n:=2) rfl (pgs_cons (pg_name (i:=0) (show List.Nodup (["place","row"]:List Str) by decide +kernel) rfl (.inl rfl)) (pgs_cons (pg_name (i:=1) (show List.Nodup (["place","row"]:List Str) by decide +kernel) rfl (.inl rfl)) pgs_nil))),pts_nil,(pe_op op_cat (pe_lst (pa_cons (pv 0) pa_nil)) (pv 1))⟩⟩))),?_⟩;walk_at "rd";refine⟨w0,n,ts,rfl,hw,hn0,hn1,htl,hok,fun rp as H1 s1 nrp nas hR=>?_⟩;refine⟨rp,rfl,⟨_,SqL.of hR.top⟩,fun l nl=>lc_enum (K:=K) (xs:=as.map V.ref) (inv_lots H1 l n ts) ⟨none,none,[],rfl,(Same.refl H1).upd nl,nl,(fun a ha=>by cases ha),RowsAt.nil upd_same⟩ ?_ ?_ ?_⟩
  ·rintro i τ Hc _ ⟨_,_,_,rfl,fr⟩;exact SqL.of (fr.same _ _ hR.top)
  ·rintro i v τ Hc q0 hv ⟨c,d,as2,rfl,fr⟩ nq;have hil:i<n.toNat:=by
    have:=(List.getElem?_eq_some_iff.mp hv).1;rw[List.length_map,hR.len,rowsOf_len] at this;exact this
   have hri:=rowsOf_get (n:=n) (ts:=ts) (v:=(i:Int)) (by omega) (by omega);rw[Int.toNat_natCast] at hri;rw[List.getElem?_map] at hv;cases ha:as[i]? with
   | none=>rw[ha] at hv;cases hv
   | some a =>
   rw[ha] at hv;cases Option.some.inj hv;have nq1:=fr.same.free nq;have hra:=fr.same _ _ (hR.row i a _ ha hri);have hnl:=nb_len (ts:=ts) (i:Int);refine fresh_of nq fun Hd sd ed=>?_
   walk_at "rd";refine⟨_,SqT.of ed,rfl,_,_,rfl,_,_,rfl,rfl,by decide,fun l2 nl2=>fresh_of nl2 fun He se ee=>⟨l2,a,_,_,rfl,rfl,ee,se _ _ (sd _ _ hra),?_,fun l3 nl3=>?_⟩⟩
   ·rw[List.length_map];exact Nat.le_of_lt (sizeBig (by simp;omega))
   have frE:=fr.rows.same (sd.trans se);have sce:Same Hc He:=sd.trans se;refine⟨_,at_new frE.top nl3,?_,?_⟩
   ·rw[List.length_map,frE.len,List.length_take,lotsOf_len];exact sizeBig (by omega)
   ·have:=frE.snoc nl3 (r:=(i:Int)::nb ts (i:Int));refine⟨_,_,as2++[l3],rfl,((fr.same.trans sce).upd (fr.same.free (sce.free nl3))).upd nl,nl,fun x hx=>?_,?_⟩
    ·rcases List.mem_append.mp hx with hx | hx
     ·exact fr.na x hx
     ·rw[List.mem_singleton.mp hx];exact fr.same.free (sce.free nl3)
    ·rw[List.map_append] at this;rw[lotsOf_take hil];exact this
  ·rintro τ Hc ⟨c,d,as2,rfl,fr⟩;rw[List.length_map,hR.len,rowsOf_len,← lotsOf_len n ts,List.take_length] at fr;exact q l as2 Hc (s1.trans fr.same) (s1.free nl) (fun x hx=>s1.free (fr.na x hx)) fr.rows
def sp_common (K:PySem.W.Frag):Sp:=fun zs H Q _=>∃ (pa:Addr) (us:List Int) (pb:Addr) (vs:List Int),zs=[.ref pa,.ref pb]∧(SqL K H pa (us.map V.int)∨SqT K H pa (us.map V.int))∧us.length≤100000∧(SqL K H pb (vs.map V.int)∨SqT K H pb (vs.map V.int)) ∧
 ∀ (b:Bool) (H':Hp),Same H H'→(b=true↔∃ x∈us,x∈vs)→Q (.bl b) H'
theorem sc_common:FnScope ["one","other"] ["one","other"] (defScope (top 14)):=by walk_at "s"
theorem ok_common (F:Fun K "have_common" "have_common" (top 14) f fd)(B:Bt mg)(C3:Bt3 mg):FnOk P w K mg base CX0 1 f fd ["one","other"] (sp_common K):=by
 refine F.ok sc_common (fun vs H Q E h=>?_) (fun cdv A outer s H vs Q E hr h=>?_)
 ·walk_at "h"
 ·obtain⟨pa,us,pb,vs,rfl,hpa,hul,hpb,q⟩:=h;have nd:=sc_common.nd;have hu:=hu_of hr;refine⟨_,(pss_one (ps_ret (pe_callB (anyK K hr.hd) (by rfl) C3.any boot_anyB (pa_cons (pe_lcomp (own:=["place"]) (fr:=[("other",1)]) rfl (by walk_at "w") (frOk_cons rfl rfl frOk_nil) (pi_anyK K (pv 0)) ⟨fun _ _ _ _=>⟨(pg_name (i:=0) (show List.Nodup (["place","other"]:List Str) by decide +kernel) rfl (.inl rfl)),pts_nil,(pe_cmpR (in_seqK K) (pv 0) (pv 1) (by walk_at "w"))⟩⟩) pa_nil)))),?_⟩;walk_at "rd";have key:∀ p (np:H p=none),(∀ ys:List V,upd H p (.lst ys) p=some (.lst ys))→∀ x∈us,TurnF (gName 0) tYes (tOp (rIn K false) (tVar 0) (tVar 1)) p [some (V.ref pb)] H (.int x) true (V.bl (decide (x∈vs))) us.length:=by
   intro p np _ x hx v ys R hy hR1 hR2;have sm:Same H (upd H p (.lst ys)):=(Same.refl H).upd np;walk_at "rd";exact in_use (hpb.imp (fun h=>sm.seq h) (fun h=>sm.seqT h)) (turn_yes hy (by omega) hR1)
  have fin:∀ p (np:H p=none),∃ x:List Bool,SqL K (upd H p (.lst ((us.filter fun _=>true).map fun x=>V.bl (decide (x∈vs))))) p (x.map V.bl)∧Q (.bl (x.any id)) (upd H p (.lst ((us.filter fun _=>true).map fun x=>V.bl (decide (x∈vs))))):=by
   intro p np;rw[fil_true];refine⟨us.map fun x=>decide (x∈vs),SqL.of (by rw[upd_same,List.map_map];rfl),q _ _ ((Same.refl H).upd np) ?_⟩;rw[List.any_map,List.any_eq_true];simp
  rcases hpa with hpa | hpa
  ·exact .inl ⟨⟨_,hpa⟩,fun p np=>lc_listF V.int (fun _=>true) (fun x=>V.bl (decide (x∈vs))) (by omega) hpa np (key p np fun _=>upd_same) (fin p np)⟩
  ·exact .inr ⟨⟨_,hpa⟩,fun p np=>lc_tupF V.int (fun _=>true) (fun x=>V.bl (decide (x∈vs))) (by omega) hpa np (key p np fun _=>upd_same) (fin p np)⟩
def sp_touched:Sp:=fun vs H Q _=>∃ (w:Addr) (n:Int) (ts:List (Int×Int)) (pl:Addr) (us:List Int),vs=[.ref w,.ref pl]∧WebAt H w n ts∧IsWeb n ts∧H pl=some (.tup (us.map V.int))∧us.length≤60∧(∀ x∈us,0≤x∧x<n) ∧
 ∀ (p:Addr) (zs:List Int) (H':Hp),Same H H'→H p=none→H' p=some (.tup (zs.map V.int))→zs.Pairwise (·<·)→(∀ x,x∈zs↔x∉us∧∃ y∈us,x∈nb ts y)→Q (.ref p) H'
def inv_t1 (Hb:Hp)(am:Addr)(us:List Int)(i:Nat)(τ:St)(Hc:Hp):Prop:=∃ (c:Option V) (fs:List Int),τ=[c]∧Same Hb Hc∧Hc am=some (.dK (kvI fs))∧fs.length≤i∧∀ x,x∈fs↔x∈us.take i
def tFnd (Hb:Hp)(n:Int)(fo:Addr)(C:Int→Prop)(Hc:Hp):Prop:=∃ fs:List Int,Same Hb Hc∧Hc fo=some (.dK (kvI fs))∧fs.Nodup∧(∀ x∈fs,0≤x∧x<n)∧∀ x,x∈fs↔C x
def inv_t2 (Hb:Hp)(w0 pl rp am fo:Addr)(n:Int)(ts:List (Int×Int))(us:List Int)(i:Nat)(σ:St)(Hc:Hp):Prop:=∃ (pv ov:Option V),σ=[some (.ref w0),some (.ref pl),some (.ref rp),pv,some (.ref am),some (.ref fo),ov] ∧
 tFnd Hb n fo (fun x=>x∉us∧∃ y∈us.take i,x∈nb ts y) Hc
def inv_t3 (Hb:Hp)(w0 pl rp am fo:Addr)(n:Int)(ts:List (Int×Int))(us:List Int)(i:Nat)(u:Int)(j:Nat)(σ:St)(Hc:Hp):Prop:=∃ (ov:Option V),σ=[some (.ref w0),some (.ref pl),some (.ref rp),some (.int u),some (.ref am),some (.ref fo),ov] ∧
 tFnd Hb n fo (fun x=>x∉us∧((∃ y∈us.take i,x∈nb ts y)∨x∈(nb ts u).take j)) Hc
theorem sc_touched:FnScope ["web","places","rows","place","among","found","other"] ["web","places"] (defScope (top 7)):=by walk_at "s"
theorem ok_touched (F:Fun K "touched" "touched" (top 7) f fd)(B:Bt mg)(D1:Df K mg "neighbour_rows" st1 f1 fd1 ["web"])(G1:FnOk P w K mg base CX0 1 f1 fd1 ["web"] sp_nrows):FnOk P w K mg base CX0 2 f fd ["web","places"] sp_touched:=by
 refine F.ok sc_touched (fun vs H Q E h=>?_) (fun cdv A outer s H vs Q E hr h=>?_)
 ·walk_at "h"
 ·obtain⟨w0,n,ts,pl,us,rfl,hw,hok,hpl,hul,hus,q⟩:=h;have nd:=sc_touched.nd;have hu:=hu_of hr
  refine⟨_,(pss_cons (ps_set (i:=2) nd rfl (.inl rfl) (pe_own G1 D1 hr.m (pa_cons (pv 0) pa_nil)))
    (pss_cons (ps_setDC (i:=4) (own:=["place"]) (fr:=[]) false hu rfl nd rfl rfl (by walk_at "w") (by walk_at "w") frOk_nil (pi_tupK K (pv 1)) ⟨fun _ _ _ _=>⟨(pg_name (i:=0) (show List.Nodup (["place"]:List Str) by decide +kernel) rfl (.inl rfl)),pts_nil,(pv 0),pe_bl⟩⟩)
    (pss_cons (ps_set (i:=5) nd rfl (.inl rfl) pe_dnewK)
    (pss_cons (ps_for PassesOwn.never rfl (pi_tupK K (pv 1)) (pg_name (i:=3) nd rfl (.inl rfl))
     (pss_one (ps_for PassesOwn.never rfl (pi_listK K (pe_ix (ix_listK K) (pv 2) (pv 3) (fun _ _=>rfl))) (pg_name (i:=6) nd rfl (.inl rfl))
      (pss_one (ps_if (pt_cmp (pc_dnotin hu (pv 6) (pv 4)))
       (pss_one (ps_dput hu (pv 5) (pv 6) pe_bl rfl))
       pss_nil)))))
    (pss_one (ps_ret (pe_callTy (tupleK K) (by rfl) B.tuple boot_tuple (pa_cons (pe_callB (sortedIK K hr.hd) (by rfl) B.sorted boot_sorted (pa_cons (pv 5) pa_nil)) pa_nil)))))))),?_⟩
  walk_at "rd";have h3:=hok.n3;have h60:=hok.n60;have hl:=hok.len;refine⟨w0,n,ts,rfl,hw,by omega,by omega,by omega,hok.rng,fun rp as H1 s1 np na hR=>?_⟩;refine⟨⟨_,SqT.of (s1 _ _ hpl)⟩,fun am nam=>dc_tup (K:=K) (xs:=us.map V.int) (inv_t1 H1 am us) ⟨none,[],rfl,(Same.refl H1).upd nam,upd_same,Nat.le_refl _,by simp⟩ ?_ ?_ ?_⟩
  ·rintro i τ Hc _ ⟨_,_,rfl,sc,_⟩;exact SqT.of (sc _ _ (s1 _ _ hpl))
  ·rintro i v τ Hc hv ⟨c,fs,rfl,sc,ha,hfl,hm⟩;rw[List.getElem?_map] at hv;cases hu0:us[i]? with
   | none=>rw[hu0] at hv;cases hv
   | some u =>
   rw[hu0] at hv;cases Option.some.inj hv;have hil:=(List.getElem?_eq_some_iff.mp hu0).1;walk_at "rd";refine⟨_,DPut.k (k:=Sum.inl u) ha (kvI_small (by omega)),?_⟩;rw[put_kvI];refine⟨_,_,rfl,sc.upd nam,upd_same,?_,fun x=>?_⟩
   ·have:=len_addI (us:=fs) (x:=u);omega
   ·rw[mem_addI,hm,List.take_succ,hu0];simp
  ·rintro τ H2 ⟨c,fs,rfl,sc,ha,hfl,hm⟩;rw[List.length_map,List.take_length] at hm;refine fun fo nfo=>?_
   have s2:Same H1 H2:=sc;have R2:=hR.same s2;have ham:∀ {Hc:Hp},Same H2 Hc→Hc am=some (.dK (kvI fs)):=fun s=>s _ _ ha
   refine⟨_,rfl,_,rfl,⟨_,SqT.of (at_new (s2 _ _ (s1 _ _ hpl)) nfo)⟩,for_tup (K:=K) (xs:=us.map V.int) (inv_t2 H2 w0 pl rp am fo n ts us) ⟨none,none,rfl,[],(Same.refl H2).upd nfo,upd_same,by simp,by simp,by simp⟩ ?_ ?_ ?_⟩
   ·rintro i σ Hc _ ⟨_,_,rfl,_,sc,_⟩;exact SqT.of (sc _ _ (s2 _ _ (s1 _ _ hpl)))
   ·rintro i v σ Hc hv ⟨pv,ov,rfl,gs,sc,hfo,gnd,grn,gm⟩;rw[List.getElem?_map] at hv;cases hu0:us[i]? with
    | none=>rw[hu0] at hv;cases hv
    | some u =>
    rw[hu0] at hv;cases Option.some.inj hv;obtain⟨u0,u1⟩:=hus u (List.mem_of_getElem? hu0);obtain⟨a,e1,e2,e3,e4⟩:=(R2.same sc).get u0 (rowsOf_get u0 u1);have hrow:∀ {Hd:Hp},Same H2 Hd→Hd a=some (.lst ((nb ts u).map V.int)):=fun s=>s _ _ (R2.row _ _ _ e1 (rowsOf_get u0 u1))
    walk_at "rd";refine⟨_,rfl,_,rfl,_,_,_,_,rfl,rfl,SqL.of (sc _ _ R2.top),e2,_,rfl,⟨_,SqL.of (hrow sc)⟩,for_list (K:=K) (xs:=(nb ts u).map V.int) (inv_t3 H2 w0 pl rp am fo n ts us i u) ⟨_,rfl,gs,sc,hfo,gnd,grn,fun x=>?_⟩ ?_ ?_ ?_⟩
    ·rw[gm];simp
    ·rintro j σ Hd _ ⟨_,rfl,_,sd,_⟩;exact SqL.of (hrow sd)
    ·rintro j v σ Hd hv ⟨ov,rfl,gs,sd,hfo,gnd,grn,gm⟩;rw[List.getElem?_map] at hv;cases hx0:(nb ts u)[j]? with
     | none=>rw[hx0] at hv;cases hv
     | some x =>
     rw[hx0] at hv;cases Option.some.inj hv;have hxm:=List.mem_of_getElem? hx0;obtain⟨x0,x1,_⟩:=nb_rng hok.rng hxm;walk_at "rd";refine⟨_,DGet.k (k:=Sum.inl x) (ham sd),?_⟩;rw[val_kvI];refine ite2 (fun h=>?_) fun h=>?_
     ·have hxu:x∉us:=by rw[← hm];simpa using h
      have gl:=nd_len gnd grn;refine⟨_,DPut.k (k:=Sum.inl x) hfo (kvI_small (by omega)),?_⟩;rw[put_kvI];refine⟨_,rfl,_,sd.upd nfo,upd_same,nd_addI gnd,fun y hy=>?_,fun y=>?_⟩
      ·rcases mem_addI.mp hy with hy | rfl
       ·exact grn y hy
       ·exact⟨x0,x1⟩
      ·rw[mem_addI,gm,List.take_succ,hx0];simp only[Option.toList_some,List.mem_append,List.mem_singleton];constructor
       ·rintro (⟨a,b⟩ | rfl)
        ·exact⟨a,b.elim .inl fun c=>.inr (.inl c)⟩
        ·exact⟨hxu,.inr (.inr rfl)⟩
       ·rintro⟨a,b | b | b⟩
        ·exact .inl ⟨a,.inl b⟩
        ·exact .inl ⟨a,.inr b⟩
        ·exact .inr b
     ·have hxu:x∈us:=by rw[← hm];simpa using h
      refine⟨_,rfl,gs,sd,hfo,gnd,grn,fun y=>?_⟩;rw[gm,List.take_succ,hx0];simp only[Option.toList_some,List.mem_append,List.mem_singleton];constructor
      ·rintro⟨a,b⟩;exact⟨a,b.elim .inl fun c=>.inr (.inl c)⟩
      ·rintro⟨a,b | b | b⟩
       ·exact⟨a,.inl b⟩
       ·exact⟨a,.inr b⟩
       ·subst b;exact absurd hxu a
    ·rintro σ Hd ⟨ov,rfl,gs,sd,hfo,gnd,grn,gm⟩;rw[List.length_map,List.take_length] at gm;refine⟨_,_,rfl,gs,sd,hfo,gnd,grn,fun y=>?_⟩;rw[gm,List.take_succ,hu0];simp only[Option.toList_some,List.mem_append,List.mem_singleton];constructor
     ·rintro⟨a,⟨z,b,c⟩ | b⟩
      ·exact⟨a,z,.inl b,c⟩
      ·exact⟨a,u,.inr rfl,b⟩
     ·rintro⟨a,z,b | rfl,c⟩
      ·exact⟨a,.inl ⟨z,b,c⟩⟩
      ·exact⟨a,.inr c⟩
   ·rintro σ Hc ⟨pv,ov,rfl,gs,sc,hfo,gnd,grn,gm⟩;rw[List.length_map,List.take_length] at gm;walk_at "rd";refine⟨gs,⟨by have:=nd_len gnd grn;omega,.inr (.inr ⟨_,hfo,kvI_keys gs⟩)⟩,fun ns l pm hs nl=>⟨_,.inl ⟨SqL.of upd_same,fun l2 n2=>?_⟩⟩⟩;have s3:Same H Hc:=(s1.trans s2).trans sc;have f1:=s3.free nl;have f2:=s3.free (of_upd_none n2);refine q l2 ns _ ((s3.upd f1).upd f2) f2 upd_same (sorted_rising pm hs gnd) fun x=>?_
    rw[pm.mem_iff,gm]
def sp_pfromS:Sp:=fun vs H Q _=>∃ (rp:Addr) (as:List Addr) (n:Int) (ts:List (Int×Int)) (am:Addr) (ls:List Int) (u:Int),vs=[.ref rp,.ref am,.int u]∧RowsAt H rp as (rowsOf n ts)∧TsOk n ts∧n≤60∧ts.length≤1000∧H am=some (.dK (kvI ls))∧0≤u∧u<n ∧
 ∀ (p:Addr) (zs:List Int) (H':Hp),Same H H'→H p=none→H' p=some (.tup (zs.map V.int))→zs.Pairwise (·<·)→(∀ x,x∈zs↔Rch ts (·∈ls) u x)→Q (.ref p) H'
def inv_pf (H:Hp)(rp am me wl:Addr)(n:Int)(ts:List (Int×Int))(ls:List Int)(u:Int)(σ:St)(Hc:Hp):Prop:=∃ (pv ov:Option V) (fs ws:List Int),σ=[some (.ref rp),some (.ref am),some (.int u),some (.ref me),some (.ref wl),pv,ov]∧SrAt H Hc me wl fs ws∧Srch n ts (·∈ls) u fs ws∧2*(n.toNat-fs.length)+ws.length≤2*n.toNat
def inv_pf2 (H:Hp)(rp am me wl:Addr)(n:Int)(ts:List (Int×Int))(ls:List Int)(u v:Int)(m0:Nat)(j:Nat)(σ:St)(Hc:Hp):Prop:=∃ (ov:Option V) (fs ws:List Int),σ=[some (.ref rp),some (.ref am),some (.int u),some (.ref me),some (.ref wl),some (.int v),ov]∧SrAt H Hc me wl fs ws∧Srch' n ts (·∈ls) u fs ws v j∧2*(n.toNat-fs.length)+ws.length<m0
theorem sc_pfrom:FnScope ["rows","among","start","met","waiting","place","other"] ["rows","among","start"] (defScope (top 8)):=by walk_at "s"
theorem ok_pfrom (F:Fun K "piece_from" "piece_from" (top 8) f fd)(B:Bt mg):FnOk P w K mg base CX0 1 f fd ["rows","among","start"] sp_pfromS:=by
 refine F.ok sc_pfrom (fun vs H Q E h=>?_) (fun cdv A outer s H vs Q E hr h=>?_)
 ·walk_at "h"
 ·obtain⟨rp,as,n,ts,am,ls,u,rfl,hR,hok,hn1,htl,ham,u0,u1,q⟩:=h;have nd:=sc_pfrom.nd;have hu:=hu_of hr
  refine⟨_,(pss_cons (ps_set (i:=3) nd rfl (.inl rfl) (pe_disp (pps_cons (pv 2) pe_bl pps_nil) rfl rfl (by simp) (by decide)))
    (pss_cons (ps_set (i:=4) nd rfl (.inl rfl) (pe_lst (pa_cons (pv 2) pa_nil)))
    (pss_cons (ps_while PassesOwn.never (truthK K (pv 4) (fun _=>rfl))
     (pss_cons (ps_set (i:=5) nd rfl (.inl rfl) (popK K (pv 4)))
     (pss_one (ps_for PassesOwn.never rfl (pi_listK K (pe_ix (ix_listK K) (pv 0) (pv 5) (fun _ _=>rfl))) (pg_name (i:=6) nd rfl (.inl rfl))
      (pss_one (ps_if (PW.pt (pw_and (pt_cmp (pc_din hu (pv 6) (pv 1))) (pw_and1 (pt_cmp (pc_dnotin hu (pv 6) (pv 3))))))
       (pss_cons (ps_dput hu (pv 3) (pv 6) pe_bl rfl)
       (pss_one (ps_expr (appendK K (pv 4) (pa_cons (pv 6) pa_nil)))))
       pss_nil))))))
    (pss_one (ps_ret (pe_callTy (tupleK K) (by rfl) B.tuple boot_tuple (pa_cons (pe_callB (sortedIK K hr.hd) (by rfl) B.sorted boot_sorted (pa_cons (pv 3) pa_nil)) pa_nil))))))),?_⟩
  walk_at "rd";refine fun me nme=>⟨upd_same,[(Sum.inl u,V.bl true)],rfl,Nat.le_of_ble_eq_true rfl,?_⟩
  rw[disp1];refine fresh_of nme fun H1 s1 e1=>⟨by decide,fun wl nwl=>fresh_of nwl fun H2 s2 e2=>?_⟩
  have nw:H wl=none:=s1.free nwl;refine while_by (inv_pf H rp am me wl n ts ls u) (fun _ Hc=>srM n me wl Hc) ⟨none,none,[u],[u],rfl,⟨s1.trans s2,s2 _ _ e1,e2⟩,Srch.init u0 u1,by simp;omega⟩ ?_ (fun σ H Q Q' h ⟨x,e,k,t,q⟩=>⟨x,e,k,t,h _ _ q⟩);rintro σ Hc ⟨pv,ov,fs,ws,rfl,sr,sh,hb⟩;refine⟨_,rfl,_,.inl ⟨_,SqL.of sr.wait,rfl⟩,ite2 (fun hne=>?_) fun he=>?_⟩
  ·have hw0:ws≠[]:=fun e=>by subst e;simp at hne
   obtain⟨ws',v,rfl⟩:=last_of hw0;obtain⟨hl1,sr1⟩:=sr.pop nw;have sh1:=sh.pop;have hm0:2*(n.toNat-fs.length)+ws'.length<srM n me wl Hc:=by rw[sr.mu,List.length_append,List.length_singleton];omega
   have hmb:srM n me wl Hc≤2*n.toNat:=by rw[sr.mu];exact hb
   obtain⟨v0,v1⟩:=sh1.rng v sh1.vin;walk_at "rd";refine⟨.inl ⟨rfl,_,SqL.of sr.wait⟩,_,sr.wait,_,hl1,?_⟩;obtain⟨a,a1,a2,a3,a4⟩:=hR.get v0 (rowsOf_get v0 v1);have top2:=sr1.same _ _ hR.top;refine⟨_,rfl,_,rfl,_,_,_,_,rfl,rfl,SqL.of top2,a2,_,rfl,⟨_,SqL.of (sr1.same _ _ a3)⟩,for_list (K:=K) (xs:=(nb ts v).map V.int) (inv_pf2 H rp am me wl n ts ls u v (srM n me wl Hc)) ⟨_,fs,ws',rfl,sr1,sh1,hm0⟩ ?_ ?_ ?_⟩
   ·rintro j σ Hd _ ⟨_,_,_,rfl,sr2,_⟩;exact SqL.of (sr2.same _ _ a3)
   ·rintro j w σ Hd hv ⟨ov,fs,ws,rfl,sr2,sh2,hm2⟩;rw[List.getElem?_map] at hv;cases hy0:(nb ts v)[j]? with
    | none=>rw[hy0] at hv;cases hv
    | some y =>
    rw[hy0] at hv;cases Option.some.inj hv;have hfl:=nd_len sh2.nd sh2.rng;walk_at "rd";refine⟨_,DGet.k (k:=Sum.inl y) (sr2.same _ _ ham),?_⟩;rw[val_kvI];refine ite2 (fun hA=>⟨_,DGet.k (k:=Sum.inl y) sr2.met,?_⟩) fun hA=>⟨_,fs,ws,rfl,sr2,sh2.skip hy0 (.inl (by simpa using hA)),hm2⟩
    rw[val_kvI];refine ite2 (fun hB=>?_) fun hB=>⟨_,fs,ws,rfl,sr2,sh2.skip hy0 (.inr (by simpa using hB)),hm2⟩
    have hyl:y∈ls:=by simpa using hA
    have hyf:y∉fs:=by simpa using hB
    have sh3:=sh2.add hok hy0 hyl hyf;have hfl3:=nd_len sh3.nd sh3.rng;rw[List.length_append,List.length_singleton] at hfl3;refine⟨_,DPut.k (k:=Sum.inl y) sr2.met (kvI_small (by omega)),?_⟩;rw[put_kvI];have hwt:(upd Hd me (.dK (kvI (addI fs y)))) wl=some (.lst (ws.map V.int)):=by rw[upd_ne sr2.ne.symm];exact sr2.wait
    have hwl:ws.length≤3000:=by omega
    refine⟨.inl ⟨rfl,_,SqL.of hwt⟩,_,hwt,by rw[List.length_map];exact sizeBig (by omega),_,fs++[y],ws++[y],rfl,sr2.add nme nw hyf,sh3,?_⟩;rw[List.length_append,List.length_append,List.length_singleton];omega
   ·rintro σ Hd ⟨ov,fs,ws,rfl,sr2,sh2,hm2⟩;rw[List.length_map] at sh2;exact⟨⟨_,_,fs,ws,rfl,sr2,sh2.done (Nat.le_refl _),by omega⟩,by rw[sr2.mu];exact hm2⟩
  ·have hw0:ws=[]:=by simpa using he
   subst hw0;walk_at "rd";refine⟨fs,⟨by have:=nd_len sh.nd sh.rng;omega,.inr (.inr ⟨_,sr.met,kvI_keys fs⟩)⟩,fun ns l pm hs nl=>fresh_of nl fun H4 s4 e4=>⟨_,.inl ⟨SqL.of e4,fun l2 n2=>fresh_of n2 fun H5 s5 e5=>?_⟩⟩⟩;have s3:=(sr.same.trans s4)
   refine q l2 ns H5 (s3.trans s5) (s3.free n2) e5 (sorted_rising pm hs sh.nd) fun x=>?_
   rw[pm.mem_iff];exact sh.fin x
def sp_pieces:Sp:=fun vs H Q _=>∃ (w:Addr) (n:Int) (ts:List (Int×Int)) (pl:Addr) (us:List Int),vs=[.ref w,.ref pl]∧WebAt H w n ts∧TsOk n ts∧0≤n∧n≤60∧ts.length≤1000∧H pl=some (.tup (us.map V.int))∧us.length≤1000∧(∀ x∈us,0≤x∧x<n) ∧
 ∀ (p:Addr) (H':Hp),Same H H'→H p=none→LsAt H' p (lots n ts us us)→Q (.ref p) H'
def inv_pc (Hb:Hp)(w0 pl rp le lo:Addr)(n:Int)(ts:List (Int×Int))(us:List Int)(i:Nat)(σ:St)(Hc:Hp):Prop:=∃ (pv tv ov:Option V) (ls:List Int) (ps:List (Addr×List Int)),σ=[some (.ref w0),some (.ref pl),some (.ref rp),pv,some (.ref le),some (.ref lo),tv,ov] ∧
 Same Hb Hc∧Hc le=some (.dK (kvI ls))∧LlAt Hc lo ps∧ps.map (·.2)=lots n ts us (us.take i)∧ls.Nodup∧∀ x,x∈ls↔x∈us∧¬ inAny (lots n ts us (us.take i)) x
def inv_pc2 (Hb:Hp)(w0 pl rp le lo lt:Addr)(u:Int)(ls zs:List Int)(ps:List (Addr×List Int))(j:Nat)(σ:St)(Hc:Hp):Prop:=∃ (ov:Option V),σ=[some (.ref w0),some (.ref pl),some (.ref rp),some (.int u),some (.ref le),some (.ref lo),some (.ref lt),ov] ∧
 Same Hb Hc∧Hc le=some (.dK (kvI (ls.filter fun x=>!decide (x∈zs.take j))))∧LlAt Hc lo ps∧Hc lt=some (.tup (zs.map V.int))
theorem sc_pieces:FnScope ["web","places","rows","place","left","lots","lot","other"] ["web","places"] (defScope (top 9)):=by walk_at "s"
theorem ok_pieces (F:Fun K "pieces" "pieces" (top 9) f fd)(B:Bt mg)(D1:Df K mg "neighbour_rows" st1 f1 fd1 ["web"])(G1:FnOk P w K mg base CX0 1 f1 fd1 ["web"] sp_nrows)(D2:Df K mg "piece_from" st2 f2 fd2 ["rows","among","start"])(G2:FnOk P w K mg base CX0 1 f2 fd2 ["rows","among","start"] sp_pfromS):FnOk P w K mg base CX0 2 f fd ["web","places"] sp_pieces:=by
 refine F.ok sc_pieces (fun vs H Q E h=>?_) (fun cdv A outer s H vs Q E hr h=>?_)
 ·walk_at "h"
 ·obtain⟨w0,n,ts,pl,us,rfl,hw,hok,hn0,hn1,htl,hpl,hul,hus,q⟩:=h;have nd:=sc_pieces.nd;have hu:=hu_of hr
  refine⟨_,(pss_cons (ps_set (i:=2) nd rfl (.inl rfl) (pe_own G1 D1 hr.m (pa_cons (pv 0) pa_nil)))
    (pss_cons (ps_setDC (i:=4) (own:=["place"]) (fr:=[]) false hu rfl nd rfl rfl (by walk_at "w") (by walk_at "w") frOk_nil (pi_tupK K (pv 1)) ⟨fun _ _ _ _=>⟨(pg_name (i:=0) (show List.Nodup (["place"]:List Str) by decide +kernel) rfl (.inl rfl)),pts_nil,(pv 0),pe_bl⟩⟩)
    (pss_cons (ps_set (i:=5) nd rfl (.inl rfl) (pe_lst pa_nil))
    (pss_cons (ps_for PassesOwn.never rfl (pi_tupK K (pv 1)) (pg_name (i:=3) nd rfl (.inl rfl))
     (pss_one (ps_if (pt_cmp (pc_din hu (pv 3) (pv 4)))
      (pss_cons (ps_set (i:=6) nd rfl (.inl rfl) (pe_own G2 D2 hr.m (pa_cons (pv 2) (pa_cons (pv 4) (pa_cons (pv 3) pa_nil)))))
      (pss_cons (ps_expr (appendK K (pv 5) (pa_cons (pv 6) pa_nil)))
      (pss_one (ps_for PassesOwn.never rfl (pi_tupK K (pv 6)) (pg_name (i:=7) nd rfl (.inl rfl))
       (pss_one (ps_ddel (pv 4) (pv 7)))))))
      pss_nil)))
    (pss_one (ps_ret (pe_callTy (tupleK K) (by rfl) B.tuple boot_tuple (pa_cons (pv 5) pa_nil)))))))),?_⟩
  walk_at "rd";refine⟨w0,n,ts,rfl,hw,by omega,by omega,by omega,hok,fun rp as H1 s1 np na hR=>?_⟩;refine⟨⟨_,SqT.of (s1 _ _ hpl)⟩,fun le nle=>dc_tup (K:=K) (xs:=us.map V.int) (inv_dc H1 le us) ⟨none,[],rfl,(Same.refl H1).upd nle,upd_same,Nat.le_refl _,by simp,by simp⟩ ?_ ?_ ?_⟩
  ·rintro i τ Hc _ ⟨_,_,rfl,sc,_⟩;exact SqT.of (sc _ _ (s1 _ _ hpl))
  ·rintro i v τ Hc hv ⟨c,fs,rfl,sc,ha,hfl,hnd,hm⟩;rw[List.getElem?_map] at hv;cases hu0:us[i]? with
   | none=>rw[hu0] at hv;cases hv
   | some u =>
   rw[hu0] at hv;cases Option.some.inj hv;have hil:=(List.getElem?_eq_some_iff.mp hu0).1;walk_at "rd";refine⟨_,DPut.k (k:=Sum.inl u) ha (kvI_small (by omega)),?_⟩;rw[put_kvI];refine⟨_,_,rfl,sc.upd nle,upd_same,?_,nd_addI hnd,fun x=>?_⟩
   ·have:=len_addI (us:=fs) (x:=u);omega
   ·rw[mem_addI,hm,List.take_succ,hu0];simp
  ·rintro τ H2 ⟨c,fs,rfl,sc,ha,hfl,hfnd,hm⟩;rw[List.length_map,List.take_length] at hm;refine⟨by decide,fun lo nlo=>fresh_of nlo fun H3 s3 e3=>?_⟩;have nlo1:H1 lo=none:=sc.free nlo;have nele:lo≠le:=(ne_of_none ha nlo).symm;refine⟨_,rfl,_,rfl,⟨_,SqT.of (s3 _ _ (sc _ _ (s1 _ _ hpl)))⟩,for_tup (K:=K) (xs:=us.map V.int) (inv_pc H1 w0 pl rp le lo n ts us) ⟨none,none,none,fs,[],rfl,sc.trans s3,s3 _ _ ha,⟨e3,fun x hx=>by cases hx⟩,rfl,hfnd,fun x=>?_⟩ ?_ ?_ ?_⟩
   ·rw[hm];exact⟨fun h=>⟨h,fun ⟨l,hl,_⟩=>by cases hl⟩,fun h=>h.1⟩
   ·rintro i σ Hc _ ⟨_,_,_,_,_,rfl,sd,_⟩;exact SqT.of (sd _ _ (s1 _ _ hpl))
   ·rintro i v σ Hc hv ⟨pv,tv,ov,ls,ps,rfl,sd,hle,hlo,hps,lnd,hls⟩;rw[List.getElem?_map] at hv;cases hu0:us[i]? with
    | none=>rw[hu0] at hv;cases hv
    | some u =>
    rw[hu0] at hv;cases Option.some.inj hv;have hum:=List.mem_of_getElem? hu0;obtain⟨u0,u1⟩:=hus u hum;have hil:=(List.getElem?_eq_some_iff.mp hu0).1;have hsn:lots n ts us (us.take (i+1))=lotsStep (pcOf n ts us) (lots n ts us (us.take i)) u:=by
     rw[List.take_succ,hu0];exact lots_snoc _ _
    have hpl2:ps.length≤1000:=by
     have h1:=congrArg List.length hps;rw[List.length_map] at h1;have h2:=lots_len (n:=n) (ts:=ts) (us:=us) (us.take i);rw[List.length_take] at h2;omega
    walk_at "rd";refine⟨_,DGet.k (k:=Sum.inl u) hle,?_⟩;rw[val_kvI];refine ite2 (fun h=>?_) fun h=>?_
    ·have hul:u∈ls:=by simpa using h
     have hnu:¬ inAny (lots n ts us (us.take i)) u:=((hls u).mp hul).2;have hsn2:lots n ts us (us.take (i+1))=lots n ts us (us.take i)++[pcOf n ts us u]:=by
      rw[hsn];unfold lotsStep;rw[if_neg (fun q=>hnu ((any_iff _ _).mp q))]
     refine⟨rp,as,n,ts,le,ls,u,rfl,hR.same sd,hok,by omega,by omega,hle,u0,u1,fun lt zs H5 s5 n5 e5 zsr hzs=>?_⟩;have hzs2:∀ x,x∈zs↔Rch ts (·∈us) u x:=fun x=>by
      rw[hzs];exact rch_left hok hus (vs:=us.take i) (fun v hv=>List.mem_of_mem_take hv) hls hul
     have hzp:zs=pcOf n ts us u:=rising_ext zsr pcOf_lt fun x=>by rw[hzs2,mem_pc hok u0 u1]
     have hzl:∀ x∈zs,x∈ls:=fun x hx=>((hzs x).mp hx).mem hul
     have hlo5:=s5 _ _ hlo.top;have L5:=(hlo.tp s5.tp hlo5).snoc e5;have hle6:(upd H5 lo (.lst ((ps.map fun x=>V.ref x.1)++[V.ref lt]))) le=some (.dK (kvI ls)):=by rw[upd_ne nele.symm];exact s5 _ _ hle
     have hlt6:(upd H5 lo (.lst ((ps.map fun x=>V.ref x.1)++[V.ref lt]))) lt=some (.tup (zs.map V.int)):=Tp.lst hlo5 _ _ e5;refine⟨.inl ⟨rfl,_,SqL.of hlo5⟩,_,hlo5,by rw[List.length_map];exact sizeBig (by omega),?_⟩;refine⟨_,rfl,_,rfl,⟨_,SqT.of hlt6⟩,for_tup (K:=K) (xs:=zs.map V.int) (inv_pc2 H1 w0 pl rp le lo lt u ls zs (ps++[(lt,zs)])) ⟨_,rfl,(sd.trans s5).upd nlo1,?_,L5,hlt6⟩ ?_ ?_ ?_⟩
     ·rw[hle6,List.take_zero,List.filter_eq_self.mpr (by simp)]
     ·rintro j σ Hd _ ⟨_,rfl,_,_,_,h⟩;exact SqT.of h
     ·rintro j w σ Hd hv ⟨ov,rfl,se,hle7,L7,hlt7⟩;rw[List.getElem?_map] at hv;cases hy0:zs[j]? with
      | none=>rw[hy0] at hv;cases hv
      | some y =>
      rw[hy0] at hv;cases Option.some.inj hv;have hym:=List.mem_of_getElem? hy0;have hyj:y∉zs.take j:=fun hq=>by
       obtain⟨k,hk,e⟩:=List.getElem_of_mem hq;rw[List.length_take] at hk;have h1:zs[k]?=some y:=by
        have:(zs.take j)[k]?=some y:=by rw[List.getElem?_eq_getElem (by rw[List.length_take];exact hk),e]
        rwa [List.getElem?_take_of_lt (by omega)] at this
       have:=(List.getElem?_inj (l:=zs) (by omega) (rising_nd zsr)).mp (h1.trans hy0.symm);omega
      have hin:y∈ls.filter fun x=>!decide (x∈zs.take j):=List.mem_filter.mpr ⟨hzl y hym,by simpa using hyj⟩
      walk_at "rd";refine⟨_,rfl,_,rfl,le,_,Sum.inl y,rfl,hle7,rfl,by rw[val_kvI];simpa using hin,?_⟩;rw[drop_kvI];refine⟨_,rfl,se.upd nle,?_,L7.tp (Tp.dK hle7) (by rw[upd_ne nele];exact L7.top),Tp.dK hle7 _ _ hlt7⟩;rw[upd_same,List.filter_filter];congr 4;funext x;rw[List.take_succ,hy0];by_cases e1:x=y<;>by_cases e2:x∈zs.take j<;>simp[e1,e2]
     ·rintro σ Hd ⟨ov,rfl,se,hle7,L7,hlt7⟩;rw[List.length_map,List.take_length] at hle7;refine⟨_,_,_,_,_,rfl,se,hle7,L7,?_,lnd.filter _,fun x=>?_⟩
      ·rw[List.map_append,hps,hsn2,← hzp];rfl
      ·rw[List.mem_filter,hls,hsn2,inAny_snoc,← hzp];constructor
       ·rintro⟨⟨a,b⟩,c⟩;exact⟨a,fun q=>q.elim b (by simpa using c)⟩
       ·rintro⟨a,b⟩;exact⟨⟨a,fun q=>b (.inl q)⟩,by simpa using fun q=>b (.inr q)⟩
    ·have hul:u∉ls:=by simpa using h
     have hin:inAny (lots n ts us (us.take i)) u:=Classical.byContradiction fun q=>hul ((hls u).mpr ⟨hum,q⟩)
     have hsn2:lots n ts us (us.take (i+1))=lots n ts us (us.take i):=by
      rw[hsn];unfold lotsStep;rw[if_pos ((any_iff _ _).mpr hin)]
     exact⟨_,_,_,ls,ps,rfl,sd,hle,hlo,by rw[hsn2];exact hps,lnd,by rw[hsn2];exact hls⟩
   ·rintro σ Hc ⟨pv,tv,ov,ls,ps,rfl,sd,hle,hlo,hps,lnd,hls⟩;rw[List.length_map,List.take_length] at hps;walk_at "rd";refine⟨_,.inl ⟨SqL.of hlo.top,fun l nl=>fresh_of nl fun H6 s6 e6=>?_⟩⟩;have s06:=s1.trans sd;exact q l H6 (s06.trans s6) (s06.free nl) ⟨ps,e6,fun x hx=>s6 _ _ (hlo.row x hx),hps⟩
def sp_allbut (K:PySem.W.Frag):Sp:=fun zs H Q _=>∃ (pa:Addr) (us:List Int) (pb:Addr) (vs:List Int),zs=[.ref pa,.ref pb]∧SqT K H pa (us.map V.int)∧us.length≤100000∧SqT K H pb (vs.map V.int) ∧
 ∀ (p:Addr) (H':Hp),Same H H'→H p=none→H' p=some (.tup ((us.filter fun x=>!decide (x∈vs)).map V.int))→Q (.ref p) H'
theorem sc_allbut:FnScope ["places","some"] ["places","some"] (defScope (top 24)):=by walk_at "s"
theorem ok_allbut (F:Fun K "all_but" "all_but" (top 24) f fd)(B:Bt mg):FnOk P w K mg base CX0 1 f fd ["places","some"] (sp_allbut K):=by
 refine F.ok sc_allbut (fun vs H Q E h=>?_) (fun cdv A outer s H vs Q E hr h=>?_)
 ·walk_at "h"
 ·obtain⟨pa,us,pb,vs,rfl,hpa,hul,hpb,q⟩:=h;have nd:=sc_allbut.nd;have hu:=hu_of hr;refine⟨_,(pss_one (ps_ret (pe_callTy (tupleK K) (by rfl) B.tuple boot_tuple (pa_cons (pe_lcomp (own:=["place"]) (fr:=[("some",1)]) rfl (by walk_at "w") (frOk_cons rfl rfl frOk_nil) (pi_tupK K (pv 0)) ⟨fun _ _ _ _=>⟨(pg_name (i:=0) (show List.Nodup (["place","some"]:List Str) by decide +kernel) rfl (.inl rfl)),(pts_one (pt_cmpR (notIn_seqK K) (pv 0) (pv 1) (by walk_at "w"))),(pv 0)⟩⟩) pa_nil)))),?_⟩;walk_at "rd";refine⟨⟨_,hpa⟩,fun p np=>lc_tupF V.int (fun x=>!decide (x∈vs)) V.int (by omega) hpa np ?_ ?_⟩
  ·intro x hx v ys R hy hR1 hR2;walk_at "rd";exact notin_use (.inr (((Same.refl H).upd np).seqT hpb)) ⟨_,rfl,turn_ite rfl hy (by omega) hR1 hR2⟩
  ·refine fresh_of np fun H1 s1 e1=>⟨_,.inl ⟨SqL.of e1,fun l nl=>q l _ (s1.upd (s1.free nl)) (s1.free nl) upd_same⟩⟩
def sp_alone (K:PySem.W.Frag):Sp:=fun zs H Q _=>∃ (pa:Addr) (us:List Int) (pb:Addr) (bs:List Int) (p:Int),zs=[.ref pa,.ref pb,.int p]∧SqL K H pa (us.map V.int)∧SqT K H pb (bs.map V.int)∧bs.length≤100000 ∧
 ∀ (H':Hp),Same H H'→Q (.bl (decide ((bs.filter fun y=>decide (y∈us))=[p]))) H'
theorem sc_alone:FnScope ["lot","busy","place"] ["lot","busy","place"] (defScope (top 25)):=by walk_at "s"
theorem ok_alone (F:Fun K "has_alone" "has_alone" (top 25) f fd)(B:Bt mg):FnOk P w K mg base CX0 1 f fd ["lot","busy","place"] (sp_alone K):=by
 refine F.ok sc_alone (fun vs H Q E h=>?_) (fun cdv A outer s H vs Q E hr h=>?_)
 ·walk_at "h"
 ·obtain⟨pa,us,pb,bs,p,rfl,hpa,hpb,hbl,q⟩:=h;have nd:=sc_alone.nd;have hu:=hu_of hr;refine⟨_,(pss_one (ps_ret (pe_cmpR (eqDK K hr.units) (pe_lcomp (own:=["other"]) (fr:=[("lot",0)]) rfl (by walk_at "w") (frOk_cons rfl rfl frOk_nil) (pi_tupK K (pv 1)) ⟨fun _ _ _ _=>⟨(pg_name (i:=0) (show List.Nodup (["other","lot"]:List Str) by decide +kernel) rfl (.inl rfl)),(pts_one (pt_cmpR (in_seqK K) (pv 0) (pv 1) (by walk_at "w"))),(pv 0)⟩⟩) (pe_lst (pa_cons (pv 2) pa_nil)) (nomark _)))),?_⟩;walk_at "rd";refine⟨⟨_,hpb⟩,fun p1 n1=>lc_tupF V.int (fun y=>decide (y∈us)) V.int (by omega) hpb n1 ?_ ?_⟩
  ·intro x hx v ys R hy hR1 hR2;walk_at "rd";exact in_use (.inl (((Same.refl H).upd n1).seq hpa)) ⟨_,rfl,turn_ite rfl hy (by omega) hR1 hR2⟩
  ·exact fresh_of n1 fun H1 s1 e1=>⟨by decide,fun l2 n2=>fresh_of n2 fun H2 s2 e2=>eqLI (ms:=[p]) (SqL.of (s2 _ _ e1)) (SqL.of e2) (q H2 (s1.trans s2))⟩
def inv_re (H:Hp)(rp al me wl:Addr)(n:Int)(ts:List (Int×Int))(ls:List Int)(u:Int)(σ:St)(Hc:Hp):Prop:=∃ (ov:Option V) (fs ws:List Int),σ=[some (.ref rp),some (.int u),some (.ref al),some (.ref me),some (.ref wl),ov]∧SrAt H Hc me wl fs ws∧Srch n ts (·∈ls) u fs ws∧2*(n.toNat-fs.length)+ws.length≤2*n.toNat
def inv_re2 (H:Hp)(rp al me wl:Addr)(n:Int)(ts:List (Int×Int))(ls:List Int)(u v:Int)(m0:Nat)(j:Nat)(σ:St)(Hc:Hp):Prop:=∃ (ov:Option V) (fs ws:List Int),σ=[some (.ref rp),some (.int u),some (.ref al),some (.ref me),some (.ref wl),ov]∧SrAt H Hc me wl fs ws∧Srch' n ts (·∈ls) u fs ws v j∧2*(n.toNat-fs.length)+ws.length<m0
theorem sc_reach:FnScope ["_law_near_here","_law_start","_law_allowed","_law_found","_law_waiting","_law_other"] ["_law_near_here","_law_start","_law_allowed"] (defScope (top 39)):=by walk_at "s"
theorem ok_reach (F:Fun K "_law_reach" "_law_reach" (top 39) f fd)(B:Bt mg):FnOk P w K mg base CX0 1 f fd ["_law_near_here","_law_start","_law_allowed"] (sp_reach K):=by
 refine F.ok sc_reach (fun vs H Q E h=>?_) (fun cdv A outer s H vs Q E hr h=>?_)
 ·walk_at "h"
 ·obtain⟨rp,as,n,ts,al,ls,u,rfl,hR,hok,hn1,htl,hal,u0,u1,q⟩:=h;have nd:=sc_reach.nd;have hu:=hu_of hr
  refine⟨_,(pss_cons (ps_set (i:=3) nd rfl (.inl rfl) (pe_disp (pps_cons (pv 1) pe_bl pps_nil) rfl rfl (by simp) (by decide)))
    (pss_cons (ps_set (i:=4) nd rfl (.inl rfl) (pe_lst (pa_cons (pv 1) pa_nil)))
    (pss_cons (ps_while PassesOwn.never (pt_cmpR (neDK K hr.units) (pv 4) (pe_lst pa_nil) (nomark _))
     (pss_one (ps_for PassesOwn.never rfl (pi_listK K (pe_ix (ix_listK K) (pv 0) (popK K (pv 4)) (fun _ _=>rfl))) (pg_name (i:=5) nd rfl (.inl rfl))
      (pss_one (ps_if (PW.pt (pw_and (pt_cmpR (in_seqK K) (pv 5) (pv 2) (by walk_at "w")) (pw_and1 (pt_cmp (pc_dnotin hu (pv 5) (pv 3))))))
       (pss_cons (ps_dput hu (pv 3) (pv 5) pe_bl rfl)
       (pss_one (ps_expr (appendK K (pv 4) (pa_cons (pv 5) pa_nil)))))
       pss_nil)))))
    (pss_one (ps_ret (pe_callB (sortedIK K hr.hd) (by rfl) B.sorted boot_sorted (pa_cons (pv 3) pa_nil))))))),?_⟩
  walk_at "rd";refine fun me nme=>⟨upd_same,[(Sum.inl u,V.bl true)],rfl,Nat.le_of_ble_eq_true rfl,?_⟩
  rw[disp1];refine fresh_of nme fun H1 s1 e1=>⟨by decide,fun wl nwl=>fresh_of nwl fun H2 s2 e2=>?_⟩
  have nw:H wl=none:=s1.free nwl;refine while_by (inv_re H rp al me wl n ts ls u) (fun _ Hc=>srM n me wl Hc) ⟨none,[u],[u],rfl,⟨s1.trans s2,s2 _ _ e1,e2⟩,Srch.init u0 u1,by simp;omega⟩ ?_ (fun σ H Q Q' h ⟨x,e,z,q⟩=>⟨x,e,z,fun p n=>let ⟨d1,d2,x1,x2,x3,x4,k,e2,q2⟩:=q p n;⟨d1,d2,x1,x2,x3,x4,k,e2,h _ _ q2⟩⟩);rintro σ Hc ⟨ov,fs,ws,rfl,sr,sh,hb⟩;refine⟨_,rfl,Nat.zero_le _,fun pe ne=>fresh_of ne fun He se ee=>neLI (ns:=ws) (ms:=[]) (SqL.of (se _ _ sr.wait)) (SqL.of ee) ⟨_,rfl,ite2 (fun hne=>?_) fun he=>?_⟩⟩
  ·have hw0:ws≠[]:=by simpa using hne
   obtain⟨ws',v,rfl⟩:=last_of hw0;have sre:=sr.mono se;obtain⟨hl1,sr1⟩:=sre.pop nw;have sh1:=sh.pop;have hm0:2*(n.toNat-fs.length)+ws'.length<srM n me wl Hc:=by rw[sr.mu,List.length_append,List.length_singleton];omega
   have hmb:srM n me wl Hc≤2*n.toNat:=by rw[sr.mu];exact hb
   obtain⟨v0,v1⟩:=sh1.rng v sh1.vin;obtain⟨a,a1,a2,a3,a4⟩:=hR.get v0 (rowsOf_get v0 v1);have top2:=sr1.same _ _ hR.top;refine⟨_,rfl,_,rfl,.inl ⟨rfl,_,SqL.of sre.wait⟩,wl,_,_,rfl,rfl,sre.wait,hl1,_,_,_,_,rfl,rfl,SqL.of top2,a2,_,rfl,⟨_,SqL.of (sr1.same _ _ a3)⟩,for_list (K:=K) (xs:=(nb ts v).map V.int) (inv_re2 H rp al me wl n ts ls u v (srM n me wl Hc)) ⟨_,fs,ws',rfl,sr1,sh1,hm0⟩ ?_ ?_ ?_⟩
   ·rintro j σ Hd _ ⟨_,_,_,rfl,sr2,_⟩;exact SqL.of (sr2.same _ _ a3)
   ·rintro j w σ Hd hv ⟨ov,fs,ws,rfl,sr2,sh2,hm2⟩;rw[List.getElem?_map] at hv;cases hy0:(nb ts v)[j]? with
    | none=>rw[hy0] at hv;cases hv
    | some y =>
    rw[hy0] at hv;cases Option.some.inj hv;have hfl:=nd_len sh2.nd sh2.rng;walk_at "rd";have hal2:SqL K Hd al (ls.map V.int)∨SqT K Hd al (ls.map V.int):=hal.elim (fun z=>.inl (sr2.same.seq z)) fun z=>.inr (sr2.same.seqT z)
    refine in_use hal2 ⟨_,rfl,ite2 (fun hA=>⟨_,DGet.k (k:=Sum.inl y) sr2.met,?_⟩) fun hA=>⟨_,fs,ws,rfl,sr2,sh2.skip hy0 (.inl (by simpa using hA)),hm2⟩⟩;rw[val_kvI];refine ite2 (fun hB=>?_) fun hB=>⟨_,fs,ws,rfl,sr2,sh2.skip hy0 (.inr (by simpa using hB)),hm2⟩
    have hyl:y∈ls:=by simpa using hA
    have hyf:y∉fs:=by simpa using hB
    have sh3:=sh2.add hok hy0 hyl hyf;have hfl3:=nd_len sh3.nd sh3.rng;rw[List.length_append,List.length_singleton] at hfl3;refine⟨_,DPut.k (k:=Sum.inl y) sr2.met (kvI_small (by omega)),?_⟩;rw[put_kvI];have hwt:(upd Hd me (.dK (kvI (addI fs y)))) wl=some (.lst (ws.map V.int)):=by rw[upd_ne sr2.ne.symm];exact sr2.wait
    have hwl:ws.length≤3000:=by omega
    refine⟨.inl ⟨rfl,_,SqL.of hwt⟩,_,hwt,by rw[List.length_map];exact sizeBig (by omega),_,fs++[y],ws++[y],rfl,sr2.add nme nw hyf,sh3,?_⟩;rw[List.length_append,List.length_append,List.length_singleton];omega
   ·rintro σ Hd ⟨ov,fs,ws,rfl,sr2,sh2,hm2⟩;rw[List.length_map] at sh2;exact⟨⟨_,fs,ws,rfl,sr2,sh2.done (Nat.le_refl _),by omega⟩,by rw[sr2.mu];exact hm2⟩
  ·have hw0:ws=[]:=by simpa using he
   subst hw0;walk_at "rd";refine⟨fs,⟨by have:=nd_len sh.nd sh.rng;omega,.inr (.inr ⟨_,se _ _ sr.met,kvI_keys fs⟩)⟩,fun ns l pm hs nl=>fresh_of nl fun H4 s4 e4=>?_⟩;have s3:=sr.same.trans se;refine q l ns H4 (s3.trans s4) (s3.free nl) e4 (sorted_rising pm hs sh.nd) fun x=>?_
   rw[pm.mem_iff];exact sh.fin x
def sp_hang2 (K:PySem.W.Frag):Sp:=fun vs H Q _=>∃ (np:Addr) (as:List Addr) (n:Int) (ts:List (Int×Int)) (pl:Addr) (us:List Int),vs=[.ref np,.ref pl]∧RowsAt H np as (rowsOf n ts)∧IsWeb n ts∧H pl=some (.lst (us.map V.int))∧us.Nodup∧(∀ x∈us,0≤x∧x<n)∧∀ (b:Bool) (H':Hp),Same H H'→(b=true↔Hng ts us)→Q (.bl b) H'
theorem sc_hang2:FnScope ["_law_near_here","_law_places"] ["_law_near_here","_law_places"] (defScope (top 40)):=by walk_at "s"
theorem ok_hang2 (F:Fun K "_law_hang" "_law_hang" (top 40) f fd)(B:Bt mg)(D1:Df K mg "_law_reach" st1 f1 fd1 ["_law_near_here","_law_start","_law_allowed"])(G1:FnOk P w K mg base CX0 1 f1 fd1 ["_law_near_here","_law_start","_law_allowed"] (sp_reach K)):FnOk P w K mg base CX0 2 f fd ["_law_near_here","_law_places"] (sp_hang2 K):=by
 refine F.ok sc_hang2 (fun vs H Q E h=>?_) (fun cdv A outer s H vs Q E hr h=>?_)
 ·walk_at "h"
 ·obtain⟨np,as,n,ts,pl,us,rfl,hR,hok,hpl,hnd,hus,q⟩:=h;have nd:=sc_hang2.nd;have hu:=hu_of hr;refine⟨_,(pss_one (ps_ret (pe_and (pe_cmpR op_gt (pe_callB (lenK K) (by rfl) B.len PySem.boot_len (pa_cons (pv 1) pa_nil)) pe_int (nomark _)) (pe_one (pe_cmpR op_eq (pe_callB (lenK K) (by rfl) B.len PySem.boot_len (pa_cons (pe_own G1 D1 hr.m (pa_cons (pv 0) (pa_cons (pe_ix (ix_listK K) (pv 1) pe_int (fun _ _=>rfl)) (pa_cons (pv 1) pa_nil)))) pa_nil)) (pe_callB (lenK K) (by rfl) B.len PySem.boot_len (pa_cons (pv 1) pa_nil)) (nomark _)))))),?_⟩;walk_at "rd";have h3:=hok.n3;have h60:=hok.n60;have hl:=hok.len;have hul:=nd_len hnd hus;refine⟨_,.inl (SqL.of hpl),?_⟩;cases us with
  | nil =>
   rw[if_neg (by simp)];exact q false H (Same.refl H) ⟨fun h=>(by cases h),fun h=>absurd rfl h.1⟩
  | cons u r =>
   rw[if_pos (by simp)];obtain⟨u0,u1⟩:=hus u (by simp);have hat:atI ((u::r).map V.int) 0=some (.int u):=by show atI (V.int u::r.map V.int) 0=_;unfold atI ixN;simp
   refine⟨_,SqL.of hpl,_,hat,np,as,n,ts,pl,u::r,u,rfl,hR,hok.rng,by omega,by omega,.inl (SqL.of hpl),u0,u1,fun lt zs H5 s5 n5 e5 zsr hzs=>?_⟩;refine⟨lt,rfl,_,.inl (SqL.of e5),_,.inl (SqL.of (s5 _ _ hpl)),q _ H5 s5 ?_⟩;have hsub:zs ⊆ u::r:=fun x hx=>((hzs x).mp hx).mem (by simp)
   rw[decide_eq_true_iff,List.length_map,List.length_map];constructor
   ·intro e;have:=nd_all (rising_nd zsr) hsub (by omega) hnd;exact hng_of hok.rng (by simp) fun y hy=>(hzs y).mp (this y hy)
   ·intro h;have h1:=nd_sub (rising_nd zsr) hsub;have h2:=nd_sub hnd (l:=zs) fun x hx=>(hzs x).mpr (h.2 u (by simp) x hx)
    omega
def sp_ltch (K:PySem.W.Frag):Sp:=fun vs H Q _=>∃ (np:Addr) (as:List Addr) (n:Int) (ts:List (Int×Int)) (pl:Addr) (us:List Int),vs=[.ref np,.ref pl]∧RowsAt H np as (rowsOf n ts)∧IsWeb n ts∧(SqL K H pl (us.map V.int)∨SqT K H pl (us.map V.int))∧us.length≤60 ∧
 ∀ (p:Addr) (zs:List Int) (H':Hp),Same H H'→H p=none→H' p=some (.lst (zs.map V.int))→zs.Pairwise (·<·)→(∀ x,x∈zs↔0≤x∧x<n∧x∉us∧∃ y∈us,y∈nb ts x)→Q (.ref p) H'
def inv_ltch (H1:Hp)(np pl lp:Addr)(ts:List (Int×Int))(us L:List Int)(i:Nat)(τ:St)(Hc:Hp):Prop:=(∃ v,τ=[v,some (V.ref np),some (V.ref pl)])∧Same H1 Hc∧Hc lp=some (.lst (((L.take i).filter fun x=>decide (∃ y∈us,y∈nb ts x)).map V.int))
theorem sc_ltch:FnScope ["_law_near_here","_law_places","_law_others"] ["_law_near_here","_law_places"] (defScope (top 41)):=by walk_at "s"
theorem ok_ltch (F:Fun K "_law_touched" "_law_touched" (top 41) f fd)(B:Bt mg):FnOk P w K mg base CX0 1 f fd ["_law_near_here","_law_places"] (sp_ltch K):=by
 refine F.ok sc_ltch (fun vs H Q E h=>?_) (fun cdv A outer s H vs Q E hr h=>?_)
 ·walk_at "h"
 ·obtain⟨np,as,n,ts,pl,us,rfl,hR,hok,hpl,hul,q⟩:=h;have nd:=sc_ltch.nd;have hu:=hu_of hr
  refine⟨_,(pss_cons (ps_setLC (i:=2) (own:=["_law_place"]) (fr:=[("_law_places",1)]) rfl nd rfl rfl (by walk_at "w") (by walk_at "w") (frOk_cons rfl rfl frOk_nil) (pi_range1 (by rfl) B.range (pa_cons (pe_callB (lenK K) (by rfl) B.len PySem.boot_len (pa_cons (pv 0) pa_nil)) pa_nil)) ⟨fun _ _ _ _=>⟨(pg_name (i:=0) (show List.Nodup (["_law_place","_law_places"]:List Str) by decide +kernel) rfl (.inl rfl)),(pts_one (pt_cmpR (notIn_seqK K) (pv 0) (pv 1) (by walk_at "w"))),(pv 0)⟩⟩)
    (pss_one (ps_ret (pe_lcomp (own:=["_law_place"]) (fr:=[("_law_near_here",0),("_law_places",1)]) rfl (by walk_at "w") (frOk_cons rfl rfl (frOk_cons rfl rfl frOk_nil)) (pi_listK K (pv 2)) ⟨fun _ _ _ _=>⟨(pg_name (i:=0) (show List.Nodup (["_law_place","_law_near_here","_law_places"]:List Str) by decide +kernel) rfl (.inl rfl)),(pts_one (pt_cmpR (neDK K hr.units) (pe_lcomp (own:=["_law_k"]) (fr:=[("_law_places",2)]) rfl (by walk_at "w") (frOk_cons rfl rfl frOk_nil) (pi_listK K (pe_ix (ix_listK K) (pv 1) (pv 0) (fun _ _=>rfl))) ⟨fun _ _ _ _=>⟨(pg_name (i:=0) (show List.Nodup (["_law_k","_law_places"]:List Str) by decide +kernel) rfl (.inl rfl)),(pts_one (pt_cmpR (in_seqK K) (pv 0) (pv 1) (by walk_at "w"))),(pv 0)⟩⟩) (pe_lst pa_nil) (nomark _))),(pv 0)⟩⟩)))),?_⟩
  walk_at "rd";have h3:=hok.n3;have h60:=hok.n60;have hl:=hok.len;have hal:(as.map V.ref).length=n.toNat:=by rw[List.length_map,hR.len,rowsOf_len]
  refine⟨_,.inl (SqL.of hR.top),by omega,by omega,fun lf nlf=>?_⟩;rw[hal,Int.toNat_natCast];have hp':∀ {Hx:Hp},Same H Hx→SqL K Hx pl (us.map V.int)∨SqT K Hx pl (us.map V.int):=fun s=>hpl.imp (fun h=>s.seq h) (fun h=>s.seqT h)
  refine lc_rangeF (fun x=>!decide (x∈us)) V.int (by omega) ?_ ?_
  ·intro x x0 x1 v ys R hy hR1 hR2;walk_at "rd";exact notin_use (hp' ((Same.refl H).upd nlf)) ⟨_,rfl,turn_ite rfl hy (by omega) hR1 hR2⟩
  ·generalize hL:((rInts 0 n.toNat).filter fun x=>!decide (x∈us))=L;have hLm:∀ x,x∈L↔(0≤x∧x<n)∧x∉us:=fun x=>by rw[← hL,List.mem_filter,mem_rInts];simp;omega
   have hLl:L.length≤n.toNat:=by rw[← hL];exact Nat.le_trans (List.length_filter_le _ _) (by rw[rInts_length];omega)
   refine fresh_of nlf fun H1 s1 e1=>⟨⟨_,SqL.of e1⟩,fun lp nlp=>lc_list (K:=K) (xs:=L.map V.int) (inv_ltch H1 np pl lp ts us L) ⟨⟨_,rfl⟩,(Same.refl H1).upd nlp,by rw[upd_same];rfl⟩ ?_ ?_ ?_⟩
   ·rintro i τ Hc _ ⟨_,sc,_⟩;exact SqL.of (sc _ _ e1)
   ·rintro i v τ Hc hv ⟨⟨v',rfl⟩,sc,hc⟩ _;rw[List.getElem?_map] at hv;cases hx0:L[i]? with
    | none=>rw[hx0] at hv;cases hv
    | some x =>
    rw[hx0] at hv;cases Option.some.inj hv;have hx:=(hLm x).mp (List.mem_of_getElem? hx0);have hil:=(List.getElem?_eq_some_iff.mp hx0).1;have s1c:=s1.trans sc;obtain⟨a,_,g2,g3,_⟩:=(hR.same s1c).get hx.1.1 (rowsOf_get hx.1.1 hx.1.2);have hnl:=nb_len (ts:=ts) x;walk_at "rd";refine⟨_,SqL.of (s1c _ _ hR.top),_,g2,a,rfl,⟨_,SqL.of g3⟩,fun lq nlq=>lc_listF V.int (fun k=>decide (k∈us)) V.int (by omega) (SqL.of g3) nlq ?_ ?_⟩
    ·intro y hy v ys R hyl hR1 hR2;walk_at "rd";exact in_use (hp' (s1c.upd (s1c.free nlq))) ⟨_,rfl,turn_ite rfl hyl (by omega) hR1 hR2⟩
    ·refine fresh_of nlq fun H2 s2 e2=>⟨by decide,fun lr nlr=>fresh_of nlr fun H3 s3 e3=>neLI (ms:=[]) (SqL.of (s3 _ _ e2)) (SqL.of e3) ⟨_,rfl,?_⟩⟩
     have hf:((nb ts x).filter fun k=>decide (k∈us))=[]↔¬ ∃ y∈us,y∈nb ts x:=by
      rw[List.filter_eq_nil_iff];constructor
      ·rintro h ⟨y,hy,hyx⟩;have:=h y hyx;simp at this;exact this hy
      ·intro h y hy;simp;intro k;exact h ⟨y,k,hy⟩
     have s23:=s2.trans s3;have hc3:=s23 _ _ hc;have nlp1:H1 lp=none:=nlp;by_cases hh:∃ y∈us,y∈nb ts x
     ·rw[if_pos (by rw[decide_eq_false (fun k=>hf.mp k hh)];decide)];refine⟨_,hc3,?_,⟨_,rfl⟩,(sc.trans s23).upd nlp1,?_⟩
      ·rw[List.length_map];exact sizeBig (Nat.le_trans (List.length_filter_le _ _) (by rw[List.length_take];omega))
      ·rw[upd_same,take_snoc hx0,List.filter_append,List.filter_cons_of_pos (by simpa using hh),List.map_append];rfl
     ·rw[if_neg (by rw[decide_eq_true (hf.mpr hh)];decide)];refine⟨⟨_,rfl⟩,sc.trans s23,?_⟩;rw[take_snoc hx0,List.filter_append,List.filter_cons_of_neg (by simpa using hh),List.filter_nil,List.append_nil];exact hc3
   ·rintro τ Hc ⟨_,sc,hc⟩;rw[List.length_map,List.take_length] at hc;refine q lp _ Hc (s1.trans sc) (s1.free nlp) hc ?_ fun x=>?_
    ·rw[← hL];exact fil_rising.sublist List.filter_sublist
    ·rw[List.mem_filter,hLm,decide_eq_true_iff];constructor
     ·rintro⟨⟨⟨a,b⟩,c⟩,d⟩;exact⟨a,b,c,d⟩
     ·rintro⟨a,b,c,d⟩;exact⟨⟨⟨a,b⟩,c⟩,d⟩
def sp_isset (K:PySem.W.Frag):Sp:=fun vs H Q _=>∃ (np:Addr) (as:List Addr) (n:Int) (ts:List (Int×Int)) (pl:Addr) (us:List Int),vs=[.ref np,.ref pl]∧RowsAt H np as (rowsOf n ts)∧IsWeb n ts∧H pl=some (.lst (us.map V.int))∧us.Nodup∧(∀ x∈us,0≤x∧x<n)∧∀ (b:Bool) (H':Hp),Same H H'→(b=true↔Busy n ts us)→Q (.bl b) H'
theorem sc_isset:FnScope ["_law_near_here","_law_places"] ["_law_near_here","_law_places"] (defScope (top 42)):=by walk_at "s"
theorem ok_isset (F:Fun K "_law_is_set" "_law_is_set" (top 42) f fd)(B:Bt mg)(D1:Df K mg "_law_hang" st1 f1 fd1 ["_law_near_here","_law_places"])(G1:FnOk P w K mg base CX0 2 f1 fd1 ["_law_near_here","_law_places"] (sp_hang2 K))(D2:Df K mg "_law_touched" st2 f2 fd2 ["_law_near_here","_law_places"])(G2:FnOk P w K mg base CX0 1 f2 fd2 ["_law_near_here","_law_places"] (sp_ltch K)):FnOk P w K mg base CX0 3 f fd ["_law_near_here","_law_places"] (sp_isset K):=by
 refine F.ok sc_isset (fun vs H Q E h=>?_) (fun cdv A outer s H vs Q E hr h=>?_)
 ·walk_at "h"
 ·obtain⟨np,as,n,ts,pl,us,rfl,hR,hok,hpl,hnd,hus,q⟩:=h;have nd:=sc_isset.nd;have hu:=hu_of hr;refine⟨_,(pss_one (ps_ret (pe_and (pe_own G1 D1 hr.m (pa_cons (pv 0) (pa_cons (pv 1) pa_nil))) (pe_one (pe_cmpR op_eq (pe_op op_add (pe_callB (lenK K) (by rfl) B.len PySem.boot_len (pa_cons (pe_own G2 D2 hr.m (pa_cons (pv 0) (pa_cons (pv 1) pa_nil))) pa_nil)) (pe_callB (lenK K) (by rfl) B.len PySem.boot_len (pa_cons (pv 1) pa_nil))) (pe_callB (lenK K) (by rfl) B.len PySem.boot_len (pa_cons (pv 0) pa_nil)) (nomark _)))))),?_⟩;walk_at "rd";have h3:=hok.n3;have h60:=hok.n60;have hl:=hok.len;have hul:=nd_len hnd hus;have hal:(as.map V.ref).length=n.toNat:=by rw[List.length_map,hR.len,rowsOf_len]
  refine⟨np,as,n,ts,pl,us,rfl,hR,hok,hpl,hnd,hus,fun b H1 s1 hb=>⟨b,rfl,?_⟩⟩;cases b with
  | false =>
   rw[if_neg (by decide)];exact q false H1 s1 ⟨fun h=>(by cases h),fun h=>by cases hb.mpr h.1⟩
  | true =>
   rw[if_pos rfl];refine⟨np,as,n,ts,pl,us,rfl,hR.same s1,hok,.inl (SqL.of (s1 _ _ hpl)),by omega,fun p zs H2 s2 n2 e2 hz hm=>?_⟩;have s12:=s1.trans s2;refine⟨p,rfl,_,.inl (SqL.of e2),_,.inl (SqL.of (s12 _ _ hpl)),_,.inl (SqL.of (s12 _ _ hR.top)),q _ H2 s12 ?_⟩;have hbi:=busy_iff hnd hus (by omega) hz hm;rw[decide_eq_true_iff,hal,List.length_map,List.length_map,Int.toNat_of_nonneg (by omega),hbi];exact⟨fun h=>⟨hb.mp rfl,h⟩,fun h=>h.2⟩
structure AllS (H:Hp)(n:Int)(ts:List (Int×Int))(p:Addr)(ps:List (Addr×List Int)):Prop where
 ll:LlAt H p ps
 len:ps.length≤5000
 ok:∀ x∈ps,Busy n ts x.2∧x.2.Pairwise (·<·)∧∀ y∈x.2,0≤y∧y<n
 all:∀ us:List Int,us.Pairwise (·<·)→(∀ y∈us,0≤y∧y<n)→Busy n ts us→∃ x∈ps,x.2=us
def sp_allsets (K:PySem.W.Frag):Sp:=fun vs H Q _=>∃ (np:Addr) (as:List Addr) (n:Int) (ts:List (Int×Int)),vs=[.ref np]∧RowsAt H np as (rowsOf n ts)∧IsWeb n ts∧n≤12∧∀ (p:Addr) (ps:List (Addr×List Int)) (H':Hp),Same H H'→H p=none→AllS H' n ts p ps→Q (.ref p) H'
def inv_as (H:Hp)(np fo:Addr)(n:Int)(ts:List (Int×Int))(i:Nat)(σ:St)(Hc:Hp):Prop:=∃ (c d:Option V) (ps:List (Addr×List Int)),σ=[some (.ref np),some (.ref fo),c,d]∧Same H Hc∧LlAt Hc fo ps∧ps.length≤i∧(∀ x∈ps,Busy n ts x.2∧x.2.Pairwise (·<·)∧∀ y∈x.2,0≤y∧y<n)∧∀ m:Nat,1≤m→m<i+1→Busy n ts (bitsOf n m)→∃ x∈ps,x.2=bitsOf n m
theorem sc_allsets:FnScope ["_law_near_here","_law_found","_law_number","_law_places"] ["_law_near_here"] (defScope (top 43)):=by walk_at "s"
theorem ok_allsets (F:Fun K "_law_all_sets" "_law_all_sets" (top 43) f fd)(B:Bt mg)(D1:Df K mg "_law_is_set" st1 f1 fd1 ["_law_near_here","_law_places"])(G1:FnOk P w K mg base CX0 3 f1 fd1 ["_law_near_here","_law_places"] (sp_isset K)):FnOk P w K mg base CX0 4 f fd ["_law_near_here"] (sp_allsets K):=by
 refine F.ok sc_allsets (fun vs H Q E h=>?_) (fun cdv A outer s H vs Q E hr h=>?_)
 ·walk_at "h"
 ·obtain⟨np,as,n,ts,rfl,hR,hok,hn,q⟩:=h;have nd:=sc_allsets.nd;have hu:=hu_of hr
  refine⟨_,(pss_cons (ps_set (i:=1) nd rfl (.inl rfl) (pe_lst pa_nil))
    (pss_cons (ps_for PassesOwn.never rfl (pi_range2 (by rfl) B.range (pa_cons pe_int (pa_cons (pe_op op_shl pe_int (pe_callB (lenK K) (by rfl) B.len PySem.boot_len (pa_cons (pv 0) pa_nil))) pa_nil))) (pg_name (i:=2) nd rfl (.inr rfl))
     (pss_cons (ps_setLC (i:=3) (own:=["_law_place"]) (fr:=[("_law_number",2)]) rfl nd rfl rfl (by walk_at "w") (by walk_at "w") (frOk_cons rfl rfl frOk_nil) (pi_range1 (by rfl) B.range (pa_cons (pe_callB (lenK K) (by rfl) B.len PySem.boot_len (pa_cons (pv 0) pa_nil)) pa_nil)) ⟨fun _ _ _ _=>⟨(pg_name (i:=0) (show List.Nodup (["_law_place","_law_number"]:List Str) by decide +kernel) rfl (.inl rfl)),(pts_one (pt_cmpR op_eq (pe_op op_and (pe_op op_shr (pv 1) (pv 0)) pe_int) pe_int (nomark _))),(pv 0)⟩⟩)
     (pss_one (ps_if (pt_val (pe_own G1 D1 hr.m (pa_cons (pv 0) (pa_cons (pv 3) pa_nil))))
      (pss_one (ps_expr (appendK K (pv 1) (pa_cons (pe_callTy (tupleK K) (by rfl) B.tuple boot_tuple (pa_cons (pv 3) pa_nil)) pa_nil))))
      pss_nil))))
    (pss_one (ps_ret (pv 1))))),?_⟩
  walk_at "rd";have h3:=hok.n3;have h60:=hok.n60;have hl:=hok.len;have hal:(as.map V.ref).length=n.toNat:=by rw[List.length_map,hR.len,rowsOf_len]
  refine⟨by decide,fun fo nfo=>fresh_of nfo fun H1 s1 e1=>?_⟩;rw[tFor_eq];walk_at "rd";have hN:(1*2 ^ (((as.map V.ref).length:Nat):Int).toNat:Int)=((2 ^ n.toNat:Nat):Int):=by rw[hal,Int.toNat_natCast,Int.one_mul];simp
  have hN2:2 ^ n.toNat≤4096:=Nat.pow_le_pow_right (n:=2) (j:=12) (by decide) (by omega);refine⟨_,.inl (SqL.of (s1 _ _ hR.top)),⟨by omega,by omega,by decide⟩,_,_,⟨rfl,rfl⟩,?_⟩;rw[hN];generalize hM:2 ^ n.toNat=M at hN2;refine⟨⟨by decide,by decide,by omega,by omega⟩,for_range (lo:=1) (n:=((M:Int)-1).toNat) (inv_as H np fo n ts) ⟨none,none,[],rfl,s1,⟨e1,fun x hx=>(by cases hx)⟩,Nat.le_refl _,fun x hx=>(by cases hx),fun m h1 h2=>by omega⟩ ?_ ?_⟩
  ·rintro i σ Hc hi ⟨c,d,ps,rfl,sc,L,hpl,hok1,hall⟩;walk_at "rd";refine⟨_,.inl (SqL.of (sc _ _ hR.top)),by omega,by omega,fun lp nlp=>?_⟩;rw[hal,Int.toNat_natCast];refine lc_rangeF (fun x=>decide (Builtin.bitAnd ((1+(i:Int)) / 2 ^ x.toNat) 1=1)) V.int (by omega) ?_ ?_
   ·intro x x0 x1 v ys R hy hR1 hR2;walk_at "rd";exact⟨x0,turn_ite (by simp) hy (by omega) hR1 hR2⟩
   ·have eb:((rInts 0 n.toNat).filter fun x=>decide (Builtin.bitAnd ((1+(i:Int)) / 2 ^ x.toNat) 1=1))=bitsOf n ((i+1:Nat):Int):=by
     have:(1+(i:Int))=((i+1:Nat):Int):=by omega
     rw[this];rfl
    rw[eb];refine fresh_of nlp fun H2 s2 e2=>?_
    have hbp:(bitsOf n ((i+1:Nat):Int)).Pairwise (·<·):=fil_rising;have hbr:∀ y∈bitsOf n ((i+1:Nat):Int),0≤y∧y<n:=fun y hy=>by have:=mem_bits.mp hy;exact⟨this.1,this.2.1⟩
    refine⟨np,as,n,ts,lp,_,rfl,hR.same (sc.trans s2),hok,e2,rising_nd hbp,hbr,fun b H3 s3 hb=>⟨b,rfl,?_⟩⟩;have s13:=(sc.trans s2).trans s3;have L3:LlAt H3 fo ps:=L.tp (s2.trans s3).tp ((s2.trans s3) _ _ L.top);cases b with
    | false =>
     rw[if_neg (by decide)];refine⟨_,_,ps,rfl,s13,L3,by omega,hok1,fun m h1 h2 hB=>?_⟩;rcases Nat.lt_or_ge m (i+1) with h | h
     ·exact hall m h1 h hB
     ·cases (show m=i+1 by omega);cases hb.mpr hB
    | true =>
     rw[if_pos rfl];refine⟨.inl ⟨rfl,_,SqL.of L3.top⟩,_,.inl ⟨SqL.of (s3 _ _ e2),fun lt nlt=>fresh_of nlt fun H4 s4 e4=>?_⟩⟩;have L4:LlAt H4 fo ps:=L3.tp s4.tp (s4 _ _ L3.top);refine⟨_,L4.top,by rw[List.length_map];exact sizeBig (by omega),_,_,ps++[(lt,bitsOf n ((i+1:Nat):Int))],rfl,(s13.trans s4).upd nfo,L4.snoc e4,by rw[List.length_append,List.length_singleton];omega,fun x hx=>?_,fun m h1 h2 hB=>?_⟩
     ·rcases List.mem_append.mp hx with hx | hx
      ·exact hok1 x hx
      ·rw[List.mem_singleton.mp hx];exact⟨hb.mp rfl,hbp,hbr⟩
     ·rcases Nat.lt_or_ge m (i+1) with h | h
      ·obtain⟨x,hx,e⟩:=hall m h1 h hB;exact⟨x,List.mem_append.mpr (.inl hx),e⟩
      ·cases (show m=i+1 by omega);exact⟨_,List.mem_append.mpr (.inr (List.mem_singleton.mpr rfl)),rfl⟩
  ·rintro σ Hc ⟨c,d,ps,rfl,sc,L,hpl,hok1,hall⟩;refine⟨_,rfl,q fo ps Hc sc nfo ⟨L,by omega,hok1,fun us hs hr hB=>?_⟩⟩;obtain⟨m,m1,m2,em⟩:=bits_all (by omega) hs hr hB.1.1;obtain⟨x,hx,e⟩:=hall m m1 (by omega) (by rw[em];exact hB);exact⟨x,hx,e.trans em⟩
def sp_llot (K:PySem.W.Frag):Sp:=fun vs H Q _=>∃ (np:Addr) (as:List Addr) (n:Int) (ts:List (Int×Int)) (p:Int),vs=[.ref np,.int p]∧RowsAt H np as (rowsOf n ts)∧IsWeb n ts∧0≤p∧p<n ∧
 ∀ (l:Addr) (ls:List Int) (H':Hp),Same H H'→H l=none→H' l=some (.lst (ls.map V.int))→ls.Perm (nb ts p++[p])→ls.length≤300→Q (.ref l) H'
theorem sc_llot:FnScope ["_law_near_here","_law_p"] ["_law_near_here","_law_p"] (defScope (top 44)):=by walk_at "s"
theorem ok_llot (F:Fun K "_law_lot" "_law_lot" (top 44) f fd)(B:Bt mg):FnOk P w K mg base CX0 1 f fd ["_law_near_here","_law_p"] (sp_llot K):=by
 refine F.ok sc_llot (fun vs H Q E h=>?_) (fun cdv A outer s H vs Q E hr h=>?_)
 ·walk_at "h"
 ·obtain⟨np,as,n,ts,p,rfl,hR,hok,h0,h1,q⟩:=h;have nd:=sc_llot.nd;have hu:=hu_of hr;refine⟨_,(pss_one (ps_ret (pe_callB (sortedIK K hr.hd) (by rfl) B.sorted boot_sorted (pa_cons (pe_op op_cat (pe_ix (ix_listK K) (pv 0) (pv 1) (fun _ _=>rfl)) (pe_lst (pa_cons (pv 1) pa_nil))) pa_nil)))),?_⟩;walk_at "rd";have hl:=hok.len;obtain⟨a,_,g2,g3,_⟩:=hR.get h0 (rowsOf_get h0 h1);have hnl:=nb_len (ts:=ts) p;refine⟨_,SqL.of hR.top,_,g2,by decide,fun l1 nl1=>fresh_of nl1 fun H1 s1 e1=>⟨a,l1,_,_,rfl,rfl,s1 _ _ g3,e1,?_,fun l2 nl2=>fresh_of nl2 fun H2 s2 e2=>⟨l2,rfl,nb ts p++[p],⟨by have:=nb_64 hok.rng hok.srt hok.n60 p;rw[List.length_append,List.length_singleton];omega,.inl (SqL.of (by rw[e2,List.map_append];rfl))⟩,fun ms l3 pm _ nl3=>fresh_of nl3 fun H3 s3 e3=>?_⟩⟩⟩
  ·rw[List.length_map];exact Nat.le_of_lt (sizeBig (by simp;omega))
  ·exact q l3 ms H3 ((s1.trans s2).trans s3) (s1.free (s2.free nl3)) e3 pm (by rw[pm.length_eq,List.length_append,List.length_singleton];omega)
def sp_tieof:Sp:=fun vs H Q _=>∃ (a b:Int),vs=[.int a,.int b]∧∀ (p:Addr) (H':Hp),Same H H'→H p=none→H' p=some (.tup ((tl (mm a b)).map V.int))→Q (.ref p) H'
theorem sc_tieof:FnScope ["one","other"] ["one","other"] (defScope (top 4)):=by walk_at "s"
theorem ok_tieof (F:Fun K "tie_of" "tie_of" (top 4) f fd)(B:Bt mg)(C:Bt2 mg):FnOk P w K mg base CX0 1 f fd ["one","other"] sp_tieof:=by
 refine F.ok sc_tieof (fun vs H Q E h=>?_) (fun cdv A outer s H vs Q E hr h=>?_)
 ·walk_at "h"
 ·obtain⟨a,b,rfl,q⟩:=h;have nd:=sc_tieof.nd;have hu:=hu_of hr;refine⟨_,(pss_one (ps_ret (pe_tup (pa_cons (pe_callB (call_min2 rfl) (by rfl) B.min boot_min (pa_cons (pv 0) (pa_cons (pv 1) pa_nil))) (pa_cons (pe_callB (call_max2 rfl) (by rfl) B.max boot_max (pa_cons (pv 0) (pa_cons (pv 1) pa_nil))) pa_nil))))),?_⟩;walk_at "rd";exact⟨_,_,⟨rfl,rfl⟩,_,_,⟨rfl,rfl⟩,by decide,fun p np=>q p _ ((Same.refl H).upd np) np upd_same⟩
def inv_to (Hb:Hp)(p l:Addr)(g:Int)(par:Int→Int)(i:Nat)(σ:St)(Hc:Hp):Prop:=∃ (a b:Option V) (ps:List (Addr×List Int)),σ=[some (.ref p),some (.ref l),a,b]∧Same Hb Hc∧Hc l=some (.lst (ps.map fun x=>V.ref x.1))∧PsAt Hc ps (parT g par i)
theorem sc_treeof2:FnScope ["parents","ties","place","parent"] ["parents"] (defScope (top 19)):=by walk_at "s"
theorem ok_treeof2 (F:Fun K "tree_of" "tree_of" (top 19) f fd)(B:Bt mg)(D1:Df K mg "tie_of" st1 f1 fd1 ["one","other"])(G1:FnOk P w K mg base CX0 1 f1 fd1 ["one","other"] sp_tieof)(C:Bt2 mg):FnOk P w K mg base CX0 2 f fd ["parents"] sp_treeof2:=by
 refine F.ok sc_treeof2 (fun vs H Q E h=>?_) (fun cdv A outer s H vs Q E hr h=>?_)
 ·walk_at "h"
 ·obtain⟨p,n,g,par,rfl,hp,n0,h60,q⟩:=h;have nd:=sc_treeof2.nd;have hu:=hu_of hr
  refine⟨_,(pss_cons (ps_set (i:=1) nd rfl (.inl rfl) (pe_lst pa_nil))
    (pss_cons (ps_for PassesOwn.never rfl (pi_enT (K:=K) (by rfl) C.enumerate boot_enumerate (pa_cons (pv 0) pa_nil)) (pg_tupK K (n:=2) rfl (pgs_cons (pg_name (i:=2) nd rfl (.inl rfl)) (pgs_cons (pg_name (i:=3) nd rfl (.inl rfl)) pgs_nil)))
     (pss_one (ps_if (pt_cmp (pc_notN (pv 3)))
      (pss_one (ps_expr (appendK K (pv 1) (pa_cons (pe_own G1 D1 hr.m (pa_cons (pv 2) (pa_cons (pv 3) pa_nil))) pa_nil))))
      pss_nil)))
    (pss_one (ps_ret (pe_callTy (tupleK K) (by rfl) B.tuple boot_tuple (pa_cons (pe_callB (sortedTK K) (by rfl) B.sorted boot_sorted (pa_cons (pv 1) pa_nil)) pa_nil)))))),?_⟩
  walk_at "rd";refine⟨by decide,fun l nl=>?_⟩;refine⟨_,rfl,p,rfl,⟨_,SqT.of (at_new hp nl)⟩,for_enT (K:=K) (xs:=pV n g par) (inv_to H p l g par) ⟨none,none,[],rfl,(Same.refl H).upd nl,upd_same,⟨fun x hx=>(by cases hx),rfl⟩⟩ ?_ ?_ ?_⟩
  ·rintro i σ Hc _ ⟨_,_,_,rfl,sc,_⟩;exact SqT.of (sc _ _ hp)
  ·rintro i x σ Hc q0 hx ⟨a,b,ps,rfl,sc,hc,hps⟩ nq;have hil:=(List.getElem?_eq_some_iff.mp hx).1;rw[pV_len] at hil;rw[pV_get hil] at hx;have ex:=Option.some.inj hx;have hpl:ps.length≤i:=by
    have:=hps.len;unfold parT at this;rw[List.length_map] at this;have h2:=List.length_filter_le (fun v=>!decide (v=g)) (rInts 0 i);rw[rInts_length] at h2;omega
   refine fresh_of nq fun Hd sd ed=>?_
   have hcd:=sd _ _ hc;have hpd:=hps.tp sd.tp;walk_at "rd";refine⟨_,SqT.of ed,rfl,_,_,rfl,_,_,rfl,rfl,?_⟩;by_cases hg:(i:Int)=g
   ·rw[if_pos hg] at ex;subst ex;rw[if_neg (by simp)];exact⟨_,_,ps,rfl,sc.trans sd,hcd,by rw[parT_succ,if_pos hg,List.append_nil];exact hpd⟩
   ·rw[if_neg hg] at ex;subst ex;rw[if_pos (by simp)];refine⟨.inl ⟨rfl,_,SqL.of hcd⟩,_,_,rfl,fun tp Hx sx ntp etp=>⟨_,sx _ _ hcd,by rw[List.length_map];exact sizeBig (by omega),_,_,ps++[(tp,tl (mm i (par i)))],rfl,((sc.trans sd).trans sx).upd nl,?_,?_⟩⟩
    ·rw[upd_same,List.map_append];rfl
    ·rw[parT_succ,if_neg hg];refine (hpd.tp (sx.tp.trans (Tp.lst (sx _ _ hcd)))).snoc ?_;rw[upd_ne (ne_of_none hcd ntp).symm];exact etp
  ·rintro σ Hc ⟨a,b,ps,rfl,sc,hc,hps⟩;rw[pV_len] at hps;walk_at "rd";refine⟨ps,hps.src hc (by have h1:=hps.len;have h2:(parT g par n.toNat).length≤n.toNat:=(by unfold parT;rw[List.length_map];exact Nat.le_trans (List.length_filter_le _ _) (by rw[rInts_length];exact Nat.le_refl _));omega),fun ps' l2 pm hs nl2=>?_⟩;obtain⟨us',pu,hps'⟩:=hps.perm pm;refine fresh_of nl2 fun He se ee=>⟨_,.inl ⟨SqL.of ee,fun l3 n3=>fresh_of n3 fun Hf sf ef=>?_⟩⟩
   exact q l3 us' Hf ((sc.trans se).trans sf) ((sc.trans se).free n3) ⟨ps',ef,hps'.tp (se.trans sf).tp⟩ pu (hps'.srt hs)
def inv_tb0 (Hb:Hp)(sp:Addr)(i:Nat)(τ:St)(Hc:Hp):Prop:=∃ c:Option V,τ=[c]∧Same Hb Hc∧Hc sp=some (.lst (List.replicate i V.non))
def inv_tb (Hb:Hp)(w0 pb rp sp wl:Addr)(n:Int)(ts:List (Int×Int))(bs:List Int)(g:Int)(m:Nat)(σ:St)(Hc:Hp):Prop:=∃ (a b:Option V) (k:Nat) (s:TB),σ=[some (.ref w0),some (.ref pb),some (.ref rp),some (.int g),some (.ref sp),some (.ref wl),a,b] ∧
 Same Hb Hc∧Hc sp=some (.lst (stV n g s.par s.vs))∧Hc wl=some (.lst (s.ws.map V.int))∧TBok n ts bs g s∧s=tbRun ts bs g k∧m=tbM n s
def inv_tb2 (Hb:Hp)(w0 pb rp sp wl:Addr)(n:Int)(ts:List (Int×Int))(bs:List Int)(g p:Int)(s0:TB)(M:Nat)(j:Nat)(σ:St)(Hc:Hp):Prop:=∃ (b:Option V) (s:TB),σ=[some (.ref w0),some (.ref pb),some (.ref rp),some (.int g),some (.ref sp),some (.ref wl),some (.int p),b] ∧
 Same Hb Hc∧Hc sp=some (.lst (stV n g s.par s.vs))∧Hc wl=some (.lst (s.ws.map V.int))∧TBok' n ts bs g p j s∧s=tbTake ts bs p s0 j∧tbM n s<M
theorem stV_new {n g p:Int}{par:Int→Int}{vs:List Int}{y:Int}(h0:0≤y)(h1:y<n)(hg:y≠g)(hv:y∉vs):(stV n g par vs).set y.toNat (V.int p)=stV n g (fun v=>if v=y then p else par v) (vs++[y]):=by
 rw[← stV_set h0 h1 hg,if_pos rfl];congr 1;unfold stV;refine List.map_congr_left fun v _=>?_
 by_cases h:v∈vs∧v≠g
 ·rw[if_pos h,if_pos h];dsimp only;rw[if_neg (show ¬ v=y from fun e=>hv (e ▸ h.1))]
 ·rw[if_neg h,if_neg h]
theorem sc_treeby:FnScope ["web","busy","rows","root","parents","waiting","place","other"] ["web","busy"] (defScope (top 22)):=by walk_at "s"
theorem ok_treeby (F:Fun K "tree_by" "tree_by" (top 22) f fd)(B:Bt mg)(D1:Df K mg "neighbour_rows" st1 f1 fd1 ["web"])(G1:FnOk P w K mg base CX0 1 f1 fd1 ["web"] sp_nrows)(D2:Df K mg "tree_of" st2 f2 fd2 ["parents"])(G2:FnOk P w K mg base CX0 2 f2 fd2 ["parents"] sp_treeof2):FnOk P w K mg base CX0 3 f fd ["web","busy"] (sp_treeby K):=by
 refine F.ok sc_treeby (fun vs H Q E h=>?_) (fun cdv A outer s H vs Q E hr h=>?_)
 ·walk_at "h"
 ·obtain⟨w0,n,ts,pb,bs,rfl,hw,hok,hpb,hB,hbr,hbl,q⟩:=h;have nd:=sc_treeby.nd;have hu:=hu_of hr
  refine⟨_,(pss_cons (ps_set (i:=2) nd rfl (.inl rfl) (pe_own G1 D1 hr.m (pa_cons (pv 0) pa_nil)))
    (pss_cons (ps_set (i:=3) nd rfl (.inl rfl) (pe_ix (ix_tupK K) (pv 1) pe_int (fun _ _=>rfl)))
    (pss_cons (ps_setLC (i:=4) (own:=["row"]) (fr:=[]) rfl nd rfl rfl (by walk_at "w") (by walk_at "w") frOk_nil (pi_listK K (pv 2)) ⟨fun _ _ _ _=>⟨(pg_name (i:=0) (show List.Nodup (["row"]:List Str) by decide +kernel) rfl (.inl rfl)),pts_nil,pe_non⟩⟩)
    (pss_cons (ps_set (i:=5) nd rfl (.inl rfl) (pe_lst (pa_cons (pv 3) pa_nil)))
    (pss_cons (ps_while PassesOwn.never (truthK K (pv 5) (fun _=>rfl))
     (pss_cons (ps_set (i:=6) nd rfl (.inl rfl) (popK K (pv 5)))
     (pss_one (ps_for PassesOwn.never rfl (pi_listK K (pe_ix (ix_listK K) (pv 2) (pv 6) (fun _ _=>rfl))) (pg_name (i:=7) nd rfl (.inl rfl))
      (pss_one (ps_if (PW.pt (pw_and (pt_cmpR op_ne (pv 7) (pv 3) (nomark _)) (pw_and1 (pt_cmp (pc_isN (pe_ix (ix_listK K) (pv 4) (pv 7) (fun _ _=>rfl)))))))
       (pss_cons (ps_asg (pv 6) (pg_sub (pv 4) (pv 7) set_list))
       (pss_one (ps_if (pt_cmpR (in_seqK K) (pv 7) (pv 1) (by walk_at "w"))
        (pss_one (ps_expr (appendK K (pv 5) (pa_cons (pv 7) pa_nil))))
        pss_nil)))
       pss_nil))))))
    (pss_one (ps_ret (pe_own G2 D2 hr.m (pa_cons (pe_callTy (tupleK K) (by rfl) B.tuple boot_tuple (pa_cons (pv 4) pa_nil)) pa_nil))))))))),?_⟩
  walk_at "rd";have h3:=hok.n3;have h60:=hok.n60;have hl:=hok.len;obtain⟨g,r,hbs⟩:∃ g r,bs=g::r:=by
   cases bs with
   | nil=>exact absurd rfl hB.1.1
   | cons g r=>exact⟨g,r,rfl⟩
  have hg:g∈bs:=by rw[hbs];simp
  obtain⟨g0,g1⟩:=hbr g hg;have hat:atI (bs.map V.int) 0=some (.int g):=by rw[hbs];show atI (V.int g::r.map V.int) 0=_;unfold atI ixN;simp
  refine⟨w0,n,ts,rfl,hw,by omega,by omega,by omega,hok.rng,fun rp as H1 s1 nrp nas hRw=>?_⟩;refine⟨_,s1.seqT hpb,_,hat,rp,rfl,⟨_,SqL.of hRw.top⟩,fun sp nsp=>lc_list (K:=K) (xs:=as.map V.ref) (inv_tb0 H1 sp) ⟨none,rfl,(Same.refl H1).upd nsp,upd_same⟩ ?_ ?_ ?_⟩
  ·rintro i τ Hc _ ⟨_,rfl,sc,_⟩;exact SqL.of (sc _ _ hRw.top)
  ·rintro i v τ Hc hv ⟨c,rfl,sc,hc⟩ _;have hil:=(List.getElem?_eq_some_iff.mp hv).1;rw[List.length_map,hRw.len,rowsOf_len] at hil;walk_at "rd";refine⟨_,hc,by rw[List.length_replicate];exact sizeBig (by omega),_,rfl,sc.upd nsp,?_⟩;rw[upd_same,List.replicate_succ']
  ·rintro τ H2 ⟨c,rfl,s2,e2⟩;rw[List.length_map,hRw.len,rowsOf_len] at e2;refine⟨by decide,fun wl nwl=>fresh_of nwl fun H3 s3 e3=>?_⟩;have spwl:sp≠wl:=ne_of_none e2 nwl;have n2wl:H1 wl=none:=s2.free nwl;have e23:H3 sp=some (.lst (stV n g id [g])):=by
    rw[s3 _ _ e2];have:stV n g id [g]=List.replicate n.toNat V.non:=by
     unfold stV;refine List.eq_replicate_iff.mpr ⟨by rw[List.length_map,rInts_length],fun b hb=>?_⟩;obtain⟨v,_,rfl⟩:=List.mem_map.mp hb;rw[if_neg (fun h=>h.2 (List.mem_singleton.mp h.1))]
    rw[this]
   refine⟨inv_tb H1 w0 pb rp sp wl n ts bs g,⟨_,none,none,0,⟨[g],[g],id⟩,rfl,s2.trans s3,e23,e3,TBok.init g0 g1 hg,rfl,rfl⟩,?_⟩;rintro m σ Hc ⟨a,b,k,s,rfl,sc,hsp,hwl,hD,hk,rfl⟩;have hvl:=nd_len hD.grow.nd hD.rng;refine⟨_,rfl,_,.inl ⟨_,SqL.of hwl,rfl⟩,ite2 (fun hne=>?_) fun he=>?_⟩
   ·have hw0:s.ws≠[]:=fun e=>by rw[e] at hne;simp at hne
    obtain⟨ws',p,ews⟩:=last_of hw0;have hD':=hD.pop ews;obtain⟨p0,p1⟩:=hD'.rng p hD'.pin;rw[ews] at hwl;obtain⟨hl1,hl2⟩:=last_at ws' p;obtain⟨ra,a1,a2,a3,a4⟩:=hRw.get p0 (rowsOf_get p0 p1);refine⟨fun σ' H'=>∃ m',m'<tbM n s∧inv_tb H1 w0 pb rp sp wl n ts bs g m' σ' H',fun _ _ z=>z,?_⟩;walk_at "rd";refine⟨.inl ⟨rfl,_,SqL.of hwl⟩,_,hwl,_,hl1,?_⟩;rw[hl2];have scw:Same H1 (upd Hc wl (.lst (ws'.map V.int))):=sc.upd n2wl;have hspw:(upd Hc wl (.lst (ws'.map V.int))) sp=some (.lst (stV n g s.par s.vs)):=by rw[upd_ne spwl];exact hsp
    have hM:tbM n ⟨s.vs,ws',s.par⟩<tbM n s:=by unfold tbM;rw[ews,List.length_append];simp
    refine⟨_,rfl,_,rfl,_,_,_,_,rfl,rfl,SqL.of (scw _ _ hRw.top),a2,_,rfl,⟨_,SqL.of (scw _ _ a3)⟩,for_list (K:=K) (xs:=(nb ts p).map V.int) (inv_tb2 H1 w0 pb rp sp wl n ts bs g p ⟨s.vs,ws',s.par⟩ (tbM n s)) ⟨_,⟨s.vs,ws',s.par⟩,rfl,scw,hspw,upd_same,hD',rfl,hM⟩ ?_ ?_ ?_⟩
    ·rintro j σ Hd _ ⟨_,_,rfl,sd,_⟩;exact SqL.of (sd _ _ a3)
    ·rintro j w σ Hd hv ⟨b2,s2',rfl,sd,hsp2,hwl2,hD2,hs2,hm2⟩;rw[List.getElem?_map] at hv;cases hy0:(nb ts p)[j]? with
     | none=>rw[hy0] at hv;cases hv
     | some y =>
     rw[hy0] at hv;cases Option.some.inj hv;have hr:=nb_rng hok.rng (List.mem_of_getElem? hy0);obtain⟨hD3,hm3⟩:=hD2.try hok.rng hy0;have hs3:=tbTake_succ (bs:=bs) (s:=⟨s.vs,ws',s.par⟩) hy0;rw[← hs2] at hs3;have hvl2:=nd_len hD2.grow.nd hD2.rng;have hwl2':=hD2.wl;walk_at "rd";have keep:y∈s2'.vs→∀ b3,inv_tb2 H1 w0 pb rp sp wl n ts bs g p ⟨s.vs,ws',s.par⟩ (tbM n s) (j+1) [some (.ref w0),some (.ref pb),some (.ref rp),some (.int g),some (.ref sp),some (.ref wl),some (.int p),b3] Hd:=fun hv b3=>by
      have e:tbTry bs p s2' y=s2':=by unfold tbTry;rw[if_pos hv]
      rw[e] at hD3 hs3;exact⟨b3,s2',rfl,sd,hsp2,hwl2,hD3,hs3.symm,hm2⟩
     by_cases hyg:y=g
     ·rw[if_neg (by simp[hyg])];exact keep (by rw[hyg];exact hD2.gin) _
     ·rw[if_pos (by simp[hyg])];refine⟨_,SqL.of hsp2,_,stV_at hr.1 hr.2.1,?_⟩;by_cases hv:y∈s2'.vs
      ·rw[if_pos (c:=y∈s2'.vs∧y≠g) ⟨hv,hyg⟩,if_neg (by simp)];exact keep hv _
      ·rw[if_neg (c:=y∈s2'.vs∧y≠g) (fun h=>hv h.1),if_pos (by simp)];refine⟨_,hsp2,_,ixN_at hr.1 (by rw[stV_len];omega),?_⟩;rw[stV_new hr.1 hr.2.1 hyg hv];have e:tbTry bs p s2' y=⟨s2'.vs++[y],if y∈bs then s2'.ws++[y] else s2'.ws,fun v=>if v=y then p else s2'.par v⟩:=by unfold tbTry;rw[if_neg hv]
       rw[e] at hD3 hs3 hm3;have hw3:upd Hd sp (.lst (stV n g (fun v=>if v=y then p else s2'.par v) (s2'.vs++[y]))) wl=some (.lst (s2'.ws.map V.int)):=by rw[upd_ne spwl.symm];exact hwl2
       refine in_use (.inr ((s1.trans (sd.upd nsp)).seqT hpb)) ⟨_,rfl,ite2 (fun hb=>?_) fun hb=>?_⟩
       ·have hb':y∈bs:=by simpa using hb
        rw[if_pos hb'] at hD3 hs3 hm3;exact⟨.inl ⟨rfl,_,SqL.of hw3⟩,_,hw3,by rw[List.length_map];exact sizeBig (by omega),_,_,rfl,(sd.upd nsp).upd n2wl,by rw[upd_ne spwl,upd_same],by rw[upd_same,List.map_append];rfl,hD3,hs3.symm,by omega⟩
       ·have hb':y∉bs:=by simpa using hb
        rw[if_neg hb'] at hD3 hs3 hm3;exact⟨_,⟨s2'.vs++[y],s2'.ws,fun v=>if v=y then p else s2'.par v⟩,rfl,sd.upd nsp,upd_same,hw3,hD3,hs3.symm,by omega⟩
    ·rintro σ Hd ⟨b2,s2',rfl,sd,hsp2,hwl2,hD2,hs2,hm2⟩;rw[List.length_map] at hD2 hs2;refine⟨_,hm2,_,_,k+1,s2',rfl,sd,hsp2,hwl2,hD2.done (Nat.le_refl _),?_,rfl⟩;show s2'=tbStep ts bs (tbRun ts bs g k);rw[← hk,tbStep_pop ews,hs2]
   ·have hw0:s.ws=[]:=by simpa using he
    have hall:=hD.all hw0 hok.rng hB hg;have hln:=hD.len (by omega) hall;walk_at "rd";rw[stV_all hall] at hsp;refine⟨_,.inl ⟨SqL.of hsp,fun l nl=>fresh_of nl fun H4 s4 e4=>?_⟩⟩;refine⟨l,n,g,s.par,rfl,e4,by omega,h60,fun l5 us H5 s5 n5 ht5 pu hsr=>?_⟩;have T:=grow_tree hD.grow hok.rng hln hD.rng (pu.trans (hD.perm hall)) hsr;have s14:=s1.trans (sc.trans s4);refine q l5 us H5 (s14.trans s5) (s14.free n5) ht5 T (fun x x0 x1 hx=>hD.leaf hok.rng hg hall pu T x0 x1 hx) ⟨k,?_⟩;have e:bs.headD 0=g:=by rw[hbs];rfl
    rw[e,← hk];exact⟨hw0,pu⟩
def sp_rsetX:Sp:=fun vs H Q _=>∃ (w:Addr) (n:Int) (ts:List (Int×Int)) (x:V),vs=[.ref w,x]∧WebAt H w n ts∧IsWeb n ts∧PlD H 1 x∧(∀ a xs,x=.ref a→H a=some (.tup xs)→xs.length≤1000)∧∀ (b:Bool) (H':Hp),Same H H'→(b=true↔∃ bs,IsPl H n x bs∧Busy n ts bs)→Q (.bl b) H'
theorem lots_one {n:Int}{ts:List (Int×Int)}{us:List Int}(hok:TsOk n ts)(hr:∀ x∈us,0≤x∧x<n):(lots n ts us us).length=1↔Hng ts us:=by
 have hall:=lots_all hok hr us fun v h=>h
 constructor
 ·intro e;obtain⟨l,hl⟩:=List.length_eq_one_iff.mp e;obtain⟨v,hv,rfl⟩:=lots_mem us l (by rw[hl];simp);refine hng_of hok hv fun y hy=>?_
  obtain⟨m,hm,hym⟩:=hall y hy;rw[hl] at hm;rw[List.mem_singleton.mp hm] at hym;exact (mem_pc hok (hr v hv).1 (hr v hv).2).mp hym
 ·intro h;have pw:=lots_pw (n:=n) (ts:=ts) (us:=us) us fun v h=>h
  match e:lots n ts us us with
  | [] =>
   obtain⟨u,hu⟩:=List.exists_mem_of_ne_nil _ h.1;obtain⟨l,hl,_⟩:=hall u hu;rw[e] at hl;cases hl
  | [l]=>rfl
  | l0::l1::r =>
   rw[e] at pw;obtain⟨v1,hv1,rfl,hn1⟩:=(List.pairwise_cons.mp pw).1 l1 (by simp);obtain⟨v0,hv0,rfl⟩:=lots_mem us l0 (by rw[e];simp);exact absurd ((mem_pc hok (hr v0 hv0).1 (hr v0 hv0).2).mpr (h.2 v0 hv0 v1 hv1)) hn1
theorem sc_rsetX:FnScope ["web","thing"] ["web","thing"] (defScope (top 21)):=by walk_at "s"
theorem ok_rsetX (F:Fun K "right_set" "right_set" (top 21) f fd)(B:Bt mg)(D1:Df K mg "is_place_row" st1 f1 fd1 ["web","thing"])(G1:FnOk P w K mg base CX0 4 f1 fd1 ["web","thing"] sp_vrowX)(D2:Df K mg "pieces" st2 f2 fd2 ["web","places"])(G2:FnOk P w K mg base CX0 2 f2 fd2 ["web","places"] sp_pieces)(D3:Df K mg "touched" st3 f3 fd3 ["web","places"])(G3:FnOk P w K mg base CX0 2 f3 fd3 ["web","places"] sp_touched):FnOk P w K mg base CX0 6 f fd ["web","thing"] sp_rsetX:=by
 refine F.ok sc_rsetX (fun vs H Q E h=>?_) (fun cdv A outer s H vs Q E hr h=>?_)
 ·walk_at "h"
 ·obtain⟨w0,n,ts,x,rfl,hw,hok,hd,hlen,q⟩:=h;have nd:=sc_rsetX.nd;have hu:=hu_of hr
  refine⟨_,(pss_cons (ps_if (pt_not (pt_val (pe_own G1 D1 hr.m (pa_cons (pv 0) (pa_cons (pv 1) pa_nil)))))
     (pss_one (ps_ret pe_bl))
     pss_nil)
    (pss_one (ps_ret (pe_and (pe_cmpR op_eq (pe_callB (lenK K) (by rfl) B.len PySem.boot_len (pa_cons (pe_own G2 D2 hr.m (pa_cons (pv 0) (pa_cons (pv 1) pa_nil))) pa_nil)) pe_int (nomark _)) (pe_one (pe_cmpR op_eq (pe_op op_add (pe_callB (lenK K) (by rfl) B.len PySem.boot_len (pa_cons (pv 1) pa_nil)) (pe_callB (lenK K) (by rfl) B.len PySem.boot_len (pa_cons (pe_own G3 D3 hr.m (pa_cons (pv 0) (pa_cons (pv 1) pa_nil))) pa_nil))) (pe_ix (ix_tupK K) (pv 0) pe_int (fun _ _=>rfl)) (nomark _))))))),?_⟩
  simp only[L2.start,st0,List.map_cons,List.map_nil,List.length_cons,List.length_nil,List.replicate,List.cons_append,List.nil_append,Nat.reduceAdd,Nat.reduceSub];walk_at "rd";have h3:=hok.n3;have h60:=hok.n60;have hl:=hok.len;obtain⟨q0,hw0,htq⟩:=id hw;obtain⟨T,hT⟩:=hd.pl;refine⟨w0,n,.ref q0,x,T,rfl,hw0,hT,hd,hlen,fun b hb=>⟨b,rfl,?_⟩⟩;cases b with
  | false =>
   rw[if_pos (by rfl)];exact q false H (Same.refl H) ⟨fun h=>(by cases h),fun ⟨bs,h,_⟩=>absurd (hb.mpr ⟨bs,h⟩) (by decide)⟩
  | true =>
   rw[if_neg (by decide)];obtain⟨bs,pb,rfl,hpb,hbr,hbs⟩:=hb.mp rfl;have hbl:=nd_len (rising_nd hbs) hbr;have hE:(∃ bs',IsPl H n (.ref pb) bs'∧Busy n ts bs')↔Busy n ts bs:=by
    refine⟨fun ⟨bs',⟨p',e,h2,_⟩,h⟩=>?_,fun h=>⟨bs,⟨pb,rfl,hpb,hbr,hbs⟩,h⟩⟩;cases e;rw[hpb] at h2;injection h2 with h2
    injection h2 with h2
    rw[ints_inj h2];exact h
   refine⟨w0,n,ts,pb,bs,rfl,hw,hok.rng,by omega,by omega,by omega,hpb,by omega,hbr,fun lp H1 s1 n1 hLs=>?_⟩;obtain⟨ps,ep,hrow,hpe⟩:=id hLs;have hcnt:=lots_one hok.rng hbr;rw[← hpe,List.length_map] at hcnt;refine⟨lp,rfl,_,.inr (SqT.of ep),?_⟩;by_cases hH:Hng ts bs
   ·rw[if_pos (by rw[List.length_map,hcnt.mpr hH];rfl)];refine⟨pb,rfl,_,.inr (SqT.of (s1 _ _ hpb)),w0,n,ts,pb,bs,rfl,hw.tp s1.tp,hok,s1 _ _ hpb,by omega,hbr,fun lt zs H2 s2 n2 e2 hz hm=>⟨lt,rfl,_,.inr (SqT.of e2),_,SqT.of ((s1.trans s2) _ _ hw0),_,rfl,rfl,q _ H2 (s1.trans s2) ?_⟩⟩;have hbi:=busy_iff (ts:=ts) (rising_nd hbs) hbr (by omega) hz fun x=>by
     rw[hm];constructor
     ·rintro⟨h1,y,hy,hxy⟩;have g:=nb_rng hok.rng hxy;exact⟨g.1,g.2.1,h1,y,hy,(nb_sym hok.rng).mp hxy⟩
     ·rintro⟨_,_,h1,y,hy,hyx⟩;exact⟨h1,y,hy,(nb_sym hok.rng).mp hyx⟩
    rw[hE,decide_eq_true_iff,List.length_map,List.length_map];constructor
    ·intro e;exact⟨hH,hbi.mp (by injection e;omega)⟩
    ·intro h;have:=hbi.mpr h.2;congr 1;omega
   ·rw[if_neg (by rw[List.length_map];intro e;exact hH (hcnt.mp (by have:=of_decide_eq_true e;omega)))];exact q false H1 s1 ⟨fun h=>(by cases h),fun h=>absurd (hE.mp h).1 hH⟩
theorem betw_of {p n:Int}(p0:0≤p)(p1:p<n):betw (.int p) 0 (n-1)=true:=by
 unfold betw;simp;omega
def IsOn (n:Int)(ts:List (Int×Int))(bs:List Int)(p:Int)(v:V):Prop:=∃ x,v=.int x∧(0≤x∧x<n)∧alOf ts bs x=[p]
def sp_rownX (K:PySem.W.Frag):Sp:=fun vs H Q _=>∃ (w:Addr) (n:Int) (ts:List (Int×Int)) (pb:Addr) (bs:List Int) (p:Int) (v:V) (T:String),vs=[.ref w,.ref pb,.int p,v]∧WebAt H w n ts∧IsWeb n ts∧SqT K H pb (bs.map V.int)∧bs.length≤60∧Pl H v T∧∀ (c:Bool) (H':Hp),Same H H'→(c=true↔IsOn n ts bs p v)→Q (.bl c) H'
theorem sc_rownX:FnScope ["web","busy","place","thing"] ["web","busy","place","thing"] (defScope (top 26)):=by walk_at "s"
theorem ok_rownX (F:Fun K "right_own" "right_own" (top 26) f fd)(B:Bt mg)(D1:Df K mg "is_place" st1 f1 fd1 ["web","thing"])(G1:FnOk P w K mg base CX0 3 f1 fd1 ["web","thing"] sp_isplace)(D2:Df K mg "lot_rows" st2 f2 fd2 ["web"])(G2:FnOk P w K mg base CX0 2 f2 fd2 ["web"] sp_lots)(D3:Df K mg "has_alone" st3 f3 fd3 ["lot","busy","place"])(G3:FnOk P w K mg base CX0 1 f3 fd3 ["lot","busy","place"] (sp_alone K)):FnOk P w K mg base CX0 4 f fd ["web","busy","place","thing"] (sp_rownX K):=by
 refine F.ok sc_rownX (fun vs H Q E h=>?_) (fun cdv A outer s H vs Q E hr h=>?_)
 ·walk_at "h"
 ·obtain⟨w0,n,ts,pb,bs,p,v,T,rfl,hw,hok,hpb,hbl,hv,q⟩:=h;have nd:=sc_rownX.nd;have hu:=hu_of hr;refine⟨_,(pss_one (ps_ret (pe_and (pe_own G1 D1 hr.m (pa_cons (pv 0) (pa_cons (pv 3) pa_nil))) (pe_one (pe_own G3 D3 hr.m (pa_cons (pe_ix (ix_listK K) (pe_own G2 D2 hr.m (pa_cons (pv 0) pa_nil)) (pv 3) (fun _ _=>rfl)) (pa_cons (pv 1) (pa_cons (pv 2) pa_nil)))))))),?_⟩;walk_at "rd";have h3:=hok.n3;have h60:=hok.n60;have hl:=hok.len;obtain⟨q0,hw0,htq⟩:=id hw;refine⟨w0,n,_,v,T,rfl,hw0,hv,_,rfl,?_⟩;cases hb:betw v 0 (n-1) with
  | false =>
   rw[if_neg (by decide)];refine q false H (Same.refl H) ⟨fun h=>(by cases h),fun ⟨x,e,⟨x0,x1⟩,_⟩=>?_⟩;subst e;rw[betw_of x0 x1] at hb;cases hb
  | true =>
   obtain⟨x,rfl,x0,x1⟩:=betw_int hb;rw[if_pos (by decide)];refine⟨w0,n,ts,rfl,hw,by omega,by omega,by omega,hok.rng,fun lp as H1 s1 nlp nas hR=>?_⟩;obtain⟨a,_,g2,g3,_⟩:=hR.get x0 (lotsOf_get x0 x1);refine⟨lp,rfl,_,x,rfl,SqL.of hR.top,_,g2,a,x::nb ts x,pb,bs,p,rfl,SqL.of g3,s1.seqT hpb,by omega,fun H2 s2=>q _ H2 (s1.trans s2) ?_⟩;rw[decide_eq_true_iff];exact⟨fun h=>⟨x,rfl,⟨x0,x1⟩,h⟩,fun ⟨x',e,_,h⟩=>by cases e;exact h⟩
def IsSd (H:Hp)(ts:List (Int×Int))(bs:List Int)(p:Int)(v:V):Prop:=∃ a l,v=.ref a∧H a=some (.tup (l.map V.int))∧PartOk ts bs p l
def sp_rsideX (K:PySem.W.Frag):Sp:=fun vs H Q _=>∃ (w:Addr) (n:Int) (ts:List (Int×Int)) (pb:Addr) (bs:List Int) (p:Int) (v:V) (T:String),vs=[.ref w,.ref pb,.int p,v]∧WebAt H w n ts∧IsWeb n ts∧SqT K H pb (bs.map V.int)∧bs.length≤60∧(∀ x∈bs,0≤x∧x<n)∧Pl H v T∧PlD H 1 v∧(∀ a xs,v=.ref a→H a=some (.tup xs)→xs.length<300)∧∀ (c:Bool) (H':Hp),Same H H'→(c=true↔IsSd H ts bs p v)→Q (.bl c) H'
theorem sc_rsideX:FnScope ["web","busy","place","thing","left","rest"] ["web","busy","place","thing"] (defScope (top 27)):=by walk_at "s"
theorem ok_rsideX (F:Fun K "right_side" "right_side" (top 27) f fd)(B:Bt mg)(D1:Df K mg "is_place_row" st1 f1 fd1 ["web","thing"])(G1:FnOk P w K mg base CX0 4 f1 fd1 ["web","thing"] sp_vrowX)(D2:Df K mg "all_but" st2 f2 fd2 ["places","some"])(G2:FnOk P w K mg base CX0 1 f2 fd2 ["places","some"] (sp_allbut K))(D3:Df K mg "touched" st3 f3 fd3 ["web","places"])(G3:FnOk P w K mg base CX0 2 f3 fd3 ["web","places"] sp_touched)(D4:Df K mg "have_common" st4 f4 fd4 ["one","other"])(G4:FnOk P w K mg base CX0 1 f4 fd4 ["one","other"] (sp_common K)):FnOk P w K mg base CX0 5 f fd ["web","busy","place","thing"] (sp_rsideX K):=by
 refine F.ok sc_rsideX (fun vs H Q E h=>?_) (fun cdv A outer s H vs Q E hr h=>?_)
 ·walk_at "h"
 ·obtain⟨w0,n,ts,pb,bs,p,v,T,rfl,hw,hok,hpb,hbl,hbr,hv,hd,hlen,q⟩:=h;have nd:=sc_rsideX.nd;have hu:=hu_of hr
  refine⟨_,(pss_cons (ps_if (pt_not (pt_val (pe_own G1 D1 hr.m (pa_cons (pv 0) (pa_cons (pv 3) pa_nil)))))
     (pss_one (ps_ret pe_bl))
     pss_nil)
    (pss_cons (ps_set (i:=4) nd rfl (.inl rfl) (pe_own G2 D2 hr.m (pa_cons (pv 1) (pa_cons (pe_tup (pa_cons (pv 2) pa_nil)) pa_nil))))
    (pss_cons (ps_set (i:=5) nd rfl (.inl rfl) (pe_own G2 D2 hr.m (pa_cons (pv 4) (pa_cons (pv 3) pa_nil))))
    (pss_cons (ps_if (PW.pt (pw_or (pt_cmpR (eqDK K hr.units) (pv 3) (pe_tup pa_nil) (nomark _)) (pw_or (pt_cmpR (eqDK K hr.units) (pv 5) (pe_tup pa_nil) (nomark _)) (pw_or1 (pt_cmpR (neDK K hr.units) (pe_own G2 D2 hr.m (pa_cons (pv 3) (pa_cons (pv 4) pa_nil))) (pe_tup pa_nil) (nomark _))))))
     (pss_one (ps_ret pe_bl))
     pss_nil)
    (pss_one (ps_ret (pe_not (pe_own G4 D4 hr.m (pa_cons (pe_own G3 D3 hr.m (pa_cons (pv 0) (pa_cons (pv 3) pa_nil))) (pa_cons (pv 5) pa_nil)))))))))),?_⟩
  walk_at "rd";obtain⟨q0,hw0,htq⟩:=id hw;have h60:=hok.n60;have hLl:(lessOf bs p).length≤60:=Nat.le_trans (List.length_filter_le _ _) hbl;refine⟨w0,n,_,v,T,rfl,hw0,hv,hd,fun a xs e ea=>Nat.le_of_lt (Nat.lt_of_lt_of_le (hlen a xs e ea) (by decide)),fun b hb=>⟨b,rfl,?_⟩⟩;cases b with
  | false =>
   rw[if_pos (by decide)];refine q false H (Same.refl H) ⟨fun h=>(by cases h),fun ⟨a,l,e,ea,hP⟩=>?_⟩;cases hb.mpr ⟨l,a,e,ea,fun x hx=>hbr x (hP.sub x hx).1,hP.up⟩
  | true =>
  obtain⟨l,pl,rfl,hpl,hlr,hlu⟩:=hb.mp rfl;rw[if_neg (by decide)]
  have q:∀ (c:Bool) (H':Hp),Same H H'→(c=true↔PartOk ts bs p l)→Q (.bl c) H':=fun c H' s h=>q c H' s (h.trans ⟨fun h=>⟨pl,l,rfl,hpl,h⟩,fun ⟨a,l',e,ea,h⟩=>by
   cases e;rw[hpl] at ea;injection ea with ea
   injection ea with ea
   rw[ints_inj ea];exact h⟩)
  have no:∀ {H'},Same H H'→¬ PartOk ts bs p l→Q (.bl false) H':=fun s h=>q false _ s ⟨fun h=>(by cases h),fun h'=>absurd h' h⟩
  have hll:=nd_len (rising_nd hlu) hlr;refine⟨by decide,fun p1 n1=>fresh_of n1 fun H1 s1 e1=>⟨pb,bs,p1,[p],rfl,s1.seqT hpb,by omega,SqT.of e1,fun pL H2 s2 n2 e2=>?_⟩⟩;refine⟨pL,lessOf bs p,pl,l,rfl,SqT.of e2,by omega,SqT.of ((s1.trans s2) _ _ hpl),fun pR H3 s3 n3 e3=>?_⟩;have s13:=(s1.trans s2).trans s3;dsimp only;refine⟨by decide,fun p4 n4=>fresh_of n4 fun H4 s4 e4=>eqTI (ms:=[]) (SqT.of ((s13.trans s4) _ _ hpl)) (SqT.of e4) ⟨_,rfl,?_⟩⟩;by_cases hE:l=[]
  ·rw[if_pos (decide_eq_true hE)];exact no (s13.trans s4) fun h=>h.ne hE
  rw[if_neg (by simpa using hE)];refine⟨by decide,fun p5 n5=>fresh_of n5 fun H5 s5 e5=>eqTI (ms:=[]) (SqT.of ((s4.trans s5) _ _ e3)) (SqT.of e5) ⟨_,rfl,?_⟩⟩;have s15:=(s13.trans s4).trans s5;by_cases hR:((lessOf bs p).filter fun x=>!decide (x∈l))=[]
  ·rw[if_pos (decide_eq_true hR)];refine no s15 fun h=>?_
   obtain⟨y,y1,y2,y3⟩:=h.rest;have:y∈(lessOf bs p).filter fun x=>!decide (x∈l):=List.mem_filter.mpr ⟨mem_less.mpr ⟨y1,y2⟩,by simpa using y3⟩
   rw[hR] at this;cases this
  rw[if_neg (by simpa using hR)];have s35:=(s3.trans s4).trans s5;refine⟨pl,l,pL,lessOf bs p,rfl,SqT.of (s15 _ _ hpl),by omega,SqT.of (s35 _ _ e2),fun p6 H6 s6 n6 e6=>?_⟩;dsimp only;refine⟨by decide,fun p7 n7=>fresh_of n7 fun H7 s7 e7=>neTI (ms:=[]) (SqT.of (s7 _ _ e6)) (SqT.of e7) ⟨_,rfl,?_⟩⟩;have s17:=(s15.trans s6).trans s7;by_cases hS:(l.filter fun x=>!decide (x∈lessOf bs p))=[]
  ·rw[hS,if_neg (by simp)];have hsub:∀ x∈l,x∈bs∧x≠p:=fun x hx=>by
    have:=List.filter_eq_nil_iff.mp hS x hx;exact mem_less.mp (by simpa using this)
   refine⟨w0,n,ts,pl,l,rfl,hw.tp s17.tp,hok,s17 _ _ hpl,by omega,hlr,fun pt zs H8 s8 n8 e8 hz hm=>?_⟩;dsimp only;have hzl:=nd_len (rising_nd hz) (n:=n) fun x hx=>by
    obtain⟨_,y,_,y2⟩:=(hm x).mp hx;have:=nb_rng hok.rng y2;exact⟨this.1,this.2.1⟩
   refine⟨pt,zs,pR,_,rfl,.inr (SqT.of e8),by omega,.inr (SqT.of ((((s4.trans s5).trans s6).trans s7).trans s8 _ _ e3)),fun b H9 s9 hb=>⟨b,rfl,?_⟩⟩;refine q (!b) H9 ((s17.trans s8).trans s9) ?_;cases b with
   | false =>
    refine⟨fun _=>⟨hE,hlu,hsub,?_,fun x hx y hy hyb hyp=>Classical.byContradiction fun hyl=>?_⟩,fun _=>rfl⟩
    ·obtain⟨y,hy⟩:=List.exists_mem_of_ne_nil _ hR;obtain⟨y1,y2⟩:=List.mem_filter.mp hy;exact⟨y,(mem_less.mp y1).1,(mem_less.mp y1).2,by simpa using y2⟩
    ·cases hb.mpr ⟨y,(hm y).mpr ⟨hyl,x,hx,hy⟩,List.mem_filter.mpr ⟨mem_less.mpr ⟨hyb,hyp⟩,by simpa using hyl⟩⟩
   | true =>
    refine⟨fun h=>(by cases h),fun hP=>?_⟩;obtain⟨x,x1,x2⟩:=hb.mp rfl;obtain⟨x3,y,y1,y2⟩:=(hm x).mp x1;obtain⟨x4,x5⟩:=List.mem_filter.mp x2;exact absurd (hP.cut y y1 x y2 (mem_less.mp x4).1 (mem_less.mp x4).2) x3
  ·rw[if_pos (by simpa using hS)];refine no s17 fun h=>hS (List.filter_eq_nil_iff.mpr fun x hx=>by simpa using mem_less.mpr (h.sub x hx))
def NdF (H:Hp)(v:V):Prop:=∀ t xs,v=.ref t→H t=some (.tup xs)→xs.length=2→∃ (v0 v1:V) (T:String),xs=[v0,v1]∧W1 H v0∧Pl H v1 T∧PlD H 1 v1∧∀ a ys,v1=.ref a→H a=some (.tup ys)→ys.length<300
theorem NdF.mono {H H':Hp}{v:V}{T:String}(h:NdF H v)(hp:Pl H v T)(s:Same H H'):NdF H' v:=fun t xs e e2 hl=>by
 subst e;obtain⟨v0,v1,T1,rfl,a,b,c,d⟩:=h t xs rfl (hp.back s e2) hl;refine⟨v0,v1,T1,rfl,a.same s,b.mono s,c.mono s,fun u ys e ea=>?_⟩;subst e;exact d u ys rfl (b.back s ea)
theorem NeedAt.iff {H H':Hp}{n:Int}{ts:List (Int×Int)}{bs:List Int}{p:Int}{v:V}{T:String}(hp:Pl H v T)(hF:NdF H v)(s:Same H H'):NeedAt H' n ts bs p v↔NeedAt H n ts bs p v:=by
 refine⟨fun h=>?_,fun h=>h.tp s.tp⟩;cases h with
 | own e a b c=>exact .own (hp.back s e) a b c
 | @parts t a l e ea hP =>
  have e':=hp.back s e;obtain⟨v0,v1,T1,ee,_,h1,_⟩:=hF t _ rfl e' rfl;cases ee;exact .parts e' (h1.back s ea) hP
def sp_rneedX (K:PySem.W.Frag):Sp:=fun vs H Q _=>∃ (w:Addr) (n:Int) (ts:List (Int×Int)) (pb:Addr) (bs:List Int) (p:Int) (v:V) (T:String),vs=[.ref w,.ref pb,.int p,v]∧WebAt H w n ts∧IsWeb n ts∧SqT K H pb (bs.map V.int)∧bs.length≤60∧(∀ x∈bs,0≤x∧x<n)∧Pl H v T∧NdF H v∧∀ (c:Bool) (H':Hp),Same H H'→(c=true↔NeedAt H n ts bs p v)→Q (.bl c) H'
theorem sc_rneedX:FnScope ["web","busy","place","thing"] ["web","busy","place","thing"] (defScope (top 28)):=by walk_at "s"
theorem ok_rneedX (F:Fun K "right_need" "right_need" (top 28) f fd)(B:Bt mg)(D1:Df K mg "right_own" st1 f1 fd1 ["web","busy","place","thing"])(G1:FnOk P w K mg base CX0 4 f1 fd1 ["web","busy","place","thing"] (sp_rownX K))(D2:Df K mg "right_side" st2 f2 fd2 ["web","busy","place","thing"])(G2:FnOk P w K mg base CX0 5 f2 fd2 ["web","busy","place","thing"] (sp_rsideX K))(C:Bt2 mg):FnOk P w K mg base CX0 6 f fd ["web","busy","place","thing"] (sp_rneedX K):=by
 refine F.ok sc_rneedX (fun vs H Q E h=>?_) (fun cdv A outer s H vs Q E hr h=>?_)
 ·walk_at "h"
 ·obtain⟨w0,n,ts,pb,bs,p,v,T,rfl,hw,hok,hpb,hbl,hbr,hv,hF,q⟩:=h;have nd:=sc_rneedX.nd;have hu:=hu_of hr
  refine⟨_,(pss_cons (ps_if (PW.pt (pw_or (pt_not (pt_val (pe_callB (isiK K) (by rfl) C.isinstance boot_isinstance (pa_cons (pv 3) (pa_cons (pe_ty (by rfl) B.tuple boot_tuple) pa_nil))))) (pw_or1 (pt_cmpR op_ne (pe_callB (lenK K) (by rfl) B.len PySem.boot_len (pa_cons (pv 3) pa_nil)) pe_int (nomark _)))))
     (pss_one (ps_ret pe_bl))
     pss_nil)
    (pss_cons (ps_if (pt_cmpR (eqDK K hr.units) (pe_ix (ix_tupK K) (pv 3) pe_int (fun _ _=>rfl)) pe_str (nomark _))
     (pss_one (ps_ret (pe_own G1 D1 hr.m (pa_cons (pv 0) (pa_cons (pv 1) (pa_cons (pv 2) (pa_cons (pe_ix (ix_tupK K) (pv 3) pe_int (fun _ _=>rfl)) pa_nil)))))))
     pss_nil)
    (pss_one (ps_ret (pe_and (pe_cmpR (eqDK K hr.units) (pe_ix (ix_tupK K) (pv 3) pe_int (fun _ _=>rfl)) pe_str (nomark _)) (pe_one (pe_own G2 D2 hr.m (pa_cons (pv 0) (pa_cons (pv 1) (pa_cons (pv 2) (pa_cons (pe_ix (ix_tupK K) (pv 3) pe_int (fun _ _=>rfl)) pa_nil))))))))))),?_⟩
  walk_at "rd";have no:∀ {H'},Same H H'→¬ NeedAt H n ts bs p v→Q (.bl false) H':=fun s h=>q false _ s ⟨fun h=>(by cases h),fun h'=>absurd h' h⟩
  refine⟨_,_,⟨rfl,rfl⟩,_,hv.ty,_,kit_plain hv (.inr (.inr rfl)),?_⟩;cases h1:isIn T "tuple" with
  | false =>
   rw[if_pos (by rfl)];refine no (Same.refl H) fun h=>?_
   have:∃ t xs,v=.ref t∧H t=some (.tup xs):=by
    cases h with
    | own e _ _ _=>exact⟨_,_,rfl,e⟩
    | parts e _ _=>exact⟨_,_,rfl,e⟩
   obtain⟨t,xs,rfl,h2⟩:=this;cases hv with
   | lst e=>rw[e] at h2;cases h2
   | tup e=>cases h1
   | dK e=>rw[e] at h2;cases h2
   | dT e=>rw[e] at h2;cases h2
  | true =>
   rw[if_neg (by decide)];cases hv with
   | @tup t xs e =>
    have len2:NeedAt H n ts bs p (.ref t)→xs.length=2:=fun h=>by
     cases h with
     | own e2 _ _ _=>rw[e] at e2;cases e2;rfl
     | parts e2 _ _=>rw[e] at e2;cases e2;rfl
    refine⟨t,rfl,_,.inr (SqT.of e),?_⟩;by_cases hx2:xs.length=2
    ·obtain⟨v0,v1,T1,rfl,hv0,hv1,hd1,hl1⟩:=hF t xs rfl e hx2;rw[if_neg (by simp)];refine⟨t,rfl,_,SqT.of e,_,rfl,eqStr1 hv0 (show PyData.strOk _=true by decide +kernel) ⟨_,rfl,?_⟩⟩;by_cases e0:v0=.str "own"
     ·subst e0;rw[if_pos (by simp)];refine⟨t,rfl,_,SqT.of e,_,rfl,w0,n,ts,pb,bs,p,v1,T1,rfl,hw,hok,hpb,hbl,hv1,fun c H1 s1 hc=>q c H1 s1 (hc.trans ⟨fun ⟨x,ex,⟨x0,x1⟩,h⟩=>?_,fun h=>?_⟩)⟩
      ·subst ex;exact .own e x0 x1 h
      ·cases h with
       | own e2 x0 x1 h=>rw[e] at e2;cases e2;exact⟨_,rfl,⟨x0,x1⟩,h⟩
       | parts e2 _ _=>rw[e] at e2;cases e2
     ·rw[if_neg (by simp[e0])];refine⟨t,rfl,_,SqT.of e,_,rfl,eqStr1 hv0 (show PyData.strOk _=true by decide +kernel) ⟨_,rfl,?_⟩⟩;by_cases e1:v0=.str "parts"
      ·subst e1;rw[if_pos (by simp)];refine⟨t,rfl,_,SqT.of e,_,rfl,w0,n,ts,pb,bs,p,v1,T1,rfl,hw,hok,hpb,hbl,hbr,hv1,hd1,hl1,fun c H1 s1 hc=>q c H1 s1 (hc.trans ⟨fun ⟨a,l,ea,e3,h⟩=>?_,fun h=>?_⟩)⟩
       ·subst ea;exact .parts e e3 h
       ·cases h with
        | own e2 x0 x1 h=>rw[e] at e2;cases e2
        | parts e2 e3 h=>rw[e] at e2;cases e2;exact⟨_,_,rfl,e3,h⟩
      ·rw[if_neg (by simp[e1])];refine no (Same.refl H) fun h=>?_
       cases h with
       | own e2 _ _ _=>rw[e] at e2;cases e2;exact e0 rfl
       | parts e2 _ _=>rw[e] at e2;cases e2;exact e1 rfl
    ·rw[if_pos (by simp;omega)];exact no (Same.refl H) fun h=>hx2 (len2 h)
   | _=>cases h1
def IsNds (H:Hp)(n:Int)(ts:List (Int×Int))(bs:List Int)(v:V):Prop:=∃ t xs,v=.ref t∧H t=some (.tup xs)∧xs.length=bs.length∧∀ (i:Nat) z p,xs[i]?=some z→bs[i]?=some p→NeedAt H n ts bs p z
def NdsF (H:Hp)(v:V):Prop:=∀ t xs,v=.ref t→H t=some (.tup xs)→∀ z∈xs,NdF H z∧∃ T,Pl H z T
def sp_rneedsX (K:PySem.W.Frag):Sp:=fun vs H Q _=>∃ (w:Addr) (n:Int) (ts:List (Int×Int)) (pb:Addr) (bs:List Int) (v:V) (T:String),vs=[.ref w,.ref pb,v]∧WebAt H w n ts∧IsWeb n ts∧SqT K H pb (bs.map V.int)∧bs.length≤60∧(∀ x∈bs,0≤x∧x<n)∧Pl H v T∧NdsF H v∧∀ (c:Bool) (H':Hp),Same H H'→(c=true↔IsNds H n ts bs v)→Q (.bl c) H'
def inv_rnsX (Hb:Hp)(w0 pb pn:Addr)(n:Int)(ts:List (Int×Int))(bs:List Int)(xs:List V)(i:Nat)(σ:St)(Hc:Hp):Prop:=∃ c d:Option V,σ=[some (.ref w0),some (.ref pb),some (.ref pn),c,d]∧Same Hb Hc∧∀ (j:Nat) z p,j<i→xs[j]?=some z→bs[j]?=some p→NeedAt Hb n ts bs p z
theorem sc_rneedsX:FnScope ["web","busy","thing","place","need"] ["web","busy","thing"] (defScope (top 29)):=by walk_at "s"
theorem ok_rneedsX (F:Fun K "right_needs" "right_needs" (top 29) f fd)(B:Bt mg)(D1:Df K mg "right_need" st1 f1 fd1 ["web","busy","place","thing"])(G1:FnOk P w K mg base CX0 6 f1 fd1 ["web","busy","place","thing"] (sp_rneedX K))(C:Bt2 mg):FnOk P w K mg base CX0 7 f fd ["web","busy","thing"] (sp_rneedsX K):=by
 refine F.ok sc_rneedsX (fun vs H Q E h=>?_) (fun cdv A outer s H vs Q E hr h=>?_)
 ·walk_at "h"
 ·obtain⟨w0,n,ts,pb,bs,v,T,rfl,hw,hok,hpb,hbl,hbr,hv,hF,q⟩:=h;have nd:=sc_rneedsX.nd;have hu:=hu_of hr
  refine⟨_,(pss_cons (ps_if (PW.pt (pw_or (pt_not (pt_val (pe_callB (isiK K) (by rfl) C.isinstance boot_isinstance (pa_cons (pv 2) (pa_cons (pe_ty (by rfl) B.tuple boot_tuple) pa_nil))))) (pw_or1 (pt_cmpR op_ne (pe_callB (lenK K) (by rfl) B.len PySem.boot_len (pa_cons (pv 2) pa_nil)) (pe_callB (lenK K) (by rfl) B.len PySem.boot_len (pa_cons (pv 1) pa_nil)) (nomark _)))))
     (pss_one (ps_ret pe_bl))
     pss_nil)
    (pss_cons (ps_for PassesOwn.never rfl (pi_zip (K:=K) (by rfl) C.zip boot_zip (pa_cons (pv 1) (pa_cons (pv 2) pa_nil))) (pg_tupK K (n:=2) rfl (pgs_cons (pg_name (i:=3) nd rfl (.inl rfl)) (pgs_cons (pg_name (i:=4) nd rfl (.inl rfl)) pgs_nil)))
     (pss_one (ps_if (pt_not (pt_val (pe_own G1 D1 hr.m (pa_cons (pv 0) (pa_cons (pv 1) (pa_cons (pv 3) (pa_cons (pv 4) pa_nil)))))))
      (pss_one (ps_ret pe_bl))
      pss_nil)))
    (pss_one (ps_ret pe_bl)))),?_⟩
  walk_at "rd";have no:∀ {H'},Same H H'→¬ IsNds H n ts bs v→Q (.bl false) H':=fun s h=>q false _ s ⟨fun h=>(by cases h),fun h'=>absurd h' h⟩
  refine⟨_,_,⟨rfl,rfl⟩,_,hv.ty,_,kit_plain hv (.inr (.inr rfl)),?_⟩;cases h1:isIn T "tuple" with
  | false =>
   rw[if_pos (by rfl)];refine no (Same.refl H) fun ⟨t,xs,e,h2,_⟩=>?_
   subst e;cases hv with
   | lst e=>rw[e] at h2;cases h2
   | tup e=>cases h1
   | dK e=>rw[e] at h2;cases h2
   | dT e=>rw[e] at h2;cases h2
  | true =>
   rw[if_neg (by decide)];cases hv with
   | @tup pn xs ev =>
    have hF1:=hF pn xs rfl ev
    have iff0:IsNds H n ts bs (.ref pn)↔xs.length=bs.length∧∀ (i:Nat) z p,xs[i]?=some z→bs[i]?=some p→NeedAt H n ts bs p z:=⟨fun ⟨t',xs',e',e2,h⟩=>by
     cases e';rw[ev] at e2;cases e2
     exact h,fun h=>⟨pn,xs,rfl,ev,h⟩⟩
    refine⟨pn,rfl,_,.inr (SqT.of ev),_,.inr hpb,?_⟩;by_cases el:xs.length=bs.length
    ·rw[if_neg (by rw[List.length_map,el];simp)];rw[tFor_eq];walk_at "rd";refine⟨pb,pn,⟨rfl,rfl⟩,⟨_,hpb⟩,⟨_,SqT.of ev⟩,for_zip (K:=K) (xs:=bs.map V.int) (ys:=xs) (inv_rnsX H w0 pb pn n ts bs xs) ⟨none,none,rfl,Same.refl H,fun j z p hj=>absurd hj (Nat.not_lt_zero _)⟩ (by rw[List.length_map];omega) ?_ ?_ ?_⟩
     ·rintro i σ Hc _ ⟨_,_,rfl,sc,_⟩;exact⟨sc.seqT hpb,SqT.of (sc _ _ ev)⟩
     ·rintro i x y σ Hc q0 hx hy ⟨c,d,rfl,sc,hin⟩ nq;rw[List.getElem?_map] at hx;cases hp0:bs[i]? with
      | none=>rw[hp0] at hx;cases hx
      | some p =>
      rw[hp0] at hx;cases Option.some.inj hx;refine fresh_of nq fun Hd sd ed=>?_
      have s2:=sc.trans sd;obtain⟨hFy,Ty,hPy⟩:=hF1 y (List.mem_of_getElem? hy);walk_at "rd";refine⟨_,SqT.of ed,rfl,_,_,rfl,_,_,rfl,rfl,w0,n,ts,pb,bs,p,y,Ty,rfl,hw.tp s2.tp,hok,s2.seqT hpb,hbl,hbr,hPy.mono s2,NdF.mono hFy hPy s2,fun b He se hb=>⟨b,rfl,?_⟩⟩;rw[NeedAt.iff hPy hFy s2] at hb;cases b with
      | false =>
       rw[if_pos (by decide)];refine no (s2.trans se) fun h=>?_
       cases hb.mpr ((iff0.mp h).2 i y p hy hp0)
      | true =>
       rw[if_neg (by decide)];refine⟨_,_,rfl,s2.trans se,fun j z r hj hz hr=>?_⟩;rcases Nat.lt_or_ge j i with k | k
       ·exact hin j z r k hz hr
       ·have ej:j=i:=by omega
        subst ej;rw[hy] at hz;rw[hp0] at hr;cases hz;cases hr;exact hb.mp rfl
     ·rintro σ Hc ⟨c,d,rfl,sc,hin⟩;walk_at "rd";exact q true Hc sc ⟨fun _=>iff0.mpr ⟨el,fun i z p hz hp=>hin i z p (List.getElem?_eq_some_iff.mp hz).1 hz hp⟩,fun _=>rfl⟩
    ·rw[if_pos (by rw[List.length_map];simp;omega)];exact no (Same.refl H) fun h=>el (iff0.mp h).1
   | _=>cases h1
def sp_needof (K:PySem.W.Frag):Sp:=fun vs H Q _=>∃ (w:Addr) (n:Int) (ts:List (Int×Int)) (pb:Addr) (bs:List Int) (p:Int),vs=[.ref w,.ref pb,.int p]∧WebAt H w n ts∧IsWeb n ts∧SqT K H pb (bs.map V.int)∧bs.Pairwise (·<·)∧(∀ x∈bs,0≤x∧x<n)∧Busy n ts bs∧p∈bs∧¬ Busy n ts (lessOf bs p) ∧
 ∀ (t:Addr) (H':Hp),Same H H'→NeedAt H' n ts bs p (.ref t)→NdAt H' (.ref t) (needN n ts bs p)→Q (.ref t) H'
def inv_nof (Hb:Hp)(w0 pb:Addr)(p:Int)(ts:List (Int×Int))(bs:List Int)(i:Nat)(σ:St)(Hc:Hp):Prop:=∃ (a b:Option V),σ=[some (.ref w0),some (.ref pb),some (.int p),a,b]∧Same Hb Hc∧∀ j:Nat,j<i→alOf ts bs j≠[p]
theorem sc_needof:FnScope ["web","busy","place","other","lot"] ["web","busy","place"] (defScope (top 30)):=by walk_at "s"
theorem ok_needof (F:Fun K "need_of" "need_of" (top 30) f fd)(B:Bt mg)(D1:Df K mg "lot_rows" st1 f1 fd1 ["web"])(G1:FnOk P w K mg base CX0 2 f1 fd1 ["web"] sp_lots)(D2:Df K mg "has_alone" st2 f2 fd2 ["lot","busy","place"])(G2:FnOk P w K mg base CX0 1 f2 fd2 ["lot","busy","place"] (sp_alone K))(D3:Df K mg "pieces" st3 f3 fd3 ["web","places"])(G3:FnOk P w K mg base CX0 2 f3 fd3 ["web","places"] sp_pieces)(D4:Df K mg "all_but" st4 f4 fd4 ["places","some"])(G4:FnOk P w K mg base CX0 1 f4 fd4 ["places","some"] (sp_allbut K))(C:Bt2 mg):FnOk P w K mg base CX0 3 f fd ["web","busy","place"] (sp_needof K):=by
 refine F.ok sc_needof (fun vs H Q E h=>?_) (fun cdv A outer s H vs Q E hr h=>?_)
 ·walk_at "h"
 ·obtain⟨w0,n,ts,pb,bs,p,rfl,hw,hok,hpb,hbs,hbr,hB,hp,hL,q⟩:=h;have nd:=sc_needof.nd;have hu:=hu_of hr
  refine⟨_,(pss_cons (ps_for PassesOwn.never rfl (pi_enum (K:=K) (by rfl) C.enumerate boot_enumerate (pa_cons (pe_own G1 D1 hr.m (pa_cons (pv 0) pa_nil)) pa_nil)) (pg_tupK K (n:=2) rfl (pgs_cons (pg_name (i:=3) nd rfl (.inl rfl)) (pgs_cons (pg_name (i:=4) nd rfl (.inl rfl)) pgs_nil)))
     (pss_one (ps_if (pt_val (pe_own G2 D2 hr.m (pa_cons (pv 4) (pa_cons (pv 1) (pa_cons (pv 2) pa_nil)))))
      (pss_one (ps_ret (pe_tup (pa_cons pe_str (pa_cons (pv 3) pa_nil)))))
      pss_nil)))
    (pss_one (ps_ret (pe_tup (pa_cons pe_str (pa_cons (pe_ix (ix_tupK K) (pe_own G3 D3 hr.m (pa_cons (pv 0) (pa_cons (pe_own G4 D4 hr.m (pa_cons (pv 1) (pa_cons (pe_tup (pa_cons (pv 2) pa_nil)) pa_nil))) pa_nil))) pe_int (fun _ _=>rfl)) pa_nil)))))),?_⟩
  walk_at "rd";have h3:=hok.n3;have h60:=hok.n60;have hl:=hok.len;have hbl:=nd_len (rising_nd hbs) hbr;rw[tFor_eq];walk_at "rd";refine⟨w0,n,ts,rfl,hw,by omega,by omega,by omega,hok.rng,fun rp as H2 s2 nrp nas hR=>?_⟩;refine⟨rp,rfl,⟨_,SqL.of hR.top⟩,for_enL (K:=K) (xs:=as.map V.ref) (inv_nof H2 w0 pb p ts bs) ⟨none,none,rfl,Same.refl H2,fun j hj=>absurd hj (Nat.not_lt_zero _)⟩ ?_ ?_ ?_⟩
  ·rintro i σ Hc _ ⟨_,_,rfl,sc,_⟩;exact SqL.of (sc _ _ hR.top)
  ·rintro i v σ Hc q0 hv ⟨a,b,rfl,sc,hno⟩ nq;have hil:i<n.toNat:=by
    have:=(List.getElem?_eq_some_iff.mp hv).1;rw[List.length_map,hR.len,lotsOf_len] at this;exact this
   have hri:=lotsOf_get (n:=n) (ts:=ts) (v:=(i:Int)) (by omega) (by omega);rw[Int.toNat_natCast] at hri;rw[List.getElem?_map] at hv;cases ha:as[i]? with
   | none=>rw[ha] at hv;cases hv
   | some a =>
   rw[ha] at hv;cases Option.some.inj hv;have hra:=sc _ _ (hR.row i a _ ha hri);refine fresh_of nq fun Hd sd ed=>?_
   walk_at "rd";have s1d:=(s2.trans sc).trans sd;refine⟨_,SqT.of ed,rfl,_,_,rfl,_,_,rfl,rfl,a,_,pb,bs,p,rfl,SqL.of (sd _ _ hra),s1d.seqT hpb,by omega,fun He se=>⟨_,rfl,?_⟩⟩;by_cases hal:alOf ts bs i=[p]
   ·have e:decide ((bs.filter fun y=>decide (y∈(i:Int)::nb ts i))=[p])=true:=decide_eq_true hal;rw[e,if_pos rfl];refine⟨by decide,fun t nt=>q t _ ((s1d.trans se).upd ((s1d.trans se).free nt)) (.own upd_same (by omega) (by omega) hal) ?_⟩;rw[needN_own hil hal hno];exact⟨t,rfl,upd_same⟩
   ·have e:decide ((bs.filter fun y=>decide (y∈(i:Int)::nb ts i))=[p])=false:=decide_eq_false hal;rw[e,if_neg (by decide)];refine⟨_,_,rfl,(sc.trans sd).trans se,fun j hj=>?_⟩;rcases Nat.lt_or_ge j i with h | h
    ·exact hno j h
    ·cases (show j=i by omega);exact hal
  ·rintro σ Hc ⟨a,b,rfl,sc,hno⟩;rw[List.length_map,hR.len,lotsOf_len] at hno;have hnb:∀ x,0≤x→x<n→alOf ts bs x≠[p]:=fun x x0 x1=>by
    have:=hno x.toNat (by omega)
    rwa [Int.toNat_of_nonneg x0] at this
   obtain⟨l0,r,el,hP⟩:=need_part hok.rng hbr (rising_nd hbs) hB hp hL hnb;have s2c:=s2.trans sc;have hLr:∀ x∈lessOf bs p,0≤x∧x<n:=fun x hx=>hbr x (mem_less.mp hx).1
   have hLl:(lessOf bs p).length≤bs.length:=List.length_filter_le _ _;walk_at "rd";refine⟨by decide,fun p1 n1=>fresh_of n1 fun H3 s3 e3=>⟨pb,bs,p1,[p],rfl,(s2c.trans s3).seqT hpb,by omega,SqT.of e3,fun pL H4 s4 n4 e4=>?_⟩⟩;have s24:=(s2c.trans s3).trans s4;refine⟨w0,n,ts,pL,lessOf bs p,rfl,hw.tp s24.tp,hok.rng,by omega,by omega,by omega,e4,by omega,hLr,fun pp H5 s5 n5 hls=>?_⟩;rw[el] at hls;obtain⟨ps,e5,r5,f5⟩:=hls
   match ps,f5 with
   | (a0,x0)::ps,f5 =>
   injection f5 with f6 f7
   have ea:=r5 (a0,x0) (by simp);have f6:x0=l0:=f6;subst f6;refine⟨pp,rfl,_,SqT.of e5,_,(show atI _ ((0:Nat):Int)=some (V.ref a0) from atI_nat rfl),by decide,fun t nt=>q t _ ((s24.trans s5).upd ((s24.trans s5).free nt)) (.parts upd_same (at_new ea nt) hP) ?_⟩;rw[needN_parts hnb,el];exact⟨t,a0,rfl,upd_same,at_new ea nt⟩
theorem pld_ints {H:Hp}{a:Addr}{l:List Int}(e:H a=some (.tup (l.map V.int))):PlD H 1 (.ref a):=⟨⟨_,.tup e⟩,fun b xs eb e2 z hz=>by
 cases eb;rw[e] at e2;cases e2;obtain⟨i,_,rfl⟩:=List.mem_map.mp hz
 exact⟨_,.int i⟩⟩
theorem pl_iff {H:Hp}{n:Int}{a:Addr}{l:List Int}{P:List Int→Prop}(e:H a=some (.tup (l.map V.int)))(hr:∀ x∈l,0≤x∧x<n)(hu:l.Pairwise (·<·)):(∃ bs,IsPl H n (.ref a) bs∧P bs)↔P l:=by
 refine⟨fun ⟨bs,⟨p,ep,e2,_⟩,h⟩=>?_,fun h=>⟨l,⟨a,rfl,e,hr,hu⟩,h⟩⟩;cases ep;rw[e] at e2;injection e2 with e2
 injection e2 with e2
 rw[ints_inj e2];exact h
def sp_leanof (K:PySem.W.Frag):Sp:=fun vs H Q _=>∃ (w:Addr) (n:Int) (ts:List (Int×Int)) (pb:Addr) (bs:List Int) (po:Addr) (ks:List Int),vs=[.ref w,.ref pb,.ref po]∧WebAt H w n ts∧IsWeb n ts∧H pb=some (.tup (bs.map V.int))∧bs.Pairwise (·<·)∧(∀ x∈bs,0≤x∧x<n)∧Busy n ts bs∧SqT K H po (ks.map V.int)∧(∀ x∈bs,x∈ks) ∧
 ∀ (t:Addr) (H':Hp),Same H H'→LnAt H' t n ts (leanOf n ts bs ks)→Q (.ref t) H'
def inv_lno (Hb:Hp)(w0 pb po:Addr)(n:Int)(ts:List (Int×Int))(bs ks:List Int)(i:Nat)(σ:St)(Hc:Hp):Prop:=∃ (pl:Addr) (c d:Option V),σ=[some (.ref w0),some (.ref pb),some (.ref po),some (.ref pl),c,d]∧Same Hb Hc∧Hc pl=some (.tup ((leanOf n ts bs (ks.take i)).map V.int))
def inv_lnc (Hb:Hp)(w0 pl l:Addr)(n:Int)(ts:List (Int×Int))(R:List Int)(i:Nat)(τ:St)(Hc:Hp):Prop:=∃ (c:Option V) (vs:List V),τ=[c,some (.ref pl),some (.ref w0)]∧Same Hb Hc∧Hc l=some (.lst vs)∧vs.length=i∧∀ (j:Nat) v p,vs[j]?=some v→R[j]?=some p→NeedAt Hc n ts R p v∧NdAt Hc v (needN n ts R p)
theorem sc_leanofX:FnScope ["web","busy","order","left","place","fewer"] ["web","busy","order"] (defScope (top 31)):=by walk_at "s"
theorem ok_leanofX (F:Fun K "lean_of" "lean_of" (top 31) f fd)(B:Bt mg)(D1:Df K mg "all_but" st1 f1 fd1 ["places","some"])(G1:FnOk P w K mg base CX0 1 f1 fd1 ["places","some"] (sp_allbut K))(D2:Df K mg "right_set" st2 f2 fd2 ["web","thing"])(G2:FnOk P w K mg base CX0 6 f2 fd2 ["web","thing"] sp_rsetX)(D3:Df K mg "need_of" st3 f3 fd3 ["web","busy","place"])(G3:FnOk P w K mg base CX0 3 f3 fd3 ["web","busy","place"] (sp_needof K)):FnOk P w K mg base CX0 7 f fd ["web","busy","order"] (sp_leanof K):=by
 refine F.ok sc_leanofX (fun vs H Q E h=>?_) (fun cdv A outer s H vs Q E hr h=>?_)
 ·walk_at "h"
 ·obtain⟨w0,n,ts,pb,bs,po,ks,rfl,hw,hok,hpb,hbs,hbr,hB,hpo,hks,q⟩:=h;have nd:=sc_leanofX.nd;have hu:=hu_of hr
  refine⟨_,(pss_cons (ps_set (i:=3) nd rfl (.inr rfl) (pv 1))
    (pss_cons (ps_for PassesOwn.never rfl (pi_tupK K (pv 2)) (pg_name (i:=4) nd rfl (.inl rfl))
     (pss_cons (ps_set (i:=5) nd rfl (.inl rfl) (pe_own G1 D1 hr.m (pa_cons (pv 3) (pa_cons (pe_tup (pa_cons (pv 4) pa_nil)) pa_nil))))
     (pss_one (ps_if (pt_val (pe_own G2 D2 hr.m (pa_cons (pv 0) (pa_cons (pv 5) pa_nil))))
      (pss_one (ps_set (i:=3) nd rfl (.inr rfl) (pv 5)))
      pss_nil))))
    (pss_one (ps_ret (pe_tup (pa_cons (pv 3) (pa_cons (pe_callTy (tupleK K) (by rfl) B.tuple boot_tuple (pa_cons (pe_lcomp (own:=["place"]) (fr:=[("left",3),("web",0)]) rfl (by walk_at "w") (frOk_cons rfl rfl (frOk_cons rfl rfl frOk_nil)) (pi_tupK K (pv 3)) ⟨fun _ _ _ _=>⟨(pg_name (i:=0) (show List.Nodup (["place","left","web"]:List Str) by decide +kernel) rfl (.inl rfl)),pts_nil,(pe_own G3 D3 hr.m (pa_cons (pv 2) (pa_cons (pv 1) (pa_cons (pv 0) pa_nil))))⟩⟩) pa_nil)) pa_nil))))))),?_⟩
  walk_at "rd";have h3:=hok.n3;have h60:=hok.n60;have hbl:=nd_len (rising_nd hbs) hbr;rw[tFor_eq];walk_at "rd";refine⟨⟨_,hpo⟩,for_tup (K:=K) (xs:=ks.map V.int) (inv_lno H w0 pb po n ts bs ks) ⟨pb,none,none,rfl,Same.refl H,by rw[List.take_zero];exact hpb⟩ ?_ ?_ ?_⟩
  ·rintro i σ Hc _ ⟨_,_,_,rfl,sc,_⟩;exact sc.seqT hpo
  ·rintro i v σ Hc hv ⟨pl,c,d,rfl,sc,hpl⟩;rw[List.getElem?_map] at hv;cases hx0:ks[i]? with
   | none=>rw[hx0] at hv;cases hv
   | some x =>
   rw[hx0] at hv;cases Option.some.inj hv;obtain⟨i1,i2,i3⟩:=lean_inv hok.rng (ks.take i) bs hB hbr;have hil:(leanOf n ts bs (ks.take i)).length≤bs.length:=i2.length_le;walk_at "rd";refine⟨by decide,fun p1 n1=>fresh_of n1 fun H1 s1 e1=>⟨pl,_,p1,[x],rfl,SqT.of (s1 _ _ hpl),by omega,SqT.of e1,fun pf H2 s2 n2 e2=>?_⟩⟩;have s02:=(sc.trans s1).trans s2;have hLr:∀ y∈lessOf (leanOf n ts bs (ks.take i)) x,0≤y∧y<n:=fun y hy=>hbr y (i2.subset (mem_less.mp hy).1)
   have hLu:(lessOf (leanOf n ts bs (ks.take i)) x).Pairwise (·<·):=(hbs.sublist i2).filter _;have hLl:=nd_len (rising_nd hLu) hLr;refine⟨w0,n,ts,.ref pf,rfl,hw.tp s02.tp,hok,pld_ints e2,fun a xs ea e=>?_,fun b H3 s3 hb=>⟨b,rfl,?_⟩⟩
   ·cases ea;rw[e2] at e;cases e;rw[List.length_map];show (lessOf (leanOf n ts bs (ks.take i)) x).length≤1000;omega
   rw[pl_iff e2 hLr hLu] at hb;have s03:=s02.trans s3;have esn:leanOf n ts bs (ks.take (i+1))=leanStep n ts (leanOf n ts bs (ks.take i)) x:=by rw[take_snoc hx0,lean_snoc]
   cases b with
   | true =>
    rw[if_pos rfl];refine⟨pf,_,_,rfl,s03,?_⟩;rw[esn,lean_pos (hb.mp rfl)];exact s3 _ _ e2
   | false =>
    rw[if_neg (by decide)];refine⟨pl,_,_,rfl,s03,?_⟩;rw[esn,lean_neg fun h=>(by cases hb.mpr h)];exact ((s1.trans s2).trans s3) _ _ hpl
  ·rintro σ Hc ⟨pl,c,d,rfl,sc,hpl⟩;rw[List.length_map,List.take_length] at hpl;obtain⟨i1,i2,i3⟩:=lean_inv hok.rng ks bs hB hbr;have hRr:∀ x∈leanOf n ts bs ks,0≤x∧x<n:=fun x hx=>hbr x (i2.subset hx)
   have hRs:=hbs.sublist i2;have hRn:∀ p∈leanOf n ts bs ks,¬ Busy n ts (lessOf (leanOf n ts bs ks) p):=fun p hp=>i3 p (hks p (i2.subset hp)) hp
   have hRl:=i2.length_le;generalize leanOf n ts bs ks=R at hpl i1 i2 hRr hRs hRn hRl q;walk_at "rd";refine⟨⟨_,SqT.of hpl⟩,fun l nl=>lc_tup (K:=K) (xs:=R.map V.int) (inv_lnc Hc w0 pl l n ts R) ⟨none,[],rfl,(Same.refl Hc).upd nl,upd_same,rfl,fun j v p h=>(by cases h)⟩ ?_ ?_ ?_⟩
   ·rintro i τ Hd _ ⟨_,_,rfl,sd,_⟩;exact SqT.of (sd _ _ hpl)
   ·rintro i v τ Hd hv ⟨c2,vs,rfl,sd,hld,hvl,hvs⟩;rw[List.getElem?_map] at hv;cases hx0:R[i]? with
    | none=>rw[hx0] at hv;cases hv
    | some x =>
    rw[hx0] at hv;cases Option.some.inj hv;have hxm:=List.mem_of_getElem? hx0;have hil:=(List.getElem?_eq_some_iff.mp hx0).1;walk_at "rd";refine⟨w0,n,ts,pl,R,x,rfl,hw.tp (sc.trans sd).tp,hok,SqT.of (sd _ _ hpl),hRs,hRr,i1,hxm,hRn x hxm,fun t He se hN hD=>⟨vs,se _ _ hld,sizeBig (by omega),_,vs++[.ref t],rfl,(sd.trans se).upd nl,upd_same,by rw[List.length_append,List.length_singleton,hvl],fun j v p h1 h2=>?_⟩⟩;have k:Tp Hd (upd He l (.lst (vs++[.ref t]))):=se.tp.trans (Tp.lst (se _ _ hld));rcases Nat.lt_or_ge j vs.length with hj | hj
    ·rw[List.getElem?_append_left hj] at h1;exact⟨(hvs j v p h1 h2).1.tp k,(hvs j v p h1 h2).2.tp k⟩
    ·have hj0:j=i:=by
      have:=(List.getElem?_eq_some_iff.mp h1).1;rw[List.length_append,List.length_singleton] at this;omega
     subst hj0;rw[List.getElem?_append_right hj,hvl,Nat.sub_self] at h1;cases h1;rw[hx0] at h2;cases h2;exact⟨hN.tp (Tp.lst (se _ _ hld)),hD.tp (Tp.lst (se _ _ hld))⟩
   ·rintro τ Hd ⟨c2,vs,rfl,sd,hld,hvl,hvs⟩;rw[List.length_map] at hvl;refine⟨_,.inl ⟨SqL.of hld,fun b nb=>fresh_of nb fun He se ee=>⟨by decide,fun t nt=>fresh_of nt fun Hf sf ef=>?_⟩⟩⟩;have sef:=se.trans sf;exact q t Hf ((sc.trans sd).trans sef) ⟨pl,b,ef,(sd.trans sef) _ _ hpl,vs,sf _ _ ee,hvl,fun j v p h1 h2=>⟨(hvs j v p h1 h2).1.tp sef.tp,(hvs j v p h1 h2).2.tp sef.tp⟩⟩
def sp_trows:Sp:=fun vs H Q _=>∃ (p:Addr) (n:Int) (ts:List (Int×Int)),vs=[.ref p]∧TsAt H p ts∧(ts.length:Int)+1=n∧n≤1000∧TsOk n ts ∧
 ∀ (rp:Addr) (as:List Addr) (H':Hp),Same H H'→H rp=none→(∀ a∈as,H a=none)→RowsAt H' rp as (rowsOf n ts)→Q (.ref rp) H'
theorem sc_trows:FnScope ["tree"] ["tree"] (defScope (top 16)):=by walk_at "s"
theorem ok_trows (F:Fun K "tree_rows" "tree_rows" (top 16) f fd)(B:Bt mg)(D1:Df K mg "neighbour_rows" st1 f1 fd1 ["web"])(G1:FnOk P w K mg base CX0 1 f1 fd1 ["web"] sp_nrows):FnOk P w K mg base CX0 2 f fd ["tree"] sp_trows:=by
 refine F.ok sc_trows (fun vs H Q E h=>?_) (fun cdv A outer s H vs Q E hr h=>?_)
 ·walk_at "h"
 ·obtain⟨p,n,ts,rfl,hp,hl,hn1,hok,q⟩:=h;have nd:=sc_trows.nd;have hu:=hu_of hr;refine⟨_,(pss_one (ps_ret (pe_own G1 D1 hr.m (pa_cons (pe_tup (pa_cons (pe_op op_add (pe_callB (lenK K) (by rfl) B.len PySem.boot_len (pa_cons (pv 0) pa_nil)) pe_int) (pa_cons (pv 0) pa_nil))) pa_nil)))),?_⟩;walk_at "rd";obtain⟨xs,hx0,hxl,hxs⟩:=hp.get;refine⟨_,.inr (SqT.of hx0),by decide,fun w0 nw=>fresh_of nw fun H1 s1 e1=>?_⟩;refine⟨w0,n,ts,rfl,⟨p,by rw[e1,hxl,hl],hp.tp s1.tp⟩,by omega,hn1,by omega,hok,fun rp as H2 s2 nrp nas hR=>?_⟩;exact q rp as H2 (s1.trans s2) (s1.free nrp) (fun a ha=>s1.free (nas a ha)) hR
def sp_leaves:Sp:=fun vs H Q _=>∃ (p:Addr) (n:Int) (ts:List (Int×Int)),vs=[.ref p]∧TsAt H p ts∧(ts.length:Int)+1=n∧n≤1000∧TsOk n ts ∧
 ∀ (l:Addr) (H':Hp),Same H H'→H l=none→H' l=some (.tup ((leavesOf n ts).map V.int))→Q (.ref l) H'
def inv_leaves (Hb:Hp)(l:Addr)(ts:List (Int×Int))(i:Nat)(τ:St)(Hc:Hp):Prop:=∃ c d:Option V,τ=[c,d]∧Same Hb Hc∧Hc l=some (.lst (((rInts 0 i).filter fun v=>decide ((nb ts v).length=1)).map V.int))
theorem sc_leaves:FnScope ["tree"] ["tree"] (defScope (top 17)):=by walk_at "s"
theorem ok_leaves (F:Fun K "leaves_of" "leaves_of" (top 17) f fd)(B:Bt mg)(D1:Df K mg "tree_rows" st1 f1 fd1 ["tree"])(G1:FnOk P w K mg base CX0 2 f1 fd1 ["tree"] sp_trows)(C:Bt2 mg):FnOk P w K mg base CX0 3 f fd ["tree"] sp_leaves:=by
 refine F.ok sc_leaves (fun vs H Q E h=>?_) (fun cdv A outer s H vs Q E hr h=>?_)
 ·walk_at "h"
 ·obtain⟨p,n,ts,rfl,hp,hl,hn1,hok,q⟩:=h;have nd:=sc_leaves.nd;have hu:=hu_of hr;refine⟨_,(pss_one (ps_ret (pe_callTy (tupleK K) (by rfl) B.tuple boot_tuple (pa_cons (pe_lcomp (own:=["place","row"]) (fr:=[]) rfl (by walk_at "w") frOk_nil (pi_enum (K:=K) (by rfl) C.enumerate boot_enumerate (pa_cons (pe_own G1 D1 hr.m (pa_cons (pv 0) pa_nil)) pa_nil)) ⟨fun _ _ _ _=>⟨(pg_tupK K (n:=2) rfl (pgs_cons (pg_name (i:=0) (show List.Nodup (["place","row"]:List Str) by decide +kernel) rfl (.inl rfl)) (pgs_cons (pg_name (i:=1) (show List.Nodup (["place","row"]:List Str) by decide +kernel) rfl (.inl rfl)) pgs_nil))),(pts_one (pt_cmpR op_eq (pe_callB (lenK K) (by rfl) B.len PySem.boot_len (pa_cons (pv 1) pa_nil)) pe_int (nomark _))),(pv 0)⟩⟩) pa_nil)))),?_⟩;walk_at "rd";refine⟨p,n,ts,rfl,hp,hl,hn1,hok,fun rp as H1 s1 nrp nas hR=>?_⟩;refine⟨rp,rfl,⟨_,SqL.of hR.top⟩,fun l nl=>lc_enum (K:=K) (xs:=as.map V.ref) (inv_leaves H1 l ts) ⟨none,none,rfl,(Same.refl H1).upd nl,upd_same⟩ ?_ ?_ ?_⟩
  ·rintro i τ Hc _ ⟨_,_,rfl,sc,_⟩;exact SqL.of (sc _ _ hR.top)
  ·rintro i v τ Hc q0 hv ⟨c,d,rfl,sc,hc⟩ nq;have hil:i<n.toNat:=by
    have:=(List.getElem?_eq_some_iff.mp hv).1;rw[List.length_map,hR.len,rowsOf_len] at this;exact this
   have hri:=rowsOf_get (n:=n) (ts:=ts) (v:=(i:Int)) (by omega) (by omega);rw[Int.toNat_natCast] at hri;rw[List.getElem?_map] at hv;cases ha:as[i]? with
   | none=>rw[ha] at hv;cases hv
   | some a =>
   rw[ha] at hv;cases Option.some.inj hv;refine fresh_of nq fun Hd sd ed=>?_
   have hra:=sd _ _ (sc _ _ (hR.row i a _ ha hri));have hcl:=sd _ _ hc;walk_at "rd";refine⟨_,SqT.of ed,rfl,_,_,rfl,_,_,rfl,rfl,?_⟩;refine⟨a,rfl,_,.inl (SqL.of hra),?_⟩;rw[List.length_map];have hfl:((rInts 0 i).filter fun v=>decide ((nb ts v).length=1)).length≤i:=Nat.le_trans (List.length_filter_le _ _) (by rw[rInts_length];exact Nat.le_refl _);refine ite2 (fun h=>⟨_,hcl,by rw[List.length_map];exact sizeBig (by omega),_,_,rfl,(sc.trans sd).upd nl,?_⟩) fun h=>⟨_,_,rfl,sc.trans sd,?_⟩
   ·rw[upd_same,rInts_succ,List.filter_append,fil_pos _ (by simp at h ⊢;omega),List.map_append,Int.zero_add];rfl
   ·rw[rInts_succ,List.filter_append,fil_neg _ (by simp at h ⊢;omega),List.append_nil];exact hcl
  ·rintro τ H2 ⟨c,d,rfl,sc,hc⟩;rw[List.length_map,hR.len,rowsOf_len] at hc;exact⟨_,.inl ⟨SqL.of hc,fun l2 n2=>fresh_of n2 fun H3 s3 e3=>q l2 H3 ((s1.trans sc).trans s3) ((s1.trans sc).free n2) e3⟩⟩
def sp_islean (K:PySem.W.Frag):Sp:=fun vs H Q _=>∃ (so:Addr) (ps:List (Addr×List Int)) (pb:Addr) (bs:List Int) (n:Int) (ts:List (Int×Int)),vs=[.ref so,.ref pb]∧AllS H n ts so ps∧H pb=some (.tup (bs.map V.int))∧bs.Pairwise (·<·)∧(∀ x∈bs,0≤x∧x<n)∧bs.length≤60∧∀ (b:Bool) (H':Hp),Same H H'→(b=true↔∀ p∈bs,¬ Busy n ts (lessOf bs p))→Q (.bl b) H'
def inv_il (Hb:Hp)(pb l:Addr)(bs:List Int)(i:Nat)(τ:St)(Hc:Hp):Prop:=∃ (c:Option V) (qs:List (Addr×List Int)),τ=[c,some (.ref pb)]∧Same Hb Hc∧LlAt Hc l qs∧qs.map (·.2)=(bs.take i).map (lessOf bs)
theorem sc_islean:FnScope ["_law_sets","_law_busy","_law_lesser"] ["_law_sets","_law_busy"] (defScope (top 48)):=by walk_at "s"
theorem ok_islean (F:Fun K "_law_is_lean" "_law_is_lean" (top 48) f fd)(B:Bt mg):FnOk P w K mg base CX0 1 f fd ["_law_sets","_law_busy"] (sp_islean K):=by
 refine F.ok sc_islean (fun vs H Q E h=>?_) (fun cdv A outer s H vs Q E hr h=>?_)
 ·walk_at "h"
 ·obtain⟨so,ps,pb,bs,n,ts,rfl,hA,hpb,hbs,hbr,hbl,q⟩:=h;have nd:=sc_islean.nd;have hu:=hu_of hr
  refine⟨_,(pss_cons (ps_setLCC (i:=2) (own:=["_law_place"]) (fr:=[("_law_busy",1)]) rfl nd rfl rfl (by walk_at "w") (by walk_at "w") (frOk_cons rfl rfl frOk_nil) (pi_tupK K (pv 1)) ⟨fun _ _ _ _=>⟨(pg_name (i:=0) (show List.Nodup (["_law_place","_law_busy"]:List Str) by decide +kernel) rfl (.inr rfl)),pts_nil,(pe_callTy (tupleK K) (by rfl) B.tuple boot_tuple (pa_cons (pe_lcomp (own:=["_law_k"]) (fr:=[("_law_place",0)]) rfl (by walk_at "w") (frOk_cons rfl rfl frOk_nil) (pi_tupK K (pv 1)) ⟨fun _ _ _ _=>⟨(pg_name (i:=0) (show List.Nodup (["_law_k","_law_place"]:List Str) by decide +kernel) rfl (.inl rfl)),(pts_one (pt_cmpR op_ne (pv 0) (pv 1) (nomark _))),(pv 0)⟩⟩) pa_nil))⟩⟩)
    (pss_one (ps_ret (pe_cmpR (eqDK K hr.units) (pe_lcomp (own:=["_law_one"]) (fr:=[("_law_sets",0)]) rfl (by walk_at "w") (frOk_cons rfl rfl frOk_nil) (pi_listK K (pv 2)) ⟨fun _ _ _ _=>⟨(pg_name (i:=0) (show List.Nodup (["_law_one","_law_sets"]:List Str) by decide +kernel) rfl (.inl rfl)),(pts_one (pt_cmpR (inLK K hr.units) (pv 0) (pv 1) (by walk_at "w"))),(pv 0)⟩⟩) (pe_lst pa_nil) (nomark _))))),?_⟩
  walk_at "rd";refine⟨⟨_,SqT.of hpb⟩,fun l1 m1=>lc_tup (K:=K) (xs:=bs.map V.int) (inv_il H pb l1 bs) ⟨none,[],rfl,(Same.refl H).upd m1,⟨upd_same,fun x hx=>(by cases hx)⟩,rfl⟩ ?_ ?_ ?_⟩
  ·rintro i τ Hc _ ⟨_,_,rfl,sc,_⟩;exact SqT.of (sc _ _ hpb)
  ·rintro i v τ Hc hv ⟨c,qs,rfl,sc,L,hq⟩;rw[List.getElem?_map] at hv;obtain⟨x,hx,rfl⟩:=Option.map_eq_some_iff.mp hv;have hil:=(List.getElem?_eq_some_iff.mp hx).1;have hql:qs.length≤60:=by
    have:=congrArg List.length hq;rw[List.length_map,List.length_map,List.length_take] at this;omega
   walk_at "rd";refine⟨⟨_,SqT.of (sc _ _ hpb)⟩,fun l2 m2=>lc_tupF V.int (fun y=>!decide (y=x)) V.int (by omega) (SqT.of (sc _ _ hpb)) m2 ?_ ?_⟩
   ·intro y hy v ys R hys hR1 hR2;walk_at "rd";exact turn_ite rfl hys (by omega) hR1 hR2
   ·have el:(bs.filter fun y=>!decide (y=x))=lessOf bs x:=by unfold lessOf;exact List.filter_congr fun y _=>by simp
    rw[el];refine fresh_of m2 fun H2 s2 e2=>⟨_,.inl ⟨SqL.of e2,fun l3 m3=>fresh_of m3 fun H3 s3 e3=>?_⟩⟩
    have s23:=s2.trans s3;have L3:LlAt H3 l1 qs:=L.tp s23.tp (s23 _ _ L.top);refine⟨_,L3.top,by rw[List.length_map];exact sizeBig (by omega),_,qs++[(l3,lessOf bs x)],rfl,(sc.trans s23).upd m1,L3.snoc e3,?_⟩;rw[take_snoc hx,List.map_append,List.map_append,hq];rfl
  ·rintro τ H1 ⟨c,qs,rfl,s1,L,hq⟩;rw[List.length_map,List.take_length] at hq;have hql:qs.length≤60:=by
    have:=congrArg List.length hq;rw[List.length_map,List.length_map] at this;omega
   have A1:LlAt H1 so ps:=hA.ll.tp s1.tp (s1 _ _ hA.ll.top);refine⟨⟨_,SqL.of L.top⟩,fun l2 m2=>lc_listF (fun x:Addr×List Int=>V.ref x.1) (fun x=>decide (x.2∈ps.map (·.2))) (fun x=>V.ref x.1) (by omega) (SqL.of L.top) m2 ?_ ?_⟩
   ·intro x hx v ys R hys hR1 hR2;have sm:Same H1 (upd H1 l2 (.lst ys)):=(Same.refl H1).upd m2;walk_at "rd";exact in_ll (sm _ _ (L.row x hx)) (A1.tp sm.tp (sm _ _ A1.top)) ⟨_,rfl,turn_ite rfl hys (by omega) hR1 hR2⟩
   ·refine fresh_of m2 fun H2 s2 e2=>⟨by decide,fun l3 m3=>fresh_of m3 fun H3 s3 e3=>?_⟩
    refine eqL0 (s3 _ _ e2) (fun v hv=>?_) e3 fun b hb=>q b H3 (s1.trans (s2.trans s3)) (hb.trans ?_)
    ·obtain⟨x,hx,rfl⟩:=List.mem_map.mp hv;exact dok_tup ((s2.trans s3) _ _ (L.row x (List.mem_filter.mp hx).1))
    ·rw[List.map_eq_nil_iff,List.filter_eq_nil_iff];constructor
     ·intro h p hp hBl;obtain⟨y,hy,ey⟩:=hA.all _ (show (lessOf bs p).Pairwise (·<·) from hbs.filter _) (fun z hz=>hbr z (mem_less.mp hz).1) hBl;have hm:lessOf bs p∈qs.map (·.2):=by rw[hq];exact List.mem_map.mpr ⟨p,hp,rfl⟩
      obtain⟨x,hx,ex⟩:=List.mem_map.mp hm;exact h x hx (decide_eq_true (by rw[ex,← ey];exact List.mem_map.mpr ⟨y,hy,rfl⟩))
     ·intro h x hx hd;have hd:=of_decide_eq_true hd;have hm:x.2∈qs.map (·.2):=List.mem_map.mpr ⟨x,hx,rfl⟩;rw[hq] at hm;obtain⟨p,hp,ep⟩:=List.mem_map.mp hm;obtain⟨y,hy,ey⟩:=List.mem_map.mp hd;exact h p hp (by rw[ep,← ey];exact (hA.ok y hy).1)
def NdX (H:Hp)(t:Addr):Prop:=(∃ x:Int,H t=some (.tup [.str "own",.int x]))∨∃ (a:Addr) (l:List Int),H t=some (.tup [.str "parts",.ref a])∧H a=some (.tup (l.map V.int))∧l.length≤60
theorem NdX.tp {H H':Hp}{t:Addr}(h:NdX H t)(k:Tp H H'):NdX H' t:=by
 rcases h with ⟨x,e⟩ | ⟨a,l,e,e2,h⟩
 ·exact .inl ⟨x,k _ _ e⟩
 ·exact .inr ⟨a,l,k _ _ e,k _ _ e2,h⟩
theorem need_ndx {H:Hp}{n:Int}{ts:List (Int×Int)}{bs:List Int}{p:Int}{t:Addr}(h:NeedAt H n ts bs p (.ref t))(hbl:bs.length≤60):NdX H t:=by
 cases h with
 | own e _ _ _=>exact .inl ⟨_,e⟩
 | parts e e2 hP =>
  have:=nd_sub (rising_nd hP.up) fun x hx=>(hP.sub x hx).1
  exact .inr ⟨_,_,e,e2,by omega⟩
theorem part_hng {ts:List (Int×Int)}{bs:List Int}{p:Int}{l:List Int}(h:PartOk ts bs p l):¬ Hng ts (lessOf bs p):=fun hB=>by
 obtain⟨x,hx⟩:=List.exists_mem_of_ne_nil _ h.ne;obtain⟨y,y1,y2,y3⟩:=h.rest;have r:=hB.2 x (mem_less.mpr (h.sub x hx)) y (mem_less.mpr ⟨y1,y2⟩);have:∀ z,Rch ts (·∈lessOf bs p) x z→z∈l:=fun z r=>by
  induction r with
  | base=>exact hx
  | step _ hn hm ih=>exact h.cut _ ih _ hn (mem_less.mp hm).1 (mem_less.mp hm).2
 exact y3 (this y r)
theorem one_of {p:Int}:∀ {l:List Int},l.Nodup→(∀ y,y∈l↔y=p)→l=[p]
 | [],_,h=>by have:=(h p).mpr rfl;cases this
 | [a],_,h=>by rw[(h a).mp (by simp)]
 | a::b::r,hn,h=>by
  have ha:=(h a).mp (by simp);have hb:=(h b).mp (by simp);rw[ha,hb] at hn;exact absurd (List.mem_cons_self ..) (List.nodup_cons.mp hn).1
theorem al_lot {n:Int}{ts:List (Int×Int)}{bs ls:List Int}{p x:Int}(hok:IsWeb n ts)(hnd:bs.Nodup)(hpm:ls.Perm (nb ts x++[x])):(ls.filter fun y=>decide (y∈bs))=[p]↔alOf ts bs x=[p]:=by
 have hnl:ls.Nodup:=by
  refine hpm.nodup_iff.mpr ?_;rw[List.nodup_append]
  exact⟨rising_nd (nb_lt hok.rng hok.srt x),by simp,fun a ha b hb e=>by
   rw[List.mem_singleton.mp hb] at e
   exact (nb_rng hok.rng ha).2.2.2.2 e⟩
 have e:∀ y,y∈(ls.filter fun y=>decide (y∈bs))↔y∈alOf ts bs x:=fun y=>by
  unfold alOf;rw[List.mem_filter,List.mem_filter,hpm.mem_iff];simp[or_comm,and_comm]
 constructor
 ·intro h;exact one_of (hnd.sublist List.filter_sublist) fun y=>by rw[← e,h];simp
 ·intro h;exact one_of (hnl.sublist List.filter_sublist) fun y=>by rw[e,h];simp
theorem ndx_dok {K:PySem.W.Frag}{H:Hp}{t:Addr}(h:NdX H t):Dok K H (.ref t):=by
 rcases h with ⟨x,e⟩ | ⟨a,l,e,e2,_⟩
 ·exact⟨_,(show NdAt H (.ref t) (.inl x) from ⟨t,rfl,e⟩).dt,(ndD_ok _).1,Nat.le_trans (ndD_ok _).2.1 (by decide)⟩
 ·exact⟨_,(show NdAt H (.ref t) (.inr l) from ⟨t,a,rfl,e,e2⟩).dt,(ndD_ok _).1,Nat.le_trans (ndD_ok _).2.1 (by decide)⟩
def sp_sneed (K:PySem.W.Frag):Sp:=fun vs H Q _=>∃ (d np:Addr) (as:List Addr) (n:Int) (ts:List (Int×Int)) (pb:Addr) (bs:List Int) (p:Int),vs=[.ref d,.ref np,.ref pb,.int p]∧DkAt H d∧RowsAt H np as (rowsOf n ts)∧d≠np∧d∉as∧IsWeb n ts∧H pb=some (.tup (bs.map V.int))∧bs.Pairwise (·<·)∧(∀ x∈bs,0≤x∧x<n)∧Busy n ts bs∧p∈bs ∧
 ∀ (t:Addr) (H':Hp),Kp d H H'→DkAt H' d→NdX H' t→(¬ Busy n ts (lessOf bs p)→NeedAt H' n ts bs p (.ref t))→Q (.ref t) H'
def ownOf (n:Int)(ts:List (Int×Int))(bs:List Int)(p:Int):List Int:=(rInts 0 n.toNat).filter fun x=>decide (alOf ts bs x=[p])
def inv_sno (Hb:Hp)(lo np pb:Addr)(ts:List (Int×Int))(bs:List Int)(p:Int)(i:Nat)(τ:St)(Hc:Hp):Prop:=∃ c:Option V,τ=[c,some (.ref pb),some (.ref np),some (.int p)]∧Same Hb Hc∧Hc lo=some (.lst (((rInts 0 i).filter fun x=>decide (alOf ts bs x=[p])).map V.int))
def inv_sns (Hb:Hp)(ls:Addr)(n:Int)(ts:List (Int×Int))(bs:List Int)(p:Int)(i:Nat)(τ:St)(Hc:Hp):Prop:=∃ (c:Option V) (ys:List Addr),τ=[c]∧Same Hb Hc∧Hc ls=some (.lst (ys.map V.ref))∧ys.length=i∧∀ y∈ys,NeedAt Hc n ts bs p (.ref y)
theorem sc_sneed:FnScope ["_law_deck_here","_law_near_here","_law_busy","_law_place","_law_turn_here","_law_own","_law_rest","_law_some","_law_side"] ["_law_deck_here","_law_near_here","_law_busy","_law_place"] (defScope (top 45)):=by walk_at "s"
theorem ok_sneed (F:Fun K "_law_some_need" "_law_some_need" (top 45) f fd)(B:Bt mg)(D1:Df K mg "_law_next" st1 f1 fd1 ["_law_deck_here"])(G1:FnOk P w K mg base CX0 1 f1 fd1 ["_law_deck_here"] sp_next)(D2:Df K mg "_law_lot" st2 f2 fd2 ["_law_near_here","_law_p"])(G2:FnOk P w K mg base CX0 1 f2 fd2 ["_law_near_here","_law_p"] (sp_llot K))(D3:Df K mg "_law_reach" st3 f3 fd3 ["_law_near_here","_law_start","_law_allowed"])(G3:FnOk P w K mg base CX0 1 f3 fd3 ["_law_near_here","_law_start","_law_allowed"] (sp_reach K)):FnOk P w K mg base CX0 2 f fd ["_law_deck_here","_law_near_here","_law_busy","_law_place"] (sp_sneed K):=by
 refine F.ok sc_sneed (fun vs H Q E h=>?_) (fun cdv A outer s H vs Q E hr h=>?_)
 ·walk_at "h"
 ·obtain⟨d,np,as,n,ts,pb,bs,p,rfl,dk,hR,dnp,das,hok,hpb,hbs,hbr,hB,hp,q⟩:=h;have nd:=sc_sneed.nd;have hu:=hu_of hr
  refine⟨_,(pss_cons (ps_set (i:=4) nd rfl (.inl rfl) (pe_own G1 D1 hr.m (pa_cons (pv 0) pa_nil)))
    (pss_cons (ps_setLC (i:=5) (own:=["_law_k"]) (fr:=[("_law_busy",2),("_law_near_here",1),("_law_place",3)]) rfl nd rfl rfl (by walk_at "w") (by walk_at "w") (frOk_cons rfl rfl (frOk_cons rfl rfl (frOk_cons rfl rfl frOk_nil))) (pi_range1 (by rfl) B.range (pa_cons (pe_callB (lenK K) (by rfl) B.len PySem.boot_len (pa_cons (pv 1) pa_nil)) pa_nil)) ⟨fun _ _ _ _=>⟨(pg_name (i:=0) (show List.Nodup (["_law_k","_law_busy","_law_near_here","_law_place"]:List Str) by decide +kernel) rfl (.inl rfl)),(pts_one (pt_cmpR (eqDK K hr.units) (pe_lcomp (own:=["_law_other"]) (fr:=[("_law_busy",1)]) rfl (by walk_at "w") (frOk_cons rfl rfl frOk_nil) (pi_listK K (pe_own G2 D2 hr.m (pa_cons (pv 2) (pa_cons (pv 0) pa_nil)))) ⟨fun _ _ _ _=>⟨(pg_name (i:=0) (show List.Nodup (["_law_other","_law_busy"]:List Str) by decide +kernel) rfl (.inl rfl)),(pts_one (pt_cmpR (in_seqK K) (pv 0) (pv 1) (by walk_at "w"))),(pv 0)⟩⟩) (pe_lst (pa_cons (pv 3) pa_nil)) (nomark _))),(pv 0)⟩⟩)
    (pss_cons (ps_setLC (i:=6) (own:=["_law_k"]) (fr:=[("_law_place",3)]) rfl nd rfl rfl (by walk_at "w") (by walk_at "w") (frOk_cons rfl rfl frOk_nil) (pi_tupK K (pv 2)) ⟨fun _ _ _ _=>⟨(pg_name (i:=0) (show List.Nodup (["_law_k","_law_place"]:List Str) by decide +kernel) rfl (.inl rfl)),(pts_one (pt_cmpR op_ne (pv 0) (pv 1) (nomark _))),(pv 0)⟩⟩)
    (pss_cons (ps_setLC (i:=7) (own:=["_law_k"]) (fr:=[]) rfl nd rfl rfl (by walk_at "w") (by walk_at "w") frOk_nil (pi_listK K (pv 5)) ⟨fun _ _ _ _=>⟨(pg_name (i:=0) (show List.Nodup (["_law_k"]:List Str) by decide +kernel) rfl (.inl rfl)),pts_nil,(pe_tup (pa_cons pe_str (pa_cons (pv 0) pa_nil)))⟩⟩)
    (pss_cons (ps_if (pt_cmpR (neDK K hr.units) (pv 6) (pe_lst pa_nil) (nomark _))
     (pss_cons (ps_set (i:=8) nd rfl (.inl rfl) (pe_own G3 D3 hr.m (pa_cons (pv 1) (pa_cons (pe_ix (ix_listK K) (pv 6) (pe_op op_mod (pv 4) (pe_callB (lenK K) (by rfl) B.len PySem.boot_len (pa_cons (pv 6) pa_nil))) (fun _ _=>rfl)) (pa_cons (pv 6) pa_nil)))))
     (pss_one (ps_if (pt_cmpR op_lt (pe_callB (lenK K) (by rfl) B.len PySem.boot_len (pa_cons (pv 8) pa_nil)) (pe_callB (lenK K) (by rfl) B.len PySem.boot_len (pa_cons (pv 6) pa_nil)) (nomark _))
      (pss_one (ps_expr (appendK K (pv 7) (pa_cons (pe_tup (pa_cons pe_str (pa_cons (pe_callTy (tupleK K) (by rfl) B.tuple boot_tuple (pa_cons (pv 8) pa_nil)) pa_nil))) pa_nil))))
      pss_nil)))
     pss_nil)
    (pss_cons (ps_if (pt_cmpR (eqDK K hr.units) (pv 7) (pe_lst pa_nil) (nomark _))
     (pss_one (ps_ret (pe_ix (ix_listK K) (pe_lst (pa_cons (pe_tup (pa_cons pe_str (pa_cons (pv 3) pa_nil))) (pa_cons (pe_tup (pa_cons pe_str (pa_cons (pe_callTy (tupleK K) (by rfl) B.tuple boot_tuple (pa_cons (pe_slice (sl_listK K) (pv 6) po_none (po_some pe_int)) pa_nil)) pa_nil))) pa_nil))) (pe_op op_mod (pv 4) pe_int) (fun _ _=>rfl))))
     pss_nil)
    (pss_one (ps_ret (pe_ix (ix_listK K) (pv 7) (pe_op op_mod (pe_own G1 D1 hr.m (pa_cons (pv 0) pa_nil)) (pe_callB (lenK K) (by rfl) B.len PySem.boot_len (pa_cons (pv 7) pa_nil))) (fun _ _=>rfl)))))))))),?_⟩
  simp only[L2.start,st0,List.map_cons,List.map_nil,List.length_cons,List.length_nil,List.replicate,List.cons_append,List.nil_append,Nat.reduceAdd,Nat.reduceSub];have h3:=hok.n3;have h60:=hok.n60;have hl:=hok.len;have hbl:=nd_len (rising_nd hbs) hbr;have hnd:=rising_nd hbs;have hal:(as.map V.ref).length=n.toNat:=by rw[List.length_map,hR.len,rowsOf_len]
  have hLr:∀ x∈lessOf bs p,0≤x∧x<n:=fun x hx=>hbr x (mem_less.mp hx).1
  have hLu:(lessOf bs p).Pairwise (·<·):=hbs.filter _;have hLl:=nd_len (rising_nd hLu) hLr;refine seq_rest (fun σ Hc=>∃ z:Int,σ=[some (.ref d),some (.ref np),some (.ref pb),some (.int p),some (.int z),none,none,none,none]∧Kp d H Hc∧DkAt Hc d) (fun R hRR=>?_) ?_
  ·walk_at "rd";exact next_use dk fun z H1 k1 d1 _=>hRR _ _ ⟨z,rfl,k1,d1⟩
  rintro σ H1 ⟨z,rfl,k1,d1⟩;have R1:=hR.kp k1 dnp das;have hpb1:=k1.tp dk _ _ hpb;refine seq_rest (fun σ Hc=>∃ lo:Addr,σ=[some (.ref d),some (.ref np),some (.ref pb),some (.int p),some (.int z),some (.ref lo),none,none,none]∧Same H1 Hc∧Hc lo=some (.lst ((ownOf n ts bs p).map V.int))) (fun R hRR=>?_) ?_
  ·walk_at "rd";refine⟨_,.inl (SqL.of R1.top),by omega,by omega,fun lo nlo=>?_⟩;rw[hal,Int.toNat_natCast];refine lc_range (inv_sno H1 lo np pb ts bs p) ⟨none,rfl,(Same.refl H1).upd nlo,upd_same⟩ ?_ ?_
   ·rintro i τ Hc hi ⟨c,rfl,sc,hlo⟩;have hil:i<n.toNat:=hi;have hfl:((rInts 0 i).filter fun x=>decide (alOf ts bs x=[p])).length≤i:=Nat.le_trans (List.length_filter_le _ _) (by rw[rInts_length];omega);walk_at "rd";refine⟨np,as,n,ts,_,rfl,R1.same sc,hok,by omega,by omega,fun l ls H2 s2 n2 e2 hpm hll=>⟨l,rfl,⟨_,SqL.of e2⟩,fun l3 m3=>lc_listF V.int (fun y=>decide (y∈bs)) V.int (by omega) (SqL.of e2) m3 ?_ ?_⟩⟩
    ·intro y hy v ys R hys hR1 hR2;have sm:=(sc.trans s2).trans ((Same.refl H2).upd (o:=.lst ys) m3);walk_at "rd";exact in_use (.inr (SqT.of (sm _ _ hpb1))) ⟨_,rfl,turn_ite rfl hys (by omega) hR1 hR2⟩
    ·refine fresh_of m3 fun H3 s3 e3=>⟨by decide,fun l4 m4=>fresh_of m4 fun H4 s4 e4=>eqLI (ms:=[p]) (SqL.of (s4 _ _ e3)) (SqL.of e4) ⟨_,rfl,?_⟩⟩
     have s24:=(s2.trans s3).trans s4;have hlo4:=s24 _ _ hlo;rw[show decide ((ls.filter fun y=>decide (y∈bs))=[p])=decide (alOf ts bs (0+(i:Int))=[p]) from decide_eq_decide.mpr (al_lot hok hnd hpm)];refine ite2 (fun h=>⟨_,hlo4,by rw[List.length_map];exact sizeBig (by omega),_,rfl,(sc.trans s24).upd nlo,?_⟩) fun h=>⟨_,rfl,sc.trans s24,?_⟩
     ·rw[upd_same,rInts_succ,List.filter_append,fil_pos (fun x=>decide (alOf ts bs x=[p])) h,List.map_append];rfl
     ·rw[rInts_succ,List.filter_append,fil_neg (fun x=>decide (alOf ts bs x=[p])) h,List.append_nil];exact hlo4
   ·rintro τ H2 ⟨c,rfl,s2,e2⟩;exact hRR _ _ ⟨lo,rfl,s2,e2⟩
  rintro σ H2 ⟨lo,rfl,s2,e2⟩;refine seq_rest (fun σ Hc=>∃ lr:Addr,σ=[some (.ref d),some (.ref np),some (.ref pb),some (.int p),some (.int z),some (.ref lo),some (.ref lr),none,none]∧Same H2 Hc∧Hc lr=some (.lst ((lessOf bs p).map V.int))) (fun R hRR=>?_) ?_
  ·walk_at "rd";refine⟨⟨_,SqT.of (s2 _ _ hpb1)⟩,fun lr m3=>lc_tupF V.int (fun y=>!decide (y=p)) V.int (by omega) (SqT.of (s2 _ _ hpb1)) m3 ?_ ?_⟩
   ·intro y hy v ys R hys hR1 hR2;walk_at "rd";exact turn_ite rfl hys (by omega) hR1 hR2
   ·have el:(bs.filter fun y=>!decide (y=p))=lessOf bs p:=by unfold lessOf;exact List.filter_congr fun y _=>by simp
    rw[el];exact fresh_of m3 fun H3 s3 e3=>hRR _ _ ⟨lr,rfl,s3,e3⟩
  rintro σ H3 ⟨lr,rfl,s3,e3⟩;have hO1:∀ x∈ownOf n ts bs p,(0≤x∧x<n)∧alOf ts bs x=[p]:=fun x hx=>by
   obtain⟨h1,h2⟩:=List.mem_filter.mp hx;have:=mem_rInts.mp h1;exact⟨⟨this.1,by omega⟩,of_decide_eq_true h2⟩
  have hO2:ownOf n ts bs p=[]→∀ x,0≤x→x<n→alOf ts bs x≠[p]:=fun e x x0 x1 h=>by
   have:x∈ownOf n ts bs p:=List.mem_filter.mpr ⟨mem_rInts.mpr ⟨x0,by omega⟩,decide_eq_true h⟩;rw[e] at this;cases this
  have hOl:(ownOf n ts bs p).length≤60:=by
   have:(ownOf n ts bs p).length≤_:=List.length_filter_le _ _;rw[rInts_length] at this;omega
  generalize ownOf n ts bs p=O at e2 hO1 hO2 hOl;refine seq_rest (fun σ Hc=>∃ (ls:Addr) (ys:List Addr),σ=[some (.ref d),some (.ref np),some (.ref pb),some (.int p),some (.int z),some (.ref lo),some (.ref lr),some (.ref ls),none]∧Same H3 Hc∧H3 ls=none∧Hc ls=some (.lst (ys.map V.ref))∧ys.length=O.length∧∀ y∈ys,NeedAt Hc n ts bs p (.ref y)) (fun R hRR=>?_) ?_
  ·walk_at "rd";refine⟨⟨_,SqL.of (s3 _ _ e2)⟩,fun ls m4=>lc_list (K:=K) (xs:=O.map V.int) (inv_sns H3 ls n ts bs p) ⟨none,[],rfl,(Same.refl H3).upd m4,upd_same,rfl,fun y hy=>(by cases hy)⟩ ?_ ?_ ?_⟩
   ·rintro i τ Hc _ ⟨_,_,rfl,sc,_⟩;exact SqL.of (sc _ _ (s3 _ _ e2))
   ·rintro i v τ Hc hv ⟨c,ys,rfl,sc,hls,hyl,hys⟩ _;rw[List.getElem?_map] at hv;obtain⟨x,hx,rfl⟩:=Option.map_eq_some_iff.mp hv;have hil:=(List.getElem?_eq_some_iff.mp hx).1;obtain⟨⟨x0,x1⟩,hxa⟩:=hO1 x (List.mem_of_getElem? hx);walk_at "rd";refine⟨by decide,fun t nt=>fresh_of nt fun H5 s5 e5=>?_⟩;have hls5:=s5 _ _ hls;refine⟨_,hls5,by rw[List.length_map];exact sizeBig (by omega),_,ys++[t],rfl,(sc.trans s5).upd m4,by rw[upd_same,List.map_append];rfl,by rw[List.length_append,List.length_singleton,hyl],fun y hy=>?_⟩;rcases List.mem_append.mp hy with hy | hy
    ·exact (hys y hy).tp (s5.tp.trans (Tp.lst hls5))
    ·rw[List.mem_singleton.mp hy];exact .own (Tp.lst hls5 _ _ e5) x0 x1 hxa
   ·rintro τ H4 ⟨c,ys,rfl,s4,e4,hyl,hys⟩;rw[List.length_map] at hyl;exact hRR _ _ ⟨ls,ys,rfl,s4,m4,e4,hyl,hys⟩
  rintro σ H4 ⟨ls,ys,rfl,s4,m4,e4,hyl,hys⟩;have s14:=(s2.trans s3).trans s4;have R4:=R1.same s14;have d4:=d1.same s14;have k4:Kp d H H4:=k1.trans s14.kp;have lsd:ls≠d:=(d1.same (s2.trans s3)).ne m4;have lrls:lr≠ls:=ne_of_none e3 m4;have e34:=s4 _ _ e3;refine seq_rest (fun σ Hc=>∃ (ys:List Addr) (c:Option V),σ=[some (.ref d),some (.ref np),some (.ref pb),some (.int p),some (.int z),some (.ref lo),some (.ref lr),some (.ref ls),c]∧(∀ b o,b≠ls→H4 b=some o→Hc b=some o)∧Hc ls=some (.lst (ys.map V.ref))∧ys.length≤61∧(∀ y∈ys,NeedAt Hc n ts bs p (.ref y))∧(¬ Busy n ts (lessOf bs p)→ys≠[])) (fun R hRR=>?_) ?_
  ·walk_at "rd";have hkeep:(¬ Busy n ts (lessOf bs p)→O=[]→lessOf bs p≠[]∧¬ Hng ts (lessOf bs p)):=fun hL hO=>by
    obtain⟨l0,r,_,hP⟩:=need_part hok.rng hbr hnd hB hp hL (hO2 hO);refine⟨fun e=>?_,part_hng hP⟩;obtain⟨x,hx⟩:=List.exists_mem_of_ne_nil _ hP.ne;have:=mem_less.mpr (hP.sub x hx);rw[e] at this;cases this
   have hyO:O≠[]→ys≠[]:=fun h e=>by rw[e] at hyl;exact h (List.eq_nil_of_length_eq_zero hyl.symm)
   refine⟨by decide,fun l5 m5=>fresh_of m5 fun H5 s5 e5=>neLI (ms:=[]) (SqL.of (s5 _ _ e34)) (SqL.of e5) ⟨_,rfl,?_⟩⟩;by_cases hE:lessOf bs p=[]
   ·rw[if_neg (by simp[hE])];exact hRR _ _ ⟨ys,none,rfl,fun b o _ e=>s5 _ _ e,s5 _ _ e4,by omega,fun y hy=>(hys y hy).tp s5.tp,fun hL=>hyO fun hO=>(hkeep hL hO).1 hE⟩
   rw[if_pos (by simp[hE])];have hLp:0<(lessOf bs p).length:=List.length_pos_iff.mpr hE;obtain⟨u,hu,eu⟩:=atI_in (xs:=lessOf bs p) (i:=z % ((lessOf bs p).length:Int)) (Int.emod_nonneg z (by omega)) (Int.emod_lt_of_pos z (by omega));obtain⟨u0,u1⟩:=hLr u hu;refine⟨_,.inl (SqL.of (s5 _ _ e34)),by rw[List.length_map];omega,_,SqL.of (s5 _ _ e34),_,by rw[List.length_map];exact eu,np,as,n,ts,lr,lessOf bs p,u,rfl,R4.same s5,hok.rng,by omega,by omega,.inl (SqL.of (s5 _ _ e34)),u0,u1,fun lt ws H6 s6 m6 e6 hwr hwm=>⟨lt,rfl,_,.inl (SqL.of e6),_,.inl (SqL.of ((s5.trans s6) _ _ e34)),?_⟩⟩;have s56:=s5.trans s6;rw[List.length_map,List.length_map];have wsub:∀ x∈ws,x∈lessOf bs p:=fun x hx=>by
    cases (hwm x).mp hx with
    | base=>exact hu
    | step _ _ h=>exact h
   have hwl:=nd_sub (rising_nd hwr) wsub;refine ite2 (fun h=>?_) fun h=>?_
   ·have h:ws.length<(lessOf bs p).length:=by have:=of_decide_eq_true h;omega
    refine⟨.inl ⟨rfl,_,SqL.of (s56 _ _ e4)⟩,lt,rfl,_,.inl ⟨SqL.of e6,fun l7 m7=>fresh_of m7 fun H7 s7 e7=>⟨by decide,fun l8 m8=>fresh_of m8 fun H8 s8 e8=>?_⟩⟩⟩;have s58:=(s56.trans s7).trans s8;have e48:=s58 _ _ e4;refine⟨_,e48,by rw[List.length_map];exact sizeBig (by omega),hRR _ _ ⟨ys++[l8],_,rfl,fun b o hb e=>by rw[upd_ne hb];exact s58 _ _ e,by rw[upd_same,List.map_append];rfl,by rw[List.length_append,List.length_singleton];omega,fun y hy=>?_,fun _=>by simp⟩⟩;rcases List.mem_append.mp hy with hy | hy
    ·exact (hys y hy).tp (s58.tp.trans (Tp.lst e48))
    ·rw[List.mem_singleton.mp hy];refine .parts (Tp.lst e48 _ _ e8) (Tp.lst e48 _ _ (s8 _ _ e7)) ⟨fun e=>?_,hwr,fun x hx=>mem_less.mp (wsub x hx),?_,fun x hx y hy hyb hyp=>(hwm y).mpr (.step ((hwm x).mp hx) hy (mem_less.mpr ⟨hyb,hyp⟩))⟩
     ·have:=(hwm u).mpr .base;rw[e] at this;cases this
     ·refine Classical.byContradiction fun hno=>?_
      have:=nd_sub (rising_nd hLu) (l:=ws) fun x hx=>Classical.byContradiction fun hx2=>hno ⟨x,(mem_less.mp hx).1,(mem_less.mp hx).2,hx2⟩
      omega
   ·have h:(lessOf bs p).length≤ws.length:=by
     rcases Nat.lt_or_ge ws.length (lessOf bs p).length with k | k
     ·exact absurd (decide_eq_true (by omega)) h
     ·exact k
    refine hRR _ _ ⟨ys,_,rfl,fun b o _ e=>s56 _ _ e,s56 _ _ e4,by omega,fun y hy=>(hys y hy).tp s56.tp,fun hL=>hyO fun hO=>(hkeep hL hO).2 ?_⟩;refine hng_of hok.rng hu fun y hy=>(hwm y).mp ?_
    refine Classical.byContradiction fun hy2=>?_
    have h5:=nd_sub (l:=lessOf bs p) (List.nodup_cons.mpr ⟨hy2,rising_nd hwr⟩) fun x hx=>by
     rcases List.mem_cons.mp hx with rfl | hx
     ·exact hy
     ·exact wsub x hx
    rw[List.length_cons] at h5;omega
  rintro σ H5 ⟨zs,c,rfl,k5,e5,hzl,hzs,hzn⟩;have nls0:H ls=none:=(k1.trans (s2.trans s3).kp).free (d1.same (s2.trans s3)) m4;have kp5:Kp d H H5:=fun b o hb e=>k5 _ _ (fun z=>by rw[z,nls0] at e;cases e) (k4 _ _ hb e)
  have d5:DkAt H5 d:=by
   obtain⟨ds,e,h⟩:=d4;exact⟨ds,k5 _ _ lsd.symm e,h⟩
  have lr5:=k5 _ _ lrls e34;walk_at "rd";refine⟨by decide,fun l6 m6=>fresh_of m6 fun H6 s6 e6=>eqL0 (s6 _ _ e5) (fun v hv=>?_) e6 fun b hb=>⟨b,rfl,?_⟩⟩
  ·obtain⟨y,hy,rfl⟩:=List.mem_map.mp hv;exact ndx_dok (need_ndx ((hzs y hy).tp s6.tp) (by omega))
  rw[List.map_eq_nil_iff] at hb;cases b with
  | true =>
   rw[if_pos rfl];refine⟨by decide,fun a1 n1=>fresh_of n1 fun H7 s7 e7=>slL_use ((s6.trans s7) _ _ lr5) fun a2 H8 n8 s8 e8=>⟨a2,rfl,_,.inl ⟨SqL.of e8,fun a3 n3=>fresh_of n3 fun H9 s9 e9=>⟨by decide,fun a4 n4=>fresh_of n4 fun HA sA eA=>⟨by decide,fun a5 n5=>fresh_of n5 fun HB sB eB=>⟨by decide,_,SqL.of eB,?_⟩⟩⟩⟩⟩⟩;obtain⟨v,hv,ev⟩:=at_in (xs:=[V.ref a1,V.ref a4]) (k:=z % 2) (Int.emod_nonneg z (by decide)) (Int.emod_lt_of_pos z (by decide));refine⟨v,ev,?_⟩;have sAB:=sA.trans sB;have s8B:=s8.trans (s9.trans sAB);have s5B:=(s6.trans s7).trans s8B;obtain⟨cs,ec,_,hcl⟩:=cutX V.int (lessOf bs p) none (some 1);rw[ec] at e9;have hX:∃ t,v=.ref t∧NdX HB t:=by
    simp only[List.mem_cons,List.not_mem_nil,or_false] at hv;rcases hv with rfl | rfl
    ·exact⟨a1,rfl,.inl ⟨p,s8B _ _ e7⟩⟩
    ·exact⟨a4,rfl,.inr ⟨a3,cs,sB _ _ eA,sAB _ _ e9,by omega⟩⟩
   obtain⟨t,rfl,hX⟩:=hX;exact q t HB (kp5.trans s5B.kp) (d5.same s5B) hX fun hL=>absurd (hb.mp rfl) (hzn hL)
  | false =>
   rw[if_neg (by decide)];refine next_use (d5.same s6) fun z2 H7 k7 d7 _=>?_
   have e57:=k7 _ _ lsd (s6 _ _ e5);have hz0:zs≠[]:=fun e=>by cases hb.mpr e
   have hz1:=List.length_pos_iff.mpr hz0;obtain⟨v,hv,ev⟩:=pick_mod (xs:=zs.map V.ref) (by rw[List.length_map];exact hz1) z2;obtain⟨y,hy,rfl⟩:=List.mem_map.mp hv;have hy7:=(hzs y hy).tp (s6.tp.trans (k7.tp (d5.same s6)));exact⟨_,.inl (SqL.of e57),z2,rfl,by rw[List.length_map];omega,_,SqL.of e57,_,ev,q y H7 ((kp5.trans s6.kp).trans k7) d7 (need_ndx hy7 (by omega)) fun _=>hy7⟩
def sp_bneed (K:PySem.W.Frag):Sp:=fun vs H Q _=>∃ (d:Addr) (m:Int) (pb:Addr) (bs:List Int) (t:Addr),vs=[.ref d,.int m,.ref pb,.ref t]∧DkAt H d∧0<m∧H pb=some (.tup (bs.map V.int))∧bs.length≤60∧NdX H t ∧
 ∀ (v:V) (T:String) (H':Hp),Kp d H H'→DkAt H' d→Pl H' v T→NdF H' v→Q v H'
theorem pld_at {H:Hp}{v:V}{T:String}(h:Pl H v T)(hn:∀ a,v≠.ref a):PlD H 1 v:=⟨⟨T,h⟩,fun a _ e=>absurd e (hn a)⟩
theorem ndf_no {H:Hp}{v:V}(h:∀ t xs,v=.ref t→H t=some (.tup xs)→xs.length≠2):NdF H v:=fun t xs e e2 hl=>absurd hl (h t xs e e2)
theorem ndf_at {H:Hp}{t:Addr}{v0 v1:V}{T:String}(e:H t=some (.tup [v0,v1]))(h0:W1 H v0)(h1:Pl H v1 T)(hn:∀ a,v1≠.ref a):NdF H (.ref t):=fun t' xs ee e2 _=>by
 cases ee;rw[e] at e2;cases e2;exact⟨v0,v1,T,rfl,h0,h1,pld_at h1 hn,fun a _ ea=>absurd ea (hn a)⟩
theorem ndf_tup {H:Hp}{t a:Addr}{v0:V}{l:List Int}(e:H t=some (.tup [v0,.ref a]))(h0:W1 H v0)(ea:H a=some (.tup (l.map V.int)))(hl:l.length<300):NdF H (.ref t):=fun t' xs ee e2 _=>by
 cases ee;rw[e] at e2;cases e2;refine⟨v0,_,_,rfl,h0,.tup ea,pld_ints ea,fun b ys eb e3=>?_⟩;cases eb;rw[ea] at e3;cases e3;rw[List.length_map];exact hl
theorem ndf_lst {H:Hp}{t a:Addr}{v0:V}{xs:List V}(e:H t=some (.tup [v0,.ref a]))(h0:W1 H v0)(ea:H a=some (.lst xs)):NdF H (.ref t):=fun t' xs' ee e2 _=>by
 cases ee;rw[e] at e2;cases e2;refine⟨v0,_,_,rfl,h0,.lst ea,⟨⟨_,.lst ea⟩,fun b ys eb e3=>?_⟩,fun b ys eb e3=>?_⟩
 ·cases eb;rw[ea] at e3;cases e3
 ·cases eb;rw[ea] at e3;cases e3
def inv_bn (Hb:Hp)(l d:Addr)(i:Nat)(τ:St)(Hc:Hp):Prop:=∃ (c:Option V) (us:List Int),τ=[c,some (.ref d)]∧Kp d Hb Hc∧DkAt Hc d∧Hc l=some (.lst (us.map V.int))∧us.length≤i
theorem w1_own {H:Hp}:W1 H (.str "own"):=.w0 (.str (show PyData.strOk _=true by decide +kernel))
theorem w1_parts {H:Hp}:W1 H (.str "parts"):=.w0 (.str (show PyData.strOk _=true by decide +kernel))
theorem sc_bneed:FnScope ["_law_deck_here","_law_many","_law_busy","_law_need","_law_kind","_law_cell","_law_side"] ["_law_deck_here","_law_many","_law_busy","_law_need"] (defScope (top 46)):=by walk_at "s"
theorem ok_bneed (F:Fun K "_law_bent_need" "_law_bent_need" (top 46) f fd)(B:Bt mg)(D1:Df K mg "_law_next" st1 f1 fd1 ["_law_deck_here"])(G1:FnOk P w K mg base CX0 1 f1 fd1 ["_law_deck_here"] sp_next)(C:Bt2 mg):FnOk P w K mg base CX0 2 f fd ["_law_deck_here","_law_many","_law_busy","_law_need"] (sp_bneed K):=by
 refine F.ok sc_bneed (fun vs H Q E h=>?_) (fun cdv A outer s H vs Q E hr h=>?_)
 ·walk_at "h"
 ·obtain⟨d,m,pb,bs,t,rfl,dk,hm,hpb,hbl,hN,q⟩:=h;have nd:=sc_bneed.nd;have hu:=hu_of hr
  refine⟨_,(@pss_cons _ _ _ _ _ (ps_set (i:=4) nd rfl (.inl rfl) (@pe_op _ _ _ _ _ _ _ _ op_mod (pe_own G1 D1 hr.m (@pa_cons _ _ _ _ _ (pv 0) pa_nil (by rfl))) pe_int))
    (@pss_cons _ _ _ _ _ (ps_set (i:=5) nd rfl (.inl rfl) (pe_own G1 D1 hr.m (@pa_cons _ _ _ _ _ (pv 0) pa_nil (by rfl))))
    (@pss_cons _ _ _ _ _ (@ps_if _ _ _ _ _ _ _ _ (pt_cmpR op_lt (pv 4) pe_int (nomark _))
     (@pss_one _ _ _ (ps_ret (@pe_tup _ _ _ _ _ (@pa_cons _ _ _ _ _ pe_str (@pa_cons _ _ _ _ _ (@pe_ix _ _ _ _ _ _ _ (ix_listK K) (@pe_lst _ _ _ _ (@pa_cons _ _ _ _ _ (@pe_op _ _ _ _ _ _ _ _ op_mod (pv 5) (pv 1)) (@pa_cons _ _ _ _ _ (pv 1) (@pa_cons _ _ _ _ _ pe_bl pa_nil (by rfl)) (by rfl)) (by rfl))) (pv 4) (fun _ _=>rfl)) pa_nil (by rfl)) (by rfl)))))
     pss_nil)
    (@pss_cons _ _ _ _ _ (@ps_if _ _ _ _ _ _ _ _ (pt_cmpR op_lt (pv 4) pe_int (nomark _))
     (@pss_cons _ _ _ _ _ (ps_set (i:=6) nd rfl (.inl rfl) (pe_callTy (tupleK K) (by rfl) B.tuple boot_tuple (@pa_cons _ _ _ _ _ (pe_lcomp (own:=["_law_place"]) (fr:=[("_law_deck_here",0)]) rfl (by walk_at "w") (frOk_cons rfl rfl frOk_nil) (pi_tupK K (pv 2)) ⟨fun _ _ _ _=>⟨(pg_name (i:=0) (show List.Nodup (["_law_place","_law_deck_here"]:List Str) by decide +kernel) rfl (.inl rfl)),(pts_one (pt_cmpR op_eq (@pe_op _ _ _ _ _ _ _ _ op_mod (pe_own G1 D1 hr.m (@pa_cons _ _ _ _ _ (pv 1) pa_nil (by rfl))) pe_int) pe_int (nomark _))),(pv 0)⟩⟩) pa_nil (by rfl))))
     (@pss_one _ _ _ (ps_ret (@pe_tup _ _ _ _ _ (@pa_cons _ _ _ _ _ pe_str (@pa_cons _ _ _ _ _ (@pe_ix _ _ _ _ _ _ _ (ix_listK K) (@pe_lst _ _ _ _ (@pa_cons _ _ _ _ _ (pv 6) (@pa_cons _ _ _ _ _ (pe_revT K (pv 6) (pe_un un_neg pe_int)) (@pa_cons _ _ _ _ _ (pe_callTy (listK K) (by rfl) B.list boot_list (@pa_cons _ _ _ _ _ (pv 6) pa_nil (by rfl))) pa_nil (by rfl)) (by rfl)) (by rfl))) (@pe_op _ _ _ _ _ _ _ _ op_sub (pv 4) pe_int) (fun _ _=>rfl)) pa_nil (by rfl)) (by rfl))))))
     pss_nil)
    (@pss_cons _ _ _ _ _ (@ps_if _ _ _ _ _ _ _ _ (pt_cmpR op_lt (pv 4) pe_int (nomark _))
     (@pss_one _ _ _ (ps_ret (@pe_ix _ _ _ _ _ _ _ (ix_listK K) (@pe_lst _ _ _ _ (@pa_cons _ _ _ _ _ (pe_revT K (pv 3) (pe_un un_neg pe_int)) (@pa_cons _ _ _ _ _ (@pe_op _ _ _ _ _ _ _ _ (catXK K) (pv 3) (@pe_tup _ _ _ _ _ (@pa_cons _ _ _ _ _ pe_int pa_nil (by rfl)))) (@pa_cons _ _ _ _ _ (pe_callTy (listK K) (by rfl) B.list boot_list (@pa_cons _ _ _ _ _ (pv 3) pa_nil (by rfl))) (@pa_cons _ _ _ _ _ pe_non pa_nil (by rfl)) (by rfl)) (by rfl)) (by rfl))) (@pe_op _ _ _ _ _ _ _ _ op_sub (pv 4) pe_int) (fun _ _=>rfl))))
     pss_nil)
    (@pss_cons _ _ _ _ _ (@ps_if _ _ _ _ _ _ _ _ (pt_val (pe_callB (isiK K) (by rfl) C.isinstance boot_isinstance (@pa_cons _ _ _ _ _ (@pe_ix _ _ _ _ _ _ _ (ix_tupK K) (pv 3) pe_int (fun _ _=>rfl)) (@pa_cons _ _ _ _ _ (pe_ty (by rfl) B.tuple boot_tuple) pa_nil (by rfl)) (by rfl))))
     (@pss_one _ _ _ (ps_ret (@pe_tup _ _ _ _ _ (@pa_cons _ _ _ _ _ (@pe_ix _ _ _ _ _ _ _ (ix_tupK K) (pv 3) pe_int (fun _ _=>rfl)) (@pa_cons _ _ _ _ _ (@pe_ix _ _ _ _ _ _ _ (ix_listK K) (@pe_lst _ _ _ _ (@pa_cons _ _ _ _ _ (pe_slice (slXK K) (@pe_ix _ _ _ _ _ _ _ (ix_tupK K) (pv 3) pe_int (fun _ _=>rfl)) (po_some pe_int) po_none) (@pa_cons _ _ _ _ _ (@pe_op _ _ _ _ _ _ _ _ (catXK K) (@pe_ix _ _ _ _ _ _ _ (ix_tupK K) (pv 3) pe_int (fun _ _=>rfl)) (pe_slice (slXK K) (@pe_ix _ _ _ _ _ _ _ (ix_tupK K) (pv 3) pe_int (fun _ _=>rfl)) (po_some (pe_un un_neg pe_int)) po_none)) pa_nil (by rfl)) (by rfl))) (@pe_op _ _ _ _ _ _ _ _ op_sub (pv 4) pe_int) (fun _ _=>rfl)) pa_nil (by rfl)) (by rfl)))))
     pss_nil)
    (@pss_one _ _ _ (ps_ret (@pe_ix _ _ _ _ _ _ _ (ix_listK K) (@pe_lst _ _ _ _ (@pa_cons _ _ _ _ _ (@pe_tup _ _ _ _ _ (@pa_cons _ _ _ _ _ pe_str (@pa_cons _ _ _ _ _ (@pe_tup _ _ _ _ _ (@pa_cons _ _ _ _ _ (@pe_ix _ _ _ _ _ _ _ (ix_tupK K) (pv 3) pe_int (fun _ _=>rfl)) pa_nil (by rfl))) pa_nil (by rfl)) (by rfl))) (@pa_cons _ _ _ _ _ (@pe_tup _ _ _ _ _ (@pa_cons _ _ _ _ _ pe_str (@pa_cons _ _ _ _ _ (@pe_ix _ _ _ _ _ _ _ (ix_tupK K) (pv 3) pe_int (fun _ _=>rfl)) pa_nil (by rfl)) (by rfl))) pa_nil (by rfl)) (by rfl))) (@pe_op _ _ _ _ _ _ _ _ op_sub (pv 4) pe_int) (fun _ _=>rfl)))))))))),?_⟩
  simp only[L2.start,st0,List.map_cons,List.map_nil,List.length_cons,List.length_nil,List.replicate,List.cons_append,List.nil_append,Nat.reduceAdd,Nat.reduceSub];walk_at "rd";refine next_use dk fun z1 H1 k1 d1 _=>⟨z1,rfl,by decide,next_use d1 fun z2 H2 k2 d2 _=>?_⟩
  have k12:=k1.trans k2;have t2:=(k1.tp dk).trans (k2.tp d1);have hpb2:=t2 _ _ hpb;have hN2:=hN.tp t2;have o0:=Int.emod_nonneg z1 (b:=12) (by decide);have o1:=Int.emod_lt_of_pos z1 (b:=12) (by decide);generalize z1 % 12=k at o0 o1 ⊢;refine ite2 (fun hk=>?_) fun hk=>?_
  ·have hk:=of_decide_eq_true hk;refine⟨z2,rfl,hm,by decide,fun l1 n1=>fresh_of n1 fun H3 s3 e3=>⟨_,SqL.of e3,?_⟩⟩;obtain⟨v,hv,ev⟩:=at_in (xs:=[V.int (z2 % m),V.int m,V.bl true]) (k:=k) o0 (by simp;omega);refine⟨v,ev,by decide,fun t1 m1=>fresh_of m1 fun H4 s4 e4=>?_⟩;have hat:∃ T,Pl H4 v T∧∀ a,v≠.ref a:=by
    simp only[List.mem_cons,List.not_mem_nil,or_false] at hv;rcases hv with rfl | rfl | rfl
    ·exact⟨_,.int _,fun a e=>by cases e⟩
    ·exact⟨_,.int _,fun a e=>by cases e⟩
    ·exact⟨_,.bl _,fun a e=>by cases e⟩
   obtain⟨T,hP,hn⟩:=hat;exact q (.ref t1) _ H4 (k12.trans (s3.trans s4).kp) (d2.same (s3.trans s4)) (.tup e4) (ndf_at e4 w1_own hP hn)
  have hk3:3≤k:=by
   rcases Int.lt_or_le k 3 with h | h
   ·exact absurd (decide_eq_true h) hk
   ·exact h
  refine ite2 (fun hk=>?_) fun hk=>?_
  ·have hk:=of_decide_eq_true hk;refine⟨⟨_,SqT.of hpb2⟩,fun l m3=>?_⟩;have ld:l≠d:=d2.ne m3;refine lc_tup (K:=K) (xs:=bs.map V.int) (inv_bn H2 l d) ⟨none,[],rfl,((Same.refl H2).upd m3).kp,d2.same ((Same.refl H2).upd m3),upd_same,Nat.le_refl _⟩ ?_ ?_ ?_
   ·rintro i τ Hc _ ⟨_,_,rfl,kc,_⟩;exact SqT.of (kc.tp d2 _ _ hpb2)
   ·rintro i v τ Hc hv ⟨c,us,rfl,kc,dc,hlc,hul⟩;rw[List.getElem?_map] at hv;obtain⟨x,hx,rfl⟩:=Option.map_eq_some_iff.mp hv;have hil:=(List.getElem?_eq_some_iff.mp hx).1;walk_at "rd";refine next_use dc fun z3 H3 k3 d3 _=>⟨z3,rfl,by decide,?_⟩
    have hl3:=k3 _ _ ld hlc;refine ite2 (fun _=>⟨_,hl3,by rw[List.length_map];exact sizeBig (by omega),_,us++[x],rfl,((kc.trans k3)).new m3,d3.new ld,by rw[upd_same,List.map_append];rfl,by rw[List.length_append,List.length_singleton];omega⟩) fun _=>⟨_,us,rfl,kc.trans k3,d3,hl3,by omega⟩
   ·rintro τ H3 ⟨c,us,rfl,k3,d3,e3,hul⟩;rw[List.length_map] at hul;refine⟨_,.inl ⟨SqL.of e3,fun l4 m4=>fresh_of m4 fun H4 s4 e4=>⟨_,SqT.of e4,fun l5 m5=>fresh_of m5 fun H5 s5 e5=>⟨_,.inr (SqT.of (s5 _ _ e4)),fun l6 m6=>fresh_of m6 fun H6 s6 e6=>⟨by decide,fun l7 m7=>fresh_of m7 fun H7 s7 e7=>⟨_,SqL.of e7,?_⟩⟩⟩⟩⟩⟩;obtain⟨v,hv,ev⟩:=at_in (xs:=[V.ref l4,V.ref l5,V.ref l6]) (k:=k-3) (by omega) (by simp;omega);refine⟨v,ev,by decide,fun t1 m1=>fresh_of m1 fun H8 s8 e8=>?_⟩;have s78:=s7.trans s8;have s68:=s6.trans s78;have s58:=s5.trans s68;rw[← List.map_reverse] at e5;have hF:NdF H8 (.ref t1):=by
     simp only[List.mem_cons,List.not_mem_nil,or_false] at hv;rcases hv with rfl | rfl | rfl
     ·exact ndf_tup e8 w1_parts (s58 _ _ e4) (by omega)
     ·exact ndf_tup e8 w1_parts (s68 _ _ e5) (by rw[List.length_reverse];omega)
     ·exact ndf_lst e8 w1_parts (s78 _ _ e6)
    exact q (.ref t1) _ H8 (k12.trans (k3.trans (s4.trans s58).kp)) (d3.same (s4.trans s58)) (.tup e8) hF
  have hk6:6≤k:=by
   rcases Int.lt_or_le k 6 with h | h
   ·exact absurd (decide_eq_true h) hk
   ·exact h
  obtain⟨w,y,eT,hw,hy⟩:∃ (w:Str) (y:V),H2 t=some (.tup [.str w,y])∧stOk w∧((∃ x,y=.int x)∨∃ (a:Addr) (l:List Int),y=.ref a∧H2 a=some (.tup (l.map V.int))∧l.length≤60):=by
   rcases hN2 with ⟨x,e⟩ | ⟨a,l,e,e2,h⟩
   ·exact⟨_,_,e,(show PyData.strOk _=true by decide +kernel),.inl ⟨x,rfl⟩⟩
   ·exact⟨_,_,e,(show PyData.strOk _=true by decide +kernel),.inr ⟨a,l,rfl,e2,h⟩⟩
  refine ite2 (fun hk=>?_) fun hk=>?_
  ·have hk:=of_decide_eq_true hk;refine⟨_,SqT.of eT,fun a1 n1=>fresh_of n1 fun H3 s3 e3=>⟨by decide,fun a2 n2=>fresh_of n2 fun H4 s4 e4=>catX_use ((s3.trans s4) _ _ eT) e4 (by show 2+1≤10000;decide) fun a5 H5 s5 e5=>⟨_,.inr (SqT.of (((s3.trans s4).trans s5) _ _ eT)),fun a6 n6=>fresh_of n6 fun H6 s6 e6=>⟨by decide,fun a7 n7=>fresh_of n7 fun H7 s7 e7=>⟨_,SqL.of e7,?_⟩⟩⟩⟩⟩;obtain⟨v,hv,ev⟩:=at_in (xs:=[V.ref a1,V.ref a5,V.ref a6,V.non]) (k:=k-6) (by omega) (by simp;omega);have s57:=s6.trans s7;have s37:=(s4.trans s5).trans s57;have s27:=s3.trans s37;have fin:∀ T,Pl H7 v T→NdF H7 v→Q v H7:=fun T h1 h2=>q v T H7 (k12.trans s27.kp) (d2.same s27) h1 h2
   refine⟨v,ev,?_⟩;simp only[List.mem_cons,List.not_mem_nil,or_false] at hv;rcases hv with rfl | rfl | rfl | rfl
   ·refine fin _ (.tup (s37 _ _ e3)) (ndf_at (s37 _ _ e3) ?_ (.str w) fun a e=>by cases e);rcases hy with ⟨x,rfl⟩ | ⟨a,l,rfl,e2,_⟩
    ·exact .w0 (.int x)
    ·exact .tps (s27 _ _ e2)
   ·refine fin _ (.tup (s57 _ _ e5)) (ndf_no fun t' xs ee e2=>?_);cases ee;rw[s57 _ _ e5] at e2;cases e2;show ¬ 3=2;decide
   ·refine fin _ (.lst (s7 _ _ e6)) (ndf_no fun t' xs ee e2=>?_);cases ee;rw[s7 _ _ e6] at e2;cases e2
   ·exact fin _ .non (ndf_no fun t' xs ee=>by cases ee)
  have hk10:10≤k:=by
   rcases Int.lt_or_le k 10 with h | h
   ·exact absurd (decide_eq_true h) hk
   ·exact h
  refine⟨_,SqT.of eT,_,rfl,?_⟩;rcases hy with ⟨x,rfl⟩ | ⟨a,l,rfl,ea,hll⟩
  ·refine⟨_,_,⟨rfl,rfl⟩,_,(Pl.int x:Pl H2 _ _).ty,_,kit_plain (Pl.int x:Pl H2 _ _) (.inr (.inr rfl)),?_⟩;rw[if_neg (by decide)];refine⟨_,SqT.of eT,_,rfl,by decide,fun a1 n1=>fresh_of n1 fun H3 s3 e3=>⟨by decide,fun a2 n2=>fresh_of n2 fun H4 s4 e4=>⟨_,SqT.of ((s3.trans s4) _ _ eT),_,rfl,by decide,fun a3 n3=>fresh_of n3 fun H5 s5 e5=>⟨by decide,fun a4 n4=>fresh_of n4 fun H6 s6 e6=>⟨_,SqL.of e6,?_⟩⟩⟩⟩⟩;obtain⟨v,hv,ev⟩:=at_in (xs:=[V.ref a2,V.ref a3]) (k:=k-10) (by omega) (by simp;omega);have s46:=s5.trans s6;have s26:=(s3.trans s4).trans s46;refine⟨v,ev,?_⟩;simp only[List.mem_cons,List.not_mem_nil,or_false] at hv;rcases hv with rfl | rfl
   ·exact q _ _ H6 (k12.trans s26.kp) (d2.same s26) (.tup (s46 _ _ e4)) (ndf_tup (l:=[x]) (s46 _ _ e4) w1_parts ((s4.trans s46) _ _ e3) (by show 1<300;decide))
   ·exact q _ _ H6 (k12.trans s26.kp) (d2.same s26) (.tup (s6 _ _ e5)) (ndf_at (s6 _ _ e5) (.w0 (.str (show PyData.strOk _=true by decide +kernel))) (.int x) fun a e=>by cases e)
  ·refine⟨_,_,⟨rfl,rfl⟩,_,(Pl.tup ea).ty,_,kit_plain (Pl.tup ea) (.inr (.inr rfl)),?_⟩;rw[if_pos (by decide)];refine⟨_,SqT.of eT,_,rfl,_,SqT.of eT,_,rfl,slX_use ea fun a1 H3 s3 e3=>⟨_,SqT.of (s3 _ _ eT),_,rfl,_,SqT.of (s3 _ _ eT),_,rfl,slX_use (s3 _ _ ea) fun a2 H4 s4 e4=>?_⟩⟩;obtain⟨c1,ec1,_,hc1⟩:=cutX V.int l (some 1) none;obtain⟨c2,ec2,_,hc2⟩:=cutX V.int l (some (-1)) none;rw[ec1] at e3;rw[ec2] at e4;refine catX_use ((s3.trans s4) _ _ ea) e4 (by rw[List.length_map,List.length_map];omega) fun a5 H5 s5 e5=>⟨by decide,fun a6 n6=>fresh_of n6 fun H6 s6 e6=>⟨_,SqL.of e6,?_⟩⟩
   rw[← List.map_append] at e5;obtain⟨v,hv,ev⟩:=at_in (xs:=[V.ref a1,V.ref a5]) (k:=k-10) (by omega) (by simp;omega);refine⟨v,ev,by decide,fun a7 n7=>fresh_of n7 fun H7 s7 e7=>?_⟩;have s57:=s6.trans s7;have s37:=(s4.trans s5).trans s57;have s27:=s3.trans s37;refine q _ _ H7 (k12.trans s27.kp) (d2.same s27) (.tup e7) ?_;simp only[List.mem_cons,List.not_mem_nil,or_false] at hv;rcases hv with rfl | rfl
   ·exact ndf_tup e7 (.w0 (.str hw)) (s37 _ _ e3) (by omega)
   ·exact ndf_tup e7 (.w0 (.str hw)) (s57 _ _ e5) (by rw[List.length_append];omega)
def sp_ltof (K:PySem.W.Frag):Sp:=fun vs H Q _=>∃ (d np:Addr) (as:List Addr) (n:Int) (ts:List (Int×Int)) (pb:Addr) (bs:List Int),vs=[.ref d,.ref np,.ref pb]∧DkAt H d∧RowsAt H np as (rowsOf n ts)∧d≠np∧d∉as∧IsWeb n ts∧H pb=some (.tup (bs.map V.int))∧bs.Pairwise (·<·)∧(∀ x∈bs,0≤x∧x<n)∧Busy n ts bs ∧
 ∀ (pt:Addr) (T:List (Int×Int)) (H':Hp),Kp d H H'→DkAt H' d→TsAt H' pt T→IsTree n ts T→(∀ x,0≤x→x<n→x∉bs→(nb T x).length=1)→Q (.ref pt) H'
theorem hng_open {ts:List (Int×Int)}{bs ins:List Int}{u:Int}(hB:Hng ts bs)(hu:u∈ins)(hs:∀ x∈ins,x∈bs){x:Int}(hx:x∈bs)(hxi:x∉ins):∃ a∈ins,∃ b∈nb ts a,b∈bs∧b∉ins:=by
 refine Classical.byContradiction fun hno=>hxi ?_
 have r:=hB.2 u (hs u hu) x hx;clear hx hxi;induction r with
 | base=>exact hu
 | @step y z r1 hz hA ih=>exact Classical.byContradiction fun hzi=>hno ⟨y,ih,z,hz,hA,hzi⟩
structure Wo (ts:List (Int×Int))(bs ins:List Int)(gs:List (Int×Int)):Prop where
 G:Grow ts ins gs
 lf:∀ x,x∉bs→(nb gs x).length≤1
theorem Wo.add {ts:List (Int×Int)}{bs ins:List Int}{gs:List (Int×Int)}{p o:Int}(h:Wo ts bs ins gs)(ho:o∈ins)(hob:o∈bs)(hp:p∉ins)(hpb:p∉bs)(hn:p∈nb ts o):Wo ts bs (ins++[p]) (gs++[mm o p]):=by
 refine⟨.add h.G ho hp hn,fun x hx=>?_⟩;rw[dg_add (show o≠p from fun e=>hp (e ▸ ho))];by_cases e:x=p
 ·have:=dg_out h.G hp;rw[e,this,if_pos (.inr rfl)];omega
 ·rw[if_neg (fun z=>z.elim (fun z=>hx (z ▸ hob)) e)];exact h.lf x hx
theorem tree_deg {n:Int}{ts T:List (Int×Int)}(hT:IsTree n ts T)(hok:IsWeb n ts){x:Int}(x0:0≤x)(x1:x<n):1≤(nb T x).length:=by
 have h3:=hok.n3;have hW:=hT.web hok;obtain⟨y,y0,y1,yx⟩:∃ y,0≤y∧y<n∧y≠x:=if h:x=0 then ⟨1,by omega,by omega,by omega⟩ else ⟨0,by omega,by omega,fun e=>h e.symm⟩
 have r:=hW.reach x0 x1 y0 y1;have:∀ z,Rch T (·∈rInts 0 n.toNat) x z→z≠x→∃ v,v∈nb T x:=fun z r=>by
  induction r with
  | base=>exact fun h=>absurd rfl h
  | @step u v r1 hv _ ih =>
   intro _;by_cases hu:u=x
   ·rw[hu] at hv;exact⟨v,hv⟩
   ·exact ih hu
 obtain⟨v,hv⟩:=this y r yx;exact List.length_pos_of_mem hv
def outs (ts:List (Int×Int))(L:List Int)(a:Int):List (List Int):=((nb ts a).filter fun b=>decide (b∈L)).map fun b=>[a,b]
def inv_lo1 (H:Hp)(d np pb li lt:Addr)(st:V)(ts:List (Int×Int))(bs:List Int)(m:Nat)(σ:St)(Hc:Hp):Prop:=∃ (c6 c7 c8 c9 c10:Option V) (ins:List Int) (ps:List (Addr×List Int)) (gs:List (Int×Int)),σ=[some (.ref d),some (.ref np),some (.ref pb),some st,some (.ref li),some (.ref lt),c6,c7,c8,c9,c10,none]∧Kp d H Hc∧DkAt Hc d∧Hc li=some (.lst (ins.map V.int))∧Hc lt=some (.lst (ps.map fun x=>V.ref x.1))∧PsAt Hc ps gs∧Grow ts ins gs∧(∀ x∈ins,x∈bs)∧m=bs.length-ins.length
def inv_lo2 (Hb:Hp)(d np pb li lt ll:Addr)(st:V)(c6 c10:Option V)(ts:List (Int×Int))(L ins:List Int)(i:Nat)(σ:St)(Hc:Hp):Prop:=∃ (c9:Option V) (lr:Addr) (qs:List (Addr×List Int)),σ=[some (.ref d),some (.ref np),some (.ref pb),some st,some (.ref li),some (.ref lt),c6,some (.ref ll),some (.ref lr),c9,c10,none]∧Same Hb Hc∧Hb lr=none∧LlAt Hc lr qs∧qs.map (·.2)=(ins.take i).flatMap (outs ts L)
def inv_lo3 (Hb:Hp)(ll l:Addr)(L row:List Int)(a:Int)(i:Nat)(τ:St)(Hc:Hp):Prop:=∃ (c:Option V) (qs:List (Addr×List Int)),τ=[c,some (.int a),some (.ref ll)]∧Same Hb Hc∧LlAt Hc l qs∧qs.map (·.2)=((row.take i).filter fun b=>decide (b∈L)).map fun b=>[a,b]
def inv_lo4 (H:Hp)(d np pb li lt:Addr)(st:V)(c7 c8 c9:Option V)(ts:List (Int×Int))(bs ins:List Int)(i:Nat)(σ:St)(Hc:Hp):Prop:=∃ (c6 c10 c11:Option V) (ps:List (Addr×List Int)) (gs:List (Int×Int)),σ=[some (.ref d),some (.ref np),some (.ref pb),some st,some (.ref li),some (.ref lt),c6,c7,c8,c9,c10,c11]∧Kp d H Hc∧DkAt Hc d∧Hc lt=some (.lst (ps.map fun x=>V.ref x.1))∧PsAt Hc ps gs∧Wo ts bs (ins++(rInts 0 i).filter fun x=>!decide (x∈bs)) gs
theorem sc_ltof:FnScope ["_law_deck_here","_law_near_here","_law_busy","_law_start","_law_inside","_law_ties","_law_other","_law_left","_law_ready","_law_k","_law_place","_law_some"] ["_law_deck_here","_law_near_here","_law_busy"] (defScope (top 47)):=by walk_at "s"
theorem ok_ltof (F:Fun K "_law_tree_of" "_law_tree_of" (top 47) f fd)(B:Bt mg)(D1:Df K mg "_law_next" st1 f1 fd1 ["_law_deck_here"])(G1:FnOk P w K mg base CX0 1 f1 fd1 ["_law_deck_here"] sp_next):FnOk P w K mg base CX0 2 f fd ["_law_deck_here","_law_near_here","_law_busy"] (sp_ltof K):=by
 refine F.ok sc_ltof (fun vs H Q E h=>?_) (fun cdv A outer s H vs Q E hr h=>?_)
 ·walk_at "h"
 ·obtain⟨d,np,as,n,ts,pb,bs,rfl,dk,hR,dnp,das,hok,hpb,hbs,hbr,hB,q⟩:=h;have nd:=sc_ltof.nd;have hu:=hu_of hr
  refine⟨_,(pss_cons (ps_set (i:=3) nd rfl (.inl rfl) (pe_ix (ix_tupK K) (pv 2) (pe_op op_mod (pe_own G1 D1 hr.m (pa_cons (pv 0) pa_nil)) (pe_callB (lenK K) (by rfl) B.len PySem.boot_len (pa_cons (pv 2) pa_nil))) (fun _ _=>rfl)))
    (pss_cons (ps_set (i:=4) nd rfl (.inr rfl) (pe_lst (pa_cons (pv 3) pa_nil)))
    (pss_cons (ps_set (i:=5) nd rfl (.inl rfl) (pe_lst pa_nil))
    (pss_cons (ps_while PassesOwn.never (pt_cmpR op_lt (pe_callB (lenK K) (by rfl) B.len PySem.boot_len (pa_cons (pv 4) pa_nil)) (pe_callB (lenK K) (by rfl) B.len PySem.boot_len (pa_cons (pv 2) pa_nil)) (nomark _))
     (pss_cons (ps_set (i:=7) nd rfl (.inr rfl) (pe_lcomp (own:=["_law_other"]) (fr:=[("_law_inside",4)]) rfl (by walk_at "w") (frOk_cons rfl rfl frOk_nil) (pi_tupK K (pv 2)) ⟨fun _ _ _ _=>⟨(pg_name (i:=0) (show List.Nodup (["_law_other","_law_inside"]:List Str) by decide +kernel) rfl (.inl rfl)),(pts_one (pt_cmpR (notIn_seqK K) (pv 0) (pv 1) (by walk_at "w"))),(pv 0)⟩⟩))
     (pss_cons (ps_set (i:=8) nd rfl (.inl rfl) (pe_lst pa_nil))
     (pss_cons (ps_for PassesOwn.never rfl (pi_listK K (pv 4)) (pg_name (i:=9) nd rfl (.inr rfl))
      (pss_one (ps_set (i:=8) nd rfl (.inl rfl) (pe_op op_cat (pv 8) (pe_lcomp (own:=["_law_other"]) (fr:=[("_law_k",9),("_law_left",7)]) rfl (by walk_at "w") (frOk_cons rfl rfl (frOk_cons rfl rfl frOk_nil)) (pi_listK K (pe_ix (ix_listK K) (pv 1) (pv 9) (fun _ _=>rfl))) ⟨fun _ _ _ _=>⟨(pg_name (i:=0) (show List.Nodup (["_law_other","_law_k","_law_left"]:List Str) by decide +kernel) rfl (.inl rfl)),(pts_one (pt_cmpR (in_seqK K) (pv 0) (pv 2) (by walk_at "w"))),(pe_tup (pa_cons (pv 1) (pa_cons (pv 0) pa_nil)))⟩⟩)))))
     (pss_cons (ps_asg (pe_ix (ix_listK K) (pv 8) (pe_op op_mod (pe_own G1 D1 hr.m (pa_cons (pv 0) pa_nil)) (pe_callB (lenK K) (by rfl) B.len PySem.boot_len (pa_cons (pv 8) pa_nil))) (fun _ _=>rfl)) (pg_tupK K (n:=2) rfl (pgs_cons (pg_name (i:=10) nd rfl (.inl rfl)) (pgs_cons (pg_name (i:=6) nd rfl (.inl rfl)) pgs_nil))))
     (pss_cons (ps_expr (appendK K (pv 4) (pa_cons (pv 6) pa_nil)))
     (pss_one (ps_expr (appendK K (pv 5) (pa_cons (pe_tup (pa_cons (pe_callB (call_min2 rfl) (by rfl) B.min boot_min (pa_cons (pv 10) (pa_cons (pv 6) pa_nil))) (pa_cons (pe_callB (call_max2 rfl) (by rfl) B.max boot_max (pa_cons (pv 10) (pa_cons (pv 6) pa_nil))) pa_nil))) pa_nil))))))))))
    (pss_cons (ps_for PassesOwn.never rfl (pi_range1 (by rfl) B.range (pa_cons (pe_callB (lenK K) (by rfl) B.len PySem.boot_len (pa_cons (pv 1) pa_nil)) pa_nil)) (pg_name (i:=10) nd rfl (.inl rfl))
     (pss_one (ps_if (pt_cmpR (notIn_seqK K) (pv 10) (pv 2) (by walk_at "w"))
      (pss_cons (ps_setLC (i:=11) (own:=["_law_other"]) (fr:=[("_law_busy",2)]) rfl nd rfl rfl (by walk_at "w") (by walk_at "w") (frOk_cons rfl rfl frOk_nil) (pi_listK K (pe_ix (ix_listK K) (pv 1) (pv 10) (fun _ _=>rfl))) ⟨fun _ _ _ _=>⟨(pg_name (i:=0) (show List.Nodup (["_law_other","_law_busy"]:List Str) by decide +kernel) rfl (.inl rfl)),(pts_one (pt_cmpR (in_seqK K) (pv 0) (pv 1) (by walk_at "w"))),(pv 0)⟩⟩)
      (pss_cons (ps_set (i:=6) nd rfl (.inl rfl) (pe_ix (ix_listK K) (pv 11) (pe_op op_mod (pe_own G1 D1 hr.m (pa_cons (pv 0) pa_nil)) (pe_callB (lenK K) (by rfl) B.len PySem.boot_len (pa_cons (pv 11) pa_nil))) (fun _ _=>rfl)))
      (pss_one (ps_expr (appendK K (pv 5) (pa_cons (pe_tup (pa_cons (pe_callB (call_min2 rfl) (by rfl) B.min boot_min (pa_cons (pv 10) (pa_cons (pv 6) pa_nil))) (pa_cons (pe_callB (call_max2 rfl) (by rfl) B.max boot_max (pa_cons (pv 10) (pa_cons (pv 6) pa_nil))) pa_nil))) pa_nil))))))
      pss_nil)))
    (pss_one (ps_ret (pe_callTy (tupleK K) (by rfl) B.tuple boot_tuple (pa_cons (pe_callB (sortedTK K) (by rfl) B.sorted boot_sorted (pa_cons (pv 5) pa_nil)) pa_nil))))))))),?_⟩
  simp only[L2.start,st0,List.map_cons,List.map_nil,List.length_cons,List.length_nil,List.replicate,List.cons_append,List.nil_append,Nat.reduceAdd,Nat.reduceSub];walk_at "rd";have h3:=hok.n3;have h60:=hok.n60;have hl:=hok.len;have hnd:=rising_nd hbs;have hbl:=nd_len hnd hbr;have hne:=hB.1.1;have hbp:=List.length_pos_iff.mpr hne;refine next_use dk fun z1 H1 k1 d1 _=>?_
  have hpb1:=k1.tp dk _ _ hpb;obtain⟨u,hu,eu⟩:=atI_in (xs:=bs) (i:=z1 % (bs.length:Int)) (Int.emod_nonneg z1 (by omega)) (Int.emod_lt_of_pos z1 (by omega));refine⟨_,.inr (SqT.of hpb1),z1,rfl,by rw[List.length_map];omega,_,SqT.of hpb1,_,by rw[List.length_map];exact eu,by decide,fun li m2=>fresh_of m2 fun H2 s2 e2=>⟨by decide,fun lt m3=>fresh_of m3 fun H3 s3 e3=>?_⟩⟩;have s23:=s2.trans s3;have d3:=d1.same s23;have k3:Kp d H H3:=k1.trans s23.kp;have lid:li≠d:=d1.ne m2;have ltd:lt≠d:=(d1.same s2).ne m3;have lilt:li≠lt:=ne_of_none e2 m3;have nli0:H li=none:=k1.free d1 m2;have nlt0:H lt=none:=(k1.trans s2.kp).free (d1.same s2) m3;refine⟨inv_lo1 H d np pb li lt (.int u) ts bs,⟨_,none,none,none,none,none,[u],[],[],rfl,k3,d3,s3 _ _ e2,e3,⟨fun x hx=>(by cases hx),rfl⟩,.one u,fun x hx=>by rw[List.mem_singleton.mp hx];exact hu,rfl⟩,?_⟩;rintro m σ Hc ⟨c6,c7,c8,c9,c10,ins,ps,gs,rfl,kc,dc,hli,hlt,hps,G,hsub,rfl⟩;have hRc:=hR.kp kc dnp das;have hpbc:=kc.tp dk _ _ hpb;have hil:=nd_sub G.nd hsub;have hgl:=G.len;have hpl:=hps.len;have hirg:∀ x∈ins,0≤x∧x<n:=fun x hx=>hbr x (hsub x hx)
  obtain⟨x0,hx0⟩:=List.exists_mem_of_length_pos (l:=ins) (by omega);walk_at "rd";refine⟨_,.inl (SqL.of hli),_,.inr (SqT.of hpbc),?_⟩;rw[List.length_map,List.length_map];refine ite2 (fun hlt0=>?_) fun hge0=>?_
  ·have hlt1:ins.length<bs.length:=by have:=of_decide_eq_true hlt0;omega
   refine⟨inv_lo1 H d np pb li lt (.int u) ts bs (bs.length-(ins.length+1)),fun σ' H' z=>⟨_,by omega,z⟩,?_⟩;refine⟨⟨_,SqT.of hpbc⟩,fun ll m4=>lc_tupF V.int (fun y=>!decide (y∈ins)) V.int (by omega) (SqT.of hpbc) m4 ?_ ?_⟩
   ·intro y hy v ys R hys hR1 hR2;have sm:Same Hc (upd Hc ll (.lst ys)):=(Same.refl Hc).upd m4;walk_at "rd";exact notin_use (.inl (SqL.of (sm _ _ hli))) ⟨_,rfl,turn_ite rfl hys (by omega) hR1 hR2⟩
   have hLm:∀ x,x∈(bs.filter fun y=>!decide (y∈ins))↔x∈bs∧x∉ins:=fun x=>by rw[List.mem_filter];simp
   generalize (bs.filter fun y=>!decide (y∈ins))=L at hLm ⊢;refine fresh_of m4 fun H4 s4 e4=>⟨by decide,fun lr m5=>fresh_of m5 fun H5 s5 e5=>?_⟩
   have s45:=s4.trans s5;have d5:=dc.same s45;have R5:=hRc.same s45;have hnbl:∀ x,(nb ts x).length≤60:=fun x=>by
    have:=nd_len (rising_nd (nb_lt hok.rng hok.srt x)) fun y hy=>⟨(nb_rng hok.rng hy).1,(nb_rng hok.rng hy).2.1⟩
    omega
   have hol:∀ l:List Int,(l.flatMap (outs ts L)).length≤60*l.length:=fun l=>by
    induction l with
    | nil=>exact Nat.le_refl _
    | cons a r ih =>
     rw[List.flatMap_cons,List.length_append,List.length_cons];have h1:(outs ts L a).length≤(nb ts a).length:=by unfold outs;rw[List.length_map];exact List.length_filter_le _ _
     have:=hnbl a;omega
   rw[tFor_eq];walk_at "rd";refine⟨⟨_,SqL.of (s45 _ _ hli)⟩,for_list (K:=K) (xs:=ins.map V.int) (inv_lo2 H4 d np pb li lt ll (.int u) c6 c10 ts L ins) ⟨_,lr,[],rfl,s5,m5,⟨e5,fun x hx=>(by cases hx)⟩,rfl⟩ ?_ ?_ ?_⟩
   ·rintro i σ Hd _ ⟨_,_,_,rfl,sd,_⟩;exact SqL.of (sd _ _ (s4 _ _ hli))
   ·rintro i v σ Hd hv ⟨c9,lr,qs,rfl,sd,nlr,Lq,hq⟩;rw[List.getElem?_map] at hv;obtain⟨a,ha,rfl⟩:=Option.map_eq_some_iff.mp hv;obtain⟨a0,a1⟩:=hirg a (List.mem_of_getElem? ha);have hin:=(List.getElem?_eq_some_iff.mp ha).1;have Rd:=(hRc.same s4).same sd;obtain⟨ra,_,g2,g3,_⟩:=Rd.get a0 (rowsOf_get a0 a1);have hql:qs.length≤3600:=by
     have h1:=congrArg List.length hq;have h2:=hol (ins.take i);rw[List.length_map] at h1;rw[List.length_take] at h2;omega
    have hna:=hnbl a;walk_at "rd";refine⟨_,SqL.of Rd.top,_,g2,ra,rfl,⟨_,SqL.of g3⟩,fun l6 m6=>lc_list (K:=K) (xs:=(nb ts a).map V.int) (inv_lo3 Hd ll l6 L (nb ts a) a) ⟨none,[],rfl,(Same.refl Hd).upd m6,⟨upd_same,fun x hx=>(by cases hx)⟩,rfl⟩ ?_ ?_ ?_⟩
    ·rintro j τ He _ ⟨_,_,rfl,se,_⟩;exact SqL.of (se _ _ g3)
    ·rintro j v τ He hv ⟨c,rs,rfl,se,Lr,hr2⟩ _;rw[List.getElem?_map] at hv;obtain⟨b,hb,rfl⟩:=Option.map_eq_some_iff.mp hv;have hjl:=(List.getElem?_eq_some_iff.mp hb).1;have hrl:rs.length≤60:=by
      have h1:=congrArg List.length hr2;rw[List.length_map,List.length_map] at h1;have h2:=List.length_filter_le (fun b=>decide (b∈L)) ((nb ts a).take j);rw[List.length_take] at h2;omega
     walk_at "rd";refine in_use (.inl (SqL.of ((sd.trans se) _ _ e4))) ⟨_,rfl,ite2 (fun h=>?_) fun h=>⟨_,rs,rfl,se,Lr,?_⟩⟩
     ·refine⟨by decide,fun t mt=>fresh_of mt fun Hf sf ef=>?_⟩;have Lf:LlAt Hf l6 rs:=Lr.tp sf.tp (sf _ _ Lr.top);refine⟨_,Lf.top,by rw[List.length_map];exact sizeBig (by omega),_,rs++[(t,[a,b])],rfl,(se.trans sf).upd m6,Lf.snoc (l:=[a,b]) ef,?_⟩;rw[take_snoc hb,List.filter_append,fil_pos (fun b=>decide (b∈L)) h,List.map_append,List.map_append,hr2];rfl
     ·rw[take_snoc hb,List.filter_append,fil_neg (fun b=>decide (b∈L)) h,List.append_nil];exact hr2
    ·rintro τ He ⟨c,rs,rfl,se,Lr,hr2⟩;rw[List.length_map,List.take_length] at hr2;have hrl:rs.length≤60:=by
      have h1:=congrArg List.length hr2;rw[List.length_map,List.length_map] at h1;have h2:=List.length_filter_le (fun b=>decide (b∈L)) (nb ts a);omega
     refine catL_use (se _ _ Lq.top) Lr.top (by rw[List.length_map,List.length_map];omega) fun l7 Hf n7 sf ef=>⟨_,l7,qs++rs,rfl,(sd.trans se).trans sf,sd.free (se.free n7),⟨by rw[List.map_append];exact ef,fun x hx=>?_⟩,?_⟩
     ·rcases List.mem_append.mp hx with hx | hx
      ·exact (se.trans sf) _ _ (Lq.row x hx)
      ·exact sf _ _ (Lr.row x hx)
     ·rw[take_snoc ha,List.flatMap_append,List.map_append,hq,hr2,List.flatMap_cons,List.flatMap_nil,List.append_nil];rfl
   ·rintro σ H6 ⟨c9,lr,qs,rfl,s6,nlr,Lq,hq⟩;rw[List.length_map,List.take_length] at hq;have d6:=(dc.same s4).same s6;have k6:Kp d Hc H6:=(s4.trans s6).kp;have lrd:lr≠d:=(dc.same s4).ne nlr;obtain⟨x1,hx1,hx2⟩:∃ x∈bs,x∉ins:=Classical.byContradiction fun hno=>by
     have:=nd_sub hnd (l:=ins) fun x hx=>Classical.byContradiction fun h=>hno ⟨x,hx,h⟩
     omega
    obtain⟨a1,ha1,b1,hb1,hbb,hbi⟩:=hng_open hB.1 hx0 hsub hx1 hx2;have hmem:∀ l,l∈qs.map (·.2)↔∃ a∈ins,∃ b∈nb ts a,(b∈bs∧b∉ins)∧l=[a,b]:=fun l=>by
     rw[hq,List.mem_flatMap];constructor
     ·rintro⟨a,ha,hl⟩;obtain⟨b,hb,rfl⟩:=List.mem_map.mp hl;obtain⟨h1,h2⟩:=List.mem_filter.mp hb;exact⟨a,ha,b,h1,(hLm b).mp (of_decide_eq_true h2),rfl⟩
     ·rintro⟨a,ha,b,hb,h2,rfl⟩;exact⟨a,ha,List.mem_map.mpr ⟨b,List.mem_filter.mpr ⟨hb,decide_eq_true ((hLm b).mpr h2)⟩,rfl⟩⟩
    have hq0:0<qs.length:=by
     have:=List.length_pos_of_mem ((hmem [a1,b1]).mpr ⟨a1,ha1,b1,hb1,⟨hbb,hbi⟩,rfl⟩)
     rwa [List.length_map] at this
    walk_at "rd";refine next_use d6 fun z2 H7 k7 d7 _=>?_
    have eq7:=k7 _ _ lrd Lq.top;obtain⟨v,hv,ev⟩:=pick_mod (xs:=qs.map fun x=>V.ref x.1) (by rw[List.length_map];exact hq0) z2;obtain⟨x,hx,rfl⟩:=List.mem_map.mp hv;obtain⟨a,ha,b,hb,⟨hbB,hbI⟩,exl⟩:=(hmem x.2).mp (List.mem_map.mpr ⟨x,hx,rfl⟩);have ex7:=k7.tp d6 _ _ (Lq.row x hx);rw[exl] at ex7;have hli7:=(k6.trans k7) _ _ lid hli;refine⟨_,.inl (SqL.of eq7),z2,rfl,by rw[List.length_map];omega,_,SqL.of eq7,_,ev,_,rfl,_,SqT.of ex7,rfl,_,_,rfl,_,_,rfl,rfl,.inl ⟨rfl,_,SqL.of hli7⟩,_,hli7,by rw[List.length_map];exact sizeBig (by omega),?_⟩;have kc7:Kp d Hc H7:=k6.trans k7;have hlt7:=kc7 _ _ ltd hlt;have hltA:(upd H7 li (.lst (ins.map V.int++[V.int b]))) lt=some (.lst (ps.map fun x=>V.ref x.1)):=by rw[upd_ne lilt.symm];exact hlt7
    refine⟨.inl ⟨rfl,_,SqL.of hltA⟩,a,b,⟨rfl,rfl⟩,a,b,⟨rfl,rfl⟩,by decide,fun tp ntp=>?_⟩;have ntp':H7 tp=none:=of_upd_none ntp;have litp:li≠tp:=ne_of_none (upd_same (o:=.lst (ins.map V.int++[V.int b]))) ntp;have lttp:lt≠tp:=ne_of_none hltA ntp;refine⟨_,at_new hltA ntp,by rw[List.length_map];exact sizeBig (by omega),_,_,_,_,_,ins++[b],ps++[(tp,tl (mm a b))],gs++[mm a b],rfl,(((kc.trans kc7).new nli0).new ((kc.trans kc7).free d7 ntp')).new nlt0,((d7.new lid).new (d7.ne ntp')).new ltd,by rw[upd_ne lilt,upd_ne litp,upd_same,List.map_append];rfl,by rw[upd_same,List.map_append];rfl,?_,.add G ha hbI hb,fun x hx=>?_,by rw[List.length_append];rfl⟩
    ·refine (hps.tp ?_).snoc (by rw[upd_ne lttp.symm,upd_same];rfl);exact (((kc7.tp dc).trans (Tp.lst hli7)).trans (Tp.nw ntp)).trans (Tp.lst (at_new hltA ntp))
    ·rcases List.mem_append.mp hx with hx | hx
     ·exact hsub x hx
     ·rw[List.mem_singleton.mp hx];exact hbB
  ·have hge1:bs.length≤ins.length:=by
    rcases Nat.lt_or_ge ins.length bs.length with h | h
    ·exact absurd (decide_eq_true (by omega)) hge0
    ·exact h
   have hall:∀ x∈bs,x∈ins:=fun x hx=>Classical.byContradiction fun h=>by
    have h5:=nd_sub (l:=bs) (List.nodup_cons.mpr ⟨h,G.nd⟩) fun y hy=>by
     rcases List.mem_cons.mp hy with rfl | hy
     ·exact hx
     ·exact hsub y hy
    rw[List.length_cons] at h5;omega
   have hnl:((as.map V.ref).length:Int)=n:=by rw[List.length_map,hR.len,rowsOf_len];omega
   rw[tFor_eq];walk_at "rd";refine⟨_,.inl (SqL.of hRc.top),by omega,by omega,?_⟩;rw[hnl];refine for_range (lo:=0) (n:=n.toNat) (inv_lo4 H d np pb li lt (.int u) c7 c8 c9 ts bs ins) ⟨_,_,_,ps,gs,rfl,kc,dc,hlt,hps,?_⟩ ?_ ?_
   ·rw[show (rInts 0 0).filter (fun x=>!decide (x∈bs))=[] from rfl,List.append_nil];exact⟨G,fun x hx=>by rw[dg_out G fun h=>hx (hsub x h)];exact Nat.zero_le _⟩
   ·rintro i σ Hd hi ⟨c6,c10,c11,ps,gs,rfl,kd,dd,hlt,hps,W⟩;have hin:i<n.toNat:=hi;have Rd:=hR.kp kd dnp das;have hpbd:=kd.tp dk _ _ hpb;have hgl:=W.G.len;have hpl:=hps.len;have hins:(ins++(rInts 0 i).filter fun x=>!decide (x∈bs)).length≤60:=by
     have:=nd_len (n:=n) W.G.nd fun x hx=>by
      rcases List.mem_append.mp hx with hx | hx
      ·exact hirg x hx
      ·have:=mem_rInts.mp (List.mem_filter.mp hx).1;exact⟨this.1,by omega⟩
     omega
    walk_at "rd";refine notin_use (.inr (SqT.of hpbd)) ⟨_,rfl,ite2 (fun h=>?_) fun h=>?_⟩
    ·have hpn:(0+(i:Int))∉bs:=by simpa using h
     have p0:(0:Int)≤0+(i:Int):=by omega
     have p1:0+(i:Int)<n:=by omega
     obtain⟨ra,_,g2,g3,_⟩:=Rd.get p0 (rowsOf_get p0 p1);have hnbl:(nb ts (0+(i:Int))).length≤60:=by
      have:=nd_len (rising_nd (nb_lt hok.rng hok.srt (0+(i:Int)))) fun y hy=>⟨(nb_rng hok.rng hy).1,(nb_rng hok.rng hy).2.1⟩
      omega
     refine⟨_,SqL.of Rd.top,_,g2,ra,rfl,⟨_,SqL.of g3⟩,fun r mr=>lc_listF V.int (fun x=>decide (x∈bs)) V.int (by omega) (SqL.of g3) mr ?_ ?_⟩
     ·intro y hy v ys R hys hR1 hR2;have sm:Same Hd (upd Hd r (.lst ys)):=(Same.refl Hd).upd mr;walk_at "rd";exact in_use (.inr (SqT.of (sm _ _ hpbd))) ⟨_,rfl,turn_ite rfl hys (by omega) hR1 hR2⟩
     refine fresh_of mr fun He se ee=>?_
     have de:=dd.same se;have rd':r≠d:=dd.ne mr;obtain⟨y,y1,y2⟩:=hB.2 _ p0 p1 hpn;have hs0:0<((nb ts (0+(i:Int))).filter fun x=>decide (x∈bs)).length:=List.length_pos_of_mem (List.mem_filter.mpr ⟨y1,decide_eq_true y2⟩);refine next_use de fun z2 Hf kf df _=>?_
     have ef:=kf _ _ rd' ee;obtain⟨v,hv,ev⟩:=pick_mod (xs:=((nb ts (0+(i:Int))).filter fun x=>decide (x∈bs)).map V.int) (by rw[List.length_map];exact hs0) z2;obtain⟨o,ho,rfl⟩:=List.mem_map.mp hv;obtain⟨ho1,ho2⟩:=List.mem_filter.mp ho;have ho2:=of_decide_eq_true ho2;have kf2:Kp d Hd Hf:=se.kp.trans kf;have hltf:=kf2 _ _ ltd hlt;refine⟨_,.inl (SqL.of ef),z2,rfl,by rw[List.length_map];omega,_,SqL.of ef,_,ev,.inl ⟨rfl,_,SqL.of hltf⟩,_,_,⟨rfl,rfl⟩,_,_,⟨rfl,rfl⟩,by decide,fun tp ntp=>?_⟩;have hltg:(upd Hf tp (.tup [V.int (if o<0+(i:Int) then o else 0+(i:Int)),V.int (if o>0+(i:Int) then o else 0+(i:Int))])) lt=some (.lst (ps.map fun x=>V.ref x.1)):=at_new hltf ntp;have hop:o≠0+(i:Int):=fun e=>hpn (e ▸ ho2)
     have kdf:=kd.trans kf2;refine⟨_,hltg,by rw[List.length_map];exact sizeBig (by omega),_,_,_,ps++[(tp,tl (mm (0+(i:Int)) o))],gs++[mm (0+(i:Int)) o],rfl,(kdf.new (kdf.free df ntp)).new nlt0,(df.new (df.ne ntp)).new ltd,by rw[upd_same,List.map_append];rfl,?_,?_⟩
     ·refine PsAt.snoc ((hps.tp (kf2.tp dd)).tp ((Tp.nw ntp).trans (Tp.lst hltg))) ?_;rw[upd_ne (ne_of_none hltf ntp).symm,upd_same];rfl
     ·rw[rInts_succ,List.filter_append,fil_pos (fun x=>!decide (x∈bs)) h,← List.append_assoc,mm_comm hop.symm];refine W.add (List.mem_append_left _ (hall o ho2)) ho2 (fun hm=>?_) hpn ((nb_sym hok.rng).mp ho1);rcases List.mem_append.mp hm with hm | hm
      ·exact hpn (hsub _ hm)
      ·have:=mem_rInts.mp (List.mem_filter.mp hm).1;omega
    ·refine⟨_,_,_,ps,gs,rfl,kd,dd,hlt,hps,?_⟩;rw[rInts_succ,List.filter_append,fil_neg (fun x=>!decide (x∈bs)) h,List.append_nil];exact W
   ·rintro σ Hd ⟨c6,c10,c11,ps,gs,rfl,kd,dd,hlt,hps,W⟩;have hrg:∀ x∈ins++(rInts 0 n.toNat).filter (fun x=>!decide (x∈bs)),0≤x∧x<n:=fun x hx=>by
     rcases List.mem_append.mp hx with hx | hx
     ·exact hirg x hx
     ·have:=mem_rInts.mp (List.mem_filter.mp hx).1;exact⟨this.1,by omega⟩
    have hl1:=nd_len (n:=n) W.G.nd hrg;have hl2:=nd_sub (rising_nd (rInts_lt n.toNat)) (l:=ins++(rInts 0 n.toNat).filter (fun x=>!decide (x∈bs))) fun x hx=>by
     by_cases hb:x∈bs
     ·exact List.mem_append_left _ (hall x hb)
     ·exact List.mem_append_right _ (List.mem_filter.mpr ⟨hx,by simpa using hb⟩)
    rw[rInts_length] at hl2;have hgl:=W.G.len;have hpl:=hps.len;walk_at "rd";refine⟨ps,hps.src hlt (by omega),fun ps' l2 pm hs nl2=>?_⟩;obtain⟨us',pu,hps'⟩:=hps.perm pm;refine fresh_of nl2 fun He se ee=>⟨_,.inl ⟨SqL.of ee,fun l3 n3=>fresh_of n3 fun Hf sf ef=>?_⟩⟩
    have hT:=grow_tree W.G hok.rng (by omega) hrg pu (hps'.srt hs);have ddf:=dd.same (se.trans sf);refine q l3 us' Hf (kd.trans (se.trans sf).kp) ddf ⟨ps',ef,hps'.tp (se.trans sf).tp⟩ hT fun x x0 x1 hx=>?_
    have h1:=W.lf x hx;have h2:(nb us' x).length=(nb gs x).length:=by unfold nb;exact (pu.filterMap _).length_eq
    have h3':=tree_deg hT hok x0 x1;omega
def sp_good36 (K:PySem.W.Frag):Sp:=fun vs H Q _=>∃ (d w np:Addr) (as:List Addr) (n:Int) (ts:List (Int×Int)) (pb:Addr) (bs:List Int) (b0:Bool),vs=[.ref d,.ref w,.ref np,.ref pb,.bl b0]∧DkAt H d∧WebAt H w n ts∧IsWeb n ts∧RowsAt H np as (rowsOf n ts)∧d≠np∧d∉as∧H pb=some (.tup (bs.map V.int))∧bs.Pairwise (·<·)∧(∀ x∈bs,0≤x∧x<n)∧Busy n ts bs∧(b0=true↔∀ p∈bs,¬ Busy n ts (lessOf bs p)) ∧
 ∀ H',Kp d H H'→DkAt H' d→Q (.bl true) H'
def Nn (H:Hp)(n:Int)(ts:List (Int×Int))(bs:List Int)(ys:List Addr):Prop:=∀ (j:Nat) y p,ys[j]?=some y→bs[j]?=some p→NdX H y∧(¬ Busy n ts (lessOf bs p)→NeedAt H n ts bs p (.ref y))
theorem Nn.tp {H H':Hp}{n:Int}{ts:List (Int×Int)}{bs:List Int}{ys:List Addr}(h:Nn H n ts bs ys)(t:Tp H H'):Nn H' n ts bs ys:=fun j y p h1 h2=>⟨(h j y p h1 h2).1.tp t,fun hL=>((h j y p h1 h2).2 hL).tp t⟩
theorem ndx_ndf {H:Hp}{t:Addr}(h:NdX H t):NdF H (.ref t)∧∃ T,Pl H (.ref t) T:=by
 rcases h with ⟨x,e⟩ | ⟨a,l,e,e2,hl⟩
 ·exact⟨ndf_at e w1_own (.int x) fun a e=>(by cases e),_,.tup e⟩
 ·exact⟨ndf_tup e w1_parts e2 (by omega),_,.tup e⟩
theorem nn_all {H:Hp}{n:Int}{ts:List (Int×Int)}{bs:List Int}{ys:List Addr}(h:Nn H n ts bs ys)(hl:ys.length=bs.length){y:Addr}(hy:y∈ys):NdX H y:=by
 obtain⟨j,hj,e⟩:=List.getElem_of_mem hy;exact (h j y bs[j] (by rw[List.getElem?_eq_getElem hj,e]) (List.getElem?_eq_getElem (by omega))).1
theorem nds_lean {H:Hp}{n:Int}{ts:List (Int×Int)}{bs:List Int}{v:V}(h:IsNds H n ts bs v):∀ p∈bs,¬ Busy n ts (lessOf bs p):=fun p hp=>by
 obtain⟨t,xs,_,_,hl,h⟩:=h;obtain⟨j,hj,e⟩:=List.getElem_of_mem hp;exact need_less (h j xs[j] p (List.getElem?_eq_getElem (by omega)) (by rw[List.getElem?_eq_getElem hj,e]))
def inv_gn (Hb:Hp)(l pb d np:Addr)(n:Int)(ts:List (Int×Int))(bs:List Int)(i:Nat)(τ:St)(Hc:Hp):Prop:=∃ (c:Option V) (ys:List Addr),τ=[c,some (.ref pb),some (.ref d),some (.ref np)]∧Kp d Hb Hc∧DkAt Hc d∧Hc l=some (.lst (ys.map V.ref))∧ys.length=i∧Nn Hc n ts bs ys
def inv_gs (Hb:Hp)(σ0:List (Option V))(c10 c11 c12 c13:Option V)(i:Nat)(σ:St)(Hc:Hp):Prop:=∃ c9:Option V,σ=σ0++[c9,c10,c11,c12,c13]∧Same Hb Hc
def Trs (H:Hp)(n:Int)(ts:List (Int×Int))(bs:List Int)(rs:List (Addr×List (Int×Int))):Prop:=∀ x∈rs,TsAt H x.1 x.2∧IsTree n ts x.2∧∀ y,0≤y→y<n→y∉bs→(nb x.2 y).length=1
def inv_gt (Hb:Hp)(d lt:Addr)(σ0:List (Option V))(n:Int)(ts:List (Int×Int))(bs:List Int)(i:Nat)(σ:St)(Hc:Hp):Prop:=∃ (c12:Option V) (rs:List (Addr×List (Int×Int))),σ=σ0++[some (.ref lt),c12,none]∧Kp d Hb Hc∧DkAt Hc d∧Hc lt=some (.lst (rs.map fun x=>V.ref x.1))∧rs.length=1+i∧Trs Hc n ts bs rs
def inv_gl (Hb:Hp)(σ0:List (Option V))(i:Nat)(σ:St)(Hc:Hp):Prop:=∃ c13:Option V,σ=σ0++[c13]∧Same Hb Hc
theorem sc_good36:FnScope ["_law_deck_here","_law_web_here","_law_near_here","_law_busy","_law_is_lean_here","_law_needs","_law_at","_law_one","_law_bent","_law_thing","_law_told","_law_trees","_law_turn_here","_law_tree"] ["_law_deck_here","_law_web_here","_law_near_here","_law_busy","_law_is_lean_here"] (defScope (top 49)):=by walk_at "s"
theorem ok_good36 (F:Fun K "_law_good" "_law_good" (top 49) f fd)(B:Bt mg)(D1:Df K mg "_law_some_need" st1 f1 fd1 ["_law_deck_here","_law_near_here","_law_busy","_law_place"])(G1:FnOk P w K mg base CX0 2 f1 fd1 ["_law_deck_here","_law_near_here","_law_busy","_law_place"] (sp_sneed K))(D2:Df K mg "_law_next" st2 f2 fd2 ["_law_deck_here"])(G2:FnOk P w K mg base CX0 1 f2 fd2 ["_law_deck_here"] sp_next)(D3:Df K mg "_law_bent_need" st3 f3 fd3 ["_law_deck_here","_law_many","_law_busy","_law_need"])(G3:FnOk P w K mg base CX0 2 f3 fd3 ["_law_deck_here","_law_many","_law_busy","_law_need"] (sp_bneed K))(D4:Df K mg "right_needs" st4 f4 fd4 ["web","busy","thing"])(G4:FnOk P w K mg base CX0 7 f4 fd4 ["web","busy","thing"] (sp_rneedsX K))(D5:Df K mg "lean_of" st5 f5 fd5 ["web","busy","order"])(G5:FnOk P w K mg base CX0 7 f5 fd5 ["web","busy","order"] (sp_leanof K))(D6:Df K mg "tree_by" st6 f6 fd6 ["web","busy"])(G6:FnOk P w K mg base CX0 3 f6 fd6 ["web","busy"] (sp_treeby K))(D7:Df K mg "_law_tree_of" st7 f7 fd7 ["_law_deck_here","_law_near_here","_law_busy"])(G7:FnOk P w K mg base CX0 2 f7 fd7 ["_law_deck_here","_law_near_here","_law_busy"] (sp_ltof K))(D8:Df K mg "leaves_of" st8 f8 fd8 ["tree"])(G8:FnOk P w K mg base CX0 3 f8 fd8 ["tree"] sp_leaves):FnOk P w K mg base CX0 8 f fd ["_law_deck_here","_law_web_here","_law_near_here","_law_busy","_law_is_lean_here"] (sp_good36 K):=by
 refine F.ok sc_good36 (fun vs H Q E h=>?_) (fun cdv A outer s H vs Q E hr h=>?_)
 ·walk_at "h"
 ·obtain⟨d,w0,np,as,n,ts,pb,bs,b0,rfl,dk,hw,hok,hR,dnp,das,hpb,hbs,hbr,hB,hL,q⟩:=h;have nd:=sc_good36.nd;have hu:=hu_of hr
  refine⟨_,(@pss_cons _ _ _ _ _ (ps_set (i:=5) nd rfl (.inl rfl) (pe_callTy (tupleK K) (by rfl) B.tuple boot_tuple (@pa_cons _ _ _ _ _ (pe_lcomp (own:=["_law_place"]) (fr:=[("_law_busy",3),("_law_deck_here",0),("_law_near_here",2)]) rfl (by walk_at "w") (frOk_cons rfl rfl (frOk_cons rfl rfl (frOk_cons rfl rfl frOk_nil))) (pi_tupK K (pv 3)) ⟨fun _ _ _ _=>⟨(pg_name (i:=0) (show List.Nodup (["_law_place","_law_busy","_law_deck_here","_law_near_here"]:List Str) by decide +kernel) rfl (.inl rfl)),pts_nil,(pe_own G1 D1 hr.m (@pa_cons _ _ _ _ _ (pv 2) (@pa_cons _ _ _ _ _ (pv 3) (@pa_cons _ _ _ _ _ (pv 1) (@pa_cons _ _ _ _ _ (pv 0) pa_nil (by rfl)) (by rfl)) (by rfl)) (by rfl)))⟩⟩) pa_nil (by rfl))))
    (@pss_cons _ _ _ _ _ (ps_set (i:=6) nd rfl (.inl rfl) (@pe_op _ _ _ _ _ _ _ _ op_mod (pe_own G2 D2 hr.m (@pa_cons _ _ _ _ _ (pv 0) pa_nil (by rfl))) (pe_callB (lenK K) (by rfl) B.len PySem.boot_len (@pa_cons _ _ _ _ _ (pv 5) pa_nil (by rfl)))))
    (@pss_cons _ _ _ _ _ (ps_set (i:=7) nd rfl (.inl rfl) (pe_own G3 D3 hr.m (@pa_cons _ _ _ _ _ (pv 0) (@pa_cons _ _ _ _ _ (pe_callB (lenK K) (by rfl) B.len PySem.boot_len (@pa_cons _ _ _ _ _ (pv 2) pa_nil (by rfl))) (@pa_cons _ _ _ _ _ (pv 3) (@pa_cons _ _ _ _ _ (@pe_ix _ _ _ _ _ _ _ (ix_tupK K) (pv 5) (pv 6) (fun _ _=>rfl)) pa_nil (by rfl)) (by rfl)) (by rfl)) (by rfl))))
    (@pss_cons _ _ _ _ _ (ps_set (i:=8) nd rfl (.inl rfl) (@pe_op _ _ _ _ _ _ _ _ (catXK K) (@pe_op _ _ _ _ _ _ _ _ (catXK K) (pe_slice (slXK K) (pv 5) po_none (po_some (pv 6))) (@pe_tup _ _ _ _ _ (@pa_cons _ _ _ _ _ (pv 7) pa_nil (by rfl)))) (pe_slice (slXK K) (pv 5) (po_some (@pe_op _ _ _ _ _ _ _ _ op_add (pv 6) pe_int)) po_none)))
    (@pss_cons _ _ _ _ _ (ps_for PassesOwn.never rfl (pi_listK K (@pe_lst _ _ _ _ (@pa_cons _ _ _ _ _ (pv 5) (@pa_cons _ _ _ _ _ (pv 8) pa_nil (by rfl)) (by rfl)))) (pg_name (i:=9) nd rfl (.inl rfl))
     (@pss_one _ _ _ (@ps_if _ _ _ _ _ _ _ _ (PW.pt (pw_and (pt_cmpR op_isNB (pe_own G4 D4 hr.m (@pa_cons _ _ _ _ _ (pv 1) (@pa_cons _ _ _ _ _ (pv 3) (@pa_cons _ _ _ _ _ (pv 9) pa_nil (by rfl)) (by rfl)) (by rfl))) pe_bl (nomark _)) (pw_and1 (pt_not (pt_val (pv 4))))))
      (@pss_one _ _ _ (ps_ret pe_bl))
      pss_nil)))
    (@pss_cons _ _ _ _ _ (@ps_if _ _ _ _ _ _ _ _ (pt_not (pt_val (pv 4)))
     (@pss_one _ _ _ (ps_ret pe_bl))
     pss_nil)
    (@pss_cons _ _ _ _ _ (ps_set (i:=10) nd rfl (.inl rfl) (pe_own G5 D5 hr.m (@pa_cons _ _ _ _ _ (pv 1) (@pa_cons _ _ _ _ _ (pv 3) (@pa_cons _ _ _ _ _ (pv 3) pa_nil (by rfl)) (by rfl)) (by rfl))))
    (@pss_cons _ _ _ _ _ (@ps_if _ _ _ _ _ _ _ _ (pt_cmpR (neDK K hr.units) (@pe_ix _ _ _ _ _ _ _ (ix_tupK K) (pv 10) pe_int (fun _ _=>rfl)) (pv 3) (nomark _))
     (@pss_one _ _ _ (ps_ret pe_bl))
     pss_nil)
    (@pss_cons _ _ _ _ _ (ps_for PassesOwn.never rfl (pi_listK K (@pe_lst _ _ _ _ (@pa_cons _ _ _ _ _ (pv 5) (@pa_cons _ _ _ _ _ (@pe_ix _ _ _ _ _ _ _ (ix_tupK K) (pv 10) pe_int (fun _ _=>rfl)) pa_nil (by rfl)) (by rfl)))) (pg_name (i:=9) nd rfl (.inl rfl))
     (@pss_one _ _ _ (@ps_if _ _ _ _ _ _ _ _ (pt_cmpR op_isNB (pe_own G4 D4 hr.m (@pa_cons _ _ _ _ _ (pv 1) (@pa_cons _ _ _ _ _ (pv 3) (@pa_cons _ _ _ _ _ (pv 9) pa_nil (by rfl)) (by rfl)) (by rfl))) pe_bl (nomark _))
      (@pss_one _ _ _ (ps_ret pe_bl))
      pss_nil)))
    (@pss_cons _ _ _ _ _ (ps_set (i:=11) nd rfl (.inl rfl) (@pe_lst _ _ _ _ (@pa_cons _ _ _ _ _ (pe_own G6 D6 hr.m (@pa_cons _ _ _ _ _ (pv 1) (@pa_cons _ _ _ _ _ (pv 3) pa_nil (by rfl)) (by rfl))) pa_nil (by rfl))))
    (@pss_cons _ _ _ _ _ (ps_for PassesOwn.never rfl (pi_range1 (by rfl) B.range (@pa_cons _ _ _ _ _ pe_int pa_nil (by rfl))) (pg_name (i:=12) nd rfl (.inl rfl))
     (@pss_one _ _ _ (ps_expr (appendK K (pv 11) (@pa_cons _ _ _ _ _ (pe_own G7 D7 hr.m (@pa_cons _ _ _ _ _ (pv 0) (@pa_cons _ _ _ _ _ (pv 2) (@pa_cons _ _ _ _ _ (pv 3) pa_nil (by rfl)) (by rfl)) (by rfl))) pa_nil (by rfl))))))
    (@pss_cons _ _ _ _ _ (ps_for PassesOwn.never rfl (pi_listK K (pv 11)) (pg_name (i:=13) nd rfl (.inl rfl))
     (@pss_one _ _ _ (@ps_if _ _ _ _ _ _ _ _ (pt_cmpR op_ne (pe_callB (lenK K) (by rfl) B.len PySem.boot_len (@pa_cons _ _ _ _ _ (pe_own G8 D8 hr.m (@pa_cons _ _ _ _ _ (pv 13) pa_nil (by rfl))) pa_nil (by rfl))) (@pe_op _ _ _ _ _ _ _ _ op_sub (@pe_ix _ _ _ _ _ _ _ (ix_tupK K) (pv 1) pe_int (fun _ _=>rfl)) (pe_callB (lenK K) (by rfl) B.len PySem.boot_len (@pa_cons _ _ _ _ _ (pv 3) pa_nil (by rfl)))) (nomark _))
      (@pss_one _ _ _ (ps_ret pe_bl))
      pss_nil)))
    (@pss_one _ _ _ (ps_ret pe_bl)))))))))))))),?_⟩
  simp only[L2.start,st0,List.map_cons,List.map_nil,List.length_cons,List.length_nil,List.replicate,List.cons_append,List.nil_append,Nat.reduceAdd,Nat.reduceSub];have h3:=hok.n3;have h60:=hok.n60;have hnd:=rising_nd hbs;have hbl:=nd_len hnd hbr;have hbp:=List.length_pos_iff.mpr hB.1.1;refine seq_rest (fun σ Hc=>∃ (pn:Addr) (ys:List Addr),σ=[some (.ref d),some (.ref w0),some (.ref np),some (.ref pb),some (.bl b0),some (.ref pn),none,none,none,none,none,none,none,none]∧Kp d H Hc∧DkAt Hc d∧Hc pn=some (.tup (ys.map V.ref))∧ys.length=bs.length∧Nn Hc n ts bs ys) (fun R hRR=>?_) ?_
  ·walk_at "rd";refine⟨⟨_,SqT.of hpb⟩,fun l m1=>?_⟩;have ld:l≠d:=dk.ne m1;refine lc_tup (K:=K) (xs:=bs.map V.int) (inv_gn H l pb d np n ts bs) ⟨none,[],rfl,((Same.refl H).upd m1).kp,dk.same ((Same.refl H).upd m1),upd_same,rfl,fun j y p h=>(by cases h)⟩ ?_ ?_ ?_
   ·rintro i τ Hc _ ⟨_,_,rfl,kc,_⟩;exact SqT.of (kc.tp dk _ _ hpb)
   ·rintro i v τ Hc hv ⟨c,ys,rfl,kc,dc,hlc,hyl,hN⟩;rw[List.getElem?_map] at hv;obtain⟨p,hp,rfl⟩:=Option.map_eq_some_iff.mp hv;have hil:=(List.getElem?_eq_some_iff.mp hp).1;walk_at "rd";refine⟨d,np,as,n,ts,pb,bs,p,rfl,dc,hR.kp kc dnp das,dnp,das,hok,kc.tp dk _ _ hpb,hbs,hbr,hB,List.mem_of_getElem? hp,fun t H2 k2 d2 hX hT=>?_⟩;have hl2:=k2 _ _ ld hlc;refine⟨_,hl2,by rw[List.length_map];exact sizeBig (by omega),_,ys++[t],rfl,(kc.trans k2).new m1,d2.new ld,by rw[upd_same,List.map_append];rfl,by rw[List.length_append,List.length_singleton,hyl],fun j y r h1 h2=>?_⟩;rcases Nat.lt_or_ge j ys.length with hj | hj
    ·rw[List.getElem?_append_left hj] at h1;exact (hN.tp ((k2.tp dc).trans (Tp.lst hl2))) j y r h1 h2
    ·have hj0:j=i:=by
      have:=(List.getElem?_eq_some_iff.mp h1).1;rw[List.length_append,List.length_singleton] at this;omega
     subst hj0;rw[List.getElem?_append_right hj,hyl,Nat.sub_self] at h1;cases h1;rw[hp] at h2;cases h2;exact⟨hX.tp (Tp.lst hl2),fun h=>(hT h).tp (Tp.lst hl2)⟩
   ·rintro τ Hc ⟨c,ys,rfl,kc,dc,hlc,hyl,hN⟩;rw[List.length_map] at hyl;exact⟨_,.inl ⟨SqL.of hlc,fun l2 m2=>fresh_of m2 fun H2 s2 e2=>hRR _ _ ⟨l2,ys,rfl,kc.trans s2.kp,dc.same s2,e2,hyl,hN.tp s2.tp⟩⟩⟩
  rintro σ H1 ⟨pn,ys,rfl,k1,d1,e1,hyl,hN1⟩;refine seq_rest (fun σ Hc=>∃ k:Int,σ=[some (.ref d),some (.ref w0),some (.ref np),some (.ref pb),some (.bl b0),some (.ref pn),some (.int k),none,none,none,none,none,none,none]∧Kp d H1 Hc∧DkAt Hc d∧0≤k∧k<bs.length) (fun R hRR=>?_) ?_
  ·walk_at "rd";refine next_use d1 fun z H2 k2 d2 _=>⟨_,.inr (SqT.of (k2.tp d1 _ _ e1)),z,rfl,by rw[List.length_map];omega,hRR _ _ ⟨_,rfl,k2,d2,Int.emod_nonneg z (by rw[List.length_map];omega),?_⟩⟩
   have:=Int.emod_lt_of_pos z (b:=((ys.map V.ref).length:Int)) (by rw[List.length_map];omega);rw[List.length_map] at this ⊢;omega
  rintro σ H2 ⟨k,rfl,k2,d2,k0,kl⟩;have t2:=k2.tp d1;have k02:=k1.trans k2;have t02:=k02.tp dk;have e2:=t2 _ _ e1;have hN2:=hN1.tp t2;have R2:=hR.kp k02 dnp das;have hal:((as.map V.ref).length:Int)=n:=by rw[List.length_map,hR.len,rowsOf_len];omega
  refine seq_rest (fun σ Hc=>∃ (v:V) (T:String),σ=[some (.ref d),some (.ref w0),some (.ref np),some (.ref pb),some (.bl b0),some (.ref pn),some (.int k),some v,none,none,none,none,none,none]∧Kp d H2 Hc∧DkAt Hc d∧Pl Hc v T∧NdF Hc v) (fun R hRR=>?_) ?_
  ·walk_at "rd";obtain⟨v,hv,ev⟩:=at_in (xs:=ys.map V.ref) k0 (by rw[List.length_map];omega);obtain⟨y,hy,rfl⟩:=List.mem_map.mp hv;refine⟨_,.inl (SqL.of R2.top),_,SqT.of e2,_,ev,d,n,pb,bs,y,by rw[hal],d2,by omega,t02 _ _ hpb,by omega,nn_all hN2 hyl hy,fun v T H3 k3 d3 hP hF=>hRR _ _ ⟨v,T,rfl,k3,d3,hP,hF⟩⟩
  rintro σ H3 ⟨v1,T1,rfl,k3,d3,hP3,hF3⟩;have k03:=k02.trans k3;have t23:=k3.tp d2;have t03:=k03.tp dk;have e3:=t23 _ _ e2;have hN3:=hN2.tp t23;have hw3:=hw.tp t03;have R3:=hR.kp k03 dnp das;have hpb3:=t03 _ _ hpb;clear hN2 hN1 e1 e2 R2 t02 t2 t23 k1 k2 k02 d1 d2 k3;refine seq_rest (fun σ Hc=>∃ (p8:Addr) (xs:List V),σ=[some (.ref d),some (.ref w0),some (.ref np),some (.ref pb),some (.bl b0),some (.ref pn),some (.int k),some v1,some (.ref p8),none,none,none,none,none]∧Same H3 Hc∧Hc p8=some (.tup xs)∧∀ z∈xs,NdF Hc z∧∃ T,Pl Hc z T) (fun R hRR=>?_) ?_
  ·walk_at "rd";refine slX_use e3 fun a1 G1 s1 f1=>⟨by decide,fun a2 n2=>fresh_of n2 fun G2 s2 f2=>?_⟩
   obtain⟨c1,ec1,hc1,hl1⟩:=cutX V.ref ys none (some k);rw[ec1] at f1;refine catX_use (s2 _ _ f1) f2 (by rw[List.length_map];show _+1≤10000;omega) fun a3 G3 s3 f3=>slX_use (((s1.trans s2).trans s3) _ _ e3) fun a4 G4 s4 f4=>?_
   obtain⟨c2,ec2,hc2,hl2⟩:=cutX V.ref ys (some (k+1)) none;rw[ec2] at f4;refine catX_use (s4 _ _ f3) f4 (by rw[List.length_append,List.length_map,List.length_map];show _+1+_≤10000;omega) fun a5 G5 s5 f5=>?_
   have s35:=((s1.trans s2).trans s3).trans (s4.trans s5);have hold:∀ y∈ys,NdF G5 (.ref y)∧∃ T,Pl G5 (.ref y) T:=fun y hy=>ndx_ndf ((nn_all hN3 hyl hy).tp s35.tp)
   refine hRR _ _ ⟨a5,_,rfl,s35,f5,fun z hz=>?_⟩;rcases List.mem_append.mp hz with hz | hz
   ·rcases List.mem_append.mp hz with hz | hz
    ·obtain⟨y,hy,rfl⟩:=List.mem_map.mp hz;exact hold y (hc1 y hy)
    ·rw[List.mem_singleton.mp hz];exact⟨hF3.mono hP3 s35,_,hP3.mono s35⟩
   ·obtain⟨y,hy,rfl⟩:=List.mem_map.mp hz;exact hold y (hc2 y hy)
  rintro σ H4 ⟨p8,xs,rfl,s4,e8,hX4⟩;have e4:=s4 _ _ e3;have hN4:=hN3.tp s4.tp;have hY4:∀ z∈ys.map V.ref,NdF H4 z∧∃ T,Pl H4 z T:=fun z hz=>by
   obtain⟨y,hy,rfl⟩:=List.mem_map.mp hz;exact ndx_ndf (nn_all hN4 hyl hy)
  have k04:=k03.trans s4.kp;have d4:=d3.same s4;have t04:=k04.tp dk;clear hP3 hF3 hN3 e3 hw3 R3 hpb3;have ask:∀ {p:Addr} {zs:List V} {H5:Hp} {Q':VK},Same H4 H5→H4 p=some (.tup zs)→(∀ z∈zs,NdF H4 z∧∃ T,Pl H4 z T)→(∀ (c:Bool) (H':Hp),Same H5 H'→(c=true↔IsNds H5 n ts bs (.ref p))→Q' (.bl c) H')→sp_rneedsX K [.ref w0,.ref pb,.ref p] H5 Q' E0:=fun {p zs H5 Q'} s e h hq=>by
   refine⟨w0,n,ts,pb,bs,.ref p,_,rfl,hw.tp (t04.trans s.tp),hok,SqT.of ((t04.trans s.tp) _ _ hpb),by omega,hbr,.tup (s _ _ e),fun t xs ee e2 z hz=>?_,hq⟩;cases ee;rw[s _ _ e] at e2;cases e2;obtain⟨h1,T,h2⟩:=h z hz;exact⟨h1.mono h2 s,T,h2.mono s⟩
  refine seq_rest (fun σ Hc=>∃ c9:Option V,σ=[some (.ref d),some (.ref w0),some (.ref np),some (.ref pb),some (.bl b0),some (.ref pn),some (.int k),some v1,some (.ref p8),c9,none,none,none,none]∧Same H4 Hc) (fun R hRR=>?_) ?_
  ·rw[tFor_eq];walk_at "rd";refine⟨by decide,fun l5 m5=>fresh_of m5 fun H5 s5 e5=>⟨⟨_,SqL.of e5⟩,for_list (K:=K) (xs:=[V.ref pn,V.ref p8]) (inv_gs H5 [some (.ref d),some (.ref w0),some (.ref np),some (.ref pb),some (.bl b0),some (.ref pn),some (.int k),some v1,some (.ref p8)] none none none none) ⟨_,rfl,Same.refl H5⟩ ?_ ?_ ?_⟩⟩
   ·rintro i σ Hc _ ⟨_,rfl,sc⟩;exact SqL.of (sc _ _ e5)
   ·rintro i v σ Hc hv ⟨c9,rfl,sc⟩;have hvm:=List.mem_of_getElem? hv;obtain⟨p,zs,rfl,hp,hz⟩:∃ p zs,v=.ref p∧H4 p=some (.tup zs)∧∀ z∈zs,NdF H4 z∧∃ T,Pl H4 z T:=by
     simp only[List.mem_cons,List.not_mem_nil,or_false] at hvm;rcases hvm with rfl | rfl
     ·exact⟨pn,_,rfl,e4,hY4⟩
     ·exact⟨p8,_,rfl,e8,hX4⟩
    dsimp only[List.cons_append,List.nil_append];walk_at "rd";refine ask (s5.trans sc) hp hz fun c H6 s6 hc=>?_
    cases c with
    | false=>exact⟨false,rfl,by rw[if_neg (by decide)];exact⟨_,rfl,sc.trans s6⟩⟩
    | true =>
     have hb0:b0=true:=hL.mpr (nds_lean (hc.mp rfl));subst hb0;exact⟨true,rfl,by rw[if_pos (by decide),if_neg (by decide)];exact⟨_,rfl,sc.trans s6⟩⟩
   ·rintro σ Hc ⟨c9,rfl,sc⟩;exact hRR _ _ ⟨c9,rfl,s5.trans sc⟩
  rintro σ H5 ⟨c9,rfl,s5⟩;walk_at "rd";have k05:=k04.trans s5.kp;have d5:=d4.same s5;have t05:=t04.trans s5.tp;cases b0 with
  | false=>rw[if_pos (by decide)];exact q H5 k05 d5
  | true =>
  rw[if_neg (by decide)];have hlean:=hL.mp rfl;refine⟨w0,n,ts,pb,bs,pb,bs,rfl,hw.tp t05,hok,t05 _ _ hpb,hbs,hbr,hB,SqT.of (t05 _ _ hpb),fun x hx=>hx,fun t H6 s6 hLn=>?_⟩;rw[lean_stay bs hlean] at hLn;obtain⟨pl,b,et,el,vs,ev,hvl,hvs⟩:=hLn;have s46:=s5.trans s6;have t06:=t04.trans s46.tp;refine⟨t,rfl,_,SqT.of et,_,rfl,neTI (SqT.of el) (SqT.of (t06 _ _ hpb)) ⟨_,rfl,?_⟩⟩;rw[if_neg (by simp)];rw[tFor_eq];walk_at "rd";refine⟨_,SqT.of et,_,rfl,by decide,fun l7 m7=>fresh_of m7 fun H7 s7 e7=>⟨⟨_,SqL.of e7⟩,for_list (K:=K) (xs:=[V.ref pn,V.ref b]) (inv_gs H7 [some (.ref d),some (.ref w0),some (.ref np),some (.ref pb),some (.bl true),some (.ref pn),some (.int k),some v1,some (.ref p8)] (some (.ref t)) none none none) ⟨_,rfl,Same.refl H7⟩ ?_ ?_ ?_⟩⟩
  ·rintro i σ Hc _ ⟨_,rfl,sc⟩;exact SqL.of (sc _ _ e7)
  ·rintro i v σ Hc hv ⟨c9,rfl,sc⟩;have hvm:=List.mem_of_getElem? hv;have s6c:=s7.trans sc;have s4c:=s46.trans s6c;obtain⟨p,zs,rfl,hp,hz,hzl,hzn⟩:∃ p zs,v=.ref p∧Hc p=some (.tup zs)∧(∀ z∈zs,NdF Hc z∧∃ T,Pl Hc z T)∧zs.length=bs.length∧∀ (i:Nat) z r,zs[i]?=some z→bs[i]?=some r→NeedAt Hc n ts bs r z:=by
    simp only[List.mem_cons,List.not_mem_nil,or_false] at hvm;rcases hvm with rfl | rfl
    ·refine⟨pn,_,rfl,s4c _ _ e4,fun z hz=>?_,by rw[List.length_map];exact hyl,fun i z r h1 h2=>?_⟩
     ·obtain⟨y,hy,rfl⟩:=List.mem_map.mp hz;exact ndx_ndf ((nn_all hN4 hyl hy).tp s4c.tp)
     ·rw[List.getElem?_map] at h1;obtain⟨y,hy,rfl⟩:=Option.map_eq_some_iff.mp h1;exact ((hN4 i y r hy h2).2 (hlean r (List.mem_of_getElem? h2))).tp s4c.tp
    ·have hnv:∀ (i:Nat) z r,vs[i]?=some z→bs[i]?=some r→NeedAt Hc n ts bs r z:=fun i z r h1 h2=>(hvs i z r h1 h2).1.tp s6c.tp
     refine⟨b,vs,rfl,s6c _ _ ev,fun z hz=>?_,hvl,hnv⟩;obtain⟨j,hj,e⟩:=List.getElem_of_mem hz;have hn:=hnv j z bs[j] (by rw[List.getElem?_eq_getElem hj,e]) (List.getElem?_eq_getElem (by omega));obtain⟨y,rfl⟩:∃ y,z=.ref y:=by cases hn<;>exact⟨_,rfl⟩
     exact ndx_ndf (need_ndx hn (by omega))
   dsimp only[List.cons_append,List.nil_append];walk_at "rd";refine⟨w0,n,ts,pb,bs,.ref p,_,rfl,hw.tp (t04.trans s4c.tp),hok,SqT.of ((t04.trans s4c.tp) _ _ hpb),by omega,hbr,.tup hp,fun t xs ee e2 z hz1=>?_,fun c H8 s8 hc=>?_⟩
   ·cases ee;rw[hp] at e2;cases e2;exact hz z hz1
   ·have hc1:=hc.mpr ⟨p,zs,rfl,hp,hzl,hzn⟩;subst hc1;exact⟨true,rfl,by rw[if_neg (by decide)];exact⟨_,rfl,sc.trans s8⟩⟩
  rintro σ H8 ⟨c9,rfl,s8⟩;have s48:=s46.trans (s7.trans s8);have t08:=t04.trans s48.tp;have k08:=k04.trans s48.kp;have d8:=d4.same s48;clear s8 s7 e7 m7 hvs hvl ev el et s6 s46 t06 s5 k05 d5 t05 hN4 hY4 hX4 ask;dsimp only[List.cons_append,List.nil_append];walk_at "rd";refine⟨w0,n,ts,pb,bs,rfl,hw.tp t08,hok,SqT.of (t08 _ _ hpb),hB,hbr,by omega,fun tt T0 H9 s9 ntt hT0 hI0 hdg0 _=>⟨by decide,fun lt mlt=>fresh_of mlt fun HA sA eA=>?_⟩⟩;have s8A:=s9.trans sA;have d9:=d8.same s9;have ltd:lt≠d:=d9.ne mlt;rw[tFor_eq];walk_at "rd";refine⟨by decide,by decide,for_range (lo:=0) (n:=3) (inv_gt H9 d lt [some (.ref d),some (.ref w0),some (.ref np),some (.ref pb),some (.bl true),some (.ref pn),some (.int k),some v1,some (.ref p8),c9,some (.ref t)] n ts bs) ⟨_,[(tt,T0)],rfl,sA.kp,d9.same sA,eA,rfl,fun x hx=>?_⟩ ?_ ?_⟩
  ·rw[List.mem_singleton.mp hx];exact⟨hT0.tp sA.tp,hI0,hdg0⟩
  ·rintro i σ Hc hi ⟨c12,rs,rfl,kc,dc,hlc,hrl,hrs⟩;have kHc:=(k08.trans s9.kp).trans kc;have tHc:=kHc.tp dk;dsimp only[List.cons_append,List.nil_append];walk_at "rd";refine⟨.inl ⟨rfl,_,SqL.of hlc⟩,d,np,as,n,ts,pb,bs,rfl,dc,hR.kp kHc dnp das,dnp,das,hok,tHc _ _ hpb,hbs,hbr,hB,fun pt T H2 k2 d2 hT hI hdg=>?_⟩;have hl2:=k2 _ _ ltd hlc;refine⟨_,hl2,by rw[List.length_map];exact sizeBig (by omega),_,rs++[(pt,T)],rfl,(kc.trans k2).new mlt,d2.new ltd,by rw[upd_same,List.map_append];rfl,by rw[List.length_append,List.length_singleton,hrl];omega,fun x hx=>?_⟩;rcases List.mem_append.mp hx with hx | hx
   ·obtain⟨h1,h2⟩:=hrs x hx;exact⟨h1.tp ((k2.tp dc).trans (Tp.lst hl2)),h2⟩
   ·rw[List.mem_singleton.mp hx];exact⟨hT.tp (Tp.lst hl2),hI,hdg⟩
  rintro σ HB ⟨c12,rs,rfl,kB,dB,hlB,hrl,hrs⟩;have kHB:=(k08.trans s9.kp).trans kB;have tHB:=kHB.tp dk;dsimp only[List.cons_append,List.nil_append];walk_at "rd";rw[tFor_eq];walk_at "rd";refine⟨⟨_,SqL.of hlB⟩,for_list (K:=K) (xs:=rs.map fun x=>V.ref x.1) (inv_gl HB [some (.ref d),some (.ref w0),some (.ref np),some (.ref pb),some (.bl true),some (.ref pn),some (.int k),some v1,some (.ref p8),c9,some (.ref t),some (.ref lt),c12]) ⟨_,rfl,Same.refl HB⟩ ?_ ?_ ?_⟩
  ·rintro i σ Hc _ ⟨_,rfl,sc⟩;exact SqL.of (sc _ _ hlB)
  ·rintro i v σ Hc hv ⟨c13,rfl,sc⟩;rw[List.getElem?_map] at hv;obtain⟨x,hx,rfl⟩:=Option.map_eq_some_iff.mp hv;obtain⟨hT,hI,hdg⟩:=hrs x (List.mem_of_getElem? hx);obtain⟨w1,hw1,_⟩:=id (hw.tp (tHB.trans sc.tp));dsimp only[List.cons_append,List.nil_append];walk_at "rd";refine⟨x.1,n,x.2,rfl,hT.tp sc.tp,hI.len,by omega,hI.ok hok.rng,fun l H2 s2 nl e2=>⟨l,rfl,_,.inr (SqT.of e2),_,SqT.of (s2 _ _ hw1),_,rfl,_,.inr (SqT.of ((tHB.trans (sc.trans s2).tp) _ _ hpb)),n,rfl,?_⟩⟩;have hlv:=lean_leaves hI hok.rng h3 hnd hbr hlean hdg;rw[List.length_map,List.length_map,if_neg (by simp;omega)];exact⟨_,rfl,sc.trans s2⟩
  ·rintro σ Hc ⟨c13,rfl,sc⟩;exact q Hc (kHB.trans sc.kp) (dB.same sc)
def inv_l36 (Hb:Hp)(a d w np sa:Addr)(i:Nat)(σ:St)(Hc:Hp):Prop:=∃ v5:Option V,σ=[some (.ref a),some (.ref d),some (.ref w),some (.ref np),some (.ref sa),v5]∧Kp d Hb Hc∧DkAt Hc d
theorem sc_law36:FnScope ["_law_script","_law_deck_here","_law_web_here","_law_near_here","_law_sets","_law_busy"] ["_law_script"] (defScope (top 50)):=by walk_at "s"
theorem ok_law36 (F:Fun K "law" "law" (top 50) f fd)(B:Bt mg)(D1:Df K mg "_law_deck" st1 f1 fd1 ["_law_script","_law_many"])(G1:FnOk P w K mg base CX0 2 f1 fd1 ["_law_script","_law_many"] (sp_deck K))(D2:Df K mg "_law_web" st2 f2 fd2 ["_law_deck_here","_law_least","_law_most"])(G2:FnOk P w K mg base CX0 3 f2 fd2 ["_law_deck_here","_law_least","_law_most"] sp_web)(D3:Df K mg "_law_near" st3 f3 fd3 ["_law_web_here"])(G3:FnOk P w K mg base CX0 1 f3 fd3 ["_law_web_here"] sp_near)(D4:Df K mg "_law_all_sets" st4 f4 fd4 ["_law_near_here"])(G4:FnOk P w K mg base CX0 4 f4 fd4 ["_law_near_here"] (sp_allsets K))(D5:Df K mg "_law_is_lean" st5 f5 fd5 ["_law_sets","_law_busy"])(G5:FnOk P w K mg base CX0 1 f5 fd5 ["_law_sets","_law_busy"] (sp_islean K))(D6:Df K mg "_law_good" st6 f6 fd6 ["_law_deck_here","_law_web_here","_law_near_here","_law_busy","_law_is_lean_here"])(G6:FnOk P w K mg base CX0 8 f6 fd6 ["_law_deck_here","_law_web_here","_law_near_here","_law_busy","_law_is_lean_here"] (sp_good36 K)):FnOk P w K mg base CX0 9 f fd ["_law_script"] (sp_law K):=by
 refine F.ok sc_law36 (fun vs H Q E h=>?_) (fun cdv A outer s H vs Q E hr h=>?_)
 ·walk_at "h"
 ·obtain⟨a,ns,rfl,hS,hl,q⟩:=h;have nd:=sc_law36.nd;have hu:=hu_of hr
  refine⟨_,(pss_cons (ps_set (i:=1) nd rfl (.inl rfl) (pe_own G1 D1 hr.m (pa_cons (pv 0) (pa_cons pe_int pa_nil))))
    (pss_cons (ps_set (i:=2) nd rfl (.inl rfl) (pe_own G2 D2 hr.m (pa_cons (pv 1) (pa_cons pe_int (pa_cons pe_int pa_nil)))))
    (pss_cons (ps_set (i:=3) nd rfl (.inl rfl) (pe_own G3 D3 hr.m (pa_cons (pv 2) pa_nil)))
    (pss_cons (ps_set (i:=4) nd rfl (.inl rfl) (pe_own G4 D4 hr.m (pa_cons (pv 3) pa_nil)))
    (pss_cons (ps_for PassesOwn.never rfl (pi_listK K (pv 4)) (pg_name (i:=5) nd rfl (.inl rfl))
     (pss_one (ps_if (pt_not (pt_val (pe_own G6 D6 hr.m (pa_cons (pv 1) (pa_cons (pv 2) (pa_cons (pv 3) (pa_cons (pv 5) (pa_cons (pe_own G5 D5 hr.m (pa_cons (pv 4) (pa_cons (pv 5) pa_nil))) pa_nil))))))))
      (pss_one (ps_ret pe_bl))
      pss_nil)))
    (pss_one (ps_ret pe_bl))))))),?_⟩
  walk_at "rd";refine⟨a,900,ns,rfl,hS,hl,by decide,by decide,fun d ds H1 hdl s1 nd1 hd1=>?_⟩;have dk1:DkAt H1 d:=⟨ds,hd1,hdl⟩
  refine⟨d,3,6,rfl,dk1,by decide,by decide,by decide,fun w0 n ts H2 k2 d2 hn0 hn1 hok hw=>?_⟩;have g3:=hok.n3;have g60:=hok.n60;have gl:=hok.len;refine⟨w0,n,ts,rfl,hw,by omega,by omega,by omega,hok.rng,hok.srt,fun np as H3 s3 nnp nas hR=>?_⟩;have dnp:d≠np:=(d2.ne nnp).symm;have das:d∉as:=fun h=>d2.ne (nas d h) rfl
  refine⟨np,as,n,ts,rfl,hR,hok,by omega,fun sa ps H4 s4 nsa hA=>?_⟩;have d4:=(d2.same s3).same s4;have sad:sa≠d:=(d2.same s3).ne nsa;have hw4:=hw.tp (s3.trans s4).tp;have hR4:=hR.same s4;dsimp only;rw[tFor_eq];walk_at "rd";refine⟨⟨_,SqL.of hA.ll.top⟩,for_list (K:=K) (xs:=ps.map fun x=>V.ref x.1) (inv_l36 H4 a d w0 np sa) ⟨_,rfl,Kp.refl d H4,d4⟩ ?_ ?_ ?_⟩
  ·rintro i σ Hc _ ⟨_,rfl,kc,_⟩;exact SqL.of (kc _ _ sad hA.ll.top)
  ·rintro i v σ Hc hv ⟨v5,rfl,kc,dc⟩;rw[List.getElem?_map] at hv;obtain⟨x,hx,rfl⟩:=Option.map_eq_some_iff.mp hv;have hxm:=List.mem_of_getElem? hx;obtain⟨hB,hbs,hbr⟩:=hA.ok x hxm;have hbl:=nd_len (rising_nd hbs) hbr;have tc:=kc.tp d4;have hAc:AllS Hc n ts sa ps:=⟨hA.ll.tp tc (kc _ _ sad hA.ll.top),hA.len,hA.ok,hA.all⟩
   walk_at "rd";refine⟨sa,ps,x.1,x.2,n,ts,rfl,hAc,hAc.ll.row x hxm,hbs,hbr,by omega,fun b H5 s5 hb=>?_⟩;refine⟨d,w0,np,as,n,ts,x.1,x.2,b,rfl,dc.same s5,hw4.tp (tc.trans s5.tp),hok,(hR4.kp kc dnp das).same s5,dnp,das,s5 _ _ (hAc.ll.row x hxm),hbs,hbr,hB,hb,fun H6 k6 d6=>⟨true,rfl,?_⟩⟩;rw[if_neg (by decide)];exact⟨_,rfl,(kc.trans s5.kp).trans k6,d6⟩
  ·rintro σ Hc ⟨v5,rfl,kc,dc⟩;exact q Hc
end
end K36
end
section
namespace K36
open PySem L2
def vs (s:String)(t:Tok):Value:=.str (Str.ofString s) t
def vi (i:Int)(t:Tok):Value:=.int i t
def vr (a:Addr):Value:=.ref a
def vn:Value:=.none
def fcp:Tok→Value:=vs "/claim/cut.py"
def de (P:Params)(s:String)(t:Tok)(v:Value):DictEntry:=⟨PyData.keyHash P (Str.ofString s),.str (Str.ofString s) t,v⟩
def ot (a:Array Value)(l:Array (Option Value)):Obj:=⟨.type "tuple",none,.seq a,l⟩
def oc (a:Array Value)(l:Array (Option Value)):Obj:=⟨.type "code",none,.fields a,l⟩
def fo (n:String)(i:Nat)(g:Addr)(cl:List (Str×Addr))(a b c d:Value)(e:Option Addr)(f h:Value)(k:Addr):Obj:=⟨.type "function",none,.func ⟨Str.ofString n,Str.ofString n,defArgs (top i),.stmts (defBody (top i)),defScope (top i),g,cl,a,b,c,d,e,f,h,k⟩,#[]⟩
def heapK:Params→PySem.W.Frag:=fun P=>(nat_lit 2,Obj.mk vn none (Data.dict #[]) #[])::(nat_lit 3,Obj.mk (Value.type "dict") none (Data.dict #[de P "__name__" 165 (vs "law_manyleaves_k36_whole_lean_sets" 402),de P "__doc__" 166 vn,de P "__package__" 167 vn,de P "__loader__" 168 (Value.builtin "__main__.__loader__#opaque"),de P "__spec__" 169 vn,de P "__annotations__" 170 (vr 6),de P "__builtins__" 171 (vr 4),de P "__file__" 173 (fcp 172),de P "__cached__" 174 vn,de P "is_int" 195 (vr 21),de P "is_between" 204 (vr 28),de P "tie_of" 214 (vr 35),de P "is_rising" 222 (vr 42),de P "neighbour_rows" 228 (vr 47),de P "touched" 234 (vr 52),de P "piece_from" 247 (vr 59),de P "pieces" 253 (vr 64),de P "is_place" 263 (vr 71),de P "is_place_row" 272 (vr 78),de P "lot_rows" 278 (vr 83),de P "have_common" 284 (vr 88),de P "tree_rows" 293 (vr 95),de P "leaves_of" 299 (vr 100),de P "tree_of" 311 (vr 107),de P "right_set" 321 (vr 114),de P "tree_by" 327 (vr 119),de P "all_but" 335 (vr 124),de P "has_alone" 341 (vr 129),de P "right_own" 351 (vr 136),de P "right_side" 363 (vr 143),de P "right_need" 373 (vr 150),de P "right_needs" 384 (vr 157),de P "need_of" 395 (vr 164),de P "lean_of" 401 (vr 169),de P "_law_mixed" 412 (vr 176),de P "_law_deck" 418 (vr 181),de P "_law_next" 425 (vr 188),de P "_law_turn" 431 (vr 193),de P "_law_web" 437 (vr 198),de P "_law_near" 443 (vr 203),de P "_law_reach" 455 (vr 210),de P "_law_hang" 463 (vr 217),de P "_law_touched" 469 (vr 222),de P "_law_is_set" 477 (vr 229),de P "_law_all_sets" 483 (vr 234),de P "_law_lot" 491 (vr 241),de P "_law_some_need" 497 (vr 246),de P "_law_bent_need" 503 (vr 251),de P "_law_tree_of" 509 (vr 256),de P "_law_is_lean" 515 (vr 261),de P "_law_good" 521 (vr 266),de P "law" 533 (vr 273)] 52) #[])::(nat_lit 15,ot (#[]) #[])::(nat_lit 17,ot (#[vs "thing" 192]) #[])::(nat_lit 18,ot (#[]) #[])::(nat_lit 20,oc (#[vs "is_int" 189,vs "is_int" 190,fcp 191,vi 2 0,vi 1 0,vi 0 0,vi 0 0,vi 3 0,vr 15,Value.bool true,vi 181 0,vr 16,vn,vr 17,vr 18,vr 19,vi 193 0,vi 2 0,fcp 194]) #[])::(nat_lit 21,fo "is_int" 1 3 [] vn vn vn (vs "manyleaves.ints" 187) none (vr 20) vn 0)::(nat_lit 22,ot (#[]) #[])::(nat_lit 24,ot (#[vs "thing" 199,vs "least" 200,vs "most" 201]) #[])::(nat_lit 25,ot (#[]) #[])::(nat_lit 27,oc (#[vs "is_between" 196,vs "is_between" 197,fcp 198,vi 4 0,vi 3 0,vi 0 0,vi 0 0,vi 3 0,vr 22,Value.bool true,vi 181 0,vr 23,vn,vr 24,vr 25,vr 26,vi 202 0,vi 4 0,fcp 203]) #[])::(nat_lit 28,fo "is_between" 2 3 [] vn vn vn (vs "manyleaves.ints" 187) none (vr 27) vn 0)::(nat_lit 29,ot (#[]) #[])::(nat_lit 31,ot (#[vs "one" 210,vs "other" 211]) #[])::(nat_lit 32,ot (#[]) #[])::(nat_lit 34,oc (#[vs "tie_of" 207,vs "tie_of" 208,fcp 209,vi 7 0,vi 2 0,vi 0 0,vi 0 0,vi 3 0,vr 29,Value.bool true,vi 181 0,vr 30,vn,vr 31,vr 32,vr 33,vi 212 0,vi 7 0,fcp 213]) #[])::(nat_lit 35,fo "tie_of" 4 3 [] vn vn vn (vs "manyleaves.webs" 205) none (vr 34) vn 0)::(nat_lit 36,ot (#[]) #[])::(nat_lit 38,ot (#[vs "items" 218,vs "at" 219]) #[])::(nat_lit 39,ot (#[]) #[])::(nat_lit 41,oc (#[vs "is_rising" 215,vs "is_rising" 216,fcp 217,vi 9 0,vi 1 0,vi 0 0,vi 0 0,vi 3 0,vr 36,Value.bool true,vi 181 0,vr 37,vn,vr 38,vr 39,vr 40,vi 220 0,vi 9 0,fcp 221]) #[])::(nat_lit 42,fo "is_rising" 5 3 [] vn vn vn (vs "manyleaves.webs" 205) none (vr 41) vn 0)::(nat_lit 43,ot (#[]) #[])::(nat_lit 46,oc (#[vs "neighbour_rows" 223,vs "neighbour_rows" 224,fcp 225,vi 14 0,vi 1 0,vi 0 0,vi 0 0,vi 3 0,vr 43,Value.bool true,vi 181 0,vr 44,vn,vn,vn,vr 45,vi 226 0,vi 14 0,fcp 227]) #[])::(nat_lit 47,fo "neighbour_rows" 6 3 [] vn vn vn (vs "manyleaves.webs" 205) none (vr 46) vn 0)::(nat_lit 48,ot (#[]) #[])::(nat_lit 51,oc (#[vs "touched" 229,vs "touched" 230,fcp 231,vi 21 0,vi 2 0,vi 0 0,vi 0 0,vi 3 0,vr 48,Value.bool true,vi 181 0,vr 49,vn,vn,vn,vr 50,vi 232 0,vi 21 0,fcp 233]) #[])::(nat_lit 52,fo "touched" 7 3 [] vn vn vn (vs "manyleaves.webs" 205) none (vr 51) vn 0)::(nat_lit 53,ot (#[]) #[])::(nat_lit 55,ot (#[vs "rows" 238,vs "among" 239,vs "start" 240,vs "met" 241,vs "waiting" 242,vs "place" 243,vs "other" 244]) #[])::(nat_lit 56,ot (#[]) #[])::(nat_lit 58,oc (#[vs "piece_from" 235,vs "piece_from" 236,fcp 237,vi 30 0,vi 3 0,vi 0 0,vi 0 0,vi 3 0,vr 53,Value.bool true,vi 181 0,vr 54,vn,vr 55,vr 56,vr 57,vi 245 0,vi 30 0,fcp 246]) #[])::(nat_lit 59,fo "piece_from" 8 3 [] vn vn vn (vs "manyleaves.webs" 205) none (vr 58) vn 0)::(nat_lit 60,ot (#[]) #[])::(nat_lit 63,oc (#[vs "pieces" 248,vs "pieces" 249,fcp 250,vi 40 0,vi 2 0,vi 0 0,vi 0 0,vi 3 0,vr 60,Value.bool true,vi 181 0,vr 61,vn,vn,vn,vr 62,vi 251 0,vi 40 0,fcp 252]) #[])::(nat_lit 64,fo "pieces" 9 3 [] vn vn vn (vs "manyleaves.webs" 205) none (vr 63) vn 0)::(nat_lit 65,ot (#[]) #[])::(nat_lit 67,ot (#[vs "web" 259,vs "thing" 260]) #[])::(nat_lit 68,ot (#[]) #[])::(nat_lit 70,oc (#[vs "is_place" 256,vs "is_place" 257,fcp 258,vi 52 0,vi 2 0,vi 0 0,vi 0 0,vi 3 0,vr 65,Value.bool true,vi 181 0,vr 66,vn,vr 67,vr 68,vr 69,vi 261 0,vi 52 0,fcp 262]) #[])::(nat_lit 71,fo "is_place" 11 3 [] vn vn vn (vs "manyleaves.parts" 254) none (vr 70) vn 0)::(nat_lit 72,ot (#[]) #[])::(nat_lit 74,ot (#[vs "web" 267,vs "thing" 268,vs "item" 269]) #[])::(nat_lit 75,ot (#[]) #[])::(nat_lit 77,oc (#[vs "is_place_row" 264,vs "is_place_row" 265,fcp 266,vi 54 0,vi 2 0,vi 0 0,vi 0 0,vi 3 0,vr 72,Value.bool true,vi 181 0,vr 73,vn,vr 74,vr 75,vr 76,vi 270 0,vi 54 0,fcp 271]) #[])::(nat_lit 78,fo "is_place_row" 12 3 [] vn vn vn (vs "manyleaves.parts" 254) none (vr 77) vn 0)::(nat_lit 79,ot (#[]) #[])::(nat_lit 82,oc (#[vs "lot_rows" 273,vs "lot_rows" 274,fcp 275,vi 61 0,vi 1 0,vi 0 0,vi 0 0,vi 3 0,vr 79,Value.bool true,vi 181 0,vr 80,vn,vn,vn,vr 81,vi 276 0,vi 61 0,fcp 277]) #[])::(nat_lit 83,fo "lot_rows" 13 3 [] vn vn vn (vs "manyleaves.parts" 254) none (vr 82) vn 0)::(nat_lit 84,ot (#[]) #[])::(nat_lit 87,oc (#[vs "have_common" 279,vs "have_common" 280,fcp 281,vi 63 0,vi 2 0,vi 0 0,vi 0 0,vi 3 0,vr 84,Value.bool true,vi 181 0,vr 85,vn,vn,vn,vr 86,vi 282 0,vi 63 0,fcp 283]) #[])::(nat_lit 88,fo "have_common" 14 3 [] vn vn vn (vs "manyleaves.parts" 254) none (vr 87) vn 0)::(nat_lit 89,ot (#[]) #[])::(nat_lit 91,ot (#[vs "tree" 290]) #[])::(nat_lit 92,ot (#[]) #[])::(nat_lit 94,oc (#[vs "tree_rows" 287,vs "tree_rows" 288,fcp 289,vi 66 0,vi 1 0,vi 0 0,vi 0 0,vi 3 0,vr 89,Value.bool true,vi 181 0,vr 90,vn,vr 91,vr 92,vr 93,vi 291 0,vi 66 0,fcp 292]) #[])::(nat_lit 95,fo "tree_rows" 16 3 [] vn vn vn (vs "manyleaves.trees" 285) none (vr 94) vn 0)::(nat_lit 96,ot (#[]) #[])::(nat_lit 99,oc (#[vs "leaves_of" 294,vs "leaves_of" 295,fcp 296,vi 68 0,vi 1 0,vi 0 0,vi 0 0,vi 3 0,vr 96,Value.bool true,vi 181 0,vr 97,vn,vn,vn,vr 98,vi 297 0,vi 68 0,fcp 298]) #[])::(nat_lit 100,fo "leaves_of" 17 3 [] vn vn vn (vs "manyleaves.trees" 285) none (vr 99) vn 0)::(nat_lit 101,ot (#[]) #[])::(nat_lit 103,ot (#[vs "parents" 305,vs "ties" 306,vs "place" 307,vs "parent" 308]) #[])::(nat_lit 104,ot (#[]) #[])::(nat_lit 106,oc (#[vs "tree_of" 302,vs "tree_of" 303,fcp 304,vi 71 0,vi 1 0,vi 0 0,vi 0 0,vi 3 0,vr 101,Value.bool true,vi 181 0,vr 102,vn,vr 103,vr 104,vr 105,vi 309 0,vi 71 0,fcp 310]) #[])::(nat_lit 107,fo "tree_of" 19 3 [] vn vn vn (vs "manyleaves.roots" 300) none (vr 106) vn 0)::(nat_lit 108,ot (#[]) #[])::(nat_lit 110,ot (#[vs "web" 317,vs "thing" 318]) #[])::(nat_lit 111,ot (#[]) #[])::(nat_lit 113,oc (#[vs "right_set" 314,vs "right_set" 315,fcp 316,vi 78 0,vi 2 0,vi 0 0,vi 0 0,vi 3 0,vr 108,Value.bool true,vi 181 0,vr 109,vn,vr 110,vr 111,vr 112,vi 319 0,vi 78 0,fcp 320]) #[])::(nat_lit 114,fo "right_set" 21 3 [] vn vn vn (vs "manyleaves.sets" 312) none (vr 113) vn 0)::(nat_lit 115,ot (#[]) #[])::(nat_lit 118,oc (#[vs "tree_by" 322,vs "tree_by" 323,fcp 324,vi 82 0,vi 2 0,vi 0 0,vi 0 0,vi 3 0,vr 115,Value.bool true,vi 181 0,vr 116,vn,vn,vn,vr 117,vi 325 0,vi 82 0,fcp 326]) #[])::(nat_lit 119,fo "tree_by" 22 3 [] vn vn vn (vs "manyleaves.sets" 312) none (vr 118) vn 0)::(nat_lit 120,ot (#[]) #[])::(nat_lit 123,oc (#[vs "all_but" 330,vs "all_but" 331,fcp 332,vi 96 0,vi 2 0,vi 0 0,vi 0 0,vi 3 0,vr 120,Value.bool true,vi 181 0,vr 121,vn,vn,vn,vr 122,vi 333 0,vi 96 0,fcp 334]) #[])::(nat_lit 124,fo "all_but" 24 3 [] vn vn vn (vs "manyleaves.lean" 328) none (vr 123) vn 0)::(nat_lit 125,ot (#[]) #[])::(nat_lit 128,oc (#[vs "has_alone" 336,vs "has_alone" 337,fcp 338,vi 98 0,vi 3 0,vi 0 0,vi 0 0,vi 3 0,vr 125,Value.bool true,vi 181 0,vr 126,vn,vn,vn,vr 127,vi 339 0,vi 98 0,fcp 340]) #[])::(nat_lit 129,fo "has_alone" 25 3 [] vn vn vn (vs "manyleaves.lean" 328) none (vr 128) vn 0)::(nat_lit 130,ot (#[]) #[])::(nat_lit 132,ot (#[vs "web" 345,vs "busy" 346,vs "place" 347,vs "thing" 348]) #[])::(nat_lit 133,ot (#[]) #[])::(nat_lit 135,oc (#[vs "right_own" 342,vs "right_own" 343,fcp 344,vi 100 0,vi 4 0,vi 0 0,vi 0 0,vi 3 0,vr 130,Value.bool true,vi 181 0,vr 131,vn,vr 132,vr 133,vr 134,vi 349 0,vi 100 0,fcp 350]) #[])::(nat_lit 136,fo "right_own" 26 3 [] vn vn vn (vs "manyleaves.lean" 328) none (vr 135) vn 0)::(nat_lit 137,ot (#[]) #[])::(nat_lit 139,ot (#[vs "web" 355,vs "busy" 356,vs "place" 357,vs "thing" 358,vs "left" 359,vs "rest" 360]) #[])::(nat_lit 140,ot (#[]) #[])::(nat_lit 142,oc (#[vs "right_side" 352,vs "right_side" 353,fcp 354,vi 102 0,vi 4 0,vi 0 0,vi 0 0,vi 3 0,vr 137,Value.bool true,vi 181 0,vr 138,vn,vr 139,vr 140,vr 141,vi 361 0,vi 102 0,fcp 362]) #[])::(nat_lit 143,fo "right_side" 27 3 [] vn vn vn (vs "manyleaves.lean" 328) none (vr 142) vn 0)::(nat_lit 144,ot (#[]) #[])::(nat_lit 146,ot (#[vs "web" 367,vs "busy" 368,vs "place" 369,vs "thing" 370]) #[])::(nat_lit 147,ot (#[]) #[])::(nat_lit 149,oc (#[vs "right_need" 364,vs "right_need" 365,fcp 366,vi 110 0,vi 4 0,vi 0 0,vi 0 0,vi 3 0,vr 144,Value.bool true,vi 181 0,vr 145,vn,vr 146,vr 147,vr 148,vi 371 0,vi 110 0,fcp 372]) #[])::(nat_lit 150,fo "right_need" 28 3 [] vn vn vn (vs "manyleaves.lean" 328) none (vr 149) vn 0)::(nat_lit 151,ot (#[]) #[])::(nat_lit 153,ot (#[vs "web" 377,vs "busy" 378,vs "thing" 379,vs "place" 380,vs "need" 381]) #[])::(nat_lit 154,ot (#[]) #[])::(nat_lit 156,oc (#[vs "right_needs" 374,vs "right_needs" 375,fcp 376,vi 116 0,vi 3 0,vi 0 0,vi 0 0,vi 3 0,vr 151,Value.bool true,vi 181 0,vr 152,vn,vr 153,vr 154,vr 155,vi 382 0,vi 116 0,fcp 383]) #[])::(nat_lit 157,fo "right_needs" 29 3 [] vn vn vn (vs "manyleaves.lean" 328) none (vr 156) vn 0)::(nat_lit 158,ot (#[]) #[])::(nat_lit 160,ot (#[vs "web" 388,vs "busy" 389,vs "place" 390,vs "other" 391,vs "lot" 392]) #[])::(nat_lit 161,ot (#[]) #[])::(nat_lit 163,oc (#[vs "need_of" 385,vs "need_of" 386,fcp 387,vi 123 0,vi 3 0,vi 0 0,vi 0 0,vi 3 0,vr 158,Value.bool true,vi 181 0,vr 159,vn,vr 160,vr 161,vr 162,vi 393 0,vi 123 0,fcp 394]) #[])::(nat_lit 164,fo "need_of" 30 3 [] vn vn vn (vs "manyleaves.lean" 328) none (vr 163) vn 0)::(nat_lit 165,ot (#[]) #[])::(nat_lit 168,oc (#[vs "lean_of" 396,vs "lean_of" 397,fcp 398,vi 128 0,vi 3 0,vi 0 0,vi 0 0,vi 3 0,vr 165,Value.bool true,vi 181 0,vr 166,vn,vn,vn,vr 167,vi 399 0,vi 128 0,fcp 400]) #[])::(nat_lit 169,fo "lean_of" 31 3 [] vn vn vn (vs "manyleaves.lean" 328) none (vr 168) vn 0)::(nat_lit 170,ot (#[]) #[])::(nat_lit 172,ot (#[vs "_law_cell" 407,vs "_law_k" 408,vs "_law_number" 409]) #[])::(nat_lit 173,ot (#[]) #[])::(nat_lit 175,oc (#[vs "_law_mixed" 404,vs "_law_mixed" 405,fcp 406,vi 136 0,vi 2 0,vi 0 0,vi 0 0,vi 3 0,vr 170,Value.bool true,vi 181 0,vr 171,vn,vr 172,vr 173,vr 174,vi 410 0,vi 136 0,fcp 411]) #[])::(nat_lit 176,fo "_law_mixed" 33 3 [] vn vn vn (vs "law_manyleaves_k36_whole_lean_sets" 402) none (vr 175) vn 0)::(nat_lit 177,ot (#[]) #[])::(nat_lit 180,oc (#[vs "_law_deck" 413,vs "_law_deck" 414,fcp 415,vi 141 0,vi 2 0,vi 0 0,vi 0 0,vi 3 0,vr 177,Value.bool true,vi 181 0,vr 178,vn,vn,vn,vr 179,vi 416 0,vi 141 0,fcp 417]) #[])::(nat_lit 181,fo "_law_deck" 34 3 [] vn vn vn (vs "law_manyleaves_k36_whole_lean_sets" 402) none (vr 180) vn 0)::(nat_lit 182,ot (#[]) #[])::(nat_lit 184,ot (#[vs "_law_deck_here" 422]) #[])::(nat_lit 185,ot (#[]) #[])::(nat_lit 187,oc (#[vs "_law_next" 419,vs "_law_next" 420,fcp 421,vi 153 0,vi 1 0,vi 0 0,vi 0 0,vi 3 0,vr 182,Value.bool true,vi 181 0,vr 183,vn,vr 184,vr 185,vr 186,vi 423 0,vi 153 0,fcp 424]) #[])::(nat_lit 188,fo "_law_next" 35 3 [] vn vn vn (vs "law_manyleaves_k36_whole_lean_sets" 402) none (vr 187) vn 0)::(nat_lit 189,ot (#[]) #[])::(nat_lit 192,oc (#[vs "_law_turn" 426,vs "_law_turn" 427,fcp 428,vi 157 0,vi 2 0,vi 0 0,vi 0 0,vi 3 0,vr 189,Value.bool true,vi 181 0,vr 190,vn,vn,vn,vr 191,vi 429 0,vi 157 0,fcp 430]) #[])::(nat_lit 193,fo "_law_turn" 36 3 [] vn vn vn (vs "law_manyleaves_k36_whole_lean_sets" 402) none (vr 192) vn 0)::(nat_lit 194,ot (#[]) #[])::(nat_lit 197,oc (#[vs "_law_web" 432,vs "_law_web" 433,fcp 434,vi 159 0,vi 3 0,vi 0 0,vi 0 0,vi 3 0,vr 194,Value.bool true,vi 181 0,vr 195,vn,vn,vn,vr 196,vi 435 0,vi 159 0,fcp 436]) #[])::(nat_lit 198,fo "_law_web" 37 3 [] vn vn vn (vs "law_manyleaves_k36_whole_lean_sets" 402) none (vr 197) vn 0)::(nat_lit 199,ot (#[]) #[])::(nat_lit 202,oc (#[vs "_law_near" 438,vs "_law_near" 439,fcp 440,vi 178 0,vi 1 0,vi 0 0,vi 0 0,vi 3 0,vr 199,Value.bool true,vi 181 0,vr 200,vn,vn,vn,vr 201,vi 441 0,vi 178 0,fcp 442]) #[])::(nat_lit 203,fo "_law_near" 38 3 [] vn vn vn (vs "law_manyleaves_k36_whole_lean_sets" 402) none (vr 202) vn 0)::(nat_lit 204,ot (#[]) #[])::(nat_lit 206,ot (#[vs "_law_near_here" 447,vs "_law_start" 448,vs "_law_allowed" 449,vs "_law_found" 450,vs "_law_waiting" 451,vs "_law_other" 452]) #[])::(nat_lit 207,ot (#[]) #[])::(nat_lit 209,oc (#[vs "_law_reach" 444,vs "_law_reach" 445,fcp 446,vi 184 0,vi 3 0,vi 0 0,vi 0 0,vi 3 0,vr 204,Value.bool true,vi 181 0,vr 205,vn,vr 206,vr 207,vr 208,vi 453 0,vi 184 0,fcp 454]) #[])::(nat_lit 210,fo "_law_reach" 39 3 [] vn vn vn (vs "law_manyleaves_k36_whole_lean_sets" 402) none (vr 209) vn 0)::(nat_lit 211,ot (#[]) #[])::(nat_lit 213,ot (#[vs "_law_near_here" 459,vs "_law_places" 460]) #[])::(nat_lit 214,ot (#[]) #[])::(nat_lit 216,oc (#[vs "_law_hang" 456,vs "_law_hang" 457,fcp 458,vi 193 0,vi 2 0,vi 0 0,vi 0 0,vi 3 0,vr 211,Value.bool true,vi 181 0,vr 212,vn,vr 213,vr 214,vr 215,vi 461 0,vi 193 0,fcp 462]) #[])::(nat_lit 217,fo "_law_hang" 40 3 [] vn vn vn (vs "law_manyleaves_k36_whole_lean_sets" 402) none (vr 216) vn 0)::(nat_lit 218,ot (#[]) #[])::(nat_lit 221,oc (#[vs "_law_touched" 464,vs "_law_touched" 465,fcp 466,vi 195 0,vi 2 0,vi 0 0,vi 0 0,vi 3 0,vr 218,Value.bool true,vi 181 0,vr 219,vn,vn,vn,vr 220,vi 467 0,vi 195 0,fcp 468]) #[])::(nat_lit 222,fo "_law_touched" 41 3 [] vn vn vn (vs "law_manyleaves_k36_whole_lean_sets" 402) none (vr 221) vn 0)::(nat_lit 223,ot (#[]) #[])::(nat_lit 225,ot (#[vs "_law_near_here" 473,vs "_law_places" 474]) #[])::(nat_lit 226,ot (#[]) #[])::(nat_lit 228,oc (#[vs "_law_is_set" 470,vs "_law_is_set" 471,fcp 472,vi 198 0,vi 2 0,vi 0 0,vi 0 0,vi 3 0,vr 223,Value.bool true,vi 181 0,vr 224,vn,vr 225,vr 226,vr 227,vi 475 0,vi 198 0,fcp 476]) #[])::(nat_lit 229,fo "_law_is_set" 42 3 [] vn vn vn (vs "law_manyleaves_k36_whole_lean_sets" 402) none (vr 228) vn 0)::(nat_lit 230,ot (#[]) #[])::(nat_lit 233,oc (#[vs "_law_all_sets" 478,vs "_law_all_sets" 479,fcp 480,vi 200 0,vi 1 0,vi 0 0,vi 0 0,vi 3 0,vr 230,Value.bool true,vi 181 0,vr 231,vn,vn,vn,vr 232,vi 481 0,vi 200 0,fcp 482]) #[])::(nat_lit 234,fo "_law_all_sets" 43 3 [] vn vn vn (vs "law_manyleaves_k36_whole_lean_sets" 402) none (vr 233) vn 0)::(nat_lit 235,ot (#[]) #[])::(nat_lit 237,ot (#[vs "_law_near_here" 487,vs "_law_p" 488]) #[])::(nat_lit 238,ot (#[]) #[])::(nat_lit 240,oc (#[vs "_law_lot" 484,vs "_law_lot" 485,fcp 486,vi 207 0,vi 2 0,vi 0 0,vi 0 0,vi 3 0,vr 235,Value.bool true,vi 181 0,vr 236,vn,vr 237,vr 238,vr 239,vi 489 0,vi 207 0,fcp 490]) #[])::(nat_lit 241,fo "_law_lot" 44 3 [] vn vn vn (vs "law_manyleaves_k36_whole_lean_sets" 402) none (vr 240) vn 0)::(nat_lit 242,ot (#[]) #[])::(nat_lit 245,oc (#[vs "_law_some_need" 492,vs "_law_some_need" 493,fcp 494,vi 209 0,vi 4 0,vi 0 0,vi 0 0,vi 3 0,vr 242,Value.bool true,vi 181 0,vr 243,vn,vn,vn,vr 244,vi 495 0,vi 209 0,fcp 496]) #[])::(nat_lit 246,fo "_law_some_need" 45 3 [] vn vn vn (vs "law_manyleaves_k36_whole_lean_sets" 402) none (vr 245) vn 0)::(nat_lit 247,ot (#[]) #[])::(nat_lit 250,oc (#[vs "_law_bent_need" 498,vs "_law_bent_need" 499,fcp 500,vi 221 0,vi 4 0,vi 0 0,vi 0 0,vi 3 0,vr 247,Value.bool true,vi 181 0,vr 248,vn,vn,vn,vr 249,vi 501 0,vi 221 0,fcp 502]) #[])::(nat_lit 251,fo "_law_bent_need" 46 3 [] vn vn vn (vs "law_manyleaves_k36_whole_lean_sets" 402) none (vr 250) vn 0)::(nat_lit 252,ot (#[]) #[])::(nat_lit 255,oc (#[vs "_law_tree_of" 504,vs "_law_tree_of" 505,fcp 506,vi 234 0,vi 3 0,vi 0 0,vi 0 0,vi 3 0,vr 252,Value.bool true,vi 181 0,vr 253,vn,vn,vn,vr 254,vi 507 0,vi 234 0,fcp 508]) #[])::(nat_lit 256,fo "_law_tree_of" 47 3 [] vn vn vn (vs "law_manyleaves_k36_whole_lean_sets" 402) none (vr 255) vn 0)::(nat_lit 257,ot (#[]) #[])::(nat_lit 260,oc (#[vs "_law_is_lean" 510,vs "_law_is_lean" 511,fcp 512,vi 252 0,vi 2 0,vi 0 0,vi 0 0,vi 3 0,vr 257,Value.bool true,vi 181 0,vr 258,vn,vn,vn,vr 259,vi 513 0,vi 252 0,fcp 514]) #[])::(nat_lit 261,fo "_law_is_lean" 48 3 [] vn vn vn (vs "law_manyleaves_k36_whole_lean_sets" 402) none (vr 260) vn 0)::(nat_lit 262,ot (#[]) #[])::(nat_lit 265,oc (#[vs "_law_good" 516,vs "_law_good" 517,fcp 518,vi 255 0,vi 5 0,vi 0 0,vi 0 0,vi 3 0,vr 262,Value.bool true,vi 181 0,vr 263,vn,vn,vn,vr 264,vi 519 0,vi 255 0,fcp 520]) #[])::(nat_lit 266,fo "_law_good" 49 3 [] vn vn vn (vs "law_manyleaves_k36_whole_lean_sets" 402) none (vr 265) vn 0)::(nat_lit 267,ot (#[]) #[])::(nat_lit 269,ot (#[vs "_law_script" 525,vs "_law_deck_here" 526,vs "_law_web_here" 527,vs "_law_near_here" 528,vs "_law_sets" 529,vs "_law_busy" 530]) #[])::(nat_lit 270,ot (#[]) #[])::(nat_lit 272,oc (#[vs "law" 522,vs "law" 523,fcp 524,vi 278 0,vi 1 0,vi 0 0,vi 0 0,vi 3 0,vr 267,Value.bool true,vi 181 0,vr 268,vn,vr 269,vr 270,vr 271,vi 531 0,vi 278 0,fcp 532]) #[])::(nat_lit 273,fo "law" 50 3 [] vn vn vn (vs "law_manyleaves_k36_whole_lean_sets" 402) none (vr 272) vn 0)::[]
def viewP:Program:={PySem.Challenge.pw_manyleaves_k36_whole_lean_sets with main:={PySem.Challenge.pw_manyleaves_k36_whole_lean_sets.main with body:=[top 1,top 2,top 4,top 5,top 6,top 7,top 8,top 9,top 11,top 12,top 13,top 14,top 16,top 17,top 19,top 21,top 22,top 24,top 25,top 26,top 27,top 28,top 29,top 30,top 31,top 33,top 34,top 35,top 36,top 37,top 38,top 39,top 40,top 41,top 42,top 43,top 44,top 45,top 46,top 47,top 48,top 49,top 50]}}
def addrs:List Addr:=[2,3,15,17,18,20,21,22,24,25,27,28,29,31,32,34,35,36,38,39,41,42,43,46,47,48,51,52,53,55,56,58,59,60,63,64,65,67,68,70,71,72,74,75,77,78,79,82,83,84,87,88,89,91,92,94,95,96,99,100,101,103,104,106,107,108,110,111,113,114,115,118,119,120,123,124,125,128,129,130,132,133,135,136,137,139,140,142,143,144,146,147,149,150,151,153,154,156,157,158,160,161,163,164,165,168,169,170,172,173,175,176,177,180,181,182,184,185,187,188,189,192,193,194,197,198,199,202,203,204,206,207,209,210,211,213,214,216,217,218,221,222,223,225,226,228,229,230,233,234,235,237,238,240,241,242,245,246,247,250,251,252,255,256,257,260,261,262,265,266,267,269,270,272,273]
theorem addr:∀ P,addrs=(heapK P).map (·.1):=fun _=>by kernel_rfl
abbrev A_ (K:PySem.W.Frag)(n:Str)(f:Addr):Prop:=PySem.W.nsIn K mainGlobals n=some (some (.ref f))
abbrev L_ (K:PySem.W.Frag)(f:Addr)(oc:Value)(od:Option Addr)(n:Str)(i:Nat)(kv dc pm:Value)(an:Option Addr)(cd ct:Value)(sl:Array (Option Value)):Prop:=K.lookup f=some ⟨oc,od,.func (PySem.W.fnOf n n (defArgs (top i)) (defBody (top i)) (defScope (top i)) .none kv dc pm an cd ct),sl⟩
abbrev C_ (K:PySem.W.Frag)(cd:Value)(n:Str):Prop:=PySem.W.codeIn K cd n=true
abbrev J_ (K:PySem.W.Frag)(f:Addr):Prop:=PySem.W.keepIn K (.ref f)=true
theorem all_mk {l:PySem.W.OpenLaw}{w:World}{K:PySem.W.Frag}{h:Heap}{mg:Str→Option Value}(X:K.In h)(G:h.Ns mainGlobals mg)(hfa:mg "law"=some (.ref fa))(a1:A_ K "_law_mixed" f1)(l1:L_ K f1 oc1 od1 "_law_mixed" 33 kV1 dc1 pm1 an1 cd1 ct1 sl1)(c1:C_ K cd1 "_law_mixed")(k1:J_ K f1)(a2:A_ K "_law_next" f2)(l2:L_ K f2 oc2 od2 "_law_next" 35 kV2 dc2 pm2 an2 cd2 ct2 sl2)(c2:C_ K cd2 "_law_next")(k2:J_ K f2)(a3:A_ K "_law_deck" f3)(l3:L_ K f3 oc3 od3 "_law_deck" 34 kV3 dc3 pm3 an3 cd3 ct3 sl3)(c3:C_ K cd3 "_law_deck")(k3:J_ K f3)(a4:A_ K "_law_turn" f4)(l4:L_ K f4 oc4 od4 "_law_turn" 36 kV4 dc4 pm4 an4 cd4 ct4 sl4)(c4:C_ K cd4 "_law_turn")(k4:J_ K f4)(a5:A_ K "_law_web" f5)(l5:L_ K f5 oc5 od5 "_law_web" 37 kV5 dc5 pm5 an5 cd5 ct5 sl5)(c5:C_ K cd5 "_law_web")(k5:J_ K f5)(a6:A_ K "_law_near" f6)(l6:L_ K f6 oc6 od6 "_law_near" 38 kV6 dc6 pm6 an6 cd6 ct6 sl6)(c6:C_ K cd6 "_law_near")(k6:J_ K f6)(a7:A_ K "neighbour_rows" f7)(l7:L_ K f7 oc7 od7 "neighbour_rows" 6 kV7 dc7 pm7 an7 cd7 ct7 sl7)(c7:C_ K cd7 "neighbour_rows")(k7:J_ K f7)(a8:A_ K "is_int" f8)(l8:L_ K f8 oc8 od8 "is_int" 1 kV8 dc8 pm8 an8 cd8 ct8 sl8)(c8:C_ K cd8 "is_int")(k8:J_ K f8)(a9:A_ K "is_between" f9)(l9:L_ K f9 oc9 od9 "is_between" 2 kV9 dc9 pm9 an9 cd9 ct9 sl9)(c9:C_ K cd9 "is_between")(k9:J_ K f9)(a10:A_ K "is_place" f10)(l10:L_ K f10 oc10 od10 "is_place" 11 kV10 dc10 pm10 an10 cd10 ct10 sl10)(c10:C_ K cd10 "is_place")(k10:J_ K f10)(a11:A_ K "is_rising" f11)(l11:L_ K f11 oc11 od11 "is_rising" 5 kV11 dc11 pm11 an11 cd11 ct11 sl11)(c11:C_ K cd11 "is_rising")(k11:J_ K f11)(a12:A_ K "is_place_row" f12)(l12:L_ K f12 oc12 od12 "is_place_row" 12 kV12 dc12 pm12 an12 cd12 ct12 sl12)(c12:C_ K cd12 "is_place_row")(k12:J_ K f12)(a13:A_ K "lot_rows" f13)(l13:L_ K f13 oc13 od13 "lot_rows" 13 kV13 dc13 pm13 an13 cd13 ct13 sl13)(c13:C_ K cd13 "lot_rows")(k13:J_ K f13)(a14:A_ K "have_common" f14)(l14:L_ K f14 oc14 od14 "have_common" 14 kV14 dc14 pm14 an14 cd14 ct14 sl14)(c14:C_ K cd14 "have_common")(k14:J_ K f14)(a15:A_ K "touched" f15)(l15:L_ K f15 oc15 od15 "touched" 7 kV15 dc15 pm15 an15 cd15 ct15 sl15)(c15:C_ K cd15 "touched")(k15:J_ K f15)(a16:A_ K "piece_from" f16)(l16:L_ K f16 oc16 od16 "piece_from" 8 kV16 dc16 pm16 an16 cd16 ct16 sl16)(c16:C_ K cd16 "piece_from")(k16:J_ K f16)(a17:A_ K "pieces" f17)(l17:L_ K f17 oc17 od17 "pieces" 9 kV17 dc17 pm17 an17 cd17 ct17 sl17)(c17:C_ K cd17 "pieces")(k17:J_ K f17)(a18:A_ K "all_but" f18)(l18:L_ K f18 oc18 od18 "all_but" 24 kV18 dc18 pm18 an18 cd18 ct18 sl18)(c18:C_ K cd18 "all_but")(k18:J_ K f18)(a19:A_ K "has_alone" f19)(l19:L_ K f19 oc19 od19 "has_alone" 25 kV19 dc19 pm19 an19 cd19 ct19 sl19)(c19:C_ K cd19 "has_alone")(k19:J_ K f19)(a20:A_ K "_law_reach" f20)(l20:L_ K f20 oc20 od20 "_law_reach" 39 kV20 dc20 pm20 an20 cd20 ct20 sl20)(c20:C_ K cd20 "_law_reach")(k20:J_ K f20)(a21:A_ K "_law_hang" f21)(l21:L_ K f21 oc21 od21 "_law_hang" 40 kV21 dc21 pm21 an21 cd21 ct21 sl21)(c21:C_ K cd21 "_law_hang")(k21:J_ K f21)(a22:A_ K "_law_touched" f22)(l22:L_ K f22 oc22 od22 "_law_touched" 41 kV22 dc22 pm22 an22 cd22 ct22 sl22)(c22:C_ K cd22 "_law_touched")(k22:J_ K f22)(a23:A_ K "_law_is_set" f23)(l23:L_ K f23 oc23 od23 "_law_is_set" 42 kV23 dc23 pm23 an23 cd23 ct23 sl23)(c23:C_ K cd23 "_law_is_set")(k23:J_ K f23)(a24:A_ K "_law_all_sets" f24)(l24:L_ K f24 oc24 od24 "_law_all_sets" 43 kV24 dc24 pm24 an24 cd24 ct24 sl24)(c24:C_ K cd24 "_law_all_sets")(k24:J_ K f24)(a25:A_ K "_law_lot" f25)(l25:L_ K f25 oc25 od25 "_law_lot" 44 kV25 dc25 pm25 an25 cd25 ct25 sl25)(c25:C_ K cd25 "_law_lot")(k25:J_ K f25)(a26:A_ K "tie_of" f26)(l26:L_ K f26 oc26 od26 "tie_of" 4 kV26 dc26 pm26 an26 cd26 ct26 sl26)(c26:C_ K cd26 "tie_of")(k26:J_ K f26)(a27:A_ K "tree_of" f27)(l27:L_ K f27 oc27 od27 "tree_of" 19 kV27 dc27 pm27 an27 cd27 ct27 sl27)(c27:C_ K cd27 "tree_of")(k27:J_ K f27)(a28:A_ K "tree_by" f28)(l28:L_ K f28 oc28 od28 "tree_by" 22 kV28 dc28 pm28 an28 cd28 ct28 sl28)(c28:C_ K cd28 "tree_by")(k28:J_ K f28)(a29:A_ K "right_set" f29)(l29:L_ K f29 oc29 od29 "right_set" 21 kV29 dc29 pm29 an29 cd29 ct29 sl29)(c29:C_ K cd29 "right_set")(k29:J_ K f29)(a30:A_ K "right_own" f30)(l30:L_ K f30 oc30 od30 "right_own" 26 kV30 dc30 pm30 an30 cd30 ct30 sl30)(c30:C_ K cd30 "right_own")(k30:J_ K f30)(a31:A_ K "right_side" f31)(l31:L_ K f31 oc31 od31 "right_side" 27 kV31 dc31 pm31 an31 cd31 ct31 sl31)(c31:C_ K cd31 "right_side")(k31:J_ K f31)(a32:A_ K "right_need" f32)(l32:L_ K f32 oc32 od32 "right_need" 28 kV32 dc32 pm32 an32 cd32 ct32 sl32)(c32:C_ K cd32 "right_need")(k32:J_ K f32)(a33:A_ K "right_needs" f33)(l33:L_ K f33 oc33 od33 "right_needs" 29 kV33 dc33 pm33 an33 cd33 ct33 sl33)(c33:C_ K cd33 "right_needs")(k33:J_ K f33)(a34:A_ K "need_of" f34)(l34:L_ K f34 oc34 od34 "need_of" 30 kV34 dc34 pm34 an34 cd34 ct34 sl34)(c34:C_ K cd34 "need_of")(k34:J_ K f34)(a35:A_ K "lean_of" f35)(l35:L_ K f35 oc35 od35 "lean_of" 31 kV35 dc35 pm35 an35 cd35 ct35 sl35)(c35:C_ K cd35 "lean_of")(k35:J_ K f35)(a36:A_ K "tree_rows" f36)(l36:L_ K f36 oc36 od36 "tree_rows" 16 kV36 dc36 pm36 an36 cd36 ct36 sl36)(c36:C_ K cd36 "tree_rows")(k36:J_ K f36)(a37:A_ K "leaves_of" f37)(l37:L_ K f37 oc37 od37 "leaves_of" 17 kV37 dc37 pm37 an37 cd37 ct37 sl37)(c37:C_ K cd37 "leaves_of")(k37:J_ K f37)(a38:A_ K "_law_is_lean" f38)(l38:L_ K f38 oc38 od38 "_law_is_lean" 48 kV38 dc38 pm38 an38 cd38 ct38 sl38)(c38:C_ K cd38 "_law_is_lean")(k38:J_ K f38)(a39:A_ K "_law_some_need" f39)(l39:L_ K f39 oc39 od39 "_law_some_need" 45 kV39 dc39 pm39 an39 cd39 ct39 sl39)(c39:C_ K cd39 "_law_some_need")(k39:J_ K f39)(a40:A_ K "_law_bent_need" f40)(l40:L_ K f40 oc40 od40 "_law_bent_need" 46 kV40 dc40 pm40 an40 cd40 ct40 sl40)(c40:C_ K cd40 "_law_bent_need")(k40:J_ K f40)(a41:A_ K "_law_tree_of" f41)(l41:L_ K f41 oc41 od41 "_law_tree_of" 47 kV41 dc41 pm41 an41 cd41 ct41 sl41)(c41:C_ K cd41 "_law_tree_of")(k41:J_ K f41)(a42:A_ K "_law_good" f42)(l42:L_ K f42 oc42 od42 "_law_good" 49 kV42 dc42 pm42 an42 cd42 ct42 sl42)(c42:C_ K cd42 "_law_good")(k42:J_ K f42)(a43:A_ K "law" f43)(l43:L_ K f43 oc43 od43 "law" 50 kV43 dc43 pm43 an43 cd43 ct43 sl43)(c43:C_ K cd43 "law")(k43:J_ K f43)
  (z1:PySem.W.nsIn K mainGlobals "len"=some none) (z2:PySem.W.nsIn K mainGlobals "range"=some none) (z3:PySem.W.nsIn K mainGlobals "list"=some none) (z4:PySem.W.nsIn K mainGlobals "tuple"=some none) (z5:PySem.W.nsIn K mainGlobals "sorted"=some none) (z6:PySem.W.nsIn K mainGlobals "min"=some none) (z7:PySem.W.nsIn K mainGlobals "max"=some none) (z8:PySem.W.nsIn K mainGlobals "int"=some none) (z9:PySem.W.nsIn K mainGlobals "reversed"=some none) (z10:PySem.W.nsIn K mainGlobals "isinstance"=some none) (z11:PySem.W.nsIn K mainGlobals "bool"=some none) (z12:PySem.W.nsIn K mainGlobals "all"=some none) (z13:PySem.W.nsIn K mainGlobals "set"=some none) (z14:PySem.W.nsIn K mainGlobals "enumerate"=some none) (z15:PySem.W.nsIn K mainGlobals "zip"=some none) (z16:PySem.W.nsIn K mainGlobals "sum"=some none) (z17:PySem.W.nsIn K mainGlobals "any"=some none) :
  ∃ fd:FuncData,(∀ (s:Shared) (v:Value),BindsTo s fd ⟨[v],[]⟩ [("_law_script",v)])∧∀ base:Heap,K.In base→base.Ns mainGlobals mg→FnOk l.prog w K mg base CX0 9 fa fd ["_law_script"] (sp_law K):=by
 have e:=hfa.symm.trans (PySem.W.mg_of X G a43);cases e;have B:Bt mg:=⟨PySem.W.mg_none_of X G z1,PySem.W.mg_none_of X G z2,PySem.W.mg_none_of X G z3,PySem.W.mg_none_of X G z4,PySem.W.mg_none_of X G z5,PySem.W.mg_none_of X G z6,PySem.W.mg_none_of X G z7,PySem.W.mg_none_of X G z8,PySem.W.mg_none_of X G z9⟩
 have C:Bt2 mg:=⟨PySem.W.mg_none_of X G z10,PySem.W.mg_none_of X G z11,PySem.W.mg_none_of X G z12,PySem.W.mg_none_of X G z13,PySem.W.mg_none_of X G z14,PySem.W.mg_none_of X G z15⟩
 have C3:Bt3 mg:=⟨PySem.W.mg_none_of X G z16,PySem.W.mg_none_of X G z17⟩
 have F1:=fun_mk (st:=top 33) l1 c1 k1;have D1:Df K mg "_law_mixed" (top 33) f1 _ ["_law_cell", "_law_k"]:=⟨F1,F1.binds fun _ _ _ _ _ _ us hl=>L2.al2 (P:=fun us=>bindArgs _ ⟨us,[]⟩=pure (List.zip _ us)) (fun _ _=>rfl) us hl,PySem.W.mg_of X G a1⟩
 have F2:=fun_mk (st:=top 35) l2 c2 k2;have D2:Df K mg "_law_next" (top 35) f2 _ ["_law_deck_here"]:=⟨F2,F2.binds fun _ _ _ _ _ _ us hl=>L2.al1 (P:=fun us=>bindArgs _ ⟨us,[]⟩=pure (List.zip _ us)) (fun _=>rfl) us hl,PySem.W.mg_of X G a2⟩
 have F3:=fun_mk (st:=top 34) l3 c3 k3;have D3:Df K mg "_law_deck" (top 34) f3 _ ["_law_script", "_law_many"]:=⟨F3,F3.binds fun _ _ _ _ _ _ us hl=>L2.al2 (P:=fun us=>bindArgs _ ⟨us,[]⟩=pure (List.zip _ us)) (fun _ _=>rfl) us hl,PySem.W.mg_of X G a3⟩
 have F4:=fun_mk (st:=top 36) l4 c4 k4;have D4:Df K mg "_law_turn" (top 36) f4 _ ["_law_deck_here", "_law_many"]:=⟨F4,F4.binds fun _ _ _ _ _ _ us hl=>L2.al2 (P:=fun us=>bindArgs _ ⟨us,[]⟩=pure (List.zip _ us)) (fun _ _=>rfl) us hl,PySem.W.mg_of X G a4⟩
 have F5:=fun_mk (st:=top 37) l5 c5 k5;have D5:Df K mg "_law_web" (top 37) f5 _ ["_law_deck_here", "_law_least", "_law_most"]:=⟨F5,F5.binds fun _ _ _ _ _ _ us hl=>L2.al3 (P:=fun us=>bindArgs _ ⟨us,[]⟩=pure (List.zip _ us)) (fun _ _ _=>rfl) us hl,PySem.W.mg_of X G a5⟩
 have F6:=fun_mk (st:=top 38) l6 c6 k6;have D6:Df K mg "_law_near" (top 38) f6 _ ["_law_web_here"]:=⟨F6,F6.binds fun _ _ _ _ _ _ us hl=>L2.al1 (P:=fun us=>bindArgs _ ⟨us,[]⟩=pure (List.zip _ us)) (fun _=>rfl) us hl,PySem.W.mg_of X G a6⟩
 have F7:=fun_mk (st:=top 6) l7 c7 k7;have D7:Df K mg "neighbour_rows" (top 6) f7 _ ["web"]:=⟨F7,F7.binds fun _ _ _ _ _ _ us hl=>L2.al1 (P:=fun us=>bindArgs _ ⟨us,[]⟩=pure (List.zip _ us)) (fun _=>rfl) us hl,PySem.W.mg_of X G a7⟩
 have F8:=fun_mk (st:=top 1) l8 c8 k8;have D8:Df K mg "is_int" (top 1) f8 _ ["thing"]:=⟨F8,F8.binds fun _ _ _ _ _ _ us hl=>L2.al1 (P:=fun us=>bindArgs _ ⟨us,[]⟩=pure (List.zip _ us)) (fun _=>rfl) us hl,PySem.W.mg_of X G a8⟩
 have F9:=fun_mk (st:=top 2) l9 c9 k9;have D9:Df K mg "is_between" (top 2) f9 _ ["thing", "least", "most"]:=⟨F9,F9.binds fun _ _ _ _ _ _ us hl=>L2.al3 (P:=fun us=>bindArgs _ ⟨us,[]⟩=pure (List.zip _ us)) (fun _ _ _=>rfl) us hl,PySem.W.mg_of X G a9⟩
 have F10:=fun_mk (st:=top 11) l10 c10 k10;have D10:Df K mg "is_place" (top 11) f10 _ ["web", "thing"]:=⟨F10,F10.binds fun _ _ _ _ _ _ us hl=>L2.al2 (P:=fun us=>bindArgs _ ⟨us,[]⟩=pure (List.zip _ us)) (fun _ _=>rfl) us hl,PySem.W.mg_of X G a10⟩
 have F11:=fun_mk (st:=top 5) l11 c11 k11;have D11:Df K mg "is_rising" (top 5) f11 _ ["items"]:=⟨F11,F11.binds fun _ _ _ _ _ _ us hl=>L2.al1 (P:=fun us=>bindArgs _ ⟨us,[]⟩=pure (List.zip _ us)) (fun _=>rfl) us hl,PySem.W.mg_of X G a11⟩
 have F12:=fun_mk (st:=top 12) l12 c12 k12;have D12:Df K mg "is_place_row" (top 12) f12 _ ["web", "thing"]:=⟨F12,F12.binds fun _ _ _ _ _ _ us hl=>L2.al2 (P:=fun us=>bindArgs _ ⟨us,[]⟩=pure (List.zip _ us)) (fun _ _=>rfl) us hl,PySem.W.mg_of X G a12⟩
 have F13:=fun_mk (st:=top 13) l13 c13 k13;have D13:Df K mg "lot_rows" (top 13) f13 _ ["web"]:=⟨F13,F13.binds fun _ _ _ _ _ _ us hl=>L2.al1 (P:=fun us=>bindArgs _ ⟨us,[]⟩=pure (List.zip _ us)) (fun _=>rfl) us hl,PySem.W.mg_of X G a13⟩
 have F14:=fun_mk (st:=top 14) l14 c14 k14;have D14:Df K mg "have_common" (top 14) f14 _ ["one", "other"]:=⟨F14,F14.binds fun _ _ _ _ _ _ us hl=>L2.al2 (P:=fun us=>bindArgs _ ⟨us,[]⟩=pure (List.zip _ us)) (fun _ _=>rfl) us hl,PySem.W.mg_of X G a14⟩
 have F15:=fun_mk (st:=top 7) l15 c15 k15;have D15:Df K mg "touched" (top 7) f15 _ ["web", "places"]:=⟨F15,F15.binds fun _ _ _ _ _ _ us hl=>L2.al2 (P:=fun us=>bindArgs _ ⟨us,[]⟩=pure (List.zip _ us)) (fun _ _=>rfl) us hl,PySem.W.mg_of X G a15⟩
 have F16:=fun_mk (st:=top 8) l16 c16 k16;have D16:Df K mg "piece_from" (top 8) f16 _ ["rows", "among", "start"]:=⟨F16,F16.binds fun _ _ _ _ _ _ us hl=>L2.al3 (P:=fun us=>bindArgs _ ⟨us,[]⟩=pure (List.zip _ us)) (fun _ _ _=>rfl) us hl,PySem.W.mg_of X G a16⟩
 have F17:=fun_mk (st:=top 9) l17 c17 k17;have D17:Df K mg "pieces" (top 9) f17 _ ["web", "places"]:=⟨F17,F17.binds fun _ _ _ _ _ _ us hl=>L2.al2 (P:=fun us=>bindArgs _ ⟨us,[]⟩=pure (List.zip _ us)) (fun _ _=>rfl) us hl,PySem.W.mg_of X G a17⟩
 have F18:=fun_mk (st:=top 24) l18 c18 k18;have D18:Df K mg "all_but" (top 24) f18 _ ["places", "some"]:=⟨F18,F18.binds fun _ _ _ _ _ _ us hl=>L2.al2 (P:=fun us=>bindArgs _ ⟨us,[]⟩=pure (List.zip _ us)) (fun _ _=>rfl) us hl,PySem.W.mg_of X G a18⟩
 have F19:=fun_mk (st:=top 25) l19 c19 k19;have D19:Df K mg "has_alone" (top 25) f19 _ ["lot", "busy", "place"]:=⟨F19,F19.binds fun _ _ _ _ _ _ us hl=>L2.al3 (P:=fun us=>bindArgs _ ⟨us,[]⟩=pure (List.zip _ us)) (fun _ _ _=>rfl) us hl,PySem.W.mg_of X G a19⟩
 have F20:=fun_mk (st:=top 39) l20 c20 k20;have D20:Df K mg "_law_reach" (top 39) f20 _ ["_law_near_here", "_law_start", "_law_allowed"]:=⟨F20,F20.binds fun _ _ _ _ _ _ us hl=>L2.al3 (P:=fun us=>bindArgs _ ⟨us,[]⟩=pure (List.zip _ us)) (fun _ _ _=>rfl) us hl,PySem.W.mg_of X G a20⟩
 have F21:=fun_mk (st:=top 40) l21 c21 k21;have D21:Df K mg "_law_hang" (top 40) f21 _ ["_law_near_here", "_law_places"]:=⟨F21,F21.binds fun _ _ _ _ _ _ us hl=>L2.al2 (P:=fun us=>bindArgs _ ⟨us,[]⟩=pure (List.zip _ us)) (fun _ _=>rfl) us hl,PySem.W.mg_of X G a21⟩
 have F22:=fun_mk (st:=top 41) l22 c22 k22;have D22:Df K mg "_law_touched" (top 41) f22 _ ["_law_near_here", "_law_places"]:=⟨F22,F22.binds fun _ _ _ _ _ _ us hl=>L2.al2 (P:=fun us=>bindArgs _ ⟨us,[]⟩=pure (List.zip _ us)) (fun _ _=>rfl) us hl,PySem.W.mg_of X G a22⟩
 have F23:=fun_mk (st:=top 42) l23 c23 k23;have D23:Df K mg "_law_is_set" (top 42) f23 _ ["_law_near_here", "_law_places"]:=⟨F23,F23.binds fun _ _ _ _ _ _ us hl=>L2.al2 (P:=fun us=>bindArgs _ ⟨us,[]⟩=pure (List.zip _ us)) (fun _ _=>rfl) us hl,PySem.W.mg_of X G a23⟩
 have F24:=fun_mk (st:=top 43) l24 c24 k24;have D24:Df K mg "_law_all_sets" (top 43) f24 _ ["_law_near_here"]:=⟨F24,F24.binds fun _ _ _ _ _ _ us hl=>L2.al1 (P:=fun us=>bindArgs _ ⟨us,[]⟩=pure (List.zip _ us)) (fun _=>rfl) us hl,PySem.W.mg_of X G a24⟩
 have F25:=fun_mk (st:=top 44) l25 c25 k25;have D25:Df K mg "_law_lot" (top 44) f25 _ ["_law_near_here", "_law_p"]:=⟨F25,F25.binds fun _ _ _ _ _ _ us hl=>L2.al2 (P:=fun us=>bindArgs _ ⟨us,[]⟩=pure (List.zip _ us)) (fun _ _=>rfl) us hl,PySem.W.mg_of X G a25⟩
 have F26:=fun_mk (st:=top 4) l26 c26 k26;have D26:Df K mg "tie_of" (top 4) f26 _ ["one", "other"]:=⟨F26,F26.binds fun _ _ _ _ _ _ us hl=>L2.al2 (P:=fun us=>bindArgs _ ⟨us,[]⟩=pure (List.zip _ us)) (fun _ _=>rfl) us hl,PySem.W.mg_of X G a26⟩
 have F27:=fun_mk (st:=top 19) l27 c27 k27;have D27:Df K mg "tree_of" (top 19) f27 _ ["parents"]:=⟨F27,F27.binds fun _ _ _ _ _ _ us hl=>L2.al1 (P:=fun us=>bindArgs _ ⟨us,[]⟩=pure (List.zip _ us)) (fun _=>rfl) us hl,PySem.W.mg_of X G a27⟩
 have F28:=fun_mk (st:=top 22) l28 c28 k28;have D28:Df K mg "tree_by" (top 22) f28 _ ["web", "busy"]:=⟨F28,F28.binds fun _ _ _ _ _ _ us hl=>L2.al2 (P:=fun us=>bindArgs _ ⟨us,[]⟩=pure (List.zip _ us)) (fun _ _=>rfl) us hl,PySem.W.mg_of X G a28⟩
 have F29:=fun_mk (st:=top 21) l29 c29 k29;have D29:Df K mg "right_set" (top 21) f29 _ ["web", "thing"]:=⟨F29,F29.binds fun _ _ _ _ _ _ us hl=>L2.al2 (P:=fun us=>bindArgs _ ⟨us,[]⟩=pure (List.zip _ us)) (fun _ _=>rfl) us hl,PySem.W.mg_of X G a29⟩
 have F30:=fun_mk (st:=top 26) l30 c30 k30;have D30:Df K mg "right_own" (top 26) f30 _ ["web", "busy", "place", "thing"]:=⟨F30,F30.binds fun _ _ _ _ _ _ us hl=>L2.al4 (P:=fun us=>bindArgs _ ⟨us,[]⟩=pure (List.zip _ us)) (fun _ _ _ _=>rfl) us hl,PySem.W.mg_of X G a30⟩
 have F31:=fun_mk (st:=top 27) l31 c31 k31;have D31:Df K mg "right_side" (top 27) f31 _ ["web", "busy", "place", "thing"]:=⟨F31,F31.binds fun _ _ _ _ _ _ us hl=>L2.al4 (P:=fun us=>bindArgs _ ⟨us,[]⟩=pure (List.zip _ us)) (fun _ _ _ _=>rfl) us hl,PySem.W.mg_of X G a31⟩
 have F32:=fun_mk (st:=top 28) l32 c32 k32;have D32:Df K mg "right_need" (top 28) f32 _ ["web", "busy", "place", "thing"]:=⟨F32,F32.binds fun _ _ _ _ _ _ us hl=>L2.al4 (P:=fun us=>bindArgs _ ⟨us,[]⟩=pure (List.zip _ us)) (fun _ _ _ _=>rfl) us hl,PySem.W.mg_of X G a32⟩
 have F33:=fun_mk (st:=top 29) l33 c33 k33;have D33:Df K mg "right_needs" (top 29) f33 _ ["web", "busy", "thing"]:=⟨F33,F33.binds fun _ _ _ _ _ _ us hl=>L2.al3 (P:=fun us=>bindArgs _ ⟨us,[]⟩=pure (List.zip _ us)) (fun _ _ _=>rfl) us hl,PySem.W.mg_of X G a33⟩
 have F34:=fun_mk (st:=top 30) l34 c34 k34;have D34:Df K mg "need_of" (top 30) f34 _ ["web", "busy", "place"]:=⟨F34,F34.binds fun _ _ _ _ _ _ us hl=>L2.al3 (P:=fun us=>bindArgs _ ⟨us,[]⟩=pure (List.zip _ us)) (fun _ _ _=>rfl) us hl,PySem.W.mg_of X G a34⟩
 have F35:=fun_mk (st:=top 31) l35 c35 k35;have D35:Df K mg "lean_of" (top 31) f35 _ ["web", "busy", "order"]:=⟨F35,F35.binds fun _ _ _ _ _ _ us hl=>L2.al3 (P:=fun us=>bindArgs _ ⟨us,[]⟩=pure (List.zip _ us)) (fun _ _ _=>rfl) us hl,PySem.W.mg_of X G a35⟩
 have F36:=fun_mk (st:=top 16) l36 c36 k36;have D36:Df K mg "tree_rows" (top 16) f36 _ ["tree"]:=⟨F36,F36.binds fun _ _ _ _ _ _ us hl=>L2.al1 (P:=fun us=>bindArgs _ ⟨us,[]⟩=pure (List.zip _ us)) (fun _=>rfl) us hl,PySem.W.mg_of X G a36⟩
 have F37:=fun_mk (st:=top 17) l37 c37 k37;have D37:Df K mg "leaves_of" (top 17) f37 _ ["tree"]:=⟨F37,F37.binds fun _ _ _ _ _ _ us hl=>L2.al1 (P:=fun us=>bindArgs _ ⟨us,[]⟩=pure (List.zip _ us)) (fun _=>rfl) us hl,PySem.W.mg_of X G a37⟩
 have F38:=fun_mk (st:=top 48) l38 c38 k38;have D38:Df K mg "_law_is_lean" (top 48) f38 _ ["_law_sets", "_law_busy"]:=⟨F38,F38.binds fun _ _ _ _ _ _ us hl=>L2.al2 (P:=fun us=>bindArgs _ ⟨us,[]⟩=pure (List.zip _ us)) (fun _ _=>rfl) us hl,PySem.W.mg_of X G a38⟩
 have F39:=fun_mk (st:=top 45) l39 c39 k39;have D39:Df K mg "_law_some_need" (top 45) f39 _ ["_law_deck_here", "_law_near_here", "_law_busy", "_law_place"]:=⟨F39,F39.binds fun _ _ _ _ _ _ us hl=>L2.al4 (P:=fun us=>bindArgs _ ⟨us,[]⟩=pure (List.zip _ us)) (fun _ _ _ _=>rfl) us hl,PySem.W.mg_of X G a39⟩
 have F40:=fun_mk (st:=top 46) l40 c40 k40;have D40:Df K mg "_law_bent_need" (top 46) f40 _ ["_law_deck_here", "_law_many", "_law_busy", "_law_need"]:=⟨F40,F40.binds fun _ _ _ _ _ _ us hl=>L2.al4 (P:=fun us=>bindArgs _ ⟨us,[]⟩=pure (List.zip _ us)) (fun _ _ _ _=>rfl) us hl,PySem.W.mg_of X G a40⟩
 have F41:=fun_mk (st:=top 47) l41 c41 k41;have D41:Df K mg "_law_tree_of" (top 47) f41 _ ["_law_deck_here", "_law_near_here", "_law_busy"]:=⟨F41,F41.binds fun _ _ _ _ _ _ us hl=>L2.al3 (P:=fun us=>bindArgs _ ⟨us,[]⟩=pure (List.zip _ us)) (fun _ _ _=>rfl) us hl,PySem.W.mg_of X G a41⟩
 have F42:=fun_mk (st:=top 49) l42 c42 k42;have D42:Df K mg "_law_good" (top 49) f42 _ ["_law_deck_here", "_law_web_here", "_law_near_here", "_law_busy", "_law_is_lean_here"]:=⟨F42,F42.binds fun _ _ _ _ _ _ us hl=>L2.al5 (P:=fun us=>bindArgs _ ⟨us,[]⟩=pure (List.zip _ us)) (fun _ _ _ _ _=>rfl) us hl,PySem.W.mg_of X G a42⟩
 have F43:=fun_mk (st:=top 50) l43 c43 k43;refine⟨PySem.W.fnOf "law" "law" (defArgs (top 50)) (defBody (top 50)) (defScope (top 50)) .none kV43 dc43 pm43 an43 cd43 ct43,fun s v=>.of_eq rfl,fun base _ _=>?_⟩;have O1:=ok_mixed (P:=l.prog) (w:=w) (base:=base) F1 B;have O2:=ok_next (P:=l.prog) (w:=w) (base:=base) F2 B;have O3:=ok_deck (P:=l.prog) (w:=w) (base:=base) F3 B D1 O1;have O4:=ok_turn (P:=l.prog) (w:=w) (base:=base) F4 B D2 O2;have O5:=ok_webc (P:=l.prog) (w:=w) (base:=base) F5 B D2 O2 D4 O4;have O6:=ok_near (P:=l.prog) (w:=w) (base:=base) F6 B;have O7:=ok_nrows (P:=l.prog) (w:=w) (base:=base) F7 B;have O8:=ok_pint (P:=l.prog) (w:=w) (base:=base) F8 B C;have O9:=ok_pbetw (P:=l.prog) (w:=w) (base:=base) F9 B D8 O8;have O10:=ok_isplace (P:=l.prog) (w:=w) (base:=base) F10 B D9 O9;have O11:=ok_risI (P:=l.prog) (w:=w) (base:=base) F11 B;have O12:=ok_vrowX (P:=l.prog) (w:=w) (base:=base) F12 B D10 O10 D11 O11 C;have O13:=ok_lots (P:=l.prog) (w:=w) (base:=base) F13 B D7 O7 C;have O14:=ok_common (P:=l.prog) (w:=w) (base:=base) F14 B C3;have O15:=ok_touched (P:=l.prog) (w:=w) (base:=base) F15 B D7 O7;have O16:=ok_pfrom (P:=l.prog) (w:=w) (base:=base) F16 B;have O17:=ok_pieces (P:=l.prog) (w:=w) (base:=base) F17 B D7 O7 D16 O16;have O18:=ok_allbut (P:=l.prog) (w:=w) (base:=base) F18 B;have O19:=ok_alone (P:=l.prog) (w:=w) (base:=base) F19 B;have O20:=ok_reach (P:=l.prog) (w:=w) (base:=base) F20 B;have O21:=ok_hang2 (P:=l.prog) (w:=w) (base:=base) F21 B D20 O20;have O22:=ok_ltch (P:=l.prog) (w:=w) (base:=base) F22 B;have O23:=ok_isset (P:=l.prog) (w:=w) (base:=base) F23 B D21 O21 D22 O22;have O24:=ok_allsets (P:=l.prog) (w:=w) (base:=base) F24 B D23 O23;have O25:=ok_llot (P:=l.prog) (w:=w) (base:=base) F25 B;have O26:=ok_tieof (P:=l.prog) (w:=w) (base:=base) F26 B C;have O27:=ok_treeof2 (P:=l.prog) (w:=w) (base:=base) F27 B D26 O26 C;have O28:=ok_treeby (P:=l.prog) (w:=w) (base:=base) F28 B D7 O7 D27 O27;have O29:=ok_rsetX (P:=l.prog) (w:=w) (base:=base) F29 B D12 O12 D17 O17 D15 O15;have O30:=ok_rownX (P:=l.prog) (w:=w) (base:=base) F30 B D10 O10 D13 O13 D19 O19;have O31:=ok_rsideX (P:=l.prog) (w:=w) (base:=base) F31 B D12 O12 D18 O18 D15 O15 D14 O14;have O32:=ok_rneedX (P:=l.prog) (w:=w) (base:=base) F32 B D30 O30 D31 O31 C;have O33:=ok_rneedsX (P:=l.prog) (w:=w) (base:=base) F33 B D32 O32 C;have O34:=ok_needof (P:=l.prog) (w:=w) (base:=base) F34 B D13 O13 D19 O19 D17 O17 D18 O18 C;have O35:=ok_leanofX (P:=l.prog) (w:=w) (base:=base) F35 B D18 O18 D29 O29 D34 O34;have O36:=ok_trows (P:=l.prog) (w:=w) (base:=base) F36 B D7 O7;have O37:=ok_leaves (P:=l.prog) (w:=w) (base:=base) F37 B D36 O36 C;have O38:=ok_islean (P:=l.prog) (w:=w) (base:=base) F38 B;have O39:=ok_sneed (P:=l.prog) (w:=w) (base:=base) F39 B D2 O2 D25 O25 D20 O20;have O40:=ok_bneed (P:=l.prog) (w:=w) (base:=base) F40 B D2 O2 C;have O41:=ok_ltof (P:=l.prog) (w:=w) (base:=base) F41 B D2 O2;have O42:=ok_good36 (P:=l.prog) (w:=w) (base:=base) F42 B D39 O39 D2 O2 D40 O40 D33 O33 D35 O35 D28 O28 D41 O41 D37 O37;exact ok_law36 F43 B D3 O3 D5 O5 D6 O6 D24 O24 D38 O38 D42 O42
theorem walk {l:PySem.W.OpenLaw}{q:Program}{loose:List Str}{XP:(Str→Option Value)→Heap→Prop}{YP:World→Heap→Prop}{d:DefRec}{K:Params→PySem.W.Frag}(hn:l.most=some 63)(hdf:d.params.defaults=[])
  (hY:∀ (w:World) (h:Heap),YP w h→(K w.params).In h)
  (F:∀ (w:World) (mg:Str→Option Value) (fa:Addr) (h:Heap),(K w.params).In h→h.Ns mainGlobals mg→mg d.name=some (.ref fa) →
   ∃ fd:FuncData,(∀ (s:Shared) (u:Value),BindsTo s fd ⟨[u],[]⟩ [("_law_script",u)])∧∀ base:Heap,(K w.params).In base→base.Ns mainGlobals mg→FnOk l.prog w (K w.params) mg base CX0 9 fa fd ["_law_script"] (sp_law (K w.params))) :
  PySem.W.WalkO q loose XP YP l.row.toRowW d [] (fun f vs=>PySem.call f vs) :=
 L2.walk_of (n:=63) (k:=9) (x:="_law_script") (CX:=fun _=>CX0) (sp:=fun w=>sp_law (K w.params)) hn (by decide) hdf ⟨rfl,by decide,by decide,rfl⟩ hY F (fun _ _ a ns hl _ hS=>⟨a,ns,rfl,hS,hl,fun _=>rfl⟩) fun _ _ _ _ _ z=>z
end K36
end
open PySem PySem.W PyProof.Rows
set_option maxRecDepth 100000 in
set_option maxHeartbeats 0 in
theorem K36.said:PySem.Challenge.rw_manyleaves_k36_whole_lean_sets.wellSaid=true:=by kernel_rfl
set_option maxRecDepth 100000 in
set_option maxHeartbeats 0 in
theorem K36.left:LeftO (OpenRow.toRowW (OpenLaw.row PySem.Challenge.rw_manyleaves_k36_whole_lean_sets)).prog K36.viewP [] (fun s=>xlAt K36.viewP [] s && recOk (RowW.records (OpenRow.toRowW (OpenLaw.row PySem.Challenge.rw_manyleaves_k36_whole_lean_sets))) s) (Hook.obs (kHook K36.heapK K36.addrs K36.addr)) (Hook.val (kHook K36.heapK K36.addrs K36.addr)) 2740:=by intro w;kernel_rfl
set_option maxRecDepth 100000 in
set_option maxHeartbeats 0 in
theorem PySem.Challenge.cw_manyleaves_k36_whole_lean_sets_holds : PySem.Challenge.rw_manyleaves_k36_whole_lean_sets.Holds := by
 w_on;refine holds_law K36.said fun said=>?_
 refine holds_open (q:=K36.viewP) (loose:=[]) (Xt:=fun s=>xlAt K36.viewP [] s && recOk (RowW.records (OpenRow.toRowW (OpenLaw.row PySem.Challenge.rw_manyleaves_k36_whole_lean_sets))) s) (XP:=XL K36.viewP []) (Yf:=Hook.obs (kHook K36.heapK K36.addrs K36.addr)) (Ya:=Hook.val (kHook K36.heapK K36.addrs K36.addr)) (YP:=Hook.says (kHook K36.heapK K36.addrs K36.addr)) (N:=2740) K36.left (Hook.of (kHook K36.heapK K36.addrs K36.addr)) (Hook.keeps (kHook K36.heapK K36.addrs K36.addr)) (fun s e=>xl_of s (Bool.and_eq_true_iff.mp e).1) XL.keeps (by rfl) (by rfl) (by rfl) (fun s e=>recFacts_of (Bool.and_eq_true_iff.mp e).2) (by rfl) said (by decide +kernel) ⟨rfl,rfl,rfl,rfl,rfl,by decide +kernel⟩ ?hw ?hc
 (case hw=>w_witness2)
 k_fill
 refine K36.walk (l:=PySem.Challenge.rw_manyleaves_k36_whole_lean_sets) rfl rfl (fun w h Y=>PySem.W.kIn_of Y) ?F
 case F =>
  intro w mg fa h KX G hmg;refine' K36.all_mk KX G hmg ?a1 ?l1 ?c1 ?k1 ?a2 ?l2 ?c2 ?k2 ?a3 ?l3 ?c3 ?k3 ?a4 ?l4 ?c4 ?k4 ?a5 ?l5 ?c5 ?k5 ?a6 ?l6 ?c6 ?k6 ?a7 ?l7 ?c7 ?k7 ?a8 ?l8 ?c8 ?k8 ?a9 ?l9 ?c9 ?k9 ?a10 ?l10 ?c10 ?k10 ?a11 ?l11 ?c11 ?k11 ?a12 ?l12 ?c12 ?k12 ?a13 ?l13 ?c13 ?k13 ?a14 ?l14 ?c14 ?k14 ?a15 ?l15 ?c15 ?k15 ?a16 ?l16 ?c16 ?k16 ?a17 ?l17 ?c17 ?k17 ?a18 ?l18 ?c18 ?k18 ?a19 ?l19 ?c19 ?k19 ?a20 ?l20 ?c20 ?k20 ?a21 ?l21 ?c21 ?k21 ?a22 ?l22 ?c22 ?k22 ?a23 ?l23 ?c23 ?k23 ?a24 ?l24 ?c24 ?k24 ?a25 ?l25 ?c25 ?k25 ?a26 ?l26 ?c26 ?k26 ?a27 ?l27 ?c27 ?k27 ?a28 ?l28 ?c28 ?k28 ?a29 ?l29 ?c29 ?k29 ?a30 ?l30 ?c30 ?k30 ?a31 ?l31 ?c31 ?k31 ?a32 ?l32 ?c32 ?k32 ?a33 ?l33 ?c33 ?k33 ?a34 ?l34 ?c34 ?k34 ?a35 ?l35 ?c35 ?k35 ?a36 ?l36 ?c36 ?k36 ?a37 ?l37 ?c37 ?k37 ?a38 ?l38 ?c38 ?k38 ?a39 ?l39 ?c39 ?k39 ?a40 ?l40 ?c40 ?k40 ?a41 ?l41 ?c41 ?k41 ?a42 ?l42 ?c42 ?k42 ?a43 ?l43 ?c43 ?k43 ?z1 ?z2 ?z3 ?z4 ?z5 ?z6 ?z7 ?z8 ?z9 ?z10 ?z11 ?z12 ?z13 ?z14 ?z15 ?z16 ?z17
  (case a1|a2|a3|a4|a5|a6|a7|a8|a9|a10|a11|a12|a13|a14|a15|a16|a17|a18|a19|a20|a21|a22|a23|a24|a25|a26|a27|a28|a29|a30|a31|a32|a33|a34|a35|a36|a37|a38|a39|a40|a41|a42|a43=>unfold K36.A_;k_is)
  (case l1|l2|l3|l4|l5|l6|l7|l8|l9|l10|l11|l12|l13|l14|l15|l16|l17|l18|l19|l20|l21|l22|l23|l24|l25|l26|l27|l28|l29|l30|l31|l32|l33|l34|l35|l36|l37|l38|l39|l40|l41|l42|l43=>unfold K36.L_;k_is)
  (case c1|c2|c3|c4|c5|c6|c7|c8|c9|c10|c11|c12|c13|c14|c15|c16|c17|c18|c19|c20|c21|c22|c23|c24|c25|c26|c27|c28|c29|c30|c31|c32|c33|c34|c35|c36|c37|c38|c39|c40|c41|c42|c43=>unfold K36.C_;k_is)
  (case k1|k2|k3|k4|k5|k6|k7|k8|k9|k10|k11|k12|k13|k14|k15|k16|k17|k18|k19|k20|k21|k22|k23|k24|k25|k26|k27|k28|k29|k30|k31|k32|k33|k34|k35|k36|k37|k38|k39|k40|k41|k42|k43=>unfold K36.J_;k_is)
  (case z1|z2|z3|z4|z5|z6|z7|z8|z9|z10|z11|z12|z13|z14|z15|z16|z17=>k_is)
