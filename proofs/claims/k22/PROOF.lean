import PyProof.Rows.All
import Wide.All
import OpenK.AllK
import Wide.FinOn
import Lean
import PyProof.EqAt
import PyProof.EqKinds
import PyProof.TupleCall
import PySem.SetOps
import PyProof.SetScanFacts
import PyProof.Rows.SetFrom
import PyProof.SetRoads
import PyProof.WalksMore
import PyProof.EnumMake
import PyProof.EnumFor
import PyProof.P3In
import PyProof.Rows.Range3
import PyProof.ZipIter
import PyProof.TupleKey
import PyProof.DictKinds
import PyProof.Rows.SumAny
import PyProof.Rows.SortRev
import PyProof.Rows.SeqMore
import PyProof.ReprRoads
import PyProof.ReprText
import PyProof.ReprBulk
import PyProof.Rows.AssignMoreSeq
import PySem.Challenge.RW_manyleaves_k22_bent_shares
set_option compiler.extract_closed false
section
set_option Elab.async false
set_option linter.all false
set_option maxRecDepth 100000
namespace L2
open PySem PySem.Spec PyProof.Rows
abbrev Key:=Sum Int Str
def keyIs:Key→Value→Bool
 | .inl k,v=>Value.isInt k v
 | .inr x,v=>Value.isStrOf x v
def keyH (w:World):Key→Int
 | .inl k=>hashInt k
 | .inr x=>hashStr w x
theorem keyIs_shape:∀ {k:Key} {v:Value},keyIs k v=true→(∃ i t,k=Sum.inl i∧v=Value.int i t)∨(∃ x t,k=Sum.inr x∧v=Value.str x t)
 | .inl i,v,h=>by
  obtain⟨t,e⟩:=Value.isInt_shape (k:=i) (v:=v) h;exact .inl ⟨i,t,rfl,e⟩
 | .inr x,v,h=>by
  obtain⟨t,e⟩:=Value.isStrOf_shape (x:=x) (v:=v) h;exact .inr ⟨x,t,rfl,e⟩
theorem keyIs_int (i:Int)(t:Tok):keyIs (.inl i) (.int i t)=true:=by simp[keyIs,Value.isInt]
theorem keyIs_str (x:Str)(t:Tok):keyIs (.inr x) (.str x t)=true:=by simp[keyIs,Value.isStrOf]
theorem key_ll (a b:Int):decide ((Sum.inl a:Key)=Sum.inl b)=(a == b):=by
 by_cases e:a=b
 ·subst e;simp
 ·have h:¬ (Sum.inl a:Key)=Sum.inl b:=fun q=>e (Sum.inl.inj q)
  rw[decide_eq_false h];exact (beq_eq_false_iff_ne.mpr e).symm
theorem key_rr (a b:Str):decide ((Sum.inr a:Key)=Sum.inr b)=decide (a=b):=by
 by_cases e:a=b
 ·subst e;simp
 ·have h:¬ (Sum.inr a:Key)=Sum.inr b:=fun q=>e (Sum.inr.inj q)
  rw[decide_eq_false h,decide_eq_false e]
theorem key_lr (a:Int)(b:Str):decide ((Sum.inl a:Key)=Sum.inr b)=false:=decide_eq_false (fun q=>nomatch q)
theorem key_rl (a:Str)(b:Int):decide ((Sum.inr a:Key)=Sum.inl b)=false:=decide_eq_false (fun q=>nomatch q)
def mixKind (prog:Program)(w:World):PySem.KeyKind prog w Key where
 is:=keyIs
 hash:=keyH w
 inj:=fun v a b ha hb=>by
  rcases keyIs_shape ha with ⟨i,t,rfl,rfl⟩ | ⟨x,t,rfl,rfl⟩
  ·rcases keyIs_shape hb with ⟨j,u,rfl,e⟩ | ⟨y,u,rfl,e⟩
   ·injection e with e1 _;rw[e1]
   ·exact nomatch e
  ·rcases keyIs_shape hb with ⟨j,u,rfl,e⟩ | ⟨y,u,rfl,e⟩
   ·exact nomatch e
   ·injection e with e1 _;rw[e1]
 byValue:=fun k v h=>by
  rcases keyIs_shape h with ⟨i,t,rfl,rfl⟩ | ⟨x,t,rfl,rfl⟩<;>rfl
 pyHash:=fun hv h=>by
  rcases keyIs_shape hv with ⟨i,t,rfl,rfl⟩ | ⟨x,t,rfl,rfl⟩
  ·exact wpAny_pyHash_int h
  ·exact wpAny_pyHash_str h
 eqBool:=fun hu hv h=>by
  rcases keyIs_shape hu with ⟨i,t,rfl,rfl⟩ | ⟨x,t,rfl,rfl⟩
  ·rcases keyIs_shape hv with ⟨j,u,rfl,rfl⟩ | ⟨y,u,rfl,rfl⟩
   ·rw[key_ll] at h;exact wpAny_eqBool_int h
   ·rw[key_lr] at h;exact SeqAt.EqAt.int_str i t y u _ _ _ _ h
  ·rcases keyIs_shape hv with ⟨j,u,rfl,rfl⟩ | ⟨y,u,rfl,rfl⟩
   ·rw[key_rl] at h;exact SeqAt.EqAt.str_int x t j u _ _ _ _ h
   ·rw[key_rr] at h;exact wpAny_eqBool_str h
 «strs»:=fun k x t v h=>by
  rcases keyIs_shape h with ⟨i,u,rfl,e⟩ | ⟨y,u,rfl,e⟩
  ·exact nomatch e
  ·injection e with e1 _
   subst e1;cases v<;>rfl
theorem mixKind_int (prog:Program)(w:World)(i:Int)(t:Tok):(mixKind prog w).is (.inl i) (.int i t)=true:=keyIs_int i t
theorem mixKind_str (prog:Program)(w:World)(x:Str)(t:Tok):(mixKind prog w).is (.inr x) (.str x t)=true:=keyIs_str x t
end L2
namespace L2
open PySem PySem.Spec PyProof.Rows
inductive V where
 | non | bl (b:Bool) | int (i:Int) | str (x:Str) | byt (b:Array UInt8) | flt (b:UInt64) | ref (a:Addr) | ty (n:String)
 deriving DecidableEq
def RelV:V→Value→Prop
 | .non,u=>u=Value.none
 | .bl b,u=>u=Value.bool b
 | .int i,u=>∃ t,u=Value.int i t
 | .str x,u=>∃ t,u=Value.str x t
 | .byt b,u=>∃ t,u=Value.bytes b t
 | .flt b,u=>∃ t,u=Value.float b t
 | .ref a,u=>u=Value.ref a
 | .ty n,u=>u=Value.type n
abbrev Vals:List V→List Value→Prop:=Paired RelV
theorem Vals.length {xs:List V}{us:List Value}(r:Vals xs us):xs.length=us.length:=Paired.length r
theorem Vals.get:∀ {xs:List V} {us:List Value} {i:Nat} {x:V},Vals xs us→xs[i]?=some x→∃ u,us[i]?=some u∧RelV x u
 | _,_,_,_,.nil,e=>by simp at e
 | _,_,0,_,.cons r _,e=>by simp at e;subst e;exact⟨_,rfl,r⟩
 | _,_,i+1,x,.cons _ t,e=>by
  obtain⟨u,h1,h2⟩:=Vals.get (i:=i) (x:=x) t (by simpa using e);exact⟨u,by simpa using h1,h2⟩
theorem Vals.set {x:V}{u:Value}(r:RelV x u):∀ {xs:List V} {us:List Value} (i:Nat),Vals xs us→Vals (xs.set i x) (us.set i u)
 | _,_,_,.nil=>.nil
 | _,_,0,.cons _ t=>.cons r t
 | _,_,i+1,.cons q t=>.cons q (Vals.set r i t)
theorem Vals.append:∀ {xs ys:List V} {us ws:List Value},Vals xs us→Vals ys ws→Vals (xs++ys) (us++ws)
 | _,_,_,_,.nil,s=>s
 | _,_,_,_,.cons r t,s=>.cons r (Vals.append t s)
theorem Vals.take:∀ {xs:List V} {us:List Value} (n:Nat),Vals xs us→Vals (xs.take n) (us.take n)
 | _,_,0,_=>.nil
 | _,_,_+1,.nil=>.nil
 | _,_,n+1,.cons r t=>.cons r (Vals.take n t)
theorem Vals.drop:∀ {xs:List V} {us:List Value} (n:Nat),Vals xs us→Vals (xs.drop n) (us.drop n)
 | _,_,0,r=>r
 | _,_,_+1,.nil=>.nil
 | _,_,n+1,.cons _ t=>Vals.drop n t
def RelO:Option V→Option Value→Prop
 | some v,some u=>RelV v u
 | none,none=>True
 | _,_=>False
def KV {κ:Type}:List (κ×V)→List (κ×Value)→Prop:=Paired fun (p:κ×V) (q:κ×Value)=>p.1=q.1∧RelV p.2 q.2
def kV:Key→V
 | .inl i=>.int i
 | .inr x=>.str x
inductive HO where
 /-- a list -/
 | lst (xs:List V)
 /-- a tuple (never changes) -/
 | tup (xs:List V)
 /-- a dict whose keys are ints and texts;one whose keys are tuples of ints and texts (the empty one is both) -/
 | dK (kvs:List (Key×V)) | dT (kvs:List (List Key×V))
 /-- a set of ints: its members,its size -/
 | set (S:Int→Bool) (n:Nat)
 /-- an instance of the class at C,its dict at dx,its attributes -/
 | ins (C dx:Addr) (fs:List (Str×V))
 /-- the dict of the instance at x -/
 | own (x:Addr)
 /-- the dict of an exception -/
 | xd (fs:List (Str×V))
 /-- a bound method,f of x -/
 | met (f x:Addr)
 /-- a range object lo,lo+1,.. below hi -/
 | rng (lo hi:Int)
 /-- a thing that is known to the object (the script;a dict while a loop walks it): read,never written while it is so -/
 | frz (o:Obj) (u:HO)
 /-- a code object's table -/
 | tbl (ps:Array Value)
 /-- any other thing,by what is true of its one object (a def of one's own: SetO a S n:=HO.ext fun h=>..) -/
 | ext (φ:Heap→Prop)
abbrev Hp:=Addr→Option HO
def upd (H:Hp)(a:Addr)(o:HO):Hp:=fun b=>if b=a then some o else H b
theorem upd_same {H:Hp}{a:Addr}{o:HO}:upd H a o a=some o:=by unfold upd;rw[if_pos rfl]
theorem upd_ne {H:Hp}{a b:Addr}{o:HO}(h:b≠a):upd H a o b=H b:=by unfold upd;rw[if_neg h]
theorem upd_upd {H:Hp}{a:Addr}{o u:HO}:upd (upd H a o) a u=upd H a u:=by
 funext b;unfold upd;split<;>rfl
theorem ne_of {H:Hp}{a b:Addr}{o u:HO}(h:H a=some o)(h':H b=some u)(d:o≠u):a≠b:=by
 intro e;subst e;rw[h] at h';exact d (Option.some.inj h')
theorem ne_of_none {H:Hp}{a b:Addr}{o:HO}(h:H a=some o)(h':H b=none):a≠b:=by
 intro e;subst e;rw[h] at h';cases h'
section
variable (P:Program)(w:World)
def ObjOk (H:Hp)(h:Heap)(a:Addr):HO→Prop
 | .lst xs=>xs.length≤sizeLine∧∃ (its:List Value) (n:Nat),Vals xs its∧h.get? a=some {cls:=.type "list",data:=.seq its.toArray n}
 | .tup xs=>xs.length≤sizeLine∧∃ its:List Value,Vals xs its∧IsTup h a its.toArray
 | .dK kvs=>kvs.length≤sizeLine∧(a == sysModules)=false∧∃ vs,KV kvs vs∧h.DictOf (mixKind P w) a vs
 | .dT kvs=>kvs.length≤sizeLine∧(a == sysModules)=false∧∃ xs:List (List Key×Addr×Value),
   Paired (fun (p:List Key×V) (q:List Key×Addr×Value)=>p.1=q.1∧H q.2.1=some (.tup (p.1.map kV))∧RelV p.2 q.2.2) kvs xs ∧
   ∃ o es ep,h.get? a=some o∧o.ExactDict∧o.data=.dict es ep∧es.toList=xs.map (entryOfKey (tupleKind (mixKind P w)))∧(xs.map (·.1)).Nodup
 | .set S n=>h.SetOf (intKind P w) a S n
 | .ins C dx fs=>H dx=some (.own a)∧fs.length≤1000∧dx≠a∧h.get? a=some (PySem.W.instObj C dx) ∧
   ∃ mA,h.Ns1 dx mA∧(∀ f,RelO (fs.lookup f) (mA f))∧PySem.Within mA (fs.map (·.1))
 | .own _=>∃ o,h.get? a=some o
 | .xd fs=>∃ mA,h.Ns1 a mA∧∀ f,RelO (fs.lookup f) (mA f)
 | .rng lo hi=>∃ t u v,h.get? a=some {cls:=.type "range",data:=.fields #[.int lo t,.int hi u,.int 1 v]}
 | .frz o u=>h.get? a=some o∧ObjOk H h a u
 | .tbl ps=>h.get? a=some {cls:=.none,data:=.fields ps}
 | .met f x=>h.get? a=some (PySem.W.methodObj (.ref f) (.ref x))
 | .ext φ=>φ h∧(∃ o,h.get? a=some o)∧∀ h1 h2:Heap,φ h1→(∀ o,h1.get? a=some o→h2.get? a=some o)→φ h2
def HOk (H:Hp)(h:Heap):Prop:=∀ a o,H a=some o→ObjOk P w H h a o
end
section
variable {P:Program}{w:World}{H H':Hp}{h h':Heap}{a:Addr}{o:HO}
theorem ObjOk.lt (x:ObjOk P w H h a o):a<h.objs.size:=by
 cases o with
 | lst xs=>obtain⟨_,_,_,_,e⟩:=x;exact Heap.lt_size e
 | tup xs=>obtain⟨_,_,_,p⟩:=x;exact p.lt
 | dK kvs=>obtain⟨_,_,_,_,o,_,_,e,_⟩:=x;exact Heap.lt_size e
 | dT kvs=>obtain⟨_,_,_,_,o,_,_,e,_⟩:=x;exact Heap.lt_size e
 | set S n=>obtain⟨o,_,_,_,e,_⟩:=x;exact Heap.lt_size e
 | ins C dx fs=>obtain⟨_,_,_,e,_⟩:=x;exact Heap.lt_size e
 | own y=>obtain⟨_,e⟩:=x;exact Heap.lt_size e
 | xd fs=>obtain⟨_,⟨_,_,_,e,_⟩,_⟩:=x;exact Heap.lt_size e
 | rng lo hi=>obtain⟨_,_,_,e⟩:=x;exact Heap.lt_size e
 | frz ob u=>obtain⟨e,_⟩:=x;exact Heap.lt_size e
 | tbl ps=>exact Heap.lt_size (show h.get? a=some _ from x)
 | met f y=>exact Heap.lt_size (show h.get? a=some _ from x)
 | ext φ=>obtain⟨_,⟨_,e⟩,_⟩:=x;exact Heap.lt_size e
theorem Paired.mapP {α β:Type}{F G:α→β→Prop}:∀ {l₁:List α} {l₂:List β},Paired F l₁ l₂→(∀ a b,F a b→G a b)→Paired G l₁ l₂
 | _,_,.nil,_=>.nil
 | _,_,.cons r t,f=>.cons (f _ _ r) (Paired.mapP t f)
theorem ObjOk.stay (x:ObjOk P w H h a o)(k:∀ b u,(b=a∨H b=some (.own a))→h.get? b=some u→h'.get? b=some u)
  (ho:∀ b,H b=some (.own a)→H' b=some (.own a)) (ht:∀ b xs,H b=some (.tup xs)→H' b=some (.tup xs)):ObjOk P w H' h' a o:=by
 induction o with
 | lst xs=>obtain⟨z,its,n,r,e⟩:=x;exact⟨z,its,n,r,k _ _ (.inl rfl) e⟩
 | tup xs=>obtain⟨z,its,r,ob,e,c⟩:=x;exact⟨z,its,r,ob,k _ _ (.inl rfl) e,c⟩
 | dK kvs=>obtain⟨z,y,vs,r,ob,es,ep,e,c⟩:=x;exact⟨z,y,vs,r,ob,es,ep,k _ _ (.inl rfl) e,c⟩
 | dT kvs =>
  obtain⟨z,y,xs,r,ob,es,ep,e,c⟩:=x;exact⟨z,y,xs,Paired.mapP r fun p q z=>⟨z.1,ht _ _ z.2.1,z.2.2⟩,ob,es,ep,k _ _ (.inl rfl) e,c⟩
 | set S n=>obtain⟨ob,es,ep,t,e,c⟩:=x;exact⟨ob,es,ep,t,k _ _ (.inl rfl) e,c⟩
 | ins C dx fs =>
  obtain⟨d,z,ne,e,mA,⟨od,es,ep,e2,c⟩,r⟩:=x;exact⟨ho _ d,z,ne,k _ _ (.inl rfl) e,mA,⟨od,es,ep,k _ _ (.inr d) e2,c⟩,r⟩
 | own y=>obtain⟨ob,e⟩:=x;exact⟨ob,k _ _ (.inl rfl) e⟩
 | xd fs=>obtain⟨mA,⟨od,es,ep,e,c⟩,r⟩:=x;exact⟨mA,⟨od,es,ep,k _ _ (.inl rfl) e,c⟩,r⟩
 | rng lo hi=>obtain⟨t,u,v,e⟩:=x;exact⟨t,u,v,k _ _ (.inl rfl) e⟩
 | frz ob u ih=>obtain⟨e,q⟩:=x;exact⟨k _ _ (.inl rfl) e,ih q⟩
 | tbl ps =>
  have e:h.get? a=some {cls:=.none,data:=.fields ps}:=x;show h'.get? a=some {cls:=.none,data:=.fields ps};exact k a _ (.inl rfl) e
 | met f y =>
  have e:h.get? a=some (PySem.W.methodObj (.ref f) (.ref y)):=x;show h'.get? a=some (PySem.W.methodObj (.ref f) (.ref y));exact k a _ (.inl rfl) e
 | ext φ=>obtain⟨p,⟨o,e⟩,st⟩:=x;exact⟨st _ _ p fun o q=>k _ _ (.inl rfl) q,⟨o,k _ _ (.inl rfl) e⟩,st⟩
theorem HOk.lt (x:HOk P w H h)(e:H a=some o):a<h.objs.size:=(x a o e).lt
theorem HOk.fresh (x:HOk P w H h)(e:h.objs.size≤a):H a=none:=by
 cases q:H a with
 | none=>rfl
 | some u=>exact absurd (Nat.lt_of_lt_of_le (x.lt q) e) (Nat.lt_irrefl _)
theorem HOk.kept (x:HOk P w H h)(k:∀ b u,h.get? b=some u→h'.get? b=some u):HOk P w H h':=fun a o e =>
 (x a o e).stay (fun b u _ q=>k b u q) (fun _ q=>q) fun _ _ q=>q
theorem HOk.laid (x:HOk P w H h)(k:∀ b u,h.get? b=some u→h'.get? b=some u)(hp:h.objs.size≤a)(new:ObjOk P w (upd H a o) h' a o):HOk P w (upd H a o) h':=fun b u e=>by
 have hn:=x.fresh hp;by_cases hb:b=a
 ·subst hb;rw[upd_same] at e;cases e;exact new
 ·rw[upd_ne hb] at e;exact (x b u e).stay (fun c v _ q=>k c v q) (fun c q=>by rw[upd_ne (ne_of_none q hn)];exact q) fun c xs q=>by rw[upd_ne (ne_of_none q hn)];exact q
end
def Rd (H:Hp)(a:Addr)(u:HO):Prop:=H a=some u∨∃ o,H a=some (.frz o u)
theorem Rd.of {H:Hp}{a:Addr}{u:HO}(h:H a=some u):Rd H a u:=.inl h
theorem Rd.ok {P:Program}{w:World}{H:Hp}{h:Heap}{a:Addr}{u:HO}(r:Rd H a u)(x:HOk P w H h):ObjOk P w H h a u:=by
 rcases r with r | ⟨o,r⟩
 ·exact x a u r
 ·obtain⟨_,q⟩:=x a _ r;exact q
def Mut:Option HO→Prop
 | some (.lst _)=>True
 | some (.dK _)=>True
 | some (.dT _)=>True
 | some (.set _ _)=>True
 | some (.ins _ _ _)=>True
 | some (.ext _)=>True
 | _=>False
section
variable {P:Program}{w:World}{H:Hp}{h h':Heap}{x e:Addr}{o':HO}
theorem HOk.write (ok:HOk P w H h)(mu:Mut (H x))(he:e=x∨H e=some (.own x))(k:∀ b u,b≠e→h.get? b=some u→h'.get? b=some u)(heo:∃ u,h'.get? e=some u)
  (new:ObjOk P w (upd H x o') h' x o'):HOk P w (upd H x o') h':=fun b u q=>by
 have nown:∀ c y,H c=some (.own y)→c≠x:=fun c y r z=>by subst z;rw[r] at mu;exact mu
 have ntup:∀ c xs,H c=some (.tup xs)→c≠x:=fun c xs r z=>by subst z;rw[r] at mu;exact mu
 by_cases hb:b=x
 ·subst hb;rw[upd_same] at q;cases q;exact new
 ·rw[upd_ne hb] at q;by_cases hbe:b=e
  ·have q':H b=some (.own x):=by
    rcases he with z | z
    ·exact absurd (hbe.trans z) hb
    ·rw[hbe];exact z
   rw[q] at q';cases q';obtain⟨v,hv⟩:=heo;exact⟨v,by rw[hbe];exact hv⟩
  ·refine (ok b u q).stay (fun c v hc r=>k c v ?_ r) (fun c r=>by rw[upd_ne (nown c b r)];exact r) fun c xs r=>by rw[upd_ne (ntup c xs r)];exact r
   rcases hc with rfl | hc
   ·exact hbe
   ·rintro rfl;rcases he with z | z
    ·exact nown c b hc z
    ·rw[hc] at z;cases z;exact hb rfl
end
structure Un (fs ex:List Addr)(H H':Hp)(h h':Heap):Prop where
 keep:∀ b o,h.get? b=some o→H b=none→b∉fs→b∉ex→h'.get? b=some o
 slot:∀ b o,h.get? b=some o→H b=none→b∈fs→b∉ex→∃ sl,h'.get? b=some {o with slots:=sl}
 free:∀ b o,h.get? b=some o→H b=none→b∉ex→H' b=none
 there:∀ b o,h.get? b=some o→b∉ex→∃ o',h'.get? b=some o'
 tups:∀ b xs,H b=some (.tup xs)→H' b=some (.tup xs)
 frzs:∀ b o u,H b=some (.frz o u)→H' b=some (.frz o u)
 tbls:∀ b ps,H b=some (.tbl ps)→∃ more,H' b=some (.tbl (ps++more))
section
variable {fs fs' ex ex':List Addr}{H H1 H2:Hp}{h h1 h2 h':Heap}{a x e:Addr}{o:HO}
theorem Un.any (u:Un fs ex H H1 h h1){b:Addr}{ob:Obj}(q:h.get? b=some ob)(n:H b=none)(hx:b∉ex):∃ sl,h1.get? b=some {ob with slots:=sl}:=by
 by_cases hb:b∈fs
 ·exact u.slot b ob q n hb hx
 ·exact⟨ob.slots,u.keep b ob q n hb hx⟩
theorem Un.trans (a:Un fs ex H H1 h h1)(b:Un fs ex H1 H2 h1 h2):Un fs ex H H2 h h2 where
 keep:=fun c ob q n hc hx=>b.keep c ob (a.keep c ob q n hc hx) (a.free c ob q n hx) hc hx
 slot:=fun c ob q n hc hx=>by
  obtain⟨sl,e1⟩:=a.slot c ob q n hc hx;obtain⟨sl',e2⟩:=b.slot c _ e1 (a.free c ob q n hx) hc hx;exact⟨sl',e2⟩
 free:=fun c ob q n hx=>by
  obtain⟨o',e1⟩:=a.there c ob q hx;exact b.free c o' e1 (a.free c ob q n hx) hx
 there:=fun c ob q hx=>by
  obtain⟨o',e1⟩:=a.there c ob q hx;exact b.there c o' e1 hx
 tups:=fun c xs q=>b.tups c xs (a.tups c xs q)
 frzs:=fun c ob xs q=>b.frzs c ob xs (a.frzs c ob xs q)
 tbls:=fun c ps q=>by
  obtain⟨m1,e1⟩:=a.tbls c ps q;obtain⟨m2,e2⟩:=b.tbls c _ e1;exact⟨m1++m2,by rw[e2,Array.append_assoc]⟩
theorem Un.kept (k:∀ b u,h.get? b=some u→h'.get? b=some u):Un fs ex H H h h' :=
 ⟨fun b ob q _ _ _=>k b ob q,fun b ob q _ _ _=>⟨ob.slots,k b ob q⟩,fun _ _ _ n _=>n,fun b ob q _=>⟨ob,k b ob q⟩,fun _ _ q=>q,fun _ _ _ q=>q,fun _ ps q=>⟨#[],by rw[q];simp⟩⟩
theorem Un.refl:Un fs ex H H h h:=Un.kept fun _ _ q=>q
theorem Un.laid (k:∀ b u,h.get? b=some u→h'.get? b=some u)(hp:h.objs.size≤a)(hn:H a=none):Un fs ex H (upd H a o) h h' where
 keep:=fun b u q _ _ _=>k b u q
 slot:=fun b u q _ _ _=>⟨u.slots,k b u q⟩
 free:=fun b u q n _=>by rw[upd_ne (Nat.ne_of_lt (Nat.lt_of_lt_of_le (Heap.lt_size q) hp))];exact n
 there:=fun b u q _=>⟨u,k b u q⟩
 tups:=fun b xs q=>by rw[upd_ne (ne_of_none q hn)];exact q
 frzs:=fun b u xs q=>by rw[upd_ne (ne_of_none q hn)];exact q
 tbls:=fun b ps q=>⟨#[],by rw[upd_ne (ne_of_none q hn),q];simp⟩
theorem Un.write (mu:Mut (H x))(he:e=x∨H e=some (.own x))(k:∀ b u,b≠e→h.get? b=some u→h'.get? b=some u)(heo:∃ u,h'.get? e=some u):Un fs ex H (upd H x o) h h':=by
 have hx:∀ b,H b=none→b≠x:=fun b n z=>by subst z;rw[n] at mu;exact mu
 have hb:∀ b,H b=none→b≠e:=fun b n z=>by
  subst z;rcases he with r | r
  ·exact hx b n r
  ·rw[n] at r;cases r
 have hm:∀ b u,H b=some u→¬ Mut (some u)→b≠x:=fun b u q nm z=>by subst z;rw[q] at mu;exact nm mu
 refine⟨fun b u q n _ _=>k b u (hb b n) q,fun b u q n _ _=>⟨u.slots,k b u (hb b n) q⟩,fun b u q n _=>by rw[upd_ne (hx b n)];exact n,fun b u q _=>?_,
  fun b xs q=>by rw[upd_ne (hm b _ q fun z=>z)];exact q,fun b u xs q=>by rw[upd_ne (hm b _ q fun z=>z)];exact q,fun b ps q=>⟨#[],by rw[upd_ne (hm b _ q fun z=>z),q];simp⟩⟩
 by_cases hbe:b=e
 ·subst hbe;exact heo
 ·exact⟨u,k b u hbe q⟩
theorem Un.mono (u:Un fs ex H H1 h h1)(hs:∀ b∈fs,b∈fs')(hx:∀ b∈ex,b∈ex'):Un fs' ex' H H1 h h1 :=
 ⟨fun b ob q n hb he=>u.keep b ob q n (fun z=>hb (hs b z)) fun z=>he (hx b z),fun _ _ q n _ he=>u.any q n fun z=>he (hx _ z),fun b ob q n he=>u.free b ob q n fun z=>he (hx b z),fun b ob q he=>u.there b ob q fun z=>he (hx b z),u.tups,u.frzs,u.tbls⟩
end
def trk (h:Heap)(H:Hp):List Addr:=(List.range h.objs.size).filter fun a=>(H a).isSome
def hidT (h:Heap)(H:Hp):Heap:=PySem.W.hideAll h (trk h H)
theorem hidT_size (h:Heap)(H:Hp):(hidT h H).objs.size=h.objs.size:=PySem.W.hideAll_size _ _
theorem hidT_get {h:Heap}{H:Hp}{b:Addr}{o:Obj}(e:h.get? b=some o)(n:H b=none):(hidT h H).get? b=some o :=
 PySem.W.hideAll_get _ e fun hm=>by
  have q:(H b).isSome=true:=(List.mem_filter.mp hm).2;rw[n] at q;simp at q
theorem of_hidT {h:Heap}{H:Hp}{b:Addr}{o:Obj}(e:(hidT h H).get? b=some o):h.get? b=some o∧H b=none:=by
 have e':h.get? b=some o:=PySem.W.of_hideAll (trk h H) e;refine⟨e',?_⟩;cases q:H b with
 | none=>rfl
 | some x =>
  have hm:b∈trk h H:=List.mem_filter.mpr ⟨List.mem_range.mpr (Heap.lt_size e'),by simp[q]⟩;have z:(hidT h H).get? b=none:=PySem.W.hideAll_none (trk h H) hm;rw[z] at e;cases e
def allNews (g h:Heap)(L:Addr):List (Addr×Obj):=(List.range h.objs.size).filterMap fun a=>if a=L∨(g.get? a).isSome=true then none else (h.get? a).map fun o=>(a,o)
def rest (g h:Heap)(L d:Addr):List (Addr×Obj):=(allNews g h L).filter fun p=>decide (p.1≠d)
end L2
namespace L2
open PySem PySem.Spec PyProof.Rows
structure Mod (K:PySem.W.Frag)(mg:Str→Option Value)(base:Heap):Prop where
 kin:K.In base
 glob:base.Ns mainGlobals mg
 blt:∃ mb,base.Ns builtinsNs mb∧∀ x:Str,x≠"__name__"→mb x=bootBuiltins x
 nolimit:base.NoLimit
structure Cx where
 prog:Program
 w:World
 K:PySem.W.Frag
 mg:Str→Option Value
 base:Heap
 A:Around
 N:List Str
 s₀:Shared
 H₀:Hp
 env:Env
 outer:List Env
 stack:List Env
 ex:List Addr
 fn:Str→Bool
 calm:Bool
 pn:List (Addr×Obj)
 xe:Value→Shared→Prop
def frs (l:List Env):List Addr:=l.filterMap (·.frame)
abbrev Cx.fs (X:Cx):List Addr:=frs X.outer
def Vis (sc:Scope)(x:Str):Prop:=sc.names.lookup x=some .local∨sc.names.lookup x=some .cell∨sc.names.lookup x=some .free
def Loc (sc:Scope)(x:Str):Prop:=sc.names.lookup x=some .local∨sc.names.lookup x=some .cell
def Look (env:Env)(h:Heap)(m:Str→Option Value)(x:Str)(u:Value):Prop :=
 (env.kindOf x=some .local∧m x=some u)∨((env.kindOf x=some .cell∨env.kindOf x=some .free)∧∃ c,env.cells.lookup x=some c∧h.IsCell c (some u))
structure Cx.Ok (X:Cx):Prop where
 mod:Mod X.K X.mg X.base
 kind:X.env.scope.kind=.function
 glob:X.env.globals=mainGlobals
 blt:X.env.builtins=builtinsNs
 above:X.s₀.heap.objs.size≤X.env.locals
 inj:∀ x y c,X.env.cells.lookup x=some c→X.env.cells.lookup y=some c→x=y
 has:∀ x,(X.env.kindOf x=some .cell∨X.env.kindOf x=some .free)→∃ c,X.env.cells.lookup x=some c
 cab:∀ x c,X.fn x=true→X.env.cells.lookup x=some c→X.s₀.heap.objs.size≤c
 hd:X.calm=true→X.A.handled=none
 frames:X.A.frames=some X.stack
 stk:X.stack=X.outer∨(X.stack=X.env::X.outer∧X.env.frame=some X.env.locals)
 exf:∀ b∈X.ex,b≠X.env.locals∧∀ x c,X.env.cells.lookup x=some c→c≠b
 bs:∀ b o,X.base.get? b=some o→X.s₀.heap.get? b=some o∧X.H₀ b=none
 bsz:X.base.objs.size≤X.s₀.heap.objs.size
 noex:∀ b o,X.base.get? b=some o→b∉X.ex
 exfs:∀ b∈X.ex,b∉X.fs
 funs:X.s₀.heap.FunFrames X.base X.outer
 frf:∀ b∈X.fs,X.H₀ b=none
structure Inv (X:Cx)(pins:List (Addr×Obj))(σ:List (Option V))(H:Hp)(s:Shared):Prop where
 ok:X.Ok
 os:s.os=X.s₀.os
 bare:AllBare s.gens
 base:Un X.fs X.ex X.H₀ H X.s₀.heap s.heap
 loc:∃ m,s.heap.Ns X.env.locals m∧∀ (i:Nat) (x:Str) (v:V),X.N[i]?=some x→σ[i]?=some (some v)→Vis X.env.scope x→∃ u,RelV v u∧Look X.env s.heap m x u
 cell:∀ x c,X.env.cells.lookup x=some c→∃ v,s.heap.IsCell c v
 free:H X.env.locals=none
 freeC:∀ x c,X.env.cells.lookup x=some c→H c=none
 pin:∀ p∈X.pn++pins,s.heap.get? p.1=some p.2∧H p.1=none∧p.1≠X.env.locals∧p.1∉X.fs∧∀ v,p.2.data≠.cell v
 hok:HOk X.prog X.w H s.heap
 len:σ.length=X.N.length
section
variable {X:Cx}{pins:List (Addr×Obj)}{σ:List (Option V)}{H H':Hp}{s:Shared}{h':Heap}
theorem Cx.Ok.nofr (ok:X.Ok){b:Addr}{o:Obj}(e:X.base.get? b=some o):b∉X.fs:=fun hb=>by
 have:=(ok.funs.mem hb).1;rw[e] at this;cases this
theorem Inv.bs (I:Inv X pins σ H s):∀ b o,X.base.get? b=some o→s.heap.get? b=some o∧H b=none:=fun b o e =>
 ⟨I.base.keep b o (I.ok.bs b o e).1 (I.ok.bs b o e).2 (I.ok.nofr e) (I.ok.noex b o e),I.base.free b o (I.ok.bs b o e).1 (I.ok.bs b o e).2 (I.ok.noex b o e)⟩
theorem Inv.bk (I:Inv X pins σ H s):∀ b o,X.base.get? b=some o→s.heap.get? b=some o:=fun b o e=>(I.bs b o e).1
theorem Inv.mod (I:Inv X pins σ H s):Mod X.K X.mg X.base:=I.ok.mod
theorem Inv.kIn (I:Inv X pins σ H s):X.K.In s.heap:=I.ok.mod.kin.keeps I.bk
theorem Inv.nolimit (I:Inv X pins σ H s):s.heap.NoLimit:=I.ok.mod.nolimit.keeps I.bk
theorem Inv.fr (I:Inv X pins σ H s):∃ m,Fr X.base X.env.locals s.heap m :=
 let ⟨m,hn,_⟩:=I.loc
 ⟨m,hn,I.bk,Nat.le_trans I.ok.bsz I.ok.above⟩
theorem Inv.lt (I:Inv X pins σ H s):X.env.locals<s.heap.objs.size:=let ⟨_,hn,_⟩:=I.loc;hn.lt
theorem Inv.sz (I:Inv X pins σ H s):X.s₀.heap.objs.size≤s.heap.objs.size:=Nat.le_trans I.ok.above (Nat.le_of_lt I.lt)
theorem Inv.nofs (I:Inv X pins σ H s){a:Addr}(h:s.heap.objs.size≤a):a∉X.fs:=fun hb=>by
 obtain⟨_,o,ho,_⟩:=I.ok.funs.mem hb;exact absurd (Nat.lt_of_lt_of_le (Heap.lt_size ho) (Nat.le_trans I.sz h)) (Nat.lt_irrefl _)
theorem Inv.cne (I:Inv X pins σ H s):∀ x c,X.env.cells.lookup x=some c→c≠X.env.locals:=fun x c e z=>by
 obtain⟨v,o,ho,hd⟩:=I.cell x c e;obtain⟨m,⟨o',es,ep,ho',hd',_⟩,_⟩:=I.loc;rw[z,ho'] at ho;cases ho;rw[hd'] at hd;cases hd
theorem Inv.funs (I:Inv X pins σ H s):s.heap.FunFrames X.base X.outer:=by
 have all:∀ (l:List Env),(∀ b∈frs l,b∈X.fs)→X.s₀.heap.FunFrames X.base l→s.heap.FunFrames X.base l:=by
  intro l;induction l with
  | nil=>intro _ _;trivial
  | cons env r ih =>
   intro hs hl;obtain⟨hk,⟨L,o,hf,hn,ho,hd⟩,hr⟩:=hl;have hL:L∈X.fs:=hs L (by unfold frs;rw[List.filterMap_cons,hf];exact List.mem_cons_self);obtain⟨sl,e⟩:=I.base.slot L o ho (I.ok.frf L hL) hL fun z=>I.ok.exfs L z hL
   exact⟨hk,⟨L,_,hf,hn,e,hd⟩,ih (fun b hb=>hs b (by unfold frs;rw[List.filterMap_cons,hf];exact List.mem_cons_of_mem _ hb)) hr⟩
 exact all X.outer (fun _ hb=>hb) I.ok.funs
theorem Inv.stack (I:Inv X pins σ H s):s.heap.FunFrames X.base X.stack:=by
 rcases I.ok.stk with e | ⟨e,hf⟩
 ·rw[e];exact I.funs
 ·rw[e];obtain⟨m,hn,_⟩:=I.loc;refine .cons (by rw[I.ok.kind];decide) hf hn ?_ I.funs;exact Heap.get?_none_of_le (Nat.le_trans I.ok.bsz I.ok.above)
theorem Inv.stkSub (I:Inv X pins σ H s):∀ b∈frs X.stack,b∈X.env.locals::X.fs:=fun b hb=>by
 rcases I.ok.stk with e | ⟨e,hf⟩
 ·rw[e] at hb;exact List.mem_cons_of_mem _ hb
 ·rw[e] at hb;unfold frs at hb;rw[List.filterMap_cons,hf] at hb;exact hb
theorem Inv.stkFree (I:Inv X pins σ H s):∀ b∈frs X.stack,H b=none:=fun b hb=>by
 rcases List.mem_cons.mp (I.stkSub b hb) with e | hb
 ·rw[e];exact I.free
 ·obtain⟨_,o,ho,_⟩:=I.ok.funs.mem hb;exact I.base.free b o ho (I.ok.frf b hb) fun z=>I.ok.exfs b z hb
theorem Inv.step {g':Array GenState}{t':Nat}{d':Drawn}{ch:List Addr}(I:Inv X pins σ H s)
  (hch:∀ b∈ch,(b∈X.ex∨X.s₀.heap.objs.size≤b)∧b≠X.env.locals∧(∀ x c,X.env.cells.lookup x=some c→c≠b)∧∀ p∈X.pn++pins,p.1≠b)
  (keep:∀ b o,b≠X.env.locals→b∉X.fs→b∉ch→s.heap.get? b=some o→H b=none→h'.get? b=some o)
  (slot:∀ b o,b≠X.env.locals→b∈X.fs→b∉ch→s.heap.get? b=some o→H b=none→∃ sl,h'.get? b=some {o with slots:=sl}) (free:∀ b o,b∉ch→s.heap.get? b=some o→H b=none→H' b=none)
  (there:∀ b o,b∉ch→s.heap.get? b=some o→∃ o',h'.get? b=some o')
  (tups:∀ b xs,H b=some (.tup xs)→H' b=some (.tup xs)) (frzs:∀ b o u,H b=some (.frz o u)→H' b=some (.frz o u)) (tbls:∀ b ps,H b=some (.tbl ps)→∃ more,H' b=some (.tbl (ps++more)))
  (ns:∀ m,s.heap.Ns X.env.locals m→h'.Ns X.env.locals m) (hok:HOk X.prog X.w H' h') (hg:AllBare g') :
  Inv X pins σ H' {s with heap:=h',gens:=g',drawn:=d',toks:=t'}:=by
 have neL:∀ b o,X.s₀.heap.get? b=some o→b≠X.env.locals:=fun b o e=>Nat.ne_of_lt (Nat.lt_of_lt_of_le (Heap.lt_size e) I.ok.above)
 have neC:∀ b o,X.s₀.heap.get? b=some o→b∉X.ex→b∉ch:=fun b o e hx hb=>by
  rcases (hch b hb).1 with z | z
  ·exact hx z
  ·exact absurd (Nat.lt_of_lt_of_le (Heap.lt_size e) z) (Nat.lt_irrefl _)
 have cellK:∀ x c,X.env.cells.lookup x=some c→∀ v,s.heap.IsCell c v→h'.IsCell c v:=fun x c e v ⟨o,ho,hd⟩=>by
  have nch:c∉ch:=fun z=>(hch c z).2.2.1 x c e rfl
  by_cases hc:c∈X.fs
  ·obtain⟨sl,q⟩:=slot c o (I.cne x c e) hc nch ho (I.freeC x c e);exact⟨_,q,hd⟩
  ·exact⟨o,keep c o (I.cne x c e) hc nch ho (I.freeC x c e),hd⟩
 refine⟨I.ok,I.os,hg,⟨fun b o e n hb hx=>?_,fun b o e n hb hx=>?_,fun b o e n hx=>?_,fun b o e hx=>?_,fun b xs e=>tups b xs (I.base.tups b xs e),fun b o xs e=>frzs b o xs (I.base.frzs b o xs e),fun b ps e=>?_⟩,?_,fun x c e=>?_,?_,fun x c e=>?_,fun p hp=>?_,hok,I.len⟩
 ·exact keep b o (neL b o e) hb (neC b o e hx) (I.base.keep b o e n hb hx) (I.base.free b o e n hx)
 ·obtain⟨sl,e1⟩:=I.base.slot b o e n hb hx;obtain⟨sl',e2⟩:=slot b _ (neL b o e) hb (neC b o e hx) e1 (I.base.free b o e n hx);exact⟨sl',e2⟩
 ·obtain⟨o',e1⟩:=I.base.there b o e hx;exact free b o' (neC b o e hx) e1 (I.base.free b o e n hx)
 ·obtain⟨o',e1⟩:=I.base.there b o e hx;exact there b o' (neC b o e hx) e1
 ·obtain⟨m1,e1⟩:=I.base.tbls b ps e;obtain⟨m2,e2⟩:=tbls b _ e1;exact⟨m1++m2,by rw[e2,Array.append_assoc]⟩
 ·obtain⟨m,hn,hl⟩:=I.loc;refine⟨m,ns m hn,fun i x v e1 e2 e3=>?_⟩;obtain⟨u,r,l⟩:=hl i x v e1 e2 e3;refine⟨u,r,?_⟩;rcases l with l | ⟨k,c,e,z⟩
  ·exact .inl l
  ·exact .inr ⟨k,c,e,cellK x c e _ z⟩
 ·obtain⟨v,z⟩:=I.cell x c e;exact⟨v,cellK x c e v z⟩
 ·obtain⟨m,⟨o,_,_,ho,_⟩,_⟩:=I.loc;exact free _ o (fun z=>(hch _ z).2.1 rfl) ho I.free
 ·obtain⟨v,o,ho,hd⟩:=I.cell x c e;exact free c o (fun z=>(hch c z).2.2.1 x c e rfl) ho (I.freeC x c e)
 ·obtain⟨e,n,ne,nf,d⟩:=I.pin p hp;have nch:p.1∉ch:=fun z=>(hch p.1 z).2.2.2 p hp rfl
  exact⟨keep p.1 p.2 ne nf nch e n,free p.1 p.2 nch e n,ne,nf,d⟩
theorem Inv.un {t':Nat}(I:Inv X pins σ H s)(u:Un X.fs [] H H' s.heap h')(hok:HOk X.prog X.w H' h'):Inv X pins σ H' {s with heap:=h',toks:=t'}:=by
 obtain⟨m,⟨o,es,ep,ho,r⟩,_⟩:=id I.loc;obtain⟨sl,hL⟩:=u.any ho I.free (by simp)
 exact I.step (g':=s.gens) (d':=s.drawn) (ch:=[]) (fun _ z=>nomatch z) (fun b o _ hb _ e n=>u.keep b o e n hb (by simp)) (fun b o _ hb _ e n=>u.slot b o e n hb (by simp)) (fun b o _ e n=>u.free b o e n (by simp)) (fun b o _ e=>u.there b o e (by simp)) u.tups u.frzs u.tbls (fun m' hm=>by
  obtain⟨o',es',ep',ho',r'⟩:=hm;rw[ho] at ho';cases ho'
  exact⟨_,es',ep',hL,r'⟩) hok I.bare
theorem Inv.call {g':Array GenState}{t':Nat}{d':Drawn}{ch:List Addr}(I:Inv X pins σ H s)(u:Un (frs X.stack) ch H H' s.heap h')(hok:HOk X.prog X.w H' h')(hg:AllBare g')
  (hch:∀ b∈ch,(b∈X.ex∨X.s₀.heap.objs.size≤b)∧b≠X.env.locals∧(∀ x c,X.env.cells.lookup x=some c→c≠b)∧∀ p∈X.pn++pins,p.1≠b) :
  Inv X pins σ H' {s with heap:=h',gens:=g',drawn:=d',toks:=t'}:=by
 obtain⟨m,⟨o,es,ep,ho,r⟩,_⟩:=id I.loc;obtain⟨sl,hL⟩:=u.any ho I.free fun z=>(hch _ z).2.1 rfl
 exact I.step (ch:=ch) hch (fun b o hL hb hc e n=>u.keep b o e n (fun z=>(List.mem_cons.mp (I.stkSub b z)).elim hL hb) hc) (fun b o _ _ hc e n=>u.any e n hc) (fun b o hc e n=>u.free b o e n hc) (fun b o hc e=>u.there b o e hc) u.tups u.frzs u.tbls (fun m' hm=>by
  obtain⟨o',es',ep',ho',r'⟩:=hm;rw[ho] at ho';cases ho'
  exact⟨_,es',ep',hL,r'⟩) hok hg
theorem Inv.turned {t':Nat}{it:Addr}(I:Inv X pins σ H s)(k:∀ b o,b≠it→s.heap.get? b=some o→h'.get? b=some o)(hn:H it=none)(hL:it≠X.env.locals)
  (h1:it∈X.ex∨X.s₀.heap.objs.size≤it) (h2:∀ x c,X.env.cells.lookup x=some c→c≠it) (h3:∀ p∈X.pn++pins,p.1≠it):Inv X pins σ H {s with heap:=h',toks:=t'}:=by
 have nit:∀ b u,H b=some u→b≠it:=fun b u e z=>by rw[z,hn] at e;cases e
 refine I.step (g':=s.gens) (d':=s.drawn) (ch:=[it]) (fun b hb=>?_) (fun b o _ _ hc e _=>k b o (fun z=>hc (by simp[z])) e) (fun b o _ _ hc e _=>⟨o.slots,k b o (fun z=>hc (by simp[z])) e⟩) (fun _ _ _ _ n=>n)
  (fun b o hc e=>⟨o,k b o (fun z=>hc (by simp[z])) e⟩) (fun _ _ e=>e) (fun _ _ _ e=>e) (fun b ps e=>⟨#[],by rw[e];simp⟩) (fun m hm=>?_) (fun b u e=>?_) I.bare
 ·have e:b=it:=by simpa using hb
  subst e;exact⟨h1,hL,h2,h3⟩
 ·obtain⟨o,es,ep,ho,r⟩:=hm;exact⟨o,es,ep,k _ o (Ne.symm hL) ho,r⟩
 ·refine (I.hok b u e).stay (fun c v hc q=>k c v ?_ q) (fun _ q=>q) fun _ _ q=>q
  rcases hc with z | z
  ·rw[z];exact nit b u e
  ·exact nit c _ z
theorem Inv.tok (I:Inv X pins σ H s)(t:Nat):Inv X pins σ H {s with toks:=t}:=I.un (h':=s.heap) (t':=t) Un.refl I.hok
theorem Inv.kept {t':Nat}(I:Inv X pins σ H s)(k:∀ b u,s.heap.get? b=some u→h'.get? b=some u):Inv X pins σ H {s with heap:=h',toks:=t'}:=I.un (Un.kept k) (I.hok.kept k)
theorem Inv.laid {a:Addr}{o:HO}{t':Nat}(I:Inv X pins σ H s)(k:∀ b u,s.heap.get? b=some u→h'.get? b=some u)(hp:s.heap.objs.size≤a)(new:ObjOk X.prog X.w (upd H a o) h' a o) :
  Inv X pins σ (upd H a o) {s with heap:=h',toks:=t'}:=I.un (Un.laid k hp (I.hok.fresh hp)) (I.hok.laid k hp new)
theorem Inv.write {x e:Addr}{o:HO}{t':Nat}(I:Inv X pins σ H s)(mu:Mut (H x))(he:e=x∨H e=some (.own x))(k:∀ b u,b≠e→s.heap.get? b=some u→h'.get? b=some u)(heo:∃ u,h'.get? e=some u)
  (new:ObjOk X.prog X.w (upd H x o) h' x o):Inv X pins σ (upd H x o) {s with heap:=h',toks:=t'}:=I.un (Un.write mu he k heo) (I.hok.write mu he k heo new)
theorem Inv.pins_of {pins':List (Addr×Obj)}(I:Inv X pins σ H s)(h:∀ p∈pins',s.heap.get? p.1=some p.2∧H p.1=none∧p.1≠X.env.locals∧p.1∉X.fs∧∀ v,p.2.data≠.cell v):Inv X pins' σ H s :=
 ⟨I.ok,I.os,I.bare,I.base,I.loc,I.cell,I.free,I.freeC,fun p hp=>(List.mem_append.mp hp).elim (fun z=>I.pin p (List.mem_append_left _ z)) (h p),I.hok,I.len⟩
theorem nodup_ix {N:List Str}(hN:N.Nodup){i j:Nat}{x:Str}(a:N[i]?=some x)(b:N[j]?=some x):i=j:=by
 obtain⟨h1,e1⟩:=List.getElem?_eq_some_iff.mp a;obtain⟨h2,e2⟩:=List.getElem?_eq_some_iff.mp b;exact (List.getElem_inj hN).mp (e1.trans e2.symm)
theorem store_ok2 {M:Model}{A:Around}{E:Value→Shared→Prop}{i:Nat}{x:Str}{v:V}{u:Value}{Q:Unit→Shared→Prop}(I:Inv X pins σ H s)(hN:X.N.Nodup)(hi:X.N[i]?=some x)(hx:Loc X.env.scope x)(r:RelV v u)
  (h:∀ s',Inv X pins (σ.set i (some v)) H s'→(∃ a,Heap.SameBut a s.heap s'.heap∧(a=X.env.locals∨X.env.cells.lookup x=some a))→Q () s') (hf:X.fn x=true∨X.env.scope.names.lookup x=some .local:=by first | exact .inl rfl | exact .inr rfl | assumption):wpAny M A (storeName X.env x u) Q E s:=by
 obtain⟨m,hn,hl⟩:=id I.loc;have hcls:(X.env.scope.kind == .class || (X.env.scope.kind == .module && X.env.locals != X.env.globals))=false:=by rw[I.ok.kind];rfl
 have hiσ:i<σ.length:=by rw[I.len];exact (List.getElem?_eq_some_iff.mp hi).1
 have cne:=I.cne;have tracked:∀ {a:Addr} {h':Heap},(∃ o,s.heap.get? a=some o∧H a=none)→Heap.SameBut a s.heap h'→HOk X.prog X.w H h':=fun {a h'} ha hs b ob e=>by
  obtain⟨_,_,hfree⟩:=ha;refine (I.hok b ob e).stay (fun c w' hc q=>(hs.2 c ?_).trans q) (fun _ q=>q) fun _ _ q=>q
  rintro rfl;rcases hc with rfl | hc
  ·rw[hfree] at e;cases e
  ·rw[hfree] at hc;cases hc
 rcases hx with hk | hk
 ·refine wpAny_storeName_local hk hn (fun h' hn' hs=>?_) hcls;obtain⟨oL,_,_,hoL,_⟩:=id hn;refine h _ ⟨I.ok,I.os,I.bare,⟨fun b o e n hb hx=>?_,fun b o e n hb hx=>?_,I.base.free,fun b o e hx=>?_,I.base.tups,I.base.frzs,I.base.tbls⟩,⟨_,hn',fun j y v' e1 e2 e3=>?_⟩,fun y c e=>?_,I.free,I.freeC,fun p hp=>?_,tracked ⟨oL,hoL,I.free⟩ hs,by simpa using I.len⟩ ⟨_,hs,.inl rfl⟩
  ·exact (hs.2 b (Nat.ne_of_lt (Nat.lt_of_lt_of_le (Heap.lt_size e) I.ok.above))).trans (I.base.keep b o e n hb hx)
  ·obtain⟨sl,e1⟩:=I.base.slot b o e n hb hx;exact⟨sl,(hs.2 b (Nat.ne_of_lt (Nat.lt_of_lt_of_le (Heap.lt_size e) I.ok.above))).trans e1⟩
  ·obtain⟨o',e1⟩:=I.base.there b o e hx;exact⟨o',(hs.2 b (Nat.ne_of_lt (Nat.lt_of_lt_of_le (Heap.lt_size e) I.ok.above))).trans e1⟩
  ·by_cases hj:j=i
   ·subst hj;rw[hi] at e1;cases e1;rw[List.getElem?_set_self hiσ] at e2;cases e2;exact⟨u,r,.inl ⟨hk,by simp⟩⟩
   ·rw[List.getElem?_set_ne (Ne.symm hj)] at e2;obtain⟨u',r',q⟩:=hl j y v' e1 e2 e3;refine⟨u',r',?_⟩;rcases q with ⟨k,e⟩ | ⟨k,c,e,z⟩
    ·refine .inl ⟨k,?_⟩;have:y≠x:=fun e=>hj (nodup_ix hN e1 (e ▸ hi))
     simp[this,e]
    ·exact .inr ⟨k,c,e,z.sameBut hs (cne y c e)⟩
  ·obtain⟨w',z⟩:=I.cell y c e;exact⟨w',z.sameBut hs (cne y c e)⟩
  ·obtain⟨e,n,ne,nf,d⟩:=I.pin p hp;exact⟨(hs.2 p.1 ne).trans e,n,ne,nf,d⟩
 ·have hfn:X.fn x=true:=by
   rcases hf with z | z
   ·exact z
   ·rw[z] at hk;cases hk
  obtain⟨c,hc⟩:=I.ok.has x (.inl hk);obtain⟨w',z⟩:=I.cell x c hc;refine wpAny_storeName_cell I.ok.kind hk hc z (fun h' hc' hs=>?_);obtain⟨oc,hoc,hocd⟩:=id z;refine h {s with heap:=h'} ⟨I.ok,I.os,I.bare,⟨fun b o e n hb hx=>?_,fun b o e n hb hx=>?_,I.base.free,fun b o e hx=>?_,I.base.tups,I.base.frzs,I.base.tbls⟩,⟨m,hn.sameBut hs (Ne.symm (cne x c hc)),fun j y v' e1 e2 e3=>?_⟩,fun y c' e=>?_,I.free,I.freeC,fun p hp=>?_,tracked ⟨oc,hoc,I.freeC x c hc⟩ hs,by simpa using I.len⟩ ⟨c,hs,.inr hc⟩
  ·exact (hs.2 b (Nat.ne_of_lt (Nat.lt_of_lt_of_le (Heap.lt_size e) (I.ok.cab x c hfn hc)))).trans (I.base.keep b o e n hb hx)
  ·obtain⟨sl,e1⟩:=I.base.slot b o e n hb hx;exact⟨sl,(hs.2 b (Nat.ne_of_lt (Nat.lt_of_lt_of_le (Heap.lt_size e) (I.ok.cab x c hfn hc)))).trans e1⟩
  ·obtain⟨o',e1⟩:=I.base.there b o e hx;exact⟨o',(hs.2 b (Nat.ne_of_lt (Nat.lt_of_lt_of_le (Heap.lt_size e) (I.ok.cab x c hfn hc)))).trans e1⟩
  ·by_cases hj:j=i
   ·subst hj;rw[hi] at e1;cases e1;rw[List.getElem?_set_self hiσ] at e2;cases e2;exact⟨u,r,.inr ⟨.inl hk,c,hc,hc'⟩⟩
   ·rw[List.getElem?_set_ne (Ne.symm hj)] at e2;obtain⟨u',r',q⟩:=hl j y v' e1 e2 e3;refine⟨u',r',?_⟩;rcases q with q | ⟨k,c',e,z'⟩
    ·exact .inl q
    ·refine .inr ⟨k,c',e,z'.sameBut hs ?_⟩;rintro rfl;exact hj (nodup_ix hN e1 (I.ok.inj _ _ _ e hc ▸ hi))
  ·by_cases hcc:c'=c
   ·subst hcc;exact⟨_,hc'⟩
   ·obtain⟨w2,z2⟩:=I.cell y c' e;exact⟨w2,z2.sameBut hs hcc⟩
  ·obtain⟨e,n,ne,nf,d⟩:=I.pin p hp;refine⟨(hs.2 p.1 ?_).trans e,n,ne,nf,d⟩;intro q;rw[q,hoc] at e;have q':oc=p.2:=Option.some.inj e;exact d w' (by rw[← q'];exact hocd)
theorem store_ok {M:Model}{A:Around}{E:Value→Shared→Prop}{i:Nat}{x:Str}{v:V}{u:Value}{Q:Unit→Shared→Prop}(I:Inv X pins σ H s)(hN:X.N.Nodup)(hi:X.N[i]?=some x)(hx:Loc X.env.scope x)(r:RelV v u)
  (h:∀ s',Inv X pins (σ.set i (some v)) H s'→Q () s') (hf:X.fn x=true∨X.env.scope.names.lookup x=some .local:=by first | exact .inl rfl | exact .inr rfl | assumption):wpAny M A (storeName X.env x u) Q E s :=
 store_ok2 I hN hi hx r (fun s' I' _=>h s' I') hf
theorem Inv.call' {s':Shared}{ch:List Addr}(I:Inv X pins σ H s)(ho:s'.os=s.os)(u:Un (frs X.stack) ch H H' s.heap s'.heap)(hok:HOk X.prog X.w H' s'.heap)(hg:AllBare s'.gens)
  (hch:∀ b∈ch,(b∈X.ex∨X.s₀.heap.objs.size≤b)∧b≠X.env.locals∧(∀ x c,X.env.cells.lookup x=some c→c≠b)∧∀ p∈X.pn++pins,p.1≠b):Inv X pins σ H' s':=by
 obtain⟨h',g',d',t',o'⟩:=s';have e:o'=s.os:=ho;subst e;exact I.call (g':=g') (t':=t') (d':=d') u hok hg hch
end
abbrev XK:=Value→Option Addr→Hp→Prop
abbrev St:=List (Option V)
abbrev VK:=V→Hp→Prop
abbrev TE:=St→Hp→VK→Prop
abbrev TT:=St→Hp→(Bool→Hp→Prop)→Prop
abbrev TA:=St→Hp→(List V→Hp→Prop)→Prop
structure Ends where
 nx:St→Hp→Prop
 rt:VK
 bk:St→Hp→Prop:=fun _ _=>False
 ct:St→Hp→Prop:=fun _ _=>False
abbrev TS:=Ends→St→Hp→Prop
def EP (X:Cx)(pins:List (Addr×Obj))(σ:St)(Q:VK)(u:Value)(s':Shared):Prop:=∃ v H',Inv X pins σ H' s'∧RelV v u∧Q v H'
def TP (X:Cx)(pins:List (Addr×Obj))(σ:St)(Q:Bool→Hp→Prop)(b:Bool)(s':Shared):Prop:=∃ H',Inv X pins σ H' s'∧Q b H'
def AP (X:Cx)(pins:List (Addr×Obj))(σ:St)(Q:List V→Hp→Prop)(us:List Value)(s':Shared):Prop:=∃ vs H',Inv X pins σ H' s'∧Vals vs us∧Q vs H'
def SP (X:Cx)(pins:List (Addr×Obj))(D:Ends)(f:Flow)(s':Shared):Prop :=
 match f with
 | .next=>∃ σ' H',Inv X pins σ' H' s'∧D.nx σ' H'
 | .brk=>∃ σ' H',Inv X pins σ' H' s'∧D.bk σ' H'
 | .cont=>∃ σ' H',Inv X pins σ' H' s'∧D.ct σ' H'
 | .ret u=>∃ v σ' H',Inv X pins σ' H' s'∧RelV v u∧D.rt v H'
def PE (X:Cx)(e:Expr)(t:TE):Prop :=
 ∀ (pins:List (Addr×Obj)) (s:Shared) (σ:St) (H:Hp) (Q:VK),Inv X pins σ H s→t σ H Q→wpAny (model X.prog X.w) X.A (eval e X.env) (EP X pins σ Q) X.xe s
def PT (X:Cx)(e:Expr)(t:TT):Prop :=
 ∀ (pins:List (Addr×Obj)) (s:Shared) (σ:St) (H:Hp) (Q:Bool→Hp→Prop),Inv X pins σ H s→t σ H Q→wpAny (model X.prog X.w) X.A (isTrue e X.env (eval e X.env)) (TP X pins σ Q) X.xe s
def PW (X:Cx)(e:Expr)(t:TT):Prop :=
 ∀ (whole:Sem Value) (pins:List (Addr×Obj)) (s:Shared) (σ:St) (H:Hp) (Q:Bool→Hp→Prop),Inv X pins σ H s→t σ H Q→wpAny (model X.prog X.w) X.A (isTrue e X.env whole) (TP X pins σ Q) X.xe s
theorem PW.pt {X:Cx}{e:Expr}{t:TT}(h:PW X e t):PT X e t:=h _
def PA (X:Cx)(es:List Expr)(t:TA):Prop :=
 ∀ (pos:Pos) (pins:List (Addr×Obj)) (s:Shared) (σ:St) (H:Hp) (Q:List V→Hp→Prop),Inv X pins σ H s→t σ H Q→wpAny (model X.prog X.w) X.A (spliced (backTo pos (starEach es X.env))) (AP X pins σ Q) X.xe s
def PS (X:Cx)(st:Stmt)(t:TS):Prop :=
 ∀ (pins:List (Addr×Obj)) (s:Shared) (σ:St) (H:Hp) (D:Ends),Inv X pins σ H s→t D σ H→wpAny (model X.prog X.w) X.A (exec st X.env) (SP X pins D) X.xe s
def PSs (X:Cx)(st:List Stmt)(t:TS):Prop :=
 ∀ (pins:List (Addr×Obj)) (s:Shared) (σ:St) (H:Hp) (D:Ends),Inv X pins σ H s→t D σ H→wpAny (model X.prog X.w) X.A (execs st X.env) (SP X pins D) X.xe s
theorem thn {α:Type}{t:Sem α}{Q Q':α→Shared→Prop}{M:Model}{A:Around}{E:Value→Shared→Prop}{s:Shared}(h:wpAny M A t Q E s)(hQ:∀ a s,Q a s→Q' a s):wpAny M A t Q' E s:=wpAny_mono h hQ fun _ _ x=>x
end L2
namespace L2
open PySem PySem.Spec PyProof.Rows
section
variable {X:Cx}
theorem bin {a b:Expr}{ta tb:TE}(ha:PE X a ta)(hb:PE X b tb){pins:List (Addr×Obj)}{s:Shared}{σ:St}{H:Hp}{R:V→V→Hp→Prop}(I:Inv X pins σ H s)(h:ta σ H fun x H1=>tb σ H1 fun y H2=>R x y H2)
  {α:Type} {Q:α→Shared→Prop} {f:Value→Value→Sem α}
  (hf:∀ v u s2 x y H2,Inv X pins σ H2 s2→RelV x v→RelV y u→R x y H2→wpAny (model X.prog X.w) X.A (f v u) Q X.xe s2) :
  wpAny (model X.prog X.w) X.A (eval a X.env) (fun v s₁=>wpAny (model X.prog X.w) X.A (eval b X.env) (fun u s₂=>wpAny (model X.prog X.w) X.A (f v u) Q X.xe s₂) X.xe s₁) X.xe s:=by
 refine thn (ha pins s σ H _ I h) fun v s1 ⟨x,H1,I1,r1,q1⟩=>?_
 refine thn (hb pins s1 σ H1 _ I1 q1) fun u s2 ⟨y,H2,I2,r2,q2⟩=>?_
 exact hf v u s2 x y H2 I2 r1 r2 q2
def tVar (i:Nat):TE:=fun σ H Q=>∃ v,σ[i]?=some (some v)∧Q v H
def tC (v:V):TE:=fun _ H Q=>Q v H
theorem pe_var {i:Nat}{x:Str}{pos:Pos}(hN:X.N[i]?=some x)(hv:Vis X.env.scope x)(hd:(x == ("__debug__":Str))=false:=by decide)(hcd:(x == ("__classdict__":Str))=false:=by decide):PE X (.Name x pos) (tVar i):=by
 intro pins s σ H Q I h;obtain⟨v,e,h⟩:=h;obtain⟨m,hn,hl⟩:=I.loc;obtain⟨u,r,l⟩:=hl i x v hN e hv;have fin:EP X pins σ Q u s:=⟨v,H,I,r,h⟩
 rcases l with ⟨hk,hm⟩ | ⟨hk,c,hc,hcell⟩
 ·exact wpAny_Name (wpAny_loadName_local I.ok.kind hk hn hm fin) hd
 ·rcases hk with hk | hk
  ·exact wpAny_Name (wpAny_loadName_cell I.ok.kind hk hc hcell fin) hd
  ·exact wpAny_Name (wpAny_loadName_free I.ok.kind hk hc hcell fin hcd) hd
theorem pe_int {i j pos}:PE X (.Constant (.int i) j pos) (tC (.int i)):=fun _ _ _ H _ I h=>wpAny_Constant_int ⟨.int i,H,I.tok _,⟨_,rfl⟩,h⟩
theorem pe_bl {b j pos}:PE X (.Constant (.bool b) j pos) (tC (.bl b)):=fun _ _ _ H _ I h=>Constant_bool ⟨.bl b,H,I,rfl,h⟩
theorem pe_non {j pos}:PE X (.Constant .none j pos) (tC .non):=fun _ _ _ H _ I h=>Constant_none ⟨.non,H,I,rfl,h⟩
theorem pe_str {x j pos}:PE X (.Constant (.str x) j pos) (tC (.str x)):=fun _ _ _ H _ I h=>Calls.Constant_str ⟨.str x,H,I.tok _,⟨_,rfl⟩,h⟩
def Gl (X:Cx)(x:Str):Prop:=X.env.kindOf x=some .globalImplicit
theorem ld_glob {E:Value→Shared→Prop}{pins:List (Addr×Obj)}{s:Shared}{σ:St}{H:Hp}{x:Str}{u:Value}{pos:Pos}{Q:Value→Shared→Prop}(I:Inv X pins σ H s)(hg:Gl X x)(hm:X.mg x=some u)(h:Q u s)
  (hd:(x == ("__debug__":Str))=false:=by decide):wpAny (model X.prog X.w) X.A (eval (.Name x pos) X.env) Q E s :=
 Calls.Name_function_global I.ok.kind hg (Calls.loadGlobal_global (by rw[I.ok.glob];exact I.mod.glob.keeps I.bk) hm h) hd
theorem ld_blt {E:Value→Shared→Prop}{pins:List (Addr×Obj)}{s:Shared}{σ:St}{H:Hp}{x:Str}{u:Value}{pos:Pos}{Q:Value→Shared→Prop}(I:Inv X pins σ H s)(hg:Gl X x)(hm:X.mg x=none)(hv:bootBuiltins x=some u)(h:Q u s)
  (hn:x≠"__name__":=by decide) (hd:(x == ("__debug__":Str))=false:=by decide):wpAny (model X.prog X.w) X.A (eval (.Name x pos) X.env) Q E s:=by
 obtain⟨mb,h1,h2⟩:=I.mod.blt;exact Calls.Name_function_global I.ok.kind hg (Calls.loadGlobal_builtin (by rw[I.ok.glob];exact I.mod.glob.keeps I.bk) hm (by rw[I.ok.blt];exact h1.keeps I.bk) ((h2 x hn).trans hv) h) hd
variable {a b:Expr}{ta tb:TE}{pos:Pos}
def PC (X:Cx)(op:CmpOp)(a b:Expr)(t:TE):Prop :=
 ∀ (pins:List (Addr×Obj)) (s:Shared) (σ:St) (H:Hp) (Q:VK),Inv X pins σ H s→t σ H Q →
  wpAny (model X.prog X.w) X.A (eval a X.env) (fun v s₁=>wpAny (model X.prog X.w) X.A (eval b X.env) (fun u s₂=>wpAny (model X.prog X.w) X.A (compareOp op v u) (EP X pins σ Q) X.xe s₂) X.xe s₁) X.xe s
theorem nobehind (b:Expr){op:CmpOp}(h:op≠.In)(h2:op≠.NotIn):behindInMarks op b=false:=by
 have e1:(op == CmpOp.In)=false:=by cases op<;>first | rfl | exact absurd rfl h
 have e2:(op == CmpOp.NotIn)=false:=by cases op<;>first | rfl | exact absurd rfl h2
 cases b<;>simp[behindInMarks,e1,e2]
def tIsN (ta:TE):TE:=fun σ H Q=>ta σ H fun x H1=>Q (.bl (decide (x=.non))) H1
def tNotN (ta:TE):TE:=fun σ H Q=>ta σ H fun x H1=>Q (.bl (!decide (x=.non))) H1
def tB (t:TE):TT:=fun σ H Q=>t σ H fun x H1=>∃ c,x=.bl c∧Q c H1
theorem pt_cmp {op:CmpOp}{t:TE}(h:PC X op a b t)(h1:behindInMarks op b=false:=by first | exact nobehind _ (by decide) (by decide) | rfl):PT X (.Compare a [op] [b] pos) (tB t):=by
 intro pins s σ H Q I hw;refine wpAny_isTrue_Compare1 (thn (h pins s σ H _ I hw) fun v s1 h1=>thn h1 fun u s2 h2=>thn h2 fun c s3 ⟨x,H1,I1,r1,q1⟩=>?_) h1;obtain⟨d,rfl,q⟩:=q1;cases r1;exact wpAny_truthy_bool ⟨H1,I1,q⟩
theorem pt_val {e:Expr}{t:TE}(h:PE X e t)(he:∀ whole,isTrue e X.env whole=(do let v ← whole;standAt e.pos;holding [v] (truthy v)):=by intro _;rfl):PT X e (tB t):=by
 intro pins s σ H Q I hw;refine isTrue_plain (thn (h pins s σ H _ I hw) fun v s1 ⟨x,H1,I1,r1,q1⟩=>?_) (he _);obtain⟨d,rfl,q⟩:=q1;cases r1;exact wpAny_truthy_bool ⟨H1,I1,q⟩
variable {tA tB':TT}{rest:List Expr}
def tAnd (t u:TT):TT:=fun σ H Q=>t σ H fun c H1=>if c=true then u σ H1 Q else Q false H1
def tOr (t u:TT):TT:=fun σ H Q=>t σ H fun c H1=>if c=true then Q true H1 else u σ H1 Q
def tNot (t:TT):TT:=fun σ H Q=>t σ H fun c H1=>Q (!c) H1
theorem pw_and1 (ha:PT X a tA):PW X (.BoolOp .And [a] pos) tA:=by
 intro wh pins s σ H Q I h;refine isTrue_and (thn (ha pins s σ H Q I h) fun c s1 e=>?_);cases c with
 | true=>exact isTrue_and_nil e
 | false=>exact e
theorem pw_or1 (ha:PT X a tA):PW X (.BoolOp .Or [a] pos) tA:=by
 intro wh pins s σ H Q I h;refine isTrue_or (thn (ha pins s σ H Q I h) fun c s1 e=>?_);cases c with
 | false=>exact isTrue_or_nil e
 | true=>exact e
theorem pw_and (ha:PT X a tA)(hb:PW X (.BoolOp .And (b::rest) pos) tB'):PW X (.BoolOp .And (a::b::rest) pos) (tAnd tA tB'):=by
 intro wh pins s σ H Q I h;refine isTrue_and (thn (ha pins s σ H _ I h) fun c s1 ⟨H1,I1,q1⟩=>?_);cases c with
 | true=>exact hb wh pins s1 σ H1 Q I1 q1
 | false=>exact⟨H1,I1,q1⟩
theorem pw_or (ha:PT X a tA)(hb:PW X (.BoolOp .Or (b::rest) pos) tB'):PW X (.BoolOp .Or (a::b::rest) pos) (tOr tA tB'):=by
 intro wh pins s σ H Q I h;refine isTrue_or (thn (ha pins s σ H _ I h) fun c s1 ⟨H1,I1,q1⟩=>?_);cases c with
 | true=>exact⟨H1,I1,q1⟩
 | false=>exact hb wh pins s1 σ H1 Q I1 q1
theorem pt_not (ha:PT X a tA):PT X (.UnaryOp .Not a pos) (tNot tA):=by
 intro pins s σ H Q I h;exact isTrue_not (ha pins s σ H (fun c H1=>Q (!c) H1) I h)
def tAndV (ta tb:TE):TE:=fun σ H Q=>ta σ H fun x H1=>∃ c,x=.bl c∧if c=true then tb σ H1 Q else Q (.bl false) H1
def tOrV (ta tb:TE):TE:=fun σ H Q=>ta σ H fun x H1=>∃ c,x=.bl c∧if c=true then Q (.bl true) H1 else tb σ H1 Q
def tNotV (ta:TE):TE:=fun σ H Q=>ta σ H fun x H1=>∃ c,x=.bl c∧Q (.bl (!c)) H1
theorem pe_one {op}{t:TE}(h:PE X a t):PE X (.BoolOp op [a] pos) t:=fun pins s σ H Q I hw=>BoolOp_one (h pins s σ H Q I hw)
theorem pe_and (ha:PE X a ta)(hb:PE X (.BoolOp .And (b::rest) pos) tb):PE X (.BoolOp .And (a::b::rest) pos) (tAndV ta tb):=by
 intro pins s σ H Q I h;refine BoolOp_and (thn (ha pins s σ H _ I h) fun v s1 ⟨x,H1,I1,r1,q1⟩=>?_);obtain⟨c,rfl,q1⟩:=q1;cases r1;refine wpAny_truthy_bool ?_;cases c with
 | true=>exact hb pins s1 σ H1 Q I1 q1
 | false=>exact⟨.bl false,H1,I1,rfl,q1⟩
theorem pe_not (ha:PE X a ta):PE X (.UnaryOp .Not a pos) (tNotV ta):=by
 intro pins s σ H Q I h;refine UnaryOp_ (thn (ha pins s σ H _ I h) fun v s1 ⟨x,H1,I1,r1,q1⟩=>?_);obtain⟨c,rfl,q1⟩:=q1;cases r1;exact not_of (wpAny_truthy_bool ⟨.bl (!c),H1,I1,rfl,q1⟩)
end
end L2
namespace L2
open PySem PySem.Spec PyProof.Rows
def SqL (K:PySem.W.Frag)(H:Hp)(a:Addr)(xs:List V):Prop :=
 Rd H a (.lst xs) ∨
  ∃ (o:Obj) (its:Array Value) (n:Nat),K.lookup a=some o∧o.cls=.type "list"∧o.dict=none∧o.data=.seq its n∧its.size≤sizeLine∧Vals xs its.toList
def SqT (K:PySem.W.Frag)(H:Hp)(a:Addr)(xs:List V):Prop :=
 Rd H a (.tup xs) ∨
  ∃ (o:Obj) (its:Array Value) (n:Nat),K.lookup a=some o∧o.cls=.type "tuple"∧o.data=.seq its n∧its.size≤sizeLine∧Vals xs its.toList
def absV:Value→Option V
 | .none=>some .non
 | .bool b=>some (.bl b)
 | .int i _=>some (.int i)
 | .str x _=>some (.str x)
 | .bytes b _=>some (.byt b)
 | .float b _=>some (.flt b)
 | .ref a=>some (.ref a)
 | .type n=>some (.ty n)
 | _=>none
theorem RelV.abs {x:V}{u:Value}(r:RelV x u):absV u=some x:=by
 cases x with
 | non=>cases r;rfl
 | bl _=>cases r;rfl
 | int _=>obtain⟨t,rfl⟩:=r;rfl
 | str _=>obtain⟨t,rfl⟩:=r;rfl
 | byt _=>obtain⟨t,rfl⟩:=r;rfl
 | flt _=>obtain⟨t,rfl⟩:=r;rfl
 | ref _=>cases r;rfl
 | ty _=>cases r;rfl
theorem RelV.inj {x y:V}{u:Value}(r:RelV x u)(q:RelV y u):x=y:=Option.some.inj (r.abs.symm.trans q.abs)
theorem Vals.inj:∀ {xs ys:List V} {us:List Value},Vals xs us→Vals ys us→xs=ys
 | _,_,_,.nil,.nil=>rfl
 | _,_,_,.cons r t,.cons r' t'=>by rw[r.inj r',Vals.inj t t']
section
variable {X:Cx}{pins:List (Addr×Obj)}{σ:St}{H:Hp}{s:Shared}{a:Addr}{xs ys:List V}
theorem SqL.of {K:PySem.W.Frag}(h:H a=some (.lst xs)):SqL K H a xs:=.inl (.inl h)
theorem SqT.of {K:PySem.W.Frag}(h:H a=some (.tup xs)):SqT K H a xs:=.inl (.inl h)
theorem Inv.list (I:Inv X pins σ H s)(h:SqL X.K H a xs):∃ its:List Value,Vals xs its∧PlainL s.heap a its.toArray∧xs.length≤sizeLine:=by
 rcases h with h | ⟨o,its,n,hk,hc,hd,hs,hz,r⟩
 ·obtain⟨z,its,n,r,e⟩:=h.ok I.hok;exact⟨its,r,⟨_,n,e,rfl,rfl,rfl⟩,z⟩
 ·refine⟨its.toList,r,⟨o,n,I.kIn a o hk,hc,hd,by simpa using hs⟩,?_⟩;have e:=r.length;simp only[Array.length_toList] at e;omega
theorem Inv.tuple (I:Inv X pins σ H s)(h:SqT X.K H a xs):∃ its:List Value,Vals xs its∧IsTup s.heap a its.toArray∧xs.length≤sizeLine:=by
 rcases h with h | ⟨o,its,n,hk,hc,hs,hz,r⟩
 ·obtain⟨z,its,r,p⟩:=h.ok I.hok;exact⟨its,r,p,z⟩
 ·refine⟨its.toList,r,⟨o,I.kIn a o hk,hc,n,by simpa using hs⟩,?_⟩;have e:=r.length;simp only[Array.length_toList] at e;omega
theorem Inv.list_inj (I:Inv X pins σ H s)(h:SqL X.K H a xs)(h':SqL X.K H a ys):xs=ys:=by
 obtain⟨its,r,⟨o,n,e,_,_,d⟩,_⟩:=I.list h;obtain⟨its',r',⟨o',n',e',_,_,d'⟩,_⟩:=I.list h';rw[e] at e';cases e';rw[d] at d';injection d' with d1 _
 have:its=its':=by simpa using congrArg Array.toList d1
 subst this;exact r.inj r'
theorem Inv.tuple_inj (I:Inv X pins σ H s)(h:SqT X.K H a xs)(h':SqT X.K H a ys):xs=ys:=by
 obtain⟨its,r,⟨o,e,_,n,d⟩,_⟩:=I.tuple h;obtain⟨its',r',⟨o',e',_,n',d'⟩,_⟩:=I.tuple h';rw[e] at e';cases e';rw[d] at d';injection d' with d1 _
 have:its=its':=by simpa using congrArg Array.toList d1
 subst this;exact r.inj r'
end
abbrev Cx.wish (X:Cx)(E:Value→Shared→Prop):Cx:={X with xe:=E}
abbrev Cx.nox (X:Cx):Cx:=X.wish fun _ _=>False
theorem Cx.Ok.wish {X:Cx}(ok:X.Ok)(E:Value→Shared→Prop):(X.wish E).Ok :=
 ⟨ok.mod,ok.kind,ok.glob,ok.blt,ok.above,ok.inj,ok.has,ok.cab,ok.hd,ok.frames,ok.stk,ok.exf,ok.bs,ok.bsz,ok.noex,ok.exfs,ok.funs,ok.frf⟩
theorem Cx.Ok.unwish {X:Cx}{E:Value→Shared→Prop}(ok:(X.wish E).Ok):X.Ok :=
 ⟨ok.mod,ok.kind,ok.glob,ok.blt,ok.above,ok.inj,ok.has,ok.cab,ok.hd,ok.frames,ok.stk,ok.exf,ok.bs,ok.bsz,ok.noex,ok.exfs,ok.funs,ok.frf⟩
section
variable {X:Cx}{pins:List (Addr×Obj)}{σ:St}{H:Hp}{s:Shared}{E:Value→Shared→Prop}
theorem Inv.wish (I:Inv X pins σ H s)(E:Value→Shared→Prop):Inv (X.wish E) pins σ H s:=⟨I.ok.wish E,I.os,I.bare,I.base,I.loc,I.cell,I.free,I.freeC,I.pin,I.hok,I.len⟩
theorem Inv.unwish (I:Inv (X.wish E) pins σ H s):Inv X pins σ H s:=⟨I.ok.unwish,I.os,I.bare,I.base,I.loc,I.cell,I.free,I.freeC,I.pin,I.hok,I.len⟩
theorem SP.unwish {D:Ends}{f:Flow}{s':Shared}(h:SP (X.wish E) pins D f s'):SP X pins D f s':=by
 cases f with
 | next=>obtain⟨σ',H',I,q⟩:=h;exact⟨σ',H',I.unwish,q⟩
 | brk=>obtain⟨σ',H',I,q⟩:=h;exact⟨σ',H',I.unwish,q⟩
 | cont=>obtain⟨σ',H',I,q⟩:=h;exact⟨σ',H',I.unwish,q⟩
 | ret u=>obtain⟨v,σ',H',I,r,q⟩:=h;exact⟨v,σ',H',I.unwish,r,q⟩
theorem PE.nox {e:Expr}{t:TE}(h:PE X.nox e t):PE X e t:=fun pins s σ H Q I hw =>
 wpAny_mono (h pins s σ H Q (I.wish _) hw) (fun _ _ ⟨v,H',I',r,q⟩=>⟨v,H',I'.unwish,r,q⟩) fun _ _ z=>False.elim z
theorem PT.nox {e:Expr}{t:TT}(h:PT X.nox e t):PT X e t:=fun pins s σ H Q I hw =>
 wpAny_mono (h pins s σ H Q (I.wish _) hw) (fun _ _ ⟨H',I',q⟩=>⟨H',I'.unwish,q⟩) fun _ _ z=>False.elim z
theorem PSs.nox {st:List Stmt}{t:TS}(h:PSs X.nox st t):PSs X st t:=fun pins s σ H D I hw =>
 wpAny_mono (h pins s σ H D (I.wish _) hw) (fun _ _ q=>q.unwish) fun _ _ z=>False.elim z
end
section
variable {X:Cx}{st:Stmt}{rest:List Stmt}{t u:TS}{e:Expr}{te:TE}{pos:Pos}
def tNext:TS:=fun D σ H=>D.nx σ H
def tSeq (t u:TS):TS:=fun D σ H=>t {D with nx:=u D} σ H
theorem pss_nil:PSs X [] tNext:=fun _ _ σ H _ I h=>wpAny_execs_nil ⟨σ,H,I,h⟩
theorem pss_cons (h1:PS X st t)(h2:PSs X rest u):PSs X (st::rest) (tSeq t u):=by
 intro pins s σ H D I h;refine wpAny_execs_cons (thn (h1 pins s σ H {D with nx:=u D} I h) fun f s1 q=>?_);cases f with
 | next =>
  obtain⟨σ',H',I',q⟩:=q;exact h2 pins s1 σ' H' D I' q
 | ret v=>exact q
 | brk=>exact q
 | cont=>exact q
theorem pss_one (h1:PS X st t):PSs X [st] t:=by
 intro pins s σ H D I h;refine wpAny_execs_cons (thn (h1 pins s σ H D I h) fun f s1 q=>?_);cases f with
 | next=>exact wpAny_execs_nil q
 | ret v=>exact q
 | brk=>exact q
 | cont=>exact q
theorem Inv.quiet {pins:List (Addr×Obj)}{σ:St}{H:Hp}{s:Shared}(I:Inv X pins σ H s):interactive X.env=false:=by simp[interactive,I.ok.kind]
def tDrop (te:TE):TS:=fun D σ H=>te σ H fun _ H1=>D.nx σ H1
theorem ps_expr (he:PE X e te)(hs:swapsWith e none pos.line X.env=pure false:=by rfl):PS X (.Expr e pos) (tDrop te):=by
 intro pins s σ H D I h;exact wpAny_Expr_any (thn (he pins s σ H _ I h) fun v s1 ⟨x,H1,I1,r1,q1⟩=>⟨σ,H1,I1,q1⟩) I.quiet hs
def tRet (te:TE):TS:=fun D σ H=>te σ H D.rt
theorem ps_ret (he:PE X e te):PS X (.Return (some e) pos) (tRet te):=by
 intro pins s σ H D I h;exact wpAny_Return_some (thn (he pins s σ H _ I h) fun v s1 ⟨x,H1,I1,r1,q1⟩=>⟨x,σ,H1,I1,r1,q1⟩)
def tRetN:TS:=fun D _ H=>D.rt .non H
def tIfS (c:TT)(t u:TS):TS:=fun D σ H=>c σ H fun b H1=>if b=true then t D σ H1 else u D σ H1
theorem ps_if {c:Expr}{a b:List Stmt}{tc:TT}(hc:PT X c tc)(ha:PSs X a t)(hb:PSs X b u):PS X (.If c a b pos) (tIfS tc t u):=by
 intro pins s σ H D I h;refine wpAny_If (thn (hc pins s σ H _ I h) fun d s1 ⟨H1,I1,q1⟩=>?_);cases d with
 | true=>exact ha pins s1 σ H1 D I1 q1
 | false=>exact hb pins s1 σ H1 D I1 q1
end
abbrev TG:=V→St→Hp→(St→Hp→Prop)→Prop
abbrev TGs:=List V→St→Hp→(St→Hp→Prop)→Prop
def PG (X:Cx)(target:Expr)(t:TG):Prop :=
 ∀ (pins:List (Addr×Obj)) (s:Shared) (σ:St) (H:Hp) (v:V) (u:Value) (Q:St→Hp→Prop),Inv X pins σ H s→RelV v u→t v σ H Q →
  wpAny (model X.prog X.w) X.A (assign target X.env u) (fun _ s'=>∃ σ' H',Inv X pins σ' H' s'∧Q σ' H') X.xe s
def PGs (X:Cx)(ts:List Expr)(t:TGs):Prop :=
 ∀ (pins:List (Addr×Obj)) (s:Shared) (σ:St) (H:Hp) (vs:List V) (us:List Value) (Q:St→Hp→Prop),Inv X pins σ H s→Vals vs us→t vs σ H Q →
  wpAny (model X.prog X.w) X.A (assignInOrder ((assignEach ts X.env).map (·.2)) us) (fun _ s'=>∃ σ' H',Inv X pins σ' H' s'∧Q σ' H') X.xe s
abbrev TSet:=V→V→V→Hp→(Hp→Prop)→Prop
def PSet (X:Cx)(t:TSet):Prop :=
 ∀ (pins:List (Addr×Obj)) (s:Shared) (σ:St) (H:Hp) (o i v:V) (ov iv u:Value) (Q:Hp→Prop),Inv X pins σ H s→RelV o ov→RelV i iv→RelV v u→t o i v H Q →
  wpAny (model X.prog X.w) X.A (setItem ov iv u) (fun _ s'=>∃ H',Inv X pins σ H' s'∧Q H') X.xe s
section
variable {X:Cx}{pos:Pos}
def gName (i:Nat):TG:=fun v σ H Q=>Q (σ.set i (some v)) H
theorem pg_name {i:Nat}{x:Str}(hN:X.N.Nodup)(hi:X.N[i]?=some x)(hx:Loc X.env.scope x)(hf:X.fn x=true∨X.env.scope.names.lookup x=some .local:=by first | exact .inl rfl | exact .inr rfl | assumption):PG X (.Name x pos) (gName i):=by
 intro pins s σ H v u Q I r h;exact wpAny_assign_Name (store_ok I hN hi hx r (fun s' I'=>⟨_,H,I',h⟩) hf)
def gNil:TGs:=fun vs σ H Q=>vs=[]∧Q σ H
def gCons (t:TG)(u:TGs):TGs:=fun vs σ H Q=>∃ v r,vs=v::r∧t v σ H fun σ' H'=>u r σ' H' Q
theorem pgs_nil:PGs X [] gNil:=by
 intro pins s σ H vs us Q I r h;obtain⟨e,h⟩:=h;subst e;cases r;exact assignInOrder_nil ⟨σ,H,I,h⟩
theorem pgs_cons {e:Expr}{es:List Expr}{t:TG}{u:TGs}(h1:PG X e t)(h2:PGs X es u)
  (hs:(assignEach (e::es) X.env).map (·.2)=assign e X.env::(assignEach es X.env).map (·.2):=by rfl):PGs X (e::es) (gCons t u):=by
 intro pins s σ H vs us Q I r h;obtain⟨v,vr,e1,h⟩:=h;subst e1;cases r with
 | cons r rr =>
  rw[hs];refine assignInOrder_cons (thn (h1 pins s σ H _ _ _ I r h) fun _ s1 ⟨σ1,H1,I1,q1⟩=>?_);exact h2 pins s1 σ1 H1 _ _ Q I1 rr q1
def gTup (K:PySem.W.Frag)(n:Nat)(t:TGs):TG:=fun v σ H Q=>∃ a xs,v=.ref a∧SqT K H a xs∧xs.length=n∧t xs σ H Q
theorem pg_tup {es:List Expr}{k:Nat}{t:TGs}{n:Nat}(hc:X.calm=true)(h:PGs X es t)
  (hn:(assignEach es X.env).length=n:=by rfl) (hst:(assignEach es X.env).findIdx? (·.1)=none:=by rfl):PG X (.Tuple es k pos) (gTup X.K n t):=by
 intro pins s σ H v u Q I r hw;obtain⟨a,xs,e1,hq,hl,hw⟩:=hw;subst e1;cases r;obtain⟨its,rv,ht,hz⟩:=I.tuple hq;refine assign_Tuple_tuple (I.ok.hd hc) ht (by simp[hn,← hl,rv.length]) hst fun h' hx=>?_
 have I1:Inv X pins σ H {s with heap:=h'}:=I.kept (t':=s.toks) fun b o e=>hx b o (Nat.ne_of_lt (Heap.lt_size e)) e
 exact h pins _ σ H xs _ Q I1 (by simpa using rv) hw
def gSub (to ti:TE)(t:TSet):TG:=fun v σ H Q=>to σ H fun o H1=>ti σ H1 fun i H2=>t o i v H2 fun H3=>Q σ H3
theorem pg_sub {o i:Expr}{to ti:TE}{t:TSet}(ho:PE X o to)(hi:PE X i ti)(hs:PSet X t)
  (ha:∀ v,assign (.Subscript o i pos) X.env v=(do
   let ov ← holding [v] (eval o X.env)
   let iv ← holding [v,ov] (eval i X.env)
   standAt pos
   holding [v,ov,iv] (setItem ov iv v)
   release [v,ov,iv] []):=by intro _;rfl):PG X (.Subscript o i pos) (gSub to ti t):=by
 intro pins s σ H v u Q I r h;rw[ha];refine wpAny_bind (wpAny_holding (thn (ho pins s σ H _ I h) fun ov s1 ⟨x,H1,I1,r1,q1⟩=>?_));refine wpAny_bind (wpAny_holding (thn (hi pins s1 σ H1 _ I1 q1) fun iv s2 ⟨y,H2,I2,r2,q2⟩=>?_));refine wpAny_bind (wpAny_standAt (wpAny_bind (wpAny_holding (thn (hs pins s2 σ H2 x y v ov iv u _ I2 r1 r2 r q2) fun _ s3 ⟨H3,I3,q3⟩=>?_))));exact wpAny_release ⟨σ,H3,I3,q3⟩
def tAsg (te:TE)(g:TG):TS:=fun D σ H=>te σ H fun x H1=>g x σ H1 D.nx
theorem ps_asg {tg e:Expr}{te:TE}{g:TG}(he:PE X e te)(hg:PG X tg g)(hs:swapsWithSole [tg] e pos.line X.env=pure false:=by rfl)(hw:swappedStores [tg] e X.env=pure none:=by rfl)
  (h1:(assignEach [tg] X.env).map (·.2)=[assign tg X.env]:=by rfl):PS X (.Assign [tg] e pos) (tAsg te g):=by
 intro pins s σ H D I h;refine wpAny_Assign_stores (thn (he pins s σ H _ I h) fun v s1 ⟨x,H1,I1,r1,q1⟩=>?_) hs hw;rw[h1];exact thn (hg pins s1 σ H1 x v _ I1 r1 q1) fun _ s2 q=>q
theorem ps_set {i:Nat}{x:Str}{e:Expr}{te:TE}{pos':Pos}(hN:X.N.Nodup)(hi:X.N[i]?=some x)(hx:Loc X.env.scope x)(he:PE X e te)(hs:swapsWith e (some (.Name x pos')) pos.line X.env=pure false:=by rfl)(hf:X.fn x=true∨X.env.scope.names.lookup x=some .local:=by first | exact .inl rfl | exact .inr rfl | assumption) :
  PS X (.Assign [.Name x pos'] e pos) (tAsg te (gName i)):=by
 intro pins s σ H D I h;refine wpAny_Assign_Name (thn (he pins s σ H _ I h) fun v s1 ⟨y,H1,I1,r1,q1⟩=>?_) hs;exact store_ok I1 hN hi hx r1 (fun s2 I2=>⟨_,H1,I2,q1⟩) hf
def tPar (i j:Nat)(ta:TA):TS:=fun D σ H=>ta σ H fun vs H1=>∃ v w,vs=[v,w]∧D.nx ((σ.set i (some v)).set j (some w)) H1
theorem ps_par {i j:Nat}{x y:Str}{a b:Expr}{ta:TA}{px py pt:Pos}{kt k2 pt2}(hc:X.calm=true)(hN:X.N.Nodup)(hi:X.N[i]?=some x)(hj:X.N[j]?=some y)(hij:i≠j)
  (hx:X.env.scope.names.lookup x=some .local) (hy:X.env.scope.names.lookup y=some .local) (ha:PA X [a,b] ta)
  (hw:swappedStores [.Tuple [.Name x px,.Name y py] kt pt] (.Tuple [a,b] k2 pt2) X.env=pure (some [x,y]))
  (hs:swapsWithSole [.Tuple [.Name x px,.Name y py] kt pt] (.Tuple [a,b] k2 pt2) pos.line X.env=pure false:=by rfl) :
  PS X (.Assign [.Tuple [.Name x px,.Name y py] kt pt] (.Tuple [a,b] k2 pt2) pos) (tPar i j ta):=by
 intro pins s σ H D I h;rw[exec_Assign_arm];refine wpAny_bind (wpAny_standAt ?_);rw[hs];refine wpAny_bind (wpAny_pure ?_);rw[if_neg (by decide)];refine wpAny_bind (Tuple_ (thn (ha _ pins s σ H _ I h) fun us s1 ⟨vs,H1,I1,r1,q1⟩=>?_));obtain⟨v,w,e1,q1⟩:=q1;subst e1;obtain⟨u1,u2,rfl,rv,rw'⟩:∃ u1 u2,us=[u1,u2]∧RelV v u1∧RelV w u2:=by
  cases r1 with
  | cons p q =>
   cases q with
   | cons p' q' =>
    cases q';exact⟨_,_,rfl,p,p'⟩
 refine wpAny_newObj_type ?_ (by show 2≤sizeLine;decide);have I2:Inv X pins σ H1 {s1 with heap:=s1.heap.push {cls:=.type "tuple",data:=.seq [u1,u2].toArray}}:=I1.kept (t':=s1.toks) fun b o e=>Heap.get?_push_of_some _ e
 rw[hw];refine wpAny_bind (wpAny_pure ?_);show wpAny (model X.prog X.w) X.A (do rule "assign.swapped-stores";let items ← unpackItems (.ref s1.heap.objs.size) 2 none;assignInOrder [fun v=>bindName X.env y v,fun v=>bindName X.env x v] items.reverse;pure Flow.next) _ _ _;refine wpAny_bind (wpAny_rule (wpAny_bind (unpackItems_tuple (items:=#[u1,u2]) (I.ok.hd hc) (IsTup.new s1.heap _) fun h' hx'=>?_)));have I3:=I2.kept (h':=h') (t':=s1.toks) fun b o e=>hx' b o (Nat.ne_of_lt (Heap.lt_size e)) e
 show wpAny _ _ (assignInOrder [fun v=>bindName X.env y v,fun v=>bindName X.env x v] [u2,u1] >>= fun _=>pure Flow.next) _ _ _;refine wpAny_bind (assignInOrder_cons (wpAny_bindName (store_ok I3 hN hj (.inl hy) rw' (fun s2 I4=>?_) (.inr hy))));refine assignInOrder_cons (wpAny_bindName (store_ok I4 hN hi (.inl hx) rv (fun s3 I5=>assignInOrder_nil (wpAny_pure ?_)) (.inr hx)));rw[List.set_comm _ _ (Ne.symm hij)] at I5;exact⟨_,H1,I5,q1⟩
end
section
variable {X:Cx}{pos:Pos}
def tWhile (c:TT)(tb:TS):TS:=fun D σ H=>∃ W:Nat→St→Hp→Prop,(∃ m,W m σ H)∧∀ m σ H,W m σ H →
 c σ H fun b H1=>if b=true then ∃ N:St→Hp→Prop,(∀ σ' H',N σ' H'→∃ m',m'<m∧W m' σ' H')∧tb {D with nx:=N,ct:=N,bk:=D.nx} σ H1 else D.nx σ H1
theorem ps_while {c:Expr}{body:List Stmt}{tc:TT}{tb:TS}(hp:PassesOwn (model X.prog X.w) X.A X.env X.xe)(hc:PT X c tc)(hb:PSs X body tb):PS X (.While c body [] pos) (tWhile tc tb):=by
 intro pins s σ H D I h;obtain⟨W,⟨m0,w0⟩,turn⟩:=h;refine wpAny_While (codeAny_whileLoop (fun n s'=>∃ σ' H',Inv X pins σ' H' s'∧W n σ' H') ?_ m0 ⟨σ,H,I,w0⟩);rintro n s1 ⟨σ1,H1,I1,w1⟩;refine wpAny_passesOwn hp (thn (hc pins s1 σ1 H1 _ I1 (turn n σ1 H1 w1)) fun b s2 ⟨H2,I2,q2⟩=>?_);cases b with
 | true =>
  obtain⟨N,hN,q2⟩:=q2;rw[if_pos rfl];refine wpAny_passesOwn hp (thn (hb pins s2 σ1 H2 _ I2 q2) fun f s3 q3=>?_);cases f with
  | next =>
   obtain⟨σ3,H3,I3,n3⟩:=q3;obtain⟨m',hm,w3⟩:=hN σ3 H3 n3;exact⟨m',hm,σ3,H3,I3,w3⟩
  | cont =>
   obtain⟨σ3,H3,I3,n3⟩:=q3;obtain⟨m',hm,w3⟩:=hN σ3 H3 n3;exact⟨m',hm,σ3,H3,I3,w3⟩
  | brk=>exact q3
  | ret v=>exact q3
 | false =>
  rw[if_neg Bool.false_ne_true];exact wpAny_execs_nil ⟨σ1,H2,I2,q2⟩
end
structure It where
 go:Nat→Hp→Prop
 yld:Nat→Hp→V→Hp→Prop
 stop:Nat→Hp→Prop
def FpOk (X:Cx)(pins:List (Addr×Obj))(H:Hp)(b:Addr):Prop :=
 H b=none∧b≠X.env.locals∧b∉X.fs∧(b∈X.ex∨X.s₀.heap.objs.size≤b)∧(∀ x c,X.env.cells.lookup x=some c→c≠b)∧∀ p∈X.pn++pins,p.1≠b
theorem Inv.fpOk {X:Cx}{pins:List (Addr×Obj)}{σ:St}{H H':Hp}{s:Shared}{b:Addr}(I:Inv X pins σ H s)(hb:s.heap.objs.size≤b)(hn:H' b=none):FpOk X pins H' b:=by
 refine⟨hn,Nat.ne_of_gt (Nat.lt_of_lt_of_le I.lt hb),I.nofs hb,.inr (Nat.le_trans I.sz hb),fun x c e z=>?_,fun p hp z=>?_⟩
 ·obtain⟨v,q⟩:=I.cell x c e;exact absurd (Nat.lt_of_lt_of_le q.lt (by rw[z];exact hb)) (Nat.lt_irrefl _)
 ·exact absurd (Nat.lt_of_lt_of_le (Heap.lt_size (I.pin p hp).1) (by rw[z];exact hb)) (Nat.lt_irrefl _)
structure Turn (P:Program)(w:World)(K:PySem.W.Frag)(tg:Expr)(J:It)(fp:List Addr)(it:Addr)(tn:Nat→Heap→Prop):Prop where
 mem:it∈fp
 obj:∀ i h,tn i h→∀ b∈fp,∃ o,h.get? b=some o∧∀ v,o.data≠.cell v
 keep:∀ i h h',tn i h→(∀ b∈fp,∀ o,h.get? b=some o→h'.get? b=some o)→tn i h'
 item:∀ (X:Cx),X.prog=P→X.w=w→X.K=K→X.calm=true→∀ (i:Nat) (pins:List (Addr×Obj)) (s:Shared) (σ:St) (H:Hp) (E:Value→Shared→Prop),Inv X pins σ H s→(∀ b∈fp,FpOk X pins H b)→tn i s.heap→J.go i H →
  wpAny (model P w) X.A (pyNext (.ref it)) (fun r s1=>∃ u,r=some u ∧
   wpAny (model P w) X.A (letOwnedTupleGo tg (.ref it) u) (fun _ s2=>∃ x H',Inv X pins σ H' s2∧RelV x u∧J.yld i H x H'∧tn (i+1) s2.heap∧∀ b∈fp,H' b=none) E s1) E s
 done:∀ (X:Cx),X.prog=P→X.w=w→X.K=K→X.calm=true→∀ (i:Nat) (pins:List (Addr×Obj)) (s:Shared) (σ:St) (H:Hp) (E:Value→Shared→Prop),Inv X pins σ H s→(∀ b∈fp,FpOk X pins H b)→tn i s.heap→J.stop i H →
  wpAny (model P w) X.A (pyNext (.ref it)) (fun r s1=>r=none∧Inv X pins σ H s1) E s
 self:∀ (A:Around) (i:Nat) (s:Shared) (Q:Value→Shared→Prop) (E:Value→Shared→Prop),tn i s.heap→Q (.ref it) s→wpAny (model P w) A (pyIter (.ref it)) Q E s
abbrev TI:=St→Hp→(It→Hp→Prop)→Prop
def PIE (X:Cx)(pins:List (Addr×Obj))(σ:St)(tg:Expr)(R:It→Hp→Prop)(itv:Value)(s2:Shared):Prop :=
 ∃ (it:Addr) (fp:List Addr) (tn:Nat→Heap→Prop) (J:It) (H':Hp),itv=.ref it∧Inv X pins σ H' s2∧Turn X.prog X.w X.K tg J fp it tn∧tn 0 s2.heap∧(∀ b∈fp,FpOk X pins H' b)∧R J H'
def PI (X:Cx)(tg iter:Expr)(wi:TI):Prop :=
 ∀ (pins:List (Addr×Obj)) (s:Shared) (σ:St) (H:Hp) (R:It→Hp→Prop),Inv X pins σ H s→wi σ H R →
  wpAny (model X.prog X.w) X.A (eval iter X.env) (fun v s1=>wpAny (model X.prog X.w) X.A (pyIter v) (PIE X pins σ tg R) X.xe s1) X.xe s
theorem go_of {M:Model}{A:Around}{E:Value→Shared→Prop}{s:Shared}{tg:Expr}{it:Addr}{u:Value}{o:Obj}{n:String}{vs:Array Value}{Q:Unit→Shared→Prop}(ho:s.heap.get? it=some o)(hc:o.cls=.type n)(hd:o.data=.fields vs)
    (hn:["enumerate", "zip", "dict_itemiterator", "dict_reverseitemiterator", "odict_iterator", "itertools.zip_longest", "itertools.pairwise"].contains n=false) (hQ:Q () s):wpAny M A (letOwnedTupleGo tg (.ref it) u) Q E s:=by
  unfold letOwnedTupleGo;cases tg<;>first
    | exact wpAny_pure hQ
    | (cases u<;>first
        | exact wpAny_pure hQ
        | (refine wpAny_bind (wpAny_load ho ?_)
           rw[hc,hd];show wpAny M A (if (["enumerate", "zip", "dict_itemiterator", "dict_reverseitemiterator", "odict_iterator", "itertools.zip_longest", "itertools.pairwise"].contains n && vs[0]? == some (rawInt _))=true then _ else _) Q E s;rw[if_neg (by intro h;rw[hn,Bool.false_and] at h;cases h)]
           exact wpAny_pure hQ))
def Itl (K:PySem.W.Frag)(a:Addr):It :=
 ⟨fun i H=>∃ xs x,SqL K H a xs∧xs[i]?=some x,fun i H x H'=>H'=H∧∀ xs,SqL K H a xs→xs[i]?=some x,fun i H=>∃ xs,SqL K H a xs∧xs.length≤i⟩
def Itt (K:PySem.W.Frag)(a:Addr):It :=
 ⟨fun i H=>∃ xs x,SqT K H a xs∧xs[i]?=some x,fun i H x H'=>H'=H∧∀ xs,SqT K H a xs→xs[i]?=some x,fun i H=>∃ xs,SqT K H a xs∧xs.length≤i⟩
def Itr (lo:Int)(n:Nat):It:=⟨fun i _=>i<n,fun i H x H'=>H'=H∧x=.int (lo+i),fun i _=>n≤i⟩
theorem turn_list {P:Program}{w:World}{K:PySem.W.Frag}{tg:Expr}(a it:Addr):Turn P w K tg (Itl K a) [it] it (fun i h=>h.IsListIter it a i) where
 mem:=by simp
 obj:=fun i h st b hb=>by
  have e:b=it:=by simpa using hb
  subst e;obtain⟨o,e,c,d⟩:=st;exact⟨o,e,fun v z=>by rw[d] at z;cases z⟩
 keep:=fun i h h' st k=>st.at fun o e=>k it (by simp) o e
 item:=by
  intro X hP hw hK hc i pins s σ H E I hf st hg;subst hP hw hK;obtain⟨xs,x,hq,hx⟩:=hg;obtain⟨its,rv,p,hz⟩:=I.list hq;obtain⟨u,hu,ru⟩:=rv.get hx;obtain⟨f0,f1,f2,f3,f4,f5⟩:=hf it (by simp);refine wpAny_pyNext_list_item st p.isList (x:=u) (by simpa using hu) fun h' st' sb=>?_
  have I1:Inv X pins σ H {s with heap:=h'}:=I.turned (t':=s.toks) (fun b o hb e=>(sb.2 b hb).trans e) f0 f1 f3 f4 f5;obtain⟨o,e,c,d⟩:=id st';exact⟨u,rfl,go_of (s:={s with heap:=h'}) e c d (by decide) ⟨x,H,I1,ru,⟨rfl,fun ys hy=>by rw[I.list_inj hy hq];exact hx⟩,st',fun b hb=>(hf b hb).1⟩⟩
 done:=by
  intro X hP hw hK hc i pins s σ H E I hf st hg;subst hP hw hK;obtain⟨xs,hq,hx⟩:=hg;obtain⟨its,rv,p,hz⟩:=I.list hq;obtain⟨f0,f1,f2,f3,f4,f5⟩:=hf it (by simp);have hl:=rv.length;exact wpAny_pyNext_list_end (I.ok.hd hc) st p.isList (by simp;omega) fun h' eb=>⟨rfl,I.turned (t':=s.toks) (fun b o hb e=>eb b o hb e) f0 f1 f3 f4 f5⟩
 self:=fun _ _ _ _ _ st h=>wpAny_pyIter_listiter st h
theorem turn_tuple {P:Program}{w:World}{K:PySem.W.Frag}{tg:Expr}(a it:Addr):Turn P w K tg (Itt K a) [it] it (fun i h=>h.IsTupleIter it a i) where
 mem:=by simp
 obj:=fun i h st b hb=>by
  have e:b=it:=by simpa using hb
  subst e;obtain⟨o,e,c,d⟩:=st;exact⟨o,e,fun v z=>by rw[d] at z;cases z⟩
 keep:=fun i h h' st k=>st.at fun o e=>k it (by simp) o e
 item:=by
  intro X hP hw hK hc i pins s σ H E I hf st hg;subst hP hw hK;obtain⟨xs,x,hq,hx⟩:=hg;obtain⟨its,rv,p,hz⟩:=I.tuple hq;obtain⟨u,hu,ru⟩:=rv.get hx;obtain⟨f0,f1,f2,f3,f4,f5⟩:=hf it (by simp);refine wpAny_pyNext_tuple_item st (show s.heap.IsTuple a its.toArray from p) (x:=u) (by simpa using hu) fun h' st' sb=>?_
  have I1:Inv X pins σ H {s with heap:=h'}:=I.turned (t':=s.toks) (fun b o hb e=>(sb.2 b hb).trans e) f0 f1 f3 f4 f5;obtain⟨o,e,c,d⟩:=id st';exact⟨u,rfl,go_of (s:={s with heap:=h'}) e c d (by decide) ⟨x,H,I1,ru,⟨rfl,fun ys hy=>by rw[I.tuple_inj hy hq];exact hx⟩,st',fun b hb=>(hf b hb).1⟩⟩
 done:=by
  intro X hP hw hK hc i pins s σ H E I hf st hg;subst hP hw hK;obtain⟨xs,hq,hx⟩:=hg;obtain⟨its,rv,p,hz⟩:=I.tuple hq;obtain⟨f0,f1,f2,f3,f4,f5⟩:=hf it (by simp);have hl:=rv.length;exact wpAny_pyNext_tuple_end (I.ok.hd hc) st (show s.heap.IsTuple a its.toArray from p) (by simp;omega) fun h' eb=>⟨rfl,I.turned (t':=s.toks) (fun b o hb e=>eb b o hb e) f0 f1 f3 f4 f5⟩
 self:=fun _ _ _ _ _ st h=>wpAny_pyIter_tupleiter st h
theorem turn_range {P:Program}{w:World}{K:PySem.W.Frag}{tg:Expr}(it:Addr)(lo:Int)(n:Nat):Turn P w K tg (Itr lo n) [it] it (fun i h=>IsRangeIter h it (lo+(i:Nat)*1) ((n:Int)-(i:Nat)) 1) where
 mem:=by simp
 obj:=fun i h st b hb=>by
  have e:b=it:=by simpa using hb
  subst e
  exact⟨_,st,fun v z=>by
   have z':Data.fields _=Data.cell v:=z
   cases z'⟩
 keep:=fun i h h' st k=>k it (by simp) _ st
 item:=by
  intro X hP hw hK hc i pins s σ H E I hf st hg;subst hP hw hK;obtain⟨f0,f1,f2,f3,f4,f5⟩:=hf it (by simp);have W:=Walks.range (prog:=X.prog) (w:=X.w) (I.ok.hd hc) it lo 1 n;refine W.item i s _ _ hg st fun v h' tk hv st' kk=>?_
  obtain⟨t,rfl⟩:=hv;have I1:Inv X pins σ H {s with heap:=h',toks:=tk}:=I.turned (fun b o hb e=>kk b o (by simpa using hb) e) f0 f1 f3 f4 f5;refine⟨_,rfl,go_of (s:={s with heap:=h',toks:=tk}) (n:="range_iterator") st' rfl rfl (by decide) ⟨.int (lo+i),H,I1,⟨t,?_⟩,⟨rfl,rfl⟩,st',fun b hb=>(hf b hb).1⟩⟩;rw[Int.mul_one]
 done:=by
  intro X hP hw hK hc i pins s σ H E I hf st hg;subst hP hw hK;obtain⟨f0,f1,f2,f3,f4,f5⟩:=hf it (by simp);exact wpAny_pyNext_range_end (I.ok.hd hc) st (by have:n≤i:=hg;omega) fun h' eb=>⟨rfl,I.turned (t':=s.toks) (fun b o hb e=>eb b o hb e) f0 f1 f3 f4 f5⟩
 self:=fun _ _ _ _ _ st h=>wpAny_pyIter_rangeiter st h
end L2
namespace L2
open PySem PySem.Spec PyProof.Rows
section
variable {X:Cx}{tg:Expr}
def iList (K:PySem.W.Frag)(tl:TE):TI:=fun σ H R=>tl σ H fun x H1=>∃ a,x=.ref a∧(∃ xs,SqL K H1 a xs)∧R (Itl K a) H1
def iTup (K:PySem.W.Frag)(tl:TE):TI:=fun σ H R=>tl σ H fun x H1=>∃ a,x=.ref a∧(∃ xs,SqT K H1 a xs)∧R (Itt K a) H1
theorem pi_list {l:Expr}{tl:TE}(hl:PE X l tl):PI X tg l (iList X.K tl):=by
 intro pins s σ H R I h;refine thn (hl pins s σ H _ I h) fun v s1 ⟨x,H1,I1,r1,q1⟩=>?_
 obtain⟨a,e,⟨xs,hq⟩,q⟩:=q1;subst e;cases r1;obtain⟨its,rv,p,hz⟩:=I1.list hq;refine wpAny_pyIter_list p.isList ?_;refine⟨s1.heap.objs.size,[s1.heap.objs.size],_,_,H1,rfl,I1.kept (t':=s1.toks) fun b o e=>Heap.get?_push_of_some _ e,turn_list a _,⟨_,Heap.get?_push_size _ rfl,rfl,rfl⟩,fun b hb=>?_,q⟩;have e:b=s1.heap.objs.size:=by simpa using hb
 subst e;exact I1.fpOk (Nat.le_refl _) (I1.hok.fresh (Nat.le_refl _))
theorem pi_tup {l:Expr}{tl:TE}(hl:PE X l tl):PI X tg l (iTup X.K tl):=by
 intro pins s σ H R I h;refine thn (hl pins s σ H _ I h) fun v s1 ⟨x,H1,I1,r1,q1⟩=>?_
 obtain⟨a,e,⟨xs,hq⟩,q⟩:=q1;subst e;cases r1;obtain⟨its,rv,p,hz⟩:=I1.tuple hq;refine wpAny_pyIter_tuple (show s1.heap.IsTuple a its.toArray from p) ?_;refine⟨s1.heap.objs.size,[s1.heap.objs.size],_,_,H1,rfl,I1.kept (t':=s1.toks) fun b o e=>Heap.get?_push_of_some _ e,turn_tuple a _,⟨_,Heap.get?_push_size _ rfl,rfl,rfl⟩,fun b hb=>?_,q⟩;have e:b=s1.heap.objs.size:=by simpa using hb
 subst e;exact I1.fpOk (Nat.le_refl _) (I1.hok.fresh (Nat.le_refl _))
theorem range_it {pins:List (Addr×Obj)}{σ:St}{H:Hp}{s:Shared}{R:It→Hp→Prop}{E:Value→Shared→Prop}{lo hi:Int}{t u v:Tok}{tk:Nat}(I:Inv X pins σ H s)(h1:-(2 ^ 62)≤lo)(h2:lo<2 ^ 62)(h3:-(2 ^ 62)≤hi)(h4:hi<2 ^ 62)
  (q:R (Itr lo (hi-lo).toNat) H):wpAny (model X.prog X.w) X.A (pyIter (.ref s.heap.objs.size)) (PIE X pins σ tg R) E {s with heap:=s.heap.push {cls:=.type "range",data:=.fields #[.int lo t,.int hi u,.int 1 v]},toks:=tk}:=by
 refine wpAny_pyIter_range (IsRange.new ..) (small_one h1 h2 h3 h4) ?_;have I1:Inv X pins σ H {s with heap:=s.heap.push {cls:=.type "range",data:=.fields #[.int lo t,.int hi u,.int 1 v]},toks:=tk}:=I.kept fun b o e=>Heap.get?_push_of_some _ e
 refine⟨(s.heap.push {cls:=.type "range",data:=.fields #[.int lo t,.int hi u,.int 1 v]}).objs.size,[(s.heap.push {cls:=.type "range",data:=.fields #[.int lo t,.int hi u,.int 1 v]}).objs.size],_,_,H,rfl,
  I1.kept (t':=tk) fun b o e=>Heap.get?_push_of_some _ e,turn_range _ lo (hi-lo).toNat,?_,fun b hb=>?_,q⟩
 ·have e1:lo+((0:Nat):Int)*1=lo:=by simp
  have e2:(((hi-lo).toNat:Nat):Int)-((0:Nat):Int)=Builtin.Range.rangeSize lo hi 1:=by rw[rangeSize_one];split<;>omega
  show IsRangeIter _ _ (lo+((0:Nat):Int)*1) ((((hi-lo).toNat:Nat):Int)-((0:Nat):Int)) 1;rw[e1,e2];exact Heap.get?_push_size _ rfl
 ·have e:b=(s.heap.push {cls:=.type "range",data:=.fields #[.int lo t,.int hi u,.int 1 v]}).objs.size:=by simpa using hb
  subst e;exact I1.fpOk (Nat.le_refl _) (I1.hok.fresh (Nat.le_refl _))
def iRng1 (ta:TA):TI:=fun σ H R=>ta σ H fun vs H1=>∃ j:Int,vs=[.int j]∧-(2 ^ 62)≤j∧j<2 ^ 62∧R (Itr 0 j.toNat) H1
def iRng2 (ta:TA):TI:=fun σ H R=>ta σ H fun vs H1=>∃ i j:Int,vs=[.int i,.int j]∧(-(2 ^ 62)≤i∧i<2 ^ 62∧-(2 ^ 62)≤j∧j<2 ^ 62)∧R (Itr i (j-i).toNat) H1
theorem pi_range1 {a:Expr}{ta:TA}{p pos:Pos}(hg:Gl X "range")(hm:X.mg "range"=none)(ha:PA X [a] ta)(hs:starEach [a] X.env=[(false,eval a X.env)]:=by rfl):PI X tg (.Call (.Name "range" p) [a] [] pos) (iRng1 ta):=by
 intro pins s σ H R I h;refine Call_ (ld_blt I hg hm boot_range (PyProof.Rows.callWith_type1 (thn (ha pos pins s σ H _ I h) fun us s1 ⟨vs,H1,I1,r1,q1⟩=>?_) hs rfl));obtain⟨j,e,q1,q2,q⟩:=q1;subst e;cases r1 with
 | cons r rr =>
  cases rr;obtain⟨t,rfl⟩:=r;exact call_range_1 (range_it I1 (by omega) (by omega) q1 q2 (by simpa using q))
theorem pi_range2 {a b:Expr}{ta:TA}{p pos:Pos}(hg:Gl X "range")(hm:X.mg "range"=none)(ha:PA X [a,b] ta)(hs:starEach [a,b] X.env=[(false,eval a X.env),(false,eval b X.env)]:=by rfl)(hs2:starEach [b] X.env=[(false,eval b X.env)]:=by rfl) :
  PI X tg (.Call (.Name "range" p) [a,b] [] pos) (iRng2 ta):=by
 intro pins s σ H R I h;refine Call_ (ld_blt I hg hm boot_range (PyProof.Rows.callWith_type1 (thn (ha pos pins s σ H _ I h) fun us s1 ⟨vs,H1,I1,r1,q1⟩=>?_) (by rw[hs,hs2]) (by rw[hs2];rfl)));obtain⟨i,j,e,⟨q1,q2,q3,q4⟩,q⟩:=q1;subst e;cases r1 with
 | cons r rr =>
  cases rr with
  | cons r' rr =>
   cases rr;obtain⟨t,rfl⟩:=r;obtain⟨t',rfl⟩:=r';exact call_range_2 (range_it I1 q1 q2 q3 q4 q)
def tFor (wi:TI)(g:TG)(tb:TS):TS:=fun D σ H=>wi σ H fun J H1=>∃ W:Nat→Nat→St→Hp→Prop,(∃ m,W 0 m σ H1)∧∀ i m σ H,W i m σ H →
 (J.stop i H∧D.nx σ H)∨(J.go i H∧∃ N:St→Hp→Prop,(∀ σ' H',N σ' H'→∃ m',m'<m∧W (i+1) m' σ' H')∧∀ x H',J.yld i H x H'→g x σ H' fun σ2 H2=>tb {D with nx:=N,ct:=N,bk:=D.nx} σ2 H2)
def pinsAt (fp:List Addr)(h:Heap):List (Addr×Obj):=fp.filterMap fun b=>(h.get? b).map fun o=>(b,o)
theorem mem_pinsAt {fp:List Addr}{h:Heap}{b:Addr}{o:Obj}(hb:b∈fp)(e:h.get? b=some o):(b,o)∈pinsAt fp h:=List.mem_filterMap.mpr ⟨b,hb,by rw[e];rfl⟩
theorem of_pinsAt {fp:List Addr}{h:Heap}{p:Addr×Obj}(hp:p∈pinsAt fp h):p.1∈fp∧h.get? p.1=some p.2:=by
 obtain⟨b,hb,e⟩:=List.mem_filterMap.mp hp;cases q:h.get? b with
 | none=>rw[q] at e;cases e
 | some o =>
  rw[q] at e;have e':(b,o)=p:=Option.some.inj e;subst e';exact⟨hb,q⟩
theorem Inv.pinned {pins:List (Addr×Obj)}{σ:St}{H:Hp}{s:Shared}{fp:List Addr}(I:Inv X pins σ H s)(hf:∀ b∈fp,FpOk X pins H b)(ho:∀ b∈fp,∃ o,s.heap.get? b=some o∧∀ v,o.data≠.cell v):Inv X (pins++pinsAt fp s.heap) σ H s :=
 I.pins_of fun p hp=>(List.mem_append.mp hp).elim (fun z=>I.pin p (List.mem_append_right _ z)) fun z=>by
  obtain⟨hb,e⟩:=of_pinsAt z;obtain⟨f0,f1,f2,_⟩:=hf p.1 hb;obtain⟨o,e',d⟩:=ho p.1 hb;rw[e] at e';cases e';exact⟨e,f0,f1,f2,d⟩
theorem Inv.unpinned {pins pl:List (Addr×Obj)}{σ:St}{H:Hp}{s:Shared}(I:Inv X (pins++pl) σ H s):Inv X pins σ H s:=I.pins_of fun p hp=>I.pin p (List.mem_append_right _ (List.mem_append_left _ hp))
theorem ps_for {iter:Expr}{body:List Stmt}{wi:TI}{g:TG}{tb:TS}{pos:Pos}(hp:PassesOwn (model X.prog X.w) X.A X.env X.xe)(hc:X.calm=true)(hi:PI X tg iter wi)(hg:PG X tg g)(hb:PSs X body tb)
  (hs:∀ x,foldedSetIterable iter X.env x=pure x:=by intro _;rfl):PS X (.For tg iter body [] pos) (tFor wi g tb):=by
 intro pins s σ H D I h;refine wpAny_For (thn (hi pins s σ H _ I h) fun v s1 h1=>thn h1 fun itv s2 h2=>?_) hs;obtain⟨it,fp,tn,J,H2,e,I2,T,st2,f2,W,⟨m0,w0⟩,turn⟩:=h2;subst e;have stat:∀ {H':Hp},(∀ b∈fp,H' b=none)→∀ b∈fp,FpOk X pins H' b:=fun hn b hb=>⟨hn b hb,(f2 b hb).2⟩
 refine codeAny_forLoop_any (fun n s'=>∃ i σ' H',Inv X pins σ' H' s'∧tn i s'.heap∧(∀ b∈fp,H' b=none)∧W i n σ' H') ?_ m0 ⟨0,σ,H2,I2,st2,fun b hb=>(f2 b hb).1,w0⟩;rintro n s3 ⟨i,σ3,H3,I3,st3,fr3,w3⟩;rcases turn i n σ3 H3 w3 with ⟨stop,qn⟩ | ⟨go,N,hN,step⟩
 ·refine wpAny_passesOwn hp (thn (T.done X rfl rfl rfl hc i pins s3 σ3 H3 X.xe I3 (stat fr3) st3 stop) fun r s4 ⟨hr,I4⟩=>?_);subst hr;exact wpAny_execs_nil ⟨σ3,H3,I4,qn⟩
 ·refine wpAny_passesOwn hp (thn (T.item X rfl rfl rfl hc i pins s3 σ3 H3 X.xe I3 (stat fr3) st3 go) fun r s4 ⟨u,hr,h4⟩=>?_);subst hr;refine wpAny_passesOwn hp (thn h4 fun _ s5 ⟨x,H5,I5,r5,y5,st5,fr5⟩=>?_);have I5':=I5.pinned (stat fr5) (T.obj _ _ st5);refine wpAny_passesOwn hp (thn (hg _ s5 σ3 H5 x u _ I5' r5 (step x H5 y5)) fun _ s6 ⟨σ6,H6,I6,q6⟩=>?_);refine wpAny_passesOwn hp (thn (hb _ s6 σ6 H6 _ I6 q6) fun f s7 q7=>?_);have again:∀ {σ7:St} {H7:Hp},Inv X (pins++pinsAt fp s5.heap) σ7 H7 s7→N σ7 H7→∃ m,m<n∧∃ i σ' H',Inv X pins σ' H' s7∧tn i s7.heap∧(∀ b∈fp,H' b=none)∧W i m σ' H':=fun {σ7 H7} I7 n7=>by
   obtain⟨m',hm,w7⟩:=hN σ7 H7 n7;refine⟨m',hm,i+1,σ7,H7,I7.unpinned,T.keep _ _ _ st5 fun b hb o e=>(I7.pin (b,o) (List.mem_append_right _ (List.mem_append_right _ (mem_pinsAt hb e)))).1,fun b hb=>?_,w7⟩;obtain⟨o,e,d⟩:=T.obj _ _ st5 b hb;exact (I7.pin (b,o) (List.mem_append_right _ (List.mem_append_right _ (mem_pinsAt hb e)))).2.1
  cases f with
  | next=>obtain⟨σ7,H7,I7,n7⟩:=q7;exact again I7 n7
  | cont=>obtain⟨σ7,H7,I7,n7⟩:=q7;exact again I7 n7
  | brk=>obtain⟨σ7,H7,I7,q7⟩:=q7;exact⟨σ7,H7,I7.unpinned,q7⟩
  | ret v=>obtain⟨x7,σ7,H7,I7,r7,q7⟩:=q7;exact⟨x7,σ7,H7,I7.unpinned,r7,q7⟩
end
theorem for_list {K:PySem.W.Frag}{a:Addr}{xs:List V}{g:TG}{tb:TS}{D:Ends}{σ:St}{H:Hp}(Pv:Nat→St→Hp→Prop)(h0:Pv 0 σ H)(hl:∀ i σ H,i≤xs.length→Pv i σ H→SqL K H a xs)
  (hs:∀ i x σ H,xs[i]?=some x→Pv i σ H→g x σ H fun σ2 H2=>tb {D with nx:=Pv (i+1),ct:=Pv (i+1),bk:=D.nx} σ2 H2) (hd:∀ σ H,Pv xs.length σ H→D.nx σ H) :
  ∃ W:Nat→Nat→St→Hp→Prop,(∃ m,W 0 m σ H)∧∀ i m σ H,W i m σ H →
   ((Itl K a).stop i H∧D.nx σ H)∨((Itl K a).go i H∧∃ N:St→Hp→Prop,(∀ σ' H',N σ' H'→∃ m',m'<m∧W (i+1) m' σ' H')∧∀ x H',(Itl K a).yld i H x H'→g x σ H' fun σ2 H2=>tb {D with nx:=N,ct:=N,bk:=D.nx} σ2 H2):=by
 refine⟨fun i m σ H=>m=xs.length-i∧i≤xs.length∧Pv i σ H,⟨xs.length,by simp,Nat.zero_le _,h0⟩,?_⟩;rintro i m σ H ⟨rfl,hi,p⟩;have q:=hl i σ H hi p;by_cases hlt:i<xs.length
 ·refine .inr ⟨⟨xs,xs[i],q,by simp[hlt]⟩,Pv (i+1),fun σ' H' p'=>⟨xs.length-(i+1),by omega,rfl,hlt,p'⟩,fun x H' y=>?_⟩;obtain⟨e,y⟩:=y;subst e;exact hs i x σ _ (y xs q) p
 ·have e:i=xs.length:=by omega
  subst e;exact .inl ⟨⟨xs,q,Nat.le_refl _⟩,hd σ H p⟩
theorem for_tup {K:PySem.W.Frag}{a:Addr}{xs:List V}{g:TG}{tb:TS}{D:Ends}{σ:St}{H:Hp}(Pv:Nat→St→Hp→Prop)(h0:Pv 0 σ H)(hl:∀ i σ H,i≤xs.length→Pv i σ H→SqT K H a xs)
  (hs:∀ i x σ H,xs[i]?=some x→Pv i σ H→g x σ H fun σ2 H2=>tb {D with nx:=Pv (i+1),ct:=Pv (i+1),bk:=D.nx} σ2 H2) (hd:∀ σ H,Pv xs.length σ H→D.nx σ H) :
  ∃ W:Nat→Nat→St→Hp→Prop,(∃ m,W 0 m σ H)∧∀ i m σ H,W i m σ H →
   ((Itt K a).stop i H∧D.nx σ H)∨((Itt K a).go i H∧∃ N:St→Hp→Prop,(∀ σ' H',N σ' H'→∃ m',m'<m∧W (i+1) m' σ' H')∧∀ x H',(Itt K a).yld i H x H'→g x σ H' fun σ2 H2=>tb {D with nx:=N,ct:=N,bk:=D.nx} σ2 H2):=by
 refine⟨fun i m σ H=>m=xs.length-i∧i≤xs.length∧Pv i σ H,⟨xs.length,by simp,Nat.zero_le _,h0⟩,?_⟩;rintro i m σ H ⟨rfl,hi,p⟩;have q:=hl i σ H hi p;by_cases hlt:i<xs.length
 ·refine .inr ⟨⟨xs,xs[i],q,by simp[hlt]⟩,Pv (i+1),fun σ' H' p'=>⟨xs.length-(i+1),by omega,rfl,hlt,p'⟩,fun x H' y=>?_⟩;obtain⟨e,y⟩:=y;subst e;exact hs i x σ _ (y xs q) p
 ·have e:i=xs.length:=by omega
  subst e;exact .inl ⟨⟨xs,q,Nat.le_refl _⟩,hd σ H p⟩
theorem for_range {lo:Int}{n:Nat}{g:TG}{tb:TS}{D:Ends}{σ:St}{H:Hp}(Pv:Nat→St→Hp→Prop)(h0:Pv 0 σ H)
  (hs:∀ i σ H,i<n→Pv i σ H→g (.int (lo+i)) σ H fun σ2 H2=>tb {D with nx:=Pv (i+1),ct:=Pv (i+1),bk:=D.nx} σ2 H2) (hd:∀ σ H,Pv n σ H→D.nx σ H) :
  ∃ W:Nat→Nat→St→Hp→Prop,(∃ m,W 0 m σ H)∧∀ i m σ H,W i m σ H →
   ((Itr lo n).stop i H∧D.nx σ H)∨((Itr lo n).go i H∧∃ N:St→Hp→Prop,(∀ σ' H',N σ' H'→∃ m',m'<m∧W (i+1) m' σ' H')∧∀ x H',(Itr lo n).yld i H x H'→g x σ H' fun σ2 H2=>tb {D with nx:=N,ct:=N,bk:=D.nx} σ2 H2):=by
 refine⟨fun i m σ H=>m=n-i∧i≤n∧Pv i σ H,⟨n,by simp,Nat.zero_le _,h0⟩,?_⟩;rintro i m σ H ⟨rfl,hi,p⟩;by_cases hlt:i<n
 ·refine .inr ⟨hlt,Pv (i+1),fun σ' H' p'=>⟨n-(i+1),by omega,rfl,hlt,p'⟩,fun x H' y=>?_⟩;obtain⟨e,y⟩:=y;subst e y;exact hs i σ _ hlt p
 ·have e:i=n:=by omega
  subst e;exact .inl ⟨Nat.le_refl _,hd σ H p⟩
theorem while_by {c:TT}{tb:TS}{D:Ends}{σ:St}{H:Hp}(Pv:St→Hp→Prop)(μ:St→Hp→Nat)(h0:Pv σ H)
  (hs:∀ σ H,Pv σ H→c σ H fun b H1=>if b=true then tb {D with nx:=fun σ' H'=>Pv σ' H'∧μ σ' H'<μ σ H,ct:=fun σ' H'=>Pv σ' H'∧μ σ' H'<μ σ H,bk:=D.nx} σ H1 else D.nx σ H1)
  (mono:∀ σ H Q Q',(∀ b H1,Q b H1→Q' b H1)→c σ H Q→c σ H Q'):tWhile c tb D σ H:=by
 refine⟨fun m σ H=>m=μ σ H∧Pv σ H,⟨_,rfl,h0⟩,?_⟩;rintro m σ H ⟨rfl,p⟩;refine mono σ H _ _ (fun b H1 q=>?_) (hs σ H p);cases b with
 | true=>exact⟨_,fun σ' H' ⟨p',l⟩=>⟨_,l,rfl,p'⟩,q⟩
 | false=>exact q
end L2
namespace L2
open PySem PySem.Spec PyProof.Rows
abbrev R2:=V→V→Hp→VK→Prop
def OpR (X:Cx)(f:Value→Value→Sem Value)(r:R2):Prop :=
 ∀ (pins:List (Addr×Obj)) (s:Shared) (σ:St) (H:Hp) (x y:V) (v u:Value) (Q:VK),Inv X pins σ H s→RelV x v→RelV y u→r x y H Q →
  wpAny (model X.prog X.w) X.A (f v u) (EP X pins σ Q) X.xe s
def UnR (X:Cx)(f:Value→Sem Value)(r:V→Hp→VK→Prop):Prop :=
 ∀ (pins:List (Addr×Obj)) (s:Shared) (σ:St) (H:Hp) (x:V) (v:Value) (Q:VK),Inv X pins σ H s→RelV x v→r x H Q →
  wpAny (model X.prog X.w) X.A (f v) (EP X pins σ Q) X.xe s
def CallR (X:Cx)(f:Value)(r:List V→Hp→VK→Prop):Prop :=
 ∀ (pins:List (Addr×Obj)) (s:Shared) (σ:St) (H:Hp) (xs:List V) (us:List Value) (Q:VK),Inv X pins σ H s→Vals xs us→r xs H Q →
  wpAny (model X.prog X.w) X.A (call f us) (EP X pins σ Q) X.xe s
def tOp (r:R2)(ta tb:TE):TE:=fun σ H Q=>ta σ H fun x H1=>tb σ H1 fun y H2=>r x y H2 Q
def tUn (r:V→Hp→VK→Prop)(ta:TE):TE:=fun σ H Q=>ta σ H fun x H1=>r x H1 Q
def rI (C:Int→Int→Prop)(g:Int→Int→V):R2:=fun x y H Q=>∃ i j,x=.int i∧y=.int j∧C i j∧Q (g i j) H
def rI0 (g:Int→Int→V):R2:=fun x y H Q=>∃ i j,x=.int i∧y=.int j∧Q (g i j) H
def rU (g:Int→V):V→Hp→VK→Prop:=fun x H Q=>∃ i,x=.int i∧Q (g i) H
section
variable {X:Cx}{a b c:Expr}{ta tb tc:TE}{pos:Pos}
theorem binT (ha:PE X a ta)(hb:PE X b tb){pins:List (Addr×Obj)}{s:Shared}{σ:St}{H:Hp}{R:V→V→Hp→Prop}(I:Inv X pins σ H s)
  (h:ta σ H fun x H1=>tb σ H1 fun y H2=>R x y H2) {Q:Value→Shared→Prop} {f:Value→Value→Sem Value}
  (hf:∀ v u s2 x y H2,Inv X pins σ H2 s2→RelV x v→RelV y u→R x y H2→wpAny (model X.prog X.w) X.A (f v u) Q X.xe s2) :
  wpAny (model X.prog X.w) X.A (eval a X.env) (fun v s₁=>wpAny (model X.prog X.w) X.A (eval b X.env) (fun u s₂=>wpAny (model X.prog X.w) X.A (f v u) Q X.xe s₂) X.xe s₁) X.xe s:=by
 refine thn (ha pins s σ H _ I h) fun v s1 ⟨x,H1,I1,r1,q1⟩=>?_
 refine thn (hb pins s1 σ H1 _ I1 q1) fun u s2 ⟨y,H2,I2,r2,q2⟩=>?_
 exact hf v u s2 x y H2 I2 r1 r2 q2
theorem pe_op {op:Operator}{r:R2}(ho:OpR X (binaryOp op) r)(ha:PE X a ta)(hb:PE X b tb):PE X (.BinOp a op b pos) (tOp r ta tb):=by
 intro pins s σ H Q I h;exact wpAny_BinOp (binT ha hb I h fun v u s2 x y H2 I2 rx ry q=>ho pins s2 σ H2 x y v u Q I2 rx ry q)
theorem pe_un {op:UnaryOp}{r:V→Hp→VK→Prop}(ho:UnR X (unaryOp op) r)(ha:PE X a ta):PE X (.UnaryOp op a pos) (tUn r ta):=by
 intro pins s σ H Q I h;exact UnaryOp_ (thn (ha pins s σ H _ I h) fun v s1 ⟨x,H1,I1,r1,q1⟩=>ho pins s1 σ H1 x v Q I1 r1 q1)
theorem opI {f:Value→Value→Sem Value}{C:Int→Int→Prop}{g:Int→Int→Int}
  (rule:∀ (i j:Int) (t u:Tok) (s:Shared) (Q:Value→Shared→Prop) (E:Value→Shared→Prop),C i j→Q (.int (g i j) s.toks) {s with toks:=s.toks+1}→wpAny (model X.prog X.w) X.A (f (.int i t) (.int j u)) Q E s) :
  OpR X f (rI C fun i j=>.int (g i j)):=by
 intro pins s σ H x y v u Q I rx ry h;obtain⟨i,j,rfl,rfl,hc,q⟩:=h;obtain⟨t,rfl⟩:=rx;obtain⟨t',rfl⟩:=ry;exact rule i j t t' s _ _ hc ⟨.int (g i j),H,I.tok _,⟨_,rfl⟩,q⟩
theorem opI0 {f:Value→Value→Sem Value}{g:Int→Int→Int}
  (rule:∀ (i j:Int) (t u:Tok) (s:Shared) (Q:Value→Shared→Prop) (E:Value→Shared→Prop),Q (.int (g i j) s.toks) {s with toks:=s.toks+1}→wpAny (model X.prog X.w) X.A (f (.int i t) (.int j u)) Q E s) :
  OpR X f (rI0 fun i j=>.int (g i j)):=by
 intro pins s σ H x y v u Q I rx ry h;obtain⟨i,j,rfl,rfl,q⟩:=h;obtain⟨t,rfl⟩:=rx;obtain⟨t',rfl⟩:=ry;exact rule i j t t' s _ _ ⟨.int (g i j),H,I.tok _,⟨_,rfl⟩,q⟩
theorem opB0 {f:Value→Value→Sem Value}{g:Int→Int→Bool}
  (rule:∀ (i j:Int) (t u:Tok) (s:Shared) (Q:Value→Shared→Prop) (E:Value→Shared→Prop),Q (.bool (g i j)) s→wpAny (model X.prog X.w) X.A (f (.int i t) (.int j u)) Q E s) :
  OpR X f (rI0 fun i j=>.bl (g i j)):=by
 intro pins s σ H x y v u Q I rx ry h;obtain⟨i,j,rfl,rfl,q⟩:=h;obtain⟨t,rfl⟩:=rx;obtain⟨t',rfl⟩:=ry;exact rule i j t t' s _ _ ⟨.bl (g i j),H,I,rfl,q⟩
def CDiv (i j:Int):Prop:=0<j∧j<1073741824
def CPow (i j:Int):Prop:=0≤j∧j≤1000000∧i.natAbs<2 ^ 64
def CMul (i j:Int):Prop:=(-(2 ^ 64)<i∧i<2 ^ 64)∨(-(2 ^ 64)<j∧j<2 ^ 64)
theorem CMul.ok {i j:Int}(h:CMul i j):IntMulOk i j:=by
 rcases h with ⟨h1,h2⟩ | ⟨h1,h2⟩
 ·exact .of_left (intBits_le_64 h1 h2)
 ·exact .of_right (intBits_le_64 h1 h2)
theorem op_add:OpR X (binaryOp .Add) (rI0 fun i j=>.int (i+j)):=opI0 fun _ _ _ _ _ _ _ q=>add_int q
theorem op_sub:OpR X (binaryOp .Sub) (rI0 fun i j=>.int (i-j)):=opI0 fun _ _ _ _ _ _ _ q=>sub_int q
theorem op_mul:OpR X (binaryOp .Mult) (rI CMul fun i j=>.int (i*j)):=opI fun _ _ _ _ _ _ _ hc q=>mul_int q hc.ok
theorem op_fdiv:OpR X (binaryOp .FloorDiv) (rI CDiv fun i j=>.int (i / j)):=opI fun i j _ _ _ _ _ hc q=>by
 have h1:(0:Int)<j:=hc.1;have h2:j<1073741824:=hc.2;exact floordiv_int (by omega) (by rw[Int.fdiv_eq_ediv_of_nonneg i (by omega)];exact q) (.inl (PyProof.noPylong_small (by omega)))
theorem op_mod:OpR X (binaryOp .Mod) (rI (fun _ j=>0<j) fun i j=>.int (i % j)):=opI fun i j _ _ _ _ _ hc q=>by
 have h1:(0:Int)<j:=hc;exact mod_int' (by omega) (by rw[Int.fmod_eq_emod_of_nonneg i (by omega)];exact q)
theorem op_pow:OpR X (binaryOp .Pow) (rI CPow fun i j=>.int (i ^ j.toNat)):=opI fun _ _ _ _ _ _ _ hc q=>pow_int_small hc.1 hc.2.1 hc.2.2 q
theorem unI {f:Value→Sem Value}{g:Int→Int}
  (rule:∀ (i:Int) (t:Tok) (s:Shared) (Q:Value→Shared→Prop) (E:Value→Shared→Prop),Q (.int (g i) s.toks) {s with toks:=s.toks+1}→wpAny (model X.prog X.w) X.A (f (.int i t)) Q E s) :
  UnR X f (rU fun i=>.int (g i)):=by
 intro pins s σ H x v Q I rx h;obtain⟨i,rfl,q⟩:=h;obtain⟨t,rfl⟩:=rx;exact rule i t s _ _ ⟨.int (g i),H,I.tok _,⟨_,rfl⟩,q⟩
theorem un_neg:UnR X (unaryOp .USub) (rU fun i=>.int (-i)):=unI fun _ _ _ _ _ q=>neg_int q
end
def scal:V→V→Bool
 | .non,.non=>true | .non,.int _=>true | .int _,.non=>true | .non,.bl _=>true | .bl _,.non=>true | .non,.str _=>true | .str _,.non=>true
 | .int _,.int _=>true | .bl _,.bl _=>true | .str _,.str _=>true | .byt _,.byt _=>true
 | .int _,.str _=>true | .str _,.int _=>true | .bl _,.str _=>true | .str _,.bl _=>true
 | _,_=>false
def rEq:R2:=fun x y H Q=>scal x y=true∧Q (.bl (decide (x=y))) H
def rNe:R2:=fun x y H Q=>scal x y=true∧Q (.bl (!decide (x=y))) H
theorem dec_int {i j:Int}:decide (V.int i=V.int j)=(i == j):=by
 rw[Bool.eq_iff_iff];simp
theorem dec_bl {i j:Bool}:decide (V.bl i=V.bl j)=(i == j):=by
 rw[Bool.eq_iff_iff];simp
theorem dec_str {i j:Str}:decide (V.str i=V.str j)=(i == j):=by
 rw[Bool.eq_iff_iff];simp
theorem dec_byt {i j:Array UInt8}:decide (V.byt i=V.byt j)=(i.toList == j.toList):=by
 rw[Bool.eq_iff_iff];cases i;cases j;simp
section
variable {X:Cx}{a b c:Expr}{ta tb tc:TE}{pos:Pos}
theorem fin_bl {pins:List (Addr×Obj)}{σ:St}{H:Hp}{s:Shared}{Q:VK}{k k':Bool}(I:Inv X pins σ H s)(q:Q (.bl k) H)(e:k=k'):EP X pins σ Q (.bool k') s:=by
 subst e;exact⟨.bl k,H,I,rfl,q⟩
theorem op_eq:OpR X (compareOp .Eq) rEq:=by
 intro pins s σ H x y v u Q I rx ry h;obtain⟨hs,q⟩:=h;cases x with
 | non =>
  cases rx;cases y with
  | non=>cases ry;exact PySem.EqNone.eq_none_none (fin_bl I q (by simp))
  | bl j=>cases ry;exact PySem.EqNone.eq_none_bool (fin_bl I q (by simp))
  | int j=>obtain⟨t',rfl⟩:=ry;exact PySem.EqNone.eq_none_int (fin_bl I q (by simp))
  | str j=>obtain⟨t',rfl⟩:=ry;exact PySem.EqNone.eq_none_str (fin_bl I q (by simp))
  | _=>exact absurd (show false=true from hs) Bool.false_ne_true
 | bl i =>
  cases rx;cases y with
  | non=>cases ry;exact PySem.EqNone.eq_bool_none (fin_bl I q (by simp))
  | bl j=>cases ry;exact eq_bool (fin_bl I q dec_bl)
  | str j=>obtain⟨t',rfl⟩:=ry;exact PySem.EqMixed.eq_bool_str (fin_bl I q (by simp))
  | _=>exact absurd (show false=true from hs) Bool.false_ne_true
 | int i =>
  obtain⟨t,rfl⟩:=rx;cases y with
  | non=>cases ry;exact PySem.EqNone.eq_int_none (fin_bl I q (by simp))
  | int j=>obtain⟨t',rfl⟩:=ry;exact eq_int (fin_bl I q dec_int)
  | str j=>obtain⟨t',rfl⟩:=ry;exact PySem.EqMixed.eq_int_str (fin_bl I q (by simp))
  | _=>exact absurd (show false=true from hs) Bool.false_ne_true
 | str i =>
  obtain⟨t,rfl⟩:=rx;cases y with
  | non=>cases ry;exact PySem.EqNone.eq_str_none (fin_bl I q (by simp))
  | bl j=>cases ry;exact PySem.EqMixed.eq_str_bool (fin_bl I q (by simp))
  | int j=>obtain⟨t',rfl⟩:=ry;exact PySem.EqMixed.eq_str_int (fin_bl I q (by simp))
  | str j=>obtain⟨t',rfl⟩:=ry;exact eq_str (fin_bl I q dec_str)
  | _=>exact absurd (show false=true from hs) Bool.false_ne_true
 | byt i =>
  obtain⟨t,rfl⟩:=rx;cases y with
  | byt j=>obtain⟨t',rfl⟩:=ry;exact PySem.W.eq_bytes (fin_bl I q dec_byt)
  | _=>exact absurd (show false=true from hs) Bool.false_ne_true
 | _=>cases y<;>exact absurd (show false=true from hs) Bool.false_ne_true
theorem op_ne:OpR X (compareOp .NotEq) rNe:=by
 intro pins s σ H x y v u Q I rx ry h;obtain⟨hs,q⟩:=h;cases x with
 | non =>
  cases rx;cases y with
  | non=>cases ry;exact PySem.EqNone.ne_none_none (fin_bl I q (by simp))
  | bl j=>cases ry;exact PySem.EqNone.ne_none_bool (fin_bl I q (by simp))
  | int j=>obtain⟨t',rfl⟩:=ry;exact PySem.EqNone.ne_none_int (fin_bl I q (by simp))
  | str j=>obtain⟨t',rfl⟩:=ry;exact PySem.EqNone.ne_none_str (fin_bl I q (by simp))
  | _=>exact absurd (show false=true from hs) Bool.false_ne_true
 | bl i =>
  cases rx;cases y with
  | non=>cases ry;exact PySem.EqNone.ne_bool_none (fin_bl I q (by simp))
  | bl j=>cases ry;exact ne_bool (fin_bl I q (congrArg not dec_bl))
  | str j=>obtain⟨t',rfl⟩:=ry;exact PySem.EqMixed.ne_bool_str (fin_bl I q (by simp))
  | _=>exact absurd (show false=true from hs) Bool.false_ne_true
 | int i =>
  obtain⟨t,rfl⟩:=rx;cases y with
  | non=>cases ry;exact PySem.EqNone.ne_int_none (fin_bl I q (by simp))
  | int j=>obtain⟨t',rfl⟩:=ry;exact ne_int (fin_bl I q (congrArg not dec_int))
  | str j=>obtain⟨t',rfl⟩:=ry;exact PySem.EqMixed.ne_int_str (fin_bl I q (by simp))
  | _=>exact absurd (show false=true from hs) Bool.false_ne_true
 | str i =>
  obtain⟨t,rfl⟩:=rx;cases y with
  | non=>cases ry;exact PySem.EqNone.ne_str_none (fin_bl I q (by simp))
  | bl j=>cases ry;exact PySem.EqMixed.ne_str_bool (fin_bl I q (by simp))
  | int j=>obtain⟨t',rfl⟩:=ry;exact PySem.EqMixed.ne_str_int (fin_bl I q (by simp))
  | str j=>obtain⟨t',rfl⟩:=ry;exact ne_str (fin_bl I q (congrArg not dec_str))
  | _=>exact absurd (show false=true from hs) Bool.false_ne_true
 | byt i =>
  obtain⟨t,rfl⟩:=rx;cases y with
  | byt j=>obtain⟨t',rfl⟩:=ry;exact PySem.W.ne_bytes (fin_bl I q (congrArg not dec_byt))
  | _=>exact absurd (show false=true from hs) Bool.false_ne_true
 | _=>cases y<;>exact absurd (show false=true from hs) Bool.false_ne_true
theorem op_lt:OpR X (compareOp .Lt) (rI0 fun i j=>.bl (decide (i<j))):=opB0 fun _ _ _ _ _ _ _ q=>lt_int q
theorem op_le:OpR X (compareOp .LtE) (rI0 fun i j=>.bl (decide (i≤j))):=opB0 fun _ _ _ _ _ _ _ q=>le_int q
theorem op_gt:OpR X (compareOp .Gt) (rI0 fun i j=>.bl (decide (j<i))):=opB0 fun _ _ _ _ _ _ _ q=>gt_int q
theorem op_ge:OpR X (compareOp .GtE) (rI0 fun i j=>.bl (decide (j≤i))):=opB0 fun _ _ _ _ _ _ _ q=>ge_int q
theorem nomark (b:Expr){op:CmpOp}(h:op≠.In:=by decide)(h2:op≠.NotIn:=by decide):behindInMarks op b=false:=by
 have e1:(op == CmpOp.In)=false:=by cases op<;>first | rfl | exact absurd rfl h
 have e2:(op == CmpOp.NotIn)=false:=by cases op<;>first | rfl | exact absurd rfl h2
 cases b<;>simp[behindInMarks,e1,e2]
theorem pe_cmpR {op:CmpOp}{r:R2}(ho:OpR X (compareOp op) r)(ha:PE X a ta)(hb:PE X b tb)(hm:behindInMarks op b=false):PE X (.Compare a [op] [b] pos) (tOp r ta tb):=by
 intro pins s σ H Q I h;exact wpAny_Compare1 (binT ha hb I h fun v u s2 x y H2 I2 rx ry q=>ho pins s2 σ H2 x y v u Q I2 rx ry q) hm
def tTest (t:TE):TT:=fun σ H Q=>t σ H fun x H'=>∃ k,x=.bl k∧Q k H'
theorem pt_cmpR {op:CmpOp}{r:R2}(ho:OpR X (compareOp op) r)(ha:PE X a ta)(hb:PE X b tb)(hm:behindInMarks op b=false):PT X (.Compare a [op] [b] pos) (tTest (tOp r ta tb)):=by
 intro pins s σ H Q I h
 refine wpAny_isTrue_Compare1 (thn (ha pins s σ H _ I h) fun v s1 ⟨x,H1,I1,r1,q1⟩=>thn (hb pins s1 σ H1 _ I1 q1) fun u s2 ⟨y,H2,I2,r2,q2⟩ =>
  thn (ho pins s2 σ H2 x y v u _ I2 r1 r2 q2) fun c s3 ⟨z,H3,I3,r3,k,e,q3⟩=>?_) hm
 subst e;cases r3;exact wpAny_truthy_bool ⟨H3,I3,q3⟩
def tChain (r r':R2)(ta tb tc:TE):TE:=fun σ H Q=>ta σ H fun x H1=>tb σ H1 fun y H2=>r x y H2 fun z H3=>∃ k,z=.bl k ∧
 (if k=true then tc σ H3 fun w' H4=>r' y w' H4 Q else Q (.bl false) H3)
theorem pe_chain {op op':CmpOp}{r r':R2}(ho:OpR X (compareOp op) r)(ho':OpR X (compareOp op') r')(ha:PE X a ta)(hb:PE X b tb)(hc:PE X c tc)
  (hm:lastMarks [op,op'] [b,c]=false:=by with_unfolding_all rfl):PE X (.Compare a [op,op'] [b,c] pos) (tChain r r' ta tb tc):=by
 intro pins s σ H Q I h
 refine Compare_chain (thn (ha pins s σ H _ I h) fun v s1 ⟨x,H1,I1,r1,q1⟩=>chain_link (thn (hb pins s1 σ H1 _ I1 q1) fun u s2 ⟨y,H2,I2,r2,q2⟩ =>
  thn (ho pins s2 σ H2 x y v u _ I2 r1 r2 q2) fun d s3 ⟨z,H3,I3,r3,k,e,q3⟩=>?_)) hm
 subst e;cases r3;refine wpAny_truthy_bool ?_;cases k with
 | false=>exact ite_ff ⟨.bl false,H3,I3,rfl,q3⟩
 | true=>exact ite_tt (chain_last (thn (hc pins s3 σ H3 _ I3 q3) fun w' s4 ⟨z',H4,I4,r4,q4⟩=>ho' pins s4 σ H4 y z' u w' Q I4 r2 r4 q4))
theorem line63:(sizeLine:Nat)<2 ^ 63:=by rw[sizeLine_eq];decide
theorem vals1 {x:V}{us:List Value}(r:Vals [x] us):∃ u,us=[u]∧RelV x u:=by
 cases r with
 | cons r1 r2=>cases r2;exact⟨_,rfl,r1⟩
theorem vals2 {x y:V}{us:List Value}(r:Vals [x,y] us):∃ u w',us=[u,w']∧RelV x u∧RelV y w':=by
 cases r with
 | cons r1 r2 =>
  cases r2 with
  | cons r3 r4=>cases r4;exact⟨_,_,rfl,r1,r3⟩
theorem call_max2 (hc:X.calm=true):CallR X (.builtin "max") (fun xs H Q=>∃ i j,xs=[.int i,.int j]∧Q (.int (if j>i then j else i)) H):=by
 intro pins s σ H xs us Q I r h;obtain⟨i,j,rfl,q⟩:=h;obtain⟨u,w',rfl,⟨t,rfl⟩,⟨t',rfl⟩⟩:=vals2 r;refine max_two_ints (I.ok.hd hc) fun h' tk k=>⟨_,H,I.kept k,?_,q⟩
 by_cases hj:j>i
 ·rw[if_pos hj,if_pos hj];exact⟨_,rfl⟩
 ·rw[if_neg hj,if_neg hj];exact⟨_,rfl⟩
theorem call_min2 (hc:X.calm=true):CallR X (.builtin "min") (fun xs H Q=>∃ i j,xs=[.int i,.int j]∧Q (.int (if j<i then j else i)) H):=by
 intro pins s σ H xs us Q I r h;obtain⟨i,j,rfl,q⟩:=h;obtain⟨u,w',rfl,⟨t,rfl⟩,⟨t',rfl⟩⟩:=vals2 r;refine min_two_ints (I.ok.hd hc) fun h' tk k=>⟨_,H,I.kept k,?_,q⟩
 by_cases hj:j<i
 ·rw[if_pos hj,if_pos hj];exact⟨_,rfl⟩
 ·rw[if_neg hj,if_neg hj];exact⟨_,rfl⟩
theorem call_int1:CallR X (.type "int") (fun xs H Q=>(∃ i,xs=[.int i]∧Q (.int i) H)∨∃ k,xs=[.bl k]∧Q (.int (if k then 1 else 0)) H):=by
 intro pins s σ H xs us Q I r h;rcases h with ⟨i,rfl,q⟩ | ⟨k,rfl,q⟩
 ·obtain⟨u,rfl,t,rfl⟩:=vals1 r;exact call_int_int ⟨.int i,H,I,⟨_,rfl⟩,q⟩
 ·obtain⟨u,rfl,r1⟩:=vals1 r;cases r1;exact call_int_bool ⟨.int (if k then 1 else 0),H,I.tok _,⟨_,rfl⟩,q⟩
end
end L2
namespace L2
open PySem PySem.Spec PyProof.Rows
structure ObjM (h:Heap)(x dx C:Addr)(mA:Str→Option Value):Prop where
 obj:h.get? x=some (PySem.W.instObj C dx)
 ns:h.Ns1 dx mA
 ne:dx≠x
theorem lookIn_ns {h:Heap}{dx:Addr}{mA:Str→Option Value}(n:h.Ns1 dx mA):∃ od,h.get? dx=some od∧∀ name,PySem.W.lookIn name od=some (mA name):=by
 obtain⟨o,es,ep,ho,hd,hk,_,hm⟩:=n;refine⟨o,ho,fun name=>?_⟩;have e:=hm name;unfold nsFind findBy at e;rw[← Array.find?_toList] at e;unfold PySem.W.lookIn;rw[hd];dsimp only;split
 ·rename_i y q;rw[q] at e;exact congrArg some e
 ·rename_i q;rw[q] at e;have a:es.toList.any (·.refKey)=false:=by
   rw[List.any_eq_false];intro y hy;obtain⟨z,t,hkey⟩:=hk y (Array.mem_toList_iff.mp hy);simp[DictEntry.refKey,hkey]
  have a':¬ es.toList.any (·.refKey)=true:=by rw[a];exact Bool.false_ne_true
  rw[if_neg a'];exact congrArg some e
theorem ObjM.look {h:Heap}{x dx C:Addr}{mA:Str→Option Value}(I:ObjM h x dx C mA):∃ od,PySem.W.InstAt h x (PySem.W.instObj C dx) C (some od)∧∀ name,PySem.W.lookIn name od=some (mA name) :=
 let ⟨od,ho,hl⟩:=lookIn_ns I.ns
 ⟨od,⟨I.obj,rfl,rfl,ho⟩,hl⟩
section
variable {prog:Program}{w:World}{A:Around}{E:Value→Shared→Prop}{s:Shared}{K:PySem.W.Frag}{x dx C f:Addr}{mA:Str→Option Value}{name:Str}{v:Value}
theorem set_map {ns:List Str}{Q:Unit→Shared→Prop}(X:K.In s.heap)(I:ObjM s.heap x dx C mA)
  (hs:PySem.W.findIn K (.ref C) "__setattr__"=some (some (.builtin "object.__setattr__"))) (hp:PySem.W.plainOver K C=true) (ht:PySem.W.takerIn K C name=some none) (hh:PySem.W.hasDictIn K C=true)
  (hw:PySem.Within mA ns) (hsz:ns.length≤sizeLine)
  (h:∀ h',ObjM h' x dx C (fun y=>if y=name then some v else mA y)→Heap.SameBut dx s.heap h'→Q () {s with heap:=h',toks:=s.toks+2}) :
  wpAny (model prog w) A (setAttr (.ref x) name v) Q E s:=by
 obtain⟨od,J,hl⟩:=I.look;refine PySem.W.set_plain X J hs (PySem.W.osa_open (s:={s with toks:=s.toks+1}) (r:=none) X J hp ht fun b=>?_);obtain⟨cd,hc,hd'⟩:=PySem.W.any_some hh;have hx:s.heap.get? x=some ⟨.ref C,some dx,.plain,#[]⟩:=I.obj;refine wpAny_bind (wpAny_pure (wpAny_bind (wpAny_bind (wpAny_loadPart hx (wpAny_bind (PySem.W.Looks.here (s:={s with toks:=s.toks+1}) (PySem.W.looks_clsIn X hc) ?_))))));rw[hd'];refine wpAny_pure (a:=some dx) (wpAny_bind (wpAny_pure (wpAny_bind ?_)));refine wpAny_nsSet1 (s:={s with toks:=s.toks+1}) I.ns fun h' hn2 hs2=>?_
 obtain⟨oD,esD,epD,hoD,hdD,hcD⟩:=hn2.count (PySem.Within.cons name v hw);refine wpAny_bind (wpAny_lookBehind hoD (by rw[hdD];exact pastItsLine_dict (Nat.le_trans hcD (by rw[List.length_cons];omega))) ?_);exact wpAny_pure (h _ ⟨(hs2.2 _ (Ne.symm I.ne)).trans I.obj,hn2,I.ne⟩ hs2)
end
theorem RelO.some_of {v:V}{o:Option Value}(r:RelO (some v) o):∃ u,o=some u∧RelV v u:=by
 cases o with
 | none=>exact (show False from r).elim
 | some u=>exact⟨u,rfl,r⟩
section
variable {P:Program}{w:World}{H H':Hp}{h h':Heap}{a C dx:Addr}{fs fs':List (Str×V)}
theorem ins_get (hok:HOk P w H h)(e:H a=some (.ins C dx fs)):∃ mA,ObjM h a dx C mA∧(∀ f,RelO (fs.lookup f) (mA f))∧PySem.Within mA (fs.map (·.1))∧fs.length≤1000∧H dx=some (.own a):=by
 obtain⟨d,z,ne,ob,mA,n,r,q⟩:=(show ObjOk P w H h a (.ins C dx fs) from hok a _ e)
 exact⟨mA,⟨ob,n,ne⟩,r,q,z,d⟩
end
structure Cls (K:PySem.W.Frag)(C:Addr):Prop where
 pg:PySem.W.plainGet K C Str.empty=true
 hd:PySem.W.hasDictIn K C=true
 po:PySem.W.plainOver K C=true
 sa:PySem.W.findIn K (.ref C) "__setattr__"=some (some (.builtin "object.__setattr__"))
theorem Cls.get {K:PySem.W.Frag}{C:Addr}(c:Cls K C)(f:Str):PySem.W.plainGet K C f=true:=c.pg
section
variable {X:Cx}{pins:List (Addr×Obj)}{σ:St}{H:Hp}{s:Shared}{a C dx:Addr}{fs:List (Str×V)}{f:Str}{v:V}{A:Around}{E:Value→Shared→Prop}
theorem Inv.made (I:Inv X pins σ H s):Inv X pins σ (upd (upd H s.heap.objs.size (.own (s.heap.objs.size+1))) (s.heap.objs.size+1) (.ins C s.heap.objs.size []))
  {s with heap:=(s.heap.push PySem.W.emptyDict).push (PySem.W.instObj C s.heap.objs.size)}:=by
 have e1:(s.heap.push PySem.W.emptyDict).get? s.heap.objs.size=some PySem.W.emptyDict:=Heap.get?_push_size s.heap rfl;have e2:((s.heap.push PySem.W.emptyDict).push (PySem.W.instObj C s.heap.objs.size)).get? (s.heap.objs.size+1)=some (PySem.W.instObj C s.heap.objs.size):=by
  have:=Heap.get?_push_size (s.heap.push PySem.W.emptyDict) (o:=PySem.W.instObj C s.heap.objs.size) rfl
  rwa [Heap.size_push] at this
 have e3:(s.heap.push PySem.W.emptyDict).Ns s.heap.objs.size (fun _=>none):=⟨PySem.W.emptyDict,#[],_,e1,rfl,(fun e he=>absurd he (by simp)),fun _=>rfl⟩
 have I1:=I.laid (a:=s.heap.objs.size) (o:=.own (s.heap.objs.size+1)) (h':=s.heap.push PySem.W.emptyDict) (t':=s.toks) (fun b u q=>Heap.get?_push_of_some _ q) (Nat.le_refl _) ⟨_,e1⟩;refine I1.laid (a:=s.heap.objs.size+1) (o:=.ins C s.heap.objs.size []) (t':=s.toks) (fun b u q=>Heap.get?_push_of_some _ q) (Nat.le_of_eq (Heap.size_push _ _)) ?_;have ne:s.heap.objs.size≠s.heap.objs.size+1:=Nat.ne_of_lt (Nat.lt_succ_self _);refine⟨by rw[upd_ne ne,upd_same],Nat.zero_le _,ne,e2,fun _=>none,(Heap.Ns1.of_empty e3).at fun o q=>Heap.get?_push_of_some _ q,fun _=>True.intro,fun y hy=>absurd rfl hy⟩
end
section
variable {X:Cx}{o e value:Expr}{f:Str}{pos pos' tpos:Pos}{ta tv:TE}
end
section
variable {X:Cx}{pins:List (Addr×Obj)}{σ:St}{H:Hp}{s:Shared}{A:Around}{E:Value→Shared→Prop}{Q:Value→Shared→Prop}{c:Value}{b:Bool}
inductive TyOf (K:PySem.W.Frag)(H:Hp):V→Value→Prop where
 | non:TyOf K H .non (.type "NoneType")
 | bl (x:Bool):TyOf K H (.bl x) (.type "bool")
 | int (i:Int):TyOf K H (.int i) (.type "int")
 | str (x:Str):TyOf K H (.str x) (.type "str")
 | flt (x:UInt64):TyOf K H (.flt x) (.type "float")
 | lst {a:Addr} {xs:List V} (e:H a=some (.lst xs)):TyOf K H (.ref a) (.type "list")
 | frz {a:Addr} {o:Obj} {xs:List V} (e:H a=some (.frz o (.lst xs))):TyOf K H (.ref a) (.type "list")
 | tup {a:Addr} {xs:List V} (e:H a=some (.tup xs)):TyOf K H (.ref a) (.type "tuple")
 | dK {a:Addr} {kvs:List (Key×V)} (e:H a=some (.dK kvs)):TyOf K H (.ref a) (.type "dict")
 | dT {a:Addr} {kvs:List (List Key×V)} (e:H a=some (.dT kvs)):TyOf K H (.ref a) (.type "dict")
 | ins {a C dx:Addr} {fs:List (Str×V)} (e:H a=some (.ins C dx fs)) (cl:Cls K C) (ha:PySem.W.findIn K (.ref C) "__class__"=some (some (.builtin "object.__class__")))
   (hn:PySem.W.specialIn K (.builtin "object.__class__") "__get__"=some (some (.builtin "getset_descriptor.__get__"))) (htk:PySem.W.takesIn K (.builtin "object.__class__")=some true)
   (hm:PySem.W.mroIn K C (.type "object")=some true):TyOf K H (.ref a) (.ref C)
theorem isinst_ok {x:V}{u t:Value}(I:Inv X pins σ H s)(rx:RelV x u)(ty:TyOf X.K H x t)(e:PySem.W.kitOne X.K t c=some b)(h:∀ tk,Q (.bool b) {s with toks:=tk}) :
  wpAny (model X.prog X.w) A (call (.builtin "isinstance") [u,c]) Q E s:=by
 cases ty with
 | non=>cases (show u=Value.none from rx);exact PySem.W.kia_one PySem.W.kitx_none I.kIn True.intro e (fun z=>nomatch z) h
 | bl y=>cases (show u=Value.bool y from rx);exact PySem.W.kia_one PySem.W.kitx_bool I.kIn True.intro e (fun z=>nomatch z) h
 | int i=>obtain⟨t,q⟩:=(show ∃ t,u=Value.int i t from rx);cases q;exact PySem.W.kia_one PySem.W.kitx_int I.kIn True.intro e (fun z=>nomatch z) h
 | str y=>obtain⟨t,q⟩:=(show ∃ t,u=Value.str y t from rx);cases q;exact PySem.W.kia_one PySem.W.kitx_str I.kIn True.intro e (fun z=>nomatch z) h
 | flt y=>obtain⟨t,q⟩:=(show ∃ t,u=Value.float y t from rx);cases q;exact PySem.W.kia_one PySem.W.kitx_float I.kIn True.intro e (fun z=>nomatch z) h
 | @lst a xs ea =>
  cases (show u=Value.ref a from rx);obtain⟨_,_,n,_,h1⟩:=(show ObjOk X.prog X.w H s.heap a (.lst xs) from I.hok a _ ea)
  exact PySem.W.kia_one PySem.W.kitx_list I.kIn ⟨_,h1,rfl⟩ e (fun z=>nomatch z) h
 | @frz a ob xs ea =>
  cases (show u=Value.ref a from rx);obtain⟨_,_,_,n,_,h1⟩:=(show ObjOk X.prog X.w H s.heap a (.frz ob (.lst xs)) from I.hok a _ ea)
  exact PySem.W.kia_one PySem.W.kitx_list I.kIn ⟨_,h1,rfl⟩ e (fun z=>nomatch z) h
 | @tup a xs ea =>
  cases (show u=Value.ref a from rx);obtain⟨_,_,_,p⟩:=(show ObjOk X.prog X.w H s.heap a (.tup xs) from I.hok a _ ea)
  obtain⟨o,h1,h2,_⟩:=p;exact PySem.W.kia_one PySem.W.kitx_tuple I.kIn ⟨o,h1,h2⟩ e (fun z=>nomatch z) h
 | @dK a kvs ea =>
  cases (show u=Value.ref a from rx);obtain⟨_,_,vs,_,p⟩:=(show ObjOk X.prog X.w H s.heap a (.dK kvs) from I.hok a _ ea)
  obtain⟨o,es,ep,h1,h2,_⟩:=p;exact PySem.W.kia_one PySem.W.kitx_dict I.kIn ⟨o,h1,h2.1⟩ e (fun z=>nomatch z) h
 | @dT a kvs ea =>
  cases (show u=Value.ref a from rx);obtain⟨_,_,xs,_,o,es,ep,h1,h2,_⟩:=(show ObjOk X.prog X.w H s.heap a (.dT kvs) from I.hok a _ ea)
  exact PySem.W.kia_one PySem.W.kitx_dict I.kIn ⟨o,h1,h2.1⟩ e (fun z=>nomatch z) h
 | @ins a C dx fs ea cl ha hn htk hm =>
  cases (show u=Value.ref a from rx);obtain⟨mA,O,_⟩:=ins_get I.hok ea;obtain⟨od,J,_⟩:=O.look;exact PySem.W.kia_one (PySem.W.kitx_own (cl.get _) cl.hd ha hn htk hm) I.kIn J e (fun z=>nomatch z) h
end
end L2
namespace L2
open PySem PySem.Spec PyProof.Rows
structure Room (k:Nat)(A:Around):Prop where
 hd:A.handled=none
 dp:A.depth+3*k+5<recursionLimit
 un:A.units+16*k+200<cLine
 gd:A.guards=some []
theorem Room.mono {j k:Nat}{A:Around}(r:Room k A)(h:j≤k):Room j A:=⟨r.hd,by have:=r.dp;omega,by have:=r.un;omega,r.gd⟩
theorem Room.deeper {k:Nat}{A:Around}(r:Room (k+1) A)(env:Env):Room k (A.deeper env) :=
 ⟨r.hd,by have:=r.dp;show A.depth+1+3*k+5<_;omega,by have:=r.un;show A.units+3+16*k+200<_;omega,r.gd⟩
theorem Room.in1 {k:Nat}{A:Around}(r:Room (k+1) A):Room k A.in1 :=
 ⟨r.hd,by have:=r.dp;show A.depth+3*k+5<_;omega,by have:=r.un;show A.units+1+16*k+200<_;omega,r.gd⟩
theorem Room.depth {k:Nat}{A:Around}(r:Room k A):A.depth<recursionLimit:=by have:=r.dp;omega
theorem Room.units {k:Nat}{A:Around}(r:Room k A):A.units+64<cLine:=by have:=r.un;omega
def tNil:TA:=fun _ H Q=>Q [] H
def tCons (ta:TE)(tr:TA):TA:=fun σ H Q=>ta σ H fun x H1=>tr σ H1 fun xs H2=>Q (x::xs) H2
section
variable {X:Cx}{e:Expr}{es:List Expr}{te:TE}{t:TA}{pos:Pos}
theorem pa_nil:PA X [] tNil:=fun _ _ _ _ H Q I h=>Calls.spliced_nil ⟨[],H,I,.nil,h⟩
theorem pa_cons (ha:PE X e te)(hr:PA X es t)(hs:starEach (e::es) X.env=(false,eval e X.env)::starEach es X.env:=by rfl):PA X (e::es) (tCons te t):=by
 intro pos pins s σ H Q I h;rw[hs];show wpAny _ _ (spliced ((false,eval e X.env)::backTo pos (starEach es X.env))) _ _ s;refine Calls.spliced_cons (thn (ha pins s σ H _ I h) fun u s1 ⟨x,H1,I1,r1,q1⟩=>?_);exact thn (hr pos pins s1 σ H1 _ I1 q1) fun us s2 ⟨xs,H2,I2,r2,q2⟩=>⟨x::xs,H2,I2,.cons r1 r2,q2⟩
def tTup (t:TA):TE:=fun σ H Q=>t σ H fun xs H1=>xs.length≤sizeLine∧∀ p,H1 p=none→Q (.ref p) (upd H1 p (.tup xs))
def tLst (t:TA):TE:=fun σ H Q=>t σ H fun xs H1=>xs.length≤sizeLine∧∀ p,H1 p=none→Q (.ref p) (upd H1 p (.lst xs))
theorem pe_tup {x1}(h:PA X es t):PE X (.Tuple es x1 pos) (tTup t):=by
 intro pins s σ H Q I hq;refine wpAny_Tuple_spliced (thn (h pos pins s σ H _ I hq) fun us s1 ⟨xs,H1,I1,r,z,q⟩=>⟨by rw[← r.length];exact z,?_⟩);have hf:H1 s1.heap.objs.size=none:=I1.hok.fresh (Nat.le_refl _);refine⟨.ref s1.heap.objs.size,upd H1 s1.heap.objs.size (.tup xs),I1.laid (t':=s1.toks) (fun b u e=>Heap.get?_push_of_some _ e) (Nat.le_refl _) ?_,rfl,q _ hf⟩;exact⟨z,us,r,⟨_,Heap.get?_push_size _ rfl,rfl,_,rfl⟩⟩
theorem pe_lst (h:PA X es t):PE X (.List es pos) (tLst t):=by
 intro pins s σ H Q I hq;refine wpAny_List_spliced (thn (h pos pins s σ H _ I hq) fun us s1 ⟨xs,H1,I1,r,z,q⟩=>⟨by rw[← r.length];exact z,?_⟩);have hf:H1 s1.heap.objs.size=none:=I1.hok.fresh (Nat.le_refl _);refine⟨.ref s1.heap.objs.size,upd H1 s1.heap.objs.size (.lst xs),I1.laid (t':=s1.toks) (fun b u e=>Heap.get?_push_of_some _ e) (Nat.le_refl _) ?_,rfl,q _ hf⟩;exact⟨z,us,0,r,Heap.get?_push_size _ rfl⟩
end
abbrev Sp:=List V→Hp→VK→XK→Prop
abbrev CXT:=List Env→Hp→Shared→XK→Value→Shared→Prop
structure Env0 (P:Program)(w:World)(K:PySem.W.Frag)(mg:Str→Option Value)(base:Heap)(A:Around)(outer:List Env)(s:Shared)(H:Hp):Prop where
 frames:A.frames=some outer
 mod:Mod K mg base
 bs:∀ b o,base.get? b=some o→s.heap.get? b=some o∧H b=none
 bsz:base.objs.size≤s.heap.objs.size
 funs:s.heap.FunFrames base outer
 frf:∀ b∈frs outer,H b=none
 hok:HOk P w H s.heap
 bare:AllBare s.gens
def CE (outer:List Env)(P:Program)(w:World)(H:Hp)(s:Shared)(Q:VK)(u:Value)(s':Shared):Prop :=
 ∃ v H',s'.os=s.os∧AllBare s'.gens∧Un (frs outer) [] H H' s.heap s'.heap∧HOk P w H' s'.heap∧RelV v u∧Q v H'
def CR (CX:CXT)(outer:List Env)(P:Program)(w:World)(H:Hp)(s:Shared)(Q:VK)(E:XK)(r:Result)(s':Shared):Prop :=
 match r with
 | .ok (.ret u)=>CE outer P w H s Q u s'
 | .ok _=>False
 | .error e=>CX outer H s E e s'
structure FnOk (P:Program)(w:World)(K:PySem.W.Frag)(mg:Str→Option Value)(base:Heap)(CX:CXT)(k:Nat)(f:Addr)(fd:FuncData)(ps:List Str)(sp:Sp):Prop where
 len:∀ vs H Q E,sp vs H Q E→vs.length=ps.length
 run:∀ (A:Around) (outer:List Env) (s:Shared) (H:Hp) (args:Args) (us:List Value) (vs:List V) (Q:VK) (E:XK),Room k A→Env0 P w K mg base A outer s H→BindsTo s fd args (ps.zip us)→Vals vs us→sp vs H Q E →
  codeAny (model P w) A (.call (.ref f) args) (CR CX outer P w H s Q E) s
theorem FnOk.mono {P:Program}{w:World}{K:PySem.W.Frag}{mg:Str→Option Value}{base:Heap}{CX:CXT}{j k:Nat}{f:Addr}{fd:FuncData}{ps:List Str}{sp:Sp}(F:FnOk P w K mg base CX j f fd ps sp)(h:j≤k) :
  FnOk P w K mg base CX k f fd ps sp:=⟨F.len,fun A outer s H args us vs Q E hr=>F.run A outer s H args us vs Q E (hr.mono h)⟩
theorem FnOk.imp {P:Program}{w:World}{K:PySem.W.Frag}{mg:Str→Option Value}{base:Heap}{CX:CXT}{k:Nat}{f:Addr}{fd:FuncData}{ps:List Str}{sp sp':Sp}(F:FnOk P w K mg base CX k f fd ps sp)
  (h:∀ vs H Q E,sp' vs H Q E→sp vs H Q E):FnOk P w K mg base CX k f fd ps sp' :=
 ⟨fun vs H Q E q=>F.len vs H Q E (h _ _ _ _ q),fun A outer s H args us vs Q E hr he hb hv hs=>F.run A outer s H args us vs Q E hr he hb hv (h _ _ _ _ hs)⟩
theorem Env0.in1 {P:Program}{w:World}{K:PySem.W.Frag}{mg:Str→Option Value}{base:Heap}{A:Around}{outer:List Env}{s:Shared}{H:Hp}(e:Env0 P w K mg base A outer s H) :
  Env0 P w K mg base A.in1 outer s H:=⟨e.frames,e.mod,e.bs,e.bsz,e.funs,e.frf,e.hok,e.bare⟩
section
variable {X:Cx}{pins:List (Addr×Obj)}{σ:St}{H:Hp}{s s':Shared}
theorem Inv.env0 (I:Inv X pins σ H s):Env0 X.prog X.w X.K X.mg X.base X.A X.stack s H :=
 ⟨I.ok.frames,I.ok.mod,I.bs,Nat.le_trans I.ok.bsz I.sz,I.stack,I.stkFree,I.hok,I.bare⟩
theorem Inv.after {Q:VK}{u:Value}(I:Inv X pins σ H s)(h:CE X.stack X.prog X.w H s Q u s'):EP X pins σ Q u s':=by
 obtain⟨v,H',os,bare,un,hok,r,q⟩:=h;obtain⟨hh,g,d,t,os'⟩:=s';obtain rfl:os'=s.os:=os;exact⟨v,H',I.call (h':=hh) (g':=g) (d':=d) (t':=t) (ch:=[]) un hok bare (fun b z=>absurd z (by simp)),r,q⟩
end
def tCall (sp:Sp)(dvs:List V)(E:XK)(t:TA):TE:=fun σ H Q=>t σ H fun vs H1=>sp (vs++dvs) H1 Q E
def Binds (K:PySem.W.Frag)(fd:FuncData)(ps:List Str)(ds:List Value):Prop :=
 ∀ (s:Shared) (us:List Value),K.In s.heap→(us++ds).length=ps.length→BindsTo s fd ⟨us,[]⟩ (ps.zip (us++ds))
theorem Binds.all {K:PySem.W.Frag}{fd:FuncData}{ps:List Str}(h:∀ us:List Value,us.length=ps.length→bindArgs fd ⟨us,[]⟩=pure (ps.zip us)):Binds K fd ps []:=fun s us _ hl=>by
 rw[List.append_nil] at hl ⊢;exact .of_eq (h us hl)
def Passes (CX:CXT)(X:Cx)(E:XK):Prop:=∀ (pins:List (Addr×Obj)) (σ:St) (H:Hp) (s:Shared) (e:Value) (s':Shared),Inv X pins σ H s→CX X.stack H s E e s'→X.xe e s'
section
variable {X:Cx}{CX:CXT}{k:Nat}{f C:Addr}{fd:FuncData}{ps:List Str}{sp:Sp}{dvs:List V}{ds:List Value}{E:XK}{x m:Str}{p pos apos:Pos}{e o:Expr}{es:List Expr}{ta:TE}{t:TA}
theorem run_fn {pins:List (Addr×Obj)}{σ:St}{H:Hp}{s:Shared}{Q:VK}{us:List Value}{vs:List V}(F:FnOk X.prog X.w X.K X.mg X.base CX k f fd ps sp)(hr:Room k X.A)(hb:Binds X.K fd ps ds)(hd:Vals dvs ds)(hx:Passes CX X E)
  (I:Inv X pins σ H s) (r:Vals vs us) (h:sp (vs++dvs) H Q E):wpAny (model X.prog X.w) X.A (call (.ref f) us) (EP X pins σ Q) X.xe s:=by
 have r2:Vals (vs++dvs) (us++ds):=r.append hd;have hl:(us++ds).length=ps.length:=by rw[← r2.length];exact F.len _ _ _ _ h
 refine wpAny_call (codeAny_mono (F.run X.A X.stack s H ⟨us,[]⟩ (us++ds) (vs++dvs) Q E hr I.env0 (hb s us I.kIn hl) r2 h) fun r s' hq=>?_);cases r with
 | error e=>exact hx pins σ H s e s' I hq
 | ok fl =>
  cases fl with
  | ret u=>exact I.after hq
  | next=>exact False.elim hq
  | brk=>exact False.elim hq
  | cont=>exact False.elim hq
theorem pe_call (F:FnOk X.prog X.w X.K X.mg X.base CX k f fd ps sp)(hr:Room k X.A)(hg:Gl X x)(hm:X.mg x=some (.ref f))(hk:PySem.W.keepIn X.K (.ref f)=true)(hb:Binds X.K fd ps ds)(hd:Vals dvs ds)(hx:Passes CX X E)
  (ha:PA X (e::es) t) (hdb:(x == ("__debug__":Str))=false:=by decide) (he:starEach (e::es) X.env=(false,eval e X.env)::starEach es X.env:=by rfl) (hpl:(backTo pos (starEach es X.env)).any (·.1)=false:=by rfl) :
  PE X (.Call (.Name x p) (e::es) [] pos) (tCall sp dvs E t):=by
 intro pins s σ H Q I h;refine wpAny_Call_Name_kw (ld_glob I hg hm ?_ hdb);refine PySem.W.callWith_K (h₀:=X.base) I.ok.mod.kin hk (thn (ha pos pins s σ H _ I h) fun us s1 ⟨vs,H1,I1,r,q⟩=>⟨I1.kIn,?_⟩) he hpl;exact run_fn F hr hb hd hx I1 r q
theorem pe_call0 (F:FnOk X.prog X.w X.K X.mg X.base CX k f fd ps sp)(hr:Room k X.A)(hg:Gl X x)(hm:X.mg x=some (.ref f))(hk:PySem.W.keepIn X.K (.ref f)=true)(hb:Binds X.K fd ps ds)(hd:Vals dvs ds)(hx:Passes CX X E)
  (hdb:(x == ("__debug__":Str))=false:=by decide):PE X (.Call (.Name x p) [] [] pos) (tCall sp dvs E tNil):=by
 intro pins s σ H Q I h;refine wpAny_Call_Name_kw (ld_glob I hg hm ?_ hdb);exact PySem.W.callWith_K0 I.kIn hk (run_fn (us:=[]) F hr hb hd hx I .nil h)
end
section
variable {X:Cx}{CX:CXT}{k:Nat}{f C:Addr}{fd:FuncData}{ps ks:List Str}{sp:Sp}{E:XK}{x m:Str}{p pos apos kpos:Pos}{e o:Expr}{es:List Expr}{kws:List Keyword}{te ta:TE}{t tk:TA}{nm:Option Str}
variable {g:List Value→List Value→List Value}{gV:List V→List V→List V}
end
structure FnScope (N P:List Str)(sc:Scope):Prop where
 kind:sc.kind=.function
 co:sc.isCoroutine=false
 gen:sc.isGenerator=false
 nd:N.Nodup
 pre:N.take P.length=P
 par:∀ x∈P,sc.names.lookup x=some .local∨sc.names.lookup x=some .cell
 nofree:∀ y∈sc.names,y.2≠.free
theorem bindL_out {kindOf:Str→Option NameKind}{x:Str}:∀ {binds:List (Str×Value)} {m:Str→Option Value},(∀ v,(x,v)∉binds)→bindL kindOf binds m x=m x
 | [],_,_=>rfl
 | (n,v)::r,m,h=>by
  unfold bindL;rw[bindL_out fun w hw=>h w (List.mem_cons_of_mem _ hw)];split
  ·have:x≠n:=by rintro rfl;exact h v List.mem_cons_self
   simp[this]
  ·rfl
theorem bindC_out {kindOf:Str→Option NameKind}{x:Str}:∀ {binds:List (Str×Value)} {m:Str→Option Value},(∀ v,(x,v)∉binds)→bindC kindOf binds m x=m x
 | [],_,_=>rfl
 | (n,v)::r,m,h=>by
  unfold bindC;rw[bindC_out fun w hw=>h w (List.mem_cons_of_mem _ hw)];split
  ·rfl
  ·have:x≠n:=by rintro rfl;exact h v List.mem_cons_self
   simp[this]
theorem bindL_get {kindOf:Str→Option NameKind}{x:Str}{v:Value}:∀ {P:List Str} {vs:List Value} {i:Nat} {m:Str→Option Value},P.Nodup→P[i]?=some x→vs[i]?=some v→kindOf x=some .local →
  bindL kindOf (P.zip vs) m x=some v
 | [],_,_,_,_,h,_,_=>by simp at h
 | _::_,[],_,_,_,_,h,_=>by simp at h
 | p::P,w::vs,0,m,nd,h1,h2,hk=>by
  simp at h1 h2;subst h1;subst h2;show bindL kindOf ((p,w)::P.zip vs) m p=_;unfold bindL;rw[bindL_out fun v hv=>(List.nodup_cons.mp nd).1 (List.of_mem_zip hv).1,if_pos hk];simp
 | p::P,w::vs,i+1,m,nd,h1,h2,hk=>by
  show bindL kindOf ((p,w)::P.zip vs) m x=_;unfold bindL;exact bindL_get (i:=i) (List.nodup_cons.mp nd).2 (by simpa using h1) (by simpa using h2) hk
theorem bindC_get {kindOf:Str→Option NameKind}{x:Str}{v:Value}:∀ {P:List Str} {vs:List Value} {i:Nat} {m:Str→Option Value},P.Nodup→P[i]?=some x→vs[i]?=some v→kindOf x≠some .local →
  bindC kindOf (P.zip vs) m x=some v
 | [],_,_,_,_,h,_,_=>by simp at h
 | _::_,[],_,_,_,_,h,_=>by simp at h
 | p::P,w::vs,0,m,nd,h1,h2,hk=>by
  simp at h1 h2;subst h1;subst h2;show bindC kindOf ((p,w)::P.zip vs) m p=_;unfold bindC;rw[bindC_out fun v hv=>(List.nodup_cons.mp nd).1 (List.of_mem_zip hv).1,if_neg hk];simp
 | p::P,w::vs,i+1,m,nd,h1,h2,hk=>by
  show bindC kindOf ((p,w)::P.zip vs) m x=_;unfold bindC;exact bindC_get (i:=i) (List.nodup_cons.mp nd).2 (by simpa using h1) (by simpa using h2) hk
def start (N:List Str)(vs:List V):St:=vs.map some++List.replicate (N.length-vs.length) none
def cxOf (CX:CXT)(P:Program)(w:World)(K:PySem.W.Frag)(mg:Str→Option Value)(base:Heap)(N:List Str)(qual:Str)(scope:Scope)(f:Addr)(cd:Value)(A:Around)(outer:List Env)(s:Shared)(H:Hp)(E:XK):Cx where
 prog:=P
 w:=w
 K:=K
 mg:=mg
 base:=base
 A:=A.deeper (envOfC qual scope s.heap.objs.size f cd)
 N:=N
 s₀:=s
 H₀:=H
 env:=envOfC qual scope s.heap.objs.size f cd
 outer:=outer
 stack:=envOfC qual scope s.heap.objs.size f cd::outer
 ex:=[]
 calm:=true
 fn:=fun _=>true
 pn:=[]
 xe:=fun e s'=>wpAny (model P w) (A.deeper (envOfC qual scope s.heap.objs.size f cd)) (leaving (envOfC qual scope s.heap.objs.size f cd) e) (fun _ s''=>CX outer H s E e s'') (fun e' s''=>CX outer H s E e' s'') s'
theorem cell_has {sc:Scope}{n:Nat}{x:Str}(h:sc.names.lookup x=some .cell):∃ c,(cellsFrom n sc.names []).lookup x=some c:=by
 have q:=PySem.W.cellsFrom_some sc.names n [] (.inl h);exact Option.isSome_iff_exists.mp q
theorem inv_start {CX:CXT}{P:Program}{w:World}{K:PySem.W.Frag}{mg:Str→Option Value}{base:Heap}{N ps:List Str}{qual:Str}{scope:Scope}{f:Addr}{cd:Value}{A:Around}{outer:List Env}{s s1:Shared}{H:Hp}{E:XK}{us:List Value}{vs:List V}
  (S:FnScope N ps scope) (hd:A.handled=none) (e0:Env0 P w K mg base A outer s H) (hl:vs.length=ps.length) (r:Vals vs us)
  (x:InCallC s s.heap.objs.size (bindL (envOfC qual scope s.heap.objs.size f cd).kindOf (ps.zip us) fun _=>none) (cellsFrom (s.heap.objs.size+1) scope.names []) (bindC (envOfC qual scope s.heap.objs.size f cd).kindOf (ps.zip us) fun _=>none) s1) :
  Inv (cxOf CX P w K mg base N qual scope f cd A outer s H E) [] (start N vs) H s1:=by
 have hpl:ps.length≤N.length:=by have:=congrArg List.length S.pre;rw[List.length_take] at this;omega
 obtain⟨h1,tk,rfl,hk⟩:=x.done;have noA:∀ b:Addr,b∉(cxOf CX P w K mg base N qual scope f cd A outer s H E).ex:=fun b z=>absurd (show b∈([]:List Addr) from z) (by simp)
 refine⟨⟨e0.mod,S.kind,rfl,rfl,Nat.le_refl _,fun y z c h1 h2=>?_,fun y hy=>?_,fun y c _ h=>?_,fun _=>hd,Around.frames_deeper e0.frames,.inr ⟨rfl,rfl⟩,fun b z=>absurd z (noA b),e0.bs,e0.bsz,fun b _ _=>noA b,fun b z=>absurd z (noA b),e0.funs,e0.frf⟩,
  rfl,e0.bare,Un.kept hk,⟨_,x.toInCall.ns,fun i y v h1 h2 h3=>?_⟩,fun y c h=>⟨_,x.cell y c h⟩,e0.hok.fresh (Nat.le_refl _),fun y c h=>?_,fun p hp=>absurd (show p∈([]:List (Addr×Obj)) from hp) (by simp),e0.hok.kept hk,?_⟩
 ·exact name_of_addr x.apart (PySem.mem_of_lookup h1) (PySem.mem_of_lookup h2)
 ·have hy:scope.names.lookup y=some .cell∨scope.names.lookup y=some .free:=hy;rcases hy with hy | hy
  ·exact cell_has hy
  ·exact absurd rfl (S.nofree _ (PySem.mem_of_lookup hy))
 ·exact Nat.le_of_lt (x.above y c (PySem.mem_of_lookup h))
 ·have hi:i<vs.length:=by
   unfold start at h2;by_cases hi:i<vs.length
   ·exact hi
   ·rw[List.getElem?_append_right (by simpa using hi)] at h2;rw[List.getElem?_replicate] at h2;split at h2<;>cases h2
  have ha:vs[i]?=some v:=by
   unfold start at h2;rw[List.getElem?_append_left (by simpa using hi),List.getElem?_map] at h2;cases e:vs[i]? with
   | none=>rw[e] at h2;cases h2
   | some a=>rw[e] at h2;cases h2;rfl
  obtain⟨u,hu,rv⟩:=r.get ha;have hp:ps[i]?=some y:=by
   rw[← S.pre,List.getElem?_take_of_lt (by omega)];exact h1
  have ndP:ps.Nodup:=by rw[← S.pre];exact S.nd.sublist (List.take_sublist _ _)
  refine⟨u,rv,?_⟩;rcases S.par y (List.mem_of_getElem? hp) with k | k
  ·exact .inl ⟨k,bindL_get ndP hp hu k⟩
  ·obtain⟨c,e⟩:=cell_has (n:=s.heap.objs.size+1) k;refine .inr ⟨.inl k,c,e,?_⟩;have q:=x.cell y c e;rw[bindC_get ndP hp hu (by show scope.names.lookup y≠_;rw[k];decide)] at q;exact q
 ·exact e0.hok.fresh (Nat.le_of_lt (x.above y c (PySem.mem_of_lookup h)))
 ·unfold start;show _=N.length;rw[List.length_append,List.length_map,List.length_replicate];omega
theorem fn_of {CX:CXT}{P:Program}{w:World}{K:PySem.W.Frag}{mg:Str→Option Value}{base:Heap}{k:Nat}{f:Addr}{name qual:Str}{params:Arguments}{body:List Stmt}{scope:Scope}{dV kV doc pm cdv ct oc:Value}{an od:Option Addr}
  {osl:Array (Option Value)} {N ps:List Str} {sp:Sp} (lk:K.lookup f=some ⟨oc,od,.func (PySem.W.fnOf name qual params body scope dV kV doc pm an cdv ct),osl⟩) (hcd:PySem.W.codeIn K cdv qual=true) (S:FnScope N ps scope)
  (len:∀ vs H Q E,sp vs H Q E→vs.length=ps.length)
  (hbody:∀ (A:Around) (outer:List Env) (s:Shared) (H:Hp) (vs:List V) (Q:VK) (E:XK),Room k (A.deeper (envOfC qual scope s.heap.objs.size f cdv))→sp vs H Q E →
   ∃ t,PSs (cxOf CX P w K mg base N qual scope f cdv A outer s H E) body t∧t {nx:=fun _ H'=>Q .non H',rt:=Q} (start N vs) H) :
  FnOk P w K mg base CX (k+1) f (PySem.W.fnOf name qual params body scope dV kV doc pm an cdv ct) ps sp:=by
 refine⟨len,fun A outer s H args us vs Q E hr e0 hb r hsp=>?_⟩;have hl:=len _ _ _ _ hsp;have KX:K.In s.heap:=e0.mod.kin.keeps fun b o e=>(e0.bs b o e).1
 have lim:s.heap.NoLimit:=e0.mod.nolimit.keeps fun b o e=>(e0.bs b o e).1
 have hkind:∀ y∈ps.zip us,scope.names.lookup y.1=some .local∨(scope.names.lookup y.1=some .cell∧((cellsFrom (s.heap.objs.size+1) scope.names []).lookup y.1).isSome=true):=fun ⟨n,v⟩ hy=>by
  rcases S.par n (List.of_mem_zip hy).1 with q | q
  ·exact .inl q
  ·exact .inr ⟨q,PySem.W.cellsFrom_some _ _ _ (.inl q)⟩
 refine codeAny_call_function hr.depth (KX _ _ lk) rfl S.co S.gen rfl (PySem.W.codeRec_of KX hcd) (hb _ _ _ _ ?_);refine wpAny_newFunctionEnv_cells S.kind hkind fun env he s1 x=>?_
 subst he;refine⟨lim.keeps x.toInCall.keep,codeAny_func ?_⟩;obtain⟨t,ht,hq⟩:=hbody A outer s H vs Q E (hr.deeper _) hsp;have I:Inv (cxOf CX P w K mg base N qual scope f cdv A outer s H E) [] (start N vs) H s1:=inv_start S hr.hd e0 hl r x;refine wpAny_mono (ht [] s1 (start N vs) H _ I hq) (fun fl s' hs=>?_) fun e s' hs=>hs
 have fin:∀ {σ':St} {H':Hp} {v:V} {u:Value},Inv (cxOf CX P w K mg base N qual scope f cdv A outer s H E) [] σ' H' s'→RelV v u→Q v H'→CE outer P w H s Q u s' :=
  fun {σ' H' v u} J rv q=>⟨v,H',J.os,J.bare,J.base,J.hok,rv,q⟩
 cases fl with
 | ret u =>
  obtain⟨v,σ',H',J,rv,q⟩:=hs;exact fin J rv q
 | next =>
  obtain⟨σ',H',J,q⟩:=hs;exact fin (v:=V.non) (u:=Value.none) J rfl q
 | brk =>
  obtain⟨_,_,_,q⟩:=hs;exact False.elim q
 | cont =>
  obtain⟨_,_,_,q⟩:=hs;exact False.elim q
end L2
namespace L2
open PySem PySem.Spec PyProof.Rows
section
variable {X:Cx}{x:Str}{p pos:Pos}{e:Expr}{es:List Expr}{t:TA}{id T:String}{r:List V→Hp→VK→Prop}
def tCB (r:List V→Hp→VK→Prop)(t:TA):TE:=fun σ H Q=>t σ H fun vs H1=>r vs H1 Q
theorem pe_callB (hc:CallR X (.builtin id) r)(hg:Gl X x)(hm:X.mg x=none)(hv:bootBuiltins x=some (.builtin id))(ha:PA X (e::es) t)(hn:x≠"__name__":=by decide)(hdb:(x == ("__debug__":Str))=false:=by decide)
  (he:starEach (e::es) X.env=(false,eval e X.env)::starEach es X.env:=by rfl) (hpl:(backTo pos (starEach es X.env)).any (·.1)=false:=by rfl):PE X (.Call (.Name x p) (e::es) [] pos) (tCB r t):=by
 intro pins s σ H Q I h;refine wpAny_Call_Name_kw (ld_blt I hg hm hv ?_ hn hdb);exact PyProof.Rows.callWith_builtin1 (thn (ha pos pins s σ H _ I h) fun us s1 ⟨vs,H1,I1,r1,q1⟩=>hc pins s1 σ H1 vs us Q I1 r1 q1) he hpl
theorem pe_callTy (hc:CallR X (.type T) r)(hg:Gl X x)(hm:X.mg x=none)(hv:bootBuiltins x=some (.type T))(ha:PA X (e::es) t)(hn:x≠"__name__":=by decide)(hdb:(x == ("__debug__":Str))=false:=by decide)
  (he:starEach (e::es) X.env=(false,eval e X.env)::starEach es X.env:=by rfl) (hpl:(backTo pos (starEach es X.env)).any (·.1)=false:=by rfl):PE X (.Call (.Name x p) (e::es) [] pos) (tCB r t):=by
 intro pins s σ H Q I h;refine wpAny_Call_Name_kw (ld_blt I hg hm hv ?_ hn hdb);exact PyProof.Rows.callWith_type1 (thn (ha pos pins s σ H _ I h) fun us s1 ⟨vs,H1,I1,r1,q1⟩=>hc pins s1 σ H1 vs us Q I1 r1 q1) he hpl
end
end L2
namespace HT
open PySem PyProof.Rows
def lexLt:List Int→List Int→Bool
 | [],[]=>false
 | [],_::_=>true
 | _::_,[]=>false
 | x::xs,y::ys=>if x=y then lexLt xs ys else decide (x<y)
theorem lexLt_cons (x y:Int)(xs ys:List Int):lexLt (x::xs) (y::ys)=if x=y then lexLt xs ys else decide (x<y):=rfl
section
open PySem.SeqAt
open PySem.AutoSeq1 (wpAny_loadPart')
open PySem.MeetsSeq PySem.MeetsSeq2 PySem.MeetsSeq3
end
section
variable {prog:Program}{w:World}{A:Around}{E:Value→Shared→Prop}{s:Shared}
theorem cat_tup {t b:Addr}{vs ws:List Value}{Q:Value→Shared→Prop}(ht:IsTup s.heap t vs.toArray)(hb:IsTup s.heap b ws.toArray)(hv:vs≠[])
  (h1:ws=[]→Q (.ref t) s) (h2:ws≠[]→Q (.ref s.heap.objs.size) {s with heap:=s.heap.push {cls:=.type "tuple",data:=.seq (vs++ws).toArray}})
  (hsz:vs.length+ws.length≤sizeLine):wpAny (model prog w) A (binaryOp .Add (.ref t) (.ref b)) Q E s:=by
 obtain⟨⟨cls,dd,data,sl⟩,ho,hc,n,hd⟩:=id ht;obtain⟨⟨cls2,dd2,data2,sl2⟩,ho2,hc2,n2,hd2⟩:=id hb;simp only at hc hd hc2 hd2;subst hc hd hc2 hd2;have e:vs.toArray++ws.toArray=(vs++ws).toArray:=by simp
 by_cases hw:ws=[]
 ·exact concat_meets ⟨_,ho,rfl⟩ ⟨_,ho2,rfl⟩ noFill_tuple_add seq_tuple_add PySem.F.slot_tuple_add PySem.F.entry_tuple_add (PySem.F.args_tuple_add_2 _ _)
   (tuple_addW1 t b vs.toArray ws.toArray n n2 dd dd2 sl sl2 (by simpa using hv) (by simp[hw])) ⟨ho,ho2,h1 hw⟩
 ·refine concat_meets ⟨_,ho,rfl⟩ ⟨_,ho2,rfl⟩ noFill_tuple_add seq_tuple_add PySem.F.slot_tuple_add PySem.F.entry_tuple_add (PySem.F.args_tuple_add_2 _ _)
   (tuple_addW2 t b vs.toArray ws.toArray n n2 dd dd2 sl sl2 (by simpa using hv) (by simpa using hw) (by rw[List.size_toArray,List.size_toArray];exact hsz)) ⟨ho,ho2,?_⟩
  rw[e];exact h2 hw
def sIx (n d:Nat):Option Int→Nat
 | none=>d
 | some v=>if v<0 then (v+(n:Int)).toNat else min v.toNat n
theorem sIx_none (n d:Nat):sIx n d none=d:=rfl
theorem sIx_nat (n d k:Nat):sIx n d (some (k:Int))=min k n:=by
 show (if (k:Int)<0 then ((k:Int)+(n:Int)).toNat else min (k:Int).toNat n)=min k n;rw[if_neg (by omega),Int.toNat_natCast]
theorem sIx_le (n d:Nat)(hd:d≤n)(o:Option Int):sIx n d o≤n:=by
 cases o with
 | none=>exact hd
 | some v =>
  show (if v<0 then (v+(n:Int)).toNat else min v.toNat n)≤n;by_cases hv:v<0
  ·rw[if_pos hv];omega
  ·rw[if_neg hv];exact Nat.min_le_right _ _
theorem clip_eq (v:Int)(n d:Nat):(if v<0 then max (v+(n:Int)) 0 else min v (n:Int))=((sIx n d (some v):Nat):Int):=by
 show (if v<0 then max (v+(n:Int)) 0 else min v (n:Int))=(((if v<0 then (v+(n:Int)).toNat else min v.toNat n):Nat):Int)
 by_cases hv:v<0
 ·simp only[if_pos hv];omega
 ·simp only[if_neg hv];omega
theorem adjust_gen (lo hi:Option Int)(n:Nat):Builtin.Slice.sliceAdjust lo hi 1 (n:Int)=(((sIx n 0 lo:Nat):Int),((sIx n n hi:Nat):Int)):=by
 have h1:¬ ((1:Int)<0):=by omega
 unfold Builtin.Slice.sliceAdjust;simp only[h1,if_false];refine Prod.ext ?_ ?_
 ·cases lo with
  | none=>rfl
  | some v=>exact clip_eq v n 0
 ·cases hi with
  | none=>rfl
  | some v=>exact clip_eq v n n
theorem places_gen (i j:Nat):Builtin.Slice.slicePlaces (i:Int) (j:Int) 1=j-i:=by
 unfold Builtin.Slice.slicePlaces;have h1:(1:Int)>0:=by omega
 simp only[h1,if_true,Int.ediv_one];split<;>omega
theorem slicePart_ {v:Value}{o:Option Int}{Q:Option Int→Shared→Prop}(p:IsPart v o)(h:Q o s):wpAny (model prog w) A (Builtin.Slice.slicePartIndex v) Q E s:=by
 cases p with
 | none=>exact slicePart_none h
 | int i t=>exact slicePart_int h
theorem sliceApplied_gen {sl:Addr}{vl vu:Value}{lo hi:Option Int}{n:Nat}{Q:Int×Int×Nat→Shared→Prop}(hs:s.heap.IsSliceOf sl vl vu .none)(pl:IsPart vl lo)(pu:IsPart vu hi)
  (h:Q (((sIx n 0 lo:Nat):Int),1,sIx n n hi-sIx n 0 lo) s):wpAny (model prog w) A (Builtin.Slice.sliceApplied (.ref sl) (pure (n:Int))) Q E s:=by
 obtain⟨os,hos,hcs,hds⟩:=id hs;unfold Builtin.Slice.sliceApplied Builtin.Slice.sliceFields;refine wpAny_bind (wpAny_bind (wpAny_field hos hds (x:=vl) rfl (wpAny_bind (wpAny_field hos hds (x:=vu) rfl (wpAny_bind (wpAny_field hos hds (x:=.none) rfl (wpAny_pure ?_)))))));refine wpAny_bind (slicePart_none ?_);show wpAny _ _ (if ((1:Int) == 0)=true then _ else _) _ _ s;rw[if_neg (by decide)];refine wpAny_bind (slicePart_ pl (wpAny_bind (slicePart_ pu (wpAny_bind (wpAny_pure ?_)))));show wpAny _ _ (match Builtin.Slice.sliceAdjust lo hi 1 (n:Int) with | (lo,hi)=>pure (lo,(1:Int),Builtin.Slice.slicePlaces lo hi 1)) _ _ s;rw[adjust_gen lo hi n];show wpAny _ _ (pure (((sIx n 0 lo:Nat):Int),(1:Int),Builtin.Slice.slicePlaces ((sIx n 0 lo:Nat):Int) ((sIx n n hi:Nat):Int) 1)) _ _ s;rw[places_gen];exact wpAny_pure h
theorem pick_gen (xs:Array Value)(i k:Nat):((List.range k).filterMap fun (m:Nat)=>xs[((i:Int)+(m:Int)*1).toNat]?).toArray=((xs.toList.drop i).take k).toArray:=by
 have e:(fun (m:Nat)=>xs[((i:Int)+(m:Int)*1).toNat]?)=fun m=>xs[i+m]?:=by
  funext m;have:((i:Int)+(m:Int)*1).toNat=i+m:=by omega
  rw[this]
 rw[e];have:=pick_run xs i k;rw[List.filterMap_map] at this;have e2:((fun x=>xs[x]?) ∘ fun x=>i+x)=fun m=>xs[i+m]?:=rfl
 rw[e2] at this;rw[this]
theorem getItem_tuple_cut {t sl:Addr}{items:Array Value}{vl vu:Value}{lo hi:Option Int}{Q:Value→Shared→Prop}(ht:IsTup s.heap t items)(hs:s.heap.IsSliceOf sl vl vu .none)(pl:IsPart vl lo)(pu:IsPart vu hi)
  (hw:¬ (sIx items.size 0 lo=0∧sIx items.size items.size hi=items.size))
  (h:Q (.ref s.heap.objs.size) {s with heap:=s.heap.push {cls:=.type "tuple",data:=.seq ((items.toList.drop (sIx items.size 0 lo)).take (sIx items.size items.size hi-sIx items.size 0 lo)).toArray}})
  (hsz:items.size≤sizeLine):wpAny (model prog w) A (getItem (.ref t) (.ref sl)) Q E s:=by
 have htake:sizeOk (.seq ((items.toList.drop (sIx items.size 0 lo)).take (sIx items.size items.size hi-sIx items.size 0 lo)).toArray):=by
  show ((items.toList.drop (sIx items.size 0 lo)).take (sIx items.size items.size hi-sIx items.size 0 lo)).toArray.size≤sizeLine;rw[List.size_toArray,List.length_take,List.length_drop,Array.length_toList];omega
 have hj:sIx items.size items.size hi≤items.size:=sIx_le _ _ (Nat.le_refl _) hi;obtain⟨os,hos,hcs,hds⟩:=id hs;have hTs:s.TypeIs (.ref sl) "slice":=⟨os,hos,hcs⟩
 unfold getItem;try with_reducible refine wpAny_holding ?_
 first | refine wpAny_bind (wpAny_pure ?_) | skip
 refine wpAny_bind (wpAny_sequenceKey ht.typeIs (by decide) ?_)
 refine wpAny_bind (wpAny_callSpecial?_slot (name:=Str.ofString "__getitem__") ht.typeIs PyProof.Rows.slot_tuple_getitem
  (wpAny_call_entry PyProof.Rows.slot_tuple_getitem ht.typeIs entry_tuple_getitem ?_ (args_tuple_getitem _ _)))
 show wpAny _ _ (Builtin.Tuple.tupleItemsOf (.ref t) >>= _) _ _ s;refine wpAny_bind (tupleItemsOf_ ht ?_);refine wpAny_bind (wpAny_typeOf hTs ?_);rw[if_pos (by decide)];refine wpAny_bind (sliceApplied_gen hs pl pu ?_);have hno:¬ ((((sIx items.size 0 lo:Nat):Int) == 0 && (1:Int) == 1 && (sIx items.size items.size hi-sIx items.size 0 lo) == items.size)=true):=by
  intro q;rw[Bool.and_eq_true,Bool.and_eq_true] at q;have q1:((sIx items.size 0 lo:Nat):Int)=0:=eq_of_beq q.1.1;have q2:sIx items.size items.size hi-sIx items.size 0 lo=items.size:=eq_of_beq q.2;exact hw ⟨by omega,by omega⟩
 show wpAny _ _ (if (((sIx items.size 0 lo:Nat):Int) == 0 && (1:Int) == 1 && (sIx items.size items.size hi-sIx items.size 0 lo) == items.size)=true then _ else _) _ _ s;rw[if_neg hno,pick_gen];first
  | exact wpAny_bind (m:=Builtin.Tuple.tupleExact _) (wpAny_newObj_type (wpAny_pure ⟨_,rfl,wpAny_pure h⟩) htake)
  | exact wpAny_bind (m:=Builtin.Tuple.tupleExact _) (wpAny_newObj_type (wpAny_bind (wpAny_pure (wpAny_pure ⟨_,rfl,wpAny_pure h⟩))) htake)
  | exact wpAny_bind (wpAny_bind (m:=Builtin.Tuple.tupleExact _) (wpAny_newObj_type (wpAny_pure (wpAny_pure ⟨_,rfl,wpAny_pure h⟩)) htake))
  | exact wpAny_bind (wpAny_bind (m:=Builtin.Tuple.tupleExact _) (wpAny_newObj_type (wpAny_pure ⟨_,rfl,wpAny_pure h⟩) htake))
end
end HT
namespace L2
open PySem PySem.Spec PyProof.Rows
abbrev TO:=St→Hp→(Option Int→Hp→Prop)→Prop
def PO (X:Cx)(e:Option Expr)(t:TO):Prop :=
 ∀ (pins:List (Addr×Obj)) (s:Shared) (σ:St) (H:Hp) (Q:Option Int→Hp→Prop),Inv X pins σ H s→t σ H Q →
  wpAny (model X.prog X.w) X.A (evalPart e X.env) (fun u s'=>∃ o H',Inv X pins σ H' s'∧IsPart u o∧Q o H') X.xe s
def tNoPart:TO:=fun _ H Q=>Q none H
def tPart (t:TE):TO:=fun σ H Q=>t σ H fun x H1=>∃ i,x=.int i∧Q (some i) H1
theorem intsAre_of {ns:List Int}:∀ {us:List Value},Vals (ns.map V.int) us→IntsAre us ns:=by
 induction ns with
 | nil=>intro us r;rw[List.map_nil] at r;cases r;exact .nil
 | cons n ns ih =>
  intro us r;rw[List.map_cons] at r;cases r with
  | cons r1 r2 =>
   obtain⟨t,e⟩:=r1;subst e;exact .cons n t (ih r2)
section
variable {X:Cx}{e:Expr}{te:TE}{lo hi:Option Expr}{tl th:TO}{pos p2:Pos}
theorem po_none:PO X none tNoPart:=by
 intro pins s σ H Q I h;rw[evalPart_none];exact wpAny_pure ⟨none,H,I,.none,h⟩
theorem po_some (h:PE X e te):PO X (some e) (tPart te):=by
 intro pins s σ H Q I hw;rw[evalPart_some];refine thn (h pins s σ H _ I hw) fun u s1 ⟨x,H1,I1,r1,q1⟩=>?_
 obtain⟨i,rfl,q⟩:=q1;obtain⟨t,rfl⟩:=r1;exact⟨some i,H1,I1,.int i t,q⟩
def SlR (X:Cx)(r:V→Option Int→Option Int→Hp→VK→Prop):Prop :=
 ∀ (pins:List (Addr×Obj)) (s:Shared) (σ:St) (H:Hp) (x:V) (v vl vu:Value) (lo hi:Option Int) (sl:Addr) (Q:VK),Inv X pins σ H s→RelV x v→s.heap.IsSliceOf sl vl vu .none→IsPart vl lo→IsPart vu hi→r x lo hi H Q →
  ∃ T id,typeLookup (.type T) "__getitem__"=pure (some (.builtin id))∧s.TypeIs v T∧wpAny (model X.prog X.w) X.A (getItem v (.ref sl)) (EP X pins σ Q) X.xe s
def tSl (r:V→Option Int→Option Int→Hp→VK→Prop)(te:TE)(tl th:TO):TE:=fun σ H Q=>te σ H fun x H1=>tl σ H1 fun l H2=>th σ H2 fun u H3=>r x l u H3 Q
theorem pe_slice {r:V→Option Int→Option Int→Hp→VK→Prop}(hr:SlR X r)(he:PE X e te)(hl:PO X lo tl)(hu:PO X hi th):PE X (.Subscript e (.Slice lo hi none p2) pos) (tSl r te tl th):=by
 intro pins s σ H Q I h;refine Subscript_ (thn (he pins s σ H _ I h) fun v s1 ⟨x,H1,I1,r1,q1⟩=>?_);refine wpAny_Slice (thn (hl pins s1 σ H1 _ I1 q1) fun vl s2 ⟨l,H2,I2,pl,q2⟩=>thn (hu pins s2 σ H2 _ I2 q2) fun vu s3 ⟨u,H3,I3,pu,q3⟩=>?_);rw[evalPart_none];refine wpAny_pure ?_;have I4:Inv X pins σ H3 {s3 with heap:=s3.heap.push {cls:=.type "slice",data:=.fields #[vl,vu,.none]}}:=I3.kept (t':=s3.toks) fun b ob q=>Heap.get?_push_of_some _ q
 obtain⟨T,id,hT,ht,hg⟩:=hr pins {s3 with heap:=s3.heap.push {cls:=.type "slice",data:=.fields #[vl,vu,.none]}} σ H3 x v vl vu l u s3.heap.objs.size Q I4 r1 (Heap.IsSliceOf.new ..) pl pu q3;show wpAny (model X.prog X.w) X.A (subscriptTail e (.Slice lo hi none p2) v (.ref s3.heap.objs.size)) (EP X pins σ Q) X.xe {s3 with heap:=s3.heap.push {cls:=.type "slice",data:=.fields #[vl,vu,.none]}};exact tail_any (ops:=[.ref s3.heap.objs.size,v]) ht hT hg (by with_unfolding_all rfl)
def cutV (xs:List V)(lo hi:Option Int):List V:=(xs.drop (HT.sIx xs.length 0 lo)).take (HT.sIx xs.length xs.length hi-HT.sIx xs.length 0 lo)
theorem cutV_length (xs:List V)(lo hi:Option Int):(cutV xs lo hi).length≤xs.length:=by
 unfold cutV;rw[List.length_take,List.length_drop];omega
def rSlT (K:PySem.W.Frag):V→Option Int→Option Int→Hp→VK→Prop:=fun x lo hi H Q=>∃ a xs,x=.ref a∧SqT K H a xs ∧
 ¬ (HT.sIx xs.length 0 lo=0∧HT.sIx xs.length xs.length hi=xs.length)∧∀ p,H p=none→Q (.ref p) (upd H p (.tup (cutV xs lo hi)))
theorem sl_tup:SlR X (rSlT X.K):=by
 intro pins s σ H x v vl vu lo hi sl Q I rx hs pl pu h;obtain⟨a,xs,rfl,hx,hw,q⟩:=h;cases rx;obtain⟨its,r,ht,hz⟩:=I.tuple hx;have hlen:its.toArray.size=xs.length:=by rw[List.size_toArray];exact r.length.symm
 refine⟨"tuple",_,PyProof.Rows.slot_tuple_getitem.lookup,ht.typeIs,?_⟩;refine HT.getItem_tuple_cut ht hs pl pu (by rw[hlen];exact hw) ?_ (by rw[hlen];exact hz);rw[hlen];refine⟨.ref s.heap.objs.size,_,I.laid (t':=s.toks) (o:=.tup (cutV xs lo hi)) (fun b ob q=>Heap.get?_push_of_some _ q) (Nat.le_refl _) ?_,rfl,q _ (I.hok.fresh (Nat.le_refl _))⟩;exact⟨Nat.le_trans (cutV_length xs lo hi) hz,_,(r.drop (HT.sIx xs.length 0 lo)).take (HT.sIx xs.length xs.length hi-HT.sIx xs.length 0 lo),IsTup.new _ _⟩
theorem Vals.nil_iff {xs:List V}{us:List Value}(r:Vals xs us):us=[]↔xs=[]:=by
 cases r with
 | nil=>simp
 | cons _ _=>simp
end
end L2
namespace L2
open PySem PySem.Spec PyProof.Rows
def ixN (n:Nat)(i:Int):Option Nat:=if 0≤i then (if i<n then some i.toNat else none) else if -(n:Int)≤i then some (i+n).toNat else none
def atI {α:Type}(xs:List α)(i:Int):Option α:=(ixN xs.length i).bind fun j=>xs[j]?
theorem ixN_seq {n:Nat}{i:Int}{j:Nat}(h:ixN n i=some j):seqIndex? i n=some j∧j<n∧-(n:Int)≤i∧i<n:=by
 unfold ixN at h;by_cases h0:0≤i
 ·rw[if_pos h0] at h;by_cases h1:i<n
  ·rw[if_pos h1] at h;have e:i.toNat=j:=Option.some.inj h;exact⟨by rw[seqIndex_of h0 h1,e],by omega,by omega,h1⟩
  ·rw[if_neg h1] at h;cases h
 ·rw[if_neg h0] at h;by_cases h1:-(n:Int)≤i
  ·rw[if_pos h1] at h;have e:(i+n).toNat=j:=Option.some.inj h;exact⟨by rw[seqIndex_neg (by omega) h1,e],by omega,h1,by omega⟩
  ·rw[if_neg h1] at h;cases h
theorem atI_get {α:Type}{xs:List α}{i:Int}{v:α}(h:atI xs i=some v):∃ j,seqIndex? i xs.length=some j∧xs[j]?=some v∧j<xs.length∧-(xs.length:Int)≤i∧i<xs.length:=by
 unfold atI at h;cases e:ixN xs.length i with
 | none=>rw[e] at h;cases h
 | some j =>
  rw[e] at h;obtain⟨h1,h2,h3,h4⟩:=ixN_seq e;exact⟨j,h1,h,h2,h3,h4⟩
theorem atI_nat {α:Type}{xs:List α}{j:Nat}{v:α}(h:xs[j]?=some v):atI xs (j:Int)=some v:=by
 have hj:j<xs.length:=(List.getElem?_eq_some_iff.mp h).1;have e:ixN xs.length (j:Int)=some j:=by
  unfold ixN;rw[if_pos (by omega),if_pos (by omega)];simp
 unfold atI;rw[e];exact h
def PlainIx (b:Expr):Prop:=∀ o i,subscripted b false o i=operate [o,i] (getItem o i)
def IxR (X:Cx)(r:R2):Prop :=
 ∀ (value slice:Expr) (pins:List (Addr×Obj)) (s:Shared) (σ:St) (H:Hp) (x y:V) (v u:Value) (Q:VK),Inv X pins σ H s→RelV x v→RelV y u→r x y H Q →
  subscripted slice false v u=operate [v,u] (getItem v u)→wpAny (model X.prog X.w) X.A (subscriptTail value slice v u) (EP X pins σ Q) X.xe s
def MtR (X:Cx)(id:String)(r:V→List V→Hp→VK→Prop):Prop :=
 ∀ (pins:List (Addr×Obj)) (s:Shared) (σ:St) (H:Hp) (x:V) (xs:List V) (v:Value) (us:List Value) (Q:VK),Inv X pins σ H s→RelV x v→Vals xs us→r x xs H Q →
  wpAny (model X.prog X.w) X.A (call (.builtin id) (v::us)) (EP X pins σ Q) X.xe s
section
variable {X:Cx}{a b:Expr}{ta tb:TE}{pos:Pos}
theorem pe_ix {r:R2}(hr:IxR X r)(ha:PE X a ta)(hb:PE X b tb)(hs:PlainIx b):PE X (.Subscript a b pos) (tOp r ta tb):=by
 intro pins s σ H Q I h;exact Subscript_ (binT ha hb I h fun v u s2 x y H2 I2 rx ry q=>hr a b pins s2 σ H2 x y v u Q I2 rx ry q (hs _ _))
def rIxL (K:PySem.W.Frag):R2:=fun x y H Q=>∃ p xs i v,x=.ref p∧y=.int i∧SqL K H p xs∧atI xs i=some v∧Q v H
def rIxT (K:PySem.W.Frag):R2:=fun x y H Q=>∃ p xs i v,x=.ref p∧y=.int i∧SqT K H p xs∧atI xs i=some v∧Q v H
theorem ix_list:IxR X (rIxL X.K):=by
 intro value slice pins s σ H x y v u Q I rx ry h hs;obtain⟨p,xs,i,z,rfl,rfl,hq,he,q⟩:=h;cases rx;obtain⟨t,rfl⟩:=ry;obtain⟨its,r,pl,hz⟩:=I.list hq;obtain⟨j,h1,h2,h3,h4,h5⟩:=atI_get he;obtain⟨w,ew,rw'⟩:=r.get h2;have hl:=r.length;have hn:=line63;have fin:EP X pins σ Q w s:=⟨z,H,I,rw',q⟩
 by_cases h0:0≤i
 ·have hj:i.toNat=j:=by
   rw[seqIndex_of h0 h5] at h1;exact Option.some.inj h1
  exact item_listR pl.isList h0 (by omega) (by rw[hj];simpa using ew) fin hs
 ·have hj:(i+(its.toArray.size:Int)).toNat=j:=by
   rw[seqIndex_neg (by omega) h4] at h1;rw[List.size_toArray,← hl];exact Option.some.inj h1
  exact subscriptTail_builtinR (x:=w) pl.isList.typeIs slot_list_getitem.lookup
   (wpAny_getItem_list_neg (Q:=fun r s'=>r=w∧EP X pins σ Q r s') pl.isList (by omega) (by rw[List.size_toArray]<;>omega) (by omega) (by rw[hj];simpa using ew) ⟨rfl,fin⟩) hs
theorem ix_tup:IxR X (rIxT X.K):=by
 intro value slice pins s σ H x y v u Q I rx ry h hs;obtain⟨p,xs,i,z,rfl,rfl,hq,he,q⟩:=h;cases rx;obtain⟨t,rfl⟩:=ry;obtain⟨its,r,pl,hz⟩:=I.tuple hq;obtain⟨j,h1,h2,h3,h4,h5⟩:=atI_get he;obtain⟨w,ew,rw'⟩:=r.get h2;have hl:=r.length;have hn:=line63;have fin:EP X pins σ Q w s:=⟨z,H,I,rw',q⟩
 exact subscriptTail_builtinR (x:=w) pl.typeIs slot_tuple_getitem.lookup
  (getItem_tuple (j:=j) (Q:=fun r s'=>r=w∧EP X pins σ Q r s') pl (by omega) (by omega) (by rw[List.size_toArray,← hl];exact h1) (by simpa using ew) ⟨rfl,fin⟩) hs
theorem mapSeq_set (its:List Value)(n j:Nat)(u:Value):Obj.mapSeq (·.setIfInBounds j u) {cls:=.type "list",data:=.seq its.toArray n}={cls:=.type "list",data:=.seq (its.set j u).toArray n}:=by
 simp[Obj.mapSeq]
theorem Inv.lst {pins:List (Addr×Obj)}{σ:St}{H:Hp}{s:Shared}{p:Addr}{xs:List V}(I:Inv X pins σ H s)(h:H p=some (.lst xs)) :
  ∃ (its:List Value) (n:Nat),Vals xs its∧s.heap.get? p=some {cls:=.type "list",data:=.seq its.toArray n}∧xs.length≤sizeLine:=by
 obtain⟨z,its,n,r,e⟩:=I.hok p _ h;exact⟨its,n,r,e,z⟩
theorem Inv.lstUpd {pins:List (Addr×Obj)}{σ:St}{H:Hp}{s:Shared}{p:Addr}{xs ys:List V}{its its':List Value}{n n':Nat}{f:Obj→Obj}(I:Inv X pins σ H s)(h:H p=some (.lst xs))
  (ho:s.heap.get? p=some {cls:=.type "list",data:=.seq its.toArray n}) (hf:f {cls:=.type "list",data:=.seq its.toArray n}={cls:=.type "list",data:=.seq its'.toArray n'}) (r:Vals ys its') (hz:ys.length≤sizeLine) (t:Nat) :
  Inv X pins σ (upd H p (.lst ys)) {s with heap:=s.heap.update p f,toks:=t}:=by
 have e:(s.heap.update p f).get? p=some {cls:=.type "list",data:=.seq its'.toArray n'}:=by
  rw[Heap.get?_update_self f ho (by rw[hf]<;>rfl),hf]
 refine I.write (x:=p) (e:=p) (by rw[h];trivial) (.inl rfl) (fun b u hb q=>(Heap.get?_update_other _ _ (Ne.symm hb)).trans q) ⟨_,e⟩ ?_;exact⟨hz,its',n',r,e⟩
def rSetL:V→V→V→Hp→(Hp→Prop)→Prop:=fun o i v H Q=>∃ p xs k j,o=.ref p∧i=.int k∧H p=some (.lst xs)∧ixN xs.length k=some j∧Q (upd H p (.lst (xs.set j v)))
theorem set_list:PSet X rSetL:=by
 intro pins s σ H o i v ov iv u Q I ro ri rv h;obtain⟨p,xs,k,j,rfl,rfl,hp,hj,q⟩:=h;cases ro;obtain⟨t,rfl⟩:=ri;obtain⟨its,n,r,ho,hz⟩:=I.lst hp;obtain⟨h1,h2,h3,h4⟩:=ixN_seq hj;have hl:=r.length;have hn:=line63;have I':Inv X pins σ (upd H p (.lst (xs.set j v))) {s with heap:=s.heap.update p (Obj.mapSeq (·.setIfInBounds j u))} :=
  I.lstUpd hp ho (mapSeq_set its n j u) (r.set rv j) (by rw[List.length_set];exact hz) s.toks
 by_cases h0:0≤k
 ·have hk:k.toNat=j:=by
   rw[seqIndex_of h0 h4] at h1;exact Option.some.inj h1
  exact PySem.W.ki_setAt ho h0 (by omega) (by rw[List.size_toArray,← hl];exact h4) (by rw[hk];exact⟨_,I',q⟩)
 ·have hk:(k+(its.toArray.size:Int)).toNat=j:=by
   rw[seqIndex_neg (by omega) h3] at h1;rw[List.size_toArray,← hl];exact Option.some.inj h1
  exact PySem.W.ki_setBack ho (by omega) (by rw[List.size_toArray,← hl];exact h3) (by omega) (by rw[hk];exact⟨_,I',q⟩)
theorem slice_bounds (lo hi:Option Int)(n:Nat):(sliceBounds lo hi none n).1=((HT.sIx n 0 lo:Nat):Int)∧(sliceBounds lo hi none n).2.1=((HT.sIx n n hi:Nat):Int)∧(sliceBounds lo hi none n).2.2=1:=by
 refine⟨?_,?_,rfl⟩
 ·cases lo with
  | none=>simp[sliceBounds,HT.sIx]
  | some i =>
   simp only[sliceBounds,HT.sIx,Option.getD_none,show (1:Int)>0 by decide,if_true];by_cases h:i<0
   ·simp only[h,if_true]<;>omega
   ·simp only[h,if_false]<;>omega
 ·cases hi with
  | none=>simp[sliceBounds,HT.sIx]
  | some i =>
   simp only[sliceBounds,HT.sIx,Option.getD_none,show (1:Int)>0 by decide,if_true];by_cases h:i<0
   ·simp only[h,if_true]<;>omega
   ·simp only[h,if_false]<;>omega
theorem slicePick_cut (its:List Value)(lo hi:Option Int):slicePick its.toArray lo hi none=((its.drop (HT.sIx its.length 0 lo)).take (HT.sIx its.length its.length hi-HT.sIx its.length 0 lo)).toArray:=by
 obtain⟨h1,h2,h3⟩:=slice_bounds lo hi its.toArray.size;unfold slicePick;rw[h1,h2,h3];simp only[sliceRange_one,pick_run,List.size_toArray]<;>rfl
def rSlL (K:PySem.W.Frag):V→Option Int→Option Int→Hp→VK→Prop:=fun x lo hi H Q=>∃ a xs,x=.ref a∧SqL K H a xs∧∀ p,H p=none→Q (.ref p) (upd H p (.lst (cutV xs lo hi)))
theorem sl_list:SlR X (rSlL X.K):=by
 intro pins s σ H x v vl vu lo hi sl Q I rx hs pl pu h;obtain⟨a,xs,rfl,hx,q⟩:=h;cases rx;obtain⟨its,r,ht,hz⟩:=I.list hx;have hlen:=r.length;refine⟨"list",_,slot_list_getitem.lookup,ht.isList.typeIs,?_⟩;refine wpAny_getItem_list_slice ht.isList hs pl pu .none (by simp) ?_ (by rw[List.size_toArray]<;>omega);rw[slicePick_cut,← hlen];refine⟨.ref s.heap.objs.size,_,I.laid (t':=s.toks) (o:=.lst (cutV xs lo hi)) (fun b ob q=>Heap.get?_push_of_some _ q) (Nat.le_refl _) ?_,rfl,q _ (I.hok.fresh (Nat.le_refl _))⟩;exact⟨Nat.le_trans (cutV_length xs lo hi) hz,_,0,(r.drop (HT.sIx xs.length 0 lo)).take (HT.sIx xs.length xs.length hi-HT.sIx xs.length 0 lo),Heap.get?_push_size _ rfl⟩
def flatV:V→Bool
 | .non=>true
 | .bl _=>true
 | .int _=>true
 | .str _=>true
 | _=>false
def eqV:V→V→Bool
 | .non,.non=>true
 | .bl a,.bl b=>a == b
 | .bl a,.int b=>(if a then 1 else 0) == b
 | .int a,.bl b=>a == (if b then 1 else 0)
 | .int a,.int b=>a == b
 | .str a,.str b=>a == b
 | _,_=>false
theorem eqAt_V {A:Around}{s:Shared}{y x:V}{u v:Value}(ry:RelV y u)(rx:RelV x v)(fy:flatV y=true)(fx:flatV x=true):SeqAt.EqAt A s u v (eqV y x):=by
 cases y with
 | non =>
  cases ry;cases x with
  | non=>cases rx;exact SeqAt.EqAt.same _
  | bl b=>cases rx;exact SeqAt.EqAt.none_bool b
  | int b=>obtain⟨t,rfl⟩:=rx;exact SeqAt.EqAt.none_int b t
  | str b=>obtain⟨t,rfl⟩:=rx;exact SeqAt.EqAt.none_str b t
  | _=>exact absurd (show false=true from fx) Bool.false_ne_true
 | bl a =>
  cases ry;cases x with
  | non=>cases rx;exact SeqAt.EqAt.bool_none a
  | bl b=>cases rx;exact SeqAt.EqAt.bool_bool a b
  | int b=>obtain⟨t,rfl⟩:=rx;exact SeqAt.EqAt.bool_int a b t
  | str b=>obtain⟨t,rfl⟩:=rx;exact SeqAt.EqAt.bool_str a b t
  | _=>exact absurd (show false=true from fx) Bool.false_ne_true
 | int a =>
  obtain⟨t',rfl⟩:=ry;cases x with
  | non=>cases rx;exact SeqAt.EqAt.int_none a t'
  | bl b=>cases rx;exact SeqAt.EqAt.int_bool a t' b
  | int b=>obtain⟨t,rfl⟩:=rx;exact SeqAt.EqAt.int_int a t' b t
  | str b=>obtain⟨t,rfl⟩:=rx;exact SeqAt.EqAt.int_str a t' b t
  | _=>exact absurd (show false=true from fx) Bool.false_ne_true
 | str a =>
  obtain⟨t',rfl⟩:=ry;cases x with
  | non=>cases rx;exact SeqAt.EqAt.str_none a t'
  | bl b=>cases rx;exact SeqAt.EqAt.str_bool a t' b
  | int b=>obtain⟨t,rfl⟩:=rx;exact SeqAt.EqAt.str_int a t' b t
  | str b=>obtain⟨t,rfl⟩:=rx;exact SeqAt.EqAt.str_str a t' b t
  | _=>exact absurd (show false=true from fx) Bool.false_ne_true
 | _=>exact absurd (show false=true from fy) Bool.false_ne_true
def eqU (x:V)(u:Value):Bool:=match u with
 | .none=>eqV .non x
 | .bool b=>eqV (.bl b) x
 | .int i _=>eqV (.int i) x
 | .str z _=>eqV (.str z) x
 | _=>false
theorem eqU_of {x y:V}{u:Value}(r:RelV y u)(f:flatV y=true):eqU x u=eqV y x:=by
 cases y with
 | non=>cases r;rfl
 | bl b=>cases r;rfl
 | int i=>obtain⟨t,rfl⟩:=r;rfl
 | str z=>obtain⟨t,rfl⟩:=r;rfl
 | _=>exact absurd (show false=true from f) Bool.false_ne_true
theorem any_eqU {x:V}:∀ {xs:List V} {us:List Value},Vals xs us→xs.all flatV=true→us.any (eqU x)=xs.any fun y=>eqV y x
 | _,_,.nil,_=>rfl
 | y::xs,u::us,.cons r t,f=>by
  rw[List.all_cons,Bool.and_eq_true] at f;rw[List.any_cons,List.any_cons,eqU_of r f.1,any_eqU t f.2]
theorem mem_eqAt {A:Around}{s:Shared}{x:V}{v:Value}(rx:RelV x v)(fx:flatV x=true):∀ {xs:List V} {us:List Value},Vals xs us→xs.all flatV=true→∀ u∈us,SeqAt.EqAt A s u v (eqU x u)
 | _,_,.nil,_=>fun u hu=>by cases hu
 | y::xs,u::us,.cons r t,f=>fun u' hu=>by
  rw[List.all_cons,Bool.and_eq_true] at f;rcases List.mem_cons.mp hu with rfl | hu
  ·rw[eqU_of r f.1];exact eqAt_V r rx f.1 fx
  ·exact mem_eqAt rx fx t f.2 u' hu
def inV (x:V)(xs:List V):Bool:=xs.any fun y=>eqV y x
def rIn (K:PySem.W.Frag)(neg:Bool):R2:=fun x y H Q=>∃ p xs,y=.ref p∧(SqL K H p xs∨SqT K H p xs)∧flatV x=true∧xs.all flatV=true∧Q (.bl (if neg then !inV x xs else inV x xs)) H
theorem op_in_seq:OpR X (compareOp .In) (rIn X.K false):=by
 intro pins s σ H x y v u Q I rx ry h;obtain⟨p,xs,rfl,hq,fx,fs,q⟩:=h;cases ry;rcases hq with hq | hq
 ·obtain⟨its,r,pl,hz⟩:=I.list hq;refine SeqAt.in_listAt (eqU x) pl.isList (fun w hw=>mem_eqAt rx fx r fs w (by simpa using hw)) ⟨.bl _,H,I,rfl,?_⟩;rw[show its.toArray.any (eqU x)=its.any (eqU x) by simp,any_eqU r fs];exact q
 ·obtain⟨its,r,pl,hz⟩:=I.tuple hq;refine SeqAt.in_tupleAt (eqU x) pl (fun w hw=>mem_eqAt rx fx r fs w (by simpa using hw)) ⟨.bl _,H,I,rfl,?_⟩;rw[show its.toArray.any (eqU x)=its.any (eqU x) by simp,any_eqU r fs];exact q
theorem op_notIn_seq:OpR X (compareOp .NotIn) (rIn X.K true):=by
 intro pins s σ H x y v u Q I rx ry h;obtain⟨p,xs,rfl,hq,fx,fs,q⟩:=h;cases ry;rcases hq with hq | hq
 ·obtain⟨its,r,pl,hz⟩:=I.list hq;refine SeqAt.notIn_listAt (eqU x) pl.isList (fun w hw=>mem_eqAt rx fx r fs w (by simpa using hw)) ⟨.bl _,H,I,rfl,?_⟩;rw[show its.toArray.any (eqU x)=its.any (eqU x) by simp,any_eqU r fs];exact q
 ·obtain⟨its,r,pl,hz⟩:=I.tuple hq;refine SeqAt.notIn_tupleAt (eqU x) pl (fun w hw=>mem_eqAt rx fx r fs w (by simpa using hw)) ⟨.bl _,H,I,rfl,?_⟩;rw[show its.toArray.any (eqU x)=its.any (eqU x) by simp,any_eqU r fs];exact q
theorem call_len_seq:CallR X (.builtin "len") (fun xs H Q=>∃ p ys,xs=[.ref p]∧(SqL X.K H p ys∨SqT X.K H p ys)∧Q (.int ys.length) H):=by
 intro pins s σ H xs us Q I r h;obtain⟨p,ys,rfl,hq,q⟩:=h;obtain⟨u,rfl,rx⟩:=vals1 r;cases rx;have hn:=line63;rcases hq with hq | hq
 ·obtain⟨its,r',pl,hz⟩:=I.list hq;have hlen:=r'.length;exact Calls.call_len_list pl.isList (by simp only[List.size_toArray]<;>omega) ⟨.int ys.length,H,I.tok _,⟨s.toks+1,by rw[List.size_toArray,hlen]⟩,q⟩
 ·obtain⟨its,r',pl,hz⟩:=I.tuple hq;have hlen:=r'.length;exact len_tuple pl (by simp only[List.size_toArray]<;>omega) ⟨.int ys.length,H,I.tok _,⟨s.toks+1,by rw[List.size_toArray,hlen]⟩,q⟩
theorem call_list_of:CallR X (.type "list") (fun xs H Q=>∃ p ys,xs=[.ref p]∧(SqL X.K H p ys∨SqT X.K H p ys)∧∀ l,H l=none→Q (.ref l) (upd H l (.lst ys))):=by
 intro pins s σ H xs us Q I r h;obtain⟨p,ys,rfl,hq,q⟩:=h;obtain⟨u,rfl,rx⟩:=vals1 r;cases rx;have fin:∀ (its:List Value),Vals ys its→ys.length≤sizeLine→∀ (h':Heap) (c':Nat),(∀ b o',s.heap.get? b=some o'→h'.get? b=some o') →
   h'.get? s.heap.objs.size=some {cls:=.type "list",dict:=none,data:=.seq its.toArray c',slots:=#[]}→EP X pins σ Q (.ref s.heap.objs.size) {s with heap:=h'}:=fun its r' hz h' c' kp e =>
  ⟨.ref s.heap.objs.size,_,I.laid (t':=s.toks) kp (Nat.le_refl _) (show ObjOk X.prog X.w _ h' _ (.lst ys) from ⟨hz,its,c',r',e⟩),rfl,q _ (I.hok.fresh (Nat.le_refl _))⟩
 rcases hq with hq | hq
 ·obtain⟨its,r',pl,hz⟩:=I.list hq;have hlen:=r'.length;obtain⟨o,ho,hc,n,hd⟩:=pl.isList;exact call_list_seq p (.inl rfl) ho hc hd (fun h' c' kp e=>fin its r' hz h' c' kp e) (by simp only[List.size_toArray]<;>omega)
 ·obtain⟨its,r',pl,hz⟩:=I.tuple hq;have hlen:=r'.length;obtain⟨o,ho,hc,n,hd⟩:=pl;exact call_list_seq p (.inr rfl) ho hc hd (fun h' c' kp e=>fin its r' hz h' c' kp e) (by simp only[List.size_toArray]<;>omega)
theorem call_tuple_of:CallR X (.type "tuple") (fun xs H Q=>∃ p ys,xs=[.ref p]∧((SqL X.K H p ys∧∀ l,H l=none→Q (.ref l) (upd H l (.tup ys)))∨(SqT X.K H p ys∧Q (.ref p) H))):=by
 intro pins s σ H xs us Q I r h;obtain⟨p,ys,rfl,h⟩:=h;obtain⟨u,rfl,rx⟩:=vals1 r;cases rx;rcases h with ⟨hq,q⟩ | ⟨hq,q⟩
 ·obtain⟨its,r',pl,hz⟩:=I.list hq;have hlen:=r'.length;refine call_tuple_list pl.isList (fun h' kp=>?_) (by simp only[List.size_toArray]<;>omega);have I1:Inv X pins σ H {s with heap:=h'}:=I.kept (t':=s.toks) kp;have I2:Inv X pins σ (upd H h'.objs.size (.tup ys)) {s with heap:=h'.push {cls:=.type "tuple",data:=.seq its.toArray}} :=
   I1.laid (t':=s.toks) (fun b o e=>Heap.get?_push_of_some _ e) (Nat.le_refl _) (show ObjOk X.prog X.w _ _ _ (.tup ys) from ⟨hz,its,r',IsTup.new _ _⟩)
  exact⟨.ref h'.objs.size,_,I2,rfl,q _ (I1.hok.fresh (Nat.le_refl _))⟩
 ·obtain⟨its,r',pl,hz⟩:=I.tuple hq;exact call_tuple_same pl ⟨.ref p,H,I,rfl,q⟩
def tyV (K:PySem.W.Frag)(T:String)(x:V)(H:Hp):Prop:=match x with
 | .str _=>T="str"
 | .int _=>T="int"
 | .ref p=>(T="list"∧∃ xs,SqL K H p xs)∨(T="tuple"∧∃ o,K.lookup p=some o∧o.cls=.type "tuple"∧o.dict=none) ∨
   (T="dict"∧((∃ kvs,H p=some (.dK kvs))∨∃ kvs,H p=some (.dT kvs)))∨(T="set"∧∃ S n,H p=some (.set S n))
 | _=>False
theorem tyV_is {pins:List (Addr×Obj)}{σ:St}{H:Hp}{s:Shared}{T:String}{x:V}{v:Value}(I:Inv X pins σ H s)(r:RelV x v)(ty:tyV X.K T x H) :
  s.TypeIs v T∧∀ a,v=.ref a→∃ ob,s.heap.get? a=some ob∧ob.dict=none:=by
 cases x with
 | str z =>
  obtain⟨t,rfl⟩:=r;cases (show T="str" from ty);exact⟨typeIs_str s z t,fun _ e=>nomatch e⟩
 | int i =>
  obtain⟨t,rfl⟩:=r;cases (show T="int" from ty);exact⟨typeIs_int s i t,fun _ e=>nomatch e⟩
 | ref p =>
  cases r;rcases ty with ⟨rfl,xs,hq⟩ | ⟨rfl,o,hk,hc,hd⟩ | ⟨rfl,hk⟩ | ⟨rfl,S,n,hk⟩
  ·obtain⟨its,_,pl,_⟩:=I.list hq;refine⟨pl.isList.typeIs,fun a e=>?_⟩;cases e;obtain⟨o,n,e,c,hd,_⟩:=pl;exact⟨o,e,hd⟩
  ·refine⟨⟨o,I.kIn p o hk,hc⟩,fun a e=>?_⟩;cases e;exact⟨o,I.kIn _ o hk,hd⟩
  ·have z:∃ o,s.heap.get? p=some o∧o.ExactDict:=by
    rcases hk with ⟨kvs,hk⟩ | ⟨kvs,hk⟩
    ·obtain⟨_,_,_,_,o,_,_,e,ex,_⟩:=I.hok p _ hk;exact⟨o,e,ex⟩
    ·obtain⟨_,_,_,_,o,_,_,e,ex,_⟩:=I.hok p _ hk;exact⟨o,e,ex⟩
   obtain⟨o,e,ex⟩:=z;refine⟨⟨o,e,ex.1⟩,fun a e2=>?_⟩;cases e2;exact⟨o,e,ex.2.1⟩
  ·obtain⟨o,_,_,_,e,ex,_⟩:=I.hok p _ hk;refine⟨⟨o,e,ex.1⟩,fun a e2=>?_⟩;cases e2;exact⟨o,e,ex.2.1⟩
 | _=>exact False.elim ty
def tBM0 (K:PySem.W.Frag)(T:String)(r:V→List V→Hp→VK→Prop)(to:TE):TE:=fun σ H Q=>to σ H fun x H1=>tyV K T x H1∧r x [] H1 Q
def tBM (K:PySem.W.Frag)(T:String)(r:V→List V→Hp→VK→Prop)(to:TE)(t:TA):TE:=fun σ H Q=>to σ H fun x H1=>tyV K T x H1∧t σ H1 fun xs H2=>r x xs H2 Q
variable {o e:Expr}{es:List Expr}{to:TE}{t:TA}{name:Str}{apos cpos:Pos}{T id:String}{r:V→List V→Hp→VK→Prop}
theorem pe_bm0 (pa:PlainAttrs T)(slot:Slot T name id)(hty:typeOf (.builtin id)=pure (.type "method_descriptor"))(hm:MtR X id r)(ho:PE X o to)
  (hbase:attributeBase o name X.env (eval o X.env)=eval o X.env:=by rfl) (hline:(apos.endLine == cpos.line)=true:=by rfl):PE X (.Call (.Attribute o name apos) [] [] cpos) (tBM0 X.K T r to):=by
 intro pins s σ H Q I h;refine wpAny_Call_method0_late hbase hline (thn (ho pins s σ H _ I h) fun v s1 ⟨x,H1,I1,r1,ty,q1⟩=>?_);obtain⟨h1,h2⟩:=tyV_is I1 r1 ty;exact⟨T,id,pa,slot,hty,h1,h2,Calls.callWith_builtin rfl (PySem.evalArgs_none (hm pins s1 σ H1 x [] v [] Q I1 r1 .nil q1))⟩
theorem pe_bm (pa:PlainAttrs T)(slot:Slot T name id)(hty:typeOf (.builtin id)=pure (.type "method_descriptor"))(hm:MtR X id r)(ho:PE X o to)(ha:PA X (e::es) t)
  (hbase:attributeBase o name X.env (eval o X.env)=eval o X.env:=by rfl)
  (hfew:((backTo cpos (starEach (e::es) X.env)).all (fun x=>!x.1) && (backToKw cpos (keywordEach [] X.env)).all (fun x=>x.1.isSome)
   && decide ((e::es).length+([]:List Keyword).length+(if ([]:List Keyword).isEmpty then 0 else 1)<30))=true:=by rfl)
  (hline:(apos.endLine == cpos.line)=true:=by rfl) (hs:starEach (e::es) X.env=(false,eval e X.env)::starEach es X.env:=by rfl) (hplain:(backTo cpos (starEach es X.env)).any (·.1)=false:=by rfl) :
  PE X (.Call (.Attribute o name apos) (e::es) [] cpos) (tBM X.K T r to t):=by
 intro pins s σ H Q I h;refine wpAny_Call_method_late hbase hfew hline rfl (thn (ho pins s σ H _ I h) fun v s1 ⟨x,H1,I1,r1,ty,q1⟩=>?_);obtain⟨h1,h2⟩:=tyV_is I1 r1 ty;refine⟨T,id,pa,slot,hty,h1,h2,?_⟩;have hA:=ha cpos pins s1 σ H1 _ I1 q1;rw[hs] at hA ⊢;refine Calls.callWith_builtin (by show (false || (backTo cpos (starEach es X.env)).any (·.1))=false;rw[hplain]<;>rfl) (Calls.evalArgs_plain ?_);exact thn hA fun us s2 ⟨vs,H2,I2,r2,q2⟩=>hm pins s2 σ H2 x vs v us Q I2 r1 r2 q2
/- xs.append(e),list.index on a module's tuple .. are MtR facts of 06m -/
end
end L2
namespace L2
open PySem PySem.Spec PyProof.Rows
def MtM (X:Cx)(id:String)(r:V→List V→Hp→VK→Prop):Prop :=
 ∀ (pins:List (Addr×Obj)) (s:Shared) (σ:St) (H:Hp) (x:V) (xs:List V) (v:Value) (us:List Value) (Q:VK),Inv X pins σ H s→RelV x v→Vals xs us→r x xs H Q →
  wpAny (model X.prog X.w) X.A (call (.builtin id) (v::us)) (EP X pins σ Q) X.xe s
theorem Vals.one:∀ {x:V} {us:List Value},Vals [x] us→∃ u,us=[u]∧RelV x u
 | _,_,.cons r .nil=>⟨_,rfl,r⟩
theorem Vals.zero:∀ {us:List Value},Vals [] us→us=[]
 | _,.nil=>rfl
theorem Vals.dropLast {xs:List V}{us:List Value}(h:Vals xs us):Vals xs.dropLast us.dropLast:=by
 induction h with
 | nil=>exact .nil
 | cons r t ih =>
  cases t with
  | nil=>exact .nil
  | cons q t'=>exact .cons r ih
theorem Vals.eraseIdx:∀ {xs:List V} {us:List Value} (i:Nat),Vals xs us→Vals (xs.eraseIdx i) (us.eraseIdx i)
 | _,_,_,.nil=>.nil
 | _,_,0,.cons _ t=>t
 | _,_,i+1,.cons r t=>.cons r (Vals.eraseIdx i t)
theorem Vals.reverse {xs:List V}{us:List Value}(h:Vals xs us):Vals xs.reverse us.reverse:=by
 induction h with
 | nil=>exact .nil
 | cons r t ih=>rw[List.reverse_cons,List.reverse_cons];exact Vals.append ih (.cons r .nil)
theorem Vals.rep {xs:List V}{us:List Value}(h:Vals xs us):∀ k:Nat,Vals (List.replicate k xs).flatten (List.replicate k us).flatten
 | 0=>.nil
 | k+1=>by
  rw[List.replicate_succ,List.replicate_succ,List.flatten_cons,List.flatten_cons];exact Vals.append h (Vals.rep h k)
theorem erase_last {α:Type}(l:List α):l.eraseIdx (l.length-1)=l.dropLast:=by
 induction l with
 | nil=>rfl
 | cons a r ih =>
  cases r with
  | nil=>rfl
  | cons b r =>
   have e:(a::b::r).length-1=((b::r).length-1)+1:=by
    have h1:(a::b::r).length=r.length+2:=rfl;have h2:(b::r).length=r.length+1:=rfl;omega
   rw[e,List.eraseIdx_cons_succ,ih];all_goals rfl
theorem foldl_rep (its:List Value):∀ (k:Nat) (acc:List Value),
  List.foldl (fun x1 x2=>x1++x2) acc.toArray (List.replicate k its.toArray)=(acc++(List.replicate k its).flatten).toArray
 | 0,acc=>by simp
 | k+1,acc=>by
  have e:acc.toArray++its.toArray=(acc++its).toArray:=by simp
  have e2:(acc++its)++(List.replicate k its).flatten=acc++(List.replicate (k+1) its).flatten:=by
   rw[List.replicate_succ,List.flatten_cons,List.append_assoc]
  rw[← e2,← foldl_rep its k (acc++its),← e,List.replicate_succ,List.foldl_cons]
section
variable {X:Cx}{pins:List (Addr×Obj)}{σ:St}{H:Hp}{s:Shared}{l b:Addr}{xs ys zs:List V}
theorem Inv.lset {its its':List Value}{n:Nat}{f:Array Value→Array Value}{t':Nat}(I:Inv X pins σ H s)(hH:H l=some (.lst xs))
  (e:s.heap.get? l=some {cls:=.type "list",data:=.seq its.toArray n}) (hf:f its.toArray=its'.toArray) (hv:Vals ys its') (hz:ys.length≤sizeLine) :
  Inv X pins σ (upd H l (.lst ys)) {s with heap:=s.heap.update l (Obj.mapSeq f),toks:=t'}:=by
 have q:=PySem.IsL.update e f;rw[hf] at q;refine I.write (x:=l) (e:=l) (by rw[hH];exact trivial) (.inl rfl) (fun b' u hb hu=>(Heap.get?_update_other s.heap (Obj.mapSeq f) (Ne.symm hb)).trans hu) ⟨_,q⟩ ?_;exact⟨hz,its',_,hv,q⟩
theorem Inv.lnew {its:List Value}{t':Nat}(I:Inv X pins σ H s)(hv:Vals ys its)(hz:ys.length≤sizeLine) :
  Inv X pins σ (upd H s.heap.objs.size (.lst ys)) {s with heap:=s.heap.push {cls:=.type "list",data:=.seq its.toArray},toks:=t'} :=
 I.laid (fun _ _ q=>Heap.get?_push_of_some _ q) (Nat.le_refl _) ⟨hz,its,0,hv,Heap.get?_push_size _ rfl⟩
theorem Inv.fresh (I:Inv X pins σ H s):H s.heap.objs.size=none:=I.hok.fresh (Nat.le_refl _)
theorem Inv.lstM (I:Inv X pins σ H s)(hH:H l=some (.lst xs)):xs.length≤sizeLine∧∃ (its:List Value) (n:Nat),Vals xs its∧xs.length=its.length∧s.heap.get? l=some {cls:=.type "list",data:=.seq its.toArray n}:=by
 obtain⟨z,its,n,r,e⟩:=I.hok l _ hH;exact⟨z,its,n,r,r.length,e⟩
theorem notLongL {n:Nat}(h:n≤sizeLine):Builtin.List.listTooLong n=false:=by
 unfold Builtin.List.listTooLong;exact decide_eq_false (by omega)
end
section
variable {X:Cx}
def rAppend:V→List V→Hp→VK→Prop:=fun x vs H Q=>∃ l xs y,x=.ref l∧vs=[y]∧H l=some (.lst xs)∧xs.length<sizeLine∧Q .non (upd H l (.lst (xs++[y])))
theorem mt_append:MtM X "list.append" rAppend:=by
 intro pins s σ H x vs v us Q I rx rv h;obtain⟨l,xs,y,rfl,rfl,hH,hz,q⟩:=h;cases rx;obtain⟨u,rfl,ru⟩:=rv.one;obtain⟨z,its,n,r,hl,e⟩:=I.lstM hH;refine call_meets F.slot_list_append ⟨_,e,rfl⟩ F.entry_list_append (F.args_list_append_2 _ _) (PySem.list_append l its.toArray n u (by rw[List.size_toArray];omega)) ⟨e,?_⟩;refine⟨.non,_,I.lset (its':=its++[u]) hH e (by simp) (r.append (.cons ru .nil)) ?_,rfl,q⟩;rw[List.length_append,List.length_singleton];omega
def rExtend:V→List V→Hp→VK→Prop:=fun x vs H Q=>∃ l b xs zs,x=.ref l∧vs=[.ref b]∧H l=some (.lst xs)∧H b=some (.lst zs)∧xs.length+zs.length≤sizeLine∧Q .non (upd H l (.lst (xs++zs)))
theorem mt_extend:MtM X "list.extend" rExtend:=by
 intro pins s σ H x vs v us Q I rx rv h;obtain⟨l,b,xs,zs,rfl,rfl,hH,hB,hz,q⟩:=h;cases rx;obtain⟨u,rfl,ru⟩:=rv.one;cases ru;obtain⟨z,its,n,r,hl,e⟩:=I.lstM hH;obtain⟨z2,its2,n2,r2,hl2,e2⟩:=I.lstM hB;have hsz:its.toArray.size+its2.toArray.size≤sizeLine:=by rw[List.size_toArray,List.size_toArray];omega
 have hlong:¬ (!its.toArray.isEmpty && Builtin.List.listTooLong (its.toArray.size+its2.toArray.size))=true:=by
  rw[notLongL hsz,Bool.and_false];exact Bool.false_ne_true
 refine call_meets F.slot_list_extend ⟨_,e,rfl⟩ F.entry_list_extend (F.args_list_extend_2 _ _)
  (AutoSeq1.list_extend_list_list_0 l its.toArray n b its2.toArray n2 hlong (by rw[List.size_toArray];omega) (by omega)) ⟨e,e2,?_⟩
 refine⟨.non,_,I.lset (its':=its++its2) hH e (by simp) (r.append r2) ?_,rfl,q⟩;rw[List.length_append];omega
def rPop:V→List V→Hp→VK→Prop:=fun x vs H Q=>∃ l xs y,x=.ref l∧vs=[]∧H l=some (.lst xs)∧xs[xs.length-1]?=some y∧Q y (upd H l (.lst xs.dropLast))
theorem mt_pop:MtM X "list.pop" rPop:=by
 intro pins s σ H x vs v us Q I rx rv h;obtain⟨l,xs,y,rfl,rfl,hH,hy,q⟩:=h;cases rx;have hus:=rv.zero;subst hus;obtain⟨z,its,n,r,hl,e⟩:=I.lstM hH;obtain⟨u,hu,ru⟩:=r.get hy;have hy':its.toArray[its.toArray.size-1]?=some u:=by
  show its.toArray[its.length-1]?=some u;rw[← Array.getElem?_toList,← hl];exact hu
 refine call_meets F.slot_list_pop ⟨_,e,rfl⟩ F.entry_list_pop (F.args_list_pop_1 _) (MeetsSeq.list_pop_last l its.toArray n u hy' (by rw[List.size_toArray];omega)) ⟨e,?_⟩;refine⟨y,_,I.lset (its':=its.dropLast) hH e ?_ r.dropLast ?_,ru,q⟩
 ·show its.toArray.eraseIdxIfInBounds (its.toArray.size-1)=its.dropLast.toArray;rw[List.size_toArray,List.eraseIdxIfInBounds_toArray,erase_last]
 ·rw[List.length_dropLast];omega
def rCat:R2:=fun x y H Q=>∃ l b xs zs,x=.ref l∧y=.ref b∧H l=some (.lst xs)∧H b=some (.lst zs)∧xs.length+zs.length≤sizeLine∧∀ p,H p=none→Q (.ref p) (upd H p (.lst (xs++zs)))
theorem op_cat:OpR X (binaryOp .Add) rCat:=by
 intro pins s σ H x y v u Q I rx ry h;obtain⟨l,b,xs,zs,rfl,rfl,hH,hB,hz,q⟩:=h;cases rx;cases ry;obtain⟨z,its,n,r,hl,e⟩:=I.lstM hH;obtain⟨z2,its2,n2,r2,hl2,e2⟩:=I.lstM hB;refine PySem.P.add_list e e2 ?_ (by rw[List.size_toArray,List.size_toArray];omega);have ea:its.toArray++its2.toArray=(its++its2).toArray:=by simp
 rw[ea];exact⟨.ref _,_,I.lnew (t':=s.toks) (r.append r2) (by rw[List.length_append];omega),rfl,q _ I.fresh⟩
def rRep:R2:=fun x y H Q=>∃ l k xs,x=.ref l∧y=.int k∧H l=some (.lst xs)∧-(2 ^ 63)≤k∧k<2 ^ 63∧xs.length*k.toNat≤sizeLine ∧
 ∀ p,H p=none→Q (.ref p) (upd H p (.lst (List.replicate k.toNat xs).flatten))
theorem len_rep {α:Type}(xs:List α)(k:Nat):(List.replicate k xs).flatten.length=k*xs.length:=by
 induction k with
 | zero=>simp
 | succ k ih=>rw[List.replicate_succ,List.flatten_cons,List.length_append,ih,Nat.succ_mul,Nat.add_comm]
theorem op_rep:OpR X (binaryOp .Mult) rRep:=by
 intro pins s σ H x y v u Q I rx ry h;obtain⟨l,k,xs,rfl,rfl,hH,h1,h2,hz,q⟩:=h;cases rx;obtain⟨t,rfl⟩:=ry;obtain⟨z,its,n,r,hl,e⟩:=I.lstM hH;have hlen:its.toArray.size*k.toNat≤sizeLine:=by rw[List.size_toArray,← hl];exact hz
 have hcap:¬ its.toArray.size*k.toNat>(2 ^ 63-1) / 8:=by
  have:(sizeLine:Nat)≤(2 ^ 63-1) / 8:=by decide
  omega
 have hfit:¬ (!Builtin.List.listFitsIndex k)=true:=by
  rw[fitsIndex_both h1 h2];exact Bool.false_ne_true
 have hlong:¬ Builtin.List.listTooLong (its.toArray.size*k.toNat)=true:=by
  rw[notLongL hlen];exact Bool.false_ne_true
 have hnew:List.foldl (fun x1 x2=>x1++x2) #[] (List.replicate (if its.toArray.isEmpty=true then 0 else k.toNat) its.toArray)=(List.replicate k.toNat its).flatten.toArray:=by
  have f0:∀ m:Nat,List.foldl (fun x1 x2=>x1++x2) #[] (List.replicate m its.toArray)=(List.replicate m its).flatten.toArray:=fun m=>by
   have:=foldl_rep its m [];rw[List.nil_append] at this;exact this
  rw[f0];cases its with
  | nil=>simp
  | cons a r'=>rw[if_neg (by simp)]
 refine wpAny_binaryOp_repeat_ref (T:="list") (U:="int") (by decide) ⟨_,e,rfl⟩ (fun s'=>typeIs_int s' k t) noFill_list_mul F.fills_int_mul F.slot_int_rmul repeat_list F.slot_int_index.lookup
  (call_meets F.slot_int_rmul (typeIs_int s k t) F.entry_int_rmul (F.args_int_rmul_2 _ _) (int___rmul___int_list k t l its.toArray n)
   ⟨e,rfl,⟨_,e,rfl⟩,call_meets F.slot_list_mul ⟨_,e,rfl⟩ F.entry_list_mul (F.args_list_mul_2 _ _) (AutoListH.list___mul___list_int_3 l its.toArray n k t hfit hcap hlong) ⟨e,?_⟩⟩)
 rw[hnew];exact⟨.ref _,_,I.lnew (t':=s.toks) (r.rep k.toNat) (by rw[len_rep,Nat.mul_comm];exact hz),rfl,q _ I.fresh⟩
end
section
variable {prog:Program}{w:World}{A:Around}{E:Value→Shared→Prop}{s:Shared}
end
section
variable {X:Cx}
end
end L2
namespace Att
open PySem PySem.W PySem.Calls PyProof.Rows
theorem ints_of_wellAll {P:Params}{h:Heap}:∀ (ns:List Int) (vs:List Value),WellAll P h vs (ns.map WData.int)→IntsAre vs ns:=by
 intro ns;induction ns with
 | nil =>
  intro vs w;rw[List.map_nil] at w;cases w;exact .nil
 | cons n ns ih =>
  intro vs w;rw[List.map_cons] at w;cases w with
  | cons a b =>
   cases a;exact .cons _ _ (ih _ b)
theorem script_of {l:OpenLaw}{n:Nat}(hn:l.most=some n){P:Params}{h:Heap}{args:List WData}{vals:List Value}
  (hpre:l.row.toRowW.claim.pre args=true) (hwl:WellAll P h vals args) :
  ∃ a vs ns,vals=[Value.ref a]∧args=[WData.list (ns.map WData.int)]∧h.get? a=some {cls:=.type "list",data:=.seq vs.toArray}∧IntsAre vs ns∧ns.length≤n:=by
 have hsh:WShape.hasAll [] args [.list .int]=true:=(pre_splitW hpre).1;have hc:l.pre.holds [] {args:=args}=true:=(pre_splitW hpre).2;obtain⟨d,r,rfl,h1,h2⟩:=hasAllW_cons hsh;obtain rfl:=hasAllW_nil h2;obtain⟨xs,rfl,h3⟩:=hasW_list h1;obtain⟨ns,rfl⟩:=items_int h3;have hlen:ns.length≤n:=by
  unfold OpenLaw.pre at hc;have h4:(WTm.not (.lt (.lit (.int (n:Int))) (.len (.arg 0)))).holds [] {args:=[.list (ns.map .int)]}=true:=by
   have h4:=(holds_andW hc).1;rw[hn] at h4;exact h4
  have h5:=condW_of h4 (w_not (w_lt w_lit (w_len_list (w_arg rfl))));rw[List.length_map] at h5;refine Nat.le_of_not_lt fun q=>?_
  have q':(n:Int)<((ns.length:Nat):Int):=by omega
  first
   | (rw[decide_eq_true q'] at h5;exact absurd h5 (by decide))
   | (simp at h5;omega)
 cases hwl with
 | cons w1 w2 =>
  cases w2;cases w1 with
  | list ho hall=>exact⟨_,_,ns,rfl,rfl,ho,ints_of_wellAll ns _ hall,hlen⟩
theorem post_true (l:OpenLaw)(args:List WData):l.row.toRowW.claim.post args (.bool true) args=true :=
 postW_of (r:=l.row.toRowW) (X:=(true == true))
  (show WShape.has [] (.bool true) .bool=true by first | rfl | decide | simp[WShape.has,WShape.arms,WShape.armsAll])
  (show (WTm.eq .res (.lit (.bool true))).value [] {args:=args,res:=some (.bool true),after:=args}=some (.bool (true == true)) from w_eq_bool (w_res rfl) w_lit) rfl
theorem attach_call {l:OpenLaw}{n:Nat}{q:Program}{loose:List Str}{XP:(Str→Option Value)→Heap→Prop}{YP:World→Heap→Prop}{d:DefRec}
  (hn:l.most=some n) (hdf:d.params.defaults=[])
  (call:∀ (w:World) (s₀ s₁:Shared) (mg mb:Str→Option Value) (fa:Addr) (o:Obj) (pm cd doc:Value) (a:Addr) (vs:List Value) (ns:List Int),
   Ground q loose [] XP w s₀ mg mb s₁.heap→YP w s₁.heap →
   s₁.heap.get? fa=some o→o.data=.func (docDef d.name d.params d.body d.scope pm cd doc)→s₁.heap.CodeRec cd d.name→mg d.name=some (.ref fa) →
   s₁.heap.get? a=some {cls:=.type "list",data:=.seq vs.toArray}→IntsAre vs ns→ns.length≤n→s₁.gens=#[] →
   codeAny (model l.prog w) callerA (.call (.ref fa) ⟨[.ref a],[]⟩) (fun r s'=>r=.ok (.ret (.bool true))∧OldK s₁.heap s'.heap∧s'.os=s₁.os∧AllBare s'.gens) s₁) :
  WalkO q loose XP YP l.row.toRowW d [] (fun f vs=>PySem.call f vs):=by
 intro w s₀ s₁ mg mb G Y fa o pm cd doc dV kV ho hd hcd hD hmg hg args vals as hpre hlay hrd hwl hlo;obtain rfl:dV=.none:=Dflts.none hD hdf;obtain rfl:kV=.none:=Dflts.noKw hD;obtain⟨a,vs,ns,rfl,rfl,hobj,hints,hlen⟩:=script_of hn hpre hwl;refine enter_call (codeAny_mono (call w s₀ s₁ mg mb fa o pm cd doc a vs ns G Y ho (fd_plain hd) hcd hmg hobj hints hlen hg) fun r s' hq=>?_);obtain⟨rfl,h2,h3,h4⟩:=hq;exact⟨.inl ⟨.bool true,.bool true,[],rfl,fun _=>rfl,.bool true,post_true l _,fun _=>⟨List.Pairwise.nil,fun _ hm=>(nomatch hm)⟩⟩,h2,h3,h4⟩
section
variable {prog:Program}{w:World}{A:Around}{E:Value→Shared→Prop}{s:Shared}{K:Frag}
end
end Att
namespace L2
open PySem PySem.Spec PyProof.Rows
theorem vals_ints:∀ {vs:List Value} {ns:List Int},IntsAre vs ns→Vals (ns.map V.int) vs
 | _,_,.nil=>.nil
 | _,_,.cons n t h=>.cons ⟨t,rfl⟩ (vals_ints h)
def Only (H:Hp):Prop:=∀ b,H b=none∨∃ o xs,H b=some (.frz o (.lst xs))
theorem law_call {P:Program}{w:World}{K:PySem.W.Frag}{mg mb:Str→Option Value}{CX:CXT}{k:Nat}{fa a:Addr}{fd:FuncData}{x:Str}{sp:Sp}{s₁:Shared}{vs:List Value}{ns:List Int}
  (KX:K.In s₁.heap) (hns:s₁.heap.Ns mainGlobals mg) (hb:s₁.heap.Ns builtinsNs mb) (hbb:∀ x:Str,x≠"__name__"→mb x=bootBuiltins x) (hlim:s₁.heap.NoLimit) (hg:s₁.gens=#[])
  (ha:s₁.heap.get? a=some {cls:=.type "list",data:=.seq vs.toArray}) (hi:IntsAre vs ns) (hl:ns.length≤sizeLine) (hr:Room k callerA)
  (F:∀ base:Heap,K.In base→base.Ns mainGlobals mg→FnOk P w K mg base CX k fa fd [x] sp) (hbind:∀ (s:Shared) (u:Value),BindsTo s fd ⟨[u],[]⟩ [(x,u)])
  (hsp:∀ H:Hp,Only H→SqL K H a (ns.map V.int)→sp [.ref a] H (fun v _=>v=.bl true) fun _ _ _=>False)
  (hCX:∀ H e s',CX [] H s₁ (fun _ _ _=>False) e s'→False) :
  codeAny (model P w) callerA (.call (.ref fa) ⟨[.ref a],[]⟩) (fun r s'=>r=.ok (.ret (.bool true))∧OldK s₁.heap s'.heap∧s'.os=s₁.os∧AllBare s'.gens) s₁:=by
 have rv:=vals_ints hi;have lenV:=hi.length;have core:∀ H:Hp,Only H→SqL K H a (ns.map V.int)→HOk P w H s₁.heap→(∀ b,H b≠none→b=a)→(H a≠none→K.lookup a=none) →
   codeAny (model P w) callerA (.call (.ref fa) ⟨[.ref a],[]⟩) (fun r s'=>r=.ok (.ret (.bool true))∧OldK s₁.heap s'.heap∧s'.os=s₁.os∧AllBare s'.gens) s₁:=by
  intro H hO hS hok hA hK;have base_of:∀ {b:Addr} {o:Obj},s₁.heap.get? b=some o→H b=none→(hidT s₁.heap H).get? b=some o:=fun e n=>hidT_get e n
  have noA:∀ {b:Addr} {o:Obj} {es:Array DictEntry} {ep:Nat},s₁.heap.get? b=some o→o.data=.dict es ep→H b=none:=fun {b o es ep} e d=>by
   cases q:H b with
   | none=>rfl
   | some u =>
    have e':b=a:=hA b (by rw[q];simp);subst e';rw[ha] at e;cases e;have d':Data.seq vs.toArray _=Data.dict es ep:=d;cases d'
  have nsK:∀ {b:Addr} {m:Str→Option Value},s₁.heap.Ns b m→(hidT s₁.heap H).Ns b m:=fun {b m} ⟨o,es,ep,e,d,r⟩=>⟨o,es,ep,base_of e (noA e d),d,r⟩
  have hKb:K.In (hidT s₁.heap H):=fun b o e=>base_of (KX b o e) (by
   cases q:H b with
   | none=>rfl
   | some u =>
    have e':b=a:=hA b (by rw[q];simp);subst e'
    rw[hK (by rw[q];simp)] at e;cases e)
  have hM:Mod K mg (hidT s₁.heap H):=⟨hKb,nsK hns,⟨mb,nsK hb,hbb⟩,let ⟨mc,h1,h2⟩:=hlim;⟨mc,nsK h1,h2⟩⟩
  have e0:Env0 P w K mg (hidT s₁.heap H) callerA [] s₁ H:=⟨rfl,hM,fun b o e=>of_hidT e,Nat.le_of_eq (hidT_size _ _),trivial,fun b hb=>absurd (show b∈([]:List Addr) from hb) (by simp),hok,.of_eq hg⟩
  refine codeAny_mono ((F _ hKb (nsK hns)).run callerA [] s₁ H ⟨[.ref a],[]⟩ [.ref a] [.ref a] _ _ hr e0 (hbind s₁ (.ref a)) (.cons rfl .nil) (hsp H hO hS)) fun r s' h=>?_
  cases r with
  | error e=>exact (hCX H e s' h).elim
  | ok fl =>
   cases fl with
   | next=>exact False.elim h
   | brk=>exact False.elim h
   | cont=>exact False.elim h
   | ret u =>
    obtain⟨v,H',os,bare,un,hok',r',q⟩:=h;have q':v=.bl true:=q;subst q';obtain rfl:u=Value.bool true:=r';refine⟨rfl,OldK.of_keep fun b o e=>?_,os,bare⟩;cases q:H b with
    | none=>exact un.keep b o e q (by intro z;exact absurd (show b∈([]:List Addr) from z) (by simp)) (by simp)
    | some u =>
     rcases hO b with z | ⟨ob,xs,z⟩
     ·rw[q] at z;cases z
     ·have z2:=un.frzs b ob _ z;obtain⟨e1,_⟩:=hok b _ z;obtain⟨e2,_⟩:=hok' b _ z2;rw[e] at e1;cases e1;exact e2
 cases hk:K.lookup a with
 | some o =>
  have e:=KX a o hk;rw[ha] at e;cases e;refine core (fun _=>none) (fun _=>.inl rfl) (.inr ⟨_,vs.toArray,_,hk,rfl,rfl,rfl,by rw[List.size_toArray,lenV];exact hl,by simpa using rv⟩) (fun b u z=>by have z':(none:Option HO)=some u:=z;cases z') (fun b z=>absurd rfl z) fun z=>absurd rfl z
 | none =>
  refine core (fun b=>if b=a then some (.frz {cls:=.type "list",data:=.seq vs.toArray} (.lst (ns.map V.int))) else none) (fun b=>?_) (.inl (.inr ⟨{cls:=.type "list",data:=.seq vs.toArray},if_pos rfl⟩)) (fun b u z=>?_) (fun b z=>?_) fun _=>hk
  ·by_cases hb:b=a
   ·exact .inr ⟨_,_,if_pos hb⟩
   ·exact .inl (if_neg hb)
  ·by_cases hb:b=a
   ·have z':=(if_pos hb).symm.trans z;cases z';subst hb;exact⟨ha,by rw[List.length_map];exact hl,vs,_,rv,ha⟩
   ·have z':=(if_neg hb).symm.trans z;cases z'
  ·by_cases hb:b=a
   ·exact hb
   ·exact absurd (if_neg hb) z
end L2
namespace L2
open PySem PySem.Spec PyProof.Rows
abbrev KOf {K:PySem.W.Frag}{h:Heap}(_:K.In h):PySem.W.Frag:=K
theorem walk_of {l:PySem.W.OpenLaw}{n k:Nat}{q:Program}{loose:List Str}{XP:(Str→Option Value)→Heap→Prop}{YP:World→Heap→Prop}{d:DefRec}{K:Params→PySem.W.Frag}{CX:World→CXT}{sp:World→Sp}{x:Str}
  (hn:l.most=some n) (hn2:n≤sizeLine) (hdf:d.params.defaults=[]) (hr:Room k callerA)
  (hY:∀ (w:World) (h:Heap),YP w h→(K w.params).In h)
  (F:∀ (w:World) (mg:Str→Option Value) (fa:Addr) (h:Heap),(K w.params).In h→h.Ns mainGlobals mg→mg d.name=some (.ref fa) →
   ∃ fd:FuncData,(∀ (s:Shared) (u:Value),BindsTo s fd ⟨[u],[]⟩ [(x,u)]) ∧
    ∀ base:Heap,(K w.params).In base→base.Ns mainGlobals mg→FnOk l.prog w (K w.params) mg base (CX w) k fa fd [x] (sp w))
  (hsp:∀ (w:World) (H:Hp) (a:Addr) (ns:List Int),ns.length≤n→Only H→SqL (K w.params) H a (ns.map V.int)→sp w [.ref a] H (fun v _=>v=.bl true) fun _ _ _=>False)
  (hCX:∀ (w:World) (H:Hp) (s:Shared) (e:Value) (s':Shared),CX w [] H s (fun _ _ _=>False) e s'→False) :
  PySem.W.WalkO q loose XP YP l.row.toRowW d [] (fun f vs=>PySem.call f vs):=by
 refine Att.attach_call hn hdf fun w s₀ s₁ mg mb fa o pm cd doc a vs ns G Y ho hd hcd hmg hobj hints hlen hg=>?_
 have KX:=hY w _ Y;obtain⟨fd,hb,hF⟩:=F w mg fa _ KX G.T.g hmg;exact law_call KX G.T.g G.T.b G.T.builtins G.T.nolimit hg hobj hints (Nat.le_trans hlen hn2) hr hF hb (fun H hO hS=>hsp w H a ns hlen hO hS) fun H e s'=>hCX w H s₁ e s'
end L2
/- THE LAST THEOREM (shape;LID,My.* are yours):
   My.Adr: a structure of the addresses that your layer names (classes,functions);My.Txt K t: a structure (Prop) of the equations over K;
   My.txt_mk:{K} {implicit addresses ..} (e1:nsIn K mainGlobals "law"=some (some (.ref f))) (e2:K.lookup f=some ⟨oc,od,.func (fnOf "law" "law" params body scope dV kV doc pm an cdv ct),sl⟩) (e3:codeIn K cdv "law"=true) ..:∃ t,My.Txt K t
set_option maxRecDepth 100000 in
set_option maxHeartbeats 0 in
theorem PySem.Challenge.cw_LID_holds : PySem.Challenge.rw_LID.Holds := by
 w_on;o_law;k_head;(case hw=>w_witness2)
 k_fill
 refine L2.walk_of (l:=PySem.Challenge.rw_LID) (n:=63) (k:=40) (x:="script") (CX:=fun w=>..) (sp:=fun _=>My.sp_law) rfl (by decide) rfl ⟨rfl,by decide,by decide⟩ (fun w h Y=>PySem.W.kIn_of Y) ?F ?S ?C
 case F =>
  intro w mg fa h KX G hmg;have T:∃ t,My.Txt (L2.KOf KX) t:=by
   dsimp only[L2.KOf]                          -- K must stand as «<heap const> w.params» for k_is;refine' My.txt_mk ?e1 ?e2 ?e3 ..
   (case e1=>PySem.W.k_is)                    -- in the order: a name -> its address -> its object -> its parts
   (case e2=>PySem.W.k_is)
   ..
  obtain⟨t,T⟩:=T;have e0:=hmg.symm.trans (PySem.W.mg_of KX G T.law);cases e0                                       -- fa is the law's own address;exact⟨_,fun s u=>.of_eq rfl,fun base kb nb=>My.law_fn T kb nb⟩     -- if «.of_eq rfl» comes too early: refine' ⟨_,?b,fun base kb nb=>My.law_fn T kb nb⟩;exact fun s u=>.of_eq rfl
 case S=>exact fun w H a ns hl hO hS=>..
 case C=>exact ..
(the tactic k_is has no namespace: write k_is) -/
namespace L2
open PySem PySem.Spec PyProof.Rows
def defArgs (s:Stmt):Arguments:=match s with
 | .FunctionDef _ a _ _ _ _ _ _ _ _=>a
 | _=>{posonlyargs:=[],args:=[],vararg:=none,kwonlyargs:=[],kw_defaults:=[],kwarg:=none,defaults:=[]}
def defBody (s:Stmt):List Stmt:=match s with
 | .FunctionDef _ _ b _ _ _ _ _ _ _=>b
 | _=>[]
def defScope (s:Stmt):Scope:=match s with
 | .FunctionDef _ _ _ _ _ _ sc _ _ _=>sc
 | _=>{kind:=.function,names:=[],isGenerator:=false,isCoroutine:=false}
abbrev CX0:CXT:=fun _ _ _ _ _ _=>False
abbrev E0:XK:=fun _ _ _=>False
theorem pass0 {X:Cx}:Passes CX0 X E0:=fun _ _ _ _ _ _ _ h=>h.elim
structure Fun (K:PySem.W.Frag)(x qual:Str)(st:Stmt)(f:Addr)(fd:FuncData):Prop where
 ex:∃ (oc:Value) (od:Option Addr) (kV doc pm:Value) (an:Option Addr) (cdv ct:Value) (osl:Array (Option Value)),
  fd=PySem.W.fnOf x qual (defArgs st) (defBody st) (defScope st) .none kV doc pm an cdv ct∧K.lookup f=some ⟨oc,od,.func fd,osl⟩∧PySem.W.codeIn K cdv qual=true
 kp:PySem.W.keepIn K (.ref f)=true
section
variable {P:Program}{w:World}{K:PySem.W.Frag}{mg:Str→Option Value}{base:Heap}
theorem Fun.ok {x qual:Str}{st:Stmt}{f:Addr}{fd:FuncData}{N ps:List Str}{k:Nat}{sp:Sp}(F:Fun K x qual st f fd)(S:FnScope N ps (defScope st))(len:∀ vs H Q E,sp vs H Q E→vs.length=ps.length)
  (hbody:∀ (cdv:Value) (A:Around) (outer:List Env) (s:Shared) (H:Hp) (vs:List V) (Q:VK) (E:XK),Room k (A.deeper (envOfC qual (defScope st) s.heap.objs.size f cdv))→sp vs H Q E →
   ∃ t,PSs (cxOf CX0 P w K mg base N qual (defScope st) f cdv A outer s H E).nox (defBody st) t∧t {nx:=fun _ H'=>Q .non H',rt:=Q} (start N vs) H):FnOk P w K mg base CX0 (k+1) f fd ps sp:=by
 obtain⟨oc,od,kV,doc,pm,an,cdv,ct,osl,rfl,lk,hcd⟩:=F.ex;refine fn_of lk hcd S len fun A outer s H vs Q E hr hsp=>?_
 obtain⟨t,h,q⟩:=hbody cdv A outer s H vs Q E hr hsp;exact⟨t,h.nox,q⟩
theorem Fun.binds {x qual:Str}{st:Stmt}{f:Addr}{fd:FuncData}{ps:List Str}(F:Fun K x qual st f fd)
  (h:∀ (kV doc pm:Value) (an:Option Addr) (cdv ct:Value) (us:List Value),us.length=ps.length→bindArgs (PySem.W.fnOf x qual (defArgs st) (defBody st) (defScope st) .none kV doc pm an cdv ct) ⟨us,[]⟩=pure (ps.zip us)):Binds K fd ps []:=by
 obtain⟨oc,od,kV,doc,pm,an,cdv,ct,osl,rfl,lk,hcd⟩:=F.ex;exact .all (h kV doc pm an cdv ct)
theorem fun_mk {x qual:Str}{st:Stmt}{f:Addr}{oc:Value}{od an:Option Addr}{osl:Array (Option Value)}{kV doc pm cdv ct:Value}(l:K.lookup f=some ⟨oc,od,.func (PySem.W.fnOf x qual (defArgs st) (defBody st) (defScope st) .none kV doc pm an cdv ct),osl⟩)
  (c:PySem.W.codeIn K cdv qual=true) (k:PySem.W.keepIn K (.ref f)=true):Fun K x qual st f (PySem.W.fnOf x qual (defArgs st) (defBody st) (defScope st) .none kV doc pm an cdv ct):=⟨⟨oc,od,kV,doc,pm,an,cdv,ct,osl,rfl,l,c⟩,k⟩
end
theorem hu_of {A:Around}{k:Nat}(hr:Room k A):A.units+1<cLine:=Nat.lt_of_le_of_lt (Nat.add_le_add_left (by decide:1≤64) _) hr.units
section
variable {X:Cx}
theorem pv (i:Nat){x:Str}{pos:Pos}(hN:X.N[i]?=some x:=by rfl)(hv:Vis X.env.scope x:=by first | exact Or.inl rfl | exact Or.inr (Or.inl rfl) | exact Or.inr (Or.inr rfl))(hd:(x == ("__debug__":Str))=false:=by decide)
  (hcd:(x == ("__classdict__":Str))=false:=by decide):PE X (.Name x pos) (tVar i):=pe_var hN hv hd hcd
end
theorem ite2 {c A B:Prop}[Decidable c](h1:c→A)(h2:¬ c→B):if c then A else B:=by
 by_cases h:c
 ·rw[if_pos h];exact h1 h
 ·rw[if_neg h];exact h2 h
def Same (H H':Hp):Prop:=∀ b o,H b=some o→H' b=some o
theorem Same.refl (H:Hp):Same H H:=fun _ _ h=>h
theorem Same.trans {H H1 H2:Hp}(a:Same H H1)(b:Same H1 H2):Same H H2:=fun c o h=>b c o (a c o h)
theorem Same.free {H H':Hp}(e:Same H H'){l:Addr}(h:H' l=Option.none):H l=Option.none:=by
 cases q:H l with
 | none=>rfl
 | some o =>
  rw[e l o q] at h;cases h
theorem Same.seq {K:PySem.W.Frag}{H H':Hp}{a:Addr}{xs:List V}(e:Same H H')(h:SqL K H a xs):SqL K H' a xs:=by
 rcases h with (h | ⟨o,h⟩) | h
 ·exact .inl (.inl (e _ _ h))
 ·exact .inl (.inr ⟨o,e _ _ h⟩)
 ·exact .inr h
end L2
namespace L2
open PySem PySem.Spec PyProof.Rows
section
variable {κ:Type}[DecidableEq κ]
def valV (kvs:List (κ×V))(k:κ):Option V:=(kvs.find? fun kv=>decide (kv.1=k)).map (·.2)
def putK (kvs:List (κ×V))(k:κ)(v:V):List (κ×V) :=
 if (kvs.any fun kv=>decide (kv.1=k))=true then kvs.map (fun kv=>if kv.1=k then (kv.1,v) else kv) else kvs++[(k,v)]
def dropK (kvs:List (κ×V))(k:κ):List (κ×V):=kvs.filter fun kv=>decide (kv.1≠k)
theorem valV_pos {p:κ×V}{r:List (κ×V)}{k:κ}(e:p.1=k):valV (p::r) k=some p.2:=by simp[valV,List.find?_cons,e]
theorem valV_neg {p:κ×V}{r:List (κ×V)}{k:κ}(e:¬ p.1=k):valV (p::r) k=valV r k:=by simp[valV,List.find?_cons,e]
theorem valV_any (k:κ):∀ kvs:List (κ×V),(kvs.any fun kv=>decide (kv.1=k))=(valV kvs k).isSome
 | []=>rfl
 | p::r=>by
  rw[List.any_cons];by_cases e:p.1=k
  ·simp only[valV_pos e,decide_eq_true e,Bool.true_or,Option.isSome_some]
  ·rw[valV_neg e,decide_eq_false e,Bool.false_or];exact valV_any k r
theorem valV_map (k j:κ)(y:V):∀ kvs:List (κ×V),valV (kvs.map fun kv=>if kv.1=k then (kv.1,y) else kv) j=(valV kvs j).map fun x=>if j=k then y else x
 | []=>rfl
 | p::r=>by
  have ih:=valV_map k j y r;rw[List.map_cons];by_cases h:p.1=k
  ·rw[if_pos h];by_cases e:p.1=j
   ·rw[valV_pos (p:=(p.1,y)) e,valV_pos e,Option.map_some,if_pos (e.symm.trans h)]
   ·rw[valV_neg (p:=(p.1,y)) e,valV_neg e,ih]
  ·rw[if_neg h];by_cases e:p.1=j
   ·rw[valV_pos (p:=p) e,valV_pos e,Option.map_some,if_neg (fun z=>h (e.trans z))]
   ·rw[valV_neg (p:=p) e,valV_neg e,ih]
theorem valV_snoc (k j:κ)(y:V):∀ kvs:List (κ×V),valV kvs k=none→valV (kvs++[(k,y)]) j=if j=k then some y else valV kvs j
 | [],_=>by
  by_cases e:k=j
  ·rw[if_pos e.symm];exact valV_pos (p:=(k,y)) e
  ·rw[if_neg (fun z=>e z.symm)];exact valV_neg (p:=(k,y)) e
 | p::r,hn=>by
  rw[List.cons_append];have hk:¬ p.1=k:=fun z=>by rw[valV_pos z] at hn;cases hn
  rw[valV_neg hk] at hn;have ih:=valV_snoc k j y r hn;by_cases e:p.1=j
  ·rw[valV_pos e,valV_pos e,if_neg (fun z=>hk (e.trans z))]
  ·rw[valV_neg e,valV_neg e,ih]
theorem valV_put (kvs:List (κ×V))(k j:κ)(y:V):valV (putK kvs k y) j=if j=k then some y else valV kvs j:=by
 unfold putK;by_cases a:(kvs.any fun kv=>decide (kv.1=k))=true
 ·rw[if_pos a,valV_map];rw[valV_any] at a;by_cases e:j=k
  ·obtain⟨x,hx⟩:=Option.isSome_iff_exists.mp a;rw[if_pos e,e,hx,Option.map_some,if_pos rfl]
  ·rw[if_neg e];cases valV kvs j with
   | none=>rfl
   | some x=>rw[Option.map_some,if_neg e]
 ·rw[if_neg a];refine valV_snoc k j y kvs ?_;rw[valV_any] at a;cases q:valV kvs k with
  | none=>rfl
  | some x=>rw[q] at a;exact (a rfl).elim
theorem length_putK (kvs:List (κ×V))(k:κ)(v:V):(putK kvs k v).length≤kvs.length+1:=by
 unfold putK;split
 ·rw[List.length_map];omega
 ·rw[List.length_append,List.length_cons,List.length_nil];omega
theorem RelO.isSome_eq {o:Option V}{u:Option Value}(r:RelO o u):o.isSome=u.isSome:=by
 cases o with
 | none=>cases u with
  | none=>rfl
  | some _=>exact (show False from r).elim
 | some _=>cases u with
  | none=>exact (show False from r).elim
  | some _=>rfl
theorem RelO.getD {o:Option V}{u:Option Value}{d:V}{d':Value}(r:RelO o u)(rd:RelV d d'):RelV (o.getD d) (u.getD d'):=by
 cases o with
 | none=>cases u with
  | none=>exact rd
  | some _=>exact (show False from r).elim
 | some _=>cases u with
  | none=>exact (show False from r).elim
  | some _=>exact r
theorem KV.val {kvs:List (κ×V)}{vs:List (κ×Value)}(r:KV kvs vs)(k:κ):RelO (valV kvs k) (valueAt vs k):=by
 unfold KV at r;induction r with
 | nil=>exact True.intro
 | @cons p q ps qs h t ih =>
  obtain⟨h1,h2⟩:=h;by_cases e:p.1=k
  ·have e':q.1=k:=h1.symm.trans e;have b:valueAt (q::qs) k=some q.2:=by simp[valueAt,List.find?_cons,e']
   rw[valV_pos e,b];exact h2
  ·have e':¬ q.1=k:=fun z=>e (h1.trans z)
   have b:valueAt (q::qs) k=valueAt qs k:=by simp[valueAt,List.find?_cons,e']
   rw[valV_neg e,b];exact ih
theorem KV.any {kvs:List (κ×V)}{vs:List (κ×Value)}(r:KV kvs vs)(k:κ):(kvs.any fun kv=>decide (kv.1=k))=vs.any fun kv=>decide (kv.1=k):=by
 unfold KV at r;induction r with
 | nil=>rfl
 | cons h t ih=>rw[List.any_cons,List.any_cons,ih,h.1]
theorem KV.repl {kvs:List (κ×V)}{vs:List (κ×Value)}(r:KV kvs vs)(k:κ){y:V}{u:Value}(ry:RelV y u) :
  KV (kvs.map fun kv=>if kv.1=k then (kv.1,y) else kv) (vs.map fun kv=>if kv.1=k then (kv.1,u) else kv):=by
 unfold KV at r ⊢;induction r with
 | nil=>exact .nil
 | @cons p q ps qs h t ih =>
  rw[List.map_cons,List.map_cons];refine .cons ?_ ih;obtain⟨h1,h2⟩:=h;by_cases e:p.1=k
  ·rw[if_pos e,if_pos (h1.symm.trans e)];exact⟨h1,ry⟩
  ·rw[if_neg e,if_neg (fun z=>e (h1.trans z))];exact⟨h1,h2⟩
theorem KV.put {kvs:List (κ×V)}{vs:List (κ×Value)}(r:KV kvs vs)(k:κ){y:V}{u:Value}(ry:RelV y u):KV (putK kvs k y) (stored vs k u):=by
 unfold putK stored;rw[r.any k];by_cases e:(vs.any fun kv=>decide (kv.1=k))=true
 ·rw[if_pos e,if_pos e];exact r.repl k ry
 ·rw[if_neg e,if_neg e];exact Paired.snoc r ⟨rfl,ry⟩
theorem KV.drop {kvs:List (κ×V)}{vs:List (κ×Value)}(r:KV kvs vs)(k:κ):KV (dropK kvs k) (without vs k):=by
 unfold KV at r ⊢;unfold dropK without;induction r with
 | nil=>exact .nil
 | @cons p q ps qs h t ih =>
  obtain⟨h1,h2⟩:=h;rw[List.filter_cons,List.filter_cons];by_cases e:p.1=k
  ·have a:¬ decide (p.1≠k)=true:=by simp[e]
   have b:¬ decide (q.1≠k)=true:=by simp[h1.symm.trans e]
   rw[if_neg a,if_neg b];exact ih
  ·have e':¬ q.1=k:=fun z=>e (h1.trans z)
   have a:decide (p.1≠k)=true:=by simp[e]
   have b:decide (q.1≠k)=true:=by simp[e']
   rw[if_pos a,if_pos b];exact .cons ⟨h1,h2⟩ ih
theorem KV.keys {kvs:List (κ×V)}{vs:List (κ×Value)}(r:KV kvs vs):kvs.map (·.1)=vs.map (·.1):=by
 unfold KV at r;induction r with
 | nil=>rfl
 | cons h t ih=>rw[List.map_cons,List.map_cons,ih,h.1]
theorem KV.length {kvs:List (κ×V)}{vs:List (κ×Value)}(r:KV kvs vs):kvs.length=vs.length:=Paired.length r
end
theorem kV_is {P:Program}{w:World}{k:Key}{u:Value}(r:RelV (kV k) u):(mixKind P w).is k u=true:=by
 cases k with
 | inl i=>obtain⟨t,e⟩:=(show ∃ t,u=Value.int i t from r);subst e;exact mixKind_int P w i t
 | inr x=>obtain⟨t,e⟩:=(show ∃ t,u=Value.str x t from r);subst e;exact mixKind_str P w x t
theorem items_are {P:Program}{w:World}:∀ {ks:List Key} {us:List Value},Vals (ks.map kV) us→ItemsAre (mixKind P w) ks us
 | [],_,r=>by rw[List.map_nil] at r;cases r;exact .nil
 | k::ks,_,r=>by
  rw[List.map_cons] at r;cases r with
  | cons h t=>exact .cons (kV_is h) (items_are t)
abbrev KT (H:Hp):List (List Key×V)→List (List Key×Addr×Value)→Prop:=Paired fun p q=>p.1=q.1∧H q.2.1=some (.tup (p.1.map kV))∧RelV p.2 q.2.2
theorem KT.val {H:Hp}{kvs:List (List Key×V)}{xs:List (List Key×Addr×Value)}(r:KT H kvs xs)(k:List Key):RelO (valV kvs k) ((atKey xs k).map (·.2)):=by
 induction r with
 | nil=>exact True.intro
 | @cons p q ps qs h t ih =>
  obtain⟨h1,_,h2⟩:=h;by_cases e:p.1=k
  ·have e':q.1=k:=h1.symm.trans e;have b:atKey (q::qs) k=some q.2:=by simp[atKey,List.find?_cons,e']
   rw[valV_pos e,b];exact h2
  ·have e':¬ q.1=k:=fun z=>e (h1.trans z)
   have b:atKey (q::qs) k=atKey qs k:=by simp[atKey,List.find?_cons,e']
   rw[valV_neg e,b];exact ih
theorem KT.repl {H:Hp}{kvs:List (List Key×V)}{xs:List (List Key×Addr×Value)}(r:KT H kvs xs)(k:List Key){y:V}{u:Value}(ry:RelV y u) :
  KT H (kvs.map fun kv=>if kv.1=k then (kv.1,y) else kv) (xs.map (putAt k u)):=by
 induction r with
 | nil=>exact .nil
 | @cons p q ps qs h t ih =>
  rw[List.map_cons,List.map_cons];refine .cons ?_ ih;obtain⟨h1,h2,h3⟩:=h;unfold putAt;by_cases e:p.1=k
  ·rw[if_pos e,if_pos (h1.symm.trans e)];exact⟨h1,h2,ry⟩
  ·rw[if_neg e,if_neg (fun z=>e (h1.trans z))];exact⟨h1,h2,h3⟩
theorem KT.put {H:Hp}{kvs:List (List Key×V)}{xs:List (List Key×Addr×Value)}(r:KT H kvs xs)(k:List Key){b:Addr}{y:V}{u:Value}(hb:H b=some (.tup (k.map kV)))(ry:RelV y u) :
  KT H (putK kvs k y) (storedH xs k b u):=by
 have e:(kvs.any fun kv=>decide (kv.1=k))=(atKey xs k).isSome:=by
  rw[valV_any,(r.val k).isSome_eq,Option.isSome_map]
 unfold putK storedH;rw[e];by_cases q:(atKey xs k).isSome=true
 ·rw[if_pos q,if_pos q];exact r.repl k ry
 ·rw[if_neg q,if_neg q];exact Paired.snoc r ⟨rfl,hb,ry⟩
theorem KT.keeps {H H':Hp}{kvs:List (List Key×V)}{xs:List (List Key×Addr×Value)}(r:KT H kvs xs)(ht:∀ b ys,H b=some (.tup ys)→H' b=some (.tup ys)):KT H' kvs xs :=
 Paired.mapP r fun _ _ z=>⟨z.1,ht _ _ z.2.1,z.2.2⟩
section
variable {P:Program}{w:World}{H:Hp}{h:Heap}{a:Addr}
theorem rd_of {u:HO}(ok:HOk P w H h)(e:Rd H a u):ObjOk P w H h a u:=e.ok ok
theorem dk_rd {kvs:List (Key×V)}(ok:HOk P w H h)(e:Rd H a (.dK kvs)):kvs.length≤sizeLine∧(a == sysModules)=false∧∃ vs,KV kvs vs∧h.DictOf (mixKind P w) a vs :=
 show ObjOk P w H h a (.dK kvs) from rd_of ok e
theorem dk_of {kvs:List (Key×V)}(ok:HOk P w H h)(e:H a=some (.dK kvs)):kvs.length≤sizeLine∧(a == sysModules)=false∧∃ vs,KV kvs vs∧h.DictOf (mixKind P w) a vs:=dk_rd ok (.inl e)
theorem key_of {ks:List Key}(ok:HOk P w H h)(e:H a=some (.tup (ks.map kV))):(tupleKind (mixKind P w)).is h ks a:=by
 obtain⟨_,its,r,o,h1,h2,n,h3⟩:=(show ObjOk P w H h a (.tup (ks.map kV)) from ok a _ e)
 exact⟨o,its.toArray,n,h1,h2,h3,by simpa using items_are r⟩
theorem dt_rd {kvs:List (List Key×V)}(ok:HOk P w H h)(e:Rd H a (.dT kvs)):kvs.length≤sizeLine∧(a == sysModules)=false ∧
  ∃ xs,KT H kvs xs∧h.DictOfH (tupleKind (mixKind P w)) a xs:=by
 obtain⟨z,y,xs,r,o,es,ep,h1,h2,h3,h4,h5⟩:=(show ObjOk P w H h a (.dT kvs) from rd_of ok e)
 refine⟨z,y,xs,r,o,es,ep,h1,h2,h3,h4,fun x hx=>?_,h5⟩;have all:∀ {l:List (List Key×V)} {m:List (List Key×Addr×Value)},KT H l m→∀ x∈m,(tupleKind (mixKind P w)).is h x.1 x.2.1:=by
  intro l m q;induction q with
  | nil=>intro x hx;exact nomatch hx
  | @cons p q ps qs hq t ih =>
   intro x hx;rcases List.mem_cons.mp hx with e | hx
   ·subst e;exact key_of ok (by rw[← hq.1];exact hq.2.1)
   ·exact ih x hx
 exact all r x hx
theorem dt_of {kvs:List (List Key×V)}(ok:HOk P w H h)(e:H a=some (.dT kvs)):kvs.length≤sizeLine∧(a == sysModules)=false ∧
  ∃ xs,KT H kvs xs∧h.DictOfH (tupleKind (mixKind P w)) a xs:=dt_rd ok (.inl e)
end
def DGet (H:Hp)(a:Addr)(y:V)(r:Option V):Prop :=
 (∃ kvs k,Rd H a (.dK kvs)∧y=kV k∧r=valV kvs k)∨∃ kvs k b,Rd H a (.dT kvs)∧y=.ref b∧H b=some (.tup (k.map kV))∧r=valV kvs k
def DPut (H:Hp)(a:Addr)(y v:V)(H':Hp):Prop :=
 (∃ kvs k,H a=some (.dK kvs)∧y=kV k∧kvs.length<sizeLine∧H'=upd H a (.dK (putK kvs k v))) ∨
 ∃ kvs k b,H a=some (.dT kvs)∧y=.ref b∧H b=some (.tup (k.map kV))∧kvs.length<sizeLine∧H'=upd H a (.dT (putK kvs k v))
theorem DGet.k {H:Hp}{a:Addr}{kvs:List (Key×V)}{k:Key}(e:H a=some (.dK kvs)):DGet H a (kV k) (valV kvs k):=.inl ⟨kvs,k,.inl e,rfl,rfl⟩
theorem DGet.t {H:Hp}{a b:Addr}{kvs:List (List Key×V)}{k:List Key}(e:H a=some (.dT kvs))(eb:H b=some (.tup (k.map kV))):DGet H a (.ref b) (valV kvs k):=.inr ⟨kvs,k,b,.inl e,rfl,eb,rfl⟩
theorem DPut.k {H:Hp}{a:Addr}{kvs:List (Key×V)}{k:Key}{v:V}(e:H a=some (.dK kvs))(hl:kvs.length<sizeLine):DPut H a (kV k) v (upd H a (.dK (putK kvs k v))):=.inl ⟨kvs,k,e,rfl,hl,rfl⟩
theorem DPut.t {H:Hp}{a b:Addr}{kvs:List (List Key×V)}{k:List Key}{v:V}(e:H a=some (.dT kvs))(eb:H b=some (.tup (k.map kV)))(hl:kvs.length<sizeLine) :
  DPut H a (.ref b) v (upd H a (.dT (putK kvs k v))):=.inr ⟨kvs,k,b,e,rfl,eb,hl,rfl⟩
section
variable {X:Cx}{pins:List (Addr×Obj)}{σ:St}{H:Hp}{s:Shared}{a:Addr}{y v:V}{u r:Value}{o:Option V}{A:Around}{E:Value→Shared→Prop}
theorem Inv.big (I:Inv X pins σ H s):sysModules<s.heap.objs.size:=by
 have h:mainGlobals<s.heap.objs.size:=(I.mod.glob.keeps I.bk).lt;exact Nat.lt_trans (by decide) h
theorem d_getItem {Q:Value→Shared→Prop}(hu:A.units+1<cLine)(I:Inv X pins σ H s)(g:DGet H a y (some v))(ry:RelV y u)(h:∀ w' s',Inv X pins σ H s'→RelV v w'→Q w' s') :
  wpAny (model X.prog X.w) A (getItem (.ref a) u) Q E s:=by
 rcases g with ⟨kvs,k,e,ey,l⟩ | ⟨kvs,k,b,e,ey,eb,l⟩
 ·subst ey;obtain⟨z,hd,vs,rel,dd⟩:=dk_rd I.hok e;obtain⟨w',hw,rw'⟩:=RelO.some_of (v:=v) (o:=valueAt vs k) (by rw[l];exact rel.val k);exact wpAny_getItem_of (kV_is ry) dd.mapOf hw (h w' _ (I.tok _) rw')
 ·subst ey;cases (show u=Value.ref b from ry);obtain⟨z,hd,xs,rel,dd⟩:=dt_rd I.hok e;obtain⟨w',hw,rw'⟩:=RelO.some_of (v:=v) (o:=(atKey xs k).map (·.2)) (by rw[l];exact rel.val k);obtain⟨p,hp,hp2⟩:=Option.map_eq_some_iff.mp hw;refine wpAny_getItem_heap (tupleKind_room_in1 hu) (key_of I.hok eb) dd hp ?_;rw[hp2];exact h w' _ (I.tok _) rw'
theorem d_in {Q:Value→Shared→Prop}(hu:A.units+1<cLine)(I:Inv X pins σ H s)(g:DGet H a y o)(ry:RelV y u)(h:∀ s',Inv X pins σ H s'→Q (.bool o.isSome) s') :
  wpAny (model X.prog X.w) A (compareOp .In u (.ref a)) Q E s:=by
 rcases g with ⟨kvs,k,e,ey,l⟩ | ⟨kvs,k,b,e,ey,eb,l⟩
 ·subst ey;obtain⟨z,hd,vs,rel,dd⟩:=dk_rd I.hok e;refine wpAny_in_of (kV_is ry) hd dd.mapOf ?_;rw[← (rel.val k).isSome_eq,← l];exact h _ (I.tok _)
 ·subst ey;cases (show u=Value.ref b from ry);obtain⟨z,hd,xs,rel,dd⟩:=dt_rd I.hok e;refine wpAny_in_heap (tupleKind_room_in1 hu) (key_of I.hok eb) hd dd ?_;have q:=(rel.val k).isSome_eq;rw[Option.isSome_map] at q;rw[← q,← l];exact h _ (I.tok _)
theorem d_notIn {Q:Value→Shared→Prop}(hu:A.units+1<cLine)(I:Inv X pins σ H s)(g:DGet H a y o)(ry:RelV y u)(h:∀ s',Inv X pins σ H s'→Q (.bool (!o.isSome)) s') :
  wpAny (model X.prog X.w) A (compareOp .NotIn u (.ref a)) Q E s:=by
 rcases g with ⟨kvs,k,e,ey,l⟩ | ⟨kvs,k,b,e,ey,eb,l⟩
 ·subst ey;obtain⟨z,hd,vs,rel,dd⟩:=dk_rd I.hok e;refine wpAny_notIn_of (kV_is ry) hd dd.mapOf ?_;rw[← (rel.val k).isSome_eq,← l];exact h _ (I.tok _)
 ·subst ey;cases (show u=Value.ref b from ry);obtain⟨z,hd,xs,rel,dd⟩:=dt_rd I.hok e;refine wpAny_notIn_heap (tupleKind_room_in1 hu) (key_of I.hok eb) hd dd ?_;have q:=(rel.val k).isSome_eq;rw[Option.isSome_map] at q;rw[← q,← l];exact h _ (I.tok _)
theorem d_write {h':Heap}{t':Nat}{ob:HO}(I:Inv X pins σ H s)(mu:Mut (H a))(hs:Heap.SameBut a s.heap h')(he:∃ q,h'.get? a=some q)(new:ObjOk X.prog X.w (upd H a ob) h' a ob) :
  Inv X pins σ (upd H a ob) {s with heap:=h',toks:=t'} :=
 I.write (x:=a) (e:=a) mu (.inl rfl) (fun b q hb z=>(hs.2 b hb).trans z) he new
theorem dk_new {P:Program}{w:World}{H':Hp}{h':Heap}{kvs:List (Key×V)}{vs:List (Key×Value)}(z:kvs.length≤sizeLine)(hd:(a == sysModules)=false)(rel:KV kvs vs)(dd:h'.DictOf (mixKind P w) a vs) :
  ObjOk P w H' h' a (.dK kvs):=⟨z,hd,vs,rel,dd⟩
theorem d_setItem {H':Hp}{Q:Unit→Shared→Prop}(hu:A.units+1<cLine)(I:Inv X pins σ H s)(g:DPut H a y v H')(ry:RelV y u)(rv:RelV v r)(h:∀ s',Inv X pins σ H' s'→Q () s') :
  wpAny (model X.prog X.w) A (setItem (.ref a) u r) Q E s:=by
 rcases g with ⟨kvs,k,e,ey,l,eH⟩ | ⟨kvs,k,b,e,ey,eb,l,eH⟩
 ·subst ey eH;obtain⟨z,hd,vs,rel,dd⟩:=dk_of I.hok e;have hz:vs.length≤sizeLine:=by rw[← rel.length];exact z
  have hl:(putK kvs k v).length≤sizeLine:=by have:=length_putK kvs k v;omega
  refine wpAny_setItem_pairs (hsz:=hz) (kV_is ry) dd fun h' dd' hs=>h _ ?_
  have he:∃ q,h'.get? a=some q:=let ⟨q,_,_,hq,_⟩:=dd';⟨q,hq⟩;exact d_write I (by rw[e];exact True.intro) hs he (dk_new hl hd (rel.put k rv) dd')
 ·subst ey eH;cases (show u=Value.ref b from ry);obtain⟨z,hd,xs,rel,dd⟩:=dt_of I.hok e;have hz:xs.length≤sizeLine:=by rw[← Paired.length rel];exact z
  have hl:(putK kvs k v).length≤sizeLine:=by have:=length_putK kvs k v;omega
  refine wpAny_setItem_heap (hsz:=hz) (tupleKind_room_in1 hu) (key_of I.hok eb) dd fun h' dd' hs=>h _ ?_
  obtain⟨q,es,ep,hq,h2,h3,h4,_,h5⟩:=dd';refine d_write I (by rw[e];exact True.intro) hs ⟨q,hq⟩ ⟨hl,hd,_,(rel.put k eb rv).keeps fun c ys ec=>?_,q,es,ep,hq,h2,h3,h4,h5⟩;rw[upd_ne (ne_of ec e (fun z=>nomatch z))];exact ec
end
section
variable {X:Cx}{pins:List (Addr×Obj)}{σ:St}{H:Hp}{s:Shared}{a:Addr}{kvs:List (Key×V)}{k:Key}{u:Value}{A:Around}{E:Value→Shared→Prop}
end
def NoSl (i:Expr):Prop:=∀ ov iv,subscripted i false ov iv=operate [ov,iv] (getItem ov iv)
theorem subD_of {prog:Program}{w:World}{A:Around}{E:Value→Shared→Prop}{s:Shared}{env:Env}{value slice:Expr}{pos:Pos}{T id:String}{Q:Value→Shared→Prop}
  (hl:typeLookup (.type T) "__getitem__"=pure (some (.builtin id))) (hs:NoSl slice)
  (h:wpAny (model prog w) A (eval value env) (fun o s₁=>wpAny (model prog w) A (eval slice env) (fun i s₂=>s₂.TypeIs o T∧wpAny (model prog w) A (getItem o i) Q E s₂) E s₁) E s) :
  wpAny (model prog w) A (eval (.Subscript value slice pos) env) Q E s:=by
 refine Subscript_ (wpAny_mono h (fun o s₁ h₁=>wpAny_mono h₁ (fun i s₂ h₂=>?_) fun _ _ x=>x) fun _ _ x=>x);obtain⟨hT,h₂⟩:=h₂;unfold subscriptTail;refine wpAny_bind ?_;rw[getitemInPython_of_ne hT.not_modules];refine wpAny_bind (wpAny_specialOf hT hl ?_);have fin:wpAny (model prog w) A (subscripted slice false o i) (fun r s₃=>wpAny (model prog w) A (letTemporaryGo value o r >>= fun _=>pure r) Q E s₃) E s₂:=by
  rw[hs o i];exact wpAny_operating (wpAny_mono h₂ (fun r s₃ h₃=>wpAny_bind (wpAny_letTemporaryGo (wpAny_pure h₃))) fun _ _ x=>x)
 first
  | exact wpAny_pure (wpAny_bind fin)
  | exact wpAny_bind (wpAny_pure (wpAny_bind fin))
  | exact wpAny_bind fin
theorem dict_typeIs {X:Cx}{pins:List (Addr×Obj)}{σ:St}{H:Hp}{s:Shared}{a:Addr}{y:V}{o:Option V}(I:Inv X pins σ H s)(g:DGet H a y o):s.TypeIs (.ref a) "dict":=by
 rcases g with ⟨kvs,k,e,_,_⟩ | ⟨kvs,k,b,e,_,_,_⟩
 ·obtain⟨_,_,vs,_,dd⟩:=dk_rd I.hok e;exact dd.typeIs
 ·obtain⟨_,_,xs,_,dd⟩:=dt_rd I.hok e;exact dd.typeIs
def tDGet (td ty:TE):TE:=fun σ H Q=>td σ H fun x H1=>ty σ H1 fun y H2=>∃ a v,x=.ref a∧DGet H2 a y (some v)∧Q v H2
def tDIn (ty td:TE):TE:=fun σ H Q=>ty σ H fun y H1=>td σ H1 fun x H2=>∃ a o,x=.ref a∧DGet H2 a y o∧Q (.bl o.isSome) H2
def tDNotIn (ty td:TE):TE:=fun σ H Q=>ty σ H fun y H1=>td σ H1 fun x H2=>∃ a o,x=.ref a∧DGet H2 a y o∧Q (.bl (!o.isSome)) H2
def sDPut (td ty tv:TE):TS:=fun D σ H=>tv σ H fun v H1=>td σ H1 fun x H2=>ty σ H2 fun y H3=>∃ a H4,x=.ref a∧DPut H3 a y v H4∧D.nx σ H4
section
variable {X:Cx}{o i e value:Expr}{pos pos' tpos:Pos}{td ty tv:TE}
theorem pe_dget (hu:X.A.units+1<cLine)(ho:PE X o td)(hi:PE X i ty)(hs:NoSl i):PE X (.Subscript o i pos) (tDGet td ty):=by
 intro pins s σ H Q I h;refine subD_of PySem.F.slot_dict_getitem.lookup hs (thn (ho pins s σ H _ I h) fun u s1 ⟨x,H1,I1,rx,q1⟩=>thn (hi pins s1 σ H1 _ I1 q1) fun iv s2 ⟨y,H2,I2,ry,a,v,ex,g,q2⟩=>?_);subst ex;obtain rfl:u=Value.ref a:=rx;exact⟨dict_typeIs I2 g,d_getItem hu I2 g ry fun w' s3 I3 rw'=>⟨v,H2,I3,rw',q2⟩⟩
theorem pc_din (hu:X.A.units+1<cLine)(hi:PE X i ty)(ho:PE X o td):PC X .In i o (tDIn ty td):=by
 intro pins s σ H Q I h;refine thn (hi pins s σ H _ I h) fun iv s1 ⟨y,H1,I1,ry,q1⟩=>thn (ho pins s1 σ H1 _ I1 q1) fun u s2 ⟨x,H2,I2,rx,a,ov,ex,g,q2⟩=>?_
 subst ex;obtain rfl:u=Value.ref a:=rx;exact d_in hu I2 g ry fun s3 I3=>⟨.bl ov.isSome,H2,I3,rfl,q2⟩
theorem pc_dnotin (hu:X.A.units+1<cLine)(hi:PE X i ty)(ho:PE X o td):PC X .NotIn i o (tDNotIn ty td):=by
 intro pins s σ H Q I h;refine thn (hi pins s σ H _ I h) fun iv s1 ⟨y,H1,I1,ry,q1⟩=>thn (ho pins s1 σ H1 _ I1 q1) fun u s2 ⟨x,H2,I2,rx,a,ov,ex,g,q2⟩=>?_
 subst ex;obtain rfl:u=Value.ref a:=rx;exact d_notIn hu I2 g ry fun s3 I3=>⟨.bl (!ov.isSome),H2,I3,rfl,q2⟩
theorem ps_dput (hu:X.A.units+1<cLine)(ho:PE X o td)(hi:PE X i ty)(hv:PE X value tv)(hs:swapsWith value (some (.Subscript o i pos')) pos.line X.env=pure false) :
  PS X (.Assign [.Subscript o i pos'] value pos) (sDPut td ty tv):=by
 intro pins s σ H D I h;refine wpAny_Assign_Subscript (thn (hv pins s σ H _ I h) fun r s1 ⟨v,H1,I1,rv,q1⟩=>thn (ho pins s1 σ H1 _ I1 q1) fun u s2 ⟨x,H2,I2,rx,q2⟩=>thn (hi pins s2 σ H2 _ I2 q2) fun iv s3 ⟨y,H3,I3,ry,a,H4,ex,g,q3⟩=>?_) hs;subst ex;obtain rfl:u=Value.ref a:=rx;exact d_setItem hu I3 g ry rv fun s4 I4=>⟨σ,H4,I4,q3⟩
end
theorem dk_empty {P:Program}{w:World}{H:Hp}(h:Heap)(hb:sysModules<h.objs.size):ObjOk P w H (h.push {cls:=.type "dict",data:=.dict #[]}) h.objs.size (.dK []) :=
 ⟨Nat.zero_le _,beq_eq_false_iff_ne.mpr (Ne.symm (Nat.ne_of_lt hb)),[],.nil,Heap.DictOf.new h⟩
theorem dt_empty {P:Program}{w:World}{H:Hp}(h:Heap)(hb:sysModules<h.objs.size):ObjOk P w H (h.push {cls:=.type "dict",data:=.dict #[]}) h.objs.size (.dT []) :=
 ⟨Nat.zero_le _,beq_eq_false_iff_ne.mpr (Ne.symm (Nat.ne_of_lt hb)),[],.nil,_,#[],0,Heap.get?_push_size _ rfl,⟨rfl,rfl,rfl⟩,rfl,rfl,List.nodup_nil⟩
def tDNewK:TE:=fun _ H Q=>∀ p,H p=none→Q (.ref p) (upd H p (.dK []))
def tDNewT:TE:=fun _ H Q=>∀ p,H p=none→Q (.ref p) (upd H p (.dT []))
section
variable {X:Cx}{pos:Pos}
theorem pe_dnewK:PE X (.Dict [] [] pos) tDNewK:=fun pins s σ H Q I h =>
 wpAny_Dict_empty ⟨.ref s.heap.objs.size,_,I.laid (a:=s.heap.objs.size) (o:=.dK []) (t':=s.toks) (fun _ _ q=>Heap.get?_push_of_some _ q) (Nat.le_refl _) (dk_empty s.heap I.big),rfl,h _ (I.hok.fresh (Nat.le_refl _))⟩
theorem pe_dnewT:PE X (.Dict [] [] pos) tDNewT:=fun pins s σ H Q I h =>
 wpAny_Dict_empty ⟨.ref s.heap.objs.size,_,I.laid (a:=s.heap.objs.size) (o:=.dT []) (t':=s.toks) (fun _ _ q=>Heap.get?_push_of_some _ q) (Nat.le_refl _) (dt_empty s.heap I.big),rfl,h _ (I.hok.fresh (Nat.le_refl _))⟩
end
section
variable {X:Cx}{pins:List (Addr×Obj)}{σ:St}{H:Hp}{s:Shared}{a:Addr}{y d:V}{u r:Value}{o:Option V}{A:Around}{E:Value→Shared→Prop}
end
section
variable {X:Cx}{o e f:Expr}{apos cpos:Pos}{td ty tx:TE}
end
section
variable {X:Cx}{pins:List (Addr×Obj)}{σ:St}{H:Hp}{s:Shared}{a:Addr}{kvs:List (Key×V)}{A:Around}{E:Value→Shared→Prop}
end
section
variable {X:Cx}{pins:List (Addr×Obj)}{σ:St}{H:Hp}{s:Shared}{a:Addr}{y:V}{u:Value}{A:Around}{E:Value→Shared→Prop}
end
end L2
namespace L2
open PySem PySem.Spec PyProof.Rows
section
variable {X:Cx}
end
section
variable {κ:Type}[DecidableEq κ]
end
end L2
end
section
set_option maxHeartbeats 8000000
local macro_rules | `(tactic| omega)=>`(tactic| first | lia | omega +splitDisjunctions)
set_option Elab.async false
set_option linter.all false
set_option maxRecDepth 100000
namespace Ts
open PySem PyProof.Rows
set_option autoImplicit false
end Ts
namespace Ts
open PySem PyProof.Rows
set_option autoImplicit false
def el (xs:Array Keyed)(i:Nat):Keyed:=(xs[i]?).getD (Value.none,Value.none)
theorem el_some {xs:Array Keyed}{i:Nat}(h:i<xs.size):xs[i]?=some (el xs i):=by
 unfold el;rw[getElem?_pos xs i h];rfl
theorem el_congr {xs ys:Array Keyed}{i j:Nat}(h:xs[i]?=ys[j]?):el xs i=el ys j:=by unfold el;rw[h]
theorem el_mem {xs:Array Keyed}{i:Nat}(h:i<xs.size):el xs i∈xs.toList:=by
 have e:el xs i=xs[i]:=by unfold el;rw[getElem?_pos xs i h];rfl
 rw[e];simp
section
variable {O:KeyOrd}{key:Keyed→O.α}
abbrev KA {O:KeyOrd}(key:Keyed→O.α)(xs:Array Keyed)(i:Nat):O.α:=key (el xs i)
theorem KA_congr {xs ys:Array Keyed}{i j:Nat}(h:xs[i]?=ys[j]?):KA key xs i=KA key ys j:=by unfold KA;rw[el_congr h]
def Seg {O:KeyOrd}(key:Keyed→O.α)(xs:Array Keyed)(lo hi:Nat):Prop:=∀ i j,lo≤i→i≤j→j<hi→O.kle (KA key xs i) (KA key xs j)
def SegD {O:KeyOrd}(key:Keyed→O.α)(xs:Array Keyed)(lo hi:Nat):Prop:=∀ i j,lo≤i→i≤j→j<hi→O.kle (KA key xs j) (KA key xs i)
theorem Seg.one (xs:Array Keyed)(lo:Nat):Seg key xs lo (lo+1):=fun i j h1 h2 h3=>by
 have:i=j:=by omega
 subst this;exact KeyOrd.kle_refl _
theorem Seg.congr {xs ys:Array Keyed}{lo hi:Nat}(h:Seg key xs lo hi)(e:∀ i,lo≤i→i<hi→KA key ys i=KA key xs i):Seg key ys lo hi:=fun i j a b c=>by
 rw[e i a (by omega),e j (by omega) c];exact h i j a b c
theorem KA_bubble {xs:Array Keyed}{src d:Nat}(hs:src<xs.size)(hd:d≤src)(k:Nat) :
  KA key (bubble xs src d) k=if k=src-d then KA key xs src else if src-d<k∧k≤src then KA key xs (k-1) else KA key xs k:=by
 have e:=getElem?_bubble hs d hd k;by_cases h1:k=src-d
 ·rw[if_pos h1] at e ⊢;exact KA_congr e
 ·rw[if_neg h1] at e ⊢;by_cases h2:src-d<k∧k≤src
  ·rw[if_pos h2] at e ⊢;exact KA_congr e
  ·rw[if_neg h2] at e ⊢;exact KA_congr e
theorem KA_mirror {xs:Array Keyed}{i j:Nat}(hj:j≤xs.size)(k:Nat) :
  KA key (mirror xs i j ((j-i) / 2)) k=if i≤k∧k<j then KA key xs (i+j-1-k) else KA key xs k:=by
 have e:=getElem?_mirror_all (i:=i) hj k;by_cases h1:i≤k∧k<j
 ·rw[if_pos h1] at e ⊢;exact KA_congr e
 ·rw[if_neg h1] at e ⊢;exact KA_congr e
theorem KA_mirror_equal {xs:Array Keyed}{i j:Nat}(hj:j≤xs.size)(heq:∀ k,i≤k→k<j→KA key xs k=KA key xs (j-1))(k:Nat) :
  KA key (mirror xs i j ((j-i) / 2)) k=KA key xs k:=by
 rw[KA_mirror hj];split
 ·rw[heq _ (by omega) (by omega),heq k (by omega) (by omega)]
 ·rfl
end
structure SB (a₀:Array Keyed)(knd:SortKind)(st:SortSt):Prop where
 perm:(arrOf st).Perm a₀
 kind:kindOf st=knd
 failed:failedOf st=none
theorem SB.size {a₀:Array Keyed}{knd:SortKind}{st:SortSt}(h:SB a₀ knd st):(arrOf st).size=a₀.size:=h.perm.size_eq
theorem SB.setArr {a₀:Array Keyed}{knd:SortKind}{st:SortSt}(h:SB a₀ knd st){xs:Array Keyed}(hp:xs.Perm (arrOf st)):SB a₀ knd (setArr st xs):=⟨hp.trans h.perm,h.kind,h.failed⟩
theorem SB.mem {a₀:Array Keyed}{knd:SortKind}{st:SortSt}(h:SB a₀ knd st){i:Nat}(hi:i<a₀.size):el (arrOf st) i∈a₀.toList :=
 (Array.perm_iff_toList_perm.mp h.perm).mem_iff.mp (el_mem (by rw[h.size];exact hi))
def Cmp (M:Model)(A:Around)(E:Value→Shared→Prop)(s:Shared)(knd:SortKind)(O:KeyOrd)(key:Keyed→O.α)(a₀:Array Keyed):Prop :=
 ∀ p∈a₀.toList,∀ q∈a₀.toList,∀ (st:SortSt) (Q:Option Bool→SortSt→Prop),kindOf st=knd→Q (some (O.blt (key p) (key q))) st→wpS M A E s (lt' p q) Q st
section
variable {M:Model}{A:Around}{E:Value→Shared→Prop}{s:Shared}{a₀:Array Keyed}{knd:SortKind}{O:KeyOrd}{key:Keyed→O.α}
theorem wpS_elem {xs:Array Keyed}{i:Nat}{Q:Keyed→SortSt→Prop}{st:SortSt}(h:i<xs.size)(q:Q (el xs i) st):wpS M A E s (elem' xs i) Q st:=by
 rw[elem'_eq,el_some h];exact wpS_pure q
theorem wpS_ltI {st:SortSt}{i j:Nat}{Q:Option Bool→SortSt→Prop}(C:Cmp M A E s knd O key a₀)(hB:SB a₀ knd st)(hi:i<a₀.size)(hj:j<a₀.size)
  (h:Q (some (O.blt (KA key (arrOf st) i) (KA key (arrOf st) j))) st):wpS M A E s (ltAt' i j) Q st:=by
 rw[ltAt'_eq];refine wpS_bind (wpS_get ?_);refine wpS_bind (wpS_elem (by rw[hB.size];exact hi) ?_);refine wpS_bind (wpS_elem (by rw[hB.size];exact hj) ?_);exact C _ (hB.mem hi) _ (hB.mem hj) st Q hB.kind h
theorem wpS_rev {st:SortSt}{i j:Nat}{Q:Unit→SortSt→Prop}(h:Q () (setArr st (mirror (arrOf st) i j ((j-i) / 2)))):wpS M A E s (reverseSlice' i j) Q st:=by
 rw[reverseSlice'_eq];exact wpS_modify h
theorem wpS_rule {st:SortSt}{Q:Unit→SortSt→Prop}{x:String}(h:Q () st):wpS M A E s (liftM (rule x):StateT SortSt Sem Unit) Q st:=wpS_lift (wpAny_rule ⟨rfl,h⟩)
def ascL (lo a nrem:Nat):StateT SortSt Sem AscSt :=
 forIn [a:nrem] ((none,a):AscSt) fun _ c=>do
  let x ← ltAt' (lo+c.snd) (lo+c.snd-1)
  match x with
  | some sm=>if sm=true then pure (ForInStep.done (none,c.snd)) else pure (ForInStep.yield (none,c.snd+1))
  | _=>pure (ForInStep.done (some none,c.snd))
def t3L (lo n nrem:Nat):StateT SortSt Sem (Option Nat):=do
 reverseSlice' lo (lo+n)
 let c ← ascL lo n nrem
 match c.fst with
 | some r=>pure r
 | none=>pure (some c.snd)
def desL (lo n nrem:Nat):StateT SortSt Sem DescSt :=
 forIn [n:nrem] ((none,n,0):DescSt) fun _ c=>do
  let x ← ltAt' (lo+c.snd.fst) (lo+c.snd.fst-1)
  match x with
  | some sm =>
   if sm=true then
    if c.snd.snd>0 then do
     reverseSlice' (lo+c.snd.fst-(c.snd.snd+1)) (lo+c.snd.fst)
     pure (ForInStep.yield (none,c.snd.fst+1,0))
    else pure (ForInStep.yield (none,c.snd.fst+1,0))
   else do
    let y ← ltAt' (lo+c.snd.fst-1) (lo+c.snd.fst)
    match y with
    | some la =>
     if la=true then pure (ForInStep.done (none,c.snd.fst,c.snd.snd))
     else pure (ForInStep.yield (none,c.snd.fst+1,c.snd.snd+1))
    | _=>pure (ForInStep.done (some none,c.snd.fst,c.snd.snd))
  | _=>pure (ForInStep.done (some none,c.snd.fst,c.snd.snd))
def desP (lo n nrem:Nat):StateT SortSt Sem (Option Nat):=do
 liftM (rule "list.sort.descending-run")
 let c ← desL lo (n+1) nrem
 match c.fst with
 | some r=>pure r
 | none =>
  if c.snd.snd>0 then do
   reverseSlice' (lo+c.snd.fst-(c.snd.snd+1)) (lo+c.snd.fst)
   t3L lo c.snd.fst nrem
  else t3L lo c.snd.fst nrem
theorem cR_eq (lo nrem:Nat):countRun' lo nrem=(do
  let c ← ascL lo 1 nrem
  match c.fst with
  | some r=>pure r
  | none =>
   if (c.snd == nrem)=true then pure (some c.snd)
   else if c.snd>1 then do
    let x ← ltAt' lo (lo+c.snd-1)
    match x with
    | some rs=>if rs=true then pure (some c.snd) else do
      reverseSlice' lo (lo+c.snd)
      desP lo c.snd nrem
    | _=>pure none
   else desP lo c.snd nrem):=by
 rw[countRun'_eq];unfold desP t3L desL ascL;refine bind_congr fun c=>?_
 obtain⟨r,n⟩:=c;cases r with
 | some r=>rfl
 | none =>
  dsimp only;split
  ·rfl
  ·split
   ·refine bind_congr fun x=>?_
    cases x with
    | none=>rfl
    | some rs =>
     dsimp only;split
     ·rfl
     ·refine bind_congr fun u=>?_
      refine bind_congr fun v=>?_
      refine bind_congr fun d=>?_
      obtain⟨r2,n2,q2⟩:=d;cases r2 with
      | some r2=>rfl
      | none =>
       dsimp only;split
       ·refine bind_congr fun e=>?_
        refine bind_congr fun e=>?_
        refine bind_congr fun d=>?_
        obtain⟨r3,n3⟩:=d;cases r3<;>rfl
       ·refine bind_congr fun e=>?_
        refine bind_congr fun d=>?_
        obtain⟨r3,n3⟩:=d;cases r3<;>rfl
   ·refine bind_congr fun v=>?_
    refine bind_congr fun d=>?_
    obtain⟨r2,n2,q2⟩:=d;cases r2 with
    | some r2=>rfl
    | none =>
     dsimp only;split
     ·refine bind_congr fun e=>?_
      refine bind_congr fun e=>?_
      refine bind_congr fun d=>?_
      obtain⟨r3,n3⟩:=d;cases r3<;>rfl
     ·refine bind_congr fun e=>?_
      refine bind_congr fun d=>?_
      obtain⟨r3,n3⟩:=d;cases r3<;>rfl
structure From (lo:Nat)(st st':SortSt):Prop where
 low:∀ i,i<lo→(arrOf st')[i]?=(arrOf st)[i]?
 pend:pendingOf st'=pendingOf st
theorem From.refl (lo:Nat)(st:SortSt):From lo st st:=⟨fun _ _=>rfl,rfl⟩
theorem From.trans {lo:Nat}{a b c:SortSt}(h:From lo a b)(k:From lo b c):From lo a c:=⟨fun i hi=>(k.low i hi).trans (h.low i hi),k.pend.trans h.pend⟩
theorem From.mirror {lo i j:Nat}{st:SortSt}(hi:lo≤i)(hj:j≤(arrOf st).size):From lo st (PyProof.Rows.setArr st (PyProof.Rows.mirror (arrOf st) i j ((j-i) / 2))) :=
 ⟨fun k hk=>by show (PyProof.Rows.mirror (arrOf st) i j ((j-i) / 2))[k]?=_;rw[getElem?_mirror_all hj,if_neg (by omega)],rfl⟩
theorem From.bubble {lo src d:Nat}{st:SortSt}(hs:src<(arrOf st).size)(hd:d≤src)(hl:lo≤src-d):From lo st (PyProof.Rows.setArr st (PyProof.Rows.bubble (arrOf st) src d)) :=
 ⟨fun k hk=>by show (PyProof.Rows.bubble (arrOf st) src d)[k]?=_;rw[getElem?_bubble hs d hd,if_neg (by omega),if_neg (by omega)],rfl⟩
theorem wpS_ascL {st:SortSt}{lo a nrem:Nat}{Q:AscSt→SortSt→Prop}(C:Cmp M A E s knd O key a₀)(hn:lo+nrem≤a₀.size)(ha:1≤a)(han:a≤nrem)(hB:SB a₀ knd st)
  (hs:Seg key (arrOf st) lo (lo+a))
  (h:∀ n,a≤n→n≤nrem→Seg key (arrOf st) lo (lo+n)→(n=nrem∨O.klt (KA key (arrOf st) (lo+n)) (KA key (arrOf st) (lo+n-1)))→Q (none,n) st) :
  wpS M A E s (ascL lo a nrem) Q st:=by
 unfold ascL;refine wpS_forRange (I:=fun x c st'=>st'=st∧c=(none,x)∧Seg key (arrOf st) lo (lo+x)) ?step ?fin ⟨rfl,rfl,hs⟩
 case fin =>
  rintro c st' ⟨rfl,rfl,hs'⟩;rw[show max a nrem=nrem by omega] at hs' ⊢;exact h nrem han (Nat.le_refl _) hs' (.inl rfl)
 case step =>
  rintro x c st' hax hxn ⟨rfl,rfl,hs'⟩;dsimp only;refine wpS_bind (wpS_ltI C hB (by omega) (by omega) ?_);cases hless:O.blt (KA key (arrOf st') (lo+x)) (KA key (arrOf st') (lo+x-1))
  case true =>
   simp only[if_true];exact wpS_pure (h x hax (by omega) hs' (.inr hless))
  case false =>
   simp only[Bool.false_eq_true,if_false];refine wpS_pure ⟨rfl,rfl,fun i j hli hij hj=>?_⟩;by_cases hjx:j<lo+x
   ·exact hs' i j hli hij hjx
   ·have hj':j=lo+x:=by omega
    subst hj';by_cases hi':i=lo+x
    ·subst hi';exact KeyOrd.kle_refl _
    ·exact KeyOrd.kle_trans (hs' i (lo+x-1) hli (by omega) (by omega)) hless
theorem wpS_t3L {st:SortSt}{lo n nrem:Nat}{Q:Option Nat→SortSt→Prop}(C:Cmp M A E s knd O key a₀)(hn:lo+nrem≤a₀.size)(h1:1≤n)(hnn:n≤nrem)(hB:SB a₀ knd st)
  (hs:SegD key (arrOf st) lo (lo+n)) (h:∀ m st',SB a₀ knd st'→From lo st st'→1≤m→m≤nrem→Seg key (arrOf st') lo (lo+m)→Q (some m) st') :
  wpS M A E s (t3L lo n nrem) Q st:=by
 unfold t3L;have hsz:lo+n≤(arrOf st).size:=by rw[hB.size];omega
 refine wpS_bind (wpS_rev ?_);have hB':SB a₀ knd (setArr st (mirror (arrOf st) lo (lo+n) ((lo+n-lo) / 2))):=hB.setArr (mirror_perm _ _ _ _);have hF:=From.mirror (Nat.le_refl lo) hsz;refine wpS_bind (wpS_ascL C hn h1 hnn hB' ?_ fun m hm1 hm2 hsm _=>wpS_pure (h m _ hB' hF (by omega) hm2 hsm));intro i j hli hij hj;show O.kle (KA key (mirror (arrOf st) lo (lo+n) ((lo+n-lo) / 2)) i) (KA key (mirror (arrOf st) lo (lo+n) ((lo+n-lo) / 2)) j);rw[KA_mirror hsz,KA_mirror hsz,if_pos (by omega),if_pos (by omega)];exact hs _ _ (by omega) (by omega) (by omega)
theorem wpS_desL {st:SortSt}{lo n nrem:Nat}{Q:DescSt→SortSt→Prop}(C:Cmp M A E s knd O key a₀)(hn:lo+nrem≤a₀.size)(h1:1≤n)(hnn:n≤nrem)(hB:SB a₀ knd st)
  (hs:SegD key (arrOf st) lo (lo+n))
  (h:∀ m neq st',SB a₀ knd st'→From lo st st'→n≤m→m≤nrem→SegD key (arrOf st') lo (lo+m)→neq+1≤m→(∀ i,lo+m-(neq+1)≤i→i<lo+m→KA key (arrOf st') i=KA key (arrOf st') (lo+m-1))→Q (none,m,neq) st') :
  wpS M A E s (desL lo n nrem) Q st:=by
 unfold desL
 refine wpS_forRange (I:=fun x c st'=>∃ neq,c=(none,x,neq)∧SB a₀ knd st'∧From lo st st'∧SegD key (arrOf st') lo (lo+x)∧neq+1≤x ∧
   (∀ i,lo+x-(neq+1)≤i→i<lo+x→KA key (arrOf st') i=KA key (arrOf st') (lo+x-1))) ?step ?fin ⟨0,rfl,hB,From.refl _ _,hs,by omega,fun i h1 h2=>by congr 1;congr 1;omega⟩
 case fin =>
  rintro c st' ⟨neq,rfl,hB',hF,hs',hq,he⟩;rw[show max n nrem=nrem by omega] at hs' hq he ⊢;exact h nrem neq st' hB' hF hnn (Nat.le_refl _) hs' hq he
 case step =>
  rintro x c st' hax hxn ⟨neq,rfl,hB',hF,hs',hq,he⟩;dsimp only;have hsz:lo+x≤(arrOf st').size:=by rw[hB'.size];omega
  refine wpS_bind (wpS_ltI C hB' (by omega) (by omega) ?_);cases hless:O.blt (KA key (arrOf st') (lo+x)) (KA key (arrOf st') (lo+x-1))
  case true =>
   simp only[if_true];have step1:∀ xs:Array Keyed,(∀ k,KA key xs k=KA key (arrOf st') k)→SegD key xs lo (lo+(x+1)):=by
    intro xs hk i j hli hij hj;rw[hk,hk];by_cases hjx:j<lo+x
    ·exact hs' i j hli hij hjx
    ·have hj':j=lo+x:=by omega
     subst hj';by_cases hi':i=lo+x
     ·subst hi';exact KeyOrd.kle_refl _
     ·exact KeyOrd.kle_trans (KeyOrd.kle_of_klt hless) (hs' i (lo+x-1) hli (by omega) (by omega))
   by_cases hneq:neq>0
   ·rw[if_pos hneq];refine wpS_bind (wpS_rev (wpS_pure ⟨0,rfl,hB'.setArr (mirror_perm _ _ _ _),hF.trans (From.mirror (by omega) hsz),step1 _ (KA_mirror_equal hsz he),by omega,fun i h1 h2=>by congr 1;congr 1;omega⟩))
   ·rw[if_neg hneq];exact wpS_pure ⟨0,rfl,hB',hF,step1 _ (fun _=>rfl),by omega,fun i h1 h2=>by congr 1;congr 1;omega⟩
  case false =>
   simp only[Bool.false_eq_true,if_false];refine wpS_bind (wpS_ltI C hB' (by omega) (by omega) ?_);cases hlarger:O.blt (KA key (arrOf st') (lo+x-1)) (KA key (arrOf st') (lo+x))
   case true =>
    simp only[if_true];exact wpS_pure (h x neq st' hB' hF hax (by omega) hs' hq he)
   case false =>
    simp only[Bool.false_eq_true,if_false];have heqx:KA key (arrOf st') (lo+x)=KA key (arrOf st') (lo+x-1):=KeyOrd.kle_antisymm hlarger hless;refine wpS_pure ⟨neq+1,rfl,hB',hF,fun i j hli hij hj=>?_,by omega,fun i h1 h2=>?_⟩
    ·by_cases hjx:j<lo+x
     ·exact hs' i j hli hij hjx
     ·have hj':j=lo+x:=by omega
      subst hj';by_cases hi':i=lo+x
      ·subst hi';exact KeyOrd.kle_refl _
      ·rw[heqx];exact hs' i (lo+x-1) hli (by omega) (by omega)
    ·rw[show lo+(x+1)-1=lo+x by omega];by_cases hix:i=lo+x
     ·subst hix;rfl
     ·rw[heqx];exact he i (by omega) (by omega)
theorem wpS_desP {st:SortSt}{lo n nrem:Nat}{Q:Option Nat→SortSt→Prop}(C:Cmp M A E s knd O key a₀)(hn:lo+nrem≤a₀.size)(hnn:n+1≤nrem)(hB:SB a₀ knd st)
  (hs:SegD key (arrOf st) lo (lo+(n+1))) (h:∀ m st',SB a₀ knd st'→From lo st st'→1≤m→m≤nrem→Seg key (arrOf st') lo (lo+m)→Q (some m) st') :
  wpS M A E s (desP lo n nrem) Q st:=by
 unfold desP;refine wpS_bind (wpS_rule ?_);refine wpS_bind (wpS_desL C hn (by omega) hnn hB hs fun m neq st' hB' hF hm1 hm2 hs' hq he=>?_);dsimp only;have hsz:lo+m≤(arrOf st').size:=by rw[hB'.size];omega
 by_cases hneq:neq>0
 ·rw[if_pos hneq];refine wpS_bind (wpS_rev (wpS_t3L C hn (by omega) hm2 (hB'.setArr (mirror_perm _ _ _ _)) ?_ fun m' st'' a b=>h m' st'' a (hF.trans ((From.mirror (by omega) hsz).trans b))));intro i j hli hij hj;show O.kle (KA key (mirror (arrOf st') _ _ _) j) (KA key (mirror (arrOf st') _ _ _) i);rw[KA_mirror_equal hsz he,KA_mirror_equal hsz he];exact hs' i j hli hij hj
 ·rw[if_neg hneq];exact wpS_t3L C hn (by omega) hm2 hB' hs' fun m' st'' a b=>h m' st'' a (hF.trans b)
theorem wpS_cR {st:SortSt}{lo nrem:Nat}{Q:Option Nat→SortSt→Prop}(C:Cmp M A E s knd O key a₀)(hn:lo+nrem≤a₀.size)(h1:1≤nrem)(hB:SB a₀ knd st)
  (h:∀ m st',SB a₀ knd st'→From lo st st'→1≤m→m≤nrem→Seg key (arrOf st') lo (lo+m)→Q (some m) st') :
  wpS M A E s (countRun' lo nrem) Q st:=by
 rw[cR_eq];refine wpS_bind (wpS_ascL C hn (Nat.le_refl 1) h1 hB (Seg.one _ _) fun n hn1 hn2 hsn hor=>?_);dsimp only;by_cases hnn:n=nrem
 ·rw[if_pos (by simpa using hnn)];exact wpS_pure (h n st hB (From.refl _ _) hn1 hn2 hsn)
 ·rw[if_neg (by simpa using hnn)];have hlt:O.klt (KA key (arrOf st) (lo+n)) (KA key (arrOf st) (lo+n-1)):=hor.resolve_left hnn;by_cases hgt:n>1
  ·rw[if_pos hgt];refine wpS_bind (wpS_ltI C hB (by omega) (by omega) ?_);cases hrose:O.blt (KA key (arrOf st) lo) (KA key (arrOf st) (lo+n-1))
   case true =>
    simp only[if_true];exact wpS_pure (h n st hB (From.refl _ _) hn1 hn2 hsn)
   case false =>
    simp only[Bool.false_eq_true,if_false];have hsz:lo+n≤(arrOf st).size:=by rw[hB.size];omega
    have hall:∀ k,lo≤k→k<lo+n→KA key (arrOf st) k=KA key (arrOf st) (lo+n-1):=by
     intro k hlk hk;have a1:=hsn lo k (by omega) (by omega) hk;have a2:=hsn k (lo+n-1) hlk (by omega) (by omega);exact KeyOrd.kle_antisymm a2 (KeyOrd.kle_trans hrose a1)
    refine wpS_bind (wpS_rev (wpS_desP C hn (by omega) (hB.setArr (mirror_perm _ _ _ _)) ?_ fun m' st'' a b=>h m' st'' a ((From.mirror (Nat.le_refl lo) hsz).trans b)));intro i j hli hij hj;show O.kle (KA key (mirror (arrOf st) _ _ _) j) (KA key (mirror (arrOf st) _ _ _) i);rw[KA_mirror_equal hsz hall,KA_mirror_equal hsz hall];by_cases hjn:j<lo+n
    ·rw[hall i (by omega) (by omega),hall j (by omega) hjn];exact KeyOrd.kle_refl _
    ·have hj':j=lo+n:=by omega
     subst hj';by_cases hi':i=lo+n
     ·subst hi';exact KeyOrd.kle_refl _
     ·rw[hall i (by omega) (by omega)];exact KeyOrd.kle_of_klt hlt
  ·rw[if_neg hgt];have hn1':n=1:=by omega
   subst hn1';refine wpS_desP C hn (by omega) hB ?_ h;intro i j hli hij hj;by_cases hi':i=j
   ·subst hi';exact KeyOrd.kle_refl _
   ·have hi0:i=lo:=by omega
    have hj1:j=lo+1:=by omega
    subst hi0;subst hj1;exact KeyOrd.kle_of_klt hlt
theorem wpS_bS {st:SortSt}{lo n ok:Nat}{Q:Bool→SortSt→Prop}(C:Cmp M A E s knd O key a₀)(hn:lo+n≤a₀.size)(hok:ok≤n)(hB:SB a₀ knd st)(hs:Seg key (arrOf st) lo (lo+ok))
  (h:∀ st',SB a₀ knd st'→From lo st st'→Seg key (arrOf st') lo (lo+n)→Q true st'):wpS M A E s (binarySort' lo n ok) Q st:=by
 rw[binarySort'_eq]
 refine wpS_bind (wpS_mono (wpS_forRange (I:=fun k c st'=>c=(none,())∧SB a₀ knd st'∧From lo st st'∧Seg key (arrOf st') lo (lo+min k n))
  (Q:=fun c st'=>c=(none,())∧SB a₀ knd st'∧From lo st st'∧Seg key (arrOf st') lo (lo+n)) ?step ?fin ?init) ?post)
 case post =>
  rintro c st' ⟨rfl,hB',hF,hs'⟩;exact wpS_pure (h st' hB' hF hs')
 case init =>
  refine⟨rfl,hB,From.refl _ _,fun i j hli hij hj=>?_⟩;by_cases h1:ok=0
  ·have:i=j:=by omega
   subst this;exact KeyOrd.kle_refl _
  ·exact hs i j hli hij (by omega)
 case fin =>
  rintro c st' ⟨hc,hB',hF,hs'⟩;refine⟨hc,hB',hF,?_⟩
  rwa [show min (max (max ok 1) n) n=n by omega] at hs'
 case step =>
  rintro k c st' hak hkn ⟨rfl,hB',hF,hs'⟩;rw[show min k n=k by omega] at hs';have hk:lo+k<a₀.size:=by omega
  refine wpS_bind (wpS_mono (wpS_forRange (I:=fun x c st''=>st''=st'∧∃ l r,c=(none,l,r)∧l≤r∧r≤k∧r-l≤k-x ∧
    (∀ i,i<l→O.kle (KA key (arrOf st') (lo+i)) (KA key (arrOf st') (lo+k)))∧(∀ i,r≤i→i<k→O.klt (KA key (arrOf st') (lo+k)) (KA key (arrOf st') (lo+i))))
   (Q:=fun c st''=>st''=st'∧∃ l r,c=(none,l,r)∧l≤k ∧
    (∀ i,i<l→O.kle (KA key (arrOf st') (lo+i)) (KA key (arrOf st') (lo+k)))∧(∀ i,l≤i→i<k→O.klt (KA key (arrOf st') (lo+k)) (KA key (arrOf st') (lo+i)))) ?istep ?ifin ?iinit) ?ipost)
  case iinit=>exact⟨rfl,0,k,rfl,by omega,by omega,by omega,fun i hi=>by omega,fun i h1 h2=>by omega⟩
  case ifin =>
   rintro c st'' ⟨rfl,l,r,rfl,hlr,hrk,hm,hlo,hhi⟩;have:l=r:=by omega
   subst this;exact⟨rfl,l,l,rfl,hrk,hlo,hhi⟩
  case istep =>
   rintro x c st'' _ hxk ⟨rfl,l,r,rfl,hlr,hrk,hm,hlo,hhi⟩;dsimp only;by_cases hge:l≥r
   ·rw[if_pos hge];have:l=r:=by omega
    subst this;exact wpS_pure ⟨rfl,l,l,rfl,hrk,hlo,hhi⟩
   ·rw[if_neg hge];refine wpS_bind (wpS_ltI C hB' hk (by omega) ?_);cases hless:O.blt (KA key (arrOf st'') (lo+k)) (KA key (arrOf st'') (lo+(l+r) / 2))
    case true =>
     simp only[if_true];refine wpS_pure ⟨rfl,l,(l+r) / 2,rfl,by omega,by omega,by omega,hlo,fun i h1 h2=>?_⟩;exact KeyOrd.klt_of_klt_of_kle hless (hs' _ _ (by omega) (by omega) (by omega))
    case false =>
     simp only[Bool.false_eq_true,if_false];refine wpS_pure ⟨rfl,(l+r) / 2+1,r,rfl,by omega,by omega,by omega,fun i h1=>?_,hhi⟩;exact KeyOrd.kle_trans (hs' (lo+i) (lo+(l+r) / 2) (by omega) (by omega) (by omega)) (show O.kle _ _ from hless)
  case ipost =>
   rintro c st'' ⟨rfl,l,r,rfl,hlk,hlo,hhi⟩;show wpS _ _ _ _ (do moveDown' (lo+k) (lo+l);pure (ForInStep.yield (none,()))) _ _;rw[moveDown'_eq];have hks:lo+k<(arrOf st'').size:=by rw[hB'.size];exact hk
   refine wpS_bind (wpS_modify (wpS_pure ⟨rfl,hB'.setArr (bubble_perm _ _ _),hF.trans (From.bubble hks (by omega) (by omega)),?_⟩));rw[show min (k+1) n=k+1 by omega];intro i j hli hij hj;show O.kle (KA key (bubble (arrOf st'') (lo+k) (lo+k-(lo+l))) i) (KA key (bubble (arrOf st'') (lo+k) (lo+k-(lo+l))) j);rw[KA_bubble hks (by omega),KA_bubble hks (by omega),show lo+k-(lo+k-(lo+l))=lo+l by omega];have hlo':∀ i,lo≤i→i<lo+l→O.kle (KA key (arrOf st'') i) (KA key (arrOf st'') (lo+k)):=fun i a b=>by
    have:=hlo (i-lo) (by omega)
    rwa [show lo+(i-lo)=i by omega] at this
   have hhi':∀ i,lo+l≤i→i<lo+k→O.klt (KA key (arrOf st'') (lo+k)) (KA key (arrOf st'') i):=fun i a b=>by
    have:=hhi (i-lo) (by omega) (by omega)
    rwa [show lo+(i-lo)=i by omega] at this
   repeat' split
   all_goals first
    | (exfalso;omega)
    | exact KeyOrd.kle_refl _
    | exact hlo' _ (by omega) (by omega)
    | exact KeyOrd.kle_of_klt (hhi' _ (by omega) (by omega))
    | exact hs' _ _ (by omega) (by omega) (by omega)
end
end Ts
namespace Ts
open PySem PyProof.Rows
set_option autoImplicit false
section
variable {M:Model}{A:Around}{E:Value→Shared→Prop}{s:Shared}{a₀:Array Keyed}{knd:SortKind}{O:KeyOrd}{key:Keyed→O.α}
end
end Ts
namespace Ts
open PySem PyProof.Rows
set_option autoImplicit false
theorem toList_el {a:Array Keyed}{k:Nat}(h:k<a.size):a.toList[k]?=some (el a k):=by
 rw[Array.getElem?_toList];exact el_some h
section
variable {O:KeyOrd}{key:Keyed→O.α}
def le {O:KeyOrd}(key:Keyed→O.α)(p q:Keyed):Prop:=O.kle (key p) (key q)
theorem pw_of_seg {a:Array Keyed}(h:Seg key a 0 a.size):a.toList.Pairwise (le key):=by
 rw[List.pairwise_iff_getElem];intro i j hi hj hij;have hi':i<a.size:=by simpa using hi
 have hj':j<a.size:=by simpa using hj
 have e1:=toList_el hi';rw[List.getElem?_eq_getElem hi] at e1;have e2:=toList_el hj';rw[List.getElem?_eq_getElem hj] at e2;rw[Option.some.inj e1,Option.some.inj e2];exact h i j (by omega) (by omega) hj'
variable {a b o:Array Keyed}{i j:Nat}
end
end Ts
namespace Ts
open PySem PyProof.Rows
set_option autoImplicit false
section
variable {M:Model}{A:Around}{E:Value→Shared→Prop}{s:Shared}{a₀:Array Keyed}{knd:SortKind}{O:KeyOrd}{key:Keyed→O.α}
end
end Ts
namespace Ts
open PySem PyProof.Rows
set_option autoImplicit false
section
variable {M:Model}{A:Around}{E:Value→Shared→Prop}{s:Shared}{a₀:Array Keyed}{knd:SortKind}{O:KeyOrd}{key:Keyed→O.α}
end
end Ts
namespace Ts
open PySem PyProof.Rows
set_option autoImplicit false
section
variable {M:Model}{A:Around}{E:Value→Shared→Prop}{s:Shared}{a₀:Array Keyed}{knd:SortKind}{O:KeyOrd}{key:Keyed→O.α}
end
end Ts
namespace Ts
open PySem PyProof.Rows
set_option autoImplicit false
section
variable {M:Model}{A:Around}{E:Value→Shared→Prop}{s:Shared}{a₀:Array Keyed}{knd:SortKind}{O:KeyOrd}{key:Keyed→O.α}
def Rn {O:KeyOrd}(key:Keyed→O.α)(xs:Array Keyed):Nat→List (Nat×Nat×Nat)→Nat→Prop
 | s,[],e=>s=e
 | s,x::r,e=>x.1=s∧1≤x.2.1∧Seg key xs s (s+x.2.1)∧Rn key xs (s+x.2.1) r e
theorem Rn.le {xs:Array Keyed}:∀ {p:List (Nat×Nat×Nat)} {s e:Nat},Rn key xs s p e→s+p.length≤e
 | [],s,e,h=>by cases h;simp
 | x::r,s,e,h=>by
  have:=Rn.le h.2.2.2;have:=h.2.1;rw[List.length_cons];omega
theorem Rn.congr {xs ys:Array Keyed}:∀ {p:List (Nat×Nat×Nat)} {s e:Nat},Rn key xs s p e→(∀ k,s≤k→k<e→ys[k]?=xs[k]?)→Rn key ys s p e
 | [],s,e,h,_=>h
 | x::r,s,e,h,k=>⟨h.1,h.2.1,h.2.2.1.congr (fun i a b=>KA_congr (k i a (by have:=Rn.le h.2.2.2;omega))),Rn.congr h.2.2.2 fun i a b=>k i (by omega) b⟩
theorem Rn.cat {xs:Array Keyed}:∀ {p q:List (Nat×Nat×Nat)} {s m e:Nat},Rn key xs s p m→Rn key xs m q e→Rn key xs s (p++q) e
 | [],q,s,m,e,h,k=>by cases h;exact k
 | x::r,q,s,m,e,h,k=>⟨h.1,h.2.1,h.2.2.1,Rn.cat h.2.2.2 k⟩
structure RB {O:KeyOrd}(key:Keyed→O.α)(a₀:Array Keyed)(knd:SortKind)(lo:Nat)(p:List (Nat×Nat×Nat))(st:SortSt):Prop where
 sb:SB a₀ knd st
 pd:pendingOf st=p.toArray
 rn:Rn key (arrOf st) 0 p lo
 hl:lo≤a₀.size
theorem RB.push {st:SortSt}{lo n:Nat}{p:List (Nat×Nat×Nat)}(hR:RB key a₀ knd lo p st)(h1:1≤n)(h2:lo+n≤a₀.size)(hs:Seg key (arrOf st) lo (lo+n)) :
  RB key a₀ knd (lo+n) (p++[(lo,n,0)]) (setPending st ((pendingOf st).push (lo,n,0))) :=
 ⟨⟨hR.sb.perm,hR.sb.kind,hR.sb.failed⟩,by show (pendingOf st).push _=_;rw[hR.pd,List.push_toArray],hR.rn.cat ⟨rfl,h1,hs,rfl⟩,h2⟩
theorem minRun_short:∀ n,1≤n→n<64→minRun' n n 0=n
 | 0,h,_=>absurd h (by decide)
 | k+1,_,h=>by rw[minRun'_succ,if_pos h,Nat.add_zero]
theorem wpS_sRs {st:SortSt}{Q:Unit→SortSt→Prop}(C:Cmp M A E s knd O key a₀)(hB:SB a₀ knd st)(hp:pendingOf st=#[])(h2:2≤a₀.size)(h64:a₀.size<64)
  (h:∀ st',SB a₀ knd st'→Seg key (arrOf st') 0 a₀.size→Q () st'):wpS M A E s sortRuns' Q st:=by
 rw[sortRuns'_eq];refine wpS_bind (wpS_get ?_);dsimp only;simp only[hB.size];rw[minRun_short _ (by omega) h64]
 refine wpS_bind (wpS_mono (wpS_forRange
  (I:=fun x c st'=>∃ lo p,c=(none,lo)∧RB key a₀ knd lo p st'∧x≤lo∧(lo=0∧p=[]∨p.length≤1∧lo=a₀.size))
  (Q:=fun c st'=>∃ p,c=(none,a₀.size)∧RB key a₀ knd a₀.size p st'∧p.length≤1) ?step ?fin ⟨0,[],rfl,⟨hB,hp,rfl,by omega⟩,by omega,.inl ⟨rfl,rfl⟩⟩) ?post)
 case fin =>
  rintro c st' ⟨lo,p,rfl,hR,hx,ho⟩;have:lo=a₀.size:=by have:=hR.hl;omega
  subst this;exact⟨p,rfl,hR,by omega⟩
 case post =>
  rintro c st' ⟨p,rfl,hR,hl⟩;dsimp only
  refine wpS_bind (wpS_mono (wpS_forRange (I:=fun x c st'=>c=(none,())∧∃ p,RB key a₀ knd a₀.size p st'∧p.length≤1)
   (Q:=fun c st'=>c=(none,())∧∃ p,RB key a₀ knd a₀.size p st'∧p.length≤1) ?_ (fun _ _ z=>z) ⟨rfl,p,hR,hl⟩) ?_)
  ·rintro x c st3 _ hx ⟨rfl,p,hR3,hlen⟩;refine wpS_bind (wpS_get ?_);have hsz:(pendingOf st3).size=p.length:=by rw[hR3.pd];simp
   rw[if_pos (by omega)];exact wpS_pure ⟨rfl,p,hR3,by omega⟩
  ·rintro c st3 ⟨rfl,p,hR3,hlen⟩;refine wpS_pure (h st3 hR3.sb ?_);have hrn:=hR3.rn
   match p,hlen,hrn with
   | [],_,hrn=>exact absurd hrn (by show ¬ (0=a₀.size);omega)
   | [x],_,hrn =>
    obtain⟨_,_,g,e⟩:=hrn;have e:0+x.2.1=a₀.size:=e;rw[e] at g;exact g
   | _::_::_,hlen,_=>simp at hlen
 case step =>
  rintro x c st1 _ hx ⟨lo,p,rfl,hR,hxl,ho⟩;dsimp only;by_cases hlo:lo≥a₀.size
  ·rw[if_pos hlo];have:lo=a₀.size:=by have:=hR.hl;omega
   subst this;exact wpS_pure ⟨p,rfl,hR,by omega⟩
  rw[if_neg hlo];obtain⟨rfl,rfl⟩:lo=0∧p=[]:=ho.resolve_right (by omega);refine wpS_bind (wpS_cR C (by omega) (by omega) hR.sb fun found st2 hB2 hF2 hm1 hm2 hs2=>?_);dsimp only;have hR2:RB key a₀ knd 0 [] st2:=⟨hB2,hF2.pend.trans hR.pd,hR.rn.congr fun k _ hk=>hF2.low k hk,hR.hl⟩
  by_cases hmin:found<a₀.size
  ·rw[if_pos hmin];refine wpS_bind (wpS_rule ?_);refine wpS_bind (wpS_bS C (by omega) (by omega) hB2 hs2 fun st3 hB3 hF3 hs3=>?_);simp only[Bool.not_true,Bool.false_eq_true,if_false];have hR3:RB key a₀ knd 0 [] st3:=⟨hB3,hF3.pend.trans hR2.pd,hR2.rn.congr fun k _ hk=>hF3.low k hk,hR.hl⟩
   refine wpS_bind (wpS_get ?_);rw[show (pendingOf st3).back?=none by rw[hR3.pd];rfl];dsimp only;refine wpS_bind (wpS_modify ?_);exact wpS_pure ⟨_,_,rfl,hR3.push (by omega) (by omega) hs3,by omega,.inr ⟨by simp,by omega⟩⟩
  ·rw[if_neg hmin];refine wpS_bind (wpS_get ?_);rw[show (pendingOf st2).back?=none by rw[hR2.pd];rfl];dsimp only;refine wpS_bind (wpS_modify ?_);exact wpS_pure ⟨_,_,rfl,hR2.push hm1 (by omega) hs2,by omega,.inr ⟨by simp,by omega⟩⟩
end
end Ts
end
section
set_option Elab.async false
set_option linter.all false
set_option maxRecDepth 100000
namespace L2
open PySem PySem.Spec PyProof.Rows
def clo (env:Env):List (Str×NameKind)→List (Str×Addr)→List (Str×Addr)
 | [],cs=>cs
 | y::r,cs=>clo env r (if y.2 == NameKind.free then (y.1,(env.cells.lookup y.1).getD 0)::cs else cs)
theorem clo_eq {env:Env}:∀ (names:List (Str×NameKind)) (cs:List (Str×Addr)),(∀ y∈names,y.2=.free→∃ c,env.cells.lookup y.1=some c) →
  (forIn names cs fun (x:Str×NameKind) (r:List (Str×Addr))=>(if (x.2 == NameKind.free)=true then do
   let c ← cellOf env x.1
   pure (ForInStep.yield ((x.1,c)::r)) else pure (ForInStep.yield r):Sem (ForInStep (List (Str×Addr)))))=pure (clo env names cs)
 | [],cs,_=>by rw[List.forIn_nil];rfl
 | y::r,cs,h=>by
  rw[List.forIn_cons];unfold clo;have hr:=clo_eq r (if y.2 == NameKind.free then (y.1,(env.cells.lookup y.1).getD 0)::cs else cs) fun z hz=>h z (List.mem_cons_of_mem _ hz)
  by_cases e:(y.2 == NameKind.free)=true
  ·obtain⟨c,hc⟩:=h y List.mem_cons_self (by simpa using e);have ec:cellOf env y.1=pure c:=by unfold cellOf;rw[hc]
   rw[if_pos e] at hr ⊢;rw[if_pos e,ec];rw[hc] at hr ⊢;exact hr
  ·rw[if_neg e] at hr ⊢;rw[if_neg e];exact hr
theorem closure_clo {env:Env}{scope:Scope}(h:∀ y∈scope.names,y.2=.free→∃ c,env.cells.lookup y.1=some c):closureFor scope env=pure (clo env scope.names []):=by
 have e:=clo_eq scope.names [] h;unfold closureFor;refine Eq.trans ?_ (congrArg (fun t=>t >>= fun cs=>(pure cs:Sem (List (Str×Addr)))) e);rfl
theorem lookup_cons' {β:Type}(x n:Str)(c:β)(r:List (Str×β)):List.lookup x ((n,c)::r)=if x=n then some c else List.lookup x r:=by
 rw[List.lookup_cons];by_cases e:x=n
 ·have hb:(x == n)=true:=beq_iff_eq.mpr e;rw[if_pos e];simp[hb]
 ·have hb:(x == n)=false:=beq_eq_false_iff_ne.mpr e;rw[if_neg e];simp[hb]
theorem clo_lookup {env:Env}(x:Str):∀ (names:List (Str×NameKind)) (cs:List (Str×Addr)),
  (clo env names cs).lookup x=if (names.any fun y=>decide (y.1=x) && (y.2 == NameKind.free))=true then some ((env.cells.lookup x).getD 0) else cs.lookup x
 | [],cs=>by simp[clo]
 | y::r,cs=>by
  unfold clo;rw[clo_lookup x r,List.any_cons];by_cases e:(y.2 == NameKind.free)=true
  ·rw[if_pos e,lookup_cons'];by_cases ex:y.1=x
   ·rw[decide_eq_true ex,e,if_pos ex.symm,ex];simp
   ·rw[decide_eq_false ex,if_neg (show ¬ x=y.1 from fun z=>ex z.symm),Bool.false_and,Bool.false_or]
  ·have e':(y.2 == NameKind.free)=false:=by simpa using e
   rw[if_neg e,e'];simp
def compOk (sc osc:Scope):Bool :=
 (match sc.kind with | .function=>true | _=>false) &&
  sc.names.all fun y=>match y.2 with
   | .cell=>false
   | .local=>(match sc.names.lookup y.1 with | some .local=>true | _=>false)
   | .free=>(match osc.names.lookup y.1 with | some .cell=>true | some .free=>true | _=>false)
   | _=>true
structure CompOk (sc osc:Scope):Prop where
 kind:sc.kind=.function
 noCell:∀ y∈sc.names,y.2≠.cell
 loc:∀ y∈sc.names,y.2=.local→sc.names.lookup y.1=some .local
 free:∀ y∈sc.names,y.2=.free→osc.names.lookup y.1=some .cell∨osc.names.lookup y.1=some .free
theorem compOk_of {sc osc:Scope}(h:compOk sc osc=true):CompOk sc osc:=by
 unfold compOk at h;rw[Bool.and_eq_true,List.all_eq_true] at h;obtain⟨h1,h2⟩:=h;refine⟨?_,fun y hy e=>?_,fun y hy e=>?_,fun y hy e=>?_⟩
 ·cases e:sc.kind with
  | function=>rfl
  | _=>rw[e] at h1;cases h1
 ·have:=h2 y hy;rw[e] at this;cases this
 ·have:=h2 y hy;rw[e] at this;dsimp only at this;split at this
  ·assumption
  ·cases this
 ·have:=h2 y hy;rw[e] at this;dsimp only at this;split at this
  ·left;assumption
  ·right;assumption
  ·cases this
def cxC (X:Cx)(scope:Scope)(N':List Str)(pins:List (Addr×Obj))(fp:List Addr)(s:Shared)(H:Hp):Cx where
 prog:=X.prog
 w:=X.w
 K:=X.K
 mg:=X.mg
 base:=X.base
 A:=X.A
 N:=N'
 s₀:=s
 H₀:=H
 env:=compEnvC scope (clo X.env scope.names []) s.heap.objs.size X.env
 outer:=X.stack
 stack:=X.stack
 ex:=fp
 fn:=fun _=>false
 calm:=true
 pn:=X.pn++pins
 xe:=fun _ _=>False
section
variable {X:Cx}{scope:Scope}{own:List Str}{fr:List (Str×Nat)}{fp:List Addr}{pins:List (Addr×Obj)}{σ:St}{H:Hp}{s:Shared}
def st0 (own:List Str)(fr:List (Str×Nat))(σ:St):St:=own.map (fun _=>Option.none)++fr.map fun p=>(σ[p.2]?).join
def frOk (X:Cx)(scope:Scope)(fr:List (Str×Nat)):Prop:=∀ p∈fr,X.N[p.2]?=some p.1∧scope.names.lookup p.1=some .free
theorem frOk_nil:frOk X scope []:=fun _ h=>nomatch h
theorem frOk_cons {p:Str×Nat}{r:List (Str×Nat)}(h1:X.N[p.2]?=some p.1)(h2:scope.names.lookup p.1=some .free)(h:frOk X scope r):frOk X scope (p::r):=fun q hq=>by
 rcases List.mem_cons.mp hq with rfl | hq
 ·exact⟨h1,h2⟩
 ·exact h q hq
theorem lookup_mem' {β:Type}{x:Str}{k:β}:∀ {l:List (Str×β)},l.lookup x=some k→(x,k)∈l
 | [],h=>by cases h
 | (n,c)::r,h=>by
  rw[lookup_cons'] at h;by_cases e:x=n
  ·rw[if_pos e] at h;cases h;rw[e];exact List.mem_cons_self
  ·rw[if_neg e] at h;exact List.mem_cons_of_mem _ (lookup_mem' h)
theorem relabel_lookup {env:Env}{x:Str}:∀ {names:List (Str×NameKind)} {k:NameKind},
  (names.map fun (y:Str×NameKind)=>if (y.2 == NameKind.free && env.scope.kind == .function && env.kindOf y.1 == some .cell) then (y.1,NameKind.cell) else (y.1,y.2)).lookup x=some k →
  ∃ k',names.lookup x=some k'∧(k=k'∨(k'=.free∧k=.cell))
 | [],k,h=>by cases h
 | (n,c)::r,k,h=>by
  rw[List.map_cons] at h;rw[lookup_cons'];by_cases e:x=n
  ·rw[if_pos e];refine⟨c,rfl,?_⟩;by_cases q:(c == NameKind.free && env.scope.kind == .function && env.kindOf n == some .cell)=true
   ·have hh:(if (((n,c):Str×NameKind).2 == NameKind.free && env.scope.kind == .function && env.kindOf ((n,c):Str×NameKind).1 == some .cell)=true then (((n,c):Str×NameKind).1,NameKind.cell) else (((n,c):Str×NameKind).1,((n,c):Str×NameKind).2))=(n,NameKind.cell):=if_pos q;rw[hh,lookup_cons',if_pos e] at h;cases h;refine .inr ⟨?_,rfl⟩;simp only[Bool.and_eq_true] at q;simpa using q.1.1
   ·have hh:(if (((n,c):Str×NameKind).2 == NameKind.free && env.scope.kind == .function && env.kindOf ((n,c):Str×NameKind).1 == some .cell)=true then (((n,c):Str×NameKind).1,NameKind.cell) else (((n,c):Str×NameKind).1,((n,c):Str×NameKind).2))=(n,c):=if_neg q;rw[hh,lookup_cons',if_pos e] at h;cases h;exact .inl rfl
  ·rw[if_neg e];have h':(r.map fun (y:Str×NameKind)=>if (y.2 == NameKind.free && env.scope.kind == .function && env.kindOf y.1 == some .cell) then (y.1,NameKind.cell) else (y.1,y.2)).lookup x=some k:=by
    by_cases q:(c == NameKind.free && env.scope.kind == .function && env.kindOf n == some .cell)=true
    ·have hh:(if (((n,c):Str×NameKind).2 == NameKind.free && env.scope.kind == .function && env.kindOf ((n,c):Str×NameKind).1 == some .cell)=true then (((n,c):Str×NameKind).1,NameKind.cell) else (((n,c):Str×NameKind).1,((n,c):Str×NameKind).2))=(n,NameKind.cell):=if_pos q;rw[hh,lookup_cons',if_neg e] at h;exact h
    ·have hh:(if (((n,c):Str×NameKind).2 == NameKind.free && env.scope.kind == .function && env.kindOf ((n,c):Str×NameKind).1 == some .cell)=true then (((n,c):Str×NameKind).1,NameKind.cell) else (((n,c):Str×NameKind).1,((n,c):Str×NameKind).2))=(n,c):=if_neg q;rw[hh,lookup_cons',if_neg e] at h;exact h
   exact relabel_lookup h'
theorem relabel_free {env:Env}{x:Str}:∀ {names:List (Str×NameKind)},names.lookup x=some .free →
  (names.map fun (y:Str×NameKind)=>if (y.2 == NameKind.free && env.scope.kind == .function && env.kindOf y.1 == some .cell) then (y.1,NameKind.cell) else (y.1,y.2)).lookup x=some .cell ∨
  (names.map fun (y:Str×NameKind)=>if (y.2 == NameKind.free && env.scope.kind == .function && env.kindOf y.1 == some .cell) then (y.1,NameKind.cell) else (y.1,y.2)).lookup x=some .free
 | [],h=>by cases h
 | (n,c)::r,h=>by
  rw[lookup_cons'] at h;rw[List.map_cons];have red:∀ b:Bool,(if b=true then (n,NameKind.cell) else (n,c))=(n,if b=true then NameKind.cell else c):=fun b=>by cases b<;>rfl
  have hh:(if (((n,c):Str×NameKind).2 == NameKind.free && env.scope.kind == .function && env.kindOf ((n,c):Str×NameKind).1 == some .cell)=true then (((n,c):Str×NameKind).1,NameKind.cell) else (((n,c):Str×NameKind).1,((n,c):Str×NameKind).2))=(n,if (c == NameKind.free && env.scope.kind == .function && env.kindOf n == some .cell)=true then NameKind.cell else c):=red _;rw[hh,lookup_cons'];by_cases e:x=n
  ·rw[if_pos e] at h ⊢;cases h;generalize (NameKind.free == NameKind.free && env.scope.kind == .function && env.kindOf n == some .cell)=b;cases b
   ·right;rfl
   ·left;rfl
  ·rw[if_neg e] at h ⊢;exact relabel_free h
theorem inv_comp (I:Inv X pins σ H s)(hc:CompOk scope X.env.scope)(hcalm:X.calm=true)(hf:∀ b∈fp,FpOk X pins H b)(hlt:∀ b∈fp,b<s.heap.objs.size)(hfr:frOk X scope fr){h1:Heap}{m:Str→Option Value}(hns:h1.Ns s.heap.objs.size m)
  (hsb:∀ b o,s.heap.get? b=some o→h1.get? b=some o):Inv (cxC X scope (own++fr.map (·.1)) pins fp s H) [] (st0 own fr σ) H {s with heap:=h1}:=by
 have clX:∀ x c,(clo X.env scope.names []).lookup x=some c→X.env.cells.lookup x=some c:=fun x c e=>by
  rw[clo_lookup] at e;split at e
  ·rename_i q;obtain⟨y,hy,hq⟩:=List.any_eq_true.mp q;rw[Bool.and_eq_true] at hq;have e1:y.1=x:=of_decide_eq_true hq.1;have e2:y.2=.free:=by simpa using hq.2
   obtain⟨c',hc'⟩:=I.ok.has x (by
    have:=hc.free y hy e2;rw[e1] at this
    exact this)
   rw[hc'] at e ⊢;exact e
  ·cases e
 have hlen:∀ b∈frs X.stack,b≠s.heap.objs.size∧b∈X.env.locals::X.fs:=fun b hb=>by
  have hm:=I.stkSub b hb;refine⟨fun z=>?_,hm⟩;rcases List.mem_cons.mp hm with q | q
  ·have:=I.lt;rw[← q,z] at this;exact Nat.lt_irrefl _ this
  ·exact I.nofs (Nat.le_of_eq z.symm) q
 have ok:(cxC X scope (own++fr.map (·.1)) pins fp s H).Ok :=
  {mod:=I.ok.mod
   kind:=hc.kind
   glob:=I.ok.glob
   blt:=I.ok.blt
   above:=Nat.le_refl _
   inj:=fun x y c hx hy=>I.ok.inj x y c (clX x c hx) (clX y c hy)
   has:=fun x hx=>by
    have hx:(relabel scope X.env).names.lookup x=some .cell∨(relabel scope X.env).names.lookup x=some .free:=hx;have key:scope.names.lookup x=some .free:=by
     rcases hx with hx | hx
     ·obtain⟨k',e1,e2⟩:=relabel_lookup hx;rcases e2 with e2 | ⟨e2,_⟩
      ·subst e2;exact absurd rfl (hc.noCell (x,.cell) (lookup_mem' e1))
      ·subst e2;exact e1
     ·obtain⟨k',e1,e2⟩:=relabel_lookup hx;rcases e2 with e2 | ⟨e2,e3⟩
      ·subst e2;exact e1
      ·cases e3
    have hm:=lookup_mem' key;refine⟨(X.env.cells.lookup x).getD 0,?_⟩;show (clo X.env scope.names []).lookup x=_;rw[clo_lookup,if_pos (List.any_eq_true.mpr ⟨(x,.free),hm,by simp⟩)]
   cab:=fun x c h=>nomatch h
   hd:=fun _=>I.ok.hd hcalm
   frames:=I.ok.frames
   stk:=.inl rfl
   exf:=fun b hb=>⟨Nat.ne_of_lt (hlt b hb),fun x c e=>(hf b hb).2.2.2.2.1 x c (clX x c e)⟩
   bs:=I.bs
   bsz:=Nat.le_trans I.ok.bsz I.sz
   noex:=fun b o e hb=>by
    rcases (hf b hb).2.2.2.1 with q | q
    ·exact I.ok.noex b o e q
    ·have h1:b<X.base.objs.size:=Heap.lt_size e;have h2:=I.ok.bsz;exact absurd (Nat.lt_of_lt_of_le h1 h2) (Nat.not_lt.mpr q)
   exfs:=fun b hb hm=>by
    have hm:=I.stkSub b hm;rcases List.mem_cons.mp hm with q | q
    ·exact (hf b hb).2.1 q
    ·exact (hf b hb).2.2.1 q
   funs:=I.stack
   frf:=I.stkFree}
 refine⟨ok,rfl,I.bare,Un.kept hsb,⟨m,hns,fun i x v hx hv hvis=>?_⟩,fun x c e=>?_,I.fresh,fun x c e=>I.freeC x c (clX x c e),fun p hp=>?_,I.hok.kept hsb,?_⟩
 ·-- the names
  have hi:own.length≤i:=by
   rcases Nat.lt_or_ge i own.length with h | h
   ·unfold st0 at hv;rw[List.getElem?_append_left (by simpa using h),List.getElem?_map] at hv;cases e:own[i]? with
    | none=>rw[e] at hv;cases hv
    | some z=>rw[e] at hv;cases hv
   ·exact h
  have hx:(own++fr.map (·.1))[i]?=some x:=hx;unfold st0 at hv;rw[List.getElem?_append_right (by simpa using hi),List.getElem?_map] at hv;rw[List.getElem?_append_right hi,List.getElem?_map] at hx;rw[List.length_map] at hv;cases e:fr[i-own.length]? with
  | none=>rw[e] at hx;cases hx
  | some p =>
   rw[e] at hx hv;have ex:p.1=x:=Option.some.inj hx;have ev:(σ[p.2]?).join=some v:=Option.some.inj hv;obtain⟨hN,hfree⟩:=hfr p (List.mem_iff_getElem?.mpr ⟨_,e⟩);rw[ex] at hN hfree;have hk:=hc.free (x,.free) (lookup_mem' hfree) rfl;have hσ:σ[p.2]?=some (some v):=by
    cases q:σ[p.2]? with
    | none=>rw[q] at ev;cases ev
    | some o=>rw[q] at ev;exact congrArg some ev
   obtain⟨mX,nX,lX⟩:=I.loc;obtain⟨u,ru,look⟩:=lX p.2 x v hN hσ (.inr hk);refine⟨u,ru,.inr ⟨relabel_free hfree,?_⟩⟩;rcases look with ⟨k1,_⟩ | ⟨_,c,hcc,hcell⟩
   ·exfalso;have k1:X.env.scope.names.lookup x=some .local:=k1;rcases hk with q | q<;>(rw[k1] at q;cases q)
   ·refine⟨c,?_,?_⟩
    ·show (clo X.env scope.names []).lookup x=_;rw[clo_lookup,if_pos (List.any_eq_true.mpr ⟨(x,.free),lookup_mem' hfree,by simp⟩),hcc];rfl
    ·exact hcell.keeps hsb
 ·obtain⟨v,hv⟩:=I.cell x c (clX x c e);exact⟨v,hv.keeps hsb⟩
 ·have hp:p∈X.pn++pins:=by
   rcases List.mem_append.mp hp with q | q
   ·exact q
   ·cases q
  obtain⟨a1,a2,a3,a4,a5⟩:=I.pin p hp;refine⟨hsb _ _ a1,a2,Nat.ne_of_lt (Heap.lt_size a1),fun hm=>?_,a5⟩;have hm:=I.stkSub _ hm;rcases List.mem_cons.mp hm with q | q
  ·exact a3 q
  ·exact a4 q
 ·show (st0 own fr σ).length=(own++fr.map (·.1)).length;unfold st0;rw[List.length_append,List.length_append,List.length_map,List.length_map,List.length_map]
end
end L2
namespace L2
open PySem PySem.Spec PyProof.Rows
def PTs (X:Cx)(ifs:List Expr)(t:TT):Prop :=
 ∀ (pins:List (Addr×Obj)) (s:Shared) (σ:St) (H:Hp) (Q:Bool→Hp→Prop),Inv X pins σ H s→t σ H Q →
  wpAny (model X.prog X.w) X.A (forIn ifs true fun c r=>if r=true then do let ok ← isTrue c X.env (eval c X.env);pure (ForInStep.yield ok) else pure (ForInStep.yield r)) (TP X pins σ Q) X.xe s
def tYes:TT:=fun _ H Q=>Q true H
theorem pts_nil {X:Cx}:PTs X [] tYes:=fun pins s σ H Q I h=>wpAny_tests_nil ⟨H,I,h⟩
theorem pts_one {X:Cx}{c:Expr}{t:TT}(h:PT X c t):PTs X [c] t:=fun pins s σ H Q I q=>wpAny_tests_one (h pins s σ H Q I q)
theorem lcomp_loop {prog:Program}{w:World}{A:Around}{R:Result→Shared→Prop}{s:Shared}{elt target iter:Expr}{ifs:List Expr}{scope:Scope}{pos:Pos}{it acc:Value}{env:Env}(I:Nat→Shared→Prop)
  (turn:∀ n s,I n s→wpAny (model prog w) A (pyNext it) (fun r s₁=>match r with
   | none=>R (.ok .next) s₁
   | some v=>wpAny (model prog w) A (letOwnedTupleGo target it v) (fun _ s₁=>wpAny (model prog w) A (assign target env v) (fun _ s₂ =>
     wpAny (model prog w) A (forIn ifs true fun c r=>if r=true then do let ok ← isTrue c env (eval c env);pure (ForInStep.yield ok) else pure (ForInStep.yield r)) (fun ok s₃ =>
      if ok=true then wpAny (model prog w) A (eval elt env) (fun x s₄ =>
       wpAny (model prog w) A (call (.builtin "list.append") [acc,x]) (fun _ s₅=>∃ m,m<n∧I m s₅) (fun _ _=>False) s₄) (fun _ _=>False) s₃
      else ∃ m,m<n∧I m s₃) (fun _ _=>False) s₂) (fun _ _=>False) s₁) (fun _ _=>False) s₁) (fun _ _=>False) s)
  (n:Nat) (h:I n s):codeAny (model prog w) A (.compLoop (.ListComp elt [⟨target,iter,ifs,0⟩] scope pos) 0 it acc env) R s:=by
 refine codeAny_loop rfl I (fun n s hI=>?_) n h;show wpAny _ A ((compTurn (.ListComp elt [⟨target,iter,ifs,0⟩] scope pos) 0 it acc env).onRaise (fun x=>do noteFrame x env;theTreesLotGoes x)) _ _ s;refine wpAny_noted ?_;rw[compTurn_list];refine wpAny_bind (wpAny_standAt (wpAny_bind (wpAny_mono (turn n s hI) (fun r s₁ h₁=>?_) fun _ _ h'=>h'.elim)));cases r with
 | none=>exact wpAny_pure h₁
 | some v =>
  refine wpAny_bind (wpAny_mono h₁ (fun _ s₁ h₁=>?_) fun _ _ h'=>h'.elim);refine wpAny_bind (wpAny_mono h₁ (fun _ s₂ h₂=>wpAny_bind (wpAny_mono h₂ (fun ok s₃ h₃=>?_) fun _ _ h'=>h'.elim)) fun _ _ h'=>h'.elim);cases ok with
  | false=>exact wpAny_pure ⟨rfl,h₃⟩
  | true =>
   exact wpAny_bind (wpAny_bind (wpAny_mono h₃ (fun x s₄ h₄=>wpAny_bind (wpAny_mono h₄ (fun _ s₅ h₅=>wpAny_pure (wpAny_pure ⟨rfl,h₅⟩)) fun _ _ h'=>h'.elim)) fun _ _ h'=>h'.elim))
def lcW (g:TG)(tc:TT)(te:TE)(p:Addr)(J:It)(τ0:St)(H0:Hp)(E:Hp→Prop):Prop :=
 ∃ W:Nat→Nat→St→Hp→Prop,(∃ m,W 0 m τ0 H0)∧∀ i m τ H,W i m τ H →
  (J.stop i H∧E H)∨(J.go i H∧∃ N:St→Hp→Prop,(∀ τ' H',N τ' H'→∃ m',m'<m∧W (i+1) m' τ' H') ∧
   ∀ x H',J.yld i H x H'→g x τ H' fun τ2 H2=>tc τ2 H2 fun b H3=>if b=true then te τ2 H3 fun v H4=>∃ ys,H4 p=some (.lst ys)∧ys.length<sizeLine∧N τ2 (upd H4 p (.lst (ys++[v]))) else N τ2 H3)
def tLC (own:List Str)(fr:List (Str×Nat))(wi:TI)(g:TG)(tc:TT)(te:TE):TE:=fun σ H Q =>
 wi σ H fun J H1=>∀ p,H1 p=none→lcW g tc te p J (st0 own fr σ) (upd H1 p (.lst [])) fun H2=>Q (.ref p) H2
section
variable {X:Cx}{elt tg iter:Expr}{ifs:List Expr}{scope:Scope}{pos:Pos}{own:List Str}{fr:List (Str×Nat)}{wi:TI}{g:TG}{tc:TT}{te:TE}
structure Blk (X:Cx)(scope:Scope)(N':List Str)(tg:Expr)(ifs:List Expr)(elt:Expr)(g:TG)(tc:TT)(te:TE):Prop where
 run:∀ pins fp s H,PG (cxC X scope N' pins fp s H) tg g∧PTs (cxC X scope N' pins fp s H) ifs tc∧PE (cxC X scope N' pins fp s H) elt te
structure CFree (X:Cx)(pins:List (Addr×Obj))(H:Hp)(C:Addr):Prop where
 un:H C=none
 loc:C≠X.env.locals
 new:X.s₀.heap.objs.size≤C
 cel:∀ x c,X.env.cells.lookup x=some c→c≠C
 pin:∀ p∈X.pn++pins,p.1≠C
theorem CFree.inv {pins:List (Addr×Obj)}{σ:St}{H:Hp}{s:Shared}{C:Addr}{h':Heap}(f:CFree X pins H C)(I:Inv X pins σ H s)(hs:Heap.SameBut C s.heap h'):Inv X pins σ H {s with heap:=h'} :=
 I.turned (t':=s.toks) (fun b o hb e=>hs.extBut b o hb e) f.un f.loc (.inr f.new) f.cel f.pin
theorem lcomp_run {pins:List (Addr×Obj)}{σ:St}{H2:Hp}{s2:Shared}{it:Addr}{fp:List Addr}{tn:Nat→Heap→Prop}{J:It}{EE:Hp→Prop}{RR:Value→Addr→Result→Shared→Prop}{E:Value→Shared→Prop}
  (hcalm:X.calm=true) (hc:CompOk scope X.env.scope) (hfr:frOk X scope fr) (B:Blk X scope (own++fr.map (·.1)) tg ifs elt g tc te)
  (I2:Inv X pins σ H2 s2) (T:Turn X.prog X.w X.K tg J fp it tn) (st2:tn 0 s2.heap) (f2:∀ b∈fp,FpOk X pins H2 b)
  (hw:lcW g tc te s2.heap.objs.size J (st0 own fr σ) (upd H2 s2.heap.objs.size (.lst [])) EE)
  (hRR:∀ C H' s' m,EE H'→s'.heap.Ns C m→Inv X pins σ H' s'→CFree X pins H' C→RR (.ref s2.heap.objs.size) C (.ok .next) s') :
  wpAny (model X.prog X.w) X.A (newList []) (fun acc s₃=>wpAny (model X.prog X.w) X.A (newFunctionEnv scope X.env.globals (clo X.env scope.names []) [] X.env.qual none .none (some X.env)) (fun cenv s₄ =>
   codeAny (model X.prog X.w) X.A (.compStart (.ListComp elt [⟨tg,iter,ifs,0⟩] scope pos) 0 (.ref it) acc {cenv with scope:=relabel scope X.env}) (RR acc cenv.locals) s₄) E s₃) E s2:=by
 have I3:Inv X pins σ (upd H2 s2.heap.objs.size (.lst [])) {s2 with heap:=s2.heap.push {cls:=.type "list",data:=.seq ([]:List Value).toArray},toks:=s2.toks}:=I2.lnew (ys:=[]) (its:=[]) (t':=s2.toks) .nil (Nat.zero_le _);generalize hs3:({s2 with heap:=s2.heap.push {cls:=.type "list",data:=.seq ([]:List Value).toArray},toks:=s2.toks}:Shared)=s3 at I3;have hsz3:s3.heap.objs.size=s2.heap.objs.size+1:=by rw[← hs3];exact Heap.size_push ..
 have k3:∀ b o,s2.heap.get? b=some o→s3.heap.get? b=some o:=fun b o e=>by rw[← hs3];exact Heap.get?_push_of_some _ e
 have hlt:∀ b∈fp,b<s2.heap.objs.size:=fun b hb=>let ⟨o,e,_⟩:=T.obj _ _ st2 b hb;Heap.lt_size e
 have f3:∀ b∈fp,FpOk X pins (upd H2 s2.heap.objs.size (.lst [])) b:=fun b hb=>⟨by rw[upd_ne (Nat.ne_of_lt (hlt b hb))];exact (f2 b hb).1,(f2 b hb).2⟩
 have st3:tn 0 s3.heap:=T.keep _ _ _ st2 fun b _ o e=>k3 b o e
 refine wpAny_newObj_type ?_;have e3:({s2 with heap:=s2.heap.push {cls:=.type "list",dict:=none,data:=.seq ([]:List Value).toArray}}:Shared)=s3:=hs3;rw[e3];refine wpAny_newFunctionEnv hc.noCell (by intro y hy;cases hy) (fun h₁ hns₁ hsb₁=>?_) hc.kind;have k4:∀ b o,s3.heap.get? b=some o→h₁.get? b=some o:=fun b o e=>hsb₁.extBut b o (Nat.ne_of_lt (Heap.lt_size e)) (Heap.get?_push_of_some _ e)
 have I4:=inv_comp (own:=own) I3 hc hcalm f3 (fun b hb=>Nat.lt_of_lt_of_le (hlt b hb) (by rw[hsz3];exact Nat.le_succ _)) hfr hns₁ k4;obtain⟨bg,bt,be⟩:=B.run pins fp s3 (upd H2 s2.heap.objs.size (.lst []));generalize hX':cxC X scope (own++fr.map (·.1)) pins fp s3 (upd H2 s2.heap.objs.size (.lst []))=X' at I4 bg bt be;have eP:X'.prog=X.prog:=by rw[← hX'];rfl
 have eW:X'.w=X.w:=by rw[← hX'];rfl
 have eK:X'.K=X.K:=by rw[← hX'];rfl
 have eA:X'.A=X.A:=by rw[← hX'];rfl
 have eC:X'.calm=true:=by rw[← hX'];rfl
 have eX:X'.xe=fun _ _=>False:=by rw[← hX'];rfl
 have eE:X'.env=compEnvC scope (clo X.env scope.names []) s3.heap.objs.size X.env:=by rw[← hX'];rfl
 have fC:∀ {H':Hp},(∀ b∈fp,H' b=none)→∀ b∈fp,FpOk X' [] H' b:=fun hn b hb=>by
  have hb':=f3 b hb;refine⟨hn b hb,?_,?_,?_,?_,?_⟩
  ·exact (I4.ok.exf b (by rw[← hX'];exact hb)).1
  ·exact I4.ok.exfs b (by rw[← hX'];exact hb)
  ·left;rw[← hX'];exact hb
  ·exact (I4.ok.exf b (by rw[← hX'];exact hb)).2
  ·intro p hp;have hp:p∈X.pn++pins:=by
    rw[← hX'] at hp;rcases List.mem_append.mp hp with q | q
    ·exact q
    ·cases q
   exact hb'.2.2.2.2.2 p hp
 obtain⟨W,⟨m0,w0⟩,turn⟩:=hw;have cenvE:({(newEnv scope s3.heap.objs.size X.env.globals (clo X.env scope.names []) X.env.qual none .none (some X.env) builtinsNs) with scope:=relabel scope X.env}:Env)=X'.env:=by rw[eE];rfl
 have loop:∀ s4:Shared,Inv X' [] (st0 own fr σ) (upd H2 s2.heap.objs.size (.lst [])) s4→tn 0 s4.heap →
   codeAny (model X.prog X.w) X.A (.compLoop (.ListComp elt [⟨tg,iter,ifs,0⟩] scope pos) 0 (.ref it) (.ref s2.heap.objs.size) X'.env) (RR (.ref s2.heap.objs.size) s3.heap.objs.size) s4:=by
  intro s4 J4 t4;refine lcomp_loop (fun n s'=>∃ i τ H',Inv X' [] τ H' s'∧tn i s'.heap∧(∀ b∈fp,H' b=none)∧W i n τ H') ?_ m0 ⟨0,_,_,J4,t4,fun b hb=>(f3 b hb).1,w0⟩;rintro n s5 ⟨i,τ5,H5,I5,t5,fr5,w5⟩;rcases turn i n τ5 H5 w5 with ⟨stop,qn⟩ | ⟨go,N,hN,step⟩
  ·have hd:=T.done X' eP eW eK eC i [] s5 τ5 H5 (fun _ _=>False) I5 (fC fr5) t5 stop;rw[eA] at hd;refine thn hd fun r s6 ⟨hr,I6⟩=>?_
   subst hr;have hbase:Un (frs X.stack) fp (upd H2 s2.heap.objs.size (.lst [])) H5 s3.heap s6.heap:=by have:=I6.base;rw[← hX'] at this;exact this
   have hok6:HOk X.prog X.w H5 s6.heap:=by have:=I6.hok;rw[eP,eW] at this;exact this
   have os6:s6.os=s3.os:=by have:=I6.os;rw[← hX'] at this;exact this
   obtain⟨m6,n6,_⟩:=I6.loc;have n6:s6.heap.Ns s3.heap.objs.size m6:=by rw[eE] at n6;exact n6
   have free6:H5 s3.heap.objs.size=none:=by have:=I6.free;rw[eE] at this;exact this
   refine hRR s3.heap.objs.size H5 s6 m6 qn n6 (I3.call' os6 hbase hok6 I6.bare fun b hb=>⟨(f3 b hb).2.2.2.1,(f3 b hb).2.1,(f3 b hb).2.2.2.2.1,(f3 b hb).2.2.2.2.2⟩) ⟨free6,?_,I3.sz,?_,?_⟩
   ·exact (Nat.ne_of_lt I3.lt).symm
   ·intro x c e z;obtain⟨v,hv⟩:=I3.cell x c e;have:=hv.lt;rw[z] at this;exact Nat.lt_irrefl _ this
   ·intro p hp z;have:=Heap.lt_size (I3.pin p hp).1;rw[z] at this;exact Nat.lt_irrefl _ this
  ·have hi:=T.item X' eP eW eK eC i [] s5 τ5 H5 (fun _ _=>False) I5 (fC fr5) t5 go;rw[eA] at hi;refine thn hi fun r s6 ⟨u,hr,h6⟩=>?_
   subst hr;refine thn h6 fun _ s7 ⟨x,H7,I7,r7,y7,t7,fr7⟩=>?_
   have I7':=I7.pinned (fC fr7) (T.obj _ _ t7);have again:∀ {τ:St} {H':Hp} {s':Shared},Inv X' ([]++pinsAt fp s7.heap) τ H' s'→N τ H'→∃ m,m<n∧∃ i τ H',Inv X' [] τ H' s'∧tn i s'.heap∧(∀ b∈fp,H' b=none)∧W i m τ H':=fun {τ H' s'} I8 n8=>by
    obtain⟨m',hm,w8⟩:=hN τ H' n8;refine⟨m',hm,i+1,τ,H',I8.unpinned,T.keep _ _ _ t7 fun b hb o e=>(I8.pin (b,o) (List.mem_append_right _ (List.mem_append_right _ (mem_pinsAt hb e)))).1,fun b hb=>?_,w8⟩;obtain⟨o,e,d⟩:=T.obj _ _ t7 b hb;exact (I8.pin (b,o) (List.mem_append_right _ (List.mem_append_right _ (mem_pinsAt hb e)))).2.1
   have hg:=bg _ s7 τ5 H7 x u _ I7' r7 (step x H7 y7);rw[eP,eW,eA,eX] at hg;refine thn hg fun _ s8 ⟨τ8,H8,I8,q8⟩=>?_
   have ht:=bt _ s8 τ8 H8 _ I8 q8;rw[eP,eW,eA,eX] at ht;refine thn ht fun ok s9 ⟨H9,I9,q9⟩=>?_
   cases ok with
   | false=>exact again I9 q9
   | true =>
    rw[if_pos rfl] at q9 ⊢;have hv:=be _ s9 τ8 H9 _ I9 q9;rw[eP,eW,eA,eX] at hv;refine thn hv fun y s10 ⟨v,H10,I10,r10,ys,hl,hlen,n10⟩=>?_
    have ha:=mt_append (X:=X') _ s10 τ8 H10 (.ref s2.heap.objs.size) [v] (.ref s2.heap.objs.size) [y] (fun _ H'=>N τ8 H') I10 rfl (.cons r10 .nil) ⟨_,_,_,rfl,rfl,hl,hlen,n10⟩;rw[eP,eW,eA,eX] at ha;exact thn ha fun _ s11 ⟨_,H11,I11,_,n11⟩=>again I11 n11
 have st4:tn 0 h₁:=T.keep _ _ _ st3 fun b _ o e=>k4 b o e
 show codeAny (model X.prog X.w) X.A (.compStart (.ListComp elt [⟨tg,iter,ifs,0⟩] scope pos) 0 (.ref it) (.ref s2.heap.objs.size) ({(newEnv scope s3.heap.objs.size X.env.globals (clo X.env scope.names []) X.env.qual none .none (some X.env) builtinsNs) with scope:=relabel scope X.env}:Env)) (RR (.ref s2.heap.objs.size) s3.heap.objs.size) _;rw[cenvE];exact codeAny_compStart_list (loop _ I4 st4) (T.self X.A 0 _ _ _ st4 (loop _ I4 st4))
theorem clo_ok {pins:List (Addr×Obj)}{σ:St}{H:Hp}{s:Shared}(I:Inv X pins σ H s)(hc:CompOk scope X.env.scope):closureFor scope X.env=pure (clo X.env scope.names []) :=
 closure_clo fun y hy e=>I.ok.has y.1 (hc.free y hy e)
theorem pe_lcomp (hcalm:X.calm=true)(hc:compOk scope X.env.scope=true)(hfr:frOk X scope fr)(hi:PI X tg iter wi)(B:Blk X scope (own++fr.map (·.1)) tg ifs elt g tc te)
  (hs:∀ x,foldedSetIterable iter X.env x=pure x:=by intro _;rfl):PE X (.ListComp elt [⟨tg,iter,ifs,0⟩] scope pos) (tLC own fr wi g tc te):=by
 intro pins s σ H Q I h;have hc:=compOk_of hc;rw[eval_ListComp];refine wpAny_comprehension_free (use:=none) rfl hs (clo_ok I hc) hc.kind hc.loc (thn (hi pins s σ H _ I h) fun v s1 h1=>thn h1 fun itv s2 h2=>?_);obtain⟨it,fp,tn,J,H2,e,I2,T,st2,f2,hw⟩:=h2;subst e;refine lcomp_run (RR:=fun acc C=>compPost (model X.prog X.w) X.A X.xe none (EP X pins σ Q) acc C) hcalm hc hfr B I2 T st2 f2 (hw _ I2.fresh) ?_;intro C H' s' m q n I' f;exact⟨m,n,fun h' hs'=>⟨.ref s2.heap.objs.size,H',f.inv I' hs',rfl,q⟩⟩
theorem ps_setLC {i:Nat}{x:Str}{px spos:Pos}(hcalm:X.calm=true)(hN:X.N.Nodup)(hx:X.N[i]?=some x)(hl:X.env.scope.names.lookup x=some .local)(hsw:swapsWith (.ListComp elt [⟨tg,iter,ifs,0⟩] scope pos) (some (.Name x px)) spos.line X.env=pure true)
  (hc:compOk scope X.env.scope=true) (hfr:frOk X scope fr) (hi:PI X tg iter wi) (B:Blk X scope (own++fr.map (·.1)) tg ifs elt g tc te)
  (hs:∀ x,foldedSetIterable iter X.env x=pure x:=by intro _;rfl):PS X (.Assign [.Name x px] (.ListComp elt [⟨tg,iter,ifs,0⟩] scope pos) spos) (tAsg (tLC own fr wi g tc te) (gName i)):=by
 intro pins s σ H D I h;have hc:=compOk_of hc;rw[exec_Assign_Name_used _ _ _ _ hsw];refine wpAny_bind (wpAny_standAt (wpAny_bind ?_));show wpAny _ X.A (do let _ ← comprehension (.ListComp elt [⟨tg,iter,ifs,0⟩] scope pos) scope X.env _ (newList []) false (eval iter X.env) (some (assign (.Name x px) X.env))) _ _ s
 refine wpAny_bind (wpAny_mono (wpAny_comprehension_free (use:=some (assign (.Name x px) X.env)) (Q:=fun _ s'=>SP X pins D .next s') rfl hs (clo_ok I hc) hc.kind hc.loc
  (thn (hi pins s σ H _ I h) fun v s1 h1=>thn h1 fun itv s2 h2=>?_)) (fun _ s' hq=>wpAny_pure (wpAny_pure hq)) fun _ _ e=>e)
 obtain⟨it,fp,tn,J,H2,e,I2,T,st2,f2,hw⟩:=h2;subst e;refine lcomp_run (RR:=fun acc C=>compPost (model X.prog X.w) X.A X.xe (some (assign (.Name x px) X.env)) (fun _ s'=>SP X pins D .next s') acc C) hcalm hc hfr B I2 T st2 f2 (hw _ I2.fresh) ?_;intro C H' s' m q n I' f;show wpAny _ X.A (assign (.Name x px) X.env (.ref s2.heap.objs.size)) _ _ _;refine wpAny_assign_Name (store_ok2 I' hN hx (.inl hl) (v:=.ref s2.heap.objs.size) rfl (fun s'' I'' hch=>?_) (.inr hl));obtain⟨a,sb,ha⟩:=hch;have hCa:C≠a:=by
  rcases ha with ha | ha
  ·rw[ha];exact f.loc
  ·exact fun z=>f.cel x a ha z.symm
 exact⟨m,n.sameBut sb hCa,fun h' hs'=>⟨_,H',f.inv I'' hs',q⟩⟩
end
end L2
namespace L2
open PySem PySem.Spec PyProof.Rows
theorem dcomp_loop {prog:Program}{w:World}{A:Around}{R:Result→Shared→Prop}{s:Shared}{kx vx target iter:Expr}{ifs:List Expr}{scope:Scope}{pos:Pos}{it:Value}{D:Addr}{env:Env}(I:Nat→Shared→Prop)
  (turn:∀ n s,I n s→wpAny (model prog w) A (pyNext it) (fun r s₁=>match r with
   | none=>R (.ok .next) s₁
   | some v=>wpAny (model prog w) A (letOwnedTupleGo target it v) (fun _ s₁=>wpAny (model prog w) A (assign target env v) (fun _ s₂ =>
     wpAny (model prog w) A (forIn ifs true fun c r=>if r=true then do let ok ← isTrue c env (eval c env);pure (ForInStep.yield ok) else pure (ForInStep.yield r)) (fun ok s₃ =>
      if ok=true then wpAny (model prog w) A (eval kx env) (fun kv s₄=>wpAny (model prog w) A (eval vx env) (fun vv s₄ =>
       wpAny (model prog w) A (dictSet D kv vv) (fun _ s₅=>∃ m,m<n∧I m s₅) (fun _ _=>False) s₄) (fun _ _=>False) s₄) (fun _ _=>False) s₃
      else ∃ m,m<n∧I m s₃) (fun _ _=>False) s₂) (fun _ _=>False) s₁) (fun _ _=>False) s₁) (fun _ _=>False) s)
  (n:Nat) (h:I n s):codeAny (model prog w) A (.compLoop (.DictComp kx vx [⟨target,iter,ifs,0⟩] scope pos) 0 it (.ref D) env) R s:=by
 refine codeAny_loop rfl I (fun n s hI=>?_) n h;show wpAny _ A ((compTurn (.DictComp kx vx [⟨target,iter,ifs,0⟩] scope pos) 0 it (.ref D) env).onRaise (fun x=>do noteFrame x env;theTreesLotGoes x)) _ _ s;refine wpAny_noted ?_;rw[compTurn_dict];refine wpAny_bind (wpAny_standAt (wpAny_bind (wpAny_mono (turn n s hI) (fun r s₁ h₁=>?_) fun _ _ h'=>h'.elim)));cases r with
 | none=>exact wpAny_pure h₁
 | some v =>
  refine wpAny_bind (wpAny_mono h₁ (fun _ s₁ h₁=>?_) fun _ _ h'=>h'.elim);refine wpAny_bind (wpAny_mono h₁ (fun _ s₂ h₂=>wpAny_bind (wpAny_mono h₂ (fun ok s₃ h₃=>?_) fun _ _ h'=>h'.elim)) fun _ _ h'=>h'.elim);cases ok with
  | false=>exact wpAny_pure ⟨rfl,h₃⟩
  | true =>
   exact wpAny_bind (wpAny_bind (wpAny_mono h₃ (fun kv s₄ h₄=>wpAny_bind (wpAny_holding (wpAny_mono h₄ (fun vv s₅ h₅=>wpAny_bind (wpAny_standAt (wpAny_holding (wpAny_mono h₅ (fun _ s₆ h₆=>wpAny_pure ⟨rfl,h₆⟩) fun _ _ h'=>h'.elim)))) fun _ _ h'=>h'.elim))) fun _ _ h'=>h'.elim))
theorem d_dictSet {X:Cx}{pins:List (Addr×Obj)}{σ:St}{H:Hp}{s:Shared}{a:Addr}{y v:V}{u r:Value}{A:Around}{E:Value→Shared→Prop}{H':Hp}{Q:Unit→Shared→Prop}(hu:A.units+1<cLine)(I:Inv X pins σ H s)(g:DPut H a y v H')(ry:RelV y u)(rv:RelV v r)(h:∀ s',Inv X pins σ H' s'→Q () s') :
  wpAny (model X.prog X.w) A (dictSet a u r) Q E s:=by
 rcases g with ⟨kvs,k,e,ey,l,eH⟩ | ⟨kvs,k,b,e,ey,eb,l,eH⟩
 ·subst ey eH;obtain⟨z,hd,vs,rel,dd⟩:=dk_of I.hok e;have hz:vs.length≤sizeLine:=by rw[← rel.length];exact z
  have hl:(putK kvs k v).length≤sizeLine:=by have:=length_putK kvs k v;omega
  refine wpAny_dictSet_pairs (hsz:=hz) (kV_is ry) dd fun h' dd' hs=>h _ ?_
  have he:∃ q,h'.get? a=some q:=let ⟨q,_,_,hq,_⟩:=dd';⟨q,hq⟩;exact d_write I (by rw[e];exact True.intro) hs he (dk_new hl hd (rel.put k rv) dd')
 ·subst ey eH;cases (show u=Value.ref b from ry);obtain⟨z,hd,xs,rel,dd⟩:=dt_of I.hok e;have hz:xs.length≤sizeLine:=by rw[← Paired.length rel];exact z
  have hl:(putK kvs k v).length≤sizeLine:=by have:=length_putK kvs k v;omega
  refine wpAny_dictSet_heap (hsz:=hz) (show (tupleKind (mixKind X.prog X.w)).room A from Nat.lt_of_succ_lt hu) (key_of I.hok eb) dd fun h' dd' hs=>h _ ?_
  obtain⟨q,es,ep,hq,h2,h3,h4,_,h5⟩:=dd';refine d_write I (by rw[e];exact True.intro) hs ⟨q,hq⟩ ⟨hl,hd,_,(rel.put k eb rv).keeps fun c ys ec=>?_,q,es,ep,hq,h2,h3,h4,h5⟩;rw[upd_ne (ne_of ec e (fun z=>nomatch z))];exact ec
def dNew:Bool→HO
 | true=>.dT []
 | false=>.dK []
theorem dnew_ok {P:Program}{w:World}{H:Hp}(h:Heap)(hb:sysModules<h.objs.size):∀ t,ObjOk P w H (h.push {cls:=.type "dict",data:=.dict #[]}) h.objs.size (dNew t)
 | true=>dt_empty h hb
 | false=>dk_empty h hb
def dcW (g:TG)(tc:TT)(te tv:TE)(p:Addr)(J:It)(τ0:St)(H0:Hp)(E:Hp→Prop):Prop :=
 ∃ W:Nat→Nat→St→Hp→Prop,(∃ m,W 0 m τ0 H0)∧∀ i m τ H,W i m τ H →
  (J.stop i H∧E H)∨(J.go i H∧∃ N:St→Hp→Prop,(∀ τ' H',N τ' H'→∃ m',m'<m∧W (i+1) m' τ' H') ∧
   ∀ x H',J.yld i H x H'→g x τ H' fun τ2 H2=>tc τ2 H2 fun b H3=>if b=true then te τ2 H3 fun k H4=>tv τ2 H4 fun v H5=>∃ H6,DPut H5 p k v H6∧N τ2 H6 else N τ2 H3)
def tDC (t:Bool)(own:List Str)(fr:List (Str×Nat))(wi:TI)(g:TG)(tc:TT)(te tv:TE):TE:=fun σ H Q =>
 wi σ H fun J H1=>∀ p,H1 p=none→dcW g tc te tv p J (st0 own fr σ) (upd H1 p (dNew t)) fun H2=>Q (.ref p) H2
section
variable {X:Cx}{kx vx tg iter:Expr}{ifs:List Expr}{scope:Scope}{pos:Pos}{own:List Str}{fr:List (Str×Nat)}{wi:TI}{g:TG}{tc:TT}{te tv:TE}
structure BlkD (X:Cx)(scope:Scope)(N':List Str)(tg:Expr)(ifs:List Expr)(kx vx:Expr)(g:TG)(tc:TT)(te tv:TE):Prop where
 run:∀ pins fp s H,PG (cxC X scope N' pins fp s H) tg g∧PTs (cxC X scope N' pins fp s H) ifs tc∧PE (cxC X scope N' pins fp s H) kx te∧PE (cxC X scope N' pins fp s H) vx tv
theorem dcomp_run {pins:List (Addr×Obj)}{σ:St}{H2:Hp}{s2:Shared}{it:Addr}{fp:List Addr}{tn:Nat→Heap→Prop}{J:It}{EE:Hp→Prop}{RR:Value→Addr→Result→Shared→Prop}{E:Value→Shared→Prop}
  (t:Bool) (hu:X.A.units+1<cLine) (hcalm:X.calm=true) (hc:CompOk scope X.env.scope) (hfr:frOk X scope fr) (B:BlkD X scope (own++fr.map (·.1)) tg ifs kx vx g tc te tv)
  (I2:Inv X pins σ H2 s2) (T:Turn X.prog X.w X.K tg J fp it tn) (st2:tn 0 s2.heap) (f2:∀ b∈fp,FpOk X pins H2 b)
  (hw:dcW g tc te tv s2.heap.objs.size J (st0 own fr σ) (upd H2 s2.heap.objs.size (dNew t)) EE)
  (hRR:∀ C H' s' m,EE H'→s'.heap.Ns C m→Inv X pins σ H' s'→CFree X pins H' C→RR (.ref s2.heap.objs.size) C (.ok .next) s') :
  wpAny (model X.prog X.w) X.A newDict (fun acc s₃=>wpAny (model X.prog X.w) X.A (newFunctionEnv scope X.env.globals (clo X.env scope.names []) [] X.env.qual none .none (some X.env)) (fun cenv s₄ =>
   codeAny (model X.prog X.w) X.A (.compStart (.DictComp kx vx [⟨tg,iter,ifs,0⟩] scope pos) 0 (.ref it) acc {cenv with scope:=relabel scope X.env}) (RR acc cenv.locals) s₄) E s₃) E s2:=by
 have I3:Inv X pins σ (upd H2 s2.heap.objs.size (dNew t)) {s2 with heap:=s2.heap.push {cls:=.type "dict",data:=.dict #[]},toks:=s2.toks}:=I2.laid (t':=s2.toks) (fun _ _ q=>Heap.get?_push_of_some _ q) (Nat.le_refl _) (dnew_ok s2.heap I2.big t);generalize hs3:({s2 with heap:=s2.heap.push {cls:=.type "dict",data:=.dict #[]},toks:=s2.toks}:Shared)=s3 at I3;have hsz3:s3.heap.objs.size=s2.heap.objs.size+1:=by rw[← hs3];exact Heap.size_push ..
 have k3:∀ b o,s2.heap.get? b=some o→s3.heap.get? b=some o:=fun b o e=>by rw[← hs3];exact Heap.get?_push_of_some _ e
 have hlt:∀ b∈fp,b<s2.heap.objs.size:=fun b hb=>let ⟨o,e,_⟩:=T.obj _ _ st2 b hb;Heap.lt_size e
 have f3:∀ b∈fp,FpOk X pins (upd H2 s2.heap.objs.size (dNew t)) b:=fun b hb=>⟨by rw[upd_ne (Nat.ne_of_lt (hlt b hb))];exact (f2 b hb).1,(f2 b hb).2⟩
 have st3:tn 0 s3.heap:=T.keep _ _ _ st2 fun b _ o e=>k3 b o e
 refine wpAny_newObj_type ?_;have e3:({s2 with heap:=s2.heap.push {cls:=.type "dict",dict:=none,data:=.dict #[]}}:Shared)=s3:=hs3;rw[e3];refine wpAny_newFunctionEnv hc.noCell (by intro y hy;cases hy) (fun h₁ hns₁ hsb₁=>?_) hc.kind;have k4:∀ b o,s3.heap.get? b=some o→h₁.get? b=some o:=fun b o e=>hsb₁.extBut b o (Nat.ne_of_lt (Heap.lt_size e)) (Heap.get?_push_of_some _ e)
 have I4:=inv_comp (own:=own) I3 hc hcalm f3 (fun b hb=>Nat.lt_of_lt_of_le (hlt b hb) (by rw[hsz3];exact Nat.le_succ _)) hfr hns₁ k4;obtain⟨bg,bt,be,bv⟩:=B.run pins fp s3 (upd H2 s2.heap.objs.size (dNew t));generalize hX':cxC X scope (own++fr.map (·.1)) pins fp s3 (upd H2 s2.heap.objs.size (dNew t))=X' at I4 bg bt be bv;have eP:X'.prog=X.prog:=by rw[← hX'];rfl
 have eW:X'.w=X.w:=by rw[← hX'];rfl
 have eK:X'.K=X.K:=by rw[← hX'];rfl
 have eA:X'.A=X.A:=by rw[← hX'];rfl
 have eC:X'.calm=true:=by rw[← hX'];rfl
 have eX:X'.xe=fun _ _=>False:=by rw[← hX'];rfl
 have eE:X'.env=compEnvC scope (clo X.env scope.names []) s3.heap.objs.size X.env:=by rw[← hX'];rfl
 have fC:∀ {H':Hp},(∀ b∈fp,H' b=none)→∀ b∈fp,FpOk X' [] H' b:=fun hn b hb=>by
  have hb':=f3 b hb;refine⟨hn b hb,?_,?_,?_,?_,?_⟩
  ·exact (I4.ok.exf b (by rw[← hX'];exact hb)).1
  ·exact I4.ok.exfs b (by rw[← hX'];exact hb)
  ·left;rw[← hX'];exact hb
  ·exact (I4.ok.exf b (by rw[← hX'];exact hb)).2
  ·intro p hp;have hp:p∈X.pn++pins:=by
    rw[← hX'] at hp;rcases List.mem_append.mp hp with q | q
    ·exact q
    ·cases q
   exact hb'.2.2.2.2.2 p hp
 obtain⟨W,⟨m0,w0⟩,turn⟩:=hw;have cenvE:({(newEnv scope s3.heap.objs.size X.env.globals (clo X.env scope.names []) X.env.qual none .none (some X.env) builtinsNs) with scope:=relabel scope X.env}:Env)=X'.env:=by rw[eE];rfl
 have loop:∀ s4:Shared,Inv X' [] (st0 own fr σ) (upd H2 s2.heap.objs.size (dNew t)) s4→tn 0 s4.heap →
   codeAny (model X.prog X.w) X.A (.compLoop (.DictComp kx vx [⟨tg,iter,ifs,0⟩] scope pos) 0 (.ref it) (.ref s2.heap.objs.size) X'.env) (RR (.ref s2.heap.objs.size) s3.heap.objs.size) s4:=by
  intro s4 J4 t4;refine dcomp_loop (fun n s'=>∃ i τ H',Inv X' [] τ H' s'∧tn i s'.heap∧(∀ b∈fp,H' b=none)∧W i n τ H') ?_ m0 ⟨0,_,_,J4,t4,fun b hb=>(f3 b hb).1,w0⟩;rintro n s5 ⟨i,τ5,H5,I5,t5,fr5,w5⟩;rcases turn i n τ5 H5 w5 with ⟨stop,qn⟩ | ⟨go,N,hN,step⟩
  ·have hd:=T.done X' eP eW eK eC i [] s5 τ5 H5 (fun _ _=>False) I5 (fC fr5) t5 stop;rw[eA] at hd;refine thn hd fun r s6 ⟨hr,I6⟩=>?_
   subst hr;have hbase:Un (frs X.stack) fp (upd H2 s2.heap.objs.size (dNew t)) H5 s3.heap s6.heap:=by have:=I6.base;rw[← hX'] at this;exact this
   have hok6:HOk X.prog X.w H5 s6.heap:=by have:=I6.hok;rw[eP,eW] at this;exact this
   have os6:s6.os=s3.os:=by have:=I6.os;rw[← hX'] at this;exact this
   obtain⟨m6,n6,_⟩:=I6.loc;have n6:s6.heap.Ns s3.heap.objs.size m6:=by rw[eE] at n6;exact n6
   have free6:H5 s3.heap.objs.size=none:=by have:=I6.free;rw[eE] at this;exact this
   refine hRR s3.heap.objs.size H5 s6 m6 qn n6 (I3.call' os6 hbase hok6 I6.bare fun b hb=>⟨(f3 b hb).2.2.2.1,(f3 b hb).2.1,(f3 b hb).2.2.2.2.1,(f3 b hb).2.2.2.2.2⟩) ⟨free6,?_,I3.sz,?_,?_⟩
   ·exact (Nat.ne_of_lt I3.lt).symm
   ·intro x c e z;obtain⟨v,hv⟩:=I3.cell x c e;have:=hv.lt;rw[z] at this;exact Nat.lt_irrefl _ this
   ·intro p hp z;have:=Heap.lt_size (I3.pin p hp).1;rw[z] at this;exact Nat.lt_irrefl _ this
  ·have hi:=T.item X' eP eW eK eC i [] s5 τ5 H5 (fun _ _=>False) I5 (fC fr5) t5 go;rw[eA] at hi;refine thn hi fun r s6 ⟨u,hr,h6⟩=>?_
   subst hr;refine thn h6 fun _ s7 ⟨x,H7,I7,r7,y7,t7,fr7⟩=>?_
   have I7':=I7.pinned (fC fr7) (T.obj _ _ t7);have again:∀ {τ:St} {H':Hp} {s':Shared},Inv X' ([]++pinsAt fp s7.heap) τ H' s'→N τ H'→∃ m,m<n∧∃ i τ H',Inv X' [] τ H' s'∧tn i s'.heap∧(∀ b∈fp,H' b=none)∧W i m τ H':=fun {τ H' s'} I8 n8=>by
    obtain⟨m',hm,w8⟩:=hN τ H' n8;refine⟨m',hm,i+1,τ,H',I8.unpinned,T.keep _ _ _ t7 fun b hb o e=>(I8.pin (b,o) (List.mem_append_right _ (List.mem_append_right _ (mem_pinsAt hb e)))).1,fun b hb=>?_,w8⟩;obtain⟨o,e,d⟩:=T.obj _ _ t7 b hb;exact (I8.pin (b,o) (List.mem_append_right _ (List.mem_append_right _ (mem_pinsAt hb e)))).2.1
   have hg:=bg _ s7 τ5 H7 x u _ I7' r7 (step x H7 y7);rw[eP,eW,eA,eX] at hg;refine thn hg fun _ s8 ⟨τ8,H8,I8,q8⟩=>?_
   have ht:=bt _ s8 τ8 H8 _ I8 q8;rw[eP,eW,eA,eX] at ht;refine thn ht fun ok s9 ⟨H9,I9,q9⟩=>?_
   cases ok with
   | false=>exact again I9 q9
   | true =>
    rw[if_pos rfl] at q9 ⊢;have hv:=be _ s9 τ8 H9 _ I9 q9;rw[eP,eW,eA,eX] at hv;refine thn hv fun ky s10 ⟨kk,H10,I10,r10,q10⟩=>?_
    have hv:=bv _ s10 τ8 H10 _ I10 q10;rw[eP,eW,eA,eX] at hv;refine thn hv fun y s11 ⟨v,H11,I11,r11,H12,dp,n12⟩=>?_
    have ha:=d_dictSet (A:=X.A) (E:=fun _ _=>False) (Q:=fun _ s12=>Inv X' ([]++pinsAt fp s7.heap) τ8 H12 s12) hu I11 dp r10 r11 fun s12 I12=>I12
    rw[eP,eW] at ha;exact thn ha fun _ s12 I12=>again I12 n12
 have st4:tn 0 h₁:=T.keep _ _ _ st3 fun b _ o e=>k4 b o e
 show codeAny (model X.prog X.w) X.A (.compStart (.DictComp kx vx [⟨tg,iter,ifs,0⟩] scope pos) 0 (.ref it) (.ref s2.heap.objs.size) ({(newEnv scope s3.heap.objs.size X.env.globals (clo X.env scope.names []) X.env.qual none .none (some X.env) builtinsNs) with scope:=relabel scope X.env}:Env)) (RR (.ref s2.heap.objs.size) s3.heap.objs.size) _;rw[cenvE];exact codeAny_compStart_dict (loop _ I4 st4) (T.self X.A 0 _ _ _ st4 (loop _ I4 st4))
theorem pe_dcomp (t:Bool)(hu:X.A.units+1<cLine)(hcalm:X.calm=true)(hc:compOk scope X.env.scope=true)(hfr:frOk X scope fr)(hi:PI X tg iter wi)(B:BlkD X scope (own++fr.map (·.1)) tg ifs kx vx g tc te tv)
  (hs:∀ x,foldedSetIterable iter X.env x=pure x:=by intro _;rfl):PE X (.DictComp kx vx [⟨tg,iter,ifs,0⟩] scope pos) (tDC t own fr wi g tc te tv):=by
 intro pins s σ H Q I h;have hc:=compOk_of hc;rw[arm_eval_DictComp];refine wpAny_comprehension_free (use:=none) rfl hs (clo_ok I hc) hc.kind hc.loc (thn (hi pins s σ H _ I h) fun v s1 h1=>thn h1 fun itv s2 h2=>?_);obtain⟨it,fp,tn,J,H2,e,I2,T,st2,f2,hw⟩:=h2;subst e;refine dcomp_run (RR:=fun acc C=>compPost (model X.prog X.w) X.A X.xe none (EP X pins σ Q) acc C) t hu hcalm hc hfr B I2 T st2 f2 (hw _ I2.fresh) ?_;intro C H' s' m q n I' f;exact⟨m,n,fun h' hs'=>⟨.ref s2.heap.objs.size,H',f.inv I' hs',rfl,q⟩⟩
end
end L2
end
section
set_option Elab.async false
set_option linter.all false
set_option maxRecDepth 100000
namespace Srt
open PySem PyProof.Rows
section
variable {prog:Program}{w:World}{A:Around}{E:Value→Shared→Prop}{s:Shared}{O:KeyOrd}{key:Value→O.α}{knd:SortKind}
def Asks (prog:Program)(w:World)(A:Around)(O:KeyOrd)(key:Value→O.α)(knd:SortKind)(vs:List Value)(s:Shared):Prop :=
 (2≤vs.length→∀ (E:Value→Shared→Prop) (Q:SortKind→Shared→Prop),Q knd s→wpAny (model prog w) A (keyKind' vs.toArray) Q E s) ∧
 ∀ x∈vs,∀ y∈vs,∀ (E:Value→Shared→Prop) (Q:Bool→Shared→Prop),Q (O.blt (key x) (key y)) s→wpAny (model prog w) A (keyLt' knd x y) Q E s
theorem mem_pairs {vs:List Value}{p:Keyed}(h:p∈(pairsOf vs).toList):p.1∈vs∧p.1=p.2:=by
 rw[pairsOf_toList] at h;obtain⟨i,hi⟩:=List.mem_iff_getElem?.mp h;rw[List.getElem?_zip_eq_some] at hi;refine⟨List.mem_iff_getElem?.mpr ⟨i,hi.1⟩,?_⟩;have:=hi.1.symm.trans hi.2;exact Option.some.inj this
theorem cmp_of {vs:List Value}(h:Asks prog w A O key knd vs s):Ts.Cmp (model prog w) A E s knd O (fun p=>key p.1) (pairsOf vs):=by
 intro p hp q hq st Q hk hQ;rw[lt'_eq];refine wpS_bind (wpS_get ?_);rw[hk];refine wpS_bind (wpS_lift (wpAny_attempt (h.2 p.1 (mem_pairs hp).1 q.1 (mem_pairs hq).1 _ _ ⟨rfl,?_⟩)));exact wpS_pure hQ
theorem out_of {vs:List Value}{xs:Array Keyed}(hp:xs.Perm (pairsOf vs))(hs:Ts.Seg (O:=O) (fun p=>key p.1) xs 0 (pairsOf vs).size) :
  (xs.map (·.2)).toList.Perm vs∧(xs.map (·.2)).toList.Pairwise fun x y=>O.kle (key x) (key y):=by
 have hp':=Array.perm_iff_toList_perm.mp hp;have hsz:xs.size=(pairsOf vs).size:=hp.size_eq;rw[Array.toList_map];refine⟨?_,?_⟩
 ·refine (hp'.map _).trans ?_;rw[pairsOf_toList,show (vs.zip vs).map (·.2)=vs from List.map_snd_zip (Nat.le_refl _)]
 ·rw[List.pairwise_map];rw[← hsz] at hs;refine (Ts.pw_of_seg hs).imp_of_mem fun {a b} ha hb hab=>?_
  have e1:=(mem_pairs (hp'.mem_iff.mp ha)).2;have e2:=(mem_pairs (hp'.mem_iff.mp hb)).2;rw[← e1,← e2];exact hab
theorem list_sort_any {a:Addr}{vs:List Value}{n:Nat}{P:Fin→Shared→Prop}(ho:s.heap.get? a=some (seqObj "list" vs.toArray n))(h64:vs.length<64)
  (hA:∀ s':Shared,(∀ b o,b≠a→s.heap.get? b=some o→s'.heap.get? b=some o)→Asks prog w A O key knd vs s')
  (h:∀ out:Array Value,out.toList.Perm vs→(out.toList.Pairwise fun x y=>O.kle (key x) (key y))→P (.done (.ret .none)) {s with heap:=sortedHeap s.heap a vs out}) :
  wpAny (model prog w) A (Builtin.«list.sort» ⟨[.ref a],[]⟩) P E s:=by
 rw[list_sort_plain];have hz:vs.length≤sizeLine:=Nat.le_trans (Nat.le_of_lt h64) (by decide);have ha:a<s.heap.objs.size:=Heap.lt_size ho;have hsz:vs.toArray.size=vs.length:=by simp
 refine wpAny_bind (listItems_at ho rfl ?_);refine wpAny_bind (listUpdate_at ho rfl ?_ (hsz:=by rw[hsz];exact hz));obtain⟨e1,ho1⟩:∃ e1,(s.heap.update a (Obj.mapSeq fun _=>#[])).get? a=some (seqObj "list" #[] e1):=⟨_,get?_update_seq ho (fun _=>#[])⟩
 refine wpAny_bind (seqEpoch_at ho1 rfl ?_);refine wpAny_bind (wpAny_newTuple ?_ (by simpa using hz));refine wpAny_bind (wpAny_newList ?_);refine wpAny_holding ?_;have ho6:(((s.heap.update a (Obj.mapSeq fun _=>#[])).push (seqObj "tuple" vs.toArray 0)).push (seqObj "list" #[] 0)).get? a=some (seqObj "list" #[] e1):=by
  rw[Heap.get?_push_ne _ _ _ (by rw[size_push',Heap.size_update];exact Nat.ne_of_lt (Nat.lt_succ_of_lt ha)),Heap.get?_push_ne _ _ _ (by rw[Heap.size_update];exact Nat.ne_of_lt ha)];exact ho1
 have keep:∀ b o,b≠a→s.heap.get? b=some o→(((s.heap.update a (Obj.mapSeq fun _=>#[])).push (seqObj "tuple" vs.toArray 0)).push (seqObj "list" #[] 0)).get? b=some o:=fun b o hb e =>
  Heap.get?_push_of_some _ (Heap.get?_push_of_some _ ((Heap.SameBut.update ..).extBut b o hb e))
 show wpAny (model prog w) A _ P E {s with heap:=((s.heap.update a (Obj.mapSeq fun _=>#[])).push (seqObj "tuple" vs.toArray 0)).push (seqObj "list" #[] 0)};dsimp only;have hA':=hA {s with heap:=((s.heap.update a (Obj.mapSeq fun _=>#[])).push (seqObj "tuple" vs.toArray 0)).push (seqObj "list" #[] 0)} keep;by_cases h2:vs.toArray.size<2
 ·rw[if_pos h2,if_pos h2];refine wpAny_bind (wpAny_pure ?_);rw[StateT.run_pure];refine wpAny_bind (wpAny_pure ?_);dsimp only;refine wpAny_bind (seqEpoch_at ho6 rfl ?_);refine wpAny_bind (listUpdate_at ho6 rfl ?_ (hsz2:=by rw[Array.size_map];show (pairsOf vs).size≤_;rw[pairsOf_size];omega));simp only[bne_self_eq_false,Bool.false_eq_true,if_false]
  have o:=out_of (O:=O) (key:=key) (vs:=vs) (Array.Perm.refl _) (fun i j h0 hij hj=>by
   rw[pairsOf_size] at hj;have:i=j:=by omega
   subst this;exact KeyOrd.kle_refl _)
  exact wpAny_pure (h _ o.1 o.2)
 ·rw[if_neg h2,if_neg h2];refine wpAny_bind (hA'.1 (by omega) _ _ ?_)
  refine wpAny_bind (wpAny_mono (Ts.wpS_sRs (O:=O) (key:=fun p=>key p.1) (a₀:=pairsOf vs) (knd:=knd) (st:=SortSt.mk' knd (vs.toArray.zip vs.toArray) #[] 7 none)
   (Q:=fun _ st'=>(arrOf st').Perm (pairsOf vs)∧failedOf st'=none∧Ts.Seg (O:=O) (fun p=>key p.1) (arrOf st') 0 (pairsOf vs).size)
   (cmp_of hA') ⟨Array.Perm.refl _,rfl,rfl⟩ rfl (by rw[pairsOf_size];omega) (by rw[pairsOf_size];exact h64) fun st' hB hS=>⟨hB.perm,hB.failed,hS⟩) ?_ fun _ _ e=>e)
  rintro⟨⟨⟩,st'⟩ s' ⟨rfl,hp,hf,hs⟩;dsimp only;refine wpAny_bind (seqEpoch_at ho6 rfl ?_);refine wpAny_bind (listUpdate_at ho6 rfl ?_ (hsz2:=by refine Nat.le_trans (Nat.le_of_eq ((Array.size_map ..).trans (hp.size_eq.trans (pairsOf_size _)))) ?_;omega));rw[hf];simp only[bne_self_eq_false,Bool.false_eq_true,if_false];have o:=out_of hp hs;exact wpAny_pure (h _ o.1 o.2)
def Coll (prog:Program)(w:World)(A:Around)(r:Addr)(s:Shared)(C:List Value→Prop):Prop :=
 ∀ (E:Value→Shared→Prop) (R:List Value→Shared→Prop),(∀ (h':Heap) (tk:Nat) (vs:List Value),(∀ b o,s.heap.get? b=some o→h'.get? b=some o)→C vs→R vs {s with heap:=h',toks:=tk})→wpAny (model prog w) A (collect (.ref r)) R E s
theorem sorted_any {r:Addr}{C:List Value→Prop}{Q:Value→Shared→Prop}(hc:Coll prog w A.in1 r s C)(hz:∀ vs,C vs→vs.length<64)
  (hA:∀ (vs:List Value) (s':Shared),C vs→(∀ b o,s.heap.get? b=some o→s'.heap.get? b=some o)→Asks prog w A.in1.in1 O key knd vs s')
  (h:∀ (vs out:List Value) (h1 h':Heap) (tk n:Nat),C vs→out.Perm vs→(out.Pairwise fun x y=>O.kle (key x) (key y))→(∀ b o,s.heap.get? b=some o→h1.get? b=some o)→(∀ b o,h1.get? b=some o→h'.get? b=some o) →
   h'.get? h1.objs.size=some (seqObj "list" out.toArray n)→Q (.ref h1.objs.size) {s with heap:=h',toks:=tk}):wpAny (model prog w) A (call (.builtin "sorted") [.ref r]) Q E s:=by
 refine Calls.call_function_entry kind_sorted plain_sorted entry_sorted (args_sorted1 _) ?_;unfold Builtin.«sorted»;refine wpAny_bind (m:=checkCount "sorted" 1 1 _) (wpAny_pure ?_);refine wpAny_bind (hc _ _ fun h1 tk vs hk hC=>?_);refine wpAny_bind (wpAny_newList ?_ (by simpa using Nat.le_trans (Nat.le_of_lt (hz vs hC)) (by decide)));have hoL:(h1.push (seqObj "list" vs.toArray 0)).get? h1.objs.size=some (seqObj "list" vs.toArray 0):=Heap.get?_push_size _ rfl;refine wpAny_bind (wpAny_holding (wpAny_call_entry slot_list_sort ⟨_,hoL,rfl⟩ entry_list_sort (list_sort_any (O:=O) (key:=key) (knd:=knd) hoL (hz vs hC) (fun s' hs'=>hA vs s' hC fun b o e=>?_) fun out hp hs=>⟨_,rfl,?_⟩) (args_list_sort _)))
 ·exact hs' b o (Nat.ne_of_lt (Heap.lt_size (hk b o e))) (Heap.get?_push_of_some _ (hk b o e))
 ·refine wpAny_pure ⟨_,rfl,?_⟩;obtain⟨n',hn'⟩:∃ n',(sortedHeap (h1.push (seqObj "list" vs.toArray 0)) h1.objs.size vs out).get? h1.objs.size=some (seqObj "list" out n'):=by
   first | exact sortedHeap_at hoL | exact⟨_,sortedHeap_at hoL⟩
  refine h vs out.toList h1 _ tk n' hC hp hs hk (fun b o e=>?_) ?_
  ·have hb:b≠h1.objs.size:=Nat.ne_of_lt (Heap.lt_size e);have hlt:b<(h1.push (seqObj "list" vs.toArray 0)).objs.size:=by rw[size_push'];exact Nat.lt_succ_of_lt (Heap.lt_size e)
   rw[sortedHeap_old hb hlt];exact Heap.get?_push_of_some _ e
  ·rw[Array.toArray_toList];exact hn'
def intOrd:KeyOrd where
 α:=Int
 blt:=fun a b=>decide (a<b)
 irrefl:=fun a=>by simp
 trans:=fun a b c h1 h2=>by simp at *;omega
 negTrans:=fun a b c h=>by simp at *;omega
 total:=fun a b h1 h2=>by simp at *;omega
def intKey:Value→Int
 | .int i _=>i
 | _=>0
theorem lex_irrefl:∀ a:List Int,HT.lexLt a a=false
 | []=>rfl
 | x::r=>by rw[HT.lexLt_cons,if_pos rfl];exact lex_irrefl r
theorem lex_trans:∀ a b c:List Int,HT.lexLt a b=true→HT.lexLt b c=true→HT.lexLt a c=true
 | [],[],_,h,_=>by cases h
 | [],_::_,[],_,h=>by cases h
 | [],_::_,_::_,_,_=>rfl
 | _::_,[],_,h,_=>by cases h
 | _::_,_::_,[],_,h=>by cases h
 | x::a,y::b,z::c,h1,h2=>by
  rw[HT.lexLt_cons] at h1 h2 ⊢;by_cases e1:x=y
  ·rw[if_pos e1] at h1;subst e1;by_cases e2:x=z
   ·rw[if_pos e2] at h2 ⊢;exact lex_trans a b c h1 h2
   ·rw[if_neg e2] at h2 ⊢;exact h2
  ·rw[if_neg e1] at h1;by_cases e2:y=z
   ·rw[if_pos e2] at h2;subst e2;rw[if_neg e1];exact h1
   ·rw[if_neg e2] at h2;simp at h1 h2;rw[if_neg (by omega)];simp;omega
theorem lex_total:∀ a b:List Int,HT.lexLt a b=false→HT.lexLt b a=false→a=b
 | [],[],_,_=>rfl
 | [],_::_,h,_=>by cases h
 | _::_,[],_,h=>by cases h
 | x::a,y::b,h1,h2=>by
  rw[HT.lexLt_cons] at h1 h2;by_cases e:x=y
  ·subst e;rw[if_pos rfl] at h1 h2;rw[lex_total a b h1 h2]
  ·rw[if_neg e] at h1;rw[if_neg (fun z=>e z.symm)] at h2;simp at h1 h2;omega
def lexOrd:KeyOrd where
 α:=List Int
 blt:=HT.lexLt
 irrefl:=lex_irrefl
 trans:=lex_trans
 negTrans:=fun a b c h=>by
  cases h1:HT.lexLt a b with
  | true=>exact .inl rfl
  | false =>
   right;cases h2:HT.lexLt b a with
   | true=>exact lex_trans b a c h2 h
   | false=>rw[← lex_total a b h1 h2];exact h
 total:=lex_total
theorem asks_ints {vs:List Value}{ns:List Int}(hI:IntsAre vs ns):Asks prog w A intOrd intKey oneType' vs s:=by
 refine⟨fun h2 E Q hq=>?_,fun x hx y hy E Q hq=>?_⟩
 ·match vs,h2,hI with
  | v₁::v₂::rest,_,hI=>rw[keyKind_ints hI];exact wpAny_pure hq
 ·have key:∀ {vs:List Value} {ns:List Int},IntsAre vs ns→∀ x∈vs,∃ i t,x=Value.int i t:=by
   intro vs ns h;induction h with
   | nil=>intro x hx;cases hx
   | cons n t _ ih =>
    intro x hx;rcases List.mem_cons.mp hx with rfl | hx
    ·exact⟨n,t,rfl⟩
    ·exact ih x hx
  obtain⟨i,t,rfl⟩:=key hI x hx;obtain⟨j,u,rfl⟩:=key hI y hy;exact PySem.W.kat_lt_int hq
end
end Srt
namespace Srt
open PySem PyProof.Rows PySem.W
section
variable {prog:Program}{w:World}{A:Around}{E:Value→Shared→Prop}{s:Shared}
def TupInts (h:Heap)(v:Value)(ks:List Int):Prop:=∃ a o items n,v=.ref a∧h.get? a=some o∧o.cls=.type "tuple"∧o.data=.seq items n∧IntsAre items.toList ks∧ks≠[]
theorem TupInts.keep {h h':Heap}{v:Value}{ks:List Int}(t:TupInts h v ks)(k:∀ b o,h.get? b=some o→h'.get? b=some o):TupInts h' v ks :=
 let ⟨a,o,items,n,e,ho,r⟩:=t;⟨a,o,items,n,e,k _ _ ho,r⟩
def tupKey (h:Heap):Value→List Int
 | .ref a=>match h.get? a with
  | some o=>match o.data with
   | .seq items _=>items.toList.map intKey
   | _=>[]
  | none=>[]
 | _=>[]
theorem intKeys_of {us:List Value}{ns:List Int}(h:IntsAre us ns):us.map intKey=ns:=by
 induction h with
 | nil=>rfl
 | cons n t _ ih=>rw[List.map_cons,ih];rfl
theorem tupKey_of {h:Heap}{v:Value}{ks:List Int}(t:TupInts h v ks):tupKey h v=ks:=by
 obtain⟨a,o,items,n,rfl,ho,hc,hd,hi,_⟩:=t;simp only[tupKey,ho,hd];exact intKeys_of hi
theorem katlex_ints {b fin:Bool}{Q:Bool→Shared→Prop}:∀ {us:List Value} {ns:List Int} {ws:List Value} {ms:List Int} (i:Nat),IntsAre us ns→IntsAre ws ms→fin=decide (us.length<ws.length)→Q (HT.lexLt ns ms) s →
  KatLex prog w A b fin Q (us.zip ws) i s
 | _,_,_,_,_,.nil,.nil,hf,hq=>by subst hf;exact hq
 | _,_,_,_,_,.nil,.cons m u h,hf,hq=>by
  subst hf;show Q (decide (0<_)) s;rw[List.length_cons,decide_eq_true (Nat.succ_pos _)];exact hq
 | _,_,_,_,_,.cons m u h,.nil,hf,hq=>by
  subst hf;show Q (decide (_<0)) s;rw[decide_eq_false (Nat.not_lt_zero _)];exact hq
 | _,_,_,_,i,.cons n t h,.cons m u k,hf,hq=>by
  rw[List.zip_cons_cons];refine kat_cons (wpAny_eqBool_int ?_);rw[HT.lexLt_cons] at hq;by_cases e:n=m
  ·rw[if_pos e] at hq;have eb:(n == m)=true:=beq_iff_eq.mpr e;rw[eb];exact kat_yes (katlex_ints (i+1) h k (by rw[hf,List.length_cons,List.length_cons];simp) hq)
  ·rw[if_neg e] at hq;have eb:(n == m)=false:=beq_eq_false_iff_ne.mpr e;rw[eb];refine kat_no ?_;cases hb:(b && i == 0) with
   | true=>exact oneLt_int hq
   | false=>exact kat_one _ _ (PyProof.Rows.lt_int hq)
theorem katTups_of {h:Heap}:∀ {vs:List Value},(∀ v∈vs,∃ ks,TupInts h v ks)→∃ fs,KatTups h vs fs∧fs.length=vs.length∧∀ f∈fs,∃ i t,f=Value.int i t
 | [],_=>⟨[],.nil,rfl,fun f hf=>nomatch hf⟩
 | v::vs,hv=>by
  obtain⟨fs,k,hl,hf⟩:=katTups_of (vs:=vs) fun u hu=>hv u (List.mem_cons_of_mem _ hu)
  obtain⟨ks,a,o,items,n,rfl,ho,hc,hd,hi,hne⟩:=hv v List.mem_cons_self;obtain⟨i,t,r,e⟩:∃ i t r,items.toList=Value.int i t::r:=by
   generalize items.toList=l at hi;cases hi with
   | nil=>exact absurd rfl hne
   | cons n t _=>exact⟨n,t,_,rfl⟩
  refine⟨.int i t::fs,.cons ho hc hd ?_ k,by rw[List.length_cons,List.length_cons,hl],fun f hf'=>?_⟩
  ·rw[← Array.getElem?_toList,e];rfl
  ·rcases List.mem_cons.mp hf' with rfl | q
   ·exact⟨i,t,rfl⟩
   ·exact hf f q
theorem asks_tups {h:Heap}{vs:List Value}(hv:∀ v∈vs,∃ ks,TupInts h v ks)(hk:∀ b o,h.get? b=some o→s.heap.get? b=some o):Asks prog w A lexOrd (tupKey h) (tuples' true) vs s:=by
 refine⟨fun h2 E Q hq=>?_,fun x hx y hy E Q hq=>?_⟩
 ·obtain⟨fs,kt,hl,hf⟩:=katTups_of (h:=s.heap) (vs:=vs) fun v hm=>let ⟨ks,t⟩:=hv v hm;⟨ks,t.keep hk⟩
  refine kat_kind (T:=.type "int") kt (by omega) (fun f hm=>?_) (by decide) hq;obtain⟨i,t,rfl⟩:=hf f hm;exact .now
 ·obtain⟨ks,tx⟩:=hv x hx;obtain⟨ms,ty⟩:=hv y hy;rw[tupKey_of tx,tupKey_of ty] at hq;obtain⟨a,o,items,n,rfl,ho,hc,hd,hi,_⟩:=tx.keep hk;obtain⟨a',o',items',n',rfl,ho',hc',hd',hi',_⟩:=ty.keep hk;exact kat_lt ho hd ho' hd' (katlex_ints 0 hi hi' (by simp) hq)
theorem coll_seq {l:Addr}{o:Obj}{c:String}{vs:List Value}{n:Nat}(ho:s.heap.get? l=some o)(hcl:o.cls=.type c)(hcc:c="list"∨c="tuple")(hd:o.data=.seq vs.toArray n)(hsz:vs.length≤sizeLine) :
  Coll prog w A l s fun us=>us=vs:=by
 intro E R h;unfold collect;refine wpAny_bind (wpAny_runValue (codeAny_builtin entry_proto_collect' ?_));show wpAny _ _ (newList [] >>= fun x=>again (.builtin "list.__iadd__" ⟨[x,.ref l],[]⟩)) _ _ s;refine wpAny_bind (wpAny_newList (wpAny_pure ⟨Code.quiet_builtin _ (by decide +kernel),codeAny_builtin entry_list_iadd' ?_⟩));show wpAny _ _ (Builtin.List.listExtendWith (.ref s.heap.objs.size) (.ref l) (.ref s.heap.objs.size)) _ _ {s with heap:=s.heap.push (seqObj "list" #[] 0)};unfold Builtin.List.listExtendWith;have ho':(s.heap.push (seqObj "list" #[] 0)).get? l=some o:=Heap.get?_push_of_some _ ho;refine wpAny_bind (wpAny_typeOf (T:=c) ⟨o,ho',hcl⟩ ?_);have ht:(Builtin.List.listSameRef (.ref s.heap.objs.size) (.ref l) || (Value.type c == Value.type "list") || (Value.type c == Value.type "tuple"))=true:=by
  rcases hcc with rfl | rfl
  ·rw[show (Value.type "list" == Value.type "list")=true from rfl];simp
  ·rw[show (Value.type "tuple" == Value.type "tuple")=true from rfl];simp
 rw[if_pos ht];refine wpAny_bind (listItems_at ho' hd ?_);refine wpAny_bind (listItems_at (xs:=#[]) (n:=0) (Heap.get?_push_size _ rfl) rfl ?_);rw[if_neg (by simp)];refine wpAny_bind (listUpdate_at (xs:=#[]) (n:=0) (Heap.get?_push_size _ rfl) rfl ?_ (Nat.zero_le _) (by show (#[]++vs.toArray).size≤sizeLine+1;simp only[Array.size_append,List.size_toArray,List.length_nil];omega));refine wpAny_pure ?_
 show wpAny (model prog w) A (do
   let q ← load s.heap.objs.size
   match q.data with
   | .seq xs _=>pure xs.toList
   | _=>unsupported "internal:collect") R E {s with heap:=(s.heap.push (seqObj "list" #[] 0)).update s.heap.objs.size (Obj.mapSeq (·++vs.toArray))}
 refine wpAny_bind (wpAny_load (get?_update_seq (Heap.get?_push_size _ rfl) _) ?_);show wpAny _ _ (pure ((#[]:Array Value)++vs.toArray).toList) R E _;rw[show ((#[]:Array Value)++vs.toArray).toList=vs by simp];exact wpAny_pure (h _ s.toks vs (fun b o e=>(Heap.SameBut.update ..).extBut b o (Nat.ne_of_lt (Heap.lt_size e)) (Heap.get?_push_of_some _ e)) rfl)
end
end Srt
namespace Srt
open PySem PyProof.Rows PySem.W
section
variable {prog:Program}{w:World}{A:Around}{E:Value→Shared→Prop}{s:Shared}
def RawD (h:Heap)(d:Addr)(es:Array DictEntry)(ep:Nat):Prop:=∃ o,h.get? d=some o∧o.ExactDict∧o.data=.dict es ep
theorem RawD.typeIs {d:Addr}{es:Array DictEntry}{ep:Nat}(r:RawD s.heap d es ep):s.TypeIs (.ref d) "dict":=let ⟨o,ho,hx,_⟩:=r;⟨o,ho,hx.1⟩
theorem RawD.keep {h h':Heap}{d:Addr}{es:Array DictEntry}{ep:Nat}(r:RawD h d es ep)(k:∀ o,h.get? d=some o→h'.get? d=some o):RawD h' d es ep:=let ⟨o,ho,q⟩:=r;⟨o,k _ ho,q⟩
theorem raw_iter {d:Addr}{es:Array DictEntry}{ep:Nat}{Q:Value→Shared→Prop}(hd:(d == sysModules)=false)(r:RawD s.heap d es ep)
  (hQ:Q (.ref s.heap.objs.size) {s with heap:=s.heap.push {cls:=.type "dict_keyiterator",data:=.fields #[.ref d,.int 0 0,.int es.size 0,.int ep 0]}}) :
  wpAny (model prog w) A (pyIter (.ref d)) Q E s:=by
 obtain⟨o,ho,hx,hdat⟩:=id r;have hT:=r.typeIs;refine wpAny_pyIter_slot hT F.slot_dict_iter (wpAny_call_entry F.slot_dict_iter hT F.entry_dict_iter ?_ (F.args_dict_iter_1 _));unfold Builtin.«dict.__iter__»;refine wpAny_bind ?_;unfold Builtin.Dict.dictSlotNone;refine wpAny_bind (wpAny_notOrdered_dict hT (wpAny_pure ?_));show wpAny _ _ (Builtin.Dict.showsAll d >>= _) _ _ s;unfold Builtin.Dict.showsAll;rw[if_neg (by rw[hd];exact Bool.false_ne_true)];refine wpAny_bind (wpAny_pure (wpAny_bind (wpAny_dictEntries ho hdat (wpAny_bind (wpAny_dictEpoch ho hdat ?_)))));refine wpAny_bind (wpAny_newObj_type (wpAny_pure ⟨_,rfl, "dict_keyiterator",_,⟨_,Heap.get?_push_size _ rfl,rfl⟩,F.slot_dict_keyiterator_next.lookup,?_⟩));simpa [rawInt] using hQ
theorem raw_next {it d:Addr}{i ep:Nat}{es:Array DictEntry}{Q:Option Value→Shared→Prop}(hit:s.heap.IsKeyIter it d i es.size ep)(r:RawD s.heap d es ep)(hlt:i<es.size)
  (hQ:∀ h',h'.IsKeyIter it d (i+1) es.size ep→Heap.SameBut it s.heap h'→Q (some es[i].key) {s with heap:=h'}):wpAny (model prog w) A (pyNext (.ref it)) Q E s:=by
 obtain⟨o,ho,hc,hd⟩:=id hit;obtain⟨od,hod,hcd,hdd⟩:=id r;unfold pyNext
 refine wpAny_bind (wpAny_attempt (wpAny_callSpecial?_slot (name:=Str.ofString "__next__") hit.typeIs F.slot_dict_keyiterator_next
  (wpAny_call_entry F.slot_dict_keyiterator_next hit.typeIs F.entry_dict_keyiterator_next ?_ (F.args_dict_keyiterator_next_1 _))))
 refine wpAny_bind (wpAny_pure (wpAny_bind (wpAny_bind ?_)));first | refine wpAny_bind (wpAny_typeNameOfWhole_keyiter hit.typeIs (wpAny_pure ?_)) | refine wpAny_bind (wpAny_typeNameOf_keyiter hit.typeIs (wpAny_pure ?_))
 refine wpAny_bind (wpAny_fieldsOf ho hd ?_);have hown:Builtin.Dict_items.ownsTuple "dict_keyiterator"=false:=by decide
 simp only[hown,Bool.false_eq_true,if_false];show wpAny _ _ (if (Value.ref d == Value.none)=true then _ else _) _ _ s;rw[if_neg (show ¬ ((Value.ref d == Value.none)=true) from Bool.false_ne_true)];refine wpAny_bind (wpAny_pure (wpAny_bind (wpAny_dictEntries hod hdd ?_)));rw[if_neg (by simp)];refine wpAny_bind (wpAny_pure (wpAny_bind (wpAny_dictEpoch hod hdd ?_)));rw[if_neg (by simp)];refine wpAny_pure ?_;simp only[show ¬ ((i:Int)<0) from by omega,if_false,Int.toNat_natCast,Array.getElem?_eq_getElem hlt];refine wpAny_bind ?_;first | refine wpAny_bind (wpAny_typeNameOfWhole_keyiter hit.typeIs (wpAny_pure ?_)) | refine wpAny_bind (wpAny_typeNameOf_keyiter hit.typeIs (wpAny_pure ?_))
 refine wpAny_bind (wpAny_isOneOf_keyiter hit.typeIs ?_);show wpAny _ _ (setField (.ref it) 1 (rawInt ((i:Int)+1)) >>= _) _ _ s;refine wpAny_bind (wpAny_setField ho hd (by simp) ?_);have hit':(s.heap.update it (Obj.mapFields (·.setIfInBounds 1 (rawInt ((i:Int)+1))))).IsKeyIter it d (i+1) es.size ep :=
  ⟨_,Heap.get?_update_self _ ho (Obj.isFreed_of_fields (Obj.data_mapFields hd _)),(Obj.cls_mapFields ..).trans hc,by rw[Obj.data_mapFields hd];simp[rawInt]⟩
 refine wpAny_bind (wpAny_holding ?_);refine wpAny_bind (wpAny_isOneOf_keyiter (s:={s with heap:=s.heap.update it (Obj.mapFields (·.setIfInBounds 1 (rawInt ((i:Int)+1))))}) hit'.typeIs ?_);show wpAny _ _ (pure es[i].key) _ _ _;exact wpAny_pure (wpAny_pure ⟨_,rfl,wpAny_pure (hQ _ hit' (Heap.SameBut.update ..))⟩)
theorem raw_end {it d:Addr}{i ep:Nat}{es:Array DictEntry}{Q:Option Value→Shared→Prop}(hh:A.handled=none)(hit:s.heap.IsKeyIter it d i es.size ep)(r:RawD s.heap d es ep)(hge:es.size≤i)
  (hQ:∀ h',Heap.ExtBut it s.heap h'→Q none {s with heap:=h'}):wpAny (model prog w) A (pyNext (.ref it)) Q E s:=by
 obtain⟨o,ho,hc,hd⟩:=id hit;obtain⟨od,hod,hcd,hdd⟩:=id r;unfold pyNext
 refine wpAny_bind (wpAny_attempt (wpAny_callSpecial?_slot (name:=Str.ofString "__next__") hit.typeIs F.slot_dict_keyiterator_next
  (wpAny_call_entry F.slot_dict_keyiterator_next hit.typeIs F.entry_dict_keyiterator_next ?_ (F.args_dict_keyiterator_next_1 _))))
 refine wpAny_bind (wpAny_pure (wpAny_bind (wpAny_bind ?_)));first | refine wpAny_bind (wpAny_typeNameOfWhole_keyiter hit.typeIs (wpAny_pure ?_)) | refine wpAny_bind (wpAny_typeNameOf_keyiter hit.typeIs (wpAny_pure ?_))
 refine wpAny_bind (wpAny_fieldsOf ho hd ?_);have hown:Builtin.Dict_items.ownsTuple "dict_keyiterator"=false:=by decide
 simp only[hown,Bool.false_eq_true,if_false];show wpAny _ _ (if (Value.ref d == Value.none)=true then _ else _) _ _ s;rw[if_neg (show ¬ ((Value.ref d == Value.none)=true) from Bool.false_ne_true)];refine wpAny_bind (wpAny_pure (wpAny_bind (wpAny_dictEntries hod hdd ?_)));rw[if_neg (by simp)];refine wpAny_bind (wpAny_pure (wpAny_bind (wpAny_dictEpoch hod hdd ?_)));rw[if_neg (by simp)];refine wpAny_pure ?_;simp only[show ¬ ((i:Int)<0) from by omega,if_false,Int.toNat_natCast,Array.getElem?_eq_none hge];refine wpAny_bind ?_;first | refine wpAny_bind (wpAny_typeNameOfWhole_keyiter hit.typeIs (wpAny_pure ?_)) | refine wpAny_bind (wpAny_typeNameOf_keyiter hit.typeIs (wpAny_pure ?_))
 show wpAny _ _ (setField (.ref it) 0 .none >>= _) _ _ s;refine wpAny_bind (wpAny_setField ho hd (by simp) ?_);show wpAny _ _ (newExc (.type "StopIteration") [] >>= _) _ _ _;refine wpAny_bind ?_;simp only[newExc,newTuple];refine wpAny_bind (wpAny_newObj_type ?_ (by size_fits));refine wpAny_bind (m:=firstArgMember _ _) (wpAny_of_eq (a:=Value.none) (by first | rfl | (simp only[firstArgMember];rfl)) ?_);refine wpAny_newObj_type ?_ (by size_fits);simp only[raiseNew];refine wpAny_bind (wpAny_handled ?_);rw[show A.in1.handled=none from hh];refine wpAny_bind (wpAny_pure (wpAny_throw ?_));refine wpAny_bind (wpAny_isInstance (T:="StopIteration") (b:=true) ⟨_,Heap.get?_push_size _ rfl,rfl⟩ isSubtype_stop ?_);exact wpAny_pure (hQ _ (((Heap.SameBut.update ..).extBut.push _).push _))
theorem raw_walks (hh:A.handled=none)(I d:Addr)(hne:d≠I)(es:Array DictEntry)(ep:Nat) :
  Walks prog w A I [I,d] [I] es.size (fun i v=>∃ e,es[i]?=some e∧e.key=v) (fun i h=>h.IsKeyIter I d i es.size ep∧RawD h d es ep) where
 sub:=fun b hb=>by simp at hb;simp[hb]
 frame:=fun _ _ _ st hk=>⟨st.1.at fun o e=>hk I (by simp) o e,st.2.keep fun o e=>hk d (by simp) o e⟩
 item:=fun i s Q E hi st hQ=>by
  refine raw_next st.1 st.2 hi fun h' hit' hs'=>?_
  exact hQ es[i].key h' s.toks ⟨es[i],by simp[hi],rfl⟩ ⟨hit',st.2.keep fun o e=>hs'.extBut d o hne e⟩ fun b o hb e=>hs'.extBut b o (fun h=>hb (by simp[h])) e
 done:=fun s Q E st hQ=>raw_end hh st.1 st.2 (Nat.le_refl _) fun h' he'=>hQ h' s.toks fun b o hb e=>he' b o (fun h=>hb (by simp[h])) e
 self:=fun _ _ _ _ st hQ=>wpAny_pyIter_keyiter st.1 hQ
theorem raw_src {d:Addr}{es:Array DictEntry}{ep:Nat}(lo:(d == sysModules)=false):KdlSrc prog w "dict" d d es.size (fun i v=>∃ e,es[i]?=some e∧e.key=v) (fun h=>RawD h d es ep) where
 type:=fun _ hm=>hm.typeIs
 there:=fun _ hm=>let ⟨_,ho,_⟩:=hm;⟨Heap.lt_size ho,Heap.lt_size ho⟩
 keep:=fun _ _ hm hk=>hm.keep fun o e=>hk d (.inl rfl) o e
 notList:=by decide
 notTuple:=by decide
 hint:=fun _ _ _ _ hm hq=>kdl_hint_dict hm.typeIs hq
 iter:=fun _ _ hh hm=>⟨_,_,(fun _ _ hq=>raw_iter lo hm hq),raw_walks hh _ d (let ⟨_,ho,_⟩:=hm;Nat.ne_of_lt (Heap.lt_size ho)) es ep,⟨⟨_,Heap.get?_push_size _ rfl,rfl,rfl⟩,hm.keep fun _ e=>Heap.get?_push_of_some _ e⟩⟩
theorem coll_raw {d:Addr}{es:Array DictEntry}{ep:Nat}(hh:A.handled=none)(lo:(d == sysModules)=false)(r:RawD s.heap d es ep)(hz:es.size≤sizeLine):Coll prog w A d s fun us=>us=es.toList.map (·.key):=by
 intro E R h;refine kdu_collect (raw_src (ep:=ep) lo) hh r hz fun h' tk acc hk hI=>h h' tk acc.toList hk ?_
 apply List.ext_getElem?;intro i;rw[Array.getElem?_toList,List.getElem?_map,Array.getElem?_toList];rcases Nat.lt_or_ge i es.size with hi | hi
 ·have hi':i<acc.size:=by rw[hI.1];exact hi
  obtain⟨e,he,hk⟩:=hI.2 i acc[i] (Array.getElem?_eq_getElem hi');rw[Array.getElem?_eq_getElem hi',he];exact congrArg some hk.symm
 ·rw[Array.getElem?_eq_none (by rw[hI.1];exact hi),Array.getElem?_eq_none hi];rfl
end
end Srt
namespace L2
open PySem PySem.Spec PyProof.Rows
theorem perm_map_inv {α β:Type}{f:α→β}:∀ {l m:List β},l.Perm m→∀ {ps:List α},m=ps.map f→∃ qs:List α,qs.Perm ps∧l=qs.map f:=by
 intro l m h;induction h with
 | nil =>
  intro ps e;cases ps with
  | nil=>exact⟨[],.nil,rfl⟩
  | cons _ _=>cases e
 | @cons x l₁ l₂ _ ih =>
  intro ps e;cases ps with
  | nil=>cases e
  | cons p r =>
   rw[List.map_cons] at e;injection e with e1 e2
   obtain⟨qs,h1,h2⟩:=ih e2;exact⟨p::qs,h1.cons _,by rw[List.map_cons,h2,e1]⟩
 | swap x y l =>
  intro ps e
  match ps,e with
  | p::q::r,e =>
   rw[List.map_cons,List.map_cons] at e;injection e with e1 e2
   injection e2 with e2 e3
   exact⟨q::p::r,.swap ..,by rw[List.map_cons,List.map_cons,← e1,← e2,← e3]⟩
 | trans _ _ ih1 ih2 =>
  intro ps e;obtain⟨qs,h1,h2⟩:=ih2 e;obtain⟨rs,h3,h4⟩:=ih1 h2;exact⟨rs,h3.trans h1,h4⟩
theorem vals_refs {α:Type}{f:α→Addr}:∀ {ps:List α} {us:List Value},Vals (ps.map fun x=>V.ref (f x)) us→us=ps.map fun x=>Value.ref (f x)
 | [],_,.nil=>rfl
 | x::r,_,.cons h t=>by
  cases (show _=Value.ref (f x) from h);rw[List.map_cons,← vals_refs t]
theorem refs_vals {α:Type}{f:α→Addr}:∀ ps:List α,Vals (ps.map fun x=>V.ref (f x)) (ps.map fun x=>Value.ref (f x))
 | []=>.nil
 | x::r=>.cons rfl (refs_vals r)
theorem ints_of_all:∀ {us:List Value},(∀ u∈us,∃ i t,u=Value.int i t)→IntsAre us (us.map Srt.intKey)
 | [],_=>.nil
 | u::r,h=>by
  obtain⟨i,t,rfl⟩:=h u List.mem_cons_self;exact .cons i t (ints_of_all fun v hv=>h v (List.mem_cons_of_mem _ hv))
theorem ints_all {us:List Value}{ns:List Int}(h:IntsAre us ns):∀ u∈us,∃ i t,u=Value.int i t:=by
 induction h with
 | nil=>intro x hx;cases hx
 | cons n t _ ih =>
  intro x hx;rcases List.mem_cons.mp hx with rfl | hx
  ·exact⟨n,t,rfl⟩
  ·exact ih x hx
def SrcI (K:PySem.W.Frag)(H:Hp)(p:Addr)(ns:List Int):Prop :=
 ns.length<64∧(SqL K H p (ns.map V.int)∨SqT K H p (ns.map V.int)∨∃ kvs,H p=some (.dK kvs)∧kvs.map (·.1)=ns.map (Sum.inl:Int→Key))
section
variable {X:Cx}{pins:List (Addr×Obj)}{σ:St}{H:Hp}{s:Shared}
theorem Inv.collI (I:Inv X pins σ H s){A:Around}(hh:A.handled=none){p:Addr}{ns:List Int}(h:SrcI X.K H p ns):Srt.Coll X.prog X.w A p s fun us=>IntsAre us ns∧us.length<64:=by
 have mono:∀ {vs:List Value},IntsAre vs ns→Srt.Coll X.prog X.w A p s (fun us=>us=vs)→Srt.Coll X.prog X.w A p s fun us=>IntsAre us ns∧us.length<64:=fun hi c E R k =>
  c E R fun h' tk us kp e=>k h' tk us kp (by subst e;exact⟨hi,by rw[IntsAre.length hi];exact h.1⟩)
 rcases h.2 with h | h | ⟨kvs,h,hk⟩
 ·obtain⟨its,r,pl,hz⟩:=I.list h;obtain⟨o,ho,hc,n,hd⟩:=pl.isList;have hl:its.length≤sizeLine:=by rw[← r.length];exact hz
  exact mono (intsAre_of r) (Srt.coll_seq ho hc (.inl rfl) hd hl)
 ·obtain⟨its,r,pl,hz⟩:=I.tuple h;obtain⟨o,ho,hc,n,hd⟩:=pl;have hl:its.length≤sizeLine:=by rw[← r.length];exact hz
  exact mono (intsAre_of r) (Srt.coll_seq ho hc (.inr rfl) hd hl)
 ·obtain⟨z,lo,vs,rel,o,es,ep,ho,hx,hd,hkeys,hp,hn⟩:=dk_of I.hok h;have hl:es.toList.length=kvs.length:=by rw[hp.length,rel.length]
  have key:∀ {l:List DictEntry} {vs:List (Key×Value)} {ns:List Int},Pairs (mixKind X.prog X.w) l vs→vs.map (·.1)=ns.map (Sum.inl:Int→Key)→IntsAre (l.map (·.key)) ns:=by
   intro l vs ns hp;induction hp generalizing ns with
   | nil =>
    intro e;cases ns with
    | nil=>exact .nil
    | cons _ _=>cases e
   | @cons e kv es kvs h1 h2 _ ih =>
    intro q;cases ns with
    | nil=>cases q
    | cons n r =>
     rw[List.map_cons,List.map_cons] at q;injection q with q1 q2
     rw[q1] at h1;have hi:Value.isInt n e.key=true:=h1;obtain⟨t,et⟩:=Value.isInt_shape hi;rw[List.map_cons,et];exact .cons n t (ih q2)
  have hi:=key hp (by rw[← rel.keys];exact hk);refine mono hi (Srt.coll_raw hh lo ⟨o,ho,hx,hd⟩ ?_)
  ·rw[← Array.length_toList,hl];exact z
theorem call_sortedI (hc:X.A.handled=none):CallR X (.builtin "sorted") (fun xs H Q=>∃ (p:Addr) (ns:List Int),xs=[.ref p]∧SrcI X.K H p ns∧∀ (ns':List Int) (l:Addr),ns'.Perm ns→ns'.Pairwise (·≤·)→H l=none→Q (.ref l) (upd H l (.lst (ns'.map V.int)))):=by
 intro pins s σ H xs us Q I r h;obtain⟨p,ns,rfl,src,q⟩:=h;obtain⟨u,rfl,rx⟩:=vals1 r;cases rx;refine Srt.sorted_any (O:=Srt.intOrd) (key:=Srt.intKey) (knd:=oneType') (I.collI (A:=X.A.in1) hc src) (fun vs h=>h.2) (fun vs s' h _=>Srt.asks_ints h.1) fun vs out h1 h' tk n hC hp hs k1 k2 hD=>?_
 have hall:∀ u∈out,∃ i t,u=Value.int i t:=fun u hu=>ints_all hC.1 u (hp.mem_iff.mp hu)
 have hio:=ints_of_all hall;have I1:Inv X pins σ H {s with heap:=h1,toks:=tk}:=I.kept k1;have hlen:(out.map Srt.intKey).length≤sizeLine:=by rw[List.length_map,hp.length_eq];exact Nat.le_trans (Nat.le_of_lt hC.2) (by decide)
 refine⟨.ref h1.objs.size,_,I1.laid (t':=tk) (o:=.lst ((out.map Srt.intKey).map V.int)) k2 (Nat.le_refl _) ⟨by rw[List.length_map];exact hlen,out,n,vals_ints hio,hD⟩,rfl,q _ _ ?_ ?_ I1.fresh⟩
 ·have:=hp.map Srt.intKey;rw[Srt.intKeys_of hC.1] at this;exact this
 ·rw[List.pairwise_map];exact hs.imp fun {a b} hab=>by
   have hab:decide (Srt.intKey b<Srt.intKey a)=false:=hab;simp at hab;exact hab
def SrcT (K:PySem.W.Frag)(H:Hp)(p:Addr)(ps:List (Addr×List Int)):Prop :=
 (SqL K H p (ps.map fun x=>V.ref x.1)∨SqT K H p (ps.map fun x=>V.ref x.1))∧(∀ x∈ps,H x.1=some (.tup (x.2.map V.int))∧x.2≠[])∧ps.length<64
theorem Inv.tupInts (I:Inv X pins σ H s){a:Addr}{ks:List Int}(h:H a=some (.tup (ks.map V.int)))(hne:ks≠[]):Srt.TupInts s.heap (.ref a) ks:=by
 obtain⟨its,r,⟨o,ho,hc,n,hd⟩,hz⟩:=I.tuple (SqT.of h);exact⟨a,o,its.toArray,n,rfl,ho,hc,hd,intsAre_of r,hne⟩
theorem sortedT_fin {p:Addr}{vs:List Value}{C:List (Addr×List Int)→Prop}{Q:VK}(I:Inv X pins σ H s)(hcol:Srt.Coll X.prog X.w X.A.in1 p s fun us=>us=vs)(ps:List (Addr×List Int))(hvs:vs=ps.map fun x=>Value.ref x.1)(h64:ps.length<64)
  (hall:∀ x∈ps,H x.1=some (.tup (x.2.map V.int))∧x.2≠[]) (q:∀ (ps':List (Addr×List Int)) (l:Addr),ps'.Perm ps→(ps'.Pairwise fun x y=>HT.lexLt y.2 x.2=false)→H l=none→Q (.ref l) (upd H l (.lst (ps'.map fun x=>V.ref x.1)))) :
  wpAny (model X.prog X.w) X.A (call (.builtin "sorted") [.ref p]) (EP X pins σ Q) X.xe s:=by
 subst hvs;have hz:ps.length≤sizeLine:=Nat.le_trans (Nat.le_of_lt h64) (by decide);have ht:∀ x∈ps,Srt.TupInts s.heap (.ref x.1) x.2:=fun x hx=>I.tupInts (hall x hx).1 (hall x hx).2
 refine Srt.sorted_any (O:=Srt.lexOrd) (key:=Srt.tupKey s.heap) (knd:=tuples' true) hcol (fun vs e=>by subst e;rw[List.length_map];exact h64) (fun vs s' e k=>?_) fun vs out h1 h' tk n e hp hs k1 k2 hD=>?_
 ·subst e;refine Srt.asks_tups (fun v hv=>?_) k;obtain⟨x,hx,rfl⟩:=List.mem_map.mp hv;exact⟨x.2,ht x hx⟩
 ·subst e;obtain⟨ps',hpp,rfl⟩:=perm_map_inv hp rfl;have I1:Inv X pins σ H {s with heap:=h1,toks:=tk}:=I.kept k1;refine⟨.ref h1.objs.size,_,I1.laid (t':=tk) (o:=.lst (ps'.map fun x=>V.ref x.1)) k2 (Nat.le_refl _) ⟨by rw[List.length_map,hpp.length_eq];exact hz,_,n,refs_vals (f:=fun x:Addr×List Int=>x.1) ps',hD⟩,rfl,q _ _ hpp ?_ I1.fresh⟩;rw[List.pairwise_map] at hs;refine hs.imp_of_mem fun {a b} ha hb hab=>?_
  have e1:=Srt.tupKey_of (ht a (hpp.mem_iff.mp ha));have e2:=Srt.tupKey_of (ht b (hpp.mem_iff.mp hb));have hab:HT.lexLt (Srt.tupKey s.heap (.ref b.1)) (Srt.tupKey s.heap (.ref a.1))=false:=hab;rw[e1,e2] at hab;exact hab
theorem call_sortedT:CallR X (.builtin "sorted") (fun xs H Q=>∃ (p:Addr) (ps:List (Addr×List Int)),xs=[.ref p]∧SrcT X.K H p ps∧∀ (ps':List (Addr×List Int)) (l:Addr),ps'.Perm ps→(ps'.Pairwise fun x y=>HT.lexLt y.2 x.2=false)→H l=none→Q (.ref l) (upd H l (.lst (ps'.map fun x=>V.ref x.1)))):=by
 intro pins s σ H xs us Q I r h;obtain⟨p,ps,rfl,⟨src,hall,h64⟩,q⟩:=h;obtain⟨u,rfl,rx⟩:=vals1 r;cases rx;rcases src with h | h
 ·obtain⟨its,r',pl,hz⟩:=I.list h;obtain⟨o,ho,hc,n,hd⟩:=pl.isList;rw[List.length_map] at hz;have e:=vals_refs r';exact sortedT_fin (C:=fun _=>True) I (Srt.coll_seq ho hc (.inl rfl) hd (by rw[e,List.length_map];exact hz)) ps e h64 hall q
 ·obtain⟨its,r',pl,hz⟩:=I.tuple h;obtain⟨o,ho,hc,n,hd⟩:=pl;rw[List.length_map] at hz;have e:=vals_refs r';exact sortedT_fin (C:=fun _=>True) I (Srt.coll_seq ho hc (.inr rfl) hd (by rw[e,List.length_map];exact hz)) ps e h64 hall q
theorem call_sortedD (hc:X.A.handled=none):CallR X (.builtin "sorted") (fun xs H Q=>∃ (p:Addr) (kvs:List (List Key×V)) (kss:List (List Int)),xs=[.ref p]∧H p=some (.dT kvs)∧kvs.map (·.1)=kss.map (fun ks=>ks.map (Sum.inl:Int→Key))∧(∀ ks∈kss,ks≠[])∧kss.length<64 ∧
  ∀ (ps:List (Addr×List Int)) (l:Addr),(ps.map (·.2)).Perm kss→(∀ x∈ps,H x.1=some (.tup (x.2.map V.int)))→(ps.Pairwise fun x y=>HT.lexLt y.2 x.2=false)→H l=none→Q (.ref l) (upd H l (.lst (ps.map fun x=>V.ref x.1)))):=by
 intro pins s σ H xs us Q I r h;obtain⟨p,kvs,kss,rfl,hH,hk,hne,h64,q⟩:=h;obtain⟨u,rfl,rx⟩:=vals1 r;cases rx;have hO:=I.hok p _ hH;unfold ObjOk at hO;obtain⟨z,lo,xs,rel,o,es,ep,ho,hx,hd,hes,hn⟩:=hO;have rel:KT H kvs xs:=rel;have key:∀ {kvs:List (List Key×V)} {xs:List (List Key×Addr×Value)} {kss:List (List Int)},KT H kvs xs→kvs.map (·.1)=kss.map (fun ks=>ks.map (Sum.inl:Int→Key)) →
   ∃ ps:List (Addr×List Int),xs.map (fun x=>x.2.1)=ps.map (·.1)∧ps.map (·.2)=kss∧∀ x∈ps,H x.1=some (.tup (x.2.map V.int)):=by
  intro kvs xs kss rel;induction rel generalizing kss with
  | nil =>
   intro e;cases kss with
   | nil=>exact⟨[],rfl,rfl,fun x hx=>nomatch hx⟩
   | cons _ _=>cases e
  | @cons pp qq ps qs hh _ ih =>
   intro e;cases kss with
   | nil=>cases e
   | cons ks r =>
    rw[List.map_cons,List.map_cons] at e;injection e with e1 e2
    obtain⟨rs,h1,h2,h3⟩:=ih e2;obtain⟨g1,g2,g3⟩:=hh;refine⟨(qq.2.1,ks)::rs,by rw[List.map_cons,List.map_cons,h1],by rw[List.map_cons,h2],fun x hx=>?_⟩;rcases List.mem_cons.mp hx with rfl | hx
    ·rw[g2,e1,List.map_map];rfl
    ·exact h3 x hx
 obtain⟨ps,e1,e2,e3⟩:=key rel hk;have hl:es.toList.length=kvs.length:=by rw[hes,List.length_map,← Paired.length rel]
 have ev:es.toList.map (·.key)=ps.map fun x=>Value.ref x.1:=by
  rw[hes,List.map_map];have:(xs.map fun x=>x.2.1).map Value.ref=(ps.map (·.1)).map Value.ref:=by rw[e1]
  rw[List.map_map,List.map_map] at this;exact this
 have hpl:ps.length=kvs.length:=by rw[← hl,← List.length_map (f:=fun x:DictEntry=>x.key),ev,List.length_map]
 refine sortedT_fin (C:=fun _=>True) I (Srt.coll_raw hc lo ⟨o,ho,hx,hd⟩ (by rw[← Array.length_toList,hl];exact z)) ps ev (by rw[← List.length_map (f:=fun x:Addr×List Int=>x.2),e2];exact h64) (fun x hx=>⟨e3 x hx,hne _ (by rw[← e2];exact List.mem_map_of_mem hx)⟩) fun ps' l hp hs hn=>q ps' l ?_ (fun x hx=>e3 x (hp.mem_iff.mp hx)) hs hn
 rw[← e2];exact hp.map _
end
end L2
end
section
set_option Elab.async false
set_option linter.all false
set_option maxRecDepth 100000
namespace L2
open PySem PySem.Spec PyProof.Rows
mutual
inductive Dt (K:PySem.W.Frag)(H:Hp):V→PyData→Prop
 | non:Dt K H .non .none
 | bl (b:Bool):Dt K H (.bl b) (.bool b)
 | int (i:Int):Dt K H (.int i) (.int i)
 | str (x:Str):Dt K H (.str x) (.str x)
 | tup {a:Addr} {xs:List V} {ds:List PyData}:SqT K H a xs→Dts K H xs ds→Dt K H (.ref a) (.tuple ds)
 | lst {a:Addr} {xs:List V} {ds:List PyData}:SqL K H a xs→Dts K H xs ds→Dt K H (.ref a) (.list ds)
inductive Dts (K:PySem.W.Frag)(H:Hp):List V→List PyData→Prop
 | nil:Dts K H [] []
 | cons {x:V} {d:PyData} {xs:List V} {ds:List PyData}:Dt K H x d→Dts K H xs ds→Dts K H (x::xs) (d::ds)
end
section
variable {X:Cx}{pins:List (Addr×Obj)}{σ:St}{H:Hp}{s:Shared}
mutual
theorem Inv.reads (I:Inv X pins σ H s):∀ {x:V} {d:PyData} {u:Value},Dt X.K H x d→RelV x u→∃ as,Reads s.heap u d as
 | _,_,_,.non,r=>by cases (show _=Value.none from r);exact⟨_,.none⟩
 | _,_,_,.bl b,r=>by cases (show _=Value.bool b from r);exact⟨_,.bool b⟩
 | _,_,_,.int i,r=>by obtain⟨t,e⟩:=(show ∃ t,_=Value.int i t from r);subst e;exact⟨_,.int i t⟩
 | _,_,_,.str x,r=>by obtain⟨t,e⟩:=(show ∃ t,_=Value.str x t from r);subst e;exact⟨_,.str x t⟩
 | _,_,_,.tup (a:=a) h hs,r=>by
  cases (show _=Value.ref a from r);obtain⟨its,rv,⟨o,ho,hc,n,hd⟩,hz⟩:=I.tuple h;obtain⟨as,q⟩:=Inv.readsAll I hs rv;exact⟨_,.tuple ho hc hd (by simpa using q)⟩
 | _,_,_,.lst (a:=a) h hs,r=>by
  cases (show _=Value.ref a from r);obtain⟨its,rv,pl,hz⟩:=I.list h;obtain⟨o,ho,hc,n,hd⟩:=pl.isList;obtain⟨as,q⟩:=Inv.readsAll I hs rv;exact⟨_,.list ho hc hd (by simpa using q)⟩
theorem Inv.readsAll (I:Inv X pins σ H s):∀ {xs:List V} {ds:List PyData} {us:List Value},Dts X.K H xs ds→Vals xs us→∃ as,ReadsAll s.heap us ds as
 | _,_,_,.nil,.nil=>⟨_,.nil⟩
 | _,_,_,.cons h t,.cons r q=>by
  obtain⟨as,h1⟩:=Inv.reads I h r;obtain⟨bs,h2⟩:=Inv.readsAll I t q;exact⟨_,.cons h1 h2⟩
end
def rEqD (K:PySem.W.Frag)(neg:Bool):R2:=fun x y H Q=>∃ d e,Dt K H x d∧Dt K H y e∧SeqAt.shaped d=true∧SeqAt.shaped e=true∧Q (.bl (if neg then !PyData.eqv d e else PyData.eqv d e)) H
theorem op_eqD (hu:X.A.units+64<cLine):OpR X (compareOp .Eq) (rEqD X.K false):=by
 intro pins s σ H x y v u Q I rx ry h;obtain⟨d,e,hd,he,sd,se,q⟩:=h;obtain⟨as,r1⟩:=I.reads hd rx;obtain⟨bs,r2⟩:=I.reads he ry;exact eq_dataH r1 r2 sd se hu ⟨.bl _,H,I,rfl,q⟩
theorem op_neD (hu:X.A.units+64<cLine):OpR X (compareOp .NotEq) (rEqD X.K true):=by
 intro pins s σ H x y v u Q I rx ry h;obtain⟨d,e,hd,he,sd,se,q⟩:=h;obtain⟨as,r1⟩:=I.reads hd rx;obtain⟨bs,r2⟩:=I.reads he ry;exact ne_dataH r1 r2 sd se hu ⟨.bl _,H,I,rfl,q⟩
theorem Dts.ints {K:PySem.W.Frag}:∀ (ns:List Int),Dts K H (ns.map V.int) (ns.map PyData.int)
 | []=>.nil
 | n::r=>.cons (.int n) (Dts.ints r)
theorem canLay_ints:∀ ns:List Int,PyData.canLayAll0 (ns.map PyData.int)=true
 | []=>rfl
 | n::r=>by rw[List.map_cons,PyData.canLayAll0,canLay_ints r];rfl
theorem depth_ints:∀ ns:List Int,PyData.depthAll (ns.map PyData.int)=0
 | []=>rfl
 | n::r=>by rw[List.map_cons,PyData.depthAll,depth_ints r];rfl
theorem shaped_lstI (ns:List Int):SeqAt.shaped (.list (ns.map PyData.int))=true:=by
 unfold SeqAt.shaped PyData.canLay0 PyData.depth;rw[canLay_ints,depth_ints];rfl
theorem eqv_ints:∀ ns ms:List Int,PyData.eqvAll (ns.map PyData.int) (ms.map PyData.int)=decide (ns=ms)
 | [],[]=>rfl
 | [],_::_=>rfl
 | _::_,[]=>rfl
 | a::r,b::t=>by
  rw[List.map_cons,List.map_cons,PyData.eqvAll,PyData.eqv,eqv_ints r t];by_cases h:a=b<;>by_cases h':r=t<;>simp[h,h']
theorem eqv_lstI (ns ms:List Int):PyData.eqv (.list (ns.map PyData.int)) (.list (ms.map PyData.int))=decide (ns=ms):=by
 rw[PyData.eqv];exact eqv_ints ns ms
theorem Dt.tupI {K:PySem.W.Frag}{a:Addr}{ns:List Int}(h:SqT K H a (ns.map V.int)):Dt K H (.ref a) (.tuple (ns.map PyData.int)):=.tup h (Dts.ints ns)
theorem Dt.lstI {K:PySem.W.Frag}{a:Addr}{ns:List Int}(h:SqL K H a (ns.map V.int)):Dt K H (.ref a) (.list (ns.map PyData.int)):=.lst h (Dts.ints ns)
theorem neLI {K:PySem.W.Frag}{a b:Addr}{ns ms:List Int}{Q:VK}(h1:SqL K H a (ns.map V.int))(h2:SqL K H b (ms.map V.int))(q:Q (.bl (!decide (ns=ms))) H):rEqD K true (.ref a) (.ref b) H Q :=
 ⟨_,_,.lstI h1,.lstI h2,shaped_lstI _,shaped_lstI _,by rw[eqv_lstI];exact q⟩
theorem eqLI {K:PySem.W.Frag}{a b:Addr}{ns ms:List Int}{Q:VK}(h1:SqL K H a (ns.map V.int))(h2:SqL K H b (ms.map V.int))(q:Q (.bl (decide (ns=ms))) H):rEqD K false (.ref a) (.ref b) H Q :=
 ⟨_,_,.lstI h1,.lstI h2,shaped_lstI _,shaped_lstI _,by rw[eqv_lstI];exact q⟩
end
end L2
end
section
set_option Elab.async false
set_option linter.all false
set_option maxRecDepth 100000
namespace Srt
open PySem PyProof.Rows PySem.W
section
variable {prog:Program}{w:World}{A:Around}{E:Value→Shared→Prop}{s:Shared}
end
end Srt
namespace PySem
open AutoSeq1 (wpAny_loadPart')
set_option maxRecDepth 100000
end PySem
namespace L2
open PySem PySem.Spec PyProof.Rows
section
variable {X:Cx}
theorem call_rng1:CallR X (.type "range") (fun xs H Q=>∃ hi:Int,xs=[.int hi]∧∀ p,H p=none→Q (.ref p) (upd H p (.rng 0 hi))):=by
 intro pins s σ H xs us Q I r h;obtain⟨hi,rfl,q⟩:=h;obtain⟨u,rfl,rx⟩:=vals1 r;obtain⟨t,rfl⟩:=rx;refine call_range_1 ⟨.ref s.heap.objs.size,_,I.laid (o:=.rng 0 hi) (fun _ _ q=>Heap.get?_push_of_some _ q) (Nat.le_refl _) ⟨_,_,_,Heap.get?_push_size _ rfl⟩,rfl,q _ I.fresh⟩
def rInts (lo:Int)(n:Nat):List Int:=(List.range n).map fun (i:Nat)=>lo+(i:Int)
theorem rInts_length (lo:Int)(n:Nat):(rInts lo n).length=n:=by unfold rInts;simp
theorem rInts_get {lo:Int}{n i:Nat}(h:i<n):(rInts lo n)[i]?=some (lo+(i:Int)):=by unfold rInts;simp[h]
theorem ints_range {us:List Value}{lo:Int}{n:Nat}(hl:us.length=n)(hi:∀ (i:Nat) x,us[i]?=some x→∃ t,x=Value.int (lo+i*1) t):Vals ((rInts lo n).map V.int) us:=by
 have key:∀ (us:List Value) (k:Nat),(∀ (i:Nat) x,us[i]?=some x→∃ t,x=Value.int (lo+((i+k:Nat):Int)) t)→Vals (((List.range' k us.length).map fun (i:Nat)=>lo+(i:Int)).map V.int) us:=by
  intro us;induction us with
  | nil=>intro k _;exact .nil
  | cons u r ih =>
   intro k h;rw[List.length_cons,List.range'_succ,List.map_cons,List.map_cons];refine .cons ?_ (ih (k+1) fun i x e=>?_)
   ·obtain⟨t,e⟩:=h 0 u rfl;rw[Nat.zero_add] at e;exact⟨t,e⟩
   ·obtain⟨t,e'⟩:=h (i+1) x (by simpa using e);exact⟨t,by rw[e'];congr 2;omega⟩
 have:=key us 0 fun i x e=>by
  obtain⟨t,e'⟩:=hi i x e;exact⟨t,by rw[e',Int.mul_one,Nat.add_zero]⟩
 unfold rInts;rw[List.range_eq_range',← hl];exact this
theorem small_of {lo hi:Int}(h1:-(2 ^ 62)≤lo)(h2:lo<2 ^ 62)(h3:-(2 ^ 62)≤hi)(h4:hi<2 ^ 62):Builtin.Range.small lo hi 1=true:=by
 exact PySem.small_one h1 h2 h3 h4
theorem call_list_rng (hc:X.A.handled=none):CallR X (.type "list") (fun xs H Q=>∃ (p:Addr) (lo hi:Int),xs=[.ref p]∧H p=some (.rng lo hi)∧(-(2 ^ 62)≤lo∧lo<2 ^ 62∧-(2 ^ 62)≤hi∧hi<2 ^ 62)∧(hi-lo).toNat≤2 ^ 24 ∧
  ∀ l,H l=none→Q (.ref l) (upd H l (.lst ((rInts lo (hi-lo).toNat).map V.int)))):=by
 intro pins s σ H xs us Q I r h;obtain⟨p,lo,hi,rfl,hp,⟨b1,b2,b3,b4⟩,hz,q⟩:=h;obtain⟨u,rfl,rx⟩:=vals1 r;cases rx;have hO:=I.hok p _ hp;unfold ObjOk at hO;obtain⟨t,u',v,hr⟩:=hO;have hsl:(hi-lo).toNat≤sizeLine:=by rw[sizeLine_eq];omega
 refine call_list_range hc hr (small_of b1 b2 b3 b4) (rangeSize_nat lo hi) hz fun h' tk acc' c' hk hS' hacc=>?_
 refine⟨.ref s.heap.objs.size,_,I.laid (t':=tk) (o:=.lst ((rInts lo (hi-lo).toNat).map V.int)) hk (Nat.le_refl _) ⟨by rw[List.length_map,rInts_length];exact hsl,acc'.toList,c',ints_range (by rw[Array.length_toList];exact hacc.1) fun i x e=>hacc.2 i x (by rw[← Array.getElem?_toList];exact e),by rw[Array.toArray_toList];exact hS'⟩,rfl,q _ I.fresh⟩
end
end L2
namespace Srt
open PySem PyProof.Rows PySem.W
theorem nolen_lr:typeLookup (.type "list_reverseiterator") "__len__"=pure none:=by rw[typeLookup_type,builtinLookup_eq_fast];kernel_rfl
theorem hint_lr:typeLookup (.type "list_reverseiterator") "__length_hint__"=pure (some (.builtin "list_reverseiterator.__length_hint__")):=by rw[typeLookup_type,builtinLookup_eq_fast];kernel_rfl
section
variable {prog:Program}{w:World}{A:Around}{E:Value→Shared→Prop}{s:Shared}
theorem rev_extend {R:Result→Shared→Prop}{r l S:Addr}{items:Array Value}{res:Value}{c₀:Nat}(hh:A.handled=none)(hr:s.heap.IsRevIter r l ((items.size:Int)-1))(hl:s.heap.IsList l items)(hne:l≠r)(hSr:S≠r)(hSl:S≠l)
  (hS:s.heap.get? S=some {cls:=.type "list",data:=.seq #[] c₀}) (hn:items.size≤sizeLine)
  (hR:∀ h' tk acc' c',(∀ b o,b≠S→b≠r→s.heap.get? b=some o→h'.get? b=some o)→h'.get? S=some {cls:=.type "list",dict:=none,data:=.seq acc' c',slots:=#[]} →
   ItemsOf (fun i v=>items[items.size-1-i]?=some v) acc' items.size→R (.ok (.ret res)) {s with heap:=h',toks:=tk}) :
  wpAny (model prog w) A.in1 (Builtin.List.listExtendWith (.ref S) (.ref r) res)
   (fun fin s'=>match fin with | .done f=>R (.ok f) s' | .again c'=>c'.quiet=true∧codeAny (model prog w) A c' R s') (fun e s'=>R (.error e) s') s:=by
 have W:=(Walks.listRev (prog:=prog) (w:=w) (A:=A.in1) hh r l hne items).toS;have hSf:S∉[r,l]:=by simp only[List.mem_cons,List.not_mem_nil,or_false,not_or];exact⟨hSr,hSl⟩
 unfold Builtin.List.listExtendWith;refine wpAny_bind (wpAny_typeOf hr.typeIs ?_);have h1:Builtin.List.listSameRef (.ref S) (.ref r)=false:=by simp[Builtin.List.listSameRef,hSr]
 rw[if_neg (by rw[h1];decide)];refine wpAny_bind (wpAny_pyIter_revIter hr ?_);refine wpAny_bind (wpAny_holding ?_);unfold Builtin.List.listLengthHint;refine wpAny_bind (wpAny_specialOf hr.typeIs nolen_lr ?_);show wpAny _ A.in1 (specialOf (Value.ref r) (Str.ofString "__length_hint__") >>= _) _ _ _;refine wpAny_bind (wpAny_specialOf hr.typeIs hint_lr ?_);generalize hid:("list_reverseiterator.__length_hint__":String)=id0
 wp_delta
 rw[show splitId id0=some ("list_reverseiterator", "__length_hint__") from by subst hid;decide +kernel];subst hid;refine wpAny_bind (wpAny_isInstance (b:=true) hr.typeIs (by rw[isSubtype_type];kernel_rfl) ?_);refine wpAny_pure ?_;rw[if_neg (by decide)];refine wpAny_pure ⟨plainId_quiet PySem.F.plain_extend_loop _,codeAny_extend_loopS W hn S hSf res items.size 0 s #[] c₀ rfl (Nat.zero_le _) ⟨Nat.zero_le _,by simpa using hr,hl⟩ hS (ItemsOf.nil _) fun s' acc' c' hm hS' hacc=>?_⟩;rw[Moved.eq_with hm];refine hR s'.heap s'.toks acc' c' (fun b o hb hbr e=>hm.heap b o (fun hmem=>?_) e) hS' hacc;rcases List.mem_cons.mp hmem with e' | hmem
 ·exact hb e'
 ·exact hbr (List.mem_singleton.mp hmem)
theorem call_list_rev {Q:Value→Shared→Prop}{r l:Addr}{items:Array Value}(hh:A.handled=none)(hr:s.heap.IsRevIter r l ((items.size:Int)-1))(hl:s.heap.IsList l items)(hne:l≠r)(hn:items.size≤sizeLine)
  (hQ:∀ h' tk acc' c',(∀ b o,b≠r→s.heap.get? b=some o→h'.get? b=some o)→h'.get? s.heap.objs.size=some {cls:=.type "list",dict:=none,data:=.seq acc' c',slots:=#[]} →
   ItemsOf (fun i v=>items[items.size-1-i]?=some v) acc' items.size→Q (.ref s.heap.objs.size) {s with heap:=h',toks:=tk}) :
  wpAny (model prog w) A (call (.type "list") [.ref r]) Q E s:=by
 refine callType_codes (Q₁:=fun obj s₁=>obj=.ref s.heap.objs.size∧s₁={s with heap:=s.heap.push {cls:=.type "list",data:=.seq #[]}}) PySem.F.called_list (PySem.F.typeCall_list_1 _) PySem.F.entry_list_init
  (code_list_new _ ⟨rfl,rfl⟩) fun obj s₁ h₁=>?_
 obtain⟨rfl,rfl⟩:=h₁;have hS:(s.heap.push {cls:=.type "list",data:=.seq #[]}).get? s.heap.objs.size=some {cls:=.type "list",data:=.seq #[]}:=Heap.get?_push_size _ rfl;have rlt:r<s.heap.objs.size:=let ⟨o,ho,_⟩:=hr;Heap.lt_size ho;have llt:l<s.heap.objs.size:=let ⟨o,ho,_⟩:=hl;Heap.lt_size ho;refine⟨⟨_,hS,rfl⟩,PySem.F.args_list_init_2 _ _,?_⟩;show wpAny _ _ (do let old ← Builtin.List.listItems (.ref s.heap.objs.size);Builtin.List.listUpdate (.ref s.heap.objs.size) (fun _=>#[]);letGo old.toList.reverse;Builtin.List.listExtendWith (.ref s.heap.objs.size) (.ref r) .none) _ _ _;refine wpAny_bind ?_;unfold Builtin.List.listItems;refine wpAny_bind (wpAny_seqItems hS rfl (wpAny_pure ?_));show wpAny _ _ (updateSeq s.heap.objs.size (fun _=>#[]) >>= fun _=>letGo (#[]:Array Value).toList.reverse >>= fun _=>Builtin.List.listExtendWith (.ref s.heap.objs.size) (.ref r) .none) _ _ _;refine wpAny_bind (wpAny_updateSeq hS rfl ?_);have hS₂:=Heap.get?_update_self (Obj.mapSeq (fun _=>(#[]:Array Value))) hS rfl;have oth:∀ b o,b≠s.heap.objs.size→s.heap.get? b=some o→((s.heap.push {cls:=.type "list",data:=.seq #[]}).update s.heap.objs.size (Obj.mapSeq (fun _=>(#[]:Array Value)))).get? b=some o :=
  fun b o hb e=>(Heap.get?_update_other _ _ (Ne.symm hb)).trans (Heap.get?_push_of_some _ e)
 refine wpAny_bind (wpAny_letGo ?_);refine rev_extend (A:=A.in1) hh (hr.at fun o e=>oth r o (Nat.ne_of_lt rlt) e) (hl.at fun o e=>oth l o (Nat.ne_of_lt llt) e) hne (Nat.ne_of_gt rlt) (Nat.ne_of_gt llt) hS₂ hn fun h' tk acc' c' hk hS' hacc=>?_
 exact⟨rfl,hQ h' tk acc' c' (fun b o hb e=>hk b o (Nat.ne_of_lt (Heap.lt_size e)) hb (oth b o (Nat.ne_of_lt (Heap.lt_size e)) e)) hS' hacc⟩
end
end Srt
namespace L2
open PySem PySem.Spec PyProof.Rows
section
variable {X:Cx}{e:Expr}{te:TE}{p1 p2 q1 q2:Pos}
theorem boot_listT:bootBuiltins "list"=some (.type "list"):=by decide +kernel
theorem boot_reversed:bootBuiltins "reversed"=some (.type "reversed"):=by decide +kernel
theorem vals_rev:∀ {xs:List V} {us:List Value},Vals xs us→Vals xs.reverse us.reverse
 | _,_,.nil=>.nil
 | _,_,.cons r t=>by
  rw[List.reverse_cons,List.reverse_cons];exact (vals_rev t).append (.cons r .nil)
def tRevL (te:TE):TE:=fun σ H Q=>te σ H fun x H1=>∃ a xs,x=.ref a∧H1 a=some (.lst xs)∧∀ l,H1 l=none→Q (.ref l) (upd H1 l (.lst xs.reverse))
theorem pe_listrev (hc:X.A.handled=none)(hg1:Gl X "list")(hm1:X.mg "list"=none)(hg2:Gl X "reversed")(hm2:X.mg "reversed"=none)(he:PE X e te)
  (hs1:starEach [.Call (.Name "reversed" p1) [e] [] q1] X.env=[(false,eval (.Call (.Name "reversed" p1) [e] [] q1) X.env)]:=by rfl) (hs2:starEach [e] X.env=[(false,eval e X.env)]:=by rfl) :
  PE X (.Call (.Name "list" p2) [.Call (.Name "reversed" p1) [e] [] q1] [] q2) (tRevL te):=by
 intro pins s σ H Q I h;refine wpAny_Call_Name_kw (ld_blt I hg1 hm1 boot_listT ?_);refine PyProof.Rows.callWith_type1 ?_ hs1 rfl;rw[hs1];refine Calls.spliced_cons ?_;refine wpAny_Call_Name_kw (ld_blt I hg2 hm2 boot_reversed ?_);refine PyProof.Rows.callWith_type1 ?_ hs2 rfl;rw[hs2];refine Calls.spliced_cons (thn (he pins s σ H _ I h) fun u s1 ⟨x,H1,I1,r1,q1⟩=>?_);obtain⟨a,xs,rfl,ha,q⟩:=q1;cases r1;refine Calls.spliced_nil ?_;obtain⟨its,n,rv,ho,hz⟩:=I1.lst ha;have hl:s1.heap.IsList a its.toArray:=⟨_,ho,rfl,n,rfl⟩
 have alt:a<s1.heap.objs.size:=Heap.lt_size ho;refine call_reversed_list hl ?_;refine Calls.spliced_nil ?_;have k1:∀ b o,s1.heap.get? b=some o→(s1.heap.push (revObj a ((its.toArray.size:Int)-1))).get? b=some o:=fun _ _ q=>Heap.get?_push_of_some _ q
 refine Srt.call_list_rev (s:={s1 with heap:=s1.heap.push (revObj a ((its.toArray.size:Int)-1))}) hc ⟨_,Heap.get?_push_size _ rfl,rfl,rfl⟩ (hl.at fun o e=>k1 a o e) (Nat.ne_of_lt alt) (by rw[List.size_toArray,← rv.length];exact hz) fun h' tk acc' c' hk hS' hacc=>?_
 have eacc:acc'.toList=its.reverse:=by
  apply List.ext_getElem?;intro i;rw[Array.getElem?_toList];rcases Nat.lt_or_ge i its.length with hi | hi
  ·have hi':i<acc'.size:=by rw[hacc.1,List.size_toArray];exact hi
   have:=hacc.2 i acc'[i] (Array.getElem?_eq_getElem hi');rw[Array.getElem?_eq_getElem hi',List.getElem?_reverse hi];rw[List.size_toArray,List.getElem?_toArray] at this;exact this.symm
  ·rw[Array.getElem?_eq_none (by rw[hacc.1,List.size_toArray];exact hi),List.getElem?_eq_none (by rw[List.length_reverse];exact hi)]
 have keep:∀ b o,s1.heap.get? b=some o→h'.get? b=some o:=fun b o e=>hk b o (Nat.ne_of_lt (Heap.lt_size e)) (k1 b o e)
 have hsz:(s1.heap.push (revObj a ((its.toArray.size:Int)-1))).objs.size=s1.heap.objs.size+1:=Heap.size_push ..;refine⟨.ref (s1.heap.push (revObj a ((its.toArray.size:Int)-1))).objs.size,_,I1.laid (t':=tk) (a:=(s1.heap.push (revObj a ((its.toArray.size:Int)-1))).objs.size) (o:=.lst xs.reverse) keep (by rw[hsz];omega) ⟨by rw[List.length_reverse];exact hz,its.reverse,c',vals_rev rv,by rw[← eacc,Array.toArray_toList];exact hS'⟩,rfl,q _ (I1.hok.fresh (by rw[hsz];omega))⟩
end
end L2
end
section
set_option Elab.async false
set_option linter.all false
set_option maxRecDepth 100000
namespace L2
open PySem PySem.Spec PyProof.Rows
theorem raw_len {prog:Program}{w:World}{A:Around}{E:Value→Shared→Prop}{s:Shared}{d:Addr}{es:Array DictEntry}{ep:Nat}{Q:Value→Shared→Prop}(hd:(d == sysModules)=false)(r:Srt.RawD s.heap d es ep)
  (h:Q (.int es.size s.toks) {s with toks:=s.toks+1}):wpAny (model prog w) A (call (.builtin "dict.__len__") [.ref d]) Q E s:=by
 obtain⟨o,ho,hx,hdat⟩:=id r;refine wpAny_call_entry F.slot_dict_len r.typeIs F.entry_dict_len ?_ (F.args_dict_len_1 _);show wpAny _ _ (dictSize d >>= _) _ _ s;unfold dictSize;refine wpAny_bind (wpAny_bind (wpAny_dictEntries ho hdat (wpAny_pure ?_)));show wpAny _ _ (Builtin.Dict.pendingCount d >>= _) _ _ s;refine wpAny_bind (wpAny_pendingCount_other hd ?_);refine wpAny_ret_mkInt ?_;first | exact⟨_,rfl,h⟩ | exact h | simpa using h
section
variable {X:Cx}
theorem call_lenDT:CallR X (.builtin "len") (fun xs H Q=>∃ (a:Addr) (kvs:List (List Key×V)),xs=[V.ref a]∧H a=some (.dT kvs)∧Q (.int kvs.length) H):=by
 intro pins s σ H xs us Q I r h;obtain⟨a,kvs,rfl,ha,q⟩:=h;obtain⟨u,rfl,ru⟩:=vals1 r;cases ru;have hO:=I.hok a _ ha;unfold ObjOk at hO;obtain⟨z,lo,xs,rel,o,es,ep,ho,hx,hd,hes,hn⟩:=hO;have hl:es.size=kvs.length:=by rw[← Array.length_toList,hes,List.length_map,← Paired.length rel]
 have rd:Srt.RawD s.heap a es ep:=⟨o,ho,hx,hd⟩
 rw[sizeLine_eq] at z;refine call_len_slot (n:=kvs.length) rd.typeIs F.slot_dict_len (fun Q' hq=>raw_len lo rd (by rw[hl];exact hq)) (by omega) (by omega) ?_;exact⟨.int kvs.length,H,I.tok _,⟨_,rfl⟩,q⟩
end
structure Df (K:PySem.W.Frag)(mg:Str→Option Value)(x:Str)(st:Stmt)(f:Addr)(fd:FuncData)(ps:List Str):Prop where
 F:Fun K x x st f fd
 b:Binds K fd ps []
 m:mg x=some (.ref f)
theorem pe_own {X:Cx}{k:Nat}{f:Addr}{fd:FuncData}{ps:List Str}{sp:Sp}{x:Str}{st:Stmt}{p pos:Pos}{e:Expr}{es:List Expr}{t:TA}(G:FnOk X.prog X.w X.K X.mg X.base CX0 k f fd ps sp)(D:Df X.K X.mg x st f fd ps)(hr:Room k X.A)
  (ha:PA X (e::es) t) (hg:Gl X x:=by rfl) (hdb:(x == ("__debug__":Str))=false:=by decide) (he:starEach (e::es) X.env=(false,eval e X.env)::starEach es X.env:=by rfl) (hpl:(backTo pos (starEach es X.env)).any (·.1)=false:=by rfl) :
  PE X (.Call (.Name x p) (e::es) [] pos) (tCall sp [] E0 t):=pe_call G hr hg D.m D.F.kp D.b .nil pass0 ha hdb he hpl
structure Bt (mg:Str→Option Value):Prop where
 len:mg "len"=none
 range:mg "range"=none
 list:mg "list"=none
 tuple:mg "tuple"=none
 sorted:mg "sorted"=none
 min:mg "min"=none
 max:mg "max"=none
 int:mg "int"=none
 reversed:mg "reversed"=none
section
variable {X:Cx}(K:PySem.W.Frag)
theorem ix_listK (h:X.K=K:=by rfl):IxR X (rIxL K):=by subst h;exact ix_list
theorem ix_tupK (h:X.K=K:=by rfl):IxR X (rIxT K):=by subst h;exact ix_tup
theorem sl_listK (h:X.K=K:=by rfl):SlR X (rSlL K):=by subst h;exact sl_list
theorem sl_tupK (h:X.K=K:=by rfl):SlR X (rSlT K):=by subst h;exact sl_tup
theorem in_seqK (h:X.K=K:=by rfl):OpR X (compareOp .In) (rIn K false):=by subst h;exact op_in_seq
theorem notIn_seqK (h:X.K=K:=by rfl):OpR X (compareOp .NotIn) (rIn K true):=by subst h;exact op_notIn_seq
theorem eqDK (hu:X.A.units+64<cLine)(h:X.K=K:=by rfl):OpR X (compareOp .Eq) (rEqD K false):=by subst h;exact op_eqD hu
theorem neDK (hu:X.A.units+64<cLine)(h:X.K=K:=by rfl):OpR X (compareOp .NotEq) (rEqD K true):=by subst h;exact op_neD hu
def cLen (K:PySem.W.Frag):List V→Hp→VK→Prop:=fun xs H Q=>∃ p ys,xs=[.ref p]∧(SqL K H p ys∨SqT K H p ys)∧Q (.int ys.length) H
def cList (K:PySem.W.Frag):List V→Hp→VK→Prop:=fun xs H Q=>∃ p ys,xs=[.ref p]∧(SqL K H p ys∨SqT K H p ys)∧∀ l,H l=none→Q (.ref l) (upd H l (.lst ys))
def cTuple (K:PySem.W.Frag):List V→Hp→VK→Prop:=fun xs H Q=>∃ p ys,xs=[.ref p]∧((SqL K H p ys∧∀ l,H l=none→Q (.ref l) (upd H l (.tup ys)))∨(SqT K H p ys∧Q (.ref p) H))
def cSortI (K:PySem.W.Frag):List V→Hp→VK→Prop:=fun xs H Q=>∃ (p:Addr) (ns:List Int),xs=[.ref p]∧SrcI K H p ns∧∀ (ns':List Int) (l:Addr),ns'.Perm ns→ns'.Pairwise (·≤·)→H l=none→Q (.ref l) (upd H l (.lst (ns'.map V.int)))
def cSortT (K:PySem.W.Frag):List V→Hp→VK→Prop:=fun xs H Q=>∃ (p:Addr) (ps:List (Addr×List Int)),xs=[.ref p]∧SrcT K H p ps∧∀ (ps':List (Addr×List Int)) (l:Addr),ps'.Perm ps→(ps'.Pairwise fun x y=>HT.lexLt y.2 x.2=false)→H l=none→Q (.ref l) (upd H l (.lst (ps'.map fun x=>V.ref x.1)))
theorem lenK (h:X.K=K:=by rfl):CallR X (.builtin "len") (cLen K):=by subst h;exact call_len_seq
theorem listK (h:X.K=K:=by rfl):CallR X (.type "list") (cList K):=by subst h;exact call_list_of
theorem tupleK (h:X.K=K:=by rfl):CallR X (.type "tuple") (cTuple K):=by subst h;exact call_tuple_of
theorem sortedIK (hc:X.A.handled=none)(h:X.K=K:=by rfl):CallR X (.builtin "sorted") (cSortI K):=by subst h;exact call_sortedI hc
theorem sortedTK (h:X.K=K:=by rfl):CallR X (.builtin "sorted") (cSortT K):=by subst h;exact call_sortedT
variable {tg l o e:Expr}{tl to:TE}{es:List Expr}{t:TA}{pos:Pos}
theorem pi_listK (hl:PE X l tl)(h:X.K=K:=by rfl):PI X tg l (iList K tl):=by subst h;exact pi_list hl
theorem pi_tupK (hl:PE X l tl)(h:X.K=K:=by rfl):PI X tg l (iTup K tl):=by subst h;exact pi_tup hl
theorem pg_tupK {k:Nat}{t:TGs}{n:Nat}(hc:X.calm=true)(hg:PGs X es t)(hn:(assignEach es X.env).length=n:=by rfl)(hst:(assignEach es X.env).findIdx? (·.1)=none:=by rfl)(h:X.K=K:=by rfl):PG X (.Tuple es k pos) (gTup K n t):=by
 subst h;exact pg_tup hc hg hn hst
theorem appendK {apos cpos:Pos}(ho:PE X o to)(ha:PA X (e::es) t)(h:X.K=K:=by rfl)
  (hbase:attributeBase o "append" X.env (eval o X.env)=eval o X.env:=by rfl)
  (hfew:((backTo cpos (starEach (e::es) X.env)).all (fun x=>!x.1) && (backToKw cpos (keywordEach [] X.env)).all (fun x=>x.1.isSome)
   && decide ((e::es).length+([]:List Keyword).length+(if ([]:List Keyword).isEmpty then 0 else 1)<30))=true:=by rfl) (hst:starEach (e::es) X.env=(false,eval e X.env)::starEach es X.env:=by rfl) (hpl:(backTo cpos (starEach es X.env)).any (·.1)=false:=by rfl) (hline:(apos.endLine == cpos.line)=true:=by rfl) :
  PE X (.Call (.Attribute o "append" apos) (e::es) [] cpos) (tBM K "list" rAppend to t):=by
 subst h;exact pe_bm PySem.F.plainAttrs_list PySem.F.slot_list_append PySem.F.type_list_append mt_append ho ha hbase hfew hline hst hpl
theorem popK {apos cpos:Pos}(ho:PE X o to)(h:X.K=K:=by rfl)(hbase:attributeBase o "pop" X.env (eval o X.env)=eval o X.env:=by rfl)(hline:(apos.endLine == cpos.line)=true:=by rfl) :
  PE X (.Call (.Attribute o "pop" apos) [] [] cpos) (tBM0 K "list" rPop to):=by
 subst h;exact pe_bm0 PySem.F.plainAttrs_list PySem.F.slot_list_pop PySem.F.type_list_pop mt_pop ho hbase hline
end
section
variable {K:PySem.W.Frag}{a p:Addr}{xs:List V}{g:TG}{tc:TT}{te tv:TE}{τ0:St}{H0:Hp}{EE:Hp→Prop}
theorem lc_list (Pv:Nat→St→Hp→Prop)(h0:Pv 0 τ0 H0)(hl:∀ i τ H,i≤xs.length→Pv i τ H→SqL K H a xs)
  (hs:∀ i x τ H,xs[i]?=some x→Pv i τ H→(∀ ys,SqL K H a ys→ys[i]?=some x)→g x τ H fun τ2 H2=>tc τ2 H2 fun b H3=>if b=true then te τ2 H3 fun v H4=>∃ ys,H4 p=some (.lst ys)∧ys.length<sizeLine∧Pv (i+1) τ2 (upd H4 p (.lst (ys++[v]))) else Pv (i+1) τ2 H3)
  (hd:∀ τ H,Pv xs.length τ H→EE H):lcW g tc te p (Itl K a) τ0 H0 EE:=by
 refine⟨fun i m τ H=>m=xs.length-i∧i≤xs.length∧Pv i τ H,⟨_,rfl,Nat.zero_le _,h0⟩,?_⟩;rintro i m τ H ⟨rfl,hi,hp⟩;have hq:=hl i τ H hi hp;rcases Nat.lt_or_ge i xs.length with h | h
 ·have hx:xs[i]?=some xs[i]:=List.getElem?_eq_getElem h;refine .inr ⟨⟨xs,_,hq,hx⟩,Pv (i+1),fun τ' H' z=>⟨_,by omega,rfl,h,z⟩,?_⟩;rintro x H' ⟨rfl,hy⟩;have e:x=xs[i]:=by have:=hy xs hq;rw[hx] at this;exact (Option.some.inj this).symm
  subst e;exact hs i _ τ H' hx hp hy
 ·have e:i=xs.length:=by omega
  subst e;exact .inl ⟨⟨xs,hq,Nat.le_refl _⟩,hd τ H hp⟩
theorem lc_tup (Pv:Nat→St→Hp→Prop)(h0:Pv 0 τ0 H0)(hl:∀ i τ H,i≤xs.length→Pv i τ H→SqT K H a xs)
  (hs:∀ i x τ H,xs[i]?=some x→Pv i τ H→g x τ H fun τ2 H2=>tc τ2 H2 fun b H3=>if b=true then te τ2 H3 fun v H4=>∃ ys,H4 p=some (.lst ys)∧ys.length<sizeLine∧Pv (i+1) τ2 (upd H4 p (.lst (ys++[v]))) else Pv (i+1) τ2 H3)
  (hd:∀ τ H,Pv xs.length τ H→EE H):lcW g tc te p (Itt K a) τ0 H0 EE:=by
 refine⟨fun i m τ H=>m=xs.length-i∧i≤xs.length∧Pv i τ H,⟨_,rfl,Nat.zero_le _,h0⟩,?_⟩;rintro i m τ H ⟨rfl,hi,hp⟩;have hq:=hl i τ H hi hp;rcases Nat.lt_or_ge i xs.length with h | h
 ·have hx:xs[i]?=some xs[i]:=List.getElem?_eq_getElem h;refine .inr ⟨⟨xs,_,hq,hx⟩,Pv (i+1),fun τ' H' z=>⟨_,by omega,rfl,h,z⟩,?_⟩;rintro x H' ⟨rfl,hy⟩;have e:x=xs[i]:=by have:=hy xs hq;rw[hx] at this;exact (Option.some.inj this).symm
  subst e;exact hs i _ τ H' hx hp
 ·have e:i=xs.length:=by omega
  subst e;exact .inl ⟨⟨xs,hq,Nat.le_refl _⟩,hd τ H hp⟩
theorem lc_range {lo:Int}{n:Nat}(Pv:Nat→St→Hp→Prop)(h0:Pv 0 τ0 H0)
  (hs:∀ i τ H,i<n→Pv i τ H→g (.int (lo+i)) τ H fun τ2 H2=>tc τ2 H2 fun b H3=>if b=true then te τ2 H3 fun v H4=>∃ ys,H4 p=some (.lst ys)∧ys.length<sizeLine∧Pv (i+1) τ2 (upd H4 p (.lst (ys++[v]))) else Pv (i+1) τ2 H3)
  (hd:∀ τ H,Pv n τ H→EE H):lcW g tc te p (Itr lo n) τ0 H0 EE:=by
 refine⟨fun i m τ H=>m=n-i∧i≤n∧Pv i τ H,⟨_,rfl,Nat.zero_le _,h0⟩,?_⟩;rintro i m τ H ⟨rfl,hi,hp⟩;rcases Nat.lt_or_ge i n with h | h
 ·refine .inr ⟨h,Pv (i+1),fun τ' H' z=>⟨_,by omega,rfl,h,z⟩,?_⟩;rintro x H' ⟨rfl,rfl⟩;exact hs i τ H' h hp
 ·have e:i=n:=by omega
  subst e;exact .inl ⟨Nat.le_refl _,hd τ H hp⟩
theorem dc_tup (Pv:Nat→St→Hp→Prop)(h0:Pv 0 τ0 H0)(hl:∀ i τ H,i≤xs.length→Pv i τ H→SqT K H a xs)
  (hs:∀ i x τ H,xs[i]?=some x→Pv i τ H→g x τ H fun τ2 H2=>tc τ2 H2 fun b H3=>if b=true then te τ2 H3 fun k H4=>tv τ2 H4 fun v H5=>∃ H6,DPut H5 p k v H6∧Pv (i+1) τ2 H6 else Pv (i+1) τ2 H3)
  (hd:∀ τ H,Pv xs.length τ H→EE H):dcW g tc te tv p (Itt K a) τ0 H0 EE:=by
 refine⟨fun i m τ H=>m=xs.length-i∧i≤xs.length∧Pv i τ H,⟨_,rfl,Nat.zero_le _,h0⟩,?_⟩;rintro i m τ H ⟨rfl,hi,hp⟩;have hq:=hl i τ H hi hp;rcases Nat.lt_or_ge i xs.length with h | h
 ·have hx:xs[i]?=some xs[i]:=List.getElem?_eq_getElem h;refine .inr ⟨⟨xs,_,hq,hx⟩,Pv (i+1),fun τ' H' z=>⟨_,by omega,rfl,h,z⟩,?_⟩;rintro x H' ⟨rfl,hy⟩;have e:x=xs[i]:=by have:=hy xs hq;rw[hx] at this;exact (Option.some.inj this).symm
  subst e;exact hs i _ τ H' hx hp
 ·have e:i=xs.length:=by omega
  subst e;exact .inl ⟨⟨xs,hq,Nat.le_refl _⟩,hd τ H hp⟩
end
theorem call_intB {X:Cx}:CallR X (.type "int") (fun xs H Q=>∃ k,xs=[.bl k]∧Q (.int (if k then 1 else 0)) H):=fun pins s σ H xs us Q I r h=>call_int1 pins s σ H xs us Q I r (.inr h)
theorem upd_self {H:Hp}{a:Addr}{o:HO}(h:H a=some o):upd H a o=H:=by
 funext b;by_cases e:b=a
 ·subst e;rw[upd_same,h]
 ·rw[upd_ne e]
theorem Same.upd {H H':Hp}(s:Same H H'){p:Addr}{o:HO}(hp:H p=none):Same H (L2.upd H' p o):=fun b u e=>by
 rw[upd_ne (ne_of_none e hp)];exact s b u e
theorem Same.seqT {K:PySem.W.Frag}{H H':Hp}{a:Addr}{xs:List V}(e:Same H H')(h:SqT K H a xs):SqT K H' a xs:=by
 rcases h with (h | ⟨o,h⟩) | h
 ·exact .inl (.inl (e _ _ h))
 ·exact .inl (.inr ⟨o,e _ _ h⟩)
 ·exact .inr h
theorem sizeBig {n:Nat}(h:n≤16000000):n<sizeLine:=by rw[sizeLine_eq];omega
end L2
end
section
set_option maxHeartbeats 8000000
local macro_rules | `(tactic| omega)=>`(tactic| first | lia | omega +splitDisjunctions)
set_option Elab.async false
set_option linter.all false
set_option maxRecDepth 100000
namespace L2
open PySem
def Tp (H H':Hp):Prop:=∀ a xs,H a=some (.tup xs)→H' a=some (.tup xs)
theorem Tp.refl (H:Hp):Tp H H:=fun _ _ h=>h
theorem Tp.trans {H H1 H2:Hp}(a:Tp H H1)(b:Tp H1 H2):Tp H H2:=fun c o h=>b c o (a c o h)
theorem Same.tp {H H':Hp}(s:Same H H'):Tp H H':=fun a xs h=>s a _ h
theorem ne_tl {H:Hp}{a b:Addr}{xs ys:List V}(h:H a=some (.tup xs))(h':H b=some (.lst ys)):a≠b:=fun e=>by subst e;rw[h] at h';cases h'
theorem ne_tdT {H:Hp}{a b:Addr}{xs:List V}{ys:List (List Key×V)}(h:H a=some (.tup xs))(h':H b=some (.dT ys)):a≠b:=fun e=>by subst e;rw[h] at h';cases h'
theorem ne_tdK {H:Hp}{a b:Addr}{xs:List V}{ys:List (Key×V)}(h:H a=some (.tup xs))(h':H b=some (.dK ys)):a≠b:=fun e=>by subst e;rw[h] at h';cases h'
theorem Tp.new {H H':Hp}(s:Tp H H'){p:Addr}{o:HO}(hp:H p=none):Tp H (upd H' p o):=fun a xs h=>by rw[upd_ne (ne_of_none h hp)];exact s a xs h
theorem Tp.lst {H:Hp}{p:Addr}{o:HO}{ys:List V}(hp:H p=some (.lst ys)):Tp H (upd H p o):=fun a xs h=>by rw[upd_ne (ne_tl h hp)];exact h
theorem Tp.dT {H:Hp}{p:Addr}{o:HO}{ys:List (List Key×V)}(hp:H p=some (.dT ys)):Tp H (upd H p o):=fun a xs h=>by rw[upd_ne (ne_tdT h hp)];exact h
theorem Tp.dK {H:Hp}{p:Addr}{o:HO}{ys:List (Key×V)}(hp:H p=some (.dK ys)):Tp H (upd H p o):=fun a xs h=>by rw[upd_ne (ne_tdK h hp)];exact h
theorem Tp.nw {H:Hp}{p:Addr}{o:HO}(hp:H p=none):Tp H (upd H p o):=(Tp.refl H).new hp
theorem at_new {H:Hp}{a p:Addr}{o u:HO}(h:H a=some o)(hp:H p=none):upd H p u a=some o:=by rw[upd_ne (ne_of_none h hp)];exact h
theorem of_upd_none {H:Hp}{p q:Addr}{o:HO}(h:upd H p o q=none):H q=none:=by
 by_cases e:q=p
 ·subst e;rw[upd_same] at h;cases h
 ·rwa [upd_ne e] at h
@[elab_as_elim] theorem fresh_of {G:Hp→Prop} {H:Hp} {p:Addr} {o:HO} (n:H p=none) (k:∀ H',Same H H'→H' p=some o→G H'):G (upd H p o):=k _ ((Same.refl H).upd n) upd_same
theorem seq_rest {a b:TS}{D:Ends}{σ:St}{H:Hp}(C:St→Hp→Prop)(ha:∀ R:St→Hp→Prop,(∀ σ H,C σ H→R σ H)→a {D with nx:=R} σ H)(hb:∀ σ H,C σ H→b D σ H):tSeq a b D σ H:=ha (b D) hb
def DsOk (ds:List Int):Prop:=ds.length≤2000∧∀ x∈ds,0≤x∧x<1000
def DkAt (H:Hp)(d:Addr):Prop:=∃ ds:List Int,H d=some (.lst (ds.map V.int))∧DsOk ds
def Kp (d:Addr)(H H':Hp):Prop:=∀ b o,b≠d→H b=some o→H' b=some o
theorem Kp.refl (d:Addr)(H:Hp):Kp d H H:=fun _ _ _ h=>h
theorem Kp.trans {d:Addr}{H H1 H2:Hp}(a:Kp d H H1)(b:Kp d H1 H2):Kp d H H2:=fun c o hc e=>b c o hc (a c o hc e)
theorem Same.kp {d:Addr}{H H':Hp}(s:Same H H'):Kp d H H':=fun b o _ h=>s b o h
theorem Kp.free {d:Addr}{H H':Hp}(k:Kp d H H')(hd:DkAt H' d){l:Addr}(h:H' l=none):H l=none:=by
 cases e:H l with
 | none=>rfl
 | some o =>
  by_cases q:l=d
  ·subst q;obtain⟨ds,e',_⟩:=hd;rw[e'] at h;cases h
  ·rw[k l o q e] at h;cases h
theorem Kp.new {d:Addr}{H H':Hp}(k:Kp d H H'){p:Addr}{o:HO}(hp:H p=none):Kp d H (upd H' p o):=fun b u hb e=>by
 rw[upd_ne (ne_of_none e hp)];exact k b u hb e
theorem DkAt.new {d:Addr}{H:Hp}(h:DkAt H d){p:Addr}{o:HO}(hp:p≠d):DkAt (upd H p o) d:=by
 obtain⟨ds,e,hl⟩:=h;exact⟨ds,by rw[upd_ne hp.symm];exact e,hl⟩
theorem DkAt.ne {d p:Addr}{H:Hp}(h:DkAt H d)(hp:H p=none):p≠d:=fun e=>by
 subst e;obtain⟨ds,e,_⟩:=h;rw[hp] at e;cases e
theorem DkAt.same {d:Addr}{H H':Hp}(h:DkAt H d)(s:Same H H'):DkAt H' d:=by
 obtain⟨ds,e,hl⟩:=h;exact⟨ds,s _ _ e,hl⟩
theorem Kp.tp {d:Addr}{H H':Hp}(k:Kp d H H')(hd:DkAt H d):Tp H H':=fun a xs h=>by
 refine k a _ (fun e=>?_) h;subst e;obtain⟨ds,e',_⟩:=hd;rw[h] at e';cases e'
def sp_mixed:Sp:=fun vs H Q _=>∃ c k:Int,vs=[.int c,.int k]∧0≤k∧k<2 ^ 30∧∀ z:Int,Q (.int z) H
def sp_next:Sp:=fun vs H Q _=>∃ (d:Addr) (ns:List Int),vs=[.ref d]∧H d=some (.lst (ns.map V.int))∧∀ (z:Int) (ns':List Int),ns'.length≤ns.length→(∀ x∈ns',x∈ns)→(z=0∨z∈ns)→Q (.int z) (upd H d (.lst (ns'.map V.int)))
theorem next_use {H:Hp}{d:Addr}{Q:VK}{E:XK}(hd:DkAt H d)(h:∀ z H',Kp d H H'→DkAt H' d→(∀ b,b≠d→H' b=H b)→Q (.int z) H'):sp_next [.ref d] H Q E:=by
 obtain⟨ds,e,hl,hb⟩:=hd;exact⟨d,ds,rfl,e,fun z ns' hn hs _=>h z _ (fun b o hb eb=>by rw[upd_ne hb];exact eb) ⟨ns',upd_same,by omega,fun x hx=>hb x (hs x hx)⟩ fun b hb=>upd_ne hb⟩
def sp_deck (K:PySem.W.Frag):Sp:=fun vs H Q _=>∃ (a:Addr) (m:Int) (ns:List Int),vs=[.ref a,.int m]∧SqL K H a (ns.map V.int)∧ns.length≤63∧0≤m∧m≤2000 ∧
 ∀ (p:Addr) (ds:List Int) (H':Hp),DsOk ds→Same H H'→H p=none→H' p=some (.lst (ds.map V.int))→Q (.ref p) H'
def sp_turn:Sp:=fun vs H Q _=>∃ (d:Addr) (n:Int),vs=[.ref d,.int n]∧DkAt H d∧0≤n∧n≤60 ∧
 ∀ (p:Addr) (ks:List Int) (H':Hp),Kp d H H'→DkAt H' d→H p=none→H' p=some (.tup (ks.map V.int))→ks.Perm (rInts 0 n.toNat)→Q (.ref p) H'
theorem turn_use {H:Hp}{d:Addr}{n:Int}{Q:VK}{E:XK}(hd:DkAt H d)(h0:0≤n)(h1:n≤60)(h:∀ (p:Addr) (ks:List Int) (H':Hp),Kp d H H'→DkAt H' d→H p=none→H' p=some (.tup (ks.map V.int))→ks.Perm (rInts 0 n.toNat)→Q (.ref p) H'):sp_turn [.ref d,.int n] H Q E :=
 ⟨d,n,rfl,hd,h0,h1,h⟩
theorem rInts_succ (i:Nat):rInts 0 (i+1)=rInts 0 i++[(0:Int)+i]:=by unfold rInts;rw[List.range_succ,List.map_append];rfl
def sp_law (K:PySem.W.Frag):Sp:=fun vs H Q _=>∃ (a:Addr) (ns:List Int),vs=[.ref a]∧SqL K H a (ns.map V.int)∧ns.length≤63∧∀ H',Q (.bl true) H'
def tl (t:Int×Int):List Int:=[t.1,t.2]
def Lex (t u:Int×Int):Prop:=t.1<u.1∨(t.1=u.1∧t.2<u.2)
structure IsWeb (n:Int)(ts:List (Int×Int)):Prop where
 n3:3≤n
 n60:n≤60
 rng:∀ t∈ts,0≤t.1∧t.1<t.2∧t.2<n
 srt:ts.Pairwise Lex
 len:ts.length≤200
 conn:∀ S:Int→Prop,(∀ t∈ts,S t.1↔S t.2)→∀ u v,0≤u→u<n→0≤v→v<n→S u→S v
structure PsAt (H:Hp)(ps:List (Addr×List Int))(ts:List (Int×Int)):Prop where
 to:∀ x∈ps,H x.1=some (.tup (x.2.map V.int))
 eq:ps.map (·.2)=ts.map tl
def TsAt (H:Hp)(q:Addr)(ts:List (Int×Int)):Prop:=∃ ps:List (Addr×List Int),H q=some (.tup (ps.map fun x=>V.ref x.1))∧PsAt H ps ts
def WebAt (H:Hp)(w:Addr)(n:Int)(ts:List (Int×Int)):Prop:=∃ q,H w=some (.tup [.int n,.ref q])∧TsAt H q ts
theorem PsAt.tp {H H':Hp}{ps:List (Addr×List Int)}{ts:List (Int×Int)}(h:PsAt H ps ts)(t:Tp H H'):PsAt H' ps ts:=⟨fun x hx=>t _ _ (h.to x hx),h.eq⟩
theorem TsAt.tp {H H':Hp}{q:Addr}{ts:List (Int×Int)}(h:TsAt H q ts)(t:Tp H H'):TsAt H' q ts:=by
 obtain⟨ps,e,p⟩:=h;exact⟨ps,t _ _ e,p.tp t⟩
theorem WebAt.tp {H H':Hp}{w:Addr}{n:Int}{ts:List (Int×Int)}(h:WebAt H w n ts)(t:Tp H H'):WebAt H' w n ts:=by
 obtain⟨q,e,p⟩:=h;exact⟨q,t _ _ e,p.tp t⟩
theorem PsAt.get {H:Hp}{ps:List (Addr×List Int)}{ts:List (Int×Int)}(h:PsAt H ps ts){i:Nat}{v:V}(e:(ps.map fun x=>V.ref x.1)[i]?=some v) :
  ∃ a t,v=.ref a∧ts[i]?=some t∧H a=some (.tup [.int t.1,.int t.2]):=by
 rw[List.getElem?_map] at e;cases hx:ps[i]? with
 | none=>rw[hx] at e;cases e
 | some x =>
  rw[hx] at e;have e1:V.ref x.1=v:=Option.some.inj e;have e2:(ps.map (·.2))[i]?=some x.2:=by rw[List.getElem?_map,hx];rfl
  rw[h.eq,List.getElem?_map] at e2;cases ht:ts[i]? with
  | none=>rw[ht] at e2;cases e2
  | some t =>
   rw[ht] at e2;have e3:tl t=x.2:=Option.some.inj e2;refine⟨x.1,t,e1.symm,rfl,?_⟩;rw[h.to x (List.mem_of_getElem? hx),← e3];rfl
theorem PsAt.len {H:Hp}{ps:List (Addr×List Int)}{ts:List (Int×Int)}(h:PsAt H ps ts):ps.length=ts.length:=by
 have:=congrArg List.length h.eq;simpa using this
def un (l:List Int):Int×Int:=(l.getD 0 0,l.getD 1 0)
theorem un_tl (t:Int×Int):un (tl t)=t:=rfl
theorem PsAt.of_perm {H:Hp}{ps:List (Addr×List Int)}{ts:List (Int×Int)}(h:∀ x∈ps,H x.1=some (.tup (x.2.map V.int)))(pm:(ps.map (·.2)).Perm (ts.map tl)):∃ ts',ts'.Perm ts∧PsAt H ps ts':=by
 refine⟨(ps.map (·.2)).map un,?_,h,?_⟩
 ·have:=pm.map un;rw[List.map_map (l:=ts),show (un ∘ tl)=id from funext un_tl,List.map_id] at this;exact this
 ·rw[List.map_map];conv=>lhs;rw[← List.map_id (ps.map (·.2))]
  refine List.map_congr_left fun l hl=>?_
  obtain⟨t,_,rfl⟩:=List.mem_map.mp (pm.mem_iff.mp hl);rfl
theorem PsAt.perm {H:Hp}{ps ps':List (Addr×List Int)}{ts:List (Int×Int)}(h:PsAt H ps ts)(pm:ps'.Perm ps):∃ ts',ts'.Perm ts∧PsAt H ps' ts' :=
 PsAt.of_perm (fun x hx=>h.to x (pm.mem_iff.mp hx)) (by rw[← h.eq];exact pm.map _)
theorem PsAt.srt {H:Hp}{ps:List (Addr×List Int)}{ts:List (Int×Int)}(h:PsAt H ps ts)(s:ps.Pairwise fun x y=>HT.lexLt y.2 x.2=false):ts.Pairwise fun x y=>HT.lexLt (tl y) (tl x)=false:=by
 have h1:(ps.map (·.2)).Pairwise fun x y=>HT.lexLt y x=false:=List.pairwise_map.mpr s
 rw[h.eq] at h1;exact List.pairwise_map.mp h1
theorem PsAt.src {K:PySem.W.Frag}{H:Hp}{p:Addr}{ps:List (Addr×List Int)}{ts:List (Int×Int)}(h:PsAt H ps ts)(e:H p=some (.lst (ps.map fun x=>V.ref x.1)))(hl:ps.length<64:=by omega):SrcT K H p ps:=by
 refine⟨.inl (SqL.of e),fun x hx=>⟨h.to x hx,fun e2=>?_⟩,hl⟩;have:x.2∈ps.map (·.2):=List.mem_map_of_mem hx;rw[h.eq] at this;obtain⟨t,_,e3⟩:=List.mem_map.mp this;rw[e2] at e3;cases e3
theorem PsAt.snoc {H:Hp}{ps:List (Addr×List Int)}{ts:List (Int×Int)}(h:PsAt H ps ts){q:Addr}{t:Int×Int}(e:H q=some (.tup [.int t.1,.int t.2])):PsAt H (ps++[(q,tl t)]) (ts++[t]):=by
 refine⟨fun x hx=>?_,by rw[List.map_append,List.map_append,h.eq];rfl⟩;rcases List.mem_append.mp hx with hx | hx
 ·exact h.to x hx
 ·cases List.mem_singleton.mp hx;exact e
def sp_web:Sp:=fun vs H Q _=>∃ (d:Addr) (lo hi:Int),vs=[.ref d,.int lo,.int hi]∧DkAt H d∧3≤lo∧lo≤hi∧hi≤20 ∧
 ∀ (w:Addr) (n:Int) (ts:List (Int×Int)) (H':Hp),Kp d H H'→DkAt H' d→lo≤n→n≤hi→IsWeb n ts→WebAt H' w n ts→Q (.ref w) H'
def kvT (fs:List (Int×Int)):List (List Key×V):=fs.map fun t=>([.inl t.1,.inl t.2],V.bl true)
def addT (fs:List (Int×Int))(t:Int×Int):List (Int×Int):=if t∈fs then fs else fs++[t]
theorem mem_addT {fs:List (Int×Int)}{t x:Int×Int}:x∈addT fs t↔x∈fs∨x=t:=by
 unfold addT;split
 ·exact⟨.inl,fun h=>h.elim id fun e=>by subst e;assumption⟩
 ·simp
theorem nd_addT {fs:List (Int×Int)}{t:Int×Int}(h:fs.Nodup):(addT fs t).Nodup:=by
 unfold addT;split
 ·exact h
 ·rename_i hn;rw[List.nodup_append];exact⟨h,by simp,fun a ha b hb e=>hn (by simp at hb;subst hb;subst e;exact ha)⟩
theorem len_addT {fs:List (Int×Int)}{t:Int×Int}:(addT fs t).length≤fs.length+1:=by
 unfold addT;split<;>simp
theorem kvT_put_len {fs:List (Int×Int)}(h:fs.length≤1000):(kvT fs).length<sizeLine:=by unfold kvT;rw[List.length_map];exact sizeBig (by omega)
theorem put_kvT (fs:List (Int×Int))(a b:Int):putK (kvT fs) [Sum.inl a,Sum.inl b] (V.bl true)=kvT (addT fs (a,b)):=by
 have key:∀ t:Int×Int,(([Sum.inl t.1,Sum.inl t.2]:List Key)=[Sum.inl a,Sum.inl b])↔t=(a,b):=fun t=>by
  obtain⟨x,y⟩:=t;constructor
  ·intro e;injection e with e1 e2
   injection e2 with e2 _
   injection e1 with e1
   injection e2 with e2
   subst e1;subst e2;rfl
  ·intro e;cases e;rfl
 unfold putK addT;by_cases h:(a,b)∈fs
 ·have h1:((kvT fs).any fun kv=>decide (kv.1=[Sum.inl a,Sum.inl b]))=true:=by
   rw[List.any_eq_true];exact⟨_,List.mem_map_of_mem h,by simp⟩
  rw[if_pos h1,if_pos h];unfold kvT;rw[List.map_map];refine List.map_congr_left fun t ht=>?_
  show (if _ then _ else _)=_;split<;>rfl
 ·have h1:¬ ((kvT fs).any fun kv=>decide (kv.1=[Sum.inl a,Sum.inl b]))=true:=by
   rw[List.any_eq_true];rintro⟨kv,hk,e⟩;obtain⟨t,ht,rfl⟩:=List.mem_map.mp hk;have:=(key t).mp (of_decide_eq_true e);subst this;exact h ht
  rw[if_neg h1,if_neg h];unfold kvT;rw[List.map_append];rfl
theorem kvT_len (fs:List (Int×Int)):(kvT fs).length=fs.length:=by unfold kvT;simp
theorem kvT_keys (fs:List (Int×Int)):(kvT fs).map (·.1)=(fs.map tl).map (fun ks=>ks.map (Sum.inl:Int→Key)):=by
 unfold kvT tl;rw[List.map_map,List.map_map];rfl
def nm (ks:List Int)(u:Int):Int:=ks.getD u.toNat 0
def ren (ks:List Int)(t:Int×Int):Int×Int:=(if nm ks t.2<nm ks t.1 then nm ks t.2 else nm ks t.1,if nm ks t.2>nm ks t.1 then nm ks t.2 else nm ks t.1)
section
variable {ks:List Int}{n:Int}
theorem nm_at (hp:ks.Perm (rInts 0 n.toNat)){u:Int}(h0:0≤u)(h1:u<n):ks[u.toNat]?=some (nm ks u):=by
 have hl:ks.length=n.toNat:=by rw[hp.length_eq,rInts_length]
 have hu:u.toNat<ks.length:=by omega
 unfold nm;rw[List.getD_eq_getElem?_getD,List.getElem?_eq_getElem hu];rfl
theorem nm_rng (hp:ks.Perm (rInts 0 n.toNat)){u:Int}(h0:0≤u)(h1:u<n):0≤nm ks u∧nm ks u<n:=by
 have hm:=hp.mem_iff.mp (List.mem_of_getElem? (nm_at hp h0 h1));unfold rInts at hm;obtain⟨i,hi,e⟩:=List.mem_map.mp hm;have:=List.mem_range.mp hi;omega
theorem nm_inj (hp:ks.Perm (rInts 0 n.toNat)){u v:Int}(h0:0≤u)(h1:u<n)(k0:0≤v)(k1:v<n)(e:nm ks u=nm ks v):u=v:=by
 have hnd:ks.Nodup:=hp.nodup_iff.mpr (by
  unfold rInts;refine List.pairwise_map.mpr (List.Pairwise.imp ?_ List.pairwise_lt_range)
  intro a b h e;omega)
 have a1:=nm_at hp h0 h1;have a2:=nm_at hp k0 k1;rw[← e] at a2;have hl:ks.length=n.toNat:=by rw[hp.length_eq,rInts_length]
 have:=(List.getElem?_inj (l:=ks) (i:=u.toNat) (j:=v.toNat) (by omega) hnd).mp (by rw[a1,a2]);omega
theorem nm_sur (hp:ks.Perm (rInts 0 n.toNat)){v:Int}(k0:0≤v)(k1:v<n):∃ u,0≤u∧u<n∧nm ks u=v:=by
 have hm:v∈rInts 0 n.toNat:=by
  unfold rInts;exact List.mem_map.mpr ⟨v.toNat,List.mem_range.mpr (by omega),by omega⟩
 obtain⟨i,hi,e⟩:=List.getElem_of_mem (hp.mem_iff.mpr hm);have hl:ks.length=n.toNat:=by rw[hp.length_eq,rInts_length]
 refine⟨(i:Int),by omega,by omega,?_⟩;unfold nm;rw[List.getD_eq_getElem?_getD,Int.toNat_natCast,List.getElem?_eq_getElem hi];exact e
theorem lex_iff {t u:Int×Int}:HT.lexLt (tl t) (tl u)=true↔Lex t u:=by
 unfold tl Lex;rw[HT.lexLt_cons];split
 ·rename_i h;rw[HT.lexLt_cons];split
  ·rename_i h2;constructor
   ·intro e;cases e
   ·intro e;omega
  ·rename_i h2;rw[decide_eq_true_iff];constructor
   ·intro e;exact .inr ⟨h,e⟩
   ·intro e;rcases e with e | e
    ·omega
    ·exact e.2
 ·rename_i h;rw[decide_eq_true_iff];constructor
  ·intro e;exact .inl e
  ·intro e;rcases e with e | e
   ·exact e
   ·exact absurd e.1 h
theorem web_ren {fs ts:List (Int×Int)}(h3:3≤n)(h60:n≤60)(hnd:fs.Nodup)(hrng:∀ t∈fs,0≤t.1∧t.1<t.2∧t.2<n)(hlen:fs.length≤200)(hah:∀ k:Int,1≤k→k<n→∃ a,0≤a∧a<k∧(a,k)∈fs)
  (hp:ks.Perm (rInts 0 n.toNat)) (hts:ts.Perm (fs.map (ren ks))) (hs:ts.Pairwise fun x y=>HT.lexLt (tl y) (tl x)=false):IsWeb n ts:=by
 have rr:∀ t∈fs,0≤(ren ks t).1∧(ren ks t).1<(ren ks t).2∧(ren ks t).2<n:=fun t ht=>by
  obtain⟨h0,h1,h2⟩:=hrng t ht;have a:=nm_rng hp h0 (by omega);have b:=nm_rng hp (u:=t.2) (by omega) h2;have c:nm ks t.1≠nm ks t.2:=fun e=>by have:=nm_inj hp h0 (by omega) (by omega) h2 e;omega
  unfold ren;dsimp only;split<;>split<;>omega
 have inj:∀ t∈fs,∀ u∈fs,ren ks t=ren ks u→t=u:=fun t ht u hu e=>by
  obtain⟨h0,h1,h2⟩:=hrng t ht;obtain⟨k0,k1,k2⟩:=hrng u hu;unfold ren at e;injection e with e1 e2
  have i1:nm ks t.1=nm ks u.1→t.1=u.1:=nm_inj hp h0 (by omega) k0 (by omega);have i2:nm ks t.2=nm ks u.2→t.2=u.2:=nm_inj hp (by omega) h2 (by omega) k2;have i3:nm ks t.1=nm ks u.2→t.1=u.2:=nm_inj hp h0 (by omega) (by omega) k2;have i4:nm ks t.2=nm ks u.1→t.2=u.1:=nm_inj hp (by omega) h2 k0 (by omega);have:t.1=u.1∧t.2=u.2:=by
   split at e1<;>split at e1<;>split at e2<;>split at e2<;>omega
  obtain⟨q1,q2⟩:=this;cases t;cases u;simp at q1 q2;rw[q1,q2]
 have nd2:(fs.map (ren ks)).Nodup:=by
  refine List.pairwise_map.mpr ?_;refine List.Pairwise.imp_of_mem ?_ hnd;intro a b ha hb hab e;exact hab (inj a ha b hb e)
 have nd3:ts.Nodup:=hts.nodup_iff.mpr nd2;refine⟨h3,h60,fun t ht=>?_,?_,by rw[hts.length_eq,List.length_map];exact hlen,fun S hS=>?_⟩
 ·obtain⟨u,hu,rfl⟩:=List.mem_map.mp (hts.mem_iff.mp ht);exact rr u hu
 ·refine (List.Pairwise.and hs nd3).imp ?_;rintro a b ⟨h1,h2⟩;have h3:¬ Lex b a:=fun e=>by rw[lex_iff.mpr e] at h1;cases h1
  have h4:a.1≠b.1∨a.2≠b.2:=by
   by_cases q:a.1=b.1
   ·refine .inr fun e=>h2 ?_
    cases a;cases b;simp at q e;rw[q,e]
   ·exact .inl q
  unfold Lex at h3 ⊢;omega
 ·have hf:∀ t∈fs,S (nm ks t.1)↔S (nm ks t.2):=fun t ht=>by
   have:=hS _ (hts.mem_iff.mpr (List.mem_map_of_mem ht));unfold ren at this
   revert this
   dsimp only;obtain⟨h0,h1,h2⟩:=hrng t ht;have c:nm ks t.1≠nm ks t.2:=fun e=>by have:=nm_inj hp h0 (by omega) (by omega) h2 e;omega
   split<;>split<;>intro q
   ·omega
   ·exact q.symm
   ·exact q
   ·omega
  have h0:∀ m:Nat,∀ k:Int,0≤k→k<n→k.toNat=m→(S (nm ks k)↔S (nm ks 0)):=by
   intro m;induction m using Nat.strongRecOn with
   | ind m ih =>
    intro k k0 k1 e;by_cases hk:k=0
    ·subst hk;exact Iff.rfl
    ·obtain⟨a,a0,a1,hm⟩:=hah k (by omega) k1;exact (hf _ hm).symm.trans (ih a.toNat (by omega) a a0 (by omega) rfl)
  intro u v u0 u1 v0 v1 su;obtain⟨u',p0,p1,rfl⟩:=nm_sur hp u0 u1;obtain⟨v',q0,q1,rfl⟩:=nm_sur hp v0 v1;exact (h0 _ v' q0 q1 rfl).mpr ((h0 _ u' p0 p1 rfl).mp su)
end
end L2
end
section
set_option Elab.async false
set_option linter.all false
set_option maxRecDepth 100000
namespace L2
open PySem
def nb (ts:List (Int×Int))(v:Int):List Int:=ts.filterMap fun t=>if t.1=v then some t.2 else if t.2=v then some t.1 else none
def rowsOf (n:Int)(ts:List (Int×Int)):List (List Int):=(List.range n.toNat).map fun (v:Nat)=>nb ts (v:Int)
structure RowsAt (H:Hp)(p:Addr)(as:List Addr)(rows:List (List Int)):Prop where
 top:H p=some (.lst (as.map V.ref))
 len:as.length=rows.length
 nd:as.Nodup
 np:p∉as
 row:∀ (i:Nat) a r,as[i]?=some a→rows[i]?=some r→H a=some (.lst (r.map V.int))
section
variable {H H':Hp}{p:Addr}{as:List Addr}{rows:List (List Int)}
theorem RowsAt.mono (h:RowsAt H p as rows)(k:∀ a o,a=p∨a∈as→H a=some o→H' a=some o):RowsAt H' p as rows :=
 ⟨k _ _ (.inl rfl) h.top,h.len,h.nd,h.np,fun i a r ha hr=>k _ _ (.inr (List.mem_of_getElem? ha)) (h.row i a r ha hr)⟩
theorem RowsAt.same (h:RowsAt H p as rows)(s:Same H H'):RowsAt H' p as rows:=h.mono fun a o _ e=>s a o e
theorem RowsAt.kp {d:Addr}(h:RowsAt H p as rows)(k:Kp d H H')(hp:d≠p)(ha:d∉as):RowsAt H' p as rows :=
 h.mono fun a o q e=>k a o (fun e2=>by subst e2;exact q.elim hp ha) e
theorem RowsAt.app (h:RowsAt H p as rows){i:Nat}{a:Addr}{r:List Int}(ha:as[i]?=some a)(hr:rows[i]?=some r)(x:Int):RowsAt (upd H a (.lst ((r++[x]).map V.int))) p as (rows.set i (r++[x])):=by
 have hpa:p≠a:=fun e=>h.np (by rw[e];exact List.mem_of_getElem? ha)
 refine⟨by rw[upd_ne hpa];exact h.top,by rw[List.length_set];exact h.len,h.nd,h.np,fun j b s hb hs=>?_⟩;by_cases e:j=i
 ·subst e;rw[ha] at hb;cases hb;rw[List.getElem?_set_self (List.getElem?_eq_some_iff.mp hr).1] at hs;cases hs;exact upd_same
 ·have hba:b≠a:=fun e2=>by
   subst e2;exact e ((List.getElem?_inj (List.getElem?_eq_some_iff.mp hb).1 h.nd).mp (by rw[hb,ha]))
  rw[List.getElem?_set_ne (Ne.symm e)] at hs;rw[upd_ne hba];exact h.row j b s hb hs
theorem RowsAt.snoc (h:RowsAt H p as rows){q:Addr}(hq:H q=none){r:List Int}:RowsAt (upd (upd H q (.lst (r.map V.int))) p (.lst ((as++[q]).map V.ref))) p (as++[q]) (rows++[r]):=by
 have hpq:p≠q:=ne_of_none h.top hq;have hqa:q∉as:=fun hm=>by
  obtain⟨i,hi,e⟩:=List.getElem_of_mem hm;have hi2:i<rows.length:=by have:=h.len;omega
  have:=h.row i q rows[i] (by rw[List.getElem?_eq_getElem hi,e]) (List.getElem?_eq_getElem hi2);rw[hq] at this;cases this
 refine⟨upd_same,by rw[List.length_append,List.length_append,h.len];rfl,?_,?_,?_⟩
 ·rw[List.nodup_append];exact⟨h.nd,by simp,fun a ha b hb e=>by simp at hb;subst hb;subst e;exact hqa ha⟩
 ·intro hm;rcases List.mem_append.mp hm with hm | hm
  ·exact h.np hm
  ·exact hpq (List.mem_singleton.mp hm)
 ·intro i a s ha hs;by_cases hi:i<as.length
  ·rw[List.getElem?_append_left hi] at ha;rw[List.getElem?_append_left (by rw[← h.len];exact hi)] at hs;have ham:=List.mem_of_getElem? ha;have h1:a≠p:=fun e=>by subst e;exact h.np ham
   have h2:a≠q:=fun e=>by subst e;exact hqa ham
   rw[upd_ne h1,upd_ne h2];exact h.row i a s ha hs
  ·rw[List.getElem?_append_right (by omega)] at ha;rw[List.getElem?_append_right (by rw[← h.len];omega)] at hs;have e0:i-as.length=0:=by
    have:=(List.getElem?_eq_some_iff.mp ha).1;simp at this;omega
   rw[e0] at ha;rw[← h.len,e0] at hs;cases ha;cases hs;rw[upd_ne hpq.symm,upd_same]
theorem RowsAt.nil (h:H p=some (.lst [])):RowsAt H p [] []:=⟨h,rfl,by simp,by simp,fun i a r ha=>by cases ha⟩
theorem RowsAt.get (h:RowsAt H p as rows){v:Int}(h0:0≤v){r:List Int}(hr:rows[v.toNat]?=some r):∃ a,as[v.toNat]?=some a∧atI (as.map V.ref) v=some (.ref a)∧H a=some (.lst (r.map V.int))∧a≠p:=by
 have hl:=(List.getElem?_eq_some_iff.mp hr).1;have hl2:v.toNat<as.length:=by have:=h.len;omega
 have ha:as[v.toNat]?=some as[v.toNat]:=List.getElem?_eq_getElem hl2;refine⟨_,ha,?_,h.row _ _ _ ha hr,fun e=>h.np (by rw[← e];exact List.mem_of_getElem? ha)⟩;have:=atI_nat (xs:=as.map V.ref) (j:=v.toNat) (v:=V.ref as[v.toNat]) (by rw[List.getElem?_map,ha];rfl);rw[Int.toNat_of_nonneg h0] at this;exact this
end
theorem rowsOf_get {n:Int}{ts:List (Int×Int)}{v:Int}(h0:0≤v)(h1:v<n):(rowsOf n ts)[v.toNat]?=some (nb ts v):=by
 unfold rowsOf;rw[List.getElem?_map,List.getElem?_range (by omega)];show some (nb ts ((v.toNat:Nat):Int))=_;rw[Int.toNat_of_nonneg h0]
theorem rowsOf_len (n:Int)(ts:List (Int×Int)):(rowsOf n ts).length=n.toNat:=by unfold rowsOf;simp
theorem nb_snoc (ts:List (Int×Int))(t:Int×Int)(v:Int):nb (ts++[t]) v=nb ts v++(if t.1=v then [t.2] else if t.2=v then [t.1] else []):=by
 unfold nb;rw[List.filterMap_append];congr 1;by_cases h1:t.1=v
 ·simp[h1]
 ·by_cases h2:t.2=v
  ·simp[h1,h2]
  ·simp[h1,h2]
theorem rowsOf_snoc {n:Int}{ts:List (Int×Int)}{t:Int×Int}(h0:0≤t.1)(h1:t.1<t.2)(h2:t.2<n) :
  rowsOf n (ts++[t])=((rowsOf n ts).set t.1.toNat (nb ts t.1++[t.2])).set t.2.toNat (nb ts t.2++[t.1]):=by
 refine List.ext_getElem? fun i=>?_
 by_cases hi:i<n.toNat
 ·have hl:∀ us:List (Int×Int),(rowsOf n us)[i]?=some (nb us (i:Int)):=fun us=>by
   have:=rowsOf_get (n:=n) (ts:=us) (v:=(i:Int)) (by omega) (by omega);simpa using this
  rw[hl,nb_snoc];by_cases e2:i=t.2.toNat
  ·subst e2;rw[List.getElem?_set_self (by rw[List.length_set,rowsOf_len];exact hi)];rw[Int.toNat_of_nonneg (by omega),if_neg (by omega),if_pos rfl]
  ·rw[List.getElem?_set_ne (Ne.symm e2)];by_cases e1:i=t.1.toNat
   ·subst e1;rw[List.getElem?_set_self (by rw[rowsOf_len];exact hi)];rw[Int.toNat_of_nonneg h0,if_pos rfl]
   ·rw[List.getElem?_set_ne (Ne.symm e1),hl,if_neg (by omega),if_neg (by omega),List.append_nil]
 ·rw[List.getElem?_eq_none (by rw[rowsOf_len];omega),List.getElem?_eq_none (by rw[List.length_set,List.length_set,rowsOf_len];omega)]
theorem mem_nb {ts:List (Int×Int)}{v x:Int}:x∈nb ts v↔(v,x)∈ts∨((x,v)∈ts)∧(x≠v∨(v,x)∈ts):=by
 unfold nb;rw[List.mem_filterMap];constructor
 ·rintro⟨t,ht,e⟩;obtain⟨a,b⟩:=t;dsimp only at e;split at e
  ·rename_i h;cases e;subst h;exact .inl ht
  ·rename_i h;split at e
   ·rename_i h2;cases e;subst h2;exact .inr ⟨ht,.inl h⟩
   ·cases e
 ·rintro (h | ⟨h,h'⟩)
  ·exact⟨_,h,by simp⟩
  ·rcases h' with h' | h'
   ·exact⟨_,h,by simp[h']⟩
   ·exact⟨_,h',by simp⟩
def TsOk (n:Int)(ts:List (Int×Int)):Prop:=∀ t∈ts,0≤t.1∧t.1<t.2∧t.2<n
theorem nb_sym {n:Int}{ts:List (Int×Int)}(h:TsOk n ts){v x:Int}:x∈nb ts v↔v∈nb ts x:=by
 rw[mem_nb,mem_nb];constructor
 ·rintro (q | ⟨q,q'⟩)
  ·exact .inr ⟨q,.inl (by have:=h _ q;dsimp only at this;omega)⟩
  ·exact .inl q
 ·rintro (q | ⟨q,q'⟩)
  ·exact .inr ⟨q,.inl (by have:=h _ q;dsimp only at this;omega)⟩
  ·exact .inl q
theorem nb_rng {n:Int}{ts:List (Int×Int)}(h:TsOk n ts){v x:Int}(hx:x∈nb ts v):0≤x∧x<n∧0≤v∧v<n∧x≠v:=by
 rcases mem_nb.mp hx with q | ⟨q,_⟩
 ·have:=h _ q;dsimp only at this;omega
 ·have:=h _ q;dsimp only at this;omega
theorem nb_lt {n:Int}{ts:List (Int×Int)}(h:TsOk n ts)(hs:ts.Pairwise Lex)(v:Int):(nb ts v).Pairwise (·<·):=by
 unfold nb;rw[List.pairwise_filterMap];refine List.Pairwise.imp_of_mem ?_ hs;intro a b ha hb hab x hx y hy;have h1:=h a ha;have h2:=h b hb;unfold Lex at hab;have cx:(a.1=v∧a.2=x)∨(a.2=v∧a.1=x):=by
  split at hx
  ·rename_i q;cases hx;exact .inl ⟨q,rfl⟩
  ·split at hx
   ·rename_i q;cases hx;exact .inr ⟨q,rfl⟩
   ·cases hx
 have cy:(b.1=v∧b.2=y)∨(b.2=v∧b.1=y):=by
  split at hy
  ·rename_i q;cases hy;exact .inl ⟨q,rfl⟩
  ·split at hy
   ·rename_i q;cases hy;exact .inr ⟨q,rfl⟩
   ·cases hy
 omega
theorem nb_len {ts:List (Int×Int)}(v:Int):(nb ts v).length≤ts.length:=by unfold nb;exact List.length_filterMap_le _ _
theorem sorted_self {l l':List Int}(p:l'.Perm l)(s:l'.Pairwise (·≤·))(h:l.Pairwise (·<·)):l'=l :=
 List.Perm.eq_of_pairwise (le:=(·≤·)) (fun _ _ _ _ a b=>Int.le_antisymm a b) s (h.imp fun a=>Int.le_of_lt a) p
theorem rising_ext {l l':List Int}(h:l.Pairwise (·<·))(h':l'.Pairwise (·<·))(e:∀ x,x∈l↔x∈l'):l=l':=by
 refine List.Perm.eq_of_pairwise (le:=(·<·)) (fun a b _ _ x y=>by omega) h h' ?_;refine (List.perm_ext_iff_of_nodup (h.imp fun x e=>by omega) (h'.imp fun x e=>by omega)).mpr e
structure FrAt (H Hc:Hp)(p:Addr)(as:List Addr)(rows:List (List Int)):Prop where
 same:Same H Hc
 np:H p=none
 na:∀ a∈as,H a=none
 rows:RowsAt Hc p as rows
theorem rowsOf_nil (n:Int):rowsOf n []=List.replicate n.toNat []:=by
 unfold rowsOf nb;refine List.ext_getElem? fun i=>?_
 by_cases h:i<n.toNat
 ·rw[List.getElem?_map,List.getElem?_range h,List.getElem?_replicate,if_pos h];rfl
 ·rw[List.getElem?_eq_none (by simp;omega),List.getElem?_eq_none (by simp;omega)]
theorem FrAt.step {H Hc:Hp}{p:Addr}{as:List Addr}{n:Int}{us:List (Int×Int)}{t:Int×Int}(h:FrAt H Hc p as (rowsOf n us))(h0:0≤t.1)(h1:t.1<t.2)(h2:t.2<n) :
  ∃ a1 a2,atI (as.map V.ref) t.1=some (.ref a1)∧Hc a1=some (.lst ((nb us t.1).map V.int))∧(upd Hc a1 (.lst ((nb us t.1).map V.int++[V.int t.2]))) p=some (.lst (as.map V.ref))∧atI (as.map V.ref) t.2=some (.ref a2) ∧
   (upd Hc a1 (.lst ((nb us t.1).map V.int++[V.int t.2]))) a2=some (.lst ((nb us t.2).map V.int)) ∧
   FrAt H (upd (upd Hc a1 (.lst ((nb us t.1).map V.int++[V.int t.2]))) a2 (.lst ((nb us t.2).map V.int++[V.int t.1]))) p as (rowsOf n (us++[t])):=by
 have g1:=rowsOf_get (n:=n) (ts:=us) h0 (show t.1<n by omega);have g2:=rowsOf_get (n:=n) (ts:=us) (show 0≤t.2 by omega) h2;obtain⟨a1,e1,r1,c1,p1⟩:=h.rows.get h0 g1;have R1:=h.rows.app e1 g1 t.2;have g2':((rowsOf n us).set t.1.toNat (nb us t.1++[t.2]))[t.2.toNat]?=some (nb us t.2):=by
  rw[List.getElem?_set_ne (by omega)];exact g2
 obtain⟨a2,e2,r2,c2,p2⟩:=R1.get (show 0≤t.2 by omega) g2';have R2:=R1.app e2 g2' t.1;rw[← rowsOf_snoc h0 h1 h2] at R2;rw[List.map_append] at R1 R2 c2;rw[List.map_append] at R2;refine⟨a1,a2,r1,c1,R1.top,r2,c2,?_,h.np,h.na,R2⟩;exact (h.same.upd (h.na _ (List.mem_of_getElem? e1))).upd (h.na _ (List.mem_of_getElem? e2))
def inv_rows1 (H:Hp)(p:Addr)(i:Nat)(τ:St)(Hc:Hp):Prop:=∃ (c:Option V) (as:List Addr),τ=[c]∧FrAt H Hc p as (List.replicate i [])
theorem TsAt.get {H:Hp}{q:Addr}{ts:List (Int×Int)}(h:TsAt H q ts):∃ xs,H q=some (.tup xs)∧xs.length=ts.length∧∀ (i:Nat) v,xs[i]?=some v→∃ a t,v=.ref a∧ts[i]?=some t∧H a=some (.tup [.int t.1,.int t.2]):=by
 obtain⟨ps,e,hp⟩:=h;exact⟨_,e,by rw[List.length_map];exact hp.len,fun i v hv=>hp.get hv⟩
def sp_nrows:Sp:=fun vs H Q _=>∃ (w:Addr) (n:Int) (ts:List (Int×Int)),vs=[.ref w]∧WebAt H w n ts∧0≤n∧n≤1000∧ts.length≤1000∧TsOk n ts ∧
 ∀ (p:Addr) (as:List Addr) (H':Hp),Same H H'→H p=none→(∀ a∈as,H a=none)→RowsAt H' p as (rowsOf n ts)→Q (.ref p) H'
def sp_near:Sp:=fun vs H Q _=>∃ (w:Addr) (n:Int) (ts:List (Int×Int)),vs=[.ref w]∧WebAt H w n ts∧0≤n∧n≤60∧ts.length≤1000∧TsOk n ts∧ts.Pairwise Lex ∧
 ∀ (p:Addr) (as:List Addr) (H':Hp),Same H H'→H p=none→(∀ a∈as,H a=none)→RowsAt H' p as (rowsOf n ts)→Q (.ref p) H'
end L2
end
section
set_option Elab.async false
set_option linter.all false
set_option maxRecDepth 100000
namespace L2
open PySem
theorem inV_int (x:Int)(us:List Int):inV (.int x) (us.map V.int)=decide (x∈us):=by
 unfold inV;induction us with
 | nil=>rfl
 | cons u r ih =>
  rw[List.map_cons,List.any_cons,ih];show (decide (u=x) || _)=_;by_cases h:u=x
  ·subst h;simp
  ·have h':¬ x=u:=fun e=>h e.symm
   simp[h,h']
theorem flat_ints (us:List Int):(us.map V.int).all flatV=true:=by
 rw[List.all_eq_true];intro v hv;obtain⟨u,_,rfl⟩:=List.mem_map.mp hv;rfl
section
variable {K:PySem.W.Frag}{H:Hp}{p:Addr}{us:List Int}{x:Int}{Q:VK}
theorem in_use (h:SqL K H p (us.map V.int)∨SqT K H p (us.map V.int))(q:Q (.bl (decide (x∈us))) H):rIn K false (.int x) (.ref p) H Q :=
 ⟨p,_,rfl,h,rfl,flat_ints us,by rw[inV_int];exact q⟩
theorem notin_use (h:SqL K H p (us.map V.int)∨SqT K H p (us.map V.int))(q:Q (.bl (!decide (x∈us))) H):rIn K true (.int x) (.ref p) H Q :=
 ⟨p,_,rfl,h,rfl,flat_ints us,by rw[inV_int];exact q⟩
end
def kvI (us:List Int):List (Key×V):=us.map fun x=>(Sum.inl x,V.bl true)
def addI (us:List Int)(x:Int):List Int:=if x∈us then us else us++[x]
theorem mem_addI {us:List Int}{x y:Int}:y∈addI us x↔y∈us∨y=x:=by
 unfold addI;split
 ·exact⟨.inl,fun h=>h.elim id fun e=>by subst e;assumption⟩
 ·simp
theorem nd_addI {us:List Int}{x:Int}(h:us.Nodup):(addI us x).Nodup:=by
 unfold addI;split
 ·exact h
 ·rename_i hn;rw[List.nodup_append];exact⟨h,by simp,fun a ha b hb e=>hn (by simp at hb;subst hb;subst e;exact ha)⟩
theorem len_addI {us:List Int}{x:Int}:(addI us x).length≤us.length+1:=by
 unfold addI;split<;>simp
theorem kvI_len (us:List Int):(kvI us).length=us.length:=by unfold kvI;simp
theorem key_inj {a b:Int}:(Sum.inl a:Key)=Sum.inl b↔a=b:=⟨fun e=>by injection e,fun e=>by rw[e]⟩
theorem put_kvI (us:List Int)(x:Int):putK (kvI us) (Sum.inl x) (V.bl true)=kvI (addI us x):=by
 unfold putK addI;by_cases h:x∈us
 ·have h1:((kvI us).any fun kv=>decide (kv.1=Sum.inl x))=true:=by
   rw[List.any_eq_true];exact⟨_,List.mem_map_of_mem h,by simp⟩
  rw[if_pos h1,if_pos h];unfold kvI;rw[List.map_map];refine List.map_congr_left fun t ht=>?_
  show (if _ then _ else _)=_;split<;>rfl
 ·have h1:¬ ((kvI us).any fun kv=>decide (kv.1=Sum.inl x))=true:=by
   rw[List.any_eq_true];rintro⟨kv,hk,e⟩;obtain⟨t,ht,rfl⟩:=List.mem_map.mp hk;have:=key_inj.mp (of_decide_eq_true e);subst this;exact h ht
  rw[if_neg h1,if_neg h];unfold kvI;rw[List.map_append];rfl
theorem val_kvI (us:List Int)(x:Int):(valV (kvI us) (Sum.inl x)).isSome=decide (x∈us):=by
 induction us with
 | nil=>rfl
 | cons u r ih =>
  unfold kvI at ih ⊢;rw[List.map_cons];by_cases h:u=x
  ·rw[valV_pos (key_inj.mpr h)];subst h;simp
  ·rw[valV_neg (fun e=>h (key_inj.mp e)),ih];have h':¬ x=u:=fun e=>h e.symm
   simp[h']
theorem kvI_small {us:List Int}(h:us.length≤100000):(kvI us).length<sizeLine:=by rw[kvI_len];exact sizeBig (by omega)
theorem nd_sub:∀ {us l:List Int},us.Nodup→us ⊆ l→us.length≤l.length
 | [],_,_,_=>Nat.zero_le _
 | x::r,l,hn,hs=>by
  have hx:x∈l:=hs (List.mem_cons_self ..);have hn':=List.nodup_cons.mp hn;have:=nd_sub (us:=r) (l:=l.erase x) hn'.2 (fun y hy=>(List.mem_erase_of_ne (fun e=>by subst e;exact hn'.1 hy)).mpr (hs (List.mem_cons_of_mem _ hy)));rw[List.length_erase_of_mem hx] at this;have:=List.length_pos_of_mem hx;rw[List.length_cons];omega
theorem nd_len {us:List Int}{n:Int}(hnd:us.Nodup)(h:∀ x∈us,0≤x∧x<n):us.length≤n.toNat:=by
 have hs:us ⊆ rInts 0 n.toNat:=fun x hx=>by
  obtain⟨h0,h1⟩:=h x hx;unfold rInts;exact List.mem_map.mpr ⟨x.toNat,List.mem_range.mpr (by omega),by omega⟩
 have:=nd_sub hnd hs;rw[rInts_length] at this;exact this
theorem rInts_lt (n:Nat):(rInts 0 n).Pairwise (·<·):=by
 unfold rInts;refine List.pairwise_map.mpr (List.pairwise_lt_range.imp ?_);intro a b h;omega
theorem mem_rInts {n:Nat}{x:Int}:x∈rInts 0 n↔0≤x∧x<n:=by
 unfold rInts;rw[List.mem_map];constructor
 ·rintro⟨i,hi,rfl⟩;have:=List.mem_range.mp hi;omega
 ·rintro⟨h0,h1⟩;exact⟨x.toNat,List.mem_range.mpr (by omega),by omega⟩
theorem rising_nd {l:List Int}(h:l.Pairwise (·<·)):l.Nodup:=h.imp fun x e=>by omega
theorem nb_64 {n:Int}{ts:List (Int×Int)}(h:TsOk n ts)(hs:ts.Pairwise Lex)(hn:n≤60)(v:Int):(nb ts v).length<63:=by
 have:=nd_len (rising_nd (nb_lt h hs v)) fun x hx=>⟨(nb_rng h hx).1,(nb_rng h hx).2.1⟩
 omega
end L2
end
section
set_option maxHeartbeats 8000000
local macro_rules | `(tactic| omega)=>`(tactic| first | lia | omega +splitDisjunctions)
set_option Elab.async false
set_option linter.all false
set_option maxRecDepth 100000
namespace STab
open PySem PySem.SetTable
def Ris (xs:Array Nat):Prop:=∀ i j (hi:i<xs.size) (hj:j<xs.size),i<j→xs[i]<xs[j]
theorem go_spec {xs:Array Nat}{j:Nat}(hr:Ris xs):∀ (fuel lo hi:Nat),lo≤hi→hi≤xs.size→hi-lo≤fuel →
  (∀ i (h:i<xs.size),i<lo→xs[i]<j)→(∀ i (h:i<xs.size),hi≤i→j≤xs[i]) →
  below.go xs j fuel lo hi≤xs.size∧(∀ i (h:i<xs.size),i<below.go xs j fuel lo hi→xs[i]<j)∧(∀ i (h:i<xs.size),below.go xs j fuel lo hi≤i→j≤xs[i])
 | 0,lo,hi,h1,h2,h3,h4,h5=>by
  have e:hi=lo:=by omega
  subst e;unfold below.go;exact⟨h2,h4,h5⟩
 | fuel+1,lo,hi,h1,h2,h3,h4,h5=>by
  unfold below.go;by_cases hlt:lo<hi
  ·rw[if_pos hlt];have hm:(lo+hi) / 2<xs.size:=by omega
   have hg:xs.getD ((lo+hi) / 2) j=xs[(lo+hi) / 2]:=by simp[Array.getD,hm]
   dsimp only;rw[hg];by_cases hc:xs[(lo+hi) / 2]<j
   ·rw[if_pos hc];refine go_spec hr fuel _ _ (by omega) h2 (by omega) (fun i h hi'=>?_) h5;by_cases he:i=(lo+hi) / 2
    ·subst he;exact hc
    ·exact Nat.lt_trans (hr i _ h hm (by omega)) hc
   ·rw[if_neg hc];refine go_spec hr fuel _ _ (by omega) (by omega) (by omega) h4 (fun i h hi'=>?_);by_cases he:i=(lo+hi) / 2
    ·subst he;omega
    ·have:=hr _ i hm h (by omega);omega
  ·rw[if_neg hlt];have e:hi=lo:=by omega
   subst e;exact⟨h2,h4,h5⟩
theorem below_spec {xs:Array Nat}(hr:Ris xs)(j:Nat):below xs j≤xs.size∧(∀ i (h:i<xs.size),i<below xs j→xs[i]<j)∧(∀ i (h:i<xs.size),below xs j≤i→j≤xs[i]):=by
 unfold below;exact go_spec hr _ _ _ (Nat.zero_le _) (Nat.le_refl _) (by omega) (fun i h hi=>absurd hi (Nat.not_lt_zero _)) (fun i h hi=>absurd h (Nat.not_lt.mpr hi))
theorem below_at {xs:Array Nat}(hr:Ris xs){i:Nat}(hi:i<xs.size):below xs xs[i]=i:=by
 obtain⟨h1,h2,h3⟩:=below_spec hr xs[i];rcases Nat.lt_trichotomy (below xs xs[i]) i with h | h | h
 ·have:=h3 (below xs xs[i]) (by omega) (Nat.le_refl _);have:=hr _ i (by omega) hi h;omega
 ·exact h
 ·have:=h2 i hi h;omega
theorem below_next {xs:Array Nat}(hr:Ris xs){i:Nat}(hi:i<xs.size):below xs (xs[i]+1)=i+1:=by
 obtain⟨h1,h2,h3⟩:=below_spec hr (xs[i]+1);rcases Nat.lt_trichotomy (below xs (xs[i]+1)) (i+1) with h | h | h
 ·have:=h3 i hi (by omega);omega
 ·exact h
 ·have:=h2 (i+1) (by omega) h;have:=hr i (i+1) hi (by omega) (by omega);omega
theorem below_zero {xs:Array Nat}(hr:Ris xs):below xs 0=0:=by
 obtain⟨h1,h2,h3⟩:=below_spec hr 0;rcases Nat.eq_zero_or_pos (below xs 0) with h | h
 ·exact h
 ·have:=h2 0 (by omega) h;omega
theorem has_none (j:Nat):has #[] j=false:=by
 unfold has;simp
theorem slot_live {t:SetTable}{j i:Nat}(h:t.slot j=.live i):t.place[i]?=some j:=by
 unfold slot at h;dsimp only at h;split at h
 ·rename_i hc;injection h with h
  subst h;simpa using hc
 ·split at h<;>exact Slot.noConfusion h
theorem slot_dummy {t:SetTable}{j:Nat}(hd:t.dummies=#[]):t.slot j≠.dummy:=by
 intro h;unfold slot at h;dsimp only at h;rw[hd,has_none] at h;split at h
 ·exact Slot.noConfusion h
 ·simp at h
theorem slot_empty {t:SetTable}{j:Nat}(hr:Ris t.place)(h:t.slot j=.empty):j∉t.place.toList:=by
 intro hm;obtain⟨i,hi,e⟩:=List.getElem_of_mem hm;have hi':i<t.place.size:=by simpa using hi
 have e':t.place[i]=j:=by simpa using e
 have hb:=below_at hr hi';rw[e'] at hb;unfold slot at h;dsimp only at h;rw[hb,Array.getElem?_eq_getElem hi',e'] at h;simp at h
theorem slot_free {t:SetTable}{j:Nat}(hd:t.dummies=#[])(h:j∉t.place.toList):t.slot j=.empty:=by
 cases hs:t.slot j with
 | empty=>rfl
 | dummy=>exact absurd hs (slot_dummy hd)
 | live i =>
  have:=slot_live hs;exact absurd (by rw[← Array.getElem?_toList] at this;exact List.mem_of_getElem? this) h
theorem ris_of {xs:Array Nat}(h:xs.toList.Pairwise (·<·)):Ris xs:=by
 intro i j hi hj hij;have:=List.pairwise_iff_getElem.mp h i j (by simpa using hi) (by simpa using hj) hij;simpa using this
theorem of_ris {xs:Array Nat}(h:Ris xs):xs.toList.Pairwise (·<·):=by
 refine List.pairwise_iff_getElem.mpr fun i j hi hj hij=>?_
 have:=h i j (by simpa using hi) (by simpa using hj) hij;simpa using this
theorem ris_put {xs:Array Nat}{j:Nat}(hr:Ris xs)(hn:j∉xs.toList):Ris (insertAt xs (below xs j) j):=by
 obtain⟨h1,h2,h3⟩:=below_spec hr j;refine ris_of ?_;rw[toList_insertAt];have hp:=of_ris hr;have hlo:∀ x∈xs.toList.take (below xs j),x<j:=by
  intro x hx;obtain⟨i,hi,e⟩:=List.getElem_of_mem hx;have hi2:i<below xs j∧i<xs.size:=by simp at hi;omega
  have:=h2 i hi2.2 hi2.1;simp at e;rw[← e];exact this
 have hhi:∀ x∈xs.toList.drop (below xs j),j<x:=by
  intro x hx;have hxm:x∈xs.toList:=List.mem_of_mem_drop hx;obtain⟨i,hi,e⟩:=List.getElem_of_mem hx;have hi2:below xs j+i<xs.size:=by simp at hi;omega
  have:=h3 (below xs j+i) hi2 (by omega);simp at e;rw[e] at this;have:j≠x:=fun e=>hn (e ▸ hxm)
  omega
 refine List.pairwise_append.mpr ⟨hp.sublist (List.take_sublist _ _),List.pairwise_cons.mpr ⟨hhi,hp.sublist (List.drop_sublist _ _)⟩,?_⟩;intro a ha b hb;rcases List.mem_cons.mp hb with rfl | hb
 ·exact hlo a ha
 ·exact Nat.lt_trans (hlo a ha) (hhi b hb)
def f5 (N i:Nat):Nat:=(i*5+1) % N
def it5 (N:Nat):Nat→Nat→Nat
 | 0,i=>i
 | n+1,i=>it5 N n (f5 N i)
theorem it5_add (N:Nat):∀ (m n i:Nat),it5 N (m+n) i=it5 N n (it5 N m i)
 | 0,n,i=>by rw[Nat.zero_add];rfl
 | m+1,n,i=>by rw[Nat.succ_add];show it5 N (m+n) (f5 N i)=it5 N n (it5 N m (f5 N i));exact it5_add N m n _
def orb (N:Nat):Nat→Nat→List Nat
 | 0,_=>[]
 | n+1,i=>i::orb N n (f5 N i)
theorem orb_mem (N:Nat):∀ (n i r:Nat),r∈orb N n i→∃ k,k<n∧it5 N k i=r
 | 0,_,_,h=>by simp[orb] at h
 | n+1,i,r,h=>by
  rcases List.mem_cons.mp h with rfl | h
  ·exact⟨0,Nat.succ_pos _,rfl⟩
  ·obtain⟨k,hk,e⟩:=orb_mem N n _ r h;exact⟨k+1,Nat.succ_lt_succ hk,e⟩
structure Full (N:Nat):Prop where
 all:∀ r,r<N→r∈orb N N 0
 back:it5 N N 0=0
theorem full_of {N:Nat}(h1:(List.range N).all (fun r=>(orb N N 0).contains r)=true)(h2:(it5 N N 0 == 0)=true):Full N :=
 ⟨fun r hr=>by have:=List.all_eq_true.mp h1 r (List.mem_range.mpr hr);simpa using this,by simpa using h2⟩
theorem full8:Full 8:=full_of (by decide +kernel) (by decide +kernel)
theorem full32:Full 32:=full_of (by decide +kernel) (by decide +kernel)
theorem full128:Full 128:=full_of (by decide +kernel) (by decide +kernel)
theorem full512:Full 512:=full_of (by decide +kernel) (by decide +kernel)
theorem Full.hit {N:Nat}(F:Full N){i r:Nat}(hi:i<N)(hr:r<N):∃ k,k<N∧it5 N k i=r:=by
 obtain⟨m,hm,em⟩:=orb_mem N N 0 i (F.all i hi);obtain⟨n,hn,en⟩:=orb_mem N N 0 r (F.all r hr);by_cases hmn:m≤n
 ·refine⟨n-m,by omega,?_⟩;have:=it5_add N m (n-m) 0;rw[em,show m+(n-m)=n by omega,en] at this;exact this.symm
 ·refine⟨N-m+n,by omega,?_⟩;have h1:=it5_add N m (N-m) 0;rw[em,show m+(N-m)=N by omega,F.back] at h1;rw[it5_add,← h1,en]
def leaps (mask:Nat):Nat→Nat×Nat→Nat×Nat
 | 0,p=>p
 | n+1,p=>leaps mask n (leap mask p.1 p.2)
theorem leaps_add (mask:Nat):∀ (m n:Nat) (p:Nat×Nat),leaps mask (m+n) p=leaps mask n (leaps mask m p)
 | 0,n,p=>by rw[Nat.zero_add];rfl
 | m+1,n,p=>by rw[Nat.succ_add];show leaps mask (m+n) _=leaps mask n (leaps mask m _);exact leaps_add mask m n _
theorem leaps_snd (mask:Nat):∀ (n:Nat) (p:Nat×Nat),(leaps mask n p).2=p.2 / 32 ^ n
 | 0,p=>by simp[leaps]
 | n+1,p=>by
  show (leaps mask n (leap mask p.1 p.2)).2=_;rw[leaps_snd];show p.2 / 32 / 32 ^ n=_;rw[Nat.div_div_eq_div_mul,Nat.pow_succ,Nat.mul_comm]
theorem leaps_fst (mask:Nat):∀ (n:Nat) (p:Nat×Nat),p.1≤mask→(leaps mask n p).1≤mask
 | 0,p,h=>h
 | n+1,p,h=>leaps_fst mask n _ (Nat.le_of_lt_succ (Nat.mod_lt (p.1*5+1+p.2 / 32) (Nat.succ_pos mask)))
theorem leaps_zero (mask:Nat):∀ (n i:Nat),leaps mask n (i,0)=(it5 (mask+1) n i,0)
 | 0,i=>rfl
 | n+1,i=>by
  show leaps mask n (leap mask i 0)=_;have:leap mask i 0=(f5 (mask+1) i,0):=by simp[leap,f5]
  rw[this,leaps_zero];rfl
theorem leaps_hit {mask:Nat}(F:Full (mask+1)){i perturb r:Nat}(hi:i≤mask)(hp:perturb<2 ^ 64)(hr:r≤mask):∃ n,n<mask+14∧(leaps mask n (i,perturb)).1=r:=by
 have h2:(leaps mask 13 (i,perturb)).2=0:=by
  rw[leaps_snd];exact Nat.div_eq_of_lt (Nat.lt_of_lt_of_le hp (by decide))
 have h1:=leaps_fst mask 13 (i,perturb) hi;have e:leaps mask 13 (i,perturb)=((leaps mask 13 (i,perturb)).1,0):=by rw[← h2]
 obtain⟨k,hk,ek⟩:=F.hit (i:=(leaps mask 13 (i,perturb)).1) (r:=r) (by omega) (by omega);refine⟨13+k,by omega,?_⟩;rw[leaps_add,e,leaps_zero];exact ek
def adv (t:SetTable):Nat→Probe→Probe
 | 0,p=>p
 | n+1,p=>adv t n (t.advance p)
theorem adv_add (t:SetTable):∀ (m n:Nat) (p:Probe),adv t (m+n) p=adv t n (adv t m p)
 | 0,n,p=>by rw[Nat.zero_add];rfl
 | m+1,n,p=>by rw[Nat.succ_add];show adv t (m+n) _=adv t n (adv t m _);exact adv_add t m n _
structure Good (t:SetTable)(p:Probe):Prop where
 i:p.i≤t.mask
 j:p.j+p.more≤t.mask
 more:p.more≤9
 perturb:p.perturb<2 ^ 64
 dummy:p.dummy=none
theorem runEnd_le {mask i:Nat}(h:i≤mask):i≤runEnd mask i∧runEnd mask i≤mask∧runEnd mask i-i≤9:=by
 unfold runEnd;split<;>omega
theorem Good.advance {t:SetTable}{p:Probe}(g:Good t p):Good t (t.advance p):=by
 obtain⟨h1,h2,h3,h4,h5⟩:=g;unfold SetTable.advance;split
 ·exact⟨h1,by simp only;omega,by simp only;omega,h4,h5⟩
 ·have hm:(leap t.mask p.i p.perturb).1≤t.mask:=Nat.le_of_lt_succ (Nat.mod_lt (p.i*5+1+p.perturb / 32) (Nat.succ_pos t.mask));have hr:=runEnd_le hm;have hp:(leap t.mask p.i p.perturb).2<2 ^ 64:=Nat.lt_of_le_of_lt (Nat.div_le_self _ _) h4;exact⟨hm,by simp only;omega,by simp only;omega,hp,h5⟩
theorem good_start (t:SetTable)(h:Int):Good t (t.probeStart h):=by
 have hm:bits h % (t.mask+1)≤t.mask:=Nat.le_of_lt_succ (Nat.mod_lt (bits h) (Nat.succ_pos t.mask));have hr:=runEnd_le hm;refine⟨hm,by simp only[probeStart];omega,by simp only[probeStart];omega,?_,rfl⟩;show bits h<2 ^ 64;unfold bits;have h1:=Int.emod_nonneg h (show (2 ^ 64:Int)≠0 by decide);have h2:=Int.emod_lt_of_pos h (show (0:Int)<2 ^ 64 by decide);have h3:(2 ^ 64:Int)=((2 ^ 64:Nat):Int):=by norm_cast
 omega
theorem to_leap (t:SetTable):∀ (m:Nat) (p:Probe),p.more=m→∃ q,adv t (m+1) p=q∧q.j=(leap t.mask p.i p.perturb).1∧q.i=(leap t.mask p.i p.perturb).1∧q.perturb=(leap t.mask p.i p.perturb).2
 | 0,p,h=>by
  refine⟨_,rfl,?_⟩;show (t.advance p).j=_∧(t.advance p).i=_∧(t.advance p).perturb=_;unfold SetTable.advance;rw[if_neg (by omega)];exact⟨rfl,rfl,rfl⟩
 | m+1,p,h=>by
  have e:t.advance p={p with j:=p.j+1,more:=p.more-1}:=by unfold SetTable.advance;rw[if_pos (by omega)]
  show ∃ q,adv t (m+1) (t.advance p)=q∧_;rw[e];exact to_leap t m {p with j:=p.j+1,more:=p.more-1} (by simp only;omega)
theorem Good.adv {t:SetTable}:∀ (n:Nat) {p:Probe},Good t p→Good t (STab.adv t n p)
 | 0,_,g=>g
 | n+1,_,g=>Good.adv n g.advance
theorem to_leaps (t:SetTable):∀ (n:Nat) (p:Probe),Good t p→p.j=p.i→∃ m,m≤10*n∧(adv t m p).j=(leaps t.mask n (p.i,p.perturb)).1
 | 0,p,_,h=>⟨0,Nat.le_refl _,h⟩
 | n+1,p,g,_=>by
  obtain⟨q,hq,h1,h2,h3⟩:=to_leap t p.more p rfl;have gq:Good t q:=hq ▸ g.adv _;obtain⟨m,hm,e⟩:=to_leaps t n q gq (h1.trans h2.symm);refine⟨p.more+1+m,by have:=g.more;omega,?_⟩;rw[adv_add,hq,e,h2,h3];rfl
theorem start_head (t:SetTable)(h:Int):(t.probeStart h).j=(t.probeStart h).i:=rfl
theorem start_hit {t:SetTable}(F:Full (t.mask+1))(h:Int){r:Nat}(hr:r≤t.mask):∃ n,n<10*turns t.mask∧(adv t n (t.probeStart h)).j=r:=by
 have g:=good_start t h;obtain⟨n,hn,e⟩:=leaps_hit F g.i g.perturb hr;obtain⟨m,hm,e'⟩:=to_leaps t n _ g (start_head t h);refine⟨m,by unfold turns;omega,e'.trans e⟩
theorem probe_go {t:SetTable}{hashAt:Nat→Int}{h:Int}(hd:t.dummies=#[]):∀ (fuel:Nat) (p:Probe) (n:Nat),Good t p→n<fuel→t.slot (adv t n p).j=.empty →
    ∃ k,k≤n∧(∀ k',k'<k→∃ i,t.slot (adv t k' p).j=.live i∧hashAt i≠h) ∧
      ((t.slot (adv t k p).j=.empty∧probe.go t hashAt h fuel p=some (.empty (adv t k p).j none)) ∨
       ∃ i,t.slot (adv t k p).j=.live i∧hashAt i=h∧probe.go t hashAt h fuel p=some (.candidate (adv t k p).j i (t.advance (adv t k p))))
  | 0,p,n,_,hn,_=>absurd hn (Nat.not_lt_zero _)
  | fuel+1,p,n,g,hn,he=>by
    cases hs:t.slot p.j with
    | empty =>
      refine⟨0,Nat.zero_le _,fun k' hk=>absurd hk (Nat.not_lt_zero _),.inl ⟨hs,?_⟩⟩;unfold probe.go;rw[hs];dsimp only;rw[g.dummy];rfl
    | dummy=>exact absurd hs (slot_dummy hd)
    | live i =>
      by_cases hi:hashAt i=h
      · refine⟨0,Nat.zero_le _,fun k' hk=>absurd hk (Nat.not_lt_zero _),.inr ⟨i,hs,hi,?_⟩⟩
        unfold probe.go;rw[hs];dsimp only;rw[if_pos (by simpa using hi)];rfl
      · cases n with
        | zero=>exact absurd (hs.symm.trans he) (by simp)
        | succ n =>
          obtain⟨k,hk,hb,hr⟩:=probe_go hd fuel (t.advance p) n g.advance (by omega) he;refine⟨k+1,by omega,fun k' hk'=>?_,?_⟩
          · cases k' with
            | zero=>exact⟨i,hs,hi⟩
            | succ k'=>exact hb k' (by omega)
          · have e:probe.go t hashAt h (fuel+1) p=probe.go t hashAt h fuel (t.advance p):=by
              rw[probe.go];rw[hs];dsimp only;rw[if_neg (by simpa using hi)]
            rw[e];exact hr
theorem nat_sub:∀ {us l:List Nat},us.Nodup→us ⊆ l→us.length≤l.length
 | [],_,_,_=>Nat.zero_le _
 | x::r,l,hn,hs=>by
  have hx:x∈l:=hs (List.mem_cons_self ..);have hn':=List.nodup_cons.mp hn;have:=nat_sub (us:=r) (l:=l.erase x) hn'.2 (fun y hy=>(List.mem_erase_of_ne (fun e=>by subst e;exact hn'.1 hy)).mpr (hs (List.mem_cons_of_mem _ hy)));rw[List.length_erase_of_mem hx] at this;have:=List.length_pos_of_mem hx;rw[List.length_cons];omega
theorem some_free {N:Nat}{xs:List Nat}(h:xs.length<N):∃ r,r<N∧r∉xs:=by
 apply Classical.byContradiction;intro hn;have hall:∀ r,r∈List.range N→r∈xs:=fun r hr=>Classical.byContradiction fun hx=>hn ⟨r,List.mem_range.mp hr,hx⟩
 have:(List.range N).length≤xs.length:=by
  exact nat_sub List.nodup_range hall
 simp at this;omega
structure Ok (t:SetTable)(n:Nat)(led:Bool):Prop where
 ris:Ris t.place
 dum:t.dummies=#[]
 size:t.place.size=n
 inn:∀ x∈t.place.toList,x≤t.mask
 full:Full (t.mask+1)
 plain:t.plain=true
 led:t.led=led
 room:n*5<t.mask*3
 mask:t.mask=7∨t.mask=31∨t.mask=127∨t.mask=511
theorem ok_fresh (led:Bool):Ok (.fresh 0 0 led) 0 led :=
 ⟨fun i j hi=>absurd hi (Nat.not_lt_zero _),rfl,rfl,fun x h=>by simp[SetTable.fresh] at h,full8,rfl,rfl,(by show 0*5<7*3;decide),.inl rfl⟩
theorem Ok.fill {t:SetTable}{n:Nat}{led:Bool}(o:Ok t n led):t.fill=n:=by unfold SetTable.fill;rw[o.dum,o.size];rfl
theorem Ok.fits {t:SetTable}{n:Nat}{led:Bool}(o:Ok t n led):t.fits n=true:=by
 unfold SetTable.fits;rw[o.fill,o.size];have:=o.room;simp;omega
theorem Ok.hole {t:SetTable}{n:Nat}{led:Bool}(o:Ok t n led):∃ r,r≤t.mask∧t.slot r=.empty:=by
 obtain⟨r,hr,hn⟩:=some_free (N:=t.mask+1) (xs:=t.place.toList) (by have:=o.room;have:=o.size;simp;omega);exact⟨r,by omega,slot_free o.dum hn⟩
theorem Ok.probe {t:SetTable}{n:Nat}{led:Bool}(o:Ok t n led)(hashAt:Nat→Int)(h:Int) :
    ∃ k,(∀ k',k'<k→∃ i,t.slot (adv t k' (t.probeStart h)).j=.live i∧hashAt i≠h) ∧
      ((t.slot (adv t k (t.probeStart h)).j=.empty∧t.probe hashAt h (t.probeStart h)=some (.empty (adv t k (t.probeStart h)).j none)) ∨
       ∃ i,t.slot (adv t k (t.probeStart h)).j=.live i∧hashAt i=h∧t.probe hashAt h (t.probeStart h)=some (.candidate (adv t k (t.probeStart h)).j i (t.advance (adv t k (t.probeStart h))))):=by
  obtain⟨r,hr,he⟩:=o.hole;obtain⟨n,hn,en⟩:=start_hit o.full h hr;obtain⟨k,hk,hb,hx⟩:=probe_go (hashAt:=hashAt) (h:=h) o.dum (10*turns t.mask) (t.probeStart h) n (good_start t h) hn (en ▸ he);exact⟨k,hb,hx⟩
structure Ok1 (t:SetTable)(n:Nat)(led:Bool):Prop where
 ris:Ris t.place
 dum:t.dummies=#[]
 size:t.place.size=n
 inn:∀ x∈t.place.toList,x≤t.mask
 full:Full (t.mask+1)
 plain:t.plain=true
 led:t.led=led
 mask:t.mask=7∨t.mask=31∨t.mask=127∨t.mask=511
 le:n≤t.mask
 last:(n-1)*5<t.mask*3
theorem Ok1.fits {t:SetTable}{n:Nat}{led:Bool}(o:Ok1 t n led):t.fits n=true:=by
 unfold SetTable.fits SetTable.fill;rw[o.dum,o.size];have:=o.le;simp;omega
theorem Ok.put {t:SetTable}{n:Nat}{led:Bool}(o:Ok t n led){j:Nat}(hj:t.slot j=.empty)(hm:j≤t.mask):Ok1 (t.put j).1 (n+1) led:=by
 have hn:=slot_empty o.ris hj;have hd:(t.put j).1.dummies=#[]:=by
  show (if has t.dummies j then eraseAt t.dummies (below t.dummies j) else t.dummies)=#[];rw[o.dum,has_none];rfl
 have hr:=o.room;refine⟨ris_put o.ris hn,hd,?_,?_,o.full,o.plain,o.led,o.mask,?_,?_⟩
 ·show (insertAt t.place (below t.place j) j).size=n+1;rw[← Array.length_toList,(insertAt_perm _ _ _).length_eq];simp[o.size]
 ·intro x hx;have hx':x∈(insertAt t.place (below t.place j) j).toList:=hx;have:=(insertAt_perm t.place (below t.place j) j).mem_iff.mp hx';simp at this;rcases this with h | rfl
  ·exact o.inn x (by simpa using h)
  ·exact hm
 ·show n+1≤t.mask;rcases o.mask with h | h | h | h<;>omega
 ·show (n+1-1)*5<t.mask*3;simpa using hr
theorem Ok1.ok {t:SetTable}{n:Nat}{led:Bool}(o:Ok1 t n led)(h:t.tooFull=false):Ok t n led:=by
 have hf:t.fill=n:=by unfold SetTable.fill;rw[o.dum,o.size];rfl
 refine⟨o.ris,o.dum,o.size,o.inn,o.full,o.plain,o.led,?_,o.mask⟩;unfold SetTable.tooFull at h;rw[hf] at h;simpa using h
theorem layNew_ok {t:SetTable}{es:Array (Int×Value)}{led:Bool}(o:Ok t es.size led)(h:Int)(x:Value) :
  ∃ es' t',layNew t es h x=(es',t',false,false)∧Ok1 t' es'.size led∧es'.toList.Perm (es.push (h,x)).toList∧es'.size=es.size+1:=by
 obtain⟨k,_,hk⟩:=o.probe (fun _=>h+1) h;have hp:=layNew_perm t es h x;rcases hk with ⟨he,hpr⟩ | ⟨i,_,hi,_⟩
 ·have hf:t.freeSlot h=some ((adv t k (t.probeStart h)).j,false):=by
   unfold SetTable.freeSlot;rw[hpr];rfl
  have hj:(adv t k (t.probeStart h)).j≤t.mask:=by have:=((good_start t h).adv k).j;omega
  have hok:=o.put he hj;have hsz:(insertAt es (t.put (adv t k (t.probeStart h)).j).2 (h,x)).size=es.size+1:=by
   rw[← Array.length_toList,(insertAt_perm _ _ _).length_eq];simp
  have hfit:(t.put (adv t k (t.probeStart h)).j).1.fits (es.size+1)=true:=hok.fits;have hl:layNew t es h x=(insertAt es (t.put (adv t k (t.probeStart h)).j).2 (h,x),(t.put (adv t k (t.probeStart h)).j).1,false,false):=by
   unfold layNew;rw[hf];dsimp only;unfold SetTable.orStandIn;rw[hsz,hfit];rfl
  refine⟨_,_,hl,hsz.symm ▸ hok,?_,hsz⟩;rw[hl] at hp;exact hp
 ·omega
theorem free_some {mask:Nat}{owner:Array (Option Nat)}:∀ (fuel i perturb n:Nat),i≤mask→n<fuel→owner.getD (leaps mask n (i,perturb)).1 (some 0)=none →
  ∃ j,layClean.free mask owner fuel i perturb=some j∧owner.getD j (some 0)=none
 | 0,_,_,_,_,hn,_=>absurd hn (Nat.not_lt_zero _)
 | fuel+1,i,perturb,n,hi,hn,he=>by
  unfold layClean.free;cases hf:(List.range (runEnd mask i+1-i)).find? (fun k=>(owner.getD (i+k) (some 0)).isNone) with
  | some k =>
   have:=List.find?_some hf;exact⟨i+k,rfl,by simpa using this⟩
  | none =>
   cases n with
   | zero =>
    have h1:=List.find?_eq_none.mp hf 0 (List.mem_range.mpr (by have:=runEnd_le hi;omega));have he':owner.getD i (some 0)=none:=he;rw[Nat.add_zero,he'] at h1;exact absurd rfl h1
   | succ n =>
    exact free_some fuel _ _ n (leaps_fst mask 1 (i,perturb) hi) (by omega) he
def own (N:Nat)(owner:Array (Option Nat)):List Nat:=(List.range N).filterMap fun j=>owner.getD j none
theorem filterMap_len {α β:Type}{f:α→Option β}:∀ {l:List α},(∀ x∈l,(f x).isSome=true)→(l.filterMap f).length=l.length
 | [],_=>rfl
 | x::l,h=>by
  obtain⟨y,hy⟩:=Option.isSome_iff_exists.mp (h x (List.mem_cons_self ..));rw[List.filterMap_cons_some hy,List.length_cons,List.length_cons,filterMap_len fun z hz=>h z (List.mem_cons_of_mem _ hz)]
theorem fm_congr {α β:Type}{f g:α→Option β}:∀ {l:List α},(∀ x∈l,g x=f x)→l.filterMap g=l.filterMap f
 | [],_=>rfl
 | x::l,h=>by
  have ih:=fm_congr (l:=l) fun y hy=>h y (List.mem_cons_of_mem _ hy)
  rw[List.filterMap_cons,List.filterMap_cons,h x (List.mem_cons_self ..),ih]
theorem filterMap_put {α:Type}{f g:Nat→Option α}{j:Nat}{k:α}:∀ {l:List Nat},l.Nodup→j∈l→f j=none→g j=some k→(∀ x,x≠j→g x=f x)→(l.filterMap g).Perm (k::l.filterMap f)
 | [],_,hj,_,_,_=>by simp at hj
 | x::l,hn,hj,hf,hg,he=>by
  have hn':=List.nodup_cons.mp hn;by_cases hx:x=j
  ·subst hx;rw[List.filterMap_cons_some hg,List.filterMap_cons_none hf];have:l.filterMap g=l.filterMap f:=fm_congr fun y hy=>he y fun e=>hn'.1 (e ▸ hy)
   rw[this]
  ·have hj':j∈l:=(List.mem_cons.mp hj).resolve_left fun e=>hx e.symm
   have ih:=filterMap_put hn'.2 hj' hf hg he;cases hfx:f x with
   | none=>rw[List.filterMap_cons_none hfx,List.filterMap_cons_none ((he x hx).trans hfx)];exact ih
   | some y =>
    rw[List.filterMap_cons_some hfx,List.filterMap_cons_some ((he x hx).trans hfx)];exact (ih.cons y).trans (List.Perm.swap ..)
theorem getD_free {owner:Array (Option Nat)}{j:Nat}(h:owner.getD j (some 0)=none):j<owner.size∧owner.getD j none=none:=by
 by_cases hj:j<owner.size
 ·refine⟨hj,?_⟩;simp[Array.getD,hj] at h ⊢;exact h
 ·simp[Array.getD,hj] at h
def layF (mask:Nat):Option (Array (Option Nat)×Nat)→Int→Option (Array (Option Nat)×Nat):=fun acc h=>do
  let (owner,k) ← acc
  let j ← layClean.free mask owner (turns mask) (bits h % (mask+1)) (bits h)
  pure (owner.setIfInBounds j (some k),k+1)
theorem layF_fold {mask:Nat}(F:Full (mask+1)):∀ (hs:List Int) (owner:Array (Option Nat)) (k:Nat),owner.size=mask+1→(own (mask+1) owner).Perm (List.range k)→k+hs.length≤mask →
  ∃ owner',hs.foldl (layF mask) (some (owner,k))=some (owner',k+hs.length)∧owner'.size=mask+1∧(own (mask+1) owner').Perm (List.range (k+hs.length))
 | [],owner,k,h1,h2,_=>⟨owner,rfl,h1,h2⟩
 | h::hs,owner,k,h1,h2,h3=>by
  rw[List.length_cons] at h3;have hole:∃ r,r≤mask∧owner.getD r (some 0)=none:=by
   apply Classical.byContradiction;intro hn;have:(own (mask+1) owner).length=mask+1:=by
    unfold own;rw[filterMap_len,List.length_range];intro x hx;have hx':x<owner.size:=by rw[h1];exact List.mem_range.mp hx
    have hx2:x≤mask:=by rw[h1] at hx';omega
    cases hg:owner.getD x none with
    | some y=>rfl
    | none =>
     refine absurd ⟨x,hx2,?_⟩ hn;simp[Array.getD,hx'] at hg ⊢;exact hg
   rw[h2.length_eq,List.length_range] at this;omega
  obtain⟨r,hr,er⟩:=hole;have hb:bits h % (mask+1)≤mask:=Nat.le_of_lt_succ (Nat.mod_lt (bits h) (Nat.succ_pos mask));have hp:bits h<2 ^ 64:=(good_start {mask:=mask,place:=#[],dummies:=#[],finger:=0,led:=true,moves:=0,plain:=true} h).perturb;obtain⟨n,hn,en⟩:=leaps_hit F hb hp hr;obtain⟨j,hj,ej⟩:=free_some (owner:=owner) (turns mask) _ (bits h) n hb (by unfold turns;omega) (by rw[en];exact er);obtain⟨hjs,hjn⟩:=getD_free ej;have hstep:layF mask (some (owner,k)) h=some (owner.setIfInBounds j (some k),k+1):=by
   show (do let j ← layClean.free mask owner (turns mask) (bits h % (mask+1)) (bits h);pure (owner.setIfInBounds j (some k),k+1))=_;rw[hj];rfl
  rw[List.foldl_cons,hstep];have hown:(own (mask+1) (owner.setIfInBounds j (some k))).Perm (List.range (k+1)):=by
   refine List.Perm.trans (filterMap_put (j:=j) (k:=k) (f:=fun j=>owner.getD j none) List.nodup_range (List.mem_range.mpr (h1 ▸ hjs)) hjn ?_ ?_) ?_
   ·simp[Array.getD,hjs]
   ·intro x hx;by_cases hxs:x<owner.size
    ·simp[Array.getD,hxs,Array.getElem_setIfInBounds,Ne.symm hx]
    ·simp[Array.getD,hxs]
   ·rw[show List.range (k+1)=List.range k++[k] from List.range_succ];exact (h2.cons k).trans (List.perm_append_singleton k _).symm
  obtain⟨o',e',s',p'⟩:=layF_fold F hs (owner.setIfInBounds j (some k)) (k+1) (by simpa using h1) hown (by omega);refine⟨o',?_,s',?_⟩
  ·rw[e',List.length_cons,show k+1+hs.length=k+(hs.length+1) by omega]
  ·rw[List.length_cons,show k+(hs.length+1)=k+1+hs.length by omega];exact p'
theorem layClean_ok {mask:Nat}(F:Full (mask+1))(hs:Array Int)(h:hs.size≤mask):∃ owner,layClean mask hs=some owner∧owner.size=mask+1∧(own (mask+1) owner).Perm (List.range hs.size):=by
 have h0:(own (mask+1) (Array.replicate (mask+1) none)).Perm (List.range 0):=by
  have:own (mask+1) (Array.replicate (mask+1) none)=[]:=by
   unfold own;refine List.filterMap_eq_nil_iff.mpr fun x hx=>?_
   have:x<mask+1:=List.mem_range.mp hx;simp[Array.getD,this]
  rw[this];exact .nil
 obtain⟨o,e,s,p⟩:=layF_fold F hs.toList (Array.replicate (mask+1) none) 0 (by simp) h0 (by simpa using h);rw[Nat.zero_add,Array.length_toList] at e p;refine⟨o,?_,s,p⟩;unfold layClean;have:hs.foldl (layF mask) (some (Array.replicate (mask+1) none,0))=some (o,hs.size):=by rw[← Array.foldl_toList];exact e
 show (hs.foldl (layF mask) (some (Array.replicate (mask+1) none,0))).map (·.1)=some o;rw[this];rfl
theorem filterMap_pairs {owner:Array (Option Nat)}:∀ l:List Nat,((l.filterMap fun j=>(owner.getD j none).map (j,·)).map (·.2))=l.filterMap fun j=>owner.getD j none
 | []=>rfl
 | x::l=>by
  cases h:owner.getD x none with
  | none=>rw[List.filterMap_cons_none (by rw[h];rfl),List.filterMap_cons_none (f:=fun j=>owner.getD j none) h];exact filterMap_pairs l
  | some y=>rw[List.filterMap_cons_some (b:=(x,y)) (by rw[h];rfl),List.filterMap_cons_some (f:=fun j=>owner.getD j none) h,List.map_cons,filterMap_pairs l]
theorem pairs_fst {owner:Array (Option Nat)}:∀ {l:List Nat},l.Pairwise (·<·)→((l.filterMap fun j=>(owner.getD j none).map (j,·)).map (·.1)).Pairwise (·<·)∧∀ x∈(l.filterMap fun j=>(owner.getD j none).map (j,·)).map (·.1),x∈l
 | [],_=>⟨.nil,fun x h=>h⟩
 | x::l,h=>by
  obtain⟨h1,h2⟩:=List.pairwise_cons.mp h;obtain⟨i1,i2⟩:=pairs_fst (owner:=owner) h2;cases hg:owner.getD x none with
  | none =>
   rw[List.filterMap_cons_none (by rw[hg];rfl)];exact⟨i1,fun y hy=>List.mem_cons_of_mem _ (i2 y hy)⟩
  | some y =>
   rw[List.filterMap_cons_some (b:=(x,y)) (by rw[hg];rfl),List.map_cons];refine⟨List.pairwise_cons.mpr ⟨fun z hz=>h1 z (i2 z hz),i1⟩,fun z hz=>?_⟩;rcases List.mem_cons.mp hz with rfl | hz
   ·exact List.mem_cons_self ..
   ·exact List.mem_cons_of_mem _ (i2 z hz)
theorem range_rising (n:Nat):(List.range n).Pairwise (·<·):=List.pairwise_lt_range
theorem relay_ok {t:SetTable}{es:Array (Int×Value)}{n:Nat}{led:Bool}(o:Ok1 t n led)(hes:es.size=n)(hf:t.tooFull=true)(hn:n≤300) :
  ∃ es' t',relayAll t es (grown es.size)=(es',t',false)∧Ok t' n led∧es'.toList.Perm es.toList:=by
 have hfill:t.fill=n:=by unfold SetTable.fill;rw[o.dum,o.size];rfl
 have hg:∃ M,sizeAbove (grown es.size)-1=M∧Full (M+1)∧n*5<M*3∧(M=7∨M=31∨M=127∨M=511):=by
  have h1:=o.last;unfold SetTable.tooFull at hf;rw[hfill] at hf;have hf':t.mask*3≤n*5:=by simpa using hf
  rw[hes];rcases o.mask with h | h | h | h
  ·have:n=5:=by omega
   subst this;exact⟨31,by decide +kernel,full32,by decide,by decide⟩
  ·have:n=19:=by omega
   subst this;exact⟨127,by decide +kernel,full128,by decide,by decide⟩
  ·have:n=77:=by omega
   subst this;exact⟨511,by decide +kernel,full512,by decide,by decide⟩
  ·omega
 obtain⟨M,hM,hF,hroom,hmask⟩:=hg;have hp:=relayAll_perm t es (grown es.size);obtain⟨owner,ho,hs,hperm⟩:=layClean_ok hF (es.map (·.1)) (by rw[Array.size_map,hes];omega);rw[Array.size_map,hes] at hperm
 let live:=(List.range (M+1)).filterMap fun j=>(owner.getD j none).map (j,·)
 have hlive2:(live.map (·.2)).Perm (List.range n):=by rw[show live.map (·.2)=own (M+1) owner from filterMap_pairs _];exact hperm
 obtain⟨hl1,hl2⟩:=pairs_fst (owner:=owner) (range_rising (M+1));have hlen:(live.map (·.1)).length=n:=by rw[List.length_map,← List.length_map (f:=(·.2)) (as:=live),hlive2.length_eq,List.length_range]
 let t':SetTable:={mask:=M,place:=(live.map (·.1)).toArray,dummies:=#[],finger:=t.finger,led:=t.led,moves:=t.movedTo M,plain:=t.plain}
 have hr:t.relaid (es.map (·.1)) (grown es.size)=some (t',(live.map (·.2)).toArray):=by
  unfold SetTable.relaid SetTable.laid;rw[hM,ho];rfl
 have hok:Ok t' n led:=⟨ris_of (show (live.map (·.1)).Pairwise (·<·) from hl1),rfl,by simpa [t'] using hlen,fun x hx=>by
  have:x∈live.map (·.1):=by simpa [t'] using hx
  have:=List.mem_range.mp (hl2 x this);show x≤M;omega,hF,o.plain,o.led,hroom,hmask⟩
 have hcov:coversAll (live.map (·.2)).toArray es.size=true:=by
  unfold coversAll;rw[hes];exact List.isPerm_iff.mpr (by simpa using hlive2)
 have hsz:((live.map (·.2)).toArray.filterMap (es[·]?)).size=n:=by
  rw[← Array.length_toList,Array.toList_filterMap];have:=(hlive2.filterMap (fun i=>es[i]?)).length_eq;rw[show (live.map (·.2)).toArray.toList=live.map (·.2) by simp,this,← hes,filterMap_getElem?_range,Array.length_toList]
 have hall:relayAll t es (grown es.size)=((live.map (·.2)).toArray.filterMap (es[·]?),t',false):=by
  unfold relayAll;rw[hr];dsimp only;rw[hcov,hsz,hok.fits];rfl
 refine⟨_,_,hall,hok,?_⟩;rw[hall] at hp;exact hp
end STab
end
section
set_option Elab.async false
set_option linter.all false
set_option maxRecDepth 100000
namespace Srt
open PySem PyProof.Rows
section
variable {prog:Program}{w:World}{A:Around}{E:Value→Shared→Prop}{s:Shared}
def BagAt (h:Heap)(a:Addr)(es:Array (Int×Value))(ep:Nat)(t:SetTable)(led:Bool):Prop:=∃ o,h.get? a=some o∧o.ExactSet∧o.data=.set es ep t∧STab.Ok t es.size led
theorem BagAt.keep {h h':Heap}{a:Addr}{es:Array (Int×Value)}{ep:Nat}{t:SetTable}{led:Bool}(b:BagAt h a es ep t led)(k:∀ o,h.get? a=some o→h'.get? a=some o):BagAt h' a es ep t led:=let ⟨o,ho,q⟩:=b;⟨o,k _ ho,q⟩
theorem BagAt.typeIs {a:Addr}{es:Array (Int×Value)}{ep:Nat}{t:SetTable}{led:Bool}(b:BagAt s.heap a es ep t led):s.TypeIs (.ref a) "set":=let ⟨o,ho,hx,_⟩:=b;⟨o,ho,hx.1⟩
theorem bag_store {h:Heap}{a:Addr}{o:Obj}{es es':Array (Int×Value)}{ep:Nat}{t t':SetTable}(ho:h.get? a=some o)(hx:o.ExactSet)(hd:o.data=.set es ep t) :
  ∃ o',(h.update a (Obj.putSet es' t')).get? a=some o'∧o'.ExactSet∧o'.data=.set es' (ep+1) t':=by
 have e:=putSet_of es' t' hd;refine⟨{o with data:=.set es' (ep+1) t'},?_,hx,rfl⟩;have hg:=Heap.get?_update_self (Obj.putSet es' t') ho (by rw[e];rfl);rw[hg,e]
def BagI (prog:Program)(w:World)(h:Heap)(a:Addr)(ms:List Int)(led:Bool):Prop:=∃ es ep t,BagAt h a es ep t led∧ElemsOf (intKind prog w) es.toList∧(es.toList.map fun e=>intKey e.2).Perm ms
theorem bagI_size {h:Heap}{a:Addr}{ms:List Int}{es:Array (Int×Value)}(hp:(es.toList.map fun e=>intKey e.2).Perm ms):es.size=ms.length:=by
 have:=hp.length_eq;simpa using this
theorem is_key {x:Value}{k:Int}(h:(intKind prog w).is k x=true):intKey x=k:=by
 obtain⟨t,rfl⟩:=Value.isInt_shape h;rfl
theorem bagI_add {a:Addr}{ms:List Int}{led:Bool}{k:Int}{tk:Nat}{Q:Bool→Shared→Prop}(B:BagI prog w s.heap a ms led)(hz:ms.length<300)
  (h:∀ (h':Heap) (b:Bool),Heap.SameBut a s.heap h'→BagI prog w h' a (if k∈ms then ms else k::ms) led→Q b {s with heap:=h'}) :
  wpAny (model prog w) A (setAddHashed a (.int k tk) (hashInt k)) Q E s:=by
 obtain⟨es,ep,t,⟨o,ho,hx,hd,hok⟩,hel,hp⟩:=id B;have hsz:=bagI_size (h:=s.heap) (a:=a) hp;have hbd:es.size<scanBound:=by unfold scanBound;omega
 have hkey:(intKind prog w).is k (.int k tk)=true:=intKind_is _ _ _ _;unfold setAddHashed setAddHashedIn;refine wpAny_holding (wpAny_bind (wpAny_setState_of ho hd hok.fits ?_));dsimp only;rw[byScan_of (show (Value.int k tk).scannable=true from rfl) hbd hel,if_pos rfl];unfold setAddByScan;refine wpAny_bind (wpAny_bind (wpAny_rule (wpAny_bind (wpAny_setScan_of (knd:=intKind prog w) hkey ho hd hok.fits hel ?_))));cases hr:List.findIdx? (fun e=>(intKind prog w).is k e.2) es.toList with
 | some j =>
  obtain⟨hj,hpj,_⟩:=List.findIdx?_eq_some_iff_getElem.mp hr;have hm:k∈ms:=hp.mem_iff.mp (List.mem_map.mpr ⟨es.toList[j],List.getElem_mem hj,is_key hpj⟩);refine wpAny_pure (wpAny_pure ?_);have:=h s.heap false (Heap.SameBut.refl a s.heap);rw[if_pos hm] at this;exact this B
 | none =>
  have hm:k∉ms:=fun hk=>by
   obtain⟨e,he,hq⟩:=List.mem_map.mp (hp.mem_iff.mpr hk);obtain⟨⟨k',hk',_⟩,_⟩:=hel e he;have e1:=is_key hk';have:=List.findIdx?_eq_none_iff.mp hr e he;rw[← hq,e1,hk'] at this;exact Bool.noConfusion this
  rw[if_neg hm] at h;obtain⟨es1,t1,hl,ok1,hp1,hs1⟩:=STab.layNew_ok hok (hashInt k) (.int k tk);dsimp only;rw[show layNew t es (hashInt k) (.int k tk)=(es1,t1,false,false) from hl];dsimp only;refine wpAny_bind (wpAny_pure ?_);rw[if_pos ok1.plain,hashByValue_scannable 8 (show (Value.int k tk).scannable=true from rfl)];refine wpAny_bind (wpAny_pure ?_);rw[show (if plainKind (.int k tk)=true then t1 else {t1 with plain:=false})=t1 from rfl];have hel1:ElemsOf (intKind prog w) es1.toList:=(ElemsOf.push hel hkey rfl).perm (by rw[← Array.toList_push];exact hp1);have hk1:(es1.toList.map fun e=>intKey e.2).Perm (k::ms):=by
   refine (hp1.map _).trans ?_;rw[Array.toList_push,List.map_append];exact (List.perm_append_singleton k _).trans (hp.cons k)
  refine wpAny_bind (wpAny_storeSet_of ho hd ?_ (fits_of_scanBound (by rw[hs1];unfold scanBound;omega)));obtain⟨o1,ho1,hx1,hd1⟩:=bag_store (es':=es1) (t':=t1) ho hx hd;have hb1:=Heap.SameBut.update s.heap a (Obj.putSet es1 t1);by_cases hf:t1.tooFull=true
  ·rw[hf,if_pos (show (!false && true)=true from rfl)];obtain⟨es2,t2,h2,ok2,hp2⟩:=STab.relay_ok (es:=es1) ok1 rfl hf (by omega);have hs2:es2.size=es1.size:=by rw[← Array.length_toList,hp2.length_eq,Array.length_toList]
   rw[h2];dsimp only;refine wpAny_bind (wpAny_pure (wpAny_bind (wpAny_storeSet_of (s:={s with heap:=s.heap.update a (Obj.putSet es1 t1)}) ho1 hd1 ?_ (fits_of_scanBound (by rw[hs2,hs1];unfold scanBound;omega)))));obtain⟨o2,ho2,hx2,hd2⟩:=bag_store (es':=es2) (t':=t2) ho1 hx1 hd1;exact wpAny_pure (wpAny_pure (h _ true (hb1.trans (Heap.SameBut.update _ a _)) ⟨es2,_,t2,⟨o2,ho2,hx2,hd2,hs2.symm ▸ ok2⟩,hel1.perm hp2,(hp2.map _).trans hk1⟩))
  ·rw[Bool.not_eq_true] at hf;rw[hf,if_neg (by decide)];exact wpAny_pure (wpAny_pure (h _ true hb1 ⟨es1,_,t1,⟨o1,ho1,hx1,hd1,ok1.ok hf⟩,hel1,hk1⟩))
theorem bag_loop {I S:Addr}{fp wr:List Addr}{n:Nat}{P:Nat→Value→Prop}{St:Nat→Heap→Prop}{R:Result→Shared→Prop}(W:Walks prog w A.in1 I fp wr n P St)(hSf:S∉fp)(Sd:Nat→Heap→Prop)
  (hkeep:∀ i h h',Sd i h→(∀ b o,b∉wr→h.get? b=some o→h'.get? b=some o)→Sd i h')
  (hadd:∀ (i:Nat) (v:Value) (s:Shared) (E:Value→Shared→Prop) (Q:Bool→Shared→Prop),i<n→P i v→Sd i s.heap→(∀ h' tk b,Heap.SameBut S s.heap h'→Sd (i+1) h'→Q b {s with heap:=h',toks:=tk})→wpAny (model prog w) A.in1 (setAdd S v) Q E s) :
  ∀ (k i:Nat) (s:Shared),n-i=k→i≤n→St i s.heap→Sd i s.heap →
   (∀ h' tk,(∀ b o,b∉S::wr→s.heap.get? b=some o→h'.get? b=some o)→Sd n h'→R (.ok (.ret .none)) {s with heap:=h',toks:=tk}) →
   codeAny (model prog w) A (.builtin "set.update.loop" ⟨[.ref S,.ref I],[]⟩) R s:=by
 have hSw:S∉wr:=fun h=>hSf (W.sub _ h)
 intro k;induction k with
 | zero =>
  intro i s hk hi hst hS hR;obtain rfl:i=n:=by omega
  refine codeAny_builtin F.entry_set_update_loop ?_;rw[Around.under_plainId F.plain_set_update_loop _];show wpAny _ A.in1 (pyNext (.ref I) >>= _) _ _ s;refine wpAny_bind (W.done s _ _ hst fun h' tk hm=>wpAny_pure (hR h' tk (fun b o hb e=>hm b o (fun hw=>hb (List.mem_cons_of_mem _ hw)) e) (hkeep _ _ _ hS hm)))
 | succ k ih =>
  intro i s hk hi hst hS hR;have hlt:i<n:=by omega
  refine codeAny_builtin F.entry_set_update_loop ?_;rw[Around.under_plainId F.plain_set_update_loop _];show wpAny _ A.in1 (pyNext (.ref I) >>= _) _ _ s;refine wpAny_bind (W.item i s _ _ hlt hst fun v h1 tk1 hP hst1 hm1=>?_);show wpAny _ A.in1 (holding [v] (setAdd S v) >>= _) _ _ _;refine wpAny_bind (wpAny_holding (hadd i v _ _ _ hlt hP (hkeep _ _ _ hS hm1) fun h2 tk2 b hsb hS2=>?_));refine wpAny_pure ⟨plainId_quiet F.plain_set_update_loop _,ih (i+1) _ (by omega) hlt (W.frame _ _ _ hst1 fun b hb o e=>?_) hS2 fun h3 tk3 hm3 hS3=>hR h3 tk3 (fun b o hb e=>?_) hS3⟩
  ·show h2.get? b=some o;rw[hsb.2 b (fun hb':b=S=>hSf (hb' ▸ hb))];exact e
  ·refine hm3 b o hb ?_;show h2.get? b=some o;rw[hsb.2 b (fun hb':b=S=>hb (hb' ▸ List.mem_cons_self ..))];exact hm1 b o (fun hw=>hb (List.mem_cons_of_mem _ hw)) e
def ledOf (w:World):Bool:=!w.params.followText "set-order"
def freshSet (w:World):Obj:={cls:=.type "set",dict:=none,data:=.set #[] 0 (.fresh 0 0 (ledOf w))}
theorem bag_fresh {h:Heap}{a:Addr}(ho:h.get? a=some (freshSet w)):BagI prog w h a [] (ledOf w) :=
 ⟨#[],0,_,⟨_,ho,⟨rfl,rfl,rfl⟩,rfl,STab.ok_fresh _⟩,(fun e he=>by simp at he),.nil⟩
theorem set_new (a:Value){Q₁:Value→Shared→Prop}(h:Q₁ (.ref s.heap.objs.size) {s with heap:=s.heap.push (freshSet w)}) :
  codeAny (model prog w) A (.call (.builtin "set.__new__") ⟨[.type "set",a],[]⟩) (wants Q₁ E) s:=by
 refine codeAny_of_tree ?_;show wpAny _ A.in1 (checkBuiltinCall "set.__new__" ⟨[.type "set",a],[]⟩ >>= fun _=>again (.builtin "set.__new__" ⟨[.type "set",a],[]⟩)) _ _ s;refine wpAny_bind (wpAny_of_eq (PySem.F.newCall_set_1 a) (wpAny_pure ⟨plainId_quiet PySem.F.plain_set_new _,codeAny_builtin PySem.F.entry_set_new ?_⟩));rw[Around.under_plainId PySem.F.plain_set_new _];unfold Builtin.«set.__new__» Builtin.Frozenset.newClass;have hsub:=PySem.sub_set_self;obtain⟨hp,g,d,tk,os⟩:=s;dsimp only
 wp_walk
 refine wpAny_askSetting (wpAny_pure ?_);dsimp only;simp only[newObj];exact wpAny_bind (wpAny_alloc (wpAny_pure (wpAny_pure h)))
structure SetSrc (prog:Program)(w:World)(h₀:Heap)(l:Addr)(c:String)(n:Nat)(P:Nat→Value→Prop):Prop where
 typ:∃ o,h₀.get? l=some o∧o.cls=.type c
 sub1:isSubtype (.type c) (.type "set")=pure false
 sub2:isSubtype (.type c) (.type "frozenset")=pure false
 ne:(Value.type c == Value.type "dict")=false
 iter:∀ (A:Around) (s:Shared),(∀ b o,h₀.get? b=some o→s.heap.get? b=some o)→∃ (oI:Obj) (St:Nat→Heap→Prop),
  (∀ (E:Value→Shared→Prop) (Q:Value→Shared→Prop),Q (.ref s.heap.objs.size) {s with heap:=s.heap.push oI}→wpAny (model prog w) A (pyIter (.ref l)) Q E s) ∧
  (∀ A':Around,A'.handled=none→Walks prog w A' s.heap.objs.size [s.heap.objs.size,l] [s.heap.objs.size] n P St)∧St 0 (s.heap.push oI)
end
end Srt
end
section
set_option Elab.async false
set_option linter.all false
set_option maxRecDepth 100000
namespace Srt
open PySem PyProof.Rows
section
variable {prog:Program}{w:World}{A:Around}{E:Value→Shared→Prop}{s:Shared}
set_option maxHeartbeats 3200000 in
theorem call_bag {l:Addr}{c:String}{n:Nat}{P:Nat→Value→Prop}{Q:Value→Shared→Prop}(hh:A.handled=none)(src:SetSrc prog w s.heap l c n P)(Sd:Nat→Heap→Prop)
  (hkeep:∀ i h h',Sd i h→(∀ b o,b≤s.heap.objs.size→h.get? b=some o→h'.get? b=some o)→Sd i h')
  (hadd:∀ (i:Nat) (v:Value) (s':Shared) (E:Value→Shared→Prop) (Q:Bool→Shared→Prop),i<n→P i v→Sd i s'.heap→(∀ h' tk b,Heap.SameBut s.heap.objs.size s'.heap h'→Sd (i+1) h'→Q b {s' with heap:=h',toks:=tk})→wpAny (model prog w) A.in1.in1.in1 (setAdd s.heap.objs.size v) Q E s')
  (h0:∀ h',h'.get? s.heap.objs.size=some (freshSet w)→(∀ b o,s.heap.get? b=some o→h'.get? b=some o)→Sd 0 h')
  (h:∀ (h':Heap) (tk:Nat),(∀ b o,s.heap.get? b=some o→h'.get? b=some o)→Sd n h'→Q (.ref s.heap.objs.size) {s with heap:=h',toks:=tk}) :
  wpAny (model prog w) A (call (.type "set") [.ref l]) Q E s:=by
 obtain⟨c0,tl,hmro⟩:=PySem.F.called_set.mro;have hmade:=PySem.F.called_set.made;have hsub:=PySem.F.called_set.sub;refine wpAny_call (codeAny_of_tree ?_);show wpAny _ _ (callAny (.type "set") _) _ _ _;refine wpAny_pure ⟨Code.quiet_builtin _ (by decide +kernel),codeAny_builtin F.entry_type_call ?_⟩;rw[Around.under_plain (weight_type_call_type "set" [.ref l] []) rfl];have h1:=PySem.F.called_set.notType;have h2:=PySem.F.called_set.canCreate;have hct:=PySem.F.typeCall_set_1 (.ref l);repeat (any_goals (first | assumption | wp_step))
 obtain⟨led,hled⟩:∃ led,led=ledOf w:=⟨_,rfl⟩
 refine codeAny_mono (set_new (.ref l) (E:=E) (Q₁:=fun obj s₁=>obj=.ref s.heap.objs.size∧s₁={s with heap:=s.heap.push {cls:=.type "set",dict:=none,data:=.set #[] 0 (.fresh 0 0 led)}}) ⟨rfl,by rw[hled];rfl⟩) fun r s₁ hr=>?_
 cases r with
 | error e=>exact hr
 | ok fl =>
  cases fl with
  | ret obj =>
   obtain⟨rfl,rfl⟩:=hr;have hS:(s.heap.push ({cls:=.type "set",dict:=none,data:=.set #[] 0 (.fresh 0 0 led)})).get? s.heap.objs.size=some ({cls:=.type "set",dict:=none,data:=.set #[] 0 (.fresh 0 0 led)}):=Heap.get?_push_size _ rfl;have hT:Shared.TypeIs {s with heap:=s.heap.push ({cls:=.type "set",dict:=none,data:=.set #[] 0 (.fresh 0 0 led)})} (.ref s.heap.objs.size) "set":=⟨_,hS,rfl⟩
   have hli:=PySem.F.called_set.init.lookup;have hbi:=PySem.F.called_set.init.bind (.ref s.heap.objs.size);repeat (any_goals (first | assumption | wp_step))
   refine codeAny_mono (codeAny_call_builtin (R:=wants (fun r s₂=>r=.none∧∃ h' tk,s₂={s with heap:=h',toks:=tk}∧Sd n h'∧(∀ b o,s.heap.get? b=some o→h'.get? b=some o)) E) PySem.F.called_set.init.plain PySem.F.entry_set_init (check_set_init_1 hT ?_)) fun r₂ s₂ hr₂=>?_
   ·obtain⟨ol,hol,hcl⟩:=src.typ;have hlS:l<s.heap.objs.size:=Heap.lt_size hol;obtain⟨ocls,odict,odata,oslots⟩:=ol;simp only at hcl;subst hcl;have hol':(s.heap.push ({cls:=.type "set",dict:=none,data:=.set #[] 0 (.fresh 0 0 led)})).get? l=some {cls:=.type c,dict:=odict,data:=odata,slots:=oslots}:=Heap.get?_push_of_some _ hol;have hsls:=src.sub1;have hslf:=src.sub2;have hne:=src.ne;obtain⟨oI,St,hit,W,st⟩:=src.iter A.in1.in1 {s with heap:=s.heap.push ({cls:=.type "set",dict:=none,data:=.set #[] 0 (.fresh 0 0 led)})} fun b o e=>Heap.get?_push_of_some _ e
    unfold Builtin.«set.__init__» noKeywords Builtin.Frozenset.updateFrom;generalize hPI:pyIter=PI
    wp_walk
    subst hPI;refine hit _ _ (wpAny_bind (wpAny_runValue ?_));have hsp:(s.heap.push {cls:=.type "set",dict:=none,data:=.set #[] 0 (.fresh 0 0 led)}).objs.size=s.heap.objs.size+1:=Heap.size_push ..;refine bag_loop (W _ (by simp[hh])) (S:=s.heap.objs.size) ?_ Sd (fun i h1 h2 hs hk=>hkeep i h1 h2 hs fun b o hb e=>hk b o ?_ e) hadd (n-0) 0 _ (by omega) (Nat.zero_le _) st (h0 _ ?_ ?_) fun h' tk hm hS'=>?_
    ·show s.heap.objs.size∉[(s.heap.push {cls:=.type "set",dict:=none,data:=.set #[] 0 (.fresh 0 0 led)}).objs.size,l];rw[hsp];simp only[List.mem_cons,List.not_mem_nil,or_false,not_or];exact⟨Nat.ne_of_lt (Nat.lt_succ_self _),Nat.ne_of_gt hlS⟩
    ·show b∉[(s.heap.push {cls:=.type "set",dict:=none,data:=.set #[] 0 (.fresh 0 0 led)}).objs.size];rw[hsp,List.mem_singleton];omega
    ·rw[show freshSet w={cls:=.type "set",dict:=none,data:=.set #[] 0 (.fresh 0 0 led)} from by rw[hled];rfl];exact Heap.get?_push_of_some _ hS
    ·exact fun b o e=>Heap.get?_push_of_some _ (Heap.get?_push_of_some _ e)
    ·show wpAny _ _ _ _ _ _;refine wpAny_pure ?_;show wpAny _ _ (ret Value.none) _ _ _;refine wpAny_pure ⟨rfl,h',tk,rfl,hS',fun b o e=>hm b o ?_ (Heap.get?_push_of_some _ (Heap.get?_push_of_some _ e))⟩;have hb:b<s.heap.objs.size:=Heap.lt_size e;show b∉[s.heap.objs.size,(s.heap.push {cls:=.type "set",dict:=none,data:=.set #[] 0 (.fresh 0 0 led)}).objs.size];rw[hsp];simp only[List.mem_cons,List.not_mem_nil,or_false,not_or];exact⟨Nat.ne_of_lt hb,Nat.ne_of_lt (Nat.lt_succ_of_lt hb)⟩
   ·cases r₂ with
    | error e=>exact hr₂
    | ok fl₂ =>
     cases fl₂ with
     | ret r =>
      obtain⟨rfl,h',tk,rfl,hS',hk'⟩:=hr₂;repeat (any_goals (first | assumption | wp_step))
      exact h _ _ hk' hS'
     | _=>exact hr₂.elim
  | _=>exact hr.elim
end
end Srt
end
section
set_option Elab.async false
set_option linter.all false
set_option maxRecDepth 100000
namespace Srt
open PySem PyProof.Rows
theorem ow_si:Manifest.owners.lookup (String.ofList ['r','o','t','a','r','e','t','i','_','t','e','s'].reverse)=some Manifest.sig_set_iterator:=by kernel_rfl
theorem sl_si_next:Slot "set_iterator" "__next__" "set_iterator.__next__":=.of (owner:="set_iterator") (n:="__next__") (by rw[typeLookup_type,builtinLookup_eq_fast];kernel_rfl) (by decide +kernel) (by decide +kernel) (by decide +kernel) (by first | exact .inl (by decide +kernel) | exact .inr (by decide +kernel)) (by rw[isSubtype_type];kernel_rfl)
theorem sl_si_iter:Slot "set_iterator" "__iter__" "set_iterator.__iter__":=.of (owner:="set_iterator") (n:="__iter__") (by rw[typeLookup_type,builtinLookup_eq_fast];kernel_rfl) (by decide +kernel) (by decide +kernel) (by decide +kernel) (by first | exact .inl (by decide +kernel) | exact .inr (by decide +kernel)) (by rw[isSubtype_type];kernel_rfl)
theorem en_si_next:entryFor table "set_iterator.__next__"=some Builtin.«set_iterator.__next__»:=entryFor_of_tree (by kernel_rfl)
theorem ar_si_next (a:Value):argsOk "set_iterator.__next__" ⟨[a],[]⟩:=by unfold argsOk;rw[signature?_of (id:="set_iterator.__next__") (n:=['_','_','t','x','e','n','_','_']) (o:=['r','o','t','a','r','e','t','i','_','t','e','s']) (by kernel_rfl) ow_si];kernel_rfl
theorem ar_si_iter (a:Value):argsOk "set_iterator.__iter__" ⟨[a],[]⟩:=by unfold argsOk;rw[signature?_of (id:="set_iterator.__iter__") (n:=['_','_','r','e','t','i','_','_']) (o:=['r','o','t','a','r','e','t','i','_','t','e','s']) (by kernel_rfl) ow_si];kernel_rfl
theorem en_set_iter:entryFor table "set.__iter__"=some Builtin.«frozenset.__iter__»:=entryFor_alias (id':="frozenset.__iter__") (by kernel_rfl) rfl (by decide +kernel) (by kernel_rfl)
end Srt
namespace Srt
open PySem PyProof.Rows
theorem en_si_iter:entryFor table "set_iterator.__iter__"=some Builtin.«dict_keyiterator.__iter__»:=entryFor_alias (id':="dict_keyiterator.__iter__") (by kernel_rfl) rfl (by decide +kernel) (by kernel_rfl)
theorem erase_perm {α:Type}:∀ {l:List α} {i:Nat} (h:i<l.length),(l[i]::l.eraseIdx i).Perm l
 | [],i,h=>absurd h (Nat.not_lt_zero _)
 | x::l,0,_=>.rfl
 | x::l,i+1,h=>(List.Perm.swap ..).trans ((erase_perm (l:=l) (i:=i) (Nat.lt_of_succ_lt_succ h)).cons x)
theorem pick_go {α:Type}{next:Nat→Nat}:∀ (fuel k:Nat) (left:List α) (out:Array α),left.length≤fuel→(pickOrder.go next fuel k left out).toList.Perm (out.toList++left)
 | 0,k,left,out,h=>by
  obtain rfl:left=[]:=List.eq_nil_of_length_eq_zero (by omega);simp[pickOrder.go]
 | fuel+1,k,left,out,h=>by
  unfold pickOrder.go;cases left with
  | nil=>simp
  | cons y r =>
   have hlt:next k % (y::r).length<(y::r).length:=Nat.mod_lt _ (by simp)
   rw[List.getElem?_eq_getElem hlt];dsimp only;refine (pick_go fuel (k+1) _ _ (by rw[List.length_eraseIdx_of_lt hlt];omega)).trans ?_;rw[Array.toList_push,List.append_assoc];exact (erase_perm hlt).append_left _
theorem pick_perm {α:Type}(next:Nat→Nat)(xs:Array α):(pickOrder next xs).toList.Perm xs.toList:=by
 have:=pick_go (next:=next) xs.size 0 xs.toList #[] (by simp);simpa [pickOrder] using this
def ordOf (w:World)(a:Addr)(ep:Nat)(es:Array (Int×Value)):Array (Int×Value):=if w.params.followText "set-order" then pickOrder (w.params.setOrder a ep) es else es
theorem ord_perm (w:World)(a:Addr)(ep:Nat)(es:Array (Int×Value)):(ordOf w a ep es).toList.Perm es.toList:=by
 unfold ordOf;split
 ·exact pick_perm _ _
 ·exact .rfl
theorem ord_size (w:World)(a:Addr)(ep:Nat)(es:Array (Int×Value)):(ordOf w a ep es).size=es.size:=by rw[← Array.length_toList,(ord_perm w a ep es).length_eq,Array.length_toList]
def slotAt (w:World)(t:SetTable):Nat→Nat
 | 0=>0
 | i+1=>if w.params.followText "set-order" then 0 else t.place.getD i 0+1
def IsSI (h:Heap)(it a:Addr)(slot i n ep:Nat):Prop:=∃ o,h.get? it=some o∧o.cls=.type "set_iterator"∧o.data=.fields #[.int slot 0,.int i 0,.ref a,.int n 0,.int ep 0]
theorem IsSI.keep {h h':Heap}{it a:Addr}{slot i n ep:Nat}(x:IsSI h it a slot i n ep)(k:∀ o,h.get? it=some o→h'.get? it=some o):IsSI h' it a slot i n ep:=let ⟨o,ho,q⟩:=x;⟨o,k _ ho,q⟩
section
variable {prog:Program}{w:World}{A:Around}{E:Value→Shared→Prop}{s:Shared}
theorem IsSI.typeIs {it a:Addr}{slot i n ep:Nat}(x:IsSI s.heap it a slot i n ep):s.TypeIs (.ref it) "set_iterator":=let ⟨o,ho,hc,_⟩:=x;⟨o,ho,hc⟩
theorem walk_text {a:Addr}{es:Array (Int×Value)}{ep:Nat}{t:SetTable}{led:Bool}{Q:Array (Int×Value)→Shared→Prop}(b:BagAt s.heap a es ep t led)(hft:w.params.followText "set-order"=true)
  (h:Q (ordOf w a ep es) s):wpAny (model prog w) A (setWalk a) Q E s:=by
 obtain⟨o,ho,hx,hd,hok⟩:=b;unfold setWalk setsByText;refine wpAny_bind (wpAny_setState_of ho hd hok.fits ?_);dsimp only;refine wpAny_bind (wpAny_bind (wpAny_askSetting (wpAny_pure ?_)));show wpAny _ _ (if w.params.followText "set-order"=true then _ else _) _ _ s;rw[hft,if_pos rfl];refine wpAny_bind (wpAny_askSetting (wpAny_pure ?_));unfold ordOf at h;rw[hft,if_pos rfl] at h;exact h
theorem next_of {a:Addr}{es:Array (Int×Value)}{ep:Nat}{t:SetTable}{i:Nat}{Q:Option (Value×Nat)→Shared→Prop}(b:BagAt s.heap a es ep t (ledOf w))
  (hQ:Q (((ordOf w a ep es)[i]?).map fun e=>(e.2,slotAt w t (i+1))) s) (hi:i≤es.size):wpAny (model prog w) A (setNext a (slotAt w t i) i ep) Q E s:=by
 obtain⟨o,ho,hx,hd,hok⟩:=id b;unfold setNext setsByText;refine wpAny_bind (wpAny_setState_of ho hd hok.fits ?_);dsimp only;refine wpAny_bind (wpAny_bind (wpAny_askSetting (wpAny_pure ?_)));show wpAny _ _ (if w.params.followText "set-order"=true then _ else _) _ _ s;cases hft:w.params.followText "set-order" with
 | true =>
  rw[if_pos rfl,if_neg (by simp)];refine wpAny_bind (walk_text b hft (wpAny_pure ?_));have:slotAt w t i=slotAt w t (i+1):=by
   cases i with
   | zero=>simp[slotAt,hft]
   | succ i=>simp[slotAt,hft]
  rw[this];exact hQ
 | false =>
  rw[if_neg (by decide)];refine wpAny_ite_split (fun hab=>?_) (fun _=>?_)
  ·have hab':(!t.plain && decide (es.size>1))=true:=hab;rw[hok.plain] at hab';exact Bool.noConfusion hab'
  refine wpAny_bind (wpAny_of_eq (a:=()) ?_ ?_)
  ·show (if (!t.led && !es.isEmpty)=true then _ else _)=_;have hl:t.led=true:=by rw[hok.led];unfold ledOf;rw[hft];rfl
   rw[hl,if_neg (by simp)]
  ·have hbl:SetTable.below t.place (slotAt w t i)=i:=by
    cases i with
    | zero=>exact STab.below_zero hok.ris
    | succ i =>
     have hlt:i<t.place.size:=by rw[hok.size];omega
     have:slotAt w t (i+1)=t.place[i]+1:=by simp[slotAt,hft,Array.getD,hlt]
     rw[this];exact STab.below_next hok.ris hlt
   refine wpAny_pure ?_;rw[hbl];have ho:ordOf w a ep es=es:=by unfold ordOf;rw[hft];rfl
   rw[ho] at hQ;rcases Nat.lt_or_ge i es.size with h | h
   ·have hlt:i<t.place.size:=by rw[hok.size];exact h
    rw[Array.getElem?_eq_getElem h,Array.getElem?_eq_getElem hlt];rw[Array.getElem?_eq_getElem h] at hQ;have:slotAt w t (i+1)=t.place[i]+1:=by simp[slotAt,hft,Array.getD,hlt]
    rw[this] at hQ;exact hQ
   ·rw[Array.getElem?_eq_none h];rw[Array.getElem?_eq_none h] at hQ;exact hQ
end
end Srt
end
section
set_option Elab.async false
set_option linter.all false
set_option maxRecDepth 100000
namespace Srt
open PySem PyProof.Rows PySem.W
section
variable {prog:Program}{w:World}{A:Around}{E:Value→Shared→Prop}{s:Shared}
theorem si_item {it a:Addr}{es:Array (Int×Value)}{ep:Nat}{t:SetTable}{i:Nat}{Q:Option Value→Shared→Prop}(hit:IsSI s.heap it a (slotAt w t i) i es.size ep)(b:BagAt s.heap a es ep t (ledOf w))(hi:i<es.size)
  (hQ:∀ h' e,(ordOf w a ep es)[i]?=some e→IsSI h' it a (slotAt w t (i+1)) (i+1) es.size ep→Heap.SameBut it s.heap h'→Q (some e.2) {s with heap:=h'}):wpAny (model prog w) A (pyNext (.ref it)) Q E s:=by
 obtain⟨o,ho,hc,hd⟩:=id hit;obtain⟨oa,hoa,hxa,hda,hok⟩:=id b;have hz:i<(ordOf w a ep es).size:=by rw[ord_size];exact hi
 unfold pyNext
 refine wpAny_bind (wpAny_attempt (wpAny_callSpecial?_slot (name:=Str.ofString "__next__") hit.typeIs sl_si_next
  (wpAny_call_entry sl_si_next hit.typeIs en_si_next ?_ (ar_si_next _))))
 unfold Builtin.«set_iterator.__next__»;refine wpAny_bind (m:=slotArgs "__next__" 0 _) (wpAny_pure (wpAny_bind (wpAny_fieldsOf ho hd ?_)));dsimp only;refine wpAny_bind (wpAny_setEntries_of hoa hda hok.fits ?_);rw[if_neg (by simp)];simp only[Int.toNat_natCast];refine wpAny_bind (next_of b ?_ (Nat.le_of_lt hi));rw[Array.getElem?_eq_getElem hz];dsimp only[Option.map];refine wpAny_bind (wpAny_setField ho hd (by simp) ?_);have ho1:=Heap.get?_update_self (Obj.mapFields (·.setIfInBounds 0 (rawInt ((slotAt w t (i+1):Nat):Int)))) ho (Obj.isFreed_of_fields (Obj.data_mapFields hd _));have hd1:=Obj.data_mapFields hd (·.setIfInBounds 0 (rawInt ((slotAt w t (i+1):Nat):Int)));refine wpAny_bind (wpAny_setField (s:={s with heap:=s.heap.update it (Obj.mapFields (·.setIfInBounds 0 (rawInt ((slotAt w t (i+1):Nat):Int))))}) ho1 hd1 (by simp) ?_);refine wpAny_pure ⟨_,rfl,wpAny_pure (hQ _ _ (Array.getElem?_eq_getElem hz) ⟨_,Heap.get?_update_self _ ho1 (Obj.isFreed_of_fields (Obj.data_mapFields hd1 _)),?_,?_⟩ ((Heap.SameBut.update ..).trans (Heap.SameBut.update ..)))⟩
 ·exact (Obj.cls_mapFields ..).trans ((Obj.cls_mapFields ..).trans hc)
 ·rw[Obj.data_mapFields hd1];simp[rawInt]
theorem si_end {it a:Addr}{es:Array (Int×Value)}{ep:Nat}{t:SetTable}{Q:Option Value→Shared→Prop}(hh:A.handled=none)(hit:IsSI s.heap it a (slotAt w t es.size) es.size es.size ep)(b:BagAt s.heap a es ep t (ledOf w))
  (hQ:∀ h',Heap.ExtBut it s.heap h'→Q none {s with heap:=h'}):wpAny (model prog w) A (pyNext (.ref it)) Q E s:=by
 obtain⟨o,ho,hc,hd⟩:=id hit;obtain⟨oa,hoa,hxa,hda,hok⟩:=id b;unfold pyNext
 refine wpAny_bind (wpAny_attempt (wpAny_callSpecial?_slot (name:=Str.ofString "__next__") hit.typeIs sl_si_next
  (wpAny_call_entry sl_si_next hit.typeIs en_si_next ?_ (ar_si_next _))))
 unfold Builtin.«set_iterator.__next__»;refine wpAny_bind (m:=slotArgs "__next__" 0 _) (wpAny_pure (wpAny_bind (wpAny_fieldsOf ho hd ?_)));dsimp only;refine wpAny_bind (wpAny_setEntries_of hoa hda hok.fits ?_);rw[if_neg (by simp)];simp only[Int.toNat_natCast];refine wpAny_bind (next_of b ?_ (Nat.le_refl _));rw[Array.getElem?_eq_none (Nat.le_of_eq (ord_size ..))];dsimp only[Option.map];refine wpAny_bind (wpAny_setField ho hd (by simp) ?_);show wpAny _ _ (newExc (.type "StopIteration") [] >>= _) _ _ _;refine wpAny_bind ?_;simp only[newExc,newTuple];refine wpAny_bind (wpAny_newObj_type ?_ (by size_fits));refine wpAny_bind (m:=firstArgMember _ _) (wpAny_of_eq (a:=Value.none) (by first | rfl | (simp only[firstArgMember];rfl)) ?_);refine wpAny_newObj_type ?_ (by size_fits);simp only[raiseNew];refine wpAny_bind (wpAny_handled ?_);rw[show A.in1.handled=none from hh];refine wpAny_bind (wpAny_pure (wpAny_throw ?_));refine wpAny_bind (wpAny_isInstance (T:="StopIteration") (b:=true) ⟨_,Heap.get?_push_size _ rfl,rfl⟩ isSubtype_stop ?_);exact wpAny_pure (hQ _ (((Heap.SameBut.update ..).extBut.push _).push _))
theorem si_self {it a:Addr}{slot i n ep:Nat}{Q:Value→Shared→Prop}(hit:IsSI s.heap it a slot i n ep)(h:Q (.ref it) s):wpAny (model prog w) A (pyIter (.ref it)) Q E s:=by
 refine wpAny_pyIter_slot hit.typeIs sl_si_iter (wpAny_call_entry sl_si_iter hit.typeIs en_si_iter ?_ (ar_si_iter _));show wpAny _ _ (ret (.ref it)) _ _ s;exact wpAny_pure ⟨_,rfl, "set_iterator",_,hit.typeIs,sl_si_next.lookup,h⟩
theorem si_make {a:Addr}{es:Array (Int×Value)}{ep:Nat}{t:SetTable}{Q:Value→Shared→Prop}(b:BagAt s.heap a es ep t (ledOf w))
  (hQ:Q (.ref s.heap.objs.size) {s with heap:=s.heap.push {cls:=.type "set_iterator",data:=.fields #[.int 0 0,.int 0 0,.ref a,.int es.size 0,.int ep 0]}}):wpAny (model prog w) A (pyIter (.ref a)) Q E s:=by
 obtain⟨o,ho,hx,hd,hok⟩:=id b;refine wpAny_pyIter_slot b.typeIs PySem.F.slot_set_iter (wpAny_call_entry PySem.F.slot_set_iter b.typeIs en_set_iter ?_ (PySem.F.args_set_iter_1 _));unfold Builtin.«frozenset.__iter__» Builtin.Frozenset.slot0 Builtin.Frozenset.addrOf Builtin.Frozenset.sizeOf;refine wpAny_bind (wpAny_bind (m:=slotArgs "__iter__" 0 _) (wpAny_pure (wpAny_pure ?_)));refine wpAny_bind (wpAny_bind (wpAny_setEntries_of ho hd hok.fits (wpAny_pure ?_)));unfold setDrawn setsByText;refine wpAny_bind (wpAny_bind (wpAny_setState_of ho hd hok.fits (wpAny_bind (wpAny_bind (wpAny_askSetting (wpAny_pure (wpAny_pure ?_)))))));refine wpAny_ite_split (fun hab=>?_) (fun _=>?_)
 ·have hab':(!w.params.followText "set-order" && (!t.plain && decide (es.size>1)))=true:=hab;rw[hok.plain] at hab';simp at hab'
 refine wpAny_bind (wpAny_pure (wpAny_bind (wpAny_setEpoch_of ho hd hok.fits ?_)));refine wpAny_bind (wpAny_newObj_type (wpAny_pure ⟨_,rfl, "set_iterator",_,⟨_,Heap.get?_push_size _ rfl,rfl⟩,sl_si_next.lookup,?_⟩));simpa [rawInt] using hQ
theorem si_walks (hh:A.handled=none)(I a:Addr)(hne:a≠I)(es:Array (Int×Value))(ep:Nat)(t:SetTable) :
  Walks prog w A I [I,a] [I] es.size (fun i v=>∃ e,(ordOf w a ep es)[i]?=some e∧e.2=v) (fun i h=>IsSI h I a (slotAt w t i) i es.size ep∧BagAt h a es ep t (ledOf w)) where
 sub:=fun b hb=>by simp at hb;simp[hb]
 frame:=fun _ _ _ st hk=>⟨st.1.keep fun o e=>hk I (by simp) o e,st.2.keep fun o e=>hk a (by simp) o e⟩
 item:=fun i s Q E hi st hQ=>si_item st.1 st.2 hi fun h' e he hit' hs' =>
  hQ e.2 h' s.toks ⟨e,he,rfl⟩ ⟨hit',st.2.keep fun o q=>hs'.extBut a o hne q⟩ fun b o hb q=>hs'.extBut b o (fun h=>hb (by simp[h])) q
 done:=fun s Q E st hQ=>si_end hh st.1 st.2 fun h' he'=>hQ h' s.toks fun b o hb e=>he' b o (fun h=>hb (by simp[h])) e
 self:=fun _ _ _ _ st hQ=>si_self st.1 hQ
theorem hint_set {r:Addr}{Q:Bool→Shared→Prop}(hT:s.TypeIs (.ref r) "set")(h:Q false s):wpAny (model prog w) A (Builtin.List.listLengthHint (.ref r)) Q E s:=by
 unfold Builtin.List.listLengthHint;refine wpAny_bind (wpAny_specialOf hT PySem.F.slot_set_len.lookup ?_);generalize hid:("set.__len__":String)=id0
 wp_delta
 rw[show splitId id0=some ("set", "__len__") from by subst hid;decide +kernel];subst hid;refine wpAny_bind (wpAny_isInstance (T:="set") (b:=true) hT (by rw[isSubtype_type];kernel_rfl) ?_);refine wpAny_ite_split (fun hab=>absurd hab (by decide)) (fun _=>?_);refine wpAny_ite_split (fun _=>?_) (fun hab=>absurd (by decide +kernel) hab);exact wpAny_bind (wpAny_typeOf hT (wpAny_pure h))
theorem bag_src {a:Addr}{es:Array (Int×Value)}{ep:Nat}{t:SetTable}:KdlSrc prog w "set" a a es.size (fun i v=>∃ e,(ordOf w a ep es)[i]?=some e∧e.2=v) (fun h=>BagAt h a es ep t (ledOf w)) where
 type:=fun _ hm=>hm.typeIs
 there:=fun _ hm=>let ⟨_,ho,_⟩:=hm;⟨Heap.lt_size ho,Heap.lt_size ho⟩
 keep:=fun _ _ hm hk=>hm.keep fun o e=>hk a (.inl rfl) o e
 notList:=by decide
 notTuple:=by decide
 hint:=fun _ _ _ _ hm hq=>hint_set hm.typeIs hq
 iter:=fun _ _ hh hm=>⟨_,_,(fun _ _ hq=>si_make hm hq),si_walks hh _ a (let ⟨_,ho,_⟩:=hm;Nat.ne_of_lt (Heap.lt_size ho)) es ep t,⟨⟨_,Heap.get?_push_size _ rfl,rfl,rfl⟩,hm.keep fun _ e=>Heap.get?_push_of_some _ e⟩⟩
theorem coll_bag {a:Addr}{es:Array (Int×Value)}{ep:Nat}{t:SetTable}(hh:A.handled=none)(b:BagAt s.heap a es ep t (ledOf w))(hz:es.size≤sizeLine):Coll prog w A a s fun us=>us.Perm (es.toList.map (·.2)):=by
 intro E R h;refine kdu_collect (bag_src (ep:=ep) (t:=t)) hh b hz fun h' tk acc hk hI=>h h' tk acc.toList hk ?_
 have:acc.toList=(ordOf w a ep es).toList.map (·.2):=by
  apply List.ext_getElem?;intro i;rw[Array.getElem?_toList,List.getElem?_map,Array.getElem?_toList];rcases Nat.lt_or_ge i es.size with hi | hi
  ·have hi':i<acc.size:=by rw[hI.1];exact hi
   obtain⟨e,he,hk⟩:=hI.2 i acc[i] (Array.getElem?_eq_getElem hi');rw[Array.getElem?_eq_getElem hi',he];exact congrArg some hk.symm
  ·rw[Array.getElem?_eq_none (by rw[hI.1];exact hi),Array.getElem?_eq_none (by rw[ord_size];exact hi)];rfl
 rw[this];exact (ord_perm w a ep es).map _
end
end Srt
end
section
set_option Elab.async false
set_option linter.all false
set_option maxRecDepth 100000
namespace Srt
open PySem PyProof.Rows PySem.W
theorem sub_tup_set:isSubtype (.type "tuple") (.type "set")=pure false:=by rw[isSubtype_type];kernel_rfl
theorem sub_tup_fro:isSubtype (.type "tuple") (.type "frozenset")=pure false:=by rw[isSubtype_type];kernel_rfl
section
variable {prog:Program}{w:World}{A:Around}{E:Value→Shared→Prop}{s:Shared}
theorem src_list {h:Heap}{l:Addr}{items:Array Value}(hl:h.IsList l items):SetSrc prog w h l "list" items.size (fun i v=>items[i]?=some v) where
 typ:=let ⟨o,ho,hc,_⟩:=hl;⟨o,ho,hc⟩
 sub1:=PySem.F.sub_list_set
 sub2:=PySem.F.sub_list_frozenset
 ne:=by decide
 iter:=fun A s hk=>by
  have hl':s.heap.IsList l items:=hl.at fun o e=>hk l o e
  refine⟨_,_,fun E Q hq=>wpAny_pyIter_list hl' hq,fun A' hh=>Walks.list hh _ l ?_ items,⟨⟨_,Heap.get?_push_size _ rfl,rfl,rfl⟩,hl'.push _⟩⟩;obtain⟨o,ho,_⟩:=hl';exact Nat.ne_of_lt (Heap.lt_size ho)
theorem src_tup {h:Heap}{l:Addr}{items:Array Value}(hl:h.IsTuple l items):SetSrc prog w h l "tuple" items.size (fun i v=>items[i]?=some v) where
 typ:=let ⟨o,ho,hc,_⟩:=hl;⟨o,ho,hc⟩
 sub1:=sub_tup_set
 sub2:=sub_tup_fro
 ne:=by decide
 iter:=fun A s hk=>by
  have hl':s.heap.IsTuple l items:=hl.at fun o e=>hk l o e
  refine⟨_,_,fun E Q hq=>wpAny_pyIter_tuple hl' hq,fun A' hh=>Walks.tuple hh _ l ?_ items,⟨⟨_,Heap.get?_push_size _ rfl,rfl,rfl⟩,hl'.at fun o e=>Heap.get?_push_of_some _ e⟩⟩;obtain⟨o,ho,_⟩:=hl';exact Nat.ne_of_lt (Heap.lt_size ho)
theorem BagI.keep {h h':Heap}{a:Addr}{ms:List Int}{led:Bool}(b:BagI prog w h a ms led)(k:∀ o,h.get? a=some o→h'.get? a=some o):BagI prog w h' a ms led :=
 let ⟨es,ep,t,b,q⟩:=b;⟨es,ep,t,b.keep k,q⟩
theorem call_bagI {l:Addr}{c:String}{vs:List Value}{ns:List Int}{Q:Value→Shared→Prop}(hh:A.handled=none)(src:SetSrc prog w s.heap l c vs.toArray.size (fun i v=>vs.toArray[i]?=some v))(hi:IntsAre vs ns)(hz:ns.length<300)
  (h:∀ (h':Heap) (tk:Nat) (ms:List Int),(∀ b o,s.heap.get? b=some o→h'.get? b=some o)→BagI prog w h' s.heap.objs.size ms (ledOf w)→ms.Nodup→(∀ x,x∈ms↔x∈ns)→ms.length≤ns.length→Q (.ref s.heap.objs.size) {s with heap:=h',toks:=tk}) :
  wpAny (model prog w) A (call (.type "set") [.ref l]) Q E s:=by
 have hlen:vs.length=ns.length:=IntsAre.length hi;refine call_bag hh src (fun i h=>∃ ms,BagI prog w h s.heap.objs.size ms (ledOf w)∧ms.Nodup∧(∀ x,x∈ms↔x∈ns.take i)∧ms.length≤i) ?_ ?_ ?_ ?_
 ·rintro i h1 h2 ⟨ms,b,q⟩ hk;exact⟨ms,b.keep fun o e=>hk _ o (Nat.le_refl _) e,q⟩
 ·rintro i v s' E' Q' hin hv ⟨ms,b,hnd,hm,hle⟩ hQ;have hin':i<ns.length:=by rw[← hlen];simpa using hin
  obtain⟨t,rfl⟩:=IntsAre.int_at hi i v (by simpa using hv);have eg:ns.getD i 0=ns[i]:=by simp[List.getD,hin']
  rw[eg];unfold setAdd;refine wpAny_holding (wpAny_bind ((intKind prog w).pyHash (k:=ns[i]) (intKind_is _ _ _ _) ?_));refine bagI_add (s:={s' with toks:=s'.toks+1}) b (by omega) fun h' bb hsb hB=>hQ h' _ bb hsb ⟨_,hB,?_,?_,?_⟩
  ·split
   ·exact hnd
   ·rename_i hn;exact List.nodup_cons.mpr ⟨hn,hnd⟩
  ·intro x;rw[List.take_succ_eq_append_getElem hin',List.mem_append,List.mem_singleton,← hm x];split
   ·rename_i hk;exact⟨.inl,fun o=>o.elim id fun e=>e ▸ hk⟩
   ·rw[List.mem_cons];exact Or.comm
  ·split
   ·omega
   ·rw[List.length_cons];omega
 ·intro h' hf hk;exact⟨[],bag_fresh hf,List.nodup_nil,(fun x=>by simp),Nat.le_refl _⟩
 ·rintro h' tk hk ⟨ms,b,hnd,hm,hle⟩;have e:vs.toArray.size=ns.length:=by simpa using hlen
  rw[e] at hm hle;rw[List.take_length] at hm;exact h h' tk ms hk b hnd hm hle
end
end Srt
namespace L2
open PySem PySem.Spec PyProof.Rows PySem.W
def SqI (K:PySem.W.Frag)(H:Hp)(p:Addr)(ns:List Int):Prop:=SqL K H p (ns.map V.int)∨SqT K H p (ns.map V.int)
section
variable {X:Cx}{pins:List (Addr×Obj)}{σ:St}{H:Hp}{s:Shared}{x y:Str}{e:Expr}{p p' pos pos':Pos}{t:TA}
theorem inv_setI (I:Inv X pins σ H s)(hh:X.A.handled=none){l:Addr}{ns:List Int}{E:Value→Shared→Prop}{Q:Value→Shared→Prop}(hs:SqI X.K H l ns)(hz:ns.length<300)
  (h:∀ (h':Heap) (tk:Nat) (ms:List Int) (a:Addr),(∀ b o,s.heap.get? b=some o→h'.get? b=some o)→Srt.BagI X.prog X.w h' a ms (Srt.ledOf X.w)→ms.Nodup→(∀ x,x∈ms↔x∈ns)→ms.length≤ns.length→Q (.ref a) {s with heap:=h',toks:=tk}) :
  wpAny (model X.prog X.w) X.A (call (.type "set") [.ref l]) Q E s:=by
 rcases hs with hs | hs
 ·obtain⟨its,r,pl,_⟩:=I.list hs;exact Srt.call_bagI hh (Srt.src_list pl.isList) (intsAre_of r) hz fun h' tk ms k b n m l=>h h' tk ms _ k b n m l
 ·obtain⟨its,r,pl,_⟩:=I.tuple hs;exact Srt.call_bagI hh (Srt.src_tup pl) (intsAre_of r) hz fun h' tk ms k b n m l=>h h' tk ms _ k b n m l
def cSortSet (K:PySem.W.Frag):List V→Hp→VK→Prop:=fun xs H Q=>∃ (p:Addr) (ns:List Int),xs=[.ref p]∧SqI K H p ns∧ns.length<300∧(∀ x∈ns,0≤x∧x<63) ∧
 ∀ (ns':List Int) (l:Addr),ns'.Pairwise (·<·)→(∀ x,x∈ns'↔x∈ns)→H l=none→Q (.ref l) (upd H l (.lst (ns'.map V.int)))
theorem pe_sortset (K:PySem.W.Frag)(hh:X.A.handled=none)(hg:Gl X x)(hm:X.mg x=none)(hv:bootBuiltins x=some (.builtin "sorted"))(hg':Gl X y)(hm':X.mg y=none)(hv':bootBuiltins y=some (.type "set"))(ha:PA X [e] t)
  (hn:x≠"__name__":=by decide) (hdb:(x == ("__debug__":Str))=false:=by decide) (hn':y≠"__name__":=by decide) (hdb':(y == ("__debug__":Str))=false:=by decide)
  (he:starEach [e] X.env=[(false,eval e X.env)]:=by rfl) (hpl:(backTo pos' (starEach ([]:List Expr) X.env)).any (·.1)=false:=by rfl)
  (he2:starEach [.Call (.Name y p') [e] [] pos'] X.env=[(false,eval (.Call (.Name y p') [e] [] pos') X.env)]:=by rfl) (hpl2:(backTo pos (starEach ([]:List Expr) X.env)).any (·.1)=false:=by rfl) (hK:X.K=K:=by rfl) :
  PE X (.Call (.Name x p) [.Call (.Name y p') [e] [] pos'] [] pos) (tCB (cSortSet K) t):=by
 subst hK;intro pins s σ H Q I h;refine wpAny_Call_Name_kw (ld_blt I hg hm hv ?_ hn hdb);refine PyProof.Rows.callWith_builtin1 ?_ he2 hpl2;rw[he2];show wpAny _ _ (spliced ((false,eval (.Call (.Name y p') [e] [] pos') X.env)::[])) _ _ s;refine Calls.spliced_cons ?_;refine wpAny_Call_Name_kw (ld_blt I hg' hm' hv' ?_ hn' hdb');refine PyProof.Rows.callWith_type1 (thn (ha pos' pins s σ H _ I h) fun us s1 ⟨vs,H1,I1,r1,q1⟩=>?_) he hpl;obtain⟨l,ns,rfl,src,hz,h63,q⟩:=q1;obtain⟨u,rfl,rx⟩:=vals1 r1;cases rx;refine inv_setI I1 hh src hz fun h' tk ms a hk hB hnd hmem hle=>Calls.spliced_nil ?_
 have I2:Inv X pins σ H1 {s1 with heap:=h',toks:=tk}:=I1.kept hk;obtain⟨es,ep,tb,bt,hel,hp⟩:=hB;have hsz:=Srt.bagI_size (h:=h') (a:=a) hp;have h64:es.size<64:=by
  have:=nd_len hnd fun x hx=>h63 x ((hmem x).mp hx)
  omega
 have hzl:es.size≤sizeLine:=by rw[sizeLine_eq];omega
 have hkeys:∀ u∈es.toList.map (·.2),∃ i t,u=Value.int i t:=by
  intro u hu;obtain⟨e',he',rfl⟩:=List.mem_map.mp hu;obtain⟨⟨k,hk',_⟩,_⟩:=hel e' he';obtain⟨t',et⟩:=Value.isInt_shape hk';exact⟨k,t',et⟩
 refine Srt.sorted_any (O:=Srt.intOrd) (key:=Srt.intKey) (knd:=oneType') (s:={s1 with heap:=h',toks:=tk}) (Srt.coll_bag (A:=X.A.in1) hh bt hzl) (fun vs h=>by rw[h.length_eq,List.length_map,Array.length_toList];exact h64)
  (fun vs s' h _=>Srt.asks_ints (ints_of_all fun u hu=>hkeys u (h.mem_iff.mp hu))) fun vs out h1 h2 tk' n hC ho hs k1 k2 hD=>?_
 have hall:∀ u∈out,∃ i t,u=Value.int i t:=fun u hu=>hkeys u (hC.mem_iff.mp (ho.mem_iff.mp hu))
 have hio:=ints_of_all hall;have I3:Inv X pins σ H1 {s1 with heap:=h1,toks:=tk'}:=I1.kept fun b o eb=>k1 b o (hk b o eb)
 have hperm:(out.map Srt.intKey).Perm ms:=by
  refine ((ho.trans hC).map Srt.intKey).trans ?_;rw[List.map_map];exact hp
 have hlen:(out.map Srt.intKey).length≤sizeLine:=by rw[hperm.length_eq,← hsz];exact hzl
 refine⟨.ref h1.objs.size,_,I3.laid (t':=tk') (o:=.lst ((out.map Srt.intKey).map V.int)) k2 (Nat.le_refl _) ⟨by rw[List.length_map];exact hlen,out,n,vals_ints hio,hD⟩,rfl,q _ _ ?_ ?_ I3.fresh⟩
 ·have hle':(out.map Srt.intKey).Pairwise (·≤·):=by
   rw[List.pairwise_map];exact hs.imp fun {a b} hab=>by
    have hab:decide (Srt.intKey b<Srt.intKey a)=false:=hab;simp at hab;exact hab
  have hnd':(out.map Srt.intKey).Nodup:=hperm.nodup_iff.mpr hnd;exact (hle'.and hnd').imp fun {a b} hab=>by have h1:=hab.1;have h2:=hab.2;omega
 ·intro z;rw[hperm.mem_iff];exact hmem z
end
end L2
end
section
set_option Elab.async false
set_option linter.all false
set_option maxRecDepth 100000
namespace L2
open PySem PySem.Spec PyProof.Rows
section
variable {X:Cx}{pins:List (Addr×Obj)}{σ:St}{H:Hp}{s:Shared}{h':Heap}
theorem push_old {h:Heap}{o:Obj}{b:Addr}(hb:b<h.objs.size):(h.push o).get? b=h.get? b:=by
 unfold Heap.get? Heap.push;simp[Array.getElem?_push,Nat.ne_of_lt hb]
theorem inv_turns {t':Nat}{L:List Addr}(I:Inv X pins σ H s)(k:∀ b o,b∉L→s.heap.get? b=some o→h'.get? b=some o)(hf:∀ b∈L,FpOk X pins H b):Inv X pins σ H {s with heap:=h',toks:=t'}:=by
 have nit:∀ b u,H b=some u→b∉L:=fun b u e z=>by rw[(hf b z).1] at e;cases e
 refine I.step (g':=s.gens) (d':=s.drawn) (ch:=L) (fun b hb=>?_) (fun b o _ _ hc e _=>k b o hc e) (fun b o _ _ hc e _=>⟨o.slots,k b o hc e⟩) (fun _ _ _ _ n=>n)
  (fun b o hc e=>⟨o,k b o hc e⟩) (fun _ _ e=>e) (fun _ _ _ e=>e) (fun b ps e=>⟨#[],by rw[e];simp⟩) (fun m hm=>?_) (fun b u e=>?_) I.bare
 ·obtain⟨f0,f1,f2,f3,f4,f5⟩:=hf b hb;exact⟨f3,f1,f4,f5⟩
 ·obtain⟨o,es,ep,ho,r⟩:=hm;exact⟨o,es,ep,k _ o (fun z=>(hf _ z).2.1 rfl) ho,r⟩
 ·refine (I.hok b u e).stay (fun c v hc q=>k c v ?_ q) (fun _ q=>q) fun _ _ q=>q
  rcases hc with z | z
  ·rw[z];exact nit b u e
  ·exact nit c _ z
def Ite (K:PySem.W.Frag)(a:Addr):It :=
 ⟨fun i H=>∃ xs x,SqL K H a xs∧xs[i]?=some x,fun i H v H'=>∃ q x,v=.ref q∧H q=none∧H'=upd H q (.tup [.int i,x])∧∀ xs,SqL K H a xs→xs[i]?=some x,fun i H=>∃ xs,SqL K H a xs∧xs.length≤i⟩
theorem turn_enum {P:Program}{w:World}{K:PySem.W.Frag}{elts:List Expr}{k:Nat}{pos:Pos}(a e it:Addr)(hne:e≠it):Turn P w K (.Tuple elts k pos) (Ite K a) [e,it] e (fun i h=>(∃ old,IsEnum h e it i old)∧h.IsListIter it a i) where
 mem:=by simp
 obj:=fun i h st b hb=>by
  obtain⟨⟨old,he⟩,o,eo,c,d⟩:=st;rcases List.mem_cons.mp hb with rfl | hb
  ·exact⟨_,he,fun v z=>by
    have z':Data.fields _=Data.cell v:=z
    cases z'⟩
  ·have e:b=it:=by simpa using hb
   subst e;exact⟨o,eo,fun v z=>by rw[d] at z;cases z⟩
 keep:=fun i h h' st k=>⟨let ⟨old,he⟩:=st.1;⟨old,k e (by simp) _ he⟩,st.2.at fun o q=>k it (by simp) o q⟩
 item:=by
  intro X hP hw hK hc i pins s σ H E I hf st hg;subst hP hw hK;obtain⟨xs,x,hq,hx⟩:=hg;obtain⟨its,rv,p,hz⟩:=I.list hq;obtain⟨u,hu,ru⟩:=rv.get hx;obtain⟨⟨old,he⟩,hit⟩:=st;have hel:e<s.heap.objs.size:=Heap.lt_size he;have hil:it<s.heap.objs.size:=by obtain⟨_,z,_⟩:=hit;exact Heap.lt_size z
  refine wpAny_pyNext_enum_item he hit p.isList (x:=u) (by simpa using hu) hne fun h1 ho hit1 hT hsz hk=>⟨_,rfl,?_⟩
  refine wpAny_letOwnedTupleGo_enum (s:={s with heap:=h1,toks:=s.toks+1}) ho fun h2 he2 hs2=>?_
  have hs2':∀ b o,b≠e→h1.get? b=some o→h2.get? b=some o:=fun b o hb q=>(hs2.2 b hb).trans q
  have I1:Inv X pins σ (upd H s.heap.objs.size (.tup [.int i,x])) {s with heap:=s.heap.push {cls:=.type "tuple",data:=.seq #[.int i s.toks,u]},toks:=s.toks+1} :=
   I.laid (o:=.tup [.int i,x]) (fun b o q=>Heap.get?_push_of_some _ q) (Nat.le_refl _) ⟨by simp[sizeLine_eq],[.int i s.toks,u],.cons ⟨_,rfl⟩ (.cons ru .nil),⟨_,Heap.get?_push_size _ rfl,rfl,_,rfl⟩⟩
  have hfr:∀ b∈[e,it],FpOk X pins (upd H s.heap.objs.size (.tup [.int i,x])) b:=by
   intro b hb;obtain⟨f0,f⟩:=hf b hb;refine⟨?_,f⟩;rw[upd_ne];exact f0;rcases List.mem_cons.mp hb with rfl | hb
   ·exact Nat.ne_of_lt hel
   ·rw[List.mem_singleton.mp hb];exact Nat.ne_of_lt hil
  have I2:Inv X pins σ (upd H s.heap.objs.size (.tup [.int i,x])) {s with heap:=h2,toks:=s.toks+1}:=by
   refine inv_turns (s:={s with heap:=s.heap.push {cls:=.type "tuple",data:=.seq #[.int i s.toks,u]},toks:=s.toks+1}) (L:=[e,it]) I1 (fun b o hb q=>?_) hfr;have hb1:b≠e:=fun z=>hb (by simp[z])
   have hb2:b≠it:=fun z=>hb (by simp[z])
   refine hs2' b o hb1 ?_;by_cases hbT:b=s.heap.objs.size
   ·subst hbT;rw[show (s.heap.push {cls:=.type "tuple",data:=.seq #[.int i s.toks,u]}).get? s.heap.objs.size=some {cls:=.type "tuple",data:=.seq #[.int i s.toks,u]} from Heap.get?_push_size _ rfl] at q;cases q;exact hT
   ·have:s.heap.get? b=some o:=by
     have hlt:b<s.heap.objs.size+1:=by have:=Heap.lt_size q;rw[Heap.size_push] at this;exact this
     have hlt2:b<s.heap.objs.size:=Nat.lt_of_le_of_ne (Nat.le_of_lt_succ hlt) hbT;rw[← q];exact (push_old hlt2).symm
    exact hk b o hb1 hb2 this
  refine⟨.ref s.heap.objs.size,_,I2,rfl,⟨s.heap.objs.size,x,rfl,I.fresh,rfl,fun ys hy=>by rw[I.list_inj hy hq];exact hx⟩,⟨⟨_,he2⟩,hit1.at fun o q=>hs2' it o hne.symm q⟩,fun b hb=>(hfr b hb).1⟩
 done:=by
  intro X hP hw hK hc i pins s σ H E I hf st hg;subst hP hw hK;obtain⟨xs,hq,hx⟩:=hg;obtain⟨its,rv,p,hz⟩:=I.list hq;obtain⟨⟨old,he⟩,hit⟩:=st;have hl:=rv.length;refine wpAny_pyNext_enum_end (I.ok.hd hc) he hit p.isList (by simp;omega) fun h' eb=>⟨rfl,?_⟩
  exact inv_turns (t':=s.toks) (L:=[e,it]) I (fun b o hb q=>eb b o (fun z=>hb (by simp[z])) q) hf
 self:=fun _ _ _ _ _ st h=>let ⟨_,he⟩:=st.1;wpAny_pyIter_enum he h
end
section
variable {X:Cx}{K:PySem.W.Frag}{elts:List Expr}{k:Nat}{tpos p pos:Pos}{l:Expr}{t:TA}{y:Str}
def iEnum (K:PySem.W.Frag)(t:TA):TI:=fun σ H R=>t σ H fun vs H1=>∃ a,vs=[.ref a]∧(∃ xs,SqL K H1 a xs)∧R (Ite K a) H1
theorem pi_enum (hg:Gl X y)(hm:X.mg y=none)(hv:bootBuiltins y=some (.type "enumerate"))(ha:PA X [l] t)(hn:y≠"__name__":=by decide)(hdb:(y == ("__debug__":Str))=false:=by decide)
  (he:starEach [l] X.env=[(false,eval l X.env)]:=by rfl) (hpl:(backTo pos (starEach ([]:List Expr) X.env)).any (·.1)=false:=by rfl) (hK:X.K=K:=by rfl):PI X (.Tuple elts k tpos) (.Call (.Name y p) [l] [] pos) (iEnum K t):=by
 subst hK;intro pins s σ H R I h;refine wpAny_Call_Name_kw (ld_blt I hg hm hv ?_ hn hdb);refine PyProof.Rows.callWith_type1 (thn (ha pos pins s σ H _ I h) fun us s1 ⟨vs,H1,I1,r1,a,e1,⟨xs,hq⟩,q⟩=>?_) he hpl;subst e1;obtain⟨u,rfl,rx⟩:=vals1 r1;cases rx;obtain⟨its,rv,pl,hz⟩:=I1.list hq;refine call_enumerate_list pl.isList fun h' hen hit hsz hk=>wpAny_pyIter_enum (s:={s1 with heap:=h'}) hen ?_
 refine⟨s1.heap.objs.size+1,[s1.heap.objs.size+1,s1.heap.objs.size],_,_,H1,rfl,I1.kept (t':=s1.toks) hk,turn_enum a _ _ (Nat.ne_of_gt (Nat.lt_succ_self _)),⟨⟨_,hen⟩,hit⟩,fun b hb=>?_,q⟩;rcases List.mem_cons.mp hb with rfl | hb
 ·exact I1.fpOk (Nat.le_succ _) (I1.hok.fresh (Nat.le_succ _))
 ·rw[List.mem_singleton.mp hb];exact I1.fpOk (Nat.le_refl _) I1.fresh
end
section
variable {K:PySem.W.Frag}{a p:Addr}{xs:List V}{g:TG}{tc:TT}{te tv:TE}{τ0:St}{H0:Hp}{EE:Hp→Prop}
theorem lc_enum (Pv:Nat→St→Hp→Prop)(h0:Pv 0 τ0 H0)(hl:∀ i τ H,i≤xs.length→Pv i τ H→SqL K H a xs)
  (hs:∀ i x τ H q,xs[i]?=some x→Pv i τ H→H q=none→g (.ref q) τ (upd H q (.tup [.int i,x])) fun τ2 H2=>tc τ2 H2 fun b H3=>if b=true then te τ2 H3 fun v H4=>∃ ys,H4 p=some (.lst ys)∧ys.length<sizeLine∧Pv (i+1) τ2 (upd H4 p (.lst (ys++[v]))) else Pv (i+1) τ2 H3)
  (hd:∀ τ H,Pv xs.length τ H→EE H):lcW g tc te p (Ite K a) τ0 H0 EE:=by
 refine⟨fun i m τ H=>m=xs.length-i∧i≤xs.length∧Pv i τ H,⟨_,rfl,Nat.zero_le _,h0⟩,?_⟩;rintro i m τ H ⟨rfl,hi,hp⟩;have hq:=hl i τ H hi hp;rcases Nat.lt_or_ge i xs.length with h | h
 ·have hx:xs[i]?=some xs[i]:=List.getElem?_eq_getElem h;refine .inr ⟨⟨xs,_,hq,hx⟩,Pv (i+1),fun τ' H' z=>⟨_,by omega,rfl,h,z⟩,?_⟩;rintro v H' ⟨q,x,rfl,hn,rfl,hy⟩;have e:x=xs[i]:=by have:=hy xs hq;rw[hx] at this;exact (Option.some.inj this).symm
  subst e;exact hs i _ τ H q hx hp hn
 ·have e:i=xs.length:=by omega
  subst e;exact .inl ⟨⟨xs,hq,Nat.le_refl _⟩,hd τ H hp⟩
end
structure Bt2 (mg:Str→Option Value):Prop where
 isinstance:mg "isinstance"=none
 bool:mg "bool"=none
 all:mg "all"=none
 set:mg "set"=none
 enumerate:mg "enumerate"=none
 zip:mg "zip"=none
end L2
end
section
set_option Elab.async false
set_option linter.all false
set_option maxRecDepth 100000
namespace L2
open PySem
inductive Rch (ts:List (Int×Int))(A:Int→Prop)(u:Int):Int→Prop
 | base:Rch ts A u u
 | step {y x:Int}:Rch ts A u y→x∈nb ts y→A x→Rch ts A u x
section
variable {n:Int}{ts:List (Int×Int)}{A:Int→Prop}{u v:Int}{fs ws:List Int}{j:Nat}
theorem Rch.rng (hok:TsOk n ts)(h0:0≤u)(h1:u<n){x:Int}(r:Rch ts A u x):0≤x∧x<n:=by
 induction r with
 | base=>exact⟨h0,h1⟩
 | step _ hm _ _=>have:=nb_rng hok hm;omega
theorem Rch.mem {x:Int}(r:Rch ts A u x)(h:A u):A x:=by
 cases r with
 | base=>exact h
 | step _ _ ha=>exact ha
theorem Rch.left {L:Int→Prop}(hok:TsOk n ts)(hL:∀ x,L x→A x)(hc:∀ x y,A x→¬ L x→y∈nb ts x→A y→¬ L y)(hu:L u){x:Int}:Rch ts L u x↔Rch ts A u x:=by
 constructor
 ·intro r;induction r with
  | base=>exact .base
  | step _ hm ha ih=>exact .step ih hm (hL _ ha)
 ·intro r;have:Rch ts L u x∧L x:=by
   induction r with
   | base=>exact⟨.base,hu⟩
   | @step y x _ hm ha ih =>
    have:L x:=Classical.byContradiction fun hn=>hc x y ha hn ((nb_sym hok).mp hm) (hL _ ih.2) ih.2
    exact⟨.step ih.1 hm this,this⟩
  exact this.1
theorem addI_new {y:Int}(h:y∉fs):addI fs y=fs++[y]:=by unfold addI;rw[if_neg h]
end
structure SrAt (H Hc:Hp)(me wl:Addr)(fs ws:List Int):Prop where
 same:Same H Hc
 met:Hc me=some (.dK (kvI fs))
 wait:Hc wl=some (.lst (ws.map V.int))
section
variable {H Hc:Hp}{me wl:Addr}{fs ws:List Int}{n:Int}
theorem SrAt.ne (h:SrAt H Hc me wl fs ws):me≠wl:=fun e=>by
 have:=h.met;rw[e,h.wait] at this;cases this
theorem SrAt.pop {v:Int}(h:SrAt H Hc me wl fs (ws++[v]))(hw:H wl=none):((ws++[v]).map V.int)[((ws++[v]).map V.int).length-1]?=some (V.int v)∧SrAt H (upd Hc wl (.lst ((ws++[v]).map V.int).dropLast)) me wl fs ws:=by
 refine⟨by simp,h.same.upd hw,by rw[upd_ne h.ne];exact h.met,?_⟩;rw[upd_same];simp
theorem SrAt.add {y:Int}(h:SrAt H Hc me wl fs ws)(hm:H me=none)(hw:H wl=none)(hy:y∉fs):SrAt H (upd (upd Hc me (.dK (kvI (addI fs y)))) wl (.lst (ws.map V.int++[V.int y]))) me wl (fs++[y]) (ws++[y]):=by
 refine⟨(h.same.upd hm).upd hw,?_,?_⟩
 ·rw[upd_ne h.ne,upd_same,addI_new hy]
 ·rw[upd_same,List.map_append];rfl
theorem SrAt.mono {H0:Hp}(h:SrAt H Hc me wl fs ws)(s:Same Hc H0):SrAt H H0 me wl fs ws:=⟨h.same.trans s,s _ _ h.met,s _ _ h.wait⟩
end
end L2
end
section
set_option Elab.async false
set_option linter.all false
set_option maxRecDepth 100000
namespace L2
open PySem
def tI (l:List Int):PyData:=.tuple (l.map PyData.int)
theorem Dts.tups {K:PySem.W.Frag}{H:Hp}:∀ {ps:List (Addr×List Int)},(∀ x∈ps,SqT K H x.1 (x.2.map V.int))→Dts K H (ps.map fun x=>V.ref x.1) ((ps.map (·.2)).map tI)
 | [],_=>.nil
 | p::r,h=>.cons (.tupI (h p (List.mem_cons_self ..))) (Dts.tups fun x hx=>h x (List.mem_cons_of_mem _ hx))
structure LlAt (Hc:Hp)(lo:Addr)(ps:List (Addr×List Int)):Prop where
 top:Hc lo=some (.lst (ps.map fun x=>V.ref x.1))
 row:∀ x∈ps,Hc x.1=some (.tup (x.2.map V.int))
theorem LlAt.tp {H H':Hp}{lo:Addr}{ps:List (Addr×List Int)}(h:LlAt H lo ps)(t:Tp H H')(e:H' lo=some (.lst (ps.map fun x=>V.ref x.1))):LlAt H' lo ps:=⟨e,fun x hx=>t _ _ (h.row x hx)⟩
theorem LlAt.snoc {H:Hp}{lo a:Addr}{ps:List (Addr×List Int)}{l:List Int}(h:LlAt H lo ps)(ha:H a=some (.tup (l.map V.int))):LlAt (upd H lo (.lst ((ps.map fun x=>V.ref x.1)++[V.ref a]))) lo (ps++[(a,l)]):=by
 refine⟨by rw[upd_same,List.map_append];rfl,fun x hx=>?_⟩;rcases List.mem_append.mp hx with hx | hx
 ·exact Tp.lst h.top _ _ (h.row x hx)
 ·cases List.mem_singleton.mp hx;exact Tp.lst h.top _ _ ha
open Classical in
noncomputable def pcOf (n:Int)(ts:List (Int×Int))(us:List Int)(u:Int):List Int:=(rInts 0 n.toNat).filter fun x=>decide (Rch ts (·∈us) u x)
section
variable {n:Int}{ts:List (Int×Int)}{us:List Int}{u x:Int}
def lotsStep (f:Int→List Int)(acc:List (List Int))(u:Int):List (List Int):=if (acc.any fun l=>decide (u∈l))=true then acc else acc++[f u]
noncomputable def lots (n:Int)(ts:List (Int×Int))(us vs:List Int):List (List Int):=vs.foldl (lotsStep (pcOf n ts us)) []
end
end L2
end
section
set_option Elab.async false
set_option linter.all false
set_option maxRecDepth 100000
namespace L2
open PySem PySem.Spec PyProof.Rows
section
variable {X:Cx}
theorem pe_ty {x:Str}{n:String}{pos:Pos}(hg:Gl X x)(hm:X.mg x=none)(hv:bootBuiltins x=some (.type n))(hn:x≠"__name__":=by decide)(hd:(x == ("__debug__":Str))=false:=by decide):PE X (.Name x pos) (tC (.ty n)) :=
 fun _ _ _ H _ I h=>ld_blt I hg hm hv ⟨.ty n,H,I,rfl,h⟩ hn hd
def cIsi (K:PySem.W.Frag):List V→Hp→VK→Prop:=fun xs H Q=>∃ (x:V) (n:String) (t:Value) (b:Bool),xs=[x,.ty n]∧TyOf K H x t∧PySem.W.kitOne K t (.type n)=some b∧Q (.bl b) H
theorem call_isi:CallR X (.builtin "isinstance") (cIsi X.K):=by
 intro pins s σ H xs us Q I r h;obtain⟨x,n,t,b,rfl,ty,e,q⟩:=h;obtain⟨u,w',rfl,rx,rn⟩:=vals2 r;cases (show w'=Value.type n from rn);exact isinst_ok I rx ty e fun tk=>⟨.bl b,H,I.tok _,rfl,q⟩
theorem isiK (K:PySem.W.Frag)(h:X.K=K:=by rfl):CallR X (.builtin "isinstance") (cIsi K):=by subst h;exact call_isi
theorem bools_get:∀ {bs:List Bool} {us:List Value},Vals (bs.map V.bl) us→∀ (i:Nat) (v:Value),us[i]?=some v→v=Value.bool (bs.getD i true)
 | [],_,.nil,i,v,h=>by simp at h
 | b::r,_,.cons q t,0,v,h=>by simp at h;subst h;exact q
 | b::r,_,.cons q t,i+1,v,h=>by simp at h;exact bools_get t i v h
theorem range_all (bs:List Bool):(List.range bs.length).all (fun i=>bs.getD i true)=bs.all id:=by
 induction bs with
 | nil=>rfl
 | cons b r ih =>
  rw[List.length_cons,List.range_succ_eq_map,List.all_cons,List.all_map,List.all_cons];congr 1
def cAll (K:PySem.W.Frag):List V→Hp→VK→Prop:=fun xs H Q=>∃ (p:Addr) (bs:List Bool),xs=[.ref p]∧SqL K H p (bs.map V.bl)∧Q (.bl (bs.all id)) H
theorem call_allB (hh:X.A.handled=none):CallR X (.builtin "all") (cAll X.K):=by
 intro pins s σ H xs us Q I r h;obtain⟨p,bs,rfl,hq,q⟩:=h;obtain⟨u,rfl,ru⟩:=vals1 r;cases ru;obtain⟨its,rv,pl,hz⟩:=I.list hq;have hl:s.heap.IsList p its.toArray:=pl.isList;have hlen:its.length=bs.length:=by rw[← rv.length,List.length_map]
 refine call_all_walk (wpAny_pyIter_list hl ?_);have hpu:∀ b o,s.heap.get? b=some o→(s.heap.push {cls:=.type "list_iterator",data:=.fields #[.ref p,.int 0 0]}).get? b=some o:=fun b o e=>Heap.get?_push_of_some _ e
 have hne:p≠s.heap.objs.size:=by
  obtain⟨o,ho,_⟩:=hl;exact Nat.ne_of_lt (Heap.lt_size ho)
 refine⟨_,_,_,_,_,_,fun i=>bs.getD i true,rfl,Walks.list (prog:=X.prog) (w:=X.w) (A:=X.A.in1) hh s.heap.objs.size p hne its.toArray,⟨⟨_,Heap.get?_push_size _ rfl,rfl,rfl⟩,hl.at fun o e=>hpu _ _ e⟩,?_,?_⟩
 ·intro i v s' Q' E' hP hQ;have:v=Value.bool (bs.getD i true):=bools_get rv i v (by simpa using hP);subst this;exact wpAny_truthy_bool hQ
 ·intro h' tk hk;have e:(List.range its.toArray.size).all (fun i=>bs.getD i true)=bs.all id:=by rw[List.size_toArray,hlen];exact range_all bs
  rw[e];refine⟨.bl _,H,I.kept fun b o eb=>hk b o (fun hm=>?_) (hpu b o eb),rfl,q⟩;rw[List.mem_singleton.mp hm] at eb;exact absurd (Heap.lt_size eb) (Nat.lt_irrefl _)
theorem allK (K:PySem.W.Frag)(hh:X.A.handled=none)(h:X.K=K:=by rfl):CallR X (.builtin "all") (cAll K):=by subst h;exact call_allB hh
end
end L2
end
section
set_option Elab.async false
set_option linter.all false
set_option maxRecDepth 100000
namespace L2
open PySem
section
variable {n:Int}{ts us:List (Int×Int)}{ins:List Int}
end
theorem RowsAt.put {H:Hp}{p x:Addr}{as:List Addr}{rows:List (List Int)}{o:HO}(h:RowsAt H p as rows)(h1:x≠p)(h2:x∉as):RowsAt (upd H x o) p as rows :=
 h.mono fun a u q e=>by
  rw[upd_ne (fun z=>by subst z;exact q.elim (fun z=>h1 z) h2)];exact e
end L2
end
section
set_option Elab.async false
set_option linter.all false
set_option maxRecDepth 100000
namespace L2
open PySem PySem.Spec PyProof.Rows
section
variable {X:Cx}
end
end L2
namespace L2
open PySem PySem.Spec PyProof.Rows PySem.W
section
variable {X:Cx}{x y:Str}{e1 e2 e3:Expr}{p p' pos pos':Pos}{t:TA}
end
end L2
end
section
set_option Elab.async false
set_option linter.all false
set_option maxRecDepth 100000
namespace HT
open PySem PyProof.Rows
section
variable {prog:Program}{w:World}{A:Around}{E:Value→Shared→Prop}{s:Shared}
theorem applied_rev {sl:Addr}{tk:Tok}{n:Nat}{Q:Int×Int×Nat→Shared→Prop}(hs:s.heap.IsSliceOf sl .none .none (.int (-1) tk))
  (h:Q ((n:Int)-1,-1,n) s):wpAny (model prog w) A (Builtin.Slice.sliceApplied (.ref sl) (pure (n:Int))) Q E s:=by
 obtain⟨os,hos,hcs,hds⟩:=id hs;unfold Builtin.Slice.sliceApplied Builtin.Slice.sliceFields;refine wpAny_bind (wpAny_bind (wpAny_field hos hds (x:=.none) rfl (wpAny_bind (wpAny_field hos hds (x:=.none) rfl (wpAny_bind (wpAny_field hos hds (x:=.int (-1) tk) rfl (wpAny_pure ?_)))))));refine wpAny_bind (slicePart_ (o:=some (-1)) (.int (-1) tk) ?_);show wpAny _ _ (if ((-1:Int) == 0)=true then _ else _) _ _ s;rw[if_neg (by decide)];refine wpAny_bind (slicePart_ .none (wpAny_bind (slicePart_ .none (wpAny_bind (wpAny_pure ?_)))));show wpAny _ _ (match Builtin.Slice.sliceAdjust none none (-1) (n:Int) with | (lo,hi)=>pure (lo,(-1:Int),Builtin.Slice.slicePlaces lo hi (-1))) _ _ s;have e1:Builtin.Slice.sliceAdjust none none (-1) (n:Int)=((n:Int)-1,-1):=by
  unfold Builtin.Slice.sliceAdjust;simp
 rw[e1];have e2:Builtin.Slice.slicePlaces ((n:Int)-1) (-1) (-1)=n:=by
  unfold Builtin.Slice.slicePlaces;simp;try split
  all_goals omega
 show wpAny _ _ (pure ((n:Int)-1,(-1:Int),Builtin.Slice.slicePlaces ((n:Int)-1) (-1) (-1))) _ _ s;rw[e2];exact wpAny_pure h
theorem pick_rev (xs:List Value):((List.range xs.length).filterMap fun (m:Nat)=>xs.toArray[(((xs.length:Nat):Int)-1+(m:Int)*(-1)).toNat]?)=xs.reverse:=by
 have e:∀ m∈List.range xs.length,xs.toArray[(((xs.length:Nat):Int)-1+(m:Int)*(-1)).toNat]?=some (xs.reverse.getD m .none):=by
  intro m hm;have hm':=List.mem_range.mp hm;have e1:(((xs.length:Nat):Int)-1+(m:Int)*(-1)).toNat=xs.length-1-m:=by omega
  rw[e1,List.getElem?_toArray,List.getElem?_eq_getElem (by omega),List.getD_eq_getElem?_getD,List.getElem?_reverse hm',List.getElem?_eq_getElem (by omega)];rfl
 have h2:∀ l:List Nat,(∀ m∈l,xs.toArray[(((xs.length:Nat):Int)-1+(m:Int)*(-1)).toNat]?=some (xs.reverse.getD m .none))→(l.filterMap fun (m:Nat)=>xs.toArray[(((xs.length:Nat):Int)-1+(m:Int)*(-1)).toNat]?)=l.map fun m=>xs.reverse.getD m .none:=by
  intro l hl;induction l with
  | nil=>rfl
  | cons a r ih=>rw[List.filterMap_cons_some (f:=fun (m:Nat)=>xs.toArray[(((xs.length:Nat):Int)-1+(m:Int)*(-1)).toNat]?) (hl a (List.mem_cons_self ..)),List.map_cons,ih fun m hm=>hl m (List.mem_cons_of_mem _ hm)]
 rw[h2 _ e];refine List.ext_getElem? fun i=>?_
 rw[List.getElem?_map];rcases Nat.lt_or_ge i xs.length with h | h
 ·rw[List.getElem?_range h,List.getElem?_eq_getElem (l:=xs.reverse) (by simpa using h)];simp[List.getD_eq_getElem?_getD,h]
 ·rw[List.getElem?_eq_none (by simpa using h),List.getElem?_eq_none (by simpa using h)];rfl
theorem getItem_tuple_rev {t sl:Addr}{xs:List Value}{tk:Tok}{Q:Value→Shared→Prop}(ht:IsTup s.heap t xs.toArray)(hs:s.heap.IsSliceOf sl .none .none (.int (-1) tk))
  (h:Q (.ref s.heap.objs.size) {s with heap:=s.heap.push {cls:=.type "tuple",data:=.seq xs.reverse.toArray}})
  (hsz:xs.length≤sizeLine):wpAny (model prog w) A (getItem (.ref t) (.ref sl)) Q E s:=by
 have htake:sizeOk (.seq xs.reverse.toArray):=by
  show xs.reverse.toArray.size≤sizeLine;simpa using hsz
 obtain⟨os,hos,hcs,hds⟩:=id hs;have hTs:s.TypeIs (.ref sl) "slice":=⟨os,hos,hcs⟩
 unfold getItem;try with_reducible refine wpAny_holding ?_
 first | refine wpAny_bind (wpAny_pure ?_) | skip
 refine wpAny_bind (wpAny_sequenceKey ht.typeIs (by decide) ?_)
 refine wpAny_bind (wpAny_callSpecial?_slot (name:=Str.ofString "__getitem__") ht.typeIs PyProof.Rows.slot_tuple_getitem
  (wpAny_call_entry PyProof.Rows.slot_tuple_getitem ht.typeIs entry_tuple_getitem ?_ (args_tuple_getitem _ _)))
 show wpAny _ _ (Builtin.Tuple.tupleItemsOf (.ref t) >>= _) _ _ s;refine wpAny_bind (tupleItemsOf_ ht ?_);refine wpAny_bind (wpAny_typeOf hTs ?_);rw[if_pos (by decide)];refine wpAny_bind (applied_rev (n:=xs.toArray.size) hs ?_);show wpAny _ _ (if ((((xs.toArray.size:Nat):Int)-1) == 0 && (-1:Int) == 1 && xs.toArray.size == xs.toArray.size)=true then _ else _) _ _ s;rw[if_neg (by simp)];rw[show xs.toArray.size=xs.length by simp,pick_rev];first
  | exact wpAny_bind (m:=Builtin.Tuple.tupleExact _) (wpAny_newObj_type (wpAny_pure ⟨_,rfl,wpAny_pure h⟩) htake)
  | exact wpAny_bind (m:=Builtin.Tuple.tupleExact _) (wpAny_newObj_type (wpAny_bind (wpAny_pure (wpAny_pure ⟨_,rfl,wpAny_pure h⟩))) htake)
  | exact wpAny_bind (wpAny_bind (m:=Builtin.Tuple.tupleExact _) (wpAny_newObj_type (wpAny_pure (wpAny_pure ⟨_,rfl,wpAny_pure h⟩)) htake))
  | exact wpAny_bind (wpAny_bind (m:=Builtin.Tuple.tupleExact _) (wpAny_newObj_type (wpAny_pure ⟨_,rfl,wpAny_pure h⟩) htake))
end
end HT
namespace L2
open PySem PySem.Spec PyProof.Rows
section
variable {X:Cx}{e st:Expr}{te ts:TE}{p2 pos:Pos}
def tRevT (K:PySem.W.Frag)(te ts:TE):TE:=fun σ H Q=>te σ H fun x H1=>ts σ H1 fun y H2=>∃ a xs,x=.ref a∧SqT K H2 a xs∧y=.int (-1)∧∀ p,H2 p=none→Q (.ref p) (upd H2 p (.tup xs.reverse))
theorem pe_revT (K:PySem.W.Frag)(he:PE X e te)(hst:PE X st ts)(ht:∀ o r,letTemporaryGo e o r=pure ():=by intro _ _;rfl)(hK:X.K=K:=by rfl):PE X (.Subscript e (.Slice none none (some st) p2) pos) (tRevT K te ts):=by
 subst hK;intro pins s σ H Q I h;refine wpAny_Subscript_Slice_step (T:="tuple") PyProof.Rows.slot_tuple_getitem.lookup (thn (he pins s σ H _ I h) fun v s1 ⟨x,H1,I1,r1,q1⟩=>?_) ht;refine wpAny_Slice ?_;rw[evalPart_none];refine wpAny_pure (wpAny_pure ?_);rw[evalPart_some];refine thn (hst pins s1 σ H1 _ I1 q1) fun vs s2 ⟨y,H2,I2,r2,a,xs,e1,hx,e2,q2⟩=>?_
 subst e1;subst e2;cases r1;obtain⟨tk,rfl⟩:=r2;have I3:Inv X pins σ H2 {s2 with heap:=s2.heap.push {cls:=.type "slice",data:=.fields #[.none,.none,.int (-1) tk]}}:=I2.kept (t':=s2.toks) fun b ob q=>Heap.get?_push_of_some _ q
 obtain⟨its,r,htup,hz⟩:=I3.tuple hx;refine⟨htup.typeIs,HT.getItem_tuple_rev htup (Heap.IsSliceOf.new ..) ?_ (by rw[← r.length];exact hz)⟩;have hlr:xs.reverse.length≤sizeLine:=by simpa using hz
 exact⟨.ref _,_,I3.laid (t':=s2.toks) (o:=.tup xs.reverse) (fun b o q=>Heap.get?_push_of_some _ q) (Nat.le_refl _) ⟨hlr,its.reverse,vals_rev r,⟨_,Heap.get?_push_size _ rfl,rfl,_,rfl⟩⟩,rfl,q2 _ I3.fresh⟩
end
end L2
end
section
set_option Elab.async false
set_option linter.all false
set_option maxRecDepth 100000
namespace Srt
open PySem PyProof.Rows
section
variable {prog:Program}{w:World}{A:Around}{E:Value→Shared→Prop}{s:Shared}{z TI TO i1 i2 l1 l2:Addr}{n1 n2 k:Nat}{P1 P2:Nat→Value→Prop}{S1 S2:Nat→Heap→Prop}{a b:Value}
end
section
variable {prog:Program}{w:World}{A:Around}{E:Value→Shared→Prop}{s:Shared}
end
end Srt
end
section
set_option Elab.async false
set_option linter.all false
set_option maxRecDepth 100000
namespace L2
open PySem PySem.Spec PyProof.Rows
section
variable {X:Cx}{K:PySem.W.Frag}{elts:List Expr}{k:Nat}{tpos p pos:Pos}{l m:Expr}{t:TA}{y:Str}
end
end L2
end
section
set_option maxHeartbeats 8000000
local macro_rules | `(tactic| omega)=>`(tactic| first | lia | omega +splitDisjunctions)
set_option Elab.async false
set_option linter.all false
set_option maxRecDepth 100000
namespace L2
open PySem
section
variable {n g one:Int}{us:List (Int×Int)}{par:Int→Int}{rank:Int→Nat}
end
section
variable {n g p:Int}{us:List (Int×Int)}{par:Int→Int}{rank:Int→Nat}{vs ws:List Int}{j:Nat}
end
end L2
end
section
set_option Elab.async false
set_option linter.all false
set_option maxRecDepth 100000
namespace STab
open PySem PySem.SetTable
end STab
end
section
set_option Elab.async false
set_option linter.all false
set_option maxRecDepth 100000
namespace STab
open PySem
def pc (c:Nat):Int:=reduceHash (Builtin.Tuple.tupleHashOf [hashInt ((c / 60:Nat):Int),hashInt ((c % 60:Nat):Int)])
def pr (c:Nat):Nat:=(pc c % 26326).toNat
def bits:Nat→Nat→Bool
 | 0,_=>true
 | c+1,a=>!a.testBit (pr c) && bits c (a ||| 1 <<< pr c)
end STab
end
section
set_option Elab.async false
set_option linter.all false
set_option maxRecDepth 100000
namespace Srt
open PySem PyProof.Rows
section
variable {prog:Program}{w:World}{A:Around}{E:Value→Shared→Prop}{s:Shared}
end
end Srt
end
section
set_option Elab.async false
set_option linter.all false
set_option maxRecDepth 100000
namespace STab
open PySem L2
end STab
namespace Srt
open PySem PyProof.Rows PySem.W
section
variable {prog:Program}{w:World}{A:Around}{E:Value→Shared→Prop}{s:Shared}
end
end Srt
namespace L2
open PySem PySem.Spec PyProof.Rows PySem.W
section
variable {X:Cx}{pins:List (Addr×Obj)}{σ:St}{H:Hp}{s:Shared}{x y:Str}{e:Expr}{p p' pos pos':Pos}{t:TA}
end
end L2
end
section
set_option Elab.async false
set_option linter.all false
set_option maxRecDepth 100000
namespace L2
open PySem PySem.Spec PyProof.Rows
inductive Pl (H:Hp):V→String→Prop where
 | non:Pl H .non "NoneType"
 | bl (x:Bool):Pl H (.bl x) "bool"
 | int (i:Int):Pl H (.int i) "int"
 | str (x:Str):Pl H (.str x) "str"
 | lst {a:Addr} {xs:List V} (e:H a=some (.lst xs)):Pl H (.ref a) "list"
 | tup {a:Addr} {xs:List V} (e:H a=some (.tup xs)):Pl H (.ref a) "tuple"
 | dK {a:Addr} {kvs:List (Key×V)} (e:H a=some (.dK kvs)):Pl H (.ref a) "dict"
 | dT {a:Addr} {kvs:List (List Key×V)} (e:H a=some (.dT kvs)):Pl H (.ref a) "dict"
theorem Pl.ty {K:PySem.W.Frag}{H:Hp}{x:V}{T:String}(p:Pl H x T):TyOf K H x (.type T):=by
 cases p with
 | non=>exact .non
 | bl x=>exact .bl x
 | int i=>exact .int i
 | str x=>exact .str x
 | lst e=>exact .lst e
 | tup e=>exact .tup e
 | dK e=>exact .dK e
 | dT e=>exact .dT e
def isIn (T c:String):Bool:=T == c || (T == "bool" && c == "int")
theorem kit_plain {K:PySem.W.Frag}{H:Hp}{x:V}{T:String}(p:Pl H x T){c:String}(hc:c="int"∨c="bool"∨c="tuple"):PySem.W.kitOne K (.type T) (.type c)=some (isIn T c):=by
 rcases hc with rfl | rfl | rfl<;>cases p<;>rfl
def isI:V→Bool
 | .int _=>true
 | _=>false
theorem isI_of {H:Hp}{x:V}{T:String}(p:Pl H x T):(isIn T "int" && !isIn T "bool")=isI x:=by cases p<;>rfl
def betw (x:V)(lo hi:Int):Bool:=match x with
 | .int i=>decide (lo≤i) && decide (i≤hi)
 | _=>false
theorem betw_no {x:V}{lo hi:Int}(h:isI x=false):betw x lo hi=false:=by cases x<;>first | rfl | cases h
theorem isI_int {x:V}(h:isI x=true):∃ i,x=.int i:=by cases x<;>first | exact⟨_,rfl⟩ | cases h
def sp_pint:Sp:=fun vs H Q _=>∃ (x:V) (T:String),vs=[x]∧Pl H x T∧Q (.bl (isI x)) H
def sp_pbetw:Sp:=fun vs H Q _=>∃ (x:V) (T:String) (lo hi:Int),vs=[x,.int lo,.int hi]∧Pl H x T∧Q (.bl (betw x lo hi)) H
end L2
end
section
set_option Elab.async false
set_option linter.all false
set_option maxRecDepth 100000
namespace L2
open PySem PySem.Spec PyProof.Rows
def PlD (H:Hp):Nat→V→Prop
 | 0,y=>∃ T,Pl H y T
 | m+1,y=>(∃ T,Pl H y T)∧∀ a ys,y=.ref a→H a=some (.tup ys)→∀ z∈ys,PlD H m z
theorem Pl.mono {H H':Hp}{y:V}{T:String}(s:Same H H')(p:Pl H y T):Pl H' y T:=by
 cases p with
 | non=>exact .non
 | bl x=>exact .bl x
 | int i=>exact .int i
 | str x=>exact .str x
 | lst e=>exact .lst (s _ _ e)
 | tup e=>exact .tup (s _ _ e)
 | dK e=>exact .dK (s _ _ e)
 | dT e=>exact .dT (s _ _ e)
theorem Pl.back {H H':Hp}{a:Addr}{ys:List V}{T:String}(s:Same H H')(p:Pl H (.ref a) T)(e:H' a=some (.tup ys)):H a=some (.tup ys):=by
 cases p with
 | lst e2=>have:=s _ _ e2;rw[e] at this;cases this
 | tup e2=>have:=s _ _ e2;rw[e] at this;cases this;exact e2
 | dK e2=>have:=s _ _ e2;rw[e] at this;cases this
 | dT e2=>have:=s _ _ e2;rw[e] at this;cases this
theorem PlD.pl {H:Hp}{m:Nat}{y:V}(h:PlD H m y):∃ T,Pl H y T:=by
 cases m with
 | zero=>exact h
 | succ m=>exact h.1
theorem PlD.mono {H H':Hp}(s:Same H H'):∀ {m:Nat} {y:V},PlD H m y→PlD H' m y
 | 0,y,⟨T,p⟩=>⟨T,p.mono s⟩
 | m+1,y,⟨⟨T,p⟩,h⟩=>⟨⟨T,p.mono s⟩,fun a ys e ea z hz=>by
  subst e
  exact PlD.mono s (h a ys rfl (p.back s ea) z hz)⟩
end L2
end
section
set_option Elab.async false
set_option linter.all false
set_option maxRecDepth 100000
namespace L2
open PySem PySem.Spec PyProof.Rows
theorem intItems_of:∀ {vs:List Value} {ns:List Int},IntsAre vs ns→∃ xs:Array (Int×Tok),vs.toArray=intItems xs∧xs.toList.map (·.1)=ns:=by
 intro vs ns hi;obtain⟨xs,e⟩:=hi.allInts.items;refine⟨xs,e,?_⟩;rw[← nums_intItems,← e];exact hi.numsOf
structure Bt3 (mg:Str→Option Value):Prop where
 sum:mg "sum"=none
 any:mg "any"=none
section
variable {X:Cx}
def rCatT0 (K:PySem.W.Frag):R2:=fun x y H Q=>∃ a b xs ys,x=.ref a∧y=.ref b∧SqT K H a xs∧SqT K H b ys∧xs.length+ys.length≤sizeLine ∧
 ∀ p H',SqT K H' p (xs++ys)→Same H H'→(H'=H∨(H p=none∧H'=upd H p (.tup (xs++ys))))→Q (.ref p) H'
theorem op_catT0:OpR X (binaryOp .Add) (rCatT0 X.K):=by
 intro pins s σ H x y v u Q I rx ry h;obtain⟨a,b,xs,ys,rfl,rfl,ha,hb,hz,q⟩:=h;cases rx;cases ry;obtain⟨its,r1,p1,_⟩:=I.tuple ha;obtain⟨its2,r2,p2,_⟩:=I.tuple hb;by_cases hx:xs=[]
 ·subst hx;have hi:its=[]:=r1.nil_iff.mpr rfl;subst hi;obtain⟨⟨cls,dd,data,sl⟩,ho,hc,n,hd⟩:=id p1;obtain⟨⟨cls2,dd2,data2,sl2⟩,ho2,hc2,n2,hd2⟩:=id p2;simp only at hc hd hc2 hd2;subst hc hd hc2 hd2;exact concat_meets ⟨_,ho,rfl⟩ ⟨_,ho2,rfl⟩ noFill_tuple_add seq_tuple_add PySem.F.slot_tuple_add PySem.F.entry_tuple_add (PySem.F.args_tuple_add_2 _ _)
   (tuple_addW0 _ _ _ _ _ _ _ _ _ _ (by simp)) ⟨ho,ho2,⟨.ref b,H,I,rfl,q b H hb (fun _ _ e=>e) (.inl rfl)⟩⟩
 ·refine HT.cat_tup p1 p2 (fun z=>hx (r1.nil_iff.mp z)) (fun z=>⟨.ref a,H,I,rfl,?_⟩) (fun z=>?_) (by rw[← r1.length,← r2.length];exact hz)
  ·have:ys=[]:=r2.nil_iff.mp z;subst this;rw[List.append_nil] at q;exact q a H ha (fun _ _ e=>e) (.inl rfl)
  ·have hf:H s.heap.objs.size=none:=I.hok.fresh (Nat.le_refl _);refine⟨.ref s.heap.objs.size,_,I.laid (t':=s.toks) (o:=.tup (xs++ys)) (fun b ob q=>Heap.get?_push_of_some _ q) (Nat.le_refl _) ?_,rfl,q _ _ (SqT.of (by simp[upd])) (fun b o e=>?_) (.inr ⟨hf,rfl⟩)⟩
   ·exact⟨by rw[List.length_append];exact hz,_,r1.append r2,IsTup.new _ _⟩
   ·have:b≠s.heap.objs.size:=fun w=>by rw[w,hf] at e;cases e
    simp[upd,this,e]
theorem catT0K (K:PySem.W.Frag)(h:X.K=K:=by rfl):OpR X (binaryOp .Add) (rCatT0 K):=by subst h;exact op_catT0
end
end L2
end
section
set_option Elab.async false
set_option linter.all false
set_option maxRecDepth 100000
namespace L2
open PySem PySem.Spec PyProof.Rows
section
variable {X:Cx}
structure Bt4 (mg:Str→Option Value):Prop where
 repr:mg "repr"=none
end
end L2
end
section
set_option Elab.async false
set_option linter.all false
set_option maxRecDepth 100000
namespace L2
open PySem PySem.Spec PyProof.Rows
section
variable {k m c:Nat}{d:PyData}{ds:List PyData}
end
end L2
end
section
set_option Elab.async false
set_option linter.all false
set_option maxRecDepth 100000
namespace L2
open PySem PySem.Spec PyProof.Rows
def kD:Key→PyData
 | .inl i=>.int i
 | .inr x=>.str x
def sD:V→PyData
 | .bl b=>.bool b
 | .int i=>.int i
 | .str x=>.str x
 | _=>.none
def isS:V→Bool
 | .non=>true
 | .bl _=>true
 | .int _=>true
 | .str _=>true
 | _=>false
mutual
inductive Dd (H:Hp):V→PyData→Prop
 | sc {x:V}:isS x=true→Dd H x (sD x)
 | tup {a:Addr} {xs:List V} {ds:List PyData}:H a=some (.tup xs)→Dds H xs ds→Dd H (.ref a) (.tuple ds)
 | lst {a:Addr} {xs:List V} {ds:List PyData}:H a=some (.lst xs)→Dds H xs ds→Dd H (.ref a) (.list ds)
 | dct {a:Addr} {kvs:List (Key×V)}:H a=some (.dK kvs)→(∀ kv∈kvs,isS kv.2=true)→Dd H (.ref a) (.dict (kvs.map fun kv=>(kD kv.1,sD kv.2)))
inductive Dds (H:Hp):List V→List PyData→Prop
 | nil:Dds H [] []
 | cons {x:V} {d:PyData} {xs:List V} {ds:List PyData}:Dd H x d→Dds H xs ds→Dds H (x::xs) (d::ds)
end
mutual
def noL:PyData→Bool
 | .list _=>false
 | .tuple xs=>noLs xs
 | .none=>true
 | .bool _=>true
 | .int _=>true
 | .str _=>true
 | .dict _=>true
def noLs:List PyData→Bool
 | []=>true
 | x::r=>noL x && noLs r
end
mutual
theorem Dd.same {H H':Hp}(s:Same H H'):∀ {x:V} {d:PyData},Dd H x d→Dd H' x d
 | _,_,.sc h=>.sc h
 | _,_,.tup e h=>.tup (s _ _ e) (Dds.same s h)
 | _,_,.lst e h=>.lst (s _ _ e) (Dds.same s h)
 | _,_,.dct e h=>.dct (s _ _ e) h
theorem Dds.same {H H':Hp}(s:Same H H'):∀ {xs:List V} {ds:List PyData},Dds H xs ds→Dds H' xs ds
 | _,_,.nil=>.nil
 | _,_,.cons h t=>.cons (Dd.same s h) (Dds.same s t)
end
section
variable {X:Cx}{pins:List (Addr×Obj)}{σ:St}{H:Hp}{s:Shared}
theorem sc_reads {h:Heap}{x:V}{u:Value}(hs:isS x=true)(r:RelV x u):Reads h u (sD x) []:=by
 cases x with
 | non=>cases (show u=Value.none from r);exact .none
 | bl b=>cases (show u=Value.bool b from r);exact .bool b
 | int i=>obtain⟨t,rfl⟩:=(show ∃ t,u=Value.int i t from r);exact .int i t
 | str x=>obtain⟨t,rfl⟩:=(show ∃ t,u=Value.str x t from r);exact .str x t
 | _=>cases hs
theorem keys_read {P:Program}{w:World}{h:Heap}:∀ {es:List DictEntry} {vs:List (Key×Value)} {kvs:List (Key×V)},Pairs (mixKind P w) es vs→KV kvs vs→(∀ kv∈kvs,isS kv.2=true) →
  ReadsAll h (es.map (·.key)) (kvs.map fun kv=>kD kv.1) []∧ReadsAll h (es.map (·.val)) (kvs.map fun kv=>sD kv.2) []
 | _,_,_,.nil,.nil,_=>⟨.nil,.nil⟩
 | _,_,_,.cons (e:=e) hk hv t,.cons (a:=kv) r q,hs=>by
  obtain⟨h1,h2⟩:=keys_read t q fun x hx=>hs x (List.mem_cons_of_mem _ hx)
  have a1:Reads h e.key (kD kv.1) []:=by
   have hk':=hk;rw[← r.1] at hk';rcases keyIs_shape hk' with ⟨i,t,e1,e2⟩ | ⟨x,t,e1,e2⟩
   ·rw[e1,e2];exact .int i t
   ·rw[e1,e2];exact .str x t
  have a2:Reads h e.val (sD kv.2) []:=by rw[hv];exact sc_reads (hs kv (List.mem_cons_self ..)) r.2
  exact⟨.cons (as:=[]) (bs:=[]) a1 h1,.cons (as:=[]) (bs:=[]) a2 h2⟩
mutual
theorem Inv.readsD (I:Inv X pins σ H s):∀ {x:V} {d:PyData} {u:Value},Dd H x d→RelV x u→∃ as,Reads s.heap u d as∧(noL d=true→sysModules∉as)
 | _,_,_,.sc h,r=>⟨[],sc_reads h r,fun _ z=>nomatch z⟩
 | _,_,_,.tup (a:=a) e hs,r=>by
  cases (show _=Value.ref a from r);obtain⟨z,its,rv,o,ho,hc,n,hd⟩:=I.hok a _ e;obtain⟨as,q,hn⟩:=Inv.readsDs I hs rv;exact⟨_,.tuple ho hc hd (by simpa using q),fun h=>hn (by rw[noL] at h;exact h)⟩
 | _,_,_,.lst (a:=a) e hs,r=>by
  cases (show _=Value.ref a from r);obtain⟨z,its,n,rv,ho⟩:=I.hok a _ e;obtain⟨as,q,hn⟩:=Inv.readsDs I hs rv;exact⟨_,.list ho rfl rfl (by simpa using q),fun h=>(by rw[noL] at h;cases h)⟩
 | _,_,_,.dct (a:=a) (kvs:=kvs) e hs,r=>by
  cases (show _=Value.ref a from r);obtain⟨z,hd,vs,rel,o,es,ep,ho,hx,hda,hk,hp,hn⟩:=dk_of I.hok e;obtain⟨h1,h2⟩:=keys_read (h:=s.heap) hp rel hs;refine⟨_,.dict (as:=[]) (bs:=[]) ho hx.1 hda ?_ ?_,fun _=>?_⟩
  ·rw[List.map_map];exact h1
  ·rw[List.map_map];exact h2
  ·intro z;have z':sysModules=a:=by simpa using z
   rw[← z'] at hd;simp at hd
theorem Inv.readsDs (I:Inv X pins σ H s):∀ {xs:List V} {ds:List PyData} {us:List Value},Dds H xs ds→Vals xs us→∃ as,ReadsAll s.heap us ds as∧(noLs ds=true→sysModules∉as)
 | _,_,_,.nil,.nil=>⟨_,.nil,fun _ z=>nomatch z⟩
 | _,_,_,.cons h t,.cons r q=>by
  obtain⟨as,h1,n1⟩:=Inv.readsD I h r;obtain⟨bs,h2,n2⟩:=Inv.readsDs I t q;refine⟨_,.cons h1 h2,fun hn=>?_⟩;rw[noLs,Bool.and_eq_true] at hn;intro z;rcases List.mem_append.mp z with z | z
  ·exact n1 hn.1 z
  ·exact n2 hn.2 z
end
structure Nx (k m:Nat)(d:PyData):Prop where
 mix:noL d=true∨d.hasDict=false
 sh:d.showable=true
 dp:d.depth≤k
 lv:d.leavesShort 100=true
 bk:d.bulk≤m
theorem Nx.fits {k m:Nat}{d:PyData}(h:Nx k m d)(hm:m≤100000):d.shown.length≤sizeLine:=by
 have h1:=PyData.shown_le_bulk 100 (by decide) d h.lv;have h2:=h.bk;rw[sizeLine_eq];omega
def cReprX:List V→Hp→VK→Prop:=fun xs H Q=>∃ (x:V) (d:PyData),xs=[x]∧Dd H x d∧Nx 50 100000 d∧Q (.str d.shown) H
theorem call_reprX (hg:X.A.guards=some [])(hu:X.A.units+64<cLine):CallR X (.builtin "repr") cReprX:=by
 intro pins s σ H xs us Q I r h;obtain⟨x,d,rfl,hd,hn,q⟩:=h;obtain⟨u,rfl,rx⟩:=vals1 r;have fin:∀ h' u tk,(∀ b o,s.heap.get? b=some o→h'.get? b=some o)→EP X pins σ Q (.str d.shown u) {s with heap:=h',toks:=tk}:=fun h' u tk hk=>⟨.str d.shown,H,I.kept (t':=tk) hk,⟨u,rfl⟩,q⟩
 have fits:=hn.fits (Nat.le_refl _);have ref:∀ {a:Addr},x=.ref a→wpAny (model X.prog X.w) X.A (call (.builtin "repr") [u]) (EP X pins σ Q) X.xe s:=fun {a} e=>by
  subst e;cases (show u=Value.ref a from rx);obtain⟨as,hr,hs⟩:=I.readsD hd rfl;refine PySem.repr_of_reads' hr hn.sh (fun hdict=>?_) hg (by have:=hn.dp;omega) (fun _ _ e=>e) fin fits;rcases hn.mix with h | h
  ·exact hs h
  ·rw[h] at hdict;cases hdict
 cases hd with
 | sc hs =>
  cases x with
  | non=>cases (show u=Value.none from rx);exact PySem.P.repr_of_none (fin s.heap _ _ fun _ _ e=>e)
  | bl b =>
   cases (show u=Value.bool b from rx);refine PySem.P.repr_of_bool ?_;have:=fin s.heap s.toks (s.toks+1) fun _ _ e=>e
   rw[show (sD (.bl b)).shown=(if b then "True" else "False":Str) from by show (PyData.bool b).shown=_;rw[PyData.shown_bool]] at this;cases b<;>exact this
  | int i =>
   obtain⟨t,rfl⟩:=(show ∃ t,u=Value.int i t from rx)
   have hsh:=hn.sh;refine PySem.P.repr_of_int (by have h:=hsh;rw[show sD (.int i)=PyData.int i from rfl,PyData.showable] at h;exact of_decide_eq_true h) ?_;have:=fin s.heap s.toks (s.toks+1) fun _ _ e=>e
   rw[show (sD (.int i)).shown=((toString i:String):Str) from PyData.shown_int i] at this;exact this
  | str y =>
   obtain⟨t,rfl⟩:=(show ∃ t,u=Value.str y t from rx)
   have e:(sD (.str y)).shown=reprText y:=PyData.shown_str y;rw[e] at fits;refine PySem.P.repr_of_str ?_ fits;have:=fin s.heap s.toks (s.toks+1) fun _ _ e=>e
   rw[e] at this;exact this
  | _=>cases hs
 | tup _ _=>exact ref rfl
 | lst _ _=>exact ref rfl
 | dct _ _=>exact ref rfl
theorem reprXK (hg:X.A.guards=some [])(hu:X.A.units+64<cLine):CallR X (.builtin "repr") cReprX:=call_reprX hg hu
end
end L2
end
section
set_option Elab.async false
set_option linter.all false
set_option maxRecDepth 100000
namespace L2
open PySem PySem.Spec PyProof.Rows
structure Nc (c k m:Nat)(d:PyData):Prop where
 nl:c≠2→noL d=true
 nd:c≠1→d.hasDict=false
 sh:d.showable=true
 dp:d.depth≤k
 lv:d.leavesShort 100=true
 bk:d.bulk≤m
structure Ncs (c k m:Nat)(ds:List PyData):Prop where
 nl:c≠2→noLs ds=true
 nd:c≠1→PyData.hasDictAll ds=false
 sh:PyData.showableAll ds=true
 dp:PyData.depthAll ds≤k
 lv:PyData.leavesShortAll 100 ds=true
 bk:PyData.bulkAll ds≤m
section
variable {c k m:Nat}{d:PyData}{ds:List PyData}{H:Hp}
theorem Nc.nx (h:Nc c k m d)(hk:k≤50)(hm:m≤100000):Nx 50 100000 d:=by
 refine⟨?_,h.sh,Nat.le_trans h.dp hk,h.lv,Nat.le_trans h.bk hm⟩;by_cases e:c=2
 ·exact .inr (h.nd (by omega))
 ·exact .inl (h.nl e)
theorem Nc.mono {k' m':Nat}(h:Nc c k m d)(hk:k≤k')(hm:m≤m'):Nc c k' m' d:=⟨h.nl,h.nd,h.sh,Nat.le_trans h.dp hk,h.lv,Nat.le_trans h.bk hm⟩
theorem Nc.kind {c':Nat}(h:Nc 0 k m d):Nc c' k m d:=⟨fun _=>h.nl (by decide),fun _=>h.nd (by decide),h.sh,h.dp,h.lv,h.bk⟩
theorem Ncs.nil:Ncs c k m []:=⟨fun _=>by rw[noLs],fun _=>by rw[PyData.hasDictAll],by rw[PyData.showableAll],by rw[PyData.depthAll];exact Nat.zero_le _,by rw[PyData.leavesShortAll],by rw[PyData.bulkAll];exact Nat.zero_le _⟩
theorem Ncs.cons {m':Nat}(h:Nc c k m d)(t:Ncs c k m' ds):Ncs c k (m+1+m') (d::ds):=by
 refine⟨fun e=>?_,fun e=>?_,?_,?_,?_,?_⟩
 ·rw[noLs,h.nl e,t.nl e];rfl
 ·rw[PyData.hasDictAll,h.nd e,t.nd e];rfl
 ·rw[PyData.showableAll,h.sh,t.sh];rfl
 ·rw[PyData.depthAll];exact Nat.max_le.mpr ⟨h.dp,t.dp⟩
 ·rw[PyData.leavesShortAll,h.lv,t.lv];rfl
 ·rw[PyData.bulkAll];have:=h.bk;have:=t.bk;omega
theorem Ncs.all:∀ {ds:List PyData},(∀ d∈ds,Nc c k m d)→Ncs c k (ds.length*(m+1)) ds
 | [],_=>.nil
 | d::r,h=>by
  have:=Ncs.cons (h d (List.mem_cons_self ..)) (Ncs.all (ds:=r) fun x hx=>h x (List.mem_cons_of_mem _ hx));rw[List.length_cons,Nat.succ_mul,Nat.add_comm];exact this
theorem Nc.tup (h:Ncs c k m ds):Nc c (k+1) m (.tuple ds):=by
 refine⟨fun e=>?_,fun e=>?_,?_,?_,?_,?_⟩
 ·rw[noL];exact h.nl e
 ·rw[PyData.hasDict];exact h.nd e
 ·rw[PyData.showable];exact h.sh
 ·rw[PyData.depth];have:=h.dp;omega
 ·rw[PyData.leavesShort];exact h.lv
 ·rw[PyData.bulk];exact h.bk
theorem Nc.lst (h:Ncs 0 k m ds):Nc 2 (k+1) m (.list ds):=by
 refine⟨fun e=>absurd rfl e,fun e=>?_,?_,?_,?_,?_⟩
 ·rw[PyData.hasDict];exact h.nd (by decide)
 ·rw[PyData.showable];exact h.sh
 ·rw[PyData.depth];have:=h.dp;omega
 ·rw[PyData.leavesShort];exact h.lv
 ·rw[PyData.bulk];exact h.bk
theorem Nc.lst2 (h:Ncs 2 k m ds):Nc 2 (k+1) m (.list ds):=by
 refine⟨fun e=>absurd rfl e,fun e=>?_,?_,?_,?_,?_⟩
 ·rw[PyData.hasDict];exact h.nd (by decide)
 ·rw[PyData.showable];exact h.sh
 ·rw[PyData.depth];have:=h.dp;omega
 ·rw[PyData.leavesShort];exact h.lv
 ·rw[PyData.bulk];exact h.bk
def Sm (i:Int):Prop:=i.natAbs.log2<1920∧(PyData.shown (.int i)).length≤100
theorem sm_of {i:Int}(h:i.natAbs<10 ^ 12):Sm i:=by
 refine⟨?_,Nat.le_trans (PyData.shown_int_le h) (by decide)⟩;have h12:(10:Nat) ^ 12=1000000000000:=by decide
 have h40:(2:Nat) ^ 40=1099511627776:=by decide
 rcases Nat.eq_zero_or_pos i.natAbs with e | e
 ·rw[e];decide
 ·have:i.natAbs.log2<40:=(Nat.log2_lt (by omega)).mpr (by omega);omega
theorem Nc.int {i:Int}(h:Sm i):Nc c k m (.int i):=by
 refine⟨fun _=>by rw[noL],fun _=>by rw[PyData.hasDict],?_,?_,?_,?_⟩
 ·rw[PyData.showable,decide_eq_true_iff];exact h.1
 ·rw[PyData.depth];exact Nat.zero_le _
 ·rw[PyData.leavesShort,decide_eq_true_iff];exact h.2
 ·rw[PyData.bulk];exact Nat.zero_le _
theorem Nc.bool {b:Bool}:Nc c k m (.bool b):=⟨fun _=>by rw[noL],fun _=>by rw[PyData.hasDict],by rw[PyData.showable],by rw[PyData.depth];exact Nat.zero_le _,by rw[PyData.leavesShort],by rw[PyData.bulk];exact Nat.zero_le _⟩
theorem Nc.none:Nc c k m .none:=⟨fun _=>by rw[noL],fun _=>by rw[PyData.hasDict],by rw[PyData.showable],by rw[PyData.depth];exact Nat.zero_le _,by rw[PyData.leavesShort],by rw[PyData.bulk];exact Nat.zero_le _⟩
theorem Nc.str {x:Str}(h1:(x.cps.toList.all fun c=>decide (c<16 ^ 8))=true)(h2:x.cps.size≤m):Nc c k m (.str x):=⟨fun _=>by rw[noL],fun _=>by rw[PyData.hasDict],by rw[PyData.showable],by rw[PyData.depth];exact Nat.zero_le _,by rw[PyData.leavesShort];exact h1,by rw[PyData.bulk];exact h2⟩
theorem Nc.dict0:Nc 1 (k+1) m (.dict []):=by
 refine⟨fun _=>by rw[noL],fun e=>absurd rfl e,?_,?_,?_,?_⟩
 ·rw[PyData.showable,PyData.showableKv]
 ·rw[PyData.depth,PyData.depthKv];exact Nat.le_add_left _ _
 ·rw[PyData.leavesShort,PyData.leavesShortKv]
 ·rw[PyData.bulk,PyData.bulkKv];exact Nat.zero_le _
def Tg (H:Hp)(c k m:Nat)(v:V):Prop:=∃ d,Dd H v d∧Nc c k m d
theorem Tg.same {H':Hp}{v:V}(s:Same H H')(h:Tg H c k m v):Tg H' c k m v:=let ⟨d,h1,h2⟩:=h;⟨d,h1.same s,h2⟩
theorem Tg.mono {k' m':Nat}{v:V}(h:Tg H c k m v)(hk:k≤k')(hm:m≤m'):Tg H c k' m' v:=let ⟨d,h1,h2⟩:=h;⟨d,h1,h2.mono hk hm⟩
theorem Tg.kind {c':Nat}{v:V}(h:Tg H 0 k m v):Tg H c' k m v:=let ⟨d,h1,h2⟩:=h;⟨d,h1,h2.kind⟩
theorem Tg.int {i:Int}(h:Sm i):Tg H c k m (.int i):=⟨_,.sc rfl,.int h⟩
theorem Tg.bl {b:Bool}:Tg H c k m (.bl b):=⟨_,.sc rfl,.bool⟩
theorem Tg.non:Tg H c k m .non:=⟨_,.sc rfl,.none⟩
theorem Tg.str {x:Str}(h1:(x.cps.toList.all fun c=>decide (c<16 ^ 8))=true)(h2:x.cps.size≤m):Tg H c k m (.str x):=⟨_,.sc rfl,.str h1 h2⟩
theorem dds_of:∀ {xs:List V},(∀ x∈xs,Tg H c k m x)→∃ ds,Dds H xs ds∧Ncs c k (xs.length*(m+1)) ds
 | [],_=>⟨[],.nil,.nil⟩
 | x::r,h=>by
  obtain⟨d,h1,h2⟩:=h x (List.mem_cons_self ..);obtain⟨ds,h3,h4⟩:=dds_of (xs:=r) fun y hy=>h y (List.mem_cons_of_mem _ hy)
  refine⟨d::ds,.cons h1 h3,?_⟩;have:=Ncs.cons h2 h4;rw[List.length_cons,Nat.succ_mul,Nat.add_comm];exact this
theorem Tg.tup {a:Addr}{xs:List V}(e:H a=some (.tup xs))(h:∀ x∈xs,Tg H c k m x):Tg H c (k+1) (xs.length*(m+1)) (.ref a):=by
 obtain⟨ds,h1,h2⟩:=dds_of h;exact⟨_,.tup e h1,.tup h2⟩
theorem Tg.lst {a:Addr}{xs:List V}(e:H a=some (.lst xs))(h:∀ x∈xs,Tg H 2 k m x):Tg H 2 (k+1) (xs.length*(m+1)) (.ref a):=by
 obtain⟨ds,h1,h2⟩:=dds_of h;exact⟨_,.lst e h1,.lst2 h2⟩
theorem Tg.dict0 {a:Addr}(e:H a=some (.dK [])):Tg H 1 (k+1) m (.ref a):=⟨_,.dct e (fun kv h=>nomatch h),.dict0⟩
theorem Tg.repr {v:V}{Q:VK}(h:Tg H c k m v)(hk:k≤50)(hm:m≤100000)(q:∀ x,(∀ {H':Hp} {Q':VK},Same H H'→Q' (.str x) H'→cReprX [v] H' Q')→Q (.str x) H):cReprX [v] H Q:=by
 obtain⟨d,h1,h2⟩:=h;exact⟨v,d,rfl,h1,h2.nx hk hm,q _ fun s q'=>⟨v,d,rfl,h1.same s,h2.nx hk hm,q'⟩⟩
theorem dd_mem:∀ {xs:List V} {ds:List PyData},Dds H xs ds→∀ x∈xs,∃ d,Dd H x d
 | _,_,.nil,x,hx=>nomatch hx
 | _,_,.cons h t,x,hx=>by
  rcases List.mem_cons.mp hx with rfl | hx
  ·exact⟨_,h⟩
  ·exact dd_mem t x hx
theorem Dd.pl {v:V}{d:PyData}(h:Dd H v d):∃ T,Pl H v T:=by
 cases h with
 | sc hs =>
  cases v with
  | non=>exact⟨_,.non⟩
  | bl b=>exact⟨_,.bl b⟩
  | int i=>exact⟨_,.int i⟩
  | str x=>exact⟨_,.str x⟩
  | _=>cases hs
 | tup e _=>exact⟨_,.tup e⟩
 | lst e _=>exact⟨_,.lst e⟩
 | dct e _=>exact⟨_,.dK e⟩
theorem Dd.pld:∀ {m:Nat} {v:V} {d:PyData},Dd H v d→PlD H m v
 | 0,_,_,h=>h.pl
 | m+1,v,d,h=>⟨h.pl,fun a ys e ea z hz=>by
  subst e;cases h with
  | sc hs=>cases hs
  | tup e2 hs =>
   rw[ea] at e2;cases e2;obtain⟨d',h'⟩:=dd_mem hs z hz;exact Dd.pld h'
  | lst e2 _=>rw[ea] at e2;cases e2
  | dct e2 _=>rw[ea] at e2;cases e2⟩
theorem Tg.pld {n:Nat}{v:V}(h:Tg H c k m v):PlD H n v:=let ⟨_,h1,_⟩:=h;h1.pld
end
end L2
end
section
set_option Elab.async false
set_option linter.all false
set_option maxRecDepth 100000
namespace L2
open PySem
def TurnF (g:TG)(tc:TT)(te:TE)(p:Addr)(fr:St)(H1:Hp)(x:V)(c:Bool)(f:V)(N:Nat):Prop :=
 ∀ (v:Option V) (ys:List V) (R:St→Hp→Prop),ys.length≤N→(c=true→∀ v',R (v'::fr) (upd (upd H1 p (.lst ys)) p (.lst (ys++[f]))))→(c=false→∀ v',R (v'::fr) (upd H1 p (.lst ys))) →
  g x (v::fr) (upd H1 p (.lst ys)) fun τ2 H2=>tc τ2 H2 fun b H3=>if b=true then te τ2 H3 fun w H4=>∃ zs,H4 p=some (.lst zs)∧zs.length<sizeLine∧R τ2 (upd H4 p (.lst (zs++[w]))) else R τ2 H3
theorem turn_len {α:Type}(c:α→Bool)(f:α→V)(l:List α):((l.filter c).map f).length≤l.length:=by rw[List.length_map];exact List.length_filter_le _ _
theorem fm_snoc {α:Type}(c:α→Bool)(f:α→V)(l:List α)(x:α):((l++[x]).filter c).map f=(l.filter c).map f++(if c x=true then [f x] else []):=by
 rw[List.filter_append,List.map_append];congr 1;by_cases h:c x=true
 ·rw[List.filter_cons_of_pos h,if_pos h];rfl
 ·rw[List.filter_cons_of_neg h,if_neg h];rfl
theorem fil_true {α:Type}(l:List α):l.filter (fun _=>true)=l:=List.filter_eq_self.mpr fun _ _=>rfl
section
variable {K:PySem.W.Frag}{a p:Addr}{g:TG}{tc:TT}{te:TE}{fr:St}{H1:Hp}{EE:Hp→Prop}
theorem lc_rangeF {n:Nat}(c:Int→Bool)(f:Int→V)(hn:n≤16000000)(hs:∀ x:Int,0≤x→x<n→TurnF g tc te p fr H1 (.int x) (c x) (f x) n)
  (hd:EE (upd H1 p (.lst (((rInts 0 n).filter c).map f)))):lcW g tc te p (Itr 0 n) (none::fr) (upd H1 p (.lst [])) EE:=by
 refine lc_range (fun i τ H=>i≤n∧(∃ v,τ=v::fr)∧H=upd H1 p (.lst (((rInts 0 i).filter c).map f))) ⟨Nat.zero_le _,⟨_,rfl⟩,rfl⟩ ?_ ?_
 ·rintro i τ H hi ⟨_,⟨v,rfl⟩,rfl⟩;have e:rInts 0 (i+1)=rInts 0 i++[(0:Int)+i]:=by unfold rInts;rw[List.range_succ,List.map_append];rfl
  refine hs ((0:Int)+i) (by omega) (by omega) v _ _ (Nat.le_trans (turn_len c f _) (by rw[rInts_length];omega)) (fun h v'=>?_) fun h v'=>?_
  ·refine⟨by omega,⟨_,rfl⟩,?_⟩;rw[upd_upd,e,fm_snoc,if_pos h]
  ·refine⟨by omega,⟨_,rfl⟩,?_⟩;rw[e,fm_snoc,if_neg (by rw[h];simp),List.append_nil]
 ·rintro τ H ⟨_,_,rfl⟩;exact hd
theorem take_snoc {α:Type}{l:List α}{i:Nat}{x:α}(h:l[i]?=some x):l.take (i+1)=l.take i++[x]:=by rw[List.take_succ,h];rfl
theorem lc_listF {α:Type}{xs:List α}(V0:α→V)(c:α→Bool)(f:α→V)(hn:xs.length≤16000000)(hl:SqL K H1 a (xs.map V0))(hp:H1 p=none)(hs:∀ x∈xs,TurnF g tc te p fr H1 (V0 x) (c x) (f x) xs.length)
  (hd:EE (upd H1 p (.lst ((xs.filter c).map f)))):lcW g tc te p (Itl K a) (none::fr) (upd H1 p (.lst [])) EE:=by
 refine lc_list (xs:=xs.map V0) (fun i τ H=>(∃ v,τ=v::fr)∧H=upd H1 p (.lst (((xs.take i).filter c).map f))) ⟨⟨_,rfl⟩,by simp⟩ ?_ ?_ ?_
 ·rintro i τ H _ ⟨_,rfl⟩;exact ((Same.refl H1).upd hp).seq hl
 ·rintro i x τ H hx ⟨⟨v,rfl⟩,rfl⟩ _;rw[List.getElem?_map] at hx;cases h0:xs[i]? with
  | none=>rw[h0] at hx;cases hx
  | some y =>
  rw[h0] at hx;cases Option.some.inj hx;have hi:=(List.getElem?_eq_some_iff.mp h0).1;refine hs y (List.mem_of_getElem? h0) v _ _ (Nat.le_trans (turn_len c f _) (by rw[List.length_take];omega)) (fun h v'=>?_) fun h v'=>?_
  ·refine⟨⟨_,rfl⟩,?_⟩;rw[upd_upd,take_snoc h0,fm_snoc,if_pos h]
  ·refine⟨⟨_,rfl⟩,?_⟩;rw[take_snoc h0,fm_snoc,if_neg (by rw[h];simp),List.append_nil]
 ·rintro τ H ⟨_,rfl⟩;rw[List.length_map,List.take_length];exact hd
theorem lc_tupF {α:Type}{xs:List α}(V0:α→V)(c:α→Bool)(f:α→V)(hn:xs.length≤16000000)(hl:SqT K H1 a (xs.map V0))(hp:H1 p=none)(hs:∀ x∈xs,TurnF g tc te p fr H1 (V0 x) (c x) (f x) xs.length)
  (hd:EE (upd H1 p (.lst ((xs.filter c).map f)))):lcW g tc te p (Itt K a) (none::fr) (upd H1 p (.lst [])) EE:=by
 refine lc_tup (xs:=xs.map V0) (fun i τ H=>(∃ v,τ=v::fr)∧H=upd H1 p (.lst (((xs.take i).filter c).map f))) ⟨⟨_,rfl⟩,by simp⟩ ?_ ?_ ?_
 ·rintro i τ H _ ⟨_,rfl⟩;exact ((Same.refl H1).upd hp).seqT hl
 ·rintro i x τ H hx ⟨⟨v,rfl⟩,rfl⟩;rw[List.getElem?_map] at hx;cases h0:xs[i]? with
  | none=>rw[h0] at hx;cases hx
  | some y =>
  rw[h0] at hx;cases Option.some.inj hx;have hi:=(List.getElem?_eq_some_iff.mp h0).1;refine hs y (List.mem_of_getElem? h0) v _ _ (Nat.le_trans (turn_len c f _) (by rw[List.length_take];omega)) (fun h v'=>?_) fun h v'=>?_
  ·refine⟨⟨_,rfl⟩,?_⟩;rw[upd_upd,take_snoc h0,fm_snoc,if_pos h]
  ·refine⟨⟨_,rfl⟩,?_⟩;rw[take_snoc h0,fm_snoc,if_neg (by rw[h];simp),List.append_nil]
 ·rintro τ H ⟨_,rfl⟩;rw[List.length_map,List.take_length];exact hd
theorem turn_ite {fr:St}{H1:Hp}{p:Addr}{ys:List V}{w:V}{N:Nat}{R:St→Hp→Prop}{v:Option V}{b c:Bool}(e:b=c)(hl:ys.length≤N)(hN:N≤16000000)
  (h1:c=true→∀ v',R (v'::fr) (upd (upd H1 p (.lst ys)) p (.lst (ys++[w])))) (h2:c=false→∀ v',R (v'::fr) (upd H1 p (.lst ys))) :
  if b=true then ∃ zs,upd H1 p (.lst ys) p=some (.lst zs)∧zs.length<sizeLine∧R (v::fr) (upd (upd H1 p (.lst ys)) p (.lst (zs++[w]))) else R (v::fr) (upd H1 p (.lst ys)):=by
 subst e;by_cases hb:b=true
 ·rw[if_pos hb];exact⟨ys,upd_same,sizeBig (by omega),h1 hb v⟩
 ·rw[if_neg hb];exact h2 (by simpa using hb) v
theorem turn_yes {fr:St}{H1:Hp}{p:Addr}{ys:List V}{w:V}{N:Nat}{R:St→Hp→Prop}{v:Option V}(hl:ys.length≤N)(hN:N≤16000000)(h1:true=true→∀ v',R (v'::fr) (upd (upd H1 p (.lst ys)) p (.lst (ys++[w])))) :
  ∃ zs,upd H1 p (.lst ys) p=some (.lst zs)∧zs.length<sizeLine∧R (v::fr) (upd (upd H1 p (.lst ys)) p (.lst (zs++[w]))):=⟨ys,upd_same,sizeBig (by omega),h1 rfl v⟩
end
end L2
end
section
set_option Elab.async false
set_option linter.all false
set_option maxRecDepth 100000
namespace HT
open PySem PyProof.Rows
section
variable {prog:Program}{w:World}{A:Around}{E:Value→Shared→Prop}{s:Shared}
theorem getItem_tuple_whole {t sl:Addr}{items:Array Value}{vl vu:Value}{lo hi:Option Int}{Q:Value→Shared→Prop}(ht:IsTup s.heap t items)(hs:s.heap.IsSliceOf sl vl vu .none)(pl:IsPart vl lo)(pu:IsPart vu hi)
  (hw:sIx items.size 0 lo=0∧sIx items.size items.size hi=items.size) (h:Q (.ref t) s):wpAny (model prog w) A (getItem (.ref t) (.ref sl)) Q E s:=by
 obtain⟨os,hos,hcs,hds⟩:=id hs;have hTs:s.TypeIs (.ref sl) "slice":=⟨os,hos,hcs⟩
 unfold getItem;try with_reducible refine wpAny_holding ?_
 first | refine wpAny_bind (wpAny_pure ?_) | skip
 refine wpAny_bind (wpAny_sequenceKey ht.typeIs (by decide) ?_)
 refine wpAny_bind (wpAny_callSpecial?_slot (name:=Str.ofString "__getitem__") ht.typeIs PyProof.Rows.slot_tuple_getitem
  (wpAny_call_entry PyProof.Rows.slot_tuple_getitem ht.typeIs entry_tuple_getitem ?_ (args_tuple_getitem _ _)))
 show wpAny _ _ (Builtin.Tuple.tupleItemsOf (.ref t) >>= _) _ _ s;refine wpAny_bind (tupleItemsOf_ ht ?_);refine wpAny_bind (wpAny_typeOf hTs ?_);rw[if_pos (by decide)];refine wpAny_bind (sliceApplied_gen hs pl pu ?_);have hyes:(((sIx items.size 0 lo:Nat):Int) == 0 && (1:Int) == 1 && (sIx items.size items.size hi-sIx items.size 0 lo) == items.size)=true:=by
  rw[hw.1,hw.2];simp
 show wpAny _ _ (if (((sIx items.size 0 lo:Nat):Int) == 0 && (1:Int) == 1 && (sIx items.size items.size hi-sIx items.size 0 lo) == items.size)=true then _ else _) _ _ s;rw[if_pos hyes];refine wpAny_bind ?_;unfold Builtin.Tuple.tupleIsExact;refine wpAny_bind (wpAny_typeOf ht.typeIs (wpAny_pure ?_));rw[if_pos (by decide)];refine wpAny_bind (wpAny_rule ?_);exact wpAny_pure ⟨_,rfl,wpAny_pure h⟩
end
end HT
namespace L2
open PySem PySem.Spec PyProof.Rows
section
variable {X:Cx}
end
section
variable {K:PySem.W.Frag}{a p:Addr}{g:TG}{tc:TT}{te tv:TE}{fr:St}{H1:Hp}{EE:Hp→Prop}
theorem dc_setF {us:List Int}(hl:SqT K H1 a (us.map V.int))(hp:H1 p=none)(hn:us.length≤100000)
  (hs:∀ u∈us,∀ (v:Option V) (fs:List Int) (R:St→Hp→Prop),fs.length≤100000→(∀ v',R (v'::fr) (upd (upd H1 p (.dK (kvI fs))) p (.dK (putK (kvI fs) (Sum.inl u) (V.bl true))))) →
   g (.int u) (v::fr) (upd H1 p (.dK (kvI fs))) fun τ2 H2=>tc τ2 H2 fun b H3=>if b=true then te τ2 H3 fun k H4=>tv τ2 H4 fun w H5=>∃ H6,DPut H5 p k w H6∧R τ2 H6 else R τ2 H3)
  (hd:∀ fs:List Int,fs.Nodup→(∀ x,x∈fs↔x∈us)→fs.length≤us.length→EE (upd H1 p (.dK (kvI fs)))):dcW g tc te tv p (Itt K a) (none::fr) (upd H1 p (.dK [])) EE:=by
 refine dc_tup (xs:=us.map V.int) (fun i τ H=>(∃ v,τ=v::fr)∧∃ fs:List Int,H=upd H1 p (.dK (kvI fs))∧fs.Nodup∧fs.length≤i∧∀ x,x∈fs↔x∈us.take i) ⟨⟨_,rfl⟩,[],rfl,List.nodup_nil,Nat.le_refl _,by simp⟩ ?_ ?_ ?_
 ·rintro i τ H _ ⟨_,fs,rfl,_⟩;exact ((Same.refl H1).upd hp).seqT hl
 ·rintro i x τ H hx ⟨⟨v,rfl⟩,fs,rfl,hnd,hfl,hm⟩;rw[List.getElem?_map] at hx;cases h0:us[i]? with
  | none=>rw[h0] at hx;cases hx
  | some y =>
  rw[h0] at hx;cases Option.some.inj hx;have hi:=(List.getElem?_eq_some_iff.mp h0).1;refine hs y (List.mem_of_getElem? h0) v fs _ (by omega) fun v'=>⟨⟨_,rfl⟩,addI fs y,?_,nd_addI hnd,?_,fun z=>?_⟩
  ·rw[upd_upd,put_kvI]
  ·have:=len_addI (us:=fs) (x:=y);omega
  ·rw[mem_addI,hm,take_snoc h0];simp
 ·rintro τ H ⟨_,fs,rfl,hnd,hfl,hm⟩;rw[List.length_map] at hfl hm;rw[List.take_length] at hm;exact hd fs hnd hm hfl
end
theorem cut_hi (l:List Int){k:Int}(h:0≤k):cutV (l.map V.int) none (some k)=(l.take k.toNat).map V.int:=by
 have e:HT.sIx (l.map V.int).length (l.map V.int).length (some k)=min k.toNat l.length:=by
  show (if k<0 then _ else _)=_;rw[if_neg (by omega),List.length_map]
 unfold cutV;rw[e,HT.sIx_none,List.drop_zero,Nat.sub_zero,← List.map_take];congr 1;rcases Nat.le_total k.toNat l.length with h1 | h1
 ·rw[Nat.min_eq_left h1]
 ·rw[Nat.min_eq_right h1,List.take_length,List.take_of_length_le h1]
theorem cut_lo (l:List Int){k:Int}(h:0≤k):cutV (l.map V.int) (some k) none=(l.drop k.toNat).map V.int:=by
 have e:HT.sIx (l.map V.int).length 0 (some k)=min k.toNat l.length:=by
  show (if k<0 then _ else _)=_;rw[if_neg (by omega),List.length_map]
 unfold cutV;rw[e,HT.sIx_none,← List.map_drop,← List.map_take,List.length_map];congr 1;rcases Nat.le_total k.toNat l.length with h1 | h1
 ·rw[Nat.min_eq_left h1];exact List.take_of_length_le (by rw[List.length_drop];exact Nat.le_refl _)
 ·rw[Nat.min_eq_right h1,List.drop_length,List.drop_eq_nil_of_le h1,List.take_nil]
theorem cut_mem {l:List Int}{lo hi:Option Int}:∃ r:List Int,cutV (l.map V.int) lo hi=r.map V.int∧r.Sublist l:=by
 unfold cutV;exact⟨_,by rw[← List.map_drop,← List.map_take],(List.take_sublist _ _).trans (List.drop_sublist _ _)⟩
theorem RowsAt.zip {H:Hp}{p:Addr}{as:List Addr}{rows:List (List Int)}(h:RowsAt H p as rows):as.map V.ref=(as.zip rows).map (fun x=>V.ref x.1)∧∀ x∈as.zip rows,H x.1=some (.lst (x.2.map V.int)):=by
 constructor
 ·have:as=(as.zip rows).map (·.1):=by rw[List.map_fst_zip (by rw[h.len];exact Nat.le_refl _)]
  rw[show (as.zip rows).map (fun x=>V.ref x.1)=((as.zip rows).map (·.1)).map V.ref by rw[List.map_map];rfl,← this]
 ·intro x hx;obtain⟨i,hi,e⟩:=List.getElem_of_mem hx;have h1:(as.zip rows)[i]?=some x:=by rw[List.getElem?_eq_getElem hi,e]
  rw[List.getElem?_zip_eq_some] at h1;exact h.row i _ _ h1.1 h1.2
structure StOk (n:Int)(us bs:List Int):Prop where
 ul:us.Pairwise (·<·)
 bl:bs.Pairwise (·<·)
 ur:∀ x∈us,0≤x∧x<n
 br:∀ x∈bs,0≤x∧x<n
 ap:∀ x∈us,x∉bs
def freeP (n:Int)(hs bs:List Int):List Int:=(rInts 0 n.toNat).filter fun x=>!decide (x∈hs++bs)
theorem atI_gain {n:Int}{f:Int→Int}{u:Int}(h0:0≤u)(h1:u<n):atI ((rInts 0 n.toNat).map fun v=>V.int (f v)) u=some (.int (f u)):=by
 unfold atI ixN;rw[List.length_map,rInts_length,if_pos h0,if_pos (by omega)];show ((rInts 0 n.toNat).map fun v=>V.int (f v))[u.toNat]?=_;rw[List.getElem?_map,rInts_get (by omega)];show some (V.int (f (0+(u.toNat:Int))))=_;rw[show (0:Int)+(u.toNat:Int)=u by omega]
end L2
end
section
set_option Elab.async false
set_option linter.all false
set_option maxRecDepth 100000
namespace L2
open PySem PySem.Spec PyProof.Rows
section
variable {X:Cx}
def rSlT1 (K:PySem.W.Frag):V→Option Int→Option Int→Hp→VK→Prop:=fun x lo hi H Q=>∃ a xs,x=.ref a∧SqT K H a xs ∧
 (HT.sIx xs.length 0 lo=0∧HT.sIx xs.length xs.length hi=xs.length→Q (.ref a) H)∧(¬ (HT.sIx xs.length 0 lo=0∧HT.sIx xs.length xs.length hi=xs.length)→∀ p,H p=none→Q (.ref p) (upd H p (.tup (cutV xs lo hi))))
theorem sl_tup1:SlR X (rSlT1 X.K):=by
 intro pins s σ H x v vl vu lo hi sl Q I rx hs pl pu h;obtain⟨a,xs,rfl,hx,q1,q2⟩:=h;cases rx;obtain⟨its,r,ht,hz⟩:=I.tuple hx;have hlen:its.toArray.size=xs.length:=by rw[List.size_toArray];exact r.length.symm
 refine⟨"tuple",_,PyProof.Rows.slot_tuple_getitem.lookup,ht.typeIs,?_⟩;by_cases hw:HT.sIx xs.length 0 lo=0∧HT.sIx xs.length xs.length hi=xs.length
 ·exact HT.getItem_tuple_whole ht hs pl pu (by rw[hlen];exact hw) ⟨.ref a,H,I,rfl,q1 hw⟩
 ·refine HT.getItem_tuple_cut ht hs pl pu (by rw[hlen];exact hw) ?_ (by rw[hlen];exact hz);rw[hlen];have hf:H s.heap.objs.size=none:=I.hok.fresh (Nat.le_refl _);refine⟨.ref s.heap.objs.size,_,I.laid (t':=s.toks) (o:=.tup (cutV xs lo hi)) (fun b ob q=>Heap.get?_push_of_some _ q) (Nat.le_refl _) ?_,rfl,q2 hw _ hf⟩;exact⟨Nat.le_trans (cutV_length xs lo hi) hz,_,(r.drop (HT.sIx xs.length 0 lo)).take (HT.sIx xs.length xs.length hi-HT.sIx xs.length 0 lo),IsTup.new _ _⟩
theorem sl_tup1K (K:PySem.W.Frag)(h:X.K=K:=by rfl):SlR X (rSlT1 K):=by subst h;exact sl_tup1
end
end L2
end
section
set_option Elab.async false
set_option linter.all false
namespace L2
open PySem PySem.Spec PyProof.Rows
section
variable {X:Cx}
def rCatT1 (K:PySem.W.Frag):R2:=fun x y H Q=>∃ a b xs ys,x=.ref a∧y=.ref b∧SqT K H a xs∧SqT K H b ys∧xs.length+ys.length≤sizeLine ∧
 (xs=[]→Q (.ref b) H)∧(xs≠[]→ys=[]→Q (.ref a) H)∧(xs≠[]→ys≠[]→∀ p,H p=none→Q (.ref p) (upd H p (.tup (xs++ys))))
theorem op_catT1:OpR X (binaryOp .Add) (rCatT1 X.K):=by
 intro pins s σ H x y v u Q I rx ry h;obtain⟨a,b,xs,ys,rfl,rfl,ha,hb,hz,q1,q2,q3⟩:=h;cases rx;cases ry;obtain⟨its,r1,p1,_⟩:=I.tuple ha;obtain⟨its2,r2,p2,_⟩:=I.tuple hb;by_cases hx:xs=[]
 ·have hi:its=[]:=r1.nil_iff.mpr hx;subst hi;obtain⟨⟨cls,dd,data,sl⟩,ho,hc,n,hd⟩:=id p1;obtain⟨⟨cls2,dd2,data2,sl2⟩,ho2,hc2,n2,hd2⟩:=id p2;simp only at hc hd hc2 hd2;subst hc hd hc2 hd2;exact concat_meets ⟨_,ho,rfl⟩ ⟨_,ho2,rfl⟩ noFill_tuple_add seq_tuple_add PySem.F.slot_tuple_add PySem.F.entry_tuple_add (PySem.F.args_tuple_add_2 _ _)
   (tuple_addW0 _ _ _ _ _ _ _ _ _ _ (by simp)) ⟨ho,ho2,⟨.ref b,H,I,rfl,q1 hx⟩⟩
 ·refine HT.cat_tup p1 p2 (fun z=>hx (r1.nil_iff.mp z)) (fun z=>⟨.ref a,H,I,rfl,q2 hx (r2.nil_iff.mp z)⟩) (fun z=>?_) (by rw[← r1.length,← r2.length];exact hz);refine⟨.ref s.heap.objs.size,_,I.laid (t':=s.toks) (o:=.tup (xs++ys)) (fun b ob q=>Heap.get?_push_of_some _ q) (Nat.le_refl _) ?_,rfl,q3 hx (fun w=>z (r2.nil_iff.mpr w)) _ (I.hok.fresh (Nat.le_refl _))⟩;exact⟨by rw[List.length_append];exact hz,_,r1.append r2,IsTup.new _ _⟩
theorem catT1K (K:PySem.W.Frag)(h:X.K=K:=by rfl):OpR X (binaryOp .Add) (rCatT1 K):=by subst h;exact op_catT1
end
end L2
end
section
set_option Elab.async false
set_option linter.all false
set_option maxRecDepth 100000
namespace L2
open PySem PySem.Spec PyProof.Rows
open Classical in
noncomputable def hid (A:Addr→Prop)(H:Hp):Hp:=fun a=>if A a then none else H a
def Av (A:Addr→Prop)(H:Hp):Prop:=∀ a,A a→∃ ys,H a=some (.lst ys)
section
variable {A:Addr→Prop}{d p:Addr}{H H':Hp}
theorem hid_ne {a:Addr}(h:¬ A a):hid A H a=H a:=if_neg h
theorem hid_in:Same (hid A H) H:=fun a o h=>by
 unfold hid at h;split at h
 ·cases h
 ·exact h
theorem hid_of (h:∀ b o,¬ A b→H b=some o→H' b=some o):Same (hid A H) (hid A H'):=fun a o e=>by
 by_cases z:A a
 ·unfold hid at e;rw[if_pos z] at e;cases e
 ·rw[hid_ne z] at e ⊢;exact h a o z e
theorem Kp.hid (k:Kp d H H')(hA:A d):Same (hid A H) (hid A H'):=hid_of fun b o n h=>k b o (fun e=>n (e ▸ hA)) h
theorem Same.hid (s:Same H H'):Same (hid A H) (hid A H'):=hid_of fun b o _ h=>s b o h
theorem Av.same (h:Av A H)(s:Same H H'):Av A H':=fun a ha=>let ⟨ys,e⟩:=h a ha;⟨ys,s _ _ e⟩
theorem Av.kp (h:Av A H)(k:Kp d H H')(hd:DkAt H' d):Av A H':=fun a ha=>by
 by_cases e:a=d
 ·obtain⟨ds,e2,_⟩:=hd;exact⟨_,by rw[e];exact e2⟩
 ·obtain⟨ys,e2⟩:=h a ha;exact⟨ys,k _ _ e e2⟩
theorem Av.upd {ys:List V}(h:Av A H):Av A (upd H p (.lst ys)):=fun a ha=>by
 by_cases e:a=p
 ·exact⟨ys,by rw[e,upd_same]⟩
 ·rw[upd_ne e];exact h a ha
theorem Av.new (h:Av A H)(hp:H p=none):¬ A p:=fun e=>let ⟨_,z⟩:=h p e;by rw[hp] at z;cases z
theorem Av.tup (h:Av A H){xs:List V}(hp:H p=some (.tup xs)):¬ A p:=fun e=>let ⟨_,z⟩:=h p e;by rw[hp] at z;cases z
end
section
variable {X:Cx}{A:Addr→Prop}{P:St→Hp→Prop}{c k m m' n:Nat}{e:Expr}{es:List Expr}{te:TE}{j:Option Str}{pos p2:Pos}
theorem ps_setL {i:Nat}{x:Str}{t:TA}{pos':Pos}(hN:X.N.Nodup)(hi:X.N[i]?=some x)(hx:Loc X.env.scope x)(he:PA X es t)(hf:X.fn x=true∨X.env.scope.names.lookup x=some .local) :
  PS X (.Assign [.Name x pos'] (.List es p2) pos) (tAsg (tLst t) (gName i)):=ps_set hN hi hx (pe_lst he) rfl hf
theorem ps_setB {i:Nat}{x:Str}{a b:Expr}{o:Operator}{te:TE}{pos':Pos}(hN:X.N.Nodup)(hi:X.N[i]?=some x)(hx:Loc X.env.scope x)(he:PE X (.BinOp a o b p2) te)(hf:X.fn x=true∨X.env.scope.names.lookup x=some .local) :
  PS X (.Assign [.Name x pos'] (.BinOp a o b p2) pos) (tAsg te (gName i)):=ps_set hN hi hx he rfl hf
end
theorem pe_own0 {X:Cx}{k:Nat}{f:Addr}{fd:FuncData}{ps:List Str}{sp:Sp}{x:Str}{st:Stmt}{p pos:Pos}(G:FnOk X.prog X.w X.K X.mg X.base CX0 k f fd ps sp)(D:Df X.K X.mg x st f fd ps)(hr:Room k X.A)
  (hg:Gl X x:=by rfl) (hdb:(x == ("__debug__":Str))=false:=by decide):PE X (.Call (.Name x p) [] [] pos) (tCall sp [] E0 tNil):=pe_call0 G hr hg D.m D.F.kp D.b .nil pass0 hdb
def rCatX (K:PySem.W.Frag):R2:=fun x y H Q=>rCatT1 K x y H Q
theorem catXK {X:Cx}(K:PySem.W.Frag)(h:X.K=K:=by rfl):OpR X (binaryOp .Add) (rCatX K):=catT1K K h
theorem catX_use {K:PySem.W.Frag}{H:Hp}{a b:Addr}{xs ys:List V}{Q:VK}(ha:H a=some (.tup xs))(hb:H b=some (.tup ys))(hz:xs.length+ys.length≤10000)(q:∀ p H',Same H H'→H' p=some (.tup (xs++ys))→Q (.ref p) H'):rCatX K (.ref a) (.ref b) H Q:=by
 refine⟨a,b,xs,ys,rfl,rfl,SqT.of ha,SqT.of hb,Nat.le_of_lt (sizeBig (by omega)),fun e=>?_,fun _ e=>?_,fun _ _ p np=>q p _ ((Same.refl H).upd np) upd_same⟩
 ·subst e;exact q b H (Same.refl H) hb
 ·subst e;exact q a H (Same.refl H) (by rw[List.append_nil];exact ha)
def rSlX (K:PySem.W.Frag):V→Option Int→Option Int→Hp→VK→Prop:=fun x lo hi H Q=>rSlT1 K x lo hi H Q
theorem slXK {X:Cx}(K:PySem.W.Frag)(h:X.K=K:=by rfl):SlR X (rSlX K):=sl_tup1K K h
theorem slX_use {K:PySem.W.Frag}{H:Hp}{a:Addr}{xs:List V}{lo hi:Option Int}{Q:VK}(ha:H a=some (.tup xs))(q:∀ p H',Same H H'→H' p=some (.tup (cutV xs lo hi))→Q (.ref p) H'):rSlX K (.ref a) lo hi H Q:=by
 refine⟨a,xs,rfl,SqT.of ha,fun e=>q a H (Same.refl H) ?_,fun _ p np=>q p _ ((Same.refl H).upd np) upd_same⟩;have:cutV xs lo hi=xs:=by
  unfold cutV;rw[e.1,e.2,List.drop_zero,Nat.sub_zero,List.take_length]
 rw[this];exact ha
theorem Tg.len {H:Hp}{c k m:Nat}{a:Addr}{xs:List V}(h:Tg H c k m (.ref a))(e:H a=some (.tup xs)):xs.length≤m:=by
 obtain⟨D,hD,hN⟩:=h;cases hD with
 | sc h=>cases h
 | @tup _ ys ds e2 hs =>
  rw[e] at e2;cases e2;have h1:=hN.bk;rw[PyData.bulk] at h1;refine Nat.le_trans ?_ h1;clear hN h1 e;have:∀ {xs:List V} {ds:List PyData},Dds H xs ds→xs.length≤PyData.bulkAll ds:=fun {xs}=>by
   induction xs with
   | nil=>exact fun _=>Nat.zero_le _
   | cons x r ih =>
    intro ds h;cases h with
    | cons _ t =>
     have:=ih t;rw[List.length_cons,PyData.bulkAll];omega
  exact this hs
 | lst e2 _=>rw[e] at e2;cases e2
 | dct e2 _=>rw[e] at e2;cases e2
theorem at_in {xs:List V}{k:Int}(h0:0≤k)(h1:k<xs.length):∃ v∈xs,atI xs k=some v:=by
 obtain⟨j,rfl⟩:∃ j:Nat,k=j:=⟨_,(Int.toNat_of_nonneg h0).symm⟩
 have h3:j<xs.length:=by omega
 exact⟨xs[j],List.getElem_mem _,atI_nat (List.getElem?_eq_getElem h3)⟩
end L2
end
section
set_option Elab.async false
set_option linter.all false
set_option maxRecDepth 100000
namespace L2
open PySem
section
variable {n:Int}{ts us:List (Int×Int)}
end
end L2
end
section
set_option Elab.async false
set_option linter.all false
set_option maxRecDepth 100000
namespace Srt
open PySem PyProof.Rows
section
variable {prog:Program}{w:World}{A:Around}{E:Value→Shared→Prop}{s:Shared}{e it l:Addr}{n k:Nat}{P:Nat→Value→Prop}{S:Nat→Heap→Prop}{old:Value}
end
open AutoSeq1 (wpAny_loadPart')
section
variable {prog:Program}{w:World}{A:Around}{E:Value→Shared→Prop}{s:Shared}
end
end Srt
end
section
set_option Elab.async false
set_option linter.all false
set_option maxRecDepth 100000
namespace L2
open PySem PySem.Spec PyProof.Rows
section
variable {X:Cx}{K:PySem.W.Frag}{elts:List Expr}{k:Nat}{tpos p pos:Pos}{l:Expr}{t:TA}{y:Str}
end
end L2
end
section
set_option Elab.async false
set_option linter.all false
set_option maxRecDepth 100000
namespace L2
open PySem PySem.Spec PyProof.Rows
section
variable {X:Cx}
end
end L2
end
section
set_option Elab.async false
set_option linter.all false
set_option maxRecDepth 100000
namespace L2
open PySem
section
variable {n g:Int}{us ts:List (Int×Int)}{par:Int→Int}{rank:Int→Nat}
end
def dV:V→PyData
 | .int i=>.int i
 | _=>.none
end L2
end
section
set_option Elab.async false
set_option linter.all false
set_option maxRecDepth 100000
namespace L2
open PySem PySem.Spec PyProof.Rows
theorem bools_getF:∀ {bs:List Bool} {us:List Value},Vals (bs.map V.bl) us→∀ (i:Nat) (v:Value),us[i]?=some v→v=Value.bool (bs.getD i false)
 | [],_,.nil,i,v,h=>by simp at h
 | b::r,_,.cons q t,0,v,h=>by simp at h;subst h;exact q
 | b::r,_,.cons q t,i+1,v,h=>by simp at h;exact bools_getF t i v h
theorem range_any (bs:List Bool):(List.range bs.length).any (fun i=>bs.getD i false)=bs.any id:=by
 induction bs with
 | nil=>rfl
 | cons b r ih =>
  rw[List.length_cons,List.range_succ_eq_map,List.any_cons,List.any_map,List.any_cons];congr 1
section
variable {X:Cx}
def cAny (K:PySem.W.Frag):List V→Hp→VK→Prop:=fun xs H Q=>∃ (p:Addr) (bs:List Bool),xs=[.ref p]∧SqL K H p (bs.map V.bl)∧Q (.bl (bs.any id)) H
theorem call_anyB (hh:X.A.handled=none):CallR X (.builtin "any") (cAny X.K):=by
 intro pins s σ H xs us Q I r h;obtain⟨p,bs,rfl,hq,q⟩:=h;obtain⟨u,rfl,ru⟩:=vals1 r;cases ru;obtain⟨its,rv,pl,hz⟩:=I.list hq;have hl:s.heap.IsList p its.toArray:=pl.isList;have hlen:its.length=bs.length:=by rw[← rv.length,List.length_map]
 refine call_any_walk (wpAny_pyIter_list hl ?_);have hpu:∀ b o,s.heap.get? b=some o→(s.heap.push {cls:=.type "list_iterator",data:=.fields #[.ref p,.int 0 0]}).get? b=some o:=fun b o e=>Heap.get?_push_of_some _ e
 have hne:p≠s.heap.objs.size:=by
  obtain⟨o,ho,_⟩:=hl;exact Nat.ne_of_lt (Heap.lt_size ho)
 refine⟨_,_,_,_,_,_,fun i=>bs.getD i false,rfl,Walks.list (prog:=X.prog) (w:=X.w) (A:=X.A.in1) hh s.heap.objs.size p hne its.toArray,⟨⟨_,Heap.get?_push_size _ rfl,rfl,rfl⟩,hl.at fun o e=>hpu _ _ e⟩,?_,?_⟩
 ·intro i v s' Q' E' hP hQ;have:v=Value.bool (bs.getD i false):=bools_getF rv i v (by simpa using hP);subst this;exact wpAny_truthy_bool hQ
 ·intro h' tk hk;have e:(List.range its.toArray.size).any (fun i=>bs.getD i false)=bs.any id:=by rw[List.size_toArray,hlen];exact range_any bs
  rw[e];refine⟨.bl _,H,I.kept fun b o eb=>hk b o (fun hm=>?_) (hpu b o eb),rfl,q⟩;rw[List.mem_singleton.mp hm] at eb;exact absurd (Heap.lt_size eb) (Nat.lt_irrefl _)
theorem anyK (K:PySem.W.Frag)(hh:X.A.handled=none)(h:X.K=K:=by rfl):CallR X (.builtin "any") (cAny K):=by subst h;exact call_anyB hh
theorem boot_anyB:bootBuiltins "any"=some (.builtin "any"):=by decide +kernel
end
def iAny (K:PySem.W.Frag)(tl:TE):TI:=fun σ H R=>tl σ H fun x H1=>∃ a,x=.ref a∧(((∃ xs,SqL K H1 a xs)∧R (Itl K a) H1)∨((∃ xs,SqT K H1 a xs)∧R (Itt K a) H1))
theorem pi_anyK {X:Cx}{tg l:Expr}{tl:TE}(K:PySem.W.Frag)(hl:PE X l tl)(h:X.K=K:=by rfl):PI X tg l (iAny K tl):=by
 subst h;intro pins s σ H R I h;refine thn (hl pins s σ H _ I h) fun v s1 ⟨x,H1,I1,r1,q1⟩=>?_
 obtain⟨a,e,⟨⟨xs,hq⟩,q⟩ | ⟨⟨xs,hq⟩,q⟩⟩:=q1
 ·subst e;cases r1;obtain⟨its,rv,p,hz⟩:=I1.list hq;refine wpAny_pyIter_list p.isList ?_;refine⟨s1.heap.objs.size,[s1.heap.objs.size],_,_,H1,rfl,I1.kept (t':=s1.toks) fun b o e=>Heap.get?_push_of_some _ e,turn_list a _,⟨_,Heap.get?_push_size _ rfl,rfl,rfl⟩,fun b hb=>?_,q⟩;have e:b=s1.heap.objs.size:=by simpa using hb
  subst e;exact I1.fpOk (Nat.le_refl _) (I1.hok.fresh (Nat.le_refl _))
 ·subst e;cases r1;obtain⟨its,rv,p,hz⟩:=I1.tuple hq;refine wpAny_pyIter_tuple (show s1.heap.IsTuple a its.toArray from p) ?_;refine⟨s1.heap.objs.size,[s1.heap.objs.size],_,_,H1,rfl,I1.kept (t':=s1.toks) fun b o e=>Heap.get?_push_of_some _ e,turn_tuple a _,⟨_,Heap.get?_push_size _ rfl,rfl,rfl⟩,fun b hb=>?_,q⟩;have e:b=s1.heap.objs.size:=by simpa using hb
  subst e;exact I1.fpOk (Nat.le_refl _) (I1.hok.fresh (Nat.le_refl _))
def ForJ (g:TG)(tb:TS)(D:Ends)(σ:St)(J:It)(H1:Hp):Prop:=tFor (fun _ H R=>R J H) g tb D σ H1
theorem tFor_eq {wi:TI}{g:TG}{tb:TS}{D:Ends}{σ:St}{H:Hp}:tFor wi g tb D σ H=wi σ H (fun J H1=>ForJ g tb D σ J H1):=rfl
def lotsOf (n:Int)(ts:List (Int×Int)):List (List Int):=(List.range n.toNat).map fun (v:Nat)=>(v:Int)::nb ts (v:Int)
theorem lotsOf_get {n:Int}{ts:List (Int×Int)}{v:Int}(h0:0≤v)(h1:v<n):(lotsOf n ts)[v.toNat]?=some (v::nb ts v):=by
 unfold lotsOf;rw[List.getElem?_map,List.getElem?_range (by omega)];show some (((v.toNat:Nat):Int)::nb ts ((v.toNat:Nat):Int))=_;rw[Int.toNat_of_nonneg h0]
theorem lotsOf_len (n:Int)(ts:List (Int×Int)):(lotsOf n ts).length=n.toNat:=by unfold lotsOf;simp
theorem lotsOf_take {n:Int}{ts:List (Int×Int)}{i:Nat}(h:i<n.toNat):(lotsOf n ts).take (i+1)=(lotsOf n ts).take i++[(i:Int)::nb ts (i:Int)]:=by
 have:=lotsOf_get (n:=n) (ts:=ts) (v:=(i:Int)) (by omega) (by omega);rw[Int.toNat_natCast] at this;exact take_snoc this
theorem lot_rng {n:Int}{ts:List (Int×Int)}(h:TsOk n ts){v x:Int}(h0:0≤v)(h1:v<n)(hx:x∈v::nb ts v):0≤x∧x<n:=by
 rcases List.mem_cons.mp hx with rfl | hx
 ·exact⟨h0,h1⟩
 ·have:=nb_rng h hx;exact⟨this.1,this.2.1⟩
end L2
end
section
set_option Elab.async false
set_option linter.all false
set_option maxRecDepth 100000
namespace L2
open PySem
section
variable {n:Int}{ts:List (Int×Int)}{A B:Int→Prop}{u v x:Int}
end
end L2
end
section
set_option Elab.async false
set_option linter.all false
set_option maxRecDepth 100000
namespace L2
open PySem
structure TB where
 vs:List Int
 ws:List Int
 par:Int→Int
section
variable {n g p:Int}{ts:List (Int×Int)}{bs:List Int}{s:TB}{j:Nat}
end
end L2
end
section
set_option Elab.async false
set_option linter.all false
set_option maxRecDepth 100000
namespace L2
open PySem
section
variable {n:Int}{ts gs us:List (Int×Int)}{ins:List Int}
end
end L2
end
section
set_option Elab.async false
set_option linter.all false
set_option maxRecDepth 100000
namespace L2
open PySem
section
variable {n:Int}{ts T T' T'':List (Int×Int)}{put taken:Int×Int}
end
end L2
namespace L2
open PySem
section
variable {lv:List (Int×Int)→Nat}{n:Int}{A B T:List (Int×Int)}{put taken:Int×Int}
end
end L2
end
section
set_option Elab.async false
set_option linter.all false
set_option maxRecDepth 100000
namespace L2
open PySem
section
variable {n:Int}{ts:List (Int×Int)}{us bs:List Int}
end
end L2
end
section
set_option Elab.async false
set_option linter.all false
set_option maxRecDepth 100000
namespace L2
open PySem PySem.Spec PyProof.Rows
section
variable {H:Hp}{n:Int}
theorem PsAt.inj {ps ps':List (Addr×List Int)}{us us':List (Int×Int)}(h:PsAt H ps us)(h':PsAt H ps' us')(e:ps.map (fun x=>V.ref x.1)=ps'.map fun x=>V.ref x.1):us=us':=by
 have hl:us.length=us'.length:=by
  have:=congrArg List.length e;rw[List.length_map,List.length_map,h.len,h'.len] at this;exact this
 refine List.ext_getElem? fun i=>?_
 rcases Nat.lt_or_ge i us.length with hi | hi
 ·obtain⟨v,h1⟩:∃ v,(ps.map fun x=>V.ref x.1)[i]?=some v:=⟨_,List.getElem?_eq_getElem (by rw[List.length_map,h.len];exact hi)⟩
  obtain⟨b,t,e1,e2,e3⟩:=h.get h1;rw[e] at h1;obtain⟨b',t',e1',e2',e3'⟩:=h'.get h1;rw[e1] at e1';cases e1';rw[e3] at e3';injection e3' with e4
  injection e4 with e5
  have e6:=List.cons.inj e5;have e7:=List.cons.inj e6.2;have:t=t':=Prod.ext (V.int.inj e6.1) (V.int.inj e7.1);rw[e2,e2',this]
 ·rw[List.getElem?_eq_none hi,List.getElem?_eq_none (by omega)]
theorem TsAt.inj {a:Addr}{us us':List (Int×Int)}(h:TsAt H a us)(h':TsAt H a us'):us=us':=by
 obtain⟨ps,e,hp⟩:=h;obtain⟨ps',e',hp'⟩:=h';rw[e] at e';injection e' with e2
 injection e2 with e3
 exact hp.inj hp' e3
end
end L2
end
section
namespace L2
theorem tV0 {v:V}{σ:St}{H:Hp}{Q:VK}:tVar 0 (some v::σ) H Q=Q v H:=propext ⟨fun ⟨_,e,q⟩=>by cases e;exact q,fun q=>⟨_,rfl,q⟩⟩
theorem gN0 {v:V}{σ:St}{H:Hp}{Q:St→Hp→Prop}{b:Option V}:gName 0 v (b::σ) H Q=Q (some v::σ) H:=rfl
theorem tV1 {v:V}{σ:St}{H:Hp}{Q:VK}{a0:Option V}:tVar 1 (a0::some v::σ) H Q=Q v H:=propext ⟨fun ⟨_,e,q⟩=>by cases e;exact q,fun q=>⟨_,rfl,q⟩⟩
theorem gN1 {v:V}{σ:St}{H:Hp}{Q:St→Hp→Prop}{b:Option V}{a0:Option V}:gName 1 v (a0::b::σ) H Q=Q (a0::some v::σ) H:=rfl
theorem tV2 {v:V}{σ:St}{H:Hp}{Q:VK}{a0 a1:Option V}:tVar 2 (a0::a1::some v::σ) H Q=Q v H:=propext ⟨fun ⟨_,e,q⟩=>by cases e;exact q,fun q=>⟨_,rfl,q⟩⟩
theorem gN2 {v:V}{σ:St}{H:Hp}{Q:St→Hp→Prop}{b:Option V}{a0 a1:Option V}:gName 2 v (a0::a1::b::σ) H Q=Q (a0::a1::some v::σ) H:=rfl
theorem tV3 {v:V}{σ:St}{H:Hp}{Q:VK}{a0 a1 a2:Option V}:tVar 3 (a0::a1::a2::some v::σ) H Q=Q v H:=propext ⟨fun ⟨_,e,q⟩=>by cases e;exact q,fun q=>⟨_,rfl,q⟩⟩
theorem gN3 {v:V}{σ:St}{H:Hp}{Q:St→Hp→Prop}{b:Option V}{a0 a1 a2:Option V}:gName 3 v (a0::a1::a2::b::σ) H Q=Q (a0::a1::a2::some v::σ) H:=rfl
theorem tV4 {v:V}{σ:St}{H:Hp}{Q:VK}{a0 a1 a2 a3:Option V}:tVar 4 (a0::a1::a2::a3::some v::σ) H Q=Q v H:=propext ⟨fun ⟨_,e,q⟩=>by cases e;exact q,fun q=>⟨_,rfl,q⟩⟩
theorem gN4 {v:V}{σ:St}{H:Hp}{Q:St→Hp→Prop}{b:Option V}{a0 a1 a2 a3:Option V}:gName 4 v (a0::a1::a2::a3::b::σ) H Q=Q (a0::a1::a2::a3::some v::σ) H:=rfl
theorem tV5 {v:V}{σ:St}{H:Hp}{Q:VK}{a0 a1 a2 a3 a4:Option V}:tVar 5 (a0::a1::a2::a3::a4::some v::σ) H Q=Q v H:=propext ⟨fun ⟨_,e,q⟩=>by cases e;exact q,fun q=>⟨_,rfl,q⟩⟩
theorem gN5 {v:V}{σ:St}{H:Hp}{Q:St→Hp→Prop}{b:Option V}{a0 a1 a2 a3 a4:Option V}:gName 5 v (a0::a1::a2::a3::a4::b::σ) H Q=Q (a0::a1::a2::a3::a4::some v::σ) H:=rfl
theorem tV6 {v:V}{σ:St}{H:Hp}{Q:VK}{a0 a1 a2 a3 a4 a5:Option V}:tVar 6 (a0::a1::a2::a3::a4::a5::some v::σ) H Q=Q v H:=propext ⟨fun ⟨_,e,q⟩=>by cases e;exact q,fun q=>⟨_,rfl,q⟩⟩
theorem gN6 {v:V}{σ:St}{H:Hp}{Q:St→Hp→Prop}{b:Option V}{a0 a1 a2 a3 a4 a5:Option V}:gName 6 v (a0::a1::a2::a3::a4::a5::b::σ) H Q=Q (a0::a1::a2::a3::a4::a5::some v::σ) H:=rfl
theorem tV7 {v:V}{σ:St}{H:Hp}{Q:VK}{a0 a1 a2 a3 a4 a5 a6:Option V}:tVar 7 (a0::a1::a2::a3::a4::a5::a6::some v::σ) H Q=Q v H:=propext ⟨fun ⟨_,e,q⟩=>by cases e;exact q,fun q=>⟨_,rfl,q⟩⟩
theorem gN7 {v:V}{σ:St}{H:Hp}{Q:St→Hp→Prop}{b:Option V}{a0 a1 a2 a3 a4 a5 a6:Option V}:gName 7 v (a0::a1::a2::a3::a4::a5::a6::b::σ) H Q=Q (a0::a1::a2::a3::a4::a5::a6::some v::σ) H:=rfl
theorem tV8 {v:V}{σ:St}{H:Hp}{Q:VK}{a0 a1 a2 a3 a4 a5 a6 a7:Option V}:tVar 8 (a0::a1::a2::a3::a4::a5::a6::a7::some v::σ) H Q=Q v H:=propext ⟨fun ⟨_,e,q⟩=>by cases e;exact q,fun q=>⟨_,rfl,q⟩⟩
theorem gN8 {v:V}{σ:St}{H:Hp}{Q:St→Hp→Prop}{b:Option V}{a0 a1 a2 a3 a4 a5 a6 a7:Option V}:gName 8 v (a0::a1::a2::a3::a4::a5::a6::a7::b::σ) H Q=Q (a0::a1::a2::a3::a4::a5::a6::a7::some v::σ) H:=rfl
theorem tV9 {v:V}{σ:St}{H:Hp}{Q:VK}{a0 a1 a2 a3 a4 a5 a6 a7 a8:Option V}:tVar 9 (a0::a1::a2::a3::a4::a5::a6::a7::a8::some v::σ) H Q=Q v H:=propext ⟨fun ⟨_,e,q⟩=>by cases e;exact q,fun q=>⟨_,rfl,q⟩⟩
theorem gN9 {v:V}{σ:St}{H:Hp}{Q:St→Hp→Prop}{b:Option V}{a0 a1 a2 a3 a4 a5 a6 a7 a8:Option V}:gName 9 v (a0::a1::a2::a3::a4::a5::a6::a7::a8::b::σ) H Q=Q (a0::a1::a2::a3::a4::a5::a6::a7::a8::some v::σ) H:=rfl
theorem tV10 {v:V}{σ:St}{H:Hp}{Q:VK}{a0 a1 a2 a3 a4 a5 a6 a7 a8 a9:Option V}:tVar 10 (a0::a1::a2::a3::a4::a5::a6::a7::a8::a9::some v::σ) H Q=Q v H:=propext ⟨fun ⟨_,e,q⟩=>by cases e;exact q,fun q=>⟨_,rfl,q⟩⟩
theorem gN10 {v:V}{σ:St}{H:Hp}{Q:St→Hp→Prop}{b:Option V}{a0 a1 a2 a3 a4 a5 a6 a7 a8 a9:Option V}:gName 10 v (a0::a1::a2::a3::a4::a5::a6::a7::a8::a9::b::σ) H Q=Q (a0::a1::a2::a3::a4::a5::a6::a7::a8::a9::some v::σ) H:=rfl
theorem tV11 {v:V}{σ:St}{H:Hp}{Q:VK}{a0 a1 a2 a3 a4 a5 a6 a7 a8 a9 a10:Option V}:tVar 11 (a0::a1::a2::a3::a4::a5::a6::a7::a8::a9::a10::some v::σ) H Q=Q v H:=propext ⟨fun ⟨_,e,q⟩=>by cases e;exact q,fun q=>⟨_,rfl,q⟩⟩
theorem gN11 {v:V}{σ:St}{H:Hp}{Q:St→Hp→Prop}{b:Option V}{a0 a1 a2 a3 a4 a5 a6 a7 a8 a9 a10:Option V}:gName 11 v (a0::a1::a2::a3::a4::a5::a6::a7::a8::a9::a10::b::σ) H Q=Q (a0::a1::a2::a3::a4::a5::a6::a7::a8::a9::a10::some v::σ) H:=rfl
theorem tV12 {v:V}{σ:St}{H:Hp}{Q:VK}{a0 a1 a2 a3 a4 a5 a6 a7 a8 a9 a10 a11:Option V}:tVar 12 (a0::a1::a2::a3::a4::a5::a6::a7::a8::a9::a10::a11::some v::σ) H Q=Q v H:=propext ⟨fun ⟨_,e,q⟩=>by cases e;exact q,fun q=>⟨_,rfl,q⟩⟩
theorem gN12 {v:V}{σ:St}{H:Hp}{Q:St→Hp→Prop}{b:Option V}{a0 a1 a2 a3 a4 a5 a6 a7 a8 a9 a10 a11:Option V}:gName 12 v (a0::a1::a2::a3::a4::a5::a6::a7::a8::a9::a10::a11::b::σ) H Q=Q (a0::a1::a2::a3::a4::a5::a6::a7::a8::a9::a10::a11::some v::σ) H:=rfl
theorem tV13 {v:V}{σ:St}{H:Hp}{Q:VK}{a0 a1 a2 a3 a4 a5 a6 a7 a8 a9 a10 a11 a12:Option V}:tVar 13 (a0::a1::a2::a3::a4::a5::a6::a7::a8::a9::a10::a11::a12::some v::σ) H Q=Q v H:=propext ⟨fun ⟨_,e,q⟩=>by cases e;exact q,fun q=>⟨_,rfl,q⟩⟩
theorem gN13 {v:V}{σ:St}{H:Hp}{Q:St→Hp→Prop}{b:Option V}{a0 a1 a2 a3 a4 a5 a6 a7 a8 a9 a10 a11 a12:Option V}:gName 13 v (a0::a1::a2::a3::a4::a5::a6::a7::a8::a9::a10::a11::a12::b::σ) H Q=Q (a0::a1::a2::a3::a4::a5::a6::a7::a8::a9::a10::a11::a12::some v::σ) H:=rfl
theorem tV14 {v:V}{σ:St}{H:Hp}{Q:VK}{a0 a1 a2 a3 a4 a5 a6 a7 a8 a9 a10 a11 a12 a13:Option V}:tVar 14 (a0::a1::a2::a3::a4::a5::a6::a7::a8::a9::a10::a11::a12::a13::some v::σ) H Q=Q v H:=propext ⟨fun ⟨_,e,q⟩=>by cases e;exact q,fun q=>⟨_,rfl,q⟩⟩
theorem gN14 {v:V}{σ:St}{H:Hp}{Q:St→Hp→Prop}{b:Option V}{a0 a1 a2 a3 a4 a5 a6 a7 a8 a9 a10 a11 a12 a13:Option V}:gName 14 v (a0::a1::a2::a3::a4::a5::a6::a7::a8::a9::a10::a11::a12::a13::b::σ) H Q=Q (a0::a1::a2::a3::a4::a5::a6::a7::a8::a9::a10::a11::a12::a13::some v::σ) H:=rfl
theorem tV15 {v:V}{σ:St}{H:Hp}{Q:VK}{a0 a1 a2 a3 a4 a5 a6 a7 a8 a9 a10 a11 a12 a13 a14:Option V}:tVar 15 (a0::a1::a2::a3::a4::a5::a6::a7::a8::a9::a10::a11::a12::a13::a14::some v::σ) H Q=Q v H:=propext ⟨fun ⟨_,e,q⟩=>by cases e;exact q,fun q=>⟨_,rfl,q⟩⟩
theorem gN15 {v:V}{σ:St}{H:Hp}{Q:St→Hp→Prop}{b:Option V}{a0 a1 a2 a3 a4 a5 a6 a7 a8 a9 a10 a11 a12 a13 a14:Option V}:gName 15 v (a0::a1::a2::a3::a4::a5::a6::a7::a8::a9::a10::a11::a12::a13::a14::b::σ) H Q=Q (a0::a1::a2::a3::a4::a5::a6::a7::a8::a9::a10::a11::a12::a13::a14::some v::σ) H:=rfl
theorem rI0i {g:Int→Int→V}{i j:Int}{H:Hp}{Q:VK}:rI0 g (.int i) (.int j) H Q=Q (g i j) H:=propext ⟨fun ⟨_,_,e,e',q⟩=>by cases e;cases e';exact q,fun q=>⟨_,_,rfl,rfl,q⟩⟩
theorem rIi {C:Int→Int→Prop}{g:Int→Int→V}{i j:Int}{H:Hp}{Q:VK}:rI C g (.int i) (.int j) H Q=(C i j∧Q (g i j) H):=propext ⟨fun ⟨_,_,e,e',q⟩=>by cases e;cases e';exact q,fun q=>⟨_,_,rfl,rfl,q⟩⟩
theorem rIxLr {K:PySem.W.Frag}{p:PySem.Addr}{i:Int}{H:Hp}{Q:VK}:rIxL K (.ref p) (.int i) H Q=∃ xs,SqL K H p xs∧∃ v,atI xs i=some v∧Q v H:=propext ⟨fun ⟨_,_,_,_,e,e',a,b,q⟩=>by cases e;cases e';exact⟨_,a,_,b,q⟩,fun ⟨_,a,_,b,q⟩=>⟨_,_,_,_,rfl,rfl,a,b,q⟩⟩
theorem rIxTr {K:PySem.W.Frag}{p:PySem.Addr}{i:Int}{H:Hp}{Q:VK}:rIxT K (.ref p) (.int i) H Q=∃ xs,SqT K H p xs∧∃ v,atI xs i=some v∧Q v H:=propext ⟨fun ⟨_,_,_,_,e,e',a,b,q⟩=>by cases e;cases e';exact⟨_,a,_,b,q⟩,fun ⟨_,a,_,b,q⟩=>⟨_,_,_,_,rfl,rfl,a,b,q⟩⟩
theorem exB {b:Bool}{P:Bool→Prop}:(∃ k,V.bl b=V.bl k∧P k)=P b:=propext ⟨fun ⟨_,e,q⟩=>by cases e;exact q,fun q=>⟨_,rfl,q⟩⟩
theorem exI {b:Int}{P:Int→Prop}:(∃ k,V.int b=V.int k∧P k)=P b:=propext ⟨fun ⟨_,e,q⟩=>by cases e;exact q,fun q=>⟨_,rfl,q⟩⟩
theorem exR {b:PySem.Addr}{P:PySem.Addr→Prop}:(∃ k,V.ref b=V.ref k∧P k)=P b:=propext ⟨fun ⟨_,e,q⟩=>by cases e;exact q,fun q=>⟨_,rfl,q⟩⟩
theorem rEqI {i j:Int}{H:Hp}{Q:VK}:rEq (.int i) (.int j) H Q=Q (.bl (decide (i=j))) H:=by
 unfold rEq;have e:decide (V.int i=V.int j)=decide (i=j):=by simp
 rw[e];simp[scal]
theorem rNeI {i j:Int}{H:Hp}{Q:VK}:rNe (.int i) (.int j) H Q=Q (.bl (!decide (i=j))) H:=by
 unfold rNe;have e:decide (V.int i=V.int j)=decide (i=j):=by simp
 rw[e];simp[scal]
theorem cLenR {K:PySem.W.Frag}{p:PySem.Addr}{H:Hp}{Q:VK}:cLen K [.ref p] H Q=∃ ys,(SqL K H p ys∨SqT K H p ys)∧Q (.int ys.length) H:=propext ⟨fun ⟨_,ys,e,a,q⟩=>by cases e;exact⟨ys,a,q⟩,fun ⟨ys,a,q⟩=>⟨_,ys,rfl,a,q⟩⟩
theorem al0 {α:Type}{P:List α→Prop}(h:P [])(us:List α)(hl:us.length=0):P us:=by cases us with
 | nil=>exact h
 | cons a r=>cases hl
theorem al1 {α:Type}{P:List α→Prop}(h:∀ a0,P [a0])(us:List α)(hl:us.length=1):P us:=by cases us with
 | nil=>cases hl
 | cons a r=>exact al0 (P:=fun r=>P (a::r)) (h a) r (Nat.succ.inj hl)
theorem al2 {α:Type}{P:List α→Prop}(h:∀ a0 a1,P [a0,a1])(us:List α)(hl:us.length=2):P us:=by cases us with
 | nil=>cases hl
 | cons a r=>exact al1 (P:=fun r=>P (a::r)) (h a) r (Nat.succ.inj hl)
theorem al3 {α:Type}{P:List α→Prop}(h:∀ a0 a1 a2,P [a0,a1,a2])(us:List α)(hl:us.length=3):P us:=by cases us with
 | nil=>cases hl
 | cons a r=>exact al2 (P:=fun r=>P (a::r)) (h a) r (Nat.succ.inj hl)
theorem al4 {α:Type}{P:List α→Prop}(h:∀ a0 a1 a2 a3,P [a0,a1,a2,a3])(us:List α)(hl:us.length=4):P us:=by cases us with
 | nil=>cases hl
 | cons a r=>exact al3 (P:=fun r=>P (a::r)) (h a) r (Nat.succ.inj hl)
theorem al5 {α:Type}{P:List α→Prop}(h:∀ a0 a1 a2 a3 a4,P [a0,a1,a2,a3,a4])(us:List α)(hl:us.length=5):P us:=by cases us with
 | nil=>cases hl
 | cons a r=>exact al4 (P:=fun r=>P (a::r)) (h a) r (Nat.succ.inj hl)
end L2
end
section
set_option linter.all false
namespace L2
open PySem
theorem tSeqA {t u:TS}{D:Ends}{σ:St}{H:Hp}:tSeq t u D σ H=(t {D with nx:=u D} σ H):=rfl
theorem tAsgA {te:TE}{g:TG}{D:Ends}{σ:St}{H:Hp}:tAsg te g D σ H=(te σ H fun x H1=>g x σ H1 D.nx):=rfl
theorem tOpA {r:R2}{ta tb:TE}{σ:St}{H:Hp}{Q:VK}:tOp r ta tb σ H Q=(ta σ H fun x H1=>tb σ H1 fun y H2=>r x y H2 Q):=rfl
theorem tCA {v:V}{u0:St}{H:Hp}{Q:VK}:tC v u0 H Q=(Q v H):=rfl
theorem tRetA {te:TE}{D:Ends}{σ:St}{H:Hp}:tRet te D σ H=(te σ H D.rt):=rfl
theorem tRetNA  {D:Ends}{u0:St}{H:Hp}:tRetN D u0 H=(D.rt .non H):=rfl
theorem tIfSA {c:TT}{t u:TS}{D:Ends}{σ:St}{H:Hp}:tIfS c t u D σ H=(c σ H fun b H1=>if b=true then t D σ H1 else u D σ H1):=rfl
theorem tTestA {t:TE}{σ:St}{H:Hp}{Q:Bool→Hp→Prop}:tTest t σ H Q=(t σ H fun x H'=>∃ k,x=.bl k∧Q k H'):=rfl
theorem tBA {t:TE}{σ:St}{H:Hp}{Q:Bool→Hp→Prop}:tB t σ H Q=(t σ H fun x H1=>∃ c,x=.bl c∧Q c H1):=rfl
theorem tNextA  {D:Ends}{σ:St}{H:Hp}:tNext D σ H=(D.nx σ H):=rfl
theorem tDropA {te:TE}{D:Ends}{σ:St}{H:Hp}:tDrop te D σ H=(te σ H fun _ H1=>D.nx σ H1):=rfl
theorem tCallA {sp:Sp}{dvs:List V}{E:XK}{t:TA}{σ:St}{H:Hp}{Q:VK}:tCall sp dvs E t σ H Q=(t σ H fun vs H1=>sp (vs++dvs) H1 Q E):=rfl
theorem tConsA {ta:TE}{tr:TA}{σ:St}{H:Hp}{Q:List V→Hp→Prop}:tCons ta tr σ H Q=(ta σ H fun x H1=>tr σ H1 fun xs H2=>Q (x::xs) H2):=rfl
theorem tNilA  {u0:St}{H:Hp}{Q:List V→Hp→Prop}:tNil u0 H Q=(Q [] H):=rfl
theorem tCBA {r:List V→Hp→VK→Prop}{t:TA}{σ:St}{H:Hp}{Q:VK}:tCB r t σ H Q=(t σ H fun vs H1=>r vs H1 Q):=rfl
theorem tBMA {K:PySem.W.Frag}{T:String}{r:V→List V→Hp→VK→Prop}{to:TE}{t:TA}{σ:St}{H:Hp}{Q:VK}:tBM K T r to t σ H Q=(to σ H fun x H1=>tyV K T x H1∧t σ H1 fun xs H2=>r x xs H2 Q):=rfl
theorem tBM0A {K:PySem.W.Frag}{T:String}{r:V→List V→Hp→VK→Prop}{to:TE}{σ:St}{H:Hp}{Q:VK}:tBM0 K T r to σ H Q=(to σ H fun x H1=>tyV K T x H1∧r x [] H1 Q):=rfl
theorem tTupA {t:TA}{σ:St}{H:Hp}{Q:VK}:tTup t σ H Q=(t σ H fun xs H1=>xs.length≤sizeLine∧∀ p,H1 p=none→Q (.ref p) (upd H1 p (.tup xs))):=rfl
theorem tLstA {t:TA}{σ:St}{H:Hp}{Q:VK}:tLst t σ H Q=(t σ H fun xs H1=>xs.length≤sizeLine∧∀ p,H1 p=none→Q (.ref p) (upd H1 p (.lst xs))):=rfl
theorem gTupA {K:PySem.W.Frag}{n:Nat}{t:TGs}{v:V}{σ:St}{H:Hp}{Q:St→Hp→Prop}:gTup K n t v σ H Q=(∃ a xs,v=.ref a∧SqT K H a xs∧xs.length=n∧t xs σ H Q):=rfl
theorem gConsA {t:TG}{u:TGs}{vs:List V}{σ:St}{H:Hp}{Q:St→Hp→Prop}:gCons t u vs σ H Q=(∃ v r,vs=v::r∧t v σ H fun σ' H'=>u r σ' H' Q):=rfl
theorem gNilA  {vs:List V}{σ:St}{H:Hp}{Q:St→Hp→Prop}:gNil vs σ H Q=(vs=[]∧Q σ H):=rfl
theorem gSubA {to ti:TE}{t:TSet}{v:V}{σ:St}{H:Hp}{Q:St→Hp→Prop}:gSub to ti t v σ H Q=(to σ H fun o H1=>ti σ H1 fun i H2=>t o i v H2 fun H3=>Q σ H3):=rfl
theorem tSlA {r:V→Option Int→Option Int→Hp→VK→Prop}{te:TE}{tl th:TO}{σ:St}{H:Hp}{Q:VK}:tSl r te tl th σ H Q=(te σ H fun x H1=>tl σ H1 fun l H2=>th σ H2 fun u H3=>r x l u H3 Q):=rfl
theorem tNoPartA  {u0:St}{H:Hp}{Q:Option Int→Hp→Prop}:tNoPart u0 H Q=(Q none H):=rfl
theorem tPartA {t:TE}{σ:St}{H:Hp}{Q:Option Int→Hp→Prop}:tPart t σ H Q=(t σ H fun x H1=>∃ i,x=.int i∧Q (some i) H1):=rfl
theorem tAndA {t u:TT}{σ:St}{H:Hp}{Q:Bool→Hp→Prop}:tAnd t u σ H Q=(t σ H fun c H1=>if c=true then u σ H1 Q else Q false H1):=rfl
theorem tOrA {t u:TT}{σ:St}{H:Hp}{Q:Bool→Hp→Prop}:tOr t u σ H Q=(t σ H fun c H1=>if c=true then Q true H1 else u σ H1 Q):=rfl
theorem tNotA {t:TT}{σ:St}{H:Hp}{Q:Bool→Hp→Prop}:tNot t σ H Q=(t σ H fun c H1=>Q (!c) H1):=rfl
theorem tDInA {ty td:TE}{σ:St}{H:Hp}{Q:VK}:tDIn ty td σ H Q=(ty σ H fun y H1=>td σ H1 fun x H2=>∃ a o,x=.ref a∧DGet H2 a y o∧Q (.bl o.isSome) H2):=rfl
theorem tDNotInA {ty td:TE}{σ:St}{H:Hp}{Q:VK}:tDNotIn ty td σ H Q=(ty σ H fun y H1=>td σ H1 fun x H2=>∃ a o,x=.ref a∧DGet H2 a y o∧Q (.bl (!o.isSome)) H2):=rfl
theorem sDPutA {td ty tv:TE}{D:Ends}{σ:St}{H:Hp}:sDPut td ty tv D σ H=(tv σ H fun v H1=>td σ H1 fun x H2=>ty σ H2 fun y H3=>∃ a H4,x=.ref a∧DPut H3 a y v H4∧D.nx σ H4):=rfl
theorem iListA {K:PySem.W.Frag}{tl:TE}{σ:St}{H:Hp}{R:It→Hp→Prop}:iList K tl σ H R=(tl σ H fun x H1=>∃ a,x=.ref a∧(∃ xs,SqL K H1 a xs)∧R (Itl K a) H1):=rfl
theorem iTupA {K:PySem.W.Frag}{tl:TE}{σ:St}{H:Hp}{R:It→Hp→Prop}:iTup K tl σ H R=(tl σ H fun x H1=>∃ a,x=.ref a∧(∃ xs,SqT K H1 a xs)∧R (Itt K a) H1):=rfl
theorem iRng1A {ta:TA}{σ:St}{H:Hp}{R:It→Hp→Prop}:iRng1 ta σ H R=(ta σ H fun vs H1=>∃ j:Int,vs=[.int j]∧-(2 ^ 62)≤j∧j<2 ^ 62∧R (Itr 0 j.toNat) H1):=rfl
theorem iRng2A {ta:TA}{σ:St}{H:Hp}{R:It→Hp→Prop}:iRng2 ta σ H R=(ta σ H fun vs H1=>∃ i j:Int,vs=[.int i,.int j]∧(-(2 ^ 62)≤i∧i<2 ^ 62∧-(2 ^ 62)≤j∧j<2 ^ 62)∧R (Itr i (j-i).toNat) H1):=rfl
theorem tChainA {r r':R2}{ta tb tc:TE}{σ:St}{H:Hp}{Q:VK}:tChain r r' ta tb tc σ H Q=(ta σ H fun x H1=>tb σ H1 fun y H2=>r x y H2 fun z H3=>∃ k,z=.bl k∧(if k=true then tc σ H3 fun w' H4=>r' y w' H4 Q else Q (.bl false) H3)):=rfl
theorem tAndVA {ta tb:TE}{σ:St}{H:Hp}{Q:VK}:tAndV ta tb σ H Q=(ta σ H fun x H1=>∃ c,x=.bl c∧if c=true then tb σ H1 Q else Q (.bl false) H1):=rfl
theorem tOrVA {ta tb:TE}{σ:St}{H:Hp}{Q:VK}:tOrV ta tb σ H Q=(ta σ H fun x H1=>∃ c,x=.bl c∧if c=true then Q (.bl true) H1 else tb σ H1 Q):=rfl
theorem tNotVA {ta:TE}{σ:St}{H:Hp}{Q:VK}:tNotV ta σ H Q=(ta σ H fun x H1=>∃ c,x=.bl c∧Q (.bl (!c)) H1):=rfl
theorem tUnA {r:V→Hp→VK→Prop}{ta:TE}{σ:St}{H:Hp}{Q:VK}:tUn r ta σ H Q=(ta σ H fun x H1=>r x H1 Q):=rfl
theorem tYesA  {u0:St}{H:Hp}{Q:Bool→Hp→Prop}:tYes u0 H Q=(Q true H):=rfl
theorem tDNewKA  {u0:St}{H:Hp}{Q:VK}:tDNewK u0 H Q=(∀ p,H p=none→Q (.ref p) (upd H p (.dK []))):=rfl
theorem tDNewTA  {u0:St}{H:Hp}{Q:VK}:tDNewT u0 H Q=(∀ p,H p=none→Q (.ref p) (upd H p (.dT []))):=rfl
theorem tIsNA {ta:TE}{σ:St}{H:Hp}{Q:VK}:tIsN ta σ H Q=(ta σ H fun x H1=>Q (.bl (decide (x=.non))) H1):=rfl
theorem tNotNA {ta:TE}{σ:St}{H:Hp}{Q:VK}:tNotN ta σ H Q=(ta σ H fun x H1=>Q (.bl (!decide (x=.non))) H1):=rfl
theorem tLCA {own:List Str}{fr:List (Str×Nat)}{wi:TI}{g:TG}{tc:TT}{te:TE}{σ:St}{H:Hp}{Q:VK}:tLC own fr wi g tc te σ H Q=wi σ H fun J H1=>∀ p,H1 p=none→lcW g tc te p J (st0 own fr σ) (upd H1 p (.lst [])) fun H2=>Q (.ref p) H2:=rfl
theorem tDCA {t:Bool}{own:List Str}{fr:List (Str×Nat)}{wi:TI}{g:TG}{tc:TT}{te tv:TE}{σ:St}{H:Hp}{Q:VK}:tDC t own fr wi g tc te tv σ H Q=wi σ H fun J H1=>∀ p,H1 p=none→dcW g tc te tv p J (st0 own fr σ) (upd H1 p (dNew t)) fun H2=>Q (.ref p) H2:=rfl
end L2
end
section
set_option Elab.async false
set_option linter.all false
set_option maxRecDepth 100000
namespace L2
open PySem
theorem sum_perm {l l':List Int}(p:l.Perm l'):l.sum=l'.sum:=by
 induction p with
 | nil=>rfl
 | cons x _ ih=>rw[List.sum_cons,List.sum_cons,ih]
 | swap x y l=>simp only[List.sum_cons];omega
 | trans _ _ h1 h2=>exact h1.trans h2
end L2
end
section
set_option Elab.async false
set_option linter.all false
set_option maxRecDepth 100000
namespace L2
open PySem PySem.Spec PyProof.Rows
section
variable {X:Cx}
def cMin (K:PySem.W.Frag):List V→Hp→VK→Prop:=fun xs H Q=>∃ (p:Addr) (ns:List Int),xs=[.ref p]∧SqL K H p (ns.map V.int)∧ns≠[]∧∀ m:Int,m∈ns→(∀ a∈ns,m≤a)→Q (.int m) H
theorem call_minL (hh:X.A.handled=none):CallR X (.builtin "min") (cMin X.K):=by
 intro pins s σ H xs us Q I r h;obtain⟨p,ns,rfl,hq,hne,q⟩:=h;obtain⟨u,rfl,ru⟩:=vals1 r;cases ru;obtain⟨its,rv,pl,hz⟩:=I.list hq;have hl:s.heap.IsList p its.toArray:=pl.isList;have hi:=intsAre_of rv;obtain⟨zs,e,e2⟩:=intItems_of hi;rw[e] at hl;have hsz:0<zs.size:=by
  have h1:zs.toList.length=ns.length:=by rw[← e2,List.length_map]
  rw[Array.length_toList] at h1;have:=List.length_pos_iff.mpr hne;omega
 refine min_intList hh hl hsz fun v h' tk hv hk=>?_
 obtain⟨t,rfl⟩:=intItems_at hv;obtain⟨h1,h2⟩:=argBest_lt (numAt zs) (zs.size-1);refine⟨.int _,H,I.kept hk,⟨t,rfl⟩,q _ ?_ fun a ha=>?_⟩
 ·rw[numAt_eq,e2];exact getD_mem (by rw[← e2,List.length_map,Array.length_toList];omega)
 ·obtain⟨j,hj,rfl⟩:=mem_getD ha;rw[← e2,List.length_map,Array.length_toList] at hj;rw[← e2,← numAt_eq];exact h2 j (by omega)
theorem minK (K:PySem.W.Frag)(hh:X.A.handled=none)(h:X.K=K:=by rfl):CallR X (.builtin "min") (cMin K):=by subst h;exact call_minL hh
end
def TrAt (H:Hp)(p:Addr)(rows:List (Int×Int)):Prop:=∃ ps:List (Addr×List Int),H p=some (.tup (ps.map fun x=>V.ref x.1))∧(∀ x∈ps,H x.1=some (.tup (x.2.map V.int)))∧ps.map (·.2)=rows.map fun r=>[r.1,r.2,1]
theorem TrAt.tp {H H':Hp}{p:Addr}{rows:List (Int×Int)}(h:TrAt H p rows)(t:Tp H H'):TrAt H' p rows:=by
 obtain⟨ps,e,hr,hs⟩:=h;exact⟨ps,t _ _ e,fun x hx=>t _ _ (hr x hx),hs⟩
end L2
end
section
set_option Elab.async false
set_option linter.all false
set_option maxRecDepth 100000
namespace L2
open PySem PySem.Spec PyProof.Rows
section
variable {X:Cx}
def rIsNB:R2:=fun x y H Q=>∃ a b:Bool,x=.bl a∧y=.bl b∧Q (.bl (!(a == b))) H
theorem op_isNB:OpR X (compareOp .IsNot) rIsNB:=by
 intro pins s σ H x y v u Q I rx ry h;obtain⟨a,b,rfl,rfl,q⟩:=h;cases (show v=Value.bool a from rx);cases (show u=Value.bool b from ry);have hp:wpAny (model X.prog X.w) X.A (pure (Value.bool (!(a == b)))) (EP X pins σ Q) X.xe s:=wpAny_pure ⟨.bl (!(a == b)),H,I,rfl,q⟩;cases a<;>cases b<;>exact hp
end
end L2
end
section
set_option Elab.async false
set_option linter.all false
set_option maxRecDepth 100000
namespace L2
open PySem PySem.Spec PyProof.Rows
@[irreducible] def Bd (e:Nat) (i:Int):Prop:=i.natAbs<2 ^ e
theorem bd_iff {e:Nat}{i:Int}:Bd e i↔i.natAbs<2 ^ e:=by unfold Bd;exact Iff.rfl
theorem Bd.mono {a b:Nat}{i:Int}(h:Bd a i)(k:a≤b):Bd b i:=bd_iff.mpr (Nat.lt_of_lt_of_le (bd_iff.mp h) (Nat.pow_le_pow_right (by decide) k))
theorem Bd.le {e:Nat}{i j:Int}(h:Bd e j)(i0:0≤i)(k:i≤j):Bd e i:=bd_iff.mpr (Nat.lt_of_le_of_lt (by omega) (bd_iff.mp h))
theorem Bd.mul {a b:Nat}{i j:Int}(h:Bd a i)(k:Bd b j):Bd (a+b) (i*j):=by
 rw[bd_iff] at h k ⊢;rw[Int.natAbs_mul,Nat.pow_add];exact Nat.mul_lt_mul'' h k
theorem Bd.add {a:Nat}{i j:Int}(h:Bd a i)(k:Bd a j):Bd (a+1) (i+j):=by
 rw[bd_iff] at h k ⊢;have:=Int.natAbs_add_le i j;rw[Nat.pow_succ];omega
theorem Bd.sub {a:Nat}{i j:Int}(h:Bd a i)(k:Bd a j):Bd (a+1) (i-j):=by
 rw[bd_iff] at h k ⊢;have:(i-j).natAbs≤i.natAbs+j.natAbs:=by omega
 rw[Nat.pow_succ];omega
theorem Bd.of {e:Nat}{i:Int}(h:i.natAbs<2 ^ e):Bd e i:=bd_iff.mpr h
theorem Bd.log {e:Nat}{i:Int}(h:Bd e i)(he:0<e):i.natAbs.log2<e:=by
 rw[bd_iff] at h;by_cases h0:i.natAbs=0
 ·rw[h0];simpa using he
 ·exact (Nat.log2_lt h0).mpr h
theorem Bd.bits {e:Nat}{i:Int}(h:Bd e i)(he:0<e):Builtin.Int.intBits i≤e:=by
 unfold Builtin.Int.intBits;split
 ·omega
 ·have:=h.log he;omega
def CMulB (i j:Int):Prop:=Bd 60000 i∧Bd 60000 j
theorem CMulB.ok {i j:Int}(h:CMulB i j):IntMulOk i j:=by
 have h1:=h.1.bits (by decide);have h2:=h.2.bits (by decide);unfold IntMulOk;intro e;rw[Bool.and_eq_true] at e;have e2:=e.2;unfold Builtin.Int.intTooBig at e2;have e2:=of_decide_eq_true e2;have:(bitsLine:Int)=134217728:=by decide +kernel
 omega
section
variable {X:Cx}
theorem op_mulB:OpR X (binaryOp .Mult) (rI CMulB fun i j=>.int (i*j)):=opI fun _ _ _ _ _ _ _ hc q=>mul_int q hc.ok
end
def frStep (s x:Int×Int):Int×Int:=(s.1*x.2+x.1*s.2,s.2*x.2)
def frSum (l:List (Int×Int)):Int×Int:=l.foldl frStep (0,1)
theorem frSum_snoc {l:List (Int×Int)}{x:Int×Int}:frSum (l++[x])=frStep (frSum l) x:=by unfold frSum;rw[List.foldl_append];rfl
def FrB (x:Int×Int):Prop:=0≤x.1∧Bd 225 x.1∧0<x.2∧Bd 200 x.2
def FrOk (x:Int×Int):Prop:=0<x.1∧Bd 225 x.1∧0<x.2∧Bd 200 x.2
theorem FrOk.b {x:Int×Int}(h:FrOk x):FrB x:=⟨Int.le_of_lt h.1,h.2⟩
theorem fr_bd:∀ (l:List (Int×Int)) (k:Nat) (s:Int×Int),(∀ x∈l,FrB x)→Bd (201*k+26) s.1→Bd (200*k+1) s.2→Bd (201*(k+l.length)+26) (l.foldl frStep s).1∧Bd (200*(k+l.length)+1) (l.foldl frStep s).2
 | [],k,s,_,h1,h2=>⟨h1,h2⟩
 | x::r,k,s,h,h1,h2=>by
  obtain⟨_,a,_,b⟩:=h x (List.mem_cons_self ..);have:=fr_bd r (k+1) (frStep s x) (fun y hy=>h y (List.mem_cons_of_mem _ hy))
   (((((h1.mul b).mono (by omega:_≤201*k+226)).add ((a.mul h2).mono (by omega:_≤201*k+226)))).mono (by omega)) ((h2.mul b).mono (by omega))
  rw[List.length_cons,show k+(r.length+1)=k+1+r.length by omega];exact this
theorem frSum_bd {l:List (Int×Int)}(h:∀ x∈l,FrB x)(hl:l.length≤62):Bd 13000 (frSum l).1∧Bd 13000 (frSum l).2:=by
 obtain⟨h1,h2⟩:=fr_bd l 0 (0,1) h (Bd.of (by decide)) (Bd.of (by decide));exact⟨h1.mono (by omega),h2.mono (by omega)⟩
theorem frSum_perm {l m:List (Int×Int)}(h:l.Perm m):frSum l=frSum m:=by
 unfold frSum;refine h.foldl_eq' (fun x _ y _ z=>?_) _;simp only[frStep,Prod.mk.injEq];constructor
 ·simp only[Int.add_mul,Int.mul_add,Int.mul_assoc,Int.mul_comm,Int.mul_left_comm];omega
 ·simp only[Int.mul_assoc,Int.mul_comm,Int.mul_left_comm]
end L2
end
section
set_option Elab.async false
set_option linter.all false
set_option maxRecDepth 100000
namespace L2
open PySem PySem.Spec PyProof.Rows
section
variable {n:Int}{ts us:List (Int×Int)}{g:Int}{par:Int→Int}
end
theorem TsAt.pld {H:Hp}{p:Addr}{us:List (Int×Int)}(h:TsAt H p us):PlD H 2 (.ref p)∧∀ a xs,V.ref p=.ref a→H a=some (.tup xs)→xs.length=us.length:=by
 obtain⟨ps,e,hps⟩:=h;refine⟨⟨⟨_,.tup e⟩,fun a ys ea e2 z hz=>?_⟩,fun a xs ea e2=>?_⟩
 ·cases ea;rw[e] at e2;cases e2;obtain⟨i,hi⟩:=List.getElem?_of_mem hz;obtain⟨b,t,rfl,_,hb⟩:=hps.get hi;refine⟨⟨_,.tup hb⟩,fun a' ys' e3 e4 y hy=>?_⟩;cases e3;rw[hb] at e4;cases e4;simp only[List.mem_cons,List.not_mem_nil,or_false] at hy;rcases hy with rfl | rfl<;>exact⟨_,.int _⟩
 ·cases ea;rw[e] at e2;cases e2;rw[List.length_map,hps.len]
end L2
end
section
set_option Elab.async false
set_option linter.all false
set_option maxRecDepth 100000
namespace L2
open PySem PySem.Spec PyProof.Rows
section
variable {K:PySem.W.Frag}{H:Hp}{a b:Addr}{xs ys:List V}{lo hi:Option Int}{Q:VK}
theorem catL_use (ha:H a=some (.lst xs))(hb:H b=some (.lst ys))(hz:xs.length+ys.length≤10000)(q:∀ p H',H p=none→Same H H'→H' p=some (.lst (xs++ys))→Q (.ref p) H'):rCat (.ref a) (.ref b) H Q :=
 ⟨a,b,xs,ys,rfl,rfl,ha,hb,Nat.le_of_lt (sizeBig (by omega)),fun p np=>q p _ np ((Same.refl H).upd np) upd_same⟩
end
end L2
end
section
set_option Elab.async false
set_option linter.all false
set_option maxRecDepth 100000
namespace L2
open PySem PySem.Spec PyProof.Rows
end L2
end
section
set_option Elab.async false
set_option linter.all false
set_option maxRecDepth 100000
namespace L2
open PySem PySem.Spec PyProof.Rows
theorem Ncs.mem {c k m:Nat}:∀ {ds:List PyData},Ncs c k m ds→∀ d∈ds,Nc c k m d
 | d::r,h,x,hx=>by
  have h1:=h.sh;have h2:=h.dp;have h3:=h.lv;have h4:=h.bk;rw[PyData.showableAll,Bool.and_eq_true] at h1;rw[PyData.depthAll] at h2;rw[PyData.leavesShortAll,Bool.and_eq_true] at h3;rw[PyData.bulkAll] at h4;have h5:c≠2→noL d=true∧noLs r=true:=fun e=>by have:=h.nl e;rw[noLs,Bool.and_eq_true] at this;exact this
  have h6:c≠1→d.hasDict=false∧PyData.hasDictAll r=false:=fun e=>by have:=h.nd e;rw[PyData.hasDictAll,Bool.or_eq_false_iff] at this;exact this
  rcases List.mem_cons.mp hx with rfl | hx
  ·exact⟨fun e=>(h5 e).1,fun e=>(h6 e).1,h1.1,by omega,h3.1,by omega⟩
  ·exact Ncs.mem ⟨fun e=>(h5 e).2,fun e=>(h6 e).2,h1.2,by omega,h3.2,by omega⟩ x hx
theorem dds_mem {H:Hp}:∀ {xs:List V} {ds:List PyData},Dds H xs ds→∀ x∈xs,∃ d∈ds,Dd H x d
 | _,_,.nil,x,hx=>nomatch hx
 | _,_,.cons h t,x,hx=>by
  rcases List.mem_cons.mp hx with rfl | hx
  ·exact⟨_,List.mem_cons_self ..,h⟩
  ·obtain⟨d,h1,h2⟩:=dds_mem t x hx;exact⟨d,List.mem_cons_of_mem _ h1,h2⟩
theorem Tg.items {H:Hp}{c k m:Nat}{a:Addr}{xs:List V}(h:Tg H c k m (.ref a))(e:H a=some (.tup xs)):∀ x∈xs,Tg H c k m x:=fun x hx=>by
 obtain⟨D,hD,hN⟩:=h;cases hD with
 | sc h=>cases h
 | @tup _ ys ds e2 hs =>
  rw[e] at e2;cases e2;obtain⟨d,h1,h2⟩:=dds_mem hs x hx;refine⟨d,h2,Ncs.mem ⟨fun e=>?_,fun e=>?_,?_,?_,?_,?_⟩ d h1⟩
  ·have:=hN.nl e;rw[noL] at this;exact this
  ·have:=hN.nd e;rw[PyData.hasDict] at this;exact this
  ·have:=hN.sh;rw[PyData.showable] at this;exact this
  ·have:=hN.dp;rw[PyData.depth] at this;omega
  ·have:=hN.lv;rw[PyData.leavesShort] at this;exact this
  ·have:=hN.bk;rw[PyData.bulk] at this;exact this
 | lst e2 _=>rw[e] at e2;cases e2
 | dct e2 _=>rw[e] at e2;cases e2
section
variable {A A':Addr→Prop}{H H':Hp}{v:V}
end
end L2
namespace L2
open PySem PySem.Spec PyProof.Rows
section
variable {A:Addr→Prop}{l:Addr}{H H':Hp}
theorem hid_less (s:Same H H'):Same (hid (fun a=>A a∨a=l) H) (hid A H'):=fun b o h=>by
 have h2:=hid_in _ _ h;rw[hid_ne (fun e=>by unfold hid at h;rw[if_pos (.inl e)] at h;cases h)];exact s _ _ h2
theorem hid_keep {o':HO}(s:Same H H'):Same (hid (fun a=>A a∨a=l) H) (hid (fun a=>A a∨a=l) (upd H' l o')):=hid_of fun b o nb h=>by
 rw[upd_ne (fun e=>nb (.inr e))];exact s _ _ h
theorem hid_new {o':HO}(s:Same H H')(hl:H l=none):Same (hid A H) (hid (fun a=>A a∨a=l) (upd H' l o')):=fun b o h=>by
 have h':=hid_in _ _ h;have nb:¬ A b:=fun e=>by unfold hid at h;rw[if_pos e] at h;cases h
 have bl:b≠l:=fun e=>by rw[e,hl] at h';cases h'
 rw[hid_ne (fun e=>e.elim nb bl),upd_ne bl];exact s _ _ h'
theorem av_keep {ys:List V}(h:Av A H):Av (fun a=>A a∨a=l) (upd H l (.lst ys)):=fun a ha=>by
 by_cases e:a=l
 ·exact⟨_,by rw[e,upd_same]⟩
 ·rw[upd_ne e];exact h a (ha.resolve_right e)
end
end L2
end
section
set_option Elab.async false
set_option linter.all false
set_option maxRecDepth 100000
namespace L2
open PySem PySem.Spec PyProof.Rows
theorem tg_back {H H':Hp}{c k m:Nat}{r:Addr}{ys:List V}(h:Tg H c k m (.ref r))(s:Same H H')(e:H' r=some (.tup ys)):H r=some (.tup ys):=by
 obtain⟨D,hD,_⟩:=h;cases hD with
 | sc h=>cases h
 | tup e2 _=>have:=s _ _ e2;rw[e] at this;cases this;exact e2
 | lst e2 _=>have:=s _ _ e2;rw[e] at this;cases this
 | dct e2 _=>have:=s _ _ e2;rw[e] at this;cases this
def RB (H:Hp)(z:V):Prop:=∀ r xs,z=.ref r→H r=some (.tup xs)→∀ i,V.int i∈xs→Bd 200 i
def RI (A:Addr→Prop)(H:Hp)(z:V):Prop:=(∃ c,Tg (hid A H) c 2 24 z)∧RB (hid A H) z
def SHt (A:Addr→Prop)(H:Hp)(v:V):Prop:=(∃ c,Tg (hid A H) c 3 290 v)∧∀ a xs,v=.ref a→hid A H a=some (.tup xs)→∀ z∈xs,RB (hid A H) z
section
variable {A A':Addr→Prop}{H H':Hp}{v:V}
theorem RI.in (h:RI A H v)(s:Same (hid A H) (hid A' H')):RI A' H' v:=by
 obtain⟨⟨c,h1⟩,h2⟩:=h;refine⟨⟨c,h1.same s⟩,fun r xs e ea=>?_⟩;subst e;exact h2 r xs rfl (tg_back h1 s ea)
theorem SHt.in (h:SHt A H v)(s:Same (hid A H) (hid A' H')):SHt A' H' v:=by
 obtain⟨⟨c,h1⟩,h2⟩:=h;refine⟨⟨c,h1.same s⟩,fun a xs e ea z hz r ys ez er=>?_⟩;subst e;have ea':=tg_back h1 s ea;subst ez;exact h2 a xs rfl ea' _ hz r ys rfl (tg_back (h1.items ea' _ hz) s er)
theorem SHt.same (h:SHt A H v)(s:Same H H'):SHt A H' v:=h.in s.hid
theorem RI.same (h:RI A H v)(s:Same H H'):RI A H' v:=h.in s.hid
theorem ri_tup {t:Addr}{xs:List V}{c:Nat}(e:H t=some (.tup xs))(hd:Av A H)(hl:xs.length≤3)(h:∀ x∈xs,Tg (hid A H) c 1 6 x)(hb:∀ i,V.int i∈xs→Bd 200 i):RI A H (.ref t):=by
 have e2:hid A H t=some (.tup xs):=by rw[hid_ne (hd.tup e)];exact e
 refine⟨⟨c,(Tg.tup e2 h).mono (Nat.le_refl _) (by omega)⟩,fun r ys er e3=>?_⟩;cases er;rw[e2] at e3;cases e3;exact hb
theorem sh_no {c:Nat}(h:Tg (hid A H) c 3 290 v)(hn:∀ a xs,v=.ref a→H a=some (.tup xs)→∀ z∈xs,RB (hid A H) z):SHt A H v:=⟨⟨c,h⟩,fun a xs e ea=>hn a xs e (hid_in _ _ ea)⟩
theorem lc_gen {l:Addr}{K:PySem.W.Frag}{src:Addr}{te:TE}{fr:St}{EE:Hp→Prop}{vs:List V}(Pp:(Addr→Prop)→Hp→V→Prop)(hm:∀ {A A':Addr→Prop} {H H':Hp} {v:V},Pp A H v→Same (hid A H) (hid A' H')→Pp A' H' v)(F:V→List V)(hsrc:H src=some (.lst vs))(hl:H l=none)(hd:Av A H)(hn:vs.length≤1000)
  (hs:∀ v∈vs,∀ (Hc:Hp) (Q:VK),Same H Hc→(∀ t H',Same Hc H'→H' t=some (.tup (F v))→Q (.ref t) H')→te (some v::fr) Hc Q)
  (hF:∀ v∈vs,∀ (A':Addr→Prop) (H':Hp) (t:Addr),Same (hid A H) (hid A' H')→Av A' H'→H' t=some (.tup (F v))→Pp A' H' (.ref t))
  (hE:∀ xs Hc,Same H Hc→Hc l=some (.lst xs)→xs.length=vs.length→(∀ x∈xs,Pp A Hc x)→EE Hc) :
  lcW (gName 0) tYes te l (Itl K src) (none::fr) (upd H l (.lst [])) EE:=by
 refine lc_list (K:=K) (xs:=vs) (fun i τ Hc=>∃ (c:Option V) (xs:List V),τ=c::fr∧Same H Hc∧Hc l=some (.lst xs)∧xs.length=i∧∀ x∈xs,Pp (fun a=>A a∨a=l) Hc x) ⟨none,[],rfl,(Same.refl H).upd hl,upd_same,rfl,fun x hx=>nomatch hx⟩ ?_ ?_ ?_
 ·rintro i τ Hc _ ⟨_,_,rfl,sc,_⟩;exact SqL.of (sc _ _ hsrc)
 ·rintro i v τ Hc hv ⟨c,xs,rfl,sc,hc,hxl,hxs⟩ _;have hmm:=List.mem_of_getElem? hv;have hi:=(List.getElem?_eq_some_iff.mp hv).1;unfold gName tYes;simp only[List.set_cons_zero,if_true];refine hs v hmm Hc _ sc fun t H1 s1 e1=>?_
  have hl1:=s1 _ _ hc;have tl':t≠l:=fun e=>by rw[e,hl1] at e1;cases e1
  refine⟨xs,hl1,by rw[hxl];exact sizeBig (by omega),_,xs++[V.ref t],rfl,(sc.trans s1).upd hl,upd_same,by rw[List.length_append,hxl];rfl,fun x hx=>?_⟩;rcases List.mem_append.mp hx with hx | hx
  ·exact hm (hxs x hx) (hid_keep s1)
  ·rw[List.mem_singleton.mp hx];exact hF v hmm _ _ t (hid_new (sc.trans s1) hl) (av_keep (hd.same (sc.trans s1))) (by rw[upd_ne tl'];exact e1)
 ·rintro τ Hc ⟨c,xs,rfl,sc,hc,hxl,hxs⟩;exact hE xs Hc sc hc hxl fun x hx=>hm (hxs x hx) (hid_less (Same.refl Hc))
end
end L2
end
section
set_option Elab.async false
set_option linter.all false
set_option maxRecDepth 100000
set_option maxHeartbeats 4000000
namespace L2
open PySem PySem.Spec PyProof.Rows
section
variable {X:Cx}{e st:Expr}{te ts:TE}{p2 pos:Pos}
end
end L2
end
section
set_option Elab.async false
set_option linter.all false
set_option maxRecDepth 100000
namespace L2
open PySem
end L2
end
section
set_option Elab.async false
set_option linter.all false
set_option maxRecDepth 100000
set_option maxHeartbeats 4000000
set_option format.width 230
set_option pp.deepTerms true
set_option pp.maxSteps 20000
namespace K22
open PySem L2
local macro_rules | `(tactic| walk_at "rd")=>`(tactic| ((try simp only[L2.start,st0,List.map_cons,List.map_nil,List.length_cons,List.length_nil,List.replicate,List.cons_append,List.nil_append,Nat.reduceAdd,Nat.reduceSub,List.getElem?_cons_zero,List.getElem?_cons_succ,Option.join_some]);simp only[↓tSeqA,↓tAsgA,↓tOpA,↓tCA,↓tRetA,↓tRetNA,↓tIfSA,↓tTestA,↓tBA,↓tNextA,↓tDropA,↓tCallA,↓tConsA,↓tNilA,↓tCBA,↓tBMA,↓tBM0A,↓tTupA,↓tLstA,↓gTupA,↓gConsA,↓gNilA,↓gSubA,↓tSlA,↓tNoPartA,↓tPartA,↓tAndA,↓tOrA,↓tNotA,↓tDInA,↓tDNotInA,↓sDPutA,↓iListA,↓iTupA,↓iRng1A,↓iRng2A,↓tLCA,↓tDCA,↓tChainA,↓tAndVA,↓tOrVA,↓tNotVA,↓tUnA,↓tYesA,↓tDNewKA,↓tDNewTA,↓tIsNA,↓tNotNA,↓tV0,↓tV1,↓tV2,↓tV3,↓tV4,↓tV5,↓tV6,↓tV7,↓tV8,↓tV9,↓tV10,↓tV11,↓tV12,↓tV13,↓tV14,↓tV15,↓gN0,↓gN1,↓gN2,↓gN3,↓gN4,↓gN5,↓gN6,↓gN7,↓gN8,↓gN9,↓gN10,↓gN11,↓gN12,↓gN13,↓gN14,↓gN15,↓rI0i,↓rIi,↓rIxLr,↓rIxTr,↓exB,↓exI,↓exR,↓rEqI,↓rNeI,↓cLenR,rI,rI0,rAppend,rPop,rSetL,tRevL,rIxL,rIxT,rEq,rNe,cLen,cList,cTuple,cSortI,cSortT,cIsi,cAll,cSortSet,cMin,tPar,iAny,cAny,rCatT0,rCatT1,iEnum,rIsNB,tRevT,rU,L2.start,st0,List.map_cons,List.map_nil,List.length_cons,List.length_nil,List.replicate,List.cons_append,List.nil_append,List.append_nil,List.getElem?_cons_zero,List.getElem?_cons_succ,List.set_cons_zero,List.set_cons_succ,Option.some.injEq,V.int.injEq,V.bl.injEq,V.ref.injEq,List.cons.injEq,and_true,true_and,exists_eq_left',exists_eq_left,exists_eq',exists_eq,Nat.reduceAdd,Nat.reduceSub,exists_and_left,and_self,Option.join_some,scal,decide_true,if_true,if_false,Bool.false_eq_true,Bool.not_true,Bool.not_false,tVar,gName]))
def top (i:Nat):Stmt:=PySem.Challenge.pw_manyleaves_k22_bent_shares.main.body.getD i (.Pass ⟨0,0,0,0⟩)
section
variable {P:Program}{w:World}{K:PySem.W.Frag}{mg:Str→Option Value}{base:Heap}
theorem sc_mixed:FnScope ["_law_cell", "_law_k", "_law_number"] ["_law_cell", "_law_k"] (defScope (top 19)):=⟨rfl,rfl,rfl,by decide +kernel,rfl,by decide +kernel,by decide +kernel⟩
theorem ok_mixed {f:Addr}{fd:FuncData}(F:Fun K "_law_mixed" "_law_mixed" (top 19) f fd)(B:Bt mg):FnOk P w K mg base CX0 1 f fd ["_law_cell", "_law_k"] sp_mixed:=by
 refine F.ok sc_mixed (fun vs H Q E h=>?_) (fun cdv A outer s H vs Q E hr h=>?_)
 ·obtain⟨c,k,rfl,hk0,hk1,q⟩:=h;rfl
 ·obtain⟨c,k,rfl,hk0,hk1,q⟩:=h;have nd:=sc_mixed.nd;have hu:=hu_of hr
  refine⟨_,(pss_cons (ps_set (i:=2) nd rfl (Or.inl rfl) (pe_op op_mod (pe_op op_add (pe_op op_add (pv 0) (pe_op op_mul (pe_op op_mul (pv 1) (pv 1)) pe_int)) pe_int) pe_int))
    (pss_cons (ps_set (i:=2) nd rfl (Or.inl rfl) (pe_op op_mod (pe_op op_mul (pv 2) (pv 2)) pe_int))
    (pss_cons (ps_set (i:=2) nd rfl (Or.inl rfl) (pe_op op_mod (pe_op op_mul (pe_op op_add (pe_op op_add (pv 2) (pe_op op_mul (pv 1) pe_int)) pe_int) pe_int) pe_int))
    (pss_one (ps_ret (pe_op op_fdiv (pe_op op_mod (pe_op op_mul (pv 2) (pv 2)) pe_int) pe_int)))))),?_⟩
  walk_at "rd";have hm:∀ x:Int,0≤x % 2305843009213693951∧x % 2305843009213693951<2305843009213693951:=fun x=>⟨Int.emod_nonneg _ (by decide),Int.emod_lt_of_pos _ (by decide)⟩
  have small:∀ x y:Int,CMul (x % 2305843009213693951) y:=fun x y=>.inl ⟨by have:=hm x;omega,by have:=hm x;omega⟩
  have pos:(0:Int)<2305843009213693951:=by decide
  exact⟨.inl ⟨by omega,by omega⟩,.inr ⟨by decide,by decide⟩,pos,small _ _,pos,.inl ⟨by omega,by omega⟩,.inr ⟨by decide,by decide⟩,pos,small _ _,pos,⟨by decide,by decide⟩,q _⟩
theorem sc_next:FnScope ["_law_deck_here"] ["_law_deck_here"] (defScope (top 21)):=⟨rfl,rfl,rfl,by decide +kernel,rfl,by decide +kernel,by decide +kernel⟩
theorem ok_next {f:Addr}{fd:FuncData}(F:Fun K "_law_next" "_law_next" (top 21) f fd)(B:Bt mg):FnOk P w K mg base CX0 1 f fd ["_law_deck_here"] sp_next:=by
 refine F.ok sc_next (fun vs H Q E h=>?_) (fun cdv A outer s H vs Q E hr h=>?_)
 ·obtain⟨d,ns,rfl,hd,q⟩:=h;rfl
 ·obtain⟨d,ns,rfl,hd,q⟩:=h;have nd:=sc_next.nd;have hu:=hu_of hr
  refine⟨_,(pss_cons (ps_if (pt_cmpR op_gt (pe_callB (lenK K) (by rfl) B.len PySem.boot_len (pa_cons (pv 0) pa_nil)) pe_int (nomark _))
     (pss_one (ps_ret (popK K (pv 0))))
     pss_nil)
    (pss_one (ps_ret pe_int))),?_⟩
  walk_at "rd";refine⟨ns.map V.int,.inl (SqL.of hd),ite2 (fun h=>?_) fun h=>?_⟩
  ·refine⟨.inl ⟨rfl,_,SqL.of hd⟩,?_⟩;have hne:ns≠[]:=fun e=>by subst e;simp at h
   have h1:(ns.map V.int)[(ns.map V.int).length-1]?=some (V.int (ns.getLast hne)):=by
    rw[List.length_map,List.getElem?_map,← List.getLast?_eq_getElem?,List.getLast?_eq_some_getLast hne];rfl
   refine⟨ns.map V.int,hd,_,h1,?_⟩;rw[← List.map_dropLast];exact q _ _ (by rw[List.length_dropLast];omega) (fun x hx=>List.dropLast_subset _ hx) (.inr (List.getLast_mem hne))
  ·have e:upd H d (.lst (ns.map V.int))=H:=upd_self hd;have:=q 0 ns (Nat.le_refl _) (fun _ h=>h) (.inl rfl);rw[e] at this;exact this
def inv_deck (H:Hp)(a p4 p5 p6:Addr)(m:Int)(os:List Int)(i:Nat)(σ:St)(Hc:Hp):Prop:=∃ (kv av:Option V) (rs ds:List Int),σ=[some (.ref a),some (.int m),some (.ref p4),some (.ref p5),some (.ref p6),kv,av]∧Same H Hc∧Hc p4=some (.lst (os.map V.int)) ∧
 Hc p5=some (.lst (rs.map V.int))∧rs.length=os.length∧Hc p6=some (.lst (ds.map V.int))∧ds.length=i∧(∀ x∈ds,0≤x∧x<1000)
theorem sc_deck:FnScope ["_law_script", "_law_many", "_law_own", "_law_rest", "_law_deck_here", "_law_k", "_law_at"] ["_law_script", "_law_many"] (defScope (top 20)):=⟨rfl,rfl,rfl,by decide +kernel,rfl,by decide +kernel,by decide +kernel⟩
theorem ok_deck {f:Addr}{fd:FuncData}(F:Fun K "_law_deck" "_law_deck" (top 20) f fd)(B:Bt mg){f1:Addr}{fd1:FuncData}{st1:Stmt}(D_law_mixed:Df K mg "_law_mixed" st1 f1 fd1 ["_law_cell", "_law_k"])(G_law_mixed:FnOk P w K mg base CX0 1 f1 fd1 ["_law_cell", "_law_k"] sp_mixed):FnOk P w K mg base CX0 2 f fd ["_law_script", "_law_many"] (sp_deck K):=by
 refine F.ok sc_deck (fun vs H Q E h=>?_) (fun cdv A outer s H vs Q E hr h=>?_)
 ·obtain⟨a,m,ns,rfl,hS,hl,hm0,hm1,q⟩:=h;rfl
 ·obtain⟨a,m,ns,rfl,hS,hl,hm0,hm1,q⟩:=h;have nd:=sc_deck.nd;have hu:=hu_of hr
  refine⟨_,(pss_cons (ps_set (i:=2) nd rfl (Or.inl rfl) (pe_op op_cat (pe_callTy (listK K) (by rfl) B.list PyProof.Rows.boot_list (pa_cons (pe_slice (sl_listK K) (pv 0) po_none (po_some pe_int)) pa_nil)) (pe_op op_rep (pe_lst (pa_cons pe_int pa_nil)) (pe_callTy call_intB (by rfl) B.int PyProof.Rows.boot_int (pa_cons (pe_cmpR op_eq (pe_callB (lenK K) (by rfl) B.len PySem.boot_len (pa_cons (pv 0) pa_nil)) pe_int (nomark _)) pa_nil)))))
    (pss_cons (ps_setLC (i:=3) (own:=["_law_cell"]) (fr:=[]) rfl nd rfl rfl (by with_unfolding_all rfl) (by with_unfolding_all rfl) frOk_nil (pi_listK K (pv 2)) ⟨fun _ _ _ _=>⟨(pg_name (i:=0) (show List.Nodup (["_law_cell"]:List Str) by decide +kernel) rfl (Or.inl rfl)),pts_nil,(pe_ix (ix_listK K) (pe_lst (pa_cons pe_int (pa_cons (pv 0) pa_nil))) (pe_callTy call_intB (by rfl) B.int PyProof.Rows.boot_int (pa_cons (pe_cmpR op_ge (pv 0) (pe_op op_pow pe_int pe_int) (nomark _)) pa_nil)) (fun _ _=>rfl))⟩⟩)
    (pss_cons (ps_set (i:=4) nd rfl (Or.inl rfl) (pe_lst pa_nil))
    (pss_cons (ps_for PassesOwn.never rfl (pi_range1 (by rfl) B.range (pa_cons (pv 1) pa_nil)) (pg_name (i:=5) nd rfl (Or.inl rfl))
     (pss_cons (ps_set (i:=6) nd rfl (Or.inl rfl) (pe_op op_mod (pv 5) (pe_callB (lenK K) (by rfl) B.len PySem.boot_len (pa_cons (pv 2) pa_nil))))
     (pss_one (ps_if (pt_cmpR op_gt (pe_ix (ix_listK K) (pv 3) (pv 6) (fun _ _=>rfl)) pe_int (nomark _))
      (pss_cons (ps_expr (appendK K (pv 4) (pa_cons (pe_op op_mod (pe_ix (ix_listK K) (pv 3) (pv 6) (fun _ _=>rfl)) pe_int) pa_nil)))
      (pss_one (ps_asg (pe_op op_fdiv (pe_ix (ix_listK K) (pv 3) (pv 6) (fun _ _=>rfl)) pe_int) (pg_sub (pv 3) (pv 6) set_list))))
      (pss_one (ps_expr (appendK K (pv 4) (pa_cons (pe_op op_mod (pe_own G_law_mixed D_law_mixed (hr.mono (by decide)) (pa_cons (pe_ix (ix_listK K) (pv 2) (pv 6) (fun _ _=>rfl)) (pa_cons (pe_op op_add (pv 5) pe_int) pa_nil))) pe_int) pa_nil))))))))
    (pss_one (ps_ret (pe_listrev hr.hd (by rfl) B.list (by rfl) B.reversed (pv 4)))))))),?_⟩
  walk_at "rd";refine⟨a,ns.map V.int,rfl,hS,fun p1 n1=>⟨p1,rfl,_,.inl (SqL.of upd_same),fun l nl=>⟨by decide,fun p2 n2=>?_⟩⟩⟩;have s1:=(Same.refl H).upd (o:=.lst (cutV (ns.map V.int) none (some 60))) n1;have s2:=s1.upd (o:=.lst (cutV (ns.map V.int) none (some 60))) (s1.free nl);have s3:=s2.upd (o:=.lst [V.int 0]) (s2.free n2);refine⟨ns.map V.int,.inl (s3.seq hS),p2,_,_,rfl,rfl,upd_same,?_,?_,?_,fun p3 n3=>?_⟩
  ·split<;>decide
  ·split<;>decide
  ·rw[sizeLine_eq];split<;>decide
  have s4:=s3.upd (o:=.lst (List.replicate (if decide ((ns.map V.int).length=(0:Int))=true then (1:Int) else 0).toNat [V.int 0]).flatten) (s3.free n3);have hlp:l≠p2:=fun e=>by subst e;rw[upd_same] at n2;cases n2
  have hl3:l≠p3:=fun e=>by subst e;rw[upd_ne hlp,upd_same] at n3;cases n3
  obtain⟨os,eo,ho1,ho2⟩:∃ os:List Int,cutV (ns.map V.int) none (some 60)++(List.replicate (if decide ((ns.map V.int).length=(0:Int))=true then (1:Int) else 0).toNat [V.int 0]).flatten=os.map V.int∧1≤os.length∧os.length≤64:=by
   by_cases e:ns=[]
   ·subst e;exact⟨[0],rfl,by decide,by decide⟩
   ·have hne:¬ ((ns.map V.int).length:Int)=0:=by rw[List.length_map];have:=List.length_pos_iff.mpr e;omega
    rw[decide_eq_false hne];refine⟨ns.take 60,?_,?_,?_⟩
    ·have h60:HT.sIx (ns.map V.int).length (ns.map V.int).length (some 60)=min 60 ns.length:=by rw[show (60:Int)=((60:Nat):Int) from rfl,HT.sIx_nat,List.length_map]
     unfold cutV;rw[HT.sIx_none,List.drop_zero,h60,Nat.sub_zero];simp only[Bool.false_eq_true,if_false,Int.toNat_zero,List.replicate,List.flatten_nil,List.append_nil];rw[← List.map_take];congr 1;by_cases h:60≤ns.length
     ·rw[Nat.min_eq_left h]
     ·rw[Nat.min_eq_right (by omega),List.take_of_length_le (Nat.le_refl _),List.take_of_length_le (by omega)]
    ·have:=List.length_pos_iff.mpr e;rw[List.length_take];omega
    ·rw[List.length_take];omega
  refine⟨l,p3,_,_,rfl,rfl,by rw[upd_ne hl3,upd_ne hlp,upd_same],upd_same,?_,fun p4 n4=>?_⟩
  ·have:=congrArg List.length eo;have e2:(os.map V.int).length=os.length:=List.length_map _;rw[List.length_append] at this;rw[sizeLine_eq];omega
  rw[eo];have s5:=s4.upd (o:=.lst (os.map V.int)) (s4.free n4);generalize hH5:upd (upd (upd (upd (upd H p1 (HO.lst (cutV (ns.map V.int) none (some 60)))) l (HO.lst (cutV (ns.map V.int) none (some 60)))) p2 (HO.lst [V.int 0])) p3 (HO.lst (List.replicate (if decide ((ns.map V.int).length=(0:Int))=true then (1:Int) else 0).toNat [V.int 0]).flatten)) p4 (HO.lst (os.map V.int))=H5 at s5 ⊢;have h4:H5 p4=some (.lst (os.map V.int)):=by rw[← hH5];exact upd_same
  refine⟨p4,rfl,⟨_,SqL.of h4⟩,fun p5 n5=>lc_list (K:=K) (xs:=os.map V.int) (fun i τ Hc=>∃ (c:Option V) (rs:List Int),τ=[c]∧Same H5 Hc∧Hc p5=some (.lst (rs.map V.int))∧rs.length=i)
   ⟨none,[],rfl,(Same.refl H5).upd n5,upd_same,rfl⟩ (fun i τ Hc _ ⟨_,_,_,sc,_⟩=>SqL.of (sc _ _ h4)) ?_ ?_⟩
  ·rintro i x τ Hc hx ⟨c,rs,rfl,sc,h5,hi⟩ _;have hil:i<os.length:=by have:=(List.getElem?_eq_some_iff.mp hx).1;rw[List.length_map] at this;exact this
   obtain⟨z,rfl⟩:∃ z,x=V.int z:=by
    rw[List.getElem?_map] at hx;cases e:os[i]? with
    | none=>rw[e] at hx;cases hx
    | some z=>rw[e] at hx;exact⟨z,(Option.some.inj hx).symm⟩
   walk_at "rd";refine⟨by decide,fun p n=>⟨⟨by decide,by decide,by decide⟩,?_⟩⟩;have h5':∀ o,(upd Hc p o) p5=some (.lst (rs.map V.int)):=fun o=>by rw[upd_ne (ne_of_none h5 n)];exact h5
   refine⟨[V.int 0,V.int z],SqL.of upd_same,?_⟩;generalize decide ((10:Int) ^ Int.toNat 18≤z)=b;obtain⟨y,hy⟩:∃ y:Int,atI [V.int 0,V.int z] (if b=true then 1 else 0)=some (V.int y):=by
    cases b
    ·exact⟨0,rfl⟩
    ·exact⟨z,rfl⟩
   refine⟨_,hy,_,h5' _,?_,(sc.upd (sc.free n)).upd n5,rs++[y],?_,?_⟩
   ·rw[List.length_map];exact sizeBig (by omega)
   ·rw[upd_same,List.map_append];rfl
   ·rw[List.length_append,hi];rfl
  ·rintro τ H6 ⟨c,rs,rfl,s6,h5,hrs⟩;rw[List.length_map] at hrs;refine⟨by decide,fun p6 n6=>?_⟩;have s06:Same H H6:=s5.trans s6;have h46:H6 p4=some (.lst (os.map V.int)):=s6 _ _ h4;have n45:p4≠p5:=ne_of_none h4 n5;have n46:p4≠p6:=ne_of_none h46 n6;have n56:p5≠p6:=ne_of_none h5 n6
   refine⟨_,rfl,m,rfl,by omega,by omega,for_range (lo:=0) (n:=m.toNat) (inv_deck H a p4 p5 p6 m os)
    ⟨none,none,rs,[],rfl,s06.upd (s06.free n6),by rw[upd_ne n46];exact h46,by rw[upd_ne n56];exact h5,hrs,upd_same,rfl,fun x hx=>(by cases hx)⟩ ?_ ?_⟩
   ·rintro i σ Hc hi ⟨kv,av,rs,ds,rfl,sc,c4,c5,hrl,c6,hdl,hdb⟩;have hoi:(0:Int)<(os.map V.int).length:=by rw[List.length_map];omega
    have hat:∃ j:Nat,j<os.length∧(0+(i:Int)) % ((os.map V.int).length:Int)=(j:Int):=by
     have h1:=Int.emod_nonneg (0+(i:Int)) (b:=((os.map V.int).length:Int)) (by omega);have h2:=Int.emod_lt_of_pos (0+(i:Int)) hoi;refine⟨((0+(i:Int)) % ((os.map V.int).length:Int)).toNat,?_,by omega⟩;rw[List.length_map] at h2 ⊢;omega
    obtain⟨j,hj,ej⟩:=hat;have atR:∀ (l:List Int),l.length=os.length→∃ z,atI (l.map V.int) (j:Int)=some (V.int z):=fun l e=>by
     have hjl:j<l.length:=by omega
     exact⟨l[j],atI_nat (by rw[List.getElem?_map,List.getElem?_eq_getElem hjl];rfl)⟩
    obtain⟨z,hz⟩:=atR rs hrl;obtain⟨z',hz'⟩:=atR os rfl;have n65:p6≠p5:=n56.symm;have hdb2:∀ y:Int,∀ x∈ds++[y % 1000],0≤x∧x<1000:=fun y x hx=>by
     rcases List.mem_append.mp hx with hx | hx
     ·exact hdb x hx
     ·rw[List.mem_singleton.mp hx];omega
    have n64:p6≠p4:=n46.symm;have hdl2:(ds.map V.int).length<sizeLine:=by rw[List.length_map];exact sizeBig (by omega)
    have c5':∀ o,(upd Hc p6 o) p5=some (.lst (rs.map V.int)):=fun o=>by rw[upd_ne n56];exact c5
    have hm6:H p6=none:=s06.free n6;have hm5:H p5=none:=(s5.free n5)
    walk_at "rd";refine⟨_,.inl (SqL.of c4),hoi,_,SqL.of c5,?_⟩;rw[ej];refine⟨_,hz,z,rfl,ite2 (fun _=>?_) fun _=>?_⟩
    ·refine⟨.inl ⟨rfl,_,SqL.of c6⟩,_,SqL.of c5,_,hz,z,rfl,by decide,_,c6,hdl2,_,SqL.of (c5' _),_,hz,z,rfl,⟨by decide,by decide⟩,?_⟩;have hix:ixN (rs.map V.int).length (j:Int)=some j:=by
      unfold ixN;rw[List.length_map,if_pos (by omega),if_pos (by omega)];simp
     refine⟨_,c5' _,j,hix,?_⟩;refine⟨_,_,rs.set j (z / 1000),ds++[z % 1000],rfl,(sc.upd hm6).upd hm5,by rw[upd_ne n45,upd_ne n46];exact c4,by rw[upd_same,List.map_set],by rw[List.length_set];exact hrl,?_,by rw[List.length_append,hdl];rfl,hdb2 z⟩;rw[upd_ne n65,upd_same,List.map_append];rfl
    ·refine⟨.inl ⟨rfl,_,SqL.of c6⟩,_,SqL.of c4,_,hz',z',_,rfl,by omega,by omega,fun y=>?_⟩;walk_at "rd";refine⟨by decide,_,c6,hdl2,?_⟩;refine⟨_,_,rs,ds++[y % 1000],rfl,sc.upd hm6,by rw[upd_ne n46];exact c4,by rw[upd_ne n56];exact c5,hrl,by rw[upd_same,List.map_append];rfl,by rw[List.length_append,hdl];rfl,hdb2 y⟩
   ·rintro σ Hc ⟨kv,av,rs,ds,rfl,sc,c4,c5,hrl,c6,hdl,hdb⟩;walk_at "rd";refine⟨_,c6,fun p7 n7=>?_⟩;rw[← List.map_reverse];exact q p7 ds.reverse _ ⟨by rw[List.length_reverse];omega,fun x hx=>hdb x (List.mem_reverse.mp hx)⟩ (sc.upd (sc.free n7)) (sc.free n7) upd_same
def inv_turn1 (H:Hp)(d p:Addr)(i:Nat)(τ:St)(Hc:Hp):Prop:=∃ (c:Option V) (ps:List (Addr×List Int)),τ=[c,some (.ref d)]∧Kp d H Hc∧DkAt Hc d∧Hc p=some (.lst (ps.map fun x=>V.ref x.1)) ∧
 (∀ x∈ps,Hc x.1=some (.tup (x.2.map V.int))∧∃ z k,x.2=[z,k])∧ps.length=i∧ps.map (fun x=>x.2.getD 1 0)=rInts 0 i
def inv_turn2 (H:Hp)(p:Addr)(ps:List (Addr×List Int))(i:Nat)(τ:St)(Hc:Hp):Prop:=∃ (c k:Option V),τ=[c,k]∧Same H Hc∧Hc p=some (.lst (((ps.map fun x=>x.2.getD 1 0).take i).map V.int))
theorem sc_turn:FnScope ["_law_deck_here", "_law_many"] ["_law_deck_here", "_law_many"] (defScope (top 22)):=⟨rfl,rfl,rfl,by decide +kernel,rfl,by decide +kernel,by decide +kernel⟩
theorem ok_turn {f:Addr}{fd:FuncData}(F:Fun K "_law_turn" "_law_turn" (top 22) f fd)(B:Bt mg){f1:Addr}{fd1:FuncData}{st1:Stmt}(D_law_next:Df K mg "_law_next" st1 f1 fd1 ["_law_deck_here"])(G_law_next:FnOk P w K mg base CX0 1 f1 fd1 ["_law_deck_here"] sp_next):FnOk P w K mg base CX0 2 f fd ["_law_deck_here", "_law_many"] sp_turn:=by
 refine F.ok sc_turn (fun vs H Q E h=>?_) (fun cdv A outer s H vs Q E hr h=>?_)
 ·obtain⟨d,n,rfl,hd,hn0,hn1,q⟩:=h;rfl
 ·obtain⟨d,n,rfl,hd,hn0,hn1,q⟩:=h;have nd:=sc_turn.nd;have hu:=hu_of hr;refine⟨_,(pss_one (ps_ret (pe_callTy (tupleK K) (by rfl) B.tuple PyProof.Rows.boot_tuple (pa_cons (pe_lcomp (own:=["_law_cell", "_law_at"]) (fr:=[]) rfl (by with_unfolding_all rfl) frOk_nil (pi_listK K (pe_callB (sortedTK K) (by rfl) B.sorted PyProof.Rows.boot_sorted (pa_cons (pe_lcomp (own:=["_law_at"]) (fr:=[("_law_deck_here",0)]) rfl (by with_unfolding_all rfl) (frOk_cons rfl rfl frOk_nil) (pi_range1 (by rfl) B.range (pa_cons (pv 1) pa_nil)) ⟨fun _ _ _ _=>⟨(pg_name (i:=0) (show List.Nodup (["_law_at", "_law_deck_here"]:List Str) by decide +kernel) rfl (Or.inl rfl)),pts_nil,(pe_tup (pa_cons (pe_own G_law_next D_law_next (hr.mono (by decide)) (pa_cons (pv 1) pa_nil)) (pa_cons (pv 0) pa_nil)))⟩⟩) pa_nil))) ⟨fun _ _ _ _=>⟨(pg_tupK K (n:=2) rfl (pgs_cons (pg_name (i:=0) (show List.Nodup (["_law_cell", "_law_at"]:List Str) by decide +kernel) rfl (Or.inl rfl)) (pgs_cons (pg_name (i:=1) (show List.Nodup (["_law_cell", "_law_at"]:List Str) by decide +kernel) rfl (Or.inl rfl)) pgs_nil))),pts_nil,(pv 1)⟩⟩) pa_nil)))),?_⟩;walk_at "rd";refine⟨by omega,by omega,fun p n=>lc_range (inv_turn1 H d p) ⟨none,[],rfl,(Kp.refl d H).new n,hd.new (hd.ne n),upd_same,(fun x hx=>by cases hx),rfl,rfl⟩ ?_ ?_⟩
  ·rintro i τ Hc hi ⟨c,ps,rfl,k,dk,hp,hall,hl,hm⟩;walk_at "rd";refine next_use dk fun z H1 k1 dk1 e1=>⟨by decide,fun q1 nq=>?_⟩
   have hp1:H1 p=some (.lst (ps.map fun x=>V.ref x.1)):=by rw[e1 p (hd.ne n)];exact hp
   have k2:=k.trans k1;have nH:H q1=none:=k2.free dk1 nq;refine⟨_,at_new hp1 nq,by rw[List.length_map,hl];exact sizeBig (by omega),?_⟩;refine⟨_,ps++[(q1,[z,0+(i:Int)])],rfl,(k2.new nH).new n,(dk1.new (dk1.ne nq)).new (hd.ne n),by rw[upd_same,List.map_append];rfl,?_,by rw[List.length_append,hl];rfl,by rw[List.map_append,hm,rInts_succ];rfl⟩;intro x hx;rcases List.mem_append.mp hx with hx | hx
   ·obtain⟨h1,h2⟩:=hall x hx;have h3:=k1.tp dk _ _ h1;exact⟨by rw[upd_ne (ne_tl h3 hp1)];exact at_new h3 nq,h2⟩
   ·cases List.mem_singleton.mp hx;exact⟨by rw[upd_ne (ne_of_none hp1 nq).symm,upd_same];rfl,z,_,rfl⟩
  ·rintro τ H1 ⟨c,ps,rfl,k,dk,hp,hall,hl,hm⟩;refine⟨ps,⟨.inl (SqL.of hp),fun x hx=>⟨(hall x hx).1,by obtain⟨_,z,k,e⟩:=hall x hx;rw[e];simp⟩,by omega⟩,fun ps' l pm _ nl=>⟨⟨_,SqL.of upd_same⟩,fun p2 n2=>?_⟩⟩;have nl':H l=none:=k.free dk nl;have s1:Same H1 (upd H1 l (.lst (ps'.map fun x=>V.ref x.1))):=(Same.refl H1).upd nl;have n2':H1 p2=none:=s1.free n2;generalize hH2:upd H1 l (.lst (ps'.map fun x=>V.ref x.1))=H2 at s1 n2 ⊢;have hl2:H2 l=some (.lst (ps'.map fun x=>V.ref x.1)):=by rw[← hH2];exact upd_same
   refine lc_list (K:=K) (xs:=ps'.map fun x=>V.ref x.1) (inv_turn2 H2 p2 ps') ?_ ?_ ?_ ?_
   ·exact⟨none,none,rfl,(Same.refl H2).upd n2,upd_same⟩
   ·rintro i τ Hc _ ⟨_,_,rfl,sc,_⟩;exact SqL.of (sc _ _ hl2)
   ·rintro i v τ Hc hx ⟨c,k',rfl,sc,h2⟩ _;rw[List.getElem?_map] at hx;cases hy:ps'[i]? with
    | none=>rw[hy] at hx;cases hx
    | some y =>
    rw[hy] at hx;cases Option.some.inj hx;have hym:=List.mem_of_getElem? hy;obtain⟨h3,z,m,e⟩:=hall y (pm.mem_iff.mp hym);have h4:=sc _ _ (s1 _ _ h3);rw[e] at h4;walk_at "rd";have hil:i<ps'.length:=(List.getElem?_eq_some_iff.mp hy).1;refine⟨_,SqT.of h4,rfl,_,_,rfl,_,_,rfl,rfl,_,h2,?_,?_⟩
    ·rw[List.length_map,List.length_take];refine sizeBig (Nat.le_trans (Nat.min_le_left _ _) ?_);have:=pm.length_eq;omega
    ·refine⟨_,_,rfl,sc.upd n2,?_⟩;rw[upd_same,List.take_succ,List.getElem?_map,hy,List.map_append];show _=some (HO.lst (_++[V.int (y.2.getD 1 0)]));rw[e];rfl
   ·rintro τ Hc ⟨c,k',rfl,sc,h2⟩;refine⟨_,.inl ⟨SqL.of h2,fun l3 n3=>?_⟩⟩;rw[List.length_map,List.take_of_length_le (by rw[List.length_map];exact Nat.le_refl _)];have s3:Same H1 Hc:=s1.trans sc;have nH3:H l3=none:=k.free dk (s3.free n3);refine q l3 _ _ ((k.trans s3.kp).new nH3) ((dk.same s3).new (hd.ne nH3)) nH3 upd_same ?_;rw[← hm];exact pm.map _
theorem ahead_at {k c form:Int}(hk:1≤k)(hf0:0≤form)(hf1:form<8):∃ x:Int,atI [V.int (k-1),V.int 0,V.int (c % k),V.int (if k-1-c % 3>0 then k-1-c % 3 else 0),V.int (k-1),V.int (if k-2>0 then k-2 else 0),V.int ((k-1) / 2),V.int (c % k)] form=some (V.int x)∧0≤x∧x<k:=by
 have h1:=Int.emod_nonneg c (b:=k) (by omega);have h2:=Int.emod_lt_of_pos c (b:=k) (by omega);have hf:form=0∨form=1∨form=2∨form=3∨form=4∨form=5∨form=6∨form=7:=by omega
 rcases hf with rfl | rfl | rfl | rfl | rfl | rfl | rfl | rfl
 ·exact⟨_,rfl,by omega,by omega⟩
 ·exact⟨_,rfl,by omega,by omega⟩
 ·exact⟨_,rfl,by omega,by omega⟩
 ·refine⟨_,rfl,?_,?_⟩<;>split<;>omega
 ·exact⟨_,rfl,by omega,by omega⟩
 ·refine⟨_,rfl,?_,?_⟩<;>split<;>omega
 ·exact⟨_,rfl,by omega,by omega⟩
 ·exact⟨_,rfl,by omega,by omega⟩
def Fd (n:Int)(fs:List (Int×Int))(i:Int):Prop:=fs.Nodup∧(∀ t∈fs,0≤t.1∧t.1<t.2∧t.2<n)∧∀ k:Int,1≤k→k≤i→∃ a,0≤a∧a<k∧(a,k)∈fs
theorem Fd.add {n i:Int}{fs:List (Int×Int)}{t:Int×Int}(h:Fd n fs i)(ht:0≤t.1∧t.1<t.2∧t.2<n):Fd n (addT fs t) i:=by
 refine⟨nd_addT h.1,fun u hu=>?_,fun k k0 k1=>?_⟩
 ·rcases mem_addT.mp hu with hu | rfl
  ·exact h.2.1 u hu
  ·exact ht
 ·obtain⟨a,a0,a1,hm⟩:=h.2.2 k k0 k1;exact⟨a,a0,a1,mem_addT.mpr (.inl hm)⟩
theorem Fd.next {n i:Int}{fs:List (Int×Int)}{a:Int}(h:Fd n fs i)(a0:0≤a)(a1:a<i+1)(hn:i+1<n):Fd n (addT fs (a,i+1)) (i+1):=by
 have h':=h.add (t:=(a,i+1)) ⟨a0,a1,hn⟩;refine⟨h'.1,h'.2.1,fun k k0 k1=>?_⟩;by_cases e:k=i+1
 ·subst e;exact⟨a,a0,a1,mem_addT.mpr (.inr rfl)⟩
 ·exact h'.2.2 k k0 (by omega)
def inv_web1 (H:Hp)(d p:Addr)(lo hi n form:Int)(i:Nat)(σ:St)(Hc:Hp):Prop:=∃ (kv cv av:Option V) (fs:List (Int×Int)),σ=[some (.ref d),some (.int lo),some (.int hi),some (.int n),some (.int form),some (.ref p),kv,cv,av,none,none,none,none,none,none] ∧
 Kp d H Hc∧DkAt Hc d∧Hc p=some (.dT (kvT fs))∧fs.length≤i∧Fd n fs i
def inv_web2 (H:Hp)(d p:Addr)(lo hi n form more:Int)(i:Nat)(σ:St)(Hc:Hp):Prop:=∃ (kv cv av tv ov uv:Option V) (fs:List (Int×Int)),σ=[some (.ref d),some (.int lo),some (.int hi),some (.int n),some (.int form),some (.ref p),kv,cv,av,some (.int more),tv,ov,uv,none,none] ∧
 Kp d H Hc∧DkAt Hc d∧Hc p=some (.dT (kvT fs))∧(fs.length:Int)≤n+i∧Fd n fs (n-1)
def inv_web3 (H:Hp)(p pn:Addr)(gs:List (Int×Int))(ks:List Int)(i:Nat)(τ:St)(Hc:Hp):Prop:=∃ (ov uv:Option V) (ps:List (Addr×List Int)),τ=[ov,uv,some (.ref pn)]∧Same H Hc∧Hc p=some (.lst (ps.map fun x=>V.ref x.1))∧PsAt Hc ps ((gs.take i).map (ren ks))
theorem sc_webc:FnScope ["_law_deck_here", "_law_least", "_law_most", "_law_places", "_law_form", "_law_found", "_law_k", "_law_cell", "_law_ahead", "_law_more", "_law_turn_here", "_law_one", "_law_other", "_law_names", "_law_ties"] ["_law_deck_here", "_law_least", "_law_most"] (defScope (top 23)):=⟨rfl,rfl,rfl,by decide +kernel,rfl,by decide +kernel,by decide +kernel⟩
theorem ok_webc {f:Addr}{fd:FuncData}(F:Fun K "_law_web" "_law_web" (top 23) f fd)(B:Bt mg){f1:Addr}{fd1:FuncData}{st1:Stmt}(D_law_next:Df K mg "_law_next" st1 f1 fd1 ["_law_deck_here"])(G_law_next:FnOk P w K mg base CX0 1 f1 fd1 ["_law_deck_here"] sp_next){f2:Addr}{fd2:FuncData}{st2:Stmt}(D_law_turn:Df K mg "_law_turn" st2 f2 fd2 ["_law_deck_here", "_law_many"])(G_law_turn:FnOk P w K mg base CX0 2 f2 fd2 ["_law_deck_here", "_law_many"] sp_turn):FnOk P w K mg base CX0 3 f fd ["_law_deck_here", "_law_least", "_law_most"] sp_web:=by
 refine F.ok sc_webc (fun vs H Q E h=>?_) (fun cdv A outer s H vs Q E hr h=>?_)
 ·obtain⟨d,lo,hi,rfl,hd,h3,hlh,h60,q⟩:=h;rfl
 ·obtain⟨d,lo,hi,rfl,hd,h3,hlh,h60,q⟩:=h;have nd:=sc_webc.nd;have hu:=hu_of hr
  refine⟨_,(pss_cons (ps_set (i:=3) nd rfl (Or.inl rfl) (pe_op op_add (pv 1) (pe_op op_mod (pe_own G_law_next D_law_next (hr.mono (by decide)) (pa_cons (pv 0) pa_nil)) (pe_op op_add (pe_op op_sub (pv 2) (pv 1)) pe_int))))
    (pss_cons (ps_set (i:=4) nd rfl (Or.inl rfl) (pe_op op_mod (pe_own G_law_next D_law_next (hr.mono (by decide)) (pa_cons (pv 0) pa_nil)) pe_int))
    (pss_cons (ps_set (i:=5) nd rfl (Or.inl rfl) pe_dnewT)
    (pss_cons (ps_for PassesOwn.never rfl (pi_range2 (by rfl) B.range (pa_cons pe_int (pa_cons (pv 3) pa_nil))) (pg_name (i:=6) nd rfl (Or.inl rfl))
     (pss_cons (ps_set (i:=7) nd rfl (Or.inl rfl) (pe_own G_law_next D_law_next (hr.mono (by decide)) (pa_cons (pv 0) pa_nil)))
     (pss_cons (ps_set (i:=8) nd rfl (Or.inl rfl) (pe_ix (ix_listK K) (pe_lst (pa_cons (pe_op op_sub (pv 6) pe_int) (pa_cons pe_int (pa_cons (pe_op op_mod (pv 7) (pv 6)) (pa_cons (pe_callB (call_max2 rfl) (by rfl) B.max PyProof.Rows.boot_max (pa_cons pe_int (pa_cons (pe_op op_sub (pe_op op_sub (pv 6) pe_int) (pe_op op_mod (pv 7) pe_int)) pa_nil))) (pa_cons (pe_op op_sub (pv 6) pe_int) (pa_cons (pe_callB (call_max2 rfl) (by rfl) B.max PyProof.Rows.boot_max (pa_cons pe_int (pa_cons (pe_op op_sub (pv 6) pe_int) pa_nil))) (pa_cons (pe_op op_fdiv (pe_op op_sub (pv 6) pe_int) pe_int) (pa_cons (pe_op op_mod (pv 7) (pv 6)) pa_nil))))))))) (pv 4) (fun _ _=>rfl)))
     (pss_one (ps_dput hu (pv 5) (pe_tup (pa_cons (pv 8) (pa_cons (pv 6) pa_nil))) pe_bl rfl)))))
    (pss_cons (ps_if (pt_cmpR op_eq (pv 4) pe_int (nomark _))
     (pss_one (ps_dput hu (pv 5) (pe_tup (pa_cons pe_int (pa_cons (pe_op op_sub (pv 3) pe_int) pa_nil))) pe_bl rfl))
     pss_nil)
    (pss_cons (ps_set (i:=9) nd rfl (Or.inl rfl) (pe_ix (ix_listK K) (pe_lst (pa_cons pe_int (pa_cons pe_int (pa_cons pe_int (pa_cons (pv 3) (pa_cons (pe_op op_mul pe_int (pv 3)) (pa_cons pe_int pa_nil))))))) (pe_op op_mod (pe_own G_law_next D_law_next (hr.mono (by decide)) (pa_cons (pv 0) pa_nil)) pe_int) (fun _ _=>rfl)))
    (pss_cons (ps_for PassesOwn.never rfl (pi_range1 (by rfl) B.range (pa_cons (pv 9) pa_nil)) (pg_name (i:=10) nd rfl (Or.inl rfl))
     (pss_cons (ps_set (i:=11) nd rfl (Or.inl rfl) (pe_op op_mod (pe_own G_law_next D_law_next (hr.mono (by decide)) (pa_cons (pv 0) pa_nil)) (pv 3)))
     (pss_cons (ps_set (i:=12) nd rfl (Or.inl rfl) (pe_op op_mod (pe_own G_law_next D_law_next (hr.mono (by decide)) (pa_cons (pv 0) pa_nil)) (pv 3)))
     (pss_one (ps_if (PW.pt (pw_and (pt_cmpR op_ne (pv 11) (pv 12) (nomark _)) (pw_and1 (pt_cmpR op_lt (pe_callB call_lenDT (by rfl) B.len PySem.boot_len (pa_cons (pv 5) pa_nil)) pe_int (nomark _)))))
      (pss_one (ps_dput hu (pv 5) (pe_tup (pa_cons (pe_callB (call_min2 rfl) (by rfl) B.min PyProof.Rows.boot_min (pa_cons (pv 11) (pa_cons (pv 12) pa_nil))) (pa_cons (pe_callB (call_max2 rfl) (by rfl) B.max PyProof.Rows.boot_max (pa_cons (pv 11) (pa_cons (pv 12) pa_nil))) pa_nil))) pe_bl rfl))
      pss_nil)))))
    (pss_cons (ps_set (i:=13) nd rfl (Or.inr rfl) (pe_own G_law_turn D_law_turn (hr.mono (by decide)) (pa_cons (pv 0) (pa_cons (pv 3) pa_nil))))
    (pss_cons (ps_setLC (i:=14) (own:=["_law_one", "_law_other"]) (fr:=[("_law_names",13)]) rfl nd rfl rfl (by with_unfolding_all rfl) (by with_unfolding_all rfl) (frOk_cons rfl rfl frOk_nil) (pi_listK K (pe_callB (call_sortedD hr.hd) (by rfl) B.sorted PyProof.Rows.boot_sorted (pa_cons (pv 5) pa_nil))) ⟨fun _ _ _ _=>⟨(pg_tupK K (n:=2) rfl (pgs_cons (pg_name (i:=0) (show List.Nodup (["_law_one", "_law_other", "_law_names"]:List Str) by decide +kernel) rfl (Or.inl rfl)) (pgs_cons (pg_name (i:=1) (show List.Nodup (["_law_one", "_law_other", "_law_names"]:List Str) by decide +kernel) rfl (Or.inl rfl)) pgs_nil))),pts_nil,(pe_tup (pa_cons (pe_callB (call_min2 rfl) (by rfl) B.min PyProof.Rows.boot_min (pa_cons (pe_ix (ix_tupK K) (pv 2) (pv 0) (fun _ _=>rfl)) (pa_cons (pe_ix (ix_tupK K) (pv 2) (pv 1) (fun _ _=>rfl)) pa_nil))) (pa_cons (pe_callB (call_max2 rfl) (by rfl) B.max PyProof.Rows.boot_max (pa_cons (pe_ix (ix_tupK K) (pv 2) (pv 0) (fun _ _=>rfl)) (pa_cons (pe_ix (ix_tupK K) (pv 2) (pv 1) (fun _ _=>rfl)) pa_nil))) pa_nil)))⟩⟩)
    (pss_one (ps_ret (pe_tup (pa_cons (pv 3) (pa_cons (pe_callTy (tupleK K) (by rfl) B.tuple PyProof.Rows.boot_tuple (pa_cons (pe_callB (sortedTK K) (by rfl) B.sorted PyProof.Rows.boot_sorted (pa_cons (pv 14) pa_nil)) pa_nil)) pa_nil)))))))))))))),?_⟩
  walk_at "rd";refine next_use hd fun z1 H1 k1 dk1 e1=>?_
  have r1:=Int.emod_nonneg z1 (b:=hi-lo+1) (by omega);have r2:=Int.emod_lt_of_pos z1 (b:=hi-lo+1) (by omega);refine⟨z1,rfl,by omega,next_use dk1 fun z2 H2 k2 dk2 e2=>⟨z2,rfl,by decide,fun p np=>?_⟩⟩;obtain⟨n,hn⟩:∃ n:Int,n=lo+z1 % (hi-lo+1):=⟨_,rfl⟩
  obtain⟨form,hfo⟩:∃ m:Int,m=z2 % 8:=⟨_,rfl⟩
  rw[← hn,← hfo];have n3:3≤n:=by omega
  have n20:n≤20:=by omega
  have nlo:lo≤n:=by omega
  have nhi:n≤hi:=by omega
  have f0:0≤form:=by omega
  have f8:form<8:=by omega
  clear hn hfo r1 r2 h3 hlh h60;have k02:=k1.trans k2;have nHp:H p=none:=k02.free dk2 np;have pd:p≠d:=hd.ne nHp;refine⟨_,rfl,1,n,rfl,⟨by decide,by decide,by omega,by omega⟩,for_range (lo:=1) (n:=(n-1).toNat) (inv_web1 H d p lo hi n form) ?_ ?_ ?_⟩
  ·exact⟨none,none,none,[],rfl,k02.new nHp,dk2.new pd,upd_same,Nat.le_refl _,by simp,by simp,fun k k0 k1=>by omega⟩
  ·rintro i σ Hc hin ⟨kv,cv,av,fs,rfl,kc,dc,hp,hfl,hF⟩;walk_at "rd";refine next_use dc fun z3 H3 k3 dk3 e3=>?_
   obtain⟨x,hx,x0,x1⟩:=ahead_at (k:=1+(i:Int)) (c:=z3) (form:=form) (by omega) (by omega) (by omega);have hp3:H3 p=some (.dT (kvT fs)):=by rw[e3 p pd];exact hp
   have kk:=kc.trans k3;refine⟨z3,rfl,by omega,z3,rfl,by decide,0,_,⟨rfl,rfl⟩,0,_,⟨rfl,rfl⟩,⟨by omega,by omega⟩,z3,rfl,by omega,by decide,fun pl nl=>⟨_,SqL.of upd_same,_,hx,by decide,fun pt nt=>?_⟩⟩;have nHl:H pl=none:=kk.free dk3 nl;have nHt:H pt=none:=kk.free dk3 (of_upd_none nt);refine⟨_,DPut.t (k:=[Sum.inl x,Sum.inl (1+(i:Int))]) (at_new (at_new hp3 nl) nt) upd_same (by rw[kvT_len];exact sizeBig (by omega)),?_⟩;rw[put_kvT];refine⟨_,_,_,_,rfl,((kk.new nHl).new nHt).new nHp,((dk3.new (hd.ne nHl)).new (hd.ne nHt)).new pd,upd_same,?_,?_⟩
   ·have:=len_addT (fs:=fs) (t:=(x,1+(i:Int)));omega
   ·have:=hF.next x0 (by omega) (by omega);rw[show (1:Int)+i=(i:Int)+1 by omega,show (((i+1:Nat)):Int)=(i:Int)+1 by omega];exact this
  ·rintro σ Hc ⟨kv,cv,av,fs,rfl,kc,dc,hp,hfl,hF⟩;rw[show ((n-1).toNat:Int)=n-1 by omega] at hF;dsimp only
   refine seq_rest (fun σ Hc=>∃ (kv cv av:Option V) (fs:List (Int×Int)),σ=[some (.ref d),some (.int lo),some (.int hi),some (.int n),some (.int form),some (.ref p),kv,cv,av,none,none,none,none,none,none] ∧
     Kp d H Hc∧DkAt Hc d∧Hc p=some (.dT (kvT fs))∧(fs.length:Int)≤n∧Fd n fs (n-1)) (fun R hR=>?_) ?_
   ·walk_at "rd";refine ite2 (fun _=>?_) fun _=>hR _ _ ⟨kv,cv,av,fs,rfl,kc,dc,hp,by omega,hF⟩
    refine⟨by decide,fun pt nt=>⟨_,DPut.t (k:=[Sum.inl 0,Sum.inl (n-1)]) (at_new hp nt) upd_same (kvT_put_len (by omega)),?_⟩⟩;have nHt:H pt=none:=kc.free dc nt;rw[put_kvT];refine hR _ _ ⟨_,_,_,_,rfl,(kc.new nHt).new nHp,(dc.new (hd.ne nHt)).new pd,upd_same,?_,hF.add ⟨Int.le_refl 0,show (0:Int)<n-1 by omega,show n-1<n by omega⟩⟩;have:=len_addT (fs:=fs) (t:=(0,n-1));omega
   ·rintro σ Hc ⟨kv,cv,av,fs,rfl,kc,dc,hp,hfl,hF⟩;walk_at "rd";refine⟨.inl ⟨by omega,by omega⟩,by decide,fun pl nl=>?_⟩;have nHl:H pl=none:=kc.free dc nl;refine next_use (dc.new (hd.ne nHl)) fun z3 H3 k3 dk3 e3=>⟨z3,rfl,by decide,?_⟩
    have hpl:H3 pl=some (.lst [V.int 0,V.int 1,V.int 3,V.int n,V.int (2*n),V.int 0]):=by rw[e3 pl (hd.ne nHl)];exact upd_same
    have hp3:H3 p=some (.dT (kvT fs)):=by rw[e3 p pd];exact at_new hp nl
    obtain⟨more,hmo,m0,m1⟩:∃ m:Int,atI [V.int 0,V.int 1,V.int 3,V.int n,V.int (2*n),V.int 0] (z3 % 6)=some (V.int m)∧0≤m∧m≤2*n:=by
     have hf:z3 % 6=0∨z3 % 6=1∨z3 % 6=2∨z3 % 6=3∨z3 % 6=4∨z3 % 6=5:=by omega
     rcases hf with e | e | e | e | e | e<;>rw[e]
     ·exact⟨_,rfl,by omega,by omega⟩
     ·exact⟨_,rfl,by omega,by omega⟩
     ·exact⟨_,rfl,by omega,by omega⟩
     ·exact⟨_,rfl,by omega,by omega⟩
     ·exact⟨_,rfl,by omega,by omega⟩
     ·exact⟨_,rfl,by omega,by omega⟩
    refine⟨_,SqL.of hpl,_,hmo,?_⟩;refine⟨_,rfl,more,rfl,by omega,by omega,for_range (lo:=0) (n:=more.toNat) (inv_web2 H d p lo hi n form more) ?_ ?_ ?_⟩
    ·exact⟨_,_,_,none,none,none,fs,rfl,(kc.new nHl).trans k3,dk3,hp3,by omega,hF⟩
    ·rintro i σ Hc hin ⟨kv,cv,av,tv,ov,uv,fs,rfl,kc,dc,hp,hfl,hF⟩;walk_at "rd";refine next_use dc fun z4 H4 k4 dk4 e4=>⟨z4,rfl,by omega,next_use dk4 fun z5 H5 k5 dk5 e5=>⟨z5,rfl,by omega,?_⟩⟩
     have hp5:H5 p=some (.dT (kvT fs)):=by rw[e5 p pd,e4 p pd];exact hp
     have kk:=(kc.trans k4).trans k5;have s0:=Int.emod_nonneg z4 (b:=n) (by omega);have s1:=Int.emod_lt_of_pos z4 (b:=n) (by omega);have t0:=Int.emod_nonneg z5 (b:=n) (by omega);have t1:=Int.emod_lt_of_pos z5 (b:=n) (by omega);have same:inv_web2 H d p lo hi n form more (i+1) [some (.ref d),some (.int lo),some (.int hi),some (.int n),some (.int form),some (.ref p),kv,cv,av,some (.int more),some (.int (0+(i:Int))),some (.int (z4 % n)),some (.int (z5 % n)),none,none] H5 :=
      ⟨_,_,_,_,_,_,fs,rfl,kk,dk5,hp5,by omega,hF⟩
     refine ite2 (fun h1=>⟨_,hp5,ite2 (fun h2=>?_) fun _=>same⟩) fun _=>same
     have h1':z4 % n≠z5 % n:=by simpa using h1
     have h2':fs.length<200:=by rw[kvT_len] at h2;have:=of_decide_eq_true h2;omega
     refine⟨_,_,⟨rfl,rfl⟩,_,_,⟨rfl,rfl⟩,by decide,fun pt nt=>?_⟩;have nHt:H pt=none:=kk.free dk5 nt;refine⟨_,DPut.t (k:=[Sum.inl (if z5 % n<z4 % n then z5 % n else z4 % n),Sum.inl (if z5 % n>z4 % n then z5 % n else z4 % n)]) (at_new hp5 nt) upd_same (kvT_put_len (by omega)),?_⟩;rw[put_kvT];refine⟨_,_,_,_,_,_,_,rfl,(kk.new nHt).new nHp,(dk5.new (hd.ne nHt)).new pd,upd_same,?_,hF.add ?_⟩
     ·have:=len_addT (fs:=fs) (t:=(if z5 % n<z4 % n then z5 % n else z4 % n,if z5 % n>z4 % n then z5 % n else z4 % n));omega
     ·dsimp only;split<;>split<;>omega
    ·rintro σ Hc ⟨kv,cv,av,tv,ov,uv,fs,rfl,kc,dc,hp,hfl,hF⟩;walk_at "rd";refine turn_use dc (by omega) (by omega) fun pn ks H4 k4 dk4 nn hpn hperm=>?_
     have hp4:H4 p=some (.dT (kvT fs)):=k4 _ _ pd hp;refine⟨_,hp4,fs.map tl,kvT_keys fs,(fun l hl=>by obtain⟨t,_,rfl⟩:=List.mem_map.mp hl;simp[tl]),by rw[List.length_map];omega,fun ps l pm hto _ nl=>?_⟩;obtain⟨gs,pgs,hgs⟩:=PsAt.of_perm hto pm;have s1:Same H4 (upd H4 l (.lst (ps.map fun x=>V.ref x.1))):=(Same.refl H4).upd nl;refine⟨⟨_,SqL.of upd_same⟩,fun p2 n2=>?_⟩;generalize hH2:upd H4 l (.lst (ps.map fun x=>V.ref x.1))=H5 at s1 n2 ⊢;have hl5:H5 l=some (.lst (ps.map fun x=>V.ref x.1)):=by rw[← hH2];exact upd_same
     have hgs5:=hgs.tp s1.tp;have gr:∀ t∈gs,0≤t.1∧t.1<t.2∧t.2<n:=fun t ht=>hF.2.1 t (pgs.mem_iff.mp ht)
     have gl:gs.length≤60:=by rw[pgs.length_eq];omega
     have kk:=kc.trans k4;refine lc_list (K:=K) (xs:=ps.map fun x=>V.ref x.1) (inv_web3 H5 p2 pn gs ks) ?_ ?_ ?_ ?_
     ·exact⟨none,none,[],rfl,(Same.refl H5).upd n2,upd_same,(fun x hx=>by cases hx),rfl⟩
     ·rintro i τ Hc _ ⟨_,_,_,rfl,sc,_⟩;exact SqL.of (sc _ _ hl5)
     ·rintro i v τ Hc hx ⟨ov,uv,ps2,rfl,sc,h2,hps2⟩ _;obtain⟨a,t,rfl,hti,hta⟩:=hgs5.get hx;have htm:=List.mem_of_getElem? hti;obtain⟨g0,g1,g2⟩:=gr t htm;have hil:i<gs.length:=(List.getElem?_eq_some_iff.mp hti).1;have hpn5:Hc pn=some (.tup (ks.map V.int)):=sc _ _ (s1 _ _ hpn);have a1:atI (ks.map V.int) t.1=some (V.int (nm ks t.1)):=by
       rw[← Int.toNat_of_nonneg g0];refine atI_nat ?_;rw[List.getElem?_map,nm_at hperm g0 (by omega)];rw[Int.toNat_of_nonneg g0];rfl
      have a2:atI (ks.map V.int) t.2=some (V.int (nm ks t.2)):=by
       rw[← Int.toNat_of_nonneg (show 0≤t.2 by omega)];refine atI_nat ?_;rw[List.getElem?_map,nm_at hperm (by omega) g2];rw[Int.toNat_of_nonneg (show 0≤t.2 by omega)];rfl
      walk_at "rd";refine⟨_,SqT.of (sc _ _ hta),rfl,_,_,rfl,_,_,rfl,rfl,_,_,rfl,SqT.of hpn5,_,a1,_,_,rfl,SqT.of hpn5,_,a2,_,_,⟨rfl,rfl⟩,_,_,rfl,SqT.of hpn5,_,a1,_,_,rfl,SqT.of hpn5,_,a2,_,_,⟨rfl,rfl⟩,by decide,fun pq nq=>?_⟩;have hlen2:ps2.length≤200:=by have:=hps2.len;rw[List.length_map,List.length_take] at this;omega
      refine⟨_,at_new h2 nq,by rw[List.length_map];exact sizeBig (by omega),_,_,ps2++[(pq,tl (ren ks t))],rfl,(sc.upd (sc.free nq)).upd n2,by rw[upd_same,List.map_append];rfl,?_⟩;rw[List.take_succ,hti,List.map_append];refine PsAt.snoc (hps2.tp ((Tp.nw nq).trans (Tp.lst (at_new h2 nq)))) ?_;rw[upd_ne (ne_of_none h2 nq).symm,upd_same];rfl
     ·rintro τ Hc ⟨ov,uv,ps2,rfl,sc,h2,hps2⟩;rw[List.length_map,hgs.len,List.take_length] at hps2;refine⟨ps2,hps2.src h2 (by have:=hps2.len;rw[List.length_map] at this;omega),fun ps3 l3 pm3 hs3 nl3=>⟨_,.inl ⟨SqL.of upd_same,fun l4 nl4=>⟨by decide,fun p5 n5=>?_⟩⟩⟩⟩;obtain⟨ts,pts,hts⟩:=hps2.perm pm3;have sc4:Same H4 Hc:=s1.trans sc;have n4a:=sc4.free nl3;have n4b:=sc4.free (of_upd_none nl4);have n4c:=sc4.free (of_upd_none (of_upd_none n5));have nHa:=kk.free dk4 n4a;have nHb:=kk.free dk4 n4b;have nHc:=kk.free dk4 n4c;refine q p5 n ts _ ((((kk.trans sc4.kp).new nHa).new nHb).new nHc) ((((dk4.same sc4).new (hd.ne nHa)).new (hd.ne nHb)).new (hd.ne nHc)) (by omega) (by omega) ?_ ?_
      ·exact web_ren (by omega) (by omega) hF.1 hF.2.1 (by omega) (fun k k0 k1=>hF.2.2 k k0 (by omega)) hperm (pts.trans (pgs.map _)) (hts.srt hs3)
      ·refine⟨l4,upd_same,ps3,at_new upd_same n5,hts.tp ?_⟩;exact (((Tp.refl Hc).new nl3).new (of_upd_none nl4)).new (of_upd_none (of_upd_none n5))
def inv_near (H:Hp)(w0 p:Addr)(n:Int)(ts:List (Int×Int))(i:Nat)(σ:St)(Hc:Hp):Prop:=∃ (av bv:Option V) (as:List Addr),σ=[some (.ref w0),some (.ref p),av,bv]∧FrAt H Hc p as (rowsOf n (ts.take i))
def inv_near2 (H:Hp)(p:Addr)(n:Int)(ts:List (Int×Int))(i:Nat)(τ:St)(Hc:Hp):Prop:=∃ (c:Option V) (as:List Addr),τ=[c]∧FrAt H Hc p as ((rowsOf n ts).take i)
theorem sc_near:FnScope ["_law_web_here", "_law_near_here", "_law_one", "_law_other"] ["_law_web_here"] (defScope (top 24)):=⟨rfl,rfl,rfl,by decide +kernel,rfl,by decide +kernel,by decide +kernel⟩
theorem ok_near {f:Addr}{fd:FuncData}(F:Fun K "_law_near" "_law_near" (top 24) f fd)(B:Bt mg):FnOk P w K mg base CX0 1 f fd ["_law_web_here"] sp_near:=by
 refine F.ok sc_near (fun vs H Q E h=>?_) (fun cdv A outer s H vs Q E hr h=>?_)
 ·obtain⟨w0,n,ts,rfl,hw,hn0,hn1,htl,hok,hsr,q⟩:=h;rfl
 ·obtain⟨w0,n,ts,rfl,hw,hn0,hn1,htl,hok,hsr,q⟩:=h;have nd:=sc_near.nd;have hu:=hu_of hr
  refine⟨_,(pss_cons (ps_setLC (i:=1) (own:=["_law_place"]) (fr:=[]) rfl nd rfl rfl (by with_unfolding_all rfl) (by with_unfolding_all rfl) frOk_nil (pi_range1 (by rfl) B.range (pa_cons (pe_ix (ix_tupK K) (pv 0) pe_int (fun _ _=>rfl)) pa_nil)) ⟨fun _ _ _ _=>⟨(pg_name (i:=0) (show List.Nodup (["_law_place"]:List Str) by decide +kernel) rfl (Or.inl rfl)),pts_nil,(pe_lst pa_nil)⟩⟩)
    (pss_cons (ps_for PassesOwn.never rfl (pi_tupK K (pe_ix (ix_tupK K) (pv 0) pe_int (fun _ _=>rfl))) (pg_tupK K (n:=2) rfl (pgs_cons (pg_name (i:=2) nd rfl (Or.inl rfl)) (pgs_cons (pg_name (i:=3) nd rfl (Or.inl rfl)) pgs_nil)))
     (pss_cons (ps_expr (appendK K (pe_ix (ix_listK K) (pv 1) (pv 2) (fun _ _=>rfl)) (pa_cons (pv 3) pa_nil)))
     (pss_one (ps_expr (appendK K (pe_ix (ix_listK K) (pv 1) (pv 3) (fun _ _=>rfl)) (pa_cons (pv 2) pa_nil))))))
    (pss_one (ps_ret (pe_lcomp (own:=["_law_row"]) (fr:=[]) rfl (by with_unfolding_all rfl) frOk_nil (pi_listK K (pv 1)) ⟨fun _ _ _ _=>⟨(pg_name (i:=0) (show List.Nodup (["_law_row"]:List Str) by decide +kernel) rfl (Or.inl rfl)),pts_nil,(pe_callB (sortedIK K hr.hd) (by rfl) B.sorted PyProof.Rows.boot_sorted (pa_cons (pv 0) pa_nil))⟩⟩))))),?_⟩
  walk_at "rd";obtain⟨q0,hw0,ht⟩:=hw;obtain⟨xs,hx0,hxl,hxs⟩:=ht.get;refine⟨_,SqT.of hw0,_,rfl,n,rfl,by omega,by omega,fun p np=>lc_range (inv_rows1 H p) ?_ ?_ ?_⟩
  ·exact⟨none,[],rfl,(Same.refl H).upd np,np,(fun a ha=>by cases ha),RowsAt.nil upd_same⟩
  ·rintro i τ Hc hi ⟨c,as,rfl,fr⟩;walk_at "rd";refine⟨by decide,fun pq nq=>⟨_,at_new fr.rows.top nq,?_,?_⟩⟩
   ·rw[List.length_map,fr.rows.len,List.length_replicate];exact sizeBig (by omega)
   ·have:=fr.rows.snoc nq (r:=[]);refine⟨_,as++[pq],rfl,(fr.same.upd (fr.same.free nq)).upd np,np,fun a ha=>?_,?_⟩
    ·rcases List.mem_append.mp ha with ha | ha
     ·exact fr.na a ha
     ·cases List.mem_singleton.mp ha;exact fr.same.free nq
    ·rw[List.map_append] at this;rw[List.replicate_succ'];exact this
  ·rintro τ H2 ⟨c,as,rfl,fr⟩;rw[← rowsOf_nil] at fr;refine⟨_,rfl,_,_,1,_,rfl,rfl,SqT.of (fr.same _ _ hw0),rfl,_,rfl,⟨_,SqT.of (fr.same _ _ hx0)⟩,for_tup (xs:=xs) (inv_near H w0 p n ts) ⟨none,none,as,rfl,by rw[List.take_zero];exact fr⟩ ?_ ?_ ?_⟩
   ·rintro i σ Hc _ ⟨_,_,_,rfl,fr⟩;exact SqT.of (fr.same _ _ hx0)
   ·rintro i v σ Hc hv ⟨av,bv,as,rfl,fr⟩;obtain⟨a,t,rfl,hti,hta⟩:=hxs i v hv;obtain⟨t0,t1,t2⟩:=hok t (List.mem_of_getElem? hti);obtain⟨a1,a2,i1,c1,tp1,i2,c2,fr2⟩:=fr.step t0 t1 t2;have l1:∀ v,((nb (ts.take i) v).map V.int).length<sizeLine:=fun v=>by
     rw[List.length_map];have:=nb_len (ts:=ts.take i) v;rw[List.length_take] at this;exact sizeBig (by omega)
    walk_at "rd";refine⟨_,SqT.of (fr.same _ _ hta),rfl,_,_,rfl,_,_,rfl,rfl,_,_,rfl,SqL.of fr.rows.top,_,i1,.inl ⟨rfl,_,SqL.of c1⟩,_,rfl,_,c1,l1 _,_,_,rfl,SqL.of tp1,_,i2,.inl ⟨rfl,_,SqL.of c2⟩,_,rfl,_,c2,l1 _,_,_,as,rfl,?_⟩;rw[List.take_succ,hti];exact fr2
   ·rintro σ Hc ⟨av,bv,as,rfl,fr⟩;rw[hxl,List.take_length] at fr;walk_at "rd";refine⟨⟨_,SqL.of fr.rows.top⟩,fun p2 n2=>lc_list (K:=K) (xs:=as.map V.ref) (inv_near2 Hc p2 n ts) ?_ ?_ ?_ ?_⟩
    ·exact⟨none,[],rfl,(Same.refl Hc).upd n2,n2,(fun a ha=>by cases ha),RowsAt.nil upd_same⟩
    ·rintro i τ H4 _ ⟨_,_,rfl,fr4⟩;exact SqL.of (fr4.same _ _ fr.rows.top)
    ·rintro i v τ H4 hv ⟨c,bs,rfl,fr4⟩ _;have hil:i<n.toNat:=by
      have:=(List.getElem?_eq_some_iff.mp hv).1;rw[List.length_map,fr.rows.len,rowsOf_len] at this;exact this
     have hri:=rowsOf_get (n:=n) (ts:=ts) (v:=(i:Int)) (by omega) (by omega);rw[Int.toNat_natCast] at hri;rw[List.getElem?_map] at hv;cases ha:as[i]? with
     | none=>rw[ha] at hv;cases hv
     | some a =>
     rw[ha] at hv;cases Option.some.inj hv;have hra:=fr4.same _ _ (fr.rows.row i a _ ha hri);walk_at "rd";refine⟨_,⟨Nat.lt_succ_of_lt (nb_64 hok hsr hn1 _),.inl (SqL.of hra)⟩,fun ns' l pm hs nl=>?_⟩;have e:ns'=nb ts (i:Int):=sorted_self pm hs (nb_lt hok hsr _);subst e;refine⟨_,at_new fr4.rows.top nl,?_,_,bs++[l],rfl,(fr4.same.upd (fr4.same.free nl)).upd n2,n2,fun b hb=>?_,?_⟩
     ·rw[List.length_map,fr4.rows.len,List.length_take,rowsOf_len];exact sizeBig (by omega)
     ·rcases List.mem_append.mp hb with hb | hb
      ·exact fr4.na b hb
      ·cases List.mem_singleton.mp hb;exact fr4.same.free nl
     ·have:=fr4.rows.snoc nl (r:=nb ts (i:Int));rw[List.map_append] at this;rw[List.take_succ,hri];exact this
    ·rintro τ H4 ⟨c,bs,rfl,fr4⟩;rw[List.length_map,fr.rows.len,List.take_length] at fr4;exact q p2 bs H4 (fr.same.trans fr4.same) (fr.same.free n2) (fun b hb=>fr.same.free (fr4.na b hb)) fr4.rows
def inv_nrows (H:Hp)(w0 q0 p:Addr)(n:Int)(ts:List (Int×Int))(i:Nat)(σ:St)(Hc:Hp):Prop:=∃ (av bv:Option V) (as:List Addr),σ=[some (.ref w0),some (.int n),some (.ref q0),some (.ref p),av,bv]∧FrAt H Hc p as (rowsOf n (ts.take i))
theorem sc_nrows:FnScope ["web", "places", "ties", "rows", "a", "b"] ["web"] (defScope (top 4)):=⟨rfl,rfl,rfl,by decide +kernel,rfl,by decide +kernel,by decide +kernel⟩
theorem ok_nrows {f:Addr}{fd:FuncData}(F:Fun K "neighbour_rows" "neighbour_rows" (top 4) f fd)(B:Bt mg):FnOk P w K mg base CX0 1 f fd ["web"] sp_nrows:=by
 refine F.ok sc_nrows (fun vs H Q E h=>?_) (fun cdv A outer s H vs Q E hr h=>?_)
 ·obtain⟨w0,n,ts,rfl,hw,hn0,hn1,htl,hok,q⟩:=h;rfl
 ·obtain⟨w0,n,ts,rfl,hw,hn0,hn1,htl,hok,q⟩:=h;have nd:=sc_nrows.nd;have hu:=hu_of hr
  refine⟨_,(pss_cons (ps_asg (pv 0) (pg_tupK K (n:=2) rfl (pgs_cons (pg_name (i:=1) nd rfl (Or.inl rfl)) (pgs_cons (pg_name (i:=2) nd rfl (Or.inl rfl)) pgs_nil))))
    (pss_cons (ps_setLC (i:=3) (own:=["place"]) (fr:=[]) rfl nd rfl rfl (by with_unfolding_all rfl) (by with_unfolding_all rfl) frOk_nil (pi_range1 (by rfl) B.range (pa_cons (pv 1) pa_nil)) ⟨fun _ _ _ _=>⟨(pg_name (i:=0) (show List.Nodup (["place"]:List Str) by decide +kernel) rfl (Or.inl rfl)),pts_nil,(pe_lst pa_nil)⟩⟩)
    (pss_cons (ps_for PassesOwn.never rfl (pi_tupK K (pv 2)) (pg_tupK K (n:=2) rfl (pgs_cons (pg_name (i:=4) nd rfl (Or.inl rfl)) (pgs_cons (pg_name (i:=5) nd rfl (Or.inl rfl)) pgs_nil)))
     (pss_cons (ps_expr (appendK K (pe_ix (ix_listK K) (pv 3) (pv 4) (fun _ _=>rfl)) (pa_cons (pv 5) pa_nil)))
     (pss_one (ps_expr (appendK K (pe_ix (ix_listK K) (pv 3) (pv 5) (fun _ _=>rfl)) (pa_cons (pv 4) pa_nil))))))
    (pss_one (ps_ret (pv 3)))))),?_⟩
  walk_at "rd";obtain⟨q0,hw0,ht⟩:=hw;obtain⟨xs,hx0,hxl,hxs⟩:=ht.get;refine⟨_,SqT.of hw0,rfl,_,_,rfl,_,_,rfl,rfl,n,rfl,by omega,by omega,fun p np=>lc_range (inv_rows1 H p) ?_ ?_ ?_⟩
  ·exact⟨none,[],rfl,(Same.refl H).upd np,np,(fun a ha=>by cases ha),RowsAt.nil upd_same⟩
  ·rintro i τ Hc hi ⟨c,as,rfl,fr⟩;walk_at "rd";refine⟨by decide,fun pq nq=>⟨_,at_new fr.rows.top nq,?_,?_⟩⟩
   ·rw[List.length_map,fr.rows.len,List.length_replicate];exact sizeBig (by omega)
   ·have:=fr.rows.snoc nq (r:=[]);refine⟨_,as++[pq],rfl,(fr.same.upd (fr.same.free nq)).upd np,np,fun a ha=>?_,?_⟩
    ·rcases List.mem_append.mp ha with ha | ha
     ·exact fr.na a ha
     ·cases List.mem_singleton.mp ha;exact fr.same.free nq
    ·rw[List.map_append] at this;rw[List.replicate_succ'];exact this
  ·rintro τ H2 ⟨c,as,rfl,fr⟩;rw[← rowsOf_nil] at fr;refine⟨_,rfl,_,rfl,⟨_,SqT.of (fr.same _ _ hx0)⟩,for_tup (xs:=xs) (inv_nrows H w0 q0 p n ts) ⟨none,none,as,rfl,by rw[List.take_zero];exact fr⟩ ?_ ?_ ?_⟩
   ·rintro i σ Hc _ ⟨_,_,_,rfl,fr⟩;exact SqT.of (fr.same _ _ hx0)
   ·rintro i v σ Hc hv ⟨av,bv,as,rfl,fr⟩;obtain⟨a,t,rfl,hti,hta⟩:=hxs i v hv;obtain⟨t0,t1,t2⟩:=hok t (List.mem_of_getElem? hti);obtain⟨a1,a2,i1,c1,tp1,i2,c2,fr2⟩:=fr.step t0 t1 t2;have l1:∀ v,((nb (ts.take i) v).map V.int).length<sizeLine:=fun v=>by
     rw[List.length_map];have:=nb_len (ts:=ts.take i) v;rw[List.length_take] at this;exact sizeBig (by omega)
    walk_at "rd";refine⟨_,SqT.of (fr.same _ _ hta),rfl,_,_,rfl,_,_,rfl,rfl,_,_,rfl,SqL.of fr.rows.top,_,i1,.inl ⟨rfl,_,SqL.of c1⟩,_,rfl,_,c1,l1 _,_,_,rfl,SqL.of tp1,_,i2,.inl ⟨rfl,_,SqL.of c2⟩,_,rfl,_,c2,l1 _,_,_,as,rfl,?_⟩;rw[List.take_succ,hti];exact fr2
   ·rintro σ Hc ⟨av,bv,as,rfl,fr⟩;rw[hxl,List.take_length] at fr;exact⟨_,rfl,q p as Hc fr.same fr.np fr.na fr.rows⟩
theorem sc_pint:FnScope ["thing"] ["thing"] (defScope (top 1)):=⟨rfl,rfl,rfl,by decide +kernel,rfl,by decide +kernel,by decide +kernel⟩
theorem ok_pint {f:Addr}{fd:FuncData}(F:Fun K "is_int" "is_int" (top 1) f fd)(B:Bt mg)(C:Bt2 mg):FnOk P w K mg base CX0 1 f fd ["thing"] sp_pint:=by
 refine F.ok sc_pint (fun vs H Q E h=>?_) (fun cdv A outer s H vs Q E hr h=>?_)
 ·obtain⟨x,T,rfl,hx,q⟩:=h;rfl
 ·obtain⟨x,T,rfl,hx,q⟩:=h;have nd:=sc_pint.nd;have hu:=hu_of hr;refine⟨_,(pss_one (ps_ret (pe_and (pe_callB (isiK K) (by rfl) C.isinstance PyProof.Rows.boot_isinstance (pa_cons (pv 0) (pa_cons (pe_ty (by rfl) B.int PyProof.Rows.boot_int) pa_nil))) (pe_one (pe_not (pe_callB (isiK K) (by rfl) C.isinstance PyProof.Rows.boot_isinstance (pa_cons (pv 0) (pa_cons (pe_ty (by rfl) C.bool PyProof.Rows.boot_bool) pa_nil)))))))),?_⟩;walk_at "rd";refine⟨_,_,⟨rfl,rfl⟩,_,hx.ty,_,kit_plain hx (.inl rfl),?_⟩;have e:=isI_of hx;cases h1:isIn T "int" with
  | true =>
   rw[if_pos rfl];rw[h1,Bool.true_and] at e;refine⟨_,_,⟨rfl,rfl⟩,_,hx.ty,_,kit_plain hx (.inr (.inl rfl)),?_⟩;rw[e];exact q
  | false =>
   rw[if_neg (by decide)];rw[h1,Bool.false_and] at e;rw[← e] at q;exact q
theorem sc_pbetw:FnScope ["thing", "least", "most"] ["thing", "least", "most"] (defScope (top 2)):=⟨rfl,rfl,rfl,by decide +kernel,rfl,by decide +kernel,by decide +kernel⟩
theorem ok_pbetw {f:Addr}{fd:FuncData}(F:Fun K "is_between" "is_between" (top 2) f fd)(B:Bt mg){f1:Addr}{fd1:FuncData}{st1:Stmt}(Dis_int:Df K mg "is_int" st1 f1 fd1 ["thing"])(Gis_int:FnOk P w K mg base CX0 1 f1 fd1 ["thing"] sp_pint):FnOk P w K mg base CX0 2 f fd ["thing", "least", "most"] sp_pbetw:=by
 refine F.ok sc_pbetw (fun vs H Q E h=>?_) (fun cdv A outer s H vs Q E hr h=>?_)
 ·obtain⟨x,T,lo,hi,rfl,hx,q⟩:=h;rfl
 ·obtain⟨x,T,lo,hi,rfl,hx,q⟩:=h;have nd:=sc_pbetw.nd;have hu:=hu_of hr;refine⟨_,(pss_one (ps_ret (pe_and (pe_own Gis_int Dis_int (hr.mono (by decide)) (pa_cons (pv 0) pa_nil)) (pe_and (pe_cmpR op_le (pv 1) (pv 0) (nomark _)) (pe_one (pe_cmpR op_le (pv 0) (pv 2) (nomark _))))))),?_⟩;walk_at "rd";refine⟨x,T,rfl,hx,_,rfl,?_⟩;cases h1:isI x with
  | true =>
   rw[if_pos rfl];obtain⟨i,rfl⟩:=isI_int h1;refine⟨i,rfl,?_⟩;unfold betw at q;dsimp only at q;by_cases h2:lo≤i
   ·rw[if_pos (by simpa using h2)];rw[decide_eq_true h2,Bool.true_and] at q;exact⟨i,rfl,q⟩
   ·rw[if_neg (by simpa using h2)];rw[decide_eq_false h2,Bool.false_and] at q;exact q
  | false =>
   rw[if_neg (by decide)];rw[betw_no h1] at q;exact q
def sp_isplace:Sp:=fun vs H Q _=>∃ (w:Addr) (n:Int) (y:V) (x:V) (T:String),vs=[.ref w,x]∧H w=some (.tup [.int n,y])∧Pl H x T∧Q (.bl (betw x 0 (n-1))) H
theorem sc_isplace:FnScope ["web", "thing"] ["web", "thing"] (defScope (top 6)):=⟨rfl,rfl,rfl,by decide +kernel,rfl,by decide +kernel,by decide +kernel⟩
theorem ok_isplace {f:Addr}{fd:FuncData}(F:Fun K "is_place" "is_place" (top 6) f fd)(B:Bt mg){f1:Addr}{fd1:FuncData}{st1:Stmt}(Dis_between:Df K mg "is_between" st1 f1 fd1 ["thing", "least", "most"])(Gis_between:FnOk P w K mg base CX0 2 f1 fd1 ["thing", "least", "most"] sp_pbetw):FnOk P w K mg base CX0 3 f fd ["web", "thing"] sp_isplace:=by
 refine F.ok sc_isplace (fun vs H Q E h=>?_) (fun cdv A outer s H vs Q E hr h=>?_)
 ·obtain⟨w0,n,y,x,T,rfl,hw,hx,q⟩:=h;rfl
 ·obtain⟨w0,n,y,x,T,rfl,hw,hx,q⟩:=h;have nd:=sc_isplace.nd;have hu:=hu_of hr;refine⟨_,(pss_one (ps_ret (pe_own Gis_between Dis_between (hr.mono (by decide)) (pa_cons (pv 1) (pa_cons pe_int (pa_cons (pe_op op_sub (pe_ix (ix_tupK K) (pv 0) pe_int (fun _ _=>rfl)) pe_int) pa_nil)))))),?_⟩;walk_at "rd";exact⟨_,SqT.of hw,_,rfl,n,rfl,x,T,0,n-1,rfl,hx,q⟩
def sp_gcd:Sp:=fun vs H Q _=>∃ (a b:Int),vs=[.int a,.int b]∧0≤a∧0≤b∧Q (.int ((Nat.gcd a.toNat b.toNat:Nat):Int)) H
def inv_gcd (H:Hp)(g:Nat)(σ:St)(Hc:Hp):Prop:=∃ a b:Int,σ=[some (.int a),some (.int b)]∧Hc=H∧0≤a∧0≤b∧Nat.gcd a.toNat b.toNat=g
def mu_gcd (σ:St)(_:Hp):Nat:=match σ with
 | [_,some (.int b)]=>b.toNat
 | _=>0
theorem sc_gcd:FnScope ["one", "other"] ["one", "other"] (defScope (top 11)):=⟨rfl,rfl,rfl,by decide +kernel,rfl,by decide +kernel,by decide +kernel⟩
theorem ok_gcd {f:Addr}{fd:FuncData}(F:Fun K "common_part" "common_part" (top 11) f fd)(B:Bt mg):FnOk P w K mg base CX0 1 f fd ["one", "other"] sp_gcd:=by
 refine F.ok sc_gcd (fun vs H Q E h=>?_) (fun cdv A outer s H vs Q E hr h=>?_)
 ·obtain⟨a,b,rfl,ha,hb,q⟩:=h;rfl
 ·obtain⟨a,b,rfl,ha,hb,q⟩:=h;have nd:=sc_gcd.nd;have hu:=hu_of hr
  refine⟨_,(pss_cons (ps_while PassesOwn.never (pt_cmpR op_ne (pv 1) pe_int (nomark _))
     (pss_one (ps_par (i:=0) (j:=1) rfl nd rfl rfl (by decide) rfl rfl (pa_cons (pv 1) (pa_cons (pe_op op_mod (pv 0) (pv 1)) pa_nil)) (by with_unfolding_all rfl))))
    (pss_one (ps_ret (pv 0)))),?_⟩
  walk_at "rd";refine while_by (inv_gcd H (Nat.gcd a.toNat b.toNat)) mu_gcd ⟨a,b,rfl,rfl,ha,hb,rfl⟩ ?_ ?_
  ·rintro σ Hc ⟨a,b,rfl,rfl,ha,hb,hg⟩;walk_at "rd";by_cases hb0:b=0
   ·subst hb0;rw[if_neg (by decide)];rw[Int.toNat_zero,Nat.gcd_zero_right] at hg;rw[← hg,Int.toNat_of_nonneg ha] at q;exact q
   ·rw[if_pos (by simpa using hb0)];have m0:=Int.emod_nonneg a hb0;have m1:=Int.emod_lt_of_pos a (b:=b) (by omega);refine⟨by omega,_,_,⟨rfl,rfl⟩,⟨b,a % b,rfl,rfl,hb,m0,?_⟩,?_⟩
    ·rw[Int.toNat_emod ha hb,← hg,Nat.gcd_comm b.toNat,← Nat.gcd_rec,Nat.gcd_comm]
    ·show (a % b).toNat<b.toNat;omega
  ·rintro σ H Q Q' h ⟨v,e,k⟩;exact⟨v,e,k.1,by obtain⟨b,e2,k2⟩:=k.2;exact⟨b,e2,h _ _ k2⟩⟩
def srOk (n x t b:Int):Prop:=(0≤x∧x<n)∧1≤t∧1≤b∧Nat.gcd t.toNat b.toNat=1
def IsSr (H:Hp)(n:Int)(v:V)(x t b:Int):Prop:=∃ r,v=.ref r∧H r=some (.tup [.int x,.int t,.int b])∧srOk n x t b
def sp_srowX:Sp:=fun vs H Q _=>∃ (w:Addr) (n:Int) (y v:V) (T:String),vs=[.ref w,v]∧H w=some (.tup [.int n,y])∧Pl H v T∧PlD H 1 v∧∀ c:Bool,(c=true↔∃ x t b,IsSr H n v x t b)→Q (.bl c) H
theorem isI_int {v:V}(h:isI v=true):∃ i,v=.int i:=by
 cases v with
 | int i=>exact⟨i,rfl⟩
 | _=>cases h
theorem betw_intS {x:V}{n:Int}(h:betw x 0 (n-1)=true):∃ i,x=.int i∧0≤i∧i<n:=by
 cases x with
 | int i =>
  unfold betw at h;simp at h;exact⟨i,rfl,by omega,by omega⟩
 | _=>cases h
theorem sc_srowX:FnScope ["web", "thing", "place", "top", "bottom"] ["web", "thing"] (defScope (top 14)):=⟨rfl,rfl,rfl,by decide +kernel,rfl,by decide +kernel,by decide +kernel⟩
theorem ok_srowX {f:Addr}{fd:FuncData}(F:Fun K "is_share_row" "is_share_row" (top 14) f fd)(B:Bt mg){f1:Addr}{fd1:FuncData}{st1:Stmt}(Dis_place:Df K mg "is_place" st1 f1 fd1 ["web", "thing"])(Gis_place:FnOk P w K mg base CX0 3 f1 fd1 ["web", "thing"] sp_isplace){f2:Addr}{fd2:FuncData}{st2:Stmt}(Dis_int:Df K mg "is_int" st2 f2 fd2 ["thing"])(Gis_int:FnOk P w K mg base CX0 1 f2 fd2 ["thing"] sp_pint){f3:Addr}{fd3:FuncData}{st3:Stmt}(Dcommon_part:Df K mg "common_part" st3 f3 fd3 ["one", "other"])(Gcommon_part:FnOk P w K mg base CX0 1 f3 fd3 ["one", "other"] sp_gcd)(C:Bt2 mg):FnOk P w K mg base CX0 4 f fd ["web", "thing"] sp_srowX:=by
 refine F.ok sc_srowX (fun vs H Q E h=>?_) (fun cdv A outer s H vs Q E hr h=>?_)
 ·obtain⟨w0,n,y,v,T,rfl,hw,hv,hd,q⟩:=h;rfl
 ·obtain⟨w0,n,y,v,T,rfl,hw,hv,hd,q⟩:=h;have nd:=sc_srowX.nd;have hu:=hu_of hr
  refine⟨_,(pss_cons (ps_if (PW.pt (pw_or (pt_not (pt_val (pe_callB (isiK K) (by rfl) C.isinstance PyProof.Rows.boot_isinstance (pa_cons (pv 1) (pa_cons (pe_ty (by rfl) B.tuple PyProof.Rows.boot_tuple) pa_nil))))) (pw_or1 (pt_cmpR op_ne (pe_callB (lenK K) (by rfl) B.len PySem.boot_len (pa_cons (pv 1) pa_nil)) pe_int (nomark _)))))
     (pss_one (ps_ret pe_bl))
     pss_nil)
    (pss_cons (ps_asg (pv 1) (pg_tupK K (n:=3) rfl (pgs_cons (pg_name (i:=2) nd rfl (Or.inl rfl)) (pgs_cons (pg_name (i:=3) nd rfl (Or.inl rfl)) (pgs_cons (pg_name (i:=4) nd rfl (Or.inl rfl)) pgs_nil)))))
    (pss_cons (ps_if (PW.pt (pw_or (pt_not (pt_val (pe_own Gis_place Dis_place (hr.mono (by decide)) (pa_cons (pv 0) (pa_cons (pv 2) pa_nil))))) (pw_or (pt_not (pt_val (pe_own Gis_int Dis_int (hr.mono (by decide)) (pa_cons (pv 3) pa_nil)))) (pw_or1 (pt_not (pt_val (pe_own Gis_int Dis_int (hr.mono (by decide)) (pa_cons (pv 4) pa_nil))))))))
     (pss_one (ps_ret pe_bl))
     pss_nil)
    (pss_one (ps_ret (pe_and (pe_cmpR op_ge (pv 3) pe_int (nomark _)) (pe_and (pe_cmpR op_ge (pv 4) pe_int (nomark _)) (pe_one (pe_cmpR op_eq (pe_own Gcommon_part Dcommon_part (hr.mono (by decide)) (pa_cons (pv 3) (pa_cons (pv 4) pa_nil))) pe_int (nomark _)))))))))),?_⟩
  walk_at "rd";have no:¬ (∃ x t b,IsSr H n v x t b)→Q (.bl false) H:=fun h=>q false ⟨fun h=>(by cases h),fun h'=>absurd h' h⟩
  refine⟨_,_,⟨rfl,rfl⟩,_,hv.ty,_,kit_plain hv (.inr (.inr rfl)),?_⟩;cases h1:isIn T "tuple" with
  | false =>
   rw[if_pos (by rfl)];refine no fun ⟨x,t,b,r,e,h2,_⟩=>?_
   subst e;cases hv with
   | lst e=>rw[e] at h2;cases h2
   | tup e=>cases h1
   | dK e=>rw[e] at h2;cases h2
   | dT e=>rw[e] at h2;cases h2
  | true =>
   rw[if_neg (by decide)];cases hv with
   | @tup r xs e =>
    walk_at "rd";refine⟨_,.inr (SqT.of e),?_⟩;have on:∀ {x t b},IsSr H n (.ref r) x t b→xs=[.int x,.int t,.int b]:=fun ⟨r',e',e2,_⟩=>by
     cases e';rw[e] at e2;injection e2 with e2
     injection e2
    by_cases hx3:xs.length=3
    ·match xs,hx3 with
     | [v0,v1,v2],_ =>
     rw[if_neg (by simp)];have pl:∀ z∈[v0,v1,v2],∃ T,Pl H z T:=fun z hz=>(hd.2 r _ rfl e z hz).pl
     obtain⟨T0,p0⟩:=pl v0 (by simp);obtain⟨T1,p1⟩:=pl v1 (by simp);obtain⟨T2,p2⟩:=pl v2 (by simp);refine⟨_,SqT.of e,rfl,_,_,rfl,_,_,rfl,_,_,rfl,rfl,?_⟩;refine⟨w0,n,y,v0,T0,rfl,hw,p0,_,rfl,?_⟩;cases hb:betw v0 0 (n-1) with
     | false =>
      rw[if_pos (by rfl)];refine no fun ⟨x,t,b,h⟩=>?_
      have e3:=on h;obtain⟨_,_,_,h⟩:=h;injection e3 with e3
      subst e3;unfold betw at hb;simp at hb;have:=h.1;omega
     | true =>
     obtain⟨x,rfl,x0,x1⟩:=betw_intS hb;rw[if_neg (by decide)];refine⟨v1,T1,rfl,p1,_,rfl,?_⟩;cases hi1:isI v1 with
     | false =>
      rw[if_pos (by rfl)];refine no fun ⟨x,t,b,h⟩=>?_
      cases on h;cases hi1
     | true =>
     obtain⟨t,rfl⟩:=isI_int hi1;rw[if_neg (by decide)];refine⟨v2,T2,rfl,p2,_,rfl,?_⟩;cases hi2:isI v2 with
     | false =>
      rw[if_pos (by rfl)];refine no fun ⟨x,t,b,h⟩=>?_
      cases on h;cases hi2
     | true =>
     obtain⟨b,rfl⟩:=isI_int hi2;rw[if_neg (by decide)]
     have fin:(∃ x t b,IsSr H n (.ref r) x t b)↔srOk n x t b:=⟨fun ⟨x',t',b',h⟩=>by
      cases on h;obtain⟨_,_,_,h⟩:=h
      exact h,fun h=>⟨x,t,b,r,rfl,e,h⟩⟩
     refine⟨t,rfl,?_⟩;by_cases ht:1≤t
     ·rw[if_pos (decide_eq_true ht)];refine⟨b,rfl,?_⟩;by_cases hb:1≤b
      ·rw[if_pos (decide_eq_true hb)];refine⟨t,b,rfl,by omega,by omega,rfl,q _ ?_⟩;rw[decide_eq_true_iff,fin];refine⟨fun h=>⟨⟨x0,x1⟩,ht,hb,by injection h with h;omega⟩,fun h=>by rw[h.2.2.2];rfl⟩
      ·rw[if_neg (by simpa using hb)];exact no fun h=>hb (fin.mp h).2.2.1
     ·rw[if_neg (by simpa using ht)];exact no fun h=>ht (fin.mp h).2.1
    ·rw[if_pos (by simp;omega)];refine no fun ⟨x,t,b,h⟩=>hx3 ?_
     rw[on h];rfl
   | _=>cases h1
def sp_lots:Sp:=fun vs H Q _=>∃ (w:Addr) (n:Int) (ts:List (Int×Int)),vs=[.ref w]∧WebAt H w n ts∧0≤n∧n≤1000∧ts.length≤1000∧TsOk n ts ∧
 ∀ (p:Addr) (as:List Addr) (H':Hp),Same H H'→H p=none→(∀ a∈as,H a=none)→RowsAt H' p as (lotsOf n ts)→Q (.ref p) H'
def inv_lots (H:Hp)(p:Addr)(n:Int)(ts:List (Int×Int))(i:Nat)(τ:St)(Hc:Hp):Prop:=∃ (c d:Option V) (as:List Addr),τ=[c,d]∧FrAt H Hc p as ((lotsOf n ts).take i)
theorem sc_lots:FnScope ["web"] ["web"] (defScope (top 7)):=⟨rfl,rfl,rfl,by decide +kernel,rfl,by decide +kernel,by decide +kernel⟩
theorem ok_lots {f:Addr}{fd:FuncData}(F:Fun K "lot_rows" "lot_rows" (top 7) f fd)(B:Bt mg){f1:Addr}{fd1:FuncData}{st1:Stmt}(Dneighbour_rows:Df K mg "neighbour_rows" st1 f1 fd1 ["web"])(Gneighbour_rows:FnOk P w K mg base CX0 1 f1 fd1 ["web"] sp_nrows)(C:Bt2 mg):FnOk P w K mg base CX0 2 f fd ["web"] sp_lots:=by
 refine F.ok sc_lots (fun vs H Q E h=>?_) (fun cdv A outer s H vs Q E hr h=>?_)
 ·obtain⟨w0,n,ts,rfl,hw,hn0,hn1,htl,hok,q⟩:=h;rfl
 ·obtain⟨w0,n,ts,rfl,hw,hn0,hn1,htl,hok,q⟩:=h;have nd:=sc_lots.nd;have hu:=hu_of hr;refine⟨_,(pss_one (ps_ret (pe_lcomp (own:=["place", "row"]) (fr:=[]) rfl (by with_unfolding_all rfl) frOk_nil (pi_enum (K:=K) (by rfl) C.enumerate PyProof.Rows.boot_enumerate (pa_cons (pe_own Gneighbour_rows Dneighbour_rows (hr.mono (by decide)) (pa_cons (pv 0) pa_nil)) pa_nil)) ⟨fun _ _ _ _=>⟨(pg_tupK K (n:=2) rfl (pgs_cons (pg_name (i:=0) (show List.Nodup (["place", "row"]:List Str) by decide +kernel) rfl (Or.inl rfl)) (pgs_cons (pg_name (i:=1) (show List.Nodup (["place", "row"]:List Str) by decide +kernel) rfl (Or.inl rfl)) pgs_nil))),pts_nil,(pe_op op_cat (pe_lst (pa_cons (pv 0) pa_nil)) (pv 1))⟩⟩))),?_⟩;walk_at "rd";refine⟨w0,n,ts,rfl,hw,hn0,hn1,htl,hok,fun rp as H1 s1 nrp nas hR=>?_⟩;refine⟨rp,rfl,⟨_,SqL.of hR.top⟩,fun l nl=>lc_enum (K:=K) (xs:=as.map V.ref) (inv_lots H1 l n ts) ⟨none,none,[],rfl,(Same.refl H1).upd nl,nl,(fun a ha=>by cases ha),RowsAt.nil upd_same⟩ ?_ ?_ ?_⟩
  ·rintro i τ Hc _ ⟨_,_,_,rfl,fr⟩;exact SqL.of (fr.same _ _ hR.top)
  ·rintro i v τ Hc q0 hv ⟨c,d,as2,rfl,fr⟩ nq;have hil:i<n.toNat:=by
    have:=(List.getElem?_eq_some_iff.mp hv).1;rw[List.length_map,hR.len,rowsOf_len] at this;exact this
   have hri:=rowsOf_get (n:=n) (ts:=ts) (v:=(i:Int)) (by omega) (by omega);rw[Int.toNat_natCast] at hri;rw[List.getElem?_map] at hv;cases ha:as[i]? with
   | none=>rw[ha] at hv;cases hv
   | some a =>
   rw[ha] at hv;cases Option.some.inj hv;have nq1:=fr.same.free nq;have hra:=fr.same _ _ (hR.row i a _ ha hri);have hnl:=nb_len (ts:=ts) (i:Int);refine fresh_of nq fun Hd sd ed=>?_
   walk_at "rd";refine⟨_,SqT.of ed,rfl,_,_,rfl,_,_,rfl,rfl,by decide,fun l2 nl2=>fresh_of nl2 fun He se ee=>⟨l2,a,_,_,rfl,rfl,ee,se _ _ (sd _ _ hra),?_,fun l3 nl3=>?_⟩⟩
   ·rw[List.length_map];exact Nat.le_of_lt (sizeBig (by simp;omega))
   have frE:=fr.rows.same (sd.trans se);have sce:Same Hc He:=sd.trans se;refine⟨_,at_new frE.top nl3,?_,?_⟩
   ·rw[List.length_map,frE.len,List.length_take,lotsOf_len];exact sizeBig (by omega)
   ·have:=frE.snoc nl3 (r:=(i:Int)::nb ts (i:Int));refine⟨_,_,as2++[l3],rfl,((fr.same.trans sce).upd (fr.same.free (sce.free nl3))).upd nl,nl,fun x hx=>?_,?_⟩
    ·rcases List.mem_append.mp hx with hx | hx
     ·exact fr.na x hx
     ·rw[List.mem_singleton.mp hx];exact fr.same.free (sce.free nl3)
    ·rw[List.map_append] at this;rw[lotsOf_take hil];exact this
  ·rintro τ Hc ⟨c,d,as2,rfl,fr⟩;rw[List.length_map,hR.len,rowsOf_len,← lotsOf_len n ts,List.take_length] at fr;exact q l as2 Hc (s1.trans fr.same) (s1.free nl) (fun x hx=>s1.free (fr.na x hx)) fr.rows
def sp_common (K:PySem.W.Frag):Sp:=fun zs H Q _=>∃ (pa:Addr) (us:List Int) (pb:Addr) (vs:List Int),zs=[.ref pa,.ref pb]∧(SqL K H pa (us.map V.int)∨SqT K H pa (us.map V.int))∧us.length≤100000∧(SqL K H pb (vs.map V.int)∨SqT K H pb (vs.map V.int)) ∧
 ∀ (b:Bool) (H':Hp),Same H H'→(b=true↔∃ x∈us,x∈vs)→Q (.bl b) H'
theorem sc_common:FnScope ["one", "other"] ["one", "other"] (defScope (top 8)):=⟨rfl,rfl,rfl,by decide +kernel,rfl,by decide +kernel,by decide +kernel⟩
theorem ok_common {f:Addr}{fd:FuncData}(F:Fun K "have_common" "have_common" (top 8) f fd)(B:Bt mg)(C3:Bt3 mg):FnOk P w K mg base CX0 1 f fd ["one", "other"] (sp_common K):=by
 refine F.ok sc_common (fun vs H Q E h=>?_) (fun cdv A outer s H vs Q E hr h=>?_)
 ·obtain⟨pa,us,pb,vs,rfl,hpa,hul,hpb,q⟩:=h;rfl
 ·obtain⟨pa,us,pb,vs,rfl,hpa,hul,hpb,q⟩:=h;have nd:=sc_common.nd;have hu:=hu_of hr;refine⟨_,(pss_one (ps_ret (pe_callB (anyK K hr.hd) (by rfl) C3.any boot_anyB (pa_cons (pe_lcomp (own:=["place"]) (fr:=[("other",1)]) rfl (by with_unfolding_all rfl) (frOk_cons rfl rfl frOk_nil) (pi_anyK K (pv 0)) ⟨fun _ _ _ _=>⟨(pg_name (i:=0) (show List.Nodup (["place", "other"]:List Str) by decide +kernel) rfl (Or.inl rfl)),pts_nil,(pe_cmpR (in_seqK K) (pv 0) (pv 1) (by with_unfolding_all rfl))⟩⟩) pa_nil)))),?_⟩;walk_at "rd";have key:∀ p (np:H p=none),(∀ ys:List V,upd H p (.lst ys) p=some (.lst ys))→∀ x∈us,TurnF (gName 0) tYes (tOp (rIn K false) (tVar 0) (tVar 1)) p [some (V.ref pb)] H (.int x) true (V.bl (decide (x∈vs))) us.length:=by
   intro p np _ x hx v ys R hy hR1 hR2;have sm:Same H (upd H p (.lst ys)):=(Same.refl H).upd np;walk_at "rd";exact in_use (hpb.imp (fun h=>sm.seq h) (fun h=>sm.seqT h)) (turn_yes hy (by omega) hR1)
  have fin:∀ p (np:H p=none),∃ x:List Bool,SqL K (upd H p (.lst ((us.filter fun _=>true).map fun x=>V.bl (decide (x∈vs))))) p (x.map V.bl)∧Q (.bl (x.any id)) (upd H p (.lst ((us.filter fun _=>true).map fun x=>V.bl (decide (x∈vs))))):=by
   intro p np;rw[fil_true];refine⟨us.map fun x=>decide (x∈vs),SqL.of (by rw[upd_same,List.map_map];rfl),q _ _ ((Same.refl H).upd np) ?_⟩;rw[List.any_map,List.any_eq_true];simp
  rcases hpa with hpa | hpa
  ·exact .inl ⟨⟨_,hpa⟩,fun p np=>lc_listF V.int (fun _=>true) (fun x=>V.bl (decide (x∈vs))) (by omega) hpa np (key p np fun _=>upd_same) (fin p np)⟩
  ·exact .inr ⟨⟨_,hpa⟩,fun p np=>lc_tupF V.int (fun _=>true) (fun x=>V.bl (decide (x∈vs))) (by omega) hpa np (key p np fun _=>upd_same) (fin p np)⟩
def sp_pbut (K:PySem.W.Frag):Sp:=fun vs H Q _=>∃ (w:Addr) (n:Int) (ts:List (Int×Int)) (pl:Addr) (us:List Int),vs=[.ref w,.ref pl]∧WebAt H w n ts∧0≤n∧n≤1000∧SqT K H pl (us.map V.int)∧us.length≤10000 ∧
 ∀ (p:Addr) (H':Hp),Same H H'→H p=none→H' p=some (.tup (((rInts 0 n.toNat).filter fun x=>!decide (x∈us)).map V.int))→Q (.ref p) H'
theorem sc_pbut:FnScope ["web", "some", "among"] ["web", "some"] (defScope (top 9)):=⟨rfl,rfl,rfl,by decide +kernel,rfl,by decide +kernel,by decide +kernel⟩
theorem ok_pbut {f:Addr}{fd:FuncData}(F:Fun K "places_but" "places_but" (top 9) f fd)(B:Bt mg):FnOk P w K mg base CX0 1 f fd ["web", "some"] (sp_pbut K):=by
 refine F.ok sc_pbut (fun vs H Q E h=>?_) (fun cdv A outer s H vs Q E hr h=>?_)
 ·obtain⟨w0,n,ts,pl,us,rfl,hw,hn0,hn1,hpl,hul,q⟩:=h;rfl
 ·obtain⟨w0,n,ts,pl,us,rfl,hw,hn0,hn1,hpl,hul,q⟩:=h;have nd:=sc_pbut.nd;have hu:=hu_of hr
  refine⟨_,(pss_cons (ps_set (i:=2) nd rfl (Or.inr rfl) (pe_dcomp (own:=["place"]) (fr:=[]) false hu rfl (by with_unfolding_all rfl) frOk_nil (pi_tupK K (pv 1)) ⟨fun _ _ _ _=>⟨(pg_name (i:=0) (show List.Nodup (["place"]:List Str) by decide +kernel) rfl (Or.inl rfl)),pts_nil,(pv 0),pe_bl⟩⟩))
    (pss_one (ps_ret (pe_callTy (tupleK K) (by rfl) B.tuple PyProof.Rows.boot_tuple (pa_cons (pe_lcomp (own:=["place"]) (fr:=[("among",2)]) rfl (by with_unfolding_all rfl) (frOk_cons rfl rfl frOk_nil) (pi_range1 (by rfl) B.range (pa_cons (pe_ix (ix_tupK K) (pv 0) pe_int (fun _ _=>rfl)) pa_nil)) ⟨fun _ _ _ _=>⟨(pg_name (i:=0) (show List.Nodup (["place", "among"]:List Str) by decide +kernel) rfl (Or.inl rfl)),(pts_one (pt_cmp (pc_dnotin hu (pv 0) (pv 1)))),(pv 0)⟩⟩) pa_nil))))),?_⟩
  walk_at "rd";obtain⟨q0,hw0,ht⟩:=hw;refine⟨⟨_,hpl⟩,fun am nam=>dc_setF hpl nam (by omega) ?_ ?_⟩
  ·intro u hu v fs R hf hR;walk_at "rd";exact⟨_,DPut.k (k:=Sum.inl u) upd_same (kvI_small hf),hR _⟩
  ·intro fs hnd hm hfl;refine fresh_of nam fun H1 s1 e1=>?_
   refine⟨_,SqT.of (s1 _ _ hw0),_,rfl,n,rfl,by omega,by omega,fun p np=>lc_rangeF (fun x=>!decide (x∈us)) V.int (by omega) ?_ ?_⟩
   ·intro x h0 h1 v ys R hy hR1 hR2;walk_at "rd";refine⟨_,DGet.k (k:=Sum.inl x) (((Same.refl H1).upd np) _ _ e1),?_⟩;rw[val_kvI];exact turn_ite (by simp[hm]) hy (by omega) hR1 hR2
   ·refine⟨_,.inl ⟨SqL.of upd_same,fun l nl=>?_⟩⟩;have f1:=s1.free np;have f2:=s1.free (of_upd_none nl);exact q l _ ((s1.upd f1).upd f2) f2 upd_same
def sp_fplaces (K:PySem.W.Frag):Sp:=fun vs H Q _=>∃ (w:Addr) (n:Int) (ts:List (Int×Int)) (pl:Addr) (us:List Int) (pb:Addr) (bs:List Int),vs=[.ref w,.ref pl,.ref pb]∧WebAt H w n ts∧0≤n∧n≤1000∧SqT K H pl (us.map V.int)∧us.length≤1000∧SqT K H pb (bs.map V.int)∧bs.length≤1000 ∧
 ∀ (p:Addr) (H':Hp),Same H H'→H p=none→H' p=some (.tup ((freeP n us bs).map V.int))→Q (.ref p) H'
theorem sc_fplaces:FnScope ["web", "held", "barred"] ["web", "held", "barred"] (defScope (top 10)):=⟨rfl,rfl,rfl,by decide +kernel,rfl,by decide +kernel,by decide +kernel⟩
theorem ok_fplaces {f:Addr}{fd:FuncData}(F:Fun K "free_places" "free_places" (top 10) f fd)(B:Bt mg){f1:Addr}{fd1:FuncData}{st1:Stmt}(Dplaces_but:Df K mg "places_but" st1 f1 fd1 ["web", "some"])(Gplaces_but:FnOk P w K mg base CX0 1 f1 fd1 ["web", "some"] (sp_pbut K)):FnOk P w K mg base CX0 2 f fd ["web", "held", "barred"] (sp_fplaces K):=by
 refine F.ok sc_fplaces (fun vs H Q E h=>?_) (fun cdv A outer s H vs Q E hr h=>?_)
 ·obtain⟨w0,n,ts,pl,us,pb,bs,rfl,hw,hn0,hn1,hpl,hul,hpb,hbl,q⟩:=h;rfl
 ·obtain⟨w0,n,ts,pl,us,pb,bs,rfl,hw,hn0,hn1,hpl,hul,hpb,hbl,q⟩:=h;have nd:=sc_fplaces.nd;have hu:=hu_of hr;refine⟨_,(pss_one (ps_ret (pe_own Gplaces_but Dplaces_but (hr.mono (by decide)) (pa_cons (pv 0) (pa_cons (pe_op (catT0K K) (pv 1) (pv 2)) pa_nil))))),?_⟩;walk_at "rd";refine⟨us.map V.int,hpl,bs.map V.int,hpb,?_,fun p1 H1 h1 s1 _=>?_⟩
  ·rw[List.length_map,List.length_map];exact Nat.le_of_lt (sizeBig (by omega))
  ·rw[← List.map_append] at h1;refine⟨w0,n,ts,p1,us++bs,rfl,hw.tp s1.tp,hn0,hn1,h1,by rw[List.length_append];omega,fun p2 H2 s2 n2 e2=>?_⟩;exact q p2 H2 (s1.trans s2) (s1.free n2) e2
def sp_isintX:Sp:=fun vs H Q _=>∃ (x:V) (T:String) (lo hi:Int),vs=[x,.int lo,.int hi]∧Pl H x T∧Q (.bl (betw x lo hi)) H
theorem sc_isintX:FnScope ["_law_thing", "_law_least", "_law_most"] ["_law_thing", "_law_least", "_law_most"] (defScope (top 25)):=⟨rfl,rfl,rfl,by decide +kernel,rfl,by decide +kernel,by decide +kernel⟩
theorem ok_isintX {f:Addr}{fd:FuncData}(F:Fun K "_law_is_int" "_law_is_int" (top 25) f fd)(B:Bt mg)(C:Bt2 mg):FnOk P w K mg base CX0 1 f fd ["_law_thing", "_law_least", "_law_most"] sp_isintX:=by
 refine F.ok sc_isintX (fun vs H Q E h=>?_) (fun cdv A outer s H vs Q E hr h=>?_)
 ·obtain⟨x,T,lo,hi,rfl,hx,q⟩:=h;rfl
 ·obtain⟨x,T,lo,hi,rfl,hx,q⟩:=h;have nd:=sc_isintX.nd;have hu:=hu_of hr;refine⟨_,(pss_one (ps_ret (pe_and (pe_callB (isiK K) (by rfl) C.isinstance PyProof.Rows.boot_isinstance (pa_cons (pv 0) (pa_cons (pe_ty (by rfl) B.int PyProof.Rows.boot_int) pa_nil))) (pe_and (pe_not (pe_callB (isiK K) (by rfl) C.isinstance PyProof.Rows.boot_isinstance (pa_cons (pv 0) (pa_cons (pe_ty (by rfl) C.bool PyProof.Rows.boot_bool) pa_nil)))) (pe_one (pe_chain op_le op_le (pv 1) (pv 0) (pv 2))))))),?_⟩;walk_at "rd";refine⟨_,_,⟨rfl,rfl⟩,_,hx.ty,_,kit_plain hx (.inl rfl),?_⟩;have e:=isI_of hx;cases h1:isIn T "int" with
  | true =>
   rw[if_pos rfl];rw[h1,Bool.true_and] at e;refine⟨_,_,⟨rfl,rfl⟩,_,hx.ty,_,kit_plain hx (.inr (.inl rfl)),?_⟩;rw[e];cases h2:isI x with
   | false =>
    rw[if_neg (by decide)];rw[betw_no h2] at q;exact q
   | true =>
    rw[if_pos rfl];obtain⟨i,rfl⟩:=isI_int h2;refine⟨i,rfl,?_⟩;unfold betw at q;dsimp only at q;by_cases h3:lo≤i
    ·rw[if_pos (by simpa using h3)];rw[decide_eq_true h3,Bool.true_and] at q;exact⟨i,rfl,q⟩
    ·rw[if_neg (by simpa using h3)];rw[decide_eq_false h3,Bool.false_and] at q;exact q
  | false =>
   rw[if_neg (by decide)];rw[h1,Bool.false_and] at e;rw[betw_no e.symm] at q;exact q
def sp_llot (K:PySem.W.Frag):Sp:=fun vs H Q _=>∃ (np:Addr) (as:List Addr) (n:Int) (ts:List (Int×Int)) (p:Int),vs=[.ref np,.int p]∧RowsAt H np as (rowsOf n ts)∧IsWeb n ts∧0≤p∧p<n ∧
 ∀ (l:Addr) (ls:List Int) (H':Hp),Same H H'→H l=none→H' l=some (.lst (ls.map V.int))→ls.Perm (nb ts p++[p])→ls.length≤300→Q (.ref l) H'
theorem sc_llot:FnScope ["_law_near_here", "_law_p"] ["_law_near_here", "_law_p"] (defScope (top 28)):=⟨rfl,rfl,rfl,by decide +kernel,rfl,by decide +kernel,by decide +kernel⟩
theorem ok_llot {f:Addr}{fd:FuncData}(F:Fun K "_law_lot" "_law_lot" (top 28) f fd)(B:Bt mg):FnOk P w K mg base CX0 1 f fd ["_law_near_here", "_law_p"] (sp_llot K):=by
 refine F.ok sc_llot (fun vs H Q E h=>?_) (fun cdv A outer s H vs Q E hr h=>?_)
 ·obtain⟨np,as,n,ts,p,rfl,hR,hok,h0,h1,q⟩:=h;rfl
 ·obtain⟨np,as,n,ts,p,rfl,hR,hok,h0,h1,q⟩:=h;have nd:=sc_llot.nd;have hu:=hu_of hr;refine⟨_,(pss_one (ps_ret (pe_callB (sortedIK K hr.hd) (by rfl) B.sorted PyProof.Rows.boot_sorted (pa_cons (pe_op op_cat (pe_ix (ix_listK K) (pv 0) (pv 1) (fun _ _=>rfl)) (pe_lst (pa_cons (pv 1) pa_nil))) pa_nil)))),?_⟩;walk_at "rd";have hl:=hok.len;obtain⟨a,_,g2,g3,_⟩:=hR.get h0 (rowsOf_get h0 h1);have hnl:=nb_len (ts:=ts) p;refine⟨_,SqL.of hR.top,_,g2,by decide,fun l1 nl1=>fresh_of nl1 fun H1 s1 e1=>⟨a,l1,_,_,rfl,rfl,s1 _ _ g3,e1,?_,fun l2 nl2=>fresh_of nl2 fun H2 s2 e2=>⟨l2,rfl,nb ts p++[p],⟨by have:=nb_64 hok.rng hok.srt hok.n60 p;rw[List.length_append,List.length_singleton];omega,.inl (SqL.of (by rw[e2,List.map_append];rfl))⟩,fun ms l3 pm _ nl3=>fresh_of nl3 fun H3 s3 e3=>?_⟩⟩⟩
  ·rw[List.length_map];exact Nat.le_of_lt (sizeBig (by simp;omega))
  ·exact q l3 ms H3 ((s1.trans s2).trans s3) (s1.free (s2.free nl3)) e3 pm (by rw[pm.length_eq,List.length_append,List.length_singleton];omega)
def sp_truth:Sp:=fun vs H Q _=>∃ (x y:Bool),vs=[.bl x,.bl y]∧Q (.bl (decide (x=y))) H
theorem sc_truth:FnScope ["_law_found", "_law_due"] ["_law_found", "_law_due"] (defScope (top 29)):=⟨rfl,rfl,rfl,by decide +kernel,rfl,by decide +kernel,by decide +kernel⟩
theorem ok_truth {f:Addr}{fd:FuncData}(F:Fun K "_law_truth" "_law_truth" (top 29) f fd)(B:Bt mg)(C:Bt2 mg):FnOk P w K mg base CX0 1 f fd ["_law_found", "_law_due"] sp_truth:=by
 refine F.ok sc_truth (fun vs H Q E h=>?_) (fun cdv A outer s H vs Q E hr h=>?_)
 ·obtain⟨x,y,rfl,q⟩:=h;rfl
 ·obtain⟨x,y,rfl,q⟩:=h;have nd:=sc_truth.nd;have hu:=hu_of hr;refine⟨_,(pss_one (ps_ret (pe_and (pe_callB (isiK K) (by rfl) C.isinstance PyProof.Rows.boot_isinstance (pa_cons (pv 0) (pa_cons (pe_ty (by rfl) C.bool PyProof.Rows.boot_bool) pa_nil))) (pe_one (pe_cmpR op_eq (pv 0) (pv 1) (nomark _)))))),?_⟩;walk_at "rd";exact⟨_,_,⟨rfl,rfl⟩,_,.bl x,true,rfl,by rw[if_pos rfl];exact q⟩
def sp_state:Sp:=fun vs H Q _=>∃ (d:Addr) (n:Int),vs=[.ref d,.int n]∧DkAt H d∧0≤n∧n≤60 ∧
 ∀ (p p1 p2:Addr) (us bs:List Int) (H':Hp),Kp d H H'→DkAt H' d→H p=none→H p1=none→H p2=none→H' p=some (.tup [.ref p1,.ref p2])→H' p1=some (.tup (us.map V.int))→H' p2=some (.tup (bs.map V.int))→StOk n us bs→Q (.ref p) H'
def inv_state (H:Hp)(d h b:Addr)(n way:Int)(i:Nat)(σ:St)(Hc:Hp):Prop:=∃ (pv cv:Option V) (us bs:List Int),σ=[some (.ref d),some (.int n),some (.ref h),some (.ref b),some (.int way),pv,cv]∧Kp d H Hc∧DkAt Hc d∧Hc h=some (.lst (us.map V.int))∧Hc b=some (.lst (bs.map V.int))∧StOk i us bs
theorem sc_state:FnScope ["_law_deck_here", "_law_places", "_law_held", "_law_barred", "_law_way", "_law_place", "_law_cell"] ["_law_deck_here", "_law_places"] (defScope (top 26)):=⟨rfl,rfl,rfl,by decide +kernel,rfl,by decide +kernel,by decide +kernel⟩
theorem ok_state {f:Addr}{fd:FuncData}(F:Fun K "_law_state" "_law_state" (top 26) f fd)(B:Bt mg){f1:Addr}{fd1:FuncData}{st1:Stmt}(D_law_next:Df K mg "_law_next" st1 f1 fd1 ["_law_deck_here"])(G_law_next:FnOk P w K mg base CX0 1 f1 fd1 ["_law_deck_here"] sp_next):FnOk P w K mg base CX0 2 f fd ["_law_deck_here", "_law_places"] sp_state:=by
 refine F.ok sc_state (fun vs H Q E h=>?_) (fun cdv A outer s H vs Q E hr h=>?_)
 ·obtain⟨d,n,rfl,hd,hn0,hn1,q⟩:=h;rfl
 ·obtain⟨d,n,rfl,hd,hn0,hn1,q⟩:=h;have nd:=sc_state.nd;have hu:=hu_of hr
  refine⟨_,(pss_cons (ps_set (i:=2) nd rfl (Or.inl rfl) (pe_lst pa_nil))
    (pss_cons (ps_set (i:=3) nd rfl (Or.inl rfl) (pe_lst pa_nil))
    (pss_cons (ps_set (i:=4) nd rfl (Or.inl rfl) (pe_op op_mod (pe_own G_law_next D_law_next (hr.mono (by decide)) (pa_cons (pv 0) pa_nil)) pe_int))
    (pss_cons (ps_for PassesOwn.never rfl (pi_range1 (by rfl) B.range (pa_cons (pv 1) pa_nil)) (pg_name (i:=5) nd rfl (Or.inl rfl))
     (pss_cons (ps_set (i:=6) nd rfl (Or.inl rfl) (pe_own G_law_next D_law_next (hr.mono (by decide)) (pa_cons (pv 0) pa_nil)))
     (pss_one (ps_if (PW.pt (pw_and (pt_cmpR op_eq (pe_op op_mod (pv 6) pe_int) pe_int (nomark _)) (pw_and1 (pt_cmpR op_gt (pv 4) pe_int (nomark _)))))
      (pss_one (ps_expr (appendK K (pv 2) (pa_cons (pv 5) pa_nil))))
      (pss_one (ps_if (PW.pt (pw_and (pt_cmpR op_eq (pe_op op_mod (pv 6) pe_int) pe_int (nomark _)) (pw_and1 (pt_cmpR op_lt (pv 4) pe_int (nomark _)))))
       (pss_one (ps_expr (appendK K (pv 3) (pa_cons (pv 5) pa_nil))))
       pss_nil))))))
    (pss_one (ps_ret (pe_tup (pa_cons (pe_callTy (tupleK K) (by rfl) B.tuple PyProof.Rows.boot_tuple (pa_cons (pv 2) pa_nil)) (pa_cons (pe_callTy (tupleK K) (by rfl) B.tuple PyProof.Rows.boot_tuple (pa_cons (pv 3) pa_nil)) pa_nil))))))))),?_⟩
  walk_at "rd";refine⟨by decide,fun h nh=>fresh_of nh fun H1 s1 e1=>⟨by decide,fun b nb=>fresh_of nb fun H2 s2 e2=>?_⟩⟩;have d2:=hd.same (s1.trans s2);have hnd:h≠d:=hd.ne nh;have bnd:b≠d:=(hd.same s1).ne nb;have hbn:h≠b:=ne_of_none e1 nb;have nb0:=s1.free nb;refine next_use d2 fun z H3 k3 d3 e3=>⟨z,rfl,by decide,?_⟩
  refine⟨_,rfl,n,rfl,by omega,by omega,for_range (lo:=0) (n:=n.toNat) (inv_state H d h b n (z % 4)) ⟨none,none,[],[],rfl,((s1.trans s2).kp).trans k3,d3,k3 _ _ hnd (s2 _ _ e1),k3 _ _ bnd e2,⟨.nil,.nil,fun x hx=>(by cases hx),fun x hx=>(by cases hx),fun x hx=>(by cases hx)⟩⟩ ?_ ?_⟩
  ·rintro i σ Hc hi ⟨pv,cv,us,bs,rfl,kc,dc,eh,eb,ok⟩;have hul:=nd_len (rising_nd ok.ul) ok.ur;have hbl:=nd_len (rising_nd ok.bl) ok.br;walk_at "rd";refine next_use dc fun z2 H4 k4 d4 e4=>?_
   have eh4:=k4 _ _ hnd eh;have eb4:=k4 _ _ bnd eb;have gu:StOk ((i+1:Nat):Int) us bs:=⟨ok.ul,ok.bl,fun x hx=>by have:=ok.ur x hx;omega,fun x hx=>by have:=ok.br x hx;omega,ok.ap⟩
   have hpw:∀ l:List Int,l.Pairwise (·<·)→(∀ x∈l,0≤x∧x<(i:Int))→(l++[0+(i:Int)]).Pairwise (·<·):=fun l hl hr=>List.pairwise_append.mpr ⟨hl,List.pairwise_singleton _ _,fun x hx y hy=>by rw[List.mem_singleton.mp hy];have:=hr x hx;omega⟩
   have hrg:∀ l:List Int,(∀ x∈l,0≤x∧x<(i:Int))→∀ x∈l++[0+(i:Int)],0≤x∧x<((i+1:Nat):Int):=fun l hr x hx=>by
    rcases List.mem_append.mp hx with hx | hx
    ·have:=hr x hx;omega
    ·rw[List.mem_singleton.mp hx];omega
   have hN:inv_state H d h b n (z % 4) (i+1) [some (V.ref d),some (V.int n),some (V.ref h),some (V.ref b),some (V.int (z % 4)),some (V.int (0+(i:Int))),some (V.int z2)] H4:=⟨_,_,us,bs,rfl,kc.trans k4,d4,eh4,eb4,gu⟩
   have hB:tyV K "list" (V.ref b) H4∧∃ x,H4 b=some (.lst x)∧x.length<sizeLine∧inv_state H d h b n (z % 4) (i+1) [some (V.ref d),some (V.int n),some (V.ref h),some (V.ref b),some (V.int (z % 4)),some (V.int (0+(i:Int))),some (V.int z2)] (upd H4 b (.lst (x++[V.int (0+(i:Int))]))):=by
    refine⟨.inl ⟨rfl,_,SqL.of eb4⟩,_,eb4,by rw[List.length_map];exact sizeBig (by omega),_,_,us,bs++[0+(i:Int)],rfl,(kc.trans k4).new nb0,d4.new bnd,by rw[upd_ne hbn];exact eh4,by rw[upd_same,List.map_append];rfl,ok.ul,hpw _ ok.bl ok.br,gu.ur,hrg _ ok.br,fun x hx hm=>?_⟩;rcases List.mem_append.mp hm with hm | hm
    ·exact ok.ap x hx hm
    ·have:=ok.ur x hx;have:=List.mem_singleton.mp hm;omega
   have hA:tyV K "list" (V.ref h) H4∧∃ x,H4 h=some (.lst x)∧x.length<sizeLine∧inv_state H d h b n (z % 4) (i+1) [some (V.ref d),some (V.int n),some (V.ref h),some (V.ref b),some (V.int (z % 4)),some (V.int (0+(i:Int))),some (V.int z2)] (upd H4 h (.lst (x++[V.int (0+(i:Int))]))):=by
    refine⟨.inl ⟨rfl,_,SqL.of eh4⟩,_,eh4,by rw[List.length_map];exact sizeBig (by omega),_,_,us++[0+(i:Int)],bs,rfl,(kc.trans k4).new nh,d4.new hnd,by rw[upd_same,List.map_append];rfl,by rw[upd_ne (Ne.symm hbn)];exact eb4,hpw _ ok.ul ok.ur,ok.bl,hrg _ ok.ur,gu.br,fun x hx hm=>?_⟩;rcases List.mem_append.mp hx with hx | hx
    ·exact ok.ap x hx hm
    ·have:=ok.br x hm;have:=List.mem_singleton.mp hx;omega
   exact⟨z2,rfl,by decide,ite2 (fun _=>ite2 (fun _=>hA) fun _=>⟨z2,rfl,by decide,ite2 (fun _=>ite2 (fun _=>hB) fun _=>hN) fun _=>hN⟩) fun _=>⟨z2,rfl,by decide,ite2 (fun _=>ite2 (fun _=>hB) fun _=>hN) fun _=>hN⟩⟩
  ·rintro σ Hc ⟨pv,cv,us,bs,rfl,kc,dc,eh,eb,ok⟩;rw[Int.toNat_of_nonneg hn0] at ok;walk_at "rd";refine⟨_,.inl ⟨SqL.of eh,fun l nl=>fresh_of nl fun H5 s5 e5=>⟨_,.inl ⟨SqL.of (s5 _ _ eb),fun l2 nl2=>fresh_of nl2 fun H6 s6 e6=>⟨by decide,fun p np=>fresh_of np fun H7 s7 e7=>?_⟩⟩⟩⟩⟩;exact q p l l2 us bs H7 (kc.trans ((s5.trans s6).trans s7).kp) (dc.same ((s5.trans s6).trans s7)) (kc.free dc (s5.free (s6.free np))) (kc.free dc nl) (kc.free dc (s5.free nl2)) e7 ((s6.trans s7) _ _ e5) (s7 _ _ e6) ok
def sp_prices2:Sp:=fun vs H Q _=>∃ (d:Addr) (n:Int),vs=[.ref d,.int n]∧DkAt H d∧0≤n∧n≤1000∧∀ (p:Addr) (f:Int→Int) (H':Hp),Kp d H H'→DkAt H' d→H p=none→H' p=some (.tup ((rInts 0 n.toNat).map fun v=>V.int (f v)))→(∀ x,0≤f x∧f x≤1000)→Q (.ref p) H'
def inv_prices2 (H:Hp)(d l:Addr)(way:Int)(i:Nat)(τ:St)(Hc:Hp):Prop:=∃ (c:Option V) (us:List Int),τ=[c,some (.ref d),some (.int way)]∧Kp d H Hc∧DkAt Hc d∧Hc l=some (.lst (us.map V.int))∧us.length=i∧∀ x∈us,0≤x∧x≤1000
theorem sc_prices2:FnScope ["_law_deck_here", "_law_places", "_law_way"] ["_law_deck_here", "_law_places"] (defScope (top 27)):=⟨rfl,rfl,rfl,by decide +kernel,rfl,by decide +kernel,by decide +kernel⟩
theorem ok_prices2 {f:Addr}{fd:FuncData}(F:Fun K "_law_prices" "_law_prices" (top 27) f fd)(B:Bt mg){f1:Addr}{fd1:FuncData}{st1:Stmt}(D_law_next:Df K mg "_law_next" st1 f1 fd1 ["_law_deck_here"])(G_law_next:FnOk P w K mg base CX0 1 f1 fd1 ["_law_deck_here"] sp_next):FnOk P w K mg base CX0 2 f fd ["_law_deck_here", "_law_places"] sp_prices2:=by
 refine F.ok sc_prices2 (fun vs H Q E h=>?_) (fun cdv A outer s H vs Q E hr h=>?_)
 ·obtain⟨d,n,rfl,hd,hn0,hn1,q⟩:=h;rfl
 ·obtain⟨d,n,rfl,hd,hn0,hn1,q⟩:=h;have nd:=sc_prices2.nd;have hu:=hu_of hr
  refine⟨_,(pss_cons (ps_set (i:=2) nd rfl (Or.inr rfl) (pe_op op_mod (pe_own G_law_next D_law_next (hr.mono (by decide)) (pa_cons (pv 0) pa_nil)) pe_int))
    (pss_one (ps_ret (pe_callTy (tupleK K) (by rfl) B.tuple PyProof.Rows.boot_tuple (pa_cons (pe_lcomp (own:=["_law_place"]) (fr:=[("_law_deck_here",0),("_law_way",2)]) rfl (by with_unfolding_all rfl) (frOk_cons rfl rfl (frOk_cons rfl rfl frOk_nil)) (pi_range1 (by rfl) B.range (pa_cons (pv 1) pa_nil)) ⟨fun _ _ _ _=>⟨(pg_name (i:=0) (show List.Nodup (["_law_place", "_law_deck_here", "_law_way"]:List Str) by decide +kernel) rfl (Or.inl rfl)),pts_nil,(pe_op op_add pe_int (pe_op op_mod (pe_own G_law_next D_law_next (hr.mono (by decide)) (pa_cons (pv 1) pa_nil)) (pe_ix (ix_listK K) (pe_lst (pa_cons pe_int (pa_cons pe_int (pa_cons pe_int (pa_cons pe_int pa_nil))))) (pv 2) (fun _ _=>rfl))))⟩⟩) pa_nil))))),?_⟩
  walk_at "rd";refine next_use hd fun z1 H1 k1 d1 _=>⟨z1,rfl,by decide,?_⟩
  have w0:=Int.emod_nonneg z1 (b:=4) (by omega);have w1:=Int.emod_lt_of_pos z1 (b:=4) (by omega);refine⟨by omega,by omega,fun l nl=>lc_range (inv_prices2 H1 d l (z1 % 4)) ⟨none,[],rfl,(Kp.refl d H1).new nl,d1.new (d1.ne nl),upd_same,rfl,by simp⟩ ?_ ?_⟩
  ·rintro i τ Hc hi ⟨c,us,rfl,kc,dc,hl,hul,hus⟩;walk_at "rd";refine next_use dc fun z2 H2 k2 d2 _=>?_
   have ld:l≠d:=d1.ne nl;refine⟨by decide,fun pl npl=>fresh_of npl fun H3 s3 e3=>⟨_,SqL.of e3,?_⟩⟩;obtain⟨m,em,hm,hm2⟩:∃ m:Int,atI [V.int 1,V.int 3,V.int 10,V.int 1000] (z1 % 4)=some (.int m)∧0<m∧m≤1000:=by
    rcases (show z1 % 4=0∨z1 % 4=1∨z1 % 4=2∨z1 % 4=3 by omega) with h | h | h | h<;>rw[h]
    ·exact⟨1,rfl,by decide,by decide⟩
    ·exact⟨3,rfl,by decide,by decide⟩
    ·exact⟨10,rfl,by decide,by decide⟩
    ·exact⟨1000,rfl,by decide,by decide⟩
   have hl3:=s3 _ _ (k2 _ _ ld hl);refine⟨_,em,z2,rfl,m,rfl,hm,_,hl3,by rw[List.length_map,hul];exact sizeBig (by omega),_,us++[1+z2 % m],rfl,((kc.trans k2).trans s3.kp).new nl,(d2.same s3).new ld,by rw[upd_same,List.map_append];rfl,by rw[List.length_append,hul];rfl,fun x hx=>?_⟩;rcases List.mem_append.mp hx with hx | hx
   ·exact hus x hx
   ·rw[List.mem_singleton.mp hx];have:=Int.emod_nonneg z2 (b:=m) (by omega);have:=Int.emod_lt_of_pos z2 hm;omega
  ·rintro τ Hc ⟨c,us,rfl,kc,dc,hl,hul,hus⟩;refine⟨_,.inl ⟨SqL.of hl,fun p np=>fresh_of np fun H2 s2 e2=>?_⟩⟩;have e:us.map V.int=(rInts 0 n.toNat).map fun v=>V.int (us.getD v.toNat 0):=by
    rw[← hul];refine List.ext_getElem? fun j=>?_
    rw[List.getElem?_map,List.getElem?_map];rcases Nat.lt_or_ge j us.length with h | h
    ·rw[rInts_get h,List.getElem?_eq_getElem h];show some (V.int us[j])=some (V.int (us.getD ((0:Int)+(j:Int)).toNat 0));rw[show ((0:Int)+(j:Int)).toNat=j by omega,List.getD_eq_getElem?_getD,List.getElem?_eq_getElem h];rfl
    ·rw[List.getElem?_eq_none h,List.getElem?_eq_none (by rw[rInts_length];exact h)];rfl
   rw[e] at e2;refine q p _ H2 ((k1.trans kc).trans s2.kp) (dc.same s2) ((k1.trans kc).free dc np) e2 fun x=>?_
   rw[List.getD_eq_getElem?_getD];cases hx:us[x.toNat]? with
   | none=>exact⟨Int.le_refl _,by decide⟩
   | some y=>exact hus y (List.mem_of_getElem? hx)
def sp_lgcd:Sp:=fun vs H Q _=>∃ (a b:Int),vs=[.int a,.int b]∧0≤a∧0≤b∧Q (.int ((Nat.gcd a.toNat b.toNat:Nat):Int)) H
def inv_lgcd (H:Hp)(g:Nat)(σ:St)(Hc:Hp):Prop:=∃ a b:Int,σ=[some (.int a),some (.int b)]∧Hc=H∧0≤a∧0≤b∧Nat.gcd a.toNat b.toNat=g
def mu_lgcd (σ:St)(_:Hp):Nat:=match σ with
 | [_,some (.int b)]=>b.toNat
 | _=>0
theorem sc_lgcd:FnScope ["_law_one", "_law_other"] ["_law_one", "_law_other"] (defScope (top 31)):=⟨rfl,rfl,rfl,by decide +kernel,rfl,by decide +kernel,by decide +kernel⟩
theorem ok_lgcd {f:Addr}{fd:FuncData}(F:Fun K "_law_gcd" "_law_gcd" (top 31) f fd)(B:Bt mg):FnOk P w K mg base CX0 1 f fd ["_law_one", "_law_other"] sp_lgcd:=by
 refine F.ok sc_lgcd (fun vs H Q E h=>?_) (fun cdv A outer s H vs Q E hr h=>?_)
 ·obtain⟨a,b,rfl,ha,hb,q⟩:=h;rfl
 ·obtain⟨a,b,rfl,ha,hb,q⟩:=h;have nd:=sc_lgcd.nd;have hu:=hu_of hr
  refine⟨_,(pss_cons (ps_while PassesOwn.never (pt_cmpR op_gt (pv 1) pe_int (nomark _))
     (pss_one (ps_par (i:=0) (j:=1) rfl nd rfl rfl (by decide) rfl rfl (pa_cons (pv 1) (pa_cons (pe_op op_mod (pv 0) (pv 1)) pa_nil)) (by with_unfolding_all rfl))))
    (pss_one (ps_ret (pv 0)))),?_⟩
  walk_at "rd";refine while_by (inv_lgcd H (Nat.gcd a.toNat b.toNat)) mu_lgcd ⟨a,b,rfl,rfl,ha,hb,rfl⟩ ?_ ?_
  ·rintro σ Hc ⟨a,b,rfl,rfl,ha,hb,hg⟩;walk_at "rd";by_cases hb0:b=0
   ·subst hb0;rw[if_neg (by decide)];rw[Int.toNat_zero,Nat.gcd_zero_right] at hg;rw[← hg,Int.toNat_of_nonneg ha] at q;exact q
   ·rw[if_pos (by simp;omega)];have m0:=Int.emod_nonneg a hb0;have m1:=Int.emod_lt_of_pos a (b:=b) (by omega);refine⟨by omega,_,_,⟨rfl,rfl⟩,⟨b,a % b,rfl,rfl,hb,m0,?_⟩,?_⟩
    ·rw[Int.toNat_emod ha hb,← hg,Nat.gcd_comm b.toNat,← Nat.gcd_rec,Nat.gcd_comm]
    ·show (a % b).toNat<b.toNat;omega
  ·rintro σ H Q Q' h ⟨v,e,i,j,e1,e2,b,e3,k⟩;exact⟨v,e,i,j,e1,e2,b,e3,h _ _ k⟩
def sp_addedG:Sp:=fun vs H Q _=>∃ (pl:Addr) (ps:List Addr) (us:List (Int×Int)),vs=[.ref pl]∧H pl=some (.lst (ps.map V.ref))∧(∀ (i:Nat) a,ps[i]?=some a→∃ u,us[i]?=some u∧H a=some (.tup [.int u.1,.int u.2]))∧ps.length=us.length∧us.length≤62∧(∀ u∈us,FrB u)∧∀ (p:Addr) (H':Hp),Same H H'→H p=none→H' p=some (.tup [.int (frSum us).1,.int (frSum us).2])→Q (.ref p) H'
def inv_addG (H:Hp)(pl:Addr)(us:List (Int×Int))(i:Nat)(σ:St)(Hc:Hp):Prop:=∃ c d:Option V,σ=[some (.ref pl),some (.int (frSum (us.take i)).1),some (.int (frSum (us.take i)).2),c,d]∧Same H Hc
theorem sc_addedG:FnScope ["fractions", "top", "bottom", "more_top", "more_bottom"] ["fractions"] (defScope (top 12)):=⟨rfl,rfl,rfl,by decide +kernel,rfl,by decide +kernel,by decide +kernel⟩
theorem ok_addedG {f:Addr}{fd:FuncData}(F:Fun K "added" "added" (top 12) f fd)(B:Bt mg):FnOk P w K mg base CX0 1 f fd ["fractions"] sp_addedG:=by
 refine F.ok sc_addedG (fun vs H Q E h=>?_) (fun cdv A outer s H vs Q E hr h=>?_)
 ·obtain⟨pl,ps,us,rfl,hpl,hps,hus,hl,hok,q⟩:=h;rfl
 ·obtain⟨pl,ps,us,rfl,hpl,hps,hus,hl,hok,q⟩:=h;have nd:=sc_addedG.nd;have hu:=hu_of hr
  refine⟨_,(pss_cons (ps_asg (pe_tup (pa_cons pe_int (pa_cons pe_int pa_nil))) (pg_tupK K (n:=2) rfl (pgs_cons (pg_name (i:=1) nd rfl (Or.inl rfl)) (pgs_cons (pg_name (i:=2) nd rfl (Or.inl rfl)) pgs_nil))))
    (pss_cons (ps_for PassesOwn.never rfl (pi_listK K (pv 0)) (pg_tupK K (n:=2) rfl (pgs_cons (pg_name (i:=3) nd rfl (Or.inl rfl)) (pgs_cons (pg_name (i:=4) nd rfl (Or.inl rfl)) pgs_nil)))
     (pss_one (ps_par (i:=1) (j:=2) rfl nd rfl rfl (by decide) rfl rfl (pa_cons (pe_op op_add (pe_op op_mulB (pv 1) (pv 4)) (pe_op op_mulB (pv 3) (pv 2))) (pa_cons (pe_op op_mulB (pv 2) (pv 4)) pa_nil)) (by with_unfolding_all rfl))))
    (pss_one (ps_ret (pe_tup (pa_cons (pv 1) (pa_cons (pv 2) pa_nil))))))),?_⟩
  walk_at "rd";refine⟨by decide,fun t0 n0=>fresh_of n0 fun H1 s1 e1=>⟨_,SqT.of e1,rfl,_,_,rfl,_,_,rfl,rfl,?_⟩⟩;refine⟨_,rfl,pl,rfl,⟨_,SqL.of (s1 _ _ hpl)⟩,for_list (K:=K) (xs:=ps.map V.ref) (inv_addG H pl us) ⟨none,none,by rw[List.take_zero];rfl,s1⟩ ?_ ?_ ?_⟩
  ·rintro i σ Hc _ ⟨_,_,rfl,sc⟩;exact SqL.of (sc _ _ hpl)
  ·rintro i v σ Hc hv ⟨c,d,rfl,sc⟩;rw[List.getElem?_map] at hv;cases ha:ps[i]? with
   | none=>rw[ha] at hv;cases hv
   | some a =>
   rw[ha] at hv;cases Option.some.inj hv;obtain⟨u,hu,ea⟩:=hps i a ha;have hum:=List.mem_of_getElem? hu;obtain⟨u1,u2,u3,u4⟩:=hok u hum;obtain⟨b1,b2⟩:=frSum_bd (l:=us.take i) (fun x hx=>hok x (List.mem_of_mem_take hx)) (by rw[List.length_take];omega);have hsn:=frSum_snoc (l:=us.take i) (x:=u);rw[← take_snoc hu] at hsn;walk_at "rd";refine⟨_,SqT.of (sc _ _ ea),rfl,_,_,rfl,_,_,rfl,rfl,?_⟩;refine⟨_,rfl,⟨b1.mono (by decide),u4.mono (by decide)⟩,_,rfl,⟨u2.mono (by decide),b2.mono (by decide)⟩,_,rfl,⟨b2.mono (by decide),u4.mono (by decide)⟩,_,_,⟨rfl,rfl⟩,some (.int u.1),some (.int u.2),?_,sc⟩;rw[hsn];rfl
  ·rintro σ Hc ⟨c,d,rfl,sc⟩;rw[List.length_map,hus,List.take_length];walk_at "rd";refine⟨by decide,fun p np=>q p _ (sc.upd (sc.free np)) (sc.free np) upd_same⟩
def sp_lsumG:Sp:=fun vs H Q _=>∃ (pl:Addr) (ps:List Addr) (us:List (Int×Int)),vs=[.ref pl]∧H pl=some (.lst (ps.map V.ref))∧(∀ (i:Nat) a,ps[i]?=some a→∃ u,us[i]?=some u∧H a=some (.tup [.int u.1,.int u.2]))∧ps.length=us.length∧us.length≤62∧(∀ u∈us,FrB u)∧∀ (p:Addr) (H':Hp),Same H H'→H p=none→H' p=some (.tup [.int (frSum us).1,.int (frSum us).2])→Q (.ref p) H'
def inv_lsumG (H:Hp)(pl:Addr)(us:List (Int×Int))(i:Nat)(σ:St)(Hc:Hp):Prop:=∃ c d:Option V,σ=[some (.ref pl),some (.int (frSum (us.take i)).1),some (.int (frSum (us.take i)).2),c,d]∧Same H Hc
theorem sc_lsumG:FnScope ["_law_fractions", "_law_top", "_law_bottom", "_law_one", "_law_other"] ["_law_fractions"] (defScope (top 32)):=⟨rfl,rfl,rfl,by decide +kernel,rfl,by decide +kernel,by decide +kernel⟩
theorem ok_lsumG {f:Addr}{fd:FuncData}(F:Fun K "_law_sum" "_law_sum" (top 32) f fd)(B:Bt mg):FnOk P w K mg base CX0 1 f fd ["_law_fractions"] sp_lsumG:=by
 refine F.ok sc_lsumG (fun vs H Q E h=>?_) (fun cdv A outer s H vs Q E hr h=>?_)
 ·obtain⟨pl,ps,us,rfl,hpl,hps,hus,hl,hok,q⟩:=h;rfl
 ·obtain⟨pl,ps,us,rfl,hpl,hps,hus,hl,hok,q⟩:=h;have nd:=sc_lsumG.nd;have hu:=hu_of hr
  refine⟨_,(pss_cons (ps_asg (pe_tup (pa_cons pe_int (pa_cons pe_int pa_nil))) (pg_tupK K (n:=2) rfl (pgs_cons (pg_name (i:=1) nd rfl (Or.inl rfl)) (pgs_cons (pg_name (i:=2) nd rfl (Or.inl rfl)) pgs_nil))))
    (pss_cons (ps_for PassesOwn.never rfl (pi_listK K (pv 0)) (pg_tupK K (n:=2) rfl (pgs_cons (pg_name (i:=3) nd rfl (Or.inl rfl)) (pgs_cons (pg_name (i:=4) nd rfl (Or.inl rfl)) pgs_nil)))
     (pss_one (ps_par (i:=1) (j:=2) rfl nd rfl rfl (by decide) rfl rfl (pa_cons (pe_op op_add (pe_op op_mulB (pv 1) (pv 4)) (pe_op op_mulB (pv 3) (pv 2))) (pa_cons (pe_op op_mulB (pv 2) (pv 4)) pa_nil)) (by with_unfolding_all rfl))))
    (pss_one (ps_ret (pe_tup (pa_cons (pv 1) (pa_cons (pv 2) pa_nil))))))),?_⟩
  walk_at "rd";refine⟨by decide,fun t0 n0=>fresh_of n0 fun H1 s1 e1=>⟨_,SqT.of e1,rfl,_,_,rfl,_,_,rfl,rfl,?_⟩⟩;refine⟨_,rfl,pl,rfl,⟨_,SqL.of (s1 _ _ hpl)⟩,for_list (K:=K) (xs:=ps.map V.ref) (inv_lsumG H pl us) ⟨none,none,by rw[List.take_zero];rfl,s1⟩ ?_ ?_ ?_⟩
  ·rintro i σ Hc _ ⟨_,_,rfl,sc⟩;exact SqL.of (sc _ _ hpl)
  ·rintro i v σ Hc hv ⟨c,d,rfl,sc⟩;rw[List.getElem?_map] at hv;cases ha:ps[i]? with
   | none=>rw[ha] at hv;cases hv
   | some a =>
   rw[ha] at hv;cases Option.some.inj hv;obtain⟨u,hu,ea⟩:=hps i a ha;have hum:=List.mem_of_getElem? hu;obtain⟨u1,u2,u3,u4⟩:=hok u hum;obtain⟨b1,b2⟩:=frSum_bd (l:=us.take i) (fun x hx=>hok x (List.mem_of_mem_take hx)) (by rw[List.length_take];omega);have hsn:=frSum_snoc (l:=us.take i) (x:=u);rw[← take_snoc hu] at hsn;walk_at "rd";refine⟨_,SqT.of (sc _ _ ea),rfl,_,_,rfl,_,_,rfl,rfl,?_⟩;refine⟨_,rfl,⟨b1.mono (by decide),u4.mono (by decide)⟩,_,rfl,⟨u2.mono (by decide),b2.mono (by decide)⟩,_,rfl,⟨b2.mono (by decide),u4.mono (by decide)⟩,_,_,⟨rfl,rfl⟩,some (.int u.1),some (.int u.2),?_,sc⟩;rw[hsn];rfl
  ·rintro σ Hc ⟨c,d,rfl,sc⟩;rw[List.length_map,hus,List.take_length];walk_at "rd";refine⟨by decide,fun p np=>q p _ (sc.upd (sc.free np)) (sc.free np) upd_same⟩
abbrev SRow:=Addr×Int×Int×Int
structure SrAt (H:Hp)(p:Addr)(rs:List SRow):Prop where
 top:H p=some (.tup (rs.map fun x=>V.ref x.1))
 row:∀ x∈rs,H x.1=some (.tup [.int x.2.1,.int x.2.2.1,.int x.2.2.2])
def srAll (n:Int)(rs:List SRow):Prop:=∀ x∈rs,srOk n x.2.1 x.2.2.1 x.2.2.2
def srUp (rs:List SRow):Prop:=(rs.map fun x=>x.2.1).Pairwise (·<·)
def IsSrs (H:Hp)(n:Int)(v:V)(rs:List SRow):Prop:=∃ p,v=.ref p∧SrAt H p rs∧srAll n rs∧srUp rs
def sp_srowsX:Sp:=fun vs H Q _=>∃ (w:Addr) (n:Int) (y v:V) (T:String),vs=[.ref w,v]∧H w=some (.tup [.int n,y])∧Pl H v T∧PlD H 2 v∧∀ c:Bool,(c=true↔∃ rs,IsSrs H n v rs)→Q (.bl c) H
def inv_srsX (H:Hp)(w p:Addr)(n:Int)(xs:List V)(i:Nat)(σ:St)(Hc:Hp):Prop:=∃ (a:Int) (c:Option V) (rs:List SRow),σ=[some (.ref w),some (.ref p),some (.int a),c]∧Hc=H∧xs.take i=rs.map (fun x=>V.ref x.1)∧(∀ x∈rs,H x.1=some (.tup [.int x.2.1,.int x.2.2.1,.int x.2.2.2]))∧srAll n rs∧srUp rs∧(∀ x∈rs,x.2.1≤a)∧(a=-1∨∃ x∈rs,x.2.1=a)
theorem rows_uniq {H:Hp}:∀ {rs rs':List SRow},rs.map (fun x=>V.ref x.1)=rs'.map (fun x=>V.ref x.1)→(∀ x∈rs,H x.1=some (.tup [.int x.2.1,.int x.2.2.1,.int x.2.2.2]))→(∀ x∈rs',H x.1=some (.tup [.int x.2.1,.int x.2.2.1,.int x.2.2.2]))→rs=rs'
 | [],[],_,_,_=>rfl
 | [],_::_,e,_,_=>by cases e
 | _::_,[],e,_,_=>by cases e
 | (a,x,t,b)::l,(a',x',t',b')::l',e,h,h'=>by
  rw[List.map_cons,List.map_cons] at e;injection e with e1 e2
  injection e1 with e1
  have e1:a=a':=e1;subst e1;have g:=h _ (List.mem_cons_self ..);rw[h' _ (List.mem_cons_self ..)] at g;simp only[Option.some.injEq,HO.tup.injEq,List.cons.injEq,V.int.injEq,and_true] at g;obtain⟨rfl,rfl,rfl⟩:=g;rw[rows_uniq e2 (fun z hz=>h z (List.mem_cons_of_mem _ hz)) fun z hz=>h' z (List.mem_cons_of_mem _ hz)]
theorem srUp_bad {rs:List SRow}{i:Nat}{x z:SRow}(hx:rs[i]?=some x)(hz:z∈rs.take i)(hle:x.2.1≤z.2.1):¬ srUp rs:=fun h=>by
 obtain⟨j,hj⟩:=List.mem_iff_getElem?.mp hz;rw[List.getElem?_take] at hj;split at hj
 ·rename_i hji;unfold srUp at h;rw[List.pairwise_iff_getElem] at h;obtain⟨l1,e1⟩:=List.getElem?_eq_some_iff.mp hx;obtain⟨l2,e2⟩:=List.getElem?_eq_some_iff.mp hj;have:=h j i (by rw[List.length_map];exact l2) (by rw[List.length_map];exact l1) hji;rw[List.getElem_map,List.getElem_map,e1,e2] at this;omega
 ·cases hj
theorem sc_srowsX:FnScope ["web", "thing", "ahead", "row"] ["web", "thing"] (defScope (top 15)):=⟨rfl,rfl,rfl,by decide +kernel,rfl,by decide +kernel,by decide +kernel⟩
theorem ok_srowsX {f:Addr}{fd:FuncData}(F:Fun K "are_share_rows" "are_share_rows" (top 15) f fd)(B:Bt mg){f1:Addr}{fd1:FuncData}{st1:Stmt}(Dis_share_row:Df K mg "is_share_row" st1 f1 fd1 ["web", "thing"])(Gis_share_row:FnOk P w K mg base CX0 4 f1 fd1 ["web", "thing"] sp_srowX)(C:Bt2 mg):FnOk P w K mg base CX0 5 f fd ["web", "thing"] sp_srowsX:=by
 refine F.ok sc_srowsX (fun vs H Q E h=>?_) (fun cdv A outer s H vs Q E hr h=>?_)
 ·obtain⟨w0,n,y,v,T,rfl,hw,hv,hd,q⟩:=h;rfl
 ·obtain⟨w0,n,y,v,T,rfl,hw,hv,hd,q⟩:=h;have nd:=sc_srowsX.nd;have hu:=hu_of hr
  refine⟨_,(pss_cons (ps_if (pt_not (pt_val (pe_callB (isiK K) (by rfl) C.isinstance PyProof.Rows.boot_isinstance (pa_cons (pv 1) (pa_cons (pe_ty (by rfl) B.tuple PyProof.Rows.boot_tuple) pa_nil)))))
     (pss_one (ps_ret pe_bl))
     pss_nil)
    (pss_cons (ps_set (i:=2) nd rfl (Or.inl rfl) (pe_un un_neg pe_int))
    (pss_cons (ps_for PassesOwn.never rfl (pi_tupK K (pv 1)) (pg_name (i:=3) nd rfl (Or.inl rfl))
     (pss_cons (ps_if (PW.pt (pw_or (pt_not (pt_val (pe_own Gis_share_row Dis_share_row (hr.mono (by decide)) (pa_cons (pv 0) (pa_cons (pv 3) pa_nil))))) (pw_or1 (pt_cmpR op_le (pe_ix (ix_tupK K) (pv 3) pe_int (fun _ _=>rfl)) (pv 2) (nomark _)))))
      (pss_one (ps_ret pe_bl))
      pss_nil)
     (pss_one (ps_set (i:=2) nd rfl (Or.inl rfl) (pe_ix (ix_tupK K) (pv 3) pe_int (fun _ _=>rfl))))))
    (pss_one (ps_ret pe_bl))))),?_⟩
  walk_at "rd";have no:¬ (∃ rs,IsSrs H n v rs)→Q (.bl false) H:=fun h=>q false ⟨fun h=>(by cases h),fun h'=>absurd h' h⟩
  refine⟨_,_,⟨rfl,rfl⟩,_,hv.ty,_,kit_plain hv (.inr (.inr rfl)),?_⟩;cases h1:isIn T "tuple" with
  | false =>
   rw[if_pos (by rfl)];refine no fun ⟨rs,p,e,h2,_⟩=>?_
   subst e;have h2:=h2.top;cases hv with
   | lst e=>rw[e] at h2;cases h2
   | tup e=>cases h1
   | dK e=>rw[e] at h2;cases h2
   | dT e=>rw[e] at h2;cases h2
  | true =>
   rw[if_neg (by decide)];cases hv with
   | @tup p xs e =>
    rw[tFor_eq];walk_at "rd";have on:∀ {rs},IsSrs H n (.ref p) rs→xs=rs.map (fun x=>V.ref x.1)∧(∀ x∈rs,H x.1=some (.tup [.int x.2.1,.int x.2.2.1,.int x.2.2.2]))∧srAll n rs∧srUp rs:=fun ⟨p',e',h,k⟩=>by
     cases e';have:=h.top;rw[e] at this;injection this with this
     injection this with this
     exact⟨this,h.row,k⟩
    refine⟨⟨_,SqT.of e⟩,for_tup (K:=K) (xs:=xs) (inv_srsX H w0 p n xs) ⟨-1,none,[],rfl,rfl,rfl,fun x hx=>(by cases hx),fun x hx=>(by cases hx),List.Pairwise.nil,fun x hx=>(by cases hx),.inl rfl⟩ ?_ ?_ ?_⟩
    ·rintro i σ Hc _ ⟨a,c,rs,rfl,rfl,_⟩;exact SqT.of e
    ·rintro i z σ Hc hz ⟨a,c,rs,rfl,rfl,hrs,hrow,hs,hu,hle,hla⟩;have hzm:=List.mem_of_getElem? hz;have hzd:=hd.2 p xs rfl e z hzm;obtain⟨Tz,hTz⟩:=hzd.pl;have at_i:∀ {rs'},IsSrs Hc n (.ref p) rs'→∃ x,rs'[i]?=some x∧z=.ref x.1∧rs=rs'.take i:=fun {rs'} h=>by
      obtain⟨h1,h2,_⟩:=on h;rw[h1,List.getElem?_map] at hz;cases hx:rs'[i]? with
      | none=>rw[hx] at hz;cases hz
      | some x =>
       rw[hx] at hz;refine⟨x,rfl,(Option.some.inj hz).symm,rows_uniq (H:=Hc) ?_ hrow fun u hu=>h2 u (List.mem_of_mem_take hu)⟩;rw[← hrs,h1,List.map_take]
     walk_at "rd";refine⟨w0,n,y,z,Tz,rfl,hw,hTz,hzd,fun c hc=>⟨c,rfl,?_⟩⟩;cases c with
     | false =>
      rw[if_pos (by decide)];refine no fun ⟨rs',h⟩=>?_
      obtain⟨x,hx,rfl,_⟩:=at_i h;obtain⟨_,h2,h3,_⟩:=on h;have hxm:=List.mem_of_getElem? hx;cases hc.mpr ⟨x.2.1,x.2.2.1,x.2.2.2,x.1,rfl,h2 x hxm,h3 x hxm⟩
     | true =>
      obtain⟨x,t,b,r,rfl,er,hxo⟩:=hc.mp rfl;rw[if_neg (by decide)];walk_at "rd";refine⟨_,SqT.of er,_,rfl,_,rfl,?_⟩;by_cases hla2:x≤a
      ·rw[if_pos (decide_eq_true hla2)];refine no fun ⟨rs',h⟩=>?_
       obtain⟨x',hx,ez,rfl⟩:=at_i h;obtain⟨_,h2,h3,h4⟩:=on h;cases ez;have e3:=h2 x' (List.mem_of_getElem? hx);rw[er] at e3;simp only[Option.some.injEq,HO.tup.injEq,List.cons.injEq,V.int.injEq,and_true] at e3;rcases hla with rfl | ⟨u,hu,rfl⟩
       ·have:=hxo.1.1;omega
       ·exact absurd h4 (srUp_bad hx hu (by rw[← e3.1];exact hla2))
      ·rw[if_neg (by simpa using hla2)];refine⟨_,SqT.of er,_,rfl,x,_,rs++[(r,x,t,b)],rfl,rfl,by rw[take_snoc hz,List.map_append,hrs];rfl,?_,?_,?_,?_,.inr ⟨_,List.mem_append.mpr (.inr (List.mem_singleton.mpr rfl)),rfl⟩⟩
       ·intro u hu;rcases List.mem_append.mp hu with hu | hu
        ·exact hrow u hu
        ·rw[List.mem_singleton.mp hu];exact er
       ·intro u hu;rcases List.mem_append.mp hu with hu | hu
        ·exact hs u hu
        ·rw[List.mem_singleton.mp hu];exact hxo
       ·unfold srUp;rw[List.map_append,List.pairwise_append];refine⟨hu,by simp,fun u hu1 z hz=>?_⟩;obtain⟨s,hs1,rfl⟩:=List.mem_map.mp hu1;rw[List.map_singleton,List.mem_singleton] at hz;have:=hle s hs1;rw[hz];show s.2.1<x;omega
       ·intro u hu;rcases List.mem_append.mp hu with hu | hu
        ·have:=hle u hu;omega
        ·rw[List.mem_singleton.mp hu];exact Int.le_refl _
    ·rintro σ Hc ⟨a,c,rs,rfl,rfl,hrs,hrow,hs,hu,_⟩;rw[List.take_length] at hrs;walk_at "rd";exact q true ⟨fun _=>⟨rs,p,rfl,⟨by rw[e,hrs],hrow⟩,hs,hu⟩,fun _=>rfl⟩
   | _=>cases h1
def frOf (rs:List SRow)(k:Int):Option (Int×Int):=(rs.reverse.find? fun x=>decide (x.2.1=k)).map fun x=>x.2.2
theorem frOf_snoc {rs:List SRow}{x:SRow}{k:Int}:frOf (rs++[x]) k=if k=x.2.1 then some x.2.2 else frOf rs k:=by
 unfold frOf;rw[List.reverse_append,List.reverse_singleton,List.singleton_append,List.find?_cons];by_cases h:k=x.2.1
 ·rw[if_pos h,decide_eq_true h.symm];rfl
 ·rw[if_neg h,decide_eq_false (fun e=>h e.symm)]
def lotFr (ts:List (Int×Int))(rs:List SRow)(x:Int):Int×Int:=frSum ((x::nb ts x).filterMap (frOf rs))
theorem frOf_mem {rs:List SRow}{k:Int}{u:Int×Int}(h:frOf rs k=some u):∃ r∈rs,r.2.1=k∧r.2.2=u:=by
 unfold frOf at h;cases e:rs.reverse.find? fun x=>decide (x.2.1=k) with
 | none=>rw[e] at h;cases h
 | some r =>
  rw[e] at h;have h1:=List.find?_some e;exact⟨r,List.mem_reverse.mp (List.mem_of_find?_eq_some e),of_decide_eq_true h1,Option.some.inj h⟩
def FdAtG (H:Hp)(p:Addr)(rs:List SRow):Prop:=∃ kvs:List (Key×V),H p=some (.dK kvs)∧kvs.length≤rs.length∧∀ k:Int,(frOf rs k=none→valV kvs (Sum.inl k)=none)∧∀ t,frOf rs k=some t→∃ a,valV kvs (Sum.inl k)=some (.ref a)∧H a=some (.tup [.int t.1,.int t.2])
theorem FdAtG.same {H H':Hp}{p:Addr}{rs:List SRow}(h:FdAtG H p rs)(s:Same H H'):FdAtG H' p rs:=by
 obtain⟨kvs,e,l,r⟩:=h;refine⟨kvs,s _ _ e,l,fun k=>⟨(r k).1,fun t ht=>?_⟩⟩;obtain⟨a,e1,e2⟩:=(r k).2 t ht;exact⟨a,e1,s _ _ e2⟩
def sp_withinG (K:PySem.W.Frag):Sp:=fun vs H Q _=>∃ (w:Addr) (n:Int) (ts:List (Int×Int)) (pp:Addr) (f:Int→Int) (pf:Addr) (fs:List Int) (ph:Addr) (rs:List SRow),vs=[.ref w,.ref pp,.ref pf,.ref ph]∧WebAt H w n ts∧IsWeb n ts∧SqT K H pp ((rInts 0 n.toNat).map fun v=>V.int (f v))∧SqT K H pf (fs.map V.int)∧(∀ x∈fs,0≤x∧x<n)∧SrAt H ph rs∧(∀ x∈rs,FrOk x.2.2)∧rs.length≤60∧(∀ x,0≤x→x<n→0≤f x∧f x≤1000)∧∀ (c:Bool) (H':Hp),Same H H'→(c=true↔∀ x∈fs,(lotFr ts rs x).1≤f x*(lotFr ts rs x).2)→Q (.bl c) H'
def inv_fdG (Hb:Hp)(p:Addr)(rs:List SRow)(i:Nat)(τ:St)(Hc:Hp):Prop:=∃ c d e:Option V,τ=[c,d,e]∧Same Hb Hc∧FdAtG Hc p (rs.take i)
def inv_wiG (Hb:Hp)(w0 pp pf ph lr p:Addr)(f:Int→Int)(ts:List (Int×Int))(rs:List SRow)(fs:List Int)(i:Nat)(σ:St)(Hc:Hp):Prop:=∃ c d e:Option V,σ=[some (.ref w0),some (.ref pp),some (.ref pf),some (.ref ph),some (.ref lr),c,d,e,some (.ref p)]∧Same Hb Hc∧∀ x∈fs.take i,(lotFr ts rs x).1≤f x*(lotFr ts rs x).2
def inv_wcG (Hb:Hp)(p l:Addr)(rs:List SRow)(lt:List Int)(j:Nat)(τ:St)(Hc:Hp):Prop:=∃ (c:Option V) (as:List Addr),τ=[c,some (.ref p)]∧Same Hb Hc∧Hc l=some (.lst (as.map V.ref))∧as.length=((lt.take j).filterMap (frOf rs)).length∧∀ (i:Nat) a,as[i]?=some a→∃ u,((lt.take j).filterMap (frOf rs))[i]?=some u∧Hb a=some (.tup [.int u.1,.int u.2])
theorem sc_withinG:FnScope ["web", "prices", "free", "shares", "lots", "place", "top", "bottom", "fractions"] ["web", "prices", "free", "shares"] (defScope (top 16)):=⟨rfl,rfl,rfl,by decide +kernel,rfl,by decide +kernel,by decide +kernel⟩
theorem ok_withinG {f:Addr}{fd:FuncData}(F:Fun K "are_within_prices" "are_within_prices" (top 16) f fd)(B:Bt mg){f1:Addr}{fd1:FuncData}{st1:Stmt}(Dlot_rows:Df K mg "lot_rows" st1 f1 fd1 ["web"])(Glot_rows:FnOk P w K mg base CX0 2 f1 fd1 ["web"] sp_lots){f2:Addr}{fd2:FuncData}{st2:Stmt}(Dadded:Df K mg "added" st2 f2 fd2 ["fractions"])(Gadded:FnOk P w K mg base CX0 1 f2 fd2 ["fractions"] sp_addedG):FnOk P w K mg base CX0 4 f fd ["web", "prices", "free", "shares"] (sp_withinG K):=by
 refine F.ok sc_withinG (fun vs H Q E h=>?_) (fun cdv A outer s H vs Q E hr h=>?_)
 ·obtain⟨w0,n,ts,pp,f,pf,fs,ph,rs,rfl,hw,hok,hpp,hpf,hfs,hph,hb1,hrl,hpr,q⟩:=h;rfl
 ·obtain⟨w0,n,ts,pp,f,pf,fs,ph,rs,rfl,hw,hok,hpp,hpf,hfs,hph,hb1,hrl,hpr,q⟩:=h;have nd:=sc_withinG.nd;have hu:=hu_of hr
  refine⟨_,(pss_cons (ps_set (i:=4) nd rfl (Or.inl rfl) (pe_own Glot_rows Dlot_rows (hr.mono (by decide)) (pa_cons (pv 0) pa_nil)))
    (pss_cons (ps_set (i:=8) nd rfl (Or.inr rfl) (pe_dcomp (own:=["place", "top", "bottom"]) (fr:=[]) false hu rfl (by with_unfolding_all rfl) frOk_nil (pi_tupK K (pv 3)) ⟨fun _ _ _ _=>⟨(pg_tupK K (n:=3) rfl (pgs_cons (pg_name (i:=0) (show List.Nodup (["place", "top", "bottom"]:List Str) by decide +kernel) rfl (Or.inl rfl)) (pgs_cons (pg_name (i:=1) (show List.Nodup (["place", "top", "bottom"]:List Str) by decide +kernel) rfl (Or.inl rfl)) (pgs_cons (pg_name (i:=2) (show List.Nodup (["place", "top", "bottom"]:List Str) by decide +kernel) rfl (Or.inl rfl)) pgs_nil)))),pts_nil,(pv 0),(pe_tup (pa_cons (pv 1) (pa_cons (pv 2) pa_nil)))⟩⟩))
    (pss_cons (ps_for PassesOwn.never rfl (pi_tupK K (pv 2)) (pg_name (i:=5) nd rfl (Or.inl rfl))
     (pss_cons (ps_asg (pe_own Gadded Dadded (hr.mono (by decide)) (pa_cons (pe_lcomp (own:=["other"]) (fr:=[("fractions",8)]) rfl (by with_unfolding_all rfl) (frOk_cons rfl rfl frOk_nil) (pi_listK K (pe_ix (ix_listK K) (pv 4) (pv 5) (fun _ _=>rfl))) ⟨fun _ _ _ _=>⟨(pg_name (i:=0) (show List.Nodup (["other", "fractions"]:List Str) by decide +kernel) rfl (Or.inl rfl)),(pts_one (pt_cmp (pc_din hu (pv 0) (pv 1)))),(pe_dget hu (pv 1) (pv 0) (fun _ _=>rfl))⟩⟩) pa_nil)) (pg_tupK K (n:=2) rfl (pgs_cons (pg_name (i:=6) nd rfl (Or.inl rfl)) (pgs_cons (pg_name (i:=7) nd rfl (Or.inl rfl)) pgs_nil))))
     (pss_one (ps_if (pt_cmpR op_gt (pv 6) (pe_op op_mul (pe_ix (ix_tupK K) (pv 1) (pv 5) (fun _ _=>rfl)) (pv 7)) (nomark _))
      (pss_one (ps_ret pe_bl))
      pss_nil))))
    (pss_one (ps_ret pe_bl))))),?_⟩
  walk_at "rd";have h3:=hok.n3;have h60:=hok.n60;have hl:=hok.len;refine⟨w0,n,ts,rfl,hw,by omega,by omega,by omega,hok.rng,fun lr as H1 s1 nlr nas hR=>?_⟩;refine⟨⟨_,SqT.of (s1 _ _ hph.top)⟩,fun p np=>dc_tup (K:=K) (xs:=rs.map fun x=>V.ref x.1) (inv_fdG H1 p rs) ⟨none,none,none,rfl,(Same.refl H1).upd np,?_⟩ ?_ ?_ ?_⟩
  ·rw[List.take_zero];exact⟨[],upd_same,Nat.le_refl _,fun k=>⟨fun _=>rfl,fun t ht=>by cases ht⟩⟩
  ·rintro i τ Hc _ ⟨_,_,_,rfl,sc,_⟩;exact SqT.of (sc _ _ (s1 _ _ hph.top))
  ·rintro i v τ Hc hv ⟨c,d,e,rfl,sc,hF⟩;rw[List.getElem?_map] at hv;cases hx0:rs[i]? with
   | none=>rw[hx0] at hv;cases hv
   | some x =>
   rw[hx0] at hv;cases Option.some.inj hv;have hxm:=List.mem_of_getElem? hx0;have hil:=(List.getElem?_eq_some_iff.mp hx0).1;walk_at "rd";refine⟨_,SqT.of (sc _ _ (s1 _ _ (hph.row x hxm))),rfl,_,_,rfl,_,_,rfl,_,_,rfl,rfl,by decide,fun a na=>?_⟩;obtain⟨kvs,ek,lk,rk⟩:=hF;have lk2:kvs.length≤i:=Nat.le_trans lk (by rw[List.length_take];omega);refine⟨_,DPut.k (k:=Sum.inl x.2.1) (at_new ek na) (sizeBig (by omega)),_,_,_,rfl,(sc.upd (sc.free na)).upd np,putK kvs (Sum.inl x.2.1) (.ref a),upd_same,?_,fun k=>?_⟩
   ·rw[take_snoc hx0,List.length_append,List.length_singleton];exact Nat.le_trans (length_putK _ _ _) (Nat.succ_le_succ lk)
   ·rw[take_snoc hx0,frOf_snoc,valV_put];by_cases hk:k=x.2.1
    ·rw[if_pos hk,if_pos (by rw[hk])];refine⟨fun h=>(by cases h),fun t ht=>⟨a,rfl,?_⟩⟩;cases ht;rw[upd_ne (ne_of_none ek na).symm,upd_same]
    ·rw[if_neg hk,if_neg (fun h=>hk (by injection h))];refine⟨(rk k).1,fun t ht=>?_⟩;obtain⟨a0,g1,g2⟩:=(rk k).2 t ht;exact⟨a0,g1,((Tp.nw na).trans (Tp.dK (at_new ek na))) _ _ g2⟩
  ·rintro τ H2 ⟨c,d,e,rfl,s2,hF⟩;rw[List.length_map,List.take_length] at hF;have s12:=s1.trans s2;rw[tFor_eq];walk_at "rd";refine⟨⟨_,s12.seqT hpf⟩,for_tup (K:=K) (xs:=fs.map V.int) (inv_wiG H2 w0 pp pf ph lr p f ts rs fs) ⟨none,none,none,rfl,Same.refl H2,fun x hx=>(by rw[List.take_zero] at hx;cases hx)⟩ ?_ ?_ ?_⟩
   ·rintro i σ Hc _ ⟨_,_,_,rfl,sc,_⟩;exact (s12.trans sc).seqT hpf
   ·rintro i v σ Hc hv ⟨c,d,e,rfl,sc,hin⟩;rw[List.getElem?_map] at hv;cases hx0:fs[i]? with
    | none=>rw[hx0] at hv;cases hv
    | some x =>
    rw[hx0] at hv;cases Option.some.inj hv;have hxm:=List.mem_of_getElem? hx0;obtain⟨x0,x1⟩:=hfs x hxm;have hRc:=hR.same (s2.trans sc);obtain⟨ra,_,g2,g3,_⟩:=hRc.get x0 (lotsOf_get x0 x1);have hnl:=nd_len (rising_nd (nb_lt hok.rng hok.srt x)) (n:=n) fun y hy=>by have:=nb_rng hok.rng hy;exact⟨this.1,this.2.1⟩
    walk_at "rd";have hFc:=hF.same sc;obtain⟨kvs,ek,lk,rk⟩:=id hFc;refine⟨_,SqL.of hRc.top,_,g2,ra,rfl,⟨_,SqL.of g3⟩,fun l nl=>lc_list (K:=K) (xs:=(x::nb ts x).map V.int) (inv_wcG Hc p l rs (x::nb ts x)) ⟨none,[],rfl,(Same.refl Hc).upd nl,upd_same,rfl,fun i a h=>(by cases h)⟩ ?_ ?_ ?_⟩
    ·rintro j τ Hk _ ⟨_,_,rfl,sk,_⟩;exact SqL.of (sk _ _ g3)
    ·rintro j v τ Hk hv ⟨c2,as2,rfl,sk,hlk,hll,hal⟩ _;rw[List.getElem?_map] at hv;cases hu0:(x::nb ts x)[j]? with
     | none=>rw[hu0] at hv;cases hv
     | some u =>
     rw[hu0] at hv;cases Option.some.inj hv;have hjl:=(List.getElem?_eq_some_iff.mp hu0).1;rw[List.length_cons] at hjl;walk_at "rd";have hsn:(x::nb ts x).take (j+1)=(x::nb ts x).take j++[u]:=take_snoc hu0;refine⟨_,DGet.k (k:=Sum.inl u) (sk _ _ ek),?_⟩;cases ht:frOf rs u with
     | none =>
      rw[(rk u).1 ht,if_neg (by decide)];refine⟨_,as2,rfl,sk,hlk,?_,?_⟩
      ·rw[hsn,List.filterMap_append,List.filterMap_cons_none ht,List.filterMap_nil,List.append_nil];exact hll
      ·rw[hsn,List.filterMap_append,List.filterMap_cons_none ht,List.filterMap_nil,List.append_nil];exact hal
     | some t =>
      obtain⟨a0,v1,v2⟩:=(rk u).2 t ht;have v3:=DGet.k (k:=Sum.inl u) (sk _ _ ek);rw[v1] at v3 ⊢;rw[if_pos (show (some (V.ref a0)).isSome=true from rfl)];unfold tDGet;walk_at "rd";have hfl:=List.length_filterMap_le (frOf rs) ((x::nb ts x).take j);rw[List.length_take,List.length_cons] at hfl;refine⟨_,v3,_,hlk,by rw[List.length_map];exact sizeBig (by omega),_,as2++[a0],rfl,sk.upd nl,by rw[upd_same,List.map_append];rfl,?_,?_⟩
      ·rw[hsn,List.filterMap_append,List.filterMap_cons_some ht,List.filterMap_nil,List.length_append,List.length_append,hll];rfl
      ·intro i0 b0 h0;rw[hsn,List.filterMap_append,List.filterMap_cons_some ht,List.filterMap_nil];rcases Nat.lt_or_ge i0 as2.length with hi | hi
       ·rw[List.getElem?_append_left hi] at h0;obtain⟨u1,e1,e2⟩:=hal i0 b0 h0;exact⟨u1,by rw[List.getElem?_append_left (by omega)];exact e1,e2⟩
       ·rw[List.getElem?_append_right hi] at h0;have hi0:i0-as2.length=0:=by
         rcases Nat.eq_zero_or_pos (i0-as2.length) with h | h
         ·exact h
         ·rw[List.getElem?_eq_none (by rw[List.length_singleton];omega)] at h0;cases h0
        rw[hi0] at h0;cases h0;exact⟨t,by rw[List.getElem?_append_right (by omega),show i0-_=0 by omega];rfl,v2⟩
    ·rintro τ H6 ⟨c2,as2,rfl,s6,h6,hll,hal⟩;rw[List.length_map,List.take_length] at hll hal;refine⟨l,as2,_,rfl,h6,?_,hll,?_,?_,fun pa H7 s7 na ea=>?_⟩
     ·intro i0 a0 h0;obtain⟨u,e1,e2⟩:=hal i0 a0 h0;exact⟨u,e1,s6 _ _ e2⟩
     ·exact Nat.le_trans (List.length_filterMap_le _ _) (by rw[List.length_cons];omega)
     ·intro u hu;obtain⟨k,_,hk⟩:=List.mem_filterMap.mp hu;obtain⟨r,r1,_,r2⟩:=frOf_mem hk;rw[← r2];exact (hb1 r r1).b
     ·have s67:=s6.trans s7;refine⟨pa,rfl,_,SqT.of ea,rfl,_,_,rfl,_,_,rfl,rfl,_,((s12.trans sc).trans s67).seqT hpp,?_⟩;have ea2:atI (List.map (fun v=>V.int (f v)) (rInts 0 n.toNat)) x=some (V.int (f x)):=by
       have:=atI_nat (xs:=List.map (fun v=>V.int (f v)) (rInts 0 n.toNat)) (j:=x.toNat) (v:=V.int (f x)) (by
        rw[List.getElem?_map,rInts_get (by omega)];show some (V.int (f (0+(x.toNat:Int))))=_
        rw[show (0+(x.toNat:Int))=x by omega])
       rwa [Int.toNat_of_nonneg x0] at this
      refine⟨_,ea2,_,rfl,_,rfl,.inl ⟨by have:=hpr x x0 x1;omega,by have:=hpr x x0 x1;omega⟩,_,rfl,?_⟩;have hle0:(frSum ((x::nb ts x).filterMap (frOf rs)))=lotFr ts rs x:=rfl;rw[hle0];by_cases hle:(lotFr ts rs x).1≤f x*(lotFr ts rs x).2
      ·rw[if_neg (by rw[decide_eq_true_iff];exact Int.not_lt.mpr hle)];refine⟨_,_,_,rfl,sc.trans s67,fun z hz=>?_⟩;rw[take_snoc hx0] at hz;rcases List.mem_append.mp hz with hz | hz
       ·exact hin z hz
       ·rw[List.mem_singleton.mp hz];exact hle
      ·rw[if_pos (by rw[decide_eq_true_iff];exact Int.not_le.mp hle)];exact q false H7 ((s12.trans sc).trans s67) ⟨fun h=>(by cases h),fun h=>absurd (h x hxm) hle⟩
   ·rintro σ Hc ⟨c,d,e,rfl,sc,hin⟩;rw[List.length_map,List.take_length] at hin;walk_at "rd";exact q true Hc (s12.trans sc) ⟨fun _=>hin,fun _=>rfl⟩
def ShG (n:Int)(ts:List (Int×Int))(f:Int→Int)(hs bs:List Int)(rs:List SRow):Prop:=(srAll n rs∧srUp rs)∧(∀ x∈rs,∀ z∈x.2.1::nb ts x.2.1,z∉hs)∧∀ x,0≤x→x<n→x∉hs→x∉bs→(lotFr ts rs x).1≤f x*(lotFr ts rs x).2
def IsSh (H:Hp)(n:Int)(ts:List (Int×Int))(f:Int→Int)(hs bs:List Int)(v:V):Prop:=∃ p rs,v=.ref p∧SrAt H p rs∧ShG n ts f hs bs rs
def sp_rsharesX (K:PySem.W.Frag):Sp:=fun vs H Q _=>∃ (w:Addr) (n:Int) (ts:List (Int×Int)) (pp:Addr) (f:Int→Int) (ph:Addr) (hs:List Int) (pb:Addr) (bs:List Int) (v:V) (T:String),vs=[.ref w,.ref pp,.ref ph,.ref pb,v]∧WebAt H w n ts∧IsWeb n ts∧SqT K H pp ((rInts 0 n.toNat).map fun v=>V.int (f v))∧SqT K H ph (hs.map V.int)∧SqT K H pb (bs.map V.int)∧hs.length≤60∧bs.length≤60∧Pl H v T∧PlD H 2 v∧(∀ rs,IsSrs H n v rs→∀ x∈rs,FrOk x.2.2)∧(∀ x,0≤x→x<n→0≤f x∧f x≤1000)∧∀ (c:Bool) (H':Hp),Same H H'→(c=true↔IsSh H n ts f hs bs v)→Q (.bl c) H'
theorem SrAt.tp {H H':Hp}{p:Addr}{rs:List SRow}(h:SrAt H p rs)(k:Tp H H'):SrAt H' p rs:=⟨k _ _ h.top,fun x hx=>k _ _ (h.row x hx)⟩
def inv_rh (Hb:Hp)(w0 pp ph pb pt lr:Addr)(ts:List (Int×Int))(hs:List Int)(rs:List SRow)(i:Nat)(σ:St)(Hc:Hp):Prop:=∃ c:Option V,σ=[some (.ref w0),some (.ref pp),some (.ref ph),some (.ref pb),some (.ref pt),some (.ref lr),c]∧Same Hb Hc∧∀ x∈rs.take i,∀ z∈x.2.1::nb ts x.2.1,z∉hs
theorem sc_rsharesX:FnScope ["web", "prices", "held", "barred", "thing", "lots", "row"] ["web", "prices", "held", "barred", "thing"] (defScope (top 17)):=⟨rfl,rfl,rfl,by decide +kernel,rfl,by decide +kernel,by decide +kernel⟩
theorem ok_rsharesX {f:Addr}{fd:FuncData}(F:Fun K "right_shares" "right_shares" (top 17) f fd)(B:Bt mg){f1:Addr}{fd1:FuncData}{st1:Stmt}(Dare_share_rows:Df K mg "are_share_rows" st1 f1 fd1 ["web", "thing"])(Gare_share_rows:FnOk P w K mg base CX0 5 f1 fd1 ["web", "thing"] sp_srowsX){f2:Addr}{fd2:FuncData}{st2:Stmt}(Dlot_rows:Df K mg "lot_rows" st2 f2 fd2 ["web"])(Glot_rows:FnOk P w K mg base CX0 2 f2 fd2 ["web"] sp_lots){f3:Addr}{fd3:FuncData}{st3:Stmt}(Dhave_common:Df K mg "have_common" st3 f3 fd3 ["one", "other"])(Ghave_common:FnOk P w K mg base CX0 1 f3 fd3 ["one", "other"] (sp_common K)){f4:Addr}{fd4:FuncData}{st4:Stmt}(Dfree_places:Df K mg "free_places" st4 f4 fd4 ["web", "held", "barred"])(Gfree_places:FnOk P w K mg base CX0 2 f4 fd4 ["web", "held", "barred"] (sp_fplaces K)){f5:Addr}{fd5:FuncData}{st5:Stmt}(Dare_within_prices:Df K mg "are_within_prices" st5 f5 fd5 ["web", "prices", "free", "shares"])(Gare_within_prices:FnOk P w K mg base CX0 4 f5 fd5 ["web", "prices", "free", "shares"] (sp_withinG K)):FnOk P w K mg base CX0 6 f fd ["web", "prices", "held", "barred", "thing"] (sp_rsharesX K):=by
 refine F.ok sc_rsharesX (fun vs H Q E h=>?_) (fun cdv A outer s H vs Q E hr h=>?_)
 ·obtain⟨w0,n,ts,pp,f,ph,hs,pb,bs,v,T,rfl,hw,hok,hpp,hph,hpb,hhl,hbl,hv,hd,hbig,hpr,q⟩:=h;rfl
 ·obtain⟨w0,n,ts,pp,f,ph,hs,pb,bs,v,T,rfl,hw,hok,hpp,hph,hpb,hhl,hbl,hv,hd,hbig,hpr,q⟩:=h;have nd:=sc_rsharesX.nd;have hu:=hu_of hr
  refine⟨_,(pss_cons (ps_if (pt_not (pt_val (pe_own Gare_share_rows Dare_share_rows (hr.mono (by decide)) (pa_cons (pv 0) (pa_cons (pv 4) pa_nil)))))
     (pss_one (ps_ret pe_bl))
     pss_nil)
    (pss_cons (ps_set (i:=5) nd rfl (Or.inl rfl) (pe_own Glot_rows Dlot_rows (hr.mono (by decide)) (pa_cons (pv 0) pa_nil)))
    (pss_cons (ps_for PassesOwn.never rfl (pi_tupK K (pv 4)) (pg_name (i:=6) nd rfl (Or.inl rfl))
     (pss_one (ps_if (pt_val (pe_own Ghave_common Dhave_common (hr.mono (by decide)) (pa_cons (pe_ix (ix_listK K) (pv 5) (pe_ix (ix_tupK K) (pv 6) pe_int (fun _ _=>rfl)) (fun _ _=>rfl)) (pa_cons (pv 2) pa_nil))))
      (pss_one (ps_ret pe_bl))
      pss_nil)))
    (pss_one (ps_ret (pe_own Gare_within_prices Dare_within_prices (hr.mono (by decide)) (pa_cons (pv 0) (pa_cons (pv 1) (pa_cons (pe_own Gfree_places Dfree_places (hr.mono (by decide)) (pa_cons (pv 0) (pa_cons (pv 2) (pa_cons (pv 3) pa_nil)))) (pa_cons (pv 4) pa_nil)))))))))),?_⟩
  walk_at "rd";have h3:=hok.n3;have h60:=hok.n60;have hl:=hok.len;obtain⟨q0,hw0,htq⟩:=id hw;refine⟨w0,n,_,v,T,rfl,hw0,hv,hd,fun c hc=>⟨c,rfl,?_⟩⟩;cases c with
  | false =>
   rw[if_pos (by decide)];exact q false H (Same.refl H) ⟨fun h=>(by cases h),fun ⟨p,rs,e,h,hG⟩=>by cases hc.mpr ⟨rs,p,e,h,hG.1⟩⟩
  | true =>
   obtain⟨rs,hI⟩:=hc.mp rfl;have hb1:=hbig rs hI;obtain⟨pt,rfl,hpt,hc1⟩:=hI;have hrl:rs.length≤60:=by
    have:=nd_len (rising_nd (l:=rs.map fun x=>x.2.1) (by have:=hc1.2;unfold srUp at this;exact this)) (n:=n) fun y hy=>by obtain⟨r,hr,rfl⟩:=List.mem_map.mp hy;exact (hc1.1 r hr).1
    rw[List.length_map] at this;omega
   have q:∀ (c:Bool) (H':Hp),Same H H'→(c=true↔ShG n ts f hs bs rs)→Q (.bl c) H':=fun c H' s h=>q c H' s (h.trans ⟨fun g=>⟨pt,rs,rfl,hpt,g⟩,fun ⟨p',rs',e',h',g⟩=>by
    cases e';have e2:=hpt.top;rw[h'.top] at e2;injection e2 with e2
    injection e2 with e2
    rw[← rows_uniq e2 h'.row hpt.row];exact g⟩)
   rw[if_neg (by decide)];refine⟨w0,n,ts,rfl,hw,by omega,by omega,by omega,hok.rng,fun lr as H1 s1 nlr nas hR=>?_⟩;dsimp only;rw[tFor_eq];walk_at "rd";refine⟨⟨_,SqT.of (s1 _ _ hpt.top)⟩,for_tup (K:=K) (xs:=rs.map fun x=>V.ref x.1) (inv_rh H1 w0 pp ph pb pt lr ts hs rs) ⟨none,rfl,Same.refl H1,fun x hx=>(by rw[List.take_zero] at hx;cases hx)⟩ ?_ ?_ ?_⟩
   ·rintro i σ Hc _ ⟨_,rfl,sc,_⟩;exact SqT.of (sc _ _ (s1 _ _ hpt.top))
   ·rintro i v σ Hc hv ⟨c,rfl,sc,hin⟩;rw[List.getElem?_map] at hv;cases hx0:rs[i]? with
    | none=>rw[hx0] at hv;cases hv
    | some x =>
    rw[hx0] at hv;cases Option.some.inj hv;have hxm:=List.mem_of_getElem? hx0;obtain⟨⟨x0,x1⟩,_⟩:=hc1.1 x hxm;have s1c:=s1.trans sc;have hRc:=hR.same sc;obtain⟨ra,_,g2,g3,_⟩:=hRc.get x0 (lotsOf_get x0 x1);have hnl:=nb_len (ts:=ts) x.2.1;walk_at "rd";refine⟨_,SqT.of (s1c _ _ (hpt.row x hxm)),_,rfl,_,x.2.1,rfl,SqL.of hRc.top,_,g2,ra,x.2.1::nb ts x.2.1,ph,hs,rfl,.inl (SqL.of g3),by rw[List.length_cons];omega,.inr (s1c.seqT hph),fun b H2 s2 hb=>⟨b,rfl,?_⟩⟩;cases b with
    | true =>
     rw[if_pos rfl];refine q false H2 (s1c.trans s2) ⟨fun h=>(by cases h),fun h=>?_⟩;obtain⟨z,z1,z2⟩:=hb.mp rfl;exact absurd z2 (h.2.1 x hxm z z1)
    | false =>
     rw[if_neg (by decide)];refine⟨_,rfl,sc.trans s2,fun z hz=>?_⟩;rw[take_snoc hx0] at hz;rcases List.mem_append.mp hz with hz | hz
     ·exact hin z hz
     ·rw[List.mem_singleton.mp hz];intro y hy hyh;have:=hb.mpr ⟨y,hy,hyh⟩;cases this
   ·rintro σ Hc ⟨c,rfl,sc,hin⟩;rw[List.length_map,List.take_length] at hin;have s1c:=s1.trans sc;walk_at "rd";refine⟨w0,n,ts,ph,hs,pb,bs,rfl,hw.tp s1c.tp,by omega,by omega,s1c.seqT hph,by omega,s1c.seqT hpb,by omega,fun pf H2 s2 np e2=>?_⟩;have s12:=s1c.trans s2;have hmf:∀ x,x∈freeP n hs bs↔(0≤x∧x<n)∧x∉hs∧x∉bs:=fun x=>by
     unfold freeP;rw[List.mem_filter,mem_rInts];simp;omega
    refine⟨w0,n,ts,pp,f,pf,freeP n hs bs,pt,rs,rfl,hw.tp s12.tp,hok,s12.seqT hpp,SqT.of e2,fun x hx=>((hmf x).mp hx).1,hpt.tp s12.tp,hb1,hrl,hpr,fun c H3 s3 hc3=>q c H3 (s12.trans s3) ?_⟩;rw[hc3];refine⟨fun h=>⟨hc1,hin,fun x x0 x1 h1 h2=>h x ((hmf x).mpr ⟨⟨x0,x1⟩,h1,h2⟩)⟩,fun h x hx=>?_⟩;have:=(hmf x).mp hx;exact h.2.2 x this.1.1 this.1.2 this.2.1 this.2.2
def IsLr (H:Hp)(n:Int)(ts:List (Int×Int))(hs:List Int)(v:V):Prop:=∃ x t b,IsSr H n v x t b∧∀ z∈x::nb ts x,z∉hs
def sp_lisrowX (K:PySem.W.Frag):Sp:=fun vs H Q _=>∃ (np:Addr) (as:List Addr) (n:Int) (ts:List (Int×Int)) (ph:Addr) (hs:List Int) (v:V) (T:String),vs=[.ref np,.ref ph,v]∧RowsAt H np as (rowsOf n ts)∧IsWeb n ts∧SqT K H ph (hs.map V.int)∧Pl H v T∧PlD H 1 v∧∀ (c:Bool) (H':Hp),Same H H'→(c=true↔IsLr H n ts hs v)→Q (.bl c) H'
def inv_lirX (Hb:Hp)(np ph a:Addr)(xs:List V)(i:Nat)(σ:St)(Hc:Hp):Prop:=∃ c:Option V,σ=[some (.ref np),some (.ref ph),some (.ref a),c]∧Hc=Hb∧∀ z∈xs.take i,∃ y:Int,z=.int y∧1≤y
theorem sc_lisrowX:FnScope ["_law_near_here", "_law_held", "_law_thing", "_law_one"] ["_law_near_here", "_law_held", "_law_thing"] (defScope (top 33)):=⟨rfl,rfl,rfl,by decide +kernel,rfl,by decide +kernel,by decide +kernel⟩
theorem ok_lisrowX {f:Addr}{fd:FuncData}(F:Fun K "_law_is_row" "_law_is_row" (top 33) f fd)(B:Bt mg){f1:Addr}{fd1:FuncData}{st1:Stmt}(D_law_is_int:Df K mg "_law_is_int" st1 f1 fd1 ["_law_thing", "_law_least", "_law_most"])(G_law_is_int:FnOk P w K mg base CX0 1 f1 fd1 ["_law_thing", "_law_least", "_law_most"] sp_isintX){f2:Addr}{fd2:FuncData}{st2:Stmt}(D_law_gcd:Df K mg "_law_gcd" st2 f2 fd2 ["_law_one", "_law_other"])(G_law_gcd:FnOk P w K mg base CX0 1 f2 fd2 ["_law_one", "_law_other"] sp_lgcd){f3:Addr}{fd3:FuncData}{st3:Stmt}(D_law_lot:Df K mg "_law_lot" st3 f3 fd3 ["_law_near_here", "_law_p"])(G_law_lot:FnOk P w K mg base CX0 1 f3 fd3 ["_law_near_here", "_law_p"] (sp_llot K))(C:Bt2 mg):FnOk P w K mg base CX0 3 f fd ["_law_near_here", "_law_held", "_law_thing"] (sp_lisrowX K):=by
 refine F.ok sc_lisrowX (fun vs H Q E h=>?_) (fun cdv A outer s H vs Q E hr h=>?_)
 ·obtain⟨np,as,n,ts,ph,hs,v,T,rfl,hR,hok,hph,hv,hd,q⟩:=h;rfl
 ·obtain⟨np,as,n,ts,ph,hs,v,T,rfl,hR,hok,hph,hv,hd,q⟩:=h;have nd:=sc_lisrowX.nd;have hu:=hu_of hr
  refine⟨_,(pss_cons (ps_if (PW.pt (pw_or (pt_not (pt_val (pe_callB (isiK K) (by rfl) C.isinstance PyProof.Rows.boot_isinstance (pa_cons (pv 2) (pa_cons (pe_ty (by rfl) B.tuple PyProof.Rows.boot_tuple) pa_nil))))) (pw_or (pt_cmpR op_ne (pe_callB (lenK K) (by rfl) B.len PySem.boot_len (pa_cons (pv 2) pa_nil)) pe_int (nomark _)) (pw_or1 (pt_not (pt_val (pe_own G_law_is_int D_law_is_int (hr.mono (by decide)) (pa_cons (pe_ix (ix_tupK K) (pv 2) pe_int (fun _ _=>rfl)) (pa_cons pe_int (pa_cons (pe_op op_sub (pe_callB (lenK K) (by rfl) B.len PySem.boot_len (pa_cons (pv 0) pa_nil)) pe_int) pa_nil))))))))))
     (pss_one (ps_ret pe_bl))
     pss_nil)
    (pss_cons (ps_for PassesOwn.never rfl (pi_tupK K (pe_slice (sl_tupK K) (pv 2) (po_some pe_int) po_none)) (pg_name (i:=3) nd rfl (Or.inl rfl))
     (pss_one (ps_if (PW.pt (pw_or (pt_not (pt_val (pe_callB (isiK K) (by rfl) C.isinstance PyProof.Rows.boot_isinstance (pa_cons (pv 3) (pa_cons (pe_ty (by rfl) B.int PyProof.Rows.boot_int) pa_nil))))) (pw_or (pt_val (pe_callB (isiK K) (by rfl) C.isinstance PyProof.Rows.boot_isinstance (pa_cons (pv 3) (pa_cons (pe_ty (by rfl) C.bool PyProof.Rows.boot_bool) pa_nil)))) (pw_or1 (pt_cmpR op_lt (pv 3) pe_int (nomark _))))))
      (pss_one (ps_ret pe_bl))
      pss_nil)))
    (pss_cons (ps_if (pt_cmpR op_ne (pe_own G_law_gcd D_law_gcd (hr.mono (by decide)) (pa_cons (pe_ix (ix_tupK K) (pv 2) pe_int (fun _ _=>rfl)) (pa_cons (pe_ix (ix_tupK K) (pv 2) pe_int (fun _ _=>rfl)) pa_nil))) pe_int (nomark _))
     (pss_one (ps_ret pe_bl))
     pss_nil)
    (pss_one (ps_ret (pe_cmpR (eqDK K hr.units) (pe_lcomp (own:=["_law_place"]) (fr:=[("_law_held",1)]) rfl (by with_unfolding_all rfl) (frOk_cons rfl rfl frOk_nil) (pi_listK K (pe_own G_law_lot D_law_lot (hr.mono (by decide)) (pa_cons (pv 0) (pa_cons (pe_ix (ix_tupK K) (pv 2) pe_int (fun _ _=>rfl)) pa_nil)))) ⟨fun _ _ _ _=>⟨(pg_name (i:=0) (show List.Nodup (["_law_place", "_law_held"]:List Str) by decide +kernel) rfl (Or.inl rfl)),(pts_one (pt_cmpR (in_seqK K) (pv 0) (pv 1) (by with_unfolding_all rfl))),(pv 0)⟩⟩) (pe_lst pa_nil) (nomark _))))))),?_⟩
  walk_at "rd";have h3:=hok.n3;have h60:=hok.n60;have hl:=hok.len;have hnl:((as.map V.ref).length:Int)=n:=by rw[List.length_map,hR.len,rowsOf_len];omega
  have no:∀ {H'},Same H H'→¬ IsLr H n ts hs v→Q (.bl false) H':=fun s h=>q false _ s ⟨fun h=>(by cases h),fun h'=>absurd h' h⟩
  refine⟨_,_,⟨rfl,rfl⟩,_,hv.ty,_,kit_plain hv (.inr (.inr rfl)),?_⟩;cases h1:isIn T "tuple" with
  | false =>
   rw[if_pos (by rfl)];refine no (Same.refl H) fun ⟨x,t,b,⟨r,e,h2,_⟩,_⟩=>?_
   subst e;cases hv with
   | lst e=>rw[e] at h2;cases h2
   | tup e=>cases h1
   | dK e=>rw[e] at h2;cases h2
   | dT e=>rw[e] at h2;cases h2
  | true =>
   rw[if_neg (by decide)];cases hv with
   | @tup a xs e =>
    walk_at "rd";refine⟨_,.inr (SqT.of e),?_⟩;have on:∀ {x t b},IsSr H n (.ref a) x t b→xs=[.int x,.int t,.int b]:=fun ⟨r',e',e2,_⟩=>by
     cases e';rw[e] at e2;injection e2 with e2
     injection e2
    by_cases hx3:xs.length=3
    ·match xs,hx3 with
     | [v0,v1,v2],_ =>
     rw[if_neg (by simp)];have pl:∀ z∈[v0,v1,v2],∃ T,Pl H z T:=fun z hz=>(hd.2 a _ rfl e z hz).pl
     obtain⟨T0,p0⟩:=pl v0 (by simp);refine⟨_,SqT.of e,_,rfl,_,.inl (SqL.of hR.top),?_⟩;rw[hnl];refine⟨v0,T0,0,n-1,rfl,p0,_,rfl,?_⟩;cases hb:betw v0 0 (n-1) with
     | false =>
      rw[if_pos (by rfl)];refine no (Same.refl H) fun ⟨x,t,b,h,_⟩=>?_
      cases on h;obtain⟨_,_,_,h⟩:=h;unfold betw at hb;simp at hb;have:=h.1;omega
     | true =>
     obtain⟨x,rfl,x0,x1⟩:=betw_intS hb;rw[if_neg (by decide),tFor_eq];walk_at "rd";refine⟨a,_,rfl,SqT.of e,fun h=>absurd h.1 (by show ¬ HT.sIx 3 0 (some 1)=0;decide),fun ps nps=>?_⟩;rw[show cutV [V.int x,v1,v2] (some 1) none=[v1,v2] from rfl];refine fresh_of nps fun H1 s1 e1=>⟨ps,rfl,⟨_,SqT.of e1⟩,for_tup (K:=K) (xs:=[v1,v2]) (inv_lirX H1 np ph a [v1,v2]) ⟨none,rfl,rfl,fun z hz=>nomatch hz⟩ ?_ ?_ ?_⟩
     ·rintro i σ Hc _ ⟨_,rfl,rfl,_⟩;exact SqT.of e1
     ·rintro i z σ Hc hz ⟨c,rfl,rfl,hin⟩;have hzm:=List.mem_of_getElem? hz;obtain⟨Tz,pz0⟩:=pl z (by simp at hzm ⊢;exact .inr hzm);have pz:=pz0.mono s1;have ei:=isI_of pz
      have bad:¬ (∃ y:Int,z=.int y∧1≤y)→¬ IsLr H n ts hs (.ref a):=fun hn ⟨x',t',b',h,_⟩=>hn (by
       have e3:=on h;obtain⟨_,_,_,ho⟩:=h;injection e3 with _ e3
       injection e3 with e3 e4
       injection e4 with e4
       simp only[List.mem_cons,List.not_mem_nil,or_false] at hzm;rcases hzm with rfl | rfl
       ·exact⟨t',e3,ho.2.1⟩
       ·exact⟨b',e4,ho.2.2.1⟩)
      walk_at "rd";refine⟨_,_,⟨rfl,rfl⟩,_,pz.ty,_,kit_plain pz (.inl rfl),?_⟩;cases h1:isIn Tz "int" with
      | false =>
       rw[if_pos (by rfl)];rw[h1,Bool.false_and] at ei;exact no s1 (bad fun ⟨y,e,_⟩=>by rw[e] at ei;cases ei)
      | true =>
       rw[if_neg (by decide)];rw[h1,Bool.true_and] at ei;refine⟨_,_,⟨rfl,rfl⟩,_,pz.ty,_,kit_plain pz (.inr (.inl rfl)),?_⟩;cases h2:isIn Tz "bool" with
       | true =>
        rw[if_pos rfl];rw[h2] at ei;exact no s1 (bad fun ⟨y,e,_⟩=>by rw[e] at ei;cases ei)
       | false =>
        rw[if_neg (by decide)];rw[h2] at ei;obtain⟨y,rfl⟩:=isI_int (v:=z) ei.symm;refine⟨y,rfl,?_⟩;by_cases hy:y<1
        ·rw[if_pos (decide_eq_true hy)];exact no s1 (bad fun ⟨y',e,h⟩=>by cases e;omega)
        ·rw[if_neg (by simpa using hy)];refine⟨_,rfl,rfl,fun u hu=>?_⟩;rw[take_snoc hz] at hu;rcases List.mem_append.mp hu with hu | hu
         ·exact hin u hu
         ·rw[List.mem_singleton.mp hu];exact⟨y,rfl,by omega⟩
     ·rintro σ Hc ⟨c,rfl,rfl,hin⟩;obtain⟨t,rfl,t1⟩:=hin v1 (by simp);obtain⟨b,rfl,b1⟩:=hin v2 (by simp)
      have fin:IsLr H n ts hs (.ref a)↔Nat.gcd t.toNat b.toNat=1∧∀ z∈x::nb ts x,z∉hs:=⟨fun ⟨x',t',b',h,k⟩=>by
       cases on h;obtain⟨_,_,_,h⟩:=h
       exact⟨h.2.2.2,k⟩,fun h=>⟨x,t,b,⟨a,rfl,e,⟨x0,x1⟩,t1,b1,h.1⟩,h.2⟩⟩
      walk_at "rd";refine⟨_,SqT.of (s1 _ _ e),_,rfl,_,SqT.of (s1 _ _ e),_,rfl,t,b,rfl,by omega,by omega,?_⟩;refine⟨rfl,?_⟩;by_cases hg:Nat.gcd t.toNat b.toNat=1
      ·rw[if_neg (by rw[hg];decide)];refine⟨_,SqT.of (s1 _ _ e),_,rfl,np,as,n,ts,x,rfl,hR.same s1,hok,x0,x1,fun l ls H2 s2 n2 e2 hpm hll=>⟨l,rfl,⟨_,SqL.of e2⟩,fun l3 n3=>lc_listF V.int (fun y=>decide (y∈hs)) V.int (by omega) (SqL.of e2) n3 ?_ ?_⟩⟩
       ·intro y hy v ys R hys hR1 hR2;walk_at "rd";exact in_use (.inr (((s1.trans s2).upd ((s1.trans s2).free n3)).seqT hph)) ⟨_,rfl,turn_ite rfl hys (by omega) hR1 hR2⟩
       ·refine fresh_of n3 fun H3 s3 e3=>⟨by decide,fun l4 n4=>fresh_of n4 fun H4 s4 e4=>eqLI (ms:=[]) (SqL.of (s4 _ _ e3)) (SqL.of e4) (q _ H4 (((s1.trans s2).trans s3).trans s4) (Iff.trans ?_ fin.symm))⟩
        rw[decide_eq_true_iff,List.filter_eq_nil_iff];constructor
        ·intro h;refine⟨hg,fun z hz hh=>?_⟩;have:z∈ls:=hpm.mem_iff.mpr (by rcases List.mem_cons.mp hz with rfl | h;simp;exact List.mem_append_left _ h);exact h z this (decide_eq_true hh)
        ·rintro⟨_,h⟩ z hz hh;have:z∈x::nb ts x:=by
          rcases List.mem_append.mp (hpm.mem_iff.mp hz) with h | h
          ·exact List.mem_cons_of_mem _ h
          ·rw[List.mem_singleton.mp h];exact List.mem_cons_self ..
         exact h z this (of_decide_eq_true hh)
      ·rw[if_pos (by simp;omega)];exact q false _ s1 ⟨fun h=>(by cases h),fun h=>absurd (fin.mp h).1 hg⟩
    ·rw[if_pos (by simp;omega)];refine no (Same.refl H) fun ⟨x,t,b,h,_⟩=>hx3 ?_
     rw[on h];rfl
   | _=>cases h1
structure RwOk (n:Int)(rs:List SRow):Prop where
 up:srUp rs
 rng:∀ r∈rs,0≤r.2.1∧r.2.1<n
 fr:∀ r∈rs,FrOk r.2.2
theorem FrOk.small {t b:Int}(t0:0<t)(t1:t<256)(b0:0<b)(b1:b<256):FrOk (t,b):=⟨t0,(Bd.of (e:=8) (by omega)).mono (by decide),b0,(Bd.of (e:=8) (by omega)).mono (by decide)⟩
def inv_las2 (Hb:Hp)(np pp ph pb pt l3:Addr)(ts:List (Int×Int))(f:Int→Int)(hs bs:List Int)(rs:List SRow)(i:Nat)(σ:St)(Hc:Hp):Prop:=∃ c d e:Option V,σ=[some (.ref np),some (.ref pp),some (.ref ph),some (.ref pb),some (.ref pt),some (.ref l3),c,d,e]∧Same Hb Hc∧∀ x,0≤x→x<(i:Int)→x∉hs→x∉bs→(lotFr ts rs x).1≤f x*(lotFr ts rs x).2
def rwAt (ts:List (Int×Int))(rs:List SRow)(x:Int):List (Int×Int):=(rs.filter fun r=>decide (x∈r.2.1::nb ts r.2.1)).map fun r=>r.2.2
def inv_las3 (Hb:Hp)(np l:Addr)(x:Int)(ts:List (Int×Int))(rs:List SRow)(j:Nat)(τ:St)(Hc:Hp):Prop:=∃ (c:Option V) (ps:List Addr),τ=[c,some (.ref np),some (.int x)]∧Same Hb Hc∧Hc l=some (.lst (ps.map V.ref))∧ps.length=(rwAt ts (rs.take j) x).length∧∀ (i:Nat) a,ps[i]?=some a→∃ u,(rwAt ts (rs.take j) x)[i]?=some u∧Hc a=some (.tup [.int u.1,.int u.2])
theorem frOf_cons {r:SRow}{rest:List SRow}{k:Int}(h:r.2.1∉rest.map fun x=>x.2.1):frOf (r::rest) k=if k=r.2.1 then some r.2.2 else frOf rest k:=by
 unfold frOf;rw[List.reverse_cons,List.find?_append];by_cases hk:k=r.2.1
 ·rw[if_pos hk];have:rest.reverse.find? (fun x=>decide (x.2.1=k))=none:=by
   rw[List.find?_eq_none];intro x hx e;exact h (List.mem_map.mpr ⟨x,List.mem_reverse.mp hx,by rw[← hk];exact of_decide_eq_true e⟩)
  rw[this];simp[hk]
 ·rw[if_neg hk];have:[r].find? (fun x=>decide (x.2.1=k))=none:=by
   simp;exact fun e=>hk e.symm
  rw[this,Option.or_none]
theorem perm_one {L:List Int}{a:Int}{t:Int×Int}{h:Int→Option (Int×Int)}(hn:h a=none):∀ (_:L.Nodup),(L.filterMap fun k=>if k=a then some t else h k).Perm ((if a∈L then [t] else [])++L.filterMap h):=by
 induction L with
 | nil=>intro _;simp
 | cons x r ih =>
  intro hnd;obtain⟨h1,h2⟩:=List.nodup_cons.mp hnd;have ih:=ih h2;by_cases hx:x=a
  ·subst hx;have hr:(if x∈r then [t] else [])=[]:=if_neg h1;rw[hr,List.nil_append] at ih;rw[List.filterMap_cons_some (b:=t) (by simp),List.filterMap_cons_none hn,if_pos List.mem_cons_self];exact ih.cons t
  ·have e1:(if a∈x::r then [t] else [])=if a∈r then [t] else []:=by
    by_cases k:a∈r
    ·rw[if_pos k,if_pos (List.mem_cons_of_mem _ k)]
    ·rw[if_neg k,if_neg fun z=>(List.mem_cons.mp z).elim (fun z=>hx z.symm) k]
   rw[e1];cases hh:h x with
   | none=>rw[List.filterMap_cons_none (by rw[if_neg hx];exact hh),List.filterMap_cons_none hh];exact ih
   | some y =>
    rw[List.filterMap_cons_some (b:=y) (by rw[if_neg hx];exact hh),List.filterMap_cons_some hh];exact (ih.cons y).trans List.perm_middle.symm
theorem frOf_none {rs:List SRow}{k:Int}(h:k∉rs.map fun x=>x.2.1):frOf rs k=none:=by
 cases e:frOf rs k with
 | none=>rfl
 | some u =>
  obtain⟨r,r1,r2,_⟩:=frOf_mem e;exact absurd (List.mem_map.mpr ⟨r,r1,r2⟩) h
theorem top_perm {L:List Int}(hL:L.Nodup):∀ (rs:List SRow),(rs.map fun x=>x.2.1).Nodup→((rs.filter fun r=>decide (r.2.1∈L)).map fun r=>r.2.2).Perm (L.filterMap (frOf rs))
 | [],_=>by
  have:L.filterMap (frOf [])=[]:=List.filterMap_eq_nil_iff.mpr fun _ _=>rfl
  rw[this];exact List.Perm.refl _
 | r::rest,h=>by
  rw[List.map_cons] at h;obtain⟨h1,h2⟩:=List.nodup_cons.mp h;have ih:=top_perm hL rest h2;have e:L.filterMap (frOf (r::rest))=L.filterMap fun k=>if k=r.2.1 then some r.2.2 else frOf rest k:=by
   congr 1;funext k;exact frOf_cons h1
  rw[e];refine List.Perm.trans ?_ (perm_one (frOf_none h1) hL).symm;by_cases k:r.2.1∈L
  ·rw[if_pos k,List.filter_cons_of_pos (by simpa using k),List.map_cons];exact ih.cons _
  ·rw[if_neg k,List.filter_cons_of_neg (by simpa using k)];exact ih
theorem rw_perm {n:Int}{ts:List (Int×Int)}{rs:List SRow}(hok:IsWeb n ts)(hup:srUp rs)(x:Int):(rwAt ts rs x).Perm ((x::nb ts x).filterMap (frOf rs)):=by
 have hL:(x::nb ts x).Nodup:=List.nodup_cons.mpr ⟨fun k=>(nb_rng hok.rng k).2.2.2.2 rfl,rising_nd (nb_lt hok.rng hok.srt x)⟩;refine List.Perm.trans (List.Perm.of_eq ?_) (top_perm hL rs (rising_nd hup));unfold rwAt;congr 1;refine List.filter_congr fun r _=>?_
 have:(x∈r.2.1::nb ts r.2.1)↔r.2.1∈x::nb ts x:=by
  rw[List.mem_cons,List.mem_cons];constructor
  ·rintro (h | h)
   ·exact .inl h.symm
   ·exact .inr ((nb_sym hok.rng).mp h)
  ·rintro (h | h)
   ·exact .inl h.symm
   ·exact .inr ((nb_sym hok.rng).mp h)
 simp only[this]
def sp_laresharesX (K:PySem.W.Frag):Sp:=fun vs H Q _=>∃ (np:Addr) (as:List Addr) (n:Int) (ts:List (Int×Int)) (pp:Addr) (f:Int→Int) (ph:Addr) (hs:List Int) (pb:Addr) (bs:List Int) (v:V) (T:String),vs=[.ref np,.ref pp,.ref ph,.ref pb,v]∧RowsAt H np as (rowsOf n ts)∧IsWeb n ts∧SqT K H pp ((rInts 0 n.toNat).map fun v=>V.int (f v))∧SqT K H ph (hs.map V.int)∧SqT K H pb (bs.map V.int)∧Pl H v T∧PlD H 2 v∧(∀ a xs,v=.ref a→H a=some (.tup xs)→xs.length<300)∧(∀ rs,IsSrs H n v rs→∀ x∈rs,FrOk x.2.2)∧(∀ x,0≤x→x<n→0≤f x∧f x≤1000)∧∀ (c:Bool) (H':Hp),Same H H'→(c=true↔IsSh H n ts f hs bs v)→Q (.bl c) H'
def inv_lasX (H:Hp)(ph np l:Addr)(n:Int)(ts:List (Int×Int))(hs:List Int)(xs:List V)(i:Nat)(τ:St)(Hc:Hp):Prop:=∃ (c:Option V) (cs:List Bool),τ=[c,some (.ref ph),some (.ref np)]∧Same H Hc∧Hc l=some (.lst (cs.map V.bl))∧cs.length=i∧(cs.all id=true↔∀ z∈xs.take i,IsLr H n ts hs z)
theorem rows_of {H:Hp}{n:Int}{ts:List (Int×Int)}{hs:List Int}:∀ {xs:List V},(∀ z∈xs,IsLr H n ts hs z)→∃ rs:List SRow,xs=rs.map (fun x=>V.ref x.1)∧∀ x∈rs,H x.1=some (.tup [.int x.2.1,.int x.2.2.1,.int x.2.2.2])∧srOk n x.2.1 x.2.2.1 x.2.2.2∧∀ z∈x.2.1::nb ts x.2.1,z∉hs
 | [],_=>⟨[],rfl,fun x hx=>nomatch hx⟩
 | z::r,h=>by
  obtain⟨rs,e,hr⟩:=rows_of (xs:=r) fun y hy=>h y (List.mem_cons_of_mem _ hy)
  obtain⟨x,t,b,⟨a,rfl,ea,ho⟩,hh⟩:=h z (List.mem_cons_self ..);refine⟨(a,x,t,b)::rs,by rw[e];rfl,fun y hy=>?_⟩;rcases List.mem_cons.mp hy with rfl | hy
  ·exact⟨ea,ho,hh⟩
  ·exact hr y hy
theorem isLr_iff {H H':Hp}{n:Int}{ts:List (Int×Int)}{hs:List Int}{z:V}{T:String}(hp:Pl H z T)(s:Same H H'):IsLr H' n ts hs z↔IsLr H n ts hs z:=by
 constructor
 ·rintro⟨x,t,b,⟨r,rfl,e,h⟩,k⟩;exact⟨x,t,b,⟨r,rfl,hp.back s e,h⟩,k⟩
 ·rintro⟨x,t,b,⟨r,rfl,e,h⟩,k⟩;exact⟨x,t,b,⟨r,rfl,s _ _ e,h⟩,k⟩
theorem sc_laresharesX:FnScope ["_law_near_here", "_law_prices_here", "_law_held", "_law_barred", "_law_thing", "_law_places", "_law_place", "_law_top", "_law_bottom"] ["_law_near_here", "_law_prices_here", "_law_held", "_law_barred", "_law_thing"] (defScope (top 34)):=⟨rfl,rfl,rfl,by decide +kernel,rfl,by decide +kernel,by decide +kernel⟩
theorem ok_laresharesX {f:Addr}{fd:FuncData}(F:Fun K "_law_are_shares" "_law_are_shares" (top 34) f fd)(B:Bt mg){f1:Addr}{fd1:FuncData}{st1:Stmt}(D_law_is_row:Df K mg "_law_is_row" st1 f1 fd1 ["_law_near_here", "_law_held", "_law_thing"])(G_law_is_row:FnOk P w K mg base CX0 3 f1 fd1 ["_law_near_here", "_law_held", "_law_thing"] (sp_lisrowX K)){f2:Addr}{fd2:FuncData}{st2:Stmt}(D_law_lot:Df K mg "_law_lot" st2 f2 fd2 ["_law_near_here", "_law_p"])(G_law_lot:FnOk P w K mg base CX0 1 f2 fd2 ["_law_near_here", "_law_p"] (sp_llot K)){f3:Addr}{fd3:FuncData}{st3:Stmt}(D_law_sum:Df K mg "_law_sum" st3 f3 fd3 ["_law_fractions"])(G_law_sum:FnOk P w K mg base CX0 1 f3 fd3 ["_law_fractions"] sp_lsumG)(C:Bt2 mg):FnOk P w K mg base CX0 4 f fd ["_law_near_here", "_law_prices_here", "_law_held", "_law_barred", "_law_thing"] (sp_laresharesX K):=by
 refine F.ok sc_laresharesX (fun vs H Q E h=>?_) (fun cdv A outer s H vs Q E hr h=>?_)
 ·obtain⟨np,as,n,ts,pp,f,ph,hs,pb,bs,v,T,rfl,hR,hok,hpp,hph,hpb,hv,hd,hlen,hbig,hpr,q⟩:=h;rfl
 ·obtain⟨np,as,n,ts,pp,f,ph,hs,pb,bs,v,T,rfl,hR,hok,hpp,hph,hpb,hv,hd,hlen,hbig,hpr,q⟩:=h;have nd:=sc_laresharesX.nd;have hu:=hu_of hr
  refine⟨_,(pss_cons (ps_if (PW.pt (pw_or (pt_not (pt_val (pe_callB (isiK K) (by rfl) C.isinstance PyProof.Rows.boot_isinstance (pa_cons (pv 4) (pa_cons (pe_ty (by rfl) B.tuple PyProof.Rows.boot_tuple) pa_nil))))) (pw_or1 (pt_not (pt_val (pe_callB (allK K hr.hd) (by rfl) C.all PyProof.Rows.boot_all (pa_cons (pe_lcomp (own:=["_law_row"]) (fr:=[("_law_held",2),("_law_near_here",0)]) rfl (by with_unfolding_all rfl) (frOk_cons rfl rfl (frOk_cons rfl rfl frOk_nil)) (pi_tupK K (pv 4)) ⟨fun _ _ _ _=>⟨(pg_name (i:=0) (show List.Nodup (["_law_row", "_law_held", "_law_near_here"]:List Str) by decide +kernel) rfl (Or.inl rfl)),pts_nil,(pe_own G_law_is_row D_law_is_row (hr.mono (by decide)) (pa_cons (pv 2) (pa_cons (pv 1) (pa_cons (pv 0) pa_nil))))⟩⟩) pa_nil)))))))
     (pss_one (ps_ret pe_bl))
     pss_nil)
    (pss_cons (ps_setLC (i:=5) (own:=["_law_row"]) (fr:=[]) rfl nd rfl rfl (by with_unfolding_all rfl) (by with_unfolding_all rfl) frOk_nil (pi_tupK K (pv 4)) ⟨fun _ _ _ _=>⟨(pg_name (i:=0) (show List.Nodup (["_law_row"]:List Str) by decide +kernel) rfl (Or.inl rfl)),pts_nil,(pe_ix (ix_tupK K) (pv 0) pe_int (fun _ _=>rfl))⟩⟩)
    (pss_cons (ps_if (pt_cmpR (neDK K hr.units) (pv 5) (pe_sortset K hr.hd (by rfl) B.sorted PyProof.Rows.boot_sorted (by rfl) C.set PyProof.Rows.boot_set (pa_cons (pv 5) pa_nil)) (nomark _))
     (pss_one (ps_ret pe_bl))
     pss_nil)
    (pss_cons (ps_for PassesOwn.never rfl (pi_range1 (by rfl) B.range (pa_cons (pe_callB (lenK K) (by rfl) B.len PySem.boot_len (pa_cons (pv 0) pa_nil)) pa_nil)) (pg_name (i:=6) nd rfl (Or.inr rfl))
     (pss_one (ps_if (PW.pt (pw_and (pt_cmpR (notIn_seqK K) (pv 6) (pv 2) (by with_unfolding_all rfl)) (pw_and1 (pt_cmpR (notIn_seqK K) (pv 6) (pv 3) (by with_unfolding_all rfl)))))
      (pss_cons (ps_asg (pe_own G_law_sum D_law_sum (hr.mono (by decide)) (pa_cons (pe_lcomp (own:=["_law_row"]) (fr:=[("_law_near_here",0),("_law_place",6)]) rfl (by with_unfolding_all rfl) (frOk_cons rfl rfl (frOk_cons rfl rfl frOk_nil)) (pi_tupK K (pv 4)) ⟨fun _ _ _ _=>⟨(pg_name (i:=0) (show List.Nodup (["_law_row", "_law_near_here", "_law_place"]:List Str) by decide +kernel) rfl (Or.inl rfl)),(pts_one (pt_cmpR (in_seqK K) (pv 2) (pe_own G_law_lot D_law_lot (hr.mono (by decide)) (pa_cons (pv 1) (pa_cons (pe_ix (ix_tupK K) (pv 0) pe_int (fun _ _=>rfl)) pa_nil))) (by with_unfolding_all rfl))),(pe_slice (sl_tupK K) (pv 0) (po_some pe_int) po_none)⟩⟩) pa_nil)) (pg_tupK K (n:=2) rfl (pgs_cons (pg_name (i:=7) nd rfl (Or.inl rfl)) (pgs_cons (pg_name (i:=8) nd rfl (Or.inl rfl)) pgs_nil))))
      (pss_one (ps_if (pt_cmpR op_gt (pv 7) (pe_op op_mul (pe_ix (ix_tupK K) (pv 1) (pv 6) (fun _ _=>rfl)) (pv 8)) (nomark _))
       (pss_one (ps_ret pe_bl))
       pss_nil)))
      pss_nil)))
    (pss_one (ps_ret pe_bl)))))),?_⟩
  walk_at "rd";have h3:=hok.n3;have h60:=hok.n60;have hl:=hok.len;have no:∀ {H'},Same H H'→¬ IsSh H n ts f hs bs v→Q (.bl false) H':=fun s h=>q false _ s ⟨fun h=>(by cases h),fun h'=>absurd h' h⟩
  refine⟨_,_,⟨rfl,rfl⟩,_,hv.ty,_,kit_plain hv (.inr (.inr rfl)),?_⟩;cases h1:isIn T "tuple" with
  | false =>
   rw[if_pos (by rfl)];refine no (Same.refl H) fun ⟨p,rs,e,h2,_⟩=>?_
   subst e;have h2:=h2.top;cases hv with
   | lst e=>rw[e] at h2;cases h2
   | tup e=>cases h1
   | dK e=>rw[e] at h2;cases h2
   | dT e=>rw[e] at h2;cases h2
  | true =>
   rw[if_neg (by decide)];cases hv with
   | @tup pt xs e0 =>
    walk_at "rd";have hxl:=hlen pt xs rfl e0;refine⟨⟨_,SqT.of e0⟩,fun l1 n1=>lc_tup (K:=K) (xs:=xs) (inv_lasX H ph np l1 n ts hs xs) ⟨none,[],rfl,(Same.refl H).upd n1,upd_same,rfl,by simp⟩ ?_ ?_ ?_⟩
    ·rintro i τ Hc _ ⟨_,_,rfl,sc,_⟩;exact SqT.of (sc _ _ e0)
    ·rintro i z τ Hc hz ⟨c,cs,rfl,sc,hc,hcl,hcs⟩;have hzm:=List.mem_of_getElem? hz;have hil:=(List.getElem?_eq_some_iff.mp hz).1;have hzd:=hd.2 pt xs rfl e0 z hzm;obtain⟨Tz,hTz⟩:=hzd.pl;walk_at "rd";refine⟨np,as,n,ts,ph,hs,z,Tz,rfl,hR.same sc,hok,sc.seqT hph,hTz.mono sc,hzd.mono sc,fun b Hd sd hb=>⟨_,sd _ _ hc,by rw[List.length_map];exact sizeBig (by omega),_,cs++[b],rfl,(sc.trans sd).upd n1,by rw[upd_same,List.map_append];rfl,by rw[List.length_append,List.length_singleton,hcl],?_⟩⟩;rw[isLr_iff hTz sc] at hb;rw[take_snoc hz,List.all_append,Bool.and_eq_true,hcs];simp only[List.all_cons,List.all_nil,Bool.and_true,id,hb,List.mem_append,List.mem_singleton];constructor
     ·rintro⟨h1,h2⟩ r (hr | rfl)
      ·exact h1 r hr
      ·exact h2
     ·intro h;exact⟨fun r hr=>h r (.inl hr),h z (.inr rfl)⟩
    ·rintro τ H2 ⟨c,cs,rfl,s2,e2,hcl,hcs⟩;rw[List.take_length] at hcs;refine⟨cs,SqL.of e2,?_⟩;by_cases hall:cs.all id=true
     ·rw[if_neg (by simp[hall])];obtain⟨rs,rfl,hrr⟩:=rows_of (hcs.mp hall);rw[List.length_map] at hxl;have hpt:SrAt H pt rs:=⟨e0,fun x hx=>(hrr x hx).1⟩
      have fin:IsSh H n ts f hs bs (.ref pt)↔ShG n ts f hs bs rs:=⟨fun ⟨p',rs',e',h',g⟩=>by
       cases e';have e2:=hpt.top;rw[h'.top] at e2;injection e2 with e2
       injection e2 with e2
       rw[← rows_uniq e2 h'.row hpt.row];exact g,fun g=>⟨pt,rs,rfl,hpt,g⟩⟩
      refine⟨⟨_,SqT.of (s2 _ _ hpt.top)⟩,fun l3 n3=>lc_tupF (fun x:SRow=>V.ref x.1) (fun _=>true) (fun x=>V.int x.2.1) (by omega) (SqT.of (s2 _ _ hpt.top)) n3 ?_ ?_⟩
      ·intro x hx v ys R hyl hR1 hR2;have sm:=s2.upd (o:=.lst ys) (s2.free n3);walk_at "rd";exact⟨_,SqT.of (sm _ _ (hpt.row x hx)),_,rfl,turn_yes hyl (by omega) hR1⟩
      ·rw[fil_true];refine fresh_of n3 fun H3 s3 e3=>?_
       have e3':H3 l3=some (.lst ((rs.map fun x=>x.2.1).map V.int)):=by rw[e3,List.map_map];rfl
       have s13:=s2.trans s3;refine⟨rs.map fun x=>x.2.1,.inl (SqL.of e3'),by rw[List.length_map];omega,(fun x hx=>by obtain⟨r,hr,rfl⟩:=List.mem_map.mp hx;have:=(hrr r hr).2.1.1;omega),fun ns' l4 h1 h2 n4=>fresh_of n4 fun H4 s4 e4=>?_⟩;by_cases hup:srUp rs
       ·have hg:∀ r∈rs,Nat.gcd r.2.2.1.toNat r.2.2.2.toNat=1∧∀ z∈r.2.1::nb ts r.2.1,z∉hs:=fun r hr=>⟨(hrr r hr).2.1.2.2.2,(hrr r hr).2.2⟩
        have hrs:RwOk n rs:=⟨hup,fun r hr=>(hrr r hr).2.1.1,hbig rs ⟨pt,rfl,hpt,fun r hr=>(hrr r hr).2.1,hup⟩⟩
        have hrl:rs.length≤n.toNat:=by
         have:=nd_len (rising_nd (l:=rs.map fun x=>x.2.1) (by unfold srUp at hup;exact hup)) (n:=n) fun y hy=>by obtain⟨r,hr,rfl⟩:=List.mem_map.mp hy;exact hrs.rng r hr
         rw[List.length_map] at this;omega
        have q:∀ (c:Bool) (H':Hp),Same H H'→(c=true↔ShG n ts f hs bs rs)→Q (.bl c) H':=fun c H' s h=>q c H' s (h.trans fin.symm)
        clear no;cases rising_ext h1 (by unfold srUp at hup;exact hup) h2;refine neLI (SqL.of (s4 _ _ e3')) (SqL.of e4) ⟨_,rfl,?_⟩;rw[if_neg (by simp)];have s14:=(s2.trans s3).trans s4;rw[tFor_eq];walk_at "rd";refine⟨_,.inl (SqL.of (hR.same s14).top),?_⟩;have hnl:(((as.map V.ref).length:Nat):Int)=n:=by
         rw[List.length_map,hR.len,rowsOf_len];omega
        rw[hnl];refine⟨by omega,by omega,for_range (lo:=0) (n:=n.toNat) (inv_las2 H4 np pp ph pb pt l3 ts f hs bs rs) ⟨none,none,none,rfl,Same.refl H4,fun x x0 x1=>(by omega)⟩ ?_ ?_⟩
        ·rintro i σ Hc hi ⟨c,d,e,rfl,sc,hin⟩;have s1c:=s14.trans sc;walk_at "rd"
         have nxt:∀ {Hd:Hp} (v1 v2 v3:Option V),Same Hc Hd→((0+(i:Int))∉hs→(0+(i:Int))∉bs→(lotFr ts rs (0+(i:Int))).1≤f (0+(i:Int))*(lotFr ts rs (0+(i:Int))).2)→inv_las2 H4 np pp ph pb pt l3 ts f hs bs rs (i+1) [some (.ref np),some (.ref pp),some (.ref ph),some (.ref pb),some (.ref pt),some (.ref l3),v1,v2,v3] Hd:=fun v1 v2 v3 sd h=>⟨v1,v2,v3,rfl,sc.trans sd,fun x x0 x1 a1 a2=>by
          rcases Int.lt_or_le x (i:Int) with k | k
          ·exact hin x x0 k a1 a2
          ·have e:x=0+(i:Int):=by omega
           rw[e] at a1 a2 ⊢
           exact h a1 a2⟩
         refine notin_use (.inr (s1c.seqT hph)) ⟨_,rfl,?_⟩;by_cases hh:(0+(i:Int))∈hs
         ·rw[if_neg (by simpa using hh)];exact nxt _ _ _ (Same.refl Hc) fun h=>absurd hh h
         rw[if_pos (by simpa using hh)];refine notin_use (.inr (s1c.seqT hpb)) ⟨_,rfl,?_⟩;by_cases hb:(0+(i:Int))∈bs
         ·rw[if_neg (by simpa using hb)];exact nxt _ _ _ (Same.refl Hc) fun _ h=>absurd hb h
         rw[if_pos (by simpa using hb)];generalize hxi:(0+(i:Int))=x at *
         have x0:0≤x:=by omega
         have x1:x<n:=by omega
         refine⟨⟨_,SqT.of (s1c _ _ hpt.top)⟩,fun l5 n5=>lc_tup (K:=K) (xs:=rs.map fun x=>V.ref x.1) (inv_las3 Hc np l5 x ts rs) ⟨none,[],rfl,(Same.refl Hc).upd n5,upd_same,rfl,fun j a h=>(by cases h)⟩ ?_ ?_ ?_⟩
         ·rintro j τ Hd _ ⟨_,_,rfl,sd,_⟩;exact SqT.of ((s1c.trans sd) _ _ hpt.top)
         ·rintro j v τ Hd hv ⟨c2,ps,rfl,sd,hd,hpl,hps⟩;rw[List.getElem?_map] at hv;cases hr0:rs[j]? with
          | none=>rw[hr0] at hv;cases hv
          | some r =>
          rw[hr0] at hv;cases Option.some.inj hv;have hrm:=List.mem_of_getElem? hr0;have s1d:=s1c.trans sd;obtain⟨r0,r1⟩:=hrs.rng r hrm;walk_at "rd";refine⟨_,SqT.of (s1d _ _ (hpt.row r hrm)),_,rfl,np,as,n,ts,r.2.1,rfl,hR.same s1d,hok,r0,r1,fun l6 ls H6 s6 n6 e6 hpm hll=>?_⟩;have hmem:x∈ls↔x∈r.2.1::nb ts r.2.1:=by
           rw[hpm.mem_iff,List.mem_append,List.mem_singleton,List.mem_cons];exact or_comm
          refine in_use (.inl (SqL.of e6)) ⟨_,rfl,?_⟩;by_cases hxl:x∈ls
          ·rw[if_pos (decide_eq_true hxl)];refine⟨r.1,_,rfl,SqT.of ((s1d.trans s6) _ _ (hpt.row r hrm)),fun h=>absurd h.1 (by show ¬ HT.sIx 3 0 (some 1)=0;decide),fun p7 n7=>?_⟩;rw[show cutV [V.int r.2.1,V.int r.2.2.1,V.int r.2.2.2] (some 1) none=[V.int r.2.2.1,V.int r.2.2.2] from rfl];have hsn:rwAt ts (rs.take (j+1)) x=rwAt ts (rs.take j) x++[r.2.2]:=by
            unfold rwAt;rw[take_snoc hr0,List.filter_append,List.map_append,List.filter_cons_of_pos (by simpa using hmem.mp hxl)];rfl
           have hrwl:(rwAt ts (rs.take j) x).length≤60:=by
            unfold rwAt;rw[List.length_map];exact Nat.le_trans (List.length_filter_le _ _) (by rw[List.length_take];omega)
           have hd6:=at_new (u:=HO.tup [V.int r.2.2.1,V.int r.2.2.2]) (s6 _ _ hd) n7;refine⟨_,hd6,by rw[List.length_map];exact sizeBig (by omega),_,ps++[p7],rfl,((sd.trans s6).upd ((sd.trans s6).free n7)).upd n5,by rw[upd_same,List.map_append];rfl,by rw[hsn,List.length_append,List.length_append,hpl];rfl,fun i0 a0 h0=>?_⟩;have tl:=(Tp.nw (o:=HO.tup [V.int r.2.2.1,V.int r.2.2.2]) n7).trans (Tp.lst (o:=HO.lst (ps.map V.ref++[V.ref p7])) hd6);rw[hsn];rcases Nat.lt_or_ge i0 ps.length with hi0 | hi0
           ·rw[List.getElem?_append_left hi0] at h0;obtain⟨u1,e1,e2⟩:=hps i0 a0 h0;exact⟨u1,by rw[List.getElem?_append_left (by omega)];exact e1,(s6.tp.trans tl) _ _ e2⟩
           ·have hi1:i0-ps.length=0:=by
             have:=(List.getElem?_eq_some_iff.mp h0).1;rw[List.length_append,List.length_singleton] at this;omega
            rw[List.getElem?_append_right hi0,hi1] at h0;cases h0;exact⟨r.2.2,by rw[List.getElem?_append_right (by omega),show i0-_=0 by omega];rfl,Tp.lst hd6 _ _ upd_same⟩
          ·rw[if_neg (by simpa using hxl)];have hsn:rwAt ts (rs.take (j+1)) x=rwAt ts (rs.take j) x:=by
            unfold rwAt;rw[take_snoc hr0,List.filter_append,List.filter_cons_of_neg (by simpa using fun h=>hxl (hmem.mpr h))];simp
           refine⟨_,ps,rfl,sd.trans s6,s6 _ _ hd,by rw[hsn];exact hpl,fun i0 a0 h0=>?_⟩;obtain⟨u1,e1,e2⟩:=hps i0 a0 h0;exact⟨u1,by rw[hsn];exact e1,s6 _ _ e2⟩
         ·rintro τ H5 ⟨c2,ps,rfl,s5,e5,hpl,hps⟩;rw[List.length_map,List.take_length] at hpl hps;have hrwl:(rwAt ts rs x).length≤60:=by
           unfold rwAt;rw[List.length_map];exact Nat.le_trans (List.length_filter_le _ _) (by omega)
          refine⟨l5,ps,rwAt ts rs x,rfl,e5,hps,hpl,by omega,fun u hu=>?_,fun pa H6 s6 na ea=>?_⟩
          ·obtain⟨r,hr,rfl⟩:=List.mem_map.mp hu;exact (hrs.fr r (List.mem_filter.mp hr).1).b
          ·have s56:=s5.trans s6;rw[frSum_perm (rw_perm hok hrs.up x)] at ea;have ea:H6 pa=some (.tup [.int (lotFr ts rs x).1,.int (lotFr ts rs x).2]):=ea;have ea2:atI (List.map (fun v=>V.int (f v)) (rInts 0 n.toNat)) x=some (V.int (f x)):=by
            have:=atI_nat (xs:=List.map (fun v=>V.int (f v)) (rInts 0 n.toNat)) (j:=x.toNat) (v:=V.int (f x)) (by
             rw[List.getElem?_map,rInts_get (by omega)];show some (V.int (f (0+(x.toNat:Int))))=_
             rw[show (0+(x.toNat:Int))=x by omega])
            rwa [Int.toNat_of_nonneg x0] at this
           have hpx:=hpr x x0 x1;refine⟨pa,rfl,_,SqT.of ea,rfl,_,_,rfl,_,_,rfl,rfl,_,(s1c.trans s56).seqT hpp,_,ea2,_,rfl,_,rfl,.inl ⟨by omega,by omega⟩,_,rfl,?_⟩;by_cases hle:(lotFr ts rs x).1≤f x*(lotFr ts rs x).2
           ·rw[if_neg (by rw[decide_eq_true_iff];exact Int.not_lt.mpr hle)];exact nxt _ _ _ s56 fun _ _=>hle
           ·rw[if_pos (by rw[decide_eq_true_iff];exact Int.not_le.mp hle)];exact q false H6 (s1c.trans s56) ⟨fun h=>(by cases h),fun h=>absurd (h.2.2 x x0 x1 hh hb) hle⟩
        ·rintro σ Hc ⟨c,d,e,rfl,sc,hin⟩;walk_at "rd";refine q true Hc (s14.trans sc) ⟨fun _=>⟨⟨fun r hr=>⟨hrs.rng r hr,by have:=(hrs.fr r hr).1;omega,by have:=(hrs.fr r hr).2.2.1;omega,(hg r hr).1⟩,hrs.up⟩,fun r hr=>(hg r hr).2,fun x x0 x1 a1 a2=>hin x x0 (by omega) a1 a2⟩,fun _=>rfl⟩
       ·refine neLI (SqL.of (s4 _ _ e3')) (SqL.of e4) ⟨_,rfl,?_⟩
        rw[if_pos (by
         rw[Bool.not_eq_true',decide_eq_false_iff_not];intro e
         exact hup (by unfold srUp;rw[e];exact h1))]
        exact no (s13.trans s4) fun h=>hup (fin.mp h).1.2
     ·rw[if_pos (by simp[hall])];refine no s2 fun ⟨p',rs',e',h',g⟩=>hall (hcs.mpr fun z hz=>?_)
      cases e';have e2:=h'.top;rw[e0] at e2;injection e2 with e2
      injection e2 with e2
      rw[e2] at hz;obtain⟨r,hr,rfl⟩:=List.mem_map.mp hz;exact⟨r.2.1,r.2.2.1,r.2.2.2,⟨r.1,rfl,h'.row r hr,g.1.1 r hr⟩,g.2.1 r hr⟩
   | _=>cases h1
def sp_odd22:Sp:=fun vs H Q _=>∃ (A:Addr→Prop),vs=[]∧Av A H∧∀ (p:Addr) (xs:List V) (H':Hp),Same H H'→H p=none→H' p=some (.lst xs)→xs.length=14→(∀ x∈xs,(∃ c,Tg (hid A H') c 1 6 x)∧(∀ i,x=.int i→Bd 200 i)∧∀ a ys,x=.ref a→H' a=some (.tup ys)→∀ z∈ys,∃ i,z=.int i)→Q (.ref p) H'
theorem sm_40:Sm (10 ^ (40:Int).toNat):=⟨by decide +kernel,by rw[PyData.shown_int];decide +kernel⟩
theorem sc_odd22:FnScope [] [] (defScope (top 30)):=⟨rfl,rfl,rfl,by decide +kernel,rfl,by decide +kernel,by decide +kernel⟩
theorem ok_odd22 {f:Addr}{fd:FuncData}(F:Fun K "_law_odd" "_law_odd" (top 30) f fd)(B:Bt mg):FnOk P w K mg base CX0 1 f fd [] sp_odd22:=by
 refine F.ok sc_odd22 (fun vs H Q E h=>?_) (fun cdv A outer s H vs Q E hr h=>?_)
 ·obtain⟨Av0,rfl,hd,q⟩:=h;rfl
 ·obtain⟨Av0,rfl,hd,q⟩:=h;have nd:=sc_odd22.nd;have hu:=hu_of hr;refine⟨_,(@pss_one _ _ _ (ps_ret (@pe_lst _ _ _ _ (@pa_cons _ _ _ _ _ pe_non (@pa_cons _ _ _ _ _ pe_bl (@pa_cons _ _ _ _ _ pe_bl (@pa_cons _ _ _ _ _ pe_str (@pa_cons _ _ _ _ _ pe_str (@pa_cons _ _ _ _ _ (pe_un un_neg pe_int) (@pa_cons _ _ _ _ _ (@pe_lst _ _ _ _ (@pa_cons _ _ _ _ _ pe_int pa_nil (by rfl))) (@pa_cons _ _ _ _ _ (@pe_tup _ _ _ _ _ (@pa_cons _ _ _ _ _ pe_int pa_nil (by rfl))) (@pa_cons _ _ _ _ _ pe_dnewK (@pa_cons _ _ _ _ _ pe_int (@pa_cons _ _ _ _ _ (@pe_tup _ _ _ _ _ pa_nil) (@pa_cons _ _ _ _ _ pe_str (@pa_cons _ _ _ _ _ (@pe_lst _ _ _ _ pa_nil) (@pa_cons _ _ _ _ _ (@pe_op _ _ _ _ _ _ _ _ op_pow pe_int pe_int) pa_nil (by rfl)) (by rfl)) (by rfl)) (by rfl)) (by rfl)) (by rfl)) (by rfl)) (by rfl)) (by rfl)) (by rfl)) (by rfl)) (by rfl)) (by rfl)) (by rfl))))),?_⟩;walk_at "rd";refine⟨by decide,fun a1 n1=>fresh_of n1 fun H1 s1 e1=>⟨by decide,fun a2 n2=>fresh_of n2 fun H2 s2 e2=>fun a3 n3=>fresh_of n3 fun H3 s3 e3=>⟨by decide,fun a4 n4=>fresh_of n4 fun H4 s4 e4=>⟨by decide,fun a5 n5=>fresh_of n5 fun H5 s5 e5=>⟨by unfold CPow;decide,by decide,fun a6 n6=>fresh_of n6 fun H6 s6 e6=>?_⟩⟩⟩⟩⟩;have t5:=s5.trans s6;have t4:=s4.trans t5;have t3:=s3.trans t4;have t2:=s2.trans t3;have S1:=s1;have S2:=S1.trans s2;have S3:=S2.trans s3;have S4:=S3.trans s4;have S5:=S4.trans s5;have at':∀ {G:Hp} {a:Addr} {o:HO},Same H G→G a=none→H6 a=some o→hid Av0 H6 a=some o:=fun s n e=>by rw[hid_ne ((hd.same s).new n)];exact e
  have f1:=at' (Same.refl H) n1 (t2 _ _ e1);have f2:=at' S1 n2 (t3 _ _ e2);have f3:=at' S2 n3 (t4 _ _ e3);have f4:=at' S3 n4 (t5 _ _ e4);have f5:=at' S4 n5 (s6 _ _ e5);have one:∀ x∈[V.int 0],∀ c,Tg (hid Av0 H6) c 0 0 x:=fun x hx c=>by rw[List.mem_singleton.mp hx];exact .int (sm_of (by decide))
  refine q a6 _ H6 (S5.trans s6) (S5.free n6) e6 rfl fun x hx=>?_
  simp only[List.mem_cons,List.not_mem_nil,or_false] at hx;have nt:∀ {a:Addr} {o:HO},(∀ ys,o=.tup ys→∀ z∈ys,∃ i,z=V.int i)→hid Av0 H6 a=some o→∀ b ys,V.ref a=.ref b→H6 b=some (.tup ys)→∀ z∈ys,∃ i,z=V.int i:=fun h e b ys eb e2=>by
   cases eb;have:=hid_in _ _ e;rw[e2] at this;exact h ys (Option.some.inj this).symm
  rcases hx with rfl | rfl | rfl | rfl | rfl | rfl | rfl | rfl | rfl | rfl | rfl | rfl | rfl | rfl
  ·exact⟨⟨0,.non⟩,(fun i e=>nomatch e),fun a ys e=>nomatch e⟩
  ·exact⟨⟨0,.bl⟩,(fun i e=>nomatch e),fun a ys e=>nomatch e⟩
  ·exact⟨⟨0,.bl⟩,(fun i e=>nomatch e),fun a ys e=>nomatch e⟩
  ·exact⟨⟨0,.str (by decide +kernel) (by decide +kernel)⟩,(fun i e=>nomatch e),fun a ys e=>nomatch e⟩
  ·exact⟨⟨0,.str (by decide +kernel) (by decide +kernel)⟩,(fun i e=>nomatch e),fun a ys e=>nomatch e⟩
  ·exact⟨⟨0,.int (sm_of (by decide))⟩,(fun i e=>by cases e;exact Bd.of (e:=200) (by decide)),fun a ys e=>nomatch e⟩
  ·exact⟨⟨2,(Tg.lst f1 fun x hx=>one x hx 2).mono (by decide) (by decide)⟩,(fun i e=>nomatch e),nt (fun ys h=>(by cases h)) f1⟩
  ·exact⟨⟨0,(Tg.tup f2 fun x hx=>one x hx 0).mono (by decide) (by decide)⟩,(fun i e=>nomatch e),nt (fun ys h=>by cases h;exact fun z hz=>⟨0,List.mem_singleton.mp hz⟩) f2⟩
  ·exact⟨⟨1,.dict0 f3⟩,(fun i e=>nomatch e),nt (fun ys h=>(by cases h)) f3⟩
  ·exact⟨⟨0,.int (sm_of (by decide))⟩,(fun i e=>by cases e;exact Bd.of (e:=200) (by decide)),fun a ys e=>nomatch e⟩
  ·exact⟨⟨0,(Tg.tup (k:=0) (m:=0) f4 fun x hx=>nomatch hx).mono (by decide) (by decide)⟩,(fun i e=>nomatch e),nt (fun ys h=>by cases h;exact fun z hz=>nomatch hz) f4⟩
  ·exact⟨⟨0,.str (by decide +kernel) (by decide +kernel)⟩,(fun i e=>nomatch e),fun a ys e=>nomatch e⟩
  ·exact⟨⟨2,(Tg.lst (k:=0) (m:=0) f5 fun x hx=>nomatch hx).mono (by decide) (by decide)⟩,(fun i e=>nomatch e),nt (fun ys h=>(by cases h)) f5⟩
  ·exact⟨⟨0,.int sm_40⟩,(fun i e=>by cases e;exact Bd.of (e:=200) (by decide)),fun a ys e=>nomatch e⟩
def shareOf (lt:List Int)(f:Int→Int)(hs bs:List Int):Int:=if (lt.any fun x=>decide (x∈hs))=true then 0 else (((lt.filter fun x=>!decide (x∈bs)).map f).min?).getD 0
theorem min_of {l:List Int}{m:Int}(h:m∈l)(hm:∀ x∈l,m≤x):l.min?.getD 0=m:=by
 have:l.min?=some m:=List.min?_eq_some_iff.mpr ⟨h,hm⟩;rw[this];rfl
def rzStep (ts:List (Int×Int))(hs bs:List Int)(s:(Int→Int)×List (Int×Int))(p:Int):(Int→Int)×List (Int×Int) :=
 if 0<shareOf (p::nb ts p) s.1 hs bs then (fun v=>s.1 v-if v∈p::nb ts p then shareOf (p::nb ts p) s.1 hs bs else 0,s.2++[(p,shareOf (p::nb ts p) s.1 hs bs)]) else s
def rzOf (ts:List (Int×Int))(f:Int→Int)(hs bs ks:List Int):(Int→Int)×List (Int×Int):=ks.foldl (rzStep ts hs bs) (f,[])
theorem rzOf_snoc {ts:List (Int×Int)}{f:Int→Int}{hs bs ks:List Int}{p:Int}:rzOf ts f hs bs (ks++[p])=rzStep ts hs bs (rzOf ts f hs bs ks) p:=by
 unfold rzOf;rw[List.foldl_append];rfl
theorem set_map {n x:Int}{g:Int→Int}{y:Int}(h0:0≤x)(h1:x<n):((rInts 0 n.toNat).map fun v=>V.int (g v)).set x.toNat (V.int y)=(rInts 0 n.toNat).map fun v=>V.int (if v=x then y else g v):=by
 refine List.ext_getElem? fun j=>?_
 rw[List.getElem?_set,List.getElem?_map,List.getElem?_map,List.length_map,rInts_length];rcases Nat.lt_or_ge j n.toNat with h | h
 ·rw[rInts_get h];by_cases hj:x.toNat=j
  ·rw[if_pos hj,if_pos (by omega)];show some (V.int y)=some (V.int (if (0:Int)+(j:Int)=x then y else g ((0:Int)+(j:Int))));rw[if_pos (by omega)]
  ·rw[if_neg hj];show some (V.int (g ((0:Int)+(j:Int))))=some (V.int (if (0:Int)+(j:Int)=x then y else g ((0:Int)+(j:Int))));rw[if_neg (by omega)]
 ·rw[List.getElem?_eq_none (by rw[rInts_length];exact h),if_neg (by omega)];rfl
def sp_lraised (K:PySem.W.Frag):Sp:=fun vs H Q _=>∃ (np:Addr) (as:List Addr) (n:Int) (ts:List (Int×Int)) (pp:Addr) (f:Int→Int) (ph:Addr) (hs:List Int) (pb:Addr) (bs:List Int) (po:Addr) (ks:List Int),vs=[.ref np,.ref pp,.ref ph,.ref pb,.ref po]∧RowsAt H np as (rowsOf n ts)∧IsWeb n ts∧SqT K H pp ((rInts 0 n.toNat).map fun v=>V.int (f v))∧(∀ x,0≤f x)∧SqT K H ph (hs.map V.int)∧SqT K H pb (bs.map V.int)∧SqT K H po (ks.map V.int)∧ks.Perm (rInts 0 n.toNat) ∧
 ∀ (p:Addr) (rows:List (Int×Int)) (H':Hp),Same H H'→H p=none→TrAt H' p rows→rows.Perm (rzOf ts f hs bs ks).2→rows.Pairwise (fun a b=>a.1≤b.1)→Q (.ref p) H'
theorem share_le {lt:List Int}{g:Int→Int}{hs bs:List Int}{x:Int}(h:0<shareOf lt g hs bs)(hx:x∈lt)(hb:x∉bs):shareOf lt g hs bs≤g x:=by
 unfold shareOf at h ⊢;split
 ·rename_i k;rw[if_pos k] at h;omega
 ·have hm:g x∈(lt.filter fun x=>!decide (x∈bs)).map g:=List.mem_map.mpr ⟨x,List.mem_filter.mpr ⟨hx,by simpa using hb⟩,rfl⟩;cases e:((lt.filter fun x=>!decide (x∈bs)).map g).min? with
  | none=>rw[List.min?_eq_none_iff] at e;rw[e] at hm;cases hm
  | some m=>exact (List.min?_eq_some_iff.mp e).2 _ hm
theorem rz_nn {ts:List (Int×Int)}{f:Int→Int}{hs bs:List Int}(hf:∀ x,0≤f x):∀ (ks:List Int) (s:(Int→Int)×List (Int×Int)),(∀ v,v∉bs→0≤s.1 v)→∀ v,v∉bs→0≤(ks.foldl (rzStep ts hs bs) s).1 v
 | [],s,h,v,hv=>h v hv
 | p::r,s,h,v,hv=>by
  rw[List.foldl_cons];refine rz_nn hf r _ (fun x hx=>?_) v hv;unfold rzStep;split
  ·rename_i hp;show 0≤s.1 x-if x∈p::nb ts p then _ else 0
   split
   ·rename_i hm;have:=share_le hp hm hx;omega
   ·have:=h x hx;omega
  ·exact h x hx
structure LrAt (H Hc:Hp)(lf ra:Addr)(n:Int)(ts:List (Int×Int))(f g:Int→Int)(hs bs:List Int)(ps:List (Addr×List Int))(ks:List Int)(i:Nat):Prop where
 same:Same H Hc
 left:Hc lf=some (.lst ((rInts 0 n.toNat).map fun v=>V.int (g v)))
 agree:∀ v,0≤v→v<n→v∉bs→g v=(rzOf ts f hs bs (ks.take i)).1 v
 ll:LlAt Hc ra ps
 eq:ps.map (·.2)=(rzOf ts f hs bs (ks.take i)).2.map fun r=>[r.1,r.2,1]
 len:ps.length≤i
theorem share_none {lt ls:List Int}{g:Int→Int}{hs bs:List Int}(hm:∀ x,x∈ls↔x∈lt)(h:(ls.filter fun x=>!decide (x∈hs) && !decide (x∈bs))=[]):¬ 0<shareOf lt g hs bs:=by
 unfold shareOf;split
 ·omega
 ·rename_i hn;have:(lt.filter fun x=>!decide (x∈bs))=[]:=by
   rw[List.filter_eq_nil_iff] at h ⊢;intro x hx hb;refine h x ((hm x).mpr hx) ?_;have hxh:x∉hs:=fun k=>hn (List.any_eq_true.mpr ⟨x,hx,decide_eq_true k⟩)
   simp only[hxh,decide_false,Bool.not_false,Bool.true_and];exact hb
  rw[this];simp
theorem share_held {lt ls:List Int}{g:Int→Int}{hs bs:List Int}(hm:∀ x,x∈ls↔x∈lt)(h:(ls.filter fun x=>decide (x∈hs))≠[]):¬ 0<shareOf lt g hs bs:=by
 obtain⟨x,hx⟩:=List.exists_mem_of_ne_nil _ h;obtain⟨h1,h2⟩:=List.mem_filter.mp hx;unfold shareOf;rw[if_pos (List.any_eq_true.mpr ⟨x,(hm x).mp h1,h2⟩)];decide
theorem share_is {lt ls:List Int}{g g':Int→Int}{hs bs:List Int}{m:Int}(hm:∀ x,x∈ls↔x∈lt)(hh:(ls.filter fun x=>decide (x∈hs))=[])(ha:∀ x∈ls,x∉bs→g' x=g x)
  (h1:m∈(ls.filter fun x=>!decide (x∈hs) && !decide (x∈bs)).map g') (h2:∀ a∈(ls.filter fun x=>!decide (x∈hs) && !decide (x∈bs)).map g',m≤a):shareOf lt g hs bs=m:=by
 have hno:∀ x∈ls,x∉hs:=fun x hx k=>by
  have:=List.filter_eq_nil_iff.mp hh x hx;exact this (decide_eq_true k)
 unfold shareOf
 rw[if_neg fun k=>by
  obtain⟨x,hx,k⟩:=List.any_eq_true.mp k
  exact hno x ((hm x).mpr hx) (of_decide_eq_true k)]
 refine min_of ?_ fun a ha'=>?_
 ·obtain⟨x,hx,e⟩:=List.mem_map.mp h1;obtain⟨x1,x2⟩:=List.mem_filter.mp hx;have hb:x∉bs:=by have k:=(Bool.and_eq_true_iff.mp x2).2;simpa using k
  exact List.mem_map.mpr ⟨x,List.mem_filter.mpr ⟨(hm x).mp x1,by simpa using hb⟩,by rw[← ha x x1 hb];exact e⟩
 ·obtain⟨x,hx,e⟩:=List.mem_map.mp ha';obtain⟨x1,x2⟩:=List.mem_filter.mp hx;have hb:x∉bs:=by simpa using x2
  have x3:=(hm x).mpr x1;rw[← e,← ha x x3 hb];exact h2 _ (List.mem_map.mpr ⟨x,List.mem_filter.mpr ⟨x3,by simp[hno x x3,hb]⟩,rfl⟩)
def inv_lr2 (H:Hp)(np pp ph pb po lf ra lo fr:Addr)(n p m:Int)(g:Int→Int)(FL:List Int)(ps:List (Addr×List Int))(j:Nat)(σ:St)(Hc:Hp):Prop:=∃ (e:Option V),σ=[some (.ref np),some (.ref pp),some (.ref ph),some (.ref pb),some (.ref po),some (.ref lf),some (.ref ra),some (.int p),some (.ref lo),e,some (.ref fr),some (.int m)]∧Same H Hc∧LlAt Hc ra ps∧Hc fr=some (.lst (FL.map V.int))∧Hc lf=some (.lst ((rInts 0 n.toNat).map fun v=>V.int (g v-if v∈FL.take j then m else 0)))
def inv_lr (H:Hp)(np pp ph pb po lf ra:Addr)(n:Int)(ts:List (Int×Int))(f:Int→Int)(hs bs ks:List Int)(i:Nat)(σ:St)(Hc:Hp):Prop:=∃ (c d e k l:Option V) (g:Int→Int) (ps:List (Addr×List Int)),σ=[some (.ref np),some (.ref pp),some (.ref ph),some (.ref pb),some (.ref po),some (.ref lf),some (.ref ra),c,d,e,k,l]∧LrAt H Hc lf ra n ts f g hs bs ps ks i
theorem sc_lraised22:FnScope ["_law_near_here", "_law_prices_here", "_law_held", "_law_barred", "_law_order", "_law_left", "_law_found", "_law_p", "_law_lot_here", "_law_place", "_law_free", "_law_share"] ["_law_near_here", "_law_prices_here", "_law_held", "_law_barred", "_law_order"] (defScope (top 35)):=⟨rfl,rfl,rfl,by decide +kernel,rfl,by decide +kernel,by decide +kernel⟩
theorem ok_lraised22 {f:Addr}{fd:FuncData}(F:Fun K "_law_raised" "_law_raised" (top 35) f fd)(B:Bt mg){f1:Addr}{fd1:FuncData}{st1:Stmt}(D_law_lot:Df K mg "_law_lot" st1 f1 fd1 ["_law_near_here", "_law_p"])(G_law_lot:FnOk P w K mg base CX0 1 f1 fd1 ["_law_near_here", "_law_p"] (sp_llot K)):FnOk P w K mg base CX0 3 f fd ["_law_near_here", "_law_prices_here", "_law_held", "_law_barred", "_law_order"] (sp_lraised K):=by
 refine F.ok sc_lraised22 (fun vs H Q E h=>?_) (fun cdv A outer s H vs Q E hr h=>?_)
 ·obtain⟨np,as,n,ts,pp,f,ph,hs,pb,bs,po,ks,rfl,hR,hok,hpp,hf,hph,hpb,hpo,hks,q⟩:=h;rfl
 ·obtain⟨np,as,n,ts,pp,f,ph,hs,pb,bs,po,ks,rfl,hR,hok,hpp,hf,hph,hpb,hpo,hks,q⟩:=h;have nd:=sc_lraised22.nd;have hu:=hu_of hr
  refine⟨_,(pss_cons (ps_set (i:=5) nd rfl (Or.inr rfl) (pe_callTy (listK K) (by rfl) B.list PyProof.Rows.boot_list (pa_cons (pv 1) pa_nil)))
    (pss_cons (ps_set (i:=6) nd rfl (Or.inl rfl) (pe_lst pa_nil))
    (pss_cons (ps_for PassesOwn.never rfl (pi_tupK K (pv 4)) (pg_name (i:=7) nd rfl (Or.inl rfl))
     (pss_cons (ps_set (i:=8) nd rfl (Or.inl rfl) (pe_own G_law_lot D_law_lot (hr.mono (by decide)) (pa_cons (pv 0) (pa_cons (pv 7) pa_nil))))
     (pss_cons (ps_setLC (i:=10) (own:=["_law_place"]) (fr:=[("_law_barred",3),("_law_held",2)]) rfl nd rfl rfl (by with_unfolding_all rfl) (by with_unfolding_all rfl) (frOk_cons rfl rfl (frOk_cons rfl rfl frOk_nil)) (pi_listK K (pv 8)) ⟨fun _ _ _ _=>⟨(pg_name (i:=0) (show List.Nodup (["_law_place", "_law_barred", "_law_held"]:List Str) by decide +kernel) rfl (Or.inl rfl)),(pts_one (PW.pt (pw_and (pt_cmpR (notIn_seqK K) (pv 0) (pv 2) (by with_unfolding_all rfl)) (pw_and1 (pt_cmpR (notIn_seqK K) (pv 0) (pv 1) (by with_unfolding_all rfl)))))),(pv 0)⟩⟩)
     (pss_one (ps_if (PW.pt (pw_and (pt_cmpR (neDK K hr.units) (pv 10) (pe_lst pa_nil) (nomark _)) (pw_and1 (pt_cmpR (eqDK K hr.units) (pe_lcomp (own:=["_law_place"]) (fr:=[("_law_held",2)]) rfl (by with_unfolding_all rfl) (frOk_cons rfl rfl frOk_nil) (pi_listK K (pv 8)) ⟨fun _ _ _ _=>⟨(pg_name (i:=0) (show List.Nodup (["_law_place", "_law_held"]:List Str) by decide +kernel) rfl (Or.inl rfl)),(pts_one (pt_cmpR (in_seqK K) (pv 0) (pv 1) (by with_unfolding_all rfl))),(pv 0)⟩⟩) (pe_lst pa_nil) (nomark _)))))
      (pss_cons (ps_set (i:=11) nd rfl (Or.inl rfl) (pe_callB (minK K hr.hd) (by rfl) B.min PyProof.Rows.boot_min (pa_cons (pe_lcomp (own:=["_law_place"]) (fr:=[("_law_left",5)]) rfl (by with_unfolding_all rfl) (frOk_cons rfl rfl frOk_nil) (pi_listK K (pv 10)) ⟨fun _ _ _ _=>⟨(pg_name (i:=0) (show List.Nodup (["_law_place", "_law_left"]:List Str) by decide +kernel) rfl (Or.inl rfl)),pts_nil,(pe_ix (ix_listK K) (pv 1) (pv 0) (fun _ _=>rfl))⟩⟩) pa_nil)))
      (pss_cons (ps_for PassesOwn.never rfl (pi_listK K (pv 10)) (pg_name (i:=9) nd rfl (Or.inl rfl))
       (pss_one (ps_asg (pe_op op_sub (pe_ix (ix_listK K) (pv 5) (pv 9) (fun _ _=>rfl)) (pv 11)) (pg_sub (pv 5) (pv 9) set_list))))
      (pss_one (ps_if (pt_cmpR op_gt (pv 11) pe_int (nomark _))
       (pss_one (ps_expr (appendK K (pv 6) (pa_cons (pe_tup (pa_cons (pv 7) (pa_cons (pv 11) (pa_cons pe_int pa_nil)))) pa_nil))))
       pss_nil))))
      pss_nil)))))
    (pss_one (ps_ret (pe_callTy (tupleK K) (by rfl) B.tuple PyProof.Rows.boot_tuple (pa_cons (pe_callB (sortedTK K) (by rfl) B.sorted PyProof.Rows.boot_sorted (pa_cons (pv 6) pa_nil)) pa_nil))))))),?_⟩
  walk_at "rd";have h3:=hok.n3;have h60:=hok.n60;have hl:=hok.len;refine⟨_,.inr hpp,fun lf nlf=>fresh_of nlf fun H2 s2 e2=>⟨by decide,fun ra nra=>fresh_of nra fun H3 s3 e3=>?_⟩⟩;have s13:Same H H3:=s2.trans s3;have lfra:lf≠ra:=ne_of_none e2 nra;have nra1:=s2.free nra;rw[tFor_eq];walk_at "rd";refine⟨⟨_,s13.seqT hpo⟩,for_tup (K:=K) (xs:=ks.map V.int) (inv_lr H np pp ph pb po lf ra n ts f hs bs ks) ⟨none,none,none,none,none,f,[],rfl,s13,s3 _ _ e2,fun v _ _ _=>by rw[List.take_zero];rfl,⟨e3,fun x hx=>(by cases hx)⟩,rfl,Nat.le_refl _⟩ ?_ ?_ ?_⟩
  ·rintro i σ Hc _ ⟨_,_,_,_,_,_,_,rfl,R⟩;exact R.same.seqT hpo
  ·rintro i v σ Hc hv ⟨c,d,e,k,l,g,ps,rfl,R⟩;rw[List.getElem?_map] at hv;cases hp0:ks[i]? with
   | none=>rw[hp0] at hv;cases hv
   | some p =>
   rw[hp0] at hv;cases Option.some.inj hv;have hpm:=mem_rInts.mp (hks.mem_iff.mp (List.mem_of_getElem? hp0));have hil:=(List.getElem?_eq_some_iff.mp hp0).1;have hkl:ks.length=n.toNat:=by rw[hks.length_eq,rInts_length]
   have p0:0≤p:=hpm.1;have p1:p<n:=by omega
   have hrl:=R.len;have hstep:rzOf ts f hs bs (ks.take (i+1))=rzStep ts hs bs (rzOf ts f hs bs (ks.take i)) p:=by rw[take_snoc hp0,rzOf_snoc]
   walk_at "rd";refine⟨np,as,n,ts,p,rfl,hR.same R.same,hok,p0,p1,fun lo ls H4 s4 nlo e4 pmL hlsl=>?_⟩;have hmL:∀ x,x∈ls↔x∈p::nb ts p:=fun x=>by rw[pmL.mem_iff];simp[or_comm]
   have hlr:∀ x∈ls,0≤x∧x<n:=fun x hx=>lot_rng hok.rng p0 p1 ((hmL x).mp hx)
   have s1c:=R.same.trans s4;refine⟨lo,rfl,⟨_,SqL.of e4⟩,fun fr nfr=>lc_listF V.int (fun x=>!decide (x∈hs) && !decide (x∈bs)) V.int (by omega) (SqL.of e4) nfr ?_ ?_⟩
   ·intro x hx v ys R0 hy hR1 hR2;have sm:Same H (upd H4 fr (.lst ys)):=s1c.upd (s1c.free nfr);walk_at "rd";refine notin_use (.inr (sm.seqT hph)) ⟨_,rfl,?_⟩;by_cases hh:x∈hs
    ·rw[if_neg (by simp[hh])];exact hR2 (by simp[hh]) _
    ·rw[if_pos (by simp[hh])];exact notin_use (.inr (sm.seqT hpb)) ⟨_,rfl,turn_ite (by simp[hh]) hy (by omega) hR1 hR2⟩
   ·refine fresh_of nfr fun H5 s5 e5=>?_
    have stay:¬ 0<shareOf (p::nb ts p) (rzOf ts f hs bs (ks.take i)).1 hs bs→∀ H',Same Hc H'→LrAt H H' lf ra n ts f g hs bs ps ks (i+1):=fun hno H' s=>by
     have e:rzOf ts f hs bs (ks.take (i+1))=rzOf ts f hs bs (ks.take i):=by rw[hstep];unfold rzStep;rw[if_neg hno]
     exact⟨R.same.trans s,s _ _ R.left,by rw[e];exact R.agree,R.ll.tp s.tp (s _ _ R.ll.top),by rw[e];exact R.eq,by omega⟩
    have hFL:=List.length_filter_le (fun x=>!decide (x∈hs) && !decide (x∈bs)) ls;refine⟨by decide,fun l1 n1=>fresh_of n1 fun H6 s6 e6=>neLI (ms:=[]) (SqL.of (s6 _ _ e5)) (SqL.of e6) ⟨_,rfl,?_⟩⟩;have sc6:=(s4.trans s5).trans s6;by_cases hE:(ls.filter fun x=>!decide (x∈hs) && !decide (x∈bs))=[]
    ·rw[if_neg (by rw[decide_eq_true hE];decide)];exact⟨_,_,_,_,_,g,ps,rfl,stay (share_none hmL hE) H6 sc6⟩
    rw[if_pos (by rw[decide_eq_false hE];rfl)];refine⟨lo,rfl,⟨_,SqL.of (s6 _ _ (s5 _ _ e4))⟩,fun l2 n2=>lc_listF V.int (fun x=>decide (x∈hs)) V.int (by omega) (SqL.of (s6 _ _ (s5 _ _ e4))) n2 ?_ ?_⟩
    ·intro x hx v ys R0 hy hR1 hR2;have sm:Same H (upd H6 l2 (.lst ys)):=(R.same.trans sc6).upd ((R.same.trans sc6).free n2);walk_at "rd";exact in_use (.inr (sm.seqT hph)) ⟨_,rfl,turn_ite rfl hy (by omega) hR1 hR2⟩
    ·refine fresh_of n2 fun H7 s7 e7=>⟨by decide,fun l3 n3=>fresh_of n3 fun H8 s8 e8=>eqLI (ms:=[]) (SqL.of (s8 _ _ e7)) (SqL.of e8) ⟨_,rfl,?_⟩⟩
     have sc8:=(sc6.trans s7).trans s8;have s58:=(s6.trans s7).trans s8;by_cases hE2:(ls.filter fun x=>decide (x∈hs))=[]
     ·rw[if_pos (decide_eq_true hE2)];generalize hFLg:(ls.filter fun x=>!decide (x∈hs) && !decide (x∈bs))=FL at hE hFL e5;have hFr:∀ x∈FL,(0≤x∧x<n)∧x∉bs∧x∈ls:=fun x hx=>by
       rw[← hFLg] at hx;obtain⟨x1,x2⟩:=List.mem_filter.mp hx;exact⟨hlr x x1,(by have k:=(Bool.and_eq_true_iff.mp x2).2;simpa using k),x1⟩
      refine⟨⟨_,SqL.of (s58 _ _ e5)⟩,fun l4 n4=>lc_listF V.int (fun _=>true) (fun x=>V.int (g x)) (by omega) (SqL.of (s58 _ _ e5)) n4 ?_ ?_⟩
      ·intro x hx v ys R0 hy hR1 hR2;have sm:Same Hc (upd H8 l4 (.lst ys)):=sc8.upd (sc8.free n4);obtain⟨⟨x0,x1⟩,_⟩:=hFr x hx;walk_at "rd";exact⟨_,SqL.of (sm _ _ R.left),_,atI_gain x0 x1,turn_yes hy (by omega) fun _=>hR1 rfl⟩
      ·refine fresh_of n4 fun H9 s9 e9=>?_
       rw[List.filter_eq_self.mpr fun _ _=>rfl] at e9;have sc9:=sc8.trans s9;have s59:=s58.trans s9;refine⟨FL.map g,SqL.of (by rw[e9,List.map_map];rfl),by simpa using hE,fun m hm1 hm2=>?_⟩;have hag:∀ x∈ls,x∉bs→g x=(rzOf ts f hs bs (ks.take i)).1 x:=fun x hx hb=>R.agree x (hlr x hx).1 (hlr x hx).2 hb
       have hms:shareOf (p::nb ts p) (rzOf ts f hs bs (ks.take i)).1 hs bs=m:=share_is hmL hE2 hag (by rw[hFLg];exact hm1) (by rw[hFLg];exact hm2);have L9:LlAt H9 ra ps:=R.ll.tp sc9.tp (sc9 _ _ R.ll.top);rw[tFor_eq];walk_at "rd";have lffr:lf≠fr:=ne_of_none (s4 _ _ R.left) nfr;have rafr:ra≠fr:=ne_of_none (s4 _ _ R.ll.top) nfr;have hFnd:FL.Nodup:=by
        have h1:(nb ts p++[p]).Nodup:=List.nodup_append.mpr ⟨rising_nd (nb_lt hok.rng hok.srt p),by simp,fun a ha b hb=>by rw[List.mem_singleton.mp hb];intro e;rw[e] at ha;exact (nb_rng hok.rng ha).2.2.2.2 rfl⟩;rw[← hFLg];exact (pmL.nodup_iff.mpr h1).filter _
       refine⟨⟨_,SqL.of (s59 _ _ e5)⟩,for_list (K:=K) (xs:=FL.map V.int) (inv_lr2 H np pp ph pb po lf ra lo fr n p m g FL ps) ⟨_,rfl,R.same.trans sc9,L9,s59 _ _ e5,by simpa using sc9 _ _ R.left⟩ ?_ ?_ ?_⟩
       ·rintro j σ Hd _ ⟨_,rfl,sd,_,hfr,_⟩;exact SqL.of hfr
       ·rintro j v σ Hd hv ⟨e,rfl,sd,Ld,hfr,ld⟩;rw[List.getElem?_map] at hv;cases hx0:FL[j]? with
        | none=>rw[hx0] at hv;cases hv
        | some x =>
        rw[hx0] at hv;cases Option.some.inj hv;obtain⟨⟨x0,x1⟩,_⟩:=hFr x (List.mem_of_getElem? hx0);have hxt:x∉FL.take j:=fun k=>by
         obtain⟨i2,hi2,e2⟩:=List.getElem_of_mem k;rw[List.length_take] at hi2;have hj:=List.getElem?_eq_some_iff.mp hx0;rw[List.getElem_take] at e2;have:=(List.getElem_inj (i:=i2) (j:=j) (h₀:=by omega) (h₁:=hj.1) hFnd).mp (e2.trans hj.2.symm);omega
        walk_at "rd";refine⟨_,SqL.of ld,_,atI_gain x0 x1,_,rfl,_,ld,x.toNat,?_,_,rfl,sd.upd nlf,Ld.tp (Tp.lst ld) ?_,?_,?_⟩
        ·unfold ixN;rw[List.length_map,rInts_length,if_pos x0,if_pos (by omega)]
        ·rw[upd_ne (Ne.symm lfra)];exact Ld.top
        ·rw[upd_ne (Ne.symm lffr)];exact hfr
        ·rw[upd_same,set_map x0 x1];congr 2;refine List.map_congr_left fun v _=>?_
         congr 1;rw[take_snoc hx0];by_cases hvx:v=x
         ·subst hvx;rw[if_pos rfl,if_neg hxt,Int.sub_zero,if_pos (by simp)]
         ·rw[if_neg hvx];congr 1;by_cases hvt:v∈FL.take j
          ·rw[if_pos hvt,if_pos (List.mem_append.mpr (.inl hvt))]
          ·rw[if_neg hvt,if_neg fun k=>(List.mem_append.mp k).elim hvt fun k=>hvx (List.mem_singleton.mp k)]
       ·rintro σ Hd ⟨e,rfl,sd,Ld,hfr,ld⟩;rw[List.length_map,List.take_length] at ld;walk_at "rd";have m0:0≤m:=by
         obtain⟨x,hx,rfl⟩:=List.mem_map.mp hm1;obtain⟨_,hb,hl⟩:=hFr x hx;rw[hag x hl hb];exact rz_nn hf (ks.take i) (f,[]) (fun v _=>hf v) x hb
        have hmF:∀ v,v∉bs→(v∈FL↔v∈p::nb ts p):=fun v hb=>by
         rw[← hFLg,List.mem_filter,← hmL];refine⟨fun h=>h.1,fun h=>⟨h,?_⟩⟩;have:=List.filter_eq_nil_iff.mp hE2 v h;simp only[decide_eq_true_eq] at this;simp[this,hb]
        unfold rzStep at hstep;rw[hms] at hstep;by_cases hpos:0<m
        ·rw[if_pos (decide_eq_true hpos)];rw[if_pos hpos] at hstep;refine⟨.inl ⟨rfl,_,SqL.of Ld.top⟩,by decide,fun t nt=>fresh_of nt fun H10 s10 e10=>⟨_,s10 _ _ Ld.top,by rw[List.length_map];exact sizeBig (by omega),?_⟩⟩;have L10:=LlAt.snoc (l:=[p,m,1]) (Ld.tp s10.tp (s10 _ _ Ld.top)) e10;refine⟨_,_,_,_,_,fun v=>g v-if v∈FL then m else 0,ps++[(t,[p,m,1])],rfl,(sd.trans s10).upd nra1,?_,?_,L10,?_,by rw[List.length_append,List.length_singleton];omega⟩
         ·rw[upd_ne lfra];exact s10 _ _ ld
         ·intro v v0 v1 hb;rw[hstep];show g v-(if v∈FL then m else 0)=(rzOf ts f hs bs (ks.take i)).1 v-if v∈p::nb ts p then m else 0
          rw[R.agree v v0 v1 hb];by_cases hv:v∈p::nb ts p
          ·rw[if_pos hv,if_pos ((hmF v hb).mpr hv)]
          ·rw[if_neg hv,if_neg fun k=>hv ((hmF v hb).mp k)]
         ·rw[hstep,List.map_append,R.eq,List.map_append];rfl
        ·rw[if_neg (by simpa using hpos)];rw[if_neg hpos] at hstep;have em:m=0:=by omega
         refine⟨_,_,_,_,_,fun v=>g v-if v∈FL then m else 0,ps,rfl,sd,ld,?_,Ld,by rw[hstep];exact R.eq,by omega⟩;intro v v0 v1 hb;rw[hstep,← R.agree v v0 v1 hb];show g v-(if v∈FL then m else 0)=g v;rw[em];split<;>omega
     ·rw[if_neg (by rw[decide_eq_false hE2];decide)];exact⟨_,_,_,_,_,g,ps,rfl,stay (share_held hmL hE2) H8 sc8⟩
  ·rintro σ Hc ⟨c,d,e,k,l,g,ps,rfl,R⟩;have hrl:=R.len;have hkl:ks.length=n.toNat:=by rw[hks.length_eq,rInts_length]
   have hreq:=R.eq;rw[List.length_map,hkl] at hrl;rw[List.length_map,List.take_length] at hreq;generalize hrw:(rzOf ts f hs bs ks).2=rows at hreq q;have hform:∀ x∈ps,∃ r∈rows,x.2=[r.1,r.2,1]:=fun x hx=>by
    have:x.2∈ps.map (·.2):=List.mem_map.mpr ⟨x,hx,rfl⟩;rw[hreq] at this;obtain⟨r,hr,e⟩:=List.mem_map.mp this;exact⟨r,hr,e.symm⟩
   walk_at "rd";refine⟨ps,⟨.inl (SqL.of R.ll.top),fun x hx=>⟨R.ll.row x hx,by obtain⟨r,_,e⟩:=hform x hx;rw[e];simp⟩,by omega⟩,fun ps' l pm hsrt nl=>fresh_of nl fun H4 s4 e4=>⟨_,.inl ⟨SqL.of e4,fun l2 nl2=>fresh_of nl2 fun H5 s5 e5=>?_⟩⟩⟩;have sA:=R.same.trans (s4.trans s5);refine q l2 (ps'.map fun x=>(x.2.getD 0 0,x.2.getD 1 0)) H5 sA (R.same.free (s4.free nl2)) ⟨ps',e5,fun x hx=>(s4.trans s5) _ _ (R.ll.row x (pm.mem_iff.mp hx)),?_⟩ ?_ ?_
   ·rw[List.map_map];refine List.map_congr_left fun x hx=>?_
    obtain⟨r,_,e⟩:=hform x (pm.mem_iff.mp hx);show x.2=[x.2.getD 0 0,x.2.getD 1 0,1]
    rw[e];rfl
   ·refine (pm.map _).trans ?_;rw[show (ps.map fun x=>(x.2.getD 0 0,x.2.getD 1 0))=(ps.map (·.2)).map fun l=>(l.getD 0 0,l.getD 1 0) by rw[List.map_map];rfl,hreq,List.map_map];refine List.Perm.of_eq ?_;conv=>rhs;rw[← List.map_id rows]
    exact List.map_congr_left fun r _=>rfl
   ·rw[List.pairwise_map];refine hsrt.imp_of_mem fun {x y} hx hy hlt=>?_
    obtain⟨r,_,e1⟩:=hform x (pm.mem_iff.mp hx);obtain⟨u,_,e2⟩:=hform y (pm.mem_iff.mp hy);rw[e1,e2] at hlt;rw[e1,e2];show r.1≤u.1;by_cases h:r.1≤u.1
    ·exact h
    ·exfalso;have:HT.lexLt [u.1,u.2,1] [r.1,r.2,1]=true:=by
      rw[HT.lexLt_cons,if_neg (by omega)];exact decide_eq_true (by omega)
     rw[hlt] at this;cases this
def sp_brow22 (K:PySem.W.Frag):Sp:=fun vs H Q _=>∃ (A:Addr→Prop) (n:Int) (y:Addr) (p t b:Int),vs=[.ref y,.int n]∧Av A H∧3≤n∧n≤8∧H y=some (.tup [.int p,.int t,.int b])∧0≤p∧p<100∧0≤t∧t<5000∧0≤b∧b<5000 ∧
 ∀ (l:Addr) (xs:List V) (H':Hp),Same H H'→H l=none→H' l=some (.lst xs)→xs.length≤200→(∀ x∈xs,RI A H' x)→Q (.ref l) H'
def SI (A:Addr→Prop)(H:Hp)(v:V):Prop:=(∃ c,Tg (hid A H) c 1 6 v)∧∀ i,v=.int i→Bd 200 i
theorem sm_60:Sm (10 ^ (60:Int).toNat+1):=⟨by decide +kernel,by rw[PyData.shown_int];decide +kernel⟩
theorem src_odd {A:Addr→Prop}{H:Hp}{l0:Addr}{us:List Int}{R:VK}(hd:Av A H)(e0:H l0=some (.lst (us.map V.int)))(hul:us.length≤20)(hu:∀ i∈us,Sm i∧Bd 200 i)(h:∀ src vs H',Same H H'→H' src=some (.lst vs)→vs.length≤40→(∀ v∈vs,SI A H' v)→R (.ref src) H'):sp_odd22 [] H (fun y H2=>rCat (V.ref l0) y H2 R) E0:=by
 refine⟨A,rfl,hd,fun po xs H3 s3 n3 e3 hl hx=>?_⟩;refine catL_use (s3 _ _ e0) e3 (by rw[List.length_map,hl];omega) fun src H4 n4 s4 e4=>h src _ H4 (s3.trans s4) e4 (by rw[List.length_append,List.length_map,hl];omega) fun v hv=>?_
 rcases List.mem_append.mp hv with hv | hv
 ·obtain⟨x,hx,rfl⟩:=List.mem_map.mp hv;exact⟨⟨0,.int (hu x hx).1⟩,fun i e=>by cases e;exact (hu x hx).2⟩
 ·obtain⟨⟨c,h⟩,h2,_⟩:=hx v hv;exact⟨⟨c,h.same s4.hid⟩,h2⟩
theorem smB {i:Int}(h:i.natAbs<100000):Sm i∧Bd 200 i:=⟨sm_of (Nat.lt_trans h (by decide)),(Bd.of (e:=20) (Nat.lt_trans h (by decide))).mono (by decide)⟩
theorem ri_ints {A:Addr→Prop}{H:Hp}{t:Addr}{us:List Int}(e:H t=some (.tup (us.map V.int)))(hd:Av A H)(hl:us.length≤20)(h:∀ i∈us,Sm i∧Bd 200 i):RI A H (.ref t):=by
 have e2:hid A H t=some (.tup (us.map V.int)):=by rw[hid_ne (hd.tup e)];exact e
 refine⟨⟨0,(Tg.tup (c:=0) (k:=1) (m:=0) e2 fun x hx=>by obtain⟨i,hi,rfl⟩:=List.mem_map.mp hx;exact .int (h i hi).1).mono (Nat.le_refl _) (by rw[List.length_map];omega)⟩,fun r ys er e3 i hi=>?_⟩;cases er;rw[e2] at e3;cases e3;obtain⟨j,hj,ej⟩:=List.mem_map.mp hi;cases ej;exact (h _ hj).2
theorem ri_three {A A':Addr→Prop}{H H':Hp}{v:V}{t:Addr}{xs:List V}(hv:SI A H v)(s:Same (hid A H) (hid A' H'))(av:Av A' H')(e:H' t=some (.tup xs))(hl:xs.length≤3)(hx:∀ x∈xs,x=v∨∃ i,x=.int i∧Sm i∧Bd 200 i):RI A' H' (.ref t):=by
 obtain⟨⟨c,hc⟩,hb⟩:=hv;refine ri_tup (c:=c) e av hl (fun x h=>?_) fun i hi=>?_
 ·rcases hx x h with rfl | ⟨i,rfl,h,_⟩
  ·exact hc.same s
  ·exact .int h
 ·rcases hx _ hi with h | ⟨j,h,_,h2⟩
  ·exact hb i h.symm
  ·cases h;exact h2
theorem sc_brow22:FnScope ["_law_row", "_law_many", "_law_p", "_law_top", "_law_bottom", "_law_found"] ["_law_row", "_law_many"] (defScope (top 36)):=⟨rfl,rfl,rfl,by decide +kernel,rfl,by decide +kernel,by decide +kernel⟩
theorem ok_brow22 {f:Addr}{fd:FuncData}(F:Fun K "_law_bent_row" "_law_bent_row" (top 36) f fd)(B:Bt mg){f1:Addr}{fd1:FuncData}{st1:Stmt}(D_law_odd:Df K mg "_law_odd" st1 f1 fd1 [])(G_law_odd:FnOk P w K mg base CX0 1 f1 fd1 [] sp_odd22):FnOk P w K mg base CX0 2 f fd ["_law_row", "_law_many"] (sp_brow22 K):=by
 refine F.ok sc_brow22 (fun vs H Q E h=>?_) (fun cdv A outer s H vs Q E hr h=>?_)
 ·obtain⟨Av0,n,y,p,t,b,rfl,hd,h3,h8,ey,p0,p1,t0,t1,b0,b1,q⟩:=h;rfl
 ·obtain⟨Av0,n,y,p,t,b,rfl,hd,h3,h8,ey,p0,p1,t0,t1,b0,b1,q⟩:=h;have nd:=sc_brow22.nd;have hu:=hu_of hr
  refine⟨_,(@pss_cons _ _ _ _ _ (@ps_asg _ _ _ _ _ _ (pv 0) (pg_tupK K (n:=3) rfl (pgs_cons (pg_name (i:=2) nd rfl (Or.inr rfl)) (pgs_cons (pg_name (i:=3) nd rfl (Or.inr rfl)) (pgs_cons (pg_name (i:=4) nd rfl (Or.inr rfl)) pgs_nil)))) (by rfl) (by rfl) (by rfl))
    (@pss_cons _ _ _ _ _ (ps_setLC (i:=5) (own:=["_law_other"]) (fr:=[("_law_bottom",4),("_law_top",3)]) rfl nd rfl rfl (by with_unfolding_all rfl) (by with_unfolding_all rfl) (frOk_cons rfl rfl (frOk_cons rfl rfl frOk_nil)) (@pi_listK _ K _ _ _ (@pe_op _ _ _ _ _ _ _ _ op_cat (pe_callTy (call_list_rng hr.hd) (by rfl) B.list PyProof.Rows.boot_list (@pa_cons _ _ _ _ _ (pe_callTy call_rng1 (by rfl) B.range PyProof.Rows.boot_range (@pa_cons _ _ _ _ _ (pv 1) pa_nil (by rfl))) pa_nil (by rfl))) (pe_own0 G_law_odd D_law_odd (hr.mono (by decide)))) (by rfl)) ⟨fun _ _ _ _=>⟨(pg_name (i:=0) (show List.Nodup (["_law_other", "_law_bottom", "_law_top"]:List Str) by decide +kernel) rfl (Or.inl rfl)),pts_nil,(@pe_tup _ _ _ _ _ (@pa_cons _ _ _ _ _ (pv 0) (@pa_cons _ _ _ _ _ (pv 2) (@pa_cons _ _ _ _ _ (pv 1) pa_nil (by rfl)) (by rfl)) (by rfl)))⟩⟩)
    (@pss_cons _ _ _ _ _ (@ps_setB _ _ _ 5 _ _ _ _ _ _ nd rfl (Or.inl rfl) (@pe_op _ _ _ _ _ _ _ _ op_cat (pv 5) (@pe_lcomp _ _ _ _ _ _ _ ["_law_other"] [("_law_bottom",4),("_law_p",2)] _ _ _ _ rfl (by with_unfolding_all rfl) (frOk_cons rfl rfl (frOk_cons rfl rfl frOk_nil)) (@pi_listK _ K _ _ _ (@pe_op _ _ _ _ _ _ _ _ op_cat (@pe_lst _ _ _ _ (@pa_cons _ _ _ _ _ (@pe_op _ _ _ _ _ _ _ _ op_add (pv 3) pe_int) (@pa_cons _ _ _ _ _ (@pe_op _ _ _ _ _ _ _ _ op_sub (pv 3) pe_int) (@pa_cons _ _ _ _ _ pe_int (@pa_cons _ _ _ _ _ (@pe_op _ _ _ _ _ _ _ _ op_add (@pe_op _ _ _ _ _ _ _ _ op_pow pe_int pe_int) pe_int) pa_nil (by rfl)) (by rfl)) (by rfl)) (by rfl))) (pe_own0 G_law_odd D_law_odd (hr.mono (by decide)))) (by rfl)) ⟨fun _ _ _ _=>⟨(pg_name (i:=0) (show List.Nodup (["_law_other", "_law_bottom", "_law_p"]:List Str) by decide +kernel) rfl (Or.inl rfl)),pts_nil,(@pe_tup _ _ _ _ _ (@pa_cons _ _ _ _ _ (pv 2) (@pa_cons _ _ _ _ _ (pv 0) (@pa_cons _ _ _ _ _ (pv 1) pa_nil (by rfl)) (by rfl)) (by rfl)))⟩⟩ (fun _=>rfl))) (by first | exact .inl rfl | exact .inr rfl | assumption))
    (@pss_cons _ _ _ _ _ (@ps_setB _ _ _ 5 _ _ _ _ _ _ nd rfl (Or.inl rfl) (@pe_op _ _ _ _ _ _ _ _ op_cat (pv 5) (@pe_lcomp _ _ _ _ _ _ _ ["_law_other"] [("_law_p",2),("_law_top",3)] _ _ _ _ rfl (by with_unfolding_all rfl) (frOk_cons rfl rfl (frOk_cons rfl rfl frOk_nil)) (@pi_listK _ K _ _ _ (@pe_op _ _ _ _ _ _ _ _ op_cat (@pe_lst _ _ _ _ (@pa_cons _ _ _ _ _ (@pe_op _ _ _ _ _ _ _ _ op_add (pv 4) pe_int) (@pa_cons _ _ _ _ _ (@pe_op _ _ _ _ _ _ _ _ op_sub (pv 4) pe_int) (@pa_cons _ _ _ _ _ (@pe_op _ _ _ _ _ _ _ _ op_add (@pe_op _ _ _ _ _ _ _ _ op_pow pe_int pe_int) pe_int) pa_nil (by rfl)) (by rfl)) (by rfl))) (pe_own0 G_law_odd D_law_odd (hr.mono (by decide)))) (by rfl)) ⟨fun _ _ _ _=>⟨(pg_name (i:=0) (show List.Nodup (["_law_other", "_law_p", "_law_top"]:List Str) by decide +kernel) rfl (Or.inl rfl)),pts_nil,(@pe_tup _ _ _ _ _ (@pa_cons _ _ _ _ _ (pv 1) (@pa_cons _ _ _ _ _ (pv 2) (@pa_cons _ _ _ _ _ (pv 0) pa_nil (by rfl)) (by rfl)) (by rfl)))⟩⟩ (fun _=>rfl))) (by first | exact .inl rfl | exact .inr rfl | assumption))
    (@pss_cons _ _ _ _ _ (@ps_setB _ _ _ 5 _ _ _ _ _ _ nd rfl (Or.inl rfl) (@pe_op _ _ _ _ _ _ _ _ op_cat (pv 5) (@pe_lst _ _ _ _ (@pa_cons _ _ _ _ _ (@pe_tup _ _ _ _ _ (@pa_cons _ _ _ _ _ (pv 2) (@pa_cons _ _ _ _ _ (@pe_op _ _ _ _ _ _ _ _ op_mul pe_int (pv 3)) (@pa_cons _ _ _ _ _ (@pe_op _ _ _ _ _ _ _ _ op_mul pe_int (pv 4)) pa_nil (by rfl)) (by rfl)) (by rfl))) (@pa_cons _ _ _ _ _ (@pe_tup _ _ _ _ _ (@pa_cons _ _ _ _ _ (pv 2) (@pa_cons _ _ _ _ _ (@pe_op _ _ _ _ _ _ _ _ op_sub pe_int (pv 3)) (@pa_cons _ _ _ _ _ (@pe_op _ _ _ _ _ _ _ _ op_sub pe_int (pv 4)) pa_nil (by rfl)) (by rfl)) (by rfl))) (@pa_cons _ _ _ _ _ (@pe_tup _ _ _ _ _ (@pa_cons _ _ _ _ _ (pv 2) (@pa_cons _ _ _ _ _ (@pe_op _ _ _ _ _ _ _ _ op_add (@pe_op _ _ _ _ _ _ _ _ op_mul pe_int (pv 3)) pe_int) (@pa_cons _ _ _ _ _ (@pe_op _ _ _ _ _ _ _ _ op_mul pe_int (pv 4)) pa_nil (by rfl)) (by rfl)) (by rfl))) pa_nil (by rfl)) (by rfl)) (by rfl)))) (by first | exact .inl rfl | exact .inr rfl | assumption))
    (@pss_one _ _ _ (ps_ret (@pe_op _ _ _ _ _ _ _ _ op_cat (pv 5) (@pe_lst _ _ _ _ (@pa_cons _ _ _ _ _ (pe_slice (slXK K) (pv 0) po_none (po_some pe_int)) (@pa_cons _ _ _ _ _ (@pe_op _ _ _ _ _ _ _ _ (catXK K) (pv 0) (@pe_tup _ _ _ _ _ (@pa_cons _ _ _ _ _ pe_int pa_nil (by rfl)))) (@pa_cons _ _ _ _ _ (pe_callTy (listK K) (by rfl) B.list PyProof.Rows.boot_list (@pa_cons _ _ _ _ _ (pv 0) pa_nil (by rfl))) (@pa_cons _ _ _ _ _ (@pe_tup _ _ _ _ _ (@pa_cons _ _ _ _ _ (pv 2) (@pa_cons _ _ _ _ _ (@pe_tup _ _ _ _ _ (@pa_cons _ _ _ _ _ (pv 3) (@pa_cons _ _ _ _ _ (pv 4) pa_nil (by rfl)) (by rfl))) pa_nil (by rfl)) (by rfl))) (@pa_cons _ _ _ _ _ (@pe_tup _ _ _ _ _ pa_nil) (@pa_cons _ _ _ _ _ pe_non (@pa_cons _ _ _ _ _ (pv 2) pa_nil (by rfl)) (by rfl)) (by rfl)) (by rfl)) (by rfl)) (by rfl)) (by rfl))))))))))),?_⟩
  simp only[L2.start,st0,List.map_cons,List.map_nil,List.length_cons,List.length_nil,List.replicate,List.cons_append,List.nil_append,Nat.reduceAdd,Nat.reduceSub];have bp:=smB (i:=p) (by omega);have bt:=smB (i:=t) (by omega);have bb:=smB (i:=b) (by omega);walk_at "rd";refine⟨_,SqT.of ey,rfl,_,_,rfl,_,_,rfl,_,_,rfl,rfl,fun r1 m1=>fresh_of m1 fun H1 s1 e1=>⟨0,n,e1,⟨by decide,by decide,by omega,by omega⟩,by omega,fun l0 n0=>fresh_of n0 fun H2 s2 e2=>?_⟩⟩;have S2:=s1.trans s2;refine src_odd (hd.same S2) e2 (by rw[rInts_length];omega) (fun i hi=>smB (by have:=mem_rInts.mp (show i∈rInts 0 (n-0).toNat from hi);omega)) fun src vs H3 s3 es hvl hv=>⟨src,rfl,⟨_,SqL.of es⟩,fun f1 mf=>lc_gen (A:=Av0) (K:=K) (vs:=vs) RI RI.in (fun v=>[v,.int t,.int b]) es mf (hd.same (S2.trans s3)) (by omega) ?_ ?_ ?_⟩
  ·intro v hv Hc Q' sc hQ;walk_at "rd";exact⟨by decide,fun t1 u1=>fresh_of u1 fun P1 q1 r1=>hQ t1 P1 q1 r1⟩
  ·intro v hvm A' H' tt s av e;refine ri_three (hv v hvm) s av e (Nat.le_refl 3) fun x hx=>?_
   simp only[List.mem_cons,List.not_mem_nil,or_false] at hx;rcases hx with rfl | rfl | rfl
   ·exact .inl rfl
   ·exact .inr ⟨t,rfl,bt⟩
   ·exact .inr ⟨b,rfl,bb⟩
  intro x1 H4 s4 ef1 hl1 h1;have S4:=S2.trans (s3.trans s4);have hl1':x1.length≤40:=by omega
  refine⟨t,rfl,t,rfl,by unfold CPow;decide,by decide,fun l5 m5=>fresh_of m5 fun H5 s5 e5=>?_⟩;refine src_odd (us:=[t+1,t-1,0,10 ^ Int.toNat 60+1]) (hd.same (S4.trans s5)) e5 (by show 4≤20;decide) (fun i hi=>?_) fun src vs H6 s6 es hvl hv=>⟨src,rfl,⟨_,SqL.of es⟩,fun f2 mf=>lc_gen (A:=Av0) (K:=K) (vs:=vs) RI RI.in (fun v=>[.int p,v,.int b]) es mf (hd.same ((S4.trans s5).trans s6)) (by omega) ?_ ?_ ?_⟩
  ·simp only[List.mem_cons,List.not_mem_nil,or_false] at hi;rcases hi with rfl | rfl | rfl | rfl
   ·exact smB (by omega)
   ·exact smB (by omega)
   ·exact smB (by decide)
   ·exact⟨sm_60,Bd.of (e:=200) (by decide)⟩
  ·intro v hv Hc Q' sc hQ;walk_at "rd";exact⟨by decide,fun t1 u1=>fresh_of u1 fun P1 q1 r1=>hQ t1 P1 q1 r1⟩
  ·intro v hvm A' H' tt s av e;refine ri_three (hv v hvm) s av e (Nat.le_refl 3) fun x hx=>?_
   simp only[List.mem_cons,List.not_mem_nil,or_false] at hx;rcases hx with rfl | rfl | rfl
   ·exact .inr ⟨p,rfl,bp⟩
   ·exact .inl rfl
   ·exact .inr ⟨b,rfl,bb⟩
  intro x2 H7 s7 ef2 hl2 h2;have T7:=s5.trans (s6.trans s7);refine catL_use (T7 _ _ ef1) ef2 (by omega) fun f3 H8 n8 s8 e8=>?_
  have S8:=S4.trans (T7.trans s8);have h8':∀ x∈x1++x2,RI Av0 H8 x:=fun x hx=>by
   rcases List.mem_append.mp hx with hx | hx
   ·exact (h1 x hx).same (T7.trans s8)
   ·exact (h2 x hx).same s8
  have hl8:(x1++x2).length≤80:=by rw[List.length_append];omega
  generalize x1++x2=x3 at e8 h8' hl8;clear h1 h2 hv es;refine⟨b,rfl,b,rfl,by unfold CPow;decide,by decide,fun l9 m9=>fresh_of m9 fun H9 s9 e9=>?_⟩;refine src_odd (us:=[b+1,b-1,10 ^ Int.toNat 60+1]) (hd.same (S8.trans s9)) e9 (by show 3≤20;decide) (fun i hi=>?_) fun src vs HA sA es hvl hv=>⟨src,rfl,⟨_,SqL.of es⟩,fun f4 mf=>lc_gen (A:=Av0) (K:=K) (vs:=vs) RI RI.in (fun v=>[.int p,.int t,v]) es mf (hd.same ((S8.trans s9).trans sA)) (by omega) ?_ ?_ ?_⟩
  ·simp only[List.mem_cons,List.not_mem_nil,or_false] at hi;rcases hi with rfl | rfl | rfl
   ·exact smB (by omega)
   ·exact smB (by omega)
   ·exact⟨sm_60,Bd.of (e:=200) (by decide)⟩
  ·intro v hv Hc Q' sc hQ;walk_at "rd";exact⟨by decide,fun t1 u1=>fresh_of u1 fun P1 q1 r1=>hQ t1 P1 q1 r1⟩
  ·intro v hvm A' H' tt s av e;refine ri_three (hv v hvm) s av e (Nat.le_refl 3) fun x hx=>?_
   simp only[List.mem_cons,List.not_mem_nil,or_false] at hx;rcases hx with rfl | rfl | rfl
   ·exact .inr ⟨p,rfl,bp⟩
   ·exact .inr ⟨t,rfl,bt⟩
   ·exact .inl rfl
  intro x4 HB sB ef4 hl4 h4;have TB:=s9.trans (sA.trans sB);refine catL_use (TB _ _ e8) ef4 (by omega) fun f5 HC nC sC eC=>?_
  have SC:=S8.trans (TB.trans sC);have hC:∀ x∈x3++x4,RI Av0 HC x:=fun x hx=>by
   rcases List.mem_append.mp hx with hx | hx
   ·exact (h8' x hx).same (TB.trans sC)
   ·exact (h4 x hx).same sC
  have hlC:(x3++x4).length≤120:=by rw[List.length_append];omega
  generalize x3++x4=x5 at eC hC hlC;clear h4 h8' hv es;have eyC:=SC _ _ ey;have cm:∀ {i:Int},0≤i→i<5000→CMul 2 i:=fun h1 h2=>by first | exact .inl ⟨by omega,by omega⟩ | exact .inr ⟨by omega,by omega⟩
  refine⟨t,rfl,cm t0 t1,b,rfl,cm b0 b1,by decide,fun a1 n1=>fresh_of n1 fun K1 k1 j1=>⟨t,rfl,b,rfl,by decide,fun a2 n2=>fresh_of n2 fun K2 k2 j2=>⟨t,rfl,cm t0 t1,b,rfl,cm b0 b1,by decide,fun a3 n3=>fresh_of n3 fun K3 k3 j3=>⟨by decide,fun a4 n4=>fresh_of n4 fun K4 k4 j4=>?_⟩⟩⟩⟩;have V4:=(k1.trans k2).trans (k3.trans k4);refine catL_use (V4 _ _ eC) j4 (by show x5.length+3≤10000;omega) fun f6 K5 n5 k5 j5=>?_
  have V5:=V4.trans k5;refine slX_use (V5 _ _ eyC) fun a6 K6 k6 j6=>⟨by decide,fun a7 n7=>fresh_of n7 fun K7 k7 j7=>?_⟩
  have V7:=(V5.trans k6).trans k7;refine catX_use (V7 _ _ eyC) j7 (by show 3+1≤10000;decide) fun a8 K8 k8 j8=>?_
  have V8:=V7.trans k8;refine⟨_,.inr (SqT.of (V8 _ _ eyC)),fun a9 n9=>fresh_of n9 fun K9 k9 j9=>⟨by decide,fun c1 o1=>fresh_of o1 fun G1 g1 i1=>⟨by decide,fun c2 o2=>fresh_of o2 fun G2 g2 i2=>⟨by decide,fun c3 o3=>fresh_of o3 fun G3 g3 i3=>⟨by decide,fun c4 o4=>fresh_of o4 fun G4 g4 i4=>?_⟩⟩⟩⟩⟩;have W9:=(k9.trans g1).trans ((g2.trans g3).trans g4);have W6:=(k6.trans k7).trans (k8.trans W9);refine catL_use (W6 _ _ j5) i4 (by rw[List.length_append];show x5.length+3+7≤10000;omega) fun fz Hz nz gz ez=>?_
  have X9:=W9.trans gz;have X5:=W6.trans gz;have XC:=V5.trans X5;have dz:=hd.same (SC.trans XC);refine q fz _ Hz (SC.trans XC) ((SC.trans (V5.trans W6)).free nz) ez (by rw[List.length_append,List.length_append];show x5.length+3+7≤200;omega) fun x hx=>?_
  have b2t:=smB (i:=2*t) (by omega);rcases List.mem_append.mp hx with hx | hx
  ·rcases List.mem_append.mp hx with hx | hx
   ·exact (hC x hx).same XC
   ·simp only[List.mem_cons,List.not_mem_nil,or_false] at hx;have three:∀ {a:Addr} {i j k:Int},Hz a=some (.tup [.int i,.int j,.int k])→i.natAbs<100000→j.natAbs<100000→k.natAbs<100000→RI Av0 Hz (.ref a):=fun {a i j k} e h1 h2 h3=>ri_ints (us:=[i,j,k]) e dz (by show 3≤20;decide) fun u hu=>by
     simp only[List.mem_cons,List.not_mem_nil,or_false] at hu;rcases hu with rfl | rfl | rfl
     ·exact smB h1
     ·exact smB h2
     ·exact smB h3
    rcases hx with rfl | rfl | rfl
    ·exact three (((k2.trans (k3.trans k4)).trans (k5.trans X5)) _ _ j1) (by omega) (by omega) (by omega)
    ·exact three (((k3.trans k4).trans (k5.trans X5)) _ _ j2) (by omega) (by omega) (by omega)
    ·exact three ((k4.trans (k5.trans X5)) _ _ j3) (by omega) (by omega) (by omega)
  ·simp only[List.mem_cons,List.not_mem_nil,or_false] at hx;rcases hx with rfl | rfl | rfl | rfl | rfl | rfl | rfl
   ·refine ri_ints (us:=[p,t]) (((k7.trans k8).trans X9) _ _ j6) dz (by show 2≤20;decide) fun u hu=>?_
    simp only[List.mem_cons,List.not_mem_nil,or_false] at hu;rcases hu with rfl | rfl
    ·exact bp
    ·exact bt
   ·refine ri_ints (us:=[p,t,b,1]) (X9 _ _ j8) dz (by show 4≤20;decide) fun u hu=>?_
    simp only[List.mem_cons,List.not_mem_nil,or_false] at hu;rcases hu with rfl | rfl | rfl | rfl
    ·exact bp
    ·exact bt
    ·exact bb
    ·exact smB (by decide)
   ·have e9:=((g1.trans (g2.trans (g3.trans g4))).trans gz) _ _ j9;refine⟨⟨2,(Tg.lst (k:=1) (m:=0) (by rw[hid_ne ((hd.same (SC.trans V8)).new n9)];exact e9) fun x hx=>?_).mono (by decide) (by show 3*1≤24;decide)⟩,fun r ys er e3=>?_⟩
    ·simp only[List.mem_cons,List.not_mem_nil,or_false] at hx;rcases hx with rfl | rfl | rfl
     ·exact .int bp.1
     ·exact .int bt.1
     ·exact .int bb.1
    ·cases er;have:=hid_in _ _ e3;rw[e9] at this;cases this
   ·have f1:=((g2.trans (g3.trans g4)).trans gz) _ _ i1;refine ri_tup (c:=0) (((g3.trans g4).trans gz) _ _ i2) dz (by show 2≤3;decide) (fun x hx=>?_) fun i hi=>?_
    ·simp only[List.mem_cons,List.not_mem_nil,or_false] at hx;rcases hx with rfl | rfl
     ·exact .int bp.1
     ·refine (Tg.tup (c:=0) (k:=0) (m:=0) (by rw[hid_ne (dz.tup f1)];exact f1) fun x hx=>?_).mono (by decide) (by show 2*1≤6;decide);simp only[List.mem_cons,List.not_mem_nil,or_false] at hx;rcases hx with rfl | rfl
      ·exact .int bt.1
      ·exact .int bb.1
    ·simp only[List.mem_cons,List.not_mem_nil,or_false,V.int.injEq,reduceCtorEq] at hi;subst hi;exact bp.2
   ·exact ri_ints (us:=[]) ((g4.trans gz) _ _ i3) dz (Nat.zero_le _) fun i hi=>nomatch hi
   ·exact⟨⟨0,.non⟩,fun r ys er=>nomatch er⟩
   ·exact⟨⟨0,.int bp.1⟩,fun r ys er=>nomatch er⟩
def OwR (H:Hp)(rs:List SRow):Prop:=∀ x∈rs,H x.1=some (.tup [.int x.2.1,.int x.2.2.1,.int x.2.2.2])∧(0≤x.2.1∧x.2.1<100)∧(0≤x.2.2.1∧x.2.2.1<5000)∧0≤x.2.2.2∧x.2.2.2<5000
theorem OwR.tp {H H':Hp}{rs:List SRow}(h:OwR H rs)(t:Tp H H'):OwR H' rs:=fun x hx=>⟨t _ _ (h x hx).1,(h x hx).2⟩
def sp_bent22 (K:PySem.W.Frag):Sp:=fun vs H Q _=>∃ (A:Addr→Prop) (n:Int) (ps:Addr) (rs:List SRow),vs=[.ref ps,.int n]∧Av A H∧3≤n∧n≤8∧H ps=some (.tup (rs.map fun x=>V.ref x.1))∧rs.length≤8∧OwR H rs ∧
 ∀ (l:Addr) (xs:List V) (H':Hp),Same H H'→H l=none→H' l=some (.lst xs)→xs.length≤5000→(∀ x∈xs,SHt A H' x)→Q (.ref l) H'
theorem owr_tg {A:Addr→Prop}{H:Hp}{rs:List SRow}(h:OwR H rs)(hd:Av A H):∀ z∈rs.map (fun x=>V.ref x.1),(∀ c,Tg (hid A H) c 1 3 z)∧RB (hid A H) z:=fun z hz=>by
 obtain⟨x,hx,rfl⟩:=List.mem_map.mp hz;obtain⟨e,h1,h2,h3⟩:=h x hx;have b1:=smB (i:=x.2.1) (by omega);have b2:=smB (i:=x.2.2.1) (by omega);have b3:=smB (i:=x.2.2.2) (by omega);have e2:hid A H x.1=some (.tup [.int x.2.1,.int x.2.2.1,.int x.2.2.2]):=by rw[hid_ne (hd.tup e)];exact e
 refine⟨fun c=>Tg.tup (k:=0) (m:=0) e2 fun y hy=>?_,fun r ys er e3 i hi=>?_⟩
 ·simp only[List.mem_cons,List.not_mem_nil,or_false] at hy;rcases hy with rfl | rfl | rfl
  ·exact .int b1.1
  ·exact .int b2.1
  ·exact .int b3.1
 ·cases er;rw[e2] at e3;cases e3;simp only[List.mem_cons,List.not_mem_nil,or_false,V.int.injEq] at hi;rcases hi with rfl | rfl | rfl
  ·exact b1.2
  ·exact b2.2
  ·exact b3.2
theorem sh_rows {A:Addr→Prop}{H:Hp}{t:Addr}{xs:List V}{c m:Nat}(e:H t=some (.tup xs))(hd:Av A H)(hl:xs.length*(m+1)≤290)(h:∀ x∈xs,Tg (hid A H) c 2 m x∧RB (hid A H) x):SHt A H (.ref t):=by
 have e2:hid A H t=some (.tup xs):=by rw[hid_ne (hd.tup e)];exact e
 refine⟨⟨c,(Tg.tup e2 fun x hx=>(h x hx).1).mono (Nat.le_refl _) hl⟩,fun r ys er e3=>?_⟩;cases er;rw[e2] at e3;cases e3;exact fun z hz=>(h z hz).2
theorem cut_hi {xs:List V}{i:Nat}(h:i≤xs.length):(cutV xs none (some (0+(i:Int)))).length=i:=by
 unfold cutV;rw[Int.zero_add,HT.sIx_nat,HT.sIx_none,List.length_take,List.length_drop];omega
theorem cut_lo {xs:List V}{i:Nat}{k:Int}(hk:k=(i:Int)):(cutV xs (some k) none).length=xs.length-i:=by
 subst hk;unfold cutV;rw[HT.sIx_nat,HT.sIx_none,List.length_take,List.length_drop];omega
theorem cut_mem {xs:List V}{lo hi:Option Int}{v:V}(h:v∈cutV xs lo hi):v∈xs:=by
 unfold cutV at h;exact List.mem_of_mem_drop (List.mem_of_mem_take h)
def inv_bt22 (A:Addr→Prop)(H:Hp)(ps:Addr)(n:Int)(i:Nat)(σ:St)(Hc:Hp):Prop:=∃ (c:Option V) (fo:Addr) (xs:List V),σ=[some (.ref ps),some (.int n),some (.ref fo),c]∧Same H Hc∧H fo=none∧Hc fo=some (.lst xs)∧xs.length≤10+210*i∧∀ x∈xs,SHt A Hc x
theorem sc_bent22:FnScope ["_law_shares", "_law_many", "_law_found", "_law_at"] ["_law_shares", "_law_many"] (defScope (top 37)):=⟨rfl,rfl,rfl,by decide +kernel,rfl,by decide +kernel,by decide +kernel⟩
theorem ok_bent22 {f:Addr}{fd:FuncData}(F:Fun K "_law_bent" "_law_bent" (top 37) f fd)(B:Bt mg){f1:Addr}{fd1:FuncData}{st1:Stmt}(D_law_bent_row:Df K mg "_law_bent_row" st1 f1 fd1 ["_law_row", "_law_many"])(G_law_bent_row:FnOk P w K mg base CX0 2 f1 fd1 ["_law_row", "_law_many"] (sp_brow22 K)):FnOk P w K mg base CX0 3 f fd ["_law_shares", "_law_many"] (sp_bent22 K):=by
 refine F.ok sc_bent22 (fun vs H Q E h=>?_) (fun cdv A outer s H vs Q E hr h=>?_)
 ·obtain⟨Av0,n,ps,rs,rfl,hd,h3,h8,hps,hrl,hrr,q⟩:=h;rfl
 ·obtain⟨Av0,n,ps,rs,rfl,hd,h3,h8,hps,hrl,hrr,q⟩:=h;have nd:=sc_bent22.nd;have hu:=hu_of hr
  refine⟨_,(@pss_cons _ _ _ _ _ (@ps_setL _ _ _ _ 2 _ _ _ nd rfl (Or.inl rfl) (@pa_cons _ _ _ _ _ (pe_callTy (listK K) (by rfl) B.list PyProof.Rows.boot_list (@pa_cons _ _ _ _ _ (pv 0) pa_nil (by rfl))) (@pa_cons _ _ _ _ _ (@pe_tup _ _ _ _ _ (@pa_cons _ _ _ _ _ (pv 0) pa_nil (by rfl))) (@pa_cons _ _ _ _ _ (pe_revT K (pv 0) (pe_un un_neg pe_int)) (@pa_cons _ _ _ _ _ (@pe_op _ _ _ _ _ _ _ _ (catXK K) (pv 0) (pv 0)) (@pa_cons _ _ _ _ _ (@pe_op _ _ _ _ _ _ _ _ (catXK K) (pv 0) (@pe_tup _ _ _ _ _ (@pa_cons _ _ _ _ _ (@pe_tup _ _ _ _ _ (@pa_cons _ _ _ _ _ pe_int (@pa_cons _ _ _ _ _ pe_int (@pa_cons _ _ _ _ _ (@pe_op _ _ _ _ _ _ _ _ op_pow pe_int pe_int) pa_nil (by rfl)) (by rfl)) (by rfl))) pa_nil (by rfl)))) pa_nil (by rfl)) (by rfl)) (by rfl)) (by rfl)) (by rfl)) (by first | exact .inl rfl | exact .inr rfl | assumption))
    (@pss_cons _ _ _ _ _ (ps_for PassesOwn.never rfl (pi_range1 (by rfl) B.range (@pa_cons _ _ _ _ _ (pe_callB (lenK K) (by rfl) B.len PySem.boot_len (@pa_cons _ _ _ _ _ (pv 0) pa_nil (by rfl))) pa_nil (by rfl))) (pg_name (i:=3) nd rfl (Or.inr rfl))
     (@pss_cons _ _ _ _ _ (@ps_setB _ _ _ 2 _ _ _ _ _ _ nd rfl (Or.inl rfl) (@pe_op _ _ _ _ _ _ _ _ op_cat (pv 2) (@pe_lst _ _ _ _ (@pa_cons _ _ _ _ _ (@pe_op _ _ _ _ _ _ _ _ (catXK K) (pe_slice (slXK K) (pv 0) po_none (po_some (pv 3))) (pe_slice (slXK K) (pv 0) (po_some (@pe_op _ _ _ _ _ _ _ _ op_add (pv 3) pe_int)) po_none)) (@pa_cons _ _ _ _ _ (@pe_op _ _ _ _ _ _ _ _ (catXK K) (@pe_op _ _ _ _ _ _ _ _ (catXK K) (pe_slice (slXK K) (pv 0) po_none (po_some (pv 3))) (@pe_tup _ _ _ _ _ (@pa_cons _ _ _ _ _ (@pe_ix _ _ _ _ _ _ _ (ix_tupK K) (pv 0) (pv 3) (fun _ _=>rfl)) pa_nil (by rfl)))) (pe_slice (slXK K) (pv 0) (po_some (pv 3)) po_none)) pa_nil (by rfl)) (by rfl)))) (by first | exact .inl rfl | exact .inr rfl | assumption))
     (@pss_one _ _ _ (@ps_setB _ _ _ 2 _ _ _ _ _ _ nd rfl (Or.inl rfl) (@pe_op _ _ _ _ _ _ _ _ op_cat (pv 2) (@pe_lcomp _ _ _ _ _ _ _ ["_law_bent_here"] [("_law_at",3),("_law_shares",0)] _ _ _ _ rfl (by with_unfolding_all rfl) (frOk_cons rfl rfl (frOk_cons rfl rfl frOk_nil)) (@pi_listK _ K _ _ _ (pe_own G_law_bent_row D_law_bent_row (hr.mono (by decide)) (@pa_cons _ _ _ _ _ (@pe_ix _ _ _ _ _ _ _ (ix_tupK K) (pv 0) (pv 3) (fun _ _=>rfl)) (@pa_cons _ _ _ _ _ (pv 1) pa_nil (by rfl)) (by rfl))) (by rfl)) ⟨fun _ _ _ _=>⟨(pg_name (i:=0) (show List.Nodup (["_law_bent_here", "_law_at", "_law_shares"]:List Str) by decide +kernel) rfl (Or.inl rfl)),pts_nil,(@pe_op _ _ _ _ _ _ _ _ (catXK K) (@pe_op _ _ _ _ _ _ _ _ (catXK K) (pe_slice (slXK K) (pv 2) po_none (po_some (pv 1))) (@pe_tup _ _ _ _ _ (@pa_cons _ _ _ _ _ (pv 0) pa_nil (by rfl)))) (pe_slice (slXK K) (pv 2) (po_some (@pe_op _ _ _ _ _ _ _ _ op_add (pv 1) pe_int)) po_none))⟩⟩ (fun _=>rfl))) (by first | exact .inl rfl | exact .inr rfl | assumption)))))
    (@pss_one _ _ _ (ps_ret (pv 2))))),?_⟩
  simp only[L2.start,st0,List.map_cons,List.map_nil,List.length_cons,List.length_nil,List.replicate,List.cons_append,List.nil_append,Nat.reduceAdd,Nat.reduceSub];have hxl:(rs.map fun x=>V.ref x.1).length≤8:=by rw[List.length_map];exact hrl
  generalize hXs:(rs.map fun x=>V.ref x.1)=X at hps hxl;have hXl:X.length=rs.length:=by rw[← hXs,List.length_map]
  have tg:∀ {G:Hp},Same H G→∀ z∈X,(∀ c,Tg (hid Av0 G) c 1 3 z)∧RB (hid Av0 G) z:=fun s z hz=>owr_tg (hrr.tp s.tp) (hd.same s) z (by rw[hXs];exact hz)
  have rows:∀ {G:Hp} {t:Addr} {xs:List V},Same H G→G t=some (.tup xs)→xs.length≤30→(∀ v∈xs,v∈X)→SHt Av0 G (.ref t):=fun s e hl hx=>sh_rows (c:=0) (m:=3) e (hd.same s) (by omega) fun v hv=>⟨((tg s v (hx v hv)).1 0).mono (by decide) (Nat.le_refl _),(tg s v (hx v hv)).2⟩
  walk_at "rd";refine⟨_,.inr (SqT.of hps),fun a1 n1=>fresh_of n1 fun H1 s1 e1=>⟨by decide,fun a2 n2=>fresh_of n2 fun H2 s2 e2=>?_⟩⟩;have S2:=s1.trans s2;refine⟨_,SqT.of (S2 _ _ hps),fun a3 n3=>fresh_of n3 fun H3 s3 e3=>?_⟩;have S3:=S2.trans s3;refine catX_use (S3 _ _ hps) (S3 _ _ hps) (by omega) fun a4 H4 s4 e4=>⟨by unfold CPow;decide,by decide,fun a5 n5=>fresh_of n5 fun H5 s5 e5=>⟨by decide,fun a6 n6=>fresh_of n6 fun H6 s6 e6=>?_⟩⟩
  have S4:=S3.trans s4;have S6:=S4.trans (s5.trans s6);refine catX_use (S6 _ _ hps) e6 (by show X.length+1≤10000;omega) fun a7 H7 s7 e7=>⟨by decide,fun f0 m0=>fresh_of m0 fun H8 s8 e8=>?_⟩
  have S8:=S6.trans (s7.trans s8);have d8:=hd.same S8;have five:∀ x∈[V.ref a1,V.ref a2,V.ref a3,V.ref a4,V.ref a7],SHt Av0 H8 x:=fun x hx=>by
   have z7:=s7.trans s8;have z4:=(s5.trans s6).trans z7;have z3:=s4.trans z4;have z2:=s3.trans z3;have z1:=s2.trans z2;have ty:Tg (hid Av0 H8) 0 2 40 (.ref ps):=(Tg.tup (c:=0) (k:=1) (m:=3) (by rw[hid_ne (d8.tup (S8 _ _ hps))];exact S8 _ _ hps) fun v hv=>(tg S8 v hv).1 0).mono (Nat.le_refl _) (by omega);have rb:∀ {r:Addr} {zs:List V},hid Av0 H8 r=some (.tup zs)→(∀ v∈zs,v∈X)→RB (hid Av0 H8) (.ref r):=fun e hx r' ys er e3 i hi=>by
    cases er;rw[e] at e3;cases e3;have:=hx _ hi;rw[← hXs] at this;obtain⟨_,_,e⟩:=List.mem_map.mp this;cases e
   have hpe:hid Av0 H8 ps=some (.tup X):=by rw[hid_ne (d8.tup (S8 _ _ hps))];exact S8 _ _ hps
   simp only[List.mem_cons,List.not_mem_nil,or_false] at hx;rcases hx with rfl | rfl | rfl | rfl | rfl
   ·refine sh_no (c:=2) ((Tg.lst (k:=1) (m:=3) (by rw[hid_ne (hd.new n1)];exact z1 _ _ e1) fun v hv=>(tg S8 v hv).1 2).mono (by decide) (by omega)) fun a ys ea e2=>?_
    cases ea;rw[z1 _ _ e1] at e2;cases e2
   ·refine sh_rows (c:=0) (m:=40) (z2 _ _ e2) d8 (by show 1*41≤290;decide) fun v hv=>?_
    rw[List.mem_singleton.mp hv];exact⟨ty,rb hpe fun v hv=>hv⟩
   ·exact rows S8 (z3 _ _ e3) (by rw[List.length_reverse];omega) fun v hv=>List.mem_reverse.mp hv
   ·exact rows S8 (z4 _ _ e4) (by rw[List.length_append];omega) fun v hv=>(List.mem_append.mp hv).elim id id
   ·have e5':=(s6.trans z7) _ _ e5;have f5:hid Av0 H8 a5=some (.tup [V.int 0,V.int 1,V.int (10 ^ Int.toNat 60)]):=by rw[hid_ne (d8.tup e5')];exact e5'
    have sm6:Sm (10 ^ Int.toNat 60)∧Bd 200 (10 ^ Int.toNat 60):=⟨⟨by decide +kernel,by rw[PyData.shown_int];decide +kernel⟩,Bd.of (e:=200) (by decide)⟩
    refine sh_rows (c:=0) (m:=3) (s8 _ _ e7) d8 (by rw[List.length_append];show (X.length+1)*4≤290;omega) fun v hv=>?_
    rcases List.mem_append.mp hv with hv | hv
    ·exact⟨((tg S8 v hv).1 0).mono (by decide) (Nat.le_refl _),(tg S8 v hv).2⟩
    ·rw[List.mem_singleton.mp hv];have r5:=ri_ints (A:=Av0) (us:=[0,1,10 ^ Int.toNat 60]) e5' d8 (by show 3≤20;decide) fun u hu=>by
      simp only[List.mem_cons,List.not_mem_nil,or_false] at hu;rcases hu with rfl | rfl | rfl
      ·exact smB (by decide)
      ·exact smB (by decide)
      ·exact sm6
     refine⟨(Tg.tup (c:=0) (k:=0) (m:=0) f5 fun y hy=>?_).mono (by decide) (by show 3*1≤3;decide),r5.2⟩;simp only[List.mem_cons,List.not_mem_nil,or_false] at hy;rcases hy with rfl | rfl | rfl
     ·exact .int (smB (by decide)).1
     ·exact .int (smB (by decide)).1
     ·exact .int sm6.1
  have nf0:H f0=none:=(S6.trans s7).free m0;rw[tFor_eq];walk_at "rd";refine⟨_,.inr (SqT.of (S8 _ _ hps)),by omega,by omega,?_⟩;rw[Int.toNat_natCast];refine for_range (lo:=0) (n:=X.length) (inv_bt22 Av0 H ps n) ⟨_,f0,_,rfl,S8,nf0,e8,by show 5≤_;omega,five⟩ ?_ ?_
  ·rintro i σ Hc hi ⟨c,fo,xs,rfl,sc,nfo,hfo,hxl',hxs⟩;obtain⟨z,hz,ez⟩:=at_in (xs:=X) (k:=0+(i:Int)) (by omega) (by omega);have eps:=sc _ _ hps;have c1:=cut_hi (xs:=X) (i:=i) (by omega);have c2:=cut_lo (xs:=X) (i:=i+1) (k:=0+(i:Int)+1) (by omega);have c3:=cut_lo (xs:=X) (i:=i) (k:=0+(i:Int)) (by omega);walk_at "rd";refine slX_use eps fun p1 G1 g1 f1=>slX_use (g1 _ _ eps) fun p2 G2 g2 f2=>catX_use (g2 _ _ f1) f2 (by omega) fun p3 G3 g3 f3=>?_
   have T3:=(g1.trans g2).trans g3;refine slX_use (T3 _ _ eps) fun p4 G4 g4 f4=>⟨_,SqT.of ((T3.trans g4) _ _ eps),_,ez,by decide,fun p5 n5=>fresh_of n5 fun G5 g5 f5=>catX_use (g5 _ _ f4) f5 (by rw[List.length_singleton];omega) fun p6 G6 g6 f6=>?_⟩
   have T6:=(T3.trans g4).trans (g5.trans g6);refine slX_use (T6 _ _ eps) fun p7 G7 g7 f7=>catX_use (g7 _ _ f6) f7 (by rw[List.length_append,List.length_singleton];omega) fun p8 G8 g8 f8=>⟨by decide,fun p9 n9=>fresh_of n9 fun G9 g9 f9=>?_⟩
   have T8:=T6.trans (g7.trans g8);refine catL_use ((T8.trans g9) _ _ hfo) f9 (by show xs.length+2≤10000;omega) fun fa GA nA gA fA=>?_
   have TA:=T8.trans (g9.trans gA);have SA:=sc.trans TA;have hdA:=hd.same SA;have hxA:∀ x∈xs++[V.ref p3,V.ref p8],SHt Av0 GA x:=fun x hx=>by
    rcases List.mem_append.mp hx with hx | hx
    ·exact (hxs x hx).same TA
    ·simp only[List.mem_cons,List.not_mem_nil,or_false] at hx;rcases hx with rfl | rfl
     ·exact rows SA (((g4.trans (g5.trans g6)).trans ((g7.trans g8).trans (g9.trans gA))) _ _ f3) (by rw[List.length_append];omega) fun v hv=>(List.mem_append.mp hv).elim cut_mem cut_mem
     ·refine rows SA ((g9.trans gA) _ _ f8) (by rw[List.length_append,List.length_append,List.length_singleton];omega) fun v hv=>?_
      rcases List.mem_append.mp hv with hv | hv
      ·rcases List.mem_append.mp hv with hv | hv
       ·exact cut_mem hv
       ·rw[List.mem_singleton.mp hv];exact hz
      ·exact cut_mem hv
   have hlA:(xs++[V.ref p3,V.ref p8]).length≤12+210*i:=by rw[List.length_append];show xs.length+2≤_;omega
   have epA:=TA _ _ eps;generalize xs++[V.ref p3,V.ref p8]=xa at fA hxA hlA;clear f1 f2 f3 f4 f5 f6 f7 f8 f9 g1 g2 g3 g4 g5 g6 g7 g8 g9 gA T3 T6 T8 hfo hxs;have hz':=hz;rw[← hXs] at hz';obtain⟨x,hxr,rfl⟩:=List.mem_map.mp hz';obtain⟨ex,x1,x2,x3⟩:=hrr x hxr;refine⟨_,SqT.of epA,_,ez,Av0,n,x.1,x.2.1,x.2.2.1,x.2.2.2,rfl,hdA,h3,h8,SA _ _ ex,x1.1,x1.2,x2.1,x2.2,x3.1,x3.2,fun lb vb HB sB nB eB hbl hvb=>⟨lb,rfl,⟨_,SqL.of eB⟩,fun l5 m5=>lc_gen (A:=Av0) (K:=K) (vs:=vb) SHt SHt.in (fun v=>cutV X none (some (0+(i:Int)))++[v]++cutV X (some (0+(i:Int)+1)) none) eB m5 (hdA.same sB) (by omega) ?_ ?_ ?_⟩⟩
   ·intro v hv Hd Q' sd hQ;have epd:=(sB.trans sd) _ _ epA;walk_at "rd";refine slX_use epd fun p1 G1 g1 f1=>⟨by decide,fun p2 n2=>fresh_of n2 fun G2 g2 f2=>catX_use (g2 _ _ f1) f2 (by rw[List.length_singleton];omega) fun p3 G3 g3 f3=>?_⟩
    have T3:=(g1.trans g2).trans g3;exact slX_use (T3 _ _ epd) fun p4 G4 g4 f4=>catX_use (g4 _ _ f3) f4 (by rw[List.length_append,List.length_singleton];omega) fun p5 G5 g5 f5=>hQ p5 G5 (T3.trans (g4.trans g5)) f5
   ·intro v hvm A' H' tt s av e;obtain⟨⟨c,hc⟩,hb⟩:=hvb v hvm;have hR:=RI.in (hvb v hvm) s;refine sh_rows (c:=c) (m:=24) e av (by rw[List.length_append,List.length_append,List.length_singleton];omega) fun u hu=>?_
    have inX:u∈X→Tg (hid A' H') c 2 24 u∧RB (hid A' H') u:=fun hu=>by
     have h:=tg (SA.trans sB) u hu;have r:RI Av0 HB u:=⟨⟨c,(h.1 c).mono (by decide) (by decide)⟩,h.2⟩
     exact⟨((h.1 c).mono (by decide) (by decide)).same s,(RI.in r s).2⟩
    rcases List.mem_append.mp hu with hu | hu
    ·rcases List.mem_append.mp hu with hu | hu
     ·exact inX (cut_mem hu)
     ·rw[List.mem_singleton.mp hu];exact⟨hc.same s,hR.2⟩
    ·exact inX (cut_mem hu)
   ·intro zs Hd sd hl5 hzl hz5;refine catL_use ((sB.trans sd) _ _ fA) hl5 (by omega) fun fb Hb nb gb eb=>?_
    have Ub:=(sB.trans sd).trans gb;refine⟨_,fb,xa++zs,rfl,SA.trans Ub,(SA.trans (sB.trans sd)).free nb,eb,by rw[List.length_append];omega,fun x hx=>?_⟩;rcases List.mem_append.mp hx with hx | hx
    ·exact (hxA x hx).same Ub
    ·exact (hz5 x hx).same gb
  ·rintro σ Hc ⟨c,fo,xs,rfl,sc,nfo,hfo,hxl',hxs⟩;walk_at "rd";exact q fo xs Hc sc nfo hfo (by omega) hxs
theorem share_pos {lt:List Int}{g:Int→Int}{hs bs:List Int}(h:0<shareOf lt g hs bs):(∀ z∈lt,z∉hs)∧∃ y∈lt,y∉bs∧g y=shareOf lt g hs bs:=by
 unfold shareOf at h ⊢;by_cases k:(lt.any fun x=>decide (x∈hs))=true
 ·rw[if_pos k] at h;omega
 ·rw[if_neg k] at h ⊢;refine⟨fun z hz hh=>k (List.any_eq_true.mpr ⟨z,hz,decide_eq_true hh⟩),?_⟩;cases e:((lt.filter fun x=>!decide (x∈bs)).map g).min? with
  | none=>rw[e] at h;simp at h
  | some m =>
   obtain⟨y,hy,e2⟩:=List.mem_map.mp (List.min?_eq_some_iff.mp e).1;obtain⟨y1,y2⟩:=List.mem_filter.mp hy;exact⟨y,y1,by simpa using y2,e2⟩
structure RzI (ts:List (Int×Int))(f:Int→Int)(hs bs:List Int)(s:(Int→Int)×List (Int×Int)):Prop where
 nn:∀ v,v∉bs→0≤s.1 v
 row:∀ r∈s.2,0<r.2∧(∀ z∈r.1::nb ts r.1,z∉hs)∧∃ y∈r.1::nb ts r.1,y∉bs∧s.1 y=0
 left:∀ v,s.1 v=f v-((s.2.filter fun r=>decide (v∈r.1::nb ts r.1)).map fun r=>r.2).sum
theorem RzI.step {ts:List (Int×Int)}{f:Int→Int}{hs bs:List Int}{s:(Int→Int)×List (Int×Int)}(h:RzI ts f hs bs s)(p:Int):RzI ts f hs bs (rzStep ts hs bs s p):=by
 unfold rzStep;by_cases hp:0<shareOf (p::nb ts p) s.1 hs bs
 ·rw[if_pos hp];obtain⟨a1,y,a2,a3,a4⟩:=share_pos hp;have hle:=fun x (hx:x∈p::nb ts p) (hb:x∉bs)=>share_le hp hx hb
  generalize shareOf (p::nb ts p) s.1 hs bs=m at hp a4 hle;refine⟨fun v hv=>?_,fun r hr=>?_,fun v=>?_⟩
  ·show 0≤s.1 v-if v∈p::nb ts p then m else 0
   by_cases k:v∈p::nb ts p
   ·rw[if_pos k];have:=hle v k hv;omega
   ·rw[if_neg k];have:=h.nn v hv;omega
  ·have hr:r∈s.2++[(p,m)]:=hr;rcases List.mem_append.mp hr with hr | hr
   ·obtain⟨b1,b2,z,b3,b4,b5⟩:=h.row r hr;refine⟨b1,b2,z,b3,b4,?_⟩;show s.1 z-(if z∈p::nb ts p then m else 0)=0;by_cases k:z∈p::nb ts p
    ·have:=hle z k b4;omega
    ·rw[if_neg k];omega
   ·rw[List.mem_singleton.mp hr];refine⟨hp,a1,y,a2,a3,?_⟩;show s.1 y-(if y∈p::nb ts p then m else 0)=0;rw[if_pos a2];omega
  ·show s.1 v-(if v∈p::nb ts p then m else 0)=f v-(((s.2++[(p,m)]).filter fun r=>decide (v∈r.1::nb ts r.1)).map fun r=>r.2).sum;rw[h.left v,List.filter_append,List.map_append,List.sum_append];by_cases k:v∈p::nb ts p
   ·rw[if_pos k,List.filter_cons_of_pos (by simpa using k)];simp;omega
   ·rw[if_neg k,List.filter_cons_of_neg (by simpa using k)];simp
 ·rw[if_neg hp];exact h
theorem RzI.all {ts:List (Int×Int)}{f:Int→Int}{hs bs:List Int}:∀ (ks:List Int) (s:(Int→Int)×List (Int×Int)),RzI ts f hs bs s→RzI ts f hs bs (ks.foldl (rzStep ts hs bs) s)
 | [],_,h=>h
 | p::r,s,h=>by rw[List.foldl_cons];exact RzI.all r _ (h.step p)
theorem rz_all {ts:List (Int×Int)}{f:Int→Int}{hs bs ks:List Int}(hf:∀ x,0≤f x):RzI ts f hs bs (rzOf ts f hs bs ks) :=
 RzI.all ks (f,[]) ⟨fun v _=>hf v,fun r hr=>(by cases hr),fun v=>by simp⟩
theorem rz_sub {ts:List (Int×Int)}{hs bs:List Int}:∀ (ks:List Int) (s:(Int→Int)×List (Int×Int)),∃ l,l.Sublist ks∧(ks.foldl (rzStep ts hs bs) s).2.map (fun r=>r.1)=s.2.map (fun r=>r.1)++l
 | [],s=>⟨[],List.Sublist.slnil,by simp⟩
 | p::r,s=>by
  rw[List.foldl_cons];obtain⟨l,h1,h2⟩:=rz_sub r (rzStep ts hs bs s p);by_cases hp:0<shareOf (p::nb ts p) s.1 hs bs
  ·refine⟨p::l,h1.cons_cons p,?_⟩;rw[h2];unfold rzStep;rw[if_pos hp];simp
  ·refine⟨l,h1.cons p,?_⟩;rw[h2];unfold rzStep;rw[if_neg hp]
theorem frSum_ones:∀ (k:Nat) {l:List (Int×Int)},l.length=k→(∀ u∈l,u.2=1)→frSum l=((l.map fun u=>u.1).sum,1)
 | 0,l,hl,_=>by
  have:l=[]:=List.length_eq_zero_iff.mp hl;subst this;rfl
 | k+1,l,hl,h=>by
  have hne:l≠[]:=fun e=>by rw[e] at hl;cases hl
  obtain⟨r,x,rfl⟩:∃ r x,l=r++[x]:=⟨l.dropLast,l.getLast hne,(List.dropLast_concat_getLast hne).symm⟩
  have ih:=frSum_ones k (l:=r) (by rw[List.length_append,List.length_singleton] at hl;omega) fun u hu=>h u (List.mem_append_left _ hu)
  have hx:=h x (List.mem_append_right _ (List.mem_singleton.mpr rfl));rw[frSum_snoc,ih,List.map_append,List.sum_append];show (_*x.2+x.1*1,1*x.2)=_;rw[hx];simp
theorem sum_sub {α:Type}[DecidableEq α]{W:α→Int}:∀ {P Q:List α},(∀ y∈Q,0≤W y)→P.Nodup→(∀ y∈P,y∈Q)→(P.map W).sum≤(Q.map W).sum
 | [],Q,hW,_,_=>by
  have:∀ l:List α,(∀ y∈l,0≤W y)→0≤(l.map W).sum:=fun l=>by
   induction l with
   | nil=>simp
   | cons a r ih =>
    intro h;have:=h a (List.mem_cons_self ..);have:=ih fun y hy=>h y (List.mem_cons_of_mem _ hy)
    rw[List.map_cons,List.sum_cons];omega
  exact this Q hW
 | x::r,Q,hW,hn,hs=>by
  have hx:=hs x (List.mem_cons_self ..);have hn':=List.nodup_cons.mp hn;have ih:=sum_sub (W:=W) (P:=r) (Q:=Q.erase x) (fun y hy=>hW y (List.mem_of_mem_erase hy)) hn'.2 fun y hy=>(List.mem_erase_of_ne (fun e=>by subst e;exact hn'.1 hy)).mpr (hs y (List.mem_cons_of_mem _ hy))
  have:=sum_perm ((List.perm_cons_erase hx).map W);rw[this,List.map_cons,List.map_cons,List.sum_cons,List.sum_cons];omega
theorem own_ok {n:Int}{ts:List (Int×Int)}{f:Int→Int}{hs bs ks:List Int}{rs:List SRow}(hok:IsWeb n ts)(hf:∀ x,0≤f x)(hks:∀ k∈ks,0≤k∧k<n)
  (hm:∀ r∈rs,(r.2.1,r.2.2.1)∈(rzOf ts f hs bs ks).2∧r.2.2.2=1) (hup:srUp rs):ShG n ts f hs bs rs:=by
 have I:=rz_all (ts:=ts) (hs:=hs) (bs:=bs) (ks:=ks) hf;obtain⟨l,hl1,hl2⟩:=rz_sub (ts:=ts) (hs:=hs) (bs:=bs) ks (f,[]);have hl2:(rzOf ts f hs bs ks).2.map (fun r=>r.1)=l:=by unfold rzOf;simpa using hl2
 have hr:∀ r∈rs,0≤r.2.1∧r.2.1<n:=fun r hr=>hks _ (hl1.subset (by rw[← hl2];exact List.mem_map.mpr ⟨_,(hm r hr).1,rfl⟩))
 have hrow:=fun r (h:r∈rs)=>I.row _ (hm r h).1
 refine⟨⟨fun r h=>⟨hr r h,by have:=(hrow r h).1;exact this,by rw[(hm r h).2];decide,by rw[(hm r h).2];exact Nat.gcd_one_right _⟩,hup⟩,fun r h=>(hrow r h).2.1,fun x x0 x1 xh xb=>?_⟩;have e1:lotFr ts rs x=frSum (rwAt ts rs x):=(frSum_perm (rw_perm hok hup x)).symm;have e2:=frSum_ones _ (l:=rwAt ts rs x) rfl fun u hu=>by
  unfold rwAt at hu;obtain⟨r,h,rfl⟩:=List.mem_map.mp hu;exact (hm r (List.mem_filter.mp h).1).2
 rw[e1,e2];show _≤f x*1;rw[Int.mul_one];have hl:=I.left x;have hn:=I.nn x xb;have hup':(rs.map fun r=>r.2.1).Nodup:=rising_nd (by unfold srUp at hup;exact hup);have key:=sum_sub (W:=fun u:Int×Int=>u.2) (P:=(rs.filter fun r=>decide (x∈r.2.1::nb ts r.2.1)).map fun r=>(r.2.1,r.2.2.1)) (Q:=(rzOf ts f hs bs ks).2.filter fun r=>decide (x∈r.1::nb ts r.1)) (fun y hy=>Int.le_of_lt (I.row y (List.mem_filter.mp hy).1).1) ?_ ?_
 ·have e3:((rwAt ts rs x).map fun u=>u.1).sum=(((rs.filter fun r=>decide (x∈r.2.1::nb ts r.2.1)).map fun r=>(r.2.1,r.2.2.1)).map fun u:Int×Int=>u.2).sum:=by
   unfold rwAt;rw[List.map_map,List.map_map];rfl
  rw[e3];omega
 ·have h1:((rs.filter fun r=>decide (x∈r.2.1::nb ts r.2.1)).map fun r=>r.2.1).Nodup:=(List.Sublist.map _ List.filter_sublist).nodup hup';have:(((rs.filter fun r=>decide (x∈r.2.1::nb ts r.2.1)).map fun r=>(r.2.1,r.2.2.1)).map fun u:Int×Int=>u.1).Nodup:=by rw[List.map_map];exact h1
  exact List.Pairwise.of_map _ (fun a b h e=>h (by rw[e])) this
 ·intro y hy;obtain⟨r,h,rfl⟩:=List.mem_map.mp hy;have:=List.mem_filter.mp h;exact List.mem_filter.mpr ⟨(hm r this.1).1,this.2⟩
theorem own_rows {H:Hp}{n:Int}{ts:List (Int×Int)}{f:Int→Int}{hs bs ks:List Int}{rows:List (Int×Int)}{ps qs:List (Addr×List Int)}(hok:IsWeb n ts)(hn:n≤8)(hf:∀ x,0≤f x∧f x≤1000)(hks:ks.Perm (rInts 0 n.toNat))(hrow:∀ x∈ps,H x.1=some (.tup (x.2.map V.int)))
  (e:ps.map (·.2)=rows.map fun r=>[r.1,r.2,1]) (pm:rows.Perm (rzOf ts f hs bs ks).2) (hup:rows.Pairwise fun a b=>a.1≤b.1) (hq:qs.Sublist ps) :
  ∃ rs:List SRow,(qs.map fun x=>V.ref x.1)=rs.map (fun x=>V.ref x.1)∧rs.length≤8∧OwR H rs∧ShG n ts f hs bs rs:=by
 have h3:=hok.n3;have I:=rz_all (ts:=ts) (hs:=hs) (bs:=bs) (ks:=ks) fun x=>(hf x).1
 obtain⟨l,hl1,hl2⟩:=rz_sub (ts:=ts) (hs:=hs) (bs:=bs) ks (f,[]);have hl2:(rzOf ts f hs bs ks).2.map (fun r=>r.1)=l:=by unfold rzOf;simpa using hl2
 have hkr:∀ k∈ks,0≤k∧k<n:=fun k hk=>by have:=mem_rInts.mp (hks.mem_iff.mp hk);omega
 have hknd:ks.Nodup:=hks.nodup_iff.mpr (rising_nd (rInts_lt _));have hnd:(rows.map fun r=>r.1).Nodup:=by
  refine (pm.map fun r=>r.1).nodup_iff.mpr ?_;rw[hl2];exact hl1.nodup hknd
 have hlt:(rows.map fun r=>r.1).Pairwise (·<·):=by
  rw[List.pairwise_map];have h2:rows.Pairwise fun a b=>a.1≠b.1:=List.pairwise_map.mp hnd
  exact (hup.and h2).imp fun h=>by omega
 have hform:∀ x∈ps,∃ r∈rows,x.2=[r.1,r.2,1]:=fun x hx=>by
  have:x.2∈ps.map (·.2):=List.mem_map.mpr ⟨x,hx,rfl⟩;rw[e] at this;obtain⟨r,hr,e⟩:=List.mem_map.mp this;exact⟨r,hr,e.symm⟩
 have hpl:(ps.map fun x=>x.2.getD 0 0)=rows.map fun r=>r.1:=by
  have:(ps.map fun x=>x.2.getD 0 0)=(ps.map (·.2)).map fun l=>l.getD 0 0:=by rw[List.map_map];rfl
  rw[this,e,List.map_map];rfl
 have hql:(qs.map fun x=>x.2.getD 0 0).Pairwise (·<·):=by
  rw[← hpl] at hlt;exact hlt.sublist (hq.map _)
 have hqf:∀ x∈qs,∃ r∈(rzOf ts f hs bs ks).2,x.2=[r.1,r.2,1]:=fun x hx=>by
  obtain⟨r,hr,e⟩:=hform x (hq.subset hx);exact⟨r,pm.mem_iff.mp hr,e⟩
 have hrr:∀ r∈(rzOf ts f hs bs ks).2,(0≤r.1∧r.1<n)∧0<r.2∧r.2≤1000:=fun r hr=>by
  have h1:=hkr r.1 (hl1.subset (by rw[← hl2];exact List.mem_map.mpr ⟨r,hr,rfl⟩));obtain⟨h2,_,y,hy,_,hy0⟩:=I.row r hr;refine⟨h1,h2,?_⟩;have hl:=I.left y;rw[hy0] at hl;have:=sum_sub (W:=fun u:Int×Int=>u.2) (P:=[r]) (Q:=(rzOf ts f hs bs ks).2.filter fun r=>decide (y∈r.1::nb ts r.1)) (fun z hz=>Int.le_of_lt (I.row z (List.mem_filter.mp hz).1).1) (by simp) fun z hz=>by
   rw[List.mem_singleton.mp hz];exact List.mem_filter.mpr ⟨hr,by simpa using hy⟩
  rw[List.map_singleton,List.sum_singleton] at this;have:=(hf y).2;omega
 refine⟨qs.map fun x=>(x.1,x.2.getD 0 0,x.2.getD 1 0,x.2.getD 2 0),by rw[List.map_map];rfl,?_,fun z hz=>?_,?_⟩
 ·rw[List.length_map];have:=nd_len (rising_nd hql) (n:=n) fun y hy=>by
   obtain⟨x,hx,rfl⟩:=List.mem_map.mp hy;obtain⟨r,hr,e⟩:=hqf x hx;have:=(hrr r hr).1;rw[e];exact this
  rw[List.length_map] at this;omega
 ·obtain⟨x,hx,rfl⟩:=List.mem_map.mp hz;obtain⟨r,hr,e⟩:=hqf x hx;have h1:=hrow x (hq.subset hx);obtain⟨⟨a1,a2⟩,a3,a4⟩:=hrr r hr;rw[e] at h1;show H x.1=some (.tup [.int (x.2.getD 0 0),.int (x.2.getD 1 0),.int (x.2.getD 2 0)])∧(0≤x.2.getD 0 0∧x.2.getD 0 0<100)∧(0≤x.2.getD 1 0∧x.2.getD 1 0<5000)∧0≤x.2.getD 2 0∧x.2.getD 2 0<5000;rw[e];exact⟨h1,⟨a1,by show r.1<100;omega⟩,⟨by show 0≤r.2;omega,by show r.2<5000;omega⟩,by show (0:Int)≤1;decide,by show (1:Int)<5000;decide⟩
 ·refine own_ok hok (fun x=>(hf x).1) hkr (fun z hz=>?_) (by unfold srUp;rw[List.map_map];exact hql);obtain⟨x,hx,rfl⟩:=List.mem_map.mp hz;obtain⟨r,hr,e⟩:=hqf x hx;show (x.2.getD 0 0,x.2.getD 1 0)∈_∧x.2.getD 2 0=1;rw[e];exact⟨hr,rfl⟩
theorem sh_big {A:Addr→Prop}{H:Hp}{v:V}{n:Int}(h:SHt A H v)(hd:Av A H):∀ rs,IsSrs H n v rs→∀ x∈rs,FrOk x.2.2:=by
 rintro rs ⟨p,rfl,hS,hok,_⟩ x hx;have e2:hid A H p=some (.tup (rs.map fun x=>V.ref x.1)):=by rw[hid_ne (hd.tup hS.top)];exact hS.top
 have er:=hS.row x hx;have e3:hid A H x.1=some (.tup [.int x.2.1,.int x.2.2.1,.int x.2.2.2]):=by rw[hid_ne (hd.tup er)];exact er
 have hb:=h.2 p _ rfl e2 (.ref x.1) (List.mem_map.mpr ⟨x,hx,rfl⟩) x.1 _ rfl e3;obtain⟨_,h1,h2,_⟩:=hok x hx;exact⟨by omega,(hb _ (by simp)).mono (by decide),by omega,hb _ (by simp)⟩
theorem sh_len {A:Addr→Prop}{H:Hp}{v:V}(h:SHt A H v)(hd:Av A H):∀ a xs,v=.ref a→H a=some (.tup xs)→xs.length<300:=fun a xs e ea=>by
 obtain⟨c,hc⟩:=h.1;subst e;have:=hc.len (by rw[hid_ne (hd.tup ea)];exact ea);omega
theorem IsSh.iff {H H':Hp}{n:Int}{ts:List (Int×Int)}{f:Int→Int}{hs bs:List Int}{v:V}(hd:PlD H 2 v)(s:Same H H'):IsSh H' n ts f hs bs v↔IsSh H n ts f hs bs v:=by
 constructor
 ·rintro⟨p,rs,rfl,hS,h⟩;obtain⟨⟨T,hp⟩,hi⟩:=hd;have e:=hp.back s hS.top;refine⟨p,rs,rfl,⟨e,fun x hx=>?_⟩,h⟩;obtain⟨T1,hp1⟩:=(hi p _ rfl e (.ref x.1) (List.mem_map.mpr ⟨x,hx,rfl⟩)).pl;exact hp1.back s (hS.row x hx)
 ·rintro⟨p,rs,rfl,hS,h⟩;exact⟨p,rs,rfl,hS.tp s.tp,h⟩
def inv_l22a (d:Addr)(i:Nat)(σ:St)(Hc:Hp):Prop:=∃ (v0 v2 v3 v4 v5 v6 v7 v8 v9 v10 v11 v12:Option V),σ=[v0,some (.ref d),v2,v3,v4,v5,v6,v7,v8,v9,v10,v11,v12]∧DkAt Hc d
def inv_l22b (H:Hp)(d l:Addr)(ps:List (Addr×List Int))(i:Nat)(τ:St)(Hc:Hp):Prop:=∃ (c:Option V) (qs:List (Addr×List Int)),τ=[c,some (.ref d)]∧Kp d H Hc∧DkAt Hc d∧Hc l=some (.lst (qs.map fun x=>V.ref x.1))∧qs.Sublist (ps.take i)
def inv_l22c (Hb:Hp)(d w np ph pb pp po:Addr)(v0 v2:Option V)(i:Nat)(σ:St)(Hc:Hp):Prop:=∃ (v9 v10 v11 v12:Option V),σ=[v0,some (.ref d),v2,some (.ref w),some (.ref np),some (.ref ph),some (.ref pb),some (.ref pp),some (.ref po),v9,v10,v11,v12]∧Same Hb Hc
theorem sc_law22:FnScope ["_law_script", "_law_deck_here", "_law_turn_here", "_law_web_here", "_law_near_here", "_law_held", "_law_barred", "_law_prices_here", "_law_own_rows", "_law_thing", "_law_due", "_law_handed", "_law_found"] ["_law_script"] (defScope (top 38)):=⟨rfl,rfl,rfl,by decide +kernel,rfl,by decide +kernel,by decide +kernel⟩
theorem ok_law22 {f:Addr}{fd:FuncData}(F:Fun K "law" "law" (top 38) f fd)(B:Bt mg){f1:Addr}{fd1:FuncData}{st1:Stmt}(D_law_deck:Df K mg "_law_deck" st1 f1 fd1 ["_law_script", "_law_many"])(G_law_deck:FnOk P w K mg base CX0 2 f1 fd1 ["_law_script", "_law_many"] (sp_deck K)){f2:Addr}{fd2:FuncData}{st2:Stmt}(D_law_web:Df K mg "_law_web" st2 f2 fd2 ["_law_deck_here", "_law_least", "_law_most"])(G_law_web:FnOk P w K mg base CX0 3 f2 fd2 ["_law_deck_here", "_law_least", "_law_most"] sp_web){f3:Addr}{fd3:FuncData}{st3:Stmt}(D_law_near:Df K mg "_law_near" st3 f3 fd3 ["_law_web_here"])(G_law_near:FnOk P w K mg base CX0 1 f3 fd3 ["_law_web_here"] sp_near){f4:Addr}{fd4:FuncData}{st4:Stmt}(D_law_state:Df K mg "_law_state" st4 f4 fd4 ["_law_deck_here", "_law_places"])(G_law_state:FnOk P w K mg base CX0 2 f4 fd4 ["_law_deck_here", "_law_places"] sp_state){f5:Addr}{fd5:FuncData}{st5:Stmt}(D_law_prices:Df K mg "_law_prices" st5 f5 fd5 ["_law_deck_here", "_law_places"])(G_law_prices:FnOk P w K mg base CX0 2 f5 fd5 ["_law_deck_here", "_law_places"] sp_prices2){f6:Addr}{fd6:FuncData}{st6:Stmt}(D_law_turn:Df K mg "_law_turn" st6 f6 fd6 ["_law_deck_here", "_law_many"])(G_law_turn:FnOk P w K mg base CX0 2 f6 fd6 ["_law_deck_here", "_law_many"] sp_turn){f7:Addr}{fd7:FuncData}{st7:Stmt}(D_law_raised:Df K mg "_law_raised" st7 f7 fd7 ["_law_near_here", "_law_prices_here", "_law_held", "_law_barred", "_law_order"])(G_law_raised:FnOk P w K mg base CX0 3 f7 fd7 ["_law_near_here", "_law_prices_here", "_law_held", "_law_barred", "_law_order"] (sp_lraised K)){f8:Addr}{fd8:FuncData}{st8:Stmt}(D_law_next:Df K mg "_law_next" st8 f8 fd8 ["_law_deck_here"])(G_law_next:FnOk P w K mg base CX0 1 f8 fd8 ["_law_deck_here"] sp_next){f9:Addr}{fd9:FuncData}{st9:Stmt}(Dright_shares:Df K mg "right_shares" st9 f9 fd9 ["web", "prices", "held", "barred", "thing"])(Gright_shares:FnOk P w K mg base CX0 6 f9 fd9 ["web", "prices", "held", "barred", "thing"] (sp_rsharesX K)){f10:Addr}{fd10:FuncData}{st10:Stmt}(D_law_bent:Df K mg "_law_bent" st10 f10 fd10 ["_law_shares", "_law_many"])(G_law_bent:FnOk P w K mg base CX0 3 f10 fd10 ["_law_shares", "_law_many"] (sp_bent22 K)){f11:Addr}{fd11:FuncData}{st11:Stmt}(D_law_odd:Df K mg "_law_odd" st11 f11 fd11 [])(G_law_odd:FnOk P w K mg base CX0 1 f11 fd11 [] sp_odd22){f12:Addr}{fd12:FuncData}{st12:Stmt}(D_law_are_shares:Df K mg "_law_are_shares" st12 f12 fd12 ["_law_near_here", "_law_prices_here", "_law_held", "_law_barred", "_law_thing"])(G_law_are_shares:FnOk P w K mg base CX0 4 f12 fd12 ["_law_near_here", "_law_prices_here", "_law_held", "_law_barred", "_law_thing"] (sp_laresharesX K)){f13:Addr}{fd13:FuncData}{st13:Stmt}(D_law_truth:Df K mg "_law_truth" st13 f13 fd13 ["_law_found", "_law_due"])(G_law_truth:FnOk P w K mg base CX0 1 f13 fd13 ["_law_found", "_law_due"] sp_truth)(C4:Bt4 mg):FnOk P w K mg base CX0 8 f fd ["_law_script"] (sp_law K):=by
 refine F.ok sc_law22 (fun vs H Q E h=>?_) (fun cdv A outer s H vs Q E hr h=>?_)
 ·obtain⟨a,ns,rfl,hS,hl,q⟩:=h;rfl
 ·obtain⟨a,ns,rfl,hS,hl,q⟩:=h;have nd:=sc_law22.nd;have hu:=hu_of hr
  refine⟨_,(@pss_cons _ _ _ _ _ (ps_set (i:=1) nd rfl (Or.inr rfl) (pe_own G_law_deck D_law_deck (hr.mono (by decide)) (@pa_cons _ _ _ _ _ (pv 0) (@pa_cons _ _ _ _ _ pe_int pa_nil (by rfl)) (by rfl))))
    (@pss_cons _ _ _ _ _ (ps_for PassesOwn.never rfl (pi_range1 (by rfl) B.range (@pa_cons _ _ _ _ _ pe_int pa_nil (by rfl))) (pg_name (i:=2) nd rfl (Or.inl rfl))
     (@pss_cons _ _ _ _ _ (ps_set (i:=3) nd rfl (Or.inl rfl) (pe_own G_law_web D_law_web (hr.mono (by decide)) (@pa_cons _ _ _ _ _ (pv 1) (@pa_cons _ _ _ _ _ pe_int (@pa_cons _ _ _ _ _ pe_int pa_nil (by rfl)) (by rfl)) (by rfl))))
     (@pss_cons _ _ _ _ _ (ps_set (i:=4) nd rfl (Or.inl rfl) (pe_own G_law_near D_law_near (hr.mono (by decide)) (@pa_cons _ _ _ _ _ (pv 3) pa_nil (by rfl))))
     (@pss_cons _ _ _ _ _ (@ps_asg _ _ _ _ _ _ (pe_own G_law_state D_law_state (hr.mono (by decide)) (@pa_cons _ _ _ _ _ (pv 1) (@pa_cons _ _ _ _ _ (@pe_ix _ _ _ _ _ _ _ (ix_tupK K) (pv 3) pe_int (fun _ _=>rfl)) pa_nil (by rfl)) (by rfl))) (pg_tupK K (n:=2) rfl (pgs_cons (pg_name (i:=5) nd rfl (Or.inl rfl)) (pgs_cons (pg_name (i:=6) nd rfl (Or.inl rfl)) pgs_nil))) (by rfl) (by rfl) (by rfl))
     (@pss_cons _ _ _ _ _ (ps_set (i:=7) nd rfl (Or.inl rfl) (pe_own G_law_prices D_law_prices (hr.mono (by decide)) (@pa_cons _ _ _ _ _ (pv 1) (@pa_cons _ _ _ _ _ (@pe_ix _ _ _ _ _ _ _ (ix_tupK K) (pv 3) pe_int (fun _ _=>rfl)) pa_nil (by rfl)) (by rfl))))
     (@pss_cons _ _ _ _ _ (ps_set (i:=8) nd rfl (Or.inl rfl) (pe_own G_law_raised D_law_raised (hr.mono (by decide)) (@pa_cons _ _ _ _ _ (pv 4) (@pa_cons _ _ _ _ _ (pv 7) (@pa_cons _ _ _ _ _ (pv 5) (@pa_cons _ _ _ _ _ (pv 6) (@pa_cons _ _ _ _ _ (pe_own G_law_turn D_law_turn (hr.mono (by decide)) (@pa_cons _ _ _ _ _ (pv 1) (@pa_cons _ _ _ _ _ (@pe_ix _ _ _ _ _ _ _ (ix_tupK K) (pv 3) pe_int (fun _ _=>rfl)) pa_nil (by rfl)) (by rfl))) pa_nil (by rfl)) (by rfl)) (by rfl)) (by rfl)) (by rfl))))
     (@pss_cons _ _ _ _ _ (ps_set (i:=8) nd rfl (Or.inl rfl) (pe_callTy (tupleK K) (by rfl) B.tuple PyProof.Rows.boot_tuple (@pa_cons _ _ _ _ _ (@pe_lcomp _ _ _ _ _ _ _ ["_law_row"] [("_law_deck_here",1)] _ _ _ _ rfl (by with_unfolding_all rfl) (frOk_cons rfl rfl frOk_nil) (@pi_tupK _ K _ _ _ (pv 8) (by rfl)) ⟨fun _ _ _ _=>⟨(pg_name (i:=0) (show List.Nodup (["_law_row", "_law_deck_here"]:List Str) by decide +kernel) rfl (Or.inl rfl)),(pts_one (pt_cmpR op_gt (@pe_op _ _ _ _ _ _ _ _ op_mod (pe_own G_law_next D_law_next (hr.mono (by decide)) (@pa_cons _ _ _ _ _ (pv 1) pa_nil (by rfl))) pe_int) pe_int (nomark _))),(pv 0)⟩⟩ (fun _=>rfl)) pa_nil (by rfl))))
     (@pss_cons _ _ _ _ _ (@ps_if _ _ _ _ _ _ _ _ (pt_cmpR op_isNB (pe_own Gright_shares Dright_shares (hr.mono (by decide)) (@pa_cons _ _ _ _ _ (pv 3) (@pa_cons _ _ _ _ _ (pv 7) (@pa_cons _ _ _ _ _ (pv 5) (@pa_cons _ _ _ _ _ (pv 6) (@pa_cons _ _ _ _ _ (pv 8) pa_nil (by rfl)) (by rfl)) (by rfl)) (by rfl)) (by rfl))) pe_bl (nomark _))
      (@pss_one _ _ _ (ps_ret pe_bl))
      pss_nil)
     (@pss_one _ _ _ (ps_for PassesOwn.never rfl (@pi_listK _ K _ _ _ (@pe_op _ _ _ _ _ _ _ _ op_cat (pe_own G_law_bent D_law_bent (hr.mono (by decide)) (@pa_cons _ _ _ _ _ (pv 8) (@pa_cons _ _ _ _ _ (@pe_ix _ _ _ _ _ _ _ (ix_tupK K) (pv 3) pe_int (fun _ _=>rfl)) pa_nil (by rfl)) (by rfl))) (pe_own0 G_law_odd D_law_odd (hr.mono (by decide)))) (by rfl)) (pg_name (i:=9) nd rfl (Or.inl rfl))
      (@pss_cons _ _ _ _ _ (ps_set (i:=10) nd rfl (Or.inl rfl) (pe_own G_law_are_shares D_law_are_shares (hr.mono (by decide)) (@pa_cons _ _ _ _ _ (pv 4) (@pa_cons _ _ _ _ _ (pv 7) (@pa_cons _ _ _ _ _ (pv 5) (@pa_cons _ _ _ _ _ (pv 6) (@pa_cons _ _ _ _ _ (pv 9) pa_nil (by rfl)) (by rfl)) (by rfl)) (by rfl)) (by rfl))))
      (@pss_cons _ _ _ _ _ (ps_set (i:=11) nd rfl (Or.inl rfl) (pe_callB (reprXK hr.gd hr.units) (by rfl) C4.repr PyProof.Rows.boot_repr (@pa_cons _ _ _ _ _ (pv 9) pa_nil (by rfl))))
      (@pss_cons _ _ _ _ _ (ps_set (i:=12) nd rfl (Or.inl rfl) (pe_own Gright_shares Dright_shares (hr.mono (by decide)) (@pa_cons _ _ _ _ _ (pv 3) (@pa_cons _ _ _ _ _ (pv 7) (@pa_cons _ _ _ _ _ (pv 5) (@pa_cons _ _ _ _ _ (pv 6) (@pa_cons _ _ _ _ _ (pv 9) pa_nil (by rfl)) (by rfl)) (by rfl)) (by rfl)) (by rfl))))
      (@pss_one _ _ _ (@ps_if _ _ _ _ _ _ _ _ (PW.pt (pw_or (pt_not (pt_val (pe_own G_law_truth D_law_truth (hr.mono (by decide)) (@pa_cons _ _ _ _ _ (pv 12) (@pa_cons _ _ _ _ _ (pv 10) pa_nil (by rfl)) (by rfl))))) (pw_or1 (pt_cmpR op_ne (pe_callB (reprXK hr.gd hr.units) (by rfl) C4.repr PyProof.Rows.boot_repr (@pa_cons _ _ _ _ _ (pv 9) pa_nil (by rfl))) (pv 11) (nomark _)))))
       (@pss_one _ _ _ (ps_ret pe_bl))
       pss_nil)))))))))))))))
    (@pss_one _ _ _ (ps_ret pe_bl)))),?_⟩
  simp only[L2.start,st0,List.map_cons,List.map_nil,List.length_cons,List.length_nil,List.replicate,List.cons_append,List.nil_append,Nat.reduceAdd,Nat.reduceSub];walk_at "rd";refine⟨a,500,ns,rfl,hS,hl,by decide,by decide,fun d ds H1 hdl s1 nd1 hd1=>?_⟩;have dk1:DkAt H1 d:=⟨ds,hd1,hdl⟩
  dsimp only;rw[tFor_eq];walk_at "rd";refine⟨by decide,by decide,for_range (lo:=0) (n:=3) (inv_l22a d) ⟨_,_,_,_,_,_,_,_,_,_,_,_,rfl,dk1⟩ ?_ ?_⟩
  ·rintro i σ Hc hi ⟨v0,v2,v3,v4,v5,v6,v7,v8,v9,v10,v11,v12,rfl,dc⟩;walk_at "rd";refine⟨d,3,7,rfl,dc,by decide,by decide,by decide,fun w0 n ts H2 k2 d2 hn0 hn1 hok hw=>?_⟩;have g3:=hok.n3;have g60:=hok.n60;have gl:=hok.len;refine⟨w0,n,ts,rfl,hw,by omega,by omega,by omega,hok.rng,hok.srt,fun np as H3 s3 nnp nas hR=>?_⟩;have d3:=d2.same s3;have dnp:d≠np:=(d2.ne nnp).symm;have das:d∉as:=fun h=>d2.ne (nas d h) rfl
   have hw3:=hw.tp s3.tp;obtain⟨q0,hw0,hq0⟩:=id hw3;refine⟨_,rfl,_,SqT.of hw0,_,rfl,d,n,rfl,d3,by omega,by omega,fun p p1 p2 us bs H4 k4 d4 np0 np1 np2 e0 e1 e2 ok=>?_⟩;have t4:=k4.tp d3;refine⟨p,rfl,_,SqT.of e0,rfl,_,_,rfl,_,_,rfl,rfl,?_⟩;refine⟨_,rfl,_,SqT.of (t4 _ _ hw0),_,rfl,d,n,rfl,d4,by omega,by omega,fun pp f H5 k5 d5 npp e5 hf=>?_⟩;have t5:=t4.trans (k5.tp d4);refine⟨_,rfl,_,SqT.of (t5 _ _ hw0),_,rfl,d,n,rfl,d5,by omega,by omega,fun po ks H6 k6 d6 npo e6 hks=>?_⟩;have t56:=k6.tp d5;have t46:=(k5.tp d4).trans t56;have t6:=t5.trans t56;have k36:=(k4.trans k5).trans k6;have hR6:=hR.kp k36 dnp das;refine⟨np,as,n,ts,pp,f,p1,us,p2,bs,po,ks,rfl,hR6,hok,SqT.of (t56 _ _ e5),fun x=>(hf x).1,SqT.of (t46 _ _ e1),SqT.of (t46 _ _ e2),SqT.of e6,hks,fun ow rows H7 s7 now ⟨ps,hps,hrow,heq⟩ hpm hup=>?_⟩;have d7:=d6.same s7;have hpsl:ps.length≤8:=by
    obtain⟨rs,e,h,_⟩:=own_rows hok (by omega) hf hks hrow heq hpm hup (List.Sublist.refl ps);have:=congrArg List.length e;simp only[List.length_map] at this;omega
   refine⟨ow,rfl,⟨_,SqT.of hps⟩,fun l nl=>lc_tup (K:=K) (xs:=ps.map fun x=>V.ref x.1) (inv_l22b H7 d l ps) ⟨none,[],rfl,(Kp.refl d H7).new nl,d7.new (d7.ne nl),upd_same,List.nil_sublist _⟩ ?_ ?_ ?_⟩
   ·rintro i τ Hd _ ⟨_,_,rfl,kd,dd,_⟩;exact SqT.of (kd.tp d7 _ _ hps)
   ·rintro i v τ Hd hv ⟨c,qs,rfl,kd,dd,hql,hsub⟩;rw[List.getElem?_map] at hv;cases hx0:ps[i]? with
    | none=>rw[hx0] at hv;cases hv
    | some x =>
    rw[hx0] at hv;cases Option.some.inj hv;have hil:=(List.getElem?_eq_some_iff.mp hx0).1;have hsl:=hsub.length_le;rw[List.length_take] at hsl;have lnd:l≠d:=d7.ne nl;walk_at "rd";refine next_use dd fun z Ha ka da _=>⟨z,rfl,by decide,ite2 (fun _=>?_) fun _=>?_⟩
    ·refine⟨_,ka _ _ lnd hql,by rw[List.length_map];exact sizeBig (by omega),_,qs++[x],rfl,(kd.trans ka).new nl,da.new lnd,by rw[upd_same,List.map_append];rfl,by rw[take_snoc hx0];exact hsub.append (List.Sublist.refl _)⟩
    ·exact⟨_,qs,rfl,kd.trans ka,da,ka _ _ lnd hql,by rw[take_snoc hx0];exact hsub.trans (List.sublist_append_left _ _)⟩
   ·rintro τ H8 ⟨c,qs,rfl,k8,d8,hql,hsub⟩;rw[List.length_map,List.take_length] at hsub;have t8:=k8.tp d7;have t68:=s7.tp.trans t8;obtain⟨rs,hrs,hrl,hOw,hSh⟩:=own_rows hok (by omega) hf hks (fun x hx=>t8 _ _ (hrow x hx)) heq hpm hup hsub;refine⟨_,.inl ⟨SqL.of hql,fun t nt=>fresh_of nt fun H9 s9 e9=>?_⟩⟩;rw[hrs] at e9;have hOw9:=hOw.tp s9.tp;have t69:=t68.trans s9.tp;have k39:=((k36.trans s7.kp).trans k8).trans s9.kp;have hR9:=hR.kp k39 dnp das;have d9:=d8.same s9;have hw9:=hw3.tp (t6.trans t69);have ep9:=(t56.trans t69) _ _ e5;have e19:=(t46.trans t69) _ _ e1;have e29:=(t46.trans t69) _ _ e2;have usl:us.length≤60:=by have:=nd_len (rising_nd ok.ul) ok.ur;omega
    have bsl:bs.length≤60:=by have:=nd_len (rising_nd ok.bl) ok.br;omega
    have av9:Av (fun x=>x=d) H9:=fun x hx=>by
     obtain⟨ds,e,_⟩:=id d9;exact⟨_,by rw[show x=d from hx];exact e⟩
    have sr9:SrAt H9 t rs:=⟨e9,fun x hx=>(hOw9 x hx).1⟩
    have sh9:SHt (fun x=>x=d) H9 (.ref t):=sh_rows (c:=0) (m:=3) e9 av9 (by rw[List.length_map];omega) fun x hx=>⟨((owr_tg hOw9 av9 x hx).1 0).mono (by decide) (Nat.le_refl _),(owr_tg hOw9 av9 x hx).2⟩
    have pd9:PlD H9 2 (.ref t):=by
     obtain⟨c,hc⟩:=sh9.1;exact (hc.same hid_in).pld
    obtain⟨T9,pl9⟩:=pd9.pl;refine⟨w0,n,ts,pp,f,p1,us,p2,bs,.ref t,T9,rfl,hw9,hok,SqT.of ep9,SqT.of e19,SqT.of e29,usl,bsl,pl9,pd9,sh_big sh9 av9,fun x _ _=>hf x,fun b Hb sb hb=>?_⟩;have hbt:b=true:=hb.mpr ⟨t,rs,rfl,sr9,hSh⟩;subst hbt;refine⟨true,rfl,?_⟩;rw[if_neg (by decide)];rw[tFor_eq];walk_at "rd";obtain⟨q1,hw1,hq1⟩:=id (hw9.tp sb.tp);refine⟨_,SqT.of hw1,_,rfl,fun x=>x=d,n,t,rs,rfl,av9.same sb,g3,by omega,sb _ _ e9,hrl,hOw9.tp sb.tp,fun bl xb Hc sc nbl ebl hbl hxb=>?_⟩;refine⟨fun x=>x=d,rfl,(av9.same sb).same sc,fun od xo Hd sd nod eod hol hxo=>?_⟩;refine catL_use (sd _ _ ebl) eod (by rw[hol];omega) fun th He nth se eth=>⟨th,rfl,⟨_,SqL.of eth⟩,?_⟩
    have S:=(sb.trans sc).trans (sd.trans se);have avE:=av9.same S;have hall:∀ x∈xb++xo,SHt (fun x=>x=d) He x:=fun x hx=>by
     rcases List.mem_append.mp hx with hx | hx
     ·exact (hxb x hx).same (sd.trans se)
     ·obtain⟨⟨c,hc⟩,_,hn⟩:=hxo x hx;refine (sh_no (hc.mono (by decide) (by decide)) fun a ys ea e2 z hz r zs er=>?_).same se;obtain⟨i,rfl⟩:=hn a ys ea e2 z hz;cases er
    refine for_list (K:=K) (xs:=xb++xo) (inv_l22c He d w0 np p1 p2 pp t v0 _) ⟨_,_,_,_,rfl,Same.refl He⟩ ?_ ?_ ?_
    ·rintro j σ Hf _ ⟨_,_,_,_,rfl,sf⟩;exact SqL.of (sf _ _ eth)
    ·rintro j v σ Hf hv ⟨v9,v10,v11,v12,rfl,sf⟩;have S9f:=S.trans sf;have avf:=avE.same sf;have hT:=(hall v (List.mem_of_getElem? hv)).same sf;obtain⟨k,hk⟩:=id hT.1;have hk':=hk.same hid_in;have hpd:PlD Hf 2 v:=hk'.pld;obtain⟨T,hP⟩:=hpd.pl;walk_at "rd";refine⟨np,as,n,ts,pp,f,p1,us,p2,bs,v,T,rfl,hR9.same S9f,hok,SqT.of (S9f _ _ ep9),SqT.of (S9f _ _ e19),SqT.of (S9f _ _ e29),hP,hpd,sh_len hT avf,sh_big hT avf,fun x _ _=>hf x,fun b Hg sg hb=>?_⟩;have hke:=hk'.same sg;refine Tg.repr hke (by decide) (by decide) fun z hz=>?_
     have S9g:=S9f.trans sg;have hTg:=hT.same sg;refine⟨w0,n,ts,pp,f,p1,us,p2,bs,v,T,rfl,hw9.tp S9g.tp,hok,SqT.of (S9g _ _ ep9),SqT.of (S9g _ _ e19),SqT.of (S9g _ _ e29),usl,bsl,hP.mono sg,hpd.mono sg,sh_big hTg (avf.same sg),fun x _ _=>hf x,fun b2 Hh sh hb2=>?_⟩;have e:b2=b:=by rw[Bool.eq_iff_iff,hb2,hb,IsSh.iff hpd sg]
     subst e;refine⟨b2,b2,rfl,_,rfl,?_⟩;rw[if_neg (by simp)];refine hz sh ⟨rfl,?_⟩;rw[if_neg (by simp)];exact⟨_,_,_,_,rfl,sf.trans (sg.trans sh)⟩
    ·rintro σ Hf ⟨v9,v10,v11,v12,rfl,sf⟩;exact⟨_,_,_,_,_,_,_,_,_,_,_,_,rfl,d9.same (S.trans sf)⟩
  ·rintro σ Hc ⟨v0,v2,v3,v4,v5,v6,v7,v8,v9,v10,v11,v12,rfl,dc⟩;walk_at "rd";exact q Hc
end
end K22
end
section
set_option Elab.async false
set_option linter.all false
set_option maxRecDepth 100000
set_option maxHeartbeats 4000000
namespace K22
open PySem L2
def vs (s:String)(t:Tok):Value:=.str (Str.ofString s) t
def vi (i:Int)(t:Tok):Value:=.int i t
def vr (a:Addr):Value:=.ref a
def vn:Value:=.none
def fcp:Tok→Value:=vs "/claim/cut.py"
def de (P:Params)(s:String)(t:Tok)(v:Value):DictEntry:=⟨PyData.keyHash P (Str.ofString s),.str (Str.ofString s) t,v⟩
def ot (a:Array Value)(l:Array (Option Value)):Obj:=⟨.type "tuple",none,.seq a,l⟩
def oc (a:Array Value)(l:Array (Option Value)):Obj:=⟨.type "code",none,.fields a,l⟩
def fo (n:String)(i:Nat)(g:Addr)(cl:List (Str×Addr))(a b c d:Value)(e:Option Addr)(f h:Value)(k:Addr):Obj:=⟨.type "function",none,.func ⟨Str.ofString n,Str.ofString n,defArgs (top i),.stmts (defBody (top i)),defScope (top i),g,cl,a,b,c,d,e,f,h,k⟩,#[]⟩
def heapK:Params→PySem.W.Frag:=fun P=>(nat_lit 2,Obj.mk vn none (Data.dict #[]) #[])::(nat_lit 3,Obj.mk (Value.type "dict") none (Data.dict #[de P "__name__" 165 (vs "law_manyleaves_k22_bent_shares" 311),de P "__doc__" 166 vn,de P "__package__" 167 vn,de P "__loader__" 168 (Value.builtin "__main__.__loader__#opaque"),de P "__spec__" 169 vn,de P "__annotations__" 170 (vr 6),de P "__builtins__" 171 (vr 4),de P "__file__" 173 (fcp 172),de P "__cached__" 174 vn,de P "is_int" 195 (vr 21),de P "is_between" 204 (vr 28),de P "neighbour_rows" 212 (vr 33),de P "is_place" 222 (vr 40),de P "lot_rows" 228 (vr 45),de P "have_common" 234 (vr 50),de P "places_but" 240 (vr 55),de P "free_places" 249 (vr 62),de P "common_part" 257 (vr 69),de P "added" 268 (vr 76),de P "is_share_row" 281 (vr 83),de P "are_share_rows" 291 (vr 90),de P "are_within_prices" 297 (vr 95),de P "right_shares" 310 (vr 102),de P "_law_mixed" 321 (vr 109),de P "_law_deck" 327 (vr 114),de P "_law_next" 334 (vr 121),de P "_law_turn" 340 (vr 126),de P "_law_web" 346 (vr 131),de P "_law_near" 352 (vr 136),de P "_law_is_int" 361 (vr 143),de P "_law_state" 374 (vr 150),de P "_law_prices" 380 (vr 155),de P "_law_lot" 388 (vr 162),de P "_law_truth" 396 (vr 169),de P "_law_odd" 402 (vr 176),de P "_law_gcd" 410 (vr 183),de P "_law_sum" 421 (vr 190),de P "_law_is_row" 427 (vr 195),de P "_law_are_shares" 433 (vr 200),de P "_law_raised" 439 (vr 205),de P "_law_bent_row" 445 (vr 210),de P "_law_bent" 451 (vr 215),de P "law" 457 (vr 220)] 43) #[])::(nat_lit 15,ot (#[]) #[])::(nat_lit 17,ot (#[vs "thing" 192]) #[])::(nat_lit 18,ot (#[]) #[])::(nat_lit 20,oc (#[vs "is_int" 189,vs "is_int" 190,fcp 191,vi 2 0,vi 1 0,vi 0 0,vi 0 0,vi 3 0,vr 15,Value.bool true,vi 181 0,vr 16,vn,vr 17,vr 18,vr 19,vi 193 0,vi 2 0,fcp 194]) #[])::(nat_lit 21,fo "is_int" 1 3 [] vn vn vn (vs "manyleaves.ints" 187) none (vr 20) vn 0)::(nat_lit 22,ot (#[]) #[])::(nat_lit 24,ot (#[vs "thing" 199,vs "least" 200,vs "most" 201]) #[])::(nat_lit 25,ot (#[]) #[])::(nat_lit 27,oc (#[vs "is_between" 196,vs "is_between" 197,fcp 198,vi 4 0,vi 3 0,vi 0 0,vi 0 0,vi 3 0,vr 22,Value.bool true,vi 181 0,vr 23,vn,vr 24,vr 25,vr 26,vi 202 0,vi 4 0,fcp 203]) #[])::(nat_lit 28,fo "is_between" 2 3 [] vn vn vn (vs "manyleaves.ints" 187) none (vr 27) vn 0)::(nat_lit 29,ot (#[]) #[])::(nat_lit 32,oc (#[vs "neighbour_rows" 207,vs "neighbour_rows" 208,fcp 209,vi 7 0,vi 1 0,vi 0 0,vi 0 0,vi 3 0,vr 29,Value.bool true,vi 181 0,vr 30,vn,vn,vn,vr 31,vi 210 0,vi 7 0,fcp 211]) #[])::(nat_lit 33,fo "neighbour_rows" 4 3 [] vn vn vn (vs "manyleaves.webs" 205) none (vr 32) vn 0)::(nat_lit 34,ot (#[]) #[])::(nat_lit 36,ot (#[vs "web" 218,vs "thing" 219]) #[])::(nat_lit 37,ot (#[]) #[])::(nat_lit 39,oc (#[vs "is_place" 215,vs "is_place" 216,fcp 217,vi 15 0,vi 2 0,vi 0 0,vi 0 0,vi 3 0,vr 34,Value.bool true,vi 181 0,vr 35,vn,vr 36,vr 37,vr 38,vi 220 0,vi 15 0,fcp 221]) #[])::(nat_lit 40,fo "is_place" 6 3 [] vn vn vn (vs "manyleaves.parts" 213) none (vr 39) vn 0)::(nat_lit 41,ot (#[]) #[])::(nat_lit 44,oc (#[vs "lot_rows" 223,vs "lot_rows" 224,fcp 225,vi 17 0,vi 1 0,vi 0 0,vi 0 0,vi 3 0,vr 41,Value.bool true,vi 181 0,vr 42,vn,vn,vn,vr 43,vi 226 0,vi 17 0,fcp 227]) #[])::(nat_lit 45,fo "lot_rows" 7 3 [] vn vn vn (vs "manyleaves.parts" 213) none (vr 44) vn 0)::(nat_lit 46,ot (#[]) #[])::(nat_lit 49,oc (#[vs "have_common" 229,vs "have_common" 230,fcp 231,vi 19 0,vi 2 0,vi 0 0,vi 0 0,vi 3 0,vr 46,Value.bool true,vi 181 0,vr 47,vn,vn,vn,vr 48,vi 232 0,vi 19 0,fcp 233]) #[])::(nat_lit 50,fo "have_common" 8 3 [] vn vn vn (vs "manyleaves.parts" 213) none (vr 49) vn 0)::(nat_lit 51,ot (#[]) #[])::(nat_lit 54,oc (#[vs "places_but" 235,vs "places_but" 236,fcp 237,vi 21 0,vi 2 0,vi 0 0,vi 0 0,vi 3 0,vr 51,Value.bool true,vi 181 0,vr 52,vn,vn,vn,vr 53,vi 238 0,vi 21 0,fcp 239]) #[])::(nat_lit 55,fo "places_but" 9 3 [] vn vn vn (vs "manyleaves.parts" 213) none (vr 54) vn 0)::(nat_lit 56,ot (#[]) #[])::(nat_lit 58,ot (#[vs "web" 244,vs "held" 245,vs "barred" 246]) #[])::(nat_lit 59,ot (#[]) #[])::(nat_lit 61,oc (#[vs "free_places" 241,vs "free_places" 242,fcp 243,vi 24 0,vi 3 0,vi 0 0,vi 0 0,vi 3 0,vr 56,Value.bool true,vi 181 0,vr 57,vn,vr 58,vr 59,vr 60,vi 247 0,vi 24 0,fcp 248]) #[])::(nat_lit 62,fo "free_places" 10 3 [] vn vn vn (vs "manyleaves.parts" 213) none (vr 61) vn 0)::(nat_lit 63,ot (#[]) #[])::(nat_lit 65,ot (#[vs "one" 253,vs "other" 254]) #[])::(nat_lit 66,ot (#[]) #[])::(nat_lit 68,oc (#[vs "common_part" 250,vs "common_part" 251,fcp 252,vi 26 0,vi 2 0,vi 0 0,vi 0 0,vi 3 0,vr 63,Value.bool true,vi 181 0,vr 64,vn,vr 65,vr 66,vr 67,vi 255 0,vi 26 0,fcp 256]) #[])::(nat_lit 69,fo "common_part" 11 3 [] vn vn vn (vs "manyleaves.parts" 213) none (vr 68) vn 0)::(nat_lit 70,ot (#[]) #[])::(nat_lit 72,ot (#[vs "fractions" 261,vs "top" 262,vs "bottom" 263,vs "more_top" 264,vs "more_bottom" 265]) #[])::(nat_lit 73,ot (#[]) #[])::(nat_lit 75,oc (#[vs "added" 258,vs "added" 259,fcp 260,vi 30 0,vi 1 0,vi 0 0,vi 0 0,vi 3 0,vr 70,Value.bool true,vi 181 0,vr 71,vn,vr 72,vr 73,vr 74,vi 266 0,vi 30 0,fcp 267]) #[])::(nat_lit 76,fo "added" 12 3 [] vn vn vn (vs "manyleaves.parts" 213) none (vr 75) vn 0)::(nat_lit 77,ot (#[]) #[])::(nat_lit 79,ot (#[vs "web" 274,vs "thing" 275,vs "place" 276,vs "top" 277,vs "bottom" 278]) #[])::(nat_lit 80,ot (#[]) #[])::(nat_lit 82,oc (#[vs "is_share_row" 271,vs "is_share_row" 272,fcp 273,vi 36 0,vi 2 0,vi 0 0,vi 0 0,vi 3 0,vr 77,Value.bool true,vi 181 0,vr 78,vn,vr 79,vr 80,vr 81,vi 279 0,vi 36 0,fcp 280]) #[])::(nat_lit 83,fo "is_share_row" 14 3 [] vn vn vn (vs "manyleaves.shares" 269) none (vr 82) vn 0)::(nat_lit 84,ot (#[]) #[])::(nat_lit 86,ot (#[vs "web" 285,vs "thing" 286,vs "ahead" 287,vs "row" 288]) #[])::(nat_lit 87,ot (#[]) #[])::(nat_lit 89,oc (#[vs "are_share_rows" 282,vs "are_share_rows" 283,fcp 284,vi 43 0,vi 2 0,vi 0 0,vi 0 0,vi 3 0,vr 84,Value.bool true,vi 181 0,vr 85,vn,vr 86,vr 87,vr 88,vi 289 0,vi 43 0,fcp 290]) #[])::(nat_lit 90,fo "are_share_rows" 15 3 [] vn vn vn (vs "manyleaves.shares" 269) none (vr 89) vn 0)::(nat_lit 91,ot (#[]) #[])::(nat_lit 94,oc (#[vs "are_within_prices" 292,vs "are_within_prices" 293,fcp 294,vi 52 0,vi 4 0,vi 0 0,vi 0 0,vi 3 0,vr 91,Value.bool true,vi 181 0,vr 92,vn,vn,vn,vr 93,vi 295 0,vi 52 0,fcp 296]) #[])::(nat_lit 95,fo "are_within_prices" 16 3 [] vn vn vn (vs "manyleaves.shares" 269) none (vr 94) vn 0)::(nat_lit 96,ot (#[]) #[])::(nat_lit 98,ot (#[vs "web" 301,vs "prices" 302,vs "held" 303,vs "barred" 304,vs "thing" 305,vs "lots" 306,vs "row" 307]) #[])::(nat_lit 99,ot (#[]) #[])::(nat_lit 101,oc (#[vs "right_shares" 298,vs "right_shares" 299,fcp 300,vi 60 0,vi 5 0,vi 0 0,vi 0 0,vi 3 0,vr 96,Value.bool true,vi 181 0,vr 97,vn,vr 98,vr 99,vr 100,vi 308 0,vi 60 0,fcp 309]) #[])::(nat_lit 102,fo "right_shares" 17 3 [] vn vn vn (vs "manyleaves.shares" 269) none (vr 101) vn 0)::(nat_lit 103,ot (#[]) #[])::(nat_lit 105,ot (#[vs "_law_cell" 316,vs "_law_k" 317,vs "_law_number" 318]) #[])::(nat_lit 106,ot (#[]) #[])::(nat_lit 108,oc (#[vs "_law_mixed" 313,vs "_law_mixed" 314,fcp 315,vi 69 0,vi 2 0,vi 0 0,vi 0 0,vi 3 0,vr 103,Value.bool true,vi 181 0,vr 104,vn,vr 105,vr 106,vr 107,vi 319 0,vi 69 0,fcp 320]) #[])::(nat_lit 109,fo "_law_mixed" 19 3 [] vn vn vn (vs "law_manyleaves_k22_bent_shares" 311) none (vr 108) vn 0)::(nat_lit 110,ot (#[]) #[])::(nat_lit 113,oc (#[vs "_law_deck" 322,vs "_law_deck" 323,fcp 324,vi 74 0,vi 2 0,vi 0 0,vi 0 0,vi 3 0,vr 110,Value.bool true,vi 181 0,vr 111,vn,vn,vn,vr 112,vi 325 0,vi 74 0,fcp 326]) #[])::(nat_lit 114,fo "_law_deck" 20 3 [] vn vn vn (vs "law_manyleaves_k22_bent_shares" 311) none (vr 113) vn 0)::(nat_lit 115,ot (#[]) #[])::(nat_lit 117,ot (#[vs "_law_deck_here" 331]) #[])::(nat_lit 118,ot (#[]) #[])::(nat_lit 120,oc (#[vs "_law_next" 328,vs "_law_next" 329,fcp 330,vi 86 0,vi 1 0,vi 0 0,vi 0 0,vi 3 0,vr 115,Value.bool true,vi 181 0,vr 116,vn,vr 117,vr 118,vr 119,vi 332 0,vi 86 0,fcp 333]) #[])::(nat_lit 121,fo "_law_next" 21 3 [] vn vn vn (vs "law_manyleaves_k22_bent_shares" 311) none (vr 120) vn 0)::(nat_lit 122,ot (#[]) #[])::(nat_lit 125,oc (#[vs "_law_turn" 335,vs "_law_turn" 336,fcp 337,vi 90 0,vi 2 0,vi 0 0,vi 0 0,vi 3 0,vr 122,Value.bool true,vi 181 0,vr 123,vn,vn,vn,vr 124,vi 338 0,vi 90 0,fcp 339]) #[])::(nat_lit 126,fo "_law_turn" 22 3 [] vn vn vn (vs "law_manyleaves_k22_bent_shares" 311) none (vr 125) vn 0)::(nat_lit 127,ot (#[]) #[])::(nat_lit 130,oc (#[vs "_law_web" 341,vs "_law_web" 342,fcp 343,vi 92 0,vi 3 0,vi 0 0,vi 0 0,vi 3 0,vr 127,Value.bool true,vi 181 0,vr 128,vn,vn,vn,vr 129,vi 344 0,vi 92 0,fcp 345]) #[])::(nat_lit 131,fo "_law_web" 23 3 [] vn vn vn (vs "law_manyleaves_k22_bent_shares" 311) none (vr 130) vn 0)::(nat_lit 132,ot (#[]) #[])::(nat_lit 135,oc (#[vs "_law_near" 347,vs "_law_near" 348,fcp 349,vi 111 0,vi 1 0,vi 0 0,vi 0 0,vi 3 0,vr 132,Value.bool true,vi 181 0,vr 133,vn,vn,vn,vr 134,vi 350 0,vi 111 0,fcp 351]) #[])::(nat_lit 136,fo "_law_near" 24 3 [] vn vn vn (vs "law_manyleaves_k22_bent_shares" 311) none (vr 135) vn 0)::(nat_lit 137,ot (#[]) #[])::(nat_lit 139,ot (#[vs "_law_thing" 356,vs "_law_least" 357,vs "_law_most" 358]) #[])::(nat_lit 140,ot (#[]) #[])::(nat_lit 142,oc (#[vs "_law_is_int" 353,vs "_law_is_int" 354,fcp 355,vi 117 0,vi 3 0,vi 0 0,vi 0 0,vi 3 0,vr 137,Value.bool true,vi 181 0,vr 138,vn,vr 139,vr 140,vr 141,vi 359 0,vi 117 0,fcp 360]) #[])::(nat_lit 143,fo "_law_is_int" 25 3 [] vn vn vn (vs "law_manyleaves_k22_bent_shares" 311) none (vr 142) vn 0)::(nat_lit 144,ot (#[]) #[])::(nat_lit 146,ot (#[vs "_law_deck_here" 365,vs "_law_places" 366,vs "_law_held" 367,vs "_law_barred" 368,vs "_law_way" 369,vs "_law_place" 370,vs "_law_cell" 371]) #[])::(nat_lit 147,ot (#[]) #[])::(nat_lit 149,oc (#[vs "_law_state" 362,vs "_law_state" 363,fcp 364,vi 119 0,vi 2 0,vi 0 0,vi 0 0,vi 3 0,vr 144,Value.bool true,vi 181 0,vr 145,vn,vr 146,vr 147,vr 148,vi 372 0,vi 119 0,fcp 373]) #[])::(nat_lit 150,fo "_law_state" 26 3 [] vn vn vn (vs "law_manyleaves_k22_bent_shares" 311) none (vr 149) vn 0)::(nat_lit 151,ot (#[]) #[])::(nat_lit 154,oc (#[vs "_law_prices" 375,vs "_law_prices" 376,fcp 377,vi 130 0,vi 2 0,vi 0 0,vi 0 0,vi 3 0,vr 151,Value.bool true,vi 181 0,vr 152,vn,vn,vn,vr 153,vi 378 0,vi 130 0,fcp 379]) #[])::(nat_lit 155,fo "_law_prices" 27 3 [] vn vn vn (vs "law_manyleaves_k22_bent_shares" 311) none (vr 154) vn 0)::(nat_lit 156,ot (#[]) #[])::(nat_lit 158,ot (#[vs "_law_near_here" 384,vs "_law_p" 385]) #[])::(nat_lit 159,ot (#[]) #[])::(nat_lit 161,oc (#[vs "_law_lot" 381,vs "_law_lot" 382,fcp 383,vi 133 0,vi 2 0,vi 0 0,vi 0 0,vi 3 0,vr 156,Value.bool true,vi 181 0,vr 157,vn,vr 158,vr 159,vr 160,vi 386 0,vi 133 0,fcp 387]) #[])::(nat_lit 162,fo "_law_lot" 28 3 [] vn vn vn (vs "law_manyleaves_k22_bent_shares" 311) none (vr 161) vn 0)::(nat_lit 163,ot (#[]) #[])::(nat_lit 165,ot (#[vs "_law_found" 392,vs "_law_due" 393]) #[])::(nat_lit 166,ot (#[]) #[])::(nat_lit 168,oc (#[vs "_law_truth" 389,vs "_law_truth" 390,fcp 391,vi 135 0,vi 2 0,vi 0 0,vi 0 0,vi 3 0,vr 163,Value.bool true,vi 181 0,vr 164,vn,vr 165,vr 166,vr 167,vi 394 0,vi 135 0,fcp 395]) #[])::(nat_lit 169,fo "_law_truth" 29 3 [] vn vn vn (vs "law_manyleaves_k22_bent_shares" 311) none (vr 168) vn 0)::(nat_lit 170,ot (#[]) #[])::(nat_lit 172,ot (#[]) #[])::(nat_lit 173,ot (#[]) #[])::(nat_lit 175,oc (#[vs "_law_odd" 397,vs "_law_odd" 398,fcp 399,vi 137 0,vi 0 0,vi 0 0,vi 0 0,vi 3 0,vr 170,Value.bool true,vi 181 0,vr 171,vn,vr 172,vr 173,vr 174,vi 400 0,vi 137 0,fcp 401]) #[])::(nat_lit 176,fo "_law_odd" 30 3 [] vn vn vn (vs "law_manyleaves_k22_bent_shares" 311) none (vr 175) vn 0)::(nat_lit 177,ot (#[]) #[])::(nat_lit 179,ot (#[vs "_law_one" 406,vs "_law_other" 407]) #[])::(nat_lit 180,ot (#[]) #[])::(nat_lit 182,oc (#[vs "_law_gcd" 403,vs "_law_gcd" 404,fcp 405,vi 139 0,vi 2 0,vi 0 0,vi 0 0,vi 3 0,vr 177,Value.bool true,vi 181 0,vr 178,vn,vr 179,vr 180,vr 181,vi 408 0,vi 139 0,fcp 409]) #[])::(nat_lit 183,fo "_law_gcd" 31 3 [] vn vn vn (vs "law_manyleaves_k22_bent_shares" 311) none (vr 182) vn 0)::(nat_lit 184,ot (#[]) #[])::(nat_lit 186,ot (#[vs "_law_fractions" 414,vs "_law_top" 415,vs "_law_bottom" 416,vs "_law_one" 417,vs "_law_other" 418]) #[])::(nat_lit 187,ot (#[]) #[])::(nat_lit 189,oc (#[vs "_law_sum" 411,vs "_law_sum" 412,fcp 413,vi 143 0,vi 1 0,vi 0 0,vi 0 0,vi 3 0,vr 184,Value.bool true,vi 181 0,vr 185,vn,vr 186,vr 187,vr 188,vi 419 0,vi 143 0,fcp 420]) #[])::(nat_lit 190,fo "_law_sum" 32 3 [] vn vn vn (vs "law_manyleaves_k22_bent_shares" 311) none (vr 189) vn 0)::(nat_lit 191,ot (#[]) #[])::(nat_lit 194,oc (#[vs "_law_is_row" 422,vs "_law_is_row" 423,fcp 424,vi 148 0,vi 3 0,vi 0 0,vi 0 0,vi 3 0,vr 191,Value.bool true,vi 181 0,vr 192,vn,vn,vn,vr 193,vi 425 0,vi 148 0,fcp 426]) #[])::(nat_lit 195,fo "_law_is_row" 33 3 [] vn vn vn (vs "law_manyleaves_k22_bent_shares" 311) none (vr 194) vn 0)::(nat_lit 196,ot (#[]) #[])::(nat_lit 199,oc (#[vs "_law_are_shares" 428,vs "_law_are_shares" 429,fcp 430,vi 157 0,vi 5 0,vi 0 0,vi 0 0,vi 3 0,vr 196,Value.bool true,vi 181 0,vr 197,vn,vn,vn,vr 198,vi 431 0,vi 157 0,fcp 432]) #[])::(nat_lit 200,fo "_law_are_shares" 34 3 [] vn vn vn (vs "law_manyleaves_k22_bent_shares" 311) none (vr 199) vn 0)::(nat_lit 201,ot (#[]) #[])::(nat_lit 204,oc (#[vs "_law_raised" 434,vs "_law_raised" 435,fcp 436,vi 169 0,vi 5 0,vi 0 0,vi 0 0,vi 3 0,vr 201,Value.bool true,vi 181 0,vr 202,vn,vn,vn,vr 203,vi 437 0,vi 169 0,fcp 438]) #[])::(nat_lit 205,fo "_law_raised" 35 3 [] vn vn vn (vs "law_manyleaves_k22_bent_shares" 311) none (vr 204) vn 0)::(nat_lit 206,ot (#[]) #[])::(nat_lit 209,oc (#[vs "_law_bent_row" 440,vs "_law_bent_row" 441,fcp 442,vi 182 0,vi 2 0,vi 0 0,vi 0 0,vi 3 0,vr 206,Value.bool true,vi 181 0,vr 207,vn,vn,vn,vr 208,vi 443 0,vi 182 0,fcp 444]) #[])::(nat_lit 210,fo "_law_bent_row" 36 3 [] vn vn vn (vs "law_manyleaves_k22_bent_shares" 311) none (vr 209) vn 0)::(nat_lit 211,ot (#[]) #[])::(nat_lit 214,oc (#[vs "_law_bent" 446,vs "_law_bent" 447,fcp 448,vi 189 0,vi 2 0,vi 0 0,vi 0 0,vi 3 0,vr 211,Value.bool true,vi 181 0,vr 212,vn,vn,vn,vr 213,vi 449 0,vi 189 0,fcp 450]) #[])::(nat_lit 215,fo "_law_bent" 37 3 [] vn vn vn (vs "law_manyleaves_k22_bent_shares" 311) none (vr 214) vn 0)::(nat_lit 216,ot (#[]) #[])::(nat_lit 219,oc (#[vs "law" 452,vs "law" 453,fcp 454,vi 195 0,vi 1 0,vi 0 0,vi 0 0,vi 3 0,vr 216,Value.bool true,vi 181 0,vr 217,vn,vn,vn,vr 218,vi 455 0,vi 195 0,fcp 456]) #[])::(nat_lit 220,fo "law" 38 3 [] vn vn vn (vs "law_manyleaves_k22_bent_shares" 311) none (vr 219) vn 0)::[]
def viewP:Program:={PySem.Challenge.pw_manyleaves_k22_bent_shares with main:={PySem.Challenge.pw_manyleaves_k22_bent_shares.main with body:=[top 1,top 2,top 4,top 6,top 7,top 8,top 9,top 10,top 11,top 12,top 14,top 15,top 16,top 17,top 19,top 20,top 21,top 22,top 23,top 24,top 25,top 26,top 27,top 28,top 29,top 30,top 31,top 32,top 33,top 34,top 35,top 36,top 37,top 38]}}
def addrs:List Addr:=[2,3,15,17,18,20,21,22,24,25,27,28,29,32,33,34,36,37,39,40,41,44,45,46,49,50,51,54,55,56,58,59,61,62,63,65,66,68,69,70,72,73,75,76,77,79,80,82,83,84,86,87,89,90,91,94,95,96,98,99,101,102,103,105,106,108,109,110,113,114,115,117,118,120,121,122,125,126,127,130,131,132,135,136,137,139,140,142,143,144,146,147,149,150,151,154,155,156,158,159,161,162,163,165,166,168,169,170,172,173,175,176,177,179,180,182,183,184,186,187,189,190,191,194,195,196,199,200,201,204,205,206,209,210,211,214,215,216,219,220]
theorem addr:∀ P,addrs=(heapK P).map (·.1):=fun _=>by kernel_rfl
theorem all_mk {l:PySem.W.OpenLaw}{w:World}{K:PySem.W.Frag}{h:Heap}{mg:Str→Option Value}{fa f1 f2 f3 f4 f5 f6 f7 f8 f9 f10 f11 f12 f13 f14 f15 f16 f17 f18 f19 f20 f21 f22 f23 f24 f25 f26 f27 f28 f29 f30 f31 f32 f33 f34:Addr}(X:K.In h)(G:h.Ns mainGlobals mg)(hfa:mg "law"=some (.ref fa))
  {od1 an1 od2 an2 od3 an3 od4 an4 od5 an5 od6 an6 od7 an7 od8 an8 od9 an9 od10 an10 od11 an11 od12 an12 od13 an13 od14 an14 od15 an15 od16 an16 od17 an17 od18 an18 od19 an19 od20 an20 od21 an21 od22 an22 od23 an23 od24 an24 od25 an25 od26 an26 od27 an27 od28 an28 od29 an29 od30 an30 od31 an31 od32 an32 od33 an33 od34 an34:Option Addr} {sl1 sl2 sl3 sl4 sl5 sl6 sl7 sl8 sl9 sl10 sl11 sl12 sl13 sl14 sl15 sl16 sl17 sl18 sl19 sl20 sl21 sl22 sl23 sl24 sl25 sl26 sl27 sl28 sl29 sl30 sl31 sl32 sl33 sl34:Array (Option Value)} {oc1 kV1 dc1 pm1 cd1 ct1 oc2 kV2 dc2 pm2 cd2 ct2 oc3 kV3 dc3 pm3 cd3 ct3 oc4 kV4 dc4 pm4 cd4 ct4 oc5 kV5 dc5 pm5 cd5 ct5 oc6 kV6 dc6 pm6 cd6 ct6 oc7 kV7 dc7 pm7 cd7 ct7 oc8 kV8 dc8 pm8 cd8 ct8 oc9 kV9 dc9 pm9 cd9 ct9 oc10 kV10 dc10 pm10 cd10 ct10 oc11 kV11 dc11 pm11 cd11 ct11 oc12 kV12 dc12 pm12 cd12 ct12 oc13 kV13 dc13 pm13 cd13 ct13 oc14 kV14 dc14 pm14 cd14 ct14 oc15 kV15 dc15 pm15 cd15 ct15 oc16 kV16 dc16 pm16 cd16 ct16 oc17 kV17 dc17 pm17 cd17 ct17 oc18 kV18 dc18 pm18 cd18 ct18 oc19 kV19 dc19 pm19 cd19 ct19 oc20 kV20 dc20 pm20 cd20 ct20 oc21 kV21 dc21 pm21 cd21 ct21 oc22 kV22 dc22 pm22 cd22 ct22 oc23 kV23 dc23 pm23 cd23 ct23 oc24 kV24 dc24 pm24 cd24 ct24 oc25 kV25 dc25 pm25 cd25 ct25 oc26 kV26 dc26 pm26 cd26 ct26 oc27 kV27 dc27 pm27 cd27 ct27 oc28 kV28 dc28 pm28 cd28 ct28 oc29 kV29 dc29 pm29 cd29 ct29 oc30 kV30 dc30 pm30 cd30 ct30 oc31 kV31 dc31 pm31 cd31 ct31 oc32 kV32 dc32 pm32 cd32 ct32 oc33 kV33 dc33 pm33 cd33 ct33 oc34 kV34 dc34 pm34 cd34 ct34:Value}
  (a1:PySem.W.nsIn K mainGlobals "_law_mixed"=some (some (.ref f1))) (l1:K.lookup f1=some ⟨oc1,od1,.func (PySem.W.fnOf "_law_mixed" "_law_mixed" (defArgs (top 19)) (defBody (top 19)) (defScope (top 19)) .none kV1 dc1 pm1 an1 cd1 ct1),sl1⟩) (c1:PySem.W.codeIn K cd1 "_law_mixed"=true) (k1:PySem.W.keepIn K (.ref f1)=true)
  (a2:PySem.W.nsIn K mainGlobals "_law_next"=some (some (.ref f2))) (l2:K.lookup f2=some ⟨oc2,od2,.func (PySem.W.fnOf "_law_next" "_law_next" (defArgs (top 21)) (defBody (top 21)) (defScope (top 21)) .none kV2 dc2 pm2 an2 cd2 ct2),sl2⟩) (c2:PySem.W.codeIn K cd2 "_law_next"=true) (k2:PySem.W.keepIn K (.ref f2)=true)
  (a3:PySem.W.nsIn K mainGlobals "_law_deck"=some (some (.ref f3))) (l3:K.lookup f3=some ⟨oc3,od3,.func (PySem.W.fnOf "_law_deck" "_law_deck" (defArgs (top 20)) (defBody (top 20)) (defScope (top 20)) .none kV3 dc3 pm3 an3 cd3 ct3),sl3⟩) (c3:PySem.W.codeIn K cd3 "_law_deck"=true) (k3:PySem.W.keepIn K (.ref f3)=true)
  (a4:PySem.W.nsIn K mainGlobals "_law_turn"=some (some (.ref f4))) (l4:K.lookup f4=some ⟨oc4,od4,.func (PySem.W.fnOf "_law_turn" "_law_turn" (defArgs (top 22)) (defBody (top 22)) (defScope (top 22)) .none kV4 dc4 pm4 an4 cd4 ct4),sl4⟩) (c4:PySem.W.codeIn K cd4 "_law_turn"=true) (k4:PySem.W.keepIn K (.ref f4)=true)
  (a5:PySem.W.nsIn K mainGlobals "_law_web"=some (some (.ref f5))) (l5:K.lookup f5=some ⟨oc5,od5,.func (PySem.W.fnOf "_law_web" "_law_web" (defArgs (top 23)) (defBody (top 23)) (defScope (top 23)) .none kV5 dc5 pm5 an5 cd5 ct5),sl5⟩) (c5:PySem.W.codeIn K cd5 "_law_web"=true) (k5:PySem.W.keepIn K (.ref f5)=true)
  (a6:PySem.W.nsIn K mainGlobals "_law_near"=some (some (.ref f6))) (l6:K.lookup f6=some ⟨oc6,od6,.func (PySem.W.fnOf "_law_near" "_law_near" (defArgs (top 24)) (defBody (top 24)) (defScope (top 24)) .none kV6 dc6 pm6 an6 cd6 ct6),sl6⟩) (c6:PySem.W.codeIn K cd6 "_law_near"=true) (k6:PySem.W.keepIn K (.ref f6)=true)
  (a7:PySem.W.nsIn K mainGlobals "neighbour_rows"=some (some (.ref f7))) (l7:K.lookup f7=some ⟨oc7,od7,.func (PySem.W.fnOf "neighbour_rows" "neighbour_rows" (defArgs (top 4)) (defBody (top 4)) (defScope (top 4)) .none kV7 dc7 pm7 an7 cd7 ct7),sl7⟩) (c7:PySem.W.codeIn K cd7 "neighbour_rows"=true) (k7:PySem.W.keepIn K (.ref f7)=true)
  (a8:PySem.W.nsIn K mainGlobals "is_int"=some (some (.ref f8))) (l8:K.lookup f8=some ⟨oc8,od8,.func (PySem.W.fnOf "is_int" "is_int" (defArgs (top 1)) (defBody (top 1)) (defScope (top 1)) .none kV8 dc8 pm8 an8 cd8 ct8),sl8⟩) (c8:PySem.W.codeIn K cd8 "is_int"=true) (k8:PySem.W.keepIn K (.ref f8)=true)
  (a9:PySem.W.nsIn K mainGlobals "is_between"=some (some (.ref f9))) (l9:K.lookup f9=some ⟨oc9,od9,.func (PySem.W.fnOf "is_between" "is_between" (defArgs (top 2)) (defBody (top 2)) (defScope (top 2)) .none kV9 dc9 pm9 an9 cd9 ct9),sl9⟩) (c9:PySem.W.codeIn K cd9 "is_between"=true) (k9:PySem.W.keepIn K (.ref f9)=true)
  (a10:PySem.W.nsIn K mainGlobals "is_place"=some (some (.ref f10))) (l10:K.lookup f10=some ⟨oc10,od10,.func (PySem.W.fnOf "is_place" "is_place" (defArgs (top 6)) (defBody (top 6)) (defScope (top 6)) .none kV10 dc10 pm10 an10 cd10 ct10),sl10⟩) (c10:PySem.W.codeIn K cd10 "is_place"=true) (k10:PySem.W.keepIn K (.ref f10)=true)
  (a11:PySem.W.nsIn K mainGlobals "common_part"=some (some (.ref f11))) (l11:K.lookup f11=some ⟨oc11,od11,.func (PySem.W.fnOf "common_part" "common_part" (defArgs (top 11)) (defBody (top 11)) (defScope (top 11)) .none kV11 dc11 pm11 an11 cd11 ct11),sl11⟩) (c11:PySem.W.codeIn K cd11 "common_part"=true) (k11:PySem.W.keepIn K (.ref f11)=true)
  (a12:PySem.W.nsIn K mainGlobals "is_share_row"=some (some (.ref f12))) (l12:K.lookup f12=some ⟨oc12,od12,.func (PySem.W.fnOf "is_share_row" "is_share_row" (defArgs (top 14)) (defBody (top 14)) (defScope (top 14)) .none kV12 dc12 pm12 an12 cd12 ct12),sl12⟩) (c12:PySem.W.codeIn K cd12 "is_share_row"=true) (k12:PySem.W.keepIn K (.ref f12)=true)
  (a13:PySem.W.nsIn K mainGlobals "lot_rows"=some (some (.ref f13))) (l13:K.lookup f13=some ⟨oc13,od13,.func (PySem.W.fnOf "lot_rows" "lot_rows" (defArgs (top 7)) (defBody (top 7)) (defScope (top 7)) .none kV13 dc13 pm13 an13 cd13 ct13),sl13⟩) (c13:PySem.W.codeIn K cd13 "lot_rows"=true) (k13:PySem.W.keepIn K (.ref f13)=true)
  (a14:PySem.W.nsIn K mainGlobals "have_common"=some (some (.ref f14))) (l14:K.lookup f14=some ⟨oc14,od14,.func (PySem.W.fnOf "have_common" "have_common" (defArgs (top 8)) (defBody (top 8)) (defScope (top 8)) .none kV14 dc14 pm14 an14 cd14 ct14),sl14⟩) (c14:PySem.W.codeIn K cd14 "have_common"=true) (k14:PySem.W.keepIn K (.ref f14)=true)
  (a15:PySem.W.nsIn K mainGlobals "places_but"=some (some (.ref f15))) (l15:K.lookup f15=some ⟨oc15,od15,.func (PySem.W.fnOf "places_but" "places_but" (defArgs (top 9)) (defBody (top 9)) (defScope (top 9)) .none kV15 dc15 pm15 an15 cd15 ct15),sl15⟩) (c15:PySem.W.codeIn K cd15 "places_but"=true) (k15:PySem.W.keepIn K (.ref f15)=true)
  (a16:PySem.W.nsIn K mainGlobals "free_places"=some (some (.ref f16))) (l16:K.lookup f16=some ⟨oc16,od16,.func (PySem.W.fnOf "free_places" "free_places" (defArgs (top 10)) (defBody (top 10)) (defScope (top 10)) .none kV16 dc16 pm16 an16 cd16 ct16),sl16⟩) (c16:PySem.W.codeIn K cd16 "free_places"=true) (k16:PySem.W.keepIn K (.ref f16)=true)
  (a17:PySem.W.nsIn K mainGlobals "_law_is_int"=some (some (.ref f17))) (l17:K.lookup f17=some ⟨oc17,od17,.func (PySem.W.fnOf "_law_is_int" "_law_is_int" (defArgs (top 25)) (defBody (top 25)) (defScope (top 25)) .none kV17 dc17 pm17 an17 cd17 ct17),sl17⟩) (c17:PySem.W.codeIn K cd17 "_law_is_int"=true) (k17:PySem.W.keepIn K (.ref f17)=true)
  (a18:PySem.W.nsIn K mainGlobals "_law_lot"=some (some (.ref f18))) (l18:K.lookup f18=some ⟨oc18,od18,.func (PySem.W.fnOf "_law_lot" "_law_lot" (defArgs (top 28)) (defBody (top 28)) (defScope (top 28)) .none kV18 dc18 pm18 an18 cd18 ct18),sl18⟩) (c18:PySem.W.codeIn K cd18 "_law_lot"=true) (k18:PySem.W.keepIn K (.ref f18)=true)
  (a19:PySem.W.nsIn K mainGlobals "_law_truth"=some (some (.ref f19))) (l19:K.lookup f19=some ⟨oc19,od19,.func (PySem.W.fnOf "_law_truth" "_law_truth" (defArgs (top 29)) (defBody (top 29)) (defScope (top 29)) .none kV19 dc19 pm19 an19 cd19 ct19),sl19⟩) (c19:PySem.W.codeIn K cd19 "_law_truth"=true) (k19:PySem.W.keepIn K (.ref f19)=true)
  (a20:PySem.W.nsIn K mainGlobals "_law_state"=some (some (.ref f20))) (l20:K.lookup f20=some ⟨oc20,od20,.func (PySem.W.fnOf "_law_state" "_law_state" (defArgs (top 26)) (defBody (top 26)) (defScope (top 26)) .none kV20 dc20 pm20 an20 cd20 ct20),sl20⟩) (c20:PySem.W.codeIn K cd20 "_law_state"=true) (k20:PySem.W.keepIn K (.ref f20)=true)
  (a21:PySem.W.nsIn K mainGlobals "_law_prices"=some (some (.ref f21))) (l21:K.lookup f21=some ⟨oc21,od21,.func (PySem.W.fnOf "_law_prices" "_law_prices" (defArgs (top 27)) (defBody (top 27)) (defScope (top 27)) .none kV21 dc21 pm21 an21 cd21 ct21),sl21⟩) (c21:PySem.W.codeIn K cd21 "_law_prices"=true) (k21:PySem.W.keepIn K (.ref f21)=true)
  (a22:PySem.W.nsIn K mainGlobals "_law_gcd"=some (some (.ref f22))) (l22:K.lookup f22=some ⟨oc22,od22,.func (PySem.W.fnOf "_law_gcd" "_law_gcd" (defArgs (top 31)) (defBody (top 31)) (defScope (top 31)) .none kV22 dc22 pm22 an22 cd22 ct22),sl22⟩) (c22:PySem.W.codeIn K cd22 "_law_gcd"=true) (k22:PySem.W.keepIn K (.ref f22)=true)
  (a23:PySem.W.nsIn K mainGlobals "added"=some (some (.ref f23))) (l23:K.lookup f23=some ⟨oc23,od23,.func (PySem.W.fnOf "added" "added" (defArgs (top 12)) (defBody (top 12)) (defScope (top 12)) .none kV23 dc23 pm23 an23 cd23 ct23),sl23⟩) (c23:PySem.W.codeIn K cd23 "added"=true) (k23:PySem.W.keepIn K (.ref f23)=true)
  (a24:PySem.W.nsIn K mainGlobals "_law_sum"=some (some (.ref f24))) (l24:K.lookup f24=some ⟨oc24,od24,.func (PySem.W.fnOf "_law_sum" "_law_sum" (defArgs (top 32)) (defBody (top 32)) (defScope (top 32)) .none kV24 dc24 pm24 an24 cd24 ct24),sl24⟩) (c24:PySem.W.codeIn K cd24 "_law_sum"=true) (k24:PySem.W.keepIn K (.ref f24)=true)
  (a25:PySem.W.nsIn K mainGlobals "are_share_rows"=some (some (.ref f25))) (l25:K.lookup f25=some ⟨oc25,od25,.func (PySem.W.fnOf "are_share_rows" "are_share_rows" (defArgs (top 15)) (defBody (top 15)) (defScope (top 15)) .none kV25 dc25 pm25 an25 cd25 ct25),sl25⟩) (c25:PySem.W.codeIn K cd25 "are_share_rows"=true) (k25:PySem.W.keepIn K (.ref f25)=true)
  (a26:PySem.W.nsIn K mainGlobals "are_within_prices"=some (some (.ref f26))) (l26:K.lookup f26=some ⟨oc26,od26,.func (PySem.W.fnOf "are_within_prices" "are_within_prices" (defArgs (top 16)) (defBody (top 16)) (defScope (top 16)) .none kV26 dc26 pm26 an26 cd26 ct26),sl26⟩) (c26:PySem.W.codeIn K cd26 "are_within_prices"=true) (k26:PySem.W.keepIn K (.ref f26)=true)
  (a27:PySem.W.nsIn K mainGlobals "right_shares"=some (some (.ref f27))) (l27:K.lookup f27=some ⟨oc27,od27,.func (PySem.W.fnOf "right_shares" "right_shares" (defArgs (top 17)) (defBody (top 17)) (defScope (top 17)) .none kV27 dc27 pm27 an27 cd27 ct27),sl27⟩) (c27:PySem.W.codeIn K cd27 "right_shares"=true) (k27:PySem.W.keepIn K (.ref f27)=true)
  (a28:PySem.W.nsIn K mainGlobals "_law_is_row"=some (some (.ref f28))) (l28:K.lookup f28=some ⟨oc28,od28,.func (PySem.W.fnOf "_law_is_row" "_law_is_row" (defArgs (top 33)) (defBody (top 33)) (defScope (top 33)) .none kV28 dc28 pm28 an28 cd28 ct28),sl28⟩) (c28:PySem.W.codeIn K cd28 "_law_is_row"=true) (k28:PySem.W.keepIn K (.ref f28)=true)
  (a29:PySem.W.nsIn K mainGlobals "_law_are_shares"=some (some (.ref f29))) (l29:K.lookup f29=some ⟨oc29,od29,.func (PySem.W.fnOf "_law_are_shares" "_law_are_shares" (defArgs (top 34)) (defBody (top 34)) (defScope (top 34)) .none kV29 dc29 pm29 an29 cd29 ct29),sl29⟩) (c29:PySem.W.codeIn K cd29 "_law_are_shares"=true) (k29:PySem.W.keepIn K (.ref f29)=true)
  (a30:PySem.W.nsIn K mainGlobals "_law_odd"=some (some (.ref f30))) (l30:K.lookup f30=some ⟨oc30,od30,.func (PySem.W.fnOf "_law_odd" "_law_odd" (defArgs (top 30)) (defBody (top 30)) (defScope (top 30)) .none kV30 dc30 pm30 an30 cd30 ct30),sl30⟩) (c30:PySem.W.codeIn K cd30 "_law_odd"=true) (k30:PySem.W.keepIn K (.ref f30)=true)
  (a31:PySem.W.nsIn K mainGlobals "_law_raised"=some (some (.ref f31))) (l31:K.lookup f31=some ⟨oc31,od31,.func (PySem.W.fnOf "_law_raised" "_law_raised" (defArgs (top 35)) (defBody (top 35)) (defScope (top 35)) .none kV31 dc31 pm31 an31 cd31 ct31),sl31⟩) (c31:PySem.W.codeIn K cd31 "_law_raised"=true) (k31:PySem.W.keepIn K (.ref f31)=true)
  (a32:PySem.W.nsIn K mainGlobals "_law_bent_row"=some (some (.ref f32))) (l32:K.lookup f32=some ⟨oc32,od32,.func (PySem.W.fnOf "_law_bent_row" "_law_bent_row" (defArgs (top 36)) (defBody (top 36)) (defScope (top 36)) .none kV32 dc32 pm32 an32 cd32 ct32),sl32⟩) (c32:PySem.W.codeIn K cd32 "_law_bent_row"=true) (k32:PySem.W.keepIn K (.ref f32)=true)
  (a33:PySem.W.nsIn K mainGlobals "_law_bent"=some (some (.ref f33))) (l33:K.lookup f33=some ⟨oc33,od33,.func (PySem.W.fnOf "_law_bent" "_law_bent" (defArgs (top 37)) (defBody (top 37)) (defScope (top 37)) .none kV33 dc33 pm33 an33 cd33 ct33),sl33⟩) (c33:PySem.W.codeIn K cd33 "_law_bent"=true) (k33:PySem.W.keepIn K (.ref f33)=true)
  (a34:PySem.W.nsIn K mainGlobals "law"=some (some (.ref f34))) (l34:K.lookup f34=some ⟨oc34,od34,.func (PySem.W.fnOf "law" "law" (defArgs (top 38)) (defBody (top 38)) (defScope (top 38)) .none kV34 dc34 pm34 an34 cd34 ct34),sl34⟩) (c34:PySem.W.codeIn K cd34 "law"=true) (k34:PySem.W.keepIn K (.ref f34)=true)
  (z1:PySem.W.nsIn K mainGlobals "len"=some none) (z2:PySem.W.nsIn K mainGlobals "range"=some none) (z3:PySem.W.nsIn K mainGlobals "list"=some none) (z4:PySem.W.nsIn K mainGlobals "tuple"=some none) (z5:PySem.W.nsIn K mainGlobals "sorted"=some none) (z6:PySem.W.nsIn K mainGlobals "min"=some none) (z7:PySem.W.nsIn K mainGlobals "max"=some none) (z8:PySem.W.nsIn K mainGlobals "int"=some none) (z9:PySem.W.nsIn K mainGlobals "reversed"=some none) (z10:PySem.W.nsIn K mainGlobals "isinstance"=some none) (z11:PySem.W.nsIn K mainGlobals "bool"=some none) (z12:PySem.W.nsIn K mainGlobals "all"=some none) (z13:PySem.W.nsIn K mainGlobals "set"=some none) (z14:PySem.W.nsIn K mainGlobals "enumerate"=some none) (z15:PySem.W.nsIn K mainGlobals "zip"=some none) (z16:PySem.W.nsIn K mainGlobals "sum"=some none) (z17:PySem.W.nsIn K mainGlobals "any"=some none) (z18:PySem.W.nsIn K mainGlobals "repr"=some none) :
  ∃ fd:FuncData,(∀ (s:Shared) (v:Value),BindsTo s fd ⟨[v],[]⟩ [("_law_script",v)])∧∀ base:Heap,K.In base→base.Ns mainGlobals mg→FnOk l.prog w K mg base CX0 8 fa fd ["_law_script"] (sp_law K):=by
 have e:=hfa.symm.trans (PySem.W.mg_of X G a34);cases e;have B:Bt mg:=⟨PySem.W.mg_none_of X G z1,PySem.W.mg_none_of X G z2,PySem.W.mg_none_of X G z3,PySem.W.mg_none_of X G z4,PySem.W.mg_none_of X G z5,PySem.W.mg_none_of X G z6,PySem.W.mg_none_of X G z7,PySem.W.mg_none_of X G z8,PySem.W.mg_none_of X G z9⟩
 have C:Bt2 mg:=⟨PySem.W.mg_none_of X G z10,PySem.W.mg_none_of X G z11,PySem.W.mg_none_of X G z12,PySem.W.mg_none_of X G z13,PySem.W.mg_none_of X G z14,PySem.W.mg_none_of X G z15⟩
 have C3:Bt3 mg:=⟨PySem.W.mg_none_of X G z16,PySem.W.mg_none_of X G z17⟩
 have C4:Bt4 mg:=⟨PySem.W.mg_none_of X G z18⟩
 have F1:=fun_mk (st:=top 19) l1 c1 k1;have D1:Df K mg "_law_mixed" (top 19) f1 _ ["_law_cell", "_law_k"]:=⟨F1,F1.binds fun _ _ _ _ _ _ us hl=>L2.al2 (P:=fun us=>bindArgs _ ⟨us,[]⟩=pure (List.zip _ us)) (fun _ _=>rfl) us hl,PySem.W.mg_of X G a1⟩
 have F2:=fun_mk (st:=top 21) l2 c2 k2;have D2:Df K mg "_law_next" (top 21) f2 _ ["_law_deck_here"]:=⟨F2,F2.binds fun _ _ _ _ _ _ us hl=>L2.al1 (P:=fun us=>bindArgs _ ⟨us,[]⟩=pure (List.zip _ us)) (fun _=>rfl) us hl,PySem.W.mg_of X G a2⟩
 have F3:=fun_mk (st:=top 20) l3 c3 k3;have D3:Df K mg "_law_deck" (top 20) f3 _ ["_law_script", "_law_many"]:=⟨F3,F3.binds fun _ _ _ _ _ _ us hl=>L2.al2 (P:=fun us=>bindArgs _ ⟨us,[]⟩=pure (List.zip _ us)) (fun _ _=>rfl) us hl,PySem.W.mg_of X G a3⟩
 have F4:=fun_mk (st:=top 22) l4 c4 k4;have D4:Df K mg "_law_turn" (top 22) f4 _ ["_law_deck_here", "_law_many"]:=⟨F4,F4.binds fun _ _ _ _ _ _ us hl=>L2.al2 (P:=fun us=>bindArgs _ ⟨us,[]⟩=pure (List.zip _ us)) (fun _ _=>rfl) us hl,PySem.W.mg_of X G a4⟩
 have F5:=fun_mk (st:=top 23) l5 c5 k5;have D5:Df K mg "_law_web" (top 23) f5 _ ["_law_deck_here", "_law_least", "_law_most"]:=⟨F5,F5.binds fun _ _ _ _ _ _ us hl=>L2.al3 (P:=fun us=>bindArgs _ ⟨us,[]⟩=pure (List.zip _ us)) (fun _ _ _=>rfl) us hl,PySem.W.mg_of X G a5⟩
 have F6:=fun_mk (st:=top 24) l6 c6 k6;have D6:Df K mg "_law_near" (top 24) f6 _ ["_law_web_here"]:=⟨F6,F6.binds fun _ _ _ _ _ _ us hl=>L2.al1 (P:=fun us=>bindArgs _ ⟨us,[]⟩=pure (List.zip _ us)) (fun _=>rfl) us hl,PySem.W.mg_of X G a6⟩
 have F7:=fun_mk (st:=top 4) l7 c7 k7;have D7:Df K mg "neighbour_rows" (top 4) f7 _ ["web"]:=⟨F7,F7.binds fun _ _ _ _ _ _ us hl=>L2.al1 (P:=fun us=>bindArgs _ ⟨us,[]⟩=pure (List.zip _ us)) (fun _=>rfl) us hl,PySem.W.mg_of X G a7⟩
 have F8:=fun_mk (st:=top 1) l8 c8 k8;have D8:Df K mg "is_int" (top 1) f8 _ ["thing"]:=⟨F8,F8.binds fun _ _ _ _ _ _ us hl=>L2.al1 (P:=fun us=>bindArgs _ ⟨us,[]⟩=pure (List.zip _ us)) (fun _=>rfl) us hl,PySem.W.mg_of X G a8⟩
 have F9:=fun_mk (st:=top 2) l9 c9 k9;have D9:Df K mg "is_between" (top 2) f9 _ ["thing", "least", "most"]:=⟨F9,F9.binds fun _ _ _ _ _ _ us hl=>L2.al3 (P:=fun us=>bindArgs _ ⟨us,[]⟩=pure (List.zip _ us)) (fun _ _ _=>rfl) us hl,PySem.W.mg_of X G a9⟩
 have F10:=fun_mk (st:=top 6) l10 c10 k10;have D10:Df K mg "is_place" (top 6) f10 _ ["web", "thing"]:=⟨F10,F10.binds fun _ _ _ _ _ _ us hl=>L2.al2 (P:=fun us=>bindArgs _ ⟨us,[]⟩=pure (List.zip _ us)) (fun _ _=>rfl) us hl,PySem.W.mg_of X G a10⟩
 have F11:=fun_mk (st:=top 11) l11 c11 k11;have D11:Df K mg "common_part" (top 11) f11 _ ["one", "other"]:=⟨F11,F11.binds fun _ _ _ _ _ _ us hl=>L2.al2 (P:=fun us=>bindArgs _ ⟨us,[]⟩=pure (List.zip _ us)) (fun _ _=>rfl) us hl,PySem.W.mg_of X G a11⟩
 have F12:=fun_mk (st:=top 14) l12 c12 k12;have D12:Df K mg "is_share_row" (top 14) f12 _ ["web", "thing"]:=⟨F12,F12.binds fun _ _ _ _ _ _ us hl=>L2.al2 (P:=fun us=>bindArgs _ ⟨us,[]⟩=pure (List.zip _ us)) (fun _ _=>rfl) us hl,PySem.W.mg_of X G a12⟩
 have F13:=fun_mk (st:=top 7) l13 c13 k13;have D13:Df K mg "lot_rows" (top 7) f13 _ ["web"]:=⟨F13,F13.binds fun _ _ _ _ _ _ us hl=>L2.al1 (P:=fun us=>bindArgs _ ⟨us,[]⟩=pure (List.zip _ us)) (fun _=>rfl) us hl,PySem.W.mg_of X G a13⟩
 have F14:=fun_mk (st:=top 8) l14 c14 k14;have D14:Df K mg "have_common" (top 8) f14 _ ["one", "other"]:=⟨F14,F14.binds fun _ _ _ _ _ _ us hl=>L2.al2 (P:=fun us=>bindArgs _ ⟨us,[]⟩=pure (List.zip _ us)) (fun _ _=>rfl) us hl,PySem.W.mg_of X G a14⟩
 have F15:=fun_mk (st:=top 9) l15 c15 k15;have D15:Df K mg "places_but" (top 9) f15 _ ["web", "some"]:=⟨F15,F15.binds fun _ _ _ _ _ _ us hl=>L2.al2 (P:=fun us=>bindArgs _ ⟨us,[]⟩=pure (List.zip _ us)) (fun _ _=>rfl) us hl,PySem.W.mg_of X G a15⟩
 have F16:=fun_mk (st:=top 10) l16 c16 k16;have D16:Df K mg "free_places" (top 10) f16 _ ["web", "held", "barred"]:=⟨F16,F16.binds fun _ _ _ _ _ _ us hl=>L2.al3 (P:=fun us=>bindArgs _ ⟨us,[]⟩=pure (List.zip _ us)) (fun _ _ _=>rfl) us hl,PySem.W.mg_of X G a16⟩
 have F17:=fun_mk (st:=top 25) l17 c17 k17;have D17:Df K mg "_law_is_int" (top 25) f17 _ ["_law_thing", "_law_least", "_law_most"]:=⟨F17,F17.binds fun _ _ _ _ _ _ us hl=>L2.al3 (P:=fun us=>bindArgs _ ⟨us,[]⟩=pure (List.zip _ us)) (fun _ _ _=>rfl) us hl,PySem.W.mg_of X G a17⟩
 have F18:=fun_mk (st:=top 28) l18 c18 k18;have D18:Df K mg "_law_lot" (top 28) f18 _ ["_law_near_here", "_law_p"]:=⟨F18,F18.binds fun _ _ _ _ _ _ us hl=>L2.al2 (P:=fun us=>bindArgs _ ⟨us,[]⟩=pure (List.zip _ us)) (fun _ _=>rfl) us hl,PySem.W.mg_of X G a18⟩
 have F19:=fun_mk (st:=top 29) l19 c19 k19;have D19:Df K mg "_law_truth" (top 29) f19 _ ["_law_found", "_law_due"]:=⟨F19,F19.binds fun _ _ _ _ _ _ us hl=>L2.al2 (P:=fun us=>bindArgs _ ⟨us,[]⟩=pure (List.zip _ us)) (fun _ _=>rfl) us hl,PySem.W.mg_of X G a19⟩
 have F20:=fun_mk (st:=top 26) l20 c20 k20;have D20:Df K mg "_law_state" (top 26) f20 _ ["_law_deck_here", "_law_places"]:=⟨F20,F20.binds fun _ _ _ _ _ _ us hl=>L2.al2 (P:=fun us=>bindArgs _ ⟨us,[]⟩=pure (List.zip _ us)) (fun _ _=>rfl) us hl,PySem.W.mg_of X G a20⟩
 have F21:=fun_mk (st:=top 27) l21 c21 k21;have D21:Df K mg "_law_prices" (top 27) f21 _ ["_law_deck_here", "_law_places"]:=⟨F21,F21.binds fun _ _ _ _ _ _ us hl=>L2.al2 (P:=fun us=>bindArgs _ ⟨us,[]⟩=pure (List.zip _ us)) (fun _ _=>rfl) us hl,PySem.W.mg_of X G a21⟩
 have F22:=fun_mk (st:=top 31) l22 c22 k22;have D22:Df K mg "_law_gcd" (top 31) f22 _ ["_law_one", "_law_other"]:=⟨F22,F22.binds fun _ _ _ _ _ _ us hl=>L2.al2 (P:=fun us=>bindArgs _ ⟨us,[]⟩=pure (List.zip _ us)) (fun _ _=>rfl) us hl,PySem.W.mg_of X G a22⟩
 have F23:=fun_mk (st:=top 12) l23 c23 k23;have D23:Df K mg "added" (top 12) f23 _ ["fractions"]:=⟨F23,F23.binds fun _ _ _ _ _ _ us hl=>L2.al1 (P:=fun us=>bindArgs _ ⟨us,[]⟩=pure (List.zip _ us)) (fun _=>rfl) us hl,PySem.W.mg_of X G a23⟩
 have F24:=fun_mk (st:=top 32) l24 c24 k24;have D24:Df K mg "_law_sum" (top 32) f24 _ ["_law_fractions"]:=⟨F24,F24.binds fun _ _ _ _ _ _ us hl=>L2.al1 (P:=fun us=>bindArgs _ ⟨us,[]⟩=pure (List.zip _ us)) (fun _=>rfl) us hl,PySem.W.mg_of X G a24⟩
 have F25:=fun_mk (st:=top 15) l25 c25 k25;have D25:Df K mg "are_share_rows" (top 15) f25 _ ["web", "thing"]:=⟨F25,F25.binds fun _ _ _ _ _ _ us hl=>L2.al2 (P:=fun us=>bindArgs _ ⟨us,[]⟩=pure (List.zip _ us)) (fun _ _=>rfl) us hl,PySem.W.mg_of X G a25⟩
 have F26:=fun_mk (st:=top 16) l26 c26 k26;have D26:Df K mg "are_within_prices" (top 16) f26 _ ["web", "prices", "free", "shares"]:=⟨F26,F26.binds fun _ _ _ _ _ _ us hl=>L2.al4 (P:=fun us=>bindArgs _ ⟨us,[]⟩=pure (List.zip _ us)) (fun _ _ _ _=>rfl) us hl,PySem.W.mg_of X G a26⟩
 have F27:=fun_mk (st:=top 17) l27 c27 k27;have D27:Df K mg "right_shares" (top 17) f27 _ ["web", "prices", "held", "barred", "thing"]:=⟨F27,F27.binds fun _ _ _ _ _ _ us hl=>L2.al5 (P:=fun us=>bindArgs _ ⟨us,[]⟩=pure (List.zip _ us)) (fun _ _ _ _ _=>rfl) us hl,PySem.W.mg_of X G a27⟩
 have F28:=fun_mk (st:=top 33) l28 c28 k28;have D28:Df K mg "_law_is_row" (top 33) f28 _ ["_law_near_here", "_law_held", "_law_thing"]:=⟨F28,F28.binds fun _ _ _ _ _ _ us hl=>L2.al3 (P:=fun us=>bindArgs _ ⟨us,[]⟩=pure (List.zip _ us)) (fun _ _ _=>rfl) us hl,PySem.W.mg_of X G a28⟩
 have F29:=fun_mk (st:=top 34) l29 c29 k29;have D29:Df K mg "_law_are_shares" (top 34) f29 _ ["_law_near_here", "_law_prices_here", "_law_held", "_law_barred", "_law_thing"]:=⟨F29,F29.binds fun _ _ _ _ _ _ us hl=>L2.al5 (P:=fun us=>bindArgs _ ⟨us,[]⟩=pure (List.zip _ us)) (fun _ _ _ _ _=>rfl) us hl,PySem.W.mg_of X G a29⟩
 have F30:=fun_mk (st:=top 30) l30 c30 k30;have D30:Df K mg "_law_odd" (top 30) f30 _ []:=⟨F30,F30.binds fun _ _ _ _ _ _ us hl=>L2.al0 (P:=fun us=>bindArgs _ ⟨us,[]⟩=pure (List.zip _ us)) rfl us hl,PySem.W.mg_of X G a30⟩
 have F31:=fun_mk (st:=top 35) l31 c31 k31;have D31:Df K mg "_law_raised" (top 35) f31 _ ["_law_near_here", "_law_prices_here", "_law_held", "_law_barred", "_law_order"]:=⟨F31,F31.binds fun _ _ _ _ _ _ us hl=>L2.al5 (P:=fun us=>bindArgs _ ⟨us,[]⟩=pure (List.zip _ us)) (fun _ _ _ _ _=>rfl) us hl,PySem.W.mg_of X G a31⟩
 have F32:=fun_mk (st:=top 36) l32 c32 k32;have D32:Df K mg "_law_bent_row" (top 36) f32 _ ["_law_row", "_law_many"]:=⟨F32,F32.binds fun _ _ _ _ _ _ us hl=>L2.al2 (P:=fun us=>bindArgs _ ⟨us,[]⟩=pure (List.zip _ us)) (fun _ _=>rfl) us hl,PySem.W.mg_of X G a32⟩
 have F33:=fun_mk (st:=top 37) l33 c33 k33;have D33:Df K mg "_law_bent" (top 37) f33 _ ["_law_shares", "_law_many"]:=⟨F33,F33.binds fun _ _ _ _ _ _ us hl=>L2.al2 (P:=fun us=>bindArgs _ ⟨us,[]⟩=pure (List.zip _ us)) (fun _ _=>rfl) us hl,PySem.W.mg_of X G a33⟩
 have F34:=fun_mk (st:=top 38) l34 c34 k34;refine⟨PySem.W.fnOf "law" "law" (defArgs (top 38)) (defBody (top 38)) (defScope (top 38)) .none kV34 dc34 pm34 an34 cd34 ct34,fun s v=>.of_eq rfl,fun base _ _=>?_⟩;have O1:=ok_mixed (P:=l.prog) (w:=w) (base:=base) F1 B;have O2:=ok_next (P:=l.prog) (w:=w) (base:=base) F2 B;have O3:=ok_deck (P:=l.prog) (w:=w) (base:=base) F3 B D1 O1;have O4:=ok_turn (P:=l.prog) (w:=w) (base:=base) F4 B D2 O2;have O5:=ok_webc (P:=l.prog) (w:=w) (base:=base) F5 B D2 O2 D4 O4;have O6:=ok_near (P:=l.prog) (w:=w) (base:=base) F6 B;have O7:=ok_nrows (P:=l.prog) (w:=w) (base:=base) F7 B;have O8:=ok_pint (P:=l.prog) (w:=w) (base:=base) F8 B C;have O9:=ok_pbetw (P:=l.prog) (w:=w) (base:=base) F9 B D8 O8;have O10:=ok_isplace (P:=l.prog) (w:=w) (base:=base) F10 B D9 O9;have O11:=ok_gcd (P:=l.prog) (w:=w) (base:=base) F11 B;have O12:=ok_srowX (P:=l.prog) (w:=w) (base:=base) F12 B D10 O10 D8 O8 D11 O11 C;have O13:=ok_lots (P:=l.prog) (w:=w) (base:=base) F13 B D7 O7 C;have O14:=ok_common (P:=l.prog) (w:=w) (base:=base) F14 B C3;have O15:=ok_pbut (P:=l.prog) (w:=w) (base:=base) F15 B;have O16:=ok_fplaces (P:=l.prog) (w:=w) (base:=base) F16 B D15 O15;have O17:=ok_isintX (P:=l.prog) (w:=w) (base:=base) F17 B C;have O18:=ok_llot (P:=l.prog) (w:=w) (base:=base) F18 B;have O19:=ok_truth (P:=l.prog) (w:=w) (base:=base) F19 B C;have O20:=ok_state (P:=l.prog) (w:=w) (base:=base) F20 B D2 O2;have O21:=ok_prices2 (P:=l.prog) (w:=w) (base:=base) F21 B D2 O2;have O22:=ok_lgcd (P:=l.prog) (w:=w) (base:=base) F22 B;have O23:=ok_addedG (P:=l.prog) (w:=w) (base:=base) F23 B;have O24:=ok_lsumG (P:=l.prog) (w:=w) (base:=base) F24 B;have O25:=ok_srowsX (P:=l.prog) (w:=w) (base:=base) F25 B D12 O12 C;have O26:=ok_withinG (P:=l.prog) (w:=w) (base:=base) F26 B D13 O13 D23 O23;have O27:=ok_rsharesX (P:=l.prog) (w:=w) (base:=base) F27 B D25 O25 D13 O13 D14 O14 D16 O16 D26 O26;have O28:=ok_lisrowX (P:=l.prog) (w:=w) (base:=base) F28 B D17 O17 D22 O22 D18 O18 C;have O29:=ok_laresharesX (P:=l.prog) (w:=w) (base:=base) F29 B D28 O28 D18 O18 D24 O24 C;have O30:=ok_odd22 (P:=l.prog) (w:=w) (base:=base) F30 B;have O31:=ok_lraised22 (P:=l.prog) (w:=w) (base:=base) F31 B D18 O18;have O32:=ok_brow22 (P:=l.prog) (w:=w) (base:=base) F32 B D30 O30;have O33:=ok_bent22 (P:=l.prog) (w:=w) (base:=base) F33 B D32 O32;exact ok_law22 F34 B D3 O3 D5 O5 D6 O6 D20 O20 D21 O21 D4 O4 D31 O31 D2 O2 D27 O27 D33 O33 D30 O30 D29 O29 D19 O19 C4
theorem walk {l:PySem.W.OpenLaw}{q:Program}{loose:List Str}{XP:(Str→Option Value)→Heap→Prop}{YP:World→Heap→Prop}{d:DefRec}{K:Params→PySem.W.Frag}(hn:l.most=some 63)(hdf:d.params.defaults=[])
  (hY:∀ (w:World) (h:Heap),YP w h→(K w.params).In h)
  (F:∀ (w:World) (mg:Str→Option Value) (fa:Addr) (h:Heap),(K w.params).In h→h.Ns mainGlobals mg→mg d.name=some (.ref fa) →
   ∃ fd:FuncData,(∀ (s:Shared) (u:Value),BindsTo s fd ⟨[u],[]⟩ [("_law_script",u)])∧∀ base:Heap,(K w.params).In base→base.Ns mainGlobals mg→FnOk l.prog w (K w.params) mg base CX0 8 fa fd ["_law_script"] (sp_law (K w.params))) :
  PySem.W.WalkO q loose XP YP l.row.toRowW d [] (fun f vs=>PySem.call f vs) :=
 L2.walk_of (n:=63) (k:=8) (x:="_law_script") (CX:=fun _=>CX0) (sp:=fun w=>sp_law (K w.params)) hn (by decide) hdf ⟨rfl,by decide,by decide,rfl⟩ hY F (fun _ _ a ns hl _ hS=>⟨a,ns,rfl,hS,hl,fun _=>rfl⟩) fun _ _ _ _ _ z=>z
end K22
end
open PySem PySem.W PyProof.Rows
set_option maxRecDepth 100000 in
set_option maxHeartbeats 0 in
theorem K22.said:PySem.Challenge.rw_manyleaves_k22_bent_shares.wellSaid=true:=by kernel_rfl
set_option maxRecDepth 100000 in
set_option maxHeartbeats 0 in
theorem K22.left:LeftO (OpenRow.toRowW (OpenLaw.row PySem.Challenge.rw_manyleaves_k22_bent_shares)).prog K22.viewP [] (fun s=>xlAt K22.viewP [] s && recOk (RowW.records (OpenRow.toRowW (OpenLaw.row PySem.Challenge.rw_manyleaves_k22_bent_shares))) s) (Hook.obs (kHook K22.heapK K22.addrs K22.addr)) (Hook.val (kHook K22.heapK K22.addrs K22.addr)) 2170:=by intro w;kernel_rfl
set_option maxRecDepth 100000 in
set_option maxHeartbeats 0 in
theorem PySem.Challenge.cw_manyleaves_k22_bent_shares_holds : PySem.Challenge.rw_manyleaves_k22_bent_shares.Holds := by
 w_on;refine holds_law K22.said fun said=>?_
 refine holds_open (q:=K22.viewP) (loose:=[]) (Xt:=fun s=>xlAt K22.viewP [] s && recOk (RowW.records (OpenRow.toRowW (OpenLaw.row PySem.Challenge.rw_manyleaves_k22_bent_shares))) s) (XP:=XL K22.viewP []) (Yf:=Hook.obs (kHook K22.heapK K22.addrs K22.addr)) (Ya:=Hook.val (kHook K22.heapK K22.addrs K22.addr)) (YP:=Hook.says (kHook K22.heapK K22.addrs K22.addr)) (N:=2170) K22.left (Hook.of (kHook K22.heapK K22.addrs K22.addr)) (Hook.keeps (kHook K22.heapK K22.addrs K22.addr)) (fun s e=>xl_of s (Bool.and_eq_true_iff.mp e).1) XL.keeps (by rfl) (by rfl) (by rfl) (fun s e=>recFacts_of (Bool.and_eq_true_iff.mp e).2) (by rfl) said (by decide +kernel) ⟨rfl,rfl,rfl,rfl,rfl,by decide +kernel⟩ ?hw ?hc
 (case hw=>w_witness2)
 k_fill
 refine K22.walk (l:=PySem.Challenge.rw_manyleaves_k22_bent_shares) rfl rfl (fun w h Y=>PySem.W.kIn_of Y) ?F
 case F =>
  intro w mg fa h KX G hmg;refine' K22.all_mk KX G hmg ?a1 ?l1 ?c1 ?k1 ?a2 ?l2 ?c2 ?k2 ?a3 ?l3 ?c3 ?k3 ?a4 ?l4 ?c4 ?k4 ?a5 ?l5 ?c5 ?k5 ?a6 ?l6 ?c6 ?k6 ?a7 ?l7 ?c7 ?k7 ?a8 ?l8 ?c8 ?k8 ?a9 ?l9 ?c9 ?k9 ?a10 ?l10 ?c10 ?k10 ?a11 ?l11 ?c11 ?k11 ?a12 ?l12 ?c12 ?k12 ?a13 ?l13 ?c13 ?k13 ?a14 ?l14 ?c14 ?k14 ?a15 ?l15 ?c15 ?k15 ?a16 ?l16 ?c16 ?k16 ?a17 ?l17 ?c17 ?k17 ?a18 ?l18 ?c18 ?k18 ?a19 ?l19 ?c19 ?k19 ?a20 ?l20 ?c20 ?k20 ?a21 ?l21 ?c21 ?k21 ?a22 ?l22 ?c22 ?k22 ?a23 ?l23 ?c23 ?k23 ?a24 ?l24 ?c24 ?k24 ?a25 ?l25 ?c25 ?k25 ?a26 ?l26 ?c26 ?k26 ?a27 ?l27 ?c27 ?k27 ?a28 ?l28 ?c28 ?k28 ?a29 ?l29 ?c29 ?k29 ?a30 ?l30 ?c30 ?k30 ?a31 ?l31 ?c31 ?k31 ?a32 ?l32 ?c32 ?k32 ?a33 ?l33 ?c33 ?k33 ?a34 ?l34 ?c34 ?k34 ?z1 ?z2 ?z3 ?z4 ?z5 ?z6 ?z7 ?z8 ?z9 ?z10 ?z11 ?z12 ?z13 ?z14 ?z15 ?z16 ?z17 ?z18
  (case a1=>k_is);(case l1=>k_is);(case c1=>k_is);(case k1=>k_is)
  (case a2=>k_is);(case l2=>k_is);(case c2=>k_is);(case k2=>k_is)
  (case a3=>k_is);(case l3=>k_is);(case c3=>k_is);(case k3=>k_is)
  (case a4=>k_is);(case l4=>k_is);(case c4=>k_is);(case k4=>k_is)
  (case a5=>k_is);(case l5=>k_is);(case c5=>k_is);(case k5=>k_is)
  (case a6=>k_is);(case l6=>k_is);(case c6=>k_is);(case k6=>k_is)
  (case a7=>k_is);(case l7=>k_is);(case c7=>k_is);(case k7=>k_is)
  (case a8=>k_is);(case l8=>k_is);(case c8=>k_is);(case k8=>k_is)
  (case a9=>k_is);(case l9=>k_is);(case c9=>k_is);(case k9=>k_is)
  (case a10=>k_is);(case l10=>k_is);(case c10=>k_is);(case k10=>k_is)
  (case a11=>k_is);(case l11=>k_is);(case c11=>k_is);(case k11=>k_is)
  (case a12=>k_is);(case l12=>k_is);(case c12=>k_is);(case k12=>k_is)
  (case a13=>k_is);(case l13=>k_is);(case c13=>k_is);(case k13=>k_is)
  (case a14=>k_is);(case l14=>k_is);(case c14=>k_is);(case k14=>k_is)
  (case a15=>k_is);(case l15=>k_is);(case c15=>k_is);(case k15=>k_is)
  (case a16=>k_is);(case l16=>k_is);(case c16=>k_is);(case k16=>k_is)
  (case a17=>k_is);(case l17=>k_is);(case c17=>k_is);(case k17=>k_is)
  (case a18=>k_is);(case l18=>k_is);(case c18=>k_is);(case k18=>k_is)
  (case a19=>k_is);(case l19=>k_is);(case c19=>k_is);(case k19=>k_is)
  (case a20=>k_is);(case l20=>k_is);(case c20=>k_is);(case k20=>k_is)
  (case a21=>k_is);(case l21=>k_is);(case c21=>k_is);(case k21=>k_is)
  (case a22=>k_is);(case l22=>k_is);(case c22=>k_is);(case k22=>k_is)
  (case a23=>k_is);(case l23=>k_is);(case c23=>k_is);(case k23=>k_is)
  (case a24=>k_is);(case l24=>k_is);(case c24=>k_is);(case k24=>k_is)
  (case a25=>k_is);(case l25=>k_is);(case c25=>k_is);(case k25=>k_is)
  (case a26=>k_is);(case l26=>k_is);(case c26=>k_is);(case k26=>k_is)
  (case a27=>k_is);(case l27=>k_is);(case c27=>k_is);(case k27=>k_is)
  (case a28=>k_is);(case l28=>k_is);(case c28=>k_is);(case k28=>k_is)
  (case a29=>k_is);(case l29=>k_is);(case c29=>k_is);(case k29=>k_is)
  (case a30=>k_is);(case l30=>k_is);(case c30=>k_is);(case k30=>k_is)
  (case a31=>k_is);(case l31=>k_is);(case c31=>k_is);(case k31=>k_is)
  (case a32=>k_is);(case l32=>k_is);(case c32=>k_is);(case k32=>k_is)
  (case a33=>k_is);(case l33=>k_is);(case c33=>k_is);(case k33=>k_is)
  (case a34=>k_is);(case l34=>k_is);(case c34=>k_is);(case k34=>k_is)
  (case z1=>k_is);(case z2=>k_is);(case z3=>k_is);(case z4=>k_is)
  (case z5=>k_is);(case z6=>k_is);(case z7=>k_is);(case z8=>k_is)
  (case z9=>k_is);(case z10=>k_is);(case z11=>k_is);(case z12=>k_is)
  (case z13=>k_is);(case z14=>k_is);(case z15=>k_is);(case z16=>k_is)
  (case z17=>k_is);(case z18=>k_is)
