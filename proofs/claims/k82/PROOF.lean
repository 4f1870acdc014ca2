import PyProof.Rows.All
import Wide.All
import OpenK.AllK
import Wide.FinOn
import Lean
import PyProof.EqAt
import PyProof.EqKinds
import PyProof.TupleCall
import PySem.SetOps
import PyProof.SetScanFacts
import PyProof.Rows.SetFrom
import PyProof.SetRoads
import PyProof.WalksMore
import PyProof.EnumMake
import PyProof.EnumFor
import PyProof.P3In
import PyProof.Rows.Range3
import PyProof.ZipIter
import PyProof.TupleKey
import PyProof.DictKinds
import PyProof.Rows.SumAny
import PyProof.Rows.SortRev
import PyProof.Rows.SeqMore
import PyProof.ReprRoads
import PyProof.ReprText
import PyProof.ReprBulk
import PyProof.Rows.AssignMoreSeq
import PyProof.DictItems
import PyProof.DictItemsLoops
import KE.KPairComp
import PyProof.Rows.StrJoin2
import PyProof.Rows.StrNews
import PyProof.StrBlock
import KE.KTryMore
import PyProof.NsDelKeeps
import PyProof.ExcArgsOwn
import PyProof.IsiBase
import KE.KIsAll
import PySem.Challenge.RW_manyleaves_k82_texts
set_option maxHeartbeats 8000000
local macro_rules | `(tactic| omega) => `(tactic| first | lia | omega +splitDisjunctions)
local macro_rules | `(∅) => `(by omega)
local macro_rules | `(⋯) => `(List (Int × Int))
local macro_rules | `(~~~$x) => `(by simpa using $x)
open List renaming length_map->aa,mem_singleton->ag,mem_append->al,map_cons->ao,getElem?_eq_some_iff->ap,getElem?_eq_getElem->aq,size_toArray->aA,mem_of_getElem?->aB,getElem?_map->aC,length_append->aD,map_append->aE,length_cons->aH,mem_cons_of_mem->aL,length_take->aN,mem_cons_self->aO,mem_append_right->aR,mem_cons->aW,take_length->aX,mem_map->aY,append_assoc->aZ,getElem?_append_right->bf,getElem?_append_left->bh,map_map->bj,pairwise_singleton->bq,take_append_drop->bB,take_succ->bD,extract_eq_take_drop->bE,zip->bF,mem_iff_getElem?->bG,Nodup->bH,all_eq_true->bJ,mem_range->bK,pairwise_append->bL,mem_append_left->bM,length_nil->bR,cons_append->bT,append_nil->b5,take_add_one->b6,getD_eq_getElem?_getD->cb,take_of_length_le->ce,nil_append->cf,getElem?_eq_none->cg,pairwise_map->ck,getElem?_set_self->cp,perm_append_comm->cw,map_nil->cz,filter_append->cA,getElem?_set_ne->cC,length->cE,not_mem_nil->cH,any_eq_true->cI,take_zero->cK,drop_of_length_le->cL,length_singleton->cQ,length_filter_le->cR,foldl_cons->cS,range->cU,nodup_append->cV,flatten_cons->cW,ext_getElem?->cX,mem_of_mem_take->cZ,pairwise_iff_getElem->df,getElem?_zip_eq_some->di,drop_eq_getElem_cons->dj,replicate_succ->du,mem_map_of_mem->dv,map_congr_left->dw,getElem_of_mem->dy,getElem?_take_of_lt->dz,length_set->dC,find?_cons->dD,any_cons->dE,reverse_cons->dL,dropLast_concat_getLast->dX,nodup_cons->d0,length_pos_iff->d8,filterMap_cons->eg,getElem?_drop->eB,drop_zero->eF,count_append->eO,length_replicate->fm,length_reverse->fA,length_flatten->fB,zip_cons_cons->fH,take_sublist->fL,getElem?_inj->fM,map_snd_zip->fT,map_fst_zip->fU,length_drop->fV,getElem_mem->fW,drop_append_of_le_length->fX,of_mem_zip->gu,count_cons->gv,sum_cons->gQ,map_take->gR,map->gS,getElem?_replicate->gT,getElem?_cons_zero->gU,getElem?_cons_succ->gW,filter_cons_of_pos->gX,filter_cons_of_neg->gY,sum_replicate_nat->g9,pairwise_lt_range->hG,drop_eq_nil_of_le->hJ,append_eq_nil_iff->hU,pairwise_reverse->ib,replicate_succ'->im,length_dropLast->ip,take_succ_cons->ix,length_take_le->iy,getElem?_range->iz,filter_eq_self->iA,drop_succ_cons->iB,mem_filterMap->iJ,map_replicate->iK,reverse_perm->iN,foldl->iO,mem_filter->iY
open PySem.W renaming Frag->ae,mg_of->aI,mg_none_of->bb,nsIn->bu,kia_one->b7,findIn->cD,fnOf->db,kitOne->dH,hideAll_get->dS,mroIn->eI,hideAll->eT,keepIn->fh,codeIn->fj,methodObj->fE,instObj->fO,OpenLaw->fP,cellsFrom_some->gI,of_hideAll->hV,kitx_list->ie,kitx_dict->ig
open PySem renaming wpAny_bind->af,wpAny_pure->au,wpAny_holding->bQ,wpAny_mono->bV,wpAny_newObj_type->bX,boot_len->b8,wpAny_typeNameOfWhole_keyiter->cN,wpAny_call_entry->cO,wpAny_passesOwn->c0,wpAny_truthy_bool->dm,mem_of_lookup->dq,wpAny_typeNameOf_keyiter->dF,wpAny_comprehension_free->dG,wpAny_standAt->dM,wpAny_callSpecial?_slot->dN,wpAny_Call_Name_kw->dO,call_meets->eD,wpAny_typeOf->eS,wpAny_dictEntries->fe,wpAny_pyNext_list_item->fv,wpAny_execs_nil->fD,Addr->fJ,wpAny_newList->fZ,wpAny_assign_Name->gz,wpAny_specialOf->g4,wpAny_dictEpoch->g5,wpAny_load->ir,wpAny_attempt->iD,seq_tuple_add->iE,call->iF,wpAny_pyNext_list_end->iP,wpAny_pyIter_listiter->iQ,wpAny_isTrue_Compare1->iR,wpAny_isOneOf_keyiter->iS,concat_meets->iT,call_meetsIn->iU,wpAny_newFunctionEnv->iW,wpAny_field->iZ,length_partsBetween->i5,wpAny_sequenceKey->i8,wpAny_pyIter_list->i9,wpAny_Name->ja,slot_list_getitem->jb
open PyProof.Rows renaming wpS_pure->ah,wpS_bind->ai,wpS_forRange->bP,callWith_type1->ci,slot_tuple_getitem->cq,boot_tuple->cF,wpS_mono->cM,boot_isinstance->da,wpS_modify->dI,boot_str->eu,wpS_get->eZ,boot_sorted->fq,split_pos->fR,split_le->fS,boot_repr->gh,setArr->gn,mirror->gp,lt_int->gq,bubble->gt,mirror_perm->g8,boot_range->iw,boot_max->iI,entry_proto_collect'->iX,entry_tuple_getitem->i6,args_tuple_getitem->i7
open Nat renaming le_refl->aj,ne_of_lt->aS,lt_of_lt_of_le->aT,le_trans->ba,zero_le->bI,lt_or_ge->bS,lt_irrefl->cj,zero_add->cT,le_of_lt->dB,lt_trans->dQ,not_lt_zero->fu,pow_le_pow_right->fw,lt_succ_self->gi,log2_lt->gG,add_le_add->gP,succ_mul->ii,ne_of_gt->ij,le_of_eq->ik,lt_succ_of_lt->iV
open PySem.Heap renaming get?_push_of_some->ak,lt_size->aF,get?_push_size->aK,SameBut->dP,get?_update_other->fb,get?_update_self->fk,size_push->gJ,FlyingW->hX,get?_push_ne->iM
open Option.some renaming inj->aG
open Bool renaming false_ne_true->aJ,false_eq_true->aP,and_eq_true->bU,not_true->dY,eq_iff_iff->ei,false_and->eG,true_and->gZ,and_eq_true_iff->iq
open PyProof.Rows.KeyOrd renaming kle_of_klt->aM,kle_trans->aQ,kle_refl->b9,kle_antisymm->h9
open PySem.Value renaming bool->aU,ref->br,type->bz,int->cu,none->cG,builtin->fF,str->gc,isInt_shape->iG
open Array renaming toList_append->aV,toList_push->bd,getElem?_toList->bi,length_toList->bo,getElem?_eq_getElem->bC,toList_extract->bW,getElem?_eq_none->bZ,toList_reverse->dR,size_extract->en,size_push->fg,ext'->fK,perm_iff_toList_perm->gw,toArray_toList->ic,append_assoc->iC
open PySem.PassesOwn renaming never->bn
open PySem.NameKind renaming free->bp,cell->bY
open Int renaming toNat_of_nonneg->bx,emod_lt_of_pos->bN,emod_nonneg->ca,toNat_natCast->cY
open Sum renaming inl->bA,inr->fN
open ForInStep renaming yield->bO,done->dZ
open Classical renaming byContradiction->cc
open Option renaming map_eq_some_iff->cn,map_some->fc,isSome_map->fG,isSome_iff_exists->gF,none->ia
open True renaming intro->cr
open PySem.PyData renaming int->cB
open False renaming elim->cJ
open PySem.F renaming slot_dict_keyiterator_next->cP,args_tuple_add_2->er,entry_tuple_add->eJ,slot_tuple_add->eQ,plainAttrs_str->eR,slot_dict_get->eU,args_str_split_2->fQ,slot_dict_delitem->ge,entry_str_split->gf,args_dict_keyiterator_next_1->gj,slot_str_split->gA,plain_list_iadd->gB,plainAttrs_list->gC,entry_dict_keyiterator_next->gD,args_dict_get_2->gE,entry_dict_get->gK
open List.cons renaming inj->dr
open PySem.Paired renaming length->dA
open PySem.Heap.SameBut renaming update->dJ
open PyProof.Rows.SortSt renaming mk'->dU
open List.Pairwise renaming imp_of_mem->dW,and->ff
open PySem.Calls renaming spliced_cons->ek,spliced_nil->eM,callWith_builtin->eV,Name_function_global->gm,evalArgs_plain->h7,Constant_str->iu
open Ne renaming symm->eN
open PySem.Builtin.Dict_items renaming ownsTuple->eY
open PySem.Builtin.Tuple renaming tupleItemsOf->fz
open PySem.Builtin.Range renaming rangeSize->fI,small->gg
open List.Perm renaming eq_of_pairwise->fY,append_left->gH
open PySem.W.OpenRow renaming toRowW->gb
open PySem.Data renaming dict->gk
open Nat.succ renaming inj->gL
open PySem.SeqAt.EqAt renaming str_int->gM,int_str->gN,int_int->gO
open PySem.W.OpenLaw renaming row->g6
open PySem.Around renaming under_plainId->g7
open PySem.SeqAt renaming EqAt->iH
open PySem.Obj renaming data_mapFields->iL
set_option Elab.async false
set_option linter.all false
set_option maxRecDepth 100000
set_option maxHeartbeats 8000000
set_option compiler.extract_closed false
section
namespace L2
open PySem PySem.Spec PyProof.Rows
abbrev Key:=Sum Int Str
def a1Z:Key->Value->Bool
 | .inl k,v=>Value.isInt k v
 | .inr x,v=>Value.isStrOf x v
def b3t (w:World):Key->Int
 | .inl k=>hashInt k
 | .inr x=>hashStr w x
theorem J6:∀ {k:Key} {v:Value},a1Z k v=true->(∃ i t,k=bA i/\v=cu i t)\/(∃ x t,k=fN x/\v=gc x t)
 | .inl i,v,h=>by
  obtain⟨t,e⟩:=iG (k:=i) (v:=v) h;exact .inl ⟨i,t,rfl,e⟩
 | .inr x,v,h=>by
  obtain⟨t,e⟩:=Value.isStrOf_shape (x:=x) (v:=v) h;exact .inr ⟨x,t,rfl,e⟩
theorem a6c (i:Int)(t:Tok):a1Z (.inl i) (.int i t)=true:=by simp[a1Z,Value.isInt]
theorem a6b (x:Str)(t:Tok):a1Z (.inr x) (.str x t)=true:=by simp[a1Z,Value.isStrOf]
theorem b1d (a b:Int):decide ((bA a:Key)=bA b)=(a == b):=by
 by_cases e:a=b
 ·subst e;simp
 ·have h:¬ (bA a:Key)=bA b:=λq=>e (Sum.inl.inj q)
  rw[decide_eq_false h];exact (beq_eq_false_iff_ne.mpr e).symm
theorem b1a (a b:Str):decide ((fN a:Key)=fN b)=decide (a=b):=by
 by_cases e:a=b
 ·subst e;simp
 ·have h:¬ (fN a:Key)=fN b:=λq=>e (Sum.inr.inj q)
  rw[decide_eq_false h,decide_eq_false e]
theorem b1c (a:Int)(b:Str):decide ((bA a:Key)=fN b)=false:=decide_eq_false (λq=>nomatch q)
theorem b1b (a:Str)(b:Int):decide ((fN a:Key)=bA b)=false:=decide_eq_false (λq=>nomatch q)
def E6 (prog:Program)(w:World):PySem.KeyKind prog w Key where
 is:=a1Z
 hash:=b3t w
 inj:=λv a b ha hb=>by
  rcases J6 ha with ⟨i,t,rfl,rfl⟩ | ⟨x,t,rfl,rfl⟩
  ·rcases J6 hb with ⟨j,u,rfl,e⟩ | ⟨y,u,rfl,e⟩
   ·injection e with e1 _;rw[e1]
   ·exact nomatch e
  ·rcases J6 hb with ⟨j,u,rfl,e⟩ | ⟨y,u,rfl,e⟩
   ·exact nomatch e
   ·injection e with e1 _;rw[e1]
 byValue:=λk v h=>by
  rcases J6 h with ⟨i,t,rfl,rfl⟩ | ⟨x,t,rfl,rfl⟩<;>rfl
 pyHash:=λhv h=>by
  rcases J6 hv with ⟨i,t,rfl,rfl⟩ | ⟨x,t,rfl,rfl⟩
  ·exact wpAny_pyHash_int h
  ·exact wpAny_pyHash_str h
 eqBool:=λhu hv h=>by
  rcases J6 hu with ⟨i,t,rfl,rfl⟩ | ⟨x,t,rfl,rfl⟩
  ·rcases J6 hv with ⟨j,u,rfl,rfl⟩ | ⟨y,u,rfl,rfl⟩
   ·rw[b1d] at h;exact wpAny_eqBool_int h
   ·rw[b1c] at h;exact gN i t y u _ _ _ _ h
  ·rcases J6 hv with ⟨j,u,rfl,rfl⟩ | ⟨y,u,rfl,rfl⟩
   ·rw[b1b] at h;exact gM x t j u _ _ _ _ h
   ·rw[b1a] at h;exact wpAny_eqBool_str h
 «strs»:=λk x t v h=>by
  rcases J6 h with ⟨i,u,rfl,e⟩ | ⟨y,u,rfl,e⟩
  ·exact nomatch e
  ·injection e with e1 _
   subst e1;cases v<;>rfl
theorem a3R (prog:Program)(w:World)(i:Int)(t:Tok):(E6 prog w).is (.inl i) (.int i t)=true:=a6c i t
theorem a3Q (prog:Program)(w:World)(x:Str)(t:Tok):(E6 prog w).is (.inr x) (.str x t)=true:=a6b x t
end L2
namespace L2
open PySem PySem.Spec PyProof.Rows
inductive V where
 | non | bl (b:Bool) | int (i:Int) | str (x:Str) | byt (b:Array UInt8) | flt (b:UInt64) | ref (a:Addr) | ty (n:String)
 deriving DecidableEq
def C6:V->Value->Prop
 | .non,u=>u=cG
 | .bl b,u=>u=aU b
 | .int i,u=>∃ t,u=cu i t
 | .str x,u=>∃ t,u=gc x t
 | .byt b,u=>∃ t,u=Value.bytes b t
 | .flt b,u=>∃ t,u=Value.float b t
 | .ref a,u=>u=br a
 | .ty n,u=>u=bz n
abbrev C0:List V->List Value->Prop:=Paired C6
theorem C0.length {xs:List V}{us:List Value}(r:C0 xs us):xs.length=us.length:=dA r
theorem C0.get:∀ {xs:List V} {us:List Value} {i:Nat} {x:V},C0 xs us->xs[i]?=some x->∃ u,us[i]?=some u/\C6 x u
 | _,_,_,_,.nil,e=>by simp at e
 | _,_,0,_,.cons r _,e=>by simp at e;subst e;exact⟨_,rfl,r⟩
 | _,_,i+1,x,.cons _ t,e=>by
  obtain⟨u,h1,h2⟩:=C0.get (i:=i) (x:=x) t (~~~e);exact⟨u, ~~~h1,h2⟩
theorem C0.set {x:V}{u:Value}(r:C6 x u):∀ {xs:List V} {us:List Value} (i:Nat),C0 xs us->C0 (xs.set i x) (us.set i u)
 | _,_,_,.nil=>.nil
 | _,_,0,.cons _ t=>.cons r t
 | _,_,i+1,.cons q t=>.cons q (C0.set r i t)
theorem C0.append:∀ {xs ys:List V} {us ws:List Value},C0 xs us->C0 ys ws->C0 (xs++ys) (us++ws)
 | _,_,_,_,.nil,s=>s
 | _,_,_,_,.cons r t,s=>.cons r (C0.append t s)
theorem C0.take:∀ {xs:List V} {us:List Value} (n:Nat),C0 xs us->C0 (xs.take n) (us.take n)
 | _,_,0,_=>.nil
 | _,_,_+1,.nil=>.nil
 | _,_,n+1,.cons r t=>.cons r (C0.take n t)
theorem C0.drop:∀ {xs:List V} {us:List Value} (n:Nat),C0 xs us->C0 (xs.drop n) (us.drop n)
 | _,_,0,r=>r
 | _,_,_+1,.nil=>.nil
 | _,_,n+1,.cons _ t=>C0.drop n t
def a2X:Option V->Option Value->Prop
 | some v,some u=>C6 v u
 | none,none=>True
 | _,_=>False
def KV {κ:Type}:List (κ×V)->List (κ×Value)->Prop:=Paired λ(p:κ×V) (q:κ×Value)=>p.1=q.1/\C6 p.2 q.2
def kV:Key->V
 | .inl i=>.int i
 | .inr x=>.str x
inductive HO where
 /-- a list -/
 | lst (xs:List V)
 /-- a tuple (never changes) -/
 | tup (xs:List V)
 /-- a dict whose keys are ints and texts;one whose keys are tuples of ints and texts (the empty one is both) -/
 | dK (kvs:List (Key×V)) | dT (kvs:List (List Key×V))
 /-- a set of ints: its members,its size -/
 | set (S:Int->Bool) (n:Nat)
 /-- an instance of the class at C,its dict at dx,its attributes -/
 | ins (C dx:Addr) (fs:List (Str×V))
 /-- the dict of the instance at x -/
 | own (x:Addr)
 /-- the dict of an exception -/
 | xd (fs:List (Str×V))
 /-- a bound method,f of x -/
 | met (f x:Addr)
 /-- a range object lo,lo+1,.. below hi -/
 | rng (lo hi:Int)
 /-- a thing that is known to the object (the script;a dict while a loop walks it): read,never written while it is so -/
 | frz (o:Obj) (u:HO)
 /-- a code object's table -/
 | tbl (ps:Array Value)
 /-- any other thing,by what is true of its one object (a def of one's own: SetO a S n:=HO.ext λh=>..) -/
 | ext (φ:Heap->Prop)
abbrev Hp:=Addr->Option HO
def upd (H:Hp)(a:Addr)(o:HO):Hp:=λb=>if b=a then some o else H b
theorem A2 {H:Hp}{a:Addr}{o:HO}:upd H a o a=some o:=by unfold upd;rw[if_pos rfl]
theorem A8 {H:Hp}{a b:Addr}{o:HO}(h:b≠a):upd H a o b=H b:=by unfold upd;rw[if_neg h]
theorem a2o {H:Hp}{a:Addr}{o u:HO}:upd (upd H a o) a u=upd H a u:=by
 funext b;unfold upd;split<;>rfl
theorem a9Y {H:Hp}{a b:Addr}{o u:HO}(h:H a=some o)(h':H b=some u)(d:o≠u):a≠b:=by
 intro e;subst e;rw[h] at h';exact d (aG h')
theorem C3 {H:Hp}{a b:Addr}{o:HO}(h:H a=some o)(h':H b=none):a≠b:=by
 intro e;subst e;rw[h] at h';cases h'
section
variable (P:Program)(w:World)
def J1 (H:Hp)(h:Heap)(a:Addr):HO->Prop
 | .lst xs=>xs.length<=sizeLine/\∃(its:List Value) (n:Nat),C0 xs its/\h.get? a=some {cls:=.type "list",data:=.seq its.toArray n}
 | .tup xs=>xs.length<=sizeLine/\∃ its:List Value,C0 xs its/\IsTup h a its.toArray
 | .dK kvs=>kvs.length<=sizeLine/\(a == sysModules)=false/\∃ vs,KV kvs vs/\h.DictOf (E6 P w) a vs
 | .dT kvs=>kvs.length<=sizeLine/\(a == sysModules)=false/\∃ xs:List (List Key×Addr×Value),
   Paired (λ(p:List Key×V) (q:List Key×Addr×Value)=>p.1=q.1/\H q.2.1=some (.tup (p.1.map kV))/\C6 p.2 q.2.2) kvs xs /\
   ∃ o es ep,h.get? a=some o/\o.ExactDict/\o.data=.dict es ep/\es.toList=xs.map (entryOfKey (tupleKind (E6 P w)))/\(xs.map (·.1)).Nodup
 | .set S n=>h.SetOf (intKind P w) a S n
 | .ins C dx fs=>H dx=some (.own a)/\fs.length<=1000/\dx≠a/\h.get? a=some (fO C dx) /\
   ∃ mA,h.Ns1 dx mA/\(∀ f,a2X (fs.lookup f) (mA f))/\PySem.Within mA (fs.map (·.1))
 | .own _=>∃ o,h.get? a=some o
 | .xd fs=>∃ mA,h.Ns1 a mA/\∀ f,a2X (fs.lookup f) (mA f)
 | .rng lo hi=>∃ t u v,h.get? a=some {cls:=.type "range",data:=.fields #[.int lo t,.int hi u,.int 1 v]}
 | .frz o u=>h.get? a=some o/\J1 H h a u
 | .tbl ps=>h.get? a=some {cls:=.none,data:=.fields ps}
 | .met f x=>h.get? a=some (fE (.ref f) (.ref x))
 | .ext φ=>φ h/\(∃ o,h.get? a=some o)/\∀ h1 h2:Heap,φ h1->(∀ o,h1.get? a=some o->h2.get? a=some o)->φ h2
def HOk (H:Hp)(h:Heap):Prop:=∀ a o,H a=some o->J1 P w H h a o
end
section
variable {P:Program}{w:World}{H H':Hp}{h h':Heap}{a:Addr}{o:HO}
theorem J1.lt (x:J1 P w H h a o):a<h.objs.size:=by
 cases o with
 | lst xs=>obtain⟨_,_,_,_,e⟩:=x;exact aF e
 | tup xs=>obtain⟨_,_,_,p⟩:=x;exact p.lt
 | dK kvs=>obtain⟨_,_,_,_,o,_,_,e,_⟩:=x;exact aF e
 | dT kvs=>obtain⟨_,_,_,_,o,_,_,e,_⟩:=x;exact aF e
 | set S n=>obtain⟨o,_,_,_,e,_⟩:=x;exact aF e
 | ins C dx fs=>obtain⟨_,_,_,e,_⟩:=x;exact aF e
 | own y=>obtain⟨_,e⟩:=x;exact aF e
 | xd fs=>obtain⟨_,⟨_,_,_,e,_⟩,_⟩:=x;exact aF e
 | rng lo hi=>obtain⟨_,_,_,e⟩:=x;exact aF e
 | frz ob u=>obtain⟨e,_⟩:=x;exact aF e
 | tbl ps=>exact aF (show h.get? a=some _ from x)
 | met f y=>exact aF (show h.get? a=some _ from x)
 | ext φ=>obtain⟨_,⟨_,e⟩,_⟩:=x;exact aF e
theorem Paired.mapP {α β:Type}{F G:α->β->Prop}:∀ {lz:List α} {lq:List β},Paired F lz lq->(∀ a b,F a b->G a b)->Paired G lz lq
 | _,_,.nil,_=>.nil
 | _,_,.cons r t,f=>.cons (f _ _ r) (Paired.mapP t f)
theorem J1.stay (x:J1 P w H h a o)(k:∀ b u,(b=a\/H b=some (.own a))->h.get? b=some u->h'.get? b=some u)
  (ho:∀ b,H b=some (.own a)->H' b=some (.own a)) (ht:∀ b xs,H b=some (.tup xs)->H' b=some (.tup xs)):J1 P w H' h' a o:=by
 induction o with
 | lst xs=>obtain⟨z,its,n,r,e⟩:=x;exact⟨z,its,n,r,k _ _ (.inl rfl) e⟩
 | tup xs=>obtain⟨z,its,r,ob,e,c⟩:=x;exact⟨z,its,r,ob,k _ _ (.inl rfl) e,c⟩
 | dK kvs=>obtain⟨z,y,vs,r,ob,es,ep,e,c⟩:=x;exact⟨z,y,vs,r,ob,es,ep,k _ _ (.inl rfl) e,c⟩
 | dT kvs =>
  obtain⟨z,y,xs,r,ob,es,ep,e,c⟩:=x;exact⟨z,y,xs,Paired.mapP r λp q z=>⟨z.1,ht _ _ z.2.1,z.2.2⟩,ob,es,ep,k _ _ (.inl rfl) e,c⟩
 | set S n=>obtain⟨ob,es,ep,t,e,c⟩:=x;exact⟨ob,es,ep,t,k _ _ (.inl rfl) e,c⟩
 | ins C dx fs =>
  obtain⟨d,z,ne,e,mA,⟨od,es,ep,e2,c⟩,r⟩:=x;exact⟨ho _ d,z,ne,k _ _ (.inl rfl) e,mA,⟨od,es,ep,k _ _ (.inr d) e2,c⟩,r⟩
 | own y=>obtain⟨ob,e⟩:=x;exact⟨ob,k _ _ (.inl rfl) e⟩
 | xd fs=>obtain⟨mA,⟨od,es,ep,e,c⟩,r⟩:=x;exact⟨mA,⟨od,es,ep,k _ _ (.inl rfl) e,c⟩,r⟩
 | rng lo hi=>obtain⟨t,u,v,e⟩:=x;exact⟨t,u,v,k _ _ (.inl rfl) e⟩
 | frz ob u ih=>obtain⟨e,q⟩:=x;exact⟨k _ _ (.inl rfl) e,ih q⟩
 | tbl ps =>
  have e:h.get? a=some {cls:=.none,data:=.fields ps}:=x;show h'.get? a=some {cls:=.none,data:=.fields ps};exact k a _ (.inl rfl) e
 | met f y =>
  have e:h.get? a=some (fE (.ref f) (.ref y)):=x;show h'.get? a=some (fE (.ref f) (.ref y));exact k a _ (.inl rfl) e
 | ext φ=>obtain⟨p,⟨o,e⟩,st⟩:=x;exact⟨st _ _ p λo q=>k _ _ (.inl rfl) q,⟨o,k _ _ (.inl rfl) e⟩,st⟩
theorem HOk.lt (x:HOk P w H h)(e:H a=some o):a<h.objs.size:=(x a o e).lt
theorem HOk.fresh (x:HOk P w H h)(e:h.objs.size<=a):H a=none:=by
 cases q:H a with
 | none=>rfl
 | some u=>exact absurd (aT (x.lt q) e) (cj _)
theorem HOk.kept (x:HOk P w H h)(k:∀ b u,h.get? b=some u->h'.get? b=some u):HOk P w H h':=λa o e =>
 (x a o e).stay (λb u _ q=>k b u q) (λ_ q=>q) λ_ _ q=>q
theorem HOk.laid (x:HOk P w H h)(k:∀ b u,h.get? b=some u->h'.get? b=some u)(hp:h.objs.size<=a)(new:J1 P w (upd H a o) h' a o):HOk P w (upd H a o) h':=λb u e=>by
 have hn:=x.fresh hp;by_cases hb:b=a
 ·subst hb;rw[A2] at e;cases e;exact new
 ·rw[A8 hb] at e;exact (x b u e).stay (λc v _ q=>k c v q) (λc q=>by rw[A8 (C3 q hn)];exact q) λc xs q=>by rw[A8 (C3 q hn)];exact q
end
def Rd (H:Hp)(a:Addr)(u:HO):Prop:=H a=some u\/∃ o,H a=some (.frz o u)
theorem Rd.of {H:Hp}{a:Addr}{u:HO}(h:H a=some u):Rd H a u:=.inl h
theorem Rd.ok {P:Program}{w:World}{H:Hp}{h:Heap}{a:Addr}{u:HO}(r:Rd H a u)(x:HOk P w H h):J1 P w H h a u:=by
 rcases r with r | ⟨o,r⟩
 ·exact x a u r
 ·obtain⟨_,q⟩:=x a _ r;exact q
def Mut:Option HO->Prop
 | some (.lst _)=>True
 | some (.dK _)=>True
 | some (.dT _)=>True
 | some (.set _ _)=>True
 | some (.ins _ _ _)=>True
 | some (.ext _)=>True
 | _=>False
section
variable {P:Program}{w:World}{H:Hp}{h h':Heap}{x e:Addr}{o':HO}
theorem HOk.write (ok:HOk P w H h)(mu:Mut (H x))(he:e=x\/H e=some (.own x))(k:∀ b u,b≠e->h.get? b=some u->h'.get? b=some u)(heo:∃ u,h'.get? e=some u)
  (new:J1 P w (upd H x o') h' x o'):HOk P w (upd H x o') h':=λb u q=>by
 have nown:∀ c y,H c=some (.own y)->c≠x:=λc y r z=>by subst z;rw[r] at mu;exact mu
 have ntup:∀ c xs,H c=some (.tup xs)->c≠x:=λc xs r z=>by subst z;rw[r] at mu;exact mu
 by_cases hb:b=x
 ·subst hb;rw[A2] at q;cases q;exact new
 ·rw[A8 hb] at q;by_cases hbe:b=e
  ·have q':H b=some (.own x):=by
    rcases he with z | z
    ·exact absurd (hbe.trans z) hb
    ·rw[hbe];exact z
   rw[q] at q';cases q';obtain⟨v,hv⟩:=heo;exact⟨v,by rw[hbe];exact hv⟩
  ·refine (ok b u q).stay (λc v hc r=>k c v ?_ r) (λc r=>by rw[A8 (nown c b r)];exact r) λc xs r=>by rw[A8 (ntup c xs r)];exact r
   rcases hc with rfl | hc
   ·exact hbe
   ·rintro rfl;rcases he with z | z
    ·exact nown c b hc z
    ·rw[hc] at z;cases z;exact hb rfl
end
structure Un (fs ex:List Addr)(H H':Hp)(h h':Heap):Prop where
 keep:∀ b o,h.get? b=some o->H b=none->b∉fs->b∉ex->h'.get? b=some o
 slot:∀ b o,h.get? b=some o->H b=none->b∈fs->b∉ex->∃ sl,h'.get? b=some {o with slots:=sl}
 free:∀ b o,h.get? b=some o->H b=none->b∉ex->H' b=none
 there:∀ b o,h.get? b=some o->b∉ex->∃ o',h'.get? b=some o'
 tups:∀ b xs,H b=some (.tup xs)->H' b=some (.tup xs)
 frzs:∀ b o u,H b=some (.frz o u)->H' b=some (.frz o u)
 tbls:∀ b ps,H b=some (.tbl ps)->∃ more,H' b=some (.tbl (ps++more))
section
variable {fs fs' ex ex':List Addr}{H H1 H2:Hp}{h h1 h2 h':Heap}{a x e:Addr}{o:HO}
theorem Un.any (u:Un fs ex H H1 h h1){b:Addr}{ob:Obj}(q:h.get? b=some ob)(n:H b=none)(hx:b∉ex):∃ sl,h1.get? b=some {ob with slots:=sl}:=by
 by_cases hb:b∈fs
 ·exact u.slot b ob q n hb hx
 ·exact⟨ob.slots,u.keep b ob q n hb hx⟩
theorem Un.trans (a:Un fs ex H H1 h h1)(b:Un fs ex H1 H2 h1 h2):Un fs ex H H2 h h2 where
 keep:=λc ob q n hc hx=>b.keep c ob (a.keep c ob q n hc hx) (a.free c ob q n hx) hc hx
 slot:=λc ob q n hc hx=>by
  obtain⟨sl,e1⟩:=a.slot c ob q n hc hx;obtain⟨sl',e2⟩:=b.slot c _ e1 (a.free c ob q n hx) hc hx;exact⟨sl',e2⟩
 free:=λc ob q n hx=>by
  obtain⟨o',e1⟩:=a.there c ob q hx;exact b.free c o' e1 (a.free c ob q n hx) hx
 there:=λc ob q hx=>by
  obtain⟨o',e1⟩:=a.there c ob q hx;exact b.there c o' e1 hx
 tups:=λc xs q=>b.tups c xs (a.tups c xs q)
 frzs:=λc ob xs q=>b.frzs c ob xs (a.frzs c ob xs q)
 tbls:=λc ps q=>by
  obtain⟨m1,e1⟩:=a.tbls c ps q;obtain⟨m2,e2⟩:=b.tbls c _ e1;exact⟨m1++m2,by rw[e2,iC]⟩
theorem Un.kept (k:∀ b u,h.get? b=some u->h'.get? b=some u):Un fs ex H H h h' :=
 ⟨λb ob q _ _ _=>k b ob q,λb ob q _ _ _=>⟨ob.slots,k b ob q⟩,λ_ _ _ n _=>n,λb ob q _=>⟨ob,k b ob q⟩,λ_ _ q=>q,λ_ _ _ q=>q,λ_ ps q=>⟨#[],by rw[q];simp⟩⟩
theorem Un.refl:Un fs ex H H h h:=Un.kept λ_ _ q=>q
theorem Un.laid (k:∀ b u,h.get? b=some u->h'.get? b=some u)(hp:h.objs.size<=a)(hn:H a=none):Un fs ex H (upd H a o) h h' where
 keep:=λb u q _ _ _=>k b u q
 slot:=λb u q _ _ _=>⟨u.slots,k b u q⟩
 free:=λb u q n _=>by rw[A8 (aS (aT (aF q) hp))];exact n
 there:=λb u q _=>⟨u,k b u q⟩
 tups:=λb xs q=>by rw[A8 (C3 q hn)];exact q
 frzs:=λb u xs q=>by rw[A8 (C3 q hn)];exact q
 tbls:=λb ps q=>⟨#[],by rw[A8 (C3 q hn),q];simp⟩
theorem Un.write (mu:Mut (H x))(he:e=x\/H e=some (.own x))(k:∀ b u,b≠e->h.get? b=some u->h'.get? b=some u)(heo:∃ u,h'.get? e=some u):Un fs ex H (upd H x o) h h':=by
 have hx:∀ b,H b=none->b≠x:=λb n z=>by subst z;rw[n] at mu;exact mu
 have hb:∀ b,H b=none->b≠e:=λb n z=>by
  subst z;rcases he with r | r
  ·exact hx b n r
  ·rw[n] at r;cases r
 have hm:∀ b u,H b=some u->¬ Mut (some u)->b≠x:=λb u q nm z=>by subst z;rw[q] at mu;exact nm mu
 refine⟨λb u q n _ _=>k b u (hb b n) q,λb u q n _ _=>⟨u.slots,k b u (hb b n) q⟩,λb u q n _=>by rw[A8 (hx b n)];exact n,λb u q _=>?_,
  λb xs q=>by rw[A8 (hm b _ q λz=>z)];exact q,λb u xs q=>by rw[A8 (hm b _ q λz=>z)];exact q,λb ps q=>⟨#[],by rw[A8 (hm b _ q λz=>z),q];simp⟩⟩
 by_cases hbe:b=e
 ·subst hbe;exact heo
 ·exact⟨u,k b u hbe q⟩
theorem Un.mono (u:Un fs ex H H1 h h1)(hs:∀ b∈fs,b∈fs')(hx:∀ b∈ex,b∈ex'):Un fs' ex' H H1 h h1 :=
 ⟨λb ob q n hb he=>u.keep b ob q n (λz=>hb (hs b z)) λz=>he (hx b z),λ_ _ q n _ he=>u.any q n λz=>he (hx _ z),λb ob q n he=>u.free b ob q n λz=>he (hx b z),λb ob q he=>u.there b ob q λz=>he (hx b z),u.tups,u.frzs,u.tbls⟩
end
def trk (h:Heap)(H:Hp):List Addr:=(cU h.objs.size).filter λa=>(H a).isSome
def a2K (h:Heap)(H:Hp):Heap:=eT h (trk h H)
theorem a6j (h:Heap)(H:Hp):(a2K h H).objs.size=h.objs.size:=PySem.W.hideAll_size _ _
theorem a7W {h:Heap}{H:Hp}{b:Addr}{o:Obj}(e:h.get? b=some o)(n:H b=none):(a2K h H).get? b=some o :=
 dS _ e λhm=>by
  have q:(H b).isSome=true:=(List.mem_filter.mp hm).2;rw[n] at q;simp at q
theorem a8Z {h:Heap}{H:Hp}{b:Addr}{o:Obj}(e:(a2K h H).get? b=some o):h.get? b=some o/\H b=none:=by
 have e':h.get? b=some o:=hV (trk h H) e;refine⟨e',?_⟩;cases q:H b with
 | none=>rfl
 | some x =>
  have hm:b∈trk h H:=iY.mpr ⟨bK.mpr (aF e'),by simp[q]⟩;have z:(a2K h H).get? b=none:=PySem.W.hideAll_none (trk h H) hm;rw[z] at e;cases e
def a9C (g h:Heap)(L:Addr):List (Addr×Obj):=(cU h.objs.size).filterMap λa=>if a=L\/(g.get? a).isSome=true then none else (h.get? a).map λo=>(a,o)
def Y3 (g h:Heap)(L d:Addr):List (Addr×Obj):=(a9C g h L).filter λp=>decide (p.1≠d)
end L2
namespace L2
open PySem PySem.Spec PyProof.Rows
structure Mod (K:ae)(mg:Str->Option Value)(base:Heap):Prop where
 kin:K.In base
 glob:base.Ns mainGlobals mg
 blt:∃ mb,base.Ns builtinsNs mb/\∀ x:Str,x≠"__name__"->mb x=bootBuiltins x
 nolimit:base.NoLimit
structure Cx where
 prog:Program
 w:World
 K:ae
 mg:Str->Option Value
 base:Heap
 A:Around
 N:List Str
 sj:Shared
 Hz:Hp
 env:Env
 outer:List Env
 stack:List Env
 ex:List Addr
 fn:Str->Bool
 calm:Bool
 pn:List (Addr×Obj)
 xe:Value->Shared->Prop
def frs (l:List Env):List Addr:=l.filterMap (·.frame)
abbrev Cx.fs (X:Cx):List Addr:=frs X.outer
def Vis (sc:Scope)(x:Str):Prop:=sc.names.lookup x=some .local\/sc.names.lookup x=some .cell\/sc.names.lookup x=some .free
def Loc (sc:Scope)(x:Str):Prop:=sc.names.lookup x=some .local\/sc.names.lookup x=some .cell
def b3D (env:Env)(h:Heap)(m:Str->Option Value)(x:Str)(u:Value):Prop :=
 (env.kindOf x=some .local/\m x=some u)\/((env.kindOf x=some .cell\/env.kindOf x=some .free)/\∃ c,env.cells.lookup x=some c/\h.IsCell c (some u))
structure Cx.Ok (X:Cx):Prop where
 mod:Mod X.K X.mg X.base
 kind:X.env.scope.kind=.function
 glob:X.env.globals=mainGlobals
 blt:X.env.builtins=builtinsNs
 above:X.sj.heap.objs.size<=X.env.locals
 inj:∀ x y c,X.env.cells.lookup x=some c->X.env.cells.lookup y=some c->x=y
 has:∀ x,(X.env.kindOf x=some .cell\/X.env.kindOf x=some .free)->∃ c,X.env.cells.lookup x=some c
 cab:∀ x c,X.fn x=true->X.env.cells.lookup x=some c->X.sj.heap.objs.size<=c
 hd:X.calm=true->X.A.handled=none
 frames:X.A.frames=some X.stack
 stk:X.stack=X.outer\/(X.stack=X.env::X.outer/\X.env.frame=some X.env.locals)
 exf:∀ b∈X.ex,b≠X.env.locals/\∀ x c,X.env.cells.lookup x=some c->c≠b
 bs:∀ b o,X.base.get? b=some o->X.sj.heap.get? b=some o/\X.Hz b=none
 bsz:X.base.objs.size<=X.sj.heap.objs.size
 noex:∀ b o,X.base.get? b=some o->b∉X.ex
 exfs:∀ b∈X.ex,b∉X.fs
 funs:X.sj.heap.FunFrames X.base X.outer
 frf:∀ b∈X.fs,X.Hz b=none
structure Inv (X:Cx)(pins:List (Addr×Obj))(σ:List (Option V))(H:Hp)(s:Shared):Prop where
 ok:X.Ok
 os:s.os=X.sj.os
 bare:AllBare s.gens
 base:Un X.fs X.ex X.Hz H X.sj.heap s.heap
 loc:∃ m,s.heap.Ns X.env.locals m/\∀(i:Nat) (x:Str) (v:V),X.N[i]?=some x->σ[i]?=some (some v)->Vis X.env.scope x->∃ u,C6 v u/\b3D X.env s.heap m x u
 cell:∀ x c,X.env.cells.lookup x=some c->∃ v,s.heap.IsCell c v
 free:H X.env.locals=none
 freeC:∀ x c,X.env.cells.lookup x=some c->H c=none
 pin:∀ p∈X.pn++pins,s.heap.get? p.1=some p.2/\H p.1=none/\p.1≠X.env.locals/\p.1∉X.fs/\∀ v,p.2.data≠.cell v
 hok:HOk X.prog X.w H s.heap
 len:σ.length=X.N.length
section
variable {X:Cx}{pins:List (Addr×Obj)}{σ:List (Option V)}{H H':Hp}{s:Shared}{h':Heap}
theorem Cx.Ok.nofr (ok:X.Ok){b:Addr}{o:Obj}(e:X.base.get? b=some o):b∉X.fs:=λhb=>by
 have:=(ok.funs.mem hb).1;rw[e] at this;cases this
theorem Inv.bs (I:Inv X pins σ H s):∀ b o,X.base.get? b=some o->s.heap.get? b=some o/\H b=none:=λb o e =>
 ⟨I.base.keep b o (I.ok.bs b o e).1 (I.ok.bs b o e).2 (I.ok.nofr e) (I.ok.noex b o e),I.base.free b o (I.ok.bs b o e).1 (I.ok.bs b o e).2 (I.ok.noex b o e)⟩
theorem Inv.bk (I:Inv X pins σ H s):∀ b o,X.base.get? b=some o->s.heap.get? b=some o:=λb o e=>(I.bs b o e).1
theorem Inv.mod (I:Inv X pins σ H s):Mod X.K X.mg X.base:=I.ok.mod
theorem Inv.kIn (I:Inv X pins σ H s):X.K.In s.heap:=I.ok.mod.kin.keeps I.bk
theorem Inv.nolimit (I:Inv X pins σ H s):s.heap.NoLimit:=I.ok.mod.nolimit.keeps I.bk
theorem Inv.lt (I:Inv X pins σ H s):X.env.locals<s.heap.objs.size:=let ⟨_,hn,_⟩:=I.loc;hn.lt
theorem Inv.sz (I:Inv X pins σ H s):X.sj.heap.objs.size<=s.heap.objs.size:=ba I.ok.above (dB I.lt)
theorem Inv.nofs (I:Inv X pins σ H s){a:Addr}(h:s.heap.objs.size<=a):a∉X.fs:=λhb=>by
 obtain⟨_,o,ho,_⟩:=I.ok.funs.mem hb;exact absurd (aT (aF ho) (ba I.sz h)) (cj _)
theorem Inv.cne (I:Inv X pins σ H s):∀ x c,X.env.cells.lookup x=some c->c≠X.env.locals:=λx c e z=>by
 obtain⟨v,o,ho,hd⟩:=I.cell x c e;obtain⟨m,⟨o',es,ep,ho',hd',_⟩,_⟩:=I.loc;rw[z,ho'] at ho;cases ho;rw[hd'] at hd;cases hd
theorem Inv.funs (I:Inv X pins σ H s):s.heap.FunFrames X.base X.outer:=by
 have all:∀(l:List Env),(∀ b∈frs l,b∈X.fs)->X.sj.heap.FunFrames X.base l->s.heap.FunFrames X.base l:=by
  intro l;induction l with
  | nil=>intro _ _;trivial
  | cons env r ih =>
   intro hs hl;obtain⟨hk,⟨L,o,hf,hn,ho,hd⟩,hr⟩:=hl;have hL:L∈X.fs:=hs L (by unfold frs;rw[eg,hf];exact aO);obtain⟨sl,e⟩:=I.base.slot L o ho (I.ok.frf L hL) hL λz=>I.ok.exfs L z hL
   exact⟨hk,⟨L,_,hf,hn,e,hd⟩,ih (λb hb=>hs b (by unfold frs;rw[eg,hf];exact aL _ hb)) hr⟩
 exact all X.outer (λ_ hb=>hb) I.ok.funs
theorem Inv.stack (I:Inv X pins σ H s):s.heap.FunFrames X.base X.stack:=by
 rcases I.ok.stk with e | ⟨e,hf⟩
 ·rw[e];exact I.funs
 ·rw[e];obtain⟨m,hn,_⟩:=I.loc;refine .cons (by rw[I.ok.kind];decide) hf hn ?_ I.funs;exact Heap.get?_none_of_le (ba I.ok.bsz I.ok.above)
theorem Inv.stkSub (I:Inv X pins σ H s):∀ b∈frs X.stack,b∈X.env.locals::X.fs:=λb hb=>by
 rcases I.ok.stk with e | ⟨e,hf⟩
 ·rw[e] at hb;exact aL _ hb
 ·rw[e] at hb;unfold frs at hb;rw[eg,hf] at hb;exact hb
theorem Inv.stkFree (I:Inv X pins σ H s):∀ b∈frs X.stack,H b=none:=λb hb=>by
 rcases aW.mp (I.stkSub b hb) with e | hb
 ·rw[e];exact I.free
 ·obtain⟨_,o,ho,_⟩:=I.ok.funs.mem hb;exact I.base.free b o ho (I.ok.frf b hb) λz=>I.ok.exfs b z hb
theorem Inv.step {g':Array GenState}{t':Nat}{d':Drawn}{ch:List Addr}(I:Inv X pins σ H s)
  (hch:∀ b∈ch,(b∈X.ex\/X.sj.heap.objs.size<=b)/\b≠X.env.locals/\(∀ x c,X.env.cells.lookup x=some c->c≠b)/\∀ p∈X.pn++pins,p.1≠b)
  (keep:∀ b o,b≠X.env.locals->b∉X.fs->b∉ch->s.heap.get? b=some o->H b=none->h'.get? b=some o)
  (slot:∀ b o,b≠X.env.locals->b∈X.fs->b∉ch->s.heap.get? b=some o->H b=none->∃ sl,h'.get? b=some {o with slots:=sl}) (free:∀ b o,b∉ch->s.heap.get? b=some o->H b=none->H' b=none)
  (there:∀ b o,b∉ch->s.heap.get? b=some o->∃ o',h'.get? b=some o')
  (tups:∀ b xs,H b=some (.tup xs)->H' b=some (.tup xs)) (frzs:∀ b o u,H b=some (.frz o u)->H' b=some (.frz o u)) (tbls:∀ b ps,H b=some (.tbl ps)->∃ more,H' b=some (.tbl (ps++more)))
  (ns:∀ m,s.heap.Ns X.env.locals m->h'.Ns X.env.locals m) (hok:HOk X.prog X.w H' h') (hg:AllBare g') :
  Inv X pins σ H' {s with heap:=h',gens:=g',drawn:=d',toks:=t'}:=by
 have neL:∀ b o,X.sj.heap.get? b=some o->b≠X.env.locals:=λb o e=>aS (aT (aF e) I.ok.above)
 have neC:∀ b o,X.sj.heap.get? b=some o->b∉X.ex->b∉ch:=λb o e hx hb=>by
  rcases (hch b hb).1 with z | z
  ·exact hx z
  ·exact absurd (aT (aF e) z) (cj _)
 have cellK:∀ x c,X.env.cells.lookup x=some c->∀ v,s.heap.IsCell c v->h'.IsCell c v:=λx c e v ⟨o,ho,hd⟩=>by
  have nch:c∉ch:=λz=>(hch c z).2.2.1 x c e rfl
  by_cases hc:c∈X.fs
  ·obtain⟨sl,q⟩:=slot c o (I.cne x c e) hc nch ho (I.freeC x c e);exact⟨_,q,hd⟩
  ·exact⟨o,keep c o (I.cne x c e) hc nch ho (I.freeC x c e),hd⟩
 refine⟨I.ok,I.os,hg,⟨λb o e n hb hx=>?_,λb o e n hb hx=>?_,λb o e n hx=>?_,λb o e hx=>?_,λb xs e=>tups b xs (I.base.tups b xs e),λb o xs e=>frzs b o xs (I.base.frzs b o xs e),λb ps e=>?_⟩,?_,λx c e=>?_,?_,λx c e=>?_,λp hp=>?_,hok,I.len⟩
 ·exact keep b o (neL b o e) hb (neC b o e hx) (I.base.keep b o e n hb hx) (I.base.free b o e n hx)
 ·obtain⟨sl,e1⟩:=I.base.slot b o e n hb hx;obtain⟨sl',e2⟩:=slot b _ (neL b o e) hb (neC b o e hx) e1 (I.base.free b o e n hx);exact⟨sl',e2⟩
 ·obtain⟨o',e1⟩:=I.base.there b o e hx;exact free b o' (neC b o e hx) e1 (I.base.free b o e n hx)
 ·obtain⟨o',e1⟩:=I.base.there b o e hx;exact there b o' (neC b o e hx) e1
 ·obtain⟨m1,e1⟩:=I.base.tbls b ps e;obtain⟨m2,e2⟩:=tbls b _ e1;exact⟨m1++m2,by rw[e2,iC]⟩
 ·obtain⟨m,hn,hl⟩:=I.loc;refine⟨m,ns m hn,λi x v e1 e2 e3=>?_⟩;obtain⟨u,r,l⟩:=hl i x v e1 e2 e3;refine⟨u,r,?_⟩;rcases l with l | ⟨k,c,e,z⟩
  ·exact .inl l
  ·exact .inr ⟨k,c,e,cellK x c e _ z⟩
 ·obtain⟨v,z⟩:=I.cell x c e;exact⟨v,cellK x c e v z⟩
 ·obtain⟨m,⟨o,_,_,ho,_⟩,_⟩:=I.loc;exact free _ o (λz=>(hch _ z).2.1 rfl) ho I.free
 ·obtain⟨v,o,ho,hd⟩:=I.cell x c e;exact free c o (λz=>(hch c z).2.2.1 x c e rfl) ho (I.freeC x c e)
 ·obtain⟨e,n,ne,nf,d⟩:=I.pin p hp;have nch:p.1∉ch:=λz=>(hch p.1 z).2.2.2 p hp rfl
  exact⟨keep p.1 p.2 ne nf nch e n,free p.1 p.2 nch e n,ne,nf,d⟩
theorem Inv.un {t':Nat}(I:Inv X pins σ H s)(u:Un X.fs [] H H' s.heap h')(hok:HOk X.prog X.w H' h'):Inv X pins σ H' {s with heap:=h',toks:=t'}:=by
 obtain⟨m,⟨o,es,ep,ho,r⟩,_⟩:=id I.loc;obtain⟨sl,hL⟩:=u.any ho I.free (by simp)
 exact I.step (g':=s.gens) (d':=s.drawn) (ch:=[]) (λ_ z=>nomatch z) (λb o _ hb _ e n=>u.keep b o e n hb (by simp)) (λb o _ hb _ e n=>u.slot b o e n hb (by simp)) (λb o _ e n=>u.free b o e n (by simp)) (λb o _ e=>u.there b o e (by simp)) u.tups u.frzs u.tbls (λm' hm=>by
  obtain⟨o',es',ep',ho',r'⟩:=hm;rw[ho] at ho';cases ho'
  exact⟨_,es',ep',hL,r'⟩) hok I.bare
theorem Inv.call {g':Array GenState}{t':Nat}{d':Drawn}{ch:List Addr}(I:Inv X pins σ H s)(u:Un (frs X.stack) ch H H' s.heap h')(hok:HOk X.prog X.w H' h')(hg:AllBare g')
  (hch:∀ b∈ch,(b∈X.ex\/X.sj.heap.objs.size<=b)/\b≠X.env.locals/\(∀ x c,X.env.cells.lookup x=some c->c≠b)/\∀ p∈X.pn++pins,p.1≠b) :
  Inv X pins σ H' {s with heap:=h',gens:=g',drawn:=d',toks:=t'}:=by
 obtain⟨m,⟨o,es,ep,ho,r⟩,_⟩:=id I.loc;obtain⟨sl,hL⟩:=u.any ho I.free λz=>(hch _ z).2.1 rfl
 exact I.step (ch:=ch) hch (λb o hL hb hc e n=>u.keep b o e n (λz=>(aW.mp (I.stkSub b z)).elim hL hb) hc) (λb o _ _ hc e n=>u.any e n hc) (λb o hc e n=>u.free b o e n hc) (λb o hc e=>u.there b o e hc) u.tups u.frzs u.tbls (λm' hm=>by
  obtain⟨o',es',ep',ho',r'⟩:=hm;rw[ho] at ho';cases ho'
  exact⟨_,es',ep',hL,r'⟩) hok hg
theorem Inv.turned {t':Nat}{it:Addr}(I:Inv X pins σ H s)(k:∀ b o,b≠it->s.heap.get? b=some o->h'.get? b=some o)(hn:H it=none)(hL:it≠X.env.locals)
  (h1:it∈X.ex\/X.sj.heap.objs.size<=it) (h2:∀ x c,X.env.cells.lookup x=some c->c≠it) (h3:∀ p∈X.pn++pins,p.1≠it):Inv X pins σ H {s with heap:=h',toks:=t'}:=by
 have nit:∀ b u,H b=some u->b≠it:=λb u e z=>by rw[z,hn] at e;cases e
 refine I.step (g':=s.gens) (d':=s.drawn) (ch:=[it]) (λb hb=>?_) (λb o _ _ hc e _=>k b o (λz=>hc (by simp[z])) e) (λb o _ _ hc e _=>⟨o.slots,k b o (λz=>hc (by simp[z])) e⟩) (λ_ _ _ _ n=>n)
  (λb o hc e=>⟨o,k b o (λz=>hc (by simp[z])) e⟩) (λ_ _ e=>e) (λ_ _ _ e=>e) (λb ps e=>⟨#[],by rw[e];simp⟩) (λm hm=>?_) (λb u e=>?_) I.bare
 ·have e:b=it:= ~~~hb
  subst e;exact⟨h1,hL,h2,h3⟩
 ·obtain⟨o,es,ep,ho,r⟩:=hm;exact⟨o,es,ep,k _ o (eN hL) ho,r⟩
 ·refine (I.hok b u e).stay (λc v hc q=>k c v ?_ q) (λ_ q=>q) λ_ _ q=>q
  rcases hc with z | z
  ·rw[z];exact nit b u e
  ·exact nit c _ z
theorem Inv.tok (I:Inv X pins σ H s)(t:Nat):Inv X pins σ H {s with toks:=t}:=I.un (h':=s.heap) (t':=t) Un.refl I.hok
theorem Inv.kept {t':Nat}(I:Inv X pins σ H s)(k:∀ b u,s.heap.get? b=some u->h'.get? b=some u):Inv X pins σ H {s with heap:=h',toks:=t'}:=I.un (Un.kept k) (I.hok.kept k)
theorem Inv.laid {a:Addr}{o:HO}{t':Nat}(I:Inv X pins σ H s)(k:∀ b u,s.heap.get? b=some u->h'.get? b=some u)(hp:s.heap.objs.size<=a)(new:J1 X.prog X.w (upd H a o) h' a o) :
  Inv X pins σ (upd H a o) {s with heap:=h',toks:=t'}:=I.un (Un.laid k hp (I.hok.fresh hp)) (I.hok.laid k hp new)
theorem Inv.write {x e:Addr}{o:HO}{t':Nat}(I:Inv X pins σ H s)(mu:Mut (H x))(he:e=x\/H e=some (.own x))(k:∀ b u,b≠e->s.heap.get? b=some u->h'.get? b=some u)(heo:∃ u,h'.get? e=some u)
  (new:J1 X.prog X.w (upd H x o) h' x o):Inv X pins σ (upd H x o) {s with heap:=h',toks:=t'}:=I.un (Un.write mu he k heo) (I.hok.write mu he k heo new)
theorem Inv.pins_of {pins':List (Addr×Obj)}(I:Inv X pins σ H s)(h:∀ p∈pins',s.heap.get? p.1=some p.2/\H p.1=none/\p.1≠X.env.locals/\p.1∉X.fs/\∀ v,p.2.data≠.cell v):Inv X pins' σ H s :=
 ⟨I.ok,I.os,I.bare,I.base,I.loc,I.cell,I.free,I.freeC,λp hp=>(al.mp hp).elim (λz=>I.pin p (bM _ z)) (h p),I.hok,I.len⟩
theorem a3N {N:List Str}(hN:N.Nodup){i j:Nat}{x:Str}(a:N[i]?=some x)(b:N[j]?=some x):i=j:=by
 obtain⟨h1,e1⟩:=ap.mp a;obtain⟨h2,e2⟩:=ap.mp b;exact (List.getElem_inj hN).mp (e1.trans e2.symm)
theorem Z3 {M:Model}{A:Around}{E:Value->Shared->Prop}{i:Nat}{x:Str}{v:V}{u:Value}{Q:Unit->Shared->Prop}(I:Inv X pins σ H s)(hN:X.N.Nodup)(hi:X.N[i]?=some x)(hx:Loc X.env.scope x)(r:C6 v u)
  (h:∀ s',Inv X pins (σ.set i (some v)) H s'->(∃ a,dP a s.heap s'.heap/\(a=X.env.locals\/X.env.cells.lookup x=some a))->Q () s') (hf:X.fn x=true\/X.env.scope.names.lookup x=some .local:=by first | exact .inl rfl | exact .inr rfl | assumption):wpAny M A (storeName X.env x u) Q E s:=by
 obtain⟨m,hn,hl⟩:=id I.loc;have hcls:(X.env.scope.kind == .class || (X.env.scope.kind == .module && X.env.locals != X.env.globals))=false:=by rw[I.ok.kind];rfl
 have hiσ:i<σ.length:=by rw[I.len];exact (ap.mp hi).1
 have cne:=I.cne;have tracked:∀ {a:Addr} {h':Heap},(∃ o,s.heap.get? a=some o/\H a=none)->dP a s.heap h'->HOk X.prog X.w H h':=λ{a h'} ha hs b ob e=>by
  obtain⟨_,_,hfree⟩:=ha;refine (I.hok b ob e).stay (λc w' hc q=>(hs.2 c ?_).trans q) (λ_ q=>q) λ_ _ q=>q
  rintro rfl;rcases hc with rfl | hc
  ·rw[hfree] at e;cases e
  ·rw[hfree] at hc;cases hc
 rcases hx with hk | hk
 ·refine wpAny_storeName_local hk hn (λh' hn' hs=>?_) hcls;obtain⟨oL,_,_,hoL,_⟩:=id hn;refine h _ ⟨I.ok,I.os,I.bare,⟨λb o e n hb hx=>?_,λb o e n hb hx=>?_,I.base.free,λb o e hx=>?_,I.base.tups,I.base.frzs,I.base.tbls⟩,⟨_,hn',λj y v' e1 e2 e3=>?_⟩,λy c e=>?_,I.free,I.freeC,λp hp=>?_,tracked ⟨oL,hoL,I.free⟩ hs, ~~~I.len⟩ ⟨_,hs,.inl rfl⟩
  ·exact (hs.2 b (aS (aT (aF e) I.ok.above))).trans (I.base.keep b o e n hb hx)
  ·obtain⟨sl,e1⟩:=I.base.slot b o e n hb hx;exact⟨sl,(hs.2 b (aS (aT (aF e) I.ok.above))).trans e1⟩
  ·obtain⟨o',e1⟩:=I.base.there b o e hx;exact⟨o',(hs.2 b (aS (aT (aF e) I.ok.above))).trans e1⟩
  ·by_cases hj:j=i
   ·subst hj;rw[hi] at e1;cases e1;rw[cp hiσ] at e2;cases e2;exact⟨u,r,.inl ⟨hk,by simp⟩⟩
   ·rw[cC (eN hj)] at e2;obtain⟨u',r',q⟩:=hl j y v' e1 e2 e3;refine⟨u',r',?_⟩;rcases q with ⟨k,e⟩ | ⟨k,c,e,z⟩
    ·refine .inl ⟨k,?_⟩;have:y≠x:=λe=>hj (a3N hN e1 (e ▸ hi))
     simp[this,e]
    ·exact .inr ⟨k,c,e,z.sameBut hs (cne y c e)⟩
  ·obtain⟨w',z⟩:=I.cell y c e;exact⟨w',z.sameBut hs (cne y c e)⟩
  ·obtain⟨e,n,ne,nf,d⟩:=I.pin p hp;exact⟨(hs.2 p.1 ne).trans e,n,ne,nf,d⟩
 ·have hfn:X.fn x=true:=by
   rcases hf with z | z
   ·exact z
   ·rw[z] at hk;cases hk
  obtain⟨c,hc⟩:=I.ok.has x (.inl hk);obtain⟨w',z⟩:=I.cell x c hc;refine wpAny_storeName_cell I.ok.kind hk hc z (λh' hc' hs=>?_);obtain⟨oc,hoc,hocd⟩:=id z;refine h {s with heap:=h'} ⟨I.ok,I.os,I.bare,⟨λb o e n hb hx=>?_,λb o e n hb hx=>?_,I.base.free,λb o e hx=>?_,I.base.tups,I.base.frzs,I.base.tbls⟩,⟨m,hn.sameBut hs (eN (cne x c hc)),λj y v' e1 e2 e3=>?_⟩,λy c' e=>?_,I.free,I.freeC,λp hp=>?_,tracked ⟨oc,hoc,I.freeC x c hc⟩ hs, ~~~I.len⟩ ⟨c,hs,.inr hc⟩
  ·exact (hs.2 b (aS (aT (aF e) (I.ok.cab x c hfn hc)))).trans (I.base.keep b o e n hb hx)
  ·obtain⟨sl,e1⟩:=I.base.slot b o e n hb hx;exact⟨sl,(hs.2 b (aS (aT (aF e) (I.ok.cab x c hfn hc)))).trans e1⟩
  ·obtain⟨o',e1⟩:=I.base.there b o e hx;exact⟨o',(hs.2 b (aS (aT (aF e) (I.ok.cab x c hfn hc)))).trans e1⟩
  ·by_cases hj:j=i
   ·subst hj;rw[hi] at e1;cases e1;rw[cp hiσ] at e2;cases e2;exact⟨u,r,.inr ⟨.inl hk,c,hc,hc'⟩⟩
   ·rw[cC (eN hj)] at e2;obtain⟨u',r',q⟩:=hl j y v' e1 e2 e3;refine⟨u',r',?_⟩;rcases q with q | ⟨k,c',e,z'⟩
    ·exact .inl q
    ·refine .inr ⟨k,c',e,z'.sameBut hs ?_⟩;rintro rfl;exact hj (a3N hN e1 (I.ok.inj _ _ _ e hc ▸ hi))
  ·by_cases hcc:c'=c
   ·subst hcc;exact⟨_,hc'⟩
   ·obtain⟨w2,z2⟩:=I.cell y c' e;exact⟨w2,z2.sameBut hs hcc⟩
  ·obtain⟨e,n,ne,nf,d⟩:=I.pin p hp;refine⟨(hs.2 p.1 ?_).trans e,n,ne,nf,d⟩;intro q;rw[q,hoc] at e;have q':oc=p.2:=aG e;exact d w' (by rw[<- q'];exact hocd)
theorem a3h {M:Model}{A:Around}{E:Value->Shared->Prop}{i:Nat}{x:Str}{v:V}{u:Value}{Q:Unit->Shared->Prop}(I:Inv X pins σ H s)(hN:X.N.Nodup)(hi:X.N[i]?=some x)(hx:Loc X.env.scope x)(r:C6 v u)
  (h:∀ s',Inv X pins (σ.set i (some v)) H s'->Q () s') (hf:X.fn x=true\/X.env.scope.names.lookup x=some .local:=by first | exact .inl rfl | exact .inr rfl | assumption):wpAny M A (storeName X.env x u) Q E s :=
 Z3 I hN hi hx r (λs' I' _=>h s' I') hf
theorem Inv.call' {s':Shared}{ch:List Addr}(I:Inv X pins σ H s)(ho:s'.os=s.os)(u:Un (frs X.stack) ch H H' s.heap s'.heap)(hok:HOk X.prog X.w H' s'.heap)(hg:AllBare s'.gens)
  (hch:∀ b∈ch,(b∈X.ex\/X.sj.heap.objs.size<=b)/\b≠X.env.locals/\(∀ x c,X.env.cells.lookup x=some c->c≠b)/\∀ p∈X.pn++pins,p.1≠b):Inv X pins σ H' s':=by
 obtain⟨h',g',d',t',o'⟩:=s';have e:o'=s.os:=ho;subst e;exact I.call (g':=g') (t':=t') (d':=d') u hok hg hch
end
abbrev XK:=Value->Option Addr->Hp->Prop
abbrev St:=List (Option V)
abbrev VK:=V->Hp->Prop
abbrev TE:=St->Hp->VK->Prop
abbrev TT:=St->Hp->(Bool->Hp->Prop)->Prop
abbrev TA:=St->Hp->(List V->Hp->Prop)->Prop
structure T5 where
 nx:St->Hp->Prop
 rt:VK
 bk:St->Hp->Prop:=λ_ _=>False
 ct:St->Hp->Prop:=λ_ _=>False
abbrev TS:=T5->St->Hp->Prop
def EP (X:Cx)(pins:List (Addr×Obj))(σ:St)(Q:VK)(u:Value)(s':Shared):Prop:=∃ v H',Inv X pins σ H' s'/\C6 v u/\Q v H'
def TP (X:Cx)(pins:List (Addr×Obj))(σ:St)(Q:Bool->Hp->Prop)(b:Bool)(s':Shared):Prop:=∃ H',Inv X pins σ H' s'/\Q b H'
def AP (X:Cx)(pins:List (Addr×Obj))(σ:St)(Q:List V->Hp->Prop)(us:List Value)(s':Shared):Prop:=∃ vs H',Inv X pins σ H' s'/\C0 vs us/\Q vs H'
def SP (X:Cx)(pins:List (Addr×Obj))(D:T5)(f:Flow)(s':Shared):Prop :=
 match f with
 | .next=>∃ σ' H',Inv X pins σ' H' s'/\D.nx σ' H'
 | .brk=>∃ σ' H',Inv X pins σ' H' s'/\D.bk σ' H'
 | .cont=>∃ σ' H',Inv X pins σ' H' s'/\D.ct σ' H'
 | .ret u=>∃ v σ' H',Inv X pins σ' H' s'/\C6 v u/\D.rt v H'
def PE (X:Cx)(e:Expr)(t:TE):Prop :=
 ∀(pins:List (Addr×Obj)) (s:Shared) (σ:St) (H:Hp) (Q:VK),Inv X pins σ H s->t σ H Q->wpAny (model X.prog X.w) X.A (eval e X.env) (EP X pins σ Q) X.xe s
def PT (X:Cx)(e:Expr)(t:TT):Prop :=
 ∀(pins:List (Addr×Obj)) (s:Shared) (σ:St) (H:Hp) (Q:Bool->Hp->Prop),Inv X pins σ H s->t σ H Q->wpAny (model X.prog X.w) X.A (isTrue e X.env (eval e X.env)) (TP X pins σ Q) X.xe s
def PW (X:Cx)(e:Expr)(t:TT):Prop :=
 ∀(whole:Sem Value) (pins:List (Addr×Obj)) (s:Shared) (σ:St) (H:Hp) (Q:Bool->Hp->Prop),Inv X pins σ H s->t σ H Q->wpAny (model X.prog X.w) X.A (isTrue e X.env whole) (TP X pins σ Q) X.xe s
theorem PW.pt {X:Cx}{e:Expr}{t:TT}(h:PW X e t):PT X e t:=h _
def PA (X:Cx)(es:List Expr)(t:TA):Prop :=
 ∀(pos:Pos) (pins:List (Addr×Obj)) (s:Shared) (σ:St) (H:Hp) (Q:List V->Hp->Prop),Inv X pins σ H s->t σ H Q->wpAny (model X.prog X.w) X.A (spliced (backTo pos (starEach es X.env))) (AP X pins σ Q) X.xe s
def PS (X:Cx)(st:Stmt)(t:TS):Prop :=
 ∀(pins:List (Addr×Obj)) (s:Shared) (σ:St) (H:Hp) (D:T5),Inv X pins σ H s->t D σ H->wpAny (model X.prog X.w) X.A (exec st X.env) (SP X pins D) X.xe s
def PSs (X:Cx)(st:List Stmt)(t:TS):Prop :=
 ∀(pins:List (Addr×Obj)) (s:Shared) (σ:St) (H:Hp) (D:T5),Inv X pins σ H s->t D σ H->wpAny (model X.prog X.w) X.A (execs st X.env) (SP X pins D) X.xe s
theorem thn {α:Type}{t:Sem α}{Q Q':α->Shared->Prop}{M:Model}{A:Around}{E:Value->Shared->Prop}{s:Shared}(h:wpAny M A t Q E s)(hQ:∀ a s,Q a s->Q' a s):wpAny M A t Q' E s:=bV h hQ λ_ _ x=>x
end L2
namespace L2
open PySem PySem.Spec PyProof.Rows
section
variable {X:Cx}
theorem bin {a b:Expr}{ta tb:TE}(ha:PE X a ta)(hb:PE X b tb){pins:List (Addr×Obj)}{s:Shared}{σ:St}{H:Hp}{R:V->V->Hp->Prop}(I:Inv X pins σ H s)(h:ta σ H λx H1=>tb σ H1 λy H2=>R x y H2)
  {α:Type} {Q:α->Shared->Prop} {f:Value->Value->Sem α}
  (hf:∀ v u s2 x y H2,Inv X pins σ H2 s2->C6 x v->C6 y u->R x y H2->wpAny (model X.prog X.w) X.A (f v u) Q X.xe s2) :
  wpAny (model X.prog X.w) X.A (eval a X.env) (λv sv=>wpAny (model X.prog X.w) X.A (eval b X.env) (λu sw=>wpAny (model X.prog X.w) X.A (f v u) Q X.xe sw) X.xe sv) X.xe s:=by
 refine thn (ha pins s σ H _ I h) λv s1 ⟨x,H1,I1,r1,q1⟩=>?_
 refine thn (hb pins s1 σ H1 _ I1 q1) λu s2 ⟨y,H2,I2,r2,q2⟩=>?_
 exact hf v u s2 x y H2 I2 r1 r2 q2
def T7 (i:Nat):TE:=fun σ H Q=>∃ v,σ[i]?=some (some v)/\Q v H
def tC (v:V):TE:=λ_ H Q=>Q v H
theorem b0M {i:Nat}{x:Str}{pos:Pos}(hN:X.N[i]?=some x)(hv:Vis X.env.scope x)(hd:(x == ("__debug__":Str))=false:=by decide)(hcd:(x == ("__classdict__":Str))=false:=by decide):PE X (.Name x pos) (T7 i):=by
 intro pins s σ H Q I h;obtain⟨v,e,h⟩:=h;obtain⟨m,hn,hl⟩:=I.loc;obtain⟨u,r,l⟩:=hl i x v hN e hv;have fin:EP X pins σ Q u s:=⟨v,H,I,r,h⟩
 rcases l with ⟨hk,hm⟩ | ⟨hk,c,hc,hcell⟩
 ·exact ja (wpAny_loadName_local I.ok.kind hk hn hm fin) hd
 ·rcases hk with hk | hk
  ·exact ja (wpAny_loadName_cell I.ok.kind hk hc hcell fin) hd
  ·exact ja (wpAny_loadName_free I.ok.kind hk hc hcell fin hcd) hd
theorem A5 {i j pos}:PE X (.Constant (.int i) j pos) (tC (.int i)):=λ_ _ _ H _ I h=>wpAny_Constant_int ⟨.int i,H,I.tok _,⟨_,rfl⟩,h⟩
theorem M5 {b j pos}:PE X (.Constant (.bool b) j pos) (tC (.bl b)):=λ_ _ _ H _ I h=>Constant_bool ⟨.bl b,H,I,rfl,h⟩
theorem a2z {j pos}:PE X (.Constant .none j pos) (tC .non):=λ_ _ _ H _ I h=>Constant_none ⟨.non,H,I,rfl,h⟩
theorem J9 {x j pos}:PE X (.Constant (.str x) j pos) (tC (.str x)):=λ_ _ _ H _ I h=>iu ⟨.str x,H,I.tok _,⟨_,rfl⟩,h⟩
def Gl (X:Cx)(x:Str):Prop:=X.env.kindOf x=some .globalImplicit
theorem a2J {E:Value->Shared->Prop}{pins:List (Addr×Obj)}{s:Shared}{σ:St}{H:Hp}{x:Str}{u:Value}{pos:Pos}{Q:Value->Shared->Prop}(I:Inv X pins σ H s)(hg:Gl X x)(hm:X.mg x=some u)(h:Q u s)
  (hd:(x == ("__debug__":Str))=false:=by decide):wpAny (model X.prog X.w) X.A (eval (.Name x pos) X.env) Q E s :=
 gm I.ok.kind hg (Calls.loadGlobal_global (by rw[I.ok.glob];exact I.mod.glob.keeps I.bk) hm h) hd
theorem X4 {E:Value->Shared->Prop}{pins:List (Addr×Obj)}{s:Shared}{σ:St}{H:Hp}{x:Str}{u:Value}{pos:Pos}{Q:Value->Shared->Prop}(I:Inv X pins σ H s)(hg:Gl X x)(hm:X.mg x=none)(hv:bootBuiltins x=some u)(h:Q u s)
  (hn:x≠"__name__":=by decide) (hd:(x == ("__debug__":Str))=false:=by decide):wpAny (model X.prog X.w) X.A (eval (.Name x pos) X.env) Q E s:=by
 obtain⟨mb,h1,h2⟩:=I.mod.blt;exact gm I.ok.kind hg (Calls.loadGlobal_builtin (by rw[I.ok.glob];exact I.mod.glob.keeps I.bk) hm (by rw[I.ok.blt];exact h1.keeps I.bk) ((h2 x hn).trans hv) h) hd
theorem U1 {x:Str}{v:V}{u:Value}{pos:Pos}(hg:Gl X x)(hm:X.mg x=some u)(r:C6 v u)(hd:(x == ("__debug__":Str))=false:=by decide):PE X (.Name x pos) (tC v) :=
 λ_ _ _ H _ I h=>a2J I hg hm ⟨v,H,I,r,h⟩ hd
variable {a b:Expr}{ta tb:TE}{pos:Pos}
def PC (X:Cx)(op:CmpOp)(a b:Expr)(t:TE):Prop :=
 ∀(pins:List (Addr×Obj)) (s:Shared) (σ:St) (H:Hp) (Q:VK),Inv X pins σ H s->t σ H Q ->
  wpAny (model X.prog X.w) X.A (eval a X.env) (λv sv=>wpAny (model X.prog X.w) X.A (eval b X.env) (λu sw=>wpAny (model X.prog X.w) X.A (compareOp op v u) (EP X pins σ Q) X.xe sw) X.xe sv) X.xe s
theorem a7w (b:Expr){op:CmpOp}(h:op≠.In)(h2:op≠.NotIn):behindInMarks op b=false:=by
 have e1:(op == CmpOp.In)=false:=by cases op<;>first | rfl | exact absurd rfl h
 have e2:(op == CmpOp.NotIn)=false:=by cases op<;>first | rfl | exact absurd rfl h2
 cases b<;>simp[behindInMarks,e1,e2]
def b2h (ta:TE):TE:=fun σ H Q=>ta σ H λx H1=>Q (.bl (decide (x=.non))) H1
def b1Z (ta:TE):TE:=fun σ H Q=>ta σ H λx H1=>Q (.bl (!decide (x=.non))) H1
theorem C6.none_iff {x:V}{v:Value}(r:C6 x v):(v == cG)=decide (x=.non):=by
 cases x with
 | non=>cases r;rfl
 | bl _=>cases r;rfl
 | int _=>obtain⟨t,rfl⟩:=r;rfl
 | str _=>obtain⟨t,rfl⟩:=r;rfl
 | byt _=>obtain⟨t,rfl⟩:=r;rfl
 | flt _=>obtain⟨t,rfl⟩:=r;rfl
 | ref _=>cases r;rfl
 | ty _=>cases r;rfl
theorem b0P {j pos'}(ha:PE X a ta):PC X .Is a (.Constant .none j pos') (b2h ta):=by
 intro pins s σ H Q I h;refine thn (ha pins s σ H _ I h) λv s1 ⟨x,H1,I1,r1,q1⟩=>?_
 exact Constant_none (is_none_gen ⟨.bl _,H1,I1,by rw[r1.none_iff];rfl,q1⟩)
def tB (t:TE):TT:=fun σ H Q=>t σ H λx H1=>∃ c,x=.bl c/\Q c H1
theorem a2v {op:CmpOp}{t:TE}(h:PC X op a b t)(h1:behindInMarks op b=false:=by first | exact a7w _ (by decide) (by decide) | rfl):PT X (.Compare a [op] [b] pos) (tB t):=by
 intro pins s σ H Q I hw;refine iR (thn (h pins s σ H _ I hw) λv s1 h1=>thn h1 λu s2 h2=>thn h2 λc s3 ⟨x,H1,I1,r1,q1⟩=>?_) h1;obtain⟨d,rfl,q⟩:=q1;cases r1;exact dm ⟨H1,I1,q⟩
theorem P5 {e:Expr}{t:TE}(h:PE X e t)(he:∀ whole,isTrue e X.env whole=(do let v <- whole;standAt e.pos;holding [v] (truthy v)):=by intro _;rfl):PT X e (tB t):=by
 intro pins s σ H Q I hw;refine isTrue_plain (thn (h pins s σ H _ I hw) λv s1 ⟨x,H1,I1,r1,q1⟩=>?_) (he _);obtain⟨d,rfl,q⟩:=q1;cases r1;exact dm ⟨H1,I1,q⟩
variable {tA tB':TT}{Y3:List Expr}
def b2p (t u:TT):TT:=fun σ H Q=>t σ H λc H1=>if c=true then u σ H1 Q else Q false H1
def tOr (t u:TT):TT:=fun σ H Q=>t σ H λc H1=>if c=true then Q true H1 else u σ H1 Q
def b2b (t:TT):TT:=fun σ H Q=>t σ H λc H1=>Q (!c) H1
theorem a5n (ha:PT X a tA):PW X (.BoolOp .And [a] pos) tA:=by
 intro wh pins s σ H Q I h;refine isTrue_and (thn (ha pins s σ H Q I h) λc s1 e=>?_);cases c with
 | true=>exact isTrue_and_nil e
 | false=>exact e
theorem Z4 (ha:PT X a tA):PW X (.BoolOp .Or [a] pos) tA:=by
 intro wh pins s σ H Q I h;refine isTrue_or (thn (ha pins s σ H Q I h) λc s1 e=>?_);cases c with
 | false=>exact isTrue_or_nil e
 | true=>exact e
theorem a7b (ha:PT X a tA)(hb:PW X (.BoolOp .And (b::Y3) pos) tB'):PW X (.BoolOp .And (a::b::Y3) pos) (b2p tA tB'):=by
 intro wh pins s σ H Q I h;refine isTrue_and (thn (ha pins s σ H _ I h) λc s1 ⟨H1,I1,q1⟩=>?_);cases c with
 | true=>exact hb wh pins s1 σ H1 Q I1 q1
 | false=>exact⟨H1,I1,q1⟩
theorem a1T (ha:PT X a tA)(hb:PW X (.BoolOp .Or (b::Y3) pos) tB'):PW X (.BoolOp .Or (a::b::Y3) pos) (tOr tA tB'):=by
 intro wh pins s σ H Q I h;refine isTrue_or (thn (ha pins s σ H _ I h) λc s1 ⟨H1,I1,q1⟩=>?_);cases c with
 | true=>exact⟨H1,I1,q1⟩
 | false=>exact hb wh pins s1 σ H1 Q I1 q1
theorem N0 (ha:PT X a tA):PT X (.UnaryOp .Not a pos) (b2b tA):=by
 intro pins s σ H Q I h;exact isTrue_not (ha pins s σ H (λc H1=>Q (!c) H1) I h)
def a9P (ta tb:TE):TE:=fun σ H Q=>ta σ H λx H1=>∃ c,x=.bl c/\if c=true then tb σ H1 Q else Q (.bl false) H1
def b3d (ta tb:TE):TE:=fun σ H Q=>ta σ H λx H1=>∃ c,x=.bl c/\if c=true then Q (.bl true) H1 else tb σ H1 Q
def a9K (ta:TE):TE:=fun σ H Q=>ta σ H λx H1=>∃ c,x=.bl c/\Q (.bl (!c)) H1
theorem a2y {op}{t:TE}(h:PE X a t):PE X (.BoolOp op [a] pos) t:=λpins s σ H Q I hw=>BoolOp_one (h pins s σ H Q I hw)
theorem a1a (ha:PE X a ta)(hb:PE X (.BoolOp .And (b::Y3) pos) tb):PE X (.BoolOp .And (a::b::Y3) pos) (a9P ta tb):=by
 intro pins s σ H Q I h;refine BoolOp_and (thn (ha pins s σ H _ I h) λv s1 ⟨x,H1,I1,r1,q1⟩=>?_);obtain⟨c,rfl,q1⟩:=q1;cases r1;refine dm ?_;cases c with
 | true=>exact hb pins s1 σ H1 Q I1 q1
 | false=>exact⟨.bl false,H1,I1,rfl,q1⟩
theorem b0N (ha:PE X a ta):PE X (.UnaryOp .Not a pos) (a9K ta):=by
 intro pins s σ H Q I h;refine UnaryOp_ (thn (ha pins s σ H _ I h) λv s1 ⟨x,H1,I1,r1,q1⟩=>?_);obtain⟨c,rfl,q1⟩:=q1;cases r1;exact not_of (dm ⟨.bl (!c),H1,I1,rfl,q1⟩)
def tIf (t:TT)(ta tb:TE):TE:=fun σ H Q=>t σ H λc H1=>if c=true then ta σ H1 Q else tb σ H1 Q
theorem a7g {c:Expr}(hc:PT X c tA)(ha:PE X a ta)(hb:PE X b tb):PE X (.IfExp c a b pos) (tIf tA ta tb):=by
 intro pins s σ H Q I h;refine wpAny_IfExp (thn (hc pins s σ H _ I h) λd s1 ⟨H1,I1,q1⟩=>?_);cases d with
 | true=>exact ha pins s1 σ H1 Q I1 q1
 | false=>exact hb pins s1 σ H1 Q I1 q1
end
end L2
namespace L2
open PySem PySem.Spec PyProof.Rows
def SqL (K:ae)(H:Hp)(a:Addr)(xs:List V):Prop :=
 Rd H a (.lst xs) \/
  ∃(o:Obj) (its:Array Value) (n:Nat),K.lookup a=some o/\o.cls=.type "list"/\o.dict=none/\o.data=.seq its n/\its.size<=sizeLine/\C0 xs its.toList
def SqT (K:ae)(H:Hp)(a:Addr)(xs:List V):Prop :=
 Rd H a (.tup xs) \/
  ∃(o:Obj) (its:Array Value) (n:Nat),K.lookup a=some o/\o.cls=.type "tuple"/\o.data=.seq its n/\its.size<=sizeLine/\C0 xs its.toList
def b3B:Value->Option V
 | .none=>some .non
 | .bool b=>some (.bl b)
 | .int i _=>some (.int i)
 | .str x _=>some (.str x)
 | .bytes b _=>some (.byt b)
 | .float b _=>some (.flt b)
 | .ref a=>some (.ref a)
 | .type n=>some (.ty n)
 | _=>none
theorem C6.abs {x:V}{u:Value}(r:C6 x u):b3B u=some x:=by
 cases x with
 | non=>cases r;rfl
 | bl _=>cases r;rfl
 | int _=>obtain⟨t,rfl⟩:=r;rfl
 | str _=>obtain⟨t,rfl⟩:=r;rfl
 | byt _=>obtain⟨t,rfl⟩:=r;rfl
 | flt _=>obtain⟨t,rfl⟩:=r;rfl
 | ref _=>cases r;rfl
 | ty _=>cases r;rfl
theorem C6.inj {x y:V}{u:Value}(r:C6 x u)(q:C6 y u):x=y:=aG (r.abs.symm.trans q.abs)
theorem C0.inj:∀ {xs ys:List V} {us:List Value},C0 xs us->C0 ys us->xs=ys
 | _,_,_,.nil,.nil=>rfl
 | _,_,_,.cons r t,.cons r' t'=>by rw[r.inj r',C0.inj t t']
section
variable {X:Cx}{pins:List (Addr×Obj)}{σ:St}{H:Hp}{s:Shared}{a:Addr}{xs ys:List V}
theorem SqL.of {K:ae}(h:H a=some (.lst xs)):SqL K H a xs:=.inl (.inl h)
theorem SqT.of {K:ae}(h:H a=some (.tup xs)):SqT K H a xs:=.inl (.inl h)
theorem Inv.list (I:Inv X pins σ H s)(h:SqL X.K H a xs):∃ its:List Value,C0 xs its/\PlainL s.heap a its.toArray/\xs.length<=sizeLine:=by
 rcases h with h | ⟨o,its,n,hk,hc,hd,hs,hz,r⟩
 ·obtain⟨z,its,n,r,e⟩:=h.ok I.hok;exact⟨its,r,⟨_,n,e,rfl,rfl,rfl⟩,z⟩
 ·refine⟨its.toList,r,⟨o,n,I.kIn a o hk,hc,hd, ~~~hs⟩,?_⟩;have e:=r.length;simp only[bo] at e;omega
theorem Inv.tuple (I:Inv X pins σ H s)(h:SqT X.K H a xs):∃ its:List Value,C0 xs its/\IsTup s.heap a its.toArray/\xs.length<=sizeLine:=by
 rcases h with h | ⟨o,its,n,hk,hc,hs,hz,r⟩
 ·obtain⟨z,its,r,p⟩:=h.ok I.hok;exact⟨its,r,p,z⟩
 ·refine⟨its.toList,r,⟨o,I.kIn a o hk,hc,n, ~~~hs⟩,?_⟩;have e:=r.length;simp only[bo] at e;omega
theorem Inv.list_inj (I:Inv X pins σ H s)(h:SqL X.K H a xs)(h':SqL X.K H a ys):xs=ys:=by
 obtain⟨its,r,⟨o,n,e,_,_,d⟩,_⟩:=I.list h;obtain⟨its',r',⟨o',n',e',_,_,d'⟩,_⟩:=I.list h';rw[e] at e';cases e';rw[d] at d';injection d' with d1 _
 have:its=its':=by simpa using congrArg Array.toList d1
 subst this;exact r.inj r'
theorem Inv.tuple_inj (I:Inv X pins σ H s)(h:SqT X.K H a xs)(h':SqT X.K H a ys):xs=ys:=by
 obtain⟨its,r,⟨o,e,_,n,d⟩,_⟩:=I.tuple h;obtain⟨its',r',⟨o',e',_,n',d'⟩,_⟩:=I.tuple h';rw[e] at e';cases e';rw[d] at d';injection d' with d1 _
 have:its=its':=by simpa using congrArg Array.toList d1
 subst this;exact r.inj r'
end
abbrev Cx.wish (X:Cx)(E:Value->Shared->Prop):Cx:={X with xe:=E}
abbrev Cx.nox (X:Cx):Cx:=X.wish λ_ _=>False
theorem Cx.Ok.wish {X:Cx}(ok:X.Ok)(E:Value->Shared->Prop):(X.wish E).Ok :=
 ⟨ok.mod,ok.kind,ok.glob,ok.blt,ok.above,ok.inj,ok.has,ok.cab,ok.hd,ok.frames,ok.stk,ok.exf,ok.bs,ok.bsz,ok.noex,ok.exfs,ok.funs,ok.frf⟩
theorem Cx.Ok.unwish {X:Cx}{E:Value->Shared->Prop}(ok:(X.wish E).Ok):X.Ok :=
 ⟨ok.mod,ok.kind,ok.glob,ok.blt,ok.above,ok.inj,ok.has,ok.cab,ok.hd,ok.frames,ok.stk,ok.exf,ok.bs,ok.bsz,ok.noex,ok.exfs,ok.funs,ok.frf⟩
section
variable {X:Cx}{pins:List (Addr×Obj)}{σ:St}{H:Hp}{s:Shared}{E:Value->Shared->Prop}
theorem Inv.wish (I:Inv X pins σ H s)(E:Value->Shared->Prop):Inv (X.wish E) pins σ H s:=⟨I.ok.wish E,I.os,I.bare,I.base,I.loc,I.cell,I.free,I.freeC,I.pin,I.hok,I.len⟩
theorem Inv.unwish (I:Inv (X.wish E) pins σ H s):Inv X pins σ H s:=⟨I.ok.unwish,I.os,I.bare,I.base,I.loc,I.cell,I.free,I.freeC,I.pin,I.hok,I.len⟩
theorem SP.unwish {D:T5}{f:Flow}{s':Shared}(h:SP (X.wish E) pins D f s'):SP X pins D f s':=by
 cases f with
 | next=>obtain⟨σ',H',I,q⟩:=h;exact⟨σ',H',I.unwish,q⟩
 | brk=>obtain⟨σ',H',I,q⟩:=h;exact⟨σ',H',I.unwish,q⟩
 | cont=>obtain⟨σ',H',I,q⟩:=h;exact⟨σ',H',I.unwish,q⟩
 | ret u=>obtain⟨v,σ',H',I,r,q⟩:=h;exact⟨v,σ',H',I.unwish,r,q⟩
theorem PE.nox {e:Expr}{t:TE}(h:PE X.nox e t):PE X e t:=λpins s σ H Q I hw =>
 bV (h pins s σ H Q (I.wish _) hw) (λ_ _ ⟨v,H',I',r,q⟩=>⟨v,H',I'.unwish,r,q⟩) λ_ _ z=>cJ z
theorem PT.nox {e:Expr}{t:TT}(h:PT X.nox e t):PT X e t:=λpins s σ H Q I hw =>
 bV (h pins s σ H Q (I.wish _) hw) (λ_ _ ⟨H',I',q⟩=>⟨H',I'.unwish,q⟩) λ_ _ z=>cJ z
theorem PSs.nox {st:List Stmt}{t:TS}(h:PSs X.nox st t):PSs X st t:=λpins s σ H D I hw =>
 bV (h pins s σ H D (I.wish _) hw) (λ_ _ q=>q.unwish) λ_ _ z=>cJ z
end
section
variable {X:Cx}{st:Stmt}{Y3:List Stmt}{t u:TS}{e:Expr}{te:TE}{pos:Pos}
def a9L:TS:=λD σ H=>D.nx σ H
def b0n (t u:TS):TS:=λD σ H=>t {D with nx:=u D} σ H
theorem D0:PSs X [] a9L:=λ_ _ σ H _ I h=>fD ⟨σ,H,I,h⟩
theorem A3 (h1:PS X st t)(h2:PSs X Y3 u):PSs X (st::Y3) (b0n t u):=by
 intro pins s σ H D I h;refine wpAny_execs_cons (thn (h1 pins s σ H {D with nx:=u D} I h) λf s1 q=>?_);cases f with
 | next =>
  obtain⟨σ',H',I',q⟩:=q;exact h2 pins s1 σ' H' D I' q
 | ret v=>exact q
 | brk=>exact q
 | cont=>exact q
theorem A4 (h1:PS X st t):PSs X [st] t:=by
 intro pins s σ H D I h;refine wpAny_execs_cons (thn (h1 pins s σ H D I h) λf s1 q=>?_);cases f with
 | next=>exact fD q
 | ret v=>exact q
 | brk=>exact q
 | cont=>exact q
theorem Inv.quiet {pins:List (Addr×Obj)}{σ:St}{H:Hp}{s:Shared}(I:Inv X pins σ H s):interactive X.env=false:=by simp[interactive,I.ok.kind]
def a9M (te:TE):TS:=λD σ H=>te σ H λ_ H1=>D.nx σ H1
theorem N8 (he:PE X e te)(hs:swapsWith e none pos.line X.env=pure false:=by rfl):PS X (.Expr e pos) (a9M te):=by
 intro pins s σ H D I h;exact wpAny_Expr_any (thn (he pins s σ H _ I h) λv s1 ⟨x,H1,I1,r1,q1⟩=>⟨σ,H1,I1,q1⟩) I.quiet hs
def b1X (te:TE):TS:=λD σ H=>te σ H D.rt
theorem B4 (he:PE X e te):PS X (.Return (some e) pos) (b1X te):=by
 intro pins s σ H D I h;exact wpAny_Return_some (thn (he pins s σ H _ I h) λv s1 ⟨x,H1,I1,r1,q1⟩=>⟨x,σ,H1,I1,r1,q1⟩)
def b1V:TS:=λD _ H=>D.rt .non H
def b2j (c:TT)(t u:TS):TS:=λD σ H=>c σ H λb H1=>if b=true then t D σ H1 else u D σ H1
theorem K3 {c:Expr}{a b:List Stmt}{tc:TT}(hc:PT X c tc)(ha:PSs X a t)(hb:PSs X b u):PS X (.If c a b pos) (b2j tc t u):=by
 intro pins s σ H D I h;refine wpAny_If (thn (hc pins s σ H _ I h) λd s1 ⟨H1,I1,q1⟩=>?_);cases d with
 | true=>exact ha pins s1 σ H1 D I1 q1
 | false=>exact hb pins s1 σ H1 D I1 q1
end
abbrev TG:=V->St->Hp->(St->Hp->Prop)->Prop
abbrev TGs:=List V->St->Hp->(St->Hp->Prop)->Prop
def PG (X:Cx)(target:Expr)(t:TG):Prop :=
 ∀(pins:List (Addr×Obj)) (s:Shared) (σ:St) (H:Hp) (v:V) (u:Value) (Q:St->Hp->Prop),Inv X pins σ H s->C6 v u->t v σ H Q ->
  wpAny (model X.prog X.w) X.A (assign target X.env u) (λ_ s'=>∃ σ' H',Inv X pins σ' H' s'/\Q σ' H') X.xe s
def PGs (X:Cx)(ts:List Expr)(t:TGs):Prop :=
 ∀(pins:List (Addr×Obj)) (s:Shared) (σ:St) (H:Hp) (vs:List V) (us:List Value) (Q:St->Hp->Prop),Inv X pins σ H s->C0 vs us->t vs σ H Q ->
  wpAny (model X.prog X.w) X.A (assignInOrder ((assignEach ts X.env).map (·.2)) us) (λ_ s'=>∃ σ' H',Inv X pins σ' H' s'/\Q σ' H') X.xe s
abbrev a9D:=V->V->V->Hp->(Hp->Prop)->Prop
def b2T (X:Cx)(t:a9D):Prop :=
 ∀(pins:List (Addr×Obj)) (s:Shared) (σ:St) (H:Hp) (o i v:V) (ov iv u:Value) (Q:Hp->Prop),Inv X pins σ H s->C6 o ov->C6 i iv->C6 v u->t o i v H Q ->
  wpAny (model X.prog X.w) X.A (setItem ov iv u) (λ_ s'=>∃ H',Inv X pins σ H' s'/\Q H') X.xe s
section
variable {X:Cx}{pos:Pos}
def M6 (i:Nat):TG:=λv σ H Q=>Q (σ.set i (some v)) H
theorem A6 {i:Nat}{x:Str}(hN:X.N.Nodup)(hi:X.N[i]?=some x)(hx:Loc X.env.scope x)(hf:X.fn x=true\/X.env.scope.names.lookup x=some .local:=by first | exact .inl rfl | exact .inr rfl | assumption):PG X (.Name x pos) (M6 i):=by
 intro pins s σ H v u Q I r h;exact gz (a3h I hN hi hx r (λs' I'=>⟨_,H,I',h⟩) hf)
def b2O:TGs:=λvs σ H Q=>vs=[]/\Q σ H
def a7Z (t:TG)(u:TGs):TGs:=λvs σ H Q=>∃ v r,vs=v::r/\t v σ H fun σ' H'=>u r σ' H' Q
theorem K5:PGs X [] b2O:=by
 intro pins s σ H vs us Q I r h;obtain⟨e,h⟩:=h;subst e;cases r;exact assignInOrder_nil ⟨σ,H,I,h⟩
theorem B9 {e:Expr}{es:List Expr}{t:TG}{u:TGs}(h1:PG X e t)(h2:PGs X es u)
  (hs:(assignEach (e::es) X.env).map (·.2)=assign e X.env::(assignEach es X.env).map (·.2):=by rfl):PGs X (e::es) (a7Z t u):=by
 intro pins s σ H vs us Q I r h;obtain⟨v,vr,e1,h⟩:=h;subst e1;cases r with
 | cons r rr =>
  rw[hs];refine assignInOrder_cons (thn (h1 pins s σ H _ _ _ I r h) λ_ s1 ⟨σ1,H1,I1,q1⟩=>?_);exact h2 pins s1 σ1 H1 _ _ Q I1 rr q1
def b1w (K:ae)(n:Nat)(t:TGs):TG:=λv σ H Q=>∃ a xs,v=.ref a/\SqT K H a xs/\xs.length=n/\t xs σ H Q
theorem b0K {es:List Expr}{k:Nat}{t:TGs}{n:Nat}(hc:X.calm=true)(h:PGs X es t)
  (hn:(assignEach es X.env).length=n:=by rfl) (hst:(assignEach es X.env).findIdx? (·.1)=none:=by rfl):PG X (.Tuple es k pos) (b1w X.K n t):=by
 intro pins s σ H v u Q I r hw;obtain⟨a,xs,e1,hq,hl,hw⟩:=hw;subst e1;cases r;obtain⟨its,rv,ht,hz⟩:=I.tuple hq;refine assign_Tuple_tuple (I.ok.hd hc) ht (by simp[hn,<- hl,rv.length]) hst λh' hx=>?_
 have I1:Inv X pins σ H {s with heap:=h'}:=I.kept (t':=s.toks) λb o e=>hx b o (aS (aF e)) e
 exact h pins _ σ H xs _ Q I1 (~~~rv) hw
def b2M (to ti:TE)(t:a9D):TG:=λv σ H Q=>to σ H λo H1=>ti σ H1 λi H2=>t o i v H2 λH3=>Q σ H3
theorem b0L {o i:Expr}{to ti:TE}{t:a9D}(ho:PE X o to)(hi:PE X i ti)(hs:b2T X t)
  (ha:∀ v,assign (.Subscript o i pos) X.env v=(do
   let ov <- holding [v] (eval o X.env)
   let iv <- holding [v,ov] (eval i X.env)
   standAt pos
   holding [v,ov,iv] (setItem ov iv v)
   release [v,ov,iv] []):=by intro _;rfl):PG X (.Subscript o i pos) (b2M to ti t):=by
 intro pins s σ H v u Q I r h;rw[ha];refine af (bQ (thn (ho pins s σ H _ I h) λov s1 ⟨x,H1,I1,r1,q1⟩=>?_));refine af (bQ (thn (hi pins s1 σ H1 _ I1 q1) λiv s2 ⟨y,H2,I2,r2,q2⟩=>?_));refine af (dM (af (bQ (thn (hs pins s2 σ H2 x y v ov iv u _ I2 r1 r2 r q2) λ_ s3 ⟨H3,I3,q3⟩=>?_))));exact wpAny_release ⟨σ,H3,I3,q3⟩
def a6K (te:TE)(g:TG):TS:=λD σ H=>te σ H λx H1=>g x σ H1 D.nx
theorem X0 {tg e:Expr}{te:TE}{g:TG}(he:PE X e te)(hg:PG X tg g)(hs:swapsWithSole [tg] e pos.line X.env=pure false:=by rfl)(hw:swappedStores [tg] e X.env=pure none:=by rfl)
  (h1:(assignEach [tg] X.env).map (·.2)=[assign tg X.env]:=by rfl):PS X (.Assign [tg] e pos) (a6K te g):=by
 intro pins s σ H D I h;refine wpAny_Assign_stores (thn (he pins s σ H _ I h) λv s1 ⟨x,H1,I1,r1,q1⟩=>?_) hs hw;rw[h1];exact thn (hg pins s1 σ H1 x v _ I1 r1 q1) λ_ s2 q=>q
theorem C1 {i:Nat}{x:Str}{e:Expr}{te:TE}{pos':Pos}(hN:X.N.Nodup)(hi:X.N[i]?=some x)(hx:Loc X.env.scope x)(he:PE X e te)(hs:swapsWith e (some (.Name x pos')) pos.line X.env=pure false:=by rfl)(hf:X.fn x=true\/X.env.scope.names.lookup x=some .local:=by first | exact .inl rfl | exact .inr rfl | assumption) :
  PS X (.Assign [.Name x pos'] e pos) (a6K te (M6 i)):=by
 intro pins s σ H D I h;refine wpAny_Assign_Name (thn (he pins s σ H _ I h) λv s1 ⟨y,H1,I1,r1,q1⟩=>?_) hs;exact a3h I1 hN hi hx r1 (λs2 I2=>⟨_,H1,I2,q1⟩) hf
end
section
variable {X:Cx}{pos:Pos}
def a6E (c:TT)(tb:TS):TS:=λD σ H=>∃ W:Nat->St->Hp->Prop,(∃ m,W m σ H)/\∀ m σ H,W m σ H ->
 c σ H λb H1=>if b=true then ∃ N:St->Hp->Prop,(∀ σ' H',N σ' H'->∃ m',m'<m/\W m' σ' H')/\tb {D with nx:=N,ct:=N,bk:=D.nx} σ H1 else D.nx σ H1
theorem a3C {c:Expr}{body:List Stmt}{tc:TT}{tb:TS}(hp:PassesOwn (model X.prog X.w) X.A X.env X.xe)(hc:PT X c tc)(hb:PSs X body tb):PS X (.While c body [] pos) (a6E tc tb):=by
 intro pins s σ H D I h;obtain⟨W,⟨m0,w0⟩,turn⟩:=h;refine wpAny_While (codeAny_whileLoop (λn s'=>∃ σ' H',Inv X pins σ' H' s'/\W n σ' H') ?_ m0 ⟨σ,H,I,w0⟩);rintro n s1 ⟨σ1,H1,I1,w1⟩;refine c0 hp (thn (hc pins s1 σ1 H1 _ I1 (turn n σ1 H1 w1)) λb s2 ⟨H2,I2,q2⟩=>?_);cases b with
 | true =>
  obtain⟨N,hN,q2⟩:=q2;rw[if_pos rfl];refine c0 hp (thn (hb pins s2 σ1 H2 _ I2 q2) λf s3 q3=>?_);cases f with
  | next =>
   obtain⟨σ3,H3,I3,n3⟩:=q3;obtain⟨m',hm,w3⟩:=hN σ3 H3 n3;exact⟨m',hm,σ3,H3,I3,w3⟩
  | cont =>
   obtain⟨σ3,H3,I3,n3⟩:=q3;obtain⟨m',hm,w3⟩:=hN σ3 H3 n3;exact⟨m',hm,σ3,H3,I3,w3⟩
  | brk=>exact q3
  | ret v=>exact q3
 | false =>
  rw[if_neg aJ];exact fD ⟨σ1,H2,I2,q2⟩
end
structure It where
 go:Nat->Hp->Prop
 yld:Nat->Hp->V->Hp->Prop
 stop:Nat->Hp->Prop
def a0f (X:Cx)(pins:List (Addr×Obj))(H:Hp)(b:Addr):Prop :=
 H b=none/\b≠X.env.locals/\b∉X.fs/\(b∈X.ex\/X.sj.heap.objs.size<=b)/\(∀ x c,X.env.cells.lookup x=some c->c≠b)/\∀ p∈X.pn++pins,p.1≠b
theorem Inv.fpOk {X:Cx}{pins:List (Addr×Obj)}{σ:St}{H H':Hp}{s:Shared}{b:Addr}(I:Inv X pins σ H s)(hb:s.heap.objs.size<=b)(hn:H' b=none):a0f X pins H' b:=by
 refine⟨hn,ij (aT I.lt hb),I.nofs hb,.inr (ba I.sz hb),λx c e z=>?_,λp hp z=>?_⟩
 ·obtain⟨v,q⟩:=I.cell x c e;exact absurd (aT q.lt (by rw[z];exact hb)) (cj _)
 ·exact absurd (aT (aF (I.pin p hp).1) (by rw[z];exact hb)) (cj _)
structure a6s (P:Program)(w:World)(K:ae)(tg:Expr)(J:It)(fp:List Addr)(it:Addr)(tn:Nat->Heap->Prop):Prop where
 mem:it∈fp
 obj:∀ i h,tn i h->∀ b∈fp,∃ o,h.get? b=some o/\∀ v,o.data≠.cell v
 keep:∀ i h h',tn i h->(∀ b∈fp,∀ o,h.get? b=some o->h'.get? b=some o)->tn i h'
 item:∀(X:Cx),X.prog=P->X.w=w->X.K=K->X.calm=true->∀(i:Nat) (pins:List (Addr×Obj)) (s:Shared) (σ:St) (H:Hp) (E:Value->Shared->Prop),Inv X pins σ H s->(∀ b∈fp,a0f X pins H b)->tn i s.heap->J.go i H ->
  wpAny (model P w) X.A (pyNext (.ref it)) (λr s1=>∃ u,r=some u /\
   wpAny (model P w) X.A (letOwnedTupleGo tg (.ref it) u) (λ_ s2=>∃ x H',Inv X pins σ H' s2/\C6 x u/\J.yld i H x H'/\tn (i+1) s2.heap/\∀ b∈fp,H' b=none) E s1) E s
 done:∀(X:Cx),X.prog=P->X.w=w->X.K=K->X.calm=true->∀(i:Nat) (pins:List (Addr×Obj)) (s:Shared) (σ:St) (H:Hp) (E:Value->Shared->Prop),Inv X pins σ H s->(∀ b∈fp,a0f X pins H b)->tn i s.heap->J.stop i H ->
  wpAny (model P w) X.A (pyNext (.ref it)) (λr s1=>r=none/\Inv X pins σ H s1) E s
 self:∀(A:Around) (i:Nat) (s:Shared) (Q:Value->Shared->Prop) (E:Value->Shared->Prop),tn i s.heap->Q (.ref it) s->wpAny (model P w) A (pyIter (.ref it)) Q E s
abbrev TI:=St->Hp->(It->Hp->Prop)->Prop
def PIE (X:Cx)(pins:List (Addr×Obj))(σ:St)(tg:Expr)(R:It->Hp->Prop)(itv:Value)(s2:Shared):Prop :=
 ∃(it:Addr) (fp:List Addr) (tn:Nat->Heap->Prop) (J:It) (H':Hp),itv=.ref it/\Inv X pins σ H' s2/\a6s X.prog X.w X.K tg J fp it tn/\tn 0 s2.heap/\(∀ b∈fp,a0f X pins H' b)/\R J H'
def PI (X:Cx)(tg iter:Expr)(wi:TI):Prop :=
 ∀(pins:List (Addr×Obj)) (s:Shared) (σ:St) (H:Hp) (R:It->Hp->Prop),Inv X pins σ H s->wi σ H R ->
  wpAny (model X.prog X.w) X.A (eval iter X.env) (λv s1=>wpAny (model X.prog X.w) X.A (pyIter v) (PIE X pins σ tg R) X.xe s1) X.xe s
theorem a7X {M:Model}{A:Around}{E:Value->Shared->Prop}{s:Shared}{tg:Expr}{it:Addr}{u:Value}{o:Obj}{n:String}{vs:Array Value}{Q:Unit->Shared->Prop}(ho:s.heap.get? it=some o)(hc:o.cls=.type n)(hd:o.data=.fields vs)
    (hn:["enumerate", "zip", "dict_itemiterator", "dict_reverseitemiterator", "odict_iterator", "itertools.zip_longest", "itertools.pairwise"].contains n=false) (hQ:Q () s):wpAny M A (letOwnedTupleGo tg (.ref it) u) Q E s:=by
  unfold letOwnedTupleGo;cases tg<;>first
    | exact au hQ
    | (cases u<;>first
        | exact au hQ
        | (refine af (ir ho ?_)
           rw[hc,hd];show wpAny M A (if (["enumerate", "zip", "dict_itemiterator", "dict_reverseitemiterator", "odict_iterator", "itertools.zip_longest", "itertools.pairwise"].contains n && vs[0]? == some (rawInt _))=true then _ else _) Q E s;rw[if_neg (by intro h;rw[hn,eG] at h;cases h)]
           exact au hQ))
def Itl (K:ae)(a:Addr):It :=
 ⟨λi H=>∃ xs x,SqL K H a xs/\xs[i]?=some x,λi H x H'=>H'=H/\∀ xs,SqL K H a xs->xs[i]?=some x,λi H=>∃ xs,SqL K H a xs/\xs.length<=i⟩
def Itt (K:ae)(a:Addr):It :=
 ⟨λi H=>∃ xs x,SqT K H a xs/\xs[i]?=some x,λi H x H'=>H'=H/\∀ xs,SqT K H a xs->xs[i]?=some x,λi H=>∃ xs,SqT K H a xs/\xs.length<=i⟩
def Itr (lo:Int)(n:Nat):It:=⟨λi _=>i<n,λi H x H'=>H'=H/\x=.int (lo+i),λi _=>n<=i⟩
theorem a5N {P:Program}{w:World}{K:ae}{tg:Expr}(a it:Addr):a6s P w K tg (Itl K a) [it] it (λi h=>h.IsListIter it a i) where
 mem:=by simp
 obj:=λi h st b hb=>by
  have e:b=it:= ~~~hb
  subst e;obtain⟨o,e,c,d⟩:=st;exact⟨o,e,λv z=>by rw[d] at z;cases z⟩
 keep:=λi h h' st k=>st.at λo e=>k it (by simp) o e
 item:=by
  intro X hP hw hK hc i pins s σ H E I hf st hg;subst hP hw hK;obtain⟨xs,x,hq,hx⟩:=hg;obtain⟨its,rv,p,hz⟩:=I.list hq;obtain⟨u,hu,ru⟩:=rv.get hx;obtain⟨f0,f1,f2,f3,f4,f5⟩:=hf it (by simp);refine fv st p.isList (x:=u) (~~~hu) λh' st' sb=>?_
  have I1:Inv X pins σ H {s with heap:=h'}:=I.turned (t':=s.toks) (λb o hb e=>(sb.2 b hb).trans e) f0 f1 f3 f4 f5;obtain⟨o,e,c,d⟩:=id st';exact⟨u,rfl,a7X (s:={s with heap:=h'}) e c d (by decide) ⟨x,H,I1,ru,⟨rfl,λys hy=>by rw[I.list_inj hy hq];exact hx⟩,st',λb hb=>(hf b hb).1⟩⟩
 done:=by
  intro X hP hw hK hc i pins s σ H E I hf st hg;subst hP hw hK;obtain⟨xs,hq,hx⟩:=hg;obtain⟨its,rv,p,hz⟩:=I.list hq;obtain⟨f0,f1,f2,f3,f4,f5⟩:=hf it (by simp);have hl:=rv.length;exact iP (I.ok.hd hc) st p.isList (by simp;omega) λh' eb=>⟨rfl,I.turned (t':=s.toks) (λb o hb e=>eb b o hb e) f0 f1 f3 f4 f5⟩
 self:=λ_ _ _ _ _ st h=>iQ st h
theorem a4k {P:Program}{w:World}{K:ae}{tg:Expr}(a it:Addr):a6s P w K tg (Itt K a) [it] it (λi h=>h.IsTupleIter it a i) where
 mem:=by simp
 obj:=λi h st b hb=>by
  have e:b=it:= ~~~hb
  subst e;obtain⟨o,e,c,d⟩:=st;exact⟨o,e,λv z=>by rw[d] at z;cases z⟩
 keep:=λi h h' st k=>st.at λo e=>k it (by simp) o e
 item:=by
  intro X hP hw hK hc i pins s σ H E I hf st hg;subst hP hw hK;obtain⟨xs,x,hq,hx⟩:=hg;obtain⟨its,rv,p,hz⟩:=I.tuple hq;obtain⟨u,hu,ru⟩:=rv.get hx;obtain⟨f0,f1,f2,f3,f4,f5⟩:=hf it (by simp);refine wpAny_pyNext_tuple_item st (show s.heap.IsTuple a its.toArray from p) (x:=u) (~~~hu) λh' st' sb=>?_
  have I1:Inv X pins σ H {s with heap:=h'}:=I.turned (t':=s.toks) (λb o hb e=>(sb.2 b hb).trans e) f0 f1 f3 f4 f5;obtain⟨o,e,c,d⟩:=id st';exact⟨u,rfl,a7X (s:={s with heap:=h'}) e c d (by decide) ⟨x,H,I1,ru,⟨rfl,λys hy=>by rw[I.tuple_inj hy hq];exact hx⟩,st',λb hb=>(hf b hb).1⟩⟩
 done:=by
  intro X hP hw hK hc i pins s σ H E I hf st hg;subst hP hw hK;obtain⟨xs,hq,hx⟩:=hg;obtain⟨its,rv,p,hz⟩:=I.tuple hq;obtain⟨f0,f1,f2,f3,f4,f5⟩:=hf it (by simp);have hl:=rv.length;exact wpAny_pyNext_tuple_end (I.ok.hd hc) st (show s.heap.IsTuple a its.toArray from p) (by simp;omega) λh' eb=>⟨rfl,I.turned (t':=s.toks) (λb o hb e=>eb b o hb e) f0 f1 f3 f4 f5⟩
 self:=λ_ _ _ _ _ st h=>wpAny_pyIter_tupleiter st h
theorem a4l {P:Program}{w:World}{K:ae}{tg:Expr}(it:Addr)(lo:Int)(n:Nat):a6s P w K tg (Itr lo n) [it] it (λi h=>IsRangeIter h it (lo+(i:Nat)*1) ((n:Int)-(i:Nat)) 1) where
 mem:=by simp
 obj:=λi h st b hb=>by
  have e:b=it:= ~~~hb
  subst e
  exact⟨_,st,λv z=>by
   have z':Data.fields _=Data.cell v:=z
   cases z'⟩
 keep:=λi h h' st k=>k it (by simp) _ st
 item:=by
  intro X hP hw hK hc i pins s σ H E I hf st hg;subst hP hw hK;obtain⟨f0,f1,f2,f3,f4,f5⟩:=hf it (by simp);have W:=Walks.range (prog:=X.prog) (w:=X.w) (I.ok.hd hc) it lo 1 n;refine W.item i s _ _ hg st λv h' tk hv st' kk=>?_
  obtain⟨t,rfl⟩:=hv;have I1:Inv X pins σ H {s with heap:=h',toks:=tk}:=I.turned (λb o hb e=>kk b o (~~~hb) e) f0 f1 f3 f4 f5;refine⟨_,rfl,a7X (s:={s with heap:=h',toks:=tk}) (n:="range_iterator") st' rfl rfl (by decide) ⟨.int (lo+i),H,I1,⟨t,?_⟩,⟨rfl,rfl⟩,st',λb hb=>(hf b hb).1⟩⟩;rw[Int.mul_one]
 done:=by
  intro X hP hw hK hc i pins s σ H E I hf st hg;subst hP hw hK;obtain⟨f0,f1,f2,f3,f4,f5⟩:=hf it (by simp);exact wpAny_pyNext_range_end (I.ok.hd hc) st (by have:n<=i:=hg;omega) λh' eb=>⟨rfl,I.turned (t':=s.toks) (λb o hb e=>eb b o hb e) f0 f1 f3 f4 f5⟩
 self:=λ_ _ _ _ _ st h=>wpAny_pyIter_rangeiter st h
end L2
namespace L2
open PySem PySem.Spec PyProof.Rows
section
variable {X:Cx}{tg:Expr}
def a7U (K:ae)(tl:TE):TI:=fun σ H R=>tl σ H λx H1=>∃ a,x=.ref a/\(∃ xs,SqL K H1 a xs)/\R (Itl K a) H1
def b1s (K:ae)(tl:TE):TI:=fun σ H R=>tl σ H λx H1=>∃ a,x=.ref a/\(∃ xs,SqT K H1 a xs)/\R (Itt K a) H1
theorem a8M {l:Expr}{tl:TE}(hl:PE X l tl):PI X tg l (a7U X.K tl):=by
 intro pins s σ H R I h;refine thn (hl pins s σ H _ I h) λv s1 ⟨x,H1,I1,r1,q1⟩=>?_
 obtain⟨a,e,⟨xs,hq⟩,q⟩:=q1;subst e;cases r1;obtain⟨its,rv,p,hz⟩:=I1.list hq;refine i9 p.isList ?_;refine⟨s1.heap.objs.size,[s1.heap.objs.size],_,_,H1,rfl,I1.kept (t':=s1.toks) λb o e=>ak _ e,a5N a _,⟨_,aK _ rfl,rfl,rfl⟩,λb hb=>?_,q⟩;have e:b=s1.heap.objs.size:= ~~~hb
 subst e;exact I1.fpOk (aj _) (I1.hok.fresh (aj _))
theorem b0J {l:Expr}{tl:TE}(hl:PE X l tl):PI X tg l (b1s X.K tl):=by
 intro pins s σ H R I h;refine thn (hl pins s σ H _ I h) λv s1 ⟨x,H1,I1,r1,q1⟩=>?_
 obtain⟨a,e,⟨xs,hq⟩,q⟩:=q1;subst e;cases r1;obtain⟨its,rv,p,hz⟩:=I1.tuple hq;refine wpAny_pyIter_tuple (show s1.heap.IsTuple a its.toArray from p) ?_;refine⟨s1.heap.objs.size,[s1.heap.objs.size],_,_,H1,rfl,I1.kept (t':=s1.toks) λb o e=>ak _ e,a4k a _,⟨_,aK _ rfl,rfl,rfl⟩,λb hb=>?_,q⟩;have e:b=s1.heap.objs.size:= ~~~hb
 subst e;exact I1.fpOk (aj _) (I1.hok.fresh (aj _))
theorem a3B {pins:List (Addr×Obj)}{σ:St}{H:Hp}{s:Shared}{R:It->Hp->Prop}{E:Value->Shared->Prop}{lo hi:Int}{t u v:Tok}{tk:Nat}(I:Inv X pins σ H s)(h1:-(2 ^ 62)<=lo)(h2:lo<2 ^ 62)(h3:-(2 ^ 62)<=hi)(h4:hi<2 ^ 62)
  (q:R (Itr lo (hi-lo).toNat) H):wpAny (model X.prog X.w) X.A (pyIter (.ref s.heap.objs.size)) (PIE X pins σ tg R) E {s with heap:=s.heap.push {cls:=.type "range",data:=.fields #[.int lo t,.int hi u,.int 1 v]},toks:=tk}:=by
 refine wpAny_pyIter_range (IsRange.new ..) (small_one h1 h2 h3 h4) ?_;have I1:Inv X pins σ H {s with heap:=s.heap.push {cls:=.type "range",data:=.fields #[.int lo t,.int hi u,.int 1 v]},toks:=tk}:=I.kept λb o e=>ak _ e
 refine⟨(s.heap.push {cls:=.type "range",data:=.fields #[.int lo t,.int hi u,.int 1 v]}).objs.size,[(s.heap.push {cls:=.type "range",data:=.fields #[.int lo t,.int hi u,.int 1 v]}).objs.size],_,_,H,rfl,
  I1.kept (t':=tk) λb o e=>ak _ e,a4l _ lo (hi-lo).toNat,?_,λb hb=>?_,q⟩
 ·have e1:lo+((0:Nat):Int)*1=lo:=by simp
  have e2:(((hi-lo).toNat:Nat):Int)-((0:Nat):Int)=fI lo hi 1:=by rw[rangeSize_one];split<;>omega
  show IsRangeIter _ _ (lo+((0:Nat):Int)*1) ((((hi-lo).toNat:Nat):Int)-((0:Nat):Int)) 1;rw[e1,e2];exact aK _ rfl
 ·have e:b=(s.heap.push {cls:=.type "range",data:=.fields #[.int lo t,.int hi u,.int 1 v]}).objs.size:= ~~~hb
  subst e;exact I1.fpOk (aj _) (I1.hok.fresh (aj _))
def b0a (ta:TA):TI:=fun σ H R=>ta σ H λvs H1=>∃ j:Int,vs=[.int j]/\-(2 ^ 62)<=j/\j<2 ^ 62/\R (Itr 0 j.toNat) H1
def a9Z (ta:TA):TI:=fun σ H R=>ta σ H λvs H1=>∃ i j:Int,vs=[.int i,.int j]/\(-(2 ^ 62)<=i/\i<2 ^ 62/\-(2 ^ 62)<=j/\j<2 ^ 62)/\R (Itr i (j-i).toNat) H1
theorem P6 {a:Expr}{ta:TA}{p pos:Pos}(hg:Gl X "range")(hm:X.mg "range"=none)(ha:PA X [a] ta)(hs:starEach [a] X.env=[(false,eval a X.env)]:=by rfl):PI X tg (.Call (.Name "range" p) [a] [] pos) (b0a ta):=by
 intro pins s σ H R I h;refine Call_ (X4 I hg hm iw (ci (thn (ha pos pins s σ H _ I h) λus s1 ⟨vs,H1,I1,r1,q1⟩=>?_) hs rfl));obtain⟨j,e,q1,q2,q⟩:=q1;subst e;cases r1 with
 | cons r rr =>
  cases rr;obtain⟨t,rfl⟩:=r;exact call_range_1 (a3B I1 ∅ ∅ q1 q2 (~~~q))
theorem Z6 {a b:Expr}{ta:TA}{p pos:Pos}(hg:Gl X "range")(hm:X.mg "range"=none)(ha:PA X [a,b] ta)(hs:starEach [a,b] X.env=[(false,eval a X.env),(false,eval b X.env)]:=by rfl)(hs2:starEach [b] X.env=[(false,eval b X.env)]:=by rfl) :
  PI X tg (.Call (.Name "range" p) [a,b] [] pos) (a9Z ta):=by
 intro pins s σ H R I h;refine Call_ (X4 I hg hm iw (ci (thn (ha pos pins s σ H _ I h) λus s1 ⟨vs,H1,I1,r1,q1⟩=>?_) (by rw[hs,hs2]) (by rw[hs2];rfl)));obtain⟨i,j,e,⟨q1,q2,q3,q4⟩,q⟩:=q1;subst e;cases r1 with
 | cons r rr =>
  cases rr with
  | cons r' rr =>
   cases rr;obtain⟨t,rfl⟩:=r;obtain⟨t',rfl⟩:=r';exact call_range_2 (a3B I1 q1 q2 q3 q4 q)
def b0u (wi:TI)(g:TG)(tb:TS):TS:=λD σ H=>wi σ H λJ H1=>∃ W:Nat->Nat->St->Hp->Prop,(∃ m,W 0 m σ H1)/\∀ i m σ H,W i m σ H ->
 (J.stop i H/\D.nx σ H)\/(J.go i H/\∃ N:St->Hp->Prop,(∀ σ' H',N σ' H'->∃ m',m'<m/\W (i+1) m' σ' H')/\∀ x H',J.yld i H x H'->g x σ H' fun σ2 H2=>tb {D with nx:=N,ct:=N,bk:=D.nx} σ2 H2)
def X1 (fp:List Addr)(h:Heap):List (Addr×Obj):=fp.filterMap λb=>(h.get? b).map λo=>(b,o)
theorem P8 {fp:List Addr}{h:Heap}{b:Addr}{o:Obj}(hb:b∈fp)(e:h.get? b=some o):(b,o)∈X1 fp h:=iJ.mpr ⟨b,hb,by rw[e];rfl⟩
theorem a5Y {fp:List Addr}{h:Heap}{p:Addr×Obj}(hp:p∈X1 fp h):p.1∈fp/\h.get? p.1=some p.2:=by
 obtain⟨b,hb,e⟩:=List.mem_filterMap.mp hp;cases q:h.get? b with
 | none=>rw[q] at e;cases e
 | some o =>
  rw[q] at e;have e':(b,o)=p:=aG e;subst e';exact⟨hb,q⟩
theorem Inv.pinned {pins:List (Addr×Obj)}{σ:St}{H:Hp}{s:Shared}{fp:List Addr}(I:Inv X pins σ H s)(hf:∀ b∈fp,a0f X pins H b)(ho:∀ b∈fp,∃ o,s.heap.get? b=some o/\∀ v,o.data≠.cell v):Inv X (pins++X1 fp s.heap) σ H s :=
 I.pins_of λp hp=>(al.mp hp).elim (λz=>I.pin p (aR _ z)) λz=>by
  obtain⟨hb,e⟩:=a5Y z;obtain⟨f0,f1,f2,_⟩:=hf p.1 hb;obtain⟨o,e',d⟩:=ho p.1 hb;rw[e] at e';cases e';exact⟨e,f0,f1,f2,d⟩
theorem Inv.unpinned {pins pl:List (Addr×Obj)}{σ:St}{H:Hp}{s:Shared}(I:Inv X (pins++pl) σ H s):Inv X pins σ H s:=I.pins_of λp hp=>I.pin p (aR _ (bM _ hp))
theorem M4 {iter:Expr}{body:List Stmt}{wi:TI}{g:TG}{tb:TS}{pos:Pos}(hp:PassesOwn (model X.prog X.w) X.A X.env X.xe)(hc:X.calm=true)(hi:PI X tg iter wi)(hg:PG X tg g)(hb:PSs X body tb)
  (hs:∀ x,foldedSetIterable iter X.env x=pure x:=by intro _;rfl):PS X (.For tg iter body [] pos) (b0u wi g tb):=by
 intro pins s σ H D I h;refine wpAny_For (thn (hi pins s σ H _ I h) λv s1 h1=>thn h1 λitv s2 h2=>?_) hs;obtain⟨it,fp,tn,J,H2,e,I2,T,st2,f2,W,⟨m0,w0⟩,turn⟩:=h2;subst e;have stat:∀ {H':Hp},(∀ b∈fp,H' b=none)->∀ b∈fp,a0f X pins H' b:=λhn b hb=>⟨hn b hb,(f2 b hb).2⟩
 refine codeAny_forLoop_any (λn s'=>∃ i σ' H',Inv X pins σ' H' s'/\tn i s'.heap/\(∀ b∈fp,H' b=none)/\W i n σ' H') ?_ m0 ⟨0,σ,H2,I2,st2,λb hb=>(f2 b hb).1,w0⟩;rintro n s3 ⟨i,σ3,H3,I3,st3,fr3,w3⟩;rcases turn i n σ3 H3 w3 with ⟨stop,qn⟩ | ⟨go,N,hN,step⟩
 ·refine c0 hp (thn (T.done X rfl rfl rfl hc i pins s3 σ3 H3 X.xe I3 (stat fr3) st3 stop) λr s4 ⟨hr,I4⟩=>?_);subst hr;exact fD ⟨σ3,H3,I4,qn⟩
 ·refine c0 hp (thn (T.item X rfl rfl rfl hc i pins s3 σ3 H3 X.xe I3 (stat fr3) st3 go) λr s4 ⟨u,hr,h4⟩=>?_);subst hr;refine c0 hp (thn h4 λ_ s5 ⟨x,H5,I5,r5,y5,st5,fr5⟩=>?_);have I5':=I5.pinned (stat fr5) (T.obj _ _ st5);refine c0 hp (thn (hg _ s5 σ3 H5 x u _ I5' r5 (step x H5 y5)) λ_ s6 ⟨σ6,H6,I6,q6⟩=>?_);refine c0 hp (thn (hb _ s6 σ6 H6 _ I6 q6) λf s7 q7=>?_);have again:∀ {σ7:St} {H7:Hp},Inv X (pins++X1 fp s5.heap) σ7 H7 s7->N σ7 H7->∃ m,m<n/\∃ i σ' H',Inv X pins σ' H' s7/\tn i s7.heap/\(∀ b∈fp,H' b=none)/\W i m σ' H':=λ{σ7 H7} I7 n7=>by
   obtain⟨m',hm,w7⟩:=hN σ7 H7 n7;refine⟨m',hm,i+1,σ7,H7,I7.unpinned,T.keep _ _ _ st5 λb hb o e=>(I7.pin (b,o) (aR _ (aR _ (P8 hb e)))).1,λb hb=>?_,w7⟩;obtain⟨o,e,d⟩:=T.obj _ _ st5 b hb;exact (I7.pin (b,o) (aR _ (aR _ (P8 hb e)))).2.1
  cases f with
  | next=>obtain⟨σ7,H7,I7,n7⟩:=q7;exact again I7 n7
  | cont=>obtain⟨σ7,H7,I7,n7⟩:=q7;exact again I7 n7
  | brk=>obtain⟨σ7,H7,I7,q7⟩:=q7;exact⟨σ7,H7,I7.unpinned,q7⟩
  | ret v=>obtain⟨x7,σ7,H7,I7,r7,q7⟩:=q7;exact⟨x7,σ7,H7,I7.unpinned,r7,q7⟩
end
theorem Y8 {K:ae}{a:Addr}{xs:List V}{g:TG}{tb:TS}{D:T5}{σ:St}{H:Hp}(Pv:Nat->St->Hp->Prop)(h0:Pv 0 σ H)(hl:∀ i σ H,i<=xs.length->Pv i σ H->SqL K H a xs)
  (hs:∀ i x σ H,xs[i]?=some x->Pv i σ H->g x σ H fun σ2 H2=>tb {D with nx:=Pv (i+1),ct:=Pv (i+1),bk:=D.nx} σ2 H2) (hd:∀ σ H,Pv xs.length σ H->D.nx σ H) :
  ∃ W:Nat->Nat->St->Hp->Prop,(∃ m,W 0 m σ H)/\∀ i m σ H,W i m σ H ->
   ((Itl K a).stop i H/\D.nx σ H)\/((Itl K a).go i H/\∃ N:St->Hp->Prop,(∀ σ' H',N σ' H'->∃ m',m'<m/\W (i+1) m' σ' H')/\∀ x H',(Itl K a).yld i H x H'->g x σ H' fun σ2 H2=>tb {D with nx:=N,ct:=N,bk:=D.nx} σ2 H2):=by
 refine⟨λi m σ H=>m=xs.length-i/\i<=xs.length/\Pv i σ H,⟨xs.length,by simp,bI _,h0⟩,?_⟩;rintro i m σ H ⟨rfl,hi,p⟩;have q:=hl i σ H hi p;by_cases hlt:i<xs.length
 ·refine .inr ⟨⟨xs,xs[i],q,by simp[hlt]⟩,Pv (i+1),fun σ' H' p'=>⟨xs.length-(i+1),∅,rfl,hlt,p'⟩,λx H' y=>?_⟩;obtain⟨e,y⟩:=y;subst e;exact hs i x σ _ (y xs q) p
 ·have e:i=xs.length:=∅
  subst e;exact .inl ⟨⟨xs,q,aj _⟩,hd σ H p⟩
theorem U4 {K:ae}{a:Addr}{xs:List V}{g:TG}{tb:TS}{D:T5}{σ:St}{H:Hp}(Pv:Nat->St->Hp->Prop)(h0:Pv 0 σ H)(hl:∀ i σ H,i<=xs.length->Pv i σ H->SqT K H a xs)
  (hs:∀ i x σ H,xs[i]?=some x->Pv i σ H->g x σ H fun σ2 H2=>tb {D with nx:=Pv (i+1),ct:=Pv (i+1),bk:=D.nx} σ2 H2) (hd:∀ σ H,Pv xs.length σ H->D.nx σ H) :
  ∃ W:Nat->Nat->St->Hp->Prop,(∃ m,W 0 m σ H)/\∀ i m σ H,W i m σ H ->
   ((Itt K a).stop i H/\D.nx σ H)\/((Itt K a).go i H/\∃ N:St->Hp->Prop,(∀ σ' H',N σ' H'->∃ m',m'<m/\W (i+1) m' σ' H')/\∀ x H',(Itt K a).yld i H x H'->g x σ H' fun σ2 H2=>tb {D with nx:=N,ct:=N,bk:=D.nx} σ2 H2):=by
 refine⟨λi m σ H=>m=xs.length-i/\i<=xs.length/\Pv i σ H,⟨xs.length,by simp,bI _,h0⟩,?_⟩;rintro i m σ H ⟨rfl,hi,p⟩;have q:=hl i σ H hi p;by_cases hlt:i<xs.length
 ·refine .inr ⟨⟨xs,xs[i],q,by simp[hlt]⟩,Pv (i+1),fun σ' H' p'=>⟨xs.length-(i+1),∅,rfl,hlt,p'⟩,λx H' y=>?_⟩;obtain⟨e,y⟩:=y;subst e;exact hs i x σ _ (y xs q) p
 ·have e:i=xs.length:=∅
  subst e;exact .inl ⟨⟨xs,q,aj _⟩,hd σ H p⟩
theorem T3 {lo:Int}{n:Nat}{g:TG}{tb:TS}{D:T5}{σ:St}{H:Hp}(Pv:Nat->St->Hp->Prop)(h0:Pv 0 σ H)
  (hs:∀ i σ H,i<n->Pv i σ H->g (.int (lo+i)) σ H fun σ2 H2=>tb {D with nx:=Pv (i+1),ct:=Pv (i+1),bk:=D.nx} σ2 H2) (hd:∀ σ H,Pv n σ H->D.nx σ H) :
  ∃ W:Nat->Nat->St->Hp->Prop,(∃ m,W 0 m σ H)/\∀ i m σ H,W i m σ H ->
   ((Itr lo n).stop i H/\D.nx σ H)\/((Itr lo n).go i H/\∃ N:St->Hp->Prop,(∀ σ' H',N σ' H'->∃ m',m'<m/\W (i+1) m' σ' H')/\∀ x H',(Itr lo n).yld i H x H'->g x σ H' fun σ2 H2=>tb {D with nx:=N,ct:=N,bk:=D.nx} σ2 H2):=by
 refine⟨λi m σ H=>m=n-i/\i<=n/\Pv i σ H,⟨n,by simp,bI _,h0⟩,?_⟩;rintro i m σ H ⟨rfl,hi,p⟩;by_cases hlt:i<n
 ·refine .inr ⟨hlt,Pv (i+1),fun σ' H' p'=>⟨n-(i+1),∅,rfl,hlt,p'⟩,λx H' y=>?_⟩;obtain⟨e,y⟩:=y;subst e y;exact hs i σ _ hlt p
 ·have e:i=n:=∅
  subst e;exact .inl ⟨aj _,hd σ H p⟩
theorem a6v {c:TT}{tb:TS}{D:T5}{σ:St}{H:Hp}(Pv:St->Hp->Prop)(μ:St->Hp->Nat)(h0:Pv σ H)
  (hs:∀ σ H,Pv σ H->c σ H λb H1=>if b=true then tb {D with nx:=fun σ' H'=>Pv σ' H'/\μ σ' H'<μ σ H,ct:=fun σ' H'=>Pv σ' H'/\μ σ' H'<μ σ H,bk:=D.nx} σ H1 else D.nx σ H1)
  (mono:∀ σ H Q Q',(∀ b H1,Q b H1->Q' b H1)->c σ H Q->c σ H Q'):a6E c tb D σ H:=by
 refine⟨λm σ H=>m=μ σ H/\Pv σ H,⟨_,rfl,h0⟩,?_⟩;rintro m σ H ⟨rfl,p⟩;refine mono σ H _ _ (λb H1 q=>?_) (hs σ H p);cases b with
 | true=>exact⟨_,fun σ' H' ⟨p',l⟩=>⟨_,l,rfl,p'⟩,q⟩
 | false=>exact q
end L2
namespace L2
open PySem PySem.Spec PyProof.Rows
abbrev R2:=V->V->Hp->VK->Prop
def OpR (X:Cx)(f:Value->Value->Sem Value)(r:R2):Prop :=
 ∀(pins:List (Addr×Obj)) (s:Shared) (σ:St) (H:Hp) (x y:V) (v u:Value) (Q:VK),Inv X pins σ H s->C6 x v->C6 y u->r x y H Q ->
  wpAny (model X.prog X.w) X.A (f v u) (EP X pins σ Q) X.xe s
def UnR (X:Cx)(f:Value->Sem Value)(r:V->Hp->VK->Prop):Prop :=
 ∀(pins:List (Addr×Obj)) (s:Shared) (σ:St) (H:Hp) (x:V) (v:Value) (Q:VK),Inv X pins σ H s->C6 x v->r x H Q ->
  wpAny (model X.prog X.w) X.A (f v) (EP X pins σ Q) X.xe s
def L0 (X:Cx)(f:Value)(r:List V->Hp->VK->Prop):Prop :=
 ∀(pins:List (Addr×Obj)) (s:Shared) (σ:St) (H:Hp) (xs:List V) (us:List Value) (Q:VK),Inv X pins σ H s->C0 xs us->r xs H Q ->
  wpAny (model X.prog X.w) X.A (call f us) (EP X pins σ Q) X.xe s
def b3C (X:Cx)(r:V->Hp->(Bool->Hp->Prop)->Prop):Prop :=
 ∀(pins:List (Addr×Obj)) (s:Shared) (σ:St) (H:Hp) (x:V) (v:Value) (Q:Bool->Hp->Prop),Inv X pins σ H s->C6 x v->r x H Q ->
  wpAny (model X.prog X.w) X.A (truthy v) (TP X pins σ Q) X.xe s
def tOp (r:R2)(ta tb:TE):TE:=fun σ H Q=>ta σ H λx H1=>tb σ H1 λy H2=>r x y H2 Q
def tUn (r:V->Hp->VK->Prop)(ta:TE):TE:=fun σ H Q=>ta σ H λx H1=>r x H1 Q
def rI (C:Int->Int->Prop)(g:Int->Int->V):R2:=λx y H Q=>∃ i j,x=.int i/\y=.int j/\C i j/\Q (g i j) H
def rI0 (g:Int->Int->V):R2:=λx y H Q=>∃ i j,x=.int i/\y=.int j/\Q (g i j) H
def rU (g:Int->V):V->Hp->VK->Prop:=λx H Q=>∃ i,x=.int i/\Q (g i) H
section
variable {X:Cx}{a b c:Expr}{ta tb tc:TE}{pos:Pos}
theorem b1G (ha:PE X a ta)(hb:PE X b tb){pins:List (Addr×Obj)}{s:Shared}{σ:St}{H:Hp}{R:V->V->Hp->Prop}(I:Inv X pins σ H s)
  (h:ta σ H λx H1=>tb σ H1 λy H2=>R x y H2) {Q:Value->Shared->Prop} {f:Value->Value->Sem Value}
  (hf:∀ v u s2 x y H2,Inv X pins σ H2 s2->C6 x v->C6 y u->R x y H2->wpAny (model X.prog X.w) X.A (f v u) Q X.xe s2) :
  wpAny (model X.prog X.w) X.A (eval a X.env) (λv sv=>wpAny (model X.prog X.w) X.A (eval b X.env) (λu sw=>wpAny (model X.prog X.w) X.A (f v u) Q X.xe sw) X.xe sv) X.xe s:=by
 refine thn (ha pins s σ H _ I h) λv s1 ⟨x,H1,I1,r1,q1⟩=>?_
 refine thn (hb pins s1 σ H1 _ I1 q1) λu s2 ⟨y,H2,I2,r2,q2⟩=>?_
 exact hf v u s2 x y H2 I2 r1 r2 q2
theorem B3 {op:Operator}{r:R2}(ho:OpR X (binaryOp op) r)(ha:PE X a ta)(hb:PE X b tb):PE X (.BinOp a op b pos) (tOp r ta tb):=by
 intro pins s σ H Q I h;exact wpAny_BinOp (b1G ha hb I h λv u s2 x y H2 I2 rx ry q=>ho pins s2 σ H2 x y v u Q I2 rx ry q)
theorem b2x {op:UnaryOp}{r:V->Hp->VK->Prop}(ho:UnR X (unaryOp op) r)(ha:PE X a ta):PE X (.UnaryOp op a pos) (tUn r ta):=by
 intro pins s σ H Q I h;exact UnaryOp_ (thn (ha pins s σ H _ I h) λv s1 ⟨x,H1,I1,r1,q1⟩=>ho pins s1 σ H1 x v Q I1 r1 q1)
theorem opI {f:Value->Value->Sem Value}{C:Int->Int->Prop}{g:Int->Int->Int}
  (rule:∀(i j:Int) (t u:Tok) (s:Shared) (Q:Value->Shared->Prop) (E:Value->Shared->Prop),C i j->Q (.int (g i j) s.toks) {s with toks:=s.toks+1}->wpAny (model X.prog X.w) X.A (f (.int i t) (.int j u)) Q E s) :
  OpR X f (rI C λi j=>.int (g i j)):=by
 intro pins s σ H x y v u Q I rx ry h;obtain⟨i,j,rfl,rfl,hc,q⟩:=h;obtain⟨t,rfl⟩:=rx;obtain⟨t',rfl⟩:=ry;exact rule i j t t' s _ _ hc ⟨.int (g i j),H,I.tok _,⟨_,rfl⟩,q⟩
theorem b2B {f:Value->Value->Sem Value}{g:Int->Int->Int}
  (rule:∀(i j:Int) (t u:Tok) (s:Shared) (Q:Value->Shared->Prop) (E:Value->Shared->Prop),Q (.int (g i j) s.toks) {s with toks:=s.toks+1}->wpAny (model X.prog X.w) X.A (f (.int i t) (.int j u)) Q E s) :
  OpR X f (rI0 λi j=>.int (g i j)):=by
 intro pins s σ H x y v u Q I rx ry h;obtain⟨i,j,rfl,rfl,q⟩:=h;obtain⟨t,rfl⟩:=rx;obtain⟨t',rfl⟩:=ry;exact rule i j t t' s _ _ ⟨.int (g i j),H,I.tok _,⟨_,rfl⟩,q⟩
theorem a8P {f:Value->Value->Sem Value}{g:Int->Int->Bool}
  (rule:∀(i j:Int) (t u:Tok) (s:Shared) (Q:Value->Shared->Prop) (E:Value->Shared->Prop),Q (.bool (g i j)) s->wpAny (model X.prog X.w) X.A (f (.int i t) (.int j u)) Q E s) :
  OpR X f (rI0 λi j=>.bl (g i j)):=by
 intro pins s σ H x y v u Q I rx ry h;obtain⟨i,j,rfl,rfl,q⟩:=h;obtain⟨t,rfl⟩:=rx;obtain⟨t',rfl⟩:=ry;exact rule i j t t' s _ _ ⟨.bl (g i j),H,I,rfl,q⟩
def b3H (i j:Int):Prop:=0<j/\j<1073741824
def b3G (i j:Int):Prop:=0<=j/\j<=1000000/\i.natAbs<2 ^ 64
def a9F (i j:Int):Prop:=(-(2 ^ 64)<i/\i<2 ^ 64)\/(-(2 ^ 64)<j/\j<2 ^ 64)
theorem a9F.ok {i j:Int}(h:a9F i j):IntMulOk i j:=by
 rcases h with ⟨h1,h2⟩ | ⟨h1,h2⟩
 ·exact .of_left (intBits_le_64 h1 h2)
 ·exact .of_right (intBits_le_64 h1 h2)
theorem R8:OpR X (binaryOp .Add) (rI0 λi j=>.int (i+j)):=b2B λ_ _ _ _ _ _ _ q=>add_int q
theorem P7:OpR X (binaryOp .Sub) (rI0 λi j=>.int (i-j)):=b2B λ_ _ _ _ _ _ _ q=>sub_int q
theorem X2:OpR X (binaryOp .Mult) (rI a9F λi j=>.int (i*j)):=opI λ_ _ _ _ _ _ _ hc q=>mul_int q hc.ok
theorem a2C:OpR X (binaryOp .FloorDiv) (rI b3H λi j=>.int (i / j)):=opI λi j _ _ _ _ _ hc q=>by
 have h1:(0:Int)<j:=hc.1;have h2:j<1073741824:=hc.2;exact floordiv_int ∅ (by rw[Int.fdiv_eq_ediv_of_nonneg i ∅];exact q) (.inl (PyProof.noPylong_small ∅))
theorem J2:OpR X (binaryOp .Mod) (rI (λ_ j=>0<j) λi j=>.int (i % j)):=opI λi j _ _ _ _ _ hc q=>by
 have h1:(0:Int)<j:=hc;exact mod_int' ∅ (by rw[Int.fmod_eq_emod_of_nonneg i ∅];exact q)
theorem b0R:OpR X (binaryOp .Pow) (rI b3G λi j=>.int (i ^ j.toNat)):=opI λ_ _ _ _ _ _ _ hc q=>pow_int_small hc.1 hc.2.1 hc.2.2 q
theorem unI {f:Value->Sem Value}{g:Int->Int}
  (rule:∀(i:Int) (t:Tok) (s:Shared) (Q:Value->Shared->Prop) (E:Value->Shared->Prop),Q (.int (g i) s.toks) {s with toks:=s.toks+1}->wpAny (model X.prog X.w) X.A (f (.int i t)) Q E s) :
  UnR X f (rU λi=>.int (g i)):=by
 intro pins s σ H x v Q I rx h;obtain⟨i,rfl,q⟩:=h;obtain⟨t,rfl⟩:=rx;exact rule i t s _ _ ⟨.int (g i),H,I.tok _,⟨_,rfl⟩,q⟩
theorem b0j:UnR X (unaryOp .USub) (rU λi=>.int (-i)):=unI λ_ _ _ _ _ q=>neg_int q
end
def a6S:V->V->Bool
 | .non,.non=>true | .non,.int _=>true | .int _,.non=>true | .non,.bl _=>true | .bl _,.non=>true | .non,.str _=>true | .str _,.non=>true
 | .int _,.int _=>true | .bl _,.bl _=>true | .str _,.str _=>true | .byt _,.byt _=>true
 | .int _,.str _=>true | .str _,.int _=>true | .bl _,.str _=>true | .str _,.bl _=>true
 | _,_=>false
def rEq:R2:=λx y H Q=>a6S x y=true/\Q (.bl (decide (x=y))) H
def rNe:R2:=λx y H Q=>a6S x y=true/\Q (.bl (!decide (x=y))) H
theorem a5I {i j:Int}:decide (V.int i=V.int j)=(i == j):=by
 rw[ei];simp
theorem a8g {i j:Bool}:decide (V.bl i=V.bl j)=(i == j):=by
 rw[ei];simp
theorem a5H {i j:Str}:decide (V.str i=V.str j)=(i == j):=by
 rw[ei];simp
theorem a5J {i j:Array UInt8}:decide (V.byt i=V.byt j)=(i.toList == j.toList):=by
 rw[ei];cases i;cases j;simp
section
variable {X:Cx}{a b c:Expr}{ta tb tc:TE}{pos:Pos}
theorem E3 {pins:List (Addr×Obj)}{σ:St}{H:Hp}{s:Shared}{Q:VK}{k k':Bool}(I:Inv X pins σ H s)(q:Q (.bl k) H)(e:k=k'):EP X pins σ Q (.bool k') s:=by
 subst e;exact⟨.bl k,H,I,rfl,q⟩
theorem a1U:OpR X (compareOp .Eq) rEq:=by
 intro pins s σ H x y v u Q I rx ry h;obtain⟨hs,q⟩:=h;cases x with
 | non =>
  cases rx;cases y with
  | non=>cases ry;exact PySem.EqNone.eq_none_none (E3 I q (by simp))
  | bl j=>cases ry;exact PySem.EqNone.eq_none_bool (E3 I q (by simp))
  | int j=>obtain⟨t',rfl⟩:=ry;exact PySem.EqNone.eq_none_int (E3 I q (by simp))
  | str j=>obtain⟨t',rfl⟩:=ry;exact PySem.EqNone.eq_none_str (E3 I q (by simp))
  | _=>exact absurd (show false=true from hs) aJ
 | bl i =>
  cases rx;cases y with
  | non=>cases ry;exact PySem.EqNone.eq_bool_none (E3 I q (by simp))
  | bl j=>cases ry;exact eq_bool (E3 I q a8g)
  | str j=>obtain⟨t',rfl⟩:=ry;exact PySem.EqMixed.eq_bool_str (E3 I q (by simp))
  | _=>exact absurd (show false=true from hs) aJ
 | int i =>
  obtain⟨t,rfl⟩:=rx;cases y with
  | non=>cases ry;exact PySem.EqNone.eq_int_none (E3 I q (by simp))
  | int j=>obtain⟨t',rfl⟩:=ry;exact eq_int (E3 I q a5I)
  | str j=>obtain⟨t',rfl⟩:=ry;exact PySem.EqMixed.eq_int_str (E3 I q (by simp))
  | _=>exact absurd (show false=true from hs) aJ
 | str i =>
  obtain⟨t,rfl⟩:=rx;cases y with
  | non=>cases ry;exact PySem.EqNone.eq_str_none (E3 I q (by simp))
  | bl j=>cases ry;exact PySem.EqMixed.eq_str_bool (E3 I q (by simp))
  | int j=>obtain⟨t',rfl⟩:=ry;exact PySem.EqMixed.eq_str_int (E3 I q (by simp))
  | str j=>obtain⟨t',rfl⟩:=ry;exact eq_str (E3 I q a5H)
  | _=>exact absurd (show false=true from hs) aJ
 | byt i =>
  obtain⟨t,rfl⟩:=rx;cases y with
  | byt j=>obtain⟨t',rfl⟩:=ry;exact PySem.W.eq_bytes (E3 I q a5J)
  | _=>exact absurd (show false=true from hs) aJ
 | _=>cases y<;>exact absurd (show false=true from hs) aJ
theorem a0q:OpR X (compareOp .NotEq) rNe:=by
 intro pins s σ H x y v u Q I rx ry h;obtain⟨hs,q⟩:=h;cases x with
 | non =>
  cases rx;cases y with
  | non=>cases ry;exact PySem.EqNone.ne_none_none (E3 I q (by simp))
  | bl j=>cases ry;exact PySem.EqNone.ne_none_bool (E3 I q (by simp))
  | int j=>obtain⟨t',rfl⟩:=ry;exact PySem.EqNone.ne_none_int (E3 I q (by simp))
  | str j=>obtain⟨t',rfl⟩:=ry;exact PySem.EqNone.ne_none_str (E3 I q (by simp))
  | _=>exact absurd (show false=true from hs) aJ
 | bl i =>
  cases rx;cases y with
  | non=>cases ry;exact PySem.EqNone.ne_bool_none (E3 I q (by simp))
  | bl j=>cases ry;exact ne_bool (E3 I q (congrArg not a8g))
  | str j=>obtain⟨t',rfl⟩:=ry;exact PySem.EqMixed.ne_bool_str (E3 I q (by simp))
  | _=>exact absurd (show false=true from hs) aJ
 | int i =>
  obtain⟨t,rfl⟩:=rx;cases y with
  | non=>cases ry;exact PySem.EqNone.ne_int_none (E3 I q (by simp))
  | int j=>obtain⟨t',rfl⟩:=ry;exact ne_int (E3 I q (congrArg not a5I))
  | str j=>obtain⟨t',rfl⟩:=ry;exact PySem.EqMixed.ne_int_str (E3 I q (by simp))
  | _=>exact absurd (show false=true from hs) aJ
 | str i =>
  obtain⟨t,rfl⟩:=rx;cases y with
  | non=>cases ry;exact PySem.EqNone.ne_str_none (E3 I q (by simp))
  | bl j=>cases ry;exact PySem.EqMixed.ne_str_bool (E3 I q (by simp))
  | int j=>obtain⟨t',rfl⟩:=ry;exact PySem.EqMixed.ne_str_int (E3 I q (by simp))
  | str j=>obtain⟨t',rfl⟩:=ry;exact ne_str (E3 I q (congrArg not a5H))
  | _=>exact absurd (show false=true from hs) aJ
 | byt i =>
  obtain⟨t,rfl⟩:=rx;cases y with
  | byt j=>obtain⟨t',rfl⟩:=ry;exact PySem.W.ne_bytes (E3 I q (congrArg not a5J))
  | _=>exact absurd (show false=true from hs) aJ
 | _=>cases y<;>exact absurd (show false=true from hs) aJ
theorem a5u:OpR X (compareOp .Lt) (rI0 λi j=>.bl (decide (i<j))):=a8P λ_ _ _ _ _ _ _ q=>lt_int q
theorem a9W:OpR X (compareOp .LtE) (rI0 λi j=>.bl (decide (i<=j))):=a8P λ_ _ _ _ _ _ _ q=>le_int q
theorem a7l:OpR X (compareOp .Gt) (rI0 λi j=>.bl (decide (j<i))):=a8P λ_ _ _ _ _ _ _ q=>gt_int q
theorem b2A:OpR X (compareOp .GtE) (rI0 λi j=>.bl (decide (j<=i))):=a8P λ_ _ _ _ _ _ _ q=>ge_int q
theorem E7 (b:Expr){op:CmpOp}(h:op≠.In:=by decide)(h2:op≠.NotIn:=by decide):behindInMarks op b=false:=by
 have e1:(op == CmpOp.In)=false:=by cases op<;>first | rfl | exact absurd rfl h
 have e2:(op == CmpOp.NotIn)=false:=by cases op<;>first | rfl | exact absurd rfl h2
 cases b<;>simp[behindInMarks,e1,e2]
theorem U2 {op:CmpOp}{r:R2}(ho:OpR X (compareOp op) r)(ha:PE X a ta)(hb:PE X b tb)(hm:behindInMarks op b=false):PE X (.Compare a [op] [b] pos) (tOp r ta tb):=by
 intro pins s σ H Q I h;exact wpAny_Compare1 (b1G ha hb I h λv u s2 x y H2 I2 rx ry q=>ho pins s2 σ H2 x y v u Q I2 rx ry q) hm
def a9H (t:TE):TT:=fun σ H Q=>t σ H λx H'=>∃ k,x=.bl k/\Q k H'
theorem E5 {op:CmpOp}{r:R2}(ho:OpR X (compareOp op) r)(ha:PE X a ta)(hb:PE X b tb)(hm:behindInMarks op b=false):PT X (.Compare a [op] [b] pos) (a9H (tOp r ta tb)):=by
 intro pins s σ H Q I h
 refine iR (thn (ha pins s σ H _ I h) λv s1 ⟨x,H1,I1,r1,q1⟩=>thn (hb pins s1 σ H1 _ I1 q1) λu s2 ⟨y,H2,I2,r2,q2⟩ =>
  thn (ho pins s2 σ H2 x y v u _ I2 r1 r2 q2) λc s3 ⟨z,H3,I3,r3,k,e,q3⟩=>?_) hm
 subst e;cases r3;exact dm ⟨H3,I3,q3⟩
def b0y (r r':R2)(ta tb tc:TE):TE:=fun σ H Q=>ta σ H λx H1=>tb σ H1 λy H2=>r x y H2 λz H3=>∃ k,z=.bl k /\
 (if k=true then tc σ H3 λw' H4=>r' y w' H4 Q else Q (.bl false) H3)
def b1H (K:ae)(x:V)(H:Hp)(k:Bool):Prop :=
 match x with
 | .non=>k=false
 | .bl b=>k=b
 | .int i=>k=(i != 0)
 | .str y=>y.length<=sizeLine/\k=((y.length:Int) != 0)
 | .byt y=>y.size<=sizeLine/\k=((y.size:Int) != 0)
 | .ref p=>(∃ xs,SqL K H p xs/\k=!xs.isEmpty)\/(∃ xs,SqT K H p xs/\k=!xs.isEmpty)\/∃ kvs,H p=some (.dK kvs)/\k=!kvs.isEmpty
 | _=>False
theorem a4E {κ:Type}{kvs:List (κ×V)}{vs:List (κ×Value)}(r:KV kvs vs):(!vs.isEmpty)=!kvs.isEmpty:=by
 cases r<;>rfl
theorem a1k {xs:List V}{its:List Value}(r:C0 xs its):(!its.toArray.isEmpty)=!xs.isEmpty:=by
 cases r<;>simp
theorem a1e:(sizeLine:Nat)<2 ^ 63:=by rw[sizeLine_eq];decide
theorem b0k:b3C X (λx H Q=>∃ k,b1H X.K x H k/\Q k H):=by
 intro pins s σ H x v Q I rx h;obtain⟨k,e,q⟩:=h;have hl:=a1e;have hs:sizeLine=16777216:=sizeLine_eq;cases x with
 | non =>
  cases rx;have e':k=false:=e;subst e';exact truthy_none ⟨H,I,q⟩
 | bl b =>
  cases rx;have e':k=b:=e;subst e';exact dm ⟨H,I,q⟩
 | int i =>
  obtain⟨t,rfl⟩:=rx;have e':k=(i != 0):=e;subst e';exact PySem.P.truthy_int ⟨H,I,q⟩
 | str y =>
  obtain⟨t,rfl⟩:=rx;obtain⟨hy,e'⟩:y.length<=sizeLine/\k=((y.length:Int) != 0):=e;subst e';exact PySem.P.truthy_str ∅ ⟨H,I.tok _,q⟩
 | byt y =>
  obtain⟨t,rfl⟩:=rx;obtain⟨hy,e'⟩:y.size<=sizeLine/\k=((y.size:Int) != 0):=e;subst e';exact PySem.W.truthy_bytes ∅ ⟨H,I.tok _,q⟩
 | ref p =>
  cases rx;have e':(∃ xs,SqL X.K H p xs/\k=!xs.isEmpty)\/(∃ xs,SqT X.K H p xs/\k=!xs.isEmpty)\/∃ kvs,H p=some (.dK kvs)/\k=!kvs.isEmpty:=e;rcases e' with ⟨xs,hx,e'⟩ | ⟨xs,hx,e'⟩ | ⟨kvs,hx,e'⟩
  ·subst e';obtain⟨its,r,pl,hz⟩:=I.list hx;have hlen:=r.length;exact wpAny_truthy_list pl.isList (by simp only[aA];omega) ⟨H,I.tok _,by rw[a1k r];exact q⟩
  ·subst e';obtain⟨its,r,pl,hz⟩:=I.tuple hx;have hlen:=r.length;exact truthy_tuple pl (by simp only[aA];omega) ⟨H,I.tok _,by rw[a1k r];exact q⟩
  ·subst e';obtain⟨hz,hS,vs,r,m⟩:kvs.length<=sizeLine/\(p == sysModules)=false/\∃ vs,KV kvs vs/\s.heap.DictOf (E6 X.prog X.w) p vs:=I.hok p _ hx;have hlen:kvs.length=vs.length:=dA r;exact wpAny_truthy_dict hS m ∅ ⟨H,I.tok _,by rw[a4E r];exact q⟩
 | _=>exact (show False from e).elim
theorem a7c (ha:PE X a ta)(he:∀ whole,isTrue a X.env whole=(do let v <- whole;standAt a.pos;holding [v] (truthy v))) :
  PT X a (fun σ H Q=>ta σ H λx H'=>∃ k,b1H X.K x H' k/\Q k H'):=by
 intro pins s σ H Q I h;exact isTrue_plain (thn (ha pins s σ H _ I h) λv s1 ⟨x,H1,I1,r1,q1⟩=>b0k pins s1 σ H1 x v Q I1 r1 q1) (he _)
theorem S5 {x:V}{us:List Value}(r:C0 [x] us):∃ u,us=[u]/\C6 x u:=by
 cases r with
 | cons r1 r2=>cases r2;exact⟨_,rfl,r1⟩
theorem a6y {x y:V}{us:List Value}(r:C0 [x,y] us):∃ u w',us=[u,w']/\C6 x u/\C6 y w':=by
 cases r with
 | cons r1 r2 =>
  cases r2 with
  | cons r3 r4=>cases r4;exact⟨_,_,rfl,r1,r3⟩
theorem T4 (hc:X.calm=true):L0 X (.builtin "max") (λxs H Q=>∃ i j,xs=[.int i,.int j]/\Q (.int (if j>i then j else i)) H):=by
 intro pins s σ H xs us Q I r h;obtain⟨i,j,rfl,q⟩:=h;obtain⟨u,w',rfl,⟨t,rfl⟩,⟨t',rfl⟩⟩:=a6y r;refine max_two_ints (I.ok.hd hc) λh' tk k=>⟨_,H,I.kept k,?_,q⟩
 by_cases hj:j>i
 ·rw[if_pos hj,if_pos hj];exact⟨_,rfl⟩
 ·rw[if_neg hj,if_neg hj];exact⟨_,rfl⟩
theorem a0e (hc:X.calm=true):L0 X (.builtin "min") (λxs H Q=>∃ i j,xs=[.int i,.int j]/\Q (.int (if j<i then j else i)) H):=by
 intro pins s σ H xs us Q I r h;obtain⟨i,j,rfl,q⟩:=h;obtain⟨u,w',rfl,⟨t,rfl⟩,⟨t',rfl⟩⟩:=a6y r;refine min_two_ints (I.ok.hd hc) λh' tk k=>⟨_,H,I.kept k,?_,q⟩
 by_cases hj:j<i
 ·rw[if_pos hj,if_pos hj];exact⟨_,rfl⟩
 ·rw[if_neg hj,if_neg hj];exact⟨_,rfl⟩
theorem a6q:L0 X (.type "int") (λxs H Q=>(∃ i,xs=[.int i]/\Q (.int i) H)\/∃ k,xs=[.bl k]/\Q (.int (if k then 1 else 0)) H):=by
 intro pins s σ H xs us Q I r h;rcases h with ⟨i,rfl,q⟩ | ⟨k,rfl,q⟩
 ·obtain⟨u,rfl,t,rfl⟩:=S5 r;exact call_int_int ⟨.int i,H,I,⟨_,rfl⟩,q⟩
 ·obtain⟨u,rfl,r1⟩:=S5 r;cases r1;exact call_int_bool ⟨.int (if k then 1 else 0),H,I.tok _,⟨_,rfl⟩,q⟩
theorem J7:L0 X (.type "str") (λxs H Q=>∃ i,xs=[.int i]/\i.natAbs.log2<1920/\Q (.str (toString i)) H):=by
 intro pins s σ H xs us Q I r h;obtain⟨i,rfl,hz,q⟩:=h;obtain⟨u,rfl,t,rfl⟩:=S5 r;exact PySem.P.str_of_int hz ⟨.str _,H,I.tok _,⟨_,rfl⟩,q⟩
end
end L2
namespace L2
open PySem PySem.Spec PyProof.Rows
structure b1L (h:Heap)(x dx C:Addr)(mA:Str->Option Value):Prop where
 obj:h.get? x=some (fO C dx)
 ns:h.Ns1 dx mA
 ne:dx≠x
theorem a6a {h:Heap}{dx:Addr}{mA:Str->Option Value}(n:h.Ns1 dx mA):∃ od,h.get? dx=some od/\∀ name,PySem.W.lookIn name od=some (mA name):=by
 obtain⟨o,es,ep,ho,hd,hk,_,hm⟩:=n;refine⟨o,ho,λname=>?_⟩;have e:=hm name;unfold nsFind findBy at e;rw[<- Array.find?_toList] at e;unfold PySem.W.lookIn;rw[hd];dsimp only;split
 ·rename_i y q;rw[q] at e;exact congrArg some e
 ·rename_i q;rw[q] at e;have a:es.toList.any (·.refKey)=false:=by
   rw[List.any_eq_false];intro y hy;obtain⟨z,t,hkey⟩:=hk y (Array.mem_toList_iff.mp hy);simp[DictEntry.refKey,hkey]
  have a':¬ es.toList.any (·.refKey)=true:=by rw[a];exact aJ
  rw[if_neg a'];exact congrArg some e
theorem b1L.look {h:Heap}{x dx C:Addr}{mA:Str->Option Value}(I:b1L h x dx C mA):∃ od,PySem.W.InstAt h x (fO C dx) C (some od)/\∀ name,PySem.W.lookIn name od=some (mA name) :=
 let ⟨od,ho,hl⟩:=a6a I.ns
 ⟨od,⟨I.obj,rfl,rfl,ho⟩,hl⟩
section
variable {P:Program}{w:World}{H H':Hp}{h h':Heap}{a C dx:Addr}{fs fs':List (Str×V)}
theorem a9u (hok:HOk P w H h)(e:H a=some (.ins C dx fs)):∃ mA,b1L h a dx C mA/\(∀ f,a2X (fs.lookup f) (mA f))/\PySem.Within mA (fs.map (·.1))/\fs.length<=1000/\H dx=some (.own a):=by
 obtain⟨d,z,ne,ob,mA,n,r,q⟩:=(show J1 P w H h a (.ins C dx fs) from hok a _ e)
 exact⟨mA,⟨ob,n,ne⟩,r,q,z,d⟩
end
structure Cls (K:ae)(C:Addr):Prop where
 pg:PySem.W.plainGet K C Str.empty=true
 hd:PySem.W.hasDictIn K C=true
 po:PySem.W.plainOver K C=true
 sa:cD K (.ref C) "__setattr__"=some (some (.builtin "object.__setattr__"))
theorem Cls.get {K:ae}{C:Addr}(c:Cls K C)(f:Str):PySem.W.plainGet K C f=true:=c.pg
section
variable {X:Cx}{pins:List (Addr×Obj)}{σ:St}{H:Hp}{s:Shared}{A:Around}{E:Value->Shared->Prop}{Q:Value->Shared->Prop}{c:Value}{b:Bool}
inductive V5 (K:ae)(H:Hp):V->Value->Prop where
 | non:V5 K H .non (.type "NoneType")
 | bl (x:Bool):V5 K H (.bl x) (.type "bool")
 | int (i:Int):V5 K H (.int i) (.type "int")
 | str (x:Str):V5 K H (.str x) (.type "str")
 | flt (x:UInt64):V5 K H (.flt x) (.type "float")
 | lst {a:Addr} {xs:List V} (e:H a=some (.lst xs)):V5 K H (.ref a) (.type "list")
 | frz {a:Addr} {o:Obj} {xs:List V} (e:H a=some (.frz o (.lst xs))):V5 K H (.ref a) (.type "list")
 | tup {a:Addr} {xs:List V} (e:H a=some (.tup xs)):V5 K H (.ref a) (.type "tuple")
 | dK {a:Addr} {kvs:List (Key×V)} (e:H a=some (.dK kvs)):V5 K H (.ref a) (.type "dict")
 | dT {a:Addr} {kvs:List (List Key×V)} (e:H a=some (.dT kvs)):V5 K H (.ref a) (.type "dict")
 | ins {a C dx:Addr} {fs:List (Str×V)} (e:H a=some (.ins C dx fs)) (cl:Cls K C) (ha:cD K (.ref C) "__class__"=some (some (.builtin "object.__class__")))
   (hn:PySem.W.specialIn K (.builtin "object.__class__") "__get__"=some (some (.builtin "getset_descriptor.__get__"))) (htk:PySem.W.takesIn K (.builtin "object.__class__")=some true)
   (hm:eI K C (.type "object")=some true):V5 K H (.ref a) (.ref C)
theorem a6d {x:V}{u t:Value}(I:Inv X pins σ H s)(rx:C6 x u)(ty:V5 X.K H x t)(e:dH X.K t c=some b)(h:∀ tk,Q (.bool b) {s with toks:=tk}) :
  wpAny (model X.prog X.w) A (call (.builtin "isinstance") [u,c]) Q E s:=by
 cases ty with
 | non=>cases (show u=cG from rx);exact b7 PySem.W.kitx_none I.kIn cr e (λz=>nomatch z) h
 | bl y=>cases (show u=aU y from rx);exact b7 PySem.W.kitx_bool I.kIn cr e (λz=>nomatch z) h
 | int i=>obtain⟨t,q⟩:=(show ∃ t,u=cu i t from rx);cases q;exact b7 PySem.W.kitx_int I.kIn cr e (λz=>nomatch z) h
 | str y=>obtain⟨t,q⟩:=(show ∃ t,u=gc y t from rx);cases q;exact b7 PySem.W.kitx_str I.kIn cr e (λz=>nomatch z) h
 | flt y=>obtain⟨t,q⟩:=(show ∃ t,u=Value.float y t from rx);cases q;exact b7 PySem.W.kitx_float I.kIn cr e (λz=>nomatch z) h
 | @lst a xs ea =>
  cases (show u=br a from rx);obtain⟨_,_,n,_,h1⟩:=(show J1 X.prog X.w H s.heap a (.lst xs) from I.hok a _ ea)
  exact b7 ie I.kIn ⟨_,h1,rfl⟩ e (λz=>nomatch z) h
 | @frz a ob xs ea =>
  cases (show u=br a from rx);obtain⟨_,_,_,n,_,h1⟩:=(show J1 X.prog X.w H s.heap a (.frz ob (.lst xs)) from I.hok a _ ea)
  exact b7 ie I.kIn ⟨_,h1,rfl⟩ e (λz=>nomatch z) h
 | @tup a xs ea =>
  cases (show u=br a from rx);obtain⟨_,_,_,p⟩:=(show J1 X.prog X.w H s.heap a (.tup xs) from I.hok a _ ea)
  obtain⟨o,h1,h2,_⟩:=p;exact b7 PySem.W.kitx_tuple I.kIn ⟨o,h1,h2⟩ e (λz=>nomatch z) h
 | @dK a kvs ea =>
  cases (show u=br a from rx);obtain⟨_,_,vs,_,p⟩:=(show J1 X.prog X.w H s.heap a (.dK kvs) from I.hok a _ ea)
  obtain⟨o,es,ep,h1,h2,_⟩:=p;exact b7 ig I.kIn ⟨o,h1,h2.1⟩ e (λz=>nomatch z) h
 | @dT a kvs ea =>
  cases (show u=br a from rx);obtain⟨_,_,xs,_,o,es,ep,h1,h2,_⟩:=(show J1 X.prog X.w H s.heap a (.dT kvs) from I.hok a _ ea)
  exact b7 ig I.kIn ⟨o,h1,h2.1⟩ e (λz=>nomatch z) h
 | @ins a C dx fs ea cl ha hn htk hm =>
  cases (show u=br a from rx);obtain⟨mA,O,_⟩:=a9u I.hok ea;obtain⟨od,J,_⟩:=O.look;exact b7 (PySem.W.kitx_own (cl.get _) cl.hd ha hn htk hm) I.kIn J e (λz=>nomatch z) h
end
end L2
namespace L2
open PySem PySem.Spec PyProof.Rows
structure P0 (k:Nat)(A:Around):Prop where
 hd:A.handled=none
 dp:A.depth+3*k+5<recursionLimit
 un:A.units+16*k+200<cLine
 gd:A.guards=some []
theorem P0.mono {j k:Nat}{A:Around}(r:P0 k A)(h:j<=k):P0 j A:=⟨r.hd,by have:=r.dp;omega,by have:=r.un;omega,r.gd⟩
theorem P0.deeper {k:Nat}{A:Around}(r:P0 (k+1) A)(env:Env):P0 k (A.deeper env) :=
 ⟨r.hd,by have:=r.dp;show A.depth+1+3*k+5<_;omega,by have:=r.un;show A.units+3+16*k+200<_;omega,r.gd⟩
theorem P0.in1 {k:Nat}{A:Around}(r:P0 (k+1) A):P0 k A.in1 :=
 ⟨r.hd,by have:=r.dp;show A.depth+3*k+5<_;omega,by have:=r.un;show A.units+1+16*k+200<_;omega,r.gd⟩
theorem P0.depth {k:Nat}{A:Around}(r:P0 k A):A.depth<recursionLimit:=by have:=r.dp;omega
theorem P0.units {k:Nat}{A:Around}(r:P0 k A):A.units+64<cLine:=by have:=r.un;omega
theorem P0.units0 {k:Nat}{A:Around}(r:P0 k A):A.units<cLine:=by have:=r.un;omega
def b2d:TA:=λ_ H Q=>Q [] H
def a9O (ta:TE)(tr:TA):TA:=fun σ H Q=>ta σ H λx H1=>tr σ H1 λxs H2=>Q (x::xs) H2
section
variable {X:Cx}{e:Expr}{es:List Expr}{te:TE}{t:TA}{pos:Pos}
theorem A1:PA X [] b2d:=λ_ _ _ _ H Q I h=>eM ⟨[],H,I,.nil,h⟩
theorem A0 (ha:PE X e te)(hr:PA X es t)(hs:starEach (e::es) X.env=(false,eval e X.env)::starEach es X.env:=by rfl):PA X (e::es) (a9O te t):=by
 intro pos pins s σ H Q I h;rw[hs];show wpAny _ _ (spliced ((false,eval e X.env)::backTo pos (starEach es X.env))) _ _ s;refine ek (thn (ha pins s σ H _ I h) λu s1 ⟨x,H1,I1,r1,q1⟩=>?_);exact thn (hr pos pins s1 σ H1 _ I1 q1) λus s2 ⟨xs,H2,I2,r2,q2⟩=>⟨x::xs,H2,I2,.cons r1 r2,q2⟩
def b1T (t:TA):TE:=fun σ H Q=>t σ H λxs H1=>xs.length<=sizeLine/\∀ p,H1 p=none->Q (.ref p) (upd H1 p (.tup xs))
def b2f (t:TA):TE:=fun σ H Q=>t σ H λxs H1=>xs.length<=sizeLine/\∀ p,H1 p=none->Q (.ref p) (upd H1 p (.lst xs))
theorem N1 {x1}(h:PA X es t):PE X (.Tuple es x1 pos) (b1T t):=by
 intro pins s σ H Q I hq;refine wpAny_Tuple_spliced (thn (h pos pins s σ H _ I hq) λus s1 ⟨xs,H1,I1,r,z,q⟩=>⟨by rw[<- r.length];exact z,?_⟩);have hf:H1 s1.heap.objs.size=none:=I1.hok.fresh (aj _);refine⟨.ref s1.heap.objs.size,upd H1 s1.heap.objs.size (.tup xs),I1.laid (t':=s1.toks) (λb u e=>ak _ e) (aj _) ?_,rfl,q _ hf⟩;exact⟨z,us,r,⟨_,aK _ rfl,rfl,_,rfl⟩⟩
theorem L1 (h:PA X es t):PE X (.List es pos) (b2f t):=by
 intro pins s σ H Q I hq;refine wpAny_List_spliced (thn (h pos pins s σ H _ I hq) λus s1 ⟨xs,H1,I1,r,z,q⟩=>⟨by rw[<- r.length];exact z,?_⟩);have hf:H1 s1.heap.objs.size=none:=I1.hok.fresh (aj _);refine⟨.ref s1.heap.objs.size,upd H1 s1.heap.objs.size (.lst xs),I1.laid (t':=s1.toks) (λb u e=>ak _ e) (aj _) ?_,rfl,q _ hf⟩;exact⟨z,us,0,r,aK _ rfl⟩
end
abbrev Sp:=List V->Hp->VK->XK->Prop
abbrev CXT:=List Env->Hp->Shared->XK->Value->Shared->Prop
structure a4R (P:Program)(w:World)(K:ae)(mg:Str->Option Value)(base:Heap)(A:Around)(outer:List Env)(s:Shared)(H:Hp):Prop where
 frames:A.frames=some outer
 mod:Mod K mg base
 bs:∀ b o,base.get? b=some o->s.heap.get? b=some o/\H b=none
 bsz:base.objs.size<=s.heap.objs.size
 funs:s.heap.FunFrames base outer
 frf:∀ b∈frs outer,H b=none
 hok:HOk P w H s.heap
 bare:AllBare s.gens
def CE (outer:List Env)(P:Program)(w:World)(H:Hp)(s:Shared)(Q:VK)(u:Value)(s':Shared):Prop :=
 ∃ v H',s'.os=s.os/\AllBare s'.gens/\Un (frs outer) [] H H' s.heap s'.heap/\HOk P w H' s'.heap/\C6 v u/\Q v H'
def CR (CX:CXT)(outer:List Env)(P:Program)(w:World)(H:Hp)(s:Shared)(Q:VK)(E:XK)(r:Result)(s':Shared):Prop :=
 match r with
 | .ok (.ret u)=>CE outer P w H s Q u s'
 | .ok _=>False
 | .error e=>CX outer H s E e s'
structure B8 (P:Program)(w:World)(K:ae)(mg:Str->Option Value)(base:Heap)(CX:CXT)(k:Nat)(f:Addr)(fd:FuncData)(ps:List Str)(sp:Sp):Prop where
 len:∀ vs H Q E,sp vs H Q E->vs.length=ps.length
 run:∀(A:Around) (outer:List Env) (s:Shared) (H:Hp) (args:Args) (us:List Value) (vs:List V) (Q:VK) (E:XK),P0 k A->a4R P w K mg base A outer s H->BindsTo s fd args (ps.zip us)->C0 vs us->sp vs H Q E ->
  codeAny (model P w) A (.call (.ref f) args) (CR CX outer P w H s Q E) s
theorem B8.mono {P:Program}{w:World}{K:ae}{mg:Str->Option Value}{base:Heap}{CX:CXT}{j k:Nat}{f:Addr}{fd:FuncData}{ps:List Str}{sp:Sp}(F:B8 P w K mg base CX j f fd ps sp)(h:j<=k) :
  B8 P w K mg base CX k f fd ps sp:=⟨F.len,λA outer s H args us vs Q E hr=>F.run A outer s H args us vs Q E (hr.mono h)⟩
theorem B8.imp {P:Program}{w:World}{K:ae}{mg:Str->Option Value}{base:Heap}{CX:CXT}{k:Nat}{f:Addr}{fd:FuncData}{ps:List Str}{sp sp':Sp}(F:B8 P w K mg base CX k f fd ps sp)
  (h:∀ vs H Q E,sp' vs H Q E->sp vs H Q E):B8 P w K mg base CX k f fd ps sp' :=
 ⟨λvs H Q E q=>F.len vs H Q E (h _ _ _ _ q),λA outer s H args us vs Q E hr he hb hv hs=>F.run A outer s H args us vs Q E hr he hb hv (h _ _ _ _ hs)⟩
theorem a4R.in1 {P:Program}{w:World}{K:ae}{mg:Str->Option Value}{base:Heap}{A:Around}{outer:List Env}{s:Shared}{H:Hp}(e:a4R P w K mg base A outer s H) :
  a4R P w K mg base A.in1 outer s H:=⟨e.frames,e.mod,e.bs,e.bsz,e.funs,e.frf,e.hok,e.bare⟩
section
variable {X:Cx}{pins:List (Addr×Obj)}{σ:St}{H:Hp}{s s':Shared}
theorem Inv.env0 (I:Inv X pins σ H s):a4R X.prog X.w X.K X.mg X.base X.A X.stack s H :=
 ⟨I.ok.frames,I.ok.mod,I.bs,ba I.ok.bsz I.sz,I.stack,I.stkFree,I.hok,I.bare⟩
theorem Inv.after {Q:VK}{u:Value}(I:Inv X pins σ H s)(h:CE X.stack X.prog X.w H s Q u s'):EP X pins σ Q u s':=by
 obtain⟨v,H',os,bare,un,hok,r,q⟩:=h;obtain⟨hh,g,d,t,os'⟩:=s';obtain rfl:os'=s.os:=os;exact⟨v,H',I.call (h':=hh) (g':=g) (d':=d) (t':=t) (ch:=[]) un hok bare (λb z=>absurd z (by simp)),r,q⟩
end
def a4W (sp:Sp)(dvs:List V)(E:XK)(t:TA):TE:=fun σ H Q=>t σ H λvs H1=>sp (vs++dvs) H1 Q E
def a2n (K:ae)(fd:FuncData)(ps:List Str)(ds:List Value):Prop :=
 ∀(s:Shared) (us:List Value),K.In s.heap->(us++ds).length=ps.length->BindsTo s fd ⟨us,[]⟩ (ps.zip (us++ds))
theorem a2n.all {K:ae}{fd:FuncData}{ps:List Str}(h:∀ us:List Value,us.length=ps.length->bindArgs fd ⟨us,[]⟩=pure (ps.zip us)):a2n K fd ps []:=λs us _ hl=>by
 rw[b5] at hl ⊢;exact .of_eq (h us hl)
def a2Y (CX:CXT)(X:Cx)(E:XK):Prop:=∀(pins:List (Addr×Obj)) (σ:St) (H:Hp) (s:Shared) (e:Value) (s':Shared),Inv X pins σ H s->CX X.stack H s E e s'->X.xe e s'
section
variable {X:Cx}{CX:CXT}{k:Nat}{f C:Addr}{fd:FuncData}{ps:List Str}{sp:Sp}{dvs:List V}{ds:List Value}{E:XK}{x m:Str}{p pos apos:Pos}{e o:Expr}{es:List Expr}{ta:TE}{t:TA}
theorem b0E {pins:List (Addr×Obj)}{σ:St}{H:Hp}{s:Shared}{Q:VK}{us:List Value}{vs:List V}(F:B8 X.prog X.w X.K X.mg X.base CX k f fd ps sp)(hr:P0 k X.A)(hb:a2n X.K fd ps ds)(hd:C0 dvs ds)(hx:a2Y CX X E)
  (I:Inv X pins σ H s) (r:C0 vs us) (h:sp (vs++dvs) H Q E):wpAny (model X.prog X.w) X.A (call (.ref f) us) (EP X pins σ Q) X.xe s:=by
 have r2:C0 (vs++dvs) (us++ds):=r.append hd;have hl:(us++ds).length=ps.length:=by rw[<- r2.length];exact F.len _ _ _ _ h
 refine wpAny_call (codeAny_mono (F.run X.A X.stack s H ⟨us,[]⟩ (us++ds) (vs++dvs) Q E hr I.env0 (hb s us I.kIn hl) r2 h) λr s' hq=>?_);cases r with
 | error e=>exact hx pins σ H s e s' I hq
 | ok fl =>
  cases fl with
  | ret u=>exact I.after hq
  | next=>exact cJ hq
  | brk=>exact cJ hq
  | cont=>exact cJ hq
theorem a5r (F:B8 X.prog X.w X.K X.mg X.base CX k f fd ps sp)(hr:P0 k X.A)(hg:Gl X x)(hm:X.mg x=some (.ref f))(hk:fh X.K (.ref f)=true)(hb:a2n X.K fd ps ds)(hd:C0 dvs ds)(hx:a2Y CX X E)
  (ha:PA X (e::es) t) (hdb:(x == ("__debug__":Str))=false:=by decide) (he:starEach (e::es) X.env=(false,eval e X.env)::starEach es X.env:=by rfl) (hpl:(backTo pos (starEach es X.env)).any (·.1)=false:=by rfl) :
  PE X (.Call (.Name x p) (e::es) [] pos) (a4W sp dvs E t):=by
 intro pins s σ H Q I h;refine dO (a2J I hg hm ?_ hdb);refine PySem.W.callWith_K (h₀:=X.base) I.ok.mod.kin hk (thn (ha pos pins s σ H _ I h) λus s1 ⟨vs,H1,I1,r,q⟩=>⟨I1.kIn,?_⟩) he hpl;exact b0E F hr hb hd hx I1 r q
end
section
variable {X:Cx}{CX:CXT}{k:Nat}{f C:Addr}{fd:FuncData}{ps ks:List Str}{sp:Sp}{E:XK}{x m:Str}{p pos apos kpos:Pos}{e o:Expr}{es:List Expr}{kws:List Keyword}{te ta:TE}{t tk:TA}{nm:Option Str}
variable {g:List Value->List Value->List Value}{gV:List V->List V->List V}
end
structure B7 (N P:List Str)(sc:Scope):Prop where
 kind:sc.kind=.function
 co:sc.isCoroutine=false
 gen:sc.isGenerator=false
 nd:N.Nodup
 pre:N.take P.length=P
 par:∀ x∈P,sc.names.lookup x=some .local\/sc.names.lookup x=some .cell
 nofree:∀ y∈sc.names,y.2≠.free
theorem a2j {kindOf:Str->Option NameKind}{x:Str}:∀ {binds:List (Str×Value)} {m:Str->Option Value},(∀ v,(x,v)∉binds)->bindL kindOf binds m x=m x
 | [],_,_=>rfl
 | (n,v)::r,m,h=>by
  unfold bindL;rw[a2j λw hw=>h w (aL _ hw)];split
  ·have:x≠n:=by rintro rfl;exact h v aO
   simp[this]
  ·rfl
theorem a2l {kindOf:Str->Option NameKind}{x:Str}:∀ {binds:List (Str×Value)} {m:Str->Option Value},(∀ v,(x,v)∉binds)->bindC kindOf binds m x=m x
 | [],_,_=>rfl
 | (n,v)::r,m,h=>by
  unfold bindC;rw[a2l λw hw=>h w (aL _ hw)];split
  ·rfl
  ·have:x≠n:=by rintro rfl;exact h v aO
   simp[this]
theorem a2k {kindOf:Str->Option NameKind}{x:Str}{v:Value}:∀ {P:List Str} {vs:List Value} {i:Nat} {m:Str->Option Value},P.Nodup->P[i]?=some x->vs[i]?=some v->kindOf x=some .local ->
  bindL kindOf (P.zip vs) m x=some v
 | [],_,_,_,_,h,_,_=>by simp at h
 | _::_,[],_,_,_,_,h,_=>by simp at h
 | p::P,w::vs,0,m,nd,h1,h2,hk=>by
  simp at h1 h2;subst h1;subst h2;show bindL kindOf ((p,w)::P.zip vs) m p=_;unfold bindL;rw[a2j λv hv=>(d0.mp nd).1 (gu hv).1,if_pos hk];simp
 | p::P,w::vs,i+1,m,nd,h1,h2,hk=>by
  show bindL kindOf ((p,w)::P.zip vs) m x=_;unfold bindL;exact a2k (i:=i) (d0.mp nd).2 (~~~h1) (~~~h2) hk
theorem a2m {kindOf:Str->Option NameKind}{x:Str}{v:Value}:∀ {P:List Str} {vs:List Value} {i:Nat} {m:Str->Option Value},P.Nodup->P[i]?=some x->vs[i]?=some v->kindOf x≠some .local ->
  bindC kindOf (P.zip vs) m x=some v
 | [],_,_,_,_,h,_,_=>by simp at h
 | _::_,[],_,_,_,_,h,_=>by simp at h
 | p::P,w::vs,0,m,nd,h1,h2,hk=>by
  simp at h1 h2;subst h1;subst h2;show bindC kindOf ((p,w)::P.zip vs) m p=_;unfold bindC;rw[a2l λv hv=>(d0.mp nd).1 (gu hv).1,if_neg hk];simp
 | p::P,w::vs,i+1,m,nd,h1,h2,hk=>by
  show bindC kindOf ((p,w)::P.zip vs) m x=_;unfold bindC;exact a2m (i:=i) (d0.mp nd).2 (~~~h1) (~~~h2) hk
def P1 (N:List Str)(vs:List V):St:=vs.map some++List.replicate (N.length-vs.length) none
def a1z (CX:CXT)(P:Program)(w:World)(K:ae)(mg:Str->Option Value)(base:Heap)(N:List Str)(qual:Str)(scope:Scope)(f:Addr)(cd:Value)(A:Around)(outer:List Env)(s:Shared)(H:Hp)(E:XK):Cx where
 prog:=P
 w:=w
 K:=K
 mg:=mg
 base:=base
 A:=A.deeper (envOfC qual scope s.heap.objs.size f cd)
 N:=N
 sj:=s
 Hz:=H
 env:=envOfC qual scope s.heap.objs.size f cd
 outer:=outer
 stack:=envOfC qual scope s.heap.objs.size f cd::outer
 ex:=[]
 calm:=true
 fn:=λ_=>true
 pn:=[]
 xe:=λe s'=>wpAny (model P w) (A.deeper (envOfC qual scope s.heap.objs.size f cd)) (leaving (envOfC qual scope s.heap.objs.size f cd) e) (λ_ s''=>CX outer H s E e s'') (λe' s''=>CX outer H s E e' s'') s'
theorem a4g {sc:Scope}{n:Nat}{x:Str}(h:sc.names.lookup x=some .cell):∃ c,(cellsFrom n sc.names []).lookup x=some c:=by
 have q:=gI sc.names n [] (.inl h);exact gF.mp q
theorem a6g {CX:CXT}{P:Program}{w:World}{K:ae}{mg:Str->Option Value}{base:Heap}{N ps:List Str}{qual:Str}{scope:Scope}{f:Addr}{cd:Value}{A:Around}{outer:List Env}{s s1:Shared}{H:Hp}{E:XK}{us:List Value}{vs:List V}
  (S:B7 N ps scope) (hd:A.handled=none) (e0:a4R P w K mg base A outer s H) (hl:vs.length=ps.length) (r:C0 vs us)
  (x:InCallC s s.heap.objs.size (bindL (envOfC qual scope s.heap.objs.size f cd).kindOf (ps.zip us) λ_=>none) (cellsFrom (s.heap.objs.size+1) scope.names []) (bindC (envOfC qual scope s.heap.objs.size f cd).kindOf (ps.zip us) λ_=>none) s1) :
  Inv (a1z CX P w K mg base N qual scope f cd A outer s H E) [] (P1 N vs) H s1:=by
 have hpl:ps.length<=N.length:=by have:=congrArg cE S.pre;rw[aN] at this;omega
 obtain⟨h1,tk,rfl,hk⟩:=x.done;have noA:∀ b:Addr,b∉(a1z CX P w K mg base N qual scope f cd A outer s H E).ex:=λb z=>absurd (show b∈([]:List Addr) from z) (by simp)
 refine⟨⟨e0.mod,S.kind,rfl,rfl,aj _,λy z c h1 h2=>?_,λy hy=>?_,λy c _ h=>?_,λ_=>hd,Around.frames_deeper e0.frames,.inr ⟨rfl,rfl⟩,λb z=>absurd z (noA b),e0.bs,e0.bsz,λb _ _=>noA b,λb z=>absurd z (noA b),e0.funs,e0.frf⟩,
  rfl,e0.bare,Un.kept hk,⟨_,x.toInCall.ns,λi y v h1 h2 h3=>?_⟩,λy c h=>⟨_,x.cell y c h⟩,e0.hok.fresh (aj _),λy c h=>?_,λp hp=>absurd (show p∈([]:List (Addr×Obj)) from hp) (by simp),e0.hok.kept hk,?_⟩
 ·exact name_of_addr x.apart (dq h1) (dq h2)
 ·have hy:scope.names.lookup y=some .cell\/scope.names.lookup y=some .free:=hy;rcases hy with hy | hy
  ·exact a4g hy
  ·exact absurd rfl (S.nofree _ (dq hy))
 ·exact dB (x.above y c (dq h))
 ·have hi:i<vs.length:=by
   unfold P1 at h2;by_cases hi:i<vs.length
   ·exact hi
   ·rw[bf (~~~hi)] at h2;rw[gT] at h2;split at h2<;>cases h2
  have ha:vs[i]?=some v:=by
   unfold P1 at h2;rw[bh (~~~hi),aC] at h2;cases e:vs[i]? with
   | none=>rw[e] at h2;cases h2
   | some a=>rw[e] at h2;cases h2;rfl
  obtain⟨u,hu,rv⟩:=r.get ha;have hp:ps[i]?=some y:=by
   rw[<- S.pre,dz ∅];exact h1
  have ndP:ps.Nodup:=by rw[<- S.pre];exact S.nd.sublist (fL _ _)
  refine⟨u,rv,?_⟩;rcases S.par y (aB hp) with k | k
  ·exact .inl ⟨k,a2k ndP hp hu k⟩
  ·obtain⟨c,e⟩:=a4g (n:=s.heap.objs.size+1) k;refine .inr ⟨.inl k,c,e,?_⟩;have q:=x.cell y c e;rw[a2m ndP hp hu (by show scope.names.lookup y≠_;rw[k];decide)] at q;exact q
 ·exact e0.hok.fresh (dB (x.above y c (dq h)))
 ·unfold P1;show _=N.length;rw[aD,aa,fm];omega
theorem b0c {CX:CXT}{P:Program}{w:World}{K:ae}{mg:Str->Option Value}{base:Heap}{k:Nat}{f:Addr}{name qual:Str}{params:Arguments}{body:List Stmt}{scope:Scope}{dV kV doc pm cdv ct oc:Value}{an od:Option Addr}
  {osl:Array (Option Value)} {N ps:List Str} {sp:Sp} (lk:K.lookup f=some ⟨oc,od,.func (db name qual params body scope dV kV doc pm an cdv ct),osl⟩) (hcd:fj K cdv qual=true) (S:B7 N ps scope)
  (len:∀ vs H Q E,sp vs H Q E->vs.length=ps.length)
  (hbody:∀(A:Around) (outer:List Env) (s:Shared) (H:Hp) (vs:List V) (Q:VK) (E:XK),P0 k (A.deeper (envOfC qual scope s.heap.objs.size f cdv))->sp vs H Q E ->
   ∃ t,PSs (a1z CX P w K mg base N qual scope f cdv A outer s H E) body t/\t {nx:=λ_ H'=>Q .non H',rt:=Q} (P1 N vs) H) :
  B8 P w K mg base CX (k+1) f (db name qual params body scope dV kV doc pm an cdv ct) ps sp:=by
 refine⟨len,λA outer s H args us vs Q E hr e0 hb r hsp=>?_⟩;have hl:=len _ _ _ _ hsp;have KX:K.In s.heap:=e0.mod.kin.keeps λb o e=>(e0.bs b o e).1
 have lim:s.heap.NoLimit:=e0.mod.nolimit.keeps λb o e=>(e0.bs b o e).1
 have hkind:∀ y∈ps.zip us,scope.names.lookup y.1=some .local\/(scope.names.lookup y.1=some .cell/\((cellsFrom (s.heap.objs.size+1) scope.names []).lookup y.1).isSome=true):=λ⟨n,v⟩ hy=>by
  rcases S.par n (gu hy).1 with q | q
  ·exact .inl q
  ·exact .inr ⟨q,gI _ _ _ (.inl q)⟩
 refine codeAny_call_function hr.depth (KX _ _ lk) rfl S.co S.gen rfl (PySem.W.codeRec_of KX hcd) (hb _ _ _ _ ?_);refine wpAny_newFunctionEnv_cells S.kind hkind λenv he s1 x=>?_
 subst he;refine⟨lim.keeps x.toInCall.keep,codeAny_func ?_⟩;obtain⟨t,ht,hq⟩:=hbody A outer s H vs Q E (hr.deeper _) hsp;have I:Inv (a1z CX P w K mg base N qual scope f cdv A outer s H E) [] (P1 N vs) H s1:=a6g S hr.hd e0 hl r x;refine bV (ht [] s1 (P1 N vs) H _ I hq) (λfl s' hs=>?_) λe s' hs=>hs
 have fin:∀ {σ':St} {H':Hp} {v:V} {u:Value},Inv (a1z CX P w K mg base N qual scope f cdv A outer s H E) [] σ' H' s'->C6 v u->Q v H'->CE outer P w H s Q u s' :=
  λ{σ' H' v u} J rv q=>⟨v,H',J.os,J.bare,J.base,J.hok,rv,q⟩
 cases fl with
 | ret u =>
  obtain⟨v,σ',H',J,rv,q⟩:=hs;exact fin J rv q
 | next =>
  obtain⟨σ',H',J,q⟩:=hs;exact fin (v:=V.non) (u:=cG) J rfl q
 | brk =>
  obtain⟨_,_,_,q⟩:=hs;exact cJ q
 | cont =>
  obtain⟨_,_,_,q⟩:=hs;exact cJ q
end L2
namespace L2
open PySem PySem.Spec PyProof.Rows
section
variable {X:Cx}{x:Str}{p pos:Pos}{e:Expr}{es:List Expr}{t:TA}{id T:String}{r:List V->Hp->VK->Prop}
def tCB (r:List V->Hp->VK->Prop)(t:TA):TE:=fun σ H Q=>t σ H λvs H1=>r vs H1 Q
theorem A9 (hc:L0 X (.builtin id) r)(hg:Gl X x)(hm:X.mg x=none)(hv:bootBuiltins x=some (.builtin id))(ha:PA X (e::es) t)(hn:x≠"__name__":=by decide)(hdb:(x == ("__debug__":Str))=false:=by decide)
  (he:starEach (e::es) X.env=(false,eval e X.env)::starEach es X.env:=by rfl) (hpl:(backTo pos (starEach es X.env)).any (·.1)=false:=by rfl):PE X (.Call (.Name x p) (e::es) [] pos) (tCB r t):=by
 intro pins s σ H Q I h;refine dO (X4 I hg hm hv ?_ hn hdb);exact PyProof.Rows.callWith_builtin1 (thn (ha pos pins s σ H _ I h) λus s1 ⟨vs,H1,I1,r1,q1⟩=>hc pins s1 σ H1 vs us Q I1 r1 q1) he hpl
theorem C2 (hc:L0 X (.type T) r)(hg:Gl X x)(hm:X.mg x=none)(hv:bootBuiltins x=some (.type T))(ha:PA X (e::es) t)(hn:x≠"__name__":=by decide)(hdb:(x == ("__debug__":Str))=false:=by decide)
  (he:starEach (e::es) X.env=(false,eval e X.env)::starEach es X.env:=by rfl) (hpl:(backTo pos (starEach es X.env)).any (·.1)=false:=by rfl):PE X (.Call (.Name x p) (e::es) [] pos) (tCB r t):=by
 intro pins s σ H Q I h;refine dO (X4 I hg hm hv ?_ hn hdb);exact ci (thn (ha pos pins s σ H _ I h) λus s1 ⟨vs,H1,I1,r1,q1⟩=>hc pins s1 σ H1 vs us Q I1 r1 q1) he hpl
end
end L2
namespace HT
open PySem PyProof.Rows
def lexLt:List Int->List Int->Bool
 | [],[]=>false
 | [],_::_=>true
 | _::_,[]=>false
 | x::xs,y::ys=>if x=y then lexLt xs ys else decide (x<y)
theorem lexLt_cons (x y:Int)(xs ys:List Int):lexLt (x::xs) (y::ys)=if x=y then lexLt xs ys else decide (x<y):=rfl
theorem lexLt_nil_nil:lexLt [] []=false:=rfl
theorem lexLt_nil_cons (y:Int)(ys:List Int):lexLt [] (y::ys)=true:=rfl
theorem lexLt_cons_nil (x:Int)(xs:List Int):lexLt (x::xs) []=false:=rfl
theorem eqAt_int (A:Around)(s:Shared)(a:Int)(t:Tok)(c:Int)(u:Tok):∃ e,iH A s (.int a t) (.int c u) e/\(e=true↔a=c) :=
 ⟨(a == c),gO a t c u,by simp⟩
theorem rcLt_int (A:Around)(s:Shared)(a:Int)(t:Tok)(c:Int)(u:Tok)(prog:Program)(w:World)(E:Value->Shared->Prop)(Q:Value->Shared->Prop)(h:Q (.bool (decide (a<c))) s) :
  wpAny (model prog w) A (richCompare .Lt (.int a t) (.int c u)) Q E s :=
 (gq h:wpAny (model prog w) A (compareOp .Lt (.int a t) (.int c u)) Q E s)
section
open PySem.SeqAt
open PySem.AutoSeq1 (wpAny_loadPart')
open PySem.MeetsSeq PySem.MeetsSeq2 PySem.MeetsSeq3
theorem tuple_lt_ints (l b:Addr)(items items2:Array Value)(n n2:Nat)(dd dd2:Option Addr)(sl sl2:Array (Option Value))(ns ms:List Int)(hi:IntsAre items.toList ns)(hj:IntsAre items2.toList ms) :
  Meets (Builtin.«tuple.__lt__» ⟨[.ref l,.ref b],[]⟩)
   (λ_ R s=>s.heap.get? l=some {cls:=.type "tuple",dict:=dd,data:=.seq items n,slots:=sl}/\s.heap.get? b=some {cls:=.type "tuple",dict:=dd2,data:=.seq items2 n2,slots:=sl2} /\
    R (.ok (.ret (.bool (lexLt ns ms)))) s) :=
 .of_wp λprog w A R s h=>by
  obtain⟨hp,g,d,tk,os⟩:=s;obtain⟨hl,hb,h⟩:=h;have f2:=AutoSeq1.sub_tuple_tuple;have z1:items.size=ns.length:=by rw[<- hi.length];simp
  have z2:items2.size=ms.length:=by rw[<- hj.length];simp
  wp_walk using wpAny_loadPart' hl,wpAny_loadPart' hb,wpAny_forIn_list _ (λY3 b s'=>b.1=none/\s'=⟨hp,g,d,tk,os⟩/\∃(vs ws:List Value) (ns' ms':List Int),Y3=vs.zip ws /\
   IntsAre vs ns'/\IntsAre ws ms'/\ns'.length+items2.size=ms'.length+items.size/\R (.ok (.ret (.bool (lexLt ns' ms')))) ⟨hp,g,d,tk,os⟩) _
  case turn =>
   rintro⟨y,x⟩ Y3 b s' ⟨hb',rfl,vs,ws,ns',ms',hz,hvi,hwi,hlen,hR⟩;cases hvi with
   | nil=>rw[List.zip_nil_left] at hz;cases hz
   | cons a t hvi' =>
    cases hwi with
    | nil=>rw[List.zip_nil_right] at hz;cases hz
    | cons c u hwi' =>
     rw[fH] at hz;injection hz with hyx hrest
     injection hyx with hy hx
     subst hy hx;rw[lexLt_cons] at hR;simp only[aH] at hlen;obtain⟨e,he,hiff⟩:=eqAt_int A.in1 ⟨hp,g,d,tk,os⟩ a t c u;refine af (he prog w _ _ ?_);cases e with
     | true =>
      rw[if_pos (hiff.mp rfl)] at hR
      wp_walk
      exact⟨rfl,rfl,_,_,_,_,hrest,hvi',hwi',∅,hR⟩
     | false =>
      rw[if_neg (λq=>absurd (hiff.mpr q) aJ)] at hR;have hri:=rcLt_int A.in1 ⟨hp,g,d,tk,os⟩ a t c u prog w
      wp_walk using hri
      exact⟨_,rfl, ~~~hR⟩
  case fin =>
   rintro⟨b1,b2⟩ s' ⟨hb',rfl,vs,ws,ns',ms',hz,hvi,hwi,hlen,hR⟩;simp only at hb';subst hb';have hv:lexLt ns' ms'=decide (items.size<items2.size):=by
    cases hvi with
    | nil =>
     cases hwi with
     | nil =>
      simp only[bR] at hlen;rw[lexLt_nil_nil];exact (decide_eq_false ∅).symm
     | cons c u hw =>
      simp only[bR,aH] at hlen;rw[lexLt_nil_cons];exact (decide_eq_true ∅).symm
    | cons a t hv =>
     cases hwi with
     | nil =>
      simp only[bR,aH] at hlen;rw[lexLt_cons_nil];exact (decide_eq_false ∅).symm
     | cons c u hw =>
      rw[fH] at hz;cases hz
   rw[hv] at hR
   wp_walk
   exact⟨_,rfl,by simpa [Builtin.Tuple.tupleCompareSizes] using hR⟩
  case h =>
   exact⟨rfl,rfl,items.toList,items2.toList,ns,ms,rfl,hi,hj,∅,h⟩
end
section
variable {prog:Program}{w:World}{A:Around}{E:Value->Shared->Prop}{s:Shared}
theorem lt_tupInts {l b:Addr}{items items2:Array Value}{ns ms:List Int}{Q:Value->Shared->Prop}(hl:IsTup s.heap l items)(hb:IsTup s.heap b items2)(hi:IntsAre items.toList ns)(hj:IntsAre items2.toList ms)
  (hu:A.units<cLine) (h:Q (.bool (lexLt ns ms)) s):wpAny (model prog w) A (compareOp .Lt (.ref l) (.ref b)) Q E s:=by
 obtain⟨⟨cls,dd,data,sl⟩,ho,hc,n,hd⟩:=id hl;obtain⟨⟨cls2,dd2,data2,sl2⟩,ho2,hc2,n2,hd2⟩:=id hb;simp only at hc hd hc2 hd2;subst hc hd hc2 hd2;exact richCompare_meets_room (op:=.Lt) ⟨_,ho,rfl⟩ ⟨_,ho2,rfl⟩ PySem.F.slot_tuple_lt PySem.F.entry_tuple_lt (PySem.F.args_tuple_lt_2 _ _) (tuple_lt_ints l b items items2 n n2 dd dd2 sl sl2 ns ms hi hj)
  ⟨ho,ho2,show aU (lexLt ns ms)≠Value.notImplemented/\Q (.bool (lexLt ns ms)) s from ⟨(λx=>nomatch x),h⟩⟩ hu
theorem cat_tup {t b:Addr}{vs ws:List Value}{Q:Value->Shared->Prop}(ht:IsTup s.heap t vs.toArray)(hb:IsTup s.heap b ws.toArray)(hv:vs≠[])
  (h1:ws=[]->Q (.ref t) s) (h2:ws≠[]->Q (.ref s.heap.objs.size) {s with heap:=s.heap.push {cls:=.type "tuple",data:=.seq (vs++ws).toArray}})
  (hsz:vs.length+ws.length<=sizeLine):wpAny (model prog w) A (binaryOp .Add (.ref t) (.ref b)) Q E s:=by
 obtain⟨⟨cls,dd,data,sl⟩,ho,hc,n,hd⟩:=id ht;obtain⟨⟨cls2,dd2,data2,sl2⟩,ho2,hc2,n2,hd2⟩:=id hb;simp only at hc hd hc2 hd2;subst hc hd hc2 hd2;have e:vs.toArray++ws.toArray=(vs++ws).toArray:=by simp
 by_cases hw:ws=[]
 ·exact iT ⟨_,ho,rfl⟩ ⟨_,ho2,rfl⟩ noFill_tuple_add iE eQ eJ (er _ _)
   (tuple_addW1 t b vs.toArray ws.toArray n n2 dd dd2 sl sl2 (~~~hv) (by simp[hw])) ⟨ho,ho2,h1 hw⟩
 ·refine iT ⟨_,ho,rfl⟩ ⟨_,ho2,rfl⟩ noFill_tuple_add iE eQ eJ (er _ _)
   (tuple_addW2 t b vs.toArray ws.toArray n n2 dd dd2 sl sl2 (~~~hv) (~~~hw) (by rw[aA,aA];exact hsz)) ⟨ho,ho2,?_⟩
  rw[e];exact h2 hw
def sIx (n d:Nat):Option Int->Nat
 | none=>d
 | some v=>if v<0 then (v+(n:Int)).toNat else min v.toNat n
theorem sIx_none (n d:Nat):sIx n d none=d:=rfl
theorem sIx_nat (n d k:Nat):sIx n d (some (k:Int))=min k n:=by
 show (if (k:Int)<0 then ((k:Int)+(n:Int)).toNat else min (k:Int).toNat n)=min k n;rw[if_neg ∅,cY]
theorem sIx_le (n d:Nat)(hd:d<=n)(o:Option Int):sIx n d o<=n:=by
 cases o with
 | none=>exact hd
 | some v =>
  show (if v<0 then (v+(n:Int)).toNat else min v.toNat n)<=n;by_cases hv:v<0
  ·rw[if_pos hv];omega
  ·rw[if_neg hv];exact Nat.min_le_right _ _
theorem clip_eq (v:Int)(n d:Nat):(if v<0 then max (v+(n:Int)) 0 else min v (n:Int))=((sIx n d (some v):Nat):Int):=by
 show (if v<0 then max (v+(n:Int)) 0 else min v (n:Int))=(((if v<0 then (v+(n:Int)).toNat else min v.toNat n):Nat):Int)
 by_cases hv:v<0
 ·simp only[if_pos hv];omega
 ·simp only[if_neg hv];omega
theorem adjust_gen (lo hi:Option Int)(n:Nat):Builtin.Slice.sliceAdjust lo hi 1 (n:Int)=(((sIx n 0 lo:Nat):Int),((sIx n n hi:Nat):Int)):=by
 have h1:¬ ((1:Int)<0):=∅
 unfold Builtin.Slice.sliceAdjust;simp only[h1,if_false];refine Prod.ext ?_ ?_
 ·cases lo with
  | none=>rfl
  | some v=>exact clip_eq v n 0
 ·cases hi with
  | none=>rfl
  | some v=>exact clip_eq v n n
theorem places_gen (i j:Nat):Builtin.Slice.slicePlaces (i:Int) (j:Int) 1=j-i:=by
 unfold Builtin.Slice.slicePlaces;have h1:(1:Int)>0:=∅
 simp only[h1,if_true,Int.ediv_one];split<;>omega
theorem slicePart_ {v:Value}{o:Option Int}{Q:Option Int->Shared->Prop}(p:IsPart v o)(h:Q o s):wpAny (model prog w) A (Builtin.Slice.slicePartIndex v) Q E s:=by
 cases p with
 | none=>exact slicePart_none h
 | int i t=>exact slicePart_int h
theorem sliceApplied_gen {sl:Addr}{vl vu:Value}{lo hi:Option Int}{n:Nat}{Q:Int×Int×Nat->Shared->Prop}(hs:s.heap.IsSliceOf sl vl vu .none)(pl:IsPart vl lo)(pu:IsPart vu hi)
  (h:Q (((sIx n 0 lo:Nat):Int),1,sIx n n hi-sIx n 0 lo) s):wpAny (model prog w) A (Builtin.Slice.sliceApplied (.ref sl) (pure (n:Int))) Q E s:=by
 obtain⟨os,hos,hcs,hds⟩:=id hs;unfold Builtin.Slice.sliceApplied Builtin.Slice.sliceFields;refine af (af (iZ hos hds (x:=vl) rfl (af (iZ hos hds (x:=vu) rfl (af (iZ hos hds (x:=.none) rfl (au ?_)))))));refine af (slicePart_none ?_);show wpAny _ _ (if ((1:Int) == 0)=true then _ else _) _ _ s;rw[if_neg (by decide)];refine af (slicePart_ pl (af (slicePart_ pu (af (au ?_)))));show wpAny _ _ (match Builtin.Slice.sliceAdjust lo hi 1 (n:Int) with | (lo,hi)=>pure (lo,(1:Int),Builtin.Slice.slicePlaces lo hi 1)) _ _ s;rw[adjust_gen lo hi n];show wpAny _ _ (pure (((sIx n 0 lo:Nat):Int),(1:Int),Builtin.Slice.slicePlaces ((sIx n 0 lo:Nat):Int) ((sIx n n hi:Nat):Int) 1)) _ _ s;rw[places_gen];exact au h
theorem pick_gen (xs:Array Value)(i k:Nat):((cU k).filterMap λ(m:Nat)=>xs[((i:Int)+(m:Int)*1).toNat]?).toArray=((xs.toList.drop i).take k).toArray:=by
 have e:(λ(m:Nat)=>xs[((i:Int)+(m:Int)*1).toNat]?)=λm=>xs[i+m]?:=by
  funext m;have:((i:Int)+(m:Int)*1).toNat=i+m:=∅
  rw[this]
 rw[e];have:=pick_run xs i k;rw[List.filterMap_map] at this;have e2:((λx=>xs[x]?) ∘ λx=>i+x)=λm=>xs[i+m]?:=rfl
 rw[e2] at this;rw[this]
theorem getItem_tuple_cut {t sl:Addr}{items:Array Value}{vl vu:Value}{lo hi:Option Int}{Q:Value->Shared->Prop}(ht:IsTup s.heap t items)(hs:s.heap.IsSliceOf sl vl vu .none)(pl:IsPart vl lo)(pu:IsPart vu hi)
  (hw:¬ (sIx items.size 0 lo=0/\sIx items.size items.size hi=items.size))
  (h:Q (.ref s.heap.objs.size) {s with heap:=s.heap.push {cls:=.type "tuple",data:=.seq ((items.toList.drop (sIx items.size 0 lo)).take (sIx items.size items.size hi-sIx items.size 0 lo)).toArray}})
  (hsz:items.size<=sizeLine):wpAny (model prog w) A (getItem (.ref t) (.ref sl)) Q E s:=by
 have htake:sizeOk (.seq ((items.toList.drop (sIx items.size 0 lo)).take (sIx items.size items.size hi-sIx items.size 0 lo)).toArray):=by
  show ((items.toList.drop (sIx items.size 0 lo)).take (sIx items.size items.size hi-sIx items.size 0 lo)).toArray.size<=sizeLine;rw[aA,aN,fV,bo];omega
 have hj:sIx items.size items.size hi<=items.size:=sIx_le _ _ (aj _) hi;obtain⟨os,hos,hcs,hds⟩:=id hs;have hTs:s.TypeIs (.ref sl) "slice":=⟨os,hos,hcs⟩
 unfold getItem;try with_reducible refine bQ ?_
 first | refine af (au ?_) | skip
 refine af (i8 ht.typeIs (by decide) ?_)
 refine af (dN (name:=Str.ofString "__getitem__") ht.typeIs cq
  (cO cq ht.typeIs i6 ?_ (i7 _ _)))
 show wpAny _ _ (fz (.ref t) >>= _) _ _ s;refine af (tupleItemsOf_ ht ?_);refine af (eS hTs ?_);rw[if_pos (by decide)];refine af (sliceApplied_gen hs pl pu ?_);have hno:¬ ((((sIx items.size 0 lo:Nat):Int) == 0 && (1:Int) == 1 && (sIx items.size items.size hi-sIx items.size 0 lo) == items.size)=true):=by
  intro q;rw[bU,bU] at q;have q1:((sIx items.size 0 lo:Nat):Int)=0:=eq_of_beq q.1.1;have q2:sIx items.size items.size hi-sIx items.size 0 lo=items.size:=eq_of_beq q.2;exact hw ⟨∅,∅⟩
 show wpAny _ _ (if (((sIx items.size 0 lo:Nat):Int) == 0 && (1:Int) == 1 && (sIx items.size items.size hi-sIx items.size 0 lo) == items.size)=true then _ else _) _ _ s;rw[if_neg hno,pick_gen];first
  | exact af (m:=Builtin.Tuple.tupleExact _) (bX (au ⟨_,rfl,au h⟩) htake)
  | exact af (m:=Builtin.Tuple.tupleExact _) (bX (af (au (au ⟨_,rfl,au h⟩))) htake)
  | exact af (af (m:=Builtin.Tuple.tupleExact _) (bX (au (au ⟨_,rfl,au h⟩)) htake))
  | exact af (af (m:=Builtin.Tuple.tupleExact _) (bX (au ⟨_,rfl,au h⟩) htake))
end
end HT
namespace L2
open PySem PySem.Spec PyProof.Rows
abbrev TO:=St->Hp->(Option Int->Hp->Prop)->Prop
def PO (X:Cx)(e:Option Expr)(t:TO):Prop :=
 ∀(pins:List (Addr×Obj)) (s:Shared) (σ:St) (H:Hp) (Q:Option Int->Hp->Prop),Inv X pins σ H s->t σ H Q ->
  wpAny (model X.prog X.w) X.A (evalPart e X.env) (λu s'=>∃ o H',Inv X pins σ H' s'/\IsPart u o/\Q o H') X.xe s
def a4U:TO:=λ_ H Q=>Q none H
def a9J (t:TE):TO:=fun σ H Q=>t σ H λx H1=>∃ i,x=.int i/\Q (some i) H1
theorem R9 {ns:List Int}:∀ {us:List Value},C0 (ns.map V.int) us->IntsAre us ns:=by
 induction ns with
 | nil=>intro us r;rw[cz] at r;cases r;exact .nil
 | cons n ns ih =>
  intro us r;rw[ao] at r;cases r with
  | cons r1 r2 =>
   obtain⟨t,e⟩:=r1;subst e;exact .cons n t (ih r2)
section
variable {X:Cx}{e:Expr}{te:TE}{lo hi:Option Expr}{tl th:TO}{pos p2:Pos}
theorem a5q:PO X none a4U:=by
 intro pins s σ H Q I h;rw[evalPart_none];exact au ⟨none,H,I,.none,h⟩
theorem a5p (h:PE X e te):PO X (some e) (a9J te):=by
 intro pins s σ H Q I hw;rw[evalPart_some];refine thn (h pins s σ H _ I hw) λu s1 ⟨x,H1,I1,r1,q1⟩=>?_
 obtain⟨i,rfl,q⟩:=q1;obtain⟨t,rfl⟩:=r1;exact⟨some i,H1,I1,.int i t,q⟩
def SlR (X:Cx)(r:V->Option Int->Option Int->Hp->VK->Prop):Prop :=
 ∀(pins:List (Addr×Obj)) (s:Shared) (σ:St) (H:Hp) (x:V) (v vl vu:Value) (lo hi:Option Int) (sl:Addr) (Q:VK),Inv X pins σ H s->C6 x v->s.heap.IsSliceOf sl vl vu .none->IsPart vl lo->IsPart vu hi->r x lo hi H Q ->
  ∃ T id,typeLookup (.type T) "__getitem__"=pure (some (.builtin id))/\s.TypeIs v T/\wpAny (model X.prog X.w) X.A (getItem v (.ref sl)) (EP X pins σ Q) X.xe s
def tSl (r:V->Option Int->Option Int->Hp->VK->Prop)(te:TE)(tl th:TO):TE:=fun σ H Q=>te σ H λx H1=>tl σ H1 λl H2=>th σ H2 λu H3=>r x l u H3 Q
theorem a3F {r:V->Option Int->Option Int->Hp->VK->Prop}(hr:SlR X r)(he:PE X e te)(hl:PO X lo tl)(hu:PO X hi th):PE X (.Subscript e (.Slice lo hi none p2) pos) (tSl r te tl th):=by
 intro pins s σ H Q I h;refine Subscript_ (thn (he pins s σ H _ I h) λv s1 ⟨x,H1,I1,r1,q1⟩=>?_);refine wpAny_Slice (thn (hl pins s1 σ H1 _ I1 q1) λvl s2 ⟨l,H2,I2,pl,q2⟩=>thn (hu pins s2 σ H2 _ I2 q2) λvu s3 ⟨u,H3,I3,pu,q3⟩=>?_);rw[evalPart_none];refine au ?_;have I4:Inv X pins σ H3 {s3 with heap:=s3.heap.push {cls:=.type "slice",data:=.fields #[vl,vu,.none]}}:=I3.kept (t':=s3.toks) λb ob q=>ak _ q
 obtain⟨T,id,hT,ht,hg⟩:=hr pins {s3 with heap:=s3.heap.push {cls:=.type "slice",data:=.fields #[vl,vu,.none]}} σ H3 x v vl vu l u s3.heap.objs.size Q I4 r1 (Heap.IsSliceOf.new ..) pl pu q3;show wpAny (model X.prog X.w) X.A (subscriptTail e (.Slice lo hi none p2) v (.ref s3.heap.objs.size)) (EP X pins σ Q) X.xe {s3 with heap:=s3.heap.push {cls:=.type "slice",data:=.fields #[vl,vu,.none]}};exact tail_any (ops:=[.ref s3.heap.objs.size,v]) ht hT hg (by with_unfolding_all rfl)
def V3 (xs:List V)(lo hi:Option Int):List V:=(xs.drop (HT.sIx xs.length 0 lo)).take (HT.sIx xs.length xs.length hi-HT.sIx xs.length 0 lo)
theorem a0v (xs:List V)(lo hi:Option Int):(V3 xs lo hi).length<=xs.length:=by
 unfold V3;rw[aN,fV];omega
def b2t (K:ae):R2:=λx y H Q=>∃ a b ns ms,x=.ref a/\y=.ref b/\SqT K H a (ns.map V.int)/\SqT K H b (ms.map V.int)/\Q (.bl (HT.lexLt ns ms)) H
theorem b0T (hu:X.A.units<cLine):OpR X (compareOp .Lt) (b2t X.K):=by
 intro pins s σ H x y v u Q I rx ry h;obtain⟨a,b,ns,ms,rfl,rfl,ha,hb,q⟩:=h;cases rx;cases ry;obtain⟨its,r1,p1,_⟩:=I.tuple ha;obtain⟨its2,r2,p2,_⟩:=I.tuple hb;have i1:IntsAre its.toArray.toList ns:=R9 r1;have i2:IntsAre its2.toArray.toList ms:=R9 r2;exact HT.lt_tupInts p1 p2 i1 i2 hu ⟨.bl (HT.lexLt ns ms),H,I,rfl,q⟩
theorem C0.nil_iff {xs:List V}{us:List Value}(r:C0 xs us):us=[]↔xs=[]:=by
 cases r with
 | nil=>simp
 | cons _ _=>simp
end
end L2
namespace L2
open PySem PySem.Spec PyProof.Rows
def ixN (n:Nat)(i:Int):Option Nat:=if 0<=i then (if i<n then some i.toNat else none) else if -(n:Int)<=i then some (i+n).toNat else none
def atI {α:Type}(xs:List α)(i:Int):Option α:=(ixN xs.length i).bind λj=>xs[j]?
theorem a5E {n:Nat}{i:Int}{j:Nat}(h:ixN n i=some j):seqIndex? i n=some j/\j<n/\-(n:Int)<=i/\i<n:=by
 unfold ixN at h;by_cases h0:0<=i
 ·rw[if_pos h0] at h;by_cases h1:i<n
  ·rw[if_pos h1] at h;have e:i.toNat=j:=aG h;exact⟨by rw[seqIndex_of h0 h1,e],∅,∅,h1⟩
  ·rw[if_neg h1] at h;cases h
 ·rw[if_neg h0] at h;by_cases h1:-(n:Int)<=i
  ·rw[if_pos h1] at h;have e:(i+n).toNat=j:=aG h;exact⟨by rw[seqIndex_neg ∅ h1,e],∅,h1,∅⟩
  ·rw[if_neg h1] at h;cases h
theorem a5L {α:Type}{xs:List α}{i:Int}{v:α}(h:atI xs i=some v):∃ j,seqIndex? i xs.length=some j/\xs[j]?=some v/\j<xs.length/\-(xs.length:Int)<=i/\i<xs.length:=by
 unfold atI at h;cases e:ixN xs.length i with
 | none=>rw[e] at h;cases h
 | some j =>
  rw[e] at h;obtain⟨h1,h2,h3,h4⟩:=a5E e;exact⟨j,h1,h,h2,h3,h4⟩
theorem V9 {α:Type}{xs:List α}{j:Nat}{v:α}(h:xs[j]?=some v):atI xs (j:Int)=some v:=by
 have hj:j<xs.length:=(ap.mp h).1;have e:ixN xs.length (j:Int)=some j:=by
  unfold ixN;rw[if_pos ∅,if_pos ∅];simp
 unfold atI;rw[e];exact h
theorem a8p {α:Type}(xs:List α)(v:α):atI (xs++[v]) (-1)=some v:=by
 have hl:(xs++[v]).length=xs.length+1:=by simp
 have e:ixN (xs++[v]).length (-1)=some xs.length:=by
  unfold ixN;rw[hl,if_neg (by decide),if_pos ∅];congr 1;omega
 unfold atI;rw[e];show (xs++[v])[xs.length]?=some v;simp
def a9E (b:Expr):Prop:=∀ o i,subscripted b false o i=operate [o,i] (getItem o i)
def IxR (X:Cx)(r:R2):Prop :=
 ∀(value slice:Expr) (pins:List (Addr×Obj)) (s:Shared) (σ:St) (H:Hp) (x y:V) (v u:Value) (Q:VK),Inv X pins σ H s->C6 x v->C6 y u->r x y H Q ->
  subscripted slice false v u=operate [v,u] (getItem v u)->wpAny (model X.prog X.w) X.A (subscriptTail value slice v u) (EP X pins σ Q) X.xe s
def MtR (X:Cx)(id:String)(r:V->List V->Hp->VK->Prop):Prop :=
 ∀(pins:List (Addr×Obj)) (s:Shared) (σ:St) (H:Hp) (x:V) (xs:List V) (v:Value) (us:List Value) (Q:VK),Inv X pins σ H s->C6 x v->C0 xs us->r x xs H Q ->
  wpAny (model X.prog X.w) X.A (call (.builtin id) (v::us)) (EP X pins σ Q) X.xe s
section
variable {X:Cx}{a b:Expr}{ta tb:TE}{pos:Pos}
theorem E4 {r:R2}(hr:IxR X r)(ha:PE X a ta)(hb:PE X b tb)(hs:a9E b):PE X (.Subscript a b pos) (tOp r ta tb):=by
 intro pins s σ H Q I h;exact Subscript_ (b1G ha hb I h λv u s2 x y H2 I2 rx ry q=>hr a b pins s2 σ H2 x y v u Q I2 rx ry q (hs _ _))
def a8I (K:ae):R2:=λx y H Q=>∃ p xs i v,x=.ref p/\y=.int i/\SqL K H p xs/\atI xs i=some v/\Q v H
def a8H (K:ae):R2:=λx y H Q=>∃ p xs i v,x=.ref p/\y=.int i/\SqT K H p xs/\atI xs i=some v/\Q v H
theorem a9m:IxR X (a8I X.K):=by
 intro value slice pins s σ H x y v u Q I rx ry h hs;obtain⟨p,xs,i,z,rfl,rfl,hq,he,q⟩:=h;cases rx;obtain⟨t,rfl⟩:=ry;obtain⟨its,r,pl,hz⟩:=I.list hq;obtain⟨j,h1,h2,h3,h4,h5⟩:=a5L he;obtain⟨w,ew,rw'⟩:=r.get h2;have hl:=r.length;have hn:=a1e;have fin:EP X pins σ Q w s:=⟨z,H,I,rw',q⟩
 by_cases h0:0<=i
 ·have hj:i.toNat=j:=by
   rw[seqIndex_of h0 h5] at h1;exact aG h1
  exact item_listR pl.isList h0 ∅ (by rw[hj];simpa using ew) fin hs
 ·have hj:(i+(its.toArray.size:Int)).toNat=j:=by
   rw[seqIndex_neg ∅ h4] at h1;rw[aA,<- hl];exact aG h1
  exact subscriptTail_builtinR (x:=w) pl.isList.typeIs jb.lookup
   (wpAny_getItem_list_neg (Q:=λr s'=>r=w/\EP X pins σ Q r s') pl.isList ∅ (by rw[aA]<;>omega) ∅ (by rw[hj];simpa using ew) ⟨rfl,fin⟩) hs
theorem b1e:IxR X (a8H X.K):=by
 intro value slice pins s σ H x y v u Q I rx ry h hs;obtain⟨p,xs,i,z,rfl,rfl,hq,he,q⟩:=h;cases rx;obtain⟨t,rfl⟩:=ry;obtain⟨its,r,pl,hz⟩:=I.tuple hq;obtain⟨j,h1,h2,h3,h4,h5⟩:=a5L he;obtain⟨w,ew,rw'⟩:=r.get h2;have hl:=r.length;have hn:=a1e;have fin:EP X pins σ Q w s:=⟨z,H,I,rw',q⟩
 exact subscriptTail_builtinR (x:=w) pl.typeIs slot_tuple_getitem.lookup
  (getItem_tuple (j:=j) (Q:=λr s'=>r=w/\EP X pins σ Q r s') pl ∅ ∅ (by rw[aA,<- hl];exact h1) (~~~ew) ⟨rfl,fin⟩) hs
theorem a4y (its:List Value)(n j:Nat)(u:Value):Obj.mapSeq (·.setIfInBounds j u) {cls:=.type "list",data:=.seq its.toArray n}={cls:=.type "list",data:=.seq (its.set j u).toArray n}:=by
 simp[Obj.mapSeq]
theorem Inv.lst {pins:List (Addr×Obj)}{σ:St}{H:Hp}{s:Shared}{p:Addr}{xs:List V}(I:Inv X pins σ H s)(h:H p=some (.lst xs)) :
  ∃(its:List Value) (n:Nat),C0 xs its/\s.heap.get? p=some {cls:=.type "list",data:=.seq its.toArray n}/\xs.length<=sizeLine:=by
 obtain⟨z,its,n,r,e⟩:=I.hok p _ h;exact⟨its,n,r,e,z⟩
theorem Inv.lstUpd {pins:List (Addr×Obj)}{σ:St}{H:Hp}{s:Shared}{p:Addr}{xs ys:List V}{its its':List Value}{n n':Nat}{f:Obj->Obj}(I:Inv X pins σ H s)(h:H p=some (.lst xs))
  (ho:s.heap.get? p=some {cls:=.type "list",data:=.seq its.toArray n}) (hf:f {cls:=.type "list",data:=.seq its.toArray n}={cls:=.type "list",data:=.seq its'.toArray n'}) (r:C0 ys its') (hz:ys.length<=sizeLine) (t:Nat) :
  Inv X pins σ (upd H p (.lst ys)) {s with heap:=s.heap.update p f,toks:=t}:=by
 have e:(s.heap.update p f).get? p=some {cls:=.type "list",data:=.seq its'.toArray n'}:=by
  rw[fk f ho (by rw[hf]<;>rfl),hf]
 refine I.write (x:=p) (e:=p) (by rw[h];trivial) (.inl rfl) (λb u hb q=>(fb _ _ (eN hb)).trans q) ⟨_,e⟩ ?_;exact⟨hz,its',n',r,e⟩
def a9T:V->V->V->Hp->(Hp->Prop)->Prop:=λo i v H Q=>∃ p xs k j,o=.ref p/\i=.int k/\H p=some (.lst xs)/\ixN xs.length k=some j/\Q (upd H p (.lst (xs.set j v)))
theorem a6Q:b2T X a9T:=by
 intro pins s σ H o i v ov iv u Q I ro ri rv h;obtain⟨p,xs,k,j,rfl,rfl,hp,hj,q⟩:=h;cases ro;obtain⟨t,rfl⟩:=ri;obtain⟨its,n,r,ho,hz⟩:=I.lst hp;obtain⟨h1,h2,h3,h4⟩:=a5E hj;have hl:=r.length;have hn:=a1e;have I':Inv X pins σ (upd H p (.lst (xs.set j v))) {s with heap:=s.heap.update p (Obj.mapSeq (·.setIfInBounds j u))} :=
  I.lstUpd hp ho (a4y its n j u) (r.set rv j) (by rw[dC];exact hz) s.toks
 by_cases h0:0<=k
 ·have hk:k.toNat=j:=by
   rw[seqIndex_of h0 h4] at h1;exact aG h1
  exact PySem.W.ki_setAt ho h0 ∅ (by rw[aA,<- hl];exact h4) (by rw[hk];exact⟨_,I',q⟩)
 ·have hk:(k+(its.toArray.size:Int)).toNat=j:=by
   rw[seqIndex_neg ∅ h3] at h1;rw[aA,<- hl];exact aG h1
  exact PySem.W.ki_setBack ho ∅ (by rw[aA,<- hl];exact h3) ∅ (by rw[hk];exact⟨_,I',q⟩)
theorem a2r (lo hi:Option Int)(n:Nat):(sliceBounds lo hi none n).1=((HT.sIx n 0 lo:Nat):Int)/\(sliceBounds lo hi none n).2.1=((HT.sIx n n hi:Nat):Int)/\(sliceBounds lo hi none n).2.2=1:=by
 refine⟨?_,?_,rfl⟩
 ·cases lo with
  | none=>simp[sliceBounds,HT.sIx]
  | some i =>
   simp only[sliceBounds,HT.sIx,Option.getD_none,show (1:Int)>0 by decide,if_true];by_cases h:i<0
   ·simp only[h,if_true]<;>omega
   ·simp only[h,if_false]<;>omega
 ·cases hi with
  | none=>simp[sliceBounds,HT.sIx]
  | some i =>
   simp only[sliceBounds,HT.sIx,Option.getD_none,show (1:Int)>0 by decide,if_true];by_cases h:i<0
   ·simp only[h,if_true]<;>omega
   ·simp only[h,if_false]<;>omega
theorem a1v (its:List Value)(lo hi:Option Int):slicePick its.toArray lo hi none=((its.drop (HT.sIx its.length 0 lo)).take (HT.sIx its.length its.length hi-HT.sIx its.length 0 lo)).toArray:=by
 obtain⟨h1,h2,h3⟩:=a2r lo hi its.toArray.size;unfold slicePick;rw[h1,h2,h3];simp only[sliceRange_one,pick_run,aA]<;>rfl
def b2s (K:ae):V->Option Int->Option Int->Hp->VK->Prop:=λx lo hi H Q=>∃ a xs,x=.ref a/\SqL K H a xs/\∀ p,H p=none->Q (.ref p) (upd H p (.lst (V3 xs lo hi)))
theorem a8C:SlR X (b2s X.K):=by
 intro pins s σ H x v vl vu lo hi sl Q I rx hs pl pu h;obtain⟨a,xs,rfl,hx,q⟩:=h;cases rx;obtain⟨its,r,ht,hz⟩:=I.list hx;have hlen:=r.length;refine⟨"list",_,jb.lookup,ht.isList.typeIs,?_⟩;refine wpAny_getItem_list_slice ht.isList hs pl pu .none (by simp) ?_ (by rw[aA]<;>omega);rw[a1v,<- hlen];refine⟨.ref s.heap.objs.size,_,I.laid (t':=s.toks) (o:=.lst (V3 xs lo hi)) (λb ob q=>ak _ q) (aj _) ?_,rfl,q _ (I.hok.fresh (aj _))⟩;exact⟨ba (a0v xs lo hi) hz,_,0,(r.drop (HT.sIx xs.length 0 lo)).take (HT.sIx xs.length xs.length hi-HT.sIx xs.length 0 lo),aK _ rfl⟩
def W7:V->Bool
 | .non=>true
 | .bl _=>true
 | .int _=>true
 | .str _=>true
 | _=>false
def eqV:V->V->Bool
 | .non,.non=>true
 | .bl a,.bl b=>a == b
 | .bl a,.int b=>(if a then 1 else 0) == b
 | .int a,.bl b=>a == (if b then 1 else 0)
 | .int a,.int b=>a == b
 | .str a,.str b=>a == b
 | _,_=>false
theorem b1y {A:Around}{s:Shared}{y x:V}{u v:Value}(ry:C6 y u)(rx:C6 x v)(fy:W7 y=true)(fx:W7 x=true):iH A s u v (eqV y x):=by
 cases y with
 | non =>
  cases ry;cases x with
  | non=>cases rx;exact SeqAt.EqAt.same _
  | bl b=>cases rx;exact SeqAt.EqAt.none_bool b
  | int b=>obtain⟨t,rfl⟩:=rx;exact SeqAt.EqAt.none_int b t
  | str b=>obtain⟨t,rfl⟩:=rx;exact SeqAt.EqAt.none_str b t
  | _=>exact absurd (show false=true from fx) aJ
 | bl a =>
  cases ry;cases x with
  | non=>cases rx;exact SeqAt.EqAt.bool_none a
  | bl b=>cases rx;exact SeqAt.EqAt.bool_bool a b
  | int b=>obtain⟨t,rfl⟩:=rx;exact SeqAt.EqAt.bool_int a b t
  | str b=>obtain⟨t,rfl⟩:=rx;exact SeqAt.EqAt.bool_str a b t
  | _=>exact absurd (show false=true from fx) aJ
 | int a =>
  obtain⟨t',rfl⟩:=ry;cases x with
  | non=>cases rx;exact SeqAt.EqAt.int_none a t'
  | bl b=>cases rx;exact SeqAt.EqAt.int_bool a t' b
  | int b=>obtain⟨t,rfl⟩:=rx;exact gO a t' b t
  | str b=>obtain⟨t,rfl⟩:=rx;exact gN a t' b t
  | _=>exact absurd (show false=true from fx) aJ
 | str a =>
  obtain⟨t',rfl⟩:=ry;cases x with
  | non=>cases rx;exact SeqAt.EqAt.str_none a t'
  | bl b=>cases rx;exact SeqAt.EqAt.str_bool a t' b
  | int b=>obtain⟨t,rfl⟩:=rx;exact gM a t' b t
  | str b=>obtain⟨t,rfl⟩:=rx;exact SeqAt.EqAt.str_str a t' b t
  | _=>exact absurd (show false=true from fx) aJ
 | _=>exact absurd (show false=true from fy) aJ
def eqU (x:V)(u:Value):Bool:=match u with
 | .none=>eqV .non x
 | .bool b=>eqV (.bl b) x
 | .int i _=>eqV (.int i) x
 | .str z _=>eqV (.str z) x
 | _=>false
theorem a8c {x y:V}{u:Value}(r:C6 y u)(f:W7 y=true):eqU x u=eqV y x:=by
 cases y with
 | non=>cases r;rfl
 | bl b=>cases r;rfl
 | int i=>obtain⟨t,rfl⟩:=r;rfl
 | str z=>obtain⟨t,rfl⟩:=r;rfl
 | _=>exact absurd (show false=true from f) aJ
theorem Z0 {x:V}:∀ {xs:List V} {us:List Value},C0 xs us->xs.all W7=true->us.any (eqU x)=xs.any λy=>eqV y x
 | _,_,.nil,_=>rfl
 | y::xs,u::us,.cons r t,f=>by
  rw[List.all_cons,bU] at f;rw[dE,dE,a8c r f.1,Z0 t f.2]
theorem U9 {A:Around}{s:Shared}{x:V}{v:Value}(rx:C6 x v)(fx:W7 x=true):∀ {xs:List V} {us:List Value},C0 xs us->xs.all W7=true->∀ u∈us,iH A s u v (eqU x u)
 | _,_,.nil,_=>λu hu=>by cases hu
 | y::xs,u::us,.cons r t,f=>λu' hu=>by
  rw[List.all_cons,bU] at f;rcases aW.mp hu with rfl | hu
  ·rw[a8c r f.1];exact b1y r rx f.1 fx
  ·exact U9 rx fx t f.2 u' hu
def inV (x:V)(xs:List V):Bool:=xs.any λy=>eqV y x
def rIn (K:ae)(neg:Bool):R2:=λx y H Q=>∃ p xs,y=.ref p/\(SqL K H p xs\/SqT K H p xs)/\W7 x=true/\xs.all W7=true/\Q (.bl (if neg then !inV x xs else inV x xs)) H
theorem a5S:OpR X (compareOp .In) (rIn X.K false):=by
 intro pins s σ H x y v u Q I rx ry h;obtain⟨p,xs,rfl,hq,fx,fs,q⟩:=h;cases ry;rcases hq with hq | hq
 ·obtain⟨its,r,pl,hz⟩:=I.list hq;refine SeqAt.in_listAt (eqU x) pl.isList (λw hw=>U9 rx fx r fs w (~~~hw)) ⟨.bl _,H,I,rfl,?_⟩;rw[show its.toArray.any (eqU x)=its.any (eqU x) by simp,Z0 r fs];exact q
 ·obtain⟨its,r,pl,hz⟩:=I.tuple hq;refine SeqAt.in_tupleAt (eqU x) pl (λw hw=>U9 rx fx r fs w (~~~hw)) ⟨.bl _,H,I,rfl,?_⟩;rw[show its.toArray.any (eqU x)=its.any (eqU x) by simp,Z0 r fs];exact q
theorem a2B:OpR X (compareOp .NotIn) (rIn X.K true):=by
 intro pins s σ H x y v u Q I rx ry h;obtain⟨p,xs,rfl,hq,fx,fs,q⟩:=h;cases ry;rcases hq with hq | hq
 ·obtain⟨its,r,pl,hz⟩:=I.list hq;refine SeqAt.notIn_listAt (eqU x) pl.isList (λw hw=>U9 rx fx r fs w (~~~hw)) ⟨.bl _,H,I,rfl,?_⟩;rw[show its.toArray.any (eqU x)=its.any (eqU x) by simp,Z0 r fs];exact q
 ·obtain⟨its,r,pl,hz⟩:=I.tuple hq;refine SeqAt.notIn_tupleAt (eqU x) pl (λw hw=>U9 rx fx r fs w (~~~hw)) ⟨.bl _,H,I,rfl,?_⟩;rw[show its.toArray.any (eqU x)=its.any (eqU x) by simp,Z0 r fs];exact q
theorem a2U:L0 X (.builtin "len") (λxs H Q=>∃ p ys,xs=[.ref p]/\(SqL X.K H p ys\/SqT X.K H p ys)/\Q (.int ys.length) H):=by
 intro pins s σ H xs us Q I r h;obtain⟨p,ys,rfl,hq,q⟩:=h;obtain⟨u,rfl,rx⟩:=S5 r;cases rx;have hn:=a1e;rcases hq with hq | hq
 ·obtain⟨its,r',pl,hz⟩:=I.list hq;have hlen:=r'.length;exact Calls.call_len_list pl.isList (by simp only[aA]<;>omega) ⟨.int ys.length,H,I.tok _,⟨s.toks+1,by rw[aA,hlen]⟩,q⟩
 ·obtain⟨its,r',pl,hz⟩:=I.tuple hq;have hlen:=r'.length;exact len_tuple pl (by simp only[aA]<;>omega) ⟨.int ys.length,H,I.tok _,⟨s.toks+1,by rw[aA,hlen]⟩,q⟩
theorem a2T:L0 X (.type "list") (λxs H Q=>∃ p ys,xs=[.ref p]/\(SqL X.K H p ys\/SqT X.K H p ys)/\∀ l,H l=none->Q (.ref l) (upd H l (.lst ys))):=by
 intro pins s σ H xs us Q I r h;obtain⟨p,ys,rfl,hq,q⟩:=h;obtain⟨u,rfl,rx⟩:=S5 r;cases rx;have fin:∀(its:List Value),C0 ys its->ys.length<=sizeLine->∀(h':Heap) (c':Nat),(∀ b o',s.heap.get? b=some o'->h'.get? b=some o') ->
   h'.get? s.heap.objs.size=some {cls:=.type "list",dict:=none,data:=.seq its.toArray c',slots:=#[]}->EP X pins σ Q (.ref s.heap.objs.size) {s with heap:=h'}:=λits r' hz h' c' kp e =>
  ⟨.ref s.heap.objs.size,_,I.laid (t':=s.toks) kp (aj _) (show J1 X.prog X.w _ h' _ (.lst ys) from ⟨hz,its,c',r',e⟩),rfl,q _ (I.hok.fresh (aj _))⟩
 rcases hq with hq | hq
 ·obtain⟨its,r',pl,hz⟩:=I.list hq;have hlen:=r'.length;obtain⟨o,ho,hc,n,hd⟩:=pl.isList;exact call_list_seq p (.inl rfl) ho hc hd (λh' c' kp e=>fin its r' hz h' c' kp e) (by simp only[aA]<;>omega)
 ·obtain⟨its,r',pl,hz⟩:=I.tuple hq;have hlen:=r'.length;obtain⟨o,ho,hc,n,hd⟩:=pl;exact call_list_seq p (.inr rfl) ho hc hd (λh' c' kp e=>fin its r' hz h' c' kp e) (by simp only[aA]<;>omega)
theorem a1A:L0 X (.type "tuple") (λxs H Q=>∃ p ys,xs=[.ref p]/\((SqL X.K H p ys/\∀ l,H l=none->Q (.ref l) (upd H l (.tup ys)))\/(SqT X.K H p ys/\Q (.ref p) H))):=by
 intro pins s σ H xs us Q I r h;obtain⟨p,ys,rfl,h⟩:=h;obtain⟨u,rfl,rx⟩:=S5 r;cases rx;rcases h with ⟨hq,q⟩ | ⟨hq,q⟩
 ·obtain⟨its,r',pl,hz⟩:=I.list hq;have hlen:=r'.length;refine call_tuple_list pl.isList (λh' kp=>?_) (by simp only[aA]<;>omega);have I1:Inv X pins σ H {s with heap:=h'}:=I.kept (t':=s.toks) kp;have I2:Inv X pins σ (upd H h'.objs.size (.tup ys)) {s with heap:=h'.push {cls:=.type "tuple",data:=.seq its.toArray}} :=
   I1.laid (t':=s.toks) (λb o e=>ak _ e) (aj _) (show J1 X.prog X.w _ _ _ (.tup ys) from ⟨hz,its,r',IsTup.new _ _⟩)
  exact⟨.ref h'.objs.size,_,I2,rfl,q _ (I1.hok.fresh (aj _))⟩
 ·obtain⟨its,r',pl,hz⟩:=I.tuple hq;exact call_tuple_same pl ⟨.ref p,H,I,rfl,q⟩
def tyV (K:ae)(T:String)(x:V)(H:Hp):Prop:=match x with
 | .str _=>T="str"
 | .int _=>T="int"
 | .ref p=>(T="list"/\∃ xs,SqL K H p xs)\/(T="tuple"/\∃ o,K.lookup p=some o/\o.cls=.type "tuple"/\o.dict=none) \/
   (T="dict"/\((∃ kvs,H p=some (.dK kvs))\/∃ kvs,H p=some (.dT kvs)))\/(T="set"/\∃ S n,H p=some (.set S n))
 | _=>False
theorem a6B {pins:List (Addr×Obj)}{σ:St}{H:Hp}{s:Shared}{T:String}{x:V}{v:Value}(I:Inv X pins σ H s)(r:C6 x v)(ty:tyV X.K T x H) :
  s.TypeIs v T/\∀ a,v=.ref a->∃ ob,s.heap.get? a=some ob/\ob.dict=none:=by
 cases x with
 | str z =>
  obtain⟨t,rfl⟩:=r;cases (show T="str" from ty);exact⟨typeIs_str s z t,λ_ e=>nomatch e⟩
 | int i =>
  obtain⟨t,rfl⟩:=r;cases (show T="int" from ty);exact⟨typeIs_int s i t,λ_ e=>nomatch e⟩
 | ref p =>
  cases r;rcases ty with ⟨rfl,xs,hq⟩ | ⟨rfl,o,hk,hc,hd⟩ | ⟨rfl,hk⟩ | ⟨rfl,S,n,hk⟩
  ·obtain⟨its,_,pl,_⟩:=I.list hq;refine⟨pl.isList.typeIs,λa e=>?_⟩;cases e;obtain⟨o,n,e,c,hd,_⟩:=pl;exact⟨o,e,hd⟩
  ·refine⟨⟨o,I.kIn p o hk,hc⟩,λa e=>?_⟩;cases e;exact⟨o,I.kIn _ o hk,hd⟩
  ·have z:∃ o,s.heap.get? p=some o/\o.ExactDict:=by
    rcases hk with ⟨kvs,hk⟩ | ⟨kvs,hk⟩
    ·obtain⟨_,_,_,_,o,_,_,e,ex,_⟩:=I.hok p _ hk;exact⟨o,e,ex⟩
    ·obtain⟨_,_,_,_,o,_,_,e,ex,_⟩:=I.hok p _ hk;exact⟨o,e,ex⟩
   obtain⟨o,e,ex⟩:=z;refine⟨⟨o,e,ex.1⟩,λa e2=>?_⟩;cases e2;exact⟨o,e,ex.2.1⟩
  ·obtain⟨o,_,_,_,e,ex,_⟩:=I.hok p _ hk;refine⟨⟨o,e,ex.1⟩,λa e2=>?_⟩;cases e2;exact⟨o,e,ex.2.1⟩
 | _=>exact cJ ty
def b0A (K:ae)(T:String)(r:V->List V->Hp->VK->Prop)(to:TE):TE:=fun σ H Q=>to σ H λx H1=>tyV K T x H1/\r x [] H1 Q
def tBM (K:ae)(T:String)(r:V->List V->Hp->VK->Prop)(to:TE)(t:TA):TE:=fun σ H Q=>to σ H λx H1=>tyV K T x H1/\t σ H1 λxs H2=>r x xs H2 Q
variable {o e:Expr}{es:List Expr}{to:TE}{t:TA}{name:Str}{apos cpos:Pos}{T id:String}{r:V->List V->Hp->VK->Prop}
theorem b0O (pa:PlainAttrs T)(slot:Slot T name id)(hty:typeOf (.builtin id)=pure (.type "method_descriptor"))(hm:MtR X id r)(ho:PE X o to)
  (hbase:attributeBase o name X.env (eval o X.env)=eval o X.env:=by rfl) (hline:(apos.endLine == cpos.line)=true:=by rfl):PE X (.Call (.Attribute o name apos) [] [] cpos) (b0A X.K T r to):=by
 intro pins s σ H Q I h;refine wpAny_Call_method0_late hbase hline (thn (ho pins s σ H _ I h) λv s1 ⟨x,H1,I1,r1,ty,q1⟩=>?_);obtain⟨h1,h2⟩:=a6B I1 r1 ty;exact⟨T,id,pa,slot,hty,h1,h2,eV rfl (PySem.evalArgs_none (hm pins s1 σ H1 x [] v [] Q I1 r1 .nil q1))⟩
theorem a5s (pa:PlainAttrs T)(slot:Slot T name id)(hty:typeOf (.builtin id)=pure (.type "method_descriptor"))(hm:MtR X id r)(ho:PE X o to)(ha:PA X (e::es) t)
  (hbase:attributeBase o name X.env (eval o X.env)=eval o X.env:=by rfl)
  (hfew:((backTo cpos (starEach (e::es) X.env)).all (λx=>!x.1) && (backToKw cpos (keywordEach [] X.env)).all (λx=>x.1.isSome)
   && decide ((e::es).length+([]:List Keyword).length+(if ([]:List Keyword).isEmpty then 0 else 1)<30))=true:=by rfl)
  (hline:(apos.endLine == cpos.line)=true:=by rfl) (hs:starEach (e::es) X.env=(false,eval e X.env)::starEach es X.env:=by rfl) (hplain:(backTo cpos (starEach es X.env)).any (·.1)=false:=by rfl) :
  PE X (.Call (.Attribute o name apos) (e::es) [] cpos) (tBM X.K T r to t):=by
 intro pins s σ H Q I h;refine wpAny_Call_method_late hbase hfew hline rfl (thn (ho pins s σ H _ I h) λv s1 ⟨x,H1,I1,r1,ty,q1⟩=>?_);obtain⟨h1,h2⟩:=a6B I1 r1 ty;refine⟨T,id,pa,slot,hty,h1,h2,?_⟩;have hA:=ha cpos pins s1 σ H1 _ I1 q1;rw[hs] at hA ⊢;refine eV (by show (false || (backTo cpos (starEach es X.env)).any (·.1))=false;rw[hplain]<;>rfl) (h7 ?_);exact thn hA λus s2 ⟨vs,H2,I2,r2,q2⟩=>hm pins s2 σ H2 x vs v us Q I2 r1 r2 q2
/- xs.append(e),list.index on a module's tuple .. are MtR facts of 06m -/
end
end L2
namespace L2
open PySem PySem.Spec PyProof.Rows
def MtM (X:Cx)(id:String)(r:V->List V->Hp->VK->Prop):Prop :=
 ∀(pins:List (Addr×Obj)) (s:Shared) (σ:St) (H:Hp) (x:V) (xs:List V) (v:Value) (us:List Value) (Q:VK),Inv X pins σ H s->C6 x v->C0 xs us->r x xs H Q ->
  wpAny (model X.prog X.w) X.A (call (.builtin id) (v::us)) (EP X pins σ Q) X.xe s
theorem C0.one:∀ {x:V} {us:List Value},C0 [x] us->∃ u,us=[u]/\C6 x u
 | _,_,.cons r .nil=>⟨_,rfl,r⟩
theorem C0.zero:∀ {us:List Value},C0 [] us->us=[]
 | _,.nil=>rfl
theorem C0.dropLast {xs:List V}{us:List Value}(h:C0 xs us):C0 xs.dropLast us.dropLast:=by
 induction h with
 | nil=>exact .nil
 | cons r t ih =>
  cases t with
  | nil=>exact .nil
  | cons q t'=>exact .cons r ih
theorem C0.eraseIdx:∀ {xs:List V} {us:List Value} (i:Nat),C0 xs us->C0 (xs.eraseIdx i) (us.eraseIdx i)
 | _,_,_,.nil=>.nil
 | _,_,0,.cons _ t=>t
 | _,_,i+1,.cons r t=>.cons r (C0.eraseIdx i t)
theorem C0.reverse {xs:List V}{us:List Value}(h:C0 xs us):C0 xs.reverse us.reverse:=by
 induction h with
 | nil=>exact .nil
 | cons r t ih=>rw[dL,dL];exact C0.append ih (.cons r .nil)
theorem C0.rep {xs:List V}{us:List Value}(h:C0 xs us):∀ k:Nat,C0 (List.replicate k xs).flatten (List.replicate k us).flatten
 | 0=>.nil
 | k+1=>by
  rw[du,du,cW,cW];exact C0.append h (C0.rep h k)
theorem a4I {α:Type}(l:List α):l.eraseIdx (l.length-1)=l.dropLast:=by
 induction l with
 | nil=>rfl
 | cons a r ih =>
  cases r with
  | nil=>rfl
  | cons b r =>
   have e:(a::b::r).length-1=((b::r).length-1)+1:=by
    have h1:(a::b::r).length=r.length+2:=rfl;have h2:(b::r).length=r.length+1:=rfl;omega
   rw[e,List.eraseIdx_cons_succ,ih];all_goals rfl
theorem a2e (its:List Value):∀(k:Nat) (acc:List Value),
  iO (λx1 x2=>x1++x2) acc.toArray (List.replicate k its.toArray)=(acc++(List.replicate k its).flatten).toArray
 | 0,acc=>by simp
 | k+1,acc=>by
  have e:acc.toArray++its.toArray=(acc++its).toArray:=by simp
  have e2:(acc++its)++(List.replicate k its).flatten=acc++(List.replicate (k+1) its).flatten:=by
   rw[du,cW,aZ]
  rw[<- e2,<- a2e its k (acc++its),<- e,du,cS]
section
variable {X:Cx}{pins:List (Addr×Obj)}{σ:St}{H:Hp}{s:Shared}{l b:Addr}{xs ys zs:List V}
theorem Inv.lset {its its':List Value}{n:Nat}{f:Array Value->Array Value}{t':Nat}(I:Inv X pins σ H s)(hH:H l=some (.lst xs))
  (e:s.heap.get? l=some {cls:=.type "list",data:=.seq its.toArray n}) (hf:f its.toArray=its'.toArray) (hv:C0 ys its') (hz:ys.length<=sizeLine) :
  Inv X pins σ (upd H l (.lst ys)) {s with heap:=s.heap.update l (Obj.mapSeq f),toks:=t'}:=by
 have q:=PySem.IsL.update e f;rw[hf] at q;refine I.write (x:=l) (e:=l) (by rw[hH];exact trivial) (.inl rfl) (λb' u hb hu=>(fb s.heap (Obj.mapSeq f) (eN hb)).trans hu) ⟨_,q⟩ ?_;exact⟨hz,its',_,hv,q⟩
theorem Inv.lnew {its:List Value}{t':Nat}(I:Inv X pins σ H s)(hv:C0 ys its)(hz:ys.length<=sizeLine) :
  Inv X pins σ (upd H s.heap.objs.size (.lst ys)) {s with heap:=s.heap.push {cls:=.type "list",data:=.seq its.toArray},toks:=t'} :=
 I.laid (λ_ _ q=>ak _ q) (aj _) ⟨hz,its,0,hv,aK _ rfl⟩
theorem Inv.fresh (I:Inv X pins σ H s):H s.heap.objs.size=none:=I.hok.fresh (aj _)
theorem Inv.lstM (I:Inv X pins σ H s)(hH:H l=some (.lst xs)):xs.length<=sizeLine/\∃(its:List Value) (n:Nat),C0 xs its/\xs.length=its.length/\s.heap.get? l=some {cls:=.type "list",data:=.seq its.toArray n}:=by
 obtain⟨z,its,n,r,e⟩:=I.hok l _ hH;exact⟨z,its,n,r,r.length,e⟩
theorem a3M {n:Nat}(h:n<=sizeLine):Builtin.List.listTooLong n=false:=by
 unfold Builtin.List.listTooLong;exact decide_eq_false ∅
end
section
variable {X:Cx}
def a2t:V->List V->Hp->VK->Prop:=λx vs H Q=>∃ l xs y,x=.ref l/\vs=[y]/\H l=some (.lst xs)/\xs.length<sizeLine/\Q .non (upd H l (.lst (xs++[y])))
theorem a1W:MtM X "list.append" a2t:=by
 intro pins s σ H x vs v us Q I rx rv h;obtain⟨l,xs,y,rfl,rfl,hH,hz,q⟩:=h;cases rx;obtain⟨u,rfl,ru⟩:=rv.one;obtain⟨z,its,n,r,hl,e⟩:=I.lstM hH;refine eD F.slot_list_append ⟨_,e,rfl⟩ F.entry_list_append (F.args_list_append_2 _ _) (PySem.list_append l its.toArray n u (by rw[aA];omega)) ⟨e,?_⟩;refine⟨.non,_,I.lset (its':=its++[u]) hH e (by simp) (r.append (.cons ru .nil)) ?_,rfl,q⟩;rw[aD,cQ];omega
def a8J:V->List V->Hp->VK->Prop:=λx vs H Q=>∃ l b xs zs,x=.ref l/\vs=[.ref b]/\H l=some (.lst xs)/\H b=some (.lst zs)/\xs.length+zs.length<=sizeLine/\Q .non (upd H l (.lst (xs++zs)))
theorem b1N:MtM X "list.extend" a8J:=by
 intro pins s σ H x vs v us Q I rx rv h;obtain⟨l,b,xs,zs,rfl,rfl,hH,hB,hz,q⟩:=h;cases rx;obtain⟨u,rfl,ru⟩:=rv.one;cases ru;obtain⟨z,its,n,r,hl,e⟩:=I.lstM hH;obtain⟨z2,its2,n2,r2,hl2,e2⟩:=I.lstM hB;have hsz:its.toArray.size+its2.toArray.size<=sizeLine:=by rw[aA,aA];omega
 have hlong:¬ (!its.toArray.isEmpty && Builtin.List.listTooLong (its.toArray.size+its2.toArray.size))=true:=by
  rw[a3M hsz,Bool.and_false];exact aJ
 refine eD F.slot_list_extend ⟨_,e,rfl⟩ F.entry_list_extend (F.args_list_extend_2 _ _)
  (AutoSeq1.list_extend_list_list_0 l its.toArray n b its2.toArray n2 hlong (by rw[aA];omega) ∅) ⟨e,e2,?_⟩
 refine⟨.non,_,I.lset (its':=its++its2) hH e (by simp) (r.append r2) ?_,rfl,q⟩;rw[aD];omega
def b0H:V->List V->Hp->VK->Prop:=λx vs H Q=>∃ l xs y,x=.ref l/\vs=[]/\H l=some (.lst xs)/\xs[xs.length-1]?=some y/\Q y (upd H l (.lst xs.dropLast))
theorem b0Y:MtM X "list.pop" b0H:=by
 intro pins s σ H x vs v us Q I rx rv h;obtain⟨l,xs,y,rfl,rfl,hH,hy,q⟩:=h;cases rx;have hus:=rv.zero;subst hus;obtain⟨z,its,n,r,hl,e⟩:=I.lstM hH;obtain⟨u,hu,ru⟩:=r.get hy;have hy':its.toArray[its.toArray.size-1]?=some u:=by
  show its.toArray[its.length-1]?=some u;rw[<- bi,<- hl];exact hu
 refine eD F.slot_list_pop ⟨_,e,rfl⟩ F.entry_list_pop (F.args_list_pop_1 _) (MeetsSeq.list_pop_last l its.toArray n u hy' (by rw[aA];omega)) ⟨e,?_⟩;refine⟨y,_,I.lset (its':=its.dropLast) hH e ?_ r.dropLast ?_,ru,q⟩
 ·show its.toArray.eraseIdxIfInBounds (its.toArray.size-1)=its.dropLast.toArray;rw[aA,List.eraseIdxIfInBounds_toArray,a4I]
 ·rw[ip];omega
def b3p:R2:=λx y H Q=>∃ l b xs zs,x=.ref l/\y=.ref b/\H l=some (.lst xs)/\H b=some (.lst zs)/\xs.length+zs.length<=sizeLine/\∀ p,H p=none->Q (.ref p) (upd H p (.lst (xs++zs)))
theorem b0U:OpR X (binaryOp .Add) b3p:=by
 intro pins s σ H x y v u Q I rx ry h;obtain⟨l,b,xs,zs,rfl,rfl,hH,hB,hz,q⟩:=h;cases rx;cases ry;obtain⟨z,its,n,r,hl,e⟩:=I.lstM hH;obtain⟨z2,its2,n2,r2,hl2,e2⟩:=I.lstM hB;refine PySem.P.add_list e e2 ?_ (by rw[aA,aA];omega);have ea:its.toArray++its2.toArray=(its++its2).toArray:=by simp
 rw[ea];exact⟨.ref _,_,I.lnew (t':=s.toks) (r.append r2) (by rw[aD];omega),rfl,q _ I.fresh⟩
def b3l:R2:=λx y H Q=>∃ l k xs,x=.ref l/\y=.int k/\H l=some (.lst xs)/\-(2 ^ 63)<=k/\k<2 ^ 63/\xs.length*k.toNat<=sizeLine /\
 ∀ p,H p=none->Q (.ref p) (upd H p (.lst (List.replicate k.toNat xs).flatten))
theorem a9k {α:Type}(xs:List α)(k:Nat):(List.replicate k xs).flatten.length=k*xs.length:=by
 induction k with
 | zero=>simp
 | succ k ih=>rw[du,cW,aD,ih,ii,Nat.add_comm]
theorem b0Q:OpR X (binaryOp .Mult) b3l:=by
 intro pins s σ H x y v u Q I rx ry h;obtain⟨l,k,xs,rfl,rfl,hH,h1,h2,hz,q⟩:=h;cases rx;obtain⟨t,rfl⟩:=ry;obtain⟨z,its,n,r,hl,e⟩:=I.lstM hH;have hlen:its.toArray.size*k.toNat<=sizeLine:=by rw[aA,<- hl];exact hz
 have hcap:¬ its.toArray.size*k.toNat>(2 ^ 63-1) / 8:=by
  have:(sizeLine:Nat)<=(2 ^ 63-1) / 8:=by decide
  omega
 have hfit:¬ (!Builtin.List.listFitsIndex k)=true:=by
  rw[fitsIndex_both h1 h2];exact aJ
 have hlong:¬ Builtin.List.listTooLong (its.toArray.size*k.toNat)=true:=by
  rw[a3M hlen];exact aJ
 have hnew:iO (λx1 x2=>x1++x2) #[] (List.replicate (if its.toArray.isEmpty=true then 0 else k.toNat) its.toArray)=(List.replicate k.toNat its).flatten.toArray:=by
  have f0:∀ m:Nat,iO (λx1 x2=>x1++x2) #[] (List.replicate m its.toArray)=(List.replicate m its).flatten.toArray:=λm=>by
   have:=a2e its m [];rw[cf] at this;exact this
  rw[f0];cases its with
  | nil=>simp
  | cons a r'=>rw[if_neg (by simp)]
 refine wpAny_binaryOp_repeat_ref (T:="list") (U:="int") (by decide) ⟨_,e,rfl⟩ (λs'=>typeIs_int s' k t) noFill_list_mul F.fills_int_mul F.slot_int_rmul repeat_list F.slot_int_index.lookup
  (eD F.slot_int_rmul (typeIs_int s k t) F.entry_int_rmul (F.args_int_rmul_2 _ _) (int___rmul___int_list k t l its.toArray n)
   ⟨e,rfl,⟨_,e,rfl⟩,eD F.slot_list_mul ⟨_,e,rfl⟩ F.entry_list_mul (F.args_list_mul_2 _ _) (AutoListH.list___mul___list_int_3 l its.toArray n k t hfit hcap hlong) ⟨e,?_⟩⟩)
 rw[hnew];exact⟨.ref _,_,I.lnew (t':=s.toks) (r.rep k.toNat) (by rw[a9k,Nat.mul_comm];exact hz),rfl,q _ I.fresh⟩
end
end L2
namespace Att
open PySem PySem.W PySem.Calls PyProof.Rows
theorem ints_of_wellAll {P:Params}{h:Heap}:∀(ns:List Int) (vs:List Value),WellAll P h vs (ns.map WData.int)->IntsAre vs ns:=by
 intro ns;induction ns with
 | nil =>
  intro vs w;rw[cz] at w;cases w;exact .nil
 | cons n ns ih =>
  intro vs w;rw[ao] at w;cases w with
  | cons a b =>
   cases a;exact .cons _ _ (ih _ b)
theorem script_of {l:OpenLaw}{n:Nat}(hn:l.most=some n){P:Params}{h:Heap}{args:List WData}{vals:List Value}
  (hpre:l.row.toRowW.claim.pre args=true) (hwl:WellAll P h vals args) :
  ∃ a vs ns,vals=[br a]/\args=[WData.list (ns.map WData.int)]/\h.get? a=some {cls:=.type "list",data:=.seq vs.toArray}/\IntsAre vs ns/\ns.length<=n:=by
 have hsh:WShape.hasAll [] args [.list .int]=true:=(pre_splitW hpre).1;have hc:l.pre.holds [] {args:=args}=true:=(pre_splitW hpre).2;obtain⟨d,r,rfl,h1,h2⟩:=hasAllW_cons hsh;obtain rfl:=hasAllW_nil h2;obtain⟨xs,rfl,h3⟩:=hasW_list h1;obtain⟨ns,rfl⟩:=items_int h3;have hlen:ns.length<=n:=by
  unfold OpenLaw.pre at hc;have h4:(WTm.not (.lt (.lit (.int (n:Int))) (.len (.arg 0)))).holds [] {args:=[.list (ns.map .int)]}=true:=by
   have h4:=(holds_andW hc).1;rw[hn] at h4;exact h4
  have h5:=condW_of h4 (w_not (w_lt w_lit (w_len_list (w_arg rfl))));rw[aa] at h5;refine Nat.le_of_not_lt λq=>?_
  have q':(n:Int)<((ns.length:Nat):Int):=∅
  first
   | (rw[decide_eq_true q'] at h5;exact absurd h5 (by decide))
   | (simp at h5;omega)
 cases hwl with
 | cons w1 w2 =>
  cases w2;cases w1 with
  | list ho hall=>exact⟨_,_,ns,rfl,rfl,ho,ints_of_wellAll ns _ hall,hlen⟩
theorem post_true (l:OpenLaw)(args:List WData):l.row.toRowW.claim.post args (.bool true) args=true :=
 postW_of (r:=l.row.toRowW) (X:=(true == true))
  (show WShape.has [] (.bool true) .bool=true by first | rfl | decide | simp[WShape.has,WShape.arms,WShape.armsAll])
  (show (WTm.eq .res (.lit (.bool true))).value [] {args:=args,res:=some (.bool true),after:=args}=some (.bool (true == true)) from w_eq_bool (w_res rfl) w_lit) rfl
theorem attach_call {l:OpenLaw}{n:Nat}{q:Program}{loose:List Str}{XP:(Str->Option Value)->Heap->Prop}{YP:World->Heap->Prop}{d:DefRec}
  (hn:l.most=some n) (hdf:d.params.defaults=[])
  (call:∀(w:World) (sj sv:Shared) (mg mb:Str->Option Value) (fa:Addr) (o:Obj) (pm cd doc:Value) (a:Addr) (vs:List Value) (ns:List Int),
   Ground q loose [] XP w sj mg mb sv.heap->YP w sv.heap ->
   sv.heap.get? fa=some o->o.data=.func (docDef d.name d.params d.body d.scope pm cd doc)->sv.heap.CodeRec cd d.name->mg d.name=some (.ref fa) ->
   sv.heap.get? a=some {cls:=.type "list",data:=.seq vs.toArray}->IntsAre vs ns->ns.length<=n->sv.gens=#[] ->
   codeAny (model l.prog w) callerA (.call (.ref fa) ⟨[.ref a],[]⟩) (λr s'=>r=.ok (.ret (.bool true))/\OldK sv.heap s'.heap/\s'.os=sv.os/\AllBare s'.gens) sv) :
  WalkO q loose XP YP l.row.toRowW d [] (λf vs=>iF f vs):=by
 intro w sj sv mg mb G Y fa o pm cd doc dV kV ho hd hcd hD hmg hg args vals as hpre hlay hrd hwl hlo;obtain rfl:dV=.none:=Dflts.none hD hdf;obtain rfl:kV=.none:=Dflts.noKw hD;obtain⟨a,vs,ns,rfl,rfl,hobj,hints,hlen⟩:=script_of hn hpre hwl;refine enter_call (codeAny_mono (call w sj sv mg mb fa o pm cd doc a vs ns G Y ho (fd_plain hd) hcd hmg hobj hints hlen hg) λr s' hq=>?_);obtain⟨rfl,h2,h3,h4⟩:=hq;exact⟨.inl ⟨.bool true,.bool true,[],rfl,λ_=>rfl,.bool true,post_true l _,λ_=>⟨List.Pairwise.nil,λ_ hm=>(nomatch hm)⟩⟩,h2,h3,h4⟩
end Att
namespace L2
open PySem PySem.Spec PyProof.Rows
theorem Z2:∀ {vs:List Value} {ns:List Int},IntsAre vs ns->C0 (ns.map V.int) vs
 | _,_,.nil=>.nil
 | _,_,.cons n t h=>.cons ⟨t,rfl⟩ (Z2 h)
def b1K (H:Hp):Prop:=∀ b,H b=none\/∃ o xs,H b=some (.frz o (.lst xs))
theorem a7G {P:Program}{w:World}{K:ae}{mg mb:Str->Option Value}{CX:CXT}{k:Nat}{fa a:Addr}{fd:FuncData}{x:Str}{sp:Sp}{sv:Shared}{vs:List Value}{ns:List Int}
  (KX:K.In sv.heap) (hns:sv.heap.Ns mainGlobals mg) (hb:sv.heap.Ns builtinsNs mb) (hbb:∀ x:Str,x≠"__name__"->mb x=bootBuiltins x) (hlim:sv.heap.NoLimit) (hg:sv.gens=#[])
  (ha:sv.heap.get? a=some {cls:=.type "list",data:=.seq vs.toArray}) (hi:IntsAre vs ns) (hl:ns.length<=sizeLine) (hr:P0 k callerA)
  (F:∀ base:Heap,K.In base->base.Ns mainGlobals mg->B8 P w K mg base CX k fa fd [x] sp) (hbind:∀(s:Shared) (u:Value),BindsTo s fd ⟨[u],[]⟩ [(x,u)])
  (hsp:∀ H:Hp,b1K H->SqL K H a (ns.map V.int)->sp [.ref a] H (λv _=>v=.bl true) λ_ _ _=>False)
  (hCX:∀ H e s',CX [] H sv (λ_ _ _=>False) e s'->False) :
  codeAny (model P w) callerA (.call (.ref fa) ⟨[.ref a],[]⟩) (λr s'=>r=.ok (.ret (.bool true))/\OldK sv.heap s'.heap/\s'.os=sv.os/\AllBare s'.gens) sv:=by
 have rv:=Z2 hi;have lenV:=hi.length;have core:∀ H:Hp,b1K H->SqL K H a (ns.map V.int)->HOk P w H sv.heap->(∀ b,H b≠none->b=a)->(H a≠none->K.lookup a=none) ->
   codeAny (model P w) callerA (.call (.ref fa) ⟨[.ref a],[]⟩) (λr s'=>r=.ok (.ret (.bool true))/\OldK sv.heap s'.heap/\s'.os=sv.os/\AllBare s'.gens) sv:=by
  intro H hO hS hok hA hK;have base_of:∀ {b:Addr} {o:Obj},sv.heap.get? b=some o->H b=none->(a2K sv.heap H).get? b=some o:=λe n=>a7W e n
  have noA:∀ {b:Addr} {o:Obj} {es:Array DictEntry} {ep:Nat},sv.heap.get? b=some o->o.data=.dict es ep->H b=none:=λ{b o es ep} e d=>by
   cases q:H b with
   | none=>rfl
   | some u =>
    have e':b=a:=hA b (by rw[q];simp);subst e';rw[ha] at e;cases e;have d':Data.seq vs.toArray _=gk es ep:=d;cases d'
  have nsK:∀ {b:Addr} {m:Str->Option Value},sv.heap.Ns b m->(a2K sv.heap H).Ns b m:=λ{b m} ⟨o,es,ep,e,d,r⟩=>⟨o,es,ep,base_of e (noA e d),d,r⟩
  have hKb:K.In (a2K sv.heap H):=λb o e=>base_of (KX b o e) (by
   cases q:H b with
   | none=>rfl
   | some u =>
    have e':b=a:=hA b (by rw[q];simp);subst e'
    rw[hK (by rw[q];simp)] at e;cases e)
  have hM:Mod K mg (a2K sv.heap H):=⟨hKb,nsK hns,⟨mb,nsK hb,hbb⟩,let ⟨mc,h1,h2⟩:=hlim;⟨mc,nsK h1,h2⟩⟩
  have e0:a4R P w K mg (a2K sv.heap H) callerA [] sv H:=⟨rfl,hM,λb o e=>a8Z e,ik (a6j _ _),trivial,λb hb=>absurd (show b∈([]:List Addr) from hb) (by simp),hok,.of_eq hg⟩
  refine codeAny_mono ((F _ hKb (nsK hns)).run callerA [] sv H ⟨[.ref a],[]⟩ [.ref a] [.ref a] _ _ hr e0 (hbind sv (.ref a)) (.cons rfl .nil) (hsp H hO hS)) λr s' h=>?_
  cases r with
  | error e=>exact (hCX H e s' h).elim
  | ok fl =>
   cases fl with
   | next=>exact cJ h
   | brk=>exact cJ h
   | cont=>exact cJ h
   | ret u =>
    obtain⟨v,H',os,bare,un,hok',r',q⟩:=h;have q':v=.bl true:=q;subst q';obtain rfl:u=aU true:=r';refine⟨rfl,OldK.of_keep λb o e=>?_,os,bare⟩;cases q:H b with
    | none=>exact un.keep b o e q (by intro z;exact absurd (show b∈([]:List Addr) from z) (by simp)) (by simp)
    | some u =>
     rcases hO b with z | ⟨ob,xs,z⟩
     ·rw[q] at z;cases z
     ·have z2:=un.frzs b ob _ z;obtain⟨e1,_⟩:=hok b _ z;obtain⟨e2,_⟩:=hok' b _ z2;rw[e] at e1;cases e1;exact e2
 cases hk:K.lookup a with
 | some o =>
  have e:=KX a o hk;rw[ha] at e;cases e;refine core (λ_=>none) (λ_=>.inl rfl) (.inr ⟨_,vs.toArray,_,hk,rfl,rfl,rfl,by rw[aA,lenV];exact hl, ~~~rv⟩) (λb u z=>by have z':(none:Option HO)=some u:=z;cases z') (λb z=>absurd rfl z) λz=>absurd rfl z
 | none =>
  refine core (λb=>if b=a then some (.frz {cls:=.type "list",data:=.seq vs.toArray} (.lst (ns.map V.int))) else none) (λb=>?_) (.inl (.inr ⟨{cls:=.type "list",data:=.seq vs.toArray},if_pos rfl⟩)) (λb u z=>?_) (λb z=>?_) λ_=>hk
  ·by_cases hb:b=a
   ·exact .inr ⟨_,_,if_pos hb⟩
   ·exact .inl (if_neg hb)
  ·by_cases hb:b=a
   ·have z':=(if_pos hb).symm.trans z;cases z';subst hb;exact⟨ha,by rw[aa];exact hl,vs,_,rv,ha⟩
   ·have z':=(if_neg hb).symm.trans z;cases z'
  ·by_cases hb:b=a
   ·exact hb
   ·exact absurd (if_neg hb) z
end L2
namespace L2
open PySem PySem.Spec PyProof.Rows
abbrev KOf {K:ae}{h:Heap}(_:K.In h):ae:=K
theorem a4S {l:fP}{n k:Nat}{q:Program}{loose:List Str}{XP:(Str->Option Value)->Heap->Prop}{YP:World->Heap->Prop}{d:DefRec}{K:Params->ae}{CX:World->CXT}{sp:World->Sp}{x:Str}
  (hn:l.most=some n) (hn2:n<=sizeLine) (hdf:d.params.defaults=[]) (hr:P0 k callerA)
  (hY:∀(w:World) (h:Heap),YP w h->(K w.params).In h)
  (F:∀(w:World) (mg:Str->Option Value) (fa:Addr) (h:Heap),(K w.params).In h->h.Ns mainGlobals mg->mg d.name=some (.ref fa) ->
   ∃ fd:FuncData,(∀(s:Shared) (u:Value),BindsTo s fd ⟨[u],[]⟩ [(x,u)]) /\
    ∀ base:Heap,(K w.params).In base->base.Ns mainGlobals mg->B8 l.prog w (K w.params) mg base (CX w) k fa fd [x] (sp w))
  (hsp:∀(w:World) (H:Hp) (a:Addr) (ns:List Int),ns.length<=n->b1K H->SqL (K w.params) H a (ns.map V.int)->sp w [.ref a] H (λv _=>v=.bl true) λ_ _ _=>False)
  (hCX:∀(w:World) (H:Hp) (s:Shared) (e:Value) (s':Shared),CX w [] H s (λ_ _ _=>False) e s'->False) :
  PySem.W.WalkO q loose XP YP l.row.toRowW d [] (λf vs=>iF f vs):=by
 refine Att.attach_call hn hdf λw sj sv mg mb fa o pm cd doc a vs ns G Y ho hd hcd hmg hobj hints hlen hg=>?_
 have KX:=hY w _ Y;obtain⟨fd,hb,hF⟩:=F w mg fa _ KX G.T.g hmg;exact a7G KX G.T.g G.T.b G.T.builtins G.T.nolimit hg hobj hints (ba hlen hn2) hr hF hb (λH hO hS=>hsp w H a ns hlen hO hS) λH e s'=>hCX w H sv e s'
end L2
/- THE LAST THEOREM (shape;LID,My.* are yours):
   My.Adr: a structure of the addresses that your layer names (classes,functions);My.Txt K t: a structure (Prop) of the equations over K;
   My.txt_mk:{K} {implicit addresses ..} (e1:nsIn K mainGlobals "law"=some (some (.ref f))) (e2:K.lookup f=some ⟨oc,od,.func (fnOf "law" "law" params body scope dV kV doc pm an cdv ct),sl⟩) (e3:codeIn K cdv "law"=true) ..:∃ t,My.Txt K t
set_option maxRecDepth 100000 in
set_option maxHeartbeats 0 in
theorem PySem.Challenge.cw_LID_holds : PySem.Challenge.rw_LID.Holds := by
 w_on;o_law;k_head;(case hw=>w_witness2)
 k_fill
 refine L2.a4S (l:=PySem.Challenge.rw_LID) (n:=63) (k:=40) (x:="script") (CX:=λw=>..) (sp:=λ_=>My.sp_law) rfl (by decide) rfl ⟨rfl,by decide,by decide⟩ (λw h Y=>PySem.W.kIn_of Y) ?F ?S ?C
 case F =>
  intro w mg fa h KX G hmg;have T:∃ t,My.Txt (L2.KOf KX) t:=by
   dsimp only[L2.KOf] -- K must stand as «<heap const> w.params» for k_is;refine' My.txt_mk ?e1 ?e2 ?e3 ..
   (case e1=>PySem.W.k_is) -- in the order: a name -> its address -> its object -> its parts
   (case e2=>PySem.W.k_is)
   ..
  obtain⟨t,T⟩:=T;have e0:=hmg.symm.trans (aI KX G T.law);cases e0 -- fa is the law's own address;exact⟨_,λs u=>.of_eq rfl,λbase kb nb=>My.law_fn T kb nb⟩ -- if «.of_eq rfl» comes too early: refine' ⟨_,?b,λbase kb nb=>My.law_fn T kb nb⟩;exact λs u=>.of_eq rfl
 case S=>exact λw H a ns hl hO hS=>..
 case C=>exact ..
(the tactic k_is has no namespace: write k_is) -/
namespace L2
open PySem PySem.Spec PyProof.Rows
def U5 (s:Stmt):Arguments:=match s with
 | .FunctionDef _ a _ _ _ _ _ _ _ _=>a
 | _=>{posonlyargs:=[],args:=[],vararg:=none,kwonlyargs:=[],kw_defaults:=[],kwarg:=none,defaults:=[]}
def R0 (s:Stmt):List Stmt:=match s with
 | .FunctionDef _ _ b _ _ _ _ _ _ _=>b
 | _=>[]
def A7 (s:Stmt):Scope:=match s with
 | .FunctionDef _ _ _ _ _ _ sc _ _ _=>sc
 | _=>{kind:=.function,names:=[],isGenerator:=false,isCoroutine:=false}
abbrev CX0:CXT:=λ_ _ _ _ _ _=>False
abbrev E0:XK:=λ_ _ _=>False
theorem b2z {X:Cx}:a2Y CX0 X E0:=λ_ _ _ _ _ _ _ h=>h.elim
structure Fun (K:ae)(x qual:Str)(st:Stmt)(f:Addr)(fd:FuncData):Prop where
 ex:∃(oc:Value) (od:Option Addr) (kV doc pm:Value) (an:Option Addr) (cdv ct:Value) (osl:Array (Option Value)),
  fd=db x qual (U5 st) (R0 st) (A7 st) .none kV doc pm an cdv ct/\K.lookup f=some ⟨oc,od,.func fd,osl⟩/\fj K cdv qual=true
 kp:fh K (.ref f)=true
section
variable {P:Program}{w:World}{K:ae}{mg:Str->Option Value}{base:Heap}
theorem Fun.ok {x qual:Str}{st:Stmt}{f:Addr}{fd:FuncData}{N ps:List Str}{k:Nat}{sp:Sp}(F:Fun K x qual st f fd)(S:B7 N ps (A7 st))(len:∀ vs H Q E,sp vs H Q E->vs.length=ps.length)
  (hbody:∀(cdv:Value) (A:Around) (outer:List Env) (s:Shared) (H:Hp) (vs:List V) (Q:VK) (E:XK),P0 k (A.deeper (envOfC qual (A7 st) s.heap.objs.size f cdv))->sp vs H Q E ->
   ∃ t,PSs (a1z CX0 P w K mg base N qual (A7 st) f cdv A outer s H E).nox (R0 st) t/\t {nx:=λ_ H'=>Q .non H',rt:=Q} (P1 N vs) H):B8 P w K mg base CX0 (k+1) f fd ps sp:=by
 obtain⟨oc,od,kV,doc,pm,an,cdv,ct,osl,rfl,lk,hcd⟩:=F.ex;refine b0c lk hcd S len λA outer s H vs Q E hr hsp=>?_
 obtain⟨t,h,q⟩:=hbody cdv A outer s H vs Q E hr hsp;exact⟨t,h.nox,q⟩
theorem Fun.binds {x qual:Str}{st:Stmt}{f:Addr}{fd:FuncData}{ps:List Str}(F:Fun K x qual st f fd)
  (h:∀(kV doc pm:Value) (an:Option Addr) (cdv ct:Value) (us:List Value),us.length=ps.length->bindArgs (db x qual (U5 st) (R0 st) (A7 st) .none kV doc pm an cdv ct) ⟨us,[]⟩=pure (ps.zip us)):a2n K fd ps []:=by
 obtain⟨oc,od,kV,doc,pm,an,cdv,ct,osl,rfl,lk,hcd⟩:=F.ex;exact .all (h kV doc pm an cdv ct)
theorem C8 {x qual:Str}{st:Stmt}{f:Addr}{oc:Value}{od an:Option Addr}{osl:Array (Option Value)}{kV doc pm cdv ct:Value}(l:K.lookup f=some ⟨oc,od,.func (db x qual (U5 st) (R0 st) (A7 st) .none kV doc pm an cdv ct),osl⟩)
  (c:fj K cdv qual=true) (k:fh K (.ref f)=true):Fun K x qual st f (db x qual (U5 st) (R0 st) (A7 st) .none kV doc pm an cdv ct):=⟨⟨oc,od,kV,doc,pm,an,cdv,ct,osl,rfl,l,c⟩,k⟩
end
theorem E8 {A:Around}{k:Nat}(hr:P0 k A):A.units+1<cLine:=Nat.lt_of_le_of_lt (Nat.add_le_add_left (by decide:1<=64) _) hr.units
section
variable {X:Cx}
theorem pv (i:Nat){x:Str}{pos:Pos}(hN:X.N[i]?=some x:=by rfl)(hv:Vis X.env.scope x:=by first | exact Or.inl rfl | exact Or.inr (Or.inl rfl) | exact Or.inr (Or.inr rfl))(hd:(x == ("__debug__":Str))=false:=by decide)
  (hcd:(x == ("__classdict__":Str))=false:=by decide):PE X (.Name x pos) (T7 i):=b0M hN hv hd hcd
end
theorem Y7 {c A B:Prop}[Decidable c](h1:c->A)(h2:¬ c->B):if c then A else B:=by
 by_cases h:c
 ·rw[if_pos h];exact h1 h
 ·rw[if_neg h];exact h2 h
def B0 (H H':Hp):Prop:=∀ b o,H b=some o->H' b=some o
theorem B0.refl (H:Hp):B0 H H:=λ_ _ h=>h
theorem B0.trans {H H1 H2:Hp}(a:B0 H H1)(b:B0 H1 H2):B0 H H2:=λc o h=>b c o (a c o h)
theorem B0.free {H H':Hp}(e:B0 H H'){l:Addr}(h:H' l=ia):H l=ia:=by
 cases q:H l with
 | none=>rfl
 | some o =>
  rw[e l o q] at h;cases h
theorem B0.seq {K:ae}{H H':Hp}{a:Addr}{xs:List V}(e:B0 H H')(h:SqL K H a xs):SqL K H' a xs:=by
 rcases h with (h | ⟨o,h⟩) | h
 ·exact .inl (.inl (e _ _ h))
 ·exact .inl (.inr ⟨o,e _ _ h⟩)
 ·exact .inr h
end L2
namespace L2
open PySem PySem.Spec PyProof.Rows
section
variable {κ:Type}[DecidableEq κ]
def N7 (kvs:List (κ×V))(k:κ):Option V:=(kvs.find? λkv=>decide (kv.1=k)).map (·.2)
def P4 (kvs:List (κ×V))(k:κ)(v:V):List (κ×V) :=
 if (kvs.any λkv=>decide (kv.1=k))=true then kvs.map (λkv=>if kv.1=k then (kv.1,v) else kv) else kvs++[(k,v)]
def a1m (kvs:List (κ×V))(k:κ):List (κ×V):=kvs.filter λkv=>decide (kv.1≠k)
theorem K7 {p:κ×V}{r:List (κ×V)}{k:κ}(e:p.1=k):N7 (p::r) k=some p.2:=by simp[N7,dD,e]
theorem K8 {p:κ×V}{r:List (κ×V)}{k:κ}(e:¬ p.1=k):N7 (p::r) k=N7 r k:=by simp[N7,dD,e]
theorem X8 (k:κ):∀ kvs:List (κ×V),(kvs.any λkv=>decide (kv.1=k))=(N7 kvs k).isSome
 | []=>rfl
 | p::r=>by
  rw[dE];by_cases e:p.1=k
  ·simp only[K7 e,decide_eq_true e,Bool.true_or,Option.isSome_some]
  ·rw[K8 e,decide_eq_false e,Bool.false_or];exact X8 k r
theorem a3a (k j:κ)(y:V):∀ kvs:List (κ×V),N7 (kvs.map λkv=>if kv.1=k then (kv.1,y) else kv) j=(N7 kvs j).map λx=>if j=k then y else x
 | []=>rfl
 | p::r=>by
  have ih:=a3a k j y r;rw[ao];by_cases h:p.1=k
  ·rw[if_pos h];by_cases e:p.1=j
   ·rw[K7 (p:=(p.1,y)) e,K7 e,fc,if_pos (e.symm.trans h)]
   ·rw[K8 (p:=(p.1,y)) e,K8 e,ih]
  ·rw[if_neg h];by_cases e:p.1=j
   ·rw[K7 (p:=p) e,K7 e,fc,if_neg (λz=>h (e.trans z))]
   ·rw[K8 (p:=p) e,K8 e,ih]
theorem a1E (k j:κ)(y:V):∀ kvs:List (κ×V),N7 kvs k=none->N7 (kvs++[(k,y)]) j=if j=k then some y else N7 kvs j
 | [],_=>by
  by_cases e:k=j
  ·rw[if_pos e.symm];exact K7 (p:=(k,y)) e
  ·rw[if_neg (λz=>e z.symm)];exact K8 (p:=(k,y)) e
 | p::r,hn=>by
  rw[bT];have hk:¬ p.1=k:=λz=>by rw[K7 z] at hn;cases hn
  rw[K8 hk] at hn;have ih:=a1E k j y r hn;by_cases e:p.1=j
  ·rw[K7 e,K7 e,if_neg (λz=>hk (e.trans z))]
  ·rw[K8 e,K8 e,ih]
theorem a6z (kvs:List (κ×V))(k j:κ)(y:V):N7 (P4 kvs k y) j=if j=k then some y else N7 kvs j:=by
 unfold P4;by_cases a:(kvs.any λkv=>decide (kv.1=k))=true
 ·rw[if_pos a,a3a];rw[X8] at a;by_cases e:j=k
  ·obtain⟨x,hx⟩:=gF.mp a;rw[if_pos e,e,hx,fc,if_pos rfl]
  ·rw[if_neg e];cases N7 kvs j with
   | none=>rfl
   | some x=>rw[fc,if_neg e]
 ·rw[if_neg a];refine a1E k j y kvs ?_;rw[X8] at a;cases q:N7 kvs k with
  | none=>rfl
  | some x=>rw[q] at a;exact (a rfl).elim
theorem N6 (kvs:List (κ×V))(k:κ)(v:V):(P4 kvs k v).length<=kvs.length+1:=by
 unfold P4;split
 ·rw[aa];omega
 ·rw[aD,aH,bR];omega
theorem a2X.isSome_eq {o:Option V}{u:Option Value}(r:a2X o u):o.isSome=u.isSome:=by
 cases o with
 | none=>cases u with
  | none=>rfl
  | some _=>exact (show False from r).elim
 | some _=>cases u with
  | none=>exact (show False from r).elim
  | some _=>rfl
theorem a2X.getD {o:Option V}{u:Option Value}{d:V}{d':Value}(r:a2X o u)(rd:C6 d d'):C6 (o.getD d) (u.getD d'):=by
 cases o with
 | none=>cases u with
  | none=>exact rd
  | some _=>exact (show False from r).elim
 | some _=>cases u with
  | none=>exact (show False from r).elim
  | some _=>exact r
theorem KV.val {kvs:List (κ×V)}{vs:List (κ×Value)}(r:KV kvs vs)(k:κ):a2X (N7 kvs k) (valueAt vs k):=by
 unfold KV at r;induction r with
 | nil=>exact cr
 | @cons p q ps qs h t ih =>
  obtain⟨h1,h2⟩:=h;by_cases e:p.1=k
  ·have e':q.1=k:=h1.symm.trans e;have b:valueAt (q::qs) k=some q.2:=by simp[valueAt,dD,e']
   rw[K7 e,b];exact h2
  ·have e':¬ q.1=k:=λz=>e (h1.trans z)
   have b:valueAt (q::qs) k=valueAt qs k:=by simp[valueAt,dD,e']
   rw[K8 e,b];exact ih
theorem KV.any {kvs:List (κ×V)}{vs:List (κ×Value)}(r:KV kvs vs)(k:κ):(kvs.any λkv=>decide (kv.1=k))=vs.any λkv=>decide (kv.1=k):=by
 unfold KV at r;induction r with
 | nil=>rfl
 | cons h t ih=>rw[dE,dE,ih,h.1]
theorem KV.repl {kvs:List (κ×V)}{vs:List (κ×Value)}(r:KV kvs vs)(k:κ){y:V}{u:Value}(ry:C6 y u) :
  KV (kvs.map λkv=>if kv.1=k then (kv.1,y) else kv) (vs.map λkv=>if kv.1=k then (kv.1,u) else kv):=by
 unfold KV at r ⊢;induction r with
 | nil=>exact .nil
 | @cons p q ps qs h t ih =>
  rw[ao,ao];refine .cons ?_ ih;obtain⟨h1,h2⟩:=h;by_cases e:p.1=k
  ·rw[if_pos e,if_pos (h1.symm.trans e)];exact⟨h1,ry⟩
  ·rw[if_neg e,if_neg (λz=>e (h1.trans z))];exact⟨h1,h2⟩
theorem KV.put {kvs:List (κ×V)}{vs:List (κ×Value)}(r:KV kvs vs)(k:κ){y:V}{u:Value}(ry:C6 y u):KV (P4 kvs k y) (stored vs k u):=by
 unfold P4 stored;rw[r.any k];by_cases e:(vs.any λkv=>decide (kv.1=k))=true
 ·rw[if_pos e,if_pos e];exact r.repl k ry
 ·rw[if_neg e,if_neg e];exact Paired.snoc r ⟨rfl,ry⟩
theorem KV.drop {kvs:List (κ×V)}{vs:List (κ×Value)}(r:KV kvs vs)(k:κ):KV (a1m kvs k) (without vs k):=by
 unfold KV at r ⊢;unfold a1m without;induction r with
 | nil=>exact .nil
 | @cons p q ps qs h t ih =>
  obtain⟨h1,h2⟩:=h;rw[List.filter_cons,List.filter_cons];by_cases e:p.1=k
  ·have a:¬ decide (p.1≠k)=true:=by simp[e]
   have b:¬ decide (q.1≠k)=true:=by simp[h1.symm.trans e]
   rw[if_neg a,if_neg b];exact ih
  ·have e':¬ q.1=k:=λz=>e (h1.trans z)
   have a:decide (p.1≠k)=true:=by simp[e]
   have b:decide (q.1≠k)=true:=by simp[e']
   rw[if_pos a,if_pos b];exact .cons ⟨h1,h2⟩ ih
theorem KV.keys {kvs:List (κ×V)}{vs:List (κ×Value)}(r:KV kvs vs):kvs.map (·.1)=vs.map (·.1):=by
 unfold KV at r;induction r with
 | nil=>rfl
 | cons h t ih=>rw[ao,ao,ih,h.1]
theorem KV.length {kvs:List (κ×V)}{vs:List (κ×Value)}(r:KV kvs vs):kvs.length=vs.length:=dA r
theorem a8f (kvs:List (κ×V))(k:κ):(a1m kvs k).length<=kvs.length:=cR _ _
end
theorem a0s {P:Program}{w:World}{k:Key}{u:Value}(r:C6 (kV k) u):(E6 P w).is k u=true:=by
 cases k with
 | inl i=>obtain⟨t,e⟩:=(show ∃ t,u=cu i t from r);subst e;exact a3R P w i t
 | inr x=>obtain⟨t,e⟩:=(show ∃ t,u=gc x t from r);subst e;exact a3Q P w x t
theorem a2c {P:Program}{w:World}:∀ {ks:List Key} {us:List Value},C0 (ks.map kV) us->ItemsAre (E6 P w) ks us
 | [],_,r=>by rw[cz] at r;cases r;exact .nil
 | k::ks,_,r=>by
  rw[ao] at r;cases r with
  | cons h t=>exact .cons (a0s h) (a2c t)
abbrev KT (H:Hp):List (List Key×V)->List (List Key×Addr×Value)->Prop:=Paired λp q=>p.1=q.1/\H q.2.1=some (.tup (p.1.map kV))/\C6 p.2 q.2.2
theorem KT.val {H:Hp}{kvs:List (List Key×V)}{xs:List (List Key×Addr×Value)}(r:KT H kvs xs)(k:List Key):a2X (N7 kvs k) ((atKey xs k).map (·.2)):=by
 induction r with
 | nil=>exact cr
 | @cons p q ps qs h t ih =>
  obtain⟨h1,_,h2⟩:=h;by_cases e:p.1=k
  ·have e':q.1=k:=h1.symm.trans e;have b:atKey (q::qs) k=some q.2:=by simp[atKey,dD,e']
   rw[K7 e,b];exact h2
  ·have e':¬ q.1=k:=λz=>e (h1.trans z)
   have b:atKey (q::qs) k=atKey qs k:=by simp[atKey,dD,e']
   rw[K8 e,b];exact ih
theorem KT.repl {H:Hp}{kvs:List (List Key×V)}{xs:List (List Key×Addr×Value)}(r:KT H kvs xs)(k:List Key){y:V}{u:Value}(ry:C6 y u) :
  KT H (kvs.map λkv=>if kv.1=k then (kv.1,y) else kv) (xs.map (putAt k u)):=by
 induction r with
 | nil=>exact .nil
 | @cons p q ps qs h t ih =>
  rw[ao,ao];refine .cons ?_ ih;obtain⟨h1,h2,h3⟩:=h;unfold putAt;by_cases e:p.1=k
  ·rw[if_pos e,if_pos (h1.symm.trans e)];exact⟨h1,h2,ry⟩
  ·rw[if_neg e,if_neg (λz=>e (h1.trans z))];exact⟨h1,h2,h3⟩
theorem KT.put {H:Hp}{kvs:List (List Key×V)}{xs:List (List Key×Addr×Value)}(r:KT H kvs xs)(k:List Key){b:Addr}{y:V}{u:Value}(hb:H b=some (.tup (k.map kV)))(ry:C6 y u) :
  KT H (P4 kvs k y) (storedH xs k b u):=by
 have e:(kvs.any λkv=>decide (kv.1=k))=(atKey xs k).isSome:=by
  rw[X8,(r.val k).isSome_eq,fG]
 unfold P4 storedH;rw[e];by_cases q:(atKey xs k).isSome=true
 ·rw[if_pos q,if_pos q];exact r.repl k ry
 ·rw[if_neg q,if_neg q];exact Paired.snoc r ⟨rfl,hb,ry⟩
theorem KT.keeps {H H':Hp}{kvs:List (List Key×V)}{xs:List (List Key×Addr×Value)}(r:KT H kvs xs)(ht:∀ b ys,H b=some (.tup ys)->H' b=some (.tup ys)):KT H' kvs xs :=
 Paired.mapP r λ_ _ z=>⟨z.1,ht _ _ z.2.1,z.2.2⟩
section
variable {P:Program}{w:World}{H:Hp}{h:Heap}{a:Addr}
theorem a9S {u:HO}(ok:HOk P w H h)(e:Rd H a u):J1 P w H h a u:=e.ok ok
theorem a4c {kvs:List (Key×V)}(ok:HOk P w H h)(e:Rd H a (.dK kvs)):kvs.length<=sizeLine/\(a == sysModules)=false/\∃ vs,KV kvs vs/\h.DictOf (E6 P w) a vs :=
 show J1 P w H h a (.dK kvs) from a9S ok e
theorem a4d {kvs:List (Key×V)}(ok:HOk P w H h)(e:H a=some (.dK kvs)):kvs.length<=sizeLine/\(a == sysModules)=false/\∃ vs,KV kvs vs/\h.DictOf (E6 P w) a vs:=a4c ok (.inl e)
theorem a0c {ks:List Key}(ok:HOk P w H h)(e:H a=some (.tup (ks.map kV))):(tupleKind (E6 P w)).is h ks a:=by
 obtain⟨_,its,r,o,h1,h2,n,h3⟩:=(show J1 P w H h a (.tup (ks.map kV)) from ok a _ e)
 exact⟨o,its.toArray,n,h1,h2,h3,by simpa using a2c r⟩
theorem a4a {kvs:List (List Key×V)}(ok:HOk P w H h)(e:Rd H a (.dT kvs)):kvs.length<=sizeLine/\(a == sysModules)=false /\
  ∃ xs,KT H kvs xs/\h.DictOfH (tupleKind (E6 P w)) a xs:=by
 obtain⟨z,y,xs,r,o,es,ep,h1,h2,h3,h4,h5⟩:=(show J1 P w H h a (.dT kvs) from a9S ok e)
 refine⟨z,y,xs,r,o,es,ep,h1,h2,h3,h4,λx hx=>?_,h5⟩;have all:∀ {l:List (List Key×V)} {m:List (List Key×Addr×Value)},KT H l m->∀ x∈m,(tupleKind (E6 P w)).is h x.1 x.2.1:=by
  intro l m q;induction q with
  | nil=>intro x hx;exact nomatch hx
  | @cons p q ps qs hq t ih =>
   intro x hx;rcases aW.mp hx with e | hx
   ·subst e;exact a0c ok (by rw[<- hq.1];exact hq.2.1)
   ·exact ih x hx
 exact all r x hx
theorem b0d {kvs:List (List Key×V)}(ok:HOk P w H h)(e:H a=some (.dT kvs)):kvs.length<=sizeLine/\(a == sysModules)=false /\
  ∃ xs,KT H kvs xs/\h.DictOfH (tupleKind (E6 P w)) a xs:=a4a ok (.inl e)
end
def W2 (H:Hp)(a:Addr)(y:V)(r:Option V):Prop :=
 (∃ kvs k,Rd H a (.dK kvs)/\y=kV k/\r=N7 kvs k)\/∃ kvs k b,Rd H a (.dT kvs)/\y=.ref b/\H b=some (.tup (k.map kV))/\r=N7 kvs k
def W1 (H:Hp)(a:Addr)(y v:V)(H':Hp):Prop :=
 (∃ kvs k,H a=some (.dK kvs)/\y=kV k/\kvs.length<sizeLine/\H'=upd H a (.dK (P4 kvs k v))) \/
 ∃ kvs k b,H a=some (.dT kvs)/\y=.ref b/\H b=some (.tup (k.map kV))/\kvs.length<sizeLine/\H'=upd H a (.dT (P4 kvs k v))
theorem W2.k {H:Hp}{a:Addr}{kvs:List (Key×V)}{k:Key}(e:H a=some (.dK kvs)):W2 H a (kV k) (N7 kvs k):=.inl ⟨kvs,k,.inl e,rfl,rfl⟩
theorem W2.t {H:Hp}{a b:Addr}{kvs:List (List Key×V)}{k:List Key}(e:H a=some (.dT kvs))(eb:H b=some (.tup (k.map kV))):W2 H a (.ref b) (N7 kvs k):=.inr ⟨kvs,k,b,.inl e,rfl,eb,rfl⟩
theorem W1.k {H:Hp}{a:Addr}{kvs:List (Key×V)}{k:Key}{v:V}(e:H a=some (.dK kvs))(hl:kvs.length<sizeLine):W1 H a (kV k) v (upd H a (.dK (P4 kvs k v))):=.inl ⟨kvs,k,e,rfl,hl,rfl⟩
theorem W1.t {H:Hp}{a b:Addr}{kvs:List (List Key×V)}{k:List Key}{v:V}(e:H a=some (.dT kvs))(eb:H b=some (.tup (k.map kV)))(hl:kvs.length<sizeLine) :
  W1 H a (.ref b) v (upd H a (.dT (P4 kvs k v))):=.inr ⟨kvs,k,b,e,rfl,eb,hl,rfl⟩
section
variable {X:Cx}{pins:List (Addr×Obj)}{σ:St}{H:Hp}{s:Shared}{a:Addr}{y v:V}{u r:Value}{o:Option V}{A:Around}{E:Value->Shared->Prop}
theorem Inv.big (I:Inv X pins σ H s):sysModules<s.heap.objs.size:=by
 have h:mainGlobals<s.heap.objs.size:=(I.mod.glob.keeps I.bk).lt;exact dQ (by decide) h
theorem b3A {Q:Value->Shared->Prop}(hu:A.units+1<cLine)(I:Inv X pins σ H s)(g:W2 H a y o)(ry:C6 y u)(h:∀ s',Inv X pins σ H s'->Q (.bool o.isSome) s') :
  wpAny (model X.prog X.w) A (compareOp .In u (.ref a)) Q E s:=by
 rcases g with ⟨kvs,k,e,ey,l⟩ | ⟨kvs,k,b,e,ey,eb,l⟩
 ·subst ey;obtain⟨z,hd,vs,rel,dd⟩:=a4c I.hok e;refine wpAny_in_of (a0s ry) hd dd.mapOf ?_;rw[<- (rel.val k).isSome_eq,<- l];exact h _ (I.tok _)
 ·subst ey;cases (show u=br b from ry);obtain⟨z,hd,xs,rel,dd⟩:=a4a I.hok e;refine wpAny_in_heap (tupleKind_room_in1 hu) (a0c I.hok eb) hd dd ?_;have q:=(rel.val k).isSome_eq;rw[fG] at q;rw[<- q,<- l];exact h _ (I.tok _)
theorem a9A {Q:Value->Shared->Prop}(hu:A.units+1<cLine)(I:Inv X pins σ H s)(g:W2 H a y o)(ry:C6 y u)(h:∀ s',Inv X pins σ H s'->Q (.bool (!o.isSome)) s') :
  wpAny (model X.prog X.w) A (compareOp .NotIn u (.ref a)) Q E s:=by
 rcases g with ⟨kvs,k,e,ey,l⟩ | ⟨kvs,k,b,e,ey,eb,l⟩
 ·subst ey;obtain⟨z,hd,vs,rel,dd⟩:=a4c I.hok e;refine wpAny_notIn_of (a0s ry) hd dd.mapOf ?_;rw[<- (rel.val k).isSome_eq,<- l];exact h _ (I.tok _)
 ·subst ey;cases (show u=br b from ry);obtain⟨z,hd,xs,rel,dd⟩:=a4a I.hok e;refine wpAny_notIn_heap (tupleKind_room_in1 hu) (a0c I.hok eb) hd dd ?_;have q:=(rel.val k).isSome_eq;rw[fG] at q;rw[<- q,<- l];exact h _ (I.tok _)
theorem V7 {h':Heap}{t':Nat}{ob:HO}(I:Inv X pins σ H s)(mu:Mut (H a))(hs:dP a s.heap h')(he:∃ q,h'.get? a=some q)(new:J1 X.prog X.w (upd H a ob) h' a ob) :
  Inv X pins σ (upd H a ob) {s with heap:=h',toks:=t'} :=
 I.write (x:=a) (e:=a) mu (.inl rfl) (λb q hb z=>(hs.2 b hb).trans z) he new
theorem a2O {P:Program}{w:World}{H':Hp}{h':Heap}{kvs:List (Key×V)}{vs:List (Key×Value)}(z:kvs.length<=sizeLine)(hd:(a == sysModules)=false)(rel:KV kvs vs)(dd:h'.DictOf (E6 P w) a vs) :
  J1 P w H' h' a (.dK kvs):=⟨z,hd,vs,rel,dd⟩
theorem a6m {H':Hp}{Q:Unit->Shared->Prop}(hu:A.units+1<cLine)(I:Inv X pins σ H s)(g:W1 H a y v H')(ry:C6 y u)(rv:C6 v r)(h:∀ s',Inv X pins σ H' s'->Q () s') :
  wpAny (model X.prog X.w) A (setItem (.ref a) u r) Q E s:=by
 rcases g with ⟨kvs,k,e,ey,l,eH⟩ | ⟨kvs,k,b,e,ey,eb,l,eH⟩
 ·subst ey eH;obtain⟨z,hd,vs,rel,dd⟩:=a4d I.hok e;have hz:vs.length<=sizeLine:=by rw[<- rel.length];exact z
  have hl:(P4 kvs k v).length<=sizeLine:=by have:=N6 kvs k v;omega
  refine wpAny_setItem_pairs (hsz:=hz) (a0s ry) dd λh' dd' hs=>h _ ?_
  have he:∃ q,h'.get? a=some q:=let ⟨q,_,_,hq,_⟩:=dd';⟨q,hq⟩;exact V7 I (by rw[e];exact cr) hs he (a2O hl hd (rel.put k rv) dd')
 ·subst ey eH;cases (show u=br b from ry);obtain⟨z,hd,xs,rel,dd⟩:=b0d I.hok e;have hz:xs.length<=sizeLine:=by rw[<- dA rel];exact z
  have hl:(P4 kvs k v).length<=sizeLine:=by have:=N6 kvs k v;omega
  refine wpAny_setItem_heap (hsz:=hz) (tupleKind_room_in1 hu) (a0c I.hok eb) dd λh' dd' hs=>h _ ?_
  obtain⟨q,es,ep,hq,h2,h3,h4,_,h5⟩:=dd';refine V7 I (by rw[e];exact cr) hs ⟨q,hq⟩ ⟨hl,hd,_,(rel.put k eb rv).keeps λc ys ec=>?_,q,es,ep,hq,h2,h3,h4,h5⟩;rw[A8 (a9Y ec e (λz=>nomatch z))];exact ec
end
section
variable {X:Cx}{pins:List (Addr×Obj)}{σ:St}{H:Hp}{s:Shared}{a:Addr}{kvs:List (Key×V)}{k:Key}{u:Value}{A:Around}{E:Value->Shared->Prop}
theorem a6o {Q:Unit->Shared->Prop}(I:Inv X pins σ H s)(e:H a=some (.dK kvs))(ry:C6 (kV k) u)(l:(N7 kvs k).isSome=true)(h:∀ s',Inv X pins σ (upd H a (.dK (a1m kvs k))) s'->Q () s') :
  wpAny (model X.prog X.w) A (delItem (.ref a) u) Q E s:=by
 obtain⟨z,hd,vs,rel,dd⟩:=a4d I.hok e;refine wpAny_delItem_slot dd.typeIs (by decide) ge
  (iU ge dd.typeIs PySem.F.entry_dict_delitem (PySem.F.args_dict_delitem_2 _ _) (meets_dict_delitem_pairs (E6 X.prog X.w) a (a0s ry)) ⟨vs,dd,by rw[<- rel.length];exact z,by rw[<- (rel.val k).isSome_eq];exact l,λh' dd' hs=>h _ ?_⟩)
 have he:∃ q,h'.get? a=some q:=let ⟨q,_,_,hq,_⟩:=dd';⟨q,hq⟩;exact V7 I (by rw[e];exact cr) hs he (a2O (ba (a8f kvs k) z) hd (rel.drop k) dd')
end
def b2l (ty td:TE):TE:=fun σ H Q=>ty σ H λy H1=>td σ H1 λx H2=>∃ a o,x=.ref a/\W2 H2 a y o/\Q (.bl o.isSome) H2
def a4V (ty td:TE):TE:=fun σ H Q=>ty σ H λy H1=>td σ H1 λx H2=>∃ a o,x=.ref a/\W2 H2 a y o/\Q (.bl (!o.isSome)) H2
def a9R (td ty tv:TE):TS:=λD σ H=>tv σ H λv H1=>td σ H1 λx H2=>ty σ H2 λy H3=>∃ a H4,x=.ref a/\W1 H3 a y v H4/\D.nx σ H4
def b2q (td ty:TE):TS:=λD σ H=>td σ H λx H1=>ty σ H1 λy H2=>∃ a kvs k,x=.ref a/\H2 a=some (.dK kvs)/\y=kV k/\(N7 kvs k).isSome=true/\D.nx σ (upd H2 a (.dK (a1m kvs k)))
section
variable {X:Cx}{o i e value:Expr}{pos pos' tpos:Pos}{td ty tv:TE}
theorem a7k (hu:X.A.units+1<cLine)(hi:PE X i ty)(ho:PE X o td):PC X .In i o (b2l ty td):=by
 intro pins s σ H Q I h;refine thn (hi pins s σ H _ I h) λiv s1 ⟨y,H1,I1,ry,q1⟩=>thn (ho pins s1 σ H1 _ I1 q1) λu s2 ⟨x,H2,I2,rx,a,ov,ex,g,q2⟩=>?_
 subst ex;obtain rfl:u=br a:=rx;exact b3A hu I2 g ry λs3 I3=>⟨.bl ov.isSome,H2,I3,rfl,q2⟩
theorem a5R (hu:X.A.units+1<cLine)(hi:PE X i ty)(ho:PE X o td):PC X .NotIn i o (a4V ty td):=by
 intro pins s σ H Q I h;refine thn (hi pins s σ H _ I h) λiv s1 ⟨y,H1,I1,ry,q1⟩=>thn (ho pins s1 σ H1 _ I1 q1) λu s2 ⟨x,H2,I2,rx,a,ov,ex,g,q2⟩=>?_
 subst ex;obtain rfl:u=br a:=rx;exact a9A hu I2 g ry λs3 I3=>⟨.bl (!ov.isSome),H2,I3,rfl,q2⟩
theorem a0B (hu:X.A.units+1<cLine)(ho:PE X o td)(hi:PE X i ty)(hv:PE X value tv)(hs:swapsWith value (some (.Subscript o i pos')) pos.line X.env=pure false) :
  PS X (.Assign [.Subscript o i pos'] value pos) (a9R td ty tv):=by
 intro pins s σ H D I h;refine wpAny_Assign_Subscript (thn (hv pins s σ H _ I h) λr s1 ⟨v,H1,I1,rv,q1⟩=>thn (ho pins s1 σ H1 _ I1 q1) λu s2 ⟨x,H2,I2,rx,q2⟩=>thn (hi pins s2 σ H2 _ I2 q2) λiv s3 ⟨y,H3,I3,ry,a,H4,ex,g,q3⟩=>?_) hs;subst ex;obtain rfl:u=br a:=rx;exact a6m hu I3 g ry rv λs4 I4=>⟨σ,H4,I4,q3⟩
theorem a8K (ho:PE X o td)(hi:PE X i ty):PS X (.Delete [.Subscript o i tpos] pos) (b2q td ty):=by
 intro pins s σ H D I h;refine wpAny_Delete (wpAny_deleteEach_cons (wpAny_delete_Subscript (thn (ho pins s σ H _ I h) λu s1 ⟨x,H1,I1,rx,q1⟩=>thn (hi pins s1 σ H1 _ I1 q1) λiv s2 ⟨y,H2,I2,ry,a,kvs,k,ex,e,ey,l,q2⟩=>?_)));subst ex ey;obtain rfl:u=br a:=rx;exact a6o I2 e ry l λs3 I3=>wpAny_deleteEach_nil ⟨σ,_,I3,q2⟩
end
theorem a4e {P:Program}{w:World}{H:Hp}(h:Heap)(hb:sysModules<h.objs.size):J1 P w H (h.push {cls:=.type "dict",data:=.dict #[]}) h.objs.size (.dK []) :=
 ⟨bI _,beq_eq_false_iff_ne.mpr (eN (aS hb)),[],.nil,Heap.DictOf.new h⟩
theorem a4b {P:Program}{w:World}{H:Hp}(h:Heap)(hb:sysModules<h.objs.size):J1 P w H (h.push {cls:=.type "dict",data:=.dict #[]}) h.objs.size (.dT []) :=
 ⟨bI _,beq_eq_false_iff_ne.mpr (eN (aS hb)),[],.nil,_,#[],0,aK _ rfl,⟨rfl,rfl,rfl⟩,rfl,rfl,List.nodup_nil⟩
def b0w:TE:=λ_ H Q=>∀ p,H p=none->Q (.ref p) (upd H p (.dK []))
def a6I:TE:=λ_ H Q=>∀ p,H p=none->Q (.ref p) (upd H p (.dT []))
section
variable {X:Cx}{pos:Pos}
theorem a7h:PE X (.Dict [] [] pos) a6I:=λpins s σ H Q I h =>
 wpAny_Dict_empty ⟨.ref s.heap.objs.size,_,I.laid (a:=s.heap.objs.size) (o:=.dT []) (t':=s.toks) (λ_ _ q=>ak _ q) (aj _) (a4b s.heap I.big),rfl,h _ (I.hok.fresh (aj _))⟩
end
def a2p:List (TE×TE)->St->Hp->(List (V×V)->Hp->Prop)->Prop
 | [],_,H,Q=>Q [] H
 | (tk,tv)::r,σ,H,Q=>tk σ H λx H1=>tv σ H1 λy H2=>a2p r σ H2 λps H3=>Q ((x,y)::ps) H3
abbrev VV:List (V×V)->List (Value×Value)->Prop:=Paired λp q=>C6 p.1 q.1/\C6 p.2 q.2
def PPs (X:Cx)(pos:Pos)(keys:List (Option Expr))(values:List Expr)(trs:List (TE×TE)):Prop :=
 ∀(pins:List (Addr×Obj)) (s:Shared) (σ:St) (H:Hp) (Q:List (V×V)->Hp->Prop),Inv X pins σ H s->a2p trs σ H Q ->
  wpAny (model X.prog X.w) X.A (evalPairs (pairTrees keys values X.env pos)) (λvs s'=>∃ ps H',Inv X pins σ H' s'/\VV ps vs/\Q ps H') X.xe s
theorem a8L {X:Cx}{pos:Pos}:PPs X pos [] [] []:=λpins s σ H Q I h=>pairTrees_nil_walk ⟨[],H,I,.nil,h⟩
theorem a7f {X:Cx}{pos:Pos}{k v:Expr}{ks:List (Option Expr)}{vs:List Expr}{tk tv:TE}{trs:List (TE×TE)}(hk:PE X k tk)(hv:PE X v tv)(hr:PPs X pos ks vs trs) :
  PPs X pos (some k::ks) (v::vs) ((tk,tv)::trs):=λpins s σ H Q I h =>
 pairTrees_cons_walk (thn (hk pins s σ H _ I h) λu s1 ⟨x,H1,I1,rx,q1⟩=>thn (hv pins s1 σ H1 _ I1 q1) λw2 s2 ⟨y,H2,I2,ry,q2⟩ =>
  thn (hr pins s2 σ H2 _ I2 q2) λws s3 ⟨ps,H3,I3,rel,q3⟩=>⟨(x,y)::ps,H3,I3,.cons ⟨rx,ry⟩ rel,q3⟩)
def a0a (kvs more:List (Key×V)):List (Key×V):=more.foldl (λacc kv=>P4 acc kv.1 kv.2) kvs
theorem KV.merge:∀ {more:List (Key×V)} {rs:List (Key×Value)} {kvs:List (Key×V)} {vs:List (Key×Value)},KV more rs->KV kvs vs->KV (a0a kvs more) (merged vs rs):=by
 intro more rs kvs vs r;unfold KV at r;induction r generalizing kvs vs with
 | nil=>intro q;exact q
 | @cons p q ps qs h t ih =>
  intro r0;have e:KV (P4 kvs p.1 p.2) (stored vs q.1 q.2):=by
   have:=r0.put p.1 h.2;rw[<- h.1];exact this
  exact ih e
theorem W5:∀(more kvs:List (Key×V)),(a0a kvs more).length<=kvs.length+more.length
 | [],kvs=>by show kvs.length<=kvs.length+0;omega
 | p::r,kvs=>by
  have h1:=W5 r (P4 kvs p.1 p.2);have h2:=N6 kvs p.1 p.2;show (a0a (P4 kvs p.1 p.2) r).length<=_;rw[aH];omega
theorem a1q {P:Program}{w:World}:∀ {kvs:List (Key×V)} {ws:List (Value×Value)},VV (kvs.map λkv=>(kV kv.1,kv.2)) ws->∃ rs,Carries (E6 P w) ws rs/\KV kvs rs
 | [],_,r=>by rw[cz] at r;cases r;exact⟨[],cr,.nil⟩
 | p::kvs,_,r=>by
  rw[ao] at r;cases r with
  | @cons a b as bs h t =>
   obtain⟨rs,c,q⟩:=a1q (P:=P) (w:=w) t;obtain⟨b1,b2⟩:=b;exact⟨(p.1,b2)::rs,⟨a0s h.1,rfl,c⟩,.cons ⟨rfl,h.2⟩ q⟩
def a9N (trs:List (TE×TE)):TE:=fun σ H Q=>∀ p,H p=none->a2p trs σ (upd H p (.dK [])) λps H2=>H2 p=some (.dK [])/\∃ kvs:List (Key×V),ps=kvs.map (λkv=>(kV kv.1,kv.2))/\kvs.length<=15/\Q (.ref p) (upd H2 p (.dK (a0a [] kvs)))
theorem a8O {X:Cx}{pos:Pos}{keys:List (Option Expr)}{values:List Expr}{trs:List (TE×TE)}(h:PPs X pos keys values trs)(hall:keys.all (·.isSome)=true)(hl:keys.length=values.length)(h0:keys≠[])
  (h15:keys.length<=15):PE X (.Dict keys values pos) (a9N trs):=by
 intro pins s σ H Q I q;have hn:=I.hok.fresh (aj s.heap.objs.size);have I1:=I.laid (a:=s.heap.objs.size) (o:=.dK []) (h':=s.heap.push {cls:=.type "dict",data:=.dict #[]}) (t':=s.toks) (λ_ _ q=>ak _ q) (aj _) (a4e s.heap I.big);refine wpAny_Dict_walk (knd:=E6 X.prog X.w) hall hl h0 h15 (thn (h pins _ σ _ _ I1 (q _ hn)) λws s2 ⟨ps,H2,I2,rel,e,kvs,ep,lk,q2⟩=>?_);subst ep;obtain⟨rs,c,rk⟩:=a1q (P:=X.prog) (w:=X.w) rel;obtain⟨z,hd,vs0,r0,dd⟩:=a4d I2.hok e;cases r0;refine⟨rs,c,dd,λh' dd' hs=>⟨.ref s.heap.objs.size,_,?_,rfl,q2⟩⟩;have hz:(a0a [] kvs).length<=sizeLine:=by
  have h1:=W5 kvs [];rw[bR] at h1;rw[sizeLine_eq];omega
 have he:∃ q,h'.get? s.heap.objs.size=some q:=let ⟨q,_,_,hq,_⟩:=dd';⟨q,hq⟩;exact V7 I2 (by rw[e];exact cr) hs he (a2O hz hd (rk.merge .nil) dd')
structure M1 (X:Cx)(o:Expr)(m:Str)(apos:Pos)(e:Expr)(cpos:Pos):Prop where
 base:attributeBase o m X.env (eval o X.env)=eval o X.env
 few:((backTo cpos (starEach [e] X.env)).all (λx=>!x.1) && (backToKw cpos (keywordEach [] X.env)).all (λx=>x.1.isSome)
  && decide (([e]:List Expr).length+([]:List Keyword).length+(if ([]:List Keyword).isEmpty then 0 else 1)<30))=true
 line:(apos.endLine == cpos.line)=true
 trees:backTo cpos (starEach [e] X.env)=[(false,eval e X.env)]
structure M2 (X:Cx)(o:Expr)(m:Str)(apos:Pos)(e f:Expr)(cpos:Pos):Prop where
 base:attributeBase o m X.env (eval o X.env)=eval o X.env
 few:((backTo cpos (starEach [e,f] X.env)).all (λx=>!x.1) && (backToKw cpos (keywordEach [] X.env)).all (λx=>x.1.isSome)
  && decide (([e,f]:List Expr).length+([]:List Keyword).length+(if ([]:List Keyword).isEmpty then 0 else 1)<30))=true
 line:(apos.endLine == cpos.line)=true
 trees:backTo cpos (starEach [e,f] X.env)=[(false,eval e X.env),(false,eval f X.env)]
def IsD (H:Hp)(a:Addr):Prop:=(∃ kvs,Rd H a (.dK kvs))\/∃ kvs,Rd H a (.dT kvs)
theorem b1g {X:Cx}{pins:List (Addr×Obj)}{σ:St}{H:Hp}{s:Shared}{a:Addr}(I:Inv X pins σ H s)(d:IsD H a) :
  s.TypeIs (.ref a) "dict"/\(∀ b,br a=.ref b->∃ ob,s.heap.get? b=some ob/\ob.dict=none)/\(a == sysModules)=false:=by
 rcases d with ⟨kvs,e⟩ | ⟨kvs,e⟩
 ·obtain⟨_,hd,vs,_,dd⟩:=a4c I.hok e;refine⟨dd.typeIs,λb q=>?_,hd⟩;cases q;obtain⟨ob,_,_,h1,h2,_⟩:=dd;exact⟨ob,h1,h2.2.1⟩
 ·obtain⟨_,hd,xs,_,dd⟩:=a4a I.hok e;refine⟨dd.typeIs,λb q=>?_,hd⟩;cases q;obtain⟨ob,_,_,h1,h2,_⟩:=dd;exact⟨ob,h1,h2.2.1⟩
section
variable {X:Cx}{pins:List (Addr×Obj)}{σ:St}{H:Hp}{s:Shared}{a:Addr}{y d:V}{u r:Value}{o:Option V}{A:Around}{E:Value->Shared->Prop}
theorem b1A {Q:Value->Shared->Prop}(hu:A.units+1<cLine)(I:Inv X pins σ H s)(g:W2 H a y o)(ry:C6 y u)(h:∀ w' s',Inv X pins σ H s'->C6 (o.getD .non) w'->Q w' s') :
  wpAny (model X.prog X.w) A (call (.builtin "dict.get") [.ref a,u]) Q E s:=by
 rcases g with ⟨kvs,k,e,ey,l⟩ | ⟨kvs,k,b,e,ey,eb,l⟩
 ·subst ey;obtain⟨z,hd,vs,rel,dd⟩:=a4c I.hok e;refine iU eU dd.typeIs gK (gE _ _) (meets_dict_get (E6 X.prog X.w) a (a0s ry) hd) ⟨_,dd.mapOf,h _ _ (I.tok _) ?_⟩;rw[l];exact (rel.val k).getD rfl
 ·subst ey;cases (show u=br b from ry);obtain⟨z,hd,xs,rel,dd⟩:=a4a I.hok e;refine iU eU dd.typeIs gK (gE _ _) (meetsH_dict_get (tupleKind (E6 X.prog X.w)) a b hd) ⟨tupleKind_room_in1 hu,k,xs,a0c I.hok eb,dd,h _ _ (I.tok _) ?_⟩;rw[l];exact (rel.val k).getD rfl
end
def a6J (td ty:TE):TE:=fun σ H Q=>td σ H λx H1=>∃ a,x=.ref a/\IsD H1 a/\ty σ H1 λy H2=>∃ o,W2 H2 a y o/\Q (o.getD .non) H2
section
variable {X:Cx}{o e f:Expr}{apos cpos:Pos}{td ty tx:TE}
theorem a7i (hu:X.A.units+1<cLine)(ho:PE X o td)(he:PE X e ty)(m:M1 X o "get" apos e cpos):PE X (.Call (.Attribute o "get" apos) [e] [] cpos) (a6J td ty):=by
 intro pins s σ H Q I h;refine wpAny_Call_method m.base m.few m.line PySem.F.plainAttrs_dict eU PySem.F.type_dict_get (thn (ho pins s σ H _ I h) λu s1 ⟨x,H1,I1,rx,a,ex,d,q1⟩=>?_);subst ex;obtain rfl:u=br a:=rx;obtain⟨t1,t2,_⟩:=b1g I1 d;refine⟨t1,t2,?_⟩;rw[m.trees];refine eV rfl (h7 (ek (thn (he pins s1 σ H1 _ I1 q1) λiv s2 ⟨y,H2,I2,ry,ov,g,q2⟩=>eM ?_)));exact b1A hu I2 g ry λw' s3 I3 rw'=>⟨_,H2,I3,rw',q2⟩
end
end L2
end
section
namespace Ts
open PySem PyProof.Rows
set_option autoImplicit false
def galP:Bool->Keyed->Array Keyed->Nat->Nat->Nat->StateT SortSt Sem (Option Nat):=sortPriv% PySem.Builtin.gallop
def mLo:Array Keyed->Array Keyed->StateT SortSt Sem (Array Keyed):=sortPriv% PySem.Builtin.mergeLo
def mHi:Array Keyed->Array Keyed->StateT SortSt Sem (Array Keyed):=sortPriv% PySem.Builtin.mergeHi
def setGal (g:Nat):StateT SortSt Sem Unit:=modify λs=>dU (kindOf s) (arrOf s) (pendingOf s) g (failedOf s)
theorem galP_eq (lf:Bool)(ky:Keyed)(ar:Array Keyed)(bs nn hn:Nat):galP lf ky ar bs nn hn=(do
 let bey (i:Nat):StateT SortSt Sem (Option Bool):=do
  let xx <- elem' ar (bs+i)
  if lf then lt' xx ky else return (<- lt' ky xx).map (!·)
 let mut la:=0
 let mut of:=1
 let mut l0:=0
 let mut h0:=0
 let some rg <- bey hn | return none
 if rg then
  let mx:=nn-hn
  for _ in [0:nn] do
   if of>=mx then break
   let some mo <- bey (hn+of) | return none
   if !mo then break
   la:=of
   of:=2*of+1
  l0:=hn+la+1
  h0:=hn+min of mx
 else
  let mx:=hn+1
  for _ in [0:nn] do
   if of>=mx then break
   let some fo <- bey (hn-of) | return none
   if fo then break
   la:=of
   of:=2*of+1
  l0:=hn+1-min of mx
  h0:=hn-la
 for _ in [0:nn] do
  if l0>=h0 then break
  let mm:=l0+(h0-l0) / 2
  let some mo <- bey mm | return none
  if mo then l0:=mm+1 else h0:=mm
 return some h0):=rfl
theorem mLo_eq (a b:Array Keyed):mLo a b=(do
 rule "list.sort.merge-lo"
 let tot:=a.size+b.size
 let dn (o:Array Keyed) (i j:Nat):=o++a.extract i a.size++b.extract j b.size
 let lst (o:Array Keyed) (i j:Nat):=o++b.extract j b.size++a.extract i a.size
 let mut o:Array Keyed:=#[<- elem' b 0]
 let mut i:=0
 let mut j:=1
 if j == b.size then return dn o i j
 if i+1 == a.size then return lst o i j
 let mut mg:=gallopOf (<- get)
 for _ in [0:tot] do
  let mut ac:=0
  let mut bc:=0
  for _ in [0:tot] do
   let some bw <- lt' (<- elem' b j) (<- elem' a i) | return dn o i j
   if bw then
    o:=o.push (<- elem' b j);j:=j+1;bc:=bc+1;ac:=0
    if j == b.size then return dn o i j
    if bc>=mg then break
   else
    o:=o.push (<- elem' a i);i:=i+1;ac:=ac+1;bc:=0
    if i+1 == a.size then return lst o i j
    if ac>=mg then break
  rule "list.sort.gallop"
  mg:=mg+1
  for _ in [0:tot] do
   if mg>1 then mg:=mg-1
   setGal mg
   let some k <- galP false (<- elem' b j) a i (a.size-i) 0 | return dn o i j
   ac:=k
   if k>0 then
    o:=o++a.extract i (i+k);i:=i+k
    if i+1 == a.size then return lst o i j
    if i == a.size then return dn o i j
   o:=o.push (<- elem' b j);j:=j+1
   if j == b.size then return dn o i j
   let some k <- galP true (<- elem' a i) b j (b.size-j) 0 | return dn o i j
   bc:=k
   if k>0 then
    o:=o++b.extract j (j+k);j:=j+k
    if j == b.size then return dn o i j
   o:=o.push (<- elem' a i);i:=i+1
   if i+1 == a.size then return lst o i j
   if ac<7 && bc<7 then break
  mg:=mg+1
  setGal mg
 unsupported "internal:list.sort.merge-bound"):=rfl
theorem mHi_eq (a b:Array Keyed):mHi a b=(do
 rule "list.sort.merge-hi"
 let tot:=a.size+b.size
 let dn (o:Array Keyed) (i j:Nat):=a.extract 0 i++b.extract 0 j++o.reverse
 let fst (o:Array Keyed) (i j:Nat):=b.extract 0 j++a.extract 0 i++o.reverse
 let mut i:=a.size-1
 let mut j:=b.size
 let mut o:Array Keyed:=#[<- elem' a i]
 if i == 0 then return dn o i j
 if j == 1 then return fst o i j
 let mut mg:=gallopOf (<- get)
 for _ in [0:tot] do
  let mut ac:=0
  let mut bc:=0
  for _ in [0:tot] do
   let some aw <- lt' (<- elem' b (j-1)) (<- elem' a (i-1)) | return dn o i j
   if aw then
    i:=i-1;o:=o.push (<- elem' a i);ac:=ac+1;bc:=0
    if i == 0 then return dn o i j
    if ac>=mg then break
   else
    j:=j-1;o:=o.push (<- elem' b j);bc:=bc+1;ac:=0
    if j == 1 then return fst o i j
    if bc>=mg then break
  rule "list.sort.gallop"
  mg:=mg+1
  for _ in [0:tot] do
   if mg>1 then mg:=mg-1
   setGal mg
   let some p <- galP false (<- elem' b (j-1)) a 0 i (i-1) | return dn o i j
   let k:=i-p
   ac:=k
   if k>0 then
    o:=o++(a.extract p i).reverse;i:=p
    if i == 0 then return dn o i j
   j:=j-1;o:=o.push (<- elem' b j)
   if j == 1 then return fst o i j
   let some p <- galP true (<- elem' a (i-1)) b 0 j (j-1) | return dn o i j
   let k:=j-p
   bc:=k
   if k>0 then
    o:=o++(b.extract p j).reverse;j:=p
    if j == 1 then return fst o i j
    if j == 0 then return dn o i j
   i:=i-1;o:=o.push (<- elem' a i)
   if i == 0 then return dn o i j
   if ac<7 && bc<7 then break
  mg:=mg+1
  setGal mg
 unsupported "internal:list.sort.merge-bound"):=rfl
theorem mAt_eq (i:Nat):mergeAt' i=(do
 let s <- get
 let (some (sa,na,pw),some (sb,nb,_)):=((pendingOf s)[i]?,(pendingOf s)[i+1]?) | unsupported "internal:list.sort.pending"
 set (dU (kindOf s) (arrOf s) (((pendingOf s).setIfInBounds i (sa,na+nb,pw)).eraseIdxIfInBounds (i+1)) (gallopOf s) (failedOf s))
 let some k <- galP false (<- elem' (arrOf s) sb) (arrOf s) sa na 0 | return false
 let (sa,na):=(sa+k,na-k)
 if na == 0 then return true
 let some nb <- galP true (<- elem' (arrOf s) (sa+na-1)) (arrOf s) sb nb (nb-1) | return false
 if nb == 0 then return true
 let xx:=(arrOf s).extract sa sb
 let yy:=(arrOf s).extract sb (sb+nb)
 let mm <- if na<=nb then mLo xx yy else mHi xx yy
 modify λs=>setArr s (mm.toList.zipIdx.foldl (λa (p,j)=>a.setIfInBounds (sa+j) p) (arrOf s))
 return (failedOf (<- get)).isNone):=rfl
end Ts
namespace Ts
open PySem PyProof.Rows
set_option autoImplicit false
def el (xs:Array Keyed)(i:Nat):Keyed:=(xs[i]?).getD (cG,cG)
theorem el_some {xs:Array Keyed}{i:Nat}(h:i<xs.size):xs[i]?=some (el xs i):=by
 unfold el;rw[getElem?_pos xs i h];rfl
theorem el_congr {xs ys:Array Keyed}{i j:Nat}(h:xs[i]?=ys[j]?):el xs i=el ys j:=by unfold el;rw[h]
theorem el_mem {xs:Array Keyed}{i:Nat}(h:i<xs.size):el xs i∈xs.toList:=by
 have e:el xs i=xs[i]:=by unfold el;rw[getElem?_pos xs i h];rfl
 rw[e];simp
section
variable {O:KeyOrd}{key:Keyed->O.α}
abbrev KA {O:KeyOrd}(key:Keyed->O.α)(xs:Array Keyed)(i:Nat):O.α:=key (el xs i)
theorem KA_congr {xs ys:Array Keyed}{i j:Nat}(h:xs[i]?=ys[j]?):KA key xs i=KA key ys j:=by unfold KA;rw[el_congr h]
def Seg {O:KeyOrd}(key:Keyed->O.α)(xs:Array Keyed)(lo hi:Nat):Prop:=∀ i j,lo<=i->i<=j->j<hi->O.kle (KA key xs i) (KA key xs j)
def SegD {O:KeyOrd}(key:Keyed->O.α)(xs:Array Keyed)(lo hi:Nat):Prop:=∀ i j,lo<=i->i<=j->j<hi->O.kle (KA key xs j) (KA key xs i)
theorem Seg.one (xs:Array Keyed)(lo:Nat):Seg key xs lo (lo+1):=λi j h1 h2 h3=>by
 have:i=j:=∅
 subst this;exact b9 _
theorem Seg.sub {xs:Array Keyed}{lo hi lo' hi':Nat}(h:Seg key xs lo hi)(h1:lo<=lo')(h2:hi'<=hi):Seg key xs lo' hi':=λi j a b c=>h i j ∅ b ∅
theorem Seg.congr {xs ys:Array Keyed}{lo hi:Nat}(h:Seg key xs lo hi)(e:∀ i,lo<=i->i<hi->KA key ys i=KA key xs i):Seg key ys lo hi:=λi j a b c=>by
 rw[e i a ∅,e j ∅ c];exact h i j a b c
theorem KA_bubble {xs:Array Keyed}{src d:Nat}(hs:src<xs.size)(hd:d<=src)(k:Nat) :
  KA key (bubble xs src d) k=if k=src-d then KA key xs src else if src-d<k/\k<=src then KA key xs (k-1) else KA key xs k:=by
 have e:=getElem?_bubble hs d hd k;by_cases h1:k=src-d
 ·rw[if_pos h1] at e ⊢;exact KA_congr e
 ·rw[if_neg h1] at e ⊢;by_cases h2:src-d<k/\k<=src
  ·rw[if_pos h2] at e ⊢;exact KA_congr e
  ·rw[if_neg h2] at e ⊢;exact KA_congr e
theorem KA_mirror {xs:Array Keyed}{i j:Nat}(hj:j<=xs.size)(k:Nat) :
  KA key (mirror xs i j ((j-i) / 2)) k=if i<=k/\k<j then KA key xs (i+j-1-k) else KA key xs k:=by
 have e:=getElem?_mirror_all (i:=i) hj k;by_cases h1:i<=k/\k<j
 ·rw[if_pos h1] at e ⊢;exact KA_congr e
 ·rw[if_neg h1] at e ⊢;exact KA_congr e
theorem KA_mirror_equal {xs:Array Keyed}{i j:Nat}(hj:j<=xs.size)(heq:∀ k,i<=k->k<j->KA key xs k=KA key xs (j-1))(k:Nat) :
  KA key (mirror xs i j ((j-i) / 2)) k=KA key xs k:=by
 rw[KA_mirror hj];split
 ·rw[heq _ ∅ ∅,heq k ∅ ∅]
 ·rfl
end
structure SB (a₀:Array Keyed)(knd:SortKind)(st:SortSt):Prop where
 perm:(arrOf st).Perm a₀
 kind:kindOf st=knd
 failed:failedOf st=none
theorem SB.size {a₀:Array Keyed}{knd:SortKind}{st:SortSt}(h:SB a₀ knd st):(arrOf st).size=a₀.size:=h.perm.size_eq
theorem SB.setArr {a₀:Array Keyed}{knd:SortKind}{st:SortSt}(h:SB a₀ knd st){xs:Array Keyed}(hp:xs.Perm (arrOf st)):SB a₀ knd (setArr st xs):=⟨hp.trans h.perm,h.kind,h.failed⟩
theorem SB.mem {a₀:Array Keyed}{knd:SortKind}{st:SortSt}(h:SB a₀ knd st){i:Nat}(hi:i<a₀.size):el (arrOf st) i∈a₀.toList :=
 (gw.mp h.perm).mem_iff.mp (el_mem (by rw[h.size];exact hi))
def Cmp (M:Model)(A:Around)(E:Value->Shared->Prop)(s:Shared)(knd:SortKind)(O:KeyOrd)(key:Keyed->O.α)(a₀:Array Keyed):Prop :=
 ∀ p∈a₀.toList,∀ q∈a₀.toList,∀(st:SortSt) (Q:Option Bool->SortSt->Prop),kindOf st=knd->Q (some (O.blt (key p) (key q))) st->wpS M A E s (lt' p q) Q st
section
variable {M:Model}{A:Around}{E:Value->Shared->Prop}{s:Shared}{a₀:Array Keyed}{knd:SortKind}{O:KeyOrd}{key:Keyed->O.α}
theorem wpS_elem {xs:Array Keyed}{i:Nat}{Q:Keyed->SortSt->Prop}{st:SortSt}(h:i<xs.size)(q:Q (el xs i) st):wpS M A E s (elem' xs i) Q st:=by
 rw[elem'_eq,el_some h];exact ah q
theorem wpS_ltI {st:SortSt}{i j:Nat}{Q:Option Bool->SortSt->Prop}(C:Cmp M A E s knd O key a₀)(hB:SB a₀ knd st)(hi:i<a₀.size)(hj:j<a₀.size)
  (h:Q (some (O.blt (KA key (arrOf st) i) (KA key (arrOf st) j))) st):wpS M A E s (ltAt' i j) Q st:=by
 rw[ltAt'_eq];refine ai (eZ ?_);refine ai (wpS_elem (by rw[hB.size];exact hi) ?_);refine ai (wpS_elem (by rw[hB.size];exact hj) ?_);exact C _ (hB.mem hi) _ (hB.mem hj) st Q hB.kind h
theorem wpS_rev {st:SortSt}{i j:Nat}{Q:Unit->SortSt->Prop}(h:Q () (setArr st (mirror (arrOf st) i j ((j-i) / 2)))):wpS M A E s (reverseSlice' i j) Q st:=by
 rw[reverseSlice'_eq];exact dI h
theorem wpS_rule {st:SortSt}{Q:Unit->SortSt->Prop}{x:String}(h:Q () st):wpS M A E s (liftM (rule x):StateT SortSt Sem Unit) Q st:=wpS_lift (wpAny_rule ⟨rfl,h⟩)
def ascL (lo a nrem:Nat):StateT SortSt Sem AscSt :=
 forIn [a:nrem] ((none,a):AscSt) λ_ c=>do
  let x <- ltAt' (lo+c.snd) (lo+c.snd-1)
  match x with
  | some sm=>if sm=true then pure (dZ (none,c.snd)) else pure (bO (none,c.snd+1))
  | _=>pure (dZ (some none,c.snd))
def t3L (lo n nrem:Nat):StateT SortSt Sem (Option Nat):=do
 reverseSlice' lo (lo+n)
 let c <- ascL lo n nrem
 match c.fst with
 | some r=>pure r
 | none=>pure (some c.snd)
def desL (lo n nrem:Nat):StateT SortSt Sem DescSt :=
 forIn [n:nrem] ((none,n,0):DescSt) λ_ c=>do
  let x <- ltAt' (lo+c.snd.fst) (lo+c.snd.fst-1)
  match x with
  | some sm =>
   if sm=true then
    if c.snd.snd>0 then do
     reverseSlice' (lo+c.snd.fst-(c.snd.snd+1)) (lo+c.snd.fst)
     pure (bO (none,c.snd.fst+1,0))
    else pure (bO (none,c.snd.fst+1,0))
   else do
    let y <- ltAt' (lo+c.snd.fst-1) (lo+c.snd.fst)
    match y with
    | some la =>
     if la=true then pure (dZ (none,c.snd.fst,c.snd.snd))
     else pure (bO (none,c.snd.fst+1,c.snd.snd+1))
    | _=>pure (dZ (some none,c.snd.fst,c.snd.snd))
  | _=>pure (dZ (some none,c.snd.fst,c.snd.snd))
def desP (lo n nrem:Nat):StateT SortSt Sem (Option Nat):=do
 liftM (rule "list.sort.descending-run")
 let c <- desL lo (n+1) nrem
 match c.fst with
 | some r=>pure r
 | none =>
  if c.snd.snd>0 then do
   reverseSlice' (lo+c.snd.fst-(c.snd.snd+1)) (lo+c.snd.fst)
   t3L lo c.snd.fst nrem
  else t3L lo c.snd.fst nrem
theorem cR_eq (lo nrem:Nat):countRun' lo nrem=(do
  let c <- ascL lo 1 nrem
  match c.fst with
  | some r=>pure r
  | none =>
   if (c.snd == nrem)=true then pure (some c.snd)
   else if c.snd>1 then do
    let x <- ltAt' lo (lo+c.snd-1)
    match x with
    | some rs=>if rs=true then pure (some c.snd) else do
      reverseSlice' lo (lo+c.snd)
      desP lo c.snd nrem
    | _=>pure none
   else desP lo c.snd nrem):=by
 rw[countRun'_eq];unfold desP t3L desL ascL;refine bind_congr λc=>?_
 obtain⟨r,n⟩:=c;cases r with
 | some r=>rfl
 | none =>
  dsimp only;split
  ·rfl
  ·split
   ·refine bind_congr λx=>?_
    cases x with
    | none=>rfl
    | some rs =>
     dsimp only;split
     ·rfl
     ·refine bind_congr λu=>?_
      refine bind_congr λv=>?_
      refine bind_congr λd=>?_
      obtain⟨r2,n2,q2⟩:=d;cases r2 with
      | some r2=>rfl
      | none =>
       dsimp only;split
       ·refine bind_congr λe=>?_
        refine bind_congr λe=>?_
        refine bind_congr λd=>?_
        obtain⟨r3,n3⟩:=d;cases r3<;>rfl
       ·refine bind_congr λe=>?_
        refine bind_congr λd=>?_
        obtain⟨r3,n3⟩:=d;cases r3<;>rfl
   ·refine bind_congr λv=>?_
    refine bind_congr λd=>?_
    obtain⟨r2,n2,q2⟩:=d;cases r2 with
    | some r2=>rfl
    | none =>
     dsimp only;split
     ·refine bind_congr λe=>?_
      refine bind_congr λe=>?_
      refine bind_congr λd=>?_
      obtain⟨r3,n3⟩:=d;cases r3<;>rfl
     ·refine bind_congr λe=>?_
      refine bind_congr λd=>?_
      obtain⟨r3,n3⟩:=d;cases r3<;>rfl
structure From (lo:Nat)(st st':SortSt):Prop where
 low:∀ i,i<lo->(arrOf st')[i]?=(arrOf st)[i]?
 pend:pendingOf st'=pendingOf st
theorem From.refl (lo:Nat)(st:SortSt):From lo st st:=⟨λ_ _=>rfl,rfl⟩
theorem From.trans {lo:Nat}{a b c:SortSt}(h:From lo a b)(k:From lo b c):From lo a c:=⟨λi hi=>(k.low i hi).trans (h.low i hi),k.pend.trans h.pend⟩
theorem From.mirror {lo i j:Nat}{st:SortSt}(hi:lo<=i)(hj:j<=(arrOf st).size):From lo st (gn st (gp (arrOf st) i j ((j-i) / 2))) :=
 ⟨λk hk=>by show (gp (arrOf st) i j ((j-i) / 2))[k]?=_;rw[getElem?_mirror_all hj,if_neg ∅],rfl⟩
theorem From.bubble {lo src d:Nat}{st:SortSt}(hs:src<(arrOf st).size)(hd:d<=src)(hl:lo<=src-d):From lo st (gn st (gt (arrOf st) src d)) :=
 ⟨λk hk=>by show (gt (arrOf st) src d)[k]?=_;rw[getElem?_bubble hs d hd,if_neg ∅,if_neg ∅],rfl⟩
theorem wpS_ascL {st:SortSt}{lo a nrem:Nat}{Q:AscSt->SortSt->Prop}(C:Cmp M A E s knd O key a₀)(hn:lo+nrem<=a₀.size)(ha:1<=a)(han:a<=nrem)(hB:SB a₀ knd st)
  (hs:Seg key (arrOf st) lo (lo+a))
  (h:∀ n,a<=n->n<=nrem->Seg key (arrOf st) lo (lo+n)->(n=nrem\/O.klt (KA key (arrOf st) (lo+n)) (KA key (arrOf st) (lo+n-1)))->Q (none,n) st) :
  wpS M A E s (ascL lo a nrem) Q st:=by
 unfold ascL;refine bP (I:=λx c st'=>st'=st/\c=(none,x)/\Seg key (arrOf st) lo (lo+x)) ?step ?fin ⟨rfl,rfl,hs⟩
 case fin =>
  rintro c st' ⟨rfl,rfl,hs'⟩;rw[show max a nrem=nrem by omega] at hs' ⊢;exact h nrem han (aj _) hs' (.inl rfl)
 case step =>
  rintro x c st' hax hxn ⟨rfl,rfl,hs'⟩;dsimp only;refine ai (wpS_ltI C hB ∅ ∅ ?_);cases hless:O.blt (KA key (arrOf st') (lo+x)) (KA key (arrOf st') (lo+x-1))
  case true =>
   simp only[if_true];exact ah (h x hax ∅ hs' (.inr hless))
  case false =>
   simp only[aP,if_false];refine ah ⟨rfl,rfl,λi j hli hij hj=>?_⟩;by_cases hjx:j<lo+x
   ·exact hs' i j hli hij hjx
   ·have hj':j=lo+x:=∅
    subst hj';by_cases hi':i=lo+x
    ·subst hi';exact b9 _
    ·exact aQ (hs' i (lo+x-1) hli ∅ ∅) hless
theorem wpS_t3L {st:SortSt}{lo n nrem:Nat}{Q:Option Nat->SortSt->Prop}(C:Cmp M A E s knd O key a₀)(hn:lo+nrem<=a₀.size)(h1:1<=n)(hnn:n<=nrem)(hB:SB a₀ knd st)
  (hs:SegD key (arrOf st) lo (lo+n)) (h:∀ m st',SB a₀ knd st'->From lo st st'->1<=m->m<=nrem->Seg key (arrOf st') lo (lo+m)->Q (some m) st') :
  wpS M A E s (t3L lo n nrem) Q st:=by
 unfold t3L;have hsz:lo+n<=(arrOf st).size:=by rw[hB.size];omega
 refine ai (wpS_rev ?_);have hB':SB a₀ knd (setArr st (mirror (arrOf st) lo (lo+n) ((lo+n-lo) / 2))):=hB.setArr (g8 _ _ _ _);have hF:=From.mirror (aj lo) hsz;refine ai (wpS_ascL C hn h1 hnn hB' ?_ λm hm1 hm2 hsm _=>ah (h m _ hB' hF ∅ hm2 hsm));intro i j hli hij hj;show O.kle (KA key (mirror (arrOf st) lo (lo+n) ((lo+n-lo) / 2)) i) (KA key (mirror (arrOf st) lo (lo+n) ((lo+n-lo) / 2)) j);rw[KA_mirror hsz,KA_mirror hsz,if_pos ∅,if_pos ∅];exact hs _ _ ∅ ∅ ∅
theorem wpS_desL {st:SortSt}{lo n nrem:Nat}{Q:DescSt->SortSt->Prop}(C:Cmp M A E s knd O key a₀)(hn:lo+nrem<=a₀.size)(h1:1<=n)(hnn:n<=nrem)(hB:SB a₀ knd st)
  (hs:SegD key (arrOf st) lo (lo+n))
  (h:∀ m neq st',SB a₀ knd st'->From lo st st'->n<=m->m<=nrem->SegD key (arrOf st') lo (lo+m)->neq+1<=m->(∀ i,lo+m-(neq+1)<=i->i<lo+m->KA key (arrOf st') i=KA key (arrOf st') (lo+m-1))->Q (none,m,neq) st') :
  wpS M A E s (desL lo n nrem) Q st:=by
 unfold desL
 refine bP (I:=λx c st'=>∃ neq,c=(none,x,neq)/\SB a₀ knd st'/\From lo st st'/\SegD key (arrOf st') lo (lo+x)/\neq+1<=x /\
   (∀ i,lo+x-(neq+1)<=i->i<lo+x->KA key (arrOf st') i=KA key (arrOf st') (lo+x-1))) ?step ?fin ⟨0,rfl,hB,From.refl _ _,hs,∅,λi h1 h2=>by congr 1;congr 1;omega⟩
 case fin =>
  rintro c st' ⟨neq,rfl,hB',hF,hs',hq,he⟩;rw[show max n nrem=nrem by omega] at hs' hq he ⊢;exact h nrem neq st' hB' hF hnn (aj _) hs' hq he
 case step =>
  rintro x c st' hax hxn ⟨neq,rfl,hB',hF,hs',hq,he⟩;dsimp only;have hsz:lo+x<=(arrOf st').size:=by rw[hB'.size];omega
  refine ai (wpS_ltI C hB' ∅ ∅ ?_);cases hless:O.blt (KA key (arrOf st') (lo+x)) (KA key (arrOf st') (lo+x-1))
  case true =>
   simp only[if_true];have step1:∀ xs:Array Keyed,(∀ k,KA key xs k=KA key (arrOf st') k)->SegD key xs lo (lo+(x+1)):=by
    intro xs hk i j hli hij hj;rw[hk,hk];by_cases hjx:j<lo+x
    ·exact hs' i j hli hij hjx
    ·have hj':j=lo+x:=∅
     subst hj';by_cases hi':i=lo+x
     ·subst hi';exact b9 _
     ·exact aQ (aM hless) (hs' i (lo+x-1) hli ∅ ∅)
   by_cases hneq:neq>0
   ·rw[if_pos hneq];refine ai (wpS_rev (ah ⟨0,rfl,hB'.setArr (g8 _ _ _ _),hF.trans (From.mirror ∅ hsz),step1 _ (KA_mirror_equal hsz he),∅,λi h1 h2=>by congr 1;congr 1;omega⟩))
   ·rw[if_neg hneq];exact ah ⟨0,rfl,hB',hF,step1 _ (λ_=>rfl),∅,λi h1 h2=>by congr 1;congr 1;omega⟩
  case false =>
   simp only[aP,if_false];refine ai (wpS_ltI C hB' ∅ ∅ ?_);cases hlarger:O.blt (KA key (arrOf st') (lo+x-1)) (KA key (arrOf st') (lo+x))
   case true =>
    simp only[if_true];exact ah (h x neq st' hB' hF hax ∅ hs' hq he)
   case false =>
    simp only[aP,if_false];have heqx:KA key (arrOf st') (lo+x)=KA key (arrOf st') (lo+x-1):=h9 hlarger hless;refine ah ⟨neq+1,rfl,hB',hF,λi j hli hij hj=>?_,∅,λi h1 h2=>?_⟩
    ·by_cases hjx:j<lo+x
     ·exact hs' i j hli hij hjx
     ·have hj':j=lo+x:=∅
      subst hj';by_cases hi':i=lo+x
      ·subst hi';exact b9 _
      ·rw[heqx];exact hs' i (lo+x-1) hli ∅ ∅
    ·rw[show lo+(x+1)-1=lo+x by omega];by_cases hix:i=lo+x
     ·subst hix;rfl
     ·rw[heqx];exact he i ∅ ∅
theorem wpS_desP {st:SortSt}{lo n nrem:Nat}{Q:Option Nat->SortSt->Prop}(C:Cmp M A E s knd O key a₀)(hn:lo+nrem<=a₀.size)(hnn:n+1<=nrem)(hB:SB a₀ knd st)
  (hs:SegD key (arrOf st) lo (lo+(n+1))) (h:∀ m st',SB a₀ knd st'->From lo st st'->1<=m->m<=nrem->Seg key (arrOf st') lo (lo+m)->Q (some m) st') :
  wpS M A E s (desP lo n nrem) Q st:=by
 unfold desP;refine ai (wpS_rule ?_);refine ai (wpS_desL C hn ∅ hnn hB hs λm neq st' hB' hF hm1 hm2 hs' hq he=>?_);dsimp only;have hsz:lo+m<=(arrOf st').size:=by rw[hB'.size];omega
 by_cases hneq:neq>0
 ·rw[if_pos hneq];refine ai (wpS_rev (wpS_t3L C hn ∅ hm2 (hB'.setArr (g8 _ _ _ _)) ?_ λm' st'' a b=>h m' st'' a (hF.trans ((From.mirror ∅ hsz).trans b))));intro i j hli hij hj;show O.kle (KA key (mirror (arrOf st') _ _ _) j) (KA key (mirror (arrOf st') _ _ _) i);rw[KA_mirror_equal hsz he,KA_mirror_equal hsz he];exact hs' i j hli hij hj
 ·rw[if_neg hneq];exact wpS_t3L C hn ∅ hm2 hB' hs' λm' st'' a b=>h m' st'' a (hF.trans b)
theorem wpS_cR {st:SortSt}{lo nrem:Nat}{Q:Option Nat->SortSt->Prop}(C:Cmp M A E s knd O key a₀)(hn:lo+nrem<=a₀.size)(h1:1<=nrem)(hB:SB a₀ knd st)
  (h:∀ m st',SB a₀ knd st'->From lo st st'->1<=m->m<=nrem->Seg key (arrOf st') lo (lo+m)->Q (some m) st') :
  wpS M A E s (countRun' lo nrem) Q st:=by
 rw[cR_eq];refine ai (wpS_ascL C hn (aj 1) h1 hB (Seg.one _ _) λn hn1 hn2 hsn hor=>?_);dsimp only;by_cases hnn:n=nrem
 ·rw[if_pos (~~~hnn)];exact ah (h n st hB (From.refl _ _) hn1 hn2 hsn)
 ·rw[if_neg (~~~hnn)];have hlt:O.klt (KA key (arrOf st) (lo+n)) (KA key (arrOf st) (lo+n-1)):=hor.resolve_left hnn;by_cases hgt:n>1
  ·rw[if_pos hgt];refine ai (wpS_ltI C hB ∅ ∅ ?_);cases hrose:O.blt (KA key (arrOf st) lo) (KA key (arrOf st) (lo+n-1))
   case true =>
    simp only[if_true];exact ah (h n st hB (From.refl _ _) hn1 hn2 hsn)
   case false =>
    simp only[aP,if_false];have hsz:lo+n<=(arrOf st).size:=by rw[hB.size];omega
    have hall:∀ k,lo<=k->k<lo+n->KA key (arrOf st) k=KA key (arrOf st) (lo+n-1):=by
     intro k hlk hk;have a1:=hsn lo k ∅ ∅ hk;have a2:=hsn k (lo+n-1) hlk ∅ ∅;exact h9 a2 (aQ hrose a1)
    refine ai (wpS_rev (wpS_desP C hn ∅ (hB.setArr (g8 _ _ _ _)) ?_ λm' st'' a b=>h m' st'' a ((From.mirror (aj lo) hsz).trans b)));intro i j hli hij hj;show O.kle (KA key (mirror (arrOf st) _ _ _) j) (KA key (mirror (arrOf st) _ _ _) i);rw[KA_mirror_equal hsz hall,KA_mirror_equal hsz hall];by_cases hjn:j<lo+n
    ·rw[hall i ∅ ∅,hall j ∅ hjn];exact b9 _
    ·have hj':j=lo+n:=∅
     subst hj';by_cases hi':i=lo+n
     ·subst hi';exact b9 _
     ·rw[hall i ∅ ∅];exact aM hlt
  ·rw[if_neg hgt];have hn1':n=1:=∅
   subst hn1';refine wpS_desP C hn ∅ hB ?_ h;intro i j hli hij hj;by_cases hi':i=j
   ·subst hi';exact b9 _
   ·have hi0:i=lo:=∅
    have hj1:j=lo+1:=∅
    subst hi0;subst hj1;exact aM hlt
theorem wpS_bS {st:SortSt}{lo n ok:Nat}{Q:Bool->SortSt->Prop}(C:Cmp M A E s knd O key a₀)(hn:lo+n<=a₀.size)(hok:ok<=n)(hB:SB a₀ knd st)(hs:Seg key (arrOf st) lo (lo+ok))
  (h:∀ st',SB a₀ knd st'->From lo st st'->Seg key (arrOf st') lo (lo+n)->Q true st'):wpS M A E s (binarySort' lo n ok) Q st:=by
 rw[binarySort'_eq]
 refine ai (cM (bP (I:=λk c st'=>c=(none,())/\SB a₀ knd st'/\From lo st st'/\Seg key (arrOf st') lo (lo+min k n))
  (Q:=λc st'=>c=(none,())/\SB a₀ knd st'/\From lo st st'/\Seg key (arrOf st') lo (lo+n)) ?step ?fin ?init) ?post)
 case post =>
  rintro c st' ⟨rfl,hB',hF,hs'⟩;exact ah (h st' hB' hF hs')
 case init =>
  refine⟨rfl,hB,From.refl _ _,λi j hli hij hj=>?_⟩;by_cases h1:ok=0
  ·have:i=j:=∅
   subst this;exact b9 _
  ·exact hs i j hli hij ∅
 case fin =>
  rintro c st' ⟨hc,hB',hF,hs'⟩;refine⟨hc,hB',hF,?_⟩
  rwa [show min (max (max ok 1) n) n=n by omega] at hs'
 case step =>
  rintro k c st' hak hkn ⟨rfl,hB',hF,hs'⟩;rw[show min k n=k by omega] at hs';have hk:lo+k<a₀.size:=∅
  refine ai (cM (bP (I:=λx c st''=>st''=st'/\∃ l r,c=(none,l,r)/\l<=r/\r<=k/\r-l<=k-x /\
    (∀ i,i<l->O.kle (KA key (arrOf st') (lo+i)) (KA key (arrOf st') (lo+k)))/\(∀ i,r<=i->i<k->O.klt (KA key (arrOf st') (lo+k)) (KA key (arrOf st') (lo+i))))
   (Q:=λc st''=>st''=st'/\∃ l r,c=(none,l,r)/\l<=k /\
    (∀ i,i<l->O.kle (KA key (arrOf st') (lo+i)) (KA key (arrOf st') (lo+k)))/\(∀ i,l<=i->i<k->O.klt (KA key (arrOf st') (lo+k)) (KA key (arrOf st') (lo+i)))) ?istep ?ifin ?iinit) ?ipost)
  case iinit=>exact⟨rfl,0,k,rfl,∅,∅,∅,λi hi=>∅,λi h1 h2=>∅⟩
  case ifin =>
   rintro c st'' ⟨rfl,l,r,rfl,hlr,hrk,hm,hlo,hhi⟩;have:l=r:=∅
   subst this;exact⟨rfl,l,l,rfl,hrk,hlo,hhi⟩
  case istep =>
   rintro x c st'' _ hxk ⟨rfl,l,r,rfl,hlr,hrk,hm,hlo,hhi⟩;dsimp only;by_cases hge:l>=r
   ·rw[if_pos hge];have:l=r:=∅
    subst this;exact ah ⟨rfl,l,l,rfl,hrk,hlo,hhi⟩
   ·rw[if_neg hge];refine ai (wpS_ltI C hB' hk ∅ ?_);cases hless:O.blt (KA key (arrOf st'') (lo+k)) (KA key (arrOf st'') (lo+(l+r) / 2))
    case true =>
     simp only[if_true];refine ah ⟨rfl,l,(l+r) / 2,rfl,∅,∅,∅,hlo,λi h1 h2=>?_⟩;exact KeyOrd.klt_of_klt_of_kle hless (hs' _ _ ∅ ∅ ∅)
    case false =>
     simp only[aP,if_false];refine ah ⟨rfl,(l+r) / 2+1,r,rfl,∅,∅,∅,λi h1=>?_,hhi⟩;exact aQ (hs' (lo+i) (lo+(l+r) / 2) ∅ ∅ ∅) (show O.kle _ _ from hless)
  case ipost =>
   rintro c st'' ⟨rfl,l,r,rfl,hlk,hlo,hhi⟩;show wpS _ _ _ _ (do moveDown' (lo+k) (lo+l);pure (bO (none,()))) _ _;rw[moveDown'_eq];have hks:lo+k<(arrOf st'').size:=by rw[hB'.size];exact hk
   refine ai (dI (ah ⟨rfl,hB'.setArr (bubble_perm _ _ _),hF.trans (From.bubble hks ∅ ∅),?_⟩));rw[show min (k+1) n=k+1 by omega];intro i j hli hij hj;show O.kle (KA key (bubble (arrOf st'') (lo+k) (lo+k-(lo+l))) i) (KA key (bubble (arrOf st'') (lo+k) (lo+k-(lo+l))) j);rw[KA_bubble hks ∅,KA_bubble hks ∅,show lo+k-(lo+k-(lo+l))=lo+l by omega];have hlo':∀ i,lo<=i->i<lo+l->O.kle (KA key (arrOf st'') i) (KA key (arrOf st'') (lo+k)):=λi a b=>by
    have:=hlo (i-lo) ∅
    rwa [show lo+(i-lo)=i by omega] at this
   have hhi':∀ i,lo+l<=i->i<lo+k->O.klt (KA key (arrOf st'') (lo+k)) (KA key (arrOf st'') i):=λi a b=>by
    have:=hhi (i-lo) ∅ ∅
    rwa [show lo+(i-lo)=i by omega] at this
   repeat' split
   all_goals first
    | (exfalso;omega)
    | exact b9 _
    | exact hlo' _ ∅ ∅
    | exact aM (hhi' _ ∅ ∅)
    | exact hs' _ _ ∅ ∅ ∅
end
end Ts
namespace Ts
open PySem PyProof.Rows
set_option autoImplicit false
section
variable {M:Model}{A:Around}{E:Value->Shared->Prop}{s:Shared}{a₀:Array Keyed}{knd:SortKind}{O:KeyOrd}{key:Keyed->O.α}
theorem wpS_galP {P:Nat->Bool}{lf:Bool}{ky:Keyed}{ar:Array Keyed}{bs nn hn:Nat}{st:SortSt}{Q:Option Nat->SortSt->Prop}(hk:kindOf st=knd)
  (hb:∀ i,i<nn->∀(st:SortSt) (Q:Option Bool->SortSt->Prop),kindOf st=knd->Q (some (P i)) st ->
   wpS M A E s (do let xx <- elem' ar (bs+i);if lf then lt' xx ky else return (<- lt' ky xx).map (!·)) Q st)
  (hP:∀ i j,i<=j->j<nn->P j=true->P i=true) (hh:hn<nn)
  (h:∀ k,k<=nn->(∀ i,i<k->P i=true)->(∀ i,k<=i->i<nn->P i=false)->Q (some k) st):wpS M A E s (galP lf ky ar bs nn hn) Q st:=by
 rw[galP_eq];have hN:∀ i j,i<=j->j<nn->P i=false->P j=false:=λi j a b c=>by
  cases e:P j with
  | false=>rfl
  | true=>rw[hP i j a b e] at c;exact absurd c (by simp)
 refine ai (hb hn hh _ _ hk ?_);cases e:P hn with
 | true =>
  simp only[if_true]
  refine ai (cM (bP (I:=λx c st'=>st'=st/\∃ la o,c=(none,la,o)/\la<o/\x+1<=o/\hn+la<nn/\P (hn+la)=true)
   (Q:=λc st'=>st'=st/\∃ la o,c=(none,la,o)/\la<o/\hn+la<nn/\P (hn+la)=true/\(nn-hn<=o\/(o<nn-hn/\P (hn+o)=false))) ?step ?fin ⟨rfl,0,1,rfl,∅,∅,hh,e⟩) ?post)
  case fin =>
   rintro c st' ⟨rfl,la,o,rfl,h1,h2,h3,h4⟩;exact⟨rfl,la,o,rfl,h1,h3,h4,.inl ∅⟩
  case step =>
   rintro x c st' _ hx ⟨rfl,la,o,rfl,h1,h2,h3,h4⟩;dsimp only;by_cases hge:o>=nn-hn
   ·rw[if_pos hge];exact ah ⟨rfl,la,o,rfl,h1,h3,h4,.inl hge⟩
   ·rw[if_neg hge];refine ai (hb (hn+o) ∅ _ _ hk ?_);cases e2:P (hn+o) with
    | true =>
     simp only[dY,aP,if_false];exact ah ⟨rfl,o,_,rfl,∅,∅,∅,e2⟩
    | false =>
     simp only[Bool.not_false,if_true];exact ah ⟨rfl,la,o,rfl,h1,h3,h4,.inr ⟨∅,e2⟩⟩
  case post =>
   rintro c st' ⟨rfl,la,o,rfl,h1,h3,h4,h5⟩;dsimp only;have hT:∀ i,i<(hn+la+1)->P i=true:=λi hi=>hP i (hn+la) ∅ h3 h4
   have hF:∀ i,(hn+min o (nn-hn))<=i->i<nn->P i=false:=λi hi hin=>by
    rcases h5 with h5 | ⟨h5,h6⟩
    ·omega
    ·exact hN (hn+o) i ∅ hin h6
   refine ai (cM (bP (I:=λx c st''=>st''=st'/\∃ l r,c=(none,l,r)/\l<=r/\r<=nn/\r-l<=nn-x/\(∀ i,i<l->P i=true)/\(∀ i,r<=i->i<nn->P i=false))
    (Q:=λc st''=>st''=st'/\∃ l,c=(none,l,l)/\l<=nn/\(∀ i,i<l->P i=true)/\(∀ i,l<=i->i<nn->P i=false)) ?step2 ?fin2 ⟨rfl,(hn+la+1),(hn+min o (nn-hn)),rfl,∅,∅,∅,hT,hF⟩) ?post2)
   case fin2 =>
    rintro c st'' ⟨rfl,l,r,rfl,h1,h2,h3,h4,h5⟩;have:l=r:=∅
    subst this;exact⟨rfl,l,rfl,h2,h4,h5⟩
   case post2 =>
    rintro c st'' ⟨rfl,l,rfl,h2,h4,h5⟩;exact ah (h l h2 h4 h5)
   case step2 =>
    rintro x c st'' _ hx ⟨rfl,l,r,rfl,h1,h2,h3,h4,h5⟩;dsimp only;by_cases hge:l>=r
    ·rw[if_pos hge];have:l=r:=∅
     subst this;exact ah ⟨rfl,l,rfl,h2,h4,h5⟩
    ·rw[if_neg hge];refine ai (hb (l+(r-l) / 2) ∅ _ _ hk ?_);cases e:P (l+(r-l) / 2) with
     | true =>
      simp only[if_true];exact ah ⟨rfl,_,r,rfl,∅,h2,∅,λi hi=>hP i _ ∅ ∅ e,h5⟩
     | false =>
      simp only[aP,if_false];exact ah ⟨rfl,l,_,rfl,∅,∅,∅,h4,λi a b=>hN _ i a b e⟩
 | false =>
  simp only[aP,if_false]
  refine ai (cM (bP (I:=λx c st'=>st'=st/\∃ la o,c=(none,la,o)/\la<o/\x+1<=o/\la<=hn/\P (hn-la)=false)
   (Q:=λc st'=>st'=st/\∃ la o,c=(none,la,o)/\la<o/\la<=hn/\P (hn-la)=false/\(hn+1<=o\/(o<=hn/\P (hn-o)=true))) ?step ?fin ⟨rfl,0,1,rfl,∅,∅,∅,e⟩) ?post)
  case fin =>
   rintro c st' ⟨rfl,la,o,rfl,h1,h2,h3,h4⟩;exact⟨rfl,la,o,rfl,h1,h3,h4,.inl ∅⟩
  case step =>
   rintro x c st' _ hx ⟨rfl,la,o,rfl,h1,h2,h3,h4⟩;dsimp only;by_cases hge:o>=hn+1
   ·rw[if_pos hge];exact ah ⟨rfl,la,o,rfl,h1,h3,h4,.inl hge⟩
   ·rw[if_neg hge];refine ai (hb (hn-o) ∅ _ _ hk ?_);cases e2:P (hn-o) with
    | true =>
     simp only[if_true];exact ah ⟨rfl,la,o,rfl,h1,h3,h4,.inr ⟨∅,e2⟩⟩
    | false =>
     simp only[aP,if_false];exact ah ⟨rfl,o,_,rfl,∅,∅,∅,e2⟩
  case post =>
   rintro c st' ⟨rfl,la,o,rfl,h1,h3,h4,h5⟩;dsimp only;have hT:∀ i,i<(hn+1-min o (hn+1))->P i=true:=λi hi=>by
    rcases h5 with h5 | ⟨h5,h6⟩
    ·omega
    ·exact hP i (hn-o) ∅ ∅ h6
   have hF:∀ i,(hn-la)<=i->i<nn->P i=false:=λi hi hin=>hN (hn-la) i hi hin h4
   refine ai (cM (bP (I:=λx c st''=>st''=st'/\∃ l r,c=(none,l,r)/\l<=r/\r<=nn/\r-l<=nn-x/\(∀ i,i<l->P i=true)/\(∀ i,r<=i->i<nn->P i=false))
    (Q:=λc st''=>st''=st'/\∃ l,c=(none,l,l)/\l<=nn/\(∀ i,i<l->P i=true)/\(∀ i,l<=i->i<nn->P i=false)) ?step2 ?fin2 ⟨rfl,(hn+1-min o (hn+1)),(hn-la),rfl,∅,∅,∅,hT,hF⟩) ?post2)
   case fin2 =>
    rintro c st'' ⟨rfl,l,r,rfl,h1,h2,h3,h4,h5⟩;have:l=r:=∅
    subst this;exact⟨rfl,l,rfl,h2,h4,h5⟩
   case post2 =>
    rintro c st'' ⟨rfl,l,rfl,h2,h4,h5⟩;exact ah (h l h2 h4 h5)
   case step2 =>
    rintro x c st'' _ hx ⟨rfl,l,r,rfl,h1,h2,h3,h4,h5⟩;dsimp only;by_cases hge:l>=r
    ·rw[if_pos hge];have:l=r:=∅
     subst this;exact ah ⟨rfl,l,rfl,h2,h4,h5⟩
    ·rw[if_neg hge];refine ai (hb (l+(r-l) / 2) ∅ _ _ hk ?_);cases e:P (l+(r-l) / 2) with
     | true =>
      simp only[if_true];exact ah ⟨rfl,_,r,rfl,∅,h2,∅,λi hi=>hP i _ ∅ ∅ e,h5⟩
     | false =>
      simp only[aP,if_false];exact ah ⟨rfl,l,_,rfl,∅,∅,∅,h4,λi a b=>hN _ i a b e⟩
theorem wpS_galR {ky:Keyed}{ar:Array Keyed}{bs nn hn:Nat}{st:SortSt}{Q:Option Nat->SortSt->Prop}(C:Cmp M A E s knd O key a₀)(hk:kindOf st=knd)(hm:ky∈a₀.toList)
  (ha:∀ i,i<nn->el ar (bs+i)∈a₀.toList) (hsz:bs+nn<=ar.size) (hs:Seg key ar bs (bs+nn)) (hh:hn<nn)
  (h:∀ k,k<=nn->(∀ i,bs<=i->i<bs+k->O.kle (KA key ar i) (key ky))->(∀ i,bs+k<=i->i<bs+nn->O.klt (key ky) (KA key ar i))->Q (some k) st):wpS M A E s (galP false ky ar bs nn hn) Q st:=by
 refine wpS_galP (P:=λi=>!O.blt (key ky) (KA key ar (bs+i))) hk (λi hi st Q hk q=>?_) (λi j hij hj e=>?_) hh λk hk1 h1 h2=>?_
 ·refine ai (wpS_elem ∅ ?_);simp only[aP,if_false];exact ai (C _ hm _ (ha i hi) st _ hk (ah q))
 ·have e':O.kle (KA key ar (bs+j)) (key ky):=by simpa [KeyOrd.kle] using e
  have:=aQ (hs (bs+i) (bs+j) ∅ ∅ ∅) e';simpa [KeyOrd.kle] using this
 ·refine h k hk1 (λi a b=>?_) λi a b=>?_
  ·have:=h1 (i-bs) ∅;rw[show bs+(i-bs)=i by omega] at this;simpa [KeyOrd.kle] using this
  ·have:=h2 (i-bs) ∅ ∅;rw[show bs+(i-bs)=i by omega] at this;simpa [KeyOrd.klt] using this
theorem wpS_galL {ky:Keyed}{ar:Array Keyed}{bs nn hn:Nat}{st:SortSt}{Q:Option Nat->SortSt->Prop}(C:Cmp M A E s knd O key a₀)(hk:kindOf st=knd)(hm:ky∈a₀.toList)
  (ha:∀ i,i<nn->el ar (bs+i)∈a₀.toList) (hsz:bs+nn<=ar.size) (hs:Seg key ar bs (bs+nn)) (hh:hn<nn)
  (h:∀ k,k<=nn->(∀ i,bs<=i->i<bs+k->O.klt (KA key ar i) (key ky))->(∀ i,bs+k<=i->i<bs+nn->O.kle (key ky) (KA key ar i))->Q (some k) st):wpS M A E s (galP true ky ar bs nn hn) Q st:=by
 refine wpS_galP (P:=λi=>O.blt (KA key ar (bs+i)) (key ky)) hk (λi hi st Q hk q=>?_) (λi j hij hj e=>?_) hh λk hk1 h1 h2=>?_
 ·refine ai (wpS_elem ∅ ?_);simp only[if_true];exact C _ (ha i hi) _ hm st _ hk q
 ·exact KeyOrd.klt_of_kle_of_klt (hs (bs+i) (bs+j) ∅ ∅ ∅) e
 ·refine h k hk1 (λi a b=>?_) λi a b=>?_
  ·have:=h1 (i-bs) ∅
   rwa [show bs+(i-bs)=i by omega] at this
  ·have:=h2 (i-bs) ∅ ∅
   rwa [show bs+(i-bs)=i by omega] at this
end
end Ts
namespace Ts
open PySem PyProof.Rows
set_option autoImplicit false
theorem toList_el {a:Array Keyed}{k:Nat}(h:k<a.size):a.toList[k]?=some (el a k):=by
 rw[bi];exact el_some h
theorem take_succ_el {a:Array Keyed}{i:Nat}(h:i<a.size):a.toList.take (i+1)=a.toList.take i++[el a i]:=by
 rw[b6,toList_el h];rfl
theorem drop_el {a:Array Keyed}{i:Nat}(h:i<a.size):a.toList.drop i=el a i::a.toList.drop (i+1):=by
 have hl:i<a.toList.length:= ~~~h
 rw[dj hl];congr 1;have:=toList_el h;rw[aq hl] at this;exact aG this
theorem mem_drop_el {a:Array Keyed}{i:Nat}{y:Keyed}(h:y∈a.toList.drop i):∃ k,i<=k/\k<a.size/\y=el a k:=by
 obtain⟨n,hn⟩:=bG.mp h;rw[eB] at hn;have hlt:i+n<a.size:=by
  have:=(ap.mp hn).1;simpa using this
 rw[toList_el hlt] at hn;exact⟨i+n,∅,hlt,(aG hn).symm⟩
theorem mem_take_el {a:Array Keyed}{i:Nat}{y:Keyed}(h:y∈a.toList.take i):∃ k,k<i/\k<a.size/\y=el a k:=by
 obtain⟨n,hn⟩:=bG.mp h;by_cases hi:n<i
 ·rw[dz hi] at hn;have hlt:n<a.size:=by
   have:=(ap.mp hn).1;simpa using this
  rw[toList_el hlt] at hn;exact⟨n,hi,hlt,(aG hn).symm⟩
 ·rw[List.getElem?_take_eq_none ∅] at hn;cases hn
theorem ext_end (a:Array Keyed)(i:Nat):(a.extract i a.size).toList=a.toList.drop i:=by
 rw[bW,bE,ce (by simp)]
theorem ext_top (a:Array Keyed)(i:Nat):(a.extract 0 i).toList=a.toList.take i:=by
 rw[bW,bE];simp
theorem ext_mid {a:Array Keyed}{i k:Nat}(h:i+k<a.size):(a.extract i (i+(k+1))).toList=(a.extract i (i+k)).toList++[el a (i+k)]:=by
 rw[bW,bE,bW,bE,show i+(k+1)-i=k+1 by omega,show i+k-i=k by omega,b6,eB,toList_el h];rfl
theorem ext_low {a:Array Keyed}{p i:Nat}(h:p<i)(hi:i<=a.size):(a.extract p i).toList=el a p::(a.extract (p+1) i).toList:=by
 rw[bW,bE,bW,bE,drop_el ∅,show i-p=(i-(p+1))+1 by omega,ix]
section
variable {O:KeyOrd}{key:Keyed->O.α}
def le {O:KeyOrd}(key:Keyed->O.α)(p q:Keyed):Prop:=O.kle (key p) (key q)
theorem pw_of_seg {a:Array Keyed}(h:Seg key a 0 a.size):a.toList.Pairwise (le key):=by
 rw[df];intro i j hi hj hij;have hi':i<a.size:= ~~~hi
 have hj':j<a.size:= ~~~hj
 have e1:=toList_el hi';rw[aq hi] at e1;have e2:=toList_el hj';rw[aq hj] at e2;rw[aG e1,aG e2];exact h i j ∅ ∅ hj'
theorem seg_of_pw {a:Array Keyed}(h:a.toList.Pairwise (le key)):Seg key a 0 a.size:=by
 rw[df] at h;intro i j _ hij hj;by_cases e:i=j
 ·subst e;exact b9 _
 ·have hi':i<a.size:=∅
  have hi:i<a.toList.length:= ~~~hi'
  have hj2:j<a.toList.length:= ~~~hj
  have e1:=toList_el hi';rw[aq hi] at e1;have e2:=toList_el hj;rw[aq hj2] at e2;have:=h i j hi hj2 ∅;rw[aG e1,aG e2] at this;exact this
def Res {O:KeyOrd}(key:Keyed->O.α)(a b m:Array Keyed):Prop:=m.toList.Perm (a.toList++b.toList)/\m.toList.Pairwise (le key)
structure GLo {O:KeyOrd}(key:Keyed->O.α)(a b o:Array Keyed)(i j:Nat):Prop where
 hi:i<=a.size
 hj:j<=b.size
 sz:o.size=i+j
 pm:o.toList.Perm (a.toList.take i++b.toList.take j)
 so:o.toList.Pairwise (le key)
 la:∀ x∈o.toList,∀ k,i<=k->k<a.size->le key x (el a k)
 lb:∀ x∈o.toList,∀ k,j<=k->k<b.size->le key x (el b k)
variable {a b o:Array Keyed}{i j:Nat}
theorem GLo.pushB (g:GLo key a b o i j)(sb:Seg key b 0 b.size)(h:j<b.size)(hl:∀ k,i<=k->k<a.size->le key (el b j) (el a k)):GLo key a b (o.push (el b j)) i (j+1) where
 hi:=g.hi
 hj:=h
 sz:=by rw[fg,g.sz];omega
 pm:=by
  rw[bd,take_succ_el h,<- aZ];exact g.pm.append_right _
 so:=by
  rw[bd,bL];refine⟨g.so,bq _ _,λx hx y hy=>?_⟩;rw[ag.mp hy];exact g.lb x hx j (aj _) h
 la:=λx hx k h1 h2=>by
  rw[bd,al,ag] at hx;rcases hx with hx | rfl
  ·exact g.la x hx k h1 h2
  ·exact hl k h1 h2
 lb:=λx hx k h1 h2=>by
  rw[bd,al,ag] at hx;rcases hx with hx | rfl
  ·exact g.lb x hx k ∅ h2
  ·exact sb j k ∅ ∅ h2
theorem GLo.pushA (g:GLo key a b o i j)(sa:Seg key a 0 a.size)(h:i<a.size)(hl:∀ k,j<=k->k<b.size->le key (el a i) (el b k)):GLo key a b (o.push (el a i)) (i+1) j where
 hi:=h
 hj:=g.hj
 sz:=by rw[fg,g.sz];omega
 pm:=by
  rw[bd,take_succ_el h];refine (g.pm.append_right _).trans ?_;rw[aZ,aZ];exact cw.append_left _
 so:=by
  rw[bd,bL];refine⟨g.so,bq _ _,λx hx y hy=>?_⟩;rw[ag.mp hy];exact g.la x hx i (aj _) h
 la:=λx hx k h1 h2=>by
  rw[bd,al,ag] at hx;rcases hx with hx | rfl
  ·exact g.la x hx k ∅ h2
  ·exact sa i k ∅ ∅ h2
 lb:=λx hx k h1 h2=>by
  rw[bd,al,ag] at hx;rcases hx with hx | rfl
  ·exact g.lb x hx k h1 h2
  ·exact hl k h1 h2
theorem app_nil (a o:Array Keyed)(i:Nat):o++a.extract i (i+0)=o:=by
 apply fK;simp
theorem app_succ {a o:Array Keyed}{i k:Nat}(h:i+k<a.size):o++a.extract i (i+(k+1))=(o++a.extract i (i+k)).push (el a (i+k)):=by
 apply fK;rw[aV,ext_mid h,bd,aV,aZ]
theorem GLo.appA (g:GLo key a b o i j)(sa:Seg key a 0 a.size):∀ k,i+k<=a.size->(∀ m,i<=m->m<i+k->∀ n,j<=n->n<b.size->le key (el a m) (el b n))->GLo key a b (o++a.extract i (i+k)) (i+k) j
 | 0,_,_=>by rw[app_nil];exact g
 | k+1,h,hl=>by
  rw[app_succ ∅];exact (GLo.appA g sa k ∅ λm h1 h2=>hl m h1 ∅).pushA sa ∅ λn h1 h2=>hl (i+k) ∅ ∅ n h1 h2
theorem GLo.appB (g:GLo key a b o i j)(sb:Seg key b 0 b.size):∀ k,j+k<=b.size->(∀ m,j<=m->m<j+k->∀ n,i<=n->n<a.size->le key (el b m) (el a n))->GLo key a b (o++b.extract j (j+k)) i (j+k)
 | 0,_,_=>by rw[app_nil];exact g
 | k+1,h,hl=>by
  rw[app_succ ∅];exact (GLo.appB g sb k ∅ λm h1 h2=>hl m h1 ∅).pushB sb ∅ λn h1 h2=>hl (j+k) ∅ ∅ n h1 h2
theorem pw_drop {a:Array Keyed}(h:Seg key a 0 a.size)(i:Nat):(a.toList.drop i).Pairwise (le key):=(pw_of_seg h).sublist (List.drop_sublist _ _)
theorem pw_take {a:Array Keyed}(h:Seg key a 0 a.size)(i:Nat):(a.toList.take i).Pairwise (le key):=(pw_of_seg h).sublist (fL _ _)
theorem perm4 {α:Type}(A B C D:List α):(A++B++(C++D)).Perm (A++C++(B++D)):=by
 rw[aZ,aZ];refine gH A ?_;rw[<- aZ,<- aZ];exact cw.append_right D
theorem GLo.done (g:GLo key a b o i j)(sa:Seg key a 0 a.size)(sb:Seg key b 0 b.size)(h:i=a.size\/j=b.size):Res key a b (o++a.extract i a.size++b.extract j b.size):=by
 unfold Res;rw[aV,aV,ext_end,ext_end];refine⟨?_,?_⟩
 ·rw[aZ];refine (g.pm.append_right _).trans ((perm4 _ _ _ _).trans ?_);rw[bB,bB]
 ·rw[aZ,bL];refine⟨g.so,?_,λx hx y hy=>?_⟩
  ·rcases h with h | h
   ·rw[h,cL (by simp)];exact pw_drop sb j
   ·rw[h,cL (l:=b.toList) (by simp),b5];exact pw_drop sa i
  ·rcases al.mp hy with hy | hy
   ·obtain⟨k,h1,h2,rfl⟩:=mem_drop_el hy;exact g.la x hx k h1 h2
   ·obtain⟨k,h1,h2,rfl⟩:=mem_drop_el hy;exact g.lb x hx k h1 h2
theorem GLo.last (g:GLo key a b o i j)(sb:Seg key b 0 b.size)(h:i+1=a.size)(hl:∀ k,j<=k->k<b.size->le key (el b k) (el a i)):Res key a b (o++b.extract j b.size++a.extract i a.size):=by
 unfold Res;rw[aV,aV,ext_end,ext_end];have ed:a.toList.drop i=[el a i]:=by rw[drop_el ∅,cL (by simp;omega)]
 refine⟨?_,?_⟩
 ·rw[aZ];refine (g.pm.append_right _).trans ((cw.append_left _).trans ((perm4 _ _ _ _).trans ?_));rw[bB,bB]
 ·rw[aZ,bL,ed];refine⟨g.so,?_,λx hx y hy=>?_⟩
  ·rw[bL];refine⟨pw_drop sb j,bq _ _,λx hx y hy=>?_⟩;obtain⟨k,h1,h2,rfl⟩:=mem_drop_el hx;rw[ag.mp hy];exact hl k h1 h2
  ·rcases al.mp hy with hy | hy
   ·obtain⟨k,h1,h2,rfl⟩:=mem_drop_el hy;exact g.lb x hx k h1 h2
   ·rw[ag.mp hy];exact g.la x hx i (aj _) ∅
structure GHi {O:KeyOrd}(key:Keyed->O.α)(a b o:Array Keyed)(i j:Nat):Prop where
 hi:i<=a.size
 hj:j<=b.size
 sz:o.size+i+j=a.size+b.size
 pm:o.toList.Perm (a.toList.drop i++b.toList.drop j)
 so:o.toList.Pairwise λp q=>le key q p
 la:∀ x∈o.toList,∀ k,k<i->le key (el a k) x
 lb:∀ x∈o.toList,∀ k,k<j->le key (el b k) x
theorem GHi.pushA (g:GHi key a b o (i+1) j)(sa:Seg key a 0 a.size)(hl:∀ k,k<j->le key (el b k) (el a i)):GHi key a b (o.push (el a i)) i j where
 hi:=by have:=g.hi;omega
 hj:=g.hj
 sz:=by rw[fg];have:=g.sz;omega
 pm:=by
  rw[bd,drop_el (show i<a.size by have:=g.hi;omega)];refine (cw).trans ?_;exact List.Perm.cons _ g.pm
 so:=by
  rw[bd,bL];refine⟨g.so,bq _ _,λx hx y hy=>?_⟩;rw[ag.mp hy];exact g.la x hx i ∅
 la:=λx hx k h1=>by
  rw[bd,al,ag] at hx;rcases hx with hx | rfl
  ·exact g.la x hx k ∅
  ·exact sa k i ∅ ∅ (by have:=g.hi;omega)
 lb:=λx hx k h1=>by
  rw[bd,al,ag] at hx;rcases hx with hx | rfl
  ·exact g.lb x hx k h1
  ·exact hl k h1
theorem GHi.pushB (g:GHi key a b o i (j+1))(sb:Seg key b 0 b.size)(hl:∀ k,k<i->le key (el a k) (el b j)):GHi key a b (o.push (el b j)) i j where
 hi:=g.hi
 hj:=by have:=g.hj;omega
 sz:=by rw[fg];have:=g.sz;omega
 pm:=by
  rw[bd,drop_el (show j<b.size by have:=g.hj;omega)];refine (g.pm.append_right _).trans ?_;rw[aZ];exact gH _ cw
 so:=by
  rw[bd,bL];refine⟨g.so,bq _ _,λx hx y hy=>?_⟩;rw[ag.mp hy];exact g.lb x hx j ∅
 la:=λx hx k h1=>by
  rw[bd,al,ag] at hx;rcases hx with hx | rfl
  ·exact g.la x hx k h1
  ·exact hl k h1
 lb:=λx hx k h1=>by
  rw[bd,al,ag] at hx;rcases hx with hx | rfl
  ·exact g.lb x hx k ∅
  ·exact sb k j ∅ ∅ (by have:=g.hj;omega)
theorem rev_nil (a o:Array Keyed)(p:Nat):o++(a.extract p p).reverse=o:=by
 apply fK;simp
theorem rev_succ {a o:Array Keyed}{p i:Nat}(h:p<i)(hi:i<=a.size):o++(a.extract p i).reverse=(o++(a.extract (p+1) i).reverse).push (el a p):=by
 apply fK;rw[aV,dR,ext_low h hi,bd,aV,dR,dL,aZ]
theorem GHi.appA (g:GHi key a b o i j)(sa:Seg key a 0 a.size):∀ d p,p+d=i->(∀ m,p<=m->m<i->∀ k,k<j->le key (el b k) (el a m))->GHi key a b (o++(a.extract p i).reverse) p j
 | 0,p,h,_=>by
  have:p=i:=∅
  subst this;rw[rev_nil];exact g
 | d+1,p,h,hl=>by
  rw[rev_succ ∅ g.hi];exact (GHi.appA g sa d (p+1) ∅ λm h1 h2=>hl m ∅ h2).pushA sa λk hk=>hl p ∅ ∅ k hk
theorem GHi.appB (g:GHi key a b o i j)(sb:Seg key b 0 b.size):∀ d p,p+d=j->(∀ m,p<=m->m<j->∀ k,k<i->le key (el a k) (el b m))->GHi key a b (o++(b.extract p j).reverse) i p
 | 0,p,h,_=>by
  have:p=j:=∅
  subst this;rw[rev_nil];exact g
 | d+1,p,h,hl=>by
  rw[rev_succ ∅ g.hj];exact (GHi.appB g sb d (p+1) ∅ λm h1 h2=>hl m ∅ h2).pushB sb λk hk=>hl p ∅ ∅ k hk
theorem GHi.done (g:GHi key a b o i j)(sa:Seg key a 0 a.size)(sb:Seg key b 0 b.size)(h:i=0\/j=0):Res key a b (a.extract 0 i++b.extract 0 j++o.reverse):=by
 unfold Res;rw[aV,aV,ext_top,ext_top,dR];refine⟨?_,?_⟩
 ·refine (((iN _).trans g.pm).append_left _).trans ((perm4 _ _ _ _).trans ?_);rw[bB,bB]
 ·rw[bL];refine⟨?_,ib.mpr g.so,λx hx y hy=>?_⟩
  ·rcases h with h | h
   ·rw[h,cK,cf];exact pw_take sb j
   ·rw[h,cK,b5];exact pw_take sa i
  ·rw[List.mem_reverse] at hy;rcases al.mp hx with hx | hx
   ·obtain⟨k,h1,h2,rfl⟩:=mem_take_el hx;exact g.la y hy k h1
   ·obtain⟨k,h1,h2,rfl⟩:=mem_take_el hx;exact g.lb y hy k h1
theorem GHi.first (g:GHi key a b o i j)(sa:Seg key a 0 a.size)(h:j=1)(hl:∀ k,k<i->le key (el b 0) (el a k)):Res key a b (b.extract 0 j++a.extract 0 i++o.reverse):=by
 subst h;unfold Res;rw[aV,aV,ext_top,ext_top,dR];refine⟨?_,?_⟩
 ·refine (((iN _).trans g.pm).append_left _).trans ((cw.append_right _).trans ((perm4 _ _ _ _).trans ?_));rw[bB,bB]
 ·rw[bL];refine⟨?_,ib.mpr g.so,λx hx y hy=>?_⟩
  ·rw[bL];refine⟨?_,pw_take sa i,λx hx y hy=>?_⟩
   ·rw[take_succ_el g.hj,cK];exact bq _ _
   ·obtain⟨k,h1,h2,rfl⟩:=mem_take_el hx;obtain⟨k',h1',h2',rfl⟩:=mem_take_el hy;have:k=0:=∅
    subst this;exact hl k' h1'
  ·rw[List.mem_reverse] at hy;rcases al.mp hx with hx | hx
   ·obtain⟨k,h1,h2,rfl⟩:=mem_take_el hx;exact g.lb y hy k h1
   ·obtain⟨k,h1,h2,rfl⟩:=mem_take_el hx;exact g.la y hy k h1
end
end Ts
namespace Ts
open PySem PyProof.Rows
set_option autoImplicit false
def Sg (st st':SortSt):Prop:=∃ g,st'=dU (kindOf st) (arrOf st) (pendingOf st) g (failedOf st)
theorem Sg.refl (st:SortSt):Sg st st:=⟨gallopOf st,rfl⟩
theorem Sg.kind {st st':SortSt}(h:Sg st st'):kindOf st'=kindOf st:=by obtain⟨g,rfl⟩:=h;rfl
theorem Sg.set {st st':SortSt}(h:Sg st st')(g:Nat):Sg st (dU (kindOf st') (arrOf st') (pendingOf st') g (failedOf st')):=by obtain⟨g',rfl⟩:=h;exact⟨g,rfl⟩
section
variable {M:Model}{A:Around}{E:Value->Shared->Prop}{s:Shared}{a₀:Array Keyed}{knd:SortKind}{O:KeyOrd}{key:Keyed->O.α}
theorem wpS_setGal {g:Nat}{st:SortSt}{Q:Unit->SortSt->Prop}(h:Q () (dU (kindOf st) (arrOf st) (pendingOf st) g (failedOf st))):wpS M A E s (setGal g) Q st:=dI h
theorem wpS_mLo {a b:Array Keyed}{st:SortSt}{Q:Array Keyed->SortSt->Prop}(C:Cmp M A E s knd O key a₀)(hk:kindOf st=knd)
  (ma:∀ k,k<a.size->el a k∈a₀.toList) (mb:∀ k,k<b.size->el b k∈a₀.toList) (sa:Seg key a 0 a.size) (sb:Seg key b 0 b.size) (ha:1<=a.size) (hb:1<=b.size)
  (h0:∀ k,k<a.size->le key (el b 0) (el a k)) (hl:∀ k,k<b.size->le key (el b k) (el a (a.size-1)))
  (h:∀ m st',Res key a b m->Sg st st'->Q m st'):wpS M A E s (mLo a b) Q st:=by
 rw[mLo_eq];refine ai (wpS_rule ?_);refine ai (wpS_elem hb ?_);dsimp only;have G0:GLo key a b #[el b 0] 0 1 :=
  ⟨∅,hb,rfl,by rw[take_succ_el hb];simp,bq _ _,λx hx k _ h2=>by rw[ag.mp hx];exact h0 k h2,λx hx k h1 h2=>by rw[ag.mp hx];exact sb 0 k ∅ ∅ h2⟩
 by_cases c1:1=b.size
 ·rw[if_pos (~~~c1)];exact ah (h _ _ (G0.done sa sb (.inr c1)) (Sg.refl _))
 rw[if_neg (~~~c1)];by_cases c2:0+1=a.size
 ·rw[if_pos (~~~c2)];exact ah (h _ _ (G0.last sb c2 λk _ h2=>by rw[show (0:Nat)=a.size-1 by omega];exact hl k h2) (Sg.refl _))
 rw[if_neg (~~~c2)];refine ai (eZ ?_)
 refine ai (cM (bP (I:=λx c st'=>Sg st st'/\∃ o i j mg,c=(none,o,i,j,mg)/\GLo key a b o i j/\i+1<a.size/\j<b.size/\x<o.size)
  (Q:=λc st'=>Sg st st'/\∃ m,c.fst=some m/\Res key a b m) ?step ?fin ⟨Sg.refl _,_,_,_,_,rfl,G0,∅,∅,by simp⟩) ?post)
 case fin =>
  rintro c st' ⟨_,o,i,j,mg,rfl,G,h1,h2,h3⟩;have:=G.sz;omega
 case post =>
  rintro⟨r,c⟩ st' ⟨hg,m,e,hr⟩;cases e;exact ah (h m st' hr hg)
 case step =>
  rintro x c st1 _ hx ⟨hg,o,i,j,mg,rfl,G,h1,h2,h3⟩;dsimp only
  refine ai (cM (bP (I:=λy c st'=>st'=st1/\∃ o i j ac bc,c=(none,o,i,j,ac,bc)/\GLo key a b o i j/\i+1<a.size/\j<b.size/\x<o.size/\(0<y->x+1<o.size))
   (Q:=λc st'=>st'=st1/\((∃ m,c.fst=some m/\Res key a b m)\/∃ o i j ac bc,c=(none,o,i,j,ac,bc)/\GLo key a b o i j/\i+1<a.size/\j<b.size/\x+1<o.size)) ?s1 ?f1 ⟨rfl,_,_,_,_,_,rfl,G,h1,h2,h3,∅⟩) ?p1)
  case f1 =>
   rintro c st' ⟨rfl,o,i,j,ac,bc,rfl,G,h1,h2,h3,h4⟩;exact⟨rfl,.inr ⟨o,i,j,ac,bc,rfl,G,h1,h2,h4 ∅⟩⟩
  case s1 =>
   rintro y c st' _ hy ⟨rfl,o,i,j,ac,bc,rfl,G,h1,h2,h3,h4⟩;dsimp only;refine ai (wpS_elem ∅ ?_);refine ai (wpS_elem ∅ ?_);refine ai (C _ (mb _ ∅) _ (ma _ ∅) _ _ (hg.kind.trans hk) ?_);cases hw:O.blt (key (el b j)) (key (el a i)) with
   | true =>
    simp only[if_true];refine ai (wpS_elem ∅ ?_);have G1:=G.pushB sb h2 λk a1 a2=>aQ (aM hw) (sa i k ∅ a1 a2)
    have hz:=G.sz;have hz1:=G1.sz;by_cases e1:j+1=b.size
    ·rw[if_pos (~~~e1)];exact ah ⟨rfl,.inl ⟨_,rfl,G1.done sa sb (.inr e1)⟩⟩
    ·rw[if_neg (~~~e1)];split
     ·exact ah ⟨rfl,.inr ⟨_,_,_,_,_,rfl,G1,∅,∅,∅⟩⟩
     ·exact ah ⟨rfl,_,_,_,_,_,rfl,G1,∅,∅,∅,λ_=>∅⟩
   | false =>
    simp only[aP,if_false];refine ai (wpS_elem ∅ ?_);have hw':O.kle (key (el a i)) (key (el b j)):=hw;have G1:=G.pushA sa ∅ λk a1 a2=>aQ hw' (sb j k ∅ a1 a2)
    have hz:=G.sz;have hz1:=G1.sz;by_cases e1:i+1+1=a.size
    ·rw[if_pos (~~~e1)];exact ah ⟨rfl,.inl ⟨_,rfl,G1.last sb e1 λk a1 a2=>by rw[show i+1=a.size-1 by omega];exact hl k a2⟩⟩
    ·rw[if_neg (~~~e1)];split
     ·exact ah ⟨rfl,.inr ⟨_,_,_,_,_,rfl,G1,∅,∅,∅⟩⟩
     ·exact ah ⟨rfl,_,_,_,_,_,rfl,G1,∅,∅,∅,λ_=>∅⟩
  case p1 =>
   rintro⟨r,c⟩ st' ⟨rfl,⟨m,e,hr⟩ | ⟨o,i,j,ac,bc,e,G,h1,h2,h3⟩⟩
   ·cases e;exact ah ⟨hg,m,rfl,hr⟩
   ·cases e;dsimp only;refine ai (wpS_rule ?_)
    refine ai (cM (bP (I:=λy c st'=>Sg st st'/\∃ o i j mg ac bc,c=(none,o,i,j,mg,ac,bc)/\GLo key a b o i j/\i+1<a.size/\j<b.size/\x+1<o.size)
     (Q:=λc st'=>Sg st st'/\((∃ m,c.fst=some m/\Res key a b m)\/∃ o i j mg ac bc,c=(none,o,i,j,mg,ac,bc)/\GLo key a b o i j/\i+1<a.size/\j<b.size/\x+1<o.size)) ?s2 ?f2 ⟨hg,_,_,_,_,_,_,rfl,G,h1,h2,h3⟩) ?p2)
    case f2 =>
     rintro c st' ⟨hg,o,i,j,mg,ac,bc,rfl,G,h1,h2,h3⟩;exact⟨hg,.inr ⟨o,i,j,mg,ac,bc,rfl,G,h1,h2,h3⟩⟩
    case p2 =>
     rintro⟨r,c⟩ st' ⟨hg,⟨m,e,hr⟩ | ⟨o,i,j,mg,ac,bc,e,G,h1,h2,h3⟩⟩
     ·cases e;exact ah ⟨hg,m,rfl,hr⟩
     ·cases e;dsimp only;refine ai (wpS_setGal ?_);exact ah ⟨hg.set _,o,i,j,_,rfl,G,h1,h2,h3⟩
    case s2 =>
     rintro y c st' _ hy ⟨hg,o,i,j,mg,ac,bc,rfl,G,h1,h2,h3⟩;dsimp only;have hz0:=G.sz;by_cases hmg:mg>1
     ·rw[if_pos hmg];refine ai (wpS_setGal ?_);refine ai (wpS_elem ∅ ?_);refine ai (wpS_galR C (by exact hg.kind.trans hk) (mb _ ∅) (λm hm=>ma _ ∅) ∅ (sa.sub ∅ ∅) ∅ λk hkk hle hgt0=>?_);dsimp only;have hgt:∀ m,i+k<=m->m<a.size->O.klt (KA key b j) (KA key a m):=λm h1 h2=>hgt0 m h1 ∅
      by_cases hk0:k>0
      ·rw[if_pos hk0];have G1:=G.appA sa k ∅ λm h1 h2 n h3 h4=>aQ (hle m h1 h2) (sb _ n ∅ h3 h4)
       by_cases e1:i+k+1=a.size
       ·rw[if_pos (~~~e1)];exact ah ⟨hg.set _,.inl ⟨_,rfl,G1.last sb e1 λm h1 h2=>by rw[show i+k=a.size-1 by omega];exact hl m h2⟩⟩
       ·rw[if_neg (~~~e1)];by_cases e2:i+k=a.size
        ·rw[if_pos (~~~e2)];exact ah ⟨hg.set _,.inl ⟨_,rfl,G1.done sa sb (.inl e2)⟩⟩
        ·rw[if_neg (~~~e2)];refine ai (wpS_elem ∅ ?_);have G2:=G1.pushB sb ∅ λm h1 h2=>aM (hgt m h1 h2)
         have hz1:=G1.sz;have hz2:=G2.sz;by_cases e3:j+1=b.size
         ·rw[if_pos (~~~e3)];exact ah ⟨hg.set _,.inl ⟨_,rfl,G2.done sa sb (.inr e3)⟩⟩
         ·rw[if_neg (~~~e3)];refine ai (wpS_elem ∅ ?_);refine ai (wpS_galL C (by exact hg.kind.trans hk) (ma _ ∅) (λm hm=>mb _ ∅) ∅ (sb.sub ∅ ∅) ∅ λk2 hk2 hlt hge0=>?_);dsimp only;have hge:∀ m,j+1+k2<=m->m<b.size->O.kle (KA key a (i+k)) (KA key b m):=λm h1 h2=>hge0 m h1 ∅
          by_cases hk20:k2>0
          ·rw[if_pos hk20];have G3:=G2.appB sb k2 ∅ λm h1 h2 n h3 h4=>aQ (aM (hlt m h1 h2)) (sa _ n ∅ h3 h4)
           by_cases e5:j+1+k2=b.size
           ·rw[if_pos (~~~e5)];exact ah ⟨hg.set _,.inl ⟨_,rfl,G3.done sa sb (.inr e5)⟩⟩
           ·rw[if_neg (~~~e5)];refine ai (wpS_elem ∅ ?_);have G4:=G3.pushA sa ∅ λk h1 h2=>hge k h1 h2
            by_cases e4:(i+k)+1+1=a.size
            ·rw[if_pos (~~~e4)];exact ah ⟨hg.set _,.inl ⟨_,rfl,G4.last sb e4 λn h1 h2=>by rw[show (i+k)+1=a.size-1 by omega];exact hl n h2⟩⟩
            ·rw[if_neg (~~~e4)];have hz4:=G4.sz;have hz3:=G3.sz;split
             ·exact ah ⟨hg.set _,.inr ⟨_,_,_,_,_,_,rfl,G4,∅,∅,∅⟩⟩
             ·exact ah ⟨hg.set _,_,_,_,_,_,_,rfl,G4,∅,∅,∅⟩
          ·rw[if_neg hk20];have hk2z:k2=0:=∅
           subst hk2z;have G3:=G2;refine ai (wpS_elem ∅ ?_);have G4:=G3.pushA sa ∅ λk h1 h2=>hge k h1 h2
           by_cases e4:(i+k)+1+1=a.size
           ·rw[if_pos (~~~e4)];exact ah ⟨hg.set _,.inl ⟨_,rfl,G4.last sb e4 λn h1 h2=>by rw[show (i+k)+1=a.size-1 by omega];exact hl n h2⟩⟩
           ·rw[if_neg (~~~e4)];have hz4:=G4.sz;have hz3:=G3.sz;split
            ·exact ah ⟨hg.set _,.inr ⟨_,_,_,_,_,_,rfl,G4,∅,∅,∅⟩⟩
            ·exact ah ⟨hg.set _,_,_,_,_,_,_,rfl,G4,∅,∅,∅⟩
      ·rw[if_neg hk0];have hkz:k=0:=∅
       subst hkz;have G1:=G;refine ai (wpS_elem ∅ ?_);have G2:=G1.pushB sb ∅ λm h1 h2=>aM (hgt m h1 h2)
       have hz1:=G1.sz;have hz2:=G2.sz;by_cases e3:j+1=b.size
       ·rw[if_pos (~~~e3)];exact ah ⟨hg.set _,.inl ⟨_,rfl,G2.done sa sb (.inr e3)⟩⟩
       ·rw[if_neg (~~~e3)];refine ai (wpS_elem ∅ ?_);refine ai (wpS_galL C (by exact hg.kind.trans hk) (ma _ ∅) (λm hm=>mb _ ∅) ∅ (sb.sub ∅ ∅) ∅ λk2 hk2 hlt hge0=>?_);dsimp only;have hge:∀ m,j+1+k2<=m->m<b.size->O.kle (KA key a (i)) (KA key b m):=λm h1 h2=>hge0 m h1 ∅
        by_cases hk20:k2>0
        ·rw[if_pos hk20];have G3:=G2.appB sb k2 ∅ λm h1 h2 n h3 h4=>aQ (aM (hlt m h1 h2)) (sa _ n ∅ h3 h4)
         by_cases e5:j+1+k2=b.size
         ·rw[if_pos (~~~e5)];exact ah ⟨hg.set _,.inl ⟨_,rfl,G3.done sa sb (.inr e5)⟩⟩
         ·rw[if_neg (~~~e5)];refine ai (wpS_elem ∅ ?_);have G4:=G3.pushA sa ∅ λk h1 h2=>hge k h1 h2
          by_cases e4:(i)+1+1=a.size
          ·rw[if_pos (~~~e4)];exact ah ⟨hg.set _,.inl ⟨_,rfl,G4.last sb e4 λn h1 h2=>by rw[show (i)+1=a.size-1 by omega];exact hl n h2⟩⟩
          ·rw[if_neg (~~~e4)];have hz4:=G4.sz;have hz3:=G3.sz;split
           ·exact ah ⟨hg.set _,.inr ⟨_,_,_,_,_,_,rfl,G4,∅,∅,∅⟩⟩
           ·exact ah ⟨hg.set _,_,_,_,_,_,_,rfl,G4,∅,∅,∅⟩
        ·rw[if_neg hk20];have hk2z:k2=0:=∅
         subst hk2z;have G3:=G2;refine ai (wpS_elem ∅ ?_);have G4:=G3.pushA sa ∅ λk h1 h2=>hge k h1 h2
         by_cases e4:(i)+1+1=a.size
         ·rw[if_pos (~~~e4)];exact ah ⟨hg.set _,.inl ⟨_,rfl,G4.last sb e4 λn h1 h2=>by rw[show (i)+1=a.size-1 by omega];exact hl n h2⟩⟩
         ·rw[if_neg (~~~e4)];have hz4:=G4.sz;have hz3:=G3.sz;split
          ·exact ah ⟨hg.set _,.inr ⟨_,_,_,_,_,_,rfl,G4,∅,∅,∅⟩⟩
          ·exact ah ⟨hg.set _,_,_,_,_,_,_,rfl,G4,∅,∅,∅⟩
     ·rw[if_neg hmg];refine ai (wpS_setGal ?_);refine ai (wpS_elem ∅ ?_);refine ai (wpS_galR C (by exact hg.kind.trans hk) (mb _ ∅) (λm hm=>ma _ ∅) ∅ (sa.sub ∅ ∅) ∅ λk hkk hle hgt0=>?_);dsimp only;have hgt:∀ m,i+k<=m->m<a.size->O.klt (KA key b j) (KA key a m):=λm h1 h2=>hgt0 m h1 ∅
      by_cases hk0:k>0
      ·rw[if_pos hk0];have G1:=G.appA sa k ∅ λm h1 h2 n h3 h4=>aQ (hle m h1 h2) (sb _ n ∅ h3 h4)
       by_cases e1:i+k+1=a.size
       ·rw[if_pos (~~~e1)];exact ah ⟨hg.set _,.inl ⟨_,rfl,G1.last sb e1 λm h1 h2=>by rw[show i+k=a.size-1 by omega];exact hl m h2⟩⟩
       ·rw[if_neg (~~~e1)];by_cases e2:i+k=a.size
        ·rw[if_pos (~~~e2)];exact ah ⟨hg.set _,.inl ⟨_,rfl,G1.done sa sb (.inl e2)⟩⟩
        ·rw[if_neg (~~~e2)];refine ai (wpS_elem ∅ ?_);have G2:=G1.pushB sb ∅ λm h1 h2=>aM (hgt m h1 h2)
         have hz1:=G1.sz;have hz2:=G2.sz;by_cases e3:j+1=b.size
         ·rw[if_pos (~~~e3)];exact ah ⟨hg.set _,.inl ⟨_,rfl,G2.done sa sb (.inr e3)⟩⟩
         ·rw[if_neg (~~~e3)];refine ai (wpS_elem ∅ ?_);refine ai (wpS_galL C (by exact hg.kind.trans hk) (ma _ ∅) (λm hm=>mb _ ∅) ∅ (sb.sub ∅ ∅) ∅ λk2 hk2 hlt hge0=>?_);dsimp only;have hge:∀ m,j+1+k2<=m->m<b.size->O.kle (KA key a (i+k)) (KA key b m):=λm h1 h2=>hge0 m h1 ∅
          by_cases hk20:k2>0
          ·rw[if_pos hk20];have G3:=G2.appB sb k2 ∅ λm h1 h2 n h3 h4=>aQ (aM (hlt m h1 h2)) (sa _ n ∅ h3 h4)
           by_cases e5:j+1+k2=b.size
           ·rw[if_pos (~~~e5)];exact ah ⟨hg.set _,.inl ⟨_,rfl,G3.done sa sb (.inr e5)⟩⟩
           ·rw[if_neg (~~~e5)];refine ai (wpS_elem ∅ ?_);have G4:=G3.pushA sa ∅ λk h1 h2=>hge k h1 h2
            by_cases e4:(i+k)+1+1=a.size
            ·rw[if_pos (~~~e4)];exact ah ⟨hg.set _,.inl ⟨_,rfl,G4.last sb e4 λn h1 h2=>by rw[show (i+k)+1=a.size-1 by omega];exact hl n h2⟩⟩
            ·rw[if_neg (~~~e4)];have hz4:=G4.sz;have hz3:=G3.sz;split
             ·exact ah ⟨hg.set _,.inr ⟨_,_,_,_,_,_,rfl,G4,∅,∅,∅⟩⟩
             ·exact ah ⟨hg.set _,_,_,_,_,_,_,rfl,G4,∅,∅,∅⟩
          ·rw[if_neg hk20];have hk2z:k2=0:=∅
           subst hk2z;have G3:=G2;refine ai (wpS_elem ∅ ?_);have G4:=G3.pushA sa ∅ λk h1 h2=>hge k h1 h2
           by_cases e4:(i+k)+1+1=a.size
           ·rw[if_pos (~~~e4)];exact ah ⟨hg.set _,.inl ⟨_,rfl,G4.last sb e4 λn h1 h2=>by rw[show (i+k)+1=a.size-1 by omega];exact hl n h2⟩⟩
           ·rw[if_neg (~~~e4)];have hz4:=G4.sz;have hz3:=G3.sz;split
            ·exact ah ⟨hg.set _,.inr ⟨_,_,_,_,_,_,rfl,G4,∅,∅,∅⟩⟩
            ·exact ah ⟨hg.set _,_,_,_,_,_,_,rfl,G4,∅,∅,∅⟩
      ·rw[if_neg hk0];have hkz:k=0:=∅
       subst hkz;have G1:=G;refine ai (wpS_elem ∅ ?_);have G2:=G1.pushB sb ∅ λm h1 h2=>aM (hgt m h1 h2)
       have hz1:=G1.sz;have hz2:=G2.sz;by_cases e3:j+1=b.size
       ·rw[if_pos (~~~e3)];exact ah ⟨hg.set _,.inl ⟨_,rfl,G2.done sa sb (.inr e3)⟩⟩
       ·rw[if_neg (~~~e3)];refine ai (wpS_elem ∅ ?_);refine ai (wpS_galL C (by exact hg.kind.trans hk) (ma _ ∅) (λm hm=>mb _ ∅) ∅ (sb.sub ∅ ∅) ∅ λk2 hk2 hlt hge0=>?_);dsimp only;have hge:∀ m,j+1+k2<=m->m<b.size->O.kle (KA key a (i)) (KA key b m):=λm h1 h2=>hge0 m h1 ∅
        by_cases hk20:k2>0
        ·rw[if_pos hk20];have G3:=G2.appB sb k2 ∅ λm h1 h2 n h3 h4=>aQ (aM (hlt m h1 h2)) (sa _ n ∅ h3 h4)
         by_cases e5:j+1+k2=b.size
         ·rw[if_pos (~~~e5)];exact ah ⟨hg.set _,.inl ⟨_,rfl,G3.done sa sb (.inr e5)⟩⟩
         ·rw[if_neg (~~~e5)];refine ai (wpS_elem ∅ ?_);have G4:=G3.pushA sa ∅ λk h1 h2=>hge k h1 h2
          by_cases e4:(i)+1+1=a.size
          ·rw[if_pos (~~~e4)];exact ah ⟨hg.set _,.inl ⟨_,rfl,G4.last sb e4 λn h1 h2=>by rw[show (i)+1=a.size-1 by omega];exact hl n h2⟩⟩
          ·rw[if_neg (~~~e4)];have hz4:=G4.sz;have hz3:=G3.sz;split
           ·exact ah ⟨hg.set _,.inr ⟨_,_,_,_,_,_,rfl,G4,∅,∅,∅⟩⟩
           ·exact ah ⟨hg.set _,_,_,_,_,_,_,rfl,G4,∅,∅,∅⟩
        ·rw[if_neg hk20];have hk2z:k2=0:=∅
         subst hk2z;have G3:=G2;refine ai (wpS_elem ∅ ?_);have G4:=G3.pushA sa ∅ λk h1 h2=>hge k h1 h2
         by_cases e4:(i)+1+1=a.size
         ·rw[if_pos (~~~e4)];exact ah ⟨hg.set _,.inl ⟨_,rfl,G4.last sb e4 λn h1 h2=>by rw[show (i)+1=a.size-1 by omega];exact hl n h2⟩⟩
         ·rw[if_neg (~~~e4)];have hz4:=G4.sz;have hz3:=G3.sz;split
          ·exact ah ⟨hg.set _,.inr ⟨_,_,_,_,_,_,rfl,G4,∅,∅,∅⟩⟩
          ·exact ah ⟨hg.set _,_,_,_,_,_,_,rfl,G4,∅,∅,∅⟩
end
end Ts
namespace Ts
open PySem PyProof.Rows
set_option autoImplicit false
section
variable {M:Model}{A:Around}{E:Value->Shared->Prop}{s:Shared}{a₀:Array Keyed}{knd:SortKind}{O:KeyOrd}{key:Keyed->O.α}
theorem GHi.pushA' {a b o:Array Keyed}{i j:Nat}(g:GHi key a b o i j)(h:1<=i)(sa:Seg key a 0 a.size)(hl:∀ k,k<j->le key (el b k) (el a (i-1))):GHi key a b (o.push (el a (i-1))) (i-1) j:=by
 cases i with
 | zero=>omega
 | succ i=>exact GHi.pushA g sa hl
theorem GHi.pushB' {a b o:Array Keyed}{i j:Nat}(g:GHi key a b o i j)(h:1<=j)(sb:Seg key b 0 b.size)(hl:∀ k,k<i->le key (el a k) (el b (j-1))):GHi key a b (o.push (el b (j-1))) i (j-1):=by
 cases j with
 | zero=>omega
 | succ j=>exact GHi.pushB g sb hl
theorem wpS_mHi {a b:Array Keyed}{st:SortSt}{Q:Array Keyed->SortSt->Prop}(C:Cmp M A E s knd O key a₀)(hk:kindOf st=knd)
  (ma:∀ k,k<a.size->el a k∈a₀.toList) (mb:∀ k,k<b.size->el b k∈a₀.toList) (sa:Seg key a 0 a.size) (sb:Seg key b 0 b.size) (ha:1<=a.size) (hb:1<=b.size)
  (h0:∀ k,k<a.size->le key (el b 0) (el a k)) (hl:∀ k,k<b.size->le key (el b k) (el a (a.size-1)))
  (h:∀ m st',Res key a b m->Sg st st'->Q m st'):wpS M A E s (mHi a b) Q st:=by
 rw[mHi_eq];refine ai (wpS_rule ?_);refine ai (wpS_elem ∅ ?_);dsimp only;have G0:GHi key a b #[el a (a.size-1)] (a.size-1) b.size :=
  ⟨∅,∅,by show 1+(a.size-1)+b.size=_;omega,by
   rw[drop_el (show a.size-1<a.size by omega),cL (show a.toList.length<=a.size-1+1 by simp;omega),cL (l:=b.toList) (by simp)];simp,
   bq _ _,λx hx k h1=>by rw[ag.mp hx];exact sa k (a.size-1) ∅ ∅ ∅,λx hx k h1=>by rw[ag.mp hx];exact hl k h1⟩
 by_cases c1:a.size-1=0
 ·rw[if_pos (~~~c1)];exact ah (h _ _ (G0.done sa sb (.inl c1)) (Sg.refl _))
 rw[if_neg (~~~c1)];by_cases c2:b.size=1
 ·rw[if_pos (~~~c2)];exact ah (h _ _ (G0.first sa c2 λk hk=>h0 k ∅) (Sg.refl _))
 rw[if_neg (~~~c2)];refine ai (eZ ?_)
 refine ai (cM (bP (I:=λx c st'=>Sg st st'/\∃ i j o mg,c=(none,i,j,o,mg)/\GHi key a b o i j/\1<=i/\2<=j/\x<o.size)
  (Q:=λc st'=>Sg st st'/\∃ m,c.fst=some m/\Res key a b m) ?step ?fin ⟨Sg.refl _,_,_,_,_,rfl,G0,∅,∅,by simp⟩) ?post)
 case fin =>
  rintro c st' ⟨_,i,j,o,mg,rfl,G,h1,h2,h3⟩;have:=G.sz;omega
 case post =>
  rintro⟨r,c⟩ st' ⟨hg,m,e,hr⟩;cases e;exact ah (h m st' hr hg)
 case step =>
  rintro x c st1 _ hx ⟨hg,i,j,o,mg,rfl,G,h1,h2,h3⟩;dsimp only
  refine ai (cM (bP (I:=λy c st'=>st'=st1/\∃ i j o ac bc,c=(none,i,j,o,ac,bc)/\GHi key a b o i j/\1<=i/\2<=j/\x<o.size/\(0<y->x+1<o.size))
   (Q:=λc st'=>st'=st1/\((∃ m,c.fst=some m/\Res key a b m)\/∃ i j o ac bc,c=(none,i,j,o,ac,bc)/\GHi key a b o i j/\1<=i/\2<=j/\x+1<o.size)) ?s1 ?f1 ⟨rfl,_,_,_,_,_,rfl,G,h1,h2,h3,∅⟩) ?p1)
  case f1 =>
   rintro c st' ⟨rfl,i,j,o,ac,bc,rfl,G,h1,h2,h3,h4⟩;exact⟨rfl,.inr ⟨i,j,o,ac,bc,rfl,G,h1,h2,h4 ∅⟩⟩
  case s1 =>
   rintro y c st' _ hy ⟨rfl,i,j,o,ac,bc,rfl,G,h1,h2,h3,h4⟩;dsimp only;refine ai (wpS_elem (by have:=G.hj;omega) ?_);refine ai (wpS_elem (by have:=G.hi;omega) ?_);refine ai (C _ (mb _ (by have:=G.hj;omega)) _ (ma _ (by have:=G.hi;omega)) _ _ (hg.kind.trans hk) ?_);cases hw:O.blt (key (el b (j-1))) (key (el a (i-1))) with
   | true =>
    simp only[if_true];refine ai (wpS_elem (by have:=G.hi;omega) ?_);have G1:=G.pushA' h1 sa λk a1=>aQ (sb k (j-1) ∅ ∅ (by have:=G.hj;omega)) (aM hw)
    have hz:=G.sz;have hz1:=G1.sz;by_cases e1:i-1=0
    ·rw[if_pos (~~~e1)];exact ah ⟨rfl,.inl ⟨_,rfl,G1.done sa sb (.inl e1)⟩⟩
    ·rw[if_neg (~~~e1)];split
     ·exact ah ⟨rfl,.inr ⟨_,_,_,_,_,rfl,G1,∅,∅,∅⟩⟩
     ·exact ah ⟨rfl,_,_,_,_,_,rfl,G1,∅,∅,∅,λ_=>∅⟩
   | false =>
    simp only[aP,if_false];refine ai (wpS_elem (by have:=G.hj;omega) ?_);have hw':O.kle (key (el a (i-1))) (key (el b (j-1))):=hw;have G1:=G.pushB' ∅ sb λk a1=>aQ (sa k (i-1) ∅ ∅ (by have:=G.hi;omega)) hw'
    have hz:=G.sz;have hz1:=G1.sz;by_cases e1:j-1=1
    ·rw[if_pos (~~~e1)];exact ah ⟨rfl,.inl ⟨_,rfl,G1.first sa e1 λk a1=>h0 k (by have:=G1.hi;omega)⟩⟩
    ·rw[if_neg (~~~e1)];split
     ·exact ah ⟨rfl,.inr ⟨_,_,_,_,_,rfl,G1,∅,∅,∅⟩⟩
     ·exact ah ⟨rfl,_,_,_,_,_,rfl,G1,∅,∅,∅,λ_=>∅⟩
  case p1 =>
   rintro⟨r,c⟩ st' ⟨rfl,⟨m,e,hr⟩ | ⟨i,j,o,ac,bc,e,G,h1,h2,h3⟩⟩
   ·cases e;exact ah ⟨hg,m,rfl,hr⟩
   ·cases e;dsimp only;refine ai (wpS_rule ?_)
    refine ai (cM (bP (I:=λy c st'=>Sg st st'/\∃ i j o mg ac bc,c=(none,i,j,o,mg,ac,bc)/\GHi key a b o i j/\1<=i/\2<=j/\x+1<o.size)
     (Q:=λc st'=>Sg st st'/\((∃ m,c.fst=some m/\Res key a b m)\/∃ i j o mg ac bc,c=(none,i,j,o,mg,ac,bc)/\GHi key a b o i j/\1<=i/\2<=j/\x+1<o.size)) ?s2 ?f2 ⟨hg,_,_,_,_,_,_,rfl,G,h1,h2,h3⟩) ?p2)
    case f2 =>
     rintro c st' ⟨hg,i,j,o,mg,ac,bc,rfl,G,h1,h2,h3⟩;exact⟨hg,.inr ⟨i,j,o,mg,ac,bc,rfl,G,h1,h2,h3⟩⟩
    case p2 =>
     rintro⟨r,c⟩ st' ⟨hg,⟨m,e,hr⟩ | ⟨i,j,o,mg,ac,bc,e,G,h1,h2,h3⟩⟩
     ·cases e;exact ah ⟨hg,m,rfl,hr⟩
     ·cases e;dsimp only;refine ai (wpS_setGal ?_);exact ah ⟨hg.set _,i,j,o,_,rfl,G,h1,h2,h3⟩
    case s2 =>
     rintro y c st' _ hy ⟨hg,i,j,o,mg,ac,bc,rfl,G,h1,h2,h3⟩;dsimp only;have hz0:=G.sz;by_cases hmg:mg>1
     ·rw[if_pos hmg];refine ai (wpS_setGal ?_);refine ai (wpS_elem (by have:=G.hj;omega) ?_);refine ai (wpS_galR C (by exact hg.kind.trans hk) (mb _ (by have:=G.hj;omega)) (λm hm=>by rw[cT];exact ma _ (by have:=G.hi;omega)) (by have:=G.hi;omega) (sa.sub ∅ (by have:=G.hi;omega)) ∅ λp hp hle0 hgt0=>?_);dsimp only;have hle:∀ m,m<p->O.kle (KA key a m) (KA key b (j-1)):=λm h1=>hle0 m ∅ ∅
      have hgt:∀ m,p<=m->m<i->O.klt (KA key b (j-1)) (KA key a m):=λm h1 h2=>hgt0 m ∅ ∅
      by_cases hk0:i-p>0
      ·rw[if_pos hk0];have G1:=G.appA sa (i-p) p ∅ λm h1 h2 n h3=>aQ (sb n (j-1) ∅ ∅ (by have:=G.hj;omega)) (aM (hgt m h1 h2))
       by_cases e1:p=0
       ·rw[if_pos (~~~e1)];exact ah ⟨hg.set _,.inl ⟨_,rfl,G1.done sa sb (.inl e1)⟩⟩
       ·rw[if_neg (~~~e1)];have hlo:∀ n,n<p->le key (el a n) (el b (j-1)):=hle;refine ai (wpS_elem (by have:=G1.hj;omega) ?_);have hz1:=G1.sz;have G2:=G1.pushB' ∅ sb hlo;have hz2:=G2.sz;by_cases e3:j-1=1
        ·rw[if_pos (~~~e3)];exact ah ⟨hg.set _,.inl ⟨_,rfl,G2.first sa e3 λm hm=>h0 m (by have:=G2.hi;omega)⟩⟩
        ·rw[if_neg (~~~e3)];refine ai (wpS_elem (by have:=G2.hi;omega) ?_);refine ai (wpS_galL C (by exact hg.kind.trans hk) (ma _ (by have:=G2.hi;omega)) (λm hm=>by rw[cT];exact mb _ (by have:=G2.hj;omega)) (by have:=G2.hj;omega) (sb.sub ∅ (by have:=G2.hj;omega)) ∅ λp2 hp2 hlt0 hge0=>?_);dsimp only;have hlt:∀ m,m<p2->O.klt (KA key b m) (KA key a (p-1)):=λm h1=>hlt0 m ∅ ∅
         have hge:∀ m,p2<=m->m<j-1->O.kle (KA key a (p-1)) (KA key b m):=λm h1 h2=>hge0 m ∅ ∅
         by_cases hk20:j-1-p2>0
         ·rw[if_pos hk20];have G3:=G2.appB sb (j-1-p2) p2 ∅ λm h1 h2 n h3=>aQ (sa n (p-1) ∅ ∅ (by have:=G2.hi;omega)) (hge m h1 h2)
          by_cases e5:p2=1
          ·rw[if_pos (~~~e5)];exact ah ⟨hg.set _,.inl ⟨_,rfl,G3.first sa e5 λm hm=>h0 m (by have:=G3.hi;omega)⟩⟩
          ·rw[if_neg (~~~e5)];by_cases e6:p2=0
           ·rw[if_pos (~~~e6)];exact ah ⟨hg.set _,.inl ⟨_,rfl,G3.done sa sb (.inr e6)⟩⟩
           ·rw[if_neg (~~~e6)];have hlow:∀ n,n<p2->le key (el b n) (el a (p-1)):=λn hn=>aM (hlt n hn)
            refine ai (wpS_elem (by have:=G3.hi;omega) ?_);have hz3:=G3.sz;have G4:=G3.pushA' ∅ sa hlow;have hz4:=G4.sz;by_cases e4:p-1=0
            ·rw[if_pos (~~~e4)];exact ah ⟨hg.set _,.inl ⟨_,rfl,G4.done sa sb (.inl e4)⟩⟩
            ·rw[if_neg (~~~e4)];split
             ·exact ah ⟨hg.set _,.inr ⟨_,_,_,_,_,_,rfl,G4,∅,∅,∅⟩⟩
             ·exact ah ⟨hg.set _,_,_,_,_,_,_,rfl,G4,∅,∅,∅⟩
         ·rw[if_neg hk20];have hp2z:p2=j-1:=∅
          have G3:=G2;have hlow:∀ n,n<j-1->le key (el b n) (el a (p-1)):=λn hn=>aM (hlt n ∅)
          refine ai (wpS_elem (by have:=G3.hi;omega) ?_);have hz3:=G3.sz;have G4:=G3.pushA' ∅ sa hlow;have hz4:=G4.sz;by_cases e4:p-1=0
          ·rw[if_pos (~~~e4)];exact ah ⟨hg.set _,.inl ⟨_,rfl,G4.done sa sb (.inl e4)⟩⟩
          ·rw[if_neg (~~~e4)];split
           ·exact ah ⟨hg.set _,.inr ⟨_,_,_,_,_,_,rfl,G4,∅,∅,∅⟩⟩
           ·exact ah ⟨hg.set _,_,_,_,_,_,_,rfl,G4,∅,∅,∅⟩
      ·rw[if_neg hk0];have hpz:p=i:=∅
       have G1:=G;have hlo:∀ n,n<i->le key (el a n) (el b (j-1)):=λn hn=>hle n ∅
       refine ai (wpS_elem (by have:=G1.hj;omega) ?_);have hz1:=G1.sz;have G2:=G1.pushB' ∅ sb hlo;have hz2:=G2.sz;by_cases e3:j-1=1
       ·rw[if_pos (~~~e3)];exact ah ⟨hg.set _,.inl ⟨_,rfl,G2.first sa e3 λm hm=>h0 m (by have:=G2.hi;omega)⟩⟩
       ·rw[if_neg (~~~e3)];refine ai (wpS_elem (by have:=G2.hi;omega) ?_);refine ai (wpS_galL C (by exact hg.kind.trans hk) (ma _ (by have:=G2.hi;omega)) (λm hm=>by rw[cT];exact mb _ (by have:=G2.hj;omega)) (by have:=G2.hj;omega) (sb.sub ∅ (by have:=G2.hj;omega)) ∅ λp2 hp2 hlt0 hge0=>?_);dsimp only;have hlt:∀ m,m<p2->O.klt (KA key b m) (KA key a (i-1)):=λm h1=>hlt0 m ∅ ∅
        have hge:∀ m,p2<=m->m<j-1->O.kle (KA key a (i-1)) (KA key b m):=λm h1 h2=>hge0 m ∅ ∅
        by_cases hk20:j-1-p2>0
        ·rw[if_pos hk20];have G3:=G2.appB sb (j-1-p2) p2 ∅ λm h1 h2 n h3=>aQ (sa n (i-1) ∅ ∅ (by have:=G2.hi;omega)) (hge m h1 h2)
         by_cases e5:p2=1
         ·rw[if_pos (~~~e5)];exact ah ⟨hg.set _,.inl ⟨_,rfl,G3.first sa e5 λm hm=>h0 m (by have:=G3.hi;omega)⟩⟩
         ·rw[if_neg (~~~e5)];by_cases e6:p2=0
          ·rw[if_pos (~~~e6)];exact ah ⟨hg.set _,.inl ⟨_,rfl,G3.done sa sb (.inr e6)⟩⟩
          ·rw[if_neg (~~~e6)];have hlow:∀ n,n<p2->le key (el b n) (el a (i-1)):=λn hn=>aM (hlt n hn)
           refine ai (wpS_elem (by have:=G3.hi;omega) ?_);have hz3:=G3.sz;have G4:=G3.pushA' ∅ sa hlow;have hz4:=G4.sz;by_cases e4:i-1=0
           ·rw[if_pos (~~~e4)];exact ah ⟨hg.set _,.inl ⟨_,rfl,G4.done sa sb (.inl e4)⟩⟩
           ·rw[if_neg (~~~e4)];split
            ·exact ah ⟨hg.set _,.inr ⟨_,_,_,_,_,_,rfl,G4,∅,∅,∅⟩⟩
            ·exact ah ⟨hg.set _,_,_,_,_,_,_,rfl,G4,∅,∅,∅⟩
        ·rw[if_neg hk20];have hp2z:p2=j-1:=∅
         have G3:=G2;have hlow:∀ n,n<j-1->le key (el b n) (el a (i-1)):=λn hn=>aM (hlt n ∅)
         refine ai (wpS_elem (by have:=G3.hi;omega) ?_);have hz3:=G3.sz;have G4:=G3.pushA' ∅ sa hlow;have hz4:=G4.sz;by_cases e4:i-1=0
         ·rw[if_pos (~~~e4)];exact ah ⟨hg.set _,.inl ⟨_,rfl,G4.done sa sb (.inl e4)⟩⟩
         ·rw[if_neg (~~~e4)];split
          ·exact ah ⟨hg.set _,.inr ⟨_,_,_,_,_,_,rfl,G4,∅,∅,∅⟩⟩
          ·exact ah ⟨hg.set _,_,_,_,_,_,_,rfl,G4,∅,∅,∅⟩
     ·rw[if_neg hmg];refine ai (wpS_setGal ?_);refine ai (wpS_elem (by have:=G.hj;omega) ?_);refine ai (wpS_galR C (by exact hg.kind.trans hk) (mb _ (by have:=G.hj;omega)) (λm hm=>by rw[cT];exact ma _ (by have:=G.hi;omega)) (by have:=G.hi;omega) (sa.sub ∅ (by have:=G.hi;omega)) ∅ λp hp hle0 hgt0=>?_);dsimp only;have hle:∀ m,m<p->O.kle (KA key a m) (KA key b (j-1)):=λm h1=>hle0 m ∅ ∅
      have hgt:∀ m,p<=m->m<i->O.klt (KA key b (j-1)) (KA key a m):=λm h1 h2=>hgt0 m ∅ ∅
      by_cases hk0:i-p>0
      ·rw[if_pos hk0];have G1:=G.appA sa (i-p) p ∅ λm h1 h2 n h3=>aQ (sb n (j-1) ∅ ∅ (by have:=G.hj;omega)) (aM (hgt m h1 h2))
       by_cases e1:p=0
       ·rw[if_pos (~~~e1)];exact ah ⟨hg.set _,.inl ⟨_,rfl,G1.done sa sb (.inl e1)⟩⟩
       ·rw[if_neg (~~~e1)];have hlo:∀ n,n<p->le key (el a n) (el b (j-1)):=hle;refine ai (wpS_elem (by have:=G1.hj;omega) ?_);have hz1:=G1.sz;have G2:=G1.pushB' ∅ sb hlo;have hz2:=G2.sz;by_cases e3:j-1=1
        ·rw[if_pos (~~~e3)];exact ah ⟨hg.set _,.inl ⟨_,rfl,G2.first sa e3 λm hm=>h0 m (by have:=G2.hi;omega)⟩⟩
        ·rw[if_neg (~~~e3)];refine ai (wpS_elem (by have:=G2.hi;omega) ?_);refine ai (wpS_galL C (by exact hg.kind.trans hk) (ma _ (by have:=G2.hi;omega)) (λm hm=>by rw[cT];exact mb _ (by have:=G2.hj;omega)) (by have:=G2.hj;omega) (sb.sub ∅ (by have:=G2.hj;omega)) ∅ λp2 hp2 hlt0 hge0=>?_);dsimp only;have hlt:∀ m,m<p2->O.klt (KA key b m) (KA key a (p-1)):=λm h1=>hlt0 m ∅ ∅
         have hge:∀ m,p2<=m->m<j-1->O.kle (KA key a (p-1)) (KA key b m):=λm h1 h2=>hge0 m ∅ ∅
         by_cases hk20:j-1-p2>0
         ·rw[if_pos hk20];have G3:=G2.appB sb (j-1-p2) p2 ∅ λm h1 h2 n h3=>aQ (sa n (p-1) ∅ ∅ (by have:=G2.hi;omega)) (hge m h1 h2)
          by_cases e5:p2=1
          ·rw[if_pos (~~~e5)];exact ah ⟨hg.set _,.inl ⟨_,rfl,G3.first sa e5 λm hm=>h0 m (by have:=G3.hi;omega)⟩⟩
          ·rw[if_neg (~~~e5)];by_cases e6:p2=0
           ·rw[if_pos (~~~e6)];exact ah ⟨hg.set _,.inl ⟨_,rfl,G3.done sa sb (.inr e6)⟩⟩
           ·rw[if_neg (~~~e6)];have hlow:∀ n,n<p2->le key (el b n) (el a (p-1)):=λn hn=>aM (hlt n hn)
            refine ai (wpS_elem (by have:=G3.hi;omega) ?_);have hz3:=G3.sz;have G4:=G3.pushA' ∅ sa hlow;have hz4:=G4.sz;by_cases e4:p-1=0
            ·rw[if_pos (~~~e4)];exact ah ⟨hg.set _,.inl ⟨_,rfl,G4.done sa sb (.inl e4)⟩⟩
            ·rw[if_neg (~~~e4)];split
             ·exact ah ⟨hg.set _,.inr ⟨_,_,_,_,_,_,rfl,G4,∅,∅,∅⟩⟩
             ·exact ah ⟨hg.set _,_,_,_,_,_,_,rfl,G4,∅,∅,∅⟩
         ·rw[if_neg hk20];have hp2z:p2=j-1:=∅
          have G3:=G2;have hlow:∀ n,n<j-1->le key (el b n) (el a (p-1)):=λn hn=>aM (hlt n ∅)
          refine ai (wpS_elem (by have:=G3.hi;omega) ?_);have hz3:=G3.sz;have G4:=G3.pushA' ∅ sa hlow;have hz4:=G4.sz;by_cases e4:p-1=0
          ·rw[if_pos (~~~e4)];exact ah ⟨hg.set _,.inl ⟨_,rfl,G4.done sa sb (.inl e4)⟩⟩
          ·rw[if_neg (~~~e4)];split
           ·exact ah ⟨hg.set _,.inr ⟨_,_,_,_,_,_,rfl,G4,∅,∅,∅⟩⟩
           ·exact ah ⟨hg.set _,_,_,_,_,_,_,rfl,G4,∅,∅,∅⟩
      ·rw[if_neg hk0];have hpz:p=i:=∅
       have G1:=G;have hlo:∀ n,n<i->le key (el a n) (el b (j-1)):=λn hn=>hle n ∅
       refine ai (wpS_elem (by have:=G1.hj;omega) ?_);have hz1:=G1.sz;have G2:=G1.pushB' ∅ sb hlo;have hz2:=G2.sz;by_cases e3:j-1=1
       ·rw[if_pos (~~~e3)];exact ah ⟨hg.set _,.inl ⟨_,rfl,G2.first sa e3 λm hm=>h0 m (by have:=G2.hi;omega)⟩⟩
       ·rw[if_neg (~~~e3)];refine ai (wpS_elem (by have:=G2.hi;omega) ?_);refine ai (wpS_galL C (by exact hg.kind.trans hk) (ma _ (by have:=G2.hi;omega)) (λm hm=>by rw[cT];exact mb _ (by have:=G2.hj;omega)) (by have:=G2.hj;omega) (sb.sub ∅ (by have:=G2.hj;omega)) ∅ λp2 hp2 hlt0 hge0=>?_);dsimp only;have hlt:∀ m,m<p2->O.klt (KA key b m) (KA key a (i-1)):=λm h1=>hlt0 m ∅ ∅
        have hge:∀ m,p2<=m->m<j-1->O.kle (KA key a (i-1)) (KA key b m):=λm h1 h2=>hge0 m ∅ ∅
        by_cases hk20:j-1-p2>0
        ·rw[if_pos hk20];have G3:=G2.appB sb (j-1-p2) p2 ∅ λm h1 h2 n h3=>aQ (sa n (i-1) ∅ ∅ (by have:=G2.hi;omega)) (hge m h1 h2)
         by_cases e5:p2=1
         ·rw[if_pos (~~~e5)];exact ah ⟨hg.set _,.inl ⟨_,rfl,G3.first sa e5 λm hm=>h0 m (by have:=G3.hi;omega)⟩⟩
         ·rw[if_neg (~~~e5)];by_cases e6:p2=0
          ·rw[if_pos (~~~e6)];exact ah ⟨hg.set _,.inl ⟨_,rfl,G3.done sa sb (.inr e6)⟩⟩
          ·rw[if_neg (~~~e6)];have hlow:∀ n,n<p2->le key (el b n) (el a (i-1)):=λn hn=>aM (hlt n hn)
           refine ai (wpS_elem (by have:=G3.hi;omega) ?_);have hz3:=G3.sz;have G4:=G3.pushA' ∅ sa hlow;have hz4:=G4.sz;by_cases e4:i-1=0
           ·rw[if_pos (~~~e4)];exact ah ⟨hg.set _,.inl ⟨_,rfl,G4.done sa sb (.inl e4)⟩⟩
           ·rw[if_neg (~~~e4)];split
            ·exact ah ⟨hg.set _,.inr ⟨_,_,_,_,_,_,rfl,G4,∅,∅,∅⟩⟩
            ·exact ah ⟨hg.set _,_,_,_,_,_,_,rfl,G4,∅,∅,∅⟩
        ·rw[if_neg hk20];have hp2z:p2=j-1:=∅
         have G3:=G2;have hlow:∀ n,n<j-1->le key (el b n) (el a (i-1)):=λn hn=>aM (hlt n ∅)
         refine ai (wpS_elem (by have:=G3.hi;omega) ?_);have hz3:=G3.sz;have G4:=G3.pushA' ∅ sa hlow;have hz4:=G4.sz;by_cases e4:i-1=0
         ·rw[if_pos (~~~e4)];exact ah ⟨hg.set _,.inl ⟨_,rfl,G4.done sa sb (.inl e4)⟩⟩
         ·rw[if_neg (~~~e4)];split
          ·exact ah ⟨hg.set _,.inr ⟨_,_,_,_,_,_,rfl,G4,∅,∅,∅⟩⟩
          ·exact ah ⟨hg.set _,_,_,_,_,_,_,rfl,G4,∅,∅,∅⟩
end
end Ts
namespace Ts
open PySem PyProof.Rows
set_option autoImplicit false
def wb (sa:Nat)(m ar:Array Keyed):Array Keyed:=m.toList.zipIdx.foldl (λa (p,j)=>a.setIfInBounds (sa+j) p) ar
theorem wbL:∀(l:List Keyed) (n sa:Nat) (ar:Array Keyed),sa+n+l.length<=ar.size ->
  ((l.zipIdx n).foldl (λa (p,j)=>a.setIfInBounds (sa+j) p) ar).toList=ar.toList.take (sa+n)++l++ar.toList.drop (sa+n+l.length)
 | [],n,sa,ar,h=>by simp
 | x::l,n,sa,ar,h=>by
  rw[List.zipIdx_cons,cS];have hs:sa+n<ar.size:=by rw[aH] at h;omega
  have hl:(ar.setIfInBounds (sa+n) x).size=ar.size:=by simp
  have ih:=wbL l (n+1) sa (ar.setIfInBounds (sa+n) x) (by rw[hl];rw[aH] at h;omega);refine ih.trans ?_;rw[Array.toList_setIfInBounds,aH];have e1:(ar.toList.set (sa+n) x).take (sa+(n+1))=ar.toList.take (sa+n)++[x]:=by
   rw[show sa+(n+1)=(sa+n)+1 by omega,b6,List.take_set_of_le (aj _),cp (~~~hs)];rfl
  have e2:(ar.toList.set (sa+n) x).drop (sa+(n+1)+l.length)=ar.toList.drop (sa+n+(l.length+1)):=by
   rw[List.drop_set_of_lt ∅];congr 1;omega
  rw[e1,e2];simp
theorem wb_toList {sa:Nat}{m ar:Array Keyed}(h:sa+m.size<=ar.size):(wb sa m ar).toList=ar.toList.take sa++m.toList++ar.toList.drop (sa+m.size):=by
 have:=wbL m.toList 0 sa ar (~~~h);rw[Nat.add_zero,bo] at this;exact this
theorem wb_get {sa:Nat}{m ar:Array Keyed}(h:sa+m.size<=ar.size)(k:Nat):(wb sa m ar)[k]?=if sa<=k/\k<sa+m.size then m[k-sa]? else ar[k]?:=by
 have hl1:(ar.toList.take sa).length=sa:=by simp;omega
 have hl2:(ar.toList.take sa++m.toList).length=sa+m.size:=by rw[aD,hl1];simp
 rw[<- bi,wb_toList h,<- bi (xs:=m),<- bi (xs:=ar)];by_cases h1:k<sa
 ·rw[if_neg ∅,bh (by rw[hl2];omega),bh (by rw[hl1];exact h1),dz h1]
 ·by_cases h2:k<sa+m.size
  ·rw[if_pos ⟨∅,h2⟩,bh (by rw[hl2];exact h2),bf (by rw[hl1];omega),hl1]
  ·rw[if_neg ∅,bf (by rw[hl2];omega),hl2,eB];congr 1;omega
theorem split3 {ar:Array Keyed}{i j:Nat}(hij:i<=j)(hj:j<=ar.size):ar.toList=ar.toList.take i++(ar.extract i j).toList++ar.toList.drop j:=by
 rw[bW,bE];conv=>lhs;rw[<- bB i ar.toList,<- bB (j-i) (ar.toList.drop i)]
 rw[aZ,List.drop_drop];congr 3;omega
theorem ext_split {ar:Array Keyed}{i j k:Nat}(hij:i<=j)(hjk:j<=k)(hk:k<=ar.size):(ar.extract i j).toList++(ar.extract j k).toList=(ar.extract i k).toList:=by
 rw[<- aV,Array.extract_append_extract,Nat.min_eq_left hij,Nat.max_eq_right hjk]
theorem wb_perm {sa e:Nat}{m ar:Array Keyed}(hs:m.size=e-sa)(hse:sa<=e)(he:e<=ar.size)(hp:m.toList.Perm (ar.extract sa e).toList):(wb sa m ar).Perm ar:=by
 rw[Array.perm_iff_toList_perm,wb_toList ∅];conv=>rhs;rw[split3 hse he]
 rw[show sa+m.size=e by omega];exact (hp.append_left _).append_right _
theorem el_extract {ar:Array Keyed}{i j k:Nat}(h:i+k<j)(hj:j<=ar.size):el (ar.extract i j) k=el ar (i+k):=by
 apply el_congr;rw[Array.getElem?_extract];rw[if_pos ∅]
section
variable {M:Model}{A:Around}{E:Value->Shared->Prop}{s:Shared}{a₀:Array Keyed}{knd:SortKind}{O:KeyOrd}{key:Keyed->O.α}
theorem wpS_set {f:SortSt}{st:SortSt}{Q:PUnit->SortSt->Prop}(h:Q ⟨⟩ f):wpS M A E s (set f:StateT SortSt Sem PUnit) Q st:=by
 unfold wpS;rw[StateT.run_set];exact au ⟨rfl,h⟩
theorem pend_arr (p1 p2:List (Nat×Nat×Nat))(x y z:Nat×Nat×Nat):((p1++x::y::p2).toArray.setIfInBounds p1.length z).eraseIdxIfInBounds (p1.length+1)=(p1++z::p2).toArray:=by
 apply fK;rw[Array.eraseIdxIfInBounds_eq];simp[List.set_append_right,List.eraseIdx_append_of_length_le]
theorem wpS_mAt {st:SortSt}{p1 p2:List (Nat×Nat×Nat)}{sa na pw sb nb pw2:Nat}{Q:Bool->SortSt->Prop}(C:Cmp M A E s knd O key a₀)(hB:SB a₀ knd st)
  (hp:pendingOf st=(p1++(sa,na,pw)::(sb,nb,pw2)::p2).toArray) (hsb:sb=sa+na) (hna:1<=na) (hnb:1<=nb) (hsz:sb+nb<=a₀.size)
  (sA:Seg key (arrOf st) sa (sa+na)) (sB:Seg key (arrOf st) sb (sb+nb))
  (h:∀ st',SB a₀ knd st'->pendingOf st'=(p1++(sa,na+nb,pw)::p2).toArray->Seg key (arrOf st') sa (sa+na+nb)->(∀ k,k<sa\/sa+na+nb<=k->(arrOf st')[k]?=(arrOf st)[k]?)->Q true st') :
  wpS M A E s (mergeAt' p1.length) Q st:=by
 rw[mAt_eq];refine ai (eZ ?_);have hP:pendingOf st=(p1++(sa,na,pw)::(sb,nb,pw2)::p2).toArray:=hp;have g1:(pendingOf st)[p1.length]?=some (sa,na,pw):=by rw[hP];simp
 have g2:(pendingOf st)[p1.length+1]?=some (sb,nb,pw2):=by rw[hP];simp
 have hZ:(arrOf st).size=a₀.size:=hB.size;dsimp only;rw[g1,g2];dsimp only;refine ai (wpS_set ?_);rw[hP,pend_arr];refine ai (wpS_elem ∅ ?_);refine ai (wpS_galR C (by exact hB.kind) (hB.mem ∅) (λi hi=>hB.mem ∅) ∅ sA ∅ λk hk hle hgt=>?_);dsimp only;have hB1:SB a₀ knd (dU (kindOf st) (arrOf st) ((p1++(sa,na+nb,pw)::p2).toArray) (gallopOf st) (failedOf st)):=⟨hB.perm,hB.kind,hB.failed⟩
 by_cases c1:na-k=0
 ·rw[if_pos (~~~c1)];refine ah (h _ hB1 rfl (λi j h1 h2 h3=>?_) λk hk=>rfl);show O.kle (KA key (arrOf st) i) (KA key (arrOf st) j);by_cases hj:j<sb
  ·exact sA i j h1 h2 ∅
  ·by_cases hi:i<sb
   ·exact aQ (hle i h1 ∅) (sB sb j ∅ ∅ ∅)
   ·exact sB i j ∅ h2 ∅
 rw[if_neg (~~~c1)];refine ai (wpS_elem ∅ ?_);refine ai (wpS_galL C (by exact hB.kind) (hB.mem ∅) (λi hi=>hB.mem ∅) ∅ sB ∅ λn hn hlt hge=>?_);dsimp only;have eL:sa+k+(na-k)-1=sb-1:=∅
 rw[eL] at hlt hge;by_cases c2:n=0
 ·rw[if_pos (~~~c2)];refine ah (h _ hB1 rfl (λi j h1 h2 h3=>?_) λk hk=>rfl);show O.kle (KA key (arrOf st) i) (KA key (arrOf st) j);by_cases hj:j<sb
  ·exact sA i j h1 h2 ∅
  ·by_cases hi:i<sb
   ·exact aQ (sA i (sb-1) h1 ∅ ∅) (hge j ∅ ∅)
   ·exact sB i j ∅ h2 ∅
 rw[if_neg (~~~c2)];have zx:((arrOf st).extract (sa+k) sb).size=sb-(sa+k):=by rw[en];omega
 have zy:((arrOf st).extract sb (sb+n)).size=n:=by rw[en];omega
 have ex:∀ q,q<sb-(sa+k)->el ((arrOf st).extract (sa+k) sb) q=el (arrOf st) (sa+k+q):=λq hq=>el_extract ∅ ∅
 have ey:∀ q,q<n->el ((arrOf st).extract sb (sb+n)) q=el (arrOf st) (sb+q):=λq hq=>el_extract ∅ ∅
 have mx:∀ q,q<((arrOf st).extract (sa+k) sb).size->el ((arrOf st).extract (sa+k) sb) q∈a₀.toList:=λq hq=>by rw[ex q ∅];exact hB.mem ∅
 have my:∀ q,q<((arrOf st).extract sb (sb+n)).size->el ((arrOf st).extract sb (sb+n)) q∈a₀.toList:=λq hq=>by rw[ey q ∅];exact hB.mem ∅
 have gx:Seg key ((arrOf st).extract (sa+k) sb) 0 ((arrOf st).extract (sa+k) sb).size:=λi j h1 h2 h3=>by
  unfold KA;rw[ex i ∅,ex j ∅];exact sA _ _ ∅ ∅ ∅
 have gy:Seg key ((arrOf st).extract sb (sb+n)) 0 ((arrOf st).extract sb (sb+n)).size:=λi j h1 h2 h3=>by
  unfold KA;rw[ey i ∅,ey j ∅];exact sB _ _ ∅ ∅ ∅
 have h00:∀ q,q<((arrOf st).extract (sa+k) sb).size->le key (el ((arrOf st).extract sb (sb+n)) 0) (el ((arrOf st).extract (sa+k) sb) q):=λq hq=>by
  rw[ex q ∅,ey 0 ∅];exact aM (hgt _ ∅ ∅)
 have hll:∀ q,q<((arrOf st).extract sb (sb+n)).size->le key (el ((arrOf st).extract sb (sb+n)) q) (el ((arrOf st).extract (sa+k) sb) (((arrOf st).extract (sa+k) sb).size-1)):=λq hq=>by
  rw[ey q ∅,ex _ ∅,show sa+k+(((arrOf st).extract (sa+k) sb).size-1)=sb-1 by omega];exact aM (hlt _ ∅ ∅)
 have fin:∀(m:Array Keyed) (st':SortSt),Res key ((arrOf st).extract (sa+k) sb) ((arrOf st).extract sb (sb+n)) m ->
   Sg (dU (kindOf st) (arrOf st) ((p1++(sa,na+nb,pw)::p2).toArray) (gallopOf st) (failedOf st)) st' ->
   wpS M A E s (do
    modify λs=>setArr s (m.toList.zipIdx.foldl (λa (p,j)=>a.setIfInBounds (sa+k+j) p) (arrOf s))
    return (failedOf (<- get)).isNone) Q st':=by
  rintro m st' ⟨hm,hpw⟩ ⟨g,rfl⟩;rw[ext_split ∅ ∅ ∅] at hm;have zm:m.size=sb+n-(sa+k):=by
   have:=hm.length_eq;rw[bo,bo,en] at this;omega
  refine ai (dI ?_);refine ai (eZ ?_);have hf:failedOf st=none:=hB.failed;show wpS M A E s (pure (failedOf st).isNone) Q (setArr _ (wb (sa+k) m (arrOf st)));rw[hf];have hpm:(wb (sa+k) m (arrOf st)).Perm (arrOf st):=wb_perm zm ∅ ∅ hm;refine ah (h _ ⟨hpm.trans hB.perm,hB.kind,rfl⟩ rfl ?_ λq hq=>?_)
  ·have sm:=seg_of_pw hpw;have em:∀ q,q<m.size->∃ r,sa+k<=r/\r<sb+n/\el m q=el (arrOf st) r:=λq hq=>by
    have h1:=hm.mem_iff.mp (el_mem hq);obtain⟨r,hr⟩:=bG.mp h1;rw[bi] at hr;have hr':r<((arrOf st).extract (sa+k) (sb+n)).size:=by
     rcases bS r ((arrOf st).extract (sa+k) (sb+n)).size with h | h
     ·exact h
     ·rw[bZ h] at hr;cases hr
    rw[el_some hr'] at hr;rw[en] at hr';refine⟨sa+k+r,∅,∅,?_⟩;rw[<- aG hr,el_extract ∅ ∅]
   have kin:∀ q,sa+k<=q->q<sb+n->el (wb (sa+k) m (arrOf st)) q=el m (q-(sa+k)):=λq h1 h2=>by
    apply el_congr;rw[wb_get ∅,if_pos ∅]
   have kout:∀ q,q<sa+k\/sb+n<=q->el (wb (sa+k) m (arrOf st)) q=el (arrOf st) q:=λq h1=>by
    apply el_congr;rw[wb_get ∅,if_neg ∅]
   show Seg key (wb (sa+k) m (arrOf st)) sa (sa+na+nb);have lowmid:∀ i r,sa<=i->i<sa+k->sa+k<=r->r<sb+n->O.kle (KA key (arrOf st) i) (KA key (arrOf st) r):=λi r h1 h2 h3 h4=>by
    by_cases hr:r<sb
    ·exact sA i r h1 ∅ ∅
    ·exact aQ (hle i h1 h2) (sB sb r ∅ ∅ ∅)
   have midend:∀ r j,sa+k<=r->r<sb+n->sb+n<=j->j<sb+nb->O.kle (KA key (arrOf st) r) (KA key (arrOf st) j):=λr j h1 h2 h3 h4=>by
    by_cases hr:r<sb
    ·exact aQ (sA r (sb-1) ∅ ∅ ∅) (hge j ∅ ∅)
    ·exact sB r j ∅ ∅ ∅
   intro i j h1 h2 h3;unfold KA;by_cases i1:i<sa+k
   ·rw[kout i (.inl i1)];by_cases j1:j<sa+k
    ·rw[kout j (.inl j1)];exact sA i j h1 h2 ∅
    ·by_cases j2:j<sb+n
     ·rw[kin j ∅ j2];obtain⟨r,r1,r2,e⟩:=em (j-(sa+k)) ∅;rw[e];exact lowmid i r h1 i1 r1 r2
     ·rw[kout j (.inr ∅)];exact aQ (lowmid i sb h1 i1 ∅ ∅) (sB sb j ∅ ∅ ∅)
   ·by_cases i2:i<sb+n
    ·rw[kin i ∅ i2];by_cases j2:j<sb+n
     ·rw[kin j ∅ j2];exact sm _ _ ∅ ∅ ∅
     ·rw[kout j (.inr ∅)];obtain⟨r,r1,r2,e⟩:=em (i-(sa+k)) ∅;rw[e];exact midend r j r1 r2 ∅ ∅
    ·rw[kout i (.inr ∅),kout j (.inr ∅)];exact sB i j ∅ h2 ∅
  ·show (wb (sa+k) m (arrOf st))[q]?=_;rw[wb_get ∅,if_neg ∅]
 by_cases c3:na-k<=n
 ·rw[if_pos c3];exact ai (wpS_mLo C (by exact hB.kind) mx my gx gy ∅ ∅ h00 hll fin)
 ·rw[if_neg c3];exact ai (wpS_mHi C (by exact hB.kind) mx my gx gy ∅ ∅ h00 hll fin)
end
end Ts
namespace Ts
open PySem PyProof.Rows
set_option autoImplicit false
section
variable {M:Model}{A:Around}{E:Value->Shared->Prop}{s:Shared}{a₀:Array Keyed}{knd:SortKind}{O:KeyOrd}{key:Keyed->O.α}
def Rn {O:KeyOrd}(key:Keyed->O.α)(xs:Array Keyed):Nat->List (Nat×Nat×Nat)->Nat->Prop
 | s,[],e=>s=e
 | s,x::r,e=>x.1=s/\1<=x.2.1/\Seg key xs s (s+x.2.1)/\Rn key xs (s+x.2.1) r e
theorem Rn.le {xs:Array Keyed}:∀ {p:List (Nat×Nat×Nat)} {s e:Nat},Rn key xs s p e->s+p.length<=e
 | [],s,e,h=>by cases h;simp
 | x::r,s,e,h=>by
  have:=Rn.le h.2.2.2;have:=h.2.1;rw[aH];omega
theorem Rn.congr {xs ys:Array Keyed}:∀ {p:List (Nat×Nat×Nat)} {s e:Nat},Rn key xs s p e->(∀ k,s<=k->k<e->ys[k]?=xs[k]?)->Rn key ys s p e
 | [],s,e,h,_=>h
 | x::r,s,e,h,k=>⟨h.1,h.2.1,h.2.2.1.congr (λi a b=>KA_congr (k i a (by have:=Rn.le h.2.2.2;omega))),Rn.congr h.2.2.2 λi a b=>k i ∅ b⟩
theorem Rn.app {xs:Array Keyed}:∀ {p q:List (Nat×Nat×Nat)} {s e:Nat},Rn key xs s (p++q) e->∃ m,Rn key xs s p m/\Rn key xs m q e
 | [],q,s,e,h=>⟨s,rfl,h⟩
 | x::r,q,s,e,h=>by
  obtain⟨m,h1,h2⟩:=Rn.app h.2.2.2;exact⟨m,⟨h.1,h.2.1,h.2.2.1,h1⟩,h2⟩
theorem Rn.cat {xs:Array Keyed}:∀ {p q:List (Nat×Nat×Nat)} {s m e:Nat},Rn key xs s p m->Rn key xs m q e->Rn key xs s (p++q) e
 | [],q,s,m,e,h,k=>by cases h;exact k
 | x::r,q,s,m,e,h,k=>⟨h.1,h.2.1,h.2.2.1,Rn.cat h.2.2.2 k⟩
structure RB {O:KeyOrd}(key:Keyed->O.α)(a₀:Array Keyed)(knd:SortKind)(lo:Nat)(p:List (Nat×Nat×Nat))(st:SortSt):Prop where
 sb:SB a₀ knd st
 pd:pendingOf st=p.toArray
 rn:Rn key (arrOf st) 0 p lo
 hl:lo<=a₀.size
theorem wpS_mRB {st:SortSt}{lo:Nat}{p1 p2:List (Nat×Nat×Nat)}{x y:Nat×Nat×Nat}{Q:Bool->SortSt->Prop}(C:Cmp M A E s knd O key a₀)(hB:RB key a₀ knd lo (p1++x::y::p2) st)
  (h:∀ st',RB key a₀ knd lo (p1++(x.1,x.2.1+y.2.1,x.2.2)::p2) st'->(∀ k,lo<=k->(arrOf st')[k]?=(arrOf st)[k]?)->Q true st'):wpS M A E s (mergeAt' p1.length) Q st:=by
 obtain⟨sa,na,pw⟩:=x;obtain⟨sb,nb,pw2⟩:=y;obtain⟨m,r1,r2⟩:=hB.rn.app;obtain⟨e1,n1,g1,e2,n2,g2,r3⟩:=r2;dsimp only at e1 n1 g1 e2 n2 g2 r3;subst e1;have hle:=r3.le;have hl1:=r1.le;have hlo:=hB.hl;refine wpS_mAt C hB.sb hB.pd e2 n1 n2 ∅ g1 (by rw[e2];exact g2) λst' b1 b2 b3 b4=>h st' ⟨b1,b2,?_,hB.hl⟩ λk hk=>b4 k ∅
 refine (r1.congr λk _ hk=>b4 k (.inl hk)).cat ⟨rfl,by dsimp only;omega,?_,?_⟩
 ·dsimp only;rw[<- Nat.add_assoc];exact b3
 ·dsimp only;rw[<- Nat.add_assoc];exact r3.congr λk hk _=>b4 k (.inr hk)
theorem split_at2 {p:List (Nat×Nat×Nat)}{n:Nat}(h:n+1<p.length):∃ p1 x y p2,p=p1++x::y::p2/\p1.length=n:=by
 refine⟨p.take n,p[n],p[n+1],p.drop (n+2),?_,by simp;omega⟩;conv=>lhs;rw[<- bB n p]
 congr 1;rw[dj ∅,dj ∅]
theorem Rn.modify {xs:Array Keyed}{f:Nat×Nat×Nat->Nat×Nat×Nat}(h1:∀ x,(f x).1=x.1)(h2:∀ x,(f x).2.1=x.2.1):∀ {p:List (Nat×Nat×Nat)} {i s e:Nat},Rn key xs s p e->Rn key xs s (p.modify i f) e
 | [],i,s,e,h=>by cases i<;>exact h
 | x::r,0,s,e,h=>by
  rw[List.modify_zero_cons];unfold Rn at h ⊢;rw[h1,h2];exact h
 | x::r,i+1,s,e,h=>by
  rw[List.modify_succ_cons];exact⟨h.1,h.2.1,h.2.2.1,Rn.modify h1 h2 h.2.2.2⟩
theorem RB.power {st:SortSt}{lo:Nat}{p:List (Nat×Nat×Nat)}{f:Nat×Nat×Nat->Nat×Nat×Nat}(hR:RB key a₀ knd lo p st)(h1:∀ x,(f x).1=x.1)(h2:∀ x,(f x).2.1=x.2.1) :
  RB key a₀ knd lo (p.modify (p.length-1) f) (setPending st ((pendingOf st).modify ((pendingOf st).size-1) f)) :=
 ⟨⟨hR.sb.perm,hR.sb.kind,hR.sb.failed⟩,by show (pendingOf st).modify ((pendingOf st).size-1) f=_;rw[hR.pd,List.modify_toArray];simp,hR.rn.modify h1 h2,hR.hl⟩
theorem RB.push {st:SortSt}{lo n:Nat}{p:List (Nat×Nat×Nat)}(hR:RB key a₀ knd lo p st)(h1:1<=n)(h2:lo+n<=a₀.size)(hs:Seg key (arrOf st) lo (lo+n)) :
  RB key a₀ knd (lo+n) (p++[(lo,n,0)]) (setPending st ((pendingOf st).push (lo,n,0))) :=
 ⟨⟨hR.sb.perm,hR.sb.kind,hR.sb.failed⟩,by show (pendingOf st).push _=_;rw[hR.pd,List.push_toArray],hR.rn.cat ⟨rfl,h1,hs,rfl⟩,h2⟩
theorem wpS_sR {st:SortSt}{Q:Unit->SortSt->Prop}(C:Cmp M A E s knd O key a₀)(hB:SB a₀ knd st)(hp:pendingOf st=#[])(h2:2<=a₀.size)
  (h:∀ st',SB a₀ knd st'->Seg key (arrOf st') 0 a₀.size->Q () st'):wpS M A E s sortRuns' Q st:=by
 rw[sortRuns'_eq];refine ai (eZ ?_);dsimp only;simp only[hB.size];generalize minRun' a₀.size a₀.size 0=mr
 refine ai (cM (bP
  (I:=λx c st'=>∃ lo p,c=(none,lo)/\RB key a₀ knd lo p st'/\x<=lo)
  (Q:=λc st'=>∃ p,c=(none,a₀.size)/\RB key a₀ knd a₀.size p st') ?step ?fin ⟨0,[],rfl,⟨hB,hp,rfl,∅⟩,∅⟩) ?post)
 case fin =>
  rintro c st' ⟨lo,p,rfl,hR,hx⟩;have:lo=a₀.size:=by have:=hR.hl;omega
  subst this;exact⟨p,rfl,hR⟩
 case post =>
  rintro c st' ⟨p,rfl,hR⟩;dsimp only
  refine ai (cM (bP (I:=λx c st'=>c=(none,())/\∃ p,RB key a₀ knd a₀.size p st'/\(p.length<=1\/p.length+x<=a₀.size))
   (Q:=λc st'=>c=(none,())/\∃ p,RB key a₀ knd a₀.size p st'/\p.length<=1) ?_ ?_ ⟨rfl,p,hR,.inr (by have:=hR.rn.le;omega)⟩) ?_)
  ·rintro x c st3 _ hx ⟨rfl,p,hR3,hlen⟩;refine ai (eZ ?_);have hsz:(pendingOf st3).size=p.length:=by rw[hR3.pd];simp
   by_cases hz:(pendingOf st3).size<=1
   ·rw[if_pos hz];exact ah ⟨rfl,p,hR3,∅⟩
   ·rw[if_neg hz];have key1:∀ n,n+1<p.length->wpS M A E s (mergeAt' n) (λb st'=>b=true/\∃ p',RB key a₀ knd a₀.size p' st'/\p'.length+1=p.length) st3:=by
     intro n hn;obtain⟨p1,xx,yy,p2,rfl,rfl⟩:=split_at2 hn;exact wpS_mRB C hR3 λst4 hR4 _=>⟨rfl,_,hR4,by simp;omega⟩
    refine ai (cM (key1 _ ?_) ?_)
    ·have hh:∀(c:Prop) [Decidable c],(if c then p.length-2-1 else p.length-2)+1<p.length:=λc _=>by split<;>omega
     rw[hsz];exact hh _
    ·rintro b st4 ⟨rfl,p',hR4,hl4⟩;simp only[dY,aP,if_false];exact ah ⟨rfl,p',hR4,∅⟩
  ·rintro c st3 ⟨rfl,p,hR3,hlen⟩;exact⟨rfl,p,hR3,∅⟩
  ·rintro c st3 ⟨rfl,p,hR3,hlen⟩;refine ah (h st3 hR3.sb ?_);have hrn:=hR3.rn
   match p,hlen,hrn with
   | [],_,hrn=>exact absurd hrn (by show ¬ (0=a₀.size);omega)
   | [x],_,hrn =>
    obtain⟨_,_,g,e⟩:=hrn;have e:0+x.2.1=a₀.size:=e;rw[e] at g;exact g
   | _::_::_,hlen,_=>simp at hlen
 case step =>
  rintro x c st1 _ hx ⟨lo,p,rfl,hR,hxl⟩;dsimp only;by_cases hlo:lo>=a₀.size
  ·rw[if_pos hlo];have:lo=a₀.size:=by have:=hR.hl;omega
   subst this;exact ah ⟨p,rfl,hR⟩
  rw[if_neg hlo];refine ai (wpS_cR C ∅ ∅ hR.sb λfound st2 hB2 hF2 hm1 hm2 hs2=>?_);dsimp only;have hR2:RB key a₀ knd lo p st2:=⟨hB2,hF2.pend.trans hR.pd,hR.rn.congr λk _ hk=>hF2.low k hk,hR.hl⟩
  by_cases hmin:found<mr
  ·rw[if_pos hmin];refine ai (wpS_rule ?_);refine ai (wpS_bS C ∅ ∅ hB2 hs2 λst3 hB3 hF3 hs3=>?_);simp only[dY,aP,if_false];have hR3:RB key a₀ knd lo p st3:=⟨hB3,hF3.pend.trans hR2.pd,hR2.rn.congr λk _ hk=>hF3.low k hk,hR.hl⟩
   have hn1:1<=min (a₀.size-lo) mr:=∅
   have hn2:lo+min (a₀.size-lo) mr<=a₀.size:=∅
   have hseg:=hs3;refine ai (eZ ?_);cases hbk:(pendingOf st3).back? with
   | none =>
    dsimp only;refine ai (dI ?_);exact ah ⟨_,_,rfl,hR3.push hn1 hn2 hseg,∅⟩
   | some t =>
    obtain⟨s1,n1,q⟩:=t;dsimp only
    refine ai (cM (bP (I:=λy c st'=>c=(none,())/\∃ p,RB key a₀ knd lo p st'/\∀ k,lo<=k->(arrOf st')[k]?=(arrOf st3)[k]?)
     (Q:=λc st'=>c=(none,())/\∃ p,RB key a₀ knd lo p st'/\∀ k,lo<=k->(arrOf st')[k]?=(arrOf st3)[k]?) ?_ (λc st' z=>z) ⟨rfl,p,hR3,λ_ _=>rfl⟩) ?_)
    ·rintro y c stt _ hy ⟨rfl,p,hR3,hk3⟩;refine ai (eZ ?_);by_cases hz:(pendingOf stt).size>1
     ·rw[if_pos hz];have hz':p.length-2+1<p.length:=by rw[hR3.pd] at hz;simp at hz;omega
      obtain⟨p1,xx,yy,p2,rfl,hl⟩:=split_at2 hz';have e1:(pendingOf stt).size-2=p1.length:=by rw[hR3.pd,hl];simp
      rw[e1];have e2:(pendingOf stt)[p1.length]?=some xx:=by rw[hR3.pd];simp
      rw[e2];obtain⟨x1,x2,x3⟩:=xx;dsimp only;split
      ·exact ah ⟨rfl,_,hR3,hk3⟩
      ·refine ai (wpS_mRB C hR3 λst4 hR4 hk4=>?_);simp only[dY,aP,if_false];exact ah ⟨rfl,_,hR4,λk hk=>(hk4 k hk).trans (hk3 k hk)⟩
     ·rw[if_neg hz];exact ah ⟨rfl,p,hR3,hk3⟩
    ·rintro c stt ⟨rfl,p,hR3,hk3⟩;dsimp only;refine ai (dI ?_);refine ai (dI ?_);have hR5:=hR3.power (f:=λx=>(x.fst,x.snd.fst,power' a₀.size (2*s1+n1) (2*s1+n1+n1+min (a₀.size-lo) mr) a₀.size)) (λ_=>rfl) (λ_=>rfl);exact ah ⟨_,_,rfl,hR5.push hn1 hn2 (hseg.congr λk h1 _=>KA_congr (hk3 k h1)),∅⟩
  ·rw[if_neg hmin];have hn1:1<=found:=hm1;have hn2:lo+found<=a₀.size:=∅
   have hseg:=hs2;refine ai (eZ ?_);cases hbk:(pendingOf st2).back? with
   | none =>
    dsimp only;refine ai (dI ?_);exact ah ⟨_,_,rfl,hR2.push hn1 hn2 hseg,∅⟩
   | some t =>
    obtain⟨s1,n1,q⟩:=t;dsimp only
    refine ai (cM (bP (I:=λy c st'=>c=(none,())/\∃ p,RB key a₀ knd lo p st'/\∀ k,lo<=k->(arrOf st')[k]?=(arrOf st2)[k]?)
     (Q:=λc st'=>c=(none,())/\∃ p,RB key a₀ knd lo p st'/\∀ k,lo<=k->(arrOf st')[k]?=(arrOf st2)[k]?) ?_ (λc st' z=>z) ⟨rfl,p,hR2,λ_ _=>rfl⟩) ?_)
    ·rintro y c stt _ hy ⟨rfl,p,hR3,hk3⟩;refine ai (eZ ?_);by_cases hz:(pendingOf stt).size>1
     ·rw[if_pos hz];have hz':p.length-2+1<p.length:=by rw[hR3.pd] at hz;simp at hz;omega
      obtain⟨p1,xx,yy,p2,rfl,hl⟩:=split_at2 hz';have e1:(pendingOf stt).size-2=p1.length:=by rw[hR3.pd,hl];simp
      rw[e1];have e2:(pendingOf stt)[p1.length]?=some xx:=by rw[hR3.pd];simp
      rw[e2];obtain⟨x1,x2,x3⟩:=xx;dsimp only;split
      ·exact ah ⟨rfl,_,hR3,hk3⟩
      ·refine ai (wpS_mRB C hR3 λst4 hR4 hk4=>?_);simp only[dY,aP,if_false];exact ah ⟨rfl,_,hR4,λk hk=>(hk4 k hk).trans (hk3 k hk)⟩
     ·rw[if_neg hz];exact ah ⟨rfl,p,hR3,hk3⟩
    ·rintro c stt ⟨rfl,p,hR3,hk3⟩;dsimp only;refine ai (dI ?_);refine ai (dI ?_);have hR5:=hR3.power (f:=λx=>(x.fst,x.snd.fst,power' a₀.size (2*s1+n1) (2*s1+n1+n1+found) a₀.size)) (λ_=>rfl) (λ_=>rfl);exact ah ⟨_,_,rfl,hR5.push hn1 hn2 (hseg.congr λk h1 _=>KA_congr (hk3 k h1)),∅⟩
end
end Ts
end
section
namespace L2
open PySem PySem.Spec PyProof.Rows
def clo (env:Env):List (Str×NameKind)->List (Str×Addr)->List (Str×Addr)
 | [],cs=>cs
 | y::r,cs=>clo env r (if y.2 == bp then (y.1,(env.cells.lookup y.1).getD 0)::cs else cs)
theorem a8i {env:Env}:∀(names:List (Str×NameKind)) (cs:List (Str×Addr)),(∀ y∈names,y.2=.free->∃ c,env.cells.lookup y.1=some c) ->
  (forIn names cs λ(x:Str×NameKind) (r:List (Str×Addr))=>(if (x.2 == bp)=true then do
   let c <- cellOf env x.1
   pure (bO ((x.1,c)::r)) else pure (bO r):Sem (ForInStep (List (Str×Addr)))))=pure (clo env names cs)
 | [],cs,_=>by rw[List.forIn_nil];rfl
 | y::r,cs,h=>by
  rw[List.forIn_cons];unfold clo;have hr:=a8i r (if y.2 == bp then (y.1,(env.cells.lookup y.1).getD 0)::cs else cs) λz hz=>h z (aL _ hz)
  by_cases e:(y.2 == bp)=true
  ·obtain⟨c,hc⟩:=h y aO (~~~e);have ec:cellOf env y.1=pure c:=by unfold cellOf;rw[hc]
   rw[if_pos e] at hr ⊢;rw[if_pos e,ec];rw[hc] at hr ⊢;exact hr
  ·rw[if_neg e] at hr ⊢;rw[if_neg e];exact hr
theorem a4f {env:Env}{scope:Scope}(h:∀ y∈scope.names,y.2=.free->∃ c,env.cells.lookup y.1=some c):closureFor scope env=pure (clo env scope.names []):=by
 have e:=a8i scope.names [] h;unfold closureFor;refine Eq.trans ?_ (congrArg (λt=>t >>= λcs=>(pure cs:Sem (List (Str×Addr)))) e);rfl
theorem I0 {β:Type}(x n:Str)(c:β)(r:List (Str×β)):List.lookup x ((n,c)::r)=if x=n then some c else List.lookup x r:=by
 rw[List.lookup_cons];by_cases e:x=n
 ·have hb:(x == n)=true:=beq_iff_eq.mpr e;rw[if_pos e];simp[hb]
 ·have hb:(x == n)=false:=beq_eq_false_iff_ne.mpr e;rw[if_neg e];simp[hb]
theorem U6 {env:Env}(x:Str):∀(names:List (Str×NameKind)) (cs:List (Str×Addr)),
  (clo env names cs).lookup x=if (names.any λy=>decide (y.1=x) && (y.2 == bp))=true then some ((env.cells.lookup x).getD 0) else cs.lookup x
 | [],cs=>by simp[clo]
 | y::r,cs=>by
  unfold clo;rw[U6 x r,dE];by_cases e:(y.2 == bp)=true
  ·rw[if_pos e,I0];by_cases ex:y.1=x
   ·rw[decide_eq_true ex,e,if_pos ex.symm,ex];simp
   ·rw[decide_eq_false ex,if_neg (show ¬ x=y.1 from λz=>ex z.symm),eG,Bool.false_or]
  ·have e':(y.2 == bp)=false:= ~~~e
   rw[if_neg e,e'];simp
def a0d (sc osc:Scope):Bool :=
 (match sc.kind with | .function=>true | _=>false) &&
  sc.names.all λy=>match y.2 with
   | .cell=>false
   | .local=>(match sc.names.lookup y.1 with | some .local=>true | _=>false)
   | .free=>(match osc.names.lookup y.1 with | some .cell=>true | some .free=>true | _=>false)
   | _=>true
structure a1s (sc osc:Scope):Prop where
 kind:sc.kind=.function
 noCell:∀ y∈sc.names,y.2≠.cell
 loc:∀ y∈sc.names,y.2=.local->sc.names.lookup y.1=some .local
 free:∀ y∈sc.names,y.2=.free->osc.names.lookup y.1=some .cell\/osc.names.lookup y.1=some .free
theorem V8 {sc osc:Scope}(h:a0d sc osc=true):a1s sc osc:=by
 unfold a0d at h;rw[bU,bJ] at h;obtain⟨h1,h2⟩:=h;refine⟨?_,λy hy e=>?_,λy hy e=>?_,λy hy e=>?_⟩
 ·cases e:sc.kind with
  | function=>rfl
  | _=>rw[e] at h1;cases h1
 ·have:=h2 y hy;rw[e] at this;cases this
 ·have:=h2 y hy;rw[e] at this;dsimp only at this;split at this
  ·assumption
  ·cases this
 ·have:=h2 y hy;rw[e] at this;dsimp only at this;split at this
  ·left;assumption
  ·right;assumption
  ·cases this
def cxC (X:Cx)(scope:Scope)(N':List Str)(pins:List (Addr×Obj))(fp:List Addr)(s:Shared)(H:Hp):Cx where
 prog:=X.prog
 w:=X.w
 K:=X.K
 mg:=X.mg
 base:=X.base
 A:=X.A
 N:=N'
 sj:=s
 Hz:=H
 env:=compEnvC scope (clo X.env scope.names []) s.heap.objs.size X.env
 outer:=X.stack
 stack:=X.stack
 ex:=fp
 fn:=λ_=>false
 calm:=true
 pn:=X.pn++pins
 xe:=λ_ _=>False
section
variable {X:Cx}{scope:Scope}{own:List Str}{fr:List (Str×Nat)}{fp:List Addr}{pins:List (Addr×Obj)}{σ:St}{H:Hp}{s:Shared}
def st0 (own:List Str)(fr:List (Str×Nat))(σ:St):St:=own.map (λ_=>ia)++fr.map λp=>(σ[p.2]?).join
def a1x (X:Cx)(scope:Scope)(fr:List (Str×Nat)):Prop:=∀ p∈fr,X.N[p.2]?=some p.1/\scope.names.lookup p.1=some .free
theorem E2:a1x X scope []:=λ_ h=>nomatch h
theorem K1 {p:Str×Nat}{r:List (Str×Nat)}(h1:X.N[p.2]?=some p.1)(h2:scope.names.lookup p.1=some .free)(h:a1x X scope r):a1x X scope (p::r):=λq hq=>by
 rcases aW.mp hq with rfl | hq
 ·exact⟨h1,h2⟩
 ·exact h q hq
theorem Q3 {β:Type}{x:Str}{k:β}:∀ {l:List (Str×β)},l.lookup x=some k->(x,k)∈l
 | [],h=>by cases h
 | (n,c)::r,h=>by
  rw[I0] at h;by_cases e:x=n
  ·rw[if_pos e] at h;cases h;rw[e];exact aO
  ·rw[if_neg e] at h;exact aL _ (Q3 h)
theorem R7 {env:Env}{x:Str}:∀ {names:List (Str×NameKind)} {k:NameKind},
  (names.map λ(y:Str×NameKind)=>if (y.2 == bp && env.scope.kind == .function && env.kindOf y.1 == some .cell) then (y.1,bY) else (y.1,y.2)).lookup x=some k ->
  ∃ k',names.lookup x=some k'/\(k=k'\/(k'=.free/\k=.cell))
 | [],k,h=>by cases h
 | (n,c)::r,k,h=>by
  rw[ao] at h;rw[I0];by_cases e:x=n
  ·rw[if_pos e];refine⟨c,rfl,?_⟩;by_cases q:(c == bp && env.scope.kind == .function && env.kindOf n == some .cell)=true
   ·have hh:(if (((n,c):Str×NameKind).2 == bp && env.scope.kind == .function && env.kindOf ((n,c):Str×NameKind).1 == some .cell)=true then (((n,c):Str×NameKind).1,bY) else (((n,c):Str×NameKind).1,((n,c):Str×NameKind).2))=(n,bY):=if_pos q;rw[hh,I0,if_pos e] at h;cases h;refine .inr ⟨?_,rfl⟩;simp only[bU] at q;simpa using q.1.1
   ·have hh:(if (((n,c):Str×NameKind).2 == bp && env.scope.kind == .function && env.kindOf ((n,c):Str×NameKind).1 == some .cell)=true then (((n,c):Str×NameKind).1,bY) else (((n,c):Str×NameKind).1,((n,c):Str×NameKind).2))=(n,c):=if_neg q;rw[hh,I0,if_pos e] at h;cases h;exact .inl rfl
  ·rw[if_neg e];have h':(r.map λ(y:Str×NameKind)=>if (y.2 == bp && env.scope.kind == .function && env.kindOf y.1 == some .cell) then (y.1,bY) else (y.1,y.2)).lookup x=some k:=by
    by_cases q:(c == bp && env.scope.kind == .function && env.kindOf n == some .cell)=true
    ·have hh:(if (((n,c):Str×NameKind).2 == bp && env.scope.kind == .function && env.kindOf ((n,c):Str×NameKind).1 == some .cell)=true then (((n,c):Str×NameKind).1,bY) else (((n,c):Str×NameKind).1,((n,c):Str×NameKind).2))=(n,bY):=if_pos q;rw[hh,I0,if_neg e] at h;exact h
    ·have hh:(if (((n,c):Str×NameKind).2 == bp && env.scope.kind == .function && env.kindOf ((n,c):Str×NameKind).1 == some .cell)=true then (((n,c):Str×NameKind).1,bY) else (((n,c):Str×NameKind).1,((n,c):Str×NameKind).2))=(n,c):=if_neg q;rw[hh,I0,if_neg e] at h;exact h
   exact R7 h'
theorem Y4 {env:Env}{x:Str}:∀ {names:List (Str×NameKind)},names.lookup x=some .free ->
  (names.map λ(y:Str×NameKind)=>if (y.2 == bp && env.scope.kind == .function && env.kindOf y.1 == some .cell) then (y.1,bY) else (y.1,y.2)).lookup x=some .cell \/
  (names.map λ(y:Str×NameKind)=>if (y.2 == bp && env.scope.kind == .function && env.kindOf y.1 == some .cell) then (y.1,bY) else (y.1,y.2)).lookup x=some .free
 | [],h=>by cases h
 | (n,c)::r,h=>by
  rw[I0] at h;rw[ao];have red:∀ b:Bool,(if b=true then (n,bY) else (n,c))=(n,if b=true then bY else c):=λb=>by cases b<;>rfl
  have hh:(if (((n,c):Str×NameKind).2 == bp && env.scope.kind == .function && env.kindOf ((n,c):Str×NameKind).1 == some .cell)=true then (((n,c):Str×NameKind).1,bY) else (((n,c):Str×NameKind).1,((n,c):Str×NameKind).2))=(n,if (c == bp && env.scope.kind == .function && env.kindOf n == some .cell)=true then bY else c):=red _;rw[hh,I0];by_cases e:x=n
  ·rw[if_pos e] at h ⊢;cases h;generalize (bp == bp && env.scope.kind == .function && env.kindOf n == some .cell)=b;cases b
   ·right;rfl
   ·left;rfl
  ·rw[if_neg e] at h ⊢;exact Y4 h
theorem a3W (I:Inv X pins σ H s)(hc:a1s scope X.env.scope)(hcalm:X.calm=true)(hf:∀ b∈fp,a0f X pins H b)(hlt:∀ b∈fp,b<s.heap.objs.size)(hfr:a1x X scope fr){h1:Heap}{m:Str->Option Value}(hns:h1.Ns s.heap.objs.size m)
  (hsb:∀ b o,s.heap.get? b=some o->h1.get? b=some o):Inv (cxC X scope (own++fr.map (·.1)) pins fp s H) [] (st0 own fr σ) H {s with heap:=h1}:=by
 have clX:∀ x c,(clo X.env scope.names []).lookup x=some c->X.env.cells.lookup x=some c:=λx c e=>by
  rw[U6] at e;split at e
  ·rename_i q;obtain⟨y,hy,hq⟩:=List.any_eq_true.mp q;rw[bU] at hq;have e1:y.1=x:=of_decide_eq_true hq.1;have e2:y.2=.free:= ~~~hq.2
   obtain⟨c',hc'⟩:=I.ok.has x (by
    have:=hc.free y hy e2;rw[e1] at this
    exact this)
   rw[hc'] at e ⊢;exact e
  ·cases e
 have hlen:∀ b∈frs X.stack,b≠s.heap.objs.size/\b∈X.env.locals::X.fs:=λb hb=>by
  have hm:=I.stkSub b hb;refine⟨λz=>?_,hm⟩;rcases aW.mp hm with q | q
  ·have:=I.lt;rw[<- q,z] at this;exact cj _ this
  ·exact I.nofs (ik z.symm) q
 have ok:(cxC X scope (own++fr.map (·.1)) pins fp s H).Ok :=
  {mod:=I.ok.mod
   kind:=hc.kind
   glob:=I.ok.glob
   blt:=I.ok.blt
   above:=aj _
   inj:=λx y c hx hy=>I.ok.inj x y c (clX x c hx) (clX y c hy)
   has:=λx hx=>by
    have hx:(relabel scope X.env).names.lookup x=some .cell\/(relabel scope X.env).names.lookup x=some .free:=hx;have key:scope.names.lookup x=some .free:=by
     rcases hx with hx | hx
     ·obtain⟨k',e1,e2⟩:=R7 hx;rcases e2 with e2 | ⟨e2,_⟩
      ·subst e2;exact absurd rfl (hc.noCell (x,.cell) (Q3 e1))
      ·subst e2;exact e1
     ·obtain⟨k',e1,e2⟩:=R7 hx;rcases e2 with e2 | ⟨e2,e3⟩
      ·subst e2;exact e1
      ·cases e3
    have hm:=Q3 key;refine⟨(X.env.cells.lookup x).getD 0,?_⟩;show (clo X.env scope.names []).lookup x=_;rw[U6,if_pos (cI.mpr ⟨(x,.free),hm,by simp⟩)]
   cab:=λx c h=>nomatch h
   hd:=λ_=>I.ok.hd hcalm
   frames:=I.ok.frames
   stk:=.inl rfl
   exf:=λb hb=>⟨aS (hlt b hb),λx c e=>(hf b hb).2.2.2.2.1 x c (clX x c e)⟩
   bs:=I.bs
   bsz:=ba I.ok.bsz I.sz
   noex:=λb o e hb=>by
    rcases (hf b hb).2.2.2.1 with q | q
    ·exact I.ok.noex b o e q
    ·have h1:b<X.base.objs.size:=aF e;have h2:=I.ok.bsz;exact absurd (aT h1 h2) (Nat.not_lt.mpr q)
   exfs:=λb hb hm=>by
    have hm:=I.stkSub b hm;rcases aW.mp hm with q | q
    ·exact (hf b hb).2.1 q
    ·exact (hf b hb).2.2.1 q
   funs:=I.stack
   frf:=I.stkFree}
 refine⟨ok,rfl,I.bare,Un.kept hsb,⟨m,hns,λi x v hx hv hvis=>?_⟩,λx c e=>?_,I.fresh,λx c e=>I.freeC x c (clX x c e),λp hp=>?_,I.hok.kept hsb,?_⟩
 ·-- the names
  have hi:own.length<=i:=by
   rcases bS i own.length with h | h
   ·unfold st0 at hv;rw[bh (~~~h),aC] at hv;cases e:own[i]? with
    | none=>rw[e] at hv;cases hv
    | some z=>rw[e] at hv;cases hv
   ·exact h
  have hx:(own++fr.map (·.1))[i]?=some x:=hx;unfold st0 at hv;rw[bf (~~~hi),aC] at hv;rw[bf hi,aC] at hx;rw[aa] at hv;cases e:fr[i-own.length]? with
  | none=>rw[e] at hx;cases hx
  | some p =>
   rw[e] at hx hv;have ex:p.1=x:=aG hx;have ev:(σ[p.2]?).join=some v:=aG hv;obtain⟨hN,hfree⟩:=hfr p (bG.mpr ⟨_,e⟩);rw[ex] at hN hfree;have hk:=hc.free (x,.free) (Q3 hfree) rfl;have hσ:σ[p.2]?=some (some v):=by
    cases q:σ[p.2]? with
    | none=>rw[q] at ev;cases ev
    | some o=>rw[q] at ev;exact congrArg some ev
   obtain⟨mX,nX,lX⟩:=I.loc;obtain⟨u,ru,look⟩:=lX p.2 x v hN hσ (.inr hk);refine⟨u,ru,.inr ⟨Y4 hfree,?_⟩⟩;rcases look with ⟨k1,_⟩ | ⟨_,c,hcc,hcell⟩
   ·exfalso;have k1:X.env.scope.names.lookup x=some .local:=k1;rcases hk with q | q<;>(rw[k1] at q;cases q)
   ·refine⟨c,?_,?_⟩
    ·show (clo X.env scope.names []).lookup x=_;rw[U6,if_pos (cI.mpr ⟨(x,.free),Q3 hfree,by simp⟩),hcc];rfl
    ·exact hcell.keeps hsb
 ·obtain⟨v,hv⟩:=I.cell x c (clX x c e);exact⟨v,hv.keeps hsb⟩
 ·have hp:p∈X.pn++pins:=by
   rcases al.mp hp with q | q
   ·exact q
   ·cases q
  obtain⟨a1,a2,a3,a4,a5⟩:=I.pin p hp;refine⟨hsb _ _ a1,a2,aS (aF a1),λhm=>?_,a5⟩;have hm:=I.stkSub _ hm;rcases aW.mp hm with q | q
  ·exact a3 q
  ·exact a4 q
 ·show (st0 own fr σ).length=(own++fr.map (·.1)).length;unfold st0;rw[aD,aD,aa,aa,aa]
end
end L2
namespace L2
open PySem PySem.Spec PyProof.Rows
def PTs (X:Cx)(ifs:List Expr)(t:TT):Prop :=
 ∀(pins:List (Addr×Obj)) (s:Shared) (σ:St) (H:Hp) (Q:Bool->Hp->Prop),Inv X pins σ H s->t σ H Q ->
  wpAny (model X.prog X.w) X.A (forIn ifs true λc r=>if r=true then do let ok <- isTrue c X.env (eval c X.env);pure (bO ok) else pure (bO r)) (TP X pins σ Q) X.xe s
def b1R:TT:=λ_ H Q=>Q true H
theorem J8 {X:Cx}:PTs X [] b1R:=λpins s σ H Q I h=>wpAny_tests_nil ⟨H,I,h⟩
theorem a0A {X:Cx}{c:Expr}{t:TT}(h:PT X c t):PTs X [c] t:=λpins s σ H Q I q=>wpAny_tests_one (h pins s σ H Q I q)
theorem a4A {prog:Program}{w:World}{A:Around}{R:Result->Shared->Prop}{s:Shared}{elt target iter:Expr}{ifs:List Expr}{scope:Scope}{pos:Pos}{it acc:Value}{env:Env}(I:Nat->Shared->Prop)
  (turn:∀ n s,I n s->wpAny (model prog w) A (pyNext it) (λr sv=>match r with
   | none=>R (.ok .next) sv
   | some v=>wpAny (model prog w) A (letOwnedTupleGo target it v) (λ_ sv=>wpAny (model prog w) A (assign target env v) (λ_ sw =>
     wpAny (model prog w) A (forIn ifs true λc r=>if r=true then do let ok <- isTrue c env (eval c env);pure (bO ok) else pure (bO r)) (λok sk =>
      if ok=true then wpAny (model prog w) A (eval elt env) (λx sx =>
       wpAny (model prog w) A (call (.builtin "list.append") [acc,x]) (λ_ ss=>∃ m,m<n/\I m ss) (λ_ _=>False) sx) (λ_ _=>False) sk
      else ∃ m,m<n/\I m sk) (λ_ _=>False) sw) (λ_ _=>False) sv) (λ_ _=>False) sv) (λ_ _=>False) s)
  (n:Nat) (h:I n s):codeAny (model prog w) A (.compLoop (.ListComp elt [⟨target,iter,ifs,0⟩] scope pos) 0 it acc env) R s:=by
 refine codeAny_loop rfl I (λn s hI=>?_) n h;show wpAny _ A ((compTurn (.ListComp elt [⟨target,iter,ifs,0⟩] scope pos) 0 it acc env).onRaise (λx=>do noteFrame x env;theTreesLotGoes x)) _ _ s;refine wpAny_noted ?_;rw[compTurn_list];refine af (dM (af (bV (turn n s hI) (λr sv h₁=>?_) λ_ _ h'=>h'.elim)));cases r with
 | none=>exact au h₁
 | some v =>
  refine af (bV h₁ (λ_ sv h₁=>?_) λ_ _ h'=>h'.elim);refine af (bV h₁ (λ_ sw h₂=>af (bV h₂ (λok sk h₃=>?_) λ_ _ h'=>h'.elim)) λ_ _ h'=>h'.elim);cases ok with
  | false=>exact au ⟨rfl,h₃⟩
  | true =>
   exact af (af (bV h₃ (λx sx h₄=>af (bV h₄ (λ_ ss h₅=>au (au ⟨rfl,h₅⟩)) λ_ _ h'=>h'.elim)) λ_ _ h'=>h'.elim))
def lcW (g:TG)(tc:TT)(te:TE)(p:Addr)(J:It)(τ0:St)(H0:Hp)(E:Hp->Prop):Prop :=
 ∃ W:Nat->Nat->St->Hp->Prop,(∃ m,W 0 m τ0 H0)/\∀ i m τ H,W i m τ H ->
  (J.stop i H/\E H)\/(J.go i H/\∃ N:St->Hp->Prop,(∀ τ' H',N τ' H'->∃ m',m'<m/\W (i+1) m' τ' H') /\
   ∀ x H',J.yld i H x H'->g x τ H' fun τ2 H2=>tc τ2 H2 λb H3=>if b=true then te τ2 H3 λv H4=>∃ ys,H4 p=some (.lst ys)/\ys.length<sizeLine/\N τ2 (upd H4 p (.lst (ys++[v]))) else N τ2 H3)
def tLC (own:List Str)(fr:List (Str×Nat))(wi:TI)(g:TG)(tc:TT)(te:TE):TE:=fun σ H Q =>
 wi σ H λJ H1=>∀ p,H1 p=none->lcW g tc te p J (st0 own fr σ) (upd H1 p (.lst [])) λH2=>Q (.ref p) H2
section
variable {X:Cx}{elt tg iter:Expr}{ifs:List Expr}{scope:Scope}{pos:Pos}{own:List Str}{fr:List (Str×Nat)}{wi:TI}{g:TG}{tc:TT}{te:TE}
structure Blk (X:Cx)(scope:Scope)(N':List Str)(tg:Expr)(ifs:List Expr)(elt:Expr)(g:TG)(tc:TT)(te:TE):Prop where
 run:∀ pins fp s H,PG (cxC X scope N' pins fp s H) tg g/\PTs (cxC X scope N' pins fp s H) ifs tc/\PE (cxC X scope N' pins fp s H) elt te
structure a5M (X:Cx)(pins:List (Addr×Obj))(H:Hp)(C:Addr):Prop where
 un:H C=none
 loc:C≠X.env.locals
 new:X.sj.heap.objs.size<=C
 cel:∀ x c,X.env.cells.lookup x=some c->c≠C
 pin:∀ p∈X.pn++pins,p.1≠C
theorem a5M.inv {pins:List (Addr×Obj)}{σ:St}{H:Hp}{s:Shared}{C:Addr}{h':Heap}(f:a5M X pins H C)(I:Inv X pins σ H s)(hs:dP C s.heap h'):Inv X pins σ H {s with heap:=h'} :=
 I.turned (t':=s.toks) (λb o hb e=>hs.extBut b o hb e) f.un f.loc (.inr f.new) f.cel f.pin
theorem a1X {pins:List (Addr×Obj)}{σ:St}{H2:Hp}{s2:Shared}{it:Addr}{fp:List Addr}{tn:Nat->Heap->Prop}{J:It}{EE:Hp->Prop}{RR:Value->Addr->Result->Shared->Prop}{E:Value->Shared->Prop}
  (hcalm:X.calm=true) (hc:a1s scope X.env.scope) (hfr:a1x X scope fr) (B:Blk X scope (own++fr.map (·.1)) tg ifs elt g tc te)
  (I2:Inv X pins σ H2 s2) (T:a6s X.prog X.w X.K tg J fp it tn) (st2:tn 0 s2.heap) (f2:∀ b∈fp,a0f X pins H2 b)
  (hw:lcW g tc te s2.heap.objs.size J (st0 own fr σ) (upd H2 s2.heap.objs.size (.lst [])) EE)
  (hRR:∀ C H' s' m,EE H'->s'.heap.Ns C m->Inv X pins σ H' s'->a5M X pins H' C->RR (.ref s2.heap.objs.size) C (.ok .next) s') :
  wpAny (model X.prog X.w) X.A (newList []) (λacc sk=>wpAny (model X.prog X.w) X.A (newFunctionEnv scope X.env.globals (clo X.env scope.names []) [] X.env.qual none .none (some X.env)) (λcenv sx =>
   codeAny (model X.prog X.w) X.A (.compStart (.ListComp elt [⟨tg,iter,ifs,0⟩] scope pos) 0 (.ref it) acc {cenv with scope:=relabel scope X.env}) (RR acc cenv.locals) sx) E sk) E s2:=by
 have I3:Inv X pins σ (upd H2 s2.heap.objs.size (.lst [])) {s2 with heap:=s2.heap.push {cls:=.type "list",data:=.seq ([]:List Value).toArray},toks:=s2.toks}:=I2.lnew (ys:=[]) (its:=[]) (t':=s2.toks) .nil (bI _);generalize hs3:({s2 with heap:=s2.heap.push {cls:=.type "list",data:=.seq ([]:List Value).toArray},toks:=s2.toks}:Shared)=s3 at I3;have hsz3:s3.heap.objs.size=s2.heap.objs.size+1:=by rw[<- hs3];exact gJ ..
 have k3:∀ b o,s2.heap.get? b=some o->s3.heap.get? b=some o:=λb o e=>by rw[<- hs3];exact ak _ e
 have hlt:∀ b∈fp,b<s2.heap.objs.size:=λb hb=>let ⟨o,e,_⟩:=T.obj _ _ st2 b hb;aF e
 have f3:∀ b∈fp,a0f X pins (upd H2 s2.heap.objs.size (.lst [])) b:=λb hb=>⟨by rw[A8 (aS (hlt b hb))];exact (f2 b hb).1,(f2 b hb).2⟩
 have st3:tn 0 s3.heap:=T.keep _ _ _ st2 λb _ o e=>k3 b o e
 refine bX ?_;have e3:({s2 with heap:=s2.heap.push {cls:=.type "list",dict:=none,data:=.seq ([]:List Value).toArray}}:Shared)=s3:=hs3;rw[e3];refine iW hc.noCell (by intro y hy;cases hy) (λh₁ hnsz hsbz=>?_) hc.kind;have k4:∀ b o,s3.heap.get? b=some o->h₁.get? b=some o:=λb o e=>hsbz.extBut b o (aS (aF e)) (ak _ e)
 have I4:=a3W (own:=own) I3 hc hcalm f3 (λb hb=>aT (hlt b hb) (by rw[hsz3];exact Nat.le_succ _)) hfr hnsz k4;obtain⟨bg,bt,be⟩:=B.run pins fp s3 (upd H2 s2.heap.objs.size (.lst []));generalize hX':cxC X scope (own++fr.map (·.1)) pins fp s3 (upd H2 s2.heap.objs.size (.lst []))=X' at I4 bg bt be;have eP:X'.prog=X.prog:=by rw[<- hX'];rfl
 have eW:X'.w=X.w:=by rw[<- hX'];rfl
 have eK:X'.K=X.K:=by rw[<- hX'];rfl
 have eA:X'.A=X.A:=by rw[<- hX'];rfl
 have eC:X'.calm=true:=by rw[<- hX'];rfl
 have eX:X'.xe=λ_ _=>False:=by rw[<- hX'];rfl
 have eE:X'.env=compEnvC scope (clo X.env scope.names []) s3.heap.objs.size X.env:=by rw[<- hX'];rfl
 have fC:∀ {H':Hp},(∀ b∈fp,H' b=none)->∀ b∈fp,a0f X' [] H' b:=λhn b hb=>by
  have hb':=f3 b hb;refine⟨hn b hb,?_,?_,?_,?_,?_⟩
  ·exact (I4.ok.exf b (by rw[<- hX'];exact hb)).1
  ·exact I4.ok.exfs b (by rw[<- hX'];exact hb)
  ·left;rw[<- hX'];exact hb
  ·exact (I4.ok.exf b (by rw[<- hX'];exact hb)).2
  ·intro p hp;have hp:p∈X.pn++pins:=by
    rw[<- hX'] at hp;rcases al.mp hp with q | q
    ·exact q
    ·cases q
   exact hb'.2.2.2.2.2 p hp
 obtain⟨W,⟨m0,w0⟩,turn⟩:=hw;have cenvE:({(newEnv scope s3.heap.objs.size X.env.globals (clo X.env scope.names []) X.env.qual none .none (some X.env) builtinsNs) with scope:=relabel scope X.env}:Env)=X'.env:=by rw[eE];rfl
 have loop:∀ s4:Shared,Inv X' [] (st0 own fr σ) (upd H2 s2.heap.objs.size (.lst [])) s4->tn 0 s4.heap ->
   codeAny (model X.prog X.w) X.A (.compLoop (.ListComp elt [⟨tg,iter,ifs,0⟩] scope pos) 0 (.ref it) (.ref s2.heap.objs.size) X'.env) (RR (.ref s2.heap.objs.size) s3.heap.objs.size) s4:=by
  intro s4 J4 t4;refine a4A (λn s'=>∃ i τ H',Inv X' [] τ H' s'/\tn i s'.heap/\(∀ b∈fp,H' b=none)/\W i n τ H') ?_ m0 ⟨0,_,_,J4,t4,λb hb=>(f3 b hb).1,w0⟩;rintro n s5 ⟨i,τ5,H5,I5,t5,fr5,w5⟩;rcases turn i n τ5 H5 w5 with ⟨stop,qn⟩ | ⟨go,N,hN,step⟩
  ·have hd:=T.done X' eP eW eK eC i [] s5 τ5 H5 (λ_ _=>False) I5 (fC fr5) t5 stop;rw[eA] at hd;refine thn hd λr s6 ⟨hr,I6⟩=>?_
   subst hr;have hbase:Un (frs X.stack) fp (upd H2 s2.heap.objs.size (.lst [])) H5 s3.heap s6.heap:=by have:=I6.base;rw[<- hX'] at this;exact this
   have hok6:HOk X.prog X.w H5 s6.heap:=by have:=I6.hok;rw[eP,eW] at this;exact this
   have os6:s6.os=s3.os:=by have:=I6.os;rw[<- hX'] at this;exact this
   obtain⟨m6,n6,_⟩:=I6.loc;have n6:s6.heap.Ns s3.heap.objs.size m6:=by rw[eE] at n6;exact n6
   have free6:H5 s3.heap.objs.size=none:=by have:=I6.free;rw[eE] at this;exact this
   refine hRR s3.heap.objs.size H5 s6 m6 qn n6 (I3.call' os6 hbase hok6 I6.bare λb hb=>⟨(f3 b hb).2.2.2.1,(f3 b hb).2.1,(f3 b hb).2.2.2.2.1,(f3 b hb).2.2.2.2.2⟩) ⟨free6,?_,I3.sz,?_,?_⟩
   ·exact (aS I3.lt).symm
   ·intro x c e z;obtain⟨v,hv⟩:=I3.cell x c e;have:=hv.lt;rw[z] at this;exact cj _ this
   ·intro p hp z;have:=aF (I3.pin p hp).1;rw[z] at this;exact cj _ this
  ·have hi:=T.item X' eP eW eK eC i [] s5 τ5 H5 (λ_ _=>False) I5 (fC fr5) t5 go;rw[eA] at hi;refine thn hi λr s6 ⟨u,hr,h6⟩=>?_
   subst hr;refine thn h6 λ_ s7 ⟨x,H7,I7,r7,y7,t7,fr7⟩=>?_
   have I7':=I7.pinned (fC fr7) (T.obj _ _ t7);have again:∀ {τ:St} {H':Hp} {s':Shared},Inv X' ([]++X1 fp s7.heap) τ H' s'->N τ H'->∃ m,m<n/\∃ i τ H',Inv X' [] τ H' s'/\tn i s'.heap/\(∀ b∈fp,H' b=none)/\W i m τ H':=λ{τ H' s'} I8 n8=>by
    obtain⟨m',hm,w8⟩:=hN τ H' n8;refine⟨m',hm,i+1,τ,H',I8.unpinned,T.keep _ _ _ t7 λb hb o e=>(I8.pin (b,o) (aR _ (aR _ (P8 hb e)))).1,λb hb=>?_,w8⟩;obtain⟨o,e,d⟩:=T.obj _ _ t7 b hb;exact (I8.pin (b,o) (aR _ (aR _ (P8 hb e)))).2.1
   have hg:=bg _ s7 τ5 H7 x u _ I7' r7 (step x H7 y7);rw[eP,eW,eA,eX] at hg;refine thn hg λ_ s8 ⟨τ8,H8,I8,q8⟩=>?_
   have ht:=bt _ s8 τ8 H8 _ I8 q8;rw[eP,eW,eA,eX] at ht;refine thn ht λok s9 ⟨H9,I9,q9⟩=>?_
   cases ok with
   | false=>exact again I9 q9
   | true =>
    rw[if_pos rfl] at q9 ⊢;have hv:=be _ s9 τ8 H9 _ I9 q9;rw[eP,eW,eA,eX] at hv;refine thn hv λy s10 ⟨v,H10,I10,r10,ys,hl,hlen,n10⟩=>?_
    have ha:=a1W (X:=X') _ s10 τ8 H10 (.ref s2.heap.objs.size) [v] (.ref s2.heap.objs.size) [y] (λ_ H'=>N τ8 H') I10 rfl (.cons r10 .nil) ⟨_,_,_,rfl,rfl,hl,hlen,n10⟩;rw[eP,eW,eA,eX] at ha;exact thn ha λ_ s11 ⟨_,H11,I11,_,n11⟩=>again I11 n11
 have st4:tn 0 h₁:=T.keep _ _ _ st3 λb _ o e=>k4 b o e
 show codeAny (model X.prog X.w) X.A (.compStart (.ListComp elt [⟨tg,iter,ifs,0⟩] scope pos) 0 (.ref it) (.ref s2.heap.objs.size) ({(newEnv scope s3.heap.objs.size X.env.globals (clo X.env scope.names []) X.env.qual none .none (some X.env) builtinsNs) with scope:=relabel scope X.env}:Env)) (RR (.ref s2.heap.objs.size) s3.heap.objs.size) _;rw[cenvE];exact codeAny_compStart_list (loop _ I4 st4) (T.self X.A 0 _ _ _ st4 (loop _ I4 st4))
theorem a2P {pins:List (Addr×Obj)}{σ:St}{H:Hp}{s:Shared}(I:Inv X pins σ H s)(hc:a1s scope X.env.scope):closureFor scope X.env=pure (clo X.env scope.names []) :=
 a4f λy hy e=>I.ok.has y.1 (hc.free y hy e)
theorem K9 (hcalm:X.calm=true)(hc:a0d scope X.env.scope=true)(hfr:a1x X scope fr)(hi:PI X tg iter wi)(B:Blk X scope (own++fr.map (·.1)) tg ifs elt g tc te)
  (hs:∀ x,foldedSetIterable iter X.env x=pure x:=by intro _;rfl):PE X (.ListComp elt [⟨tg,iter,ifs,0⟩] scope pos) (tLC own fr wi g tc te):=by
 intro pins s σ H Q I h;have hc:=V8 hc;rw[eval_ListComp];refine dG (use:=none) rfl hs (a2P I hc) hc.kind hc.loc (thn (hi pins s σ H _ I h) λv s1 h1=>thn h1 λitv s2 h2=>?_);obtain⟨it,fp,tn,J,H2,e,I2,T,st2,f2,hw⟩:=h2;subst e;refine a1X (RR:=λacc C=>compPost (model X.prog X.w) X.A X.xe none (EP X pins σ Q) acc C) hcalm hc hfr B I2 T st2 f2 (hw _ I2.fresh) ?_;intro C H' s' m q n I' f;exact⟨m,n,λh' hs'=>⟨.ref s2.heap.objs.size,H',f.inv I' hs',rfl,q⟩⟩
theorem S8 {i:Nat}{x:Str}{px spos:Pos}(hcalm:X.calm=true)(hN:X.N.Nodup)(hx:X.N[i]?=some x)(hl:X.env.scope.names.lookup x=some .local)(hsw:swapsWith (.ListComp elt [⟨tg,iter,ifs,0⟩] scope pos) (some (.Name x px)) spos.line X.env=pure true)
  (hc:a0d scope X.env.scope=true) (hfr:a1x X scope fr) (hi:PI X tg iter wi) (B:Blk X scope (own++fr.map (·.1)) tg ifs elt g tc te)
  (hs:∀ x,foldedSetIterable iter X.env x=pure x:=by intro _;rfl):PS X (.Assign [.Name x px] (.ListComp elt [⟨tg,iter,ifs,0⟩] scope pos) spos) (a6K (tLC own fr wi g tc te) (M6 i)):=by
 intro pins s σ H D I h;have hc:=V8 hc;rw[exec_Assign_Name_used _ _ _ _ hsw];refine af (dM (af ?_));show wpAny _ X.A (do let _ <- comprehension (.ListComp elt [⟨tg,iter,ifs,0⟩] scope pos) scope X.env _ (newList []) false (eval iter X.env) (some (assign (.Name x px) X.env))) _ _ s
 refine af (bV (dG (use:=some (assign (.Name x px) X.env)) (Q:=λ_ s'=>SP X pins D .next s') rfl hs (a2P I hc) hc.kind hc.loc
  (thn (hi pins s σ H _ I h) λv s1 h1=>thn h1 λitv s2 h2=>?_)) (λ_ s' hq=>au (au hq)) λ_ _ e=>e)
 obtain⟨it,fp,tn,J,H2,e,I2,T,st2,f2,hw⟩:=h2;subst e;refine a1X (RR:=λacc C=>compPost (model X.prog X.w) X.A X.xe (some (assign (.Name x px) X.env)) (λ_ s'=>SP X pins D .next s') acc C) hcalm hc hfr B I2 T st2 f2 (hw _ I2.fresh) ?_;intro C H' s' m q n I' f;show wpAny _ X.A (assign (.Name x px) X.env (.ref s2.heap.objs.size)) _ _ _;refine gz (Z3 I' hN hx (.inl hl) (v:=.ref s2.heap.objs.size) rfl (λs'' I'' hch=>?_) (.inr hl));obtain⟨a,sb,ha⟩:=hch;have hCa:C≠a:=by
  rcases ha with ha | ha
  ·rw[ha];exact f.loc
  ·exact λz=>f.cel x a ha z.symm
 exact⟨m,n.sameBut sb hCa,λh' hs'=>⟨_,H',f.inv I'' hs',q⟩⟩
end
end L2
namespace L2
open PySem PySem.Spec PyProof.Rows
theorem a4K {prog:Program}{w:World}{A:Around}{R:Result->Shared->Prop}{s:Shared}{kx vx target iter:Expr}{ifs:List Expr}{scope:Scope}{pos:Pos}{it:Value}{D:Addr}{env:Env}(I:Nat->Shared->Prop)
  (turn:∀ n s,I n s->wpAny (model prog w) A (pyNext it) (λr sv=>match r with
   | none=>R (.ok .next) sv
   | some v=>wpAny (model prog w) A (letOwnedTupleGo target it v) (λ_ sv=>wpAny (model prog w) A (assign target env v) (λ_ sw =>
     wpAny (model prog w) A (forIn ifs true λc r=>if r=true then do let ok <- isTrue c env (eval c env);pure (bO ok) else pure (bO r)) (λok sk =>
      if ok=true then wpAny (model prog w) A (eval kx env) (λkv sx=>wpAny (model prog w) A (eval vx env) (λvv sx =>
       wpAny (model prog w) A (dictSet D kv vv) (λ_ ss=>∃ m,m<n/\I m ss) (λ_ _=>False) sx) (λ_ _=>False) sx) (λ_ _=>False) sk
      else ∃ m,m<n/\I m sk) (λ_ _=>False) sw) (λ_ _=>False) sv) (λ_ _=>False) sv) (λ_ _=>False) s)
  (n:Nat) (h:I n s):codeAny (model prog w) A (.compLoop (.DictComp kx vx [⟨target,iter,ifs,0⟩] scope pos) 0 it (.ref D) env) R s:=by
 refine codeAny_loop rfl I (λn s hI=>?_) n h;show wpAny _ A ((compTurn (.DictComp kx vx [⟨target,iter,ifs,0⟩] scope pos) 0 it (.ref D) env).onRaise (λx=>do noteFrame x env;theTreesLotGoes x)) _ _ s;refine wpAny_noted ?_;rw[compTurn_dict];refine af (dM (af (bV (turn n s hI) (λr sv h₁=>?_) λ_ _ h'=>h'.elim)));cases r with
 | none=>exact au h₁
 | some v =>
  refine af (bV h₁ (λ_ sv h₁=>?_) λ_ _ h'=>h'.elim);refine af (bV h₁ (λ_ sw h₂=>af (bV h₂ (λok sk h₃=>?_) λ_ _ h'=>h'.elim)) λ_ _ h'=>h'.elim);cases ok with
  | false=>exact au ⟨rfl,h₃⟩
  | true =>
   exact af (af (bV h₃ (λkv sx h₄=>af (bQ (bV h₄ (λvv ss h₅=>af (dM (bQ (bV h₅ (λ_ sq h₆=>au ⟨rfl,h₆⟩) λ_ _ h'=>h'.elim)))) λ_ _ h'=>h'.elim))) λ_ _ h'=>h'.elim))
theorem a6n {X:Cx}{pins:List (Addr×Obj)}{σ:St}{H:Hp}{s:Shared}{a:Addr}{y v:V}{u r:Value}{A:Around}{E:Value->Shared->Prop}{H':Hp}{Q:Unit->Shared->Prop}(hu:A.units+1<cLine)(I:Inv X pins σ H s)(g:W1 H a y v H')(ry:C6 y u)(rv:C6 v r)(h:∀ s',Inv X pins σ H' s'->Q () s') :
  wpAny (model X.prog X.w) A (dictSet a u r) Q E s:=by
 rcases g with ⟨kvs,k,e,ey,l,eH⟩ | ⟨kvs,k,b,e,ey,eb,l,eH⟩
 ·subst ey eH;obtain⟨z,hd,vs,rel,dd⟩:=a4d I.hok e;have hz:vs.length<=sizeLine:=by rw[<- rel.length];exact z
  have hl:(P4 kvs k v).length<=sizeLine:=by have:=N6 kvs k v;omega
  refine wpAny_dictSet_pairs (hsz:=hz) (a0s ry) dd λh' dd' hs=>h _ ?_
  have he:∃ q,h'.get? a=some q:=let ⟨q,_,_,hq,_⟩:=dd';⟨q,hq⟩;exact V7 I (by rw[e];exact cr) hs he (a2O hl hd (rel.put k rv) dd')
 ·subst ey eH;cases (show u=br b from ry);obtain⟨z,hd,xs,rel,dd⟩:=b0d I.hok e;have hz:xs.length<=sizeLine:=by rw[<- dA rel];exact z
  have hl:(P4 kvs k v).length<=sizeLine:=by have:=N6 kvs k v;omega
  refine wpAny_dictSet_heap (hsz:=hz) (show (tupleKind (E6 X.prog X.w)).room A from Nat.lt_of_succ_lt hu) (a0c I.hok eb) dd λh' dd' hs=>h _ ?_
  obtain⟨q,es,ep,hq,h2,h3,h4,_,h5⟩:=dd';refine V7 I (by rw[e];exact cr) hs ⟨q,hq⟩ ⟨hl,hd,_,(rel.put k eb rv).keeps λc ys ec=>?_,q,es,ep,hq,h2,h3,h4,h5⟩;rw[A8 (a9Y ec e (λz=>nomatch z))];exact ec
def a1y:Bool->HO
 | true=>.dT []
 | false=>.dK []
theorem a9z {P:Program}{w:World}{H:Hp}(h:Heap)(hb:sysModules<h.objs.size):∀ t,J1 P w H (h.push {cls:=.type "dict",data:=.dict #[]}) h.objs.size (a1y t)
 | true=>a4b h hb
 | false=>a4e h hb
def dcW (g:TG)(tc:TT)(te tv:TE)(p:Addr)(J:It)(τ0:St)(H0:Hp)(E:Hp->Prop):Prop :=
 ∃ W:Nat->Nat->St->Hp->Prop,(∃ m,W 0 m τ0 H0)/\∀ i m τ H,W i m τ H ->
  (J.stop i H/\E H)\/(J.go i H/\∃ N:St->Hp->Prop,(∀ τ' H',N τ' H'->∃ m',m'<m/\W (i+1) m' τ' H') /\
   ∀ x H',J.yld i H x H'->g x τ H' fun τ2 H2=>tc τ2 H2 λb H3=>if b=true then te τ2 H3 λk H4=>tv τ2 H4 λv H5=>∃ H6,W1 H5 p k v H6/\N τ2 H6 else N τ2 H3)
def tDC (t:Bool)(own:List Str)(fr:List (Str×Nat))(wi:TI)(g:TG)(tc:TT)(te tv:TE):TE:=fun σ H Q =>
 wi σ H λJ H1=>∀ p,H1 p=none->dcW g tc te tv p J (st0 own fr σ) (upd H1 p (a1y t)) λH2=>Q (.ref p) H2
section
variable {X:Cx}{kx vx tg iter:Expr}{ifs:List Expr}{scope:Scope}{pos:Pos}{own:List Str}{fr:List (Str×Nat)}{wi:TI}{g:TG}{tc:TT}{te tv:TE}
structure b1M (X:Cx)(scope:Scope)(N':List Str)(tg:Expr)(ifs:List Expr)(kx vx:Expr)(g:TG)(tc:TT)(te tv:TE):Prop where
 run:∀ pins fp s H,PG (cxC X scope N' pins fp s H) tg g/\PTs (cxC X scope N' pins fp s H) ifs tc/\PE (cxC X scope N' pins fp s H) kx te/\PE (cxC X scope N' pins fp s H) vx tv
theorem a2g {pins:List (Addr×Obj)}{σ:St}{H2:Hp}{s2:Shared}{it:Addr}{fp:List Addr}{tn:Nat->Heap->Prop}{J:It}{EE:Hp->Prop}{RR:Value->Addr->Result->Shared->Prop}{E:Value->Shared->Prop}
  (t:Bool) (hu:X.A.units+1<cLine) (hcalm:X.calm=true) (hc:a1s scope X.env.scope) (hfr:a1x X scope fr) (B:b1M X scope (own++fr.map (·.1)) tg ifs kx vx g tc te tv)
  (I2:Inv X pins σ H2 s2) (T:a6s X.prog X.w X.K tg J fp it tn) (st2:tn 0 s2.heap) (f2:∀ b∈fp,a0f X pins H2 b)
  (hw:dcW g tc te tv s2.heap.objs.size J (st0 own fr σ) (upd H2 s2.heap.objs.size (a1y t)) EE)
  (hRR:∀ C H' s' m,EE H'->s'.heap.Ns C m->Inv X pins σ H' s'->a5M X pins H' C->RR (.ref s2.heap.objs.size) C (.ok .next) s') :
  wpAny (model X.prog X.w) X.A newDict (λacc sk=>wpAny (model X.prog X.w) X.A (newFunctionEnv scope X.env.globals (clo X.env scope.names []) [] X.env.qual none .none (some X.env)) (λcenv sx =>
   codeAny (model X.prog X.w) X.A (.compStart (.DictComp kx vx [⟨tg,iter,ifs,0⟩] scope pos) 0 (.ref it) acc {cenv with scope:=relabel scope X.env}) (RR acc cenv.locals) sx) E sk) E s2:=by
 have I3:Inv X pins σ (upd H2 s2.heap.objs.size (a1y t)) {s2 with heap:=s2.heap.push {cls:=.type "dict",data:=.dict #[]},toks:=s2.toks}:=I2.laid (t':=s2.toks) (λ_ _ q=>ak _ q) (aj _) (a9z s2.heap I2.big t);generalize hs3:({s2 with heap:=s2.heap.push {cls:=.type "dict",data:=.dict #[]},toks:=s2.toks}:Shared)=s3 at I3;have hsz3:s3.heap.objs.size=s2.heap.objs.size+1:=by rw[<- hs3];exact gJ ..
 have k3:∀ b o,s2.heap.get? b=some o->s3.heap.get? b=some o:=λb o e=>by rw[<- hs3];exact ak _ e
 have hlt:∀ b∈fp,b<s2.heap.objs.size:=λb hb=>let ⟨o,e,_⟩:=T.obj _ _ st2 b hb;aF e
 have f3:∀ b∈fp,a0f X pins (upd H2 s2.heap.objs.size (a1y t)) b:=λb hb=>⟨by rw[A8 (aS (hlt b hb))];exact (f2 b hb).1,(f2 b hb).2⟩
 have st3:tn 0 s3.heap:=T.keep _ _ _ st2 λb _ o e=>k3 b o e
 refine bX ?_;have e3:({s2 with heap:=s2.heap.push {cls:=.type "dict",dict:=none,data:=.dict #[]}}:Shared)=s3:=hs3;rw[e3];refine iW hc.noCell (by intro y hy;cases hy) (λh₁ hnsz hsbz=>?_) hc.kind;have k4:∀ b o,s3.heap.get? b=some o->h₁.get? b=some o:=λb o e=>hsbz.extBut b o (aS (aF e)) (ak _ e)
 have I4:=a3W (own:=own) I3 hc hcalm f3 (λb hb=>aT (hlt b hb) (by rw[hsz3];exact Nat.le_succ _)) hfr hnsz k4;obtain⟨bg,bt,be,bv⟩:=B.run pins fp s3 (upd H2 s2.heap.objs.size (a1y t));generalize hX':cxC X scope (own++fr.map (·.1)) pins fp s3 (upd H2 s2.heap.objs.size (a1y t))=X' at I4 bg bt be bv;have eP:X'.prog=X.prog:=by rw[<- hX'];rfl
 have eW:X'.w=X.w:=by rw[<- hX'];rfl
 have eK:X'.K=X.K:=by rw[<- hX'];rfl
 have eA:X'.A=X.A:=by rw[<- hX'];rfl
 have eC:X'.calm=true:=by rw[<- hX'];rfl
 have eX:X'.xe=λ_ _=>False:=by rw[<- hX'];rfl
 have eE:X'.env=compEnvC scope (clo X.env scope.names []) s3.heap.objs.size X.env:=by rw[<- hX'];rfl
 have fC:∀ {H':Hp},(∀ b∈fp,H' b=none)->∀ b∈fp,a0f X' [] H' b:=λhn b hb=>by
  have hb':=f3 b hb;refine⟨hn b hb,?_,?_,?_,?_,?_⟩
  ·exact (I4.ok.exf b (by rw[<- hX'];exact hb)).1
  ·exact I4.ok.exfs b (by rw[<- hX'];exact hb)
  ·left;rw[<- hX'];exact hb
  ·exact (I4.ok.exf b (by rw[<- hX'];exact hb)).2
  ·intro p hp;have hp:p∈X.pn++pins:=by
    rw[<- hX'] at hp;rcases al.mp hp with q | q
    ·exact q
    ·cases q
   exact hb'.2.2.2.2.2 p hp
 obtain⟨W,⟨m0,w0⟩,turn⟩:=hw;have cenvE:({(newEnv scope s3.heap.objs.size X.env.globals (clo X.env scope.names []) X.env.qual none .none (some X.env) builtinsNs) with scope:=relabel scope X.env}:Env)=X'.env:=by rw[eE];rfl
 have loop:∀ s4:Shared,Inv X' [] (st0 own fr σ) (upd H2 s2.heap.objs.size (a1y t)) s4->tn 0 s4.heap ->
   codeAny (model X.prog X.w) X.A (.compLoop (.DictComp kx vx [⟨tg,iter,ifs,0⟩] scope pos) 0 (.ref it) (.ref s2.heap.objs.size) X'.env) (RR (.ref s2.heap.objs.size) s3.heap.objs.size) s4:=by
  intro s4 J4 t4;refine a4K (λn s'=>∃ i τ H',Inv X' [] τ H' s'/\tn i s'.heap/\(∀ b∈fp,H' b=none)/\W i n τ H') ?_ m0 ⟨0,_,_,J4,t4,λb hb=>(f3 b hb).1,w0⟩;rintro n s5 ⟨i,τ5,H5,I5,t5,fr5,w5⟩;rcases turn i n τ5 H5 w5 with ⟨stop,qn⟩ | ⟨go,N,hN,step⟩
  ·have hd:=T.done X' eP eW eK eC i [] s5 τ5 H5 (λ_ _=>False) I5 (fC fr5) t5 stop;rw[eA] at hd;refine thn hd λr s6 ⟨hr,I6⟩=>?_
   subst hr;have hbase:Un (frs X.stack) fp (upd H2 s2.heap.objs.size (a1y t)) H5 s3.heap s6.heap:=by have:=I6.base;rw[<- hX'] at this;exact this
   have hok6:HOk X.prog X.w H5 s6.heap:=by have:=I6.hok;rw[eP,eW] at this;exact this
   have os6:s6.os=s3.os:=by have:=I6.os;rw[<- hX'] at this;exact this
   obtain⟨m6,n6,_⟩:=I6.loc;have n6:s6.heap.Ns s3.heap.objs.size m6:=by rw[eE] at n6;exact n6
   have free6:H5 s3.heap.objs.size=none:=by have:=I6.free;rw[eE] at this;exact this
   refine hRR s3.heap.objs.size H5 s6 m6 qn n6 (I3.call' os6 hbase hok6 I6.bare λb hb=>⟨(f3 b hb).2.2.2.1,(f3 b hb).2.1,(f3 b hb).2.2.2.2.1,(f3 b hb).2.2.2.2.2⟩) ⟨free6,?_,I3.sz,?_,?_⟩
   ·exact (aS I3.lt).symm
   ·intro x c e z;obtain⟨v,hv⟩:=I3.cell x c e;have:=hv.lt;rw[z] at this;exact cj _ this
   ·intro p hp z;have:=aF (I3.pin p hp).1;rw[z] at this;exact cj _ this
  ·have hi:=T.item X' eP eW eK eC i [] s5 τ5 H5 (λ_ _=>False) I5 (fC fr5) t5 go;rw[eA] at hi;refine thn hi λr s6 ⟨u,hr,h6⟩=>?_
   subst hr;refine thn h6 λ_ s7 ⟨x,H7,I7,r7,y7,t7,fr7⟩=>?_
   have I7':=I7.pinned (fC fr7) (T.obj _ _ t7);have again:∀ {τ:St} {H':Hp} {s':Shared},Inv X' ([]++X1 fp s7.heap) τ H' s'->N τ H'->∃ m,m<n/\∃ i τ H',Inv X' [] τ H' s'/\tn i s'.heap/\(∀ b∈fp,H' b=none)/\W i m τ H':=λ{τ H' s'} I8 n8=>by
    obtain⟨m',hm,w8⟩:=hN τ H' n8;refine⟨m',hm,i+1,τ,H',I8.unpinned,T.keep _ _ _ t7 λb hb o e=>(I8.pin (b,o) (aR _ (aR _ (P8 hb e)))).1,λb hb=>?_,w8⟩;obtain⟨o,e,d⟩:=T.obj _ _ t7 b hb;exact (I8.pin (b,o) (aR _ (aR _ (P8 hb e)))).2.1
   have hg:=bg _ s7 τ5 H7 x u _ I7' r7 (step x H7 y7);rw[eP,eW,eA,eX] at hg;refine thn hg λ_ s8 ⟨τ8,H8,I8,q8⟩=>?_
   have ht:=bt _ s8 τ8 H8 _ I8 q8;rw[eP,eW,eA,eX] at ht;refine thn ht λok s9 ⟨H9,I9,q9⟩=>?_
   cases ok with
   | false=>exact again I9 q9
   | true =>
    rw[if_pos rfl] at q9 ⊢;have hv:=be _ s9 τ8 H9 _ I9 q9;rw[eP,eW,eA,eX] at hv;refine thn hv λky s10 ⟨kk,H10,I10,r10,q10⟩=>?_
    have hv:=bv _ s10 τ8 H10 _ I10 q10;rw[eP,eW,eA,eX] at hv;refine thn hv λy s11 ⟨v,H11,I11,r11,H12,dp,n12⟩=>?_
    have ha:=a6n (A:=X.A) (E:=λ_ _=>False) (Q:=λ_ s12=>Inv X' ([]++X1 fp s7.heap) τ8 H12 s12) hu I11 dp r10 r11 λs12 I12=>I12
    rw[eP,eW] at ha;exact thn ha λ_ s12 I12=>again I12 n12
 have st4:tn 0 h₁:=T.keep _ _ _ st3 λb _ o e=>k4 b o e
 show codeAny (model X.prog X.w) X.A (.compStart (.DictComp kx vx [⟨tg,iter,ifs,0⟩] scope pos) 0 (.ref it) (.ref s2.heap.objs.size) ({(newEnv scope s3.heap.objs.size X.env.globals (clo X.env scope.names []) X.env.qual none .none (some X.env) builtinsNs) with scope:=relabel scope X.env}:Env)) (RR (.ref s2.heap.objs.size) s3.heap.objs.size) _;rw[cenvE];exact codeAny_compStart_dict (loop _ I4 st4) (T.self X.A 0 _ _ _ st4 (loop _ I4 st4))
theorem a7j (t:Bool)(hu:X.A.units+1<cLine)(hcalm:X.calm=true)(hc:a0d scope X.env.scope=true)(hfr:a1x X scope fr)(hi:PI X tg iter wi)(B:b1M X scope (own++fr.map (·.1)) tg ifs kx vx g tc te tv)
  (hs:∀ x,foldedSetIterable iter X.env x=pure x:=by intro _;rfl):PE X (.DictComp kx vx [⟨tg,iter,ifs,0⟩] scope pos) (tDC t own fr wi g tc te tv):=by
 intro pins s σ H Q I h;have hc:=V8 hc;rw[arm_eval_DictComp];refine dG (use:=none) rfl hs (a2P I hc) hc.kind hc.loc (thn (hi pins s σ H _ I h) λv s1 h1=>thn h1 λitv s2 h2=>?_);obtain⟨it,fp,tn,J,H2,e,I2,T,st2,f2,hw⟩:=h2;subst e;refine a2g (RR:=λacc C=>compPost (model X.prog X.w) X.A X.xe none (EP X pins σ Q) acc C) t hu hcalm hc hfr B I2 T st2 f2 (hw _ I2.fresh) ?_;intro C H' s' m q n I' f;exact⟨m,n,λh' hs'=>⟨.ref s2.heap.objs.size,H',f.inv I' hs',rfl,q⟩⟩
theorem a7d {i:Nat}{x:Str}{px spos:Pos}(t:Bool)(hu:X.A.units+1<cLine)(hcalm:X.calm=true)(hN:X.N.Nodup)(hx:X.N[i]?=some x)(hl:X.env.scope.names.lookup x=some .local)(hsw:swapsWith (.DictComp kx vx [⟨tg,iter,ifs,0⟩] scope pos) (some (.Name x px)) spos.line X.env=pure true)
  (hc:a0d scope X.env.scope=true) (hfr:a1x X scope fr) (hi:PI X tg iter wi) (B:b1M X scope (own++fr.map (·.1)) tg ifs kx vx g tc te tv)
  (hs:∀ x,foldedSetIterable iter X.env x=pure x:=by intro _;rfl):PS X (.Assign [.Name x px] (.DictComp kx vx [⟨tg,iter,ifs,0⟩] scope pos) spos) (a6K (tDC t own fr wi g tc te tv) (M6 i)):=by
 intro pins s σ H D I h;have hc:=V8 hc;rw[exec_Assign_Name_used _ _ _ _ hsw];refine af (dM (af ?_));show wpAny _ X.A (do let _ <- comprehension (.DictComp kx vx [⟨tg,iter,ifs,0⟩] scope pos) scope X.env _ newDict false (eval iter X.env) (some (assign (.Name x px) X.env))) _ _ s
 refine af (bV (dG (use:=some (assign (.Name x px) X.env)) (Q:=λ_ s'=>SP X pins D .next s') rfl hs (a2P I hc) hc.kind hc.loc
  (thn (hi pins s σ H _ I h) λv s1 h1=>thn h1 λitv s2 h2=>?_)) (λ_ s' hq=>au (au hq)) λ_ _ e=>e)
 obtain⟨it,fp,tn,J,H2,e,I2,T,st2,f2,hw⟩:=h2;subst e;refine a2g (RR:=λacc C=>compPost (model X.prog X.w) X.A X.xe (some (assign (.Name x px) X.env)) (λ_ s'=>SP X pins D .next s') acc C) t hu hcalm hc hfr B I2 T st2 f2 (hw _ I2.fresh) ?_;intro C H' s' m q n I' f;show wpAny _ X.A (assign (.Name x px) X.env (.ref s2.heap.objs.size)) _ _ _;refine gz (Z3 I' hN hx (.inl hl) (v:=.ref s2.heap.objs.size) rfl (λs'' I'' hch=>?_) (.inr hl));obtain⟨a,sb,ha⟩:=hch;have hCa:C≠a:=by
  rcases ha with ha | ha
  ·rw[ha];exact f.loc
  ·exact λz=>f.cel x a ha z.symm
 exact⟨m,n.sameBut sb hCa,λh' hs'=>⟨_,H',f.inv I'' hs',q⟩⟩
end
end L2
end
section
namespace Srt
open PySem PyProof.Rows
section
variable {prog:Program}{w:World}{A:Around}{E:Value->Shared->Prop}{s:Shared}{O:KeyOrd}{key:Value->O.α}{knd:SortKind}
def Asks (prog:Program)(w:World)(A:Around)(O:KeyOrd)(key:Value->O.α)(knd:SortKind)(vs:List Value)(s:Shared):Prop :=
 (2<=vs.length->∀(E:Value->Shared->Prop) (Q:SortKind->Shared->Prop),Q knd s->wpAny (model prog w) A (keyKind' vs.toArray) Q E s) /\
 ∀ x∈vs,∀ y∈vs,∀(E:Value->Shared->Prop) (Q:Bool->Shared->Prop),Q (O.blt (key x) (key y)) s->wpAny (model prog w) A (keyLt' knd x y) Q E s
theorem mem_pairs {vs:List Value}{p:Keyed}(h:p∈(pairsOf vs).toList):p.1∈vs/\p.1=p.2:=by
 rw[pairsOf_toList] at h;obtain⟨i,hi⟩:=bG.mp h;rw[di] at hi;refine⟨bG.mpr ⟨i,hi.1⟩,?_⟩;have:=hi.1.symm.trans hi.2;exact aG this
theorem cmp_of {vs:List Value}(h:Asks prog w A O key knd vs s):Ts.Cmp (model prog w) A E s knd O (λp=>key p.1) (pairsOf vs):=by
 intro p hp q hq st Q hk hQ;rw[lt'_eq];refine ai (eZ ?_);rw[hk];refine ai (wpS_lift (iD (h.2 p.1 (mem_pairs hp).1 q.1 (mem_pairs hq).1 _ _ ⟨rfl,?_⟩)));exact ah hQ
theorem out_of {vs:List Value}{xs:Array Keyed}(hp:xs.Perm (pairsOf vs))(hs:Ts.Seg (O:=O) (λp=>key p.1) xs 0 (pairsOf vs).size) :
  (xs.map (·.2)).toList.Perm vs/\(xs.map (·.2)).toList.Pairwise λx y=>O.kle (key x) (key y):=by
 have hp':=gw.mp hp;have hsz:xs.size=(pairsOf vs).size:=hp.size_eq;rw[Array.toList_map];refine⟨?_,?_⟩
 ·refine (hp'.map _).trans ?_;rw[pairsOf_toList,show (vs.zip vs).map (·.2)=vs from fT (aj _)]
 ·rw[ck];rw[<- hsz] at hs;refine (Ts.pw_of_seg hs).imp_of_mem λ{a b} ha hb hab=>?_
  have e1:=(mem_pairs (hp'.mem_iff.mp ha)).2;have e2:=(mem_pairs (hp'.mem_iff.mp hb)).2;rw[<- e1,<- e2];exact hab
theorem list_sort_any {a:Addr}{vs:List Value}{n:Nat}{P:Fin->Shared->Prop}(ho:s.heap.get? a=some (seqObj "list" vs.toArray n))(hz:vs.length<=sizeLine)
  (hA:∀ s':Shared,(∀ b o,b≠a->s.heap.get? b=some o->s'.heap.get? b=some o)->Asks prog w A O key knd vs s')
  (h:∀ out:Array Value,out.toList.Perm vs->(out.toList.Pairwise λx y=>O.kle (key x) (key y))->P (.done (.ret .none)) {s with heap:=sortedHeap s.heap a vs out}) :
  wpAny (model prog w) A (Builtin.«list.sort» ⟨[.ref a],[]⟩) P E s:=by
 rw[list_sort_plain];have ha:a<s.heap.objs.size:=aF ho;have hsz:vs.toArray.size=vs.length:=by simp
 refine af (listItems_at ho rfl ?_);refine af (listUpdate_at ho rfl ?_ (hsz:=by rw[hsz];exact hz));obtain⟨e1,ho1⟩:∃ e1,(s.heap.update a (Obj.mapSeq λ_=>#[])).get? a=some (seqObj "list" #[] e1):=⟨_,get?_update_seq ho (λ_=>#[])⟩
 refine af (seqEpoch_at ho1 rfl ?_);refine af (wpAny_newTuple ?_ (~~~hz));refine af (fZ ?_);refine bQ ?_;have ho6:(((s.heap.update a (Obj.mapSeq λ_=>#[])).push (seqObj "tuple" vs.toArray 0)).push (seqObj "list" #[] 0)).get? a=some (seqObj "list" #[] e1):=by
  rw[iM _ _ _ (by rw[size_push',Heap.size_update];exact aS (iV ha)),iM _ _ _ (by rw[Heap.size_update];exact aS ha)];exact ho1
 have keep:∀ b o,b≠a->s.heap.get? b=some o->(((s.heap.update a (Obj.mapSeq λ_=>#[])).push (seqObj "tuple" vs.toArray 0)).push (seqObj "list" #[] 0)).get? b=some o:=λb o hb e =>
  ak _ (ak _ ((dJ ..).extBut b o hb e))
 show wpAny (model prog w) A _ P E {s with heap:=((s.heap.update a (Obj.mapSeq λ_=>#[])).push (seqObj "tuple" vs.toArray 0)).push (seqObj "list" #[] 0)};dsimp only;have hA':=hA {s with heap:=((s.heap.update a (Obj.mapSeq λ_=>#[])).push (seqObj "tuple" vs.toArray 0)).push (seqObj "list" #[] 0)} keep;by_cases h2:vs.toArray.size<2
 ·rw[if_pos h2,if_pos h2];refine af (au ?_);rw[StateT.run_pure];refine af (au ?_);dsimp only;refine af (seqEpoch_at ho6 rfl ?_);refine af (listUpdate_at ho6 rfl ?_ (hsz2:=by rw[Array.size_map];show (pairsOf vs).size<=_;rw[pairsOf_size];omega));simp only[bne_self_eq_false,aP,if_false]
  have o:=out_of (O:=O) (key:=key) (vs:=vs) (Array.Perm.refl _) (λi j h0 hij hj=>by
   rw[pairsOf_size] at hj;have:i=j:=∅
   subst this;exact b9 _)
  exact au (h _ o.1 o.2)
 ·rw[if_neg h2,if_neg h2];refine af (hA'.1 ∅ _ _ ?_)
  refine af (bV (Ts.wpS_sR (O:=O) (key:=λp=>key p.1) (a₀:=pairsOf vs) (knd:=knd) (st:=dU knd (vs.toArray.zip vs.toArray) #[] 7 none)
   (Q:=λ_ st'=>(arrOf st').Perm (pairsOf vs)/\failedOf st'=none/\Ts.Seg (O:=O) (λp=>key p.1) (arrOf st') 0 (pairsOf vs).size)
   (cmp_of hA') ⟨Array.Perm.refl _,rfl,rfl⟩ rfl (by rw[pairsOf_size];omega) λst' hB hS=>⟨hB.perm,hB.failed,hS⟩) ?_ λ_ _ e=>e)
  rintro⟨⟨⟩,st'⟩ s' ⟨rfl,hp,hf,hs⟩;dsimp only;refine af (seqEpoch_at ho6 rfl ?_);refine af (listUpdate_at ho6 rfl ?_ (hsz2:=by refine ba (ik ((Array.size_map ..).trans (hp.size_eq.trans (pairsOf_size _)))) ?_;omega));rw[hf];simp only[bne_self_eq_false,aP,if_false];have o:=out_of hp hs;exact au (h _ o.1 o.2)
def Coll (prog:Program)(w:World)(A:Around)(r:Addr)(s:Shared)(C:List Value->Prop):Prop :=
 ∀(E:Value->Shared->Prop) (R:List Value->Shared->Prop),(∀(h':Heap) (tk:Nat) (vs:List Value),(∀ b o,s.heap.get? b=some o->h'.get? b=some o)->C vs->R vs {s with heap:=h',toks:=tk})->wpAny (model prog w) A (collect (.ref r)) R E s
theorem sorted_any {r:Addr}{C:List Value->Prop}{Q:Value->Shared->Prop}(hc:Coll prog w A.in1 r s C)(hz:∀ vs,C vs->vs.length<=sizeLine)
  (hA:∀(vs:List Value) (s':Shared),C vs->(∀ b o,s.heap.get? b=some o->s'.heap.get? b=some o)->Asks prog w A.in1.in1 O key knd vs s')
  (h:∀(vs out:List Value) (h1 h':Heap) (tk n:Nat),C vs->out.Perm vs->(out.Pairwise λx y=>O.kle (key x) (key y))->(∀ b o,s.heap.get? b=some o->h1.get? b=some o)->(∀ b o,h1.get? b=some o->h'.get? b=some o) ->
   h'.get? h1.objs.size=some (seqObj "list" out.toArray n)->Q (.ref h1.objs.size) {s with heap:=h',toks:=tk}):wpAny (model prog w) A (call (.builtin "sorted") [.ref r]) Q E s:=by
 refine Calls.call_function_entry kind_sorted plain_sorted entry_sorted (args_sorted1 _) ?_;unfold Builtin.«sorted»;refine af (m:=checkCount "sorted" 1 1 _) (au ?_);refine af (hc _ _ λh1 tk vs hk hC=>?_);refine af (fZ ?_ (by simpa using hz vs hC));have hoL:(h1.push (seqObj "list" vs.toArray 0)).get? h1.objs.size=some (seqObj "list" vs.toArray 0):=aK _ rfl;refine af (bQ (cO slot_list_sort ⟨_,hoL,rfl⟩ entry_list_sort (list_sort_any (O:=O) (key:=key) (knd:=knd) hoL (hz vs hC) (λs' hs'=>hA vs s' hC λb o e=>?_) λout hp hs=>⟨_,rfl,?_⟩) (args_list_sort _)))
 ·exact hs' b o (aS (aF (hk b o e))) (ak _ (hk b o e))
 ·refine au ⟨_,rfl,?_⟩;obtain⟨n',hn'⟩:∃ n',(sortedHeap (h1.push (seqObj "list" vs.toArray 0)) h1.objs.size vs out).get? h1.objs.size=some (seqObj "list" out n'):=by
   first | exact sortedHeap_at hoL | exact⟨_,sortedHeap_at hoL⟩
  refine h vs out.toList h1 _ tk n' hC hp hs hk (λb o e=>?_) ?_
  ·have hb:b≠h1.objs.size:=aS (aF e);have hlt:b<(h1.push (seqObj "list" vs.toArray 0)).objs.size:=by rw[size_push'];exact iV (aF e)
   rw[sortedHeap_old hb hlt];exact ak _ e
  ·rw[ic];exact hn'
def intOrd:KeyOrd where
 α:=Int
 blt:=λa b=>decide (a<b)
 irrefl:=λa=>by simp
 trans:=λa b c h1 h2=>by simp at *;omega
 negTrans:=λa b c h=>by simp at *;omega
 total:=λa b h1 h2=>by simp at *;omega
def intKey:Value->Int
 | .int i _=>i
 | _=>0
theorem lex_irrefl:∀ a:List Int,HT.lexLt a a=false
 | []=>rfl
 | x::r=>by rw[HT.lexLt_cons,if_pos rfl];exact lex_irrefl r
theorem lex_trans:∀ a b c:List Int,HT.lexLt a b=true->HT.lexLt b c=true->HT.lexLt a c=true
 | [],[],_,h,_=>by cases h
 | [],_::_,[],_,h=>by cases h
 | [],_::_,_::_,_,_=>rfl
 | _::_,[],_,h,_=>by cases h
 | _::_,_::_,[],_,h=>by cases h
 | x::a,y::b,z::c,h1,h2=>by
  rw[HT.lexLt_cons] at h1 h2 ⊢;by_cases e1:x=y
  ·rw[if_pos e1] at h1;subst e1;by_cases e2:x=z
   ·rw[if_pos e2] at h2 ⊢;exact lex_trans a b c h1 h2
   ·rw[if_neg e2] at h2 ⊢;exact h2
  ·rw[if_neg e1] at h1;by_cases e2:y=z
   ·rw[if_pos e2] at h2;subst e2;rw[if_neg e1];exact h1
   ·rw[if_neg e2] at h2;simp at h1 h2;rw[if_neg ∅];simp;omega
theorem lex_total:∀ a b:List Int,HT.lexLt a b=false->HT.lexLt b a=false->a=b
 | [],[],_,_=>rfl
 | [],_::_,h,_=>by cases h
 | _::_,[],_,h=>by cases h
 | x::a,y::b,h1,h2=>by
  rw[HT.lexLt_cons] at h1 h2;by_cases e:x=y
  ·subst e;rw[if_pos rfl] at h1 h2;rw[lex_total a b h1 h2]
  ·rw[if_neg e] at h1;rw[if_neg (λz=>e z.symm)] at h2;simp at h1 h2;omega
def lexOrd:KeyOrd where
 α:=List Int
 blt:=HT.lexLt
 irrefl:=lex_irrefl
 trans:=lex_trans
 negTrans:=λa b c h=>by
  cases h1:HT.lexLt a b with
  | true=>exact .inl rfl
  | false =>
   right;cases h2:HT.lexLt b a with
   | true=>exact lex_trans b a c h2 h
   | false=>rw[<- lex_total a b h1 h2];exact h
 total:=lex_total
theorem asks_ints {vs:List Value}{ns:List Int}(hI:IntsAre vs ns):Asks prog w A intOrd intKey oneType' vs s:=by
 refine⟨λh2 E Q hq=>?_,λx hx y hy E Q hq=>?_⟩
 ·match vs,h2,hI with
  | vq::vz::Y3,_,hI=>rw[keyKind_ints hI];exact au hq
 ·have key:∀ {vs:List Value} {ns:List Int},IntsAre vs ns->∀ x∈vs,∃ i t,x=cu i t:=by
   intro vs ns h;induction h with
   | nil=>intro x hx;cases hx
   | cons n t _ ih =>
    intro x hx;rcases aW.mp hx with rfl | hx
    ·exact⟨n,t,rfl⟩
    ·exact ih x hx
  obtain⟨i,t,rfl⟩:=key hI x hx;obtain⟨j,u,rfl⟩:=key hI y hy;exact PySem.W.kat_lt_int hq
end
end Srt
namespace Srt
open PySem PyProof.Rows PySem.W
section
variable {prog:Program}{w:World}{A:Around}{E:Value->Shared->Prop}{s:Shared}
def TupInts (h:Heap)(v:Value)(ks:List Int):Prop:=∃ a o items n,v=.ref a/\h.get? a=some o/\o.cls=.type "tuple"/\o.data=.seq items n/\IntsAre items.toList ks/\ks≠[]
theorem TupInts.keep {h h':Heap}{v:Value}{ks:List Int}(t:TupInts h v ks)(k:∀ b o,h.get? b=some o->h'.get? b=some o):TupInts h' v ks :=
 let ⟨a,o,items,n,e,ho,r⟩:=t;⟨a,o,items,n,e,k _ _ ho,r⟩
def tupKey (h:Heap):Value->List Int
 | .ref a=>match h.get? a with
  | some o=>match o.data with
   | .seq items _=>items.toList.map intKey
   | _=>[]
  | none=>[]
 | _=>[]
theorem intKeys_of {us:List Value}{ns:List Int}(h:IntsAre us ns):us.map intKey=ns:=by
 induction h with
 | nil=>rfl
 | cons n t _ ih=>rw[ao,ih];rfl
theorem tupKey_of {h:Heap}{v:Value}{ks:List Int}(t:TupInts h v ks):tupKey h v=ks:=by
 obtain⟨a,o,items,n,rfl,ho,hc,hd,hi,_⟩:=t;simp only[tupKey,ho,hd];exact intKeys_of hi
theorem katlex_ints {b fin:Bool}{Q:Bool->Shared->Prop}:∀ {us:List Value} {ns:List Int} {ws:List Value} {ms:List Int} (i:Nat),IntsAre us ns->IntsAre ws ms->fin=decide (us.length<ws.length)->Q (HT.lexLt ns ms) s ->
  KatLex prog w A b fin Q (us.zip ws) i s
 | _,_,_,_,_,.nil,.nil,hf,hq=>by subst hf;exact hq
 | _,_,_,_,_,.nil,.cons m u h,hf,hq=>by
  subst hf;show Q (decide (0<_)) s;rw[aH,decide_eq_true (Nat.succ_pos _)];exact hq
 | _,_,_,_,_,.cons m u h,.nil,hf,hq=>by
  subst hf;show Q (decide (_<0)) s;rw[decide_eq_false (fu _)];exact hq
 | _,_,_,_,i,.cons n t h,.cons m u k,hf,hq=>by
  rw[fH];refine kat_cons (wpAny_eqBool_int ?_);rw[HT.lexLt_cons] at hq;by_cases e:n=m
  ·rw[if_pos e] at hq;have eb:(n == m)=true:=beq_iff_eq.mpr e;rw[eb];exact kat_yes (katlex_ints (i+1) h k (by rw[hf,aH,aH];simp) hq)
  ·rw[if_neg e] at hq;have eb:(n == m)=false:=beq_eq_false_iff_ne.mpr e;rw[eb];refine kat_no ?_;cases hb:(b && i == 0) with
   | true=>exact oneLt_int hq
   | false=>exact kat_one _ _ (gq hq)
theorem katTups_of {h:Heap}:∀ {vs:List Value},(∀ v∈vs,∃ ks,TupInts h v ks)->∃ fs,KatTups h vs fs/\fs.length=vs.length/\∀ f∈fs,∃ i t,f=cu i t
 | [],_=>⟨[],.nil,rfl,λf hf=>nomatch hf⟩
 | v::vs,hv=>by
  obtain⟨fs,k,hl,hf⟩:=katTups_of (vs:=vs) λu hu=>hv u (aL _ hu)
  obtain⟨ks,a,o,items,n,rfl,ho,hc,hd,hi,hne⟩:=hv v aO;obtain⟨i,t,r,e⟩:∃ i t r,items.toList=cu i t::r:=by
   generalize items.toList=l at hi;cases hi with
   | nil=>exact absurd rfl hne
   | cons n t _=>exact⟨n,t,_,rfl⟩
  refine⟨.int i t::fs,.cons ho hc hd ?_ k,by rw[aH,aH,hl],λf hf'=>?_⟩
  ·rw[<- bi,e];rfl
  ·rcases aW.mp hf' with rfl | q
   ·exact⟨i,t,rfl⟩
   ·exact hf f q
theorem asks_tups {h:Heap}{vs:List Value}(hv:∀ v∈vs,∃ ks,TupInts h v ks)(hk:∀ b o,h.get? b=some o->s.heap.get? b=some o):Asks prog w A lexOrd (tupKey h) (tuples' true) vs s:=by
 refine⟨λh2 E Q hq=>?_,λx hx y hy E Q hq=>?_⟩
 ·obtain⟨fs,kt,hl,hf⟩:=katTups_of (h:=s.heap) (vs:=vs) λv hm=>let ⟨ks,t⟩:=hv v hm;⟨ks,t.keep hk⟩
  refine kat_kind (T:=.type "int") kt ∅ (λf hm=>?_) (by decide) hq;obtain⟨i,t,rfl⟩:=hf f hm;exact .now
 ·obtain⟨ks,tx⟩:=hv x hx;obtain⟨ms,ty⟩:=hv y hy;rw[tupKey_of tx,tupKey_of ty] at hq;obtain⟨a,o,items,n,rfl,ho,hc,hd,hi,_⟩:=tx.keep hk;obtain⟨a',o',items',n',rfl,ho',hc',hd',hi',_⟩:=ty.keep hk;exact kat_lt ho hd ho' hd' (katlex_ints 0 hi hi' (by simp) hq)
theorem coll_seq {l:Addr}{o:Obj}{c:String}{vs:List Value}{n:Nat}(ho:s.heap.get? l=some o)(hcl:o.cls=.type c)(hcc:c="list"\/c="tuple")(hd:o.data=.seq vs.toArray n)(hsz:vs.length<=sizeLine) :
  Coll prog w A l s λus=>us=vs:=by
 intro E R h;unfold collect;refine af (wpAny_runValue (codeAny_builtin iX ?_));show wpAny _ _ (newList [] >>= λx=>again (.builtin "list.__iadd__" ⟨[x,.ref l],[]⟩)) _ _ s;refine af (fZ (au ⟨Code.quiet_builtin _ (by decide +kernel),codeAny_builtin entry_list_iadd' ?_⟩));show wpAny _ _ (Builtin.List.listExtendWith (.ref s.heap.objs.size) (.ref l) (.ref s.heap.objs.size)) _ _ {s with heap:=s.heap.push (seqObj "list" #[] 0)};unfold Builtin.List.listExtendWith;have ho':(s.heap.push (seqObj "list" #[] 0)).get? l=some o:=ak _ ho;refine af (eS (T:=c) ⟨o,ho',hcl⟩ ?_);have ht:(Builtin.List.listSameRef (.ref s.heap.objs.size) (.ref l) || (bz c == bz "list") || (bz c == bz "tuple"))=true:=by
  rcases hcc with rfl | rfl
  ·rw[show (bz "list" == bz "list")=true from rfl];simp
  ·rw[show (bz "tuple" == bz "tuple")=true from rfl];simp
 rw[if_pos ht];refine af (listItems_at ho' hd ?_);refine af (listItems_at (xs:=#[]) (n:=0) (aK _ rfl) rfl ?_);rw[if_neg (by simp)];refine af (listUpdate_at (xs:=#[]) (n:=0) (aK _ rfl) rfl ?_ (bI _) (by show (#[]++vs.toArray).size<=sizeLine+1;simp only[Array.size_append,aA,bR];omega));refine au ?_
 show wpAny (model prog w) A (do
   let q <- load s.heap.objs.size
   match q.data with
   | .seq xs _=>pure xs.toList
   | _=>unsupported "internal:collect") R E {s with heap:=(s.heap.push (seqObj "list" #[] 0)).update s.heap.objs.size (Obj.mapSeq (·++vs.toArray))}
 refine af (ir (get?_update_seq (aK _ rfl) _) ?_);show wpAny _ _ (pure ((#[]:Array Value)++vs.toArray).toList) R E _;rw[show ((#[]:Array Value)++vs.toArray).toList=vs by simp];exact au (h _ s.toks vs (λb o e=>(dJ ..).extBut b o (aS (aF e)) (ak _ e)) rfl)
end
end Srt
namespace Srt
open PySem PyProof.Rows PySem.W
section
variable {prog:Program}{w:World}{A:Around}{E:Value->Shared->Prop}{s:Shared}
def RawD (h:Heap)(d:Addr)(es:Array DictEntry)(ep:Nat):Prop:=∃ o,h.get? d=some o/\o.ExactDict/\o.data=.dict es ep
theorem RawD.typeIs {d:Addr}{es:Array DictEntry}{ep:Nat}(r:RawD s.heap d es ep):s.TypeIs (.ref d) "dict":=let ⟨o,ho,hx,_⟩:=r;⟨o,ho,hx.1⟩
theorem RawD.keep {h h':Heap}{d:Addr}{es:Array DictEntry}{ep:Nat}(r:RawD h d es ep)(k:∀ o,h.get? d=some o->h'.get? d=some o):RawD h' d es ep:=let ⟨o,ho,q⟩:=r;⟨o,k _ ho,q⟩
theorem raw_iter {d:Addr}{es:Array DictEntry}{ep:Nat}{Q:Value->Shared->Prop}(hd:(d == sysModules)=false)(r:RawD s.heap d es ep)
  (hQ:Q (.ref s.heap.objs.size) {s with heap:=s.heap.push {cls:=.type "dict_keyiterator",data:=.fields #[.ref d,.int 0 0,.int es.size 0,.int ep 0]}}) :
  wpAny (model prog w) A (pyIter (.ref d)) Q E s:=by
 obtain⟨o,ho,hx,hdat⟩:=id r;have hT:=r.typeIs;refine wpAny_pyIter_slot hT F.slot_dict_iter (cO F.slot_dict_iter hT F.entry_dict_iter ?_ (F.args_dict_iter_1 _));unfold Builtin.«dict.__iter__»;refine af ?_;unfold Builtin.Dict.dictSlotNone;refine af (wpAny_notOrdered_dict hT (au ?_));show wpAny _ _ (Builtin.Dict.showsAll d >>= _) _ _ s;unfold Builtin.Dict.showsAll;rw[if_neg (by rw[hd];exact aJ)];refine af (au (af (fe ho hdat (af (g5 ho hdat ?_)))));refine af (bX (au ⟨_,rfl, "dict_keyiterator",_,⟨_,aK _ rfl,rfl⟩,F.slot_dict_keyiterator_next.lookup,?_⟩));simpa [rawInt] using hQ
theorem raw_next {it d:Addr}{i ep:Nat}{es:Array DictEntry}{Q:Option Value->Shared->Prop}(hit:s.heap.IsKeyIter it d i es.size ep)(r:RawD s.heap d es ep)(hlt:i<es.size)
  (hQ:∀ h',h'.IsKeyIter it d (i+1) es.size ep->dP it s.heap h'->Q (some es[i].key) {s with heap:=h'}):wpAny (model prog w) A (pyNext (.ref it)) Q E s:=by
 obtain⟨o,ho,hc,hd⟩:=id hit;obtain⟨od,hod,hcd,hdd⟩:=id r;unfold pyNext
 refine af (iD (dN (name:=Str.ofString "__next__") hit.typeIs cP
  (cO cP hit.typeIs gD ?_ (gj _))))
 refine af (au (af (af ?_)));first | refine af (cN hit.typeIs (au ?_)) | refine af (dF hit.typeIs (au ?_))
 refine af (wpAny_fieldsOf ho hd ?_);have hown:eY "dict_keyiterator"=false:=by decide
 simp only[hown,aP,if_false];show wpAny _ _ (if (br d == cG)=true then _ else _) _ _ s;rw[if_neg (show ¬ ((br d == cG)=true) from aJ)];refine af (au (af (fe hod hdd ?_)));rw[if_neg (by simp)];refine af (au (af (g5 hod hdd ?_)));rw[if_neg (by simp)];refine au ?_;simp only[show ¬ ((i:Int)<0) from by omega,if_false,cY,bC hlt];refine af ?_;first | refine af (cN hit.typeIs (au ?_)) | refine af (dF hit.typeIs (au ?_))
 refine af (iS hit.typeIs ?_);show wpAny _ _ (setField (.ref it) 1 (rawInt ((i:Int)+1)) >>= _) _ _ s;refine af (wpAny_setField ho hd (by simp) ?_);have hit':(s.heap.update it (Obj.mapFields (·.setIfInBounds 1 (rawInt ((i:Int)+1))))).IsKeyIter it d (i+1) es.size ep :=
  ⟨_,fk _ ho (Obj.isFreed_of_fields (iL hd _)),(Obj.cls_mapFields ..).trans hc,by rw[iL hd];simp[rawInt]⟩
 refine af (bQ ?_);refine af (iS (s:={s with heap:=s.heap.update it (Obj.mapFields (·.setIfInBounds 1 (rawInt ((i:Int)+1))))}) hit'.typeIs ?_);show wpAny _ _ (pure es[i].key) _ _ _;exact au (au ⟨_,rfl,au (hQ _ hit' (dJ ..))⟩)
theorem raw_end {it d:Addr}{i ep:Nat}{es:Array DictEntry}{Q:Option Value->Shared->Prop}(hh:A.handled=none)(hit:s.heap.IsKeyIter it d i es.size ep)(r:RawD s.heap d es ep)(hge:es.size<=i)
  (hQ:∀ h',Heap.ExtBut it s.heap h'->Q none {s with heap:=h'}):wpAny (model prog w) A (pyNext (.ref it)) Q E s:=by
 obtain⟨o,ho,hc,hd⟩:=id hit;obtain⟨od,hod,hcd,hdd⟩:=id r;unfold pyNext
 refine af (iD (dN (name:=Str.ofString "__next__") hit.typeIs cP
  (cO cP hit.typeIs gD ?_ (gj _))))
 refine af (au (af (af ?_)));first | refine af (cN hit.typeIs (au ?_)) | refine af (dF hit.typeIs (au ?_))
 refine af (wpAny_fieldsOf ho hd ?_);have hown:eY "dict_keyiterator"=false:=by decide
 simp only[hown,aP,if_false];show wpAny _ _ (if (br d == cG)=true then _ else _) _ _ s;rw[if_neg (show ¬ ((br d == cG)=true) from aJ)];refine af (au (af (fe hod hdd ?_)));rw[if_neg (by simp)];refine af (au (af (g5 hod hdd ?_)));rw[if_neg (by simp)];refine au ?_;simp only[show ¬ ((i:Int)<0) from by omega,if_false,cY,bZ hge];refine af ?_;first | refine af (cN hit.typeIs (au ?_)) | refine af (dF hit.typeIs (au ?_))
 show wpAny _ _ (setField (.ref it) 0 .none >>= _) _ _ s;refine af (wpAny_setField ho hd (by simp) ?_);show wpAny _ _ (newExc (.type "StopIteration") [] >>= _) _ _ _;refine af ?_;simp only[newExc,newTuple];refine af (bX ?_ (by size_fits));refine af (m:=firstArgMember _ _) (wpAny_of_eq (a:=cG) (by first | rfl | (simp only[firstArgMember];rfl)) ?_);refine bX ?_ (by size_fits);simp only[raiseNew];refine af (wpAny_handled ?_);rw[show A.in1.handled=none from hh];refine af (au (wpAny_throw ?_));refine af (wpAny_isInstance (T:="StopIteration") (b:=true) ⟨_,aK _ rfl,rfl⟩ isSubtype_stop ?_);exact au (hQ _ (((dJ ..).extBut.push _).push _))
theorem raw_walks (hh:A.handled=none)(I d:Addr)(hne:d≠I)(es:Array DictEntry)(ep:Nat) :
  Walks prog w A I [I,d] [I] es.size (λi v=>∃ e,es[i]?=some e/\e.key=v) (λi h=>h.IsKeyIter I d i es.size ep/\RawD h d es ep) where
 sub:=λb hb=>by simp at hb;simp[hb]
 frame:=λ_ _ _ st hk=>⟨st.1.at λo e=>hk I (by simp) o e,st.2.keep λo e=>hk d (by simp) o e⟩
 item:=λi s Q E hi st hQ=>by
  refine raw_next st.1 st.2 hi λh' hit' hs'=>?_
  exact hQ es[i].key h' s.toks ⟨es[i],by simp[hi],rfl⟩ ⟨hit',st.2.keep λo e=>hs'.extBut d o hne e⟩ λb o hb e=>hs'.extBut b o (λh=>hb (by simp[h])) e
 done:=λs Q E st hQ=>raw_end hh st.1 st.2 (aj _) λh' he'=>hQ h' s.toks λb o hb e=>he' b o (λh=>hb (by simp[h])) e
 self:=λ_ _ _ _ st hQ=>wpAny_pyIter_keyiter st.1 hQ
theorem raw_src {d:Addr}{es:Array DictEntry}{ep:Nat}(lo:(d == sysModules)=false):KdlSrc prog w "dict" d d es.size (λi v=>∃ e,es[i]?=some e/\e.key=v) (λh=>RawD h d es ep) where
 type:=λ_ hm=>hm.typeIs
 there:=λ_ hm=>let ⟨_,ho,_⟩:=hm;⟨aF ho,aF ho⟩
 keep:=λ_ _ hm hk=>hm.keep λo e=>hk d (.inl rfl) o e
 notList:=by decide
 notTuple:=by decide
 hint:=λ_ _ _ _ hm hq=>kdl_hint_dict hm.typeIs hq
 iter:=λ_ _ hh hm=>⟨_,_,(λ_ _ hq=>raw_iter lo hm hq),raw_walks hh _ d (let ⟨_,ho,_⟩:=hm;aS (aF ho)) es ep,⟨⟨_,aK _ rfl,rfl,rfl⟩,hm.keep λ_ e=>ak _ e⟩⟩
theorem coll_raw {d:Addr}{es:Array DictEntry}{ep:Nat}(hh:A.handled=none)(lo:(d == sysModules)=false)(r:RawD s.heap d es ep)(hz:es.size<=sizeLine):Coll prog w A d s λus=>us=es.toList.map (·.key):=by
 intro E R h;refine kdu_collect (raw_src (ep:=ep) lo) hh r hz λh' tk acc hk hI=>h h' tk acc.toList hk ?_
 apply cX;intro i;rw[bi,aC,bi];rcases bS i es.size with hi | hi
 ·have hi':i<acc.size:=by rw[hI.1];exact hi
  obtain⟨e,he,hk⟩:=hI.2 i acc[i] (bC hi');rw[bC hi',he];exact congrArg some hk.symm
 ·rw[bZ (by rw[hI.1];exact hi),bZ hi];rfl
end
end Srt
namespace L2
open PySem PySem.Spec PyProof.Rows
theorem a2w {α β:Type}{f:α->β}:∀ {l m:List β},l.Perm m->∀ {ps:List α},m=ps.map f->∃ qs:List α,qs.Perm ps/\l=qs.map f:=by
 intro l m h;induction h with
 | nil =>
  intro ps e;cases ps with
  | nil=>exact⟨[],.nil,rfl⟩
  | cons _ _=>cases e
 | @cons x lz lq _ ih =>
  intro ps e;cases ps with
  | nil=>cases e
  | cons p r =>
   rw[ao] at e;injection e with e1 e2
   obtain⟨qs,h1,h2⟩:=ih e2;exact⟨p::qs,h1.cons _,by rw[ao,h2,e1]⟩
 | swap x y l =>
  intro ps e
  match ps,e with
  | p::q::r,e =>
   rw[ao,ao] at e;injection e with e1 e2
   injection e2 with e2 e3
   exact⟨q::p::r,.swap ..,by rw[ao,ao,<- e1,<- e2,<- e3]⟩
 | trans _ _ ih1 ih2 =>
  intro ps e;obtain⟨qs,h1,h2⟩:=ih2 e;obtain⟨rs,h3,h4⟩:=ih1 h2;exact⟨rs,h3.trans h1,h4⟩
theorem Z1 {α:Type}{f:α->Addr}:∀ {ps:List α} {us:List Value},C0 (ps.map λx=>V.ref (f x)) us->us=ps.map λx=>br (f x)
 | [],_,.nil=>rfl
 | x::r,_,.cons h t=>by
  cases (show _=br (f x) from h);rw[ao,<- Z1 t]
theorem a1S {α:Type}{f:α->Addr}:∀ ps:List α,C0 (ps.map λx=>V.ref (f x)) (ps.map λx=>br (f x))
 | []=>.nil
 | x::r=>.cons rfl (a1S r)
theorem a0t:∀ {us:List Value},(∀ u∈us,∃ i t,u=cu i t)->IntsAre us (us.map Srt.intKey)
 | [],_=>.nil
 | u::r,h=>by
  obtain⟨i,t,rfl⟩:=h u aO;exact .cons i t (a0t λv hv=>h v (aL _ hv))
theorem a7T {us:List Value}{ns:List Int}(h:IntsAre us ns):∀ u∈us,∃ i t,u=cu i t:=by
 induction h with
 | nil=>intro x hx;cases hx
 | cons n t _ ih =>
  intro x hx;rcases aW.mp hx with rfl | hx
  ·exact⟨n,t,rfl⟩
  ·exact ih x hx
def b1J (K:ae)(H:Hp)(p:Addr)(ns:List Int):Prop :=
 SqL K H p (ns.map V.int)\/SqT K H p (ns.map V.int)\/∃ kvs,H p=some (.dK kvs)/\kvs.map (·.1)=ns.map (bA:Int->Key)
section
variable {X:Cx}{pins:List (Addr×Obj)}{σ:St}{H:Hp}{s:Shared}
theorem Inv.collI (I:Inv X pins σ H s){A:Around}(hh:A.handled=none){p:Addr}{ns:List Int}(h:b1J X.K H p ns):Srt.Coll X.prog X.w A p s λus=>IntsAre us ns/\us.length<=sizeLine:=by
 have mono:∀ {vs:List Value},IntsAre vs ns->vs.length<=sizeLine->Srt.Coll X.prog X.w A p s (λus=>us=vs)->Srt.Coll X.prog X.w A p s λus=>IntsAre us ns/\us.length<=sizeLine:=λhi hl c E R k =>
  c E R λh' tk us kp e=>k h' tk us kp (by subst e;exact⟨hi,hl⟩)
 rcases h with h | h | ⟨kvs,h,hk⟩
 ·obtain⟨its,r,pl,hz⟩:=I.list h;obtain⟨o,ho,hc,n,hd⟩:=pl.isList;have hl:its.length<=sizeLine:=by rw[<- r.length];exact hz
  exact mono (R9 r) hl (Srt.coll_seq ho hc (.inl rfl) hd hl)
 ·obtain⟨its,r,pl,hz⟩:=I.tuple h;obtain⟨o,ho,hc,n,hd⟩:=pl;have hl:its.length<=sizeLine:=by rw[<- r.length];exact hz
  exact mono (R9 r) hl (Srt.coll_seq ho hc (.inr rfl) hd hl)
 ·obtain⟨z,lo,vs,rel,o,es,ep,ho,hx,hd,hkeys,hp,hn⟩:=a4d I.hok h;have hl:es.toList.length=kvs.length:=by rw[hp.length,rel.length]
  have key:∀ {l:List DictEntry} {vs:List (Key×Value)} {ns:List Int},Pairs (E6 X.prog X.w) l vs->vs.map (·.1)=ns.map (bA:Int->Key)->IntsAre (l.map (·.key)) ns:=by
   intro l vs ns hp;induction hp generalizing ns with
   | nil =>
    intro e;cases ns with
    | nil=>exact .nil
    | cons _ _=>cases e
   | @cons e kv es kvs h1 h2 _ ih =>
    intro q;cases ns with
    | nil=>cases q
    | cons n r =>
     rw[ao,ao] at q;injection q with q1 q2
     rw[q1] at h1;have hi:Value.isInt n e.key=true:=h1;obtain⟨t,et⟩:=iG hi;rw[ao,et];exact .cons n t (ih q2)
  have hi:=key hp (by rw[<- rel.keys];exact hk);refine mono hi ?_ (Srt.coll_raw hh lo ⟨o,ho,hx,hd⟩ ?_)
  ·rw[aa,hl];exact z
  ·rw[<- bo,hl];exact z
theorem a2R (hc:X.A.handled=none):L0 X (.builtin "sorted") (λxs H Q=>∃(p:Addr) (ns:List Int),xs=[.ref p]/\b1J X.K H p ns/\∀(ns':List Int) (l:Addr),ns'.Perm ns->ns'.Pairwise (·<=·)->H l=none->Q (.ref l) (upd H l (.lst (ns'.map V.int)))):=by
 intro pins s σ H xs us Q I r h;obtain⟨p,ns,rfl,src,q⟩:=h;obtain⟨u,rfl,rx⟩:=S5 r;cases rx;refine Srt.sorted_any (O:=Srt.intOrd) (key:=Srt.intKey) (knd:=oneType') (I.collI (A:=X.A.in1) hc src) (λvs h=>h.2) (λvs s' h _=>Srt.asks_ints h.1) λvs out h1 h' tk n hC hp hs k1 k2 hD=>?_
 have hall:∀ u∈out,∃ i t,u=cu i t:=λu hu=>a7T hC.1 u (hp.mem_iff.mp hu)
 have hio:=a0t hall;have I1:Inv X pins σ H {s with heap:=h1,toks:=tk}:=I.kept k1;have hlen:(out.map Srt.intKey).length<=sizeLine:=by rw[aa,hp.length_eq];exact hC.2
 refine⟨.ref h1.objs.size,_,I1.laid (t':=tk) (o:=.lst ((out.map Srt.intKey).map V.int)) k2 (aj _) ⟨by rw[aa];exact hlen,out,n,Z2 hio,hD⟩,rfl,q _ _ ?_ ?_ I1.fresh⟩
 ·have:=hp.map Srt.intKey;rw[Srt.intKeys_of hC.1] at this;exact this
 ·rw[ck];exact hs.imp λ{a b} hab=>by
   have hab:decide (Srt.intKey b<Srt.intKey a)=false:=hab;simp at hab;exact hab
def b1I (K:ae)(H:Hp)(p:Addr)(ps:List (Addr×List Int)):Prop :=
 (SqL K H p (ps.map λx=>V.ref x.1)\/SqT K H p (ps.map λx=>V.ref x.1))/\∀ x∈ps,H x.1=some (.tup (x.2.map V.int))/\x.2≠[]
theorem Inv.tupInts (I:Inv X pins σ H s){a:Addr}{ks:List Int}(h:H a=some (.tup (ks.map V.int)))(hne:ks≠[]):Srt.TupInts s.heap (.ref a) ks:=by
 obtain⟨its,r,⟨o,ho,hc,n,hd⟩,hz⟩:=I.tuple (SqT.of h);exact⟨a,o,its.toArray,n,rfl,ho,hc,hd,R9 r,hne⟩
theorem U8 {p:Addr}{vs:List Value}{C:List (Addr×List Int)->Prop}{Q:VK}(I:Inv X pins σ H s)(hcol:Srt.Coll X.prog X.w X.A.in1 p s λus=>us=vs)(ps:List (Addr×List Int))(hvs:vs=ps.map λx=>br x.1)(hz:ps.length<=sizeLine)
  (hall:∀ x∈ps,H x.1=some (.tup (x.2.map V.int))/\x.2≠[]) (q:∀(ps':List (Addr×List Int)) (l:Addr),ps'.Perm ps->(ps'.Pairwise λx y=>HT.lexLt y.2 x.2=false)->H l=none->Q (.ref l) (upd H l (.lst (ps'.map λx=>V.ref x.1)))) :
  wpAny (model X.prog X.w) X.A (call (.builtin "sorted") [.ref p]) (EP X pins σ Q) X.xe s:=by
 subst hvs;have ht:∀ x∈ps,Srt.TupInts s.heap (.ref x.1) x.2:=λx hx=>I.tupInts (hall x hx).1 (hall x hx).2
 refine Srt.sorted_any (O:=Srt.lexOrd) (key:=Srt.tupKey s.heap) (knd:=tuples' true) hcol (λvs e=>by subst e;rw[aa];exact hz) (λvs s' e k=>?_) λvs out h1 h' tk n e hp hs k1 k2 hD=>?_
 ·subst e;refine Srt.asks_tups (λv hv=>?_) k;obtain⟨x,hx,rfl⟩:=aY.mp hv;exact⟨x.2,ht x hx⟩
 ·subst e;obtain⟨ps',hpp,rfl⟩:=a2w hp rfl;have I1:Inv X pins σ H {s with heap:=h1,toks:=tk}:=I.kept k1;refine⟨.ref h1.objs.size,_,I1.laid (t':=tk) (o:=.lst (ps'.map λx=>V.ref x.1)) k2 (aj _) ⟨by rw[aa,hpp.length_eq];exact hz,_,n,a1S (f:=λx:Addr×List Int=>x.1) ps',hD⟩,rfl,q _ _ hpp ?_ I1.fresh⟩;rw[ck] at hs;refine hs.imp_of_mem λ{a b} ha hb hab=>?_
  have e1:=Srt.tupKey_of (ht a (hpp.mem_iff.mp ha));have e2:=Srt.tupKey_of (ht b (hpp.mem_iff.mp hb));have hab:HT.lexLt (Srt.tupKey s.heap (.ref b.1)) (Srt.tupKey s.heap (.ref a.1))=false:=hab;rw[e1,e2] at hab;exact hab
theorem a2Q:L0 X (.builtin "sorted") (λxs H Q=>∃(p:Addr) (ps:List (Addr×List Int)),xs=[.ref p]/\b1I X.K H p ps/\∀(ps':List (Addr×List Int)) (l:Addr),ps'.Perm ps->(ps'.Pairwise λx y=>HT.lexLt y.2 x.2=false)->H l=none->Q (.ref l) (upd H l (.lst (ps'.map λx=>V.ref x.1)))):=by
 intro pins s σ H xs us Q I r h;obtain⟨p,ps,rfl,⟨src,hall⟩,q⟩:=h;obtain⟨u,rfl,rx⟩:=S5 r;cases rx;rcases src with h | h
 ·obtain⟨its,r',pl,hz⟩:=I.list h;obtain⟨o,ho,hc,n,hd⟩:=pl.isList;rw[aa] at hz;have e:=Z1 r';exact U8 (C:=λ_=>True) I (Srt.coll_seq ho hc (.inl rfl) hd (by rw[e,aa];exact hz)) ps e hz hall q
 ·obtain⟨its,r',pl,hz⟩:=I.tuple h;obtain⟨o,ho,hc,n,hd⟩:=pl;rw[aa] at hz;have e:=Z1 r';exact U8 (C:=λ_=>True) I (Srt.coll_seq ho hc (.inr rfl) hd (by rw[e,aa];exact hz)) ps e hz hall q
theorem a2S (hc:X.A.handled=none):L0 X (.builtin "sorted") (λxs H Q=>∃(p:Addr) (kvs:List (List Key×V)) (kss:List (List Int)),xs=[.ref p]/\H p=some (.dT kvs)/\kvs.map (·.1)=kss.map (λks=>ks.map (bA:Int->Key))/\(∀ ks∈kss,ks≠[]) /\
  ∀(ps:List (Addr×List Int)) (l:Addr),(ps.map (·.2)).Perm kss->(∀ x∈ps,H x.1=some (.tup (x.2.map V.int)))->(ps.Pairwise λx y=>HT.lexLt y.2 x.2=false)->H l=none->Q (.ref l) (upd H l (.lst (ps.map λx=>V.ref x.1)))):=by
 intro pins s σ H xs us Q I r h;obtain⟨p,kvs,kss,rfl,hH,hk,hne,q⟩:=h;obtain⟨u,rfl,rx⟩:=S5 r;cases rx;have hO:=I.hok p _ hH;unfold J1 at hO;obtain⟨z,lo,xs,rel,o,es,ep,ho,hx,hd,hes,hn⟩:=hO;have rel:KT H kvs xs:=rel;have key:∀ {kvs:List (List Key×V)} {xs:List (List Key×Addr×Value)} {kss:List (List Int)},KT H kvs xs->kvs.map (·.1)=kss.map (λks=>ks.map (bA:Int->Key)) ->
   ∃ ps:List (Addr×List Int),xs.map (λx=>x.2.1)=ps.map (·.1)/\ps.map (·.2)=kss/\∀ x∈ps,H x.1=some (.tup (x.2.map V.int)):=by
  intro kvs xs kss rel;induction rel generalizing kss with
  | nil =>
   intro e;cases kss with
   | nil=>exact⟨[],rfl,rfl,λx hx=>nomatch hx⟩
   | cons _ _=>cases e
  | @cons pp qq ps qs hh _ ih =>
   intro e;cases kss with
   | nil=>cases e
   | cons ks r =>
    rw[ao,ao] at e;injection e with e1 e2
    obtain⟨rs,h1,h2,h3⟩:=ih e2;obtain⟨g1,g2,g3⟩:=hh;refine⟨(qq.2.1,ks)::rs,by rw[ao,ao,h1],by rw[ao,h2],λx hx=>?_⟩;rcases aW.mp hx with rfl | hx
    ·rw[g2,e1,bj];rfl
    ·exact h3 x hx
 obtain⟨ps,e1,e2,e3⟩:=key rel hk;have hl:es.toList.length=kvs.length:=by rw[hes,aa,<- dA rel]
 have ev:es.toList.map (·.key)=ps.map λx=>br x.1:=by
  rw[hes,bj];have:(xs.map λx=>x.2.1).map br=(ps.map (·.1)).map br:=by rw[e1]
  rw[bj,bj] at this;exact this
 have hpl:ps.length=kvs.length:=by rw[<- hl,<- aa (f:=λx:DictEntry=>x.key),ev,aa]
 refine U8 (C:=λ_=>True) I (Srt.coll_raw hc lo ⟨o,ho,hx,hd⟩ (by rw[<- bo,hl];exact z)) ps ev (by rw[hpl];exact z) (λx hx=>⟨e3 x hx,hne _ (by rw[<- e2];exact dv hx)⟩) λps' l hp hs hn=>q ps' l ?_ (λx hx=>e3 x (hp.mem_iff.mp hx)) hs hn
 rw[<- e2];exact hp.map _
end
end L2
end
section
namespace L2
open PySem PySem.Spec PyProof.Rows
mutual
inductive Dt (K:ae)(H:Hp):V->PyData->Prop
 | non:Dt K H .non .none
 | bl (b:Bool):Dt K H (.bl b) (.bool b)
 | int (i:Int):Dt K H (.int i) (.int i)
 | str (x:Str):Dt K H (.str x) (.str x)
 | tup {a:Addr} {xs:List V} {ds:List PyData}:SqT K H a xs->Dts K H xs ds->Dt K H (.ref a) (.tuple ds)
 | lst {a:Addr} {xs:List V} {ds:List PyData}:SqL K H a xs->Dts K H xs ds->Dt K H (.ref a) (.list ds)
inductive Dts (K:ae)(H:Hp):List V->List PyData->Prop
 | nil:Dts K H [] []
 | cons {x:V} {d:PyData} {xs:List V} {ds:List PyData}:Dt K H x d->Dts K H xs ds->Dts K H (x::xs) (d::ds)
end
section
variable {X:Cx}{pins:List (Addr×Obj)}{σ:St}{H:Hp}{s:Shared}
mutual
theorem Inv.reads (I:Inv X pins σ H s):∀ {x:V} {d:PyData} {u:Value},Dt X.K H x d->C6 x u->∃ as,Reads s.heap u d as
 | _,_,_,.non,r=>by cases (show _=cG from r);exact⟨_,.none⟩
 | _,_,_,.bl b,r=>by cases (show _=aU b from r);exact⟨_,.bool b⟩
 | _,_,_,.int i,r=>by obtain⟨t,e⟩:=(show ∃ t,_=cu i t from r);subst e;exact⟨_,.int i t⟩
 | _,_,_,.str x,r=>by obtain⟨t,e⟩:=(show ∃ t,_=gc x t from r);subst e;exact⟨_,.str x t⟩
 | _,_,_,.tup (a:=a) h hs,r=>by
  cases (show _=br a from r);obtain⟨its,rv,⟨o,ho,hc,n,hd⟩,hz⟩:=I.tuple h;obtain⟨as,q⟩:=Inv.readsAll I hs rv;exact⟨_,.tuple ho hc hd (~~~q)⟩
 | _,_,_,.lst (a:=a) h hs,r=>by
  cases (show _=br a from r);obtain⟨its,rv,pl,hz⟩:=I.list h;obtain⟨o,ho,hc,n,hd⟩:=pl.isList;obtain⟨as,q⟩:=Inv.readsAll I hs rv;exact⟨_,.list ho hc hd (~~~q)⟩
theorem Inv.readsAll (I:Inv X pins σ H s):∀ {xs:List V} {ds:List PyData} {us:List Value},Dts X.K H xs ds->C0 xs us->∃ as,ReadsAll s.heap us ds as
 | _,_,_,.nil,.nil=>⟨_,.nil⟩
 | _,_,_,.cons h t,.cons r q=>by
  obtain⟨as,h1⟩:=Inv.reads I h r;obtain⟨bs,h2⟩:=Inv.readsAll I t q;exact⟨_,.cons h1 h2⟩
end
def b0I (K:ae)(neg:Bool):R2:=λx y H Q=>∃ d e,Dt K H x d/\Dt K H y e/\SeqAt.shaped d=true/\SeqAt.shaped e=true/\Q (.bl (if neg then !PyData.eqv d e else PyData.eqv d e)) H
theorem b0S (hu:X.A.units+64<cLine):OpR X (compareOp .NotEq) (b0I X.K true):=by
 intro pins s σ H x y v u Q I rx ry h;obtain⟨d,e,hd,he,sd,se,q⟩:=h;obtain⟨as,r1⟩:=I.reads hd rx;obtain⟨bs,r2⟩:=I.reads he ry;exact ne_dataH r1 r2 sd se hu ⟨.bl _,H,I,rfl,q⟩
theorem Dts.ints {K:ae}:∀(ns:List Int),Dts K H (ns.map V.int) (ns.map cB)
 | []=>.nil
 | n::r=>.cons (.int n) (Dts.ints r)
theorem a0w:∀ ns:List Int,PyData.canLayAll0 (ns.map cB)=true
 | []=>rfl
 | n::r=>by rw[ao,PyData.canLayAll0,a0w r];rfl
theorem a1n:∀ ns:List Int,PyData.depthAll (ns.map cB)=0
 | []=>rfl
 | n::r=>by rw[ao,PyData.depthAll,a1n r];rfl
theorem a0k (ns:List Int):SeqAt.shaped (.list (ns.map cB))=true:=by
 unfold SeqAt.shaped PyData.canLay0 PyData.depth;rw[a0w,a1n];rfl
theorem a3Z:∀ ns ms:List Int,PyData.eqvAll (ns.map cB) (ms.map cB)=decide (ns=ms)
 | [],[]=>rfl
 | [],_::_=>rfl
 | _::_,[]=>rfl
 | a::r,b::t=>by
  rw[ao,ao,PyData.eqvAll,PyData.eqv,a3Z r t];by_cases h:a=b<;>by_cases h':r=t<;>simp[h,h']
theorem a8b (ns ms:List Int):PyData.eqv (.list (ns.map cB)) (.list (ms.map cB))=decide (ns=ms):=by
 rw[PyData.eqv];exact a3Z ns ms
theorem Dt.tupI {K:ae}{a:Addr}{ns:List Int}(h:SqT K H a (ns.map V.int)):Dt K H (.ref a) (.tuple (ns.map cB)):=.tup h (Dts.ints ns)
theorem Dt.lstI {K:ae}{a:Addr}{ns:List Int}(h:SqL K H a (ns.map V.int)):Dt K H (.ref a) (.list (ns.map cB)):=.lst h (Dts.ints ns)
theorem b3q {K:ae}{a b:Addr}{ns ms:List Int}{Q:VK}(h1:SqL K H a (ns.map V.int))(h2:SqL K H b (ms.map V.int))(q:Q (.bl (!decide (ns=ms))) H):b0I K true (.ref a) (.ref b) H Q :=
 ⟨_,_,.lstI h1,.lstI h2,a0k _,a0k _,by rw[a8b];exact q⟩
end
end L2
end
section
namespace Srt
open PySem PyProof.Rows PySem.W
section
variable {prog:Program}{w:World}{A:Around}{E:Value->Shared->Prop}{s:Shared}
theorem coll_range {r:Addr}{a b c:Int}{t u v:Tok}{n:Nat}(hh:A.handled=none)(hr:IsRange s.heap r a b c t u v)(hsmall:gg a b c=true)(hn:fI a b c=n)(hlen:n<=2 ^ 24) :
  Coll prog w A r s λus=>us.length=n/\∀(i:Nat) x,us[i]?=some x->∃ t,x=.int (a+i*c) t:=by
 intro E R h;unfold collect;refine af (wpAny_runValue (codeAny_builtin iX ?_));rw[g7 PySem.F.plain_proto_collect _];show wpAny _ A.in1 (newList [] >>= λl=>again (.builtin "list.__iadd__" ⟨[l,.ref r],[]⟩)) _ _ s;refine af (bX ?_);refine au ⟨plainId_quiet gB _,codeAny_builtin entry_list_iadd' ?_⟩;rw[g7 gB _];have hSz:(s.heap.push {cls:=.type "list",data:=.seq ([]:List Value).toArray}).get? s.heap.objs.size=some {cls:=.type "list",data:=.seq #[]}:=aK _ rfl;show wpAny _ A.in1 (Builtin.List.listExtendWith (.ref s.heap.objs.size) (.ref r) (.ref s.heap.objs.size)) _ _ _;have key:=wpAny_extend_range (prog:=prog) (w:=w) (A:=A) (s:={s with heap:=s.heap.push {cls:=.type "list",data:=.seq ([]:List Value).toArray}})
  (R:=λ(q:Result) (s':Shared)=>∃(h':Heap) (tk:Nat) (acc':Array Value) (c':Nat),q=.ok (.ret (.ref s.heap.objs.size))/\s'={s with heap:=h',toks:=tk} /\
   (∀ b o,s.heap.get? b=some o->h'.get? b=some o)/\h'.get? s.heap.objs.size=some {cls:=.type "list",dict:=none,data:=.seq acc' c',slots:=#[]}/\ItemsOf (λ(i:Nat) v=>∃ t,v=cu (a+i*c) t) acc' n)
  hh (ak _ hr) hsmall hn hlen s.heap.objs.size (.ref s.heap.objs.size) 0 hSz
  (λh' tk acc' c' hk hS' hacc=>⟨h',tk,acc',c',rfl,rfl,λb o e=>hk b o (aS (aF e)) (ak _ e),hS',hacc⟩)
 have fin:∀(h':Heap) (tk:Nat) (acc':Array Value),(∀ b o,s.heap.get? b=some o->h'.get? b=some o)->ItemsOf (λ(i:Nat) v=>∃ t,v=cu (a+i*c) t) acc' n->R acc'.toList {s with heap:=h',toks:=tk}:=λh' tk acc' hk hacc =>
  h h' tk acc'.toList hk ⟨by rw[bo];exact hacc.1,λi x e=>hacc.2 i x (by rw[<- bi];exact e)⟩
 refine bV key (λfi s' x=>?_) λe s' x=>?_
 ·cases fi with
  | done f =>
   obtain⟨h',tk,acc',c',e,rfl,hk,hS',hacc⟩:=x;cases e;show wpAny _ A (load s.heap.objs.size >>= _) _ _ _;exact af (ir hS' (au (fin h' tk acc' hk hacc)))
  | again c₁ =>
   refine⟨x.1,codeAny_mono x.2 λq sw y=>?_⟩;obtain⟨h',tk,acc',c',rfl,rfl,hk,hS',hacc⟩:=y;show wpAny _ A (load s.heap.objs.size >>= _) _ _ _;exact af (ir hS' (au (fin h' tk acc' hk hacc)))
 ·obtain⟨_,_,_,_,e',_⟩:=x;cases e'
end
end Srt
namespace PySem
open AutoSeq1 (wpAny_loadPart')
theorem own_tuple_new (r:Addr)(T:String)(hT:(bz T == bz "tuple")=false)(C:List Value->Prop) :
  Meets (Builtin.«tuple.__new__» ⟨[.type "tuple",.ref r],[]⟩)
   (λA R s=>s.TypeIs (.ref r) T/\(∀ prog w,Srt.Coll prog w A.in1 r s C)/\(∀ vs,C vs->vs.length<=sizeLine)/\∀(h':Heap) (tk:Nat) (vs:List Value),C vs->(∀ b o',s.heap.get? b=some o'->h'.get? b=some o')->R (.ok (.ret (.ref h'.objs.size))) {s with heap:=h'.push {cls:=.type "tuple",data:=.seq vs.toArray},toks:=tk}) :=
 .of_wp λprog w A R s h=>by
  obtain⟨hp,g,d,tk,os⟩:=s;obtain⟨hty,hcol,hz,h⟩:=h;have hsub:=sub_tuple_self;have hinit:=init_tuple_lookup;have hmh:=madeHere_tuple;have hc:∀ {Q:List Value->Shared->Prop} {E:Value->Shared->Prop},(∀(h':Heap) (tk':Nat) (vs:List Value),(∀ b o,hp.get? b=some o->h'.get? b=some o)->C vs->Q vs ⟨h',g,d,tk',os⟩) ->
    wpAny (model prog w) A.in1 (collect (.ref r)) Q E ⟨hp,g,d,tk,os⟩:=λ{Q E} k=>hcol prog w E Q k
  wp_walk using eS hty,hc
  intro h' tk' vs hk hC;show wpAny _ _ (Builtin.Tuple.tupleExact vs.toArray >>= λv=>ret v) _ _ _;unfold Builtin.Tuple.tupleExact;refine af (bX ?_ (by show vs.toArray.size<=sizeLine;simpa using hz vs hC));exact au ⟨_,rfl,h h' tk' vs hC hk⟩
end PySem
namespace L2
open PySem PySem.Spec PyProof.Rows
section
variable {X:Cx}
theorem a2h:L0 X (.type "range") (λxs H Q=>∃ hi:Int,xs=[.int hi]/\∀ p,H p=none->Q (.ref p) (upd H p (.rng 0 hi))):=by
 intro pins s σ H xs us Q I r h;obtain⟨hi,rfl,q⟩:=h;obtain⟨u,rfl,rx⟩:=S5 r;obtain⟨t,rfl⟩:=rx;refine call_range_1 ⟨.ref s.heap.objs.size,_,I.laid (o:=.rng 0 hi) (λ_ _ q=>ak _ q) (aj _) ⟨_,_,_,aK _ rfl⟩,rfl,q _ I.fresh⟩
def B6 (lo:Int)(n:Nat):List Int:=(cU n).map λ(i:Nat)=>lo+(i:Int)
theorem J3 (lo:Int)(n:Nat):(B6 lo n).length=n:=by unfold B6;simp
theorem a4F {us:List Value}{lo:Int}{n:Nat}(hl:us.length=n)(hi:∀(i:Nat) x,us[i]?=some x->∃ t,x=cu (lo+i*1) t):C0 ((B6 lo n).map V.int) us:=by
 have key:∀(us:List Value) (k:Nat),(∀(i:Nat) x,us[i]?=some x->∃ t,x=cu (lo+((i+k:Nat):Int)) t)->C0 (((List.range' k us.length).map λ(i:Nat)=>lo+(i:Int)).map V.int) us:=by
  intro us;induction us with
  | nil=>intro k _;exact .nil
  | cons u r ih =>
   intro k h;rw[aH,List.range'_succ,ao,ao];refine .cons ?_ (ih (k+1) λi x e=>?_)
   ·obtain⟨t,e⟩:=h 0 u rfl;rw[cT] at e;exact⟨t,e⟩
   ·obtain⟨t,e'⟩:=h (i+1) x (~~~e);exact⟨t,by rw[e'];congr 2;omega⟩
 have:=key us 0 λi x e=>by
  obtain⟨t,e'⟩:=hi i x e;exact⟨t,by rw[e',Int.mul_one,Nat.add_zero]⟩
 unfold B6;rw[List.range_eq_range',<- hl];exact this
theorem a6N {lo hi:Int}(h1:-(2 ^ 62)<=lo)(h2:lo<2 ^ 62)(h3:-(2 ^ 62)<=hi)(h4:hi<2 ^ 62):gg lo hi 1=true:=by
 exact PySem.small_one h1 h2 h3 h4
theorem V4 (hc:X.A.handled=none):L0 X (.type "tuple") (λxs H Q=>∃(p:Addr) (lo hi:Int),xs=[.ref p]/\H p=some (.rng lo hi)/\(-(2 ^ 62)<=lo/\lo<2 ^ 62/\-(2 ^ 62)<=hi/\hi<2 ^ 62)/\(hi-lo).toNat<=2 ^ 24 /\
  ∀ l,H l=none->Q (.ref l) (upd H l (.tup ((B6 lo (hi-lo).toNat).map V.int)))):=by
 intro pins s σ H xs us Q I r h;obtain⟨p,lo,hi,rfl,hp,⟨b1,b2,b3,b4⟩,hz,q⟩:=h;obtain⟨u,rfl,rx⟩:=S5 r;cases rx;have hO:=I.hok p _ hp;unfold J1 at hO;obtain⟨t,u',v,hr⟩:=hO;have hsl:(hi-lo).toNat<=sizeLine:=by rw[sizeLine_eq];omega
 refine callType_new F.called_tuple (by decide) (F.typeCall_tuple_1 _) (F.newCall_tuple_1 _) (λobj=>F.args_object_init_2 obj _) F.entry_tuple_new
  (own_tuple_new p "range" (by decide) (λus=>us.length=(hi-lo).toNat/\∀(i:Nat) x,us[i]?=some x->∃ t,x=cu (lo+i*1) t))
  ⟨⟨_,hr,rfl⟩,λprog w=>Srt.coll_range (A:=X.A.in1.in1) hc hr (a6N b1 b2 b3 b4) (rangeSize_nat lo hi) hz,λvs hv=>by rw[hv.1];exact hsl,λh' tk vs hv hk=>⟨⟨_,aK _ rfl,rfl⟩,?_⟩⟩
 have I1:Inv X pins σ H {s with heap:=h',toks:=tk}:=I.kept hk;refine⟨.ref h'.objs.size,_,I1.laid (t':=tk) (o:=.tup ((B6 lo (hi-lo).toNat).map V.int)) (λ_ _ q=>ak _ q) (aj _) ⟨by rw[aa,J3];exact hsl,vs,a4F hv.1 hv.2,_,aK _ rfl,rfl,0,rfl⟩,rfl,q _ I1.fresh⟩
end
end L2
namespace Srt
open PySem PyProof.Rows PySem.W
theorem nolen_lr:typeLookup (.type "list_reverseiterator") "__len__"=pure none:=by rw[typeLookup_type,builtinLookup_eq_fast];kernel_rfl
theorem hint_lr:typeLookup (.type "list_reverseiterator") "__length_hint__"=pure (some (.builtin "list_reverseiterator.__length_hint__")):=by rw[typeLookup_type,builtinLookup_eq_fast];kernel_rfl
section
variable {prog:Program}{w:World}{A:Around}{E:Value->Shared->Prop}{s:Shared}
theorem rev_extend {R:Result->Shared->Prop}{r l S:Addr}{items:Array Value}{res:Value}{c₀:Nat}(hh:A.handled=none)(hr:s.heap.IsRevIter r l ((items.size:Int)-1))(hl:s.heap.IsList l items)(hne:l≠r)(hSr:S≠r)(hSl:S≠l)
  (hS:s.heap.get? S=some {cls:=.type "list",data:=.seq #[] c₀}) (hn:items.size<=sizeLine)
  (hR:∀ h' tk acc' c',(∀ b o,b≠S->b≠r->s.heap.get? b=some o->h'.get? b=some o)->h'.get? S=some {cls:=.type "list",dict:=none,data:=.seq acc' c',slots:=#[]} ->
   ItemsOf (λi v=>items[items.size-1-i]?=some v) acc' items.size->R (.ok (.ret res)) {s with heap:=h',toks:=tk}) :
  wpAny (model prog w) A.in1 (Builtin.List.listExtendWith (.ref S) (.ref r) res)
   (λfin s'=>match fin with | .done f=>R (.ok f) s' | .again c'=>c'.quiet=true/\codeAny (model prog w) A c' R s') (λe s'=>R (.error e) s') s:=by
 have W:=(Walks.listRev (prog:=prog) (w:=w) (A:=A.in1) hh r l hne items).toS;have hSf:S∉[r,l]:=by simp only[aW,cH,or_false,not_or];exact⟨hSr,hSl⟩
 unfold Builtin.List.listExtendWith;refine af (eS hr.typeIs ?_);have h1:Builtin.List.listSameRef (.ref S) (.ref r)=false:=by simp[Builtin.List.listSameRef,hSr]
 rw[if_neg (by rw[h1];decide)];refine af (wpAny_pyIter_revIter hr ?_);refine af (bQ ?_);unfold Builtin.List.listLengthHint;refine af (g4 hr.typeIs nolen_lr ?_);show wpAny _ A.in1 (specialOf (br r) (Str.ofString "__length_hint__") >>= _) _ _ _;refine af (g4 hr.typeIs hint_lr ?_);generalize hid:("list_reverseiterator.__length_hint__":String)=id0
 wp_delta
 rw[show splitId id0=some ("list_reverseiterator", "__length_hint__") from by subst hid;decide +kernel];subst hid;refine af (wpAny_isInstance (b:=true) hr.typeIs (by rw[isSubtype_type];kernel_rfl) ?_);refine au ?_;rw[if_neg (by decide)];refine au ⟨plainId_quiet PySem.F.plain_extend_loop _,codeAny_extend_loopS W hn S hSf res items.size 0 s #[] c₀ rfl (bI _) ⟨bI _, ~~~hr,hl⟩ hS (ItemsOf.nil _) λs' acc' c' hm hS' hacc=>?_⟩;rw[Moved.eq_with hm];refine hR s'.heap s'.toks acc' c' (λb o hb hbr e=>hm.heap b o (λhmem=>?_) e) hS' hacc;rcases aW.mp hmem with e' | hmem
 ·exact hb e'
 ·exact hbr (ag.mp hmem)
theorem call_list_rev {Q:Value->Shared->Prop}{r l:Addr}{items:Array Value}(hh:A.handled=none)(hr:s.heap.IsRevIter r l ((items.size:Int)-1))(hl:s.heap.IsList l items)(hne:l≠r)(hn:items.size<=sizeLine)
  (hQ:∀ h' tk acc' c',(∀ b o,b≠r->s.heap.get? b=some o->h'.get? b=some o)->h'.get? s.heap.objs.size=some {cls:=.type "list",dict:=none,data:=.seq acc' c',slots:=#[]} ->
   ItemsOf (λi v=>items[items.size-1-i]?=some v) acc' items.size->Q (.ref s.heap.objs.size) {s with heap:=h',toks:=tk}) :
  wpAny (model prog w) A (call (.type "list") [.ref r]) Q E s:=by
 refine callType_codes (Q₁:=λobj sv=>obj=.ref s.heap.objs.size/\sv={s with heap:=s.heap.push {cls:=.type "list",data:=.seq #[]}}) PySem.F.called_list (PySem.F.typeCall_list_1 _) PySem.F.entry_list_init
  (code_list_new _ ⟨rfl,rfl⟩) λobj sv h₁=>?_
 obtain⟨rfl,rfl⟩:=h₁;have hS:(s.heap.push {cls:=.type "list",data:=.seq #[]}).get? s.heap.objs.size=some {cls:=.type "list",data:=.seq #[]}:=aK _ rfl;have rlt:r<s.heap.objs.size:=let ⟨o,ho,_⟩:=hr;aF ho;have llt:l<s.heap.objs.size:=let ⟨o,ho,_⟩:=hl;aF ho;refine⟨⟨_,hS,rfl⟩,PySem.F.args_list_init_2 _ _,?_⟩;show wpAny _ _ (do let old <- Builtin.List.listItems (.ref s.heap.objs.size);Builtin.List.listUpdate (.ref s.heap.objs.size) (λ_=>#[]);letGo old.toList.reverse;Builtin.List.listExtendWith (.ref s.heap.objs.size) (.ref r) .none) _ _ _;refine af ?_;unfold Builtin.List.listItems;refine af (wpAny_seqItems hS rfl (au ?_));show wpAny _ _ (updateSeq s.heap.objs.size (λ_=>#[]) >>= λ_=>letGo (#[]:Array Value).toList.reverse >>= λ_=>Builtin.List.listExtendWith (.ref s.heap.objs.size) (.ref r) .none) _ _ _;refine af (wpAny_updateSeq hS rfl ?_);have hSq:=fk (Obj.mapSeq (λ_=>(#[]:Array Value))) hS rfl;have oth:∀ b o,b≠s.heap.objs.size->s.heap.get? b=some o->((s.heap.push {cls:=.type "list",data:=.seq #[]}).update s.heap.objs.size (Obj.mapSeq (λ_=>(#[]:Array Value)))).get? b=some o :=
  λb o hb e=>(fb _ _ (eN hb)).trans (ak _ e)
 refine af (wpAny_letGo ?_);refine rev_extend (A:=A.in1) hh (hr.at λo e=>oth r o (aS rlt) e) (hl.at λo e=>oth l o (aS llt) e) hne (ij rlt) (ij llt) hSq hn λh' tk acc' c' hk hS' hacc=>?_
 exact⟨rfl,hQ h' tk acc' c' (λb o hb e=>hk b o (aS (aF e)) hb (oth b o (aS (aF e)) e)) hS' hacc⟩
end
end Srt
namespace L2
open PySem PySem.Spec PyProof.Rows
section
variable {X:Cx}{e:Expr}{te:TE}{p1 p2 q1 q2:Pos}
theorem a4M:bootBuiltins "list"=some (.type "list"):=by decide +kernel
theorem a1B:bootBuiltins "reversed"=some (.type "reversed"):=by decide +kernel
theorem a2Z:∀ {xs:List V} {us:List Value},C0 xs us->C0 xs.reverse us.reverse
 | _,_,.nil=>.nil
 | _,_,.cons r t=>by
  rw[dL,dL];exact (a2Z t).append (.cons r .nil)
def a9I (te:TE):TE:=fun σ H Q=>te σ H λx H1=>∃ a xs,x=.ref a/\H1 a=some (.lst xs)/\∀ l,H1 l=none->Q (.ref l) (upd H1 l (.lst xs.reverse))
theorem a4r (hc:X.A.handled=none)(hg1:Gl X "list")(hm1:X.mg "list"=none)(hg2:Gl X "reversed")(hm2:X.mg "reversed"=none)(he:PE X e te)
  (hs1:starEach [.Call (.Name "reversed" p1) [e] [] q1] X.env=[(false,eval (.Call (.Name "reversed" p1) [e] [] q1) X.env)]:=by rfl) (hs2:starEach [e] X.env=[(false,eval e X.env)]:=by rfl) :
  PE X (.Call (.Name "list" p2) [.Call (.Name "reversed" p1) [e] [] q1] [] q2) (a9I te):=by
 intro pins s σ H Q I h;refine dO (X4 I hg1 hm1 a4M ?_);refine ci ?_ hs1 rfl;rw[hs1];refine ek ?_;refine dO (X4 I hg2 hm2 a1B ?_);refine ci ?_ hs2 rfl;rw[hs2];refine ek (thn (he pins s σ H _ I h) λu s1 ⟨x,H1,I1,r1,q1⟩=>?_);obtain⟨a,xs,rfl,ha,q⟩:=q1;cases r1;refine eM ?_;obtain⟨its,n,rv,ho,hz⟩:=I1.lst ha;have hl:s1.heap.IsList a its.toArray:=⟨_,ho,rfl,n,rfl⟩
 have alt:a<s1.heap.objs.size:=aF ho;refine call_reversed_list hl ?_;refine eM ?_;have k1:∀ b o,s1.heap.get? b=some o->(s1.heap.push (revObj a ((its.toArray.size:Int)-1))).get? b=some o:=λ_ _ q=>ak _ q
 refine Srt.call_list_rev (s:={s1 with heap:=s1.heap.push (revObj a ((its.toArray.size:Int)-1))}) hc ⟨_,aK _ rfl,rfl,rfl⟩ (hl.at λo e=>k1 a o e) (aS alt) (by rw[aA,<- rv.length];exact hz) λh' tk acc' c' hk hS' hacc=>?_
 have eacc:acc'.toList=its.reverse:=by
  apply cX;intro i;rw[bi];rcases bS i its.length with hi | hi
  ·have hi':i<acc'.size:=by rw[hacc.1,aA];exact hi
   have:=hacc.2 i acc'[i] (bC hi');rw[bC hi',List.getElem?_reverse hi];rw[aA,List.getElem?_toArray] at this;exact this.symm
  ·rw[bZ (by rw[hacc.1,aA];exact hi),cg (by rw[fA];exact hi)]
 have keep:∀ b o,s1.heap.get? b=some o->h'.get? b=some o:=λb o e=>hk b o (aS (aF e)) (k1 b o e)
 have hsz:(s1.heap.push (revObj a ((its.toArray.size:Int)-1))).objs.size=s1.heap.objs.size+1:=gJ ..;refine⟨.ref (s1.heap.push (revObj a ((its.toArray.size:Int)-1))).objs.size,_,I1.laid (t':=tk) (a:=(s1.heap.push (revObj a ((its.toArray.size:Int)-1))).objs.size) (o:=.lst xs.reverse) keep (by rw[hsz];omega) ⟨by rw[fA];exact hz,its.reverse,c',a2Z rv,by rw[<- eacc,ic];exact hS'⟩,rfl,q _ (I1.hok.fresh (by rw[hsz];omega))⟩
end
end L2
end
section
namespace L2
open PySem PySem.Spec PyProof.Rows
theorem a8G {prog:Program}{w:World}{A:Around}{E:Value->Shared->Prop}{s:Shared}{d:Addr}{es:Array DictEntry}{ep:Nat}{Q:Value->Shared->Prop}(hd:(d == sysModules)=false)(r:Srt.RawD s.heap d es ep)
  (h:Q (.int es.size s.toks) {s with toks:=s.toks+1}):wpAny (model prog w) A (call (.builtin "dict.__len__") [.ref d]) Q E s:=by
 obtain⟨o,ho,hx,hdat⟩:=id r;refine cO F.slot_dict_len r.typeIs F.entry_dict_len ?_ (F.args_dict_len_1 _);show wpAny _ _ (dictSize d >>= _) _ _ s;unfold dictSize;refine af (af (fe ho hdat (au ?_)));show wpAny _ _ (Builtin.Dict.pendingCount d >>= _) _ _ s;refine af (wpAny_pendingCount_other hd ?_);refine wpAny_ret_mkInt ?_;first | exact⟨_,rfl,h⟩ | exact h | simpa using h
section
variable {X:Cx}
theorem a4L:L0 X (.builtin "len") (λxs H Q=>∃(a:Addr) (kvs:List (List Key×V)),xs=[V.ref a]/\H a=some (.dT kvs)/\Q (.int kvs.length) H):=by
 intro pins s σ H xs us Q I r h;obtain⟨a,kvs,rfl,ha,q⟩:=h;obtain⟨u,rfl,ru⟩:=S5 r;cases ru;have hO:=I.hok a _ ha;unfold J1 at hO;obtain⟨z,lo,xs,rel,o,es,ep,ho,hx,hd,hes,hn⟩:=hO;have hl:es.size=kvs.length:=by rw[<- bo,hes,aa,<- dA rel]
 have rd:Srt.RawD s.heap a es ep:=⟨o,ho,hx,hd⟩
 rw[sizeLine_eq] at z;refine call_len_slot (n:=kvs.length) rd.typeIs F.slot_dict_len (λQ' hq=>a8G lo rd (by rw[hl];exact hq)) ∅ ∅ ?_;exact⟨.int kvs.length,H,I.tok _,⟨_,rfl⟩,q⟩
end
structure Df (K:ae)(mg:Str->Option Value)(x:Str)(st:Stmt)(f:Addr)(fd:FuncData)(ps:List Str):Prop where
 F:Fun K x x st f fd
 b:a2n K fd ps []
 m:mg x=some (.ref f)
theorem B1 {X:Cx}{k:Nat}{f:Addr}{fd:FuncData}{ps:List Str}{sp:Sp}{x:Str}{st:Stmt}{p pos:Pos}{e:Expr}{es:List Expr}{t:TA}(G:B8 X.prog X.w X.K X.mg X.base CX0 k f fd ps sp)(D:Df X.K X.mg x st f fd ps)(hr:P0 k X.A)
  (ha:PA X (e::es) t) (hg:Gl X x:=by rfl) (hdb:(x == ("__debug__":Str))=false:=by decide) (he:starEach (e::es) X.env=(false,eval e X.env)::starEach es X.env:=by rfl) (hpl:(backTo pos (starEach es X.env)).any (·.1)=false:=by rfl) :
  PE X (.Call (.Name x p) (e::es) [] pos) (a4W sp [] E0 t):=a5r G hr hg D.m D.F.kp D.b .nil b2z ha hdb he hpl
structure Bt (mg:Str->Option Value):Prop where
 len:mg "len"=none
 range:mg "range"=none
 list:mg "list"=none
 tuple:mg "tuple"=none
 sorted:mg "sorted"=none
 min:mg "min"=none
 max:mg "max"=none
 int:mg "int"=none
 reversed:mg "reversed"=none
section
variable {X:Cx}(K:ae)
theorem E1 (h:X.K=K:=by rfl):IxR X (a8I K):=by subst h;exact a9m
theorem J0 (h:X.K=K:=by rfl):IxR X (a8H K):=by subst h;exact b1e
theorem a6P (h:X.K=K:=by rfl):SlR X (b2s K):=by subst h;exact a8C
theorem a9v (h:X.K=K:=by rfl):OpR X (compareOp .In) (rIn K false):=by subst h;exact a5S
theorem a1b (h:X.K=K:=by rfl):OpR X (compareOp .NotIn) (rIn K true):=by subst h;exact a2B
theorem b3r (hu:X.A.units+64<cLine)(h:X.K=K:=by rfl):OpR X (compareOp .NotEq) (b0I K true):=by subst h;exact b0S hu
theorem b3s (hu:X.A.units<cLine)(h:X.K=K:=by rfl):OpR X (compareOp .Lt) (b2t K):=by subst h;exact b0T hu
def b1E (K:ae):List V->Hp->VK->Prop:=λxs H Q=>∃ p ys,xs=[.ref p]/\(SqL K H p ys\/SqT K H p ys)/\Q (.int ys.length) H
def b0e (K:ae):List V->Hp->VK->Prop:=λxs H Q=>∃ p ys,xs=[.ref p]/\(SqL K H p ys\/SqT K H p ys)/\∀ l,H l=none->Q (.ref l) (upd H l (.lst ys))
def a8l (K:ae):List V->Hp->VK->Prop:=λxs H Q=>∃ p ys,xs=[.ref p]/\((SqL K H p ys/\∀ l,H l=none->Q (.ref l) (upd H l (.tup ys)))\/(SqT K H p ys/\Q (.ref p) H))
def a8n (K:ae):List V->Hp->VK->Prop:=λxs H Q=>∃(p:Addr) (ns:List Int),xs=[.ref p]/\b1J K H p ns/\∀(ns':List Int) (l:Addr),ns'.Perm ns->ns'.Pairwise (·<=·)->H l=none->Q (.ref l) (upd H l (.lst (ns'.map V.int)))
def a8m (K:ae):List V->Hp->VK->Prop:=λxs H Q=>∃(p:Addr) (ps:List (Addr×List Int)),xs=[.ref p]/\b1I K H p ps/\∀(ps':List (Addr×List Int)) (l:Addr),ps'.Perm ps->(ps'.Pairwise λx y=>HT.lexLt y.2 x.2=false)->H l=none->Q (.ref l) (upd H l (.lst (ps'.map λx=>V.ref x.1)))
theorem a1g (h:X.K=K:=by rfl):L0 X (.builtin "len") (b1E K):=by subst h;exact a2U
theorem b2E (h:X.K=K:=by rfl):L0 X (.type "list") (b0e K):=by subst h;exact a2T
theorem T6 (h:X.K=K:=by rfl):L0 X (.type "tuple") (a8l K):=by subst h;exact a1A
theorem a3p (hc:X.A.handled=none)(h:X.K=K:=by rfl):L0 X (.builtin "sorted") (a8n K):=by subst h;exact a2R hc
theorem a0Q (h:X.K=K:=by rfl):L0 X (.builtin "sorted") (a8m K):=by subst h;exact a2Q
variable {tg l o e:Expr}{tl to:TE}{es:List Expr}{t:TA}{pos:Pos}
theorem J5 (hl:PE X l tl)(h:X.K=K:=by rfl):PI X tg l (a7U K tl):=by subst h;exact a8M hl
theorem M7 (hl:PE X l tl)(h:X.K=K:=by rfl):PI X tg l (b1s K tl):=by subst h;exact b0J hl
theorem M0 {k:Nat}{t:TGs}{n:Nat}(hc:X.calm=true)(hg:PGs X es t)(hn:(assignEach es X.env).length=n:=by rfl)(hst:(assignEach es X.env).findIdx? (·.1)=none:=by rfl)(h:X.K=K:=by rfl):PG X (.Tuple es k pos) (b1w K n t):=by
 subst h;exact b0K hc hg hn hst
theorem O0 {apos cpos:Pos}(ho:PE X o to)(ha:PA X (e::es) t)(h:X.K=K:=by rfl)
  (hbase:attributeBase o "append" X.env (eval o X.env)=eval o X.env:=by rfl)
  (hfew:((backTo cpos (starEach (e::es) X.env)).all (λx=>!x.1) && (backToKw cpos (keywordEach [] X.env)).all (λx=>x.1.isSome)
   && decide ((e::es).length+([]:List Keyword).length+(if ([]:List Keyword).isEmpty then 0 else 1)<30))=true:=by rfl) (hst:starEach (e::es) X.env=(false,eval e X.env)::starEach es X.env:=by rfl) (hpl:(backTo cpos (starEach es X.env)).any (·.1)=false:=by rfl) (hline:(apos.endLine == cpos.line)=true:=by rfl) :
  PE X (.Call (.Attribute o "append" apos) (e::es) [] cpos) (tBM K "list" a2t to t):=by
 subst h;exact a5s gC PySem.F.slot_list_append PySem.F.type_list_append a1W ho ha hbase hfew hline hst hpl
theorem b2w {apos cpos:Pos}(ho:PE X o to)(h:X.K=K:=by rfl)(hbase:attributeBase o "pop" X.env (eval o X.env)=eval o X.env:=by rfl)(hline:(apos.endLine == cpos.line)=true:=by rfl) :
  PE X (.Call (.Attribute o "pop" apos) [] [] cpos) (b0A K "list" b0H to):=by
 subst h;exact b0O gC PySem.F.slot_list_pop PySem.F.type_list_pop b0Y ho hbase hline
theorem a6D (he:PE X e to)(hw:∀ whole,isTrue e X.env whole=(do let v <- whole;standAt e.pos;holding [v] (truthy v)))(h:X.K=K:=by rfl):PT X e (fun σ H Q=>to σ H λx H'=>∃ k,b1H K x H' k/\Q k H'):=by
 subst h;exact a7c he hw
end
section
variable {K:ae}{a p:Addr}{xs:List V}{g:TG}{tc:TT}{te tv:TE}{τ0:St}{H0:Hp}{EE:Hp->Prop}
theorem N9 (Pv:Nat->St->Hp->Prop)(h0:Pv 0 τ0 H0)(hl:∀ i τ H,i<=xs.length->Pv i τ H->SqL K H a xs)
  (hs:∀ i x τ H,xs[i]?=some x->Pv i τ H->(∀ ys,SqL K H a ys->ys[i]?=some x)->g x τ H fun τ2 H2=>tc τ2 H2 λb H3=>if b=true then te τ2 H3 λv H4=>∃ ys,H4 p=some (.lst ys)/\ys.length<sizeLine/\Pv (i+1) τ2 (upd H4 p (.lst (ys++[v]))) else Pv (i+1) τ2 H3)
  (hd:∀ τ H,Pv xs.length τ H->EE H):lcW g tc te p (Itl K a) τ0 H0 EE:=by
 refine⟨λi m τ H=>m=xs.length-i/\i<=xs.length/\Pv i τ H,⟨_,rfl,bI _,h0⟩,?_⟩;rintro i m τ H ⟨rfl,hi,hp⟩;have hq:=hl i τ H hi hp;rcases bS i xs.length with h | h
 ·have hx:xs[i]?=some xs[i]:=aq h;refine .inr ⟨⟨xs,_,hq,hx⟩,Pv (i+1),fun τ' H' z=>⟨_,∅,rfl,h,z⟩,?_⟩;rintro x H' ⟨rfl,hy⟩;have e:x=xs[i]:=by have:=hy xs hq;rw[hx] at this;exact (aG this).symm
  subst e;exact hs i _ τ H' hx hp hy
 ·have e:i=xs.length:=∅
  subst e;exact .inl ⟨⟨xs,hq,aj _⟩,hd τ H hp⟩
theorem a4B (Pv:Nat->St->Hp->Prop)(h0:Pv 0 τ0 H0)(hl:∀ i τ H,i<=xs.length->Pv i τ H->SqT K H a xs)
  (hs:∀ i x τ H,xs[i]?=some x->Pv i τ H->g x τ H fun τ2 H2=>tc τ2 H2 λb H3=>if b=true then te τ2 H3 λv H4=>∃ ys,H4 p=some (.lst ys)/\ys.length<sizeLine/\Pv (i+1) τ2 (upd H4 p (.lst (ys++[v]))) else Pv (i+1) τ2 H3)
  (hd:∀ τ H,Pv xs.length τ H->EE H):lcW g tc te p (Itt K a) τ0 H0 EE:=by
 refine⟨λi m τ H=>m=xs.length-i/\i<=xs.length/\Pv i τ H,⟨_,rfl,bI _,h0⟩,?_⟩;rintro i m τ H ⟨rfl,hi,hp⟩;have hq:=hl i τ H hi hp;rcases bS i xs.length with h | h
 ·have hx:xs[i]?=some xs[i]:=aq h;refine .inr ⟨⟨xs,_,hq,hx⟩,Pv (i+1),fun τ' H' z=>⟨_,∅,rfl,h,z⟩,?_⟩;rintro x H' ⟨rfl,hy⟩;have e:x=xs[i]:=by have:=hy xs hq;rw[hx] at this;exact (aG this).symm
  subst e;exact hs i _ τ H' hx hp
 ·have e:i=xs.length:=∅
  subst e;exact .inl ⟨⟨xs,hq,aj _⟩,hd τ H hp⟩
theorem Y6 {lo:Int}{n:Nat}(Pv:Nat->St->Hp->Prop)(h0:Pv 0 τ0 H0)
  (hs:∀ i τ H,i<n->Pv i τ H->g (.int (lo+i)) τ H fun τ2 H2=>tc τ2 H2 λb H3=>if b=true then te τ2 H3 λv H4=>∃ ys,H4 p=some (.lst ys)/\ys.length<sizeLine/\Pv (i+1) τ2 (upd H4 p (.lst (ys++[v]))) else Pv (i+1) τ2 H3)
  (hd:∀ τ H,Pv n τ H->EE H):lcW g tc te p (Itr lo n) τ0 H0 EE:=by
 refine⟨λi m τ H=>m=n-i/\i<=n/\Pv i τ H,⟨_,rfl,bI _,h0⟩,?_⟩;rintro i m τ H ⟨rfl,hi,hp⟩;rcases bS i n with h | h
 ·refine .inr ⟨h,Pv (i+1),fun τ' H' z=>⟨_,∅,rfl,h,z⟩,?_⟩;rintro x H' ⟨rfl,rfl⟩;exact hs i τ H' h hp
 ·have e:i=n:=∅
  subst e;exact .inl ⟨aj _,hd τ H hp⟩
theorem b1z (Pv:Nat->St->Hp->Prop)(h0:Pv 0 τ0 H0)(hl:∀ i τ H,i<=xs.length->Pv i τ H->SqT K H a xs)
  (hs:∀ i x τ H,xs[i]?=some x->Pv i τ H->g x τ H fun τ2 H2=>tc τ2 H2 λb H3=>if b=true then te τ2 H3 λk H4=>tv τ2 H4 λv H5=>∃ H6,W1 H5 p k v H6/\Pv (i+1) τ2 H6 else Pv (i+1) τ2 H3)
  (hd:∀ τ H,Pv xs.length τ H->EE H):dcW g tc te tv p (Itt K a) τ0 H0 EE:=by
 refine⟨λi m τ H=>m=xs.length-i/\i<=xs.length/\Pv i τ H,⟨_,rfl,bI _,h0⟩,?_⟩;rintro i m τ H ⟨rfl,hi,hp⟩;have hq:=hl i τ H hi hp;rcases bS i xs.length with h | h
 ·have hx:xs[i]?=some xs[i]:=aq h;refine .inr ⟨⟨xs,_,hq,hx⟩,Pv (i+1),fun τ' H' z=>⟨_,∅,rfl,h,z⟩,?_⟩;rintro x H' ⟨rfl,hy⟩;have e:x=xs[i]:=by have:=hy xs hq;rw[hx] at this;exact (aG this).symm
  subst e;exact hs i _ τ H' hx hp
 ·have e:i=xs.length:=∅
  subst e;exact .inl ⟨⟨xs,hq,aj _⟩,hd τ H hp⟩
end
theorem a2i {X:Cx}:L0 X (.type "int") (λxs H Q=>∃ k,xs=[.bl k]/\Q (.int (if k then 1 else 0)) H):=λpins s σ H xs us Q I r h=>a6q pins s σ H xs us Q I r (.inr h)
theorem a6A {H:Hp}{a:Addr}{o:HO}(h:H a=some o):upd H a o=H:=by
 funext b;by_cases e:b=a
 ·subst e;rw[A2,h]
 ·rw[A8 e]
theorem B0.upd {H H':Hp}(s:B0 H H'){p:Addr}{o:HO}(hp:H p=none):B0 H (L2.upd H' p o):=λb u e=>by
 rw[A8 (C3 e hp)];exact s b u e
theorem B0.seqT {K:ae}{H H':Hp}{a:Addr}{xs:List V}(e:B0 H H')(h:SqT K H a xs):SqT K H' a xs:=by
 rcases h with (h | ⟨o,h⟩) | h
 ·exact .inl (.inl (e _ _ h))
 ·exact .inl (.inr ⟨o,e _ _ h⟩)
 ·exact .inr h
theorem B5 {n:Nat}(h:n<=16000000):n<sizeLine:=by rw[sizeLine_eq];omega
end L2
end
section
namespace L2
open PySem
def Tp (H H':Hp):Prop:=∀ a xs,H a=some (.tup xs)->H' a=some (.tup xs)
theorem Tp.refl (H:Hp):Tp H H:=λ_ _ h=>h
theorem Tp.trans {H H1 H2:Hp}(a:Tp H H1)(b:Tp H1 H2):Tp H H2:=λc o h=>b c o (a c o h)
theorem B0.tp {H H':Hp}(s:B0 H H'):Tp H H':=λa xs h=>s a _ h
theorem a9X {H:Hp}{a b:Addr}{xs ys:List V}(h:H a=some (.tup xs))(h':H b=some (.lst ys)):a≠b:=λe=>by subst e;rw[h] at h';cases h'
theorem b0W {H:Hp}{a b:Addr}{xs:List V}{ys:List (List Key×V)}(h:H a=some (.tup xs))(h':H b=some (.dT ys)):a≠b:=λe=>by subst e;rw[h] at h';cases h'
theorem b0X {H:Hp}{a b:Addr}{xs:List V}{ys:List (Key×V)}(h:H a=some (.tup xs))(h':H b=some (.dK ys)):a≠b:=λe=>by subst e;rw[h] at h';cases h'
theorem Tp.new {H H':Hp}(s:Tp H H'){p:Addr}{o:HO}(hp:H p=none):Tp H (upd H' p o):=λa xs h=>by rw[A8 (C3 h hp)];exact s a xs h
theorem Tp.lst {H:Hp}{p:Addr}{o:HO}{ys:List V}(hp:H p=some (.lst ys)):Tp H (upd H p o):=λa xs h=>by rw[A8 (a9X h hp)];exact h
theorem Tp.dT {H:Hp}{p:Addr}{o:HO}{ys:List (List Key×V)}(hp:H p=some (.dT ys)):Tp H (upd H p o):=λa xs h=>by rw[A8 (b0W h hp)];exact h
theorem Tp.dK {H:Hp}{p:Addr}{o:HO}{ys:List (Key×V)}(hp:H p=some (.dK ys)):Tp H (upd H p o):=λa xs h=>by rw[A8 (b0X h hp)];exact h
theorem Tp.nw {H:Hp}{p:Addr}{o:HO}(hp:H p=none):Tp H (upd H p o):=(Tp.refl H).new hp
theorem N3 {H:Hp}{a p:Addr}{o u:HO}(h:H a=some o)(hp:H p=none):upd H p u a=some o:=by rw[A8 (C3 h hp)];exact h
theorem K4 {H:Hp}{p q:Addr}{o:HO}(h:upd H p o q=none):H q=none:=by
 by_cases e:q=p
 ·subst e;rw[A2] at h;cases h
 ·rwa [A8 e] at h
@[elab_as_elim] theorem B2 {G:Hp->Prop} {H:Hp} {p:Addr} {o:HO} (n:H p=none) (k:∀ H',B0 H H'->H' p=some o->G H'):G (upd H p o):=k _ ((B0.refl H).upd n) A2
theorem a6R {a b:TS}{D:T5}{σ:St}{H:Hp}(C:St->Hp->Prop)(ha:∀ R:St->Hp->Prop,(∀ σ H,C σ H->R σ H)->a {D with nx:=R} σ H)(hb:∀ σ H,C σ H->b D σ H):b0n a b D σ H:=ha (b D) hb
def b2U (ds:List Int):Prop:=ds.length<=2000/\∀ x∈ds,0<=x/\x<1000
def L9 (H:Hp)(d:Addr):Prop:=∃ ds:List Int,H d=some (.lst (ds.map V.int))/\b2U ds
def Kp (d:Addr)(H H':Hp):Prop:=∀ b o,b≠d->H b=some o->H' b=some o
theorem Kp.refl (d:Addr)(H:Hp):Kp d H H:=λ_ _ _ h=>h
theorem Kp.trans {d:Addr}{H H1 H2:Hp}(a:Kp d H H1)(b:Kp d H1 H2):Kp d H H2:=λc o hc e=>b c o hc (a c o hc e)
theorem B0.kp {d:Addr}{H H':Hp}(s:B0 H H'):Kp d H H':=λb o _ h=>s b o h
theorem Kp.free {d:Addr}{H H':Hp}(k:Kp d H H')(hd:L9 H' d){l:Addr}(h:H' l=none):H l=none:=by
 cases e:H l with
 | none=>rfl
 | some o =>
  by_cases q:l=d
  ·subst q;obtain⟨ds,e',_⟩:=hd;rw[e'] at h;cases h
  ·rw[k l o q e] at h;cases h
theorem Kp.new {d:Addr}{H H':Hp}(k:Kp d H H'){p:Addr}{o:HO}(hp:H p=none):Kp d H (upd H' p o):=λb u hb e=>by
 rw[A8 (C3 e hp)];exact k b u hb e
theorem L9.new {d:Addr}{H:Hp}(h:L9 H d){p:Addr}{o:HO}(hp:p≠d):L9 (upd H p o) d:=by
 obtain⟨ds,e,hl⟩:=h;exact⟨ds,by rw[A8 hp.symm];exact e,hl⟩
theorem L9.ne {d p:Addr}{H:Hp}(h:L9 H d)(hp:H p=none):p≠d:=λe=>by
 subst e;obtain⟨ds,e,_⟩:=h;rw[hp] at e;cases e
theorem L9.same {d:Addr}{H H':Hp}(h:L9 H d)(s:B0 H H'):L9 H' d:=by
 obtain⟨ds,e,hl⟩:=h;exact⟨ds,s _ _ e,hl⟩
theorem Kp.tp {d:Addr}{H H':Hp}(k:Kp d H H')(hd:L9 H d):Tp H H':=λa xs h=>by
 refine k a _ (λe=>?_) h;subst e;obtain⟨ds,e',_⟩:=hd;rw[h] at e';cases e'
def a3n:Sp:=λvs H Q _=>∃ c k:Int,vs=[.int c,.int k]/\0<=k/\k<2 ^ 30/\∀ z:Int,Q (.int z) H
def U0:Sp:=λvs H Q _=>∃(d:Addr) (ns:List Int),vs=[.ref d]/\H d=some (.lst (ns.map V.int))/\∀(z:Int) (ns':List Int),ns'.length<=ns.length->(∀ x∈ns',x∈ns)->(z=0\/z∈ns)->Q (.int z) (upd H d (.lst (ns'.map V.int)))
theorem Z8 {H:Hp}{d:Addr}{Q:VK}{E:XK}(hd:L9 H d)(h:∀ z H',Kp d H H'->L9 H' d->0<=z->z<1000->Q (.int z) H'):U0 [.ref d] H Q E:=by
 obtain⟨ds,e,hl,hb⟩:=hd;refine⟨d,ds,rfl,e,λz ns' hn hs hz=>?_⟩;have hz':0<=z/\z<1000:=by
  rcases hz with rfl | hz
  ·exact⟨by decide,by decide⟩
  ·exact hb z hz
 exact h z _ (λb o hb eb=>by rw[A8 hb];exact eb) ⟨ns',A2,∅,λx hx=>hb x (hs x hx)⟩ hz'.1 hz'.2
theorem L6 {H:Hp}{d:Addr}{Q:VK}{E:XK}(hd:L9 H d)(h:∀ z H',Kp d H H'->L9 H' d->(∀ b,b≠d->H' b=H b)->Q (.int z) H'):U0 [.ref d] H Q E:=by
 obtain⟨ds,e,hl,hb⟩:=hd;exact⟨d,ds,rfl,e,λz ns' hn hs _=>h z _ (λb o hb eb=>by rw[A8 hb];exact eb) ⟨ns',A2,∅,λx hx=>hb x (hs x hx)⟩ λb hb=>A8 hb⟩
def a5e (K:ae):Sp:=λvs H Q _=>∃(a:Addr) (m:Int) (ns:List Int),vs=[.ref a,.int m]/\SqL K H a (ns.map V.int)/\ns.length<=63/\0<=m/\m<=2000 /\
 ∀(p:Addr) (ds:List Int) (H':Hp),b2U ds->B0 H H'->H p=none->H' p=some (.lst (ds.map V.int))->Q (.ref p) H'
def a2q:Sp:=λvs H Q _=>∃(d:Addr) (n:Int),vs=[.ref d,.int n]/\L9 H d/\0<=n/\n<=1000 /\
 ∀(p:Addr) (ks:List Int) (H':Hp),Kp d H H'->L9 H' d->H p=none->H' p=some (.tup (ks.map V.int))->ks.Perm (B6 0 n.toNat)->Q (.ref p) H'
theorem a6C {H:Hp}{d:Addr}{n:Int}{Q:VK}{E:XK}(hd:L9 H d)(h0:0<=n)(h1:n<=1000)(h:∀(p:Addr) (ks:List Int) (H':Hp),Kp d H H'->L9 H' d->H p=none->H' p=some (.tup (ks.map V.int))->ks.Perm (B6 0 n.toNat)->Q (.ref p) H'):a2q [.ref d,.int n] H Q E :=
 ⟨d,n,rfl,hd,h0,h1,h⟩
theorem a4p (i:Nat):B6 0 (i+1)=B6 0 i++[(0:Int)+i]:=by unfold B6;rw[List.range_succ,aE];rfl
def sp_law (K:ae):Sp:=λvs H Q _=>∃(a:Addr) (ns:List Int),vs=[.ref a]/\SqL K H a (ns.map V.int)/\ns.length<=63/\∀ H',Q (.bl true) H'
def tl (t:Int×Int):List Int:=[t.1,t.2]
def Lex (t u:Int×Int):Prop:=t.1<u.1\/(t.1=u.1/\t.2<u.2)
structure P2 (n:Int)(ts:⋯):Prop where
 n3:3<=n
 n60:n<=60
 rng:∀ t∈ts,0<=t.1/\t.1<t.2/\t.2<n
 srt:ts.Pairwise Lex
 len:ts.length<=200
 conn:∀ S:Int->Prop,(∀ t∈ts,S t.1↔S t.2)->∀ u v,0<=u->u<n->0<=v->v<n->S u->S v
structure N4 (H:Hp)(ps:List (Addr×List Int))(ts:⋯):Prop where
 to:∀ x∈ps,H x.1=some (.tup (x.2.map V.int))
 eq:ps.map (·.2)=ts.map tl
def U7 (H:Hp)(q:Addr)(ts:⋯):Prop:=∃ ps:List (Addr×List Int),H q=some (.tup (ps.map λx=>V.ref x.1))/\N4 H ps ts
def Q6 (H:Hp)(w:Addr)(n:Int)(ts:⋯):Prop:=∃ q,H w=some (.tup [.int n,.ref q])/\U7 H q ts
theorem N4.tp {H H':Hp}{ps:List (Addr×List Int)}{ts:⋯}(h:N4 H ps ts)(t:Tp H H'):N4 H' ps ts:=⟨λx hx=>t _ _ (h.to x hx),h.eq⟩
theorem U7.tp {H H':Hp}{q:Addr}{ts:⋯}(h:U7 H q ts)(t:Tp H H'):U7 H' q ts:=by
 obtain⟨ps,e,p⟩:=h;exact⟨ps,t _ _ e,p.tp t⟩
theorem Q6.tp {H H':Hp}{w:Addr}{n:Int}{ts:⋯}(h:Q6 H w n ts)(t:Tp H H'):Q6 H' w n ts:=by
 obtain⟨q,e,p⟩:=h;exact⟨q,t _ _ e,p.tp t⟩
theorem N4.get {H:Hp}{ps:List (Addr×List Int)}{ts:⋯}(h:N4 H ps ts){i:Nat}{v:V}(e:(ps.map λx=>V.ref x.1)[i]?=some v) :
  ∃ a t,v=.ref a/\ts[i]?=some t/\H a=some (.tup [.int t.1,.int t.2]):=by
 rw[aC] at e;cases hx:ps[i]? with
 | none=>rw[hx] at e;cases e
 | some x =>
  rw[hx] at e;have e1:V.ref x.1=v:=aG e;have e2:(ps.map (·.2))[i]?=some x.2:=by rw[aC,hx];rfl
  rw[h.eq,aC] at e2;cases ht:ts[i]? with
  | none=>rw[ht] at e2;cases e2
  | some t =>
   rw[ht] at e2;have e3:tl t=x.2:=aG e2;refine⟨x.1,t,e1.symm,rfl,?_⟩;rw[h.to x (aB hx),<- e3];rfl
theorem N4.len {H:Hp}{ps:List (Addr×List Int)}{ts:⋯}(h:N4 H ps ts):ps.length=ts.length:=by
 have:=congrArg cE h.eq;simpa using this
def un (l:List Int):Int×Int:=(l.getD 0 0,l.getD 1 0)
theorem b1O (t:Int×Int):un (tl t)=t:=rfl
theorem N4.of_perm {H:Hp}{ps:List (Addr×List Int)}{ts:⋯}(h:∀ x∈ps,H x.1=some (.tup (x.2.map V.int)))(pm:(ps.map (·.2)).Perm (ts.map tl)):∃ ts',ts'.Perm ts/\N4 H ps ts':=by
 refine⟨(ps.map (·.2)).map un,?_,h,?_⟩
 ·have:=pm.map un;rw[bj (l:=ts),show (un ∘ tl)=id from funext b1O,List.map_id] at this;exact this
 ·rw[bj];conv=>lhs;rw[<- List.map_id (ps.map (·.2))]
  refine dw λl hl=>?_
  obtain⟨t,_,rfl⟩:=aY.mp (pm.mem_iff.mp hl);rfl
theorem N4.perm {H:Hp}{ps ps':List (Addr×List Int)}{ts:⋯}(h:N4 H ps ts)(pm:ps'.Perm ps):∃ ts',ts'.Perm ts/\N4 H ps' ts' :=
 N4.of_perm (λx hx=>h.to x (pm.mem_iff.mp hx)) (by rw[<- h.eq];exact pm.map _)
theorem N4.srt {H:Hp}{ps:List (Addr×List Int)}{ts:⋯}(h:N4 H ps ts)(s:ps.Pairwise λx y=>HT.lexLt y.2 x.2=false):ts.Pairwise λx y=>HT.lexLt (tl y) (tl x)=false:=by
 have h1:(ps.map (·.2)).Pairwise λx y=>HT.lexLt y x=false:=ck.mpr s
 rw[h.eq] at h1;exact List.pairwise_map.mp h1
theorem N4.src {K:ae}{H:Hp}{p:Addr}{ps:List (Addr×List Int)}{ts:⋯}(h:N4 H ps ts)(e:H p=some (.lst (ps.map λx=>V.ref x.1))):b1I K H p ps:=by
 refine⟨.inl (SqL.of e),λx hx=>⟨h.to x hx,λe2=>?_⟩⟩;have:x.2∈ps.map (·.2):=dv hx;rw[h.eq] at this;obtain⟨t,_,e3⟩:=aY.mp this;rw[e2] at e3;cases e3
theorem N4.snoc {H:Hp}{ps:List (Addr×List Int)}{ts:⋯}(h:N4 H ps ts){q:Addr}{t:Int×Int}(e:H q=some (.tup [.int t.1,.int t.2])):N4 H (ps++[(q,tl t)]) (ts++[t]):=by
 refine⟨λx hx=>?_,by rw[aE,aE,h.eq];rfl⟩;rcases al.mp hx with hx | hx
 ·exact h.to x hx
 ·cases ag.mp hx;exact e
def a6M:Sp:=λvs H Q _=>∃(d:Addr) (lo hi:Int),vs=[.ref d,.int lo,.int hi]/\L9 H d/\3<=lo/\lo<=hi/\hi<=60 /\
 ∀(w:Addr) (n:Int) (ts:⋯) (H':Hp),Kp d H H'->L9 H' d->lo<=n->n<=hi->P2 n ts->Q6 H' w n ts->Q (.ref w) H'
def kvT (fs:⋯):List (List Key×V):=fs.map λt=>([.inl t.1,.inl t.2],V.bl true)
def a1C (fs:⋯)(t:Int×Int):⋯:=if t∈fs then fs else fs++[t]
theorem a1d {fs:⋯}{t x:Int×Int}:x∈a1C fs t↔x∈fs\/x=t:=by
 unfold a1C;split
 ·exact⟨.inl,λh=>h.elim id λe=>by subst e;assumption⟩
 ·simp
theorem a9a {fs:⋯}{t:Int×Int}(h:fs.Nodup):(a1C fs t).Nodup:=by
 unfold a1C;split
 ·exact h
 ·rename_i hn;rw[cV];exact⟨h,by simp,λa ha b hb e=>hn (by simp at hb;subst hb;subst e;exact ha)⟩
theorem a1f {fs:⋯}{t:Int×Int}:(a1C fs t).length<=fs.length+1:=by
 unfold a1C;split<;>simp
theorem a0r {fs:⋯}(h:fs.length<=1000):(kvT fs).length<sizeLine:=by unfold kvT;rw[aa];exact B5 ∅
theorem a2u (fs:⋯)(a b:Int):P4 (kvT fs) [bA a,bA b] (V.bl true)=kvT (a1C fs (a,b)):=by
 have key:∀ t:Int×Int,(([bA t.1,bA t.2]:List Key)=[bA a,bA b])↔t=(a,b):=λt=>by
  obtain⟨x,y⟩:=t;constructor
  ·intro e;injection e with e1 e2
   injection e2 with e2 _
   injection e1 with e1
   injection e2 with e2
   subst e1;subst e2;rfl
  ·intro e;cases e;rfl
 unfold P4 a1C;by_cases h:(a,b)∈fs
 ·have h1:((kvT fs).any λkv=>decide (kv.1=[bA a,bA b]))=true:=by
   rw[cI];exact⟨_,dv h,by simp⟩
  rw[if_pos h1,if_pos h];unfold kvT;rw[bj];refine dw λt ht=>?_
  show (if _ then _ else _)=_;split<;>rfl
 ·have h1:¬ ((kvT fs).any λkv=>decide (kv.1=[bA a,bA b]))=true:=by
   rw[cI];rintro⟨kv,hk,e⟩;obtain⟨t,ht,rfl⟩:=aY.mp hk;have:=(key t).mp (of_decide_eq_true e);subst this;exact h ht
  rw[if_neg h1,if_neg h];unfold kvT;rw[aE];rfl
theorem a5C (fs:⋯):(kvT fs).length=fs.length:=by unfold kvT;simp
theorem a7H (fs:⋯):(kvT fs).map (·.1)=(fs.map tl).map (λks=>ks.map (bA:Int->Key)):=by
 unfold kvT tl;rw[bj,bj];rfl
def nm (ks:List Int)(u:Int):Int:=ks.getD u.toNat 0
def ren (ks:List Int)(t:Int×Int):Int×Int:=(if nm ks t.2<nm ks t.1 then nm ks t.2 else nm ks t.1,if nm ks t.2>nm ks t.1 then nm ks t.2 else nm ks t.1)
section
variable {ks:List Int}{n:Int}
theorem a3O (hp:ks.Perm (B6 0 n.toNat)){u:Int}(h0:0<=u)(h1:u<n):ks[u.toNat]?=some (nm ks u):=by
 have hl:ks.length=n.toNat:=by rw[hp.length_eq,J3]
 have hu:u.toNat<ks.length:=∅
 unfold nm;rw[cb,aq hu];rfl
theorem a7y (hp:ks.Perm (B6 0 n.toNat)){u:Int}(h0:0<=u)(h1:u<n):0<=nm ks u/\nm ks u<n:=by
 have hm:=hp.mem_iff.mp (aB (a3O hp h0 h1));unfold B6 at hm;obtain⟨i,hi,e⟩:=aY.mp hm;have:=bK.mp hi;omega
theorem Z7 (hp:ks.Perm (B6 0 n.toNat)){u v:Int}(h0:0<=u)(h1:u<n)(k0:0<=v)(k1:v<n)(e:nm ks u=nm ks v):u=v:=by
 have hnd:ks.Nodup:=hp.nodup_iff.mpr (by
  unfold B6;refine ck.mpr (List.Pairwise.imp ?_ hG)
  intro a b h e;omega)
 have a1:=a3O hp h0 h1;have a2:=a3O hp k0 k1;rw[<- e] at a2;have hl:ks.length=n.toNat:=by rw[hp.length_eq,J3]
 have:=(fM (l:=ks) (i:=u.toNat) (j:=v.toNat) ∅ hnd).mp (by rw[a1,a2]);omega
theorem a7x (hp:ks.Perm (B6 0 n.toNat)){v:Int}(k0:0<=v)(k1:v<n):∃ u,0<=u/\u<n/\nm ks u=v:=by
 have hm:v∈B6 0 n.toNat:=by
  unfold B6;exact List.mem_map.mpr ⟨v.toNat,bK.mpr ∅,∅⟩
 obtain⟨i,hi,e⟩:=dy (hp.mem_iff.mpr hm);have hl:ks.length=n.toNat:=by rw[hp.length_eq,J3]
 refine⟨(i:Int),∅,∅,?_⟩;unfold nm;rw[cb,cY,aq hi];exact e
theorem a0C {t u:Int×Int}:HT.lexLt (tl t) (tl u)=true↔Lex t u:=by
 unfold tl Lex;rw[HT.lexLt_cons];split
 ·rename_i h;rw[HT.lexLt_cons];split
  ·rename_i h2;constructor
   ·intro e;cases e
   ·intro e;omega
  ·rename_i h2;rw[decide_eq_true_iff];constructor
   ·intro e;exact .inr ⟨h,e⟩
   ·intro e;rcases e with e | e
    ·omega
    ·exact e.2
 ·rename_i h;rw[decide_eq_true_iff];constructor
  ·intro e;exact .inl e
  ·intro e;rcases e with e | e
   ·exact e
   ·exact absurd e.1 h
theorem a8t {fs ts:⋯}(h3:3<=n)(h60:n<=60)(hnd:fs.Nodup)(hrng:∀ t∈fs,0<=t.1/\t.1<t.2/\t.2<n)(hlen:fs.length<=200)(hah:∀ k:Int,1<=k->k<n->∃ a,0<=a/\a<k/\(a,k)∈fs)
  (hp:ks.Perm (B6 0 n.toNat)) (hts:ts.Perm (fs.map (ren ks))) (hs:ts.Pairwise λx y=>HT.lexLt (tl y) (tl x)=false):P2 n ts:=by
 have rr:∀ t∈fs,0<=(ren ks t).1/\(ren ks t).1<(ren ks t).2/\(ren ks t).2<n:=λt ht=>by
  obtain⟨h0,h1,h2⟩:=hrng t ht;have a:=a7y hp h0 ∅;have b:=a7y hp (u:=t.2) ∅ h2;have c:nm ks t.1≠nm ks t.2:=λe=>by have:=Z7 hp h0 ∅ ∅ h2 e;omega
  unfold ren;dsimp only;split<;>split<;>omega
 have inj:∀ t∈fs,∀ u∈fs,ren ks t=ren ks u->t=u:=λt ht u hu e=>by
  obtain⟨h0,h1,h2⟩:=hrng t ht;obtain⟨k0,k1,k2⟩:=hrng u hu;unfold ren at e;injection e with e1 e2
  have i1:nm ks t.1=nm ks u.1->t.1=u.1:=Z7 hp h0 ∅ k0 ∅;have i2:nm ks t.2=nm ks u.2->t.2=u.2:=Z7 hp ∅ h2 ∅ k2;have i3:nm ks t.1=nm ks u.2->t.1=u.2:=Z7 hp h0 ∅ ∅ k2;have i4:nm ks t.2=nm ks u.1->t.2=u.1:=Z7 hp ∅ h2 k0 ∅;have:t.1=u.1/\t.2=u.2:=by
   split at e1<;>split at e1<;>split at e2<;>split at e2<;>omega
  obtain⟨q1,q2⟩:=this;cases t;cases u;simp at q1 q2;rw[q1,q2]
 have nd2:(fs.map (ren ks)).Nodup:=by
  refine ck.mpr ?_;refine dW ?_ hnd;intro a b ha hb hab e;exact hab (inj a ha b hb e)
 have nd3:ts.Nodup:=hts.nodup_iff.mpr nd2;refine⟨h3,h60,λt ht=>?_,?_,by rw[hts.length_eq,aa];exact hlen,λS hS=>?_⟩
 ·obtain⟨u,hu,rfl⟩:=aY.mp (hts.mem_iff.mp ht);exact rr u hu
 ·refine (ff hs nd3).imp ?_;rintro a b ⟨h1,h2⟩;have h3:¬ Lex b a:=λe=>by rw[a0C.mpr e] at h1;cases h1
  have h4:a.1≠b.1\/a.2≠b.2:=by
   by_cases q:a.1=b.1
   ·refine .inr λe=>h2 ?_
    cases a;cases b;simp at q e;rw[q,e]
   ·exact .inl q
  unfold Lex at h3 ⊢;omega
 ·have hf:∀ t∈fs,S (nm ks t.1)↔S (nm ks t.2):=λt ht=>by
   have:=hS _ (hts.mem_iff.mpr (dv ht));unfold ren at this
   revert this
   dsimp only;obtain⟨h0,h1,h2⟩:=hrng t ht;have c:nm ks t.1≠nm ks t.2:=λe=>by have:=Z7 hp h0 ∅ ∅ h2 e;omega
   split<;>split<;>intro q
   ·omega
   ·exact q.symm
   ·exact q
   ·omega
  have h0:∀ m:Nat,∀ k:Int,0<=k->k<n->k.toNat=m->(S (nm ks k)↔S (nm ks 0)):=by
   intro m;induction m using Nat.strongRecOn with
   | ind m ih =>
    intro k k0 k1 e;by_cases hk:k=0
    ·subst hk;exact Iff.rfl
    ·obtain⟨a,a0,a1,hm⟩:=hah k ∅ k1;exact (hf _ hm).symm.trans (ih a.toNat ∅ a a0 ∅ rfl)
  intro u v u0 u1 v0 v1 su;obtain⟨u',p0,p1,rfl⟩:=a7x hp u0 u1;obtain⟨v',q0,q1,rfl⟩:=a7x hp v0 v1;exact (h0 _ v' q0 q1 rfl).mpr ((h0 _ u' p0 p1 rfl).mp su)
end
end L2
end
section
namespace L2
open PySem
def nb (ts:⋯)(v:Int):List Int:=ts.filterMap λt=>if t.1=v then some t.2 else if t.2=v then some t.1 else none
def F0 (n:Int)(ts:⋯):List (List Int):=(cU n.toNat).map λ(v:Nat)=>nb ts (v:Int)
structure C9 (H:Hp)(p:Addr)(as:List Addr)(rows:List (List Int)):Prop where
 top:H p=some (.lst (as.map V.ref))
 len:as.length=rows.length
 nd:as.Nodup
 np:p∉as
 row:∀(i:Nat) a r,as[i]?=some a->rows[i]?=some r->H a=some (.lst (r.map V.int))
section
variable {H H':Hp}{p:Addr}{as:List Addr}{rows:List (List Int)}
theorem C9.mono (h:C9 H p as rows)(k:∀ a o,a=p\/a∈as->H a=some o->H' a=some o):C9 H' p as rows :=
 ⟨k _ _ (.inl rfl) h.top,h.len,h.nd,h.np,λi a r ha hr=>k _ _ (.inr (aB ha)) (h.row i a r ha hr)⟩
theorem C9.same (h:C9 H p as rows)(s:B0 H H'):C9 H' p as rows:=h.mono λa o _ e=>s a o e
theorem C9.kp {d:Addr}(h:C9 H p as rows)(k:Kp d H H')(hp:d≠p)(ha:d∉as):C9 H' p as rows :=
 h.mono λa o q e=>k a o (λe2=>by subst e2;exact q.elim hp ha) e
theorem C9.app (h:C9 H p as rows){i:Nat}{a:Addr}{r:List Int}(ha:as[i]?=some a)(hr:rows[i]?=some r)(x:Int):C9 (upd H a (.lst ((r++[x]).map V.int))) p as (rows.set i (r++[x])):=by
 have hpa:p≠a:=λe=>h.np (by rw[e];exact aB ha)
 refine⟨by rw[A8 hpa];exact h.top,by rw[dC];exact h.len,h.nd,h.np,λj b s hb hs=>?_⟩;by_cases e:j=i
 ·subst e;rw[ha] at hb;cases hb;rw[cp (ap.mp hr).1] at hs;cases hs;exact A2
 ·have hba:b≠a:=λe2=>by
   subst e2;exact e ((fM (ap.mp hb).1 h.nd).mp (by rw[hb,ha]))
  rw[cC (eN e)] at hs;rw[A8 hba];exact h.row j b s hb hs
theorem C9.snoc (h:C9 H p as rows){q:Addr}(hq:H q=none){r:List Int}:C9 (upd (upd H q (.lst (r.map V.int))) p (.lst ((as++[q]).map V.ref))) p (as++[q]) (rows++[r]):=by
 have hpq:p≠q:=C3 h.top hq;have hqa:q∉as:=λhm=>by
  obtain⟨i,hi,e⟩:=dy hm;have hi2:i<rows.length:=by have:=h.len;omega
  have:=h.row i q rows[i] (by rw[aq hi,e]) (aq hi2);rw[hq] at this;cases this
 refine⟨A2,by rw[aD,aD,h.len];rfl,?_,?_,?_⟩
 ·rw[cV];exact⟨h.nd,by simp,λa ha b hb e=>by simp at hb;subst hb;subst e;exact hqa ha⟩
 ·intro hm;rcases al.mp hm with hm | hm
  ·exact h.np hm
  ·exact hpq (ag.mp hm)
 ·intro i a s ha hs;by_cases hi:i<as.length
  ·rw[bh hi] at ha;rw[bh (by rw[<- h.len];exact hi)] at hs;have ham:=aB ha;have h1:a≠p:=λe=>by subst e;exact h.np ham
   have h2:a≠q:=λe=>by subst e;exact hqa ham
   rw[A8 h1,A8 h2];exact h.row i a s ha hs
  ·rw[bf ∅] at ha;rw[bf (by rw[<- h.len];omega)] at hs;have e0:i-as.length=0:=by
    have:=(ap.mp ha).1;simp at this;omega
   rw[e0] at ha;rw[<- h.len,e0] at hs;cases ha;cases hs;rw[A8 hpq.symm,A2]
theorem C9.nil (h:H p=some (.lst [])):C9 H p [] []:=⟨h,rfl,by simp,by simp,λi a r ha=>by cases ha⟩
theorem C9.get (h:C9 H p as rows){v:Int}(h0:0<=v){r:List Int}(hr:rows[v.toNat]?=some r):∃ a,as[v.toNat]?=some a/\atI (as.map V.ref) v=some (.ref a)/\H a=some (.lst (r.map V.int))/\a≠p:=by
 have hl:=(ap.mp hr).1;have hl2:v.toNat<as.length:=by have:=h.len;omega
 have ha:as[v.toNat]?=some as[v.toNat]:=aq hl2;refine⟨_,ha,?_,h.row _ _ _ ha hr,λe=>h.np (by rw[<- e];exact aB ha)⟩;have:=V9 (xs:=as.map V.ref) (j:=v.toNat) (v:=V.ref as[v.toNat]) (by rw[aC,ha];rfl);rw[bx h0] at this;exact this
end
theorem M9 {n:Int}{ts:⋯}{v:Int}(h0:0<=v)(h1:v<n):(F0 n ts)[v.toNat]?=some (nb ts v):=by
 unfold F0;rw[aC,iz ∅];show some (nb ts ((v.toNat:Nat):Int))=_;rw[bx h0]
theorem P3 (n:Int)(ts:⋯):(F0 n ts).length=n.toNat:=by unfold F0;simp
theorem a9c (ts:⋯)(t:Int×Int)(v:Int):nb (ts++[t]) v=nb ts v++(if t.1=v then [t.2] else if t.2=v then [t.1] else []):=by
 unfold nb;rw[List.filterMap_append];congr 1;by_cases h1:t.1=v
 ·simp[h1]
 ·by_cases h2:t.2=v
  ·simp[h1,h2]
  ·simp[h1,h2]
theorem a3z {n:Int}{ts:⋯}{t:Int×Int}(h0:0<=t.1)(h1:t.1<t.2)(h2:t.2<n) :
  F0 n (ts++[t])=((F0 n ts).set t.1.toNat (nb ts t.1++[t.2])).set t.2.toNat (nb ts t.2++[t.1]):=by
 refine cX λi=>?_
 by_cases hi:i<n.toNat
 ·have hl:∀ us:⋯,(F0 n us)[i]?=some (nb us (i:Int)):=λus=>by
   have:=M9 (n:=n) (ts:=us) (v:=(i:Int)) ∅ ∅;simpa using this
  rw[hl,a9c];by_cases e2:i=t.2.toNat
  ·subst e2;rw[cp (by rw[dC,P3];exact hi)];rw[bx ∅,if_neg ∅,if_pos rfl]
  ·rw[cC (eN e2)];by_cases e1:i=t.1.toNat
   ·subst e1;rw[cp (by rw[P3];exact hi)];rw[bx h0,if_pos rfl]
   ·rw[cC (eN e1),hl,if_neg ∅,if_neg ∅,b5]
 ·rw[cg (by rw[P3];omega),cg (by rw[dC,dC,P3];omega)]
theorem X3 {ts:⋯}{v x:Int}:x∈nb ts v↔(v,x)∈ts\/((x,v)∈ts)/\(x≠v\/(v,x)∈ts):=by
 unfold nb;rw[List.mem_filterMap];constructor
 ·rintro⟨t,ht,e⟩;obtain⟨a,b⟩:=t;dsimp only at e;split at e
  ·rename_i h;cases e;subst h;exact .inl ht
  ·rename_i h;split at e
   ·rename_i h2;cases e;subst h2;exact .inr ⟨ht,.inl h⟩
   ·cases e
 ·rintro (h | ⟨h,h'⟩)
  ·exact⟨_,h,by simp⟩
  ·rcases h' with h' | h'
   ·exact⟨_,h,by simp[h']⟩
   ·exact⟨_,h',by simp⟩
def K2 (n:Int)(ts:⋯):Prop:=∀ t∈ts,0<=t.1/\t.1<t.2/\t.2<n
theorem a2F {n:Int}{ts:⋯}(h:K2 n ts){v x:Int}:x∈nb ts v↔v∈nb ts x:=by
 rw[X3,X3];constructor
 ·rintro (q | ⟨q,q'⟩)
  ·exact .inr ⟨q,.inl (by have:=h _ q;dsimp only at this;omega)⟩
  ·exact .inl q
 ·rintro (q | ⟨q,q'⟩)
  ·exact .inr ⟨q,.inl (by have:=h _ q;dsimp only at this;omega)⟩
  ·exact .inl q
theorem a2G {n:Int}{ts:⋯}(h:K2 n ts){v x:Int}(hx:x∈nb ts v):0<=x/\x<n/\0<=v/\v<n/\x≠v:=by
 rcases X3.mp hx with q | ⟨q,_⟩
 ·have:=h _ q;dsimp only at this;omega
 ·have:=h _ q;dsimp only at this;omega
theorem b2D {n:Int}{ts:⋯}(h:K2 n ts)(hs:ts.Pairwise Lex)(v:Int):(nb ts v).Pairwise (·<·):=by
 unfold nb;rw[List.pairwise_filterMap];refine dW ?_ hs;intro a b ha hb hab x hx y hy;have h1:=h a ha;have h2:=h b hb;unfold Lex at hab;have cx:(a.1=v/\a.2=x)\/(a.2=v/\a.1=x):=by
  split at hx
  ·rename_i q;cases hx;exact .inl ⟨q,rfl⟩
  ·split at hx
   ·rename_i q;cases hx;exact .inr ⟨q,rfl⟩
   ·cases hx
 have cy:(b.1=v/\b.2=y)\/(b.2=v/\b.1=y):=by
  split at hy
  ·rename_i q;cases hy;exact .inl ⟨q,rfl⟩
  ·split at hy
   ·rename_i q;cases hy;exact .inr ⟨q,rfl⟩
   ·cases hy
 omega
theorem a2H {ts:⋯}(v:Int):(nb ts v).length<=ts.length:=by unfold nb;exact List.length_filterMap_le _ _
theorem a3o {l l':List Int}(p:l'.Perm l)(s:l'.Pairwise (·<=·))(h:l.Pairwise (·<·)):l'=l :=
 fY (le:=(·<=·)) (λ_ _ _ _ a b=>Int.le_antisymm a b) s (h.imp λa=>Int.le_of_lt a) p
theorem a0X {l l':List Int}(h:l.Pairwise (·<·))(h':l'.Pairwise (·<·))(e:∀ x,x∈l↔x∈l'):l=l':=by
 refine fY (le:=(·<·)) (λa b _ _ x y=>∅) h h' ?_;refine (List.perm_ext_iff_of_nodup (h.imp λx e=>∅) (h'.imp λx e=>∅)).mpr e
structure a4Q (H Hc:Hp)(p:Addr)(as:List Addr)(rows:List (List Int)):Prop where
 same:B0 H Hc
 np:H p=none
 na:∀ a∈as,H a=none
 rows:C9 Hc p as rows
theorem a0W (n:Int):F0 n []=List.replicate n.toNat []:=by
 unfold F0 nb;refine cX λi=>?_
 by_cases h:i<n.toNat
 ·rw[aC,iz h,gT,if_pos h];rfl
 ·rw[cg (by simp;omega),cg (by simp;omega)]
theorem a4Q.step {H Hc:Hp}{p:Addr}{as:List Addr}{n:Int}{us:⋯}{t:Int×Int}(h:a4Q H Hc p as (F0 n us))(h0:0<=t.1)(h1:t.1<t.2)(h2:t.2<n) :
  ∃ a1 a2,atI (as.map V.ref) t.1=some (.ref a1)/\Hc a1=some (.lst ((nb us t.1).map V.int))/\(upd Hc a1 (.lst ((nb us t.1).map V.int++[V.int t.2]))) p=some (.lst (as.map V.ref))/\atI (as.map V.ref) t.2=some (.ref a2) /\
   (upd Hc a1 (.lst ((nb us t.1).map V.int++[V.int t.2]))) a2=some (.lst ((nb us t.2).map V.int)) /\
   a4Q H (upd (upd Hc a1 (.lst ((nb us t.1).map V.int++[V.int t.2]))) a2 (.lst ((nb us t.2).map V.int++[V.int t.1]))) p as (F0 n (us++[t])):=by
 have g1:=M9 (n:=n) (ts:=us) h0 (show t.1<n by omega);have g2:=M9 (n:=n) (ts:=us) (show 0<=t.2 by omega) h2;obtain⟨a1,e1,r1,c1,p1⟩:=h.rows.get h0 g1;have R1:=h.rows.app e1 g1 t.2;have g2':((F0 n us).set t.1.toNat (nb us t.1++[t.2]))[t.2.toNat]?=some (nb us t.2):=by
  rw[cC ∅];exact g2
 obtain⟨a2,e2,r2,c2,p2⟩:=R1.get (show 0<=t.2 by omega) g2';have R2:=R1.app e2 g2' t.1;rw[<- a3z h0 h1 h2] at R2;rw[aE] at R1 R2 c2;rw[aE] at R2;refine⟨a1,a2,r1,c1,R1.top,r2,c2,?_,h.np,h.na,R2⟩;exact (h.same.upd (h.na _ (aB e1))).upd (h.na _ (aB e2))
def a2d (H:Hp)(p:Addr)(i:Nat)(τ:St)(Hc:Hp):Prop:=∃(c:Option V) (as:List Addr),τ=[c]/\a4Q H Hc p as (List.replicate i [])
theorem U7.get {H:Hp}{q:Addr}{ts:⋯}(h:U7 H q ts):∃ xs,H q=some (.tup xs)/\xs.length=ts.length/\∀(i:Nat) v,xs[i]?=some v->∃ a t,v=.ref a/\ts[i]?=some t/\H a=some (.tup [.int t.1,.int t.2]):=by
 obtain⟨ps,e,hp⟩:=h;exact⟨_,e,by rw[aa];exact hp.len,λi v hv=>hp.get hv⟩
def a3m:Sp:=λvs H Q _=>∃(w:Addr) (n:Int) (ts:⋯),vs=[.ref w]/\Q6 H w n ts/\0<=n/\n<=1000/\ts.length<=1000/\K2 n ts /\
 ∀(p:Addr) (as:List Addr) (H':Hp),B0 H H'->H p=none->(∀ a∈as,H a=none)->C9 H' p as (F0 n ts)->Q (.ref p) H'
def a5d:Sp:=λvs H Q _=>∃(w:Addr) (n:Int) (ts:⋯),vs=[.ref w]/\Q6 H w n ts/\0<=n/\n<=1000/\ts.length<=1000/\K2 n ts/\ts.Pairwise Lex /\
 ∀(p:Addr) (as:List Addr) (H':Hp),B0 H H'->H p=none->(∀ a∈as,H a=none)->C9 H' p as (F0 n ts)->Q (.ref p) H'
end L2
end
section
namespace L2
open PySem
theorem a9w (x:Int)(us:List Int):inV (.int x) (us.map V.int)=decide (x∈us):=by
 unfold inV;induction us with
 | nil=>rfl
 | cons u r ih =>
  rw[ao,dE,ih];show (decide (u=x) || _)=_;by_cases h:u=x
  ·subst h;simp
  ·have h':¬ x=u:=λe=>h e.symm
   simp[h,h']
theorem a6l (us:List Int):(us.map V.int).all W7=true:=by
 rw[bJ];intro v hv;obtain⟨u,_,rfl⟩:=aY.mp hv;rfl
section
variable {K:ae}{H:Hp}{p:Addr}{us:List Int}{x:Int}{Q:VK}
theorem a1V (h:SqL K H p (us.map V.int)\/SqT K H p (us.map V.int))(q:Q (.bl (!decide (x∈us))) H):rIn K true (.int x) (.ref p) H Q :=
 ⟨p,_,rfl,h,rfl,a6l us,by rw[a9w];exact q⟩
end
def kvI (us:List Int):List (Key×V):=us.map λx=>(bA x,V.bl true)
def a0x (us:List Int)(x:Int):List Int:=if x∈us then us else us++[x]
theorem a7C {us:List Int}{x y:Int}:y∈a0x us x↔y∈us\/y=x:=by
 unfold a0x;split
 ·exact⟨.inl,λh=>h.elim id λe=>by subst e;assumption⟩
 ·simp
theorem a9b {us:List Int}{x:Int}(h:us.Nodup):(a0x us x).Nodup:=by
 unfold a0x;split
 ·exact h
 ·rename_i hn;rw[cV];exact⟨h,by simp,λa ha b hb e=>hn (by simp at hb;subst hb;subst e;exact ha)⟩
theorem a7F {us:List Int}{x:Int}:(a0x us x).length<=us.length+1:=by
 unfold a0x;split<;>simp
theorem a5D (us:List Int):(kvI us).length=us.length:=by unfold kvI;simp
theorem a0D {a b:Int}:(bA a:Key)=bA b↔a=b:=⟨λe=>by injection e,λe=>by rw[e]⟩
theorem a5o (us:List Int)(x:Int):P4 (kvI us) (bA x) (V.bl true)=kvI (a0x us x):=by
 unfold P4 a0x;by_cases h:x∈us
 ·have h1:((kvI us).any λkv=>decide (kv.1=bA x))=true:=by
   rw[cI];exact⟨_,dv h,by simp⟩
  rw[if_pos h1,if_pos h];unfold kvI;rw[bj];refine dw λt ht=>?_
  show (if _ then _ else _)=_;split<;>rfl
 ·have h1:¬ ((kvI us).any λkv=>decide (kv.1=bA x))=true:=by
   rw[cI];rintro⟨kv,hk,e⟩;obtain⟨t,ht,rfl⟩:=aY.mp hk;have:=a0D.mp (of_decide_eq_true e);subst this;exact h ht
  rw[if_neg h1,if_neg h];unfold kvI;rw[aE];rfl
theorem a0y (us:List Int)(x:Int):(N7 (kvI us) (bA x)).isSome=decide (x∈us):=by
 induction us with
 | nil=>rfl
 | cons u r ih =>
  unfold kvI at ih ⊢;rw[ao];by_cases h:u=x
  ·rw[K7 (a0D.mpr h)];subst h;simp
  ·rw[K8 (λe=>h (a0D.mp e)),ih];have h':¬ x=u:=λe=>h e.symm
   simp[h']
theorem a7I (us:List Int):(kvI us).map (·.1)=us.map (bA:Int->Key):=by
 unfold kvI;rw[bj];rfl
theorem a8e (us:List Int)(x:Int):a1m (kvI us) (bA x)=kvI (us.filter λy=>decide (y≠x)):=by
 unfold a1m kvI;rw[List.filter_map];congr 1;refine List.filter_congr λy _=>?_
 show decide (_≠_)=_;by_cases h:y=x
 ·subst h;simp
 ·have:¬ (bA y:Key)=bA x:=λe=>h (a0D.mp e)
  simp[h,this]
theorem a1Y {us:List Int}(h:us.length<=100000):(kvI us).length<sizeLine:=by rw[a5D];exact B5 ∅
theorem a4x:∀ {us l:List Int},us.Nodup->us ⊆ l->us.length<=l.length
 | [],_,_,_=>bI _
 | x::r,l,hn,hs=>by
  have hx:x∈l:=hs (aO ..);have hn':=d0.mp hn;have:=a4x (us:=r) (l:=l.erase x) hn'.2 (λy hy=>(List.mem_erase_of_ne (λe=>by subst e;exact hn'.1 hy)).mpr (hs (aL _ hy)));rw[List.length_erase_of_mem hx] at this;have:=List.length_pos_of_mem hx;rw[aH];omega
theorem a2E {us:List Int}{n:Int}(hnd:us.Nodup)(h:∀ x∈us,0<=x/\x<n):us.length<=n.toNat:=by
 have hs:us ⊆ B6 0 n.toNat:=λx hx=>by
  obtain⟨h0,h1⟩:=h x hx;unfold B6;exact List.mem_map.mpr ⟨x.toNat,bK.mpr ∅,∅⟩
 have:=a4x hnd hs;rw[J3] at this;exact this
theorem Y5 (n:Nat):(B6 0 n).Pairwise (·<·):=by
 unfold B6;refine ck.mpr (List.pairwise_lt_range.imp ?_);intro a b h;omega
theorem E9 {n:Nat}{x:Int}:x∈B6 0 n↔0<=x/\x<n:=by
 unfold B6;rw[List.mem_map];constructor
 ·rintro⟨i,hi,rfl⟩;have:=bK.mp hi;omega
 ·rintro⟨h0,h1⟩;exact⟨x.toNat,bK.mpr ∅,∅⟩
theorem a2M (p:Int->Bool){x:Int}(h:p x=true):[x].filter p=[x]:=gX h
theorem a2N (p:Int->Bool){x:Int}(h:¬ p x=true):[x].filter p=[]:=gY h
theorem a1Q {l:List Int}(h:l.Pairwise (·<·)):l.Nodup:=h.imp λx e=>∅
theorem a1u {l l':List Int}(p:l'.Perm l)(s:l'.Pairwise (·<=·))(h:l.Nodup):l'.Pairwise (·<·):=by
 refine (ff s (p.nodup_iff.mpr h)).imp ?_;rintro a b ⟨h1,h2⟩;omega
end L2
end
section
namespace L2
open PySem PySem.Spec PyProof.Rows
structure Bt2 (mg:Str->Option Value):Prop where
 isinstance:mg "isinstance"=none
 bool:mg "bool"=none
 all:mg "all"=none
 set:mg "set"=none
 enumerate:mg "enumerate"=none
 zip:mg "zip"=none
end L2
end
section
namespace L2
open PySem
inductive Rch (ts:⋯)(A:Int->Prop)(u:Int):Int->Prop
 | base:Rch ts A u u
 | step {y x:Int}:Rch ts A u y->x∈nb ts y->A x->Rch ts A u x
structure a2W (n:Int)(ts:⋯)(A:Int->Prop)(u:Int)(fs ws:List Int):Prop where
 nd:fs.Nodup
 rng:∀ x∈fs,0<=x/\x<n
 st:u∈fs
 sub:∀ x∈ws,x∈fs
 snd:∀ x∈fs,Rch ts A u x
 cl:∀ x∈fs,x∉ws->∀ y∈nb ts x,A y->y∈fs
structure W8 (n:Int)(ts:⋯)(A:Int->Prop)(u:Int)(fs ws:List Int)(v:Int)(j:Nat):Prop where
 nd:fs.Nodup
 rng:∀ x∈fs,0<=x/\x<n
 st:u∈fs
 sub:∀ x∈ws,x∈fs
 snd:∀ x∈fs,Rch ts A u x
 cl:∀ x∈fs,x∉ws->x≠v->∀ y∈nb ts x,A y->y∈fs
 vin:v∈fs
 part:∀ y∈(nb ts v).take j,A y->y∈fs
section
variable {n:Int}{ts:⋯}{A:Int->Prop}{u v:Int}{fs ws:List Int}{j:Nat}
theorem a2W.init (h0:0<=u)(h1:u<n):a2W n ts A u [u] [u] :=
 ⟨by simp,λx hx=>by simp at hx;subst hx;exact⟨h0,h1⟩,by simp,by simp,λx hx=>by simp at hx;subst hx;exact .base,λx hx hn=>by simp at hx hn;exact absurd hx hn⟩
theorem a2W.pop (h:a2W n ts A u fs (ws++[v])):W8 n ts A u fs ws v 0 :=
 ⟨h.nd,h.rng,h.st,λx hx=>h.sub x (by simp[hx]),h.snd,λx hx hn hv=>h.cl x hx (by simp[hn,hv]),h.sub v (by simp),λy hy=>by simp at hy⟩
theorem W8.add (h:W8 n ts A u fs ws v j)(hok:K2 n ts){y:Int}(hy:(nb ts v)[j]?=some y)(ha:A y)(hn:y∉fs):W8 n ts A u (fs++[y]) (ws++[y]) v (j+1):=by
 have hym:=aB hy;have hr:=a2G hok hym;refine⟨?_,λx hx=>?_,by simp[h.st],λx hx=>?_,λx hx=>?_,λx hx hw hv z hz az=>?_,by simp[h.vin],λz hz az=>?_⟩
 ·rw[cV];exact⟨h.nd,by simp,λa hq b hb e=>hn (by simp at hb;subst hb;subst e;exact hq)⟩
 ·rcases al.mp hx with hx | hx
  ·exact h.rng x hx
  ·cases ag.mp hx;exact⟨hr.1,hr.2.1⟩
 ·rcases al.mp hx with hx | hx
  ·exact al.mpr (.inl (h.sub x hx))
  ·exact al.mpr (.inr hx)
 ·rcases al.mp hx with hx | hx
  ·exact h.snd x hx
  ·cases ag.mp hx;exact .step (h.snd v h.vin) hym ha
 ·rcases al.mp hx with hx | hx
  ·exact al.mpr (.inl (h.cl x hx (λq=>hw (al.mpr (.inl q))) hv z hz az))
  ·exact absurd (al.mpr (.inr hx)) hw
 ·rw[bD,hy] at hz;rcases al.mp hz with hz | hz
  ·exact al.mpr (.inl (h.part z hz az))
  ·simp at hz;subst hz;simp
theorem W8.skip (h:W8 n ts A u fs ws v j){y:Int}(hy:(nb ts v)[j]?=some y)(ha:¬ A y\/y∈fs):W8 n ts A u fs ws v (j+1):=by
 refine⟨h.nd,h.rng,h.st,h.sub,h.snd,h.cl,h.vin,λz hz az=>?_⟩;rw[bD,hy] at hz;rcases al.mp hz with hz | hz
 ·exact h.part z hz az
 ·simp at hz;subst hz;exact ha.elim (λq=>absurd az q) id
theorem W8.done (h:W8 n ts A u fs ws v j)(hj:(nb ts v).length<=j):a2W n ts A u fs ws:=by
 refine⟨h.nd,h.rng,h.st,h.sub,h.snd,λx hx hw y hy ay=>?_⟩;by_cases e:x=v
 ·subst e;exact h.part y (by rw[ce hj];exact hy) ay
 ·exact h.cl x hx hw e y hy ay
theorem a2W.fin (h:a2W n ts A u fs [])(x:Int):x∈fs↔Rch ts A u x:=by
 refine⟨h.snd x,λr=>?_⟩;induction r with
 | base=>exact h.st
 | step _ hm ha ih=>exact h.cl _ ih (by simp) _ hm ha
theorem Rch.rng (hok:K2 n ts)(h0:0<=u)(h1:u<n){x:Int}(r:Rch ts A u x):0<=x/\x<n:=by
 induction r with
 | base=>exact⟨h0,h1⟩
 | step _ hm _ _=>have:=a2G hok hm;omega
theorem Rch.mem {x:Int}(r:Rch ts A u x)(h:A u):A x:=by
 cases r with
 | base=>exact h
 | step _ _ ha=>exact ha
theorem Rch.left {L:Int->Prop}(hok:K2 n ts)(hL:∀ x,L x->A x)(hc:∀ x y,A x->¬ L x->y∈nb ts x->A y->¬ L y)(hu:L u){x:Int}:Rch ts L u x↔Rch ts A u x:=by
 constructor
 ·intro r;induction r with
  | base=>exact .base
  | step _ hm ha ih=>exact .step ih hm (hL _ ha)
 ·intro r;have:Rch ts L u x/\L x:=by
   induction r with
   | base=>exact⟨.base,hu⟩
   | @step y x _ hm ha ih =>
    have:L x:=cc λhn=>hc x y ha hn ((a2F hok).mp hm) (hL _ ih.2) ih.2
    exact⟨.step ih.1 hm this,this⟩
  exact this.1
theorem b2P {H:Hp}{p:Addr}{u:Int}:upd (upd H p (.dK [])) p (.dK (a0a [] [(bA u,V.bl true)]))=upd H p (.dK (kvI [u])):=by
 rw[a2o];rfl
theorem a8s {y:Int}(h:y∉fs):a0x fs y=fs++[y]:=by unfold a0x;rw[if_neg h]
end
structure X7 (H Hc:Hp)(me wl:Addr)(fs ws:List Int):Prop where
 same:B0 H Hc
 met:Hc me=some (.dK (kvI fs))
 wait:Hc wl=some (.lst (ws.map V.int))
def srM (n:Int)(me wl:Addr)(Hc:Hp):Nat:=match Hc me,Hc wl with
 | some (.dK kvs),some (.lst xs)=>2*(n.toNat-kvs.length)+xs.length
 | _,_=>0
section
variable {H Hc:Hp}{me wl:Addr}{fs ws:List Int}{n:Int}
theorem X7.mu (h:X7 H Hc me wl fs ws):srM n me wl Hc=2*(n.toNat-fs.length)+ws.length:=by
 unfold srM;rw[h.met,h.wait];show 2*(n.toNat-(kvI fs).length)+(ws.map V.int).length=_;rw[a5D,aa]
theorem X7.ne (h:X7 H Hc me wl fs ws):me≠wl:=λe=>by
 have:=h.met;rw[e,h.wait] at this;cases this
theorem a9l {ws:List Int}(h:ws≠[]):∃ ws' v,ws=ws'++[v]:=⟨ws.dropLast,ws.getLast h,(dX h).symm⟩
theorem X7.pop {v:Int}(h:X7 H Hc me wl fs (ws++[v]))(hw:H wl=none):((ws++[v]).map V.int)[((ws++[v]).map V.int).length-1]?=some (V.int v)/\X7 H (upd Hc wl (.lst ((ws++[v]).map V.int).dropLast)) me wl fs ws:=by
 refine⟨by simp,h.same.upd hw,by rw[A8 h.ne];exact h.met,?_⟩;rw[A2];simp
theorem X7.add {y:Int}(h:X7 H Hc me wl fs ws)(hm:H me=none)(hw:H wl=none)(hy:y∉fs):X7 H (upd (upd Hc me (.dK (kvI (a0x fs y)))) wl (.lst (ws.map V.int++[V.int y]))) me wl (fs++[y]) (ws++[y]):=by
 refine⟨(h.same.upd hm).upd hw,?_,?_⟩
 ·rw[A8 h.ne,A2,a8s hy]
 ·rw[A2,aE];rfl
theorem X7.mono {H0:Hp}(h:X7 H Hc me wl fs ws)(s:B0 Hc H0):X7 H H0 me wl fs ws:=⟨h.same.trans s,s _ _ h.met,s _ _ h.wait⟩
end
def a3k:Sp:=λvs H Q _=>∃(rp:Addr) (as:List Addr) (n:Int) (ts:⋯) (am:Addr) (ls:List Int) (u:Int),vs=[.ref rp,.ref am,.int u]/\C9 H rp as (F0 n ts)/\K2 n ts/\n<=1000/\ts.length<=1000/\H am=some (.dK (kvI ls))/\0<=u/\u<n /\
 ∀(p:Addr) (zs:List Int) (H':Hp),B0 H H'->H p=none->H' p=some (.tup (zs.map V.int))->zs.Pairwise (·<·)->(∀ x,x∈zs↔Rch ts (·∈ls) u x)->Q (.ref p) H'
end L2
end
section
namespace L2
open PySem
def tI (l:List Int):PyData:=.tuple (l.map cB)
theorem Dts.tups {K:ae}{H:Hp}:∀ {ps:List (Addr×List Int)},(∀ x∈ps,SqT K H x.1 (x.2.map V.int))->Dts K H (ps.map λx=>V.ref x.1) ((ps.map (·.2)).map tI)
 | [],_=>.nil
 | p::r,h=>.cons (.tupI (h p (aO ..))) (Dts.tups λx hx=>h x (aL _ hx))
def a4P (H:Hp)(p:Addr)(ls:List (List Int)):Prop:=∃ ps:List (Addr×List Int),H p=some (.tup (ps.map λx=>V.ref x.1))/\(∀ x∈ps,H x.1=some (.tup (x.2.map V.int)))/\ps.map (·.2)=ls
theorem a4P.tp {H H':Hp}{p:Addr}{ls:List (List Int)}(h:a4P H p ls)(t:Tp H H'):a4P H' p ls:=by
 obtain⟨ps,e,ha,hl⟩:=h;exact⟨ps,t _ _ e,λx hx=>t _ _ (ha x hx),hl⟩
theorem a4P.dt {K:ae}{H:Hp}{p:Addr}{ls:List (List Int)}(h:a4P H p ls):Dt K H (.ref p) (.tuple (ls.map tI)):=by
 obtain⟨ps,e,ha,rfl⟩:=h;exact .tup (SqT.of e) (Dts.tups λx hx=>SqT.of (ha x hx))
def b1r (Hb:Hp)(am:Addr)(us:List Int)(i:Nat)(τ:St)(Hc:Hp):Prop:=∃(c:Option V) (fs:List Int),τ=[c]/\B0 Hb Hc/\Hc am=some (.dK (kvI fs))/\fs.length<=i/\fs.Nodup/\∀ x,x∈fs↔x∈us.take i
structure a4h (Hc:Hp)(lo:Addr)(ps:List (Addr×List Int)):Prop where
 top:Hc lo=some (.lst (ps.map λx=>V.ref x.1))
 row:∀ x∈ps,Hc x.1=some (.tup (x.2.map V.int))
theorem a4h.tp {H H':Hp}{lo:Addr}{ps:List (Addr×List Int)}(h:a4h H lo ps)(t:Tp H H')(e:H' lo=some (.lst (ps.map λx=>V.ref x.1))):a4h H' lo ps:=⟨e,λx hx=>t _ _ (h.row x hx)⟩
theorem a4h.snoc {H:Hp}{lo a:Addr}{ps:List (Addr×List Int)}{l:List Int}(h:a4h H lo ps)(ha:H a=some (.tup (l.map V.int))):a4h (upd H lo (.lst ((ps.map λx=>V.ref x.1)++[V.ref a]))) lo (ps++[(a,l)]):=by
 refine⟨by rw[A2,aE];rfl,λx hx=>?_⟩;rcases al.mp hx with hx | hx
 ·exact Tp.lst h.top _ _ (h.row x hx)
 ·cases ag.mp hx;exact Tp.lst h.top _ _ ha
open Classical in
noncomputable def Q2 (n:Int)(ts:⋯)(us:List Int)(u:Int):List Int:=(B6 0 n.toNat).filter λx=>decide (Rch ts (·∈us) u x)
section
variable {n:Int}{ts:⋯}{us:List Int}{u x:Int}
theorem a5t:(Q2 n ts us u).Pairwise (·<·):=(Y5 _).filter _
open Classical in
theorem a0b (hok:K2 n ts)(h0:0<=u)(h1:u<n):x∈Q2 n ts us u↔Rch ts (·∈us) u x:=by
 unfold Q2;rw[List.mem_filter,E9,decide_eq_true_iff];constructor
 ·exact λh=>h.2
 ·intro h;have:=h.rng hok h0 h1;exact⟨⟨this.1,∅⟩,h⟩
def C7 (f:Int->List Int)(acc:List (List Int))(u:Int):List (List Int):=if (acc.any λl=>decide (u∈l))=true then acc else acc++[f u]
noncomputable def Q7 (n:Int)(ts:⋯)(us vs:List Int):List (List Int):=vs.foldl (C7 (Q2 n ts us)) []
def Q5 (acc:List (List Int))(x:Int):Prop:=∃ l∈acc,x∈l
theorem a0F (acc:List (List Int))(x:Int):(acc.any λl=>decide (x∈l))=true↔Q5 acc x:=by
 rw[cI];exact⟨λ⟨l,h,e⟩=>⟨l,h,of_decide_eq_true e⟩,λ⟨l,h,e⟩=>⟨l,h,decide_eq_true e⟩⟩
theorem a5Z (vs:List Int)(v:Int):Q7 n ts us (vs++[v])=C7 (Q2 n ts us) (Q7 n ts us vs) v:=by
 unfold Q7;rw[List.foldl_append];rfl
theorem a3S (vs:List Int):∀ l∈Q7 n ts us vs,∃ v∈vs,l=Q2 n ts us v:=by
 have gen:∀(vs:List Int) (acc:List (List Int)) (P:List Int->Prop),(∀ l∈acc,P l)->(∀ v∈vs,P (Q2 n ts us v))->∀ l∈vs.foldl (C7 (Q2 n ts us)) acc,P l:=by
  intro vs;induction vs with
  | nil=>intro acc P h _;exact h
  | cons v r ih =>
   intro acc P h1 h2;refine ih _ P ?_ λw hw=>h2 w (aL _ hw)
   unfold C7;split
   ·exact h1
   ·intro l hl;rcases al.mp hl with hl | hl
    ·exact h1 l hl
    ·cases ag.mp hl;exact h2 v (aO ..)
 exact gen vs [] (λl=>∃ v∈vs,l=Q2 n ts us v) (λl hl=>by cases hl) λv hv=>⟨v,hv,rfl⟩
theorem a7D (vs:List Int):(Q7 n ts us vs).length<=vs.length:=by
 have gen:∀(vs:List Int) (acc:List (List Int)),(vs.foldl (C7 (Q2 n ts us)) acc).length<=acc.length+vs.length:=by
  intro vs;induction vs with
  | nil=>intro acc;exact aj _
  | cons v r ih =>
   intro acc;have h1:=ih (C7 (Q2 n ts us) acc v);have h2:(C7 (Q2 n ts us) acc v).length<=acc.length+1:=by unfold C7;split<;>simp
   rw[cS,aH];omega
 have:=gen vs [];unfold Q7;simpa using this
theorem a6X (hok:K2 n ts)(hus:∀ x∈us,0<=x/\x<n){vs ls:List Int}(hv:∀ v∈vs,v∈us)(hls:∀ x,x∈ls↔x∈us/\¬ Q5 (Q7 n ts us vs) x)(hu:u∈ls):Rch ts (·∈ls) u x↔Rch ts (·∈us) u x:=by
 refine Rch.left hok (λx hx=>((hls x).mp hx).1) (λx y ax nlx hy ay ly=>?_) hu;have hx:Q5 (Q7 n ts us vs) x:=cc λh=>nlx ((hls x).mpr ⟨ax,h⟩)
 obtain⟨l,hl,hxl⟩:=hx;obtain⟨v,hvm,rfl⟩:=a3S vs l hl;obtain⟨v0,v1⟩:=hus v (hv v hvm);refine ((hls y).mp ly).2 ⟨_,hl,(a0b hok v0 v1).mpr ?_⟩;exact .step ((a0b hok v0 v1).mp hxl) hy ay
theorem X5 (acc:List (List Int))(l:List Int):Q5 (acc++[l]) x↔Q5 acc x\/x∈l:=by
 unfold Q5;constructor
 ·rintro⟨m,hm,hx⟩;rcases al.mp hm with hm | hm
  ·exact .inl ⟨m,hm,hx⟩
  ·cases ag.mp hm;exact .inr hx
 ·rintro (⟨m,hm,hx⟩ | hx)
  ·exact⟨m,al.mpr (.inl hm),hx⟩
  ·exact⟨l,by simp,hx⟩
end
end L2
end
section
namespace L2
open PySem PySem.Spec PyProof.Rows
section
variable {X:Cx}
theorem a0Z {x:Str}{n:String}{pos:Pos}(hg:Gl X x)(hm:X.mg x=none)(hv:bootBuiltins x=some (.type n))(hn:x≠"__name__":=by decide)(hd:(x == ("__debug__":Str))=false:=by decide):PE X (.Name x pos) (tC (.ty n)) :=
 λ_ _ _ H _ I h=>X4 I hg hm hv ⟨.ty n,H,I,rfl,h⟩ hn hd
def b1F (K:ae):List V->Hp->VK->Prop:=λxs H Q=>∃(x:V) (n:String) (t:Value) (b:Bool),xs=[x,.ty n]/\V5 K H x t/\dH K t (.type n)=some b/\Q (.bl b) H
theorem a8k:L0 X (.builtin "isinstance") (b1F X.K):=by
 intro pins s σ H xs us Q I r h;obtain⟨x,n,t,b,rfl,ty,e,q⟩:=h;obtain⟨u,w',rfl,rx,rn⟩:=a6y r;cases (show w'=bz n from rn);exact a6d I rx ty e λtk=>⟨.bl b,H,I.tok _,rfl,q⟩
theorem a4C (K:ae)(h:X.K=K:=by rfl):L0 X (.builtin "isinstance") (b1F K):=by subst h;exact a8k
end
end L2
end
section
namespace L2
open PySem
def mm (a b:Int):Int×Int:=(if b<a then b else a,if b>a then b else a)
inductive Q0 (ts:⋯):List Int->⋯->Prop where
 | one (s:Int):Q0 ts [s] []
 | add {ins:List Int} {us:⋯} {a b:Int} (h:Q0 ts ins us) (ha:a∈ins) (hb:b∉ins) (hn:b∈nb ts a):Q0 ts (ins++[b]) (us++[mm a b])
section
variable {n:Int}{ts us:⋯}{ins:List Int}
theorem b0Z (hok:K2 n ts){a b:Int}(h:b∈nb ts a):mm a b∈ts:=by
 rcases X3.mp h with q | ⟨q,_⟩
 ·have:=hok _ q;dsimp only at this;have e:mm a b=(a,b):=by unfold mm;rw[if_neg ∅,if_pos ∅]
  rw[e];exact q
 ·have:=hok _ q;dsimp only at this;have e:mm a b=(b,a):=by unfold mm;rw[if_pos ∅,if_neg ∅]
  rw[e];exact q
theorem Q0.len (g:Q0 ts ins us):ins.length=us.length+1:=by
 induction g with
 | one s=>rfl
 | add h _ _ _ ih=>rw[aD,aD,ih];rfl
theorem Q0.nd (g:Q0 ts ins us):ins.Nodup:=by
 induction g with
 | one s=>simp
 | add h _ hb _ ih =>
  rw[cV];exact⟨ih,by simp,λa ha b hb' e=>by simp at hb';subst hb';subst e;exact hb ha⟩
theorem Q0.ends (g:Q0 ts ins us):∀ t∈us,t.1∈ins/\t.2∈ins:=by
 induction g with
 | one s=>intro t ht;cases ht
 | @add ins us a b h ha hb hn ih =>
  intro t ht;rcases al.mp ht with ht | ht
  ·exact⟨bM _ (ih t ht).1,bM _ (ih t ht).2⟩
  ·cases ag.mp ht;have h1:a∈ins++[b]:=bM _ ha;have h2:b∈ins++[b]:=aR _ (ag.mpr rfl);unfold mm;dsimp only;constructor
   ·split<;>assumption
   ·split<;>assumption
theorem Q0.sub (g:Q0 ts ins us)(hok:K2 n ts):∀ t∈us,t∈ts:=by
 induction g with
 | one s=>intro t ht;cases ht
 | add h ha hb hn ih =>
  intro t ht;rcases al.mp ht with ht | ht
  ·exact ih t ht
  ·cases ag.mp ht;exact b0Z hok hn
theorem Q0.tnd (g:Q0 ts ins us):us.Nodup:=by
 induction g with
 | one s=>exact List.nodup_nil
 | @add ins us a b h ha hb hn ih =>
  rw[cV];refine⟨ih,by simp,λt ht u hu e=>?_⟩;simp at hu;subst hu;subst e;have:=h.ends _ ht;unfold mm at this;dsimp only at this;obtain⟨q1,q2⟩:=this;by_cases hc:b<a
  ·rw[if_pos hc] at q1;exact hb q1
  ·rw[if_neg hc] at q1;by_cases hd:b>a
   ·rw[if_pos hd] at q2;exact hb q2
   ·have:a=b:=∅
    subst this;exact hb ha
theorem Q0.rng (g:Q0 ts ins us)(hok:K2 n ts)(h0:∀ x∈ins.head?,0<=x/\x<n):∀ x∈ins,0<=x/\x<n:=by
 induction g with
 | one s=>intro x hx;rw[ag.mp hx];exact h0 s rfl
 | @add ins us a b h ha hb hn ih =>
  have hne:ins≠[]:=λe=>by subst e;cases ha
  have h0':∀ x∈ins.head?,0<=x/\x<n:=λx hx=>h0 x (by rw[List.head?_append,hx];rfl)
  intro x hx;rcases al.mp hx with hx | hx
  ·exact ih h0' x hx
  ·cases ag.mp hx;have:=a2G hok hn;omega
theorem Q0.open (g:Q0 ts ins us)(hw:P2 n ts)(hr:∀ x∈ins,0<=x/\x<n)(hl:(ins.length:Int)<n):∃ a∈ins,∃ b∈nb ts a,b∉ins:=by
 apply cc;intro hno;have hcl:∀ a∈ins,∀ b∈nb ts a,b∈ins:=λa ha b hb=>cc λhn=>hno ⟨a,ha,b,hb,hn⟩
 obtain⟨s,hs⟩:∃ s,s∈ins:=by
  cases ins with
  | nil=>have:=g.len;simp at this
  | cons x r=>exact⟨x,aO ..⟩
 have hS:∀ t∈ts,(t.1∈ins↔t.2∈ins):=λt ht=>by
  obtain⟨h0,h1,h2⟩:=hw.rng t ht;have e1:t.2∈nb ts t.1:=X3.mpr (.inl ht);exact⟨λh=>hcl _ h _ e1,λh=>hcl _ h _ ((a2F hw.rng).mp e1)⟩
 have hall:=λv h0 h1=>hw.conn (λx=>x∈ins) hS s v (hr s hs).1 (hr s hs).2 h0 h1 hs
 have hsub:B6 0 n.toNat ⊆ ins:=λx hx=>by
  have:=E9.mp hx;exact hall x this.1 ∅
 have:=a4x (a1Q (Y5 n.toNat)) hsub;rw[J3] at this;omega
structure S4 (n:Int)(ts us:⋯):Prop where
 grown:∃ ins gs,Q0 ts ins gs/\us.Perm gs/\(ins.length:Int)=n/\∀ x∈ins,0<=x/\x<n
 srt:us.Pairwise Lex
 sub:∀ t∈us,t∈ts
theorem S4.len (h:S4 n ts us):(us.length:Int)+1=n:=by
 obtain⟨ins,gs,g,p,hl,_⟩:=h.grown;have:=g.len;rw[p.length_eq];omega
theorem S4.ok (h:S4 n ts us)(hok:K2 n ts):K2 n us:=λt ht=>hok t (h.sub t ht)
theorem a9j {us:⋯}(hs:us.Pairwise λx y=>HT.lexLt (tl y) (tl x)=false)(hn:us.Nodup):us.Pairwise Lex:=by
 refine (ff hs hn).imp ?_;rintro a b ⟨h1,h2⟩;have h3:¬ Lex b a:=λe=>by rw[a0C.mpr e] at h1;cases h1
 unfold Lex at h3 ⊢;have h4:¬ (a.1=b.1/\a.2=b.2):=λe=>h2 (by cases a;cases b;simp at e;rw[e.1,e.2])
 omega
theorem a6k {gs:⋯}(g:Q0 ts ins gs)(hok:K2 n ts)(hl:(ins.length:Int)=n)(hr:∀ x∈ins,0<=x/\x<n)(p:us.Perm gs)(hs:us.Pairwise λx y=>HT.lexLt (tl y) (tl x)=false):S4 n ts us :=
 ⟨⟨ins,gs,g,p,hl,hr⟩,a9j hs (p.nodup_iff.mpr g.tnd),λt ht=>g.sub hok t (p.mem_iff.mp ht)⟩
end
theorem C9.put {H:Hp}{p x:Addr}{as:List Addr}{rows:List (List Int)}{o:HO}(h:C9 H p as rows)(h1:x≠p)(h2:x∉as):C9 (upd H x o) p as rows :=
 h.mono λa u q e=>by
  rw[A8 (λz=>by subst z;exact q.elim (λz=>h1 z) h2)];exact e
def opn (ts:⋯)(ins:List Int)(a:Int):List Int:=(nb ts a).filter λk=>!decide (k∈ins)
def rdy (ts:⋯)(ins:List Int):List Int:=ins.filter λa=>!decide (opn ts ins a=[])
theorem a5z {ts:⋯}{ins:List Int}{a b:Int}:b∈opn ts ins a↔b∈nb ts a/\b∉ins:=by unfold opn;simp
theorem a5y {ts:⋯}{ins:List Int}{a:Int}:a∈rdy ts ins↔a∈ins/\opn ts ins a≠[]:=by unfold rdy;simp
theorem a2V {xs:List Int}{i:Int}(hn:0<=i)(h1:i<xs.length):∃ x,x∈xs/\atI (xs.map V.int) i=some (.int x):=by
 have hlt:i.toNat<xs.length:=∅
 refine⟨xs[i.toNat],fW hlt,?_⟩;have:=V9 (xs:=xs.map V.int) (j:=i.toNat) (v:=V.int xs[i.toNat]) (by rw[aC,aq hlt];rfl);rw[bx hn] at this;exact this
theorem a8q {xs:List Int}(h:xs≠[]):∃ x,x∈xs/\atI (xs.map V.int) (-1)=some (.int x):=by
 refine⟨xs.getLast h,List.getLast_mem h,?_⟩;have:=a8p ((xs.dropLast).map V.int) (V.int (xs.getLast h));rw[<- List.map_singleton,<- aE,dX h] at this;exact this
def a4Z:Sp:=λvs H Q _=>∃(d w:Addr) (n:Int) (ts:⋯),vs=[.ref d,.ref w]/\L9 H d/\Q6 H w n ts/\P2 n ts /\
 ∀(p:Addr) (us:⋯) (H':Hp),Kp d H H'->L9 H' d->H p=none->U7 H' p us->S4 n ts us->Q (.ref p) H'
end L2
end
section
namespace L2
open PySem PySem.Spec PyProof.Rows
theorem U7.ls {H:Hp}{q:Addr}{ts:⋯}(h:U7 H q ts):a4P H q (ts.map tl):=by
 obtain⟨ps,e,hp⟩:=h;exact⟨ps,e,hp.to,hp.eq⟩
end L2
end
section
namespace L2
open PySem
theorem a9h {a b:Int}(h:a≠b):mm a b=mm b a:=by
 unfold mm;by_cases h1:b<a
 ·rw[if_pos h1,if_neg (show ¬ b>a by omega),if_neg (show ¬ a<b by omega),if_pos (show a>b by omega)]
 ·rw[if_neg h1,if_pos (show b>a by omega),if_pos (show a<b by omega),if_neg (show ¬ a>b by omega)]
theorem a1c {a b:Int}(h:a≠b):(b<a/\mm a b=(b,a))\/(a<b/\mm a b=(a,b)):=by
 unfold mm;by_cases h1:b<a
 ·exact .inl ⟨h1,by rw[if_pos h1,if_neg (show ¬ b>a by omega)]⟩
 ·exact .inr ⟨∅,by rw[if_neg h1,if_pos (show b>a by omega)]⟩
theorem Q0.root {ts gs:⋯}{ins:List Int}(G:Q0 ts ins gs):∀ g∈ins,∃(par:Int->Int) (rank:Int->Nat),
  (∀ v∈ins,v≠g->par v∈ins/\rank (par v)<rank v/\mm v (par v)∈gs)/\∀ t∈gs,(t.1≠g/\t.2=par t.1)\/(t.2≠g/\t.1=par t.2):=by
 induction G with
 | one s =>
  intro g hg;exact⟨id,λ_=>0,λv hv hn=>absurd ((ag.mp hv).trans (ag.mp hg).symm) hn,λt ht=>by cases ht⟩
 | @add ins us a b h ha hb hn ih =>
  have hab:a≠b:=λe=>hb (e ▸ ha)
  intro g hg;rcases al.mp hg with hg | hg
  ·obtain⟨par,rank,h1,h2⟩:=ih g hg;have hgb:g≠b:=λe=>hb (e ▸ hg)
   refine⟨λv=>if v=b then a else par v,λv=>if v=b then rank a+1 else rank v,λv hv hvg=>?_,λt ht=>?_⟩
   ·rcases al.mp hv with hv | hv
    ·have hvb:v≠b:=λe=>hb (e ▸ hv)
     obtain⟨q1,q2,q3⟩:=h1 v hv hvg;have hpb:par v≠b:=λe=>hb (e ▸ q1)
     dsimp only;rw[if_neg hvb,if_neg hpb,if_neg hvb];exact⟨bM _ q1,q2,bM _ q3⟩
    ·obtain rfl:=ag.mp hv;dsimp only;rw[if_pos rfl,if_neg hab,if_pos rfl];exact⟨bM _ ha,gi _,aR _ (by rw[a9h hab.symm];exact ag.mpr rfl)⟩
   ·rcases al.mp ht with ht | ht
    ·obtain⟨e1,e2⟩:=h.ends t ht;have n1:t.1≠b:=λe=>hb (e ▸ e1)
     have n2:t.2≠b:=λe=>hb (e ▸ e2)
     dsimp only;rw[if_neg n1,if_neg n2];exact h2 t ht
    ·obtain rfl:=ag.mp ht;rcases a1c hab with ⟨_,e⟩ | ⟨_,e⟩
     ·rw[e];dsimp only;rw[if_pos rfl];exact .inl ⟨hgb.symm,rfl⟩
     ·rw[e];dsimp only;rw[if_pos rfl];exact .inr ⟨hgb.symm,rfl⟩
  ·obtain rfl:=ag.mp hg;obtain⟨par,rank,h1,h2⟩:=ih a ha;refine⟨λv=>if v=a then g else par v,λv=>if v=g then 0 else rank v+1,λv hv hvg=>?_,λt ht=>?_⟩
   ·have hv':v∈ins:=(al.mp hv).resolve_right λe=>hvg (ag.mp e)
    by_cases hva:v=a
    ·subst hva;dsimp only;rw[if_pos rfl,if_pos rfl,if_neg hvg];exact⟨aR _ (ag.mpr rfl),Nat.succ_pos _,aR _ (ag.mpr rfl)⟩
    ·obtain⟨q1,q2,q3⟩:=h1 v hv' hva;have hpg:par v≠g:=λe=>hb (e ▸ q1)
     dsimp only;rw[if_neg hva,if_neg hpg,if_neg hvg];exact⟨bM _ q1,Nat.succ_lt_succ q2,bM _ q3⟩
   ·rcases al.mp ht with ht | ht
    ·obtain⟨e1,e2⟩:=h.ends t ht;have n1:t.1≠g:=λe=>hb (e ▸ e1)
     have n2:t.2≠g:=λe=>hb (e ▸ e2)
     dsimp only;rcases h2 t ht with ⟨q1,q2⟩ | ⟨q1,q2⟩
     ·rw[if_neg q1];exact .inl ⟨n1,q2⟩
     ·rw[if_neg q1];exact .inr ⟨n2,q2⟩
    ·obtain rfl:=ag.mp ht;rcases a1c hab with ⟨_,e⟩ | ⟨_,e⟩
     ·rw[e];dsimp only;rw[if_pos rfl];exact .inr ⟨hab,rfl⟩
     ·rw[e];dsimp only;rw[if_pos rfl];exact .inl ⟨hab,rfl⟩
structure S0 (n:Int)(us:⋯)(g:Int)(par:Int->Int)(rank:Int->Nat):Prop where
 g0:0<=g
 g1:g<n
 up:∀ v,0<=v->v<n->v≠g->0<=par v/\par v<n/\rank (par v)<rank v/\par v∈nb us v
 edge:∀ v u,u∈nb us v->(v≠g/\u=par v)\/(u≠g/\par u=v)
theorem P9 {n:Int}{us:⋯}(hok:K2 n us){v x:Int}:x∈nb us v↔(v,x)∈us\/(x,v)∈us:=by
 rw[X3];constructor
 ·rintro (h | ⟨h,_⟩)
  ·exact .inl h
  ·exact .inr h
 ·rintro (h | h)
  ·exact .inl h
  ·exact .inr ⟨h,.inl (by have:=hok _ h;dsimp only at this;omega)⟩
theorem S4.rooted {n:Int}{ts us:⋯}(T:S4 n ts us)(hok:K2 n ts){g:Int}(g0:0<=g)(g1:g<n):∃ par rank,S0 n us g par rank:=by
 obtain⟨ins,gs,G,p,hl,hr⟩:=T.grown;have hall:∀ v,0<=v->v<n->v∈ins:=λv h0 h1=>by
  apply cc;intro hv;have hnd:(v::ins).Nodup:=List.nodup_cons.mpr ⟨hv,G.nd⟩;have:=a2E (n:=n) hnd λx hx=>by
   rcases aW.mp hx with rfl | hx
   ·exact⟨h0,h1⟩
   ·exact hr x hx
  rw[aH] at this;omega
 obtain⟨par,rank,h1,h2⟩:=G.root g (hall g g0 g1);have hok':=T.ok hok;refine⟨par,rank,g0,g1,λv v0 v1 hv=>?_,λv u hu=>?_⟩
 ·obtain⟨q1,q2,q3⟩:=h1 v (hall v v0 v1) hv;have hm:mm v (par v)∈us:=p.mem_iff.mpr q3;have hne:v≠par v:=λe=>by rw[<- e] at q2;omega
  refine⟨(hr _ q1).1,(hr _ q1).2,q2,(P9 hok').mpr ?_⟩;rcases a1c hne with ⟨_,e⟩ | ⟨_,e⟩
  ·rw[e] at hm;exact .inr hm
  ·rw[e] at hm;exact .inl hm
 ·rcases (P9 hok').mp hu with h | h
  ·rcases h2 _ (p.mem_iff.mp h) with ⟨q1,q2⟩ | ⟨q1,q2⟩
   ·exact .inl ⟨q1,q2⟩
   ·exact .inr ⟨q1,q2.symm⟩
  ·rcases h2 _ (p.mem_iff.mp h) with ⟨q1,q2⟩ | ⟨q1,q2⟩
   ·exact .inr ⟨q1,q2.symm⟩
   ·exact .inl ⟨q1,q2⟩
def itp (par:Int->Int):Nat->Int->Int
 | 0,v=>v
 | i+1,v=>par (itp par i v)
def a9G (par:Int->Int)(v:Int)(k:Nat):List Int:=(cU (k+1)).map λi=>itp par i v
section
variable {n g one:Int}{us:⋯}{par:Int->Int}{rank:Int->Nat}
theorem S0.itp_in (R:S0 n us g par rank)(o0:0<=one)(o1:one<n):∀ k,(∀ i,i<k->itp par i one≠g)->0<=itp par k one/\itp par k one<n
 | 0,_=>⟨o0,o1⟩
 | k+1,h=>by
  obtain⟨q0,q1⟩:=S0.itp_in R o0 o1 k λi hi=>h i ∅
  have:=R.up _ q0 q1 (h k (gi _));exact⟨this.1,this.2.1⟩
theorem S0.itp_rank (R:S0 n us g par rank)(o0:0<=one)(o1:one<n){k:Nat}(h:∀ i,i<k->itp par i one≠g):∀ j i,i<j->j<=k->rank (itp par j one)<rank (itp par i one)
 | 0,i,hi,_=>absurd hi (fu _)
 | j+1,i,hi,hj=>by
  obtain⟨q0,q1⟩:=R.itp_in o0 o1 j λm hm=>h m ∅
  have h1:=(R.up _ q0 q1 (h j ∅)).2.2.1;rcases bS i j with h2 | h2
  ·exact dQ h1 (S0.itp_rank R o0 o1 h j i h2 ∅)
  ·have:i=j:=∅
   subst this;exact h1
theorem S0.reach (R:S0 n us g par rank)(o0:0<=one)(o1:one<n){k:Nat}(h:∀ i,i<k->itp par i one≠g):k<=rank one:=by
 have:∀ j,j<=k->rank (itp par j one)+j<=rank one:=by
  intro j;induction j with
  | zero=>intro _;exact aj _
  | succ j ih =>
   intro hj;have:=R.itp_rank o0 o1 h (j+1) j (gi _) hj;have:=ih ∅;omega
 have:=this k (aj _);omega
theorem S0.nd (R:S0 n us g par rank)(o0:0<=one)(o1:one<n){k:Nat}(h:∀ i,i<k->itp par i one≠g):(a9G par one k).Nodup:=by
 unfold a9G;refine ck.mpr ?_;refine dW ?_ (hG (n:=k+1));intro a b ha hb hab e;have:=R.itp_rank o0 o1 h b a hab (by have:=bK.mp hb;omega);rw[e] at this;omega
end
end L2
end
section
namespace L2
open PySem PySem.Spec PyProof.Rows
inductive Pl (H:Hp):V->String->Prop where
 | non:Pl H .non "NoneType"
 | bl (x:Bool):Pl H (.bl x) "bool"
 | int (i:Int):Pl H (.int i) "int"
 | str (x:Str):Pl H (.str x) "str"
 | lst {a:Addr} {xs:List V} (e:H a=some (.lst xs)):Pl H (.ref a) "list"
 | tup {a:Addr} {xs:List V} (e:H a=some (.tup xs)):Pl H (.ref a) "tuple"
 | dK {a:Addr} {kvs:List (Key×V)} (e:H a=some (.dK kvs)):Pl H (.ref a) "dict"
 | dT {a:Addr} {kvs:List (List Key×V)} (e:H a=some (.dT kvs)):Pl H (.ref a) "dict"
theorem Pl.ty {K:ae}{H:Hp}{x:V}{T:String}(p:Pl H x T):V5 K H x (.type T):=by
 cases p with
 | non=>exact .non
 | bl x=>exact .bl x
 | int i=>exact .int i
 | str x=>exact .str x
 | lst e=>exact .lst e
 | tup e=>exact .tup e
 | dK e=>exact .dK e
 | dT e=>exact .dT e
def a4D (T c:String):Bool:=T == c || (T == "bool" && c == "int")
theorem V6 {K:ae}{H:Hp}{x:V}{T:String}(p:Pl H x T){c:String}(hc:c="int"\/c="bool"\/c="tuple"):dH K (.type T) (.type c)=some (a4D T c):=by
 rcases hc with rfl | rfl | rfl<;>cases p<;>rfl
def isI:V->Bool
 | .int _=>true
 | _=>false
theorem b1f {H:Hp}{x:V}{T:String}(p:Pl H x T):(a4D T "int" && !a4D T "bool")=isI x:=by cases p<;>rfl
def Y9 (x:V)(lo hi:Int):Bool:=match x with
 | .int i=>decide (lo<=i) && decide (i<=hi)
 | _=>false
theorem a9B {x:V}{lo hi:Int}(h:isI x=false):Y9 x lo hi=false:=by cases x<;>first | rfl | cases h
theorem a9n {x:V}(h:isI x=true):∃ i,x=.int i:=by cases x<;>first | exact⟨_,rfl⟩ | cases h
def a5c:Sp:=λvs H Q _=>∃(x:V) (T:String),vs=[x]/\Pl H x T/\Q (.bl (isI x)) H
def a0P:Sp:=λvs H Q _=>∃(x:V) (T:String) (lo hi:Int),vs=[x,.int lo,.int hi]/\Pl H x T/\Q (.bl (Y9 x lo hi)) H
def L8 (H:Hp):V->Option (V×V)
 | .ref a=>match H a with
  | some (.tup [x,y])=>some (x,y)
  | _=>none
 | _=>none
theorem a4N {H:Hp}{a:Addr}{xs:List V}(e:H a=some (.tup xs)):(L8 H (.ref a)).isSome=decide (xs.length=2):=by
 unfold L8;dsimp only;rw[e]
 match xs with
 | []=>rfl
 | [_]=>rfl
 | [_,_]=>rfl
 | _::_::_::_=>simp
theorem a6r {H:Hp}{x:V}{T:String}(p:Pl H x T)(h:a4D T "tuple"=false):L8 H x=none:=by
 cases p with
 | tup e=>cases h
 | lst e=>unfold L8;dsimp only;rw[e]
 | dK e=>unfold L8;dsimp only;rw[e]
 | dT e=>unfold L8;dsimp only;rw[e]
 | _=>rfl
theorem W0 {H:Hp}{x y z:V}(h:L8 H x=some (y,z)):∃ a,x=.ref a/\H a=some (.tup [y,z]):=by
 unfold L8 at h;split at h
 ·rename_i a;split at h
  ·rename_i p q e;cases h;exact⟨a,rfl,e⟩
  ·cases h
 ·cases h
def a1t (H:Hp)(x:V)(n:Int):Bool:=match L8 H x with
 | some (y,z)=>Y9 y 0 (n-1) && (match y with | .int i=>Y9 z (i+1) (n-1) | _=>false)
 | none=>false
def a0O:Sp:=λvs H Q _=>∃(x:V) (T:String),vs=[x]/\Pl H x T/\Q (.bl (L8 H x).isSome) H
def a5b:Sp:=λvs H Q _=>∃(x:V) (T:String) (n:Int),vs=[x,.int n]/\Pl H x T/\(∀ y z,L8 H x=some (y,z)->(∃ T,Pl H y T)/\∃ T,Pl H z T)/\Q (.bl (a1t H x n)) H
end L2
end
section
namespace L2
open PySem PySem.Spec PyProof.Rows
def a9Q (H:Hp):Nat->V->V->Bool
 | m,.int i,.int j=>decide (i=j)
 | m+1,.ref a,.ref b=>match H a,H b with
  | some (.tup xs),some (.tup ys)=>decide (xs.length=ys.length) && (bF xs ys).all λp=>a9Q H m p.1 p.2
  | _,_=>false
 | _,_,_=>false
def PlD (H:Hp):Nat->V->Prop
 | 0,y=>∃ T,Pl H y T
 | m+1,y=>(∃ T,Pl H y T)/\∀ a ys,y=.ref a->H a=some (.tup ys)->∀ z∈ys,PlD H m z
theorem Pl.mono {H H':Hp}{y:V}{T:String}(s:B0 H H')(p:Pl H y T):Pl H' y T:=by
 cases p with
 | non=>exact .non
 | bl x=>exact .bl x
 | int i=>exact .int i
 | str x=>exact .str x
 | lst e=>exact .lst (s _ _ e)
 | tup e=>exact .tup (s _ _ e)
 | dK e=>exact .dK (s _ _ e)
 | dT e=>exact .dT (s _ _ e)
theorem Pl.back {H H':Hp}{a:Addr}{ys:List V}{T:String}(s:B0 H H')(p:Pl H (.ref a) T)(e:H' a=some (.tup ys)):H a=some (.tup ys):=by
 cases p with
 | lst e2=>have:=s _ _ e2;rw[e] at this;cases this
 | tup e2=>have:=s _ _ e2;rw[e] at this;cases this;exact e2
 | dK e2=>have:=s _ _ e2;rw[e] at this;cases this
 | dT e2=>have:=s _ _ e2;rw[e] at this;cases this
theorem PlD.pl {H:Hp}{m:Nat}{y:V}(h:PlD H m y):∃ T,Pl H y T:=by
 cases m with
 | zero=>exact h
 | succ m=>exact h.1
theorem PlD.mono {H H':Hp}(s:B0 H H'):∀ {m:Nat} {y:V},PlD H m y->PlD H' m y
 | 0,y,⟨T,p⟩=>⟨T,p.mono s⟩
 | m+1,y,⟨⟨T,p⟩,h⟩=>⟨⟨T,p.mono s⟩,λa ys e ea z hz=>by
  subst e
  exact PlD.mono s (h a ys rfl (p.back s ea) z hz)⟩
def a7O (H:Hp)(a b:Addr)(xs ys:List V)(m:Nat)(i:Nat)(σ:St)(Hc:Hp):Prop:=∃ c d:Option V,σ=[some (.ref a),some (.ref b),c,d]/\B0 H Hc/\((bF xs ys).take i).all (λp=>a9Q H m p.1 p.2)=true
end L2
end
section
namespace L2
open PySem PySem.Spec PyProof.Rows
section
variable {X:Cx}
structure Bt4 (mg:Str->Option Value):Prop where
 repr:mg "repr"=none
def a8o (K:ae):List V->Hp->VK->Prop:=λxs H Q=>∃(a:Addr) (d:PyData),xs=[.ref a]/\Dt K H (.ref a) d/\d.showable=true/\d.hasDict=false/\d.depth<=50/\d.shown.length<=sizeLine/\Q (.str d.shown) H
theorem a6p (hg:X.A.guards=some [])(hu:X.A.units+64<cLine):L0 X (.builtin "repr") (a8o X.K):=by
 intro pins s σ H xs us Q I r h;obtain⟨a,d,rfl,hd,hs,hn,hde,hz,q⟩:=h;obtain⟨u,rfl,rx⟩:=S5 r;cases rx;obtain⟨as,hr⟩:=I.reads hd rfl;exact PySem.repr_of_reads' hr hs (PyData.noDict_hsm hn) hg ∅ (λ_ _ e=>e) (λh' u tk hk=>⟨.str d.shown,H,I.kept (t':=tk) hk,⟨u,rfl⟩,q⟩) hz
theorem a1R (K:ae)(hg:X.A.guards=some [])(hu:X.A.units+64<cLine)(h:X.K=K:=by rfl):L0 X (.builtin "repr") (a8o K):=by subst h;exact a6p hg hu
end
end L2
end
section
namespace L2
open PySem PySem.Spec PyProof.Rows
structure L4 (k m:Nat)(d:PyData):Prop where
 sh:d.showable=true
 nd:d.hasDict=false
 dp:d.depth<=k
 lv:d.leavesShort 13=true
 bk:d.bulk<=m
structure S3 (k m:Nat)(ds:List PyData):Prop where
 sh:PyData.showableAll ds=true
 nd:PyData.hasDictAll ds=false
 dp:PyData.depthAll ds<=k
 lv:PyData.leavesShortAll 13 ds=true
 bk:PyData.bulkAll ds<=m
section
variable {k m c:Nat}{d:PyData}{ds:List PyData}
theorem S3.nil:S3 k m []:=⟨rfl,rfl,bI _,rfl,bI _⟩
theorem S3.cons {m':Nat}(h:L4 k m d)(t:S3 k m' ds):S3 k (m+1+m') (d::ds):=by
 refine⟨?_,?_,?_,?_,?_⟩
 ·rw[PyData.showableAll,h.sh,t.sh];rfl
 ·rw[PyData.hasDictAll,h.nd,t.nd];rfl
 ·rw[PyData.depthAll];exact Nat.max_le.mpr ⟨h.dp,t.dp⟩
 ·rw[PyData.leavesShortAll,h.lv,t.lv];rfl
 ·rw[PyData.bulkAll];have:=h.bk;have:=t.bk;omega
theorem L4.mono {k' m':Nat}(h:L4 k m d)(hk:k<=k')(hm:m<=m'):L4 k' m' d:=⟨h.sh,h.nd,ba h.dp hk,h.lv,ba h.bk hm⟩
theorem S3.all:∀ {ds:List PyData},(∀ d∈ds,L4 k m d)->S3 k (ds.length*(m+1)) ds
 | [],_=>.nil
 | d::r,h=>by
  have:=S3.cons (h d (aO ..)) (S3.all (ds:=r) λx hx=>h x (aL _ hx));rw[aH,ii,Nat.add_comm];exact this
theorem L4.tup (h:S3 k m ds):L4 (k+1) m (.tuple ds):=by
 refine⟨?_,?_,?_,?_,?_⟩
 ·rw[PyData.showable];exact h.sh
 ·rw[PyData.hasDict];exact h.nd
 ·rw[PyData.depth];have:=h.dp;omega
 ·rw[PyData.leavesShort];exact h.lv
 ·rw[PyData.bulk];exact h.bk
theorem L4.lst (h:S3 k m ds):L4 (k+1) m (.list ds):=by
 refine⟨?_,?_,?_,?_,?_⟩
 ·rw[PyData.showable];exact h.sh
 ·rw[PyData.hasDict];exact h.nd
 ·rw[PyData.depth];have:=h.dp;omega
 ·rw[PyData.leavesShort];exact h.lv
 ·rw[PyData.bulk];exact h.bk
theorem L4.int {i:Int}(h0:0<=i)(h:i<=100000):L4 k m (.int i):=by
 have h12:(10:Nat) ^ 12=1000000000000:=by decide
 have h17:(2:Nat) ^ 17=131072:=by decide
 have ha:i.natAbs<10 ^ 12:=∅
 refine⟨?_,rfl,bI _,?_,bI _⟩
 ·rw[PyData.showable,decide_eq_true_iff];rcases Nat.eq_zero_or_pos i.natAbs with h | h
  ·rw[h];decide
  ·have:i.natAbs.log2<17:=(gG ∅).mpr ∅;omega
 ·rw[PyData.leavesShort,decide_eq_true_iff];exact PyData.shown_int_le ha
theorem L4.ints {l:List Int}(h:∀ x∈l,0<=x/\x<=100000):S3 k l.length (l.map cB):=by
 have:=S3.all (k:=k) (m:=0) (ds:=l.map cB) λd hd=>by
  obtain⟨x,hx,rfl⟩:=aY.mp hd;exact L4.int (h x hx).1 (h x hx).2
 rw[aa,cT,Nat.mul_one] at this;exact this
theorem L4.tI {l:List Int}(h:∀ x∈l,0<=x/\x<=100000)(hl:l.length<=m):L4 (k+1) m (L2.tI l):=(L4.tup (L4.ints h)).mono (aj _) hl
theorem L4.tups {ls:List (List Int)}(h:∀ l∈ls,l.length<=c/\∀ x∈l,0<=x/\x<=100000):L4 (k+2) (ls.length*(c+1)) (.tuple (ls.map L2.tI)):=by
 have:=S3.all (k:=k+1) (m:=c) (ds:=ls.map L2.tI) λd hd=>by
  obtain⟨l,hl,rfl⟩:=aY.mp hd;exact L4.tI (h l hl).2 (h l hl).1
 rw[aa] at this;exact L4.tup this
theorem L4.ties {n:Int}{ts:⋯}(h:K2 n ts)(hn:n<=100000)(hl:ts.length<=300):L4 2 900 (.tuple ((ts.map tl).map L2.tI)):=by
 refine (L4.tups (k:=0) (c:=2) λl hl=>?_).mono (aj _) (by rw[aa];omega);obtain⟨t,ht,rfl⟩:=aY.mp hl;obtain⟨h0,h1,h2⟩:=h t ht;refine⟨aj _,λx hx=>?_⟩;simp only[tl,aW,cH,or_false] at hx;rcases hx with rfl | rfl<;>omega
def b0h (n:Int)(ts:⋯):PyData:=.tuple [.int n,.tuple ((ts.map tl).map L2.tI)]
theorem Q6.dt {K:ae}{H:Hp}{w:Addr}{n:Int}{ts:⋯}(h:Q6 H w n ts):Dt K H (.ref w) (b0h n ts):=by
 obtain⟨q,e,ht⟩:=h;exact .tup (SqT.of e) (.cons (.int n) (.cons ht.ls.dt .nil))
theorem U7.dt {K:ae}{H:Hp}{w:Addr}{ts:⋯}(h:U7 H w ts):Dt K H (.ref w) (.tuple ((ts.map tl).map L2.tI)):=h.ls.dt
theorem L4.web {n:Int}{ts:⋯}(h:K2 n ts)(h0:0<=n)(hn:n<=100000)(hl:ts.length<=300):L4 3 902 (b0h n ts) :=
 (L4.tup (.cons (.int (m:=0) h0 hn) (.cons (L4.ties h hn hl) (.nil (m:=0))))).mono (aj _) (by decide)
theorem L4.fits (hn:L4 50 1000000 d):d.shown.length<=sizeLine:=PyData.shown_fits_bulk (by decide) (by decide) hn.lv (ba hn.bk (by decide))
end
end L2
end
section
namespace L2
open PySem PySem.Spec PyProof.Rows
mutual
def noL:PyData->Bool
 | .list _=>false
 | .tuple xs=>b2C xs
 | .none=>true
 | .bool _=>true
 | .int _=>true
 | .str _=>true
 | .dict _=>true
def b2C:List PyData->Bool
 | []=>true
 | x::r=>noL x && b2C r
end
section
variable {X:Cx}{pins:List (Addr×Obj)}{σ:St}{H:Hp}{s:Shared}
structure Nx (k m:Nat)(d:PyData):Prop where
 mix:noL d=true\/d.hasDict=false
 sh:d.showable=true
 dp:d.depth<=k
 lv:d.leavesShort 100=true
 bk:d.bulk<=m
theorem Nx.fits {k m:Nat}{d:PyData}(h:Nx k m d)(hm:m<=100000):d.shown.length<=sizeLine:=by
 have h1:=PyData.shown_le_bulk 100 (by decide) d h.lv;have h2:=h.bk;rw[sizeLine_eq];omega
end
end L2
end
section
namespace L2
open PySem
def b0g (g:TG)(tc:TT)(te:TE)(p:Addr)(fr:St)(H1:Hp)(x:V)(c:Bool)(f:V)(N:Nat):Prop :=
 ∀(v:Option V) (ys:List V) (R:St->Hp->Prop),ys.length<=N->(c=true->∀ v',R (v'::fr) (upd (upd H1 p (.lst ys)) p (.lst (ys++[f]))))->(c=false->∀ v',R (v'::fr) (upd H1 p (.lst ys))) ->
  g x (v::fr) (upd H1 p (.lst ys)) fun τ2 H2=>tc τ2 H2 λb H3=>if b=true then te τ2 H3 λw H4=>∃ zs,H4 p=some (.lst zs)/\zs.length<sizeLine/\R τ2 (upd H4 p (.lst (zs++[w]))) else R τ2 H3
theorem a3d {α:Type}(c:α->Bool)(f:α->V)(l:List α):((l.filter c).map f).length<=l.length:=by rw[aa];exact cR _ _
theorem a0E {α:Type}(c:α->Bool)(f:α->V)(l:List α)(x:α):((l++[x]).filter c).map f=(l.filter c).map f++(if c x=true then [f x] else []):=by
 rw[cA,aE];congr 1;by_cases h:c x=true
 ·rw[gX h,if_pos h];rfl
 ·rw[gY h,if_neg h];rfl
theorem a3Y {α:Type}(l:List α):l.filter (λ_=>true)=l:=iA.mpr λ_ _=>rfl
section
variable {K:ae}{a p:Addr}{g:TG}{tc:TT}{te:TE}{fr:St}{H1:Hp}{EE:Hp->Prop}
theorem S7 {α:Type}{l:List α}{i:Nat}{x:α}(h:l[i]?=some x):l.take (i+1)=l.take i++[x]:=by rw[bD,h];rfl
theorem b2F {α:Type}{xs:List α}(V0:α->V)(c:α->Bool)(f:α->V)(hn:xs.length<=16000000)(hl:SqL K H1 a (xs.map V0))(hp:H1 p=none)(hs:∀ x∈xs,b0g g tc te p fr H1 (V0 x) (c x) (f x) xs.length)
  (hd:EE (upd H1 p (.lst ((xs.filter c).map f)))):lcW g tc te p (Itl K a) (none::fr) (upd H1 p (.lst [])) EE:=by
 refine N9 (xs:=xs.map V0) (λi τ H=>(∃ v,τ=v::fr)/\H=upd H1 p (.lst (((xs.take i).filter c).map f))) ⟨⟨_,rfl⟩,by simp⟩ ?_ ?_ ?_
 ·rintro i τ H _ ⟨_,rfl⟩;exact ((B0.refl H1).upd hp).seq hl
 ·rintro i x τ H hx ⟨⟨v,rfl⟩,rfl⟩ _;rw[aC] at hx;cases h0:xs[i]? with
  | none=>rw[h0] at hx;cases hx
  | some y =>
  rw[h0] at hx;cases aG hx;have hi:=(ap.mp h0).1;refine hs y (aB h0) v _ _ (ba (a3d c f _) (by rw[aN];omega)) (λh v'=>?_) λh v'=>?_
  ·refine⟨⟨_,rfl⟩,?_⟩;rw[a2o,S7 h0,a0E,if_pos h]
  ·refine⟨⟨_,rfl⟩,?_⟩;rw[S7 h0,a0E,if_neg (by rw[h];simp),b5]
 ·rintro τ H ⟨_,rfl⟩;rw[aa,aX];exact hd
theorem a5B {α:Type}{xs:List α}(V0:α->V)(c:α->Bool)(f:α->V)(hn:xs.length<=16000000)(hl:SqT K H1 a (xs.map V0))(hp:H1 p=none)(hs:∀ x∈xs,b0g g tc te p fr H1 (V0 x) (c x) (f x) xs.length)
  (hd:EE (upd H1 p (.lst ((xs.filter c).map f)))):lcW g tc te p (Itt K a) (none::fr) (upd H1 p (.lst [])) EE:=by
 refine a4B (xs:=xs.map V0) (λi τ H=>(∃ v,τ=v::fr)/\H=upd H1 p (.lst (((xs.take i).filter c).map f))) ⟨⟨_,rfl⟩,by simp⟩ ?_ ?_ ?_
 ·rintro i τ H _ ⟨_,rfl⟩;exact ((B0.refl H1).upd hp).seqT hl
 ·rintro i x τ H hx ⟨⟨v,rfl⟩,rfl⟩;rw[aC] at hx;cases h0:xs[i]? with
  | none=>rw[h0] at hx;cases hx
  | some y =>
  rw[h0] at hx;cases aG hx;have hi:=(ap.mp h0).1;refine hs y (aB h0) v _ _ (ba (a3d c f _) (by rw[aN];omega)) (λh v'=>?_) λh v'=>?_
  ·refine⟨⟨_,rfl⟩,?_⟩;rw[a2o,S7 h0,a0E,if_pos h]
  ·refine⟨⟨_,rfl⟩,?_⟩;rw[S7 h0,a0E,if_neg (by rw[h];simp),b5]
 ·rintro τ H ⟨_,rfl⟩;rw[aa,aX];exact hd
theorem b1P {fr:St}{H1:Hp}{p:Addr}{ys:List V}{w:V}{N:Nat}{R:St->Hp->Prop}{v:Option V}{b c:Bool}(e:b=c)(hl:ys.length<=N)(hN:N<=16000000)
  (h1:c=true->∀ v',R (v'::fr) (upd (upd H1 p (.lst ys)) p (.lst (ys++[w])))) (h2:c=false->∀ v',R (v'::fr) (upd H1 p (.lst ys))) :
  if b=true then ∃ zs,upd H1 p (.lst ys) p=some (.lst zs)/\zs.length<sizeLine/\R (v::fr) (upd (upd H1 p (.lst ys)) p (.lst (zs++[w]))) else R (v::fr) (upd H1 p (.lst ys)):=by
 subst e;by_cases hb:b=true
 ·rw[if_pos hb];exact⟨ys,A2,B5 ∅,h1 hb v⟩
 ·rw[if_neg hb];exact h2 (~~~hb) v
theorem a3c {fr:St}{H1:Hp}{p:Addr}{ys:List V}{w:V}{N:Nat}{R:St->Hp->Prop}{v:Option V}(hl:ys.length<=N)(hN:N<=16000000)(h1:true=true->∀ v',R (v'::fr) (upd (upd H1 p (.lst ys)) p (.lst (ys++[w])))) :
  ∃ zs,upd H1 p (.lst ys) p=some (.lst zs)/\zs.length<sizeLine/\R (v::fr) (upd (upd H1 p (.lst ys)) p (.lst (zs++[w]))):=⟨ys,A2,B5 ∅,h1 rfl v⟩
end
end L2
end
section
namespace HT
open PySem PyProof.Rows
section
variable {prog:Program}{w:World}{A:Around}{E:Value->Shared->Prop}{s:Shared}
theorem getItem_tuple_whole {t sl:Addr}{items:Array Value}{vl vu:Value}{lo hi:Option Int}{Q:Value->Shared->Prop}(ht:IsTup s.heap t items)(hs:s.heap.IsSliceOf sl vl vu .none)(pl:IsPart vl lo)(pu:IsPart vu hi)
  (hw:sIx items.size 0 lo=0/\sIx items.size items.size hi=items.size) (h:Q (.ref t) s):wpAny (model prog w) A (getItem (.ref t) (.ref sl)) Q E s:=by
 obtain⟨os,hos,hcs,hds⟩:=id hs;have hTs:s.TypeIs (.ref sl) "slice":=⟨os,hos,hcs⟩
 unfold getItem;try with_reducible refine bQ ?_
 first | refine af (au ?_) | skip
 refine af (i8 ht.typeIs (by decide) ?_)
 refine af (dN (name:=Str.ofString "__getitem__") ht.typeIs cq
  (cO cq ht.typeIs i6 ?_ (i7 _ _)))
 show wpAny _ _ (fz (.ref t) >>= _) _ _ s;refine af (tupleItemsOf_ ht ?_);refine af (eS hTs ?_);rw[if_pos (by decide)];refine af (sliceApplied_gen hs pl pu ?_);have hyes:(((sIx items.size 0 lo:Nat):Int) == 0 && (1:Int) == 1 && (sIx items.size items.size hi-sIx items.size 0 lo) == items.size)=true:=by
  rw[hw.1,hw.2];simp
 show wpAny _ _ (if (((sIx items.size 0 lo:Nat):Int) == 0 && (1:Int) == 1 && (sIx items.size items.size hi-sIx items.size 0 lo) == items.size)=true then _ else _) _ _ s;rw[if_pos hyes];refine af ?_;unfold Builtin.Tuple.tupleIsExact;refine af (eS ht.typeIs (au ?_));rw[if_pos (by decide)];refine af (wpAny_rule ?_);exact au ⟨_,rfl,au h⟩
end
end HT
namespace L2
open PySem PySem.Spec PyProof.Rows
theorem C9.zip {H:Hp}{p:Addr}{as:List Addr}{rows:List (List Int)}(h:C9 H p as rows):as.map V.ref=(as.zip rows).map (λx=>V.ref x.1)/\∀ x∈as.zip rows,H x.1=some (.lst (x.2.map V.int)):=by
 constructor
 ·have:as=(as.zip rows).map (·.1):=by rw[fU (by rw[h.len];exact aj _)]
  rw[show (as.zip rows).map (λx=>V.ref x.1)=((as.zip rows).map (·.1)).map V.ref by rw[bj];rfl,<- this]
 ·intro x hx;obtain⟨i,hi,e⟩:=dy hx;have h1:(as.zip rows)[i]?=some x:=by rw[aq hi,e]
  rw[di] at h1;exact h.row i _ _ h1.1 h1.2
end L2
end
section
namespace L2
open PySem PySem.Spec PyProof.Rows
section
variable {X:Cx}
def a6Y (K:ae):V->Option Int->Option Int->Hp->VK->Prop:=λx lo hi H Q=>∃ a xs,x=.ref a/\SqT K H a xs /\
 (HT.sIx xs.length 0 lo=0/\HT.sIx xs.length xs.length hi=xs.length->Q (.ref a) H)/\(¬ (HT.sIx xs.length 0 lo=0/\HT.sIx xs.length xs.length hi=xs.length)->∀ p,H p=none->Q (.ref p) (upd H p (.tup (V3 xs lo hi))))
theorem a8B:SlR X (a6Y X.K):=by
 intro pins s σ H x v vl vu lo hi sl Q I rx hs pl pu h;obtain⟨a,xs,rfl,hx,q1,q2⟩:=h;cases rx;obtain⟨its,r,ht,hz⟩:=I.tuple hx;have hlen:its.toArray.size=xs.length:=by rw[aA];exact r.length.symm
 refine⟨"tuple",_,PyProof.Rows.slot_tuple_getitem.lookup,ht.typeIs,?_⟩;by_cases hw:HT.sIx xs.length 0 lo=0/\HT.sIx xs.length xs.length hi=xs.length
 ·exact HT.getItem_tuple_whole ht hs pl pu (by rw[hlen];exact hw) ⟨.ref a,H,I,rfl,q1 hw⟩
 ·refine HT.getItem_tuple_cut ht hs pl pu (by rw[hlen];exact hw) ?_ (by rw[hlen];exact hz);rw[hlen];have hf:H s.heap.objs.size=none:=I.hok.fresh (aj _);refine⟨.ref s.heap.objs.size,_,I.laid (t':=s.toks) (o:=.tup (V3 xs lo hi)) (λb ob q=>ak _ q) (aj _) ?_,rfl,q2 hw _ hf⟩;exact⟨ba (a0v xs lo hi) hz,_,(r.drop (HT.sIx xs.length 0 lo)).take (HT.sIx xs.length xs.length hi-HT.sIx xs.length 0 lo),IsTup.new _ _⟩
theorem a6O (K:ae)(h:X.K=K:=by rfl):SlR X (a6Y K):=by subst h;exact a8B
end
end L2
end
section
namespace L2
open PySem PySem.Spec PyProof.Rows
section
variable {X:Cx}
def a2s (K:ae):R2:=λx y H Q=>∃ a b xs ys,x=.ref a/\y=.ref b/\SqT K H a xs/\SqT K H b ys/\xs.length+ys.length<=sizeLine /\
 (xs=[]->Q (.ref b) H)/\(xs≠[]->ys=[]->Q (.ref a) H)/\(xs≠[]->ys≠[]->∀ p,H p=none->Q (.ref p) (upd H p (.tup (xs++ys))))
theorem a7m:OpR X (binaryOp .Add) (a2s X.K):=by
 intro pins s σ H x y v u Q I rx ry h;obtain⟨a,b,xs,ys,rfl,rfl,ha,hb,hz,q1,q2,q3⟩:=h;cases rx;cases ry;obtain⟨its,r1,p1,_⟩:=I.tuple ha;obtain⟨its2,r2,p2,_⟩:=I.tuple hb;by_cases hx:xs=[]
 ·have hi:its=[]:=r1.nil_iff.mpr hx;subst hi;obtain⟨⟨cls,dd,data,sl⟩,ho,hc,n,hd⟩:=id p1;obtain⟨⟨cls2,dd2,data2,sl2⟩,ho2,hc2,n2,hd2⟩:=id p2;simp only at hc hd hc2 hd2;subst hc hd hc2 hd2;exact iT ⟨_,ho,rfl⟩ ⟨_,ho2,rfl⟩ noFill_tuple_add iE eQ eJ (er _ _)
   (tuple_addW0 _ _ _ _ _ _ _ _ _ _ (by simp)) ⟨ho,ho2,⟨.ref b,H,I,rfl,q1 hx⟩⟩
 ·refine HT.cat_tup p1 p2 (λz=>hx (r1.nil_iff.mp z)) (λz=>⟨.ref a,H,I,rfl,q2 hx (r2.nil_iff.mp z)⟩) (λz=>?_) (by rw[<- r1.length,<- r2.length];exact hz);refine⟨.ref s.heap.objs.size,_,I.laid (t':=s.toks) (o:=.tup (xs++ys)) (λb ob q=>ak _ q) (aj _) ?_,rfl,q3 hx (λw=>z (r2.nil_iff.mpr w)) _ (I.hok.fresh (aj _))⟩;exact⟨by rw[aD];exact hz,_,r1.append r2,IsTup.new _ _⟩
theorem b1D (K:ae)(h:X.K=K:=by rfl):OpR X (binaryOp .Add) (a2s K):=by subst h;exact a7m
end
end L2
end
section
namespace L2
open PySem PySem.Spec PyProof.Rows
structure Bt5 (mg:Str->Option Value):Prop where
 str:mg "str"=none
def a9U (K:ae):R2:=λx y H Q=>a2s K x y H Q
theorem b2Q {X:Cx}(K:ae)(h:X.K=K:=by rfl):OpR X (binaryOp .Add) (a9U K):=b1D K h
theorem a8j {K:ae}{H:Hp}{a b:Addr}{xs ys:List V}{Q:VK}(ha:H a=some (.tup xs))(hb:H b=some (.tup ys))(hz:xs.length+ys.length<=10000)(q:∀ p H',B0 H H'->H' p=some (.tup (xs++ys))->Q (.ref p) H'):a9U K (.ref a) (.ref b) H Q:=by
 refine⟨a,b,xs,ys,rfl,rfl,SqT.of ha,SqT.of hb,dB (B5 ∅),λe=>?_,λ_ e=>?_,λ_ _ p np=>q p _ ((B0.refl H).upd np) A2⟩
 ·subst e;exact q b H (B0.refl H) hb
 ·subst e;exact q a H (B0.refl H) (by rw[b5];exact ha)
def b2r (K:ae):V->Option Int->Option Int->Hp->VK->Prop:=λx lo hi H Q=>a6Y K x lo hi H Q
theorem b3k {X:Cx}(K:ae)(h:X.K=K:=by rfl):SlR X (b2r K):=a6O K h
theorem a8D {K:ae}{H:Hp}{a:Addr}{xs:List V}{lo hi:Option Int}{Q:VK}(ha:H a=some (.tup xs))(q:∀ p H',B0 H H'->H' p=some (.tup (V3 xs lo hi))->Q (.ref p) H'):b2r K (.ref a) lo hi H Q:=by
 refine⟨a,xs,rfl,SqT.of ha,λe=>q a H (B0.refl H) ?_,λ_ p np=>q p _ ((B0.refl H).upd np) A2⟩;have:V3 xs lo hi=xs:=by
  unfold V3;rw[e.1,e.2,eF,Nat.sub_zero,aX]
 rw[this];exact ha
end L2
end
section
namespace L2
open PySem
section
variable {n:Int}{ts us:⋯}
theorem S4.web (T:S4 n ts us)(hw:P2 n ts):P2 n us:=by
 have hok:=T.ok hw.rng;have hl:=T.len;have h60:=hw.n60;have h3:=hw.n3;refine⟨h3,h60,hok,T.srt,∅,λS hS u v u0 u1 v0 v1 hu=>?_⟩;obtain⟨par,rank,R⟩:=T.rooted hw.rng u0 u1;have key:∀(m:Nat) (x:Int),rank x<=m->0<=x->x<n->S x:=by
  intro m;induction m with
  | zero =>
   intro x hx x0 x1;by_cases hxu:x=u
   ·rw[hxu];exact hu
   ·have:=(R.up x x0 x1 hxu).2.2.1;omega
  | succ m ih =>
   intro x hx x0 x1;by_cases hxu:x=u
   ·rw[hxu];exact hu
   ·obtain⟨q0,q1,q2,q3⟩:=R.up x x0 x1 hxu;have hp:=ih (par x) ∅ q0 q1;rcases (P9 hok).mp q3 with h | h
    ·exact (hS _ h).mpr hp
    ·exact (hS _ h).mp hp
 exact key (rank v) v (aj _) v0 v1
theorem P2.reach (hw:P2 n us){u x:Int}(u0:0<=u)(u1:u<n)(x0:0<=x)(x1:x<n):Rch us (·∈B6 0 n.toNat) u x:=by
 refine hw.conn (λy=>Rch us (·∈B6 0 n.toNat) u y) (λt ht=>?_) u x u0 u1 x0 x1 .base;obtain⟨h0,h1,h2⟩:=hw.rng t ht;have e:t.2∈nb us t.1:=X3.mpr (.inl ht);exact⟨λh=>h.step e (E9.mpr ⟨∅,∅⟩),λh=>h.step ((a2F hw.rng).mp e) (E9.mpr ⟨∅,∅⟩)⟩
theorem P2.onelot (hw:P2 n us):Q7 n us (B6 0 n.toNat) (B6 0 n.toNat)=[B6 0 n.toNat]:=by
 have h3:=hw.n3;have hpc:∀ u,0<=u->u<n->Q2 n us (B6 0 n.toNat) u=B6 0 n.toNat:=λu u0 u1=>by
  refine a0X a5t (Y5 _) λx=>?_
  rw[a0b hw.rng u0 u1,E9];constructor
  ·intro h;have:=h.rng hw.rng u0 u1;omega
  ·intro h;exact hw.reach u0 u1 h.1 ∅
 have gen:∀ vs:List Int,(∀ v∈vs,0<=v/\v<n)->vs.foldl (C7 (Q2 n us (B6 0 n.toNat))) [B6 0 n.toNat]=[B6 0 n.toNat]:=by
  intro vs;induction vs with
  | nil=>intro _;rfl
  | cons v r ih =>
   intro h;obtain⟨v0,v1⟩:=h v (aO ..);rw[cS];have:C7 (Q2 n us (B6 0 n.toNat)) [B6 0 n.toNat] v=[B6 0 n.toNat]:=by
    unfold C7;rw[if_pos ((a0F _ _).mpr ⟨_,ag.mpr rfl,E9.mpr ⟨v0,∅⟩⟩)]
   rw[this];exact ih λx hx=>h x (aL _ hx)
 obtain⟨m,hm⟩:∃ m,n.toNat=m+1:=⟨n.toNat-1,∅⟩
 have hcons:B6 0 n.toNat=0::(B6 0 n.toNat).tail:=by
  rw[hm];unfold B6;rw[List.range_succ_eq_map];rfl
 unfold Q7;rw[show (B6 0 n.toNat).foldl (C7 (Q2 n us (B6 0 n.toNat))) []=(0::(B6 0 n.toNat).tail).foldl (C7 (Q2 n us (B6 0 n.toNat))) [] by rw[<- hcons],cS];have h0:C7 (Q2 n us (B6 0 n.toNat)) [] 0=[B6 0 n.toNat]:=by
  unfold C7;rw[if_neg (by simp),hpc 0 (by decide) ∅];rfl
 rw[h0];refine gen _ λv hv=>?_
 have:v∈B6 0 n.toNat:=List.mem_of_mem_tail hv;have:=E9.mp this;omega
end
end L2
end
section
namespace L2
open PySem
def dV:V->PyData
 | .int i=>.int i
 | _=>.none
end L2
end
section
namespace L2
open PySem PySem.Spec PyProof.Rows
def b3E (g:TG)(tb:TS)(D:T5)(σ:St)(J:It)(H1:Hp):Prop:=b0u (λ_ H R=>R J H) g tb D σ H1
theorem X9 {wi:TI}{g:TG}{tb:TS}{D:T5}{σ:St}{H:Hp}:b0u wi g tb D σ H=wi σ H (λJ H1=>b3E g tb D σ J H1):=rfl
end L2
end
section
namespace L2
open PySem
section
variable {n:Int}{ts:⋯}{A B:Int->Prop}{u v x:Int}
theorem Rch.tr (h:Rch ts A u v)(k:Rch ts A v x):Rch ts A u x:=by
 induction k with
 | base=>exact h
 | step _ hy ha ih=>exact .step ih hy ha
theorem Rch.sy (hok:K2 n ts)(h:Rch ts A u x)(ha:A u):Rch ts A x u:=by
 induction h with
 | base=>exact .base
 | @step y z k hz az ih =>
  have ay:A y:=k.mem ha;exact Rch.tr (.step .base ((a2F hok).mp hz) ay) ih
end
def Hng (ts:⋯)(us:List Int):Prop:=us≠[]/\∀ x∈us,∀ y∈us,Rch ts (·∈us) x y
theorem a7V {n:Int}{ts:⋯}{us:List Int}{u:Int}(hok:K2 n ts)(hu:u∈us)(h:∀ y∈us,Rch ts (·∈us) u y):Hng ts us :=
 ⟨λe=>(by rw[e] at hu;cases hu),λx hx y hy=>((h x hx).sy hok hu).tr (h y hy)⟩
end L2
end
section
namespace L2
open PySem
structure TB where
 vs:List Int
 ws:List Int
 par:Int->Int
end L2
end
section
namespace L2
open PySem
section
variable {n:Int}{ts T T' T'':⋯}{put taken:Int×Int}
theorem a3X (hok:K2 n T)(h:Hng T (B6 0 n.toNat)):∀ S:Int->Prop,(∀ t∈T,S t.1↔S t.2)->∀ u v,0<=u->u<n->0<=v->v<n->S u->S v:=by
 intro S hS u v u0 u1 v0 v1 su;have r:=h.2 u (E9.mpr ⟨u0,∅⟩) v (E9.mpr ⟨v0,∅⟩);induction r with
 | base=>exact su
 | @step y x r hx _ ih =>
  have hy:=r.rng hok u0 u1;have sy:=ih hy.1 hy.2;rcases (P9 hok).mp hx with h | h
  ·exact (hS _ h).mp sy
  ·exact (hS _ h).mpr sy
theorem a9d (hok:K2 n ts)(hs:∀ t∈T,t∈ts){a b:Int}(h:b∈nb T a):b∈nb ts a:=by
 have hT:K2 n T:=λt ht=>hok t (hs t ht)
 rw[P9 hok];exact ((P9 hT).mp h).imp (hs _) (hs _)
theorem Q0.mono {ins:List Int}{gs:⋯}(g:Q0 T ins gs)(hok:K2 n ts)(hs:∀ t∈T,t∈ts):Q0 ts ins gs:=by
 induction g with
 | one s=>exact .one s
 | add _ ha hb hn ih=>exact .add ih ha hb (a9d hok hs hn)
end
end L2
end
section
namespace L2
open PySem
section
variable {n:Int}{ts:⋯}{us bs:List Int}
theorem a7E (hok:K2 n ts)(hr:∀ x∈us,0<=x/\x<n)(vs:List Int)(hv:∀ v∈vs,v∈us):∀ v∈vs,Q5 (Q7 n ts us vs) v:=by
 have gen:∀(vs:List Int) (acc:List (List Int)),(∀ v∈vs,v∈us)->(∀ x,Q5 acc x->Q5 (vs.foldl (C7 (Q2 n ts us)) acc) x)/\∀ v∈vs,Q5 (vs.foldl (C7 (Q2 n ts us)) acc) v:=by
  intro vs;induction vs with
  | nil=>intro acc _;exact⟨λx h=>h,λv h=>by cases h⟩
  | cons v r ih =>
   intro acc hv;obtain⟨h1,h2⟩:=ih (C7 (Q2 n ts us) acc v) λw hw=>hv w (aL _ hw)
   have hvu:=hv v (aO ..);have key:(∀ x,Q5 acc x->Q5 (C7 (Q2 n ts us) acc v) x)/\Q5 (C7 (Q2 n ts us) acc v) v:=by
    unfold C7;by_cases hc:(acc.any λl=>decide (v∈l))=true
    ·rw[if_pos hc];exact⟨λx h=>h,(a0F _ _).mp hc⟩
    ·rw[if_neg hc];exact⟨λx h=>(X5 _ _).mpr (.inl h),(X5 _ _).mpr (.inr ((a0b hok (hr v hvu).1 (hr v hvu).2).mpr .base))⟩
   refine⟨λx h=>h1 x (key.1 x h),λw hw=>?_⟩;rcases aW.mp hw with rfl | hw
   ·exact h1 _ key.2
   ·exact h2 w hw
 exact (gen vs [] hv).2
end
end L2
end
section
namespace L2
open PySem PySem.Spec PyProof.Rows
section
variable {H:Hp}{n:Int}
theorem a3f {x:V}:a1t H x n=true↔∃ a t,x=.ref a/\H a=some (.tup [.int (Prod.fst t),.int (Prod.snd t)])/\0<=Prod.fst t/\Prod.fst t<Prod.snd t/\Prod.snd t<n:=by
 unfold a1t;constructor
 ·intro h;cases hp:L8 H x with
  | none=>rw[hp] at h;cases h
  | some yz =>
   obtain⟨y,z⟩:=yz;rw[hp] at h;obtain⟨a,rfl,ea⟩:=W0 hp;dsimp only at h;rw[bU] at h;cases y with
   | int i =>
    cases z with
    | int j =>
     have h1:=h.1;have h2:=h.2;unfold Y9 at h1 h2;simp at h1 h2;exact⟨a,(i,j),rfl,ea,∅,by show i<j;omega,by show j<n;omega⟩
    | _=>exact absurd h.2 (by simp[Y9])
   | _=>exact absurd h.1 (by simp[Y9])
 ·rintro⟨a,t,rfl,ea,h0,h1,h2⟩;have hap:L8 H (.ref a)=some (.int t.1,.int t.2):=by unfold L8;dsimp only;rw[ea]
  rw[hap];simp[Y9];omega
theorem a4T:∀ {xs:List V},(∀ x∈xs,a1t H x n=true)->∃(ps:List (Addr×List Int)) (us:⋯),xs=ps.map (λx=>V.ref x.1)/\N4 H ps us/\K2 n us
 | [],_=>⟨[],[],rfl,⟨(λx hx=>nomatch hx),rfl⟩,(λt ht=>nomatch ht)⟩
 | x::r,h=>by
  obtain⟨ps,us,e,hp,hu⟩:=a4T (xs:=r) λy hy=>h y (aL _ hy)
  obtain⟨a,t,rfl,ea,h0,h1,h2⟩:=a3f.mp (h x (aO ..));refine⟨(a,tl t)::ps,t::us,by rw[e];rfl,⟨λy hy=>?_,by rw[ao,ao,hp.eq]⟩,λu hu'=>?_⟩
  ·rcases aW.mp hy with rfl | hy
   ·exact ea
   ·exact hp.to y hy
  ·rcases aW.mp hu' with rfl | hu'
   ·exact⟨h0,h1,h2⟩
   ·exact hu u hu'
theorem a8x {ps:List (Addr×List Int)}{us:⋯}(hp:N4 H ps us)(hu:K2 n us):∀ x∈ps.map (λx=>V.ref x.1),a1t H x n=true:=by
 intro x hx;obtain⟨i,hi⟩:=List.getElem?_of_mem hx;obtain⟨b,t,rfl,hti,hb⟩:=hp.get hi;exact a3f.mpr ⟨b,t,rfl,hb,hu t (aB hti)⟩
def a4i (H:Hp)(n:Int)(x:V)(us:⋯):Prop:=∃ a,x=.ref a/\U7 H a us/\K2 n us/\us.Pairwise Lex
theorem N4.inj {ps ps':List (Addr×List Int)}{us us':⋯}(h:N4 H ps us)(h':N4 H ps' us')(e:ps.map (λx=>V.ref x.1)=ps'.map λx=>V.ref x.1):us=us':=by
 have hl:us.length=us'.length:=by
  have:=congrArg cE e;rw[aa,aa,h.len,h'.len] at this;exact this
 refine cX λi=>?_
 rcases bS i us.length with hi | hi
 ·obtain⟨v,h1⟩:∃ v,(ps.map λx=>V.ref x.1)[i]?=some v:=⟨_,aq (by rw[aa,h.len];exact hi)⟩
  obtain⟨b,t,e1,e2,e3⟩:=h.get h1;rw[e] at h1;obtain⟨b',t',e1',e2',e3'⟩:=h'.get h1;rw[e1] at e1';cases e1';rw[e3] at e3';injection e3' with e4
  injection e4 with e5
  have e6:=dr e5;have e7:=dr e6.2;have:t=t':=Prod.ext (V.int.inj e6.1) (V.int.inj e7.1);rw[e2,e2',this]
 ·rw[cg hi,cg ∅]
theorem U7.inj {a:Addr}{us us':⋯}(h:U7 H a us)(h':U7 H a us'):us=us':=by
 obtain⟨ps,e,hp⟩:=h;obtain⟨ps',e',hp'⟩:=h';rw[e] at e';injection e' with e2
 injection e2 with e3
 exact hp.inj hp' e3
theorem a8Q {us:⋯}(h3:3<=n)(h60:n<=60)(hok:K2 n us)(hsr:us.Pairwise Lex)(hl:us.length<=200):(Q7 n us (B6 0 n.toNat) (B6 0 n.toNat)).length=1↔Hng us (B6 0 n.toNat):=by
 have hr:∀ x∈B6 0 n.toNat,0<=x/\x<n:=λx hx=>by have:=E9.mp hx;omega
 constructor
 ·intro h;obtain⟨l,e⟩:∃ l,Q7 n us (B6 0 n.toNat) (B6 0 n.toNat)=[l]:=List.length_eq_one_iff.mp h;obtain⟨v,hv,ev⟩:=a3S (n:=n) (ts:=us) (us:=B6 0 n.toNat) (B6 0 n.toNat) l (by rw[e];simp);refine a7V hok hv λy hy=>?_
  have hin:=a7E hok hr (B6 0 n.toNat) (λv h=>h) y hy;rw[e] at hin;have hyl:y∈l:=by
   obtain⟨m,hm,hy⟩:=hin;rw[ag.mp hm] at hy;exact hy
  rw[ev] at hyl;exact (a0b hok (hr v hv).1 (hr v hv).2).mp hyl
 ·intro h;have w:P2 n us:=⟨h3,h60,hok,hsr,hl,a3X hok h⟩
  rw[w.onelot];rfl
end
end L2
end
section
namespace L2
theorem tV0 {v:V}{σ:St}{H:Hp}{Q:VK}:T7 0 (some v::σ) H Q=Q v H:=propext ⟨λ⟨_,e,q⟩=>by cases e;exact q,λq=>⟨_,rfl,q⟩⟩
theorem gN0 {v:V}{σ:St}{H:Hp}{Q:St->Hp->Prop}{b:Option V}:M6 0 v (b::σ) H Q=Q (some v::σ) H:=rfl
theorem tV1 {v:V}{σ:St}{H:Hp}{Q:VK}{a0:Option V}:T7 1 (a0::some v::σ) H Q=Q v H:=propext ⟨λ⟨_,e,q⟩=>by cases e;exact q,λq=>⟨_,rfl,q⟩⟩
theorem gN1 {v:V}{σ:St}{H:Hp}{Q:St->Hp->Prop}{b:Option V}{a0:Option V}:M6 1 v (a0::b::σ) H Q=Q (a0::some v::σ) H:=rfl
theorem tV2 {v:V}{σ:St}{H:Hp}{Q:VK}{a0 a1:Option V}:T7 2 (a0::a1::some v::σ) H Q=Q v H:=propext ⟨λ⟨_,e,q⟩=>by cases e;exact q,λq=>⟨_,rfl,q⟩⟩
theorem gN2 {v:V}{σ:St}{H:Hp}{Q:St->Hp->Prop}{b:Option V}{a0 a1:Option V}:M6 2 v (a0::a1::b::σ) H Q=Q (a0::a1::some v::σ) H:=rfl
theorem tV3 {v:V}{σ:St}{H:Hp}{Q:VK}{a0 a1 a2:Option V}:T7 3 (a0::a1::a2::some v::σ) H Q=Q v H:=propext ⟨λ⟨_,e,q⟩=>by cases e;exact q,λq=>⟨_,rfl,q⟩⟩
theorem gN3 {v:V}{σ:St}{H:Hp}{Q:St->Hp->Prop}{b:Option V}{a0 a1 a2:Option V}:M6 3 v (a0::a1::a2::b::σ) H Q=Q (a0::a1::a2::some v::σ) H:=rfl
theorem tV4 {v:V}{σ:St}{H:Hp}{Q:VK}{a0 a1 a2 a3:Option V}:T7 4 (a0::a1::a2::a3::some v::σ) H Q=Q v H:=propext ⟨λ⟨_,e,q⟩=>by cases e;exact q,λq=>⟨_,rfl,q⟩⟩
theorem gN4 {v:V}{σ:St}{H:Hp}{Q:St->Hp->Prop}{b:Option V}{a0 a1 a2 a3:Option V}:M6 4 v (a0::a1::a2::a3::b::σ) H Q=Q (a0::a1::a2::a3::some v::σ) H:=rfl
theorem tV5 {v:V}{σ:St}{H:Hp}{Q:VK}{a0 a1 a2 a3 a4:Option V}:T7 5 (a0::a1::a2::a3::a4::some v::σ) H Q=Q v H:=propext ⟨λ⟨_,e,q⟩=>by cases e;exact q,λq=>⟨_,rfl,q⟩⟩
theorem gN5 {v:V}{σ:St}{H:Hp}{Q:St->Hp->Prop}{b:Option V}{a0 a1 a2 a3 a4:Option V}:M6 5 v (a0::a1::a2::a3::a4::b::σ) H Q=Q (a0::a1::a2::a3::a4::some v::σ) H:=rfl
theorem tV6 {v:V}{σ:St}{H:Hp}{Q:VK}{a0 a1 a2 a3 a4 a5:Option V}:T7 6 (a0::a1::a2::a3::a4::a5::some v::σ) H Q=Q v H:=propext ⟨λ⟨_,e,q⟩=>by cases e;exact q,λq=>⟨_,rfl,q⟩⟩
theorem gN6 {v:V}{σ:St}{H:Hp}{Q:St->Hp->Prop}{b:Option V}{a0 a1 a2 a3 a4 a5:Option V}:M6 6 v (a0::a1::a2::a3::a4::a5::b::σ) H Q=Q (a0::a1::a2::a3::a4::a5::some v::σ) H:=rfl
theorem tV7 {v:V}{σ:St}{H:Hp}{Q:VK}{a0 a1 a2 a3 a4 a5 a6:Option V}:T7 7 (a0::a1::a2::a3::a4::a5::a6::some v::σ) H Q=Q v H:=propext ⟨λ⟨_,e,q⟩=>by cases e;exact q,λq=>⟨_,rfl,q⟩⟩
theorem gN7 {v:V}{σ:St}{H:Hp}{Q:St->Hp->Prop}{b:Option V}{a0 a1 a2 a3 a4 a5 a6:Option V}:M6 7 v (a0::a1::a2::a3::a4::a5::a6::b::σ) H Q=Q (a0::a1::a2::a3::a4::a5::a6::some v::σ) H:=rfl
theorem tV8 {v:V}{σ:St}{H:Hp}{Q:VK}{a0 a1 a2 a3 a4 a5 a6 a7:Option V}:T7 8 (a0::a1::a2::a3::a4::a5::a6::a7::some v::σ) H Q=Q v H:=propext ⟨λ⟨_,e,q⟩=>by cases e;exact q,λq=>⟨_,rfl,q⟩⟩
theorem gN8 {v:V}{σ:St}{H:Hp}{Q:St->Hp->Prop}{b:Option V}{a0 a1 a2 a3 a4 a5 a6 a7:Option V}:M6 8 v (a0::a1::a2::a3::a4::a5::a6::a7::b::σ) H Q=Q (a0::a1::a2::a3::a4::a5::a6::a7::some v::σ) H:=rfl
theorem tV9 {v:V}{σ:St}{H:Hp}{Q:VK}{a0 a1 a2 a3 a4 a5 a6 a7 a8:Option V}:T7 9 (a0::a1::a2::a3::a4::a5::a6::a7::a8::some v::σ) H Q=Q v H:=propext ⟨λ⟨_,e,q⟩=>by cases e;exact q,λq=>⟨_,rfl,q⟩⟩
theorem gN9 {v:V}{σ:St}{H:Hp}{Q:St->Hp->Prop}{b:Option V}{a0 a1 a2 a3 a4 a5 a6 a7 a8:Option V}:M6 9 v (a0::a1::a2::a3::a4::a5::a6::a7::a8::b::σ) H Q=Q (a0::a1::a2::a3::a4::a5::a6::a7::a8::some v::σ) H:=rfl
theorem b3a {v:V}{σ:St}{H:Hp}{Q:VK}{a0 a1 a2 a3 a4 a5 a6 a7 a8 a9:Option V}:T7 10 (a0::a1::a2::a3::a4::a5::a6::a7::a8::a9::some v::σ) H Q=Q v H:=propext ⟨λ⟨_,e,q⟩=>by cases e;exact q,λq=>⟨_,rfl,q⟩⟩
theorem b3z {v:V}{σ:St}{H:Hp}{Q:St->Hp->Prop}{b:Option V}{a0 a1 a2 a3 a4 a5 a6 a7 a8 a9:Option V}:M6 10 v (a0::a1::a2::a3::a4::a5::a6::a7::a8::a9::b::σ) H Q=Q (a0::a1::a2::a3::a4::a5::a6::a7::a8::a9::some v::σ) H:=rfl
theorem b2Z {v:V}{σ:St}{H:Hp}{Q:VK}{a0 a1 a2 a3 a4 a5 a6 a7 a8 a9 a10:Option V}:T7 11 (a0::a1::a2::a3::a4::a5::a6::a7::a8::a9::a10::some v::σ) H Q=Q v H:=propext ⟨λ⟨_,e,q⟩=>by cases e;exact q,λq=>⟨_,rfl,q⟩⟩
theorem b3y {v:V}{σ:St}{H:Hp}{Q:St->Hp->Prop}{b:Option V}{a0 a1 a2 a3 a4 a5 a6 a7 a8 a9 a10:Option V}:M6 11 v (a0::a1::a2::a3::a4::a5::a6::a7::a8::a9::a10::b::σ) H Q=Q (a0::a1::a2::a3::a4::a5::a6::a7::a8::a9::a10::some v::σ) H:=rfl
theorem b2Y {v:V}{σ:St}{H:Hp}{Q:VK}{a0 a1 a2 a3 a4 a5 a6 a7 a8 a9 a10 a11:Option V}:T7 12 (a0::a1::a2::a3::a4::a5::a6::a7::a8::a9::a10::a11::some v::σ) H Q=Q v H:=propext ⟨λ⟨_,e,q⟩=>by cases e;exact q,λq=>⟨_,rfl,q⟩⟩
theorem b3x {v:V}{σ:St}{H:Hp}{Q:St->Hp->Prop}{b:Option V}{a0 a1 a2 a3 a4 a5 a6 a7 a8 a9 a10 a11:Option V}:M6 12 v (a0::a1::a2::a3::a4::a5::a6::a7::a8::a9::a10::a11::b::σ) H Q=Q (a0::a1::a2::a3::a4::a5::a6::a7::a8::a9::a10::a11::some v::σ) H:=rfl
theorem b2X {v:V}{σ:St}{H:Hp}{Q:VK}{a0 a1 a2 a3 a4 a5 a6 a7 a8 a9 a10 a11 a12:Option V}:T7 13 (a0::a1::a2::a3::a4::a5::a6::a7::a8::a9::a10::a11::a12::some v::σ) H Q=Q v H:=propext ⟨λ⟨_,e,q⟩=>by cases e;exact q,λq=>⟨_,rfl,q⟩⟩
theorem b3w {v:V}{σ:St}{H:Hp}{Q:St->Hp->Prop}{b:Option V}{a0 a1 a2 a3 a4 a5 a6 a7 a8 a9 a10 a11 a12:Option V}:M6 13 v (a0::a1::a2::a3::a4::a5::a6::a7::a8::a9::a10::a11::a12::b::σ) H Q=Q (a0::a1::a2::a3::a4::a5::a6::a7::a8::a9::a10::a11::a12::some v::σ) H:=rfl
theorem b2W {v:V}{σ:St}{H:Hp}{Q:VK}{a0 a1 a2 a3 a4 a5 a6 a7 a8 a9 a10 a11 a12 a13:Option V}:T7 14 (a0::a1::a2::a3::a4::a5::a6::a7::a8::a9::a10::a11::a12::a13::some v::σ) H Q=Q v H:=propext ⟨λ⟨_,e,q⟩=>by cases e;exact q,λq=>⟨_,rfl,q⟩⟩
theorem b3v {v:V}{σ:St}{H:Hp}{Q:St->Hp->Prop}{b:Option V}{a0 a1 a2 a3 a4 a5 a6 a7 a8 a9 a10 a11 a12 a13:Option V}:M6 14 v (a0::a1::a2::a3::a4::a5::a6::a7::a8::a9::a10::a11::a12::a13::b::σ) H Q=Q (a0::a1::a2::a3::a4::a5::a6::a7::a8::a9::a10::a11::a12::a13::some v::σ) H:=rfl
theorem b2V {v:V}{σ:St}{H:Hp}{Q:VK}{a0 a1 a2 a3 a4 a5 a6 a7 a8 a9 a10 a11 a12 a13 a14:Option V}:T7 15 (a0::a1::a2::a3::a4::a5::a6::a7::a8::a9::a10::a11::a12::a13::a14::some v::σ) H Q=Q v H:=propext ⟨λ⟨_,e,q⟩=>by cases e;exact q,λq=>⟨_,rfl,q⟩⟩
theorem b3u {v:V}{σ:St}{H:Hp}{Q:St->Hp->Prop}{b:Option V}{a0 a1 a2 a3 a4 a5 a6 a7 a8 a9 a10 a11 a12 a13 a14:Option V}:M6 15 v (a0::a1::a2::a3::a4::a5::a6::a7::a8::a9::a10::a11::a12::a13::a14::b::σ) H Q=Q (a0::a1::a2::a3::a4::a5::a6::a7::a8::a9::a10::a11::a12::a13::a14::some v::σ) H:=rfl
theorem b3n {g:Int->Int->V}{i j:Int}{H:Hp}{Q:VK}:rI0 g (.int i) (.int j) H Q=Q (g i j) H:=propext ⟨λ⟨_,_,e,e',q⟩=>by cases e;cases e';exact q,λq=>⟨_,_,rfl,rfl,q⟩⟩
theorem rIi {C:Int->Int->Prop}{g:Int->Int->V}{i j:Int}{H:Hp}{Q:VK}:rI C g (.int i) (.int j) H Q=(C i j/\Q (g i j) H):=propext ⟨λ⟨_,_,e,e',q⟩=>by cases e;cases e';exact q,λq=>⟨_,_,rfl,rfl,q⟩⟩
theorem b2v {K:ae}{p:fJ}{i:Int}{H:Hp}{Q:VK}:a8I K (.ref p) (.int i) H Q=∃ xs,SqL K H p xs/\∃ v,atI xs i=some v/\Q v H:=propext ⟨λ⟨_,_,_,_,e,e',a,b,q⟩=>by cases e;cases e';exact⟨_,a,_,b,q⟩,λ⟨_,a,_,b,q⟩=>⟨_,_,_,_,rfl,rfl,a,b,q⟩⟩
theorem b2u {K:ae}{p:fJ}{i:Int}{H:Hp}{Q:VK}:a8H K (.ref p) (.int i) H Q=∃ xs,SqT K H p xs/\∃ v,atI xs i=some v/\Q v H:=propext ⟨λ⟨_,_,_,_,e,e',a,b,q⟩=>by cases e;cases e';exact⟨_,a,_,b,q⟩,λ⟨_,a,_,b,q⟩=>⟨_,_,_,_,rfl,rfl,a,b,q⟩⟩
theorem exB {b:Bool}{P:Bool->Prop}:(∃ k,V.bl b=V.bl k/\P k)=P b:=propext ⟨λ⟨_,e,q⟩=>by cases e;exact q,λq=>⟨_,rfl,q⟩⟩
theorem exI {b:Int}{P:Int->Prop}:(∃ k,V.int b=V.int k/\P k)=P b:=propext ⟨λ⟨_,e,q⟩=>by cases e;exact q,λq=>⟨_,rfl,q⟩⟩
theorem exR {b:fJ}{P:fJ->Prop}:(∃ k,V.ref b=V.ref k/\P k)=P b:=propext ⟨λ⟨_,e,q⟩=>by cases e;exact q,λq=>⟨_,rfl,q⟩⟩
theorem b3o {i j:Int}{H:Hp}{Q:VK}:rEq (.int i) (.int j) H Q=Q (.bl (decide (i=j))) H:=by
 unfold rEq;have e:decide (V.int i=V.int j)=decide (i=j):=by simp
 rw[e];simp[a6S]
theorem b3m {i j:Int}{H:Hp}{Q:VK}:rNe (.int i) (.int j) H Q=Q (.bl (!decide (i=j))) H:=by
 unfold rNe;have e:decide (V.int i=V.int j)=decide (i=j):=by simp
 rw[e];simp[a6S]
theorem b2R {K:ae}{p:fJ}{H:Hp}{Q:VK}:b1E K [.ref p] H Q=∃ ys,(SqL K H p ys\/SqT K H p ys)/\Q (.int ys.length) H:=propext ⟨λ⟨_,ys,e,a,q⟩=>by cases e;exact⟨ys,a,q⟩,λ⟨ys,a,q⟩=>⟨_,ys,rfl,a,q⟩⟩
theorem al0 {α:Type}{P:List α->Prop}(h:P [])(us:List α)(hl:us.length=0):P us:=by cases us with
 | nil=>exact h
 | cons a r=>cases hl
theorem al1 {α:Type}{P:List α->Prop}(h:∀ a0,P [a0])(us:List α)(hl:us.length=1):P us:=by cases us with
 | nil=>cases hl
 | cons a r=>exact al0 (P:=λr=>P (a::r)) (h a) r (gL hl)
theorem al2 {α:Type}{P:List α->Prop}(h:∀ a0 a1,P [a0,a1])(us:List α)(hl:us.length=2):P us:=by cases us with
 | nil=>cases hl
 | cons a r=>exact al1 (P:=λr=>P (a::r)) (h a) r (gL hl)
theorem al3 {α:Type}{P:List α->Prop}(h:∀ a0 a1 a2,P [a0,a1,a2])(us:List α)(hl:us.length=3):P us:=by cases us with
 | nil=>cases hl
 | cons a r=>exact al2 (P:=λr=>P (a::r)) (h a) r (gL hl)
end L2
end
section
namespace L2
open PySem
theorem b1U {t u:TS}{D:T5}{σ:St}{H:Hp}:b0n t u D σ H=(t {D with nx:=u D} σ H):=rfl
theorem b2n {te:TE}{g:TG}{D:T5}{σ:St}{H:Hp}:a6K te g D σ H=(te σ H λx H1=>g x σ H1 D.nx):=rfl
theorem b3f {r:R2}{ta tb:TE}{σ:St}{H:Hp}{Q:VK}:tOp r ta tb σ H Q=(ta σ H λx H1=>tb σ H1 λy H2=>r x y H2 Q):=rfl
theorem tCA {v:V}{u0:St}{H:Hp}{Q:VK}:tC v u0 H Q=(Q v H):=rfl
theorem b1W {te:TE}{D:T5}{σ:St}{H:Hp}:b1X te D σ H=(te σ H D.rt):=rfl
theorem b0p {D:T5}{u0:St}{H:Hp}:b1V D u0 H=(D.rt .non H):=rfl
theorem b2i {c:TT}{t u:TS}{D:T5}{σ:St}{H:Hp}:b2j c t u D σ H=(c σ H λb H1=>if b=true then t D σ H1 else u D σ H1):=rfl
theorem b0m {t:TE}{σ:St}{H:Hp}{Q:Bool->Hp->Prop}:a9H t σ H Q=(t σ H λx H'=>∃ k,x=.bl k/\Q k H'):=rfl
theorem tBA {t:TE}{σ:St}{H:Hp}{Q:Bool->Hp->Prop}:tB t σ H Q=(t σ H λx H1=>∃ c,x=.bl c/\Q c H1):=rfl
theorem b0t {D:T5}{σ:St}{H:Hp}:a9L D σ H=(D.nx σ H):=rfl
theorem b0v {te:TE}{D:T5}{σ:St}{H:Hp}:a9M te D σ H=(te σ H λ_ H1=>D.nx σ H1):=rfl
theorem b0z {sp:Sp}{dvs:List V}{E:XK}{t:TA}{σ:St}{H:Hp}{Q:VK}:a4W sp dvs E t σ H Q=(t σ H λvs H1=>sp (vs++dvs) H1 Q E):=rfl
theorem b0x {ta:TE}{tr:TA}{σ:St}{H:Hp}{Q:List V->Hp->Prop}:a9O ta tr σ H Q=(ta σ H λx H1=>tr σ H1 λxs H2=>Q (x::xs) H2):=rfl
theorem b2c {u0:St}{H:Hp}{Q:List V->Hp->Prop}:b2d u0 H Q=(Q [] H):=rfl
theorem b3i {r:List V->Hp->VK->Prop}{t:TA}{σ:St}{H:Hp}{Q:VK}:tCB r t σ H Q=(t σ H λvs H1=>r vs H1 Q):=rfl
theorem b3j {K:ae}{T:String}{r:V->List V->Hp->VK->Prop}{to:TE}{t:TA}{σ:St}{H:Hp}{Q:VK}:tBM K T r to t σ H Q=(to σ H λx H1=>tyV K T x H1/\t σ H1 λxs H2=>r x xs H2 Q):=rfl
theorem b2m {K:ae}{T:String}{r:V->List V->Hp->VK->Prop}{to:TE}{σ:St}{H:Hp}{Q:VK}:b0A K T r to σ H Q=(to σ H λx H1=>tyV K T x H1/\r x [] H1 Q):=rfl
theorem b1S {t:TA}{σ:St}{H:Hp}{Q:VK}:b1T t σ H Q=(t σ H λxs H1=>xs.length<=sizeLine/\∀ p,H1 p=none->Q (.ref p) (upd H1 p (.tup xs))):=rfl
theorem b2e {t:TA}{σ:St}{H:Hp}{Q:VK}:b2f t σ H Q=(t σ H λxs H1=>xs.length<=sizeLine/\∀ p,H1 p=none->Q (.ref p) (upd H1 p (.lst xs))):=rfl
theorem b2K {K:ae}{n:Nat}{t:TGs}{v:V}{σ:St}{H:Hp}{Q:St->Hp->Prop}:b1w K n t v σ H Q=(∃ a xs,v=.ref a/\SqT K H a xs/\xs.length=n/\t xs σ H Q):=rfl
theorem b1x {t:TG}{u:TGs}{vs:List V}{σ:St}{H:Hp}{Q:St->Hp->Prop}:a7Z t u vs σ H Q=(∃ v r,vs=v::r/\t v σ H fun σ' H'=>u r σ' H' Q):=rfl
theorem b2N {vs:List V}{σ:St}{H:Hp}{Q:St->Hp->Prop}:b2O vs σ H Q=(vs=[]/\Q σ H):=rfl
theorem b2L {to ti:TE}{t:a9D}{v:V}{σ:St}{H:Hp}{Q:St->Hp->Prop}:b2M to ti t v σ H Q=(to σ H λo H1=>ti σ H1 λi H2=>t o i v H2 λH3=>Q σ H3):=rfl
theorem b3c {r:V->Option Int->Option Int->Hp->VK->Prop}{te:TE}{tl th:TO}{σ:St}{H:Hp}{Q:VK}:tSl r te tl th σ H Q=(te σ H λx H1=>tl σ H1 λl H2=>th σ H2 λu H3=>r x l u H3 Q):=rfl
theorem a6G {u0:St}{H:Hp}{Q:Option Int->Hp->Prop}:a4U u0 H Q=(Q none H):=rfl
theorem b0q {t:TE}{σ:St}{H:Hp}{Q:Option Int->Hp->Prop}:a9J t σ H Q=(t σ H λx H1=>∃ i,x=.int i/\Q (some i) H1):=rfl
theorem b2o {t u:TT}{σ:St}{H:Hp}{Q:Bool->Hp->Prop}:b2p t u σ H Q=(t σ H λc H1=>if c=true then u σ H1 Q else Q false H1):=rfl
theorem b3e {t u:TT}{σ:St}{H:Hp}{Q:Bool->Hp->Prop}:tOr t u σ H Q=(t σ H λc H1=>if c=true then Q true H1 else u σ H1 Q):=rfl
theorem b2a {t:TT}{σ:St}{H:Hp}{Q:Bool->Hp->Prop}:b2b t σ H Q=(t σ H λc H1=>Q (!c) H1):=rfl
theorem b2k {ty td:TE}{σ:St}{H:Hp}{Q:VK}:b2l ty td σ H Q=(ty σ H λy H1=>td σ H1 λx H2=>∃ a o,x=.ref a/\W2 H2 a y o/\Q (.bl o.isSome) H2):=rfl
theorem a6H {ty td:TE}{σ:St}{H:Hp}{Q:VK}:a4V ty td σ H Q=(ty σ H λy H1=>td σ H1 λx H2=>∃ a o,x=.ref a/\W2 H2 a y o/\Q (.bl (!o.isSome)) H2):=rfl
theorem b0D {td ty tv:TE}{D:T5}{σ:St}{H:Hp}:a9R td ty tv D σ H=(tv σ H λv H1=>td σ H1 λx H2=>ty σ H2 λy H3=>∃ a H4,x=.ref a/\W1 H3 a y v H4/\D.nx σ H4):=rfl
theorem b1v {K:ae}{tl:TE}{σ:St}{H:Hp}{R:It->Hp->Prop}:a7U K tl σ H R=(tl σ H λx H1=>∃ a,x=.ref a/\(∃ xs,SqL K H1 a xs)/\R (Itl K a) H1):=rfl
theorem b2J {K:ae}{tl:TE}{σ:St}{H:Hp}{R:It->Hp->Prop}:b1s K tl σ H R=(tl σ H λx H1=>∃ a,x=.ref a/\(∃ xs,SqT K H1 a xs)/\R (Itt K a) H1):=rfl
theorem b1u {ta:TA}{σ:St}{H:Hp}{R:It->Hp->Prop}:b0a ta σ H R=(ta σ H λvs H1=>∃ j:Int,vs=[.int j]/\-(2 ^ 62)<=j/\j<2 ^ 62/\R (Itr 0 j.toNat) H1):=rfl
theorem b1t {ta:TA}{σ:St}{H:Hp}{R:It->Hp->Prop}:a9Z ta σ H R=(ta σ H λvs H1=>∃ i j:Int,vs=[.int i,.int j]/\(-(2 ^ 62)<=i/\i<2 ^ 62/\-(2 ^ 62)<=j/\j<2 ^ 62)/\R (Itr i (j-i).toNat) H1):=rfl
theorem a8A {r r':R2}{ta tb tc:TE}{σ:St}{H:Hp}{Q:VK}:b0y r r' ta tb tc σ H Q=(ta σ H λx H1=>tb σ H1 λy H2=>r x y H2 λz H3=>∃ k,z=.bl k/\(if k=true then tc σ H3 λw' H4=>r' y w' H4 Q else Q (.bl false) H3)):=rfl
theorem b0B {ta tb:TE}{σ:St}{H:Hp}{Q:VK}:a9P ta tb σ H Q=(ta σ H λx H1=>∃ c,x=.bl c/\if c=true then tb σ H1 Q else Q (.bl false) H1):=rfl
theorem b1Y {ta tb:TE}{σ:St}{H:Hp}{Q:VK}:b3d ta tb σ H Q=(ta σ H λx H1=>∃ c,x=.bl c/\if c=true then Q (.bl true) H1 else tb σ H1 Q):=rfl
theorem b0r {ta:TE}{σ:St}{H:Hp}{Q:VK}:a9K ta σ H Q=(ta σ H λx H1=>∃ c,x=.bl c/\Q (.bl (!c)) H1):=rfl
theorem b3b {r:V->Hp->VK->Prop}{ta:TE}{σ:St}{H:Hp}{Q:VK}:tUn r ta σ H Q=(ta σ H λx H1=>r x H1 Q):=rfl
theorem b1Q {u0:St}{H:Hp}{Q:Bool->Hp->Prop}:b1R u0 H Q=(Q true H):=rfl
theorem a8z {u0:St}{H:Hp}{Q:VK}:b0w u0 H Q=(∀ p,H p=none->Q (.ref p) (upd H p (.dK []))):=rfl
theorem a8y {u0:St}{H:Hp}{Q:VK}:a6I u0 H Q=(∀ p,H p=none->Q (.ref p) (upd H p (.dT []))):=rfl
theorem b2g {ta:TE}{σ:St}{H:Hp}{Q:VK}:b2h ta σ H Q=(ta σ H λx H1=>Q (.bl (decide (x=.non))) H1):=rfl
theorem b0s {ta:TE}{σ:St}{H:Hp}{Q:VK}:b1Z ta σ H Q=(ta σ H λx H1=>Q (.bl (!decide (x=.non))) H1):=rfl
theorem b3g {own:List Str}{fr:List (Str×Nat)}{wi:TI}{g:TG}{tc:TT}{te:TE}{σ:St}{H:Hp}{Q:VK}:tLC own fr wi g tc te σ H Q=wi σ H λJ H1=>∀ p,H1 p=none->lcW g tc te p J (st0 own fr σ) (upd H1 p (.lst [])) λH2=>Q (.ref p) H2:=rfl
theorem b3h {t:Bool}{own:List Str}{fr:List (Str×Nat)}{wi:TI}{g:TG}{tc:TT}{te tv:TE}{σ:St}{H:Hp}{Q:VK}:tDC t own fr wi g tc te tv σ H Q=wi σ H λJ H1=>∀ p,H1 p=none->dcW g tc te tv p J (st0 own fr σ) (upd H1 p (a1y t)) λH2=>Q (.ref p) H2:=rfl
end L2
end
section
namespace L2
open PySem PySem.Spec PySem.Builtin PySem.Builtin.Str PyProof.Rows
section
variable {X:Cx}
theorem a3g:∀ {ys:List Str} {us:List Value},C0 (ys.map V.str) us->StrsAre us ys
 | [],_,r=>by cases r;exact .nil
 | y::ys,_,r=>by
  cases r with
  | cons h t =>
   obtain⟨k,rfl⟩:=h;exact .cons y k (a3g t)
theorem a1D:∀ l:List (Str×Tok),C0 ((l.map (·.1)).map V.str) (strValues l)
 | []=>.nil
 | p::r=>.cons ⟨p.2,rfl⟩ (a1D r)
def a6Z (K:ae):V->List V->Hp->VK->Prop:=λx vs H Q=>∃(sep:Str) (a:Addr) (ys:List Str),x=.str sep/\vs=[.ref a]/\SqL K H a (ys.map V.str)/\(ys.map (·.length)).sum+ys.length*sep.length<=16777216/\Q (.str (Txt.join sep ys)) H
theorem a9f:MtM X "str.join" (a6Z X.K):=by
 intro pins s σ H x vs v us Q I rx rv h;obtain⟨sep,a,ys,rfl,rfl,hH,hz,q⟩:=h;obtain⟨t,rfl⟩:=rx;obtain⟨u,rfl,ru⟩:=rv.one;cases ru;obtain⟨its,r,pl,_⟩:=I.list hH;exact join_list pl.isList (a3g r) hz λt1 k=>⟨.str _,H,I.kept (t':=k) (λ_ _ e=>e),⟨t1,rfl⟩,q⟩
def a4o:V->List V->Hp->VK->Prop:=λx vs H Q=>∃(a b:Str),x=.str a/\vs=[.str b]/\(b.length == 0)=false/\a.length+2<=sizeLine/\∀ p,H p=none->Q (.ref p) (upd H p (.lst ((Txt.split a b).map V.str)))
theorem a7A:MtM X "str.split" a4o:=by
 intro pins s σ H x vs v us Q I rx rv h;obtain⟨a,b,rfl,rfl,hy,hz,q⟩:=h;obtain⟨t,rfl⟩:=rx;obtain⟨u,rfl,ru⟩:=rv.one;obtain⟨u,rfl⟩:=ru;have hn:(partsBetween a (occurrences a b 0 a.length (a.length+1)) b.length).length<=sizeLine:=by
  have e1:=StrLaws.occ_length_le a b 0 a.length (a.length+1);rw[i5];omega
 have fin:∀(l:List (Str×Tok)) (k:Nat),l.map (·.1)=Txt.split a b->l.length<=sizeLine->EP X pins σ Q (.ref s.heap.objs.size) {s with toks:=k,heap:=s.heap.push {cls:=.type "list",data:=.seq (strValues l).toArray}}:=λl k hl hlen=>by
  refine⟨.ref s.heap.objs.size,_,I.laid (t':=k) (o:=.lst ((Txt.split a b).map V.str)) (λb ob q=>ak _ q) (aj _) ?_,rfl,q _ (I.hok.fresh (aj _))⟩;rw[<- hl];exact⟨by rw[aa,aa];exact hlen,_,0,a1D l,aK _ rfl⟩
 cases h1:(decide (a.length<b.length) || decide (strKind a<strKind b))
 ·cases hf:(occurrences a b 0 a.length (a.length+1)).isEmpty
  ·refine eD gA (typeIs_str _ _ _) gf (fQ _ _) (meets_str_split_sep a b t u h1 hy hf ∅ hn) ?_;show wants _ _ _ {s with toks:=_,heap:=s.heap.push {cls:=.type "list",data:=.seq (strsFrom s.toks (partsBetween a (occurrences a b 0 a.length (a.length+1)) b.length)).toArray}};rw[strsFrom_eq];refine fin (numbered s.toks _) _ ((numbered_texts _ _).trans ((if_neg (ne_true_of_eq_false h1)).trans (if_neg (ne_true_of_eq_false hf))).symm) ?_;rw[<- aa (·.1),numbered_texts];exact hn
  ·exact eD gA (typeIs_str _ _ _) gf (fQ _ _) (meets_str_split_not_found a b t u h1 hy hf)
    (fin [(a,t)] s.toks ((if_neg (ne_true_of_eq_false h1)).trans (if_pos hf)).symm (by show 1<=sizeLine;decide))
 ·exact eD gA (typeIs_str _ _ _) gf (fQ _ _) (meets_str_split_cannot_occur a b t u h1)
   (fin [(a,t)] s.toks (if_pos h1).symm (by show 1<=sizeLine;decide))
def a9V:R2:=λx y H Q=>∃ a b:Str,x=.str a/\y=.str b/\a.length+b.length<=sizeLine/\Q (.str (a++b)) H
theorem Q1:OpR X (binaryOp .Add) a9V:=by
 intro pins s σ H x y v u Q I rx ry h;obtain⟨a,b,rfl,rfl,hz,q⟩:=h;obtain⟨t,rfl⟩:=rx;obtain⟨k,rfl⟩:=ry;exact SB.add (λt1 k=>⟨.str _,H,I.kept (t':=k) (λ_ _ e=>e),⟨t1,rfl⟩,q⟩) hz
def a7a:V->List V->Hp->VK->Prop:=λx vs H Q=>∃ a b:Str,x=.str a/\vs=[.str b]/\Q (.bl (Txt.endswith a b)) H
theorem a9g:MtM X "str.endswith" a7a:=by
 intro pins s σ H x vs v us Q I rx rv h;obtain⟨a,b,rfl,rfl,q⟩:=h;obtain⟨t,rfl⟩:=rx;obtain⟨u,rfl,ru⟩:=rv.one;obtain⟨u,rfl⟩:=ru;exact call_gives F.slot_str_endswith (typeIs_str _ _ _) F.entry_str_endswith (F.args_str_endswith_2 _ _) (gives_str_endswith a b t u) ⟨.bl _,H,I,rfl,q⟩
end
section
variable {X:Cx}{elts:List Expr}{k:Nat}{tpos apos cpos:Pos}{o:Expr}{to:TE}
theorem a1h {e:Expr}{es:List Expr}{t:TA}(K:ae)(ho:PE X o to)(ha:PA X (e::es) t)(h:X.K=K:=by rfl)
  (hbase:attributeBase o "join" X.env (eval o X.env)=eval o X.env:=by rfl)
  (hfew:((backTo cpos (starEach (e::es) X.env)).all (λx=>!x.1) && (backToKw cpos (keywordEach [] X.env)).all (λx=>x.1.isSome)
   && decide ((e::es).length+([]:List Keyword).length+(if ([]:List Keyword).isEmpty then 0 else 1)<30))=true:=by rfl) (hst:starEach (e::es) X.env=(false,eval e X.env)::starEach es X.env:=by rfl) (hpl:(backTo cpos (starEach es X.env)).any (·.1)=false:=by rfl) (hline:(apos.endLine == cpos.line)=true:=by rfl) :
  PE X (.Call (.Attribute o "join" apos) (e::es) [] cpos) (tBM K "str" (a6Z K) to t):=by
 subst h;exact a5s eR PySem.F.slot_str_join PySem.F.type_str_join a9f ho ha hbase hfew hline hst hpl
theorem a0z {e:Expr}{es:List Expr}{t:TA}(K:ae)(ho:PE X o to)(ha:PA X (e::es) t)(h:X.K=K:=by rfl)
  (hbase:attributeBase o "split" X.env (eval o X.env)=eval o X.env:=by rfl)
  (hfew:((backTo cpos (starEach (e::es) X.env)).all (λx=>!x.1) && (backToKw cpos (keywordEach [] X.env)).all (λx=>x.1.isSome)
   && decide ((e::es).length+([]:List Keyword).length+(if ([]:List Keyword).isEmpty then 0 else 1)<30))=true:=by rfl) (hst:starEach (e::es) X.env=(false,eval e X.env)::starEach es X.env:=by rfl) (hpl:(backTo cpos (starEach es X.env)).any (·.1)=false:=by rfl) (hline:(apos.endLine == cpos.line)=true:=by rfl) :
  PE X (.Call (.Attribute o "split" apos) (e::es) [] cpos) (tBM K "str" a4o to t):=by
 subst h;exact a5s eR PySem.F.slot_str_split PySem.F.type_str_split a7A ho ha hbase hfew hline hst hpl
theorem a4J {e:Expr}{es:List Expr}{t:TA}(K:ae)(ho:PE X o to)(ha:PA X (e::es) t)(h:X.K=K:=by rfl)
  (hbase:attributeBase o "endswith" X.env (eval o X.env)=eval o X.env:=by rfl)
  (hfew:((backTo cpos (starEach (e::es) X.env)).all (λx=>!x.1) && (backToKw cpos (keywordEach [] X.env)).all (λx=>x.1.isSome)
   && decide ((e::es).length+([]:List Keyword).length+(if ([]:List Keyword).isEmpty then 0 else 1)<30))=true:=by rfl) (hst:starEach (e::es) X.env=(false,eval e X.env)::starEach es X.env:=by rfl) (hpl:(backTo cpos (starEach es X.env)).any (·.1)=false:=by rfl) (hline:(apos.endLine == cpos.line)=true:=by rfl) :
  PE X (.Call (.Attribute o "endswith" apos) (e::es) [] cpos) (tBM K "str" a7a to t):=by
 subst h;exact a5s eR PySem.F.slot_str_endswith PySem.F.type_str_endswith a9g ho ha hbase hfew hline hst hpl
end
end L2
end
section
namespace L2
open PySem PySem.Spec PySem.Builtin PySem.Builtin.Str PyProof.Rows
section
variable {K:ae}{p:Addr}{g:TG}{tc:TT}{te tv:TE}{τ0:St}{H0:Hp}{EE:Hp->Prop}
theorem a8h {lo:Int}{n:Nat}(Pv:Nat->St->Hp->Prop)(h0:Pv 0 τ0 H0)
  (hs:∀ i τ H,i<n->Pv i τ H->g (.int (lo+i)) τ H fun τ2 H2=>tc τ2 H2 λb H3=>if b=true then te τ2 H3 λk H4=>tv τ2 H4 λv H5=>∃ H6,W1 H5 p k v H6/\Pv (i+1) τ2 H6 else Pv (i+1) τ2 H3)
  (hd:∀ τ H,Pv n τ H->EE H):dcW g tc te tv p (Itr lo n) τ0 H0 EE:=by
 refine⟨λi m τ H=>m=n-i/\i<=n/\Pv i τ H,⟨_,rfl,bI _,h0⟩,?_⟩;rintro i m τ H ⟨rfl,hi,hp⟩;rcases bS i n with h | h
 ·refine .inr ⟨h,Pv (i+1),fun τ' H' z=>⟨_,∅,rfl,h,z⟩,?_⟩;rintro x H' ⟨rfl,rfl⟩;exact hs i τ H' h hp
 ·have e:i=n:=∅
  subst e;exact .inl ⟨aj _,hd τ H hp⟩
end
def tS (i:Int):Str:=Str.ofString (toString i)
theorem b0o:∀ i j:Nat,i<100->j<100->tS i=tS j->i=j:=by
 have h:(cU 100).all (λi=>(cU 100).all λj=>decide (tS (i:Int)=tS (j:Int)) == decide (i=j))=true:=by decide +kernel
 intro i j hi hj e;have h1:=bJ.mp (bJ.mp h i (bK.mpr hi)) j (bK.mpr hj);rw[decide_eq_true e] at h1;exact of_decide_eq_true (~~~h1)
def nKv:Nat->List (Key×V)
 | 0=>[]
 | m+1=>P4 (nKv m) (.inr (tS m)) (.int m)
theorem a5x {m:Nat}(hm:m<=100){w:Str}{v:V}:N7 (nKv m) (.inr w)=some v↔∃ i:Nat,i<m/\w=tS i/\v=.int i:=by
 induction m with
 | zero=>simp[nKv,N7]
 | succ m ih =>
  have ih:=ih ∅;show N7 (P4 (nKv m) (.inr (tS m)) (.int m)) (.inr w)=some v↔_;rw[a6z];by_cases h:(fN w:Key)=.inr (tS m)
  ·rw[if_pos h];injection h with h
   subst h;constructor
   ·intro e;cases e;exact⟨m,∅,rfl,rfl⟩
   ·rintro⟨i,hi,e,rfl⟩;rw[b0o m i ∅ ∅ e]
  ·rw[if_neg h,ih];constructor
   ·rintro⟨i,hi,e,rfl⟩;exact⟨i,∅,e,rfl⟩
   ·rintro⟨i,hi,e,rfl⟩;refine⟨i,?_,e,rfl⟩;rcases bS i m with c | c
    ·exact c
    ·exact absurd (by rw[e,show i=m by omega]) h
theorem a5w:∀ m:Nat,(nKv m).length<=m
 | 0=>aj _
 | m+1=>by
  have:=a5w m;have l1:=N6 (nKv m) (.inr (tS m)) (.int m);show (P4 (nKv m) _ _).length<=m+1;omega
def nOf (m:Nat)(w:Str):V:=(N7 (nKv m) (.inr w)).getD .non
end L2
end
section
namespace L2
open PySem PySem.Spec PySem.Builtin PySem.Builtin.Str PyProof.Rows
def cs (x:Str):List Nat:=x.cps.toList
theorem X6 {x y:Str}(h:cs x=cs y):x=y:=by
 obtain⟨⟨x⟩⟩:=x;obtain⟨⟨y⟩⟩:=y;have h:x=y:=h;rw[h]
theorem N2 (x:Str):(cs x).length=x.length:=by unfold cs;rw[bo];rfl
theorem K6 (a b:Str):cs (a++b)=cs a++cs b:=aV
def sT (l:List Nat):Str:=⟨l.toArray⟩
theorem a5K (l:List Nat):cs (sT l)=l:=rfl
def jn (c:Nat):List (List Nat)->List Nat
 | []=>[]
 | [p]=>p
 | p::q::r=>p++c::jn c (q::r)
def spl (c:Nat):List Nat->List (List Nat)
 | []=>[[]]
 | x::l=>if x=c then []::spl c l else match spl c l with
  | []=>[[x]]
  | p::r=>(x::p)::r
theorem b0C (c:Nat):∀ l,spl c l≠[]
 | [],h=>by cases h
 | x::l,h=>by
  unfold spl at h;split at h
  ·cases h
  ·split at h<;>cases h
theorem a4X (c:Nat):∀ l,(spl c l).length=l.count c+1
 | []=>rfl
 | x::l=>by
  have ih:=a4X c l;unfold spl;rw[gv];by_cases h:x=c
  ·rw[if_pos h,aH,ih,if_pos (~~~h)]
  ·rw[if_neg h,if_neg (~~~h)];split
   ·next e=>exact absurd e (b0C c l)
   ·next e=>rw[e] at ih;rw[<- ih];rfl
theorem a4Y (c:Nat)(q:List Nat):∀ p:List Nat,c∉p->spl c (p++c::q)=p::spl c q
 | [],_=>by show spl c (c::q)=_;rw[spl,if_pos rfl]
 | x::p,h=>by
  show spl c (x::(p++c::q))=_;rw[spl,if_neg (λe=>h (by rw[e];exact aO)),a4Y c q p λm=>h (aL _ m)]
theorem a3j (c:Nat):∀ p:List Nat,c∉p->spl c p=[p]
 | [],_=>rfl
 | x::p,h=>by rw[spl,if_neg (λe=>h (by rw[e];exact aO)),a3j c p λm=>h (aL _ m)]
theorem a4n (c:Nat):∀ ps:List (List Nat),ps≠[]->(∀ p∈ps,c∉p)->spl c (jn c ps)=ps
 | [],h,_=>absurd rfl h
 | [p],_,h=>a3j c p (h p aO)
 | p::q::r,_,h=>by rw[jn,a4Y c _ p (h p aO),a4n c (q::r) (by simp) λx hx=>h x (aL _ hx)]
theorem a5G (c:Nat):∀(ys:List Str) (a:Array Nat),(ys.foldl (λacc p=>acc++(sT [c]).cps++p.cps) a).toList=jn c (a.toList::ys.map cs)
 | [],a=>by simp[jn]
 | y::ys,a=>by
  rw[cS,a5G c ys,ao,aV,aV];cases ys with
  | nil=>simp[jn,sT,cs]
  | cons z zs=>simp[jn,sT,cs]
theorem Q9 (c:Nat)(ys:List Str):cs (Txt.join (sT [c]) ys)=jn c (ys.map cs):=by
 cases ys with
 | nil=>rfl
 | cons y ys=>exact a5G c ys y.cps
theorem a0G (c:Nat):∀ ys:List Str,cs (Str.join (sT [c]) ys)=jn c (ys.map cs)
 | []=>rfl
 | [y]=>rfl
 | y::z::r=>by
  rw[ao,ao,jn,<- ao,<- a0G c (z::r)];show cs (y++sT [c]++Str.join (sT [c]) (z::r))=_;rw[K6,K6,aZ];rfl
theorem a0I (x:Str)(c:Nat):(Txt.split x (sT [c])).map cs=spl c (cs x):=by
 have e:=a0G c (Txt.split x (sT [c]));rw[StrLaws.join_split x _] at e;rw[e,a4n]
 ·have:=fR x (sT [c]);intro h;rw[List.map_eq_nil_iff] at h;rw[h] at this;exact absurd this (by decide)
 ·intro p hp;obtain⟨s,hs,rfl⟩:=aY.mp hp;exact StrLaws.split_free x c s hs
theorem a5P (x:Str)(c:Nat):(Txt.split x (sT [c])).length=(cs x).count c+1:=by
 rw[<- a4X,<- a0I,aa]
theorem R6 {c:Nat}{ys:List Str}(hn:ys≠[])(h:∀ y∈ys,c∉cs y):Txt.split (Txt.join (sT [c]) ys) (sT [c])=ys:=by
 have e:=a0I (Txt.join (sT [c]) ys) c;rw[Q9,a4n] at e
 ·have inj:∀(a b:List Str),a.map cs=b.map cs->a=b:=λa=>by
   induction a with
   | nil=>intro b h;cases b with
    | nil=>rfl
    | cons=>cases h
   | cons x a ih=>intro b h;cases b with
    | nil=>cases h
    | cons y b=>rw[X6 (dr h).1,ih b (dr h).2]
  exact inj _ _ e
 ·intro h;exact hn (List.map_eq_nil_iff.mp h)
 ·intro p hp;obtain⟨s,hs,rfl⟩:=aY.mp hp;exact h s hs
theorem a3T {c d:Nat}(hd:d≠c):∀ ps:List (List Nat),(jn c ps).count d=(ps.map (·.count d)).sum
 | []=>rfl
 | [p]=>by simp[jn]
 | p::q::r=>by rw[jn,eO,gv,if_neg (by simpa using λe=>hd e.symm),a3T hd (q::r)];simp
theorem a2a {c:Nat}:∀ ps:List (List Nat),(jn c ps).count c<=(ps.map (·.count c)).sum+ps.length
 | []=>aj _
 | [p]=>by simp[jn]
 | p::q::r=>by
  have:=a2a (c:=c) (q::r);rw[jn,eO,gv,if_pos (by simp)];rw[ao,gQ,aH];omega
theorem a7J (c:Nat):∀ ps:List (List Nat),(jn c ps).length<=(ps.map cE).sum+ps.length
 | []=>aj _
 | [p]=>by simp[jn]
 | p::q::r=>by
  have:=a7J c (q::r);rw[jn,aD,aH,ao,gQ,aH];omega
section
variable {X:Cx}
def b0G (a:Str)(k:Nat):Str:=sT (List.replicate k (cs a)).flatten
theorem a6W (a:Str)(k:Nat):(b0G a k).length=k*a.length:=by
 rw[<- N2,<- N2 a];show ((List.replicate k (cs a)).flatten).length=_;rw[fB,iK,g9]
theorem a3A (a:Str)(k c:Nat):(cs (b0G a k)).count c=k*(cs a).count c:=by
 show ((List.replicate k (cs a)).flatten).count c=_;rw[List.count_flatten,iK,g9]
end
end L2
end
section
namespace L2
open PySem PySem.Spec PySem.Builtin PySem.Builtin.Str PyProof.Rows
structure Gt (m k:Nat)(x:Str):Prop where
 len:x.length<=m
 asc:∀ c∈cs x,c<128
 cm:(cs x).count 44<=k
 sp:(cs x).count 32<=k
def gtB (m k:Nat)(x:Str):Bool:=decide (x.length<=m) && ((cs x).all λc=>decide (c<128)) && decide ((cs x).count 44<=k) && decide ((cs x).count 32<=k)
theorem b0b {m k:Nat}{x:Str}(h:gtB m k x=true):Gt m k x:=by
 unfold gtB at h;simp only[bU,decide_eq_true_eq,bJ] at h;exact⟨h.1.1.1,h.1.1.2,h.1.2,h.2⟩
theorem Gt.mono {m k m' k':Nat}{x:Str}(h:Gt m k x)(hm:m<=m')(hk:k<=k'):Gt m' k' x:=⟨ba h.len hm,h.asc,ba h.cm hk,ba h.sp hk⟩
theorem Gt.add {m k m' k':Nat}{x y:Str}(h:Gt m k x)(h':Gt m' k' y):Gt (m+m') (k+k') (x++y):=by
 refine⟨?_,λc hc=>?_,?_,?_⟩
 ·rw[<- N2,K6,aD,N2,N2];exact gP h.len h'.len
 ·rw[K6] at hc;exact (al.mp hc).elim (h.asc c) (h'.asc c)
 ·rw[K6,eO];exact gP h.cm h'.cm
 ·rw[K6,eO];exact gP h.sp h'.sp
theorem Gt.rep {k:Nat}{x:Str}{n:Nat}(h:Gt 1 0 x):Gt n k (b0G x n):=by
 refine⟨?_,λc hc=>?_,?_,?_⟩
 ·rw[a6W];have:=Nat.mul_le_mul_left n h.len;omega
 ·have hc:c∈(List.replicate n (cs x)).flatten:=hc;obtain⟨l,hl,hc⟩:=List.mem_flatten.mp hc;rw[(List.mem_replicate.mp hl).2] at hc;exact h.asc c hc
 ·rw[a3A,Nat.le_zero.mp h.cm];omega
 ·rw[a3A,Nat.le_zero.mp h.sp];omega
theorem R3 {α:Type}(f:α->Nat)(m:Nat):∀ l:List α,(∀ x∈l,f x<=m)->(l.map f).sum<=l.length*m
 | [],_=>by simp
 | x::l,h=>by
  have:=R3 f m l λy hy=>h y (aL _ hy)
  have:=h x aO;rw[ao,gQ,aH,ii];omega
theorem a7B {c d:Nat}:∀ {ps:List (List Nat)},d∈jn c ps->d=c\/∃ p∈ps,d∈p
 | [],h=>by cases h
 | [p],h=>.inr ⟨p,ag.mpr rfl,h⟩
 | p::q::r,h=>by
  rw[jn,al,aW] at h;rcases h with h | h | h
  ·exact .inr ⟨p,aO,h⟩
  ·exact .inl h
  ·rcases a7B h with h | ⟨x,hx,h⟩
   ·exact .inl h
   ·exact .inr ⟨x,aL _ hx,h⟩
theorem Gt.join {m k n c:Nat}{ws:List Str}(hc:c=44\/c=32)(hn:ws.length<=n)(h:∀ w∈ws,Gt m k w):Gt (n*m+n) (n*k+n) (Txt.join (sT [c]) ws):=by
 have mul:∀ {f:Str->Nat} {b:Nat},(∀ w∈ws,f w<=b)->(ws.map f).sum<=n*b:=λ{f b} hf=>ba (R3 f b ws hf) (Nat.mul_le_mul_right b hn)
 have cnt:∀ d:Nat,(∀ w∈ws,(cs w).count d<=k)->(jn c (ws.map cs)).count d<=n*k+n:=λd hd=>by
  have e:((ws.map cs).map (·.count d)).sum<=n*k:=by rw[bj];exact mul (f:=λw=>(cs w).count d) hd
  by_cases h:d=c
  ·subst h;have:=a2a (c:=d) (ws.map cs);rw[aa] at this;omega
  ·rw[a3T h];omega
 refine⟨?_,λd hd=>?_,?_,?_⟩
 ·rw[<- N2,Q9];have:=a7J c (ws.map cs);have e:((ws.map cs).map cE).sum<=n*m:=by rw[bj];exact mul (f:=λw=>(cs w).length) λw hw=>by rw[N2];exact (h w hw).len
  rw[aa] at this;omega
 ·rw[Q9] at hd;rcases a7B hd with rfl | ⟨p,hp,hd⟩
  ·omega
  ·obtain⟨w,hw,rfl⟩:=aY.mp hp;exact (h w hw).asc d hd
 ·rw[Q9];exact cnt 44 λw hw=>(h w hw).cm
 ·rw[Q9];exact cnt 32 λw hw=>(h w hw).sp
theorem a0u {n:Int}(h0:0<=n)(h1:n<100):Gt 2 0 (tS n):=by
 have h:(cU 100).all (λi=>gtB 2 0 (tS (i:Int)))=true:=by decide +kernel
 have:=bJ.mp h n.toNat (bK.mpr ∅);rw[bx h0] at this;exact b0b this
theorem Gt.sum {m k:Nat}{ws:List Str}(h:∀ w∈ws,Gt m k w):(ws.map (·.length)).sum<=ws.length*m:=R3 _ m ws λw hw=>(h w hw).len
theorem Gt.nx {m k:Nat}{x:Str}(h:Gt m k x)(hm:m<=100000):Nx 50 100000 (.str x):=by
 refine⟨.inl rfl,rfl,bI _,?_,ba h.len hm⟩;rw[PyData.leavesShort,bJ];intro c hc;exact decide_eq_true (dQ (h.asc c hc) (by decide))
end L2
end
section
namespace L2
open PySem PySem.Spec PyProof.Rows
theorem HOk.there {P:Program}{w:World}{H:Hp}{h:Heap}{a:Addr}{o:HO}(x:HOk P w H h)(e:H a=some o):∃ ob,h.get? a=some ob:=by
 have y:=x a o e;clear e;induction o with
 | lst xs=>obtain⟨_,_,_,_,e⟩:=y;exact⟨_,e⟩
 | tup xs=>obtain⟨_,_,_,o,e,_⟩:=y;exact⟨_,e⟩
 | dK kvs=>obtain⟨_,_,_,_,o,_,_,e,_⟩:=y;exact⟨_,e⟩
 | dT kvs=>obtain⟨_,_,_,_,o,_,_,e,_⟩:=y;exact⟨_,e⟩
 | set S n=>obtain⟨o,_,_,_,e,_⟩:=y;exact⟨_,e⟩
 | ins C dx fs=>obtain⟨_,_,_,e,_⟩:=y;exact⟨_,e⟩
 | own y'=>obtain⟨_,e⟩:=y;exact⟨_,e⟩
 | xd fs=>obtain⟨_,⟨_,_,_,e,_⟩,_⟩:=y;exact⟨_,e⟩
 | rng lo hi=>obtain⟨_,_,_,e⟩:=y;exact⟨_,e⟩
 | frz ob u ih=>obtain⟨e,_⟩:=y;exact⟨_,e⟩
 | tbl ps=>exact⟨_,(show h.get? a=some _ from y)⟩
 | met f y'=>exact⟨_,(show h.get? a=some _ from y)⟩
 | ext φ=>obtain⟨_,⟨_,e⟩,_⟩:=y;exact⟨_,e⟩
theorem HOk.part {P:Program}{w:World}{H:Hp}{h B:Heap}(x:HOk P w H h)(k:∀ b u,H b≠none->h.get? b=some u->B.get? b=some u):HOk P w H B:=λa o e =>
 (x a o e).stay (λb u hb q=>k b u (by rcases hb with rfl | hb;(· rw[e];simp);(· rw[hb];simp)) q) (λ_ q=>q) λ_ _ q=>q
structure Fl (P:Program)(w:World)(outer:List Env)(H:Hp)(h:Heap)(ea C:Addr)(H':Hp)(h':Heap):Prop where
 fly:∃ B a0,hX B outer ea (.ref C) a0 h'/\HOk P w H' B/\(∀ b o,h.get? b=some o->H b=none->b∉frs outer->B.get? b=some o)/\∀ b o,h.get? b=some o->b∉frs outer->∃ ob,B.get? b=some ob
 un:Un (frs outer) [] H H' h h'
 nea:H' ea=none
def CX1 (P:Program)(w:World):CXT:=λouter H s E e s'=>∃(ea C:Addr) (H':Hp),e=.ref ea/\s'.os=s.os/\AllBare s'.gens/\Fl P w outer H s.heap ea C H' s'.heap/\E (.ref C) none H'
theorem Fl.hok {P:Program}{w:World}{outer:List Env}{H H':Hp}{h h':Heap}{ea C:Addr}(x:Fl P w outer H h ea C H' h'):HOk P w H' h':=by
 obtain⟨B,a0,⟨f1,_⟩,ok,_⟩:=x.fly;exact ok.kept f1
theorem b1C {K:ae}{h:Heap}{C:Addr}{bmB:List Value}{newId:String}(X:K.In h)(q:PySem.W.excIn K C bmB newId=true) :
  ∃ bm N nm qn bs hdct sn sub ab col dd k0 k1 k2 k3 k5 mN,h.get? C=some (excClassObj nm qn C N bs bm hdct sn sub ab col dd k0 k1 k2 k3 k5 newId)/\h.Ns N mN/\mN "__init__"=none/\OwnTail h bmB bm:=by
 unfold PySem.W.excIn at q;split at q
 ·rename_i dd cd sl ho;split at q
  ·rename_i C' bm k0 k1 k2 k3 n k5 hm hs;simp only[bU,beq_iff_eq,Bool.not_eq_true'] at q;obtain⟨⟨⟨⟨⟨rfl,rfl⟩,hdel⟩,ht⟩,hok⟩,hni⟩:=q;obtain⟨nm,bs,mro,ns,qn,hd,sn,sub,ab,col,del⟩:=cd;dsimp only at hm hdel hok hni;subst hm hdel;have hsl:sl=#[k0,k1,k2,k3,some (.builtin n),k5]:=by
    obtain⟨l⟩:=sl;simp only at hs;rw[hs]
   subst hsl;exact⟨bm,ns,nm,qn,bs,hd,sn,sub,ab,col,dd,k0,k1,k2,k3,k5,_,X _ _ ho,.of_isNs (PySem.W.isNs_of_in X hok),PySem.W.nsMap_none_of_in X hok hni,PySem.W.tail_of_in X ht⟩
  ·cases q
 ·cases q
section
variable {X:Cx}{E:XK}{C:Addr}{x:Str}{bmB:List Value}{np cpos pos:Pos}
def a1r (X:Cx)(E:XK)(C:Addr):Prop:=∀(pins:List (Addr×Obj)) (σ:St) (H:Hp) (s:Shared) (ea:Addr) (h':Heap),Inv X pins σ H s->Heap.MadeExcOf s.heap h' ea (.ref C) []->E (.ref C) none H->X.xe (.ref ea) {s with heap:=h'}
def a4m (E:XK)(C:Addr):TS:=λ_ _ H=>E (.ref C) none H
theorem a7e {B newId initId:String}(FB:ExcBaseFacts B newId initId bmB)(hcalm:X.calm=true)(hg:Gl X x)(hm:X.mg x=some (.ref C))(hc:PySem.W.excIn X.K C bmB newId=true)(hp:a1r X E C)
  (hd:(x == ("__debug__":Str))=false:=by decide):PS X (.Raise (some (.Call (.Name x np) [] [] cpos)) none pos) (a4m E C):=by
 intro pins s σ H D I h;obtain⟨tl,N,nm,q,bs,hdct,sn,sub,ab,col,dd,k0,k1,k2,k3,k5,mN,hC,hN,hni,T⟩:=b1C I.kIn hc;refine wpAny_Raise_call_subT (C:=C) (nm:=nm) (q:=q) (N:=N) (bs:=bs) (bm:=tl) (hdct:=hdct) (sn:=sn) (sub:=sub) (ab:=ab) (col:=col) (dd:=dd) (k0:=k0) (k1:=k1) (k2:=k2) (k3:=k3) (k5:=k5)
  FB (mN:=mN) (T.hasType FB.hasBase) (I.ok.hd hcalm) rfl hni (a2J I hg hm ⟨rfl,?_⟩ hd)
 exact evalArgs_empty ⟨rfl,bI _,hC,hN,T,λh' e hx=>hp pins σ H s e h' I hx h⟩
end
section
variable {P:Program}{w:World}{K:ae}{mg:Str->Option Value}{base:Heap}{N:List Str}{qual:Str}{scope:Scope}{f:Addr}{cd:Value}{A:Around}{outer:List Env}{s0:Shared}{H0:Hp}{E:XK}{C:Addr}
theorem a8a {l:List Env}{env:Env}{L:Addr}(hf:env.frame=some L):frs (env::l)=L::frs l:=by
 unfold frs;rw[eg,hf]
theorem a9i:a1r (a1z (CX1 P w) P w K mg base N qual scope f cd A outer s0 H0 E) E C:=by
 intro pins σ H s ea h' I hx hE;have hst:s.heap.FunFrames base (envOfC qual scope s0.heap.objs.size f cd::outer):=I.stack;have hfr:(A.deeper (envOfC qual scope s0.heap.objs.size f cd)).frames=some (envOfC qual scope s0.heap.objs.size f cd::outer):=I.ok.frames;have hfs:frs (envOfC qual scope s0.heap.objs.size f cd::outer)=s0.heap.objs.size::frs outer:=a8a rfl;have hin:∀ env∈(envOfC qual scope s0.heap.objs.size f cd::outer),∀ b,env.frame=some b->b∈frs (envOfC qual scope s0.heap.objs.size f cd::outer):=λenv he b hb=>iJ.mpr ⟨env,he,hb⟩
 have hne:∀ b o,s0.heap.get? b=some o->b∉frs outer->b∉frs (envOfC qual scope s0.heap.objs.size f cd::outer):=λb o e hb hm=>by
  rw[hfs] at hm;rcases aW.mp hm with rfl | hm
  ·exact absurd (aF e) (cj _)
  ·exact hb hm
 have hB:=I.base;have hnf:∀ b o,s.heap.get? b=some o->b∈frs (envOfC qual scope s0.heap.objs.size f cd::outer)->∀ vs,o.data≠.fields vs:=λb o e hm=>by
  obtain⟨_,o',e',d'⟩:=hst.mem hm;rw[e] at e';cases e';exact d'
 show wpAny (model P w) (A.deeper (envOfC qual scope s0.heap.objs.size f cd)) (leaving (envOfC qual scope s0.heap.objs.size f cd) (.ref ea)) _ _ _;refine wpAny_leaves_madeW (base:=eT s.heap (frs (envOfC qual scope s0.heap.objs.size f cd::outer))) (h:=s.heap) hfr rfl (λb o q=>hV _ q) (PySem.W.funFrames_hide hst hin) hx λh'' t fl tup nt up=>?_
 have keep:∀ b o,s0.heap.get? b=some o->H0 b=none->b∉frs outer->(eT s.heap (frs (envOfC qual scope s0.heap.objs.size f cd::outer))).get? b=some o:=λb o e n hb=>dS _ (hB.keep b o e n hb (λz=>nomatch z)) (hne b o e hb)
 have up2:∀ b o,s.heap.get? b=some o->b∈frs (envOfC qual scope s0.heap.objs.size f cd::outer)->∃ sl,h''.get? b=some {o with slots:=sl}:=λb o e hm=>up b o (hx.keeps b o e) (hnf b o e hm)
 have tH:∀ b o,s0.heap.get? b=some o->b∉frs outer->∃ ob,(eT s.heap (frs (envOfC qual scope s0.heap.objs.size f cd::outer))).get? b=some ob:=λb o e hb=>by
  obtain⟨o',e'⟩:=hB.there b o e (λz=>nomatch z);exact⟨o',dS _ e' (hne b o e hb)⟩
 refine⟨ea,C,H,rfl,I.os,I.bare,⟨⟨_,_,fl,I.hok.part λb u hb q=>dS _ q λhm=>hb (I.stkFree b hm),keep,tH⟩,⟨λb o e n hb _=>fl.1 b o (keep b o e n hb),λb o e n hb _=>?_,hB.free,λb o e _=>?_,hB.tups,hB.frzs,hB.tbls⟩,?_⟩,hE⟩
 ·obtain⟨sl,e1⟩:=hB.slot b o e n hb (λz=>nomatch z);obtain⟨sl',e2⟩:=up2 b _ e1 (by rw[hfs];exact aL _ hb);exact⟨sl',e2⟩
 ·by_cases hb:b∈frs outer
  ·obtain⟨o',e'⟩:=hB.there b o e (λz=>nomatch z);obtain⟨sl',e2⟩:=up2 b _ e' (by rw[hfs];exact aL _ hb);exact⟨_,e2⟩
  ·obtain⟨o',e'⟩:=tH b o e hb;exact⟨o',fl.1 b o' e'⟩
 ·cases q:H ea with
  | none=>rfl
  | some o =>
   obtain⟨ob,e⟩:=I.hok.there q;rw[hx.new] at e;cases e
end
end L2
end
section
namespace L2
open PySem PySem.Spec PyProof.Rows
theorem Fl.look {P:Program}{w:World}{outer:List Env}{H H':Hp}{h h':Heap}{ea C:Addr}(x:Fl P w outer H h ea C H' h'):∃ B a0,hX B outer ea (.ref C) a0 h'/\(∀ b o,h.get? b=some o->H b=none->b∉frs outer->B.get? b=some o) /\
  ∀ h'',hX B outer ea (.ref C) a0 h''->h'.UpToSlots h''->Fl P w outer H h ea C H' h'':=by
 obtain⟨B,a0,fl,ok,kp,th⟩:=x.fly;have u:=x.un;have up2:∀ {h''},h'.UpToSlots h''->∀ b o,h'.get? b=some o->b∈frs outer->∃ sl,h''.get? b=some {o with slots:=sl}:=λ{h''} up b o e hm=>by
  obtain⟨_,o',e',d'⟩:=fl.2.2.1.mem hm;rw[e] at e';cases e';exact up b o e d'
 refine⟨B,a0,fl,kp,λh'' fl' up=>⟨⟨B,a0,fl',ok,kp,th⟩,⟨λb o e n hb _=>fl'.1 b o (kp b o e n hb),λb o e n hb hx=>?_,u.free,λb o e hx=>?_,u.tups,u.frzs,u.tbls⟩,x.nea⟩⟩
 ·obtain⟨sl,e1⟩:=u.slot b o e n hb hx;obtain⟨sl2,e2⟩:=up2 up b _ e1 hb;exact⟨sl2,e2⟩
 ·by_cases hb:b∈frs outer
  ·obtain⟨o1,e1⟩:=u.there b o e hx;obtain⟨sl,e2⟩:=up2 up b _ e1 hb;exact⟨_,e2⟩
  ·obtain⟨o1,e1⟩:=th b o e hb;exact⟨o1,fl'.1 b o1 e1⟩
end L2
end
section
namespace L2
open PySem PySem.Spec PyProof.Rows PySem.W
structure b3F (K:ae)(C:Addr):Prop where
 ga:cD K (.ref C) "__getattribute__"=some (some (.builtin "BaseException.__getattribute__"))
 cl:cD K (.ref C) "__class__"=some (some (.builtin "object.__class__"))
 no:cD K (.ref C) "__getattr__"=some none
 sb:eI K C (.type "BaseException")=some true
 ob:eI K C (.type "object")=some true
 is:(PySem.W.clsIn K C).isSome=true
end L2
end
section
namespace L2
open PySem PySem.Spec PyProof.Rows
theorem b2y {P:Program}{w:World}{X:Cx}:a2Y (CX1 P w) X E0:=λ_ _ _ _ _ _ _ ⟨_,_,_,_,_,_,_,h⟩=>h.elim
structure a6u (K:ae)(mg:Str->Option Value)(x:Str)(C:Addr):Prop where
 m:mg x=some (.ref C)
 ex:PySem.W.excIn K C [.type "ValueError",.type "Exception",.type "BaseException",.type "object"] "ValueError.__new__"=true
 k:b3F K C
section
variable {P:Program}{w:World}{K:ae}{mg:Str->Option Value}{base:Heap}
theorem Fun.ok1 {x qual:Str}{st:Stmt}{f:Addr}{fd:FuncData}{N ps:List Str}{k:Nat}{sp:Sp}(F:Fun K x qual st f fd)(S:B7 N ps (A7 st))(len:∀ vs H Q E,sp vs H Q E->vs.length=ps.length)
  (hbody:∀(cdv:Value) (A:Around) (outer:List Env) (s:Shared) (H:Hp) (vs:List V) (Q:VK) (E:XK),P0 k (A.deeper (envOfC qual (A7 st) s.heap.objs.size f cdv))->sp vs H Q E ->
   ∃ t,PSs (a1z (CX1 P w) P w K mg base N qual (A7 st) f cdv A outer s H E) (R0 st) t/\t {nx:=λ_ H'=>Q .non H',rt:=Q} (P1 N vs) H):B8 P w K mg base (CX1 P w) (k+1) f fd ps sp:=by
 obtain⟨oc,od,kV,doc,pm,an,cdv,ct,osl,rfl,lk,hcd⟩:=F.ex;exact b0c lk hcd S len λA outer s H vs Q E hr hsp=>hbody cdv A outer s H vs Q E hr hsp
end
theorem a2x {X:Cx}{k:Nat}{f:Addr}{fd:FuncData}{ps:List Str}{sp:Sp}{x:Str}{st:Stmt}{p pos:Pos}{e:Expr}{es:List Expr}{t:TA}(G:B8 X.prog X.w X.K X.mg X.base (CX1 X.prog X.w) k f fd ps sp)(D:Df X.K X.mg x st f fd ps)(hr:P0 k X.A)
  (ha:PA X (e::es) t) (hg:Gl X x:=by rfl) (hdb:(x == ("__debug__":Str))=false:=by decide) (he:starEach (e::es) X.env=(false,eval e X.env)::starEach es X.env:=by rfl) (hpl:(backTo pos (starEach es X.env)).any (·.1)=false:=by rfl) :
  PE X (.Call (.Name x p) (e::es) [] pos) (a4W sp [] E0 t):=a5r G hr hg D.m D.F.kp D.b .nil b2y ha hdb he hpl
theorem S9 {P:Program}{w:World}{K:ae}{mg:Str->Option Value}{base:Heap}{N:List Str}{qual:Str}{scope:Scope}{f0:Addr}{cd:Value}{A:Around}{outer:List Env}{s0:Shared}{H0:Hp}{E:XK}{x:Str}{C:Addr}{np cpos pos:Pos}(Z:a6u K mg x C)
  (hg:Gl (a1z (CX1 P w) P w K mg base N qual scope f0 cd A outer s0 H0 E) x:=by rfl) (hd:(x == ("__debug__":Str))=false:=by decide):PS (a1z (CX1 P w) P w K mg base N qual scope f0 cd A outer s0 H0 E) (.Raise (some (.Call (.Name x np) [] [] cpos)) none pos) (a4m E C) :=
 a7e PySem.F.excBase_ValueError rfl hg Z.m Z.ex a9i hd
end L2
end
section
namespace L2
open PySem PySem.Spec PyProof.Rows
section
variable {prog:Program}{w:World}{A:Around}{E:Value->Shared->Prop}
theorem a2f {it l:Addr}{items:Array Value}(hne:l≠it):∀(n i:Nat) (s:Shared) (Q:List Value->Shared->Prop),s.heap.IsListIter it l i->s.heap.IsList l items->i+n<=items.size ->
  (∀ h',h'.IsListIter it l (i+n)->dP it s.heap h'->Q ((items.toList.drop i).take n) {s with heap:=h'})->wpAny (model prog w) A (draw (.ref it) n) Q E s
 | 0,i,s,Q,hi,hl,hz,q=>au (by rw[cK] at q;exact q s.heap hi ⟨rfl,λ_ _=>rfl⟩)
 | n+1,i,s,Q,hi,hl,hz,q=>by
  have hx:items[i]?=some (items[i]'∅):=bC ∅;show wpAny _ _ (pyNext (.ref it) >>= _) _ _ _;refine af (fv hi hl hx λh1 hi1 sb=>?_);refine af (bQ (a2f (items:=items) hne n (i+1) _ _ hi1 ?_ ∅ λh2 hi2 sb2=>au ?_))
  ·obtain⟨o,ho,r⟩:=hl;exact⟨o,(sb.2 l hne).trans ho,r⟩
  ·have e:(items.toList.drop i).take (n+1)=items[i]'∅::(items.toList.drop (i+1)).take n:=by
    rw[dj (by rw[bo];omega),ix,Array.getElem_toList]
   rw[<- e];refine q h2 (by rw[show i+(n+1)=i+1+n by omega];exact hi2) ⟨sb2.1.trans sb.1,λb hb=>(sb2.2 b hb).trans (sb.2 b hb)⟩
theorem a4j {I l:Addr}{items:Array Value}{i0:Nat}(hne:l≠I)(hh:A.handled=none)(h0:i0<=items.size) :
  WalksS prog w A I [I,l] [I] (λa b=>a=b) (items.size-i0) (λj v=>items[i0+j]?=some v) (λj s=>s.heap.IsListIter I l (i0+j)/\s.heap.IsList l items):=by
 have keep:∀ {h h':Heap},dP I h h'->h.IsList l items->h'.IsList l items:=λsb ⟨o,ho,r⟩=>⟨o,(sb.2 l hne).trans ho,r⟩
 refine⟨λb hb=>by rw[ag.mp hb];exact aO,λ_=>rfl,λ_ _ _ h h'=>h.trans h',?_,?_,?_,?_⟩
 ·rintro i s h' tk ⟨⟨o,ho,r⟩,⟨o2,ho2,r2⟩⟩ _ hk;exact⟨⟨o,hk I (by simp) o ho,r⟩,⟨o2,hk l (by simp) o2 ho2,r2⟩⟩
 ·rintro i s Q E hi ⟨h1,h2⟩ q;have hx:items[i0+i]?=some (items[i0+i]'∅):=bC ∅;refine fv h1 h2 hx λh' hi' sb=>q _ _ hx ⟨hi',keep sb h2⟩ ⟨λb o hb e=>(sb.2 b (λe'=>hb (by rw[e'];simp))).trans e,rfl,rfl,rfl,aj _⟩
 ·rintro s Q E ⟨h1,h2⟩ q;refine iP hh h1 h2 (bZ ∅) λh' eb=>q _ ⟨λb o hb e=>eb b o (λe'=>hb (by rw[e'];simp)) e,rfl,rfl,rfl,aj _⟩
 ·rintro i s Q E ⟨h1,h2⟩ q;exact iQ h1 q
theorem a3b {s:Shared}{l:Addr}{items:Array Value}{n i:Nat}{Q:List Value->Shared->Prop}(hl:s.heap.IsList l items)(hh:A.handled=none)(hi:i<n)(hn:n<=items.size+1)(hz:items.size<=sizeLine)
  (h:∀(h':Heap) (tk:Nat),(∀ b o,s.heap.get? b=some o->h'.get? b=some o)->s.toks<=tk->Q (items.toList.take i++[.ref h'.objs.size]++items.toList.drop (items.size-(n-1-i))) {s with heap:=h'.push {cls:=.type "list",data:=.seq ((items.toList.drop i).take (items.size-(n-1))).toArray},toks:=tk}) :
  wpAny (model prog w) A (unpackItems (.ref l) n (some i)) Q E s:=by
 obtain⟨o,ho,r⟩:=id hl;have hlt:l≠s.heap.objs.size:=aS (aF ho);unfold unpackItems notIterableAtAll;refine af (af (g4 hl.typeIs F.slot_list_iter.lookup (show wpAny _ _ (pure false) _ _ _ from au ?_)));show wpAny (model prog w) A (holding [.ref l] (pyIter (.ref l)) >>= _) _ _ _;refine af (bQ (i9 hl ?_));have hl1:(s.heap.push {cls:=.type "list_iterator",data:=.fields #[.ref l,.int 0 0]}).IsList l items:=⟨o,ak _ ho,r⟩
 have hit:(s.heap.push {cls:=.type "list_iterator",data:=.fields #[.ref l,.int 0 0]}).IsListIter s.heap.objs.size l 0:=⟨_,aK _ rfl,rfl,rfl⟩
 show wpAny (model prog w) A (holding [.ref s.heap.objs.size] (draw (.ref s.heap.objs.size) i) >>= _) _ _ _;refine af (bQ (a2f hlt i 0 _ _ hit hl1 ∅ λh1 hi1 sb1=>?_));have ef:((items.toList.drop 0).take i).length=i:=by rw[eF,aN,bo];omega
 rw[cT] at hi1;dsimp only;rw[if_neg (by rw[ef];omega)];have hl2:h1.IsList l items:=by
  obtain⟨o1,ho1,r1⟩:=hl1;exact⟨o1,(sb1.2 l hlt).trans ho1,r1⟩
 have hI1:s.heap.objs.size<h1.objs.size:=by
  obtain⟨o1,ho1,_⟩:=hi1;exact aF ho1
 have hL1:l<h1.objs.size:=dQ (aF ho) hI1;refine af (bQ (wpAny_collect_iter (.inr (.inr (.inl rfl))) (a4j hlt (by exact hh) (i0:=i) ∅) ?_ ⟨hi1,hl2⟩ ?_ (by simp) (λs2 acc mv hacc=>?_) ∅))
 ·rintro j s' ⟨⟨o',ho',hc,_⟩,_⟩;exact⟨o',ho',hc⟩
 ·intro b hb;simp only[aW,cH,or_false] at hb;rcases hb with rfl | rfl
  ·exact hI1
  ·exact hL1
 have ea:acc.toList=items.toList.drop i:=by
  refine cX λj=>?_
  rw[bi,eB,bi];rcases bS j acc.size with c | c
  ·rw[bC c,hacc.2 j _ (bC c)]
  ·rw[bZ c,bZ (by have:=hacc.1;omega)]
 have el:acc.toList.length=items.size-i:=by rw[bo];exact hacc.1
 rw[if_neg (by rw[el];omega),el,ea];refine af (fZ ?_);refine au ?_;have e1:items.size-i-(n-1-i)=items.size-(n-1):=∅
 have e2:(items.toList.drop i).drop (items.size-(n-1))=items.toList.drop (items.size-(n-1-i)):=by
  rw[List.drop_drop];congr 1;omega
 rw[e1,e2,eF];have ext:∀ b o',s.heap.get? b=some o'->s2.heap.get? b=some o':=λb o' e=>by
  have hb:b≠s.heap.objs.size:=aS (aF e);exact mv.heap b o' (~~~hb) ((sb1.2 b hb).trans (ak _ e))
 obtain⟨hp2,g2,d2,tk2,os2⟩:=s2;have q:=h hp2 tk2 ext mv.toks;have m1:s.gens=g2:=mv.gens;have m2:d2=s.drawn:=mv.drawn;have m3:os2=s.os:=mv.os;subst m1 m2 m3;exact q
end
section
variable {X:Cx}{pos:Pos}
def a7Y (K:ae)(n i:Nat)(t:TGs):TG:=λv σ H Q=>∃ a xs,v=.ref a/\SqL K H a xs/\n<=xs.length+1 /\
 ∀ p,H p=none->t (xs.take i++[.ref p]++xs.drop (xs.length-(n-1-i))) σ (upd H p (.lst ((xs.drop i).take (xs.length-(n-1))))) Q
theorem a3D {e:Expr}{p:Pos}{es:List Expr}{t:TG}{u:TGs}(h1:PG X e t)(h2:PGs X es u)
  (hs:(assignEach (.Starred e p::es) X.env).map (·.2)=assign e X.env::(assignEach es X.env).map (·.2):=by rfl):PGs X (.Starred e p::es) (a7Z t u):=by
 intro pins s σ H vs us Q I r h;obtain⟨v,vr,e1,h⟩:=h;subst e1;cases r with
 | cons r rr =>
  rw[hs];refine assignInOrder_cons (thn (h1 pins s σ H _ _ _ I r h) λ_ s1 ⟨σ1,H1,I1,q1⟩=>?_);exact h2 pins s1 σ1 H1 _ _ Q I1 rr q1
theorem a8N {es:List Expr}{k:Nat}{t:TGs}{n i:Nat}(hc:X.calm=true)(h:PGs X es t)
  (hn:(assignEach es X.env).length=n:=by rfl) (hst:(assignEach es X.env).findIdx? (·.1)=some i:=by rfl) (hi:i<n:=by decide):PG X (.Tuple es k pos) (a7Y X.K n i t):=by
 intro pins s σ H v u Q I r hw;obtain⟨a,xs,e1,hq,hl,hw⟩:=hw;subst e1;cases r;obtain⟨its,rv,pl,hz⟩:=I.list hq;have hlen:=rv.length;rw[arm_assign_Tuple];unfold unpack;rw[hn,hst];refine af (dM (af (bQ (a3b pl.isList (I.ok.hd hc) hi (by rw[aA];omega) (by rw[aA,<- hlen];exact hz) λh' tk ext htk=>?_))));have I1:Inv X pins σ H {s with heap:=h',toks:=tk}:=I.kept (t':=tk) λb o e=>ext b o e
 have np:H h'.objs.size=none:=I1.hok.fresh (aj _);have ez:(its.toArray.toList.drop i).take (its.toArray.size-(n-1))=(its.drop i).take (xs.length-(n-1)):=by rw[aA,<- hlen]
 have I2:Inv X pins σ (upd H h'.objs.size (.lst ((xs.drop i).take (xs.length-(n-1))))) {s with heap:=h'.push {cls:=.type "list",data:=.seq ((its.toArray.toList.drop i).take (its.toArray.size-(n-1))).toArray},toks:=tk}:=by
  refine I1.laid (t':=tk) (λb ob q=>ak _ q) (aj _) ⟨?_,_,0,(rv.drop i).take (xs.length-(n-1)),?_⟩
  ·rw[aN,fV];omega
  ·rw[ez];exact aK _ rfl
 refine h pins _ σ _ _ _ Q I2 ?_ (hw _ np);rw[show its.toArray.size=xs.length by rw[aA];exact hlen.symm];exact ((rv.take i).append (.cons (show C6 (.ref _) _ from rfl) .nil)).append (rv.drop _)
theorem a3E {es:List Expr}{k:Nat}{t:TGs}{n i:Nat}(K:ae)(hc:X.calm=true)(h:PGs X es t)
  (hn:(assignEach es X.env).length=n:=by rfl) (hst:(assignEach es X.env).findIdx? (·.1)=some i:=by rfl) (hi:i<n:=by decide) (hK:X.K=K:=by rfl):PG X (.Tuple es k pos) (a7Y K n i t):=by subst hK;exact a8N hc h hn hst hi
end
end L2
end
section
namespace L2
open PySem PySem.Spec PyProof.Rows
abbrev TJ:=Str->St->Hp->(Str->Hp->Prop)->Prop
section
variable {X:Cx}
def PJ (X:Cx)(es:List Expr)(t:TJ):Prop:=∀(pins:List (Addr×Obj)) (s:Shared) (σ:St) (H:Hp) (acc:Str) (Q:Str->Hp->Prop) (R:Str->Shared->Prop),Inv X pins σ H s->t acc σ H Q ->
 (∀ out s' H',Inv X pins σ H' s'->Q out H'->R out s')->Joins (model X.prog X.w) X.A X.xe (evalEach es X.env) acc R s
def b2H:TJ:=λacc _ H Q=>Q acc H
def b2G (y:Str)(u:TJ):TJ:=λacc σ H Q=>(acc++y).length<=sizeLine/\u (acc++y) σ H Q
def b2I (te:TE)(u:TJ):TJ:=λacc σ H Q=>te σ H λv H1=>∃ i,v=.int i/\i.natAbs.log2<1920/\(acc++tS i).length<=sizeLine/\u (acc++tS i) σ H1 Q
theorem a4q:PJ X [] b2H:=λ_ _ _ H _ _ _ I h k=>Joins_nil (k _ _ _ I h)
theorem Z5 {y:Str}{j:_}{pos:Pos}{es:List Expr}{u:TJ}(h:PJ X es u):PJ X (.Constant (.str y) j pos::es) (b2G y u):=by
 intro pins s σ H acc Q R I ⟨hz,q⟩ k;exact Joins_cons (iu ⟨y,_,rfl,hz,h pins _ σ H _ Q R (I.tok _) q k⟩)
theorem a0Y {e:Expr}{te:TE}{pos:Pos}{es:List Expr}{u:TJ}(he:PE X e te)(h:PJ X es u):PJ X (.FormattedValue e (-1) none pos::es) (b2I te u):=by
 intro pins s σ H acc Q R I q k;refine Joins_cons (wpAny_FormattedValue_plain (thn (he pins s σ H _ I q) λv s1 ⟨x,H1,I1,r1,i,ex,hl,hz,q1⟩=>?_));subst ex;obtain⟨t,rfl⟩:=r1;exact wpAny_formatField_int hl ⟨tS i,_,rfl,hz,h pins _ σ H1 _ Q R (I1.kept (t':=_) λ_ _ e=>e) q1 k⟩
def tJ (t:TJ):TE:=fun σ H Q=>t Str.empty σ H λout H'=>out.length<=sizeLine/\Q (.str out) H'
theorem a2A {a b:Expr}{es:List Expr}{pos:Pos}{t:TJ}(h:PJ X (a::b::es) t):PE X (.JoinedStr (a::b::es) pos) (tJ t):=by
 intro pins s σ H Q I q;exact wpAny_JoinedStr (h pins s σ H Str.empty _ _ I q λout s' H' I' ⟨hz,q'⟩=>⟨hz,.str out,H',I'.tok _,⟨_,rfl⟩,q'⟩)
end
end L2
end
section
set_option format.width 230
set_option pp.deepTerms true
set_option pp.maxSteps 20000
namespace K82
open PySem L2
local macro_rules | `(tactic| walk_at "rd")=>`(tactic| ((try simp only[L2.P1,st0,ao,cz,aH,bR,List.replicate,bT,cf,Nat.reduceAdd,Nat.reduceSub,gU,gW,Option.join_some]);simp only[↓b1U,↓b2n,↓b3f,↓tCA,↓b1W,↓b0p,↓b2i,↓b0m,↓tBA,↓b0t,↓b0v,↓b0z,↓b0x,↓b2c,↓b3i,↓b3j,↓b2m,↓b1S,↓b2e,↓b2K,↓b1x,↓b2N,↓b2L,↓b3c,↓a6G,↓b0q,↓b2o,↓b3e,↓b2a,↓b2k,↓a6H,↓b0D,↓b1v,↓b2J,↓b1u,↓b1t,↓b3g,↓b3h,↓a8A,↓b0B,↓b1Y,↓b0r,↓b3b,↓b1Q,↓a8z,↓a8y,↓b2g,↓b0s,↓tV0,↓tV1,↓tV2,↓tV3,↓tV4,↓tV5,↓tV6,↓tV7,↓tV8,↓tV9,↓b3a,↓b2Z,↓b2Y,↓b2X,↓b2W,↓b2V,↓gN0,↓gN1,↓gN2,↓gN3,↓gN4,↓gN5,↓gN6,↓gN7,↓gN8,↓gN9,↓b3z,↓b3y,↓b3x,↓b3w,↓b3v,↓b3u,↓b3n,↓rIi,↓b2v,↓b2u,↓exB,↓exI,↓exR,↓b3o,↓b3m,↓b2R,rI,rI0,a2t,b0H,a9T,a9I,a9N,a2p,a8I,a8H,rEq,rNe,b1E,b0e,a8l,a8n,a8m,b1F,a2s,a8o,rU,L2.P1,st0,ao,cz,aH,bR,List.replicate,bT,cf,b5,gU,gW,List.set_cons_zero,List.set_cons_succ,Option.some.injEq,V.int.injEq,V.bl.injEq,V.ref.injEq,List.cons.injEq,and_true,true_and,exists_eq_left',exists_eq_left,exists_eq',exists_eq,Nat.reduceAdd,Nat.reduceSub,exists_and_left,and_self,Option.join_some,a6S,decide_true,if_true,if_false,aP,dY,Bool.not_false,T7,M6,a4m,a6J,a6Z,a4o,a7a,a9V,a7Y,tJ,b2H,b2G,b2I]))
def top (i:Nat):Stmt:=PySem.Challenge.pw_manyleaves_k82_texts.main.body.getD i (.Pass ⟨0,0,0,0⟩)
section
variable {P:Program}{w:World}{K:ae}{mg:Str->Option Value}{base:Heap}
set_option hygiene false
local macro_rules | `($a <*> $b) => `(@A0 _ _ _ _ _ $a $b (by rfl))
local macro_rules | `($a <* $b) => `(@A3 _ _ _ _ _ $a $b)
local macro_rules | `($a <|> $b) => `(@E4 _ _ _ _ _ _ _ (E1 K) $a $b (λ_ _=>rfl))
local macro_rules | `($a *> $b) => `(@E4 _ _ _ _ _ _ _ (J0 K) $a $b (λ_ _=>rfl))
local macro_rules | `($a &&& $b) => `(@B3 _ _ _ _ _ _ _ _ J2 $a $b)
local macro_rules | `($a ||| $b) => `(@B3 _ _ _ _ _ _ _ _ R8 $a $b)
local macro_rules | `($a ^^^ $b) => `(@B3 _ _ _ _ _ _ _ _ P7 $a $b)
set_option hygiene true
set_option hygiene false
local macro_rules | `(tactic| walk_at "s") => `(tactic| exact⟨rfl,rfl,rfl,by decide +kernel,rfl,by decide +kernel,by decide +kernel⟩)
local macro_rules | `(tactic| walk_at "w") => `(tactic| with_unfolding_all rfl)
local macro_rules | `(tactic| walk_at "h") => `(tactic| ((repeat first | (obtain⟨rfl,h⟩:=h) | (obtain⟨_,h⟩:=h));all_goals rfl))
set_option hygiene true
theorem _root_.L2.P0.m {j k:Nat}{A:Around}(r:P0 k A)(h:j<=k:=by decide):P0 j A:=r.mono h
open PyProof.Rows (boot_bool boot_int boot_isinstance boot_list boot_max boot_min boot_range boot_repr boot_sorted boot_str boot_tuple)
theorem a3x:B7 ["_law_cell","_law_k","_law_number"] ["_law_cell","_law_k"] (A7 (top 32)):=by walk_at "s"
theorem a7u (F:Fun K "_law_mixed" "_law_mixed" (top 32) f fd)(B:Bt mg):B8 P w K mg base CX0 1 f fd ["_law_cell","_law_k"] a3n:=by
 refine F.ok a3x (λvs H Q E h=>?_) (λcdv A outer s H vs Q E hr h=>?_)
 ·walk_at "h"
 ·obtain⟨c,k,rfl,hk0,hk1,q⟩:=h;have nd:=a3x.nd;have hu:=E8 hr
  refine⟨_,(A3 (C1 (i:=2) nd rfl (.inl rfl) (B3 J2 (B3 R8 (B3 R8 (pv 0) (B3 X2 (B3 X2 (pv 1) (pv 1)) A5)) A5) A5))
    (A3 (C1 (i:=2) nd rfl (.inl rfl) (B3 J2 (B3 X2 (pv 2) (pv 2)) A5))
    (A3 (C1 (i:=2) nd rfl (.inl rfl) (B3 J2 (B3 X2 (B3 R8 (B3 R8 (pv 2) (B3 X2 (pv 1) A5)) A5) A5) A5))
    (A4 (B4 (B3 a2C (B3 J2 (B3 X2 (pv 2) (pv 2)) A5) A5)))))),?_⟩
  walk_at "rd";have hm:∀ x:Int,0<=x % 2305843009213693951/\x % 2305843009213693951<2305843009213693951:=λx=>⟨ca _ (by decide),bN _ (by decide)⟩
  have small:∀ x y:Int,a9F (x % 2305843009213693951) y:=λx y=>.inl ⟨by have:=hm x;omega,by have:=hm x;omega⟩
  have pos:(0:Int)<2305843009213693951:=by decide
  exact⟨.inl ⟨∅,∅⟩,.inr ⟨by decide,by decide⟩,pos,small _ _,pos,.inl ⟨∅,∅⟩,.inr ⟨by decide,by decide⟩,pos,small _ _,pos,⟨by decide,by decide⟩,q _⟩
theorem a5k:B7 ["_law_deck_here"] ["_law_deck_here"] (A7 (top 34)):=by walk_at "s"
theorem a8W (F:Fun K "_law_next" "_law_next" (top 34) f fd)(B:Bt mg):B8 P w K mg base CX0 1 f fd ["_law_deck_here"] U0:=by
 refine F.ok a5k (λvs H Q E h=>?_) (λcdv A outer s H vs Q E hr h=>?_)
 ·walk_at "h"
 ·obtain⟨d,ns,rfl,hd,q⟩:=h;have nd:=a5k.nd;have hu:=E8 hr
  refine⟨_,(A3 (K3 (E5 a7l (A9 (a1g K) (by rfl) B.len b8 (A0 (pv 0) A1)) A5 (E7 _))
     (A4 (B4 (b2w K (pv 0))))
     D0)
    (A4 (B4 A5))),?_⟩
  walk_at "rd";refine⟨ns.map V.int,.inl (SqL.of hd),Y7 (λh=>?_) λh=>?_⟩
  ·refine⟨.inl ⟨rfl,_,SqL.of hd⟩,?_⟩;have hne:ns≠[]:=λe=>by subst e;simp at h
   have h1:(ns.map V.int)[(ns.map V.int).length-1]?=some (V.int (ns.getLast hne)):=by
    rw[aa,aC,<- List.getLast?_eq_getElem?,List.getLast?_eq_some_getLast hne];rfl
   refine⟨ns.map V.int,hd,_,h1,?_⟩;rw[<- List.map_dropLast];exact q _ _ (by rw[ip];omega) (λx hx=>List.dropLast_subset _ hx) (.inr (List.getLast_mem hne))
  ·have e:upd H d (.lst (ns.map V.int))=H:=a6A hd;have:=q 0 ns (aj _) (λ_ h=>h) (.inl rfl);rw[e] at this;exact this
def a7S (H:Hp)(a p4 p5 p6:Addr)(m:Int)(os:List Int)(i:Nat)(σ:St)(Hc:Hp):Prop:=∃(kv av:Option V) (rs ds:List Int),σ=[some (.ref a),some (.int m),some (.ref p4),some (.ref p5),some (.ref p6),kv,av]/\B0 H Hc/\Hc p4=some (.lst (os.map V.int)) /\
 Hc p5=some (.lst (rs.map V.int))/\rs.length=os.length/\Hc p6=some (.lst (ds.map V.int))/\ds.length=i/\(∀ x∈ds,0<=x/\x<1000)
theorem a5m:B7 ["_law_script","_law_many","_law_own","_law_rest","_law_deck_here","_law_k","_law_at"] ["_law_script","_law_many"] (A7 (top 33)):=by walk_at "s"
theorem a8Y (F:Fun K "_law_deck" "_law_deck" (top 33) f fd)(B:Bt mg)(D1:Df K mg "_law_mixed" st1 f1 fd1 ["_law_cell","_law_k"])(G1:B8 P w K mg base CX0 1 f1 fd1 ["_law_cell","_law_k"] a3n):B8 P w K mg base CX0 2 f fd ["_law_script","_law_many"] (a5e K):=by
 refine F.ok a5m (λvs H Q E h=>?_) (λcdv A outer s H vs Q E hr h=>?_)
 ·walk_at "h"
 ·obtain⟨a,m,ns,rfl,hS,hl,hm0,hm1,q⟩:=h;have nd:=a5m.nd;have hu:=E8 hr
  refine⟨_,(A3 (C1 (i:=2) nd rfl (.inl rfl) (B3 b0U (C2 (b2E K) (by rfl) B.list boot_list (A0 (a3F (a6P K) (pv 0) a5q (a5p A5)) A1)) (B3 b0Q (L1 (A0 A5 A1)) (C2 a2i (by rfl) B.int boot_int (A0 (U2 a1U (A9 (a1g K) (by rfl) B.len b8 (A0 (pv 0) A1)) A5 (E7 _)) A1)))))
    (A3 (S8 (i:=3) (own:=["_law_cell"]) (fr:=[]) rfl nd rfl rfl (by walk_at "w") (by walk_at "w") E2 (J5 K (pv 2)) ⟨λ_ _ _ _=>⟨(A6 (i:=0) (show bH (["_law_cell"]:List Str) by decide +kernel) rfl (.inl rfl)),J8,(E4 (E1 K) (L1 (A0 A5 (A0 (pv 0) A1))) (C2 a2i (by rfl) B.int boot_int (A0 (U2 b2A (pv 0) (B3 b0R A5 A5) (E7 _)) A1)) (λ_ _=>rfl))⟩⟩)
    (A3 (C1 (i:=4) nd rfl (.inl rfl) (L1 A1))
    (A3 (M4 bn rfl (P6 (by rfl) B.range (A0 (pv 1) A1)) (A6 (i:=5) nd rfl (.inl rfl))
     (A3 (C1 (i:=6) nd rfl (.inl rfl) (B3 J2 (pv 5) (A9 (a1g K) (by rfl) B.len b8 (A0 (pv 2) A1))))
     (A4 (K3 (E5 a7l (E4 (E1 K) (pv 3) (pv 6) (λ_ _=>rfl)) A5 (E7 _))
      (A3 (N8 (O0 K (pv 4) (A0 (B3 J2 (E4 (E1 K) (pv 3) (pv 6) (λ_ _=>rfl)) A5) A1)))
      (A4 (X0 (B3 a2C (E4 (E1 K) (pv 3) (pv 6) (λ_ _=>rfl)) A5) (b0L (pv 3) (pv 6) a6Q))))
      (A4 (N8 (O0 K (pv 4) (A0 (B3 J2 (B1 G1 D1 hr.m (A0 (E4 (E1 K) (pv 2) (pv 6) (λ_ _=>rfl)) (A0 (B3 R8 (pv 5) A5) A1))) A5) A1))))))))
    (A4 (B4 (a4r hr.hd (by rfl) B.list (by rfl) B.reversed (pv 4)))))))),?_⟩
  walk_at "rd";refine⟨a,ns.map V.int,rfl,hS,λp1 n1=>⟨p1,rfl,_,.inl (SqL.of A2),λl nl=>⟨by decide,λp2 n2=>?_⟩⟩⟩;have s1:=(B0.refl H).upd (o:=.lst (V3 (ns.map V.int) none (some 60))) n1;have s2:=s1.upd (o:=.lst (V3 (ns.map V.int) none (some 60))) (s1.free nl);have s3:=s2.upd (o:=.lst [V.int 0]) (s2.free n2);refine⟨ns.map V.int,.inl (s3.seq hS),p2,_,_,rfl,rfl,A2,?_,?_,?_,λp3 n3=>?_⟩
  ·split<;>decide
  ·split<;>decide
  ·rw[sizeLine_eq];split<;>decide
  have s4:=s3.upd (o:=.lst (List.replicate (if decide ((ns.map V.int).length=(0:Int))=true then (1:Int) else 0).toNat [V.int 0]).flatten) (s3.free n3);have hlp:l≠p2:=λe=>by subst e;rw[A2] at n2;cases n2
  have hl3:l≠p3:=λe=>by subst e;rw[A8 hlp,A2] at n3;cases n3
  obtain⟨os,eo,ho1,ho2⟩:∃ os:List Int,V3 (ns.map V.int) none (some 60)++(List.replicate (if decide ((ns.map V.int).length=(0:Int))=true then (1:Int) else 0).toNat [V.int 0]).flatten=os.map V.int/\1<=os.length/\os.length<=64:=by
   by_cases e:ns=[]
   ·subst e;exact⟨[0],rfl,by decide,by decide⟩
   ·have hne:¬ ((ns.map V.int).length:Int)=0:=by rw[aa];have:=d8.mpr e;omega
    rw[decide_eq_false hne];refine⟨ns.take 60,?_,?_,?_⟩
    ·have h60:HT.sIx (ns.map V.int).length (ns.map V.int).length (some 60)=min 60 ns.length:=by rw[show (60:Int)=((60:Nat):Int) from rfl,HT.sIx_nat,aa]
     unfold V3;rw[HT.sIx_none,eF,h60,Nat.sub_zero];simp only[aP,if_false,Int.toNat_zero,List.replicate,List.flatten_nil,b5];rw[<- gR];congr 1;by_cases h:60<=ns.length
     ·rw[Nat.min_eq_left h]
     ·rw[Nat.min_eq_right ∅,ce (aj _),ce ∅]
    ·have:=d8.mpr e;rw[aN];omega
    ·rw[aN];omega
  refine⟨l,p3,_,_,rfl,rfl,by rw[A8 hl3,A8 hlp,A2],A2,?_,λp4 n4=>?_⟩
  ·have:=congrArg cE eo;have e2:(os.map V.int).length=os.length:=aa _;rw[aD] at this;rw[sizeLine_eq];omega
  rw[eo];have s5:=s4.upd (o:=.lst (os.map V.int)) (s4.free n4);generalize hH5:upd (upd (upd (upd (upd H p1 (HO.lst (V3 (ns.map V.int) none (some 60)))) l (HO.lst (V3 (ns.map V.int) none (some 60)))) p2 (HO.lst [V.int 0])) p3 (HO.lst (List.replicate (if decide ((ns.map V.int).length=(0:Int))=true then (1:Int) else 0).toNat [V.int 0]).flatten)) p4 (HO.lst (os.map V.int))=H5 at s5 ⊢;have h4:H5 p4=some (.lst (os.map V.int)):=by rw[<- hH5];exact A2
  refine⟨p4,rfl,⟨_,SqL.of h4⟩,λp5 n5=>N9 (K:=K) (xs:=os.map V.int) (λi τ Hc=>∃(c:Option V) (rs:List Int),τ=[c]/\B0 H5 Hc/\Hc p5=some (.lst (rs.map V.int))/\rs.length=i)
   ⟨none,[],rfl,(B0.refl H5).upd n5,A2,rfl⟩ (λi τ Hc _ ⟨_,_,_,sc,_⟩=>SqL.of (sc _ _ h4)) ?_ ?_⟩
  ·rintro i x τ Hc hx ⟨c,rs,rfl,sc,h5,hi⟩ _;have hil:i<os.length:=by have:=(ap.mp hx).1;rw[aa] at this;exact this
   obtain⟨z,rfl⟩:∃ z,x=V.int z:=by
    rw[aC] at hx;cases e:os[i]? with
    | none=>rw[e] at hx;cases hx
    | some z=>rw[e] at hx;exact⟨z,(aG hx).symm⟩
   walk_at "rd";refine⟨by decide,λp n=>⟨⟨by decide,by decide,by decide⟩,?_⟩⟩;have h5':∀ o,(upd Hc p o) p5=some (.lst (rs.map V.int)):=λo=>by rw[A8 (C3 h5 n)];exact h5
   refine⟨[V.int 0,V.int z],SqL.of A2,?_⟩;generalize decide ((10:Int) ^ Int.toNat 18<=z)=b;obtain⟨y,hy⟩:∃ y:Int,atI [V.int 0,V.int z] (if b=true then 1 else 0)=some (V.int y):=by
    cases b
    ·exact⟨0,rfl⟩
    ·exact⟨z,rfl⟩
   refine⟨_,hy,_,h5' _,?_,(sc.upd (sc.free n)).upd n5,rs++[y],?_,?_⟩
   ·rw[aa];exact B5 ∅
   ·rw[A2,aE];rfl
   ·rw[aD,hi];rfl
  ·rintro τ H6 ⟨c,rs,rfl,s6,h5,hrs⟩;rw[aa] at hrs;refine⟨by decide,λp6 n6=>?_⟩;have s06:B0 H H6:=s5.trans s6;have h46:H6 p4=some (.lst (os.map V.int)):=s6 _ _ h4;have n45:p4≠p5:=C3 h4 n5;have n46:p4≠p6:=C3 h46 n6;have n56:p5≠p6:=C3 h5 n6
   refine⟨_,rfl,m,rfl,∅,∅,T3 (lo:=0) (n:=m.toNat) (a7S H a p4 p5 p6 m os)
    ⟨none,none,rs,[],rfl,s06.upd (s06.free n6),by rw[A8 n46];exact h46,by rw[A8 n56];exact h5,hrs,A2,rfl,λx hx=>(by cases hx)⟩ ?_ ?_⟩
   ·rintro i σ Hc hi ⟨kv,av,rs,ds,rfl,sc,c4,c5,hrl,c6,hdl,hdb⟩;have hoi:(0:Int)<(os.map V.int).length:=by rw[aa];omega
    have hat:∃ j:Nat,j<os.length/\(0+(i:Int)) % ((os.map V.int).length:Int)=(j:Int):=by
     have h1:=ca (0+(i:Int)) (b:=((os.map V.int).length:Int)) ∅;have h2:=bN (0+(i:Int)) hoi;refine⟨((0+(i:Int)) % ((os.map V.int).length:Int)).toNat,?_,∅⟩;rw[aa] at h2 ⊢;omega
    obtain⟨j,hj,ej⟩:=hat;have atR:∀(l:List Int),l.length=os.length->∃ z,atI (l.map V.int) (j:Int)=some (V.int z):=λl e=>by
     have hjl:j<l.length:=∅
     exact⟨l[j],V9 (by rw[aC,aq hjl];rfl)⟩
    obtain⟨z,hz⟩:=atR rs hrl;obtain⟨z',hz'⟩:=atR os rfl;have n65:p6≠p5:=n56.symm;have hdb2:∀ y:Int,∀ x∈ds++[y % 1000],0<=x/\x<1000:=λy x hx=>by
     rcases al.mp hx with hx | hx
     ·exact hdb x hx
     ·rw[ag.mp hx];omega
    have n64:p6≠p4:=n46.symm;have hdl2:(ds.map V.int).length<sizeLine:=by rw[aa];exact B5 ∅
    have c5':∀ o,(upd Hc p6 o) p5=some (.lst (rs.map V.int)):=λo=>by rw[A8 n56];exact c5
    have hm6:H p6=none:=s06.free n6;have hm5:H p5=none:=(s5.free n5)
    walk_at "rd";refine⟨_,.inl (SqL.of c4),hoi,_,SqL.of c5,?_⟩;rw[ej];refine⟨_,hz,z,rfl,Y7 (λ_=>?_) λ_=>?_⟩
    ·refine⟨.inl ⟨rfl,_,SqL.of c6⟩,_,SqL.of c5,_,hz,z,rfl,by decide,_,c6,hdl2,_,SqL.of (c5' _),_,hz,z,rfl,⟨by decide,by decide⟩,?_⟩;have hix:ixN (rs.map V.int).length (j:Int)=some j:=by
      unfold ixN;rw[aa,if_pos ∅,if_pos ∅];simp
     refine⟨_,c5' _,j,hix,?_⟩;refine⟨_,_,rs.set j (z / 1000),ds++[z % 1000],rfl,(sc.upd hm6).upd hm5,by rw[A8 n45,A8 n46];exact c4,by rw[A2,List.map_set],by rw[dC];exact hrl,?_,by rw[aD,hdl];rfl,hdb2 z⟩;rw[A8 n65,A2,aE];rfl
    ·refine⟨.inl ⟨rfl,_,SqL.of c6⟩,_,SqL.of c4,_,hz',z',_,rfl,∅,∅,λy=>?_⟩;walk_at "rd";refine⟨by decide,_,c6,hdl2,?_⟩;refine⟨_,_,rs,ds++[y % 1000],rfl,sc.upd hm6,by rw[A8 n46];exact c4,by rw[A8 n56];exact c5,hrl,by rw[A2,aE];rfl,by rw[aD,hdl];rfl,hdb2 y⟩
   ·rintro σ Hc ⟨kv,av,rs,ds,rfl,sc,c4,c5,hrl,c6,hdl,hdb⟩;walk_at "rd";refine⟨_,c6,λp7 n7=>?_⟩;rw[<- List.map_reverse];exact q p7 ds.reverse _ ⟨by rw[fA];omega,λx hx=>hdb x (List.mem_reverse.mp hx)⟩ (sc.upd (sc.free n7)) (sc.free n7) A2
def a6f (H:Hp)(d p:Addr)(i:Nat)(τ:St)(Hc:Hp):Prop:=∃(c:Option V) (ps:List (Addr×List Int)),τ=[c,some (.ref d)]/\Kp d H Hc/\L9 Hc d/\Hc p=some (.lst (ps.map λx=>V.ref x.1)) /\
 (∀ x∈ps,Hc x.1=some (.tup (x.2.map V.int))/\∃ z k,x.2=[z,k])/\ps.length=i/\ps.map (λx=>x.2.getD 1 0)=B6 0 i
def a6e (H:Hp)(p:Addr)(ps:List (Addr×List Int))(i:Nat)(τ:St)(Hc:Hp):Prop:=∃(c k:Option V),τ=[c,k]/\B0 H Hc/\Hc p=some (.lst (((ps.map λx=>x.2.getD 1 0).take i).map V.int))
theorem a5f:B7 ["_law_deck_here","_law_many"] ["_law_deck_here","_law_many"] (A7 (top 35)):=by walk_at "s"
theorem a8R (F:Fun K "_law_turn" "_law_turn" (top 35) f fd)(B:Bt mg)(D1:Df K mg "_law_next" st1 f1 fd1 ["_law_deck_here"])(G1:B8 P w K mg base CX0 1 f1 fd1 ["_law_deck_here"] U0):B8 P w K mg base CX0 2 f fd ["_law_deck_here","_law_many"] a2q:=by
 refine F.ok a5f (λvs H Q E h=>?_) (λcdv A outer s H vs Q E hr h=>?_)
 ·walk_at "h"
 ·obtain⟨d,n,rfl,hd,hn0,hn1,q⟩:=h;have nd:=a5f.nd;have hu:=E8 hr;refine⟨_,(A4 (B4 (C2 (T6 K) (by rfl) B.tuple cF (A0 (K9 (own:=["_law_cell","_law_at"]) (fr:=[]) rfl (by walk_at "w") E2 (J5 K (A9 (a0Q K) (by rfl) B.sorted fq (A0 (K9 (own:=["_law_at"]) (fr:=[("_law_deck_here",0)]) rfl (by walk_at "w") (K1 rfl rfl E2) (P6 (by rfl) B.range (A0 (pv 1) A1)) ⟨λ_ _ _ _=>⟨(A6 (i:=0) (show bH (["_law_at","_law_deck_here"]:List Str) by decide +kernel) rfl (.inl rfl)),J8,(N1 (A0 (B1 G1 D1 hr.m (A0 (pv 1) A1)) (A0 (pv 0) A1)))⟩⟩) A1))) ⟨λ_ _ _ _=>⟨(M0 K (n:=2) rfl (B9 (A6 (i:=0) (show bH (["_law_cell","_law_at"]:List Str) by decide +kernel) rfl (.inl rfl)) (B9 (A6 (i:=1) (show bH (["_law_cell","_law_at"]:List Str) by decide +kernel) rfl (.inl rfl)) K5))),J8,(pv 1)⟩⟩) A1)))),?_⟩;walk_at "rd";refine⟨∅,∅,λp n=>Y6 (a6f H d p) ⟨none,[],rfl,(Kp.refl d H).new n,hd.new (hd.ne n),A2,(λx hx=>by cases hx),rfl,rfl⟩ ?_ ?_⟩
  ·rintro i τ Hc hi ⟨c,ps,rfl,k,dk,hp,hall,hl,hm⟩;walk_at "rd";refine L6 dk λz H1 k1 dk1 e1=>⟨by decide,λq1 nq=>?_⟩
   have hp1:H1 p=some (.lst (ps.map λx=>V.ref x.1)):=by rw[e1 p (hd.ne n)];exact hp
   have k2:=k.trans k1;have nH:H q1=none:=k2.free dk1 nq;refine⟨_,N3 hp1 nq,by rw[aa,hl];exact B5 ∅,?_⟩;refine⟨_,ps++[(q1,[z,0+(i:Int)])],rfl,(k2.new nH).new n,(dk1.new (dk1.ne nq)).new (hd.ne n),by rw[A2,aE];rfl,?_,by rw[aD,hl];rfl,by rw[aE,hm,a4p];rfl⟩;intro x hx;rcases al.mp hx with hx | hx
   ·obtain⟨h1,h2⟩:=hall x hx;have h3:=k1.tp dk _ _ h1;exact⟨by rw[A8 (a9X h3 hp1)];exact N3 h3 nq,h2⟩
   ·cases ag.mp hx;exact⟨by rw[A8 (C3 hp1 nq).symm,A2];rfl,z,_,rfl⟩
  ·rintro τ H1 ⟨c,ps,rfl,k,dk,hp,hall,hl,hm⟩;refine⟨ps,⟨.inl (SqL.of hp),λx hx=>⟨(hall x hx).1,by obtain⟨_,z,k,e⟩:=hall x hx;rw[e];simp⟩⟩,λps' l pm _ nl=>⟨⟨_,SqL.of A2⟩,λp2 n2=>?_⟩⟩;have nl':H l=none:=k.free dk nl;have s1:B0 H1 (upd H1 l (.lst (ps'.map λx=>V.ref x.1))):=(B0.refl H1).upd nl;have n2':H1 p2=none:=s1.free n2;generalize hH2:upd H1 l (.lst (ps'.map λx=>V.ref x.1))=H2 at s1 n2 ⊢;have hl2:H2 l=some (.lst (ps'.map λx=>V.ref x.1)):=by rw[<- hH2];exact A2
   refine N9 (K:=K) (xs:=ps'.map λx=>V.ref x.1) (a6e H2 p2 ps') ?_ ?_ ?_ ?_
   ·exact⟨none,none,rfl,(B0.refl H2).upd n2,A2⟩
   ·rintro i τ Hc _ ⟨_,_,rfl,sc,_⟩;exact SqL.of (sc _ _ hl2)
   ·rintro i v τ Hc hx ⟨c,k',rfl,sc,h2⟩ _;rw[aC] at hx;cases hy:ps'[i]? with
    | none=>rw[hy] at hx;cases hx
    | some y =>
    rw[hy] at hx;cases aG hx;have hym:=aB hy;obtain⟨h3,z,m,e⟩:=hall y (pm.mem_iff.mp hym);have h4:=sc _ _ (s1 _ _ h3);rw[e] at h4;walk_at "rd";have hil:i<ps'.length:=(ap.mp hy).1;refine⟨_,SqT.of h4,rfl,_,_,rfl,_,_,rfl,rfl,_,h2,?_,?_⟩
    ·rw[aa,aN];refine B5 (ba (Nat.min_le_left _ _) ?_);have:=pm.length_eq;omega
    ·refine⟨_,_,rfl,sc.upd n2,?_⟩;rw[A2,bD,aC,hy,aE];show _=some (HO.lst (_++[V.int (y.2.getD 1 0)]));rw[e];rfl
   ·rintro τ Hc ⟨c,k',rfl,sc,h2⟩;refine⟨_,.inl ⟨SqL.of h2,λl3 n3=>?_⟩⟩;rw[aa,ce (by rw[aa];exact aj _)];have s3:B0 H1 Hc:=s1.trans sc;have nH3:H l3=none:=k.free dk (s3.free n3);refine q l3 _ _ ((k.trans s3.kp).new nH3) ((dk.same s3).new (hd.ne nH3)) nH3 A2 ?_;rw[<- hm];exact pm.map _
theorem a8r {k c form:Int}(hk:1<=k)(hf0:0<=form)(hf1:form<8):∃ x:Int,atI [V.int (k-1),V.int 0,V.int (c % k),V.int (if k-1-c % 3>0 then k-1-c % 3 else 0),V.int (k-1),V.int (if k-2>0 then k-2 else 0),V.int ((k-1) / 2),V.int (c % k)] form=some (V.int x)/\0<=x/\x<k:=by
 have h1:=ca c (b:=k) ∅;have h2:=bN c (b:=k) ∅;have hf:form=0\/form=1\/form=2\/form=3\/form=4\/form=5\/form=6\/form=7:=∅
 rcases hf with rfl | rfl | rfl | rfl | rfl | rfl | rfl | rfl
 ·exact⟨_,rfl,∅,∅⟩
 ·exact⟨_,rfl,∅,∅⟩
 ·exact⟨_,rfl,∅,∅⟩
 ·refine⟨_,rfl,?_,?_⟩<;>split<;>omega
 ·exact⟨_,rfl,∅,∅⟩
 ·refine⟨_,rfl,?_,?_⟩<;>split<;>omega
 ·exact⟨_,rfl,∅,∅⟩
 ·exact⟨_,rfl,∅,∅⟩
def Fd (n:Int)(fs:⋯)(i:Int):Prop:=fs.Nodup/\(∀ t∈fs,0<=t.1/\t.1<t.2/\t.2<n)/\∀ k:Int,1<=k->k<=i->∃ a,0<=a/\a<k/\(a,k)∈fs
theorem Fd.add {n i:Int}{fs:⋯}{t:Int×Int}(h:Fd n fs i)(ht:0<=t.1/\t.1<t.2/\t.2<n):Fd n (a1C fs t) i:=by
 refine⟨a9a h.1,λu hu=>?_,λk k0 k1=>?_⟩
 ·rcases a1d.mp hu with hu | rfl
  ·exact h.2.1 u hu
  ·exact ht
 ·obtain⟨a,a0,a1,hm⟩:=h.2.2 k k0 k1;exact⟨a,a0,a1,a1d.mpr (.inl hm)⟩
theorem Fd.next {n i:Int}{fs:⋯}{a:Int}(h:Fd n fs i)(a0:0<=a)(a1:a<i+1)(hn:i+1<n):Fd n (a1C fs (a,i+1)) (i+1):=by
 have h':=h.add (t:=(a,i+1)) ⟨a0,a1,hn⟩;refine⟨h'.1,h'.2.1,λk k0 k1=>?_⟩;by_cases e:k=i+1
 ·subst e;exact⟨a,a0,a1,a1d.mpr (.inr rfl)⟩
 ·exact h'.2.2 k k0 ∅
def a7N (H:Hp)(d p:Addr)(lo hi n form:Int)(i:Nat)(σ:St)(Hc:Hp):Prop:=∃(kv cv av:Option V) (fs:⋯),σ=[some (.ref d),some (.int lo),some (.int hi),some (.int n),some (.int form),some (.ref p),kv,cv,av,none,none,none,none,none,none] /\
 Kp d H Hc/\L9 Hc d/\Hc p=some (.dT (kvT fs))/\fs.length<=i/\Fd n fs i
def a3U (H:Hp)(d p:Addr)(lo hi n form more:Int)(i:Nat)(σ:St)(Hc:Hp):Prop:=∃(kv cv av tv ov uv:Option V) (fs:⋯),σ=[some (.ref d),some (.int lo),some (.int hi),some (.int n),some (.int form),some (.ref p),kv,cv,av,some (.int more),tv,ov,uv,none,none] /\
 Kp d H Hc/\L9 Hc d/\Hc p=some (.dT (kvT fs))/\fs.length<=200/\Fd n fs (n-1)
def a7M (H:Hp)(p pn:Addr)(gs:⋯)(ks:List Int)(i:Nat)(τ:St)(Hc:Hp):Prop:=∃(ov uv:Option V) (ps:List (Addr×List Int)),τ=[ov,uv,some (.ref pn)]/\B0 H Hc/\Hc p=some (.lst (ps.map λx=>V.ref x.1))/\N4 Hc ps ((gs.take i).map (ren ks))
theorem a6T:B7 ["_law_deck_here","_law_least","_law_most","_law_places","_law_form","_law_found","_law_k","_law_cell","_law_ahead","_law_more","_law_turn_here","_law_one","_law_other","_law_names","_law_ties"] ["_law_deck_here","_law_least","_law_most"] (A7 (top 36)):=by walk_at "s"
theorem b0V (F:Fun K "_law_web" "_law_web" (top 36) f fd)(B:Bt mg)(D1:Df K mg "_law_next" st1 f1 fd1 ["_law_deck_here"])(G1:B8 P w K mg base CX0 1 f1 fd1 ["_law_deck_here"] U0)(D2:Df K mg "_law_turn" st2 f2 fd2 ["_law_deck_here","_law_many"])(G2:B8 P w K mg base CX0 2 f2 fd2 ["_law_deck_here","_law_many"] a2q):B8 P w K mg base CX0 3 f fd ["_law_deck_here","_law_least","_law_most"] a6M:=by
 refine F.ok a6T (λvs H Q E h=>?_) (λcdv A outer s H vs Q E hr h=>?_)
 ·walk_at "h"
 ·obtain⟨d,lo,hi,rfl,hd,h3,hlh,h60,q⟩:=h;have nd:=a6T.nd;have hu:=E8 hr
  refine⟨_,(A3 (C1 (i:=3) nd rfl (.inl rfl) (B3 R8 (pv 1) (B3 J2 (B1 G1 D1 hr.m (A0 (pv 0) A1)) (B3 R8 (B3 P7 (pv 2) (pv 1)) A5))))
    (A3 (C1 (i:=4) nd rfl (.inl rfl) (B3 J2 (B1 G1 D1 hr.m (A0 (pv 0) A1)) A5))
    (A3 (C1 (i:=5) nd rfl (.inl rfl) a7h)
    (A3 (M4 bn rfl (Z6 (by rfl) B.range (A0 A5 (A0 (pv 3) A1))) (A6 (i:=6) nd rfl (.inl rfl))
     (A3 (C1 (i:=7) nd rfl (.inl rfl) (B1 G1 D1 hr.m (A0 (pv 0) A1)))
     (A3 (C1 (i:=8) nd rfl (.inl rfl) (E4 (E1 K) (L1 (A0 (B3 P7 (pv 6) A5) (A0 A5 (A0 (B3 J2 (pv 7) (pv 6)) (A0 (A9 (T4 rfl) (by rfl) B.max iI (A0 A5 (A0 (B3 P7 (B3 P7 (pv 6) A5) (B3 J2 (pv 7) A5)) A1))) (A0 (B3 P7 (pv 6) A5) (A0 (A9 (T4 rfl) (by rfl) B.max iI (A0 A5 (A0 (B3 P7 (pv 6) A5) A1))) (A0 (B3 a2C (B3 P7 (pv 6) A5) A5) (A0 (B3 J2 (pv 7) (pv 6)) A1))))))))) (pv 4) (λ_ _=>rfl)))
     (A4 (a0B hu (pv 5) (N1 (A0 (pv 8) (A0 (pv 6) A1))) M5 rfl)))))
    (A3 (K3 (E5 a1U (pv 4) A5 (E7 _))
     (A4 (a0B hu (pv 5) (N1 (A0 A5 (A0 (B3 P7 (pv 3) A5) A1))) M5 rfl))
     D0)
    (A3 (C1 (i:=9) nd rfl (.inl rfl) (E4 (E1 K) (L1 (A0 A5 (A0 A5 (A0 A5 (A0 (pv 3) (A0 (B3 X2 A5 (pv 3)) (A0 A5 A1))))))) (B3 J2 (B1 G1 D1 hr.m (A0 (pv 0) A1)) A5) (λ_ _=>rfl)))
    (A3 (M4 bn rfl (P6 (by rfl) B.range (A0 (pv 9) A1)) (A6 (i:=10) nd rfl (.inl rfl))
     (A3 (C1 (i:=11) nd rfl (.inl rfl) (B3 J2 (B1 G1 D1 hr.m (A0 (pv 0) A1)) (pv 3)))
     (A3 (C1 (i:=12) nd rfl (.inl rfl) (B3 J2 (B1 G1 D1 hr.m (A0 (pv 0) A1)) (pv 3)))
     (A4 (K3 (PW.pt (a7b (E5 a0q (pv 11) (pv 12) (E7 _)) (a5n (E5 a5u (A9 a4L (by rfl) B.len b8 (A0 (pv 5) A1)) A5 (E7 _)))))
      (A4 (a0B hu (pv 5) (N1 (A0 (A9 (a0e rfl) (by rfl) B.min boot_min (A0 (pv 11) (A0 (pv 12) A1))) (A0 (A9 (T4 rfl) (by rfl) B.max iI (A0 (pv 11) (A0 (pv 12) A1))) A1))) M5 rfl))
      D0)))))
    (A3 (C1 (i:=13) nd rfl (.inr rfl) (B1 G2 D2 hr.m (A0 (pv 0) (A0 (pv 3) A1))))
    (A3 (S8 (i:=14) (own:=["_law_one","_law_other"]) (fr:=[("_law_names",13)]) rfl nd rfl rfl (by walk_at "w") (by walk_at "w") (K1 rfl rfl E2) (J5 K (A9 (a2S hr.hd) (by rfl) B.sorted fq (A0 (pv 5) A1))) ⟨λ_ _ _ _=>⟨(M0 K (n:=2) rfl (B9 (A6 (i:=0) (show bH (["_law_one","_law_other","_law_names"]:List Str) by decide +kernel) rfl (.inl rfl)) (B9 (A6 (i:=1) (show bH (["_law_one","_law_other","_law_names"]:List Str) by decide +kernel) rfl (.inl rfl)) K5))),J8,(N1 (A0 (A9 (a0e rfl) (by rfl) B.min boot_min (A0 (E4 (J0 K) (pv 2) (pv 0) (λ_ _=>rfl)) (A0 (E4 (J0 K) (pv 2) (pv 1) (λ_ _=>rfl)) A1))) (A0 (A9 (T4 rfl) (by rfl) B.max iI (A0 (E4 (J0 K) (pv 2) (pv 0) (λ_ _=>rfl)) (A0 (E4 (J0 K) (pv 2) (pv 1) (λ_ _=>rfl)) A1))) A1)))⟩⟩)
    (A4 (B4 (N1 (A0 (pv 3) (A0 (C2 (T6 K) (by rfl) B.tuple cF (A0 (A9 (a0Q K) (by rfl) B.sorted fq (A0 (pv 14) A1)) A1)) A1)))))))))))))),?_⟩
  walk_at "rd";refine L6 hd λz1 H1 k1 dk1 e1=>?_
  have r1:=ca z1 (b:=hi-lo+1) ∅;have r2:=bN z1 (b:=hi-lo+1) ∅;refine⟨z1,rfl,∅,L6 dk1 λz2 H2 k2 dk2 e2=>⟨z2,rfl,by decide,λp np=>?_⟩⟩;obtain⟨n,hn⟩:∃ n:Int,n=lo+z1 % (hi-lo+1):=⟨_,rfl⟩
  obtain⟨form,hfo⟩:∃ m:Int,m=z2 % 8:=⟨_,rfl⟩
  rw[<- hn,<- hfo];have k02:=k1.trans k2;have nHp:H p=none:=k02.free dk2 np;have pd:p≠d:=hd.ne nHp;refine⟨_,rfl,1,n,rfl,⟨by decide,by decide,∅,∅⟩,T3 (lo:=1) (n:=(n-1).toNat) (a7N H d p lo hi n form) ?_ ?_ ?_⟩
  ·exact⟨none,none,none,[],rfl,k02.new nHp,dk2.new pd,A2,aj _,by simp,by simp,λk k0 k1=>∅⟩
  ·rintro i σ Hc hin ⟨kv,cv,av,fs,rfl,kc,dc,hp,hfl,hF⟩;walk_at "rd";refine L6 dc λz3 H3 k3 dk3 e3=>?_
   obtain⟨x,hx,x0,x1⟩:=a8r (k:=1+(i:Int)) (c:=z3) (form:=form) ∅ ∅ ∅;have hp3:H3 p=some (.dT (kvT fs)):=by rw[e3 p pd];exact hp
   have kk:=kc.trans k3;refine⟨z3,rfl,∅,z3,rfl,by decide,0,_,⟨rfl,rfl⟩,0,_,⟨rfl,rfl⟩,⟨∅,∅⟩,z3,rfl,∅,by decide,λpl nl=>⟨_,SqL.of A2,_,hx,by decide,λpt nt=>?_⟩⟩;have nHl:H pl=none:=kk.free dk3 nl;have nHt:H pt=none:=kk.free dk3 (K4 nt);refine⟨_,W1.t (k:=[bA x,bA (1+(i:Int))]) (N3 (N3 hp3 nl) nt) A2 (by rw[a5C];exact B5 ∅),?_⟩;rw[a2u];refine⟨_,_,_,_,rfl,((kk.new nHl).new nHt).new nHp,((dk3.new (hd.ne nHl)).new (hd.ne nHt)).new pd,A2,?_,?_⟩
   ·have:=a1f (fs:=fs) (t:=(x,1+(i:Int)));omega
   ·have:=hF.next x0 ∅ ∅;rw[show (1:Int)+i=(i:Int)+1 by omega,show (((i+1:Nat)):Int)=(i:Int)+1 by omega];exact this
  ·rintro σ Hc ⟨kv,cv,av,fs,rfl,kc,dc,hp,hfl,hF⟩;rw[show ((n-1).toNat:Int)=n-1 by omega] at hF;dsimp only
   refine a6R (fun σ Hc=>∃(kv cv av:Option V) (fs:⋯),σ=[some (.ref d),some (.int lo),some (.int hi),some (.int n),some (.int form),some (.ref p),kv,cv,av,none,none,none,none,none,none] /\
     Kp d H Hc/\L9 Hc d/\Hc p=some (.dT (kvT fs))/\fs.length<=60/\Fd n fs (n-1)) (λR hR=>?_) ?_
   ·walk_at "rd";refine Y7 (λ_=>?_) λ_=>hR _ _ ⟨kv,cv,av,fs,rfl,kc,dc,hp,∅,hF⟩
    refine⟨by decide,λpt nt=>⟨_,W1.t (k:=[bA 0,bA (n-1)]) (N3 hp nt) A2 (a0r ∅),?_⟩⟩;have nHt:H pt=none:=kc.free dc nt;rw[a2u];refine hR _ _ ⟨_,_,_,_,rfl,(kc.new nHt).new nHp,(dc.new (hd.ne nHt)).new pd,A2,?_,hF.add ⟨Int.le_refl 0,show (0:Int)<n-1 by omega,show n-1<n by omega⟩⟩;have:=a1f (fs:=fs) (t:=(0,n-1));omega
   ·rintro σ Hc ⟨kv,cv,av,fs,rfl,kc,dc,hp,hfl,hF⟩;walk_at "rd";refine⟨.inl ⟨∅,∅⟩,by decide,λpl nl=>?_⟩;have nHl:H pl=none:=kc.free dc nl;refine L6 (dc.new (hd.ne nHl)) λz3 H3 k3 dk3 e3=>⟨z3,rfl,by decide,?_⟩
    have hpl:H3 pl=some (.lst [V.int 0,V.int 1,V.int 3,V.int n,V.int (2*n),V.int 0]):=by rw[e3 pl (hd.ne nHl)];exact A2
    have hp3:H3 p=some (.dT (kvT fs)):=by rw[e3 p pd];exact N3 hp nl
    obtain⟨more,hmo,m0,m1⟩:∃ m:Int,atI [V.int 0,V.int 1,V.int 3,V.int n,V.int (2*n),V.int 0] (z3 % 6)=some (V.int m)/\0<=m/\m<=120:=by
     have hf:z3 % 6=0\/z3 % 6=1\/z3 % 6=2\/z3 % 6=3\/z3 % 6=4\/z3 % 6=5:=∅
     rcases hf with e | e | e | e | e | e<;>rw[e]
     ·exact⟨_,rfl,∅,∅⟩
     ·exact⟨_,rfl,∅,∅⟩
     ·exact⟨_,rfl,∅,∅⟩
     ·exact⟨_,rfl,∅,∅⟩
     ·exact⟨_,rfl,∅,∅⟩
     ·exact⟨_,rfl,∅,∅⟩
    refine⟨_,SqL.of hpl,_,hmo,?_⟩;refine⟨_,rfl,more,rfl,∅,∅,T3 (lo:=0) (n:=more.toNat) (a3U H d p lo hi n form more) ?_ ?_ ?_⟩
    ·exact⟨_,_,_,none,none,none,fs,rfl,(kc.new nHl).trans k3,dk3,hp3,∅,hF⟩
    ·rintro i σ Hc hin ⟨kv,cv,av,tv,ov,uv,fs,rfl,kc,dc,hp,hfl,hF⟩;walk_at "rd";refine L6 dc λz4 H4 k4 dk4 e4=>⟨z4,rfl,∅,L6 dk4 λz5 H5 k5 dk5 e5=>⟨z5,rfl,∅,?_⟩⟩
     have hp5:H5 p=some (.dT (kvT fs)):=by rw[e5 p pd,e4 p pd];exact hp
     have kk:=(kc.trans k4).trans k5;have s0:=ca z4 (b:=n) ∅;have s1:=bN z4 (b:=n) ∅;have t0:=ca z5 (b:=n) ∅;have t1:=bN z5 (b:=n) ∅;have same:a3U H d p lo hi n form more (i+1) [some (.ref d),some (.int lo),some (.int hi),some (.int n),some (.int form),some (.ref p),kv,cv,av,some (.int more),some (.int (0+(i:Int))),some (.int (z4 % n)),some (.int (z5 % n)),none,none] H5 :=
      ⟨_,_,_,_,_,_,fs,rfl,kk,dk5,hp5,hfl,hF⟩
     refine Y7 (λh1=>⟨_,hp5,Y7 (λh2=>?_) λ_=>same⟩) λ_=>same
     have h1':z4 % n≠z5 % n:= ~~~h1
     have h2':fs.length<200:=by rw[a5C] at h2;have:=of_decide_eq_true h2;omega
     refine⟨_,_,⟨rfl,rfl⟩,_,_,⟨rfl,rfl⟩,by decide,λpt nt=>?_⟩;have nHt:H pt=none:=kk.free dk5 nt;refine⟨_,W1.t (k:=[bA (if z5 % n<z4 % n then z5 % n else z4 % n),bA (if z5 % n>z4 % n then z5 % n else z4 % n)]) (N3 hp5 nt) A2 (a0r ∅),?_⟩;rw[a2u];refine⟨_,_,_,_,_,_,_,rfl,(kk.new nHt).new nHp,(dk5.new (hd.ne nHt)).new pd,A2,?_,hF.add ?_⟩
     ·have:=a1f (fs:=fs) (t:=(if z5 % n<z4 % n then z5 % n else z4 % n,if z5 % n>z4 % n then z5 % n else z4 % n));omega
     ·dsimp only;split<;>split<;>omega
    ·rintro σ Hc ⟨kv,cv,av,tv,ov,uv,fs,rfl,kc,dc,hp,hfl,hF⟩;walk_at "rd";refine a6C dc ∅ ∅ λpn ks H4 k4 dk4 nn hpn hperm=>?_
     have hp4:H4 p=some (.dT (kvT fs)):=k4 _ _ pd hp;refine⟨_,hp4,fs.map tl,a7H fs,(λl hl=>by obtain⟨t,_,rfl⟩:=aY.mp hl;simp[tl]),λps l pm hto _ nl=>?_⟩;obtain⟨gs,pgs,hgs⟩:=N4.of_perm hto pm;have s1:B0 H4 (upd H4 l (.lst (ps.map λx=>V.ref x.1))):=(B0.refl H4).upd nl;refine⟨⟨_,SqL.of A2⟩,λp2 n2=>?_⟩;generalize hH2:upd H4 l (.lst (ps.map λx=>V.ref x.1))=H5 at s1 n2 ⊢;have hl5:H5 l=some (.lst (ps.map λx=>V.ref x.1)):=by rw[<- hH2];exact A2
     have hgs5:=hgs.tp s1.tp;have gr:∀ t∈gs,0<=t.1/\t.1<t.2/\t.2<n:=λt ht=>hF.2.1 t (pgs.mem_iff.mp ht)
     have gl:gs.length<=200:=by rw[pgs.length_eq];exact hfl
     have kk:=kc.trans k4;refine N9 (K:=K) (xs:=ps.map λx=>V.ref x.1) (a7M H5 p2 pn gs ks) ?_ ?_ ?_ ?_
     ·exact⟨none,none,[],rfl,(B0.refl H5).upd n2,A2,(λx hx=>by cases hx),rfl⟩
     ·rintro i τ Hc _ ⟨_,_,_,rfl,sc,_⟩;exact SqL.of (sc _ _ hl5)
     ·rintro i v τ Hc hx ⟨ov,uv,ps2,rfl,sc,h2,hps2⟩ _;obtain⟨a,t,rfl,hti,hta⟩:=hgs5.get hx;have htm:=aB hti;obtain⟨g0,g1,g2⟩:=gr t htm;have hil:i<gs.length:=(ap.mp hti).1;have hpn5:Hc pn=some (.tup (ks.map V.int)):=sc _ _ (s1 _ _ hpn);have a1:atI (ks.map V.int) t.1=some (V.int (nm ks t.1)):=by
       rw[<- bx g0];refine V9 ?_;rw[aC,a3O hperm g0 ∅];rw[bx g0];rfl
      have a2:atI (ks.map V.int) t.2=some (V.int (nm ks t.2)):=by
       rw[<- bx (show 0<=t.2 by omega)];refine V9 ?_;rw[aC,a3O hperm ∅ g2];rw[bx (show 0<=t.2 by omega)];rfl
      walk_at "rd";refine⟨_,SqT.of (sc _ _ hta),rfl,_,_,rfl,_,_,rfl,rfl,_,_,rfl,SqT.of hpn5,_,a1,_,_,rfl,SqT.of hpn5,_,a2,_,_,⟨rfl,rfl⟩,_,_,rfl,SqT.of hpn5,_,a1,_,_,rfl,SqT.of hpn5,_,a2,_,_,⟨rfl,rfl⟩,by decide,λpq nq=>?_⟩;have hlen2:ps2.length<=200:=by have:=hps2.len;rw[aa,aN] at this;omega
      refine⟨_,N3 h2 nq,by rw[aa];exact B5 ∅,_,_,ps2++[(pq,tl (ren ks t))],rfl,(sc.upd (sc.free nq)).upd n2,by rw[A2,aE];rfl,?_⟩;rw[bD,hti,aE];refine N4.snoc (hps2.tp ((Tp.nw nq).trans (Tp.lst (N3 h2 nq)))) ?_;rw[A8 (C3 h2 nq).symm,A2];rfl
     ·rintro τ Hc ⟨ov,uv,ps2,rfl,sc,h2,hps2⟩;rw[aa,hgs.len,aX] at hps2;refine⟨ps2,hps2.src h2,λps3 l3 pm3 hs3 nl3=>⟨_,.inl ⟨SqL.of A2,λl4 nl4=>⟨by decide,λp5 n5=>?_⟩⟩⟩⟩;obtain⟨ts,pts,hts⟩:=hps2.perm pm3;have sc4:B0 H4 Hc:=s1.trans sc;have n4a:=sc4.free nl3;have n4b:=sc4.free (K4 nl4);have n4c:=sc4.free (K4 (K4 n5));have nHa:=kk.free dk4 n4a;have nHb:=kk.free dk4 n4b;have nHc:=kk.free dk4 n4c;refine q p5 n ts _ ((((kk.trans sc4.kp).new nHa).new nHb).new nHc) ((((dk4.same sc4).new (hd.ne nHa)).new (hd.ne nHb)).new (hd.ne nHc)) ∅ ∅ ?_ ?_
      ·exact a8t ∅ ∅ hF.1 hF.2.1 hfl (λk k0 k1=>hF.2.2 k k0 ∅) hperm (pts.trans (pgs.map _)) (hts.srt hs3)
      ·refine⟨l4,A2,ps3,N3 A2 n5,hts.tp ?_⟩;exact (((Tp.refl Hc).new nl3).new (K4 nl4)).new (K4 (K4 n5))
def a6h (H:Hp)(w0 q0 p:Addr)(n:Int)(ts:⋯)(i:Nat)(σ:St)(Hc:Hp):Prop:=∃(av bv:Option V) (as:List Addr),σ=[some (.ref w0),some (.int n),some (.ref q0),some (.ref p),av,bv]/\a4Q H Hc p as (F0 n (ts.take i))
theorem a3w:B7 ["web","places","ties","rows","a","b"] ["web"] (A7 (top 15)):=by walk_at "s"
theorem a7t (F:Fun K "neighbour_rows" "neighbour_rows" (top 15) f fd)(B:Bt mg):B8 P w K mg base CX0 1 f fd ["web"] a3m:=by
 refine F.ok a3w (λvs H Q E h=>?_) (λcdv A outer s H vs Q E hr h=>?_)
 ·walk_at "h"
 ·obtain⟨w0,n,ts,rfl,hw,hn0,hn1,htl,hok,q⟩:=h;have nd:=a3w.nd;have hu:=E8 hr
  refine⟨_,(A3 (X0 (pv 0) (M0 K (n:=2) rfl (B9 (A6 (i:=1) nd rfl (.inl rfl)) (B9 (A6 (i:=2) nd rfl (.inl rfl)) K5))))
    (A3 (S8 (i:=3) (own:=["place"]) (fr:=[]) rfl nd rfl rfl (by walk_at "w") (by walk_at "w") E2 (P6 (by rfl) B.range (A0 (pv 1) A1)) ⟨λ_ _ _ _=>⟨(A6 (i:=0) (show bH (["place"]:List Str) by decide +kernel) rfl (.inl rfl)),J8,(L1 A1)⟩⟩)
    (A3 (M4 bn rfl (M7 K (pv 2)) (M0 K (n:=2) rfl (B9 (A6 (i:=4) nd rfl (.inl rfl)) (B9 (A6 (i:=5) nd rfl (.inl rfl)) K5)))
     (A3 (N8 (O0 K (E4 (E1 K) (pv 3) (pv 4) (λ_ _=>rfl)) (A0 (pv 5) A1)))
     (A4 (N8 (O0 K (E4 (E1 K) (pv 3) (pv 5) (λ_ _=>rfl)) (A0 (pv 4) A1))))))
    (A4 (B4 (pv 3)))))),?_⟩
  walk_at "rd";obtain⟨q0,hw0,ht⟩:=hw;obtain⟨xs,hx0,hxl,hxs⟩:=ht.get;refine⟨_,SqT.of hw0,rfl,_,_,rfl,_,_,rfl,rfl,n,rfl,∅,∅,λp np=>Y6 (a2d H p) ?_ ?_ ?_⟩
  ·exact⟨none,[],rfl,(B0.refl H).upd np,np,(λa ha=>by cases ha),C9.nil A2⟩
  ·rintro i τ Hc hi ⟨c,as,rfl,fr⟩;walk_at "rd";refine⟨by decide,λpq nq=>⟨_,N3 fr.rows.top nq,?_,?_⟩⟩
   ·rw[aa,fr.rows.len,fm];exact B5 ∅
   ·have:=fr.rows.snoc nq (r:=[]);refine⟨_,as++[pq],rfl,(fr.same.upd (fr.same.free nq)).upd np,np,λa ha=>?_,?_⟩
    ·rcases al.mp ha with ha | ha
     ·exact fr.na a ha
     ·cases ag.mp ha;exact fr.same.free nq
    ·rw[aE] at this;rw[im];exact this
  ·rintro τ H2 ⟨c,as,rfl,fr⟩;rw[<- a0W] at fr;refine⟨_,rfl,_,rfl,⟨_,SqT.of (fr.same _ _ hx0)⟩,U4 (xs:=xs) (a6h H w0 q0 p n ts) ⟨none,none,as,rfl,by rw[cK];exact fr⟩ ?_ ?_ ?_⟩
   ·rintro i σ Hc _ ⟨_,_,_,rfl,fr⟩;exact SqT.of (fr.same _ _ hx0)
   ·rintro i v σ Hc hv ⟨av,bv,as,rfl,fr⟩;obtain⟨a,t,rfl,hti,hta⟩:=hxs i v hv;obtain⟨t0,t1,t2⟩:=hok t (aB hti);obtain⟨a1,a2,i1,c1,tp1,i2,c2,fr2⟩:=fr.step t0 t1 t2;have l1:∀ v,((nb (ts.take i) v).map V.int).length<sizeLine:=λv=>by
     rw[aa];have:=a2H (ts:=ts.take i) v;rw[aN] at this;exact B5 ∅
    walk_at "rd";refine⟨_,SqT.of (fr.same _ _ hta),rfl,_,_,rfl,_,_,rfl,rfl,_,_,rfl,SqL.of fr.rows.top,_,i1,.inl ⟨rfl,_,SqL.of c1⟩,_,rfl,_,c1,l1 _,_,_,rfl,SqL.of tp1,_,i2,.inl ⟨rfl,_,SqL.of c2⟩,_,rfl,_,c2,l1 _,_,_,as,rfl,?_⟩;rw[bD,hti];exact fr2
   ·rintro σ Hc ⟨av,bv,as,rfl,fr⟩;rw[hxl,aX] at fr;exact⟨_,rfl,q p as Hc fr.same fr.np fr.na fr.rows⟩
def a7R (H:Hp)(w0 p:Addr)(n:Int)(ts:⋯)(i:Nat)(σ:St)(Hc:Hp):Prop:=∃(av bv:Option V) (as:List Addr),σ=[some (.ref w0),some (.ref p),av,bv]/\a4Q H Hc p as (F0 n (ts.take i))
def a6i (H:Hp)(p:Addr)(n:Int)(ts:⋯)(i:Nat)(τ:St)(Hc:Hp):Prop:=∃(c:Option V) (as:List Addr),τ=[c]/\a4Q H Hc p as ((F0 n ts).take i)
theorem a5l:B7 ["_law_web_here","_law_near_here","_law_one","_law_other"] ["_law_web_here"] (A7 (top 37)):=by walk_at "s"
theorem a8X (F:Fun K "_law_near" "_law_near" (top 37) f fd)(B:Bt mg):B8 P w K mg base CX0 1 f fd ["_law_web_here"] a5d:=by
 refine F.ok a5l (λvs H Q E h=>?_) (λcdv A outer s H vs Q E hr h=>?_)
 ·walk_at "h"
 ·obtain⟨w0,n,ts,rfl,hw,hn0,hn1,htl,hok,hsr,q⟩:=h;have nd:=a5l.nd;have hu:=E8 hr
  refine⟨_,(A3 (S8 (i:=1) (own:=["_law_place"]) (fr:=[]) rfl nd rfl rfl (by walk_at "w") (by walk_at "w") E2 (P6 (by rfl) B.range (A0 (E4 (J0 K) (pv 0) A5 (λ_ _=>rfl)) A1)) ⟨λ_ _ _ _=>⟨(A6 (i:=0) (show bH (["_law_place"]:List Str) by decide +kernel) rfl (.inl rfl)),J8,(L1 A1)⟩⟩)
    (A3 (M4 bn rfl (M7 K (E4 (J0 K) (pv 0) A5 (λ_ _=>rfl))) (M0 K (n:=2) rfl (B9 (A6 (i:=2) nd rfl (.inl rfl)) (B9 (A6 (i:=3) nd rfl (.inl rfl)) K5)))
     (A3 (N8 (O0 K (E4 (E1 K) (pv 1) (pv 2) (λ_ _=>rfl)) (A0 (pv 3) A1)))
     (A4 (N8 (O0 K (E4 (E1 K) (pv 1) (pv 3) (λ_ _=>rfl)) (A0 (pv 2) A1))))))
    (A4 (B4 (K9 (own:=["_law_row"]) (fr:=[]) rfl (by walk_at "w") E2 (J5 K (pv 1)) ⟨λ_ _ _ _=>⟨(A6 (i:=0) (show bH (["_law_row"]:List Str) by decide +kernel) rfl (.inl rfl)),J8,(A9 (a3p K hr.hd) (by rfl) B.sorted fq (A0 (pv 0) A1))⟩⟩))))),?_⟩
  walk_at "rd";obtain⟨q0,hw0,ht⟩:=hw;obtain⟨xs,hx0,hxl,hxs⟩:=ht.get;refine⟨_,SqT.of hw0,_,rfl,n,rfl,∅,∅,λp np=>Y6 (a2d H p) ?_ ?_ ?_⟩
  ·exact⟨none,[],rfl,(B0.refl H).upd np,np,(λa ha=>by cases ha),C9.nil A2⟩
  ·rintro i τ Hc hi ⟨c,as,rfl,fr⟩;walk_at "rd";refine⟨by decide,λpq nq=>⟨_,N3 fr.rows.top nq,?_,?_⟩⟩
   ·rw[aa,fr.rows.len,fm];exact B5 ∅
   ·have:=fr.rows.snoc nq (r:=[]);refine⟨_,as++[pq],rfl,(fr.same.upd (fr.same.free nq)).upd np,np,λa ha=>?_,?_⟩
    ·rcases al.mp ha with ha | ha
     ·exact fr.na a ha
     ·cases ag.mp ha;exact fr.same.free nq
    ·rw[aE] at this;rw[im];exact this
  ·rintro τ H2 ⟨c,as,rfl,fr⟩;rw[<- a0W] at fr;refine⟨_,rfl,_,_,1,_,rfl,rfl,SqT.of (fr.same _ _ hw0),rfl,_,rfl,⟨_,SqT.of (fr.same _ _ hx0)⟩,U4 (xs:=xs) (a7R H w0 p n ts) ⟨none,none,as,rfl,by rw[cK];exact fr⟩ ?_ ?_ ?_⟩
   ·rintro i σ Hc _ ⟨_,_,_,rfl,fr⟩;exact SqT.of (fr.same _ _ hx0)
   ·rintro i v σ Hc hv ⟨av,bv,as,rfl,fr⟩;obtain⟨a,t,rfl,hti,hta⟩:=hxs i v hv;obtain⟨t0,t1,t2⟩:=hok t (aB hti);obtain⟨a1,a2,i1,c1,tp1,i2,c2,fr2⟩:=fr.step t0 t1 t2;have l1:∀ v,((nb (ts.take i) v).map V.int).length<sizeLine:=λv=>by
     rw[aa];have:=a2H (ts:=ts.take i) v;rw[aN] at this;exact B5 ∅
    walk_at "rd";refine⟨_,SqT.of (fr.same _ _ hta),rfl,_,_,rfl,_,_,rfl,rfl,_,_,rfl,SqL.of fr.rows.top,_,i1,.inl ⟨rfl,_,SqL.of c1⟩,_,rfl,_,c1,l1 _,_,_,rfl,SqL.of tp1,_,i2,.inl ⟨rfl,_,SqL.of c2⟩,_,rfl,_,c2,l1 _,_,_,as,rfl,?_⟩;rw[bD,hti];exact fr2
   ·rintro σ Hc ⟨av,bv,as,rfl,fr⟩;rw[hxl,aX] at fr;walk_at "rd";refine⟨⟨_,SqL.of fr.rows.top⟩,λp2 n2=>N9 (K:=K) (xs:=as.map V.ref) (a6i Hc p2 n ts) ?_ ?_ ?_ ?_⟩
    ·exact⟨none,[],rfl,(B0.refl Hc).upd n2,n2,(λa ha=>by cases ha),C9.nil A2⟩
    ·rintro i τ H4 _ ⟨_,_,rfl,fr4⟩;exact SqL.of (fr4.same _ _ fr.rows.top)
    ·rintro i v τ H4 hv ⟨c,bs,rfl,fr4⟩ _;have hil:i<n.toNat:=by
      have:=(ap.mp hv).1;rw[aa,fr.rows.len,P3] at this;exact this
     have hri:=M9 (n:=n) (ts:=ts) (v:=(i:Int)) ∅ ∅;rw[cY] at hri;rw[aC] at hv;cases ha:as[i]? with
     | none=>rw[ha] at hv;cases hv
     | some a =>
     rw[ha] at hv;cases aG hv;have hra:=fr4.same _ _ (fr.rows.row i a _ ha hri);walk_at "rd";refine⟨_,.inl (SqL.of hra),λns' l pm hs nl=>?_⟩;have e:ns'=nb ts (i:Int):=a3o pm hs (b2D hok hsr _);subst e;refine⟨_,N3 fr4.rows.top nl,?_,_,bs++[l],rfl,(fr4.same.upd (fr4.same.free nl)).upd n2,n2,λb hb=>?_,?_⟩
     ·rw[aa,fr4.rows.len,aN,P3];exact B5 ∅
     ·rcases al.mp hb with hb | hb
      ·exact fr4.na b hb
      ·cases ag.mp hb;exact fr4.same.free nl
     ·have:=fr4.rows.snoc nl (r:=nb ts (i:Int));rw[aE] at this;rw[bD,hri];exact this
    ·rintro τ H4 ⟨c,bs,rfl,fr4⟩;rw[aa,fr.rows.len,aX] at fr4;exact q p2 bs H4 (fr.same.trans fr4.same) (fr.same.free n2) (λb hb=>fr.same.free (fr4.na b hb)) fr4.rows
def a3V (H:Hp)(d w0 np:Addr)(as:List Addr)(n:Int)(ts:⋯)(in0 ti:Addr)(P1 way:Int)(m:Nat)(σ:St)(Hc:Hp):Prop:=∃(a b c e:Option V) (ins:List Int) (us:⋯) (ps:List (Addr×List Int)),σ=[some (.ref d),some (.ref w0),some (.ref np),some (.int P1),some (.ref in0),some (.ref ti),some (.int way),a,b,c,e] /\
 Kp d H Hc/\L9 Hc d/\C9 Hc np as (F0 n ts)/\Hc in0=some (.lst (ins.map V.int))/\Hc ti=some (.lst (ps.map λx=>V.ref x.1))/\N4 Hc ps us/\Q0 ts ins us/\(∀ x∈ins,0<=x/\x<n)/\m=n.toNat-ins.length
def a9p (Hb:Hp)(pr in0 np:Addr)(ts:⋯)(ins:List Int)(i:Nat)(τ:St)(Hd:Hp):Prop:=∃ c:Option V,τ=[c,some (.ref in0),some (.ref np)]/\B0 Hb Hd/\Hd pr=some (.lst (((ins.take i).filter λa=>!decide (opn ts ins a=[])).map V.int))
def a5F (Hb:Hp)(po in0:Addr)(row ins:List Int)(j:Nat)(τ:St)(Hd:Hp):Prop:=∃ c:Option V,τ=[c,some (.ref in0)]/\B0 Hb Hd/\Hd po=some (.lst (((row.take j).filter λk=>!decide (k∈ins)).map V.int))
theorem a5g:B7 ["_law_deck_here","_law_web_here","_law_near_here","_law_start","_law_inside","_law_ties","_law_way","_law_place","_law_ready","_law_open_ones","_law_other"] ["_law_deck_here","_law_web_here"] (A7 (top 38)):=by walk_at "s"
theorem a8S (F:Fun K "_law_tree" "_law_tree" (top 38) f fd)(B:Bt mg)(D1:Df K mg "_law_near" st1 f1 fd1 ["_law_web_here"])(G1:B8 P w K mg base CX0 1 f1 fd1 ["_law_web_here"] a5d)(D2:Df K mg "_law_next" st2 f2 fd2 ["_law_deck_here"])(G2:B8 P w K mg base CX0 1 f2 fd2 ["_law_deck_here"] U0):B8 P w K mg base CX0 2 f fd ["_law_deck_here","_law_web_here"] a4Z:=by
 refine F.ok a5g (λvs H Q E h=>?_) (λcdv A outer s H vs Q E hr h=>?_)
 ·walk_at "h"
 ·obtain⟨d,w0,n,ts,rfl,hd,hw,hok,q⟩:=h;have nd:=a5g.nd;have hu:=E8 hr
  refine⟨_,(A3 (C1 (i:=2) nd rfl (.inr rfl) (B1 G1 D1 hr.m (A0 (pv 1) A1)))
    (A3 (C1 (i:=3) nd rfl (.inl rfl) (B3 J2 (B1 G2 D2 hr.m (A0 (pv 0) A1)) (E4 (J0 K) (pv 1) A5 (λ_ _=>rfl))))
    (A3 (C1 (i:=4) nd rfl (.inr rfl) (L1 (A0 (pv 3) A1)))
    (A3 (C1 (i:=5) nd rfl (.inl rfl) (L1 A1))
    (A3 (C1 (i:=6) nd rfl (.inl rfl) (B3 J2 (B1 G2 D2 hr.m (A0 (pv 0) A1)) A5))
    (A3 (a3C bn (E5 a5u (A9 (a1g K) (by rfl) B.len b8 (A0 (pv 4) A1)) (E4 (J0 K) (pv 1) A5 (λ_ _=>rfl)) (E7 _))
     (A3 (S8 (i:=8) (own:=["_law_place"]) (fr:=[("_law_inside",4),("_law_near_here",2)]) rfl nd rfl rfl (by walk_at "w") (by walk_at "w") (K1 rfl rfl (K1 rfl rfl E2)) (J5 K (pv 4)) ⟨λ_ _ _ _=>⟨(A6 (i:=0) (show bH (["_law_place","_law_inside","_law_near_here"]:List Str) by decide +kernel) rfl (.inl rfl)),(a0A (E5 (b3r K hr.units) (K9 (own:=["_law_k"]) (fr:=[("_law_inside",1)]) rfl (by walk_at "w") (K1 rfl rfl E2) (J5 K (E4 (E1 K) (pv 2) (pv 0) (λ_ _=>rfl))) ⟨λ_ _ _ _=>⟨(A6 (i:=0) (show bH (["_law_k","_law_inside"]:List Str) by decide +kernel) rfl (.inl rfl)),(a0A (E5 (a1b K) (pv 0) (pv 1) (by walk_at "w"))),(pv 0)⟩⟩) (L1 A1) (E7 _))),(pv 0)⟩⟩)
     (A3 (C1 (i:=7) nd rfl (.inl rfl) (E4 (E1 K) (L1 (A0 (E4 (E1 K) (pv 8) A5 (λ_ _=>rfl)) (A0 (E4 (E1 K) (pv 8) (b2x b0j A5) (λ_ _=>rfl)) (A0 (E4 (E1 K) (pv 8) (B3 J2 (B1 G2 D2 hr.m (A0 (pv 0) A1)) (A9 (a1g K) (by rfl) B.len b8 (A0 (pv 8) A1))) (λ_ _=>rfl)) A1)))) (pv 6) (λ_ _=>rfl)))
     (A3 (S8 (i:=9) (own:=["_law_k"]) (fr:=[("_law_inside",4)]) rfl nd rfl rfl (by walk_at "w") (by walk_at "w") (K1 rfl rfl E2) (J5 K (E4 (E1 K) (pv 2) (pv 7) (λ_ _=>rfl))) ⟨λ_ _ _ _=>⟨(A6 (i:=0) (show bH (["_law_k","_law_inside"]:List Str) by decide +kernel) rfl (.inl rfl)),(a0A (E5 (a1b K) (pv 0) (pv 1) (by walk_at "w"))),(pv 0)⟩⟩)
     (A3 (C1 (i:=10) nd rfl (.inl rfl) (E4 (E1 K) (pv 9) (B3 J2 (B1 G2 D2 hr.m (A0 (pv 0) A1)) (A9 (a1g K) (by rfl) B.len b8 (A0 (pv 9) A1))) (λ_ _=>rfl)))
     (A3 (N8 (O0 K (pv 4) (A0 (pv 10) A1)))
     (A4 (N8 (O0 K (pv 5) (A0 (N1 (A0 (A9 (a0e rfl) (by rfl) B.min boot_min (A0 (pv 7) (A0 (pv 10) A1))) (A0 (A9 (T4 rfl) (by rfl) B.max iI (A0 (pv 7) (A0 (pv 10) A1))) A1))) A1))))))))))
    (A4 (B4 (C2 (T6 K) (by rfl) B.tuple cF (A0 (A9 (a0Q K) (by rfl) B.sorted fq (A0 (pv 5) A1)) A1)))))))))),?_⟩
  walk_at "rd";have h3:=hok.n3;have h60:=hok.n60;have hl:=hok.len;refine⟨w0,n,ts,rfl,hw,∅,∅,∅,hok.rng,hok.srt,λnp as H1 s1 nnp nas hR=>?_⟩;obtain⟨q0,hw0,ht0⟩:=id hw;have d1:=hd.same s1;have dnp:d≠np:=(hd.ne nnp).symm;have das:d∉as:=λh=>hd.ne (nas d h) rfl
  refine L6 d1 λz1 H2 k2 d2 e2=>?_
  have hw2:H2 w0=some (.tup [.int n,.ref q0]):=k2.tp d1 _ _ (s1 _ _ hw0);have o0:=ca z1 (b:=n) ∅;have o1:=bN z1 (b:=n) ∅;refine⟨_,SqT.of hw2,_,rfl,z1,rfl,n,rfl,∅,by decide,λin0 nin=>B2 nin λH3 s3 e3=>⟨by decide,λti nti=>B2 nti λH4 s4 e4=>?_⟩⟩;have d4:=d2.same (s3.trans s4);refine L6 d4 λz2 H5 k5 d5 e5=>⟨z2,rfl,by decide,?_⟩
  have w1:=ca z2 (b:=3) ∅;have w2:=bN z2 (b:=3) ∅;have in0d:in0≠d:=d2.ne nin;have tid:ti≠d:=(d2.same s3).ne nti;have inti:in0≠ti:=C3 e3 nti;have R2:=hR.kp k2 dnp das;have R4:=R2.same (s3.trans s4);have R5:=R4.kp k5 dnp das;have in0np:in0≠np:=λe=>by subst e;rw[R2.top] at nin;cases nin
  have tinp:ti≠np:=λe=>by subst e;rw[(R2.same s3).top] at nti;cases nti
  have rowsOld:∀ {Hx:Hp} {x:Addr},C9 Hx np as (F0 n ts)->Hx x=none->x∉as:=λ{Hx x} R hx hm=>by
   obtain⟨i,hi,e⟩:=dy hm;have hi2:i<(F0 n ts).length:=by have:=R.len;omega
   have:=R.row i x (F0 n ts)[i] (by rw[aq hi,e]) (aq hi2);rw[hx] at this;cases this
  have in0as:=rowsOld R2 nin;have tias:=rowsOld (R2.same s3) nti;have nin0:H in0=none:=(s1.kp.trans k2).free d2 nin;have nti0:H ti=none:=((s1.kp.trans k2).trans s3.kp).free (d2.same s3) nti;have kH5:Kp d H H5:=(((s1.kp.trans k2).trans s3.kp).trans s4.kp).trans k5;have e35:H5 in0=some (.lst ([z1 % n].map V.int)):=k5 _ _ in0d (s4 _ _ e3);have e45:H5 ti=some (.lst []):=k5 _ _ tid e4;refine⟨a3V H d w0 np as n ts in0 ti (z1 % n) (z2 % 3),⟨_,none,none,none,none,[z1 % n],[],[],rfl,kH5,d5,R5,e35,e45,⟨λx hx=>(by cases hx),rfl⟩,Q0.one _,λx hx=>?_,rfl⟩,?_⟩
  ·rw[ag.mp hx];exact⟨o0,o1⟩
  ·rintro m σ Hc ⟨a,b,c,e,ins,us,ps,rfl,kc,dc,hRc,hin,hti,hps,hg,hrg,rfl⟩;have hwc:Hc w0=some (.tup [.int n,.ref q0]):=kc.tp hd _ _ hw0;have hgl:=hg.len;walk_at "rd";refine⟨_,.inl (SqL.of hin),_,SqT.of hwc,_,rfl,n,rfl,Y7 (λh=>?_) λh=>?_⟩
   ·have hlt:(ins.length:Int)<n:= ~~~h
    obtain⟨a0,ha0,b0,hb0,hbn0⟩:=hg.open hok hrg hlt;refine⟨a3V H d w0 np as n ts in0 ti (z1 % n) (z2 % 3) (n.toNat-(ins.length+1)),fun σ' H' z=>⟨_,∅,z⟩,⟨_,SqL.of hin⟩,λpr npr=>N9 (K:=K) (xs:=ins.map V.int) (a9p Hc pr in0 np ts ins) ⟨none,rfl,(B0.refl Hc).upd npr,A2⟩ ?_ ?_ ?_⟩
    ·rintro i τ Hd _ ⟨_,rfl,sd,_⟩;exact SqL.of (sd _ _ hin)
    ·rintro i v τ Hd hv ⟨c1,rfl,sd,hpr⟩ _;rw[aC] at hv;cases hx0:ins[i]? with
     | none=>rw[hx0] at hv;cases hv
     | some x =>
     rw[hx0] at hv;cases aG hv;obtain⟨x0,x1⟩:=hrg x (aB hx0);obtain⟨ra,r1,r2,r3,r4⟩:=hRc.get x0 (M9 x0 x1);have hil:=(ap.mp hx0).1;walk_at "rd";refine⟨_,SqL.of (sd _ _ hRc.top),_,r2,ra,rfl,⟨_,SqL.of (sd _ _ r3)⟩,λpo npo=>N9 (K:=K) (xs:=(nb ts x).map V.int) (a5F Hd po in0 (nb ts x) ins) ⟨none,rfl,(B0.refl Hd).upd npo,A2⟩ ?_ ?_ ?_⟩
     ·rintro j τ He _ ⟨_,rfl,se,_⟩;exact SqL.of (se _ _ (sd _ _ r3))
     ·rintro j v τ He hv ⟨c2,rfl,se,hpo⟩ _;rw[aC] at hv;cases hy0:(nb ts x)[j]? with
      | none=>rw[hy0] at hv;cases hv
      | some y =>
      rw[hy0] at hv;cases aG hv;have hjl:=(ap.mp hy0).1;have hnl:=a2H (ts:=ts) x;have hfl:(((nb ts x).take j).filter λk=>!decide (k∈ins)).length<=j:=ba (cR _ _) (by rw[aN];omega);walk_at "rd";refine a1V (.inl (SqL.of (se _ _ (sd _ _ hin)))) ⟨_,rfl,Y7 (λh=>⟨_,hpo,by rw[aa];exact B5 ∅,_,rfl,se.upd npo,?_⟩) λh=>⟨_,rfl,se,?_⟩⟩
      ·rw[A2,bD,hy0];show _=some (HO.lst (((((nb ts x).take j)++[y]).filter λk=>!decide (k∈ins)).map V.int));rw[cA,a2M (λk=>!decide (k∈ins)) h,aE];rfl
      ·rw[bD,hy0];show _=some (HO.lst (((((nb ts x).take j)++[y]).filter λk=>!decide (k∈ins)).map V.int));rw[cA,a2N (λk=>!decide (k∈ins)) h,b5];exact hpo
     ·rintro τ He ⟨c2,rfl,se,hpo⟩;rw[aa,aX] at hpo;have hpo':He po=some (.lst ((opn ts ins x).map V.int)):=hpo;refine⟨by decide,λpe npe=>B2 npe λHf sf ef=>?_⟩;have hfl:((ins.take i).filter λa=>!decide (opn ts ins a=[])).length<=i:=ba (cR _ _) (by rw[aN];omega);have hprf:Hf pr=some (.lst (((ins.take i).filter λa=>!decide (opn ts ins a=[])).map V.int)):=sf _ _ (se _ _ hpr);refine b3q (ns:=opn ts ins x) (ms:=[]) (SqL.of (sf _ _ hpo')) (SqL.of ef) ⟨_,rfl,Y7 (λh=>⟨_,hprf,by rw[aa];exact B5 ∅,_,rfl,((sd.trans se).trans sf).upd npr,?_⟩) λh=>⟨_,rfl,(sd.trans se).trans sf,?_⟩⟩
      ·rw[A2,bD,hx0];show _=some (HO.lst ((((ins.take i)++[x]).filter λa=>!decide (opn ts ins a=[])).map V.int));rw[cA,a2M (λa=>!decide (opn ts ins a=[])) h,aE];rfl
      ·rw[bD,hx0];show _=some (HO.lst ((((ins.take i)++[x]).filter λa=>!decide (opn ts ins a=[])).map V.int));rw[cA,a2N (λa=>!decide (opn ts ins a=[])) h,b5];exact hprf
    ·rintro τ Hd ⟨c1,rfl,sd,hpr⟩;rw[aa,aX] at hpr;have hpr':Hd pr=some (.lst ((rdy ts ins).map V.int)):=hpr;have hne:rdy ts ins≠[]:=λe0=>by
      have h1:a0∈rdy ts ins:=a5y.mpr ⟨ha0,λe1=>by
       have h2:b0∈opn ts ins a0:=a5z.mpr ⟨hb0,hbn0⟩
       rw[e1] at h2;cases h2⟩
      rw[e0] at h1;cases h1
     have hpl:0<(rdy ts ins).length:=d8.mpr hne;obtain⟨p0,m0,i0⟩:=a2V (xs:=rdy ts ins) (i:=0) (by decide) ∅;obtain⟨p1,m1,i1⟩:=a8q hne;have dd:=dc.same sd;have prd:pr≠d:=dc.ne npr;refine⟨_,SqL.of hpr',_,i0,_,SqL.of hpr',_,i1,L6 dd λz3 He ke de ee=>?_⟩;have hpre:=ke _ _ prd hpr';have g0:=ca z3 (b:=(rdy ts ins).length) ∅;have g1:=bN z3 (b:=(rdy ts ins).length) ∅;obtain⟨p2,m2,i2⟩:=a2V (xs:=rdy ts ins) g0 g1;refine⟨_,.inl (SqL.of hpre),z3,rfl,by rw[aa];omega,_,SqL.of hpre,_,by rw[aa];exact i2,by decide,λlw nlw=>B2 nlw λHf sf ef=>?_⟩;obtain⟨pl,mpl,ipl⟩:=a2V (xs:=[p0,p1,p2]) (i:=z2 % 3) w1 (by simp;omega);have hplr:pl∈rdy ts ins:=by
      simp only[aW,cH,or_false] at mpl;rcases mpl with rfl | rfl | rfl<;>assumption
     obtain⟨hpi,hpo⟩:=a5y.mp hplr;obtain⟨v0,v1⟩:=hrg pl hpi;have Rf:C9 Hf np as (F0 n ts):=((hRc.same sd).kp ke dnp das).same sf;have kf:Kp d Hc Hf:=(sd.kp.trans ke).trans sf.kp;have hinf:=kf _ _ in0d hin;obtain⟨ra,r1,r2,r3,r4⟩:=Rf.get v0 (M9 v0 v1);refine⟨_,SqL.of ef,_,ipl,_,pl,rfl,SqL.of Rf.top,_,r2,ra,rfl,⟨_,SqL.of r3⟩,λpo npo=>N9 (K:=K) (xs:=(nb ts pl).map V.int) (a5F Hf po in0 (nb ts pl) ins) ⟨none,rfl,(B0.refl Hf).upd npo,A2⟩ ?_ ?_ ?_⟩
     ·rintro j τ He _ ⟨_,rfl,se,_⟩;exact SqL.of (se _ _ r3)
     ·rintro j v τ He hv ⟨c2,rfl,se,hpo⟩ _;rw[aC] at hv;cases hy0:(nb ts pl)[j]? with
      | none=>rw[hy0] at hv;cases hv
      | some y =>
      rw[hy0] at hv;cases aG hv;have hjl:=(ap.mp hy0).1;have hnl:=a2H (ts:=ts) pl;have hfl:(((nb ts pl).take j).filter λk=>!decide (k∈ins)).length<=j:=ba (cR _ _) (by rw[aN];omega);walk_at "rd";refine a1V (.inl (SqL.of (se _ _ hinf))) ⟨_,rfl,Y7 (λh=>⟨_,hpo,by rw[aa];exact B5 ∅,_,rfl,se.upd npo,?_⟩) λh=>⟨_,rfl,se,?_⟩⟩
      ·rw[A2,bD,hy0];show _=some (HO.lst (((((nb ts pl).take j)++[y]).filter λk=>!decide (k∈ins)).map V.int));rw[cA,a2M (λk=>!decide (k∈ins)) h,aE];rfl
      ·rw[bD,hy0];show _=some (HO.lst (((((nb ts pl).take j)++[y]).filter λk=>!decide (k∈ins)).map V.int));rw[cA,a2N (λk=>!decide (k∈ins)) h,b5];exact hpo
     ·rintro τ Hg ⟨c2,rfl,sg,hog⟩;rw[aa,aX] at hog;have hog':Hg po=some (.lst ((opn ts ins pl).map V.int)):=hog;have hol:0<(opn ts ins pl).length:=d8.mpr hpo;have dg:L9 Hg d:=(de.same sf).same sg;have pod:po≠d:=(de.same sf).ne npo;refine L6 dg λz4 Hh kh dh eh=>?_
      have hoh:=kh _ _ pod hog';have g2:=ca z4 (b:=(opn ts ins pl).length) ∅;have g3:=bN z4 (b:=(opn ts ins pl).length) ∅;obtain⟨ot,mo,io⟩:=a2V (xs:=opn ts ins pl) g2 g3;obtain⟨ho1,ho2⟩:=a5z.mp mo;have kh':Kp d Hc Hh:=(kf.trans sg.kp).trans kh;have hinh:=kh' _ _ in0d hin;have hth:=kh' _ _ tid hti;have hti2:upd Hh in0 (.lst (ins.map V.int++[.int ot])) ti=some (.lst (ps.map λx=>V.ref x.1)):=by rw[A8 inti.symm];exact hth
      refine⟨_,.inl (SqL.of hoh),z4,rfl,by rw[aa];omega,_,SqL.of hoh,_,by rw[aa];exact io,.inl ⟨rfl,_,SqL.of hinh⟩,_,hinh,by rw[aa];exact B5 ∅,.inl ⟨rfl,_,SqL.of hti2⟩,pl,ot,⟨rfl,rfl⟩,pl,ot,⟨rfl,rfl⟩,by decide,λtp ntp=>?_⟩;have ntp':Hh tp=none:=K4 ntp;have titp:ti≠tp:=C3 hti2 ntp;have in0tp:in0≠tp:=C3 (A2 (o:=.lst (ins.map V.int++[.int ot]))) ntp;have Rh:C9 Hh np as (F0 n ts):=(Rf.same sg).kp kh dnp das;have tpnp:tp≠np:=λe=>by subst e;rw[Rh.top] at ntp';cases ntp'
      have hpsl:=hps.len;refine⟨_,N3 hti2 ntp,by rw[aa];exact B5 ∅,_,_,_,_,ins++[ot],us++[mm pl ot],ps++[(tp,tl (mm pl ot))],rfl,?_,?_,?_,?_,?_,?_,Q0.add hg hpi ho2 ho1,λx hx=>?_,?_⟩
      ·exact (((kc.trans kh').new nin0).new ((kc.trans kh').free dh ntp')).new nti0
      ·exact ((dh.new in0d).new (dh.ne ntp')).new tid
      ·exact ((Rh.put in0np in0as).put tpnp (rowsOld Rh ntp')).put tinp tias
      ·rw[A8 inti,A8 in0tp,A2,aE];rfl
      ·rw[A2,aE];rfl
      ·refine (hps.tp ?_).snoc (by rw[A8 titp.symm,A2];rfl);exact (((kh'.tp dc).trans (Tp.lst hinh)).trans (Tp.nw ntp)).trans (Tp.lst (N3 hti2 ntp))
      ·rcases al.mp hx with hx | hx
       ·exact hrg x hx
       ·rw[ag.mp hx];have:=a2G hok.rng ho1;omega
      ·rw[aD];rfl
   ·have hle:n<=ins.length:= ~~~h
    have hge:=a2E hg.nd hrg;have hle':(ins.length:Int)=n:=∅
    refine⟨ps,hps.src hti,λps' l pm hs nl=>?_⟩;obtain⟨us',pu,hps'⟩:=hps.perm pm;refine B2 nl λHe se ee=>⟨_,.inl ⟨SqL.of ee,λl2 n2=>B2 n2 λHf sf ef=>?_⟩⟩
    exact q l2 us' Hf (kc.trans (se.trans sf).kp) (dc.same (se.trans sf)) ((kc.trans se.kp).free (dc.same se) n2) ⟨ps',ef,hps'.tp (se.trans sf).tp⟩ (a6k hg hok.rng hle' hrg pu (hps'.srt hs))
theorem a5j:B7 ["thing"] ["thing"] (A7 (top 4)):=by walk_at "s"
theorem a8V (F:Fun K "is_int" "is_int" (top 4) f fd)(B:Bt mg)(C:Bt2 mg):B8 P w K mg base CX0 1 f fd ["thing"] a5c:=by
 refine F.ok a5j (λvs H Q E h=>?_) (λcdv A outer s H vs Q E hr h=>?_)
 ·walk_at "h"
 ·obtain⟨x,T,rfl,hx,q⟩:=h;have nd:=a5j.nd;have hu:=E8 hr;refine⟨_,(A4 (B4 (a1a (A9 (a4C K) (by rfl) C.isinstance da (A0 (pv 0) (A0 (a0Z (by rfl) B.int boot_int) A1))) (a2y (b0N (A9 (a4C K) (by rfl) C.isinstance da (A0 (pv 0) (A0 (a0Z (by rfl) C.bool boot_bool) A1)))))))),?_⟩;walk_at "rd";refine⟨_,_,⟨rfl,rfl⟩,_,hx.ty,_,V6 hx (.inl rfl),?_⟩;have e:=b1f hx;cases h1:a4D T "int" with
  | true =>
   rw[if_pos rfl];rw[h1,gZ] at e;refine⟨_,_,⟨rfl,rfl⟩,_,hx.ty,_,V6 hx (.inr (.inl rfl)),?_⟩;rw[e];exact q
  | false =>
   rw[if_neg (by decide)];rw[h1,eG] at e;rw[<- e] at q;exact q
theorem a3t:B7 ["thing","least","most"] ["thing","least","most"] (A7 (top 5)):=by walk_at "s"
theorem a7q (F:Fun K "is_between" "is_between" (top 5) f fd)(B:Bt mg)(D1:Df K mg "is_int" st1 f1 fd1 ["thing"])(G1:B8 P w K mg base CX0 1 f1 fd1 ["thing"] a5c):B8 P w K mg base CX0 2 f fd ["thing","least","most"] a0P:=by
 refine F.ok a3t (λvs H Q E h=>?_) (λcdv A outer s H vs Q E hr h=>?_)
 ·walk_at "h"
 ·obtain⟨x,T,lo,hi,rfl,hx,q⟩:=h;have nd:=a3t.nd;have hu:=E8 hr;refine⟨_,(A4 (B4 (a1a (B1 G1 D1 hr.m (A0 (pv 0) A1)) (a1a (U2 a9W (pv 1) (pv 0) (E7 _)) (a2y (U2 a9W (pv 0) (pv 2) (E7 _))))))),?_⟩;walk_at "rd";refine⟨x,T,rfl,hx,_,rfl,?_⟩;cases h1:isI x with
  | true =>
   rw[if_pos rfl];obtain⟨i,rfl⟩:=a9n h1;refine⟨i,rfl,?_⟩;unfold Y9 at q;dsimp only at q;by_cases h2:lo<=i
   ·rw[if_pos (~~~h2)];rw[decide_eq_true h2,gZ] at q;exact⟨i,rfl,q⟩
   ·rw[if_neg (~~~h2)];rw[decide_eq_false h2,eG] at q;exact q
  | false =>
   rw[if_neg (by decide)];rw[a9B h1] at q;exact q
theorem a3r:B7 ["thing"] ["thing"] (A7 (top 10)):=by walk_at "s"
theorem a7o (F:Fun K "is_pair" "is_pair" (top 10) f fd)(B:Bt mg)(C:Bt2 mg):B8 P w K mg base CX0 1 f fd ["thing"] a0O:=by
 refine F.ok a3r (λvs H Q E h=>?_) (λcdv A outer s H vs Q E hr h=>?_)
 ·walk_at "h"
 ·obtain⟨x,T,rfl,hx,q⟩:=h;have nd:=a3r.nd;have hu:=E8 hr;refine⟨_,(A4 (B4 (a1a (A9 (a4C K) (by rfl) C.isinstance da (A0 (pv 0) (A0 (a0Z (by rfl) B.tuple cF) A1))) (a2y (U2 a1U (A9 (a1g K) (by rfl) B.len b8 (A0 (pv 0) A1)) A5 (E7 _)))))),?_⟩;walk_at "rd";refine⟨_,_,⟨rfl,rfl⟩,_,hx.ty,_,V6 hx (.inr (.inr rfl)),?_⟩;cases h1:a4D T "tuple" with
  | true =>
   rw[if_pos rfl];cases hx with
   | tup e =>
    rw[a4N e] at q;refine⟨_,rfl,_,.inr (SqT.of e),?_⟩;refine Eq.mp (congrArg (λb=>Q (V.bl b) H) ?_) q;rw[ei];simp;omega
   | _=>cases h1
  | false =>
   rw[if_neg (by decide)];rw[a6r hx h1] at q;exact q
theorem a5i:B7 ["thing","places","a","b"] ["thing","places"] (A7 (top 11)):=by walk_at "s"
theorem a8U (F:Fun K "is_tie" "is_tie" (top 11) f fd)(B:Bt mg)(D1:Df K mg "is_pair" st1 f1 fd1 ["thing"])(G1:B8 P w K mg base CX0 1 f1 fd1 ["thing"] a0O)(D2:Df K mg "is_between" st2 f2 fd2 ["thing","least","most"])(G2:B8 P w K mg base CX0 2 f2 fd2 ["thing","least","most"] a0P):B8 P w K mg base CX0 3 f fd ["thing","places"] a5b:=by
 refine F.ok a5i (λvs H Q E h=>?_) (λcdv A outer s H vs Q E hr h=>?_)
 ·walk_at "h"
 ·obtain⟨x,T,n,rfl,hx,hyz,q⟩:=h;have nd:=a5i.nd;have hu:=E8 hr
  refine⟨_,(A3 (K3 (N0 (P5 (B1 G1 D1 hr.m (A0 (pv 0) A1))))
     (A4 (B4 M5))
     D0)
    (A3 (X0 (pv 0) (M0 K (n:=2) rfl (B9 (A6 (i:=2) nd rfl (.inl rfl)) (B9 (A6 (i:=3) nd rfl (.inl rfl)) K5))))
    (A4 (B4 (a1a (B1 G2 D2 hr.m (A0 (pv 2) (A0 A5 (A0 (B3 P7 (pv 1) A5) A1)))) (a2y (B1 G2 D2 hr.m (A0 (pv 3) (A0 (B3 R8 (pv 2) A5) (A0 (B3 P7 (pv 1) A5) A1)))))))))),?_⟩
  walk_at "rd";refine⟨x,T,rfl,hx,?_⟩;cases hp:L8 H x with
  | none =>
   unfold a1t at q;rw[hp] at q;refine⟨_,rfl,?_⟩;rw[if_pos (by rfl)];exact q
  | some yz =>
   obtain⟨y,z⟩:=yz;obtain⟨a,rfl,ha⟩:=W0 hp;obtain⟨⟨Ty,hy⟩,Tz,hz⟩:=hyz y z hp;unfold a1t at q;rw[hp] at q;dsimp only at q;refine⟨_,rfl,?_⟩;rw[if_neg (by simp)];refine⟨a,rfl,_,SqT.of ha,rfl,y,_,rfl,z,_,rfl,rfl,y,Ty,0,n-1,rfl,hy,_,rfl,?_⟩;cases hb:Y9 y 0 (n-1) with
   | true =>
    rw[hb,gZ] at q;rw[if_pos rfl];obtain⟨i,rfl⟩:∃ i,y=.int i:=by
     cases y<;>first | exact⟨_,rfl⟩ | cases hb
    exact⟨i,rfl,z,Tz,i+1,n-1,rfl,hz,q⟩
   | false =>
    rw[hb,eG] at q;rw[if_neg (by decide)];exact q
def S1 (K:ae):Sp:=λvs H Q _=>∃(n:Nat),vs=[.int n]/\n<=100/\∀ p H',B0 H H'->H p=none->H' p=some (.dK (nKv n))->Q (.ref p) H'
def b1q (Hb:Hp)(p:Addr)(i:Nat)(τ:St)(Hc:Hp):Prop:=∃ c:Option V,τ=[c]/\B0 Hb Hc/\Hc p=some (.dK (nKv i))
theorem a0p:B7 ["many"] ["many"] (A7 (top 23)):=by walk_at "s"
theorem a3L (F:Fun K "numbers_below" "numbers_below" (top 23) f fd)(B:Bt mg)(C5:Bt5 mg):B8 P w K mg base CX0 1 f fd ["many"] (S1 K):=by
 refine F.ok a0p (λvs H Q E h=>?_) (λcdv A outer s H vs Q E hr h=>?_)
 ·walk_at "h"
 ·obtain⟨n,rfl,hn,q⟩:=h;have nd:=a0p.nd;have hu:=E8 hr;refine⟨_,(A4 (B4 (a7j (own:=["number"]) (fr:=[]) false hu rfl (by walk_at "w") E2 (P6 (by rfl) B.range (A0 (pv 0) A1)) ⟨λ_ _ _ _=>⟨(A6 (i:=0) (show bH (["number"]:List Str) by decide +kernel) rfl (.inl rfl)),J8,(C2 J7 (by rfl) C5.str eu (A0 (pv 0) A1)),(pv 0)⟩⟩))),?_⟩;walk_at "rd";refine⟨∅,∅,λp np=>a8h (b1q H p) ⟨none,rfl,(B0.refl H).upd np,A2⟩ ?_ ?_⟩
  ·rintro i τ Hc hi ⟨c,rfl,sc,hc⟩;walk_at "rd";have l:=a5w i;refine⟨?_,_,.inl ⟨nKv i,.inr (tS (0+i)),hc,rfl,B5 ∅,rfl⟩,_,rfl,sc.upd np,?_⟩
   ·have:(0+(i:Int)).natAbs<100:=∅
    have h2:=gG (n:=(0+(i:Int)).natAbs) (k:=1920);by_cases h0:(0+(i:Int)).natAbs=0
    ·rw[h0];decide
    ·exact (h2 h0).mpr (dQ this (aT (by decide:100<2 ^ 7) (fw (by decide) (by decide))))
   ·rw[A2,Int.zero_add];rfl
  ·rintro τ Hc ⟨c,rfl,sc,hc⟩;rw[cY] at hc;exact q p Hc sc np hc
def Y0 (K:ae):Sp:=λvs H Q _=>∃(w d:Addr) (ws:List Str) (m:Nat),vs=[.ref w,.ref d]/\SqL K H w (ws.map V.str)/\H d=some (.dK (nKv m))/\ws.length<=100000 /\
 ∀ p H',B0 H H'->H p=none->H' p=some (.tup (ws.map (nOf m)))->Q (.ref p) H'
def b1p (Hb:Hp)(l d:Addr)(m:Nat)(ws:List Str)(i:Nat)(τ:St)(Hc:Hp):Prop:=∃ c:Option V,τ=[c,some (.ref d)]/\B0 Hb Hc/\Hc l=some (.lst ((ws.take i).map (nOf m)))
theorem a3v:B7 ["words","numbers"] ["words","numbers"] (A7 (top 24)):=by walk_at "s"
theorem a7s (F:Fun K "numbers_in" "numbers_in" (top 24) f fd)(B:Bt mg):B8 P w K mg base CX0 1 f fd ["words","numbers"] (Y0 K):=by
 refine F.ok a3v (λvs H Q E h=>?_) (λcdv A outer s H vs Q E hr h=>?_)
 ·walk_at "h"
 ·obtain⟨w,d,ws,m,rfl,hw,hd,hl,q⟩:=h;have nd:=a3v.nd;have hu:=E8 hr;refine⟨_,(A4 (B4 (C2 (T6 K) (by rfl) B.tuple cF (A0 (K9 (own:=["word"]) (fr:=[("numbers",1)]) rfl (by walk_at "w") (K1 rfl rfl E2) (J5 K (pv 0)) ⟨λ_ _ _ _=>⟨(A6 (i:=0) (show bH (["word","numbers"]:List Str) by decide +kernel) rfl (.inl rfl)),J8,(a7i hu (pv 1) (pv 0) ⟨rfl,rfl,rfl,rfl⟩)⟩⟩) A1)))),?_⟩;walk_at "rd";refine⟨⟨_,hw⟩,λl nl=>N9 (K:=K) (xs:=ws.map V.str) (b1p H l d m ws) ⟨none,rfl,(B0.refl H).upd nl,A2⟩ ?_ ?_ ?_⟩
  ·rintro i τ Hc _ ⟨_,rfl,sc,_⟩;exact sc.seq hw
  ·rintro i v τ Hc hv ⟨c,rfl,sc,hc⟩ _;rw[aC] at hv;obtain⟨x,hx,rfl⟩:=cn.mp hv;walk_at "rd";have hdc:=sc _ _ hd;refine⟨.inl ⟨_,.inl hdc⟩,_,W2.k (k:=.inr x) hdc,_,hc,by rw[aa,aN];exact B5 ∅,_,rfl,sc.upd nl,?_⟩;rw[A2,b6,hx,aE];rfl
  ·rintro τ Hc ⟨c,rfl,sc,hc⟩;rw[aa,aX] at hc;exact⟨_,.inl ⟨SqL.of hc,λp np=>B2 np λH2 s2 e2=>q p H2 (sc.trans s2) (sc.free np) e2⟩⟩
def K0 (a b:Str):List Str:=if a=Str.ofString "" then [] else Txt.split a b
def W9 (K:ae):Sp:=λvs H Q _=>∃(a b:Str),vs=[.str a,.str b]/\(b.length == 0)=false/\a.length+2<=sizeLine /\
 ∀ p H',B0 H H'->H p=none->H' p=some (.lst ((K0 a b).map V.str))->Q (.ref p) H'
theorem a0V:B7 ["text","mark"] ["text","mark"] (A7 (top 25)):=by walk_at "s"
theorem a4w (F:Fun K "items_in" "items_in" (top 25) f fd)(B:Bt mg):B8 P w K mg base CX0 1 f fd ["text","mark"] (W9 K):=by
 refine F.ok a0V (λvs H Q E h=>?_) (λcdv A outer s H vs Q E hr h=>?_)
 ·walk_at "h"
 ·obtain⟨a,b,rfl,hb,hl,q⟩:=h;have nd:=a0V.nd;have hu:=E8 hr
  refine⟨_,(A3 (K3 (E5 a1U (pv 0) J9 (E7 _))
     (A4 (B4 (L1 A1)))
     D0)
    (A4 (B4 (a0z K (pv 0) (A0 (pv 1) A1))))),?_⟩
  walk_at "rd";refine Y7 (λh=>⟨by decide,λp np=>B2 np λH1 s1 e1=>q p H1 s1 np ?_⟩) λh=>⟨rfl,a,rfl,b,rfl,hb,hl,λp np=>B2 np λH1 s1 e1=>q p H1 s1 np ?_⟩
  ·have h:a=Str.ofString "":= ~~~h
   rw[e1];unfold K0;rw[if_pos h];rfl
  ·have h:¬ a=Str.ofString "":= ~~~h
   rw[e1];unfold K0;rw[if_neg h]
def a5a:Sp:=λvs H Q _=>∃(p:Addr) (us:List Int),vs=[.ref p]/\H p=some (.tup (us.map V.int))/\us.length<=100000/\∀ b:Bool,(b=true↔us.Pairwise (·<·))->Q (.bl b) H
def a7P (H:Hp)(p:Addr)(us:List Int)(i:Nat)(σ:St)(Hc:Hp):Prop:=∃ c:Option V,σ=[some (.ref p),c]/\Hc=H/\∀ j,j<i->us.getD j 0<us.getD (j+1) 0
theorem a0H:∀ {us:List Int},(∀ j,j+1<us.length->us.getD j 0<us.getD (j+1) 0)->us.Pairwise (·<·)
 | [],_=>.nil
 | [x],_=>bq _ _
 | x::y::r,h=>by
  have ih:=a0H (us:=y::r) λj hj=>by simpa using h (j+1) (~~~hj)
  have h0:x<y:=by simpa using h 0 (by simp)
  refine List.pairwise_cons.mpr ⟨λz hz=>?_,ih⟩;rcases aW.mp hz with rfl | hz
  ·exact h0
  ·have:=(List.pairwise_cons.mp ih).1 z hz;omega
theorem a5Q {us:List Int}(h:us.Pairwise (·<·)){j:Nat}(hj:j+1<us.length):us.getD j 0<us.getD (j+1) 0:=by
 rw[cb,cb,aq hj,aq ∅];exact df.mp h j (j+1) ∅ hj ∅
theorem b0f {us:List Int}{j:Int}(h0:0<=j)(h1:j<us.length):atI (us.map V.int) j=some (.int (us.getD j.toNat 0)):=by
 unfold atI ixN;rw[aa,if_pos h0,if_pos h1];show (us.map V.int)[j.toNat]?=_;rw[aC,cb,aq ∅];rfl
theorem a5h:B7 ["items","at"] ["items"] (A7 (top 12)):=by walk_at "s"
theorem a8T (F:Fun K "is_rising" "is_rising" (top 12) f fd)(B:Bt mg):B8 P w K mg base CX0 1 f fd ["items"] a5a:=by
 refine F.ok a5h (λvs H Q E h=>?_) (λcdv A outer s H vs Q E hr h=>?_)
 ·walk_at "h"
 ·obtain⟨p,us,rfl,hp,hl,q⟩:=h;have nd:=a5h.nd;have hu:=E8 hr
  refine⟨_,(A3 (M4 bn rfl (Z6 (by rfl) B.range (A0 A5 (A0 (A9 (a1g K) (by rfl) B.len b8 (A0 (pv 0) A1)) A1))) (A6 (i:=1) nd rfl (.inl rfl))
     (A4 (K3 (N0 (E5 a5u (E4 (J0 K) (pv 0) (B3 P7 (pv 1) A5) (λ_ _=>rfl)) (E4 (J0 K) (pv 0) (pv 1) (λ_ _=>rfl)) (E7 _)))
      (A4 (B4 M5))
      D0)))
    (A4 (B4 M5))),?_⟩
  walk_at "rd";refine⟨_,rfl,p,_,rfl,.inr (SqT.of hp),1,_,rfl,⟨by decide,by decide,by rw[aa];omega,by rw[aa];omega⟩,T3 (lo:=1) (n:=(((us.map V.int).length:Int)-1).toNat) (a7P H p us) ⟨none,rfl,rfl,λj hj=>absurd hj (fu _)⟩ ?_ ?_⟩
  ·rintro i σ Hc hi ⟨c,rfl,rfl,hs⟩;rw[aa] at hi;walk_at "rd";refine⟨_,SqT.of hp,_,b0f ∅ ∅,_,SqT.of hp,_,b0f ∅ ∅,?_⟩;refine⟨_,rfl,_,rfl,?_⟩;have e1:(1+(i:Int)-1).toNat=i:=∅
   have e2:(1+(i:Int)).toNat=i+1:=∅
   rw[e1,e2];by_cases hlt:us.getD i 0<us.getD (i+1) 0
   ·rw[if_neg (by rw[decide_eq_true hlt];decide)];refine⟨_,rfl,rfl,λj hj=>?_⟩;rcases bS j i with h | h
    ·exact hs j h
    ·cases (show j=i by omega);exact hlt
   ·rw[if_pos (by rw[decide_eq_false hlt];decide)];exact q false ⟨λh=>(by cases h),λh=>absurd (a5Q h ∅) hlt⟩
  ·rintro σ Hc ⟨c,rfl,rfl,hs⟩;rw[aa] at hs;exact q true ⟨λ_=>a0H λj hj=>hs j ∅,λ_=>rfl⟩
theorem a1F (a b:Str):(Txt.split a b).length<=a.length+2:=by
 have e1:=PySem.StrLaws.occ_length_le a b 0 a.length (a.length+1);unfold Txt.split;split
 ·simp
 ·split
  ·simp
  ·rw[i5];omega
theorem a2b (a b:Str):(K0 a b).length<=a.length+2:=by
 unfold K0;split
 ·simp
 ·exact a1F a b
theorem a2I {m:Nat}(hm:m<=100)(w:Str):nOf m w=.non\/∃ i:Nat,i<m/\w=tS i/\nOf m w=.int i:=by
 unfold nOf;cases h:N7 (nKv m) (.inr w) with
 | none=>exact .inl rfl
 | some v =>
  obtain⟨i,hi,e,rfl⟩:=(a5x hm).mp h;exact .inr ⟨i,hi,e,rfl⟩
theorem a7z {m:Nat}(hm:m<=100)(w:Str):W7 (nOf m w)=true:=by
 rcases a2I hm w with h | ⟨i,_,_,h⟩<;>rw[h]<;>rfl
theorem a5v {m:Nat}(hm:m<=100):∀ ws:List Str,(inV .non (ws.map (nOf m))=true/\∀ ks:List Int,ws.map (nOf m)≠ks.map V.int)\/(inV .non (ws.map (nOf m))=false/\∃ ks:List Int,ws.map (nOf m)=ks.map V.int)
 | []=>.inr ⟨rfl,[],rfl⟩
 | w::ws=>by
  rcases a2I hm w with h | ⟨i,_,_,h⟩
  ·refine .inl ⟨by rw[ao,h];rfl,λks e=>?_⟩;cases ks with
   | nil=>cases e
   | cons k ks=>rw[ao,ao,h] at e;cases e
  ·rcases a5v hm ws with ⟨a,b⟩ | ⟨a,ks,b⟩
   ·refine .inl ⟨by rw[ao,h];exact a,λks e=>?_⟩;cases ks with
    | nil=>cases e
    | cons k ks=>exact b ks (dr e).2
   ·exact .inr ⟨by rw[ao,h];exact a,i::ks,by rw[ao,h,b];rfl⟩
theorem a1l:∀ {ks ls:List Int},ks.map V.int=ls.map V.int->ks=ls
 | [],[],_=>rfl
 | [],_::_,h=>by cases h
 | _::_,[],h=>by cases h
 | k::ks,l::ls,h=>by
  have h:=dr h;rw[V.int.inj h.1,a1l h.2]
def a0i (K:ae):Sp:=λvs H Q _=>∃(a:Str) (m:Nat),vs=[.str a,.int m]/\m<=100/\a.length<=90000 /\
 (∀ H',B0 H H'->(∀ ks:List Int,(K0 a (Str.ofString ",")).map (nOf m)=ks.map V.int->¬ ks.Pairwise (·<·))->Q .non H') /\
 ∀ p H' (ks:List Int),B0 H H'->H p=none->H' p=some (.tup (ks.map V.int))->(K0 a (Str.ofString ",")).map (nOf m)=ks.map V.int->ks.Pairwise (·<·)->Q (.ref p) H'
theorem a0n:B7 ["text","many","places"] ["text","many"] (A7 (top 26)):=by walk_at "s"
theorem a3J (F:Fun K "places_in" "places_in" (top 26) f fd)(B:Bt mg)(D1:Df K mg "items_in" st1 f1 fd1 ["text","mark"])(G1:B8 P w K mg base CX0 1 f1 fd1 ["text","mark"] (W9 K))(D2:Df K mg "numbers_below" st2 f2 fd2 ["many"])(G2:B8 P w K mg base CX0 1 f2 fd2 ["many"] (S1 K))(D3:Df K mg "numbers_in" st3 f3 fd3 ["words","numbers"])(G3:B8 P w K mg base CX0 1 f3 fd3 ["words","numbers"] (Y0 K))(D4:Df K mg "is_rising" st4 f4 fd4 ["items"])(G4:B8 P w K mg base CX0 1 f4 fd4 ["items"] a5a):B8 P w K mg base CX0 3 f fd ["text","many"] (a0i K):=by
 refine F.ok a0n (λvs H Q E h=>?_) (λcdv A outer s H vs Q E hr h=>?_)
 ·walk_at "h"
 ·obtain⟨a,m,rfl,hm,hl,q1,q2⟩:=h;have nd:=a0n.nd;have hu:=E8 hr
  refine⟨_,(A3 (C1 (i:=2) nd rfl (.inl rfl) (B1 G3 D3 hr.m (A0 (B1 G1 D1 hr.m (A0 (pv 0) (A0 J9 A1))) (A0 (B1 G2 D2 hr.m (A0 (pv 1) A1)) A1))))
    (A3 (K3 (PW.pt (a1T (E5 (a9v K) a2z (pv 2) (by walk_at "w")) (Z4 (N0 (P5 (B1 G4 D4 hr.m (A0 (pv 2) A1)))))))
     (A4 (B4 a2z))
     D0)
    (A4 (B4 (pv 2))))),?_⟩
  walk_at "rd";have il:=a2b a (Str.ofString ",");refine⟨a,Str.ofString ",",rfl,by decide,B5 ∅,λp H1 s1 f1 e1=>⟨m,rfl,hm,λd H2 s2 f2 e2=>?_⟩⟩;refine⟨p,d,_,m,rfl,SqL.of (s2 _ _ e1),e2,∅,λt H3 s3 f3 e3=>⟨t,_,rfl,.inr (SqT.of e3),rfl,by simp only[List.all_map,bJ];exact λw _=>a7z hm w,_,rfl,?_⟩⟩;have s13:=(s1.trans s2).trans s3;have ft:=(s1.trans s2).free f3;rcases a5v hm (K0 a (Str.ofString ",")) with ⟨e,n⟩ | ⟨e,ks,n⟩
  ·rw[if_neg (by decide:¬ false=true),e,if_pos rfl];exact q1 H3 s13 λks h=>absurd h (n ks)
  ·rw[if_neg (by decide:¬ false=true),e,if_neg (by decide)];refine⟨t,ks,rfl,by rw[e3,n],by have:=congrArg cE n;simp only[aa] at this;omega,λb hb=>⟨_,rfl,?_⟩⟩;cases b
   ·rw[if_pos (by decide)];refine q1 H3 s13 λls h hp=>?_
    rw[a1l (n.symm.trans h)] at hb;exact absurd (hb.mpr hp) (by decide)
   ·rw[if_neg (by decide)];exact q2 t H3 ks s13 ft (by rw[e3,n]) n (hb.mp rfl)
def a1I (K:ae)(C:Addr):Sp:=λvs H Q E=>∃(v:V),vs=[v] /\
  ((∃ a:Str,v=.str a/\a.length<=90000 /\
    (∀ H',B0 H H'->(∀ ks:List Int,(K0 a (Str.ofString ",")).map (nOf 60)=ks.map V.int->¬ ks.Pairwise (·<·))->E (.ref C) none H') /\
    ∀ p H' (ks:List Int),B0 H H'->H p=none->H' p=some (.tup (ks.map V.int))->(K0 a (Str.ofString ",")).map (nOf 60)=ks.map V.int->ks.Pairwise (·<·)->Q (.ref p) H') \/
   ((∃ t,V5 K H v t/\dH K t (.type "str")=some false)/\E (.ref C) none H))
theorem a1N:B7 ["thing","places"] ["thing"] (A7 (top 27)):=by walk_at "s"
theorem a5V (F:Fun K "read_places" "read_places" (top 27) f fd)(B:Bt mg){cNoText:Addr}(ZNoText:a6u K mg "NoText" cNoText)(D1:Df K mg "places_in" st1 f1 fd1 ["text","many"])(G1:B8 P w K mg base CX0 3 f1 fd1 ["text","many"] (a0i K))(C:Bt2 mg)(C5:Bt5 mg){k2:Tok}(M2:mg "MOST_PLACES"=some (.int 60 k2)):B8 P w K mg base (CX1 P w) 4 f fd ["thing"] (a1I K cNoText):=by
 refine F.ok1 a1N (λvs H Q E h=>?_) (λcdv A outer s H vs Q E hr h=>?_)
 ·walk_at "h"
 ·obtain⟨v,rfl,h⟩:=h;have nd:=a1N.nd;have hu:=E8 hr
  refine⟨_,(A3 (C1 (i:=1) nd rfl (.inl rfl) (a7g (P5 (A9 (a4C K) (by rfl) C.isinstance da (A0 (pv 0) (A0 (a0Z (by rfl) C5.str eu) A1)))) (B1 G1 D1 hr.m (A0 (pv 0) (A0 (U1 rfl M2 (show C6 (V.int 60) _ from ⟨_,rfl⟩)) A1))) a2z))
    (A3 (K3 (a2v (b0P (pv 1)))
     (A4 (S9 ZNoText))
     D0)
    (A4 (B4 (pv 1))))),?_⟩
  walk_at "rd";unfold tIf;walk_at "rd";rcases h with ⟨a,rfl,hl,q1,q2⟩ | ⟨⟨t,ty,k⟩,q⟩
  ·refine⟨_, "str",⟨rfl,rfl⟩,_,.str a,true,by rfl,?_⟩;rw[if_pos rfl];refine⟨a,60,rfl,by decide,hl,λH1 s1 n=>?_,λp H1 ks s1 np e h hp=>?_⟩
   ·show if decide (V.non=V.non)=true then _ else _
    rw[if_pos (by decide)];exact q1 H1 s1 n
   ·show if decide (V.ref p=V.non)=true then _ else _
    rw[if_neg (by simp)];exact q2 p H1 ks s1 np e h hp
  ·refine⟨_, "str",⟨rfl,rfl⟩,t,ty,false,k,?_⟩;exact q
def nxB (ts:⋯)(i:Nat):Bool:=HT.lexLt (tl (ts.getD i (0,0))) (tl (ts.getD (i+1) (0,0)))
def a6V (ts:⋯):Bool:=(cU (ts.length-1)).all (nxB ts)
theorem a8F {ts:⋯}(h:ts.Pairwise Lex):a6V ts=true:=by
 refine bJ.mpr λi hi=>?_
 have hi':=bK.mp hi;have:=df.mp h i (i+1) ∅ ∅ ∅;unfold nxB;rw[show ts.getD i (0,0)=ts[i] by simp[List.getD,show i<ts.length by omega],show ts.getD (i+1) (0,0)=ts[i+1] by simp[List.getD,show i+1<ts.length by omega]];exact a0C.mpr this
def a0h:Sp:=λvs H Q _=>∃(p:Addr) (ps:List (Addr×List Int)) (ts:⋯),vs=[.ref p]/\H p=some (.tup (ps.map λx=>V.ref x.1))/\N4 H ps ts/\ts.length<=100000/\Q (.bl (a6V ts)) H
def a9o (H:Hp)(p:Addr)(ts:⋯)(i:Nat)(σ:St)(Hc:Hp):Prop:=∃ a:Option V,σ=[some (.ref p),a]/\Hc=H/\∀ j,j<i->nxB ts j=true
theorem a0m:B7 ["items","at"] ["items"] (A7 (top 12)):=by walk_at "s"
theorem a3I (F:Fun K "is_rising" "is_rising" (top 12) f fd)(B:Bt mg):B8 P w K mg base CX0 1 f fd ["items"] a0h:=by
 refine F.ok a0m (λvs H Q E h=>?_) (λcdv A outer s H vs Q E hr h=>?_)
 ·walk_at "h"
 ·obtain⟨p,ps,ts,rfl,hp,hps,hz,q⟩:=h;have nd:=a0m.nd;have hu:=E8 hr
  refine⟨_,(A3 (M4 bn rfl (Z6 (by rfl) B.range (A0 A5 (A0 (A9 (a1g K) (by rfl) B.len b8 (A0 (pv 0) A1)) A1))) (A6 (i:=1) nd rfl (.inl rfl))
     (A4 (K3 (N0 (E5 (b3s K hr.units0) (E4 (J0 K) (pv 0) (B3 P7 (pv 1) A5) (λ_ _=>rfl)) (E4 (J0 K) (pv 0) (pv 1) (λ_ _=>rfl)) (E7 _)))
      (A4 (B4 M5))
      D0)))
    (A4 (B4 M5))),?_⟩
  walk_at "rd";have hpl:=hps.len;have hlm:(ps.map λx=>V.ref x.1).length=ts.length:=by rw[aa];exact hpl
  refine⟨_,rfl,p,_,rfl,.inr (SqT.of hp),1,_,rfl,⟨by decide,by decide,∅,∅⟩,T3 (lo:=1) (n:=(((ps.map λx=>V.ref x.1).length:Int)-1).toNat) (a9o H p ts) ⟨none,rfl,rfl,λj hj=>absurd hj (fu _)⟩ ?_ ?_⟩
  ·rintro i σ Hc hi ⟨a,rfl,rfl,hb⟩;have hil:i+1<ts.length:=∅
   have at':∀ k (hk:k<ts.length),∃ b,atI (ps.map λx=>V.ref x.1) (k:Int)=some (.ref b)/\Hc b=some (.tup ([(ts.getD k (0,0)).1,(ts.getD k (0,0)).2].map V.int)):=λk hk=>by
    have hk2:k<(ps.map λx=>V.ref x.1).length:=∅
    obtain⟨b,t,e1,e2,e3⟩:=hps.get (i:=k) (aq hk2);refine⟨b,V9 (by rw[aq hk2,e1]),?_⟩;have:ts.getD k (0,0)=t:=by rw[cb,e2];rfl
    rw[this];exact e3
   obtain⟨b1,f1,g1⟩:=at' i ∅;obtain⟨b2,f2,g2⟩:=at' (i+1) hil;walk_at "rd";refine⟨_,SqT.of hp,_,?_,_,SqT.of hp,_,?_,b1,b2,_,_,rfl,rfl,SqT.of g1,SqT.of g2,_,rfl,?_⟩
   ·rw[show (1:Int)+(i:Int)-1=(i:Int) by omega];exact f1
   ·rw[show (1:Int)+(i:Int)=((i+1:Nat):Int) by omega];exact f2
   ·show (if (!nxB ts i)=true then _ else _);cases hx:nxB ts i with
    | true =>
     rw[if_neg (by decide)];refine⟨_,rfl,rfl,λj hj=>?_⟩;rcases bS j i with h | h
     ·exact hb j h
     ·have:j=i:=∅
      rw[this];exact hx
    | false =>
     rw[if_pos (by rfl)];have:a6V ts=false:=by
      rw[<- Bool.not_eq_true];intro h;have:=bJ.mp h i (bK.mpr ∅);rw[hx] at this;cases this
     rw[this] at q;exact q
  ·rintro σ Hc ⟨a,rfl,rfl,hb⟩;have:a6V ts=true:=bJ.mpr λj hj=>hb j (by have:=bK.mp hj;omega)
   rw[this] at q;exact q
theorem a8E {ts:⋯}(h:a6V ts=true):ts.Pairwise Lex:=by
 have h1:∀ i (h:i+1<ts.length),Lex ts[i] ts[i+1]:=λi hi=>by
  have:=bJ.mp h i (bK.mpr ∅);unfold nxB at this;rw[show ts.getD i (0,0)=ts[i] by simp[List.getD,show i<ts.length by omega],show ts.getD (i+1) (0,0)=ts[i+1] by simp[List.getD,hi]] at this;exact a0C.mp this
 have key:∀ d i (h:i+d+1<ts.length),Lex ts[i] ts[i+d+1]:=by
  intro d;induction d with
  | zero=>exact λi hi=>h1 i hi
  | succ d ih =>
   intro i hi;have a:=ih i ∅;have b:=h1 (i+d+1) ∅;change Lex ts[i] (ts[i+d+1+1]'∅);unfold Lex at a b ⊢;omega
 refine List.pairwise_iff_getElem.mpr λi j hi hj hij=>?_
 have:=key (j-i-1) i ∅;simpa [show i+(j-i-1)+1=j by omega] using this
theorem a6U {H:Hp}{n:Int}{a:Addr}{xs:List V}(e:H a=some (.tup xs)){us:⋯}(h:a4i H n (.ref a) us):∀ x∈xs,a1t H x n=true:=by
 obtain⟨b,eb,⟨ps,h1,h2⟩,h3,_⟩:=h;cases eb;rw[e] at h1;cases h1;exact a8x h2 h3
def a0N:Sp:=λvs H Q _=>∃(x:V) (T:String) (n:Int),vs=[x,.int n]/\Pl H x T/\PlD H 2 x/\(∀ a xs,x=.ref a->H a=some (.tup xs)->xs.length<=100000)/\∀ b:Bool,(b=true↔∃ us,a4i H n x us)->Q (.bl b) H
def a9q (H:Hp)(p:Addr)(n:Int)(xs:List V)(i:Nat)(σ:St)(Hc:Hp):Prop:=∃ a:Option V,σ=[some (.ref p),some (.int n),a]/\Hc=H/\∀ x∈xs.take i,a1t H x n=true
theorem a3q:B7 ["thing","places","item"] ["thing","places"] (A7 (top 13)):=by walk_at "s"
theorem a7n (F:Fun K "is_tie_row" "is_tie_row" (top 13) f fd)(B:Bt mg)(D1:Df K mg "is_tie" st1 f1 fd1 ["thing","places"])(G1:B8 P w K mg base CX0 3 f1 fd1 ["thing","places"] a5b)(D2:Df K mg "is_rising" st2 f2 fd2 ["items"])(G2:B8 P w K mg base CX0 1 f2 fd2 ["items"] a0h)(C:Bt2 mg):B8 P w K mg base CX0 4 f fd ["thing","places"] a0N:=by
 refine F.ok a3q (λvs H Q E h=>?_) (λcdv A outer s H vs Q E hr h=>?_)
 ·walk_at "h"
 ·obtain⟨x,T,n,rfl,hx,hd,hlen,q⟩:=h;have nd:=a3q.nd;have hu:=E8 hr
  refine⟨_,(A3 (K3 (N0 (P5 (A9 (a4C K) (by rfl) C.isinstance da (A0 (pv 0) (A0 (a0Z (by rfl) B.tuple cF) A1)))))
     (A4 (B4 M5))
     D0)
    (A3 (M4 bn rfl (M7 K (pv 0)) (A6 (i:=2) nd rfl (.inl rfl))
     (A4 (K3 (N0 (P5 (B1 G1 D1 hr.m (A0 (pv 2) (A0 (pv 1) A1)))))
      (A4 (B4 M5))
      D0)))
    (A4 (B4 (B1 G2 D2 hr.m (A0 (pv 0) A1)))))),?_⟩
  walk_at "rd";refine⟨_,_,⟨rfl,rfl⟩,_,hx.ty,_,V6 hx (.inr (.inr rfl)),?_⟩;cases h1:a4D T "tuple" with
  | false =>
   rw[if_pos (by rfl)];refine q false ⟨λh=>(by cases h),λ⟨us,a,e,⟨ps,h2,_⟩,_⟩=>?_⟩;subst e;cases hx with
   | lst e=>rw[e] at h2;cases h2
   | tup e=>cases h1
   | dK e=>rw[e] at h2;cases h2
   | dT e=>rw[e] at h2;cases h2
  | true =>
   rw[if_neg (by decide)];cases hx with
   | @tup p xs hp =>
    have hl:=hlen p xs rfl hp;refine⟨_,rfl,p,rfl,⟨_,SqT.of hp⟩,U4 (K:=K) (xs:=xs) (a9q H p n xs) ⟨none,rfl,rfl,λx hx=>(by rw[cK] at hx;cases hx)⟩ ?_ ?_ ?_⟩
    ·rintro i σ Hc _ ⟨_,rfl,rfl,_⟩;exact SqT.of hp
    ·rintro i v σ Hc hv ⟨a,rfl,rfl,hs⟩;have hm:=aB hv;have hdv:=hd.2 p xs rfl hp v hm;obtain⟨Tv,hTv⟩:=hdv.pl;walk_at "rd";refine⟨v,Tv,n,rfl,hTv,λy z e=>?_,?_⟩
     ·obtain⟨a',rfl,ea'⟩:=W0 e;exact⟨(hdv.2 a' _ rfl ea' y (by simp)).pl,(hdv.2 a' _ rfl ea' z (by simp)).pl⟩
     ·refine⟨_,rfl,?_⟩;cases hb:a1t Hc v n with
      | false =>
       rw[if_pos (by rfl)];refine q false ⟨λh=>(by cases h),λ⟨us,hr⟩=>?_⟩;have:=a6U hp hr v hm;rw[hb] at this;cases this
      | true =>
       rw[if_neg (by decide)];refine⟨_,rfl,rfl,λx hx=>?_⟩;rw[S7 hv] at hx;rcases al.mp hx with hx | hx
       ·exact hs x hx
       ·rw[ag.mp hx];exact hb
    ·rintro σ Hc ⟨a,rfl,rfl,hs⟩;rw[aX] at hs;obtain⟨ps,us,rfl,hps,hok⟩:=a4T hs;have hul:us.length<=100000:=by rw[<- hps.len];rw[aa] at hl;exact hl
     walk_at "rd";refine⟨p,ps,us,rfl,hp,hps,hul,q _ ⟨λh=>⟨us,p,rfl,⟨ps,hp,hps⟩,hok,a8E h⟩,λ⟨us',a',e',ht',_,hx'⟩=>?_⟩⟩;cases e';cases ht'.inj ⟨ps,hp,hps⟩;exact a8F hx'
   | _=>cases h1
theorem split_le {a b w:Str}(h:w∈Txt.split a b):w.length<=a.length:=by
 unfold Txt.split at h;split at h
 ·cases ag.mp h;exact aj _
 ·split at h
  ·cases ag.mp h;exact aj _
  ·obtain⟨p,_,rfl⟩:=aY.mp h;exact le_strSub _ _ _
theorem a7L {a b w:Str}(h:w∈K0 a b):w.length<=a.length:=by
 unfold K0 at h;split at h
 ·cases h
 ·exact split_le h
def a3e (w:Str):List V:=(Txt.split w (Str.ofString "-")).map (nOf 60)
def RwT (H:Hp)(as:List Addr)(ws:List Str):Prop:=as.length=ws.length/\∀(j:Nat) b w,as[j]?=some b->ws[j]?=some w->H b=some (.tup (a3e w))
theorem RwT.mono {H H':Hp}{as:List Addr}{ws:List Str}(h:RwT H as ws)(s:∀ b o,b∈as->H b=some o->H' b=some o):RwT H' as ws:=⟨h.1,λj b w h1 h2=>s _ _ (aB h1) (h.2 j b w h1 h2)⟩
theorem RwT.get {H:Hp}{as:List Addr}{ws:List Str}(h:RwT H as ws){b:Addr}(hb:b∈as):∃ w,w∈ws/\H b=some (.tup (a3e w)):=by
 obtain⟨j,hj⟩:=bG.mp hb;have hl:j<ws.length:=by rw[<- h.1];exact (ap.mp hj).1
 exact⟨ws[j],fW hl,h.2 j b _ hj (aq hl)⟩
theorem RwT.snoc {H:Hp}{as:List Addr}{ws:List Str}(h:RwT H as ws){b:Addr}{w:Str}(e:H b=some (.tup (a3e w))):RwT H (as++[b]) (ws++[w]):=by
 refine⟨by rw[aD,aD,h.1];rfl,λj c x h1 h2=>?_⟩;rcases bS j as.length with hj | hj
 ·rw[bh hj] at h1;rw[bh (by rw[<- h.1];exact hj)] at h2;exact h.2 j c x h1 h2
 ·rw[bf hj] at h1;rw[bf (by rw[<- h.1];exact hj)] at h2;rw[<- h.1] at h2;cases hk:j-as.length with
  | zero=>rw[hk] at h1 h2;cases h1;cases h2;exact e
  | succ k=>rw[hk] at h1;cases h1
def a1H (K:ae)(C:Addr):Sp:=λvs H Q E=>∃(v:V),vs=[v] /\
  ((∃ a:Str,v=.str a/\a.length<=90000/\∀(p:Addr) H' (as:List Addr),B0 H H'->H p=none->H' p=some (.tup (as.map V.ref))->RwT H' as (K0 a (Str.ofString " ")) ->
      ((∃ us,a4i H' 60 (.ref p) us)->Q (.ref p) H')/\((¬ ∃ us,a4i H' 60 (.ref p) us)->E (.ref C) none H')) \/
   ((∃ t,V5 K H v t/\dH K t (.type "str")=some false)/\E (.ref C) none H))
def b1l (Hb:Hp)(l d:Addr)(ws:List Str)(i:Nat)(τ:St)(Hc:Hp):Prop:=∃(c:Option V) (as:List Addr),τ=[c,some (.ref d)]/\B0 Hb Hc/\Hc l=some (.lst (as.map V.ref))/\RwT Hc as (ws.take i)
theorem a1M:B7 ["thing","numbers","ties"] ["thing"] (A7 (top 28)):=by walk_at "s"
theorem a5U (F:Fun K "read_tree" "read_tree" (top 28) f fd)(B:Bt mg){cNoText:Addr}(ZNoText:a6u K mg "NoText" cNoText)(D1:Df K mg "items_in" st1 f1 fd1 ["text","mark"])(G1:B8 P w K mg base CX0 1 f1 fd1 ["text","mark"] (W9 K))(D2:Df K mg "numbers_below" st2 f2 fd2 ["many"])(G2:B8 P w K mg base CX0 1 f2 fd2 ["many"] (S1 K))(D3:Df K mg "numbers_in" st3 f3 fd3 ["words","numbers"])(G3:B8 P w K mg base CX0 1 f3 fd3 ["words","numbers"] (Y0 K))(D4:Df K mg "is_tie_row" st4 f4 fd4 ["thing","places"])(G4:B8 P w K mg base CX0 4 f4 fd4 ["thing","places"] a0N)(C:Bt2 mg)(C5:Bt5 mg){k2:Tok}(M2:mg "MOST_PLACES"=some (.int 60 k2)):B8 P w K mg base (CX1 P w) 5 f fd ["thing"] (a1H K cNoText):=by
 refine F.ok1 a1M (λvs H Q E h=>?_) (λcdv A outer s H vs Q E hr h=>?_)
 ·walk_at "h"
 ·obtain⟨v,rfl,h⟩:=h;have nd:=a1M.nd;have hu:=E8 hr
  refine⟨_,(A3 (K3 (N0 (P5 (A9 (a4C K) (by rfl) C.isinstance da (A0 (pv 0) (A0 (a0Z (by rfl) C5.str eu) A1)))))
     (A4 (S9 ZNoText))
     D0)
    (A3 (C1 (i:=1) nd rfl (.inr rfl) (B1 G2 D2 hr.m (A0 (U1 rfl M2 (show C6 (V.int 60) _ from ⟨_,rfl⟩)) A1)))
    (A3 (C1 (i:=2) nd rfl (.inl rfl) (C2 (T6 K) (by rfl) B.tuple cF (A0 (K9 (own:=["item"]) (fr:=[("numbers",1)]) rfl (by walk_at "w") (K1 rfl rfl E2) (J5 K (B1 G1 D1 hr.m (A0 (pv 0) (A0 J9 A1)))) ⟨λ_ _ _ _=>⟨(A6 (i:=0) (show bH (["item","numbers"]:List Str) by decide +kernel) rfl (.inl rfl)),J8,(B1 G3 D3 hr.m (A0 (a0z K (pv 0) (A0 J9 A1)) (A0 (pv 1) A1)))⟩⟩) A1)))
    (A3 (K3 (N0 (P5 (B1 G4 D4 hr.m (A0 (pv 2) (A0 (U1 rfl M2 (show C6 (V.int 60) _ from ⟨_,rfl⟩)) A1)))))
     (A4 (S9 ZNoText))
     D0)
    (A4 (B4 (pv 2))))))),?_⟩
  walk_at "rd";rcases h with ⟨a,rfl,hl,q⟩ | ⟨⟨t,ty,k⟩,q⟩
  rotate_left
  ·exact⟨_, "str",⟨rfl,rfl⟩,t,ty,false,k,q⟩
  refine⟨_, "str",⟨rfl,rfl⟩,_,.str a,true,by rfl,?_⟩;rw[if_neg (by decide)];have il:=a2b a (Str.ofString " ");refine⟨60,rfl,by decide,λd H1 s1 f1 e1=>⟨a,_,rfl,by decide,B5 ∅,λw H2 s2 f2 e2=>⟨w,rfl,⟨_,SqL.of e2⟩,λl nl=>?_⟩⟩⟩;refine N9 (K:=K) (xs:=(K0 a (Str.ofString " ")).map V.str) (b1l H2 l d (K0 a (Str.ofString " "))) ⟨none,[],rfl,(B0.refl H2).upd nl,A2,rfl,λj b w h=>by cases h⟩ ?_ ?_ ?_
  ·rintro i τ Hc _ ⟨_,_,rfl,sc,_⟩;exact sc.seq (SqL.of e2)
  ·rintro i v τ Hc hv ⟨c,as,rfl,sc,hc,hr⟩ _;rw[aC] at hv;obtain⟨x,hx,rfl⟩:=cn.mp hv;have xl:=a7L (aB hx);walk_at "rd";refine⟨by first | exact rfl | exact trivial | constructor,x,rfl,Str.ofString "-",rfl,by decide,B5 ∅,λt nt=>?_⟩;have sl:=a1F x (Str.ofString "-");have s4:=(B0.refl Hc).upd (o:=.lst ((Txt.split x (Str.ofString "-")).map V.str)) nt;refine⟨t,d,_,60,rfl,SqL.of A2,s4 _ _ (sc _ _ (s2 _ _ e1)),∅,λu H5 s5 f5 e5=>?_⟩;have s45:=s4.trans s5;have tl:=iy i (K0 a (Str.ofString " "));have hcl:=s45 _ _ hc;refine⟨as.map V.ref,hcl,by rw[aa,hr.1];exact B5 (by rw[aN];omega),_,as++[u],rfl,(sc.trans s45).upd nl,by rw[A2,aE];rfl,?_⟩;rw[b6,hx];refine RwT.snoc (hr.mono λb o hb e=>?_) ?_
   ·have hbl:b≠l:=by
     rintro rfl;obtain⟨w',_,ew⟩:=hr.get hb;rw[hc] at ew;cases ew
    rw[A8 hbl];exact s45 _ _ e
   ·have hul:u≠l:=by
     rintro rfl;rw[hcl] at e5;cases e5
    rw[A8 hul];exact e5
  ·rintro τ Hc ⟨c,as,rfl,sc,hc,hr⟩;rw[aa,aX] at hr;refine⟨as.map V.ref,.inl ⟨SqL.of hc,λp np=>?_⟩⟩;have s6:=(B0.refl Hc).upd (o:=.tup (as.map V.ref)) np;have hr6:=hr.mono (H':=upd Hc p (.tup (as.map V.ref))) λb o _ e=>s6 _ _ e
   have s12:=(s1.trans s2).trans sc;have hd:PlD (upd Hc p (.tup (as.map V.ref))) 2 (.ref p):=by
    refine⟨⟨_,.tup A2⟩,λa' ys e ea z hz=>?_⟩;cases e;rw[A2] at ea;cases ea;obtain⟨b,hb,rfl⟩:=aY.mp hz;obtain⟨w',_,ew⟩:=hr6.get hb;refine⟨⟨_,.tup ew⟩,λa2 ys2 e2 ea2 z2 hz2=>?_⟩;cases e2;rw[ew] at ea2;cases ea2;obtain⟨y,_,rfl⟩:=aY.mp hz2;rcases a2I (m:=60) (by decide) y with e | ⟨i,_,_,e⟩
    ·rw[e];exact⟨_,.non⟩
    ·rw[e];exact⟨_,.int _⟩
   refine⟨.ref p, "tuple",60,rfl,.tup A2,hd,λa' xs e ea=>?_,λb hb=>⟨b,rfl,?_⟩⟩
   ·cases e;rw[A2] at ea;cases ea;rw[aa,hr.1];omega
   ·have q:=q p _ as (s12.trans s6) (s12.free np) A2 hr6;cases b
    ·rw[if_pos (by decide)];exact q.2 λh=>by cases hb.mpr h
    ·rw[if_neg (by decide)];exact q.1 (hb.mp rfl)
def b1m (H:Hp)(rp am me wl:Addr)(n:Int)(ts:⋯)(ls:List Int)(u:Int)(σ:St)(Hc:Hp):Prop:=∃(pv ov:Option V) (fs ws:List Int),σ=[some (.ref rp),some (.ref am),some (.int u),some (.ref me),some (.ref wl),pv,ov]/\X7 H Hc me wl fs ws/\a2W n ts (·∈ls) u fs ws/\2*(n.toNat-fs.length)+ws.length<=2*n.toNat
def a9r (H:Hp)(rp am me wl:Addr)(n:Int)(ts:⋯)(ls:List Int)(u v:Int)(m0:Nat)(j:Nat)(σ:St)(Hc:Hp):Prop:=∃(ov:Option V) (fs ws:List Int),σ=[some (.ref rp),some (.ref am),some (.int u),some (.ref me),some (.ref wl),some (.int v),ov]/\X7 H Hc me wl fs ws/\W8 n ts (·∈ls) u fs ws v j/\2*(n.toNat-fs.length)+ws.length<m0
theorem a3s:B7 ["rows","among","start","met","waiting","place","other"] ["rows","among","start"] (A7 (top 16)):=by walk_at "s"
theorem a7p (F:Fun K "piece_from" "piece_from" (top 16) f fd)(B:Bt mg):B8 P w K mg base CX0 1 f fd ["rows","among","start"] a3k:=by
 refine F.ok a3s (λvs H Q E h=>?_) (λcdv A outer s H vs Q E hr h=>?_)
 ·walk_at "h"
 ·obtain⟨rp,as,n,ts,am,ls,u,rfl,hR,hok,hn1,htl,ham,u0,u1,q⟩:=h;have nd:=a3s.nd;have hu:=E8 hr
  refine⟨_,(A3 (C1 (i:=3) nd rfl (.inl rfl) (a8O (a7f (pv 2) M5 a8L) rfl rfl (by simp) (by decide)))
    (A3 (C1 (i:=4) nd rfl (.inl rfl) (L1 (A0 (pv 2) A1)))
    (A3 (a3C bn (a6D K (pv 4) (λ_=>rfl))
     (A3 (C1 (i:=5) nd rfl (.inl rfl) (b2w K (pv 4)))
     (A4 (M4 bn rfl (J5 K (E4 (E1 K) (pv 0) (pv 5) (λ_ _=>rfl))) (A6 (i:=6) nd rfl (.inl rfl))
      (A4 (K3 (PW.pt (a7b (a2v (a7k hu (pv 6) (pv 1))) (a5n (a2v (a5R hu (pv 6) (pv 3))))))
       (A3 (a0B hu (pv 3) (pv 6) M5 rfl)
       (A4 (N8 (O0 K (pv 4) (A0 (pv 6) A1)))))
       D0))))))
    (A4 (B4 (C2 (T6 K) (by rfl) B.tuple cF (A0 (A9 (a3p K hr.hd) (by rfl) B.sorted fq (A0 (pv 3) A1)) A1))))))),?_⟩
  walk_at "rd";refine λme nme=>⟨A2,[(bA u,V.bl true)],rfl,Nat.le_of_ble_eq_true rfl,?_⟩
  rw[b2P];refine B2 nme λH1 s1 e1=>⟨by decide,λwl nwl=>B2 nwl λH2 s2 e2=>?_⟩
  have nw:H wl=none:=s1.free nwl;refine a6v (b1m H rp am me wl n ts ls u) (λ_ Hc=>srM n me wl Hc) ⟨none,none,[u],[u],rfl,⟨s1.trans s2,s2 _ _ e1,e2⟩,a2W.init u0 u1,by simp;omega⟩ ?_ (fun σ H Q Q' h ⟨x,e,k,t,q⟩=>⟨x,e,k,t,h _ _ q⟩);rintro σ Hc ⟨pv,ov,fs,ws,rfl,sr,sh,hb⟩;refine⟨_,rfl,_,.inl ⟨_,SqL.of sr.wait,rfl⟩,Y7 (λhne=>?_) λhe=>?_⟩
  ·have hw0:ws≠[]:=λe=>by subst e;simp at hne
   obtain⟨ws',v,rfl⟩:=a9l hw0;obtain⟨hl1,sr1⟩:=sr.pop nw;have sh1:=sh.pop;have hm0:2*(n.toNat-fs.length)+ws'.length<srM n me wl Hc:=by rw[sr.mu,aD,cQ];omega
   have hmb:srM n me wl Hc<=2*n.toNat:=by rw[sr.mu];exact hb
   obtain⟨v0,v1⟩:=sh1.rng v sh1.vin;walk_at "rd";refine⟨.inl ⟨rfl,_,SqL.of sr.wait⟩,_,sr.wait,_,hl1,?_⟩;obtain⟨a,a1,a2,a3,a4⟩:=hR.get v0 (M9 v0 v1);have top2:=sr1.same _ _ hR.top;refine⟨_,rfl,_,rfl,_,_,_,_,rfl,rfl,SqL.of top2,a2,_,rfl,⟨_,SqL.of (sr1.same _ _ a3)⟩,Y8 (K:=K) (xs:=(nb ts v).map V.int) (a9r H rp am me wl n ts ls u v (srM n me wl Hc)) ⟨_,fs,ws',rfl,sr1,sh1,hm0⟩ ?_ ?_ ?_⟩
   ·rintro j σ Hd _ ⟨_,_,_,rfl,sr2,_⟩;exact SqL.of (sr2.same _ _ a3)
   ·rintro j w σ Hd hv ⟨ov,fs,ws,rfl,sr2,sh2,hm2⟩;rw[aC] at hv;cases hy0:(nb ts v)[j]? with
    | none=>rw[hy0] at hv;cases hv
    | some y =>
    rw[hy0] at hv;cases aG hv;have hfl:=a2E sh2.nd sh2.rng;walk_at "rd";refine⟨_,W2.k (k:=bA y) (sr2.same _ _ ham),?_⟩;rw[a0y];refine Y7 (λhA=>⟨_,W2.k (k:=bA y) sr2.met,?_⟩) λhA=>⟨_,fs,ws,rfl,sr2,sh2.skip hy0 (.inl (~~~hA)),hm2⟩
    rw[a0y];refine Y7 (λhB=>?_) λhB=>⟨_,fs,ws,rfl,sr2,sh2.skip hy0 (.inr (~~~hB)),hm2⟩
    have hyl:y∈ls:= ~~~hA
    have hyf:y∉fs:= ~~~hB
    have sh3:=sh2.add hok hy0 hyl hyf;have hfl3:=a2E sh3.nd sh3.rng;rw[aD,cQ] at hfl3;refine⟨_,W1.k (k:=bA y) sr2.met (a1Y ∅),?_⟩;rw[a5o];have hwt:(upd Hd me (.dK (kvI (a0x fs y)))) wl=some (.lst (ws.map V.int)):=by rw[A8 sr2.ne.symm];exact sr2.wait
    have hwl:ws.length<=3000:=∅
    refine⟨.inl ⟨rfl,_,SqL.of hwt⟩,_,hwt,by rw[aa];exact B5 ∅,_,fs++[y],ws++[y],rfl,sr2.add nme nw hyf,sh3,?_⟩;rw[aD,aD,cQ];omega
   ·rintro σ Hd ⟨ov,fs,ws,rfl,sr2,sh2,hm2⟩;rw[aa] at sh2;exact⟨⟨_,_,fs,ws,rfl,sr2,sh2.done (aj _),∅⟩,by rw[sr2.mu];exact hm2⟩
  ·have hw0:ws=[]:= ~~~he
   subst hw0;walk_at "rd";refine⟨fs,.inr (.inr ⟨_,sr.met,a7I fs⟩),λns l pm hs nl=>B2 nl λH4 s4 e4=>⟨_,.inl ⟨SqL.of e4,λl2 n2=>B2 n2 λH5 s5 e5=>?_⟩⟩⟩;have s3:=(sr.same.trans s4)
   refine q l2 ns H5 (s3.trans s5) (s3.free n2) e5 (a1u pm hs sh.nd) λx=>?_
   rw[pm.mem_iff];exact sh.fin x
def a1J:Sp:=λvs H Q _=>∃(w:Addr) (n:Int) (ts:⋯) (pl:Addr) (us:List Int),vs=[.ref w,.ref pl]/\Q6 H w n ts/\K2 n ts/\0<=n/\n<=1000/\ts.length<=1000/\H pl=some (.tup (us.map V.int))/\us.length<=1000/\(∀ x∈us,0<=x/\x<n) /\
 ∀(p:Addr) (H':Hp),B0 H H'->H p=none->a4P H' p (Q7 n ts us us)->Q (.ref p) H'
def b1n (Hb:Hp)(w0 pl rp le lo:Addr)(n:Int)(ts:⋯)(us:List Int)(i:Nat)(σ:St)(Hc:Hp):Prop:=∃(pv tv ov:Option V) (ls:List Int) (ps:List (Addr×List Int)),σ=[some (.ref w0),some (.ref pl),some (.ref rp),pv,some (.ref le),some (.ref lo),tv,ov] /\
 B0 Hb Hc/\Hc le=some (.dK (kvI ls))/\a4h Hc lo ps/\ps.map (·.2)=Q7 n ts us (us.take i)/\ls.Nodup/\∀ x,x∈ls↔x∈us/\¬ Q5 (Q7 n ts us (us.take i)) x
def a9s (Hb:Hp)(w0 pl rp le lo lt:Addr)(u:Int)(ls zs:List Int)(ps:List (Addr×List Int))(j:Nat)(σ:St)(Hc:Hp):Prop:=∃(ov:Option V),σ=[some (.ref w0),some (.ref pl),some (.ref rp),some (.int u),some (.ref le),some (.ref lo),some (.ref lt),ov] /\
 B0 Hb Hc/\Hc le=some (.dK (kvI (ls.filter λx=>!decide (x∈zs.take j))))/\a4h Hc lo ps/\Hc lt=some (.tup (zs.map V.int))
theorem a1O:B7 ["web","places","rows","place","left","lots","lot","other"] ["web","places"] (A7 (top 17)):=by walk_at "s"
theorem a5W (F:Fun K "pieces" "pieces" (top 17) f fd)(B:Bt mg)(D1:Df K mg "neighbour_rows" st1 f1 fd1 ["web"])(G1:B8 P w K mg base CX0 1 f1 fd1 ["web"] a3m)(D2:Df K mg "piece_from" st2 f2 fd2 ["rows","among","start"])(G2:B8 P w K mg base CX0 1 f2 fd2 ["rows","among","start"] a3k):B8 P w K mg base CX0 2 f fd ["web","places"] a1J:=by
 refine F.ok a1O (λvs H Q E h=>?_) (λcdv A outer s H vs Q E hr h=>?_)
 ·walk_at "h"
 ·obtain⟨w0,n,ts,pl,us,rfl,hw,hok,hn0,hn1,htl,hpl,hul,hus,q⟩:=h;have nd:=a1O.nd;have hu:=E8 hr
  refine⟨_,(A3 (C1 (i:=2) nd rfl (.inl rfl) (B1 G1 D1 hr.m (A0 (pv 0) A1)))
    (A3 (a7d (i:=4) (own:=["place"]) (fr:=[]) false hu rfl nd rfl rfl (by walk_at "w") (by walk_at "w") E2 (M7 K (pv 1)) ⟨λ_ _ _ _=>⟨(A6 (i:=0) (show bH (["place"]:List Str) by decide +kernel) rfl (.inl rfl)),J8,(pv 0),M5⟩⟩)
    (A3 (C1 (i:=5) nd rfl (.inl rfl) (L1 A1))
    (A3 (M4 bn rfl (M7 K (pv 1)) (A6 (i:=3) nd rfl (.inl rfl))
     (A4 (K3 (a2v (a7k hu (pv 3) (pv 4)))
      (A3 (C1 (i:=6) nd rfl (.inl rfl) (B1 G2 D2 hr.m (A0 (pv 2) (A0 (pv 4) (A0 (pv 3) A1)))))
      (A3 (N8 (O0 K (pv 5) (A0 (pv 6) A1)))
      (A4 (M4 bn rfl (M7 K (pv 6)) (A6 (i:=7) nd rfl (.inl rfl))
       (A4 (a8K (pv 4) (pv 7)))))))
      D0)))
    (A4 (B4 (C2 (T6 K) (by rfl) B.tuple cF (A0 (pv 5) A1)))))))),?_⟩
  walk_at "rd";refine⟨w0,n,ts,rfl,hw,∅,∅,∅,hok,λrp as H1 s1 np na hR=>?_⟩;refine⟨⟨_,SqT.of (s1 _ _ hpl)⟩,λle nle=>b1z (K:=K) (xs:=us.map V.int) (b1r H1 le us) ⟨none,[],rfl,(B0.refl H1).upd nle,A2,aj _,by simp,by simp⟩ ?_ ?_ ?_⟩
  ·rintro i τ Hc _ ⟨_,_,rfl,sc,_⟩;exact SqT.of (sc _ _ (s1 _ _ hpl))
  ·rintro i v τ Hc hv ⟨c,fs,rfl,sc,ha,hfl,hnd,hm⟩;rw[aC] at hv;cases hu0:us[i]? with
   | none=>rw[hu0] at hv;cases hv
   | some u =>
   rw[hu0] at hv;cases aG hv;have hil:=(ap.mp hu0).1;walk_at "rd";refine⟨_,W1.k (k:=bA u) ha (a1Y ∅),?_⟩;rw[a5o];refine⟨_,_,rfl,sc.upd nle,A2,?_,a9b hnd,λx=>?_⟩
   ·have:=a7F (us:=fs) (x:=u);omega
   ·rw[a7C,hm,bD,hu0];simp
  ·rintro τ H2 ⟨c,fs,rfl,sc,ha,hfl,hfnd,hm⟩;rw[aa,aX] at hm;refine⟨by decide,λlo nlo=>B2 nlo λH3 s3 e3=>?_⟩;have nlo1:H1 lo=none:=sc.free nlo;have nele:lo≠le:=(C3 ha nlo).symm;refine⟨_,rfl,_,rfl,⟨_,SqT.of (s3 _ _ (sc _ _ (s1 _ _ hpl)))⟩,U4 (K:=K) (xs:=us.map V.int) (b1n H1 w0 pl rp le lo n ts us) ⟨none,none,none,fs,[],rfl,sc.trans s3,s3 _ _ ha,⟨e3,λx hx=>by cases hx⟩,rfl,hfnd,λx=>?_⟩ ?_ ?_ ?_⟩
   ·rw[hm];exact⟨λh=>⟨h,λ⟨l,hl,_⟩=>by cases hl⟩,λh=>h.1⟩
   ·rintro i σ Hc _ ⟨_,_,_,_,_,rfl,sd,_⟩;exact SqT.of (sd _ _ (s1 _ _ hpl))
   ·rintro i v σ Hc hv ⟨pv,tv,ov,ls,ps,rfl,sd,hle,hlo,hps,lnd,hls⟩;rw[aC] at hv;cases hu0:us[i]? with
    | none=>rw[hu0] at hv;cases hv
    | some u =>
    rw[hu0] at hv;cases aG hv;have hum:=aB hu0;obtain⟨u0,u1⟩:=hus u hum;have hil:=(ap.mp hu0).1;have hsn:Q7 n ts us (us.take (i+1))=C7 (Q2 n ts us) (Q7 n ts us (us.take i)) u:=by
     rw[bD,hu0];exact a5Z _ _
    have hpl2:ps.length<=1000:=by
     have h1:=congrArg cE hps;rw[aa] at h1;have h2:=a7D (n:=n) (ts:=ts) (us:=us) (us.take i);rw[aN] at h2;omega
    walk_at "rd";refine⟨_,W2.k (k:=bA u) hle,?_⟩;rw[a0y];refine Y7 (λh=>?_) λh=>?_
    ·have hul:u∈ls:= ~~~h
     have hnu:¬ Q5 (Q7 n ts us (us.take i)) u:=((hls u).mp hul).2;have hsn2:Q7 n ts us (us.take (i+1))=Q7 n ts us (us.take i)++[Q2 n ts us u]:=by
      rw[hsn];unfold C7;rw[if_neg (λq=>hnu ((a0F _ _).mp q))]
     refine⟨rp,as,n,ts,le,ls,u,rfl,hR.same sd,hok,∅,∅,hle,u0,u1,λlt zs H5 s5 n5 e5 zsr hzs=>?_⟩;have hzs2:∀ x,x∈zs↔Rch ts (·∈us) u x:=λx=>by
      rw[hzs];exact a6X hok hus (vs:=us.take i) (λv hv=>cZ hv) hls hul
     have hzp:zs=Q2 n ts us u:=a0X zsr a5t λx=>by rw[hzs2,a0b hok u0 u1]
     have hzl:∀ x∈zs,x∈ls:=λx hx=>((hzs x).mp hx).mem hul
     have hlo5:=s5 _ _ hlo.top;have L5:=(hlo.tp s5.tp hlo5).snoc e5;have hle6:(upd H5 lo (.lst ((ps.map λx=>V.ref x.1)++[V.ref lt]))) le=some (.dK (kvI ls)):=by rw[A8 nele.symm];exact s5 _ _ hle
     have hlt6:(upd H5 lo (.lst ((ps.map λx=>V.ref x.1)++[V.ref lt]))) lt=some (.tup (zs.map V.int)):=Tp.lst hlo5 _ _ e5;refine⟨.inl ⟨rfl,_,SqL.of hlo5⟩,_,hlo5,by rw[aa];exact B5 ∅,?_⟩;refine⟨_,rfl,_,rfl,⟨_,SqT.of hlt6⟩,U4 (K:=K) (xs:=zs.map V.int) (a9s H1 w0 pl rp le lo lt u ls zs (ps++[(lt,zs)])) ⟨_,rfl,(sd.trans s5).upd nlo1,?_,L5,hlt6⟩ ?_ ?_ ?_⟩
     ·rw[hle6,cK,iA.mpr (by simp)]
     ·rintro j σ Hd _ ⟨_,rfl,_,_,_,h⟩;exact SqT.of h
     ·rintro j w σ Hd hv ⟨ov,rfl,se,hle7,L7,hlt7⟩;rw[aC] at hv;cases hy0:zs[j]? with
      | none=>rw[hy0] at hv;cases hv
      | some y =>
      rw[hy0] at hv;cases aG hv;have hym:=aB hy0;have hyj:y∉zs.take j:=λhq=>by
       obtain⟨k,hk,e⟩:=dy hq;rw[aN] at hk;have h1:zs[k]?=some y:=by
        have:(zs.take j)[k]?=some y:=by rw[aq (by rw[aN];exact hk),e]
        rwa [dz ∅] at this
       have:=(fM (l:=zs) ∅ (a1Q zsr)).mp (h1.trans hy0.symm);omega
      have hin:y∈ls.filter λx=>!decide (x∈zs.take j):=iY.mpr ⟨hzl y hym, ~~~hyj⟩
      walk_at "rd";refine⟨_,rfl,_,rfl,le,_,bA y,rfl,hle7,rfl,by rw[a0y];simpa using hin,?_⟩;rw[a8e];refine⟨_,rfl,se.upd nle,?_,L7.tp (Tp.dK hle7) (by rw[A8 nele];exact L7.top),Tp.dK hle7 _ _ hlt7⟩;rw[A2,List.filter_filter];congr 4;funext x;rw[bD,hy0];by_cases e1:x=y<;>by_cases e2:x∈zs.take j<;>simp[e1,e2]
     ·rintro σ Hd ⟨ov,rfl,se,hle7,L7,hlt7⟩;rw[aa,aX] at hle7;refine⟨_,_,_,_,_,rfl,se,hle7,L7,?_,lnd.filter _,λx=>?_⟩
      ·rw[aE,hps,hsn2,<- hzp];rfl
      ·rw[List.mem_filter,hls,hsn2,X5,<- hzp];constructor
       ·rintro⟨⟨a,b⟩,c⟩;exact⟨a,λq=>q.elim b (~~~c)⟩
       ·rintro⟨a,b⟩;exact⟨⟨a,λq=>b (.inl q)⟩,by simpa using λq=>b (.inr q)⟩
    ·have hul:u∉ls:= ~~~h
     have hin:Q5 (Q7 n ts us (us.take i)) u:=cc λq=>hul ((hls u).mpr ⟨hum,q⟩)
     have hsn2:Q7 n ts us (us.take (i+1))=Q7 n ts us (us.take i):=by
      rw[hsn];unfold C7;rw[if_pos ((a0F _ _).mpr hin)]
     exact⟨_,_,_,ls,ps,rfl,sd,hle,hlo,by rw[hsn2];exact hps,lnd,by rw[hsn2];exact hls⟩
   ·rintro σ Hc ⟨pv,tv,ov,ls,ps,rfl,sd,hle,hlo,hps,lnd,hls⟩;rw[aa,aX] at hps;walk_at "rd";refine⟨_,.inl ⟨SqL.of hlo.top,λl nl=>B2 nl λH6 s6 e6=>?_⟩⟩;have s06:=s1.trans sd;exact q l H6 (s06.trans s6) (s06.free nl) ⟨ps,e6,λx hx=>s6 _ _ (hlo.row x hx),hps⟩
def a3l:Sp:=λvs H Q _=>∃(w:Addr) (n:Int) (us:⋯),vs=[.ref w]/\Q6 H w n us/\3<=n/\n<=60/\K2 n us/\us.Pairwise Lex/\us.length<=200/\∀(b:Bool) (H':Hp),B0 H H'->(b=true↔Hng us (B6 0 n.toNat))->Q (.bl b) H'
theorem a3u:B7 ["web"] ["web"] (A7 (top 18)):=by walk_at "s"
theorem a7r (F:Fun K "in_one_piece" "in_one_piece" (top 18) f fd)(B:Bt mg)(D1:Df K mg "pieces" st1 f1 fd1 ["web","places"])(G1:B8 P w K mg base CX0 2 f1 fd1 ["web","places"] a1J):B8 P w K mg base CX0 3 f fd ["web"] a3l:=by
 refine F.ok a3u (λvs H Q E h=>?_) (λcdv A outer s H vs Q E hr h=>?_)
 ·walk_at "h"
 ·obtain⟨w0,n,us,rfl,hw,h3,h60,hok,hsr,hl,q⟩:=h;have nd:=a3u.nd;have hu:=E8 hr;refine⟨_,(A4 (B4 (U2 a1U (A9 (a1g K) (by rfl) B.len b8 (A0 (B1 G1 D1 hr.m (A0 (pv 0) (A0 (C2 (V4 hr.hd) (by rfl) B.tuple cF (A0 (C2 a2h (by rfl) B.range iw (A0 (E4 (J0 K) (pv 0) A5 (λ_ _=>rfl)) A1)) A1)) A1))) A1)) A5 (E7 _)))),?_⟩;walk_at "rd";obtain⟨q0,hw0,ht⟩:=id hw;refine⟨_,SqT.of hw0,_,rfl,n,rfl,λpr npr=>B2 npr λH1 s1 e1=>⟨0,n,e1,⟨by decide,by decide,∅,∅⟩,∅,λpl npl=>B2 npl λH2 s2 e2=>?_⟩⟩;rw[Int.sub_zero] at e2;have s02:=s1.trans s2;refine⟨w0,n,us,pl,B6 0 n.toNat,rfl,hw.tp s02.tp,hok,∅,∅,∅,e2,by rw[J3];omega,λx hx=>by have:=E9.mp hx;omega,λp3 H3 s3 n3 L3=>?_⟩;obtain⟨ps,hp3,_,hps3⟩:=L3;refine⟨p3,rfl,_,.inr (SqT.of hp3),q _ H3 (s02.trans s3) ?_⟩;rw[<- a8Q h3 h60 hok hsr hl,<- hps3,aa,aa,decide_eq_true_iff];constructor
  ·intro e;omega
  ·intro e;rw[e];rfl
def a6t (H:Hp)(v:V):Prop:=∃ w n ts,v=.ref w/\Q6 H w n ts/\P2 n ts
def WbF (H:Hp)(v:V):Prop:=∀ w y z xs,v=.ref w->H w=some (.tup [y,.ref z])->H z=some (.tup xs)->xs.length<=1000
def a1K:Sp:=λvs H Q _=>∃(v:V) (T:String),vs=[v]/\Pl H v T/\PlD H 3 v/\WbF H v/\∀(b:Bool) (H':Hp),B0 H H'->(b=true↔a6t H v)->Q (.bl b) H'
theorem a8u {n:Int}{us:⋯}(h3:3<=n)(h60:n<=60)(hok:K2 n us)(hsr:us.Pairwise Lex)(hl:us.length<=200):P2 n us↔Hng us (B6 0 n.toNat):=by
 constructor
 ·intro hW;refine a7V hok (u:=0) (E9.mpr ⟨∅,∅⟩) λy hy=>?_
  have:=E9.mp hy;exact hW.reach ∅ ∅ ∅ ∅
 ·intro hh;exact⟨h3,h60,hok,hsr,hl,a3X hok hh⟩
theorem a1P:B7 ["thing","places","ties"] ["thing"] (A7 (top 14)):=by walk_at "s"
theorem a5X (F:Fun K "is_web" "is_web" (top 14) f fd)(B:Bt mg)(D1:Df K mg "is_pair" st1 f1 fd1 ["thing"])(G1:B8 P w K mg base CX0 1 f1 fd1 ["thing"] a0O)(D2:Df K mg "is_between" st2 f2 fd2 ["thing","least","most"])(G2:B8 P w K mg base CX0 2 f2 fd2 ["thing","least","most"] a0P)(D3:Df K mg "is_tie_row" st3 f3 fd3 ["thing","places"])(G3:B8 P w K mg base CX0 4 f3 fd3 ["thing","places"] a0N)(D4:Df K mg "in_one_piece" st4 f4 fd4 ["web"])(G4:B8 P w K mg base CX0 3 f4 fd4 ["web"] a3l){k1 k2 k3:Tok}(M1:mg "LEAST_PLACES"=some (.int 3 k1))(M2:mg "MOST_PLACES"=some (.int 60 k2))(M3:mg "MOST_TIES"=some (.int 200 k3)):B8 P w K mg base CX0 5 f fd ["thing"] a1K:=by
 refine F.ok a1P (λvs H Q E h=>?_) (λcdv A outer s H vs Q E hr h=>?_)
 ·walk_at "h"
 ·obtain⟨v,T,rfl,hv,hd,hlen,q⟩:=h;have nd:=a1P.nd;have hu:=E8 hr
  refine⟨_,(A3 (K3 (N0 (P5 (B1 G1 D1 hr.m (A0 (pv 0) A1))))
     (A4 (B4 M5))
     D0)
    (A3 (X0 (pv 0) (M0 K (n:=2) rfl (B9 (A6 (i:=1) nd rfl (.inl rfl)) (B9 (A6 (i:=2) nd rfl (.inl rfl)) K5))))
    (A3 (K3 (N0 (P5 (B1 G2 D2 hr.m (A0 (pv 1) (A0 (U1 rfl M1 (show C6 (V.int 3) _ from ⟨_,rfl⟩)) (A0 (U1 rfl M2 (show C6 (V.int 60) _ from ⟨_,rfl⟩)) A1))))))
     (A4 (B4 M5))
     D0)
    (A3 (K3 (PW.pt (a1T (N0 (P5 (B1 G3 D3 hr.m (A0 (pv 2) (A0 (pv 1) A1))))) (Z4 (E5 a7l (A9 (a1g K) (by rfl) B.len b8 (A0 (pv 2) A1)) (U1 rfl M3 (show C6 (V.int 200) _ from ⟨_,rfl⟩)) (E7 _)))))
     (A4 (B4 M5))
     D0)
    (A4 (B4 (B1 G4 D4 hr.m (A0 (pv 0) A1)))))))),?_⟩
  walk_at "rd";have no:∀ {H'},B0 H H'->¬ a6t H v->Q (.bl false) H':=λs h=>q false _ s ⟨λh=>(by cases h),λh'=>absurd h' h⟩
  refine⟨v,T,rfl,hv,_,rfl,?_⟩;cases hp:L8 H v with
  | none =>
   rw[if_pos (by rfl)];refine no (B0.refl H) λ⟨w,n,ts,e,⟨q0,hw0,_⟩,_⟩=>?_
   subst e;unfold L8 at hp;dsimp only at hp;rw[hw0] at hp;cases hp
  | some yz =>
   obtain⟨y,z⟩:=yz;obtain⟨a,rfl,ea⟩:=W0 hp;rw[if_neg (by simp)];have hd1:=hd.2 a _ rfl ea;obtain⟨Ty,hTy⟩:=(hd1 y (by simp)).pl;have hdz:=hd1 z (by simp);obtain⟨Tz,hTz⟩:=hdz.pl;have hW:a6t H (.ref a)->∃ n us,y=.int n/\a4i H n z us/\P2 n us:=λ⟨w,n,ts,e,⟨q0,hw0,ht⟩,hI⟩=>by
    cases e;rw[ea] at hw0;cases hw0;exact⟨n,ts,rfl,⟨q0,rfl,ht,hI.rng,hI.srt⟩,hI⟩
   refine⟨_,rfl,_,SqT.of ea,rfl,_,_,rfl,_,_,rfl,rfl,y,Ty,3,60,rfl,hTy,_,rfl,?_⟩;cases hb:Y9 y 3 60 with
   | false =>
    rw[if_pos (by rfl)];refine no (B0.refl H) λh=>?_
    obtain⟨n,us,rfl,_,hI⟩:=hW h;have h3:=hI.n3;have h60:=hI.n60;rw[show Y9 (.int n) 3 60=true by unfold Y9;simp;omega] at hb;cases hb
   | true =>
    rw[if_neg (by decide)];obtain⟨n,rfl⟩:∃ n,y=.int n:=by
     cases y<;>first | exact⟨_,rfl⟩ | cases hb
    have hn:3<=n/\n<=60:=by unfold Y9 at hb;simpa using hb
    refine⟨z,Tz,n,rfl,hTz,hdz,λc xs e e2=>?_,λb hb2=>⟨b,rfl,?_⟩⟩
    ·subst e;exact ba (hlen a _ c xs rfl ea e2) (by decide)
    cases b with
    | false =>
     rw[if_pos (by rfl)];refine no (B0.refl H) λh=>?_
     obtain⟨n',us,e,hr,_⟩:=hW h;cases e;cases hb2.mpr ⟨us,hr⟩
    | true =>
     rw[if_neg (by decide)];obtain⟨us,q0,rfl,ht,hok,hsr⟩:=hb2.mp rfl;obtain⟨ps,hp0,hps⟩:=id ht;refine⟨q0,rfl,_,.inr (SqT.of hp0),?_⟩;have hWu:a6t H (.ref a)->P2 n us:=λh=>by
      obtain⟨n',us',e,⟨q1,e1,ht',_⟩,hI⟩:=hW h;cases e;cases e1;cases ht.inj ht';exact hI
     by_cases hl:us.length<=200
     ·rw[if_neg (by rw[aa,hps.len];simp;omega)];refine⟨a,n,us,rfl,⟨q0,ea,ht⟩,hn.1,hn.2,hok,hsr,hl,λb H' s hb3=>q b H' s (hb3.trans ?_)⟩;rw[<- a8u hn.1 hn.2 hok hsr hl];exact⟨λh=>⟨a,n,us,rfl,⟨q0,ea,ht⟩,h⟩,hWu⟩
     ·rw[if_pos (by rw[aa,hps.len];simp;omega)];exact no (B0.refl H) λh=>hl (hWu h).len
def nbV (m:Nat)(w a:Str):List V:=if (Txt.split a (Str.ofString " ")).head?=some w then (Txt.split a (Str.ofString " ")).tail.map (nOf m) else [V.non]
def Y1 (K:ae):Sp:=λvs H Q _=>∃(w a:Str) (d:Addr) (m:Nat),vs=[.str w,.str a,.ref d]/\H d=some (.dK (nKv m))/\a.length<=90000 /\
 ∀ p H',B0 H H'->H p=none->H' p=some (.tup (nbV m w a))->Q (.ref p) H'
theorem a5O (a b:Str):Txt.split a b≠[]:=λe=>by
 have:=fR a b;rw[e] at this;exact absurd this (by decide)
theorem a3i (a b:Str):∃ x r,Txt.split a b=x::r:=by
 cases h:Txt.split a b with
 | nil=>exact absurd h (a5O a b)
 | cons x r=>exact⟨x,r,rfl⟩
theorem Y2:B7 ["word","line","numbers","first","rest"] ["word","line","numbers"] (A7 (top 29)):=by walk_at "s"
theorem a2D (F:Fun K "numbers_behind" "numbers_behind" (top 29) f fd)(B:Bt mg)(D1:Df K mg "numbers_in" st1 f1 fd1 ["words","numbers"])(G1:B8 P w K mg base CX0 1 f1 fd1 ["words","numbers"] (Y0 K)):B8 P w K mg base CX0 2 f fd ["word","line","numbers"] (Y1 K):=by
 refine F.ok Y2 (λvs H Q E h=>?_) (λcdv A outer s H vs Q E hr h=>?_)
 ·walk_at "h"
 ·obtain⟨w,a,d,m,rfl,hd,hl,q⟩:=h;have nd:=Y2.nd;have hu:=E8 hr
  refine⟨_,(A3 (X0 (a0z K (pv 1) (A0 J9 A1)) (a3E K (n:=2) (i:=1) rfl (B9 (A6 (i:=3) nd rfl (.inl rfl)) (a3D (A6 (i:=4) nd rfl (.inl rfl)) K5))))
    (A3 (K3 (E5 a0q (pv 3) (pv 0) (E7 _))
     (A4 (B4 (N1 (A0 a2z A1))))
     D0)
    (A4 (B4 (B1 G1 D1 hr.m (A0 (pv 4) (A0 (pv 2) A1))))))),?_⟩
  walk_at "rd";have sl:(Txt.split a (Str.ofString " ")).length<=a.length+2:=fS a _;obtain⟨x,r,e⟩:=a3i a (Str.ofString " ");refine⟨by first | exact rfl | exact trivial | constructor,a,rfl,Str.ofString " ",rfl,by decide,B5 ∅,λp np=>?_⟩;unfold nbV at q;rw[e] at q sl ⊢;rw[aH] at sl;refine B2 np λH1 s1 e1=>⟨_,SqL.of e1,by rw[aa,aH];omega,λp1 n1=>B2 n1 λH2 s2 e2=>⟨.str x,[.ref p1],by simp,.ref p1,[],rfl,rfl,by rfl,?_⟩⟩
  have s12:=s1.trans s2;have hr:List.take ((gS V.str (x::r)).length-1) (List.drop 1 (gS V.str (x::r)))=r.map V.str:=by simp[ce]
  rw[hr] at e2;by_cases h:x=w
  ·subst h;rw[if_neg (by simp)];refine⟨p1,d,r,m,rfl,SqL.of e2,s12 _ _ hd,∅,λp2 H3 s3 n2 e3=>q p2 H3 (s12.trans s3) (s12.free n2) ?_⟩;rw[e3,if_pos (show (x::r).head?=some x from rfl)];rfl
  ·rw[if_pos (~~~h)];refine⟨by decide,λp2 n2=>B2 n2 λH3 s3 e3=>q p2 H3 (s12.trans s3) (s12.free n2) ?_⟩;rw[e3,if_neg (~~~h)]
def RwB (H:Hp)(as:List Addr)(ls:List Str):Prop:=as.length=ls.length/\∀(j:Nat) b w,as[j]?=some b->ls[j]?=some w->H b=some (.tup (nbV 61 (Str.ofString "tie") w))
def b2S (H:Hp)(p:Addr)(h:Str)(ls:List Str):Prop:=∃(tp:Addr) (as:List Addr),H p=some (.tup (nbV 61 (Str.ofString "places") h++[.ref tp]))/\H tp=some (.tup (as.map V.ref))/\RwB H as ls
def a0M (K:ae)(C:Addr):Sp:=λvs H Q E=>∃(v:V),vs=[v] /\
  ((∃ a:Str,v=.str a/\a.length<=9000/\(Txt.split a (Str.ofString "\n")).length<=1000 /\
      (Txt.endswith a (Str.ofString "\n")=false->E (.ref C) none H) /\
      ∀(h:Str) (ls:List Str) (l:Str),Txt.split a (Str.ofString "\n")=h::(ls++[l])->∀(p:Addr) H' H2,B0 H H'->B0 H' H2->b2S H' p h ls->(a6t H' (.ref p)->Q (.ref p) H2)/\(¬ a6t H' (.ref p)->E (.ref C) none H2)) \/
   ((∃ t,V5 K H v t/\dH K t (.type "str")=some false)/\E (.ref C) none H))
theorem RwB.mono {H H':Hp}{as:List Addr}{ws:List Str}(h:RwB H as ws)(s:∀ b o,b∈as->H b=some o->H' b=some o):RwB H' as ws:=⟨h.1,λj b w h1 h2=>s _ _ (aB h1) (h.2 j b w h1 h2)⟩
theorem RwB.get {H:Hp}{as:List Addr}{ws:List Str}(h:RwB H as ws){b:Addr}(hb:b∈as):∃ w,w∈ws/\H b=some (.tup (nbV 61 (Str.ofString "tie") w)):=by
 obtain⟨j,hj⟩:=bG.mp hb;have hl:j<ws.length:=by rw[<- h.1];exact (ap.mp hj).1
 exact⟨ws[j],fW hl,h.2 j b _ hj (aq hl)⟩
theorem RwB.snoc {H:Hp}{as:List Addr}{ws:List Str}(h:RwB H as ws){b:Addr}{w:Str}(e:H b=some (.tup (nbV 61 (Str.ofString "tie") w))):RwB H (as++[b]) (ws++[w]):=by
 refine⟨by rw[aD,aD,h.1];rfl,λj c x h1 h2=>?_⟩;rcases bS j as.length with hj | hj
 ·rw[bh hj] at h1;rw[bh (by rw[<- h.1];exact hj)] at h2;exact h.2 j c x h1 h2
 ·rw[bf hj] at h1;rw[bf (by rw[<- h.1];exact hj)] at h2;rw[<- h.1] at h2;cases hk:j-as.length with
  | zero=>rw[hk] at h1 h2;cases h1;cases h2;exact e
  | succ k=>rw[hk] at h1;cases h1
theorem a3P {m:Nat}(hm:m<=100){w a:Str}{H:Hp}{k:Nat}:∀ v∈nbV m w a,PlD H k v:=by
 have fl:∀ {v:V} {T:String},Pl H v T->(∀ b,v≠.ref b)->PlD H k v:=λ{v T} hp hn=>by
  cases k with
  | zero=>exact⟨_,hp⟩
  | succ k=>exact⟨⟨_,hp⟩,λb ys e=>absurd e (hn b)⟩
 intro v hv;unfold nbV at hv;split at hv
 ·obtain⟨y,_,rfl⟩:=aY.mp hv;rcases a2I hm y with e | ⟨i,_,_,e⟩
  ·rw[e];exact fl .non λb h=>by cases h
  ·rw[e];exact fl (.int _) λb h=>by cases h
 ·rw[ag.mp hv];exact fl .non λb h=>by cases h
theorem a9e (m:Nat)(w a:Str):(nbV m w a).length<=a.length+2:=by
 have:=fS a (Str.ofString " ");unfold nbV;split
 ·rw[aa,List.length_tail];omega
 ·show 1<=_;omega
def b1k (Hb:Hp)(l d:Addr)(ls:List Str)(i:Nat)(τ:St)(Hc:Hp):Prop:=∃(c:Option V) (as:List Addr),τ=[c,some (.ref d)]/\B0 Hb Hc/\Hc l=some (.lst (as.map V.ref))/\RwB Hc as (ls.take i)
theorem a8d {a:Str}(h:Txt.endswith a (Str.ofString "\n")=true):∃ h ls l,Txt.split a (Str.ofString "\n")=h::(ls++[l]):=by
 have hn:Str.ofString "\n"=sT [10]:=by decide +kernel
 have h2:2<=(Txt.split a (Str.ofString "\n")).length:=by
  rw[hn] at h ⊢;rw[a5P];have:10∈cs a:=by
   unfold Txt.endswith Builtin.Str.subAt at h;rw[bU] at h;have e:=eq_of_beq h.2;have hm:10∈(a.cps.extract (a.length-(sT [10]).length) (a.length-(sT [10]).length+(sT [10]).length)).toList:=by rw[e];exact ag.mpr rfl
   rw[bW,bE] at hm;exact List.mem_of_mem_drop (cZ hm)
  have:=List.count_pos_iff.mpr this;omega
 match e:Txt.split a (Str.ofString "\n"),h2 with
 | x::y::r,_=>exact⟨x,(y::r).dropLast,(y::r).getLast (by simp),by rw[dX]⟩
theorem a0U:B7 ["thing","numbers","head","lines","last","ties","web"] ["thing"] (A7 (top 30)):=by walk_at "s"
theorem a4v (F:Fun K "read_web" "read_web" (top 30) f fd)(B:Bt mg){cNoText:Addr}(ZNoText:a6u K mg "NoText" cNoText)(D1:Df K mg "numbers_below" st1 f1 fd1 ["many"])(G1:B8 P w K mg base CX0 1 f1 fd1 ["many"] (S1 K))(D2:Df K mg "numbers_behind" st2 f2 fd2 ["word","line","numbers"])(G2:B8 P w K mg base CX0 2 f2 fd2 ["word","line","numbers"] (Y1 K))(D3:Df K mg "is_web" st3 f3 fd3 ["thing"])(G3:B8 P w K mg base CX0 5 f3 fd3 ["thing"] a1K)(C:Bt2 mg)(C5:Bt5 mg){k2:Tok}(M2:mg "MOST_PLACES"=some (.int 60 k2)):B8 P w K mg base (CX1 P w) 6 f fd ["thing"] (a0M K cNoText):=by
 refine F.ok1 a0U (λvs H Q E h=>?_) (λcdv A outer s H vs Q E hr h=>?_)
 ·walk_at "h"
 ·obtain⟨v,rfl,h⟩:=h;have nd:=a0U.nd;have hu:=E8 hr
  refine⟨_,(A3 (K3 (PW.pt (a1T (N0 (P5 (A9 (a4C K) (by rfl) C.isinstance da (A0 (pv 0) (A0 (a0Z (by rfl) C5.str eu) A1))))) (Z4 (N0 (a6D K (a4J K (pv 0) (A0 J9 A1)) (λ_=>rfl))))))
     (A4 (S9 ZNoText))
     D0)
    (A3 (C1 (i:=1) nd rfl (.inr rfl) (B1 G1 D1 hr.m (A0 (B3 R8 (U1 rfl M2 (show C6 (V.int 60) _ from ⟨_,rfl⟩)) A5) A1)))
    (A3 (X0 (a0z K (pv 0) (A0 J9 A1)) (a3E K (n:=3) (i:=1) rfl (B9 (A6 (i:=2) nd rfl (.inl rfl)) (a3D (A6 (i:=3) nd rfl (.inl rfl)) (B9 (A6 (i:=4) nd rfl (.inl rfl)) K5)))))
    (A3 (C1 (i:=5) nd rfl (.inl rfl) (C2 (T6 K) (by rfl) B.tuple cF (A0 (K9 (own:=["line"]) (fr:=[("numbers",1)]) rfl (by walk_at "w") (K1 rfl rfl E2) (J5 K (pv 3)) ⟨λ_ _ _ _=>⟨(A6 (i:=0) (show bH (["line","numbers"]:List Str) by decide +kernel) rfl (.inl rfl)),J8,(B1 G2 D2 hr.m (A0 J9 (A0 (pv 0) (A0 (pv 1) A1))))⟩⟩) A1)))
    (A3 (C1 (i:=6) nd rfl (.inl rfl) (B3 (b2Q K) (B1 G2 D2 hr.m (A0 J9 (A0 (pv 2) (A0 (pv 1) A1)))) (N1 (A0 (pv 5) A1))))
    (A3 (K3 (N0 (P5 (B1 G3 D3 hr.m (A0 (pv 6) A1))))
     (A4 (S9 ZNoText))
     D0)
    (A4 (B4 (pv 6))))))))),?_⟩
  simp only[L2.P1,st0,ao,cz,aH,bR,List.replicate,bT,cf,Nat.reduceAdd,Nat.reduceSub];walk_at "rd";rcases h with ⟨a,rfl,hl,hL,q1,q2⟩ | ⟨⟨t,ty,k⟩,q⟩
  rotate_left
  ·exact⟨_, "str",⟨rfl,rfl⟩,t,ty,false,k,q⟩
  refine⟨_, "str",⟨rfl,rfl⟩,_,.str a,true,by rfl,?_⟩;rw[if_neg (by decide)];refine⟨by first | exact rfl | exact trivial | constructor,a,rfl,_,rfl,_,rfl,?_⟩;cases he:Txt.endswith a (Str.ofString "\n") with
  | false=>rw[if_pos (by rfl)];exact q1 he
  | true =>
   rw[if_neg (by decide)];obtain⟨h,ls,l,e⟩:=a8d he;have q2:=q2 h ls l e;have hlen:∀ x∈Txt.split a (Str.ofString "\n"),x.length<=9000:=λx hx=>ba (split_le hx) hl
   have hh:=hlen h (by rw[e];simp);refine⟨61,rfl,by decide,λd H1 s1 n1 e1=>⟨by first | exact rfl | exact trivial | constructor,a,rfl,Str.ofString "\n",rfl,by decide,B5 ∅,λp np=>?_⟩⟩;rw[e] at hL hlen ⊢;rw[aH,aD,cQ] at hL;have x1:(gS V.str (h::(ls++[l]))).length=ls.length+2:=by simp
   have x2:List.drop (ls.length+1) (gS V.str (h::(ls++[l])))=[V.str l]:=by
    rw[ao,iB,aE,fX (by rw[aa];exact aj _),hJ (by rw[aa];exact aj _)];rfl
   have x3:List.take ls.length (List.drop 1 (gS V.str (h::(ls++[l]))))=ls.map V.str:=by
    rw[ao,iB,eF,aE,List.take_append_of_le_length (by rw[aa];exact aj _),ce (by rw[aa];exact aj _)]
   refine B2 np λH2 s2 e2=>⟨_,SqL.of e2,by rw[x1];omega,λp1 n1'=>?_⟩
   rw[x1,show ls.length+2-1=ls.length+1 from rfl,x2,show ls.length+2-2=ls.length from rfl,x3];refine B2 n1' λH3 s3 e3=>⟨.str h,[.ref p1,.str l],rfl,.ref p1,[.str l],rfl,.str l,[],rfl,rfl,p1,rfl,⟨_,SqL.of e3⟩,λp2 n2=>?_⟩
   have s03:=(s1.trans s2).trans s3;have ed:=(s2.trans s3) _ _ e1;clear e2 n1' np n1;refine N9 (K:=K) (xs:=ls.map V.str) (b1k H3 p2 d ls) ⟨none,[],rfl,(B0.refl H3).upd n2,A2,rfl,λj b w h=>by cases h⟩ ?_ ?_ ?_
   ·rintro i τ Hc _ ⟨_,_,rfl,sc,_⟩;exact sc.seq (SqL.of e3)
   ·rintro i v τ Hc hv ⟨c,as,rfl,sc,hc,hr⟩ _;rw[aC] at hv;obtain⟨x,hx,rfl⟩:=cn.mp hv;have xl:=hlen x (by have:=aB hx;simp[this]);walk_at "rd";refine⟨_,x,d,61,rfl,sc _ _ ed,∅,λu H5 s5 f5 e5=>?_⟩;have tl:=iy i ls;have hcl:=s5 _ _ hc;refine⟨as.map V.ref,hcl,by rw[aa,hr.1];exact B5 (by rw[aN];omega),_,as++[u],rfl,(sc.trans s5).upd n2,by rw[A2,aE];rfl,?_⟩;rw[b6,hx];refine RwB.snoc (hr.mono λb o hb eb=>?_) ?_
    ·have hbl:b≠p2:=by
      rintro rfl;obtain⟨w',_,ew⟩:=hr.get hb;rw[hc] at ew;cases ew
     rw[A8 hbl];exact s5 _ _ eb
    ·have hul:u≠p2:=by
      rintro rfl;rw[hcl] at e5;cases e5
     rw[A8 hul];exact e5
   ·rintro τ Hc ⟨c,as,rfl,sc,hc,hr⟩;rw[aa,aX] at hr;refine⟨as.map V.ref,.inl ⟨SqL.of hc,λtp nt=>B2 nt λH5 s5 e5=>⟨_,h,d,61,rfl,s5 _ _ (sc _ _ ed),∅,λpw H6 s6 n6 e6=>⟨by decide,λp7 n7=>B2 n7 λH7 s7 e7=>?_⟩⟩⟩⟩;have nl:=a9e 61 (Str.ofString "places") h;refine a8j (s7 _ _ e6) e7 (by show _+1<=_;omega) λpf H8 s8 e8=>?_
    have s58:=(s6.trans s7).trans s8;have et:=s58 _ _ e5;have r8:=hr.mono λb o _ eb=>(s5.trans s58) _ _ eb
    have hP:PlD H8 3 (.ref pf):=by
     refine⟨⟨_,.tup e8⟩,λb ys eb ey v hv=>?_⟩;cases eb;rw[e8] at ey;cases ey;rcases al.mp hv with hv | hv
     ·exact a3P (by decide) v hv
     ·rw[ag.mp hv];refine⟨⟨_,.tup et⟩,λb ys eb ey v hv=>?_⟩;cases eb;rw[et] at ey;cases ey;obtain⟨x,hx,rfl⟩:=aY.mp hv;obtain⟨w',_,ew⟩:=r8.get hx;refine⟨⟨_,.tup ew⟩,λb ys eb ey v hv=>?_⟩;cases eb;rw[ew] at ey;cases ey;exact a3P (by decide) v hv
    refine⟨.ref pf, "tuple",rfl,.tup e8,hP,λw y z xs ew hw hz=>?_,λb H9 s9 hb=>⟨b,rfl,?_⟩⟩
    ·cases ew;rw[e8] at hw;injection hw with hw
     injection hw with hw
     have:z=tp:=by
      have:=congrArg List.getLast? hw;rw[List.getLast?_append,List.getLast?_singleton] at this;simp at this;exact this.symm
     rw[this,et] at hz;cases hz;rw[aa,hr.1];omega
    ·have q:=q2 pf H8 H9 (((s03.trans sc).trans s5).trans s58) s9 ⟨tp,as,e8,et,r8⟩;cases b
     ·rw[if_pos (by decide)];exact q.2 λh=>by cases hb.mpr h
     ·rw[if_neg (by decide)];exact q.1 (hb.mp rfl)
def W6 (n:Int):Str:=Txt.join (sT [32]) [Str.ofString "places",tS n]
def T2 (t:Int×Int):Str:=Txt.join (sT [32]) [Str.ofString "tie",tS t.1,tS t.2]
def wT (n:Int)(ts:⋯):Str:=sT (((W6 n::ts.map T2).map λs=>cs s++[10]).flatten)
theorem a1p (n:Int):cs (W6 n)=cs (Str.ofString "places ")++cs (tS n):=by
 unfold W6;rw[Q9,show cs (Str.ofString "places ")=cs (Str.ofString "places")++[32] by decide +kernel,aZ];rfl
theorem a1o (t:Int×Int):cs (T2 t)=cs (Str.ofString "tie ")++cs (tS t.1)++cs (Str.ofString " ")++cs (tS t.2):=by
 unfold T2;rw[Q9,show cs (Str.ofString "tie ")=cs (Str.ofString "tie")++[32] by decide +kernel,show cs (Str.ofString " ")=[32] by decide +kernel];simp[jn]
theorem a1i (ys:List Str):cs (Txt.join (Str.ofString "") ys)=(ys.map cs).flatten:=by
 have go:∀(ys:List Str) (a:Array Nat),(ys.foldl (λacc p=>acc++(Str.ofString "").cps++p.cps) a).toList=a.toList++(ys.map cs).flatten:=λys=>by
  induction ys with
  | nil=>intro a;simp
  | cons y ys ih =>
   intro a;rw[cS,ih,aV,aV,show (Str.ofString "").cps.toList=[] by decide +kernel];simp[cs]
 cases ys with
 | nil=>rfl
 | cons y ys=>exact go ys y.cps
theorem T1 {x:Int}(h0:0<=x)(h1:x<100):x.natAbs.log2<1920:=by
 by_cases h:x.natAbs=0
 ·rw[h];decide
 ·exact (gG h).mpr (dQ (by omega:x.natAbs<128) (aT (by decide:128<2 ^ 8) (fw (by decide) (by decide))))
theorem T9 {x:Int}(h0:0<=x)(h1:x<100):(tS x).length<=2:=(a0u h0 h1).len
theorem Q8 (a b:Str):(a++b).length=a.length+b.length:=by rw[<- N2,K6,aD,N2,N2]
def lnS (t:Int×Int):Str:=Str.empty++Str.ofString "tie "++tS t.1++Str.ofString " "++tS t.2++Str.ofString "\n"
theorem b1B (t:Int×Int):cs (lnS t)=cs (T2 t)++[10]:=by
 unfold lnS;rw[a1o];simp only[K6];rw[show cs Str.empty=[] from rfl,show cs (Str.ofString "\n")=[10] by decide +kernel];simp
theorem Q4:(Str.empty).length=0:=rfl
theorem M8:(Str.ofString "tie ").length=4:=by decide +kernel
theorem V2:(Str.ofString "places ").length=7:=by decide +kernel
theorem V1:(Str.ofString " ").length=1:=by decide +kernel
theorem U3:(Str.ofString "\n").length=1:=by decide +kernel
theorem a5A {t:Int×Int}{n:Int}(hn:n<=60)(h:0<=t.1/\t.1<t.2/\t.2<n):(lnS t).length<=12:=by
 have a:=T9 (x:=t.1) ∅ ∅;have b:=T9 (x:=t.2) ∅ ∅;unfold lnS;simp only[Q8,Q4,M8,V1,U3];omega
theorem a6w (n:Int)(ts:⋯):Str.empty++Str.ofString "places "++tS n++Str.ofString "\n"++Txt.join (Str.ofString "") (ts.map lnS)=wT n ts:=by
 refine X6 ?_;rw[K6,a1i];unfold wT;rw[a5K,ao,cW,bj,bj,a1p];have e:(cs ∘ lnS)=((λs=>cs s++[10]) ∘ T2):=funext λt=>b1B t
 rw[e];simp only[K6];rw[show cs Str.empty=[] from rfl,show cs (Str.ofString "\n")=[10] by decide +kernel,cf]
def b1h (Hb:Hp)(p:Addr)(ts:⋯)(i:Nat)(τ:St)(Hc:Hp):Prop:=∃(c c':Option V),τ=[c,c']/\B0 Hb Hc/\Hc p=some (.lst (((ts.take i).map lnS).map V.str))
def a0K (K:ae):Sp:=λvs H Q _=>∃(w:Addr) (n:Int) (ts:⋯),vs=[.ref w]/\Q6 H w n ts/\P2 n ts/\∀ H',B0 H H'->Q (.str (wT n ts)) H'
theorem a0S:B7 ["web","places","ties"] ["web"] (A7 (top 20)):=by walk_at "s"
theorem a4t (F:Fun K "web_text" "web_text" (top 20) f fd)(B:Bt mg)(C:Bt2 mg):B8 P w K mg base CX0 1 f fd ["web"] (a0K K):=by
 refine F.ok a0S (λvs H Q E h=>?_) (λcdv A outer s H vs Q E hr h=>?_)
 ·walk_at "h"
 ·obtain⟨w,n,ts,rfl,hw,hok,q⟩:=h;have nd:=a0S.nd;have hu:=E8 hr
  refine⟨_,(A3 (X0 (pv 0) (M0 K (n:=2) rfl (B9 (A6 (i:=1) nd rfl (.inl rfl)) (B9 (A6 (i:=2) nd rfl (.inl rfl)) K5))))
    (A4 (B4 (B3 Q1 (a2A (Z5 (a0Y (pv 1) (Z5 a4q)))) (a1h K J9 (A0 (K9 (own:=["a","b"]) (fr:=[]) rfl (by walk_at "w") E2 (M7 K (pv 2)) ⟨λ_ _ _ _=>⟨(M0 K (n:=2) rfl (B9 (A6 (i:=0) (show bH (["a","b"]:List Str) by decide +kernel) rfl (.inl rfl)) (B9 (A6 (i:=1) (show bH (["a","b"]:List Str) by decide +kernel) rfl (.inl rfl)) K5))),J8,(a2A (Z5 (a0Y (pv 0) (Z5 (a0Y (pv 1) (Z5 a4q))))))⟩⟩) A1)))))),?_⟩
  simp only[L2.P1,st0,ao,cz,aH,bR,List.replicate,bT,cf,Nat.reduceAdd,Nat.reduceSub];have sz:∀ {k:Nat},k<=16000000->k<=sizeLine:=λh=>dB (B5 h)
  have hn:=T9 (x:=n) (by have:=hok.n3;omega) (by have:=hok.n60;omega);obtain⟨q0,hw0,ht⟩:=id hw;obtain⟨ps,hp0,hps⟩:=ht;have hlp:=hps.len;have hl:=hok.len;walk_at "rd";refine⟨_,SqT.of hw0,rfl,_,_,rfl,_,_,rfl,rfl,?_,n,rfl,T1 (by have:=hok.n3;omega) (by have:=hok.n60;omega),?_,?_,?_,by first | exact rfl | exact trivial | constructor,q0,rfl,⟨_,SqT.of hp0⟩,λp np=>?_⟩
  ·simp only[Q8,Q4,V2];exact sz (by decide)
  ·simp only[Q8,Q4,V2];exact sz ∅
  ·simp only[Q8,Q4,V2,U3];exact sz ∅
  ·simp only[Q8,Q4,V2,U3];exact sz ∅
  refine a4B (K:=K) (xs:=ps.map λx=>V.ref x.1) (b1h H p ts) ⟨none,none,rfl,(B0.refl H).upd np,A2⟩ ?_ ?_ ?_
  ·rintro i τ Hc _ ⟨_,_,rfl,sc,_⟩;exact SqT.of (sc _ _ hp0)
  ·rintro i v τ Hc hv ⟨c,c',rfl,sc,hc⟩;obtain⟨a,t,rfl,hti,ha⟩:=hps.get hv;have htr:=hok.rng t (aB hti);have hil:=(ap.mp hti).1;have a1:=T9 (x:=t.1) ∅ (by have:=hok.n60;omega);have a2:=T9 (x:=t.2) ∅ (by have:=hok.n60;omega);walk_at "rd";refine⟨_,SqT.of (sc _ _ ha),rfl,_,_,rfl,_,_,rfl,rfl,?_,t.1,rfl,T1 ∅ (by have:=hok.n60;omega),?_,?_,t.2,rfl,T1 ∅ (by have:=hok.n60;omega),?_,?_,?_,_,hc,?_,_,_,rfl,sc.upd np,?_⟩
   ·simp only[Q8,Q4,M8];exact sz (by decide)
   ·simp only[Q8,Q4,M8];exact sz ∅
   ·simp only[Q8,Q4,M8,V1];exact sz ∅
   ·simp only[Q8,Q4,M8,V1];exact sz ∅
   ·simp only[Q8,Q4,M8,V1,U3];exact sz ∅
   ·simp only[Q8,Q4,M8,V1,U3];exact sz ∅
   ·rw[aa,aa,aN];exact B5 ∅
   ·rw[A2,b6,hti,aE,aE];rfl
  ·rintro τ Hc ⟨c,c',rfl,sc,hc⟩;rw[aa,hlp,aX] at hc;have hs:=R3 (λx:Str=>x.length) 12 (ts.map lnS) λx hx=>by
    obtain⟨t,ht,rfl⟩:=aY.mp hx;exact a5A hok.n60 (hok.rng t ht)
   rw[aa] at hs;have hj:(Txt.join (Str.ofString "") (ts.map lnS)).length<=2400:=by
    rw[<- N2,a1i,fB,bj];have e:(cE ∘ cs)=λx:Str=>x.length:=funext N2
    rw[e];omega
   refine⟨_,rfl,ts.map lnS,SqL.of hc,by rw[show (Str.ofString "").length=0 by decide +kernel];omega,_,rfl,_,rfl,?_,?_⟩
   ·simp only[Q8,Q4,V2,U3];exact sz ∅
   ·rw[a6w];exact q Hc sc
theorem a8w (n:Int):Str.ofString "places "++tS n++Str.ofString "\n"=wT n []:=by
 refine X6 ?_;unfold wT;rw[a5K,ao,cW,a1p];simp only[K6];rw[show cs (Str.ofString "\n")=[10] by decide +kernel];simp
theorem a8v (n:Int)(us:⋯)(t:Int×Int):wT n us++Str.ofString "tie "++tS t.1++Str.ofString " "++tS t.2++Str.ofString "\n"=wT n (us++[t]):=by
 refine X6 ?_;unfold wT;simp only[K6,a5K];rw[show cs (Str.ofString "\n")=[10] by decide +kernel];simp[a1o]
theorem a6x {n:Int}{us:⋯}(h0:0<=n)(hn:n<=60)(h:∀ t∈us,0<=t.1/\t.1<t.2/\t.2<n):(wT n us).length<=10+us.length*12:=by
 rw[<- a6w,Q8];have hs:=R3 (λx:Str=>x.length) 12 (us.map lnS) λx hx=>by
  obtain⟨t,ht,rfl⟩:=aY.mp hx;exact a5A hn (h t ht)
 rw[aa] at hs;have hj:(Txt.join (Str.ofString "") (us.map lnS)).length<=us.length*12:=by
  rw[<- N2,a1i,fB,bj];have e:(cE ∘ cs)=λx:Str=>x.length:=funext N2
  rw[e];omega
 have:=T9 (x:=n) h0 ∅;simp only[Q8,Q4,V2,U3];omega
def b1i (H:Hp)(w:Addr)(n:Int)(ts:⋯)(i:Nat)(σ:St)(Hc:Hp):Prop:=∃(c c':Option V),σ=[some (.ref w),some (.str (wT n (ts.take i))),c,c']/\Hc=H
def a0J (K:ae):Sp:=λvs H Q _=>∃(w:Addr) (n:Int) (ts:⋯),vs=[.ref w]/\Q6 H w n ts/\P2 n ts/\Q (.str (wT n ts)) H
theorem a0R:B7 ["_law_web_here","_law_text","_law_one","_law_other"] ["_law_web_here"] (A7 (top 39)):=by walk_at "s"
theorem a4s (F:Fun K "_law_written" "_law_written" (top 39) f fd)(B:Bt mg)(C5:Bt5 mg):B8 P w K mg base CX0 1 f fd ["_law_web_here"] (a0J K):=by
 refine F.ok a0R (λvs H Q E h=>?_) (λcdv A outer s H vs Q E hr h=>?_)
 ·walk_at "h"
 ·obtain⟨w,n,ts,rfl,hw,hok,q⟩:=h;have nd:=a0R.nd;have hu:=E8 hr
  refine⟨_,(A3 (C1 (i:=1) nd rfl (.inl rfl) (B3 Q1 (B3 Q1 J9 (C2 J7 (by rfl) C5.str eu (A0 (E4 (J0 K) (pv 0) A5 (λ_ _=>rfl)) A1))) J9))
    (A3 (M4 bn rfl (M7 K (E4 (J0 K) (pv 0) A5 (λ_ _=>rfl))) (M0 K (n:=2) rfl (B9 (A6 (i:=2) nd rfl (.inl rfl)) (B9 (A6 (i:=3) nd rfl (.inl rfl)) K5)))
     (A4 (C1 (i:=1) nd rfl (.inl rfl) (B3 Q1 (B3 Q1 (B3 Q1 (B3 Q1 (B3 Q1 (pv 1) J9) (C2 J7 (by rfl) C5.str eu (A0 (pv 2) A1))) J9) (C2 J7 (by rfl) C5.str eu (A0 (pv 3) A1))) J9))))
    (A4 (B4 (pv 1))))),?_⟩
  simp only[L2.P1,st0,ao,cz,aH,bR,List.replicate,bT,cf,Nat.reduceAdd,Nat.reduceSub];have sz:∀ {k:Nat},k<=16000000->k<=sizeLine:=λh=>dB (B5 h)
  have h60:=hok.n60;have h3:=hok.n3;have hn:=T9 (x:=n) ∅ ∅;obtain⟨q0,hw0,ht⟩:=id hw;obtain⟨ps,hp0,hps⟩:=ht;have hlp:=hps.len;have hl:=hok.len;walk_at "rd";refine⟨_,SqT.of hw0,_,rfl,n,rfl,T1 ∅ ∅,_,rfl,_,rfl,?_,_,rfl,_,rfl,?_,?_⟩
  ·exact sz (by rw[V2];have:(Str.ofString (toString n)).length<=2:=hn;omega)
  ·rw[Q8,V2,U3];exact sz (by have:(Str.ofString (toString n)).length<=2:=hn;omega)
  rw[show Str.ofString "places "++Str.ofString (toString n)++Str.ofString "\n"=wT n [] from a8w n];rw[X9];walk_at "rd";refine⟨_,SqT.of hw0,_,rfl,q0,rfl,⟨_,SqT.of hp0⟩,U4 (K:=K) (xs:=ps.map λx=>V.ref x.1) (b1i H w n ts) ⟨none,none,rfl,rfl⟩ ?_ ?_ ?_⟩
  ·rintro i σ Hc _ ⟨_,_,rfl,rfl⟩;exact SqT.of hp0
  ·rintro i v σ Hc hv ⟨c,c',rfl,rfl⟩;obtain⟨a,t,rfl,hti,ha⟩:=hps.get hv;have htr:=hok.rng t (aB hti);have hil:=(ap.mp hti).1;have a1:(Str.ofString (toString t.1)).length<=2:=T9 (x:=t.1) ∅ ∅;have a2:(Str.ofString (toString t.2)).length<=2:=T9 (x:=t.2) ∅ ∅;have wl:=a6x (us:=ts.take i) (by omega:0<=n) h60 λt ht=>hok.rng t (cZ ht)
   rw[aN] at wl;walk_at "rd";refine⟨_,SqT.of ha,rfl,_,_,rfl,_,_,rfl,rfl,_,rfl,_,rfl,?_,t.1,rfl,T1 ∅ ∅,_,rfl,_,rfl,?_,_,rfl,_,rfl,?_,t.2,rfl,T1 ∅ ∅,_,rfl,_,rfl,?_,_,rfl,_,rfl,?_,some (V.int t.1),some (V.int t.2),?_,rfl⟩
   ·rw[M8];exact sz ∅
   ·rw[Q8,M8];exact sz ∅
   ·simp only[Q8,M8,V1];exact sz ∅
   ·simp only[Q8,M8,V1];exact sz ∅
   ·simp only[Q8,M8,V1,U3];exact sz ∅
   ·rw[b6,hti];show _=[some (V.ref w),some (V.str (wT n (ts.take i++[t]))),_,_]
    rw[<- a8v];rfl
  ·rintro σ Hc ⟨c,c',rfl,rfl⟩;rw[aa,hlp,aX];walk_at "rd";exact q
def pT (ks:List Int):Str:=Txt.join (Str.ofString ",") (ks.map tS)
theorem T0 {x:Int}(h0:0<=x)(h1:x<100):x.natAbs.log2<1920:=by
 by_cases h:x.natAbs=0
 ·rw[h];decide
 ·exact (gG h).mpr (dQ (by omega:x.natAbs<128) (aT (by decide:128<2 ^ 8) (fw (by decide) (by decide))))
theorem a4H {ks:List Int}(hrg:∀ x∈ks,0<=x/\x<60):∀ w∈ks.map tS,Gt 2 0 w:=λw hw=>by
 obtain⟨x,hx,rfl⟩:=aY.mp hw;exact a0u (hrg x hx).1 (by have:=hrg x hx;omega)
def W3 (K:ae):Sp:=λvs H Q _=>∃(p:Addr) (ks:List Int),vs=[.ref p]/\H p=some (.tup (ks.map V.int))/\(∀ x∈ks,0<=x/\x<60)/\ks.length<=1000/\∀ H',B0 H H'->Q (.str (pT ks)) H'
theorem W4:B7 ["places"] ["places"] (A7 (top 21)):=by walk_at "s"
theorem a1w (F:Fun K "places_text" "places_text" (top 21) f fd)(B:Bt mg)(C5:Bt5 mg):B8 P w K mg base CX0 1 f fd ["places"] (W3 K):=by
 refine F.ok W4 (λvs H Q E h=>?_) (λcdv A outer s H vs Q E hr h=>?_)
 ·walk_at "h"
 ·obtain⟨p,ks,rfl,hp,hrg,hl,q⟩:=h;have nd:=W4.nd;have hu:=E8 hr;refine⟨_,(A4 (B4 (a1h K J9 (A0 (K9 (own:=["place"]) (fr:=[]) rfl (by walk_at "w") E2 (M7 K (pv 0)) ⟨λ_ _ _ _=>⟨(A6 (i:=0) (show bH (["place"]:List Str) by decide +kernel) rfl (.inl rfl)),J8,(C2 J7 (by rfl) C5.str eu (A0 (pv 0) A1))⟩⟩) A1)))),?_⟩;walk_at "rd";refine⟨by first | exact rfl | exact trivial | constructor,⟨_,SqT.of hp⟩,λl nl=>a5B (K:=K) (xs:=ks) V.int (λ_=>true) (λx=>V.str (tS x)) ∅ (SqT.of hp) nl ?_ ?_⟩
  ·intro x hx v ys R hy hR1 hR2;walk_at "rd";exact⟨T0 (hrg x hx).1 (by have:=hrg x hx;omega),a3c hy ∅ hR1⟩
  ·rw[a3Y];have s:=Gt.sum (a4H hrg);rw[aa] at s;refine⟨_,rfl,ks.map tS,SqL.of (by rw[A2,bj];rfl),?_,q _ ((B0.refl H).upd nl)⟩;rw[show (Str.ofString ",").length=1 by decide +kernel,aa];omega
def S6 (t:Int×Int):Str:=tS t.1++Str.ofString "-"++tS t.2
def tT (ts:⋯):Str:=Txt.join (Str.ofString " ") (ts.map S6)
theorem b0l (t:Int×Int):Str.empty++tS t.1++Str.ofString "-"++tS t.2=S6 t:=X6 (by unfold S6;simp only[K6];rfl)
theorem a2L {t:Int×Int}(h:0<=t.1/\t.1<t.2/\t.2<60):Gt 5 0 (S6 t):=((a0u h.1 ∅).add (b0b (m:=1) (k:=0) (by decide +kernel))).add (a0u ∅ ∅)
def b1j (Hb:Hp)(l:Addr)(ts:⋯)(i:Nat)(τ:St)(Hc:Hp):Prop:=∃(c c':Option V),τ=[c,c']/\B0 Hb Hc/\Hc l=some (.lst (((ts.take i).map S6).map V.str))
def a0g (K:ae):Sp:=λvs H Q _=>∃(p:Addr) (ts:⋯),vs=[.ref p]/\U7 H p ts/\K2 60 ts/\ts.length<=300/\∀ H',B0 H H'->Q (.str (tT ts)) H'
theorem a0l:B7 ["tree"] ["tree"] (A7 (top 22)):=by walk_at "s"
theorem a3H (F:Fun K "tree_text" "tree_text" (top 22) f fd)(B:Bt mg)(C5:Bt5 mg):B8 P w K mg base CX0 1 f fd ["tree"] (a0g K):=by
 refine F.ok a0l (λvs H Q E h=>?_) (λcdv A outer s H vs Q E hr h=>?_)
 ·walk_at "h"
 ·obtain⟨p,ts,rfl,ht,hrg,hl,q⟩:=h;have nd:=a0l.nd;have hu:=E8 hr;refine⟨_,(A4 (B4 (a1h K J9 (A0 (K9 (own:=["a","b"]) (fr:=[]) rfl (by walk_at "w") E2 (M7 K (pv 0)) ⟨λ_ _ _ _=>⟨(M0 K (n:=2) rfl (B9 (A6 (i:=0) (show bH (["a","b"]:List Str) by decide +kernel) rfl (.inl rfl)) (B9 (A6 (i:=1) (show bH (["a","b"]:List Str) by decide +kernel) rfl (.inl rfl)) K5))),J8,(a2A (a0Y (pv 0) (Z5 (a0Y (pv 1) a4q))))⟩⟩) A1)))),?_⟩;walk_at "rd";have sz:∀ {k:Nat},k<=16000000->k<=sizeLine:=λh=>dB (B5 h)
  obtain⟨ps,hp0,hps⟩:=ht;have hlp:=hps.len;refine⟨by first | exact rfl | exact trivial | constructor,⟨_,SqT.of hp0⟩,λl nl=>a4B (K:=K) (xs:=ps.map λx=>V.ref x.1) (b1j H l ts) ⟨none,none,rfl,(B0.refl H).upd nl,A2⟩ ?_ ?_ ?_⟩
  ·rintro i τ Hc _ ⟨_,_,rfl,sc,_⟩;exact SqT.of (sc _ _ hp0)
  ·rintro i v τ Hc hv ⟨c,c',rfl,sc,hc⟩;obtain⟨a,t,rfl,hti,ha⟩:=hps.get hv;have htr:=hrg t (aB hti);have hil:=(ap.mp hti).1;have a1:=(a0u htr.1 (by omega:t.1<100)).len;have a2:=(a0u (by omega:0<=t.2) (by omega:t.2<100)).len;have a0:(Str.ofString "-").length=1:=by decide +kernel
   walk_at "rd";refine⟨_,SqT.of (sc _ _ ha),rfl,_,_,rfl,_,_,rfl,rfl,t.1,rfl,T0 ∅ ∅,?_,?_,t.2,rfl,T0 ∅ ∅,?_,?_,_,hc,?_,_,_,rfl,sc.upd nl,?_⟩
   ·simp only[Q8,Q4];exact sz ∅
   ·simp only[Q8,Q4,a0];exact sz ∅
   ·simp only[Q8,Q4,a0];exact sz ∅
   ·simp only[Q8,Q4,a0];exact sz ∅
   ·rw[aa,aa,aN];exact B5 ∅
   ·rw[A2,b6,hti,aE,aE];show some (HO.lst (_++[V.str _]))=some (HO.lst (_++[V.str (S6 t)]));rw[b0l]
  ·rintro τ Hc ⟨c,c',rfl,sc,hc⟩;rw[aa,hlp,aX] at hc;have s:=Gt.sum (m:=5) (k:=0) (ws:=ts.map S6) λw hw=>by
    obtain⟨x,hx,rfl⟩:=aY.mp hw;exact a2L (hrg x hx)
   rw[aa] at s;refine⟨_,rfl,ts.map S6,SqL.of hc,?_,q _ sc⟩;rw[show (Str.ofString " ").length=1 by decide +kernel,aa];omega
def b1o (Hb:Hp)(p l:Addr)(ts:⋯)(i:Nat)(σ:St)(Hc:Hp):Prop:=∃(c c':Option V),σ=[some (.ref p),some (.ref l),c,c']/\B0 Hb Hc/\Hc l=some (.lst (((ts.take i).map S6).map V.str))
def a0j (K:ae):Sp:=λvs H Q _=>∃(p:Addr) (ts:⋯),vs=[.ref p]/\U7 H p ts/\K2 60 ts/\ts.length<=300/\∀ H',B0 H H'->Q (.str (tT ts)) H'
theorem a0o:B7 ["_law_ties","_law_words","_law_one","_law_other"] ["_law_ties"] (A7 (top 40)):=by walk_at "s"
theorem a3K (F:Fun K "_law_of_ties" "_law_of_ties" (top 40) f fd)(B:Bt mg)(C5:Bt5 mg):B8 P w K mg base CX0 1 f fd ["_law_ties"] (a0j K):=by
 refine F.ok a0o (λvs H Q E h=>?_) (λcdv A outer s H vs Q E hr h=>?_)
 ·walk_at "h"
 ·obtain⟨p,ts,rfl,ht,hrg,hl,q⟩:=h;have nd:=a0o.nd;have hu:=E8 hr
  refine⟨_,(A3 (C1 (i:=1) nd rfl (.inl rfl) (L1 A1))
    (A3 (M4 bn rfl (M7 K (pv 0)) (M0 K (n:=2) rfl (B9 (A6 (i:=2) nd rfl (.inl rfl)) (B9 (A6 (i:=3) nd rfl (.inl rfl)) K5)))
     (A4 (N8 (O0 K (pv 1) (A0 (B3 Q1 (B3 Q1 (C2 J7 (by rfl) C5.str eu (A0 (pv 2) A1)) J9) (C2 J7 (by rfl) C5.str eu (A0 (pv 3) A1))) A1)))))
    (A4 (B4 (a1h K J9 (A0 (pv 1) A1)))))),?_⟩
  walk_at "rd";have sz:∀ {k:Nat},k<=16000000->k<=sizeLine:=λh=>dB (B5 h)
  obtain⟨ps,hp0,hps⟩:=ht;have hlp:=hps.len;refine⟨by decide,λl nl=>?_⟩;rw[X9];walk_at "rd";have s1:=(B0.refl H).upd (o:=.lst []) nl;refine⟨⟨_,SqT.of (s1 _ _ hp0)⟩,U4 (K:=K) (xs:=ps.map λx=>V.ref x.1) (b1o H p l ts) ⟨none,none,rfl,s1,A2⟩ ?_ ?_ ?_⟩
  ·rintro i σ Hc _ ⟨_,_,rfl,sc,_⟩;exact SqT.of (sc _ _ hp0)
  ·rintro i v σ Hc hv ⟨c,c',rfl,sc,hc⟩;obtain⟨a,t,rfl,hti,ha⟩:=hps.get hv;have htr:=hrg t (aB hti);have hil:=(ap.mp hti).1;have a1:(Str.ofString (toString t.1)).length<=2:=(a0u htr.1 (by omega:t.1<100)).len;have a2:(Str.ofString (toString t.2)).length<=2:=(a0u (by omega:0<=t.2) (by omega:t.2<100)).len;have a0:(Str.ofString "-").length=1:=by decide +kernel
   walk_at "rd";refine⟨_,SqT.of (sc _ _ ha),rfl,_,_,rfl,_,_,rfl,rfl,.inl ⟨rfl,_,SqL.of hc⟩,t.1,rfl,T0 ∅ ∅,_,rfl,_,rfl,?_,t.2,rfl,T0 ∅ ∅,_,rfl,_,rfl,?_,_,hc,?_,some (V.int t.1),some (V.int t.2),rfl,sc.upd nl,?_⟩
   ·exact sz ∅
   ·rw[Q8];exact sz ∅
   ·rw[aa,aa,aN];exact B5 ∅
   ·rw[A2,b6,hti,aE,aE];rfl
  ·rintro σ Hc ⟨c,c',rfl,sc,hc⟩;rw[aa,hlp,aX] at hc;walk_at "rd";have s:=Gt.sum (m:=5) (k:=0) (ws:=ts.map S6) λw hw=>by
    obtain⟨x,hx,rfl⟩:=aY.mp hw;exact a2L (hrg x hx)
   rw[aa] at s;refine⟨by first | exact rfl | exact trivial | constructor,_,rfl,ts.map S6,SqL.of hc,?_,q _ sc⟩;rw[show (Str.ofString " ").length=1 by decide +kernel,aa];omega
def Pls (H:Hp)(m:Int)(a:Addr):Prop:=∃ ks:List Int,H a=some (.tup (ks.map V.int))/\ks.Pairwise (·<·)/\(∀ x∈ks,0<=x/\x<m)/\ks.length<=60
theorem Pls.same {H H':Hp}{m:Int}{a:Addr}(h:Pls H m a)(s:B0 H H'):Pls H' m a:=let ⟨ks,e,r⟩:=h;⟨ks,s _ _ e,r⟩
def a1G (K:ae):Sp:=λvs H Q _=>∃(d:Addr) (m:Int),vs=[.ref d,.int m]/\L9 H d/\3<=m/\m<=60 /\
 ∀(p:Addr) (as:List Addr) H',Kp d H H'->L9 H' d->H p=none->H' p=some (.lst (as.map V.ref))->(∀ a∈as,Pls H' m a)->Q (.ref p) H'
def a7O (Hb:Hp)(d p:Addr)(w:Int)(fr:List (Option V))(i:Nat)(τ:St)(Hc:Hp):Prop:=∃(c:Option V) (ks:List Int),τ=c::fr/\Kp d Hb Hc/\L9 Hc d/\Hc p=some (.lst (ks.map V.int))/\ks.Pairwise (·<·)/\(∀ x∈ks,0<=x/\x<i)/\ks.length<=i
theorem a1L:B7 ["_law_deck_here","_law_many","_law_way","_law_drawn"] ["_law_deck_here","_law_many"] (A7 (top 41)):=by walk_at "s"
theorem a5T (F:Fun K "_law_some" "_law_some" (top 41) f fd)(B:Bt mg)(D1:Df K mg "_law_next" st1 f1 fd1 ["_law_deck_here"])(G1:B8 P w K mg base CX0 1 f1 fd1 ["_law_deck_here"] U0)(C5:Bt5 mg):B8 P w K mg base CX0 2 f fd ["_law_deck_here","_law_many"] (a1G K):=by
 refine F.ok a1L (λvs H Q E h=>?_) (λcdv A outer s H vs Q E hr h=>?_)
 ·walk_at "h"
 ·obtain⟨d,m,rfl,hd,h3,h60,q⟩:=h;have nd:=a1L.nd;have hu:=E8 hr
  refine⟨_,(A3 (C1 (i:=2) nd rfl (.inr rfl) (B3 R8 A5 (B3 J2 (B1 G1 D1 hr.m (A0 (pv 0) A1)) A5)))
    (A3 (C1 (i:=3) nd rfl (.inl rfl) (C2 (T6 K) (by rfl) B.tuple cF (A0 (K9 (own:=["_law_place"]) (fr:=[("_law_deck_here",0),("_law_way",2)]) rfl (by walk_at "w") (K1 rfl rfl (K1 rfl rfl E2)) (P6 (by rfl) B.range (A0 (pv 1) A1)) ⟨λ_ _ _ _=>⟨(A6 (i:=0) (show bH (["_law_place","_law_deck_here","_law_way"]:List Str) by decide +kernel) rfl (.inl rfl)),(a0A (E5 a5u (B3 J2 (B1 G1 D1 hr.m (A0 (pv 1) A1)) A5) (pv 2) (E7 _))),(pv 0)⟩⟩) A1)))
    (A4 (B4 (L1 (A0 (N1 A1) (A0 (N1 (A0 (B3 J2 (B1 G1 D1 hr.m (A0 (pv 0) A1)) (pv 1)) A1)) (A0 (C2 (V4 hr.hd) (by rfl) B.tuple cF (A0 (C2 a2h (by rfl) B.range iw (A0 (pv 1) A1)) A1)) (A0 (pv 3) A1))))))))),?_⟩
  walk_at "rd";refine Z8 hd λz H1 k1 d1 z0 z1=>⟨z,rfl,by decide,∅,∅,λp np=>?_⟩
  have hpd:p≠d:=d1.ne np;refine Y6 (lo:=0) (a7O H1 d p (1+z % 4) [some (.ref d),some (.int (1+z % 4))]) ⟨none,[],rfl,(Kp.refl d H1).new np,d1.new hpd,A2,.nil,λx hx=>(by cases hx),aj _⟩ ?_ ?_
  ·rintro i τ Hc hi ⟨c,ks,rfl,kc,dc,hc,hpw,hkr,hkl⟩;walk_at "rd";refine Z8 dc λy H2 k2 d2 y0 y1=>⟨y,rfl,by decide,?_⟩
   have hc2:=k2 _ _ hpd hc;by_cases h:y % 5<1+z % 4
   ·rw[if_pos (decide_eq_true h)];refine⟨_,hc2,by rw[aa];exact B5 ∅,_,ks++[0+(i:Int)],rfl,(kc.trans k2).new np,d2.new hpd,by rw[A2,aE];rfl,?_,λx hx=>?_,by rw[aD];exact Nat.succ_le_succ hkl⟩
    ·refine List.pairwise_append.mpr ⟨hpw,bq _ _,λa ha b hb=>?_⟩;have:=hkr a ha;rw[ag.mp hb];omega
    ·rcases al.mp hx with hx | hx
     ·have:=hkr x hx;omega
     ·rw[ag.mp hx];omega
   ·rw[if_neg (by rw[decide_eq_true_iff];exact h)];exact⟨_,ks,rfl,kc.trans k2,d2,hc2,hpw,λx hx=>by have:=hkr x hx;omega,Nat.le_succ_of_le hkl⟩
  ·rintro τ H2 ⟨c,ks,rfl,k2,d2,hc,hpw,hkr,hkl⟩;refine⟨_,.inl ⟨SqL.of hc,λt nt=>B2 nt λH3 s3 e3=>⟨by decide,λt0 n0=>B2 n0 λH4 s4 e4=>Z8 ((d2.same s3).same s4) λy H5 k5 d5 y0 y1=>⟨y,rfl,∅,by decide,λt1 n1=>B2 n1 λH6 s6 e6=>λpr nr=>B2 nr λH7 s7 e7=>⟨0,m,e7,⟨by decide,by decide,∅,∅⟩,∅,λt2 n2=>B2 n2 λH8 s8 e8=>⟨by decide,λpf nf=>B2 nf λH9 s9 e9=>?_⟩⟩⟩⟩⟩⟩;have s69:=s6.trans ((s7.trans s8).trans s9);have td:∀ {a:Addr} {xs:List V},H4 a=some (.tup xs)->a≠d:=λe h=>by
    obtain⟨ds,e',_⟩:=(d2.same s3).same s4;rw[h,e'] at e;cases e
   refine q pf [t0,t1,t2,t] H9 ((((k1.trans k2).trans s3.kp).trans s4.kp).trans (k5.trans s69.kp)) (d5.same s69) ?_ e9 (λa ha=>?_)
   ·exact k1.free d1 (k2.free d2 ((s3.trans s4).free (k5.free d5 ((s6.trans (s7.trans s8)).free nf))))
   ·simp only[aW,cH,or_false] at ha;rcases ha with rfl | rfl | rfl | rfl
    ·exact⟨[],s69 _ _ (k5 _ _ (td e4) e4),.nil,λx hx=>(by cases hx),by decide⟩
    ·refine⟨[y % m],((s7.trans s8).trans s9) _ _ e6,bq _ _,λx hx=>?_,by show 1<=60;decide⟩;rw[ag.mp hx];exact⟨ca _ ∅,bN _ ∅⟩
    ·refine⟨B6 0 (m-0).toNat,s9 _ _ e8,Y5 _,λx hx=>?_,by rw[J3];omega⟩;have:=E9.mp hx;omega
    ·exact⟨ks,s69 _ _ (k5 _ _ (td (s4 _ _ e3)) (s4 _ _ e3)),hpw,λx hx=>by have:=hkr x hx;omega,∅⟩
theorem b0F {H:Hp}{p:Addr}{as:List Addr}{ws:List Str}{us:⋯}(e:H p=some (.tup (as.map V.ref)))(r:RwT H as ws)(h:ws.map a3e=us.map (λt=>[V.int t.1,V.int t.2])):U7 H p us:=by
 have hl:ws.length=us.length:=by have:=congrArg cE h;simpa using this
 have hl2:=r.1;refine⟨as.zip (us.map tl),?_,⟨λx hx=>?_,?_⟩⟩
 ·rw[e];have:as.map V.ref=((as.zip (us.map tl)).map (·.1)).map V.ref:=by rw[fU (by rw[aa];omega)]
  rw[this,bj];rfl
 ·obtain⟨j,hj⟩:=bG.mp hx;rw[di] at hj;obtain⟨h1,h2⟩:=hj;rw[aC] at h2;obtain⟨t,ht,h2⟩:=cn.mp h2;have hjl:j<ws.length:=by rw[hl];exact (ap.mp ht).1
  have h3:=r.2 j x.1 ws[j] h1 (aq hjl);have h4:(ws.map a3e)[j]?=(us.map λt=>[V.int t.1,V.int t.2])[j]?:=by rw[h]
  rw[aC,aC,aq hjl,ht] at h4;rw[h3,aG h4,<- h2];rfl
 ·rw[fT (by rw[aa];omega)]
theorem a7K (c:Nat):∀ ps:List (List Nat),jn c (ps++[[]])=(ps.map (·++[c])).flatten
 | []=>rfl
 | [p]=>by simp[jn]
 | p::q::r=>by
  have:=a7K c (q::r);rw[bT,bT,jn,<- bT,this];simp
theorem T8 {n:Int}(h0:0<=n)(h1:n<61):10∉cs (tS n)/\32∉cs (tS n)/\44∉cs (tS n)/\45∉cs (tS n)/\cs (tS n)≠[]:=by
 have h:(cU 61).all (λi=>decide (10∉cs (tS (i:Int))/\32∉cs (tS (i:Int))/\44∉cs (tS (i:Int))/\45∉cs (tS (i:Int))/\cs (tS (i:Int))≠[]))=true:=by decide +kernel
 have:=bJ.mp h n.toNat (bK.mpr ∅);rw[bx h0] at this;exact of_decide_eq_true this
theorem Z9 {m:Nat}(hm:m<=100){n:Int}(h0:0<=n)(h1:n<m):nOf m (tS n)=.int n:=by
 unfold nOf;rw[(a5x (m:=m) hm).mpr ⟨n.toNat,∅,by rw[bx h0],rfl⟩,bx h0];rfl
theorem a4O {α:Type}{P:α->Prop}:∀ x∈([]:List α),P x:=λ_ h=>nomatch h
theorem S2 {α:Type}{P:α->Prop}{a:α}{l:List α}(h:P a)(t:∀ x∈l,P x):∀ x∈a::l,P x:=λx hx=>(aW.mp hx).elim (λe=>e ▸ h) (t x)
theorem s32:Str.ofString " "=sT [32]:=by decide +kernel
theorem s10:Str.ofString "\n"=sT [10]:=by decide +kernel
theorem s44:Str.ofString ","=sT [44]:=by decide +kernel
theorem s45:Str.ofString "-"=sT [45]:=by decide +kernel
theorem a4G {n:Int}(h0:0<=n)(h1:n<61):nbV 61 (Str.ofString "places") (W6 n)=[V.int n]:=by
 unfold nbV W6;rw[s32,R6 (by simp) (S2 (by decide +kernel) (S2 (T8 h0 h1).2.1 a4O)),if_pos (by rfl)];show [nOf 61 (tS n)]=_;rw[Z9 (by decide) h0 h1]
theorem a4z {t:Int×Int}(h0:0<=t.1)(h1:t.1<61)(h2:0<=t.2)(h3:t.2<61):nbV 61 (Str.ofString "tie") (T2 t)=[V.int t.1,V.int t.2]:=by
 unfold nbV T2;rw[s32,R6 (by simp) (S2 (by decide +kernel) (S2 (T8 h0 h1).2.1 (S2 (T8 h2 h3).2.1 a4O))),if_pos (by rfl)];show [nOf 61 (tS t.1),nOf 61 (tS t.2)]=_;rw[Z9 (by decide) h0 h1,Z9 (by decide) h2 h3]
theorem N5 {c:Nat}{a b:List Nat}(h:c∉a)(h':c∉b):c∉a++b:=λm=>(al.mp m).elim h h'
theorem a6L {n:Int}{ts:⋯}(h0:0<=n)(h1:n<61)(hr:∀ t∈ts,0<=t.1/\t.1<61/\0<=t.2/\t.2<61):Txt.split (wT n ts) (Str.ofString "\n")=W6 n::(ts.map T2++[Str.ofString ""]):=by
 have e:wT n ts=Txt.join (sT [10]) (W6 n::(ts.map T2++[Str.ofString ""])):=X6 (by
  rw[Q9,<- bT,aE,show [Str.ofString ""].map cs=[[]] by decide +kernel,a7K,bj]
  rfl)
 rw[e,s10,R6 (by simp)];refine S2 ?_ λx hx=>?_
 ·rw[a1p];exact N5 (by decide +kernel) (T8 h0 h1).1
 ·rcases al.mp hx with hx | hx
  ·obtain⟨t,ht,rfl⟩:=aY.mp hx;obtain⟨a,b,c,d⟩:=hr t ht;rw[a1o];exact N5 (N5 (N5 (by decide +kernel) (T8 a b).1) (by decide +kernel)) (T8 c d).1
  ·rw[ag.mp hx];decide +kernel
theorem a9y {x:Str}{l:List Nat}(h:cs x=l++[10]):Txt.endswith x (Str.ofString "\n")=true:=by
 have hl:x.length=l.length+1:=by rw[<- N2,h,aD];rfl
 rw[s10];unfold Txt.endswith Builtin.Str.subAt;have e1:(sT [10]).length=1:=rfl;rw[e1,bU];refine⟨decide_eq_true ∅,?_⟩;rw[beq_iff_eq];have:(x.cps.extract (x.length-1) (x.length-1+1)).toList=(sT [10]).cps.toList:=by
  rw[bW,bE];have h:x.cps.toList=l++[10]:=h;rw[h,hl,show l.length+1-1=l.length by omega,show l.length+1-l.length=1 by omega,fX (aj _),hJ (aj _)];rfl
 exact Array.toList_inj.mp this
theorem a9x (n:Int)(ts:⋯):Txt.endswith (wT n ts) (Str.ofString "\n")=true:=by
 have e:cs (wT n ts)=(((W6 n::ts.map T2)).map λs=>cs s++[10]).flatten:=rfl;rcases List.eq_nil_or_concat (W6 n::ts.map T2) with h | ⟨i,z,h⟩
 ·cases h
 ·rw[List.concat_eq_append] at h;rw[h,aE,List.flatten_append] at e;refine a9y (l:=(i.map λs=>cs s++[10]).flatten++cs z) (e.trans ?_);simp
theorem b0i {H:Hp}{p:Addr}{n:Int}{ts:⋯}(h0:0<=n)(h1:n<61)(hr:∀ t∈ts,0<=t.1/\t.1<61/\0<=t.2/\t.2<61)(h:b2S H p (W6 n) (ts.map T2)):Q6 H p n ts:=by
 obtain⟨tp,as,e,e2,r⟩:=h;rw[a4G h0 h1] at e;refine⟨tp,e,as.zip (ts.map tl),?_,⟨λx hx=>?_,?_⟩⟩
 ·have hl:=r.1;rw[aa] at hl;rw[e2];have:as.map V.ref=((as.zip (ts.map tl)).map (·.1)).map V.ref:=by rw[fU (by rw[aa];omega)]
  rw[this,bj];rfl
 ·obtain⟨j,hj⟩:=bG.mp hx;rw[di] at hj;obtain⟨g1,g2⟩:=hj;rw[aC] at g2;obtain⟨t,ht,g2⟩:=cn.mp g2;obtain⟨a,b,c,d⟩:=hr t (aB ht);rw[r.2 j x.1 (T2 t) g1 (by rw[aC,ht];rfl),a4z a b c d,<- g2];rfl
 ·have hl:=r.1;rw[aa] at hl;rw[fT (by rw[aa];omega)]
theorem a1j {c:Nat}{ws:List Str}(h:∀ w∈ws,c∉cs w/\cs w≠[]):K0 (Txt.join (sT [c]) ws) (sT [c])=ws:=by
 unfold K0;cases ws with
 | nil=>rw[if_pos (show Txt.join (sT [c]) []=Str.ofString "" from rfl)]
 | cons w ws =>
  have hs:=R6 (c:=c) (ys:=w::ws) (by simp) λw hw=>(h w hw).1
  by_cases e:Txt.join (sT [c]) (w::ws)=Str.ofString ""
  ·exfalso;have h2:=a0I (Txt.join (sT [c]) (w::ws)) c;rw[hs,e] at h2;have h3:(w::ws).map cs=[[]]:=h2;exact (h w aO).2 (dr h3).1
  ·rw[if_neg e,hs]
theorem a3G {ks:List Int}(hr:∀ x∈ks,0<=x/\x<60):(K0 (pT ks) (Str.ofString ",")).map (nOf 60)=ks.map V.int:=by
 unfold pT;rw[s44,a1j λw hw=>?_,bj]
 ·exact dw λx hx=>Z9 (by decide) (hr x hx).1 (hr x hx).2
 ·obtain⟨x,hx,rfl⟩:=aY.mp hw;have:=T8 (hr x hx).1 (by have:=hr x hx;omega);exact⟨this.2.2.1,this.2.2.2.2⟩
theorem a6F {ts:⋯}(hr:K2 60 ts):K0 (tT ts) (Str.ofString " ")=ts.map S6/\(ts.map S6).map a3e=ts.map (λt=>[V.int t.1,V.int t.2]):=by
 have key:∀ t∈ts,a3e (S6 t)=[V.int t.1,V.int t.2]/\32∉cs (S6 t)/\cs (S6 t)≠[]:=λt ht=>by
  obtain⟨h0,h1,h2⟩:=hr t ht;have a:=T8 h0 ∅;have b:=T8 (n:=t.2) ∅ ∅
  have e:S6 t=Txt.join (sT [45]) [tS t.1,tS t.2]:=X6 (by
   rw[Q9];unfold S6;rw[K6,K6,s45,a5K,aZ]
   rfl)
  refine⟨?_,?_,λh=>?_⟩
  ·unfold a3e;rw[e,s45,R6 (by simp) (S2 a.2.2.2.1 (S2 b.2.2.2.1 a4O)),ao,ao,Z9 (by decide) h0 ∅,Z9 (by decide) ∅ h2];rfl
  ·unfold S6;rw[K6,K6];exact N5 (N5 a.2.1 (by decide +kernel)) b.2.1
  ·unfold S6 at h;rw[K6,K6] at h;have:=hU.mp (hU.mp h).1;exact a.2.2.2.2 this.1
 refine⟨?_,by rw[bj];exact dw λt ht=>(key t ht).1⟩;unfold tT;rw[s32];refine a1j λw hw=>?_
 obtain⟨t,ht,rfl⟩:=aY.mp hw;exact (key t ht).2
def Tis (H:Hp)(a:Addr):Prop:=∃ us,U7 H a us/\K2 60 us/\us.Pairwise Lex/\us.length<=200
theorem Tis.same {H H':Hp}{a:Addr}(h:Tis H a)(s:B0 H H'):Tis H' a:=let ⟨us,e,r⟩:=h;⟨us,e.tp s.tp,r⟩
def a7Q (Hb:Hp)(d w:Addr)(i:Nat)(σ:St)(Hc:Hp):Prop:=∃(v2 v3 v4:Option V),σ=[some (.ref d),some (.ref w),v2,v3,v4]/\B0 Hb Hc
def a0L (K:ae):Sp:=λvs H Q _=>∃(d w:Addr) (n:Int) (ts:⋯),vs=[.ref d,.ref w]/\L9 H d/\Q6 H w n ts/\P2 n ts/\∀ H',Kp d H H'->L9 H' d->Q (.bl true) H'
theorem a0T:B7 ["_law_deck_here","_law_web_here","_law_places","_law_text","_law_ties"] ["_law_deck_here","_law_web_here"] (A7 (top 42)):=by walk_at "s"
theorem a4u (F:Fun K "_law_right" "_law_right" (top 42) f fd)(B:Bt mg){cNoText:Addr}(ZNoText:a6u K mg "NoText" cNoText)(D1:Df K mg "web_text" st1 f1 fd1 ["web"])(G1:B8 P w K mg base CX0 1 f1 fd1 ["web"] (a0K K))(D2:Df K mg "_law_written" st2 f2 fd2 ["_law_web_here"])(G2:B8 P w K mg base CX0 1 f2 fd2 ["_law_web_here"] (a0J K))(D3:Df K mg "read_web" st3 f3 fd3 ["thing"])(G3:B8 P w K mg base (CX1 P w) 6 f3 fd3 ["thing"] (a0M K cNoText))(D4:Df K mg "_law_some" st4 f4 fd4 ["_law_deck_here","_law_many"])(G4:B8 P w K mg base CX0 2 f4 fd4 ["_law_deck_here","_law_many"] (a1G K))(D5:Df K mg "places_text" st5 f5 fd5 ["places"])(G5:B8 P w K mg base CX0 1 f5 fd5 ["places"] (W3 K))(D6:Df K mg "read_places" st6 f6 fd6 ["thing"])(G6:B8 P w K mg base (CX1 P w) 4 f6 fd6 ["thing"] (a1I K cNoText))(D7:Df K mg "_law_tree" st7 f7 fd7 ["_law_deck_here","_law_web_here"])(G7:B8 P w K mg base CX0 2 f7 fd7 ["_law_deck_here","_law_web_here"] a4Z)(D8:Df K mg "_law_of_ties" st8 f8 fd8 ["_law_ties"])(G8:B8 P w K mg base CX0 1 f8 fd8 ["_law_ties"] (a0j K))(D9:Df K mg "tree_text" st9 f9 fd9 ["tree"])(G9:B8 P w K mg base CX0 1 f9 fd9 ["tree"] (a0g K))(D10:Df K mg "read_tree" st10 f10 fd10 ["thing"])(G10:B8 P w K mg base (CX1 P w) 5 f10 fd10 ["thing"] (a1H K cNoText))(C:Bt2 mg)(C4:Bt4 mg)(C5:Bt5 mg):B8 P w K mg base CX0 7 f fd ["_law_deck_here","_law_web_here"] (a0L K):=by
 refine F.ok a0T (λvs H Q E h=>?_) (λcdv A outer s H vs Q E hr h=>?_)
 ·walk_at "h"
 ·obtain⟨d,w,n,ts,rfl,hd,hw,hok,q⟩:=h;have nd:=a0T.nd;have hu:=E8 hr
  refine⟨_,(A3 (K3 (PW.pt (a1T (E5 a0q (B1 G1 D1 hr.m (A0 (pv 1) A1)) (B1 G2 D2 hr.m (A0 (pv 1) A1)) (E7 _)) (Z4 (E5 a0q (A9 (a1R K hr.gd hr.units) (by rfl) C4.repr gh (A0 (a2x G3 D3 hr.m (A0 (B1 G2 D2 hr.m (A0 (pv 1) A1)) A1)) A1)) (A9 (a1R K hr.gd hr.units) (by rfl) C4.repr gh (A0 (pv 1) A1)) (E7 _)))))
     (A4 (B4 M5))
     D0)
    (A3 (M4 bn rfl (J5 K (B1 G4 D4 hr.m (A0 (pv 0) (A0 (E4 (J0 K) (pv 1) A5 (λ_ _=>rfl)) A1)))) (A6 (i:=2) nd rfl (.inl rfl))
     (A3 (C1 (i:=3) nd rfl (.inl rfl) (a1h K J9 (A0 (K9 (own:=["_law_place"]) (fr:=[]) rfl (by walk_at "w") E2 (M7 K (pv 2)) ⟨λ_ _ _ _=>⟨(A6 (i:=0) (show bH (["_law_place"]:List Str) by decide +kernel) rfl (.inl rfl)),J8,(C2 J7 (by rfl) C5.str eu (A0 (pv 0) A1))⟩⟩) A1)))
     (A4 (K3 (PW.pt (a1T (E5 a0q (B1 G5 D5 hr.m (A0 (pv 2) A1)) (pv 3) (E7 _)) (Z4 (E5 a0q (A9 (a1R K hr.gd hr.units) (by rfl) C4.repr gh (A0 (a2x G6 D6 hr.m (A0 (pv 3) A1)) A1)) (A9 (a1R K hr.gd hr.units) (by rfl) C4.repr gh (A0 (pv 2) A1)) (E7 _)))))
      (A4 (B4 M5))
      D0))))
    (A3 (M4 bn rfl (J5 K (L1 (A0 (B1 G7 D7 hr.m (A0 (pv 0) (A0 (pv 1) A1))) (A0 (N1 A1) (A0 (a3F (b3k K) (E4 (J0 K) (pv 1) A5 (λ_ _=>rfl)) a5q (a5p A5)) (A0 (E4 (J0 K) (pv 1) A5 (λ_ _=>rfl)) A1)))))) (A6 (i:=4) nd rfl (.inl rfl))
     (A3 (C1 (i:=3) nd rfl (.inl rfl) (B1 G8 D8 hr.m (A0 (pv 4) A1)))
     (A4 (K3 (PW.pt (a1T (E5 a0q (B1 G9 D9 hr.m (A0 (pv 4) A1)) (pv 3) (E7 _)) (Z4 (E5 a0q (A9 (a1R K hr.gd hr.units) (by rfl) C4.repr gh (A0 (a2x G10 D10 hr.m (A0 (pv 3) A1)) A1)) (A9 (a1R K hr.gd hr.units) (by rfl) C4.repr gh (A0 (pv 4) A1)) (E7 _)))))
      (A4 (B4 M5))
      D0))))
    (A4 (B4 (U2 a1U (B1 G1 D1 hr.m (A0 (pv 1) A1)) (B1 G2 D2 hr.m (A0 (pv 1) A1)) (E7 _))))))),?_⟩
  simp only[L2.P1,st0,ao,cz,aH,bR,List.replicate,bT,cf,Nat.reduceAdd,Nat.reduceSub];have h3:=hok.n3;have h60:=hok.n60;have hl:=hok.len;have hr61:∀ t∈ts,0<=t.1/\t.1<61/\0<=t.2/\t.2<61:=λt ht=>by have:=hok.rng t ht;omega
  have nw:L4 50 1000000 (b0h n ts):=(L4.web hok.rng ∅ ∅ ∅).mono (by decide) (by decide);walk_at "rd";refine⟨w,n,ts,rfl,hw,hok,λH1 s1=>⟨w,n,ts,rfl,hw.tp s1.tp,hok,rfl,?_⟩⟩;rw[if_neg (by simp)];have wl:=a6x (us:=ts) (by omega:0<=n) h60 hok.rng;have hsp:=a6L (n:=n) (ts:=ts) ∅ ∅ hr61;refine⟨w,n,ts,rfl,hw.tp s1.tp,hok,.str (wT n ts),rfl,.inl ⟨wT n ts,rfl,∅,by rw[hsp];simp;omega,λh=>(by rw[a9x] at h;cases h),λh ls l e p H2 H3 s2 s3 hb=>?_⟩⟩;rw[hsp] at e;injection e with e1 e2
  obtain⟨e2,_⟩:=List.append_inj' e2 rfl;subst e1 e2;have hW:=b0i ∅ ∅ hr61 hb;refine⟨λ_=>?_,λhn=>absurd ⟨p,n,ts,rfl,hW,hok⟩ hn⟩;have s13:=(s1.trans s2).trans s3;refine⟨p,rfl,_,(hW.tp s3.tp).dt,nw.sh,nw.nd,nw.dp,nw.fits,_,(hw.tp s13.tp).dt,nw.sh,nw.nd,nw.dp,nw.fits,?_⟩;rw[if_neg (by simp)];have hw3:=hw.tp s13.tp;have d3:=hd.same s13;have k3:=s13.kp (d:=d);clear hb hW hsp s13 s1 s2 s3 hw hd;rw[X9];walk_at "rd";obtain⟨q0,hw0,_⟩:=id hw3;refine⟨_,SqT.of hw0,_,rfl,d,n,rfl,d3,h3,h60,λpl as H4 k4 d4 n4 e4 hP=>⟨pl,rfl,⟨_,SqL.of e4⟩,Y8 (K:=K) (xs:=as.map V.ref) (a7Q H4 d w) ⟨none,none,none,rfl,B0.refl _⟩ ?_ ?_ ?_⟩⟩
  ·rintro i σ Hc _ ⟨_,_,_,rfl,sc⟩;exact SqL.of (sc _ _ e4)
  ·rintro i v σ Hc hv ⟨v2,v3,v4,rfl,sc⟩;rw[aC] at hv;obtain⟨a,ha,rfl⟩:=cn.mp hv;obtain⟨ks,ea,kp,kr,kl⟩:=(hP a (aB ha)).same sc;have kr':∀ x∈ks,0<=x/\x<60:=λx hx=>by have:=kr x hx;omega
   walk_at "rd";refine⟨by first | exact rfl | exact trivial | constructor,⟨_,SqT.of ea⟩,λl nl=>a5B (K:=K) (xs:=ks) V.int (λ_=>true) (λx=>V.str (tS x)) ∅ (SqT.of ea) nl ?_ ?_⟩
   ·intro x hx v ys R hy hR1 hR2;walk_at "rd";exact⟨T0 (kr' x hx).1 (by have:=kr' x hx;omega),a3c hy ∅ hR1⟩
   ·rw[a3Y];have s6:=(B0.refl Hc).upd (o:=.lst (ks.map λx=>V.str (tS x))) nl;have e6:upd Hc l (.lst (ks.map λx=>V.str (tS x))) l=_:=A2;generalize upd Hc l (.lst (ks.map λx=>V.str (tS x)))=H6 at *
    have gs:=Gt.sum (a4H kr');rw[aa] at gs;have gl:(Txt.join (Str.ofString ",") (ks.map tS)).length<=90000:=by
     rw[s44];exact ba (Gt.join (n:=60) (.inl rfl) (by rw[aa];exact kl) (a4H kr')).len (by decide)
    refine⟨_,rfl,ks.map tS,SqL.of (by rw[e6,bj];rfl),by rw[show (Str.ofString ",").length=1 by decide +kernel,aa];omega,a,ks,rfl,s6 _ _ ea,kr',∅,λH7 s7=>⟨rfl,?_⟩⟩;rw[if_neg (by rw[show pT ks=Txt.join (Str.ofString ",") (ks.map tS) from rfl];simp)];have nk:L4 50 1000000 (tI ks):=(L4.tI (k:=0) (m:=60) (λx hx=>by have:=kr' x hx;omega) kl).mono (by decide) (by decide);refine⟨_,rfl,.inl ⟨_,rfl,gl,λH8 s8 hn=>absurd kp (hn ks (a3G kr')),λp8 H8 ks8 s8 n8 e8 h8 _=>?_⟩⟩;have:=a1l ((a3G kr').symm.trans h8);subst this;have s68:=(s6.trans s7).trans s8;refine⟨p8,rfl,_,.tupI (SqT.of e8),nk.sh,nk.nd,nk.dp,nk.fits,_,.tupI (SqT.of (s68 _ _ ea)),nk.sh,nk.nd,nk.dp,nk.fits,?_⟩;rw[if_neg (by simp)];exact⟨_,_,_,rfl,sc.trans s68⟩
  ·rintro σ H5 ⟨v2,v3,v4,rfl,s5⟩;have k5:=(k3.trans k4).trans s5.kp;have d5:=d4.same s5;have hw5:=hw3.tp ((k4.tp d3).trans s5.tp);clear hP e4 hw3 hw0 s5 k4 k3 d3 d4;obtain⟨q1,hw1,ht1⟩:=id hw5;walk_at "rd";rw[X9];walk_at "rd";refine⟨d,w,n,ts,rfl,d5,hw5,hok,λpt us H6 k6 d6 n6 htr hT=>?_⟩;have hw6:=hw5.tp (k6.tp d5);have k56:=k5.trans k6;clear hw1 ht1 k6 k5 d5 hw5 q1;obtain⟨q1,hw1,ps1,e1,hps1⟩:=id hw6;refine⟨by decide,λp0 n0=>B2 n0 λH7 s7 e7=>⟨_,SqT.of (s7 _ _ hw1),_,rfl,a8D (s7 _ _ e1) λp8 H8 s8 e8=>⟨_,SqT.of (s8 _ _ (s7 _ _ hw1)),_,rfl,by decide,λpl nl=>B2 nl λH9 s9 e9=>?_⟩⟩⟩;have s69:=(s7.trans s8).trans s9;have ok60:K2 60 ts:=λt ht=>by have:=hok.rng t ht;omega
   have ec:V3 (ps1.map λx=>V.ref x.1) none (some 1)=(ps1.take 1).map λx=>V.ref x.1:=by
    clear e1 hps1 e8;cases ps1 with
    | nil=>rfl
    | cons x r =>
     have hm:min 1 (r.length+1)=1:=∅
     simp[V3,HT.sIx,hm]
   rw[ec] at e8;have hT4:∀ v∈[V.ref pt,V.ref p0,V.ref p8,V.ref q1],∃ a,v=.ref a/\Tis H9 a:=λv hv=>by
    simp only[aW,cH,or_false] at hv;rcases hv with rfl | rfl | rfl | rfl
    ·exact⟨_,rfl,us,htr.tp s69.tp,λt ht=>ok60 t (hT.sub t ht),hT.srt,by have:=hT.len;omega⟩
    ·exact⟨_,rfl,[],⟨[],(s8.trans s9) _ _ e7,⟨λx hx=>(by cases hx),rfl⟩⟩,λt ht=>(by cases ht),.nil,by decide⟩
    ·refine⟨_,rfl,ts.take 1,⟨ps1.take 1,s9 _ _ e8,⟨λx hx=>s69 _ _ (hps1.to x (cZ hx)),by rw[gR,hps1.eq,gR]⟩⟩,λt ht=>ok60 t (cZ ht),hok.srt.sublist (fL _ _),by rw[aN];omega⟩
    ·exact⟨_,rfl,ts,⟨ps1,s69 _ _ e1,hps1.tp s69.tp⟩,ok60,hok.srt,hl⟩
   have hw9:=hw6.tp s69.tp;have k9:=k56.trans s69.kp;have d9:=d6.same s69;clear e1 e7 e8 hw1 hps1 s69 s7 s8 s9 htr hT hw6 k56 d6 ec;refine⟨⟨_,SqL.of e9⟩,Y8 (K:=K) (xs:=[V.ref pt,V.ref p0,V.ref p8,V.ref q1]) (a7Q H9 d w) ⟨_,_,_,rfl,B0.refl _⟩ ?_ ?_ ?_⟩
   ·rintro i σ Hc _ ⟨_,_,_,rfl,sc⟩;exact SqL.of (sc _ _ e9)
   ·rintro i v σ Hc hv ⟨v2',v3',v4',rfl,sc⟩;obtain⟨a,rfl,hA⟩:=hT4 v (aB hv);obtain⟨us,hu,hou,hpu,hlu⟩:=hA.same sc;walk_at "rd";refine⟨a,us,rfl,hu,hou,∅,λHA sA=>⟨a,us,rfl,hu.tp sA.tp,hou,∅,λHB sB=>⟨rfl,?_⟩⟩⟩;rw[if_neg (by simp)];obtain⟨i1,i2⟩:=a6F hou;have gl:(tT us).length<=90000:=by
     unfold tT;rw[s32];refine ba (Gt.join (n:=300) (m:=5) (k:=0) (.inr rfl) (by rw[aa];omega) λw hw=>?_).len (by decide);obtain⟨x,hx,rfl⟩:=aY.mp hw;exact a2L (hou x hx)
    have nt:L4 50 1000000 (.tuple ((us.map tl).map tI)):=(L4.ties hou (by decide) ∅).mono (by decide) (by decide);refine⟨_,rfl,.inl ⟨_,rfl,gl,λpr HC as sC nC eC rC=>?_⟩⟩;rw[i1] at rC;have hTs:=b0F eC rC i2;refine⟨λ_=>?_,λhn=>absurd ⟨us,pr,rfl,hTs,hou,hpu⟩ hn⟩;have sAC:=(sA.trans sB).trans sC;refine⟨pr,rfl,_,hTs.dt,nt.sh,nt.nd,nt.dp,nt.fits,_,(hu.tp sAC.tp).dt,nt.sh,nt.nd,nt.dp,nt.fits,?_⟩;rw[if_neg (by simp)];exact⟨_,_,_,rfl,sc.trans sAC⟩
   ·rintro σ Hc ⟨v2',v3',v4',rfl,sc⟩;walk_at "rd";refine⟨w,n,ts,rfl,hw9.tp sc.tp,hok,λHA sA=>⟨w,n,ts,rfl,(hw9.tp sc.tp).tp sA.tp,hok,rfl,?_⟩⟩;rw[decide_eq_true rfl];exact q HA (k9.trans (sc.trans sA).kp) (d9.same (sc.trans sA))
def a9t (Hb:Hp)(a d:Addr)(i:Nat)(σ:St)(Hc:Hp):Prop:=∃(v2 v3:Option V),σ=[some (.ref a),some (.ref d),v2,v3]/\Kp d Hb Hc/\L9 Hc d
theorem a3y:B7 ["_law_script","_law_deck_here","_law_least","_law_most"] ["_law_script"] (A7 (top 43)):=by walk_at "s"
theorem a7v (F:Fun K "law" "law" (top 43) f fd)(B:Bt mg)(D1:Df K mg "_law_deck" st1 f1 fd1 ["_law_script","_law_many"])(G1:B8 P w K mg base CX0 2 f1 fd1 ["_law_script","_law_many"] (a5e K))(D2:Df K mg "_law_web" st2 f2 fd2 ["_law_deck_here","_law_least","_law_most"])(G2:B8 P w K mg base CX0 3 f2 fd2 ["_law_deck_here","_law_least","_law_most"] a6M)(D3:Df K mg "_law_right" st3 f3 fd3 ["_law_deck_here","_law_web_here"])(G3:B8 P w K mg base CX0 7 f3 fd3 ["_law_deck_here","_law_web_here"] (a0L K)):B8 P w K mg base CX0 8 f fd ["_law_script"] (sp_law K):=by
 refine F.ok a3y (λvs H Q E h=>?_) (λcdv A outer s H vs Q E hr h=>?_)
 ·walk_at "h"
 ·obtain⟨a,ns,rfl,hS,hl,q⟩:=h;have nd:=a3y.nd;have hu:=E8 hr
  refine⟨_,(A3 (C1 (i:=1) nd rfl (.inl rfl) (B1 G1 D1 hr.m (A0 (pv 0) (A0 A5 A1))))
    (A3 (M4 bn rfl (J5 K (L1 (A0 (N1 (A0 A5 (A0 A5 A1))) (A0 (N1 (A0 A5 (A0 A5 A1))) (A0 (N1 (A0 A5 (A0 A5 A1))) A1))))) (M0 K (n:=2) rfl (B9 (A6 (i:=2) nd rfl (.inl rfl)) (B9 (A6 (i:=3) nd rfl (.inl rfl)) K5)))
     (A4 (K3 (N0 (P5 (B1 G3 D3 hr.m (A0 (pv 1) (A0 (B1 G2 D2 hr.m (A0 (pv 1) (A0 (pv 2) (A0 (pv 3) A1)))) A1)))))
      (A4 (B4 M5))
      D0)))
    (A4 (B4 M5)))),?_⟩
  simp only[L2.P1,st0,ao,cz,aH,bR,List.replicate,bT,cf,Nat.reduceAdd,Nat.reduceSub];walk_at "rd";refine⟨a,900,ns,rfl,hS,hl,by decide,by decide,λd ds H1 hdl s1 nd1 hd1=>?_⟩;have dk1:L9 H1 d:=⟨ds,hd1,hdl⟩
  clear hS hl hd1 hdl s1 nd1;dsimp only;rw[X9];walk_at "rd";refine⟨by decide,λp1 n1=>B2 n1 λH2 s2 e2=>⟨by decide,λp2 n2=>B2 n2 λH3 s3 e3=>⟨by decide,λp3 n3=>B2 n3 λH4 s4 e4=>⟨by decide,λpl nl=>B2 nl λH5 s5 e5=>?_⟩⟩⟩⟩;have d5:=(((dk1.same s2).same s3).same s4).same s5;have hL:∀ v∈[V.ref p1,V.ref p2,V.ref p3],∃(b:Addr) (lo hi:Int),v=.ref b/\H5 b=some (.tup [.int lo,.int hi])/\3<=lo/\lo<=hi/\hi<=60:=λv hv=>by
   simp only[aW,cH,or_false] at hv;rcases hv with rfl | rfl | rfl
   ·exact⟨_,3,7,rfl,((s3.trans s4).trans s5) _ _ e2,by decide,by decide,by decide⟩
   ·exact⟨_,3,20,rfl,(s4.trans s5) _ _ e3,by decide,by decide,by decide⟩
   ·exact⟨_,21,60,rfl,s5 _ _ e4,by decide,by decide,by decide⟩
  have pld:pl≠d:=(((dk1.same s2).same s3).same s4).ne nl;have tup_d:∀ {b:Addr} {xs:List V},H5 b=some (.tup xs)->b≠d:=λe h=>by
   obtain⟨ds',e',_⟩:=d5;rw[h,e'] at e;cases e
  clear e2 e3 e4 s2 s3 s4 s5 dk1 n1 n2 n3 nl;refine⟨⟨_,SqL.of e5⟩,Y8 (K:=K) (xs:=[V.ref p1,V.ref p2,V.ref p3]) (a9t H5 a d) ⟨_,_,rfl,Kp.refl _ _,d5⟩ ?_ ?_ ?_⟩
  ·rintro i σ Hc _ ⟨_,_,rfl,kc,dc⟩;exact SqL.of (kc _ _ pld e5)
  ·rintro i v σ Hc hv ⟨v2,v3,rfl,kc,dc⟩;obtain⟨b,lo,hi,rfl,eb,h1,h2,h3⟩:=hL v (aB hv);walk_at "rd";refine⟨_,SqT.of (kc _ _ (tup_d eb) eb),rfl,_,_,rfl,_,_,rfl,rfl,d,lo,hi,rfl,dc,h1,h2,h3,λw n ts H6 k6 d6 _ _ hok hw=>⟨d,w,n,ts,rfl,d6,hw,hok,λH7 k7 d7=>⟨true,rfl,?_⟩⟩⟩;rw[if_neg (by decide)];exact⟨_,_,rfl,(kc.trans k6).trans k7,d7⟩
  ·rintro σ Hc ⟨_,_,rfl,kc,dc⟩;walk_at "rd";exact q Hc
end
end K82
end
section
namespace K82
open PySem L2
def vs (s:String)(t:Tok):Value:=.str (Str.ofString s) t
def vi (i:Int)(t:Tok):Value:=.int i t
def vr (a:Addr):Value:=.ref a
def vn:Value:=.none
def fcp:Tok->Value:=vs "/claim/cut.py"
def de (P:Params)(s:String)(t:Tok)(v:Value):DictEntry:=⟨PyData.keyHash P (Str.ofString s),.str (Str.ofString s) t,v⟩
def ot (a:Array Value)(l:Array (Option Value)):Obj:=⟨.type "tuple",none,.seq a,l⟩
def oc (a:Array Value)(l:Array (Option Value)):Obj:=⟨.type "code",none,.fields a,l⟩
def fo (n:String)(i:Nat)(g:Addr)(cl:List (Str×Addr))(a b c d:Value)(e:Option Addr)(f h:Value)(k:Addr):Obj:=⟨.type "function",none,.func ⟨Str.ofString n,Str.ofString n,U5 (top i),.stmts (R0 (top i)),A7 (top i),g,cl,a,b,c,d,e,f,h,k⟩,#[]⟩
def heapK:Params->ae:=λP=>(nat_lit 2,Obj.mk vn none (gk #[]) #[])::(nat_lit 3,Obj.mk (bz "dict") none (gk #[de P "__name__" 165 (vs "law_manyleaves_k82_texts" 404),de P "__doc__" 166 vn,de P "__package__" 167 vn,de P "__loader__" 168 (fF "__main__.__loader__#opaque"),de P "__spec__" 169 vn,de P "__annotations__" 170 (vr 6),de P "__builtins__" 171 (vr 4),de P "__file__" 173 (fcp 172),de P "__cached__" 174 vn,de P "LeafError" 206 (vr 24),de P "NoText" 222 (vr 37),de P "is_int" 231 (vr 46),de P "is_between" 240 (vr 53),de P "LEAST_PLACES" 244 (vi 3 243),de P "MOST_PLACES" 246 (vi 60 245),de P "MOST_TIES" 248 (vi 200 247),de P "is_pair" 255 (vr 60),de P "is_tie" 265 (vr 67),de P "is_rising" 273 (vr 74),de P "is_tie_row" 282 (vr 81),de P "is_web" 291 (vr 88),de P "neighbour_rows" 297 (vr 93),de P "piece_from" 310 (vr 100),de P "pieces" 316 (vr 105),de P "in_one_piece" 323 (vr 112),de P "web_text" 331 (vr 117),de P "places_text" 337 (vr 122),de P "tree_text" 343 (vr 127),de P "numbers_below" 349 (vr 132),de P "numbers_in" 355 (vr 137),de P "items_in" 363 (vr 144),de P "places_in" 372 (vr 151),de P "read_places" 380 (vr 158),de P "read_tree" 386 (vr 163),de P "numbers_behind" 397 (vr 170),de P "read_web" 403 (vr 175),de P "_law_mixed" 414 (vr 182),de P "_law_deck" 420 (vr 187),de P "_law_next" 427 (vr 194),de P "_law_turn" 433 (vr 199),de P "_law_web" 439 (vr 204),de P "_law_near" 445 (vr 209),de P "_law_tree" 451 (vr 214),de P "_law_written" 461 (vr 221),de P "_law_of_ties" 471 (vr 228),de P "_law_some" 477 (vr 233),de P "_law_right" 483 (vr 238),de P "law" 493 (vr 245)] 48) #[])::(nat_lit 15,ot (#[bz "ValueError"]) #[])::(nat_lit 22,ot (#[]) #[])::(nat_lit 23,Obj.mk (bz "dict") none (gk #[de P "__module__" 196 (vs "manyleaves.errors" 187),de P "__firstlineno__" 200 (vi 2 199),de P "__static_attributes__" 201 (vr 22),de P "__weakref__" 203 (vr 25),de P "__doc__" 204 vn] 3) #[])::(nat_lit 24,Obj.mk (bz "type") none (Data.cls (ClassData.mk (Str.ofString "LeafError") [bz "ValueError"] [vr 24,bz "ValueError",bz "Exception",bz "BaseException",bz "object"] 23 (Str.ofString "LeafError") true [] [vr 37] false none false)) #[some (vr 15),none,some (vs "LeafError" 189),some (vs "LeafError" 197),some (fF "ValueError.__new__"),some (aU true)])::(nat_lit 25,Obj.mk (bz "getset_descriptor") none (Data.fields #[vs "__weakref__" 202,vr 24,fF "ExceptionGroup.__weakref__",vn]) #[])::(nat_lit 28,ot (#[vr 24]) #[])::(nat_lit 35,ot (#[]) #[])::(nat_lit 36,Obj.mk (bz "dict") none (gk #[de P "__module__" 214 (vs "manyleaves.errors" 187),de P "__firstlineno__" 218 (vi 4 217),de P "__static_attributes__" 219 (vr 35),de P "__doc__" 220 vn] 2) #[])::(nat_lit 37,Obj.mk (bz "type") none (Data.cls (ClassData.mk (Str.ofString "NoText") [vr 24] [vr 37,vr 24,bz "ValueError",bz "Exception",bz "BaseException",bz "object"] 36 (Str.ofString "NoText") true [] [] false none false)) #[some (vr 28),none,some (vs "NoText" 207),some (vs "NoText" 215),some (fF "ValueError.__new__"),some (aU true)])::(nat_lit 40,ot (#[]) #[])::(nat_lit 42,ot (#[vs "thing" 228]) #[])::(nat_lit 43,ot (#[]) #[])::(nat_lit 45,oc (#[vs "is_int" 225,vs "is_int" 226,fcp 227,vi 7 0,vi 1 0,vi 0 0,vi 0 0,vi 3 0,vr 40,aU true,vi 181 0,vr 41,vn,vr 42,vr 43,vr 44,vi 229 0,vi 7 0,fcp 230]) #[])::(nat_lit 46,fo "is_int" 4 3 [] vn vn vn (vs "manyleaves.ints" 223) none (vr 45) vn 0)::(nat_lit 47,ot (#[]) #[])::(nat_lit 49,ot (#[vs "thing" 235,vs "least" 236,vs "most" 237]) #[])::(nat_lit 50,ot (#[]) #[])::(nat_lit 52,oc (#[vs "is_between" 232,vs "is_between" 233,fcp 234,vi 9 0,vi 3 0,vi 0 0,vi 0 0,vi 3 0,vr 47,aU true,vi 181 0,vr 48,vn,vr 49,vr 50,vr 51,vi 238 0,vi 9 0,fcp 239]) #[])::(nat_lit 53,fo "is_between" 5 3 [] vn vn vn (vs "manyleaves.ints" 223) none (vr 52) vn 0)::(nat_lit 54,ot (#[]) #[])::(nat_lit 56,ot (#[vs "thing" 252]) #[])::(nat_lit 57,ot (#[]) #[])::(nat_lit 59,oc (#[vs "is_pair" 249,vs "is_pair" 250,fcp 251,vi 15 0,vi 1 0,vi 0 0,vi 0 0,vi 3 0,vr 54,aU true,vi 181 0,vr 55,vn,vr 56,vr 57,vr 58,vi 253 0,vi 15 0,fcp 254]) #[])::(nat_lit 60,fo "is_pair" 10 3 [] vn vn vn (vs "manyleaves.webs" 241) none (vr 59) vn 0)::(nat_lit 61,ot (#[]) #[])::(nat_lit 63,ot (#[vs "thing" 259,vs "places" 260,vs "a" 261,vs "b" 262]) #[])::(nat_lit 64,ot (#[]) #[])::(nat_lit 66,oc (#[vs "is_tie" 256,vs "is_tie" 257,fcp 258,vi 17 0,vi 2 0,vi 0 0,vi 0 0,vi 3 0,vr 61,aU true,vi 181 0,vr 62,vn,vr 63,vr 64,vr 65,vi 263 0,vi 17 0,fcp 264]) #[])::(nat_lit 67,fo "is_tie" 11 3 [] vn vn vn (vs "manyleaves.webs" 241) none (vr 66) vn 0)::(nat_lit 68,ot (#[]) #[])::(nat_lit 70,ot (#[vs "items" 269,vs "at" 270]) #[])::(nat_lit 71,ot (#[]) #[])::(nat_lit 73,oc (#[vs "is_rising" 266,vs "is_rising" 267,fcp 268,vi 22 0,vi 1 0,vi 0 0,vi 0 0,vi 3 0,vr 68,aU true,vi 181 0,vr 69,vn,vr 70,vr 71,vr 72,vi 271 0,vi 22 0,fcp 272]) #[])::(nat_lit 74,fo "is_rising" 12 3 [] vn vn vn (vs "manyleaves.webs" 241) none (vr 73) vn 0)::(nat_lit 75,ot (#[]) #[])::(nat_lit 77,ot (#[vs "thing" 277,vs "places" 278,vs "item" 279]) #[])::(nat_lit 78,ot (#[]) #[])::(nat_lit 80,oc (#[vs "is_tie_row" 274,vs "is_tie_row" 275,fcp 276,vi 27 0,vi 2 0,vi 0 0,vi 0 0,vi 3 0,vr 75,aU true,vi 181 0,vr 76,vn,vr 77,vr 78,vr 79,vi 280 0,vi 27 0,fcp 281]) #[])::(nat_lit 81,fo "is_tie_row" 13 3 [] vn vn vn (vs "manyleaves.webs" 241) none (vr 80) vn 0)::(nat_lit 82,ot (#[]) #[])::(nat_lit 84,ot (#[vs "thing" 286,vs "places" 287,vs "ties" 288]) #[])::(nat_lit 85,ot (#[]) #[])::(nat_lit 87,oc (#[vs "is_web" 283,vs "is_web" 284,fcp 285,vi 34 0,vi 1 0,vi 0 0,vi 0 0,vi 3 0,vr 82,aU true,vi 181 0,vr 83,vn,vr 84,vr 85,vr 86,vi 289 0,vi 34 0,fcp 290]) #[])::(nat_lit 88,fo "is_web" 14 3 [] vn vn vn (vs "manyleaves.webs" 241) none (vr 87) vn 0)::(nat_lit 89,ot (#[]) #[])::(nat_lit 92,oc (#[vs "neighbour_rows" 292,vs "neighbour_rows" 293,fcp 294,vi 43 0,vi 1 0,vi 0 0,vi 0 0,vi 3 0,vr 89,aU true,vi 181 0,vr 90,vn,vn,vn,vr 91,vi 295 0,vi 43 0,fcp 296]) #[])::(nat_lit 93,fo "neighbour_rows" 15 3 [] vn vn vn (vs "manyleaves.webs" 241) none (vr 92) vn 0)::(nat_lit 94,ot (#[]) #[])::(nat_lit 96,ot (#[vs "rows" 301,vs "among" 302,vs "start" 303,vs "met" 304,vs "waiting" 305,vs "place" 306,vs "other" 307]) #[])::(nat_lit 97,ot (#[]) #[])::(nat_lit 99,oc (#[vs "piece_from" 298,vs "piece_from" 299,fcp 300,vi 50 0,vi 3 0,vi 0 0,vi 0 0,vi 3 0,vr 94,aU true,vi 181 0,vr 95,vn,vr 96,vr 97,vr 98,vi 308 0,vi 50 0,fcp 309]) #[])::(nat_lit 100,fo "piece_from" 16 3 [] vn vn vn (vs "manyleaves.webs" 241) none (vr 99) vn 0)::(nat_lit 101,ot (#[]) #[])::(nat_lit 104,oc (#[vs "pieces" 311,vs "pieces" 312,fcp 313,vi 60 0,vi 2 0,vi 0 0,vi 0 0,vi 3 0,vr 101,aU true,vi 181 0,vr 102,vn,vn,vn,vr 103,vi 314 0,vi 60 0,fcp 315]) #[])::(nat_lit 105,fo "pieces" 17 3 [] vn vn vn (vs "manyleaves.webs" 241) none (vr 104) vn 0)::(nat_lit 106,ot (#[]) #[])::(nat_lit 108,ot (#[vs "web" 320]) #[])::(nat_lit 109,ot (#[]) #[])::(nat_lit 111,oc (#[vs "in_one_piece" 317,vs "in_one_piece" 318,fcp 319,vi 71 0,vi 1 0,vi 0 0,vi 0 0,vi 3 0,vr 106,aU true,vi 181 0,vr 107,vn,vr 108,vr 109,vr 110,vi 321 0,vi 71 0,fcp 322]) #[])::(nat_lit 112,fo "in_one_piece" 18 3 [] vn vn vn (vs "manyleaves.webs" 241) none (vr 111) vn 0)::(nat_lit 113,ot (#[]) #[])::(nat_lit 116,oc (#[vs "web_text" 326,vs "web_text" 327,fcp 328,vi 74 0,vi 1 0,vi 0 0,vi 0 0,vi 3 0,vr 113,aU true,vi 181 0,vr 114,vn,vn,vn,vr 115,vi 329 0,vi 74 0,fcp 330]) #[])::(nat_lit 117,fo "web_text" 20 3 [] vn vn vn (vs "manyleaves.texts" 324) none (vr 116) vn 0)::(nat_lit 118,ot (#[]) #[])::(nat_lit 121,oc (#[vs "places_text" 332,vs "places_text" 333,fcp 334,vi 77 0,vi 1 0,vi 0 0,vi 0 0,vi 3 0,vr 118,aU true,vi 181 0,vr 119,vn,vn,vn,vr 120,vi 335 0,vi 77 0,fcp 336]) #[])::(nat_lit 122,fo "places_text" 21 3 [] vn vn vn (vs "manyleaves.texts" 324) none (vr 121) vn 0)::(nat_lit 123,ot (#[]) #[])::(nat_lit 126,oc (#[vs "tree_text" 338,vs "tree_text" 339,fcp 340,vi 79 0,vi 1 0,vi 0 0,vi 0 0,vi 3 0,vr 123,aU true,vi 181 0,vr 124,vn,vn,vn,vr 125,vi 341 0,vi 79 0,fcp 342]) #[])::(nat_lit 127,fo "tree_text" 22 3 [] vn vn vn (vs "manyleaves.texts" 324) none (vr 126) vn 0)::(nat_lit 128,ot (#[]) #[])::(nat_lit 131,oc (#[vs "numbers_below" 344,vs "numbers_below" 345,fcp 346,vi 81 0,vi 1 0,vi 0 0,vi 0 0,vi 3 0,vr 128,aU true,vi 181 0,vr 129,vn,vn,vn,vr 130,vi 347 0,vi 81 0,fcp 348]) #[])::(nat_lit 132,fo "numbers_below" 23 3 [] vn vn vn (vs "manyleaves.texts" 324) none (vr 131) vn 0)::(nat_lit 133,ot (#[]) #[])::(nat_lit 136,oc (#[vs "numbers_in" 350,vs "numbers_in" 351,fcp 352,vi 83 0,vi 2 0,vi 0 0,vi 0 0,vi 3 0,vr 133,aU true,vi 181 0,vr 134,vn,vn,vn,vr 135,vi 353 0,vi 83 0,fcp 354]) #[])::(nat_lit 137,fo "numbers_in" 24 3 [] vn vn vn (vs "manyleaves.texts" 324) none (vr 136) vn 0)::(nat_lit 138,ot (#[]) #[])::(nat_lit 140,ot (#[vs "text" 359,vs "mark" 360]) #[])::(nat_lit 141,ot (#[]) #[])::(nat_lit 143,oc (#[vs "items_in" 356,vs "items_in" 357,fcp 358,vi 85 0,vi 2 0,vi 0 0,vi 0 0,vi 3 0,vr 138,aU true,vi 181 0,vr 139,vn,vr 140,vr 141,vr 142,vi 361 0,vi 85 0,fcp 362]) #[])::(nat_lit 144,fo "items_in" 25 3 [] vn vn vn (vs "manyleaves.texts" 324) none (vr 143) vn 0)::(nat_lit 145,ot (#[]) #[])::(nat_lit 147,ot (#[vs "text" 367,vs "many" 368,vs "places" 369]) #[])::(nat_lit 148,ot (#[]) #[])::(nat_lit 150,oc (#[vs "places_in" 364,vs "places_in" 365,fcp 366,vi 89 0,vi 2 0,vi 0 0,vi 0 0,vi 3 0,vr 145,aU true,vi 181 0,vr 146,vn,vr 147,vr 148,vr 149,vi 370 0,vi 89 0,fcp 371]) #[])::(nat_lit 151,fo "places_in" 26 3 [] vn vn vn (vs "manyleaves.texts" 324) none (vr 150) vn 0)::(nat_lit 152,ot (#[]) #[])::(nat_lit 154,ot (#[vs "thing" 376,vs "places" 377]) #[])::(nat_lit 155,ot (#[]) #[])::(nat_lit 157,oc (#[vs "read_places" 373,vs "read_places" 374,fcp 375,vi 94 0,vi 1 0,vi 0 0,vi 0 0,vi 3 0,vr 152,aU true,vi 181 0,vr 153,vn,vr 154,vr 155,vr 156,vi 378 0,vi 94 0,fcp 379]) #[])::(nat_lit 158,fo "read_places" 27 3 [] vn vn vn (vs "manyleaves.texts" 324) none (vr 157) vn 0)::(nat_lit 159,ot (#[]) #[])::(nat_lit 162,oc (#[vs "read_tree" 381,vs "read_tree" 382,fcp 383,vi 99 0,vi 1 0,vi 0 0,vi 0 0,vi 3 0,vr 159,aU true,vi 181 0,vr 160,vn,vn,vn,vr 161,vi 384 0,vi 99 0,fcp 385]) #[])::(nat_lit 163,fo "read_tree" 28 3 [] vn vn vn (vs "manyleaves.texts" 324) none (vr 162) vn 0)::(nat_lit 164,ot (#[]) #[])::(nat_lit 166,ot (#[vs "word" 390,vs "line" 391,vs "numbers" 392,vs "first" 393,vs "rest" 394]) #[])::(nat_lit 167,ot (#[]) #[])::(nat_lit 169,oc (#[vs "numbers_behind" 387,vs "numbers_behind" 388,fcp 389,vi 107 0,vi 3 0,vi 0 0,vi 0 0,vi 3 0,vr 164,aU true,vi 181 0,vr 165,vn,vr 166,vr 167,vr 168,vi 395 0,vi 107 0,fcp 396]) #[])::(nat_lit 170,fo "numbers_behind" 29 3 [] vn vn vn (vs "manyleaves.texts" 324) none (vr 169) vn 0)::(nat_lit 171,ot (#[]) #[])::(nat_lit 174,oc (#[vs "read_web" 398,vs "read_web" 399,fcp 400,vi 112 0,vi 1 0,vi 0 0,vi 0 0,vi 3 0,vr 171,aU true,vi 181 0,vr 172,vn,vn,vn,vr 173,vi 401 0,vi 112 0,fcp 402]) #[])::(nat_lit 175,fo "read_web" 30 3 [] vn vn vn (vs "manyleaves.texts" 324) none (vr 174) vn 0)::(nat_lit 176,ot (#[]) #[])::(nat_lit 178,ot (#[vs "_law_cell" 409,vs "_law_k" 410,vs "_law_number" 411]) #[])::(nat_lit 179,ot (#[]) #[])::(nat_lit 181,oc (#[vs "_law_mixed" 406,vs "_law_mixed" 407,fcp 408,vi 123 0,vi 2 0,vi 0 0,vi 0 0,vi 3 0,vr 176,aU true,vi 181 0,vr 177,vn,vr 178,vr 179,vr 180,vi 412 0,vi 123 0,fcp 413]) #[])::(nat_lit 182,fo "_law_mixed" 32 3 [] vn vn vn (vs "law_manyleaves_k82_texts" 404) none (vr 181) vn 0)::(nat_lit 183,ot (#[]) #[])::(nat_lit 186,oc (#[vs "_law_deck" 415,vs "_law_deck" 416,fcp 417,vi 128 0,vi 2 0,vi 0 0,vi 0 0,vi 3 0,vr 183,aU true,vi 181 0,vr 184,vn,vn,vn,vr 185,vi 418 0,vi 128 0,fcp 419]) #[])::(nat_lit 187,fo "_law_deck" 33 3 [] vn vn vn (vs "law_manyleaves_k82_texts" 404) none (vr 186) vn 0)::(nat_lit 188,ot (#[]) #[])::(nat_lit 190,ot (#[vs "_law_deck_here" 424]) #[])::(nat_lit 191,ot (#[]) #[])::(nat_lit 193,oc (#[vs "_law_next" 421,vs "_law_next" 422,fcp 423,vi 140 0,vi 1 0,vi 0 0,vi 0 0,vi 3 0,vr 188,aU true,vi 181 0,vr 189,vn,vr 190,vr 191,vr 192,vi 425 0,vi 140 0,fcp 426]) #[])::(nat_lit 194,fo "_law_next" 34 3 [] vn vn vn (vs "law_manyleaves_k82_texts" 404) none (vr 193) vn 0)::(nat_lit 195,ot (#[]) #[])::(nat_lit 198,oc (#[vs "_law_turn" 428,vs "_law_turn" 429,fcp 430,vi 144 0,vi 2 0,vi 0 0,vi 0 0,vi 3 0,vr 195,aU true,vi 181 0,vr 196,vn,vn,vn,vr 197,vi 431 0,vi 144 0,fcp 432]) #[])::(nat_lit 199,fo "_law_turn" 35 3 [] vn vn vn (vs "law_manyleaves_k82_texts" 404) none (vr 198) vn 0)::(nat_lit 200,ot (#[]) #[])::(nat_lit 203,oc (#[vs "_law_web" 434,vs "_law_web" 435,fcp 436,vi 146 0,vi 3 0,vi 0 0,vi 0 0,vi 3 0,vr 200,aU true,vi 181 0,vr 201,vn,vn,vn,vr 202,vi 437 0,vi 146 0,fcp 438]) #[])::(nat_lit 204,fo "_law_web" 36 3 [] vn vn vn (vs "law_manyleaves_k82_texts" 404) none (vr 203) vn 0)::(nat_lit 205,ot (#[]) #[])::(nat_lit 208,oc (#[vs "_law_near" 440,vs "_law_near" 441,fcp 442,vi 165 0,vi 1 0,vi 0 0,vi 0 0,vi 3 0,vr 205,aU true,vi 181 0,vr 206,vn,vn,vn,vr 207,vi 443 0,vi 165 0,fcp 444]) #[])::(nat_lit 209,fo "_law_near" 37 3 [] vn vn vn (vs "law_manyleaves_k82_texts" 404) none (vr 208) vn 0)::(nat_lit 210,ot (#[]) #[])::(nat_lit 213,oc (#[vs "_law_tree" 446,vs "_law_tree" 447,fcp 448,vi 171 0,vi 2 0,vi 0 0,vi 0 0,vi 3 0,vr 210,aU true,vi 181 0,vr 211,vn,vn,vn,vr 212,vi 449 0,vi 171 0,fcp 450]) #[])::(nat_lit 214,fo "_law_tree" 38 3 [] vn vn vn (vs "law_manyleaves_k82_texts" 404) none (vr 213) vn 0)::(nat_lit 215,ot (#[]) #[])::(nat_lit 217,ot (#[vs "_law_web_here" 455,vs "_law_text" 456,vs "_law_one" 457,vs "_law_other" 458]) #[])::(nat_lit 218,ot (#[]) #[])::(nat_lit 220,oc (#[vs "_law_written" 452,vs "_law_written" 453,fcp 454,vi 185 0,vi 1 0,vi 0 0,vi 0 0,vi 3 0,vr 215,aU true,vi 181 0,vr 216,vn,vr 217,vr 218,vr 219,vi 459 0,vi 185 0,fcp 460]) #[])::(nat_lit 221,fo "_law_written" 39 3 [] vn vn vn (vs "law_manyleaves_k82_texts" 404) none (vr 220) vn 0)::(nat_lit 222,ot (#[]) #[])::(nat_lit 224,ot (#[vs "_law_ties" 465,vs "_law_words" 466,vs "_law_one" 467,vs "_law_other" 468]) #[])::(nat_lit 225,ot (#[]) #[])::(nat_lit 227,oc (#[vs "_law_of_ties" 462,vs "_law_of_ties" 463,fcp 464,vi 190 0,vi 1 0,vi 0 0,vi 0 0,vi 3 0,vr 222,aU true,vi 181 0,vr 223,vn,vr 224,vr 225,vr 226,vi 469 0,vi 190 0,fcp 470]) #[])::(nat_lit 228,fo "_law_of_ties" 40 3 [] vn vn vn (vs "law_manyleaves_k82_texts" 404) none (vr 227) vn 0)::(nat_lit 229,ot (#[]) #[])::(nat_lit 232,oc (#[vs "_law_some" 472,vs "_law_some" 473,fcp 474,vi 195 0,vi 2 0,vi 0 0,vi 0 0,vi 3 0,vr 229,aU true,vi 181 0,vr 230,vn,vn,vn,vr 231,vi 475 0,vi 195 0,fcp 476]) #[])::(nat_lit 233,fo "_law_some" 41 3 [] vn vn vn (vs "law_manyleaves_k82_texts" 404) none (vr 232) vn 0)::(nat_lit 234,ot (#[]) #[])::(nat_lit 237,oc (#[vs "_law_right" 478,vs "_law_right" 479,fcp 480,vi 199 0,vi 2 0,vi 0 0,vi 0 0,vi 3 0,vr 234,aU true,vi 181 0,vr 235,vn,vn,vn,vr 236,vi 481 0,vi 199 0,fcp 482]) #[])::(nat_lit 238,fo "_law_right" 42 3 [] vn vn vn (vs "law_manyleaves_k82_texts" 404) none (vr 237) vn 0)::(nat_lit 239,ot (#[]) #[])::(nat_lit 241,ot (#[vs "_law_script" 487,vs "_law_deck_here" 488,vs "_law_least" 489,vs "_law_most" 490]) #[])::(nat_lit 242,ot (#[]) #[])::(nat_lit 244,oc (#[vs "law" 484,vs "law" 485,fcp 486,vi 211 0,vi 1 0,vi 0 0,vi 0 0,vi 3 0,vr 239,aU true,vi 181 0,vr 240,vn,vr 241,vr 242,vr 243,vi 491 0,vi 211 0,fcp 492]) #[])::(nat_lit 245,fo "law" 43 3 [] vn vn vn (vs "law_manyleaves_k82_texts" 404) none (vr 244) vn 0)::[]
def viewP:Program:={PySem.Challenge.pw_manyleaves_k82_texts with main:={PySem.Challenge.pw_manyleaves_k82_texts.main with body:=[top 1,top 2,top 4,top 5,top 7,top 8,top 9,top 10,top 11,top 12,top 13,top 14,top 15,top 16,top 17,top 18,top 20,top 21,top 22,top 23,top 24,top 25,top 26,top 27,top 28,top 29,top 30,top 32,top 33,top 34,top 35,top 36,top 37,top 38,top 39,top 40,top 41,top 42,top 43]}}
def addrs:List Addr:=[2,3,15,22,23,24,25,28,35,36,37,40,42,43,45,46,47,49,50,52,53,54,56,57,59,60,61,63,64,66,67,68,70,71,73,74,75,77,78,80,81,82,84,85,87,88,89,92,93,94,96,97,99,100,101,104,105,106,108,109,111,112,113,116,117,118,121,122,123,126,127,128,131,132,133,136,137,138,140,141,143,144,145,147,148,150,151,152,154,155,157,158,159,162,163,164,166,167,169,170,171,174,175,176,178,179,181,182,183,186,187,188,190,191,193,194,195,198,199,200,203,204,205,208,209,210,213,214,215,217,218,220,221,222,224,225,227,228,229,232,233,234,237,238,239,241,242,244,245]
theorem addr:∀ P,addrs=(heapK P).map (·.1):=λ_=>by kernel_rfl
abbrev A_ (K:ae)(n:Str)(f:Addr):Prop:=bu K mainGlobals n=some (some (.ref f))
abbrev L_ (K:ae)(f:Addr)(oc:Value)(od:Option Addr)(n:Str)(i:Nat)(kv dc pm:Value)(an:Option Addr)(cd ct:Value)(sl:Array (Option Value)):Prop:=K.lookup f=some ⟨oc,od,.func (db n n (U5 (top i)) (R0 (top i)) (A7 (top i)) .none kv dc pm an cd ct),sl⟩
abbrev C_ (K:ae)(cd:Value)(n:Str):Prop:=fj K cd n=true
abbrev J_ (K:ae)(f:Addr):Prop:=fh K (.ref f)=true
theorem all_mk {l:fP}{w:World}{K:ae}{h:Heap}{mg:Str->Option Value}(X:K.In h)(G:h.Ns mainGlobals mg)(hfa:mg "law"=some (.ref fa))(a1:A_ K "_law_mixed" f1)(l1:L_ K f1 oc1 od1 "_law_mixed" 32 kV1 dc1 pm1 an1 cd1 ct1 sl1)(c1:C_ K cd1 "_law_mixed")(k1:J_ K f1)(a2:A_ K "_law_next" f2)(l2:L_ K f2 oc2 od2 "_law_next" 34 kV2 dc2 pm2 an2 cd2 ct2 sl2)(c2:C_ K cd2 "_law_next")(k2:J_ K f2)(a3:A_ K "_law_deck" f3)(l3:L_ K f3 oc3 od3 "_law_deck" 33 kV3 dc3 pm3 an3 cd3 ct3 sl3)(c3:C_ K cd3 "_law_deck")(k3:J_ K f3)(a4:A_ K "_law_turn" f4)(l4:L_ K f4 oc4 od4 "_law_turn" 35 kV4 dc4 pm4 an4 cd4 ct4 sl4)(c4:C_ K cd4 "_law_turn")(k4:J_ K f4)(a5:A_ K "_law_web" f5)(l5:L_ K f5 oc5 od5 "_law_web" 36 kV5 dc5 pm5 an5 cd5 ct5 sl5)(c5:C_ K cd5 "_law_web")(k5:J_ K f5)(a6:A_ K "neighbour_rows" f6)(l6:L_ K f6 oc6 od6 "neighbour_rows" 15 kV6 dc6 pm6 an6 cd6 ct6 sl6)(c6:C_ K cd6 "neighbour_rows")(k6:J_ K f6)(a7:A_ K "_law_near" f7)(l7:L_ K f7 oc7 od7 "_law_near" 37 kV7 dc7 pm7 an7 cd7 ct7 sl7)(c7:C_ K cd7 "_law_near")(k7:J_ K f7)(a8:A_ K "_law_tree" f8)(l8:L_ K f8 oc8 od8 "_law_tree" 38 kV8 dc8 pm8 an8 cd8 ct8 sl8)(c8:C_ K cd8 "_law_tree")(k8:J_ K f8)(a9:A_ K "is_int" f9)(l9:L_ K f9 oc9 od9 "is_int" 4 kV9 dc9 pm9 an9 cd9 ct9 sl9)(c9:C_ K cd9 "is_int")(k9:J_ K f9)(a10:A_ K "is_between" f10)(l10:L_ K f10 oc10 od10 "is_between" 5 kV10 dc10 pm10 an10 cd10 ct10 sl10)(c10:C_ K cd10 "is_between")(k10:J_ K f10)(a11:A_ K "is_pair" f11)(l11:L_ K f11 oc11 od11 "is_pair" 10 kV11 dc11 pm11 an11 cd11 ct11 sl11)(c11:C_ K cd11 "is_pair")(k11:J_ K f11)(a12:A_ K "is_tie" f12)(l12:L_ K f12 oc12 od12 "is_tie" 11 kV12 dc12 pm12 an12 cd12 ct12 sl12)(c12:C_ K cd12 "is_tie")(k12:J_ K f12)(a13:A_ K "numbers_below" f13)(l13:L_ K f13 oc13 od13 "numbers_below" 23 kV13 dc13 pm13 an13 cd13 ct13 sl13)(c13:C_ K cd13 "numbers_below")(k13:J_ K f13)(a14:A_ K "numbers_in" f14)(l14:L_ K f14 oc14 od14 "numbers_in" 24 kV14 dc14 pm14 an14 cd14 ct14 sl14)(c14:C_ K cd14 "numbers_in")(k14:J_ K f14)(a15:A_ K "items_in" f15)(l15:L_ K f15 oc15 od15 "items_in" 25 kV15 dc15 pm15 an15 cd15 ct15 sl15)(c15:C_ K cd15 "items_in")(k15:J_ K f15)(a16:A_ K "is_rising" f16)(l16:L_ K f16 oc16 od16 "is_rising" 12 kV16 dc16 pm16 an16 cd16 ct16 sl16)(c16:C_ K cd16 "is_rising")(k16:J_ K f16)(a17:A_ K "places_in" f17)(l17:L_ K f17 oc17 od17 "places_in" 26 kV17 dc17 pm17 an17 cd17 ct17 sl17)(c17:C_ K cd17 "places_in")(k17:J_ K f17)(a18:A_ K "read_places" f18)(l18:L_ K f18 oc18 od18 "read_places" 27 kV18 dc18 pm18 an18 cd18 ct18 sl18)(c18:C_ K cd18 "read_places")(k18:J_ K f18)(a19:A_ K "is_rising" f19)(l19:L_ K f19 oc19 od19 "is_rising" 12 kV19 dc19 pm19 an19 cd19 ct19 sl19)(c19:C_ K cd19 "is_rising")(k19:J_ K f19)(a20:A_ K "is_tie_row" f20)(l20:L_ K f20 oc20 od20 "is_tie_row" 13 kV20 dc20 pm20 an20 cd20 ct20 sl20)(c20:C_ K cd20 "is_tie_row")(k20:J_ K f20)(a21:A_ K "read_tree" f21)(l21:L_ K f21 oc21 od21 "read_tree" 28 kV21 dc21 pm21 an21 cd21 ct21 sl21)(c21:C_ K cd21 "read_tree")(k21:J_ K f21)(a22:A_ K "piece_from" f22)(l22:L_ K f22 oc22 od22 "piece_from" 16 kV22 dc22 pm22 an22 cd22 ct22 sl22)(c22:C_ K cd22 "piece_from")(k22:J_ K f22)(a23:A_ K "pieces" f23)(l23:L_ K f23 oc23 od23 "pieces" 17 kV23 dc23 pm23 an23 cd23 ct23 sl23)(c23:C_ K cd23 "pieces")(k23:J_ K f23)(a24:A_ K "in_one_piece" f24)(l24:L_ K f24 oc24 od24 "in_one_piece" 18 kV24 dc24 pm24 an24 cd24 ct24 sl24)(c24:C_ K cd24 "in_one_piece")(k24:J_ K f24)(a25:A_ K "is_web" f25)(l25:L_ K f25 oc25 od25 "is_web" 14 kV25 dc25 pm25 an25 cd25 ct25 sl25)(c25:C_ K cd25 "is_web")(k25:J_ K f25)(a26:A_ K "numbers_behind" f26)(l26:L_ K f26 oc26 od26 "numbers_behind" 29 kV26 dc26 pm26 an26 cd26 ct26 sl26)(c26:C_ K cd26 "numbers_behind")(k26:J_ K f26)(a27:A_ K "read_web" f27)(l27:L_ K f27 oc27 od27 "read_web" 30 kV27 dc27 pm27 an27 cd27 ct27 sl27)(c27:C_ K cd27 "read_web")(k27:J_ K f27)(a28:A_ K "web_text" f28)(l28:L_ K f28 oc28 od28 "web_text" 20 kV28 dc28 pm28 an28 cd28 ct28 sl28)(c28:C_ K cd28 "web_text")(k28:J_ K f28)(a29:A_ K "_law_written" f29)(l29:L_ K f29 oc29 od29 "_law_written" 39 kV29 dc29 pm29 an29 cd29 ct29 sl29)(c29:C_ K cd29 "_law_written")(k29:J_ K f29)(a30:A_ K "places_text" f30)(l30:L_ K f30 oc30 od30 "places_text" 21 kV30 dc30 pm30 an30 cd30 ct30 sl30)(c30:C_ K cd30 "places_text")(k30:J_ K f30)(a31:A_ K "tree_text" f31)(l31:L_ K f31 oc31 od31 "tree_text" 22 kV31 dc31 pm31 an31 cd31 ct31 sl31)(c31:C_ K cd31 "tree_text")(k31:J_ K f31)(a32:A_ K "_law_of_ties" f32)(l32:L_ K f32 oc32 od32 "_law_of_ties" 40 kV32 dc32 pm32 an32 cd32 ct32 sl32)(c32:C_ K cd32 "_law_of_ties")(k32:J_ K f32)(a33:A_ K "_law_some" f33)(l33:L_ K f33 oc33 od33 "_law_some" 41 kV33 dc33 pm33 an33 cd33 ct33 sl33)(c33:C_ K cd33 "_law_some")(k33:J_ K f33)(a34:A_ K "_law_right" f34)(l34:L_ K f34 oc34 od34 "_law_right" 42 kV34 dc34 pm34 an34 cd34 ct34 sl34)(c34:C_ K cd34 "_law_right")(k34:J_ K f34)(a35:A_ K "law" f35)(l35:L_ K f35 oc35 od35 "law" 43 kV35 dc35 pm35 an35 cd35 ct35 sl35)(c35:C_ K cd35 "law")(k35:J_ K f35)
  {ky1 ky2 ky3:Tok} (y1:bu K mainGlobals "MOST_PLACES"=some (some (.int 60 ky1))) (y2:bu K mainGlobals "LEAST_PLACES"=some (some (.int 3 ky2))) (y3:bu K mainGlobals "MOST_TIES"=some (some (.int 200 ky3)))
  {cNoText:Addr} (qNoText:bu K mainGlobals "NoText"=some (some (.ref cNoText))) (eNoText:PySem.W.excIn K cNoText [.type "ValueError",.type "Exception",.type "BaseException",.type "object"] "ValueError.__new__"=true) (gaNoText:cD K (.ref cNoText) "__getattribute__"=some (some (.builtin "BaseException.__getattribute__"))) (clNoText:cD K (.ref cNoText) "__class__"=some (some (.builtin "object.__class__"))) (noNoText:cD K (.ref cNoText) "__getattr__"=some none) (sbNoText:eI K cNoText (.type "BaseException")=some true) (obNoText:eI K cNoText (.type "object")=some true) (isNoText:(PySem.W.clsIn K cNoText).isSome=true)
  (z1:bu K mainGlobals "len"=some none) (z2:bu K mainGlobals "range"=some none) (z3:bu K mainGlobals "list"=some none) (z4:bu K mainGlobals "tuple"=some none) (z5:bu K mainGlobals "sorted"=some none) (z6:bu K mainGlobals "min"=some none) (z7:bu K mainGlobals "max"=some none) (z8:bu K mainGlobals "int"=some none) (z9:bu K mainGlobals "reversed"=some none) (z10:bu K mainGlobals "isinstance"=some none) (z11:bu K mainGlobals "bool"=some none) (z12:bu K mainGlobals "all"=some none) (z13:bu K mainGlobals "set"=some none) (z14:bu K mainGlobals "enumerate"=some none) (z15:bu K mainGlobals "zip"=some none) (z16:bu K mainGlobals "repr"=some none) (z17:bu K mainGlobals "str"=some none) :
  ∃ fd:FuncData,(∀(s:Shared) (v:Value),BindsTo s fd ⟨[v],[]⟩ [("_law_script",v)])/\∀ base:Heap,K.In base->base.Ns mainGlobals mg->B8 l.prog w K mg base CX0 8 fa fd ["_law_script"] (sp_law K):=by
 have e:=hfa.symm.trans (aI X G a35);cases e;have B:Bt mg:=⟨bb X G z1,bb X G z2,bb X G z3,bb X G z4,bb X G z5,bb X G z6,bb X G z7,bb X G z8,bb X G z9⟩
 have C:Bt2 mg:=⟨bb X G z10,bb X G z11,bb X G z12,bb X G z13,bb X G z14,bb X G z15⟩
 have C4:Bt4 mg:=⟨bb X G z16⟩
 have C5:Bt5 mg:=⟨bb X G z17⟩
 have ZNoText:a6u K mg "NoText" cNoText:=⟨aI X G qNoText,eNoText,⟨gaNoText,clNoText,noNoText,sbNoText,obNoText,isNoText⟩⟩
 have M2:=aI X G y1;have M1:=aI X G y2;have M3:=aI X G y3;have F1:=C8 (st:=top 32) l1 c1 k1;have D1:Df K mg "_law_mixed" (top 32) f1 _ ["_law_cell", "_law_k"]:=⟨F1,F1.binds λ_ _ _ _ _ _ us hl=>L2.al2 (P:=λus=>bindArgs _ ⟨us,[]⟩=pure (bF _ us)) (λ_ _=>rfl) us hl,aI X G a1⟩
 have F2:=C8 (st:=top 34) l2 c2 k2;have D2:Df K mg "_law_next" (top 34) f2 _ ["_law_deck_here"]:=⟨F2,F2.binds λ_ _ _ _ _ _ us hl=>L2.al1 (P:=λus=>bindArgs _ ⟨us,[]⟩=pure (bF _ us)) (λ_=>rfl) us hl,aI X G a2⟩
 have F3:=C8 (st:=top 33) l3 c3 k3;have D3:Df K mg "_law_deck" (top 33) f3 _ ["_law_script", "_law_many"]:=⟨F3,F3.binds λ_ _ _ _ _ _ us hl=>L2.al2 (P:=λus=>bindArgs _ ⟨us,[]⟩=pure (bF _ us)) (λ_ _=>rfl) us hl,aI X G a3⟩
 have F4:=C8 (st:=top 35) l4 c4 k4;have D4:Df K mg "_law_turn" (top 35) f4 _ ["_law_deck_here", "_law_many"]:=⟨F4,F4.binds λ_ _ _ _ _ _ us hl=>L2.al2 (P:=λus=>bindArgs _ ⟨us,[]⟩=pure (bF _ us)) (λ_ _=>rfl) us hl,aI X G a4⟩
 have F5:=C8 (st:=top 36) l5 c5 k5;have D5:Df K mg "_law_web" (top 36) f5 _ ["_law_deck_here", "_law_least", "_law_most"]:=⟨F5,F5.binds λ_ _ _ _ _ _ us hl=>L2.al3 (P:=λus=>bindArgs _ ⟨us,[]⟩=pure (bF _ us)) (λ_ _ _=>rfl) us hl,aI X G a5⟩
 have F6:=C8 (st:=top 15) l6 c6 k6;have D6:Df K mg "neighbour_rows" (top 15) f6 _ ["web"]:=⟨F6,F6.binds λ_ _ _ _ _ _ us hl=>L2.al1 (P:=λus=>bindArgs _ ⟨us,[]⟩=pure (bF _ us)) (λ_=>rfl) us hl,aI X G a6⟩
 have F7:=C8 (st:=top 37) l7 c7 k7;have D7:Df K mg "_law_near" (top 37) f7 _ ["_law_web_here"]:=⟨F7,F7.binds λ_ _ _ _ _ _ us hl=>L2.al1 (P:=λus=>bindArgs _ ⟨us,[]⟩=pure (bF _ us)) (λ_=>rfl) us hl,aI X G a7⟩
 have F8:=C8 (st:=top 38) l8 c8 k8;have D8:Df K mg "_law_tree" (top 38) f8 _ ["_law_deck_here", "_law_web_here"]:=⟨F8,F8.binds λ_ _ _ _ _ _ us hl=>L2.al2 (P:=λus=>bindArgs _ ⟨us,[]⟩=pure (bF _ us)) (λ_ _=>rfl) us hl,aI X G a8⟩
 have F9:=C8 (st:=top 4) l9 c9 k9;have D9:Df K mg "is_int" (top 4) f9 _ ["thing"]:=⟨F9,F9.binds λ_ _ _ _ _ _ us hl=>L2.al1 (P:=λus=>bindArgs _ ⟨us,[]⟩=pure (bF _ us)) (λ_=>rfl) us hl,aI X G a9⟩
 have F10:=C8 (st:=top 5) l10 c10 k10;have D10:Df K mg "is_between" (top 5) f10 _ ["thing", "least", "most"]:=⟨F10,F10.binds λ_ _ _ _ _ _ us hl=>L2.al3 (P:=λus=>bindArgs _ ⟨us,[]⟩=pure (bF _ us)) (λ_ _ _=>rfl) us hl,aI X G a10⟩
 have F11:=C8 (st:=top 10) l11 c11 k11;have D11:Df K mg "is_pair" (top 10) f11 _ ["thing"]:=⟨F11,F11.binds λ_ _ _ _ _ _ us hl=>L2.al1 (P:=λus=>bindArgs _ ⟨us,[]⟩=pure (bF _ us)) (λ_=>rfl) us hl,aI X G a11⟩
 have F12:=C8 (st:=top 11) l12 c12 k12;have D12:Df K mg "is_tie" (top 11) f12 _ ["thing", "places"]:=⟨F12,F12.binds λ_ _ _ _ _ _ us hl=>L2.al2 (P:=λus=>bindArgs _ ⟨us,[]⟩=pure (bF _ us)) (λ_ _=>rfl) us hl,aI X G a12⟩
 have F13:=C8 (st:=top 23) l13 c13 k13;have D13:Df K mg "numbers_below" (top 23) f13 _ ["many"]:=⟨F13,F13.binds λ_ _ _ _ _ _ us hl=>L2.al1 (P:=λus=>bindArgs _ ⟨us,[]⟩=pure (bF _ us)) (λ_=>rfl) us hl,aI X G a13⟩
 have F14:=C8 (st:=top 24) l14 c14 k14;have D14:Df K mg "numbers_in" (top 24) f14 _ ["words", "numbers"]:=⟨F14,F14.binds λ_ _ _ _ _ _ us hl=>L2.al2 (P:=λus=>bindArgs _ ⟨us,[]⟩=pure (bF _ us)) (λ_ _=>rfl) us hl,aI X G a14⟩
 have F15:=C8 (st:=top 25) l15 c15 k15;have D15:Df K mg "items_in" (top 25) f15 _ ["text", "mark"]:=⟨F15,F15.binds λ_ _ _ _ _ _ us hl=>L2.al2 (P:=λus=>bindArgs _ ⟨us,[]⟩=pure (bF _ us)) (λ_ _=>rfl) us hl,aI X G a15⟩
 have F16:=C8 (st:=top 12) l16 c16 k16;have D16:Df K mg "is_rising" (top 12) f16 _ ["items"]:=⟨F16,F16.binds λ_ _ _ _ _ _ us hl=>L2.al1 (P:=λus=>bindArgs _ ⟨us,[]⟩=pure (bF _ us)) (λ_=>rfl) us hl,aI X G a16⟩
 have F17:=C8 (st:=top 26) l17 c17 k17;have D17:Df K mg "places_in" (top 26) f17 _ ["text", "many"]:=⟨F17,F17.binds λ_ _ _ _ _ _ us hl=>L2.al2 (P:=λus=>bindArgs _ ⟨us,[]⟩=pure (bF _ us)) (λ_ _=>rfl) us hl,aI X G a17⟩
 have F18:=C8 (st:=top 27) l18 c18 k18;have D18:Df K mg "read_places" (top 27) f18 _ ["thing"]:=⟨F18,F18.binds λ_ _ _ _ _ _ us hl=>L2.al1 (P:=λus=>bindArgs _ ⟨us,[]⟩=pure (bF _ us)) (λ_=>rfl) us hl,aI X G a18⟩
 have F19:=C8 (st:=top 12) l19 c19 k19;have D19:Df K mg "is_rising" (top 12) f19 _ ["items"]:=⟨F19,F19.binds λ_ _ _ _ _ _ us hl=>L2.al1 (P:=λus=>bindArgs _ ⟨us,[]⟩=pure (bF _ us)) (λ_=>rfl) us hl,aI X G a19⟩
 have F20:=C8 (st:=top 13) l20 c20 k20;have D20:Df K mg "is_tie_row" (top 13) f20 _ ["thing", "places"]:=⟨F20,F20.binds λ_ _ _ _ _ _ us hl=>L2.al2 (P:=λus=>bindArgs _ ⟨us,[]⟩=pure (bF _ us)) (λ_ _=>rfl) us hl,aI X G a20⟩
 have F21:=C8 (st:=top 28) l21 c21 k21;have D21:Df K mg "read_tree" (top 28) f21 _ ["thing"]:=⟨F21,F21.binds λ_ _ _ _ _ _ us hl=>L2.al1 (P:=λus=>bindArgs _ ⟨us,[]⟩=pure (bF _ us)) (λ_=>rfl) us hl,aI X G a21⟩
 have F22:=C8 (st:=top 16) l22 c22 k22;have D22:Df K mg "piece_from" (top 16) f22 _ ["rows", "among", "start"]:=⟨F22,F22.binds λ_ _ _ _ _ _ us hl=>L2.al3 (P:=λus=>bindArgs _ ⟨us,[]⟩=pure (bF _ us)) (λ_ _ _=>rfl) us hl,aI X G a22⟩
 have F23:=C8 (st:=top 17) l23 c23 k23;have D23:Df K mg "pieces" (top 17) f23 _ ["web", "places"]:=⟨F23,F23.binds λ_ _ _ _ _ _ us hl=>L2.al2 (P:=λus=>bindArgs _ ⟨us,[]⟩=pure (bF _ us)) (λ_ _=>rfl) us hl,aI X G a23⟩
 have F24:=C8 (st:=top 18) l24 c24 k24;have D24:Df K mg "in_one_piece" (top 18) f24 _ ["web"]:=⟨F24,F24.binds λ_ _ _ _ _ _ us hl=>L2.al1 (P:=λus=>bindArgs _ ⟨us,[]⟩=pure (bF _ us)) (λ_=>rfl) us hl,aI X G a24⟩
 have F25:=C8 (st:=top 14) l25 c25 k25;have D25:Df K mg "is_web" (top 14) f25 _ ["thing"]:=⟨F25,F25.binds λ_ _ _ _ _ _ us hl=>L2.al1 (P:=λus=>bindArgs _ ⟨us,[]⟩=pure (bF _ us)) (λ_=>rfl) us hl,aI X G a25⟩
 have F26:=C8 (st:=top 29) l26 c26 k26;have D26:Df K mg "numbers_behind" (top 29) f26 _ ["word", "line", "numbers"]:=⟨F26,F26.binds λ_ _ _ _ _ _ us hl=>L2.al3 (P:=λus=>bindArgs _ ⟨us,[]⟩=pure (bF _ us)) (λ_ _ _=>rfl) us hl,aI X G a26⟩
 have F27:=C8 (st:=top 30) l27 c27 k27;have D27:Df K mg "read_web" (top 30) f27 _ ["thing"]:=⟨F27,F27.binds λ_ _ _ _ _ _ us hl=>L2.al1 (P:=λus=>bindArgs _ ⟨us,[]⟩=pure (bF _ us)) (λ_=>rfl) us hl,aI X G a27⟩
 have F28:=C8 (st:=top 20) l28 c28 k28;have D28:Df K mg "web_text" (top 20) f28 _ ["web"]:=⟨F28,F28.binds λ_ _ _ _ _ _ us hl=>L2.al1 (P:=λus=>bindArgs _ ⟨us,[]⟩=pure (bF _ us)) (λ_=>rfl) us hl,aI X G a28⟩
 have F29:=C8 (st:=top 39) l29 c29 k29;have D29:Df K mg "_law_written" (top 39) f29 _ ["_law_web_here"]:=⟨F29,F29.binds λ_ _ _ _ _ _ us hl=>L2.al1 (P:=λus=>bindArgs _ ⟨us,[]⟩=pure (bF _ us)) (λ_=>rfl) us hl,aI X G a29⟩
 have F30:=C8 (st:=top 21) l30 c30 k30;have D30:Df K mg "places_text" (top 21) f30 _ ["places"]:=⟨F30,F30.binds λ_ _ _ _ _ _ us hl=>L2.al1 (P:=λus=>bindArgs _ ⟨us,[]⟩=pure (bF _ us)) (λ_=>rfl) us hl,aI X G a30⟩
 have F31:=C8 (st:=top 22) l31 c31 k31;have D31:Df K mg "tree_text" (top 22) f31 _ ["tree"]:=⟨F31,F31.binds λ_ _ _ _ _ _ us hl=>L2.al1 (P:=λus=>bindArgs _ ⟨us,[]⟩=pure (bF _ us)) (λ_=>rfl) us hl,aI X G a31⟩
 have F32:=C8 (st:=top 40) l32 c32 k32;have D32:Df K mg "_law_of_ties" (top 40) f32 _ ["_law_ties"]:=⟨F32,F32.binds λ_ _ _ _ _ _ us hl=>L2.al1 (P:=λus=>bindArgs _ ⟨us,[]⟩=pure (bF _ us)) (λ_=>rfl) us hl,aI X G a32⟩
 have F33:=C8 (st:=top 41) l33 c33 k33;have D33:Df K mg "_law_some" (top 41) f33 _ ["_law_deck_here", "_law_many"]:=⟨F33,F33.binds λ_ _ _ _ _ _ us hl=>L2.al2 (P:=λus=>bindArgs _ ⟨us,[]⟩=pure (bF _ us)) (λ_ _=>rfl) us hl,aI X G a33⟩
 have F34:=C8 (st:=top 42) l34 c34 k34;have D34:Df K mg "_law_right" (top 42) f34 _ ["_law_deck_here", "_law_web_here"]:=⟨F34,F34.binds λ_ _ _ _ _ _ us hl=>L2.al2 (P:=λus=>bindArgs _ ⟨us,[]⟩=pure (bF _ us)) (λ_ _=>rfl) us hl,aI X G a34⟩
 have F35:=C8 (st:=top 43) l35 c35 k35;refine⟨db "law" "law" (U5 (top 43)) (R0 (top 43)) (A7 (top 43)) .none kV35 dc35 pm35 an35 cd35 ct35,λs v=>.of_eq rfl,λbase _ _=>?_⟩;have O1:=a7u (P:=l.prog) (w:=w) (base:=base) F1 B;have O2:=a8W (P:=l.prog) (w:=w) (base:=base) F2 B;have O3:=a8Y (P:=l.prog) (w:=w) (base:=base) F3 B D1 O1;have O4:=a8R (P:=l.prog) (w:=w) (base:=base) F4 B D2 O2;have O5:=b0V (P:=l.prog) (w:=w) (base:=base) F5 B D2 O2 D4 O4;have O6:=a7t (P:=l.prog) (w:=w) (base:=base) F6 B;have O7:=a8X (P:=l.prog) (w:=w) (base:=base) F7 B;have O8:=a8S (P:=l.prog) (w:=w) (base:=base) F8 B D7 O7 D2 O2;have O9:=a8V (P:=l.prog) (w:=w) (base:=base) F9 B C;have O10:=a7q (P:=l.prog) (w:=w) (base:=base) F10 B D9 O9;have O11:=a7o (P:=l.prog) (w:=w) (base:=base) F11 B C;have O12:=a8U (P:=l.prog) (w:=w) (base:=base) F12 B D11 O11 D10 O10;have O13:=a3L (P:=l.prog) (w:=w) (base:=base) F13 B C5;have O14:=a7s (P:=l.prog) (w:=w) (base:=base) F14 B;have O15:=a4w (P:=l.prog) (w:=w) (base:=base) F15 B;have O16:=a8T (P:=l.prog) (w:=w) (base:=base) F16 B;have O17:=a3J (P:=l.prog) (w:=w) (base:=base) F17 B D15 O15 D13 O13 D14 O14 D16 O16;have O18:=a5V (P:=l.prog) (w:=w) (base:=base) F18 B ZNoText D17 O17 C C5 M2;have O19:=a3I (P:=l.prog) (w:=w) (base:=base) F19 B;have O20:=a7n (P:=l.prog) (w:=w) (base:=base) F20 B D12 O12 D19 O19 C;have O21:=a5U (P:=l.prog) (w:=w) (base:=base) F21 B ZNoText D15 O15 D13 O13 D14 O14 D20 O20 C C5 M2;have O22:=a7p (P:=l.prog) (w:=w) (base:=base) F22 B;have O23:=a5W (P:=l.prog) (w:=w) (base:=base) F23 B D6 O6 D22 O22;have O24:=a7r (P:=l.prog) (w:=w) (base:=base) F24 B D23 O23;have O25:=a5X (P:=l.prog) (w:=w) (base:=base) F25 B D11 O11 D10 O10 D20 O20 D24 O24 M1 M2 M3;have O26:=a2D (P:=l.prog) (w:=w) (base:=base) F26 B D14 O14;have O27:=a4v (P:=l.prog) (w:=w) (base:=base) F27 B ZNoText D13 O13 D26 O26 D25 O25 C C5 M2;have O28:=a4t (P:=l.prog) (w:=w) (base:=base) F28 B C;have O29:=a4s (P:=l.prog) (w:=w) (base:=base) F29 B C5;have O30:=a1w (P:=l.prog) (w:=w) (base:=base) F30 B C5;have O31:=a3H (P:=l.prog) (w:=w) (base:=base) F31 B C5;have O32:=a3K (P:=l.prog) (w:=w) (base:=base) F32 B C5;have O33:=a5T (P:=l.prog) (w:=w) (base:=base) F33 B D2 O2 C5;have O34:=a4u (P:=l.prog) (w:=w) (base:=base) F34 B ZNoText D28 O28 D29 O29 D27 O27 D33 O33 D30 O30 D18 O18 D8 O8 D32 O32 D31 O31 D21 O21 C C4 C5;exact a7v F35 B D3 O3 D5 O5 D34 O34
theorem walk {l:fP}{q:Program}{loose:List Str}{XP:(Str->Option Value)->Heap->Prop}{YP:World->Heap->Prop}{d:DefRec}{K:Params->ae}(hn:l.most=some 63)(hdf:d.params.defaults=[])
  (hY:∀(w:World) (h:Heap),YP w h->(K w.params).In h)
  (F:∀(w:World) (mg:Str->Option Value) (fa:Addr) (h:Heap),(K w.params).In h->h.Ns mainGlobals mg->mg d.name=some (.ref fa) ->
   ∃ fd:FuncData,(∀(s:Shared) (u:Value),BindsTo s fd ⟨[u],[]⟩ [("_law_script",u)])/\∀ base:Heap,(K w.params).In base->base.Ns mainGlobals mg->B8 l.prog w (K w.params) mg base CX0 8 fa fd ["_law_script"] (sp_law (K w.params))) :
  PySem.W.WalkO q loose XP YP l.row.toRowW d [] (λf vs=>iF f vs) :=
 L2.a4S (n:=63) (k:=8) (x:="_law_script") (CX:=λ_=>CX0) (sp:=λw=>sp_law (K w.params)) hn (by decide) hdf ⟨rfl,by decide,by decide,rfl⟩ hY F (λ_ _ a ns hl _ hS=>⟨a,ns,rfl,hS,hl,λ_=>rfl⟩) λ_ _ _ _ _ z=>z
end K82
end
open PySem PySem.W PyProof.Rows
set_option maxRecDepth 100000 in
set_option maxHeartbeats 0 in
theorem K82.said:PySem.Challenge.rw_manyleaves_k82_texts.wellSaid=true:=by kernel_rfl
set_option maxRecDepth 100000 in
set_option maxHeartbeats 0 in
theorem K82.left:LeftO (gb (g6 PySem.Challenge.rw_manyleaves_k82_texts)).prog K82.viewP [] (λs=>xlAt K82.viewP [] s && recOk (RowW.records (gb (g6 PySem.Challenge.rw_manyleaves_k82_texts))) s) (Hook.obs (kHook K82.heapK K82.addrs K82.addr)) (Hook.val (kHook K82.heapK K82.addrs K82.addr)) 3014:=by intro w;kernel_rfl
set_option maxRecDepth 100000 in
set_option maxHeartbeats 0 in
theorem PySem.Challenge.cw_manyleaves_k82_texts_holds : PySem.Challenge.rw_manyleaves_k82_texts.Holds := by
 w_on;refine holds_law K82.said λsaid=>?_
 refine holds_open (q:=K82.viewP) (loose:=[]) (Xt:=λs=>xlAt K82.viewP [] s && recOk (RowW.records (gb (g6 PySem.Challenge.rw_manyleaves_k82_texts))) s) (XP:=XL K82.viewP []) (Yf:=Hook.obs (kHook K82.heapK K82.addrs K82.addr)) (Ya:=Hook.val (kHook K82.heapK K82.addrs K82.addr)) (YP:=Hook.says (kHook K82.heapK K82.addrs K82.addr)) (N:=3014) K82.left (Hook.of (kHook K82.heapK K82.addrs K82.addr)) (Hook.keeps (kHook K82.heapK K82.addrs K82.addr)) (λs e=>xl_of s (iq.mp e).1) XL.keeps (by rfl) (by rfl) (by rfl) (λs e=>recFacts_of (iq.mp e).2) (by rfl) said (by decide +kernel) ⟨rfl,rfl,rfl,rfl,rfl,by decide +kernel⟩ ?hw ?hc
 (case hw=>w_witness2)
 k_fill
 refine K82.walk (l:=PySem.Challenge.rw_manyleaves_k82_texts) rfl rfl (λw h Y=>PySem.W.kIn_of Y) ?F
 case F =>
  intro w mg fa h KX G hmg;refine' K82.all_mk KX G hmg ?a1 ?l1 ?c1 ?k1 ?a2 ?l2 ?c2 ?k2 ?a3 ?l3 ?c3 ?k3 ?a4 ?l4 ?c4 ?k4 ?a5 ?l5 ?c5 ?k5 ?a6 ?l6 ?c6 ?k6 ?a7 ?l7 ?c7 ?k7 ?a8 ?l8 ?c8 ?k8 ?a9 ?l9 ?c9 ?k9 ?a10 ?l10 ?c10 ?k10 ?a11 ?l11 ?c11 ?k11 ?a12 ?l12 ?c12 ?k12 ?a13 ?l13 ?c13 ?k13 ?a14 ?l14 ?c14 ?k14 ?a15 ?l15 ?c15 ?k15 ?a16 ?l16 ?c16 ?k16 ?a17 ?l17 ?c17 ?k17 ?a18 ?l18 ?c18 ?k18 ?a19 ?l19 ?c19 ?k19 ?a20 ?l20 ?c20 ?k20 ?a21 ?l21 ?c21 ?k21 ?a22 ?l22 ?c22 ?k22 ?a23 ?l23 ?c23 ?k23 ?a24 ?l24 ?c24 ?k24 ?a25 ?l25 ?c25 ?k25 ?a26 ?l26 ?c26 ?k26 ?a27 ?l27 ?c27 ?k27 ?a28 ?l28 ?c28 ?k28 ?a29 ?l29 ?c29 ?k29 ?a30 ?l30 ?c30 ?k30 ?a31 ?l31 ?c31 ?k31 ?a32 ?l32 ?c32 ?k32 ?a33 ?l33 ?c33 ?k33 ?a34 ?l34 ?c34 ?k34 ?a35 ?l35 ?c35 ?k35 ?y1 ?y2 ?y3 ?qNoText ?eNoText ?gaNoText ?clNoText ?noNoText ?sbNoText ?obNoText ?isNoText ?z1 ?z2 ?z3 ?z4 ?z5 ?z6 ?z7 ?z8 ?z9 ?z10 ?z11 ?z12 ?z13 ?z14 ?z15 ?z16 ?z17
  (case a1|a2|a3|a4|a5|a6|a7|a8|a9|a10|a11|a12|a13|a14|a15|a16|a17|a18|a19|a20|a21|a22|a23|a24|a25|a26|a27|a28|a29|a30|a31|a32|a33|a34|a35=>unfold K82.A_;k_is)
  (case l1|l2|l3|l4|l5|l6|l7|l8|l9|l10|l11|l12|l13|l14|l15|l16|l17|l18|l19|l20|l21|l22|l23|l24|l25|l26|l27|l28|l29|l30|l31|l32|l33|l34|l35=>unfold K82.L_;k_is)
  (case c1|c2|c3|c4|c5|c6|c7|c8|c9|c10|c11|c12|c13|c14|c15|c16|c17|c18|c19|c20|c21|c22|c23|c24|c25|c26|c27|c28|c29|c30|c31|c32|c33|c34|c35=>unfold K82.C_;k_is)
  (case k1|k2|k3|k4|k5|k6|k7|k8|k9|k10|k11|k12|k13|k14|k15|k16|k17|k18|k19|k20|k21|k22|k23|k24|k25|k26|k27|k28|k29|k30|k31|k32|k33|k34|k35=>unfold K82.J_;k_is)
  (case y1|y2|y3|qNoText|gaNoText|clNoText|noNoText|sbNoText|obNoText|z1|z2|z3|z4|z5|z6|z7|z8|z9|z10|z11|z12|z13|z14|z15|z16|z17=>k_is)
  (case eNoText|isNoText=>kernel_rfl)
