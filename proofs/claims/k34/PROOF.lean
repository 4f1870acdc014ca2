import PyProof.Rows.All
import Wide.All
import OpenK.AllK
import Wide.FinOn
import Lean
import PyProof.EqAt
import PyProof.EqKinds
import PyProof.TupleCall
import PySem.SetOps
import PyProof.SetScanFacts
import PyProof.Rows.SetFrom
import PyProof.SetRoads
import PyProof.WalksMore
import PyProof.EnumMake
import PyProof.EnumFor
import PyProof.P3In
import PyProof.Rows.Range3
import PyProof.ZipIter
import PyProof.TupleKey
import PyProof.DictKinds
import PyProof.Rows.SumAny
import PyProof.Rows.SortRev
import PyProof.Rows.SeqMore
import PyProof.ReprRoads
import PyProof.ReprText
import PyProof.ReprBulk
import PyProof.Rows.AssignMoreSeq
import PySem.Challenge.RW_manyleaves_k34_needs_or_not
open PySem renaming wpAny_bind->aa,wpAny_pure->ai,boot_len->aR,wpAny_newObj_type->bo,wpAny_callSpecial?_slot->bL,wpAny_call_entry->bO,wpAny_mono->cp,wpAny_holding->cu,wpAny_field->cC,wpAny_Call_Name_kw->cD,wpAny_truthy_bool->dq,wpAny_seqItems->dE,wpAny_typeNameOfWhole_keyiter->dQ,wpAny_setField_rec->dS,wpAny_passesOwn->dX,mem_of_lookup->eD,wpAny_setField->eN,wpAny_typeOf->eR,wpAny_typeNameOf_keyiter->eS,wpAny_pyIter_tuple->eZ,wpAny_attempt->fb,wpAny_pyIter_list->fq,wpAny_isInstance->fB,wpAny_askSetting->fD,wpAny_standAt->fI,wpAny_setState_of->ga,wpAny_dictEntries->gb,wpAny_comprehension_free->gc,wpAny_ite_split->gC,wpAny_execs_nil->gD,wpAny_rule->gG,wpAny_updateSeq_pair->gK,Addr->gN,wpAny_fieldsOf->gP,wpAny_setEntries_of->gU,wpAny_of_eq->gW,wpAny_onRaise->h9,wpAny_sequenceKey->iE,wpAny_pyIter_slot->iF,wpAny_assign_Name->iG,call_meets->iH,wpAny_specialOf->je,wpAny_letGo->jf,wpAny_dictEpoch->jg,wpAny_runValue->js,wpAny_load->jF,wpAny_newList->jK,wpAny_handled->jL,seq_tuple_add->jM,call->jN,wpAny_isTrue_Compare1->j3,wpAny_isOneOf_keyiter->j4,concat_meets->j5,wpAny_newFunctionEnv->j8,wpAny_throw->ka,wpAny_storeSet_of->kg,wpAny_pyIter_enum->ki,wpAny_Name->kj,slot_list_getitem->kl,fits_of_scanBound->km
open List renaming length_map->ab,mem_singleton->ah,mem_append->ak,getElem?_eq_getElem->aq,getElem?_eq_some_iff->aA,mem_cons->aD,length_append->aE,getElem?_map->aF,length_cons->aH,mem_of_getElem?->aI,map_append->aJ,size_toArray->aK,map_cons->aL,mem_cons_of_mem->aM,mem_cons_self->aN,not_mem_nil->aW,mem_filter->bd,take_length->bq,Nodup->bu,mem_append_right->bx,length_take->bA,append_assoc->bB,mem_map->bD,length_singleton->bK,zip->bP,take_succ->bQ,take_append_drop->bS,pairwise_singleton->bT,append_nil->bU,pairwise_append->bY,filter_append->b9,map_map->ca,length_filter_le->cb,getD_eq_getElem?_getD->ce,nodup_cons->cf,filterMap_cons_some->cj,getElem?_eq_none->ck,mem_range->cn,getElem?_append_right->cr,getElem?_append_left->cA,extract_eq_take_drop->cB,filter_sublist->cF,length_nil->cK,mem_append_left->cM,nodup_append->cN,length_pos_iff->cO,nil_append->cR,filterMap_cons_none->cS,map_nil->cY,pairwise_map->da,getElem_of_mem->db,take_of_length_le->di,getElem?_set_self->dj,filter_eq_nil_iff->dl,cons_append->du,any_eq_true->dv,perm_append_comm->dy,mem_iff_getElem?->dz,exists_mem_of_ne_nil->dA,getElem?_set_ne->dB,ext_getElem?->dD,filter_cons_of_pos->dG,filter_cons_of_neg->dH,any_cons->dI,take_zero->dL,drop_of_length_le->dM,pairwise_cons->dP,pairwise_iff_getElem->d9,all_eq_true->eF,replicate_succ->eG,mem_map_of_mem->eI,length_reverse->eJ,filterMap_cons->eM,length_set->eO,find?_cons->eQ,reverse_cons->eY,getElem?_toArray->ff,getElem?_range->fz,drop_eq_getElem_cons->fL,getElem?_take_of_lt->fP,flatten_cons->fQ,getElem_mem->fY,length_replicate->gj,map_congr_left->gA,length->gB,getElem?_drop->gH,all_cons->gI,take_sublist->gR,take_add_one->gS,length_range->gT,zipIdx_cons->hG,mem_reverse->hJ,map_reverse->hU,length_drop->hV,eq_nil_of_length_eq_zero->hW,dropLast_concat_getLast->il,range_succ->ix,of_mem_zip->iy,map_id->iz,forIn_cons->iA,foldl_cons->iB,perm_ext_iff_of_nodup->iO,perm_append_singleton->iP,nodup_nil->iU,getElem?_zip_eq_some->iV,forIn_nil->iW,drop_zero->iX,length_erase_of_mem->i7,map_take->ja,getElem?_replicate->jb,getElem?_cons_zero->jc,getElem?_cons_succ->jd,range_succ_eq_map->jj,pairwise_lt_range->jk,length_pos_of_mem->jl,pairwise_reverse->jo,getElem?_reverse->jp,all_map->jq,replicate_succ'->jA,mem_of_mem_drop->jB,mem_erase_of_ne->jC,length_dropLast->jD,reverse_perm->jW,getElem?_inj->jX,foldl->jY,filter_congr->jZ,drop_sublist->j0
open PySem.W renaming Frag->ae,mg_of->aQ,mg_none_of->bm,nsIn->bW,kia_one->cI,emptyDict->cV,instObj->dN,fnOf->dZ,keepIn->fE,codeIn->gi,methodObj->gE,OpenLaw->gX,kitOne->ia,cellsFrom_some->iS,kitx_list->jt,kitx_dict->ju
open PySem.Heap renaming get?_push_of_some->ag,get?_push_size->aB,lt_size->aC,size_push->cm,get?_update_self->cQ,SameBut->dF,get?_update_other->fZ,ExtBut->jG,get?_push_ne->jS
open Nat renaming le_refl->ao,ne_of_lt->aP,zero_le->bf,lt_of_lt_of_le->bh,le_trans->bj,lt_or_ge->cc,le_of_lt->cH,not_lt_zero->cL,lt_irrefl->cP,zero_add->cZ,le_of_lt_succ->dW,ne_of_gt->fh,lt_trans->fj,succ_pos->fK,le_of_eq->gn,le_succ->gF,mod_lt->gZ,lt_succ_of_lt->g6,succ_mul->g9,lt_succ_self->ij,le_add_right->ik,min_eq_left->iN,succ_add->jw,sub_zero->jx,add_zero->jy,add_comm->jz,lt_of_le_of_ne->jT,lt_of_le_of_lt->jU,eq_zero_or_pos->jV,max_le->j6,lt_trichotomy->j7
open PyProof.Rows renaming wpS_pure->ap,wpS_bind->au,slot_tuple_getitem->bJ,callWith_type1->bV,wpS_forRange->ci,boot_isinstance->cq,boot_tuple->cE,wpS_mono->dO,boot_sorted->dY,wpS_modify->eU,wpS_get->fX,callWith_builtin1->gk,entry_tuple_getitem->gY,boot_list->ig,args_tuple_getitem->ii,setArr->ir,mirror->iu,bubble->iw,mirror_perm->ji,boot_max->jQ,boot_int->jR,entry_proto_collect'->j9,boot_range->kn
open Option.some renaming inj->aG
open Bool renaming false_ne_true->aO,false_eq_true->aU,and_eq_true->bZ,false_and->fe,not_true->fu,eq_iff_iff->fA,true_and->fV,or_eq_false_iff->gu,and_eq_true_iff->jE
open PyProof.Rows.KeyOrd renaming kle_of_klt->aS,kle_trans->aV,kle_refl->cJ,kle_antisymm->jm
open PySem.Value renaming bool->aT,ref->bF,none->cw,int->cG,type->cX,isInt_shape->fM,str->ge
open Array renaming getElem?_eq_getElem->aX,length_toList->aY,toList_push->bi,getElem?_toList->bC,toList_append->bM,getElem?_eq_none->bN,toList_extract->cU,toList_reverse->fm,replicate->fw,size_extract->fH,size_push->gh,size_map->gv,ext'->gO,perm_iff_toList_perm->iC,toArray_toList->jr,append_assoc->jJ
open Classical renaming byContradiction->aZ
open Int renaming emod_lt_of_pos->bn,emod_nonneg->bE,toNat_of_nonneg->bH,toNat_natCast->b6,lt_or_le->gp
open PySem.PassesOwn renaming never->bG
open PySem.NameKind renaming free->bI,cell->cz
open PySem.Heap.SameBut renaming update->bR
open Sum renaming inl->bX,inr->iD
open ForInStep renaming yield->cg,done->fv
open PySem.Obj renaming data_mapFields->cT,isFreed_of_fields->fg,cls_mapFields->fR,mapFields->gL,putSet->i8
open PySem.PyData renaming int->cW,shown_int->gQ
open True renaming intro->dr
open PySem.F renaming slot_tuple_iterator_next->dw,slot_dict_keyiterator_next->dR,slot_zip_next->eV,args_tuple_add_2->fJ,entry_tuple_add->fN,slot_tuple_add->fS,args_tuple_iterator_next_1->gt,entry_tuple_iterator_next->gw,args_dict_keyiterator_next_1->im,plain_list_iadd->iI,plainAttrs_list->iJ,entry_dict_keyiterator_next->iK,args_zip_next_1->iL,entry_zip_next->iT,slot_set_iter->i5,plain_set_new->i6
open False renaming elim->dJ
open PySem.Around renaming under_plainId->dU
open PySem.Builtin.Tuple renaming tupleItemsOf->fc
open PySem.Paired renaming length->fk
open PyProof.Rows.SortSt renaming mk'->ft
open PySem.Calls renaming spliced_cons->fF,spliced_nil->fO,Name_function_global->iq,callWith_builtin->i9
open Ne renaming symm->fG
open Option renaming map_eq_some_iff->fT,toList_some->gz,isSome_iff_exists->iM,none->jn,isSome_map->jI
open Nat.succ renaming inj->fU
open PySem.Builtin.Dict_items renaming ownsTuple->fW
open PyProof.Rows.F renaming plain_set_update_loop->gf,entry_set_update_loop->jv
open List.Pairwise renaming and->gg,imp_of_mem->gJ,nil->iR
open PySem.Builtin.Range renaming rangeSize->gM,small->ie
open List.Perm renaming eq_of_pairwise->h8,append_left->iQ
open PySem.W.OpenRow renaming toRowW->ib
open PySem.Heap.IsSliceOf renaming new->ic
open PySem.Data renaming cell->ip,fields->jH
open PySem.SeqAt.EqAt renaming str_int->iY,int_str->iZ
open PySem.W.OpenLaw renaming row->jh
open PySem.Walks renaming list->jO
open PySem.Code renaming quiet_builtin->jP
set_option Elab.async false
set_option linter.all false
set_option maxRecDepth 100000
set_option maxHeartbeats 8000000
set_option compiler.extract_closed false
section
namespace L2
open PySem PySem.Spec PyProof.Rows
abbrev Key:=Sum Int Str
def a2l:Key->Value->Bool
 | .inl k,v=>Value.isInt k v
 | .inr x,v=>Value.isStrOf x v
def b3u (w:World):Key->Int
 | .inl k=>hashInt k
 | .inr x=>hashStr w x
theorem K2:∀ {k:Key} {v:Value},a2l k v=true->(∃ i t,k=bX i/\v=cG i t)\/(∃ x t,k=iD x/\v=ge x t)
 | .inl i,v,h=>by
  obtain⟨t,e⟩:=fM (k:=i) (v:=v) h;exact .inl ⟨i,t,rfl,e⟩
 | .inr x,v,h=>by
  obtain⟨t,e⟩:=Value.isStrOf_shape (x:=x) (v:=v) h;exact .inr ⟨x,t,rfl,e⟩
theorem a6y (i:Int)(t:Tok):a2l (.inl i) (.int i t)=true:=by simp[a2l,Value.isInt]
theorem a6x (x:Str)(t:Tok):a2l (.inr x) (.str x t)=true:=by simp[a2l,Value.isStrOf]
theorem b1o (a b:Int):decide ((bX a:Key)=bX b)=(a == b):=by
 by_cases e:a=b
 ·subst e;simp
 ·have h:¬ (bX a:Key)=bX b:=fun q=>e (Sum.inl.inj q)
  rw[decide_eq_false h];exact (beq_eq_false_iff_ne.mpr e).symm
theorem b1l (a b:Str):decide ((iD a:Key)=iD b)=decide (a=b):=by
 by_cases e:a=b
 ·subst e;simp
 ·have h:¬ (iD a:Key)=iD b:=fun q=>e (Sum.inr.inj q)
  rw[decide_eq_false h,decide_eq_false e]
theorem b1n (a:Int)(b:Str):decide ((bX a:Key)=iD b)=false:=decide_eq_false (fun q=>nomatch q)
theorem b1m (a:Str)(b:Int):decide ((iD a:Key)=bX b)=false:=decide_eq_false (fun q=>nomatch q)
def L1 (prog:Program)(w:World):PySem.KeyKind prog w Key where
 is:=a2l
 hash:=b3u w
 inj:=fun v a b ha hb=>by
  rcases K2 ha with ⟨i,t,rfl,rfl⟩ | ⟨x,t,rfl,rfl⟩
  ·rcases K2 hb with ⟨j,u,rfl,e⟩ | ⟨y,u,rfl,e⟩
   ·injection e with e1 _;rw[e1]
   ·exact nomatch e
  ·rcases K2 hb with ⟨j,u,rfl,e⟩ | ⟨y,u,rfl,e⟩
   ·exact nomatch e
   ·injection e with e1 _;rw[e1]
 byValue:=fun k v h=>by
  rcases K2 h with ⟨i,t,rfl,rfl⟩ | ⟨x,t,rfl,rfl⟩<;>rfl
 pyHash:=fun hv h=>by
  rcases K2 hv with ⟨i,t,rfl,rfl⟩ | ⟨x,t,rfl,rfl⟩
  ·exact wpAny_pyHash_int h
  ·exact wpAny_pyHash_str h
 eqBool:=fun hu hv h=>by
  rcases K2 hu with ⟨i,t,rfl,rfl⟩ | ⟨x,t,rfl,rfl⟩
  ·rcases K2 hv with ⟨j,u,rfl,rfl⟩ | ⟨y,u,rfl,rfl⟩
   ·rw[b1o] at h;exact wpAny_eqBool_int h
   ·rw[b1n] at h;exact iZ i t y u _ _ _ _ h
  ·rcases K2 hv with ⟨j,u,rfl,rfl⟩ | ⟨y,u,rfl,rfl⟩
   ·rw[b1m] at h;exact iY x t j u _ _ _ _ h
   ·rw[b1l] at h;exact wpAny_eqBool_str h
 «strs»:=fun k x t v h=>by
  rcases K2 h with ⟨i,u,rfl,e⟩ | ⟨y,u,rfl,e⟩
  ·exact nomatch e
  ·injection e with e1 _
   subst e1;cases v<;>rfl
theorem a4i (prog:Program)(w:World)(i:Int)(t:Tok):(L1 prog w).is (.inl i) (.int i t)=true:=a6y i t
theorem a4h (prog:Program)(w:World)(x:Str)(t:Tok):(L1 prog w).is (.inr x) (.str x t)=true:=a6x x t
end L2
namespace L2
open PySem PySem.Spec PyProof.Rows
inductive V where
 | non | bl (b:Bool) | int (i:Int) | str (x:Str) | byt (b:Array UInt8) | flt (b:UInt64) | ref (a:Addr) | ty (n:String)
 deriving DecidableEq
def F0:V->Value->Prop
 | .non,u=>u=cw
 | .bl b,u=>u=aT b
 | .int i,u=>∃ t,u=cG i t
 | .str x,u=>∃ t,u=ge x t
 | .byt b,u=>∃ t,u=Value.bytes b t
 | .flt b,u=>∃ t,u=Value.float b t
 | .ref a,u=>u=bF a
 | .ty n,u=>u=cX n
abbrev C8:List V->List Value->Prop:=Paired F0
theorem C8.length {xs:List V}{us:List Value}(r:C8 xs us):xs.length=us.length:=fk r
theorem C8.get:∀ {xs:List V} {us:List Value} {i:Nat} {x:V},C8 xs us->xs[i]?=some x->∃ u,us[i]?=some u/\F0 x u
 | _,_,_,_,.nil,e=>by simp at e
 | _,_,0,_,.cons r _,e=>by simp at e;subst e;exact⟨_,rfl,r⟩
 | _,_,i+1,x,.cons _ t,e=>by
  obtain⟨u,h1,h2⟩:=C8.get (i:=i) (x:=x) t (by simpa using e);exact⟨u,by simpa using h1,h2⟩
theorem C8.set {x:V}{u:Value}(r:F0 x u):∀ {xs:List V} {us:List Value} (i:Nat),C8 xs us->C8 (xs.set i x) (us.set i u)
 | _,_,_,.nil=>.nil
 | _,_,0,.cons _ t=>.cons r t
 | _,_,i+1,.cons q t=>.cons q (C8.set r i t)
theorem C8.append:∀ {xs ys:List V} {us ws:List Value},C8 xs us->C8 ys ws->C8 (xs++ys) (us++ws)
 | _,_,_,_,.nil,s=>s
 | _,_,_,_,.cons r t,s=>.cons r (C8.append t s)
theorem C8.take:∀ {xs:List V} {us:List Value} (n:Nat),C8 xs us->C8 (xs.take n) (us.take n)
 | _,_,0,_=>.nil
 | _,_,_+1,.nil=>.nil
 | _,_,n+1,.cons r t=>.cons r (C8.take n t)
theorem C8.drop:∀ {xs:List V} {us:List Value} (n:Nat),C8 xs us->C8 (xs.drop n) (us.drop n)
 | _,_,0,r=>r
 | _,_,_+1,.nil=>.nil
 | _,_,n+1,.cons _ t=>C8.drop n t
def a3n:Option V->Option Value->Prop
 | some v,some u=>F0 v u
 | none,none=>True
 | _,_=>False
def KV {κ:Type}:List (κ×V)->List (κ×Value)->Prop:=Paired fun (p:κ×V) (q:κ×Value)=>p.1=q.1/\F0 p.2 q.2
def kV:Key->V
 | .inl i=>.int i
 | .inr x=>.str x
inductive HO where
 /-- a list -/
 | lst (xs:List V)
 /-- a tuple (never changes) -/
 | tup (xs:List V)
 /-- a dict whose keys are ints and texts;one whose keys are tuples of ints and texts (the empty one is both) -/
 | dK (kvs:List (Key×V)) | dT (kvs:List (List Key×V))
 /-- a set of ints: its members,its size -/
 | set (S:Int->Bool) (n:Nat)
 /-- an instance of the class at C,its dict at dx,its attributes -/
 | ins (C dx:Addr) (fs:List (Str×V))
 /-- the dict of the instance at x -/
 | own (x:Addr)
 /-- the dict of an exception -/
 | xd (fs:List (Str×V))
 /-- a bound method,f of x -/
 | met (f x:Addr)
 /-- a range object lo,lo+1,.. below hi -/
 | rng (lo hi:Int)
 /-- a thing that is known to the object (the script;a dict while a loop walks it): read,never written while it is so -/
 | frz (o:Obj) (u:HO)
 /-- a code object's table -/
 | tbl (ps:Array Value)
 /-- any other thing,by what is true of its one object (a def of one's own: SetO a S n:=HO.ext fun h=>..) -/
 | ext (φ:Heap->Prop)
abbrev Hp:=Addr->Option HO
def upd (H:Hp)(a:Addr)(o:HO):Hp:=fun b=>if b=a then some o else H b
theorem A2 {H:Hp}{a:Addr}{o:HO}:upd H a o a=some o:=by unfold upd;rw[if_pos rfl]
theorem B2 {H:Hp}{a b:Addr}{o:HO}(h:b≠a):upd H a o b=H b:=by unfold upd;rw[if_neg h]
theorem a0H {H:Hp}{a:Addr}{o u:HO}:upd (upd H a o) a u=upd H a u:=by
 funext b;unfold upd;split<;>rfl
theorem b0o {H:Hp}{a b:Addr}{o u:HO}(h:H a=some o)(h':H b=some u)(d:o≠u):a≠b:=by
 intro e;subst e;rw[h] at h';exact d (aG h')
theorem E2 {H:Hp}{a b:Addr}{o:HO}(h:H a=some o)(h':H b=none):a≠b:=by
 intro e;subst e;rw[h] at h';cases h'
section
variable (P:Program)(w:World)
def K8 (H:Hp)(h:Heap)(a:Addr):HO->Prop
 | .lst xs=>xs.length<=sizeLine/\∃(its:List Value) (n:Nat),C8 xs its/\h.get? a=some {cls:=.type "list",data:=.seq its.toArray n}
 | .tup xs=>xs.length<=sizeLine/\∃ its:List Value,C8 xs its/\IsTup h a its.toArray
 | .dK kvs=>kvs.length<=sizeLine/\(a == sysModules)=false/\∃ vs,KV kvs vs/\h.DictOf (L1 P w) a vs
 | .dT kvs=>kvs.length<=sizeLine/\(a == sysModules)=false/\∃ xs:List (List Key×Addr×Value),
   Paired (fun (p:List Key×V) (q:List Key×Addr×Value)=>p.1=q.1/\H q.2.1=some (.tup (p.1.map kV))/\F0 p.2 q.2.2) kvs xs /\
   ∃ o es ep,h.get? a=some o/\o.ExactDict/\o.data=.dict es ep/\es.toList=xs.map (entryOfKey (tupleKind (L1 P w)))/\(xs.map (·.1)).Nodup
 | .set S n=>h.SetOf (intKind P w) a S n
 | .ins C dx fs=>H dx=some (.own a)/\fs.length<=1000/\dx≠a/\h.get? a=some (dN C dx) /\
   ∃ mA,h.Ns1 dx mA/\(∀ f,a3n (fs.lookup f) (mA f))/\PySem.Within mA (fs.map (·.1))
 | .own _=>∃ o,h.get? a=some o
 | .xd fs=>∃ mA,h.Ns1 a mA/\∀ f,a3n (fs.lookup f) (mA f)
 | .rng lo hi=>∃ t u v,h.get? a=some {cls:=.type "range",data:=.fields #[.int lo t,.int hi u,.int 1 v]}
 | .frz o u=>h.get? a=some o/\K8 H h a u
 | .tbl ps=>h.get? a=some {cls:=.none,data:=.fields ps}
 | .met f x=>h.get? a=some (gE (.ref f) (.ref x))
 | .ext φ=>φ h/\(∃ o,h.get? a=some o)/\∀ h1 h2:Heap,φ h1->(∀ o,h1.get? a=some o->h2.get? a=some o)->φ h2
def HOk (H:Hp)(h:Heap):Prop:=∀ a o,H a=some o->K8 P w H h a o
end
section
variable {P:Program}{w:World}{H H':Hp}{h h':Heap}{a:Addr}{o:HO}
theorem K8.lt (x:K8 P w H h a o):a<h.objs.size:=by
 cases o with
 | lst xs=>obtain⟨_,_,_,_,e⟩:=x;exact aC e
 | tup xs=>obtain⟨_,_,_,p⟩:=x;exact p.lt
 | dK kvs=>obtain⟨_,_,_,_,o,_,_,e,_⟩:=x;exact aC e
 | dT kvs=>obtain⟨_,_,_,_,o,_,_,e,_⟩:=x;exact aC e
 | set S n=>obtain⟨o,_,_,_,e,_⟩:=x;exact aC e
 | ins C dx fs=>obtain⟨_,_,_,e,_⟩:=x;exact aC e
 | own y=>obtain⟨_,e⟩:=x;exact aC e
 | xd fs=>obtain⟨_,⟨_,_,_,e,_⟩,_⟩:=x;exact aC e
 | rng lo hi=>obtain⟨_,_,_,e⟩:=x;exact aC e
 | frz ob u=>obtain⟨e,_⟩:=x;exact aC e
 | tbl ps=>exact aC (show h.get? a=some _ from x)
 | met f y=>exact aC (show h.get? a=some _ from x)
 | ext φ=>obtain⟨_,⟨_,e⟩,_⟩:=x;exact aC e
theorem Paired.mapP {α β:Type}{F G:α->β->Prop}:∀ {lz:List α} {lj:List β},Paired F lz lj->(∀ a b,F a b->G a b)->Paired G lz lj
 | _,_,.nil,_=>.nil
 | _,_,.cons r t,f=>.cons (f _ _ r) (Paired.mapP t f)
theorem K8.stay (x:K8 P w H h a o)(k:∀ b u,(b=a\/H b=some (.own a))->h.get? b=some u->h'.get? b=some u)
  (ho:∀ b,H b=some (.own a)->H' b=some (.own a)) (ht:∀ b xs,H b=some (.tup xs)->H' b=some (.tup xs)):K8 P w H' h' a o:=by
 induction o with
 | lst xs=>obtain⟨z,its,n,r,e⟩:=x;exact⟨z,its,n,r,k _ _ (.inl rfl) e⟩
 | tup xs=>obtain⟨z,its,r,ob,e,c⟩:=x;exact⟨z,its,r,ob,k _ _ (.inl rfl) e,c⟩
 | dK kvs=>obtain⟨z,y,vs,r,ob,es,ep,e,c⟩:=x;exact⟨z,y,vs,r,ob,es,ep,k _ _ (.inl rfl) e,c⟩
 | dT kvs =>
  obtain⟨z,y,xs,r,ob,es,ep,e,c⟩:=x;exact⟨z,y,xs,Paired.mapP r fun p q z=>⟨z.1,ht _ _ z.2.1,z.2.2⟩,ob,es,ep,k _ _ (.inl rfl) e,c⟩
 | set S n=>obtain⟨ob,es,ep,t,e,c⟩:=x;exact⟨ob,es,ep,t,k _ _ (.inl rfl) e,c⟩
 | ins C dx fs =>
  obtain⟨d,z,ne,e,mA,⟨od,es,ep,e2,c⟩,r⟩:=x;exact⟨ho _ d,z,ne,k _ _ (.inl rfl) e,mA,⟨od,es,ep,k _ _ (.inr d) e2,c⟩,r⟩
 | own y=>obtain⟨ob,e⟩:=x;exact⟨ob,k _ _ (.inl rfl) e⟩
 | xd fs=>obtain⟨mA,⟨od,es,ep,e,c⟩,r⟩:=x;exact⟨mA,⟨od,es,ep,k _ _ (.inl rfl) e,c⟩,r⟩
 | rng lo hi=>obtain⟨t,u,v,e⟩:=x;exact⟨t,u,v,k _ _ (.inl rfl) e⟩
 | frz ob u ih=>obtain⟨e,q⟩:=x;exact⟨k _ _ (.inl rfl) e,ih q⟩
 | tbl ps =>
  have e:h.get? a=some {cls:=.none,data:=.fields ps}:=x;show h'.get? a=some {cls:=.none,data:=.fields ps};exact k a _ (.inl rfl) e
 | met f y =>
  have e:h.get? a=some (gE (.ref f) (.ref y)):=x;show h'.get? a=some (gE (.ref f) (.ref y));exact k a _ (.inl rfl) e
 | ext φ=>obtain⟨p,⟨o,e⟩,st⟩:=x;exact⟨st _ _ p fun o q=>k _ _ (.inl rfl) q,⟨o,k _ _ (.inl rfl) e⟩,st⟩
theorem HOk.lt (x:HOk P w H h)(e:H a=some o):a<h.objs.size:=(x a o e).lt
theorem HOk.fresh (x:HOk P w H h)(e:h.objs.size<=a):H a=none:=by
 cases q:H a with
 | none=>rfl
 | some u=>exact absurd (bh (x.lt q) e) (cP _)
theorem HOk.kept (x:HOk P w H h)(k:∀ b u,h.get? b=some u->h'.get? b=some u):HOk P w H h':=fun a o e =>
 (x a o e).stay (fun b u _ q=>k b u q) (fun _ q=>q) fun _ _ q=>q
theorem HOk.laid (x:HOk P w H h)(k:∀ b u,h.get? b=some u->h'.get? b=some u)(hp:h.objs.size<=a)(new:K8 P w (upd H a o) h' a o):HOk P w (upd H a o) h':=fun b u e=>by
 have hn:=x.fresh hp;by_cases hb:b=a
 ·subst hb;rw[A2] at e;cases e;exact new
 ·rw[B2 hb] at e;exact (x b u e).stay (fun c v _ q=>k c v q) (fun c q=>by rw[B2 (E2 q hn)];exact q) fun c xs q=>by rw[B2 (E2 q hn)];exact q
end
def Rd (H:Hp)(a:Addr)(u:HO):Prop:=H a=some u\/∃ o,H a=some (.frz o u)
theorem Rd.of {H:Hp}{a:Addr}{u:HO}(h:H a=some u):Rd H a u:=.inl h
theorem Rd.ok {P:Program}{w:World}{H:Hp}{h:Heap}{a:Addr}{u:HO}(r:Rd H a u)(x:HOk P w H h):K8 P w H h a u:=by
 rcases r with r | ⟨o,r⟩
 ·exact x a u r
 ·obtain⟨_,q⟩:=x a _ r;exact q
def Mut:Option HO->Prop
 | some (.lst _)=>True
 | some (.dK _)=>True
 | some (.dT _)=>True
 | some (.set _ _)=>True
 | some (.ins _ _ _)=>True
 | some (.ext _)=>True
 | _=>False
section
variable {P:Program}{w:World}{H:Hp}{h h':Heap}{x e:Addr}{o':HO}
theorem HOk.write (ok:HOk P w H h)(mu:Mut (H x))(he:e=x\/H e=some (.own x))(k:∀ b u,b≠e->h.get? b=some u->h'.get? b=some u)(heo:∃ u,h'.get? e=some u)
  (new:K8 P w (upd H x o') h' x o'):HOk P w (upd H x o') h':=fun b u q=>by
 have nown:∀ c y,H c=some (.own y)->c≠x:=fun c y r z=>by subst z;rw[r] at mu;exact mu
 have ntup:∀ c xs,H c=some (.tup xs)->c≠x:=fun c xs r z=>by subst z;rw[r] at mu;exact mu
 by_cases hb:b=x
 ·subst hb;rw[A2] at q;cases q;exact new
 ·rw[B2 hb] at q;by_cases hbe:b=e
  ·have q':H b=some (.own x):=by
    rcases he with z | z
    ·exact absurd (hbe.trans z) hb
    ·rw[hbe];exact z
   rw[q] at q';cases q';obtain⟨v,hv⟩:=heo;exact⟨v,by rw[hbe];exact hv⟩
  ·refine (ok b u q).stay (fun c v hc r=>k c v ?_ r) (fun c r=>by rw[B2 (nown c b r)];exact r) fun c xs r=>by rw[B2 (ntup c xs r)];exact r
   rcases hc with rfl | hc
   ·exact hbe
   ·rintro rfl;rcases he with z | z
    ·exact nown c b hc z
    ·rw[hc] at z;cases z;exact hb rfl
end
structure Un (fs ex:List Addr)(H H':Hp)(h h':Heap):Prop where
 keep:∀ b o,h.get? b=some o->H b=none->b∉fs->b∉ex->h'.get? b=some o
 slot:∀ b o,h.get? b=some o->H b=none->b∈fs->b∉ex->∃ sl,h'.get? b=some {o with slots:=sl}
 free:∀ b o,h.get? b=some o->H b=none->b∉ex->H' b=none
 there:∀ b o,h.get? b=some o->b∉ex->∃ o',h'.get? b=some o'
 tups:∀ b xs,H b=some (.tup xs)->H' b=some (.tup xs)
 frzs:∀ b o u,H b=some (.frz o u)->H' b=some (.frz o u)
 tbls:∀ b ps,H b=some (.tbl ps)->∃ more,H' b=some (.tbl (ps++more))
section
variable {fs fs' ex ex':List Addr}{H H1 H2:Hp}{h h1 h2 h':Heap}{a x e:Addr}{o:HO}
theorem Un.any (u:Un fs ex H H1 h h1){b:Addr}{ob:Obj}(q:h.get? b=some ob)(n:H b=none)(hx:b∉ex):∃ sl,h1.get? b=some {ob with slots:=sl}:=by
 by_cases hb:b∈fs
 ·exact u.slot b ob q n hb hx
 ·exact⟨ob.slots,u.keep b ob q n hb hx⟩
theorem Un.trans (a:Un fs ex H H1 h h1)(b:Un fs ex H1 H2 h1 h2):Un fs ex H H2 h h2 where
 keep:=fun c ob q n hc hx=>b.keep c ob (a.keep c ob q n hc hx) (a.free c ob q n hx) hc hx
 slot:=fun c ob q n hc hx=>by
  obtain⟨sl,e1⟩:=a.slot c ob q n hc hx;obtain⟨sl',e2⟩:=b.slot c _ e1 (a.free c ob q n hx) hc hx;exact⟨sl',e2⟩
 free:=fun c ob q n hx=>by
  obtain⟨o',e1⟩:=a.there c ob q hx;exact b.free c o' e1 (a.free c ob q n hx) hx
 there:=fun c ob q hx=>by
  obtain⟨o',e1⟩:=a.there c ob q hx;exact b.there c o' e1 hx
 tups:=fun c xs q=>b.tups c xs (a.tups c xs q)
 frzs:=fun c ob xs q=>b.frzs c ob xs (a.frzs c ob xs q)
 tbls:=fun c ps q=>by
  obtain⟨m1,e1⟩:=a.tbls c ps q;obtain⟨m2,e2⟩:=b.tbls c _ e1;exact⟨m1++m2,by rw[e2,jJ]⟩
theorem Un.kept (k:∀ b u,h.get? b=some u->h'.get? b=some u):Un fs ex H H h h' :=
 ⟨fun b ob q _ _ _=>k b ob q,fun b ob q _ _ _=>⟨ob.slots,k b ob q⟩,fun _ _ _ n _=>n,fun b ob q _=>⟨ob,k b ob q⟩,fun _ _ q=>q,fun _ _ _ q=>q,fun _ ps q=>⟨#[],by rw[q];simp⟩⟩
theorem Un.refl:Un fs ex H H h h:=Un.kept fun _ _ q=>q
theorem Un.laid (k:∀ b u,h.get? b=some u->h'.get? b=some u)(hp:h.objs.size<=a)(hn:H a=none):Un fs ex H (upd H a o) h h' where
 keep:=fun b u q _ _ _=>k b u q
 slot:=fun b u q _ _ _=>⟨u.slots,k b u q⟩
 free:=fun b u q n _=>by rw[B2 (aP (bh (aC q) hp))];exact n
 there:=fun b u q _=>⟨u,k b u q⟩
 tups:=fun b xs q=>by rw[B2 (E2 q hn)];exact q
 frzs:=fun b u xs q=>by rw[B2 (E2 q hn)];exact q
 tbls:=fun b ps q=>⟨#[],by rw[B2 (E2 q hn),q];simp⟩
theorem Un.write (mu:Mut (H x))(he:e=x\/H e=some (.own x))(k:∀ b u,b≠e->h.get? b=some u->h'.get? b=some u)(heo:∃ u,h'.get? e=some u):Un fs ex H (upd H x o) h h':=by
 have hx:∀ b,H b=none->b≠x:=fun b n z=>by subst z;rw[n] at mu;exact mu
 have hb:∀ b,H b=none->b≠e:=fun b n z=>by
  subst z;rcases he with r | r
  ·exact hx b n r
  ·rw[n] at r;cases r
 have hm:∀ b u,H b=some u->¬ Mut (some u)->b≠x:=fun b u q nm z=>by subst z;rw[q] at mu;exact nm mu
 refine⟨fun b u q n _ _=>k b u (hb b n) q,fun b u q n _ _=>⟨u.slots,k b u (hb b n) q⟩,fun b u q n _=>by rw[B2 (hx b n)];exact n,fun b u q _=>?_,
  fun b xs q=>by rw[B2 (hm b _ q fun z=>z)];exact q,fun b u xs q=>by rw[B2 (hm b _ q fun z=>z)];exact q,fun b ps q=>⟨#[],by rw[B2 (hm b _ q fun z=>z),q];simp⟩⟩
 by_cases hbe:b=e
 ·subst hbe;exact heo
 ·exact⟨u,k b u hbe q⟩
theorem Un.mono (u:Un fs ex H H1 h h1)(hs:∀ b∈fs,b∈fs')(hx:∀ b∈ex,b∈ex'):Un fs' ex' H H1 h h1 :=
 ⟨fun b ob q n hb he=>u.keep b ob q n (fun z=>hb (hs b z)) fun z=>he (hx b z),fun _ _ q n _ he=>u.any q n fun z=>he (hx _ z),fun b ob q n he=>u.free b ob q n fun z=>he (hx b z),fun b ob q he=>u.there b ob q fun z=>he (hx b z),u.tups,u.frzs,u.tbls⟩
end
def trk (h:Heap)(H:Hp):List Addr:=(List.range h.objs.size).filter fun a=>(H a).isSome
def a3a (h:Heap)(H:Hp):Heap:=PySem.W.hideAll h (trk h H)
theorem a6F (h:Heap)(H:Hp):(a3a h H).objs.size=h.objs.size:=PySem.W.hideAll_size _ _
theorem a8q {h:Heap}{H:Hp}{b:Addr}{o:Obj}(e:h.get? b=some o)(n:H b=none):(a3a h H).get? b=some o :=
 PySem.W.hideAll_get _ e fun hm=>by
  have q:(H b).isSome=true:=(bd.mp hm).2;rw[n] at q;simp at q
theorem a9m {h:Heap}{H:Hp}{b:Addr}{o:Obj}(e:(a3a h H).get? b=some o):h.get? b=some o/\H b=none:=by
 have e':h.get? b=some o:=PySem.W.of_hideAll (trk h H) e;refine⟨e',?_⟩;cases q:H b with
 | none=>rfl
 | some x =>
  have hm:b∈trk h H:=bd.mpr ⟨cn.mpr (aC e'),by simp[q]⟩;have z:(a3a h H).get? b=none:=PySem.W.hideAll_none (trk h H) hm;rw[z] at e;cases e
def a9P (g h:Heap)(L:Addr):List (Addr×Obj):=(List.range h.objs.size).filterMap fun a=>if a=L\/(g.get? a).isSome=true then none else (h.get? a).map fun o=>(a,o)
def rest (g h:Heap)(L d:Addr):List (Addr×Obj):=(a9P g h L).filter fun p=>decide (p.1≠d)
end L2
namespace L2
open PySem PySem.Spec PyProof.Rows
structure Mod (K:ae)(mg:Str->Option Value)(base:Heap):Prop where
 kin:K.In base
 glob:base.Ns mainGlobals mg
 blt:∃ mb,base.Ns builtinsNs mb/\∀ x:Str,x≠"__name__"->mb x=bootBuiltins x
 nolimit:base.NoLimit
structure Cx where
 prog:Program
 w:World
 K:ae
 mg:Str->Option Value
 base:Heap
 A:Around
 N:List Str
 s₀:Shared
 Hz:Hp
 env:Env
 outer:List Env
 stack:List Env
 ex:List Addr
 fn:Str->Bool
 calm:Bool
 pn:List (Addr×Obj)
 xe:Value->Shared->Prop
def frs (l:List Env):List Addr:=l.filterMap (·.frame)
abbrev Cx.fs (X:Cx):List Addr:=frs X.outer
def Vis (sc:Scope)(x:Str):Prop:=sc.names.lookup x=some .local\/sc.names.lookup x=some .cell\/sc.names.lookup x=some .free
def Loc (sc:Scope)(x:Str):Prop:=sc.names.lookup x=some .local\/sc.names.lookup x=some .cell
def b3E (env:Env)(h:Heap)(m:Str->Option Value)(x:Str)(u:Value):Prop :=
 (env.kindOf x=some .local/\m x=some u)\/((env.kindOf x=some .cell\/env.kindOf x=some .free)/\∃ c,env.cells.lookup x=some c/\h.IsCell c (some u))
structure Cx.Ok (X:Cx):Prop where
 mod:Mod X.K X.mg X.base
 kind:X.env.scope.kind=.function
 glob:X.env.globals=mainGlobals
 blt:X.env.builtins=builtinsNs
 above:X.s₀.heap.objs.size<=X.env.locals
 inj:∀ x y c,X.env.cells.lookup x=some c->X.env.cells.lookup y=some c->x=y
 has:∀ x,(X.env.kindOf x=some .cell\/X.env.kindOf x=some .free)->∃ c,X.env.cells.lookup x=some c
 cab:∀ x c,X.fn x=true->X.env.cells.lookup x=some c->X.s₀.heap.objs.size<=c
 hd:X.calm=true->X.A.handled=none
 frames:X.A.frames=some X.stack
 stk:X.stack=X.outer\/(X.stack=X.env::X.outer/\X.env.frame=some X.env.locals)
 exf:∀ b∈X.ex,b≠X.env.locals/\∀ x c,X.env.cells.lookup x=some c->c≠b
 bs:∀ b o,X.base.get? b=some o->X.s₀.heap.get? b=some o/\X.Hz b=none
 bsz:X.base.objs.size<=X.s₀.heap.objs.size
 noex:∀ b o,X.base.get? b=some o->b∉X.ex
 exfs:∀ b∈X.ex,b∉X.fs
 funs:X.s₀.heap.FunFrames X.base X.outer
 frf:∀ b∈X.fs,X.Hz b=none
structure Inv (X:Cx)(pins:List (Addr×Obj))(σ:List (Option V))(H:Hp)(s:Shared):Prop where
 ok:X.Ok
 os:s.os=X.s₀.os
 bare:AllBare s.gens
 base:Un X.fs X.ex X.Hz H X.s₀.heap s.heap
 loc:∃ m,s.heap.Ns X.env.locals m/\∀(i:Nat) (x:Str) (v:V),X.N[i]?=some x->σ[i]?=some (some v)->Vis X.env.scope x->∃ u,F0 v u/\b3E X.env s.heap m x u
 cell:∀ x c,X.env.cells.lookup x=some c->∃ v,s.heap.IsCell c v
 free:H X.env.locals=none
 freeC:∀ x c,X.env.cells.lookup x=some c->H c=none
 pin:∀ p∈X.pn++pins,s.heap.get? p.1=some p.2/\H p.1=none/\p.1≠X.env.locals/\p.1∉X.fs/\∀ v,p.2.data≠.cell v
 hok:HOk X.prog X.w H s.heap
 len:σ.length=X.N.length
section
variable {X:Cx}{pins:List (Addr×Obj)}{σ:List (Option V)}{H H':Hp}{s:Shared}{h':Heap}
theorem Cx.Ok.nofr (ok:X.Ok){b:Addr}{o:Obj}(e:X.base.get? b=some o):b∉X.fs:=fun hb=>by
 have:=(ok.funs.mem hb).1;rw[e] at this;cases this
theorem Inv.bs (I:Inv X pins σ H s):∀ b o,X.base.get? b=some o->s.heap.get? b=some o/\H b=none:=fun b o e =>
 ⟨I.base.keep b o (I.ok.bs b o e).1 (I.ok.bs b o e).2 (I.ok.nofr e) (I.ok.noex b o e),I.base.free b o (I.ok.bs b o e).1 (I.ok.bs b o e).2 (I.ok.noex b o e)⟩
theorem Inv.bk (I:Inv X pins σ H s):∀ b o,X.base.get? b=some o->s.heap.get? b=some o:=fun b o e=>(I.bs b o e).1
theorem Inv.mod (I:Inv X pins σ H s):Mod X.K X.mg X.base:=I.ok.mod
theorem Inv.kIn (I:Inv X pins σ H s):X.K.In s.heap:=I.ok.mod.kin.keeps I.bk
theorem Inv.nolimit (I:Inv X pins σ H s):s.heap.NoLimit:=I.ok.mod.nolimit.keeps I.bk
theorem Inv.lt (I:Inv X pins σ H s):X.env.locals<s.heap.objs.size:=let ⟨_,hn,_⟩:=I.loc;hn.lt
theorem Inv.sz (I:Inv X pins σ H s):X.s₀.heap.objs.size<=s.heap.objs.size:=bj I.ok.above (cH I.lt)
theorem Inv.nofs (I:Inv X pins σ H s){a:Addr}(h:s.heap.objs.size<=a):a∉X.fs:=fun hb=>by
 obtain⟨_,o,ho,_⟩:=I.ok.funs.mem hb;exact absurd (bh (aC ho) (bj I.sz h)) (cP _)
theorem Inv.cne (I:Inv X pins σ H s):∀ x c,X.env.cells.lookup x=some c->c≠X.env.locals:=fun x c e z=>by
 obtain⟨v,o,ho,hd⟩:=I.cell x c e;obtain⟨m,⟨o',es,ep,ho',hd',_⟩,_⟩:=I.loc;rw[z,ho'] at ho;cases ho;rw[hd'] at hd;cases hd
theorem Inv.funs (I:Inv X pins σ H s):s.heap.FunFrames X.base X.outer:=by
 have all:∀(l:List Env),(∀ b∈frs l,b∈X.fs)->X.s₀.heap.FunFrames X.base l->s.heap.FunFrames X.base l:=by
  intro l;induction l with
  | nil=>intro _ _;trivial
  | cons env r ih =>
   intro hs hl;obtain⟨hk,⟨L,o,hf,hn,ho,hd⟩,hr⟩:=hl;have hL:L∈X.fs:=hs L (by unfold frs;rw[eM,hf];exact aN);obtain⟨sl,e⟩:=I.base.slot L o ho (I.ok.frf L hL) hL fun z=>I.ok.exfs L z hL
   exact⟨hk,⟨L,_,hf,hn,e,hd⟩,ih (fun b hb=>hs b (by unfold frs;rw[eM,hf];exact aM _ hb)) hr⟩
 exact all X.outer (fun _ hb=>hb) I.ok.funs
theorem Inv.stack (I:Inv X pins σ H s):s.heap.FunFrames X.base X.stack:=by
 rcases I.ok.stk with e | ⟨e,hf⟩
 ·rw[e];exact I.funs
 ·rw[e];obtain⟨m,hn,_⟩:=I.loc;refine .cons (by rw[I.ok.kind];decide) hf hn ?_ I.funs;exact Heap.get?_none_of_le (bj I.ok.bsz I.ok.above)
theorem Inv.stkSub (I:Inv X pins σ H s):∀ b∈frs X.stack,b∈X.env.locals::X.fs:=fun b hb=>by
 rcases I.ok.stk with e | ⟨e,hf⟩
 ·rw[e] at hb;exact aM _ hb
 ·rw[e] at hb;unfold frs at hb;rw[eM,hf] at hb;exact hb
theorem Inv.stkFree (I:Inv X pins σ H s):∀ b∈frs X.stack,H b=none:=fun b hb=>by
 rcases aD.mp (I.stkSub b hb) with e | hb
 ·rw[e];exact I.free
 ·obtain⟨_,o,ho,_⟩:=I.ok.funs.mem hb;exact I.base.free b o ho (I.ok.frf b hb) fun z=>I.ok.exfs b z hb
theorem Inv.step {g':Array GenState}{t':Nat}{d':Drawn}{ch:List Addr}(I:Inv X pins σ H s)
  (hch:∀ b∈ch,(b∈X.ex\/X.s₀.heap.objs.size<=b)/\b≠X.env.locals/\(∀ x c,X.env.cells.lookup x=some c->c≠b)/\∀ p∈X.pn++pins,p.1≠b)
  (keep:∀ b o,b≠X.env.locals->b∉X.fs->b∉ch->s.heap.get? b=some o->H b=none->h'.get? b=some o)
  (slot:∀ b o,b≠X.env.locals->b∈X.fs->b∉ch->s.heap.get? b=some o->H b=none->∃ sl,h'.get? b=some {o with slots:=sl}) (free:∀ b o,b∉ch->s.heap.get? b=some o->H b=none->H' b=none)
  (there:∀ b o,b∉ch->s.heap.get? b=some o->∃ o',h'.get? b=some o')
  (tups:∀ b xs,H b=some (.tup xs)->H' b=some (.tup xs)) (frzs:∀ b o u,H b=some (.frz o u)->H' b=some (.frz o u)) (tbls:∀ b ps,H b=some (.tbl ps)->∃ more,H' b=some (.tbl (ps++more)))
  (ns:∀ m,s.heap.Ns X.env.locals m->h'.Ns X.env.locals m) (hok:HOk X.prog X.w H' h') (hg:AllBare g') :
  Inv X pins σ H' {s with heap:=h',gens:=g',drawn:=d',toks:=t'}:=by
 have neL:∀ b o,X.s₀.heap.get? b=some o->b≠X.env.locals:=fun b o e=>aP (bh (aC e) I.ok.above)
 have neC:∀ b o,X.s₀.heap.get? b=some o->b∉X.ex->b∉ch:=fun b o e hx hb=>by
  rcases (hch b hb).1 with z | z
  ·exact hx z
  ·exact absurd (bh (aC e) z) (cP _)
 have cellK:∀ x c,X.env.cells.lookup x=some c->∀ v,s.heap.IsCell c v->h'.IsCell c v:=fun x c e v ⟨o,ho,hd⟩=>by
  have nch:c∉ch:=fun z=>(hch c z).2.2.1 x c e rfl
  by_cases hc:c∈X.fs
  ·obtain⟨sl,q⟩:=slot c o (I.cne x c e) hc nch ho (I.freeC x c e);exact⟨_,q,hd⟩
  ·exact⟨o,keep c o (I.cne x c e) hc nch ho (I.freeC x c e),hd⟩
 refine⟨I.ok,I.os,hg,⟨fun b o e n hb hx=>?_,fun b o e n hb hx=>?_,fun b o e n hx=>?_,fun b o e hx=>?_,fun b xs e=>tups b xs (I.base.tups b xs e),fun b o xs e=>frzs b o xs (I.base.frzs b o xs e),fun b ps e=>?_⟩,?_,fun x c e=>?_,?_,fun x c e=>?_,fun p hp=>?_,hok,I.len⟩
 ·exact keep b o (neL b o e) hb (neC b o e hx) (I.base.keep b o e n hb hx) (I.base.free b o e n hx)
 ·obtain⟨sl,e1⟩:=I.base.slot b o e n hb hx;obtain⟨sl',e2⟩:=slot b _ (neL b o e) hb (neC b o e hx) e1 (I.base.free b o e n hx);exact⟨sl',e2⟩
 ·obtain⟨o',e1⟩:=I.base.there b o e hx;exact free b o' (neC b o e hx) e1 (I.base.free b o e n hx)
 ·obtain⟨o',e1⟩:=I.base.there b o e hx;exact there b o' (neC b o e hx) e1
 ·obtain⟨m1,e1⟩:=I.base.tbls b ps e;obtain⟨m2,e2⟩:=tbls b _ e1;exact⟨m1++m2,by rw[e2,jJ]⟩
 ·obtain⟨m,hn,hl⟩:=I.loc;refine⟨m,ns m hn,fun i x v e1 e2 e3=>?_⟩;obtain⟨u,r,l⟩:=hl i x v e1 e2 e3;refine⟨u,r,?_⟩;rcases l with l | ⟨k,c,e,z⟩
  ·exact .inl l
  ·exact .inr ⟨k,c,e,cellK x c e _ z⟩
 ·obtain⟨v,z⟩:=I.cell x c e;exact⟨v,cellK x c e v z⟩
 ·obtain⟨m,⟨o,_,_,ho,_⟩,_⟩:=I.loc;exact free _ o (fun z=>(hch _ z).2.1 rfl) ho I.free
 ·obtain⟨v,o,ho,hd⟩:=I.cell x c e;exact free c o (fun z=>(hch c z).2.2.1 x c e rfl) ho (I.freeC x c e)
 ·obtain⟨e,n,ne,nf,d⟩:=I.pin p hp;have nch:p.1∉ch:=fun z=>(hch p.1 z).2.2.2 p hp rfl
  exact⟨keep p.1 p.2 ne nf nch e n,free p.1 p.2 nch e n,ne,nf,d⟩
theorem Inv.un {t':Nat}(I:Inv X pins σ H s)(u:Un X.fs [] H H' s.heap h')(hok:HOk X.prog X.w H' h'):Inv X pins σ H' {s with heap:=h',toks:=t'}:=by
 obtain⟨m,⟨o,es,ep,ho,r⟩,_⟩:=id I.loc;obtain⟨sl,hL⟩:=u.any ho I.free (by simp)
 exact I.step (g':=s.gens) (d':=s.drawn) (ch:=[]) (fun _ z=>nomatch z) (fun b o _ hb _ e n=>u.keep b o e n hb (by simp)) (fun b o _ hb _ e n=>u.slot b o e n hb (by simp)) (fun b o _ e n=>u.free b o e n (by simp)) (fun b o _ e=>u.there b o e (by simp)) u.tups u.frzs u.tbls (fun m' hm=>by
  obtain⟨o',es',ep',ho',r'⟩:=hm;rw[ho] at ho';cases ho'
  exact⟨_,es',ep',hL,r'⟩) hok I.bare
theorem Inv.call {g':Array GenState}{t':Nat}{d':Drawn}{ch:List Addr}(I:Inv X pins σ H s)(u:Un (frs X.stack) ch H H' s.heap h')(hok:HOk X.prog X.w H' h')(hg:AllBare g')
  (hch:∀ b∈ch,(b∈X.ex\/X.s₀.heap.objs.size<=b)/\b≠X.env.locals/\(∀ x c,X.env.cells.lookup x=some c->c≠b)/\∀ p∈X.pn++pins,p.1≠b) :
  Inv X pins σ H' {s with heap:=h',gens:=g',drawn:=d',toks:=t'}:=by
 obtain⟨m,⟨o,es,ep,ho,r⟩,_⟩:=id I.loc;obtain⟨sl,hL⟩:=u.any ho I.free fun z=>(hch _ z).2.1 rfl
 exact I.step (ch:=ch) hch (fun b o hL hb hc e n=>u.keep b o e n (fun z=>(aD.mp (I.stkSub b z)).elim hL hb) hc) (fun b o _ _ hc e n=>u.any e n hc) (fun b o hc e n=>u.free b o e n hc) (fun b o hc e=>u.there b o e hc) u.tups u.frzs u.tbls (fun m' hm=>by
  obtain⟨o',es',ep',ho',r'⟩:=hm;rw[ho] at ho';cases ho'
  exact⟨_,es',ep',hL,r'⟩) hok hg
theorem Inv.turned {t':Nat}{it:Addr}(I:Inv X pins σ H s)(k:∀ b o,b≠it->s.heap.get? b=some o->h'.get? b=some o)(hn:H it=none)(hL:it≠X.env.locals)
  (h1:it∈X.ex\/X.s₀.heap.objs.size<=it) (h2:∀ x c,X.env.cells.lookup x=some c->c≠it) (h3:∀ p∈X.pn++pins,p.1≠it):Inv X pins σ H {s with heap:=h',toks:=t'}:=by
 have nit:∀ b u,H b=some u->b≠it:=fun b u e z=>by rw[z,hn] at e;cases e
 refine I.step (g':=s.gens) (d':=s.drawn) (ch:=[it]) (fun b hb=>?_) (fun b o _ _ hc e _=>k b o (fun z=>hc (by simp[z])) e) (fun b o _ _ hc e _=>⟨o.slots,k b o (fun z=>hc (by simp[z])) e⟩) (fun _ _ _ _ n=>n)
  (fun b o hc e=>⟨o,k b o (fun z=>hc (by simp[z])) e⟩) (fun _ _ e=>e) (fun _ _ _ e=>e) (fun b ps e=>⟨#[],by rw[e];simp⟩) (fun m hm=>?_) (fun b u e=>?_) I.bare
 ·have e:b=it:=by simpa using hb
  subst e;exact⟨h1,hL,h2,h3⟩
 ·obtain⟨o,es,ep,ho,r⟩:=hm;exact⟨o,es,ep,k _ o (fG hL) ho,r⟩
 ·refine (I.hok b u e).stay (fun c v hc q=>k c v ?_ q) (fun _ q=>q) fun _ _ q=>q
  rcases hc with z | z
  ·rw[z];exact nit b u e
  ·exact nit c _ z
theorem Inv.tok (I:Inv X pins σ H s)(t:Nat):Inv X pins σ H {s with toks:=t}:=I.un (h':=s.heap) (t':=t) Un.refl I.hok
theorem Inv.kept {t':Nat}(I:Inv X pins σ H s)(k:∀ b u,s.heap.get? b=some u->h'.get? b=some u):Inv X pins σ H {s with heap:=h',toks:=t'}:=I.un (Un.kept k) (I.hok.kept k)
theorem Inv.laid {a:Addr}{o:HO}{t':Nat}(I:Inv X pins σ H s)(k:∀ b u,s.heap.get? b=some u->h'.get? b=some u)(hp:s.heap.objs.size<=a)(new:K8 X.prog X.w (upd H a o) h' a o) :
  Inv X pins σ (upd H a o) {s with heap:=h',toks:=t'}:=I.un (Un.laid k hp (I.hok.fresh hp)) (I.hok.laid k hp new)
theorem Inv.write {x e:Addr}{o:HO}{t':Nat}(I:Inv X pins σ H s)(mu:Mut (H x))(he:e=x\/H e=some (.own x))(k:∀ b u,b≠e->s.heap.get? b=some u->h'.get? b=some u)(heo:∃ u,h'.get? e=some u)
  (new:K8 X.prog X.w (upd H x o) h' x o):Inv X pins σ (upd H x o) {s with heap:=h',toks:=t'}:=I.un (Un.write mu he k heo) (I.hok.write mu he k heo new)
theorem Inv.pins_of {pins':List (Addr×Obj)}(I:Inv X pins σ H s)(h:∀ p∈pins',s.heap.get? p.1=some p.2/\H p.1=none/\p.1≠X.env.locals/\p.1∉X.fs/\∀ v,p.2.data≠.cell v):Inv X pins' σ H s :=
 ⟨I.ok,I.os,I.bare,I.base,I.loc,I.cell,I.free,I.freeC,fun p hp=>(ak.mp hp).elim (fun z=>I.pin p (cM _ z)) (h p),I.hok,I.len⟩
theorem a4e {N:List Str}(hN:N.Nodup){i j:Nat}{x:Str}(a:N[i]?=some x)(b:N[j]?=some x):i=j:=by
 obtain⟨h1,e1⟩:=aA.mp a;obtain⟨h2,e2⟩:=aA.mp b;exact (List.getElem_inj hN).mp (e1.trans e2.symm)
theorem a0p {M:Model}{A:Around}{E:Value->Shared->Prop}{i:Nat}{x:Str}{v:V}{u:Value}{Q:Unit->Shared->Prop}(I:Inv X pins σ H s)(hN:X.N.Nodup)(hi:X.N[i]?=some x)(hx:Loc X.env.scope x)(r:F0 v u)
  (h:∀ s',Inv X pins (σ.set i (some v)) H s'->(∃ a,dF a s.heap s'.heap/\(a=X.env.locals\/X.env.cells.lookup x=some a))->Q () s') (hf:X.fn x=true\/X.env.scope.names.lookup x=some .local:=by first | exact .inl rfl | exact .inr rfl | assumption):wpAny M A (storeName X.env x u) Q E s:=by
 obtain⟨m,hn,hl⟩:=id I.loc;have hcls:(X.env.scope.kind == .class || (X.env.scope.kind == .module && X.env.locals != X.env.globals))=false:=by rw[I.ok.kind];rfl
 have hiσ:i<σ.length:=by rw[I.len];exact (aA.mp hi).1
 have cne:=I.cne;have tracked:∀ {a:Addr} {h':Heap},(∃ o,s.heap.get? a=some o/\H a=none)->dF a s.heap h'->HOk X.prog X.w H h':=fun {a h'} ha hs b ob e=>by
  obtain⟨_,_,hfree⟩:=ha;refine (I.hok b ob e).stay (fun c w' hc q=>(hs.2 c ?_).trans q) (fun _ q=>q) fun _ _ q=>q
  rintro rfl;rcases hc with rfl | hc
  ·rw[hfree] at e;cases e
  ·rw[hfree] at hc;cases hc
 rcases hx with hk | hk
 ·refine wpAny_storeName_local hk hn (fun h' hn' hs=>?_) hcls;obtain⟨oL,_,_,hoL,_⟩:=id hn;refine h _ ⟨I.ok,I.os,I.bare,⟨fun b o e n hb hx=>?_,fun b o e n hb hx=>?_,I.base.free,fun b o e hx=>?_,I.base.tups,I.base.frzs,I.base.tbls⟩,⟨_,hn',fun j y v' e1 e2 e3=>?_⟩,fun y c e=>?_,I.free,I.freeC,fun p hp=>?_,tracked ⟨oL,hoL,I.free⟩ hs,by simpa using I.len⟩ ⟨_,hs,.inl rfl⟩
  ·exact (hs.2 b (aP (bh (aC e) I.ok.above))).trans (I.base.keep b o e n hb hx)
  ·obtain⟨sl,e1⟩:=I.base.slot b o e n hb hx;exact⟨sl,(hs.2 b (aP (bh (aC e) I.ok.above))).trans e1⟩
  ·obtain⟨o',e1⟩:=I.base.there b o e hx;exact⟨o',(hs.2 b (aP (bh (aC e) I.ok.above))).trans e1⟩
  ·by_cases hj:j=i
   ·subst hj;rw[hi] at e1;cases e1;rw[dj hiσ] at e2;cases e2;exact⟨u,r,.inl ⟨hk,by simp⟩⟩
   ·rw[dB (fG hj)] at e2;obtain⟨u',r',q⟩:=hl j y v' e1 e2 e3;refine⟨u',r',?_⟩;rcases q with ⟨k,e⟩ | ⟨k,c,e,z⟩
    ·refine .inl ⟨k,?_⟩;have:y≠x:=fun e=>hj (a4e hN e1 (e ▸ hi))
     simp[this,e]
    ·exact .inr ⟨k,c,e,z.sameBut hs (cne y c e)⟩
  ·obtain⟨w',z⟩:=I.cell y c e;exact⟨w',z.sameBut hs (cne y c e)⟩
  ·obtain⟨e,n,ne,nf,d⟩:=I.pin p hp;exact⟨(hs.2 p.1 ne).trans e,n,ne,nf,d⟩
 ·have hfn:X.fn x=true:=by
   rcases hf with z | z
   ·exact z
   ·rw[z] at hk;cases hk
  obtain⟨c,hc⟩:=I.ok.has x (.inl hk);obtain⟨w',z⟩:=I.cell x c hc;refine wpAny_storeName_cell I.ok.kind hk hc z (fun h' hc' hs=>?_);obtain⟨oc,hoc,hocd⟩:=id z;refine h {s with heap:=h'} ⟨I.ok,I.os,I.bare,⟨fun b o e n hb hx=>?_,fun b o e n hb hx=>?_,I.base.free,fun b o e hx=>?_,I.base.tups,I.base.frzs,I.base.tbls⟩,⟨m,hn.sameBut hs (fG (cne x c hc)),fun j y v' e1 e2 e3=>?_⟩,fun y c' e=>?_,I.free,I.freeC,fun p hp=>?_,tracked ⟨oc,hoc,I.freeC x c hc⟩ hs,by simpa using I.len⟩ ⟨c,hs,.inr hc⟩
  ·exact (hs.2 b (aP (bh (aC e) (I.ok.cab x c hfn hc)))).trans (I.base.keep b o e n hb hx)
  ·obtain⟨sl,e1⟩:=I.base.slot b o e n hb hx;exact⟨sl,(hs.2 b (aP (bh (aC e) (I.ok.cab x c hfn hc)))).trans e1⟩
  ·obtain⟨o',e1⟩:=I.base.there b o e hx;exact⟨o',(hs.2 b (aP (bh (aC e) (I.ok.cab x c hfn hc)))).trans e1⟩
  ·by_cases hj:j=i
   ·subst hj;rw[hi] at e1;cases e1;rw[dj hiσ] at e2;cases e2;exact⟨u,r,.inr ⟨.inl hk,c,hc,hc'⟩⟩
   ·rw[dB (fG hj)] at e2;obtain⟨u',r',q⟩:=hl j y v' e1 e2 e3;refine⟨u',r',?_⟩;rcases q with q | ⟨k,c',e,z'⟩
    ·exact .inl q
    ·refine .inr ⟨k,c',e,z'.sameBut hs ?_⟩;rintro rfl;exact hj (a4e hN e1 (I.ok.inj _ _ _ e hc ▸ hi))
  ·by_cases hcc:c'=c
   ·subst hcc;exact⟨_,hc'⟩
   ·obtain⟨w2,z2⟩:=I.cell y c' e;exact⟨w2,z2.sameBut hs hcc⟩
  ·obtain⟨e,n,ne,nf,d⟩:=I.pin p hp;refine⟨(hs.2 p.1 ?_).trans e,n,ne,nf,d⟩;intro q;rw[q,hoc] at e;have q':oc=p.2:=aG e;exact d w' (by rw[<- q'];exact hocd)
theorem a3s {M:Model}{A:Around}{E:Value->Shared->Prop}{i:Nat}{x:Str}{v:V}{u:Value}{Q:Unit->Shared->Prop}(I:Inv X pins σ H s)(hN:X.N.Nodup)(hi:X.N[i]?=some x)(hx:Loc X.env.scope x)(r:F0 v u)
  (h:∀ s',Inv X pins (σ.set i (some v)) H s'->Q () s') (hf:X.fn x=true\/X.env.scope.names.lookup x=some .local:=by first | exact .inl rfl | exact .inr rfl | assumption):wpAny M A (storeName X.env x u) Q E s :=
 a0p I hN hi hx r (fun s' I' _=>h s' I') hf
theorem Inv.call' {s':Shared}{ch:List Addr}(I:Inv X pins σ H s)(ho:s'.os=s.os)(u:Un (frs X.stack) ch H H' s.heap s'.heap)(hok:HOk X.prog X.w H' s'.heap)(hg:AllBare s'.gens)
  (hch:∀ b∈ch,(b∈X.ex\/X.s₀.heap.objs.size<=b)/\b≠X.env.locals/\(∀ x c,X.env.cells.lookup x=some c->c≠b)/\∀ p∈X.pn++pins,p.1≠b):Inv X pins σ H' s':=by
 obtain⟨h',g',d',t',o'⟩:=s';have e:o'=s.os:=ho;subst e;exact I.call (g':=g') (t':=t') (d':=d') u hok hg hch
end
abbrev XK:=Value->Option Addr->Hp->Prop
abbrev St:=List (Option V)
abbrev VK:=V->Hp->Prop
abbrev TE:=St->Hp->VK->Prop
abbrev TT:=St->Hp->(Bool->Hp->Prop)->Prop
abbrev TA:=St->Hp->(List V->Hp->Prop)->Prop
structure U2 where
 nx:St->Hp->Prop
 rt:VK
 bk:St->Hp->Prop:=fun _ _=>False
 ct:St->Hp->Prop:=fun _ _=>False
abbrev TS:=U2->St->Hp->Prop
def EP (X:Cx)(pins:List (Addr×Obj))(σ:St)(Q:VK)(u:Value)(s':Shared):Prop:=∃ v H',Inv X pins σ H' s'/\F0 v u/\Q v H'
def TP (X:Cx)(pins:List (Addr×Obj))(σ:St)(Q:Bool->Hp->Prop)(b:Bool)(s':Shared):Prop:=∃ H',Inv X pins σ H' s'/\Q b H'
def AP (X:Cx)(pins:List (Addr×Obj))(σ:St)(Q:List V->Hp->Prop)(us:List Value)(s':Shared):Prop:=∃ vs H',Inv X pins σ H' s'/\C8 vs us/\Q vs H'
def SP (X:Cx)(pins:List (Addr×Obj))(D:U2)(f:Flow)(s':Shared):Prop :=
 match f with
 | .next=>∃ σ' H',Inv X pins σ' H' s'/\D.nx σ' H'
 | .brk=>∃ σ' H',Inv X pins σ' H' s'/\D.bk σ' H'
 | .cont=>∃ σ' H',Inv X pins σ' H' s'/\D.ct σ' H'
 | .ret u=>∃ v σ' H',Inv X pins σ' H' s'/\F0 v u/\D.rt v H'
def PE (X:Cx)(e:Expr)(t:TE):Prop :=
 ∀(pins:List (Addr×Obj)) (s:Shared) (σ:St) (H:Hp) (Q:VK),Inv X pins σ H s->t σ H Q->wpAny (model X.prog X.w) X.A (eval e X.env) (EP X pins σ Q) X.xe s
def PT (X:Cx)(e:Expr)(t:TT):Prop :=
 ∀(pins:List (Addr×Obj)) (s:Shared) (σ:St) (H:Hp) (Q:Bool->Hp->Prop),Inv X pins σ H s->t σ H Q->wpAny (model X.prog X.w) X.A (isTrue e X.env (eval e X.env)) (TP X pins σ Q) X.xe s
def PW (X:Cx)(e:Expr)(t:TT):Prop :=
 ∀(whole:Sem Value) (pins:List (Addr×Obj)) (s:Shared) (σ:St) (H:Hp) (Q:Bool->Hp->Prop),Inv X pins σ H s->t σ H Q->wpAny (model X.prog X.w) X.A (isTrue e X.env whole) (TP X pins σ Q) X.xe s
theorem PW.pt {X:Cx}{e:Expr}{t:TT}(h:PW X e t):PT X e t:=h _
def PA (X:Cx)(es:List Expr)(t:TA):Prop :=
 ∀(pos:Pos) (pins:List (Addr×Obj)) (s:Shared) (σ:St) (H:Hp) (Q:List V->Hp->Prop),Inv X pins σ H s->t σ H Q->wpAny (model X.prog X.w) X.A (spliced (backTo pos (starEach es X.env))) (AP X pins σ Q) X.xe s
def PS (X:Cx)(st:Stmt)(t:TS):Prop :=
 ∀(pins:List (Addr×Obj)) (s:Shared) (σ:St) (H:Hp) (D:U2),Inv X pins σ H s->t D σ H->wpAny (model X.prog X.w) X.A (exec st X.env) (SP X pins D) X.xe s
def PSs (X:Cx)(st:List Stmt)(t:TS):Prop :=
 ∀(pins:List (Addr×Obj)) (s:Shared) (σ:St) (H:Hp) (D:U2),Inv X pins σ H s->t D σ H->wpAny (model X.prog X.w) X.A (execs st X.env) (SP X pins D) X.xe s
theorem thn {α:Type}{t:Sem α}{Q Q':α->Shared->Prop}{M:Model}{A:Around}{E:Value->Shared->Prop}{s:Shared}(h:wpAny M A t Q E s)(hQ:∀ a s,Q a s->Q' a s):wpAny M A t Q' E s:=cp h hQ fun _ _ x=>x
end L2
namespace L2
open PySem PySem.Spec PyProof.Rows
section
variable {X:Cx}
theorem bin {a b:Expr}{ta tb:TE}(ha:PE X a ta)(hb:PE X b tb){pins:List (Addr×Obj)}{s:Shared}{σ:St}{H:Hp}{R:V->V->Hp->Prop}(I:Inv X pins σ H s)(h:ta σ H fun x H1=>tb σ H1 fun y H2=>R x y H2)
  {α:Type} {Q:α->Shared->Prop} {f:Value->Value->Sem α}
  (hf:∀ v u s2 x y H2,Inv X pins σ H2 s2->F0 x v->F0 y u->R x y H2->wpAny (model X.prog X.w) X.A (f v u) Q X.xe s2) :
  wpAny (model X.prog X.w) X.A (eval a X.env) (fun v sk=>wpAny (model X.prog X.w) X.A (eval b X.env) (fun u sv=>wpAny (model X.prog X.w) X.A (f v u) Q X.xe sv) X.xe sk) X.xe s:=by
 refine thn (ha pins s σ H _ I h) fun v s1 ⟨x,H1,I1,r1,q1⟩=>?_
 refine thn (hb pins s1 σ H1 _ I1 q1) fun u s2 ⟨y,H2,I2,r2,q2⟩=>?_
 exact hf v u s2 x y H2 I2 r1 r2 q2
def T8 (i:Nat):TE:=fun σ H Q=>∃ v,σ[i]?=some (some v)/\Q v H
def tC (v:V):TE:=fun _ H Q=>Q v H
theorem b0W {i:Nat}{x:Str}{pos:Pos}(hN:X.N[i]?=some x)(hv:Vis X.env.scope x)(hd:(x == ("__debug__":Str))=false:=by decide)(hcd:(x == ("__classdict__":Str))=false:=by decide):PE X (.Name x pos) (T8 i):=by
 intro pins s σ H Q I h;obtain⟨v,e,h⟩:=h;obtain⟨m,hn,hl⟩:=I.loc;obtain⟨u,r,l⟩:=hl i x v hN e hv;have fin:EP X pins σ Q u s:=⟨v,H,I,r,h⟩
 rcases l with ⟨hk,hm⟩ | ⟨hk,c,hc,hcell⟩
 ·exact kj (wpAny_loadName_local I.ok.kind hk hn hm fin) hd
 ·rcases hk with hk | hk
  ·exact kj (wpAny_loadName_cell I.ok.kind hk hc hcell fin) hd
  ·exact kj (wpAny_loadName_free I.ok.kind hk hc hcell fin hcd) hd
theorem A3 {i j pos}:PE X (.Constant (.int i) j pos) (tC (.int i)):=fun _ _ _ H _ I h=>wpAny_Constant_int ⟨.int i,H,I.tok _,⟨_,rfl⟩,h⟩
theorem L0 {b j pos}:PE X (.Constant (.bool b) j pos) (tC (.bl b)):=fun _ _ _ H _ I h=>Constant_bool ⟨.bl b,H,I,rfl,h⟩
theorem a7s {j pos}:PE X (.Constant .none j pos) (tC .non):=fun _ _ _ H _ I h=>Constant_none ⟨.non,H,I,rfl,h⟩
theorem M0 {x j pos}:PE X (.Constant (.str x) j pos) (tC (.str x)):=fun _ _ _ H _ I h=>Calls.Constant_str ⟨.str x,H,I.tok _,⟨_,rfl⟩,h⟩
def Gl (X:Cx)(x:Str):Prop:=X.env.kindOf x=some .globalImplicit
theorem a5N {E:Value->Shared->Prop}{pins:List (Addr×Obj)}{s:Shared}{σ:St}{H:Hp}{x:Str}{u:Value}{pos:Pos}{Q:Value->Shared->Prop}(I:Inv X pins σ H s)(hg:Gl X x)(hm:X.mg x=some u)(h:Q u s)
  (hd:(x == ("__debug__":Str))=false:=by decide):wpAny (model X.prog X.w) X.A (eval (.Name x pos) X.env) Q E s :=
 iq I.ok.kind hg (Calls.loadGlobal_global (by rw[I.ok.glob];exact I.mod.glob.keeps I.bk) hm h) hd
theorem S4 {E:Value->Shared->Prop}{pins:List (Addr×Obj)}{s:Shared}{σ:St}{H:Hp}{x:Str}{u:Value}{pos:Pos}{Q:Value->Shared->Prop}(I:Inv X pins σ H s)(hg:Gl X x)(hm:X.mg x=none)(hv:bootBuiltins x=some u)(h:Q u s)
  (hn:x≠"__name__":=by decide) (hd:(x == ("__debug__":Str))=false:=by decide):wpAny (model X.prog X.w) X.A (eval (.Name x pos) X.env) Q E s:=by
 obtain⟨mb,h1,h2⟩:=I.mod.blt;exact iq I.ok.kind hg (Calls.loadGlobal_builtin (by rw[I.ok.glob];exact I.mod.glob.keeps I.bk) hm (by rw[I.ok.blt];exact h1.keeps I.bk) ((h2 x hn).trans hv) h) hd
variable {a b:Expr}{ta tb:TE}{pos:Pos}
def PC (X:Cx)(op:CmpOp)(a b:Expr)(t:TE):Prop :=
 ∀(pins:List (Addr×Obj)) (s:Shared) (σ:St) (H:Hp) (Q:VK),Inv X pins σ H s->t σ H Q ->
  wpAny (model X.prog X.w) X.A (eval a X.env) (fun v sk=>wpAny (model X.prog X.w) X.A (eval b X.env) (fun u sv=>wpAny (model X.prog X.w) X.A (compareOp op v u) (EP X pins σ Q) X.xe sv) X.xe sk) X.xe s
theorem a7M (b:Expr){op:CmpOp}(h:op≠.In)(h2:op≠.NotIn):behindInMarks op b=false:=by
 have e1:(op == CmpOp.In)=false:=by cases op<;>first | rfl | exact absurd rfl h
 have e2:(op == CmpOp.NotIn)=false:=by cases op<;>first | rfl | exact absurd rfl h2
 cases b<;>simp[behindInMarks,e1,e2]
def b3j (ta:TE):TE:=fun σ H Q=>ta σ H fun x H1=>Q (.bl (decide (x=.non))) H1
def b2f (ta:TE):TE:=fun σ H Q=>ta σ H fun x H1=>Q (.bl (!decide (x=.non))) H1
def tB (t:TE):TT:=fun σ H Q=>t σ H fun x H1=>∃ c,x=.bl c/\Q c H1
theorem a7n {op:CmpOp}{t:TE}(h:PC X op a b t)(h1:behindInMarks op b=false:=by first | exact a7M _ (by decide) (by decide) | rfl):PT X (.Compare a [op] [b] pos) (tB t):=by
 intro pins s σ H Q I hw;refine j3 (thn (h pins s σ H _ I hw) fun v s1 h1=>thn h1 fun u s2 h2=>thn h2 fun c s3 ⟨x,H1,I1,r1,q1⟩=>?_) h1;obtain⟨d,rfl,q⟩:=q1;cases r1;exact dq ⟨H1,I1,q⟩
theorem M5 {e:Expr}{t:TE}(h:PE X e t)(he:∀ whole,isTrue e X.env whole=(do let v <- whole;standAt e.pos;holding [v] (truthy v)):=by intro _;rfl):PT X e (tB t):=by
 intro pins s σ H Q I hw;refine isTrue_plain (thn (h pins s σ H _ I hw) fun v s1 ⟨x,H1,I1,r1,q1⟩=>?_) (he _);obtain⟨d,rfl,q⟩:=q1;cases r1;exact dq ⟨H1,I1,q⟩
variable {tA tB':TT}{rest:List Expr}
def b2s (t u:TT):TT:=fun σ H Q=>t σ H fun c H1=>if c=true then u σ H1 Q else Q false H1
def tOr (t u:TT):TT:=fun σ H Q=>t σ H fun c H1=>if c=true then Q true H1 else u σ H1 Q
def b2h (t:TT):TT:=fun σ H Q=>t σ H fun c H1=>Q (!c) H1
theorem a0K (ha:PT X a tA):PW X (.BoolOp .And [a] pos) tA:=by
 intro wh pins s σ H Q I h;refine isTrue_and (thn (ha pins s σ H Q I h) fun c s1 e=>?_);cases c with
 | true=>exact isTrue_and_nil e
 | false=>exact e
theorem T9 (ha:PT X a tA):PW X (.BoolOp .Or [a] pos) tA:=by
 intro wh pins s σ H Q I h;refine isTrue_or (thn (ha pins s σ H Q I h) fun c s1 e=>?_);cases c with
 | false=>exact isTrue_or_nil e
 | true=>exact e
theorem a2E (ha:PT X a tA)(hb:PW X (.BoolOp .And (b::rest) pos) tB'):PW X (.BoolOp .And (a::b::rest) pos) (b2s tA tB'):=by
 intro wh pins s σ H Q I h;refine isTrue_and (thn (ha pins s σ H _ I h) fun c s1 ⟨H1,I1,q1⟩=>?_);cases c with
 | true=>exact hb wh pins s1 σ H1 Q I1 q1
 | false=>exact⟨H1,I1,q1⟩
theorem V7 (ha:PT X a tA)(hb:PW X (.BoolOp .Or (b::rest) pos) tB'):PW X (.BoolOp .Or (a::b::rest) pos) (tOr tA tB'):=by
 intro wh pins s σ H Q I h;refine isTrue_or (thn (ha pins s σ H _ I h) fun c s1 ⟨H1,I1,q1⟩=>?_);cases c with
 | true=>exact⟨H1,I1,q1⟩
 | false=>exact hb wh pins s1 σ H1 Q I1 q1
theorem N9 (ha:PT X a tA):PT X (.UnaryOp .Not a pos) (b2h tA):=by
 intro pins s σ H Q I h;exact isTrue_not (ha pins s σ H (fun c H1=>Q (!c) H1) I h)
def b0f (ta tb:TE):TE:=fun σ H Q=>ta σ H fun x H1=>∃ c,x=.bl c/\if c=true then tb σ H1 Q else Q (.bl false) H1
def b3f (ta tb:TE):TE:=fun σ H Q=>ta σ H fun x H1=>∃ c,x=.bl c/\if c=true then Q (.bl true) H1 else tb σ H1 Q
def b0a (ta:TE):TE:=fun σ H Q=>ta σ H fun x H1=>∃ c,x=.bl c/\Q (.bl (!c)) H1
theorem W4 {op}{t:TE}(h:PE X a t):PE X (.BoolOp op [a] pos) t:=fun pins s σ H Q I hw=>BoolOp_one (h pins s σ H Q I hw)
theorem U0 (ha:PE X a ta)(hb:PE X (.BoolOp .And (b::rest) pos) tb):PE X (.BoolOp .And (a::b::rest) pos) (b0f ta tb):=by
 intro pins s σ H Q I h;refine BoolOp_and (thn (ha pins s σ H _ I h) fun v s1 ⟨x,H1,I1,r1,q1⟩=>?_);obtain⟨c,rfl,q1⟩:=q1;cases r1;refine dq ?_;cases c with
 | true=>exact hb pins s1 σ H1 Q I1 q1
 | false=>exact⟨.bl false,H1,I1,rfl,q1⟩
theorem a4I (ha:PE X a ta):PE X (.UnaryOp .Not a pos) (b0a ta):=by
 intro pins s σ H Q I h;refine UnaryOp_ (thn (ha pins s σ H _ I h) fun v s1 ⟨x,H1,I1,r1,q1⟩=>?_);obtain⟨c,rfl,q1⟩:=q1;cases r1;exact not_of (dq ⟨.bl (!c),H1,I1,rfl,q1⟩)
end
end L2
namespace L2
open PySem PySem.Spec PyProof.Rows
def SqL (K:ae)(H:Hp)(a:Addr)(xs:List V):Prop :=
 Rd H a (.lst xs) \/
  ∃(o:Obj) (its:Array Value) (n:Nat),K.lookup a=some o/\o.cls=.type "list"/\o.dict=none/\o.data=.seq its n/\its.size<=sizeLine/\C8 xs its.toList
def SqT (K:ae)(H:Hp)(a:Addr)(xs:List V):Prop :=
 Rd H a (.tup xs) \/
  ∃(o:Obj) (its:Array Value) (n:Nat),K.lookup a=some o/\o.cls=.type "tuple"/\o.data=.seq its n/\its.size<=sizeLine/\C8 xs its.toList
def b3D:Value->Option V
 | .none=>some .non
 | .bool b=>some (.bl b)
 | .int i _=>some (.int i)
 | .str x _=>some (.str x)
 | .bytes b _=>some (.byt b)
 | .float b _=>some (.flt b)
 | .ref a=>some (.ref a)
 | .type n=>some (.ty n)
 | _=>none
theorem F0.abs {x:V}{u:Value}(r:F0 x u):b3D u=some x:=by
 cases x with
 | non=>cases r;rfl
 | bl _=>cases r;rfl
 | int _=>obtain⟨t,rfl⟩:=r;rfl
 | str _=>obtain⟨t,rfl⟩:=r;rfl
 | byt _=>obtain⟨t,rfl⟩:=r;rfl
 | flt _=>obtain⟨t,rfl⟩:=r;rfl
 | ref _=>cases r;rfl
 | ty _=>cases r;rfl
theorem F0.inj {x y:V}{u:Value}(r:F0 x u)(q:F0 y u):x=y:=aG (r.abs.symm.trans q.abs)
theorem C8.inj:∀ {xs ys:List V} {us:List Value},C8 xs us->C8 ys us->xs=ys
 | _,_,_,.nil,.nil=>rfl
 | _,_,_,.cons r t,.cons r' t'=>by rw[r.inj r',C8.inj t t']
section
variable {X:Cx}{pins:List (Addr×Obj)}{σ:St}{H:Hp}{s:Shared}{a:Addr}{xs ys:List V}
theorem SqL.of {K:ae}(h:H a=some (.lst xs)):SqL K H a xs:=.inl (.inl h)
theorem SqT.of {K:ae}(h:H a=some (.tup xs)):SqT K H a xs:=.inl (.inl h)
theorem Inv.list (I:Inv X pins σ H s)(h:SqL X.K H a xs):∃ its:List Value,C8 xs its/\PlainL s.heap a its.toArray/\xs.length<=sizeLine:=by
 rcases h with h | ⟨o,its,n,hk,hc,hd,hs,hz,r⟩
 ·obtain⟨z,its,n,r,e⟩:=h.ok I.hok;exact⟨its,r,⟨_,n,e,rfl,rfl,rfl⟩,z⟩
 ·refine⟨its.toList,r,⟨o,n,I.kIn a o hk,hc,hd,by simpa using hs⟩,?_⟩;have e:=r.length;simp only[aY] at e;omega
theorem Inv.tuple (I:Inv X pins σ H s)(h:SqT X.K H a xs):∃ its:List Value,C8 xs its/\IsTup s.heap a its.toArray/\xs.length<=sizeLine:=by
 rcases h with h | ⟨o,its,n,hk,hc,hs,hz,r⟩
 ·obtain⟨z,its,r,p⟩:=h.ok I.hok;exact⟨its,r,p,z⟩
 ·refine⟨its.toList,r,⟨o,I.kIn a o hk,hc,n,by simpa using hs⟩,?_⟩;have e:=r.length;simp only[aY] at e;omega
theorem Inv.list_inj (I:Inv X pins σ H s)(h:SqL X.K H a xs)(h':SqL X.K H a ys):xs=ys:=by
 obtain⟨its,r,⟨o,n,e,_,_,d⟩,_⟩:=I.list h;obtain⟨its',r',⟨o',n',e',_,_,d'⟩,_⟩:=I.list h';rw[e] at e';cases e';rw[d] at d';injection d' with d1 _
 have:its=its':=by simpa using congrArg Array.toList d1
 subst this;exact r.inj r'
theorem Inv.tuple_inj (I:Inv X pins σ H s)(h:SqT X.K H a xs)(h':SqT X.K H a ys):xs=ys:=by
 obtain⟨its,r,⟨o,e,_,n,d⟩,_⟩:=I.tuple h;obtain⟨its',r',⟨o',e',_,n',d'⟩,_⟩:=I.tuple h';rw[e] at e';cases e';rw[d] at d';injection d' with d1 _
 have:its=its':=by simpa using congrArg Array.toList d1
 subst this;exact r.inj r'
end
abbrev Cx.wish (X:Cx)(E:Value->Shared->Prop):Cx:={X with xe:=E}
abbrev Cx.nox (X:Cx):Cx:=X.wish fun _ _=>False
theorem Cx.Ok.wish {X:Cx}(ok:X.Ok)(E:Value->Shared->Prop):(X.wish E).Ok :=
 ⟨ok.mod,ok.kind,ok.glob,ok.blt,ok.above,ok.inj,ok.has,ok.cab,ok.hd,ok.frames,ok.stk,ok.exf,ok.bs,ok.bsz,ok.noex,ok.exfs,ok.funs,ok.frf⟩
theorem Cx.Ok.unwish {X:Cx}{E:Value->Shared->Prop}(ok:(X.wish E).Ok):X.Ok :=
 ⟨ok.mod,ok.kind,ok.glob,ok.blt,ok.above,ok.inj,ok.has,ok.cab,ok.hd,ok.frames,ok.stk,ok.exf,ok.bs,ok.bsz,ok.noex,ok.exfs,ok.funs,ok.frf⟩
section
variable {X:Cx}{pins:List (Addr×Obj)}{σ:St}{H:Hp}{s:Shared}{E:Value->Shared->Prop}
theorem Inv.wish (I:Inv X pins σ H s)(E:Value->Shared->Prop):Inv (X.wish E) pins σ H s:=⟨I.ok.wish E,I.os,I.bare,I.base,I.loc,I.cell,I.free,I.freeC,I.pin,I.hok,I.len⟩
theorem Inv.unwish (I:Inv (X.wish E) pins σ H s):Inv X pins σ H s:=⟨I.ok.unwish,I.os,I.bare,I.base,I.loc,I.cell,I.free,I.freeC,I.pin,I.hok,I.len⟩
theorem SP.unwish {D:U2}{f:Flow}{s':Shared}(h:SP (X.wish E) pins D f s'):SP X pins D f s':=by
 cases f with
 | next=>obtain⟨σ',H',I,q⟩:=h;exact⟨σ',H',I.unwish,q⟩
 | brk=>obtain⟨σ',H',I,q⟩:=h;exact⟨σ',H',I.unwish,q⟩
 | cont=>obtain⟨σ',H',I,q⟩:=h;exact⟨σ',H',I.unwish,q⟩
 | ret u=>obtain⟨v,σ',H',I,r,q⟩:=h;exact⟨v,σ',H',I.unwish,r,q⟩
theorem PE.nox {e:Expr}{t:TE}(h:PE X.nox e t):PE X e t:=fun pins s σ H Q I hw =>
 cp (h pins s σ H Q (I.wish _) hw) (fun _ _ ⟨v,H',I',r,q⟩=>⟨v,H',I'.unwish,r,q⟩) fun _ _ z=>dJ z
theorem PT.nox {e:Expr}{t:TT}(h:PT X.nox e t):PT X e t:=fun pins s σ H Q I hw =>
 cp (h pins s σ H Q (I.wish _) hw) (fun _ _ ⟨H',I',q⟩=>⟨H',I'.unwish,q⟩) fun _ _ z=>dJ z
theorem PSs.nox {st:List Stmt}{t:TS}(h:PSs X.nox st t):PSs X st t:=fun pins s σ H D I hw =>
 cp (h pins s σ H D (I.wish _) hw) (fun _ _ q=>q.unwish) fun _ _ z=>dJ z
end
section
variable {X:Cx}{st:Stmt}{rest:List Stmt}{t u:TS}{e:Expr}{te:TE}{pos:Pos}
def b0b:TS:=fun D σ H=>D.nx σ H
def b0C (t u:TS):TS:=fun D σ H=>t {D with nx:=u D} σ H
theorem C6:PSs X [] b0b:=fun _ _ σ H _ I h=>gD ⟨σ,H,I,h⟩
theorem a7o (h1:PS X st t)(h2:PSs X rest u):PSs X (st::rest) (b0C t u):=by
 intro pins s σ H D I h;refine wpAny_execs_cons (thn (h1 pins s σ H {D with nx:=u D} I h) fun f s1 q=>?_);cases f with
 | next =>
  obtain⟨σ',H',I',q⟩:=q;exact h2 pins s1 σ' H' D I' q
 | ret v=>exact q
 | brk=>exact q
 | cont=>exact q
theorem A4 (h1:PS X st t):PSs X [st] t:=by
 intro pins s σ H D I h;refine wpAny_execs_cons (thn (h1 pins s σ H D I h) fun f s1 q=>?_);cases f with
 | next=>exact gD q
 | ret v=>exact q
 | brk=>exact q
 | cont=>exact q
theorem Inv.quiet {pins:List (Addr×Obj)}{σ:St}{H:Hp}{s:Shared}(I:Inv X pins σ H s):interactive X.env=false:=by simp[interactive,I.ok.kind]
def b0c (te:TE):TS:=fun D σ H=>te σ H fun _ H1=>D.nx σ H1
theorem N6 (he:PE X e te)(hs:swapsWith e none pos.line X.env=pure false:=by rfl):PS X (.Expr e pos) (b0c te):=by
 intro pins s σ H D I h;exact wpAny_Expr_any (thn (he pins s σ H _ I h) fun v s1 ⟨x,H1,I1,r1,q1⟩=>⟨σ,H1,I1,q1⟩) I.quiet hs
def b2d (te:TE):TS:=fun D σ H=>te σ H D.rt
theorem B1 (he:PE X e te):PS X (.Return (some e) pos) (b2d te):=by
 intro pins s σ H D I h;exact wpAny_Return_some (thn (he pins s σ H _ I h) fun v s1 ⟨x,H1,I1,r1,q1⟩=>⟨x,σ,H1,I1,r1,q1⟩)
def b2b:TS:=fun D _ H=>D.rt .non H
def b2m (c:TT)(t u:TS):TS:=fun D σ H=>c σ H fun b H1=>if b=true then t D σ H1 else u D σ H1
theorem J8 {c:Expr}{a b:List Stmt}{tc:TT}(hc:PT X c tc)(ha:PSs X a t)(hb:PSs X b u):PS X (.If c a b pos) (b2m tc t u):=by
 intro pins s σ H D I h;refine wpAny_If (thn (hc pins s σ H _ I h) fun d s1 ⟨H1,I1,q1⟩=>?_);cases d with
 | true=>exact ha pins s1 σ H1 D I1 q1
 | false=>exact hb pins s1 σ H1 D I1 q1
end
abbrev TG:=V->St->Hp->(St->Hp->Prop)->Prop
abbrev TGs:=List V->St->Hp->(St->Hp->Prop)->Prop
def PG (X:Cx)(target:Expr)(t:TG):Prop :=
 ∀(pins:List (Addr×Obj)) (s:Shared) (σ:St) (H:Hp) (v:V) (u:Value) (Q:St->Hp->Prop),Inv X pins σ H s->F0 v u->t v σ H Q ->
  wpAny (model X.prog X.w) X.A (assign target X.env u) (fun _ s'=>∃ σ' H',Inv X pins σ' H' s'/\Q σ' H') X.xe s
def PGs (X:Cx)(ts:List Expr)(t:TGs):Prop :=
 ∀(pins:List (Addr×Obj)) (s:Shared) (σ:St) (H:Hp) (vs:List V) (us:List Value) (Q:St->Hp->Prop),Inv X pins σ H s->C8 vs us->t vs σ H Q ->
  wpAny (model X.prog X.w) X.A (assignInOrder ((assignEach ts X.env).map (·.2)) us) (fun _ s'=>∃ σ' H',Inv X pins σ' H' s'/\Q σ' H') X.xe s
abbrev a9Q:=V->V->V->Hp->(Hp->Prop)->Prop
def b2R (X:Cx)(t:a9Q):Prop :=
 ∀(pins:List (Addr×Obj)) (s:Shared) (σ:St) (H:Hp) (o i v:V) (ov iv u:Value) (Q:Hp->Prop),Inv X pins σ H s->F0 o ov->F0 i iv->F0 v u->t o i v H Q ->
  wpAny (model X.prog X.w) X.A (setItem ov iv u) (fun _ s'=>∃ H',Inv X pins σ H' s'/\Q H') X.xe s
section
variable {X:Cx}{pos:Pos}
def M8 (i:Nat):TG:=fun v σ H Q=>Q (σ.set i (some v)) H
theorem A8 {i:Nat}{x:Str}(hN:X.N.Nodup)(hi:X.N[i]?=some x)(hx:Loc X.env.scope x)(hf:X.fn x=true\/X.env.scope.names.lookup x=some .local:=by first | exact .inl rfl | exact .inr rfl | assumption):PG X (.Name x pos) (M8 i):=by
 intro pins s σ H v u Q I r h;exact iG (a3s I hN hi hx r (fun s' I'=>⟨_,H,I',h⟩) hf)
def b2K:TGs:=fun vs σ H Q=>vs=[]/\Q σ H
def b0s (t:TG)(u:TGs):TGs:=fun vs σ H Q=>∃ v r,vs=v::r/\t v σ H fun σ' H'=>u r σ' H' Q
theorem T3:PGs X [] b2K:=by
 intro pins s σ H vs us Q I r h;obtain⟨e,h⟩:=h;subst e;cases r;exact assignInOrder_nil ⟨σ,H,I,h⟩
theorem K4 {e:Expr}{es:List Expr}{t:TG}{u:TGs}(h1:PG X e t)(h2:PGs X es u)
  (hs:(assignEach (e::es) X.env).map (·.2)=assign e X.env::(assignEach es X.env).map (·.2):=by rfl):PGs X (e::es) (b0s t u):=by
 intro pins s σ H vs us Q I r h;obtain⟨v,vr,e1,h⟩:=h;subst e1;cases r with
 | cons r rr =>
  rw[hs];refine assignInOrder_cons (thn (h1 pins s σ H _ _ _ I r h) fun _ s1 ⟨σ1,H1,I1,q1⟩=>?_);exact h2 pins s1 σ1 H1 _ _ Q I1 rr q1
def b1B (K:ae)(n:Nat)(t:TGs):TG:=fun v σ H Q=>∃ a xs,v=.ref a/\SqT K H a xs/\xs.length=n/\t xs σ H Q
theorem b0U {es:List Expr}{k:Nat}{t:TGs}{n:Nat}(hc:X.calm=true)(h:PGs X es t)
  (hn:(assignEach es X.env).length=n:=by rfl) (hst:(assignEach es X.env).findIdx? (·.1)=none:=by rfl):PG X (.Tuple es k pos) (b1B X.K n t):=by
 intro pins s σ H v u Q I r hw;obtain⟨a,xs,e1,hq,hl,hw⟩:=hw;subst e1;cases r;obtain⟨its,rv,ht,hz⟩:=I.tuple hq;refine assign_Tuple_tuple (I.ok.hd hc) ht (by simp[hn,<- hl,rv.length]) hst fun h' hx=>?_
 have I1:Inv X pins σ H {s with heap:=h'}:=I.kept (t':=s.toks) fun b o e=>hx b o (aP (aC e)) e
 exact h pins _ σ H xs _ Q I1 (by simpa using rv) hw
def b2I (to ti:TE)(t:a9Q):TG:=fun v σ H Q=>to σ H fun o H1=>ti σ H1 fun i H2=>t o i v H2 fun H3=>Q σ H3
theorem b0V {o i:Expr}{to ti:TE}{t:a9Q}(ho:PE X o to)(hi:PE X i ti)(hs:b2R X t)
  (ha:∀ v,assign (.Subscript o i pos) X.env v=(do
   let ov <- holding [v] (eval o X.env)
   let iv <- holding [v,ov] (eval i X.env)
   standAt pos
   holding [v,ov,iv] (setItem ov iv v)
   release [v,ov,iv] []):=by intro _;rfl):PG X (.Subscript o i pos) (b2I to ti t):=by
 intro pins s σ H v u Q I r h;rw[ha];refine aa (cu (thn (ho pins s σ H _ I h) fun ov s1 ⟨x,H1,I1,r1,q1⟩=>?_));refine aa (cu (thn (hi pins s1 σ H1 _ I1 q1) fun iv s2 ⟨y,H2,I2,r2,q2⟩=>?_));refine aa (fI (aa (cu (thn (hs pins s2 σ H2 x y v ov iv u _ I2 r1 r2 r q2) fun _ s3 ⟨H3,I3,q3⟩=>?_))));exact wpAny_release ⟨σ,H3,I3,q3⟩
def a6i (te:TE)(g:TG):TS:=fun D σ H=>te σ H fun x H1=>g x σ H1 D.nx
theorem a7q {tg e:Expr}{te:TE}{g:TG}(he:PE X e te)(hg:PG X tg g)(hs:swapsWithSole [tg] e pos.line X.env=pure false:=by rfl)(hw:swappedStores [tg] e X.env=pure none:=by rfl)
  (h1:(assignEach [tg] X.env).map (·.2)=[assign tg X.env]:=by rfl):PS X (.Assign [tg] e pos) (a6i te g):=by
 intro pins s σ H D I h;refine wpAny_Assign_stores (thn (he pins s σ H _ I h) fun v s1 ⟨x,H1,I1,r1,q1⟩=>?_) hs hw;rw[h1];exact thn (hg pins s1 σ H1 x v _ I1 r1 q1) fun _ s2 q=>q
theorem B8 {i:Nat}{x:Str}{e:Expr}{te:TE}{pos':Pos}(hN:X.N.Nodup)(hi:X.N[i]?=some x)(hx:Loc X.env.scope x)(he:PE X e te)(hs:swapsWith e (some (.Name x pos')) pos.line X.env=pure false:=by rfl)(hf:X.fn x=true\/X.env.scope.names.lookup x=some .local:=by first | exact .inl rfl | exact .inr rfl | assumption) :
  PS X (.Assign [.Name x pos'] e pos) (a6i te (M8 i)):=by
 intro pins s σ H D I h;refine wpAny_Assign_Name (thn (he pins s σ H _ I h) fun v s1 ⟨y,H1,I1,r1,q1⟩=>?_) hs;exact a3s I1 hN hi hx r1 (fun s2 I2=>⟨_,H1,I2,q1⟩) hf
end
section
variable {X:Cx}{pos:Pos}
def a6X (c:TT)(tb:TS):TS:=fun D σ H=>∃ W:Nat->St->Hp->Prop,(∃ m,W m σ H)/\∀ m σ H,W m σ H ->
 c σ H fun b H1=>if b=true then ∃ N:St->Hp->Prop,(∀ σ' H',N σ' H'->∃ m',m'<m/\W m' σ' H')/\tb {D with nx:=N,ct:=N,bk:=D.nx} σ H1 else D.nx σ H1
theorem a3W {c:Expr}{body:List Stmt}{tc:TT}{tb:TS}(hp:PassesOwn (model X.prog X.w) X.A X.env X.xe)(hc:PT X c tc)(hb:PSs X body tb):PS X (.While c body [] pos) (a6X tc tb):=by
 intro pins s σ H D I h;obtain⟨W,⟨m0,w0⟩,turn⟩:=h;refine wpAny_While (codeAny_whileLoop (fun n s'=>∃ σ' H',Inv X pins σ' H' s'/\W n σ' H') ?_ m0 ⟨σ,H,I,w0⟩);rintro n s1 ⟨σ1,H1,I1,w1⟩;refine dX hp (thn (hc pins s1 σ1 H1 _ I1 (turn n σ1 H1 w1)) fun b s2 ⟨H2,I2,q2⟩=>?_);cases b with
 | true =>
  obtain⟨N,hN,q2⟩:=q2;rw[if_pos rfl];refine dX hp (thn (hb pins s2 σ1 H2 _ I2 q2) fun f s3 q3=>?_);cases f with
  | next =>
   obtain⟨σ3,H3,I3,n3⟩:=q3;obtain⟨m',hm,w3⟩:=hN σ3 H3 n3;exact⟨m',hm,σ3,H3,I3,w3⟩
  | cont =>
   obtain⟨σ3,H3,I3,n3⟩:=q3;obtain⟨m',hm,w3⟩:=hN σ3 H3 n3;exact⟨m',hm,σ3,H3,I3,w3⟩
  | brk=>exact q3
  | ret v=>exact q3
 | false =>
  rw[if_neg aO];exact gD ⟨σ1,H2,I2,q2⟩
end
structure It where
 go:Nat->Hp->Prop
 yld:Nat->Hp->V->Hp->Prop
 stop:Nat->Hp->Prop
def X9 (X:Cx)(pins:List (Addr×Obj))(H:Hp)(b:Addr):Prop :=
 H b=none/\b≠X.env.locals/\b∉X.fs/\(b∈X.ex\/X.s₀.heap.objs.size<=b)/\(∀ x c,X.env.cells.lookup x=some c->c≠b)/\∀ p∈X.pn++pins,p.1≠b
theorem Inv.fpOk {X:Cx}{pins:List (Addr×Obj)}{σ:St}{H H':Hp}{s:Shared}{b:Addr}(I:Inv X pins σ H s)(hb:s.heap.objs.size<=b)(hn:H' b=none):X9 X pins H' b:=by
 refine⟨hn,fh (bh I.lt hb),I.nofs hb,.inr (bj I.sz hb),fun x c e z=>?_,fun p hp z=>?_⟩
 ·obtain⟨v,q⟩:=I.cell x c e;exact absurd (bh q.lt (by rw[z];exact hb)) (cP _)
 ·exact absurd (bh (aC (I.pin p hp).1) (by rw[z];exact hb)) (cP _)
structure a4y (P:Program)(w:World)(K:ae)(tg:Expr)(J:It)(fp:List Addr)(it:Addr)(tn:Nat->Heap->Prop):Prop where
 mem:it∈fp
 obj:∀ i h,tn i h->∀ b∈fp,∃ o,h.get? b=some o/\∀ v,o.data≠.cell v
 keep:∀ i h h',tn i h->(∀ b∈fp,∀ o,h.get? b=some o->h'.get? b=some o)->tn i h'
 item:∀(X:Cx),X.prog=P->X.w=w->X.K=K->X.calm=true->∀(i:Nat) (pins:List (Addr×Obj)) (s:Shared) (σ:St) (H:Hp) (E:Value->Shared->Prop),Inv X pins σ H s->(∀ b∈fp,X9 X pins H b)->tn i s.heap->J.go i H ->
  wpAny (model P w) X.A (pyNext (.ref it)) (fun r s1=>∃ u,r=some u /\
   wpAny (model P w) X.A (letOwnedTupleGo tg (.ref it) u) (fun _ s2=>∃ x H',Inv X pins σ H' s2/\F0 x u/\J.yld i H x H'/\tn (i+1) s2.heap/\∀ b∈fp,H' b=none) E s1) E s
 done:∀(X:Cx),X.prog=P->X.w=w->X.K=K->X.calm=true->∀(i:Nat) (pins:List (Addr×Obj)) (s:Shared) (σ:St) (H:Hp) (E:Value->Shared->Prop),Inv X pins σ H s->(∀ b∈fp,X9 X pins H b)->tn i s.heap->J.stop i H ->
  wpAny (model P w) X.A (pyNext (.ref it)) (fun r s1=>r=none/\Inv X pins σ H s1) E s
 self:∀(A:Around) (i:Nat) (s:Shared) (Q:Value->Shared->Prop) (E:Value->Shared->Prop),tn i s.heap->Q (.ref it) s->wpAny (model P w) A (pyIter (.ref it)) Q E s
abbrev TI:=St->Hp->(It->Hp->Prop)->Prop
def PIE (X:Cx)(pins:List (Addr×Obj))(σ:St)(tg:Expr)(R:It->Hp->Prop)(itv:Value)(s2:Shared):Prop :=
 ∃(it:Addr) (fp:List Addr) (tn:Nat->Heap->Prop) (J:It) (H':Hp),itv=.ref it/\Inv X pins σ H' s2/\a4y X.prog X.w X.K tg J fp it tn/\tn 0 s2.heap/\(∀ b∈fp,X9 X pins H' b)/\R J H'
def PI (X:Cx)(tg iter:Expr)(wi:TI):Prop :=
 ∀(pins:List (Addr×Obj)) (s:Shared) (σ:St) (H:Hp) (R:It->Hp->Prop),Inv X pins σ H s->wi σ H R ->
  wpAny (model X.prog X.w) X.A (eval iter X.env) (fun v s1=>wpAny (model X.prog X.w) X.A (pyIter v) (PIE X pins σ tg R) X.xe s1) X.xe s
theorem a8r {M:Model}{A:Around}{E:Value->Shared->Prop}{s:Shared}{tg:Expr}{it:Addr}{u:Value}{o:Obj}{n:String}{vs:Array Value}{Q:Unit->Shared->Prop}(ho:s.heap.get? it=some o)(hc:o.cls=.type n)(hd:o.data=.fields vs)
    (hn:["enumerate", "zip", "dict_itemiterator", "dict_reverseitemiterator", "odict_iterator", "itertools.zip_longest", "itertools.pairwise"].contains n=false) (hQ:Q () s):wpAny M A (letOwnedTupleGo tg (.ref it) u) Q E s:=by
  unfold letOwnedTupleGo;cases tg<;>first
    | exact ai hQ
    | (cases u<;>first
        | exact ai hQ
        | (refine aa (jF ho ?_)
           rw[hc,hd];show wpAny M A (if (["enumerate", "zip", "dict_itemiterator", "dict_reverseitemiterator", "odict_iterator", "itertools.zip_longest", "itertools.pairwise"].contains n && vs[0]? == some (rawInt _))=true then _ else _) Q E s;rw[if_neg (by intro h;rw[hn,fe] at h;cases h)]
           exact ai hQ))
def Itl (K:ae)(a:Addr):It :=
 ⟨fun i H=>∃ xs x,SqL K H a xs/\xs[i]?=some x,fun i H x H'=>H'=H/\∀ xs,SqL K H a xs->xs[i]?=some x,fun i H=>∃ xs,SqL K H a xs/\xs.length<=i⟩
def Itt (K:ae)(a:Addr):It :=
 ⟨fun i H=>∃ xs x,SqT K H a xs/\xs[i]?=some x,fun i H x H'=>H'=H/\∀ xs,SqT K H a xs->xs[i]?=some x,fun i H=>∃ xs,SqT K H a xs/\xs.length<=i⟩
def Itr (lo:Int)(n:Nat):It:=⟨fun i _=>i<n,fun i H x H'=>H'=H/\x=.int (lo+i),fun i _=>n<=i⟩
theorem a1Q {P:Program}{w:World}{K:ae}{tg:Expr}(a it:Addr):a4y P w K tg (Itl K a) [it] it (fun i h=>h.IsListIter it a i) where
 mem:=by simp
 obj:=fun i h st b hb=>by
  have e:b=it:=by simpa using hb
  subst e;obtain⟨o,e,c,d⟩:=st;exact⟨o,e,fun v z=>by rw[d] at z;cases z⟩
 keep:=fun i h h' st k=>st.at fun o e=>k it (by simp) o e
 item:=by
  intro X hP hw hK hc i pins s σ H E I hf st hg;subst hP hw hK;obtain⟨xs,x,hq,hx⟩:=hg;obtain⟨its,rv,p,hz⟩:=I.list hq;obtain⟨u,hu,ru⟩:=rv.get hx;obtain⟨f0,f1,f2,f3,f4,f5⟩:=hf it (by simp);refine wpAny_pyNext_list_item st p.isList (x:=u) (by simpa using hu) fun h' st' sb=>?_
  have I1:Inv X pins σ H {s with heap:=h'}:=I.turned (t':=s.toks) (fun b o hb e=>(sb.2 b hb).trans e) f0 f1 f3 f4 f5;obtain⟨o,e,c,d⟩:=id st';exact⟨u,rfl,a8r (s:={s with heap:=h'}) e c d (by decide) ⟨x,H,I1,ru,⟨rfl,fun ys hy=>by rw[I.list_inj hy hq];exact hx⟩,st',fun b hb=>(hf b hb).1⟩⟩
 done:=by
  intro X hP hw hK hc i pins s σ H E I hf st hg;subst hP hw hK;obtain⟨xs,hq,hx⟩:=hg;obtain⟨its,rv,p,hz⟩:=I.list hq;obtain⟨f0,f1,f2,f3,f4,f5⟩:=hf it (by simp);have hl:=rv.length;exact wpAny_pyNext_list_end (I.ok.hd hc) st p.isList (by simp;omega) fun h' eb=>⟨rfl,I.turned (t':=s.toks) (fun b o hb e=>eb b o hb e) f0 f1 f3 f4 f5⟩
 self:=fun _ _ _ _ _ st h=>wpAny_pyIter_listiter st h
theorem a0Q {P:Program}{w:World}{K:ae}{tg:Expr}(a it:Addr):a4y P w K tg (Itt K a) [it] it (fun i h=>h.IsTupleIter it a i) where
 mem:=by simp
 obj:=fun i h st b hb=>by
  have e:b=it:=by simpa using hb
  subst e;obtain⟨o,e,c,d⟩:=st;exact⟨o,e,fun v z=>by rw[d] at z;cases z⟩
 keep:=fun i h h' st k=>st.at fun o e=>k it (by simp) o e
 item:=by
  intro X hP hw hK hc i pins s σ H E I hf st hg;subst hP hw hK;obtain⟨xs,x,hq,hx⟩:=hg;obtain⟨its,rv,p,hz⟩:=I.tuple hq;obtain⟨u,hu,ru⟩:=rv.get hx;obtain⟨f0,f1,f2,f3,f4,f5⟩:=hf it (by simp);refine wpAny_pyNext_tuple_item st (show s.heap.IsTuple a its.toArray from p) (x:=u) (by simpa using hu) fun h' st' sb=>?_
  have I1:Inv X pins σ H {s with heap:=h'}:=I.turned (t':=s.toks) (fun b o hb e=>(sb.2 b hb).trans e) f0 f1 f3 f4 f5;obtain⟨o,e,c,d⟩:=id st';exact⟨u,rfl,a8r (s:={s with heap:=h'}) e c d (by decide) ⟨x,H,I1,ru,⟨rfl,fun ys hy=>by rw[I.tuple_inj hy hq];exact hx⟩,st',fun b hb=>(hf b hb).1⟩⟩
 done:=by
  intro X hP hw hK hc i pins s σ H E I hf st hg;subst hP hw hK;obtain⟨xs,hq,hx⟩:=hg;obtain⟨its,rv,p,hz⟩:=I.tuple hq;obtain⟨f0,f1,f2,f3,f4,f5⟩:=hf it (by simp);have hl:=rv.length;exact wpAny_pyNext_tuple_end (I.ok.hd hc) st (show s.heap.IsTuple a its.toArray from p) (by simp;omega) fun h' eb=>⟨rfl,I.turned (t':=s.toks) (fun b o hb e=>eb b o hb e) f0 f1 f3 f4 f5⟩
 self:=fun _ _ _ _ _ st h=>wpAny_pyIter_tupleiter st h
theorem a4A {P:Program}{w:World}{K:ae}{tg:Expr}(it:Addr)(lo:Int)(n:Nat):a4y P w K tg (Itr lo n) [it] it (fun i h=>IsRangeIter h it (lo+(i:Nat)*1) ((n:Int)-(i:Nat)) 1) where
 mem:=by simp
 obj:=fun i h st b hb=>by
  have e:b=it:=by simpa using hb
  subst e
  exact⟨_,st,fun v z=>by
   have z':jH _=ip v:=z
   cases z'⟩
 keep:=fun i h h' st k=>k it (by simp) _ st
 item:=by
  intro X hP hw hK hc i pins s σ H E I hf st hg;subst hP hw hK;obtain⟨f0,f1,f2,f3,f4,f5⟩:=hf it (by simp);have W:=Walks.range (prog:=X.prog) (w:=X.w) (I.ok.hd hc) it lo 1 n;refine W.item i s _ _ hg st fun v h' tk hv st' kk=>?_
  obtain⟨t,rfl⟩:=hv;have I1:Inv X pins σ H {s with heap:=h',toks:=tk}:=I.turned (fun b o hb e=>kk b o (by simpa using hb) e) f0 f1 f3 f4 f5;refine⟨_,rfl,a8r (s:={s with heap:=h',toks:=tk}) (n:="range_iterator") st' rfl rfl (by decide) ⟨.int (lo+i),H,I1,⟨t,?_⟩,⟨rfl,rfl⟩,st',fun b hb=>(hf b hb).1⟩⟩;rw[Int.mul_one]
 done:=by
  intro X hP hw hK hc i pins s σ H E I hf st hg;subst hP hw hK;obtain⟨f0,f1,f2,f3,f4,f5⟩:=hf it (by simp);exact wpAny_pyNext_range_end (I.ok.hd hc) st (by have:n<=i:=hg;omega) fun h' eb=>⟨rfl,I.turned (t':=s.toks) (fun b o hb e=>eb b o hb e) f0 f1 f3 f4 f5⟩
 self:=fun _ _ _ _ _ st h=>wpAny_pyIter_rangeiter st h
end L2
namespace L2
open PySem PySem.Spec PyProof.Rows
section
variable {X:Cx}{tg:Expr}
def a8o (K:ae)(tl:TE):TI:=fun σ H R=>tl σ H fun x H1=>∃ a,x=.ref a/\(∃ xs,SqL K H1 a xs)/\R (Itl K a) H1
def b1x (K:ae)(tl:TE):TI:=fun σ H R=>tl σ H fun x H1=>∃ a,x=.ref a/\(∃ xs,SqT K H1 a xs)/\R (Itt K a) H1
theorem a8V {l:Expr}{tl:TE}(hl:PE X l tl):PI X tg l (a8o X.K tl):=by
 intro pins s σ H R I h;refine thn (hl pins s σ H _ I h) fun v s1 ⟨x,H1,I1,r1,q1⟩=>?_
 obtain⟨a,e,⟨xs,hq⟩,q⟩:=q1;subst e;cases r1;obtain⟨its,rv,p,hz⟩:=I1.list hq;refine fq p.isList ?_;refine⟨s1.heap.objs.size,[s1.heap.objs.size],_,_,H1,rfl,I1.kept (t':=s1.toks) fun b o e=>ag _ e,a1Q a _,⟨_,aB _ rfl,rfl,rfl⟩,fun b hb=>?_,q⟩;have e:b=s1.heap.objs.size:=by simpa using hb
 subst e;exact I1.fpOk (ao _) (I1.hok.fresh (ao _))
theorem b0T {l:Expr}{tl:TE}(hl:PE X l tl):PI X tg l (b1x X.K tl):=by
 intro pins s σ H R I h;refine thn (hl pins s σ H _ I h) fun v s1 ⟨x,H1,I1,r1,q1⟩=>?_
 obtain⟨a,e,⟨xs,hq⟩,q⟩:=q1;subst e;cases r1;obtain⟨its,rv,p,hz⟩:=I1.tuple hq;refine eZ (show s1.heap.IsTuple a its.toArray from p) ?_;refine⟨s1.heap.objs.size,[s1.heap.objs.size],_,_,H1,rfl,I1.kept (t':=s1.toks) fun b o e=>ag _ e,a0Q a _,⟨_,aB _ rfl,rfl,rfl⟩,fun b hb=>?_,q⟩;have e:b=s1.heap.objs.size:=by simpa using hb
 subst e;exact I1.fpOk (ao _) (I1.hok.fresh (ao _))
theorem a3U {pins:List (Addr×Obj)}{σ:St}{H:Hp}{s:Shared}{R:It->Hp->Prop}{E:Value->Shared->Prop}{lo hi:Int}{t u v:Tok}{tk:Nat}(I:Inv X pins σ H s)(h1:-(2 ^ 62)<=lo)(h2:lo<2 ^ 62)(h3:-(2 ^ 62)<=hi)(h4:hi<2 ^ 62)
  (q:R (Itr lo (hi-lo).toNat) H):wpAny (model X.prog X.w) X.A (pyIter (.ref s.heap.objs.size)) (PIE X pins σ tg R) E {s with heap:=s.heap.push {cls:=.type "range",data:=.fields #[.int lo t,.int hi u,.int 1 v]},toks:=tk}:=by
 refine wpAny_pyIter_range (IsRange.new ..) (small_one h1 h2 h3 h4) ?_;have I1:Inv X pins σ H {s with heap:=s.heap.push {cls:=.type "range",data:=.fields #[.int lo t,.int hi u,.int 1 v]},toks:=tk}:=I.kept fun b o e=>ag _ e
 refine⟨(s.heap.push {cls:=.type "range",data:=.fields #[.int lo t,.int hi u,.int 1 v]}).objs.size,[(s.heap.push {cls:=.type "range",data:=.fields #[.int lo t,.int hi u,.int 1 v]}).objs.size],_,_,H,rfl,
  I1.kept (t':=tk) fun b o e=>ag _ e,a4A _ lo (hi-lo).toNat,?_,fun b hb=>?_,q⟩
 ·have e1:lo+((0:Nat):Int)*1=lo:=by simp
  have e2:(((hi-lo).toNat:Nat):Int)-((0:Nat):Int)=gM lo hi 1:=by rw[rangeSize_one];split<;>omega
  show IsRangeIter _ _ (lo+((0:Nat):Int)*1) ((((hi-lo).toNat:Nat):Int)-((0:Nat):Int)) 1;rw[e1,e2];exact aB _ rfl
 ·have e:b=(s.heap.push {cls:=.type "range",data:=.fields #[.int lo t,.int hi u,.int 1 v]}).objs.size:=by simpa using hb
  subst e;exact I1.fpOk (ao _) (I1.hok.fresh (ao _))
def b0q (ta:TA):TI:=fun σ H R=>ta σ H fun vs H1=>∃ j:Int,vs=[.int j]/\-(2 ^ 62)<=j/\j<2 ^ 62/\R (Itr 0 j.toNat) H1
def b0p (ta:TA):TI:=fun σ H R=>ta σ H fun vs H1=>∃ i j:Int,vs=[.int i,.int j]/\(-(2 ^ 62)<=i/\i<2 ^ 62/\-(2 ^ 62)<=j/\j<2 ^ 62)/\R (Itr i (j-i).toNat) H1
theorem M3 {a:Expr}{ta:TA}{p pos:Pos}(hg:Gl X "range")(hm:X.mg "range"=none)(ha:PA X [a] ta)(hs:starEach [a] X.env=[(false,eval a X.env)]:=by rfl):PI X tg (.Call (.Name "range" p) [a] [] pos) (b0q ta):=by
 intro pins s σ H R I h;refine Call_ (S4 I hg hm kn (bV (thn (ha pos pins s σ H _ I h) fun us s1 ⟨vs,H1,I1,r1,q1⟩=>?_) hs rfl));obtain⟨j,e,q1,q2,q⟩:=q1;subst e;cases r1 with
 | cons r rr =>
  cases rr;obtain⟨t,rfl⟩:=r;exact call_range_1 (a3U I1 (by omega) (by omega) q1 q2 (by simpa using q))
theorem a2d {a b:Expr}{ta:TA}{p pos:Pos}(hg:Gl X "range")(hm:X.mg "range"=none)(ha:PA X [a,b] ta)(hs:starEach [a,b] X.env=[(false,eval a X.env),(false,eval b X.env)]:=by rfl)(hs2:starEach [b] X.env=[(false,eval b X.env)]:=by rfl) :
  PI X tg (.Call (.Name "range" p) [a,b] [] pos) (b0p ta):=by
 intro pins s σ H R I h;refine Call_ (S4 I hg hm kn (bV (thn (ha pos pins s σ H _ I h) fun us s1 ⟨vs,H1,I1,r1,q1⟩=>?_) (by rw[hs,hs2]) (by rw[hs2];rfl)));obtain⟨i,j,e,⟨q1,q2,q3,q4⟩,q⟩:=q1;subst e;cases r1 with
 | cons r rr =>
  cases rr with
  | cons r' rr =>
   cases rr;obtain⟨t,rfl⟩:=r;obtain⟨t',rfl⟩:=r';exact call_range_2 (a3U I1 q1 q2 q3 q4 q)
def b0J (wi:TI)(g:TG)(tb:TS):TS:=fun D σ H=>wi σ H fun J H1=>∃ W:Nat->Nat->St->Hp->Prop,(∃ m,W 0 m σ H1)/\∀ i m σ H,W i m σ H ->
 (J.stop i H/\D.nx σ H)\/(J.go i H/\∃ N:St->Hp->Prop,(∀ σ' H',N σ' H'->∃ m',m'<m/\W (i+1) m' σ' H')/\∀ x H',J.yld i H x H'->g x σ H' fun σ2 H2=>tb {D with nx:=N,ct:=N,bk:=D.nx} σ2 H2)
def Z3 (fp:List Addr)(h:Heap):List (Addr×Obj):=fp.filterMap fun b=>(h.get? b).map fun o=>(b,o)
theorem Q0 {fp:List Addr}{h:Heap}{b:Addr}{o:Obj}(hb:b∈fp)(e:h.get? b=some o):(b,o)∈Z3 fp h:=List.mem_filterMap.mpr ⟨b,hb,by rw[e];rfl⟩
theorem a6t {fp:List Addr}{h:Heap}{p:Addr×Obj}(hp:p∈Z3 fp h):p.1∈fp/\h.get? p.1=some p.2:=by
 obtain⟨b,hb,e⟩:=List.mem_filterMap.mp hp;cases q:h.get? b with
 | none=>rw[q] at e;cases e
 | some o =>
  rw[q] at e;have e':(b,o)=p:=aG e;subst e';exact⟨hb,q⟩
theorem Inv.pinned {pins:List (Addr×Obj)}{σ:St}{H:Hp}{s:Shared}{fp:List Addr}(I:Inv X pins σ H s)(hf:∀ b∈fp,X9 X pins H b)(ho:∀ b∈fp,∃ o,s.heap.get? b=some o/\∀ v,o.data≠.cell v):Inv X (pins++Z3 fp s.heap) σ H s :=
 I.pins_of fun p hp=>(ak.mp hp).elim (fun z=>I.pin p (bx _ z)) fun z=>by
  obtain⟨hb,e⟩:=a6t z;obtain⟨f0,f1,f2,_⟩:=hf p.1 hb;obtain⟨o,e',d⟩:=ho p.1 hb;rw[e] at e';cases e';exact⟨e,f0,f1,f2,d⟩
theorem Inv.unpinned {pins pl:List (Addr×Obj)}{σ:St}{H:Hp}{s:Shared}(I:Inv X (pins++pl) σ H s):Inv X pins σ H s:=I.pins_of fun p hp=>I.pin p (bx _ (cM _ hp))
theorem M9 {iter:Expr}{body:List Stmt}{wi:TI}{g:TG}{tb:TS}{pos:Pos}(hp:PassesOwn (model X.prog X.w) X.A X.env X.xe)(hc:X.calm=true)(hi:PI X tg iter wi)(hg:PG X tg g)(hb:PSs X body tb)
  (hs:∀ x,foldedSetIterable iter X.env x=pure x:=by intro _;rfl):PS X (.For tg iter body [] pos) (b0J wi g tb):=by
 intro pins s σ H D I h;refine wpAny_For (thn (hi pins s σ H _ I h) fun v s1 h1=>thn h1 fun itv s2 h2=>?_) hs;obtain⟨it,fp,tn,J,H2,e,I2,T,st2,f2,W,⟨m0,w0⟩,turn⟩:=h2;subst e;have stat:∀ {H':Hp},(∀ b∈fp,H' b=none)->∀ b∈fp,X9 X pins H' b:=fun hn b hb=>⟨hn b hb,(f2 b hb).2⟩
 refine codeAny_forLoop_any (fun n s'=>∃ i σ' H',Inv X pins σ' H' s'/\tn i s'.heap/\(∀ b∈fp,H' b=none)/\W i n σ' H') ?_ m0 ⟨0,σ,H2,I2,st2,fun b hb=>(f2 b hb).1,w0⟩;rintro n s3 ⟨i,σ3,H3,I3,st3,fr3,w3⟩;rcases turn i n σ3 H3 w3 with ⟨stop,qn⟩ | ⟨go,N,hN,step⟩
 ·refine dX hp (thn (T.done X rfl rfl rfl hc i pins s3 σ3 H3 X.xe I3 (stat fr3) st3 stop) fun r s4 ⟨hr,I4⟩=>?_);subst hr;exact gD ⟨σ3,H3,I4,qn⟩
 ·refine dX hp (thn (T.item X rfl rfl rfl hc i pins s3 σ3 H3 X.xe I3 (stat fr3) st3 go) fun r s4 ⟨u,hr,h4⟩=>?_);subst hr;refine dX hp (thn h4 fun _ s5 ⟨x,H5,I5,r5,y5,st5,fr5⟩=>?_);have I5':=I5.pinned (stat fr5) (T.obj _ _ st5);refine dX hp (thn (hg _ s5 σ3 H5 x u _ I5' r5 (step x H5 y5)) fun _ s6 ⟨σ6,H6,I6,q6⟩=>?_);refine dX hp (thn (hb _ s6 σ6 H6 _ I6 q6) fun f s7 q7=>?_);have again:∀ {σ7:St} {H7:Hp},Inv X (pins++Z3 fp s5.heap) σ7 H7 s7->N σ7 H7->∃ m,m<n/\∃ i σ' H',Inv X pins σ' H' s7/\tn i s7.heap/\(∀ b∈fp,H' b=none)/\W i m σ' H':=fun {σ7 H7} I7 n7=>by
   obtain⟨m',hm,w7⟩:=hN σ7 H7 n7;refine⟨m',hm,i+1,σ7,H7,I7.unpinned,T.keep _ _ _ st5 fun b hb o e=>(I7.pin (b,o) (bx _ (bx _ (Q0 hb e)))).1,fun b hb=>?_,w7⟩;obtain⟨o,e,d⟩:=T.obj _ _ st5 b hb;exact (I7.pin (b,o) (bx _ (bx _ (Q0 hb e)))).2.1
  cases f with
  | next=>obtain⟨σ7,H7,I7,n7⟩:=q7;exact again I7 n7
  | cont=>obtain⟨σ7,H7,I7,n7⟩:=q7;exact again I7 n7
  | brk=>obtain⟨σ7,H7,I7,q7⟩:=q7;exact⟨σ7,H7,I7.unpinned,q7⟩
  | ret v=>obtain⟨x7,σ7,H7,I7,r7,q7⟩:=q7;exact⟨x7,σ7,H7,I7.unpinned,r7,q7⟩
end
theorem X6 {K:ae}{a:Addr}{xs:List V}{g:TG}{tb:TS}{D:U2}{σ:St}{H:Hp}(Pv:Nat->St->Hp->Prop)(h0:Pv 0 σ H)(hl:∀ i σ H,i<=xs.length->Pv i σ H->SqL K H a xs)
  (hs:∀ i x σ H,xs[i]?=some x->Pv i σ H->g x σ H fun σ2 H2=>tb {D with nx:=Pv (i+1),ct:=Pv (i+1),bk:=D.nx} σ2 H2) (hd:∀ σ H,Pv xs.length σ H->D.nx σ H) :
  ∃ W:Nat->Nat->St->Hp->Prop,(∃ m,W 0 m σ H)/\∀ i m σ H,W i m σ H ->
   ((Itl K a).stop i H/\D.nx σ H)\/((Itl K a).go i H/\∃ N:St->Hp->Prop,(∀ σ' H',N σ' H'->∃ m',m'<m/\W (i+1) m' σ' H')/\∀ x H',(Itl K a).yld i H x H'->g x σ H' fun σ2 H2=>tb {D with nx:=N,ct:=N,bk:=D.nx} σ2 H2):=by
 refine⟨fun i m σ H=>m=xs.length-i/\i<=xs.length/\Pv i σ H,⟨xs.length,by simp,bf _,h0⟩,?_⟩;rintro i m σ H ⟨rfl,hi,p⟩;have q:=hl i σ H hi p;by_cases hlt:i<xs.length
 ·refine .inr ⟨⟨xs,xs[i],q,by simp[hlt]⟩,Pv (i+1),fun σ' H' p'=>⟨xs.length-(i+1),by omega,rfl,hlt,p'⟩,fun x H' y=>?_⟩;obtain⟨e,y⟩:=y;subst e;exact hs i x σ _ (y xs q) p
 ·have e:i=xs.length:=by omega
  subst e;exact .inl ⟨⟨xs,q,ao _⟩,hd σ H p⟩
theorem a0L {K:ae}{a:Addr}{xs:List V}{g:TG}{tb:TS}{D:U2}{σ:St}{H:Hp}(Pv:Nat->St->Hp->Prop)(h0:Pv 0 σ H)(hl:∀ i σ H,i<=xs.length->Pv i σ H->SqT K H a xs)
  (hs:∀ i x σ H,xs[i]?=some x->Pv i σ H->g x σ H fun σ2 H2=>tb {D with nx:=Pv (i+1),ct:=Pv (i+1),bk:=D.nx} σ2 H2) (hd:∀ σ H,Pv xs.length σ H->D.nx σ H) :
  ∃ W:Nat->Nat->St->Hp->Prop,(∃ m,W 0 m σ H)/\∀ i m σ H,W i m σ H ->
   ((Itt K a).stop i H/\D.nx σ H)\/((Itt K a).go i H/\∃ N:St->Hp->Prop,(∀ σ' H',N σ' H'->∃ m',m'<m/\W (i+1) m' σ' H')/\∀ x H',(Itt K a).yld i H x H'->g x σ H' fun σ2 H2=>tb {D with nx:=N,ct:=N,bk:=D.nx} σ2 H2):=by
 refine⟨fun i m σ H=>m=xs.length-i/\i<=xs.length/\Pv i σ H,⟨xs.length,by simp,bf _,h0⟩,?_⟩;rintro i m σ H ⟨rfl,hi,p⟩;have q:=hl i σ H hi p;by_cases hlt:i<xs.length
 ·refine .inr ⟨⟨xs,xs[i],q,by simp[hlt]⟩,Pv (i+1),fun σ' H' p'=>⟨xs.length-(i+1),by omega,rfl,hlt,p'⟩,fun x H' y=>?_⟩;obtain⟨e,y⟩:=y;subst e;exact hs i x σ _ (y xs q) p
 ·have e:i=xs.length:=by omega
  subst e;exact .inl ⟨⟨xs,q,ao _⟩,hd σ H p⟩
theorem R8 {lo:Int}{n:Nat}{g:TG}{tb:TS}{D:U2}{σ:St}{H:Hp}(Pv:Nat->St->Hp->Prop)(h0:Pv 0 σ H)
  (hs:∀ i σ H,i<n->Pv i σ H->g (.int (lo+i)) σ H fun σ2 H2=>tb {D with nx:=Pv (i+1),ct:=Pv (i+1),bk:=D.nx} σ2 H2) (hd:∀ σ H,Pv n σ H->D.nx σ H) :
  ∃ W:Nat->Nat->St->Hp->Prop,(∃ m,W 0 m σ H)/\∀ i m σ H,W i m σ H ->
   ((Itr lo n).stop i H/\D.nx σ H)\/((Itr lo n).go i H/\∃ N:St->Hp->Prop,(∀ σ' H',N σ' H'->∃ m',m'<m/\W (i+1) m' σ' H')/\∀ x H',(Itr lo n).yld i H x H'->g x σ H' fun σ2 H2=>tb {D with nx:=N,ct:=N,bk:=D.nx} σ2 H2):=by
 refine⟨fun i m σ H=>m=n-i/\i<=n/\Pv i σ H,⟨n,by simp,bf _,h0⟩,?_⟩;rintro i m σ H ⟨rfl,hi,p⟩;by_cases hlt:i<n
 ·refine .inr ⟨hlt,Pv (i+1),fun σ' H' p'=>⟨n-(i+1),by omega,rfl,hlt,p'⟩,fun x H' y=>?_⟩;obtain⟨e,y⟩:=y;subst e y;exact hs i σ _ hlt p
 ·have e:i=n:=by omega
  subst e;exact .inl ⟨ao _,hd σ H p⟩
theorem a6T {c:TT}{tb:TS}{D:U2}{σ:St}{H:Hp}(Pv:St->Hp->Prop)(μ:St->Hp->Nat)(h0:Pv σ H)
  (hs:∀ σ H,Pv σ H->c σ H fun b H1=>if b=true then tb {D with nx:=fun σ' H'=>Pv σ' H'/\μ σ' H'<μ σ H,ct:=fun σ' H'=>Pv σ' H'/\μ σ' H'<μ σ H,bk:=D.nx} σ H1 else D.nx σ H1)
  (mono:∀ σ H Q Q',(∀ b H1,Q b H1->Q' b H1)->c σ H Q->c σ H Q'):a6X c tb D σ H:=by
 refine⟨fun m σ H=>m=μ σ H/\Pv σ H,⟨_,rfl,h0⟩,?_⟩;rintro m σ H ⟨rfl,p⟩;refine mono σ H _ _ (fun b H1 q=>?_) (hs σ H p);cases b with
 | true=>exact⟨_,fun σ' H' ⟨p',l⟩=>⟨_,l,rfl,p'⟩,q⟩
 | false=>exact q
end L2
namespace L2
open PySem PySem.Spec PyProof.Rows
abbrev R2:=V->V->Hp->VK->Prop
def OpR (X:Cx)(f:Value->Value->Sem Value)(r:R2):Prop :=
 ∀(pins:List (Addr×Obj)) (s:Shared) (σ:St) (H:Hp) (x y:V) (v u:Value) (Q:VK),Inv X pins σ H s->F0 x v->F0 y u->r x y H Q ->
  wpAny (model X.prog X.w) X.A (f v u) (EP X pins σ Q) X.xe s
def UnR (X:Cx)(f:Value->Sem Value)(r:V->Hp->VK->Prop):Prop :=
 ∀(pins:List (Addr×Obj)) (s:Shared) (σ:St) (H:Hp) (x:V) (v:Value) (Q:VK),Inv X pins σ H s->F0 x v->r x H Q ->
  wpAny (model X.prog X.w) X.A (f v) (EP X pins σ Q) X.xe s
def L4 (X:Cx)(f:Value)(r:List V->Hp->VK->Prop):Prop :=
 ∀(pins:List (Addr×Obj)) (s:Shared) (σ:St) (H:Hp) (xs:List V) (us:List Value) (Q:VK),Inv X pins σ H s->C8 xs us->r xs H Q ->
  wpAny (model X.prog X.w) X.A (call f us) (EP X pins σ Q) X.xe s
def tOp (r:R2)(ta tb:TE):TE:=fun σ H Q=>ta σ H fun x H1=>tb σ H1 fun y H2=>r x y H2 Q
def tUn (r:V->Hp->VK->Prop)(ta:TE):TE:=fun σ H Q=>ta σ H fun x H1=>r x H1 Q
def rI (C:Int->Int->Prop)(g:Int->Int->V):R2:=fun x y H Q=>∃ i j,x=.int i/\y=.int j/\C i j/\Q (g i j) H
def rI0 (g:Int->Int->V):R2:=fun x y H Q=>∃ i j,x=.int i/\y=.int j/\Q (g i j) H
def rU (g:Int->V):V->Hp->VK->Prop:=fun x H Q=>∃ i,x=.int i/\Q (g i) H
section
variable {X:Cx}{a b c:Expr}{ta tb tc:TE}{pos:Pos}
theorem b1O (ha:PE X a ta)(hb:PE X b tb){pins:List (Addr×Obj)}{s:Shared}{σ:St}{H:Hp}{R:V->V->Hp->Prop}(I:Inv X pins σ H s)
  (h:ta σ H fun x H1=>tb σ H1 fun y H2=>R x y H2) {Q:Value->Shared->Prop} {f:Value->Value->Sem Value}
  (hf:∀ v u s2 x y H2,Inv X pins σ H2 s2->F0 x v->F0 y u->R x y H2->wpAny (model X.prog X.w) X.A (f v u) Q X.xe s2) :
  wpAny (model X.prog X.w) X.A (eval a X.env) (fun v sk=>wpAny (model X.prog X.w) X.A (eval b X.env) (fun u sv=>wpAny (model X.prog X.w) X.A (f v u) Q X.xe sv) X.xe sk) X.xe s:=by
 refine thn (ha pins s σ H _ I h) fun v s1 ⟨x,H1,I1,r1,q1⟩=>?_
 refine thn (hb pins s1 σ H1 _ I1 q1) fun u s2 ⟨y,H2,I2,r2,q2⟩=>?_
 exact hf v u s2 x y H2 I2 r1 r2 q2
theorem K9 {op:Operator}{r:R2}(ho:OpR X (binaryOp op) r)(ha:PE X a ta)(hb:PE X b tb):PE X (.BinOp a op b pos) (tOp r ta tb):=by
 intro pins s σ H Q I h;exact wpAny_BinOp (b1O ha hb I h fun v u s2 x y H2 I2 rx ry q=>ho pins s2 σ H2 x y v u Q I2 rx ry q)
theorem W3 {op:UnaryOp}{r:V->Hp->VK->Prop}(ho:UnR X (unaryOp op) r)(ha:PE X a ta):PE X (.UnaryOp op a pos) (tUn r ta):=by
 intro pins s σ H Q I h;exact UnaryOp_ (thn (ha pins s σ H _ I h) fun v s1 ⟨x,H1,I1,r1,q1⟩=>ho pins s1 σ H1 x v Q I1 r1 q1)
theorem opI {f:Value->Value->Sem Value}{C:Int->Int->Prop}{g:Int->Int->Int}
  (rule:∀(i j:Int) (t u:Tok) (s:Shared) (Q:Value->Shared->Prop) (E:Value->Shared->Prop),C i j->Q (.int (g i j) s.toks) {s with toks:=s.toks+1}->wpAny (model X.prog X.w) X.A (f (.int i t) (.int j u)) Q E s) :
  OpR X f (rI C fun i j=>.int (g i j)):=by
 intro pins s σ H x y v u Q I rx ry h;obtain⟨i,j,rfl,rfl,hc,q⟩:=h;obtain⟨t,rfl⟩:=rx;obtain⟨t',rfl⟩:=ry;exact rule i j t t' s _ _ hc ⟨.int (g i j),H,I.tok _,⟨_,rfl⟩,q⟩
theorem b2C {f:Value->Value->Sem Value}{g:Int->Int->Int}
  (rule:∀(i j:Int) (t u:Tok) (s:Shared) (Q:Value->Shared->Prop) (E:Value->Shared->Prop),Q (.int (g i j) s.toks) {s with toks:=s.toks+1}->wpAny (model X.prog X.w) X.A (f (.int i t) (.int j u)) Q E s) :
  OpR X f (rI0 fun i j=>.int (g i j)):=by
 intro pins s σ H x y v u Q I rx ry h;obtain⟨i,j,rfl,rfl,q⟩:=h;obtain⟨t,rfl⟩:=rx;obtain⟨t',rfl⟩:=ry;exact rule i j t t' s _ _ ⟨.int (g i j),H,I.tok _,⟨_,rfl⟩,q⟩
theorem a9a {f:Value->Value->Sem Value}{g:Int->Int->Bool}
  (rule:∀(i j:Int) (t u:Tok) (s:Shared) (Q:Value->Shared->Prop) (E:Value->Shared->Prop),Q (.bool (g i j)) s->wpAny (model X.prog X.w) X.A (f (.int i t) (.int j u)) Q E s) :
  OpR X f (rI0 fun i j=>.bl (g i j)):=by
 intro pins s σ H x y v u Q I rx ry h;obtain⟨i,j,rfl,rfl,q⟩:=h;obtain⟨t,rfl⟩:=rx;obtain⟨t',rfl⟩:=ry;exact rule i j t t' s _ _ ⟨.bl (g i j),H,I,rfl,q⟩
def b3I (i j:Int):Prop:=0<j/\j<1073741824
def a9T (i j:Int):Prop:=0<=j/\j<=1000000/\i.natAbs<2 ^ 64
def a9U (i j:Int):Prop:=(-(2 ^ 64)<i/\i<2 ^ 64)\/(-(2 ^ 64)<j/\j<2 ^ 64)
theorem a9U.ok {i j:Int}(h:a9U i j):IntMulOk i j:=by
 rcases h with ⟨h1,h2⟩ | ⟨h1,h2⟩
 ·exact .of_left (intBits_le_64 h1 h2)
 ·exact .of_right (intBits_le_64 h1 h2)
theorem b1d:OpR X (binaryOp .Add) (rI0 fun i j=>.int (i+j)):=b2C fun _ _ _ _ _ _ _ q=>add_int q
theorem b0Y:OpR X (binaryOp .Sub) (rI0 fun i j=>.int (i-j)):=b2C fun _ _ _ _ _ _ _ q=>sub_int q
theorem W6:OpR X (binaryOp .Mult) (rI a9U fun i j=>.int (i*j)):=opI fun _ _ _ _ _ _ _ hc q=>mul_int q hc.ok
theorem a2N:OpR X (binaryOp .FloorDiv) (rI b3I fun i j=>.int (i / j)):=opI fun i j _ _ _ _ _ hc q=>by
 have h1:(0:Int)<j:=hc.1;have h2:j<1073741824:=hc.2;exact floordiv_int (by omega) (by rw[Int.fdiv_eq_ediv_of_nonneg i (by omega)];exact q) (.inl (PyProof.noPylong_small (by omega)))
theorem b1b:OpR X (binaryOp .Mod) (rI (fun _ j=>0<j) fun i j=>.int (i % j)):=opI fun i j _ _ _ _ _ hc q=>by
 have h1:(0:Int)<j:=hc;exact mod_int' (by omega) (by rw[Int.fmod_eq_emod_of_nonneg i (by omega)];exact q)
theorem a4K:OpR X (binaryOp .Pow) (rI a9T fun i j=>.int (i ^ j.toNat)):=opI fun _ _ _ _ _ _ _ hc q=>pow_int_small hc.1 hc.2.1 hc.2.2 q
theorem unI {f:Value->Sem Value}{g:Int->Int}
  (rule:∀(i:Int) (t:Tok) (s:Shared) (Q:Value->Shared->Prop) (E:Value->Shared->Prop),Q (.int (g i) s.toks) {s with toks:=s.toks+1}->wpAny (model X.prog X.w) X.A (f (.int i t)) Q E s) :
  UnR X f (rU fun i=>.int (g i)):=by
 intro pins s σ H x v Q I rx h;obtain⟨i,rfl,q⟩:=h;obtain⟨t,rfl⟩:=rx;exact rule i t s _ _ ⟨.int (g i),H,I.tok _,⟨_,rfl⟩,q⟩
theorem R9:UnR X (unaryOp .USub) (rU fun i=>.int (-i)):=unI fun _ _ _ _ _ q=>neg_int q
end
def a7j:V->V->Bool
 | .non,.non=>true | .non,.int _=>true | .int _,.non=>true | .non,.bl _=>true | .bl _,.non=>true | .non,.str _=>true | .str _,.non=>true
 | .int _,.int _=>true | .bl _,.bl _=>true | .str _,.str _=>true | .byt _,.byt _=>true
 | .int _,.str _=>true | .str _,.int _=>true | .bl _,.str _=>true | .str _,.bl _=>true
 | _,_=>false
def rEq:R2:=fun x y H Q=>a7j x y=true/\Q (.bl (decide (x=y))) H
def rNe:R2:=fun x y H Q=>a7j x y=true/\Q (.bl (!decide (x=y))) H
theorem a5X {i j:Int}:decide (V.int i=V.int j)=(i == j):=by
 rw[fA];simp
theorem a8w {i j:Bool}:decide (V.bl i=V.bl j)=(i == j):=by
 rw[fA];simp
theorem a5W {i j:Str}:decide (V.str i=V.str j)=(i == j):=by
 rw[fA];simp
theorem a5Y {i j:Array UInt8}:decide (V.byt i=V.byt j)=(i.toList == j.toList):=by
 rw[fA];cases i;cases j;simp
section
variable {X:Cx}{a b c:Expr}{ta tb tc:TE}{pos:Pos}
theorem J0 {pins:List (Addr×Obj)}{σ:St}{H:Hp}{s:Shared}{Q:VK}{k k':Bool}(I:Inv X pins σ H s)(q:Q (.bl k) H)(e:k=k'):EP X pins σ Q (.bool k') s:=by
 subst e;exact⟨.bl k,H,I,rfl,q⟩
theorem a0h:OpR X (compareOp .Eq) rEq:=by
 intro pins s σ H x y v u Q I rx ry h;obtain⟨hs,q⟩:=h;cases x with
 | non =>
  cases rx;cases y with
  | non=>cases ry;exact PySem.EqNone.eq_none_none (J0 I q (by simp))
  | bl j=>cases ry;exact PySem.EqNone.eq_none_bool (J0 I q (by simp))
  | int j=>obtain⟨t',rfl⟩:=ry;exact PySem.EqNone.eq_none_int (J0 I q (by simp))
  | str j=>obtain⟨t',rfl⟩:=ry;exact PySem.EqNone.eq_none_str (J0 I q (by simp))
  | _=>exact absurd (show false=true from hs) aO
 | bl i =>
  cases rx;cases y with
  | non=>cases ry;exact PySem.EqNone.eq_bool_none (J0 I q (by simp))
  | bl j=>cases ry;exact eq_bool (J0 I q a8w)
  | str j=>obtain⟨t',rfl⟩:=ry;exact PySem.EqMixed.eq_bool_str (J0 I q (by simp))
  | _=>exact absurd (show false=true from hs) aO
 | int i =>
  obtain⟨t,rfl⟩:=rx;cases y with
  | non=>cases ry;exact PySem.EqNone.eq_int_none (J0 I q (by simp))
  | int j=>obtain⟨t',rfl⟩:=ry;exact eq_int (J0 I q a5X)
  | str j=>obtain⟨t',rfl⟩:=ry;exact PySem.EqMixed.eq_int_str (J0 I q (by simp))
  | _=>exact absurd (show false=true from hs) aO
 | str i =>
  obtain⟨t,rfl⟩:=rx;cases y with
  | non=>cases ry;exact PySem.EqNone.eq_str_none (J0 I q (by simp))
  | bl j=>cases ry;exact PySem.EqMixed.eq_str_bool (J0 I q (by simp))
  | int j=>obtain⟨t',rfl⟩:=ry;exact PySem.EqMixed.eq_str_int (J0 I q (by simp))
  | str j=>obtain⟨t',rfl⟩:=ry;exact eq_str (J0 I q a5W)
  | _=>exact absurd (show false=true from hs) aO
 | byt i =>
  obtain⟨t,rfl⟩:=rx;cases y with
  | byt j=>obtain⟨t',rfl⟩:=ry;exact PySem.W.eq_bytes (J0 I q a5Y)
  | _=>exact absurd (show false=true from hs) aO
 | _=>cases y<;>exact absurd (show false=true from hs) aO
theorem a0g:OpR X (compareOp .NotEq) rNe:=by
 intro pins s σ H x y v u Q I rx ry h;obtain⟨hs,q⟩:=h;cases x with
 | non =>
  cases rx;cases y with
  | non=>cases ry;exact PySem.EqNone.ne_none_none (J0 I q (by simp))
  | bl j=>cases ry;exact PySem.EqNone.ne_none_bool (J0 I q (by simp))
  | int j=>obtain⟨t',rfl⟩:=ry;exact PySem.EqNone.ne_none_int (J0 I q (by simp))
  | str j=>obtain⟨t',rfl⟩:=ry;exact PySem.EqNone.ne_none_str (J0 I q (by simp))
  | _=>exact absurd (show false=true from hs) aO
 | bl i =>
  cases rx;cases y with
  | non=>cases ry;exact PySem.EqNone.ne_bool_none (J0 I q (by simp))
  | bl j=>cases ry;exact ne_bool (J0 I q (congrArg not a8w))
  | str j=>obtain⟨t',rfl⟩:=ry;exact PySem.EqMixed.ne_bool_str (J0 I q (by simp))
  | _=>exact absurd (show false=true from hs) aO
 | int i =>
  obtain⟨t,rfl⟩:=rx;cases y with
  | non=>cases ry;exact PySem.EqNone.ne_int_none (J0 I q (by simp))
  | int j=>obtain⟨t',rfl⟩:=ry;exact ne_int (J0 I q (congrArg not a5X))
  | str j=>obtain⟨t',rfl⟩:=ry;exact PySem.EqMixed.ne_int_str (J0 I q (by simp))
  | _=>exact absurd (show false=true from hs) aO
 | str i =>
  obtain⟨t,rfl⟩:=rx;cases y with
  | non=>cases ry;exact PySem.EqNone.ne_str_none (J0 I q (by simp))
  | bl j=>cases ry;exact PySem.EqMixed.ne_str_bool (J0 I q (by simp))
  | int j=>obtain⟨t',rfl⟩:=ry;exact PySem.EqMixed.ne_str_int (J0 I q (by simp))
  | str j=>obtain⟨t',rfl⟩:=ry;exact ne_str (J0 I q (congrArg not a5W))
  | _=>exact absurd (show false=true from hs) aO
 | byt i =>
  obtain⟨t,rfl⟩:=rx;cases y with
  | byt j=>obtain⟨t',rfl⟩:=ry;exact PySem.W.ne_bytes (J0 I q (congrArg not a5Y))
  | _=>exact absurd (show false=true from hs) aO
 | _=>cases y<;>exact absurd (show false=true from hs) aO
theorem a0D:OpR X (compareOp .Lt) (rI0 fun i j=>.bl (decide (i<j))):=a9a fun _ _ _ _ _ _ _ q=>lt_int q
theorem a5I:OpR X (compareOp .LtE) (rI0 fun i j=>.bl (decide (i<=j))):=a9a fun _ _ _ _ _ _ _ q=>le_int q
theorem a3Z:OpR X (compareOp .Gt) (rI0 fun i j=>.bl (decide (j<i))):=a9a fun _ _ _ _ _ _ _ q=>gt_int q
theorem b2B:OpR X (compareOp .GtE) (rI0 fun i j=>.bl (decide (j<=i))):=a9a fun _ _ _ _ _ _ _ q=>ge_int q
theorem B5 (b:Expr){op:CmpOp}(h:op≠.In:=by decide)(h2:op≠.NotIn:=by decide):behindInMarks op b=false:=by
 have e1:(op == CmpOp.In)=false:=by cases op<;>first | rfl | exact absurd rfl h
 have e2:(op == CmpOp.NotIn)=false:=by cases op<;>first | rfl | exact absurd rfl h2
 cases b<;>simp[behindInMarks,e1,e2]
theorem M1 {op:CmpOp}{r:R2}(ho:OpR X (compareOp op) r)(ha:PE X a ta)(hb:PE X b tb)(hm:behindInMarks op b=false):PE X (.Compare a [op] [b] pos) (tOp r ta tb):=by
 intro pins s σ H Q I h;exact wpAny_Compare1 (b1O ha hb I h fun v u s2 x y H2 I2 rx ry q=>ho pins s2 σ H2 x y v u Q I2 rx ry q) hm
def a9W (t:TE):TT:=fun σ H Q=>t σ H fun x H'=>∃ k,x=.bl k/\Q k H'
theorem B0 {op:CmpOp}{r:R2}(ho:OpR X (compareOp op) r)(ha:PE X a ta)(hb:PE X b tb)(hm:behindInMarks op b=false):PT X (.Compare a [op] [b] pos) (a9W (tOp r ta tb)):=by
 intro pins s σ H Q I h
 refine j3 (thn (ha pins s σ H _ I h) fun v s1 ⟨x,H1,I1,r1,q1⟩=>thn (hb pins s1 σ H1 _ I1 q1) fun u s2 ⟨y,H2,I2,r2,q2⟩ =>
  thn (ho pins s2 σ H2 x y v u _ I2 r1 r2 q2) fun c s3 ⟨z,H3,I3,r3,k,e,q3⟩=>?_) hm
 subst e;cases r3;exact dq ⟨H3,I3,q3⟩
def a7d (r r':R2)(ta tb tc:TE):TE:=fun σ H Q=>ta σ H fun x H1=>tb σ H1 fun y H2=>r x y H2 fun z H3=>∃ k,z=.bl k /\
 (if k=true then tc σ H3 fun w' H4=>r' y w' H4 Q else Q (.bl false) H3)
theorem a7u {op op':CmpOp}{r r':R2}(ho:OpR X (compareOp op) r)(ho':OpR X (compareOp op') r')(ha:PE X a ta)(hb:PE X b tb)(hc:PE X c tc)
  (hm:lastMarks [op,op'] [b,c]=false:=by with_unfolding_all rfl):PE X (.Compare a [op,op'] [b,c] pos) (a7d r r' ta tb tc):=by
 intro pins s σ H Q I h
 refine Compare_chain (thn (ha pins s σ H _ I h) fun v s1 ⟨x,H1,I1,r1,q1⟩=>chain_link (thn (hb pins s1 σ H1 _ I1 q1) fun u s2 ⟨y,H2,I2,r2,q2⟩ =>
  thn (ho pins s2 σ H2 x y v u _ I2 r1 r2 q2) fun d s3 ⟨z,H3,I3,r3,k,e,q3⟩=>?_)) hm
 subst e;cases r3;refine dq ?_;cases k with
 | false=>exact ite_ff ⟨.bl false,H3,I3,rfl,q3⟩
 | true=>exact ite_tt (chain_last (thn (hc pins s3 σ H3 _ I3 q3) fun w' s4 ⟨z',H4,I4,r4,q4⟩=>ho' pins s4 σ H4 y z' u w' Q I4 r2 r4 q4))
theorem a2V:(sizeLine:Nat)<2 ^ 63:=by rw[sizeLine_eq];decide
theorem Q5 {x:V}{us:List Value}(r:C8 [x] us):∃ u,us=[u]/\F0 x u:=by
 cases r with
 | cons r1 r2=>cases r2;exact⟨_,rfl,r1⟩
theorem a5k {x y:V}{us:List Value}(r:C8 [x,y] us):∃ u w',us=[u,w']/\F0 x u/\F0 y w':=by
 cases r with
 | cons r1 r2 =>
  cases r2 with
  | cons r3 r4=>cases r4;exact⟨_,_,rfl,r1,r3⟩
theorem U6 (hc:X.calm=true):L4 X (.builtin "max") (fun xs H Q=>∃ i j,xs=[.int i,.int j]/\Q (.int (if j>i then j else i)) H):=by
 intro pins s σ H xs us Q I r h;obtain⟨i,j,rfl,q⟩:=h;obtain⟨u,w',rfl,⟨t,rfl⟩,⟨t',rfl⟩⟩:=a5k r;refine max_two_ints (I.ok.hd hc) fun h' tk k=>⟨_,H,I.kept k,?_,q⟩
 by_cases hj:j>i
 ·rw[if_pos hj,if_pos hj];exact⟨_,rfl⟩
 ·rw[if_neg hj,if_neg hj];exact⟨_,rfl⟩
theorem a0x (hc:X.calm=true):L4 X (.builtin "min") (fun xs H Q=>∃ i j,xs=[.int i,.int j]/\Q (.int (if j<i then j else i)) H):=by
 intro pins s σ H xs us Q I r h;obtain⟨i,j,rfl,q⟩:=h;obtain⟨u,w',rfl,⟨t,rfl⟩,⟨t',rfl⟩⟩:=a5k r;refine min_two_ints (I.ok.hd hc) fun h' tk k=>⟨_,H,I.kept k,?_,q⟩
 by_cases hj:j<i
 ·rw[if_pos hj,if_pos hj];exact⟨_,rfl⟩
 ·rw[if_neg hj,if_neg hj];exact⟨_,rfl⟩
theorem a6O:L4 X (.type "int") (fun xs H Q=>(∃ i,xs=[.int i]/\Q (.int i) H)\/∃ k,xs=[.bl k]/\Q (.int (if k then 1 else 0)) H):=by
 intro pins s σ H xs us Q I r h;rcases h with ⟨i,rfl,q⟩ | ⟨k,rfl,q⟩
 ·obtain⟨u,rfl,t,rfl⟩:=Q5 r;exact call_int_int ⟨.int i,H,I,⟨_,rfl⟩,q⟩
 ·obtain⟨u,rfl,r1⟩:=Q5 r;cases r1;exact call_int_bool ⟨.int (if k then 1 else 0),H,I.tok _,⟨_,rfl⟩,q⟩
theorem a3e:L4 X (.type "str") (fun xs H Q=>∃ i,xs=[.int i]/\i.natAbs.log2<1920/\Q (.str (toString i)) H):=by
 intro pins s σ H xs us Q I r h;obtain⟨i,rfl,hz,q⟩:=h;obtain⟨u,rfl,t,rfl⟩:=Q5 r;exact PySem.P.str_of_int hz ⟨.str _,H,I.tok _,⟨_,rfl⟩,q⟩
end
end L2
namespace L2
open PySem PySem.Spec PyProof.Rows
structure b1T (h:Heap)(x dx C:Addr)(mA:Str->Option Value):Prop where
 obj:h.get? x=some (dN C dx)
 ns:h.Ns1 dx mA
 ne:dx≠x
theorem a6v {h:Heap}{dx:Addr}{mA:Str->Option Value}(n:h.Ns1 dx mA):∃ od,h.get? dx=some od/\∀ name,PySem.W.lookIn name od=some (mA name):=by
 obtain⟨o,es,ep,ho,hd,hk,_,hm⟩:=n;refine⟨o,ho,fun name=>?_⟩;have e:=hm name;unfold nsFind findBy at e;rw[<- Array.find?_toList] at e;unfold PySem.W.lookIn;rw[hd];dsimp only;split
 ·rename_i y q;rw[q] at e;exact congrArg some e
 ·rename_i q;rw[q] at e;have a:es.toList.any (·.refKey)=false:=by
   rw[List.any_eq_false];intro y hy;obtain⟨z,t,hkey⟩:=hk y (Array.mem_toList_iff.mp hy);simp[DictEntry.refKey,hkey]
  have a':¬ es.toList.any (·.refKey)=true:=by rw[a];exact aO
  rw[if_neg a'];exact congrArg some e
theorem b1T.look {h:Heap}{x dx C:Addr}{mA:Str->Option Value}(I:b1T h x dx C mA):∃ od,PySem.W.InstAt h x (dN C dx) C (some od)/\∀ name,PySem.W.lookIn name od=some (mA name) :=
 let ⟨od,ho,hl⟩:=a6v I.ns
 ⟨od,⟨I.obj,rfl,rfl,ho⟩,hl⟩
section
variable {P:Program}{w:World}{H H':Hp}{h h':Heap}{a C dx:Addr}{fs fs':List (Str×V)}
theorem a9K (hok:HOk P w H h)(e:H a=some (.ins C dx fs)):∃ mA,b1T h a dx C mA/\(∀ f,a3n (fs.lookup f) (mA f))/\PySem.Within mA (fs.map (·.1))/\fs.length<=1000/\H dx=some (.own a):=by
 obtain⟨d,z,ne,ob,mA,n,r,q⟩:=(show K8 P w H h a (.ins C dx fs) from hok a _ e)
 exact⟨mA,⟨ob,n,ne⟩,r,q,z,d⟩
end
structure Cls (K:ae)(C:Addr):Prop where
 pg:PySem.W.plainGet K C Str.empty=true
 hd:PySem.W.hasDictIn K C=true
 po:PySem.W.plainOver K C=true
 sa:PySem.W.findIn K (.ref C) "__setattr__"=some (some (.builtin "object.__setattr__"))
theorem Cls.get {K:ae}{C:Addr}(c:Cls K C)(f:Str):PySem.W.plainGet K C f=true:=c.pg
section
variable {X:Cx}{pins:List (Addr×Obj)}{σ:St}{H:Hp}{s:Shared}{a C dx:Addr}{fs:List (Str×V)}{f:Str}{v:V}{A:Around}{E:Value->Shared->Prop}
theorem Inv.made (I:Inv X pins σ H s):Inv X pins σ (upd (upd H s.heap.objs.size (.own (s.heap.objs.size+1))) (s.heap.objs.size+1) (.ins C s.heap.objs.size []))
  {s with heap:=(s.heap.push cV).push (dN C s.heap.objs.size)}:=by
 have e1:(s.heap.push cV).get? s.heap.objs.size=some cV:=aB s.heap rfl;have e2:((s.heap.push cV).push (dN C s.heap.objs.size)).get? (s.heap.objs.size+1)=some (dN C s.heap.objs.size):=by
  have:=aB (s.heap.push cV) (o:=dN C s.heap.objs.size) rfl
  rwa [cm] at this
 have e3:(s.heap.push cV).Ns s.heap.objs.size (fun _=>none):=⟨cV,#[],_,e1,rfl,(fun e he=>absurd he (by simp)),fun _=>rfl⟩
 have I1:=I.laid (a:=s.heap.objs.size) (o:=.own (s.heap.objs.size+1)) (h':=s.heap.push cV) (t':=s.toks) (fun b u q=>ag _ q) (ao _) ⟨_,e1⟩;refine I1.laid (a:=s.heap.objs.size+1) (o:=.ins C s.heap.objs.size []) (t':=s.toks) (fun b u q=>ag _ q) (gn (cm _ _)) ?_;have ne:s.heap.objs.size≠s.heap.objs.size+1:=aP (ij _);refine⟨by rw[B2 ne,A2],bf _,ne,e2,fun _=>none,(Heap.Ns1.of_empty e3).at fun o q=>ag _ q,fun _=>dr,fun y hy=>absurd rfl hy⟩
end
section
variable {X:Cx}{pins:List (Addr×Obj)}{σ:St}{H:Hp}{s:Shared}{A:Around}{E:Value->Shared->Prop}{Q:Value->Shared->Prop}{c:Value}{b:Bool}
inductive a0m (K:ae)(H:Hp):V->Value->Prop where
 | non:a0m K H .non (.type "NoneType")
 | bl (x:Bool):a0m K H (.bl x) (.type "bool")
 | int (i:Int):a0m K H (.int i) (.type "int")
 | str (x:Str):a0m K H (.str x) (.type "str")
 | flt (x:UInt64):a0m K H (.flt x) (.type "float")
 | lst {a:Addr} {xs:List V} (e:H a=some (.lst xs)):a0m K H (.ref a) (.type "list")
 | frz {a:Addr} {o:Obj} {xs:List V} (e:H a=some (.frz o (.lst xs))):a0m K H (.ref a) (.type "list")
 | tup {a:Addr} {xs:List V} (e:H a=some (.tup xs)):a0m K H (.ref a) (.type "tuple")
 | dK {a:Addr} {kvs:List (Key×V)} (e:H a=some (.dK kvs)):a0m K H (.ref a) (.type "dict")
 | dT {a:Addr} {kvs:List (List Key×V)} (e:H a=some (.dT kvs)):a0m K H (.ref a) (.type "dict")
 | ins {a C dx:Addr} {fs:List (Str×V)} (e:H a=some (.ins C dx fs)) (cl:Cls K C) (ha:PySem.W.findIn K (.ref C) "__class__"=some (some (.builtin "object.__class__")))
   (hn:PySem.W.specialIn K (.builtin "object.__class__") "__get__"=some (some (.builtin "getset_descriptor.__get__"))) (htk:PySem.W.takesIn K (.builtin "object.__class__")=some true)
   (hm:PySem.W.mroIn K C (.type "object")=some true):a0m K H (.ref a) (.ref C)
theorem a6z {x:V}{u t:Value}(I:Inv X pins σ H s)(rx:F0 x u)(ty:a0m X.K H x t)(e:ia X.K t c=some b)(h:∀ tk,Q (.bool b) {s with toks:=tk}) :
  wpAny (model X.prog X.w) A (call (.builtin "isinstance") [u,c]) Q E s:=by
 cases ty with
 | non=>cases (show u=cw from rx);exact cI PySem.W.kitx_none I.kIn dr e (fun z=>nomatch z) h
 | bl y=>cases (show u=aT y from rx);exact cI PySem.W.kitx_bool I.kIn dr e (fun z=>nomatch z) h
 | int i=>obtain⟨t,q⟩:=(show ∃ t,u=cG i t from rx);cases q;exact cI PySem.W.kitx_int I.kIn dr e (fun z=>nomatch z) h
 | str y=>obtain⟨t,q⟩:=(show ∃ t,u=ge y t from rx);cases q;exact cI PySem.W.kitx_str I.kIn dr e (fun z=>nomatch z) h
 | flt y=>obtain⟨t,q⟩:=(show ∃ t,u=Value.float y t from rx);cases q;exact cI PySem.W.kitx_float I.kIn dr e (fun z=>nomatch z) h
 | @lst a xs ea =>
  cases (show u=bF a from rx);obtain⟨_,_,n,_,h1⟩:=(show K8 X.prog X.w H s.heap a (.lst xs) from I.hok a _ ea)
  exact cI jt I.kIn ⟨_,h1,rfl⟩ e (fun z=>nomatch z) h
 | @frz a ob xs ea =>
  cases (show u=bF a from rx);obtain⟨_,_,_,n,_,h1⟩:=(show K8 X.prog X.w H s.heap a (.frz ob (.lst xs)) from I.hok a _ ea)
  exact cI jt I.kIn ⟨_,h1,rfl⟩ e (fun z=>nomatch z) h
 | @tup a xs ea =>
  cases (show u=bF a from rx);obtain⟨_,_,_,p⟩:=(show K8 X.prog X.w H s.heap a (.tup xs) from I.hok a _ ea)
  obtain⟨o,h1,h2,_⟩:=p;exact cI PySem.W.kitx_tuple I.kIn ⟨o,h1,h2⟩ e (fun z=>nomatch z) h
 | @dK a kvs ea =>
  cases (show u=bF a from rx);obtain⟨_,_,vs,_,p⟩:=(show K8 X.prog X.w H s.heap a (.dK kvs) from I.hok a _ ea)
  obtain⟨o,es,ep,h1,h2,_⟩:=p;exact cI ju I.kIn ⟨o,h1,h2.1⟩ e (fun z=>nomatch z) h
 | @dT a kvs ea =>
  cases (show u=bF a from rx);obtain⟨_,_,xs,_,o,es,ep,h1,h2,_⟩:=(show K8 X.prog X.w H s.heap a (.dT kvs) from I.hok a _ ea)
  exact cI ju I.kIn ⟨o,h1,h2.1⟩ e (fun z=>nomatch z) h
 | @ins a C dx fs ea cl ha hn htk hm =>
  cases (show u=bF a from rx);obtain⟨mA,O,_⟩:=a9K I.hok ea;obtain⟨od,J,_⟩:=O.look;exact cI (PySem.W.kitx_own (cl.get _) cl.hd ha hn htk hm) I.kIn J e (fun z=>nomatch z) h
end
end L2
namespace L2
open PySem PySem.Spec PyProof.Rows
structure Q1 (k:Nat)(A:Around):Prop where
 hd:A.handled=none
 dp:A.depth+3*k+5<recursionLimit
 un:A.units+16*k+200<cLine
 gd:A.guards=some []
theorem Q1.mono {j k:Nat}{A:Around}(r:Q1 k A)(h:j<=k):Q1 j A:=⟨r.hd,by have:=r.dp;omega,by have:=r.un;omega,r.gd⟩
theorem Q1.deeper {k:Nat}{A:Around}(r:Q1 (k+1) A)(env:Env):Q1 k (A.deeper env) :=
 ⟨r.hd,by have:=r.dp;show A.depth+1+3*k+5<_;omega,by have:=r.un;show A.units+3+16*k+200<_;omega,r.gd⟩
theorem Q1.in1 {k:Nat}{A:Around}(r:Q1 (k+1) A):Q1 k A.in1 :=
 ⟨r.hd,by have:=r.dp;show A.depth+3*k+5<_;omega,by have:=r.un;show A.units+1+16*k+200<_;omega,r.gd⟩
theorem Q1.depth {k:Nat}{A:Around}(r:Q1 k A):A.depth<recursionLimit:=by have:=r.dp;omega
theorem Q1.units {k:Nat}{A:Around}(r:Q1 k A):A.units+64<cLine:=by have:=r.un;omega
def a8J:TA:=fun _ H Q=>Q [] H
def b0e (ta:TE)(tr:TA):TA:=fun σ H Q=>ta σ H fun x H1=>tr σ H1 fun xs H2=>Q (x::xs) H2
section
variable {X:Cx}{e:Expr}{es:List Expr}{te:TE}{t:TA}{pos:Pos}
theorem A0:PA X [] a8J:=fun _ _ _ _ H Q I h=>fO ⟨[],H,I,.nil,h⟩
theorem a2L (ha:PE X e te)(hr:PA X es t)(hs:starEach (e::es) X.env=(false,eval e X.env)::starEach es X.env:=by rfl):PA X (e::es) (b0e te t):=by
 intro pos pins s σ H Q I h;rw[hs];show wpAny _ _ (spliced ((false,eval e X.env)::backTo pos (starEach es X.env))) _ _ s;refine fF (thn (ha pins s σ H _ I h) fun u s1 ⟨x,H1,I1,r1,q1⟩=>?_);exact thn (hr pos pins s1 σ H1 _ I1 q1) fun us s2 ⟨xs,H2,I2,r2,q2⟩=>⟨x::xs,H2,I2,.cons r1 r2,q2⟩
def b1Z (t:TA):TE:=fun σ H Q=>t σ H fun xs H1=>xs.length<=sizeLine/\∀ p,H1 p=none->Q (.ref p) (upd H1 p (.tup xs))
def b0I (t:TA):TE:=fun σ H Q=>t σ H fun xs H1=>xs.length<=sizeLine/\∀ p,H1 p=none->Q (.ref p) (upd H1 p (.lst xs))
theorem C9 {x1}(h:PA X es t):PE X (.Tuple es x1 pos) (b1Z t):=by
 intro pins s σ H Q I hq;refine wpAny_Tuple_spliced (thn (h pos pins s σ H _ I hq) fun us s1 ⟨xs,H1,I1,r,z,q⟩=>⟨by rw[<- r.length];exact z,?_⟩);have hf:H1 s1.heap.objs.size=none:=I1.hok.fresh (ao _);refine⟨.ref s1.heap.objs.size,upd H1 s1.heap.objs.size (.tup xs),I1.laid (t':=s1.toks) (fun b u e=>ag _ e) (ao _) ?_,rfl,q _ hf⟩;exact⟨z,us,r,⟨_,aB _ rfl,rfl,_,rfl⟩⟩
theorem D0 (h:PA X es t):PE X (.List es pos) (b0I t):=by
 intro pins s σ H Q I hq;refine wpAny_List_spliced (thn (h pos pins s σ H _ I hq) fun us s1 ⟨xs,H1,I1,r,z,q⟩=>⟨by rw[<- r.length];exact z,?_⟩);have hf:H1 s1.heap.objs.size=none:=I1.hok.fresh (ao _);refine⟨.ref s1.heap.objs.size,upd H1 s1.heap.objs.size (.lst xs),I1.laid (t':=s1.toks) (fun b u e=>ag _ e) (ao _) ?_,rfl,q _ hf⟩;exact⟨z,us,0,r,aB _ rfl⟩
end
abbrev Sp:=List V->Hp->VK->XK->Prop
abbrev CXT:=List Env->Hp->Shared->XK->Value->Shared->Prop
structure a5i (P:Program)(w:World)(K:ae)(mg:Str->Option Value)(base:Heap)(A:Around)(outer:List Env)(s:Shared)(H:Hp):Prop where
 frames:A.frames=some outer
 mod:Mod K mg base
 bs:∀ b o,base.get? b=some o->s.heap.get? b=some o/\H b=none
 bsz:base.objs.size<=s.heap.objs.size
 funs:s.heap.FunFrames base outer
 frf:∀ b∈frs outer,H b=none
 hok:HOk P w H s.heap
 bare:AllBare s.gens
def CE (outer:List Env)(P:Program)(w:World)(H:Hp)(s:Shared)(Q:VK)(u:Value)(s':Shared):Prop :=
 ∃ v H',s'.os=s.os/\AllBare s'.gens/\Un (frs outer) [] H H' s.heap s'.heap/\HOk P w H' s'.heap/\F0 v u/\Q v H'
def CR (CX:CXT)(outer:List Env)(P:Program)(w:World)(H:Hp)(s:Shared)(Q:VK)(E:XK)(r:Result)(s':Shared):Prop :=
 match r with
 | .ok (.ret u)=>CE outer P w H s Q u s'
 | .ok _=>False
 | .error e=>CX outer H s E e s'
structure B6 (P:Program)(w:World)(K:ae)(mg:Str->Option Value)(base:Heap)(CX:CXT)(k:Nat)(f:Addr)(fd:FuncData)(ps:List Str)(sp:Sp):Prop where
 len:∀ vs H Q E,sp vs H Q E->vs.length=ps.length
 run:∀(A:Around) (outer:List Env) (s:Shared) (H:Hp) (args:Args) (us:List Value) (vs:List V) (Q:VK) (E:XK),Q1 k A->a5i P w K mg base A outer s H->BindsTo s fd args (ps.zip us)->C8 vs us->sp vs H Q E ->
  codeAny (model P w) A (.call (.ref f) args) (CR CX outer P w H s Q E) s
theorem B6.mono {P:Program}{w:World}{K:ae}{mg:Str->Option Value}{base:Heap}{CX:CXT}{j k:Nat}{f:Addr}{fd:FuncData}{ps:List Str}{sp:Sp}(F:B6 P w K mg base CX j f fd ps sp)(h:j<=k) :
  B6 P w K mg base CX k f fd ps sp:=⟨F.len,fun A outer s H args us vs Q E hr=>F.run A outer s H args us vs Q E (hr.mono h)⟩
theorem B6.imp {P:Program}{w:World}{K:ae}{mg:Str->Option Value}{base:Heap}{CX:CXT}{k:Nat}{f:Addr}{fd:FuncData}{ps:List Str}{sp sp':Sp}(F:B6 P w K mg base CX k f fd ps sp)
  (h:∀ vs H Q E,sp' vs H Q E->sp vs H Q E):B6 P w K mg base CX k f fd ps sp' :=
 ⟨fun vs H Q E q=>F.len vs H Q E (h _ _ _ _ q),fun A outer s H args us vs Q E hr he hb hv hs=>F.run A outer s H args us vs Q E hr he hb hv (h _ _ _ _ hs)⟩
theorem a5i.in1 {P:Program}{w:World}{K:ae}{mg:Str->Option Value}{base:Heap}{A:Around}{outer:List Env}{s:Shared}{H:Hp}(e:a5i P w K mg base A outer s H) :
  a5i P w K mg base A.in1 outer s H:=⟨e.frames,e.mod,e.bs,e.bsz,e.funs,e.frf,e.hok,e.bare⟩
section
variable {X:Cx}{pins:List (Addr×Obj)}{σ:St}{H:Hp}{s s':Shared}
theorem Inv.env0 (I:Inv X pins σ H s):a5i X.prog X.w X.K X.mg X.base X.A X.stack s H :=
 ⟨I.ok.frames,I.ok.mod,I.bs,bj I.ok.bsz I.sz,I.stack,I.stkFree,I.hok,I.bare⟩
theorem Inv.after {Q:VK}{u:Value}(I:Inv X pins σ H s)(h:CE X.stack X.prog X.w H s Q u s'):EP X pins σ Q u s':=by
 obtain⟨v,H',os,bare,un,hok,r,q⟩:=h;obtain⟨hh,g,d,t,os'⟩:=s';obtain rfl:os'=s.os:=os;exact⟨v,H',I.call (h':=hh) (g':=g) (d':=d) (t':=t) (ch:=[]) un hok bare (fun b z=>absurd z (by simp)),r,q⟩
end
def a3r (sp:Sp)(dvs:List V)(E:XK)(t:TA):TE:=fun σ H Q=>t σ H fun vs H1=>sp (vs++dvs) H1 Q E
def a1J (K:ae)(fd:FuncData)(ps:List Str)(ds:List Value):Prop :=
 ∀(s:Shared) (us:List Value),K.In s.heap->(us++ds).length=ps.length->BindsTo s fd ⟨us,[]⟩ (ps.zip (us++ds))
theorem a1J.all {K:ae}{fd:FuncData}{ps:List Str}(h:∀ us:List Value,us.length=ps.length->bindArgs fd ⟨us,[]⟩=pure (ps.zip us)):a1J K fd ps []:=fun s us _ hl=>by
 rw[bU] at hl ⊢;exact .of_eq (h us hl)
def a3o (CX:CXT)(X:Cx)(E:XK):Prop:=∀(pins:List (Addr×Obj)) (σ:St) (H:Hp) (s:Shared) (e:Value) (s':Shared),Inv X pins σ H s->CX X.stack H s E e s'->X.xe e s'
section
variable {X:Cx}{CX:CXT}{k:Nat}{f C:Addr}{fd:FuncData}{ps:List Str}{sp:Sp}{dvs:List V}{ds:List Value}{E:XK}{x m:Str}{p pos apos:Pos}{e o:Expr}{es:List Expr}{ta:TE}{t:TA}
theorem a7k {pins:List (Addr×Obj)}{σ:St}{H:Hp}{s:Shared}{Q:VK}{us:List Value}{vs:List V}(F:B6 X.prog X.w X.K X.mg X.base CX k f fd ps sp)(hr:Q1 k X.A)(hb:a1J X.K fd ps ds)(hd:C8 dvs ds)(hx:a3o CX X E)
  (I:Inv X pins σ H s) (r:C8 vs us) (h:sp (vs++dvs) H Q E):wpAny (model X.prog X.w) X.A (call (.ref f) us) (EP X pins σ Q) X.xe s:=by
 have r2:C8 (vs++dvs) (us++ds):=r.append hd;have hl:(us++ds).length=ps.length:=by rw[<- r2.length];exact F.len _ _ _ _ h
 refine wpAny_call (codeAny_mono (F.run X.A X.stack s H ⟨us,[]⟩ (us++ds) (vs++dvs) Q E hr I.env0 (hb s us I.kIn hl) r2 h) fun r s' hq=>?_);cases r with
 | error e=>exact hx pins σ H s e s' I hq
 | ok fl =>
  cases fl with
  | ret u=>exact I.after hq
  | next=>exact dJ hq
  | brk=>exact dJ hq
  | cont=>exact dJ hq
theorem a8Y (F:B6 X.prog X.w X.K X.mg X.base CX k f fd ps sp)(hr:Q1 k X.A)(hg:Gl X x)(hm:X.mg x=some (.ref f))(hk:fE X.K (.ref f)=true)(hb:a1J X.K fd ps ds)(hd:C8 dvs ds)(hx:a3o CX X E)
  (ha:PA X (e::es) t) (hdb:(x == ("__debug__":Str))=false:=by decide) (he:starEach (e::es) X.env=(false,eval e X.env)::starEach es X.env:=by rfl) (hpl:(backTo pos (starEach es X.env)).any (·.1)=false:=by rfl) :
  PE X (.Call (.Name x p) (e::es) [] pos) (a3r sp dvs E t):=by
 intro pins s σ H Q I h;refine cD (a5N I hg hm ?_ hdb);refine PySem.W.callWith_K (h₀:=X.base) I.ok.mod.kin hk (thn (ha pos pins s σ H _ I h) fun us s1 ⟨vs,H1,I1,r,q⟩=>⟨I1.kIn,?_⟩) he hpl;exact a7k F hr hb hd hx I1 r q
theorem a7v (F:B6 X.prog X.w X.K X.mg X.base CX k f fd ps sp)(hr:Q1 k X.A)(hg:Gl X x)(hm:X.mg x=some (.ref f))(hk:fE X.K (.ref f)=true)(hb:a1J X.K fd ps ds)(hd:C8 dvs ds)(hx:a3o CX X E)
  (hdb:(x == ("__debug__":Str))=false:=by decide):PE X (.Call (.Name x p) [] [] pos) (a3r sp dvs E a8J):=by
 intro pins s σ H Q I h;refine cD (a5N I hg hm ?_ hdb);exact PySem.W.callWith_K0 I.kIn hk (a7k (us:=[]) F hr hb hd hx I .nil h)
end
section
variable {X:Cx}{CX:CXT}{k:Nat}{f C:Addr}{fd:FuncData}{ps ks:List Str}{sp:Sp}{E:XK}{x m:Str}{p pos apos kpos:Pos}{e o:Expr}{es:List Expr}{kws:List Keyword}{te ta:TE}{t tk:TA}{nm:Option Str}
variable {g:List Value->List Value->List Value}{gV:List V->List V->List V}
end
structure B9 (N P:List Str)(sc:Scope):Prop where
 kind:sc.kind=.function
 co:sc.isCoroutine=false
 gen:sc.isGenerator=false
 nd:N.Nodup
 pre:N.take P.length=P
 par:∀ x∈P,sc.names.lookup x=some .local\/sc.names.lookup x=some .cell
 nofree:∀ y∈sc.names,y.2≠.free
theorem a2s {kindOf:Str->Option NameKind}{x:Str}:∀ {binds:List (Str×Value)} {m:Str->Option Value},(∀ v,(x,v)∉binds)->bindL kindOf binds m x=m x
 | [],_,_=>rfl
 | (n,v)::r,m,h=>by
  unfold bindL;rw[a2s fun w hw=>h w (aM _ hw)];split
  ·have:x≠n:=by rintro rfl;exact h v aN
   simp[this]
  ·rfl
theorem a2u {kindOf:Str->Option NameKind}{x:Str}:∀ {binds:List (Str×Value)} {m:Str->Option Value},(∀ v,(x,v)∉binds)->bindC kindOf binds m x=m x
 | [],_,_=>rfl
 | (n,v)::r,m,h=>by
  unfold bindC;rw[a2u fun w hw=>h w (aM _ hw)];split
  ·rfl
  ·have:x≠n:=by rintro rfl;exact h v aN
   simp[this]
theorem a2t {kindOf:Str->Option NameKind}{x:Str}{v:Value}:∀ {P:List Str} {vs:List Value} {i:Nat} {m:Str->Option Value},P.Nodup->P[i]?=some x->vs[i]?=some v->kindOf x=some .local ->
  bindL kindOf (P.zip vs) m x=some v
 | [],_,_,_,_,h,_,_=>by simp at h
 | _::_,[],_,_,_,_,h,_=>by simp at h
 | p::P,w::vs,0,m,nd,h1,h2,hk=>by
  simp at h1 h2;subst h1;subst h2;show bindL kindOf ((p,w)::P.zip vs) m p=_;unfold bindL;rw[a2s fun v hv=>(cf.mp nd).1 (iy hv).1,if_pos hk];simp
 | p::P,w::vs,i+1,m,nd,h1,h2,hk=>by
  show bindL kindOf ((p,w)::P.zip vs) m x=_;unfold bindL;exact a2t (i:=i) (cf.mp nd).2 (by simpa using h1) (by simpa using h2) hk
theorem a2v {kindOf:Str->Option NameKind}{x:Str}{v:Value}:∀ {P:List Str} {vs:List Value} {i:Nat} {m:Str->Option Value},P.Nodup->P[i]?=some x->vs[i]?=some v->kindOf x≠some .local ->
  bindC kindOf (P.zip vs) m x=some v
 | [],_,_,_,_,h,_,_=>by simp at h
 | _::_,[],_,_,_,_,h,_=>by simp at h
 | p::P,w::vs,0,m,nd,h1,h2,hk=>by
  simp at h1 h2;subst h1;subst h2;show bindC kindOf ((p,w)::P.zip vs) m p=_;unfold bindC;rw[a2u fun v hv=>(cf.mp nd).1 (iy hv).1,if_neg hk];simp
 | p::P,w::vs,i+1,m,nd,h1,h2,hk=>by
  show bindC kindOf ((p,w)::P.zip vs) m x=_;unfold bindC;exact a2v (i:=i) (cf.mp nd).2 (by simpa using h1) (by simpa using h2) hk
def P7 (N:List Str)(vs:List V):St:=vs.map some++List.replicate (N.length-vs.length) none
def a6M (CX:CXT)(P:Program)(w:World)(K:ae)(mg:Str->Option Value)(base:Heap)(N:List Str)(qual:Str)(scope:Scope)(f:Addr)(cd:Value)(A:Around)(outer:List Env)(s:Shared)(H:Hp)(E:XK):Cx where
 prog:=P
 w:=w
 K:=K
 mg:=mg
 base:=base
 A:=A.deeper (envOfC qual scope s.heap.objs.size f cd)
 N:=N
 s₀:=s
 Hz:=H
 env:=envOfC qual scope s.heap.objs.size f cd
 outer:=outer
 stack:=envOfC qual scope s.heap.objs.size f cd::outer
 ex:=[]
 calm:=true
 fn:=fun _=>true
 pn:=[]
 xe:=fun e s'=>wpAny (model P w) (A.deeper (envOfC qual scope s.heap.objs.size f cd)) (leaving (envOfC qual scope s.heap.objs.size f cd) e) (fun _ s''=>CX outer H s E e s'') (fun e' s''=>CX outer H s E e' s'') s'
theorem a4v {sc:Scope}{n:Nat}{x:Str}(h:sc.names.lookup x=some .cell):∃ c,(cellsFrom n sc.names []).lookup x=some c:=by
 have q:=iS sc.names n [] (.inl h);exact iM.mp q
theorem a6C {CX:CXT}{P:Program}{w:World}{K:ae}{mg:Str->Option Value}{base:Heap}{N ps:List Str}{qual:Str}{scope:Scope}{f:Addr}{cd:Value}{A:Around}{outer:List Env}{s s1:Shared}{H:Hp}{E:XK}{us:List Value}{vs:List V}
  (S:B9 N ps scope) (hd:A.handled=none) (e0:a5i P w K mg base A outer s H) (hl:vs.length=ps.length) (r:C8 vs us)
  (x:InCallC s s.heap.objs.size (bindL (envOfC qual scope s.heap.objs.size f cd).kindOf (ps.zip us) fun _=>none) (cellsFrom (s.heap.objs.size+1) scope.names []) (bindC (envOfC qual scope s.heap.objs.size f cd).kindOf (ps.zip us) fun _=>none) s1) :
  Inv (a6M CX P w K mg base N qual scope f cd A outer s H E) [] (P7 N vs) H s1:=by
 have hpl:ps.length<=N.length:=by have:=congrArg gB S.pre;rw[bA] at this;omega
 obtain⟨h1,tk,rfl,hk⟩:=x.done;have noA:∀ b:Addr,b∉(a6M CX P w K mg base N qual scope f cd A outer s H E).ex:=fun b z=>absurd (show b∈([]:List Addr) from z) (by simp)
 refine⟨⟨e0.mod,S.kind,rfl,rfl,ao _,fun y z c h1 h2=>?_,fun y hy=>?_,fun y c _ h=>?_,fun _=>hd,Around.frames_deeper e0.frames,.inr ⟨rfl,rfl⟩,fun b z=>absurd z (noA b),e0.bs,e0.bsz,fun b _ _=>noA b,fun b z=>absurd z (noA b),e0.funs,e0.frf⟩,
  rfl,e0.bare,Un.kept hk,⟨_,x.toInCall.ns,fun i y v h1 h2 h3=>?_⟩,fun y c h=>⟨_,x.cell y c h⟩,e0.hok.fresh (ao _),fun y c h=>?_,fun p hp=>absurd (show p∈([]:List (Addr×Obj)) from hp) (by simp),e0.hok.kept hk,?_⟩
 ·exact name_of_addr x.apart (eD h1) (eD h2)
 ·have hy:scope.names.lookup y=some .cell\/scope.names.lookup y=some .free:=hy;rcases hy with hy | hy
  ·exact a4v hy
  ·exact absurd rfl (S.nofree _ (eD hy))
 ·exact cH (x.above y c (eD h))
 ·have hi:i<vs.length:=by
   unfold P7 at h2;by_cases hi:i<vs.length
   ·exact hi
   ·rw[cr (by simpa using hi)] at h2;rw[jb] at h2;split at h2<;>cases h2
  have ha:vs[i]?=some v:=by
   unfold P7 at h2;rw[cA (by simpa using hi),aF] at h2;cases e:vs[i]? with
   | none=>rw[e] at h2;cases h2
   | some a=>rw[e] at h2;cases h2;rfl
  obtain⟨u,hu,rv⟩:=r.get ha;have hp:ps[i]?=some y:=by
   rw[<- S.pre,fP (by omega)];exact h1
  have ndP:ps.Nodup:=by rw[<- S.pre];exact S.nd.sublist (gR _ _)
  refine⟨u,rv,?_⟩;rcases S.par y (aI hp) with k | k
  ·exact .inl ⟨k,a2t ndP hp hu k⟩
  ·obtain⟨c,e⟩:=a4v (n:=s.heap.objs.size+1) k;refine .inr ⟨.inl k,c,e,?_⟩;have q:=x.cell y c e;rw[a2v ndP hp hu (by show scope.names.lookup y≠_;rw[k];decide)] at q;exact q
 ·exact e0.hok.fresh (cH (x.above y c (eD h)))
 ·unfold P7;show _=N.length;rw[aE,ab,gj];omega
theorem b2L {CX:CXT}{P:Program}{w:World}{K:ae}{mg:Str->Option Value}{base:Heap}{k:Nat}{f:Addr}{name qual:Str}{params:Arguments}{body:List Stmt}{scope:Scope}{dV kV doc pm cdv ct oc:Value}{an od:Option Addr}
  {osl:Array (Option Value)} {N ps:List Str} {sp:Sp} (lk:K.lookup f=some ⟨oc,od,.func (dZ name qual params body scope dV kV doc pm an cdv ct),osl⟩) (hcd:gi K cdv qual=true) (S:B9 N ps scope)
  (len:∀ vs H Q E,sp vs H Q E->vs.length=ps.length)
  (hbody:∀(A:Around) (outer:List Env) (s:Shared) (H:Hp) (vs:List V) (Q:VK) (E:XK),Q1 k (A.deeper (envOfC qual scope s.heap.objs.size f cdv))->sp vs H Q E ->
   ∃ t,PSs (a6M CX P w K mg base N qual scope f cdv A outer s H E) body t/\t {nx:=fun _ H'=>Q .non H',rt:=Q} (P7 N vs) H) :
  B6 P w K mg base CX (k+1) f (dZ name qual params body scope dV kV doc pm an cdv ct) ps sp:=by
 refine⟨len,fun A outer s H args us vs Q E hr e0 hb r hsp=>?_⟩;have hl:=len _ _ _ _ hsp;have KX:K.In s.heap:=e0.mod.kin.keeps fun b o e=>(e0.bs b o e).1
 have lim:s.heap.NoLimit:=e0.mod.nolimit.keeps fun b o e=>(e0.bs b o e).1
 have hkind:∀ y∈ps.zip us,scope.names.lookup y.1=some .local\/(scope.names.lookup y.1=some .cell/\((cellsFrom (s.heap.objs.size+1) scope.names []).lookup y.1).isSome=true):=fun ⟨n,v⟩ hy=>by
  rcases S.par n (iy hy).1 with q | q
  ·exact .inl q
  ·exact .inr ⟨q,iS _ _ _ (.inl q)⟩
 refine codeAny_call_function hr.depth (KX _ _ lk) rfl S.co S.gen rfl (PySem.W.codeRec_of KX hcd) (hb _ _ _ _ ?_);refine wpAny_newFunctionEnv_cells S.kind hkind fun env he s1 x=>?_
 subst he;refine⟨lim.keeps x.toInCall.keep,codeAny_func ?_⟩;obtain⟨t,ht,hq⟩:=hbody A outer s H vs Q E (hr.deeper _) hsp;have I:Inv (a6M CX P w K mg base N qual scope f cdv A outer s H E) [] (P7 N vs) H s1:=a6C S hr.hd e0 hl r x;refine cp (ht [] s1 (P7 N vs) H _ I hq) (fun fl s' hs=>?_) fun e s' hs=>hs
 have fin:∀ {σ':St} {H':Hp} {v:V} {u:Value},Inv (a6M CX P w K mg base N qual scope f cdv A outer s H E) [] σ' H' s'->F0 v u->Q v H'->CE outer P w H s Q u s' :=
  fun {σ' H' v u} J rv q=>⟨v,H',J.os,J.bare,J.base,J.hok,rv,q⟩
 cases fl with
 | ret u =>
  obtain⟨v,σ',H',J,rv,q⟩:=hs;exact fin J rv q
 | next =>
  obtain⟨σ',H',J,q⟩:=hs;exact fin (v:=V.non) (u:=cw) J rfl q
 | brk =>
  obtain⟨_,_,_,q⟩:=hs;exact dJ q
 | cont =>
  obtain⟨_,_,_,q⟩:=hs;exact dJ q
end L2
namespace L2
open PySem PySem.Spec PyProof.Rows
section
variable {X:Cx}{x:Str}{p pos:Pos}{e:Expr}{es:List Expr}{t:TA}{id T:String}{r:List V->Hp->VK->Prop}
def tCB (r:List V->Hp->VK->Prop)(t:TA):TE:=fun σ H Q=>t σ H fun vs H1=>r vs H1 Q
theorem A5 (hc:L4 X (.builtin id) r)(hg:Gl X x)(hm:X.mg x=none)(hv:bootBuiltins x=some (.builtin id))(ha:PA X (e::es) t)(hn:x≠"__name__":=by decide)(hdb:(x == ("__debug__":Str))=false:=by decide)
  (he:starEach (e::es) X.env=(false,eval e X.env)::starEach es X.env:=by rfl) (hpl:(backTo pos (starEach es X.env)).any (·.1)=false:=by rfl):PE X (.Call (.Name x p) (e::es) [] pos) (tCB r t):=by
 intro pins s σ H Q I h;refine cD (S4 I hg hm hv ?_ hn hdb);exact gk (thn (ha pos pins s σ H _ I h) fun us s1 ⟨vs,H1,I1,r1,q1⟩=>hc pins s1 σ H1 vs us Q I1 r1 q1) he hpl
theorem E1 (hc:L4 X (.type T) r)(hg:Gl X x)(hm:X.mg x=none)(hv:bootBuiltins x=some (.type T))(ha:PA X (e::es) t)(hn:x≠"__name__":=by decide)(hdb:(x == ("__debug__":Str))=false:=by decide)
  (he:starEach (e::es) X.env=(false,eval e X.env)::starEach es X.env:=by rfl) (hpl:(backTo pos (starEach es X.env)).any (·.1)=false:=by rfl):PE X (.Call (.Name x p) (e::es) [] pos) (tCB r t):=by
 intro pins s σ H Q I h;refine cD (S4 I hg hm hv ?_ hn hdb);exact bV (thn (ha pos pins s σ H _ I h) fun us s1 ⟨vs,H1,I1,r1,q1⟩=>hc pins s1 σ H1 vs us Q I1 r1 q1) he hpl
end
end L2
namespace HT
open PySem PyProof.Rows
def lexLt:List Int->List Int->Bool
 | [],[]=>false
 | [],_::_=>true
 | _::_,[]=>false
 | x::xs,y::ys=>if x=y then lexLt xs ys else decide (x<y)
theorem lexLt_cons (x y:Int)(xs ys:List Int):lexLt (x::xs) (y::ys)=if x=y then lexLt xs ys else decide (x<y):=rfl
section
open PySem.SeqAt
open PySem.AutoSeq1 (wpAny_loadPart')
open PySem.MeetsSeq PySem.MeetsSeq2 PySem.MeetsSeq3
end
section
variable {prog:Program}{w:World}{A:Around}{E:Value->Shared->Prop}{s:Shared}
theorem cat_tup {t b:Addr}{vs ws:List Value}{Q:Value->Shared->Prop}(ht:IsTup s.heap t vs.toArray)(hb:IsTup s.heap b ws.toArray)(hv:vs≠[])
  (h1:ws=[]->Q (.ref t) s) (h2:ws≠[]->Q (.ref s.heap.objs.size) {s with heap:=s.heap.push {cls:=.type "tuple",data:=.seq (vs++ws).toArray}})
  (hsz:vs.length+ws.length<=sizeLine):wpAny (model prog w) A (binaryOp .Add (.ref t) (.ref b)) Q E s:=by
 obtain⟨⟨cls,dd,data,sl⟩,ho,hc,n,hd⟩:=id ht;obtain⟨⟨cls2,dd2,data2,sl2⟩,ho2,hc2,n2,hd2⟩:=id hb;simp only at hc hd hc2 hd2;subst hc hd hc2 hd2;have e:vs.toArray++ws.toArray=(vs++ws).toArray:=by simp
 by_cases hw:ws=[]
 ·exact j5 ⟨_,ho,rfl⟩ ⟨_,ho2,rfl⟩ noFill_tuple_add jM fS fN (fJ _ _)
   (tuple_addW1 t b vs.toArray ws.toArray n n2 dd dd2 sl sl2 (by simpa using hv) (by simp[hw])) ⟨ho,ho2,h1 hw⟩
 ·refine j5 ⟨_,ho,rfl⟩ ⟨_,ho2,rfl⟩ noFill_tuple_add jM fS fN (fJ _ _)
   (tuple_addW2 t b vs.toArray ws.toArray n n2 dd dd2 sl sl2 (by simpa using hv) (by simpa using hw) (by rw[aK,aK];exact hsz)) ⟨ho,ho2,?_⟩
  rw[e];exact h2 hw
def sIx (n d:Nat):Option Int->Nat
 | none=>d
 | some v=>if v<0 then (v+(n:Int)).toNat else min v.toNat n
theorem sIx_none (n d:Nat):sIx n d none=d:=rfl
theorem sIx_nat (n d k:Nat):sIx n d (some (k:Int))=min k n:=by
 show (if (k:Int)<0 then ((k:Int)+(n:Int)).toNat else min (k:Int).toNat n)=min k n;rw[if_neg (by omega),b6]
theorem sIx_le (n d:Nat)(hd:d<=n)(o:Option Int):sIx n d o<=n:=by
 cases o with
 | none=>exact hd
 | some v =>
  show (if v<0 then (v+(n:Int)).toNat else min v.toNat n)<=n;by_cases hv:v<0
  ·rw[if_pos hv];omega
  ·rw[if_neg hv];exact Nat.min_le_right _ _
theorem clip_eq (v:Int)(n d:Nat):(if v<0 then max (v+(n:Int)) 0 else min v (n:Int))=((sIx n d (some v):Nat):Int):=by
 show (if v<0 then max (v+(n:Int)) 0 else min v (n:Int))=(((if v<0 then (v+(n:Int)).toNat else min v.toNat n):Nat):Int)
 by_cases hv:v<0
 ·simp only[if_pos hv];omega
 ·simp only[if_neg hv];omega
theorem adjust_gen (lo hi:Option Int)(n:Nat):Builtin.Slice.sliceAdjust lo hi 1 (n:Int)=(((sIx n 0 lo:Nat):Int),((sIx n n hi:Nat):Int)):=by
 have h1:¬ ((1:Int)<0):=by omega
 unfold Builtin.Slice.sliceAdjust;simp only[h1,if_false];refine Prod.ext ?_ ?_
 ·cases lo with
  | none=>rfl
  | some v=>exact clip_eq v n 0
 ·cases hi with
  | none=>rfl
  | some v=>exact clip_eq v n n
theorem places_gen (i j:Nat):Builtin.Slice.slicePlaces (i:Int) (j:Int) 1=j-i:=by
 unfold Builtin.Slice.slicePlaces;have h1:(1:Int)>0:=by omega
 simp only[h1,if_true,Int.ediv_one];split<;>omega
theorem slicePart_ {v:Value}{o:Option Int}{Q:Option Int->Shared->Prop}(p:IsPart v o)(h:Q o s):wpAny (model prog w) A (Builtin.Slice.slicePartIndex v) Q E s:=by
 cases p with
 | none=>exact slicePart_none h
 | int i t=>exact slicePart_int h
theorem sliceApplied_gen {sl:Addr}{vl vu:Value}{lo hi:Option Int}{n:Nat}{Q:Int×Int×Nat->Shared->Prop}(hs:s.heap.IsSliceOf sl vl vu .none)(pl:IsPart vl lo)(pu:IsPart vu hi)
  (h:Q (((sIx n 0 lo:Nat):Int),1,sIx n n hi-sIx n 0 lo) s):wpAny (model prog w) A (Builtin.Slice.sliceApplied (.ref sl) (pure (n:Int))) Q E s:=by
 obtain⟨os,hos,hcs,hds⟩:=id hs;unfold Builtin.Slice.sliceApplied Builtin.Slice.sliceFields;refine aa (aa (cC hos hds (x:=vl) rfl (aa (cC hos hds (x:=vu) rfl (aa (cC hos hds (x:=.none) rfl (ai ?_)))))));refine aa (slicePart_none ?_);show wpAny _ _ (if ((1:Int) == 0)=true then _ else _) _ _ s;rw[if_neg (by decide)];refine aa (slicePart_ pl (aa (slicePart_ pu (aa (ai ?_)))));show wpAny _ _ (match Builtin.Slice.sliceAdjust lo hi 1 (n:Int) with | (lo,hi)=>pure (lo,(1:Int),Builtin.Slice.slicePlaces lo hi 1)) _ _ s;rw[adjust_gen lo hi n];show wpAny _ _ (pure (((sIx n 0 lo:Nat):Int),(1:Int),Builtin.Slice.slicePlaces ((sIx n 0 lo:Nat):Int) ((sIx n n hi:Nat):Int) 1)) _ _ s;rw[places_gen];exact ai h
theorem pick_gen (xs:Array Value)(i k:Nat):((List.range k).filterMap fun (m:Nat)=>xs[((i:Int)+(m:Int)*1).toNat]?).toArray=((xs.toList.drop i).take k).toArray:=by
 have e:(fun (m:Nat)=>xs[((i:Int)+(m:Int)*1).toNat]?)=fun m=>xs[i+m]?:=by
  funext m;have:((i:Int)+(m:Int)*1).toNat=i+m:=by omega
  rw[this]
 rw[e];have:=pick_run xs i k;rw[List.filterMap_map] at this;have e2:((fun x=>xs[x]?) ∘ fun x=>i+x)=fun m=>xs[i+m]?:=rfl
 rw[e2] at this;rw[this]
theorem getItem_tuple_cut {t sl:Addr}{items:Array Value}{vl vu:Value}{lo hi:Option Int}{Q:Value->Shared->Prop}(ht:IsTup s.heap t items)(hs:s.heap.IsSliceOf sl vl vu .none)(pl:IsPart vl lo)(pu:IsPart vu hi)
  (hw:¬ (sIx items.size 0 lo=0/\sIx items.size items.size hi=items.size))
  (h:Q (.ref s.heap.objs.size) {s with heap:=s.heap.push {cls:=.type "tuple",data:=.seq ((items.toList.drop (sIx items.size 0 lo)).take (sIx items.size items.size hi-sIx items.size 0 lo)).toArray}})
  (hsz:items.size<=sizeLine):wpAny (model prog w) A (getItem (.ref t) (.ref sl)) Q E s:=by
 have htake:sizeOk (.seq ((items.toList.drop (sIx items.size 0 lo)).take (sIx items.size items.size hi-sIx items.size 0 lo)).toArray):=by
  show ((items.toList.drop (sIx items.size 0 lo)).take (sIx items.size items.size hi-sIx items.size 0 lo)).toArray.size<=sizeLine;rw[aK,bA,hV,aY];omega
 have hj:sIx items.size items.size hi<=items.size:=sIx_le _ _ (ao _) hi;obtain⟨os,hos,hcs,hds⟩:=id hs;have hTs:s.TypeIs (.ref sl) "slice":=⟨os,hos,hcs⟩
 unfold getItem;try with_reducible refine cu ?_
 first | refine aa (ai ?_) | skip
 refine aa (iE ht.typeIs (by decide) ?_)
 refine aa (bL (name:=Str.ofString "__getitem__") ht.typeIs bJ
  (bO bJ ht.typeIs gY ?_ (ii _ _)))
 show wpAny _ _ (fc (.ref t) >>= _) _ _ s;refine aa (tupleItemsOf_ ht ?_);refine aa (eR hTs ?_);rw[if_pos (by decide)];refine aa (sliceApplied_gen hs pl pu ?_);have hno:¬ ((((sIx items.size 0 lo:Nat):Int) == 0 && (1:Int) == 1 && (sIx items.size items.size hi-sIx items.size 0 lo) == items.size)=true):=by
  intro q;rw[bZ,bZ] at q;have q1:((sIx items.size 0 lo:Nat):Int)=0:=eq_of_beq q.1.1;have q2:sIx items.size items.size hi-sIx items.size 0 lo=items.size:=eq_of_beq q.2;exact hw ⟨by omega,by omega⟩
 show wpAny _ _ (if (((sIx items.size 0 lo:Nat):Int) == 0 && (1:Int) == 1 && (sIx items.size items.size hi-sIx items.size 0 lo) == items.size)=true then _ else _) _ _ s;rw[if_neg hno,pick_gen];first
  | exact aa (m:=Builtin.Tuple.tupleExact _) (bo (ai ⟨_,rfl,ai h⟩) htake)
  | exact aa (m:=Builtin.Tuple.tupleExact _) (bo (aa (ai (ai ⟨_,rfl,ai h⟩))) htake)
  | exact aa (aa (m:=Builtin.Tuple.tupleExact _) (bo (ai (ai ⟨_,rfl,ai h⟩)) htake))
  | exact aa (aa (m:=Builtin.Tuple.tupleExact _) (bo (ai ⟨_,rfl,ai h⟩) htake))
end
end HT
namespace L2
open PySem PySem.Spec PyProof.Rows
abbrev TO:=St->Hp->(Option Int->Hp->Prop)->Prop
def PO (X:Cx)(e:Option Expr)(t:TO):Prop :=
 ∀(pins:List (Addr×Obj)) (s:Shared) (σ:St) (H:Hp) (Q:Option Int->Hp->Prop),Inv X pins σ H s->t σ H Q ->
  wpAny (model X.prog X.w) X.A (evalPart e X.env) (fun u s'=>∃ o H',Inv X pins σ H' s'/\IsPart u o/\Q o H') X.xe s
def a5m:TO:=fun _ H Q=>Q none H
def a9Z (t:TE):TO:=fun σ H Q=>t σ H fun x H1=>∃ i,x=.int i/\Q (some i) H1
theorem S5 {ns:List Int}:∀ {us:List Value},C8 (ns.map V.int) us->IntsAre us ns:=by
 induction ns with
 | nil=>intro us r;rw[cY] at r;cases r;exact .nil
 | cons n ns ih =>
  intro us r;rw[aL] at r;cases r with
  | cons r1 r2 =>
   obtain⟨t,e⟩:=r1;subst e;exact .cons n t (ih r2)
section
variable {X:Cx}{e:Expr}{te:TE}{lo hi:Option Expr}{tl th:TO}{pos p2:Pos}
theorem Q3:PO X none a5m:=by
 intro pins s σ H Q I h;rw[evalPart_none];exact ai ⟨none,H,I,.none,h⟩
theorem Q2 (h:PE X e te):PO X (some e) (a9Z te):=by
 intro pins s σ H Q I hw;rw[evalPart_some];refine thn (h pins s σ H _ I hw) fun u s1 ⟨x,H1,I1,r1,q1⟩=>?_
 obtain⟨i,rfl,q⟩:=q1;obtain⟨t,rfl⟩:=r1;exact⟨some i,H1,I1,.int i t,q⟩
def SlR (X:Cx)(r:V->Option Int->Option Int->Hp->VK->Prop):Prop :=
 ∀(pins:List (Addr×Obj)) (s:Shared) (σ:St) (H:Hp) (x:V) (v vl vu:Value) (lo hi:Option Int) (sl:Addr) (Q:VK),Inv X pins σ H s->F0 x v->s.heap.IsSliceOf sl vl vu .none->IsPart vl lo->IsPart vu hi->r x lo hi H Q ->
  ∃ T id,typeLookup (.type T) "__getitem__"=pure (some (.builtin id))/\s.TypeIs v T/\wpAny (model X.prog X.w) X.A (getItem v (.ref sl)) (EP X pins σ Q) X.xe s
def tSl (r:V->Option Int->Option Int->Hp->VK->Prop)(te:TE)(tl th:TO):TE:=fun σ H Q=>te σ H fun x H1=>tl σ H1 fun l H2=>th σ H2 fun u H3=>r x l u H3 Q
theorem N4 {r:V->Option Int->Option Int->Hp->VK->Prop}(hr:SlR X r)(he:PE X e te)(hl:PO X lo tl)(hu:PO X hi th):PE X (.Subscript e (.Slice lo hi none p2) pos) (tSl r te tl th):=by
 intro pins s σ H Q I h;refine Subscript_ (thn (he pins s σ H _ I h) fun v s1 ⟨x,H1,I1,r1,q1⟩=>?_);refine wpAny_Slice (thn (hl pins s1 σ H1 _ I1 q1) fun vl s2 ⟨l,H2,I2,pl,q2⟩=>thn (hu pins s2 σ H2 _ I2 q2) fun vu s3 ⟨u,H3,I3,pu,q3⟩=>?_);rw[evalPart_none];refine ai ?_;have I4:Inv X pins σ H3 {s3 with heap:=s3.heap.push {cls:=.type "slice",data:=.fields #[vl,vu,.none]}}:=I3.kept (t':=s3.toks) fun b ob q=>ag _ q
 obtain⟨T,id,hT,ht,hg⟩:=hr pins {s3 with heap:=s3.heap.push {cls:=.type "slice",data:=.fields #[vl,vu,.none]}} σ H3 x v vl vu l u s3.heap.objs.size Q I4 r1 (ic ..) pl pu q3;show wpAny (model X.prog X.w) X.A (subscriptTail e (.Slice lo hi none p2) v (.ref s3.heap.objs.size)) (EP X pins σ Q) X.xe {s3 with heap:=s3.heap.push {cls:=.type "slice",data:=.fields #[vl,vu,.none]}};exact tail_any (ops:=[.ref s3.heap.objs.size,v]) ht hT hg (by with_unfolding_all rfl)
def U5 (xs:List V)(lo hi:Option Int):List V:=(xs.drop (HT.sIx xs.length 0 lo)).take (HT.sIx xs.length xs.length hi-HT.sIx xs.length 0 lo)
theorem a0F (xs:List V)(lo hi:Option Int):(U5 xs lo hi).length<=xs.length:=by
 unfold U5;rw[bA,hV];omega
theorem C8.nil_iff {xs:List V}{us:List Value}(r:C8 xs us):us=[]↔xs=[]:=by
 cases r with
 | nil=>simp
 | cons _ _=>simp
end
end L2
namespace L2
open PySem PySem.Spec PyProof.Rows
def ixN (n:Nat)(i:Int):Option Nat:=if 0<=i then (if i<n then some i.toNat else none) else if -(n:Int)<=i then some (i+n).toNat else none
def atI {α:Type}(xs:List α)(i:Int):Option α:=(ixN xs.length i).bind fun j=>xs[j]?
theorem a5Q {n:Nat}{i:Int}{j:Nat}(h:ixN n i=some j):seqIndex? i n=some j/\j<n/\-(n:Int)<=i/\i<n:=by
 unfold ixN at h;by_cases h0:0<=i
 ·rw[if_pos h0] at h;by_cases h1:i<n
  ·rw[if_pos h1] at h;have e:i.toNat=j:=aG h;exact⟨by rw[seqIndex_of h0 h1,e],by omega,by omega,h1⟩
  ·rw[if_neg h1] at h;cases h
 ·rw[if_neg h0] at h;by_cases h1:-(n:Int)<=i
  ·rw[if_pos h1] at h;have e:(i+n).toNat=j:=aG h;exact⟨by rw[seqIndex_neg (by omega) h1,e],by omega,h1,by omega⟩
  ·rw[if_neg h1] at h;cases h
theorem a6d {α:Type}{xs:List α}{i:Int}{v:α}(h:atI xs i=some v):∃ j,seqIndex? i xs.length=some j/\xs[j]?=some v/\j<xs.length/\-(xs.length:Int)<=i/\i<xs.length:=by
 unfold atI at h;cases e:ixN xs.length i with
 | none=>rw[e] at h;cases h
 | some j =>
  rw[e] at h;obtain⟨h1,h2,h3,h4⟩:=a5Q e;exact⟨j,h1,h,h2,h3,h4⟩
theorem N7 {α:Type}{xs:List α}{j:Nat}{v:α}(h:xs[j]?=some v):atI xs (j:Int)=some v:=by
 have hj:j<xs.length:=(aA.mp h).1;have e:ixN xs.length (j:Int)=some j:=by
  unfold ixN;rw[if_pos (by omega),if_pos (by omega)];simp
 unfold atI;rw[e];exact h
theorem a8F {α:Type}(xs:List α)(v:α):atI (xs++[v]) (-1)=some v:=by
 have hl:(xs++[v]).length=xs.length+1:=by simp
 have e:ixN (xs++[v]).length (-1)=some xs.length:=by
  unfold ixN;rw[hl,if_neg (by decide),if_pos (by omega)];congr 1;omega
 unfold atI;rw[e];show (xs++[v])[xs.length]?=some v;simp
def a9R (b:Expr):Prop:=∀ o i,subscripted b false o i=operate [o,i] (getItem o i)
def IxR (X:Cx)(r:R2):Prop :=
 ∀(value slice:Expr) (pins:List (Addr×Obj)) (s:Shared) (σ:St) (H:Hp) (x y:V) (v u:Value) (Q:VK),Inv X pins σ H s->F0 x v->F0 y u->r x y H Q ->
  subscripted slice false v u=operate [v,u] (getItem v u)->wpAny (model X.prog X.w) X.A (subscriptTail value slice v u) (EP X pins σ Q) X.xe s
def MtR (X:Cx)(id:String)(r:V->List V->Hp->VK->Prop):Prop :=
 ∀(pins:List (Addr×Obj)) (s:Shared) (σ:St) (H:Hp) (x:V) (xs:List V) (v:Value) (us:List Value) (Q:VK),Inv X pins σ H s->F0 x v->C8 xs us->r x xs H Q ->
  wpAny (model X.prog X.w) X.A (call (.builtin id) (v::us)) (EP X pins σ Q) X.xe s
section
variable {X:Cx}{a b:Expr}{ta tb:TE}{pos:Pos}
theorem b0l {r:R2}(hr:IxR X r)(ha:PE X a ta)(hb:PE X b tb)(hs:a9R b):PE X (.Subscript a b pos) (tOp r ta tb):=by
 intro pins s σ H Q I h;exact Subscript_ (b1O ha hb I h fun v u s2 x y H2 I2 rx ry q=>hr a b pins s2 σ H2 x y v u Q I2 rx ry q (hs _ _))
def a8S (K:ae):R2:=fun x y H Q=>∃ p xs i v,x=.ref p/\y=.int i/\SqL K H p xs/\atI xs i=some v/\Q v H
def a8R (K:ae):R2:=fun x y H Q=>∃ p xs i v,x=.ref p/\y=.int i/\SqT K H p xs/\atI xs i=some v/\Q v H
theorem a9z:IxR X (a8S X.K):=by
 intro value slice pins s σ H x y v u Q I rx ry h hs;obtain⟨p,xs,i,z,rfl,rfl,hq,he,q⟩:=h;cases rx;obtain⟨t,rfl⟩:=ry;obtain⟨its,r,pl,hz⟩:=I.list hq;obtain⟨j,h1,h2,h3,h4,h5⟩:=a6d he;obtain⟨w,ew,rw'⟩:=r.get h2;have hl:=r.length;have hn:=a2V;have fin:EP X pins σ Q w s:=⟨z,H,I,rw',q⟩
 by_cases h0:0<=i
 ·have hj:i.toNat=j:=by
   rw[seqIndex_of h0 h5] at h1;exact aG h1
  exact item_listR pl.isList h0 (by omega) (by rw[hj];simpa using ew) fin hs
 ·have hj:(i+(its.toArray.size:Int)).toNat=j:=by
   rw[seqIndex_neg (by omega) h4] at h1;rw[aK,<- hl];exact aG h1
  exact subscriptTail_builtinR (x:=w) pl.isList.typeIs kl.lookup
   (wpAny_getItem_list_neg (Q:=fun r s'=>r=w/\EP X pins σ Q r s') pl.isList (by omega) (by rw[aK]<;>omega) (by omega) (by rw[hj];simpa using ew) ⟨rfl,fin⟩) hs
theorem b1p:IxR X (a8R X.K):=by
 intro value slice pins s σ H x y v u Q I rx ry h hs;obtain⟨p,xs,i,z,rfl,rfl,hq,he,q⟩:=h;cases rx;obtain⟨t,rfl⟩:=ry;obtain⟨its,r,pl,hz⟩:=I.tuple hq;obtain⟨j,h1,h2,h3,h4,h5⟩:=a6d he;obtain⟨w,ew,rw'⟩:=r.get h2;have hl:=r.length;have hn:=a2V;have fin:EP X pins σ Q w s:=⟨z,H,I,rw',q⟩
 exact subscriptTail_builtinR (x:=w) pl.typeIs slot_tuple_getitem.lookup
  (getItem_tuple (j:=j) (Q:=fun r s'=>r=w/\EP X pins σ Q r s') pl (by omega) (by omega) (by rw[aK,<- hl];exact h1) (by simpa using ew) ⟨rfl,fin⟩) hs
theorem a4U (its:List Value)(n j:Nat)(u:Value):Obj.mapSeq (·.setIfInBounds j u) {cls:=.type "list",data:=.seq its.toArray n}={cls:=.type "list",data:=.seq (its.set j u).toArray n}:=by
 simp[Obj.mapSeq]
theorem Inv.lst {pins:List (Addr×Obj)}{σ:St}{H:Hp}{s:Shared}{p:Addr}{xs:List V}(I:Inv X pins σ H s)(h:H p=some (.lst xs)) :
  ∃(its:List Value) (n:Nat),C8 xs its/\s.heap.get? p=some {cls:=.type "list",data:=.seq its.toArray n}/\xs.length<=sizeLine:=by
 obtain⟨z,its,n,r,e⟩:=I.hok p _ h;exact⟨its,n,r,e,z⟩
theorem Inv.lstUpd {pins:List (Addr×Obj)}{σ:St}{H:Hp}{s:Shared}{p:Addr}{xs ys:List V}{its its':List Value}{n n':Nat}{f:Obj->Obj}(I:Inv X pins σ H s)(h:H p=some (.lst xs))
  (ho:s.heap.get? p=some {cls:=.type "list",data:=.seq its.toArray n}) (hf:f {cls:=.type "list",data:=.seq its.toArray n}={cls:=.type "list",data:=.seq its'.toArray n'}) (r:C8 ys its') (hz:ys.length<=sizeLine) (t:Nat) :
  Inv X pins σ (upd H p (.lst ys)) {s with heap:=s.heap.update p f,toks:=t}:=by
 have e:(s.heap.update p f).get? p=some {cls:=.type "list",data:=.seq its'.toArray n'}:=by
  rw[cQ f ho (by rw[hf]<;>rfl),hf]
 refine I.write (x:=p) (e:=p) (by rw[h];trivial) (.inl rfl) (fun b u hb q=>(fZ _ _ (fG hb)).trans q) ⟨_,e⟩ ?_;exact⟨hz,its',n',r,e⟩
def b0i:V->V->V->Hp->(Hp->Prop)->Prop:=fun o i v H Q=>∃ p xs k j,o=.ref p/\i=.int k/\H p=some (.lst xs)/\ixN xs.length k=some j/\Q (upd H p (.lst (xs.set j v)))
theorem a7i:b2R X b0i:=by
 intro pins s σ H o i v ov iv u Q I ro ri rv h;obtain⟨p,xs,k,j,rfl,rfl,hp,hj,q⟩:=h;cases ro;obtain⟨t,rfl⟩:=ri;obtain⟨its,n,r,ho,hz⟩:=I.lst hp;obtain⟨h1,h2,h3,h4⟩:=a5Q hj;have hl:=r.length;have hn:=a2V;have I':Inv X pins σ (upd H p (.lst (xs.set j v))) {s with heap:=s.heap.update p (Obj.mapSeq (·.setIfInBounds j u))} :=
  I.lstUpd hp ho (a4U its n j u) (r.set rv j) (by rw[eO];exact hz) s.toks
 by_cases h0:0<=k
 ·have hk:k.toNat=j:=by
   rw[seqIndex_of h0 h4] at h1;exact aG h1
  exact PySem.W.ki_setAt ho h0 (by omega) (by rw[aK,<- hl];exact h4) (by rw[hk];exact⟨_,I',q⟩)
 ·have hk:(k+(its.toArray.size:Int)).toNat=j:=by
   rw[seqIndex_neg (by omega) h3] at h1;rw[aK,<- hl];exact aG h1
  exact PySem.W.ki_setBack ho (by omega) (by rw[aK,<- hl];exact h3) (by omega) (by rw[hk];exact⟨_,I',q⟩)
theorem a2A (lo hi:Option Int)(n:Nat):(sliceBounds lo hi none n).1=((HT.sIx n 0 lo:Nat):Int)/\(sliceBounds lo hi none n).2.1=((HT.sIx n n hi:Nat):Int)/\(sliceBounds lo hi none n).2.2=1:=by
 refine⟨?_,?_,rfl⟩
 ·cases lo with
  | none=>simp[sliceBounds,HT.sIx]
  | some i =>
   simp only[sliceBounds,HT.sIx,Option.getD_none,show (1:Int)>0 by decide,if_true];by_cases h:i<0
   ·simp only[h,if_true]<;>omega
   ·simp only[h,if_false]<;>omega
 ·cases hi with
  | none=>simp[sliceBounds,HT.sIx]
  | some i =>
   simp only[sliceBounds,HT.sIx,Option.getD_none,show (1:Int)>0 by decide,if_true];by_cases h:i<0
   ·simp only[h,if_true]<;>omega
   ·simp only[h,if_false]<;>omega
theorem a1K (its:List Value)(lo hi:Option Int):slicePick its.toArray lo hi none=((its.drop (HT.sIx its.length 0 lo)).take (HT.sIx its.length its.length hi-HT.sIx its.length 0 lo)).toArray:=by
 obtain⟨h1,h2,h3⟩:=a2A lo hi its.toArray.size;unfold slicePick;rw[h1,h2,h3];simp only[sliceRange_one,pick_run,aK]<;>rfl
def b0R (K:ae):V->Option Int->Option Int->Hp->VK->Prop:=fun x lo hi H Q=>∃ a xs,x=.ref a/\SqL K H a xs/\∀ p,H p=none->Q (.ref p) (upd H p (.lst (U5 xs lo hi)))
theorem a8O:SlR X (b0R X.K):=by
 intro pins s σ H x v vl vu lo hi sl Q I rx hs pl pu h;obtain⟨a,xs,rfl,hx,q⟩:=h;cases rx;obtain⟨its,r,ht,hz⟩:=I.list hx;have hlen:=r.length;refine⟨"list",_,kl.lookup,ht.isList.typeIs,?_⟩;refine wpAny_getItem_list_slice ht.isList hs pl pu .none (by simp) ?_ (by rw[aK]<;>omega);rw[a1K,<- hlen];refine⟨.ref s.heap.objs.size,_,I.laid (t':=s.toks) (o:=.lst (U5 xs lo hi)) (fun b ob q=>ag _ q) (ao _) ?_,rfl,q _ (I.hok.fresh (ao _))⟩;exact⟨bj (a0F xs lo hi) hz,_,0,(r.drop (HT.sIx xs.length 0 lo)).take (HT.sIx xs.length xs.length hi-HT.sIx xs.length 0 lo),aB _ rfl⟩
def a0j:V->Bool
 | .non=>true
 | .bl _=>true
 | .int _=>true
 | .str _=>true
 | _=>false
def eqV:V->V->Bool
 | .non,.non=>true
 | .bl a,.bl b=>a == b
 | .bl a,.int b=>(if a then 1 else 0) == b
 | .int a,.bl b=>a == (if b then 1 else 0)
 | .int a,.int b=>a == b
 | .str a,.str b=>a == b
 | _,_=>false
theorem b1E {A:Around}{s:Shared}{y x:V}{u v:Value}(ry:F0 y u)(rx:F0 x v)(fy:a0j y=true)(fx:a0j x=true):SeqAt.EqAt A s u v (eqV y x):=by
 cases y with
 | non =>
  cases ry;cases x with
  | non=>cases rx;exact SeqAt.EqAt.same _
  | bl b=>cases rx;exact SeqAt.EqAt.none_bool b
  | int b=>obtain⟨t,rfl⟩:=rx;exact SeqAt.EqAt.none_int b t
  | str b=>obtain⟨t,rfl⟩:=rx;exact SeqAt.EqAt.none_str b t
  | _=>exact absurd (show false=true from fx) aO
 | bl a =>
  cases ry;cases x with
  | non=>cases rx;exact SeqAt.EqAt.bool_none a
  | bl b=>cases rx;exact SeqAt.EqAt.bool_bool a b
  | int b=>obtain⟨t,rfl⟩:=rx;exact SeqAt.EqAt.bool_int a b t
  | str b=>obtain⟨t,rfl⟩:=rx;exact SeqAt.EqAt.bool_str a b t
  | _=>exact absurd (show false=true from fx) aO
 | int a =>
  obtain⟨t',rfl⟩:=ry;cases x with
  | non=>cases rx;exact SeqAt.EqAt.int_none a t'
  | bl b=>cases rx;exact SeqAt.EqAt.int_bool a t' b
  | int b=>obtain⟨t,rfl⟩:=rx;exact SeqAt.EqAt.int_int a t' b t
  | str b=>obtain⟨t,rfl⟩:=rx;exact iZ a t' b t
  | _=>exact absurd (show false=true from fx) aO
 | str a =>
  obtain⟨t',rfl⟩:=ry;cases x with
  | non=>cases rx;exact SeqAt.EqAt.str_none a t'
  | bl b=>cases rx;exact SeqAt.EqAt.str_bool a t' b
  | int b=>obtain⟨t,rfl⟩:=rx;exact iY a t' b t
  | str b=>obtain⟨t,rfl⟩:=rx;exact SeqAt.EqAt.str_str a t' b t
  | _=>exact absurd (show false=true from fx) aO
 | _=>exact absurd (show false=true from fy) aO
def eqU (x:V)(u:Value):Bool:=match u with
 | .none=>eqV .non x
 | .bool b=>eqV (.bl b) x
 | .int i _=>eqV (.int i) x
 | .str z _=>eqV (.str z) x
 | _=>false
theorem a8t {x y:V}{u:Value}(r:F0 y u)(f:a0j y=true):eqU x u=eqV y x:=by
 cases y with
 | non=>cases r;rfl
 | bl b=>cases r;rfl
 | int i=>obtain⟨t,rfl⟩:=r;rfl
 | str z=>obtain⟨t,rfl⟩:=r;rfl
 | _=>exact absurd (show false=true from f) aO
theorem a0l {x:V}:∀ {xs:List V} {us:List Value},C8 xs us->xs.all a0j=true->us.any (eqU x)=xs.any fun y=>eqV y x
 | _,_,.nil,_=>rfl
 | y::xs,u::us,.cons r t,f=>by
  rw[gI,bZ] at f;rw[dI,dI,a8t r f.1,a0l t f.2]
theorem X1 {A:Around}{s:Shared}{x:V}{v:Value}(rx:F0 x v)(fx:a0j x=true):∀ {xs:List V} {us:List Value},C8 xs us->xs.all a0j=true->∀ u∈us,SeqAt.EqAt A s u v (eqU x u)
 | _,_,.nil,_=>fun u hu=>by cases hu
 | y::xs,u::us,.cons r t,f=>fun u' hu=>by
  rw[gI,bZ] at f;rcases aD.mp hu with rfl | hu
  ·rw[a8t r f.1];exact b1E r rx f.1 fx
  ·exact X1 rx fx t f.2 u' hu
def inV (x:V)(xs:List V):Bool:=xs.any fun y=>eqV y x
def rIn (K:ae)(neg:Bool):R2:=fun x y H Q=>∃ p xs,y=.ref p/\(SqL K H p xs\/SqT K H p xs)/\a0j x=true/\xs.all a0j=true/\Q (.bl (if neg then !inV x xs else inV x xs)) H
theorem a6m:OpR X (compareOp .In) (rIn X.K false):=by
 intro pins s σ H x y v u Q I rx ry h;obtain⟨p,xs,rfl,hq,fx,fs,q⟩:=h;cases ry;rcases hq with hq | hq
 ·obtain⟨its,r,pl,hz⟩:=I.list hq;refine SeqAt.in_listAt (eqU x) pl.isList (fun w hw=>X1 rx fx r fs w (by simpa using hw)) ⟨.bl _,H,I,rfl,?_⟩;rw[show its.toArray.any (eqU x)=its.any (eqU x) by simp,a0l r fs];exact q
 ·obtain⟨its,r,pl,hz⟩:=I.tuple hq;refine SeqAt.in_tupleAt (eqU x) pl (fun w hw=>X1 rx fx r fs w (by simpa using hw)) ⟨.bl _,H,I,rfl,?_⟩;rw[show its.toArray.any (eqU x)=its.any (eqU x) by simp,a0l r fs];exact q
theorem a2M:OpR X (compareOp .NotIn) (rIn X.K true):=by
 intro pins s σ H x y v u Q I rx ry h;obtain⟨p,xs,rfl,hq,fx,fs,q⟩:=h;cases ry;rcases hq with hq | hq
 ·obtain⟨its,r,pl,hz⟩:=I.list hq;refine SeqAt.notIn_listAt (eqU x) pl.isList (fun w hw=>X1 rx fx r fs w (by simpa using hw)) ⟨.bl _,H,I,rfl,?_⟩;rw[show its.toArray.any (eqU x)=its.any (eqU x) by simp,a0l r fs];exact q
 ·obtain⟨its,r,pl,hz⟩:=I.tuple hq;refine SeqAt.notIn_tupleAt (eqU x) pl (fun w hw=>X1 rx fx r fs w (by simpa using hw)) ⟨.bl _,H,I,rfl,?_⟩;rw[show its.toArray.any (eqU x)=its.any (eqU x) by simp,a0l r fs];exact q
theorem a3j:L4 X (.builtin "len") (fun xs H Q=>∃ p ys,xs=[.ref p]/\(SqL X.K H p ys\/SqT X.K H p ys)/\Q (.int ys.length) H):=by
 intro pins s σ H xs us Q I r h;obtain⟨p,ys,rfl,hq,q⟩:=h;obtain⟨u,rfl,rx⟩:=Q5 r;cases rx;have hn:=a2V;rcases hq with hq | hq
 ·obtain⟨its,r',pl,hz⟩:=I.list hq;have hlen:=r'.length;exact Calls.call_len_list pl.isList (by simp only[aK]<;>omega) ⟨.int ys.length,H,I.tok _,⟨s.toks+1,by rw[aK,hlen]⟩,q⟩
 ·obtain⟨its,r',pl,hz⟩:=I.tuple hq;have hlen:=r'.length;exact len_tuple pl (by simp only[aK]<;>omega) ⟨.int ys.length,H,I.tok _,⟨s.toks+1,by rw[aK,hlen]⟩,q⟩
theorem a3i:L4 X (.type "list") (fun xs H Q=>∃ p ys,xs=[.ref p]/\(SqL X.K H p ys\/SqT X.K H p ys)/\∀ l,H l=none->Q (.ref l) (upd H l (.lst ys))):=by
 intro pins s σ H xs us Q I r h;obtain⟨p,ys,rfl,hq,q⟩:=h;obtain⟨u,rfl,rx⟩:=Q5 r;cases rx;have fin:∀(its:List Value),C8 ys its->ys.length<=sizeLine->∀(h':Heap) (c':Nat),(∀ b o',s.heap.get? b=some o'->h'.get? b=some o') ->
   h'.get? s.heap.objs.size=some {cls:=.type "list",dict:=none,data:=.seq its.toArray c',slots:=#[]}->EP X pins σ Q (.ref s.heap.objs.size) {s with heap:=h'}:=fun its r' hz h' c' kp e =>
  ⟨.ref s.heap.objs.size,_,I.laid (t':=s.toks) kp (ao _) (show K8 X.prog X.w _ h' _ (.lst ys) from ⟨hz,its,c',r',e⟩),rfl,q _ (I.hok.fresh (ao _))⟩
 rcases hq with hq | hq
 ·obtain⟨its,r',pl,hz⟩:=I.list hq;have hlen:=r'.length;obtain⟨o,ho,hc,n,hd⟩:=pl.isList;exact call_list_seq p (.inl rfl) ho hc hd (fun h' c' kp e=>fin its r' hz h' c' kp e) (by simp only[aK]<;>omega)
 ·obtain⟨its,r',pl,hz⟩:=I.tuple hq;have hlen:=r'.length;obtain⟨o,ho,hc,n,hd⟩:=pl;exact call_list_seq p (.inr rfl) ho hc hd (fun h' c' kp e=>fin its r' hz h' c' kp e) (by simp only[aK]<;>omega)
theorem a1N:L4 X (.type "tuple") (fun xs H Q=>∃ p ys,xs=[.ref p]/\((SqL X.K H p ys/\∀ l,H l=none->Q (.ref l) (upd H l (.tup ys)))\/(SqT X.K H p ys/\Q (.ref p) H))):=by
 intro pins s σ H xs us Q I r h;obtain⟨p,ys,rfl,h⟩:=h;obtain⟨u,rfl,rx⟩:=Q5 r;cases rx;rcases h with ⟨hq,q⟩ | ⟨hq,q⟩
 ·obtain⟨its,r',pl,hz⟩:=I.list hq;have hlen:=r'.length;refine call_tuple_list pl.isList (fun h' kp=>?_) (by simp only[aK]<;>omega);have I1:Inv X pins σ H {s with heap:=h'}:=I.kept (t':=s.toks) kp;have I2:Inv X pins σ (upd H h'.objs.size (.tup ys)) {s with heap:=h'.push {cls:=.type "tuple",data:=.seq its.toArray}} :=
   I1.laid (t':=s.toks) (fun b o e=>ag _ e) (ao _) (show K8 X.prog X.w _ _ _ (.tup ys) from ⟨hz,its,r',IsTup.new _ _⟩)
  exact⟨.ref h'.objs.size,_,I2,rfl,q _ (I1.hok.fresh (ao _))⟩
 ·obtain⟨its,r',pl,hz⟩:=I.tuple hq;exact call_tuple_same pl ⟨.ref p,H,I,rfl,q⟩
def tyV (K:ae)(T:String)(x:V)(H:Hp):Prop:=match x with
 | .str _=>T="str"
 | .int _=>T="int"
 | .ref p=>(T="list"/\∃ xs,SqL K H p xs)\/(T="tuple"/\∃ o,K.lookup p=some o/\o.cls=.type "tuple"/\o.dict=none) \/
   (T="dict"/\((∃ kvs,H p=some (.dK kvs))\/∃ kvs,H p=some (.dT kvs)))\/(T="set"/\∃ S n,H p=some (.set S n))
 | _=>False
theorem a6V {pins:List (Addr×Obj)}{σ:St}{H:Hp}{s:Shared}{T:String}{x:V}{v:Value}(I:Inv X pins σ H s)(r:F0 x v)(ty:tyV X.K T x H) :
  s.TypeIs v T/\∀ a,v=.ref a->∃ ob,s.heap.get? a=some ob/\ob.dict=none:=by
 cases x with
 | str z =>
  obtain⟨t,rfl⟩:=r;cases (show T="str" from ty);exact⟨typeIs_str s z t,fun _ e=>nomatch e⟩
 | int i =>
  obtain⟨t,rfl⟩:=r;cases (show T="int" from ty);exact⟨typeIs_int s i t,fun _ e=>nomatch e⟩
 | ref p =>
  cases r;rcases ty with ⟨rfl,xs,hq⟩ | ⟨rfl,o,hk,hc,hd⟩ | ⟨rfl,hk⟩ | ⟨rfl,S,n,hk⟩
  ·obtain⟨its,_,pl,_⟩:=I.list hq;refine⟨pl.isList.typeIs,fun a e=>?_⟩;cases e;obtain⟨o,n,e,c,hd,_⟩:=pl;exact⟨o,e,hd⟩
  ·refine⟨⟨o,I.kIn p o hk,hc⟩,fun a e=>?_⟩;cases e;exact⟨o,I.kIn _ o hk,hd⟩
  ·have z:∃ o,s.heap.get? p=some o/\o.ExactDict:=by
    rcases hk with ⟨kvs,hk⟩ | ⟨kvs,hk⟩
    ·obtain⟨_,_,_,_,o,_,_,e,ex,_⟩:=I.hok p _ hk;exact⟨o,e,ex⟩
    ·obtain⟨_,_,_,_,o,_,_,e,ex,_⟩:=I.hok p _ hk;exact⟨o,e,ex⟩
   obtain⟨o,e,ex⟩:=z;refine⟨⟨o,e,ex.1⟩,fun a e2=>?_⟩;cases e2;exact⟨o,e,ex.2.1⟩
  ·obtain⟨o,_,_,_,e,ex,_⟩:=I.hok p _ hk;refine⟨⟨o,e,ex.1⟩,fun a e2=>?_⟩;cases e2;exact⟨o,e,ex.2.1⟩
 | _=>exact dJ ty
def b0N (K:ae)(T:String)(r:V->List V->Hp->VK->Prop)(to:TE):TE:=fun σ H Q=>to σ H fun x H1=>tyV K T x H1/\r x [] H1 Q
def tBM (K:ae)(T:String)(r:V->List V->Hp->VK->Prop)(to:TE)(t:TA):TE:=fun σ H Q=>to σ H fun x H1=>tyV K T x H1/\t σ H1 fun xs H2=>r x xs H2 Q
variable {o e:Expr}{es:List Expr}{to:TE}{t:TA}{name:Str}{apos cpos:Pos}{T id:String}{r:V->List V->Hp->VK->Prop}
theorem b0X (pa:PlainAttrs T)(slot:Slot T name id)(hty:typeOf (.builtin id)=pure (.type "method_descriptor"))(hm:MtR X id r)(ho:PE X o to)
  (hbase:attributeBase o name X.env (eval o X.env)=eval o X.env:=by rfl) (hline:(apos.endLine == cpos.line)=true:=by rfl):PE X (.Call (.Attribute o name apos) [] [] cpos) (b0N X.K T r to):=by
 intro pins s σ H Q I h;refine wpAny_Call_method0_late hbase hline (thn (ho pins s σ H _ I h) fun v s1 ⟨x,H1,I1,r1,ty,q1⟩=>?_);obtain⟨h1,h2⟩:=a6V I1 r1 ty;exact⟨T,id,pa,slot,hty,h1,h2,i9 rfl (PySem.evalArgs_none (hm pins s1 σ H1 x [] v [] Q I1 r1 .nil q1))⟩
theorem b2A (pa:PlainAttrs T)(slot:Slot T name id)(hty:typeOf (.builtin id)=pure (.type "method_descriptor"))(hm:MtR X id r)(ho:PE X o to)(ha:PA X (e::es) t)
  (hbase:attributeBase o name X.env (eval o X.env)=eval o X.env:=by rfl)
  (hfew:((backTo cpos (starEach (e::es) X.env)).all (fun x=>!x.1) && (backToKw cpos (keywordEach [] X.env)).all (fun x=>x.1.isSome)
   && decide ((e::es).length+([]:List Keyword).length+(if ([]:List Keyword).isEmpty then 0 else 1)<30))=true:=by rfl)
  (hline:(apos.endLine == cpos.line)=true:=by rfl) (hs:starEach (e::es) X.env=(false,eval e X.env)::starEach es X.env:=by rfl) (hplain:(backTo cpos (starEach es X.env)).any (·.1)=false:=by rfl) :
  PE X (.Call (.Attribute o name apos) (e::es) [] cpos) (tBM X.K T r to t):=by
 intro pins s σ H Q I h;refine wpAny_Call_method_late hbase hfew hline rfl (thn (ho pins s σ H _ I h) fun v s1 ⟨x,H1,I1,r1,ty,q1⟩=>?_);obtain⟨h1,h2⟩:=a6V I1 r1 ty;refine⟨T,id,pa,slot,hty,h1,h2,?_⟩;have hA:=ha cpos pins s1 σ H1 _ I1 q1;rw[hs] at hA ⊢;refine i9 (by show (false || (backTo cpos (starEach es X.env)).any (·.1))=false;rw[hplain]<;>rfl) (Calls.evalArgs_plain ?_);exact thn hA fun us s2 ⟨vs,H2,I2,r2,q2⟩=>hm pins s2 σ H2 x vs v us Q I2 r1 r2 q2
/- xs.append(e),list.index on a module's tuple .. are MtR facts of 06m -/
end
end L2
namespace L2
open PySem PySem.Spec PyProof.Rows
def MtM (X:Cx)(id:String)(r:V->List V->Hp->VK->Prop):Prop :=
 ∀(pins:List (Addr×Obj)) (s:Shared) (σ:St) (H:Hp) (x:V) (xs:List V) (v:Value) (us:List Value) (Q:VK),Inv X pins σ H s->F0 x v->C8 xs us->r x xs H Q ->
  wpAny (model X.prog X.w) X.A (call (.builtin id) (v::us)) (EP X pins σ Q) X.xe s
theorem C8.one:∀ {x:V} {us:List Value},C8 [x] us->∃ u,us=[u]/\F0 x u
 | _,_,.cons r .nil=>⟨_,rfl,r⟩
theorem C8.zero:∀ {us:List Value},C8 [] us->us=[]
 | _,.nil=>rfl
theorem C8.dropLast {xs:List V}{us:List Value}(h:C8 xs us):C8 xs.dropLast us.dropLast:=by
 induction h with
 | nil=>exact .nil
 | cons r t ih =>
  cases t with
  | nil=>exact .nil
  | cons q t'=>exact .cons r ih
theorem C8.eraseIdx:∀ {xs:List V} {us:List Value} (i:Nat),C8 xs us->C8 (xs.eraseIdx i) (us.eraseIdx i)
 | _,_,_,.nil=>.nil
 | _,_,0,.cons _ t=>t
 | _,_,i+1,.cons r t=>.cons r (C8.eraseIdx i t)
theorem C8.reverse {xs:List V}{us:List Value}(h:C8 xs us):C8 xs.reverse us.reverse:=by
 induction h with
 | nil=>exact .nil
 | cons r t ih=>rw[eY,eY];exact C8.append ih (.cons r .nil)
theorem C8.rep {xs:List V}{us:List Value}(h:C8 xs us):∀ k:Nat,C8 (List.replicate k xs).flatten (List.replicate k us).flatten
 | 0=>.nil
 | k+1=>by
  rw[eG,eG,fQ,fQ];exact C8.append h (C8.rep h k)
theorem a4Y {α:Type}(l:List α):l.eraseIdx (l.length-1)=l.dropLast:=by
 induction l with
 | nil=>rfl
 | cons a r ih =>
  cases r with
  | nil=>rfl
  | cons b r =>
   have e:(a::b::r).length-1=((b::r).length-1)+1:=by
    have h1:(a::b::r).length=r.length+2:=rfl;have h2:(b::r).length=r.length+1:=rfl;omega
   rw[e,List.eraseIdx_cons_succ,ih];all_goals rfl
theorem a2o (its:List Value):∀(k:Nat) (acc:List Value),
  jY (fun x1 x2=>x1++x2) acc.toArray (List.replicate k its.toArray)=(acc++(List.replicate k its).flatten).toArray
 | 0,acc=>by simp
 | k+1,acc=>by
  have e:acc.toArray++its.toArray=(acc++its).toArray:=by simp
  have e2:(acc++its)++(List.replicate k its).flatten=acc++(List.replicate (k+1) its).flatten:=by
   rw[eG,fQ,bB]
  rw[<- e2,<- a2o its k (acc++its),<- e,eG,iB]
section
variable {X:Cx}{pins:List (Addr×Obj)}{σ:St}{H:Hp}{s:Shared}{l b:Addr}{xs ys zs:List V}
theorem Inv.lset {its its':List Value}{n:Nat}{f:Array Value->Array Value}{t':Nat}(I:Inv X pins σ H s)(hH:H l=some (.lst xs))
  (e:s.heap.get? l=some {cls:=.type "list",data:=.seq its.toArray n}) (hf:f its.toArray=its'.toArray) (hv:C8 ys its') (hz:ys.length<=sizeLine) :
  Inv X pins σ (upd H l (.lst ys)) {s with heap:=s.heap.update l (Obj.mapSeq f),toks:=t'}:=by
 have q:=PySem.IsL.update e f;rw[hf] at q;refine I.write (x:=l) (e:=l) (by rw[hH];exact trivial) (.inl rfl) (fun b' u hb hu=>(fZ s.heap (Obj.mapSeq f) (fG hb)).trans hu) ⟨_,q⟩ ?_;exact⟨hz,its',_,hv,q⟩
theorem Inv.lnew {its:List Value}{t':Nat}(I:Inv X pins σ H s)(hv:C8 ys its)(hz:ys.length<=sizeLine) :
  Inv X pins σ (upd H s.heap.objs.size (.lst ys)) {s with heap:=s.heap.push {cls:=.type "list",data:=.seq its.toArray},toks:=t'} :=
 I.laid (fun _ _ q=>ag _ q) (ao _) ⟨hz,its,0,hv,aB _ rfl⟩
theorem Inv.fresh (I:Inv X pins σ H s):H s.heap.objs.size=none:=I.hok.fresh (ao _)
theorem Inv.lstM (I:Inv X pins σ H s)(hH:H l=some (.lst xs)):xs.length<=sizeLine/\∃(its:List Value) (n:Nat),C8 xs its/\xs.length=its.length/\s.heap.get? l=some {cls:=.type "list",data:=.seq its.toArray n}:=by
 obtain⟨z,its,n,r,e⟩:=I.hok l _ hH;exact⟨z,its,n,r,r.length,e⟩
theorem a4d {n:Nat}(h:n<=sizeLine):Builtin.List.listTooLong n=false:=by
 unfold Builtin.List.listTooLong;exact decide_eq_false (by omega)
end
section
variable {X:Cx}
def a2D:V->List V->Hp->VK->Prop:=fun x vs H Q=>∃ l xs y,x=.ref l/\vs=[y]/\H l=some (.lst xs)/\xs.length<sizeLine/\Q .non (upd H l (.lst (xs++[y])))
theorem a2f:MtM X "list.append" a2D:=by
 intro pins s σ H x vs v us Q I rx rv h;obtain⟨l,xs,y,rfl,rfl,hH,hz,q⟩:=h;cases rx;obtain⟨u,rfl,ru⟩:=rv.one;obtain⟨z,its,n,r,hl,e⟩:=I.lstM hH;refine iH F.slot_list_append ⟨_,e,rfl⟩ F.entry_list_append (F.args_list_append_2 _ _) (PySem.list_append l its.toArray n u (by rw[aK];omega)) ⟨e,?_⟩;refine⟨.non,_,I.lset (its':=its++[u]) hH e (by simp) (r.append (.cons ru .nil)) ?_,rfl,q⟩;rw[aE,bK];omega
def a8T:V->List V->Hp->VK->Prop:=fun x vs H Q=>∃ l b xs zs,x=.ref l/\vs=[.ref b]/\H l=some (.lst xs)/\H b=some (.lst zs)/\xs.length+zs.length<=sizeLine/\Q .non (upd H l (.lst (xs++zs)))
theorem b1V:MtM X "list.extend" a8T:=by
 intro pins s σ H x vs v us Q I rx rv h;obtain⟨l,b,xs,zs,rfl,rfl,hH,hB,hz,q⟩:=h;cases rx;obtain⟨u,rfl,ru⟩:=rv.one;cases ru;obtain⟨z,its,n,r,hl,e⟩:=I.lstM hH;obtain⟨z2,its2,n2,r2,hl2,e2⟩:=I.lstM hB;have hsz:its.toArray.size+its2.toArray.size<=sizeLine:=by rw[aK,aK];omega
 have hlong:¬ (!its.toArray.isEmpty && Builtin.List.listTooLong (its.toArray.size+its2.toArray.size))=true:=by
  rw[a4d hsz,Bool.and_false];exact aO
 refine iH F.slot_list_extend ⟨_,e,rfl⟩ F.entry_list_extend (F.args_list_extend_2 _ _)
  (AutoSeq1.list_extend_list_list_0 l its.toArray n b its2.toArray n2 hlong (by rw[aK];omega) (by omega)) ⟨e,e2,?_⟩
 refine⟨.non,_,I.lset (its':=its++its2) hH e (by simp) (r.append r2) ?_,rfl,q⟩;rw[aE];omega
def b0S:V->List V->Hp->VK->Prop:=fun x vs H Q=>∃ l xs y,x=.ref l/\vs=[]/\H l=some (.lst xs)/\xs[xs.length-1]?=some y/\Q y (upd H l (.lst xs.dropLast))
theorem b1i:MtM X "list.pop" b0S:=by
 intro pins s σ H x vs v us Q I rx rv h;obtain⟨l,xs,y,rfl,rfl,hH,hy,q⟩:=h;cases rx;have hus:=rv.zero;subst hus;obtain⟨z,its,n,r,hl,e⟩:=I.lstM hH;obtain⟨u,hu,ru⟩:=r.get hy;have hy':its.toArray[its.toArray.size-1]?=some u:=by
  show its.toArray[its.length-1]?=some u;rw[<- bC,<- hl];exact hu
 refine iH F.slot_list_pop ⟨_,e,rfl⟩ F.entry_list_pop (F.args_list_pop_1 _) (MeetsSeq.list_pop_last l its.toArray n u hy' (by rw[aK];omega)) ⟨e,?_⟩;refine⟨y,_,I.lset (its':=its.dropLast) hH e ?_ r.dropLast ?_,ru,q⟩
 ·show its.toArray.eraseIdxIfInBounds (its.toArray.size-1)=its.dropLast.toArray;rw[aK,List.eraseIdxIfInBounds_toArray,a4Y]
 ·rw[jD];omega
def b3s:R2:=fun x y H Q=>∃ l b xs zs,x=.ref l/\y=.ref b/\H l=some (.lst xs)/\H b=some (.lst zs)/\xs.length+zs.length<=sizeLine/\∀ p,H p=none->Q (.ref p) (upd H p (.lst (xs++zs)))
theorem a0r:OpR X (binaryOp .Add) b3s:=by
 intro pins s σ H x y v u Q I rx ry h;obtain⟨l,b,xs,zs,rfl,rfl,hH,hB,hz,q⟩:=h;cases rx;cases ry;obtain⟨z,its,n,r,hl,e⟩:=I.lstM hH;obtain⟨z2,its2,n2,r2,hl2,e2⟩:=I.lstM hB;refine PySem.P.add_list e e2 ?_ (by rw[aK,aK];omega);have ea:its.toArray++its2.toArray=(its++its2).toArray:=by simp
 rw[ea];exact⟨.ref _,_,I.lnew (t':=s.toks) (r.append r2) (by rw[aE];omega),rfl,q _ I.fresh⟩
def b3o:R2:=fun x y H Q=>∃ l k xs,x=.ref l/\y=.int k/\H l=some (.lst xs)/\-(2 ^ 63)<=k/\k<2 ^ 63/\xs.length*k.toNat<=sizeLine /\
 ∀ p,H p=none->Q (.ref p) (upd H p (.lst (List.replicate k.toNat xs).flatten))
theorem a9v {α:Type}(xs:List α)(k:Nat):(List.replicate k xs).flatten.length=k*xs.length:=by
 induction k with
 | zero=>simp
 | succ k ih=>rw[eG,fQ,aE,ih,g9,jz]
theorem b0Z:OpR X (binaryOp .Mult) b3o:=by
 intro pins s σ H x y v u Q I rx ry h;obtain⟨l,k,xs,rfl,rfl,hH,h1,h2,hz,q⟩:=h;cases rx;obtain⟨t,rfl⟩:=ry;obtain⟨z,its,n,r,hl,e⟩:=I.lstM hH;have hlen:its.toArray.size*k.toNat<=sizeLine:=by rw[aK,<- hl];exact hz
 have hcap:¬ its.toArray.size*k.toNat>(2 ^ 63-1) / 8:=by
  have:(sizeLine:Nat)<=(2 ^ 63-1) / 8:=by decide
  omega
 have hfit:¬ (!Builtin.List.listFitsIndex k)=true:=by
  rw[fitsIndex_both h1 h2];exact aO
 have hlong:¬ Builtin.List.listTooLong (its.toArray.size*k.toNat)=true:=by
  rw[a4d hlen];exact aO
 have hnew:jY (fun x1 x2=>x1++x2) #[] (List.replicate (if its.toArray.isEmpty=true then 0 else k.toNat) its.toArray)=(List.replicate k.toNat its).flatten.toArray:=by
  have f0:∀ m:Nat,jY (fun x1 x2=>x1++x2) #[] (List.replicate m its.toArray)=(List.replicate m its).flatten.toArray:=fun m=>by
   have:=a2o its m [];rw[cR] at this;exact this
  rw[f0];cases its with
  | nil=>simp
  | cons a r'=>rw[if_neg (by simp)]
 refine wpAny_binaryOp_repeat_ref (T:="list") (U:="int") (by decide) ⟨_,e,rfl⟩ (fun s'=>typeIs_int s' k t) noFill_list_mul F.fills_int_mul F.slot_int_rmul repeat_list F.slot_int_index.lookup
  (iH F.slot_int_rmul (typeIs_int s k t) F.entry_int_rmul (F.args_int_rmul_2 _ _) (int___rmul___int_list k t l its.toArray n)
   ⟨e,rfl,⟨_,e,rfl⟩,iH F.slot_list_mul ⟨_,e,rfl⟩ F.entry_list_mul (F.args_list_mul_2 _ _) (AutoListH.list___mul___list_int_3 l its.toArray n k t hfit hcap hlong) ⟨e,?_⟩⟩)
 rw[hnew];exact⟨.ref _,_,I.lnew (t':=s.toks) (r.rep k.toNat) (by rw[a9v,Nat.mul_comm];exact hz),rfl,q _ I.fresh⟩
end
end L2
namespace Att
open PySem PySem.W PySem.Calls PyProof.Rows
theorem ints_of_wellAll {P:Params}{h:Heap}:∀(ns:List Int) (vs:List Value),WellAll P h vs (ns.map WData.int)->IntsAre vs ns:=by
 intro ns;induction ns with
 | nil =>
  intro vs w;rw[cY] at w;cases w;exact .nil
 | cons n ns ih =>
  intro vs w;rw[aL] at w;cases w with
  | cons a b =>
   cases a;exact .cons _ _ (ih _ b)
theorem script_of {l:OpenLaw}{n:Nat}(hn:l.most=some n){P:Params}{h:Heap}{args:List WData}{vals:List Value}
  (hpre:l.row.toRowW.claim.pre args=true) (hwl:WellAll P h vals args) :
  ∃ a vs ns,vals=[bF a]/\args=[WData.list (ns.map WData.int)]/\h.get? a=some {cls:=.type "list",data:=.seq vs.toArray}/\IntsAre vs ns/\ns.length<=n:=by
 have hsh:WShape.hasAll [] args [.list .int]=true:=(pre_splitW hpre).1;have hc:l.pre.holds [] {args:=args}=true:=(pre_splitW hpre).2;obtain⟨d,r,rfl,h1,h2⟩:=hasAllW_cons hsh;obtain rfl:=hasAllW_nil h2;obtain⟨xs,rfl,h3⟩:=hasW_list h1;obtain⟨ns,rfl⟩:=items_int h3;have hlen:ns.length<=n:=by
  unfold OpenLaw.pre at hc;have h4:(WTm.not (.lt (.lit (.int (n:Int))) (.len (.arg 0)))).holds [] {args:=[.list (ns.map .int)]}=true:=by
   have h4:=(holds_andW hc).1;rw[hn] at h4;exact h4
  have h5:=condW_of h4 (w_not (w_lt w_lit (w_len_list (w_arg rfl))));rw[ab] at h5;refine Nat.le_of_not_lt fun q=>?_
  have q':(n:Int)<((ns.length:Nat):Int):=by omega
  first
   | (rw[decide_eq_true q'] at h5;exact absurd h5 (by decide))
   | (simp at h5;omega)
 cases hwl with
 | cons w1 w2 =>
  cases w2;cases w1 with
  | list ho hall=>exact⟨_,_,ns,rfl,rfl,ho,ints_of_wellAll ns _ hall,hlen⟩
theorem post_true (l:OpenLaw)(args:List WData):l.row.toRowW.claim.post args (.bool true) args=true :=
 postW_of (r:=l.row.toRowW) (X:=(true == true))
  (show WShape.has [] (.bool true) .bool=true by first | rfl | decide | simp[WShape.has,WShape.arms,WShape.armsAll])
  (show (WTm.eq .res (.lit (.bool true))).value [] {args:=args,res:=some (.bool true),after:=args}=some (.bool (true == true)) from w_eq_bool (w_res rfl) w_lit) rfl
theorem attach_call {l:OpenLaw}{n:Nat}{q:Program}{loose:List Str}{XP:(Str->Option Value)->Heap->Prop}{YP:World->Heap->Prop}{d:DefRec}
  (hn:l.most=some n) (hdf:d.params.defaults=[])
  (call:∀(w:World) (s₀ sk:Shared) (mg mb:Str->Option Value) (fa:Addr) (o:Obj) (pm cd doc:Value) (a:Addr) (vs:List Value) (ns:List Int),
   Ground q loose [] XP w s₀ mg mb sk.heap->YP w sk.heap ->
   sk.heap.get? fa=some o->o.data=.func (docDef d.name d.params d.body d.scope pm cd doc)->sk.heap.CodeRec cd d.name->mg d.name=some (.ref fa) ->
   sk.heap.get? a=some {cls:=.type "list",data:=.seq vs.toArray}->IntsAre vs ns->ns.length<=n->sk.gens=#[] ->
   codeAny (model l.prog w) callerA (.call (.ref fa) ⟨[.ref a],[]⟩) (fun r s'=>r=.ok (.ret (.bool true))/\OldK sk.heap s'.heap/\s'.os=sk.os/\AllBare s'.gens) sk) :
  WalkO q loose XP YP l.row.toRowW d [] (fun f vs=>jN f vs):=by
 intro w s₀ sk mg mb G Y fa o pm cd doc dV kV ho hd hcd hD hmg hg args vals as hpre hlay hrd hwl hlo;obtain rfl:dV=.none:=Dflts.none hD hdf;obtain rfl:kV=.none:=Dflts.noKw hD;obtain⟨a,vs,ns,rfl,rfl,hobj,hints,hlen⟩:=script_of hn hpre hwl;refine enter_call (codeAny_mono (call w s₀ sk mg mb fa o pm cd doc a vs ns G Y ho (fd_plain hd) hcd hmg hobj hints hlen hg) fun r s' hq=>?_);obtain⟨rfl,h2,h3,h4⟩:=hq;exact⟨.inl ⟨.bool true,.bool true,[],rfl,fun _=>rfl,.bool true,post_true l _,fun _=>⟨iR,fun _ hm=>(nomatch hm)⟩⟩,h2,h3,h4⟩
end Att
namespace L2
open PySem PySem.Spec PyProof.Rows
theorem Y0:∀ {vs:List Value} {ns:List Int},IntsAre vs ns->C8 (ns.map V.int) vs
 | _,_,.nil=>.nil
 | _,_,.cons n t h=>.cons ⟨t,rfl⟩ (Y0 h)
def b1S (H:Hp):Prop:=∀ b,H b=none\/∃ o xs,H b=some (.frz o (.lst xs))
theorem a7Y {P:Program}{w:World}{K:ae}{mg mb:Str->Option Value}{CX:CXT}{k:Nat}{fa a:Addr}{fd:FuncData}{x:Str}{sp:Sp}{sk:Shared}{vs:List Value}{ns:List Int}
  (KX:K.In sk.heap) (hns:sk.heap.Ns mainGlobals mg) (hb:sk.heap.Ns builtinsNs mb) (hbb:∀ x:Str,x≠"__name__"->mb x=bootBuiltins x) (hlim:sk.heap.NoLimit) (hg:sk.gens=#[])
  (ha:sk.heap.get? a=some {cls:=.type "list",data:=.seq vs.toArray}) (hi:IntsAre vs ns) (hl:ns.length<=sizeLine) (hr:Q1 k callerA)
  (F:∀ base:Heap,K.In base->base.Ns mainGlobals mg->B6 P w K mg base CX k fa fd [x] sp) (hbind:∀(s:Shared) (u:Value),BindsTo s fd ⟨[u],[]⟩ [(x,u)])
  (hsp:∀ H:Hp,b1S H->SqL K H a (ns.map V.int)->sp [.ref a] H (fun v _=>v=.bl true) fun _ _ _=>False)
  (hCX:∀ H e s',CX [] H sk (fun _ _ _=>False) e s'->False) :
  codeAny (model P w) callerA (.call (.ref fa) ⟨[.ref a],[]⟩) (fun r s'=>r=.ok (.ret (.bool true))/\OldK sk.heap s'.heap/\s'.os=sk.os/\AllBare s'.gens) sk:=by
 have rv:=Y0 hi;have lenV:=hi.length;have core:∀ H:Hp,b1S H->SqL K H a (ns.map V.int)->HOk P w H sk.heap->(∀ b,H b≠none->b=a)->(H a≠none->K.lookup a=none) ->
   codeAny (model P w) callerA (.call (.ref fa) ⟨[.ref a],[]⟩) (fun r s'=>r=.ok (.ret (.bool true))/\OldK sk.heap s'.heap/\s'.os=sk.os/\AllBare s'.gens) sk:=by
  intro H hO hS hok hA hK;have base_of:∀ {b:Addr} {o:Obj},sk.heap.get? b=some o->H b=none->(a3a sk.heap H).get? b=some o:=fun e n=>a8q e n
  have noA:∀ {b:Addr} {o:Obj} {es:Array DictEntry} {ep:Nat},sk.heap.get? b=some o->o.data=.dict es ep->H b=none:=fun {b o es ep} e d=>by
   cases q:H b with
   | none=>rfl
   | some u =>
    have e':b=a:=hA b (by rw[q];simp);subst e';rw[ha] at e;cases e;have d':Data.seq vs.toArray _=Data.dict es ep:=d;cases d'
  have nsK:∀ {b:Addr} {m:Str->Option Value},sk.heap.Ns b m->(a3a sk.heap H).Ns b m:=fun {b m} ⟨o,es,ep,e,d,r⟩=>⟨o,es,ep,base_of e (noA e d),d,r⟩
  have hKb:K.In (a3a sk.heap H):=fun b o e=>base_of (KX b o e) (by
   cases q:H b with
   | none=>rfl
   | some u =>
    have e':b=a:=hA b (by rw[q];simp);subst e'
    rw[hK (by rw[q];simp)] at e;cases e)
  have hM:Mod K mg (a3a sk.heap H):=⟨hKb,nsK hns,⟨mb,nsK hb,hbb⟩,let ⟨mc,h1,h2⟩:=hlim;⟨mc,nsK h1,h2⟩⟩
  have e0:a5i P w K mg (a3a sk.heap H) callerA [] sk H:=⟨rfl,hM,fun b o e=>a9m e,gn (a6F _ _),trivial,fun b hb=>absurd (show b∈([]:List Addr) from hb) (by simp),hok,.of_eq hg⟩
  refine codeAny_mono ((F _ hKb (nsK hns)).run callerA [] sk H ⟨[.ref a],[]⟩ [.ref a] [.ref a] _ _ hr e0 (hbind sk (.ref a)) (.cons rfl .nil) (hsp H hO hS)) fun r s' h=>?_
  cases r with
  | error e=>exact (hCX H e s' h).elim
  | ok fl =>
   cases fl with
   | next=>exact dJ h
   | brk=>exact dJ h
   | cont=>exact dJ h
   | ret u =>
    obtain⟨v,H',os,bare,un,hok',r',q⟩:=h;have q':v=.bl true:=q;subst q';obtain rfl:u=aT true:=r';refine⟨rfl,OldK.of_keep fun b o e=>?_,os,bare⟩;cases q:H b with
    | none=>exact un.keep b o e q (by intro z;exact absurd (show b∈([]:List Addr) from z) (by simp)) (by simp)
    | some u =>
     rcases hO b with z | ⟨ob,xs,z⟩
     ·rw[q] at z;cases z
     ·have z2:=un.frzs b ob _ z;obtain⟨e1,_⟩:=hok b _ z;obtain⟨e2,_⟩:=hok' b _ z2;rw[e] at e1;cases e1;exact e2
 cases hk:K.lookup a with
 | some o =>
  have e:=KX a o hk;rw[ha] at e;cases e;refine core (fun _=>none) (fun _=>.inl rfl) (.inr ⟨_,vs.toArray,_,hk,rfl,rfl,rfl,by rw[aK,lenV];exact hl,by simpa using rv⟩) (fun b u z=>by have z':(none:Option HO)=some u:=z;cases z') (fun b z=>absurd rfl z) fun z=>absurd rfl z
 | none =>
  refine core (fun b=>if b=a then some (.frz {cls:=.type "list",data:=.seq vs.toArray} (.lst (ns.map V.int))) else none) (fun b=>?_) (.inl (.inr ⟨{cls:=.type "list",data:=.seq vs.toArray},if_pos rfl⟩)) (fun b u z=>?_) (fun b z=>?_) fun _=>hk
  ·by_cases hb:b=a
   ·exact .inr ⟨_,_,if_pos hb⟩
   ·exact .inl (if_neg hb)
  ·by_cases hb:b=a
   ·have z':=(if_pos hb).symm.trans z;cases z';subst hb;exact⟨ha,by rw[ab];exact hl,vs,_,rv,ha⟩
   ·have z':=(if_neg hb).symm.trans z;cases z'
  ·by_cases hb:b=a
   ·exact hb
   ·exact absurd (if_neg hb) z
end L2
namespace L2
open PySem PySem.Spec PyProof.Rows
abbrev KOf {K:ae}{h:Heap}(_:K.In h):ae:=K
theorem a5j {l:gX}{n k:Nat}{q:Program}{loose:List Str}{XP:(Str->Option Value)->Heap->Prop}{YP:World->Heap->Prop}{d:DefRec}{K:Params->ae}{CX:World->CXT}{sp:World->Sp}{x:Str}
  (hn:l.most=some n) (hn2:n<=sizeLine) (hdf:d.params.defaults=[]) (hr:Q1 k callerA)
  (hY:∀(w:World) (h:Heap),YP w h->(K w.params).In h)
  (F:∀(w:World) (mg:Str->Option Value) (fa:Addr) (h:Heap),(K w.params).In h->h.Ns mainGlobals mg->mg d.name=some (.ref fa) ->
   ∃ fd:FuncData,(∀(s:Shared) (u:Value),BindsTo s fd ⟨[u],[]⟩ [(x,u)]) /\
    ∀ base:Heap,(K w.params).In base->base.Ns mainGlobals mg->B6 l.prog w (K w.params) mg base (CX w) k fa fd [x] (sp w))
  (hsp:∀(w:World) (H:Hp) (a:Addr) (ns:List Int),ns.length<=n->b1S H->SqL (K w.params) H a (ns.map V.int)->sp w [.ref a] H (fun v _=>v=.bl true) fun _ _ _=>False)
  (hCX:∀(w:World) (H:Hp) (s:Shared) (e:Value) (s':Shared),CX w [] H s (fun _ _ _=>False) e s'->False) :
  PySem.W.WalkO q loose XP YP l.row.toRowW d [] (fun f vs=>jN f vs):=by
 refine Att.attach_call hn hdf fun w s₀ sk mg mb fa o pm cd doc a vs ns G Y ho hd hcd hmg hobj hints hlen hg=>?_
 have KX:=hY w _ Y;obtain⟨fd,hb,hF⟩:=F w mg fa _ KX G.T.g hmg;exact a7Y KX G.T.g G.T.b G.T.builtins G.T.nolimit hg hobj hints (bj hlen hn2) hr hF hb (fun H hO hS=>hsp w H a ns hlen hO hS) fun H e s'=>hCX w H sk e s'
end L2
/- THE LAST THEOREM (shape;LID,My.* are yours):
   My.Adr: a structure of the addresses that your layer names (classes,functions);My.Txt K t: a structure (Prop) of the equations over K;
   My.txt_mk:{K} {implicit addresses ..} (e1:nsIn K mainGlobals "law"=some (some (.ref f))) (e2:K.lookup f=some ⟨oc,od,.func (fnOf "law" "law" params body scope dV kV doc pm an cdv ct),sl⟩) (e3:codeIn K cdv "law"=true) ..:∃ t,My.Txt K t
set_option maxRecDepth 100000 in
set_option maxHeartbeats 0 in
theorem PySem.Challenge.cw_LID_holds : PySem.Challenge.rw_LID.Holds := by
 w_on;o_law;k_head;(case hw=>w_witness2)
 k_fill
 refine L2.a5j (l:=PySem.Challenge.rw_LID) (n:=63) (k:=40) (x:="script") (CX:=fun w=>..) (sp:=fun _=>My.sp_law) rfl (by decide) rfl ⟨rfl,by decide,by decide⟩ (fun w h Y=>PySem.W.kIn_of Y) ?F ?S ?C
 case F =>
  intro w mg fa h KX G hmg;have T:∃ t,My.Txt (L2.KOf KX) t:=by
   dsimp only[L2.KOf] -- K must stand as «<heap const> w.params» for k_is;refine' My.txt_mk ?e1 ?e2 ?e3 ..
   (case e1=>PySem.W.k_is) -- in the order: a name -> its address -> its object -> its parts
   (case e2=>PySem.W.k_is)
   ..
  obtain⟨t,T⟩:=T;have e0:=hmg.symm.trans (aQ KX G T.law);cases e0 -- fa is the law's own address;exact⟨_,fun s u=>.of_eq rfl,fun base kb nb=>My.law_fn T kb nb⟩ -- if «.of_eq rfl» comes too early: refine' ⟨_,?b,fun base kb nb=>My.law_fn T kb nb⟩;exact fun s u=>.of_eq rfl
 case S=>exact fun w H a ns hl hO hS=>..
 case C=>exact ..
(the tactic k_is has no namespace: write k_is) -/
namespace L2
open PySem PySem.Spec PyProof.Rows
def V3 (s:Stmt):Arguments:=match s with
 | .FunctionDef _ a _ _ _ _ _ _ _ _=>a
 | _=>{posonlyargs:=[],args:=[],vararg:=none,kwonlyargs:=[],kw_defaults:=[],kwarg:=none,defaults:=[]}
def T6 (s:Stmt):List Stmt:=match s with
 | .FunctionDef _ _ b _ _ _ _ _ _ _=>b
 | _=>[]
def A7 (s:Stmt):Scope:=match s with
 | .FunctionDef _ _ _ _ _ _ sc _ _ _=>sc
 | _=>{kind:=.function,names:=[],isGenerator:=false,isCoroutine:=false}
abbrev CX0:CXT:=fun _ _ _ _ _ _=>False
abbrev E0:XK:=fun _ _ _=>False
theorem b0m {X:Cx}:a3o CX0 X E0:=fun _ _ _ _ _ _ _ h=>h.elim
structure Fun (K:ae)(x qual:Str)(st:Stmt)(f:Addr)(fd:FuncData):Prop where
 ex:∃(oc:Value) (od:Option Addr) (kV doc pm:Value) (an:Option Addr) (cdv ct:Value) (osl:Array (Option Value)),
  fd=dZ x qual (V3 st) (T6 st) (A7 st) .none kV doc pm an cdv ct/\K.lookup f=some ⟨oc,od,.func fd,osl⟩/\gi K cdv qual=true
 kp:fE K (.ref f)=true
section
variable {P:Program}{w:World}{K:ae}{mg:Str->Option Value}{base:Heap}
theorem Fun.ok {x qual:Str}{st:Stmt}{f:Addr}{fd:FuncData}{N ps:List Str}{k:Nat}{sp:Sp}(F:Fun K x qual st f fd)(S:B9 N ps (A7 st))(len:∀ vs H Q E,sp vs H Q E->vs.length=ps.length)
  (hbody:∀(cdv:Value) (A:Around) (outer:List Env) (s:Shared) (H:Hp) (vs:List V) (Q:VK) (E:XK),Q1 k (A.deeper (envOfC qual (A7 st) s.heap.objs.size f cdv))->sp vs H Q E ->
   ∃ t,PSs (a6M CX0 P w K mg base N qual (A7 st) f cdv A outer s H E).nox (T6 st) t/\t {nx:=fun _ H'=>Q .non H',rt:=Q} (P7 N vs) H):B6 P w K mg base CX0 (k+1) f fd ps sp:=by
 obtain⟨oc,od,kV,doc,pm,an,cdv,ct,osl,rfl,lk,hcd⟩:=F.ex;refine b2L lk hcd S len fun A outer s H vs Q E hr hsp=>?_
 obtain⟨t,h,q⟩:=hbody cdv A outer s H vs Q E hr hsp;exact⟨t,h.nox,q⟩
theorem Fun.binds {x qual:Str}{st:Stmt}{f:Addr}{fd:FuncData}{ps:List Str}(F:Fun K x qual st f fd)
  (h:∀(kV doc pm:Value) (an:Option Addr) (cdv ct:Value) (us:List Value),us.length=ps.length->bindArgs (dZ x qual (V3 st) (T6 st) (A7 st) .none kV doc pm an cdv ct) ⟨us,[]⟩=pure (ps.zip us)):a1J K fd ps []:=by
 obtain⟨oc,od,kV,doc,pm,an,cdv,ct,osl,rfl,lk,hcd⟩:=F.ex;exact .all (h kV doc pm an cdv ct)
theorem E3 {x qual:Str}{st:Stmt}{f:Addr}{oc:Value}{od an:Option Addr}{osl:Array (Option Value)}{kV doc pm cdv ct:Value}(l:K.lookup f=some ⟨oc,od,.func (dZ x qual (V3 st) (T6 st) (A7 st) .none kV doc pm an cdv ct),osl⟩)
  (c:gi K cdv qual=true) (k:fE K (.ref f)=true):Fun K x qual st f (dZ x qual (V3 st) (T6 st) (A7 st) .none kV doc pm an cdv ct):=⟨⟨oc,od,kV,doc,pm,an,cdv,ct,osl,rfl,l,c⟩,k⟩
end
theorem J1 {A:Around}{k:Nat}(hr:Q1 k A):A.units+1<cLine:=jU (Nat.add_le_add_left (by decide:1<=64) _) hr.units
section
variable {X:Cx}
theorem pv (i:Nat){x:Str}{pos:Pos}(hN:X.N[i]?=some x:=by rfl)(hv:Vis X.env.scope x:=by first | exact Or.inl rfl | exact Or.inr (Or.inl rfl) | exact Or.inr (Or.inr rfl))(hd:(x == ("__debug__":Str))=false:=by decide)
  (hcd:(x == ("__classdict__":Str))=false:=by decide):PE X (.Name x pos) (T8 i):=b0W hN hv hd hcd
end
theorem R7 {c A B:Prop}[Decidable c](h1:c->A)(h2:¬ c->B):if c then A else B:=by
 by_cases h:c
 ·rw[if_pos h];exact h1 h
 ·rw[if_neg h];exact h2 h
def A6 (H H':Hp):Prop:=∀ b o,H b=some o->H' b=some o
theorem A6.refl (H:Hp):A6 H H:=fun _ _ h=>h
theorem A6.trans {H H1 H2:Hp}(a:A6 H H1)(b:A6 H1 H2):A6 H H2:=fun c o h=>b c o (a c o h)
theorem A6.free {H H':Hp}(e:A6 H H'){l:Addr}(h:H' l=jn):H l=jn:=by
 cases q:H l with
 | none=>rfl
 | some o =>
  rw[e l o q] at h;cases h
theorem A6.seq {K:ae}{H H':Hp}{a:Addr}{xs:List V}(e:A6 H H')(h:SqL K H a xs):SqL K H' a xs:=by
 rcases h with (h | ⟨o,h⟩) | h
 ·exact .inl (.inl (e _ _ h))
 ·exact .inl (.inr ⟨o,e _ _ h⟩)
 ·exact .inr h
end L2
namespace L2
open PySem PySem.Spec PyProof.Rows
section
variable {κ:Type}[DecidableEq κ]
def a0o (kvs:List (κ×V))(k:κ):Option V:=(kvs.find? fun kv=>decide (kv.1=k)).map (·.2)
def S9 (kvs:List (κ×V))(k:κ)(v:V):List (κ×V) :=
 if (kvs.any fun kv=>decide (kv.1=k))=true then kvs.map (fun kv=>if kv.1=k then (kv.1,v) else kv) else kvs++[(k,v)]
def b0v (kvs:List (κ×V))(k:κ):List (κ×V):=kvs.filter fun kv=>decide (kv.1≠k)
theorem Z8 {p:κ×V}{r:List (κ×V)}{k:κ}(e:p.1=k):a0o (p::r) k=some p.2:=by simp[a0o,eQ,e]
theorem Z9 {p:κ×V}{r:List (κ×V)}{k:κ}(e:¬ p.1=k):a0o (p::r) k=a0o r k:=by simp[a0o,eQ,e]
theorem a3p (k:κ):∀ kvs:List (κ×V),(kvs.any fun kv=>decide (kv.1=k))=(a0o kvs k).isSome
 | []=>rfl
 | p::r=>by
  rw[dI];by_cases e:p.1=k
  ·simp only[Z8 e,decide_eq_true e,Bool.true_or,Option.isSome_some]
  ·rw[Z9 e,decide_eq_false e,Bool.false_or];exact a3p k r
theorem Q9 (kvs:List (κ×V))(k:κ)(v:V):(S9 kvs k v).length<=kvs.length+1:=by
 unfold S9;split
 ·rw[ab];omega
 ·rw[aE,aH,cK];omega
theorem a3n.isSome_eq {o:Option V}{u:Option Value}(r:a3n o u):o.isSome=u.isSome:=by
 cases o with
 | none=>cases u with
  | none=>rfl
  | some _=>exact (show False from r).elim
 | some _=>cases u with
  | none=>exact (show False from r).elim
  | some _=>rfl
theorem a3n.getD {o:Option V}{u:Option Value}{d:V}{d':Value}(r:a3n o u)(rd:F0 d d'):F0 (o.getD d) (u.getD d'):=by
 cases o with
 | none=>cases u with
  | none=>exact rd
  | some _=>exact (show False from r).elim
 | some _=>cases u with
  | none=>exact (show False from r).elim
  | some _=>exact r
theorem KV.val {kvs:List (κ×V)}{vs:List (κ×Value)}(r:KV kvs vs)(k:κ):a3n (a0o kvs k) (valueAt vs k):=by
 unfold KV at r;induction r with
 | nil=>exact dr
 | @cons p q ps qs h t ih =>
  obtain⟨h1,h2⟩:=h;by_cases e:p.1=k
  ·have e':q.1=k:=h1.symm.trans e;have b:valueAt (q::qs) k=some q.2:=by simp[valueAt,eQ,e']
   rw[Z8 e,b];exact h2
  ·have e':¬ q.1=k:=fun z=>e (h1.trans z)
   have b:valueAt (q::qs) k=valueAt qs k:=by simp[valueAt,eQ,e']
   rw[Z9 e,b];exact ih
theorem KV.any {kvs:List (κ×V)}{vs:List (κ×Value)}(r:KV kvs vs)(k:κ):(kvs.any fun kv=>decide (kv.1=k))=vs.any fun kv=>decide (kv.1=k):=by
 unfold KV at r;induction r with
 | nil=>rfl
 | cons h t ih=>rw[dI,dI,ih,h.1]
theorem KV.repl {kvs:List (κ×V)}{vs:List (κ×Value)}(r:KV kvs vs)(k:κ){y:V}{u:Value}(ry:F0 y u) :
  KV (kvs.map fun kv=>if kv.1=k then (kv.1,y) else kv) (vs.map fun kv=>if kv.1=k then (kv.1,u) else kv):=by
 unfold KV at r ⊢;induction r with
 | nil=>exact .nil
 | @cons p q ps qs h t ih =>
  rw[aL,aL];refine .cons ?_ ih;obtain⟨h1,h2⟩:=h;by_cases e:p.1=k
  ·rw[if_pos e,if_pos (h1.symm.trans e)];exact⟨h1,ry⟩
  ·rw[if_neg e,if_neg (fun z=>e (h1.trans z))];exact⟨h1,h2⟩
theorem KV.put {kvs:List (κ×V)}{vs:List (κ×Value)}(r:KV kvs vs)(k:κ){y:V}{u:Value}(ry:F0 y u):KV (S9 kvs k y) (stored vs k u):=by
 unfold S9 stored;rw[r.any k];by_cases e:(vs.any fun kv=>decide (kv.1=k))=true
 ·rw[if_pos e,if_pos e];exact r.repl k ry
 ·rw[if_neg e,if_neg e];exact Paired.snoc r ⟨rfl,ry⟩
theorem KV.drop {kvs:List (κ×V)}{vs:List (κ×Value)}(r:KV kvs vs)(k:κ):KV (b0v kvs k) (without vs k):=by
 unfold KV at r ⊢;unfold b0v without;induction r with
 | nil=>exact .nil
 | @cons p q ps qs h t ih =>
  obtain⟨h1,h2⟩:=h;rw[List.filter_cons,List.filter_cons];by_cases e:p.1=k
  ·have a:¬ decide (p.1≠k)=true:=by simp[e]
   have b:¬ decide (q.1≠k)=true:=by simp[h1.symm.trans e]
   rw[if_neg a,if_neg b];exact ih
  ·have e':¬ q.1=k:=fun z=>e (h1.trans z)
   have a:decide (p.1≠k)=true:=by simp[e]
   have b:decide (q.1≠k)=true:=by simp[e']
   rw[if_pos a,if_pos b];exact .cons ⟨h1,h2⟩ ih
theorem KV.keys {kvs:List (κ×V)}{vs:List (κ×Value)}(r:KV kvs vs):kvs.map (·.1)=vs.map (·.1):=by
 unfold KV at r;induction r with
 | nil=>rfl
 | cons h t ih=>rw[aL,aL,ih,h.1]
theorem KV.length {kvs:List (κ×V)}{vs:List (κ×Value)}(r:KV kvs vs):kvs.length=vs.length:=fk r
end
theorem a4n {P:Program}{w:World}{k:Key}{u:Value}(r:F0 (kV k) u):(L1 P w).is k u=true:=by
 cases k with
 | inl i=>obtain⟨t,e⟩:=(show ∃ t,u=cG i t from r);subst e;exact a4i P w i t
 | inr x=>obtain⟨t,e⟩:=(show ∃ t,u=ge x t from r);subst e;exact a4h P w x t
theorem a2m {P:Program}{w:World}:∀ {ks:List Key} {us:List Value},C8 (ks.map kV) us->ItemsAre (L1 P w) ks us
 | [],_,r=>by rw[cY] at r;cases r;exact .nil
 | k::ks,_,r=>by
  rw[aL] at r;cases r with
  | cons h t=>exact .cons (a4n h) (a2m t)
abbrev KT (H:Hp):List (List Key×V)->List (List Key×Addr×Value)->Prop:=Paired fun p q=>p.1=q.1/\H q.2.1=some (.tup (p.1.map kV))/\F0 p.2 q.2.2
theorem KT.val {H:Hp}{kvs:List (List Key×V)}{xs:List (List Key×Addr×Value)}(r:KT H kvs xs)(k:List Key):a3n (a0o kvs k) ((atKey xs k).map (·.2)):=by
 induction r with
 | nil=>exact dr
 | @cons p q ps qs h t ih =>
  obtain⟨h1,_,h2⟩:=h;by_cases e:p.1=k
  ·have e':q.1=k:=h1.symm.trans e;have b:atKey (q::qs) k=some q.2:=by simp[atKey,eQ,e']
   rw[Z8 e,b];exact h2
  ·have e':¬ q.1=k:=fun z=>e (h1.trans z)
   have b:atKey (q::qs) k=atKey qs k:=by simp[atKey,eQ,e']
   rw[Z9 e,b];exact ih
theorem KT.repl {H:Hp}{kvs:List (List Key×V)}{xs:List (List Key×Addr×Value)}(r:KT H kvs xs)(k:List Key){y:V}{u:Value}(ry:F0 y u) :
  KT H (kvs.map fun kv=>if kv.1=k then (kv.1,y) else kv) (xs.map (putAt k u)):=by
 induction r with
 | nil=>exact .nil
 | @cons p q ps qs h t ih =>
  rw[aL,aL];refine .cons ?_ ih;obtain⟨h1,h2,h3⟩:=h;unfold putAt;by_cases e:p.1=k
  ·rw[if_pos e,if_pos (h1.symm.trans e)];exact⟨h1,h2,ry⟩
  ·rw[if_neg e,if_neg (fun z=>e (h1.trans z))];exact⟨h1,h2,h3⟩
theorem KT.put {H:Hp}{kvs:List (List Key×V)}{xs:List (List Key×Addr×Value)}(r:KT H kvs xs)(k:List Key){b:Addr}{y:V}{u:Value}(hb:H b=some (.tup (k.map kV)))(ry:F0 y u) :
  KT H (S9 kvs k y) (storedH xs k b u):=by
 have e:(kvs.any fun kv=>decide (kv.1=k))=(atKey xs k).isSome:=by
  rw[a3p,(r.val k).isSome_eq,jI]
 unfold S9 storedH;rw[e];by_cases q:(atKey xs k).isSome=true
 ·rw[if_pos q,if_pos q];exact r.repl k ry
 ·rw[if_neg q,if_neg q];exact Paired.snoc r ⟨rfl,hb,ry⟩
theorem KT.keeps {H H':Hp}{kvs:List (List Key×V)}{xs:List (List Key×Addr×Value)}(r:KT H kvs xs)(ht:∀ b ys,H b=some (.tup ys)->H' b=some (.tup ys)):KT H' kvs xs :=
 Paired.mapP r fun _ _ z=>⟨z.1,ht _ _ z.2.1,z.2.2⟩
section
variable {P:Program}{w:World}{H:Hp}{h:Heap}{a:Addr}
theorem b0h {u:HO}(ok:HOk P w H h)(e:Rd H a u):K8 P w H h a u:=e.ok ok
theorem b0w {kvs:List (Key×V)}(ok:HOk P w H h)(e:Rd H a (.dK kvs)):kvs.length<=sizeLine/\(a == sysModules)=false/\∃ vs,KV kvs vs/\h.DictOf (L1 P w) a vs :=
 show K8 P w H h a (.dK kvs) from b0h ok e
theorem a2q {kvs:List (Key×V)}(ok:HOk P w H h)(e:H a=some (.dK kvs)):kvs.length<=sizeLine/\(a == sysModules)=false/\∃ vs,KV kvs vs/\h.DictOf (L1 P w) a vs:=b0w ok (.inl e)
theorem a2X {ks:List Key}(ok:HOk P w H h)(e:H a=some (.tup (ks.map kV))):(tupleKind (L1 P w)).is h ks a:=by
 obtain⟨_,its,r,o,h1,h2,n,h3⟩:=(show K8 P w H h a (.tup (ks.map kV)) from ok a _ e)
 exact⟨o,its.toArray,n,h1,h2,h3,by simpa using a2m r⟩
theorem b0t {kvs:List (List Key×V)}(ok:HOk P w H h)(e:Rd H a (.dT kvs)):kvs.length<=sizeLine/\(a == sysModules)=false /\
  ∃ xs,KT H kvs xs/\h.DictOfH (tupleKind (L1 P w)) a xs:=by
 obtain⟨z,y,xs,r,o,es,ep,h1,h2,h3,h4,h5⟩:=(show K8 P w H h a (.dT kvs) from b0h ok e)
 refine⟨z,y,xs,r,o,es,ep,h1,h2,h3,h4,fun x hx=>?_,h5⟩;have all:∀ {l:List (List Key×V)} {m:List (List Key×Addr×Value)},KT H l m->∀ x∈m,(tupleKind (L1 P w)).is h x.1 x.2.1:=by
  intro l m q;induction q with
  | nil=>intro x hx;exact nomatch hx
  | @cons p q ps qs hq t ih =>
   intro x hx;rcases aD.mp hx with e | hx
   ·subst e;exact a2X ok (by rw[<- hq.1];exact hq.2.1)
   ·exact ih x hx
 exact all r x hx
theorem b0u {kvs:List (List Key×V)}(ok:HOk P w H h)(e:H a=some (.dT kvs)):kvs.length<=sizeLine/\(a == sysModules)=false /\
  ∃ xs,KT H kvs xs/\h.DictOfH (tupleKind (L1 P w)) a xs:=b0t ok (.inl e)
end
def a1H (H:Hp)(a:Addr)(y:V)(r:Option V):Prop :=
 (∃ kvs k,Rd H a (.dK kvs)/\y=kV k/\r=a0o kvs k)\/∃ kvs k b,Rd H a (.dT kvs)/\y=.ref b/\H b=some (.tup (k.map kV))/\r=a0o kvs k
def Y5 (H:Hp)(a:Addr)(y v:V)(H':Hp):Prop :=
 (∃ kvs k,H a=some (.dK kvs)/\y=kV k/\kvs.length<sizeLine/\H'=upd H a (.dK (S9 kvs k v))) \/
 ∃ kvs k b,H a=some (.dT kvs)/\y=.ref b/\H b=some (.tup (k.map kV))/\kvs.length<sizeLine/\H'=upd H a (.dT (S9 kvs k v))
theorem a1H.k {H:Hp}{a:Addr}{kvs:List (Key×V)}{k:Key}(e:H a=some (.dK kvs)):a1H H a (kV k) (a0o kvs k):=.inl ⟨kvs,k,.inl e,rfl,rfl⟩
theorem a1H.t {H:Hp}{a b:Addr}{kvs:List (List Key×V)}{k:List Key}(e:H a=some (.dT kvs))(eb:H b=some (.tup (k.map kV))):a1H H a (.ref b) (a0o kvs k):=.inr ⟨kvs,k,b,.inl e,rfl,eb,rfl⟩
theorem Y5.k {H:Hp}{a:Addr}{kvs:List (Key×V)}{k:Key}{v:V}(e:H a=some (.dK kvs))(hl:kvs.length<sizeLine):Y5 H a (kV k) v (upd H a (.dK (S9 kvs k v))):=.inl ⟨kvs,k,e,rfl,hl,rfl⟩
theorem Y5.t {H:Hp}{a b:Addr}{kvs:List (List Key×V)}{k:List Key}{v:V}(e:H a=some (.dT kvs))(eb:H b=some (.tup (k.map kV)))(hl:kvs.length<sizeLine) :
  Y5 H a (.ref b) v (upd H a (.dT (S9 kvs k v))):=.inr ⟨kvs,k,b,e,rfl,eb,hl,rfl⟩
section
variable {X:Cx}{pins:List (Addr×Obj)}{σ:St}{H:Hp}{s:Shared}{a:Addr}{y v:V}{u r:Value}{o:Option V}{A:Around}{E:Value->Shared->Prop}
theorem Inv.big (I:Inv X pins σ H s):sysModules<s.heap.objs.size:=by
 have h:mainGlobals<s.heap.objs.size:=(I.mod.glob.keeps I.bk).lt;exact fj (by decide) h
theorem a9N {Q:Value->Shared->Prop}(hu:A.units+1<cLine)(I:Inv X pins σ H s)(g:a1H H a y o)(ry:F0 y u)(h:∀ s',Inv X pins σ H s'->Q (.bool (!o.isSome)) s') :
  wpAny (model X.prog X.w) A (compareOp .NotIn u (.ref a)) Q E s:=by
 rcases g with ⟨kvs,k,e,ey,l⟩ | ⟨kvs,k,b,e,ey,eb,l⟩
 ·subst ey;obtain⟨z,hd,vs,rel,dd⟩:=b0w I.hok e;refine wpAny_notIn_of (a4n ry) hd dd.mapOf ?_;rw[<- (rel.val k).isSome_eq,<- l];exact h _ (I.tok _)
 ·subst ey;cases (show u=bF b from ry);obtain⟨z,hd,xs,rel,dd⟩:=b0t I.hok e;refine wpAny_notIn_heap (tupleKind_room_in1 hu) (a2X I.hok eb) hd dd ?_;have q:=(rel.val k).isSome_eq;rw[jI] at q;rw[<- q,<- l];exact h _ (I.tok _)
theorem a0k {h':Heap}{t':Nat}{ob:HO}(I:Inv X pins σ H s)(mu:Mut (H a))(hs:dF a s.heap h')(he:∃ q,h'.get? a=some q)(new:K8 X.prog X.w (upd H a ob) h' a ob) :
  Inv X pins σ (upd H a ob) {s with heap:=h',toks:=t'} :=
 I.write (x:=a) (e:=a) mu (.inl rfl) (fun b q hb z=>(hs.2 b hb).trans z) he new
theorem a5a {P:Program}{w:World}{H':Hp}{h':Heap}{kvs:List (Key×V)}{vs:List (Key×Value)}(z:kvs.length<=sizeLine)(hd:(a == sysModules)=false)(rel:KV kvs vs)(dd:h'.DictOf (L1 P w) a vs) :
  K8 P w H' h' a (.dK kvs):=⟨z,hd,vs,rel,dd⟩
theorem a6K {H':Hp}{Q:Unit->Shared->Prop}(hu:A.units+1<cLine)(I:Inv X pins σ H s)(g:Y5 H a y v H')(ry:F0 y u)(rv:F0 v r)(h:∀ s',Inv X pins σ H' s'->Q () s') :
  wpAny (model X.prog X.w) A (setItem (.ref a) u r) Q E s:=by
 rcases g with ⟨kvs,k,e,ey,l,eH⟩ | ⟨kvs,k,b,e,ey,eb,l,eH⟩
 ·subst ey eH;obtain⟨z,hd,vs,rel,dd⟩:=a2q I.hok e;have hz:vs.length<=sizeLine:=by rw[<- rel.length];exact z
  have hl:(S9 kvs k v).length<=sizeLine:=by have:=Q9 kvs k v;omega
  refine wpAny_setItem_pairs (hsz:=hz) (a4n ry) dd fun h' dd' hs=>h _ ?_
  have he:∃ q,h'.get? a=some q:=let ⟨q,_,_,hq,_⟩:=dd';⟨q,hq⟩;exact a0k I (by rw[e];exact dr) hs he (a5a hl hd (rel.put k rv) dd')
 ·subst ey eH;cases (show u=bF b from ry);obtain⟨z,hd,xs,rel,dd⟩:=b0u I.hok e;have hz:xs.length<=sizeLine:=by rw[<- fk rel];exact z
  have hl:(S9 kvs k v).length<=sizeLine:=by have:=Q9 kvs k v;omega
  refine wpAny_setItem_heap (hsz:=hz) (tupleKind_room_in1 hu) (a2X I.hok eb) dd fun h' dd' hs=>h _ ?_
  obtain⟨q,es,ep,hq,h2,h3,h4,_,h5⟩:=dd';refine a0k I (by rw[e];exact dr) hs ⟨q,hq⟩ ⟨hl,hd,_,(rel.put k eb rv).keeps fun c ys ec=>?_,q,es,ep,hq,h2,h3,h4,h5⟩;rw[B2 (b0o ec e (fun z=>nomatch z))];exact ec
end
def b3k (ty td:TE):TE:=fun σ H Q=>ty σ H fun y H1=>td σ H1 fun x H2=>∃ a o,x=.ref a/\a1H H2 a y o/\Q (.bl o.isSome) H2
def a5n (ty td:TE):TE:=fun σ H Q=>ty σ H fun y H1=>td σ H1 fun x H2=>∃ a o,x=.ref a/\a1H H2 a y o/\Q (.bl (!o.isSome)) H2
def b0g (td ty tv:TE):TS:=fun D σ H=>tv σ H fun v H1=>td σ H1 fun x H2=>ty σ H2 fun y H3=>∃ a H4,x=.ref a/\Y5 H3 a y v H4/\D.nx σ H4
section
variable {X:Cx}{o i e value:Expr}{pos pos' tpos:Pos}{td ty tv:TE}
theorem a2e (hu:X.A.units+1<cLine)(hi:PE X i ty)(ho:PE X o td):PC X .NotIn i o (a5n ty td):=by
 intro pins s σ H Q I h;refine thn (hi pins s σ H _ I h) fun iv s1 ⟨y,H1,I1,ry,q1⟩=>thn (ho pins s1 σ H1 _ I1 q1) fun u s2 ⟨x,H2,I2,rx,a,ov,ex,g,q2⟩=>?_
 subst ex;obtain rfl:u=bF a:=rx;exact a9N hu I2 g ry fun s3 I3=>⟨.bl (!ov.isSome),H2,I3,rfl,q2⟩
theorem a0f (hu:X.A.units+1<cLine)(ho:PE X o td)(hi:PE X i ty)(hv:PE X value tv)(hs:swapsWith value (some (.Subscript o i pos')) pos.line X.env=pure false) :
  PS X (.Assign [.Subscript o i pos'] value pos) (b0g td ty tv):=by
 intro pins s σ H D I h;refine wpAny_Assign_Subscript (thn (hv pins s σ H _ I h) fun r s1 ⟨v,H1,I1,rv,q1⟩=>thn (ho pins s1 σ H1 _ I1 q1) fun u s2 ⟨x,H2,I2,rx,q2⟩=>thn (hi pins s2 σ H2 _ I2 q2) fun iv s3 ⟨y,H3,I3,ry,a,H4,ex,g,q3⟩=>?_) hs;subst ex;obtain rfl:u=bF a:=rx;exact a6K hu I3 g ry rv fun s4 I4=>⟨σ,H4,I4,q3⟩
end
theorem a1y {P:Program}{w:World}{H:Hp}(h:Heap)(hb:sysModules<h.objs.size):K8 P w H (h.push {cls:=.type "dict",data:=.dict #[]}) h.objs.size (.dK []) :=
 ⟨bf _,beq_eq_false_iff_ne.mpr (fG (aP hb)),[],.nil,Heap.DictOf.new h⟩
theorem a4t {P:Program}{w:World}{H:Hp}(h:Heap)(hb:sysModules<h.objs.size):K8 P w H (h.push {cls:=.type "dict",data:=.dict #[]}) h.objs.size (.dT []) :=
 ⟨bf _,beq_eq_false_iff_ne.mpr (fG (aP hb)),[],.nil,_,#[],0,aB _ rfl,⟨rfl,rfl,rfl⟩,rfl,rfl,iU⟩
def a7c:TE:=fun _ H Q=>∀ p,H p=none->Q (.ref p) (upd H p (.dK []))
def a7b:TE:=fun _ H Q=>∀ p,H p=none->Q (.ref p) (upd H p (.dT []))
section
variable {X:Cx}{pos:Pos}
theorem a3Y:PE X (.Dict [] [] pos) a7c:=fun pins s σ H Q I h =>
 wpAny_Dict_empty ⟨.ref s.heap.objs.size,_,I.laid (a:=s.heap.objs.size) (o:=.dK []) (t':=s.toks) (fun _ _ q=>ag _ q) (ao _) (a1y s.heap I.big),rfl,h _ (I.hok.fresh (ao _))⟩
theorem a7t:PE X (.Dict [] [] pos) a7b:=fun pins s σ H Q I h =>
 wpAny_Dict_empty ⟨.ref s.heap.objs.size,_,I.laid (a:=s.heap.objs.size) (o:=.dT []) (t':=s.toks) (fun _ _ q=>ag _ q) (ao _) (a4t s.heap I.big),rfl,h _ (I.hok.fresh (ao _))⟩
end
def a2y:List (TE×TE)->St->Hp->(List (V×V)->Hp->Prop)->Prop
 | [],_,H,Q=>Q [] H
 | (tk,tv)::r,σ,H,Q=>tk σ H fun x H1=>tv σ H1 fun y H2=>a2y r σ H2 fun ps H3=>Q ((x,y)::ps) H3
abbrev VV:List (V×V)->List (Value×Value)->Prop:=Paired fun p q=>F0 p.1 q.1/\F0 p.2 q.2
def PPs (X:Cx)(pos:Pos)(keys:List (Option Expr))(values:List Expr)(trs:List (TE×TE)):Prop :=
 ∀(pins:List (Addr×Obj)) (s:Shared) (σ:St) (H:Hp) (Q:List (V×V)->Hp->Prop),Inv X pins σ H s->a2y trs σ H Q ->
  wpAny (model X.prog X.w) X.A (evalPairs (pairTrees keys values X.env pos)) (fun vs s'=>∃ ps H',Inv X pins σ H' s'/\VV ps vs/\Q ps H') X.xe s
theorem a2H {X:Cx}{pos:Pos}:PPs X pos [] [] []:=fun pins s σ H Q I h=>pairTrees_nil_walk ⟨[],H,I,.nil,h⟩
theorem a1i {X:Cx}{pos:Pos}{k v:Expr}{ks:List (Option Expr)}{vs:List Expr}{tk tv:TE}{trs:List (TE×TE)}(hk:PE X k tk)(hv:PE X v tv)(hr:PPs X pos ks vs trs) :
  PPs X pos (some k::ks) (v::vs) ((tk,tv)::trs):=fun pins s σ H Q I h =>
 pairTrees_cons_walk (thn (hk pins s σ H _ I h) fun u s1 ⟨x,H1,I1,rx,q1⟩=>thn (hv pins s1 σ H1 _ I1 q1) fun w2 s2 ⟨y,H2,I2,ry,q2⟩ =>
  thn (hr pins s2 σ H2 _ I2 q2) fun ws s3 ⟨ps,H3,I3,rel,q3⟩=>⟨(x,y)::ps,H3,I3,.cons ⟨rx,ry⟩ rel,q3⟩)
def Z4 (kvs more:List (Key×V)):List (Key×V):=more.foldl (fun acc kv=>S9 acc kv.1 kv.2) kvs
theorem KV.merge:∀ {more:List (Key×V)} {rs:List (Key×Value)} {kvs:List (Key×V)} {vs:List (Key×Value)},KV more rs->KV kvs vs->KV (Z4 kvs more) (merged vs rs):=by
 intro more rs kvs vs r;unfold KV at r;induction r generalizing kvs vs with
 | nil=>intro q;exact q
 | @cons p q ps qs h t ih =>
  intro r0;have e:KV (S9 kvs p.1 p.2) (stored vs q.1 q.2):=by
   have:=r0.put p.1 h.2;rw[<- h.1];exact this
  exact ih e
theorem Y9:∀(more kvs:List (Key×V)),(Z4 kvs more).length<=kvs.length+more.length
 | [],kvs=>by show kvs.length<=kvs.length+0;omega
 | p::r,kvs=>by
  have h1:=Y9 r (S9 kvs p.1 p.2);have h2:=Q9 kvs p.1 p.2;show (Z4 (S9 kvs p.1 p.2) r).length<=_;rw[aH];omega
theorem a1B {P:Program}{w:World}:∀ {kvs:List (Key×V)} {ws:List (Value×Value)},VV (kvs.map fun kv=>(kV kv.1,kv.2)) ws->∃ rs,Carries (L1 P w) ws rs/\KV kvs rs
 | [],_,r=>by rw[cY] at r;cases r;exact⟨[],dr,.nil⟩
 | p::kvs,_,r=>by
  rw[aL] at r;cases r with
  | @cons a b as bs h t =>
   obtain⟨rs,c,q⟩:=a1B (P:=P) (w:=w) t;obtain⟨b1,b2⟩:=b;exact⟨(p.1,b2)::rs,⟨a4n h.1,rfl,c⟩,.cons ⟨rfl,h.2⟩ q⟩
def b0d (trs:List (TE×TE)):TE:=fun σ H Q=>∀ p,H p=none->a2y trs σ (upd H p (.dK [])) fun ps H2=>H2 p=some (.dK [])/\∃ kvs:List (Key×V),ps=kvs.map (fun kv=>(kV kv.1,kv.2))/\kvs.length<=15/\Q (.ref p) (upd H2 p (.dK (Z4 [] kvs)))
theorem a2K {X:Cx}{pos:Pos}{keys:List (Option Expr)}{values:List Expr}{trs:List (TE×TE)}(h:PPs X pos keys values trs)(hall:keys.all (·.isSome)=true)(hl:keys.length=values.length)(h0:keys≠[])
  (h15:keys.length<=15):PE X (.Dict keys values pos) (b0d trs):=by
 intro pins s σ H Q I q;have hn:=I.hok.fresh (ao s.heap.objs.size);have I1:=I.laid (a:=s.heap.objs.size) (o:=.dK []) (h':=s.heap.push {cls:=.type "dict",data:=.dict #[]}) (t':=s.toks) (fun _ _ q=>ag _ q) (ao _) (a1y s.heap I.big);refine wpAny_Dict_walk (knd:=L1 X.prog X.w) hall hl h0 h15 (thn (h pins _ σ _ _ I1 (q _ hn)) fun ws s2 ⟨ps,H2,I2,rel,e,kvs,ep,lk,q2⟩=>?_);subst ep;obtain⟨rs,c,rk⟩:=a1B (P:=X.prog) (w:=X.w) rel;obtain⟨z,hd,vs0,r0,dd⟩:=a2q I2.hok e;cases r0;refine⟨rs,c,dd,fun h' dd' hs=>⟨.ref s.heap.objs.size,_,?_,rfl,q2⟩⟩;have hz:(Z4 [] kvs).length<=sizeLine:=by
  have h1:=Y9 kvs [];rw[cK] at h1;rw[sizeLine_eq];omega
 have he:∃ q,h'.get? s.heap.objs.size=some q:=let ⟨q,_,_,hq,_⟩:=dd';⟨q,hq⟩;exact a0k I2 (by rw[e];exact dr) hs he (a5a hz hd (rk.merge .nil) dd')
end L2
end
section
local macro_rules | `(tactic| omega)=>`(tactic| first | lia | omega +splitDisjunctions)
namespace Ts
open PySem PyProof.Rows
set_option autoImplicit false
def galP:Bool->Keyed->Array Keyed->Nat->Nat->Nat->StateT SortSt Sem (Option Nat):=sortPriv% PySem.Builtin.gallop
def mLo:Array Keyed->Array Keyed->StateT SortSt Sem (Array Keyed):=sortPriv% PySem.Builtin.mergeLo
def mHi:Array Keyed->Array Keyed->StateT SortSt Sem (Array Keyed):=sortPriv% PySem.Builtin.mergeHi
def setGal (g:Nat):StateT SortSt Sem Unit:=modify fun s=>ft (kindOf s) (arrOf s) (pendingOf s) g (failedOf s)
theorem galP_eq (lf:Bool)(ky:Keyed)(ar:Array Keyed)(bs nn hn:Nat):galP lf ky ar bs nn hn=(do
 let bey (i:Nat):StateT SortSt Sem (Option Bool):=do
  let xx <- elem' ar (bs+i)
  if lf then lt' xx ky else return (<- lt' ky xx).map (!·)
 let mut la:=0
 let mut of:=1
 let mut l0:=0
 let mut h0:=0
 let some rg <- bey hn | return none
 if rg then
  let mx:=nn-hn
  for _ in [0:nn] do
   if of>=mx then break
   let some mo <- bey (hn+of) | return none
   if !mo then break
   la:=of
   of:=2*of+1
  l0:=hn+la+1
  h0:=hn+min of mx
 else
  let mx:=hn+1
  for _ in [0:nn] do
   if of>=mx then break
   let some fo <- bey (hn-of) | return none
   if fo then break
   la:=of
   of:=2*of+1
  l0:=hn+1-min of mx
  h0:=hn-la
 for _ in [0:nn] do
  if l0>=h0 then break
  let mm:=l0+(h0-l0) / 2
  let some mo <- bey mm | return none
  if mo then l0:=mm+1 else h0:=mm
 return some h0):=rfl
theorem mLo_eq (a b:Array Keyed):mLo a b=(do
 rule "list.sort.merge-lo"
 let tot:=a.size+b.size
 let dn (o:Array Keyed) (i j:Nat):=o++a.extract i a.size++b.extract j b.size
 let lst (o:Array Keyed) (i j:Nat):=o++b.extract j b.size++a.extract i a.size
 let mut o:Array Keyed:=#[<- elem' b 0]
 let mut i:=0
 let mut j:=1
 if j == b.size then return dn o i j
 if i+1 == a.size then return lst o i j
 let mut mg:=gallopOf (<- get)
 for _ in [0:tot] do
  let mut ac:=0
  let mut bc:=0
  for _ in [0:tot] do
   let some bw <- lt' (<- elem' b j) (<- elem' a i) | return dn o i j
   if bw then
    o:=o.push (<- elem' b j);j:=j+1;bc:=bc+1;ac:=0
    if j == b.size then return dn o i j
    if bc>=mg then break
   else
    o:=o.push (<- elem' a i);i:=i+1;ac:=ac+1;bc:=0
    if i+1 == a.size then return lst o i j
    if ac>=mg then break
  rule "list.sort.gallop"
  mg:=mg+1
  for _ in [0:tot] do
   if mg>1 then mg:=mg-1
   setGal mg
   let some k <- galP false (<- elem' b j) a i (a.size-i) 0 | return dn o i j
   ac:=k
   if k>0 then
    o:=o++a.extract i (i+k);i:=i+k
    if i+1 == a.size then return lst o i j
    if i == a.size then return dn o i j
   o:=o.push (<- elem' b j);j:=j+1
   if j == b.size then return dn o i j
   let some k <- galP true (<- elem' a i) b j (b.size-j) 0 | return dn o i j
   bc:=k
   if k>0 then
    o:=o++b.extract j (j+k);j:=j+k
    if j == b.size then return dn o i j
   o:=o.push (<- elem' a i);i:=i+1
   if i+1 == a.size then return lst o i j
   if ac<7 && bc<7 then break
  mg:=mg+1
  setGal mg
 unsupported "internal:list.sort.merge-bound"):=rfl
theorem mHi_eq (a b:Array Keyed):mHi a b=(do
 rule "list.sort.merge-hi"
 let tot:=a.size+b.size
 let dn (o:Array Keyed) (i j:Nat):=a.extract 0 i++b.extract 0 j++o.reverse
 let fst (o:Array Keyed) (i j:Nat):=b.extract 0 j++a.extract 0 i++o.reverse
 let mut i:=a.size-1
 let mut j:=b.size
 let mut o:Array Keyed:=#[<- elem' a i]
 if i == 0 then return dn o i j
 if j == 1 then return fst o i j
 let mut mg:=gallopOf (<- get)
 for _ in [0:tot] do
  let mut ac:=0
  let mut bc:=0
  for _ in [0:tot] do
   let some aw <- lt' (<- elem' b (j-1)) (<- elem' a (i-1)) | return dn o i j
   if aw then
    i:=i-1;o:=o.push (<- elem' a i);ac:=ac+1;bc:=0
    if i == 0 then return dn o i j
    if ac>=mg then break
   else
    j:=j-1;o:=o.push (<- elem' b j);bc:=bc+1;ac:=0
    if j == 1 then return fst o i j
    if bc>=mg then break
  rule "list.sort.gallop"
  mg:=mg+1
  for _ in [0:tot] do
   if mg>1 then mg:=mg-1
   setGal mg
   let some p <- galP false (<- elem' b (j-1)) a 0 i (i-1) | return dn o i j
   let k:=i-p
   ac:=k
   if k>0 then
    o:=o++(a.extract p i).reverse;i:=p
    if i == 0 then return dn o i j
   j:=j-1;o:=o.push (<- elem' b j)
   if j == 1 then return fst o i j
   let some p <- galP true (<- elem' a (i-1)) b 0 j (j-1) | return dn o i j
   let k:=j-p
   bc:=k
   if k>0 then
    o:=o++(b.extract p j).reverse;j:=p
    if j == 1 then return fst o i j
    if j == 0 then return dn o i j
   i:=i-1;o:=o.push (<- elem' a i)
   if i == 0 then return dn o i j
   if ac<7 && bc<7 then break
  mg:=mg+1
  setGal mg
 unsupported "internal:list.sort.merge-bound"):=rfl
theorem mAt_eq (i:Nat):mergeAt' i=(do
 let s <- get
 let (some (sa,na,pw),some (sb,nb,_)):=((pendingOf s)[i]?,(pendingOf s)[i+1]?) | unsupported "internal:list.sort.pending"
 set (ft (kindOf s) (arrOf s) (((pendingOf s).setIfInBounds i (sa,na+nb,pw)).eraseIdxIfInBounds (i+1)) (gallopOf s) (failedOf s))
 let some k <- galP false (<- elem' (arrOf s) sb) (arrOf s) sa na 0 | return false
 let (sa,na):=(sa+k,na-k)
 if na == 0 then return true
 let some nb <- galP true (<- elem' (arrOf s) (sa+na-1)) (arrOf s) sb nb (nb-1) | return false
 if nb == 0 then return true
 let xx:=(arrOf s).extract sa sb
 let yy:=(arrOf s).extract sb (sb+nb)
 let mm <- if na<=nb then mLo xx yy else mHi xx yy
 modify fun s=>setArr s (mm.toList.zipIdx.foldl (fun a (p,j)=>a.setIfInBounds (sa+j) p) (arrOf s))
 return (failedOf (<- get)).isNone):=rfl
end Ts
namespace Ts
open PySem PyProof.Rows
set_option autoImplicit false
def el (xs:Array Keyed)(i:Nat):Keyed:=(xs[i]?).getD (cw,cw)
theorem el_some {xs:Array Keyed}{i:Nat}(h:i<xs.size):xs[i]?=some (el xs i):=by
 unfold el;rw[getElem?_pos xs i h];rfl
theorem el_congr {xs ys:Array Keyed}{i j:Nat}(h:xs[i]?=ys[j]?):el xs i=el ys j:=by unfold el;rw[h]
theorem el_mem {xs:Array Keyed}{i:Nat}(h:i<xs.size):el xs i∈xs.toList:=by
 have e:el xs i=xs[i]:=by unfold el;rw[getElem?_pos xs i h];rfl
 rw[e];simp
section
variable {O:KeyOrd}{key:Keyed->O.α}
abbrev KA {O:KeyOrd}(key:Keyed->O.α)(xs:Array Keyed)(i:Nat):O.α:=key (el xs i)
theorem KA_congr {xs ys:Array Keyed}{i j:Nat}(h:xs[i]?=ys[j]?):KA key xs i=KA key ys j:=by unfold KA;rw[el_congr h]
def Seg {O:KeyOrd}(key:Keyed->O.α)(xs:Array Keyed)(lo hi:Nat):Prop:=∀ i j,lo<=i->i<=j->j<hi->O.kle (KA key xs i) (KA key xs j)
def SegD {O:KeyOrd}(key:Keyed->O.α)(xs:Array Keyed)(lo hi:Nat):Prop:=∀ i j,lo<=i->i<=j->j<hi->O.kle (KA key xs j) (KA key xs i)
theorem Seg.one (xs:Array Keyed)(lo:Nat):Seg key xs lo (lo+1):=fun i j h1 h2 h3=>by
 have:i=j:=by omega
 subst this;exact cJ _
theorem Seg.sub {xs:Array Keyed}{lo hi lo' hi':Nat}(h:Seg key xs lo hi)(h1:lo<=lo')(h2:hi'<=hi):Seg key xs lo' hi':=fun i j a b c=>h i j (by omega) b (by omega)
theorem Seg.congr {xs ys:Array Keyed}{lo hi:Nat}(h:Seg key xs lo hi)(e:∀ i,lo<=i->i<hi->KA key ys i=KA key xs i):Seg key ys lo hi:=fun i j a b c=>by
 rw[e i a (by omega),e j (by omega) c];exact h i j a b c
theorem KA_bubble {xs:Array Keyed}{src d:Nat}(hs:src<xs.size)(hd:d<=src)(k:Nat) :
  KA key (bubble xs src d) k=if k=src-d then KA key xs src else if src-d<k/\k<=src then KA key xs (k-1) else KA key xs k:=by
 have e:=getElem?_bubble hs d hd k;by_cases h1:k=src-d
 ·rw[if_pos h1] at e ⊢;exact KA_congr e
 ·rw[if_neg h1] at e ⊢;by_cases h2:src-d<k/\k<=src
  ·rw[if_pos h2] at e ⊢;exact KA_congr e
  ·rw[if_neg h2] at e ⊢;exact KA_congr e
theorem KA_mirror {xs:Array Keyed}{i j:Nat}(hj:j<=xs.size)(k:Nat) :
  KA key (mirror xs i j ((j-i) / 2)) k=if i<=k/\k<j then KA key xs (i+j-1-k) else KA key xs k:=by
 have e:=getElem?_mirror_all (i:=i) hj k;by_cases h1:i<=k/\k<j
 ·rw[if_pos h1] at e ⊢;exact KA_congr e
 ·rw[if_neg h1] at e ⊢;exact KA_congr e
theorem KA_mirror_equal {xs:Array Keyed}{i j:Nat}(hj:j<=xs.size)(heq:∀ k,i<=k->k<j->KA key xs k=KA key xs (j-1))(k:Nat) :
  KA key (mirror xs i j ((j-i) / 2)) k=KA key xs k:=by
 rw[KA_mirror hj];split
 ·rw[heq _ (by omega) (by omega),heq k (by omega) (by omega)]
 ·rfl
end
structure SB (a₀:Array Keyed)(knd:SortKind)(st:SortSt):Prop where
 perm:(arrOf st).Perm a₀
 kind:kindOf st=knd
 failed:failedOf st=none
theorem SB.size {a₀:Array Keyed}{knd:SortKind}{st:SortSt}(h:SB a₀ knd st):(arrOf st).size=a₀.size:=h.perm.size_eq
theorem SB.setArr {a₀:Array Keyed}{knd:SortKind}{st:SortSt}(h:SB a₀ knd st){xs:Array Keyed}(hp:xs.Perm (arrOf st)):SB a₀ knd (setArr st xs):=⟨hp.trans h.perm,h.kind,h.failed⟩
theorem SB.mem {a₀:Array Keyed}{knd:SortKind}{st:SortSt}(h:SB a₀ knd st){i:Nat}(hi:i<a₀.size):el (arrOf st) i∈a₀.toList :=
 (iC.mp h.perm).mem_iff.mp (el_mem (by rw[h.size];exact hi))
def Cmp (M:Model)(A:Around)(E:Value->Shared->Prop)(s:Shared)(knd:SortKind)(O:KeyOrd)(key:Keyed->O.α)(a₀:Array Keyed):Prop :=
 ∀ p∈a₀.toList,∀ q∈a₀.toList,∀(st:SortSt) (Q:Option Bool->SortSt->Prop),kindOf st=knd->Q (some (O.blt (key p) (key q))) st->wpS M A E s (lt' p q) Q st
section
variable {M:Model}{A:Around}{E:Value->Shared->Prop}{s:Shared}{a₀:Array Keyed}{knd:SortKind}{O:KeyOrd}{key:Keyed->O.α}
theorem wpS_elem {xs:Array Keyed}{i:Nat}{Q:Keyed->SortSt->Prop}{st:SortSt}(h:i<xs.size)(q:Q (el xs i) st):wpS M A E s (elem' xs i) Q st:=by
 rw[elem'_eq,el_some h];exact ap q
theorem wpS_ltI {st:SortSt}{i j:Nat}{Q:Option Bool->SortSt->Prop}(C:Cmp M A E s knd O key a₀)(hB:SB a₀ knd st)(hi:i<a₀.size)(hj:j<a₀.size)
  (h:Q (some (O.blt (KA key (arrOf st) i) (KA key (arrOf st) j))) st):wpS M A E s (ltAt' i j) Q st:=by
 rw[ltAt'_eq];refine au (fX ?_);refine au (wpS_elem (by rw[hB.size];exact hi) ?_);refine au (wpS_elem (by rw[hB.size];exact hj) ?_);exact C _ (hB.mem hi) _ (hB.mem hj) st Q hB.kind h
theorem wpS_rev {st:SortSt}{i j:Nat}{Q:Unit->SortSt->Prop}(h:Q () (setArr st (mirror (arrOf st) i j ((j-i) / 2)))):wpS M A E s (reverseSlice' i j) Q st:=by
 rw[reverseSlice'_eq];exact eU h
theorem wpS_rule {st:SortSt}{Q:Unit->SortSt->Prop}{x:String}(h:Q () st):wpS M A E s (liftM (rule x):StateT SortSt Sem Unit) Q st:=wpS_lift (gG ⟨rfl,h⟩)
def ascL (lo a nrem:Nat):StateT SortSt Sem AscSt :=
 forIn [a:nrem] ((none,a):AscSt) fun _ c=>do
  let x <- ltAt' (lo+c.snd) (lo+c.snd-1)
  match x with
  | some sm=>if sm=true then pure (fv (none,c.snd)) else pure (cg (none,c.snd+1))
  | _=>pure (fv (some none,c.snd))
def t3L (lo n nrem:Nat):StateT SortSt Sem (Option Nat):=do
 reverseSlice' lo (lo+n)
 let c <- ascL lo n nrem
 match c.fst with
 | some r=>pure r
 | none=>pure (some c.snd)
def desL (lo n nrem:Nat):StateT SortSt Sem DescSt :=
 forIn [n:nrem] ((none,n,0):DescSt) fun _ c=>do
  let x <- ltAt' (lo+c.snd.fst) (lo+c.snd.fst-1)
  match x with
  | some sm =>
   if sm=true then
    if c.snd.snd>0 then do
     reverseSlice' (lo+c.snd.fst-(c.snd.snd+1)) (lo+c.snd.fst)
     pure (cg (none,c.snd.fst+1,0))
    else pure (cg (none,c.snd.fst+1,0))
   else do
    let y <- ltAt' (lo+c.snd.fst-1) (lo+c.snd.fst)
    match y with
    | some la =>
     if la=true then pure (fv (none,c.snd.fst,c.snd.snd))
     else pure (cg (none,c.snd.fst+1,c.snd.snd+1))
    | _=>pure (fv (some none,c.snd.fst,c.snd.snd))
  | _=>pure (fv (some none,c.snd.fst,c.snd.snd))
def desP (lo n nrem:Nat):StateT SortSt Sem (Option Nat):=do
 liftM (rule "list.sort.descending-run")
 let c <- desL lo (n+1) nrem
 match c.fst with
 | some r=>pure r
 | none =>
  if c.snd.snd>0 then do
   reverseSlice' (lo+c.snd.fst-(c.snd.snd+1)) (lo+c.snd.fst)
   t3L lo c.snd.fst nrem
  else t3L lo c.snd.fst nrem
theorem cR_eq (lo nrem:Nat):countRun' lo nrem=(do
  let c <- ascL lo 1 nrem
  match c.fst with
  | some r=>pure r
  | none =>
   if (c.snd == nrem)=true then pure (some c.snd)
   else if c.snd>1 then do
    let x <- ltAt' lo (lo+c.snd-1)
    match x with
    | some rs=>if rs=true then pure (some c.snd) else do
      reverseSlice' lo (lo+c.snd)
      desP lo c.snd nrem
    | _=>pure none
   else desP lo c.snd nrem):=by
 rw[countRun'_eq];unfold desP t3L desL ascL;refine bind_congr fun c=>?_
 obtain⟨r,n⟩:=c;cases r with
 | some r=>rfl
 | none =>
  dsimp only;split
  ·rfl
  ·split
   ·refine bind_congr fun x=>?_
    cases x with
    | none=>rfl
    | some rs =>
     dsimp only;split
     ·rfl
     ·refine bind_congr fun u=>?_
      refine bind_congr fun v=>?_
      refine bind_congr fun d=>?_
      obtain⟨r2,n2,q2⟩:=d;cases r2 with
      | some r2=>rfl
      | none =>
       dsimp only;split
       ·refine bind_congr fun e=>?_
        refine bind_congr fun e=>?_
        refine bind_congr fun d=>?_
        obtain⟨r3,n3⟩:=d;cases r3<;>rfl
       ·refine bind_congr fun e=>?_
        refine bind_congr fun d=>?_
        obtain⟨r3,n3⟩:=d;cases r3<;>rfl
   ·refine bind_congr fun v=>?_
    refine bind_congr fun d=>?_
    obtain⟨r2,n2,q2⟩:=d;cases r2 with
    | some r2=>rfl
    | none =>
     dsimp only;split
     ·refine bind_congr fun e=>?_
      refine bind_congr fun e=>?_
      refine bind_congr fun d=>?_
      obtain⟨r3,n3⟩:=d;cases r3<;>rfl
     ·refine bind_congr fun e=>?_
      refine bind_congr fun d=>?_
      obtain⟨r3,n3⟩:=d;cases r3<;>rfl
structure From (lo:Nat)(st st':SortSt):Prop where
 low:∀ i,i<lo->(arrOf st')[i]?=(arrOf st)[i]?
 pend:pendingOf st'=pendingOf st
theorem From.refl (lo:Nat)(st:SortSt):From lo st st:=⟨fun _ _=>rfl,rfl⟩
theorem From.trans {lo:Nat}{a b c:SortSt}(h:From lo a b)(k:From lo b c):From lo a c:=⟨fun i hi=>(k.low i hi).trans (h.low i hi),k.pend.trans h.pend⟩
theorem From.mirror {lo i j:Nat}{st:SortSt}(hi:lo<=i)(hj:j<=(arrOf st).size):From lo st (ir st (iu (arrOf st) i j ((j-i) / 2))) :=
 ⟨fun k hk=>by show (iu (arrOf st) i j ((j-i) / 2))[k]?=_;rw[getElem?_mirror_all hj,if_neg (by omega)],rfl⟩
theorem From.bubble {lo src d:Nat}{st:SortSt}(hs:src<(arrOf st).size)(hd:d<=src)(hl:lo<=src-d):From lo st (ir st (iw (arrOf st) src d)) :=
 ⟨fun k hk=>by show (iw (arrOf st) src d)[k]?=_;rw[getElem?_bubble hs d hd,if_neg (by omega),if_neg (by omega)],rfl⟩
theorem wpS_ascL {st:SortSt}{lo a nrem:Nat}{Q:AscSt->SortSt->Prop}(C:Cmp M A E s knd O key a₀)(hn:lo+nrem<=a₀.size)(ha:1<=a)(han:a<=nrem)(hB:SB a₀ knd st)
  (hs:Seg key (arrOf st) lo (lo+a))
  (h:∀ n,a<=n->n<=nrem->Seg key (arrOf st) lo (lo+n)->(n=nrem\/O.klt (KA key (arrOf st) (lo+n)) (KA key (arrOf st) (lo+n-1)))->Q (none,n) st) :
  wpS M A E s (ascL lo a nrem) Q st:=by
 unfold ascL;refine ci (I:=fun x c st'=>st'=st/\c=(none,x)/\Seg key (arrOf st) lo (lo+x)) ?step ?fin ⟨rfl,rfl,hs⟩
 case fin =>
  rintro c st' ⟨rfl,rfl,hs'⟩;rw[show max a nrem=nrem by omega] at hs' ⊢;exact h nrem han (ao _) hs' (.inl rfl)
 case step =>
  rintro x c st' hax hxn ⟨rfl,rfl,hs'⟩;dsimp only;refine au (wpS_ltI C hB (by omega) (by omega) ?_);cases hless:O.blt (KA key (arrOf st') (lo+x)) (KA key (arrOf st') (lo+x-1))
  case true =>
   simp only[if_true];exact ap (h x hax (by omega) hs' (.inr hless))
  case false =>
   simp only[aU,if_false];refine ap ⟨rfl,rfl,fun i j hli hij hj=>?_⟩;by_cases hjx:j<lo+x
   ·exact hs' i j hli hij hjx
   ·have hj':j=lo+x:=by omega
    subst hj';by_cases hi':i=lo+x
    ·subst hi';exact cJ _
    ·exact aV (hs' i (lo+x-1) hli (by omega) (by omega)) hless
theorem wpS_t3L {st:SortSt}{lo n nrem:Nat}{Q:Option Nat->SortSt->Prop}(C:Cmp M A E s knd O key a₀)(hn:lo+nrem<=a₀.size)(h1:1<=n)(hnn:n<=nrem)(hB:SB a₀ knd st)
  (hs:SegD key (arrOf st) lo (lo+n)) (h:∀ m st',SB a₀ knd st'->From lo st st'->1<=m->m<=nrem->Seg key (arrOf st') lo (lo+m)->Q (some m) st') :
  wpS M A E s (t3L lo n nrem) Q st:=by
 unfold t3L;have hsz:lo+n<=(arrOf st).size:=by rw[hB.size];omega
 refine au (wpS_rev ?_);have hB':SB a₀ knd (setArr st (mirror (arrOf st) lo (lo+n) ((lo+n-lo) / 2))):=hB.setArr (ji _ _ _ _);have hF:=From.mirror (ao lo) hsz;refine au (wpS_ascL C hn h1 hnn hB' ?_ fun m hm1 hm2 hsm _=>ap (h m _ hB' hF (by omega) hm2 hsm));intro i j hli hij hj;show O.kle (KA key (mirror (arrOf st) lo (lo+n) ((lo+n-lo) / 2)) i) (KA key (mirror (arrOf st) lo (lo+n) ((lo+n-lo) / 2)) j);rw[KA_mirror hsz,KA_mirror hsz,if_pos (by omega),if_pos (by omega)];exact hs _ _ (by omega) (by omega) (by omega)
theorem wpS_desL {st:SortSt}{lo n nrem:Nat}{Q:DescSt->SortSt->Prop}(C:Cmp M A E s knd O key a₀)(hn:lo+nrem<=a₀.size)(h1:1<=n)(hnn:n<=nrem)(hB:SB a₀ knd st)
  (hs:SegD key (arrOf st) lo (lo+n))
  (h:∀ m neq st',SB a₀ knd st'->From lo st st'->n<=m->m<=nrem->SegD key (arrOf st') lo (lo+m)->neq+1<=m->(∀ i,lo+m-(neq+1)<=i->i<lo+m->KA key (arrOf st') i=KA key (arrOf st') (lo+m-1))->Q (none,m,neq) st') :
  wpS M A E s (desL lo n nrem) Q st:=by
 unfold desL
 refine ci (I:=fun x c st'=>∃ neq,c=(none,x,neq)/\SB a₀ knd st'/\From lo st st'/\SegD key (arrOf st') lo (lo+x)/\neq+1<=x /\
   (∀ i,lo+x-(neq+1)<=i->i<lo+x->KA key (arrOf st') i=KA key (arrOf st') (lo+x-1))) ?step ?fin ⟨0,rfl,hB,From.refl _ _,hs,by omega,fun i h1 h2=>by congr 1;congr 1;omega⟩
 case fin =>
  rintro c st' ⟨neq,rfl,hB',hF,hs',hq,he⟩;rw[show max n nrem=nrem by omega] at hs' hq he ⊢;exact h nrem neq st' hB' hF hnn (ao _) hs' hq he
 case step =>
  rintro x c st' hax hxn ⟨neq,rfl,hB',hF,hs',hq,he⟩;dsimp only;have hsz:lo+x<=(arrOf st').size:=by rw[hB'.size];omega
  refine au (wpS_ltI C hB' (by omega) (by omega) ?_);cases hless:O.blt (KA key (arrOf st') (lo+x)) (KA key (arrOf st') (lo+x-1))
  case true =>
   simp only[if_true];have step1:∀ xs:Array Keyed,(∀ k,KA key xs k=KA key (arrOf st') k)->SegD key xs lo (lo+(x+1)):=by
    intro xs hk i j hli hij hj;rw[hk,hk];by_cases hjx:j<lo+x
    ·exact hs' i j hli hij hjx
    ·have hj':j=lo+x:=by omega
     subst hj';by_cases hi':i=lo+x
     ·subst hi';exact cJ _
     ·exact aV (aS hless) (hs' i (lo+x-1) hli (by omega) (by omega))
   by_cases hneq:neq>0
   ·rw[if_pos hneq];refine au (wpS_rev (ap ⟨0,rfl,hB'.setArr (ji _ _ _ _),hF.trans (From.mirror (by omega) hsz),step1 _ (KA_mirror_equal hsz he),by omega,fun i h1 h2=>by congr 1;congr 1;omega⟩))
   ·rw[if_neg hneq];exact ap ⟨0,rfl,hB',hF,step1 _ (fun _=>rfl),by omega,fun i h1 h2=>by congr 1;congr 1;omega⟩
  case false =>
   simp only[aU,if_false];refine au (wpS_ltI C hB' (by omega) (by omega) ?_);cases hlarger:O.blt (KA key (arrOf st') (lo+x-1)) (KA key (arrOf st') (lo+x))
   case true =>
    simp only[if_true];exact ap (h x neq st' hB' hF hax (by omega) hs' hq he)
   case false =>
    simp only[aU,if_false];have heqx:KA key (arrOf st') (lo+x)=KA key (arrOf st') (lo+x-1):=jm hlarger hless;refine ap ⟨neq+1,rfl,hB',hF,fun i j hli hij hj=>?_,by omega,fun i h1 h2=>?_⟩
    ·by_cases hjx:j<lo+x
     ·exact hs' i j hli hij hjx
     ·have hj':j=lo+x:=by omega
      subst hj';by_cases hi':i=lo+x
      ·subst hi';exact cJ _
      ·rw[heqx];exact hs' i (lo+x-1) hli (by omega) (by omega)
    ·rw[show lo+(x+1)-1=lo+x by omega];by_cases hix:i=lo+x
     ·subst hix;rfl
     ·rw[heqx];exact he i (by omega) (by omega)
theorem wpS_desP {st:SortSt}{lo n nrem:Nat}{Q:Option Nat->SortSt->Prop}(C:Cmp M A E s knd O key a₀)(hn:lo+nrem<=a₀.size)(hnn:n+1<=nrem)(hB:SB a₀ knd st)
  (hs:SegD key (arrOf st) lo (lo+(n+1))) (h:∀ m st',SB a₀ knd st'->From lo st st'->1<=m->m<=nrem->Seg key (arrOf st') lo (lo+m)->Q (some m) st') :
  wpS M A E s (desP lo n nrem) Q st:=by
 unfold desP;refine au (wpS_rule ?_);refine au (wpS_desL C hn (by omega) hnn hB hs fun m neq st' hB' hF hm1 hm2 hs' hq he=>?_);dsimp only;have hsz:lo+m<=(arrOf st').size:=by rw[hB'.size];omega
 by_cases hneq:neq>0
 ·rw[if_pos hneq];refine au (wpS_rev (wpS_t3L C hn (by omega) hm2 (hB'.setArr (ji _ _ _ _)) ?_ fun m' st'' a b=>h m' st'' a (hF.trans ((From.mirror (by omega) hsz).trans b))));intro i j hli hij hj;show O.kle (KA key (mirror (arrOf st') _ _ _) j) (KA key (mirror (arrOf st') _ _ _) i);rw[KA_mirror_equal hsz he,KA_mirror_equal hsz he];exact hs' i j hli hij hj
 ·rw[if_neg hneq];exact wpS_t3L C hn (by omega) hm2 hB' hs' fun m' st'' a b=>h m' st'' a (hF.trans b)
theorem wpS_cR {st:SortSt}{lo nrem:Nat}{Q:Option Nat->SortSt->Prop}(C:Cmp M A E s knd O key a₀)(hn:lo+nrem<=a₀.size)(h1:1<=nrem)(hB:SB a₀ knd st)
  (h:∀ m st',SB a₀ knd st'->From lo st st'->1<=m->m<=nrem->Seg key (arrOf st') lo (lo+m)->Q (some m) st') :
  wpS M A E s (countRun' lo nrem) Q st:=by
 rw[cR_eq];refine au (wpS_ascL C hn (ao 1) h1 hB (Seg.one _ _) fun n hn1 hn2 hsn hor=>?_);dsimp only;by_cases hnn:n=nrem
 ·rw[if_pos (by simpa using hnn)];exact ap (h n st hB (From.refl _ _) hn1 hn2 hsn)
 ·rw[if_neg (by simpa using hnn)];have hlt:O.klt (KA key (arrOf st) (lo+n)) (KA key (arrOf st) (lo+n-1)):=hor.resolve_left hnn;by_cases hgt:n>1
  ·rw[if_pos hgt];refine au (wpS_ltI C hB (by omega) (by omega) ?_);cases hrose:O.blt (KA key (arrOf st) lo) (KA key (arrOf st) (lo+n-1))
   case true =>
    simp only[if_true];exact ap (h n st hB (From.refl _ _) hn1 hn2 hsn)
   case false =>
    simp only[aU,if_false];have hsz:lo+n<=(arrOf st).size:=by rw[hB.size];omega
    have hall:∀ k,lo<=k->k<lo+n->KA key (arrOf st) k=KA key (arrOf st) (lo+n-1):=by
     intro k hlk hk;have a1:=hsn lo k (by omega) (by omega) hk;have a2:=hsn k (lo+n-1) hlk (by omega) (by omega);exact jm a2 (aV hrose a1)
    refine au (wpS_rev (wpS_desP C hn (by omega) (hB.setArr (ji _ _ _ _)) ?_ fun m' st'' a b=>h m' st'' a ((From.mirror (ao lo) hsz).trans b)));intro i j hli hij hj;show O.kle (KA key (mirror (arrOf st) _ _ _) j) (KA key (mirror (arrOf st) _ _ _) i);rw[KA_mirror_equal hsz hall,KA_mirror_equal hsz hall];by_cases hjn:j<lo+n
    ·rw[hall i (by omega) (by omega),hall j (by omega) hjn];exact cJ _
    ·have hj':j=lo+n:=by omega
     subst hj';by_cases hi':i=lo+n
     ·subst hi';exact cJ _
     ·rw[hall i (by omega) (by omega)];exact aS hlt
  ·rw[if_neg hgt];have hn1':n=1:=by omega
   subst hn1';refine wpS_desP C hn (by omega) hB ?_ h;intro i j hli hij hj;by_cases hi':i=j
   ·subst hi';exact cJ _
   ·have hi0:i=lo:=by omega
    have hj1:j=lo+1:=by omega
    subst hi0;subst hj1;exact aS hlt
theorem wpS_bS {st:SortSt}{lo n ok:Nat}{Q:Bool->SortSt->Prop}(C:Cmp M A E s knd O key a₀)(hn:lo+n<=a₀.size)(hok:ok<=n)(hB:SB a₀ knd st)(hs:Seg key (arrOf st) lo (lo+ok))
  (h:∀ st',SB a₀ knd st'->From lo st st'->Seg key (arrOf st') lo (lo+n)->Q true st'):wpS M A E s (binarySort' lo n ok) Q st:=by
 rw[binarySort'_eq]
 refine au (dO (ci (I:=fun k c st'=>c=(none,())/\SB a₀ knd st'/\From lo st st'/\Seg key (arrOf st') lo (lo+min k n))
  (Q:=fun c st'=>c=(none,())/\SB a₀ knd st'/\From lo st st'/\Seg key (arrOf st') lo (lo+n)) ?step ?fin ?init) ?post)
 case post =>
  rintro c st' ⟨rfl,hB',hF,hs'⟩;exact ap (h st' hB' hF hs')
 case init =>
  refine⟨rfl,hB,From.refl _ _,fun i j hli hij hj=>?_⟩;by_cases h1:ok=0
  ·have:i=j:=by omega
   subst this;exact cJ _
  ·exact hs i j hli hij (by omega)
 case fin =>
  rintro c st' ⟨hc,hB',hF,hs'⟩;refine⟨hc,hB',hF,?_⟩
  rwa [show min (max (max ok 1) n) n=n by omega] at hs'
 case step =>
  rintro k c st' hak hkn ⟨rfl,hB',hF,hs'⟩;rw[show min k n=k by omega] at hs';have hk:lo+k<a₀.size:=by omega
  refine au (dO (ci (I:=fun x c st''=>st''=st'/\∃ l r,c=(none,l,r)/\l<=r/\r<=k/\r-l<=k-x /\
    (∀ i,i<l->O.kle (KA key (arrOf st') (lo+i)) (KA key (arrOf st') (lo+k)))/\(∀ i,r<=i->i<k->O.klt (KA key (arrOf st') (lo+k)) (KA key (arrOf st') (lo+i))))
   (Q:=fun c st''=>st''=st'/\∃ l r,c=(none,l,r)/\l<=k /\
    (∀ i,i<l->O.kle (KA key (arrOf st') (lo+i)) (KA key (arrOf st') (lo+k)))/\(∀ i,l<=i->i<k->O.klt (KA key (arrOf st') (lo+k)) (KA key (arrOf st') (lo+i)))) ?istep ?ifin ?iinit) ?ipost)
  case iinit=>exact⟨rfl,0,k,rfl,by omega,by omega,by omega,fun i hi=>by omega,fun i h1 h2=>by omega⟩
  case ifin =>
   rintro c st'' ⟨rfl,l,r,rfl,hlr,hrk,hm,hlo,hhi⟩;have:l=r:=by omega
   subst this;exact⟨rfl,l,l,rfl,hrk,hlo,hhi⟩
  case istep =>
   rintro x c st'' _ hxk ⟨rfl,l,r,rfl,hlr,hrk,hm,hlo,hhi⟩;dsimp only;by_cases hge:l>=r
   ·rw[if_pos hge];have:l=r:=by omega
    subst this;exact ap ⟨rfl,l,l,rfl,hrk,hlo,hhi⟩
   ·rw[if_neg hge];refine au (wpS_ltI C hB' hk (by omega) ?_);cases hless:O.blt (KA key (arrOf st'') (lo+k)) (KA key (arrOf st'') (lo+(l+r) / 2))
    case true =>
     simp only[if_true];refine ap ⟨rfl,l,(l+r) / 2,rfl,by omega,by omega,by omega,hlo,fun i h1 h2=>?_⟩;exact KeyOrd.klt_of_klt_of_kle hless (hs' _ _ (by omega) (by omega) (by omega))
    case false =>
     simp only[aU,if_false];refine ap ⟨rfl,(l+r) / 2+1,r,rfl,by omega,by omega,by omega,fun i h1=>?_,hhi⟩;exact aV (hs' (lo+i) (lo+(l+r) / 2) (by omega) (by omega) (by omega)) (show O.kle _ _ from hless)
  case ipost =>
   rintro c st'' ⟨rfl,l,r,rfl,hlk,hlo,hhi⟩;show wpS _ _ _ _ (do moveDown' (lo+k) (lo+l);pure (cg (none,()))) _ _;rw[moveDown'_eq];have hks:lo+k<(arrOf st'').size:=by rw[hB'.size];exact hk
   refine au (eU (ap ⟨rfl,hB'.setArr (bubble_perm _ _ _),hF.trans (From.bubble hks (by omega) (by omega)),?_⟩));rw[show min (k+1) n=k+1 by omega];intro i j hli hij hj;show O.kle (KA key (bubble (arrOf st'') (lo+k) (lo+k-(lo+l))) i) (KA key (bubble (arrOf st'') (lo+k) (lo+k-(lo+l))) j);rw[KA_bubble hks (by omega),KA_bubble hks (by omega),show lo+k-(lo+k-(lo+l))=lo+l by omega];have hlo':∀ i,lo<=i->i<lo+l->O.kle (KA key (arrOf st'') i) (KA key (arrOf st'') (lo+k)):=fun i a b=>by
    have:=hlo (i-lo) (by omega)
    rwa [show lo+(i-lo)=i by omega] at this
   have hhi':∀ i,lo+l<=i->i<lo+k->O.klt (KA key (arrOf st'') (lo+k)) (KA key (arrOf st'') i):=fun i a b=>by
    have:=hhi (i-lo) (by omega) (by omega)
    rwa [show lo+(i-lo)=i by omega] at this
   repeat' split
   all_goals first
    | (exfalso;omega)
    | exact cJ _
    | exact hlo' _ (by omega) (by omega)
    | exact aS (hhi' _ (by omega) (by omega))
    | exact hs' _ _ (by omega) (by omega) (by omega)
end
end Ts
namespace Ts
open PySem PyProof.Rows
set_option autoImplicit false
section
variable {M:Model}{A:Around}{E:Value->Shared->Prop}{s:Shared}{a₀:Array Keyed}{knd:SortKind}{O:KeyOrd}{key:Keyed->O.α}
theorem wpS_galP {P:Nat->Bool}{lf:Bool}{ky:Keyed}{ar:Array Keyed}{bs nn hn:Nat}{st:SortSt}{Q:Option Nat->SortSt->Prop}(hk:kindOf st=knd)
  (hb:∀ i,i<nn->∀(st:SortSt) (Q:Option Bool->SortSt->Prop),kindOf st=knd->Q (some (P i)) st ->
   wpS M A E s (do let xx <- elem' ar (bs+i);if lf then lt' xx ky else return (<- lt' ky xx).map (!·)) Q st)
  (hP:∀ i j,i<=j->j<nn->P j=true->P i=true) (hh:hn<nn)
  (h:∀ k,k<=nn->(∀ i,i<k->P i=true)->(∀ i,k<=i->i<nn->P i=false)->Q (some k) st):wpS M A E s (galP lf ky ar bs nn hn) Q st:=by
 rw[galP_eq];have hN:∀ i j,i<=j->j<nn->P i=false->P j=false:=fun i j a b c=>by
  cases e:P j with
  | false=>rfl
  | true=>rw[hP i j a b e] at c;exact absurd c (by simp)
 refine au (hb hn hh _ _ hk ?_);cases e:P hn with
 | true =>
  simp only[if_true]
  refine au (dO (ci (I:=fun x c st'=>st'=st/\∃ la o,c=(none,la,o)/\la<o/\x+1<=o/\hn+la<nn/\P (hn+la)=true)
   (Q:=fun c st'=>st'=st/\∃ la o,c=(none,la,o)/\la<o/\hn+la<nn/\P (hn+la)=true/\(nn-hn<=o\/(o<nn-hn/\P (hn+o)=false))) ?step ?fin ⟨rfl,0,1,rfl,by omega,by omega,hh,e⟩) ?post)
  case fin =>
   rintro c st' ⟨rfl,la,o,rfl,h1,h2,h3,h4⟩;exact⟨rfl,la,o,rfl,h1,h3,h4,.inl (by omega)⟩
  case step =>
   rintro x c st' _ hx ⟨rfl,la,o,rfl,h1,h2,h3,h4⟩;dsimp only;by_cases hge:o>=nn-hn
   ·rw[if_pos hge];exact ap ⟨rfl,la,o,rfl,h1,h3,h4,.inl hge⟩
   ·rw[if_neg hge];refine au (hb (hn+o) (by omega) _ _ hk ?_);cases e2:P (hn+o) with
    | true =>
     simp only[fu,aU,if_false];exact ap ⟨rfl,o,_,rfl,by omega,by omega,by omega,e2⟩
    | false =>
     simp only[Bool.not_false,if_true];exact ap ⟨rfl,la,o,rfl,h1,h3,h4,.inr ⟨by omega,e2⟩⟩
  case post =>
   rintro c st' ⟨rfl,la,o,rfl,h1,h3,h4,h5⟩;dsimp only;have hT:∀ i,i<(hn+la+1)->P i=true:=fun i hi=>hP i (hn+la) (by omega) h3 h4
   have hF:∀ i,(hn+min o (nn-hn))<=i->i<nn->P i=false:=fun i hi hin=>by
    rcases h5 with h5 | ⟨h5,h6⟩
    ·omega
    ·exact hN (hn+o) i (by omega) hin h6
   refine au (dO (ci (I:=fun x c st''=>st''=st'/\∃ l r,c=(none,l,r)/\l<=r/\r<=nn/\r-l<=nn-x/\(∀ i,i<l->P i=true)/\(∀ i,r<=i->i<nn->P i=false))
    (Q:=fun c st''=>st''=st'/\∃ l,c=(none,l,l)/\l<=nn/\(∀ i,i<l->P i=true)/\(∀ i,l<=i->i<nn->P i=false)) ?step2 ?fin2 ⟨rfl,(hn+la+1),(hn+min o (nn-hn)),rfl,by omega,by omega,by omega,hT,hF⟩) ?post2)
   case fin2 =>
    rintro c st'' ⟨rfl,l,r,rfl,h1,h2,h3,h4,h5⟩;have:l=r:=by omega
    subst this;exact⟨rfl,l,rfl,h2,h4,h5⟩
   case post2 =>
    rintro c st'' ⟨rfl,l,rfl,h2,h4,h5⟩;exact ap (h l h2 h4 h5)
   case step2 =>
    rintro x c st'' _ hx ⟨rfl,l,r,rfl,h1,h2,h3,h4,h5⟩;dsimp only;by_cases hge:l>=r
    ·rw[if_pos hge];have:l=r:=by omega
     subst this;exact ap ⟨rfl,l,rfl,h2,h4,h5⟩
    ·rw[if_neg hge];refine au (hb (l+(r-l) / 2) (by omega) _ _ hk ?_);cases e:P (l+(r-l) / 2) with
     | true =>
      simp only[if_true];exact ap ⟨rfl,_,r,rfl,by omega,h2,by omega,fun i hi=>hP i _ (by omega) (by omega) e,h5⟩
     | false =>
      simp only[aU,if_false];exact ap ⟨rfl,l,_,rfl,by omega,by omega,by omega,h4,fun i a b=>hN _ i a b e⟩
 | false =>
  simp only[aU,if_false]
  refine au (dO (ci (I:=fun x c st'=>st'=st/\∃ la o,c=(none,la,o)/\la<o/\x+1<=o/\la<=hn/\P (hn-la)=false)
   (Q:=fun c st'=>st'=st/\∃ la o,c=(none,la,o)/\la<o/\la<=hn/\P (hn-la)=false/\(hn+1<=o\/(o<=hn/\P (hn-o)=true))) ?step ?fin ⟨rfl,0,1,rfl,by omega,by omega,by omega,e⟩) ?post)
  case fin =>
   rintro c st' ⟨rfl,la,o,rfl,h1,h2,h3,h4⟩;exact⟨rfl,la,o,rfl,h1,h3,h4,.inl (by omega)⟩
  case step =>
   rintro x c st' _ hx ⟨rfl,la,o,rfl,h1,h2,h3,h4⟩;dsimp only;by_cases hge:o>=hn+1
   ·rw[if_pos hge];exact ap ⟨rfl,la,o,rfl,h1,h3,h4,.inl hge⟩
   ·rw[if_neg hge];refine au (hb (hn-o) (by omega) _ _ hk ?_);cases e2:P (hn-o) with
    | true =>
     simp only[if_true];exact ap ⟨rfl,la,o,rfl,h1,h3,h4,.inr ⟨by omega,e2⟩⟩
    | false =>
     simp only[aU,if_false];exact ap ⟨rfl,o,_,rfl,by omega,by omega,by omega,e2⟩
  case post =>
   rintro c st' ⟨rfl,la,o,rfl,h1,h3,h4,h5⟩;dsimp only;have hT:∀ i,i<(hn+1-min o (hn+1))->P i=true:=fun i hi=>by
    rcases h5 with h5 | ⟨h5,h6⟩
    ·omega
    ·exact hP i (hn-o) (by omega) (by omega) h6
   have hF:∀ i,(hn-la)<=i->i<nn->P i=false:=fun i hi hin=>hN (hn-la) i hi hin h4
   refine au (dO (ci (I:=fun x c st''=>st''=st'/\∃ l r,c=(none,l,r)/\l<=r/\r<=nn/\r-l<=nn-x/\(∀ i,i<l->P i=true)/\(∀ i,r<=i->i<nn->P i=false))
    (Q:=fun c st''=>st''=st'/\∃ l,c=(none,l,l)/\l<=nn/\(∀ i,i<l->P i=true)/\(∀ i,l<=i->i<nn->P i=false)) ?step2 ?fin2 ⟨rfl,(hn+1-min o (hn+1)),(hn-la),rfl,by omega,by omega,by omega,hT,hF⟩) ?post2)
   case fin2 =>
    rintro c st'' ⟨rfl,l,r,rfl,h1,h2,h3,h4,h5⟩;have:l=r:=by omega
    subst this;exact⟨rfl,l,rfl,h2,h4,h5⟩
   case post2 =>
    rintro c st'' ⟨rfl,l,rfl,h2,h4,h5⟩;exact ap (h l h2 h4 h5)
   case step2 =>
    rintro x c st'' _ hx ⟨rfl,l,r,rfl,h1,h2,h3,h4,h5⟩;dsimp only;by_cases hge:l>=r
    ·rw[if_pos hge];have:l=r:=by omega
     subst this;exact ap ⟨rfl,l,rfl,h2,h4,h5⟩
    ·rw[if_neg hge];refine au (hb (l+(r-l) / 2) (by omega) _ _ hk ?_);cases e:P (l+(r-l) / 2) with
     | true =>
      simp only[if_true];exact ap ⟨rfl,_,r,rfl,by omega,h2,by omega,fun i hi=>hP i _ (by omega) (by omega) e,h5⟩
     | false =>
      simp only[aU,if_false];exact ap ⟨rfl,l,_,rfl,by omega,by omega,by omega,h4,fun i a b=>hN _ i a b e⟩
theorem wpS_galR {ky:Keyed}{ar:Array Keyed}{bs nn hn:Nat}{st:SortSt}{Q:Option Nat->SortSt->Prop}(C:Cmp M A E s knd O key a₀)(hk:kindOf st=knd)(hm:ky∈a₀.toList)
  (ha:∀ i,i<nn->el ar (bs+i)∈a₀.toList) (hsz:bs+nn<=ar.size) (hs:Seg key ar bs (bs+nn)) (hh:hn<nn)
  (h:∀ k,k<=nn->(∀ i,bs<=i->i<bs+k->O.kle (KA key ar i) (key ky))->(∀ i,bs+k<=i->i<bs+nn->O.klt (key ky) (KA key ar i))->Q (some k) st):wpS M A E s (galP false ky ar bs nn hn) Q st:=by
 refine wpS_galP (P:=fun i=>!O.blt (key ky) (KA key ar (bs+i))) hk (fun i hi st Q hk q=>?_) (fun i j hij hj e=>?_) hh fun k hk1 h1 h2=>?_
 ·refine au (wpS_elem (by omega) ?_);simp only[aU,if_false];exact au (C _ hm _ (ha i hi) st _ hk (ap q))
 ·have e':O.kle (KA key ar (bs+j)) (key ky):=by simpa [KeyOrd.kle] using e
  have:=aV (hs (bs+i) (bs+j) (by omega) (by omega) (by omega)) e';simpa [KeyOrd.kle] using this
 ·refine h k hk1 (fun i a b=>?_) fun i a b=>?_
  ·have:=h1 (i-bs) (by omega);rw[show bs+(i-bs)=i by omega] at this;simpa [KeyOrd.kle] using this
  ·have:=h2 (i-bs) (by omega) (by omega);rw[show bs+(i-bs)=i by omega] at this;simpa [KeyOrd.klt] using this
theorem wpS_galL {ky:Keyed}{ar:Array Keyed}{bs nn hn:Nat}{st:SortSt}{Q:Option Nat->SortSt->Prop}(C:Cmp M A E s knd O key a₀)(hk:kindOf st=knd)(hm:ky∈a₀.toList)
  (ha:∀ i,i<nn->el ar (bs+i)∈a₀.toList) (hsz:bs+nn<=ar.size) (hs:Seg key ar bs (bs+nn)) (hh:hn<nn)
  (h:∀ k,k<=nn->(∀ i,bs<=i->i<bs+k->O.klt (KA key ar i) (key ky))->(∀ i,bs+k<=i->i<bs+nn->O.kle (key ky) (KA key ar i))->Q (some k) st):wpS M A E s (galP true ky ar bs nn hn) Q st:=by
 refine wpS_galP (P:=fun i=>O.blt (KA key ar (bs+i)) (key ky)) hk (fun i hi st Q hk q=>?_) (fun i j hij hj e=>?_) hh fun k hk1 h1 h2=>?_
 ·refine au (wpS_elem (by omega) ?_);simp only[if_true];exact C _ (ha i hi) _ hm st _ hk q
 ·exact KeyOrd.klt_of_kle_of_klt (hs (bs+i) (bs+j) (by omega) (by omega) (by omega)) e
 ·refine h k hk1 (fun i a b=>?_) fun i a b=>?_
  ·have:=h1 (i-bs) (by omega)
   rwa [show bs+(i-bs)=i by omega] at this
  ·have:=h2 (i-bs) (by omega) (by omega)
   rwa [show bs+(i-bs)=i by omega] at this
end
end Ts
namespace Ts
open PySem PyProof.Rows
set_option autoImplicit false
theorem toList_el {a:Array Keyed}{k:Nat}(h:k<a.size):a.toList[k]?=some (el a k):=by
 rw[bC];exact el_some h
theorem take_succ_el {a:Array Keyed}{i:Nat}(h:i<a.size):a.toList.take (i+1)=a.toList.take i++[el a i]:=by
 rw[gS,toList_el h];rfl
theorem drop_el {a:Array Keyed}{i:Nat}(h:i<a.size):a.toList.drop i=el a i::a.toList.drop (i+1):=by
 have hl:i<a.toList.length:=by simpa using h
 rw[fL hl];congr 1;have:=toList_el h;rw[aq hl] at this;exact aG this
theorem mem_drop_el {a:Array Keyed}{i:Nat}{y:Keyed}(h:y∈a.toList.drop i):∃ k,i<=k/\k<a.size/\y=el a k:=by
 obtain⟨n,hn⟩:=dz.mp h;rw[gH] at hn;have hlt:i+n<a.size:=by
  have:=(aA.mp hn).1;simpa using this
 rw[toList_el hlt] at hn;exact⟨i+n,by omega,hlt,(aG hn).symm⟩
theorem mem_take_el {a:Array Keyed}{i:Nat}{y:Keyed}(h:y∈a.toList.take i):∃ k,k<i/\k<a.size/\y=el a k:=by
 obtain⟨n,hn⟩:=dz.mp h;by_cases hi:n<i
 ·rw[fP hi] at hn;have hlt:n<a.size:=by
   have:=(aA.mp hn).1;simpa using this
  rw[toList_el hlt] at hn;exact⟨n,hi,hlt,(aG hn).symm⟩
 ·rw[List.getElem?_take_eq_none (by omega)] at hn;cases hn
theorem ext_end (a:Array Keyed)(i:Nat):(a.extract i a.size).toList=a.toList.drop i:=by
 rw[cU,cB,di (by simp)]
theorem ext_top (a:Array Keyed)(i:Nat):(a.extract 0 i).toList=a.toList.take i:=by
 rw[cU,cB];simp
theorem ext_mid {a:Array Keyed}{i k:Nat}(h:i+k<a.size):(a.extract i (i+(k+1))).toList=(a.extract i (i+k)).toList++[el a (i+k)]:=by
 rw[cU,cB,cU,cB,show i+(k+1)-i=k+1 by omega,show i+k-i=k by omega,gS,gH,toList_el h];rfl
theorem ext_low {a:Array Keyed}{p i:Nat}(h:p<i)(hi:i<=a.size):(a.extract p i).toList=el a p::(a.extract (p+1) i).toList:=by
 rw[cU,cB,cU,cB,drop_el (by omega),show i-p=(i-(p+1))+1 by omega,List.take_succ_cons]
section
variable {O:KeyOrd}{key:Keyed->O.α}
def le {O:KeyOrd}(key:Keyed->O.α)(p q:Keyed):Prop:=O.kle (key p) (key q)
theorem pw_of_seg {a:Array Keyed}(h:Seg key a 0 a.size):a.toList.Pairwise (le key):=by
 rw[d9];intro i j hi hj hij;have hi':i<a.size:=by simpa using hi
 have hj':j<a.size:=by simpa using hj
 have e1:=toList_el hi';rw[aq hi] at e1;have e2:=toList_el hj';rw[aq hj] at e2;rw[aG e1,aG e2];exact h i j (by omega) (by omega) hj'
theorem seg_of_pw {a:Array Keyed}(h:a.toList.Pairwise (le key)):Seg key a 0 a.size:=by
 rw[d9] at h;intro i j _ hij hj;by_cases e:i=j
 ·subst e;exact cJ _
 ·have hi':i<a.size:=by omega
  have hi:i<a.toList.length:=by simpa using hi'
  have hj2:j<a.toList.length:=by simpa using hj
  have e1:=toList_el hi';rw[aq hi] at e1;have e2:=toList_el hj;rw[aq hj2] at e2;have:=h i j hi hj2 (by omega);rw[aG e1,aG e2] at this;exact this
def Res {O:KeyOrd}(key:Keyed->O.α)(a b m:Array Keyed):Prop:=m.toList.Perm (a.toList++b.toList)/\m.toList.Pairwise (le key)
structure GLo {O:KeyOrd}(key:Keyed->O.α)(a b o:Array Keyed)(i j:Nat):Prop where
 hi:i<=a.size
 hj:j<=b.size
 sz:o.size=i+j
 pm:o.toList.Perm (a.toList.take i++b.toList.take j)
 so:o.toList.Pairwise (le key)
 la:∀ x∈o.toList,∀ k,i<=k->k<a.size->le key x (el a k)
 lb:∀ x∈o.toList,∀ k,j<=k->k<b.size->le key x (el b k)
variable {a b o:Array Keyed}{i j:Nat}
theorem GLo.pushB (g:GLo key a b o i j)(sb:Seg key b 0 b.size)(h:j<b.size)(hl:∀ k,i<=k->k<a.size->le key (el b j) (el a k)):GLo key a b (o.push (el b j)) i (j+1) where
 hi:=g.hi
 hj:=h
 sz:=by rw[gh,g.sz];omega
 pm:=by
  rw[bi,take_succ_el h,<- bB];exact g.pm.append_right _
 so:=by
  rw[bi,bY];refine⟨g.so,bT _ _,fun x hx y hy=>?_⟩;rw[ah.mp hy];exact g.lb x hx j (ao _) h
 la:=fun x hx k h1 h2=>by
  rw[bi,ak,ah] at hx;rcases hx with hx | rfl
  ·exact g.la x hx k h1 h2
  ·exact hl k h1 h2
 lb:=fun x hx k h1 h2=>by
  rw[bi,ak,ah] at hx;rcases hx with hx | rfl
  ·exact g.lb x hx k (by omega) h2
  ·exact sb j k (by omega) (by omega) h2
theorem GLo.pushA (g:GLo key a b o i j)(sa:Seg key a 0 a.size)(h:i<a.size)(hl:∀ k,j<=k->k<b.size->le key (el a i) (el b k)):GLo key a b (o.push (el a i)) (i+1) j where
 hi:=h
 hj:=g.hj
 sz:=by rw[gh,g.sz];omega
 pm:=by
  rw[bi,take_succ_el h];refine (g.pm.append_right _).trans ?_;rw[bB,bB];exact dy.append_left _
 so:=by
  rw[bi,bY];refine⟨g.so,bT _ _,fun x hx y hy=>?_⟩;rw[ah.mp hy];exact g.la x hx i (ao _) h
 la:=fun x hx k h1 h2=>by
  rw[bi,ak,ah] at hx;rcases hx with hx | rfl
  ·exact g.la x hx k (by omega) h2
  ·exact sa i k (by omega) (by omega) h2
 lb:=fun x hx k h1 h2=>by
  rw[bi,ak,ah] at hx;rcases hx with hx | rfl
  ·exact g.lb x hx k h1 h2
  ·exact hl k h1 h2
theorem app_nil (a o:Array Keyed)(i:Nat):o++a.extract i (i+0)=o:=by
 apply gO;simp
theorem app_succ {a o:Array Keyed}{i k:Nat}(h:i+k<a.size):o++a.extract i (i+(k+1))=(o++a.extract i (i+k)).push (el a (i+k)):=by
 apply gO;rw[bM,ext_mid h,bi,bM,bB]
theorem GLo.appA (g:GLo key a b o i j)(sa:Seg key a 0 a.size):∀ k,i+k<=a.size->(∀ m,i<=m->m<i+k->∀ n,j<=n->n<b.size->le key (el a m) (el b n))->GLo key a b (o++a.extract i (i+k)) (i+k) j
 | 0,_,_=>by rw[app_nil];exact g
 | k+1,h,hl=>by
  rw[app_succ (by omega)];exact (GLo.appA g sa k (by omega) fun m h1 h2=>hl m h1 (by omega)).pushA sa (by omega) fun n h1 h2=>hl (i+k) (by omega) (by omega) n h1 h2
theorem GLo.appB (g:GLo key a b o i j)(sb:Seg key b 0 b.size):∀ k,j+k<=b.size->(∀ m,j<=m->m<j+k->∀ n,i<=n->n<a.size->le key (el b m) (el a n))->GLo key a b (o++b.extract j (j+k)) i (j+k)
 | 0,_,_=>by rw[app_nil];exact g
 | k+1,h,hl=>by
  rw[app_succ (by omega)];exact (GLo.appB g sb k (by omega) fun m h1 h2=>hl m h1 (by omega)).pushB sb (by omega) fun n h1 h2=>hl (j+k) (by omega) (by omega) n h1 h2
theorem pw_drop {a:Array Keyed}(h:Seg key a 0 a.size)(i:Nat):(a.toList.drop i).Pairwise (le key):=(pw_of_seg h).sublist (j0 _ _)
theorem pw_take {a:Array Keyed}(h:Seg key a 0 a.size)(i:Nat):(a.toList.take i).Pairwise (le key):=(pw_of_seg h).sublist (gR _ _)
theorem perm4 {α:Type}(A B C D:List α):(A++B++(C++D)).Perm (A++C++(B++D)):=by
 rw[bB,bB];refine iQ A ?_;rw[<- bB,<- bB];exact dy.append_right D
theorem GLo.done (g:GLo key a b o i j)(sa:Seg key a 0 a.size)(sb:Seg key b 0 b.size)(h:i=a.size\/j=b.size):Res key a b (o++a.extract i a.size++b.extract j b.size):=by
 unfold Res;rw[bM,bM,ext_end,ext_end];refine⟨?_,?_⟩
 ·rw[bB];refine (g.pm.append_right _).trans ((perm4 _ _ _ _).trans ?_);rw[bS,bS]
 ·rw[bB,bY];refine⟨g.so,?_,fun x hx y hy=>?_⟩
  ·rcases h with h | h
   ·rw[h,dM (by simp)];exact pw_drop sb j
   ·rw[h,dM (l:=b.toList) (by simp),bU];exact pw_drop sa i
  ·rcases ak.mp hy with hy | hy
   ·obtain⟨k,h1,h2,rfl⟩:=mem_drop_el hy;exact g.la x hx k h1 h2
   ·obtain⟨k,h1,h2,rfl⟩:=mem_drop_el hy;exact g.lb x hx k h1 h2
theorem GLo.last (g:GLo key a b o i j)(sb:Seg key b 0 b.size)(h:i+1=a.size)(hl:∀ k,j<=k->k<b.size->le key (el b k) (el a i)):Res key a b (o++b.extract j b.size++a.extract i a.size):=by
 unfold Res;rw[bM,bM,ext_end,ext_end];have ed:a.toList.drop i=[el a i]:=by rw[drop_el (by omega),dM (by simp;omega)]
 refine⟨?_,?_⟩
 ·rw[bB];refine (g.pm.append_right _).trans ((dy.append_left _).trans ((perm4 _ _ _ _).trans ?_));rw[bS,bS]
 ·rw[bB,bY,ed];refine⟨g.so,?_,fun x hx y hy=>?_⟩
  ·rw[bY];refine⟨pw_drop sb j,bT _ _,fun x hx y hy=>?_⟩;obtain⟨k,h1,h2,rfl⟩:=mem_drop_el hx;rw[ah.mp hy];exact hl k h1 h2
  ·rcases ak.mp hy with hy | hy
   ·obtain⟨k,h1,h2,rfl⟩:=mem_drop_el hy;exact g.lb x hx k h1 h2
   ·rw[ah.mp hy];exact g.la x hx i (ao _) (by omega)
structure GHi {O:KeyOrd}(key:Keyed->O.α)(a b o:Array Keyed)(i j:Nat):Prop where
 hi:i<=a.size
 hj:j<=b.size
 sz:o.size+i+j=a.size+b.size
 pm:o.toList.Perm (a.toList.drop i++b.toList.drop j)
 so:o.toList.Pairwise fun p q=>le key q p
 la:∀ x∈o.toList,∀ k,k<i->le key (el a k) x
 lb:∀ x∈o.toList,∀ k,k<j->le key (el b k) x
theorem GHi.pushA (g:GHi key a b o (i+1) j)(sa:Seg key a 0 a.size)(hl:∀ k,k<j->le key (el b k) (el a i)):GHi key a b (o.push (el a i)) i j where
 hi:=by have:=g.hi;omega
 hj:=g.hj
 sz:=by rw[gh];have:=g.sz;omega
 pm:=by
  rw[bi,drop_el (show i<a.size by have:=g.hi;omega)];refine (dy).trans ?_;exact List.Perm.cons _ g.pm
 so:=by
  rw[bi,bY];refine⟨g.so,bT _ _,fun x hx y hy=>?_⟩;rw[ah.mp hy];exact g.la x hx i (by omega)
 la:=fun x hx k h1=>by
  rw[bi,ak,ah] at hx;rcases hx with hx | rfl
  ·exact g.la x hx k (by omega)
  ·exact sa k i (by omega) (by omega) (by have:=g.hi;omega)
 lb:=fun x hx k h1=>by
  rw[bi,ak,ah] at hx;rcases hx with hx | rfl
  ·exact g.lb x hx k h1
  ·exact hl k h1
theorem GHi.pushB (g:GHi key a b o i (j+1))(sb:Seg key b 0 b.size)(hl:∀ k,k<i->le key (el a k) (el b j)):GHi key a b (o.push (el b j)) i j where
 hi:=g.hi
 hj:=by have:=g.hj;omega
 sz:=by rw[gh];have:=g.sz;omega
 pm:=by
  rw[bi,drop_el (show j<b.size by have:=g.hj;omega)];refine (g.pm.append_right _).trans ?_;rw[bB];exact iQ _ dy
 so:=by
  rw[bi,bY];refine⟨g.so,bT _ _,fun x hx y hy=>?_⟩;rw[ah.mp hy];exact g.lb x hx j (by omega)
 la:=fun x hx k h1=>by
  rw[bi,ak,ah] at hx;rcases hx with hx | rfl
  ·exact g.la x hx k h1
  ·exact hl k h1
 lb:=fun x hx k h1=>by
  rw[bi,ak,ah] at hx;rcases hx with hx | rfl
  ·exact g.lb x hx k (by omega)
  ·exact sb k j (by omega) (by omega) (by have:=g.hj;omega)
theorem rev_nil (a o:Array Keyed)(p:Nat):o++(a.extract p p).reverse=o:=by
 apply gO;simp
theorem rev_succ {a o:Array Keyed}{p i:Nat}(h:p<i)(hi:i<=a.size):o++(a.extract p i).reverse=(o++(a.extract (p+1) i).reverse).push (el a p):=by
 apply gO;rw[bM,fm,ext_low h hi,bi,bM,fm,eY,bB]
theorem GHi.appA (g:GHi key a b o i j)(sa:Seg key a 0 a.size):∀ d p,p+d=i->(∀ m,p<=m->m<i->∀ k,k<j->le key (el b k) (el a m))->GHi key a b (o++(a.extract p i).reverse) p j
 | 0,p,h,_=>by
  have:p=i:=by omega
  subst this;rw[rev_nil];exact g
 | d+1,p,h,hl=>by
  rw[rev_succ (by omega) g.hi];exact (GHi.appA g sa d (p+1) (by omega) fun m h1 h2=>hl m (by omega) h2).pushA sa fun k hk=>hl p (by omega) (by omega) k hk
theorem GHi.appB (g:GHi key a b o i j)(sb:Seg key b 0 b.size):∀ d p,p+d=j->(∀ m,p<=m->m<j->∀ k,k<i->le key (el a k) (el b m))->GHi key a b (o++(b.extract p j).reverse) i p
 | 0,p,h,_=>by
  have:p=j:=by omega
  subst this;rw[rev_nil];exact g
 | d+1,p,h,hl=>by
  rw[rev_succ (by omega) g.hj];exact (GHi.appB g sb d (p+1) (by omega) fun m h1 h2=>hl m (by omega) h2).pushB sb fun k hk=>hl p (by omega) (by omega) k hk
theorem GHi.done (g:GHi key a b o i j)(sa:Seg key a 0 a.size)(sb:Seg key b 0 b.size)(h:i=0\/j=0):Res key a b (a.extract 0 i++b.extract 0 j++o.reverse):=by
 unfold Res;rw[bM,bM,ext_top,ext_top,fm];refine⟨?_,?_⟩
 ·refine (((jW _).trans g.pm).append_left _).trans ((perm4 _ _ _ _).trans ?_);rw[bS,bS]
 ·rw[bY];refine⟨?_,jo.mpr g.so,fun x hx y hy=>?_⟩
  ·rcases h with h | h
   ·rw[h,dL,cR];exact pw_take sb j
   ·rw[h,dL,bU];exact pw_take sa i
  ·rw[List.mem_reverse] at hy;rcases ak.mp hx with hx | hx
   ·obtain⟨k,h1,h2,rfl⟩:=mem_take_el hx;exact g.la y hy k h1
   ·obtain⟨k,h1,h2,rfl⟩:=mem_take_el hx;exact g.lb y hy k h1
theorem GHi.first (g:GHi key a b o i j)(sa:Seg key a 0 a.size)(h:j=1)(hl:∀ k,k<i->le key (el b 0) (el a k)):Res key a b (b.extract 0 j++a.extract 0 i++o.reverse):=by
 subst h;unfold Res;rw[bM,bM,ext_top,ext_top,fm];refine⟨?_,?_⟩
 ·refine (((jW _).trans g.pm).append_left _).trans ((dy.append_right _).trans ((perm4 _ _ _ _).trans ?_));rw[bS,bS]
 ·rw[bY];refine⟨?_,jo.mpr g.so,fun x hx y hy=>?_⟩
  ·rw[bY];refine⟨?_,pw_take sa i,fun x hx y hy=>?_⟩
   ·rw[take_succ_el g.hj,dL];exact bT _ _
   ·obtain⟨k,h1,h2,rfl⟩:=mem_take_el hx;obtain⟨k',h1',h2',rfl⟩:=mem_take_el hy;have:k=0:=by omega
    subst this;exact hl k' h1'
  ·rw[List.mem_reverse] at hy;rcases ak.mp hx with hx | hx
   ·obtain⟨k,h1,h2,rfl⟩:=mem_take_el hx;exact g.lb y hy k h1
   ·obtain⟨k,h1,h2,rfl⟩:=mem_take_el hx;exact g.la y hy k h1
end
end Ts
namespace Ts
open PySem PyProof.Rows
set_option autoImplicit false
def Sg (st st':SortSt):Prop:=∃ g,st'=ft (kindOf st) (arrOf st) (pendingOf st) g (failedOf st)
theorem Sg.refl (st:SortSt):Sg st st:=⟨gallopOf st,rfl⟩
theorem Sg.kind {st st':SortSt}(h:Sg st st'):kindOf st'=kindOf st:=by obtain⟨g,rfl⟩:=h;rfl
theorem Sg.set {st st':SortSt}(h:Sg st st')(g:Nat):Sg st (ft (kindOf st') (arrOf st') (pendingOf st') g (failedOf st')):=by obtain⟨g',rfl⟩:=h;exact⟨g,rfl⟩
section
variable {M:Model}{A:Around}{E:Value->Shared->Prop}{s:Shared}{a₀:Array Keyed}{knd:SortKind}{O:KeyOrd}{key:Keyed->O.α}
theorem wpS_setGal {g:Nat}{st:SortSt}{Q:Unit->SortSt->Prop}(h:Q () (ft (kindOf st) (arrOf st) (pendingOf st) g (failedOf st))):wpS M A E s (setGal g) Q st:=eU h
theorem wpS_mLo {a b:Array Keyed}{st:SortSt}{Q:Array Keyed->SortSt->Prop}(C:Cmp M A E s knd O key a₀)(hk:kindOf st=knd)
  (ma:∀ k,k<a.size->el a k∈a₀.toList) (mb:∀ k,k<b.size->el b k∈a₀.toList) (sa:Seg key a 0 a.size) (sb:Seg key b 0 b.size) (ha:1<=a.size) (hb:1<=b.size)
  (h0:∀ k,k<a.size->le key (el b 0) (el a k)) (hl:∀ k,k<b.size->le key (el b k) (el a (a.size-1)))
  (h:∀ m st',Res key a b m->Sg st st'->Q m st'):wpS M A E s (mLo a b) Q st:=by
 rw[mLo_eq];refine au (wpS_rule ?_);refine au (wpS_elem hb ?_);dsimp only;have G0:GLo key a b #[el b 0] 0 1 :=
  ⟨by omega,hb,rfl,by rw[take_succ_el hb];simp,bT _ _,fun x hx k _ h2=>by rw[ah.mp hx];exact h0 k h2,fun x hx k h1 h2=>by rw[ah.mp hx];exact sb 0 k (by omega) (by omega) h2⟩
 by_cases c1:1=b.size
 ·rw[if_pos (by simpa using c1)];exact ap (h _ _ (G0.done sa sb (.inr c1)) (Sg.refl _))
 rw[if_neg (by simpa using c1)];by_cases c2:0+1=a.size
 ·rw[if_pos (by simpa using c2)];exact ap (h _ _ (G0.last sb c2 fun k _ h2=>by rw[show (0:Nat)=a.size-1 by omega];exact hl k h2) (Sg.refl _))
 rw[if_neg (by simpa using c2)];refine au (fX ?_)
 refine au (dO (ci (I:=fun x c st'=>Sg st st'/\∃ o i j mg,c=(none,o,i,j,mg)/\GLo key a b o i j/\i+1<a.size/\j<b.size/\x<o.size)
  (Q:=fun c st'=>Sg st st'/\∃ m,c.fst=some m/\Res key a b m) ?step ?fin ⟨Sg.refl _,_,_,_,_,rfl,G0,by omega,by omega,by simp⟩) ?post)
 case fin =>
  rintro c st' ⟨_,o,i,j,mg,rfl,G,h1,h2,h3⟩;have:=G.sz;omega
 case post =>
  rintro⟨r,c⟩ st' ⟨hg,m,e,hr⟩;cases e;exact ap (h m st' hr hg)
 case step =>
  rintro x c st1 _ hx ⟨hg,o,i,j,mg,rfl,G,h1,h2,h3⟩;dsimp only
  refine au (dO (ci (I:=fun y c st'=>st'=st1/\∃ o i j ac bc,c=(none,o,i,j,ac,bc)/\GLo key a b o i j/\i+1<a.size/\j<b.size/\x<o.size/\(0<y->x+1<o.size))
   (Q:=fun c st'=>st'=st1/\((∃ m,c.fst=some m/\Res key a b m)\/∃ o i j ac bc,c=(none,o,i,j,ac,bc)/\GLo key a b o i j/\i+1<a.size/\j<b.size/\x+1<o.size)) ?s1 ?f1 ⟨rfl,_,_,_,_,_,rfl,G,h1,h2,h3,by omega⟩) ?p1)
  case f1 =>
   rintro c st' ⟨rfl,o,i,j,ac,bc,rfl,G,h1,h2,h3,h4⟩;exact⟨rfl,.inr ⟨o,i,j,ac,bc,rfl,G,h1,h2,h4 (by omega)⟩⟩
  case s1 =>
   rintro y c st' _ hy ⟨rfl,o,i,j,ac,bc,rfl,G,h1,h2,h3,h4⟩;dsimp only;refine au (wpS_elem (by omega) ?_);refine au (wpS_elem (by omega) ?_);refine au (C _ (mb _ (by omega)) _ (ma _ (by omega)) _ _ (hg.kind.trans hk) ?_);cases hw:O.blt (key (el b j)) (key (el a i)) with
   | true =>
    simp only[if_true];refine au (wpS_elem (by omega) ?_);have G1:=G.pushB sb h2 fun k a1 a2=>aV (aS hw) (sa i k (by omega) a1 a2)
    have hz:=G.sz;have hz1:=G1.sz;by_cases e1:j+1=b.size
    ·rw[if_pos (by simpa using e1)];exact ap ⟨rfl,.inl ⟨_,rfl,G1.done sa sb (.inr e1)⟩⟩
    ·rw[if_neg (by simpa using e1)];split
     ·exact ap ⟨rfl,.inr ⟨_,_,_,_,_,rfl,G1,by omega,by omega,by omega⟩⟩
     ·exact ap ⟨rfl,_,_,_,_,_,rfl,G1,by omega,by omega,by omega,fun _=>by omega⟩
   | false =>
    simp only[aU,if_false];refine au (wpS_elem (by omega) ?_);have hw':O.kle (key (el a i)) (key (el b j)):=hw;have G1:=G.pushA sa (by omega) fun k a1 a2=>aV hw' (sb j k (by omega) a1 a2)
    have hz:=G.sz;have hz1:=G1.sz;by_cases e1:i+1+1=a.size
    ·rw[if_pos (by simpa using e1)];exact ap ⟨rfl,.inl ⟨_,rfl,G1.last sb e1 fun k a1 a2=>by rw[show i+1=a.size-1 by omega];exact hl k a2⟩⟩
    ·rw[if_neg (by simpa using e1)];split
     ·exact ap ⟨rfl,.inr ⟨_,_,_,_,_,rfl,G1,by omega,by omega,by omega⟩⟩
     ·exact ap ⟨rfl,_,_,_,_,_,rfl,G1,by omega,by omega,by omega,fun _=>by omega⟩
  case p1 =>
   rintro⟨r,c⟩ st' ⟨rfl,⟨m,e,hr⟩ | ⟨o,i,j,ac,bc,e,G,h1,h2,h3⟩⟩
   ·cases e;exact ap ⟨hg,m,rfl,hr⟩
   ·cases e;dsimp only;refine au (wpS_rule ?_)
    refine au (dO (ci (I:=fun y c st'=>Sg st st'/\∃ o i j mg ac bc,c=(none,o,i,j,mg,ac,bc)/\GLo key a b o i j/\i+1<a.size/\j<b.size/\x+1<o.size)
     (Q:=fun c st'=>Sg st st'/\((∃ m,c.fst=some m/\Res key a b m)\/∃ o i j mg ac bc,c=(none,o,i,j,mg,ac,bc)/\GLo key a b o i j/\i+1<a.size/\j<b.size/\x+1<o.size)) ?s2 ?f2 ⟨hg,_,_,_,_,_,_,rfl,G,h1,h2,h3⟩) ?p2)
    case f2 =>
     rintro c st' ⟨hg,o,i,j,mg,ac,bc,rfl,G,h1,h2,h3⟩;exact⟨hg,.inr ⟨o,i,j,mg,ac,bc,rfl,G,h1,h2,h3⟩⟩
    case p2 =>
     rintro⟨r,c⟩ st' ⟨hg,⟨m,e,hr⟩ | ⟨o,i,j,mg,ac,bc,e,G,h1,h2,h3⟩⟩
     ·cases e;exact ap ⟨hg,m,rfl,hr⟩
     ·cases e;dsimp only;refine au (wpS_setGal ?_);exact ap ⟨hg.set _,o,i,j,_,rfl,G,h1,h2,h3⟩
    case s2 =>
     rintro y c st' _ hy ⟨hg,o,i,j,mg,ac,bc,rfl,G,h1,h2,h3⟩;dsimp only;have hz0:=G.sz;by_cases hmg:mg>1
     ·rw[if_pos hmg];refine au (wpS_setGal ?_);refine au (wpS_elem (by omega) ?_);refine au (wpS_galR C (by exact hg.kind.trans hk) (mb _ (by omega)) (fun m hm=>ma _ (by omega)) (by omega) (sa.sub (by omega) (by omega)) (by omega) fun k hkk hle hgt0=>?_);dsimp only;have hgt:∀ m,i+k<=m->m<a.size->O.klt (KA key b j) (KA key a m):=fun m h1 h2=>hgt0 m h1 (by omega)
      by_cases hk0:k>0
      ·rw[if_pos hk0];have G1:=G.appA sa k (by omega) fun m h1 h2 n h3 h4=>aV (hle m h1 h2) (sb _ n (by omega) h3 h4)
       by_cases e1:i+k+1=a.size
       ·rw[if_pos (by simpa using e1)];exact ap ⟨hg.set _,.inl ⟨_,rfl,G1.last sb e1 fun m h1 h2=>by rw[show i+k=a.size-1 by omega];exact hl m h2⟩⟩
       ·rw[if_neg (by simpa using e1)];by_cases e2:i+k=a.size
        ·rw[if_pos (by simpa using e2)];exact ap ⟨hg.set _,.inl ⟨_,rfl,G1.done sa sb (.inl e2)⟩⟩
        ·rw[if_neg (by simpa using e2)];refine au (wpS_elem (by omega) ?_);have G2:=G1.pushB sb (by omega) fun m h1 h2=>aS (hgt m h1 h2)
         have hz1:=G1.sz;have hz2:=G2.sz;by_cases e3:j+1=b.size
         ·rw[if_pos (by simpa using e3)];exact ap ⟨hg.set _,.inl ⟨_,rfl,G2.done sa sb (.inr e3)⟩⟩
         ·rw[if_neg (by simpa using e3)];refine au (wpS_elem (by omega) ?_);refine au (wpS_galL C (by exact hg.kind.trans hk) (ma _ (by omega)) (fun m hm=>mb _ (by omega)) (by omega) (sb.sub (by omega) (by omega)) (by omega) fun k2 hk2 hlt hge0=>?_);dsimp only;have hge:∀ m,j+1+k2<=m->m<b.size->O.kle (KA key a (i+k)) (KA key b m):=fun m h1 h2=>hge0 m h1 (by omega)
          by_cases hk20:k2>0
          ·rw[if_pos hk20];have G3:=G2.appB sb k2 (by omega) fun m h1 h2 n h3 h4=>aV (aS (hlt m h1 h2)) (sa _ n (by omega) h3 h4)
           by_cases e5:j+1+k2=b.size
           ·rw[if_pos (by simpa using e5)];exact ap ⟨hg.set _,.inl ⟨_,rfl,G3.done sa sb (.inr e5)⟩⟩
           ·rw[if_neg (by simpa using e5)];refine au (wpS_elem (by omega) ?_);have G4:=G3.pushA sa (by omega) fun k h1 h2=>hge k h1 h2
            by_cases e4:(i+k)+1+1=a.size
            ·rw[if_pos (by simpa using e4)];exact ap ⟨hg.set _,.inl ⟨_,rfl,G4.last sb e4 fun n h1 h2=>by rw[show (i+k)+1=a.size-1 by omega];exact hl n h2⟩⟩
            ·rw[if_neg (by simpa using e4)];have hz4:=G4.sz;have hz3:=G3.sz;split
             ·exact ap ⟨hg.set _,.inr ⟨_,_,_,_,_,_,rfl,G4,by omega,by omega,by omega⟩⟩
             ·exact ap ⟨hg.set _,_,_,_,_,_,_,rfl,G4,by omega,by omega,by omega⟩
          ·rw[if_neg hk20];have hk2z:k2=0:=by omega
           subst hk2z;have G3:=G2;refine au (wpS_elem (by omega) ?_);have G4:=G3.pushA sa (by omega) fun k h1 h2=>hge k h1 h2
           by_cases e4:(i+k)+1+1=a.size
           ·rw[if_pos (by simpa using e4)];exact ap ⟨hg.set _,.inl ⟨_,rfl,G4.last sb e4 fun n h1 h2=>by rw[show (i+k)+1=a.size-1 by omega];exact hl n h2⟩⟩
           ·rw[if_neg (by simpa using e4)];have hz4:=G4.sz;have hz3:=G3.sz;split
            ·exact ap ⟨hg.set _,.inr ⟨_,_,_,_,_,_,rfl,G4,by omega,by omega,by omega⟩⟩
            ·exact ap ⟨hg.set _,_,_,_,_,_,_,rfl,G4,by omega,by omega,by omega⟩
      ·rw[if_neg hk0];have hkz:k=0:=by omega
       subst hkz;have G1:=G;refine au (wpS_elem (by omega) ?_);have G2:=G1.pushB sb (by omega) fun m h1 h2=>aS (hgt m h1 h2)
       have hz1:=G1.sz;have hz2:=G2.sz;by_cases e3:j+1=b.size
       ·rw[if_pos (by simpa using e3)];exact ap ⟨hg.set _,.inl ⟨_,rfl,G2.done sa sb (.inr e3)⟩⟩
       ·rw[if_neg (by simpa using e3)];refine au (wpS_elem (by omega) ?_);refine au (wpS_galL C (by exact hg.kind.trans hk) (ma _ (by omega)) (fun m hm=>mb _ (by omega)) (by omega) (sb.sub (by omega) (by omega)) (by omega) fun k2 hk2 hlt hge0=>?_);dsimp only;have hge:∀ m,j+1+k2<=m->m<b.size->O.kle (KA key a (i)) (KA key b m):=fun m h1 h2=>hge0 m h1 (by omega)
        by_cases hk20:k2>0
        ·rw[if_pos hk20];have G3:=G2.appB sb k2 (by omega) fun m h1 h2 n h3 h4=>aV (aS (hlt m h1 h2)) (sa _ n (by omega) h3 h4)
         by_cases e5:j+1+k2=b.size
         ·rw[if_pos (by simpa using e5)];exact ap ⟨hg.set _,.inl ⟨_,rfl,G3.done sa sb (.inr e5)⟩⟩
         ·rw[if_neg (by simpa using e5)];refine au (wpS_elem (by omega) ?_);have G4:=G3.pushA sa (by omega) fun k h1 h2=>hge k h1 h2
          by_cases e4:(i)+1+1=a.size
          ·rw[if_pos (by simpa using e4)];exact ap ⟨hg.set _,.inl ⟨_,rfl,G4.last sb e4 fun n h1 h2=>by rw[show (i)+1=a.size-1 by omega];exact hl n h2⟩⟩
          ·rw[if_neg (by simpa using e4)];have hz4:=G4.sz;have hz3:=G3.sz;split
           ·exact ap ⟨hg.set _,.inr ⟨_,_,_,_,_,_,rfl,G4,by omega,by omega,by omega⟩⟩
           ·exact ap ⟨hg.set _,_,_,_,_,_,_,rfl,G4,by omega,by omega,by omega⟩
        ·rw[if_neg hk20];have hk2z:k2=0:=by omega
         subst hk2z;have G3:=G2;refine au (wpS_elem (by omega) ?_);have G4:=G3.pushA sa (by omega) fun k h1 h2=>hge k h1 h2
         by_cases e4:(i)+1+1=a.size
         ·rw[if_pos (by simpa using e4)];exact ap ⟨hg.set _,.inl ⟨_,rfl,G4.last sb e4 fun n h1 h2=>by rw[show (i)+1=a.size-1 by omega];exact hl n h2⟩⟩
         ·rw[if_neg (by simpa using e4)];have hz4:=G4.sz;have hz3:=G3.sz;split
          ·exact ap ⟨hg.set _,.inr ⟨_,_,_,_,_,_,rfl,G4,by omega,by omega,by omega⟩⟩
          ·exact ap ⟨hg.set _,_,_,_,_,_,_,rfl,G4,by omega,by omega,by omega⟩
     ·rw[if_neg hmg];refine au (wpS_setGal ?_);refine au (wpS_elem (by omega) ?_);refine au (wpS_galR C (by exact hg.kind.trans hk) (mb _ (by omega)) (fun m hm=>ma _ (by omega)) (by omega) (sa.sub (by omega) (by omega)) (by omega) fun k hkk hle hgt0=>?_);dsimp only;have hgt:∀ m,i+k<=m->m<a.size->O.klt (KA key b j) (KA key a m):=fun m h1 h2=>hgt0 m h1 (by omega)
      by_cases hk0:k>0
      ·rw[if_pos hk0];have G1:=G.appA sa k (by omega) fun m h1 h2 n h3 h4=>aV (hle m h1 h2) (sb _ n (by omega) h3 h4)
       by_cases e1:i+k+1=a.size
       ·rw[if_pos (by simpa using e1)];exact ap ⟨hg.set _,.inl ⟨_,rfl,G1.last sb e1 fun m h1 h2=>by rw[show i+k=a.size-1 by omega];exact hl m h2⟩⟩
       ·rw[if_neg (by simpa using e1)];by_cases e2:i+k=a.size
        ·rw[if_pos (by simpa using e2)];exact ap ⟨hg.set _,.inl ⟨_,rfl,G1.done sa sb (.inl e2)⟩⟩
        ·rw[if_neg (by simpa using e2)];refine au (wpS_elem (by omega) ?_);have G2:=G1.pushB sb (by omega) fun m h1 h2=>aS (hgt m h1 h2)
         have hz1:=G1.sz;have hz2:=G2.sz;by_cases e3:j+1=b.size
         ·rw[if_pos (by simpa using e3)];exact ap ⟨hg.set _,.inl ⟨_,rfl,G2.done sa sb (.inr e3)⟩⟩
         ·rw[if_neg (by simpa using e3)];refine au (wpS_elem (by omega) ?_);refine au (wpS_galL C (by exact hg.kind.trans hk) (ma _ (by omega)) (fun m hm=>mb _ (by omega)) (by omega) (sb.sub (by omega) (by omega)) (by omega) fun k2 hk2 hlt hge0=>?_);dsimp only;have hge:∀ m,j+1+k2<=m->m<b.size->O.kle (KA key a (i+k)) (KA key b m):=fun m h1 h2=>hge0 m h1 (by omega)
          by_cases hk20:k2>0
          ·rw[if_pos hk20];have G3:=G2.appB sb k2 (by omega) fun m h1 h2 n h3 h4=>aV (aS (hlt m h1 h2)) (sa _ n (by omega) h3 h4)
           by_cases e5:j+1+k2=b.size
           ·rw[if_pos (by simpa using e5)];exact ap ⟨hg.set _,.inl ⟨_,rfl,G3.done sa sb (.inr e5)⟩⟩
           ·rw[if_neg (by simpa using e5)];refine au (wpS_elem (by omega) ?_);have G4:=G3.pushA sa (by omega) fun k h1 h2=>hge k h1 h2
            by_cases e4:(i+k)+1+1=a.size
            ·rw[if_pos (by simpa using e4)];exact ap ⟨hg.set _,.inl ⟨_,rfl,G4.last sb e4 fun n h1 h2=>by rw[show (i+k)+1=a.size-1 by omega];exact hl n h2⟩⟩
            ·rw[if_neg (by simpa using e4)];have hz4:=G4.sz;have hz3:=G3.sz;split
             ·exact ap ⟨hg.set _,.inr ⟨_,_,_,_,_,_,rfl,G4,by omega,by omega,by omega⟩⟩
             ·exact ap ⟨hg.set _,_,_,_,_,_,_,rfl,G4,by omega,by omega,by omega⟩
          ·rw[if_neg hk20];have hk2z:k2=0:=by omega
           subst hk2z;have G3:=G2;refine au (wpS_elem (by omega) ?_);have G4:=G3.pushA sa (by omega) fun k h1 h2=>hge k h1 h2
           by_cases e4:(i+k)+1+1=a.size
           ·rw[if_pos (by simpa using e4)];exact ap ⟨hg.set _,.inl ⟨_,rfl,G4.last sb e4 fun n h1 h2=>by rw[show (i+k)+1=a.size-1 by omega];exact hl n h2⟩⟩
           ·rw[if_neg (by simpa using e4)];have hz4:=G4.sz;have hz3:=G3.sz;split
            ·exact ap ⟨hg.set _,.inr ⟨_,_,_,_,_,_,rfl,G4,by omega,by omega,by omega⟩⟩
            ·exact ap ⟨hg.set _,_,_,_,_,_,_,rfl,G4,by omega,by omega,by omega⟩
      ·rw[if_neg hk0];have hkz:k=0:=by omega
       subst hkz;have G1:=G;refine au (wpS_elem (by omega) ?_);have G2:=G1.pushB sb (by omega) fun m h1 h2=>aS (hgt m h1 h2)
       have hz1:=G1.sz;have hz2:=G2.sz;by_cases e3:j+1=b.size
       ·rw[if_pos (by simpa using e3)];exact ap ⟨hg.set _,.inl ⟨_,rfl,G2.done sa sb (.inr e3)⟩⟩
       ·rw[if_neg (by simpa using e3)];refine au (wpS_elem (by omega) ?_);refine au (wpS_galL C (by exact hg.kind.trans hk) (ma _ (by omega)) (fun m hm=>mb _ (by omega)) (by omega) (sb.sub (by omega) (by omega)) (by omega) fun k2 hk2 hlt hge0=>?_);dsimp only;have hge:∀ m,j+1+k2<=m->m<b.size->O.kle (KA key a (i)) (KA key b m):=fun m h1 h2=>hge0 m h1 (by omega)
        by_cases hk20:k2>0
        ·rw[if_pos hk20];have G3:=G2.appB sb k2 (by omega) fun m h1 h2 n h3 h4=>aV (aS (hlt m h1 h2)) (sa _ n (by omega) h3 h4)
         by_cases e5:j+1+k2=b.size
         ·rw[if_pos (by simpa using e5)];exact ap ⟨hg.set _,.inl ⟨_,rfl,G3.done sa sb (.inr e5)⟩⟩
         ·rw[if_neg (by simpa using e5)];refine au (wpS_elem (by omega) ?_);have G4:=G3.pushA sa (by omega) fun k h1 h2=>hge k h1 h2
          by_cases e4:(i)+1+1=a.size
          ·rw[if_pos (by simpa using e4)];exact ap ⟨hg.set _,.inl ⟨_,rfl,G4.last sb e4 fun n h1 h2=>by rw[show (i)+1=a.size-1 by omega];exact hl n h2⟩⟩
          ·rw[if_neg (by simpa using e4)];have hz4:=G4.sz;have hz3:=G3.sz;split
           ·exact ap ⟨hg.set _,.inr ⟨_,_,_,_,_,_,rfl,G4,by omega,by omega,by omega⟩⟩
           ·exact ap ⟨hg.set _,_,_,_,_,_,_,rfl,G4,by omega,by omega,by omega⟩
        ·rw[if_neg hk20];have hk2z:k2=0:=by omega
         subst hk2z;have G3:=G2;refine au (wpS_elem (by omega) ?_);have G4:=G3.pushA sa (by omega) fun k h1 h2=>hge k h1 h2
         by_cases e4:(i)+1+1=a.size
         ·rw[if_pos (by simpa using e4)];exact ap ⟨hg.set _,.inl ⟨_,rfl,G4.last sb e4 fun n h1 h2=>by rw[show (i)+1=a.size-1 by omega];exact hl n h2⟩⟩
         ·rw[if_neg (by simpa using e4)];have hz4:=G4.sz;have hz3:=G3.sz;split
          ·exact ap ⟨hg.set _,.inr ⟨_,_,_,_,_,_,rfl,G4,by omega,by omega,by omega⟩⟩
          ·exact ap ⟨hg.set _,_,_,_,_,_,_,rfl,G4,by omega,by omega,by omega⟩
end
end Ts
namespace Ts
open PySem PyProof.Rows
set_option autoImplicit false
section
variable {M:Model}{A:Around}{E:Value->Shared->Prop}{s:Shared}{a₀:Array Keyed}{knd:SortKind}{O:KeyOrd}{key:Keyed->O.α}
theorem GHi.pushA' {a b o:Array Keyed}{i j:Nat}(g:GHi key a b o i j)(h:1<=i)(sa:Seg key a 0 a.size)(hl:∀ k,k<j->le key (el b k) (el a (i-1))):GHi key a b (o.push (el a (i-1))) (i-1) j:=by
 cases i with
 | zero=>omega
 | succ i=>exact GHi.pushA g sa hl
theorem GHi.pushB' {a b o:Array Keyed}{i j:Nat}(g:GHi key a b o i j)(h:1<=j)(sb:Seg key b 0 b.size)(hl:∀ k,k<i->le key (el a k) (el b (j-1))):GHi key a b (o.push (el b (j-1))) i (j-1):=by
 cases j with
 | zero=>omega
 | succ j=>exact GHi.pushB g sb hl
theorem wpS_mHi {a b:Array Keyed}{st:SortSt}{Q:Array Keyed->SortSt->Prop}(C:Cmp M A E s knd O key a₀)(hk:kindOf st=knd)
  (ma:∀ k,k<a.size->el a k∈a₀.toList) (mb:∀ k,k<b.size->el b k∈a₀.toList) (sa:Seg key a 0 a.size) (sb:Seg key b 0 b.size) (ha:1<=a.size) (hb:1<=b.size)
  (h0:∀ k,k<a.size->le key (el b 0) (el a k)) (hl:∀ k,k<b.size->le key (el b k) (el a (a.size-1)))
  (h:∀ m st',Res key a b m->Sg st st'->Q m st'):wpS M A E s (mHi a b) Q st:=by
 rw[mHi_eq];refine au (wpS_rule ?_);refine au (wpS_elem (by omega) ?_);dsimp only;have G0:GHi key a b #[el a (a.size-1)] (a.size-1) b.size :=
  ⟨by omega,by omega,by show 1+(a.size-1)+b.size=_;omega,by
   rw[drop_el (show a.size-1<a.size by omega),dM (show a.toList.length<=a.size-1+1 by simp;omega),dM (l:=b.toList) (by simp)];simp,
   bT _ _,fun x hx k h1=>by rw[ah.mp hx];exact sa k (a.size-1) (by omega) (by omega) (by omega),fun x hx k h1=>by rw[ah.mp hx];exact hl k h1⟩
 by_cases c1:a.size-1=0
 ·rw[if_pos (by simpa using c1)];exact ap (h _ _ (G0.done sa sb (.inl c1)) (Sg.refl _))
 rw[if_neg (by simpa using c1)];by_cases c2:b.size=1
 ·rw[if_pos (by simpa using c2)];exact ap (h _ _ (G0.first sa c2 fun k hk=>h0 k (by omega)) (Sg.refl _))
 rw[if_neg (by simpa using c2)];refine au (fX ?_)
 refine au (dO (ci (I:=fun x c st'=>Sg st st'/\∃ i j o mg,c=(none,i,j,o,mg)/\GHi key a b o i j/\1<=i/\2<=j/\x<o.size)
  (Q:=fun c st'=>Sg st st'/\∃ m,c.fst=some m/\Res key a b m) ?step ?fin ⟨Sg.refl _,_,_,_,_,rfl,G0,by omega,by omega,by simp⟩) ?post)
 case fin =>
  rintro c st' ⟨_,i,j,o,mg,rfl,G,h1,h2,h3⟩;have:=G.sz;omega
 case post =>
  rintro⟨r,c⟩ st' ⟨hg,m,e,hr⟩;cases e;exact ap (h m st' hr hg)
 case step =>
  rintro x c st1 _ hx ⟨hg,i,j,o,mg,rfl,G,h1,h2,h3⟩;dsimp only
  refine au (dO (ci (I:=fun y c st'=>st'=st1/\∃ i j o ac bc,c=(none,i,j,o,ac,bc)/\GHi key a b o i j/\1<=i/\2<=j/\x<o.size/\(0<y->x+1<o.size))
   (Q:=fun c st'=>st'=st1/\((∃ m,c.fst=some m/\Res key a b m)\/∃ i j o ac bc,c=(none,i,j,o,ac,bc)/\GHi key a b o i j/\1<=i/\2<=j/\x+1<o.size)) ?s1 ?f1 ⟨rfl,_,_,_,_,_,rfl,G,h1,h2,h3,by omega⟩) ?p1)
  case f1 =>
   rintro c st' ⟨rfl,i,j,o,ac,bc,rfl,G,h1,h2,h3,h4⟩;exact⟨rfl,.inr ⟨i,j,o,ac,bc,rfl,G,h1,h2,h4 (by omega)⟩⟩
  case s1 =>
   rintro y c st' _ hy ⟨rfl,i,j,o,ac,bc,rfl,G,h1,h2,h3,h4⟩;dsimp only;refine au (wpS_elem (by have:=G.hj;omega) ?_);refine au (wpS_elem (by have:=G.hi;omega) ?_);refine au (C _ (mb _ (by have:=G.hj;omega)) _ (ma _ (by have:=G.hi;omega)) _ _ (hg.kind.trans hk) ?_);cases hw:O.blt (key (el b (j-1))) (key (el a (i-1))) with
   | true =>
    simp only[if_true];refine au (wpS_elem (by have:=G.hi;omega) ?_);have G1:=G.pushA' h1 sa fun k a1=>aV (sb k (j-1) (by omega) (by omega) (by have:=G.hj;omega)) (aS hw)
    have hz:=G.sz;have hz1:=G1.sz;by_cases e1:i-1=0
    ·rw[if_pos (by simpa using e1)];exact ap ⟨rfl,.inl ⟨_,rfl,G1.done sa sb (.inl e1)⟩⟩
    ·rw[if_neg (by simpa using e1)];split
     ·exact ap ⟨rfl,.inr ⟨_,_,_,_,_,rfl,G1,by omega,by omega,by omega⟩⟩
     ·exact ap ⟨rfl,_,_,_,_,_,rfl,G1,by omega,by omega,by omega,fun _=>by omega⟩
   | false =>
    simp only[aU,if_false];refine au (wpS_elem (by have:=G.hj;omega) ?_);have hw':O.kle (key (el a (i-1))) (key (el b (j-1))):=hw;have G1:=G.pushB' (by omega) sb fun k a1=>aV (sa k (i-1) (by omega) (by omega) (by have:=G.hi;omega)) hw'
    have hz:=G.sz;have hz1:=G1.sz;by_cases e1:j-1=1
    ·rw[if_pos (by simpa using e1)];exact ap ⟨rfl,.inl ⟨_,rfl,G1.first sa e1 fun k a1=>h0 k (by have:=G1.hi;omega)⟩⟩
    ·rw[if_neg (by simpa using e1)];split
     ·exact ap ⟨rfl,.inr ⟨_,_,_,_,_,rfl,G1,by omega,by omega,by omega⟩⟩
     ·exact ap ⟨rfl,_,_,_,_,_,rfl,G1,by omega,by omega,by omega,fun _=>by omega⟩
  case p1 =>
   rintro⟨r,c⟩ st' ⟨rfl,⟨m,e,hr⟩ | ⟨i,j,o,ac,bc,e,G,h1,h2,h3⟩⟩
   ·cases e;exact ap ⟨hg,m,rfl,hr⟩
   ·cases e;dsimp only;refine au (wpS_rule ?_)
    refine au (dO (ci (I:=fun y c st'=>Sg st st'/\∃ i j o mg ac bc,c=(none,i,j,o,mg,ac,bc)/\GHi key a b o i j/\1<=i/\2<=j/\x+1<o.size)
     (Q:=fun c st'=>Sg st st'/\((∃ m,c.fst=some m/\Res key a b m)\/∃ i j o mg ac bc,c=(none,i,j,o,mg,ac,bc)/\GHi key a b o i j/\1<=i/\2<=j/\x+1<o.size)) ?s2 ?f2 ⟨hg,_,_,_,_,_,_,rfl,G,h1,h2,h3⟩) ?p2)
    case f2 =>
     rintro c st' ⟨hg,i,j,o,mg,ac,bc,rfl,G,h1,h2,h3⟩;exact⟨hg,.inr ⟨i,j,o,mg,ac,bc,rfl,G,h1,h2,h3⟩⟩
    case p2 =>
     rintro⟨r,c⟩ st' ⟨hg,⟨m,e,hr⟩ | ⟨i,j,o,mg,ac,bc,e,G,h1,h2,h3⟩⟩
     ·cases e;exact ap ⟨hg,m,rfl,hr⟩
     ·cases e;dsimp only;refine au (wpS_setGal ?_);exact ap ⟨hg.set _,i,j,o,_,rfl,G,h1,h2,h3⟩
    case s2 =>
     rintro y c st' _ hy ⟨hg,i,j,o,mg,ac,bc,rfl,G,h1,h2,h3⟩;dsimp only;have hz0:=G.sz;by_cases hmg:mg>1
     ·rw[if_pos hmg];refine au (wpS_setGal ?_);refine au (wpS_elem (by have:=G.hj;omega) ?_);refine au (wpS_galR C (by exact hg.kind.trans hk) (mb _ (by have:=G.hj;omega)) (fun m hm=>by rw[cZ];exact ma _ (by have:=G.hi;omega)) (by have:=G.hi;omega) (sa.sub (by omega) (by have:=G.hi;omega)) (by omega) fun p hp hle0 hgt0=>?_);dsimp only;have hle:∀ m,m<p->O.kle (KA key a m) (KA key b (j-1)):=fun m h1=>hle0 m (by omega) (by omega)
      have hgt:∀ m,p<=m->m<i->O.klt (KA key b (j-1)) (KA key a m):=fun m h1 h2=>hgt0 m (by omega) (by omega)
      by_cases hk0:i-p>0
      ·rw[if_pos hk0];have G1:=G.appA sa (i-p) p (by omega) fun m h1 h2 n h3=>aV (sb n (j-1) (by omega) (by omega) (by have:=G.hj;omega)) (aS (hgt m h1 h2))
       by_cases e1:p=0
       ·rw[if_pos (by simpa using e1)];exact ap ⟨hg.set _,.inl ⟨_,rfl,G1.done sa sb (.inl e1)⟩⟩
       ·rw[if_neg (by simpa using e1)];have hlo:∀ n,n<p->le key (el a n) (el b (j-1)):=hle;refine au (wpS_elem (by have:=G1.hj;omega) ?_);have hz1:=G1.sz;have G2:=G1.pushB' (by omega) sb hlo;have hz2:=G2.sz;by_cases e3:j-1=1
        ·rw[if_pos (by simpa using e3)];exact ap ⟨hg.set _,.inl ⟨_,rfl,G2.first sa e3 fun m hm=>h0 m (by have:=G2.hi;omega)⟩⟩
        ·rw[if_neg (by simpa using e3)];refine au (wpS_elem (by have:=G2.hi;omega) ?_);refine au (wpS_galL C (by exact hg.kind.trans hk) (ma _ (by have:=G2.hi;omega)) (fun m hm=>by rw[cZ];exact mb _ (by have:=G2.hj;omega)) (by have:=G2.hj;omega) (sb.sub (by omega) (by have:=G2.hj;omega)) (by omega) fun p2 hp2 hlt0 hge0=>?_);dsimp only;have hlt:∀ m,m<p2->O.klt (KA key b m) (KA key a (p-1)):=fun m h1=>hlt0 m (by omega) (by omega)
         have hge:∀ m,p2<=m->m<j-1->O.kle (KA key a (p-1)) (KA key b m):=fun m h1 h2=>hge0 m (by omega) (by omega)
         by_cases hk20:j-1-p2>0
         ·rw[if_pos hk20];have G3:=G2.appB sb (j-1-p2) p2 (by omega) fun m h1 h2 n h3=>aV (sa n (p-1) (by omega) (by omega) (by have:=G2.hi;omega)) (hge m h1 h2)
          by_cases e5:p2=1
          ·rw[if_pos (by simpa using e5)];exact ap ⟨hg.set _,.inl ⟨_,rfl,G3.first sa e5 fun m hm=>h0 m (by have:=G3.hi;omega)⟩⟩
          ·rw[if_neg (by simpa using e5)];by_cases e6:p2=0
           ·rw[if_pos (by simpa using e6)];exact ap ⟨hg.set _,.inl ⟨_,rfl,G3.done sa sb (.inr e6)⟩⟩
           ·rw[if_neg (by simpa using e6)];have hlow:∀ n,n<p2->le key (el b n) (el a (p-1)):=fun n hn=>aS (hlt n hn)
            refine au (wpS_elem (by have:=G3.hi;omega) ?_);have hz3:=G3.sz;have G4:=G3.pushA' (by omega) sa hlow;have hz4:=G4.sz;by_cases e4:p-1=0
            ·rw[if_pos (by simpa using e4)];exact ap ⟨hg.set _,.inl ⟨_,rfl,G4.done sa sb (.inl e4)⟩⟩
            ·rw[if_neg (by simpa using e4)];split
             ·exact ap ⟨hg.set _,.inr ⟨_,_,_,_,_,_,rfl,G4,by omega,by omega,by omega⟩⟩
             ·exact ap ⟨hg.set _,_,_,_,_,_,_,rfl,G4,by omega,by omega,by omega⟩
         ·rw[if_neg hk20];have hp2z:p2=j-1:=by omega
          have G3:=G2;have hlow:∀ n,n<j-1->le key (el b n) (el a (p-1)):=fun n hn=>aS (hlt n (by omega))
          refine au (wpS_elem (by have:=G3.hi;omega) ?_);have hz3:=G3.sz;have G4:=G3.pushA' (by omega) sa hlow;have hz4:=G4.sz;by_cases e4:p-1=0
          ·rw[if_pos (by simpa using e4)];exact ap ⟨hg.set _,.inl ⟨_,rfl,G4.done sa sb (.inl e4)⟩⟩
          ·rw[if_neg (by simpa using e4)];split
           ·exact ap ⟨hg.set _,.inr ⟨_,_,_,_,_,_,rfl,G4,by omega,by omega,by omega⟩⟩
           ·exact ap ⟨hg.set _,_,_,_,_,_,_,rfl,G4,by omega,by omega,by omega⟩
      ·rw[if_neg hk0];have hpz:p=i:=by omega
       have G1:=G;have hlo:∀ n,n<i->le key (el a n) (el b (j-1)):=fun n hn=>hle n (by omega)
       refine au (wpS_elem (by have:=G1.hj;omega) ?_);have hz1:=G1.sz;have G2:=G1.pushB' (by omega) sb hlo;have hz2:=G2.sz;by_cases e3:j-1=1
       ·rw[if_pos (by simpa using e3)];exact ap ⟨hg.set _,.inl ⟨_,rfl,G2.first sa e3 fun m hm=>h0 m (by have:=G2.hi;omega)⟩⟩
       ·rw[if_neg (by simpa using e3)];refine au (wpS_elem (by have:=G2.hi;omega) ?_);refine au (wpS_galL C (by exact hg.kind.trans hk) (ma _ (by have:=G2.hi;omega)) (fun m hm=>by rw[cZ];exact mb _ (by have:=G2.hj;omega)) (by have:=G2.hj;omega) (sb.sub (by omega) (by have:=G2.hj;omega)) (by omega) fun p2 hp2 hlt0 hge0=>?_);dsimp only;have hlt:∀ m,m<p2->O.klt (KA key b m) (KA key a (i-1)):=fun m h1=>hlt0 m (by omega) (by omega)
        have hge:∀ m,p2<=m->m<j-1->O.kle (KA key a (i-1)) (KA key b m):=fun m h1 h2=>hge0 m (by omega) (by omega)
        by_cases hk20:j-1-p2>0
        ·rw[if_pos hk20];have G3:=G2.appB sb (j-1-p2) p2 (by omega) fun m h1 h2 n h3=>aV (sa n (i-1) (by omega) (by omega) (by have:=G2.hi;omega)) (hge m h1 h2)
         by_cases e5:p2=1
         ·rw[if_pos (by simpa using e5)];exact ap ⟨hg.set _,.inl ⟨_,rfl,G3.first sa e5 fun m hm=>h0 m (by have:=G3.hi;omega)⟩⟩
         ·rw[if_neg (by simpa using e5)];by_cases e6:p2=0
          ·rw[if_pos (by simpa using e6)];exact ap ⟨hg.set _,.inl ⟨_,rfl,G3.done sa sb (.inr e6)⟩⟩
          ·rw[if_neg (by simpa using e6)];have hlow:∀ n,n<p2->le key (el b n) (el a (i-1)):=fun n hn=>aS (hlt n hn)
           refine au (wpS_elem (by have:=G3.hi;omega) ?_);have hz3:=G3.sz;have G4:=G3.pushA' (by omega) sa hlow;have hz4:=G4.sz;by_cases e4:i-1=0
           ·rw[if_pos (by simpa using e4)];exact ap ⟨hg.set _,.inl ⟨_,rfl,G4.done sa sb (.inl e4)⟩⟩
           ·rw[if_neg (by simpa using e4)];split
            ·exact ap ⟨hg.set _,.inr ⟨_,_,_,_,_,_,rfl,G4,by omega,by omega,by omega⟩⟩
            ·exact ap ⟨hg.set _,_,_,_,_,_,_,rfl,G4,by omega,by omega,by omega⟩
        ·rw[if_neg hk20];have hp2z:p2=j-1:=by omega
         have G3:=G2;have hlow:∀ n,n<j-1->le key (el b n) (el a (i-1)):=fun n hn=>aS (hlt n (by omega))
         refine au (wpS_elem (by have:=G3.hi;omega) ?_);have hz3:=G3.sz;have G4:=G3.pushA' (by omega) sa hlow;have hz4:=G4.sz;by_cases e4:i-1=0
         ·rw[if_pos (by simpa using e4)];exact ap ⟨hg.set _,.inl ⟨_,rfl,G4.done sa sb (.inl e4)⟩⟩
         ·rw[if_neg (by simpa using e4)];split
          ·exact ap ⟨hg.set _,.inr ⟨_,_,_,_,_,_,rfl,G4,by omega,by omega,by omega⟩⟩
          ·exact ap ⟨hg.set _,_,_,_,_,_,_,rfl,G4,by omega,by omega,by omega⟩
     ·rw[if_neg hmg];refine au (wpS_setGal ?_);refine au (wpS_elem (by have:=G.hj;omega) ?_);refine au (wpS_galR C (by exact hg.kind.trans hk) (mb _ (by have:=G.hj;omega)) (fun m hm=>by rw[cZ];exact ma _ (by have:=G.hi;omega)) (by have:=G.hi;omega) (sa.sub (by omega) (by have:=G.hi;omega)) (by omega) fun p hp hle0 hgt0=>?_);dsimp only;have hle:∀ m,m<p->O.kle (KA key a m) (KA key b (j-1)):=fun m h1=>hle0 m (by omega) (by omega)
      have hgt:∀ m,p<=m->m<i->O.klt (KA key b (j-1)) (KA key a m):=fun m h1 h2=>hgt0 m (by omega) (by omega)
      by_cases hk0:i-p>0
      ·rw[if_pos hk0];have G1:=G.appA sa (i-p) p (by omega) fun m h1 h2 n h3=>aV (sb n (j-1) (by omega) (by omega) (by have:=G.hj;omega)) (aS (hgt m h1 h2))
       by_cases e1:p=0
       ·rw[if_pos (by simpa using e1)];exact ap ⟨hg.set _,.inl ⟨_,rfl,G1.done sa sb (.inl e1)⟩⟩
       ·rw[if_neg (by simpa using e1)];have hlo:∀ n,n<p->le key (el a n) (el b (j-1)):=hle;refine au (wpS_elem (by have:=G1.hj;omega) ?_);have hz1:=G1.sz;have G2:=G1.pushB' (by omega) sb hlo;have hz2:=G2.sz;by_cases e3:j-1=1
        ·rw[if_pos (by simpa using e3)];exact ap ⟨hg.set _,.inl ⟨_,rfl,G2.first sa e3 fun m hm=>h0 m (by have:=G2.hi;omega)⟩⟩
        ·rw[if_neg (by simpa using e3)];refine au (wpS_elem (by have:=G2.hi;omega) ?_);refine au (wpS_galL C (by exact hg.kind.trans hk) (ma _ (by have:=G2.hi;omega)) (fun m hm=>by rw[cZ];exact mb _ (by have:=G2.hj;omega)) (by have:=G2.hj;omega) (sb.sub (by omega) (by have:=G2.hj;omega)) (by omega) fun p2 hp2 hlt0 hge0=>?_);dsimp only;have hlt:∀ m,m<p2->O.klt (KA key b m) (KA key a (p-1)):=fun m h1=>hlt0 m (by omega) (by omega)
         have hge:∀ m,p2<=m->m<j-1->O.kle (KA key a (p-1)) (KA key b m):=fun m h1 h2=>hge0 m (by omega) (by omega)
         by_cases hk20:j-1-p2>0
         ·rw[if_pos hk20];have G3:=G2.appB sb (j-1-p2) p2 (by omega) fun m h1 h2 n h3=>aV (sa n (p-1) (by omega) (by omega) (by have:=G2.hi;omega)) (hge m h1 h2)
          by_cases e5:p2=1
          ·rw[if_pos (by simpa using e5)];exact ap ⟨hg.set _,.inl ⟨_,rfl,G3.first sa e5 fun m hm=>h0 m (by have:=G3.hi;omega)⟩⟩
          ·rw[if_neg (by simpa using e5)];by_cases e6:p2=0
           ·rw[if_pos (by simpa using e6)];exact ap ⟨hg.set _,.inl ⟨_,rfl,G3.done sa sb (.inr e6)⟩⟩
           ·rw[if_neg (by simpa using e6)];have hlow:∀ n,n<p2->le key (el b n) (el a (p-1)):=fun n hn=>aS (hlt n hn)
            refine au (wpS_elem (by have:=G3.hi;omega) ?_);have hz3:=G3.sz;have G4:=G3.pushA' (by omega) sa hlow;have hz4:=G4.sz;by_cases e4:p-1=0
            ·rw[if_pos (by simpa using e4)];exact ap ⟨hg.set _,.inl ⟨_,rfl,G4.done sa sb (.inl e4)⟩⟩
            ·rw[if_neg (by simpa using e4)];split
             ·exact ap ⟨hg.set _,.inr ⟨_,_,_,_,_,_,rfl,G4,by omega,by omega,by omega⟩⟩
             ·exact ap ⟨hg.set _,_,_,_,_,_,_,rfl,G4,by omega,by omega,by omega⟩
         ·rw[if_neg hk20];have hp2z:p2=j-1:=by omega
          have G3:=G2;have hlow:∀ n,n<j-1->le key (el b n) (el a (p-1)):=fun n hn=>aS (hlt n (by omega))
          refine au (wpS_elem (by have:=G3.hi;omega) ?_);have hz3:=G3.sz;have G4:=G3.pushA' (by omega) sa hlow;have hz4:=G4.sz;by_cases e4:p-1=0
          ·rw[if_pos (by simpa using e4)];exact ap ⟨hg.set _,.inl ⟨_,rfl,G4.done sa sb (.inl e4)⟩⟩
          ·rw[if_neg (by simpa using e4)];split
           ·exact ap ⟨hg.set _,.inr ⟨_,_,_,_,_,_,rfl,G4,by omega,by omega,by omega⟩⟩
           ·exact ap ⟨hg.set _,_,_,_,_,_,_,rfl,G4,by omega,by omega,by omega⟩
      ·rw[if_neg hk0];have hpz:p=i:=by omega
       have G1:=G;have hlo:∀ n,n<i->le key (el a n) (el b (j-1)):=fun n hn=>hle n (by omega)
       refine au (wpS_elem (by have:=G1.hj;omega) ?_);have hz1:=G1.sz;have G2:=G1.pushB' (by omega) sb hlo;have hz2:=G2.sz;by_cases e3:j-1=1
       ·rw[if_pos (by simpa using e3)];exact ap ⟨hg.set _,.inl ⟨_,rfl,G2.first sa e3 fun m hm=>h0 m (by have:=G2.hi;omega)⟩⟩
       ·rw[if_neg (by simpa using e3)];refine au (wpS_elem (by have:=G2.hi;omega) ?_);refine au (wpS_galL C (by exact hg.kind.trans hk) (ma _ (by have:=G2.hi;omega)) (fun m hm=>by rw[cZ];exact mb _ (by have:=G2.hj;omega)) (by have:=G2.hj;omega) (sb.sub (by omega) (by have:=G2.hj;omega)) (by omega) fun p2 hp2 hlt0 hge0=>?_);dsimp only;have hlt:∀ m,m<p2->O.klt (KA key b m) (KA key a (i-1)):=fun m h1=>hlt0 m (by omega) (by omega)
        have hge:∀ m,p2<=m->m<j-1->O.kle (KA key a (i-1)) (KA key b m):=fun m h1 h2=>hge0 m (by omega) (by omega)
        by_cases hk20:j-1-p2>0
        ·rw[if_pos hk20];have G3:=G2.appB sb (j-1-p2) p2 (by omega) fun m h1 h2 n h3=>aV (sa n (i-1) (by omega) (by omega) (by have:=G2.hi;omega)) (hge m h1 h2)
         by_cases e5:p2=1
         ·rw[if_pos (by simpa using e5)];exact ap ⟨hg.set _,.inl ⟨_,rfl,G3.first sa e5 fun m hm=>h0 m (by have:=G3.hi;omega)⟩⟩
         ·rw[if_neg (by simpa using e5)];by_cases e6:p2=0
          ·rw[if_pos (by simpa using e6)];exact ap ⟨hg.set _,.inl ⟨_,rfl,G3.done sa sb (.inr e6)⟩⟩
          ·rw[if_neg (by simpa using e6)];have hlow:∀ n,n<p2->le key (el b n) (el a (i-1)):=fun n hn=>aS (hlt n hn)
           refine au (wpS_elem (by have:=G3.hi;omega) ?_);have hz3:=G3.sz;have G4:=G3.pushA' (by omega) sa hlow;have hz4:=G4.sz;by_cases e4:i-1=0
           ·rw[if_pos (by simpa using e4)];exact ap ⟨hg.set _,.inl ⟨_,rfl,G4.done sa sb (.inl e4)⟩⟩
           ·rw[if_neg (by simpa using e4)];split
            ·exact ap ⟨hg.set _,.inr ⟨_,_,_,_,_,_,rfl,G4,by omega,by omega,by omega⟩⟩
            ·exact ap ⟨hg.set _,_,_,_,_,_,_,rfl,G4,by omega,by omega,by omega⟩
        ·rw[if_neg hk20];have hp2z:p2=j-1:=by omega
         have G3:=G2;have hlow:∀ n,n<j-1->le key (el b n) (el a (i-1)):=fun n hn=>aS (hlt n (by omega))
         refine au (wpS_elem (by have:=G3.hi;omega) ?_);have hz3:=G3.sz;have G4:=G3.pushA' (by omega) sa hlow;have hz4:=G4.sz;by_cases e4:i-1=0
         ·rw[if_pos (by simpa using e4)];exact ap ⟨hg.set _,.inl ⟨_,rfl,G4.done sa sb (.inl e4)⟩⟩
         ·rw[if_neg (by simpa using e4)];split
          ·exact ap ⟨hg.set _,.inr ⟨_,_,_,_,_,_,rfl,G4,by omega,by omega,by omega⟩⟩
          ·exact ap ⟨hg.set _,_,_,_,_,_,_,rfl,G4,by omega,by omega,by omega⟩
end
end Ts
namespace Ts
open PySem PyProof.Rows
set_option autoImplicit false
def wb (sa:Nat)(m ar:Array Keyed):Array Keyed:=m.toList.zipIdx.foldl (fun a (p,j)=>a.setIfInBounds (sa+j) p) ar
theorem wbL:∀(l:List Keyed) (n sa:Nat) (ar:Array Keyed),sa+n+l.length<=ar.size ->
  ((l.zipIdx n).foldl (fun a (p,j)=>a.setIfInBounds (sa+j) p) ar).toList=ar.toList.take (sa+n)++l++ar.toList.drop (sa+n+l.length)
 | [],n,sa,ar,h=>by simp
 | x::l,n,sa,ar,h=>by
  rw[hG,iB];have hs:sa+n<ar.size:=by rw[aH] at h;omega
  have hl:(ar.setIfInBounds (sa+n) x).size=ar.size:=by simp
  have ih:=wbL l (n+1) sa (ar.setIfInBounds (sa+n) x) (by rw[hl];rw[aH] at h;omega);refine ih.trans ?_;rw[Array.toList_setIfInBounds,aH];have e1:(ar.toList.set (sa+n) x).take (sa+(n+1))=ar.toList.take (sa+n)++[x]:=by
   rw[show sa+(n+1)=(sa+n)+1 by omega,gS,List.take_set_of_le (ao _),dj (by simpa using hs)];rfl
  have e2:(ar.toList.set (sa+n) x).drop (sa+(n+1)+l.length)=ar.toList.drop (sa+n+(l.length+1)):=by
   rw[List.drop_set_of_lt (by omega)];congr 1;omega
  rw[e1,e2];simp
theorem wb_toList {sa:Nat}{m ar:Array Keyed}(h:sa+m.size<=ar.size):(wb sa m ar).toList=ar.toList.take sa++m.toList++ar.toList.drop (sa+m.size):=by
 have:=wbL m.toList 0 sa ar (by simpa using h);rw[jy,aY] at this;exact this
theorem wb_get {sa:Nat}{m ar:Array Keyed}(h:sa+m.size<=ar.size)(k:Nat):(wb sa m ar)[k]?=if sa<=k/\k<sa+m.size then m[k-sa]? else ar[k]?:=by
 have hl1:(ar.toList.take sa).length=sa:=by simp;omega
 have hl2:(ar.toList.take sa++m.toList).length=sa+m.size:=by rw[aE,hl1];simp
 rw[<- bC,wb_toList h,<- bC (xs:=m),<- bC (xs:=ar)];by_cases h1:k<sa
 ·rw[if_neg (by omega),cA (by rw[hl2];omega),cA (by rw[hl1];exact h1),fP h1]
 ·by_cases h2:k<sa+m.size
  ·rw[if_pos ⟨by omega,h2⟩,cA (by rw[hl2];exact h2),cr (by rw[hl1];omega),hl1]
  ·rw[if_neg (by omega),cr (by rw[hl2];omega),hl2,gH];congr 1;omega
theorem split3 {ar:Array Keyed}{i j:Nat}(hij:i<=j)(hj:j<=ar.size):ar.toList=ar.toList.take i++(ar.extract i j).toList++ar.toList.drop j:=by
 rw[cU,cB];conv=>lhs;rw[<- bS i ar.toList,<- bS (j-i) (ar.toList.drop i)]
 rw[bB,List.drop_drop];congr 3;omega
theorem ext_split {ar:Array Keyed}{i j k:Nat}(hij:i<=j)(hjk:j<=k)(hk:k<=ar.size):(ar.extract i j).toList++(ar.extract j k).toList=(ar.extract i k).toList:=by
 rw[<- bM,Array.extract_append_extract,iN hij,Nat.max_eq_right hjk]
theorem wb_perm {sa e:Nat}{m ar:Array Keyed}(hs:m.size=e-sa)(hse:sa<=e)(he:e<=ar.size)(hp:m.toList.Perm (ar.extract sa e).toList):(wb sa m ar).Perm ar:=by
 rw[Array.perm_iff_toList_perm,wb_toList (by omega)];conv=>rhs;rw[split3 hse he]
 rw[show sa+m.size=e by omega];exact (hp.append_left _).append_right _
theorem el_extract {ar:Array Keyed}{i j k:Nat}(h:i+k<j)(hj:j<=ar.size):el (ar.extract i j) k=el ar (i+k):=by
 apply el_congr;rw[Array.getElem?_extract];rw[if_pos (by omega)]
section
variable {M:Model}{A:Around}{E:Value->Shared->Prop}{s:Shared}{a₀:Array Keyed}{knd:SortKind}{O:KeyOrd}{key:Keyed->O.α}
theorem wpS_set {f:SortSt}{st:SortSt}{Q:PUnit->SortSt->Prop}(h:Q ⟨⟩ f):wpS M A E s (set f:StateT SortSt Sem PUnit) Q st:=by
 unfold wpS;rw[StateT.run_set];exact ai ⟨rfl,h⟩
theorem pend_arr (p1 p2:List (Nat×Nat×Nat))(x y z:Nat×Nat×Nat):((p1++x::y::p2).toArray.setIfInBounds p1.length z).eraseIdxIfInBounds (p1.length+1)=(p1++z::p2).toArray:=by
 apply gO;rw[Array.eraseIdxIfInBounds_eq];simp[List.set_append_right,List.eraseIdx_append_of_length_le]
theorem wpS_mAt {st:SortSt}{p1 p2:List (Nat×Nat×Nat)}{sa na pw sb nb pw2:Nat}{Q:Bool->SortSt->Prop}(C:Cmp M A E s knd O key a₀)(hB:SB a₀ knd st)
  (hp:pendingOf st=(p1++(sa,na,pw)::(sb,nb,pw2)::p2).toArray) (hsb:sb=sa+na) (hna:1<=na) (hnb:1<=nb) (hsz:sb+nb<=a₀.size)
  (sA:Seg key (arrOf st) sa (sa+na)) (sB:Seg key (arrOf st) sb (sb+nb))
  (h:∀ st',SB a₀ knd st'->pendingOf st'=(p1++(sa,na+nb,pw)::p2).toArray->Seg key (arrOf st') sa (sa+na+nb)->(∀ k,k<sa\/sa+na+nb<=k->(arrOf st')[k]?=(arrOf st)[k]?)->Q true st') :
  wpS M A E s (mergeAt' p1.length) Q st:=by
 rw[mAt_eq];refine au (fX ?_);have hP:pendingOf st=(p1++(sa,na,pw)::(sb,nb,pw2)::p2).toArray:=hp;have g1:(pendingOf st)[p1.length]?=some (sa,na,pw):=by rw[hP];simp
 have g2:(pendingOf st)[p1.length+1]?=some (sb,nb,pw2):=by rw[hP];simp
 have hZ:(arrOf st).size=a₀.size:=hB.size;dsimp only;rw[g1,g2];dsimp only;refine au (wpS_set ?_);rw[hP,pend_arr];refine au (wpS_elem (by omega) ?_);refine au (wpS_galR C (by exact hB.kind) (hB.mem (by omega)) (fun i hi=>hB.mem (by omega)) (by omega) sA (by omega) fun k hk hle hgt=>?_);dsimp only;have hB1:SB a₀ knd (ft (kindOf st) (arrOf st) ((p1++(sa,na+nb,pw)::p2).toArray) (gallopOf st) (failedOf st)):=⟨hB.perm,hB.kind,hB.failed⟩
 by_cases c1:na-k=0
 ·rw[if_pos (by simpa using c1)];refine ap (h _ hB1 rfl (fun i j h1 h2 h3=>?_) fun k hk=>rfl);show O.kle (KA key (arrOf st) i) (KA key (arrOf st) j);by_cases hj:j<sb
  ·exact sA i j h1 h2 (by omega)
  ·by_cases hi:i<sb
   ·exact aV (hle i h1 (by omega)) (sB sb j (by omega) (by omega) (by omega))
   ·exact sB i j (by omega) h2 (by omega)
 rw[if_neg (by simpa using c1)];refine au (wpS_elem (by omega) ?_);refine au (wpS_galL C (by exact hB.kind) (hB.mem (by omega)) (fun i hi=>hB.mem (by omega)) (by omega) sB (by omega) fun n hn hlt hge=>?_);dsimp only;have eL:sa+k+(na-k)-1=sb-1:=by omega
 rw[eL] at hlt hge;by_cases c2:n=0
 ·rw[if_pos (by simpa using c2)];refine ap (h _ hB1 rfl (fun i j h1 h2 h3=>?_) fun k hk=>rfl);show O.kle (KA key (arrOf st) i) (KA key (arrOf st) j);by_cases hj:j<sb
  ·exact sA i j h1 h2 (by omega)
  ·by_cases hi:i<sb
   ·exact aV (sA i (sb-1) h1 (by omega) (by omega)) (hge j (by omega) (by omega))
   ·exact sB i j (by omega) h2 (by omega)
 rw[if_neg (by simpa using c2)];have zx:((arrOf st).extract (sa+k) sb).size=sb-(sa+k):=by rw[fH];omega
 have zy:((arrOf st).extract sb (sb+n)).size=n:=by rw[fH];omega
 have ex:∀ q,q<sb-(sa+k)->el ((arrOf st).extract (sa+k) sb) q=el (arrOf st) (sa+k+q):=fun q hq=>el_extract (by omega) (by omega)
 have ey:∀ q,q<n->el ((arrOf st).extract sb (sb+n)) q=el (arrOf st) (sb+q):=fun q hq=>el_extract (by omega) (by omega)
 have mx:∀ q,q<((arrOf st).extract (sa+k) sb).size->el ((arrOf st).extract (sa+k) sb) q∈a₀.toList:=fun q hq=>by rw[ex q (by omega)];exact hB.mem (by omega)
 have my:∀ q,q<((arrOf st).extract sb (sb+n)).size->el ((arrOf st).extract sb (sb+n)) q∈a₀.toList:=fun q hq=>by rw[ey q (by omega)];exact hB.mem (by omega)
 have gx:Seg key ((arrOf st).extract (sa+k) sb) 0 ((arrOf st).extract (sa+k) sb).size:=fun i j h1 h2 h3=>by
  unfold KA;rw[ex i (by omega),ex j (by omega)];exact sA _ _ (by omega) (by omega) (by omega)
 have gy:Seg key ((arrOf st).extract sb (sb+n)) 0 ((arrOf st).extract sb (sb+n)).size:=fun i j h1 h2 h3=>by
  unfold KA;rw[ey i (by omega),ey j (by omega)];exact sB _ _ (by omega) (by omega) (by omega)
 have h00:∀ q,q<((arrOf st).extract (sa+k) sb).size->le key (el ((arrOf st).extract sb (sb+n)) 0) (el ((arrOf st).extract (sa+k) sb) q):=fun q hq=>by
  rw[ex q (by omega),ey 0 (by omega)];exact aS (hgt _ (by omega) (by omega))
 have hll:∀ q,q<((arrOf st).extract sb (sb+n)).size->le key (el ((arrOf st).extract sb (sb+n)) q) (el ((arrOf st).extract (sa+k) sb) (((arrOf st).extract (sa+k) sb).size-1)):=fun q hq=>by
  rw[ey q (by omega),ex _ (by omega),show sa+k+(((arrOf st).extract (sa+k) sb).size-1)=sb-1 by omega];exact aS (hlt _ (by omega) (by omega))
 have fin:∀(m:Array Keyed) (st':SortSt),Res key ((arrOf st).extract (sa+k) sb) ((arrOf st).extract sb (sb+n)) m ->
   Sg (ft (kindOf st) (arrOf st) ((p1++(sa,na+nb,pw)::p2).toArray) (gallopOf st) (failedOf st)) st' ->
   wpS M A E s (do
    modify fun s=>setArr s (m.toList.zipIdx.foldl (fun a (p,j)=>a.setIfInBounds (sa+k+j) p) (arrOf s))
    return (failedOf (<- get)).isNone) Q st':=by
  rintro m st' ⟨hm,hpw⟩ ⟨g,rfl⟩;rw[ext_split (by omega) (by omega) (by omega)] at hm;have zm:m.size=sb+n-(sa+k):=by
   have:=hm.length_eq;rw[aY,aY,fH] at this;omega
  refine au (eU ?_);refine au (fX ?_);have hf:failedOf st=none:=hB.failed;show wpS M A E s (pure (failedOf st).isNone) Q (setArr _ (wb (sa+k) m (arrOf st)));rw[hf];have hpm:(wb (sa+k) m (arrOf st)).Perm (arrOf st):=wb_perm zm (by omega) (by omega) hm;refine ap (h _ ⟨hpm.trans hB.perm,hB.kind,rfl⟩ rfl ?_ fun q hq=>?_)
  ·have sm:=seg_of_pw hpw;have em:∀ q,q<m.size->∃ r,sa+k<=r/\r<sb+n/\el m q=el (arrOf st) r:=fun q hq=>by
    have h1:=hm.mem_iff.mp (el_mem hq);obtain⟨r,hr⟩:=dz.mp h1;rw[bC] at hr;have hr':r<((arrOf st).extract (sa+k) (sb+n)).size:=by
     rcases cc r ((arrOf st).extract (sa+k) (sb+n)).size with h | h
     ·exact h
     ·rw[bN h] at hr;cases hr
    rw[el_some hr'] at hr;rw[fH] at hr';refine⟨sa+k+r,by omega,by omega,?_⟩;rw[<- aG hr,el_extract (by omega) (by omega)]
   have kin:∀ q,sa+k<=q->q<sb+n->el (wb (sa+k) m (arrOf st)) q=el m (q-(sa+k)):=fun q h1 h2=>by
    apply el_congr;rw[wb_get (by omega),if_pos (by omega)]
   have kout:∀ q,q<sa+k\/sb+n<=q->el (wb (sa+k) m (arrOf st)) q=el (arrOf st) q:=fun q h1=>by
    apply el_congr;rw[wb_get (by omega),if_neg (by omega)]
   show Seg key (wb (sa+k) m (arrOf st)) sa (sa+na+nb);have lowmid:∀ i r,sa<=i->i<sa+k->sa+k<=r->r<sb+n->O.kle (KA key (arrOf st) i) (KA key (arrOf st) r):=fun i r h1 h2 h3 h4=>by
    by_cases hr:r<sb
    ·exact sA i r h1 (by omega) (by omega)
    ·exact aV (hle i h1 h2) (sB sb r (by omega) (by omega) (by omega))
   have midend:∀ r j,sa+k<=r->r<sb+n->sb+n<=j->j<sb+nb->O.kle (KA key (arrOf st) r) (KA key (arrOf st) j):=fun r j h1 h2 h3 h4=>by
    by_cases hr:r<sb
    ·exact aV (sA r (sb-1) (by omega) (by omega) (by omega)) (hge j (by omega) (by omega))
    ·exact sB r j (by omega) (by omega) (by omega)
   intro i j h1 h2 h3;unfold KA;by_cases i1:i<sa+k
   ·rw[kout i (.inl i1)];by_cases j1:j<sa+k
    ·rw[kout j (.inl j1)];exact sA i j h1 h2 (by omega)
    ·by_cases j2:j<sb+n
     ·rw[kin j (by omega) j2];obtain⟨r,r1,r2,e⟩:=em (j-(sa+k)) (by omega);rw[e];exact lowmid i r h1 i1 r1 r2
     ·rw[kout j (.inr (by omega))];exact aV (lowmid i sb h1 i1 (by omega) (by omega)) (sB sb j (by omega) (by omega) (by omega))
   ·by_cases i2:i<sb+n
    ·rw[kin i (by omega) i2];by_cases j2:j<sb+n
     ·rw[kin j (by omega) j2];exact sm _ _ (by omega) (by omega) (by omega)
     ·rw[kout j (.inr (by omega))];obtain⟨r,r1,r2,e⟩:=em (i-(sa+k)) (by omega);rw[e];exact midend r j r1 r2 (by omega) (by omega)
    ·rw[kout i (.inr (by omega)),kout j (.inr (by omega))];exact sB i j (by omega) h2 (by omega)
  ·show (wb (sa+k) m (arrOf st))[q]?=_;rw[wb_get (by omega),if_neg (by omega)]
 by_cases c3:na-k<=n
 ·rw[if_pos c3];exact au (wpS_mLo C (by exact hB.kind) mx my gx gy (by omega) (by omega) h00 hll fin)
 ·rw[if_neg c3];exact au (wpS_mHi C (by exact hB.kind) mx my gx gy (by omega) (by omega) h00 hll fin)
end
end Ts
namespace Ts
open PySem PyProof.Rows
set_option autoImplicit false
section
variable {M:Model}{A:Around}{E:Value->Shared->Prop}{s:Shared}{a₀:Array Keyed}{knd:SortKind}{O:KeyOrd}{key:Keyed->O.α}
def Rn {O:KeyOrd}(key:Keyed->O.α)(xs:Array Keyed):Nat->List (Nat×Nat×Nat)->Nat->Prop
 | s,[],e=>s=e
 | s,x::r,e=>x.1=s/\1<=x.2.1/\Seg key xs s (s+x.2.1)/\Rn key xs (s+x.2.1) r e
theorem Rn.le {xs:Array Keyed}:∀ {p:List (Nat×Nat×Nat)} {s e:Nat},Rn key xs s p e->s+p.length<=e
 | [],s,e,h=>by cases h;simp
 | x::r,s,e,h=>by
  have:=Rn.le h.2.2.2;have:=h.2.1;rw[aH];omega
theorem Rn.congr {xs ys:Array Keyed}:∀ {p:List (Nat×Nat×Nat)} {s e:Nat},Rn key xs s p e->(∀ k,s<=k->k<e->ys[k]?=xs[k]?)->Rn key ys s p e
 | [],s,e,h,_=>h
 | x::r,s,e,h,k=>⟨h.1,h.2.1,h.2.2.1.congr (fun i a b=>KA_congr (k i a (by have:=Rn.le h.2.2.2;omega))),Rn.congr h.2.2.2 fun i a b=>k i (by omega) b⟩
theorem Rn.app {xs:Array Keyed}:∀ {p q:List (Nat×Nat×Nat)} {s e:Nat},Rn key xs s (p++q) e->∃ m,Rn key xs s p m/\Rn key xs m q e
 | [],q,s,e,h=>⟨s,rfl,h⟩
 | x::r,q,s,e,h=>by
  obtain⟨m,h1,h2⟩:=Rn.app h.2.2.2;exact⟨m,⟨h.1,h.2.1,h.2.2.1,h1⟩,h2⟩
theorem Rn.cat {xs:Array Keyed}:∀ {p q:List (Nat×Nat×Nat)} {s m e:Nat},Rn key xs s p m->Rn key xs m q e->Rn key xs s (p++q) e
 | [],q,s,m,e,h,k=>by cases h;exact k
 | x::r,q,s,m,e,h,k=>⟨h.1,h.2.1,h.2.2.1,Rn.cat h.2.2.2 k⟩
structure RB {O:KeyOrd}(key:Keyed->O.α)(a₀:Array Keyed)(knd:SortKind)(lo:Nat)(p:List (Nat×Nat×Nat))(st:SortSt):Prop where
 sb:SB a₀ knd st
 pd:pendingOf st=p.toArray
 rn:Rn key (arrOf st) 0 p lo
 hl:lo<=a₀.size
theorem wpS_mRB {st:SortSt}{lo:Nat}{p1 p2:List (Nat×Nat×Nat)}{x y:Nat×Nat×Nat}{Q:Bool->SortSt->Prop}(C:Cmp M A E s knd O key a₀)(hB:RB key a₀ knd lo (p1++x::y::p2) st)
  (h:∀ st',RB key a₀ knd lo (p1++(x.1,x.2.1+y.2.1,x.2.2)::p2) st'->(∀ k,lo<=k->(arrOf st')[k]?=(arrOf st)[k]?)->Q true st'):wpS M A E s (mergeAt' p1.length) Q st:=by
 obtain⟨sa,na,pw⟩:=x;obtain⟨sb,nb,pw2⟩:=y;obtain⟨m,r1,r2⟩:=hB.rn.app;obtain⟨e1,n1,g1,e2,n2,g2,r3⟩:=r2;dsimp only at e1 n1 g1 e2 n2 g2 r3;subst e1;have hle:=r3.le;have hl1:=r1.le;have hlo:=hB.hl;refine wpS_mAt C hB.sb hB.pd e2 n1 n2 (by omega) g1 (by rw[e2];exact g2) fun st' b1 b2 b3 b4=>h st' ⟨b1,b2,?_,hB.hl⟩ fun k hk=>b4 k (by omega)
 refine (r1.congr fun k _ hk=>b4 k (.inl hk)).cat ⟨rfl,by dsimp only;omega,?_,?_⟩
 ·dsimp only;rw[<- Nat.add_assoc];exact b3
 ·dsimp only;rw[<- Nat.add_assoc];exact r3.congr fun k hk _=>b4 k (.inr hk)
theorem split_at2 {p:List (Nat×Nat×Nat)}{n:Nat}(h:n+1<p.length):∃ p1 x y p2,p=p1++x::y::p2/\p1.length=n:=by
 refine⟨p.take n,p[n],p[n+1],p.drop (n+2),?_,by simp;omega⟩;conv=>lhs;rw[<- bS n p]
 congr 1;rw[fL (by omega),fL (by omega)]
theorem Rn.modify {xs:Array Keyed}{f:Nat×Nat×Nat->Nat×Nat×Nat}(h1:∀ x,(f x).1=x.1)(h2:∀ x,(f x).2.1=x.2.1):∀ {p:List (Nat×Nat×Nat)} {i s e:Nat},Rn key xs s p e->Rn key xs s (p.modify i f) e
 | [],i,s,e,h=>by cases i<;>exact h
 | x::r,0,s,e,h=>by
  rw[List.modify_zero_cons];unfold Rn at h ⊢;rw[h1,h2];exact h
 | x::r,i+1,s,e,h=>by
  rw[List.modify_succ_cons];exact⟨h.1,h.2.1,h.2.2.1,Rn.modify h1 h2 h.2.2.2⟩
theorem RB.power {st:SortSt}{lo:Nat}{p:List (Nat×Nat×Nat)}{f:Nat×Nat×Nat->Nat×Nat×Nat}(hR:RB key a₀ knd lo p st)(h1:∀ x,(f x).1=x.1)(h2:∀ x,(f x).2.1=x.2.1) :
  RB key a₀ knd lo (p.modify (p.length-1) f) (setPending st ((pendingOf st).modify ((pendingOf st).size-1) f)) :=
 ⟨⟨hR.sb.perm,hR.sb.kind,hR.sb.failed⟩,by show (pendingOf st).modify ((pendingOf st).size-1) f=_;rw[hR.pd,List.modify_toArray];simp,hR.rn.modify h1 h2,hR.hl⟩
theorem RB.push {st:SortSt}{lo n:Nat}{p:List (Nat×Nat×Nat)}(hR:RB key a₀ knd lo p st)(h1:1<=n)(h2:lo+n<=a₀.size)(hs:Seg key (arrOf st) lo (lo+n)) :
  RB key a₀ knd (lo+n) (p++[(lo,n,0)]) (setPending st ((pendingOf st).push (lo,n,0))) :=
 ⟨⟨hR.sb.perm,hR.sb.kind,hR.sb.failed⟩,by show (pendingOf st).push _=_;rw[hR.pd,List.push_toArray],hR.rn.cat ⟨rfl,h1,hs,rfl⟩,h2⟩
theorem wpS_sR {st:SortSt}{Q:Unit->SortSt->Prop}(C:Cmp M A E s knd O key a₀)(hB:SB a₀ knd st)(hp:pendingOf st=#[])(h2:2<=a₀.size)
  (h:∀ st',SB a₀ knd st'->Seg key (arrOf st') 0 a₀.size->Q () st'):wpS M A E s sortRuns' Q st:=by
 rw[sortRuns'_eq];refine au (fX ?_);dsimp only;simp only[hB.size];generalize minRun' a₀.size a₀.size 0=mr
 refine au (dO (ci
  (I:=fun x c st'=>∃ lo p,c=(none,lo)/\RB key a₀ knd lo p st'/\x<=lo)
  (Q:=fun c st'=>∃ p,c=(none,a₀.size)/\RB key a₀ knd a₀.size p st') ?step ?fin ⟨0,[],rfl,⟨hB,hp,rfl,by omega⟩,by omega⟩) ?post)
 case fin =>
  rintro c st' ⟨lo,p,rfl,hR,hx⟩;have:lo=a₀.size:=by have:=hR.hl;omega
  subst this;exact⟨p,rfl,hR⟩
 case post =>
  rintro c st' ⟨p,rfl,hR⟩;dsimp only
  refine au (dO (ci (I:=fun x c st'=>c=(none,())/\∃ p,RB key a₀ knd a₀.size p st'/\(p.length<=1\/p.length+x<=a₀.size))
   (Q:=fun c st'=>c=(none,())/\∃ p,RB key a₀ knd a₀.size p st'/\p.length<=1) ?_ ?_ ⟨rfl,p,hR,.inr (by have:=hR.rn.le;omega)⟩) ?_)
  ·rintro x c st3 _ hx ⟨rfl,p,hR3,hlen⟩;refine au (fX ?_);have hsz:(pendingOf st3).size=p.length:=by rw[hR3.pd];simp
   by_cases hz:(pendingOf st3).size<=1
   ·rw[if_pos hz];exact ap ⟨rfl,p,hR3,by omega⟩
   ·rw[if_neg hz];have key1:∀ n,n+1<p.length->wpS M A E s (mergeAt' n) (fun b st'=>b=true/\∃ p',RB key a₀ knd a₀.size p' st'/\p'.length+1=p.length) st3:=by
     intro n hn;obtain⟨p1,xx,yy,p2,rfl,rfl⟩:=split_at2 hn;exact wpS_mRB C hR3 fun st4 hR4 _=>⟨rfl,_,hR4,by simp;omega⟩
    refine au (dO (key1 _ ?_) ?_)
    ·have hh:∀(c:Prop) [Decidable c],(if c then p.length-2-1 else p.length-2)+1<p.length:=fun c _=>by split<;>omega
     rw[hsz];exact hh _
    ·rintro b st4 ⟨rfl,p',hR4,hl4⟩;simp only[fu,aU,if_false];exact ap ⟨rfl,p',hR4,by omega⟩
  ·rintro c st3 ⟨rfl,p,hR3,hlen⟩;exact⟨rfl,p,hR3,by omega⟩
  ·rintro c st3 ⟨rfl,p,hR3,hlen⟩;refine ap (h st3 hR3.sb ?_);have hrn:=hR3.rn
   match p,hlen,hrn with
   | [],_,hrn=>exact absurd hrn (by show ¬ (0=a₀.size);omega)
   | [x],_,hrn =>
    obtain⟨_,_,g,e⟩:=hrn;have e:0+x.2.1=a₀.size:=e;rw[e] at g;exact g
   | _::_::_,hlen,_=>simp at hlen
 case step =>
  rintro x c st1 _ hx ⟨lo,p,rfl,hR,hxl⟩;dsimp only;by_cases hlo:lo>=a₀.size
  ·rw[if_pos hlo];have:lo=a₀.size:=by have:=hR.hl;omega
   subst this;exact ap ⟨p,rfl,hR⟩
  rw[if_neg hlo];refine au (wpS_cR C (by omega) (by omega) hR.sb fun found st2 hB2 hF2 hm1 hm2 hs2=>?_);dsimp only;have hR2:RB key a₀ knd lo p st2:=⟨hB2,hF2.pend.trans hR.pd,hR.rn.congr fun k _ hk=>hF2.low k hk,hR.hl⟩
  by_cases hmin:found<mr
  ·rw[if_pos hmin];refine au (wpS_rule ?_);refine au (wpS_bS C (by omega) (by omega) hB2 hs2 fun st3 hB3 hF3 hs3=>?_);simp only[fu,aU,if_false];have hR3:RB key a₀ knd lo p st3:=⟨hB3,hF3.pend.trans hR2.pd,hR2.rn.congr fun k _ hk=>hF3.low k hk,hR.hl⟩
   have hn1:1<=min (a₀.size-lo) mr:=by omega
   have hn2:lo+min (a₀.size-lo) mr<=a₀.size:=by omega
   have hseg:=hs3;refine au (fX ?_);cases hbk:(pendingOf st3).back? with
   | none =>
    dsimp only;refine au (eU ?_);exact ap ⟨_,_,rfl,hR3.push hn1 hn2 hseg,by omega⟩
   | some t =>
    obtain⟨s1,n1,q⟩:=t;dsimp only
    refine au (dO (ci (I:=fun y c st'=>c=(none,())/\∃ p,RB key a₀ knd lo p st'/\∀ k,lo<=k->(arrOf st')[k]?=(arrOf st3)[k]?)
     (Q:=fun c st'=>c=(none,())/\∃ p,RB key a₀ knd lo p st'/\∀ k,lo<=k->(arrOf st')[k]?=(arrOf st3)[k]?) ?_ (fun c st' z=>z) ⟨rfl,p,hR3,fun _ _=>rfl⟩) ?_)
    ·rintro y c stt _ hy ⟨rfl,p,hR3,hk3⟩;refine au (fX ?_);by_cases hz:(pendingOf stt).size>1
     ·rw[if_pos hz];have hz':p.length-2+1<p.length:=by rw[hR3.pd] at hz;simp at hz;omega
      obtain⟨p1,xx,yy,p2,rfl,hl⟩:=split_at2 hz';have e1:(pendingOf stt).size-2=p1.length:=by rw[hR3.pd,hl];simp
      rw[e1];have e2:(pendingOf stt)[p1.length]?=some xx:=by rw[hR3.pd];simp
      rw[e2];obtain⟨x1,x2,x3⟩:=xx;dsimp only;split
      ·exact ap ⟨rfl,_,hR3,hk3⟩
      ·refine au (wpS_mRB C hR3 fun st4 hR4 hk4=>?_);simp only[fu,aU,if_false];exact ap ⟨rfl,_,hR4,fun k hk=>(hk4 k hk).trans (hk3 k hk)⟩
     ·rw[if_neg hz];exact ap ⟨rfl,p,hR3,hk3⟩
    ·rintro c stt ⟨rfl,p,hR3,hk3⟩;dsimp only;refine au (eU ?_);refine au (eU ?_);have hR5:=hR3.power (f:=fun x=>(x.fst,x.snd.fst,power' a₀.size (2*s1+n1) (2*s1+n1+n1+min (a₀.size-lo) mr) a₀.size)) (fun _=>rfl) (fun _=>rfl);exact ap ⟨_,_,rfl,hR5.push hn1 hn2 (hseg.congr fun k h1 _=>KA_congr (hk3 k h1)),by omega⟩
  ·rw[if_neg hmin];have hn1:1<=found:=hm1;have hn2:lo+found<=a₀.size:=by omega
   have hseg:=hs2;refine au (fX ?_);cases hbk:(pendingOf st2).back? with
   | none =>
    dsimp only;refine au (eU ?_);exact ap ⟨_,_,rfl,hR2.push hn1 hn2 hseg,by omega⟩
   | some t =>
    obtain⟨s1,n1,q⟩:=t;dsimp only
    refine au (dO (ci (I:=fun y c st'=>c=(none,())/\∃ p,RB key a₀ knd lo p st'/\∀ k,lo<=k->(arrOf st')[k]?=(arrOf st2)[k]?)
     (Q:=fun c st'=>c=(none,())/\∃ p,RB key a₀ knd lo p st'/\∀ k,lo<=k->(arrOf st')[k]?=(arrOf st2)[k]?) ?_ (fun c st' z=>z) ⟨rfl,p,hR2,fun _ _=>rfl⟩) ?_)
    ·rintro y c stt _ hy ⟨rfl,p,hR3,hk3⟩;refine au (fX ?_);by_cases hz:(pendingOf stt).size>1
     ·rw[if_pos hz];have hz':p.length-2+1<p.length:=by rw[hR3.pd] at hz;simp at hz;omega
      obtain⟨p1,xx,yy,p2,rfl,hl⟩:=split_at2 hz';have e1:(pendingOf stt).size-2=p1.length:=by rw[hR3.pd,hl];simp
      rw[e1];have e2:(pendingOf stt)[p1.length]?=some xx:=by rw[hR3.pd];simp
      rw[e2];obtain⟨x1,x2,x3⟩:=xx;dsimp only;split
      ·exact ap ⟨rfl,_,hR3,hk3⟩
      ·refine au (wpS_mRB C hR3 fun st4 hR4 hk4=>?_);simp only[fu,aU,if_false];exact ap ⟨rfl,_,hR4,fun k hk=>(hk4 k hk).trans (hk3 k hk)⟩
     ·rw[if_neg hz];exact ap ⟨rfl,p,hR3,hk3⟩
    ·rintro c stt ⟨rfl,p,hR3,hk3⟩;dsimp only;refine au (eU ?_);refine au (eU ?_);have hR5:=hR3.power (f:=fun x=>(x.fst,x.snd.fst,power' a₀.size (2*s1+n1) (2*s1+n1+n1+found) a₀.size)) (fun _=>rfl) (fun _=>rfl);exact ap ⟨_,_,rfl,hR5.push hn1 hn2 (hseg.congr fun k h1 _=>KA_congr (hk3 k h1)),by omega⟩
end
end Ts
end
section
namespace L2
open PySem PySem.Spec PyProof.Rows
def clo (env:Env):List (Str×NameKind)->List (Str×Addr)->List (Str×Addr)
 | [],cs=>cs
 | y::r,cs=>clo env r (if y.2 == bI then (y.1,(env.cells.lookup y.1).getD 0)::cs else cs)
theorem a8z {env:Env}:∀(names:List (Str×NameKind)) (cs:List (Str×Addr)),(∀ y∈names,y.2=.free->∃ c,env.cells.lookup y.1=some c) ->
  (forIn names cs fun (x:Str×NameKind) (r:List (Str×Addr))=>(if (x.2 == bI)=true then do
   let c <- cellOf env x.1
   pure (cg ((x.1,c)::r)) else pure (cg r):Sem (ForInStep (List (Str×Addr)))))=pure (clo env names cs)
 | [],cs,_=>by rw[iW];rfl
 | y::r,cs,h=>by
  rw[iA];unfold clo;have hr:=a8z r (if y.2 == bI then (y.1,(env.cells.lookup y.1).getD 0)::cs else cs) fun z hz=>h z (aM _ hz)
  by_cases e:(y.2 == bI)=true
  ·obtain⟨c,hc⟩:=h y aN (by simpa using e);have ec:cellOf env y.1=pure c:=by unfold cellOf;rw[hc]
   rw[if_pos e] at hr ⊢;rw[if_pos e,ec];rw[hc] at hr ⊢;exact hr
  ·rw[if_neg e] at hr ⊢;rw[if_neg e];exact hr
theorem a4u {env:Env}{scope:Scope}(h:∀ y∈scope.names,y.2=.free->∃ c,env.cells.lookup y.1=some c):closureFor scope env=pure (clo env scope.names []):=by
 have e:=a8z scope.names [] h;unfold closureFor;refine Eq.trans ?_ (congrArg (fun t=>t >>= fun cs=>(pure cs:Sem (List (Str×Addr)))) e);rfl
theorem K7 {β:Type}(x n:Str)(c:β)(r:List (Str×β)):List.lookup x ((n,c)::r)=if x=n then some c else List.lookup x r:=by
 rw[List.lookup_cons];by_cases e:x=n
 ·have hb:(x == n)=true:=beq_iff_eq.mpr e;rw[if_pos e];simp[hb]
 ·have hb:(x == n)=false:=beq_eq_false_iff_ne.mpr e;rw[if_neg e];simp[hb]
theorem V4 {env:Env}(x:Str):∀(names:List (Str×NameKind)) (cs:List (Str×Addr)),
  (clo env names cs).lookup x=if (names.any fun y=>decide (y.1=x) && (y.2 == bI))=true then some ((env.cells.lookup x).getD 0) else cs.lookup x
 | [],cs=>by simp[clo]
 | y::r,cs=>by
  unfold clo;rw[V4 x r,dI];by_cases e:(y.2 == bI)=true
  ·rw[if_pos e,K7];by_cases ex:y.1=x
   ·rw[decide_eq_true ex,e,if_pos ex.symm,ex];simp
   ·rw[decide_eq_false ex,if_neg (show ¬ x=y.1 from fun z=>ex z.symm),fe,Bool.false_or]
  ·have e':(y.2 == bI)=false:=by simpa using e
   rw[if_neg e,e'];simp
def a1z (sc osc:Scope):Bool :=
 (match sc.kind with | .function=>true | _=>false) &&
  sc.names.all fun y=>match y.2 with
   | .cell=>false
   | .local=>(match sc.names.lookup y.1 with | some .local=>true | _=>false)
   | .free=>(match osc.names.lookup y.1 with | some .cell=>true | some .free=>true | _=>false)
   | _=>true
structure a1I (sc osc:Scope):Prop where
 kind:sc.kind=.function
 noCell:∀ y∈sc.names,y.2≠.cell
 loc:∀ y∈sc.names,y.2=.local->sc.names.lookup y.1=some .local
 free:∀ y∈sc.names,y.2=.free->osc.names.lookup y.1=some .cell\/osc.names.lookup y.1=some .free
theorem a0w {sc osc:Scope}(h:a1z sc osc=true):a1I sc osc:=by
 unfold a1z at h;rw[bZ,eF] at h;obtain⟨h1,h2⟩:=h;refine⟨?_,fun y hy e=>?_,fun y hy e=>?_,fun y hy e=>?_⟩
 ·cases e:sc.kind with
  | function=>rfl
  | _=>rw[e] at h1;cases h1
 ·have:=h2 y hy;rw[e] at this;cases this
 ·have:=h2 y hy;rw[e] at this;dsimp only at this;split at this
  ·assumption
  ·cases this
 ·have:=h2 y hy;rw[e] at this;dsimp only at this;split at this
  ·left;assumption
  ·right;assumption
  ·cases this
def cxC (X:Cx)(scope:Scope)(N':List Str)(pins:List (Addr×Obj))(fp:List Addr)(s:Shared)(H:Hp):Cx where
 prog:=X.prog
 w:=X.w
 K:=X.K
 mg:=X.mg
 base:=X.base
 A:=X.A
 N:=N'
 s₀:=s
 Hz:=H
 env:=compEnvC scope (clo X.env scope.names []) s.heap.objs.size X.env
 outer:=X.stack
 stack:=X.stack
 ex:=fp
 fn:=fun _=>false
 calm:=true
 pn:=X.pn++pins
 xe:=fun _ _=>False
section
variable {X:Cx}{scope:Scope}{own:List Str}{fr:List (Str×Nat)}{fp:List Addr}{pins:List (Addr×Obj)}{σ:St}{H:Hp}{s:Shared}
def st0 (own:List Str)(fr:List (Str×Nat))(σ:St):St:=own.map (fun _=>jn)++fr.map fun p=>(σ[p.2]?).join
def a3b (X:Cx)(scope:Scope)(fr:List (Str×Nat)):Prop:=∀ p∈fr,X.N[p.2]?=some p.1/\scope.names.lookup p.1=some .free
theorem C0:a3b X scope []:=fun _ h=>nomatch h
theorem B3 {p:Str×Nat}{r:List (Str×Nat)}(h1:X.N[p.2]?=some p.1)(h2:scope.names.lookup p.1=some .free)(h:a3b X scope r):a3b X scope (p::r):=fun q hq=>by
 rcases aD.mp hq with rfl | hq
 ·exact⟨h1,h2⟩
 ·exact h q hq
theorem Q8 {β:Type}{x:Str}{k:β}:∀ {l:List (Str×β)},l.lookup x=some k->(x,k)∈l
 | [],h=>by cases h
 | (n,c)::r,h=>by
  rw[K7] at h;by_cases e:x=n
  ·rw[if_pos e] at h;cases h;rw[e];exact aN
  ·rw[if_neg e] at h;exact aM _ (Q8 h)
theorem S3 {env:Env}{x:Str}:∀ {names:List (Str×NameKind)} {k:NameKind},
  (names.map fun (y:Str×NameKind)=>if (y.2 == bI && env.scope.kind == .function && env.kindOf y.1 == some .cell) then (y.1,cz) else (y.1,y.2)).lookup x=some k ->
  ∃ k',names.lookup x=some k'/\(k=k'\/(k'=.free/\k=.cell))
 | [],k,h=>by cases h
 | (n,c)::r,k,h=>by
  rw[aL] at h;rw[K7];by_cases e:x=n
  ·rw[if_pos e];refine⟨c,rfl,?_⟩;by_cases q:(c == bI && env.scope.kind == .function && env.kindOf n == some .cell)=true
   ·have hh:(if (((n,c):Str×NameKind).2 == bI && env.scope.kind == .function && env.kindOf ((n,c):Str×NameKind).1 == some .cell)=true then (((n,c):Str×NameKind).1,cz) else (((n,c):Str×NameKind).1,((n,c):Str×NameKind).2))=(n,cz):=if_pos q;rw[hh,K7,if_pos e] at h;cases h;refine .inr ⟨?_,rfl⟩;simp only[bZ] at q;simpa using q.1.1
   ·have hh:(if (((n,c):Str×NameKind).2 == bI && env.scope.kind == .function && env.kindOf ((n,c):Str×NameKind).1 == some .cell)=true then (((n,c):Str×NameKind).1,cz) else (((n,c):Str×NameKind).1,((n,c):Str×NameKind).2))=(n,c):=if_neg q;rw[hh,K7,if_pos e] at h;cases h;exact .inl rfl
  ·rw[if_neg e];have h':(r.map fun (y:Str×NameKind)=>if (y.2 == bI && env.scope.kind == .function && env.kindOf y.1 == some .cell) then (y.1,cz) else (y.1,y.2)).lookup x=some k:=by
    by_cases q:(c == bI && env.scope.kind == .function && env.kindOf n == some .cell)=true
    ·have hh:(if (((n,c):Str×NameKind).2 == bI && env.scope.kind == .function && env.kindOf ((n,c):Str×NameKind).1 == some .cell)=true then (((n,c):Str×NameKind).1,cz) else (((n,c):Str×NameKind).1,((n,c):Str×NameKind).2))=(n,cz):=if_pos q;rw[hh,K7,if_neg e] at h;exact h
    ·have hh:(if (((n,c):Str×NameKind).2 == bI && env.scope.kind == .function && env.kindOf ((n,c):Str×NameKind).1 == some .cell)=true then (((n,c):Str×NameKind).1,cz) else (((n,c):Str×NameKind).1,((n,c):Str×NameKind).2))=(n,c):=if_neg q;rw[hh,K7,if_neg e] at h;exact h
   exact S3 h'
theorem a0d {env:Env}{x:Str}:∀ {names:List (Str×NameKind)},names.lookup x=some .free ->
  (names.map fun (y:Str×NameKind)=>if (y.2 == bI && env.scope.kind == .function && env.kindOf y.1 == some .cell) then (y.1,cz) else (y.1,y.2)).lookup x=some .cell \/
  (names.map fun (y:Str×NameKind)=>if (y.2 == bI && env.scope.kind == .function && env.kindOf y.1 == some .cell) then (y.1,cz) else (y.1,y.2)).lookup x=some .free
 | [],h=>by cases h
 | (n,c)::r,h=>by
  rw[K7] at h;rw[aL];have red:∀ b:Bool,(if b=true then (n,cz) else (n,c))=(n,if b=true then cz else c):=fun b=>by cases b<;>rfl
  have hh:(if (((n,c):Str×NameKind).2 == bI && env.scope.kind == .function && env.kindOf ((n,c):Str×NameKind).1 == some .cell)=true then (((n,c):Str×NameKind).1,cz) else (((n,c):Str×NameKind).1,((n,c):Str×NameKind).2))=(n,if (c == bI && env.scope.kind == .function && env.kindOf n == some .cell)=true then cz else c):=red _;rw[hh,K7];by_cases e:x=n
  ·rw[if_pos e] at h ⊢;cases h;generalize (bI == bI && env.scope.kind == .function && env.kindOf n == some .cell)=b;cases b
   ·right;rfl
   ·left;rfl
  ·rw[if_neg e] at h ⊢;exact a0d h
theorem a4q (I:Inv X pins σ H s)(hc:a1I scope X.env.scope)(hcalm:X.calm=true)(hf:∀ b∈fp,X9 X pins H b)(hlt:∀ b∈fp,b<s.heap.objs.size)(hfr:a3b X scope fr){h1:Heap}{m:Str->Option Value}(hns:h1.Ns s.heap.objs.size m)
  (hsb:∀ b o,s.heap.get? b=some o->h1.get? b=some o):Inv (cxC X scope (own++fr.map (·.1)) pins fp s H) [] (st0 own fr σ) H {s with heap:=h1}:=by
 have clX:∀ x c,(clo X.env scope.names []).lookup x=some c->X.env.cells.lookup x=some c:=fun x c e=>by
  rw[V4] at e;split at e
  ·rename_i q;obtain⟨y,hy,hq⟩:=List.any_eq_true.mp q;rw[bZ] at hq;have e1:y.1=x:=of_decide_eq_true hq.1;have e2:y.2=.free:=by simpa using hq.2
   obtain⟨c',hc'⟩:=I.ok.has x (by
    have:=hc.free y hy e2;rw[e1] at this
    exact this)
   rw[hc'] at e ⊢;exact e
  ·cases e
 have hlen:∀ b∈frs X.stack,b≠s.heap.objs.size/\b∈X.env.locals::X.fs:=fun b hb=>by
  have hm:=I.stkSub b hb;refine⟨fun z=>?_,hm⟩;rcases aD.mp hm with q | q
  ·have:=I.lt;rw[<- q,z] at this;exact cP _ this
  ·exact I.nofs (gn z.symm) q
 have ok:(cxC X scope (own++fr.map (·.1)) pins fp s H).Ok :=
  {mod:=I.ok.mod
   kind:=hc.kind
   glob:=I.ok.glob
   blt:=I.ok.blt
   above:=ao _
   inj:=fun x y c hx hy=>I.ok.inj x y c (clX x c hx) (clX y c hy)
   has:=fun x hx=>by
    have hx:(relabel scope X.env).names.lookup x=some .cell\/(relabel scope X.env).names.lookup x=some .free:=hx;have key:scope.names.lookup x=some .free:=by
     rcases hx with hx | hx
     ·obtain⟨k',e1,e2⟩:=S3 hx;rcases e2 with e2 | ⟨e2,_⟩
      ·subst e2;exact absurd rfl (hc.noCell (x,.cell) (Q8 e1))
      ·subst e2;exact e1
     ·obtain⟨k',e1,e2⟩:=S3 hx;rcases e2 with e2 | ⟨e2,e3⟩
      ·subst e2;exact e1
      ·cases e3
    have hm:=Q8 key;refine⟨(X.env.cells.lookup x).getD 0,?_⟩;show (clo X.env scope.names []).lookup x=_;rw[V4,if_pos (dv.mpr ⟨(x,.free),hm,by simp⟩)]
   cab:=fun x c h=>nomatch h
   hd:=fun _=>I.ok.hd hcalm
   frames:=I.ok.frames
   stk:=.inl rfl
   exf:=fun b hb=>⟨aP (hlt b hb),fun x c e=>(hf b hb).2.2.2.2.1 x c (clX x c e)⟩
   bs:=I.bs
   bsz:=bj I.ok.bsz I.sz
   noex:=fun b o e hb=>by
    rcases (hf b hb).2.2.2.1 with q | q
    ·exact I.ok.noex b o e q
    ·have h1:b<X.base.objs.size:=aC e;have h2:=I.ok.bsz;exact absurd (bh h1 h2) (Nat.not_lt.mpr q)
   exfs:=fun b hb hm=>by
    have hm:=I.stkSub b hm;rcases aD.mp hm with q | q
    ·exact (hf b hb).2.1 q
    ·exact (hf b hb).2.2.1 q
   funs:=I.stack
   frf:=I.stkFree}
 refine⟨ok,rfl,I.bare,Un.kept hsb,⟨m,hns,fun i x v hx hv hvis=>?_⟩,fun x c e=>?_,I.fresh,fun x c e=>I.freeC x c (clX x c e),fun p hp=>?_,I.hok.kept hsb,?_⟩
 ·-- the names
  have hi:own.length<=i:=by
   rcases cc i own.length with h | h
   ·unfold st0 at hv;rw[cA (by simpa using h),aF] at hv;cases e:own[i]? with
    | none=>rw[e] at hv;cases hv
    | some z=>rw[e] at hv;cases hv
   ·exact h
  have hx:(own++fr.map (·.1))[i]?=some x:=hx;unfold st0 at hv;rw[cr (by simpa using hi),aF] at hv;rw[cr hi,aF] at hx;rw[ab] at hv;cases e:fr[i-own.length]? with
  | none=>rw[e] at hx;cases hx
  | some p =>
   rw[e] at hx hv;have ex:p.1=x:=aG hx;have ev:(σ[p.2]?).join=some v:=aG hv;obtain⟨hN,hfree⟩:=hfr p (dz.mpr ⟨_,e⟩);rw[ex] at hN hfree;have hk:=hc.free (x,.free) (Q8 hfree) rfl;have hσ:σ[p.2]?=some (some v):=by
    cases q:σ[p.2]? with
    | none=>rw[q] at ev;cases ev
    | some o=>rw[q] at ev;exact congrArg some ev
   obtain⟨mX,nX,lX⟩:=I.loc;obtain⟨u,ru,look⟩:=lX p.2 x v hN hσ (.inr hk);refine⟨u,ru,.inr ⟨a0d hfree,?_⟩⟩;rcases look with ⟨k1,_⟩ | ⟨_,c,hcc,hcell⟩
   ·exfalso;have k1:X.env.scope.names.lookup x=some .local:=k1;rcases hk with q | q<;>(rw[k1] at q;cases q)
   ·refine⟨c,?_,?_⟩
    ·show (clo X.env scope.names []).lookup x=_;rw[V4,if_pos (dv.mpr ⟨(x,.free),Q8 hfree,by simp⟩),hcc];rfl
    ·exact hcell.keeps hsb
 ·obtain⟨v,hv⟩:=I.cell x c (clX x c e);exact⟨v,hv.keeps hsb⟩
 ·have hp:p∈X.pn++pins:=by
   rcases ak.mp hp with q | q
   ·exact q
   ·cases q
  obtain⟨a1,a2,a3,a4,a5⟩:=I.pin p hp;refine⟨hsb _ _ a1,a2,aP (aC a1),fun hm=>?_,a5⟩;have hm:=I.stkSub _ hm;rcases aD.mp hm with q | q
  ·exact a3 q
  ·exact a4 q
 ·show (st0 own fr σ).length=(own++fr.map (·.1)).length;unfold st0;rw[aE,aE,ab,ab,ab]
end
end L2
namespace L2
open PySem PySem.Spec PyProof.Rows
def PTs (X:Cx)(ifs:List Expr)(t:TT):Prop :=
 ∀(pins:List (Addr×Obj)) (s:Shared) (σ:St) (H:Hp) (Q:Bool->Hp->Prop),Inv X pins σ H s->t σ H Q ->
  wpAny (model X.prog X.w) X.A (forIn ifs true fun c r=>if r=true then do let ok <- isTrue c X.env (eval c X.env);pure (cg ok) else pure (cg r)) (TP X pins σ Q) X.xe s
def b0z:TT:=fun _ H Q=>Q true H
theorem L7 {X:Cx}:PTs X [] b0z:=fun pins s σ H Q I h=>wpAny_tests_nil ⟨H,I,h⟩
theorem K6 {X:Cx}{c:Expr}{t:TT}(h:PT X c t):PTs X [c] t:=fun pins s σ H Q I q=>wpAny_tests_one (h pins s σ H Q I q)
theorem a4V {prog:Program}{w:World}{A:Around}{R:Result->Shared->Prop}{s:Shared}{elt target iter:Expr}{ifs:List Expr}{scope:Scope}{pos:Pos}{it acc:Value}{env:Env}(I:Nat->Shared->Prop)
  (turn:∀ n s,I n s->wpAny (model prog w) A (pyNext it) (fun r sk=>match r with
   | none=>R (.ok .next) sk
   | some v=>wpAny (model prog w) A (letOwnedTupleGo target it v) (fun _ sk=>wpAny (model prog w) A (assign target env v) (fun _ sv =>
     wpAny (model prog w) A (forIn ifs true fun c r=>if r=true then do let ok <- isTrue c env (eval c env);pure (cg ok) else pure (cg r)) (fun ok sq =>
      if ok=true then wpAny (model prog w) A (eval elt env) (fun x sn =>
       wpAny (model prog w) A (call (.builtin "list.append") [acc,x]) (fun _ s₅=>∃ m,m<n/\I m s₅) (fun _ _=>False) sn) (fun _ _=>False) sq
      else ∃ m,m<n/\I m sq) (fun _ _=>False) sv) (fun _ _=>False) sk) (fun _ _=>False) sk) (fun _ _=>False) s)
  (n:Nat) (h:I n s):codeAny (model prog w) A (.compLoop (.ListComp elt [⟨target,iter,ifs,0⟩] scope pos) 0 it acc env) R s:=by
 refine codeAny_loop rfl I (fun n s hI=>?_) n h;show wpAny _ A ((compTurn (.ListComp elt [⟨target,iter,ifs,0⟩] scope pos) 0 it acc env).onRaise (fun x=>do noteFrame x env;theTreesLotGoes x)) _ _ s;refine wpAny_noted ?_;rw[compTurn_list];refine aa (fI (aa (cp (turn n s hI) (fun r sk h₁=>?_) fun _ _ h'=>h'.elim)));cases r with
 | none=>exact ai h₁
 | some v =>
  refine aa (cp h₁ (fun _ sk h₁=>?_) fun _ _ h'=>h'.elim);refine aa (cp h₁ (fun _ sv h₂=>aa (cp h₂ (fun ok sq h₃=>?_) fun _ _ h'=>h'.elim)) fun _ _ h'=>h'.elim);cases ok with
  | false=>exact ai ⟨rfl,h₃⟩
  | true =>
   exact aa (aa (cp h₃ (fun x sn h₄=>aa (cp h₄ (fun _ s₅ h₅=>ai (ai ⟨rfl,h₅⟩)) fun _ _ h'=>h'.elim)) fun _ _ h'=>h'.elim))
def lcW (g:TG)(tc:TT)(te:TE)(p:Addr)(J:It)(τ0:St)(H0:Hp)(E:Hp->Prop):Prop :=
 ∃ W:Nat->Nat->St->Hp->Prop,(∃ m,W 0 m τ0 H0)/\∀ i m τ H,W i m τ H ->
  (J.stop i H/\E H)\/(J.go i H/\∃ N:St->Hp->Prop,(∀ τ' H',N τ' H'->∃ m',m'<m/\W (i+1) m' τ' H') /\
   ∀ x H',J.yld i H x H'->g x τ H' fun τ2 H2=>tc τ2 H2 fun b H3=>if b=true then te τ2 H3 fun v H4=>∃ ys,H4 p=some (.lst ys)/\ys.length<sizeLine/\N τ2 (upd H4 p (.lst (ys++[v]))) else N τ2 H3)
def tLC (own:List Str)(fr:List (Str×Nat))(wi:TI)(g:TG)(tc:TT)(te:TE):TE:=fun σ H Q =>
 wi σ H fun J H1=>∀ p,H1 p=none->lcW g tc te p J (st0 own fr σ) (upd H1 p (.lst [])) fun H2=>Q (.ref p) H2
section
variable {X:Cx}{elt tg iter:Expr}{ifs:List Expr}{scope:Scope}{pos:Pos}{own:List Str}{fr:List (Str×Nat)}{wi:TI}{g:TG}{tc:TT}{te:TE}
structure Blk (X:Cx)(scope:Scope)(N':List Str)(tg:Expr)(ifs:List Expr)(elt:Expr)(g:TG)(tc:TT)(te:TE):Prop where
 run:∀ pins fp s H,PG (cxC X scope N' pins fp s H) tg g/\PTs (cxC X scope N' pins fp s H) ifs tc/\PE (cxC X scope N' pins fp s H) elt te
structure a6g (X:Cx)(pins:List (Addr×Obj))(H:Hp)(C:Addr):Prop where
 un:H C=none
 loc:C≠X.env.locals
 new:X.s₀.heap.objs.size<=C
 cel:∀ x c,X.env.cells.lookup x=some c->c≠C
 pin:∀ p∈X.pn++pins,p.1≠C
theorem a6g.inv {pins:List (Addr×Obj)}{σ:St}{H:Hp}{s:Shared}{C:Addr}{h':Heap}(f:a6g X pins H C)(I:Inv X pins σ H s)(hs:dF C s.heap h'):Inv X pins σ H {s with heap:=h'} :=
 I.turned (t':=s.toks) (fun b o hb e=>hs.extBut b o hb e) f.un f.loc (.inr f.new) f.cel f.pin
theorem a2i {pins:List (Addr×Obj)}{σ:St}{H2:Hp}{s2:Shared}{it:Addr}{fp:List Addr}{tn:Nat->Heap->Prop}{J:It}{EE:Hp->Prop}{RR:Value->Addr->Result->Shared->Prop}{E:Value->Shared->Prop}
  (hcalm:X.calm=true) (hc:a1I scope X.env.scope) (hfr:a3b X scope fr) (B:Blk X scope (own++fr.map (·.1)) tg ifs elt g tc te)
  (I2:Inv X pins σ H2 s2) (T:a4y X.prog X.w X.K tg J fp it tn) (st2:tn 0 s2.heap) (f2:∀ b∈fp,X9 X pins H2 b)
  (hw:lcW g tc te s2.heap.objs.size J (st0 own fr σ) (upd H2 s2.heap.objs.size (.lst [])) EE)
  (hRR:∀ C H' s' m,EE H'->s'.heap.Ns C m->Inv X pins σ H' s'->a6g X pins H' C->RR (.ref s2.heap.objs.size) C (.ok .next) s') :
  wpAny (model X.prog X.w) X.A (newList []) (fun acc sq=>wpAny (model X.prog X.w) X.A (newFunctionEnv scope X.env.globals (clo X.env scope.names []) [] X.env.qual none .none (some X.env)) (fun cenv sn =>
   codeAny (model X.prog X.w) X.A (.compStart (.ListComp elt [⟨tg,iter,ifs,0⟩] scope pos) 0 (.ref it) acc {cenv with scope:=relabel scope X.env}) (RR acc cenv.locals) sn) E sq) E s2:=by
 have I3:Inv X pins σ (upd H2 s2.heap.objs.size (.lst [])) {s2 with heap:=s2.heap.push {cls:=.type "list",data:=.seq ([]:List Value).toArray},toks:=s2.toks}:=I2.lnew (ys:=[]) (its:=[]) (t':=s2.toks) .nil (bf _);generalize hs3:({s2 with heap:=s2.heap.push {cls:=.type "list",data:=.seq ([]:List Value).toArray},toks:=s2.toks}:Shared)=s3 at I3;have hsz3:s3.heap.objs.size=s2.heap.objs.size+1:=by rw[<- hs3];exact cm ..
 have k3:∀ b o,s2.heap.get? b=some o->s3.heap.get? b=some o:=fun b o e=>by rw[<- hs3];exact ag _ e
 have hlt:∀ b∈fp,b<s2.heap.objs.size:=fun b hb=>let ⟨o,e,_⟩:=T.obj _ _ st2 b hb;aC e
 have f3:∀ b∈fp,X9 X pins (upd H2 s2.heap.objs.size (.lst [])) b:=fun b hb=>⟨by rw[B2 (aP (hlt b hb))];exact (f2 b hb).1,(f2 b hb).2⟩
 have st3:tn 0 s3.heap:=T.keep _ _ _ st2 fun b _ o e=>k3 b o e
 refine bo ?_;have e3:({s2 with heap:=s2.heap.push {cls:=.type "list",dict:=none,data:=.seq ([]:List Value).toArray}}:Shared)=s3:=hs3;rw[e3];refine j8 hc.noCell (by intro y hy;cases hy) (fun h₁ hnsz hsbz=>?_) hc.kind;have k4:∀ b o,s3.heap.get? b=some o->h₁.get? b=some o:=fun b o e=>hsbz.extBut b o (aP (aC e)) (ag _ e)
 have I4:=a4q (own:=own) I3 hc hcalm f3 (fun b hb=>bh (hlt b hb) (by rw[hsz3];exact gF _)) hfr hnsz k4;obtain⟨bg,bt,be⟩:=B.run pins fp s3 (upd H2 s2.heap.objs.size (.lst []));generalize hX':cxC X scope (own++fr.map (·.1)) pins fp s3 (upd H2 s2.heap.objs.size (.lst []))=X' at I4 bg bt be;have eP:X'.prog=X.prog:=by rw[<- hX'];rfl
 have eW:X'.w=X.w:=by rw[<- hX'];rfl
 have eK:X'.K=X.K:=by rw[<- hX'];rfl
 have eA:X'.A=X.A:=by rw[<- hX'];rfl
 have eC:X'.calm=true:=by rw[<- hX'];rfl
 have eX:X'.xe=fun _ _=>False:=by rw[<- hX'];rfl
 have eE:X'.env=compEnvC scope (clo X.env scope.names []) s3.heap.objs.size X.env:=by rw[<- hX'];rfl
 have fC:∀ {H':Hp},(∀ b∈fp,H' b=none)->∀ b∈fp,X9 X' [] H' b:=fun hn b hb=>by
  have hb':=f3 b hb;refine⟨hn b hb,?_,?_,?_,?_,?_⟩
  ·exact (I4.ok.exf b (by rw[<- hX'];exact hb)).1
  ·exact I4.ok.exfs b (by rw[<- hX'];exact hb)
  ·left;rw[<- hX'];exact hb
  ·exact (I4.ok.exf b (by rw[<- hX'];exact hb)).2
  ·intro p hp;have hp:p∈X.pn++pins:=by
    rw[<- hX'] at hp;rcases ak.mp hp with q | q
    ·exact q
    ·cases q
   exact hb'.2.2.2.2.2 p hp
 obtain⟨W,⟨m0,w0⟩,turn⟩:=hw;have cenvE:({(newEnv scope s3.heap.objs.size X.env.globals (clo X.env scope.names []) X.env.qual none .none (some X.env) builtinsNs) with scope:=relabel scope X.env}:Env)=X'.env:=by rw[eE];rfl
 have loop:∀ s4:Shared,Inv X' [] (st0 own fr σ) (upd H2 s2.heap.objs.size (.lst [])) s4->tn 0 s4.heap ->
   codeAny (model X.prog X.w) X.A (.compLoop (.ListComp elt [⟨tg,iter,ifs,0⟩] scope pos) 0 (.ref it) (.ref s2.heap.objs.size) X'.env) (RR (.ref s2.heap.objs.size) s3.heap.objs.size) s4:=by
  intro s4 J4 t4;refine a4V (fun n s'=>∃ i τ H',Inv X' [] τ H' s'/\tn i s'.heap/\(∀ b∈fp,H' b=none)/\W i n τ H') ?_ m0 ⟨0,_,_,J4,t4,fun b hb=>(f3 b hb).1,w0⟩;rintro n s5 ⟨i,τ5,H5,I5,t5,fr5,w5⟩;rcases turn i n τ5 H5 w5 with ⟨stop,qn⟩ | ⟨go,N,hN,step⟩
  ·have hd:=T.done X' eP eW eK eC i [] s5 τ5 H5 (fun _ _=>False) I5 (fC fr5) t5 stop;rw[eA] at hd;refine thn hd fun r s6 ⟨hr,I6⟩=>?_
   subst hr;have hbase:Un (frs X.stack) fp (upd H2 s2.heap.objs.size (.lst [])) H5 s3.heap s6.heap:=by have:=I6.base;rw[<- hX'] at this;exact this
   have hok6:HOk X.prog X.w H5 s6.heap:=by have:=I6.hok;rw[eP,eW] at this;exact this
   have os6:s6.os=s3.os:=by have:=I6.os;rw[<- hX'] at this;exact this
   obtain⟨m6,n6,_⟩:=I6.loc;have n6:s6.heap.Ns s3.heap.objs.size m6:=by rw[eE] at n6;exact n6
   have free6:H5 s3.heap.objs.size=none:=by have:=I6.free;rw[eE] at this;exact this
   refine hRR s3.heap.objs.size H5 s6 m6 qn n6 (I3.call' os6 hbase hok6 I6.bare fun b hb=>⟨(f3 b hb).2.2.2.1,(f3 b hb).2.1,(f3 b hb).2.2.2.2.1,(f3 b hb).2.2.2.2.2⟩) ⟨free6,?_,I3.sz,?_,?_⟩
   ·exact (aP I3.lt).symm
   ·intro x c e z;obtain⟨v,hv⟩:=I3.cell x c e;have:=hv.lt;rw[z] at this;exact cP _ this
   ·intro p hp z;have:=aC (I3.pin p hp).1;rw[z] at this;exact cP _ this
  ·have hi:=T.item X' eP eW eK eC i [] s5 τ5 H5 (fun _ _=>False) I5 (fC fr5) t5 go;rw[eA] at hi;refine thn hi fun r s6 ⟨u,hr,h6⟩=>?_
   subst hr;refine thn h6 fun _ s7 ⟨x,H7,I7,r7,y7,t7,fr7⟩=>?_
   have I7':=I7.pinned (fC fr7) (T.obj _ _ t7);have again:∀ {τ:St} {H':Hp} {s':Shared},Inv X' ([]++Z3 fp s7.heap) τ H' s'->N τ H'->∃ m,m<n/\∃ i τ H',Inv X' [] τ H' s'/\tn i s'.heap/\(∀ b∈fp,H' b=none)/\W i m τ H':=fun {τ H' s'} I8 n8=>by
    obtain⟨m',hm,w8⟩:=hN τ H' n8;refine⟨m',hm,i+1,τ,H',I8.unpinned,T.keep _ _ _ t7 fun b hb o e=>(I8.pin (b,o) (bx _ (bx _ (Q0 hb e)))).1,fun b hb=>?_,w8⟩;obtain⟨o,e,d⟩:=T.obj _ _ t7 b hb;exact (I8.pin (b,o) (bx _ (bx _ (Q0 hb e)))).2.1
   have hg:=bg _ s7 τ5 H7 x u _ I7' r7 (step x H7 y7);rw[eP,eW,eA,eX] at hg;refine thn hg fun _ s8 ⟨τ8,H8,I8,q8⟩=>?_
   have ht:=bt _ s8 τ8 H8 _ I8 q8;rw[eP,eW,eA,eX] at ht;refine thn ht fun ok s9 ⟨H9,I9,q9⟩=>?_
   cases ok with
   | false=>exact again I9 q9
   | true =>
    rw[if_pos rfl] at q9 ⊢;have hv:=be _ s9 τ8 H9 _ I9 q9;rw[eP,eW,eA,eX] at hv;refine thn hv fun y s10 ⟨v,H10,I10,r10,ys,hl,hlen,n10⟩=>?_
    have ha:=a2f (X:=X') _ s10 τ8 H10 (.ref s2.heap.objs.size) [v] (.ref s2.heap.objs.size) [y] (fun _ H'=>N τ8 H') I10 rfl (.cons r10 .nil) ⟨_,_,_,rfl,rfl,hl,hlen,n10⟩;rw[eP,eW,eA,eX] at ha;exact thn ha fun _ s11 ⟨_,H11,I11,_,n11⟩=>again I11 n11
 have st4:tn 0 h₁:=T.keep _ _ _ st3 fun b _ o e=>k4 b o e
 show codeAny (model X.prog X.w) X.A (.compStart (.ListComp elt [⟨tg,iter,ifs,0⟩] scope pos) 0 (.ref it) (.ref s2.heap.objs.size) ({(newEnv scope s3.heap.objs.size X.env.globals (clo X.env scope.names []) X.env.qual none .none (some X.env) builtinsNs) with scope:=relabel scope X.env}:Env)) (RR (.ref s2.heap.objs.size) s3.heap.objs.size) _;rw[cenvE];exact codeAny_compStart_list (loop _ I4 st4) (T.self X.A 0 _ _ _ st4 (loop _ I4 st4))
theorem a5c {pins:List (Addr×Obj)}{σ:St}{H:Hp}{s:Shared}(I:Inv X pins σ H s)(hc:a1I scope X.env.scope):closureFor scope X.env=pure (clo X.env scope.names []) :=
 a4u fun y hy e=>I.ok.has y.1 (hc.free y hy e)
theorem I0 (hcalm:X.calm=true)(hc:a1z scope X.env.scope=true)(hfr:a3b X scope fr)(hi:PI X tg iter wi)(B:Blk X scope (own++fr.map (·.1)) tg ifs elt g tc te)
  (hs:∀ x,foldedSetIterable iter X.env x=pure x:=by intro _;rfl):PE X (.ListComp elt [⟨tg,iter,ifs,0⟩] scope pos) (tLC own fr wi g tc te):=by
 intro pins s σ H Q I h;have hc:=a0w hc;rw[eval_ListComp];refine gc (use:=none) rfl hs (a5c I hc) hc.kind hc.loc (thn (hi pins s σ H _ I h) fun v s1 h1=>thn h1 fun itv s2 h2=>?_);obtain⟨it,fp,tn,J,H2,e,I2,T,st2,f2,hw⟩:=h2;subst e;refine a2i (RR:=fun acc C=>compPost (model X.prog X.w) X.A X.xe none (EP X pins σ Q) acc C) hcalm hc hfr B I2 T st2 f2 (hw _ I2.fresh) ?_;intro C H' s' m q n I' f;exact⟨m,n,fun h' hs'=>⟨.ref s2.heap.objs.size,H',f.inv I' hs',rfl,q⟩⟩
theorem L6 {i:Nat}{x:Str}{px spos:Pos}(hcalm:X.calm=true)(hN:X.N.Nodup)(hx:X.N[i]?=some x)(hl:X.env.scope.names.lookup x=some .local)(hsw:swapsWith (.ListComp elt [⟨tg,iter,ifs,0⟩] scope pos) (some (.Name x px)) spos.line X.env=pure true)
  (hc:a1z scope X.env.scope=true) (hfr:a3b X scope fr) (hi:PI X tg iter wi) (B:Blk X scope (own++fr.map (·.1)) tg ifs elt g tc te)
  (hs:∀ x,foldedSetIterable iter X.env x=pure x:=by intro _;rfl):PS X (.Assign [.Name x px] (.ListComp elt [⟨tg,iter,ifs,0⟩] scope pos) spos) (a6i (tLC own fr wi g tc te) (M8 i)):=by
 intro pins s σ H D I h;have hc:=a0w hc;rw[exec_Assign_Name_used _ _ _ _ hsw];refine aa (fI (aa ?_));show wpAny _ X.A (do let _ <- comprehension (.ListComp elt [⟨tg,iter,ifs,0⟩] scope pos) scope X.env _ (newList []) false (eval iter X.env) (some (assign (.Name x px) X.env))) _ _ s
 refine aa (cp (gc (use:=some (assign (.Name x px) X.env)) (Q:=fun _ s'=>SP X pins D .next s') rfl hs (a5c I hc) hc.kind hc.loc
  (thn (hi pins s σ H _ I h) fun v s1 h1=>thn h1 fun itv s2 h2=>?_)) (fun _ s' hq=>ai (ai hq)) fun _ _ e=>e)
 obtain⟨it,fp,tn,J,H2,e,I2,T,st2,f2,hw⟩:=h2;subst e;refine a2i (RR:=fun acc C=>compPost (model X.prog X.w) X.A X.xe (some (assign (.Name x px) X.env)) (fun _ s'=>SP X pins D .next s') acc C) hcalm hc hfr B I2 T st2 f2 (hw _ I2.fresh) ?_;intro C H' s' m q n I' f;show wpAny _ X.A (assign (.Name x px) X.env (.ref s2.heap.objs.size)) _ _ _;refine iG (a0p I' hN hx (.inl hl) (v:=.ref s2.heap.objs.size) rfl (fun s'' I'' hch=>?_) (.inr hl));obtain⟨a,sb,ha⟩:=hch;have hCa:C≠a:=by
  rcases ha with ha | ha
  ·rw[ha];exact f.loc
  ·exact fun z=>f.cel x a ha z.symm
 exact⟨m,n.sameBut sb hCa,fun h' hs'=>⟨_,H',f.inv I'' hs',q⟩⟩
end
end L2
namespace L2
open PySem PySem.Spec PyProof.Rows
theorem a5b {prog:Program}{w:World}{A:Around}{R:Result->Shared->Prop}{s:Shared}{kx vx target iter:Expr}{ifs:List Expr}{scope:Scope}{pos:Pos}{it:Value}{D:Addr}{env:Env}(I:Nat->Shared->Prop)
  (turn:∀ n s,I n s->wpAny (model prog w) A (pyNext it) (fun r sk=>match r with
   | none=>R (.ok .next) sk
   | some v=>wpAny (model prog w) A (letOwnedTupleGo target it v) (fun _ sk=>wpAny (model prog w) A (assign target env v) (fun _ sv =>
     wpAny (model prog w) A (forIn ifs true fun c r=>if r=true then do let ok <- isTrue c env (eval c env);pure (cg ok) else pure (cg r)) (fun ok sq =>
      if ok=true then wpAny (model prog w) A (eval kx env) (fun kv sn=>wpAny (model prog w) A (eval vx env) (fun vv sn =>
       wpAny (model prog w) A (dictSet D kv vv) (fun _ s₅=>∃ m,m<n/\I m s₅) (fun _ _=>False) sn) (fun _ _=>False) sn) (fun _ _=>False) sq
      else ∃ m,m<n/\I m sq) (fun _ _=>False) sv) (fun _ _=>False) sk) (fun _ _=>False) sk) (fun _ _=>False) s)
  (n:Nat) (h:I n s):codeAny (model prog w) A (.compLoop (.DictComp kx vx [⟨target,iter,ifs,0⟩] scope pos) 0 it (.ref D) env) R s:=by
 refine codeAny_loop rfl I (fun n s hI=>?_) n h;show wpAny _ A ((compTurn (.DictComp kx vx [⟨target,iter,ifs,0⟩] scope pos) 0 it (.ref D) env).onRaise (fun x=>do noteFrame x env;theTreesLotGoes x)) _ _ s;refine wpAny_noted ?_;rw[compTurn_dict];refine aa (fI (aa (cp (turn n s hI) (fun r sk h₁=>?_) fun _ _ h'=>h'.elim)));cases r with
 | none=>exact ai h₁
 | some v =>
  refine aa (cp h₁ (fun _ sk h₁=>?_) fun _ _ h'=>h'.elim);refine aa (cp h₁ (fun _ sv h₂=>aa (cp h₂ (fun ok sq h₃=>?_) fun _ _ h'=>h'.elim)) fun _ _ h'=>h'.elim);cases ok with
  | false=>exact ai ⟨rfl,h₃⟩
  | true =>
   exact aa (aa (cp h₃ (fun kv sn h₄=>aa (cu (cp h₄ (fun vv s₅ h₅=>aa (fI (cu (cp h₅ (fun _ s₆ h₆=>ai ⟨rfl,h₆⟩) fun _ _ h'=>h'.elim)))) fun _ _ h'=>h'.elim))) fun _ _ h'=>h'.elim))
theorem a6L {X:Cx}{pins:List (Addr×Obj)}{σ:St}{H:Hp}{s:Shared}{a:Addr}{y v:V}{u r:Value}{A:Around}{E:Value->Shared->Prop}{H':Hp}{Q:Unit->Shared->Prop}(hu:A.units+1<cLine)(I:Inv X pins σ H s)(g:Y5 H a y v H')(ry:F0 y u)(rv:F0 v r)(h:∀ s',Inv X pins σ H' s'->Q () s') :
  wpAny (model X.prog X.w) A (dictSet a u r) Q E s:=by
 rcases g with ⟨kvs,k,e,ey,l,eH⟩ | ⟨kvs,k,b,e,ey,eb,l,eH⟩
 ·subst ey eH;obtain⟨z,hd,vs,rel,dd⟩:=a2q I.hok e;have hz:vs.length<=sizeLine:=by rw[<- rel.length];exact z
  have hl:(S9 kvs k v).length<=sizeLine:=by have:=Q9 kvs k v;omega
  refine wpAny_dictSet_pairs (hsz:=hz) (a4n ry) dd fun h' dd' hs=>h _ ?_
  have he:∃ q,h'.get? a=some q:=let ⟨q,_,_,hq,_⟩:=dd';⟨q,hq⟩;exact a0k I (by rw[e];exact dr) hs he (a5a hl hd (rel.put k rv) dd')
 ·subst ey eH;cases (show u=bF b from ry);obtain⟨z,hd,xs,rel,dd⟩:=b0u I.hok e;have hz:xs.length<=sizeLine:=by rw[<- fk rel];exact z
  have hl:(S9 kvs k v).length<=sizeLine:=by have:=Q9 kvs k v;omega
  refine wpAny_dictSet_heap (hsz:=hz) (show (tupleKind (L1 X.prog X.w)).room A from Nat.lt_of_succ_lt hu) (a2X I.hok eb) dd fun h' dd' hs=>h _ ?_
  obtain⟨q,es,ep,hq,h2,h3,h4,_,h5⟩:=dd';refine a0k I (by rw[e];exact dr) hs ⟨q,hq⟩ ⟨hl,hd,_,(rel.put k eb rv).keeps fun c ys ec=>?_,q,es,ep,hq,h2,h3,h4,h5⟩;rw[B2 (b0o ec e (fun z=>nomatch z))];exact ec
def a1M:Bool->HO
 | true=>.dT []
 | false=>.dK []
theorem a9M {P:Program}{w:World}{H:Hp}(h:Heap)(hb:sysModules<h.objs.size):∀ t,K8 P w H (h.push {cls:=.type "dict",data:=.dict #[]}) h.objs.size (a1M t)
 | true=>a4t h hb
 | false=>a1y h hb
def dcW (g:TG)(tc:TT)(te tv:TE)(p:Addr)(J:It)(τ0:St)(H0:Hp)(E:Hp->Prop):Prop :=
 ∃ W:Nat->Nat->St->Hp->Prop,(∃ m,W 0 m τ0 H0)/\∀ i m τ H,W i m τ H ->
  (J.stop i H/\E H)\/(J.go i H/\∃ N:St->Hp->Prop,(∀ τ' H',N τ' H'->∃ m',m'<m/\W (i+1) m' τ' H') /\
   ∀ x H',J.yld i H x H'->g x τ H' fun τ2 H2=>tc τ2 H2 fun b H3=>if b=true then te τ2 H3 fun k H4=>tv τ2 H4 fun v H5=>∃ H6,Y5 H5 p k v H6/\N τ2 H6 else N τ2 H3)
def tDC (t:Bool)(own:List Str)(fr:List (Str×Nat))(wi:TI)(g:TG)(tc:TT)(te tv:TE):TE:=fun σ H Q =>
 wi σ H fun J H1=>∀ p,H1 p=none->dcW g tc te tv p J (st0 own fr σ) (upd H1 p (a1M t)) fun H2=>Q (.ref p) H2
section
variable {X:Cx}{kx vx tg iter:Expr}{ifs:List Expr}{scope:Scope}{pos:Pos}{own:List Str}{fr:List (Str×Nat)}{wi:TI}{g:TG}{tc:TT}{te tv:TE}
structure b2T (X:Cx)(scope:Scope)(N':List Str)(tg:Expr)(ifs:List Expr)(kx vx:Expr)(g:TG)(tc:TT)(te tv:TE):Prop where
 run:∀ pins fp s H,PG (cxC X scope N' pins fp s H) tg g/\PTs (cxC X scope N' pins fp s H) ifs tc/\PE (cxC X scope N' pins fp s H) kx te/\PE (cxC X scope N' pins fp s H) vx tv
theorem a6J {pins:List (Addr×Obj)}{σ:St}{H2:Hp}{s2:Shared}{it:Addr}{fp:List Addr}{tn:Nat->Heap->Prop}{J:It}{EE:Hp->Prop}{RR:Value->Addr->Result->Shared->Prop}{E:Value->Shared->Prop}
  (t:Bool) (hu:X.A.units+1<cLine) (hcalm:X.calm=true) (hc:a1I scope X.env.scope) (hfr:a3b X scope fr) (B:b2T X scope (own++fr.map (·.1)) tg ifs kx vx g tc te tv)
  (I2:Inv X pins σ H2 s2) (T:a4y X.prog X.w X.K tg J fp it tn) (st2:tn 0 s2.heap) (f2:∀ b∈fp,X9 X pins H2 b)
  (hw:dcW g tc te tv s2.heap.objs.size J (st0 own fr σ) (upd H2 s2.heap.objs.size (a1M t)) EE)
  (hRR:∀ C H' s' m,EE H'->s'.heap.Ns C m->Inv X pins σ H' s'->a6g X pins H' C->RR (.ref s2.heap.objs.size) C (.ok .next) s') :
  wpAny (model X.prog X.w) X.A newDict (fun acc sq=>wpAny (model X.prog X.w) X.A (newFunctionEnv scope X.env.globals (clo X.env scope.names []) [] X.env.qual none .none (some X.env)) (fun cenv sn =>
   codeAny (model X.prog X.w) X.A (.compStart (.DictComp kx vx [⟨tg,iter,ifs,0⟩] scope pos) 0 (.ref it) acc {cenv with scope:=relabel scope X.env}) (RR acc cenv.locals) sn) E sq) E s2:=by
 have I3:Inv X pins σ (upd H2 s2.heap.objs.size (a1M t)) {s2 with heap:=s2.heap.push {cls:=.type "dict",data:=.dict #[]},toks:=s2.toks}:=I2.laid (t':=s2.toks) (fun _ _ q=>ag _ q) (ao _) (a9M s2.heap I2.big t);generalize hs3:({s2 with heap:=s2.heap.push {cls:=.type "dict",data:=.dict #[]},toks:=s2.toks}:Shared)=s3 at I3;have hsz3:s3.heap.objs.size=s2.heap.objs.size+1:=by rw[<- hs3];exact cm ..
 have k3:∀ b o,s2.heap.get? b=some o->s3.heap.get? b=some o:=fun b o e=>by rw[<- hs3];exact ag _ e
 have hlt:∀ b∈fp,b<s2.heap.objs.size:=fun b hb=>let ⟨o,e,_⟩:=T.obj _ _ st2 b hb;aC e
 have f3:∀ b∈fp,X9 X pins (upd H2 s2.heap.objs.size (a1M t)) b:=fun b hb=>⟨by rw[B2 (aP (hlt b hb))];exact (f2 b hb).1,(f2 b hb).2⟩
 have st3:tn 0 s3.heap:=T.keep _ _ _ st2 fun b _ o e=>k3 b o e
 refine bo ?_;have e3:({s2 with heap:=s2.heap.push {cls:=.type "dict",dict:=none,data:=.dict #[]}}:Shared)=s3:=hs3;rw[e3];refine j8 hc.noCell (by intro y hy;cases hy) (fun h₁ hnsz hsbz=>?_) hc.kind;have k4:∀ b o,s3.heap.get? b=some o->h₁.get? b=some o:=fun b o e=>hsbz.extBut b o (aP (aC e)) (ag _ e)
 have I4:=a4q (own:=own) I3 hc hcalm f3 (fun b hb=>bh (hlt b hb) (by rw[hsz3];exact gF _)) hfr hnsz k4;obtain⟨bg,bt,be,bv⟩:=B.run pins fp s3 (upd H2 s2.heap.objs.size (a1M t));generalize hX':cxC X scope (own++fr.map (·.1)) pins fp s3 (upd H2 s2.heap.objs.size (a1M t))=X' at I4 bg bt be bv;have eP:X'.prog=X.prog:=by rw[<- hX'];rfl
 have eW:X'.w=X.w:=by rw[<- hX'];rfl
 have eK:X'.K=X.K:=by rw[<- hX'];rfl
 have eA:X'.A=X.A:=by rw[<- hX'];rfl
 have eC:X'.calm=true:=by rw[<- hX'];rfl
 have eX:X'.xe=fun _ _=>False:=by rw[<- hX'];rfl
 have eE:X'.env=compEnvC scope (clo X.env scope.names []) s3.heap.objs.size X.env:=by rw[<- hX'];rfl
 have fC:∀ {H':Hp},(∀ b∈fp,H' b=none)->∀ b∈fp,X9 X' [] H' b:=fun hn b hb=>by
  have hb':=f3 b hb;refine⟨hn b hb,?_,?_,?_,?_,?_⟩
  ·exact (I4.ok.exf b (by rw[<- hX'];exact hb)).1
  ·exact I4.ok.exfs b (by rw[<- hX'];exact hb)
  ·left;rw[<- hX'];exact hb
  ·exact (I4.ok.exf b (by rw[<- hX'];exact hb)).2
  ·intro p hp;have hp:p∈X.pn++pins:=by
    rw[<- hX'] at hp;rcases ak.mp hp with q | q
    ·exact q
    ·cases q
   exact hb'.2.2.2.2.2 p hp
 obtain⟨W,⟨m0,w0⟩,turn⟩:=hw;have cenvE:({(newEnv scope s3.heap.objs.size X.env.globals (clo X.env scope.names []) X.env.qual none .none (some X.env) builtinsNs) with scope:=relabel scope X.env}:Env)=X'.env:=by rw[eE];rfl
 have loop:∀ s4:Shared,Inv X' [] (st0 own fr σ) (upd H2 s2.heap.objs.size (a1M t)) s4->tn 0 s4.heap ->
   codeAny (model X.prog X.w) X.A (.compLoop (.DictComp kx vx [⟨tg,iter,ifs,0⟩] scope pos) 0 (.ref it) (.ref s2.heap.objs.size) X'.env) (RR (.ref s2.heap.objs.size) s3.heap.objs.size) s4:=by
  intro s4 J4 t4;refine a5b (fun n s'=>∃ i τ H',Inv X' [] τ H' s'/\tn i s'.heap/\(∀ b∈fp,H' b=none)/\W i n τ H') ?_ m0 ⟨0,_,_,J4,t4,fun b hb=>(f3 b hb).1,w0⟩;rintro n s5 ⟨i,τ5,H5,I5,t5,fr5,w5⟩;rcases turn i n τ5 H5 w5 with ⟨stop,qn⟩ | ⟨go,N,hN,step⟩
  ·have hd:=T.done X' eP eW eK eC i [] s5 τ5 H5 (fun _ _=>False) I5 (fC fr5) t5 stop;rw[eA] at hd;refine thn hd fun r s6 ⟨hr,I6⟩=>?_
   subst hr;have hbase:Un (frs X.stack) fp (upd H2 s2.heap.objs.size (a1M t)) H5 s3.heap s6.heap:=by have:=I6.base;rw[<- hX'] at this;exact this
   have hok6:HOk X.prog X.w H5 s6.heap:=by have:=I6.hok;rw[eP,eW] at this;exact this
   have os6:s6.os=s3.os:=by have:=I6.os;rw[<- hX'] at this;exact this
   obtain⟨m6,n6,_⟩:=I6.loc;have n6:s6.heap.Ns s3.heap.objs.size m6:=by rw[eE] at n6;exact n6
   have free6:H5 s3.heap.objs.size=none:=by have:=I6.free;rw[eE] at this;exact this
   refine hRR s3.heap.objs.size H5 s6 m6 qn n6 (I3.call' os6 hbase hok6 I6.bare fun b hb=>⟨(f3 b hb).2.2.2.1,(f3 b hb).2.1,(f3 b hb).2.2.2.2.1,(f3 b hb).2.2.2.2.2⟩) ⟨free6,?_,I3.sz,?_,?_⟩
   ·exact (aP I3.lt).symm
   ·intro x c e z;obtain⟨v,hv⟩:=I3.cell x c e;have:=hv.lt;rw[z] at this;exact cP _ this
   ·intro p hp z;have:=aC (I3.pin p hp).1;rw[z] at this;exact cP _ this
  ·have hi:=T.item X' eP eW eK eC i [] s5 τ5 H5 (fun _ _=>False) I5 (fC fr5) t5 go;rw[eA] at hi;refine thn hi fun r s6 ⟨u,hr,h6⟩=>?_
   subst hr;refine thn h6 fun _ s7 ⟨x,H7,I7,r7,y7,t7,fr7⟩=>?_
   have I7':=I7.pinned (fC fr7) (T.obj _ _ t7);have again:∀ {τ:St} {H':Hp} {s':Shared},Inv X' ([]++Z3 fp s7.heap) τ H' s'->N τ H'->∃ m,m<n/\∃ i τ H',Inv X' [] τ H' s'/\tn i s'.heap/\(∀ b∈fp,H' b=none)/\W i m τ H':=fun {τ H' s'} I8 n8=>by
    obtain⟨m',hm,w8⟩:=hN τ H' n8;refine⟨m',hm,i+1,τ,H',I8.unpinned,T.keep _ _ _ t7 fun b hb o e=>(I8.pin (b,o) (bx _ (bx _ (Q0 hb e)))).1,fun b hb=>?_,w8⟩;obtain⟨o,e,d⟩:=T.obj _ _ t7 b hb;exact (I8.pin (b,o) (bx _ (bx _ (Q0 hb e)))).2.1
   have hg:=bg _ s7 τ5 H7 x u _ I7' r7 (step x H7 y7);rw[eP,eW,eA,eX] at hg;refine thn hg fun _ s8 ⟨τ8,H8,I8,q8⟩=>?_
   have ht:=bt _ s8 τ8 H8 _ I8 q8;rw[eP,eW,eA,eX] at ht;refine thn ht fun ok s9 ⟨H9,I9,q9⟩=>?_
   cases ok with
   | false=>exact again I9 q9
   | true =>
    rw[if_pos rfl] at q9 ⊢;have hv:=be _ s9 τ8 H9 _ I9 q9;rw[eP,eW,eA,eX] at hv;refine thn hv fun ky s10 ⟨kk,H10,I10,r10,q10⟩=>?_
    have hv:=bv _ s10 τ8 H10 _ I10 q10;rw[eP,eW,eA,eX] at hv;refine thn hv fun y s11 ⟨v,H11,I11,r11,H12,dp,n12⟩=>?_
    have ha:=a6L (A:=X.A) (E:=fun _ _=>False) (Q:=fun _ s12=>Inv X' ([]++Z3 fp s7.heap) τ8 H12 s12) hu I11 dp r10 r11 fun s12 I12=>I12
    rw[eP,eW] at ha;exact thn ha fun _ s12 I12=>again I12 n12
 have st4:tn 0 h₁:=T.keep _ _ _ st3 fun b _ o e=>k4 b o e
 show codeAny (model X.prog X.w) X.A (.compStart (.DictComp kx vx [⟨tg,iter,ifs,0⟩] scope pos) 0 (.ref it) (.ref s2.heap.objs.size) ({(newEnv scope s3.heap.objs.size X.env.globals (clo X.env scope.names []) X.env.qual none .none (some X.env) builtinsNs) with scope:=relabel scope X.env}:Env)) (RR (.ref s2.heap.objs.size) s3.heap.objs.size) _;rw[cenvE];exact codeAny_compStart_dict (loop _ I4 st4) (T.self X.A 0 _ _ _ st4 (loop _ I4 st4))
theorem a7p {i:Nat}{x:Str}{px spos:Pos}(t:Bool)(hu:X.A.units+1<cLine)(hcalm:X.calm=true)(hN:X.N.Nodup)(hx:X.N[i]?=some x)(hl:X.env.scope.names.lookup x=some .local)(hsw:swapsWith (.DictComp kx vx [⟨tg,iter,ifs,0⟩] scope pos) (some (.Name x px)) spos.line X.env=pure true)
  (hc:a1z scope X.env.scope=true) (hfr:a3b X scope fr) (hi:PI X tg iter wi) (B:b2T X scope (own++fr.map (·.1)) tg ifs kx vx g tc te tv)
  (hs:∀ x,foldedSetIterable iter X.env x=pure x:=by intro _;rfl):PS X (.Assign [.Name x px] (.DictComp kx vx [⟨tg,iter,ifs,0⟩] scope pos) spos) (a6i (tDC t own fr wi g tc te tv) (M8 i)):=by
 intro pins s σ H D I h;have hc:=a0w hc;rw[exec_Assign_Name_used _ _ _ _ hsw];refine aa (fI (aa ?_));show wpAny _ X.A (do let _ <- comprehension (.DictComp kx vx [⟨tg,iter,ifs,0⟩] scope pos) scope X.env _ newDict false (eval iter X.env) (some (assign (.Name x px) X.env))) _ _ s
 refine aa (cp (gc (use:=some (assign (.Name x px) X.env)) (Q:=fun _ s'=>SP X pins D .next s') rfl hs (a5c I hc) hc.kind hc.loc
  (thn (hi pins s σ H _ I h) fun v s1 h1=>thn h1 fun itv s2 h2=>?_)) (fun _ s' hq=>ai (ai hq)) fun _ _ e=>e)
 obtain⟨it,fp,tn,J,H2,e,I2,T,st2,f2,hw⟩:=h2;subst e;refine a6J (RR:=fun acc C=>compPost (model X.prog X.w) X.A X.xe (some (assign (.Name x px) X.env)) (fun _ s'=>SP X pins D .next s') acc C) t hu hcalm hc hfr B I2 T st2 f2 (hw _ I2.fresh) ?_;intro C H' s' m q n I' f;show wpAny _ X.A (assign (.Name x px) X.env (.ref s2.heap.objs.size)) _ _ _;refine iG (a0p I' hN hx (.inl hl) (v:=.ref s2.heap.objs.size) rfl (fun s'' I'' hch=>?_) (.inr hl));obtain⟨a,sb,ha⟩:=hch;have hCa:C≠a:=by
  rcases ha with ha | ha
  ·rw[ha];exact f.loc
  ·exact fun z=>f.cel x a ha z.symm
 exact⟨m,n.sameBut sb hCa,fun h' hs'=>⟨_,H',f.inv I'' hs',q⟩⟩
end
end L2
end
section
namespace Srt
open PySem PyProof.Rows
section
variable {prog:Program}{w:World}{A:Around}{E:Value->Shared->Prop}{s:Shared}{O:KeyOrd}{key:Value->O.α}{knd:SortKind}
def Asks (prog:Program)(w:World)(A:Around)(O:KeyOrd)(key:Value->O.α)(knd:SortKind)(vs:List Value)(s:Shared):Prop :=
 (2<=vs.length->∀(E:Value->Shared->Prop) (Q:SortKind->Shared->Prop),Q knd s->wpAny (model prog w) A (keyKind' vs.toArray) Q E s) /\
 ∀ x∈vs,∀ y∈vs,∀(E:Value->Shared->Prop) (Q:Bool->Shared->Prop),Q (O.blt (key x) (key y)) s->wpAny (model prog w) A (keyLt' knd x y) Q E s
theorem mem_pairs {vs:List Value}{p:Keyed}(h:p∈(pairsOf vs).toList):p.1∈vs/\p.1=p.2:=by
 rw[pairsOf_toList] at h;obtain⟨i,hi⟩:=dz.mp h;rw[iV] at hi;refine⟨dz.mpr ⟨i,hi.1⟩,?_⟩;have:=hi.1.symm.trans hi.2;exact aG this
theorem cmp_of {vs:List Value}(h:Asks prog w A O key knd vs s):Ts.Cmp (model prog w) A E s knd O (fun p=>key p.1) (pairsOf vs):=by
 intro p hp q hq st Q hk hQ;rw[lt'_eq];refine au (fX ?_);rw[hk];refine au (wpS_lift (fb (h.2 p.1 (mem_pairs hp).1 q.1 (mem_pairs hq).1 _ _ ⟨rfl,?_⟩)));exact ap hQ
theorem out_of {vs:List Value}{xs:Array Keyed}(hp:xs.Perm (pairsOf vs))(hs:Ts.Seg (O:=O) (fun p=>key p.1) xs 0 (pairsOf vs).size) :
  (xs.map (·.2)).toList.Perm vs/\(xs.map (·.2)).toList.Pairwise fun x y=>O.kle (key x) (key y):=by
 have hp':=iC.mp hp;have hsz:xs.size=(pairsOf vs).size:=hp.size_eq;rw[Array.toList_map];refine⟨?_,?_⟩
 ·refine (hp'.map _).trans ?_;rw[pairsOf_toList,show (vs.zip vs).map (·.2)=vs from List.map_snd_zip (ao _)]
 ·rw[da];rw[<- hsz] at hs;refine (Ts.pw_of_seg hs).imp_of_mem fun {a b} ha hb hab=>?_
  have e1:=(mem_pairs (hp'.mem_iff.mp ha)).2;have e2:=(mem_pairs (hp'.mem_iff.mp hb)).2;rw[<- e1,<- e2];exact hab
theorem list_sort_any {a:Addr}{vs:List Value}{n:Nat}{P:Fin->Shared->Prop}(ho:s.heap.get? a=some (seqObj "list" vs.toArray n))(hz:vs.length<=sizeLine)
  (hA:∀ s':Shared,(∀ b o,b≠a->s.heap.get? b=some o->s'.heap.get? b=some o)->Asks prog w A O key knd vs s')
  (h:∀ out:Array Value,out.toList.Perm vs->(out.toList.Pairwise fun x y=>O.kle (key x) (key y))->P (.done (.ret .none)) {s with heap:=sortedHeap s.heap a vs out}) :
  wpAny (model prog w) A (Builtin.«list.sort» ⟨[.ref a],[]⟩) P E s:=by
 rw[list_sort_plain];have ha:a<s.heap.objs.size:=aC ho;have hsz:vs.toArray.size=vs.length:=by simp
 refine aa (listItems_at ho rfl ?_);refine aa (listUpdate_at ho rfl ?_ (hsz:=by rw[hsz];exact hz));obtain⟨e1,ho1⟩:∃ e1,(s.heap.update a (Obj.mapSeq fun _=>#[])).get? a=some (seqObj "list" #[] e1):=⟨_,get?_update_seq ho (fun _=>#[])⟩
 refine aa (seqEpoch_at ho1 rfl ?_);refine aa (wpAny_newTuple ?_ (by simpa using hz));refine aa (jK ?_);refine cu ?_;have ho6:(((s.heap.update a (Obj.mapSeq fun _=>#[])).push (seqObj "tuple" vs.toArray 0)).push (seqObj "list" #[] 0)).get? a=some (seqObj "list" #[] e1):=by
  rw[jS _ _ _ (by rw[size_push',Heap.size_update];exact aP (g6 ha)),jS _ _ _ (by rw[Heap.size_update];exact aP ha)];exact ho1
 have keep:∀ b o,b≠a->s.heap.get? b=some o->(((s.heap.update a (Obj.mapSeq fun _=>#[])).push (seqObj "tuple" vs.toArray 0)).push (seqObj "list" #[] 0)).get? b=some o:=fun b o hb e =>
  ag _ (ag _ ((bR ..).extBut b o hb e))
 show wpAny (model prog w) A _ P E {s with heap:=((s.heap.update a (Obj.mapSeq fun _=>#[])).push (seqObj "tuple" vs.toArray 0)).push (seqObj "list" #[] 0)};dsimp only;have hA':=hA {s with heap:=((s.heap.update a (Obj.mapSeq fun _=>#[])).push (seqObj "tuple" vs.toArray 0)).push (seqObj "list" #[] 0)} keep;by_cases h2:vs.toArray.size<2
 ·rw[if_pos h2,if_pos h2];refine aa (ai ?_);rw[StateT.run_pure];refine aa (ai ?_);dsimp only;refine aa (seqEpoch_at ho6 rfl ?_);refine aa (listUpdate_at ho6 rfl ?_ (hsz2:=by rw[gv];show (pairsOf vs).size<=_;rw[pairsOf_size];omega));simp only[bne_self_eq_false,aU,if_false]
  have o:=out_of (O:=O) (key:=key) (vs:=vs) (Array.Perm.refl _) (fun i j h0 hij hj=>by
   rw[pairsOf_size] at hj;have:i=j:=by omega
   subst this;exact cJ _)
  exact ai (h _ o.1 o.2)
 ·rw[if_neg h2,if_neg h2];refine aa (hA'.1 (by omega) _ _ ?_)
  refine aa (cp (Ts.wpS_sR (O:=O) (key:=fun p=>key p.1) (a₀:=pairsOf vs) (knd:=knd) (st:=ft knd (vs.toArray.zip vs.toArray) #[] 7 none)
   (Q:=fun _ st'=>(arrOf st').Perm (pairsOf vs)/\failedOf st'=none/\Ts.Seg (O:=O) (fun p=>key p.1) (arrOf st') 0 (pairsOf vs).size)
   (cmp_of hA') ⟨Array.Perm.refl _,rfl,rfl⟩ rfl (by rw[pairsOf_size];omega) fun st' hB hS=>⟨hB.perm,hB.failed,hS⟩) ?_ fun _ _ e=>e)
  rintro⟨⟨⟩,st'⟩ s' ⟨rfl,hp,hf,hs⟩;dsimp only;refine aa (seqEpoch_at ho6 rfl ?_);refine aa (listUpdate_at ho6 rfl ?_ (hsz2:=by refine bj (gn ((gv ..).trans (hp.size_eq.trans (pairsOf_size _)))) ?_;omega));rw[hf];simp only[bne_self_eq_false,aU,if_false];have o:=out_of hp hs;exact ai (h _ o.1 o.2)
def Coll (prog:Program)(w:World)(A:Around)(r:Addr)(s:Shared)(C:List Value->Prop):Prop :=
 ∀(E:Value->Shared->Prop) (R:List Value->Shared->Prop),(∀(h':Heap) (tk:Nat) (vs:List Value),(∀ b o,s.heap.get? b=some o->h'.get? b=some o)->C vs->R vs {s with heap:=h',toks:=tk})->wpAny (model prog w) A (collect (.ref r)) R E s
theorem sorted_any {r:Addr}{C:List Value->Prop}{Q:Value->Shared->Prop}(hc:Coll prog w A.in1 r s C)(hz:∀ vs,C vs->vs.length<=sizeLine)
  (hA:∀(vs:List Value) (s':Shared),C vs->(∀ b o,s.heap.get? b=some o->s'.heap.get? b=some o)->Asks prog w A.in1.in1 O key knd vs s')
  (h:∀(vs out:List Value) (h1 h':Heap) (tk n:Nat),C vs->out.Perm vs->(out.Pairwise fun x y=>O.kle (key x) (key y))->(∀ b o,s.heap.get? b=some o->h1.get? b=some o)->(∀ b o,h1.get? b=some o->h'.get? b=some o) ->
   h'.get? h1.objs.size=some (seqObj "list" out.toArray n)->Q (.ref h1.objs.size) {s with heap:=h',toks:=tk}):wpAny (model prog w) A (call (.builtin "sorted") [.ref r]) Q E s:=by
 refine Calls.call_function_entry kind_sorted plain_sorted entry_sorted (args_sorted1 _) ?_;unfold Builtin.«sorted»;refine aa (m:=checkCount "sorted" 1 1 _) (ai ?_);refine aa (hc _ _ fun h1 tk vs hk hC=>?_);refine aa (jK ?_ (by simpa using hz vs hC));have hoL:(h1.push (seqObj "list" vs.toArray 0)).get? h1.objs.size=some (seqObj "list" vs.toArray 0):=aB _ rfl;refine aa (cu (bO slot_list_sort ⟨_,hoL,rfl⟩ entry_list_sort (list_sort_any (O:=O) (key:=key) (knd:=knd) hoL (hz vs hC) (fun s' hs'=>hA vs s' hC fun b o e=>?_) fun out hp hs=>⟨_,rfl,?_⟩) (args_list_sort _)))
 ·exact hs' b o (aP (aC (hk b o e))) (ag _ (hk b o e))
 ·refine ai ⟨_,rfl,?_⟩;obtain⟨n',hn'⟩:∃ n',(sortedHeap (h1.push (seqObj "list" vs.toArray 0)) h1.objs.size vs out).get? h1.objs.size=some (seqObj "list" out n'):=by
   first | exact sortedHeap_at hoL | exact⟨_,sortedHeap_at hoL⟩
  refine h vs out.toList h1 _ tk n' hC hp hs hk (fun b o e=>?_) ?_
  ·have hb:b≠h1.objs.size:=aP (aC e);have hlt:b<(h1.push (seqObj "list" vs.toArray 0)).objs.size:=by rw[size_push'];exact g6 (aC e)
   rw[sortedHeap_old hb hlt];exact ag _ e
  ·rw[jr];exact hn'
def intOrd:KeyOrd where
 α:=Int
 blt:=fun a b=>decide (a<b)
 irrefl:=fun a=>by simp
 trans:=fun a b c h1 h2=>by simp at *;omega
 negTrans:=fun a b c h=>by simp at *;omega
 total:=fun a b h1 h2=>by simp at *;omega
def intKey:Value->Int
 | .int i _=>i
 | _=>0
theorem lex_irrefl:∀ a:List Int,HT.lexLt a a=false
 | []=>rfl
 | x::r=>by rw[HT.lexLt_cons,if_pos rfl];exact lex_irrefl r
theorem lex_trans:∀ a b c:List Int,HT.lexLt a b=true->HT.lexLt b c=true->HT.lexLt a c=true
 | [],[],_,h,_=>by cases h
 | [],_::_,[],_,h=>by cases h
 | [],_::_,_::_,_,_=>rfl
 | _::_,[],_,h,_=>by cases h
 | _::_,_::_,[],_,h=>by cases h
 | x::a,y::b,z::c,h1,h2=>by
  rw[HT.lexLt_cons] at h1 h2 ⊢;by_cases e1:x=y
  ·rw[if_pos e1] at h1;subst e1;by_cases e2:x=z
   ·rw[if_pos e2] at h2 ⊢;exact lex_trans a b c h1 h2
   ·rw[if_neg e2] at h2 ⊢;exact h2
  ·rw[if_neg e1] at h1;by_cases e2:y=z
   ·rw[if_pos e2] at h2;subst e2;rw[if_neg e1];exact h1
   ·rw[if_neg e2] at h2;simp at h1 h2;rw[if_neg (by omega)];simp;omega
theorem lex_total:∀ a b:List Int,HT.lexLt a b=false->HT.lexLt b a=false->a=b
 | [],[],_,_=>rfl
 | [],_::_,h,_=>by cases h
 | _::_,[],_,h=>by cases h
 | x::a,y::b,h1,h2=>by
  rw[HT.lexLt_cons] at h1 h2;by_cases e:x=y
  ·subst e;rw[if_pos rfl] at h1 h2;rw[lex_total a b h1 h2]
  ·rw[if_neg e] at h1;rw[if_neg (fun z=>e z.symm)] at h2;simp at h1 h2;omega
def lexOrd:KeyOrd where
 α:=List Int
 blt:=HT.lexLt
 irrefl:=lex_irrefl
 trans:=lex_trans
 negTrans:=fun a b c h=>by
  cases h1:HT.lexLt a b with
  | true=>exact .inl rfl
  | false =>
   right;cases h2:HT.lexLt b a with
   | true=>exact lex_trans b a c h2 h
   | false=>rw[<- lex_total a b h1 h2];exact h
 total:=lex_total
theorem asks_ints {vs:List Value}{ns:List Int}(hI:IntsAre vs ns):Asks prog w A intOrd intKey oneType' vs s:=by
 refine⟨fun h2 E Q hq=>?_,fun x hx y hy E Q hq=>?_⟩
 ·match vs,h2,hI with
  | vq::vz::rest,_,hI=>rw[keyKind_ints hI];exact ai hq
 ·have key:∀ {vs:List Value} {ns:List Int},IntsAre vs ns->∀ x∈vs,∃ i t,x=cG i t:=by
   intro vs ns h;induction h with
   | nil=>intro x hx;cases hx
   | cons n t _ ih =>
    intro x hx;rcases aD.mp hx with rfl | hx
    ·exact⟨n,t,rfl⟩
    ·exact ih x hx
  obtain⟨i,t,rfl⟩:=key hI x hx;obtain⟨j,u,rfl⟩:=key hI y hy;exact PySem.W.kat_lt_int hq
end
end Srt
namespace Srt
open PySem PyProof.Rows PySem.W
section
variable {prog:Program}{w:World}{A:Around}{E:Value->Shared->Prop}{s:Shared}
def TupInts (h:Heap)(v:Value)(ks:List Int):Prop:=∃ a o items n,v=.ref a/\h.get? a=some o/\o.cls=.type "tuple"/\o.data=.seq items n/\IntsAre items.toList ks/\ks≠[]
theorem TupInts.keep {h h':Heap}{v:Value}{ks:List Int}(t:TupInts h v ks)(k:∀ b o,h.get? b=some o->h'.get? b=some o):TupInts h' v ks :=
 let ⟨a,o,items,n,e,ho,r⟩:=t;⟨a,o,items,n,e,k _ _ ho,r⟩
def tupKey (h:Heap):Value->List Int
 | .ref a=>match h.get? a with
  | some o=>match o.data with
   | .seq items _=>items.toList.map intKey
   | _=>[]
  | none=>[]
 | _=>[]
theorem intKeys_of {us:List Value}{ns:List Int}(h:IntsAre us ns):us.map intKey=ns:=by
 induction h with
 | nil=>rfl
 | cons n t _ ih=>rw[aL,ih];rfl
theorem tupKey_of {h:Heap}{v:Value}{ks:List Int}(t:TupInts h v ks):tupKey h v=ks:=by
 obtain⟨a,o,items,n,rfl,ho,hc,hd,hi,_⟩:=t;simp only[tupKey,ho,hd];exact intKeys_of hi
theorem katlex_ints {b fin:Bool}{Q:Bool->Shared->Prop}:∀ {us:List Value} {ns:List Int} {ws:List Value} {ms:List Int} (i:Nat),IntsAre us ns->IntsAre ws ms->fin=decide (us.length<ws.length)->Q (HT.lexLt ns ms) s ->
  KatLex prog w A b fin Q (us.zip ws) i s
 | _,_,_,_,_,.nil,.nil,hf,hq=>by subst hf;exact hq
 | _,_,_,_,_,.nil,.cons m u h,hf,hq=>by
  subst hf;show Q (decide (0<_)) s;rw[aH,decide_eq_true (fK _)];exact hq
 | _,_,_,_,_,.cons m u h,.nil,hf,hq=>by
  subst hf;show Q (decide (_<0)) s;rw[decide_eq_false (cL _)];exact hq
 | _,_,_,_,i,.cons n t h,.cons m u k,hf,hq=>by
  rw[List.zip_cons_cons];refine kat_cons (wpAny_eqBool_int ?_);rw[HT.lexLt_cons] at hq;by_cases e:n=m
  ·rw[if_pos e] at hq;have eb:(n == m)=true:=beq_iff_eq.mpr e;rw[eb];exact kat_yes (katlex_ints (i+1) h k (by rw[hf,aH,aH];simp) hq)
  ·rw[if_neg e] at hq;have eb:(n == m)=false:=beq_eq_false_iff_ne.mpr e;rw[eb];refine kat_no ?_;cases hb:(b && i == 0) with
   | true=>exact oneLt_int hq
   | false=>exact kat_one _ _ (PyProof.Rows.lt_int hq)
theorem katTups_of {h:Heap}:∀ {vs:List Value},(∀ v∈vs,∃ ks,TupInts h v ks)->∃ fs,KatTups h vs fs/\fs.length=vs.length/\∀ f∈fs,∃ i t,f=cG i t
 | [],_=>⟨[],.nil,rfl,fun f hf=>nomatch hf⟩
 | v::vs,hv=>by
  obtain⟨fs,k,hl,hf⟩:=katTups_of (vs:=vs) fun u hu=>hv u (aM _ hu)
  obtain⟨ks,a,o,items,n,rfl,ho,hc,hd,hi,hne⟩:=hv v aN;obtain⟨i,t,r,e⟩:∃ i t r,items.toList=cG i t::r:=by
   generalize items.toList=l at hi;cases hi with
   | nil=>exact absurd rfl hne
   | cons n t _=>exact⟨n,t,_,rfl⟩
  refine⟨.int i t::fs,.cons ho hc hd ?_ k,by rw[aH,aH,hl],fun f hf'=>?_⟩
  ·rw[<- bC,e];rfl
  ·rcases aD.mp hf' with rfl | q
   ·exact⟨i,t,rfl⟩
   ·exact hf f q
theorem asks_tups {h:Heap}{vs:List Value}(hv:∀ v∈vs,∃ ks,TupInts h v ks)(hk:∀ b o,h.get? b=some o->s.heap.get? b=some o):Asks prog w A lexOrd (tupKey h) (tuples' true) vs s:=by
 refine⟨fun h2 E Q hq=>?_,fun x hx y hy E Q hq=>?_⟩
 ·obtain⟨fs,kt,hl,hf⟩:=katTups_of (h:=s.heap) (vs:=vs) fun v hm=>let ⟨ks,t⟩:=hv v hm;⟨ks,t.keep hk⟩
  refine kat_kind (T:=.type "int") kt (by omega) (fun f hm=>?_) (by decide) hq;obtain⟨i,t,rfl⟩:=hf f hm;exact .now
 ·obtain⟨ks,tx⟩:=hv x hx;obtain⟨ms,ty⟩:=hv y hy;rw[tupKey_of tx,tupKey_of ty] at hq;obtain⟨a,o,items,n,rfl,ho,hc,hd,hi,_⟩:=tx.keep hk;obtain⟨a',o',items',n',rfl,ho',hc',hd',hi',_⟩:=ty.keep hk;exact kat_lt ho hd ho' hd' (katlex_ints 0 hi hi' (by simp) hq)
theorem coll_seq {l:Addr}{o:Obj}{c:String}{vs:List Value}{n:Nat}(ho:s.heap.get? l=some o)(hcl:o.cls=.type c)(hcc:c="list"\/c="tuple")(hd:o.data=.seq vs.toArray n)(hsz:vs.length<=sizeLine) :
  Coll prog w A l s fun us=>us=vs:=by
 intro E R h;unfold collect;refine aa (js (codeAny_builtin j9 ?_));show wpAny _ _ (newList [] >>= fun x=>again (.builtin "list.__iadd__" ⟨[x,.ref l],[]⟩)) _ _ s;refine aa (jK (ai ⟨jP _ (by decide +kernel),codeAny_builtin entry_list_iadd' ?_⟩));show wpAny _ _ (Builtin.List.listExtendWith (.ref s.heap.objs.size) (.ref l) (.ref s.heap.objs.size)) _ _ {s with heap:=s.heap.push (seqObj "list" #[] 0)};unfold Builtin.List.listExtendWith;have ho':(s.heap.push (seqObj "list" #[] 0)).get? l=some o:=ag _ ho;refine aa (eR (T:=c) ⟨o,ho',hcl⟩ ?_);have ht:(Builtin.List.listSameRef (.ref s.heap.objs.size) (.ref l) || (cX c == cX "list") || (cX c == cX "tuple"))=true:=by
  rcases hcc with rfl | rfl
  ·rw[show (cX "list" == cX "list")=true from rfl];simp
  ·rw[show (cX "tuple" == cX "tuple")=true from rfl];simp
 rw[if_pos ht];refine aa (listItems_at ho' hd ?_);refine aa (listItems_at (xs:=#[]) (n:=0) (aB _ rfl) rfl ?_);rw[if_neg (by simp)];refine aa (listUpdate_at (xs:=#[]) (n:=0) (aB _ rfl) rfl ?_ (bf _) (by show (#[]++vs.toArray).size<=sizeLine+1;simp only[Array.size_append,aK,cK];omega));refine ai ?_
 show wpAny (model prog w) A (do
   let q <- load s.heap.objs.size
   match q.data with
   | .seq xs _=>pure xs.toList
   | _=>unsupported "internal:collect") R E {s with heap:=(s.heap.push (seqObj "list" #[] 0)).update s.heap.objs.size (Obj.mapSeq (·++vs.toArray))}
 refine aa (jF (get?_update_seq (aB _ rfl) _) ?_);show wpAny _ _ (pure ((#[]:Array Value)++vs.toArray).toList) R E _;rw[show ((#[]:Array Value)++vs.toArray).toList=vs by simp];exact ai (h _ s.toks vs (fun b o e=>(bR ..).extBut b o (aP (aC e)) (ag _ e)) rfl)
end
end Srt
namespace Srt
open PySem PyProof.Rows PySem.W
section
variable {prog:Program}{w:World}{A:Around}{E:Value->Shared->Prop}{s:Shared}
def RawD (h:Heap)(d:Addr)(es:Array DictEntry)(ep:Nat):Prop:=∃ o,h.get? d=some o/\o.ExactDict/\o.data=.dict es ep
theorem RawD.typeIs {d:Addr}{es:Array DictEntry}{ep:Nat}(r:RawD s.heap d es ep):s.TypeIs (.ref d) "dict":=let ⟨o,ho,hx,_⟩:=r;⟨o,ho,hx.1⟩
theorem RawD.keep {h h':Heap}{d:Addr}{es:Array DictEntry}{ep:Nat}(r:RawD h d es ep)(k:∀ o,h.get? d=some o->h'.get? d=some o):RawD h' d es ep:=let ⟨o,ho,q⟩:=r;⟨o,k _ ho,q⟩
theorem raw_iter {d:Addr}{es:Array DictEntry}{ep:Nat}{Q:Value->Shared->Prop}(hd:(d == sysModules)=false)(r:RawD s.heap d es ep)
  (hQ:Q (.ref s.heap.objs.size) {s with heap:=s.heap.push {cls:=.type "dict_keyiterator",data:=.fields #[.ref d,.int 0 0,.int es.size 0,.int ep 0]}}) :
  wpAny (model prog w) A (pyIter (.ref d)) Q E s:=by
 obtain⟨o,ho,hx,hdat⟩:=id r;have hT:=r.typeIs;refine iF hT F.slot_dict_iter (bO F.slot_dict_iter hT F.entry_dict_iter ?_ (F.args_dict_iter_1 _));unfold Builtin.«dict.__iter__»;refine aa ?_;unfold Builtin.Dict.dictSlotNone;refine aa (wpAny_notOrdered_dict hT (ai ?_));show wpAny _ _ (Builtin.Dict.showsAll d >>= _) _ _ s;unfold Builtin.Dict.showsAll;rw[if_neg (by rw[hd];exact aO)];refine aa (ai (aa (gb ho hdat (aa (jg ho hdat ?_)))));refine aa (bo (ai ⟨_,rfl, "dict_keyiterator",_,⟨_,aB _ rfl,rfl⟩,F.slot_dict_keyiterator_next.lookup,?_⟩));simpa [rawInt] using hQ
theorem raw_next {it d:Addr}{i ep:Nat}{es:Array DictEntry}{Q:Option Value->Shared->Prop}(hit:s.heap.IsKeyIter it d i es.size ep)(r:RawD s.heap d es ep)(hlt:i<es.size)
  (hQ:∀ h',h'.IsKeyIter it d (i+1) es.size ep->dF it s.heap h'->Q (some es[i].key) {s with heap:=h'}):wpAny (model prog w) A (pyNext (.ref it)) Q E s:=by
 obtain⟨o,ho,hc,hd⟩:=id hit;obtain⟨od,hod,hcd,hdd⟩:=id r;unfold pyNext
 refine aa (fb (bL (name:=Str.ofString "__next__") hit.typeIs dR
  (bO dR hit.typeIs iK ?_ (im _))))
 refine aa (ai (aa (aa ?_)));first | refine aa (dQ hit.typeIs (ai ?_)) | refine aa (eS hit.typeIs (ai ?_))
 refine aa (gP ho hd ?_);have hown:fW "dict_keyiterator"=false:=by decide
 simp only[hown,aU,if_false];show wpAny _ _ (if (bF d == cw)=true then _ else _) _ _ s;rw[if_neg (show ¬ ((bF d == cw)=true) from aO)];refine aa (ai (aa (gb hod hdd ?_)));rw[if_neg (by simp)];refine aa (ai (aa (jg hod hdd ?_)));rw[if_neg (by simp)];refine ai ?_;simp only[show ¬ ((i:Int)<0) from by omega,if_false,b6,aX hlt];refine aa ?_;first | refine aa (dQ hit.typeIs (ai ?_)) | refine aa (eS hit.typeIs (ai ?_))
 refine aa (j4 hit.typeIs ?_);show wpAny _ _ (setField (.ref it) 1 (rawInt ((i:Int)+1)) >>= _) _ _ s;refine aa (eN ho hd (by simp) ?_);have hit':(s.heap.update it (gL (·.setIfInBounds 1 (rawInt ((i:Int)+1))))).IsKeyIter it d (i+1) es.size ep :=
  ⟨_,cQ _ ho (fg (cT hd _)),(fR ..).trans hc,by rw[cT hd];simp[rawInt]⟩
 refine aa (cu ?_);refine aa (j4 (s:={s with heap:=s.heap.update it (gL (·.setIfInBounds 1 (rawInt ((i:Int)+1))))}) hit'.typeIs ?_);show wpAny _ _ (pure es[i].key) _ _ _;exact ai (ai ⟨_,rfl,ai (hQ _ hit' (bR ..))⟩)
theorem raw_end {it d:Addr}{i ep:Nat}{es:Array DictEntry}{Q:Option Value->Shared->Prop}(hh:A.handled=none)(hit:s.heap.IsKeyIter it d i es.size ep)(r:RawD s.heap d es ep)(hge:es.size<=i)
  (hQ:∀ h',jG it s.heap h'->Q none {s with heap:=h'}):wpAny (model prog w) A (pyNext (.ref it)) Q E s:=by
 obtain⟨o,ho,hc,hd⟩:=id hit;obtain⟨od,hod,hcd,hdd⟩:=id r;unfold pyNext
 refine aa (fb (bL (name:=Str.ofString "__next__") hit.typeIs dR
  (bO dR hit.typeIs iK ?_ (im _))))
 refine aa (ai (aa (aa ?_)));first | refine aa (dQ hit.typeIs (ai ?_)) | refine aa (eS hit.typeIs (ai ?_))
 refine aa (gP ho hd ?_);have hown:fW "dict_keyiterator"=false:=by decide
 simp only[hown,aU,if_false];show wpAny _ _ (if (bF d == cw)=true then _ else _) _ _ s;rw[if_neg (show ¬ ((bF d == cw)=true) from aO)];refine aa (ai (aa (gb hod hdd ?_)));rw[if_neg (by simp)];refine aa (ai (aa (jg hod hdd ?_)));rw[if_neg (by simp)];refine ai ?_;simp only[show ¬ ((i:Int)<0) from by omega,if_false,b6,bN hge];refine aa ?_;first | refine aa (dQ hit.typeIs (ai ?_)) | refine aa (eS hit.typeIs (ai ?_))
 show wpAny _ _ (setField (.ref it) 0 .none >>= _) _ _ s;refine aa (eN ho hd (by simp) ?_);show wpAny _ _ (newExc (.type "StopIteration") [] >>= _) _ _ _;refine aa ?_;simp only[newExc,newTuple];refine aa (bo ?_ (by size_fits));refine aa (m:=firstArgMember _ _) (gW (a:=cw) (by first | rfl | (simp only[firstArgMember];rfl)) ?_);refine bo ?_ (by size_fits);simp only[raiseNew];refine aa (jL ?_);rw[show A.in1.handled=none from hh];refine aa (ai (ka ?_));refine aa (fB (T:="StopIteration") (b:=true) ⟨_,aB _ rfl,rfl⟩ isSubtype_stop ?_);exact ai (hQ _ (((bR ..).extBut.push _).push _))
theorem raw_walks (hh:A.handled=none)(I d:Addr)(hne:d≠I)(es:Array DictEntry)(ep:Nat) :
  Walks prog w A I [I,d] [I] es.size (fun i v=>∃ e,es[i]?=some e/\e.key=v) (fun i h=>h.IsKeyIter I d i es.size ep/\RawD h d es ep) where
 sub:=fun b hb=>by simp at hb;simp[hb]
 frame:=fun _ _ _ st hk=>⟨st.1.at fun o e=>hk I (by simp) o e,st.2.keep fun o e=>hk d (by simp) o e⟩
 item:=fun i s Q E hi st hQ=>by
  refine raw_next st.1 st.2 hi fun h' hit' hs'=>?_
  exact hQ es[i].key h' s.toks ⟨es[i],by simp[hi],rfl⟩ ⟨hit',st.2.keep fun o e=>hs'.extBut d o hne e⟩ fun b o hb e=>hs'.extBut b o (fun h=>hb (by simp[h])) e
 done:=fun s Q E st hQ=>raw_end hh st.1 st.2 (ao _) fun h' he'=>hQ h' s.toks fun b o hb e=>he' b o (fun h=>hb (by simp[h])) e
 self:=fun _ _ _ _ st hQ=>wpAny_pyIter_keyiter st.1 hQ
theorem raw_src {d:Addr}{es:Array DictEntry}{ep:Nat}(lo:(d == sysModules)=false):KdlSrc prog w "dict" d d es.size (fun i v=>∃ e,es[i]?=some e/\e.key=v) (fun h=>RawD h d es ep) where
 type:=fun _ hm=>hm.typeIs
 there:=fun _ hm=>let ⟨_,ho,_⟩:=hm;⟨aC ho,aC ho⟩
 keep:=fun _ _ hm hk=>hm.keep fun o e=>hk d (.inl rfl) o e
 notList:=by decide
 notTuple:=by decide
 hint:=fun _ _ _ _ hm hq=>kdl_hint_dict hm.typeIs hq
 iter:=fun _ _ hh hm=>⟨_,_,(fun _ _ hq=>raw_iter lo hm hq),raw_walks hh _ d (let ⟨_,ho,_⟩:=hm;aP (aC ho)) es ep,⟨⟨_,aB _ rfl,rfl,rfl⟩,hm.keep fun _ e=>ag _ e⟩⟩
theorem coll_raw {d:Addr}{es:Array DictEntry}{ep:Nat}(hh:A.handled=none)(lo:(d == sysModules)=false)(r:RawD s.heap d es ep)(hz:es.size<=sizeLine):Coll prog w A d s fun us=>us=es.toList.map (·.key):=by
 intro E R h;refine kdu_collect (raw_src (ep:=ep) lo) hh r hz fun h' tk acc hk hI=>h h' tk acc.toList hk ?_
 apply dD;intro i;rw[bC,aF,bC];rcases cc i es.size with hi | hi
 ·have hi':i<acc.size:=by rw[hI.1];exact hi
  obtain⟨e,he,hk⟩:=hI.2 i acc[i] (aX hi');rw[aX hi',he];exact congrArg some hk.symm
 ·rw[bN (by rw[hI.1];exact hi),bN hi];rfl
end
end Srt
namespace L2
open PySem PySem.Spec PyProof.Rows
theorem a2I {α β:Type}{f:α->β}:∀ {l m:List β},l.Perm m->∀ {ps:List α},m=ps.map f->∃ qs:List α,qs.Perm ps/\l=qs.map f:=by
 intro l m h;induction h with
 | nil =>
  intro ps e;cases ps with
  | nil=>exact⟨[],.nil,rfl⟩
  | cons _ _=>cases e
 | @cons x lz lj _ ih =>
  intro ps e;cases ps with
  | nil=>cases e
  | cons p r =>
   rw[aL] at e;injection e with e1 e2
   obtain⟨qs,h1,h2⟩:=ih e2;exact⟨p::qs,h1.cons _,by rw[aL,h2,e1]⟩
 | swap x y l =>
  intro ps e
  match ps,e with
  | p::q::r,e =>
   rw[aL,aL] at e;injection e with e1 e2
   injection e2 with e2 e3
   exact⟨q::p::r,.swap ..,by rw[aL,aL,<- e1,<- e2,<- e3]⟩
 | trans _ _ ih1 ih2 =>
  intro ps e;obtain⟨qs,h1,h2⟩:=ih2 e;obtain⟨rs,h3,h4⟩:=ih1 h2;exact⟨rs,h3.trans h1,h4⟩
theorem a0n {α:Type}{f:α->Addr}:∀ {ps:List α} {us:List Value},C8 (ps.map fun x=>V.ref (f x)) us->us=ps.map fun x=>bF (f x)
 | [],_,.nil=>rfl
 | x::r,_,.cons h t=>by
  cases (show _=bF (f x) from h);rw[aL,<- a0n t]
theorem a2c {α:Type}{f:α->Addr}:∀ ps:List α,C8 (ps.map fun x=>V.ref (f x)) (ps.map fun x=>bF (f x))
 | []=>.nil
 | x::r=>.cons rfl (a2c r)
theorem T5:∀ {us:List Value},(∀ u∈us,∃ i t,u=cG i t)->IntsAre us (us.map Srt.intKey)
 | [],_=>.nil
 | u::r,h=>by
  obtain⟨i,t,rfl⟩:=h u aN;exact .cons i t (T5 fun v hv=>h v (aM _ hv))
theorem a8n {us:List Value}{ns:List Int}(h:IntsAre us ns):∀ u∈us,∃ i t,u=cG i t:=by
 induction h with
 | nil=>intro x hx;cases hx
 | cons n t _ ih =>
  intro x hx;rcases aD.mp hx with rfl | hx
  ·exact⟨n,t,rfl⟩
  ·exact ih x hx
def b1R (K:ae)(H:Hp)(p:Addr)(ns:List Int):Prop :=
 SqL K H p (ns.map V.int)\/SqT K H p (ns.map V.int)\/∃ kvs,H p=some (.dK kvs)/\kvs.map (·.1)=ns.map (bX:Int->Key)
section
variable {X:Cx}{pins:List (Addr×Obj)}{σ:St}{H:Hp}{s:Shared}
theorem Inv.collI (I:Inv X pins σ H s){A:Around}(hh:A.handled=none){p:Addr}{ns:List Int}(h:b1R X.K H p ns):Srt.Coll X.prog X.w A p s fun us=>IntsAre us ns/\us.length<=sizeLine:=by
 have mono:∀ {vs:List Value},IntsAre vs ns->vs.length<=sizeLine->Srt.Coll X.prog X.w A p s (fun us=>us=vs)->Srt.Coll X.prog X.w A p s fun us=>IntsAre us ns/\us.length<=sizeLine:=fun hi hl c E R k =>
  c E R fun h' tk us kp e=>k h' tk us kp (by subst e;exact⟨hi,hl⟩)
 rcases h with h | h | ⟨kvs,h,hk⟩
 ·obtain⟨its,r,pl,hz⟩:=I.list h;obtain⟨o,ho,hc,n,hd⟩:=pl.isList;have hl:its.length<=sizeLine:=by rw[<- r.length];exact hz
  exact mono (S5 r) hl (Srt.coll_seq ho hc (.inl rfl) hd hl)
 ·obtain⟨its,r,pl,hz⟩:=I.tuple h;obtain⟨o,ho,hc,n,hd⟩:=pl;have hl:its.length<=sizeLine:=by rw[<- r.length];exact hz
  exact mono (S5 r) hl (Srt.coll_seq ho hc (.inr rfl) hd hl)
 ·obtain⟨z,lo,vs,rel,o,es,ep,ho,hx,hd,hkeys,hp,hn⟩:=a2q I.hok h;have hl:es.toList.length=kvs.length:=by rw[hp.length,rel.length]
  have key:∀ {l:List DictEntry} {vs:List (Key×Value)} {ns:List Int},Pairs (L1 X.prog X.w) l vs->vs.map (·.1)=ns.map (bX:Int->Key)->IntsAre (l.map (·.key)) ns:=by
   intro l vs ns hp;induction hp generalizing ns with
   | nil =>
    intro e;cases ns with
    | nil=>exact .nil
    | cons _ _=>cases e
   | @cons e kv es kvs h1 h2 _ ih =>
    intro q;cases ns with
    | nil=>cases q
    | cons n r =>
     rw[aL,aL] at q;injection q with q1 q2
     rw[q1] at h1;have hi:Value.isInt n e.key=true:=h1;obtain⟨t,et⟩:=fM hi;rw[aL,et];exact .cons n t (ih q2)
  have hi:=key hp (by rw[<- rel.keys];exact hk);refine mono hi ?_ (Srt.coll_raw hh lo ⟨o,ho,hx,hd⟩ ?_)
  ·rw[ab,hl];exact z
  ·rw[<- aY,hl];exact z
theorem a3g (hc:X.A.handled=none):L4 X (.builtin "sorted") (fun xs H Q=>∃(p:Addr) (ns:List Int),xs=[.ref p]/\b1R X.K H p ns/\∀(ns':List Int) (l:Addr),ns'.Perm ns->ns'.Pairwise (·<=·)->H l=none->Q (.ref l) (upd H l (.lst (ns'.map V.int)))):=by
 intro pins s σ H xs us Q I r h;obtain⟨p,ns,rfl,src,q⟩:=h;obtain⟨u,rfl,rx⟩:=Q5 r;cases rx;refine Srt.sorted_any (O:=Srt.intOrd) (key:=Srt.intKey) (knd:=oneType') (I.collI (A:=X.A.in1) hc src) (fun vs h=>h.2) (fun vs s' h _=>Srt.asks_ints h.1) fun vs out h1 h' tk n hC hp hs k1 k2 hD=>?_
 have hall:∀ u∈out,∃ i t,u=cG i t:=fun u hu=>a8n hC.1 u (hp.mem_iff.mp hu)
 have hio:=T5 hall;have I1:Inv X pins σ H {s with heap:=h1,toks:=tk}:=I.kept k1;have hlen:(out.map Srt.intKey).length<=sizeLine:=by rw[ab,hp.length_eq];exact hC.2
 refine⟨.ref h1.objs.size,_,I1.laid (t':=tk) (o:=.lst ((out.map Srt.intKey).map V.int)) k2 (ao _) ⟨by rw[ab];exact hlen,out,n,Y0 hio,hD⟩,rfl,q _ _ ?_ ?_ I1.fresh⟩
 ·have:=hp.map Srt.intKey;rw[Srt.intKeys_of hC.1] at this;exact this
 ·rw[da];exact hs.imp fun {a b} hab=>by
   have hab:decide (Srt.intKey b<Srt.intKey a)=false:=hab;simp at hab;exact hab
def b1Q (K:ae)(H:Hp)(p:Addr)(ps:List (Addr×List Int)):Prop :=
 (SqL K H p (ps.map fun x=>V.ref x.1)\/SqT K H p (ps.map fun x=>V.ref x.1))/\∀ x∈ps,H x.1=some (.tup (x.2.map V.int))/\x.2≠[]
theorem Inv.tupInts (I:Inv X pins σ H s){a:Addr}{ks:List Int}(h:H a=some (.tup (ks.map V.int)))(hne:ks≠[]):Srt.TupInts s.heap (.ref a) ks:=by
 obtain⟨its,r,⟨o,ho,hc,n,hd⟩,hz⟩:=I.tuple (SqT.of h);exact⟨a,o,its.toArray,n,rfl,ho,hc,hd,S5 r,hne⟩
theorem V8 {p:Addr}{vs:List Value}{C:List (Addr×List Int)->Prop}{Q:VK}(I:Inv X pins σ H s)(hcol:Srt.Coll X.prog X.w X.A.in1 p s fun us=>us=vs)(ps:List (Addr×List Int))(hvs:vs=ps.map fun x=>bF x.1)(hz:ps.length<=sizeLine)
  (hall:∀ x∈ps,H x.1=some (.tup (x.2.map V.int))/\x.2≠[]) (q:∀(ps':List (Addr×List Int)) (l:Addr),ps'.Perm ps->(ps'.Pairwise fun x y=>HT.lexLt y.2 x.2=false)->H l=none->Q (.ref l) (upd H l (.lst (ps'.map fun x=>V.ref x.1)))) :
  wpAny (model X.prog X.w) X.A (call (.builtin "sorted") [.ref p]) (EP X pins σ Q) X.xe s:=by
 subst hvs;have ht:∀ x∈ps,Srt.TupInts s.heap (.ref x.1) x.2:=fun x hx=>I.tupInts (hall x hx).1 (hall x hx).2
 refine Srt.sorted_any (O:=Srt.lexOrd) (key:=Srt.tupKey s.heap) (knd:=tuples' true) hcol (fun vs e=>by subst e;rw[ab];exact hz) (fun vs s' e k=>?_) fun vs out h1 h' tk n e hp hs k1 k2 hD=>?_
 ·subst e;refine Srt.asks_tups (fun v hv=>?_) k;obtain⟨x,hx,rfl⟩:=bD.mp hv;exact⟨x.2,ht x hx⟩
 ·subst e;obtain⟨ps',hpp,rfl⟩:=a2I hp rfl;have I1:Inv X pins σ H {s with heap:=h1,toks:=tk}:=I.kept k1;refine⟨.ref h1.objs.size,_,I1.laid (t':=tk) (o:=.lst (ps'.map fun x=>V.ref x.1)) k2 (ao _) ⟨by rw[ab,hpp.length_eq];exact hz,_,n,a2c (f:=fun x:Addr×List Int=>x.1) ps',hD⟩,rfl,q _ _ hpp ?_ I1.fresh⟩;rw[da] at hs;refine hs.imp_of_mem fun {a b} ha hb hab=>?_
  have e1:=Srt.tupKey_of (ht a (hpp.mem_iff.mp ha));have e2:=Srt.tupKey_of (ht b (hpp.mem_iff.mp hb));have hab:HT.lexLt (Srt.tupKey s.heap (.ref b.1)) (Srt.tupKey s.heap (.ref a.1))=false:=hab;rw[e1,e2] at hab;exact hab
theorem a3f:L4 X (.builtin "sorted") (fun xs H Q=>∃(p:Addr) (ps:List (Addr×List Int)),xs=[.ref p]/\b1Q X.K H p ps/\∀(ps':List (Addr×List Int)) (l:Addr),ps'.Perm ps->(ps'.Pairwise fun x y=>HT.lexLt y.2 x.2=false)->H l=none->Q (.ref l) (upd H l (.lst (ps'.map fun x=>V.ref x.1)))):=by
 intro pins s σ H xs us Q I r h;obtain⟨p,ps,rfl,⟨src,hall⟩,q⟩:=h;obtain⟨u,rfl,rx⟩:=Q5 r;cases rx;rcases src with h | h
 ·obtain⟨its,r',pl,hz⟩:=I.list h;obtain⟨o,ho,hc,n,hd⟩:=pl.isList;rw[ab] at hz;have e:=a0n r';exact V8 (C:=fun _=>True) I (Srt.coll_seq ho hc (.inl rfl) hd (by rw[e,ab];exact hz)) ps e hz hall q
 ·obtain⟨its,r',pl,hz⟩:=I.tuple h;obtain⟨o,ho,hc,n,hd⟩:=pl;rw[ab] at hz;have e:=a0n r';exact V8 (C:=fun _=>True) I (Srt.coll_seq ho hc (.inr rfl) hd (by rw[e,ab];exact hz)) ps e hz hall q
theorem a3h (hc:X.A.handled=none):L4 X (.builtin "sorted") (fun xs H Q=>∃(p:Addr) (kvs:List (List Key×V)) (kss:List (List Int)),xs=[.ref p]/\H p=some (.dT kvs)/\kvs.map (·.1)=kss.map (fun ks=>ks.map (bX:Int->Key))/\(∀ ks∈kss,ks≠[]) /\
  ∀(ps:List (Addr×List Int)) (l:Addr),(ps.map (·.2)).Perm kss->(∀ x∈ps,H x.1=some (.tup (x.2.map V.int)))->(ps.Pairwise fun x y=>HT.lexLt y.2 x.2=false)->H l=none->Q (.ref l) (upd H l (.lst (ps.map fun x=>V.ref x.1)))):=by
 intro pins s σ H xs us Q I r h;obtain⟨p,kvs,kss,rfl,hH,hk,hne,q⟩:=h;obtain⟨u,rfl,rx⟩:=Q5 r;cases rx;have hO:=I.hok p _ hH;unfold K8 at hO;obtain⟨z,lo,xs,rel,o,es,ep,ho,hx,hd,hes,hn⟩:=hO;have rel:KT H kvs xs:=rel;have key:∀ {kvs:List (List Key×V)} {xs:List (List Key×Addr×Value)} {kss:List (List Int)},KT H kvs xs->kvs.map (·.1)=kss.map (fun ks=>ks.map (bX:Int->Key)) ->
   ∃ ps:List (Addr×List Int),xs.map (fun x=>x.2.1)=ps.map (·.1)/\ps.map (·.2)=kss/\∀ x∈ps,H x.1=some (.tup (x.2.map V.int)):=by
  intro kvs xs kss rel;induction rel generalizing kss with
  | nil =>
   intro e;cases kss with
   | nil=>exact⟨[],rfl,rfl,fun x hx=>nomatch hx⟩
   | cons _ _=>cases e
  | @cons pp qq ps qs hh _ ih =>
   intro e;cases kss with
   | nil=>cases e
   | cons ks r =>
    rw[aL,aL] at e;injection e with e1 e2
    obtain⟨rs,h1,h2,h3⟩:=ih e2;obtain⟨g1,g2,g3⟩:=hh;refine⟨(qq.2.1,ks)::rs,by rw[aL,aL,h1],by rw[aL,h2],fun x hx=>?_⟩;rcases aD.mp hx with rfl | hx
    ·rw[g2,e1,ca];rfl
    ·exact h3 x hx
 obtain⟨ps,e1,e2,e3⟩:=key rel hk;have hl:es.toList.length=kvs.length:=by rw[hes,ab,<- fk rel]
 have ev:es.toList.map (·.key)=ps.map fun x=>bF x.1:=by
  rw[hes,ca];have:(xs.map fun x=>x.2.1).map bF=(ps.map (·.1)).map bF:=by rw[e1]
  rw[ca,ca] at this;exact this
 have hpl:ps.length=kvs.length:=by rw[<- hl,<- ab (f:=fun x:DictEntry=>x.key),ev,ab]
 refine V8 (C:=fun _=>True) I (Srt.coll_raw hc lo ⟨o,ho,hx,hd⟩ (by rw[<- aY,hl];exact z)) ps ev (by rw[hpl];exact z) (fun x hx=>⟨e3 x hx,hne _ (by rw[<- e2];exact eI hx)⟩) fun ps' l hp hs hn=>q ps' l ?_ (fun x hx=>e3 x (hp.mem_iff.mp hx)) hs hn
 rw[<- e2];exact hp.map _
end
end L2
end
section
namespace L2
open PySem PySem.Spec PyProof.Rows
mutual
inductive Dt (K:ae)(H:Hp):V->PyData->Prop
 | non:Dt K H .non .none
 | bl (b:Bool):Dt K H (.bl b) (.bool b)
 | int (i:Int):Dt K H (.int i) (.int i)
 | str (x:Str):Dt K H (.str x) (.str x)
 | tup {a:Addr} {xs:List V} {ds:List PyData}:SqT K H a xs->Dts K H xs ds->Dt K H (.ref a) (.tuple ds)
 | lst {a:Addr} {xs:List V} {ds:List PyData}:SqL K H a xs->Dts K H xs ds->Dt K H (.ref a) (.list ds)
inductive Dts (K:ae)(H:Hp):List V->List PyData->Prop
 | nil:Dts K H [] []
 | cons {x:V} {d:PyData} {xs:List V} {ds:List PyData}:Dt K H x d->Dts K H xs ds->Dts K H (x::xs) (d::ds)
end
section
variable {X:Cx}{pins:List (Addr×Obj)}{σ:St}{H:Hp}{s:Shared}
mutual
theorem Inv.reads (I:Inv X pins σ H s):∀ {x:V} {d:PyData} {u:Value},Dt X.K H x d->F0 x u->∃ as,Reads s.heap u d as
 | _,_,_,.non,r=>by cases (show _=cw from r);exact⟨_,.none⟩
 | _,_,_,.bl b,r=>by cases (show _=aT b from r);exact⟨_,.bool b⟩
 | _,_,_,.int i,r=>by obtain⟨t,e⟩:=(show ∃ t,_=cG i t from r);subst e;exact⟨_,.int i t⟩
 | _,_,_,.str x,r=>by obtain⟨t,e⟩:=(show ∃ t,_=ge x t from r);subst e;exact⟨_,.str x t⟩
 | _,_,_,.tup (a:=a) h hs,r=>by
  cases (show _=bF a from r);obtain⟨its,rv,⟨o,ho,hc,n,hd⟩,hz⟩:=I.tuple h;obtain⟨as,q⟩:=Inv.readsAll I hs rv;exact⟨_,.tuple ho hc hd (by simpa using q)⟩
 | _,_,_,.lst (a:=a) h hs,r=>by
  cases (show _=bF a from r);obtain⟨its,rv,pl,hz⟩:=I.list h;obtain⟨o,ho,hc,n,hd⟩:=pl.isList;obtain⟨as,q⟩:=Inv.readsAll I hs rv;exact⟨_,.list ho hc hd (by simpa using q)⟩
theorem Inv.readsAll (I:Inv X pins σ H s):∀ {xs:List V} {ds:List PyData} {us:List Value},Dts X.K H xs ds->C8 xs us->∃ as,ReadsAll s.heap us ds as
 | _,_,_,.nil,.nil=>⟨_,.nil⟩
 | _,_,_,.cons h t,.cons r q=>by
  obtain⟨as,h1⟩:=Inv.reads I h r;obtain⟨bs,h2⟩:=Inv.readsAll I t q;exact⟨_,.cons h1 h2⟩
end
def a1h (K:ae)(neg:Bool):R2:=fun x y H Q=>∃ d e,Dt K H x d/\Dt K H y e/\SeqAt.shaped d=true/\SeqAt.shaped e=true/\Q (.bl (if neg then !PyData.eqv d e else PyData.eqv d e)) H
theorem b1c (hu:X.A.units+64<cLine):OpR X (compareOp .Eq) (a1h X.K false):=by
 intro pins s σ H x y v u Q I rx ry h;obtain⟨d,e,hd,he,sd,se,q⟩:=h;obtain⟨as,r1⟩:=I.reads hd rx;obtain⟨bs,r2⟩:=I.reads he ry;exact eq_dataH r1 r2 sd se hu ⟨.bl _,H,I,rfl,q⟩
theorem b1a (hu:X.A.units+64<cLine):OpR X (compareOp .NotEq) (a1h X.K true):=by
 intro pins s σ H x y v u Q I rx ry h;obtain⟨d,e,hd,he,sd,se,q⟩:=h;obtain⟨as,r1⟩:=I.reads hd rx;obtain⟨bs,r2⟩:=I.reads he ry;exact ne_dataH r1 r2 sd se hu ⟨.bl _,H,I,rfl,q⟩
theorem Dts.ints {K:ae}:∀(ns:List Int),Dts K H (ns.map V.int) (ns.map cW)
 | []=>.nil
 | n::r=>.cons (.int n) (Dts.ints r)
theorem T7:∀ ns:List Int,PyData.canLayAll0 (ns.map cW)=true
 | []=>rfl
 | n::r=>by rw[aL,PyData.canLayAll0,T7 r];rfl
theorem V2:∀ ns:List Int,PyData.depthAll (ns.map cW)=0
 | []=>rfl
 | n::r=>by rw[aL,PyData.depthAll,V2 r];rfl
theorem Q6 (ns:List Int):SeqAt.shaped (.tuple (ns.map cW))=true:=by
 unfold SeqAt.shaped PyData.canLay0 PyData.depth;rw[T7,V2];rfl
theorem Q7 (ns:List Int):SeqAt.shaped (.list (ns.map cW))=true:=by
 unfold SeqAt.shaped PyData.canLay0 PyData.depth;rw[T7,V2];rfl
theorem a1x:∀ ns ms:List Int,PyData.eqvAll (ns.map cW) (ms.map cW)=decide (ns=ms)
 | [],[]=>rfl
 | [],_::_=>rfl
 | _::_,[]=>rfl
 | a::r,b::t=>by
  rw[aL,aL,PyData.eqvAll,PyData.eqv,a1x r t];by_cases h:a=b<;>by_cases h':r=t<;>simp[h,h']
theorem a1w (ns ms:List Int):PyData.eqv (.tuple (ns.map cW)) (.tuple (ms.map cW))=decide (ns=ms):=by
 rw[PyData.eqv];exact a1x ns ms
theorem a4s (ns ms:List Int):PyData.eqv (.list (ns.map cW)) (.list (ms.map cW))=decide (ns=ms):=by
 rw[PyData.eqv];exact a1x ns ms
theorem Dt.tupI {K:ae}{a:Addr}{ns:List Int}(h:SqT K H a (ns.map V.int)):Dt K H (.ref a) (.tuple (ns.map cW)):=.tup h (Dts.ints ns)
theorem Dt.lstI {K:ae}{a:Addr}{ns:List Int}(h:SqL K H a (ns.map V.int)):Dt K H (.ref a) (.list (ns.map cW)):=.lst h (Dts.ints ns)
theorem b3t {K:ae}{a b:Addr}{ns ms:List Int}{Q:VK}(h1:SqT K H a (ns.map V.int))(h2:SqT K H b (ms.map V.int))(q:Q (.bl (!decide (ns=ms))) H):a1h K true (.ref a) (.ref b) H Q :=
 ⟨_,_,.tupI h1,.tupI h2,Q6 _,Q6 _,by rw[a1w];exact q⟩
theorem b1D {K:ae}{a b:Addr}{ns ms:List Int}{Q:VK}(h1:SqT K H a (ns.map V.int))(h2:SqT K H b (ms.map V.int))(q:Q (.bl (decide (ns=ms))) H):a1h K false (.ref a) (.ref b) H Q :=
 ⟨_,_,.tupI h1,.tupI h2,Q6 _,Q6 _,by rw[a1w];exact q⟩
theorem a4S {K:ae}{a b:Addr}{ns ms:List Int}{Q:VK}(h1:SqL K H a (ns.map V.int))(h2:SqL K H b (ms.map V.int))(q:Q (.bl (!decide (ns=ms))) H):a1h K true (.ref a) (.ref b) H Q :=
 ⟨_,_,.lstI h1,.lstI h2,Q7 _,Q7 _,by rw[a4s];exact q⟩
theorem a6I {K:ae}{a b:Addr}{ns ms:List Int}{Q:VK}(h1:SqL K H a (ns.map V.int))(h2:SqL K H b (ms.map V.int))(q:Q (.bl (decide (ns=ms))) H):a1h K false (.ref a) (.ref b) H Q :=
 ⟨_,_,.lstI h1,.lstI h2,Q7 _,Q7 _,by rw[a4s];exact q⟩
end
end L2
end
section
namespace Srt
open PySem PyProof.Rows PySem.W
section
variable {prog:Program}{w:World}{A:Around}{E:Value->Shared->Prop}{s:Shared}
theorem coll_range {r:Addr}{a b c:Int}{t u v:Tok}{n:Nat}(hh:A.handled=none)(hr:IsRange s.heap r a b c t u v)(hsmall:ie a b c=true)(hn:gM a b c=n)(hlen:n<=2 ^ 24) :
  Coll prog w A r s fun us=>us.length=n/\∀(i:Nat) x,us[i]?=some x->∃ t,x=.int (a+i*c) t:=by
 intro E R h;unfold collect;refine aa (js (codeAny_builtin j9 ?_));rw[dU PySem.F.plain_proto_collect _];show wpAny _ A.in1 (newList [] >>= fun l=>again (.builtin "list.__iadd__" ⟨[l,.ref r],[]⟩)) _ _ s;refine aa (bo ?_);refine ai ⟨plainId_quiet iI _,codeAny_builtin entry_list_iadd' ?_⟩;rw[dU iI _];have hSz:(s.heap.push {cls:=.type "list",data:=.seq ([]:List Value).toArray}).get? s.heap.objs.size=some {cls:=.type "list",data:=.seq #[]}:=aB _ rfl;show wpAny _ A.in1 (Builtin.List.listExtendWith (.ref s.heap.objs.size) (.ref r) (.ref s.heap.objs.size)) _ _ _;have key:=wpAny_extend_range (prog:=prog) (w:=w) (A:=A) (s:={s with heap:=s.heap.push {cls:=.type "list",data:=.seq ([]:List Value).toArray}})
  (R:=fun (q:Result) (s':Shared)=>∃(h':Heap) (tk:Nat) (acc':Array Value) (c':Nat),q=.ok (.ret (.ref s.heap.objs.size))/\s'={s with heap:=h',toks:=tk} /\
   (∀ b o,s.heap.get? b=some o->h'.get? b=some o)/\h'.get? s.heap.objs.size=some {cls:=.type "list",dict:=none,data:=.seq acc' c',slots:=#[]}/\ItemsOf (fun (i:Nat) v=>∃ t,v=cG (a+i*c) t) acc' n)
  hh (ag _ hr) hsmall hn hlen s.heap.objs.size (.ref s.heap.objs.size) 0 hSz
  (fun h' tk acc' c' hk hS' hacc=>⟨h',tk,acc',c',rfl,rfl,fun b o e=>hk b o (aP (aC e)) (ag _ e),hS',hacc⟩)
 have fin:∀(h':Heap) (tk:Nat) (acc':Array Value),(∀ b o,s.heap.get? b=some o->h'.get? b=some o)->ItemsOf (fun (i:Nat) v=>∃ t,v=cG (a+i*c) t) acc' n->R acc'.toList {s with heap:=h',toks:=tk}:=fun h' tk acc' hk hacc =>
  h h' tk acc'.toList hk ⟨by rw[aY];exact hacc.1,fun i x e=>hacc.2 i x (by rw[<- bC];exact e)⟩
 refine cp key (fun fi s' x=>?_) fun e s' x=>?_
 ·cases fi with
  | done f =>
   obtain⟨h',tk,acc',c',e,rfl,hk,hS',hacc⟩:=x;cases e;show wpAny _ A (load s.heap.objs.size >>= _) _ _ _;exact aa (jF hS' (ai (fin h' tk acc' hk hacc)))
  | again c₁ =>
   refine⟨x.1,codeAny_mono x.2 fun q sv y=>?_⟩;obtain⟨h',tk,acc',c',rfl,rfl,hk,hS',hacc⟩:=y;show wpAny _ A (load s.heap.objs.size >>= _) _ _ _;exact aa (jF hS' (ai (fin h' tk acc' hk hacc)))
 ·obtain⟨_,_,_,_,e',_⟩:=x;cases e'
end
end Srt
namespace PySem
open AutoSeq1 (wpAny_loadPart')
theorem own_tuple_new (r:Addr)(T:String)(hT:(cX T == cX "tuple")=false)(C:List Value->Prop) :
  Meets (Builtin.«tuple.__new__» ⟨[.type "tuple",.ref r],[]⟩)
   (fun A R s=>s.TypeIs (.ref r) T/\(∀ prog w,Srt.Coll prog w A.in1 r s C)/\(∀ vs,C vs->vs.length<=sizeLine)/\∀(h':Heap) (tk:Nat) (vs:List Value),C vs->(∀ b o',s.heap.get? b=some o'->h'.get? b=some o')->R (.ok (.ret (.ref h'.objs.size))) {s with heap:=h'.push {cls:=.type "tuple",data:=.seq vs.toArray},toks:=tk}) :=
 .of_wp fun prog w A R s h=>by
  obtain⟨hp,g,d,tk,os⟩:=s;obtain⟨hty,hcol,hz,h⟩:=h;have hsub:=sub_tuple_self;have hinit:=init_tuple_lookup;have hmh:=madeHere_tuple;have hc:∀ {Q:List Value->Shared->Prop} {E:Value->Shared->Prop},(∀(h':Heap) (tk':Nat) (vs:List Value),(∀ b o,hp.get? b=some o->h'.get? b=some o)->C vs->Q vs ⟨h',g,d,tk',os⟩) ->
    wpAny (model prog w) A.in1 (collect (.ref r)) Q E ⟨hp,g,d,tk,os⟩:=fun {Q E} k=>hcol prog w E Q k
  wp_walk using eR hty,hc
  intro h' tk' vs hk hC;show wpAny _ _ (Builtin.Tuple.tupleExact vs.toArray >>= fun v=>ret v) _ _ _;unfold Builtin.Tuple.tupleExact;refine aa (bo ?_ (by show vs.toArray.size<=sizeLine;simpa using hz vs hC));exact ai ⟨_,rfl,h h' tk' vs hC hk⟩
end PySem
namespace L2
open PySem PySem.Spec PyProof.Rows
section
variable {X:Cx}
theorem a6N:L4 X (.type "range") (fun xs H Q=>∃ hi:Int,xs=[.int hi]/\∀ p,H p=none->Q (.ref p) (upd H p (.rng 0 hi))):=by
 intro pins s σ H xs us Q I r h;obtain⟨hi,rfl,q⟩:=h;obtain⟨u,rfl,rx⟩:=Q5 r;obtain⟨t,rfl⟩:=rx;refine call_range_1 ⟨.ref s.heap.objs.size,_,I.laid (o:=.rng 0 hi) (fun _ _ q=>ag _ q) (ao _) ⟨_,_,_,aB _ rfl⟩,rfl,q _ I.fresh⟩
def E5 (lo:Int)(n:Nat):List Int:=(List.range n).map fun (i:Nat)=>lo+(i:Int)
theorem E7 (lo:Int)(n:Nat):(E5 lo n).length=n:=by unfold E5;simp
theorem a4W {us:List Value}{lo:Int}{n:Nat}(hl:us.length=n)(hi:∀(i:Nat) x,us[i]?=some x->∃ t,x=cG (lo+i*1) t):C8 ((E5 lo n).map V.int) us:=by
 have key:∀(us:List Value) (k:Nat),(∀(i:Nat) x,us[i]?=some x->∃ t,x=cG (lo+((i+k:Nat):Int)) t)->C8 (((List.range' k us.length).map fun (i:Nat)=>lo+(i:Int)).map V.int) us:=by
  intro us;induction us with
  | nil=>intro k _;exact .nil
  | cons u r ih =>
   intro k h;rw[aH,List.range'_succ,aL,aL];refine .cons ?_ (ih (k+1) fun i x e=>?_)
   ·obtain⟨t,e⟩:=h 0 u rfl;rw[cZ] at e;exact⟨t,e⟩
   ·obtain⟨t,e'⟩:=h (i+1) x (by simpa using e);exact⟨t,by rw[e'];congr 2;omega⟩
 have:=key us 0 fun i x e=>by
  obtain⟨t,e'⟩:=hi i x e;exact⟨t,by rw[e',Int.mul_one,jy]⟩
 unfold E5;rw[List.range_eq_range',<- hl];exact this
theorem a7f {lo hi:Int}(h1:-(2 ^ 62)<=lo)(h2:lo<2 ^ 62)(h3:-(2 ^ 62)<=hi)(h4:hi<2 ^ 62):ie lo hi 1=true:=by
 exact PySem.small_one h1 h2 h3 h4
theorem a1C (hc:X.A.handled=none):L4 X (.type "tuple") (fun xs H Q=>∃(p:Addr) (lo hi:Int),xs=[.ref p]/\H p=some (.rng lo hi)/\(-(2 ^ 62)<=lo/\lo<2 ^ 62/\-(2 ^ 62)<=hi/\hi<2 ^ 62)/\(hi-lo).toNat<=2 ^ 24 /\
  ∀ l,H l=none->Q (.ref l) (upd H l (.tup ((E5 lo (hi-lo).toNat).map V.int)))):=by
 intro pins s σ H xs us Q I r h;obtain⟨p,lo,hi,rfl,hp,⟨b1,b2,b3,b4⟩,hz,q⟩:=h;obtain⟨u,rfl,rx⟩:=Q5 r;cases rx;have hO:=I.hok p _ hp;unfold K8 at hO;obtain⟨t,u',v,hr⟩:=hO;have hsl:(hi-lo).toNat<=sizeLine:=by rw[sizeLine_eq];omega
 refine callType_new F.called_tuple (by decide) (F.typeCall_tuple_1 _) (F.newCall_tuple_1 _) (fun obj=>F.args_object_init_2 obj _) F.entry_tuple_new
  (own_tuple_new p "range" (by decide) (fun us=>us.length=(hi-lo).toNat/\∀(i:Nat) x,us[i]?=some x->∃ t,x=cG (lo+i*1) t))
  ⟨⟨_,hr,rfl⟩,fun prog w=>Srt.coll_range (A:=X.A.in1.in1) hc hr (a7f b1 b2 b3 b4) (rangeSize_nat lo hi) hz,fun vs hv=>by rw[hv.1];exact hsl,fun h' tk vs hv hk=>⟨⟨_,aB _ rfl,rfl⟩,?_⟩⟩
 have I1:Inv X pins σ H {s with heap:=h',toks:=tk}:=I.kept hk;refine⟨.ref h'.objs.size,_,I1.laid (t':=tk) (o:=.tup ((E5 lo (hi-lo).toNat).map V.int)) (fun _ _ q=>ag _ q) (ao _) ⟨by rw[ab,E7];exact hsl,vs,a4W hv.1 hv.2,_,aB _ rfl,rfl,0,rfl⟩,rfl,q _ I1.fresh⟩
end
end L2
namespace Srt
open PySem PyProof.Rows PySem.W
theorem nolen_lr:typeLookup (.type "list_reverseiterator") "__len__"=pure none:=by rw[typeLookup_type,builtinLookup_eq_fast];kernel_rfl
theorem hint_lr:typeLookup (.type "list_reverseiterator") "__length_hint__"=pure (some (.builtin "list_reverseiterator.__length_hint__")):=by rw[typeLookup_type,builtinLookup_eq_fast];kernel_rfl
section
variable {prog:Program}{w:World}{A:Around}{E:Value->Shared->Prop}{s:Shared}
theorem rev_extend {R:Result->Shared->Prop}{r l S:Addr}{items:Array Value}{res:Value}{c₀:Nat}(hh:A.handled=none)(hr:s.heap.IsRevIter r l ((items.size:Int)-1))(hl:s.heap.IsList l items)(hne:l≠r)(hSr:S≠r)(hSl:S≠l)
  (hS:s.heap.get? S=some {cls:=.type "list",data:=.seq #[] c₀}) (hn:items.size<=sizeLine)
  (hR:∀ h' tk acc' c',(∀ b o,b≠S->b≠r->s.heap.get? b=some o->h'.get? b=some o)->h'.get? S=some {cls:=.type "list",dict:=none,data:=.seq acc' c',slots:=#[]} ->
   ItemsOf (fun i v=>items[items.size-1-i]?=some v) acc' items.size->R (.ok (.ret res)) {s with heap:=h',toks:=tk}) :
  wpAny (model prog w) A.in1 (Builtin.List.listExtendWith (.ref S) (.ref r) res)
   (fun fin s'=>match fin with | .done f=>R (.ok f) s' | .again c'=>c'.quiet=true/\codeAny (model prog w) A c' R s') (fun e s'=>R (.error e) s') s:=by
 have W:=(Walks.listRev (prog:=prog) (w:=w) (A:=A.in1) hh r l hne items).toS;have hSf:S∉[r,l]:=by simp only[aD,aW,or_false,not_or];exact⟨hSr,hSl⟩
 unfold Builtin.List.listExtendWith;refine aa (eR hr.typeIs ?_);have h1:Builtin.List.listSameRef (.ref S) (.ref r)=false:=by simp[Builtin.List.listSameRef,hSr]
 rw[if_neg (by rw[h1];decide)];refine aa (wpAny_pyIter_revIter hr ?_);refine aa (cu ?_);unfold Builtin.List.listLengthHint;refine aa (je hr.typeIs nolen_lr ?_);show wpAny _ A.in1 (specialOf (bF r) (Str.ofString "__length_hint__") >>= _) _ _ _;refine aa (je hr.typeIs hint_lr ?_);generalize hid:("list_reverseiterator.__length_hint__":String)=id0
 wp_delta
 rw[show splitId id0=some ("list_reverseiterator", "__length_hint__") from by subst hid;decide +kernel];subst hid;refine aa (fB (b:=true) hr.typeIs (by rw[isSubtype_type];kernel_rfl) ?_);refine ai ?_;rw[if_neg (by decide)];refine ai ⟨plainId_quiet PySem.F.plain_extend_loop _,codeAny_extend_loopS W hn S hSf res items.size 0 s #[] c₀ rfl (bf _) ⟨bf _,by simpa using hr,hl⟩ hS (ItemsOf.nil _) fun s' acc' c' hm hS' hacc=>?_⟩;rw[Moved.eq_with hm];refine hR s'.heap s'.toks acc' c' (fun b o hb hbr e=>hm.heap b o (fun hmem=>?_) e) hS' hacc;rcases aD.mp hmem with e' | hmem
 ·exact hb e'
 ·exact hbr (ah.mp hmem)
theorem call_list_rev {Q:Value->Shared->Prop}{r l:Addr}{items:Array Value}(hh:A.handled=none)(hr:s.heap.IsRevIter r l ((items.size:Int)-1))(hl:s.heap.IsList l items)(hne:l≠r)(hn:items.size<=sizeLine)
  (hQ:∀ h' tk acc' c',(∀ b o,b≠r->s.heap.get? b=some o->h'.get? b=some o)->h'.get? s.heap.objs.size=some {cls:=.type "list",dict:=none,data:=.seq acc' c',slots:=#[]} ->
   ItemsOf (fun i v=>items[items.size-1-i]?=some v) acc' items.size->Q (.ref s.heap.objs.size) {s with heap:=h',toks:=tk}) :
  wpAny (model prog w) A (call (.type "list") [.ref r]) Q E s:=by
 refine callType_codes (Q₁:=fun obj sk=>obj=.ref s.heap.objs.size/\sk={s with heap:=s.heap.push {cls:=.type "list",data:=.seq #[]}}) PySem.F.called_list (PySem.F.typeCall_list_1 _) PySem.F.entry_list_init
  (code_list_new _ ⟨rfl,rfl⟩) fun obj sk h₁=>?_
 obtain⟨rfl,rfl⟩:=h₁;have hS:(s.heap.push {cls:=.type "list",data:=.seq #[]}).get? s.heap.objs.size=some {cls:=.type "list",data:=.seq #[]}:=aB _ rfl;have rlt:r<s.heap.objs.size:=let ⟨o,ho,_⟩:=hr;aC ho;have llt:l<s.heap.objs.size:=let ⟨o,ho,_⟩:=hl;aC ho;refine⟨⟨_,hS,rfl⟩,PySem.F.args_list_init_2 _ _,?_⟩;show wpAny _ _ (do let old <- Builtin.List.listItems (.ref s.heap.objs.size);Builtin.List.listUpdate (.ref s.heap.objs.size) (fun _=>#[]);letGo old.toList.reverse;Builtin.List.listExtendWith (.ref s.heap.objs.size) (.ref r) .none) _ _ _;refine aa ?_;unfold Builtin.List.listItems;refine aa (dE hS rfl (ai ?_));show wpAny _ _ (updateSeq s.heap.objs.size (fun _=>#[]) >>= fun _=>letGo (#[]:Array Value).toList.reverse >>= fun _=>Builtin.List.listExtendWith (.ref s.heap.objs.size) (.ref r) .none) _ _ _;refine aa (wpAny_updateSeq hS rfl ?_);have hSq:=cQ (Obj.mapSeq (fun _=>(#[]:Array Value))) hS rfl;have oth:∀ b o,b≠s.heap.objs.size->s.heap.get? b=some o->((s.heap.push {cls:=.type "list",data:=.seq #[]}).update s.heap.objs.size (Obj.mapSeq (fun _=>(#[]:Array Value)))).get? b=some o :=
  fun b o hb e=>(fZ _ _ (fG hb)).trans (ag _ e)
 refine aa (jf ?_);refine rev_extend (A:=A.in1) hh (hr.at fun o e=>oth r o (aP rlt) e) (hl.at fun o e=>oth l o (aP llt) e) hne (fh rlt) (fh llt) hSq hn fun h' tk acc' c' hk hS' hacc=>?_
 exact⟨rfl,hQ h' tk acc' c' (fun b o hb e=>hk b o (aP (aC e)) hb (oth b o (aP (aC e)) e)) hS' hacc⟩
end
end Srt
namespace L2
open PySem PySem.Spec PyProof.Rows
section
variable {X:Cx}{e:Expr}{te:TE}{p1 p2 q1 q2:Pos}
theorem a5g:bootBuiltins "list"=some (.type "list"):=by decide +kernel
theorem a1O:bootBuiltins "reversed"=some (.type "reversed"):=by decide +kernel
theorem a0O:∀ {xs:List V} {us:List Value},C8 xs us->C8 xs.reverse us.reverse
 | _,_,.nil=>.nil
 | _,_,.cons r t=>by
  rw[eY,eY];exact (a0O t).append (.cons r .nil)
def a9Y (te:TE):TE:=fun σ H Q=>te σ H fun x H1=>∃ a xs,x=.ref a/\H1 a=some (.lst xs)/\∀ l,H1 l=none->Q (.ref l) (upd H1 l (.lst xs.reverse))
theorem a4J (hc:X.A.handled=none)(hg1:Gl X "list")(hm1:X.mg "list"=none)(hg2:Gl X "reversed")(hm2:X.mg "reversed"=none)(he:PE X e te)
  (hs1:starEach [.Call (.Name "reversed" p1) [e] [] q1] X.env=[(false,eval (.Call (.Name "reversed" p1) [e] [] q1) X.env)]:=by rfl) (hs2:starEach [e] X.env=[(false,eval e X.env)]:=by rfl) :
  PE X (.Call (.Name "list" p2) [.Call (.Name "reversed" p1) [e] [] q1] [] q2) (a9Y te):=by
 intro pins s σ H Q I h;refine cD (S4 I hg1 hm1 a5g ?_);refine bV ?_ hs1 rfl;rw[hs1];refine fF ?_;refine cD (S4 I hg2 hm2 a1O ?_);refine bV ?_ hs2 rfl;rw[hs2];refine fF (thn (he pins s σ H _ I h) fun u s1 ⟨x,H1,I1,r1,q1⟩=>?_);obtain⟨a,xs,rfl,ha,q⟩:=q1;cases r1;refine fO ?_;obtain⟨its,n,rv,ho,hz⟩:=I1.lst ha;have hl:s1.heap.IsList a its.toArray:=⟨_,ho,rfl,n,rfl⟩
 have alt:a<s1.heap.objs.size:=aC ho;refine call_reversed_list hl ?_;refine fO ?_;have k1:∀ b o,s1.heap.get? b=some o->(s1.heap.push (revObj a ((its.toArray.size:Int)-1))).get? b=some o:=fun _ _ q=>ag _ q
 refine Srt.call_list_rev (s:={s1 with heap:=s1.heap.push (revObj a ((its.toArray.size:Int)-1))}) hc ⟨_,aB _ rfl,rfl,rfl⟩ (hl.at fun o e=>k1 a o e) (aP alt) (by rw[aK,<- rv.length];exact hz) fun h' tk acc' c' hk hS' hacc=>?_
 have eacc:acc'.toList=its.reverse:=by
  apply dD;intro i;rw[bC];rcases cc i its.length with hi | hi
  ·have hi':i<acc'.size:=by rw[hacc.1,aK];exact hi
   have:=hacc.2 i acc'[i] (aX hi');rw[aX hi',jp hi];rw[aK,ff] at this;exact this.symm
  ·rw[bN (by rw[hacc.1,aK];exact hi),ck (by rw[eJ];exact hi)]
 have keep:∀ b o,s1.heap.get? b=some o->h'.get? b=some o:=fun b o e=>hk b o (aP (aC e)) (k1 b o e)
 have hsz:(s1.heap.push (revObj a ((its.toArray.size:Int)-1))).objs.size=s1.heap.objs.size+1:=cm ..;refine⟨.ref (s1.heap.push (revObj a ((its.toArray.size:Int)-1))).objs.size,_,I1.laid (t':=tk) (a:=(s1.heap.push (revObj a ((its.toArray.size:Int)-1))).objs.size) (o:=.lst xs.reverse) keep (by rw[hsz];omega) ⟨by rw[eJ];exact hz,its.reverse,c',a0O rv,by rw[<- eacc,jr];exact hS'⟩,rfl,q _ (I1.hok.fresh (by rw[hsz];omega))⟩
end
end L2
end
section
namespace L2
open PySem PySem.Spec PyProof.Rows
theorem a8Q {prog:Program}{w:World}{A:Around}{E:Value->Shared->Prop}{s:Shared}{d:Addr}{es:Array DictEntry}{ep:Nat}{Q:Value->Shared->Prop}(hd:(d == sysModules)=false)(r:Srt.RawD s.heap d es ep)
  (h:Q (.int es.size s.toks) {s with toks:=s.toks+1}):wpAny (model prog w) A (call (.builtin "dict.__len__") [.ref d]) Q E s:=by
 obtain⟨o,ho,hx,hdat⟩:=id r;refine bO F.slot_dict_len r.typeIs F.entry_dict_len ?_ (F.args_dict_len_1 _);show wpAny _ _ (dictSize d >>= _) _ _ s;unfold dictSize;refine aa (aa (gb ho hdat (ai ?_)));show wpAny _ _ (Builtin.Dict.pendingCount d >>= _) _ _ s;refine aa (wpAny_pendingCount_other hd ?_);refine wpAny_ret_mkInt ?_;first | exact⟨_,rfl,h⟩ | exact h | simpa using h
section
variable {X:Cx}
theorem a5e:L4 X (.builtin "len") (fun xs H Q=>∃(a:Addr) (kvs:List (List Key×V)),xs=[V.ref a]/\H a=some (.dT kvs)/\Q (.int kvs.length) H):=by
 intro pins s σ H xs us Q I r h;obtain⟨a,kvs,rfl,ha,q⟩:=h;obtain⟨u,rfl,ru⟩:=Q5 r;cases ru;have hO:=I.hok a _ ha;unfold K8 at hO;obtain⟨z,lo,xs,rel,o,es,ep,ho,hx,hd,hes,hn⟩:=hO;have hl:es.size=kvs.length:=by rw[<- aY,hes,ab,<- fk rel]
 have rd:Srt.RawD s.heap a es ep:=⟨o,ho,hx,hd⟩
 rw[sizeLine_eq] at z;refine call_len_slot (n:=kvs.length) rd.typeIs F.slot_dict_len (fun Q' hq=>a8Q lo rd (by rw[hl];exact hq)) (by omega) (by omega) ?_;exact⟨.int kvs.length,H,I.tok _,⟨_,rfl⟩,q⟩
end
structure Df (K:ae)(mg:Str->Option Value)(x:Str)(st:Stmt)(f:Addr)(fd:FuncData)(ps:List Str):Prop where
 F:Fun K x x st f fd
 b:a1J K fd ps []
 m:mg x=some (.ref f)
theorem A9 {X:Cx}{k:Nat}{f:Addr}{fd:FuncData}{ps:List Str}{sp:Sp}{x:Str}{st:Stmt}{p pos:Pos}{e:Expr}{es:List Expr}{t:TA}(G:B6 X.prog X.w X.K X.mg X.base CX0 k f fd ps sp)(D:Df X.K X.mg x st f fd ps)(hr:Q1 k X.A)
  (ha:PA X (e::es) t) (hg:Gl X x:=by rfl) (hdb:(x == ("__debug__":Str))=false:=by decide) (he:starEach (e::es) X.env=(false,eval e X.env)::starEach es X.env:=by rfl) (hpl:(backTo pos (starEach es X.env)).any (·.1)=false:=by rfl) :
  PE X (.Call (.Name x p) (e::es) [] pos) (a3r sp [] E0 t):=a8Y G hr hg D.m D.F.kp D.b .nil b0m ha hdb he hpl
structure Bt (mg:Str->Option Value):Prop where
 len:mg "len"=none
 range:mg "range"=none
 list:mg "list"=none
 tuple:mg "tuple"=none
 sorted:mg "sorted"=none
 min:mg "min"=none
 max:mg "max"=none
 int:mg "int"=none
 reversed:mg "reversed"=none
section
variable {X:Cx}(K:ae)
theorem a8a (h:X.K=K:=by rfl):IxR X (a8S K):=by subst h;exact a9z
theorem a9y (h:X.K=K:=by rfl):IxR X (a8R K):=by subst h;exact b1p
theorem a3E (h:X.K=K:=by rfl):SlR X (b0R K):=by subst h;exact a8O
theorem V1 (h:X.K=K:=by rfl):OpR X (compareOp .In) (rIn K false):=by subst h;exact a6m
theorem O0 (h:X.K=K:=by rfl):OpR X (compareOp .NotIn) (rIn K true):=by subst h;exact a2M
theorem a0v (hu:X.A.units+64<cLine)(h:X.K=K:=by rfl):OpR X (compareOp .Eq) (a1h K false):=by subst h;exact b1c hu
theorem a2S (hu:X.A.units+64<cLine)(h:X.K=K:=by rfl):OpR X (compareOp .NotEq) (a1h K true):=by subst h;exact b1a hu
def b1K (K:ae):List V->Hp->VK->Prop:=fun xs H Q=>∃ p ys,xs=[.ref p]/\(SqL K H p ys\/SqT K H p ys)/\Q (.int ys.length) H
def b0x (K:ae):List V->Hp->VK->Prop:=fun xs H Q=>∃ p ys,xs=[.ref p]/\(SqL K H p ys\/SqT K H p ys)/\∀ l,H l=none->Q (.ref l) (upd H l (.lst ys))
def a8B (K:ae):List V->Hp->VK->Prop:=fun xs H Q=>∃ p ys,xs=[.ref p]/\((SqL K H p ys/\∀ l,H l=none->Q (.ref l) (upd H l (.tup ys)))\/(SqT K H p ys/\Q (.ref p) H))
def a8D (K:ae):List V->Hp->VK->Prop:=fun xs H Q=>∃(p:Addr) (ns:List Int),xs=[.ref p]/\b1R K H p ns/\∀(ns':List Int) (l:Addr),ns'.Perm ns->ns'.Pairwise (·<=·)->H l=none->Q (.ref l) (upd H l (.lst (ns'.map V.int)))
def a8C (K:ae):List V->Hp->VK->Prop:=fun xs H Q=>∃(p:Addr) (ps:List (Addr×List Int)),xs=[.ref p]/\b1Q K H p ps/\∀(ps':List (Addr×List Int)) (l:Addr),ps'.Perm ps->(ps'.Pairwise fun x y=>HT.lexLt y.2 x.2=false)->H l=none->Q (.ref l) (upd H l (.lst (ps'.map fun x=>V.ref x.1)))
theorem N5 (h:X.K=K:=by rfl):L4 X (.builtin "len") (b1K K):=by subst h;exact a3j
theorem a2g (h:X.K=K:=by rfl):L4 X (.type "list") (b0x K):=by subst h;exact a3i
theorem S0 (h:X.K=K:=by rfl):L4 X (.type "tuple") (a8B K):=by subst h;exact a1N
theorem V9 (hc:X.A.handled=none)(h:X.K=K:=by rfl):L4 X (.builtin "sorted") (a8D K):=by subst h;exact a3g hc
theorem a0Y (h:X.K=K:=by rfl):L4 X (.builtin "sorted") (a8C K):=by subst h;exact a3f
variable {tg l o e:Expr}{tl to:TE}{es:List Expr}{t:TA}{pos:Pos}
theorem J3 (hl:PE X l tl)(h:X.K=K:=by rfl):PI X tg l (a8o K tl):=by subst h;exact a8V hl
theorem L9 (hl:PE X l tl)(h:X.K=K:=by rfl):PI X tg l (b1x K tl):=by subst h;exact b0T hl
theorem T4 {k:Nat}{t:TGs}{n:Nat}(hc:X.calm=true)(hg:PGs X es t)(hn:(assignEach es X.env).length=n:=by rfl)(hst:(assignEach es X.env).findIdx? (·.1)=none:=by rfl)(h:X.K=K:=by rfl):PG X (.Tuple es k pos) (b1B K n t):=by
 subst h;exact b0U hc hg hn hst
theorem N8 {apos cpos:Pos}(ho:PE X o to)(ha:PA X (e::es) t)(h:X.K=K:=by rfl)
  (hbase:attributeBase o "append" X.env (eval o X.env)=eval o X.env:=by rfl)
  (hfew:((backTo cpos (starEach (e::es) X.env)).all (fun x=>!x.1) && (backToKw cpos (keywordEach [] X.env)).all (fun x=>x.1.isSome)
   && decide ((e::es).length+([]:List Keyword).length+(if ([]:List Keyword).isEmpty then 0 else 1)<30))=true:=by rfl) (hst:starEach (e::es) X.env=(false,eval e X.env)::starEach es X.env:=by rfl) (hpl:(backTo cpos (starEach es X.env)).any (·.1)=false:=by rfl) (hline:(apos.endLine == cpos.line)=true:=by rfl) :
  PE X (.Call (.Attribute o "append" apos) (e::es) [] cpos) (tBM K "list" a2D to t):=by
 subst h;exact b2A iJ PySem.F.slot_list_append PySem.F.type_list_append a2f ho ha hbase hfew hline hst hpl
theorem b2x {apos cpos:Pos}(ho:PE X o to)(h:X.K=K:=by rfl)(hbase:attributeBase o "pop" X.env (eval o X.env)=eval o X.env:=by rfl)(hline:(apos.endLine == cpos.line)=true:=by rfl) :
  PE X (.Call (.Attribute o "pop" apos) [] [] cpos) (b0N K "list" b0S to):=by
 subst h;exact b0X iJ PySem.F.slot_list_pop PySem.F.type_list_pop b1i ho hbase hline
end
section
variable {K:ae}{a p:Addr}{xs:List V}{g:TG}{tc:TT}{te tv:TE}{τ0:St}{H0:Hp}{EE:Hp->Prop}
theorem Q4 (Pv:Nat->St->Hp->Prop)(h0:Pv 0 τ0 H0)(hl:∀ i τ H,i<=xs.length->Pv i τ H->SqL K H a xs)
  (hs:∀ i x τ H,xs[i]?=some x->Pv i τ H->(∀ ys,SqL K H a ys->ys[i]?=some x)->g x τ H fun τ2 H2=>tc τ2 H2 fun b H3=>if b=true then te τ2 H3 fun v H4=>∃ ys,H4 p=some (.lst ys)/\ys.length<sizeLine/\Pv (i+1) τ2 (upd H4 p (.lst (ys++[v]))) else Pv (i+1) τ2 H3)
  (hd:∀ τ H,Pv xs.length τ H->EE H):lcW g tc te p (Itl K a) τ0 H0 EE:=by
 refine⟨fun i m τ H=>m=xs.length-i/\i<=xs.length/\Pv i τ H,⟨_,rfl,bf _,h0⟩,?_⟩;rintro i m τ H ⟨rfl,hi,hp⟩;have hq:=hl i τ H hi hp;rcases cc i xs.length with h | h
 ·have hx:xs[i]?=some xs[i]:=aq h;refine .inr ⟨⟨xs,_,hq,hx⟩,Pv (i+1),fun τ' H' z=>⟨_,by omega,rfl,h,z⟩,?_⟩;rintro x H' ⟨rfl,hy⟩;have e:x=xs[i]:=by have:=hy xs hq;rw[hx] at this;exact (aG this).symm
  subst e;exact hs i _ τ H' hx hp hy
 ·have e:i=xs.length:=by omega
  subst e;exact .inl ⟨⟨xs,hq,ao _⟩,hd τ H hp⟩
theorem a1s (Pv:Nat->St->Hp->Prop)(h0:Pv 0 τ0 H0)(hl:∀ i τ H,i<=xs.length->Pv i τ H->SqT K H a xs)
  (hs:∀ i x τ H,xs[i]?=some x->Pv i τ H->g x τ H fun τ2 H2=>tc τ2 H2 fun b H3=>if b=true then te τ2 H3 fun v H4=>∃ ys,H4 p=some (.lst ys)/\ys.length<sizeLine/\Pv (i+1) τ2 (upd H4 p (.lst (ys++[v]))) else Pv (i+1) τ2 H3)
  (hd:∀ τ H,Pv xs.length τ H->EE H):lcW g tc te p (Itt K a) τ0 H0 EE:=by
 refine⟨fun i m τ H=>m=xs.length-i/\i<=xs.length/\Pv i τ H,⟨_,rfl,bf _,h0⟩,?_⟩;rintro i m τ H ⟨rfl,hi,hp⟩;have hq:=hl i τ H hi hp;rcases cc i xs.length with h | h
 ·have hx:xs[i]?=some xs[i]:=aq h;refine .inr ⟨⟨xs,_,hq,hx⟩,Pv (i+1),fun τ' H' z=>⟨_,by omega,rfl,h,z⟩,?_⟩;rintro x H' ⟨rfl,hy⟩;have e:x=xs[i]:=by have:=hy xs hq;rw[hx] at this;exact (aG this).symm
  subst e;exact hs i _ τ H' hx hp
 ·have e:i=xs.length:=by omega
  subst e;exact .inl ⟨⟨xs,hq,ao _⟩,hd τ H hp⟩
theorem X3 {lo:Int}{n:Nat}(Pv:Nat->St->Hp->Prop)(h0:Pv 0 τ0 H0)
  (hs:∀ i τ H,i<n->Pv i τ H->g (.int (lo+i)) τ H fun τ2 H2=>tc τ2 H2 fun b H3=>if b=true then te τ2 H3 fun v H4=>∃ ys,H4 p=some (.lst ys)/\ys.length<sizeLine/\Pv (i+1) τ2 (upd H4 p (.lst (ys++[v]))) else Pv (i+1) τ2 H3)
  (hd:∀ τ H,Pv n τ H->EE H):lcW g tc te p (Itr lo n) τ0 H0 EE:=by
 refine⟨fun i m τ H=>m=n-i/\i<=n/\Pv i τ H,⟨_,rfl,bf _,h0⟩,?_⟩;rintro i m τ H ⟨rfl,hi,hp⟩;rcases cc i n with h | h
 ·refine .inr ⟨h,Pv (i+1),fun τ' H' z=>⟨_,by omega,rfl,h,z⟩,?_⟩;rintro x H' ⟨rfl,rfl⟩;exact hs i τ H' h hp
 ·have e:i=n:=by omega
  subst e;exact .inl ⟨ao _,hd τ H hp⟩
theorem b1H (Pv:Nat->St->Hp->Prop)(h0:Pv 0 τ0 H0)(hl:∀ i τ H,i<=xs.length->Pv i τ H->SqT K H a xs)
  (hs:∀ i x τ H,xs[i]?=some x->Pv i τ H->g x τ H fun τ2 H2=>tc τ2 H2 fun b H3=>if b=true then te τ2 H3 fun k H4=>tv τ2 H4 fun v H5=>∃ H6,Y5 H5 p k v H6/\Pv (i+1) τ2 H6 else Pv (i+1) τ2 H3)
  (hd:∀ τ H,Pv xs.length τ H->EE H):dcW g tc te tv p (Itt K a) τ0 H0 EE:=by
 refine⟨fun i m τ H=>m=xs.length-i/\i<=xs.length/\Pv i τ H,⟨_,rfl,bf _,h0⟩,?_⟩;rintro i m τ H ⟨rfl,hi,hp⟩;have hq:=hl i τ H hi hp;rcases cc i xs.length with h | h
 ·have hx:xs[i]?=some xs[i]:=aq h;refine .inr ⟨⟨xs,_,hq,hx⟩,Pv (i+1),fun τ' H' z=>⟨_,by omega,rfl,h,z⟩,?_⟩;rintro x H' ⟨rfl,hy⟩;have e:x=xs[i]:=by have:=hy xs hq;rw[hx] at this;exact (aG this).symm
  subst e;exact hs i _ τ H' hx hp
 ·have e:i=xs.length:=by omega
  subst e;exact .inl ⟨⟨xs,hq,ao _⟩,hd τ H hp⟩
end
theorem a0y {X:Cx}:L4 X (.type "int") (fun xs H Q=>∃ k,xs=[.bl k]/\Q (.int (if k then 1 else 0)) H):=fun pins s σ H xs us Q I r h=>a6O pins s σ H xs us Q I r (.inr h)
theorem a6U {H:Hp}{a:Addr}{o:HO}(h:H a=some o):upd H a o=H:=by
 funext b;by_cases e:b=a
 ·subst e;rw[A2,h]
 ·rw[B2 e]
theorem A6.upd {H H':Hp}(s:A6 H H'){p:Addr}{o:HO}(hp:H p=none):A6 H (L2.upd H' p o):=fun b u e=>by
 rw[B2 (E2 e hp)];exact s b u e
theorem A6.seqT {K:ae}{H H':Hp}{a:Addr}{xs:List V}(e:A6 H H')(h:SqT K H a xs):SqT K H' a xs:=by
 rcases h with (h | ⟨o,h⟩) | h
 ·exact .inl (.inl (e _ _ h))
 ·exact .inl (.inr ⟨o,e _ _ h⟩)
 ·exact .inr h
theorem B7 {n:Nat}(h:n<=16000000):n<sizeLine:=by rw[sizeLine_eq];omega
end L2
end
section
local macro_rules | `(tactic| omega)=>`(tactic| first | lia | omega +splitDisjunctions)
namespace L2
open PySem
def Tp (H H':Hp):Prop:=∀ a xs,H a=some (.tup xs)->H' a=some (.tup xs)
theorem Tp.refl (H:Hp):Tp H H:=fun _ _ h=>h
theorem Tp.trans {H H1 H2:Hp}(a:Tp H H1)(b:Tp H1 H2):Tp H H2:=fun c o h=>b c o (a c o h)
theorem A6.tp {H H':Hp}(s:A6 H H'):Tp H H':=fun a xs h=>s a _ h
theorem b0n {H:Hp}{a b:Addr}{xs ys:List V}(h:H a=some (.tup xs))(h':H b=some (.lst ys)):a≠b:=fun e=>by subst e;rw[h] at h';cases h'
theorem b1f {H:Hp}{a b:Addr}{xs:List V}{ys:List (List Key×V)}(h:H a=some (.tup xs))(h':H b=some (.dT ys)):a≠b:=fun e=>by subst e;rw[h] at h';cases h'
theorem b1g {H:Hp}{a b:Addr}{xs:List V}{ys:List (Key×V)}(h:H a=some (.tup xs))(h':H b=some (.dK ys)):a≠b:=fun e=>by subst e;rw[h] at h';cases h'
theorem Tp.new {H H':Hp}(s:Tp H H'){p:Addr}{o:HO}(hp:H p=none):Tp H (upd H' p o):=fun a xs h=>by rw[B2 (E2 h hp)];exact s a xs h
theorem Tp.lst {H:Hp}{p:Addr}{o:HO}{ys:List V}(hp:H p=some (.lst ys)):Tp H (upd H p o):=fun a xs h=>by rw[B2 (b0n h hp)];exact h
theorem Tp.dT {H:Hp}{p:Addr}{o:HO}{ys:List (List Key×V)}(hp:H p=some (.dT ys)):Tp H (upd H p o):=fun a xs h=>by rw[B2 (b1f h hp)];exact h
theorem Tp.dK {H:Hp}{p:Addr}{o:HO}{ys:List (Key×V)}(hp:H p=some (.dK ys)):Tp H (upd H p o):=fun a xs h=>by rw[B2 (b1g h hp)];exact h
theorem Tp.nw {H:Hp}{p:Addr}{o:HO}(hp:H p=none):Tp H (upd H p o):=(Tp.refl H).new hp
theorem J5 {H:Hp}{a p:Addr}{o u:HO}(h:H a=some o)(hp:H p=none):upd H p u a=some o:=by rw[B2 (E2 h hp)];exact h
theorem L3 {H:Hp}{p q:Addr}{o:HO}(h:upd H p o q=none):H q=none:=by
 by_cases e:q=p
 ·subst e;rw[A2] at h;cases h
 ·rwa [B2 e] at h
@[elab_as_elim] theorem A1 {G:Hp->Prop} {H:Hp} {p:Addr} {o:HO} (n:H p=none) (k:∀ H',A6 H H'->H' p=some o->G H'):G (upd H p o):=k _ ((A6.refl H).upd n) A2
theorem J7 {a b:TS}{D:U2}{σ:St}{H:Hp}(C:St->Hp->Prop)(ha:∀ R:St->Hp->Prop,(∀ σ H,C σ H->R σ H)->a {D with nx:=R} σ H)(hb:∀ σ H,C σ H->b D σ H):b0C a b D σ H:=ha (b D) hb
def b2S (ds:List Int):Prop:=ds.length<=2000/\∀ x∈ds,0<=x/\x<1000
def K5 (H:Hp)(d:Addr):Prop:=∃ ds:List Int,H d=some (.lst (ds.map V.int))/\b2S ds
def Kp (d:Addr)(H H':Hp):Prop:=∀ b o,b≠d->H b=some o->H' b=some o
theorem Kp.refl (d:Addr)(H:Hp):Kp d H H:=fun _ _ _ h=>h
theorem Kp.trans {d:Addr}{H H1 H2:Hp}(a:Kp d H H1)(b:Kp d H1 H2):Kp d H H2:=fun c o hc e=>b c o hc (a c o hc e)
theorem A6.kp {d:Addr}{H H':Hp}(s:A6 H H'):Kp d H H':=fun b o _ h=>s b o h
theorem Kp.free {d:Addr}{H H':Hp}(k:Kp d H H')(hd:K5 H' d){l:Addr}(h:H' l=none):H l=none:=by
 cases e:H l with
 | none=>rfl
 | some o =>
  by_cases q:l=d
  ·subst q;obtain⟨ds,e',_⟩:=hd;rw[e'] at h;cases h
  ·rw[k l o q e] at h;cases h
theorem Kp.new {d:Addr}{H H':Hp}(k:Kp d H H'){p:Addr}{o:HO}(hp:H p=none):Kp d H (upd H' p o):=fun b u hb e=>by
 rw[B2 (E2 e hp)];exact k b u hb e
theorem K5.new {d:Addr}{H:Hp}(h:K5 H d){p:Addr}{o:HO}(hp:p≠d):K5 (upd H p o) d:=by
 obtain⟨ds,e,hl⟩:=h;exact⟨ds,by rw[B2 hp.symm];exact e,hl⟩
theorem K5.ne {d p:Addr}{H:Hp}(h:K5 H d)(hp:H p=none):p≠d:=fun e=>by
 subst e;obtain⟨ds,e,_⟩:=h;rw[hp] at e;cases e
theorem K5.same {d:Addr}{H H':Hp}(h:K5 H d)(s:A6 H H'):K5 H' d:=by
 obtain⟨ds,e,hl⟩:=h;exact⟨ds,s _ _ e,hl⟩
theorem Kp.tp {d:Addr}{H H':Hp}(k:Kp d H H')(hd:K5 H d):Tp H H':=fun a xs h=>by
 refine k a _ (fun e=>?_) h;subst e;obtain⟨ds,e',_⟩:=hd;rw[h] at e';cases e'
def a3x:Sp:=fun vs H Q _=>∃ c k:Int,vs=[.int c,.int k]/\0<=k/\k<2 ^ 30/\∀ z:Int,Q (.int z) H
def P3:Sp:=fun vs H Q _=>∃(d:Addr) (ns:List Int),vs=[.ref d]/\H d=some (.lst (ns.map V.int))/\∀(z:Int) (ns':List Int),ns'.length<=ns.length->(∀ x∈ns',x∈ns)->(z=0\/z∈ns)->Q (.int z) (upd H d (.lst (ns'.map V.int)))
theorem E6 {H:Hp}{d:Addr}{Q:VK}{E:XK}(hd:K5 H d)(h:∀ z H',Kp d H H'->K5 H' d->(∀ b,b≠d->H' b=H b)->Q (.int z) H'):P3 [.ref d] H Q E:=by
 obtain⟨ds,e,hl,hb⟩:=hd;exact⟨d,ds,rfl,e,fun z ns' hn hs _=>h z _ (fun b o hb eb=>by rw[B2 hb];exact eb) ⟨ns',A2,by omega,fun x hx=>hb x (hs x hx)⟩ fun b hb=>B2 hb⟩
def a5u (K:ae):Sp:=fun vs H Q _=>∃(a:Addr) (m:Int) (ns:List Int),vs=[.ref a,.int m]/\SqL K H a (ns.map V.int)/\ns.length<=63/\0<=m/\m<=2000 /\
 ∀(p:Addr) (ds:List Int) (H':Hp),b2S ds->A6 H H'->H p=none->H' p=some (.lst (ds.map V.int))->Q (.ref p) H'
def a0I:Sp:=fun vs H Q _=>∃(d:Addr) (n:Int),vs=[.ref d,.int n]/\K5 H d/\0<=n/\n<=1000 /\
 ∀(p:Addr) (ks:List Int) (H':Hp),Kp d H H'->K5 H' d->H p=none->H' p=some (.tup (ks.map V.int))->ks.Perm (E5 0 n.toNat)->Q (.ref p) H'
theorem a3q {H:Hp}{d:Addr}{n:Int}{Q:VK}{E:XK}(hd:K5 H d)(h0:0<=n)(h1:n<=1000)(h:∀(p:Addr) (ks:List Int) (H':Hp),Kp d H H'->K5 H' d->H p=none->H' p=some (.tup (ks.map V.int))->ks.Perm (E5 0 n.toNat)->Q (.ref p) H'):a0I [.ref d,.int n] H Q E :=
 ⟨d,n,rfl,hd,h0,h1,h⟩
theorem Z2 (i:Nat):E5 0 (i+1)=E5 0 i++[(0:Int)+i]:=by unfold E5;rw[ix,aJ];rfl
def sp_law (K:ae):Sp:=fun vs H Q _=>∃(a:Addr) (ns:List Int),vs=[.ref a]/\SqL K H a (ns.map V.int)/\ns.length<=63/\∀ H',Q (.bl true) H'
def tl (t:Int×Int):List Int:=[t.1,t.2]
def Lex (t u:Int×Int):Prop:=t.1<u.1\/(t.1=u.1/\t.2<u.2)
structure M4 (n:Int)(ts:List (Int×Int)):Prop where
 n3:3<=n
 n60:n<=60
 rng:∀ t∈ts,0<=t.1/\t.1<t.2/\t.2<n
 srt:ts.Pairwise Lex
 len:ts.length<=200
 conn:∀ S:Int->Prop,(∀ t∈ts,S t.1↔S t.2)->∀ u v,0<=u->u<n->0<=v->v<n->S u->S v
structure P5 (H:Hp)(ps:List (Addr×List Int))(ts:List (Int×Int)):Prop where
 to:∀ x∈ps,H x.1=some (.tup (x.2.map V.int))
 eq:ps.map (·.2)=ts.map tl
def Y4 (H:Hp)(q:Addr)(ts:List (Int×Int)):Prop:=∃ ps:List (Addr×List Int),H q=some (.tup (ps.map fun x=>V.ref x.1))/\P5 H ps ts
def R6 (H:Hp)(w:Addr)(n:Int)(ts:List (Int×Int)):Prop:=∃ q,H w=some (.tup [.int n,.ref q])/\Y4 H q ts
theorem P5.tp {H H':Hp}{ps:List (Addr×List Int)}{ts:List (Int×Int)}(h:P5 H ps ts)(t:Tp H H'):P5 H' ps ts:=⟨fun x hx=>t _ _ (h.to x hx),h.eq⟩
theorem Y4.tp {H H':Hp}{q:Addr}{ts:List (Int×Int)}(h:Y4 H q ts)(t:Tp H H'):Y4 H' q ts:=by
 obtain⟨ps,e,p⟩:=h;exact⟨ps,t _ _ e,p.tp t⟩
theorem R6.tp {H H':Hp}{w:Addr}{n:Int}{ts:List (Int×Int)}(h:R6 H w n ts)(t:Tp H H'):R6 H' w n ts:=by
 obtain⟨q,e,p⟩:=h;exact⟨q,t _ _ e,p.tp t⟩
theorem P5.get {H:Hp}{ps:List (Addr×List Int)}{ts:List (Int×Int)}(h:P5 H ps ts){i:Nat}{v:V}(e:(ps.map fun x=>V.ref x.1)[i]?=some v) :
  ∃ a t,v=.ref a/\ts[i]?=some t/\H a=some (.tup [.int t.1,.int t.2]):=by
 rw[aF] at e;cases hx:ps[i]? with
 | none=>rw[hx] at e;cases e
 | some x =>
  rw[hx] at e;have e1:V.ref x.1=v:=aG e;have e2:(ps.map (·.2))[i]?=some x.2:=by rw[aF,hx];rfl
  rw[h.eq,aF] at e2;cases ht:ts[i]? with
  | none=>rw[ht] at e2;cases e2
  | some t =>
   rw[ht] at e2;have e3:tl t=x.2:=aG e2;refine⟨x.1,t,e1.symm,rfl,?_⟩;rw[h.to x (aI hx),<- e3];rfl
theorem P5.len {H:Hp}{ps:List (Addr×List Int)}{ts:List (Int×Int)}(h:P5 H ps ts):ps.length=ts.length:=by
 have:=congrArg gB h.eq;simpa using this
def un (l:List Int):Int×Int:=(l.getD 0 0,l.getD 1 0)
theorem b1W (t:Int×Int):un (tl t)=t:=rfl
theorem P5.of_perm {H:Hp}{ps:List (Addr×List Int)}{ts:List (Int×Int)}(h:∀ x∈ps,H x.1=some (.tup (x.2.map V.int)))(pm:(ps.map (·.2)).Perm (ts.map tl)):∃ ts',ts'.Perm ts/\P5 H ps ts':=by
 refine⟨(ps.map (·.2)).map un,?_,h,?_⟩
 ·have:=pm.map un;rw[ca (l:=ts),show (un ∘ tl)=id from funext b1W,iz] at this;exact this
 ·rw[ca];conv=>lhs;rw[<- iz (ps.map (·.2))]
  refine gA fun l hl=>?_
  obtain⟨t,_,rfl⟩:=bD.mp (pm.mem_iff.mp hl);rfl
theorem P5.perm {H:Hp}{ps ps':List (Addr×List Int)}{ts:List (Int×Int)}(h:P5 H ps ts)(pm:ps'.Perm ps):∃ ts',ts'.Perm ts/\P5 H ps' ts' :=
 P5.of_perm (fun x hx=>h.to x (pm.mem_iff.mp hx)) (by rw[<- h.eq];exact pm.map _)
theorem P5.srt {H:Hp}{ps:List (Addr×List Int)}{ts:List (Int×Int)}(h:P5 H ps ts)(s:ps.Pairwise fun x y=>HT.lexLt y.2 x.2=false):ts.Pairwise fun x y=>HT.lexLt (tl y) (tl x)=false:=by
 have h1:(ps.map (·.2)).Pairwise fun x y=>HT.lexLt y x=false:=da.mpr s
 rw[h.eq] at h1;exact List.pairwise_map.mp h1
theorem P5.src {K:ae}{H:Hp}{p:Addr}{ps:List (Addr×List Int)}{ts:List (Int×Int)}(h:P5 H ps ts)(e:H p=some (.lst (ps.map fun x=>V.ref x.1))):b1Q K H p ps:=by
 refine⟨.inl (SqL.of e),fun x hx=>⟨h.to x hx,fun e2=>?_⟩⟩;have:x.2∈ps.map (·.2):=eI hx;rw[h.eq] at this;obtain⟨t,_,e3⟩:=bD.mp this;rw[e2] at e3;cases e3
theorem P5.snoc {H:Hp}{ps:List (Addr×List Int)}{ts:List (Int×Int)}(h:P5 H ps ts){q:Addr}{t:Int×Int}(e:H q=some (.tup [.int t.1,.int t.2])):P5 H (ps++[(q,tl t)]) (ts++[t]):=by
 refine⟨fun x hx=>?_,by rw[aJ,aJ,h.eq];rfl⟩;rcases ak.mp hx with hx | hx
 ·exact h.to x hx
 ·cases ah.mp hx;exact e
def a7e:Sp:=fun vs H Q _=>∃(d:Addr) (lo hi:Int),vs=[.ref d,.int lo,.int hi]/\K5 H d/\3<=lo/\lo<=hi/\hi<=60 /\
 ∀(w:Addr) (n:Int) (ts:List (Int×Int)) (H':Hp),Kp d H H'->K5 H' d->lo<=n->n<=hi->M4 n ts->R6 H' w n ts->Q (.ref w) H'
def kvT (fs:List (Int×Int)):List (List Key×V):=fs.map fun t=>([.inl t.1,.inl t.2],V.bl true)
def a1P (fs:List (Int×Int))(t:Int×Int):List (Int×Int):=if t∈fs then fs else fs++[t]
theorem a1m {fs:List (Int×Int)}{t x:Int×Int}:x∈a1P fs t↔x∈fs\/x=t:=by
 unfold a1P;split
 ·exact⟨.inl,fun h=>h.elim id fun e=>by subst e;assumption⟩
 ·simp
theorem a9o {fs:List (Int×Int)}{t:Int×Int}(h:fs.Nodup):(a1P fs t).Nodup:=by
 unfold a1P;split
 ·exact h
 ·rename_i hn;rw[cN];exact⟨h,by simp,fun a ha b hb e=>hn (by simp at hb;subst hb;subst e;exact ha)⟩
theorem a1q {fs:List (Int×Int)}{t:Int×Int}:(a1P fs t).length<=fs.length+1:=by
 unfold a1P;split<;>simp
theorem a0E {fs:List (Int×Int)}(h:fs.length<=1000):(kvT fs).length<sizeLine:=by unfold kvT;rw[ab];exact B7 (by omega)
theorem a2F (fs:List (Int×Int))(a b:Int):S9 (kvT fs) [bX a,bX b] (V.bl true)=kvT (a1P fs (a,b)):=by
 have key:∀ t:Int×Int,(([bX t.1,bX t.2]:List Key)=[bX a,bX b])↔t=(a,b):=fun t=>by
  obtain⟨x,y⟩:=t;constructor
  ·intro e;injection e with e1 e2
   injection e2 with e2 _
   injection e1 with e1
   injection e2 with e2
   subst e1;subst e2;rfl
  ·intro e;cases e;rfl
 unfold S9 a1P;by_cases h:(a,b)∈fs
 ·have h1:((kvT fs).any fun kv=>decide (kv.1=[bX a,bX b]))=true:=by
   rw[dv];exact⟨_,eI h,by simp⟩
  rw[if_pos h1,if_pos h];unfold kvT;rw[ca];refine gA fun t ht=>?_
  show (if _ then _ else _)=_;split<;>rfl
 ·have h1:¬ ((kvT fs).any fun kv=>decide (kv.1=[bX a,bX b]))=true:=by
   rw[dv];rintro⟨kv,hk,e⟩;obtain⟨t,ht,rfl⟩:=bD.mp hk;have:=(key t).mp (of_decide_eq_true e);subst this;exact h ht
  rw[if_neg h1,if_neg h];unfold kvT;rw[aJ];rfl
theorem a5O (fs:List (Int×Int)):(kvT fs).length=fs.length:=by unfold kvT;simp
theorem a7Z (fs:List (Int×Int)):(kvT fs).map (·.1)=(fs.map tl).map (fun ks=>ks.map (bX:Int->Key)):=by
 unfold kvT tl;rw[ca,ca];rfl
def nm (ks:List Int)(u:Int):Int:=ks.getD u.toNat 0
def ren (ks:List Int)(t:Int×Int):Int×Int:=(if nm ks t.2<nm ks t.1 then nm ks t.2 else nm ks t.1,if nm ks t.2>nm ks t.1 then nm ks t.2 else nm ks t.1)
section
variable {ks:List Int}{n:Int}
theorem a4f (hp:ks.Perm (E5 0 n.toNat)){u:Int}(h0:0<=u)(h1:u<n):ks[u.toNat]?=some (nm ks u):=by
 have hl:ks.length=n.toNat:=by rw[hp.length_eq,E7]
 have hu:u.toNat<ks.length:=by omega
 unfold nm;rw[ce,aq hu];rfl
theorem a7O (hp:ks.Perm (E5 0 n.toNat)){u:Int}(h0:0<=u)(h1:u<n):0<=nm ks u/\nm ks u<n:=by
 have hm:=hp.mem_iff.mp (aI (a4f hp h0 h1));unfold E5 at hm;obtain⟨i,hi,e⟩:=bD.mp hm;have:=cn.mp hi;omega
theorem a0s (hp:ks.Perm (E5 0 n.toNat)){u v:Int}(h0:0<=u)(h1:u<n)(k0:0<=v)(k1:v<n)(e:nm ks u=nm ks v):u=v:=by
 have hnd:ks.Nodup:=hp.nodup_iff.mpr (by
  unfold E5;refine da.mpr (List.Pairwise.imp ?_ jk)
  intro a b h e;omega)
 have a1:=a4f hp h0 h1;have a2:=a4f hp k0 k1;rw[<- e] at a2;have hl:ks.length=n.toNat:=by rw[hp.length_eq,E7]
 have:=(jX (l:=ks) (i:=u.toNat) (j:=v.toNat) (by omega) hnd).mp (by rw[a1,a2]);omega
theorem a7N (hp:ks.Perm (E5 0 n.toNat)){v:Int}(k0:0<=v)(k1:v<n):∃ u,0<=u/\u<n/\nm ks u=v:=by
 have hm:v∈E5 0 n.toNat:=by
  unfold E5;exact bD.mpr ⟨v.toNat,cn.mpr (by omega),by omega⟩
 obtain⟨i,hi,e⟩:=db (hp.mem_iff.mpr hm);have hl:ks.length=n.toNat:=by rw[hp.length_eq,E7]
 refine⟨(i:Int),by omega,by omega,?_⟩;unfold nm;rw[ce,b6,aq hi];exact e
theorem a5M {t u:Int×Int}:HT.lexLt (tl t) (tl u)=true↔Lex t u:=by
 unfold tl Lex;rw[HT.lexLt_cons];split
 ·rename_i h;rw[HT.lexLt_cons];split
  ·rename_i h2;constructor
   ·intro e;cases e
   ·intro e;omega
  ·rename_i h2;rw[decide_eq_true_iff];constructor
   ·intro e;exact .inr ⟨h,e⟩
   ·intro e;rcases e with e | e
    ·omega
    ·exact e.2
 ·rename_i h;rw[decide_eq_true_iff];constructor
  ·intro e;exact .inl e
  ·intro e;rcases e with e | e
   ·exact e
   ·exact absurd e.1 h
theorem a8I {fs ts:List (Int×Int)}(h3:3<=n)(h60:n<=60)(hnd:fs.Nodup)(hrng:∀ t∈fs,0<=t.1/\t.1<t.2/\t.2<n)(hlen:fs.length<=200)(hah:∀ k:Int,1<=k->k<n->∃ a,0<=a/\a<k/\(a,k)∈fs)
  (hp:ks.Perm (E5 0 n.toNat)) (hts:ts.Perm (fs.map (ren ks))) (hs:ts.Pairwise fun x y=>HT.lexLt (tl y) (tl x)=false):M4 n ts:=by
 have rr:∀ t∈fs,0<=(ren ks t).1/\(ren ks t).1<(ren ks t).2/\(ren ks t).2<n:=fun t ht=>by
  obtain⟨h0,h1,h2⟩:=hrng t ht;have a:=a7O hp h0 (by omega);have b:=a7O hp (u:=t.2) (by omega) h2;have c:nm ks t.1≠nm ks t.2:=fun e=>by have:=a0s hp h0 (by omega) (by omega) h2 e;omega
  unfold ren;dsimp only;split<;>split<;>omega
 have inj:∀ t∈fs,∀ u∈fs,ren ks t=ren ks u->t=u:=fun t ht u hu e=>by
  obtain⟨h0,h1,h2⟩:=hrng t ht;obtain⟨k0,k1,k2⟩:=hrng u hu;unfold ren at e;injection e with e1 e2
  have i1:nm ks t.1=nm ks u.1->t.1=u.1:=a0s hp h0 (by omega) k0 (by omega);have i2:nm ks t.2=nm ks u.2->t.2=u.2:=a0s hp (by omega) h2 (by omega) k2;have i3:nm ks t.1=nm ks u.2->t.1=u.2:=a0s hp h0 (by omega) (by omega) k2;have i4:nm ks t.2=nm ks u.1->t.2=u.1:=a0s hp (by omega) h2 k0 (by omega);have:t.1=u.1/\t.2=u.2:=by
   split at e1<;>split at e1<;>split at e2<;>split at e2<;>omega
  obtain⟨q1,q2⟩:=this;cases t;cases u;simp at q1 q2;rw[q1,q2]
 have nd2:(fs.map (ren ks)).Nodup:=by
  refine da.mpr ?_;refine gJ ?_ hnd;intro a b ha hb hab e;exact hab (inj a ha b hb e)
 have nd3:ts.Nodup:=hts.nodup_iff.mpr nd2;refine⟨h3,h60,fun t ht=>?_,?_,by rw[hts.length_eq,ab];exact hlen,fun S hS=>?_⟩
 ·obtain⟨u,hu,rfl⟩:=bD.mp (hts.mem_iff.mp ht);exact rr u hu
 ·refine (gg hs nd3).imp ?_;rintro a b ⟨h1,h2⟩;have h3:¬ Lex b a:=fun e=>by rw[a5M.mpr e] at h1;cases h1
  have h4:a.1≠b.1\/a.2≠b.2:=by
   by_cases q:a.1=b.1
   ·refine .inr fun e=>h2 ?_
    cases a;cases b;simp at q e;rw[q,e]
   ·exact .inl q
  unfold Lex at h3 ⊢;omega
 ·have hf:∀ t∈fs,S (nm ks t.1)↔S (nm ks t.2):=fun t ht=>by
   have:=hS _ (hts.mem_iff.mpr (eI ht));unfold ren at this
   revert this
   dsimp only;obtain⟨h0,h1,h2⟩:=hrng t ht;have c:nm ks t.1≠nm ks t.2:=fun e=>by have:=a0s hp h0 (by omega) (by omega) h2 e;omega
   split<;>split<;>intro q
   ·omega
   ·exact q.symm
   ·exact q
   ·omega
  have h0:∀ m:Nat,∀ k:Int,0<=k->k<n->k.toNat=m->(S (nm ks k)↔S (nm ks 0)):=by
   intro m;induction m using Nat.strongRecOn with
   | ind m ih =>
    intro k k0 k1 e;by_cases hk:k=0
    ·subst hk;exact Iff.rfl
    ·obtain⟨a,a0,a1,hm⟩:=hah k (by omega) k1;exact (hf _ hm).symm.trans (ih a.toNat (by omega) a a0 (by omega) rfl)
  intro u v u0 u1 v0 v1 su;obtain⟨u',p0,p1,rfl⟩:=a7N hp u0 u1;obtain⟨v',q0,q1,rfl⟩:=a7N hp v0 v1;exact (h0 _ v' q0 q1 rfl).mpr ((h0 _ u' p0 p1 rfl).mp su)
end
end L2
end
section
namespace L2
open PySem
def nb (ts:List (Int×Int))(v:Int):List Int:=ts.filterMap fun t=>if t.1=v then some t.2 else if t.2=v then some t.1 else none
def E9 (n:Int)(ts:List (Int×Int)):List (List Int):=(List.range n.toNat).map fun (v:Nat)=>nb ts (v:Int)
structure C2 (H:Hp)(p:Addr)(as:List Addr)(rows:List (List Int)):Prop where
 top:H p=some (.lst (as.map V.ref))
 len:as.length=rows.length
 nd:as.Nodup
 np:p∉as
 row:∀(i:Nat) a r,as[i]?=some a->rows[i]?=some r->H a=some (.lst (r.map V.int))
section
variable {H H':Hp}{p:Addr}{as:List Addr}{rows:List (List Int)}
theorem C2.mono (h:C2 H p as rows)(k:∀ a o,a=p\/a∈as->H a=some o->H' a=some o):C2 H' p as rows :=
 ⟨k _ _ (.inl rfl) h.top,h.len,h.nd,h.np,fun i a r ha hr=>k _ _ (.inr (aI ha)) (h.row i a r ha hr)⟩
theorem C2.same (h:C2 H p as rows)(s:A6 H H'):C2 H' p as rows:=h.mono fun a o _ e=>s a o e
theorem C2.kp {d:Addr}(h:C2 H p as rows)(k:Kp d H H')(hp:d≠p)(ha:d∉as):C2 H' p as rows :=
 h.mono fun a o q e=>k a o (fun e2=>by subst e2;exact q.elim hp ha) e
theorem C2.app (h:C2 H p as rows){i:Nat}{a:Addr}{r:List Int}(ha:as[i]?=some a)(hr:rows[i]?=some r)(x:Int):C2 (upd H a (.lst ((r++[x]).map V.int))) p as (rows.set i (r++[x])):=by
 have hpa:p≠a:=fun e=>h.np (by rw[e];exact aI ha)
 refine⟨by rw[B2 hpa];exact h.top,by rw[eO];exact h.len,h.nd,h.np,fun j b s hb hs=>?_⟩;by_cases e:j=i
 ·subst e;rw[ha] at hb;cases hb;rw[dj (aA.mp hr).1] at hs;cases hs;exact A2
 ·have hba:b≠a:=fun e2=>by
   subst e2;exact e ((jX (aA.mp hb).1 h.nd).mp (by rw[hb,ha]))
  rw[dB (fG e)] at hs;rw[B2 hba];exact h.row j b s hb hs
theorem C2.snoc (h:C2 H p as rows){q:Addr}(hq:H q=none){r:List Int}:C2 (upd (upd H q (.lst (r.map V.int))) p (.lst ((as++[q]).map V.ref))) p (as++[q]) (rows++[r]):=by
 have hpq:p≠q:=E2 h.top hq;have hqa:q∉as:=fun hm=>by
  obtain⟨i,hi,e⟩:=db hm;have hi2:i<rows.length:=by have:=h.len;omega
  have:=h.row i q rows[i] (by rw[aq hi,e]) (aq hi2);rw[hq] at this;cases this
 refine⟨A2,by rw[aE,aE,h.len];rfl,?_,?_,?_⟩
 ·rw[cN];exact⟨h.nd,by simp,fun a ha b hb e=>by simp at hb;subst hb;subst e;exact hqa ha⟩
 ·intro hm;rcases ak.mp hm with hm | hm
  ·exact h.np hm
  ·exact hpq (ah.mp hm)
 ·intro i a s ha hs;by_cases hi:i<as.length
  ·rw[cA hi] at ha;rw[cA (by rw[<- h.len];exact hi)] at hs;have ham:=aI ha;have h1:a≠p:=fun e=>by subst e;exact h.np ham
   have h2:a≠q:=fun e=>by subst e;exact hqa ham
   rw[B2 h1,B2 h2];exact h.row i a s ha hs
  ·rw[cr (by omega)] at ha;rw[cr (by rw[<- h.len];omega)] at hs;have e0:i-as.length=0:=by
    have:=(aA.mp ha).1;simp at this;omega
   rw[e0] at ha;rw[<- h.len,e0] at hs;cases ha;cases hs;rw[B2 hpq.symm,A2]
theorem C2.nil (h:H p=some (.lst [])):C2 H p [] []:=⟨h,rfl,by simp,by simp,fun i a r ha=>by cases ha⟩
theorem C2.get (h:C2 H p as rows){v:Int}(h0:0<=v){r:List Int}(hr:rows[v.toNat]?=some r):∃ a,as[v.toNat]?=some a/\atI (as.map V.ref) v=some (.ref a)/\H a=some (.lst (r.map V.int))/\a≠p:=by
 have hl:=(aA.mp hr).1;have hl2:v.toNat<as.length:=by have:=h.len;omega
 have ha:as[v.toNat]?=some as[v.toNat]:=aq hl2;refine⟨_,ha,?_,h.row _ _ _ ha hr,fun e=>h.np (by rw[<- e];exact aI ha)⟩;have:=N7 (xs:=as.map V.ref) (j:=v.toNat) (v:=V.ref as[v.toNat]) (by rw[aF,ha];rfl);rw[bH h0] at this;exact this
end
theorem J2 {n:Int}{ts:List (Int×Int)}{v:Int}(h0:0<=v)(h1:v<n):(E9 n ts)[v.toNat]?=some (nb ts v):=by
 unfold E9;rw[aF,fz (by omega)];show some (nb ts ((v.toNat:Nat):Int))=_;rw[bH h0]
theorem J9 (n:Int)(ts:List (Int×Int)):(E9 n ts).length=n.toNat:=by unfold E9;simp
theorem a5J (ts:List (Int×Int))(t:Int×Int)(v:Int):nb (ts++[t]) v=nb ts v++(if t.1=v then [t.2] else if t.2=v then [t.1] else []):=by
 unfold nb;rw[List.filterMap_append];congr 1;by_cases h1:t.1=v
 ·simp[h1]
 ·by_cases h2:t.2=v
  ·simp[h1,h2]
  ·simp[h1,h2]
theorem a3T {n:Int}{ts:List (Int×Int)}{t:Int×Int}(h0:0<=t.1)(h1:t.1<t.2)(h2:t.2<n) :
  E9 n (ts++[t])=((E9 n ts).set t.1.toNat (nb ts t.1++[t.2])).set t.2.toNat (nb ts t.2++[t.1]):=by
 refine dD fun i=>?_
 by_cases hi:i<n.toNat
 ·have hl:∀ us:List (Int×Int),(E9 n us)[i]?=some (nb us (i:Int)):=fun us=>by
   have:=J2 (n:=n) (ts:=us) (v:=(i:Int)) (by omega) (by omega);simpa using this
  rw[hl,a5J];by_cases e2:i=t.2.toNat
  ·subst e2;rw[dj (by rw[eO,J9];exact hi)];rw[bH (by omega),if_neg (by omega),if_pos rfl]
  ·rw[dB (fG e2)];by_cases e1:i=t.1.toNat
   ·subst e1;rw[dj (by rw[J9];exact hi)];rw[bH h0,if_pos rfl]
   ·rw[dB (fG e1),hl,if_neg (by omega),if_neg (by omega),bU]
 ·rw[ck (by rw[J9];omega),ck (by rw[eO,eO,J9];omega)]
theorem X0 {ts:List (Int×Int)}{v x:Int}:x∈nb ts v↔(v,x)∈ts\/((x,v)∈ts)/\(x≠v\/(v,x)∈ts):=by
 unfold nb;rw[List.mem_filterMap];constructor
 ·rintro⟨t,ht,e⟩;obtain⟨a,b⟩:=t;dsimp only at e;split at e
  ·rename_i h;cases e;subst h;exact .inl ht
  ·rename_i h;split at e
   ·rename_i h2;cases e;subst h2;exact .inr ⟨ht,.inl h⟩
   ·cases e
 ·rintro (h | ⟨h,h'⟩)
  ·exact⟨_,h,by simp⟩
  ·rcases h' with h' | h'
   ·exact⟨_,h,by simp[h']⟩
   ·exact⟨_,h',by simp⟩
def P4 (n:Int)(ts:List (Int×Int)):Prop:=∀ t∈ts,0<=t.1/\t.1<t.2/\t.2<n
theorem W7 {n:Int}{ts:List (Int×Int)}(h:P4 n ts){v x:Int}:x∈nb ts v↔v∈nb ts x:=by
 rw[X0,X0];constructor
 ·rintro (q | ⟨q,q'⟩)
  ·exact .inr ⟨q,.inl (by have:=h _ q;dsimp only at this;omega)⟩
  ·exact .inl q
 ·rintro (q | ⟨q,q'⟩)
  ·exact .inr ⟨q,.inl (by have:=h _ q;dsimp only at this;omega)⟩
  ·exact .inl q
theorem W8 {n:Int}{ts:List (Int×Int)}(h:P4 n ts){v x:Int}(hx:x∈nb ts v):0<=x/\x<n/\0<=v/\v<n/\x≠v:=by
 rcases X0.mp hx with q | ⟨q,_⟩
 ·have:=h _ q;dsimp only at this;omega
 ·have:=h _ q;dsimp only at this;omega
theorem a7R {n:Int}{ts:List (Int×Int)}(h:P4 n ts)(hs:ts.Pairwise Lex)(v:Int):(nb ts v).Pairwise (·<·):=by
 unfold nb;rw[List.pairwise_filterMap];refine gJ ?_ hs;intro a b ha hb hab x hx y hy;have h1:=h a ha;have h2:=h b hb;unfold Lex at hab;have cx:(a.1=v/\a.2=x)\/(a.2=v/\a.1=x):=by
  split at hx
  ·rename_i q;cases hx;exact .inl ⟨q,rfl⟩
  ·split at hx
   ·rename_i q;cases hx;exact .inr ⟨q,rfl⟩
   ·cases hx
 have cy:(b.1=v/\b.2=y)\/(b.2=v/\b.1=y):=by
  split at hy
  ·rename_i q;cases hy;exact .inl ⟨q,rfl⟩
  ·split at hy
   ·rename_i q;cases hy;exact .inr ⟨q,rfl⟩
   ·cases hy
 omega
theorem W9 {ts:List (Int×Int)}(v:Int):(nb ts v).length<=ts.length:=by unfold nb;exact List.length_filterMap_le _ _
theorem a3D {l l':List Int}(p:l'.Perm l)(s:l'.Pairwise (·<=·))(h:l.Pairwise (·<·)):l'=l :=
 h8 (le:=(·<=·)) (fun _ _ _ _ a b=>Int.le_antisymm a b) s (h.imp fun a=>Int.le_of_lt a) p
theorem a1g {l l':List Int}(h:l.Pairwise (·<·))(h':l'.Pairwise (·<·))(e:∀ x,x∈l↔x∈l'):l=l':=by
 refine h8 (le:=(·<·)) (fun a b _ _ x y=>by omega) h h' ?_;refine (iO (h.imp fun x e=>by omega) (h'.imp fun x e=>by omega)).mpr e
structure a4z (H Hc:Hp)(p:Addr)(as:List Addr)(rows:List (List Int)):Prop where
 same:A6 H Hc
 np:H p=none
 na:∀ a∈as,H a=none
 rows:C2 Hc p as rows
theorem a1f (n:Int):E9 n []=List.replicate n.toNat []:=by
 unfold E9 nb;refine dD fun i=>?_
 by_cases h:i<n.toNat
 ·rw[aF,fz h,jb,if_pos h];rfl
 ·rw[ck (by simp;omega),ck (by simp;omega)]
theorem a4z.step {H Hc:Hp}{p:Addr}{as:List Addr}{n:Int}{us:List (Int×Int)}{t:Int×Int}(h:a4z H Hc p as (E9 n us))(h0:0<=t.1)(h1:t.1<t.2)(h2:t.2<n) :
  ∃ a1 a2,atI (as.map V.ref) t.1=some (.ref a1)/\Hc a1=some (.lst ((nb us t.1).map V.int))/\(upd Hc a1 (.lst ((nb us t.1).map V.int++[V.int t.2]))) p=some (.lst (as.map V.ref))/\atI (as.map V.ref) t.2=some (.ref a2) /\
   (upd Hc a1 (.lst ((nb us t.1).map V.int++[V.int t.2]))) a2=some (.lst ((nb us t.2).map V.int)) /\
   a4z H (upd (upd Hc a1 (.lst ((nb us t.1).map V.int++[V.int t.2]))) a2 (.lst ((nb us t.2).map V.int++[V.int t.1]))) p as (E9 n (us++[t])):=by
 have g1:=J2 (n:=n) (ts:=us) h0 (show t.1<n by omega);have g2:=J2 (n:=n) (ts:=us) (show 0<=t.2 by omega) h2;obtain⟨a1,e1,r1,c1,p1⟩:=h.rows.get h0 g1;have R1:=h.rows.app e1 g1 t.2;have g2':((E9 n us).set t.1.toNat (nb us t.1++[t.2]))[t.2.toNat]?=some (nb us t.2):=by
  rw[dB (by omega)];exact g2
 obtain⟨a2,e2,r2,c2,p2⟩:=R1.get (show 0<=t.2 by omega) g2';have R2:=R1.app e2 g2' t.1;rw[<- a3T h0 h1 h2] at R2;rw[aJ] at R1 R2 c2;rw[aJ] at R2;refine⟨a1,a2,r1,c1,R1.top,r2,c2,?_,h.np,h.na,R2⟩;exact (h.same.upd (h.na _ (aI e1))).upd (h.na _ (aI e2))
def a2n (H:Hp)(p:Addr)(i:Nat)(τ:St)(Hc:Hp):Prop:=∃(c:Option V) (as:List Addr),τ=[c]/\a4z H Hc p as (List.replicate i [])
theorem Y4.get {H:Hp}{q:Addr}{ts:List (Int×Int)}(h:Y4 H q ts):∃ xs,H q=some (.tup xs)/\xs.length=ts.length/\∀(i:Nat) v,xs[i]?=some v->∃ a t,v=.ref a/\ts[i]?=some t/\H a=some (.tup [.int t.1,.int t.2]):=by
 obtain⟨ps,e,hp⟩:=h;exact⟨_,e,by rw[ab];exact hp.len,fun i v hv=>hp.get hv⟩
def a0W:Sp:=fun vs H Q _=>∃(w:Addr) (n:Int) (ts:List (Int×Int)),vs=[.ref w]/\R6 H w n ts/\0<=n/\n<=1000/\ts.length<=1000/\P4 n ts /\
 ∀(p:Addr) (as:List Addr) (H':Hp),A6 H H'->H p=none->(∀ a∈as,H a=none)->C2 H' p as (E9 n ts)->Q (.ref p) H'
def a0J:Sp:=fun vs H Q _=>∃(w:Addr) (n:Int) (ts:List (Int×Int)),vs=[.ref w]/\R6 H w n ts/\0<=n/\n<=1000/\ts.length<=1000/\P4 n ts/\ts.Pairwise Lex /\
 ∀(p:Addr) (as:List Addr) (H':Hp),A6 H H'->H p=none->(∀ a∈as,H a=none)->C2 H' p as (E9 n ts)->Q (.ref p) H'
end L2
end
section
namespace L2
open PySem
theorem a5T (x:Int)(us:List Int):inV (.int x) (us.map V.int)=decide (x∈us):=by
 unfold inV;induction us with
 | nil=>rfl
 | cons u r ih =>
  rw[aL,dI,ih];show (decide (u=x) || _)=_;by_cases h:u=x
  ·subst h;simp
  ·have h':¬ x=u:=fun e=>h e.symm
   simp[h,h']
theorem a2p (us:List Int):(us.map V.int).all a0j=true:=by
 rw[eF];intro v hv;obtain⟨u,_,rfl⟩:=bD.mp hv;rfl
section
variable {K:ae}{H:Hp}{p:Addr}{us:List Int}{x:Int}{Q:VK}
theorem Z5 (h:SqL K H p (us.map V.int)\/SqT K H p (us.map V.int))(q:Q (.bl (decide (x∈us))) H):rIn K false (.int x) (.ref p) H Q :=
 ⟨p,_,rfl,h,rfl,a2p us,by rw[a5T];exact q⟩
theorem P9 (h:SqL K H p (us.map V.int)\/SqT K H p (us.map V.int))(q:Q (.bl (!decide (x∈us))) H):rIn K true (.int x) (.ref p) H Q :=
 ⟨p,_,rfl,h,rfl,a2p us,by rw[a5T];exact q⟩
end
def kvI (us:List Int):List (Key×V):=us.map fun x=>(bX x,V.bl true)
def a0G (us:List Int)(x:Int):List Int:=if x∈us then us else us++[x]
theorem a1n {us:List Int}{x y:Int}:y∈a0G us x↔y∈us\/y=x:=by
 unfold a0G;split
 ·exact⟨.inl,fun h=>h.elim id fun e=>by subst e;assumption⟩
 ·simp
theorem a9p {us:List Int}{x:Int}(h:us.Nodup):(a0G us x).Nodup:=by
 unfold a0G;split
 ·exact h
 ·rename_i hn;rw[cN];exact⟨h,by simp,fun a ha b hb e=>hn (by simp at hb;subst hb;subst e;exact ha)⟩
theorem a7V {us:List Int}{x:Int}:(a0G us x).length<=us.length+1:=by
 unfold a0G;split<;>simp
theorem a5P (us:List Int):(kvI us).length=us.length:=by unfold kvI;simp
theorem a2Y {a b:Int}:(bX a:Key)=bX b↔a=b:=⟨fun e=>by injection e,fun e=>by rw[e]⟩
theorem a2G (us:List Int)(x:Int):S9 (kvI us) (bX x) (V.bl true)=kvI (a0G us x):=by
 unfold S9 a0G;by_cases h:x∈us
 ·have h1:((kvI us).any fun kv=>decide (kv.1=bX x))=true:=by
   rw[dv];exact⟨_,eI h,by simp⟩
  rw[if_pos h1,if_pos h];unfold kvI;rw[ca];refine gA fun t ht=>?_
  show (if _ then _ else _)=_;split<;>rfl
 ·have h1:¬ ((kvI us).any fun kv=>decide (kv.1=bX x))=true:=by
   rw[dv];rintro⟨kv,hk,e⟩;obtain⟨t,ht,rfl⟩:=bD.mp hk;have:=a2Y.mp (of_decide_eq_true e);subst this;exact h ht
  rw[if_neg h1,if_neg h];unfold kvI;rw[aJ];rfl
theorem a5l (us:List Int)(x:Int):(a0o (kvI us) (bX x)).isSome=decide (x∈us):=by
 induction us with
 | nil=>rfl
 | cons u r ih =>
  unfold kvI at ih ⊢;rw[aL];by_cases h:u=x
  ·rw[Z8 (a2Y.mpr h)];subst h;simp
  ·rw[Z9 (fun e=>h (a2Y.mp e)),ih];have h':¬ x=u:=fun e=>h e.symm
   simp[h']
theorem a4m (us:List Int):(kvI us).map (·.1)=us.map (bX:Int->Key):=by
 unfold kvI;rw[ca];rfl
theorem a0t {us:List Int}(h:us.length<=100000):(kvI us).length<sizeLine:=by rw[a5P];exact B7 (by omega)
theorem U1:∀ {us l:List Int},us.Nodup->us ⊆ l->us.length<=l.length
 | [],_,_,_=>bf _
 | x::r,l,hn,hs=>by
  have hx:x∈l:=hs (aN ..);have hn':=cf.mp hn;have:=U1 (us:=r) (l:=l.erase x) hn'.2 (fun y hy=>(jC (fun e=>by subst e;exact hn'.1 hy)).mpr (hs (aM _ hy)));rw[i7 hx] at this;have:=jl hx;rw[aH];omega
theorem M6 {us:List Int}{n:Int}(hnd:us.Nodup)(h:∀ x∈us,0<=x/\x<n):us.length<=n.toNat:=by
 have hs:us ⊆ E5 0 n.toNat:=fun x hx=>by
  obtain⟨h0,h1⟩:=h x hx;unfold E5;exact bD.mpr ⟨x.toNat,cn.mpr (by omega),by omega⟩
 have:=U1 hnd hs;rw[E7] at this;exact this
theorem a0e (n:Nat):(E5 0 n).Pairwise (·<·):=by
 unfold E5;refine da.mpr (List.pairwise_lt_range.imp ?_);intro a b h;omega
theorem K0 {n:Nat}{x:Int}:x∈E5 0 n↔0<=x/\x<n:=by
 unfold E5;rw[List.mem_map];constructor
 ·rintro⟨i,hi,rfl⟩;have:=cn.mp hi;omega
 ·rintro⟨h0,h1⟩;exact⟨x.toNat,cn.mpr (by omega),by omega⟩
theorem a0M (p:Int->Bool){x:Int}(h:p x=true):[x].filter p=[x]:=dG h
theorem a0N (p:Int->Bool){x:Int}(h:¬ p x=true):[x].filter p=[]:=dH h
theorem C7 {l:List Int}(h:l.Pairwise (·<·)):l.Nodup:=h.imp fun x e=>by omega
theorem Y7 {l l':List Int}(p:l'.Perm l)(s:l'.Pairwise (·<=·))(h:l.Nodup):l'.Pairwise (·<·):=by
 refine (gg s (p.nodup_iff.mpr h)).imp ?_;rintro a b ⟨h1,h2⟩;omega
end L2
end
section
local macro_rules | `(tactic| omega)=>`(tactic| first | lia | omega +splitDisjunctions)
namespace STab
open PySem PySem.SetTable
def Ris (xs:Array Nat):Prop:=∀ i j (hi:i<xs.size) (hj:j<xs.size),i<j->xs[i]<xs[j]
theorem go_spec {xs:Array Nat}{j:Nat}(hr:Ris xs):∀(fuel lo hi:Nat),lo<=hi->hi<=xs.size->hi-lo<=fuel ->
  (∀ i (h:i<xs.size),i<lo->xs[i]<j)->(∀ i (h:i<xs.size),hi<=i->j<=xs[i]) ->
  below.go xs j fuel lo hi<=xs.size/\(∀ i (h:i<xs.size),i<below.go xs j fuel lo hi->xs[i]<j)/\(∀ i (h:i<xs.size),below.go xs j fuel lo hi<=i->j<=xs[i])
 | 0,lo,hi,h1,h2,h3,h4,h5=>by
  have e:hi=lo:=by omega
  subst e;unfold below.go;exact⟨h2,h4,h5⟩
 | fuel+1,lo,hi,h1,h2,h3,h4,h5=>by
  unfold below.go;by_cases hlt:lo<hi
  ·rw[if_pos hlt];have hm:(lo+hi) / 2<xs.size:=by omega
   have hg:xs.getD ((lo+hi) / 2) j=xs[(lo+hi) / 2]:=by simp[Array.getD,hm]
   dsimp only;rw[hg];by_cases hc:xs[(lo+hi) / 2]<j
   ·rw[if_pos hc];refine go_spec hr fuel _ _ (by omega) h2 (by omega) (fun i h hi'=>?_) h5;by_cases he:i=(lo+hi) / 2
    ·subst he;exact hc
    ·exact fj (hr i _ h hm (by omega)) hc
   ·rw[if_neg hc];refine go_spec hr fuel _ _ (by omega) (by omega) (by omega) h4 (fun i h hi'=>?_);by_cases he:i=(lo+hi) / 2
    ·subst he;omega
    ·have:=hr _ i hm h (by omega);omega
  ·rw[if_neg hlt];have e:hi=lo:=by omega
   subst e;exact⟨h2,h4,h5⟩
theorem below_spec {xs:Array Nat}(hr:Ris xs)(j:Nat):below xs j<=xs.size/\(∀ i (h:i<xs.size),i<below xs j->xs[i]<j)/\(∀ i (h:i<xs.size),below xs j<=i->j<=xs[i]):=by
 unfold below;exact go_spec hr _ _ _ (bf _) (ao _) (by omega) (fun i h hi=>absurd hi (cL _)) (fun i h hi=>absurd h (Nat.not_lt.mpr hi))
theorem below_at {xs:Array Nat}(hr:Ris xs){i:Nat}(hi:i<xs.size):below xs xs[i]=i:=by
 obtain⟨h1,h2,h3⟩:=below_spec hr xs[i];rcases j7 (below xs xs[i]) i with h | h | h
 ·have:=h3 (below xs xs[i]) (by omega) (ao _);have:=hr _ i (by omega) hi h;omega
 ·exact h
 ·have:=h2 i hi h;omega
theorem below_next {xs:Array Nat}(hr:Ris xs){i:Nat}(hi:i<xs.size):below xs (xs[i]+1)=i+1:=by
 obtain⟨h1,h2,h3⟩:=below_spec hr (xs[i]+1);rcases j7 (below xs (xs[i]+1)) (i+1) with h | h | h
 ·have:=h3 i hi (by omega);omega
 ·exact h
 ·have:=h2 (i+1) (by omega) h;have:=hr i (i+1) hi (by omega) (by omega);omega
theorem below_zero {xs:Array Nat}(hr:Ris xs):below xs 0=0:=by
 obtain⟨h1,h2,h3⟩:=below_spec hr 0;rcases jV (below xs 0) with h | h
 ·exact h
 ·have:=h2 0 (by omega) h;omega
theorem has_none (j:Nat):has #[] j=false:=by
 unfold has;simp
theorem slot_live {t:SetTable}{j i:Nat}(h:t.slot j=.live i):t.place[i]?=some j:=by
 unfold slot at h;dsimp only at h;split at h
 ·rename_i hc;injection h with h
  subst h;simpa using hc
 ·split at h<;>exact Slot.noConfusion h
theorem slot_dummy {t:SetTable}{j:Nat}(hd:t.dummies=#[]):t.slot j≠.dummy:=by
 intro h;unfold slot at h;dsimp only at h;rw[hd,has_none] at h;split at h
 ·exact Slot.noConfusion h
 ·simp at h
theorem slot_empty {t:SetTable}{j:Nat}(hr:Ris t.place)(h:t.slot j=.empty):j∉t.place.toList:=by
 intro hm;obtain⟨i,hi,e⟩:=db hm;have hi':i<t.place.size:=by simpa using hi
 have e':t.place[i]=j:=by simpa using e
 have hb:=below_at hr hi';rw[e'] at hb;unfold slot at h;dsimp only at h;rw[hb,aX hi',e'] at h;simp at h
theorem slot_free {t:SetTable}{j:Nat}(hd:t.dummies=#[])(h:j∉t.place.toList):t.slot j=.empty:=by
 cases hs:t.slot j with
 | empty=>rfl
 | dummy=>exact absurd hs (slot_dummy hd)
 | live i =>
  have:=slot_live hs;exact absurd (by rw[<- bC] at this;exact aI this) h
theorem ris_of {xs:Array Nat}(h:xs.toList.Pairwise (·<·)):Ris xs:=by
 intro i j hi hj hij;have:=d9.mp h i j (by simpa using hi) (by simpa using hj) hij;simpa using this
theorem of_ris {xs:Array Nat}(h:Ris xs):xs.toList.Pairwise (·<·):=by
 refine List.pairwise_iff_getElem.mpr fun i j hi hj hij=>?_
 have:=h i j (by simpa using hi) (by simpa using hj) hij;simpa using this
theorem ris_put {xs:Array Nat}{j:Nat}(hr:Ris xs)(hn:j∉xs.toList):Ris (insertAt xs (below xs j) j):=by
 obtain⟨h1,h2,h3⟩:=below_spec hr j;refine ris_of ?_;rw[toList_insertAt];have hp:=of_ris hr;have hlo:∀ x∈xs.toList.take (below xs j),x<j:=by
  intro x hx;obtain⟨i,hi,e⟩:=db hx;have hi2:i<below xs j/\i<xs.size:=by simp at hi;omega
  have:=h2 i hi2.2 hi2.1;simp at e;rw[<- e];exact this
 have hhi:∀ x∈xs.toList.drop (below xs j),j<x:=by
  intro x hx;have hxm:x∈xs.toList:=jB hx;obtain⟨i,hi,e⟩:=db hx;have hi2:below xs j+i<xs.size:=by simp at hi;omega
  have:=h3 (below xs j+i) hi2 (by omega);simp at e;rw[e] at this;have:j≠x:=fun e=>hn (e ▸ hxm)
  omega
 refine List.pairwise_append.mpr ⟨hp.sublist (gR _ _),dP.mpr ⟨hhi,hp.sublist (j0 _ _)⟩,?_⟩;intro a ha b hb;rcases aD.mp hb with rfl | hb
 ·exact hlo a ha
 ·exact fj (hlo a ha) (hhi b hb)
def f5 (N i:Nat):Nat:=(i*5+1) % N
def it5 (N:Nat):Nat->Nat->Nat
 | 0,i=>i
 | n+1,i=>it5 N n (f5 N i)
theorem it5_add (N:Nat):∀(m n i:Nat),it5 N (m+n) i=it5 N n (it5 N m i)
 | 0,n,i=>by rw[cZ];rfl
 | m+1,n,i=>by rw[jw];show it5 N (m+n) (f5 N i)=it5 N n (it5 N m (f5 N i));exact it5_add N m n _
def orb (N:Nat):Nat->Nat->List Nat
 | 0,_=>[]
 | n+1,i=>i::orb N n (f5 N i)
theorem orb_mem (N:Nat):∀(n i r:Nat),r∈orb N n i->∃ k,k<n/\it5 N k i=r
 | 0,_,_,h=>by simp[orb] at h
 | n+1,i,r,h=>by
  rcases aD.mp h with rfl | h
  ·exact⟨0,fK _,rfl⟩
  ·obtain⟨k,hk,e⟩:=orb_mem N n _ r h;exact⟨k+1,Nat.succ_lt_succ hk,e⟩
structure Full (N:Nat):Prop where
 all:∀ r,r<N->r∈orb N N 0
 back:it5 N N 0=0
theorem full_of {N:Nat}(h1:(List.range N).all (fun r=>(orb N N 0).contains r)=true)(h2:(it5 N N 0 == 0)=true):Full N :=
 ⟨fun r hr=>by have:=eF.mp h1 r (cn.mpr hr);simpa using this,by simpa using h2⟩
theorem full8:Full 8:=full_of (by decide +kernel) (by decide +kernel)
theorem full32:Full 32:=full_of (by decide +kernel) (by decide +kernel)
theorem full128:Full 128:=full_of (by decide +kernel) (by decide +kernel)
theorem full512:Full 512:=full_of (by decide +kernel) (by decide +kernel)
theorem Full.hit {N:Nat}(F:Full N){i r:Nat}(hi:i<N)(hr:r<N):∃ k,k<N/\it5 N k i=r:=by
 obtain⟨m,hm,em⟩:=orb_mem N N 0 i (F.all i hi);obtain⟨n,hn,en⟩:=orb_mem N N 0 r (F.all r hr);by_cases hmn:m<=n
 ·refine⟨n-m,by omega,?_⟩;have:=it5_add N m (n-m) 0;rw[em,show m+(n-m)=n by omega,en] at this;exact this.symm
 ·refine⟨N-m+n,by omega,?_⟩;have h1:=it5_add N m (N-m) 0;rw[em,show m+(N-m)=N by omega,F.back] at h1;rw[it5_add,<- h1,en]
def leaps (mask:Nat):Nat->Nat×Nat->Nat×Nat
 | 0,p=>p
 | n+1,p=>leaps mask n (leap mask p.1 p.2)
theorem leaps_add (mask:Nat):∀(m n:Nat) (p:Nat×Nat),leaps mask (m+n) p=leaps mask n (leaps mask m p)
 | 0,n,p=>by rw[cZ];rfl
 | m+1,n,p=>by rw[jw];show leaps mask (m+n) _=leaps mask n (leaps mask m _);exact leaps_add mask m n _
theorem leaps_snd (mask:Nat):∀(n:Nat) (p:Nat×Nat),(leaps mask n p).2=p.2 / 32 ^ n
 | 0,p=>by simp[leaps]
 | n+1,p=>by
  show (leaps mask n (leap mask p.1 p.2)).2=_;rw[leaps_snd];show p.2 / 32 / 32 ^ n=_;rw[Nat.div_div_eq_div_mul,Nat.pow_succ,Nat.mul_comm]
theorem leaps_fst (mask:Nat):∀(n:Nat) (p:Nat×Nat),p.1<=mask->(leaps mask n p).1<=mask
 | 0,p,h=>h
 | n+1,p,h=>leaps_fst mask n _ (dW (gZ (p.1*5+1+p.2 / 32) (fK mask)))
theorem leaps_zero (mask:Nat):∀(n i:Nat),leaps mask n (i,0)=(it5 (mask+1) n i,0)
 | 0,i=>rfl
 | n+1,i=>by
  show leaps mask n (leap mask i 0)=_;have:leap mask i 0=(f5 (mask+1) i,0):=by simp[leap,f5]
  rw[this,leaps_zero];rfl
theorem leaps_hit {mask:Nat}(F:Full (mask+1)){i perturb r:Nat}(hi:i<=mask)(hp:perturb<2 ^ 64)(hr:r<=mask):∃ n,n<mask+14/\(leaps mask n (i,perturb)).1=r:=by
 have h2:(leaps mask 13 (i,perturb)).2=0:=by
  rw[leaps_snd];exact Nat.div_eq_of_lt (bh hp (by decide))
 have h1:=leaps_fst mask 13 (i,perturb) hi;have e:leaps mask 13 (i,perturb)=((leaps mask 13 (i,perturb)).1,0):=by rw[<- h2]
 obtain⟨k,hk,ek⟩:=F.hit (i:=(leaps mask 13 (i,perturb)).1) (r:=r) (by omega) (by omega);refine⟨13+k,by omega,?_⟩;rw[leaps_add,e,leaps_zero];exact ek
def adv (t:SetTable):Nat->Probe->Probe
 | 0,p=>p
 | n+1,p=>adv t n (t.advance p)
theorem adv_add (t:SetTable):∀(m n:Nat) (p:Probe),adv t (m+n) p=adv t n (adv t m p)
 | 0,n,p=>by rw[cZ];rfl
 | m+1,n,p=>by rw[jw];show adv t (m+n) _=adv t n (adv t m _);exact adv_add t m n _
structure Good (t:SetTable)(p:Probe):Prop where
 i:p.i<=t.mask
 j:p.j+p.more<=t.mask
 more:p.more<=9
 perturb:p.perturb<2 ^ 64
 dummy:p.dummy=none
theorem runEnd_le {mask i:Nat}(h:i<=mask):i<=runEnd mask i/\runEnd mask i<=mask/\runEnd mask i-i<=9:=by
 unfold runEnd;split<;>omega
theorem Good.advance {t:SetTable}{p:Probe}(g:Good t p):Good t (t.advance p):=by
 obtain⟨h1,h2,h3,h4,h5⟩:=g;unfold SetTable.advance;split
 ·exact⟨h1,by simp only;omega,by simp only;omega,h4,h5⟩
 ·have hm:(leap t.mask p.i p.perturb).1<=t.mask:=dW (gZ (p.i*5+1+p.perturb / 32) (fK t.mask));have hr:=runEnd_le hm;have hp:(leap t.mask p.i p.perturb).2<2 ^ 64:=jU (Nat.div_le_self _ _) h4;exact⟨hm,by simp only;omega,by simp only;omega,hp,h5⟩
theorem good_start (t:SetTable)(h:Int):Good t (t.probeStart h):=by
 have hm:bits h % (t.mask+1)<=t.mask:=dW (gZ (bits h) (fK t.mask));have hr:=runEnd_le hm;refine⟨hm,by simp only[probeStart];omega,by simp only[probeStart];omega,?_,rfl⟩;show bits h<2 ^ 64;unfold bits;have h1:=bE h (show (2 ^ 64:Int)≠0 by decide);have h2:=bn h (show (0:Int)<2 ^ 64 by decide);have h3:(2 ^ 64:Int)=((2 ^ 64:Nat):Int):=by norm_cast
 omega
theorem to_leap (t:SetTable):∀(m:Nat) (p:Probe),p.more=m->∃ q,adv t (m+1) p=q/\q.j=(leap t.mask p.i p.perturb).1/\q.i=(leap t.mask p.i p.perturb).1/\q.perturb=(leap t.mask p.i p.perturb).2
 | 0,p,h=>by
  refine⟨_,rfl,?_⟩;show (t.advance p).j=_/\(t.advance p).i=_/\(t.advance p).perturb=_;unfold SetTable.advance;rw[if_neg (by omega)];exact⟨rfl,rfl,rfl⟩
 | m+1,p,h=>by
  have e:t.advance p={p with j:=p.j+1,more:=p.more-1}:=by unfold SetTable.advance;rw[if_pos (by omega)]
  show ∃ q,adv t (m+1) (t.advance p)=q/\_;rw[e];exact to_leap t m {p with j:=p.j+1,more:=p.more-1} (by simp only;omega)
theorem Good.adv {t:SetTable}:∀(n:Nat) {p:Probe},Good t p->Good t (STab.adv t n p)
 | 0,_,g=>g
 | n+1,_,g=>Good.adv n g.advance
theorem to_leaps (t:SetTable):∀(n:Nat) (p:Probe),Good t p->p.j=p.i->∃ m,m<=10*n/\(adv t m p).j=(leaps t.mask n (p.i,p.perturb)).1
 | 0,p,_,h=>⟨0,ao _,h⟩
 | n+1,p,g,_=>by
  obtain⟨q,hq,h1,h2,h3⟩:=to_leap t p.more p rfl;have gq:Good t q:=hq ▸ g.adv _;obtain⟨m,hm,e⟩:=to_leaps t n q gq (h1.trans h2.symm);refine⟨p.more+1+m,by have:=g.more;omega,?_⟩;rw[adv_add,hq,e,h2,h3];rfl
theorem start_head (t:SetTable)(h:Int):(t.probeStart h).j=(t.probeStart h).i:=rfl
theorem start_hit {t:SetTable}(F:Full (t.mask+1))(h:Int){r:Nat}(hr:r<=t.mask):∃ n,n<10*turns t.mask/\(adv t n (t.probeStart h)).j=r:=by
 have g:=good_start t h;obtain⟨n,hn,e⟩:=leaps_hit F g.i g.perturb hr;obtain⟨m,hm,e'⟩:=to_leaps t n _ g (start_head t h);refine⟨m,by unfold turns;omega,e'.trans e⟩
theorem probe_go {t:SetTable}{hashAt:Nat->Int}{h:Int}(hd:t.dummies=#[]):∀(fuel:Nat) (p:Probe) (n:Nat),Good t p->n<fuel->t.slot (adv t n p).j=.empty ->
    ∃ k,k<=n/\(∀ k',k'<k->∃ i,t.slot (adv t k' p).j=.live i/\hashAt i≠h) /\
      ((t.slot (adv t k p).j=.empty/\probe.go t hashAt h fuel p=some (.empty (adv t k p).j none)) \/
       ∃ i,t.slot (adv t k p).j=.live i/\hashAt i=h/\probe.go t hashAt h fuel p=some (.candidate (adv t k p).j i (t.advance (adv t k p))))
  | 0,p,n,_,hn,_=>absurd hn (cL _)
  | fuel+1,p,n,g,hn,he=>by
    cases hs:t.slot p.j with
    | empty =>
      refine⟨0,bf _,fun k' hk=>absurd hk (cL _),.inl ⟨hs,?_⟩⟩;unfold probe.go;rw[hs];dsimp only;rw[g.dummy];rfl
    | dummy=>exact absurd hs (slot_dummy hd)
    | live i =>
      by_cases hi:hashAt i=h
      · refine⟨0,bf _,fun k' hk=>absurd hk (cL _),.inr ⟨i,hs,hi,?_⟩⟩
        unfold probe.go;rw[hs];dsimp only;rw[if_pos (by simpa using hi)];rfl
      · cases n with
        | zero=>exact absurd (hs.symm.trans he) (by simp)
        | succ n =>
          obtain⟨k,hk,hb,hr⟩:=probe_go hd fuel (t.advance p) n g.advance (by omega) he;refine⟨k+1,by omega,fun k' hk'=>?_,?_⟩
          · cases k' with
            | zero=>exact⟨i,hs,hi⟩
            | succ k'=>exact hb k' (by omega)
          · have e:probe.go t hashAt h (fuel+1) p=probe.go t hashAt h fuel (t.advance p):=by
              rw[probe.go];rw[hs];dsimp only;rw[if_neg (by simpa using hi)]
            rw[e];exact hr
theorem nat_sub:∀ {us l:List Nat},us.Nodup->us ⊆ l->us.length<=l.length
 | [],_,_,_=>bf _
 | x::r,l,hn,hs=>by
  have hx:x∈l:=hs (aN ..);have hn':=cf.mp hn;have:=nat_sub (us:=r) (l:=l.erase x) hn'.2 (fun y hy=>(jC (fun e=>by subst e;exact hn'.1 hy)).mpr (hs (aM _ hy)));rw[i7 hx] at this;have:=jl hx;rw[aH];omega
theorem some_free {N:Nat}{xs:List Nat}(h:xs.length<N):∃ r,r<N/\r∉xs:=by
 apply aZ;intro hn;have hall:∀ r,r∈List.range N->r∈xs:=fun r hr=>aZ fun hx=>hn ⟨r,cn.mp hr,hx⟩
 have:(List.range N).length<=xs.length:=by
  exact nat_sub List.nodup_range hall
 simp at this;omega
structure Ok (t:SetTable)(n:Nat)(led:Bool):Prop where
 ris:Ris t.place
 dum:t.dummies=#[]
 size:t.place.size=n
 inn:∀ x∈t.place.toList,x<=t.mask
 full:Full (t.mask+1)
 plain:t.plain=true
 led:t.led=led
 room:n*5<t.mask*3
 mask:t.mask=7\/t.mask=31\/t.mask=127\/t.mask=511
theorem ok_fresh (led:Bool):Ok (.fresh 0 0 led) 0 led :=
 ⟨fun i j hi=>absurd hi (cL _),rfl,rfl,fun x h=>by simp[SetTable.fresh] at h,full8,rfl,rfl,(by show 0*5<7*3;decide),.inl rfl⟩
theorem Ok.fill {t:SetTable}{n:Nat}{led:Bool}(o:Ok t n led):t.fill=n:=by unfold SetTable.fill;rw[o.dum,o.size];rfl
theorem Ok.fits {t:SetTable}{n:Nat}{led:Bool}(o:Ok t n led):t.fits n=true:=by
 unfold SetTable.fits;rw[o.fill,o.size];have:=o.room;simp;omega
theorem Ok.hole {t:SetTable}{n:Nat}{led:Bool}(o:Ok t n led):∃ r,r<=t.mask/\t.slot r=.empty:=by
 obtain⟨r,hr,hn⟩:=some_free (N:=t.mask+1) (xs:=t.place.toList) (by have:=o.room;have:=o.size;simp;omega);exact⟨r,by omega,slot_free o.dum hn⟩
theorem Ok.probe {t:SetTable}{n:Nat}{led:Bool}(o:Ok t n led)(hashAt:Nat->Int)(h:Int) :
    ∃ k,(∀ k',k'<k->∃ i,t.slot (adv t k' (t.probeStart h)).j=.live i/\hashAt i≠h) /\
      ((t.slot (adv t k (t.probeStart h)).j=.empty/\t.probe hashAt h (t.probeStart h)=some (.empty (adv t k (t.probeStart h)).j none)) \/
       ∃ i,t.slot (adv t k (t.probeStart h)).j=.live i/\hashAt i=h/\t.probe hashAt h (t.probeStart h)=some (.candidate (adv t k (t.probeStart h)).j i (t.advance (adv t k (t.probeStart h))))):=by
  obtain⟨r,hr,he⟩:=o.hole;obtain⟨n,hn,en⟩:=start_hit o.full h hr;obtain⟨k,hk,hb,hx⟩:=probe_go (hashAt:=hashAt) (h:=h) o.dum (10*turns t.mask) (t.probeStart h) n (good_start t h) hn (en ▸ he);exact⟨k,hb,hx⟩
structure Ok1 (t:SetTable)(n:Nat)(led:Bool):Prop where
 ris:Ris t.place
 dum:t.dummies=#[]
 size:t.place.size=n
 inn:∀ x∈t.place.toList,x<=t.mask
 full:Full (t.mask+1)
 plain:t.plain=true
 led:t.led=led
 mask:t.mask=7\/t.mask=31\/t.mask=127\/t.mask=511
 le:n<=t.mask
 last:(n-1)*5<t.mask*3
theorem Ok1.fits {t:SetTable}{n:Nat}{led:Bool}(o:Ok1 t n led):t.fits n=true:=by
 unfold SetTable.fits SetTable.fill;rw[o.dum,o.size];have:=o.le;simp;omega
theorem Ok.put {t:SetTable}{n:Nat}{led:Bool}(o:Ok t n led){j:Nat}(hj:t.slot j=.empty)(hm:j<=t.mask):Ok1 (t.put j).1 (n+1) led:=by
 have hn:=slot_empty o.ris hj;have hd:(t.put j).1.dummies=#[]:=by
  show (if has t.dummies j then eraseAt t.dummies (below t.dummies j) else t.dummies)=#[];rw[o.dum,has_none];rfl
 have hr:=o.room;refine⟨ris_put o.ris hn,hd,?_,?_,o.full,o.plain,o.led,o.mask,?_,?_⟩
 ·show (insertAt t.place (below t.place j) j).size=n+1;rw[<- aY,(insertAt_perm _ _ _).length_eq];simp[o.size]
 ·intro x hx;have hx':x∈(insertAt t.place (below t.place j) j).toList:=hx;have:=(insertAt_perm t.place (below t.place j) j).mem_iff.mp hx';simp at this;rcases this with h | rfl
  ·exact o.inn x (by simpa using h)
  ·exact hm
 ·show n+1<=t.mask;rcases o.mask with h | h | h | h<;>omega
 ·show (n+1-1)*5<t.mask*3;simpa using hr
theorem Ok1.ok {t:SetTable}{n:Nat}{led:Bool}(o:Ok1 t n led)(h:t.tooFull=false):Ok t n led:=by
 have hf:t.fill=n:=by unfold SetTable.fill;rw[o.dum,o.size];rfl
 refine⟨o.ris,o.dum,o.size,o.inn,o.full,o.plain,o.led,?_,o.mask⟩;unfold SetTable.tooFull at h;rw[hf] at h;simpa using h
theorem layNew_ok {t:SetTable}{es:Array (Int×Value)}{led:Bool}(o:Ok t es.size led)(h:Int)(x:Value) :
  ∃ es' t',layNew t es h x=(es',t',false,false)/\Ok1 t' es'.size led/\es'.toList.Perm (es.push (h,x)).toList/\es'.size=es.size+1:=by
 obtain⟨k,_,hk⟩:=o.probe (fun _=>h+1) h;have hp:=layNew_perm t es h x;rcases hk with ⟨he,hpr⟩ | ⟨i,_,hi,_⟩
 ·have hf:t.freeSlot h=some ((adv t k (t.probeStart h)).j,false):=by
   unfold SetTable.freeSlot;rw[hpr];rfl
  have hj:(adv t k (t.probeStart h)).j<=t.mask:=by have:=((good_start t h).adv k).j;omega
  have hok:=o.put he hj;have hsz:(insertAt es (t.put (adv t k (t.probeStart h)).j).2 (h,x)).size=es.size+1:=by
   rw[<- aY,(insertAt_perm _ _ _).length_eq];simp
  have hfit:(t.put (adv t k (t.probeStart h)).j).1.fits (es.size+1)=true:=hok.fits;have hl:layNew t es h x=(insertAt es (t.put (adv t k (t.probeStart h)).j).2 (h,x),(t.put (adv t k (t.probeStart h)).j).1,false,false):=by
   unfold layNew;rw[hf];dsimp only;unfold SetTable.orStandIn;rw[hsz,hfit];rfl
  refine⟨_,_,hl,hsz.symm ▸ hok,?_,hsz⟩;rw[hl] at hp;exact hp
 ·omega
theorem free_some {mask:Nat}{owner:Array (Option Nat)}:∀(fuel i perturb n:Nat),i<=mask->n<fuel->owner.getD (leaps mask n (i,perturb)).1 (some 0)=none ->
  ∃ j,layClean.free mask owner fuel i perturb=some j/\owner.getD j (some 0)=none
 | 0,_,_,_,_,hn,_=>absurd hn (cL _)
 | fuel+1,i,perturb,n,hi,hn,he=>by
  unfold layClean.free;cases hf:(List.range (runEnd mask i+1-i)).find? (fun k=>(owner.getD (i+k) (some 0)).isNone) with
  | some k =>
   have:=List.find?_some hf;exact⟨i+k,rfl,by simpa using this⟩
  | none =>
   cases n with
   | zero =>
    have h1:=List.find?_eq_none.mp hf 0 (cn.mpr (by have:=runEnd_le hi;omega));have he':owner.getD i (some 0)=none:=he;rw[jy,he'] at h1;exact absurd rfl h1
   | succ n =>
    exact free_some fuel _ _ n (leaps_fst mask 1 (i,perturb) hi) (by omega) he
def own (N:Nat)(owner:Array (Option Nat)):List Nat:=(List.range N).filterMap fun j=>owner.getD j none
theorem filterMap_len {α β:Type}{f:α->Option β}:∀ {l:List α},(∀ x∈l,(f x).isSome=true)->(l.filterMap f).length=l.length
 | [],_=>rfl
 | x::l,h=>by
  obtain⟨y,hy⟩:=iM.mp (h x (aN ..));rw[cj hy,aH,aH,filterMap_len fun z hz=>h z (aM _ hz)]
theorem fm_congr {α β:Type}{f g:α->Option β}:∀ {l:List α},(∀ x∈l,g x=f x)->l.filterMap g=l.filterMap f
 | [],_=>rfl
 | x::l,h=>by
  have ih:=fm_congr (l:=l) fun y hy=>h y (aM _ hy)
  rw[eM,eM,h x (aN ..),ih]
theorem filterMap_put {α:Type}{f g:Nat->Option α}{j:Nat}{k:α}:∀ {l:List Nat},l.Nodup->j∈l->f j=none->g j=some k->(∀ x,x≠j->g x=f x)->(l.filterMap g).Perm (k::l.filterMap f)
 | [],_,hj,_,_,_=>by simp at hj
 | x::l,hn,hj,hf,hg,he=>by
  have hn':=cf.mp hn;by_cases hx:x=j
  ·subst hx;rw[cj hg,cS hf];have:l.filterMap g=l.filterMap f:=fm_congr fun y hy=>he y fun e=>hn'.1 (e ▸ hy)
   rw[this]
  ·have hj':j∈l:=(aD.mp hj).resolve_left fun e=>hx e.symm
   have ih:=filterMap_put hn'.2 hj' hf hg he;cases hfx:f x with
   | none=>rw[cS hfx,cS ((he x hx).trans hfx)];exact ih
   | some y =>
    rw[cj hfx,cj ((he x hx).trans hfx)];exact (ih.cons y).trans (List.Perm.swap ..)
theorem getD_free {owner:Array (Option Nat)}{j:Nat}(h:owner.getD j (some 0)=none):j<owner.size/\owner.getD j none=none:=by
 by_cases hj:j<owner.size
 ·refine⟨hj,?_⟩;simp[Array.getD,hj] at h ⊢;exact h
 ·simp[Array.getD,hj] at h
def layF (mask:Nat):Option (Array (Option Nat)×Nat)->Int->Option (Array (Option Nat)×Nat):=fun acc h=>do
  let (owner,k) <- acc
  let j <- layClean.free mask owner (turns mask) (bits h % (mask+1)) (bits h)
  pure (owner.setIfInBounds j (some k),k+1)
theorem layF_fold {mask:Nat}(F:Full (mask+1)):∀(hs:List Int) (owner:Array (Option Nat)) (k:Nat),owner.size=mask+1->(own (mask+1) owner).Perm (List.range k)->k+hs.length<=mask ->
  ∃ owner',hs.foldl (layF mask) (some (owner,k))=some (owner',k+hs.length)/\owner'.size=mask+1/\(own (mask+1) owner').Perm (List.range (k+hs.length))
 | [],owner,k,h1,h2,_=>⟨owner,rfl,h1,h2⟩
 | h::hs,owner,k,h1,h2,h3=>by
  rw[aH] at h3;have hole:∃ r,r<=mask/\owner.getD r (some 0)=none:=by
   apply aZ;intro hn;have:(own (mask+1) owner).length=mask+1:=by
    unfold own;rw[filterMap_len,gT];intro x hx;have hx':x<owner.size:=by rw[h1];exact cn.mp hx
    have hx2:x<=mask:=by rw[h1] at hx';omega
    cases hg:owner.getD x none with
    | some y=>rfl
    | none =>
     refine absurd ⟨x,hx2,?_⟩ hn;simp[Array.getD,hx'] at hg ⊢;exact hg
   rw[h2.length_eq,gT] at this;omega
  obtain⟨r,hr,er⟩:=hole;have hb:bits h % (mask+1)<=mask:=dW (gZ (bits h) (fK mask));have hp:bits h<2 ^ 64:=(good_start {mask:=mask,place:=#[],dummies:=#[],finger:=0,led:=true,moves:=0,plain:=true} h).perturb;obtain⟨n,hn,en⟩:=leaps_hit F hb hp hr;obtain⟨j,hj,ej⟩:=free_some (owner:=owner) (turns mask) _ (bits h) n hb (by unfold turns;omega) (by rw[en];exact er);obtain⟨hjs,hjn⟩:=getD_free ej;have hstep:layF mask (some (owner,k)) h=some (owner.setIfInBounds j (some k),k+1):=by
   show (do let j <- layClean.free mask owner (turns mask) (bits h % (mask+1)) (bits h);pure (owner.setIfInBounds j (some k),k+1))=_;rw[hj];rfl
  rw[iB,hstep];have hown:(own (mask+1) (owner.setIfInBounds j (some k))).Perm (List.range (k+1)):=by
   refine List.Perm.trans (filterMap_put (j:=j) (k:=k) (f:=fun j=>owner.getD j none) List.nodup_range (cn.mpr (h1 ▸ hjs)) hjn ?_ ?_) ?_
   ·simp[Array.getD,hjs]
   ·intro x hx;by_cases hxs:x<owner.size
    ·simp[Array.getD,hxs,Array.getElem_setIfInBounds,fG hx]
    ·simp[Array.getD,hxs]
   ·rw[show List.range (k+1)=List.range k++[k] from ix];exact (h2.cons k).trans (iP k _).symm
  obtain⟨o',e',s',p'⟩:=layF_fold F hs (owner.setIfInBounds j (some k)) (k+1) (by simpa using h1) hown (by omega);refine⟨o',?_,s',?_⟩
  ·rw[e',aH,show k+1+hs.length=k+(hs.length+1) by omega]
  ·rw[aH,show k+(hs.length+1)=k+1+hs.length by omega];exact p'
theorem layClean_ok {mask:Nat}(F:Full (mask+1))(hs:Array Int)(h:hs.size<=mask):∃ owner,layClean mask hs=some owner/\owner.size=mask+1/\(own (mask+1) owner).Perm (List.range hs.size):=by
 have h0:(own (mask+1) (fw (mask+1) none)).Perm (List.range 0):=by
  have:own (mask+1) (fw (mask+1) none)=[]:=by
   unfold own;refine List.filterMap_eq_nil_iff.mpr fun x hx=>?_
   have:x<mask+1:=cn.mp hx;simp[Array.getD,this]
  rw[this];exact .nil
 obtain⟨o,e,s,p⟩:=layF_fold F hs.toList (fw (mask+1) none) 0 (by simp) h0 (by simpa using h);rw[cZ,aY] at e p;refine⟨o,?_,s,p⟩;unfold layClean;have:hs.foldl (layF mask) (some (fw (mask+1) none,0))=some (o,hs.size):=by rw[<- Array.foldl_toList];exact e
 show (hs.foldl (layF mask) (some (fw (mask+1) none,0))).map (·.1)=some o;rw[this];rfl
theorem filterMap_pairs {owner:Array (Option Nat)}:∀ l:List Nat,((l.filterMap fun j=>(owner.getD j none).map (j,·)).map (·.2))=l.filterMap fun j=>owner.getD j none
 | []=>rfl
 | x::l=>by
  cases h:owner.getD x none with
  | none=>rw[cS (by rw[h];rfl),cS (f:=fun j=>owner.getD j none) h];exact filterMap_pairs l
  | some y=>rw[cj (b:=(x,y)) (by rw[h];rfl),cj (f:=fun j=>owner.getD j none) h,aL,filterMap_pairs l]
theorem pairs_fst {owner:Array (Option Nat)}:∀ {l:List Nat},l.Pairwise (·<·)->((l.filterMap fun j=>(owner.getD j none).map (j,·)).map (·.1)).Pairwise (·<·)/\∀ x∈(l.filterMap fun j=>(owner.getD j none).map (j,·)).map (·.1),x∈l
 | [],_=>⟨.nil,fun x h=>h⟩
 | x::l,h=>by
  obtain⟨h1,h2⟩:=dP.mp h;obtain⟨i1,i2⟩:=pairs_fst (owner:=owner) h2;cases hg:owner.getD x none with
  | none =>
   rw[cS (by rw[hg];rfl)];exact⟨i1,fun y hy=>aM _ (i2 y hy)⟩
  | some y =>
   rw[cj (b:=(x,y)) (by rw[hg];rfl),aL];refine⟨dP.mpr ⟨fun z hz=>h1 z (i2 z hz),i1⟩,fun z hz=>?_⟩;rcases aD.mp hz with rfl | hz
   ·exact aN ..
   ·exact aM _ (i2 z hz)
theorem range_rising (n:Nat):(List.range n).Pairwise (·<·):=jk
theorem relay_ok {t:SetTable}{es:Array (Int×Value)}{n:Nat}{led:Bool}(o:Ok1 t n led)(hes:es.size=n)(hf:t.tooFull=true)(hn:n<=300) :
  ∃ es' t',relayAll t es (grown es.size)=(es',t',false)/\Ok t' n led/\es'.toList.Perm es.toList:=by
 have hfill:t.fill=n:=by unfold SetTable.fill;rw[o.dum,o.size];rfl
 have hg:∃ M,sizeAbove (grown es.size)-1=M/\Full (M+1)/\n*5<M*3/\(M=7\/M=31\/M=127\/M=511):=by
  have h1:=o.last;unfold SetTable.tooFull at hf;rw[hfill] at hf;have hf':t.mask*3<=n*5:=by simpa using hf
  rw[hes];rcases o.mask with h | h | h | h
  ·have:n=5:=by omega
   subst this;exact⟨31,by decide +kernel,full32,by decide,by decide⟩
  ·have:n=19:=by omega
   subst this;exact⟨127,by decide +kernel,full128,by decide,by decide⟩
  ·have:n=77:=by omega
   subst this;exact⟨511,by decide +kernel,full512,by decide,by decide⟩
  ·omega
 obtain⟨M,hM,hF,hroom,hmask⟩:=hg;have hp:=relayAll_perm t es (grown es.size);obtain⟨owner,ho,hs,hperm⟩:=layClean_ok hF (es.map (·.1)) (by rw[gv,hes];omega);rw[gv,hes] at hperm
 let live:=(List.range (M+1)).filterMap fun j=>(owner.getD j none).map (j,·)
 have hlive2:(live.map (·.2)).Perm (List.range n):=by rw[show live.map (·.2)=own (M+1) owner from filterMap_pairs _];exact hperm
 obtain⟨hl1,hl2⟩:=pairs_fst (owner:=owner) (range_rising (M+1));have hlen:(live.map (·.1)).length=n:=by rw[ab,<- ab (f:=(·.2)) (as:=live),hlive2.length_eq,gT]
 let t':SetTable:={mask:=M,place:=(live.map (·.1)).toArray,dummies:=#[],finger:=t.finger,led:=t.led,moves:=t.movedTo M,plain:=t.plain}
 have hr:t.relaid (es.map (·.1)) (grown es.size)=some (t',(live.map (·.2)).toArray):=by
  unfold SetTable.relaid SetTable.laid;rw[hM,ho];rfl
 have hok:Ok t' n led:=⟨ris_of (show (live.map (·.1)).Pairwise (·<·) from hl1),rfl,by simpa [t'] using hlen,fun x hx=>by
  have:x∈live.map (·.1):=by simpa [t'] using hx
  have:=cn.mp (hl2 x this);show x<=M;omega,hF,o.plain,o.led,hroom,hmask⟩
 have hcov:coversAll (live.map (·.2)).toArray es.size=true:=by
  unfold coversAll;rw[hes];exact List.isPerm_iff.mpr (by simpa using hlive2)
 have hsz:((live.map (·.2)).toArray.filterMap (es[·]?)).size=n:=by
  rw[<- aY,Array.toList_filterMap];have:=(hlive2.filterMap (fun i=>es[i]?)).length_eq;rw[show (live.map (·.2)).toArray.toList=live.map (·.2) by simp,this,<- hes,filterMap_getElem?_range,aY]
 have hall:relayAll t es (grown es.size)=((live.map (·.2)).toArray.filterMap (es[·]?),t',false):=by
  unfold relayAll;rw[hr];dsimp only;rw[hcov,hsz,hok.fits];rfl
 refine⟨_,_,hall,hok,?_⟩;rw[hall] at hp;exact hp
end STab
end
section
namespace Srt
open PySem PyProof.Rows
section
variable {prog:Program}{w:World}{A:Around}{E:Value->Shared->Prop}{s:Shared}
def BagAt (h:Heap)(a:Addr)(es:Array (Int×Value))(ep:Nat)(t:SetTable)(led:Bool):Prop:=∃ o,h.get? a=some o/\o.ExactSet/\o.data=.set es ep t/\STab.Ok t es.size led
theorem BagAt.keep {h h':Heap}{a:Addr}{es:Array (Int×Value)}{ep:Nat}{t:SetTable}{led:Bool}(b:BagAt h a es ep t led)(k:∀ o,h.get? a=some o->h'.get? a=some o):BagAt h' a es ep t led:=let ⟨o,ho,q⟩:=b;⟨o,k _ ho,q⟩
theorem BagAt.typeIs {a:Addr}{es:Array (Int×Value)}{ep:Nat}{t:SetTable}{led:Bool}(b:BagAt s.heap a es ep t led):s.TypeIs (.ref a) "set":=let ⟨o,ho,hx,_⟩:=b;⟨o,ho,hx.1⟩
theorem bag_store {h:Heap}{a:Addr}{o:Obj}{es es':Array (Int×Value)}{ep:Nat}{t t':SetTable}(ho:h.get? a=some o)(hx:o.ExactSet)(hd:o.data=.set es ep t) :
  ∃ o',(h.update a (i8 es' t')).get? a=some o'/\o'.ExactSet/\o'.data=.set es' (ep+1) t':=by
 have e:=putSet_of es' t' hd;refine⟨{o with data:=.set es' (ep+1) t'},?_,hx,rfl⟩;have hg:=cQ (i8 es' t') ho (by rw[e];rfl);rw[hg,e]
def BagI (prog:Program)(w:World)(h:Heap)(a:Addr)(ms:List Int)(led:Bool):Prop:=∃ es ep t,BagAt h a es ep t led/\ElemsOf (intKind prog w) es.toList/\(es.toList.map fun e=>intKey e.2).Perm ms
theorem bagI_size {h:Heap}{a:Addr}{ms:List Int}{es:Array (Int×Value)}(hp:(es.toList.map fun e=>intKey e.2).Perm ms):es.size=ms.length:=by
 have:=hp.length_eq;simpa using this
theorem is_key {x:Value}{k:Int}(h:(intKind prog w).is k x=true):intKey x=k:=by
 obtain⟨t,rfl⟩:=fM h;rfl
theorem bagI_add {a:Addr}{ms:List Int}{led:Bool}{k:Int}{tk:Nat}{Q:Bool->Shared->Prop}(B:BagI prog w s.heap a ms led)(hz:ms.length<300)
  (h:∀(h':Heap) (b:Bool),dF a s.heap h'->BagI prog w h' a (if k∈ms then ms else k::ms) led->Q b {s with heap:=h'}) :
  wpAny (model prog w) A (setAddHashed a (.int k tk) (hashInt k)) Q E s:=by
 obtain⟨es,ep,t,⟨o,ho,hx,hd,hok⟩,hel,hp⟩:=id B;have hsz:=bagI_size (h:=s.heap) (a:=a) hp;have hbd:es.size<scanBound:=by unfold scanBound;omega
 have hkey:(intKind prog w).is k (.int k tk)=true:=intKind_is _ _ _ _;unfold setAddHashed setAddHashedIn;refine cu (aa (ga ho hd hok.fits ?_));dsimp only;rw[byScan_of (show (cG k tk).scannable=true from rfl) hbd hel,if_pos rfl];unfold setAddByScan;refine aa (aa (gG (aa (wpAny_setScan_of (knd:=intKind prog w) hkey ho hd hok.fits hel ?_))));cases hr:List.findIdx? (fun e=>(intKind prog w).is k e.2) es.toList with
 | some j =>
  obtain⟨hj,hpj,_⟩:=List.findIdx?_eq_some_iff_getElem.mp hr;have hm:k∈ms:=hp.mem_iff.mp (bD.mpr ⟨es.toList[j],fY hj,is_key hpj⟩);refine ai (ai ?_);have:=h s.heap false (Heap.SameBut.refl a s.heap);rw[if_pos hm] at this;exact this B
 | none =>
  have hm:k∉ms:=fun hk=>by
   obtain⟨e,he,hq⟩:=bD.mp (hp.mem_iff.mpr hk);obtain⟨⟨k',hk',_⟩,_⟩:=hel e he;have e1:=is_key hk';have:=List.findIdx?_eq_none_iff.mp hr e he;rw[<- hq,e1,hk'] at this;exact Bool.noConfusion this
  rw[if_neg hm] at h;obtain⟨es1,t1,hl,ok1,hp1,hs1⟩:=STab.layNew_ok hok (hashInt k) (.int k tk);dsimp only;rw[show layNew t es (hashInt k) (.int k tk)=(es1,t1,false,false) from hl];dsimp only;refine aa (ai ?_);rw[if_pos ok1.plain,hashByValue_scannable 8 (show (cG k tk).scannable=true from rfl)];refine aa (ai ?_);rw[show (if plainKind (.int k tk)=true then t1 else {t1 with plain:=false})=t1 from rfl];have hel1:ElemsOf (intKind prog w) es1.toList:=(ElemsOf.push hel hkey rfl).perm (by rw[<- bi];exact hp1);have hk1:(es1.toList.map fun e=>intKey e.2).Perm (k::ms):=by
   refine (hp1.map _).trans ?_;rw[bi,aJ];exact (iP k _).trans (hp.cons k)
  refine aa (kg ho hd ?_ (km (by rw[hs1];unfold scanBound;omega)));obtain⟨o1,ho1,hx1,hd1⟩:=bag_store (es':=es1) (t':=t1) ho hx hd;have hb1:=bR s.heap a (i8 es1 t1);by_cases hf:t1.tooFull=true
  ·rw[hf,if_pos (show (!false && true)=true from rfl)];obtain⟨es2,t2,h2,ok2,hp2⟩:=STab.relay_ok (es:=es1) ok1 rfl hf (by omega);have hs2:es2.size=es1.size:=by rw[<- aY,hp2.length_eq,aY]
   rw[h2];dsimp only;refine aa (ai (aa (kg (s:={s with heap:=s.heap.update a (i8 es1 t1)}) ho1 hd1 ?_ (km (by rw[hs2,hs1];unfold scanBound;omega)))));obtain⟨o2,ho2,hx2,hd2⟩:=bag_store (es':=es2) (t':=t2) ho1 hx1 hd1;exact ai (ai (h _ true (hb1.trans (bR _ a _)) ⟨es2,_,t2,⟨o2,ho2,hx2,hd2,hs2.symm ▸ ok2⟩,hel1.perm hp2,(hp2.map _).trans hk1⟩))
  ·rw[Bool.not_eq_true] at hf;rw[hf,if_neg (by decide)];exact ai (ai (h _ true hb1 ⟨es1,_,t1,⟨o1,ho1,hx1,hd1,ok1.ok hf⟩,hel1,hk1⟩))
theorem bag_loop {I S:Addr}{fp wr:List Addr}{n:Nat}{P:Nat->Value->Prop}{St:Nat->Heap->Prop}{R:Result->Shared->Prop}(W:Walks prog w A.in1 I fp wr n P St)(hSf:S∉fp)(Sd:Nat->Heap->Prop)
  (hkeep:∀ i h h',Sd i h->(∀ b o,b∉wr->h.get? b=some o->h'.get? b=some o)->Sd i h')
  (hadd:∀(i:Nat) (v:Value) (s:Shared) (E:Value->Shared->Prop) (Q:Bool->Shared->Prop),i<n->P i v->Sd i s.heap->(∀ h' tk b,dF S s.heap h'->Sd (i+1) h'->Q b {s with heap:=h',toks:=tk})->wpAny (model prog w) A.in1 (setAdd S v) Q E s) :
  ∀(k i:Nat) (s:Shared),n-i=k->i<=n->St i s.heap->Sd i s.heap ->
   (∀ h' tk,(∀ b o,b∉S::wr->s.heap.get? b=some o->h'.get? b=some o)->Sd n h'->R (.ok (.ret .none)) {s with heap:=h',toks:=tk}) ->
   codeAny (model prog w) A (.builtin "set.update.loop" ⟨[.ref S,.ref I],[]⟩) R s:=by
 have hSw:S∉wr:=fun h=>hSf (W.sub _ h)
 intro k;induction k with
 | zero =>
  intro i s hk hi hst hS hR;obtain rfl:i=n:=by omega
  refine codeAny_builtin jv ?_;rw[dU gf _];show wpAny _ A.in1 (pyNext (.ref I) >>= _) _ _ s;refine aa (W.done s _ _ hst fun h' tk hm=>ai (hR h' tk (fun b o hb e=>hm b o (fun hw=>hb (aM _ hw)) e) (hkeep _ _ _ hS hm)))
 | succ k ih =>
  intro i s hk hi hst hS hR;have hlt:i<n:=by omega
  refine codeAny_builtin jv ?_;rw[dU gf _];show wpAny _ A.in1 (pyNext (.ref I) >>= _) _ _ s;refine aa (W.item i s _ _ hlt hst fun v h1 tk1 hP hst1 hm1=>?_);show wpAny _ A.in1 (holding [v] (setAdd S v) >>= _) _ _ _;refine aa (cu (hadd i v _ _ _ hlt hP (hkeep _ _ _ hS hm1) fun h2 tk2 b hsb hS2=>?_));refine ai ⟨plainId_quiet gf _,ih (i+1) _ (by omega) hlt (W.frame _ _ _ hst1 fun b hb o e=>?_) hS2 fun h3 tk3 hm3 hS3=>hR h3 tk3 (fun b o hb e=>?_) hS3⟩
  ·show h2.get? b=some o;rw[hsb.2 b (fun hb':b=S=>hSf (hb' ▸ hb))];exact e
  ·refine hm3 b o hb ?_;show h2.get? b=some o;rw[hsb.2 b (fun hb':b=S=>hb (hb' ▸ aN ..))];exact hm1 b o (fun hw=>hb (aM _ hw)) e
def ledOf (w:World):Bool:=!w.params.followText "set-order"
def freshSet (w:World):Obj:={cls:=.type "set",dict:=none,data:=.set #[] 0 (.fresh 0 0 (ledOf w))}
theorem bag_fresh {h:Heap}{a:Addr}(ho:h.get? a=some (freshSet w)):BagI prog w h a [] (ledOf w) :=
 ⟨#[],0,_,⟨_,ho,⟨rfl,rfl,rfl⟩,rfl,STab.ok_fresh _⟩,(fun e he=>by simp at he),.nil⟩
theorem set_new (a:Value){Q₁:Value->Shared->Prop}(h:Q₁ (.ref s.heap.objs.size) {s with heap:=s.heap.push (freshSet w)}) :
  codeAny (model prog w) A (.call (.builtin "set.__new__") ⟨[.type "set",a],[]⟩) (wants Q₁ E) s:=by
 refine codeAny_of_tree ?_;show wpAny _ A.in1 (checkBuiltinCall "set.__new__" ⟨[.type "set",a],[]⟩ >>= fun _=>again (.builtin "set.__new__" ⟨[.type "set",a],[]⟩)) _ _ s;refine aa (gW (PySem.F.newCall_set_1 a) (ai ⟨plainId_quiet i6 _,codeAny_builtin PySem.F.entry_set_new ?_⟩));rw[dU i6 _];unfold Builtin.«set.__new__» Builtin.Frozenset.newClass;have hsub:=PySem.sub_set_self;obtain⟨hp,g,d,tk,os⟩:=s;dsimp only
 wp_walk
 refine fD (ai ?_);dsimp only;simp only[newObj];exact aa (wpAny_alloc (ai (ai h)))
structure SetSrc (prog:Program)(w:World)(h₀:Heap)(l:Addr)(c:String)(n:Nat)(P:Nat->Value->Prop):Prop where
 typ:∃ o,h₀.get? l=some o/\o.cls=.type c
 sub1:isSubtype (.type c) (.type "set")=pure false
 sub2:isSubtype (.type c) (.type "frozenset")=pure false
 ne:(cX c == cX "dict")=false
 iter:∀(A:Around) (s:Shared),(∀ b o,h₀.get? b=some o->s.heap.get? b=some o)->∃(oI:Obj) (St:Nat->Heap->Prop),
  (∀(E:Value->Shared->Prop) (Q:Value->Shared->Prop),Q (.ref s.heap.objs.size) {s with heap:=s.heap.push oI}->wpAny (model prog w) A (pyIter (.ref l)) Q E s) /\
  (∀ A':Around,A'.handled=none->Walks prog w A' s.heap.objs.size [s.heap.objs.size,l] [s.heap.objs.size] n P St)/\St 0 (s.heap.push oI)
end
end Srt
end
section
namespace Srt
open PySem PyProof.Rows
section
variable {prog:Program}{w:World}{A:Around}{E:Value->Shared->Prop}{s:Shared}
set_option maxHeartbeats 3200000 in
theorem call_bag {l:Addr}{c:String}{n:Nat}{P:Nat->Value->Prop}{Q:Value->Shared->Prop}(hh:A.handled=none)(src:SetSrc prog w s.heap l c n P)(Sd:Nat->Heap->Prop)
  (hkeep:∀ i h h',Sd i h->(∀ b o,b<=s.heap.objs.size->h.get? b=some o->h'.get? b=some o)->Sd i h')
  (hadd:∀(i:Nat) (v:Value) (s':Shared) (E:Value->Shared->Prop) (Q:Bool->Shared->Prop),i<n->P i v->Sd i s'.heap->(∀ h' tk b,dF s.heap.objs.size s'.heap h'->Sd (i+1) h'->Q b {s' with heap:=h',toks:=tk})->wpAny (model prog w) A.in1.in1.in1 (setAdd s.heap.objs.size v) Q E s')
  (h0:∀ h',h'.get? s.heap.objs.size=some (freshSet w)->(∀ b o,s.heap.get? b=some o->h'.get? b=some o)->Sd 0 h')
  (h:∀(h':Heap) (tk:Nat),(∀ b o,s.heap.get? b=some o->h'.get? b=some o)->Sd n h'->Q (.ref s.heap.objs.size) {s with heap:=h',toks:=tk}) :
  wpAny (model prog w) A (call (.type "set") [.ref l]) Q E s:=by
 obtain⟨c0,tl,hmro⟩:=PySem.F.called_set.mro;have hmade:=PySem.F.called_set.made;have hsub:=PySem.F.called_set.sub;refine wpAny_call (codeAny_of_tree ?_);show wpAny _ _ (callAny (.type "set") _) _ _ _;refine ai ⟨jP _ (by decide +kernel),codeAny_builtin F.entry_type_call ?_⟩;rw[Around.under_plain (weight_type_call_type "set" [.ref l] []) rfl];have h1:=PySem.F.called_set.notType;have h2:=PySem.F.called_set.canCreate;have hct:=PySem.F.typeCall_set_1 (.ref l);repeat (any_goals (first | assumption | wp_step))
 obtain⟨led,hled⟩:∃ led,led=ledOf w:=⟨_,rfl⟩
 refine codeAny_mono (set_new (.ref l) (E:=E) (Q₁:=fun obj sk=>obj=.ref s.heap.objs.size/\sk={s with heap:=s.heap.push {cls:=.type "set",dict:=none,data:=.set #[] 0 (.fresh 0 0 led)}}) ⟨rfl,by rw[hled];rfl⟩) fun r sk hr=>?_
 cases r with
 | error e=>exact hr
 | ok fl =>
  cases fl with
  | ret obj =>
   obtain⟨rfl,rfl⟩:=hr;have hS:(s.heap.push ({cls:=.type "set",dict:=none,data:=.set #[] 0 (.fresh 0 0 led)})).get? s.heap.objs.size=some ({cls:=.type "set",dict:=none,data:=.set #[] 0 (.fresh 0 0 led)}):=aB _ rfl;have hT:Shared.TypeIs {s with heap:=s.heap.push ({cls:=.type "set",dict:=none,data:=.set #[] 0 (.fresh 0 0 led)})} (.ref s.heap.objs.size) "set":=⟨_,hS,rfl⟩
   have hli:=PySem.F.called_set.init.lookup;have hbi:=PySem.F.called_set.init.bind (.ref s.heap.objs.size);repeat (any_goals (first | assumption | wp_step))
   refine codeAny_mono (codeAny_call_builtin (R:=wants (fun r sv=>r=.none/\∃ h' tk,sv={s with heap:=h',toks:=tk}/\Sd n h'/\(∀ b o,s.heap.get? b=some o->h'.get? b=some o)) E) PySem.F.called_set.init.plain PySem.F.entry_set_init (check_set_init_1 hT ?_)) fun rz sv hrz=>?_
   ·obtain⟨ol,hol,hcl⟩:=src.typ;have hlS:l<s.heap.objs.size:=aC hol;obtain⟨ocls,odict,odata,oslots⟩:=ol;simp only at hcl;subst hcl;have hol':(s.heap.push ({cls:=.type "set",dict:=none,data:=.set #[] 0 (.fresh 0 0 led)})).get? l=some {cls:=.type c,dict:=odict,data:=odata,slots:=oslots}:=ag _ hol;have hsls:=src.sub1;have hslf:=src.sub2;have hne:=src.ne;obtain⟨oI,St,hit,W,st⟩:=src.iter A.in1.in1 {s with heap:=s.heap.push ({cls:=.type "set",dict:=none,data:=.set #[] 0 (.fresh 0 0 led)})} fun b o e=>ag _ e
    unfold Builtin.«set.__init__» noKeywords Builtin.Frozenset.updateFrom;generalize hPI:pyIter=PI
    wp_walk
    subst hPI;refine hit _ _ (aa (js ?_));have hsp:(s.heap.push {cls:=.type "set",dict:=none,data:=.set #[] 0 (.fresh 0 0 led)}).objs.size=s.heap.objs.size+1:=cm ..;refine bag_loop (W _ (by simp[hh])) (S:=s.heap.objs.size) ?_ Sd (fun i h1 h2 hs hk=>hkeep i h1 h2 hs fun b o hb e=>hk b o ?_ e) hadd (n-0) 0 _ (by omega) (bf _) st (h0 _ ?_ ?_) fun h' tk hm hS'=>?_
    ·show s.heap.objs.size∉[(s.heap.push {cls:=.type "set",dict:=none,data:=.set #[] 0 (.fresh 0 0 led)}).objs.size,l];rw[hsp];simp only[aD,aW,or_false,not_or];exact⟨aP (ij _),fh hlS⟩
    ·show b∉[(s.heap.push {cls:=.type "set",dict:=none,data:=.set #[] 0 (.fresh 0 0 led)}).objs.size];rw[hsp,ah];omega
    ·rw[show freshSet w={cls:=.type "set",dict:=none,data:=.set #[] 0 (.fresh 0 0 led)} from by rw[hled];rfl];exact ag _ hS
    ·exact fun b o e=>ag _ (ag _ e)
    ·show wpAny _ _ _ _ _ _;refine ai ?_;show wpAny _ _ (ret cw) _ _ _;refine ai ⟨rfl,h',tk,rfl,hS',fun b o e=>hm b o ?_ (ag _ (ag _ e))⟩;have hb:b<s.heap.objs.size:=aC e;show b∉[s.heap.objs.size,(s.heap.push {cls:=.type "set",dict:=none,data:=.set #[] 0 (.fresh 0 0 led)}).objs.size];rw[hsp];simp only[aD,aW,or_false,not_or];exact⟨aP hb,aP (g6 hb)⟩
   ·cases rz with
    | error e=>exact hrz
    | ok flz =>
     cases flz with
     | ret r =>
      obtain⟨rfl,h',tk,rfl,hS',hk'⟩:=hrz;repeat (any_goals (first | assumption | wp_step))
      exact h _ _ hk' hS'
     | _=>exact hrz.elim
  | _=>exact hr.elim
end
end Srt
end
section
namespace Srt
open PySem PyProof.Rows
theorem ow_si:Manifest.owners.lookup (String.ofList ['r','o','t','a','r','e','t','i','_','t','e','s'].reverse)=some Manifest.sig_set_iterator:=by kernel_rfl
theorem sl_si_next:Slot "set_iterator" "__next__" "set_iterator.__next__":=.of (owner:="set_iterator") (n:="__next__") (by rw[typeLookup_type,builtinLookup_eq_fast];kernel_rfl) (by decide +kernel) (by decide +kernel) (by decide +kernel) (by first | exact .inl (by decide +kernel) | exact .inr (by decide +kernel)) (by rw[isSubtype_type];kernel_rfl)
theorem sl_si_iter:Slot "set_iterator" "__iter__" "set_iterator.__iter__":=.of (owner:="set_iterator") (n:="__iter__") (by rw[typeLookup_type,builtinLookup_eq_fast];kernel_rfl) (by decide +kernel) (by decide +kernel) (by decide +kernel) (by first | exact .inl (by decide +kernel) | exact .inr (by decide +kernel)) (by rw[isSubtype_type];kernel_rfl)
theorem en_si_next:entryFor table "set_iterator.__next__"=some Builtin.«set_iterator.__next__»:=entryFor_of_tree (by kernel_rfl)
theorem ar_si_next (a:Value):argsOk "set_iterator.__next__" ⟨[a],[]⟩:=by unfold argsOk;rw[signature?_of (id:="set_iterator.__next__") (n:=['_','_','t','x','e','n','_','_']) (o:=['r','o','t','a','r','e','t','i','_','t','e','s']) (by kernel_rfl) ow_si];kernel_rfl
theorem ar_si_iter (a:Value):argsOk "set_iterator.__iter__" ⟨[a],[]⟩:=by unfold argsOk;rw[signature?_of (id:="set_iterator.__iter__") (n:=['_','_','r','e','t','i','_','_']) (o:=['r','o','t','a','r','e','t','i','_','t','e','s']) (by kernel_rfl) ow_si];kernel_rfl
theorem en_set_iter:entryFor table "set.__iter__"=some Builtin.«frozenset.__iter__»:=entryFor_alias (id':="frozenset.__iter__") (by kernel_rfl) rfl (by decide +kernel) (by kernel_rfl)
end Srt
namespace Srt
open PySem PyProof.Rows
theorem en_si_iter:entryFor table "set_iterator.__iter__"=some Builtin.«dict_keyiterator.__iter__»:=entryFor_alias (id':="dict_keyiterator.__iter__") (by kernel_rfl) rfl (by decide +kernel) (by kernel_rfl)
theorem erase_perm {α:Type}:∀ {l:List α} {i:Nat} (h:i<l.length),(l[i]::l.eraseIdx i).Perm l
 | [],i,h=>absurd h (cL _)
 | x::l,0,_=>.rfl
 | x::l,i+1,h=>(List.Perm.swap ..).trans ((erase_perm (l:=l) (i:=i) (Nat.lt_of_succ_lt_succ h)).cons x)
theorem pick_go {α:Type}{next:Nat->Nat}:∀(fuel k:Nat) (left:List α) (out:Array α),left.length<=fuel->(pickOrder.go next fuel k left out).toList.Perm (out.toList++left)
 | 0,k,left,out,h=>by
  obtain rfl:left=[]:=hW (by omega);simp[pickOrder.go]
 | fuel+1,k,left,out,h=>by
  unfold pickOrder.go;cases left with
  | nil=>simp
  | cons y r =>
   have hlt:next k % (y::r).length<(y::r).length:=gZ _ (by simp)
   rw[aq hlt];dsimp only;refine (pick_go fuel (k+1) _ _ (by rw[List.length_eraseIdx_of_lt hlt];omega)).trans ?_;rw[bi,bB];exact (erase_perm hlt).append_left _
theorem pick_perm {α:Type}(next:Nat->Nat)(xs:Array α):(pickOrder next xs).toList.Perm xs.toList:=by
 have:=pick_go (next:=next) xs.size 0 xs.toList #[] (by simp);simpa [pickOrder] using this
def ordOf (w:World)(a:Addr)(ep:Nat)(es:Array (Int×Value)):Array (Int×Value):=if w.params.followText "set-order" then pickOrder (w.params.setOrder a ep) es else es
theorem ord_perm (w:World)(a:Addr)(ep:Nat)(es:Array (Int×Value)):(ordOf w a ep es).toList.Perm es.toList:=by
 unfold ordOf;split
 ·exact pick_perm _ _
 ·exact .rfl
theorem ord_size (w:World)(a:Addr)(ep:Nat)(es:Array (Int×Value)):(ordOf w a ep es).size=es.size:=by rw[<- aY,(ord_perm w a ep es).length_eq,aY]
def slotAt (w:World)(t:SetTable):Nat->Nat
 | 0=>0
 | i+1=>if w.params.followText "set-order" then 0 else t.place.getD i 0+1
def IsSI (h:Heap)(it a:Addr)(slot i n ep:Nat):Prop:=∃ o,h.get? it=some o/\o.cls=.type "set_iterator"/\o.data=.fields #[.int slot 0,.int i 0,.ref a,.int n 0,.int ep 0]
theorem IsSI.keep {h h':Heap}{it a:Addr}{slot i n ep:Nat}(x:IsSI h it a slot i n ep)(k:∀ o,h.get? it=some o->h'.get? it=some o):IsSI h' it a slot i n ep:=let ⟨o,ho,q⟩:=x;⟨o,k _ ho,q⟩
section
variable {prog:Program}{w:World}{A:Around}{E:Value->Shared->Prop}{s:Shared}
theorem IsSI.typeIs {it a:Addr}{slot i n ep:Nat}(x:IsSI s.heap it a slot i n ep):s.TypeIs (.ref it) "set_iterator":=let ⟨o,ho,hc,_⟩:=x;⟨o,ho,hc⟩
theorem walk_text {a:Addr}{es:Array (Int×Value)}{ep:Nat}{t:SetTable}{led:Bool}{Q:Array (Int×Value)->Shared->Prop}(b:BagAt s.heap a es ep t led)(hft:w.params.followText "set-order"=true)
  (h:Q (ordOf w a ep es) s):wpAny (model prog w) A (setWalk a) Q E s:=by
 obtain⟨o,ho,hx,hd,hok⟩:=b;unfold setWalk setsByText;refine aa (ga ho hd hok.fits ?_);dsimp only;refine aa (aa (fD (ai ?_)));show wpAny _ _ (if w.params.followText "set-order"=true then _ else _) _ _ s;rw[hft,if_pos rfl];refine aa (fD (ai ?_));unfold ordOf at h;rw[hft,if_pos rfl] at h;exact h
theorem next_of {a:Addr}{es:Array (Int×Value)}{ep:Nat}{t:SetTable}{i:Nat}{Q:Option (Value×Nat)->Shared->Prop}(b:BagAt s.heap a es ep t (ledOf w))
  (hQ:Q (((ordOf w a ep es)[i]?).map fun e=>(e.2,slotAt w t (i+1))) s) (hi:i<=es.size):wpAny (model prog w) A (setNext a (slotAt w t i) i ep) Q E s:=by
 obtain⟨o,ho,hx,hd,hok⟩:=id b;unfold setNext setsByText;refine aa (ga ho hd hok.fits ?_);dsimp only;refine aa (aa (fD (ai ?_)));show wpAny _ _ (if w.params.followText "set-order"=true then _ else _) _ _ s;cases hft:w.params.followText "set-order" with
 | true =>
  rw[if_pos rfl,if_neg (by simp)];refine aa (walk_text b hft (ai ?_));have:slotAt w t i=slotAt w t (i+1):=by
   cases i with
   | zero=>simp[slotAt,hft]
   | succ i=>simp[slotAt,hft]
  rw[this];exact hQ
 | false =>
  rw[if_neg (by decide)];refine gC (fun hab=>?_) (fun _=>?_)
  ·have hab':(!t.plain && decide (es.size>1))=true:=hab;rw[hok.plain] at hab';exact Bool.noConfusion hab'
  refine aa (gW (a:=()) ?_ ?_)
  ·show (if (!t.led && !es.isEmpty)=true then _ else _)=_;have hl:t.led=true:=by rw[hok.led];unfold ledOf;rw[hft];rfl
   rw[hl,if_neg (by simp)]
  ·have hbl:SetTable.below t.place (slotAt w t i)=i:=by
    cases i with
    | zero=>exact STab.below_zero hok.ris
    | succ i =>
     have hlt:i<t.place.size:=by rw[hok.size];omega
     have:slotAt w t (i+1)=t.place[i]+1:=by simp[slotAt,hft,Array.getD,hlt]
     rw[this];exact STab.below_next hok.ris hlt
   refine ai ?_;rw[hbl];have ho:ordOf w a ep es=es:=by unfold ordOf;rw[hft];rfl
   rw[ho] at hQ;rcases cc i es.size with h | h
   ·have hlt:i<t.place.size:=by rw[hok.size];exact h
    rw[aX h,aX hlt];rw[aX h] at hQ;have:slotAt w t (i+1)=t.place[i]+1:=by simp[slotAt,hft,Array.getD,hlt]
    rw[this] at hQ;exact hQ
   ·rw[bN h];rw[bN h] at hQ;exact hQ
end
end Srt
end
section
namespace Srt
open PySem PyProof.Rows PySem.W
section
variable {prog:Program}{w:World}{A:Around}{E:Value->Shared->Prop}{s:Shared}
theorem si_item {it a:Addr}{es:Array (Int×Value)}{ep:Nat}{t:SetTable}{i:Nat}{Q:Option Value->Shared->Prop}(hit:IsSI s.heap it a (slotAt w t i) i es.size ep)(b:BagAt s.heap a es ep t (ledOf w))(hi:i<es.size)
  (hQ:∀ h' e,(ordOf w a ep es)[i]?=some e->IsSI h' it a (slotAt w t (i+1)) (i+1) es.size ep->dF it s.heap h'->Q (some e.2) {s with heap:=h'}):wpAny (model prog w) A (pyNext (.ref it)) Q E s:=by
 obtain⟨o,ho,hc,hd⟩:=id hit;obtain⟨oa,hoa,hxa,hda,hok⟩:=id b;have hz:i<(ordOf w a ep es).size:=by rw[ord_size];exact hi
 unfold pyNext
 refine aa (fb (bL (name:=Str.ofString "__next__") hit.typeIs sl_si_next
  (bO sl_si_next hit.typeIs en_si_next ?_ (ar_si_next _))))
 unfold Builtin.«set_iterator.__next__»;refine aa (m:=slotArgs "__next__" 0 _) (ai (aa (gP ho hd ?_)));dsimp only;refine aa (gU hoa hda hok.fits ?_);rw[if_neg (by simp)];simp only[b6];refine aa (next_of b ?_ (cH hi));rw[aX hz];dsimp only[Option.map];refine aa (eN ho hd (by simp) ?_);have ho1:=cQ (gL (·.setIfInBounds 0 (rawInt ((slotAt w t (i+1):Nat):Int)))) ho (fg (cT hd _));have hd1:=cT hd (·.setIfInBounds 0 (rawInt ((slotAt w t (i+1):Nat):Int)));refine aa (eN (s:={s with heap:=s.heap.update it (gL (·.setIfInBounds 0 (rawInt ((slotAt w t (i+1):Nat):Int))))}) ho1 hd1 (by simp) ?_);refine ai ⟨_,rfl,ai (hQ _ _ (aX hz) ⟨_,cQ _ ho1 (fg (cT hd1 _)),?_,?_⟩ ((bR ..).trans (bR ..)))⟩
 ·exact (fR ..).trans ((fR ..).trans hc)
 ·rw[cT hd1];simp[rawInt]
theorem si_end {it a:Addr}{es:Array (Int×Value)}{ep:Nat}{t:SetTable}{Q:Option Value->Shared->Prop}(hh:A.handled=none)(hit:IsSI s.heap it a (slotAt w t es.size) es.size es.size ep)(b:BagAt s.heap a es ep t (ledOf w))
  (hQ:∀ h',jG it s.heap h'->Q none {s with heap:=h'}):wpAny (model prog w) A (pyNext (.ref it)) Q E s:=by
 obtain⟨o,ho,hc,hd⟩:=id hit;obtain⟨oa,hoa,hxa,hda,hok⟩:=id b;unfold pyNext
 refine aa (fb (bL (name:=Str.ofString "__next__") hit.typeIs sl_si_next
  (bO sl_si_next hit.typeIs en_si_next ?_ (ar_si_next _))))
 unfold Builtin.«set_iterator.__next__»;refine aa (m:=slotArgs "__next__" 0 _) (ai (aa (gP ho hd ?_)));dsimp only;refine aa (gU hoa hda hok.fits ?_);rw[if_neg (by simp)];simp only[b6];refine aa (next_of b ?_ (ao _));rw[bN (gn (ord_size ..))];dsimp only[Option.map];refine aa (eN ho hd (by simp) ?_);show wpAny _ _ (newExc (.type "StopIteration") [] >>= _) _ _ _;refine aa ?_;simp only[newExc,newTuple];refine aa (bo ?_ (by size_fits));refine aa (m:=firstArgMember _ _) (gW (a:=cw) (by first | rfl | (simp only[firstArgMember];rfl)) ?_);refine bo ?_ (by size_fits);simp only[raiseNew];refine aa (jL ?_);rw[show A.in1.handled=none from hh];refine aa (ai (ka ?_));refine aa (fB (T:="StopIteration") (b:=true) ⟨_,aB _ rfl,rfl⟩ isSubtype_stop ?_);exact ai (hQ _ (((bR ..).extBut.push _).push _))
theorem si_self {it a:Addr}{slot i n ep:Nat}{Q:Value->Shared->Prop}(hit:IsSI s.heap it a slot i n ep)(h:Q (.ref it) s):wpAny (model prog w) A (pyIter (.ref it)) Q E s:=by
 refine iF hit.typeIs sl_si_iter (bO sl_si_iter hit.typeIs en_si_iter ?_ (ar_si_iter _));show wpAny _ _ (ret (.ref it)) _ _ s;exact ai ⟨_,rfl, "set_iterator",_,hit.typeIs,sl_si_next.lookup,h⟩
theorem si_make {a:Addr}{es:Array (Int×Value)}{ep:Nat}{t:SetTable}{Q:Value->Shared->Prop}(b:BagAt s.heap a es ep t (ledOf w))
  (hQ:Q (.ref s.heap.objs.size) {s with heap:=s.heap.push {cls:=.type "set_iterator",data:=.fields #[.int 0 0,.int 0 0,.ref a,.int es.size 0,.int ep 0]}}):wpAny (model prog w) A (pyIter (.ref a)) Q E s:=by
 obtain⟨o,ho,hx,hd,hok⟩:=id b;refine iF b.typeIs i5 (bO i5 b.typeIs en_set_iter ?_ (PySem.F.args_set_iter_1 _));unfold Builtin.«frozenset.__iter__» Builtin.Frozenset.slot0 Builtin.Frozenset.addrOf Builtin.Frozenset.sizeOf;refine aa (aa (m:=slotArgs "__iter__" 0 _) (ai (ai ?_)));refine aa (aa (gU ho hd hok.fits (ai ?_)));unfold setDrawn setsByText;refine aa (aa (ga ho hd hok.fits (aa (aa (fD (ai (ai ?_)))))));refine gC (fun hab=>?_) (fun _=>?_)
 ·have hab':(!w.params.followText "set-order" && (!t.plain && decide (es.size>1)))=true:=hab;rw[hok.plain] at hab';simp at hab'
 refine aa (ai (aa (wpAny_setEpoch_of ho hd hok.fits ?_)));refine aa (bo (ai ⟨_,rfl, "set_iterator",_,⟨_,aB _ rfl,rfl⟩,sl_si_next.lookup,?_⟩));simpa [rawInt] using hQ
theorem si_walks (hh:A.handled=none)(I a:Addr)(hne:a≠I)(es:Array (Int×Value))(ep:Nat)(t:SetTable) :
  Walks prog w A I [I,a] [I] es.size (fun i v=>∃ e,(ordOf w a ep es)[i]?=some e/\e.2=v) (fun i h=>IsSI h I a (slotAt w t i) i es.size ep/\BagAt h a es ep t (ledOf w)) where
 sub:=fun b hb=>by simp at hb;simp[hb]
 frame:=fun _ _ _ st hk=>⟨st.1.keep fun o e=>hk I (by simp) o e,st.2.keep fun o e=>hk a (by simp) o e⟩
 item:=fun i s Q E hi st hQ=>si_item st.1 st.2 hi fun h' e he hit' hs' =>
  hQ e.2 h' s.toks ⟨e,he,rfl⟩ ⟨hit',st.2.keep fun o q=>hs'.extBut a o hne q⟩ fun b o hb q=>hs'.extBut b o (fun h=>hb (by simp[h])) q
 done:=fun s Q E st hQ=>si_end hh st.1 st.2 fun h' he'=>hQ h' s.toks fun b o hb e=>he' b o (fun h=>hb (by simp[h])) e
 self:=fun _ _ _ _ st hQ=>si_self st.1 hQ
theorem hint_set {r:Addr}{Q:Bool->Shared->Prop}(hT:s.TypeIs (.ref r) "set")(h:Q false s):wpAny (model prog w) A (Builtin.List.listLengthHint (.ref r)) Q E s:=by
 unfold Builtin.List.listLengthHint;refine aa (je hT PySem.F.slot_set_len.lookup ?_);generalize hid:("set.__len__":String)=id0
 wp_delta
 rw[show splitId id0=some ("set", "__len__") from by subst hid;decide +kernel];subst hid;refine aa (fB (T:="set") (b:=true) hT (by rw[isSubtype_type];kernel_rfl) ?_);refine gC (fun hab=>absurd hab (by decide)) (fun _=>?_);refine gC (fun _=>?_) (fun hab=>absurd (by decide +kernel) hab);exact aa (eR hT (ai h))
theorem bag_src {a:Addr}{es:Array (Int×Value)}{ep:Nat}{t:SetTable}:KdlSrc prog w "set" a a es.size (fun i v=>∃ e,(ordOf w a ep es)[i]?=some e/\e.2=v) (fun h=>BagAt h a es ep t (ledOf w)) where
 type:=fun _ hm=>hm.typeIs
 there:=fun _ hm=>let ⟨_,ho,_⟩:=hm;⟨aC ho,aC ho⟩
 keep:=fun _ _ hm hk=>hm.keep fun o e=>hk a (.inl rfl) o e
 notList:=by decide
 notTuple:=by decide
 hint:=fun _ _ _ _ hm hq=>hint_set hm.typeIs hq
 iter:=fun _ _ hh hm=>⟨_,_,(fun _ _ hq=>si_make hm hq),si_walks hh _ a (let ⟨_,ho,_⟩:=hm;aP (aC ho)) es ep t,⟨⟨_,aB _ rfl,rfl,rfl⟩,hm.keep fun _ e=>ag _ e⟩⟩
theorem coll_bag {a:Addr}{es:Array (Int×Value)}{ep:Nat}{t:SetTable}(hh:A.handled=none)(b:BagAt s.heap a es ep t (ledOf w))(hz:es.size<=sizeLine):Coll prog w A a s fun us=>us.Perm (es.toList.map (·.2)):=by
 intro E R h;refine kdu_collect (bag_src (ep:=ep) (t:=t)) hh b hz fun h' tk acc hk hI=>h h' tk acc.toList hk ?_
 have:acc.toList=(ordOf w a ep es).toList.map (·.2):=by
  apply dD;intro i;rw[bC,aF,bC];rcases cc i es.size with hi | hi
  ·have hi':i<acc.size:=by rw[hI.1];exact hi
   obtain⟨e,he,hk⟩:=hI.2 i acc[i] (aX hi');rw[aX hi',he];exact congrArg some hk.symm
  ·rw[bN (by rw[hI.1];exact hi),bN (by rw[ord_size];exact hi)];rfl
 rw[this];exact (ord_perm w a ep es).map _
end
end Srt
end
section
namespace Srt
open PySem PyProof.Rows PySem.W
theorem sub_tup_set:isSubtype (.type "tuple") (.type "set")=pure false:=by rw[isSubtype_type];kernel_rfl
theorem sub_tup_fro:isSubtype (.type "tuple") (.type "frozenset")=pure false:=by rw[isSubtype_type];kernel_rfl
section
variable {prog:Program}{w:World}{A:Around}{E:Value->Shared->Prop}{s:Shared}
theorem src_list {h:Heap}{l:Addr}{items:Array Value}(hl:h.IsList l items):SetSrc prog w h l "list" items.size (fun i v=>items[i]?=some v) where
 typ:=let ⟨o,ho,hc,_⟩:=hl;⟨o,ho,hc⟩
 sub1:=PySem.F.sub_list_set
 sub2:=PySem.F.sub_list_frozenset
 ne:=by decide
 iter:=fun A s hk=>by
  have hl':s.heap.IsList l items:=hl.at fun o e=>hk l o e
  refine⟨_,_,fun E Q hq=>fq hl' hq,fun A' hh=>jO hh _ l ?_ items,⟨⟨_,aB _ rfl,rfl,rfl⟩,hl'.push _⟩⟩;obtain⟨o,ho,_⟩:=hl';exact aP (aC ho)
theorem src_tup {h:Heap}{l:Addr}{items:Array Value}(hl:h.IsTuple l items):SetSrc prog w h l "tuple" items.size (fun i v=>items[i]?=some v) where
 typ:=let ⟨o,ho,hc,_⟩:=hl;⟨o,ho,hc⟩
 sub1:=sub_tup_set
 sub2:=sub_tup_fro
 ne:=by decide
 iter:=fun A s hk=>by
  have hl':s.heap.IsTuple l items:=hl.at fun o e=>hk l o e
  refine⟨_,_,fun E Q hq=>eZ hl' hq,fun A' hh=>Walks.tuple hh _ l ?_ items,⟨⟨_,aB _ rfl,rfl,rfl⟩,hl'.at fun o e=>ag _ e⟩⟩;obtain⟨o,ho,_⟩:=hl';exact aP (aC ho)
theorem BagI.keep {h h':Heap}{a:Addr}{ms:List Int}{led:Bool}(b:BagI prog w h a ms led)(k:∀ o,h.get? a=some o->h'.get? a=some o):BagI prog w h' a ms led :=
 let ⟨es,ep,t,b,q⟩:=b;⟨es,ep,t,b.keep k,q⟩
theorem call_bagI {l:Addr}{c:String}{vs:List Value}{ns:List Int}{Q:Value->Shared->Prop}(hh:A.handled=none)(src:SetSrc prog w s.heap l c vs.toArray.size (fun i v=>vs.toArray[i]?=some v))(hi:IntsAre vs ns)(hz:ns.length<300)
  (h:∀(h':Heap) (tk:Nat) (ms:List Int),(∀ b o,s.heap.get? b=some o->h'.get? b=some o)->BagI prog w h' s.heap.objs.size ms (ledOf w)->ms.Nodup->(∀ x,x∈ms↔x∈ns)->ms.length<=ns.length->Q (.ref s.heap.objs.size) {s with heap:=h',toks:=tk}) :
  wpAny (model prog w) A (call (.type "set") [.ref l]) Q E s:=by
 have hlen:vs.length=ns.length:=IntsAre.length hi;refine call_bag hh src (fun i h=>∃ ms,BagI prog w h s.heap.objs.size ms (ledOf w)/\ms.Nodup/\(∀ x,x∈ms↔x∈ns.take i)/\ms.length<=i) ?_ ?_ ?_ ?_
 ·rintro i h1 h2 ⟨ms,b,q⟩ hk;exact⟨ms,b.keep fun o e=>hk _ o (ao _) e,q⟩
 ·rintro i v s' E' Q' hin hv ⟨ms,b,hnd,hm,hle⟩ hQ;have hin':i<ns.length:=by rw[<- hlen];simpa using hin
  obtain⟨t,rfl⟩:=IntsAre.int_at hi i v (by simpa using hv);have eg:ns.getD i 0=ns[i]:=by simp[List.getD,hin']
  rw[eg];unfold setAdd;refine cu (aa ((intKind prog w).pyHash (k:=ns[i]) (intKind_is _ _ _ _) ?_));refine bagI_add (s:={s' with toks:=s'.toks+1}) b (by omega) fun h' bb hsb hB=>hQ h' _ bb hsb ⟨_,hB,?_,?_,?_⟩
  ·split
   ·exact hnd
   ·rename_i hn;exact cf.mpr ⟨hn,hnd⟩
  ·intro x;rw[List.take_succ_eq_append_getElem hin',ak,ah,<- hm x];split
   ·rename_i hk;exact⟨.inl,fun o=>o.elim id fun e=>e ▸ hk⟩
   ·rw[aD];exact Or.comm
  ·split
   ·omega
   ·rw[aH];omega
 ·intro h' hf hk;exact⟨[],bag_fresh hf,iU,(fun x=>by simp),ao _⟩
 ·rintro h' tk hk ⟨ms,b,hnd,hm,hle⟩;have e:vs.toArray.size=ns.length:=by simpa using hlen
  rw[e] at hm hle;rw[bq] at hm;exact h h' tk ms hk b hnd hm hle
end
end Srt
namespace L2
open PySem PySem.Spec PyProof.Rows PySem.W
def SqI (K:ae)(H:Hp)(p:Addr)(ns:List Int):Prop:=SqL K H p (ns.map V.int)\/SqT K H p (ns.map V.int)
section
variable {X:Cx}{pins:List (Addr×Obj)}{σ:St}{H:Hp}{s:Shared}{x y:Str}{e:Expr}{p p' pos pos':Pos}{t:TA}
theorem a8e (I:Inv X pins σ H s)(hh:X.A.handled=none){l:Addr}{ns:List Int}{E:Value->Shared->Prop}{Q:Value->Shared->Prop}(hs:SqI X.K H l ns)(hz:ns.length<300)
  (h:∀(h':Heap) (tk:Nat) (ms:List Int) (a:Addr),(∀ b o,s.heap.get? b=some o->h'.get? b=some o)->Srt.BagI X.prog X.w h' a ms (Srt.ledOf X.w)->ms.Nodup->(∀ x,x∈ms↔x∈ns)->ms.length<=ns.length->Q (.ref a) {s with heap:=h',toks:=tk}) :
  wpAny (model X.prog X.w) X.A (call (.type "set") [.ref l]) Q E s:=by
 rcases hs with hs | hs
 ·obtain⟨its,r,pl,_⟩:=I.list hs;exact Srt.call_bagI hh (Srt.src_list pl.isList) (S5 r) hz fun h' tk ms k b n m l=>h h' tk ms _ k b n m l
 ·obtain⟨its,r,pl,_⟩:=I.tuple hs;exact Srt.call_bagI hh (Srt.src_tup pl) (S5 r) hz fun h' tk ms k b n m l=>h h' tk ms _ k b n m l
def a4w (K:ae):List V->Hp->VK->Prop:=fun xs H Q=>∃(p:Addr) (ns:List Int),xs=[.ref p]/\SqI K H p ns/\ns.length<300 /\
 ∀(ns':List Int) (l:Addr),ns'.Pairwise (·<·)->(∀ x,x∈ns'↔x∈ns)->H l=none->Q (.ref l) (upd H l (.lst (ns'.map V.int)))
theorem a4H (K:ae)(hh:X.A.handled=none)(hg:Gl X x)(hm:X.mg x=none)(hv:bootBuiltins x=some (.builtin "sorted"))(hg':Gl X y)(hm':X.mg y=none)(hv':bootBuiltins y=some (.type "set"))(ha:PA X [e] t)
  (hn:x≠"__name__":=by decide) (hdb:(x == ("__debug__":Str))=false:=by decide) (hn':y≠"__name__":=by decide) (hdb':(y == ("__debug__":Str))=false:=by decide)
  (he:starEach [e] X.env=[(false,eval e X.env)]:=by rfl) (hpl:(backTo pos' (starEach ([]:List Expr) X.env)).any (·.1)=false:=by rfl)
  (he2:starEach [.Call (.Name y p') [e] [] pos'] X.env=[(false,eval (.Call (.Name y p') [e] [] pos') X.env)]:=by rfl) (hpl2:(backTo pos (starEach ([]:List Expr) X.env)).any (·.1)=false:=by rfl) (hK:X.K=K:=by rfl) :
  PE X (.Call (.Name x p) [.Call (.Name y p') [e] [] pos'] [] pos) (tCB (a4w K) t):=by
 subst hK;intro pins s σ H Q I h;refine cD (S4 I hg hm hv ?_ hn hdb);refine gk ?_ he2 hpl2;rw[he2];show wpAny _ _ (spliced ((false,eval (.Call (.Name y p') [e] [] pos') X.env)::[])) _ _ s;refine fF ?_;refine cD (S4 I hg' hm' hv' ?_ hn' hdb');refine bV (thn (ha pos' pins s σ H _ I h) fun us s1 ⟨vs,H1,I1,r1,q1⟩=>?_) he hpl;obtain⟨l,ns,rfl,src,hz,q⟩:=q1;obtain⟨u,rfl,rx⟩:=Q5 r1;cases rx;refine a8e I1 hh src hz fun h' tk ms a hk hB hnd hmem hle=>fO ?_
 have I2:Inv X pins σ H1 {s1 with heap:=h',toks:=tk}:=I1.kept hk;obtain⟨es,ep,tb,bt,hel,hp⟩:=hB;have hsz:=Srt.bagI_size (h:=h') (a:=a) hp;have hzl:es.size<=sizeLine:=by rw[sizeLine_eq];omega
 have hkeys:∀ u∈es.toList.map (·.2),∃ i t,u=cG i t:=by
  intro u hu;obtain⟨e',he',rfl⟩:=bD.mp hu;obtain⟨⟨k,hk',_⟩,_⟩:=hel e' he';obtain⟨t',et⟩:=fM hk';exact⟨k,t',et⟩
 refine Srt.sorted_any (O:=Srt.intOrd) (key:=Srt.intKey) (knd:=oneType') (s:={s1 with heap:=h',toks:=tk}) (Srt.coll_bag (A:=X.A.in1) hh bt hzl) (fun vs h=>by rw[h.length_eq,ab,aY];exact hzl)
  (fun vs s' h _=>Srt.asks_ints (T5 fun u hu=>hkeys u (h.mem_iff.mp hu))) fun vs out h1 h2 tk' n hC ho hs k1 k2 hD=>?_
 have hall:∀ u∈out,∃ i t,u=cG i t:=fun u hu=>hkeys u (hC.mem_iff.mp (ho.mem_iff.mp hu))
 have hio:=T5 hall;have I3:Inv X pins σ H1 {s1 with heap:=h1,toks:=tk'}:=I1.kept fun b o eb=>k1 b o (hk b o eb)
 have hperm:(out.map Srt.intKey).Perm ms:=by
  refine ((ho.trans hC).map Srt.intKey).trans ?_;rw[ca];exact hp
 have hlen:(out.map Srt.intKey).length<=sizeLine:=by rw[hperm.length_eq,<- hsz];exact hzl
 refine⟨.ref h1.objs.size,_,I3.laid (t':=tk') (o:=.lst ((out.map Srt.intKey).map V.int)) k2 (ao _) ⟨by rw[ab];exact hlen,out,n,Y0 hio,hD⟩,rfl,q _ _ ?_ ?_ I3.fresh⟩
 ·have hle':(out.map Srt.intKey).Pairwise (·<=·):=by
   rw[da];exact hs.imp fun {a b} hab=>by
    have hab:decide (Srt.intKey b<Srt.intKey a)=false:=hab;simp at hab;exact hab
  have hnd':(out.map Srt.intKey).Nodup:=hperm.nodup_iff.mpr hnd;exact (hle'.and hnd').imp fun {a b} hab=>by have h1:=hab.1;have h2:=hab.2;omega
 ·intro z;rw[hperm.mem_iff];exact hmem z
end
end L2
end
section
namespace L2
open PySem PySem.Spec PyProof.Rows
section
variable {X:Cx}{pins:List (Addr×Obj)}{σ:St}{H:Hp}{s:Shared}{h':Heap}
theorem a3V {h:Heap}{o:Obj}{b:Addr}(hb:b<h.objs.size):(h.push o).get? b=h.get? b:=by
 unfold Heap.get? Heap.push;simp[Array.getElem?_push,aP hb]
theorem Y2 {t':Nat}{L:List Addr}(I:Inv X pins σ H s)(k:∀ b o,b∉L->s.heap.get? b=some o->h'.get? b=some o)(hf:∀ b∈L,X9 X pins H b):Inv X pins σ H {s with heap:=h',toks:=t'}:=by
 have nit:∀ b u,H b=some u->b∉L:=fun b u e z=>by rw[(hf b z).1] at e;cases e
 refine I.step (g':=s.gens) (d':=s.drawn) (ch:=L) (fun b hb=>?_) (fun b o _ _ hc e _=>k b o hc e) (fun b o _ _ hc e _=>⟨o.slots,k b o hc e⟩) (fun _ _ _ _ n=>n)
  (fun b o hc e=>⟨o,k b o hc e⟩) (fun _ _ e=>e) (fun _ _ _ e=>e) (fun b ps e=>⟨#[],by rw[e];simp⟩) (fun m hm=>?_) (fun b u e=>?_) I.bare
 ·obtain⟨f0,f1,f2,f3,f4,f5⟩:=hf b hb;exact⟨f3,f1,f4,f5⟩
 ·obtain⟨o,es,ep,ho,r⟩:=hm;exact⟨o,es,ep,k _ o (fun z=>(hf _ z).2.1 rfl) ho,r⟩
 ·refine (I.hok b u e).stay (fun c v hc q=>k c v ?_ q) (fun _ q=>q) fun _ _ q=>q
  rcases hc with z | z
  ·rw[z];exact nit b u e
  ·exact nit c _ z
def Ite (K:ae)(a:Addr):It :=
 ⟨fun i H=>∃ xs x,SqL K H a xs/\xs[i]?=some x,fun i H v H'=>∃ q x,v=.ref q/\H q=none/\H'=upd H q (.tup [.int i,x])/\∀ xs,SqL K H a xs->xs[i]?=some x,fun i H=>∃ xs,SqL K H a xs/\xs.length<=i⟩
theorem a6h {P:Program}{w:World}{K:ae}{elts:List Expr}{k:Nat}{pos:Pos}(a e it:Addr)(hne:e≠it):a4y P w K (.Tuple elts k pos) (Ite K a) [e,it] e (fun i h=>(∃ old,IsEnum h e it i old)/\h.IsListIter it a i) where
 mem:=by simp
 obj:=fun i h st b hb=>by
  obtain⟨⟨old,he⟩,o,eo,c,d⟩:=st;rcases aD.mp hb with rfl | hb
  ·exact⟨_,he,fun v z=>by
    have z':jH _=ip v:=z
    cases z'⟩
  ·have e:b=it:=by simpa using hb
   subst e;exact⟨o,eo,fun v z=>by rw[d] at z;cases z⟩
 keep:=fun i h h' st k=>⟨let ⟨old,he⟩:=st.1;⟨old,k e (by simp) _ he⟩,st.2.at fun o q=>k it (by simp) o q⟩
 item:=by
  intro X hP hw hK hc i pins s σ H E I hf st hg;subst hP hw hK;obtain⟨xs,x,hq,hx⟩:=hg;obtain⟨its,rv,p,hz⟩:=I.list hq;obtain⟨u,hu,ru⟩:=rv.get hx;obtain⟨⟨old,he⟩,hit⟩:=st;have hel:e<s.heap.objs.size:=aC he;have hil:it<s.heap.objs.size:=by obtain⟨_,z,_⟩:=hit;exact aC z
  refine wpAny_pyNext_enum_item he hit p.isList (x:=u) (by simpa using hu) hne fun h1 ho hit1 hT hsz hk=>⟨_,rfl,?_⟩
  refine wpAny_letOwnedTupleGo_enum (s:={s with heap:=h1,toks:=s.toks+1}) ho fun h2 he2 hs2=>?_
  have hs2':∀ b o,b≠e->h1.get? b=some o->h2.get? b=some o:=fun b o hb q=>(hs2.2 b hb).trans q
  have I1:Inv X pins σ (upd H s.heap.objs.size (.tup [.int i,x])) {s with heap:=s.heap.push {cls:=.type "tuple",data:=.seq #[.int i s.toks,u]},toks:=s.toks+1} :=
   I.laid (o:=.tup [.int i,x]) (fun b o q=>ag _ q) (ao _) ⟨by simp[sizeLine_eq],[.int i s.toks,u],.cons ⟨_,rfl⟩ (.cons ru .nil),⟨_,aB _ rfl,rfl,_,rfl⟩⟩
  have hfr:∀ b∈[e,it],X9 X pins (upd H s.heap.objs.size (.tup [.int i,x])) b:=by
   intro b hb;obtain⟨f0,f⟩:=hf b hb;refine⟨?_,f⟩;rw[B2];exact f0;rcases aD.mp hb with rfl | hb
   ·exact aP hel
   ·rw[ah.mp hb];exact aP hil
  have I2:Inv X pins σ (upd H s.heap.objs.size (.tup [.int i,x])) {s with heap:=h2,toks:=s.toks+1}:=by
   refine Y2 (s:={s with heap:=s.heap.push {cls:=.type "tuple",data:=.seq #[.int i s.toks,u]},toks:=s.toks+1}) (L:=[e,it]) I1 (fun b o hb q=>?_) hfr;have hb1:b≠e:=fun z=>hb (by simp[z])
   have hb2:b≠it:=fun z=>hb (by simp[z])
   refine hs2' b o hb1 ?_;by_cases hbT:b=s.heap.objs.size
   ·subst hbT;rw[show (s.heap.push {cls:=.type "tuple",data:=.seq #[.int i s.toks,u]}).get? s.heap.objs.size=some {cls:=.type "tuple",data:=.seq #[.int i s.toks,u]} from aB _ rfl] at q;cases q;exact hT
   ·have:s.heap.get? b=some o:=by
     have hlt:b<s.heap.objs.size+1:=by have:=aC q;rw[cm] at this;exact this
     have hlt2:b<s.heap.objs.size:=jT (dW hlt) hbT;rw[<- q];exact (a3V hlt2).symm
    exact hk b o hb1 hb2 this
  refine⟨.ref s.heap.objs.size,_,I2,rfl,⟨s.heap.objs.size,x,rfl,I.fresh,rfl,fun ys hy=>by rw[I.list_inj hy hq];exact hx⟩,⟨⟨_,he2⟩,hit1.at fun o q=>hs2' it o hne.symm q⟩,fun b hb=>(hfr b hb).1⟩
 done:=by
  intro X hP hw hK hc i pins s σ H E I hf st hg;subst hP hw hK;obtain⟨xs,hq,hx⟩:=hg;obtain⟨its,rv,p,hz⟩:=I.list hq;obtain⟨⟨old,he⟩,hit⟩:=st;have hl:=rv.length;refine wpAny_pyNext_enum_end (I.ok.hd hc) he hit p.isList (by simp;omega) fun h' eb=>⟨rfl,?_⟩
  exact Y2 (t':=s.toks) (L:=[e,it]) I (fun b o hb q=>eb b o (fun z=>hb (by simp[z])) q) hf
 self:=fun _ _ _ _ _ st h=>let ⟨_,he⟩:=st.1;ki he h
end
section
variable {X:Cx}{K:ae}{elts:List Expr}{k:Nat}{tpos p pos:Pos}{l:Expr}{t:TA}{y:Str}
def b0r (K:ae)(t:TA):TI:=fun σ H R=>t σ H fun vs H1=>∃ a,vs=[.ref a]/\(∃ xs,SqL K H1 a xs)/\R (Ite K a) H1
theorem a8W (hg:Gl X y)(hm:X.mg y=none)(hv:bootBuiltins y=some (.type "enumerate"))(ha:PA X [l] t)(hn:y≠"__name__":=by decide)(hdb:(y == ("__debug__":Str))=false:=by decide)
  (he:starEach [l] X.env=[(false,eval l X.env)]:=by rfl) (hpl:(backTo pos (starEach ([]:List Expr) X.env)).any (·.1)=false:=by rfl) (hK:X.K=K:=by rfl):PI X (.Tuple elts k tpos) (.Call (.Name y p) [l] [] pos) (b0r K t):=by
 subst hK;intro pins s σ H R I h;refine cD (S4 I hg hm hv ?_ hn hdb);refine bV (thn (ha pos pins s σ H _ I h) fun us s1 ⟨vs,H1,I1,r1,a,e1,⟨xs,hq⟩,q⟩=>?_) he hpl;subst e1;obtain⟨u,rfl,rx⟩:=Q5 r1;cases rx;obtain⟨its,rv,pl,hz⟩:=I1.list hq;refine call_enumerate_list pl.isList fun h' hen hit hsz hk=>ki (s:={s1 with heap:=h'}) hen ?_
 refine⟨s1.heap.objs.size+1,[s1.heap.objs.size+1,s1.heap.objs.size],_,_,H1,rfl,I1.kept (t':=s1.toks) hk,a6h a _ _ (fh (ij _)),⟨⟨_,hen⟩,hit⟩,fun b hb=>?_,q⟩;rcases aD.mp hb with rfl | hb
 ·exact I1.fpOk (gF _) (I1.hok.fresh (gF _))
 ·rw[ah.mp hb];exact I1.fpOk (ao _) I1.fresh
end
section
variable {K:ae}{a p:Addr}{xs:List V}{g:TG}{tc:TT}{te tv:TE}{τ0:St}{H0:Hp}{EE:Hp->Prop}
theorem a9w (Pv:Nat->St->Hp->Prop)(h0:Pv 0 τ0 H0)(hl:∀ i τ H,i<=xs.length->Pv i τ H->SqL K H a xs)
  (hs:∀ i x τ H q,xs[i]?=some x->Pv i τ H->H q=none->g (.ref q) τ (upd H q (.tup [.int i,x])) fun τ2 H2=>tc τ2 H2 fun b H3=>if b=true then te τ2 H3 fun v H4=>∃ ys,H4 p=some (.lst ys)/\ys.length<sizeLine/\Pv (i+1) τ2 (upd H4 p (.lst (ys++[v]))) else Pv (i+1) τ2 H3)
  (hd:∀ τ H,Pv xs.length τ H->EE H):lcW g tc te p (Ite K a) τ0 H0 EE:=by
 refine⟨fun i m τ H=>m=xs.length-i/\i<=xs.length/\Pv i τ H,⟨_,rfl,bf _,h0⟩,?_⟩;rintro i m τ H ⟨rfl,hi,hp⟩;have hq:=hl i τ H hi hp;rcases cc i xs.length with h | h
 ·have hx:xs[i]?=some xs[i]:=aq h;refine .inr ⟨⟨xs,_,hq,hx⟩,Pv (i+1),fun τ' H' z=>⟨_,by omega,rfl,h,z⟩,?_⟩;rintro v H' ⟨q,x,rfl,hn,rfl,hy⟩;have e:x=xs[i]:=by have:=hy xs hq;rw[hx] at this;exact (aG this).symm
  subst e;exact hs i _ τ H q hx hp hn
 ·have e:i=xs.length:=by omega
  subst e;exact .inl ⟨⟨xs,hq,ao _⟩,hd τ H hp⟩
end
structure Bt2 (mg:Str->Option Value):Prop where
 isinstance:mg "isinstance"=none
 bool:mg "bool"=none
 all:mg "all"=none
 set:mg "set"=none
 enumerate:mg "enumerate"=none
 zip:mg "zip"=none
end L2
end
section
namespace L2
open PySem
inductive Rch (ts:List (Int×Int))(A:Int->Prop)(u:Int):Int->Prop
 | base:Rch ts A u u
 | step {y x:Int}:Rch ts A u y->x∈nb ts y->A x->Rch ts A u x
structure a3m (n:Int)(ts:List (Int×Int))(A:Int->Prop)(u:Int)(fs ws:List Int):Prop where
 nd:fs.Nodup
 rng:∀ x∈fs,0<=x/\x<n
 st:u∈fs
 sub:∀ x∈ws,x∈fs
 snd:∀ x∈fs,Rch ts A u x
 cl:∀ x∈fs,x∉ws->∀ y∈nb ts x,A y->y∈fs
structure Z0 (n:Int)(ts:List (Int×Int))(A:Int->Prop)(u:Int)(fs ws:List Int)(v:Int)(j:Nat):Prop where
 nd:fs.Nodup
 rng:∀ x∈fs,0<=x/\x<n
 st:u∈fs
 sub:∀ x∈ws,x∈fs
 snd:∀ x∈fs,Rch ts A u x
 cl:∀ x∈fs,x∉ws->x≠v->∀ y∈nb ts x,A y->y∈fs
 vin:v∈fs
 part:∀ y∈(nb ts v).take j,A y->y∈fs
section
variable {n:Int}{ts:List (Int×Int)}{A:Int->Prop}{u v:Int}{fs ws:List Int}{j:Nat}
theorem a3m.init (h0:0<=u)(h1:u<n):a3m n ts A u [u] [u] :=
 ⟨by simp,fun x hx=>by simp at hx;subst hx;exact⟨h0,h1⟩,by simp,by simp,fun x hx=>by simp at hx;subst hx;exact .base,fun x hx hn=>by simp at hx hn;exact absurd hx hn⟩
theorem a3m.pop (h:a3m n ts A u fs (ws++[v])):Z0 n ts A u fs ws v 0 :=
 ⟨h.nd,h.rng,h.st,fun x hx=>h.sub x (by simp[hx]),h.snd,fun x hx hn hv=>h.cl x hx (by simp[hn,hv]),h.sub v (by simp),fun y hy=>by simp at hy⟩
theorem Z0.add (h:Z0 n ts A u fs ws v j)(hok:P4 n ts){y:Int}(hy:(nb ts v)[j]?=some y)(ha:A y)(hn:y∉fs):Z0 n ts A u (fs++[y]) (ws++[y]) v (j+1):=by
 have hym:=aI hy;have hr:=W8 hok hym;refine⟨?_,fun x hx=>?_,by simp[h.st],fun x hx=>?_,fun x hx=>?_,fun x hx hw hv z hz az=>?_,by simp[h.vin],fun z hz az=>?_⟩
 ·rw[cN];exact⟨h.nd,by simp,fun a hq b hb e=>hn (by simp at hb;subst hb;subst e;exact hq)⟩
 ·rcases ak.mp hx with hx | hx
  ·exact h.rng x hx
  ·cases ah.mp hx;exact⟨hr.1,hr.2.1⟩
 ·rcases ak.mp hx with hx | hx
  ·exact ak.mpr (.inl (h.sub x hx))
  ·exact ak.mpr (.inr hx)
 ·rcases ak.mp hx with hx | hx
  ·exact h.snd x hx
  ·cases ah.mp hx;exact .step (h.snd v h.vin) hym ha
 ·rcases ak.mp hx with hx | hx
  ·exact ak.mpr (.inl (h.cl x hx (fun q=>hw (ak.mpr (.inl q))) hv z hz az))
  ·exact absurd (ak.mpr (.inr hx)) hw
 ·rw[bQ,hy] at hz;rcases ak.mp hz with hz | hz
  ·exact ak.mpr (.inl (h.part z hz az))
  ·simp at hz;subst hz;simp
theorem Z0.skip (h:Z0 n ts A u fs ws v j){y:Int}(hy:(nb ts v)[j]?=some y)(ha:¬ A y\/y∈fs):Z0 n ts A u fs ws v (j+1):=by
 refine⟨h.nd,h.rng,h.st,h.sub,h.snd,h.cl,h.vin,fun z hz az=>?_⟩;rw[bQ,hy] at hz;rcases ak.mp hz with hz | hz
 ·exact h.part z hz az
 ·simp at hz;subst hz;exact ha.elim (fun q=>absurd az q) id
theorem Z0.done (h:Z0 n ts A u fs ws v j)(hj:(nb ts v).length<=j):a3m n ts A u fs ws:=by
 refine⟨h.nd,h.rng,h.st,h.sub,h.snd,fun x hx hw y hy ay=>?_⟩;by_cases e:x=v
 ·subst e;exact h.part y (by rw[di hj];exact hy) ay
 ·exact h.cl x hx hw e y hy ay
theorem a3m.fin (h:a3m n ts A u fs [])(x:Int):x∈fs↔Rch ts A u x:=by
 refine⟨h.snd x,fun r=>?_⟩;induction r with
 | base=>exact h.st
 | step _ hm ha ih=>exact h.cl _ ih (by simp) _ hm ha
theorem Rch.rng (hok:P4 n ts)(h0:0<=u)(h1:u<n){x:Int}(r:Rch ts A u x):0<=x/\x<n:=by
 induction r with
 | base=>exact⟨h0,h1⟩
 | step _ hm _ _=>have:=W8 hok hm;omega
theorem Rch.mem {x:Int}(r:Rch ts A u x)(h:A u):A x:=by
 cases r with
 | base=>exact h
 | step _ _ ha=>exact ha
theorem Rch.left {L:Int->Prop}(hok:P4 n ts)(hL:∀ x,L x->A x)(hc:∀ x y,A x->¬ L x->y∈nb ts x->A y->¬ L y)(hu:L u){x:Int}:Rch ts L u x↔Rch ts A u x:=by
 constructor
 ·intro r;induction r with
  | base=>exact .base
  | step _ hm ha ih=>exact .step ih hm (hL _ ha)
 ·intro r;have:Rch ts L u x/\L x:=by
   induction r with
   | base=>exact⟨.base,hu⟩
   | @step y x _ hm ha ih =>
    have:L x:=aZ fun hn=>hc x y ha hn ((W7 hok).mp hm) (hL _ ih.2) ih.2
    exact⟨.step ih.1 hm this,this⟩
  exact this.1
theorem b2M {H:Hp}{p:Addr}{u:Int}:upd (upd H p (.dK [])) p (.dK (Z4 [] [(bX u,V.bl true)]))=upd H p (.dK (kvI [u])):=by
 rw[a0H];rfl
theorem a8H {y:Int}(h:y∉fs):a0G fs y=fs++[y]:=by unfold a0G;rw[if_neg h]
end
structure Z7 (H Hc:Hp)(me wl:Addr)(fs ws:List Int):Prop where
 same:A6 H Hc
 met:Hc me=some (.dK (kvI fs))
 wait:Hc wl=some (.lst (ws.map V.int))
def srM (n:Int)(me wl:Addr)(Hc:Hp):Nat:=match Hc me,Hc wl with
 | some (.dK kvs),some (.lst xs)=>2*(n.toNat-kvs.length)+xs.length
 | _,_=>0
section
variable {H Hc:Hp}{me wl:Addr}{fs ws:List Int}{n:Int}
theorem Z7.mu (h:Z7 H Hc me wl fs ws):srM n me wl Hc=2*(n.toNat-fs.length)+ws.length:=by
 unfold srM;rw[h.met,h.wait];show 2*(n.toNat-(kvI fs).length)+(ws.map V.int).length=_;rw[a5P,ab]
theorem Z7.ne (h:Z7 H Hc me wl fs ws):me≠wl:=fun e=>by
 have:=h.met;rw[e,h.wait] at this;cases this
theorem a9x {ws:List Int}(h:ws≠[]):∃ ws' v,ws=ws'++[v]:=⟨ws.dropLast,ws.getLast h,(il h).symm⟩
theorem Z7.pop {v:Int}(h:Z7 H Hc me wl fs (ws++[v]))(hw:H wl=none):((ws++[v]).map V.int)[((ws++[v]).map V.int).length-1]?=some (V.int v)/\Z7 H (upd Hc wl (.lst ((ws++[v]).map V.int).dropLast)) me wl fs ws:=by
 refine⟨by simp,h.same.upd hw,by rw[B2 h.ne];exact h.met,?_⟩;rw[A2];simp
theorem Z7.add {y:Int}(h:Z7 H Hc me wl fs ws)(hm:H me=none)(hw:H wl=none)(hy:y∉fs):Z7 H (upd (upd Hc me (.dK (kvI (a0G fs y)))) wl (.lst (ws.map V.int++[V.int y]))) me wl (fs++[y]) (ws++[y]):=by
 refine⟨(h.same.upd hm).upd hw,?_,?_⟩
 ·rw[B2 h.ne,A2,a8H hy]
 ·rw[A2,aJ];rfl
theorem Z7.mono {H0:Hp}(h:Z7 H Hc me wl fs ws)(s:A6 Hc H0):Z7 H H0 me wl fs ws:=⟨h.same.trans s,s _ _ h.met,s _ _ h.wait⟩
end
def a0V (K:ae):Sp:=fun vs H Q _=>∃(rp:Addr) (as:List Addr) (n:Int) (ts:List (Int×Int)) (al:Addr) (ls:List Int) (u:Int),vs=[.ref rp,.int u,.ref al]/\C2 H rp as (E9 n ts)/\P4 n ts/\n<=1000/\ts.length<=1000/\(SqL K H al (ls.map V.int)\/SqT K H al (ls.map V.int))/\0<=u/\u<n /\
 ∀(p:Addr) (zs:List Int) (H':Hp),A6 H H'->H p=none->H' p=some (.lst (zs.map V.int))->zs.Pairwise (·<·)->(∀ x,x∈zs↔Rch ts (·∈ls) u x)->Q (.ref p) H'
end L2
end
section
namespace L2
open PySem
def tI (l:List Int):PyData:=.tuple (l.map cW)
theorem Dts.tups {K:ae}{H:Hp}:∀ {ps:List (Addr×List Int)},(∀ x∈ps,SqT K H x.1 (x.2.map V.int))->Dts K H (ps.map fun x=>V.ref x.1) ((ps.map (·.2)).map tI)
 | [],_=>.nil
 | p::r,h=>.cons (.tupI (h p (aN ..))) (Dts.tups fun x hx=>h x (aM _ hx))
def a6S (H:Hp)(p:Addr)(ls:List (List Int)):Prop:=∃ ps:List (Addr×List Int),H p=some (.tup (ps.map fun x=>V.ref x.1))/\(∀ x∈ps,H x.1=some (.tup (x.2.map V.int)))/\ps.map (·.2)=ls
theorem a6S.tp {H H':Hp}{p:Addr}{ls:List (List Int)}(h:a6S H p ls)(t:Tp H H'):a6S H' p ls:=by
 obtain⟨ps,e,ha,hl⟩:=h;exact⟨ps,t _ _ e,fun x hx=>t _ _ (ha x hx),hl⟩
theorem a6S.dt {K:ae}{H:Hp}{p:Addr}{ls:List (List Int)}(h:a6S H p ls):Dt K H (.ref p) (.tuple (ls.map tI)):=by
 obtain⟨ps,e,ha,rfl⟩:=h;exact .tup (SqT.of e) (Dts.tups fun x hx=>SqT.of (ha x hx))
open Classical in
noncomputable def W5 (n:Int)(ts:List (Int×Int))(us:List Int)(u:Int):List Int:=(E5 0 n.toNat).filter fun x=>decide (Rch ts (·∈us) u x)
section
variable {n:Int}{ts:List (Int×Int)}{us:List Int}{u x:Int}
theorem a8Z:(W5 n ts us u).Pairwise (·<·):=(a0e _).filter _
open Classical in
theorem a4T (hok:P4 n ts)(h0:0<=u)(h1:u<n):x∈W5 n ts us u↔Rch ts (·∈us) u x:=by
 unfold W5;rw[bd,K0,decide_eq_true_iff];constructor
 ·exact fun h=>h.2
 ·intro h;have:=h.rng hok h0 h1;exact⟨⟨this.1,by omega⟩,h⟩
def M7 (f:Int->List Int)(acc:List (List Int))(u:Int):List (List Int):=if (acc.any fun l=>decide (u∈l))=true then acc else acc++[f u]
noncomputable def a7U (n:Int)(ts:List (Int×Int))(us vs:List Int):List (List Int):=vs.foldl (M7 (W5 n ts us)) []
def X5 (acc:List (List Int))(x:Int):Prop:=∃ l∈acc,x∈l
theorem a6e (acc:List (List Int))(x:Int):(acc.any fun l=>decide (x∈l))=true↔X5 acc x:=by
 rw[dv];exact⟨fun ⟨l,h,e⟩=>⟨l,h,of_decide_eq_true e⟩,fun ⟨l,h,e⟩=>⟨l,h,decide_eq_true e⟩⟩
theorem a4j (vs:List Int):∀ l∈a7U n ts us vs,∃ v∈vs,l=W5 n ts us v:=by
 have gen:∀(vs:List Int) (acc:List (List Int)) (P:List Int->Prop),(∀ l∈acc,P l)->(∀ v∈vs,P (W5 n ts us v))->∀ l∈vs.foldl (M7 (W5 n ts us)) acc,P l:=by
  intro vs;induction vs with
  | nil=>intro acc P h _;exact h
  | cons v r ih =>
   intro acc P h1 h2;refine ih _ P ?_ fun w hw=>h2 w (aM _ hw)
   unfold M7;split
   ·exact h1
   ·intro l hl;rcases ak.mp hl with hl | hl
    ·exact h1 l hl
    ·cases ah.mp hl;exact h2 v (aN ..)
 exact gen vs [] (fun l=>∃ v∈vs,l=W5 n ts us v) (fun l hl=>by cases hl) fun v hv=>⟨v,hv,rfl⟩
theorem a1u (acc:List (List Int))(l:List Int):X5 (acc++[l]) x↔X5 acc x\/x∈l:=by
 unfold X5;constructor
 ·rintro⟨m,hm,hx⟩;rcases ak.mp hm with hm | hm
  ·exact .inl ⟨m,hm,hx⟩
  ·cases ah.mp hm;exact .inr hx
 ·rintro (⟨m,hm,hx⟩ | hx)
  ·exact⟨m,ak.mpr (.inl hm),hx⟩
  ·exact⟨l,by simp,hx⟩
end
end L2
end
section
namespace L2
open PySem PySem.Spec PyProof.Rows
section
variable {X:Cx}
theorem U3 {x:Str}{n:String}{pos:Pos}(hg:Gl X x)(hm:X.mg x=none)(hv:bootBuiltins x=some (.type n))(hn:x≠"__name__":=by decide)(hd:(x == ("__debug__":Str))=false:=by decide):PE X (.Name x pos) (tC (.ty n)) :=
 fun _ _ _ H _ I h=>S4 I hg hm hv ⟨.ty n,H,I,rfl,h⟩ hn hd
def b1L (K:ae):List V->Hp->VK->Prop:=fun xs H Q=>∃(x:V) (n:String) (t:Value) (b:Bool),xs=[x,.ty n]/\a0m K H x t/\ia K t (.type n)=some b/\Q (.bl b) H
theorem a8A:L4 X (.builtin "isinstance") (b1L X.K):=by
 intro pins s σ H xs us Q I r h;obtain⟨x,n,t,b,rfl,ty,e,q⟩:=h;obtain⟨u,w',rfl,rx,rn⟩:=a5k r;cases (show w'=cX n from rn);exact a6z I rx ty e fun tk=>⟨.bl b,H,I.tok _,rfl,q⟩
theorem a0u (K:ae)(h:X.K=K:=by rfl):L4 X (.builtin "isinstance") (b1L K):=by subst h;exact a8A
theorem a2r:∀ {bs:List Bool} {us:List Value},C8 (bs.map V.bl) us->∀(i:Nat) (v:Value),us[i]?=some v->v=aT (bs.getD i true)
 | [],_,.nil,i,v,h=>by simp at h
 | b::r,_,.cons q t,0,v,h=>by simp at h;subst h;exact q
 | b::r,_,.cons q t,i+1,v,h=>by simp at h;exact a2r t i v h
theorem a6l (bs:List Bool):(List.range bs.length).all (fun i=>bs.getD i true)=bs.all id:=by
 induction bs with
 | nil=>rfl
 | cons b r ih =>
  rw[aH,jj,gI,jq,gI];congr 1
def b1N (K:ae):List V->Hp->VK->Prop:=fun xs H Q=>∃(p:Addr) (bs:List Bool),xs=[.ref p]/\SqL K H p (bs.map V.bl)/\Q (.bl (bs.all id)) H
theorem a6Q (hh:X.A.handled=none):L4 X (.builtin "all") (b1N X.K):=by
 intro pins s σ H xs us Q I r h;obtain⟨p,bs,rfl,hq,q⟩:=h;obtain⟨u,rfl,ru⟩:=Q5 r;cases ru;obtain⟨its,rv,pl,hz⟩:=I.list hq;have hl:s.heap.IsList p its.toArray:=pl.isList;have hlen:its.length=bs.length:=by rw[<- rv.length,ab]
 refine call_all_walk (fq hl ?_);have hpu:∀ b o,s.heap.get? b=some o->(s.heap.push {cls:=.type "list_iterator",data:=.fields #[.ref p,.int 0 0]}).get? b=some o:=fun b o e=>ag _ e
 have hne:p≠s.heap.objs.size:=by
  obtain⟨o,ho,_⟩:=hl;exact aP (aC ho)
 refine⟨_,_,_,_,_,_,fun i=>bs.getD i true,rfl,jO (prog:=X.prog) (w:=X.w) (A:=X.A.in1) hh s.heap.objs.size p hne its.toArray,⟨⟨_,aB _ rfl,rfl,rfl⟩,hl.at fun o e=>hpu _ _ e⟩,?_,?_⟩
 ·intro i v s' Q' E' hP hQ;have:v=aT (bs.getD i true):=a2r rv i v (by simpa using hP);subst this;exact dq hQ
 ·intro h' tk hk;have e:(List.range its.toArray.size).all (fun i=>bs.getD i true)=bs.all id:=by rw[aK,hlen];exact a6l bs
  rw[e];refine⟨.bl _,H,I.kept fun b o eb=>hk b o (fun hm=>?_) (hpu b o eb),rfl,q⟩;rw[ah.mp hm] at eb;exact absurd (aC eb) (cP _)
theorem b2O (K:ae)(hh:X.A.handled=none)(h:X.K=K:=by rfl):L4 X (.builtin "all") (b1N K):=by subst h;exact a6Q hh
end
end L2
end
section
namespace L2
open PySem
def mm (a b:Int):Int×Int:=(if b<a then b else a,if b>a then b else a)
inductive P6 (ts:List (Int×Int)):List Int->List (Int×Int)->Prop where
 | one (s:Int):P6 ts [s] []
 | add {ins:List Int} {us:List (Int×Int)} {a b:Int} (h:P6 ts ins us) (ha:a∈ins) (hb:b∉ins) (hn:b∈nb ts a):P6 ts (ins++[b]) (us++[mm a b])
section
variable {n:Int}{ts us:List (Int×Int)}{ins:List Int}
theorem b1j (hok:P4 n ts){a b:Int}(h:b∈nb ts a):mm a b∈ts:=by
 rcases X0.mp h with q | ⟨q,_⟩
 ·have:=hok _ q;dsimp only at this;have e:mm a b=(a,b):=by unfold mm;rw[if_neg (by omega),if_pos (by omega)]
  rw[e];exact q
 ·have:=hok _ q;dsimp only at this;have e:mm a b=(b,a):=by unfold mm;rw[if_pos (by omega),if_neg (by omega)]
  rw[e];exact q
theorem P6.len (g:P6 ts ins us):ins.length=us.length+1:=by
 induction g with
 | one s=>rfl
 | add h _ _ _ ih=>rw[aE,aE,ih];rfl
theorem P6.nd (g:P6 ts ins us):ins.Nodup:=by
 induction g with
 | one s=>simp
 | add h _ hb _ ih =>
  rw[cN];exact⟨ih,by simp,fun a ha b hb' e=>by simp at hb';subst hb';subst e;exact hb ha⟩
theorem P6.ends (g:P6 ts ins us):∀ t∈us,t.1∈ins/\t.2∈ins:=by
 induction g with
 | one s=>intro t ht;cases ht
 | @add ins us a b h ha hb hn ih =>
  intro t ht;rcases ak.mp ht with ht | ht
  ·exact⟨cM _ (ih t ht).1,cM _ (ih t ht).2⟩
  ·cases ah.mp ht;have h1:a∈ins++[b]:=cM _ ha;have h2:b∈ins++[b]:=bx _ (List.mem_singleton.mpr rfl);unfold mm;dsimp only;constructor
   ·split<;>assumption
   ·split<;>assumption
theorem P6.sub (g:P6 ts ins us)(hok:P4 n ts):∀ t∈us,t∈ts:=by
 induction g with
 | one s=>intro t ht;cases ht
 | add h ha hb hn ih =>
  intro t ht;rcases ak.mp ht with ht | ht
  ·exact ih t ht
  ·cases ah.mp ht;exact b1j hok hn
theorem P6.tnd (g:P6 ts ins us):us.Nodup:=by
 induction g with
 | one s=>exact iU
 | @add ins us a b h ha hb hn ih =>
  rw[cN];refine⟨ih,by simp,fun t ht u hu e=>?_⟩;simp at hu;subst hu;subst e;have:=h.ends _ ht;unfold mm at this;dsimp only at this;obtain⟨q1,q2⟩:=this;by_cases hc:b<a
  ·rw[if_pos hc] at q1;exact hb q1
  ·rw[if_neg hc] at q1;by_cases hd:b>a
   ·rw[if_pos hd] at q2;exact hb q2
   ·have:a=b:=by omega
    subst this;exact hb ha
theorem P6.rng (g:P6 ts ins us)(hok:P4 n ts)(h0:∀ x∈ins.head?,0<=x/\x<n):∀ x∈ins,0<=x/\x<n:=by
 induction g with
 | one s=>intro x hx;rw[ah.mp hx];exact h0 s rfl
 | @add ins us a b h ha hb hn ih =>
  have hne:ins≠[]:=fun e=>by subst e;cases ha
  have h0':∀ x∈ins.head?,0<=x/\x<n:=fun x hx=>h0 x (by rw[List.head?_append,hx];rfl)
  intro x hx;rcases ak.mp hx with hx | hx
  ·exact ih h0' x hx
  ·cases ah.mp hx;have:=W8 hok hn;omega
theorem P6.open (g:P6 ts ins us)(hw:M4 n ts)(hr:∀ x∈ins,0<=x/\x<n)(hl:(ins.length:Int)<n):∃ a∈ins,∃ b∈nb ts a,b∉ins:=by
 apply aZ;intro hno;have hcl:∀ a∈ins,∀ b∈nb ts a,b∈ins:=fun a ha b hb=>aZ fun hn=>hno ⟨a,ha,b,hb,hn⟩
 obtain⟨s,hs⟩:∃ s,s∈ins:=by
  cases ins with
  | nil=>have:=g.len;simp at this
  | cons x r=>exact⟨x,aN ..⟩
 have hS:∀ t∈ts,(t.1∈ins↔t.2∈ins):=fun t ht=>by
  obtain⟨h0,h1,h2⟩:=hw.rng t ht;have e1:t.2∈nb ts t.1:=X0.mpr (.inl ht);exact⟨fun h=>hcl _ h _ e1,fun h=>hcl _ h _ ((W7 hw.rng).mp e1)⟩
 have hall:=fun v h0 h1=>hw.conn (fun x=>x∈ins) hS s v (hr s hs).1 (hr s hs).2 h0 h1 hs
 have hsub:E5 0 n.toNat ⊆ ins:=fun x hx=>by
  have:=K0.mp hx;exact hall x this.1 (by omega)
 have:=U1 (C7 (a0e n.toNat)) hsub;rw[E7] at this;omega
structure X8 (n:Int)(ts us:List (Int×Int)):Prop where
 grown:∃ ins gs,P6 ts ins gs/\us.Perm gs/\(ins.length:Int)=n/\∀ x∈ins,0<=x/\x<n
 srt:us.Pairwise Lex
 sub:∀ t∈us,t∈ts
theorem X8.len (h:X8 n ts us):(us.length:Int)+1=n:=by
 obtain⟨ins,gs,g,p,hl,_⟩:=h.grown;have:=g.len;rw[p.length_eq];omega
theorem X8.ok (h:X8 n ts us)(hok:P4 n ts):P4 n us:=fun t ht=>hok t (h.sub t ht)
theorem a9t {us:List (Int×Int)}(hs:us.Pairwise fun x y=>HT.lexLt (tl y) (tl x)=false)(hn:us.Nodup):us.Pairwise Lex:=by
 refine (gg hs hn).imp ?_;rintro a b ⟨h1,h2⟩;have h3:¬ Lex b a:=fun e=>by rw[a5M.mpr e] at h1;cases h1
 unfold Lex at h3 ⊢;have h4:¬ (a.1=b.1/\a.2=b.2):=fun e=>h2 (by cases a;cases b;simp at e;rw[e.1,e.2])
 omega
theorem a6G {gs:List (Int×Int)}(g:P6 ts ins gs)(hok:P4 n ts)(hl:(ins.length:Int)=n)(hr:∀ x∈ins,0<=x/\x<n)(p:us.Perm gs)(hs:us.Pairwise fun x y=>HT.lexLt (tl y) (tl x)=false):X8 n ts us :=
 ⟨⟨ins,gs,g,p,hl,hr⟩,a9t hs (p.nodup_iff.mpr g.tnd),fun t ht=>g.sub hok t (p.mem_iff.mp ht)⟩
end
theorem C2.put {H:Hp}{p x:Addr}{as:List Addr}{rows:List (List Int)}{o:HO}(h:C2 H p as rows)(h1:x≠p)(h2:x∉as):C2 (upd H x o) p as rows :=
 h.mono fun a u q e=>by
  rw[B2 (fun z=>by subst z;exact q.elim (fun z=>h1 z) h2)];exact e
def opn (ts:List (Int×Int))(ins:List Int)(a:Int):List Int:=(nb ts a).filter fun k=>!decide (k∈ins)
def rdy (ts:List (Int×Int))(ins:List Int):List Int:=ins.filter fun a=>!decide (opn ts ins a=[])
theorem a5L {ts:List (Int×Int)}{ins:List Int}{a b:Int}:b∈opn ts ins a↔b∈nb ts a/\b∉ins:=by unfold opn;simp
theorem a5K {ts:List (Int×Int)}{ins:List Int}{a:Int}:a∈rdy ts ins↔a∈ins/\opn ts ins a≠[]:=by unfold rdy;simp
theorem a1G {xs:List Int}{i:Int}(hn:0<=i)(h1:i<xs.length):∃ x,x∈xs/\atI (xs.map V.int) i=some (.int x):=by
 have hlt:i.toNat<xs.length:=by omega
 refine⟨xs[i.toNat],fY hlt,?_⟩;have:=N7 (xs:=xs.map V.int) (j:=i.toNat) (v:=V.int xs[i.toNat]) (by rw[aF,aq hlt];rfl);rw[bH hn] at this;exact this
theorem a4x {xs:List Int}(h:xs≠[]):∃ x,x∈xs/\atI (xs.map V.int) (-1)=some (.int x):=by
 refine⟨xs.getLast h,List.getLast_mem h,?_⟩;have:=a8F ((xs.dropLast).map V.int) (V.int (xs.getLast h));rw[<- List.map_singleton,<- aJ,il h] at this;exact this
theorem S6 {n:Nat}{f:Int->Bool}:((E5 0 n).filter f).Pairwise (·<·):=(a0e n).sublist cF
def a5o:Sp:=fun vs H Q _=>∃(d w:Addr) (n:Int) (ts:List (Int×Int)),vs=[.ref d,.ref w]/\K5 H d/\R6 H w n ts/\M4 n ts /\
 ∀(p:Addr) (us:List (Int×Int)) (H':Hp),Kp d H H'->K5 H' d->H p=none->Y4 H' p us->X8 n ts us->Q (.ref p) H'
end L2
end
section
namespace L2
open PySem PySem.Spec PyProof.Rows
theorem Y4.ls {H:Hp}{q:Addr}{ts:List (Int×Int)}(h:Y4 H q ts):a6S H q (ts.map tl):=by
 obtain⟨ps,e,hp⟩:=h;exact⟨ps,e,hp.to,hp.eq⟩
end L2
end
section
namespace HT
open PySem PyProof.Rows
section
variable {prog:Program}{w:World}{A:Around}{E:Value->Shared->Prop}{s:Shared}
theorem applied_rev {sl:Addr}{tk:Tok}{n:Nat}{Q:Int×Int×Nat->Shared->Prop}(hs:s.heap.IsSliceOf sl .none .none (.int (-1) tk))
  (h:Q ((n:Int)-1,-1,n) s):wpAny (model prog w) A (Builtin.Slice.sliceApplied (.ref sl) (pure (n:Int))) Q E s:=by
 obtain⟨os,hos,hcs,hds⟩:=id hs;unfold Builtin.Slice.sliceApplied Builtin.Slice.sliceFields;refine aa (aa (cC hos hds (x:=.none) rfl (aa (cC hos hds (x:=.none) rfl (aa (cC hos hds (x:=.int (-1) tk) rfl (ai ?_)))))));refine aa (slicePart_ (o:=some (-1)) (.int (-1) tk) ?_);show wpAny _ _ (if ((-1:Int) == 0)=true then _ else _) _ _ s;rw[if_neg (by decide)];refine aa (slicePart_ .none (aa (slicePart_ .none (aa (ai ?_)))));show wpAny _ _ (match Builtin.Slice.sliceAdjust none none (-1) (n:Int) with | (lo,hi)=>pure (lo,(-1:Int),Builtin.Slice.slicePlaces lo hi (-1))) _ _ s;have e1:Builtin.Slice.sliceAdjust none none (-1) (n:Int)=((n:Int)-1,-1):=by
  unfold Builtin.Slice.sliceAdjust;simp
 rw[e1];have e2:Builtin.Slice.slicePlaces ((n:Int)-1) (-1) (-1)=n:=by
  unfold Builtin.Slice.slicePlaces;simp;try split
  all_goals omega
 show wpAny _ _ (pure ((n:Int)-1,(-1:Int),Builtin.Slice.slicePlaces ((n:Int)-1) (-1) (-1))) _ _ s;rw[e2];exact ai h
theorem pick_rev (xs:List Value):((List.range xs.length).filterMap fun (m:Nat)=>xs.toArray[(((xs.length:Nat):Int)-1+(m:Int)*(-1)).toNat]?)=xs.reverse:=by
 have e:∀ m∈List.range xs.length,xs.toArray[(((xs.length:Nat):Int)-1+(m:Int)*(-1)).toNat]?=some (xs.reverse.getD m .none):=by
  intro m hm;have hm':=cn.mp hm;have e1:(((xs.length:Nat):Int)-1+(m:Int)*(-1)).toNat=xs.length-1-m:=by omega
  rw[e1,ff,aq (by omega),ce,jp hm',aq (by omega)];rfl
 have h2:∀ l:List Nat,(∀ m∈l,xs.toArray[(((xs.length:Nat):Int)-1+(m:Int)*(-1)).toNat]?=some (xs.reverse.getD m .none))->(l.filterMap fun (m:Nat)=>xs.toArray[(((xs.length:Nat):Int)-1+(m:Int)*(-1)).toNat]?)=l.map fun m=>xs.reverse.getD m .none:=by
  intro l hl;induction l with
  | nil=>rfl
  | cons a r ih=>rw[cj (f:=fun (m:Nat)=>xs.toArray[(((xs.length:Nat):Int)-1+(m:Int)*(-1)).toNat]?) (hl a (aN ..)),aL,ih fun m hm=>hl m (aM _ hm)]
 rw[h2 _ e];refine dD fun i=>?_
 rw[aF];rcases cc i xs.length with h | h
 ·rw[fz h,aq (l:=xs.reverse) (by simpa using h)];simp[ce,h]
 ·rw[ck (by simpa using h),ck (by simpa using h)];rfl
theorem getItem_tuple_rev {t sl:Addr}{xs:List Value}{tk:Tok}{Q:Value->Shared->Prop}(ht:IsTup s.heap t xs.toArray)(hs:s.heap.IsSliceOf sl .none .none (.int (-1) tk))
  (h:Q (.ref s.heap.objs.size) {s with heap:=s.heap.push {cls:=.type "tuple",data:=.seq xs.reverse.toArray}})
  (hsz:xs.length<=sizeLine):wpAny (model prog w) A (getItem (.ref t) (.ref sl)) Q E s:=by
 have htake:sizeOk (.seq xs.reverse.toArray):=by
  show xs.reverse.toArray.size<=sizeLine;simpa using hsz
 obtain⟨os,hos,hcs,hds⟩:=id hs;have hTs:s.TypeIs (.ref sl) "slice":=⟨os,hos,hcs⟩
 unfold getItem;try with_reducible refine cu ?_
 first | refine aa (ai ?_) | skip
 refine aa (iE ht.typeIs (by decide) ?_)
 refine aa (bL (name:=Str.ofString "__getitem__") ht.typeIs bJ
  (bO bJ ht.typeIs gY ?_ (ii _ _)))
 show wpAny _ _ (fc (.ref t) >>= _) _ _ s;refine aa (tupleItemsOf_ ht ?_);refine aa (eR hTs ?_);rw[if_pos (by decide)];refine aa (applied_rev (n:=xs.toArray.size) hs ?_);show wpAny _ _ (if ((((xs.toArray.size:Nat):Int)-1) == 0 && (-1:Int) == 1 && xs.toArray.size == xs.toArray.size)=true then _ else _) _ _ s;rw[if_neg (by simp)];rw[show xs.toArray.size=xs.length by simp,pick_rev];first
  | exact aa (m:=Builtin.Tuple.tupleExact _) (bo (ai ⟨_,rfl,ai h⟩) htake)
  | exact aa (m:=Builtin.Tuple.tupleExact _) (bo (aa (ai (ai ⟨_,rfl,ai h⟩))) htake)
  | exact aa (aa (m:=Builtin.Tuple.tupleExact _) (bo (ai (ai ⟨_,rfl,ai h⟩)) htake))
  | exact aa (aa (m:=Builtin.Tuple.tupleExact _) (bo (ai ⟨_,rfl,ai h⟩) htake))
end
end HT
namespace L2
open PySem PySem.Spec PyProof.Rows
section
variable {X:Cx}{e st:Expr}{te ts:TE}{p2 pos:Pos}
def a9X (K:ae)(te ts:TE):TE:=fun σ H Q=>te σ H fun x H1=>ts σ H1 fun y H2=>∃ a xs,x=.ref a/\SqT K H2 a xs/\y=.int (-1)/\∀ p,H2 p=none->Q (.ref p) (upd H2 p (.tup xs.reverse))
theorem a2J (K:ae)(he:PE X e te)(hst:PE X st ts)(ht:∀ o r,letTemporaryGo e o r=pure ():=by intro _ _;rfl)(hK:X.K=K:=by rfl):PE X (.Subscript e (.Slice none none (some st) p2) pos) (a9X K te ts):=by
 subst hK;intro pins s σ H Q I h;refine wpAny_Subscript_Slice_step (T:="tuple") bJ.lookup (thn (he pins s σ H _ I h) fun v s1 ⟨x,H1,I1,r1,q1⟩=>?_) ht;refine wpAny_Slice ?_;rw[evalPart_none];refine ai (ai ?_);rw[evalPart_some];refine thn (hst pins s1 σ H1 _ I1 q1) fun vs s2 ⟨y,H2,I2,r2,a,xs,e1,hx,e2,q2⟩=>?_
 subst e1;subst e2;cases r1;obtain⟨tk,rfl⟩:=r2;have I3:Inv X pins σ H2 {s2 with heap:=s2.heap.push {cls:=.type "slice",data:=.fields #[.none,.none,.int (-1) tk]}}:=I2.kept (t':=s2.toks) fun b ob q=>ag _ q
 obtain⟨its,r,htup,hz⟩:=I3.tuple hx;refine⟨htup.typeIs,HT.getItem_tuple_rev htup (ic ..) ?_ (by rw[<- r.length];exact hz)⟩;have hlr:xs.reverse.length<=sizeLine:=by simpa using hz
 exact⟨.ref _,_,I3.laid (t':=s2.toks) (o:=.tup xs.reverse) (fun b o q=>ag _ q) (ao _) ⟨hlr,its.reverse,a0O r,⟨_,aB _ rfl,rfl,_,rfl⟩⟩,rfl,q2 _ I3.fresh⟩
end
end L2
end
section
namespace Srt
open PySem PyProof.Rows
structure NxIt (prog:Program)(w:World)(i l:Addr)(n:Nat)(P:Nat->Value->Prop)(St:Nat->Heap->Prop):Prop where
 lt:∀ k h,St k h->i<h.objs.size
 frame:∀ k h h',St k h->(∀ b o,b=i\/b=l->h.get? b=some o->h'.get? b=some o)->St k h'
 item:∀(A:Around) (k:Nat) (s:Shared) (Q:Value->Shared->Prop) (E:Value->Shared->Prop),k<n->St k s.heap->(∀ v h',P k v->St (k+1) h'->dF i s.heap h'->Q v {s with heap:=h'}) ->
  wpAny (model prog w) A (Builtin.SmallTypes.nextOf (.ref i)) Q E s
 done:∀(A:Around) (k:Nat) (s:Shared) (Q:Value->Shared->Prop) (E:Value->Shared->Prop),A.handled=none->n<=k->St k s.heap ->
  (∀ h' e,jG i s.heap h'->(∃ o,h'.get? e=some o/\o.cls=.type "StopIteration")->E (.ref e) {s with heap:=h'})->wpAny (model prog w) A (Builtin.SmallTypes.nextOf (.ref i)) Q E s
theorem nx_tup {prog:Program}{w:World}{i l:Addr}{items:Array Value}(hne:l≠i):NxIt prog w i l items.size (fun k v=>items[k]?=some v) (fun k h=>h.IsTupleIter i l k/\h.IsTuple l items) where
 lt:=fun k h st=>by obtain⟨⟨o,e,_⟩,_⟩:=st;exact aC e
 frame:=fun k h h' st kp=>⟨st.1.at fun o e=>kp i o (.inl rfl) e,st.2.at fun o e=>kp l o (.inr rfl) e⟩
 item:=fun A k s Q E hk st hQ=>by
  obtain⟨hit,ht⟩:=st;obtain⟨o,ho,hc,hd⟩:=id hit;obtain⟨ol,hol,_,nl,hdl⟩:=id ht;unfold Builtin.SmallTypes.nextOf;refine aa (bL (name:=Str.ofString "__next__") hit.typeIs dw (bO dw hit.typeIs gw ?_ (gt _)));show wpAny _ _ (field (.ref i) 0 >>= _) _ _ s;refine aa (cC ho hd (x:=.ref l) rfl ?_);show wpAny _ _ (if (bF l == cw)=true then _ else _) _ _ s;rw[if_neg (show ¬ ((bF l == cw)=true) from aO)];show wpAny _ _ (field (.ref i) 1 >>= _) _ _ s;refine aa (cC ho hd (x:=.int k 0) rfl ?_);show wpAny _ _ (seqItems? (.ref l) >>= _) _ _ s;refine aa (dE hol hdl ?_);simp only[b6,aX hk];refine aa (eN ho hd (by simp) (ai ⟨_,rfl,ai (hQ _ _ (aX hk) ⟨?_,?_⟩ (bR ..))⟩))
  ·exact⟨_,cQ _ ho (fg (cT hd _)),(fR ..).trans hc,by rw[cT hd];simp[rawInt]⟩
  ·exact ht.extBut (bR ..).extBut hne
 done:=fun A k s Q E hh hk st hE=>by
  obtain⟨hit,ht⟩:=st;obtain⟨o,ho,hc,hd⟩:=id hit;obtain⟨ol,hol,_,nl,hdl⟩:=id ht;unfold Builtin.SmallTypes.nextOf;refine aa (bL (name:=Str.ofString "__next__") hit.typeIs dw (bO dw hit.typeIs gw ?_ (gt _)));show wpAny _ _ (field (.ref i) 0 >>= _) _ _ s;refine aa (cC ho hd (x:=.ref l) rfl ?_);show wpAny _ _ (if (bF l == cw)=true then _ else _) _ _ s;rw[if_neg (show ¬ ((bF l == cw)=true) from aO)];show wpAny _ _ (field (.ref i) 1 >>= _) _ _ s;refine aa (cC ho hd (x:=.int k 0) rfl ?_);show wpAny _ _ (seqItems? (.ref l) >>= _) _ _ s;refine aa (dE hol hdl ?_);simp only[b6,bN hk];refine aa (gG (aa (eN ho hd (by simp) ?_)));show wpAny _ _ (newExc (.type "StopIteration") [] >>= _) _ _ _;refine aa ?_;simp only[newExc,newTuple];refine aa (bo ?_ (by size_fits));refine aa (m:=firstArgMember _ _) (gW (a:=cw) (by first | rfl | (simp only[firstArgMember];rfl)) ?_);refine bo ?_ (by size_fits);simp only[raiseNew];refine aa (jL ?_);first | rw[show A.in1.handled=none from hh] | rw[hh]
  refine aa (ai (ka ?_));exact hE _ _ (((bR ..).extBut.push _).push _) ⟨_,aB _ rfl,rfl⟩
section
variable {prog:Program}{w:World}{A:Around}{E:Value->Shared->Prop}{s:Shared}{z TI TO i1 i2 l1 l2:Addr}{n1 n2 k:Nat}{P1 P2:Nat->Value->Prop}{S1 S2:Nat->Heap->Prop}{a b:Value}
theorem zip_item {Q:Value->Shared->Prop}(N1:NxIt prog w i1 l1 n1 P1 S1)(N2:NxIt prog w i2 l2 n2 P2 S2)(D:ZipApart z TI TO i1 i2 l1 l2)(hz:IsZip s.heap z TI TO .none)(hTI:IsPair s.heap TI (.ref i1) (.ref i2))(hTO:IsPair s.heap TO a b)
  (h1:S1 k s.heap) (h2:S2 k s.heap) (k1:k<n1) (k2:k<n2)
  (hQ:∀ h' x y,P1 k x->P2 k y->IsZip h' z TI TO (rawInt s.heap.objs.size)->IsPair h' TO x y->S1 (k+1) h'->S2 (k+1) h'->IsPair h' s.heap.objs.size x y->h'.objs.size=s.heap.objs.size+1 ->
   (∀ c o,c≠z->c≠TO->c≠i1->c≠i2->s.heap.get? c=some o->h'.get? c=some o)->Q (.ref s.heap.objs.size) {s with heap:=h'}) :
  wpAny (model prog w) A (Builtin.«zip.__next__» ⟨[.ref z],[]⟩) (fun fin s'=>∃ v,fin=.done (.ret v)/\Q v s') E s:=by
 show wpAny _ _ (field (.ref z) 2 >>= _) _ _ _;refine aa (cC hz rfl (x:=.bool false) rfl ?_);show wpAny _ _ (field (.ref z) 3 >>= _) _ _ _;refine aa (cC hz rfl (x:=.ref TI) rfl (aa (dE hTI rfl ?_)));show wpAny _ _ (Builtin.SmallTypes.ownedTupleIsFree (.ref z) >>= _) _ _ _;refine aa ?_;unfold Builtin.SmallTypes.ownedTupleIsFree;refine aa (cC hz rfl (x:=.none) rfl (ai ?_));simp only[if_true];refine aa (gG (aa (cC hz rfl (x:=.ref TO) rfl ?_)));refine aa (dS hz (by simp) fun g1 z1 b1=>?_);replace z1:IsZip g1 z TI TO .ellipsis:=z1;have f1:S1 k g1:=N1.frame _ _ _ h1 fun c o hc e=>b1.extBut c o (by rcases hc with rfl | rfl;exact D.i1z;exact D.l1z) e
 have f2:S2 k g1:=N2.frame _ _ _ h2 fun c o hc e=>b1.extBut c o (by rcases hc with rfl | rfl;exact D.i2z;exact D.l2z) e
 refine aa ?_;simp only[hG,List.zipIdx_nil,iA,iW];refine aa (aa (h9 ?_));show wpAny _ _ (Builtin.SmallTypes.nextOf (.ref i1) >>= _) _ _ _;refine aa (N1.item _ k _ _ _ k1 f1 fun x g2 px f1' b2=>ai ?_);have t2:IsPair g2 TO a b:=b2.extBut _ _ D.TOi1 (b1.extBut _ _ D.TOz hTO);refine aa (dE t2 rfl (aa (gK t2 fun g3 t3 b3=>?_)));replace t3:IsPair g3 TO x b:=t3;have f2':S2 k g3:=N2.frame _ _ _ f2 fun c o hc e=>b3.extBut c o (by rcases hc with rfl | rfl;exact D.TOi2.symm;exact D.l2TO) (b2.extBut c o (by rcases hc with rfl | rfl;exact D.i12.symm;exact D.l2i1) e)
 refine aa (jf (ai (aa (aa (h9 ?_)))));show wpAny _ _ (Builtin.SmallTypes.nextOf (.ref i2) >>= _) _ _ _;refine aa (N2.item _ k _ _ _ k2 f2' fun y g4 py f2'' b4=>ai ?_);have t4:IsPair g4 TO x b:=b4.extBut _ _ D.TOi2 t3;refine aa (dE t4 rfl (aa (gK t4 fun g5 t5 b5=>?_)));replace t5:IsPair g5 TO x y:=t5;refine aa (jf (ai (ai (aa (dE t5 rfl (aa (wpAny_newTuple ?_)))))));have hsz:g5.objs.size=s.heap.objs.size:=by rw[b5.1,b4.1,b3.1,b2.1,b1.1]
 have z5:IsZip g5 z TI TO .ellipsis:=b5.extBut _ _ D.TOz.symm (b4.extBut _ _ D.i2z.symm (b3.extBut _ _ D.TOz.symm (b2.extBut _ _ D.i1z.symm z1)));have kp5:∀ c o,c≠z->c≠TO->c≠i1->c≠i2->s.heap.get? c=some o->g5.get? c=some o:=fun c o c1 c2 c3 c4 e =>
  b5.extBut _ _ c2 (b4.extBut _ _ c4 (b3.extBut _ _ c2 (b2.extBut _ _ c3 (b1.extBut _ _ c1 e))))
 have zlt:z<g5.objs.size:=aC z5;show wpAny _ _ (Builtin.SmallTypes.ownedTupleHandOut (.ref z) (.ref g5.objs.size) >>= _) _ _ _;refine aa ?_;unfold Builtin.SmallTypes.ownedTupleHandOut;have z6:IsZip (g5.push {cls:=.type "tuple",data:=.seq #[x,y]}) z TI TO .ellipsis:=ag _ z5;refine aa (dS z6 (by simp) fun g7 z7 b7=>?_);replace z7:IsZip g7 z TI TO (rawInt g5.objs.size):=z7;refine dS z7 (by simp) fun g8 z8 b8=>?_
 replace z8:IsZip g8 z TI TO (rawInt g5.objs.size):=z8;have up:∀ c o,c≠z->g5.get? c=some o->g8.get? c=some o:=fun c o c1 e=>b8.extBut _ _ c1 (b7.extBut _ _ c1 (ag _ e))
 have t8:IsPair g8 g5.objs.size x y:=b8.extBut _ _ (fh zlt) (b7.extBut _ _ (fh zlt) (aB _ rfl));have s8:g8.objs.size=g5.objs.size+1:=by rw[b8.1,b7.1,cm]
 rw[hsz] at z8 t8 s8;refine ai ⟨_,rfl,?_⟩;show Q (.ref g5.objs.size) _;rw[hsz];refine hQ g8 x y px py z8 (up _ _ D.TOz t5) ?_ ?_ t8 s8 fun c o c1 c2 c3 c4 e=>up c o c1 (kp5 c o c1 c2 c3 c4 e)
 ·refine N1.frame _ _ _ f1' fun c o hc e=>up c o (by rcases hc with rfl | rfl;exact D.i1z;exact D.l1z) (b5.extBut c o ?_ (b4.extBut c o ?_ (b3.extBut c o ?_ e)))
  ·rcases hc with rfl | rfl;exact D.TOi1.symm;exact D.l1TO
  ·rcases hc with rfl | rfl;exact D.i12;exact D.l1i2
  ·rcases hc with rfl | rfl;exact D.TOi1.symm;exact D.l1TO
 ·refine N2.frame _ _ _ f2'' fun c o hc e=>up c o (by rcases hc with rfl | rfl;exact D.i2z;exact D.l2z) (b5.extBut c o ?_ e)
  rcases hc with rfl | rfl;exact D.TOi2.symm;exact D.l2TO
theorem zip_done {Q:Fin->Shared->Prop}(hh:A.handled=none)(N1:NxIt prog w i1 l1 n1 P1 S1)(N2:NxIt prog w i2 l2 n2 P2 S2)(D:ZipApart z TI TO i1 i2 l1 l2)(hz:IsZip s.heap z TI TO .none)(hTI:IsPair s.heap TI (.ref i1) (.ref i2))(hTO:IsPair s.heap TO a b)
  (h1:S1 k s.heap) (h2:S2 k s.heap) (hend:n1<=k\/n2<=k)
  (hE:∀ h' e,(∀ c o,c≠z->c≠TO->c≠i1->c≠i2->s.heap.get? c=some o->h'.get? c=some o)->(∃ o,h'.get? e=some o/\o.cls=.type "StopIteration")->E (.ref e) {s with heap:=h'}) :
  wpAny (model prog w) A (Builtin.«zip.__next__» ⟨[.ref z],[]⟩) Q E s:=by
 show wpAny _ _ (field (.ref z) 2 >>= _) _ _ _;refine aa (cC hz rfl (x:=.bool false) rfl ?_);show wpAny _ _ (field (.ref z) 3 >>= _) _ _ _;refine aa (cC hz rfl (x:=.ref TI) rfl (aa (dE hTI rfl ?_)));show wpAny _ _ (Builtin.SmallTypes.ownedTupleIsFree (.ref z) >>= _) _ _ _;refine aa ?_;unfold Builtin.SmallTypes.ownedTupleIsFree;refine aa (cC hz rfl (x:=.none) rfl (ai ?_));simp only[if_true];refine aa (gG (aa (cC hz rfl (x:=.ref TO) rfl ?_)));refine aa (dS hz (by simp) fun g1 z1 b1=>?_);replace z1:IsZip g1 z TI TO .ellipsis:=z1;have f1:S1 k g1:=N1.frame _ _ _ h1 fun c o hc e=>b1.extBut c o (by rcases hc with rfl | rfl;exact D.i1z;exact D.l1z) e
 have f2:S2 k g1:=N2.frame _ _ _ h2 fun c o hc e=>b1.extBut c o (by rcases hc with rfl | rfl;exact D.i2z;exact D.l2z) e
 refine aa ?_;simp only[hG,List.zipIdx_nil,iA,iW];refine aa (aa (h9 ?_));show wpAny _ _ (Builtin.SmallTypes.nextOf (.ref i1) >>= _) _ _ _;rcases cc k n1 with k1 | k1
 ·have k2:n2<=k:=hend.resolve_left (Nat.not_le.mpr k1);refine aa (N1.item _ k _ _ _ k1 f1 fun x g2 px f1' b2=>ai ?_);have t2:IsPair g2 TO a b:=b2.extBut _ _ D.TOi1 (b1.extBut _ _ D.TOz hTO);refine aa (dE t2 rfl (aa (gK t2 fun g3 t3 b3=>?_)));have f2':S2 k g3:=N2.frame _ _ _ f2 fun c o hc e=>b3.extBut c o (by rcases hc with rfl | rfl;exact D.TOi2.symm;exact D.l2TO) (b2.extBut c o (by rcases hc with rfl | rfl;exact D.i12.symm;exact D.l2i1) e)
  refine aa (jf (ai (aa (aa (h9 ?_)))));show wpAny _ _ (Builtin.SmallTypes.nextOf (.ref i2) >>= _) _ _ _;refine aa (N2.done _ k _ _ _ hh k2 f2' fun g4 e b4 he=>?_);obtain⟨oe,hoe,hce⟩:=he;have z4:IsZip g4 z TI TO .ellipsis:=b4 _ _ D.i2z.symm (b3.extBut _ _ D.TOz.symm (b2.extBut _ _ D.i1z.symm z1));have hez:e≠z:=fun x=>by subst x;rw[z4] at hoe;cases hoe;simp at hce
  refine dS z4 (by simp) fun g5 _ b5=>hE g5 e (fun c o c1 c2 c3 c4 x=>b5.extBut _ _ c1 (b4 _ _ c4 (b3.extBut _ _ c2 (b2.extBut _ _ c3 (b1.extBut _ _ c1 x))))) ⟨oe,b5.extBut _ _ hez hoe,hce⟩
 ·refine aa (N1.done _ k _ _ _ hh k1 f1 fun g2 e b2 he=>?_);obtain⟨oe,hoe,hce⟩:=he;have z2:IsZip g2 z TI TO .ellipsis:=b2 _ _ D.i1z.symm z1;have hez:e≠z:=fun x=>by subst x;rw[z2] at hoe;cases hoe;simp at hce
  refine dS z2 (by simp) fun g3 _ b3=>hE g3 e (fun c o c1 _ c3 _ x=>b3.extBut _ _ c1 (b2 _ _ c3 (b1.extBut _ _ c1 x))) ⟨oe,b3.extBut _ _ hez hoe,hce⟩
theorem pyNext_zip {Q:Option Value->Shared->Prop}(N1:NxIt prog w i1 l1 n1 P1 S1)(N2:NxIt prog w i2 l2 n2 P2 S2)(D:ZipApart z TI TO i1 i2 l1 l2)(hz:IsZip s.heap z TI TO .none)(hTI:IsPair s.heap TI (.ref i1) (.ref i2))(hTO:IsPair s.heap TO a b)
  (h1:S1 k s.heap) (h2:S2 k s.heap) (k1:k<n1) (k2:k<n2)
  (hQ:∀ h' x y,P1 k x->P2 k y->IsZip h' z TI TO (rawInt s.heap.objs.size)->IsPair h' TO x y->S1 (k+1) h'->S2 (k+1) h'->IsPair h' s.heap.objs.size x y->h'.objs.size=s.heap.objs.size+1 ->
   (∀ c o,c≠z->c≠TO->c≠i1->c≠i2->s.heap.get? c=some o->h'.get? c=some o)->Q (some (.ref s.heap.objs.size)) {s with heap:=h'}):wpAny (model prog w) A (pyNext (.ref z)) Q E s:=by
 have hT:s.TypeIs (.ref z) "zip":=⟨_,hz,rfl⟩
 unfold pyNext
 exact aa (fb (bL (name:=Str.ofString "__next__") hT eV (bO eV hT iT
  (zip_item N1 N2 D hz hTI hTO h1 h2 k1 k2 fun h' x y px py a1 a2 a3 a4 a5 a6 a7=>ai (hQ h' x y px py a1 a2 a3 a4 a5 a6 a7)) (iL _))))
theorem pyNext_zip_end {Q:Option Value->Shared->Prop}(hh:A.handled=none)(N1:NxIt prog w i1 l1 n1 P1 S1)(N2:NxIt prog w i2 l2 n2 P2 S2)(D:ZipApart z TI TO i1 i2 l1 l2)(hz:IsZip s.heap z TI TO .none)(hTI:IsPair s.heap TI (.ref i1) (.ref i2))(hTO:IsPair s.heap TO a b)
  (h1:S1 k s.heap) (h2:S2 k s.heap) (hend:n1<=k\/n2<=k)
  (hQ:∀ h',(∀ c o,c≠z->c≠TO->c≠i1->c≠i2->s.heap.get? c=some o->h'.get? c=some o)->Q none {s with heap:=h'}):wpAny (model prog w) A (pyNext (.ref z)) Q E s:=by
 have hT:s.TypeIs (.ref z) "zip":=⟨_,hz,rfl⟩
 unfold pyNext
 refine aa (fb (bL (name:=Str.ofString "__next__") hT eV (bO eV hT iT
  (zip_done hh N1 N2 D hz hTI hTO h1 h2 hend fun h' e hk he=>?_) (iL _))))
 obtain⟨o,ho,hc⟩:=he;refine aa (fB (T:="StopIteration") (b:=true) ⟨o,ho,hc⟩ isSubtype_stop ?_);exact ai (hQ _ hk)
end
def zh (h:Heap)(l1 l2:Addr):Heap:=((((h.push {cls:=.type "tuple_iterator",data:=.fields #[.ref l1,.int 0 0]}).push {cls:=.type "tuple_iterator",data:=.fields #[.ref l2,.int 0 0]}).push {cls:=.type "tuple",data:=.seq #[.ref h.objs.size,.ref (h.objs.size+1)]}).push
 {cls:=.type "tuple",data:=.seq #[.none,.none]}).push {cls:=.type "zip",data:=.fields #[.none,.bool false,.bool false,.ref (h.objs.size+2),.ref (h.objs.size+3)]}
theorem zip_new (l1 l2:Addr)(xs ys:Array Value) :
  Meets (Builtin.«zip.__new__» ⟨[.type "zip",.ref l1,.ref l2],[]⟩) (fun _ R s=>s.heap.IsTuple l1 xs/\s.heap.IsTuple l2 ys/\R (.ok (.ret (.ref (s.heap.objs.size+4)))) {s with heap:=zh s.heap l1 l2}) :=
 .of_wp fun prog w A R s h=>by
  obtain⟨hp,g,d,tk,os⟩:=s;obtain⟨hl1,hl2,h⟩:=h;have hsub:=sub_zip;have hL1:Heap.IsTuple (Shared.heap ⟨hp,g,d,tk,os⟩) l1 xs:=hl1;have hL2:Heap.IsTuple (Shared.heap ⟨hp.push {cls:=.type "tuple_iterator",data:=.fields #[.ref l1,.int 0 0]},g,d,tk,os⟩) l2 ys:=hl2.at fun o e=>ag _ e
  wp_walk using eZ hL1,eZ hL2
  refine⟨_,rfl,?_⟩;unfold zh at h;simp only[cm] at h ⊢;exact h
section
variable {prog:Program}{w:World}{A:Around}{E:Value->Shared->Prop}{s:Shared}
theorem call_zipT {l1 l2:Addr}{xs ys:Array Value}{Q:Value->Shared->Prop}(hl1:s.heap.IsTuple l1 xs)(hl2:s.heap.IsTuple l2 ys)
  (h:∀ h',IsZip h' (s.heap.objs.size+4) (s.heap.objs.size+2) (s.heap.objs.size+3) .none->IsPair h' (s.heap.objs.size+2) (.ref s.heap.objs.size) (.ref (s.heap.objs.size+1)) ->
   IsPair h' (s.heap.objs.size+3) .none .none->h'.IsTupleIter s.heap.objs.size l1 0->h'.IsTupleIter (s.heap.objs.size+1) l2 0 ->
   (∀ c o,s.heap.get? c=some o->h'.get? c=some o)->Q (.ref (s.heap.objs.size+4)) {s with heap:=h'}) :
  wpAny (model prog w) A (call (.type "zip") [.ref l1,.ref l2]) Q E s:=by
 have kp:∀ c o,s.heap.get? c=some o->(zh s.heap l1 l2).get? c=some o:=fun c o x=>ag _ (ag _ (ag _ (ag _ (ag _ x))))
 have at':∀ {h:Heap} {o:Obj} {n:Nat},h.objs.size=n->o.isFreed=false->(h.push o).get? n=some o:=fun e f=>by subst e;exact aB _ f
 have g1:(zh s.heap l1 l2).get? s.heap.objs.size=some {cls:=.type "tuple_iterator",data:=.fields #[.ref l1,.int 0 0]}:=ag _ (ag _ (ag _ (ag _ (aB _ rfl))));have g2:(zh s.heap l1 l2).get? (s.heap.objs.size+1)=some {cls:=.type "tuple_iterator",data:=.fields #[.ref l2,.int 0 0]}:=ag _ (ag _ (ag _ (at' (by simp[cm]) rfl)));have g3:(zh s.heap l1 l2).get? (s.heap.objs.size+2)=some {cls:=.type "tuple",data:=.seq #[.ref s.heap.objs.size,.ref (s.heap.objs.size+1)]}:=ag _ (ag _ (at' (by simp[cm]) rfl));have g4:(zh s.heap l1 l2).get? (s.heap.objs.size+3)=some {cls:=.type "tuple",data:=.seq #[.none,.none]}:=ag _ (at' (by simp[cm]) rfl);have g5:(zh s.heap l1 l2).get? (s.heap.objs.size+4)=some {cls:=.type "zip",data:=.fields #[.none,.bool false,.bool false,.ref (s.heap.objs.size+2),.ref (s.heap.objs.size+3)]}:=at' (by simp[cm]) rfl;refine callType_new PySem.F.called_zip (by decide) (PySem.F.typeCall_zip_2 _ _) (PySem.F.newCall_zip_2 _ _) (fun obj=>PySem.F.args_object_init_3 obj _ _) PySem.F.entry_zip_new (zip_new l1 l2 xs ys) ⟨hl1,hl2,?_⟩;exact⟨⟨_,g5,rfl⟩,h _ g5 g3 g4 ⟨_,g1,rfl,rfl⟩ ⟨_,g2,rfl,rfl⟩ kp⟩
end
end Srt
end
section
namespace L2
open PySem PySem.Spec PyProof.Rows
def Itz (K:ae)(a b:Addr):It :=
  ⟨fun i H=>∃ xs ys x y,SqT K H a xs/\SqT K H b ys/\xs[i]?=some x/\ys[i]?=some y,
   fun i H v H'=>∃ q x y,v=.ref q/\H q=none/\H'=upd H q (.tup [x,y])/\(∀ xs,SqT K H a xs->xs[i]?=some x)/\∀ ys,SqT K H b ys->ys[i]?=some y,
   fun i H=>∃ xs ys,SqT K H a xs/\SqT K H b ys/\(xs.length<=i\/ys.length<=i)⟩
def b2P (z TI TO i1 i2 a b:Addr)(i:Nat)(h:Heap):Prop:=IsZip h z TI TO .none/\IsPair h TI (.ref i1) (.ref i2)/\(∃ u v,IsPair h TO u v)/\h.IsTupleIter i1 a i/\h.IsTupleIter i2 b i
theorem a6W {P:Program}{w:World}{K:ae}{elts:List Expr}{k:Nat}{pos:Pos}{z TI TO i1 i2 a b:Addr}(D:ZipApart z TI TO i1 i2 a b):a4y P w K (.Tuple elts k pos) (Itz K a b) [z,TI,TO,i1,i2] z (b2P z TI TO i1 i2 a b) where
 mem:=by simp
 obj:=fun i h st c hc=>by
  obtain⟨hz,hTI,⟨u,v,hTO⟩,⟨o1,e1,c1,d1⟩,⟨o2,e2,c2,d2⟩⟩:=st;simp only[aD,aW,or_false] at hc;rcases hc with rfl | rfl | rfl | rfl | rfl
  ·exact⟨_,hz,fun v e=>by
    have e':jH _=ip v:=e
    cases e'⟩
  ·exact⟨_,hTI,fun v e=>by
    have e':Data.seq _ _=ip v:=e
    cases e'⟩
  ·exact⟨_,hTO,fun v e=>by
    have e':Data.seq _ _=ip v:=e
    cases e'⟩
  ·exact⟨o1,e1,fun v e=>by rw[d1] at e;cases e⟩
  ·exact⟨o2,e2,fun v e=>by rw[d2] at e;cases e⟩
 keep:=fun i h h' st kp=>by
  obtain⟨hz,hTI,⟨u,v,hTO⟩,h1,h2⟩:=st;exact⟨kp z (by simp) _ hz,kp TI (by simp) _ hTI,⟨u,v,kp TO (by simp) _ hTO⟩,h1.at fun o e=>kp i1 (by simp) o e,h2.at fun o e=>kp i2 (by simp) o e⟩
 item:=by
  intro X hP hw hK hc i pins s σ H E I hf st hg;subst hP hw hK;obtain⟨xs,ys,x,y,qx,qy,hx,hy⟩:=hg;obtain⟨its,rv,p,_⟩:=I.tuple qx;obtain⟨jts,rw',p',_⟩:=I.tuple qy;obtain⟨u,hu,ru⟩:=rv.get hx;obtain⟨v,hv,rv'⟩:=rw'.get hy;obtain⟨hz,hTI,⟨c0,d0,hTO⟩,h1,h2⟩:=id st;have hlu:=(aA.mp hu).1;have hlv:=(aA.mp hv).1;have old:∀ c∈[z,TI,TO,i1,i2],c<s.heap.objs.size:=fun c hc=>by
   simp only[aD,aW,or_false] at hc;rcases hc with rfl | rfl | rfl | rfl | rfl
   ·exact aC hz
   ·exact aC hTI
   ·exact aC hTO
   ·obtain⟨_,q,_⟩:=h1;exact aC q
   ·obtain⟨_,q,_⟩:=h2;exact aC q
  refine Srt.pyNext_zip (k:=i) (Srt.nx_tup (items:=its.toArray) D.l1i1) (Srt.nx_tup (items:=jts.toArray) D.l2i2) D hz hTI hTO ⟨h1,p⟩ ⟨h2,p'⟩ (by simpa using hlu) (by simpa using hlv) fun g1 xv yv px py z1 t1 n1 n2 tp sz kp=>⟨_,rfl,?_⟩
  have exv:xv=u:=by
   have hp1:its.toArray[i]?=some xv:=px;rw[ff,hu] at hp1;exact (aG hp1).symm
  have eyv:yv=v:=by
   have hp2:jts.toArray[i]?=some yv:=py;rw[ff,hv] at hp2;exact (aG hp2).symm
  subst exv;subst eyv;refine wpAny_letOwnedTupleGo_zip (s:={s with heap:=g1}) z1 fun g2 z2 b2=>?_
  have b2':∀ c o,c≠z->g1.get? c=some o->g2.get? c=some o:=fun c o hc q=>(b2.2 c hc).trans q
  have I1:Inv X pins σ (upd H s.heap.objs.size (.tup [x,y])) {s with heap:=s.heap.push {cls:=.type "tuple",data:=.seq #[xv,yv]}} :=
   I.laid (t':=s.toks) (o:=.tup [x,y]) (fun b o q=>ag _ q) (ao _) ⟨by simp[sizeLine_eq],[xv,yv],.cons ru (.cons rv' .nil),⟨_,aB _ rfl,rfl,_,rfl⟩⟩
  have hfr:∀ c∈[z,TI,TO,i1,i2],X9 X pins (upd H s.heap.objs.size (.tup [x,y])) c:=by
   intro c hc;obtain⟨f0,f⟩:=hf c hc;exact⟨by rw[B2 (aP (old c hc))];exact f0,f⟩
  have I2:Inv X pins σ (upd H s.heap.objs.size (.tup [x,y])) {s with heap:=g2}:=by
   refine Y2 (t':=s.toks) (s:={s with heap:=s.heap.push {cls:=.type "tuple",data:=.seq #[xv,yv]}}) (L:=[z,TI,TO,i1,i2]) I1 (fun c o hc q=>?_) hfr;simp only[aD,aW,or_false,not_or] at hc;refine b2' c o hc.1 ?_;by_cases hcT:c=s.heap.objs.size
   ·subst hcT;rw[show (s.heap.push {cls:=.type "tuple",data:=.seq #[xv,yv]}).get? s.heap.objs.size=some {cls:=.type "tuple",data:=.seq #[xv,yv]} from aB _ rfl] at q;cases q;exact tp
   ·have hlt:c<s.heap.objs.size+1:=by have:=aC q;rw[cm] at this;exact this
    have hlt2:c<s.heap.objs.size:=jT (dW hlt) hcT;exact kp c o hc.1 hc.2.2.1 hc.2.2.2.1 hc.2.2.2.2 (by rw[<- q];exact (a3V hlt2).symm)
  refine⟨.ref s.heap.objs.size,_,I2,rfl,⟨s.heap.objs.size,x,y,rfl,I.fresh,rfl,fun zs h=>by rw[I.tuple_inj h qx];exact hx,fun zs h=>by rw[I.tuple_inj h qy];exact hy⟩,⟨z2,b2' _ _ D.TIz (kp _ _ D.TIz D.TITO D.TIi1 D.TIi2 hTI),⟨_,_,b2' _ _ D.TOz t1⟩,n1.1.at fun o q=>b2' _ o D.i1z q,n2.1.at fun o q=>b2' _ o D.i2z q⟩,fun c hc=>(hfr c hc).1⟩
 done:=by
  intro X hP hw hK hc i pins s σ H E I hf st hg;subst hP hw hK;obtain⟨xs,ys,qx,qy,hend⟩:=hg;obtain⟨its,rv,p,_⟩:=I.tuple qx;obtain⟨jts,rw',p',_⟩:=I.tuple qy;obtain⟨hz,hTI,⟨c0,d0,hTO⟩,h1,h2⟩:=id st;have l1:=rv.length;have l2:=rw'.length;refine Srt.pyNext_zip_end (k:=i) (I.ok.hd hc) (Srt.nx_tup (items:=its.toArray) D.l1i1) (Srt.nx_tup (items:=jts.toArray) D.l2i2) D hz hTI hTO ⟨h1,p⟩ ⟨h2,p'⟩ (by simp;omega) fun g kp=>⟨rfl,?_⟩
  refine Y2 (t':=s.toks) (L:=[z,TI,TO,i1,i2]) I (fun c o hc q=>?_) hf;simp only[aD,aW,or_false,not_or] at hc;exact kp c o hc.1 hc.2.2.1 hc.2.2.2.1 hc.2.2.2.2 q
 self:=fun _ _ _ _ _ st h=>wpAny_pyIter_zip st.1 h
section
variable {X:Cx}{K:ae}{elts:List Expr}{k:Nat}{tpos p pos:Pos}{l m:Expr}{t:TA}{y:Str}
def b2D (K:ae)(t:TA):TI:=fun σ H R=>t σ H fun vs H1=>∃ a b,vs=[.ref a,.ref b]/\(∃ xs,SqT K H1 a xs)/\(∃ ys,SqT K H1 b ys)/\R (Itz K a b) H1
theorem a7r (hg:Gl X y)(hm:X.mg y=none)(hv:bootBuiltins y=some (.type "zip"))(ha:PA X [l,m] t)(hn:y≠"__name__":=by decide)(hdb:(y == ("__debug__":Str))=false:=by decide)
  (he:starEach [l,m] X.env=(false,eval l X.env)::starEach [m] X.env:=by rfl) (hpl:(backTo pos (starEach [m] X.env)).any (·.1)=false:=by rfl) (hK:X.K=K:=by rfl):PI X (.Tuple elts k tpos) (.Call (.Name y p) [l,m] [] pos) (b2D K t):=by
 subst hK;intro pins s σ H R I h;refine cD (S4 I hg hm hv ?_ hn hdb);refine bV (thn (ha pos pins s σ H _ I h) fun us s1 ⟨vs,H1,I1,r1,a,b,e1,⟨xs,hq⟩,⟨ys,hq'⟩,q⟩=>?_) he hpl;subst e1;obtain⟨u,v,rfl,rx,ry⟩:=a5k r1;cases rx;cases ry;obtain⟨its,rv,pl,_⟩:=I1.tuple hq;obtain⟨jts,rw',pl',_⟩:=I1.tuple hq';have la:a<s1.heap.objs.size:=by obtain⟨_,e,_⟩:=pl;exact aC e
 have lb:b<s1.heap.objs.size:=by obtain⟨_,e,_⟩:=pl';exact aC e
 refine Srt.call_zipT pl pl' fun h' hz hTI hTO h1 h2 kp=>wpAny_pyIter_zip (s:={s1 with heap:=h'}) hz ?_
 have ne:∀ {i j:Nat},i≠j->s1.heap.objs.size+i≠s1.heap.objs.size+j:=fun hij e=>hij (Nat.add_left_cancel e)
 have na:∀ {c:Addr} (i:Nat),c<s1.heap.objs.size->c≠s1.heap.objs.size+i:=fun i hc=>aP (bh hc (ik _ _))
 have D:ZipApart (s1.heap.objs.size+4) (s1.heap.objs.size+2) (s1.heap.objs.size+3) (s1.heap.objs.size+0) (s1.heap.objs.size+1) a b :=
  ⟨ne (by decide),ne (by decide),ne (by decide),ne (by decide),ne (by decide),ne (by decide),ne (by decide),ne (by decide),ne (by decide),ne (by decide),na 4 la,na 3 la,na 0 la,na 1 la,na 4 lb,na 3 lb,na 0 lb,na 1 lb⟩
 refine⟨s1.heap.objs.size+4,_,_,_,H1,rfl,I1.kept (t':=s1.toks) kp,a6W D,⟨hz,hTI,⟨_,_,hTO⟩,h1,h2⟩,fun c hc=>?_,q⟩;simp only[aD,aW,or_false] at hc;have fr:∀ i:Nat,X9 X pins H1 (s1.heap.objs.size+i):=fun i=>I1.fpOk (ik _ _) (I1.hok.fresh (ik _ _))
 rcases hc with rfl | rfl | rfl | rfl | rfl
 ·exact fr 4
 ·exact fr 2
 ·exact fr 3
 ·exact fr 0
 ·exact fr 1
end
theorem a9L {K:ae}{a b:Addr}{xs ys:List V}{g:TG}{tb:TS}{D:U2}{σ:St}{H:Hp}(Pv:Nat->St->Hp->Prop)(h0:Pv 0 σ H)(hl:ys.length<=xs.length)(hx:∀ i σ H,i<=ys.length->Pv i σ H->SqT K H a xs/\SqT K H b ys)
  (hs:∀ i x y σ H q,xs[i]?=some x->ys[i]?=some y->Pv i σ H->H q=none->g (.ref q) σ (upd H q (.tup [x,y])) fun σ2 H2=>tb {D with nx:=Pv (i+1),ct:=Pv (i+1),bk:=D.nx} σ2 H2) (hd:∀ σ H,Pv ys.length σ H->D.nx σ H) :
  ∃ W:Nat->Nat->St->Hp->Prop,(∃ m,W 0 m σ H)/\∀ i m σ H,W i m σ H ->
   ((Itz K a b).stop i H/\D.nx σ H)\/((Itz K a b).go i H/\∃ N:St->Hp->Prop,(∀ σ' H',N σ' H'->∃ m',m'<m/\W (i+1) m' σ' H')/\∀ x H',(Itz K a b).yld i H x H'->g x σ H' fun σ2 H2=>tb {D with nx:=N,ct:=N,bk:=D.nx} σ2 H2):=by
 refine⟨fun i m σ H=>m=ys.length-i/\i<=ys.length/\Pv i σ H,⟨_,rfl,bf _,h0⟩,?_⟩;rintro i m σ H ⟨rfl,hi,p⟩;obtain⟨q1,q2⟩:=hx i σ H hi p;by_cases hlt:i<ys.length
 ·have ex:xs[i]?=some xs[i]:=aq (by omega);have ey:ys[i]?=some ys[i]:=aq hlt;refine .inr ⟨⟨xs,ys,_,_,q1,q2,ex,ey⟩,Pv (i+1),fun σ' H' p'=>⟨_,by omega,rfl,hlt,p'⟩,?_⟩;rintro v H' ⟨q,x,y,rfl,hn,rfl,y1,y2⟩;exact hs i x y σ H q (y1 xs q1) (y2 ys q2) p hn
 ·have e:i=ys.length:=by omega
  subst e;exact .inl ⟨⟨xs,ys,q1,q2,.inr (ao _)⟩,hd σ H p⟩
end L2
end
section
local macro_rules | `(tactic| omega)=>`(tactic| first | lia | omega +splitDisjunctions)
namespace L2
open PySem
theorem b2U {a b:Int}(h:a≠b):mm a b=mm b a:=by
 unfold mm;by_cases h1:b<a
 ·rw[if_pos h1,if_neg (show ¬ b>a by omega),if_neg (show ¬ a<b by omega),if_pos (show a>b by omega)]
 ·rw[if_neg h1,if_pos (show b>a by omega),if_pos (show a<b by omega),if_neg (show ¬ a>b by omega)]
theorem a7S {a b:Int}(h:a≠b):(b<a/\mm a b=(b,a))\/(a<b/\mm a b=(a,b)):=by
 unfold mm;by_cases h1:b<a
 ·exact .inl ⟨h1,by rw[if_pos h1,if_neg (show ¬ b>a by omega)]⟩
 ·exact .inr ⟨by omega,by rw[if_neg h1,if_pos (show b>a by omega)]⟩
theorem a1l {n:Int}{us:List (Int×Int)}(hok:P4 n us){v x:Int}:x∈nb us v↔(v,x)∈us\/(x,v)∈us:=by
 rw[X0];constructor
 ·rintro (h | ⟨h,_⟩)
  ·exact .inl h
  ·exact .inr h
 ·rintro (h | h)
  ·exact .inl h
  ·exact .inr ⟨h,.inl (by have:=hok _ h;dsimp only at this;omega)⟩
end L2
end
section
namespace STab
open PySem
def pc (c:Nat):Int:=reduceHash (Builtin.Tuple.tupleHashOf [hashInt ((c / 60:Nat):Int),hashInt ((c % 60:Nat):Int)])
def pr (c:Nat):Nat:=(pc c % 26326).toNat
def bits:Nat->Nat->Bool
 | 0,_=>true
 | c+1,a=>!a.testBit (pr c) && bits c (a ||| 1 <<< pr c)
end STab
end
section
namespace L2
open PySem PySem.Spec PyProof.Rows
inductive Pl (H:Hp):V->String->Prop where
 | non:Pl H .non "NoneType"
 | bl (x:Bool):Pl H (.bl x) "bool"
 | int (i:Int):Pl H (.int i) "int"
 | str (x:Str):Pl H (.str x) "str"
 | lst {a:Addr} {xs:List V} (e:H a=some (.lst xs)):Pl H (.ref a) "list"
 | tup {a:Addr} {xs:List V} (e:H a=some (.tup xs)):Pl H (.ref a) "tuple"
 | dK {a:Addr} {kvs:List (Key×V)} (e:H a=some (.dK kvs)):Pl H (.ref a) "dict"
 | dT {a:Addr} {kvs:List (List Key×V)} (e:H a=some (.dT kvs)):Pl H (.ref a) "dict"
theorem Pl.ty {K:ae}{H:Hp}{x:V}{T:String}(p:Pl H x T):a0m K H x (.type T):=by
 cases p with
 | non=>exact .non
 | bl x=>exact .bl x
 | int i=>exact .int i
 | str x=>exact .str x
 | lst e=>exact .lst e
 | tup e=>exact .tup e
 | dK e=>exact .dK e
 | dT e=>exact .dT e
def a1t (T c:String):Bool:=T == c || (T == "bool" && c == "int")
theorem K3 {K:ae}{H:Hp}{x:V}{T:String}(p:Pl H x T){c:String}(hc:c="int"\/c="bool"\/c="tuple"):ia K (.type T) (.type c)=some (a1t T c):=by
 rcases hc with rfl | rfl | rfl<;>cases p<;>rfl
def isI:V->Bool
 | .int _=>true
 | _=>false
theorem a8b {H:Hp}{x:V}{T:String}(p:Pl H x T):(a1t T "int" && !a1t T "bool")=isI x:=by cases p<;>rfl
def T0 (x:V)(lo hi:Int):Bool:=match x with
 | .int i=>decide (lo<=i) && decide (i<=hi)
 | _=>false
theorem a3l {x:V}{lo hi:Int}(h:isI x=false):T0 x lo hi=false:=by cases x<;>first | rfl | cases h
theorem a5R {x:V}(h:isI x=true):∃ i,x=.int i:=by cases x<;>first | exact⟨_,rfl⟩ | cases h
def a5r:Sp:=fun vs H Q _=>∃(x:V) (T:String),vs=[x]/\Pl H x T/\Q (.bl (isI x)) H
def a3w:Sp:=fun vs H Q _=>∃(x:V) (T:String) (lo hi:Int),vs=[x,.int lo,.int hi]/\Pl H x T/\Q (.bl (T0 x lo hi)) H
end L2
end
section
namespace L2
open PySem PySem.Spec PyProof.Rows
def PlD (H:Hp):Nat->V->Prop
 | 0,y=>∃ T,Pl H y T
 | m+1,y=>(∃ T,Pl H y T)/\∀ a ys,y=.ref a->H a=some (.tup ys)->∀ z∈ys,PlD H m z
theorem Pl.mono {H H':Hp}{y:V}{T:String}(s:A6 H H')(p:Pl H y T):Pl H' y T:=by
 cases p with
 | non=>exact .non
 | bl x=>exact .bl x
 | int i=>exact .int i
 | str x=>exact .str x
 | lst e=>exact .lst (s _ _ e)
 | tup e=>exact .tup (s _ _ e)
 | dK e=>exact .dK (s _ _ e)
 | dT e=>exact .dT (s _ _ e)
theorem Pl.back {H H':Hp}{a:Addr}{ys:List V}{T:String}(s:A6 H H')(p:Pl H (.ref a) T)(e:H' a=some (.tup ys)):H a=some (.tup ys):=by
 cases p with
 | lst e2=>have:=s _ _ e2;rw[e] at this;cases this
 | tup e2=>have:=s _ _ e2;rw[e] at this;cases this;exact e2
 | dK e2=>have:=s _ _ e2;rw[e] at this;cases this
 | dT e2=>have:=s _ _ e2;rw[e] at this;cases this
theorem PlD.pl {H:Hp}{m:Nat}{y:V}(h:PlD H m y):∃ T,Pl H y T:=by
 cases m with
 | zero=>exact h
 | succ m=>exact h.1
theorem PlD.mono {H H':Hp}(s:A6 H H'):∀ {m:Nat} {y:V},PlD H m y->PlD H' m y
 | 0,y,⟨T,p⟩=>⟨T,p.mono s⟩
 | m+1,y,⟨⟨T,p⟩,h⟩=>⟨⟨T,p.mono s⟩,fun a ys e ea z hz=>by
  subst e
  exact PlD.mono s (h a ys rfl (p.back s ea) z hz)⟩
end L2
end
section
namespace L2
open PySem PySem.Spec PyProof.Rows
structure Bt3 (mg:Str->Option Value):Prop where
 sum:mg "sum"=none
 any:mg "any"=none
end L2
end
section
namespace L2
open PySem PySem.Spec PyProof.Rows
section
variable {X:Cx}
structure Bt4 (mg:Str->Option Value):Prop where
 repr:mg "repr"=none
end
end L2
end
section
namespace L2
open PySem PySem.Spec PyProof.Rows
section
variable {k m c:Nat}{d:PyData}{ds:List PyData}
def b2V (n:Int)(ts:List (Int×Int)):PyData:=.tuple [.int n,.tuple ((ts.map tl).map L2.tI)]
theorem R6.dt {K:ae}{H:Hp}{w:Addr}{n:Int}{ts:List (Int×Int)}(h:R6 H w n ts):Dt K H (.ref w) (b2V n ts):=by
 obtain⟨q,e,ht⟩:=h;exact .tup (SqT.of e) (.cons (.int n) (.cons ht.ls.dt .nil))
theorem Y4.dt {K:ae}{H:Hp}{w:Addr}{ts:List (Int×Int)}(h:Y4 H w ts):Dt K H (.ref w) (.tuple ((ts.map tl).map L2.tI)):=h.ls.dt
end
end L2
end
section
namespace L2
open PySem PySem.Spec PyProof.Rows
def kD:Key->PyData
 | .inl i=>.int i
 | .inr x=>.str x
def sD:V->PyData
 | .bl b=>.bool b
 | .int i=>.int i
 | .str x=>.str x
 | _=>.none
def isS:V->Bool
 | .non=>true
 | .bl _=>true
 | .int _=>true
 | .str _=>true
 | _=>false
mutual
def noL:PyData->Bool
 | .list _=>false
 | .tuple xs=>a2R xs
 | .none=>true
 | .bool _=>true
 | .int _=>true
 | .str _=>true
 | .dict _=>true
def a2R:List PyData->Bool
 | []=>true
 | x::r=>noL x && a2R r
end
mutual
def sOk:PyData->Bool
 | .list xs=>a2B xs
 | .tuple xs=>a2B xs
 | .none=>true
 | .bool _=>true
 | .int _=>true
 | .str x=>PyData.strOk x
 | .dict _=>true
def a2B:List PyData->Bool
 | []=>true
 | x::r=>sOk x && a2B r
end
mutual
inductive Dd (H:Hp):V->PyData->Prop
 | sc {x:V}:isS x=true->Dd H x (sD x)
 | tup {a:Addr} {xs:List V} {ds:List PyData}:H a=some (.tup xs)->Dds H xs ds->Dd H (.ref a) (.tuple ds)
 | lst {a:Addr} {xs:List V} {ds:List PyData}:H a=some (.lst xs)->Dds H xs ds->Dd H (.ref a) (.list ds)
 | dct {a:Addr} {kvs:List (Key×V)}:H a=some (.dK kvs)->(∀ kv∈kvs,isS kv.2=true)->Dd H (.ref a) (.dict (kvs.map fun kv=>(kD kv.1,sD kv.2)))
 | dc1 {a:Addr} {i:Int} {x:V} {d:PyData}:H a=some (.dK [(.inl i,x)])->Dd H x d->noL d=true->Dd H (.ref a) (.dict [(.int i,d)])
inductive Dds (H:Hp):List V->List PyData->Prop
 | nil:Dds H [] []
 | cons {x:V} {d:PyData} {xs:List V} {ds:List PyData}:Dd H x d->Dds H xs ds->Dds H (x::xs) (d::ds)
end
mutual
theorem Dd.same {H H':Hp}(s:A6 H H'):∀ {x:V} {d:PyData},Dd H x d->Dd H' x d
 | _,_,.sc h=>.sc h
 | _,_,.tup e h=>.tup (s _ _ e) (Dds.same s h)
 | _,_,.lst e h=>.lst (s _ _ e) (Dds.same s h)
 | _,_,.dct e h=>.dct (s _ _ e) h
 | _,_,.dc1 e h n=>.dc1 (s _ _ e) (Dd.same s h) n
theorem Dds.same {H H':Hp}(s:A6 H H'):∀ {xs:List V} {ds:List PyData},Dds H xs ds->Dds H' xs ds
 | _,_,.nil=>.nil
 | _,_,.cons h t=>.cons (Dd.same s h) (Dds.same s t)
end
section
variable {X:Cx}{pins:List (Addr×Obj)}{σ:St}{H:Hp}{s:Shared}
theorem a3I {h:Heap}{x:V}{u:Value}(hs:isS x=true)(r:F0 x u):Reads h u (sD x) []:=by
 cases x with
 | non=>cases (show u=cw from r);exact .none
 | bl b=>cases (show u=aT b from r);exact .bool b
 | int i=>obtain⟨t,rfl⟩:=(show ∃ t,u=cG i t from r);exact .int i t
 | str x=>obtain⟨t,rfl⟩:=(show ∃ t,u=ge x t from r);exact .str x t
 | _=>cases hs
theorem a2k {P:Program}{w:World}{h:Heap}:∀ {es:List DictEntry} {vs:List (Key×Value)} {kvs:List (Key×V)},Pairs (L1 P w) es vs->KV kvs vs->(∀ kv∈kvs,isS kv.2=true) ->
  ReadsAll h (es.map (·.key)) (kvs.map fun kv=>kD kv.1) []/\ReadsAll h (es.map (·.val)) (kvs.map fun kv=>sD kv.2) []
 | _,_,_,.nil,.nil,_=>⟨.nil,.nil⟩
 | _,_,_,.cons (e:=e) hk hv t,.cons (a:=kv) r q,hs=>by
  obtain⟨h1,h2⟩:=a2k t q fun x hx=>hs x (aM _ hx)
  have a1:Reads h e.key (kD kv.1) []:=by
   have hk':=hk;rw[<- r.1] at hk';rcases K2 hk' with ⟨i,t,e1,e2⟩ | ⟨x,t,e1,e2⟩
   ·rw[e1,e2];exact .int i t
   ·rw[e1,e2];exact .str x t
  have a2:Reads h e.val (sD kv.2) []:=by rw[hv];exact a3I (hs kv (aN ..)) r.2
  exact⟨.cons (as:=[]) (bs:=[]) a1 h1,.cons (as:=[]) (bs:=[]) a2 h2⟩
mutual
theorem Inv.readsD (I:Inv X pins σ H s):∀ {x:V} {d:PyData} {u:Value},Dd H x d->F0 x u->∃ as,Reads s.heap u d as/\(noL d=true->sysModules∉as)
 | _,_,_,.sc h,r=>⟨[],a3I h r,fun _ z=>nomatch z⟩
 | _,_,_,.tup (a:=a) e hs,r=>by
  cases (show _=bF a from r);obtain⟨z,its,rv,o,ho,hc,n,hd⟩:=I.hok a _ e;obtain⟨as,q,hn⟩:=Inv.readsDs I hs rv;exact⟨_,.tuple ho hc hd (by simpa using q),fun h=>hn (by rw[noL] at h;exact h)⟩
 | _,_,_,.lst (a:=a) e hs,r=>by
  cases (show _=bF a from r);obtain⟨z,its,n,rv,ho⟩:=I.hok a _ e;obtain⟨as,q,hn⟩:=Inv.readsDs I hs rv;exact⟨_,.list ho rfl rfl (by simpa using q),fun h=>(by rw[noL] at h;cases h)⟩
 | _,_,_,.dct (a:=a) (kvs:=kvs) e hs,r=>by
  cases (show _=bF a from r);obtain⟨z,hd,vs,rel,o,es,ep,ho,hx,hda,hk,hp,hn⟩:=a2q I.hok e;obtain⟨h1,h2⟩:=a2k (h:=s.heap) hp rel hs;refine⟨_,.dict (as:=[]) (bs:=[]) ho hx.1 hda ?_ ?_,fun _=>?_⟩
  ·rw[ca];exact h1
  ·rw[ca];exact h2
  ·intro z;have z':sysModules=a:=by simpa using z
   rw[<- z'] at hd;simp at hd
 | _,_,_,.dc1 (a:=a) (i:=i) e hx hno,r=>by
  cases (show _=bF a from r);obtain⟨z,hd,vs,rel,o,es,ep,ho,hx',hda,hk,hp,hn⟩:=a2q I.hok e;cases rel with
  | cons r1 q1 =>
   cases q1;generalize eE:es.toList=l at hp;cases hp with
   | cons hk1 hv1 t1 =>
    cases t1;obtain⟨as,h1,n1⟩:=Inv.readsD I hx r1.2;rw[<- hv1] at h1;rw[<- r1.1] at hk1;refine⟨_,.dict (as:=[]) (bs:=as) ho hx'.1 hda ?_ ?_,fun _=>?_⟩
    ·rw[eE];refine .cons (as:=[]) (bs:=[]) ?_ .nil;rcases K2 (k:=bX i) hk1 with ⟨i',t,e1,e2⟩ | ⟨x,t,e1,e2⟩
     ·cases e1;dsimp only;rw[e2];exact .int _ t
     ·cases e1
    ·rw[eE];have:=ReadsAll.cons h1 ReadsAll.nil
     rwa [bU] at this
    ·intro z;rcases aD.mp z with z' | z'
     ·rw[<- z'] at hd;simp at hd
     ·exact n1 hno z'
theorem Inv.readsDs (I:Inv X pins σ H s):∀ {xs:List V} {ds:List PyData} {us:List Value},Dds H xs ds->C8 xs us->∃ as,ReadsAll s.heap us ds as/\(a2R ds=true->sysModules∉as)
 | _,_,_,.nil,.nil=>⟨_,.nil,fun _ z=>nomatch z⟩
 | _,_,_,.cons h t,.cons r q=>by
  obtain⟨as,h1,n1⟩:=Inv.readsD I h r;obtain⟨bs,h2,n2⟩:=Inv.readsDs I t q;refine⟨_,.cons h1 h2,fun hn=>?_⟩;rw[a2R,bZ] at hn;intro z;rcases ak.mp z with z | z
  ·exact n1 hn.1 z
  ·exact n2 hn.2 z
end
structure Nx (k m:Nat)(d:PyData):Prop where
 mix:noL d=true\/d.hasDict=false
 sh:d.showable=true
 dp:d.depth<=k
 lv:d.leavesShort 100=true
 bk:d.bulk<=m
theorem Nx.fits {k m:Nat}{d:PyData}(h:Nx k m d)(hm:m<=100000):d.shown.length<=sizeLine:=by
 have h1:=PyData.shown_le_bulk 100 (by decide) d h.lv;have h2:=h.bk;rw[sizeLine_eq];omega
def a3k:List V->Hp->VK->Prop:=fun xs H Q=>∃(x:V) (d:PyData),xs=[x]/\Dd H x d/\Nx 50 100000 d/\Q (.str d.shown) H
theorem a5d (hg:X.A.guards=some [])(hu:X.A.units+64<cLine):L4 X (.builtin "repr") a3k:=by
 intro pins s σ H xs us Q I r h;obtain⟨x,d,rfl,hd,hn,q⟩:=h;obtain⟨u,rfl,rx⟩:=Q5 r;have fin:∀ h' u tk,(∀ b o,s.heap.get? b=some o->h'.get? b=some o)->EP X pins σ Q (.str d.shown u) {s with heap:=h',toks:=tk}:=fun h' u tk hk=>⟨.str d.shown,H,I.kept (t':=tk) hk,⟨u,rfl⟩,q⟩
 have fits:=hn.fits (ao _);have ref:∀ {a:Addr},x=.ref a->wpAny (model X.prog X.w) X.A (call (.builtin "repr") [u]) (EP X pins σ Q) X.xe s:=fun {a} e=>by
  subst e;cases (show u=bF a from rx);obtain⟨as,hr,hs⟩:=I.readsD hd rfl;refine PySem.repr_of_reads' hr hn.sh (fun hdict=>?_) hg (by have:=hn.dp;omega) (fun _ _ e=>e) fin fits;rcases hn.mix with h | h
  ·exact hs h
  ·rw[h] at hdict;cases hdict
 cases hd with
 | sc hs =>
  cases x with
  | non=>cases (show u=cw from rx);exact PySem.P.repr_of_none (fin s.heap _ _ fun _ _ e=>e)
  | bl b =>
   cases (show u=aT b from rx);refine PySem.P.repr_of_bool ?_;have:=fin s.heap s.toks (s.toks+1) fun _ _ e=>e
   rw[show (sD (.bl b)).shown=(if b then "True" else "False":Str) from by show (PyData.bool b).shown=_;rw[PyData.shown_bool]] at this;cases b<;>exact this
  | int i =>
   obtain⟨t,rfl⟩:=(show ∃ t,u=cG i t from rx)
   have hsh:=hn.sh;refine PySem.P.repr_of_int (by have h:=hsh;rw[show sD (.int i)=cW i from rfl,PyData.showable] at h;exact of_decide_eq_true h) ?_;have:=fin s.heap s.toks (s.toks+1) fun _ _ e=>e
   rw[show (sD (.int i)).shown=((toString i:String):Str) from gQ i] at this;exact this
  | str y =>
   obtain⟨t,rfl⟩:=(show ∃ t,u=ge y t from rx)
   have e:(sD (.str y)).shown=reprText y:=PyData.shown_str y;rw[e] at fits;refine PySem.P.repr_of_str ?_ fits;have:=fin s.heap s.toks (s.toks+1) fun _ _ e=>e
   rw[e] at this;exact this
  | _=>cases hs
 | tup _ _=>exact ref rfl
 | lst _ _=>exact ref rfl
 | dct _ _=>exact ref rfl
 | dc1 _ _ _=>exact ref rfl
theorem a7l (hg:X.A.guards=some [])(hu:X.A.units+64<cLine):L4 X (.builtin "repr") a3k:=a5d hg hu
end
end L2
end
section
namespace L2
open PySem PySem.Spec PyProof.Rows
structure Nc (c k m:Nat)(d:PyData):Prop where
 nl:c≠2->noL d=true
 nd:c≠1->d.hasDict=false
 sh:d.showable=true
 dp:d.depth<=k
 lv:d.leavesShort 100=true
 bk:d.bulk<=m
 so:sOk d=true
structure Ncs (c k m:Nat)(ds:List PyData):Prop where
 nl:c≠2->a2R ds=true
 nd:c≠1->PyData.hasDictAll ds=false
 sh:PyData.showableAll ds=true
 dp:PyData.depthAll ds<=k
 lv:PyData.leavesShortAll 100 ds=true
 bk:PyData.bulkAll ds<=m
 so:a2B ds=true
section
variable {c k m:Nat}{d:PyData}{ds:List PyData}{H:Hp}
theorem Nc.nx (h:Nc c k m d)(hk:k<=50)(hm:m<=100000):Nx 50 100000 d:=by
 refine⟨?_,h.sh,bj h.dp hk,h.lv,bj h.bk hm⟩;by_cases e:c=2
 ·exact .inr (h.nd (by omega))
 ·exact .inl (h.nl e)
theorem Nc.mono {k' m':Nat}(h:Nc c k m d)(hk:k<=k')(hm:m<=m'):Nc c k' m' d:=⟨h.nl,h.nd,h.sh,bj h.dp hk,h.lv,bj h.bk hm,h.so⟩
theorem Nc.kind {c':Nat}(h:Nc 0 k m d):Nc c' k m d:=⟨fun _=>h.nl (by decide),fun _=>h.nd (by decide),h.sh,h.dp,h.lv,h.bk,h.so⟩
theorem Ncs.nil:Ncs c k m []:=⟨fun _=>by rw[a2R],fun _=>by rw[PyData.hasDictAll],by rw[PyData.showableAll],by rw[PyData.depthAll];exact bf _,by rw[PyData.leavesShortAll],by rw[PyData.bulkAll];exact bf _,by rw[a2B]⟩
theorem Ncs.cons {m':Nat}(h:Nc c k m d)(t:Ncs c k m' ds):Ncs c k (m+1+m') (d::ds):=by
 refine⟨fun e=>?_,fun e=>?_,?_,?_,?_,?_,by rw[a2B,h.so,t.so];rfl⟩
 ·rw[a2R,h.nl e,t.nl e];rfl
 ·rw[PyData.hasDictAll,h.nd e,t.nd e];rfl
 ·rw[PyData.showableAll,h.sh,t.sh];rfl
 ·rw[PyData.depthAll];exact j6.mpr ⟨h.dp,t.dp⟩
 ·rw[PyData.leavesShortAll,h.lv,t.lv];rfl
 ·rw[PyData.bulkAll];have:=h.bk;have:=t.bk;omega
theorem Ncs.all:∀ {ds:List PyData},(∀ d∈ds,Nc c k m d)->Ncs c k (ds.length*(m+1)) ds
 | [],_=>.nil
 | d::r,h=>by
  have:=Ncs.cons (h d (aN ..)) (Ncs.all (ds:=r) fun x hx=>h x (aM _ hx));rw[aH,g9,jz];exact this
theorem Nc.tup (h:Ncs c k m ds):Nc c (k+1) m (.tuple ds):=by
 refine⟨fun e=>?_,fun e=>?_,?_,?_,?_,?_,by rw[sOk];exact h.so⟩
 ·rw[noL];exact h.nl e
 ·rw[PyData.hasDict];exact h.nd e
 ·rw[PyData.showable];exact h.sh
 ·rw[PyData.depth];have:=h.dp;omega
 ·rw[PyData.leavesShort];exact h.lv
 ·rw[PyData.bulk];exact h.bk
theorem Nc.lst (h:Ncs 0 k m ds):Nc 2 (k+1) m (.list ds):=by
 refine⟨fun e=>absurd rfl e,fun e=>?_,?_,?_,?_,?_,by rw[sOk];exact h.so⟩
 ·rw[PyData.hasDict];exact h.nd (by decide)
 ·rw[PyData.showable];exact h.sh
 ·rw[PyData.depth];have:=h.dp;omega
 ·rw[PyData.leavesShort];exact h.lv
 ·rw[PyData.bulk];exact h.bk
theorem Nc.lst2 (h:Ncs 2 k m ds):Nc 2 (k+1) m (.list ds):=by
 refine⟨fun e=>absurd rfl e,fun e=>?_,?_,?_,?_,?_,by rw[sOk];exact h.so⟩
 ·rw[PyData.hasDict];exact h.nd (by decide)
 ·rw[PyData.showable];exact h.sh
 ·rw[PyData.depth];have:=h.dp;omega
 ·rw[PyData.leavesShort];exact h.lv
 ·rw[PyData.bulk];exact h.bk
def Sm (i:Int):Prop:=i.natAbs.log2<1920/\(PyData.shown (.int i)).length<=100
theorem P8 {i:Int}(h:i.natAbs<10 ^ 12):Sm i:=by
 refine⟨?_,bj (PyData.shown_int_le h) (by decide)⟩;have h12:(10:Nat) ^ 12=1000000000000:=by decide
 have h40:(2:Nat) ^ 40=1099511627776:=by decide
 rcases jV i.natAbs with e | e
 ·rw[e];decide
 ·have:i.natAbs.log2<40:=(Nat.log2_lt (by omega)).mpr (by omega);omega
theorem Nc.int {i:Int}(h:Sm i):Nc c k m (.int i):=by
 refine⟨fun _=>by rw[noL],fun _=>by rw[PyData.hasDict],?_,?_,?_,?_,by rw[sOk]⟩
 ·rw[PyData.showable,decide_eq_true_iff];exact h.1
 ·rw[PyData.depth];exact bf _
 ·rw[PyData.leavesShort,decide_eq_true_iff];exact h.2
 ·rw[PyData.bulk];exact bf _
theorem Nc.bool {b:Bool}:Nc c k m (.bool b):=⟨fun _=>by rw[noL],fun _=>by rw[PyData.hasDict],by rw[PyData.showable],by rw[PyData.depth];exact bf _,by rw[PyData.leavesShort],by rw[PyData.bulk];exact bf _,by rw[sOk]⟩
theorem Nc.none:Nc c k m .none:=⟨fun _=>by rw[noL],fun _=>by rw[PyData.hasDict],by rw[PyData.showable],by rw[PyData.depth];exact bf _,by rw[PyData.leavesShort],by rw[PyData.bulk];exact bf _,by rw[sOk]⟩
theorem a8y {x:Str}(h1:(x.cps.toList.all fun c=>decide (c<1114112))=true):(x.cps.toList.all fun c=>decide (c<16 ^ 8))=true/\PyData.strOk x=true:=by
 refine⟨List.all_eq_true.mpr fun c hc=>?_,?_⟩
 ·have:=of_decide_eq_true (eF.mp h1 c hc);exact decide_eq_true (fj this (by decide))
 ·unfold PyData.strOk;rw[<- Array.all_toList];exact h1
theorem Nc.str {x:Str}(h1:(x.cps.toList.all fun c=>decide (c<1114112))=true)(h2:x.cps.size<=m):Nc c k m (.str x):=⟨fun _=>by rw[noL],fun _=>by rw[PyData.hasDict],by rw[PyData.showable],by rw[PyData.depth];exact bf _,by rw[PyData.leavesShort];exact (a8y h1).1,by rw[PyData.bulk];exact h2,by rw[sOk];exact (a8y h1).2⟩
theorem Nc.dict0:Nc 1 (k+1) m (.dict []):=by
 refine⟨fun _=>by rw[noL],fun e=>absurd rfl e,?_,?_,?_,?_,by rw[sOk]⟩
 ·rw[PyData.showable,PyData.showableKv]
 ·rw[PyData.depth,PyData.depthKv];exact Nat.le_add_left _ _
 ·rw[PyData.leavesShort,PyData.leavesShortKv]
 ·rw[PyData.bulk,PyData.bulkKv];exact bf _
def Tg (H:Hp)(c k m:Nat)(v:V):Prop:=∃ d,Dd H v d/\Nc c k m d
theorem Tg.same {H':Hp}{v:V}(s:A6 H H')(h:Tg H c k m v):Tg H' c k m v:=let ⟨d,h1,h2⟩:=h;⟨d,h1.same s,h2⟩
theorem Tg.mono {k' m':Nat}{v:V}(h:Tg H c k m v)(hk:k<=k')(hm:m<=m'):Tg H c k' m' v:=let ⟨d,h1,h2⟩:=h;⟨d,h1,h2.mono hk hm⟩
theorem Tg.kind {c':Nat}{v:V}(h:Tg H 0 k m v):Tg H c' k m v:=let ⟨d,h1,h2⟩:=h;⟨d,h1,h2.kind⟩
theorem Tg.int {i:Int}(h:Sm i):Tg H c k m (.int i):=⟨_,.sc rfl,.int h⟩
theorem Tg.bl {b:Bool}:Tg H c k m (.bl b):=⟨_,.sc rfl,.bool⟩
theorem Tg.non:Tg H c k m .non:=⟨_,.sc rfl,.none⟩
theorem Tg.str {x:Str}(h1:(x.cps.toList.all fun c=>decide (c<1114112))=true)(h2:x.cps.size<=m):Tg H c k m (.str x):=⟨_,.sc rfl,.str h1 h2⟩
theorem a3c:∀ {xs:List V},(∀ x∈xs,Tg H c k m x)->∃ ds,Dds H xs ds/\Ncs c k (xs.length*(m+1)) ds
 | [],_=>⟨[],.nil,.nil⟩
 | x::r,h=>by
  obtain⟨d,h1,h2⟩:=h x (aN ..);obtain⟨ds,h3,h4⟩:=a3c (xs:=r) fun y hy=>h y (aM _ hy)
  refine⟨d::ds,.cons h1 h3,?_⟩;have:=Ncs.cons h2 h4;rw[aH,g9,jz];exact this
theorem Tg.tup {a:Addr}{xs:List V}(e:H a=some (.tup xs))(h:∀ x∈xs,Tg H c k m x):Tg H c (k+1) (xs.length*(m+1)) (.ref a):=by
 obtain⟨ds,h1,h2⟩:=a3c h;exact⟨_,.tup e h1,.tup h2⟩
theorem Tg.lst {a:Addr}{xs:List V}(e:H a=some (.lst xs))(h:∀ x∈xs,Tg H 2 k m x):Tg H 2 (k+1) (xs.length*(m+1)) (.ref a):=by
 obtain⟨ds,h1,h2⟩:=a3c h;exact⟨_,.lst e h1,.lst2 h2⟩
theorem Tg.dict0 {a:Addr}(e:H a=some (.dK [])):Tg H 1 (k+1) m (.ref a):=⟨_,.dct e (fun kv h=>nomatch h),.dict0⟩
theorem Tg.dict1 {a:Addr}{i j:Int}(e:H a=some (.dK [(.inl i,.int j)]))(hi:Sm i)(hj:Sm j):Tg H 1 (k+1) (m+2) (.ref a):=by
 refine⟨_,.dct e (fun kv h=>by rw[ah.mp h];rfl),?_⟩;show Nc 1 (k+1) (m+2) (.dict [(.int i,.int j)]);have a:=Nc.int (c:=1) (k:=k) (m:=0) hi;have b:=Nc.int (c:=1) (k:=k) (m:=0) hj;refine⟨fun _=>by rw[noL],fun e=>absurd rfl e,?_,?_,?_,?_,by rw[sOk]⟩
 ·rw[PyData.showable,PyData.showableKv,a.sh,b.sh,PyData.showableKv];rfl
 ·rw[PyData.depth,PyData.depthKv,PyData.depthKv];exact Nat.succ_le_succ (j6.mpr ⟨j6.mpr ⟨a.dp,b.dp⟩,bf _⟩)
 ·rw[PyData.leavesShort,PyData.leavesShortKv,a.lv,b.lv,PyData.leavesShortKv];rfl
 ·rw[PyData.bulk,PyData.bulkKv,PyData.bulkKv];have:=a.bk;have:=b.bk;omega
theorem Tg.repr {v:V}{Q:VK}(h:Tg H c k m v)(hk:k<=50)(hm:m<=100000)(q:∀ x,(∀ {H':Hp} {Q':VK},A6 H H'->Q' (.str x) H'->a3k [v] H' Q')->Q (.str x) H):a3k [v] H Q:=by
 obtain⟨d,h1,h2⟩:=h;exact⟨v,d,rfl,h1,h2.nx hk hm,q _ fun s q'=>⟨v,d,rfl,h1.same s,h2.nx hk hm,q'⟩⟩
theorem a8x:∀ {xs:List V} {ds:List PyData},Dds H xs ds->∀ x∈xs,∃ d,Dd H x d
 | _,_,.nil,x,hx=>nomatch hx
 | _,_,.cons h t,x,hx=>by
  rcases aD.mp hx with rfl | hx
  ·exact⟨_,h⟩
  ·exact a8x t x hx
theorem Dd.pl {v:V}{d:PyData}(h:Dd H v d):∃ T,Pl H v T:=by
 cases h with
 | sc hs =>
  cases v with
  | non=>exact⟨_,.non⟩
  | bl b=>exact⟨_,.bl b⟩
  | int i=>exact⟨_,.int i⟩
  | str x=>exact⟨_,.str x⟩
  | _=>cases hs
 | tup e _=>exact⟨_,.tup e⟩
 | lst e _=>exact⟨_,.lst e⟩
 | dct e _=>exact⟨_,.dK e⟩
 | dc1 e _ _=>exact⟨_,.dK e⟩
theorem Dd.pld:∀ {m:Nat} {v:V} {d:PyData},Dd H v d->PlD H m v
 | 0,_,_,h=>h.pl
 | m+1,v,d,h=>⟨h.pl,fun a ys e ea z hz=>by
  subst e;cases h with
  | sc hs=>cases hs
  | tup e2 hs =>
   rw[ea] at e2;cases e2;obtain⟨d',h'⟩:=a8x hs z hz;exact Dd.pld h'
  | lst e2 _=>rw[ea] at e2;cases e2
  | dct e2 _=>rw[ea] at e2;cases e2
  | dc1 e2 _ _=>rw[ea] at e2;cases e2⟩
theorem Tg.pld {n:Nat}{v:V}(h:Tg H c k m v):PlD H n v:=let ⟨_,h1,_⟩:=h;h1.pld
mutual
theorem Dd.dt {K:ae}:∀ {v:V} {d:PyData},Dd H v d->d.hasDict=false->Dt K H v d
 | v,_,.sc hs,_=>by
  cases v with
  | non=>exact .non
  | bl b=>exact .bl b
  | int i=>exact .int i
  | str x=>exact .str x
  | _=>cases hs
 | _,_,.tup e h,hn=>.tup (SqT.of e) (Dds.dt h (by rw[PyData.hasDict] at hn;exact hn))
 | _,_,.lst e h,hn=>.lst (SqL.of e) (Dds.dt h (by rw[PyData.hasDict] at hn;exact hn))
 | _,_,.dct _ _,hn=>by rw[PyData.hasDict] at hn;cases hn
 | _,_,.dc1 _ _ _,hn=>by rw[PyData.hasDict] at hn;cases hn
theorem Dds.dt {K:ae}:∀ {xs:List V} {ds:List PyData},Dds H xs ds->PyData.hasDictAll ds=false->Dts K H xs ds
 | _,_,.nil,_=>.nil
 | _,_,.cons h t,hn=>by
  rw[PyData.hasDictAll,gu] at hn;exact .cons (Dd.dt h hn.1) (Dds.dt t hn.2)
end
mutual
theorem a7X:∀ {d:PyData},sOk d=true->d.hasDict=false->d.canLay0=true
 | .none,_,_=>by rw[PyData.canLay0]
 | .bool _,_,_=>by rw[PyData.canLay0]
 | .int _,_,_=>by rw[PyData.canLay0]
 | .str x,h,_=>by rw[PyData.canLay0];rw[sOk] at h;exact h
 | .tuple xs,h,n=>by rw[PyData.canLay0];rw[sOk] at h;rw[PyData.hasDict] at n;exact a2W h n
 | .list xs,h,n=>by rw[PyData.canLay0];rw[sOk] at h;rw[PyData.hasDict] at n;exact a2W h n
 | .dict _,_,n=>by rw[PyData.hasDict] at n;cases n
theorem a2W:∀ {ds:List PyData},a2B ds=true->PyData.hasDictAll ds=false->PyData.canLayAll0 ds=true
 | [],_,_=>by rw[PyData.canLayAll0]
 | d::r,h,n=>by
  rw[a2B,bZ] at h;rw[PyData.hasDictAll,gu] at n;rw[PyData.canLayAll0,a7X h.1 n.1,a2W h.2 n.2];rfl
end
theorem Nc.shaped (h:Nc c k m d)(hk:k<=64)(hn:d.hasDict=false):SeqAt.shaped d=true:=by
 unfold SeqAt.shaped;rw[a7X h.so hn,decide_eq_true (bj h.dp hk)];rfl
theorem Tg.dt {K:ae}{v:V}(h:Tg H c k m v)(hc:c≠1)(hk:k<=64):∃ d,Dt K H v d/\SeqAt.shaped d=true:=by
 obtain⟨d,h1,h2⟩:=h;exact⟨d,h1.dt (h2.nd hc),h2.shaped hk (h2.nd hc)⟩
theorem Tg.flat {v:V}(h:Tg H c 0 m v):isS v=true/\∀ x,v=.str x->PyData.strOk x=true:=by
 obtain⟨d,h1,h2⟩:=h;have hd:=h2.dp;cases h1 with
 | sc hs =>
  refine⟨hs,fun x e=>?_⟩;subst e;have:=h2.so;rw[show sD (.str x)=PyData.str x from rfl,sOk] at this;exact this
 | tup _ _=>rw[PyData.depth] at hd;omega
 | lst _ _=>rw[PyData.depth] at hd;omega
 | dct _ _=>rw[PyData.depth] at hd;omega
 | dc1 _ _ _=>rw[PyData.depth] at hd;omega
end
end L2
end
section
namespace L2
open PySem
def a6f (g:TG)(tc:TT)(te:TE)(p:Addr)(fr:St)(H1:Hp)(x:V)(c:Bool)(f:V)(N:Nat):Prop :=
 ∀(v:Option V) (ys:List V) (R:St->Hp->Prop),ys.length<=N->(c=true->∀ v',R (v'::fr) (upd (upd H1 p (.lst ys)) p (.lst (ys++[f]))))->(c=false->∀ v',R (v'::fr) (upd H1 p (.lst ys))) ->
  g x (v::fr) (upd H1 p (.lst ys)) fun τ2 H2=>tc τ2 H2 fun b H3=>if b=true then te τ2 H3 fun w H4=>∃ zs,H4 p=some (.lst zs)/\zs.length<sizeLine/\R τ2 (upd H4 p (.lst (zs++[w]))) else R τ2 H3
theorem a0R {α:Type}(c:α->Bool)(f:α->V)(l:List α):((l.filter c).map f).length<=l.length:=by rw[ab];exact cb _ _
theorem Y3 {α:Type}(c:α->Bool)(f:α->V)(l:List α)(x:α):((l++[x]).filter c).map f=(l.filter c).map f++(if c x=true then [f x] else []):=by
 rw[b9,aJ];congr 1;by_cases h:c x=true
 ·rw[dG h,if_pos h];rfl
 ·rw[dH h,if_neg h];rfl
theorem a4r {α:Type}(l:List α):l.filter (fun _=>true)=l:=List.filter_eq_self.mpr fun _ _=>rfl
section
variable {K:ae}{a p:Addr}{g:TG}{tc:TT}{te:TE}{fr:St}{H1:Hp}{EE:Hp->Prop}
theorem a2j {n:Nat}(c:Int->Bool)(f:Int->V)(hn:n<=16000000)(hs:∀ x:Int,0<=x->x<n->a6f g tc te p fr H1 (.int x) (c x) (f x) n)
  (hd:EE (upd H1 p (.lst (((E5 0 n).filter c).map f)))):lcW g tc te p (Itr 0 n) (none::fr) (upd H1 p (.lst [])) EE:=by
 refine X3 (fun i τ H=>i<=n/\(∃ v,τ=v::fr)/\H=upd H1 p (.lst (((E5 0 i).filter c).map f))) ⟨bf _,⟨_,rfl⟩,rfl⟩ ?_ ?_
 ·rintro i τ H hi ⟨_,⟨v,rfl⟩,rfl⟩;have e:E5 0 (i+1)=E5 0 i++[(0:Int)+i]:=by unfold E5;rw[ix,aJ];rfl
  refine hs ((0:Int)+i) (by omega) (by omega) v _ _ (bj (a0R c f _) (by rw[E7];omega)) (fun h v'=>?_) fun h v'=>?_
  ·refine⟨by omega,⟨_,rfl⟩,?_⟩;rw[a0H,e,Y3,if_pos h]
  ·refine⟨by omega,⟨_,rfl⟩,?_⟩;rw[e,Y3,if_neg (by rw[h];simp),bU]
 ·rintro τ H ⟨_,_,rfl⟩;exact hd
theorem L5 {α:Type}{l:List α}{i:Nat}{x:α}(h:l[i]?=some x):l.take (i+1)=l.take i++[x]:=by rw[bQ,h];rfl
theorem U4 {α:Type}{xs:List α}(V0:α->V)(c:α->Bool)(f:α->V)(hn:xs.length<=16000000)(hl:SqL K H1 a (xs.map V0))(hp:H1 p=none)(hs:∀ x∈xs,a6f g tc te p fr H1 (V0 x) (c x) (f x) xs.length)
  (hd:EE (upd H1 p (.lst ((xs.filter c).map f)))):lcW g tc te p (Itl K a) (none::fr) (upd H1 p (.lst [])) EE:=by
 refine Q4 (xs:=xs.map V0) (fun i τ H=>(∃ v,τ=v::fr)/\H=upd H1 p (.lst (((xs.take i).filter c).map f))) ⟨⟨_,rfl⟩,by simp⟩ ?_ ?_ ?_
 ·rintro i τ H _ ⟨_,rfl⟩;exact ((A6.refl H1).upd hp).seq hl
 ·rintro i x τ H hx ⟨⟨v,rfl⟩,rfl⟩ _;rw[aF] at hx;cases h0:xs[i]? with
  | none=>rw[h0] at hx;cases hx
  | some y =>
  rw[h0] at hx;cases aG hx;have hi:=(aA.mp h0).1;refine hs y (aI h0) v _ _ (bj (a0R c f _) (by rw[bA];omega)) (fun h v'=>?_) fun h v'=>?_
  ·refine⟨⟨_,rfl⟩,?_⟩;rw[a0H,L5 h0,Y3,if_pos h]
  ·refine⟨⟨_,rfl⟩,?_⟩;rw[L5 h0,Y3,if_neg (by rw[h];simp),bU]
 ·rintro τ H ⟨_,rfl⟩;rw[ab,bq];exact hd
theorem U9 {α:Type}{xs:List α}(V0:α->V)(c:α->Bool)(f:α->V)(hn:xs.length<=16000000)(hl:SqT K H1 a (xs.map V0))(hp:H1 p=none)(hs:∀ x∈xs,a6f g tc te p fr H1 (V0 x) (c x) (f x) xs.length)
  (hd:EE (upd H1 p (.lst ((xs.filter c).map f)))):lcW g tc te p (Itt K a) (none::fr) (upd H1 p (.lst [])) EE:=by
 refine a1s (xs:=xs.map V0) (fun i τ H=>(∃ v,τ=v::fr)/\H=upd H1 p (.lst (((xs.take i).filter c).map f))) ⟨⟨_,rfl⟩,by simp⟩ ?_ ?_ ?_
 ·rintro i τ H _ ⟨_,rfl⟩;exact ((A6.refl H1).upd hp).seqT hl
 ·rintro i x τ H hx ⟨⟨v,rfl⟩,rfl⟩;rw[aF] at hx;cases h0:xs[i]? with
  | none=>rw[h0] at hx;cases hx
  | some y =>
  rw[h0] at hx;cases aG hx;have hi:=(aA.mp h0).1;refine hs y (aI h0) v _ _ (bj (a0R c f _) (by rw[bA];omega)) (fun h v'=>?_) fun h v'=>?_
  ·refine⟨⟨_,rfl⟩,?_⟩;rw[a0H,L5 h0,Y3,if_pos h]
  ·refine⟨⟨_,rfl⟩,?_⟩;rw[L5 h0,Y3,if_neg (by rw[h];simp),bU]
 ·rintro τ H ⟨_,rfl⟩;rw[ab,bq];exact hd
theorem M2 {fr:St}{H1:Hp}{p:Addr}{ys:List V}{w:V}{N:Nat}{R:St->Hp->Prop}{v:Option V}{b c:Bool}(e:b=c)(hl:ys.length<=N)(hN:N<=16000000)
  (h1:c=true->∀ v',R (v'::fr) (upd (upd H1 p (.lst ys)) p (.lst (ys++[w])))) (h2:c=false->∀ v',R (v'::fr) (upd H1 p (.lst ys))) :
  if b=true then ∃ zs,upd H1 p (.lst ys) p=some (.lst zs)/\zs.length<sizeLine/\R (v::fr) (upd (upd H1 p (.lst ys)) p (.lst (zs++[w]))) else R (v::fr) (upd H1 p (.lst ys)):=by
 subst e;by_cases hb:b=true
 ·rw[if_pos hb];exact⟨ys,A2,B7 (by omega),h1 hb v⟩
 ·rw[if_neg hb];exact h2 (by simpa using hb) v
theorem a0P {fr:St}{H1:Hp}{p:Addr}{ys:List V}{w:V}{N:Nat}{R:St->Hp->Prop}{v:Option V}(hl:ys.length<=N)(hN:N<=16000000)(h1:true=true->∀ v',R (v'::fr) (upd (upd H1 p (.lst ys)) p (.lst (ys++[w])))) :
  ∃ zs,upd H1 p (.lst ys) p=some (.lst zs)/\zs.length<sizeLine/\R (v::fr) (upd (upd H1 p (.lst ys)) p (.lst (zs++[w]))):=⟨ys,A2,B7 (by omega),h1 rfl v⟩
end
end L2
end
section
namespace HT
open PySem PyProof.Rows
section
variable {prog:Program}{w:World}{A:Around}{E:Value->Shared->Prop}{s:Shared}
theorem getItem_tuple_whole {t sl:Addr}{items:Array Value}{vl vu:Value}{lo hi:Option Int}{Q:Value->Shared->Prop}(ht:IsTup s.heap t items)(hs:s.heap.IsSliceOf sl vl vu .none)(pl:IsPart vl lo)(pu:IsPart vu hi)
  (hw:sIx items.size 0 lo=0/\sIx items.size items.size hi=items.size) (h:Q (.ref t) s):wpAny (model prog w) A (getItem (.ref t) (.ref sl)) Q E s:=by
 obtain⟨os,hos,hcs,hds⟩:=id hs;have hTs:s.TypeIs (.ref sl) "slice":=⟨os,hos,hcs⟩
 unfold getItem;try with_reducible refine cu ?_
 first | refine aa (ai ?_) | skip
 refine aa (iE ht.typeIs (by decide) ?_)
 refine aa (bL (name:=Str.ofString "__getitem__") ht.typeIs bJ
  (bO bJ ht.typeIs gY ?_ (ii _ _)))
 show wpAny _ _ (fc (.ref t) >>= _) _ _ s;refine aa (tupleItemsOf_ ht ?_);refine aa (eR hTs ?_);rw[if_pos (by decide)];refine aa (sliceApplied_gen hs pl pu ?_);have hyes:(((sIx items.size 0 lo:Nat):Int) == 0 && (1:Int) == 1 && (sIx items.size items.size hi-sIx items.size 0 lo) == items.size)=true:=by
  rw[hw.1,hw.2];simp
 show wpAny _ _ (if (((sIx items.size 0 lo:Nat):Int) == 0 && (1:Int) == 1 && (sIx items.size items.size hi-sIx items.size 0 lo) == items.size)=true then _ else _) _ _ s;rw[if_pos hyes];refine aa ?_;unfold Builtin.Tuple.tupleIsExact;refine aa (eR ht.typeIs (ai ?_));rw[if_pos (by decide)];refine aa (gG ?_);exact ai ⟨_,rfl,ai h⟩
end
end HT
namespace L2
open PySem PySem.Spec PyProof.Rows
theorem b1I (l:List Int){k:Int}(h:0<=k):U5 (l.map V.int) none (some k)=(l.take k.toNat).map V.int:=by
 have e:HT.sIx (l.map V.int).length (l.map V.int).length (some k)=min k.toNat l.length:=by
  show (if k<0 then _ else _)=_;rw[if_neg (by omega),ab]
 unfold U5;rw[e,HT.sIx_none,iX,jx,<- ja];congr 1;rcases Nat.le_total k.toNat l.length with h1 | h1
 ·rw[iN h1]
 ·rw[Nat.min_eq_right h1,bq,di h1]
theorem C2.zip {H:Hp}{p:Addr}{as:List Addr}{rows:List (List Int)}(h:C2 H p as rows):as.map V.ref=(as.zip rows).map (fun x=>V.ref x.1)/\∀ x∈as.zip rows,H x.1=some (.lst (x.2.map V.int)):=by
 constructor
 ·have:as=(as.zip rows).map (·.1):=by rw[List.map_fst_zip (by rw[h.len];exact ao _)]
  rw[show (as.zip rows).map (fun x=>V.ref x.1)=((as.zip rows).map (·.1)).map V.ref by rw[ca];rfl,<- this]
 ·intro x hx;obtain⟨i,hi,e⟩:=db hx;have h1:(as.zip rows)[i]?=some x:=by rw[aq hi,e]
  rw[iV] at h1;exact h.row i _ _ h1.1 h1.2
end L2
end
section
namespace L2
open PySem PySem.Spec PyProof.Rows
section
variable {X:Cx}
def a7m (K:ae):V->Option Int->Option Int->Hp->VK->Prop:=fun x lo hi H Q=>∃ a xs,x=.ref a/\SqT K H a xs /\
 (HT.sIx xs.length 0 lo=0/\HT.sIx xs.length xs.length hi=xs.length->Q (.ref a) H)/\(¬ (HT.sIx xs.length 0 lo=0/\HT.sIx xs.length xs.length hi=xs.length)->∀ p,H p=none->Q (.ref p) (upd H p (.tup (U5 xs lo hi))))
theorem a8N:SlR X (a7m X.K):=by
 intro pins s σ H x v vl vu lo hi sl Q I rx hs pl pu h;obtain⟨a,xs,rfl,hx,q1,q2⟩:=h;cases rx;obtain⟨its,r,ht,hz⟩:=I.tuple hx;have hlen:its.toArray.size=xs.length:=by rw[aK];exact r.length.symm
 refine⟨"tuple",_,bJ.lookup,ht.typeIs,?_⟩;by_cases hw:HT.sIx xs.length 0 lo=0/\HT.sIx xs.length xs.length hi=xs.length
 ·exact HT.getItem_tuple_whole ht hs pl pu (by rw[hlen];exact hw) ⟨.ref a,H,I,rfl,q1 hw⟩
 ·refine HT.getItem_tuple_cut ht hs pl pu (by rw[hlen];exact hw) ?_ (by rw[hlen];exact hz);rw[hlen];have hf:H s.heap.objs.size=none:=I.hok.fresh (ao _);refine⟨.ref s.heap.objs.size,_,I.laid (t':=s.toks) (o:=.tup (U5 xs lo hi)) (fun b ob q=>ag _ q) (ao _) ?_,rfl,q2 hw _ hf⟩;exact⟨bj (a0F xs lo hi) hz,_,(r.drop (HT.sIx xs.length 0 lo)).take (HT.sIx xs.length xs.length hi-HT.sIx xs.length 0 lo),IsTup.new _ _⟩
theorem a7g (K:ae)(h:X.K=K:=by rfl):SlR X (a7m K):=by subst h;exact a8N
end
end L2
end
section
namespace L2
open PySem PySem.Spec PyProof.Rows
section
variable {X:Cx}
def a2C (K:ae):R2:=fun x y H Q=>∃ a b xs ys,x=.ref a/\y=.ref b/\SqT K H a xs/\SqT K H b ys/\xs.length+ys.length<=sizeLine /\
 (xs=[]->Q (.ref b) H)/\(xs≠[]->ys=[]->Q (.ref a) H)/\(xs≠[]->ys≠[]->∀ p,H p=none->Q (.ref p) (upd H p (.tup (xs++ys))))
theorem a7y:OpR X (binaryOp .Add) (a2C X.K):=by
 intro pins s σ H x y v u Q I rx ry h;obtain⟨a,b,xs,ys,rfl,rfl,ha,hb,hz,q1,q2,q3⟩:=h;cases rx;cases ry;obtain⟨its,r1,p1,_⟩:=I.tuple ha;obtain⟨its2,r2,p2,_⟩:=I.tuple hb;by_cases hx:xs=[]
 ·have hi:its=[]:=r1.nil_iff.mpr hx;subst hi;obtain⟨⟨cls,dd,data,sl⟩,ho,hc,n,hd⟩:=id p1;obtain⟨⟨cls2,dd2,data2,sl2⟩,ho2,hc2,n2,hd2⟩:=id p2;simp only at hc hd hc2 hd2;subst hc hd hc2 hd2;exact j5 ⟨_,ho,rfl⟩ ⟨_,ho2,rfl⟩ noFill_tuple_add jM fS fN (fJ _ _)
   (tuple_addW0 _ _ _ _ _ _ _ _ _ _ (by simp)) ⟨ho,ho2,⟨.ref b,H,I,rfl,q1 hx⟩⟩
 ·refine HT.cat_tup p1 p2 (fun z=>hx (r1.nil_iff.mp z)) (fun z=>⟨.ref a,H,I,rfl,q2 hx (r2.nil_iff.mp z)⟩) (fun z=>?_) (by rw[<- r1.length,<- r2.length];exact hz);refine⟨.ref s.heap.objs.size,_,I.laid (t':=s.toks) (o:=.tup (xs++ys)) (fun b ob q=>ag _ q) (ao _) ?_,rfl,q3 hx (fun w=>z (r2.nil_iff.mpr w)) _ (I.hok.fresh (ao _))⟩;exact⟨by rw[aE];exact hz,_,r1.append r2,IsTup.new _ _⟩
theorem b1J (K:ae)(h:X.K=K:=by rfl):OpR X (binaryOp .Add) (a2C K):=by subst h;exact a7y
end
end L2
end
section
namespace L2
open PySem PySem.Spec PyProof.Rows
open Classical in
noncomputable def hid (A:Addr->Prop)(H:Hp):Hp:=fun a=>if A a then none else H a
def Av (A:Addr->Prop)(H:Hp):Prop:=∀ a,A a->∃ ys,H a=some (.lst ys)
section
variable {A:Addr->Prop}{d p:Addr}{H H':Hp}
theorem N0 {a:Addr}(h:¬ A a):hid A H a=H a:=if_neg h
theorem Z6:A6 (hid A H) H:=fun a o h=>by
 unfold hid at h;split at h
 ·cases h
 ·exact h
theorem a4X (h:∀ b o,¬ A b->H b=some o->H' b=some o):A6 (hid A H) (hid A H'):=fun a o e=>by
 by_cases z:A a
 ·unfold hid at e;rw[if_pos z] at e;cases e
 ·rw[N0 z] at e ⊢;exact h a o z e
theorem Kp.hid (k:Kp d H H')(hA:A d):A6 (hid A H) (hid A H'):=a4X fun b o n h=>k b o (fun e=>n (e ▸ hA)) h
theorem A6.hid (s:A6 H H'):A6 (hid A H) (hid A H'):=a4X fun b o _ h=>s b o h
theorem a5U {o:HO}(hA:A p):A6 (L2.hid A H) (L2.hid A (upd H p o)):=a4X fun b o' n h=>by rw[B2 (show b≠p from fun e=>n (e ▸ hA))];exact h
theorem Av.same (h:Av A H)(s:A6 H H'):Av A H':=fun a ha=>let ⟨ys,e⟩:=h a ha;⟨ys,s _ _ e⟩
theorem Av.kp (h:Av A H)(k:Kp d H H')(hd:K5 H' d):Av A H':=fun a ha=>by
 by_cases e:a=d
 ·obtain⟨ds,e2,_⟩:=hd;exact⟨_,by rw[e];exact e2⟩
 ·obtain⟨ys,e2⟩:=h a ha;exact⟨ys,k _ _ e e2⟩
theorem Av.upd {ys:List V}(h:Av A H):Av A (upd H p (.lst ys)):=fun a ha=>by
 by_cases e:a=p
 ·exact⟨ys,by rw[e,A2]⟩
 ·rw[B2 e];exact h a ha
theorem Av.new (h:Av A H)(hp:H p=none):¬ A p:=fun e=>let ⟨_,z⟩:=h p e;by rw[hp] at z;cases z
theorem Av.tup (h:Av A H){xs:List V}(hp:H p=some (.tup xs)):¬ A p:=fun e=>let ⟨_,z⟩:=h p e;by rw[hp] at z;cases z
end
def Avn (A:Addr->Prop)(H:Hp):Prop:=∀ a,A a->H a≠none
theorem Avn.new {A:Addr->Prop}{H:Hp}{p:Addr}(h:Avn A H)(hp:H p=none):¬ A p:=fun e=>h p e hp
theorem Av.n {A:Addr->Prop}{H:Hp}(h:Av A H):Avn A H:=fun a ha e=>let ⟨_,z⟩:=h a ha;by rw[e] at z;cases z
def Atm (m:Nat)(v:V):Prop:=∀(H:Hp) (c k:Nat),Tg H c k m v
theorem a6c {m:Nat}{i:Int}(h:Sm i):Atm m (.int i):=fun _ _ _=>.int h
structure Gd (A:Addr->Prop)(P:St->Hp->Prop):Prop where
 mono:∀ σ H H',A6 H H'->P σ H->P σ H'
 al:∀ σ H,P σ H->Avn A H
def tTg (A:Addr->Prop)(P:St->Hp->Prop)(c k m:Nat):TE:=fun σ H Q=>P σ H/\∀ v H',A6 H H'->Tg (hid A H') c k m v->Q v H'
def a6Y (A:Addr->Prop)(P:St->Hp->Prop)(c k m n:Nat):TA:=fun σ H Q=>P σ H/\∀ xs H',A6 H H'->xs.length=n->(∀ x∈xs,Tg (hid A H') c k m x)->Q xs H'
def b0A (A:Addr->Prop)(P:St->Hp->Prop)(k m n:Nat):TA:=fun σ H Q=>P σ H/\∀ xs H',A6 H H'->xs.length=n->(∀ x∈xs,∃ c,Tg (hid A H') c k m x)->Q xs H'
section
variable {X:Cx}{A:Addr->Prop}{P:St->Hp->Prop}{c k m m' n:Nat}{e:Expr}{es:List Expr}{te:TE}{j:Option Str}{pos p2:Pos}
theorem a3X (he:PE X e te)(hi:∀ σ H Q,P σ H->(∀ v,Atm m v->Q v H)->te σ H Q):PE X e (tTg A P c k m):=fun pins s σ H Q I h=>he pins s σ H Q I (hi σ H Q h.1 fun v hv=>h.2 v H (fun _ _ z=>z) (hv _ _ _))
theorem U8 {i:Int}{j pos}(h:Sm i):PE X (.Constant (.int i) j pos) (tTg A P c k m):=a3X A3 fun _ _ _ _ q=>q _ (a6c h)
theorem b0k {b j pos}:PE X (.Constant (.bool b) j pos) (tTg A P c k m):=a3X L0 fun _ _ _ _ q=>q _ fun _ _ _=>.bl
theorem a4F {j pos}:PE X (.Constant .none j pos) (tTg A P c k m):=a3X a7s fun _ _ _ _ q=>q _ fun _ _ _=>.non
theorem W2 {x j pos}(h1:(x.cps.toList.all fun c=>decide (c<1114112))=true)(h2:x.cps.size<=m):PE X (.Constant (.str x) j pos) (tTg A P c k m):=a3X M0 fun _ _ _ _ q=>q _ fun _ _ _=>.str h1 h2
theorem J6:PA X [] (a6Y A P c k m 0):=fun pos pins s σ H Q I h=>A0 pos pins s σ H Q I (h.2 [] H (fun _ _ z=>z) rfl fun x hx=>nomatch hx)
theorem E4 (g:Gd A P)(ha:PE X e (tTg A P c k m))(hr:PA X es (a6Y A P c k m n))(hs:starEach (e::es) X.env=(false,eval e X.env)::starEach es X.env):PA X (e::es) (a6Y A P c k m (n+1)):=fun pos pins s σ H Q I h =>
 a2L ha hr hs pos pins s σ H Q I ⟨h.1,fun v H1 s1 hv=>⟨g.mono _ _ _ s1 h.1,fun xs H2 s2 hl hxs=>h.2 (v::xs) H2 (s1.trans s2) (by rw[aH,hl]) fun x hx=>by
  rcases aD.mp hx with rfl | hx
  ·exact hv.same s2.hid
  ·exact hxs x hx⟩⟩
theorem a5G:PA X [] (b0A A P k m 0):=fun pos pins s σ H Q I h=>A0 pos pins s σ H Q I (h.2 [] H (fun _ _ z=>z) rfl fun x hx=>nomatch hx)
theorem E8 (g:Gd A P)(ha:PE X e (tTg A P c k m))(hr:PA X es (b0A A P k m n))(hs:starEach (e::es) X.env=(false,eval e X.env)::starEach es X.env):PA X (e::es) (b0A A P k m (n+1)):=fun pos pins s σ H Q I h =>
 a2L ha hr hs pos pins s σ H Q I ⟨h.1,fun v H1 s1 hv=>⟨g.mono _ _ _ s1 h.1,fun xs H2 s2 hl hxs=>h.2 (v::xs) H2 (s1.trans s2) (by rw[aH,hl]) fun x hx=>by
  rcases aD.mp hx with rfl | hx
  ·exact⟨c,hv.same s2.hid⟩
  ·exact hxs x hx⟩⟩
theorem a4R {H:Hp}{p:Addr}{o:HO}(np:H p=none)(hd:Avn A H):hid A (upd H p o) p=some o:=by
 rw[N0 (hd.new np),A2]
theorem L8 {x1}(g:Gd A P)(h:PA X es (a6Y A P c k m n))(hm:n*(m+1)<=m')(hn:n<=1000):PE X (.Tuple es x1 pos) (tTg A P c (k+1) m'):=fun pins s σ H Q I q =>
 C9 h pins s σ H Q I ⟨q.1,fun xs H1 s1 hl hxs=>⟨by rw[hl];exact cH (B7 (by omega)),fun p np=>q.2 (.ref p) _ (s1.upd (s1.free np)) (by
  have:=Tg.tup (a4R np (g.al _ _ (g.mono _ _ _ s1 q.1))) fun x hx=>(hxs x hx).same (A6.hid ((A6.refl H1).upd (o:=.tup xs) np))
  rw[hl] at this
  exact this.mono (ao _) hm)⟩⟩
theorem a4G (g:Gd A P)(h:PA X es (a6Y A P 2 k m n))(hm:n*(m+1)<=m')(hn:n<=1000):PE X (.List es pos) (tTg A P 2 (k+1) m'):=fun pins s σ H Q I q =>
 D0 h pins s σ H Q I ⟨q.1,fun xs H1 s1 hl hxs=>⟨by rw[hl];exact cH (B7 (by omega)),fun p np=>q.2 (.ref p) _ (s1.upd (s1.free np)) (by
  have:=Tg.lst (a4R np (g.al _ _ (g.mono _ _ _ s1 q.1))) fun x hx=>(hxs x hx).same (A6.hid ((A6.refl H1).upd (o:=.lst xs) np))
  rw[hl] at this
  exact this.mono (ao _) hm)⟩⟩
theorem b2z (g:Gd A P):PE X (.Dict [] [] pos) (tTg A P 1 (k+1) m):=fun pins s σ H Q I q =>
 a3Y pins s σ H Q I fun p np=>q.2 (.ref p) _ ((A6.refl H).upd np) (.dict0 (a4R np (g.al _ _ q.1)))
theorem b2y {a b:Int}{j1 j2 p1 p2}(g:Gd A P)(ha:Sm a)(hb:Sm b)(hm:2<=m):PE X (.Dict [some (.Constant (.int a) j1 p1)] [.Constant (.int b) j2 p2] pos) (tTg A P 1 (k+1) m):=fun pins s σ H Q I q=>by
 refine a2K (a1i A3 A3 a2H) rfl rfl (by simp) (show 1<=15 by decide) pins s σ H Q I fun p np=>⟨A2,[(.inl a,.int b)],rfl,(show 1<=15 by decide),?_⟩
 refine q.2 (.ref p) _ (((A6.refl H).upd np).upd np) ?_;have e:hid A (upd (upd H p (.dK [])) p (.dK (Z4 [] [(.inl a,.int b)]))) p=some (.dK [(.inl a,.int b)]):=by
  rw[N0 ((g.al _ _ q.1).new np),A2];rfl
 exact (Tg.dict1 (k:=k) (m:=0) e ha hb).mono (ao _) hm
theorem a8U {i:Nat}{x:Str}{t:TA}{pos':Pos}(hN:X.N.Nodup)(hi:X.N[i]?=some x)(hx:Loc X.env.scope x)(he:PA X es t)(hf:X.fn x=true\/X.env.scope.names.lookup x=some .local) :
  PS X (.Assign [.Name x pos'] (.List es p2) pos) (a6i (b0I t) (M8 i)):=B8 hN hi hx (D0 he) rfl hf
end
theorem gd0 (A:Addr->Prop):Gd A fun _ H=>Av A H:=⟨fun _ _ _ s h=>h.same s,fun _ _ h=>h.n⟩
theorem b0P:Sm (10 ^ (30:Int).toNat):=⟨by decide +kernel,by rw[gQ];decide +kernel⟩
theorem a9s {P:St->Hp->Prop}{m:Nat}:∀(σ:St) (H:Hp) (Q:VK),P σ H->(∀ v,Atm m v->Q v H)->tOp (rI a9T fun i j=>.int (i ^ j.toNat)) (tC (.int 10)) (tC (.int 30)) σ H Q:=fun σ H Q _ q=>⟨10,30,rfl,rfl,by unfold a9T;decide,q _ (a6c b0P)⟩
structure Bt5 (mg:Str->Option Value):Prop where
 str:mg "str"=none
theorem a5H {X:Cx}{k:Nat}{f:Addr}{fd:FuncData}{ps:List Str}{sp:Sp}{x:Str}{st:Stmt}{p pos:Pos}(G:B6 X.prog X.w X.K X.mg X.base CX0 k f fd ps sp)(D:Df X.K X.mg x st f fd ps)(hr:Q1 k X.A)
  (hg:Gl X x:=by rfl) (hdb:(x == ("__debug__":Str))=false:=by decide):PE X (.Call (.Name x p) [] [] pos) (a3r sp [] E0 a8J):=a7v G hr hg D.m D.F.kp D.b .nil b0m hdb
theorem a4B:∀ i:Fin 70,((Str.ofString (toString ((i.val:Nat):Int))).cps.toList.all fun c=>decide (c<1114112))=true/\(Str.ofString (toString ((i.val:Nat):Int))).cps.size<=10:=by decide +kernel
theorem a9O {m:Nat}{i:Int}(h0:0<=i)(h1:i<70)(hm:10<=m):Atm m (.str (Str.ofString (toString i))):=fun _ _ _=>by
 have:=a4B ⟨i.toNat,by omega⟩;rw[show ((i.toNat:Nat):Int)=i by omega] at this;exact .str this.1 (bj this.2 hm)
theorem N3 {i:Int}(h0:0<=i)(h1:i<1000):Sm i:=P8 (fj (show i.natAbs<1000 by omega) (by decide))
def b0j (K:ae):R2:=fun x y H Q=>a2C K x y H Q
theorem a1A {X:Cx}(K:ae)(h:X.K=K:=by rfl):OpR X (binaryOp .Add) (b0j K):=b1J K h
theorem S7 {K:ae}{H:Hp}{a b:Addr}{xs ys:List V}{Q:VK}(ha:H a=some (.tup xs))(hb:H b=some (.tup ys))(hz:xs.length+ys.length<=10000)(q:∀ p H',A6 H H'->H' p=some (.tup (xs++ys))->Q (.ref p) H'):b0j K (.ref a) (.ref b) H Q:=by
 refine⟨a,b,xs,ys,rfl,rfl,SqT.of ha,SqT.of hb,cH (B7 (by omega)),fun e=>?_,fun _ e=>?_,fun _ _ p np=>q p _ ((A6.refl H).upd np) A2⟩
 ·subst e;exact q b H (A6.refl H) hb
 ·subst e;exact q a H (A6.refl H) (by rw[bU];exact ha)
def b2u (K:ae):V->Option Int->Option Int->Hp->VK->Prop:=fun x lo hi H Q=>a7m K x lo hi H Q
theorem a3F {X:Cx}(K:ae)(h:X.K=K:=by rfl):SlR X (b2u K):=a7g K h
theorem T2 {K:ae}{H:Hp}{a:Addr}{xs:List V}{lo hi:Option Int}{Q:VK}(ha:H a=some (.tup xs))(q:∀ p H',A6 H H'->H' p=some (.tup (U5 xs lo hi))->Q (.ref p) H'):b2u K (.ref a) lo hi H Q:=by
 refine⟨a,xs,rfl,SqT.of ha,fun e=>q a H (A6.refl H) ?_,fun _ p np=>q p _ ((A6.refl H).upd np) A2⟩;have:U5 xs lo hi=xs:=by
  unfold U5;rw[e.1,e.2,iX,jx,bq]
 rw[this];exact ha
theorem Tg.len {H:Hp}{c k m:Nat}{a:Addr}{xs:List V}(h:Tg H c k m (.ref a))(e:H a=some (.tup xs)):xs.length<=m:=by
 obtain⟨D,hD,hN⟩:=h;cases hD with
 | sc h=>cases h
 | @tup _ ys ds e2 hs =>
  rw[e] at e2;cases e2;have h1:=hN.bk;rw[PyData.bulk] at h1;refine bj ?_ h1;clear hN h1 e;have:∀ {xs:List V} {ds:List PyData},Dds H xs ds->xs.length<=PyData.bulkAll ds:=fun {xs}=>by
   induction xs with
   | nil=>exact fun _=>bf _
   | cons x r ih =>
    intro ds h;cases h with
    | cons _ t =>
     have:=ih t;rw[aH,PyData.bulkAll];omega
  exact this hs
 | lst e2 _=>rw[e] at e2;cases e2
 | dct e2 _=>rw[e] at e2;cases e2
 | dc1 e2 _ _=>rw[e] at e2;cases e2
theorem a3d {α:Type}(f:α->V)(l:List α)(lo hi:Option Int):∃ l':List α,U5 (l.map f) lo hi=l'.map f/\(∀ x∈l',x∈l)/\l'.length<=l.length:=by
 unfold U5;refine⟨(l.drop (HT.sIx (l.map f).length 0 lo)).take (HT.sIx (l.map f).length (l.map f).length hi-HT.sIx (l.map f).length 0 lo),?_,fun x hx=>jB (List.mem_of_mem_take hx),?_⟩
 ·rw[ja,List.map_drop]
 ·rw[bA,hV];omega
theorem a1F {xs:List V}{k:Int}(h0:0<=k)(h1:k<xs.length):∃ v∈xs,atI xs k=some v:=by
 obtain⟨j,rfl⟩:∃ j:Nat,k=j:=⟨_,(bH h0).symm⟩
 have h3:j<xs.length:=by omega
 exact⟨xs[j],fY _,N7 (aq h3)⟩
theorem a1j {xs:List V}(h:0<xs.length)(z:Int):∃ v∈xs,atI xs (z % (xs.length:Int))=some v:=by
 have h1:=bE z (b:=(xs.length:Int)) (by omega);have h2:=bn z (b:=(xs.length:Int)) (by omega);obtain⟨k,hk⟩:∃ k:Nat,z % (xs.length:Int)=k:=⟨_,(bH h1).symm⟩
 rw[hk];have h3:k<xs.length:=by omega
 exact⟨xs[k],fY _,N7 (aq h3)⟩
end L2
end
section
namespace L2
open PySem
section
variable {n:Int}{ts us:List (Int×Int)}
theorem M4.reach (hw:M4 n us){u x:Int}(u0:0<=u)(u1:u<n)(x0:0<=x)(x1:x<n):Rch us (·∈E5 0 n.toNat) u x:=by
 refine hw.conn (fun y=>Rch us (·∈E5 0 n.toNat) u y) (fun t ht=>?_) u x u0 u1 x0 x1 .base;obtain⟨h0,h1,h2⟩:=hw.rng t ht;have e:t.2∈nb us t.1:=X0.mpr (.inl ht);exact⟨fun h=>h.step e (K0.mpr ⟨by omega,by omega⟩),fun h=>h.step ((W7 hw.rng).mp e) (K0.mpr ⟨by omega,by omega⟩)⟩
end
end L2
end
section
namespace L2
open PySem
def dV:V->PyData
 | .int i=>.int i
 | _=>.none
def NI (xs:List V):Prop:=∀ x∈xs,x=.non\/∃ i,x=.int i
end L2
end
section
namespace L2
open PySem PySem.Spec PyProof.Rows
theorem a1D:∀ {bs:List Bool} {us:List Value},C8 (bs.map V.bl) us->∀(i:Nat) (v:Value),us[i]?=some v->v=aT (bs.getD i false)
 | [],_,.nil,i,v,h=>by simp at h
 | b::r,_,.cons q t,0,v,h=>by simp at h;subst h;exact q
 | b::r,_,.cons q t,i+1,v,h=>by simp at h;exact a1D t i v h
theorem a6k (bs:List Bool):(List.range bs.length).any (fun i=>bs.getD i false)=bs.any id:=by
 induction bs with
 | nil=>rfl
 | cons b r ih =>
  rw[aH,jj,dI,List.any_map,dI];congr 1
section
variable {X:Cx}
def b1M (K:ae):List V->Hp->VK->Prop:=fun xs H Q=>∃(p:Addr) (bs:List Bool),xs=[.ref p]/\SqL K H p (bs.map V.bl)/\Q (.bl (bs.any id)) H
theorem a6P (hh:X.A.handled=none):L4 X (.builtin "any") (b1M X.K):=by
 intro pins s σ H xs us Q I r h;obtain⟨p,bs,rfl,hq,q⟩:=h;obtain⟨u,rfl,ru⟩:=Q5 r;cases ru;obtain⟨its,rv,pl,hz⟩:=I.list hq;have hl:s.heap.IsList p its.toArray:=pl.isList;have hlen:its.length=bs.length:=by rw[<- rv.length,ab]
 refine call_any_walk (fq hl ?_);have hpu:∀ b o,s.heap.get? b=some o->(s.heap.push {cls:=.type "list_iterator",data:=.fields #[.ref p,.int 0 0]}).get? b=some o:=fun b o e=>ag _ e
 have hne:p≠s.heap.objs.size:=by
  obtain⟨o,ho,_⟩:=hl;exact aP (aC ho)
 refine⟨_,_,_,_,_,_,fun i=>bs.getD i false,rfl,jO (prog:=X.prog) (w:=X.w) (A:=X.A.in1) hh s.heap.objs.size p hne its.toArray,⟨⟨_,aB _ rfl,rfl,rfl⟩,hl.at fun o e=>hpu _ _ e⟩,?_,?_⟩
 ·intro i v s' Q' E' hP hQ;have:v=aT (bs.getD i false):=a1D rv i v (by simpa using hP);subst this;exact dq hQ
 ·intro h' tk hk;have e:(List.range its.toArray.size).any (fun i=>bs.getD i false)=bs.any id:=by rw[aK,hlen];exact a6k bs
  rw[e];refine⟨.bl _,H,I.kept fun b o eb=>hk b o (fun hm=>?_) (hpu b o eb),rfl,q⟩;rw[ah.mp hm] at eb;exact absurd (aC eb) (cP _)
theorem b3C (K:ae)(hh:X.A.handled=none)(h:X.K=K:=by rfl):L4 X (.builtin "any") (b1M K):=by subst h;exact a6P hh
theorem a6R:bootBuiltins "any"=some (.builtin "any"):=by decide +kernel
end
def b2F (K:ae)(tl:TE):TI:=fun σ H R=>tl σ H fun x H1=>∃ a,x=.ref a/\(((∃ xs,SqL K H1 a xs)/\R (Itl K a) H1)\/((∃ xs,SqT K H1 a xs)/\R (Itt K a) H1))
theorem a8X {X:Cx}{tg l:Expr}{tl:TE}(K:ae)(hl:PE X l tl)(h:X.K=K:=by rfl):PI X tg l (b2F K tl):=by
 subst h;intro pins s σ H R I h;refine thn (hl pins s σ H _ I h) fun v s1 ⟨x,H1,I1,r1,q1⟩=>?_
 obtain⟨a,e,⟨⟨xs,hq⟩,q⟩ | ⟨⟨xs,hq⟩,q⟩⟩:=q1
 ·subst e;cases r1;obtain⟨its,rv,p,hz⟩:=I1.list hq;refine fq p.isList ?_;refine⟨s1.heap.objs.size,[s1.heap.objs.size],_,_,H1,rfl,I1.kept (t':=s1.toks) fun b o e=>ag _ e,a1Q a _,⟨_,aB _ rfl,rfl,rfl⟩,fun b hb=>?_,q⟩;have e:b=s1.heap.objs.size:=by simpa using hb
  subst e;exact I1.fpOk (ao _) (I1.hok.fresh (ao _))
 ·subst e;cases r1;obtain⟨its,rv,p,hz⟩:=I1.tuple hq;refine eZ (show s1.heap.IsTuple a its.toArray from p) ?_;refine⟨s1.heap.objs.size,[s1.heap.objs.size],_,_,H1,rfl,I1.kept (t':=s1.toks) fun b o e=>ag _ e,a0Q a _,⟨_,aB _ rfl,rfl,rfl⟩,fun b hb=>?_,q⟩;have e:b=s1.heap.objs.size:=by simpa using hb
  subst e;exact I1.fpOk (ao _) (I1.hok.fresh (ao _))
def b3H (g:TG)(tb:TS)(D:U2)(σ:St)(J:It)(H1:Hp):Prop:=b0J (fun _ H R=>R J H) g tb D σ H1
theorem Y1 {wi:TI}{g:TG}{tb:TS}{D:U2}{σ:St}{H:Hp}:b0J wi g tb D σ H=wi σ H (fun J H1=>b3H g tb D σ J H1):=rfl
def X2 (n:Int)(ts:List (Int×Int)):List (List Int):=(List.range n.toNat).map fun (v:Nat)=>(v:Int)::nb ts (v:Int)
theorem a1p {n:Int}{ts:List (Int×Int)}{v:Int}(h0:0<=v)(h1:v<n):(X2 n ts)[v.toNat]?=some (v::nb ts v):=by
 unfold X2;rw[aF,fz (by omega)];show some (((v.toNat:Nat):Int)::nb ts ((v.toNat:Nat):Int))=_;rw[bH h0]
theorem a1o (n:Int)(ts:List (Int×Int)):(X2 n ts).length=n.toNat:=by unfold X2;simp
theorem a4k {n:Int}{ts:List (Int×Int)}{i:Nat}(h:i<n.toNat):(X2 n ts).take (i+1)=(X2 n ts).take i++[(i:Int)::nb ts (i:Int)]:=by
 have:=a1p (n:=n) (ts:=ts) (v:=(i:Int)) (by omega) (by omega);rw[b6] at this;exact L5 this
end L2
end
section
namespace L2
open PySem
section
variable {n:Int}{ts:List (Int×Int)}{A B:Int->Prop}{u v x:Int}
theorem Rch.tr (h:Rch ts A u v)(k:Rch ts A v x):Rch ts A u x:=by
 induction k with
 | base=>exact h
 | step _ hy ha ih=>exact .step ih hy ha
theorem Rch.mono' (h:Rch ts A u x)(k:∀ y,A y->B y):Rch ts B u x:=by
 induction h with
 | base=>exact .base
 | step _ hy ha ih=>exact .step ih hy (k _ ha)
theorem Rch.sy (hok:P4 n ts)(h:Rch ts A u x)(ha:A u):Rch ts A x u:=by
 induction h with
 | base=>exact .base
 | @step y z k hz az ih =>
  have ay:A y:=k.mem ha;exact Rch.tr (.step .base ((W7 hok).mp hz) ay) ih
end
def Hng (ts:List (Int×Int))(us:List Int):Prop:=us≠[]/\∀ x∈us,∀ y∈us,Rch ts (·∈us) x y
def S8 (n:Int)(ts:List (Int×Int))(us:List Int):Prop:=Hng ts us/\∀ x,0<=x->x<n->x∉us->∃ y∈nb ts x,y∈us
theorem a1v {n:Int}{ts:List (Int×Int)}{us:List Int}{u:Int}(hok:P4 n ts)(hu:u∈us)(h:∀ y∈us,Rch ts (·∈us) u y):Hng ts us :=
 ⟨fun e=>(by rw[e] at hu;cases hu),fun x hx y hy=>((h x hx).sy hok hu).tr (h y hy)⟩
theorem a7Q {us l:List Int}(hnd:us.Nodup)(hs:us ⊆ l)(hl:l.length<=us.length)(hl2:l.Nodup):∀ x∈l,x∈us:=by
 intro x hx;refine aZ fun hn=>?_
 have h1:(x::us).Nodup:=cf.mpr ⟨hn,hnd⟩;have h2:(x::us) ⊆ l:=fun y hy=>by
  rcases aD.mp hy with rfl | hy
  ·exact hx
  ·exact hs hy
 have:=U1 h1 h2;rw[aH] at this;omega
theorem a2h {us:List Int}:∀ {l:List Int},(l.filter fun x=>!decide (x∈us)).length+(l.filter fun x=>decide (x∈us)).length=l.length
 | []=>rfl
 | a::l=>by
  have ih:=a2h (us:=us) (l:=l);by_cases h:a∈us
  ·rw[dH (by simp[h]),dG (by simp[h]),aH,aH];omega
  ·rw[dG (by simp[h]),dH (by simp[h]),aH,aH];omega
theorem a8E {n:Int}{ts:List (Int×Int)}{us zs:List Int}(hnd:us.Nodup)(hr:∀ x∈us,0<=x/\x<n)(h0:0<=n)(hz:zs.Pairwise (·<·))(hm:∀ x,x∈zs↔0<=x/\x<n/\x∉us/\∃ y∈us,y∈nb ts x) :
  ((zs.length:Int)+us.length=n)↔∀ x,0<=x->x<n->x∉us->∃ y∈nb ts x,y∈us:=by
 have ho:∀ x,x∈(E5 0 n.toNat).filter (fun x=>!decide (x∈us))↔(0<=x/\x<n)/\x∉us:=fun x=>by
  rw[bd,K0];simp;omega
 have hond:((E5 0 n.toNat).filter fun x=>!decide (x∈us)).Nodup:=C7 S6;have hc:((E5 0 n.toNat).filter fun x=>decide (x∈us)).length=us.length:=by
  refine List.Perm.length_eq ((iO (C7 S6) hnd).mpr fun x=>?_);rw[bd,K0];constructor
  ·intro h;simpa using h.2
  ·intro h;have:=hr x h;exact⟨⟨by omega,by omega⟩,by simpa using h⟩
 have hsp:=a2h (us:=us) (l:=E5 0 n.toNat);rw[E7] at hsp;constructor
 ·intro e x x0 x1 hx;have:=a7Q (C7 hz) (fun y hy=>(ho y).mpr (by have:=(hm y).mp hy;exact⟨⟨this.1,this.2.1⟩,this.2.2.1⟩)) (by omega) hond x ((ho x).mpr ⟨⟨x0,x1⟩,hx⟩);obtain⟨_,_,_,y,hy,hyx⟩:=(hm x).mp this;exact⟨y,hyx,hy⟩
 ·intro h;have:zs=(E5 0 n.toNat).filter fun x=>!decide (x∈us):=a1g hz S6 fun x=>by
   rw[hm,ho];constructor
   ·rintro⟨a,b,c,_⟩;exact⟨⟨a,b⟩,c⟩
   ·rintro⟨⟨a,b⟩,c⟩;obtain⟨y,hy,hyu⟩:=h x a b c;exact⟨a,b,c,y,hyu,hy⟩
  rw[this];omega
end L2
end
section
namespace L2
open PySem
structure TB where
 vs:List Int
 ws:List Int
 par:Int->Int
end L2
end
section
namespace L2
open PySem
section
variable {n:Int}{ts gs us:List (Int×Int)}{ins:List Int}
theorem X7 {a b:Int}(hab:a≠b)(v:Int):(nb (gs++[mm a b]) v).length=(nb gs v).length+if v=a\/v=b then 1 else 0:=by
 rw[a5J,aE];congr 1;rcases a7S hab with ⟨_,e⟩ | ⟨_,e⟩
 ·rw[e];dsimp only;by_cases h1:b=v
  ·rw[if_pos h1,if_pos (.inr h1.symm)];rfl
  ·rw[if_neg h1];by_cases h2:a=v
   ·rw[if_pos h2,if_pos (.inl h2.symm)];rfl
   ·rw[if_neg h2,if_neg (fun h=>h.elim (fun z=>h2 z.symm) fun z=>h1 z.symm)];rfl
 ·rw[e];dsimp only;by_cases h1:a=v
  ·rw[if_pos h1,if_pos (.inl h1.symm)];rfl
  ·rw[if_neg h1];by_cases h2:b=v
   ·rw[if_pos h2,if_pos (.inr h2.symm)];rfl
   ·rw[if_neg h2,if_neg (fun h=>h.elim (fun z=>h1 z.symm) fun z=>h2 z.symm)];rfl
theorem b1G (G:P6 ts ins gs){b:Int}(hb:b∉ins):(nb gs b).length=0:=by
 rw[List.length_eq_zero_iff];refine List.eq_nil_iff_forall_not_mem.mpr fun y hy=>?_
 rcases X0.mp hy with q | ⟨q,_⟩
 ·exact hb (G.ends _ q).1
 ·exact hb (G.ends _ q).2
theorem b1F (G:P6 ts ins gs):2<=ins.length->∀ v∈ins,1<=(nb gs v).length:=by
 induction G with
 | one s=>intro h;simp at h
 | @add ins us a b h ha hb hn ih =>
  intro _ v hv;have hab:a≠b:=fun e=>hb (e ▸ ha)
  rw[X7 hab];rcases ak.mp hv with hv | hv
  ·by_cases hl:2<=ins.length
   ·have:=ih hl v hv;omega
   ·have h1:ins.length=1:=by have:=h.len;omega
    obtain⟨x,rfl⟩:=List.length_eq_one_iff.mp h1;rw[ah.mp hv,ah.mp ha,if_pos (.inl rfl)];omega
  ·rw[ah.mp hv,if_pos (.inr rfl)];omega
theorem a6H (hok:P4 n ts)(G:P6 ts ins gs):3<=ins.length->(∃ u,(u∈ins/\2<=(nb gs u).length)/\∀ x,x∈ins->2<=(nb gs x).length->Rch ts (fun z=>z∈ins/\2<=(nb gs z).length) u x) /\
  ∀ x∈ins,(nb gs x).length<2->∃ y∈nb ts x,y∈ins/\2<=(nb gs y).length:=by
 induction G with
 | one s=>intro h;simp at h
 | @add ins us a b h ha hb hn ih =>
  intro hl;rw[aE,bK] at hl;have hab:a≠b:=fun e=>hb (e ▸ ha)
  have hpos:=b1F h (by omega);have dgb:=b1G h hb;have ea:2<=(nb (us++[mm a b]) a).length:=by rw[X7 hab,if_pos (.inl rfl)];have:=hpos a ha;omega
  have eb:(nb (us++[mm a b]) b).length<2:=by rw[X7 hab,if_pos (.inr rfl)];omega
  have hba:a∈nb ts b:=(W7 hok).mp hn;have ha':a∈ins++[b]:=cM _ ha;by_cases h3:3<=ins.length
  ·obtain⟨⟨u,⟨hu1,hu2⟩,hur⟩,hlf⟩:=ih h3;have mono:∀ z,z∈ins/\2<=(nb us z).length->z∈ins++[b]/\2<=(nb (us++[mm a b]) z).length:=fun z hz=>⟨cM _ hz.1,by rw[X7 hab];omega⟩
   refine⟨⟨u,mono u ⟨hu1,hu2⟩,fun x hx hx2=>?_⟩,fun x hx hx2=>?_⟩
   ·rcases ak.mp hx with hx | hx
    ·by_cases hd:2<=(nb us x).length
     ·exact (hur x hx hd).mono' mono
     ·have hxa:x=a:=by
       rw[X7 hab] at hx2;split at hx2
       ·rename_i q;rcases q with q | q
        ·exact q
        ·rw[q] at hx;exact absurd hx hb
       ·omega
      subst hxa;obtain⟨c,hc,hci,hcd⟩:=hlf x hx (by omega);exact .step ((hur c hci hcd).mono' mono) ((W7 hok).mp hc) ⟨ha',ea⟩
    ·rw[ah.mp hx] at hx2;omega
   ·rcases ak.mp hx with hx | hx
    ·have hd:(nb us x).length<2:=by rw[X7 hab] at hx2;omega
     obtain⟨c,hc,hci,hcd⟩:=hlf x hx hd;exact⟨c,hc,mono c ⟨hci,hcd⟩⟩
    ·rw[ah.mp hx];exact⟨a,hba,ha',ea⟩
  ·have h2:ins.length=2:=by omega
   cases h with
   | one s=>simp at h2
   | @add ins us c d h' hc hd hcd =>
    rw[aE,bK] at h2;cases h' with
    | @add _ _ _ _ h'' _ _ _=>have:=h''.len;rw[aE,bK] at h2;omega
    | one s =>
     have ecs:=ah.mp hc;subst ecs;have hcd':c≠d:=fun e=>hd (e ▸ hc)
     have hmem:∀ z,z∈[c]++[d]↔z=c\/z=d:=fun z=>by simp
     have e0:∀ z,(nb ([]++[mm c d]++[mm a b]) z).length=(if z=c\/z=d then 1 else 0)+if z=a\/z=b then 1 else 0:=fun z=>by
      rw[X7 hab,X7 hcd',show (nb ([]:List (Int×Int)) z).length=0 from rfl,cZ]
     refine⟨⟨a,⟨ha',ea⟩,fun x hx hx2=>?_⟩,fun x hx hx2=>?_⟩
     ·have:x=a:=by
       rw[e0] at hx2;have hxb:x≠b:=fun e=>by rw[e] at hx2;rw[if_neg (c:=b=c\/b=d) (fun q=>hb ((hmem b).mpr q))] at hx2;split at hx2<;>omega
       by_cases q:x=a
       ·exact q
       ·rw[if_neg (c:=x=a\/x=b) (fun k=>k.elim q hxb)] at hx2;split at hx2<;>omega
      rw[this];exact .base
     ·refine⟨a,?_,ha',ea⟩;rcases ak.mp hx with hx | hx
      ·have hxa:x≠a:=fun e=>by rw[e] at hx2;omega
       rcases (hmem x).mp hx with rfl | rfl
       ·rcases (hmem a).mp ha with q | q
        ·exact absurd q.symm hxa
        ·rw[q];exact hcd
       ·rcases (hmem a).mp ha with q | q
        ·rw[q];exact (W7 hok).mp hcd
        ·exact absurd q.symm hxa
      ·rw[ah.mp hx];exact hba
theorem X8.busy (T:X8 n ts us)(hok:P4 n ts)(h3:3<=n){L:List Int}(hL:∀ x,x∈L↔(0<=x/\x<n)/\1<(nb us x).length):S8 n ts L:=by
 obtain⟨ins,gs,G,p,hl,hr⟩:=T.grown;have hall:∀ v,0<=v->v<n->v∈ins:=fun v h0 h1=>by
  apply aZ;intro hv;have:=M6 (n:=n) (cf.mpr ⟨hv,G.nd⟩) fun x hx=>by
   rcases aD.mp hx with rfl | hx
   ·exact⟨h0,h1⟩
   ·exact hr x hx
  rw[aH] at this;omega
 have hd:∀ v,(nb us v).length=(nb gs v).length:=fun v=>by unfold nb;exact (p.filterMap _).length_eq
 have hm:∀ z,z∈ins/\2<=(nb gs z).length->z∈L:=fun z hz=>(hL z).mpr ⟨hr z hz.1,by rw[hd];omega⟩
 obtain⟨⟨u,hu,hur⟩,hlf⟩:=a6H hok G (by omega);refine⟨a1v hok (hm u hu) fun y hy=>?_,fun x x0 x1 hx=>?_⟩
 ·obtain⟨hy1,hy2⟩:=(hL y).mp hy;rw[hd] at hy2;exact (hur y (hall y hy1.1 hy1.2) (by omega)).mono' hm
 ·have hlt:(nb gs x).length<2:=by
   apply aZ;intro h;exact hx ((hL x).mpr ⟨⟨x0,x1⟩,by rw[hd];omega⟩)
  obtain⟨y,hy,hy2⟩:=hlf x (hall x x0 x1) hlt;exact⟨y,hy,hm y hy2⟩
theorem S8.more {us vs:List Int}(hok:P4 n ts)(h:S8 n ts us)(hs:∀ x∈us,x∈vs)(hr:∀ x∈vs,0<=x/\x<n):S8 n ts vs:=by
 obtain⟨u,hu⟩:=dA us h.1.1;refine⟨a1v hok (hs u hu) fun y hy=>?_,fun x x0 x1 hx=>?_⟩
 ·by_cases hyu:y∈us
  ·exact (h.1.2 u hu y hyu).mono' hs
  ·obtain⟨z,hz,hzu⟩:=h.2 y (hr y hy).1 (hr y hy).2 hyu;exact .step ((h.1.2 u hu z hzu).mono' hs) ((W7 hok).mp hz) hy
 ·obtain⟨y,hy,hyu⟩:=h.2 x x0 x1 fun k=>hx (hs x k)
  exact⟨y,hy,hs y hyu⟩
theorem a5f (hw:M4 n ts):S8 n ts (E5 0 n.toNat):=by
 have h3:=hw.n3;refine⟨⟨fun e=>?_,fun x hx y hy=>?_⟩,fun x x0 x1 hx=>absurd (K0.mpr ⟨x0,by omega⟩) hx⟩
 ·have:=congrArg gB e;rw[E7] at this;simp at this;omega
 ·have a:=K0.mp hx;have b:=K0.mp hy;exact hw.reach a.1 (by omega) b.1 (by omega)
end
end L2
end
section
namespace L2
open PySem
section
variable {n:Int}{ts T T' T'':List (Int×Int)}{put taken:Int×Int}
theorem a9q (hok:P4 n ts)(hs:∀ t∈T,t∈ts){a b:Int}(h:b∈nb T a):b∈nb ts a:=by
 have hT:P4 n T:=fun t ht=>hok t (hs t ht)
 rw[a1l hok];exact ((a1l hT).mp h).imp (hs _) (hs _)
theorem P6.mono {ins:List Int}{gs:List (Int×Int)}(g:P6 T ins gs)(hok:P4 n ts)(hs:∀ t∈T,t∈ts):P6 ts ins gs:=by
 induction g with
 | one s=>exact .one s
 | add _ ha hb hn ih=>exact .add ih ha hb (a9q hok hs hn)
end
end L2
end
section
namespace L2
open PySem
section
variable {n:Int}{ts:List (Int×Int)}{us bs:List Int}
theorem a9r (vs:List Int)(hv:∀ v∈vs,v∈us):(a7U n ts us vs).Pairwise fun l m=>∃ v∈us,m=W5 n ts us v/\v∉l:=by
 have gen:∀(vs:List Int) (acc:List (List Int)),(∀ v∈vs,v∈us)->(acc.Pairwise fun l m=>∃ v∈us,m=W5 n ts us v/\v∉l)->(vs.foldl (M7 (W5 n ts us)) acc).Pairwise fun l m=>∃ v∈us,m=W5 n ts us v/\v∉l:=by
  intro vs;induction vs with
  | nil=>intro acc _ h;exact h
  | cons v r ih =>
   intro acc hv h;refine ih _ (fun w hw=>hv w (aM _ hw)) ?_;unfold M7;by_cases hc:(acc.any fun l=>decide (v∈l))=true
   ·rw[if_pos hc];exact h
   ·rw[if_neg hc,bY];refine⟨h,bT _ _,fun l hl m hm=>?_⟩;rw[ah.mp hm];exact⟨v,hv v (aN ..),rfl,fun hvl=>hc ((a6e _ _).mpr ⟨l,hl,hvl⟩)⟩
 exact gen vs [] hv iR
theorem a7T (hok:P4 n ts)(hr:∀ x∈us,0<=x/\x<n)(vs:List Int)(hv:∀ v∈vs,v∈us):∀ v∈vs,X5 (a7U n ts us vs) v:=by
 have gen:∀(vs:List Int) (acc:List (List Int)),(∀ v∈vs,v∈us)->(∀ x,X5 acc x->X5 (vs.foldl (M7 (W5 n ts us)) acc) x)/\∀ v∈vs,X5 (vs.foldl (M7 (W5 n ts us)) acc) v:=by
  intro vs;induction vs with
  | nil=>intro acc _;exact⟨fun x h=>h,fun v h=>by cases h⟩
  | cons v r ih =>
   intro acc hv;obtain⟨h1,h2⟩:=ih (M7 (W5 n ts us) acc v) fun w hw=>hv w (aM _ hw)
   have hvu:=hv v (aN ..);have key:(∀ x,X5 acc x->X5 (M7 (W5 n ts us) acc v) x)/\X5 (M7 (W5 n ts us) acc v) v:=by
    unfold M7;by_cases hc:(acc.any fun l=>decide (v∈l))=true
    ·rw[if_pos hc];exact⟨fun x h=>h,(a6e _ _).mp hc⟩
    ·rw[if_neg hc];exact⟨fun x h=>(a1u _ _).mpr (.inl h),(a1u _ _).mpr (.inr ((a4T hok (hr v hvu).1 (hr v hvu).2).mpr .base))⟩
   refine⟨fun x h=>h1 x (key.1 x h),fun w hw=>?_⟩;rcases aD.mp hw with rfl | hw
   ·exact h1 _ key.2
   ·exact h2 w hw
 exact (gen vs [] hv).2
end
end L2
end
section
namespace L2
open PySem PySem.Spec PyProof.Rows
section
variable {H:Hp}{n:Int}
theorem P5.inj {ps ps':List (Addr×List Int)}{us us':List (Int×Int)}(h:P5 H ps us)(h':P5 H ps' us')(e:ps.map (fun x=>V.ref x.1)=ps'.map fun x=>V.ref x.1):us=us':=by
 have hl:us.length=us'.length:=by
  have:=congrArg gB e;rw[ab,ab,h.len,h'.len] at this;exact this
 refine dD fun i=>?_
 rcases cc i us.length with hi | hi
 ·obtain⟨v,h1⟩:∃ v,(ps.map fun x=>V.ref x.1)[i]?=some v:=⟨_,aq (by rw[ab,h.len];exact hi)⟩
  obtain⟨b,t,e1,e2,e3⟩:=h.get h1;rw[e] at h1;obtain⟨b',t',e1',e2',e3'⟩:=h'.get h1;rw[e1] at e1';cases e1';rw[e3] at e3';injection e3' with e4
  injection e4 with e5
  have e6:=List.cons.inj e5;have e7:=List.cons.inj e6.2;have:t=t':=Prod.ext (V.int.inj e6.1) (V.int.inj e7.1);rw[e2,e2',this]
 ·rw[ck hi,ck (by omega)]
theorem Y4.inj {a:Addr}{us us':List (Int×Int)}(h:Y4 H a us)(h':Y4 H a us'):us=us':=by
 obtain⟨ps,e,hp⟩:=h;obtain⟨ps',e',hp'⟩:=h';rw[e] at e';injection e' with e2
 injection e2 with e3
 exact hp.inj hp' e3
end
end L2
end
section
namespace L2
theorem tV0 {v:V}{σ:St}{H:Hp}{Q:VK}:T8 0 (some v::σ) H Q=Q v H:=propext ⟨fun ⟨_,e,q⟩=>by cases e;exact q,fun q=>⟨_,rfl,q⟩⟩
theorem gN0 {v:V}{σ:St}{H:Hp}{Q:St->Hp->Prop}{b:Option V}:M8 0 v (b::σ) H Q=Q (some v::σ) H:=rfl
theorem tV1 {v:V}{σ:St}{H:Hp}{Q:VK}{a0:Option V}:T8 1 (a0::some v::σ) H Q=Q v H:=propext ⟨fun ⟨_,e,q⟩=>by cases e;exact q,fun q=>⟨_,rfl,q⟩⟩
theorem gN1 {v:V}{σ:St}{H:Hp}{Q:St->Hp->Prop}{b:Option V}{a0:Option V}:M8 1 v (a0::b::σ) H Q=Q (a0::some v::σ) H:=rfl
theorem tV2 {v:V}{σ:St}{H:Hp}{Q:VK}{a0 a1:Option V}:T8 2 (a0::a1::some v::σ) H Q=Q v H:=propext ⟨fun ⟨_,e,q⟩=>by cases e;exact q,fun q=>⟨_,rfl,q⟩⟩
theorem gN2 {v:V}{σ:St}{H:Hp}{Q:St->Hp->Prop}{b:Option V}{a0 a1:Option V}:M8 2 v (a0::a1::b::σ) H Q=Q (a0::a1::some v::σ) H:=rfl
theorem tV3 {v:V}{σ:St}{H:Hp}{Q:VK}{a0 a1 a2:Option V}:T8 3 (a0::a1::a2::some v::σ) H Q=Q v H:=propext ⟨fun ⟨_,e,q⟩=>by cases e;exact q,fun q=>⟨_,rfl,q⟩⟩
theorem gN3 {v:V}{σ:St}{H:Hp}{Q:St->Hp->Prop}{b:Option V}{a0 a1 a2:Option V}:M8 3 v (a0::a1::a2::b::σ) H Q=Q (a0::a1::a2::some v::σ) H:=rfl
theorem tV4 {v:V}{σ:St}{H:Hp}{Q:VK}{a0 a1 a2 a3:Option V}:T8 4 (a0::a1::a2::a3::some v::σ) H Q=Q v H:=propext ⟨fun ⟨_,e,q⟩=>by cases e;exact q,fun q=>⟨_,rfl,q⟩⟩
theorem gN4 {v:V}{σ:St}{H:Hp}{Q:St->Hp->Prop}{b:Option V}{a0 a1 a2 a3:Option V}:M8 4 v (a0::a1::a2::a3::b::σ) H Q=Q (a0::a1::a2::a3::some v::σ) H:=rfl
theorem tV5 {v:V}{σ:St}{H:Hp}{Q:VK}{a0 a1 a2 a3 a4:Option V}:T8 5 (a0::a1::a2::a3::a4::some v::σ) H Q=Q v H:=propext ⟨fun ⟨_,e,q⟩=>by cases e;exact q,fun q=>⟨_,rfl,q⟩⟩
theorem gN5 {v:V}{σ:St}{H:Hp}{Q:St->Hp->Prop}{b:Option V}{a0 a1 a2 a3 a4:Option V}:M8 5 v (a0::a1::a2::a3::a4::b::σ) H Q=Q (a0::a1::a2::a3::a4::some v::σ) H:=rfl
theorem tV6 {v:V}{σ:St}{H:Hp}{Q:VK}{a0 a1 a2 a3 a4 a5:Option V}:T8 6 (a0::a1::a2::a3::a4::a5::some v::σ) H Q=Q v H:=propext ⟨fun ⟨_,e,q⟩=>by cases e;exact q,fun q=>⟨_,rfl,q⟩⟩
theorem gN6 {v:V}{σ:St}{H:Hp}{Q:St->Hp->Prop}{b:Option V}{a0 a1 a2 a3 a4 a5:Option V}:M8 6 v (a0::a1::a2::a3::a4::a5::b::σ) H Q=Q (a0::a1::a2::a3::a4::a5::some v::σ) H:=rfl
theorem tV7 {v:V}{σ:St}{H:Hp}{Q:VK}{a0 a1 a2 a3 a4 a5 a6:Option V}:T8 7 (a0::a1::a2::a3::a4::a5::a6::some v::σ) H Q=Q v H:=propext ⟨fun ⟨_,e,q⟩=>by cases e;exact q,fun q=>⟨_,rfl,q⟩⟩
theorem gN7 {v:V}{σ:St}{H:Hp}{Q:St->Hp->Prop}{b:Option V}{a0 a1 a2 a3 a4 a5 a6:Option V}:M8 7 v (a0::a1::a2::a3::a4::a5::a6::b::σ) H Q=Q (a0::a1::a2::a3::a4::a5::a6::some v::σ) H:=rfl
theorem tV8 {v:V}{σ:St}{H:Hp}{Q:VK}{a0 a1 a2 a3 a4 a5 a6 a7:Option V}:T8 8 (a0::a1::a2::a3::a4::a5::a6::a7::some v::σ) H Q=Q v H:=propext ⟨fun ⟨_,e,q⟩=>by cases e;exact q,fun q=>⟨_,rfl,q⟩⟩
theorem gN8 {v:V}{σ:St}{H:Hp}{Q:St->Hp->Prop}{b:Option V}{a0 a1 a2 a3 a4 a5 a6 a7:Option V}:M8 8 v (a0::a1::a2::a3::a4::a5::a6::a7::b::σ) H Q=Q (a0::a1::a2::a3::a4::a5::a6::a7::some v::σ) H:=rfl
theorem tV9 {v:V}{σ:St}{H:Hp}{Q:VK}{a0 a1 a2 a3 a4 a5 a6 a7 a8:Option V}:T8 9 (a0::a1::a2::a3::a4::a5::a6::a7::a8::some v::σ) H Q=Q v H:=propext ⟨fun ⟨_,e,q⟩=>by cases e;exact q,fun q=>⟨_,rfl,q⟩⟩
theorem gN9 {v:V}{σ:St}{H:Hp}{Q:St->Hp->Prop}{b:Option V}{a0 a1 a2 a3 a4 a5 a6 a7 a8:Option V}:M8 9 v (a0::a1::a2::a3::a4::a5::a6::a7::a8::b::σ) H Q=Q (a0::a1::a2::a3::a4::a5::a6::a7::a8::some v::σ) H:=rfl
theorem b3c {v:V}{σ:St}{H:Hp}{Q:VK}{a0 a1 a2 a3 a4 a5 a6 a7 a8 a9:Option V}:T8 10 (a0::a1::a2::a3::a4::a5::a6::a7::a8::a9::some v::σ) H Q=Q v H:=propext ⟨fun ⟨_,e,q⟩=>by cases e;exact q,fun q=>⟨_,rfl,q⟩⟩
theorem b3A {v:V}{σ:St}{H:Hp}{Q:St->Hp->Prop}{b:Option V}{a0 a1 a2 a3 a4 a5 a6 a7 a8 a9:Option V}:M8 10 v (a0::a1::a2::a3::a4::a5::a6::a7::a8::a9::b::σ) H Q=Q (a0::a1::a2::a3::a4::a5::a6::a7::a8::a9::some v::σ) H:=rfl
theorem b3b {v:V}{σ:St}{H:Hp}{Q:VK}{a0 a1 a2 a3 a4 a5 a6 a7 a8 a9 a10:Option V}:T8 11 (a0::a1::a2::a3::a4::a5::a6::a7::a8::a9::a10::some v::σ) H Q=Q v H:=propext ⟨fun ⟨_,e,q⟩=>by cases e;exact q,fun q=>⟨_,rfl,q⟩⟩
theorem b3z {v:V}{σ:St}{H:Hp}{Q:St->Hp->Prop}{b:Option V}{a0 a1 a2 a3 a4 a5 a6 a7 a8 a9 a10:Option V}:M8 11 v (a0::a1::a2::a3::a4::a5::a6::a7::a8::a9::a10::b::σ) H Q=Q (a0::a1::a2::a3::a4::a5::a6::a7::a8::a9::a10::some v::σ) H:=rfl
theorem b3a {v:V}{σ:St}{H:Hp}{Q:VK}{a0 a1 a2 a3 a4 a5 a6 a7 a8 a9 a10 a11:Option V}:T8 12 (a0::a1::a2::a3::a4::a5::a6::a7::a8::a9::a10::a11::some v::σ) H Q=Q v H:=propext ⟨fun ⟨_,e,q⟩=>by cases e;exact q,fun q=>⟨_,rfl,q⟩⟩
theorem b3y {v:V}{σ:St}{H:Hp}{Q:St->Hp->Prop}{b:Option V}{a0 a1 a2 a3 a4 a5 a6 a7 a8 a9 a10 a11:Option V}:M8 12 v (a0::a1::a2::a3::a4::a5::a6::a7::a8::a9::a10::a11::b::σ) H Q=Q (a0::a1::a2::a3::a4::a5::a6::a7::a8::a9::a10::a11::some v::σ) H:=rfl
theorem b2Z {v:V}{σ:St}{H:Hp}{Q:VK}{a0 a1 a2 a3 a4 a5 a6 a7 a8 a9 a10 a11 a12:Option V}:T8 13 (a0::a1::a2::a3::a4::a5::a6::a7::a8::a9::a10::a11::a12::some v::σ) H Q=Q v H:=propext ⟨fun ⟨_,e,q⟩=>by cases e;exact q,fun q=>⟨_,rfl,q⟩⟩
theorem b3x {v:V}{σ:St}{H:Hp}{Q:St->Hp->Prop}{b:Option V}{a0 a1 a2 a3 a4 a5 a6 a7 a8 a9 a10 a11 a12:Option V}:M8 13 v (a0::a1::a2::a3::a4::a5::a6::a7::a8::a9::a10::a11::a12::b::σ) H Q=Q (a0::a1::a2::a3::a4::a5::a6::a7::a8::a9::a10::a11::a12::some v::σ) H:=rfl
theorem b2Y {v:V}{σ:St}{H:Hp}{Q:VK}{a0 a1 a2 a3 a4 a5 a6 a7 a8 a9 a10 a11 a12 a13:Option V}:T8 14 (a0::a1::a2::a3::a4::a5::a6::a7::a8::a9::a10::a11::a12::a13::some v::σ) H Q=Q v H:=propext ⟨fun ⟨_,e,q⟩=>by cases e;exact q,fun q=>⟨_,rfl,q⟩⟩
theorem b3w {v:V}{σ:St}{H:Hp}{Q:St->Hp->Prop}{b:Option V}{a0 a1 a2 a3 a4 a5 a6 a7 a8 a9 a10 a11 a12 a13:Option V}:M8 14 v (a0::a1::a2::a3::a4::a5::a6::a7::a8::a9::a10::a11::a12::a13::b::σ) H Q=Q (a0::a1::a2::a3::a4::a5::a6::a7::a8::a9::a10::a11::a12::a13::some v::σ) H:=rfl
theorem b2X {v:V}{σ:St}{H:Hp}{Q:VK}{a0 a1 a2 a3 a4 a5 a6 a7 a8 a9 a10 a11 a12 a13 a14:Option V}:T8 15 (a0::a1::a2::a3::a4::a5::a6::a7::a8::a9::a10::a11::a12::a13::a14::some v::σ) H Q=Q v H:=propext ⟨fun ⟨_,e,q⟩=>by cases e;exact q,fun q=>⟨_,rfl,q⟩⟩
theorem b3v {v:V}{σ:St}{H:Hp}{Q:St->Hp->Prop}{b:Option V}{a0 a1 a2 a3 a4 a5 a6 a7 a8 a9 a10 a11 a12 a13 a14:Option V}:M8 15 v (a0::a1::a2::a3::a4::a5::a6::a7::a8::a9::a10::a11::a12::a13::a14::b::σ) H Q=Q (a0::a1::a2::a3::a4::a5::a6::a7::a8::a9::a10::a11::a12::a13::a14::some v::σ) H:=rfl
theorem b3q {g:Int->Int->V}{i j:Int}{H:Hp}{Q:VK}:rI0 g (.int i) (.int j) H Q=Q (g i j) H:=propext ⟨fun ⟨_,_,e,e',q⟩=>by cases e;cases e';exact q,fun q=>⟨_,_,rfl,rfl,q⟩⟩
theorem rIi {C:Int->Int->Prop}{g:Int->Int->V}{i j:Int}{H:Hp}{Q:VK}:rI C g (.int i) (.int j) H Q=(C i j/\Q (g i j) H):=propext ⟨fun ⟨_,_,e,e',q⟩=>by cases e;cases e';exact q,fun q=>⟨_,_,rfl,rfl,q⟩⟩
theorem b2w {K:ae}{p:gN}{i:Int}{H:Hp}{Q:VK}:a8S K (.ref p) (.int i) H Q=∃ xs,SqL K H p xs/\∃ v,atI xs i=some v/\Q v H:=propext ⟨fun ⟨_,_,_,_,e,e',a,b,q⟩=>by cases e;cases e';exact⟨_,a,_,b,q⟩,fun ⟨_,a,_,b,q⟩=>⟨_,_,_,_,rfl,rfl,a,b,q⟩⟩
theorem b2v {K:ae}{p:gN}{i:Int}{H:Hp}{Q:VK}:a8R K (.ref p) (.int i) H Q=∃ xs,SqT K H p xs/\∃ v,atI xs i=some v/\Q v H:=propext ⟨fun ⟨_,_,_,_,e,e',a,b,q⟩=>by cases e;cases e';exact⟨_,a,_,b,q⟩,fun ⟨_,a,_,b,q⟩=>⟨_,_,_,_,rfl,rfl,a,b,q⟩⟩
theorem exB {b:Bool}{P:Bool->Prop}:(∃ k,V.bl b=V.bl k/\P k)=P b:=propext ⟨fun ⟨_,e,q⟩=>by cases e;exact q,fun q=>⟨_,rfl,q⟩⟩
theorem exI {b:Int}{P:Int->Prop}:(∃ k,V.int b=V.int k/\P k)=P b:=propext ⟨fun ⟨_,e,q⟩=>by cases e;exact q,fun q=>⟨_,rfl,q⟩⟩
theorem exR {b:gN}{P:gN->Prop}:(∃ k,V.ref b=V.ref k/\P k)=P b:=propext ⟨fun ⟨_,e,q⟩=>by cases e;exact q,fun q=>⟨_,rfl,q⟩⟩
theorem b3r {i j:Int}{H:Hp}{Q:VK}:rEq (.int i) (.int j) H Q=Q (.bl (decide (i=j))) H:=by
 unfold rEq;have e:decide (V.int i=V.int j)=decide (i=j):=by simp
 rw[e];simp[a7j]
theorem b3p {i j:Int}{H:Hp}{Q:VK}:rNe (.int i) (.int j) H Q=Q (.bl (!decide (i=j))) H:=by
 unfold rNe;have e:decide (V.int i=V.int j)=decide (i=j):=by simp
 rw[e];simp[a7j]
theorem b2N {K:ae}{p:gN}{H:Hp}{Q:VK}:b1K K [.ref p] H Q=∃ ys,(SqL K H p ys\/SqT K H p ys)/\Q (.int ys.length) H:=propext ⟨fun ⟨_,ys,e,a,q⟩=>by cases e;exact⟨ys,a,q⟩,fun ⟨ys,a,q⟩=>⟨_,ys,rfl,a,q⟩⟩
theorem al0 {α:Type}{P:List α->Prop}(h:P [])(us:List α)(hl:us.length=0):P us:=by cases us with
 | nil=>exact h
 | cons a r=>cases hl
theorem al1 {α:Type}{P:List α->Prop}(h:∀ a0,P [a0])(us:List α)(hl:us.length=1):P us:=by cases us with
 | nil=>cases hl
 | cons a r=>exact al0 (P:=fun r=>P (a::r)) (h a) r (fU hl)
theorem al2 {α:Type}{P:List α->Prop}(h:∀ a0 a1,P [a0,a1])(us:List α)(hl:us.length=2):P us:=by cases us with
 | nil=>cases hl
 | cons a r=>exact al1 (P:=fun r=>P (a::r)) (h a) r (fU hl)
theorem al3 {α:Type}{P:List α->Prop}(h:∀ a0 a1 a2,P [a0,a1,a2])(us:List α)(hl:us.length=3):P us:=by cases us with
 | nil=>cases hl
 | cons a r=>exact al2 (P:=fun r=>P (a::r)) (h a) r (fU hl)
theorem al4 {α:Type}{P:List α->Prop}(h:∀ a0 a1 a2 a3,P [a0,a1,a2,a3])(us:List α)(hl:us.length=4):P us:=by cases us with
 | nil=>cases hl
 | cons a r=>exact al3 (P:=fun r=>P (a::r)) (h a) r (fU hl)
theorem al5 {α:Type}{P:List α->Prop}(h:∀ a0 a1 a2 a3 a4,P [a0,a1,a2,a3,a4])(us:List α)(hl:us.length=5):P us:=by cases us with
 | nil=>cases hl
 | cons a r=>exact al4 (P:=fun r=>P (a::r)) (h a) r (fU hl)
end L2
end
section
namespace L2
open PySem
theorem b2a {t u:TS}{D:U2}{σ:St}{H:Hp}:b0C t u D σ H=(t {D with nx:=u D} σ H):=rfl
theorem b2q {te:TE}{g:TG}{D:U2}{σ:St}{H:Hp}:a6i te g D σ H=(te σ H fun x H1=>g x σ H1 D.nx):=rfl
theorem b3h {r:R2}{ta tb:TE}{σ:St}{H:Hp}{Q:VK}:tOp r ta tb σ H Q=(ta σ H fun x H1=>tb σ H1 fun y H2=>r x y H2 Q):=rfl
theorem tCA {v:V}{u0:St}{H:Hp}{Q:VK}:tC v u0 H Q=(Q v H):=rfl
theorem b2c {te:TE}{D:U2}{σ:St}{H:Hp}:b2d te D σ H=(te σ H D.rt):=rfl
theorem b0D {D:U2}{u0:St}{H:Hp}:b2b D u0 H=(D.rt .non H):=rfl
theorem b2l {c:TT}{t u:TS}{D:U2}{σ:St}{H:Hp}:b2m c t u D σ H=(c σ H fun b H1=>if b=true then t D σ H1 else u D σ H1):=rfl
theorem b0B {t:TE}{σ:St}{H:Hp}{Q:Bool->Hp->Prop}:a9W t σ H Q=(t σ H fun x H'=>∃ k,x=.bl k/\Q k H'):=rfl
theorem tBA {t:TE}{σ:St}{H:Hp}{Q:Bool->Hp->Prop}:tB t σ H Q=(t σ H fun x H1=>∃ c,x=.bl c/\Q c H1):=rfl
theorem b0H {D:U2}{σ:St}{H:Hp}:b0b D σ H=(D.nx σ H):=rfl
theorem b0K {te:TE}{D:U2}{σ:St}{H:Hp}:b0c te D σ H=(te σ H fun _ H1=>D.nx σ H1):=rfl
theorem b0M {sp:Sp}{dvs:List V}{E:XK}{t:TA}{σ:St}{H:Hp}{Q:VK}:a3r sp dvs E t σ H Q=(t σ H fun vs H1=>sp (vs++dvs) H1 Q E):=rfl
theorem b0L {ta:TE}{tr:TA}{σ:St}{H:Hp}{Q:List V->Hp->Prop}:b0e ta tr σ H Q=(ta σ H fun x H1=>tr σ H1 fun xs H2=>Q (x::xs) H2):=rfl
theorem b2i {u0:St}{H:Hp}{Q:List V->Hp->Prop}:a8J u0 H Q=(Q [] H):=rfl
theorem b3m {r:List V->Hp->VK->Prop}{t:TA}{σ:St}{H:Hp}{Q:VK}:tCB r t σ H Q=(t σ H fun vs H1=>r vs H1 Q):=rfl
theorem b3n {K:ae}{T:String}{r:V->List V->Hp->VK->Prop}{to:TE}{t:TA}{σ:St}{H:Hp}{Q:VK}:tBM K T r to t σ H Q=(to σ H fun x H1=>tyV K T x H1/\t σ H1 fun xs H2=>r x xs H2 Q):=rfl
theorem b2p {K:ae}{T:String}{r:V->List V->Hp->VK->Prop}{to:TE}{σ:St}{H:Hp}{Q:VK}:b0N K T r to σ H Q=(to σ H fun x H1=>tyV K T x H1/\r x [] H1 Q):=rfl
theorem b1Y {t:TA}{σ:St}{H:Hp}{Q:VK}:b1Z t σ H Q=(t σ H fun xs H1=>xs.length<=sizeLine/\∀ p,H1 p=none->Q (.ref p) (upd H1 p (.tup xs))):=rfl
theorem b2j {t:TA}{σ:St}{H:Hp}{Q:VK}:b0I t σ H Q=(t σ H fun xs H1=>xs.length<=sizeLine/\∀ p,H1 p=none->Q (.ref p) (upd H1 p (.lst xs))):=rfl
theorem b2G {K:ae}{n:Nat}{t:TGs}{v:V}{σ:St}{H:Hp}{Q:St->Hp->Prop}:b1B K n t v σ H Q=(∃ a xs,v=.ref a/\SqT K H a xs/\xs.length=n/\t xs σ H Q):=rfl
theorem b1C {t:TG}{u:TGs}{vs:List V}{σ:St}{H:Hp}{Q:St->Hp->Prop}:b0s t u vs σ H Q=(∃ v r,vs=v::r/\t v σ H fun σ' H'=>u r σ' H' Q):=rfl
theorem b2J {vs:List V}{σ:St}{H:Hp}{Q:St->Hp->Prop}:b2K vs σ H Q=(vs=[]/\Q σ H):=rfl
theorem b2H {to ti:TE}{t:a9Q}{v:V}{σ:St}{H:Hp}{Q:St->Hp->Prop}:b2I to ti t v σ H Q=(to σ H fun o H1=>ti σ H1 fun i H2=>t o i v H2 fun H3=>Q σ H3):=rfl
theorem b3e {r:V->Option Int->Option Int->Hp->VK->Prop}{te:TE}{tl th:TO}{σ:St}{H:Hp}{Q:VK}:tSl r te tl th σ H Q=(te σ H fun x H1=>tl σ H1 fun l H2=>th σ H2 fun u H3=>r x l u H3 Q):=rfl
theorem a6Z {u0:St}{H:Hp}{Q:Option Int->Hp->Prop}:a5m u0 H Q=(Q none H):=rfl
theorem b0E {t:TE}{σ:St}{H:Hp}{Q:Option Int->Hp->Prop}:a9Z t σ H Q=(t σ H fun x H1=>∃ i,x=.int i/\Q (some i) H1):=rfl
theorem b2r {t u:TT}{σ:St}{H:Hp}{Q:Bool->Hp->Prop}:b2s t u σ H Q=(t σ H fun c H1=>if c=true then u σ H1 Q else Q false H1):=rfl
theorem b3g {t u:TT}{σ:St}{H:Hp}{Q:Bool->Hp->Prop}:tOr t u σ H Q=(t σ H fun c H1=>if c=true then Q true H1 else u σ H1 Q):=rfl
theorem b2g {t:TT}{σ:St}{H:Hp}{Q:Bool->Hp->Prop}:b2h t σ H Q=(t σ H fun c H1=>Q (!c) H1):=rfl
theorem b2o {ty td:TE}{σ:St}{H:Hp}{Q:VK}:b3k ty td σ H Q=(ty σ H fun y H1=>td σ H1 fun x H2=>∃ a o,x=.ref a/\a1H H2 a y o/\Q (.bl o.isSome) H2):=rfl
theorem a7a {ty td:TE}{σ:St}{H:Hp}{Q:VK}:a5n ty td σ H Q=(ty σ H fun y H1=>td σ H1 fun x H2=>∃ a o,x=.ref a/\a1H H2 a y o/\Q (.bl (!o.isSome)) H2):=rfl
theorem b0Q {td ty tv:TE}{D:U2}{σ:St}{H:Hp}:b0g td ty tv D σ H=(tv σ H fun v H1=>td σ H1 fun x H2=>ty σ H2 fun y H3=>∃ a H4,x=.ref a/\Y5 H3 a y v H4/\D.nx σ H4):=rfl
theorem b1A {K:ae}{tl:TE}{σ:St}{H:Hp}{R:It->Hp->Prop}:a8o K tl σ H R=(tl σ H fun x H1=>∃ a,x=.ref a/\(∃ xs,SqL K H1 a xs)/\R (Itl K a) H1):=rfl
theorem b2E {K:ae}{tl:TE}{σ:St}{H:Hp}{R:It->Hp->Prop}:b1x K tl σ H R=(tl σ H fun x H1=>∃ a,x=.ref a/\(∃ xs,SqT K H1 a xs)/\R (Itt K a) H1):=rfl
theorem b1z {ta:TA}{σ:St}{H:Hp}{R:It->Hp->Prop}:b0q ta σ H R=(ta σ H fun vs H1=>∃ j:Int,vs=[.int j]/\-(2 ^ 62)<=j/\j<2 ^ 62/\R (Itr 0 j.toNat) H1):=rfl
theorem b1y {ta:TA}{σ:St}{H:Hp}{R:It->Hp->Prop}:b0p ta σ H R=(ta σ H fun vs H1=>∃ i j:Int,vs=[.int i,.int j]/\(-(2 ^ 62)<=i/\i<2 ^ 62/\-(2 ^ 62)<=j/\j<2 ^ 62)/\R (Itr i (j-i).toNat) H1):=rfl
theorem a8M {r r':R2}{ta tb tc:TE}{σ:St}{H:Hp}{Q:VK}:a7d r r' ta tb tc σ H Q=(ta σ H fun x H1=>tb σ H1 fun y H2=>r x y H2 fun z H3=>∃ k,z=.bl k/\(if k=true then tc σ H3 fun w' H4=>r' y w' H4 Q else Q (.bl false) H3)):=rfl
theorem b0O {ta tb:TE}{σ:St}{H:Hp}{Q:VK}:b0f ta tb σ H Q=(ta σ H fun x H1=>∃ c,x=.bl c/\if c=true then tb σ H1 Q else Q (.bl false) H1):=rfl
theorem b2e {ta tb:TE}{σ:St}{H:Hp}{Q:VK}:b3f ta tb σ H Q=(ta σ H fun x H1=>∃ c,x=.bl c/\if c=true then Q (.bl true) H1 else tb σ H1 Q):=rfl
theorem b0F {ta:TE}{σ:St}{H:Hp}{Q:VK}:b0a ta σ H Q=(ta σ H fun x H1=>∃ c,x=.bl c/\Q (.bl (!c)) H1):=rfl
theorem b3d {r:V->Hp->VK->Prop}{ta:TE}{σ:St}{H:Hp}{Q:VK}:tUn r ta σ H Q=(ta σ H fun x H1=>r x H1 Q):=rfl
theorem b1X {u0:St}{H:Hp}{Q:Bool->Hp->Prop}:b0z u0 H Q=(Q true H):=rfl
theorem a8L {u0:St}{H:Hp}{Q:VK}:a7c u0 H Q=(∀ p,H p=none->Q (.ref p) (upd H p (.dK []))):=rfl
theorem a8K {u0:St}{H:Hp}{Q:VK}:a7b u0 H Q=(∀ p,H p=none->Q (.ref p) (upd H p (.dT []))):=rfl
theorem b2k {ta:TE}{σ:St}{H:Hp}{Q:VK}:b3j ta σ H Q=(ta σ H fun x H1=>Q (.bl (decide (x=.non))) H1):=rfl
theorem b0G {ta:TE}{σ:St}{H:Hp}{Q:VK}:b2f ta σ H Q=(ta σ H fun x H1=>Q (.bl (!decide (x=.non))) H1):=rfl
theorem b3i {own:List Str}{fr:List (Str×Nat)}{wi:TI}{g:TG}{tc:TT}{te:TE}{σ:St}{H:Hp}{Q:VK}:tLC own fr wi g tc te σ H Q=wi σ H fun J H1=>∀ p,H1 p=none->lcW g tc te p J (st0 own fr σ) (upd H1 p (.lst [])) fun H2=>Q (.ref p) H2:=rfl
theorem b3l {t:Bool}{own:List Str}{fr:List (Str×Nat)}{wi:TI}{g:TG}{tc:TT}{te tv:TE}{σ:St}{H:Hp}{Q:VK}:tDC t own fr wi g tc te tv σ H Q=wi σ H fun J H1=>∀ p,H1 p=none->dcW g tc te tv p J (st0 own fr σ) (upd H1 p (a1M t)) fun H2=>Q (.ref p) H2:=rfl
end L2
end
section
namespace L2
open PySem PySem.Spec PyProof.Rows
theorem Y4.pld {H:Hp}{p:Addr}{us:List (Int×Int)}(h:Y4 H p us):PlD H 2 (.ref p)/\∀ a xs,V.ref p=.ref a->H a=some (.tup xs)->xs.length=us.length:=by
 obtain⟨ps,e,hps⟩:=h;refine⟨⟨⟨_,.tup e⟩,fun a ys ea e2 z hz=>?_⟩,fun a xs ea e2=>?_⟩
 ·cases ea;rw[e] at e2;cases e2;obtain⟨i,hi⟩:=List.getElem?_of_mem hz;obtain⟨b,t,rfl,_,hb⟩:=hps.get hi;refine⟨⟨_,.tup hb⟩,fun a' ys' e3 e4 y hy=>?_⟩;cases e3;rw[hb] at e4;cases e4;simp only[aD,aW,or_false] at hy;rcases hy with rfl | rfl<;>exact⟨_,.int _⟩
 ·cases ea;rw[e] at e2;cases e2;rw[ab,hps.len]
end L2
end
section
namespace L2
open PySem PySem.Spec PyProof.Rows
section
variable {K:ae}{H:Hp}{a b:Addr}{xs ys:List V}{lo hi:Option Int}{Q:VK}
theorem a8P (ha:H a=some (.lst xs))(q:∀ p H',H p=none->A6 H H'->H' p=some (.lst (U5 xs lo hi))->Q (.ref p) H'):b0R K (.ref a) lo hi H Q :=
 ⟨a,xs,rfl,SqL.of ha,fun p np=>q p _ np ((A6.refl H).upd np) A2⟩
end
end L2
end
section
namespace L2
open PySem PySem.Spec PyProof.Rows
def a4C (w:Str):Prop:=PyData.strOk w=true
inductive W0 (H:Hp):V->Prop
 | non:W0 H .non
 | bl (b:Bool):W0 H (.bl b)
 | int (i:Int):W0 H (.int i)
 | str {w:Str}:a4C w->W0 H (.str w)
 | tup {a:Addr} {w:Str}:H a=some (.tup [.str w])->a4C w->W0 H (.ref a)
 | lst {a:Addr} {w:Str}:H a=some (.lst [.str w])->a4C w->W0 H (.ref a)
theorem W0.same {H H':Hp}{v:V}(s:A6 H H')(h:W0 H v):W0 H' v:=by
 cases h with
 | non=>exact .non
 | bl b=>exact .bl b
 | int i=>exact .int i
 | str h=>exact .str h
 | tup e h=>exact .tup (s _ _ e) h
 | lst e h=>exact .lst (s _ _ e) h
theorem a4E {w:Str}(h:a4C w):SeqAt.shaped (.str w)=true:=by
 unfold SeqAt.shaped;rw[PyData.canLay0,show PyData.strOk w=true from h,PyData.depth];rfl
theorem a7h {w:Str}(h:a4C w):PyData.canLayAll0 [.str w]=true:=by
 rw[PyData.canLayAll0,PyData.canLay0,show PyData.strOk w=true from h,PyData.canLayAll0];rfl
theorem a8v {w:Str}:PyData.depthAll [.str w]=0:=by
 rw[PyData.depthAll,PyData.depth,PyData.depthAll];rfl
theorem W0.nd {K:ae}{H:Hp}{v:V}(h:W0 H v):∃ d,Dt K H v d/\SeqAt.shaped d=true:=by
 cases h with
 | non=>exact⟨_,.non,by unfold SeqAt.shaped;rw[PyData.canLay0,PyData.depth];rfl⟩
 | bl b=>exact⟨_,.bl b,by unfold SeqAt.shaped;rw[PyData.canLay0,PyData.depth];rfl⟩
 | int i=>exact⟨_,.int i,by unfold SeqAt.shaped;rw[PyData.canLay0,PyData.depth];rfl⟩
 | str h=>exact⟨_,.str _,a4E h⟩
 | tup e h=>exact⟨_,.tup (SqT.of e) (.cons (.str _) .nil),by unfold SeqAt.shaped;rw[PyData.canLay0,a7h h,PyData.depth,a8v];rfl⟩
 | lst e h=>exact⟨_,.lst (SqL.of e) (.cons (.str _) .nil),by unfold SeqAt.shaped;rw[PyData.canLay0,a7h h,PyData.depth,a8v];rfl⟩
theorem a5V {K:ae}{H:Hp}{v:V}{d:PyData}{w:Str}(h:Dt K H v d):PyData.eqv d (.str w)=decide (v=.str w):=by
 cases h with
 | str x =>
  rw[PyData.eqv];by_cases e:x=w
  ·subst e;simp
  ·rw[decide_eq_false (by simpa using e)];simpa using e
 | _=>first | (rw[PyData.eqv];rfl) | (unfold PyData.eqv;simp)
end L2
end
section
namespace L2
open PySem PySem.Spec PyProof.Rows
theorem Ncs.mem {c k m:Nat}:∀ {ds:List PyData},Ncs c k m ds->∀ d∈ds,Nc c k m d
 | d::r,h,x,hx=>by
  have h7:=h.so;rw[a2B,bZ] at h7;have h1:=h.sh;have h2:=h.dp;have h3:=h.lv;have h4:=h.bk;rw[PyData.showableAll,bZ] at h1;rw[PyData.depthAll] at h2;rw[PyData.leavesShortAll,bZ] at h3;rw[PyData.bulkAll] at h4;have h5:c≠2->noL d=true/\a2R r=true:=fun e=>by have:=h.nl e;rw[a2R,bZ] at this;exact this
  have h6:c≠1->d.hasDict=false/\PyData.hasDictAll r=false:=fun e=>by have:=h.nd e;rw[PyData.hasDictAll,gu] at this;exact this
  rcases aD.mp hx with rfl | hx
  ·exact⟨fun e=>(h5 e).1,fun e=>(h6 e).1,h1.1,by omega,h3.1,by omega,h7.1⟩
  ·exact Ncs.mem ⟨fun e=>(h5 e).2,fun e=>(h6 e).2,h1.2,by omega,h3.2,by omega,h7.2⟩ x hx
theorem a5Z {H:Hp}:∀ {xs:List V} {ds:List PyData},Dds H xs ds->∀ x∈xs,∃ d∈ds,Dd H x d
 | _,_,.nil,x,hx=>nomatch hx
 | _,_,.cons h t,x,hx=>by
  rcases aD.mp hx with rfl | hx
  ·exact⟨_,aN ..,h⟩
  ·obtain⟨d,h1,h2⟩:=a5Z t x hx;exact⟨d,aM _ h1,h2⟩
theorem Tg.item {H:Hp}{c k m:Nat}{a:Addr}{xs:List V}(h:Tg H c (k+1) m (.ref a))(e:H a=some (.tup xs)):∀ x∈xs,Tg H c k m x:=fun x hx=>by
 obtain⟨D,hD,hN⟩:=h;cases hD with
 | sc h=>cases h
 | @tup _ ys ds e2 hs =>
  rw[e] at e2;cases e2;obtain⟨d,h1,h2⟩:=a5Z hs x hx;refine⟨d,h2,Ncs.mem ⟨fun e=>?_,fun e=>?_,?_,?_,?_,?_,?_⟩ d h1⟩
  ·have:=hN.nl e;rw[noL] at this;exact this
  ·have:=hN.nd e;rw[PyData.hasDict] at this;exact this
  ·have:=hN.sh;rw[PyData.showable] at this;exact this
  ·have:=hN.dp;rw[PyData.depth] at this;omega
  ·have:=hN.lv;rw[PyData.leavesShort] at this;exact this
  ·have:=hN.bk;rw[PyData.bulk] at this;exact this
  ·have:=hN.so;rw[sOk] at this;exact this
 | lst e2 _=>rw[e] at e2;cases e2
 | dct e2 _=>rw[e] at e2;cases e2
 | dc1 e2 _ _=>rw[e] at e2;cases e2
theorem Tg.items {H:Hp}{c k m:Nat}{a:Addr}{xs:List V}(h:Tg H c k m (.ref a))(e:H a=some (.tup xs)):∀ x∈xs,Tg H c k m x:=fun x hx=>(Tg.item (h.mono (gF k) (ao m)) e x hx)
theorem Tg.w0 {H:Hp}{c m:Nat}{v:V}(h:Tg H c 0 m v):W0 H v:=by
 obtain⟨h1,h2⟩:=h.flat;cases v with
 | non=>exact .non
 | bl b=>exact .bl b
 | int i=>exact .int i
 | str x=>exact .str (h2 x rfl)
 | _=>cases h1
end L2
namespace L2
open PySem PySem.Spec PyProof.Rows
section
variable {A:Addr->Prop}{l:Addr}{H H':Hp}
theorem a8p (s:A6 H H'):A6 (hid (fun a=>A a\/a=l) H) (hid A H'):=fun b o h=>by
 have h2:=Z6 _ _ h;rw[N0 (fun e=>by unfold hid at h;rw[if_pos (.inl e)] at h;cases h)];exact s _ _ h2
end
end L2
end
section
namespace L2
open PySem PySem.Spec PyProof.Rows
inductive W1 (H:Hp):V->Prop
 | w0 {v:V}:W0 H v->W1 H v
 | tps {a:Addr} {l:List Int}:H a=some (.tup (l.map V.int))->W1 H (.ref a)
theorem W1.same {H H':Hp}{v:V}(s:A6 H H')(h:W1 H v):W1 H' v:=by
 cases h with
 | w0 h=>exact .w0 (h.same s)
 | tps e=>exact .tps (s _ _ e)
theorem W1.nd {K:ae}{H:Hp}{v:V}(h:W1 H v):∃ d,Dt K H v d/\SeqAt.shaped d=true:=by
 cases h with
 | w0 h=>exact h.nd
 | @tps a l e=>exact⟨_,.tupI (SqT.of e),Q6 l⟩
theorem a4Z {K:ae}{H:Hp}{v:V}{w:Str}{Q:VK}(h:W1 H v)(sw:a4C w)(q:Q (.bl (decide (v=.str w))) H):a1h K false v (.str w) H Q:=by
 obtain⟨d,h1,h2⟩:=h.nd (K:=K);refine⟨d,_,h1,.str w,h2,a4E sw,?_⟩;rw[a5V h1];exact q
end L2
end
section
namespace L2
open PySem
section
variable {K:ae}{a b p:Addr}{xs ys:List V}{g:TG}{tc:TT}{te tv:TE}{τ0:St}{H0:Hp}{EE:Hp->Prop}
theorem b1k (Pv:Nat->St->Hp->Prop)(h0:Pv 0 τ0 H0)(hle:ys.length<=xs.length)(hl:∀ i τ H,i<=ys.length->Pv i τ H->SqT K H a xs/\SqT K H b ys)
  (hs:∀ i x y τ H q,xs[i]?=some x->ys[i]?=some y->Pv i τ H->H q=none->g (.ref q) τ (upd H q (.tup [x,y])) fun τ2 H2=>tc τ2 H2 fun b H3=>if b=true then te τ2 H3 fun v H4=>∃ zs,H4 p=some (.lst zs)/\zs.length<sizeLine/\Pv (i+1) τ2 (upd H4 p (.lst (zs++[v]))) else Pv (i+1) τ2 H3)
  (hd:∀ τ H,Pv ys.length τ H->EE H):lcW g tc te p (Itz K a b) τ0 H0 EE:=by
 refine⟨fun i m τ H=>m=ys.length-i/\i<=ys.length/\Pv i τ H,⟨_,rfl,bf _,h0⟩,?_⟩;rintro i m τ H ⟨rfl,hi,hp⟩;obtain⟨q1,q2⟩:=hl i τ H hi hp;rcases cc i ys.length with h | h
 ·have ex:xs[i]?=some xs[i]:=aq (by omega);have ey:ys[i]?=some ys[i]:=aq h;refine .inr ⟨⟨xs,ys,_,_,q1,q2,ex,ey⟩,Pv (i+1),fun τ' H' z=>⟨_,by omega,rfl,h,z⟩,?_⟩;rintro v H' ⟨q,x,y,rfl,hn,rfl,y1,y2⟩;exact hs i x y τ H q (y1 xs q1) (y2 ys q2) hp hn
 ·have e:i=ys.length:=by omega
  subst e;exact .inl ⟨⟨xs,ys,q1,q2,.inr (ao _)⟩,hd τ H hp⟩
end
def B4 (bs:List Int)(p:Int):List Int:=bs.filter fun x=>!decide (x∈[p])
theorem C1 {bs:List Int}{p x:Int}:x∈B4 bs p↔x∈bs/\x≠p:=by unfold B4;rw[bd];simp
def V5 (ts:List (Int×Int))(bs:List Int)(x:Int):List Int:=bs.filter fun y=>decide (y∈x::nb ts x)
structure V6 (ts:List (Int×Int))(bs:List Int)(p:Int)(l:List Int):Prop where
 ne:l≠[]
 up:l.Pairwise (·<·)
 sub:∀ x∈l,x∈bs/\x≠p
 rest:∃ y∈bs,y≠p/\y∉l
 cut:∀ x∈l,∀ y∈nb ts x,y∈bs->y≠p->y∈l
inductive K1 (H:Hp)(n:Int)(ts:List (Int×Int))(bs:List Int)(p:Int):V->Prop
 | own {t:Addr} {x:Int}:H t=some (.tup [.str "own",.int x])->0<=x->x<n->V5 ts bs x=[p]->K1 H n ts bs p (.ref t)
 | parts {t a:Addr} {l:List Int}:H t=some (.tup [.str "parts",.ref a])->H a=some (.tup (l.map V.int))->V6 ts bs p l->K1 H n ts bs p (.ref t)
theorem K1.tp {H H':Hp}{n:Int}{ts:List (Int×Int)}{bs:List Int}{p:Int}{v:V}(h:K1 H n ts bs p v)(k:Tp H H'):K1 H' n ts bs p v:=by
 cases h with
 | own a b c d=>exact .own (k _ _ a) b c d
 | parts a b c=>exact .parts (k _ _ a) (k _ _ b) c
section
variable {n:Int}{ts:List (Int×Int)}{bs:List Int}{p:Int}
theorem a7x:∀ {l:List Int},l.Nodup->l≠[]->l≠[p]->∃ z∈l,z≠p
 | [],_,h,_=>absurd rfl h
 | [a],_,_,h=>⟨a,by simp,fun e=>h (by rw[e])⟩
 | a::b::r,hn,_,_=>by
  by_cases ha:a=p
  ·refine⟨b,by simp,fun e=>?_⟩;rw[ha,e] at hn;exact (cf.mp hn).1 (by simp)
  ·exact⟨a,by simp,ha⟩
theorem a6u (hok:P4 n ts)(hr:∀ x∈bs,0<=x/\x<n)(hnd:bs.Nodup)(hB:S8 n ts bs)(hp:p∈bs)(hL:¬ S8 n ts (B4 bs p))(hno:∀ x,0<=x->x<n->V5 ts bs x≠[p]) :
  ∃ l0 r,a7U n ts (B4 bs p) (B4 bs p)=l0::r/\V6 ts bs p l0:=by
 have st:∀ x,0<=x->x<n->x∉B4 bs p->∃ y∈nb ts x,y∈B4 bs p:=fun x x0 x1 hx=>by
  have hne:V5 ts bs x≠[]:=by
   by_cases hxb:x∈bs
   ·intro e;have:x∈V5 ts bs x:=bd.mpr ⟨hxb,by simp⟩;rw[e] at this;cases this
   ·obtain⟨y,y1,y2⟩:=hB.2 x x0 x1 hxb;intro e;have:y∈V5 ts bs x:=bd.mpr ⟨y2,by simp[y1]⟩;rw[e] at this;cases this
  obtain⟨z,z1,z2⟩:=a7x (hnd.sublist cF) hne (hno x x0 x1);obtain⟨z3,z4⟩:=bd.mp z1;have hzL:z∈B4 bs p:=C1.mpr ⟨z3,z2⟩;rcases aD.mp (of_decide_eq_true z4) with e | h
  ·exact absurd (e ▸ hzL) hx
  ·exact⟨z,h,hzL⟩
 have hrL:∀ x∈B4 bs p,0<=x/\x<n:=fun x hx=>hr x (C1.mp hx).1
 obtain⟨z,_,hz⟩:=st p (hr p hp).1 (hr p hp).2 fun h=>(C1.mp h).2 rfl
 have hall:=a7T hok hrL (B4 bs p) fun v h=>h
 have pw:=a9r (n:=n) (ts:=ts) (us:=B4 bs p) (B4 bs p) fun v h=>h
 match e:a7U n ts (B4 bs p) (B4 bs p) with
 | [] =>
  obtain⟨l,hl,_⟩:=hall z hz;rw[e] at hl;cases hl
 | [l] =>
  obtain⟨v,hv,rfl⟩:=a4j (B4 bs p) l (by rw[e];simp);refine absurd ⟨a1v hok hv fun y hy=>?_,st⟩ hL;obtain⟨m,hm,hym⟩:=hall y hy;rw[e] at hm;rw[ah.mp hm] at hym;exact (a4T hok (hrL v hv).1 (hrL v hv).2).mp hym
 | l0::l1::r =>
  rw[e] at pw;obtain⟨v1,hv1,rfl,hn1⟩:=(dP.mp pw).1 l1 (by simp);obtain⟨v0,hv0,rfl⟩:=a4j (B4 bs p) l0 (by rw[e];simp);have m0:=fun x=>a4T (us:=B4 bs p) (x:=x) hok (hrL v0 hv0).1 (hrL v0 hv0).2
  refine⟨_,_,rfl,⟨fun h=>?_,a8Z,fun x hx=>C1.mp (((m0 x).mp hx).mem hv0),⟨v1,(C1.mp hv1).1,(C1.mp hv1).2,hn1⟩,fun x hx y hy hyb hyp=>?_⟩⟩
  ·have:=(m0 v0).mpr .base;rw[h] at this;cases this
  ·exact (m0 y).mpr (.step ((m0 x).mp hx) hy (C1.mpr ⟨hyb,hyp⟩))
open Classical in
noncomputable def R0 (n:Int)(ts:List (Int×Int))(l:List Int)(p:Int):List Int:=if S8 n ts (B4 l p) then B4 l p else l
noncomputable def P0 (n:Int)(ts:List (Int×Int))(bs ks:List Int):List Int:=ks.foldl (R0 n ts) bs
theorem a4l (h:S8 n ts (B4 bs p)):R0 n ts bs p=B4 bs p:=by unfold R0;rw[if_pos h]
theorem a1r (h:¬ S8 n ts (B4 bs p)):R0 n ts bs p=bs:=by unfold R0;rw[if_neg h]
theorem a6w {ks:List Int}:P0 n ts bs (ks++[p])=R0 n ts (P0 n ts bs ks) p:=by unfold P0;rw[List.foldl_append];rfl
theorem a0i (hok:P4 n ts):∀(ks l:List Int),S8 n ts l->(∀ x∈l,0<=x/\x<n)->S8 n ts (P0 n ts l ks)/\(P0 n ts l ks).Sublist l/\∀ p∈ks,p∈P0 n ts l ks->¬ S8 n ts (B4 (P0 n ts l ks) p)
 | [],l,h,_=>⟨h,List.Sublist.refl l,fun p hp=>by cases hp⟩
 | k::r,l,h,hr=>by
  have e:P0 n ts l (k::r)=P0 n ts (R0 n ts l k) r:=rfl;rw[e];by_cases hk:S8 n ts (B4 l k)
  ·rw[a4l hk];obtain⟨h1,h2,h3⟩:=a0i hok r (B4 l k) hk fun x hx=>hr x (C1.mp hx).1
   refine⟨h1,h2.trans cF,fun p hp hpR=>?_⟩;rcases aD.mp hp with rfl | hp
   ·exact absurd rfl (C1.mp (h2.subset hpR)).2
   ·exact h3 p hp hpR
  ·rw[a1r hk];obtain⟨h1,h2,h3⟩:=a0i hok r l h hr;refine⟨h1,h2,fun p hp hpR=>?_⟩;rcases aD.mp hp with rfl | hp
   ·intro hb;exact hk (hb.more hok (fun x hx=>C1.mpr ⟨h2.subset (C1.mp hx).1,(C1.mp hx).2⟩) fun x hx=>hr x (C1.mp hx).1)
   ·exact h3 p hp hpR
def ndD:Int ⊕ List Int->PyData
 | .inl x=>.tuple [.str "own",.int x]
 | .inr l=>.tuple [.str "parts",tI l]
theorem a2U (z:Int ⊕ List Int):PyData.canLay0 (ndD z)=true/\PyData.depth (ndD z)<=2/\PyData.eqv (ndD z) (ndD z)=true:=by
 cases z with
 | inl x =>
  refine⟨?_,?_,by simp[ndD,PyData.eqv,PyData.eqvAll]⟩
  ·simp only[ndD,PyData.canLayAll0,PyData.canLay0];rw[show PyData.strOk (Str.ofString "own")=true by decide +kernel];rfl
  ·simp only[ndD,PyData.depthAll,PyData.depth];omega
 | inr l =>
  have h1:PyData.canLay0 (tI l)=true:=by unfold tI;rw[PyData.canLay0,T7]
  have h2:PyData.depth (tI l)<=1:=by unfold tI;rw[PyData.depth,V2];omega
  have h3:PyData.eqv (tI l) (tI l)=true:=by unfold tI;rw[a1w];simp
  refine⟨?_,?_,by simp only[ndD,PyData.eqv,PyData.eqvAll,h3];simp⟩
  ·simp only[ndD,PyData.canLayAll0,h1,PyData.canLay0];rw[show PyData.strOk (Str.ofString "parts")=true by decide +kernel];rfl
  ·simp only[ndD,PyData.depthAll,PyData.depth];omega
def a5h (H:Hp)(v:V):Int ⊕ List Int->Prop
 | .inl x=>∃ t,v=.ref t/\H t=some (.tup [.str "own",.int x])
 | .inr l=>∃ t a,v=.ref t/\H t=some (.tup [.str "parts",.ref a])/\H a=some (.tup (l.map V.int))
theorem a5h.tp {H H':Hp}{v:V}{z:Int ⊕ List Int}(h:a5h H v z)(k:Tp H H'):a5h H' v z:=by
 cases z with
 | inl x=>obtain⟨t,e,h⟩:=h;exact⟨t,e,k _ _ h⟩
 | inr l=>obtain⟨t,a,e,h,h2⟩:=h;exact⟨t,a,e,k _ _ h,k _ _ h2⟩
theorem a5h.dt {K:ae}{H:Hp}{v:V}{z:Int ⊕ List Int}(h:a5h H v z):Dt K H v (ndD z):=by
 cases z with
 | inl x=>obtain⟨t,rfl,h⟩:=h;exact .tup (SqT.of h) (.cons (.str _) (.cons (.int _) .nil))
 | inr l=>obtain⟨t,a,rfl,h,h2⟩:=h;exact .tup (SqT.of h) (.cons (.str _) (.cons (.tupI (SqT.of h2)) .nil))
end
end L2
end
section
namespace L2
open PySem PySem.Spec PyProof.Rows
def Dok (K:ae)(H:Hp)(v:V):Prop:=∃ d,Dt K H v d/\PyData.canLay0 d=true/\PyData.depth d<=8
theorem a8u {K:ae}{H:Hp}:∀ {xs:List V},(∀ v∈xs,Dok K H v)->∃ ds,Dts K H xs ds/\PyData.canLayAll0 ds=true/\PyData.depthAll ds<=8/\(ds=[]↔xs=[])
 | [],_=>⟨[],.nil,rfl,by simp[PyData.depthAll],by simp⟩
 | x::r,h=>by
  obtain⟨d,h1,h2,h3⟩:=h x (aN ..);obtain⟨ds,k1,k2,k3,_⟩:=a8u fun v hv=>h v (aM _ hv)
  refine⟨d::ds,.cons h1 k1,?_,?_,by simp⟩
  ·rw[PyData.canLayAll0,h2,k2];rfl
  ·rw[PyData.depthAll];omega
theorem b3B {K:ae}{H:Hp}{a b:Addr}{xs:List V}{neg:Bool}{Q:VK}(h1:H a=some (.lst xs))(hx:∀ v∈xs,Dok K H v)(h2:H b=some (.lst []))(q:∀ c:Bool,(c=true↔xs=[])->Q (.bl (if neg then !c else c)) H):a1h K neg (.ref a) (.ref b) H Q:=by
 obtain⟨ds,k1,k2,k3,k4⟩:=a8u hx;refine⟨.list ds,.list [],.lst (SqL.of h1) k1,.lst (SqL.of h2) .nil,?_,?_,?_⟩
 ·unfold SeqAt.shaped;rw[PyData.canLay0,PyData.depth,k2,fV,decide_eq_true_iff];omega
 ·exact Q7 []
 ·refine q _ ?_;rw[<- k4];cases ds with
  | nil=>simp[PyData.eqv,PyData.eqvAll]
  | cons d r=>simp[PyData.eqv,PyData.eqvAll]
end L2
end
section
namespace L2
open PySem PySem.Spec PyProof.Rows
theorem a2x {H H':Hp}{c k m:Nat}{r:Addr}{ys:List V}(h:Tg H c k m (.ref r))(s:A6 H H')(e:H' r=some (.tup ys)):H r=some (.tup ys):=by
 obtain⟨D,hD,_⟩:=h;cases hD with
 | sc h=>cases h
 | tup e2 _=>have:=s _ _ e2;rw[e] at this;cases this;exact e2
 | lst e2 _=>have:=s _ _ e2;rw[e] at this;cases this
 | dct e2 _=>have:=s _ _ e2;rw[e] at this;cases this
 | dc1 e2 _ _=>have:=s _ _ e2;rw[e] at this;cases this
end L2
end
section
local macro_rules | `(tactic| omega)=>`(tactic| first | lia | omega +splitDisjunctions)
set_option format.width 230
set_option pp.deepTerms true
set_option pp.maxSteps 20000
namespace K34
open PySem L2
local macro_rules | `(tactic| walk_at "rd")=>`(tactic| ((try simp only[L2.P7,st0,aL,cY,aH,cK,List.replicate,du,cR,Nat.reduceAdd,Nat.reduceSub,jc,jd,Option.join_some]);simp only[↓b2a,↓b2q,↓b3h,↓tCA,↓b2c,↓b0D,↓b2l,↓b0B,↓tBA,↓b0H,↓b0K,↓b0M,↓b0L,↓b2i,↓b3m,↓b3n,↓b2p,↓b1Y,↓b2j,↓b2G,↓b1C,↓b2J,↓b2H,↓b3e,↓a6Z,↓b0E,↓b2r,↓b3g,↓b2g,↓b2o,↓a7a,↓b0Q,↓b1A,↓b2E,↓b1z,↓b1y,↓b3i,↓b3l,↓a8M,↓b0O,↓b2e,↓b0F,↓b3d,↓b1X,↓a8L,↓a8K,↓b2k,↓b0G,↓tV0,↓tV1,↓tV2,↓tV3,↓tV4,↓tV5,↓tV6,↓tV7,↓tV8,↓tV9,↓b3c,↓b3b,↓b3a,↓b2Z,↓b2Y,↓b2X,↓gN0,↓gN1,↓gN2,↓gN3,↓gN4,↓gN5,↓gN6,↓gN7,↓gN8,↓gN9,↓b3A,↓b3z,↓b3y,↓b3x,↓b3w,↓b3v,↓b3q,↓rIi,↓b2w,↓b2v,↓exB,↓exI,↓exR,↓b3r,↓b3p,↓b2N,rI,rI0,a2D,b0S,b0i,a9Y,b0d,a2y,a8S,a8R,rEq,rNe,b1K,b0x,a8B,a8D,a8C,b1L,b1N,a4w,b2F,b1M,a2C,b0r,b2D,a9X,rU,L2.P7,st0,aL,cY,aH,cK,List.replicate,du,cR,bU,jc,jd,List.set_cons_zero,List.set_cons_succ,Option.some.injEq,V.int.injEq,V.bl.injEq,V.ref.injEq,List.cons.injEq,and_true,true_and,exists_eq_left',exists_eq_left,exists_eq',exists_eq,Nat.reduceAdd,Nat.reduceSub,exists_and_left,and_self,Option.join_some,a7j,decide_true,if_true,if_false,aU,fu,Bool.not_false,T8,M8]))
def top (i:Nat):Stmt:=PySem.Challenge.pw_manyleaves_k34_needs_or_not.main.body.getD i (.Pass ⟨0,0,0,0⟩)
section
variable {P:Program}{w:World}{K:ae}{mg:Str->Option Value}{base:Heap}
set_option hygiene false
local macro_rules | `($a <*> $b) => `(@a2L _ _ _ _ _ $a $b (by rfl))
local macro_rules | `($a <* $b) => `(@a7o _ _ _ _ _ $a $b)
local macro_rules | `($a <|> $b) => `(@b0l _ _ _ _ _ _ _ (a8a K) $a $b (fun _ _=>rfl))
local macro_rules | `($a *> $b) => `(@b0l _ _ _ _ _ _ _ (a9y K) $a $b (fun _ _=>rfl))
local macro_rules | `($a &&& $b) => `(@K9 _ _ _ _ _ _ _ _ b1b $a $b)
local macro_rules | `($a ||| $b) => `(@K9 _ _ _ _ _ _ _ _ b1d $a $b)
local macro_rules | `($a ^^^ $b) => `(@K9 _ _ _ _ _ _ _ _ b0Y $a $b)
set_option hygiene true
set_option hygiene false
local macro_rules | `(tactic| walk_at "s") => `(tactic| exact⟨rfl,rfl,rfl,by decide +kernel,rfl,by decide +kernel,by decide +kernel⟩)
local macro_rules | `(tactic| walk_at "w") => `(tactic| with_unfolding_all rfl)
local macro_rules | `(tactic| walk_at "h") => `(tactic| ((repeat first | (obtain⟨rfl,h⟩:=h) | (obtain⟨_,h⟩:=h));rfl))
set_option hygiene true
theorem _root_.L2.Q1.m {j k:Nat}{A:Around}(r:Q1 k A)(h:j<=k:=by decide):Q1 j A:=r.mono h
open PyProof.Rows (boot_all boot_bool boot_enumerate boot_int boot_isinstance boot_list boot_max boot_min boot_range boot_repr boot_set boot_sorted boot_str boot_tuple boot_zip)
theorem a3N:B9 ["_law_cell","_law_k","_law_number"] ["_law_cell","_law_k"] (A7 (top 20)):=by walk_at "s"
theorem a7G (F:Fun K "_law_mixed" "_law_mixed" (top 20) f fd)(B:Bt mg):B6 P w K mg base CX0 1 f fd ["_law_cell","_law_k"] a3x:=by
 refine F.ok a3N (fun vs H Q E h=>?_) (fun cdv A outer s H vs Q E hr h=>?_)
 ·walk_at "h"
 ·obtain⟨c,k,rfl,hk0,hk1,q⟩:=h;have nd:=a3N.nd;have hu:=J1 hr
  refine⟨_,((B8 (i:=2) nd rfl (.inl rfl) ((((pv 0)|||(@K9 _ _ _ _ _ _ _ _ W6 (@K9 _ _ _ _ _ _ _ _ W6 (pv 1) (pv 1)) A3))|||A3)&&&A3))<*
    ((B8 (i:=2) nd rfl (.inl rfl) ((@K9 _ _ _ _ _ _ _ _ W6 (pv 2) (pv 2))&&&A3))<*
    ((B8 (i:=2) nd rfl (.inl rfl) ((@K9 _ _ _ _ _ _ _ _ W6 (((pv 2)|||(@K9 _ _ _ _ _ _ _ _ W6 (pv 1) A3))|||A3) A3)&&&A3))<*
    (@A4 _ _ _ (B1 (@K9 _ _ _ _ _ _ _ _ a2N ((@K9 _ _ _ _ _ _ _ _ W6 (pv 2) (pv 2))&&&A3) A3)))))),?_⟩
  walk_at "rd";have hm:∀ x:Int,0<=x % 2305843009213693951/\x % 2305843009213693951<2305843009213693951:=fun x=>⟨bE _ (by decide),bn _ (by decide)⟩
  have small:∀ x y:Int,a9U (x % 2305843009213693951) y:=fun x y=>.inl ⟨by have:=hm x;omega,by have:=hm x;omega⟩
  have pos:(0:Int)<2305843009213693951:=by decide
  exact⟨.inl ⟨by omega,by omega⟩,.inr ⟨by decide,by decide⟩,pos,small _ _,pos,.inl ⟨by omega,by omega⟩,.inr ⟨by decide,by decide⟩,pos,small _ _,pos,⟨by decide,by decide⟩,q _⟩
theorem a5A:B9 ["_law_deck_here"] ["_law_deck_here"] (A7 (top 22)):=by walk_at "s"
theorem a9g (F:Fun K "_law_next" "_law_next" (top 22) f fd)(B:Bt mg):B6 P w K mg base CX0 1 f fd ["_law_deck_here"] P3:=by
 refine F.ok a5A (fun vs H Q E h=>?_) (fun cdv A outer s H vs Q E hr h=>?_)
 ·walk_at "h"
 ·obtain⟨d,ns,rfl,hd,q⟩:=h;have nd:=a5A.nd;have hu:=J1 hr
  refine⟨_,((@J8 _ _ _ _ _ _ _ _ (B0 a3Z (A5 (N5 K) (by rfl) B.len aR ((pv 0)<*>A0)) A3 (B5 _))
     (@A4 _ _ _ (B1 (b2x K (pv 0))))
     C6)<*
     (@A4 _ _ _ (B1 A3))),?_⟩
  walk_at "rd";refine⟨ns.map V.int,.inl (SqL.of hd),R7 (fun h=>?_) fun h=>?_⟩
  ·refine⟨.inl ⟨rfl,_,SqL.of hd⟩,?_⟩;have hne:ns≠[]:=fun e=>by subst e;simp at h
   have h1:(ns.map V.int)[(ns.map V.int).length-1]?=some (V.int (ns.getLast hne)):=by
    rw[ab,aF,<- List.getLast?_eq_getElem?,List.getLast?_eq_some_getLast hne];rfl
   refine⟨ns.map V.int,hd,_,h1,?_⟩;rw[<- List.map_dropLast];exact q _ _ (by rw[jD];omega) (fun x hx=>List.dropLast_subset _ hx) (.inr (List.getLast_mem hne))
  ·have e:upd H d (.lst (ns.map V.int))=H:=a6U hd;have:=q 0 ns (ao _) (fun _ h=>h) (.inl rfl);rw[e] at this;exact this
def a8m (H:Hp)(a p4 p5 p6:Addr)(m:Int)(os:List Int)(i:Nat)(σ:St)(Hc:Hp):Prop:=∃(kv av:Option V) (rs ds:List Int),σ=[some (.ref a),some (.int m),some (.ref p4),some (.ref p5),some (.ref p6),kv,av]/\A6 H Hc/\Hc p4=some (.lst (os.map V.int)) /\
 Hc p5=some (.lst (rs.map V.int))/\rs.length=os.length/\Hc p6=some (.lst (ds.map V.int))/\ds.length=i/\(∀ x∈ds,0<=x/\x<1000)
theorem a5F:B9 ["_law_script","_law_many","_law_own","_law_rest","_law_deck_here","_law_k","_law_at"] ["_law_script","_law_many"] (A7 (top 21)):=by walk_at "s"
theorem a9l (F:Fun K "_law_deck" "_law_deck" (top 21) f fd)(B:Bt mg)(D1:Df K mg "_law_mixed" st1 f1 fd1 ["_law_cell","_law_k"])(G1:B6 P w K mg base CX0 1 f1 fd1 ["_law_cell","_law_k"] a3x):B6 P w K mg base CX0 2 f fd ["_law_script","_law_many"] (a5u K):=by
 refine F.ok a5F (fun vs H Q E h=>?_) (fun cdv A outer s H vs Q E hr h=>?_)
 ·walk_at "h"
 ·obtain⟨a,m,ns,rfl,hS,hl,hm0,hm1,q⟩:=h;have nd:=a5F.nd;have hu:=J1 hr
  refine⟨_,((B8 (i:=2) nd rfl (.inl rfl) (@K9 _ _ _ _ _ _ _ _ a0r (E1 (a2g K) (by rfl) B.list ig ((N4 (a3E K) (pv 0) Q3 (Q2 A3))<*>A0)) (@K9 _ _ _ _ _ _ _ _ b0Z (@D0 _ _ _ _ (A3<*>A0)) (E1 a0y (by rfl) B.int jR ((M1 a0h (A5 (N5 K) (by rfl) B.len aR ((pv 0)<*>A0)) A3 (B5 _))<*>A0)))))<*
    ((L6 (i:=3) (own:=["_law_cell"]) (fr:=[]) rfl nd rfl rfl (by walk_at "w") (by walk_at "w") C0 (J3 K (pv 2)) ⟨fun _ _ _ _=>⟨(A8 (i:=0) (show bu (["_law_cell"]:List Str) by decide +kernel) rfl (.inl rfl)),L7,((@D0 _ _ _ _ (A3<*>((pv 0)<*>A0)))<|>(E1 a0y (by rfl) B.int jR ((M1 b2B (pv 0) (@K9 _ _ _ _ _ _ _ _ a4K A3 A3) (B5 _))<*>A0)))⟩⟩)<*
    ((B8 (i:=4) nd rfl (.inl rfl) (@D0 _ _ _ _ A0))<*
    ((M9 bG rfl (M3 (by rfl) B.range ((pv 1)<*>A0)) (A8 (i:=5) nd rfl (.inl rfl))
     ((B8 (i:=6) nd rfl (.inl rfl) ((pv 5)&&&(A5 (N5 K) (by rfl) B.len aR ((pv 2)<*>A0))))<*
     (@A4 _ _ _ (@J8 _ _ _ _ _ _ _ _ (B0 a3Z ((pv 3)<|>(pv 6)) A3 (B5 _))
      ((N6 (N8 K (pv 4) ((((pv 3)<|>(pv 6))&&&A3)<*>A0)))<*
      (@A4 _ _ _ (@a7q _ _ _ _ _ _ (@K9 _ _ _ _ _ _ _ _ a2N ((pv 3)<|>(pv 6)) A3) (b0V (pv 3) (pv 6) a7i) (by rfl) (by rfl) (by rfl))))
      (@A4 _ _ _ (N6 (N8 K (pv 4) (((A9 G1 D1 hr.m (((pv 2)<|>(pv 6))<*>(((pv 5)|||A3)<*>A0)))&&&A3)<*>A0))))))))<*
     (@A4 _ _ _ (B1 (a4J hr.hd (by rfl) B.list (by rfl) B.reversed (pv 4)))))))),?_⟩
  walk_at "rd";refine⟨a,ns.map V.int,rfl,hS,fun p1 n1=>⟨p1,rfl,_,.inl (SqL.of A2),fun l nl=>⟨by decide,fun p2 n2=>?_⟩⟩⟩;have s1:=(A6.refl H).upd (o:=.lst (U5 (ns.map V.int) none (some 60))) n1;have s2:=s1.upd (o:=.lst (U5 (ns.map V.int) none (some 60))) (s1.free nl);have s3:=s2.upd (o:=.lst [V.int 0]) (s2.free n2);refine⟨ns.map V.int,.inl (s3.seq hS),p2,_,_,rfl,rfl,A2,?_,?_,?_,fun p3 n3=>?_⟩
  ·split<;>decide
  ·split<;>decide
  ·rw[sizeLine_eq];split<;>decide
  have s4:=s3.upd (o:=.lst (List.replicate (if decide ((ns.map V.int).length=(0:Int))=true then (1:Int) else 0).toNat [V.int 0]).flatten) (s3.free n3);have hlp:l≠p2:=fun e=>by subst e;rw[A2] at n2;cases n2
  have hl3:l≠p3:=fun e=>by subst e;rw[B2 hlp,A2] at n3;cases n3
  obtain⟨os,eo,ho1,ho2⟩:∃ os:List Int,U5 (ns.map V.int) none (some 60)++(List.replicate (if decide ((ns.map V.int).length=(0:Int))=true then (1:Int) else 0).toNat [V.int 0]).flatten=os.map V.int/\1<=os.length/\os.length<=64:=by
   by_cases e:ns=[]
   ·subst e;exact⟨[0],rfl,by decide,by decide⟩
   ·have hne:¬ ((ns.map V.int).length:Int)=0:=by rw[ab];have:=cO.mpr e;omega
    rw[decide_eq_false hne];refine⟨ns.take 60,?_,?_,?_⟩
    ·have h60:HT.sIx (ns.map V.int).length (ns.map V.int).length (some 60)=min 60 ns.length:=by rw[show (60:Int)=((60:Nat):Int) from rfl,HT.sIx_nat,ab]
     unfold U5;rw[HT.sIx_none,iX,h60,jx];simp only[aU,if_false,Int.toNat_zero,List.replicate,List.flatten_nil,bU];rw[<- ja];congr 1;by_cases h:60<=ns.length
     ·rw[iN h]
     ·rw[Nat.min_eq_right (by omega),di (ao _),di (by omega)]
    ·have:=cO.mpr e;rw[bA];omega
    ·rw[bA];omega
  refine⟨l,p3,_,_,rfl,rfl,by rw[B2 hl3,B2 hlp,A2],A2,?_,fun p4 n4=>?_⟩
  ·have:=congrArg gB eo;have e2:(os.map V.int).length=os.length:=ab _;rw[aE] at this;rw[sizeLine_eq];omega
  rw[eo];have s5:=s4.upd (o:=.lst (os.map V.int)) (s4.free n4);generalize hH5:upd (upd (upd (upd (upd H p1 (HO.lst (U5 (ns.map V.int) none (some 60)))) l (HO.lst (U5 (ns.map V.int) none (some 60)))) p2 (HO.lst [V.int 0])) p3 (HO.lst (List.replicate (if decide ((ns.map V.int).length=(0:Int))=true then (1:Int) else 0).toNat [V.int 0]).flatten)) p4 (HO.lst (os.map V.int))=H5 at s5 ⊢;have h4:H5 p4=some (.lst (os.map V.int)):=by rw[<- hH5];exact A2
  refine⟨p4,rfl,⟨_,SqL.of h4⟩,fun p5 n5=>Q4 (K:=K) (xs:=os.map V.int) (fun i τ Hc=>∃(c:Option V) (rs:List Int),τ=[c]/\A6 H5 Hc/\Hc p5=some (.lst (rs.map V.int))/\rs.length=i)
   ⟨none,[],rfl,(A6.refl H5).upd n5,A2,rfl⟩ (fun i τ Hc _ ⟨_,_,_,sc,_⟩=>SqL.of (sc _ _ h4)) ?_ ?_⟩
  ·rintro i x τ Hc hx ⟨c,rs,rfl,sc,h5,hi⟩ _;have hil:i<os.length:=by have:=(aA.mp hx).1;rw[ab] at this;exact this
   obtain⟨z,rfl⟩:∃ z,x=V.int z:=by
    rw[aF] at hx;cases e:os[i]? with
    | none=>rw[e] at hx;cases hx
    | some z=>rw[e] at hx;exact⟨z,(aG hx).symm⟩
   walk_at "rd";refine⟨by decide,fun p n=>⟨⟨by decide,by decide,by decide⟩,?_⟩⟩;have h5':∀ o,(upd Hc p o) p5=some (.lst (rs.map V.int)):=fun o=>by rw[B2 (E2 h5 n)];exact h5
   refine⟨[V.int 0,V.int z],SqL.of A2,?_⟩;generalize decide ((10:Int) ^ Int.toNat 18<=z)=b;obtain⟨y,hy⟩:∃ y:Int,atI [V.int 0,V.int z] (if b=true then 1 else 0)=some (V.int y):=by
    cases b
    ·exact⟨0,rfl⟩
    ·exact⟨z,rfl⟩
   refine⟨_,hy,_,h5' _,?_,(sc.upd (sc.free n)).upd n5,rs++[y],?_,?_⟩
   ·rw[ab];exact B7 (by omega)
   ·rw[A2,aJ];rfl
   ·rw[aE,hi];rfl
  ·rintro τ H6 ⟨c,rs,rfl,s6,h5,hrs⟩;rw[ab] at hrs;refine⟨by decide,fun p6 n6=>?_⟩;have s06:A6 H H6:=s5.trans s6;have h46:H6 p4=some (.lst (os.map V.int)):=s6 _ _ h4;have n45:p4≠p5:=E2 h4 n5;have n46:p4≠p6:=E2 h46 n6;have n56:p5≠p6:=E2 h5 n6
   refine⟨_,rfl,m,rfl,by omega,by omega,R8 (lo:=0) (n:=m.toNat) (a8m H a p4 p5 p6 m os)
    ⟨none,none,rs,[],rfl,s06.upd (s06.free n6),by rw[B2 n46];exact h46,by rw[B2 n56];exact h5,hrs,A2,rfl,fun x hx=>(by cases hx)⟩ ?_ ?_⟩
   ·rintro i σ Hc hi ⟨kv,av,rs,ds,rfl,sc,c4,c5,hrl,c6,hdl,hdb⟩;have hoi:(0:Int)<(os.map V.int).length:=by rw[ab];omega
    have hat:∃ j:Nat,j<os.length/\(0+(i:Int)) % ((os.map V.int).length:Int)=(j:Int):=by
     have h1:=bE (0+(i:Int)) (b:=((os.map V.int).length:Int)) (by omega);have h2:=bn (0+(i:Int)) hoi;refine⟨((0+(i:Int)) % ((os.map V.int).length:Int)).toNat,?_,by omega⟩;rw[ab] at h2 ⊢;omega
    obtain⟨j,hj,ej⟩:=hat;have atR:∀(l:List Int),l.length=os.length->∃ z,atI (l.map V.int) (j:Int)=some (V.int z):=fun l e=>by
     have hjl:j<l.length:=by omega
     exact⟨l[j],N7 (by rw[aF,aq hjl];rfl)⟩
    obtain⟨z,hz⟩:=atR rs hrl;obtain⟨z',hz'⟩:=atR os rfl;have n65:p6≠p5:=n56.symm;have hdb2:∀ y:Int,∀ x∈ds++[y % 1000],0<=x/\x<1000:=fun y x hx=>by
     rcases ak.mp hx with hx | hx
     ·exact hdb x hx
     ·rw[ah.mp hx];omega
    have n64:p6≠p4:=n46.symm;have hdl2:(ds.map V.int).length<sizeLine:=by rw[ab];exact B7 (by omega)
    have c5':∀ o,(upd Hc p6 o) p5=some (.lst (rs.map V.int)):=fun o=>by rw[B2 n56];exact c5
    have hm6:H p6=none:=s06.free n6;have hm5:H p5=none:=(s5.free n5)
    walk_at "rd";refine⟨_,.inl (SqL.of c4),hoi,_,SqL.of c5,?_⟩;rw[ej];refine⟨_,hz,z,rfl,R7 (fun _=>?_) fun _=>?_⟩
    ·refine⟨.inl ⟨rfl,_,SqL.of c6⟩,_,SqL.of c5,_,hz,z,rfl,by decide,_,c6,hdl2,_,SqL.of (c5' _),_,hz,z,rfl,⟨by decide,by decide⟩,?_⟩;have hix:ixN (rs.map V.int).length (j:Int)=some j:=by
      unfold ixN;rw[ab,if_pos (by omega),if_pos (by omega)];simp
     refine⟨_,c5' _,j,hix,?_⟩;refine⟨_,_,rs.set j (z / 1000),ds++[z % 1000],rfl,(sc.upd hm6).upd hm5,by rw[B2 n45,B2 n46];exact c4,by rw[A2,List.map_set],by rw[eO];exact hrl,?_,by rw[aE,hdl];rfl,hdb2 z⟩;rw[B2 n65,A2,aJ];rfl
    ·refine⟨.inl ⟨rfl,_,SqL.of c6⟩,_,SqL.of c4,_,hz',z',_,rfl,by omega,by omega,fun y=>?_⟩;walk_at "rd";refine⟨by decide,_,c6,hdl2,?_⟩;refine⟨_,_,rs,ds++[y % 1000],rfl,sc.upd hm6,by rw[B2 n46];exact c4,by rw[B2 n56];exact c5,hrl,by rw[A2,aJ];rfl,by rw[aE,hdl];rfl,hdb2 y⟩
   ·rintro σ Hc ⟨kv,av,rs,ds,rfl,sc,c4,c5,hrl,c6,hdl,hdb⟩;walk_at "rd";refine⟨_,c6,fun p7 n7=>?_⟩;rw[<- hU];exact q p7 ds.reverse _ ⟨by rw[eJ];omega,fun x hx=>hdb x (hJ.mp hx)⟩ (sc.upd (sc.free n7)) (sc.free n7) A2
def a6B (H:Hp)(d p:Addr)(i:Nat)(τ:St)(Hc:Hp):Prop:=∃(c:Option V) (ps:List (Addr×List Int)),τ=[c,some (.ref d)]/\Kp d H Hc/\K5 Hc d/\Hc p=some (.lst (ps.map fun x=>V.ref x.1)) /\
 (∀ x∈ps,Hc x.1=some (.tup (x.2.map V.int))/\∃ z k,x.2=[z,k])/\ps.length=i/\ps.map (fun x=>x.2.getD 1 0)=E5 0 i
def a6A (H:Hp)(p:Addr)(ps:List (Addr×List Int))(i:Nat)(τ:St)(Hc:Hp):Prop:=∃(c k:Option V),τ=[c,k]/\A6 H Hc/\Hc p=some (.lst (((ps.map fun x=>x.2.getD 1 0).take i).map V.int))
theorem a5w:B9 ["_law_deck_here","_law_many"] ["_law_deck_here","_law_many"] (A7 (top 23)):=by walk_at "s"
theorem a9c (F:Fun K "_law_turn" "_law_turn" (top 23) f fd)(B:Bt mg)(D1:Df K mg "_law_next" st1 f1 fd1 ["_law_deck_here"])(G1:B6 P w K mg base CX0 1 f1 fd1 ["_law_deck_here"] P3):B6 P w K mg base CX0 2 f fd ["_law_deck_here","_law_many"] a0I:=by
 refine F.ok a5w (fun vs H Q E h=>?_) (fun cdv A outer s H vs Q E hr h=>?_)
 ·walk_at "h"
 ·obtain⟨d,n,rfl,hd,hn0,hn1,q⟩:=h;have nd:=a5w.nd;have hu:=J1 hr;refine⟨_,(@A4 _ _ _ (B1 (E1 (S0 K) (by rfl) B.tuple cE ((I0 (own:=["_law_cell","_law_at"]) (fr:=[]) rfl (by walk_at "w") C0 (J3 K (A5 (a0Y K) (by rfl) B.sorted dY ((I0 (own:=["_law_at"]) (fr:=[("_law_deck_here",0)]) rfl (by walk_at "w") (B3 rfl rfl C0) (M3 (by rfl) B.range ((pv 1)<*>A0)) ⟨fun _ _ _ _=>⟨(A8 (i:=0) (show bu (["_law_at","_law_deck_here"]:List Str) by decide +kernel) rfl (.inl rfl)),L7,(@C9 _ _ _ _ _ ((A9 G1 D1 hr.m ((pv 1)<*>A0))<*>((pv 0)<*>A0)))⟩⟩)<*>A0))) ⟨fun _ _ _ _=>⟨(T4 K (n:=2) rfl (K4 (A8 (i:=0) (show bu (["_law_cell","_law_at"]:List Str) by decide +kernel) rfl (.inl rfl)) (K4 (A8 (i:=1) (show bu (["_law_cell","_law_at"]:List Str) by decide +kernel) rfl (.inl rfl)) T3))),L7,(pv 1)⟩⟩)<*>A0)))),?_⟩;walk_at "rd";refine⟨by omega,by omega,fun p n=>X3 (a6B H d p) ⟨none,[],rfl,(Kp.refl d H).new n,hd.new (hd.ne n),A2,(fun x hx=>by cases hx),rfl,rfl⟩ ?_ ?_⟩
  ·rintro i τ Hc hi ⟨c,ps,rfl,k,dk,hp,hall,hl,hm⟩;walk_at "rd";refine E6 dk fun z H1 k1 dk1 e1=>⟨by decide,fun q1 nq=>?_⟩
   have hp1:H1 p=some (.lst (ps.map fun x=>V.ref x.1)):=by rw[e1 p (hd.ne n)];exact hp
   have k2:=k.trans k1;have nH:H q1=none:=k2.free dk1 nq;refine⟨_,J5 hp1 nq,by rw[ab,hl];exact B7 (by omega),?_⟩;refine⟨_,ps++[(q1,[z,0+(i:Int)])],rfl,(k2.new nH).new n,(dk1.new (dk1.ne nq)).new (hd.ne n),by rw[A2,aJ];rfl,?_,by rw[aE,hl];rfl,by rw[aJ,hm,Z2];rfl⟩;intro x hx;rcases ak.mp hx with hx | hx
   ·obtain⟨h1,h2⟩:=hall x hx;have h3:=k1.tp dk _ _ h1;exact⟨by rw[B2 (b0n h3 hp1)];exact J5 h3 nq,h2⟩
   ·cases ah.mp hx;exact⟨by rw[B2 (E2 hp1 nq).symm,A2];rfl,z,_,rfl⟩
  ·rintro τ H1 ⟨c,ps,rfl,k,dk,hp,hall,hl,hm⟩;refine⟨ps,⟨.inl (SqL.of hp),fun x hx=>⟨(hall x hx).1,by obtain⟨_,z,k,e⟩:=hall x hx;rw[e];simp⟩⟩,fun ps' l pm _ nl=>⟨⟨_,SqL.of A2⟩,fun p2 n2=>?_⟩⟩;have nl':H l=none:=k.free dk nl;have s1:A6 H1 (upd H1 l (.lst (ps'.map fun x=>V.ref x.1))):=(A6.refl H1).upd nl;have n2':H1 p2=none:=s1.free n2;generalize hH2:upd H1 l (.lst (ps'.map fun x=>V.ref x.1))=H2 at s1 n2 ⊢;have hl2:H2 l=some (.lst (ps'.map fun x=>V.ref x.1)):=by rw[<- hH2];exact A2
   refine Q4 (K:=K) (xs:=ps'.map fun x=>V.ref x.1) (a6A H2 p2 ps') ?_ ?_ ?_ ?_
   ·exact⟨none,none,rfl,(A6.refl H2).upd n2,A2⟩
   ·rintro i τ Hc _ ⟨_,_,rfl,sc,_⟩;exact SqL.of (sc _ _ hl2)
   ·rintro i v τ Hc hx ⟨c,k',rfl,sc,h2⟩ _;rw[aF] at hx;cases hy:ps'[i]? with
    | none=>rw[hy] at hx;cases hx
    | some y =>
    rw[hy] at hx;cases aG hx;have hym:=aI hy;obtain⟨h3,z,m,e⟩:=hall y (pm.mem_iff.mp hym);have h4:=sc _ _ (s1 _ _ h3);rw[e] at h4;walk_at "rd";have hil:i<ps'.length:=(aA.mp hy).1;refine⟨_,SqT.of h4,rfl,_,_,rfl,_,_,rfl,rfl,_,h2,?_,?_⟩
    ·rw[ab,bA];refine B7 (bj (Nat.min_le_left _ _) ?_);have:=pm.length_eq;omega
    ·refine⟨_,_,rfl,sc.upd n2,?_⟩;rw[A2,bQ,aF,hy,aJ];show _=some (HO.lst (_++[V.int (y.2.getD 1 0)]));rw[e];rfl
   ·rintro τ Hc ⟨c,k',rfl,sc,h2⟩;refine⟨_,.inl ⟨SqL.of h2,fun l3 n3=>?_⟩⟩;rw[ab,di (by rw[ab];exact ao _)];have s3:A6 H1 Hc:=s1.trans sc;have nH3:H l3=none:=k.free dk (s3.free n3);refine q l3 _ _ ((k.trans s3.kp).new nH3) ((dk.same s3).new (hd.ne nH3)) nH3 A2 ?_;rw[<- hm];exact pm.map _
theorem a8G {k c form:Int}(hk:1<=k)(hf0:0<=form)(hf1:form<8):∃ x:Int,atI [V.int (k-1),V.int 0,V.int (c % k),V.int (if k-1-c % 3>0 then k-1-c % 3 else 0),V.int (k-1),V.int (if k-2>0 then k-2 else 0),V.int ((k-1) / 2),V.int (c % k)] form=some (V.int x)/\0<=x/\x<k:=by
 have h1:=bE c (b:=k) (by omega);have h2:=bn c (b:=k) (by omega);have hf:form=0\/form=1\/form=2\/form=3\/form=4\/form=5\/form=6\/form=7:=by omega
 rcases hf with rfl | rfl | rfl | rfl | rfl | rfl | rfl | rfl
 ·exact⟨_,rfl,by omega,by omega⟩
 ·exact⟨_,rfl,by omega,by omega⟩
 ·exact⟨_,rfl,by omega,by omega⟩
 ·refine⟨_,rfl,?_,?_⟩<;>split<;>omega
 ·exact⟨_,rfl,by omega,by omega⟩
 ·refine⟨_,rfl,?_,?_⟩<;>split<;>omega
 ·exact⟨_,rfl,by omega,by omega⟩
 ·exact⟨_,rfl,by omega,by omega⟩
def Fd (n:Int)(fs:List (Int×Int))(i:Int):Prop:=fs.Nodup/\(∀ t∈fs,0<=t.1/\t.1<t.2/\t.2<n)/\∀ k:Int,1<=k->k<=i->∃ a,0<=a/\a<k/\(a,k)∈fs
theorem Fd.add {n i:Int}{fs:List (Int×Int)}{t:Int×Int}(h:Fd n fs i)(ht:0<=t.1/\t.1<t.2/\t.2<n):Fd n (a1P fs t) i:=by
 refine⟨a9o h.1,fun u hu=>?_,fun k k0 k1=>?_⟩
 ·rcases a1m.mp hu with hu | rfl
  ·exact h.2.1 u hu
  ·exact ht
 ·obtain⟨a,a0,a1,hm⟩:=h.2.2 k k0 k1;exact⟨a,a0,a1,a1m.mpr (.inl hm)⟩
theorem Fd.next {n i:Int}{fs:List (Int×Int)}{a:Int}(h:Fd n fs i)(a0:0<=a)(a1:a<i+1)(hn:i+1<n):Fd n (a1P fs (a,i+1)) (i+1):=by
 have h':=h.add (t:=(a,i+1)) ⟨a0,a1,hn⟩;refine⟨h'.1,h'.2.1,fun k k0 k1=>?_⟩;by_cases e:k=i+1
 ·subst e;exact⟨a,a0,a1,a1m.mpr (.inr rfl)⟩
 ·exact h'.2.2 k k0 (by omega)
def a8d (H:Hp)(d p:Addr)(lo hi n form:Int)(i:Nat)(σ:St)(Hc:Hp):Prop:=∃(kv cv av:Option V) (fs:List (Int×Int)),σ=[some (.ref d),some (.int lo),some (.int hi),some (.int n),some (.int form),some (.ref p),kv,cv,av,none,none,none,none,none,none] /\
 Kp d H Hc/\K5 Hc d/\Hc p=some (.dT (kvT fs))/\fs.length<=i/\Fd n fs i
def a4o (H:Hp)(d p:Addr)(lo hi n form more:Int)(i:Nat)(σ:St)(Hc:Hp):Prop:=∃(kv cv av tv ov uv:Option V) (fs:List (Int×Int)),σ=[some (.ref d),some (.int lo),some (.int hi),some (.int n),some (.int form),some (.ref p),kv,cv,av,some (.int more),tv,ov,uv,none,none] /\
 Kp d H Hc/\K5 Hc d/\Hc p=some (.dT (kvT fs))/\fs.length<=200/\Fd n fs (n-1)
def a8c (H:Hp)(p pn:Addr)(gs:List (Int×Int))(ks:List Int)(i:Nat)(τ:St)(Hc:Hp):Prop:=∃(ov uv:Option V) (ps:List (Addr×List Int)),τ=[ov,uv,some (.ref pn)]/\A6 H Hc/\Hc p=some (.lst (ps.map fun x=>V.ref x.1))/\P5 Hc ps ((gs.take i).map (ren ks))
theorem a5v:B9 ["_law_deck_here","_law_least","_law_most","_law_places","_law_form","_law_found","_law_k","_law_cell","_law_ahead","_law_more","_law_turn_here","_law_one","_law_other","_law_names","_law_ties"] ["_law_deck_here","_law_least","_law_most"] (A7 (top 24)):=by walk_at "s"
theorem a9b (F:Fun K "_law_web" "_law_web" (top 24) f fd)(B:Bt mg)(D1:Df K mg "_law_next" st1 f1 fd1 ["_law_deck_here"])(G1:B6 P w K mg base CX0 1 f1 fd1 ["_law_deck_here"] P3)(D2:Df K mg "_law_turn" st2 f2 fd2 ["_law_deck_here","_law_many"])(G2:B6 P w K mg base CX0 2 f2 fd2 ["_law_deck_here","_law_many"] a0I):B6 P w K mg base CX0 3 f fd ["_law_deck_here","_law_least","_law_most"] a7e:=by
 refine F.ok a5v (fun vs H Q E h=>?_) (fun cdv A outer s H vs Q E hr h=>?_)
 ·walk_at "h"
 ·obtain⟨d,lo,hi,rfl,hd,h3,hlh,h60,q⟩:=h;have nd:=a5v.nd;have hu:=J1 hr
  refine⟨_,((B8 (i:=3) nd rfl (.inl rfl) ((pv 1)|||((A9 G1 D1 hr.m ((pv 0)<*>A0))&&&(((pv 2)^^^(pv 1))|||A3))))<*
    ((B8 (i:=4) nd rfl (.inl rfl) ((A9 G1 D1 hr.m ((pv 0)<*>A0))&&&A3))<*
    ((B8 (i:=5) nd rfl (.inl rfl) a7t)<*
    ((M9 bG rfl (a2d (by rfl) B.range (A3<*>((pv 3)<*>A0))) (A8 (i:=6) nd rfl (.inl rfl))
     ((B8 (i:=7) nd rfl (.inl rfl) (A9 G1 D1 hr.m ((pv 0)<*>A0)))<*
     ((B8 (i:=8) nd rfl (.inl rfl) ((@D0 _ _ _ _ (((pv 6)^^^A3)<*>(A3<*>(((pv 7)&&&(pv 6))<*>((A5 (U6 rfl) (by rfl) B.max jQ (A3<*>((((pv 6)^^^A3)^^^((pv 7)&&&A3))<*>A0)))<*>(((pv 6)^^^A3)<*>((A5 (U6 rfl) (by rfl) B.max jQ (A3<*>(((pv 6)^^^A3)<*>A0)))<*>((@K9 _ _ _ _ _ _ _ _ a2N ((pv 6)^^^A3) A3)<*>(((pv 7)&&&(pv 6))<*>A0)))))))))<|>(pv 4)))<*
     (@A4 _ _ _ (a0f hu (pv 5) (@C9 _ _ _ _ _ ((pv 8)<*>((pv 6)<*>A0))) L0 rfl)))))<*
     ((@J8 _ _ _ _ _ _ _ _ (B0 a0h (pv 4) A3 (B5 _))
     (@A4 _ _ _ (a0f hu (pv 5) (@C9 _ _ _ _ _ (A3<*>(((pv 3)^^^A3)<*>A0))) L0 rfl))
     C6)<*
     ((B8 (i:=9) nd rfl (.inl rfl) ((@D0 _ _ _ _ (A3<*>(A3<*>(A3<*>((pv 3)<*>((@K9 _ _ _ _ _ _ _ _ W6 A3 (pv 3))<*>(A3<*>A0)))))))<|>((A9 G1 D1 hr.m ((pv 0)<*>A0))&&&A3)))<*
    ((M9 bG rfl (M3 (by rfl) B.range ((pv 9)<*>A0)) (A8 (i:=10) nd rfl (.inl rfl))
     ((B8 (i:=11) nd rfl (.inl rfl) ((A9 G1 D1 hr.m ((pv 0)<*>A0))&&&(pv 3)))<*
     ((B8 (i:=12) nd rfl (.inl rfl) ((A9 G1 D1 hr.m ((pv 0)<*>A0))&&&(pv 3)))<*
     (@A4 _ _ _ (@J8 _ _ _ _ _ _ _ _ (PW.pt (a2E (B0 a0g (pv 11) (pv 12) (B5 _)) (a0K (B0 a0D (A5 a5e (by rfl) B.len aR ((pv 5)<*>A0)) A3 (B5 _)))))
      (@A4 _ _ _ (a0f hu (pv 5) (@C9 _ _ _ _ _ ((A5 (a0x rfl) (by rfl) B.min boot_min ((pv 11)<*>((pv 12)<*>A0)))<*>((A5 (U6 rfl) (by rfl) B.max jQ ((pv 11)<*>((pv 12)<*>A0)))<*>A0))) L0 rfl))
      C6)))))<*
     ((B8 (i:=13) nd rfl (.inr rfl) (A9 G2 D2 hr.m ((pv 0)<*>((pv 3)<*>A0))))<*
    ((L6 (i:=14) (own:=["_law_one","_law_other"]) (fr:=[("_law_names",13)]) rfl nd rfl rfl (by walk_at "w") (by walk_at "w") (B3 rfl rfl C0) (J3 K (A5 (a3h hr.hd) (by rfl) B.sorted dY ((pv 5)<*>A0))) ⟨fun _ _ _ _=>⟨(T4 K (n:=2) rfl (K4 (A8 (i:=0) (show bu (["_law_one","_law_other","_law_names"]:List Str) by decide +kernel) rfl (.inl rfl)) (K4 (A8 (i:=1) (show bu (["_law_one","_law_other","_law_names"]:List Str) by decide +kernel) rfl (.inl rfl)) T3))),L7,(@C9 _ _ _ _ _ ((A5 (a0x rfl) (by rfl) B.min boot_min (((pv 2)*>(pv 0))<*>(((pv 2)*>(pv 1))<*>A0)))<*>((A5 (U6 rfl) (by rfl) B.max jQ (((pv 2)*>(pv 0))<*>(((pv 2)*>(pv 1))<*>A0)))<*>A0)))⟩⟩)<*
    (@A4 _ _ _ (B1 (@C9 _ _ _ _ _ ((pv 3)<*>((E1 (S0 K) (by rfl) B.tuple cE ((A5 (a0Y K) (by rfl) B.sorted dY ((pv 14)<*>A0))<*>A0))<*>A0)))))))))))))),?_⟩
  walk_at "rd";refine E6 hd fun z1 H1 k1 dk1 e1=>?_
  have r1:=bE z1 (b:=hi-lo+1) (by omega);have r2:=bn z1 (b:=hi-lo+1) (by omega);refine⟨z1,rfl,by omega,E6 dk1 fun z2 H2 k2 dk2 e2=>⟨z2,rfl,by decide,fun p np=>?_⟩⟩;obtain⟨n,hn⟩:∃ n:Int,n=lo+z1 % (hi-lo+1):=⟨_,rfl⟩
  obtain⟨form,hfo⟩:∃ m:Int,m=z2 % 8:=⟨_,rfl⟩
  rw[<- hn,<- hfo];have n3:3<=n:=by omega
  have n60:n<=60:=by omega
  have nlo:lo<=n:=by omega
  have nhi:n<=hi:=by omega
  have f0:0<=form:=by omega
  have f8:form<8:=by omega
  clear hn hfo r1 r2 h3 hlh h60;have k02:=k1.trans k2;have nHp:H p=none:=k02.free dk2 np;have pd:p≠d:=hd.ne nHp;refine⟨_,rfl,1,n,rfl,⟨by decide,by decide,by omega,by omega⟩,R8 (lo:=1) (n:=(n-1).toNat) (a8d H d p lo hi n form) ?_ ?_ ?_⟩
  ·exact⟨none,none,none,[],rfl,k02.new nHp,dk2.new pd,A2,ao _,by simp,by simp,fun k k0 k1=>by omega⟩
  ·rintro i σ Hc hin ⟨kv,cv,av,fs,rfl,kc,dc,hp,hfl,hF⟩;walk_at "rd";refine E6 dc fun z3 H3 k3 dk3 e3=>?_
   obtain⟨x,hx,x0,x1⟩:=a8G (k:=1+(i:Int)) (c:=z3) (form:=form) (by omega) (by omega) (by omega);have hp3:H3 p=some (.dT (kvT fs)):=by rw[e3 p pd];exact hp
   have kk:=kc.trans k3;refine⟨z3,rfl,by omega,z3,rfl,by decide,0,_,⟨rfl,rfl⟩,0,_,⟨rfl,rfl⟩,⟨by omega,by omega⟩,z3,rfl,by omega,by decide,fun pl nl=>⟨_,SqL.of A2,_,hx,by decide,fun pt nt=>?_⟩⟩;have nHl:H pl=none:=kk.free dk3 nl;have nHt:H pt=none:=kk.free dk3 (L3 nt);refine⟨_,Y5.t (k:=[bX x,bX (1+(i:Int))]) (J5 (J5 hp3 nl) nt) A2 (by rw[a5O];exact B7 (by omega)),?_⟩;rw[a2F];refine⟨_,_,_,_,rfl,((kk.new nHl).new nHt).new nHp,((dk3.new (hd.ne nHl)).new (hd.ne nHt)).new pd,A2,?_,?_⟩
   ·have:=a1q (fs:=fs) (t:=(x,1+(i:Int)));omega
   ·have:=hF.next x0 (by omega) (by omega);rw[show (1:Int)+i=(i:Int)+1 by omega,show (((i+1:Nat)):Int)=(i:Int)+1 by omega];exact this
  ·rintro σ Hc ⟨kv,cv,av,fs,rfl,kc,dc,hp,hfl,hF⟩;rw[show ((n-1).toNat:Int)=n-1 by omega] at hF;dsimp only
   refine J7 (fun σ Hc=>∃(kv cv av:Option V) (fs:List (Int×Int)),σ=[some (.ref d),some (.int lo),some (.int hi),some (.int n),some (.int form),some (.ref p),kv,cv,av,none,none,none,none,none,none] /\
     Kp d H Hc/\K5 Hc d/\Hc p=some (.dT (kvT fs))/\fs.length<=60/\Fd n fs (n-1)) (fun R hR=>?_) ?_
   ·walk_at "rd";refine R7 (fun _=>?_) fun _=>hR _ _ ⟨kv,cv,av,fs,rfl,kc,dc,hp,by omega,hF⟩
    refine⟨by decide,fun pt nt=>⟨_,Y5.t (k:=[bX 0,bX (n-1)]) (J5 hp nt) A2 (a0E (by omega)),?_⟩⟩;have nHt:H pt=none:=kc.free dc nt;rw[a2F];refine hR _ _ ⟨_,_,_,_,rfl,(kc.new nHt).new nHp,(dc.new (hd.ne nHt)).new pd,A2,?_,hF.add ⟨Int.le_refl 0,show (0:Int)<n-1 by omega,show n-1<n by omega⟩⟩;have:=a1q (fs:=fs) (t:=(0,n-1));omega
   ·rintro σ Hc ⟨kv,cv,av,fs,rfl,kc,dc,hp,hfl,hF⟩;walk_at "rd";refine⟨.inl ⟨by omega,by omega⟩,by decide,fun pl nl=>?_⟩;have nHl:H pl=none:=kc.free dc nl;refine E6 (dc.new (hd.ne nHl)) fun z3 H3 k3 dk3 e3=>⟨z3,rfl,by decide,?_⟩
    have hpl:H3 pl=some (.lst [V.int 0,V.int 1,V.int 3,V.int n,V.int (2*n),V.int 0]):=by rw[e3 pl (hd.ne nHl)];exact A2
    have hp3:H3 p=some (.dT (kvT fs)):=by rw[e3 p pd];exact J5 hp nl
    obtain⟨more,hmo,m0,m1⟩:∃ m:Int,atI [V.int 0,V.int 1,V.int 3,V.int n,V.int (2*n),V.int 0] (z3 % 6)=some (V.int m)/\0<=m/\m<=120:=by
     have hf:z3 % 6=0\/z3 % 6=1\/z3 % 6=2\/z3 % 6=3\/z3 % 6=4\/z3 % 6=5:=by omega
     rcases hf with e | e | e | e | e | e<;>rw[e]
     ·exact⟨_,rfl,by omega,by omega⟩
     ·exact⟨_,rfl,by omega,by omega⟩
     ·exact⟨_,rfl,by omega,by omega⟩
     ·exact⟨_,rfl,by omega,by omega⟩
     ·exact⟨_,rfl,by omega,by omega⟩
     ·exact⟨_,rfl,by omega,by omega⟩
    refine⟨_,SqL.of hpl,_,hmo,?_⟩;refine⟨_,rfl,more,rfl,by omega,by omega,R8 (lo:=0) (n:=more.toNat) (a4o H d p lo hi n form more) ?_ ?_ ?_⟩
    ·exact⟨_,_,_,none,none,none,fs,rfl,(kc.new nHl).trans k3,dk3,hp3,by omega,hF⟩
    ·rintro i σ Hc hin ⟨kv,cv,av,tv,ov,uv,fs,rfl,kc,dc,hp,hfl,hF⟩;walk_at "rd";refine E6 dc fun z4 H4 k4 dk4 e4=>⟨z4,rfl,by omega,E6 dk4 fun z5 H5 k5 dk5 e5=>⟨z5,rfl,by omega,?_⟩⟩
     have hp5:H5 p=some (.dT (kvT fs)):=by rw[e5 p pd,e4 p pd];exact hp
     have kk:=(kc.trans k4).trans k5;have s0:=bE z4 (b:=n) (by omega);have s1:=bn z4 (b:=n) (by omega);have t0:=bE z5 (b:=n) (by omega);have t1:=bn z5 (b:=n) (by omega);have same:a4o H d p lo hi n form more (i+1) [some (.ref d),some (.int lo),some (.int hi),some (.int n),some (.int form),some (.ref p),kv,cv,av,some (.int more),some (.int (0+(i:Int))),some (.int (z4 % n)),some (.int (z5 % n)),none,none] H5 :=
      ⟨_,_,_,_,_,_,fs,rfl,kk,dk5,hp5,hfl,hF⟩
     refine R7 (fun h1=>⟨_,hp5,R7 (fun h2=>?_) fun _=>same⟩) fun _=>same
     have h1':z4 % n≠z5 % n:=by simpa using h1
     have h2':fs.length<200:=by rw[a5O] at h2;have:=of_decide_eq_true h2;omega
     refine⟨_,_,⟨rfl,rfl⟩,_,_,⟨rfl,rfl⟩,by decide,fun pt nt=>?_⟩;have nHt:H pt=none:=kk.free dk5 nt;refine⟨_,Y5.t (k:=[bX (if z5 % n<z4 % n then z5 % n else z4 % n),bX (if z5 % n>z4 % n then z5 % n else z4 % n)]) (J5 hp5 nt) A2 (a0E (by omega)),?_⟩;rw[a2F];refine⟨_,_,_,_,_,_,_,rfl,(kk.new nHt).new nHp,(dk5.new (hd.ne nHt)).new pd,A2,?_,hF.add ?_⟩
     ·have:=a1q (fs:=fs) (t:=(if z5 % n<z4 % n then z5 % n else z4 % n,if z5 % n>z4 % n then z5 % n else z4 % n));omega
     ·dsimp only;split<;>split<;>omega
    ·rintro σ Hc ⟨kv,cv,av,tv,ov,uv,fs,rfl,kc,dc,hp,hfl,hF⟩;walk_at "rd";refine a3q dc (by omega) (by omega) fun pn ks H4 k4 dk4 nn hpn hperm=>?_
     have hp4:H4 p=some (.dT (kvT fs)):=k4 _ _ pd hp;refine⟨_,hp4,fs.map tl,a7Z fs,(fun l hl=>by obtain⟨t,_,rfl⟩:=bD.mp hl;simp[tl]),fun ps l pm hto _ nl=>?_⟩;obtain⟨gs,pgs,hgs⟩:=P5.of_perm hto pm;have s1:A6 H4 (upd H4 l (.lst (ps.map fun x=>V.ref x.1))):=(A6.refl H4).upd nl;refine⟨⟨_,SqL.of A2⟩,fun p2 n2=>?_⟩;generalize hH2:upd H4 l (.lst (ps.map fun x=>V.ref x.1))=H5 at s1 n2 ⊢;have hl5:H5 l=some (.lst (ps.map fun x=>V.ref x.1)):=by rw[<- hH2];exact A2
     have hgs5:=hgs.tp s1.tp;have gr:∀ t∈gs,0<=t.1/\t.1<t.2/\t.2<n:=fun t ht=>hF.2.1 t (pgs.mem_iff.mp ht)
     have gl:gs.length<=200:=by rw[pgs.length_eq];exact hfl
     have kk:=kc.trans k4;refine Q4 (K:=K) (xs:=ps.map fun x=>V.ref x.1) (a8c H5 p2 pn gs ks) ?_ ?_ ?_ ?_
     ·exact⟨none,none,[],rfl,(A6.refl H5).upd n2,A2,(fun x hx=>by cases hx),rfl⟩
     ·rintro i τ Hc _ ⟨_,_,_,rfl,sc,_⟩;exact SqL.of (sc _ _ hl5)
     ·rintro i v τ Hc hx ⟨ov,uv,ps2,rfl,sc,h2,hps2⟩ _;obtain⟨a,t,rfl,hti,hta⟩:=hgs5.get hx;have htm:=aI hti;obtain⟨g0,g1,g2⟩:=gr t htm;have hil:i<gs.length:=(aA.mp hti).1;have hpn5:Hc pn=some (.tup (ks.map V.int)):=sc _ _ (s1 _ _ hpn);have a1:atI (ks.map V.int) t.1=some (V.int (nm ks t.1)):=by
       rw[<- bH g0];refine N7 ?_;rw[aF,a4f hperm g0 (by omega)];rw[bH g0];rfl
      have a2:atI (ks.map V.int) t.2=some (V.int (nm ks t.2)):=by
       rw[<- bH (show 0<=t.2 by omega)];refine N7 ?_;rw[aF,a4f hperm (by omega) g2];rw[bH (show 0<=t.2 by omega)];rfl
      walk_at "rd";refine⟨_,SqT.of (sc _ _ hta),rfl,_,_,rfl,_,_,rfl,rfl,_,_,rfl,SqT.of hpn5,_,a1,_,_,rfl,SqT.of hpn5,_,a2,_,_,⟨rfl,rfl⟩,_,_,rfl,SqT.of hpn5,_,a1,_,_,rfl,SqT.of hpn5,_,a2,_,_,⟨rfl,rfl⟩,by decide,fun pq nq=>?_⟩;have hlen2:ps2.length<=200:=by have:=hps2.len;rw[ab,bA] at this;omega
      refine⟨_,J5 h2 nq,by rw[ab];exact B7 (by omega),_,_,ps2++[(pq,tl (ren ks t))],rfl,(sc.upd (sc.free nq)).upd n2,by rw[A2,aJ];rfl,?_⟩;rw[bQ,hti,aJ];refine P5.snoc (hps2.tp ((Tp.nw nq).trans (Tp.lst (J5 h2 nq)))) ?_;rw[B2 (E2 h2 nq).symm,A2];rfl
     ·rintro τ Hc ⟨ov,uv,ps2,rfl,sc,h2,hps2⟩;rw[ab,hgs.len,bq] at hps2;refine⟨ps2,hps2.src h2,fun ps3 l3 pm3 hs3 nl3=>⟨_,.inl ⟨SqL.of A2,fun l4 nl4=>⟨by decide,fun p5 n5=>?_⟩⟩⟩⟩;obtain⟨ts,pts,hts⟩:=hps2.perm pm3;have sc4:A6 H4 Hc:=s1.trans sc;have n4a:=sc4.free nl3;have n4b:=sc4.free (L3 nl4);have n4c:=sc4.free (L3 (L3 n5));have nHa:=kk.free dk4 n4a;have nHb:=kk.free dk4 n4b;have nHc:=kk.free dk4 n4c;refine q p5 n ts _ ((((kk.trans sc4.kp).new nHa).new nHb).new nHc) ((((dk4.same sc4).new (hd.ne nHa)).new (hd.ne nHb)).new (hd.ne nHc)) (by omega) (by omega) ?_ ?_
      ·exact a8I (by omega) (by omega) hF.1 hF.2.1 hfl (fun k k0 k1=>hF.2.2 k k0 (by omega)) hperm (pts.trans (pgs.map _)) (hts.srt hs3)
      ·refine⟨l4,A2,ps3,J5 A2 n5,hts.tp ?_⟩;exact (((Tp.refl Hc).new nl3).new (L3 nl4)).new (L3 (L3 n5))
def a8h (H:Hp)(w0 p:Addr)(n:Int)(ts:List (Int×Int))(i:Nat)(σ:St)(Hc:Hp):Prop:=∃(av bv:Option V) (as:List Addr),σ=[some (.ref w0),some (.ref p),av,bv]/\a4z H Hc p as (E9 n (ts.take i))
def a6E (H:Hp)(p:Addr)(n:Int)(ts:List (Int×Int))(i:Nat)(τ:St)(Hc:Hp):Prop:=∃(c:Option V) (as:List Addr),τ=[c]/\a4z H Hc p as ((E9 n ts).take i)
theorem a5B:B9 ["_law_web_here","_law_near_here","_law_one","_law_other"] ["_law_web_here"] (A7 (top 25)):=by walk_at "s"
theorem a9h (F:Fun K "_law_near" "_law_near" (top 25) f fd)(B:Bt mg):B6 P w K mg base CX0 1 f fd ["_law_web_here"] a0J:=by
 refine F.ok a5B (fun vs H Q E h=>?_) (fun cdv A outer s H vs Q E hr h=>?_)
 ·walk_at "h"
 ·obtain⟨w0,n,ts,rfl,hw,hn0,hn1,htl,hok,hsr,q⟩:=h;have nd:=a5B.nd;have hu:=J1 hr
  refine⟨_,((L6 (i:=1) (own:=["_law_place"]) (fr:=[]) rfl nd rfl rfl (by walk_at "w") (by walk_at "w") C0 (M3 (by rfl) B.range (((pv 0)*>A3)<*>A0)) ⟨fun _ _ _ _=>⟨(A8 (i:=0) (show bu (["_law_place"]:List Str) by decide +kernel) rfl (.inl rfl)),L7,(@D0 _ _ _ _ A0)⟩⟩)<*
    ((M9 bG rfl (L9 K ((pv 0)*>A3)) (T4 K (n:=2) rfl (K4 (A8 (i:=2) nd rfl (.inl rfl)) (K4 (A8 (i:=3) nd rfl (.inl rfl)) T3)))
     ((N6 (N8 K ((pv 1)<|>(pv 2)) ((pv 3)<*>A0)))<*
     (@A4 _ _ _ (N6 (N8 K ((pv 1)<|>(pv 3)) ((pv 2)<*>A0))))))<*
     (@A4 _ _ _ (B1 (I0 (own:=["_law_row"]) (fr:=[]) rfl (by walk_at "w") C0 (J3 K (pv 1)) ⟨fun _ _ _ _=>⟨(A8 (i:=0) (show bu (["_law_row"]:List Str) by decide +kernel) rfl (.inl rfl)),L7,(A5 (V9 K hr.hd) (by rfl) B.sorted dY ((pv 0)<*>A0))⟩⟩))))),?_⟩
  walk_at "rd";obtain⟨q0,hw0,ht⟩:=hw;obtain⟨xs,hx0,hxl,hxs⟩:=ht.get;refine⟨_,SqT.of hw0,_,rfl,n,rfl,by omega,by omega,fun p np=>X3 (a2n H p) ?_ ?_ ?_⟩
  ·exact⟨none,[],rfl,(A6.refl H).upd np,np,(fun a ha=>by cases ha),C2.nil A2⟩
  ·rintro i τ Hc hi ⟨c,as,rfl,fr⟩;walk_at "rd";refine⟨by decide,fun pq nq=>⟨_,J5 fr.rows.top nq,?_,?_⟩⟩
   ·rw[ab,fr.rows.len,gj];exact B7 (by omega)
   ·have:=fr.rows.snoc nq (r:=[]);refine⟨_,as++[pq],rfl,(fr.same.upd (fr.same.free nq)).upd np,np,fun a ha=>?_,?_⟩
    ·rcases ak.mp ha with ha | ha
     ·exact fr.na a ha
     ·cases ah.mp ha;exact fr.same.free nq
    ·rw[aJ] at this;rw[jA];exact this
  ·rintro τ H2 ⟨c,as,rfl,fr⟩;rw[<- a1f] at fr;refine⟨_,rfl,_,_,1,_,rfl,rfl,SqT.of (fr.same _ _ hw0),rfl,_,rfl,⟨_,SqT.of (fr.same _ _ hx0)⟩,a0L (xs:=xs) (a8h H w0 p n ts) ⟨none,none,as,rfl,by rw[dL];exact fr⟩ ?_ ?_ ?_⟩
   ·rintro i σ Hc _ ⟨_,_,_,rfl,fr⟩;exact SqT.of (fr.same _ _ hx0)
   ·rintro i v σ Hc hv ⟨av,bv,as,rfl,fr⟩;obtain⟨a,t,rfl,hti,hta⟩:=hxs i v hv;obtain⟨t0,t1,t2⟩:=hok t (aI hti);obtain⟨a1,a2,i1,c1,tp1,i2,c2,fr2⟩:=fr.step t0 t1 t2;have l1:∀ v,((nb (ts.take i) v).map V.int).length<sizeLine:=fun v=>by
     rw[ab];have:=W9 (ts:=ts.take i) v;rw[bA] at this;exact B7 (by omega)
    walk_at "rd";refine⟨_,SqT.of (fr.same _ _ hta),rfl,_,_,rfl,_,_,rfl,rfl,_,_,rfl,SqL.of fr.rows.top,_,i1,.inl ⟨rfl,_,SqL.of c1⟩,_,rfl,_,c1,l1 _,_,_,rfl,SqL.of tp1,_,i2,.inl ⟨rfl,_,SqL.of c2⟩,_,rfl,_,c2,l1 _,_,_,as,rfl,?_⟩;rw[bQ,hti];exact fr2
   ·rintro σ Hc ⟨av,bv,as,rfl,fr⟩;rw[hxl,bq] at fr;walk_at "rd";refine⟨⟨_,SqL.of fr.rows.top⟩,fun p2 n2=>Q4 (K:=K) (xs:=as.map V.ref) (a6E Hc p2 n ts) ?_ ?_ ?_ ?_⟩
    ·exact⟨none,[],rfl,(A6.refl Hc).upd n2,n2,(fun a ha=>by cases ha),C2.nil A2⟩
    ·rintro i τ H4 _ ⟨_,_,rfl,fr4⟩;exact SqL.of (fr4.same _ _ fr.rows.top)
    ·rintro i v τ H4 hv ⟨c,bs,rfl,fr4⟩ _;have hil:i<n.toNat:=by
      have:=(aA.mp hv).1;rw[ab,fr.rows.len,J9] at this;exact this
     have hri:=J2 (n:=n) (ts:=ts) (v:=(i:Int)) (by omega) (by omega);rw[b6] at hri;rw[aF] at hv;cases ha:as[i]? with
     | none=>rw[ha] at hv;cases hv
     | some a =>
     rw[ha] at hv;cases aG hv;have hra:=fr4.same _ _ (fr.rows.row i a _ ha hri);walk_at "rd";refine⟨_,.inl (SqL.of hra),fun ns' l pm hs nl=>?_⟩;have e:ns'=nb ts (i:Int):=a3D pm hs (a7R hok hsr _);subst e;refine⟨_,J5 fr4.rows.top nl,?_,_,bs++[l],rfl,(fr4.same.upd (fr4.same.free nl)).upd n2,n2,fun b hb=>?_,?_⟩
     ·rw[ab,fr4.rows.len,bA,J9];exact B7 (by omega)
     ·rcases ak.mp hb with hb | hb
      ·exact fr4.na b hb
      ·cases ah.mp hb;exact fr4.same.free nl
     ·have:=fr4.rows.snoc nl (r:=nb ts (i:Int));rw[aJ] at this;rw[bQ,hri];exact this
    ·rintro τ H4 ⟨c,bs,rfl,fr4⟩;rw[ab,fr.rows.len,bq] at fr4;exact q p2 bs H4 (fr.same.trans fr4.same) (fr.same.free n2) (fun b hb=>fr.same.free (fr4.na b hb)) fr4.rows
def a6D (H:Hp)(w0 q0 p:Addr)(n:Int)(ts:List (Int×Int))(i:Nat)(σ:St)(Hc:Hp):Prop:=∃(av bv:Option V) (as:List Addr),σ=[some (.ref w0),some (.int n),some (.ref q0),some (.ref p),av,bv]/\a4z H Hc p as (E9 n (ts.take i))
theorem a3M:B9 ["web","places","ties","rows","a","b"] ["web"] (A7 (top 5)):=by walk_at "s"
theorem a7F (F:Fun K "neighbour_rows" "neighbour_rows" (top 5) f fd)(B:Bt mg):B6 P w K mg base CX0 1 f fd ["web"] a0W:=by
 refine F.ok a3M (fun vs H Q E h=>?_) (fun cdv A outer s H vs Q E hr h=>?_)
 ·walk_at "h"
 ·obtain⟨w0,n,ts,rfl,hw,hn0,hn1,htl,hok,q⟩:=h;have nd:=a3M.nd;have hu:=J1 hr
  refine⟨_,((@a7q _ _ _ _ _ _ (pv 0) (T4 K (n:=2) rfl (K4 (A8 (i:=1) nd rfl (.inl rfl)) (K4 (A8 (i:=2) nd rfl (.inl rfl)) T3))) (by rfl) (by rfl) (by rfl))<*
    ((L6 (i:=3) (own:=["place"]) (fr:=[]) rfl nd rfl rfl (by walk_at "w") (by walk_at "w") C0 (M3 (by rfl) B.range ((pv 1)<*>A0)) ⟨fun _ _ _ _=>⟨(A8 (i:=0) (show bu (["place"]:List Str) by decide +kernel) rfl (.inl rfl)),L7,(@D0 _ _ _ _ A0)⟩⟩)<*
    ((M9 bG rfl (L9 K (pv 2)) (T4 K (n:=2) rfl (K4 (A8 (i:=4) nd rfl (.inl rfl)) (K4 (A8 (i:=5) nd rfl (.inl rfl)) T3)))
     ((N6 (N8 K ((pv 3)<|>(pv 4)) ((pv 5)<*>A0)))<*
     (@A4 _ _ _ (N6 (N8 K ((pv 3)<|>(pv 5)) ((pv 4)<*>A0))))))<*
     (@A4 _ _ _ (B1 (pv 3)))))),?_⟩
  walk_at "rd";obtain⟨q0,hw0,ht⟩:=hw;obtain⟨xs,hx0,hxl,hxs⟩:=ht.get;refine⟨_,SqT.of hw0,rfl,_,_,rfl,_,_,rfl,rfl,n,rfl,by omega,by omega,fun p np=>X3 (a2n H p) ?_ ?_ ?_⟩
  ·exact⟨none,[],rfl,(A6.refl H).upd np,np,(fun a ha=>by cases ha),C2.nil A2⟩
  ·rintro i τ Hc hi ⟨c,as,rfl,fr⟩;walk_at "rd";refine⟨by decide,fun pq nq=>⟨_,J5 fr.rows.top nq,?_,?_⟩⟩
   ·rw[ab,fr.rows.len,gj];exact B7 (by omega)
   ·have:=fr.rows.snoc nq (r:=[]);refine⟨_,as++[pq],rfl,(fr.same.upd (fr.same.free nq)).upd np,np,fun a ha=>?_,?_⟩
    ·rcases ak.mp ha with ha | ha
     ·exact fr.na a ha
     ·cases ah.mp ha;exact fr.same.free nq
    ·rw[aJ] at this;rw[jA];exact this
  ·rintro τ H2 ⟨c,as,rfl,fr⟩;rw[<- a1f] at fr;refine⟨_,rfl,_,rfl,⟨_,SqT.of (fr.same _ _ hx0)⟩,a0L (xs:=xs) (a6D H w0 q0 p n ts) ⟨none,none,as,rfl,by rw[dL];exact fr⟩ ?_ ?_ ?_⟩
   ·rintro i σ Hc _ ⟨_,_,_,rfl,fr⟩;exact SqT.of (fr.same _ _ hx0)
   ·rintro i v σ Hc hv ⟨av,bv,as,rfl,fr⟩;obtain⟨a,t,rfl,hti,hta⟩:=hxs i v hv;obtain⟨t0,t1,t2⟩:=hok t (aI hti);obtain⟨a1,a2,i1,c1,tp1,i2,c2,fr2⟩:=fr.step t0 t1 t2;have l1:∀ v,((nb (ts.take i) v).map V.int).length<sizeLine:=fun v=>by
     rw[ab];have:=W9 (ts:=ts.take i) v;rw[bA] at this;exact B7 (by omega)
    walk_at "rd";refine⟨_,SqT.of (fr.same _ _ hta),rfl,_,_,rfl,_,_,rfl,rfl,_,_,rfl,SqL.of fr.rows.top,_,i1,.inl ⟨rfl,_,SqL.of c1⟩,_,rfl,_,c1,l1 _,_,_,rfl,SqL.of tp1,_,i2,.inl ⟨rfl,_,SqL.of c2⟩,_,rfl,_,c2,l1 _,_,_,as,rfl,?_⟩;rw[bQ,hti];exact fr2
   ·rintro σ Hc ⟨av,bv,as,rfl,fr⟩;rw[hxl,bq] at fr;exact⟨_,rfl,q p as Hc fr.same fr.np fr.na fr.rows⟩
theorem a5z:B9 ["thing"] ["thing"] (A7 (top 1)):=by walk_at "s"
theorem a9f (F:Fun K "is_int" "is_int" (top 1) f fd)(B:Bt mg)(C:Bt2 mg):B6 P w K mg base CX0 1 f fd ["thing"] a5r:=by
 refine F.ok a5z (fun vs H Q E h=>?_) (fun cdv A outer s H vs Q E hr h=>?_)
 ·walk_at "h"
 ·obtain⟨x,T,rfl,hx,q⟩:=h;have nd:=a5z.nd;have hu:=J1 hr;refine⟨_,(@A4 _ _ _ (B1 (U0 (A5 (a0u K) (by rfl) C.isinstance cq ((pv 0)<*>((U3 (by rfl) B.int jR)<*>A0))) (W4 (a4I (A5 (a0u K) (by rfl) C.isinstance cq ((pv 0)<*>((U3 (by rfl) C.bool boot_bool)<*>A0)))))))),?_⟩;walk_at "rd";refine⟨_,_,⟨rfl,rfl⟩,_,hx.ty,_,K3 hx (.inl rfl),?_⟩;have e:=a8b hx;cases h1:a1t T "int" with
  | true =>
   rw[if_pos rfl];rw[h1,fV] at e;refine⟨_,_,⟨rfl,rfl⟩,_,hx.ty,_,K3 hx (.inr (.inl rfl)),?_⟩;rw[e];exact q
  | false =>
   rw[if_neg (by decide)];rw[h1,fe] at e;rw[<- e] at q;exact q
theorem a3K:B9 ["thing","least","most"] ["thing","least","most"] (A7 (top 2)):=by walk_at "s"
theorem a7D (F:Fun K "is_between" "is_between" (top 2) f fd)(B:Bt mg)(D1:Df K mg "is_int" st1 f1 fd1 ["thing"])(G1:B6 P w K mg base CX0 1 f1 fd1 ["thing"] a5r):B6 P w K mg base CX0 2 f fd ["thing","least","most"] a3w:=by
 refine F.ok a3K (fun vs H Q E h=>?_) (fun cdv A outer s H vs Q E hr h=>?_)
 ·walk_at "h"
 ·obtain⟨x,T,lo,hi,rfl,hx,q⟩:=h;have nd:=a3K.nd;have hu:=J1 hr;refine⟨_,(@A4 _ _ _ (B1 (U0 (A9 G1 D1 hr.m ((pv 0)<*>A0)) (U0 (M1 a5I (pv 1) (pv 0) (B5 _)) (W4 (M1 a5I (pv 0) (pv 2) (B5 _))))))),?_⟩;walk_at "rd";refine⟨x,T,rfl,hx,_,rfl,?_⟩;cases h1:isI x with
  | true =>
   rw[if_pos rfl];obtain⟨i,rfl⟩:=a5R h1;refine⟨i,rfl,?_⟩;unfold T0 at q;dsimp only at q;by_cases h2:lo<=i
   ·rw[if_pos (by simpa using h2)];rw[decide_eq_true h2,fV] at q;exact⟨i,rfl,q⟩
   ·rw[if_neg (by simpa using h2)];rw[decide_eq_false h2,fe] at q;exact q
  | false =>
   rw[if_neg (by decide)];rw[a3l h1] at q;exact q
def Z1:Sp:=fun vs H Q _=>∃(w:Addr) (n:Int) (y:V) (x:V) (T:String),vs=[.ref w,x]/\H w=some (.tup [.int n,y])/\Pl H x T/\Q (.bl (T0 x 0 (n-1))) H
theorem a1c:B9 ["web","thing"] ["web","thing"] (A7 (top 8)):=by walk_at "s"
theorem a4O (F:Fun K "is_place" "is_place" (top 8) f fd)(B:Bt mg)(D1:Df K mg "is_between" st1 f1 fd1 ["thing","least","most"])(G1:B6 P w K mg base CX0 2 f1 fd1 ["thing","least","most"] a3w):B6 P w K mg base CX0 3 f fd ["web","thing"] Z1:=by
 refine F.ok a1c (fun vs H Q E h=>?_) (fun cdv A outer s H vs Q E hr h=>?_)
 ·walk_at "h"
 ·obtain⟨w0,n,y,x,T,rfl,hw,hx,q⟩:=h;have nd:=a1c.nd;have hu:=J1 hr;refine⟨_,(@A4 _ _ _ (B1 (A9 G1 D1 hr.m ((pv 1)<*>(A3<*>((((pv 0)*>A3)^^^A3)<*>A0)))))),?_⟩;walk_at "rd";exact⟨_,SqT.of hw,_,rfl,n,rfl,x,T,0,n-1,rfl,hx,q⟩
def a5q:Sp:=fun vs H Q _=>∃(p:Addr) (us:List Int),vs=[.ref p]/\H p=some (.tup (us.map V.int))/\us.length<=100000/\∀ b:Bool,(b=true↔us.Pairwise (·<·))->Q (.bl b) H
def a8g (H:Hp)(p:Addr)(us:List Int)(i:Nat)(σ:St)(Hc:Hp):Prop:=∃ c:Option V,σ=[some (.ref p),c]/\Hc=H/\∀ j,j<i->us.getD j 0<us.getD (j+1) 0
theorem a0S:∀ {us:List Int},(∀ j,j+1<us.length->us.getD j 0<us.getD (j+1) 0)->us.Pairwise (·<·)
 | [],_=>.nil
 | [x],_=>bT _ _
 | x::y::r,h=>by
  have ih:=a0S (us:=y::r) fun j hj=>by simpa using h (j+1) (by simpa using hj)
  have h0:x<y:=by simpa using h 0 (by simp)
  refine dP.mpr ⟨fun z hz=>?_,ih⟩;rcases aD.mp hz with rfl | hz
  ·exact h0
  ·have:=(dP.mp ih).1 z hz;omega
theorem a6j {us:List Int}(h:us.Pairwise (·<·)){j:Nat}(hj:j+1<us.length):us.getD j 0<us.getD (j+1) 0:=by
 rw[ce,ce,aq hj,aq (by omega)];exact d9.mp h j (j+1) (by omega) hj (by omega)
theorem b0y {us:List Int}{j:Int}(h0:0<=j)(h1:j<us.length):atI (us.map V.int) j=some (.int (us.getD j.toNat 0)):=by
 unfold atI ixN;rw[ab,if_pos h0,if_pos h1];show (us.map V.int)[j.toNat]?=_;rw[aF,ce,aq (by omega)];rfl
theorem a5y:B9 ["items","at"] ["items"] (A7 (top 4)):=by walk_at "s"
theorem a9e (F:Fun K "is_rising" "is_rising" (top 4) f fd)(B:Bt mg):B6 P w K mg base CX0 1 f fd ["items"] a5q:=by
 refine F.ok a5y (fun vs H Q E h=>?_) (fun cdv A outer s H vs Q E hr h=>?_)
 ·walk_at "h"
 ·obtain⟨p,us,rfl,hp,hl,q⟩:=h;have nd:=a5y.nd;have hu:=J1 hr
  refine⟨_,((M9 bG rfl (a2d (by rfl) B.range (A3<*>((A5 (N5 K) (by rfl) B.len aR ((pv 0)<*>A0))<*>A0))) (A8 (i:=1) nd rfl (.inl rfl))
     (@A4 _ _ _ (@J8 _ _ _ _ _ _ _ _ (N9 (B0 a0D ((pv 0)*>((pv 1)^^^A3)) ((pv 0)*>(pv 1)) (B5 _)))
      (@A4 _ _ _ (B1 L0))
      C6)))<*
     (@A4 _ _ _ (B1 L0))),?_⟩
  walk_at "rd";refine⟨_,rfl,p,_,rfl,.inr (SqT.of hp),1,_,rfl,⟨by decide,by decide,by rw[ab];omega,by rw[ab];omega⟩,R8 (lo:=1) (n:=(((us.map V.int).length:Int)-1).toNat) (a8g H p us) ⟨none,rfl,rfl,fun j hj=>absurd hj (cL _)⟩ ?_ ?_⟩
  ·rintro i σ Hc hi ⟨c,rfl,rfl,hs⟩;rw[ab] at hi;walk_at "rd";refine⟨_,SqT.of hp,_,b0y (by omega) (by omega),_,SqT.of hp,_,b0y (by omega) (by omega),?_⟩;refine⟨_,rfl,_,rfl,?_⟩;have e1:(1+(i:Int)-1).toNat=i:=by omega
   have e2:(1+(i:Int)).toNat=i+1:=by omega
   rw[e1,e2];by_cases hlt:us.getD i 0<us.getD (i+1) 0
   ·rw[if_neg (by rw[decide_eq_true hlt];decide)];refine⟨_,rfl,rfl,fun j hj=>?_⟩;rcases cc j i with h | h
    ·exact hs j h
    ·cases (show j=i by omega);exact hlt
   ·rw[if_pos (by rw[decide_eq_false hlt];decide)];exact q false ⟨fun h=>(by cases h),fun h=>absurd (a6j h (by omega)) hlt⟩
  ·rintro σ Hc ⟨c,rfl,rfl,hs⟩;rw[ab] at hs;exact q true ⟨fun _=>a0S fun j hj=>hs j (by omega),fun _=>rfl⟩
def a9S (H:Hp)(n:Int)(x:V)(bs:List Int):Prop:=∃ p,x=.ref p/\H p=some (.tup (bs.map V.int))/\(∀ v∈bs,0<=v/\v<n)/\bs.Pairwise (·<·)
theorem a1E {x:V}{n:Int}(h:T0 x 0 (n-1)=true):∃ i,x=.int i/\0<=i/\i<n:=by
 cases x with
 | int i =>
  unfold T0 at h;simp at h;exact⟨i,rfl,by omega,by omega⟩
 | _=>cases h
theorem a2Z {n:Int}:∀ {xs:List V},(∀ x∈xs,T0 x 0 (n-1)=true)->∃ us:List Int,xs=us.map V.int/\∀ v∈us,0<=v/\v<n
 | [],_=>⟨[],rfl,fun v hv=>nomatch hv⟩
 | x::r,h=>by
  obtain⟨us,e,hu⟩:=a2Z (xs:=r) fun z hz=>h z (aM _ hz)
  obtain⟨i,rfl,h0,h1⟩:=a1E (h x (aN ..));refine⟨i::us,by rw[e];rfl,fun v hv=>?_⟩;rcases aD.mp hv with rfl | hv
  ·exact⟨h0,h1⟩
  ·exact hu v hv
theorem X4 {us vs:List Int}(h:us.map V.int=vs.map V.int):us=vs:=by
 have:=congrArg (List.map fun v:V=>match v with | .int i=>i | _=>0) h;rw[ca,ca] at this;have e:((fun v:V=>match v with | .int i=>i | _=>0) ∘ V.int)=id:=rfl;rw[e,iz,iz] at this;exact this
def a3t:Sp:=fun vs H Q _=>∃(w:Addr) (n:Int) (y x:V) (T:String),vs=[.ref w,x]/\H w=some (.tup [.int n,y])/\Pl H x T/\PlD H 1 x/\(∀ a xs,x=.ref a->H a=some (.tup xs)->xs.length<=1000)/\∀ b:Bool,(b=true↔∃ bs,a9S H n x bs)->Q (.bl b) H
def a9A (H:Hp)(w p:Addr)(n:Int)(xs:List V)(i:Nat)(σ:St)(Hc:Hp):Prop:=∃ c:Option V,σ=[some (.ref w),some (.ref p),c]/\Hc=H/\∀ x∈xs.take i,T0 x 0 (n-1)=true
theorem a3G:B9 ["web","thing","item"] ["web","thing"] (A7 (top 9)):=by walk_at "s"
theorem a7A (F:Fun K "is_place_row" "is_place_row" (top 9) f fd)(B:Bt mg)(D1:Df K mg "is_place" st1 f1 fd1 ["web","thing"])(G1:B6 P w K mg base CX0 3 f1 fd1 ["web","thing"] Z1)(D2:Df K mg "is_rising" st2 f2 fd2 ["items"])(G2:B6 P w K mg base CX0 1 f2 fd2 ["items"] a5q)(C:Bt2 mg):B6 P w K mg base CX0 4 f fd ["web","thing"] a3t:=by
 refine F.ok a3G (fun vs H Q E h=>?_) (fun cdv A outer s H vs Q E hr h=>?_)
 ·walk_at "h"
 ·obtain⟨w0,n,y,x,T,rfl,hw,hx,hd,hlen,q⟩:=h;have nd:=a3G.nd;have hu:=J1 hr
  refine⟨_,((@J8 _ _ _ _ _ _ _ _ (N9 (M5 (A5 (a0u K) (by rfl) C.isinstance cq ((pv 1)<*>((U3 (by rfl) B.tuple cE)<*>A0)))))
     (@A4 _ _ _ (B1 L0))
     C6)<*
     ((M9 bG rfl (L9 K (pv 1)) (A8 (i:=2) nd rfl (.inl rfl))
     (@A4 _ _ _ (@J8 _ _ _ _ _ _ _ _ (N9 (M5 (A9 G1 D1 hr.m ((pv 0)<*>((pv 2)<*>A0)))))
      (@A4 _ _ _ (B1 L0))
      C6)))<*
     (@A4 _ _ _ (B1 (A9 G2 D2 hr.m ((pv 1)<*>A0)))))),?_⟩
  walk_at "rd";refine⟨_,_,⟨rfl,rfl⟩,_,hx.ty,_,K3 hx (.inr (.inr rfl)),?_⟩;cases h1:a1t T "tuple" with
  | false =>
   rw[if_pos (by rfl)];refine q false ⟨fun h=>(by cases h),fun ⟨us,p,e,h2,_⟩=>?_⟩;subst e;cases hx with
   | lst e=>rw[e] at h2;cases h2
   | tup e=>cases h1
   | dK e=>rw[e] at h2;cases h2
   | dT e=>rw[e] at h2;cases h2
  | true =>
   rw[if_neg (by decide)];cases hx with
   | @tup p xs hp =>
    have hl:=hlen p xs rfl hp;have back:(∃ bs,a9S H n (.ref p) bs)->∀ x∈xs,T0 x 0 (n-1)=true:=fun ⟨bs,p',e,h2,h3,_⟩ x hx=>by
     cases e;rw[hp] at h2;cases h2;obtain⟨v,hv,rfl⟩:=bD.mp hx;have:=h3 v hv;unfold T0;simp;omega
    refine⟨_,rfl,p,rfl,⟨_,SqT.of hp⟩,a0L (K:=K) (xs:=xs) (a9A H w0 p n xs) ⟨none,rfl,rfl,fun x hx=>(by rw[dL] at hx;cases hx)⟩ ?_ ?_ ?_⟩
    ·rintro i σ Hc _ ⟨_,rfl,rfl,_⟩;exact SqT.of hp
    ·rintro i v σ Hc hv ⟨a,rfl,rfl,hs⟩;have hm:=aI hv;obtain⟨Tv,hTv⟩:=(hd.2 p xs rfl hp v hm).pl;walk_at "rd";refine⟨w0,n,y,v,Tv,rfl,hw,hTv,_,rfl,?_⟩;by_cases hb:T0 v 0 (n-1)=true
     ·rw[hb,if_neg (by decide)];refine⟨_,rfl,rfl,fun x hx=>?_⟩;rw[L5 hv] at hx;rcases ak.mp hx with hx | hx
      ·exact hs x hx
      ·rw[ah.mp hx];exact hb
     ·rw[Bool.eq_false_iff.mpr hb,if_pos (by rfl)];exact q false ⟨fun h=>(by cases h),fun h=>absurd (back h v hm) hb⟩
    ·rintro σ Hc ⟨a,rfl,rfl,hs⟩;rw[bq] at hs;obtain⟨us,rfl,hus⟩:=a2Z hs;walk_at "rd";refine⟨p,us,rfl,hp,by rw[ab] at hl;omega,fun b hb=>q b ⟨fun h=>⟨us,p,rfl,hp,hus,hb.mp h⟩,fun ⟨bs,p',e,h2,_,h4⟩=>hb.mpr ?_⟩⟩;cases e;rw[hp] at h2;injection h2 with h2
     injection h2 with h2
     rw[X4 h2];exact h4
   | _=>cases h1
def a5t:Sp:=fun vs H Q _=>∃(w:Addr) (n:Int) (ts:List (Int×Int)),vs=[.ref w]/\R6 H w n ts/\0<=n/\n<=1000/\ts.length<=1000/\P4 n ts /\
 ∀(p:Addr) (as:List Addr) (H':Hp),A6 H H'->H p=none->(∀ a∈as,H a=none)->C2 H' p as (X2 n ts)->Q (.ref p) H'
def a8j (H:Hp)(p:Addr)(n:Int)(ts:List (Int×Int))(i:Nat)(τ:St)(Hc:Hp):Prop:=∃(c d:Option V) (as:List Addr),τ=[c,d]/\a4z H Hc p as ((X2 n ts).take i)
theorem a5D:B9 ["web"] ["web"] (A7 (top 10)):=by walk_at "s"
theorem a9j (F:Fun K "lot_rows" "lot_rows" (top 10) f fd)(B:Bt mg)(D1:Df K mg "neighbour_rows" st1 f1 fd1 ["web"])(G1:B6 P w K mg base CX0 1 f1 fd1 ["web"] a0W)(C:Bt2 mg):B6 P w K mg base CX0 2 f fd ["web"] a5t:=by
 refine F.ok a5D (fun vs H Q E h=>?_) (fun cdv A outer s H vs Q E hr h=>?_)
 ·walk_at "h"
 ·obtain⟨w0,n,ts,rfl,hw,hn0,hn1,htl,hok,q⟩:=h;have nd:=a5D.nd;have hu:=J1 hr;refine⟨_,(@A4 _ _ _ (B1 (I0 (own:=["place","row"]) (fr:=[]) rfl (by walk_at "w") C0 (a8W (K:=K) (by rfl) C.enumerate boot_enumerate ((A9 G1 D1 hr.m ((pv 0)<*>A0))<*>A0)) ⟨fun _ _ _ _=>⟨(T4 K (n:=2) rfl (K4 (A8 (i:=0) (show bu (["place","row"]:List Str) by decide +kernel) rfl (.inl rfl)) (K4 (A8 (i:=1) (show bu (["place","row"]:List Str) by decide +kernel) rfl (.inl rfl)) T3))),L7,(@K9 _ _ _ _ _ _ _ _ a0r (@D0 _ _ _ _ ((pv 0)<*>A0)) (pv 1))⟩⟩))),?_⟩;walk_at "rd";refine⟨w0,n,ts,rfl,hw,hn0,hn1,htl,hok,fun rp as H1 s1 nrp nas hR=>?_⟩;refine⟨rp,rfl,⟨_,SqL.of hR.top⟩,fun l nl=>a9w (K:=K) (xs:=as.map V.ref) (a8j H1 l n ts) ⟨none,none,[],rfl,(A6.refl H1).upd nl,nl,(fun a ha=>by cases ha),C2.nil A2⟩ ?_ ?_ ?_⟩
  ·rintro i τ Hc _ ⟨_,_,_,rfl,fr⟩;exact SqL.of (fr.same _ _ hR.top)
  ·rintro i v τ Hc q0 hv ⟨c,d,as2,rfl,fr⟩ nq;have hil:i<n.toNat:=by
    have:=(aA.mp hv).1;rw[ab,hR.len,J9] at this;exact this
   have hri:=J2 (n:=n) (ts:=ts) (v:=(i:Int)) (by omega) (by omega);rw[b6] at hri;rw[aF] at hv;cases ha:as[i]? with
   | none=>rw[ha] at hv;cases hv
   | some a =>
   rw[ha] at hv;cases aG hv;have nq1:=fr.same.free nq;have hra:=fr.same _ _ (hR.row i a _ ha hri);have hnl:=W9 (ts:=ts) (i:Int);refine A1 nq fun Hd sd ed=>?_
   walk_at "rd";refine⟨_,SqT.of ed,rfl,_,_,rfl,_,_,rfl,rfl,by decide,fun l2 nl2=>A1 nl2 fun He se ee=>⟨l2,a,_,_,rfl,rfl,ee,se _ _ (sd _ _ hra),?_,fun l3 nl3=>?_⟩⟩
   ·rw[ab];exact cH (B7 (by simp;omega))
   have frE:=fr.rows.same (sd.trans se);have sce:A6 Hc He:=sd.trans se;refine⟨_,J5 frE.top nl3,?_,?_⟩
   ·rw[ab,frE.len,bA,a1o];exact B7 (by omega)
   ·have:=frE.snoc nl3 (r:=(i:Int)::nb ts (i:Int));refine⟨_,_,as2++[l3],rfl,((fr.same.trans sce).upd (fr.same.free (sce.free nl3))).upd nl,nl,fun x hx=>?_,?_⟩
    ·rcases ak.mp hx with hx | hx
     ·exact fr.na x hx
     ·rw[ah.mp hx];exact fr.same.free (sce.free nl3)
    ·rw[aJ] at this;rw[a4k hil];exact this
  ·rintro τ Hc ⟨c,d,as2,rfl,fr⟩;rw[ab,hR.len,J9,<- a1o n ts,bq] at fr;exact q l as2 Hc (s1.trans fr.same) (s1.free nl) (fun x hx=>s1.free (fr.na x hx)) fr.rows
def a1T (K:ae):Sp:=fun zs H Q _=>∃(pa:Addr) (us:List Int) (pb:Addr) (vs:List Int),zs=[.ref pa,.ref pb]/\(SqL K H pa (us.map V.int)\/SqT K H pa (us.map V.int))/\us.length<=100000/\(SqL K H pb (vs.map V.int)\/SqT K H pb (vs.map V.int)) /\
 ∀(b:Bool) (H':Hp),A6 H H'->(b=true↔∃ x∈us,x∈vs)->Q (.bl b) H'
theorem a1Z:B9 ["one","other"] ["one","other"] (A7 (top 11)):=by walk_at "s"
theorem a6q (F:Fun K "have_common" "have_common" (top 11) f fd)(B:Bt mg)(C3:Bt3 mg):B6 P w K mg base CX0 1 f fd ["one","other"] (a1T K):=by
 refine F.ok a1Z (fun vs H Q E h=>?_) (fun cdv A outer s H vs Q E hr h=>?_)
 ·walk_at "h"
 ·obtain⟨pa,us,pb,vs,rfl,hpa,hul,hpb,q⟩:=h;have nd:=a1Z.nd;have hu:=J1 hr;refine⟨_,(@A4 _ _ _ (B1 (A5 (b3C K hr.hd) (by rfl) C3.any a6R ((I0 (own:=["place"]) (fr:=[("other",1)]) rfl (by walk_at "w") (B3 rfl rfl C0) (a8X K (pv 0)) ⟨fun _ _ _ _=>⟨(A8 (i:=0) (show bu (["place","other"]:List Str) by decide +kernel) rfl (.inl rfl)),L7,(M1 (V1 K) (pv 0) (pv 1) (by walk_at "w"))⟩⟩)<*>A0)))),?_⟩;walk_at "rd";have key:∀ p (np:H p=none),(∀ ys:List V,upd H p (.lst ys) p=some (.lst ys))->∀ x∈us,a6f (M8 0) b0z (tOp (rIn K false) (T8 0) (T8 1)) p [some (V.ref pb)] H (.int x) true (V.bl (decide (x∈vs))) us.length:=by
   intro p np _ x hx v ys R hy hR1 hR2;have sm:A6 H (upd H p (.lst ys)):=(A6.refl H).upd np;walk_at "rd";exact Z5 (hpb.imp (fun h=>sm.seq h) (fun h=>sm.seqT h)) (a0P hy (by omega) hR1)
  have fin:∀ p (np:H p=none),∃ x:List Bool,SqL K (upd H p (.lst ((us.filter fun _=>true).map fun x=>V.bl (decide (x∈vs))))) p (x.map V.bl)/\Q (.bl (x.any id)) (upd H p (.lst ((us.filter fun _=>true).map fun x=>V.bl (decide (x∈vs))))):=by
   intro p np;rw[a4r];refine⟨us.map fun x=>decide (x∈vs),SqL.of (by rw[A2,ca];rfl),q _ _ ((A6.refl H).upd np) ?_⟩;rw[List.any_map,dv];simp
  rcases hpa with hpa | hpa
  ·exact .inl ⟨⟨_,hpa⟩,fun p np=>U4 V.int (fun _=>true) (fun x=>V.bl (decide (x∈vs))) (by omega) hpa np (key p np fun _=>A2) (fin p np)⟩
  ·exact .inr ⟨⟨_,hpa⟩,fun p np=>U9 V.int (fun _=>true) (fun x=>V.bl (decide (x∈vs))) (by omega) hpa np (key p np fun _=>A2) (fin p np)⟩
def a0T:Sp:=fun vs H Q _=>∃(w:Addr) (n:Int) (ts:List (Int×Int)) (pl:Addr) (us:List Int),vs=[.ref w,.ref pl]/\R6 H w n ts/\M4 n ts/\H pl=some (.tup (us.map V.int))/\us.length<=60/\(∀ x∈us,0<=x/\x<n) /\
 ∀(p:Addr) (zs:List Int) (H':Hp),A6 H H'->H p=none->H' p=some (.tup (zs.map V.int))->zs.Pairwise (·<·)->(∀ x,x∈zs↔x∉us/\∃ y∈us,x∈nb ts y)->Q (.ref p) H'
def b1t (Hb:Hp)(am:Addr)(us:List Int)(i:Nat)(τ:St)(Hc:Hp):Prop:=∃(c:Option V) (fs:List Int),τ=[c]/\A6 Hb Hc/\Hc am=some (.dK (kvI fs))/\fs.length<=i/\∀ x,x∈fs↔x∈us.take i
def b2n (Hb:Hp)(n:Int)(fo:Addr)(C:Int->Prop)(Hc:Hp):Prop:=∃ fs:List Int,A6 Hb Hc/\Hc fo=some (.dK (kvI fs))/\fs.Nodup/\(∀ x∈fs,0<=x/\x<n)/\∀ x,x∈fs↔C x
def b1s (Hb:Hp)(w0 pl rp am fo:Addr)(n:Int)(ts:List (Int×Int))(us:List Int)(i:Nat)(σ:St)(Hc:Hp):Prop:=∃(pv ov:Option V),σ=[some (.ref w0),some (.ref pl),some (.ref rp),pv,some (.ref am),some (.ref fo),ov] /\
 b2n Hb n fo (fun x=>x∉us/\∃ y∈us.take i,x∈nb ts y) Hc
def b1r (Hb:Hp)(w0 pl rp am fo:Addr)(n:Int)(ts:List (Int×Int))(us:List Int)(i:Nat)(u:Int)(j:Nat)(σ:St)(Hc:Hp):Prop:=∃(ov:Option V),σ=[some (.ref w0),some (.ref pl),some (.ref rp),some (.int u),some (.ref am),some (.ref fo),ov] /\
 b2n Hb n fo (fun x=>x∉us/\((∃ y∈us.take i,x∈nb ts y)\/x∈(nb ts u).take j)) Hc
theorem a0Z:B9 ["web","places","rows","place","among","found","other"] ["web","places"] (A7 (top 6)):=by walk_at "s"
theorem a4L (F:Fun K "touched" "touched" (top 6) f fd)(B:Bt mg)(D1:Df K mg "neighbour_rows" st1 f1 fd1 ["web"])(G1:B6 P w K mg base CX0 1 f1 fd1 ["web"] a0W):B6 P w K mg base CX0 2 f fd ["web","places"] a0T:=by
 refine F.ok a0Z (fun vs H Q E h=>?_) (fun cdv A outer s H vs Q E hr h=>?_)
 ·walk_at "h"
 ·obtain⟨w0,n,ts,pl,us,rfl,hw,hok,hpl,hul,hus,q⟩:=h;have nd:=a0Z.nd;have hu:=J1 hr
  refine⟨_,((B8 (i:=2) nd rfl (.inl rfl) (A9 G1 D1 hr.m ((pv 0)<*>A0)))<*
    ((a7p (i:=4) (own:=["place"]) (fr:=[]) false hu rfl nd rfl rfl (by walk_at "w") (by walk_at "w") C0 (L9 K (pv 1)) ⟨fun _ _ _ _=>⟨(A8 (i:=0) (show bu (["place"]:List Str) by decide +kernel) rfl (.inl rfl)),L7,(pv 0),L0⟩⟩)<*
    ((B8 (i:=5) nd rfl (.inl rfl) a3Y)<*
    ((M9 bG rfl (L9 K (pv 1)) (A8 (i:=3) nd rfl (.inl rfl))
     (@A4 _ _ _ (M9 bG rfl (J3 K ((pv 2)<|>(pv 3))) (A8 (i:=6) nd rfl (.inl rfl))
      (@A4 _ _ _ (@J8 _ _ _ _ _ _ _ _ (a7n (a2e hu (pv 6) (pv 4)))
       (@A4 _ _ _ (a0f hu (pv 5) (pv 6) L0 rfl))
       C6)))))<*
     (@A4 _ _ _ (B1 (E1 (S0 K) (by rfl) B.tuple cE ((A5 (V9 K hr.hd) (by rfl) B.sorted dY ((pv 5)<*>A0))<*>A0)))))))),?_⟩
  walk_at "rd";have h3:=hok.n3;have h60:=hok.n60;have hl:=hok.len;refine⟨w0,n,ts,rfl,hw,by omega,by omega,by omega,hok.rng,fun rp as H1 s1 np na hR=>?_⟩;refine⟨⟨_,SqT.of (s1 _ _ hpl)⟩,fun am nam=>b1H (K:=K) (xs:=us.map V.int) (b1t H1 am us) ⟨none,[],rfl,(A6.refl H1).upd nam,A2,ao _,by simp⟩ ?_ ?_ ?_⟩
  ·rintro i τ Hc _ ⟨_,_,rfl,sc,_⟩;exact SqT.of (sc _ _ (s1 _ _ hpl))
  ·rintro i v τ Hc hv ⟨c,fs,rfl,sc,ha,hfl,hm⟩;rw[aF] at hv;cases hu0:us[i]? with
   | none=>rw[hu0] at hv;cases hv
   | some u =>
   rw[hu0] at hv;cases aG hv;have hil:=(aA.mp hu0).1;walk_at "rd";refine⟨_,Y5.k (k:=bX u) ha (a0t (by omega)),?_⟩;rw[a2G];refine⟨_,_,rfl,sc.upd nam,A2,?_,fun x=>?_⟩
   ·have:=a7V (us:=fs) (x:=u);omega
   ·rw[a1n,hm,bQ,hu0];simp
  ·rintro τ H2 ⟨c,fs,rfl,sc,ha,hfl,hm⟩;rw[ab,bq] at hm;refine fun fo nfo=>?_
   have s2:A6 H1 H2:=sc;have R2:=hR.same s2;have ham:∀ {Hc:Hp},A6 H2 Hc->Hc am=some (.dK (kvI fs)):=fun s=>s _ _ ha
   refine⟨_,rfl,_,rfl,⟨_,SqT.of (J5 (s2 _ _ (s1 _ _ hpl)) nfo)⟩,a0L (K:=K) (xs:=us.map V.int) (b1s H2 w0 pl rp am fo n ts us) ⟨none,none,rfl,[],(A6.refl H2).upd nfo,A2,by simp,by simp,by simp⟩ ?_ ?_ ?_⟩
   ·rintro i σ Hc _ ⟨_,_,rfl,_,sc,_⟩;exact SqT.of (sc _ _ (s2 _ _ (s1 _ _ hpl)))
   ·rintro i v σ Hc hv ⟨pv,ov,rfl,gs,sc,hfo,gnd,grn,gm⟩;rw[aF] at hv;cases hu0:us[i]? with
    | none=>rw[hu0] at hv;cases hv
    | some u =>
    rw[hu0] at hv;cases aG hv;obtain⟨u0,u1⟩:=hus u (aI hu0);obtain⟨a,e1,e2,e3,e4⟩:=(R2.same sc).get u0 (J2 u0 u1);have hrow:∀ {Hd:Hp},A6 H2 Hd->Hd a=some (.lst ((nb ts u).map V.int)):=fun s=>s _ _ (R2.row _ _ _ e1 (J2 u0 u1))
    walk_at "rd";refine⟨_,rfl,_,rfl,_,_,_,_,rfl,rfl,SqL.of (sc _ _ R2.top),e2,_,rfl,⟨_,SqL.of (hrow sc)⟩,X6 (K:=K) (xs:=(nb ts u).map V.int) (b1r H2 w0 pl rp am fo n ts us i u) ⟨_,rfl,gs,sc,hfo,gnd,grn,fun x=>?_⟩ ?_ ?_ ?_⟩
    ·rw[gm];simp
    ·rintro j σ Hd _ ⟨_,rfl,_,sd,_⟩;exact SqL.of (hrow sd)
    ·rintro j v σ Hd hv ⟨ov,rfl,gs,sd,hfo,gnd,grn,gm⟩;rw[aF] at hv;cases hx0:(nb ts u)[j]? with
     | none=>rw[hx0] at hv;cases hv
     | some x =>
     rw[hx0] at hv;cases aG hv;have hxm:=aI hx0;obtain⟨x0,x1,_⟩:=W8 hok.rng hxm;walk_at "rd";refine⟨_,a1H.k (k:=bX x) (ham sd),?_⟩;rw[a5l];refine R7 (fun h=>?_) fun h=>?_
     ·have hxu:x∉us:=by rw[<- hm];simpa using h
      have gl:=M6 gnd grn;refine⟨_,Y5.k (k:=bX x) hfo (a0t (by omega)),?_⟩;rw[a2G];refine⟨_,rfl,_,sd.upd nfo,A2,a9p gnd,fun y hy=>?_,fun y=>?_⟩
      ·rcases a1n.mp hy with hy | rfl
       ·exact grn y hy
       ·exact⟨x0,x1⟩
      ·rw[a1n,gm,bQ,hx0];simp only[gz,ak,ah];constructor
       ·rintro (⟨a,b⟩ | rfl)
        ·exact⟨a,b.elim .inl fun c=>.inr (.inl c)⟩
        ·exact⟨hxu,.inr (.inr rfl)⟩
       ·rintro⟨a,b | b | b⟩
        ·exact .inl ⟨a,.inl b⟩
        ·exact .inl ⟨a,.inr b⟩
        ·exact .inr b
     ·have hxu:x∈us:=by rw[<- hm];simpa using h
      refine⟨_,rfl,gs,sd,hfo,gnd,grn,fun y=>?_⟩;rw[gm,bQ,hx0];simp only[gz,ak,ah];constructor
      ·rintro⟨a,b⟩;exact⟨a,b.elim .inl fun c=>.inr (.inl c)⟩
      ·rintro⟨a,b | b | b⟩
       ·exact⟨a,.inl b⟩
       ·exact⟨a,.inr b⟩
       ·subst b;exact absurd hxu a
    ·rintro σ Hd ⟨ov,rfl,gs,sd,hfo,gnd,grn,gm⟩;rw[ab,bq] at gm;refine⟨_,_,rfl,gs,sd,hfo,gnd,grn,fun y=>?_⟩;rw[gm,bQ,hu0];simp only[gz,ak,ah];constructor
     ·rintro⟨a,⟨z,b,c⟩ | b⟩
      ·exact⟨a,z,.inl b,c⟩
      ·exact⟨a,u,.inr rfl,b⟩
     ·rintro⟨a,z,b | rfl,c⟩
      ·exact⟨a,.inl ⟨z,b,c⟩⟩
      ·exact⟨a,.inr c⟩
   ·rintro σ Hc ⟨pv,ov,rfl,gs,sc,hfo,gnd,grn,gm⟩;rw[ab,bq] at gm;walk_at "rd";refine⟨gs,.inr (.inr ⟨_,hfo,a4m gs⟩),fun ns l pm hs nl=>⟨_,.inl ⟨SqL.of A2,fun l2 n2=>?_⟩⟩⟩;have s3:A6 H Hc:=(s1.trans s2).trans sc;have f1:=s3.free nl;have f2:=s3.free (L3 n2);refine q l2 ns _ ((s3.upd f1).upd f2) f2 A2 (Y7 pm hs gnd) fun x=>?_
    rw[pm.mem_iff,gm]
def a1V (K:ae):Sp:=fun zs H Q _=>∃(pa:Addr) (us:List Int) (pb:Addr) (vs:List Int),zs=[.ref pa,.ref pb]/\SqT K H pa (us.map V.int)/\us.length<=100000/\SqT K H pb (vs.map V.int) /\
 ∀(p:Addr) (H':Hp),A6 H H'->H p=none->H' p=some (.tup ((us.filter fun x=>!decide (x∈vs)).map V.int))->Q (.ref p) H'
theorem a2b:B9 ["places","some"] ["places","some"] (A7 (top 13)):=by walk_at "s"
theorem a6s (F:Fun K "all_but" "all_but" (top 13) f fd)(B:Bt mg):B6 P w K mg base CX0 1 f fd ["places","some"] (a1V K):=by
 refine F.ok a2b (fun vs H Q E h=>?_) (fun cdv A outer s H vs Q E hr h=>?_)
 ·walk_at "h"
 ·obtain⟨pa,us,pb,vs,rfl,hpa,hul,hpb,q⟩:=h;have nd:=a2b.nd;have hu:=J1 hr;refine⟨_,(@A4 _ _ _ (B1 (E1 (S0 K) (by rfl) B.tuple cE ((I0 (own:=["place"]) (fr:=[("some",1)]) rfl (by walk_at "w") (B3 rfl rfl C0) (L9 K (pv 0)) ⟨fun _ _ _ _=>⟨(A8 (i:=0) (show bu (["place","some"]:List Str) by decide +kernel) rfl (.inl rfl)),(K6 (B0 (O0 K) (pv 0) (pv 1) (by walk_at "w"))),(pv 0)⟩⟩)<*>A0)))),?_⟩;walk_at "rd";refine⟨⟨_,hpa⟩,fun p np=>U9 V.int (fun x=>!decide (x∈vs)) V.int (by omega) hpa np ?_ ?_⟩
  ·intro x hx v ys R hy hR1 hR2;walk_at "rd";exact P9 (.inr (((A6.refl H).upd np).seqT hpb)) ⟨_,rfl,M2 rfl hy (by omega) hR1 hR2⟩
  ·refine A1 np fun H1 s1 e1=>⟨_,.inl ⟨SqL.of e1,fun l nl=>q l _ (s1.upd (s1.free nl)) (s1.free nl) A2⟩⟩
def a3C (K:ae):Sp:=fun zs H Q _=>∃(pa:Addr) (us:List Int) (pb:Addr) (bs:List Int) (p:Int),zs=[.ref pa,.ref pb,.int p]/\SqL K H pa (us.map V.int)/\SqT K H pb (bs.map V.int)/\bs.length<=100000 /\
 ∀(H':Hp),A6 H H'->Q (.bl (decide ((bs.filter fun y=>decide (y∈us))=[p]))) H'
theorem a3S:B9 ["lot","busy","place"] ["lot","busy","place"] (A7 (top 14)):=by walk_at "s"
theorem a7L (F:Fun K "has_alone" "has_alone" (top 14) f fd)(B:Bt mg):B6 P w K mg base CX0 1 f fd ["lot","busy","place"] (a3C K):=by
 refine F.ok a3S (fun vs H Q E h=>?_) (fun cdv A outer s H vs Q E hr h=>?_)
 ·walk_at "h"
 ·obtain⟨pa,us,pb,bs,p,rfl,hpa,hpb,hbl,q⟩:=h;have nd:=a3S.nd;have hu:=J1 hr;refine⟨_,(@A4 _ _ _ (B1 (M1 (a0v K hr.units) (I0 (own:=["other"]) (fr:=[("lot",0)]) rfl (by walk_at "w") (B3 rfl rfl C0) (L9 K (pv 1)) ⟨fun _ _ _ _=>⟨(A8 (i:=0) (show bu (["other","lot"]:List Str) by decide +kernel) rfl (.inl rfl)),(K6 (B0 (V1 K) (pv 0) (pv 1) (by walk_at "w"))),(pv 0)⟩⟩) (@D0 _ _ _ _ ((pv 2)<*>A0)) (B5 _)))),?_⟩;walk_at "rd";refine⟨⟨_,hpb⟩,fun p1 n1=>U9 V.int (fun y=>decide (y∈us)) V.int (by omega) hpb n1 ?_ ?_⟩
  ·intro x hx v ys R hy hR1 hR2;walk_at "rd";exact Z5 (.inl (((A6.refl H).upd n1).seq hpa)) ⟨_,rfl,M2 rfl hy (by omega) hR1 hR2⟩
  ·exact A1 n1 fun H1 s1 e1=>⟨by decide,fun l2 n2=>A1 n2 fun H2 s2 e2=>a6I (ms:=[p]) (SqL.of (s2 _ _ e1)) (SqL.of e2) (q H2 (s1.trans s2))⟩
def b1u (H:Hp)(rp al me wl:Addr)(n:Int)(ts:List (Int×Int))(ls:List Int)(u:Int)(σ:St)(Hc:Hp):Prop:=∃(ov:Option V) (fs ws:List Int),σ=[some (.ref rp),some (.int u),some (.ref al),some (.ref me),some (.ref wl),ov]/\Z7 H Hc me wl fs ws/\a3m n ts (·∈ls) u fs ws/\2*(n.toNat-fs.length)+ws.length<=2*n.toNat
def a9D (H:Hp)(rp al me wl:Addr)(n:Int)(ts:List (Int×Int))(ls:List Int)(u v:Int)(m0:Nat)(j:Nat)(σ:St)(Hc:Hp):Prop:=∃(ov:Option V) (fs ws:List Int),σ=[some (.ref rp),some (.int u),some (.ref al),some (.ref me),some (.ref wl),ov]/\Z7 H Hc me wl fs ws/\Z0 n ts (·∈ls) u fs ws v j/\2*(n.toNat-fs.length)+ws.length<m0
theorem a3J:B9 ["_law_near_here","_law_start","_law_allowed","_law_found","_law_waiting","_law_other"] ["_law_near_here","_law_start","_law_allowed"] (A7 (top 26)):=by walk_at "s"
theorem a7C (F:Fun K "_law_reach" "_law_reach" (top 26) f fd)(B:Bt mg):B6 P w K mg base CX0 1 f fd ["_law_near_here","_law_start","_law_allowed"] (a0V K):=by
 refine F.ok a3J (fun vs H Q E h=>?_) (fun cdv A outer s H vs Q E hr h=>?_)
 ·walk_at "h"
 ·obtain⟨rp,as,n,ts,al,ls,u,rfl,hR,hok,hn1,htl,hal,u0,u1,q⟩:=h;have nd:=a3J.nd;have hu:=J1 hr
  refine⟨_,((B8 (i:=3) nd rfl (.inl rfl) (a2K (a1i (pv 1) L0 a2H) rfl rfl (by simp) (by decide)))<*
    ((B8 (i:=4) nd rfl (.inl rfl) (@D0 _ _ _ _ ((pv 1)<*>A0)))<*
    ((a3W bG (B0 (a2S K hr.units) (pv 4) (@D0 _ _ _ _ A0) (B5 _))
     (@A4 _ _ _ (M9 bG rfl (J3 K ((pv 0)<|>(b2x K (pv 4)))) (A8 (i:=5) nd rfl (.inl rfl))
      (@A4 _ _ _ (@J8 _ _ _ _ _ _ _ _ (PW.pt (a2E (B0 (V1 K) (pv 5) (pv 2) (by walk_at "w")) (a0K (a7n (a2e hu (pv 5) (pv 3))))))
       ((a0f hu (pv 3) (pv 5) L0 rfl)<*
       (@A4 _ _ _ (N6 (N8 K (pv 4) ((pv 5)<*>A0)))))
       C6)))))<*
     (@A4 _ _ _ (B1 (A5 (V9 K hr.hd) (by rfl) B.sorted dY ((pv 3)<*>A0))))))),?_⟩
  walk_at "rd";refine fun me nme=>⟨A2,[(bX u,V.bl true)],rfl,Nat.le_of_ble_eq_true rfl,?_⟩
  rw[b2M];refine A1 nme fun H1 s1 e1=>⟨by decide,fun wl nwl=>A1 nwl fun H2 s2 e2=>?_⟩
  have nw:H wl=none:=s1.free nwl;refine a6T (b1u H rp al me wl n ts ls u) (fun _ Hc=>srM n me wl Hc) ⟨none,[u],[u],rfl,⟨s1.trans s2,s2 _ _ e1,e2⟩,a3m.init u0 u1,by simp;omega⟩ ?_ (fun σ H Q Q' h ⟨x,e,z,q⟩=>⟨x,e,z,fun p n=>let ⟨d1,d2,x1,x2,x3,x4,k,e2,q2⟩:=q p n;⟨d1,d2,x1,x2,x3,x4,k,e2,h _ _ q2⟩⟩);rintro σ Hc ⟨ov,fs,ws,rfl,sr,sh,hb⟩;refine⟨_,rfl,bf _,fun pe ne=>A1 ne fun He se ee=>a4S (ns:=ws) (ms:=[]) (SqL.of (se _ _ sr.wait)) (SqL.of ee) ⟨_,rfl,R7 (fun hne=>?_) fun he=>?_⟩⟩
  ·have hw0:ws≠[]:=by simpa using hne
   obtain⟨ws',v,rfl⟩:=a9x hw0;have sre:=sr.mono se;obtain⟨hl1,sr1⟩:=sre.pop nw;have sh1:=sh.pop;have hm0:2*(n.toNat-fs.length)+ws'.length<srM n me wl Hc:=by rw[sr.mu,aE,bK];omega
   have hmb:srM n me wl Hc<=2*n.toNat:=by rw[sr.mu];exact hb
   obtain⟨v0,v1⟩:=sh1.rng v sh1.vin;obtain⟨a,a1,a2,a3,a4⟩:=hR.get v0 (J2 v0 v1);have top2:=sr1.same _ _ hR.top;refine⟨_,rfl,_,rfl,.inl ⟨rfl,_,SqL.of sre.wait⟩,wl,_,_,rfl,rfl,sre.wait,hl1,_,_,_,_,rfl,rfl,SqL.of top2,a2,_,rfl,⟨_,SqL.of (sr1.same _ _ a3)⟩,X6 (K:=K) (xs:=(nb ts v).map V.int) (a9D H rp al me wl n ts ls u v (srM n me wl Hc)) ⟨_,fs,ws',rfl,sr1,sh1,hm0⟩ ?_ ?_ ?_⟩
   ·rintro j σ Hd _ ⟨_,_,_,rfl,sr2,_⟩;exact SqL.of (sr2.same _ _ a3)
   ·rintro j w σ Hd hv ⟨ov,fs,ws,rfl,sr2,sh2,hm2⟩;rw[aF] at hv;cases hy0:(nb ts v)[j]? with
    | none=>rw[hy0] at hv;cases hv
    | some y =>
    rw[hy0] at hv;cases aG hv;have hfl:=M6 sh2.nd sh2.rng;walk_at "rd";have hal2:SqL K Hd al (ls.map V.int)\/SqT K Hd al (ls.map V.int):=hal.elim (fun z=>.inl (sr2.same.seq z)) fun z=>.inr (sr2.same.seqT z)
    refine Z5 hal2 ⟨_,rfl,R7 (fun hA=>⟨_,a1H.k (k:=bX y) sr2.met,?_⟩) fun hA=>⟨_,fs,ws,rfl,sr2,sh2.skip hy0 (.inl (by simpa using hA)),hm2⟩⟩;rw[a5l];refine R7 (fun hB=>?_) fun hB=>⟨_,fs,ws,rfl,sr2,sh2.skip hy0 (.inr (by simpa using hB)),hm2⟩
    have hyl:y∈ls:=by simpa using hA
    have hyf:y∉fs:=by simpa using hB
    have sh3:=sh2.add hok hy0 hyl hyf;have hfl3:=M6 sh3.nd sh3.rng;rw[aE,bK] at hfl3;refine⟨_,Y5.k (k:=bX y) sr2.met (a0t (by omega)),?_⟩;rw[a2G];have hwt:(upd Hd me (.dK (kvI (a0G fs y)))) wl=some (.lst (ws.map V.int)):=by rw[B2 sr2.ne.symm];exact sr2.wait
    have hwl:ws.length<=3000:=by omega
    refine⟨.inl ⟨rfl,_,SqL.of hwt⟩,_,hwt,by rw[ab];exact B7 (by omega),_,fs++[y],ws++[y],rfl,sr2.add nme nw hyf,sh3,?_⟩;rw[aE,aE,bK];omega
   ·rintro σ Hd ⟨ov,fs,ws,rfl,sr2,sh2,hm2⟩;rw[ab] at sh2;exact⟨⟨_,fs,ws,rfl,sr2,sh2.done (ao _),by omega⟩,by rw[sr2.mu];exact hm2⟩
  ·have hw0:ws=[]:=by simpa using he
   subst hw0;walk_at "rd";refine⟨fs,.inr (.inr ⟨_,se _ _ sr.met,a4m fs⟩),fun ns l pm hs nl=>A1 nl fun H4 s4 e4=>?_⟩;have s3:=sr.same.trans se;refine q l ns H4 (s3.trans s4) (s3.free nl) e4 (Y7 pm hs sh.nd) fun x=>?_
   rw[pm.mem_iff];exact sh.fin x
def a3A (K:ae):Sp:=fun vs H Q _=>∃(np:Addr) (as:List Addr) (n:Int) (ts:List (Int×Int)) (pl:Addr) (us:List Int),vs=[.ref np,.ref pl]/\C2 H np as (E9 n ts)/\M4 n ts/\H pl=some (.lst (us.map V.int))/\us.Nodup/\(∀ x∈us,0<=x/\x<n)/\∀(b:Bool) (H':Hp),A6 H H'->(b=true↔Hng ts us)->Q (.bl b) H'
theorem a3R:B9 ["_law_near_here","_law_places"] ["_law_near_here","_law_places"] (A7 (top 27)):=by walk_at "s"
theorem a7K (F:Fun K "_law_hang" "_law_hang" (top 27) f fd)(B:Bt mg)(D1:Df K mg "_law_reach" st1 f1 fd1 ["_law_near_here","_law_start","_law_allowed"])(G1:B6 P w K mg base CX0 1 f1 fd1 ["_law_near_here","_law_start","_law_allowed"] (a0V K)):B6 P w K mg base CX0 2 f fd ["_law_near_here","_law_places"] (a3A K):=by
 refine F.ok a3R (fun vs H Q E h=>?_) (fun cdv A outer s H vs Q E hr h=>?_)
 ·walk_at "h"
 ·obtain⟨np,as,n,ts,pl,us,rfl,hR,hok,hpl,hnd,hus,q⟩:=h;have nd:=a3R.nd;have hu:=J1 hr;refine⟨_,(@A4 _ _ _ (B1 (U0 (M1 a3Z (A5 (N5 K) (by rfl) B.len aR ((pv 1)<*>A0)) A3 (B5 _)) (W4 (M1 a0h (A5 (N5 K) (by rfl) B.len aR ((A9 G1 D1 hr.m ((pv 0)<*>(((pv 1)<|>A3)<*>((pv 1)<*>A0))))<*>A0)) (A5 (N5 K) (by rfl) B.len aR ((pv 1)<*>A0)) (B5 _)))))),?_⟩;walk_at "rd";have h3:=hok.n3;have h60:=hok.n60;have hl:=hok.len;have hul:=M6 hnd hus;refine⟨_,.inl (SqL.of hpl),?_⟩;cases us with
  | nil =>
   rw[if_neg (by simp)];exact q false H (A6.refl H) ⟨fun h=>(by cases h),fun h=>absurd rfl h.1⟩
  | cons u r =>
   rw[if_pos (by simp)];obtain⟨u0,u1⟩:=hus u (by simp);have hat:atI ((u::r).map V.int) 0=some (.int u):=by show atI (V.int u::r.map V.int) 0=_;unfold atI ixN;simp
   refine⟨_,SqL.of hpl,_,hat,np,as,n,ts,pl,u::r,u,rfl,hR,hok.rng,by omega,by omega,.inl (SqL.of hpl),u0,u1,fun lt zs H5 s5 n5 e5 zsr hzs=>?_⟩;refine⟨lt,rfl,_,.inl (SqL.of e5),_,.inl (SqL.of (s5 _ _ hpl)),q _ H5 s5 ?_⟩;have hsub:zs ⊆ u::r:=fun x hx=>((hzs x).mp hx).mem (by simp)
   rw[decide_eq_true_iff,ab,ab];constructor
   ·intro e;have:=a7Q (C7 zsr) hsub (by omega) hnd;exact a1v hok.rng (by simp) fun y hy=>(hzs y).mp (this y hy)
   ·intro h;have h1:=U1 (C7 zsr) hsub;have h2:=U1 hnd (l:=zs) fun x hx=>(hzs x).mpr (h.2 u (by simp) x hx)
    omega
def a5s (K:ae):Sp:=fun vs H Q _=>∃(np:Addr) (as:List Addr) (n:Int) (ts:List (Int×Int)) (pl:Addr) (us:List Int),vs=[.ref np,.ref pl]/\C2 H np as (E9 n ts)/\M4 n ts/\(SqL K H pl (us.map V.int)\/SqT K H pl (us.map V.int))/\us.length<=60 /\
 ∀(p:Addr) (zs:List Int) (H':Hp),A6 H H'->H p=none->H' p=some (.lst (zs.map V.int))->zs.Pairwise (·<·)->(∀ x,x∈zs↔0<=x/\x<n/\x∉us/\∃ y∈us,y∈nb ts x)->Q (.ref p) H'
def a8i (H1:Hp)(np pl lp:Addr)(ts:List (Int×Int))(us L:List Int)(i:Nat)(τ:St)(Hc:Hp):Prop:=(∃ v,τ=[v,some (V.ref np),some (V.ref pl)])/\A6 H1 Hc/\Hc lp=some (.lst (((L.take i).filter fun x=>decide (∃ y∈us,y∈nb ts x)).map V.int))
theorem a5C:B9 ["_law_near_here","_law_places","_law_others"] ["_law_near_here","_law_places"] (A7 (top 28)):=by walk_at "s"
theorem a9i (F:Fun K "_law_touched" "_law_touched" (top 28) f fd)(B:Bt mg):B6 P w K mg base CX0 1 f fd ["_law_near_here","_law_places"] (a5s K):=by
 refine F.ok a5C (fun vs H Q E h=>?_) (fun cdv A outer s H vs Q E hr h=>?_)
 ·walk_at "h"
 ·obtain⟨np,as,n,ts,pl,us,rfl,hR,hok,hpl,hul,q⟩:=h;have nd:=a5C.nd;have hu:=J1 hr
  refine⟨_,((L6 (i:=2) (own:=["_law_place"]) (fr:=[("_law_places",1)]) rfl nd rfl rfl (by walk_at "w") (by walk_at "w") (B3 rfl rfl C0) (M3 (by rfl) B.range ((A5 (N5 K) (by rfl) B.len aR ((pv 0)<*>A0))<*>A0)) ⟨fun _ _ _ _=>⟨(A8 (i:=0) (show bu (["_law_place","_law_places"]:List Str) by decide +kernel) rfl (.inl rfl)),(K6 (B0 (O0 K) (pv 0) (pv 1) (by walk_at "w"))),(pv 0)⟩⟩)<*
    (@A4 _ _ _ (B1 (I0 (own:=["_law_place"]) (fr:=[("_law_near_here",0),("_law_places",1)]) rfl (by walk_at "w") (B3 rfl rfl (B3 rfl rfl C0)) (J3 K (pv 2)) ⟨fun _ _ _ _=>⟨(A8 (i:=0) (show bu (["_law_place","_law_near_here","_law_places"]:List Str) by decide +kernel) rfl (.inl rfl)),(K6 (B0 (a2S K hr.units) (I0 (own:=["_law_k"]) (fr:=[("_law_places",2)]) rfl (by walk_at "w") (B3 rfl rfl C0) (J3 K ((pv 1)<|>(pv 0))) ⟨fun _ _ _ _=>⟨(A8 (i:=0) (show bu (["_law_k","_law_places"]:List Str) by decide +kernel) rfl (.inl rfl)),(K6 (B0 (V1 K) (pv 0) (pv 1) (by walk_at "w"))),(pv 0)⟩⟩) (@D0 _ _ _ _ A0) (B5 _))),(pv 0)⟩⟩)))),?_⟩
  walk_at "rd";have h3:=hok.n3;have h60:=hok.n60;have hl:=hok.len;have hal:(as.map V.ref).length=n.toNat:=by rw[ab,hR.len,J9]
  refine⟨_,.inl (SqL.of hR.top),by omega,by omega,fun lf nlf=>?_⟩;rw[hal,b6];have hp':∀ {Hx:Hp},A6 H Hx->SqL K Hx pl (us.map V.int)\/SqT K Hx pl (us.map V.int):=fun s=>hpl.imp (fun h=>s.seq h) (fun h=>s.seqT h)
  refine a2j (fun x=>!decide (x∈us)) V.int (by omega) ?_ ?_
  ·intro x x0 x1 v ys R hy hR1 hR2;walk_at "rd";exact P9 (hp' ((A6.refl H).upd nlf)) ⟨_,rfl,M2 rfl hy (by omega) hR1 hR2⟩
  ·generalize hL:((E5 0 n.toNat).filter fun x=>!decide (x∈us))=L;have hLm:∀ x,x∈L↔(0<=x/\x<n)/\x∉us:=fun x=>by rw[<- hL,bd,K0];simp;omega
   have hLl:L.length<=n.toNat:=by rw[<- hL];exact bj (cb _ _) (by rw[E7];omega)
   refine A1 nlf fun H1 s1 e1=>⟨⟨_,SqL.of e1⟩,fun lp nlp=>Q4 (K:=K) (xs:=L.map V.int) (a8i H1 np pl lp ts us L) ⟨⟨_,rfl⟩,(A6.refl H1).upd nlp,by rw[A2];rfl⟩ ?_ ?_ ?_⟩
   ·rintro i τ Hc _ ⟨_,sc,_⟩;exact SqL.of (sc _ _ e1)
   ·rintro i v τ Hc hv ⟨⟨v',rfl⟩,sc,hc⟩ _;rw[aF] at hv;cases hx0:L[i]? with
    | none=>rw[hx0] at hv;cases hv
    | some x =>
    rw[hx0] at hv;cases aG hv;have hx:=(hLm x).mp (aI hx0);have hil:=(aA.mp hx0).1;have s1c:=s1.trans sc;obtain⟨a,_,g2,g3,_⟩:=(hR.same s1c).get hx.1.1 (J2 hx.1.1 hx.1.2);have hnl:=W9 (ts:=ts) x;walk_at "rd";refine⟨_,SqL.of (s1c _ _ hR.top),_,g2,a,rfl,⟨_,SqL.of g3⟩,fun lq nlq=>U4 V.int (fun k=>decide (k∈us)) V.int (by omega) (SqL.of g3) nlq ?_ ?_⟩
    ·intro y hy v ys R hyl hR1 hR2;walk_at "rd";exact Z5 (hp' (s1c.upd (s1c.free nlq))) ⟨_,rfl,M2 rfl hyl (by omega) hR1 hR2⟩
    ·refine A1 nlq fun H2 s2 e2=>⟨by decide,fun lr nlr=>A1 nlr fun H3 s3 e3=>a4S (ms:=[]) (SqL.of (s3 _ _ e2)) (SqL.of e3) ⟨_,rfl,?_⟩⟩
     have hf:((nb ts x).filter fun k=>decide (k∈us))=[]↔¬ ∃ y∈us,y∈nb ts x:=by
      rw[dl];constructor
      ·rintro h ⟨y,hy,hyx⟩;have:=h y hyx;simp at this;exact this hy
      ·intro h y hy;simp;intro k;exact h ⟨y,k,hy⟩
     have s23:=s2.trans s3;have hc3:=s23 _ _ hc;have nlp1:H1 lp=none:=nlp;by_cases hh:∃ y∈us,y∈nb ts x
     ·rw[if_pos (by rw[decide_eq_false (fun k=>hf.mp k hh)];decide)];refine⟨_,hc3,?_,⟨_,rfl⟩,(sc.trans s23).upd nlp1,?_⟩
      ·rw[ab];exact B7 (bj (cb _ _) (by rw[bA];omega))
      ·rw[A2,L5 hx0,b9,dG (by simpa using hh),aJ];rfl
     ·rw[if_neg (by rw[decide_eq_true (hf.mpr hh)];decide)];refine⟨⟨_,rfl⟩,sc.trans s23,?_⟩;rw[L5 hx0,b9,dH (by simpa using hh),List.filter_nil,bU];exact hc3
   ·rintro τ Hc ⟨_,sc,hc⟩;rw[ab,bq] at hc;refine q lp _ Hc (s1.trans sc) (s1.free nlp) hc ?_ fun x=>?_
    ·rw[<- hL];exact S6.sublist cF
    ·rw[bd,hLm,decide_eq_true_iff];constructor
     ·rintro⟨⟨⟨a,b⟩,c⟩,d⟩;exact⟨a,b,c,d⟩
     ·rintro⟨a,b,c,d⟩;exact⟨⟨⟨a,b⟩,c⟩,d⟩
def a3y (K:ae):Sp:=fun vs H Q _=>∃(np:Addr) (as:List Addr) (n:Int) (ts:List (Int×Int)) (pl:Addr) (us:List Int),vs=[.ref np,.ref pl]/\C2 H np as (E9 n ts)/\M4 n ts/\H pl=some (.lst (us.map V.int))/\us.Nodup/\(∀ x∈us,0<=x/\x<n)/\∀(b:Bool) (H':Hp),A6 H H'->(b=true↔S8 n ts us)->Q (.bl b) H'
theorem a3Q:B9 ["_law_near_here","_law_places"] ["_law_near_here","_law_places"] (A7 (top 29)):=by walk_at "s"
theorem a7J (F:Fun K "_law_is_set" "_law_is_set" (top 29) f fd)(B:Bt mg)(D1:Df K mg "_law_hang" st1 f1 fd1 ["_law_near_here","_law_places"])(G1:B6 P w K mg base CX0 2 f1 fd1 ["_law_near_here","_law_places"] (a3A K))(D2:Df K mg "_law_touched" st2 f2 fd2 ["_law_near_here","_law_places"])(G2:B6 P w K mg base CX0 1 f2 fd2 ["_law_near_here","_law_places"] (a5s K)):B6 P w K mg base CX0 3 f fd ["_law_near_here","_law_places"] (a3y K):=by
 refine F.ok a3Q (fun vs H Q E h=>?_) (fun cdv A outer s H vs Q E hr h=>?_)
 ·walk_at "h"
 ·obtain⟨np,as,n,ts,pl,us,rfl,hR,hok,hpl,hnd,hus,q⟩:=h;have nd:=a3Q.nd;have hu:=J1 hr;refine⟨_,(@A4 _ _ _ (B1 (U0 (A9 G1 D1 hr.m ((pv 0)<*>((pv 1)<*>A0))) (W4 (M1 a0h ((A5 (N5 K) (by rfl) B.len aR ((A9 G2 D2 hr.m ((pv 0)<*>((pv 1)<*>A0)))<*>A0))|||(A5 (N5 K) (by rfl) B.len aR ((pv 1)<*>A0))) (A5 (N5 K) (by rfl) B.len aR ((pv 0)<*>A0)) (B5 _)))))),?_⟩;walk_at "rd";have h3:=hok.n3;have h60:=hok.n60;have hl:=hok.len;have hul:=M6 hnd hus;have hal:(as.map V.ref).length=n.toNat:=by rw[ab,hR.len,J9]
  refine⟨np,as,n,ts,pl,us,rfl,hR,hok,hpl,hnd,hus,fun b H1 s1 hb=>⟨b,rfl,?_⟩⟩;cases b with
  | false =>
   rw[if_neg (by decide)];exact q false H1 s1 ⟨fun h=>(by cases h),fun h=>by cases hb.mpr h.1⟩
  | true =>
   rw[if_pos rfl];refine⟨np,as,n,ts,pl,us,rfl,hR.same s1,hok,.inl (SqL.of (s1 _ _ hpl)),by omega,fun p zs H2 s2 n2 e2 hz hm=>?_⟩;have s12:=s1.trans s2;refine⟨p,rfl,_,.inl (SqL.of e2),_,.inl (SqL.of (s12 _ _ hpl)),_,.inl (SqL.of (s12 _ _ hR.top)),q _ H2 s12 ?_⟩;have hbi:=a8E hnd hus (by omega) hz hm;rw[decide_eq_true_iff,hal,ab,ab,bH (by omega),hbi];exact⟨fun h=>⟨hb.mp rfl,h⟩,fun h=>h.2⟩
def a2z (K:ae):Sp:=fun vs H Q _=>∃(np:Addr) (as:List Addr) (n:Int) (ts:List (Int×Int)) (p:Int),vs=[.ref np,.int p]/\C2 H np as (E9 n ts)/\M4 n ts/\0<=p/\p<n /\
 ∀(l:Addr) (ls:List Int) (H':Hp),A6 H H'->H l=none->H' l=some (.lst (ls.map V.int))->ls.Perm (nb ts p++[p])->ls.length<=300->Q (.ref l) H'
theorem a5E:B9 ["_law_near_here","_law_p"] ["_law_near_here","_law_p"] (A7 (top 35)):=by walk_at "s"
theorem a9k (F:Fun K "_law_lot" "_law_lot" (top 35) f fd)(B:Bt mg):B6 P w K mg base CX0 1 f fd ["_law_near_here","_law_p"] (a2z K):=by
 refine F.ok a5E (fun vs H Q E h=>?_) (fun cdv A outer s H vs Q E hr h=>?_)
 ·walk_at "h"
 ·obtain⟨np,as,n,ts,p,rfl,hR,hok,h0,h1,q⟩:=h;have nd:=a5E.nd;have hu:=J1 hr;refine⟨_,(@A4 _ _ _ (B1 (A5 (V9 K hr.hd) (by rfl) B.sorted dY ((@K9 _ _ _ _ _ _ _ _ a0r ((pv 0)<|>(pv 1)) (@D0 _ _ _ _ ((pv 1)<*>A0)))<*>A0)))),?_⟩;walk_at "rd";have hl:=hok.len;obtain⟨a,_,g2,g3,_⟩:=hR.get h0 (J2 h0 h1);have hnl:=W9 (ts:=ts) p;refine⟨_,SqL.of hR.top,_,g2,by decide,fun l1 nl1=>A1 nl1 fun H1 s1 e1=>⟨a,l1,_,_,rfl,rfl,s1 _ _ g3,e1,?_,fun l2 nl2=>A1 nl2 fun H2 s2 e2=>⟨l2,rfl,nb ts p++[p],.inl (SqL.of (by rw[e2,aJ];rfl)),fun ms l3 pm _ nl3=>A1 nl3 fun H3 s3 e3=>?_⟩⟩⟩
  ·rw[ab];exact cH (B7 (by simp;omega))
  ·exact q l3 ms H3 ((s1.trans s2).trans s3) (s1.free (s2.free nl3)) e3 pm (by rw[pm.length_eq,aE,bK];omega)
def a4p (H:Hp)(d w0 np:Addr)(as:List Addr)(n:Int)(ts:List (Int×Int))(in0 ti:Addr)(P7 way:Int)(m:Nat)(σ:St)(Hc:Hp):Prop:=∃(a b c e:Option V) (ins:List Int) (us:List (Int×Int)) (ps:List (Addr×List Int)),σ=[some (.ref d),some (.ref w0),some (.ref np),some (.int P7),some (.ref in0),some (.ref ti),some (.int way),a,b,c,e] /\
 Kp d H Hc/\K5 Hc d/\C2 Hc np as (E9 n ts)/\Hc in0=some (.lst (ins.map V.int))/\Hc ti=some (.lst (ps.map fun x=>V.ref x.1))/\P5 Hc ps us/\P6 ts ins us/\(∀ x∈ins,0<=x/\x<n)/\m=n.toNat-ins.length
def a9E (Hb:Hp)(pr in0 np:Addr)(ts:List (Int×Int))(ins:List Int)(i:Nat)(τ:St)(Hd:Hp):Prop:=∃ c:Option V,τ=[c,some (.ref in0),some (.ref np)]/\A6 Hb Hd/\Hd pr=some (.lst (((ins.take i).filter fun a=>!decide (opn ts ins a=[])).map V.int))
def a5S (Hb:Hp)(po in0:Addr)(row ins:List Int)(j:Nat)(τ:St)(Hd:Hp):Prop:=∃ c:Option V,τ=[c,some (.ref in0)]/\A6 Hb Hd/\Hd po=some (.lst (((row.take j).filter fun k=>!decide (k∈ins)).map V.int))
theorem a5x:B9 ["_law_deck_here","_law_web_here","_law_near_here","_law_start","_law_inside","_law_ties","_law_way","_law_place","_law_ready","_law_open_ones","_law_other"] ["_law_deck_here","_law_web_here"] (A7 (top 32)):=by walk_at "s"
theorem a9d (F:Fun K "_law_tree" "_law_tree" (top 32) f fd)(B:Bt mg)(D1:Df K mg "_law_near" st1 f1 fd1 ["_law_web_here"])(G1:B6 P w K mg base CX0 1 f1 fd1 ["_law_web_here"] a0J)(D2:Df K mg "_law_next" st2 f2 fd2 ["_law_deck_here"])(G2:B6 P w K mg base CX0 1 f2 fd2 ["_law_deck_here"] P3):B6 P w K mg base CX0 2 f fd ["_law_deck_here","_law_web_here"] a5o:=by
 refine F.ok a5x (fun vs H Q E h=>?_) (fun cdv A outer s H vs Q E hr h=>?_)
 ·walk_at "h"
 ·obtain⟨d,w0,n,ts,rfl,hd,hw,hok,q⟩:=h;have nd:=a5x.nd;have hu:=J1 hr
  refine⟨_,((B8 (i:=2) nd rfl (.inr rfl) (A9 G1 D1 hr.m ((pv 1)<*>A0)))<*
    ((B8 (i:=3) nd rfl (.inl rfl) ((A9 G2 D2 hr.m ((pv 0)<*>A0))&&&((pv 1)*>A3)))<*
    ((B8 (i:=4) nd rfl (.inr rfl) (@D0 _ _ _ _ ((pv 3)<*>A0)))<*
    ((B8 (i:=5) nd rfl (.inl rfl) (@D0 _ _ _ _ A0))<*
    ((B8 (i:=6) nd rfl (.inl rfl) ((A9 G2 D2 hr.m ((pv 0)<*>A0))&&&A3))<*
    ((a3W bG (B0 a0D (A5 (N5 K) (by rfl) B.len aR ((pv 4)<*>A0)) ((pv 1)*>A3) (B5 _))
     ((L6 (i:=8) (own:=["_law_place"]) (fr:=[("_law_inside",4),("_law_near_here",2)]) rfl nd rfl rfl (by walk_at "w") (by walk_at "w") (B3 rfl rfl (B3 rfl rfl C0)) (J3 K (pv 4)) ⟨fun _ _ _ _=>⟨(A8 (i:=0) (show bu (["_law_place","_law_inside","_law_near_here"]:List Str) by decide +kernel) rfl (.inl rfl)),(K6 (B0 (a2S K hr.units) (I0 (own:=["_law_k"]) (fr:=[("_law_inside",1)]) rfl (by walk_at "w") (B3 rfl rfl C0) (J3 K ((pv 2)<|>(pv 0))) ⟨fun _ _ _ _=>⟨(A8 (i:=0) (show bu (["_law_k","_law_inside"]:List Str) by decide +kernel) rfl (.inl rfl)),(K6 (B0 (O0 K) (pv 0) (pv 1) (by walk_at "w"))),(pv 0)⟩⟩) (@D0 _ _ _ _ A0) (B5 _))),(pv 0)⟩⟩)<*
     ((B8 (i:=7) nd rfl (.inl rfl) ((@D0 _ _ _ _ (((pv 8)<|>A3)<*>(((pv 8)<|>(W3 R9 A3))<*>(((pv 8)<|>((A9 G2 D2 hr.m ((pv 0)<*>A0))&&&(A5 (N5 K) (by rfl) B.len aR ((pv 8)<*>A0))))<*>A0))))<|>(pv 6)))<*
     ((L6 (i:=9) (own:=["_law_k"]) (fr:=[("_law_inside",4)]) rfl nd rfl rfl (by walk_at "w") (by walk_at "w") (B3 rfl rfl C0) (J3 K ((pv 2)<|>(pv 7))) ⟨fun _ _ _ _=>⟨(A8 (i:=0) (show bu (["_law_k","_law_inside"]:List Str) by decide +kernel) rfl (.inl rfl)),(K6 (B0 (O0 K) (pv 0) (pv 1) (by walk_at "w"))),(pv 0)⟩⟩)<*
     ((B8 (i:=10) nd rfl (.inl rfl) ((pv 9)<|>((A9 G2 D2 hr.m ((pv 0)<*>A0))&&&(A5 (N5 K) (by rfl) B.len aR ((pv 9)<*>A0)))))<*
     ((N6 (N8 K (pv 4) ((pv 10)<*>A0)))<*
     (@A4 _ _ _ (N6 (N8 K (pv 5) ((@C9 _ _ _ _ _ ((A5 (a0x rfl) (by rfl) B.min boot_min ((pv 7)<*>((pv 10)<*>A0)))<*>((A5 (U6 rfl) (by rfl) B.max jQ ((pv 7)<*>((pv 10)<*>A0)))<*>A0)))<*>A0))))))))))<*
     (@A4 _ _ _ (B1 (E1 (S0 K) (by rfl) B.tuple cE ((A5 (a0Y K) (by rfl) B.sorted dY ((pv 5)<*>A0))<*>A0)))))))))),?_⟩
  walk_at "rd";have h3:=hok.n3;have h60:=hok.n60;have hl:=hok.len;refine⟨w0,n,ts,rfl,hw,by omega,by omega,by omega,hok.rng,hok.srt,fun np as H1 s1 nnp nas hR=>?_⟩;obtain⟨q0,hw0,ht0⟩:=id hw;have d1:=hd.same s1;have dnp:d≠np:=(hd.ne nnp).symm;have das:d∉as:=fun h=>hd.ne (nas d h) rfl
  refine E6 d1 fun z1 H2 k2 d2 e2=>?_
  have hw2:H2 w0=some (.tup [.int n,.ref q0]):=k2.tp d1 _ _ (s1 _ _ hw0);have o0:=bE z1 (b:=n) (by omega);have o1:=bn z1 (b:=n) (by omega);refine⟨_,SqT.of hw2,_,rfl,z1,rfl,n,rfl,by omega,by decide,fun in0 nin=>A1 nin fun H3 s3 e3=>⟨by decide,fun ti nti=>A1 nti fun H4 s4 e4=>?_⟩⟩;have d4:=d2.same (s3.trans s4);refine E6 d4 fun z2 H5 k5 d5 e5=>⟨z2,rfl,by decide,?_⟩
  have w1:=bE z2 (b:=3) (by omega);have w2:=bn z2 (b:=3) (by omega);have in0d:in0≠d:=d2.ne nin;have tid:ti≠d:=(d2.same s3).ne nti;have inti:in0≠ti:=E2 e3 nti;have R2:=hR.kp k2 dnp das;have R4:=R2.same (s3.trans s4);have R5:=R4.kp k5 dnp das;have in0np:in0≠np:=fun e=>by subst e;rw[R2.top] at nin;cases nin
  have tinp:ti≠np:=fun e=>by subst e;rw[(R2.same s3).top] at nti;cases nti
  have rowsOld:∀ {Hx:Hp} {x:Addr},C2 Hx np as (E9 n ts)->Hx x=none->x∉as:=fun {Hx x} R hx hm=>by
   obtain⟨i,hi,e⟩:=db hm;have hi2:i<(E9 n ts).length:=by have:=R.len;omega
   have:=R.row i x (E9 n ts)[i] (by rw[aq hi,e]) (aq hi2);rw[hx] at this;cases this
  have in0as:=rowsOld R2 nin;have tias:=rowsOld (R2.same s3) nti;have nin0:H in0=none:=(s1.kp.trans k2).free d2 nin;have nti0:H ti=none:=((s1.kp.trans k2).trans s3.kp).free (d2.same s3) nti;have kH5:Kp d H H5:=(((s1.kp.trans k2).trans s3.kp).trans s4.kp).trans k5;have e35:H5 in0=some (.lst ([z1 % n].map V.int)):=k5 _ _ in0d (s4 _ _ e3);have e45:H5 ti=some (.lst []):=k5 _ _ tid e4;refine⟨a4p H d w0 np as n ts in0 ti (z1 % n) (z2 % 3),⟨_,none,none,none,none,[z1 % n],[],[],rfl,kH5,d5,R5,e35,e45,⟨fun x hx=>(by cases hx),rfl⟩,P6.one _,fun x hx=>?_,rfl⟩,?_⟩
  ·rw[ah.mp hx];exact⟨o0,o1⟩
  ·rintro m σ Hc ⟨a,b,c,e,ins,us,ps,rfl,kc,dc,hRc,hin,hti,hps,hg,hrg,rfl⟩;have hwc:Hc w0=some (.tup [.int n,.ref q0]):=kc.tp hd _ _ hw0;have hgl:=hg.len;walk_at "rd";refine⟨_,.inl (SqL.of hin),_,SqT.of hwc,_,rfl,n,rfl,R7 (fun h=>?_) fun h=>?_⟩
   ·have hlt:(ins.length:Int)<n:=by simpa using h
    obtain⟨a0,ha0,b0,hb0,hbn0⟩:=hg.open hok hrg hlt;refine⟨a4p H d w0 np as n ts in0 ti (z1 % n) (z2 % 3) (n.toNat-(ins.length+1)),fun σ' H' z=>⟨_,by omega,z⟩,⟨_,SqL.of hin⟩,fun pr npr=>Q4 (K:=K) (xs:=ins.map V.int) (a9E Hc pr in0 np ts ins) ⟨none,rfl,(A6.refl Hc).upd npr,A2⟩ ?_ ?_ ?_⟩
    ·rintro i τ Hd _ ⟨_,rfl,sd,_⟩;exact SqL.of (sd _ _ hin)
    ·rintro i v τ Hd hv ⟨c1,rfl,sd,hpr⟩ _;rw[aF] at hv;cases hx0:ins[i]? with
     | none=>rw[hx0] at hv;cases hv
     | some x =>
     rw[hx0] at hv;cases aG hv;obtain⟨x0,x1⟩:=hrg x (aI hx0);obtain⟨ra,r1,r2,r3,r4⟩:=hRc.get x0 (J2 x0 x1);have hil:=(aA.mp hx0).1;walk_at "rd";refine⟨_,SqL.of (sd _ _ hRc.top),_,r2,ra,rfl,⟨_,SqL.of (sd _ _ r3)⟩,fun po npo=>Q4 (K:=K) (xs:=(nb ts x).map V.int) (a5S Hd po in0 (nb ts x) ins) ⟨none,rfl,(A6.refl Hd).upd npo,A2⟩ ?_ ?_ ?_⟩
     ·rintro j τ He _ ⟨_,rfl,se,_⟩;exact SqL.of (se _ _ (sd _ _ r3))
     ·rintro j v τ He hv ⟨c2,rfl,se,hpo⟩ _;rw[aF] at hv;cases hy0:(nb ts x)[j]? with
      | none=>rw[hy0] at hv;cases hv
      | some y =>
      rw[hy0] at hv;cases aG hv;have hjl:=(aA.mp hy0).1;have hnl:=W9 (ts:=ts) x;have hfl:(((nb ts x).take j).filter fun k=>!decide (k∈ins)).length<=j:=bj (cb _ _) (by rw[bA];omega);walk_at "rd";refine P9 (.inl (SqL.of (se _ _ (sd _ _ hin)))) ⟨_,rfl,R7 (fun h=>⟨_,hpo,by rw[ab];exact B7 (by omega),_,rfl,se.upd npo,?_⟩) fun h=>⟨_,rfl,se,?_⟩⟩
      ·rw[A2,bQ,hy0];show _=some (HO.lst (((((nb ts x).take j)++[y]).filter fun k=>!decide (k∈ins)).map V.int));rw[b9,a0M (fun k=>!decide (k∈ins)) h,aJ];rfl
      ·rw[bQ,hy0];show _=some (HO.lst (((((nb ts x).take j)++[y]).filter fun k=>!decide (k∈ins)).map V.int));rw[b9,a0N (fun k=>!decide (k∈ins)) h,bU];exact hpo
     ·rintro τ He ⟨c2,rfl,se,hpo⟩;rw[ab,bq] at hpo;have hpo':He po=some (.lst ((opn ts ins x).map V.int)):=hpo;refine⟨by decide,fun pe npe=>A1 npe fun Hf sf ef=>?_⟩;have hfl:((ins.take i).filter fun a=>!decide (opn ts ins a=[])).length<=i:=bj (cb _ _) (by rw[bA];omega);have hprf:Hf pr=some (.lst (((ins.take i).filter fun a=>!decide (opn ts ins a=[])).map V.int)):=sf _ _ (se _ _ hpr);refine a4S (ns:=opn ts ins x) (ms:=[]) (SqL.of (sf _ _ hpo')) (SqL.of ef) ⟨_,rfl,R7 (fun h=>⟨_,hprf,by rw[ab];exact B7 (by omega),_,rfl,((sd.trans se).trans sf).upd npr,?_⟩) fun h=>⟨_,rfl,(sd.trans se).trans sf,?_⟩⟩
      ·rw[A2,bQ,hx0];show _=some (HO.lst ((((ins.take i)++[x]).filter fun a=>!decide (opn ts ins a=[])).map V.int));rw[b9,a0M (fun a=>!decide (opn ts ins a=[])) h,aJ];rfl
      ·rw[bQ,hx0];show _=some (HO.lst ((((ins.take i)++[x]).filter fun a=>!decide (opn ts ins a=[])).map V.int));rw[b9,a0N (fun a=>!decide (opn ts ins a=[])) h,bU];exact hprf
    ·rintro τ Hd ⟨c1,rfl,sd,hpr⟩;rw[ab,bq] at hpr;have hpr':Hd pr=some (.lst ((rdy ts ins).map V.int)):=hpr;have hne:rdy ts ins≠[]:=fun e0=>by
      have h1:a0∈rdy ts ins:=a5K.mpr ⟨ha0,fun e1=>by
       have h2:b0∈opn ts ins a0:=a5L.mpr ⟨hb0,hbn0⟩
       rw[e1] at h2;cases h2⟩
      rw[e0] at h1;cases h1
     have hpl:0<(rdy ts ins).length:=cO.mpr hne;obtain⟨p0,m0,i0⟩:=a1G (xs:=rdy ts ins) (i:=0) (by decide) (by omega);obtain⟨p1,m1,i1⟩:=a4x hne;have dd:=dc.same sd;have prd:pr≠d:=dc.ne npr;refine⟨_,SqL.of hpr',_,i0,_,SqL.of hpr',_,i1,E6 dd fun z3 He ke de ee=>?_⟩;have hpre:=ke _ _ prd hpr';have g0:=bE z3 (b:=(rdy ts ins).length) (by omega);have g1:=bn z3 (b:=(rdy ts ins).length) (by omega);obtain⟨p2,m2,i2⟩:=a1G (xs:=rdy ts ins) g0 g1;refine⟨_,.inl (SqL.of hpre),z3,rfl,by rw[ab];omega,_,SqL.of hpre,_,by rw[ab];exact i2,by decide,fun lw nlw=>A1 nlw fun Hf sf ef=>?_⟩;obtain⟨pl,mpl,ipl⟩:=a1G (xs:=[p0,p1,p2]) (i:=z2 % 3) w1 (by simp;omega);have hplr:pl∈rdy ts ins:=by
      simp only[aD,aW,or_false] at mpl;rcases mpl with rfl | rfl | rfl<;>assumption
     obtain⟨hpi,hpo⟩:=a5K.mp hplr;obtain⟨v0,v1⟩:=hrg pl hpi;have Rf:C2 Hf np as (E9 n ts):=((hRc.same sd).kp ke dnp das).same sf;have kf:Kp d Hc Hf:=(sd.kp.trans ke).trans sf.kp;have hinf:=kf _ _ in0d hin;obtain⟨ra,r1,r2,r3,r4⟩:=Rf.get v0 (J2 v0 v1);refine⟨_,SqL.of ef,_,ipl,_,pl,rfl,SqL.of Rf.top,_,r2,ra,rfl,⟨_,SqL.of r3⟩,fun po npo=>Q4 (K:=K) (xs:=(nb ts pl).map V.int) (a5S Hf po in0 (nb ts pl) ins) ⟨none,rfl,(A6.refl Hf).upd npo,A2⟩ ?_ ?_ ?_⟩
     ·rintro j τ He _ ⟨_,rfl,se,_⟩;exact SqL.of (se _ _ r3)
     ·rintro j v τ He hv ⟨c2,rfl,se,hpo⟩ _;rw[aF] at hv;cases hy0:(nb ts pl)[j]? with
      | none=>rw[hy0] at hv;cases hv
      | some y =>
      rw[hy0] at hv;cases aG hv;have hjl:=(aA.mp hy0).1;have hnl:=W9 (ts:=ts) pl;have hfl:(((nb ts pl).take j).filter fun k=>!decide (k∈ins)).length<=j:=bj (cb _ _) (by rw[bA];omega);walk_at "rd";refine P9 (.inl (SqL.of (se _ _ hinf))) ⟨_,rfl,R7 (fun h=>⟨_,hpo,by rw[ab];exact B7 (by omega),_,rfl,se.upd npo,?_⟩) fun h=>⟨_,rfl,se,?_⟩⟩
      ·rw[A2,bQ,hy0];show _=some (HO.lst (((((nb ts pl).take j)++[y]).filter fun k=>!decide (k∈ins)).map V.int));rw[b9,a0M (fun k=>!decide (k∈ins)) h,aJ];rfl
      ·rw[bQ,hy0];show _=some (HO.lst (((((nb ts pl).take j)++[y]).filter fun k=>!decide (k∈ins)).map V.int));rw[b9,a0N (fun k=>!decide (k∈ins)) h,bU];exact hpo
     ·rintro τ Hg ⟨c2,rfl,sg,hog⟩;rw[ab,bq] at hog;have hog':Hg po=some (.lst ((opn ts ins pl).map V.int)):=hog;have hol:0<(opn ts ins pl).length:=cO.mpr hpo;have dg:K5 Hg d:=(de.same sf).same sg;have pod:po≠d:=(de.same sf).ne npo;refine E6 dg fun z4 Hh kh dh eh=>?_
      have hoh:=kh _ _ pod hog';have g2:=bE z4 (b:=(opn ts ins pl).length) (by omega);have g3:=bn z4 (b:=(opn ts ins pl).length) (by omega);obtain⟨ot,mo,io⟩:=a1G (xs:=opn ts ins pl) g2 g3;obtain⟨ho1,ho2⟩:=a5L.mp mo;have kh':Kp d Hc Hh:=(kf.trans sg.kp).trans kh;have hinh:=kh' _ _ in0d hin;have hth:=kh' _ _ tid hti;have hti2:upd Hh in0 (.lst (ins.map V.int++[.int ot])) ti=some (.lst (ps.map fun x=>V.ref x.1)):=by rw[B2 inti.symm];exact hth
      refine⟨_,.inl (SqL.of hoh),z4,rfl,by rw[ab];omega,_,SqL.of hoh,_,by rw[ab];exact io,.inl ⟨rfl,_,SqL.of hinh⟩,_,hinh,by rw[ab];exact B7 (by omega),.inl ⟨rfl,_,SqL.of hti2⟩,pl,ot,⟨rfl,rfl⟩,pl,ot,⟨rfl,rfl⟩,by decide,fun tp ntp=>?_⟩;have ntp':Hh tp=none:=L3 ntp;have titp:ti≠tp:=E2 hti2 ntp;have in0tp:in0≠tp:=E2 (A2 (o:=.lst (ins.map V.int++[.int ot]))) ntp;have Rh:C2 Hh np as (E9 n ts):=(Rf.same sg).kp kh dnp das;have tpnp:tp≠np:=fun e=>by subst e;rw[Rh.top] at ntp';cases ntp'
      have hpsl:=hps.len;refine⟨_,J5 hti2 ntp,by rw[ab];exact B7 (by omega),_,_,_,_,ins++[ot],us++[mm pl ot],ps++[(tp,tl (mm pl ot))],rfl,?_,?_,?_,?_,?_,?_,P6.add hg hpi ho2 ho1,fun x hx=>?_,?_⟩
      ·exact (((kc.trans kh').new nin0).new ((kc.trans kh').free dh ntp')).new nti0
      ·exact ((dh.new in0d).new (dh.ne ntp')).new tid
      ·exact ((Rh.put in0np in0as).put tpnp (rowsOld Rh ntp')).put tinp tias
      ·rw[B2 inti,B2 in0tp,A2,aJ];rfl
      ·rw[A2,aJ];rfl
      ·refine (hps.tp ?_).snoc (by rw[B2 titp.symm,A2];rfl);exact (((kh'.tp dc).trans (Tp.lst hinh)).trans (Tp.nw ntp)).trans (Tp.lst (J5 hti2 ntp))
      ·rcases ak.mp hx with hx | hx
       ·exact hrg x hx
       ·rw[ah.mp hx];have:=W8 hok.rng ho1;omega
      ·rw[aE];rfl
   ·have hle:n<=ins.length:=by simpa using h
    have hge:=M6 hg.nd hrg;have hle':(ins.length:Int)=n:=by omega
    refine⟨ps,hps.src hti,fun ps' l pm hs nl=>?_⟩;obtain⟨us',pu,hps'⟩:=hps.perm pm;refine A1 nl fun He se ee=>⟨_,.inl ⟨SqL.of ee,fun l2 n2=>A1 n2 fun Hf sf ef=>?_⟩⟩
    exact q l2 us' Hf (kc.trans (se.trans sf).kp) (dc.same (se.trans sf)) ((kc.trans se.kp).free (dc.same se) n2) ⟨ps',ef,hps'.tp (se.trans sf).tp⟩ (a6G hg hok.rng hle' hrg pu (hps'.srt hs))
def a1U:Sp:=fun vs H Q _=>∃(d w:Addr) (n:Int) (ts:List (Int×Int)) (nv:V),vs=[.ref d,.ref w,nv]/\K5 H d/\R6 H w n ts/\M4 n ts /\
 ∀(l:Addr) (us:List Int) (H':Hp),Kp d H H'->K5 H' d->H l=none->H' l=some (.tup (us.map V.int))->us.Pairwise (·<·)->(∀ x∈us,0<=x/\x<n)->S8 n ts us->Q (.ref l) H'
def a9J (Hb:Hp)(d w0 np fo:Addr)(nv:V)(n:Int)(L:List Int)(i:Nat)(σ:St)(Hc:Hp):Prop:=∃(a c:Option V) (us:List Int),σ=[some (.ref d),some (.ref w0),some nv,some (.ref np),a,some (.ref fo),c] /\
 Kp d Hb Hc/\K5 Hc d/\Hc fo=some (.lst (us.map V.int))/\us.Nodup/\(∀ x∈us,0<=x/\x<n)/\∀ x∈L,x∈us
theorem a2a:B9 ["_law_deck_here","_law_web_here","_law_near_here","_law_tree_near","_law_place","_law_found","_law_turn_here"] ["_law_deck_here","_law_web_here","_law_near_here"] (A7 (top 36)):=by walk_at "s"
theorem a6r (F:Fun K "_law_busy" "_law_busy" (top 36) f fd)(B:Bt mg)(D1:Df K mg "_law_near" st1 f1 fd1 ["_law_web_here"])(G1:B6 P w K mg base CX0 1 f1 fd1 ["_law_web_here"] a0J)(D2:Df K mg "_law_tree" st2 f2 fd2 ["_law_deck_here","_law_web_here"])(G2:B6 P w K mg base CX0 2 f2 fd2 ["_law_deck_here","_law_web_here"] a5o)(D3:Df K mg "_law_next" st3 f3 fd3 ["_law_deck_here"])(G3:B6 P w K mg base CX0 1 f3 fd3 ["_law_deck_here"] P3):B6 P w K mg base CX0 3 f fd ["_law_deck_here","_law_web_here","_law_near_here"] a1U:=by
 refine F.ok a2a (fun vs H Q E h=>?_) (fun cdv A outer s H vs Q E hr h=>?_)
 ·walk_at "h"
 ·obtain⟨d,w0,n,ts,nv,rfl,hd,hw,hok,q⟩:=h;have nd:=a2a.nd;have hu:=J1 hr
  refine⟨_,((B8 (i:=3) nd rfl (.inr rfl) (A9 G1 D1 hr.m ((@C9 _ _ _ _ _ (((pv 1)*>A3)<*>((A9 G2 D2 hr.m ((pv 0)<*>((pv 1)<*>A0)))<*>A0)))<*>A0)))<*
    ((L6 (i:=5) (own:=["_law_place"]) (fr:=[("_law_tree_near",3)]) rfl nd rfl rfl (by walk_at "w") (by walk_at "w") (B3 rfl rfl C0) (M3 (by rfl) B.range (((pv 1)*>A3)<*>A0)) ⟨fun _ _ _ _=>⟨(A8 (i:=0) (show bu (["_law_place","_law_tree_near"]:List Str) by decide +kernel) rfl (.inl rfl)),(K6 (B0 a3Z (A5 (N5 K) (by rfl) B.len aR (((pv 1)<|>(pv 0))<*>A0)) A3 (B5 _))),(pv 0)⟩⟩)<*
    ((M9 bG rfl (M3 (by rfl) B.range (((A9 G3 D3 hr.m ((pv 0)<*>A0))&&&A3)<*>A0)) (A8 (i:=6) nd rfl (.inl rfl))
     ((B8 (i:=4) nd rfl (.inl rfl) ((A9 G3 D3 hr.m ((pv 0)<*>A0))&&&((pv 1)*>A3)))<*
     (@A4 _ _ _ (@J8 _ _ _ _ _ _ _ _ (B0 (O0 K) (pv 4) (pv 5) (by walk_at "w"))
      (@A4 _ _ _ (N6 (N8 K (pv 5) ((pv 4)<*>A0))))
      C6))))<*
     (@A4 _ _ _ (B1 (E1 (S0 K) (by rfl) B.tuple cE ((A5 (V9 K hr.hd) (by rfl) B.sorted dY ((pv 5)<*>A0))<*>A0))))))),?_⟩
  walk_at "rd";have h3:=hok.n3;have h60:=hok.n60;have hl:=hok.len;obtain⟨q0,hw0,htq⟩:=id hw;refine⟨_,SqT.of hw0,_,rfl,d,w0,n,ts,rfl,hd,hw,hok,fun tp us H1 k1 d1 ntp ht T=>⟨by decide,fun wp nwp=>A1 nwp fun H2 s2 e2=>?_⟩⟩;have huk:=T.ok hok.rng;have hlen:=T.len;have d2:=d1.same s2;refine⟨wp,n,us,rfl,⟨tp,e2,ht.tp s2.tp⟩,by omega,by omega,by omega,huk,T.srt,fun np as H3 s3 nnp nas hR=>?_⟩;have d3:=d2.same s3;have k03:Kp d H H3:=k1.trans (s2.trans s3).kp;have hw3:=k03.tp hd _ _ hw0;refine⟨_,SqT.of hw3,_,rfl,n,rfl,by omega,by omega,fun fo nfo=>?_⟩;have dfo:fo≠d:=d3.ne nfo;have nfo0:H fo=none:=k03.free d3 nfo;have sm:∀ ys,A6 H3 (upd H3 fo (.lst ys)):=fun ys=>(A6.refl H3).upd nfo
  refine a2j (fun x=>decide (1<(nb us x).length)) V.int (by omega) ?_ ?_
  ·intro x x0 x1 v ys R hy hR1 hR2;obtain⟨ra,a1,a2,a3,a4⟩:=hR.get x0 (J2 x0 (by omega));walk_at "rd";refine⟨_,SqL.of (sm _ _ _ hR.top),_,a2,ra,rfl,_,.inl (SqL.of (sm _ _ _ a3)),M2 ?_ hy (by omega) hR1 hR2⟩;rw[ab];simp;omega
  ·generalize hL:((E5 0 n.toNat).filter fun x=>decide (1<(nb us x).length))=L;have hLm:∀ x,x∈L↔(0<=x/\x<n)/\1<(nb us x).length:=fun x=>by rw[<- hL,bd,K0];simp;omega
   have hLB:=T.busy hok.rng h3 hLm;refine A1 nfo fun H4 s4 e4=>?_
   rw[Y1];walk_at "rd";have d4:=d3.same s4;refine E6 d4 fun z1 H5 k5 d5 e5=>⟨z1,rfl,by decide,?_⟩
   have o0:=bE z1 (b:=4) (by omega);have o1:=bn z1 (b:=4) (by omega);have k05:Kp d H H5:=(k03.trans s4.kp).trans k5;refine⟨by omega,by omega,R8 (lo:=0) (n:=(z1 % 4).toNat) (a9J H d w0 np fo nv n L) ⟨none,none,L,rfl,k05,d5,k5 _ _ dfo e4,?_,fun x hx=>((hLm x).mp hx).1,fun x hx=>hx⟩ ?_ ?_⟩
   ·rw[<- hL];exact C7 S6
   ·rintro i σ Hc hi ⟨a,c,vs,rfl,kc,dc,hfo,hnd,hvr,hsub⟩;walk_at "rd";refine E6 dc fun z2 H6 k6 d6 e6=>?_
    have k06:=kc.trans k6;have hw6:=k06.tp hd _ _ hw0;have p0:=bE z2 (b:=n) (by omega);have p1:=bn z2 (b:=n) (by omega);have hfo6:=k6 _ _ dfo hfo;have hvl:=M6 hnd hvr;refine⟨_,SqT.of hw6,_,rfl,z2,rfl,n,rfl,by omega,?_⟩;refine P9 (.inl (SqL.of hfo6)) ⟨_,rfl,R7 (fun h=>⟨.inl ⟨rfl,_,SqL.of hfo6⟩,_,hfo6,by rw[ab];exact B7 (by omega),?_⟩) fun h=>⟨_,_,vs,rfl,k06,d6,hfo6,hnd,hvr,hsub⟩⟩;have hz:z2 % n∉vs:=by simpa using h
    refine⟨_,_,vs++[z2 % n],rfl,k06.new nfo0,d6.new dfo,by rw[A2,aJ];rfl,?_,fun x hx=>?_,fun x hx=>cM _ (hsub x hx)⟩
    ·rw[cN];exact⟨hnd,by simp,fun x hx y hy e=>by simp at hy;subst hy;subst e;exact hz hx⟩
    ·rcases ak.mp hx with hx | hx
     ·exact hvr x hx
     ·rw[ah.mp hx];exact⟨p0,p1⟩
   ·rintro σ Hc ⟨a,c,vs,rfl,kc,dc,hfo,hnd,hvr,hsub⟩;walk_at "rd";refine⟨vs,.inl (SqL.of hfo),fun ms l3 pm hs nl3=>A1 nl3 fun H7 s7 e7=>⟨_,.inl ⟨SqL.of e7,fun l4 nl4=>A1 nl4 fun H8 s8 e8=>?_⟩⟩⟩;have dm:=(dc.same s7).same s8;have hmr:∀ x∈ms,0<=x/\x<n:=fun x hx=>hvr x (pm.mem_iff.mp hx)
    have hmn:ms.Nodup:=pm.nodup_iff.mpr hnd;refine q l4 ms H8 (kc.trans (s7.trans s8).kp) dm (kc.free dc (s7.free nl4)) e8 ((hs.and hmn).imp fun {x y} h=>by have h1:=h.1;have h2:=h.2;omega) hmr (hLB.more hok.rng (fun x hx=>pm.mem_iff.mpr (hsub x hx)) hmr)
theorem a6b {p n:Int}(p0:0<=p)(p1:p<n):T0 (.int p) 0 (n-1)=true:=by
 unfold T0;simp;omega
def b3G (n:Int)(ts:List (Int×Int))(bs:List Int)(p:Int)(v:V):Prop:=∃ x,v=.int x/\(0<=x/\x<n)/\V5 ts bs x=[p]
def a3v (K:ae):Sp:=fun vs H Q _=>∃(w:Addr) (n:Int) (ts:List (Int×Int)) (pb:Addr) (bs:List Int) (p:Int) (v:V) (T:String),vs=[.ref w,.ref pb,.int p,v]/\R6 H w n ts/\M4 n ts/\SqT K H pb (bs.map V.int)/\bs.length<=60/\Pl H v T/\∀(c:Bool) (H':Hp),A6 H H'->(c=true↔b3G n ts bs p v)->Q (.bl c) H'
theorem a3H:B9 ["web","busy","place","thing"] ["web","busy","place","thing"] (A7 (top 15)):=by walk_at "s"
theorem a7B (F:Fun K "right_own" "right_own" (top 15) f fd)(B:Bt mg)(D1:Df K mg "is_place" st1 f1 fd1 ["web","thing"])(G1:B6 P w K mg base CX0 3 f1 fd1 ["web","thing"] Z1)(D2:Df K mg "lot_rows" st2 f2 fd2 ["web"])(G2:B6 P w K mg base CX0 2 f2 fd2 ["web"] a5t)(D3:Df K mg "has_alone" st3 f3 fd3 ["lot","busy","place"])(G3:B6 P w K mg base CX0 1 f3 fd3 ["lot","busy","place"] (a3C K)):B6 P w K mg base CX0 4 f fd ["web","busy","place","thing"] (a3v K):=by
 refine F.ok a3H (fun vs H Q E h=>?_) (fun cdv A outer s H vs Q E hr h=>?_)
 ·walk_at "h"
 ·obtain⟨w0,n,ts,pb,bs,p,v,T,rfl,hw,hok,hpb,hbl,hv,q⟩:=h;have nd:=a3H.nd;have hu:=J1 hr;refine⟨_,(@A4 _ _ _ (B1 (U0 (A9 G1 D1 hr.m ((pv 0)<*>((pv 3)<*>A0))) (W4 (A9 G3 D3 hr.m (((A9 G2 D2 hr.m ((pv 0)<*>A0))<|>(pv 3))<*>((pv 1)<*>((pv 2)<*>A0)))))))),?_⟩;walk_at "rd";have h3:=hok.n3;have h60:=hok.n60;have hl:=hok.len;obtain⟨q0,hw0,htq⟩:=id hw;refine⟨w0,n,_,v,T,rfl,hw0,hv,_,rfl,?_⟩;cases hb:T0 v 0 (n-1) with
  | false =>
   rw[if_neg (by decide)];refine q false H (A6.refl H) ⟨fun h=>(by cases h),fun ⟨x,e,⟨x0,x1⟩,_⟩=>?_⟩;subst e;rw[a6b x0 x1] at hb;cases hb
  | true =>
   obtain⟨x,rfl,x0,x1⟩:=a1E hb;rw[if_pos (by decide)];refine⟨w0,n,ts,rfl,hw,by omega,by omega,by omega,hok.rng,fun lp as H1 s1 nlp nas hR=>?_⟩;obtain⟨a,_,g2,g3,_⟩:=hR.get x0 (a1p x0 x1);refine⟨lp,rfl,_,x,rfl,SqL.of hR.top,_,g2,a,x::nb ts x,pb,bs,p,rfl,SqL.of g3,s1.seqT hpb,by omega,fun H2 s2=>q _ H2 (s1.trans s2) ?_⟩;rw[decide_eq_true_iff];exact⟨fun h=>⟨x,rfl,⟨x0,x1⟩,h⟩,fun ⟨x',e,_,h⟩=>by cases e;exact h⟩
def b3F (H:Hp)(ts:List (Int×Int))(bs:List Int)(p:Int)(v:V):Prop:=∃ a l,v=.ref a/\H a=some (.tup (l.map V.int))/\V6 ts bs p l
def a1R (K:ae):Sp:=fun vs H Q _=>∃(w:Addr) (n:Int) (ts:List (Int×Int)) (pb:Addr) (bs:List Int) (p:Int) (v:V) (T:String),vs=[.ref w,.ref pb,.int p,v]/\R6 H w n ts/\M4 n ts/\SqT K H pb (bs.map V.int)/\bs.length<=60/\(∀ x∈bs,0<=x/\x<n)/\Pl H v T/\PlD H 1 v/\(∀ a xs,v=.ref a->H a=some (.tup xs)->xs.length<300)/\∀(c:Bool) (H':Hp),A6 H H'->(c=true↔b3F H ts bs p v)->Q (.bl c) H'
theorem a1W:B9 ["web","busy","place","thing","left","rest"] ["web","busy","place","thing"] (A7 (top 16)):=by walk_at "s"
theorem a6n (F:Fun K "right_side" "right_side" (top 16) f fd)(B:Bt mg)(D1:Df K mg "is_place_row" st1 f1 fd1 ["web","thing"])(G1:B6 P w K mg base CX0 4 f1 fd1 ["web","thing"] a3t)(D2:Df K mg "all_but" st2 f2 fd2 ["places","some"])(G2:B6 P w K mg base CX0 1 f2 fd2 ["places","some"] (a1V K))(D3:Df K mg "touched" st3 f3 fd3 ["web","places"])(G3:B6 P w K mg base CX0 2 f3 fd3 ["web","places"] a0T)(D4:Df K mg "have_common" st4 f4 fd4 ["one","other"])(G4:B6 P w K mg base CX0 1 f4 fd4 ["one","other"] (a1T K)):B6 P w K mg base CX0 5 f fd ["web","busy","place","thing"] (a1R K):=by
 refine F.ok a1W (fun vs H Q E h=>?_) (fun cdv A outer s H vs Q E hr h=>?_)
 ·walk_at "h"
 ·obtain⟨w0,n,ts,pb,bs,p,v,T,rfl,hw,hok,hpb,hbl,hbr,hv,hd,hlen,q⟩:=h;have nd:=a1W.nd;have hu:=J1 hr
  refine⟨_,((@J8 _ _ _ _ _ _ _ _ (N9 (M5 (A9 G1 D1 hr.m ((pv 0)<*>((pv 3)<*>A0)))))
     (@A4 _ _ _ (B1 L0))
     C6)<*
     ((B8 (i:=4) nd rfl (.inl rfl) (A9 G2 D2 hr.m ((pv 1)<*>((@C9 _ _ _ _ _ ((pv 2)<*>A0))<*>A0))))<*
    ((B8 (i:=5) nd rfl (.inl rfl) (A9 G2 D2 hr.m ((pv 4)<*>((pv 3)<*>A0))))<*
    ((@J8 _ _ _ _ _ _ _ _ (PW.pt (V7 (B0 (a0v K hr.units) (pv 3) (@C9 _ _ _ _ _ A0) (B5 _)) (V7 (B0 (a0v K hr.units) (pv 5) (@C9 _ _ _ _ _ A0) (B5 _)) (T9 (B0 (a2S K hr.units) (A9 G2 D2 hr.m ((pv 3)<*>((pv 4)<*>A0))) (@C9 _ _ _ _ _ A0) (B5 _))))))
     (@A4 _ _ _ (B1 L0))
     C6)<*
     (@A4 _ _ _ (B1 (a4I (A9 G4 D4 hr.m ((A9 G3 D3 hr.m ((pv 0)<*>((pv 3)<*>A0)))<*>((pv 5)<*>A0)))))))))),?_⟩
  walk_at "rd";obtain⟨q0,hw0,htq⟩:=id hw;have h60:=hok.n60;have hLl:(B4 bs p).length<=60:=bj (cb _ _) hbl;refine⟨w0,n,_,v,T,rfl,hw0,hv,hd,fun a xs e ea=>cH (bh (hlen a xs e ea) (by decide)),fun b hb=>⟨b,rfl,?_⟩⟩;cases b with
  | false =>
   rw[if_pos (by decide)];refine q false H (A6.refl H) ⟨fun h=>(by cases h),fun ⟨a,l,e,ea,hP⟩=>?_⟩;cases hb.mpr ⟨l,a,e,ea,fun x hx=>hbr x (hP.sub x hx).1,hP.up⟩
  | true =>
  obtain⟨l,pl,rfl,hpl,hlr,hlu⟩:=hb.mp rfl;rw[if_neg (by decide)]
  have q:∀(c:Bool) (H':Hp),A6 H H'->(c=true↔V6 ts bs p l)->Q (.bl c) H':=fun c H' s h=>q c H' s (h.trans ⟨fun h=>⟨pl,l,rfl,hpl,h⟩,fun ⟨a,l',e,ea,h⟩=>by
   cases e;rw[hpl] at ea;injection ea with ea
   injection ea with ea
   rw[X4 ea];exact h⟩)
  have no:∀ {H'},A6 H H'->¬ V6 ts bs p l->Q (.bl false) H':=fun s h=>q false _ s ⟨fun h=>(by cases h),fun h'=>absurd h' h⟩
  have hll:=M6 (C7 hlu) hlr;refine⟨by decide,fun p1 n1=>A1 n1 fun H1 s1 e1=>⟨pb,bs,p1,[p],rfl,s1.seqT hpb,by omega,SqT.of e1,fun pL H2 s2 n2 e2=>?_⟩⟩;refine⟨pL,B4 bs p,pl,l,rfl,SqT.of e2,by omega,SqT.of ((s1.trans s2) _ _ hpl),fun pR H3 s3 n3 e3=>?_⟩;have s13:=(s1.trans s2).trans s3;dsimp only;refine⟨by decide,fun p4 n4=>A1 n4 fun H4 s4 e4=>b1D (ms:=[]) (SqT.of ((s13.trans s4) _ _ hpl)) (SqT.of e4) ⟨_,rfl,?_⟩⟩;by_cases hE:l=[]
  ·rw[if_pos (decide_eq_true hE)];exact no (s13.trans s4) fun h=>h.ne hE
  rw[if_neg (by simpa using hE)];refine⟨by decide,fun p5 n5=>A1 n5 fun H5 s5 e5=>b1D (ms:=[]) (SqT.of ((s4.trans s5) _ _ e3)) (SqT.of e5) ⟨_,rfl,?_⟩⟩;have s15:=(s13.trans s4).trans s5;by_cases hR:((B4 bs p).filter fun x=>!decide (x∈l))=[]
  ·rw[if_pos (decide_eq_true hR)];refine no s15 fun h=>?_
   obtain⟨y,y1,y2,y3⟩:=h.rest;have:y∈(B4 bs p).filter fun x=>!decide (x∈l):=bd.mpr ⟨C1.mpr ⟨y1,y2⟩,by simpa using y3⟩
   rw[hR] at this;cases this
  rw[if_neg (by simpa using hR)];have s35:=(s3.trans s4).trans s5;refine⟨pl,l,pL,B4 bs p,rfl,SqT.of (s15 _ _ hpl),by omega,SqT.of (s35 _ _ e2),fun p6 H6 s6 n6 e6=>?_⟩;dsimp only;refine⟨by decide,fun p7 n7=>A1 n7 fun H7 s7 e7=>b3t (ms:=[]) (SqT.of (s7 _ _ e6)) (SqT.of e7) ⟨_,rfl,?_⟩⟩;have s17:=(s15.trans s6).trans s7;by_cases hS:(l.filter fun x=>!decide (x∈B4 bs p))=[]
  ·rw[hS,if_neg (by simp)];have hsub:∀ x∈l,x∈bs/\x≠p:=fun x hx=>by
    have:=dl.mp hS x hx;exact C1.mp (by simpa using this)
   refine⟨w0,n,ts,pl,l,rfl,hw.tp s17.tp,hok,s17 _ _ hpl,by omega,hlr,fun pt zs H8 s8 n8 e8 hz hm=>?_⟩;dsimp only;have hzl:=M6 (C7 hz) (n:=n) fun x hx=>by
    obtain⟨_,y,_,y2⟩:=(hm x).mp hx;have:=W8 hok.rng y2;exact⟨this.1,this.2.1⟩
   refine⟨pt,zs,pR,_,rfl,.inr (SqT.of e8),by omega,.inr (SqT.of ((((s4.trans s5).trans s6).trans s7).trans s8 _ _ e3)),fun b H9 s9 hb=>⟨b,rfl,?_⟩⟩;refine q (!b) H9 ((s17.trans s8).trans s9) ?_;cases b with
   | false =>
    refine⟨fun _=>⟨hE,hlu,hsub,?_,fun x hx y hy hyb hyp=>aZ fun hyl=>?_⟩,fun _=>rfl⟩
    ·obtain⟨y,hy⟩:=dA _ hR;obtain⟨y1,y2⟩:=bd.mp hy;exact⟨y,(C1.mp y1).1,(C1.mp y1).2,by simpa using y2⟩
    ·cases hb.mpr ⟨y,(hm y).mpr ⟨hyl,x,hx,hy⟩,bd.mpr ⟨C1.mpr ⟨hyb,hyp⟩,by simpa using hyl⟩⟩
   | true =>
    refine⟨fun h=>(by cases h),fun hP=>?_⟩;obtain⟨x,x1,x2⟩:=hb.mp rfl;obtain⟨x3,y,y1,y2⟩:=(hm x).mp x1;obtain⟨x4,x5⟩:=bd.mp x2;exact absurd (hP.cut y y1 x y2 (C1.mp x4).1 (C1.mp x4).2) x3
  ·rw[if_pos (by simpa using hS)];refine no s17 fun h=>hS (dl.mpr fun x hx=>by simpa using C1.mpr (h.sub x hx))
def NdF (H:Hp)(v:V):Prop:=∀ t xs,v=.ref t->H t=some (.tup xs)->xs.length=2->∃(v0 v1:V) (T:String),xs=[v0,v1]/\W1 H v0/\Pl H v1 T/\PlD H 1 v1/\∀ a ys,v1=.ref a->H a=some (.tup ys)->ys.length<300
theorem NdF.mono {H H':Hp}{v:V}{T:String}(h:NdF H v)(hp:Pl H v T)(s:A6 H H'):NdF H' v:=fun t xs e e2 hl=>by
 subst e;obtain⟨v0,v1,T1,rfl,a,b,c,d⟩:=h t xs rfl (hp.back s e2) hl;refine⟨v0,v1,T1,rfl,a.same s,b.mono s,c.mono s,fun u ys e ea=>?_⟩;subst e;exact d u ys rfl (b.back s ea)
theorem K1.iff {H H':Hp}{n:Int}{ts:List (Int×Int)}{bs:List Int}{p:Int}{v:V}{T:String}(hp:Pl H v T)(hF:NdF H v)(s:A6 H H'):K1 H' n ts bs p v↔K1 H n ts bs p v:=by
 refine⟨fun h=>?_,fun h=>h.tp s.tp⟩;cases h with
 | own e a b c=>exact .own (hp.back s e) a b c
 | @parts t a l e ea hP =>
  have e':=hp.back s e;obtain⟨v0,v1,T1,ee,_,h1,_⟩:=hF t _ rfl e' rfl;cases ee;exact .parts e' (h1.back s ea) hP
def a1S (K:ae):Sp:=fun vs H Q _=>∃(w:Addr) (n:Int) (ts:List (Int×Int)) (pb:Addr) (bs:List Int) (p:Int) (v:V) (T:String),vs=[.ref w,.ref pb,.int p,v]/\R6 H w n ts/\M4 n ts/\SqT K H pb (bs.map V.int)/\bs.length<=60/\(∀ x∈bs,0<=x/\x<n)/\Pl H v T/\NdF H v/\∀(c:Bool) (H':Hp),A6 H H'->(c=true↔K1 H n ts bs p v)->Q (.bl c) H'
theorem a1X:B9 ["web","busy","place","thing"] ["web","busy","place","thing"] (A7 (top 17)):=by walk_at "s"
theorem a6o (F:Fun K "right_need" "right_need" (top 17) f fd)(B:Bt mg)(D1:Df K mg "right_own" st1 f1 fd1 ["web","busy","place","thing"])(G1:B6 P w K mg base CX0 4 f1 fd1 ["web","busy","place","thing"] (a3v K))(D2:Df K mg "right_side" st2 f2 fd2 ["web","busy","place","thing"])(G2:B6 P w K mg base CX0 5 f2 fd2 ["web","busy","place","thing"] (a1R K))(C:Bt2 mg):B6 P w K mg base CX0 6 f fd ["web","busy","place","thing"] (a1S K):=by
 refine F.ok a1X (fun vs H Q E h=>?_) (fun cdv A outer s H vs Q E hr h=>?_)
 ·walk_at "h"
 ·obtain⟨w0,n,ts,pb,bs,p,v,T,rfl,hw,hok,hpb,hbl,hbr,hv,hF,q⟩:=h;have nd:=a1X.nd;have hu:=J1 hr
  refine⟨_,((@J8 _ _ _ _ _ _ _ _ (PW.pt (V7 (N9 (M5 (A5 (a0u K) (by rfl) C.isinstance cq ((pv 3)<*>((U3 (by rfl) B.tuple cE)<*>A0))))) (T9 (B0 a0g (A5 (N5 K) (by rfl) B.len aR ((pv 3)<*>A0)) A3 (B5 _)))))
     (@A4 _ _ _ (B1 L0))
     C6)<*
     ((@J8 _ _ _ _ _ _ _ _ (B0 (a0v K hr.units) ((pv 3)*>A3) M0 (B5 _))
     (@A4 _ _ _ (B1 (A9 G1 D1 hr.m ((pv 0)<*>((pv 1)<*>((pv 2)<*>(((pv 3)*>A3)<*>A0)))))))
     C6)<*
     (@A4 _ _ _ (B1 (U0 (M1 (a0v K hr.units) ((pv 3)*>A3) M0 (B5 _)) (W4 (A9 G2 D2 hr.m ((pv 0)<*>((pv 1)<*>((pv 2)<*>(((pv 3)*>A3)<*>A0))))))))))),?_⟩
  walk_at "rd";have no:∀ {H'},A6 H H'->¬ K1 H n ts bs p v->Q (.bl false) H':=fun s h=>q false _ s ⟨fun h=>(by cases h),fun h'=>absurd h' h⟩
  refine⟨_,_,⟨rfl,rfl⟩,_,hv.ty,_,K3 hv (.inr (.inr rfl)),?_⟩;cases h1:a1t T "tuple" with
  | false =>
   rw[if_pos (by rfl)];refine no (A6.refl H) fun h=>?_
   have:∃ t xs,v=.ref t/\H t=some (.tup xs):=by
    cases h with
    | own e _ _ _=>exact⟨_,_,rfl,e⟩
    | parts e _ _=>exact⟨_,_,rfl,e⟩
   obtain⟨t,xs,rfl,h2⟩:=this;cases hv with
   | lst e=>rw[e] at h2;cases h2
   | tup e=>cases h1
   | dK e=>rw[e] at h2;cases h2
   | dT e=>rw[e] at h2;cases h2
  | true =>
   rw[if_neg (by decide)];cases hv with
   | @tup t xs e =>
    have a7W:K1 H n ts bs p (.ref t)->xs.length=2:=fun h=>by
     cases h with
     | own e2 _ _ _=>rw[e] at e2;cases e2;rfl
     | parts e2 _ _=>rw[e] at e2;cases e2;rfl
    refine⟨t,rfl,_,.inr (SqT.of e),?_⟩;by_cases hx2:xs.length=2
    ·obtain⟨v0,v1,T1,rfl,hv0,hv1,hd1,hl1⟩:=hF t xs rfl e hx2;rw[if_neg (by simp)];refine⟨t,rfl,_,SqT.of e,_,rfl,a4Z hv0 (show PyData.strOk _=true by decide +kernel) ⟨_,rfl,?_⟩⟩;by_cases e0:v0=.str "own"
     ·subst e0;rw[if_pos (by simp)];refine⟨t,rfl,_,SqT.of e,_,rfl,w0,n,ts,pb,bs,p,v1,T1,rfl,hw,hok,hpb,hbl,hv1,fun c H1 s1 hc=>q c H1 s1 (hc.trans ⟨fun ⟨x,ex,⟨x0,x1⟩,h⟩=>?_,fun h=>?_⟩)⟩
      ·subst ex;exact .own e x0 x1 h
      ·cases h with
       | own e2 x0 x1 h=>rw[e] at e2;cases e2;exact⟨_,rfl,⟨x0,x1⟩,h⟩
       | parts e2 _ _=>rw[e] at e2;cases e2
     ·rw[if_neg (by simp[e0])];refine⟨t,rfl,_,SqT.of e,_,rfl,a4Z hv0 (show PyData.strOk _=true by decide +kernel) ⟨_,rfl,?_⟩⟩;by_cases e1:v0=.str "parts"
      ·subst e1;rw[if_pos (by simp)];refine⟨t,rfl,_,SqT.of e,_,rfl,w0,n,ts,pb,bs,p,v1,T1,rfl,hw,hok,hpb,hbl,hbr,hv1,hd1,hl1,fun c H1 s1 hc=>q c H1 s1 (hc.trans ⟨fun ⟨a,l,ea,e3,h⟩=>?_,fun h=>?_⟩)⟩
       ·subst ea;exact .parts e e3 h
       ·cases h with
        | own e2 x0 x1 h=>rw[e] at e2;cases e2
        | parts e2 e3 h=>rw[e] at e2;cases e2;exact⟨_,_,rfl,e3,h⟩
      ·rw[if_neg (by simp[e1])];refine no (A6.refl H) fun h=>?_
       cases h with
       | own e2 _ _ _=>rw[e] at e2;cases e2;exact e0 rfl
       | parts e2 _ _=>rw[e] at e2;cases e2;exact e1 rfl
    ·rw[if_pos (by simp;omega)];exact no (A6.refl H) fun h=>hx2 (a7W h)
   | _=>cases h1
def a2w (H:Hp)(n:Int)(ts:List (Int×Int))(bs:List Int)(v:V):Prop:=∃ t xs,v=.ref t/\H t=some (.tup xs)/\xs.length=bs.length/\∀(i:Nat) z p,xs[i]?=some z->bs[i]?=some p->K1 H n ts bs p z
def b1U (H:Hp)(v:V):Prop:=∀ t xs,v=.ref t->H t=some (.tup xs)->∀ z∈xs,NdF H z/\∃ T,Pl H z T
def a0U (K:ae):Sp:=fun vs H Q _=>∃(w:Addr) (n:Int) (ts:List (Int×Int)) (pb:Addr) (bs:List Int) (v:V) (T:String),vs=[.ref w,.ref pb,v]/\R6 H w n ts/\M4 n ts/\SqT K H pb (bs.map V.int)/\bs.length<=60/\(∀ x∈bs,0<=x/\x<n)/\Pl H v T/\b1U H v/\∀(c:Bool) (H':Hp),A6 H H'->(c=true↔a2w H n ts bs v)->Q (.bl c) H'
def a8f (Hb:Hp)(w0 pb pn:Addr)(n:Int)(ts:List (Int×Int))(bs:List Int)(xs:List V)(i:Nat)(σ:St)(Hc:Hp):Prop:=∃ c d:Option V,σ=[some (.ref w0),some (.ref pb),some (.ref pn),c,d]/\A6 Hb Hc/\∀(j:Nat) z p,j<i->xs[j]?=some z->bs[j]?=some p->K1 Hb n ts bs p z
theorem a1b:B9 ["web","busy","thing","place","need"] ["web","busy","thing"] (A7 (top 18)):=by walk_at "s"
theorem a4N (F:Fun K "right_needs" "right_needs" (top 18) f fd)(B:Bt mg)(D1:Df K mg "right_need" st1 f1 fd1 ["web","busy","place","thing"])(G1:B6 P w K mg base CX0 6 f1 fd1 ["web","busy","place","thing"] (a1S K))(C:Bt2 mg):B6 P w K mg base CX0 7 f fd ["web","busy","thing"] (a0U K):=by
 refine F.ok a1b (fun vs H Q E h=>?_) (fun cdv A outer s H vs Q E hr h=>?_)
 ·walk_at "h"
 ·obtain⟨w0,n,ts,pb,bs,v,T,rfl,hw,hok,hpb,hbl,hbr,hv,hF,q⟩:=h;have nd:=a1b.nd;have hu:=J1 hr
  refine⟨_,((@J8 _ _ _ _ _ _ _ _ (PW.pt (V7 (N9 (M5 (A5 (a0u K) (by rfl) C.isinstance cq ((pv 2)<*>((U3 (by rfl) B.tuple cE)<*>A0))))) (T9 (B0 a0g (A5 (N5 K) (by rfl) B.len aR ((pv 2)<*>A0)) (A5 (N5 K) (by rfl) B.len aR ((pv 1)<*>A0)) (B5 _)))))
     (@A4 _ _ _ (B1 L0))
     C6)<*
     ((M9 bG rfl (a7r (K:=K) (by rfl) C.zip boot_zip ((pv 1)<*>((pv 2)<*>A0))) (T4 K (n:=2) rfl (K4 (A8 (i:=3) nd rfl (.inl rfl)) (K4 (A8 (i:=4) nd rfl (.inl rfl)) T3)))
     (@A4 _ _ _ (@J8 _ _ _ _ _ _ _ _ (N9 (M5 (A9 G1 D1 hr.m ((pv 0)<*>((pv 1)<*>((pv 3)<*>((pv 4)<*>A0)))))))
      (@A4 _ _ _ (B1 L0))
      C6)))<*
     (@A4 _ _ _ (B1 L0)))),?_⟩
  walk_at "rd";have no:∀ {H'},A6 H H'->¬ a2w H n ts bs v->Q (.bl false) H':=fun s h=>q false _ s ⟨fun h=>(by cases h),fun h'=>absurd h' h⟩
  refine⟨_,_,⟨rfl,rfl⟩,_,hv.ty,_,K3 hv (.inr (.inr rfl)),?_⟩;cases h1:a1t T "tuple" with
  | false =>
   rw[if_pos (by rfl)];refine no (A6.refl H) fun ⟨t,xs,e,h2,_⟩=>?_
   subst e;cases hv with
   | lst e=>rw[e] at h2;cases h2
   | tup e=>cases h1
   | dK e=>rw[e] at h2;cases h2
   | dT e=>rw[e] at h2;cases h2
  | true =>
   rw[if_neg (by decide)];cases hv with
   | @tup pn xs ev =>
    have hF1:=hF pn xs rfl ev
    have iff0:a2w H n ts bs (.ref pn)↔xs.length=bs.length/\∀(i:Nat) z p,xs[i]?=some z->bs[i]?=some p->K1 H n ts bs p z:=⟨fun ⟨t',xs',e',e2,h⟩=>by
     cases e';rw[ev] at e2;cases e2
     exact h,fun h=>⟨pn,xs,rfl,ev,h⟩⟩
    refine⟨pn,rfl,_,.inr (SqT.of ev),_,.inr hpb,?_⟩;by_cases el:xs.length=bs.length
    ·rw[if_neg (by rw[ab,el];simp)];rw[Y1];walk_at "rd";refine⟨pb,pn,⟨rfl,rfl⟩,⟨_,hpb⟩,⟨_,SqT.of ev⟩,a9L (K:=K) (xs:=bs.map V.int) (ys:=xs) (a8f H w0 pb pn n ts bs xs) ⟨none,none,rfl,A6.refl H,fun j z p hj=>absurd hj (cL _)⟩ (by rw[ab];omega) ?_ ?_ ?_⟩
     ·rintro i σ Hc _ ⟨_,_,rfl,sc,_⟩;exact⟨sc.seqT hpb,SqT.of (sc _ _ ev)⟩
     ·rintro i x y σ Hc q0 hx hy ⟨c,d,rfl,sc,hin⟩ nq;rw[aF] at hx;cases hp0:bs[i]? with
      | none=>rw[hp0] at hx;cases hx
      | some p =>
      rw[hp0] at hx;cases aG hx;refine A1 nq fun Hd sd ed=>?_
      have s2:=sc.trans sd;obtain⟨hFy,Ty,hPy⟩:=hF1 y (aI hy);walk_at "rd";refine⟨_,SqT.of ed,rfl,_,_,rfl,_,_,rfl,rfl,w0,n,ts,pb,bs,p,y,Ty,rfl,hw.tp s2.tp,hok,s2.seqT hpb,hbl,hbr,hPy.mono s2,NdF.mono hFy hPy s2,fun b He se hb=>⟨b,rfl,?_⟩⟩;rw[K1.iff hPy hFy s2] at hb;cases b with
      | false =>
       rw[if_pos (by decide)];refine no (s2.trans se) fun h=>?_
       cases hb.mpr ((iff0.mp h).2 i y p hy hp0)
      | true =>
       rw[if_neg (by decide)];refine⟨_,_,rfl,s2.trans se,fun j z r hj hz hr=>?_⟩;rcases cc j i with k | k
       ·exact hin j z r k hz hr
       ·have ej:j=i:=by omega
        subst ej;rw[hy] at hz;rw[hp0] at hr;cases hz;cases hr;exact hb.mp rfl
     ·rintro σ Hc ⟨c,d,rfl,sc,hin⟩;walk_at "rd";exact q true Hc sc ⟨fun _=>iff0.mpr ⟨el,fun i z p hz hp=>hin i z p (aA.mp hz).1 hz hp⟩,fun _=>rfl⟩
    ·rw[if_pos (by rw[ab];simp;omega)];exact no (A6.refl H) fun h=>el (iff0.mp h).1
   | _=>cases h1
def a0q:Sp:=fun vs H Q _=>∃(x:V) (T:String) (lo hi:Int),vs=[x,.int lo,.int hi]/\Pl H x T/\Q (.bl (T0 x lo hi)) H
theorem a1Y:B9 ["_law_thing","_law_least","_law_most"] ["_law_thing","_law_least","_law_most"] (A7 (top 30)):=by walk_at "s"
theorem a6p (F:Fun K "_law_is_int" "_law_is_int" (top 30) f fd)(B:Bt mg)(C:Bt2 mg):B6 P w K mg base CX0 1 f fd ["_law_thing","_law_least","_law_most"] a0q:=by
 refine F.ok a1Y (fun vs H Q E h=>?_) (fun cdv A outer s H vs Q E hr h=>?_)
 ·walk_at "h"
 ·obtain⟨x,T,lo,hi,rfl,hx,q⟩:=h;have nd:=a1Y.nd;have hu:=J1 hr;refine⟨_,(@A4 _ _ _ (B1 (U0 (A5 (a0u K) (by rfl) C.isinstance cq ((pv 0)<*>((U3 (by rfl) B.int jR)<*>A0))) (U0 (a4I (A5 (a0u K) (by rfl) C.isinstance cq ((pv 0)<*>((U3 (by rfl) C.bool boot_bool)<*>A0)))) (W4 (a7u a5I a5I (pv 1) (pv 0) (pv 2))))))),?_⟩;walk_at "rd";refine⟨_,_,⟨rfl,rfl⟩,_,hx.ty,_,K3 hx (.inl rfl),?_⟩;have e:=a8b hx;cases h1:a1t T "int" with
  | true =>
   rw[if_pos rfl];rw[h1,fV] at e;refine⟨_,_,⟨rfl,rfl⟩,_,hx.ty,_,K3 hx (.inr (.inl rfl)),?_⟩;rw[e];cases h2:isI x with
   | false =>
    rw[if_neg (by decide)];rw[a3l h2] at q;exact q
   | true =>
    rw[if_pos rfl];obtain⟨i,rfl⟩:=a5R h2;refine⟨i,rfl,?_⟩;unfold T0 at q;dsimp only at q;by_cases h3:lo<=i
    ·rw[if_pos (by simpa using h3)];rw[decide_eq_true h3,fV] at q;exact⟨i,rfl,q⟩
    ·rw[if_neg (by simpa using h3)];rw[decide_eq_false h3,fe] at q;exact q
  | false =>
   rw[if_neg (by decide)];rw[h1,fe] at e;rw[a3l e.symm] at q;exact q
def a3z (K:ae):Sp:=fun vs H Q _=>∃(x:V) (T:String) (n:Int),vs=[x,.int n]/\Pl H x T/\PlD H 1 x/\(∀ a xs,x=.ref a->H a=some (.tup xs)->xs.length<300)/\∀(b:Bool) (H':Hp),A6 H H'->(b=true↔∃ bs,a9S H n x bs)->Q (.bl b) H'
def a9H (H:Hp)(p2:Addr)(n:Int)(xs:List V)(i:Nat)(τ:St)(Hc:Hp):Prop:=∃ c:Option V,τ=[c,some (.int n)]/\A6 H Hc/\Hc p2=some (.lst (((xs.take i).map fun y=>T0 y 0 (n-1)).map V.bl))
theorem a0c:B9 ["_law_thing","_law_many"] ["_law_thing","_law_many"] (A7 (top 31)):=by walk_at "s"
theorem a2P (F:Fun K "_law_is_places" "_law_is_places" (top 31) f fd)(B:Bt mg)(D1:Df K mg "_law_is_int" st1 f1 fd1 ["_law_thing","_law_least","_law_most"])(G1:B6 P w K mg base CX0 1 f1 fd1 ["_law_thing","_law_least","_law_most"] a0q)(C:Bt2 mg):B6 P w K mg base CX0 2 f fd ["_law_thing","_law_many"] (a3z K):=by
 refine F.ok a0c (fun vs H Q E h=>?_) (fun cdv A outer s H vs Q E hr h=>?_)
 ·walk_at "h"
 ·obtain⟨x,T,n,rfl,hx,hd,hlen,q⟩:=h;have nd:=a0c.nd;have hu:=J1 hr
  refine⟨_,((@J8 _ _ _ _ _ _ _ _ (PW.pt (V7 (N9 (M5 (A5 (a0u K) (by rfl) C.isinstance cq ((pv 0)<*>((U3 (by rfl) B.tuple cE)<*>A0))))) (T9 (N9 (M5 (A5 (b2O K hr.hd) (by rfl) C.all boot_all ((I0 (own:=["_law_one"]) (fr:=[("_law_many",1)]) rfl (by walk_at "w") (B3 rfl rfl C0) (L9 K (pv 0)) ⟨fun _ _ _ _=>⟨(A8 (i:=0) (show bu (["_law_one","_law_many"]:List Str) by decide +kernel) rfl (.inl rfl)),L7,(A9 G1 D1 hr.m ((pv 0)<*>(A3<*>(((pv 1)^^^A3)<*>A0))))⟩⟩)<*>A0)))))))
     (@A4 _ _ _ (B1 L0))
     C6)<*
     (@A4 _ _ _ (B1 (M1 (a0v K hr.units) (E1 (a2g K) (by rfl) B.list ig ((pv 0)<*>A0)) (a4H K hr.hd (by rfl) B.sorted dY (by rfl) C.set boot_set ((pv 0)<*>A0)) (B5 _))))),?_⟩
  simp only[L2.P7,st0,aL,cY,aH,cK,List.replicate,du,cR,Nat.reduceAdd,Nat.reduceSub];walk_at "rd";refine⟨_,_,⟨rfl,rfl⟩,_,hx.ty,_,K3 hx (.inr (.inr rfl)),?_⟩;cases h1:a1t T "tuple" with
  | false =>
   rw[if_pos (by rfl)];refine q false H (A6.refl H) ⟨fun h=>(by cases h),fun ⟨us,p,e,h2,_⟩=>?_⟩;subst e;cases hx with
   | lst e=>rw[e] at h2;cases h2
   | tup e=>cases h1
   | dK e=>rw[e] at h2;cases h2
   | dT e=>rw[e] at h2;cases h2
  | true =>
   rw[if_neg (by decide)];cases hx with
   | @tup p xs hp =>
    have hl:=hlen p xs rfl hp;have back:(∃ bs,a9S H n (.ref p) bs)->∃ us:List Int,xs=us.map V.int/\(∀ v∈us,0<=v/\v<n)/\us.Pairwise (·<·):=fun ⟨bs,p',e,h2,h3,h4⟩=>by
     cases e;rw[hp] at h2;cases h2;exact⟨bs,rfl,h3,h4⟩
    refine⟨p,rfl,⟨_,SqT.of hp⟩,fun p2 n2=>a1s (K:=K) (xs:=xs) (a9H H p2 n xs) ⟨none,rfl,(A6.refl H).upd n2,by rw[A2,dL];rfl⟩ ?_ ?_ ?_⟩
    ·rintro i τ Hc _ ⟨c,rfl,sc,_⟩;exact SqT.of (sc _ _ hp)
    ·rintro i y τ Hc hy ⟨c,rfl,sc,hc⟩;obtain⟨Ty,hTy⟩:=(hd.2 p xs rfl hp y (aI hy)).pl;have hjl:=(aA.mp hy).1;walk_at "rd";refine⟨y,Ty,0,n-1,rfl,hTy.mono sc,?_⟩;refine⟨_,hc,by rw[ab,ab,bA];exact B7 (by omega),_,rfl,sc.upd n2,?_⟩;rw[A2,L5 hy,aJ,aJ];rfl
    ·rintro τ H2 ⟨c,rfl,sc,hc⟩;rw[bq] at hc;refine⟨_,SqL.of hc,?_⟩;by_cases hall:∀ x∈xs,T0 x 0 (n-1)=true
     ·have ha:((xs.map fun y=>T0 y 0 (n-1)).all id)=true:=by
       rw[jq,eF];exact hall
      rw[ha,if_neg (by decide)];obtain⟨us,rfl,hus⟩:=a2Z hall;rw[ab] at hl;refine⟨p,rfl,_,.inr (SqT.of (sc _ _ hp)),fun l nl=>A1 nl fun H3 s3 e3=>⟨p,rfl,us,.inr (SqT.of (s3 _ _ (sc _ _ hp))),hl,fun ns' l1 h1 h2 n1=>A1 n1 fun H4 s4 e4=>?_⟩⟩;refine a6I (SqL.of (s4 _ _ e3)) (SqL.of e4) (q _ H4 ((sc.trans s3).trans s4) ?_);rw[decide_eq_true_iff];constructor
      ·intro e;exact⟨us,p,rfl,hp,hus,by rw[e];exact h1⟩
      ·intro h;obtain⟨vs,e,_,h4⟩:=back h;have e:=X4 e;subst e;exact (a1g h1 h4 h2).symm
     ·have ha:((xs.map fun y=>T0 y 0 (n-1)).all id)=false:=by
       rw[<- Bool.not_eq_true,jq,eF];exact hall
      rw[ha,if_pos (by rfl)];refine q false H2 sc ⟨fun h=>(by cases h),fun h=>absurd ?_ hall⟩;obtain⟨vs,rfl,h3,_⟩:=back h;intro x hx;obtain⟨v,hv,rfl⟩:=bD.mp hx;have:=h3 v hv;unfold T0;simp;omega
   | _=>cases h1
def a0a (K:ae):Sp:=fun vs H Q _=>∃(np:Addr) (as:List Addr) (n:Int) (ts:List (Int×Int)) (pb:Addr) (bs:List Int) (po:Addr) (ks:List Int),vs=[.ref np,.ref pb,.ref po]/\C2 H np as (E9 n ts)/\M4 n ts/\SqT K H pb (bs.map V.int)/\bs.Pairwise (·<·)/\(∀ x∈bs,0<=x/\x<n)/\S8 n ts bs/\SqL K H po (ks.map V.int) /\
 ∀(t:Addr) (H':Hp),A6 H H'->H' t=some (.tup ((P0 n ts bs ks).map V.int))->Q (.ref t) H'
def a9G (Hb:Hp)(np pb po:Addr)(n:Int)(ts:List (Int×Int))(bs ks:List Int)(i:Nat)(σ:St)(Hc:Hp):Prop:=∃(lf:Addr) (c d:Option V),σ=[some (.ref np),some (.ref pb),some (.ref po),some (.ref lf),c,d]/\A6 Hb Hc/\Hc lf=some (.lst ((P0 n ts bs (ks.take i)).map V.int))
theorem a9u {bs:List Int}{p:Int}:(bs.filter fun x=>!decide (x=p))=B4 bs p:=by
 unfold B4;exact jZ fun x _=>by simp
theorem a0b:B9 ["_law_near_here","_law_busy_here","_law_order","_law_found","_law_place","_law_rest"] ["_law_near_here","_law_busy_here","_law_order"] (A7 (top 40)):=by walk_at "s"
theorem a2O (F:Fun K "_law_leaned" "_law_leaned" (top 40) f fd)(B:Bt mg)(D1:Df K mg "_law_is_set" st1 f1 fd1 ["_law_near_here","_law_places"])(G1:B6 P w K mg base CX0 3 f1 fd1 ["_law_near_here","_law_places"] (a3y K)):B6 P w K mg base CX0 4 f fd ["_law_near_here","_law_busy_here","_law_order"] (a0a K):=by
 refine F.ok a0b (fun vs H Q E h=>?_) (fun cdv A outer s H vs Q E hr h=>?_)
 ·walk_at "h"
 ·obtain⟨np,as,n,ts,pb,bs,po,ks,rfl,hR,hok,hpb,hbs,hbr,hB,hpo,q⟩:=h;have nd:=a0b.nd;have hu:=J1 hr
  refine⟨_,((B8 (i:=3) nd rfl (.inl rfl) (E1 (a2g K) (by rfl) B.list ig ((pv 1)<*>A0)))<*
    ((M9 bG rfl (J3 K (pv 2)) (A8 (i:=4) nd rfl (.inr rfl))
     ((L6 (i:=5) (own:=["_law_k"]) (fr:=[("_law_place",4)]) rfl nd rfl rfl (by walk_at "w") (by walk_at "w") (B3 rfl rfl C0) (J3 K (pv 3)) ⟨fun _ _ _ _=>⟨(A8 (i:=0) (show bu (["_law_k","_law_place"]:List Str) by decide +kernel) rfl (.inl rfl)),(K6 (B0 a0g (pv 0) (pv 1) (B5 _))),(pv 0)⟩⟩)<*
     (@A4 _ _ _ (@J8 _ _ _ _ _ _ _ _ (PW.pt (a2E (B0 (a2S K hr.units) (pv 5) (@D0 _ _ _ _ A0) (B5 _)) (a0K (M5 (A9 G1 D1 hr.m ((pv 0)<*>((pv 5)<*>A0)))))))
      (@A4 _ _ _ (B8 (i:=3) nd rfl (.inl rfl) (pv 5)))
      C6))))<*
     (@A4 _ _ _ (B1 (E1 (S0 K) (by rfl) B.tuple cE ((pv 3)<*>A0)))))),?_⟩
  walk_at "rd";have h3:=hok.n3;have h60:=hok.n60;have hbl:=M6 (C7 hbs) hbr;refine⟨_,.inr hpb,fun l nl=>A1 nl fun H0 s0 e0=>?_⟩;rw[Y1];walk_at "rd";refine⟨⟨_,s0.seq hpo⟩,X6 (K:=K) (xs:=ks.map V.int) (a9G H0 np pb po n ts bs ks) ⟨l,none,none,rfl,A6.refl H0,by rw[dL];exact e0⟩ ?_ ?_ ?_⟩
  ·rintro i σ Hc _ ⟨_,_,_,rfl,sc,_⟩;exact (s0.trans sc).seq hpo
  ·rintro i v σ Hc hv ⟨lf,c,d,rfl,sc,hlf⟩;rw[aF] at hv;cases hx0:ks[i]? with
   | none=>rw[hx0] at hv;cases hv
   | some x =>
   rw[hx0] at hv;cases aG hv;obtain⟨i1,i2,i3⟩:=a0i hok.rng (ks.take i) bs hB hbr;have hil:(P0 n ts bs (ks.take i)).length<=bs.length:=i2.length_le;have esn:P0 n ts bs (ks.take (i+1))=R0 n ts (P0 n ts bs (ks.take i)) x:=by rw[L5 hx0,a6w]
   walk_at "rd";refine⟨⟨_,SqL.of hlf⟩,fun l1 n1=>U4 V.int (fun y=>!decide (y=x)) V.int (by omega) (SqL.of hlf) n1 ?_ ?_⟩
   ·intro y hy v ys R hys hR1 hR2;walk_at "rd";exact M2 rfl hys (by omega) hR1 hR2
   ·rw[a9u];refine A1 n1 fun H1 s1 e1=>⟨by decide,fun l2 n2=>A1 n2 fun H2 s2 e2=>a4S (ms:=[]) (SqL.of (s2 _ _ e1)) (SqL.of e2) ⟨_,rfl,?_⟩⟩
    have s02:=(s0.trans sc).trans (s1.trans s2);by_cases he:B4 (P0 n ts bs (ks.take i)) x=[]
    ·rw[if_neg (by simp[he])];refine⟨lf,_,_,rfl,sc.trans (s1.trans s2),?_⟩;rw[esn,a1r fun h=>h.1.1 he];exact (s1.trans s2) _ _ hlf
    ·rw[if_pos (by simp[he])];refine⟨np,as,n,ts,l1,_,rfl,hR.same s02,hok,s2 _ _ e1,((C7 hbs).sublist i2).sublist cF,fun y hy=>hbr y (i2.subset (C1.mp hy).1),fun b H3 s3 hb=>⟨b,rfl,?_⟩⟩;have s13:=(s1.trans s2).trans s3;cases b with
     | true =>
      rw[if_pos rfl];refine⟨l1,_,_,rfl,sc.trans s13,?_⟩;rw[esn,a4l (hb.mp rfl)];exact (s2.trans s3) _ _ e1
     | false =>
      rw[if_neg (by decide)];refine⟨lf,_,_,rfl,sc.trans s13,?_⟩;rw[esn,a1r fun h=>(by cases hb.mpr h)];exact s13 _ _ hlf
  ·rintro σ Hc ⟨lf,c,d,rfl,sc,hlf⟩;rw[ab,bq] at hlf;walk_at "rd";exact⟨_,.inl ⟨SqL.of hlf,fun t nt=>q t _ ((s0.trans sc).upd ((s0.trans sc).free nt)) A2⟩⟩
def a4D:Sp:=fun vs H Q _=>∃(A:Addr->Prop),vs=[]/\Av A H/\∀(p:Addr) (xs:List V) (H':Hp),A6 H H'->H' p=some (.lst xs)->H p=none->xs.length<=30->(∀ x∈xs,∃ c,Tg (hid A H') c 2 250 x)->Q (.ref p) H'
theorem a3L:B9 ["_law_some"] [] (A7 (top 34)):=by walk_at "s"
theorem a7E (F:Fun K "_law_odd" "_law_odd" (top 34) f fd)(B:Bt mg):B6 P w K mg base CX0 1 f fd [] a4D:=by
 refine F.ok a3L (fun vs H Q E h=>?_) (fun cdv A outer s H vs Q E hr h=>?_)
 ·walk_at "h"
 ·obtain⟨Av0,rfl,hd,q⟩:=h;have nd:=a3L.nd;have hu:=J1 hr
  refine⟨_,((@a8U _ _ _ _ 0 _ _ _ nd rfl (.inl rfl) (@E8 _ _ _ 0 2 250 _ _ _ (gd0 Av0) (@a4F _ _ _ _ _ _ _ _) (@E8 _ _ _ 0 2 250 _ _ _ (gd0 Av0) (@b0k _ _ _ _ _ _ _ _ _) (@E8 _ _ _ 0 2 250 _ _ _ (gd0 Av0) (@U8 _ _ _ _ _ _ _ _ _ (P8 (by decide))) (@E8 _ _ _ 0 2 250 _ _ _ (gd0 Av0) (@W2 _ _ _ _ _ _ _ _ _ (by first | rfl | decide +kernel) (by first | decide | decide +kernel)) (@E8 _ _ _ 0 2 250 _ _ _ (gd0 Av0) (@W2 _ _ _ _ _ _ _ _ _ (by first | rfl | decide +kernel) (by first | decide | decide +kernel)) (@E8 _ _ _ 0 2 250 _ _ _ (gd0 Av0) (@L8 _ _ _ _ 1 60 250 0 _ _ _ (gd0 Av0) (@J6 _ _ _ _ _ _) (by decide) (by decide)) (@E8 _ _ _ 2 2 250 _ _ _ (gd0 Av0) (@a4G _ _ _ 1 60 250 0 _ _ (gd0 Av0) (@J6 _ _ _ _ _ _) (by decide) (by decide)) (@E8 _ _ _ 1 2 250 _ _ _ (gd0 Av0) (@b2z _ _ _ 1 _ _ (gd0 Av0)) (@E8 _ _ _ 0 2 250 _ _ _ (gd0 Av0) (@L8 _ _ _ _ 1 60 250 1 _ _ _ (gd0 Av0) (@E4 _ _ _ _ _ _ _ _ _ (gd0 Av0) (@L8 _ _ _ _ 0 10 60 0 _ _ _ (gd0 Av0) (@J6 _ _ _ _ _ _) (by decide) (by decide)) (@J6 _ _ _ _ _ _) (by rfl)) (by decide) (by decide)) (@E8 _ _ _ 0 2 250 _ _ _ (gd0 Av0) (@L8 _ _ _ _ 1 60 250 1 _ _ _ (gd0 Av0) (@E4 _ _ _ _ _ _ _ _ _ (gd0 Av0) (@a4F _ _ _ _ _ _ _ _) (@J6 _ _ _ _ _ _) (by rfl)) (by decide) (by decide)) (@E8 _ _ _ 0 2 250 _ _ _ (gd0 Av0) (@L8 _ _ _ _ 1 60 250 1 _ _ _ (gd0 Av0) (@E4 _ _ _ _ _ _ _ _ _ (gd0 Av0) (@L8 _ _ _ _ 0 10 60 2 _ _ _ (gd0 Av0) (@E4 _ _ _ _ _ _ _ _ _ (gd0 Av0) (@U8 _ _ _ _ _ _ _ _ _ (P8 (by decide))) (@E4 _ _ _ _ _ _ _ _ _ (gd0 Av0) (@U8 _ _ _ _ _ _ _ _ _ (P8 (by decide))) (@J6 _ _ _ _ _ _) (by rfl)) (by rfl)) (by decide) (by decide)) (@J6 _ _ _ _ _ _) (by rfl)) (by decide) (by decide)) (@E8 _ _ _ 2 2 250 _ _ _ (gd0 Av0) (@a4G _ _ _ 1 60 250 1 _ _ (gd0 Av0) (@E4 _ _ _ _ _ _ _ _ _ (gd0 Av0) (@L8 _ _ _ _ 0 10 60 2 _ _ _ (gd0 Av0) (@E4 _ _ _ _ _ _ _ _ _ (gd0 Av0) (@U8 _ _ _ _ _ _ _ _ _ (P8 (by decide))) (@E4 _ _ _ _ _ _ _ _ _ (gd0 Av0) (@U8 _ _ _ _ _ _ _ _ _ (P8 (by decide))) (@J6 _ _ _ _ _ _) (by rfl)) (by rfl)) (by decide) (by decide)) (@J6 _ _ _ _ _ _) (by rfl)) (by decide) (by decide)) (@E8 _ _ _ 0 2 250 _ _ _ (gd0 Av0) (@L8 _ _ _ _ 1 60 250 2 _ _ _ (gd0 Av0) (@E4 _ _ _ _ _ _ _ _ _ (gd0 Av0) (@U8 _ _ _ _ _ _ _ _ _ (P8 (by decide))) (@E4 _ _ _ _ _ _ _ _ _ (gd0 Av0) (@U8 _ _ _ _ _ _ _ _ _ (P8 (by decide))) (@J6 _ _ _ _ _ _) (by rfl)) (by rfl)) (by decide) (by decide)) (@E8 _ _ _ 1 2 250 _ _ _ (gd0 Av0) (@b2y _ _ _ 1 _ _ _ _ _ _ _ _ (gd0 Av0) (P8 (by decide)) (P8 (by decide)) (by decide)) (@E8 _ _ _ 0 2 250 _ _ _ (gd0 Av0) (@L8 _ _ _ _ 1 60 250 1 _ _ _ (gd0 Av0) (@E4 _ _ _ _ _ _ _ _ _ (gd0 Av0) (@W2 _ _ _ _ _ _ _ _ _ (by first | rfl | decide +kernel) (by first | decide | decide +kernel)) (@J6 _ _ _ _ _ _) (by rfl)) (by decide) (by decide)) (@a5G _ _ _ 2 250) (by rfl)) (by rfl)) (by rfl)) (by rfl)) (by rfl)) (by rfl)) (by rfl)) (by rfl)) (by rfl)) (by rfl)) (by rfl)) (by rfl)) (by rfl)) (by rfl)) (by rfl)) (by first | exact .inl rfl | exact .inr rfl | assumption))<*
    (@A4 _ _ _ (B1 (@K9 _ _ _ _ _ _ _ _ a0r (pv 0) (@D0 _ _ _ _ (@E8 _ _ _ 0 2 250 _ _ _ (gd0 Av0) (@L8 _ _ _ _ 1 60 250 2 _ _ _ (gd0 Av0) (@E4 _ _ _ _ _ _ _ _ _ (gd0 Av0) (@W2 _ _ _ _ _ _ _ _ _ (by first | rfl | decide +kernel) (by first | decide | decide +kernel)) (@E4 _ _ _ _ _ _ _ _ _ (gd0 Av0) (@U8 _ _ _ _ _ _ _ _ _ (P8 (by decide))) (@J6 _ _ _ _ _ _) (by rfl)) (by rfl)) (by decide) (by decide)) (@E8 _ _ _ 2 2 250 _ _ _ (gd0 Av0) (@a4G _ _ _ 1 60 250 1 _ _ (gd0 Av0) (@E4 _ _ _ _ _ _ _ _ _ (gd0 Av0) (@W2 _ _ _ _ _ _ _ _ _ (by first | rfl | decide +kernel) (by first | decide | decide +kernel)) (@J6 _ _ _ _ _ _) (by rfl)) (by decide) (by decide)) (@E8 _ _ _ 0 2 250 _ _ _ (gd0 Av0) (@L8 _ _ _ _ 1 60 250 4 _ _ _ (gd0 Av0) (@E4 _ _ _ _ _ _ _ _ _ (gd0 Av0) (@W2 _ _ _ _ _ _ _ _ _ (by first | rfl | decide +kernel) (by first | decide | decide +kernel)) (@E4 _ _ _ _ _ _ _ _ _ (gd0 Av0) (@U8 _ _ _ _ _ _ _ _ _ (P8 (by decide))) (@E4 _ _ _ _ _ _ _ _ _ (gd0 Av0) (@L8 _ _ _ _ 0 10 60 0 _ _ _ (gd0 Av0) (@J6 _ _ _ _ _ _) (by decide) (by decide)) (@E4 _ _ _ _ _ _ _ _ _ (gd0 Av0) (@L8 _ _ _ _ 0 10 60 0 _ _ _ (gd0 Av0) (@J6 _ _ _ _ _ _) (by decide) (by decide)) (@J6 _ _ _ _ _ _) (by rfl)) (by rfl)) (by rfl)) (by rfl)) (by decide) (by decide)) (@E8 _ _ _ 0 2 250 _ _ _ (gd0 Av0) (@L8 _ _ _ _ 1 60 250 2 _ _ _ (gd0 Av0) (@E4 _ _ _ _ _ _ _ _ _ (gd0 Av0) (@W2 _ _ _ _ _ _ _ _ _ (by first | rfl | decide +kernel) (by first | decide | decide +kernel)) (@E4 _ _ _ _ _ _ _ _ _ (gd0 Av0) (@b0k _ _ _ _ _ _ _ _ _) (@J6 _ _ _ _ _ _) (by rfl)) (by rfl)) (by decide) (by decide)) (@E8 _ _ _ 0 2 250 _ _ _ (gd0 Av0) (@L8 _ _ _ _ 1 60 250 1 _ _ _ (gd0 Av0) (@E4 _ _ _ _ _ _ _ _ _ (gd0 Av0) (@a3X _ _ _ _ _ _ _ _ (@K9 _ _ _ _ _ _ _ _ a4K A3 A3) a9s) (@J6 _ _ _ _ _ _) (by rfl)) (by decide) (by decide)) (@E8 _ _ _ 0 2 250 _ _ _ (gd0 Av0) (@L8 _ _ _ _ 1 60 250 2 _ _ _ (gd0 Av0) (@E4 _ _ _ _ _ _ _ _ _ (gd0 Av0) (@L8 _ _ _ _ 0 10 60 0 _ _ _ (gd0 Av0) (@J6 _ _ _ _ _ _) (by decide) (by decide)) (@E4 _ _ _ _ _ _ _ _ _ (gd0 Av0) (@L8 _ _ _ _ 0 10 60 0 _ _ _ (gd0 Av0) (@J6 _ _ _ _ _ _) (by decide) (by decide)) (@J6 _ _ _ _ _ _) (by rfl)) (by rfl)) (by decide) (by decide)) (@E8 _ _ _ 0 2 250 _ _ _ (gd0 Av0) (@L8 _ _ _ _ 1 60 250 2 _ _ _ (gd0 Av0) (@E4 _ _ _ _ _ _ _ _ _ (gd0 Av0) (@W2 _ _ _ _ _ _ _ _ _ (by first | rfl | decide +kernel) (by first | decide | decide +kernel)) (@E4 _ _ _ _ _ _ _ _ _ (gd0 Av0) (@a4F _ _ _ _ _ _ _ _) (@J6 _ _ _ _ _ _) (by rfl)) (by rfl)) (by decide) (by decide)) (@a5G _ _ _ 2 250) (by rfl)) (by rfl)) (by rfl)) (by rfl)) (by rfl)) (by rfl)) (by rfl))))))),?_⟩
  walk_at "rd";refine⟨hd,fun xs H1 s1 hl hxs=>⟨by rw[hl];exact cH (B7 (by omega)),fun p np=>A1 np fun H2 s2 e2=>?_⟩⟩;have g:=hd.same (s1.trans s2);refine⟨g,fun ys H3 s3 hl2 hys=>⟨by rw[hl2];exact cH (B7 (by omega)),fun p1 np1=>A1 np1 fun H4 s4 e4=>?_⟩⟩;refine⟨p,p1,_,_,rfl,rfl,(s3.trans s4) _ _ e2,e4,by rw[hl,hl2];exact cH (B7 (by omega)),fun p2 np2=>A1 np2 fun H5 s5 e5=>?_⟩;have s15:=((s2.trans s3).trans s4).trans s5;refine q p2 _ H5 (s1.trans s15) e5 ((s1.trans ((s2.trans s3).trans s4)).free np2) (by rw[aE,hl,hl2];decide) fun x hx=>?_
  rcases ak.mp hx with hx | hx
  ·obtain⟨c,h⟩:=hxs x hx;exact⟨c,h.same s15.hid⟩
  ·obtain⟨c,h⟩:=hys x hx;exact⟨c,h.same (s4.trans s5).hid⟩
def a5p:Sp:=fun vs H Q _=>∃(a b:Bool),vs=[.bl a,.bl b]/\Q (.bl (decide (a=b))) H
theorem a3O:B9 ["_law_found","_law_due"] ["_law_found","_law_due"] (A7 (top 33)):=by walk_at "s"
theorem a7H (F:Fun K "_law_says" "_law_says" (top 33) f fd)(B:Bt mg)(C:Bt2 mg):B6 P w K mg base CX0 1 f fd ["_law_found","_law_due"] a5p:=by
 refine F.ok a3O (fun vs H Q E h=>?_) (fun cdv A outer s H vs Q E hr h=>?_)
 ·walk_at "h"
 ·obtain⟨a,b,rfl,q⟩:=h;have nd:=a3O.nd;have hu:=J1 hr;refine⟨_,(@A4 _ _ _ (B1 (U0 (A5 (a0u K) (by rfl) C.isinstance cq ((pv 0)<*>((U3 (by rfl) C.bool boot_bool)<*>A0))) (W4 (M1 a0h (pv 0) (pv 1) (B5 _)))))),?_⟩;walk_at "rd";exact⟨_,_,⟨rfl,rfl⟩,_,.bl a,true,rfl,by rw[if_pos rfl];exact q⟩
def NdX (H:Hp)(t:Addr):Prop:=(∃ x:Int,H t=some (.tup [.str "own",.int x])/\0<=x/\x<60)\/∃(a:Addr) (l:List Int),H t=some (.tup [.str "parts",.ref a])/\H a=some (.tup (l.map V.int))/\l.length<=60/\(∀ y∈l,0<=y/\y<60)/\l≠[]
theorem NdX.tp {H H':Hp}{t:Addr}(h:NdX H t)(k:Tp H H'):NdX H' t:=by
 rcases h with ⟨x,e,hx⟩ | ⟨a,l,e,e2,h⟩
 ·exact .inl ⟨x,k _ _ e,hx⟩
 ·exact .inr ⟨a,l,k _ _ e,k _ _ e2,h⟩
theorem a4g {H:Hp}{n:Int}{ts:List (Int×Int)}{bs:List Int}{p:Int}{t:Addr}(h:K1 H n ts bs p (.ref t))(hbl:bs.length<=60)(hn:n<=60)(hbr:∀ x∈bs,0<=x/\x<n):NdX H t:=by
 cases h with
 | own e x0 x1 _=>exact .inl ⟨_,e,x0,by omega⟩
 | parts e e2 hP =>
  have:=U1 (C7 hP.up) fun x hx=>(hP.sub x hx).1
  exact .inr ⟨_,_,e,e2,by omega,fun y hy=>by (have:=hbr y (hP.sub y hy).1;omega),hP.ne⟩
theorem a7w {ts:List (Int×Int)}{bs:List Int}{p:Int}{l:List Int}(h:V6 ts bs p l):¬ Hng ts (B4 bs p):=fun hB=>by
 obtain⟨x,hx⟩:=dA _ h.ne;obtain⟨y,y1,y2,y3⟩:=h.rest;have r:=hB.2 x (C1.mpr (h.sub x hx)) y (C1.mpr ⟨y1,y2⟩);have:∀ z,Rch ts (·∈B4 bs p) x z->z∈l:=fun z r=>by
  induction r with
  | base=>exact hx
  | step _ hn hm ih=>exact h.cut _ ih _ hn (C1.mp hm).1 (C1.mp hm).2
 exact y3 (this y r)
theorem a7z {p:Int}:∀ {l:List Int},l.Nodup->(∀ y,y∈l↔y=p)->l=[p]
 | [],_,h=>by have:=(h p).mpr rfl;cases this
 | [a],_,h=>by rw[(h a).mp (by simp)]
 | a::b::r,hn,h=>by
  have ha:=(h a).mp (by simp);have hb:=(h b).mp (by simp);rw[ha,hb] at hn;exact absurd (aN ..) (cf.mp hn).1
theorem b1P {n:Int}{ts:List (Int×Int)}{bs ls:List Int}{p x:Int}(hok:M4 n ts)(hnd:bs.Nodup)(hpm:ls.Perm (nb ts x++[x])):(ls.filter fun y=>decide (y∈bs))=[p]↔V5 ts bs x=[p]:=by
 have hnl:ls.Nodup:=by
  refine hpm.nodup_iff.mpr ?_;rw[cN]
  exact⟨C7 (a7R hok.rng hok.srt x),by simp,fun a ha b hb e=>by
   rw[ah.mp hb] at e
   exact (W8 hok.rng ha).2.2.2.2 e⟩
 have e:∀ y,y∈(ls.filter fun y=>decide (y∈bs))↔y∈V5 ts bs x:=fun y=>by
  unfold V5;rw[bd,bd,hpm.mem_iff];simp[or_comm,and_comm]
 constructor
 ·intro h;exact a7z (hnd.sublist cF) fun y=>by rw[<- e,h];simp
 ·intro h;exact a7z (hnl.sublist cF) fun y=>by rw[e,h];simp
theorem a9n {K:ae}{H:Hp}{t:Addr}(h:NdX H t):Dok K H (.ref t):=by
 rcases h with ⟨x,e,_⟩ | ⟨a,l,e,e2,_⟩
 ·exact⟨_,(show a5h H (.ref t) (.inl x) from ⟨t,rfl,e⟩).dt,(a2U _).1,bj (a2U _).2.1 (by decide)⟩
 ·exact⟨_,(show a5h H (.ref t) (.inr l) from ⟨t,a,rfl,e,e2⟩).dt,(a2U _).1,bj (a2U _).2.1 (by decide)⟩
def a3u (K:ae):Sp:=fun vs H Q _=>∃(d np:Addr) (as:List Addr) (n:Int) (ts:List (Int×Int)) (pb:Addr) (bs:List Int) (p:Int),vs=[.ref d,.ref np,.ref pb,.int p]/\K5 H d/\C2 H np as (E9 n ts)/\d≠np/\d∉as/\M4 n ts/\H pb=some (.tup (bs.map V.int))/\bs.Pairwise (·<·)/\(∀ x∈bs,0<=x/\x<n)/\S8 n ts bs/\p∈bs /\
 ∀(t:Addr) (H':Hp),Kp d H H'->K5 H' d->NdX H' t->(¬ S8 n ts (B4 bs p)->K1 H' n ts bs p (.ref t))->Q (.ref t) H'
def a1k (n:Int)(ts:List (Int×Int))(bs:List Int)(p:Int):List Int:=(E5 0 n.toNat).filter fun x=>decide (V5 ts bs x=[p])
def a9C (Hb:Hp)(lo np pb:Addr)(ts:List (Int×Int))(bs:List Int)(p:Int)(i:Nat)(τ:St)(Hc:Hp):Prop:=∃ c:Option V,τ=[c,some (.ref pb),some (.ref np),some (.int p)]/\A6 Hb Hc/\Hc lo=some (.lst (((E5 0 i).filter fun x=>decide (V5 ts bs x=[p])).map V.int))
def a9B (Hb:Hp)(ls:Addr)(n:Int)(ts:List (Int×Int))(bs:List Int)(p:Int)(i:Nat)(τ:St)(Hc:Hp):Prop:=∃(c:Option V) (ys:List Addr),τ=[c]/\A6 Hb Hc/\Hc ls=some (.lst (ys.map V.ref))/\ys.length=i/\∀ y∈ys,K1 Hc n ts bs p (.ref y)
theorem a1a:B9 ["_law_deck_here","_law_near_here","_law_busy_here","_law_place","_law_turn_here","_law_own","_law_rest","_law_some","_law_side"] ["_law_deck_here","_law_near_here","_law_busy_here","_law_place"] (A7 (top 39)):=by walk_at "s"
theorem a4M (F:Fun K "_law_some_need" "_law_some_need" (top 39) f fd)(B:Bt mg)(D1:Df K mg "_law_next" st1 f1 fd1 ["_law_deck_here"])(G1:B6 P w K mg base CX0 1 f1 fd1 ["_law_deck_here"] P3)(D2:Df K mg "_law_lot" st2 f2 fd2 ["_law_near_here","_law_p"])(G2:B6 P w K mg base CX0 1 f2 fd2 ["_law_near_here","_law_p"] (a2z K))(D3:Df K mg "_law_reach" st3 f3 fd3 ["_law_near_here","_law_start","_law_allowed"])(G3:B6 P w K mg base CX0 1 f3 fd3 ["_law_near_here","_law_start","_law_allowed"] (a0V K)):B6 P w K mg base CX0 2 f fd ["_law_deck_here","_law_near_here","_law_busy_here","_law_place"] (a3u K):=by
 refine F.ok a1a (fun vs H Q E h=>?_) (fun cdv A outer s H vs Q E hr h=>?_)
 ·walk_at "h"
 ·obtain⟨d,np,as,n,ts,pb,bs,p,rfl,dk,hR,dnp,das,hok,hpb,hbs,hbr,hB,hp,q⟩:=h;have nd:=a1a.nd;have hu:=J1 hr
  refine⟨_,((B8 (i:=4) nd rfl (.inl rfl) (A9 G1 D1 hr.m ((pv 0)<*>A0)))<*
    ((L6 (i:=5) (own:=["_law_k"]) (fr:=[("_law_busy_here",2),("_law_near_here",1),("_law_place",3)]) rfl nd rfl rfl (by walk_at "w") (by walk_at "w") (B3 rfl rfl (B3 rfl rfl (B3 rfl rfl C0))) (M3 (by rfl) B.range ((A5 (N5 K) (by rfl) B.len aR ((pv 1)<*>A0))<*>A0)) ⟨fun _ _ _ _=>⟨(A8 (i:=0) (show bu (["_law_k","_law_busy_here","_law_near_here","_law_place"]:List Str) by decide +kernel) rfl (.inl rfl)),(K6 (B0 (a0v K hr.units) (I0 (own:=["_law_other"]) (fr:=[("_law_busy_here",1)]) rfl (by walk_at "w") (B3 rfl rfl C0) (J3 K (A9 G2 D2 hr.m ((pv 2)<*>((pv 0)<*>A0)))) ⟨fun _ _ _ _=>⟨(A8 (i:=0) (show bu (["_law_other","_law_busy_here"]:List Str) by decide +kernel) rfl (.inl rfl)),(K6 (B0 (V1 K) (pv 0) (pv 1) (by walk_at "w"))),(pv 0)⟩⟩) (@D0 _ _ _ _ ((pv 3)<*>A0)) (B5 _))),(pv 0)⟩⟩)<*
    ((L6 (i:=6) (own:=["_law_k"]) (fr:=[("_law_place",3)]) rfl nd rfl rfl (by walk_at "w") (by walk_at "w") (B3 rfl rfl C0) (L9 K (pv 2)) ⟨fun _ _ _ _=>⟨(A8 (i:=0) (show bu (["_law_k","_law_place"]:List Str) by decide +kernel) rfl (.inl rfl)),(K6 (B0 a0g (pv 0) (pv 1) (B5 _))),(pv 0)⟩⟩)<*
    ((L6 (i:=7) (own:=["_law_k"]) (fr:=[]) rfl nd rfl rfl (by walk_at "w") (by walk_at "w") C0 (J3 K (pv 5)) ⟨fun _ _ _ _=>⟨(A8 (i:=0) (show bu (["_law_k"]:List Str) by decide +kernel) rfl (.inl rfl)),L7,(@C9 _ _ _ _ _ (M0<*>((pv 0)<*>A0)))⟩⟩)<*
    ((@J8 _ _ _ _ _ _ _ _ (B0 (a2S K hr.units) (pv 6) (@D0 _ _ _ _ A0) (B5 _))
     ((B8 (i:=8) nd rfl (.inl rfl) (A9 G3 D3 hr.m ((pv 1)<*>(((pv 6)<|>((pv 4)&&&(A5 (N5 K) (by rfl) B.len aR ((pv 6)<*>A0))))<*>((pv 6)<*>A0)))))<*
     (@A4 _ _ _ (@J8 _ _ _ _ _ _ _ _ (B0 a0D (A5 (N5 K) (by rfl) B.len aR ((pv 8)<*>A0)) (A5 (N5 K) (by rfl) B.len aR ((pv 6)<*>A0)) (B5 _))
      (@A4 _ _ _ (N6 (N8 K (pv 7) ((@C9 _ _ _ _ _ (M0<*>((E1 (S0 K) (by rfl) B.tuple cE ((pv 8)<*>A0))<*>A0)))<*>A0))))
      C6)))
     C6)<*
     ((@J8 _ _ _ _ _ _ _ _ (B0 (a0v K hr.units) (pv 7) (@D0 _ _ _ _ A0) (B5 _))
     (@A4 _ _ _ (B1 ((@D0 _ _ _ _ ((@C9 _ _ _ _ _ (M0<*>((pv 3)<*>A0)))<*>((@C9 _ _ _ _ _ (M0<*>((E1 (S0 K) (by rfl) B.tuple cE ((N4 (a3E K) (pv 6) Q3 (Q2 A3))<*>A0))<*>A0)))<*>A0)))<|>((pv 4)&&&A3))))
     C6)<*
     (@A4 _ _ _ (B1 ((pv 7)<|>((A9 G1 D1 hr.m ((pv 0)<*>A0))&&&(A5 (N5 K) (by rfl) B.len aR ((pv 7)<*>A0)))))))))))),?_⟩
  simp only[L2.P7,st0,aL,cY,aH,cK,List.replicate,du,cR,Nat.reduceAdd,Nat.reduceSub];have h3:=hok.n3;have h60:=hok.n60;have hl:=hok.len;have hbl:=M6 (C7 hbs) hbr;have hnd:=C7 hbs;have hal:(as.map V.ref).length=n.toNat:=by rw[ab,hR.len,J9]
  have hLr:∀ x∈B4 bs p,0<=x/\x<n:=fun x hx=>hbr x (C1.mp hx).1
  have hLu:(B4 bs p).Pairwise (·<·):=hbs.filter _;have hLl:=M6 (C7 hLu) hLr;refine J7 (fun σ Hc=>∃ z:Int,σ=[some (.ref d),some (.ref np),some (.ref pb),some (.int p),some (.int z),none,none,none,none]/\Kp d H Hc/\K5 Hc d) (fun R hRR=>?_) ?_
  ·walk_at "rd";exact E6 dk fun z H1 k1 d1 _=>hRR _ _ ⟨z,rfl,k1,d1⟩
  rintro σ H1 ⟨z,rfl,k1,d1⟩;have R1:=hR.kp k1 dnp das;have hpb1:=k1.tp dk _ _ hpb;refine J7 (fun σ Hc=>∃ lo:Addr,σ=[some (.ref d),some (.ref np),some (.ref pb),some (.int p),some (.int z),some (.ref lo),none,none,none]/\A6 H1 Hc/\Hc lo=some (.lst ((a1k n ts bs p).map V.int))) (fun R hRR=>?_) ?_
  ·walk_at "rd";refine⟨_,.inl (SqL.of R1.top),by omega,by omega,fun lo nlo=>?_⟩;rw[hal,b6];refine X3 (a9C H1 lo np pb ts bs p) ⟨none,rfl,(A6.refl H1).upd nlo,A2⟩ ?_ ?_
   ·rintro i τ Hc hi ⟨c,rfl,sc,hlo⟩;have hil:i<n.toNat:=hi;have hfl:((E5 0 i).filter fun x=>decide (V5 ts bs x=[p])).length<=i:=bj (cb _ _) (by rw[E7];omega);walk_at "rd";refine⟨np,as,n,ts,_,rfl,R1.same sc,hok,by omega,by omega,fun l ls H2 s2 n2 e2 hpm hll=>⟨l,rfl,⟨_,SqL.of e2⟩,fun l3 m3=>U4 V.int (fun y=>decide (y∈bs)) V.int (by omega) (SqL.of e2) m3 ?_ ?_⟩⟩
    ·intro y hy v ys R hys hR1 hR2;have sm:=(sc.trans s2).trans ((A6.refl H2).upd (o:=.lst ys) m3);walk_at "rd";exact Z5 (.inr (SqT.of (sm _ _ hpb1))) ⟨_,rfl,M2 rfl hys (by omega) hR1 hR2⟩
    ·refine A1 m3 fun H3 s3 e3=>⟨by decide,fun l4 m4=>A1 m4 fun H4 s4 e4=>a6I (ms:=[p]) (SqL.of (s4 _ _ e3)) (SqL.of e4) ⟨_,rfl,?_⟩⟩
     have s24:=(s2.trans s3).trans s4;have hlo4:=s24 _ _ hlo;rw[show decide ((ls.filter fun y=>decide (y∈bs))=[p])=decide (V5 ts bs (0+(i:Int))=[p]) from decide_eq_decide.mpr (b1P hok hnd hpm)];refine R7 (fun h=>⟨_,hlo4,by rw[ab];exact B7 (by omega),_,rfl,(sc.trans s24).upd nlo,?_⟩) fun h=>⟨_,rfl,sc.trans s24,?_⟩
     ·rw[A2,Z2,b9,a0M (fun x=>decide (V5 ts bs x=[p])) h,aJ];rfl
     ·rw[Z2,b9,a0N (fun x=>decide (V5 ts bs x=[p])) h,bU];exact hlo4
   ·rintro τ H2 ⟨c,rfl,s2,e2⟩;exact hRR _ _ ⟨lo,rfl,s2,e2⟩
  rintro σ H2 ⟨lo,rfl,s2,e2⟩;refine J7 (fun σ Hc=>∃ lr:Addr,σ=[some (.ref d),some (.ref np),some (.ref pb),some (.int p),some (.int z),some (.ref lo),some (.ref lr),none,none]/\A6 H2 Hc/\Hc lr=some (.lst ((B4 bs p).map V.int))) (fun R hRR=>?_) ?_
  ·walk_at "rd";refine⟨⟨_,SqT.of (s2 _ _ hpb1)⟩,fun lr m3=>U9 V.int (fun y=>!decide (y=p)) V.int (by omega) (SqT.of (s2 _ _ hpb1)) m3 ?_ ?_⟩
   ·intro y hy v ys R hys hR1 hR2;walk_at "rd";exact M2 rfl hys (by omega) hR1 hR2
   ·have el:(bs.filter fun y=>!decide (y=p))=B4 bs p:=by unfold B4;exact jZ fun y _=>by simp
    rw[el];exact A1 m3 fun H3 s3 e3=>hRR _ _ ⟨lr,rfl,s3,e3⟩
  rintro σ H3 ⟨lr,rfl,s3,e3⟩;have hO1:∀ x∈a1k n ts bs p,(0<=x/\x<n)/\V5 ts bs x=[p]:=fun x hx=>by
   obtain⟨h1,h2⟩:=bd.mp hx;have:=K0.mp h1;exact⟨⟨this.1,by omega⟩,of_decide_eq_true h2⟩
  have hO2:a1k n ts bs p=[]->∀ x,0<=x->x<n->V5 ts bs x≠[p]:=fun e x x0 x1 h=>by
   have:x∈a1k n ts bs p:=bd.mpr ⟨K0.mpr ⟨x0,by omega⟩,decide_eq_true h⟩;rw[e] at this;cases this
  have hOl:(a1k n ts bs p).length<=60:=by
   have:(a1k n ts bs p).length<=_:=cb _ _;rw[E7] at this;omega
  generalize a1k n ts bs p=O at e2 hO1 hO2 hOl;refine J7 (fun σ Hc=>∃(ls:Addr) (ys:List Addr),σ=[some (.ref d),some (.ref np),some (.ref pb),some (.int p),some (.int z),some (.ref lo),some (.ref lr),some (.ref ls),none]/\A6 H3 Hc/\H3 ls=none/\Hc ls=some (.lst (ys.map V.ref))/\ys.length=O.length/\∀ y∈ys,K1 Hc n ts bs p (.ref y)) (fun R hRR=>?_) ?_
  ·walk_at "rd";refine⟨⟨_,SqL.of (s3 _ _ e2)⟩,fun ls m4=>Q4 (K:=K) (xs:=O.map V.int) (a9B H3 ls n ts bs p) ⟨none,[],rfl,(A6.refl H3).upd m4,A2,rfl,fun y hy=>(by cases hy)⟩ ?_ ?_ ?_⟩
   ·rintro i τ Hc _ ⟨_,_,rfl,sc,_⟩;exact SqL.of (sc _ _ (s3 _ _ e2))
   ·rintro i v τ Hc hv ⟨c,ys,rfl,sc,hls,hyl,hys⟩ _;rw[aF] at hv;obtain⟨x,hx,rfl⟩:=fT.mp hv;have hil:=(aA.mp hx).1;obtain⟨⟨x0,x1⟩,hxa⟩:=hO1 x (aI hx);walk_at "rd";refine⟨by decide,fun t nt=>A1 nt fun H5 s5 e5=>?_⟩;have hls5:=s5 _ _ hls;refine⟨_,hls5,by rw[ab];exact B7 (by omega),_,ys++[t],rfl,(sc.trans s5).upd m4,by rw[A2,aJ];rfl,by rw[aE,bK,hyl],fun y hy=>?_⟩;rcases ak.mp hy with hy | hy
    ·exact (hys y hy).tp (s5.tp.trans (Tp.lst hls5))
    ·rw[ah.mp hy];exact .own (Tp.lst hls5 _ _ e5) x0 x1 hxa
   ·rintro τ H4 ⟨c,ys,rfl,s4,e4,hyl,hys⟩;rw[ab] at hyl;exact hRR _ _ ⟨ls,ys,rfl,s4,m4,e4,hyl,hys⟩
  rintro σ H4 ⟨ls,ys,rfl,s4,m4,e4,hyl,hys⟩;have s14:=(s2.trans s3).trans s4;have R4:=R1.same s14;have d4:=d1.same s14;have k4:Kp d H H4:=k1.trans s14.kp;have lsd:ls≠d:=(d1.same (s2.trans s3)).ne m4;have lrls:lr≠ls:=E2 e3 m4;have e34:=s4 _ _ e3;refine J7 (fun σ Hc=>∃(ys:List Addr) (c:Option V),σ=[some (.ref d),some (.ref np),some (.ref pb),some (.int p),some (.int z),some (.ref lo),some (.ref lr),some (.ref ls),c]/\(∀ b o,b≠ls->H4 b=some o->Hc b=some o)/\Hc ls=some (.lst (ys.map V.ref))/\ys.length<=61/\(∀ y∈ys,K1 Hc n ts bs p (.ref y))/\(¬ S8 n ts (B4 bs p)->ys≠[])) (fun R hRR=>?_) ?_
  ·walk_at "rd";have hkeep:(¬ S8 n ts (B4 bs p)->O=[]->B4 bs p≠[]/\¬ Hng ts (B4 bs p)):=fun hL hO=>by
    obtain⟨l0,r,_,hP⟩:=a6u hok.rng hbr hnd hB hp hL (hO2 hO);refine⟨fun e=>?_,a7w hP⟩;obtain⟨x,hx⟩:=dA _ hP.ne;have:=C1.mpr (hP.sub x hx);rw[e] at this;cases this
   have hyO:O≠[]->ys≠[]:=fun h e=>by rw[e] at hyl;exact h (hW hyl.symm)
   refine⟨by decide,fun l5 m5=>A1 m5 fun H5 s5 e5=>a4S (ms:=[]) (SqL.of (s5 _ _ e34)) (SqL.of e5) ⟨_,rfl,?_⟩⟩;by_cases hE:B4 bs p=[]
   ·rw[if_neg (by simp[hE])];exact hRR _ _ ⟨ys,none,rfl,fun b o _ e=>s5 _ _ e,s5 _ _ e4,by omega,fun y hy=>(hys y hy).tp s5.tp,fun hL=>hyO fun hO=>(hkeep hL hO).1 hE⟩
   rw[if_pos (by simp[hE])];have hLp:0<(B4 bs p).length:=cO.mpr hE;obtain⟨u,hu,eu⟩:=a1G (xs:=B4 bs p) (i:=z % ((B4 bs p).length:Int)) (bE z (by omega)) (bn z (by omega));obtain⟨u0,u1⟩:=hLr u hu;refine⟨_,.inl (SqL.of (s5 _ _ e34)),by rw[ab];omega,_,SqL.of (s5 _ _ e34),_,by rw[ab];exact eu,np,as,n,ts,lr,B4 bs p,u,rfl,R4.same s5,hok.rng,by omega,by omega,.inl (SqL.of (s5 _ _ e34)),u0,u1,fun lt ws H6 s6 m6 e6 hwr hwm=>⟨lt,rfl,_,.inl (SqL.of e6),_,.inl (SqL.of ((s5.trans s6) _ _ e34)),?_⟩⟩;have s56:=s5.trans s6;rw[ab,ab];have wsub:∀ x∈ws,x∈B4 bs p:=fun x hx=>by
    cases (hwm x).mp hx with
    | base=>exact hu
    | step _ _ h=>exact h
   have hwl:=U1 (C7 hwr) wsub;refine R7 (fun h=>?_) fun h=>?_
   ·have h:ws.length<(B4 bs p).length:=by have:=of_decide_eq_true h;omega
    refine⟨.inl ⟨rfl,_,SqL.of (s56 _ _ e4)⟩,lt,rfl,_,.inl ⟨SqL.of e6,fun l7 m7=>A1 m7 fun H7 s7 e7=>⟨by decide,fun l8 m8=>A1 m8 fun H8 s8 e8=>?_⟩⟩⟩;have s58:=(s56.trans s7).trans s8;have e48:=s58 _ _ e4;refine⟨_,e48,by rw[ab];exact B7 (by omega),hRR _ _ ⟨ys++[l8],_,rfl,fun b o hb e=>by rw[B2 hb];exact s58 _ _ e,by rw[A2,aJ];rfl,by rw[aE,bK];omega,fun y hy=>?_,fun _=>by simp⟩⟩;rcases ak.mp hy with hy | hy
    ·exact (hys y hy).tp (s58.tp.trans (Tp.lst e48))
    ·rw[ah.mp hy];refine .parts (Tp.lst e48 _ _ e8) (Tp.lst e48 _ _ (s8 _ _ e7)) ⟨fun e=>?_,hwr,fun x hx=>C1.mp (wsub x hx),?_,fun x hx y hy hyb hyp=>(hwm y).mpr (.step ((hwm x).mp hx) hy (C1.mpr ⟨hyb,hyp⟩))⟩
     ·have:=(hwm u).mpr .base;rw[e] at this;cases this
     ·refine aZ fun hno=>?_
      have:=U1 (C7 hLu) (l:=ws) fun x hx=>aZ fun hx2=>hno ⟨x,(C1.mp hx).1,(C1.mp hx).2,hx2⟩
      omega
   ·have h:(B4 bs p).length<=ws.length:=by
     rcases cc ws.length (B4 bs p).length with k | k
     ·exact absurd (decide_eq_true (by omega)) h
     ·exact k
    refine hRR _ _ ⟨ys,_,rfl,fun b o _ e=>s56 _ _ e,s56 _ _ e4,by omega,fun y hy=>(hys y hy).tp s56.tp,fun hL=>hyO fun hO=>(hkeep hL hO).2 ?_⟩;refine a1v hok.rng hu fun y hy=>(hwm y).mp ?_
    refine aZ fun hy2=>?_
    have h5:=U1 (l:=B4 bs p) (cf.mpr ⟨hy2,C7 hwr⟩) fun x hx=>by
     rcases aD.mp hx with rfl | hx
     ·exact hy
     ·exact wsub x hx
    rw[aH] at h5;omega
  rintro σ H5 ⟨zs,c,rfl,k5,e5,hzl,hzs,hzn⟩;have nls0:H ls=none:=(k1.trans (s2.trans s3).kp).free (d1.same (s2.trans s3)) m4;have kp5:Kp d H H5:=fun b o hb e=>k5 _ _ (fun z=>by rw[z,nls0] at e;cases e) (k4 _ _ hb e)
  have d5:K5 H5 d:=by
   obtain⟨ds,e,h⟩:=d4;exact⟨ds,k5 _ _ lsd.symm e,h⟩
  have lr5:=k5 _ _ lrls e34;walk_at "rd";refine⟨by decide,fun l6 m6=>A1 m6 fun H6 s6 e6=>b3B (s6 _ _ e5) (fun v hv=>?_) e6 fun b hb=>⟨b,rfl,?_⟩⟩
  ·obtain⟨y,hy,rfl⟩:=bD.mp hv;exact a9n (a4g ((hzs y hy).tp s6.tp) (by omega) h60 hbr)
  rw[List.map_eq_nil_iff] at hb;have hE0:zs=[]->B4 bs p≠[]:=fun ez e=>hzn (fun hB'=>by rw[e] at hB';exact hB'.1.1 rfl) ez
  cases b with
  | true =>
   rw[if_pos rfl];refine⟨by decide,fun a1 n1=>A1 n1 fun H7 s7 e7=>a8P ((s6.trans s7) _ _ lr5) fun a2 H8 n8 s8 e8=>⟨a2,rfl,_,.inl ⟨SqL.of e8,fun a3 n3=>A1 n3 fun H9 s9 e9=>⟨by decide,fun a4 n4=>A1 n4 fun HA sA eA=>⟨by decide,fun a5 n5=>A1 n5 fun HB sB eB=>⟨by decide,_,SqL.of eB,?_⟩⟩⟩⟩⟩⟩;obtain⟨v,hv,ev⟩:=a1F (xs:=[V.ref a1,V.ref a4]) (k:=z % 2) (bE z (by decide)) (bn z (by decide));refine⟨v,ev,?_⟩;have sAB:=sA.trans sB;have s8B:=s8.trans (s9.trans sAB);have s5B:=(s6.trans s7).trans s8B;obtain⟨cs,ec,hcm,hcl⟩:=a3d V.int (B4 bs p) none (some 1);have hp0:=hbr p hp;have hcn:cs≠[]:=fun e0=>by
    rw[e0,b1I _ (by decide)] at ec;have e1:(B4 bs p).take 1=[]:=List.map_eq_nil_iff.mp ec;have e2:B4 bs p=[]:=by
     cases hl0:B4 bs p with
     | nil=>rfl
     | cons x r=>rw[hl0] at e1;cases e1
    exact hE0 (hb.mp rfl) e2
   rw[ec] at e9;have hX:∃ t,v=.ref t/\NdX HB t:=by
    simp only[aD,aW,or_false] at hv;rcases hv with rfl | rfl
    ·exact⟨a1,rfl,.inl ⟨p,s8B _ _ e7,hp0.1,by omega⟩⟩
    ·exact⟨a4,rfl,.inr ⟨a3,cs,sB _ _ eA,sAB _ _ e9,by omega,fun y hy=>by (have:=hLr y (hcm y hy);omega),hcn⟩⟩
   obtain⟨t,rfl,hX⟩:=hX;exact q t HB (kp5.trans s5B.kp) (d5.same s5B) hX fun hL=>absurd (hb.mp rfl) (hzn hL)
  | false =>
   rw[if_neg (by decide)];refine E6 (d5.same s6) fun z2 H7 k7 d7 _=>?_
   have e57:=k7 _ _ lsd (s6 _ _ e5);have hz0:zs≠[]:=fun e=>by cases hb.mpr e
   have hz1:=cO.mpr hz0;obtain⟨v,hv,ev⟩:=a1j (xs:=zs.map V.ref) (by rw[ab];exact hz1) z2;obtain⟨y,hy,rfl⟩:=bD.mp hv;have hy7:=(hzs y hy).tp (s6.tp.trans (k7.tp (d5.same s6)));exact⟨_,.inl (SqL.of e57),z2,rfl,by rw[ab];omega,_,SqL.of e57,_,ev,q y H7 ((kp5.trans s6.kp).trans k7) d7 (a4g hy7 (by omega) h60 hbr) fun _=>hy7⟩
def a0A (K:ae):Sp:=fun vs H Q _=>∃(np:Addr) (as:List Addr) (n:Int) (ts:List (Int×Int)) (pb:Addr) (bs:List Int) (p:Int) (v:V) (T:String),vs=[.ref np,.ref pb,.int p,v]/\C2 H np as (E9 n ts)/\M4 n ts/\SqT K H pb (bs.map V.int)/\bs.length<=60/\bs.Pairwise (·<·)/\(∀ x∈bs,0<=x/\x<n)/\Pl H v T/\NdF H v/\∀(c:Bool) (H':Hp),A6 H H'->(c=true↔K1 H n ts bs p v)->Q (.bl c) H'
def b2Q (bs l:List Int)(p:Int):Prop:=∃ y∈bs,y≠p/\y∉l
def a8k (Hb:Hp)(np l3 lp:Addr)(ts:List (Int×Int))(os ws:List Int)(i:Nat)(τ:St)(Hc:Hp):Prop:=∃ c:Option V,τ=[c,some (.ref np),some (.ref l3)]/\A6 Hb Hc/\Hc lp=some (.lst (((ws.take i).filter fun x=>decide (((nb ts x).filter fun y=>decide (y∈os))≠[])).map V.int))
theorem a8s {f:Int->Bool}{l:List Int}{i:Nat}{x:Int}(h:l[i]?=some x):(l.take (i+1)).filter f=if f x=true then (l.take i).filter f++[x] else (l.take i).filter f:=by
 rw[L5 h,b9];by_cases k:f x=true
 ·rw[if_pos k];simp[k]
 ·rw[if_neg k];simp[k]
theorem a4a {p:Int}:∀ {l:List Int},l.Nodup->(∀ y,y∈l↔y=p)->l=[p]
 | [],_,h=>by have:=(h p).mpr rfl;cases this
 | [a],_,h=>by rw[(h a).mp (by simp)]
 | a::b::r,hn,h=>by
  have ha:=(h a).mp (by simp);have hb:=(h b).mp (by simp);rw[ha,hb] at hn;exact absurd (aN ..) (cf.mp hn).1
theorem b1h {K:ae}{H:Hp}{v:V}{w:Str}{Q:VK}(h:W1 H v)(sw:a4C w)(q:Q (.bl (!decide (v=.str w))) H):a1h K true v (.str w) H Q:=by
 obtain⟨d,h1,h2⟩:=h.nd (K:=K);refine⟨d,_,h1,.str w,h2,a4E sw,?_⟩;rw[a5V h1];exact q
theorem a0C:B9 ["_law_near_here","_law_busy_here","_law_place","_law_thing","_law_many","_law_others"] ["_law_near_here","_law_busy_here","_law_place","_law_thing"] (A7 (top 37)):=by walk_at "s"
theorem a4c (F:Fun K "_law_is_need" "_law_is_need" (top 37) f fd)(B:Bt mg)(D1:Df K mg "_law_is_int" st1 f1 fd1 ["_law_thing","_law_least","_law_most"])(G1:B6 P w K mg base CX0 1 f1 fd1 ["_law_thing","_law_least","_law_most"] a0q)(D2:Df K mg "_law_lot" st2 f2 fd2 ["_law_near_here","_law_p"])(G2:B6 P w K mg base CX0 1 f2 fd2 ["_law_near_here","_law_p"] (a2z K))(D3:Df K mg "_law_is_places" st3 f3 fd3 ["_law_thing","_law_many"])(G3:B6 P w K mg base CX0 2 f3 fd3 ["_law_thing","_law_many"] (a3z K))(C:Bt2 mg):B6 P w K mg base CX0 3 f fd ["_law_near_here","_law_busy_here","_law_place","_law_thing"] (a0A K):=by
 refine F.ok a0C (fun vs H Q E h=>?_) (fun cdv A outer s H vs Q E hr h=>?_)
 ·walk_at "h"
 ·obtain⟨np,as,n,ts,pb,bs,p,v,T,rfl,hR,hok,hpb,hbl,hbs,hbr,hv,hF,q⟩:=h;have nd:=a0C.nd;have hu:=J1 hr
  refine⟨_,((B8 (i:=4) nd rfl (.inl rfl) (A5 (N5 K) (by rfl) B.len aR ((pv 0)<*>A0)))<*
    ((@J8 _ _ _ _ _ _ _ _ (PW.pt (V7 (N9 (M5 (A5 (a0u K) (by rfl) C.isinstance cq ((pv 3)<*>((U3 (by rfl) B.tuple cE)<*>A0))))) (T9 (B0 a0g (A5 (N5 K) (by rfl) B.len aR ((pv 3)<*>A0)) A3 (B5 _)))))
     (@A4 _ _ _ (B1 L0))
     C6)<*
     ((@J8 _ _ _ _ _ _ _ _ (B0 (a0v K hr.units) ((pv 3)*>A3) M0 (B5 _))
     ((@J8 _ _ _ _ _ _ _ _ (N9 (M5 (A9 G1 D1 hr.m (((pv 3)*>A3)<*>(A3<*>(((pv 4)^^^A3)<*>A0))))))
      (@A4 _ _ _ (B1 L0))
      C6)<*
      (@A4 _ _ _ (B1 (M1 (a0v K hr.units) (I0 (own:=["_law_k"]) (fr:=[("_law_busy_here",1)]) rfl (by walk_at "w") (B3 rfl rfl C0) (J3 K (A9 G2 D2 hr.m ((pv 0)<*>(((pv 3)*>A3)<*>A0)))) ⟨fun _ _ _ _=>⟨(A8 (i:=0) (show bu (["_law_k","_law_busy_here"]:List Str) by decide +kernel) rfl (.inl rfl)),(K6 (B0 (V1 K) (pv 0) (pv 1) (by walk_at "w"))),(pv 0)⟩⟩) (@D0 _ _ _ _ ((pv 2)<*>A0)) (B5 _)))))
     C6)<*
     ((@J8 _ _ _ _ _ _ _ _ (PW.pt (V7 (B0 (a2S K hr.units) ((pv 3)*>A3) M0 (B5 _)) (V7 (N9 (M5 (A9 G3 D3 hr.m (((pv 3)*>A3)<*>((pv 4)<*>A0))))) (T9 (B0 (a0v K hr.units) ((pv 3)*>A3) (@C9 _ _ _ _ _ A0) (B5 _))))))
     (@A4 _ _ _ (B1 L0))
     C6)<*
     ((B8 (i:=5) nd rfl (.inr rfl) (I0 (own:=["_law_k"]) (fr:=[("_law_place",2),("_law_thing",3)]) rfl (by walk_at "w") (B3 rfl rfl (B3 rfl rfl C0)) (L9 K (pv 1)) ⟨fun _ _ _ _=>⟨(A8 (i:=0) (show bu (["_law_k","_law_place","_law_thing"]:List Str) by decide +kernel) rfl (.inl rfl)),(K6 (PW.pt (a2E (B0 a0g (pv 0) (pv 1) (B5 _)) (a0K (B0 (O0 K) (pv 0) ((pv 2)*>A3) (by walk_at "w")))))),(pv 0)⟩⟩))<*
    ((@J8 _ _ _ _ _ _ _ _ (PW.pt (V7 (B0 (a0v K hr.units) (pv 5) (@D0 _ _ _ _ A0) (B5 _)) (T9 (B0 (a2S K hr.units) (I0 (own:=["_law_k"]) (fr:=[("_law_busy_here",1),("_law_place",2)]) rfl (by walk_at "w") (B3 rfl rfl (B3 rfl rfl C0)) (L9 K ((pv 3)*>A3)) ⟨fun _ _ _ _=>⟨(A8 (i:=0) (show bu (["_law_k","_law_busy_here","_law_place"]:List Str) by decide +kernel) rfl (.inl rfl)),(K6 (PW.pt (V7 (B0 a0h (pv 0) (pv 2) (B5 _)) (T9 (B0 (O0 K) (pv 0) (pv 1) (by walk_at "w")))))),(pv 0)⟩⟩) (@D0 _ _ _ _ A0) (B5 _)))))
     (@A4 _ _ _ (B1 L0))
     C6)<*
     (@A4 _ _ _ (B1 (M1 (a0v K hr.units) (I0 (own:=["_law_k"]) (fr:=[("_law_near_here",0),("_law_others",5)]) rfl (by walk_at "w") (B3 rfl rfl (B3 rfl rfl C0)) (L9 K ((pv 3)*>A3)) ⟨fun _ _ _ _=>⟨(A8 (i:=0) (show bu (["_law_k","_law_near_here","_law_others"]:List Str) by decide +kernel) rfl (.inl rfl)),(K6 (B0 (a2S K hr.units) (I0 (own:=["_law_other"]) (fr:=[("_law_others",2)]) rfl (by walk_at "w") (B3 rfl rfl C0) (J3 K ((pv 1)<|>(pv 0))) ⟨fun _ _ _ _=>⟨(A8 (i:=0) (show bu (["_law_other","_law_others"]:List Str) by decide +kernel) rfl (.inl rfl)),(K6 (B0 (V1 K) (pv 0) (pv 1) (by walk_at "w"))),(pv 0)⟩⟩) (@D0 _ _ _ _ A0) (B5 _))),(pv 0)⟩⟩) (@D0 _ _ _ _ A0) (B5 _)))))))))),?_⟩
  walk_at "rd";have h3:=hok.n3;have h60:=hok.n60;have hl:=hok.len;have no:∀ {H'},A6 H H'->¬ K1 H n ts bs p v->Q (.bl false) H':=fun s h=>q false _ s ⟨fun h=>(by cases h),fun h'=>absurd h' h⟩
  refine⟨_,.inl (SqL.of hR.top),?_⟩;have hnl:(((as.map V.ref).length:Nat):Int)=n:=by
   rw[ab,hR.len,J9];omega
  rw[hnl];refine⟨_,_,⟨rfl,rfl⟩,_,hv.ty,_,K3 hv (.inr (.inr rfl)),?_⟩;cases h1:a1t T "tuple" with
  | false =>
   rw[if_pos (by rfl)];refine no (A6.refl H) fun h=>?_
   have:∃ t xs,v=.ref t/\H t=some (.tup xs):=by
    cases h with
    | own e _ _ _=>exact⟨_,_,rfl,e⟩
    | parts e _ _=>exact⟨_,_,rfl,e⟩
   obtain⟨t,xs,rfl,h2⟩:=this;cases hv with
   | lst e=>rw[e] at h2;cases h2
   | tup e=>cases h1
   | dK e=>rw[e] at h2;cases h2
   | dT e=>rw[e] at h2;cases h2
  | true =>
   rw[if_neg (by decide)];cases hv with
   | @tup t xs e =>
    have a7W:K1 H n ts bs p (.ref t)->xs.length=2:=fun h=>by
     cases h with
     | own e2 _ _ _=>rw[e] at e2;cases e2;rfl
     | parts e2 _ _=>rw[e] at e2;cases e2;rfl
    refine⟨t,rfl,_,.inr (SqT.of e),?_⟩;by_cases hx2:xs.length=2
    ·obtain⟨v0,v1,T1,rfl,hv0,hv1,hd1,hl1⟩:=hF t xs rfl e hx2;rw[if_neg (by simp)];refine⟨t,rfl,_,SqT.of e,_,rfl,a4Z hv0 (show PyData.strOk _=true by decide +kernel) ⟨_,rfl,?_⟩⟩;by_cases e0:v0=.str "own"
     ·subst e0;rw[if_pos (by simp)];refine⟨t,rfl,_,SqT.of e,_,rfl,v1,T1,0,n-1,rfl,hv1,⟨_,rfl,?_⟩⟩;cases hb:T0 v1 0 (n-1) with
      | false =>
       rw[if_pos (by decide)];refine no (A6.refl H) fun h=>?_
       cases h with
       | own e2 x0 x1 h =>
        rw[e] at e2;cases e2;rw[a6b x0 x1] at hb;cases hb
       | parts e2 _ _=>rw[e] at e2;cases e2
      | true =>
       obtain⟨x,rfl,x0,x1⟩:=a1E hb;rw[if_neg (by decide)];refine⟨t,rfl,_,SqT.of e,_,rfl,np,as,n,ts,x,rfl,hR,hok,x0,x1,fun l ls H1 s1 n1 e1 hpm hll=>?_⟩;refine⟨l,rfl,⟨_,SqL.of e1⟩,fun l2 n2=>U4 V.int (fun y=>decide (y∈bs)) V.int (by omega) (SqL.of e1) n2 ?_ ?_⟩
       ·intro y hy v ys R hys hR1 hR2;walk_at "rd";exact Z5 (.inr ((s1.upd (s1.free n2)).seqT hpb)) ⟨_,rfl,M2 rfl hys (by omega) hR1 hR2⟩
       ·refine A1 n2 fun H2 s2 e2=>⟨by decide,fun l3 n3=>A1 n3 fun H3 s3 e3=>a6I (ms:=[p]) (SqL.of (s3 _ _ e2)) (SqL.of e3) ?_⟩
        have hnd:(nb ts x++[x]).Nodup:=by
         rw[cN]
         exact⟨C7 (a7R hok.rng hok.srt x),by simp,fun a ha b hb e=>by
          rw[ah.mp hb] at e
          exact (W8 hok.rng ha).2.2.2.2 e⟩
        have hm:∀ y,(y∈ls.filter fun y=>decide (y∈bs))↔y∈V5 ts bs x:=fun y=>by
         unfold V5;rw[bd,bd,hpm.mem_iff];simp[or_comm,and_comm]
        refine q _ H3 ((s1.trans s2).trans s3) ?_;rw[decide_eq_true_iff];constructor
        ·intro h;refine .own e x0 x1 (a4a ((C7 hbs).sublist cF) fun y=>?_);rw[<- hm,h];simp
        ·intro h;cases h with
         | own e4 _ _ hal =>
          rw[e] at e4;cases e4;refine a4a ((hpm.nodup_iff.mpr hnd).sublist cF) fun y=>?_
          rw[hm,hal];simp
         | parts e4 _ _=>rw[e] at e4;cases e4
     ·rw[if_neg (by simp[e0])];refine⟨t,rfl,_,SqT.of e,_,rfl,b1h hv0 (show PyData.strOk _=true by decide +kernel) ⟨_,rfl,?_⟩⟩;by_cases e1:v0=.str "parts"
      ·subst e1;rw[if_neg (by simp)];have nop:∀ {H'},A6 H H'->(∀ a l,v1=.ref a->H a=some (.tup (l.map V.int))->¬ V6 ts bs p l)->Q (.bl false) H':=fun s h=>no s fun h'=>by
        cases h' with
        | own e2 _ _ _=>rw[e] at e2;cases e2
        | parts e2 ea hP=>rw[e] at e2;cases e2;exact h _ _ rfl ea hP
       refine⟨t,rfl,_,SqT.of e,_,rfl,v1,T1,n,rfl,hv1,hd1,hl1,fun b H1 s1 hb=>⟨b,rfl,?_⟩⟩;cases b with
       | false =>
        rw[if_pos (by decide)];refine nop s1 fun a l ev ea hP=>?_
        cases hb.mpr ⟨l,a,ev,ea,fun x hx=>hbr x (hP.sub x hx).1,hP.up⟩
       | true =>
       rw[if_neg (by decide)];obtain⟨l,a,rfl,ea,hlr,hup⟩:=hb.mp rfl;have nop:∀ {H'},A6 H H'->¬ V6 ts bs p l->Q (.bl false) H':=fun s h=>nop s fun a' l' ev ea' hP=>by
        cases ev;rw[ea] at ea';have:l=l':=X4 (HO.tup.inj (aG ea'));exact h (this ▸ hP)
       have hll:=M6 (C7 hup) hlr;refine⟨t,rfl,_,SqT.of (s1 _ _ e),_,rfl,by decide,fun p6 n6=>A1 n6 fun H2 s2 e2=>b1D (ms:=[]) (SqT.of ((s1.trans s2) _ _ ea)) (SqT.of e2) ⟨_,rfl,?_⟩⟩;have s12:=s1.trans s2;by_cases hne:l=[]
       ·rw[if_pos (by simp[hne])];exact nop s12 fun h=>h.ne hne
       rw[if_neg (by simpa using hne)];refine⟨⟨_,s12.seqT hpb⟩,fun l3 n3=>U9 V.int (fun x=>decide (x≠p) && !decide (x∈l)) V.int (by omega) (s12.seqT hpb) n3 ?_ ?_⟩
       ·intro x hx v ys R hys hR1 hR2;walk_at "rd";by_cases hxp:x=p
        ·rw[if_neg (by simp[hxp])];exact hR2 (by simp[hxp]) _
        ·rw[if_pos (by simp[hxp])];have sx:=s12.upd (o:=.lst ys) (s12.free n3);exact⟨_,SqT.of (sx _ _ e),_,rfl,P9 (.inr (SqT.of (sx _ _ ea))) ⟨_,rfl,M2 (by simp[hxp]) hys (by omega) hR1 hR2⟩⟩
       ·refine A1 n3 fun H3 s3 e3=>?_
        have hrest:(bs.filter fun x=>decide (x≠p) && !decide (x∈l))≠[]↔b2Q bs l p:=by
         constructor
         ·intro h;obtain⟨y,hy⟩:=dA _ h;obtain⟨h1,h2⟩:=bd.mp hy;simp at h2;exact⟨y,h1,h2⟩
         ·rintro⟨y,y1,y2,y3⟩ e0;have:y∈bs.filter fun x=>decide (x≠p) && !decide (x∈l):=bd.mpr ⟨y1,by simp[y2,y3]⟩
          rw[e0] at this;cases this
        have hmo:∀ y,(y∈bs.filter fun x=>decide (x≠p) && !decide (x∈l))↔y∈bs/\y≠p/\y∉l:=fun y=>by rw[bd];simp
        generalize (bs.filter fun x=>decide (x≠p) && !decide (x∈l))=os at e3 hrest hmo;refine⟨by decide,fun l4 n4=>A1 n4 fun H4 s4 e4=>a6I (ms:=[]) (SqL.of (s4 _ _ e3)) (SqL.of e4) ⟨_,rfl,?_⟩⟩;have s14:=(s12.trans s3).trans s4;by_cases ho:os=[]
        ·rw[if_pos (by simp[ho])];exact nop s14 fun h=>hrest.mpr h.rest ho
        rw[if_neg (by simpa using ho)];refine⟨t,rfl,_,SqT.of (s14 _ _ e),_,rfl,a,rfl,⟨_,SqT.of (s14 _ _ ea)⟩,fun l5 n5=>U9 V.int (fun x=>decide (x=p) || !decide (x∈bs)) V.int (by omega) (SqT.of (s14 _ _ ea)) n5 ?_ ?_⟩
        ·intro x hx v ys R hys hR1 hR2;walk_at "rd";by_cases hxp:x=p
         ·rw[if_pos (by simp[hxp])];exact a0P hys (by omega) fun _=>hR1 (by simp[hxp])
         ·rw[if_neg (by simp[hxp])];have sx:=s14.upd (o:=.lst ys) (s14.free n5);exact P9 (.inr (sx.seqT hpb)) ⟨_,rfl,M2 (by simp[hxp]) hys (by omega) hR1 hR2⟩
        ·refine A1 n5 fun H5 s5 e5=>?_
         refine⟨by decide,fun l6 n6=>A1 n6 fun H6 s6 e6=>a4S (ms:=[]) (SqL.of (s6 _ _ e5)) (SqL.of e6) ⟨_,rfl,?_⟩⟩;have s16:=(s14.trans s5).trans s6;by_cases hZ:(l.filter fun x=>decide (x=p) || !decide (x∈bs))=[]
         ·rw[if_neg (by simp[hZ])];have hsub:∀ x∈l,x∈bs/\x≠p:=fun x hx=>by
           have:=dl.mp hZ x hx;simp at this;exact⟨this.2,this.1⟩
          have s36:=(s4.trans s5).trans s6;refine⟨t,rfl,_,SqT.of (s16 _ _ e),_,rfl,a,rfl,⟨_,SqT.of (s16 _ _ ea)⟩,fun l7 n7=>a1s (K:=K) (xs:=l.map V.int) (a8k H6 np l3 l7 ts os l) ⟨none,rfl,(A6.refl H6).upd n7,A2⟩ ?_ ?_ ?_⟩
          ·rintro i τ Hc _ ⟨_,rfl,sc,_⟩;exact SqT.of ((s16.trans sc) _ _ ea)
          ·rintro i v τ Hc hv ⟨c,rfl,sc,hc⟩;rw[aF] at hv;cases hx0:l[i]? with
           | none=>rw[hx0] at hv;cases hv
           | some x =>
           rw[hx0] at hv;cases aG hv;have hil:=(aA.mp hx0).1;have hxm:=aI hx0;obtain⟨x0,x1⟩:=hlr x hxm;have hRc:=hR.same (s16.trans sc);obtain⟨ra,_,g2,g3,_⟩:=hRc.get x0 (J2 x0 x1);have hnl:=W9 (ts:=ts) x;walk_at "rd";refine⟨_,SqL.of hRc.top,_,g2,ra,rfl,⟨_,SqL.of g3⟩,fun l8 n8=>U4 V.int (fun y=>decide (y∈os)) V.int (by omega) (SqL.of g3) n8 ?_ ?_⟩
           ·intro y hy v ys R hys hR1 hR2;walk_at "rd";exact Z5 (.inl (SqL.of (((s36.trans sc).upd ((s36.trans sc).free n8)) _ _ e3))) ⟨_,rfl,M2 rfl hys (by omega) hR1 hR2⟩
           ·refine A1 n8 fun H8 s8 e8=>?_
            refine⟨by decide,fun l9 n9=>A1 n9 fun H9 s9 e9=>a4S (ms:=[]) (SqL.of (s9 _ _ e8)) (SqL.of e9) ⟨_,rfl,?_⟩⟩;have hc9:=(s8.trans s9) _ _ hc;have esn:=a8s (f:=fun x=>decide (((nb ts x).filter fun y=>decide (y∈os))≠[])) hx0;refine R7 (fun h=>⟨_,hc9,by rw[ab];exact B7 (by have:=cb (fun x=>decide (((nb ts x).filter fun y=>decide (y∈os))≠[])) (l.take i);rw[bA] at this;omega),_,rfl,((sc.trans s8).trans s9).upd n7,?_⟩) fun h=>⟨_,rfl,(sc.trans s8).trans s9,?_⟩
            ·rw[A2,esn,if_pos (by simpa using h),aJ];rfl
            ·rw[hc9,esn,if_neg (by simpa using h)]
          ·rintro τ H7 ⟨c,rfl,s7,h7⟩;rw[ab,bq] at h7;refine⟨by decide,fun l8 n8=>A1 n8 fun H8 s8 e8=>a6I (ms:=[]) (SqL.of (s8 _ _ h7)) (SqL.of e8) ?_⟩;have hcut:(l.filter fun x=>decide (((nb ts x).filter fun y=>decide (y∈os))≠[]))=[]↔V6 ts bs p l:=by
            rw[dl];constructor
            ·intro h;refine⟨hne,hup,hsub,hrest.mp ho,fun x hx y hy yb yp=>aZ fun hn=>?_⟩;have h1:=h x hx;simp at h1;exact h1 y hy ((hmo y).mpr ⟨yb,yp,hn⟩)
            ·intro hP x hx;simp;intro y hy ho;obtain⟨y1,y2,y3⟩:=(hmo y).mp ho;exact y3 (hP.cut x hx y hy y1 y2)
           refine q _ H8 ((s16.trans s7).trans s8) ?_;rw[decide_eq_true_iff,hcut]
           exact⟨fun h=>.parts e ea h,fun h=>by
            cases h with
            | own e2 _ _ _=>rw[e] at e2;cases e2
            | parts e2 ea' hP =>
             rw[e] at e2;cases e2;rw[ea] at ea';have:l=_:=X4 (HO.tup.inj (aG ea'))
             exact this ▸ hP⟩
         ·rw[if_pos (by simpa using hZ)]
          exact nop s16 fun h=>hZ (dl.mpr fun x hx=>by
           obtain⟨x1,x2⟩:=h.sub x hx
           simp[x1,x2])
      ·rw[if_pos (by simp[e1])];refine no (A6.refl H) fun h=>?_
       cases h with
       | own e2 _ _ _=>rw[e] at e2;cases e2;exact e0 rfl
       | parts e2 _ _=>rw[e] at e2;cases e2;exact e1 rfl
    ·rw[if_pos (by simp;omega)];exact no (A6.refl H) fun h=>hx2 (a7W h)
   | _=>cases h1
def Y6 (K:ae):Sp:=fun vs H Q _=>∃(np:Addr) (as:List Addr) (n:Int) (ts:List (Int×Int)) (pb:Addr) (bs:List Int) (v:V) (T:String),vs=[.ref np,.ref pb,v]/\C2 H np as (E9 n ts)/\M4 n ts/\SqT K H pb (bs.map V.int)/\bs.length<=60/\bs.Pairwise (·<·)/\(∀ x∈bs,0<=x/\x<n)/\Pl H v T/\b1U H v/\∀(c:Bool) (H':Hp),A6 H H'->(c=true↔a2w H n ts bs v)->Q (.bl c) H'
def a8l (Hb:Hp)(pb np l:Addr)(n:Int)(ts:List (Int×Int))(bs:List Int)(xs:List V)(i:Nat)(τ:St)(Hc:Hp):Prop:=∃(c d:Option V) (us:List Bool),τ=[c,d,some (.ref pb),some (.ref np)]/\A6 Hb Hc/\Hc l=some (.lst (us.map V.bl))/\us.length=i/\(us.all id=true↔∀(j:Nat) z p,j<i->xs[j]?=some z->bs[j]?=some p->K1 Hb n ts bs p z)
theorem Y8:B9 ["_law_near_here","_law_busy_here","_law_thing"] ["_law_near_here","_law_busy_here","_law_thing"] (A7 (top 38)):=by walk_at "s"
theorem a1L (F:Fun K "_law_are_needs" "_law_are_needs" (top 38) f fd)(B:Bt mg)(D1:Df K mg "_law_is_need" st1 f1 fd1 ["_law_near_here","_law_busy_here","_law_place","_law_thing"])(G1:B6 P w K mg base CX0 3 f1 fd1 ["_law_near_here","_law_busy_here","_law_place","_law_thing"] (a0A K))(C:Bt2 mg):B6 P w K mg base CX0 4 f fd ["_law_near_here","_law_busy_here","_law_thing"] (Y6 K):=by
 refine F.ok Y8 (fun vs H Q E h=>?_) (fun cdv A outer s H vs Q E hr h=>?_)
 ·walk_at "h"
 ·obtain⟨np,as,n,ts,pb,bs,v,T,rfl,hR,hok,hpb,hbl,hbs,hbr,hv,hF,q⟩:=h;have nd:=Y8.nd;have hu:=J1 hr
  refine⟨_,((@J8 _ _ _ _ _ _ _ _ (PW.pt (V7 (N9 (M5 (A5 (a0u K) (by rfl) C.isinstance cq ((pv 2)<*>((U3 (by rfl) B.tuple cE)<*>A0))))) (T9 (B0 a0g (A5 (N5 K) (by rfl) B.len aR ((pv 2)<*>A0)) (A5 (N5 K) (by rfl) B.len aR ((pv 1)<*>A0)) (B5 _)))))
     (@A4 _ _ _ (B1 L0))
     C6)<*
     (@A4 _ _ _ (B1 (A5 (b2O K hr.hd) (by rfl) C.all boot_all ((I0 (own:=["_law_place","_law_need"]) (fr:=[("_law_busy_here",1),("_law_near_here",0)]) rfl (by walk_at "w") (B3 rfl rfl (B3 rfl rfl C0)) (a7r (K:=K) (by rfl) C.zip boot_zip ((pv 1)<*>((pv 2)<*>A0))) ⟨fun _ _ _ _=>⟨(T4 K (n:=2) rfl (K4 (A8 (i:=0) (show bu (["_law_place","_law_need","_law_busy_here","_law_near_here"]:List Str) by decide +kernel) rfl (.inl rfl)) (K4 (A8 (i:=1) (show bu (["_law_place","_law_need","_law_busy_here","_law_near_here"]:List Str) by decide +kernel) rfl (.inl rfl)) T3))),L7,(A9 G1 D1 hr.m ((pv 3)<*>((pv 2)<*>((pv 0)<*>((pv 1)<*>A0)))))⟩⟩)<*>A0))))),?_⟩
  walk_at "rd";have no:∀ {H'},A6 H H'->¬ a2w H n ts bs v->Q (.bl false) H':=fun s h=>q false _ s ⟨fun h=>(by cases h),fun h'=>absurd h' h⟩
  refine⟨_,_,⟨rfl,rfl⟩,_,hv.ty,_,K3 hv (.inr (.inr rfl)),?_⟩;cases h1:a1t T "tuple" with
  | false =>
   rw[if_pos (by rfl)];refine no (A6.refl H) fun ⟨t,xs,e,h2,_⟩=>?_
   subst e;cases hv with
   | lst e=>rw[e] at h2;cases h2
   | tup e=>cases h1
   | dK e=>rw[e] at h2;cases h2
   | dT e=>rw[e] at h2;cases h2
  | true =>
   rw[if_neg (by decide)];cases hv with
   | @tup pn xs ev =>
    have hF1:=hF pn xs rfl ev
    have iff0:a2w H n ts bs (.ref pn)↔xs.length=bs.length/\∀(i:Nat) z p,xs[i]?=some z->bs[i]?=some p->K1 H n ts bs p z:=⟨fun ⟨t',xs',e',e2,h⟩=>by
     cases e';rw[ev] at e2;cases e2
     exact h,fun h=>⟨pn,xs,rfl,ev,h⟩⟩
    refine⟨pn,rfl,_,.inr (SqT.of ev),_,.inr hpb,?_⟩;by_cases el:xs.length=bs.length
    ·rw[if_neg (by rw[ab,el];simp)];refine⟨pb,pn,⟨rfl,rfl⟩,⟨_,hpb⟩,⟨_,SqT.of ev⟩,fun l nl=>b1k (K:=K) (xs:=bs.map V.int) (ys:=xs) (a8l H pb np l n ts bs xs) ⟨none,none,[],rfl,(A6.refl H).upd nl,A2,rfl,⟨fun _ j z p hj=>absurd hj (cL _),fun _=>rfl⟩⟩ (by rw[ab];omega) ?_ ?_ ?_⟩
     ·rintro i τ Hc _ ⟨_,_,_,rfl,sc,_⟩;exact⟨sc.seqT hpb,SqT.of (sc _ _ ev)⟩
     ·rintro i x y τ Hc q0 hx hy ⟨c,d,us,rfl,sc,hc,hul,hus⟩ nq;rw[aF] at hx;cases hp0:bs[i]? with
      | none=>rw[hp0] at hx;cases hx
      | some p =>
      rw[hp0] at hx;cases aG hx;have hil:=(aA.mp hp0).1;refine A1 nq fun Hd sd ed=>?_
      have s2:=sc.trans sd;obtain⟨hFy,Ty,hPy⟩:=hF1 y (aI hy);walk_at "rd";refine⟨_,SqT.of ed,rfl,_,_,rfl,_,_,rfl,rfl,np,as,n,ts,pb,bs,p,y,Ty,rfl,hR.same s2,hok,s2.seqT hpb,hbl,hbs,hbr,hPy.mono s2,NdF.mono hFy hPy s2,fun b He se hb=>⟨_,(sd.trans se) _ _ hc,by rw[ab];exact B7 (by omega),_,_,us++[b],rfl,(s2.trans se).upd nl,by rw[A2,aJ];rfl,by rw[aE,hul];rfl,?_⟩⟩;rw[K1.iff hPy hFy s2] at hb;rw[List.all_append,bZ,hus];constructor
      ·rintro⟨h1,h2⟩ j z r hj hz hr;rcases cc j i with k | k
       ·exact h1 j z r k hz hr
       ·have ej:j=i:=by omega
        subst ej;rw[hy] at hz;rw[hp0] at hr;cases hz;cases hr;exact hb.mp (by simpa using h2)
      ·exact fun h=>⟨fun j z r hj=>h j z r (by omega),by simpa using hb.mpr (h i y p (by omega) hy hp0)⟩
     ·rintro τ H2 ⟨c,d,us,rfl,s2,e2,hul,hus⟩;refine⟨_,SqL.of e2,q _ H2 s2 ?_⟩;rw[hus,iff0];exact⟨fun h=>⟨el,fun i z p hz hp=>h i z p (aA.mp hz).1 hz hp⟩,fun h j z p _ hz hp=>h.2 j z p hz hp⟩
    ·rw[if_pos (by rw[ab];simp;omega)];exact no (A6.refl H) fun h=>el (iff0.mp h).1
   | _=>cases h1
def NdW (H:Hp)(z:V):Prop:=∀ t xs,z=.ref t->H t=some (.tup xs)->xs.length=2->∃ v0 v1,xs=[v0,v1]/\W1 H v0/\∀ a ys,v1=.ref a->H a=some (.tup ys)->ys.length<300
def NI (A:Addr->Prop)(H:Hp)(z:V):Prop:=(∃ c,Tg (hid A H) c 4 1400 z)/\NdW (hid A H) z
theorem NdW.in {H H':Hp}{z:V}{c k m:Nat}(h:NdW H z)(hg:Tg H c k m z)(s:A6 H H'):NdW H' z:=fun t xs e e2 hl=>by
 subst e;have e3:=a2x hg s e2;obtain⟨v0,v1,rfl,h0,h1⟩:=h t xs rfl e3 hl;refine⟨v0,v1,rfl,h0.same s,fun a ys ea eb=>?_⟩;subst ea;exact h1 a ys rfl (a2x (hg.items e3 (.ref a) (by simp)) s eb)
theorem NI.in {A A':Addr->Prop}{H H':Hp}{z:V}(h:NI A H z)(s:A6 (hid A H) (hid A' H')):NI A' H' z:=by
 obtain⟨⟨c,hc⟩,hw⟩:=h;exact⟨⟨c,hc.same s⟩,hw.in hc s⟩
theorem NdW.ndf {A:Addr->Prop}{H:Hp}{z:V}{c k m:Nat}(h:NdW (hid A H) z)(hg:Tg (hid A H) c k m z)(hd:Av A H):NdF H z:=fun t xs e e2 hl=>by
 subst e;have e3:hid A H t=some (.tup xs):=by rw[N0 (hd.tup e2)];exact e2
 obtain⟨v0,v1,rfl,h0,h1⟩:=h t xs rfl e3 hl;have g1:=(hg.items e3 v1 (by simp)).same Z6;obtain⟨T1,hp1⟩:=g1.pld (n:=1).pl;exact⟨v0,v1,T1,rfl,h0.same Z6,hp1,g1.pld,fun a ys ea eb=>h1 a ys ea (by rw[N0 (hd.tup eb)];exact eb)⟩
theorem a6a {H:Hp}{c k m M:Nat}{ys:List V}{es:List PyData}(h1:Dds H ys es)(h2:Ncs c k M es):∀ {xs:List V},(∀ x∈xs,Tg H c k m x)->∃ ds,Dds H (xs++ys) ds/\Ncs c k (xs.length*(m+1)+M) ds
 | [],_=>⟨es,h1,by simpa using h2⟩
 | x::r,h=>by
  obtain⟨d,a,b⟩:=h x (aN ..);obtain⟨ds,a2,b2⟩:=a6a h1 h2 (xs:=r) fun y hy=>h y (aM _ hy)
  refine⟨d::ds,.cons a a2,?_⟩;have:=Ncs.cons b b2;rw[show (x::r).length*(m+1)+M=m+1+(r.length*(m+1)+M) by rw[aH,g9];omega];exact this
theorem Tg.mid {H:Hp}{a:Addr}{c k m M:Nat}{xs ys:List V}{v:V}(e:H a=some (.tup (xs++[v]++ys)))(hx:∀ x∈xs,Tg H c k m x)(hy:∀ x∈ys,Tg H c k m x)(hv:Tg H c k M v):Tg H c (k+1) ((xs.length+ys.length)*(m+1)+(M+1)) (.ref a):=by
 obtain⟨es,b1,b2⟩:=a3c hy;obtain⟨d,c1,c2⟩:=hv;obtain⟨ds,d1,d2⟩:=a6a (.cons c1 b1) (Ncs.cons c2 b2) hx;rw[bB] at e;refine⟨_,.tup e d1,?_⟩;have:=Nc.tup d2;rw[show (xs.length+ys.length)*(m+1)+(M+1)=xs.length*(m+1)+(M+1+ys.length*(m+1)) by rw[Nat.add_mul];omega];exact this
theorem J5 {A:Addr->Prop}{G H:Hp}{a:Addr}{o:HO}(hd:Av A G)(n:G a=none)(e:H a=some o):hid A H a=some o:=by rw[N0 (hd.new n)];exact e
theorem b2t:Sm (10 ^ (60:Int).toNat):=⟨by decide +kernel,by rw[gQ];decide +kernel⟩
theorem R3 {A:Addr->Prop}{H:Hp}{p:Addr}{x:Str}{v:V}{c M:Nat}(e:hid A H p=some (.tup [.str x,v]))(hx:x="own"\/x="parts"\/x="Own")(hv:Tg (hid A H) c 3 M v)(hM0:5<=M)(hM:M<=600)(hl:∀ a ys,v=.ref a->hid A H a=some (.tup ys)->ys.length<300):NI A H (.ref p):=by
 refine⟨⟨c,(Tg.tup e fun y hy=>?_).mono (ao _) (show 2*(M+1)<=1400 by omega)⟩,fun t xs ee e2 _=>?_⟩
 ·simp only[aD,aW,or_false] at hy;rcases hy with rfl | rfl
  ·rcases hx with rfl | rfl | rfl<;>exact .str (by decide +kernel) (bj (by decide +kernel) hM0)
  ·exact hv
 ·cases ee;rw[e] at e2;cases e2;refine⟨_,_,rfl,.w0 (.str ?_),hl⟩;rcases hx with rfl | rfl | rfl<;>exact (show PyData.strOk _=true by decide +kernel)
def a3B (K:ae):Sp:=fun vs H Q _=>∃(A:Addr->Prop) (d:Addr) (m:Int) (pb:Addr) (bs:List Int) (t:Addr) (k:Int),vs=[.ref d,.int m,.ref pb,.ref t,.int k]/\K5 H d/\Av A H/\A d/\0<m/\m<=60/\H pb=some (.tup (bs.map V.int))/\bs≠[]/\bs.length<=60/\(∀ x∈bs,0<=x/\x<60)/\NdX H t/\12<=k/\k<=16 /\
 ∀(v:V) (H':Hp),Kp d H H'->K5 H' d->NI A H' v->Q v H'
theorem a1e:B9 ["_law_deck_here","_law_many","_law_busy_here","_law_need","_law_kind","_law_odd_here","_law_one","_law_side","_law_at"] ["_law_deck_here","_law_many","_law_busy_here","_law_need","_law_kind"] (A7 (top 41)):=by walk_at "s"
theorem a4Q (F:Fun K "_law_bent_item" "_law_bent_item" (top 41) f fd)(B:Bt mg)(D1:Df K mg "_law_next" st1 f1 fd1 ["_law_deck_here"])(G1:B6 P w K mg base CX0 1 f1 fd1 ["_law_deck_here"] P3)(D2:Df K mg "_law_odd" st2 f2 fd2 [])(G2:B6 P w K mg base CX0 1 f2 fd2 [] a4D)(C:Bt2 mg)(C5:Bt5 mg):B6 P w K mg base CX0 2 f fd ["_law_deck_here","_law_many","_law_busy_here","_law_need","_law_kind"] (a3B K):=by
 refine F.ok a1e (fun vs H Q E h=>?_) (fun cdv A outer s H vs Q E hr h=>?_)
 ·walk_at "h"
 ·obtain⟨Av0,d,m,pb,bs,t,k,rfl,dk,hd,hA,hm0,hm1,hpb,hbn,hbl,hbr,hN,hk0,hk1,q⟩:=h;have nd:=a1e.nd;have hu:=J1 hr
  refine⟨_,((B8 (i:=5) nd rfl (.inl rfl) (@K9 _ _ _ _ _ _ _ _ a0r (a5H G2 D2 hr.m) (@D0 _ _ _ _ ((W3 R9 A3)<*>((W3 R9 (pv 1))<*>((W3 R9 A3)<*>(L0<*>(L0<*>((@K9 _ _ _ _ _ _ _ _ a4K A3 A3)<*>((E1 a3e (by rfl) C5.str boot_str (((pv 2)*>A3)<*>A0))<*>((@C9 _ _ _ _ _ (((pv 2)*>A3)<*>A0))<*>((@D0 _ _ _ _ (((pv 2)*>A3)<*>A0))<*>((a2K (a1i ((pv 2)*>A3) A3 a2H) rfl rfl (by simp) (by decide))<*>A0)))))))))))))<*
    ((B8 (i:=6) nd rfl (.inl rfl) ((pv 5)<|>((A9 G1 D1 hr.m ((pv 0)<*>A0))&&&(A5 (N5 K) (by rfl) B.len aR ((pv 5)<*>A0)))))<*
    ((@J8 _ _ _ _ _ _ _ _ (B0 a0D (pv 4) A3 (B5 _))
     (@A4 _ _ _ (B1 ((@D0 _ _ _ _ ((@C9 _ _ _ _ _ (M0<*>((pv 6)<*>A0)))<*>((@C9 _ _ _ _ _ (M0<*>((pv 6)<*>A0)))<*>A0)))<|>((pv 4)^^^A3))))
     C6)<*
     ((@J8 _ _ _ _ _ _ _ _ (B0 a0h (pv 4) A3 (B5 _))
     (@A4 _ _ _ (B1 (@C9 _ _ _ _ _ (M0<*>(((W3 R9 A3)^^^((A9 G1 D1 hr.m ((pv 0)<*>A0))&&&(@K9 _ _ _ _ _ _ _ _ W6 A3 (pv 1))))<*>A0)))))
     C6)<*
     ((B8 (i:=7) nd rfl (.inl rfl) (@C9 _ _ _ _ _ (((pv 2)*>(W3 R9 A3))<*>A0)))<*
    ((@J8 _ _ _ _ _ _ _ _ (M5 (A5 (a0u K) (by rfl) C.isinstance cq (((pv 3)*>A3)<*>((U3 (by rfl) B.tuple cE)<*>A0))))
     (@A4 _ _ _ (B8 (i:=7) nd rfl (.inl rfl) ((pv 3)*>A3)))
     C6)<*
     ((B8 (i:=8) nd rfl (.inl rfl) ((A9 G1 D1 hr.m ((pv 0)<*>A0))&&&(A5 (N5 K) (by rfl) B.len aR ((pv 7)<*>A0))))<*
    (@A4 _ _ _ (B1 (@C9 _ _ _ _ _ (M0<*>((@K9 _ _ _ _ _ _ _ _ (a1A K) (@K9 _ _ _ _ _ _ _ _ (a1A K) (N4 (a3F K) (pv 7) Q3 (Q2 (pv 8))) (@C9 _ _ _ _ _ ((pv 6)<*>A0))) (N4 (a3F K) (pv 7) (Q2 ((pv 8)|||A3)) Q3))<*>A0)))))))))))),?_⟩
  simp only[L2.P7,st0,aL,cY,aH,cK,List.replicate,du,cR,Nat.reduceAdd,Nat.reduceSub];obtain⟨b0,br,rfl⟩:∃ b0 br,bs=b0::br:=by
   cases bs with
   | nil=>exact absurd rfl hbn
   | cons a r=>exact⟨a,r,rfl⟩
  have hb0:=hbr b0 (aN ..);refine J7 (fun σ Hc=>∃(lo:Addr) (xs:List V),σ=[some (.ref d),some (.int m),some (.ref pb),some (.ref t),some (.int k),some (.ref lo),none,none,none]/\A6 H Hc/\H lo=none/\Hc lo=some (.lst xs)/\0<xs.length/\xs.length<=40/\∀ x∈xs,∃ c,Tg (hid Av0 Hc) c 2 250 x) (fun R hRR=>?_) ?_
  ·walk_at "rd";refine⟨Av0,rfl,hd,fun po xs H1 s1 eo no hol hxs=>?_⟩;have pb1:=s1 _ _ hpb;refine⟨by unfold a9T;decide,_,SqT.of pb1,.int b0,N7 (j:=0) rfl,b0,rfl,(N3 hb0.1 (by omega)).1,_,SqT.of pb1,.int b0,N7 (j:=0) rfl,by decide,fun a1 n1=>A1 n1 fun H2 s2 e2=>⟨_,SqT.of (s2 _ _ pb1),.int b0,N7 (j:=0) rfl,by decide,fun a2 n2=>A1 n2 fun H3 s3 e3=>fun a3 n3=>A1 n3 fun H4 s4 e4=>⟨_,SqT.of ((s2.trans (s3.trans s4)) _ _ pb1),.int b0,N7 (j:=0) rfl,e4,[(.inl b0,.int 1)],rfl,(show 1<=15 by decide),by decide,?_⟩⟩⟩;generalize hH5:upd H4 a3 _=H5;have s5:A6 H3 H5:=hH5 ▸ s4.upd n3;have e5:H5 a3=some (.dK [(.inl b0,.int 1)]):=by rw[<- hH5,A2];rfl
   clear hH5 e4;intro a5 n5;refine A1 n5 fun H6 s6 e6=>?_
   have s26:=s3.trans (s5.trans s6);have s16:=s2.trans s26;refine⟨po,a5,_,_,rfl,rfl,s16 _ _ eo,e6,by refine cH (B7 ?_);show xs.length+10<=_;omega,fun lo nlo=>A1 nlo fun H7 s7 e7=>hRR _ _ ⟨lo,_,rfl,s1.trans (s16.trans s7),(s1.trans s16).free nlo,e7,by simp,by rw[aE];show xs.length+10<=40;omega,fun x hx=>?_⟩⟩;rcases ak.mp hx with hx | hx
   ·obtain⟨c,h⟩:=hxs x hx;exact⟨c,h.same (s16.trans s7).hid⟩
   ·have hd1:=hd.same s1;have f1:=J5 hd1 n1 ((s26.trans s7) _ _ e2);have f2:=J5 (hd1.same s2) n2 ((s5.trans (s6.trans s7)) _ _ e3);have f3:=J5 (hd1.same (s2.trans s3)) n3 ((s6.trans s7) _ _ e5);have one:∀ x∈[V.int b0],∀ c,Tg (hid Av0 H7) c 1 0 x:=fun x hx c=>by rw[ah.mp hx];exact .int (N3 hb0.1 (by omega))
    simp only[aD,aW,or_false] at hx;rcases hx with rfl | rfl | rfl | rfl | rfl | rfl | rfl | rfl | rfl | rfl
    ·exact⟨0,.int (P8 (by decide))⟩
    ·exact⟨0,.int (P8 (fj (show (-m).natAbs<1000 by omega) (by decide)))⟩
    ·exact⟨0,.int (P8 (by decide))⟩
    ·exact⟨0,.bl⟩
    ·exact⟨0,.bl⟩
    ·exact⟨0,.int b2t⟩
    ·exact⟨0,a9O hb0.1 (by omega) (by decide) _ _ _⟩
    ·exact⟨0,(Tg.tup f1 fun x hx=>one x hx 0).mono (by decide) (show 1*(0+1)<=250 by decide)⟩
    ·exact⟨2,(Tg.lst f2 fun x hx=>one x hx 2).mono (by decide) (show 1*(0+1)<=250 by decide)⟩
    ·exact⟨1,(Tg.dict1 (k:=1) (m:=0) f3 (N3 hb0.1 (by omega)) (P8 (by decide))).mono (by decide) (by decide)⟩
  rintro σ H1 ⟨lo,xs,rfl,s1,nlo,e1,hx0,hx1,hxs⟩;have d1:=dk.same s1;have lod:lo≠d:=dk.ne nlo;have hd1:=hd.same s1;refine J7 (fun σ Hc=>∃(v:V) (c:Nat),σ=[some (.ref d),some (.int m),some (.ref pb),some (.ref t),some (.int k),some (.ref lo),some v,none,none]/\Kp d H Hc/\K5 Hc d/\Av Av0 Hc/\Tg (hid Av0 Hc) c 2 250 v) (fun R hRR=>?_) ?_
  ·walk_at "rd";refine E6 d1 fun z H2 k2 d2 _=>?_
   have e2:=k2 _ _ lod e1;obtain⟨v,hv,ev⟩:=a1j hx0 z;obtain⟨c,hc⟩:=hxs v hv;exact⟨_,.inl (SqL.of e2),z,rfl,by omega,_,SqL.of e2,v,ev,hRR _ _ ⟨v,c,rfl,s1.kp.trans k2,d2,hd1.kp k2 d2,hc.same (k2.hid hA)⟩⟩
  rintro σ H2 ⟨v,c,rfl,k2,d2,hd2,hc⟩;clear hxs e1 s1 d1 hd1;have hlv:∀ a ys,v=.ref a->hid Av0 H2 a=some (.tup ys)->ys.length<300:=fun a ys e ea=>by
   subst e;have:=hc.len ea;omega
  have t2:=k2.tp dk;have pb2:=t2 _ _ hpb;have N2:=hN.tp t2;refine J7 (fun σ Hc=>14<=k/\σ=[some (.ref d),some (.int m),some (.ref pb),some (.ref t),some (.int k),some (.ref lo),some v,none,none]/\Hc=H2) (fun R hRR=>?_) ?_
  ·walk_at "rd"
   refine R7 (fun h=>?_) fun h=>hRR _ _ ⟨by
    rcases gp k 14 with h' | h'
    ·exact absurd (decide_eq_true h') h
    ·exact h',rfl,rfl⟩
   have h:=of_decide_eq_true h;refine⟨by decide,fun a1 n1=>A1 n1 fun H3 s3 e3=>⟨by decide,fun a2 n2=>A1 n2 fun H4 s4 e4=>⟨by decide,fun a3 n3=>A1 n3 fun H5 s5 e5=>⟨_,SqL.of e5,?_⟩⟩⟩⟩;obtain⟨u,hu,eu⟩:=a1F (xs:=[V.ref a1,V.ref a2]) (k:=k-12) (by omega) (by simp;omega);refine⟨u,eu,?_⟩;have s35:=s4.trans s5;have s25:=s3.trans s35;have hc5:=hc.same s25.hid;have hl5:∀ a ys,v=.ref a->hid Av0 H5 a=some (.tup ys)->ys.length<300:=fun a ys e ea=>by
    subst e;have:=hc5.len ea;omega
   refine q u H5 (k2.trans s25.kp) (d2.same s25) ?_;simp only[aD,aW,or_false] at hu;rcases hu with rfl | rfl
   ·exact R3 (J5 hd2 n1 (s35 _ _ e3)) (.inl rfl) (hc5.mono (by decide) (ao _)) (by decide) (by decide) hl5
   ·exact R3 (J5 (hd2.same s3) n2 (s5 _ _ e4)) (.inr (.inl rfl)) (hc5.mono (by decide) (ao _)) (by decide) (by decide) hl5
  rintro σ Hc ⟨k14,rfl,rfl⟩;refine J7 (fun σ H'=>σ=[some (.ref d),some (.int m),some (.ref pb),some (.ref t),some (.int k),some (.ref lo),some v,none,none]/\H'=Hc) (fun R hRR=>?_) ?_
  ·walk_at "rd";refine R7 (fun h=>?_) fun h=>hRR _ _ ⟨rfl,rfl⟩
   refine E6 d2 fun z H3 k3 d3 _=>⟨.inl ⟨by decide,by decide⟩,z,rfl,by omega,by decide,fun a1 n1=>A1 n1 fun H4 s4 e4=>?_⟩
   have o0:=bE z (b:=2*m) (by omega);have o1:=bn z (b:=2*m) (by omega);have hd3:=hd2.kp k3 d3;exact q _ H4 ((k2.trans k3).trans s4.kp) (d3.same s4) (R3 (c:=0) (M:=5) (J5 hd3 n1 e4) (.inl rfl) (.int (P8 (fj (show (-1-z % (2*m)).natAbs<1000 by omega) (by decide)))) (by decide) (by decide) fun a ys e=>nomatch e)
  rintro σ H' ⟨rfl,rfl⟩;obtain⟨bz,hbz,ebz⟩:=a4x (xs:=b0::br) (by simp);refine J7 (fun σ H3=>∃(sp:Addr),σ=[some (.ref d),some (.int m),some (.ref pb),some (.ref t),some (.int k),some (.ref lo),some v,some (.ref sp),none]/\A6 H' H3/\H3 sp=some (.tup [.int bz])) (fun R hRR=>?_) ?_
  ·walk_at "rd";exact⟨_,SqT.of pb2,_,ebz,by decide,fun a1 n1=>A1 n1 fun H3 s3 e3=>hRR _ _ ⟨a1,rfl,s3,e3⟩⟩
  rintro σ H3 ⟨sp,rfl,s3,e3⟩;refine J7 (fun σ Hc=>∃(sp:Addr) (ss:List Int),σ=[some (.ref d),some (.int m),some (.ref pb),some (.ref t),some (.int k),some (.ref lo),some v,some (.ref sp),none]/\Hc=H3/\H3 sp=some (.tup (ss.map V.int))/\ss.length<=60/\(∀ x∈ss,0<=x/\x<60)/\ss≠[]) (fun R hRR=>?_) ?_
  ·walk_at "rd";rcases N2.tp s3.tp with ⟨x,e,_⟩ | ⟨a,l,e,ea,hl,hlr,hln⟩
   ·refine⟨_,SqT.of e,_,rfl,_,_,⟨rfl,rfl⟩,_,(Pl.int x:Pl H3 _ _).ty,_,K3 (Pl.int x:Pl H3 _ _) (.inr (.inr rfl)),?_⟩;rw[if_neg (by decide)];exact hRR _ _ ⟨sp,[bz],rfl,rfl,e3,by show 1<=60;decide,fun y hy=>by rw[ah.mp hy];exact hbr bz hbz,by simp⟩
   ·refine⟨_,SqT.of e,_,rfl,_,_,⟨rfl,rfl⟩,_,(Pl.tup ea).ty,_,K3 (Pl.tup ea) (.inr (.inr rfl)),?_⟩;rw[if_pos (by decide)];exact⟨_,SqT.of e,_,rfl,hRR _ _ ⟨a,l,rfl,rfl,ea,hl,hlr,hln⟩⟩
  rintro σ H4 ⟨sp,ss,rfl,rfl,e4,hs1,hsr,hs0⟩;walk_at "rd";refine E6 (d2.same s3) fun z H5 k5 d5 _=>?_
  have e5:=k5.tp (d2.same s3) _ _ e4;have hsp:=cO.mpr hs0;have hd5:=(hd2.same s3).kp k5 d5;refine⟨_,.inr (SqT.of e5),z,rfl,by rw[ab];omega,?_⟩;generalize z % _=j;obtain⟨c1,f1,g1,l1⟩:=a3d V.int ss none (some j);obtain⟨c2,f2,g2,l2⟩:=a3d V.int ss (some (j+1)) none;refine T2 e5 fun a6 H6 s6 e6=>⟨by decide,fun a7 n7=>A1 n7 fun H7 s7 e7=>?_⟩
  rw[f1] at e6;refine S7 (s7 _ _ e6) e7 (by rw[ab];show c1.length+1<=10000;omega) fun a8 H8 s8 e8=>T2 ((s6.trans (s7.trans s8)) _ _ e5) fun a9 H9 s9 e9=>?_
  rw[f2] at e9;refine S7 (s9 _ _ e8) e9 (by rw[aE,ab,ab];show c1.length+1+c2.length<=10000;omega) fun a0 H0 s0 e0=>⟨by decide,fun p np=>A1 np fun Hx sx ex=>?_⟩
  have s5x:=s6.trans (s7.trans (s8.trans (s9.trans (s0.trans sx))));have hd0:=hd5.same (s6.trans (s7.trans (s8.trans (s9.trans s0))));have hcx:=((hc.same s3.hid).same (k5.hid hA)).same s5x.hid;have f0:hid Av0 Hx a0=some (.tup (c1.map V.int++[v]++c2.map V.int)):=by rw[N0 ((hd0.same sx).tup (sx _ _ e0))];exact sx _ _ e0
  have it:∀(us:List Int),(∀ x∈us,x∈ss)->∀ x∈us.map V.int,Tg (hid Av0 Hx) c 2 0 x:=fun us h x hx=>by
   obtain⟨i,hi,rfl⟩:=bD.mp hx;have:=hsr i (h i hi);exact .int (N3 this.1 (by omega))
  refine q _ Hx (((k2.trans s3.kp).trans k5).trans s5x.kp) (d5.same s5x) (R3 (c:=c) (M:=600) (J5 hd0 np ex) (.inr (.inl rfl)) ((Tg.mid f0 (it c1 g1) (it c2 g2) hcx).mono (ao _) ?_) (by decide) (by decide) fun a ys e ea=>?_)
  ·rw[ab,ab];omega
  ·cases e;rw[f0] at ea;cases ea;rw[aE,aE,ab,ab];show c1.length+1+c2.length<300;omega
def a0X (K:ae):Sp:=fun vs H Q _=>∃(A:Addr->Prop) (d:Addr) (m:Int) (pb:Addr) (bs:List Int) (t:Addr),vs=[.ref d,.int m,.ref pb,.ref t]/\K5 H d/\Av A H/\A d/\0<m/\m<=60/\H pb=some (.tup (bs.map V.int))/\bs≠[]/\bs.length<=60/\(∀ x∈bs,0<=x/\x<60)/\NdX H t /\
 ∀(v:V) (H':Hp),Kp d H H'->K5 H' d->NI A H' v->Q v H'
def b1w (Hb:Hp)(l d:Addr)(i:Nat)(τ:St)(Hc:Hp):Prop:=∃(c:Option V) (us:List Int),τ=[c,some (.ref d)]/\Kp d Hb Hc/\K5 Hc d/\Hc l=some (.lst (us.map V.int))/\us.length<=i/\∀ x∈us,0<=x/\x<60
theorem a9V {H:Hp}{us:List Int}{c:Nat}(h:∀ y∈us,0<=y/\y<60):∀ x∈us.map V.int,Tg H c 2 0 x:=fun x hx=>by
 obtain⟨i,hi,rfl⟩:=bD.mp hx;have:=h i hi;exact .int (N3 this.1 (by omega))
theorem U7 {A:Addr->Prop}{H:Hp}{a:Addr}{l:List Int}{c:Nat}(hd:Av A H)(e:H a=some (.tup (l.map V.int)))(h:∀ y∈l,0<=y/\y<60)(hl:l.length<=121):Tg (hid A H) c 3 121 (.ref a)/\∀ b ys,V.ref a=.ref b->hid A H b=some (.tup ys)->ys.length<300:=by
 have e':hid A H a=some (.tup (l.map V.int)):=by rw[N0 (hd.tup e)];exact e
 refine⟨(Tg.tup e' (a9V h)).mono (ao _) (by rw[ab];omega),fun b ys eb e2=>?_⟩;cases eb;rw[e'] at e2;cases e2;rw[ab];omega
theorem a7P {A:Addr->Prop}{H:Hp}{v:V}{c:Nat}(h:Tg (hid A H) c 4 1400 v)(hn:∀ t xs,v=.ref t->hid A H t=some (.tup xs)->xs.length≠2):NI A H v:=⟨⟨c,h⟩,fun t xs e e2 hl=>absurd hl (hn t xs e e2)⟩
theorem a1d:B9 ["_law_deck_here","_law_many","_law_busy_here","_law_need","_law_kind","_law_cell","_law_side"] ["_law_deck_here","_law_many","_law_busy_here","_law_need"] (A7 (top 42)):=by walk_at "s"
theorem a4P (F:Fun K "_law_bent_need" "_law_bent_need" (top 42) f fd)(B:Bt mg)(D1:Df K mg "_law_next" st1 f1 fd1 ["_law_deck_here"])(G1:B6 P w K mg base CX0 1 f1 fd1 ["_law_deck_here"] P3)(D2:Df K mg "_law_bent_item" st2 f2 fd2 ["_law_deck_here","_law_many","_law_busy_here","_law_need","_law_kind"])(G2:B6 P w K mg base CX0 2 f2 fd2 ["_law_deck_here","_law_many","_law_busy_here","_law_need","_law_kind"] (a3B K))(C:Bt2 mg):B6 P w K mg base CX0 3 f fd ["_law_deck_here","_law_many","_law_busy_here","_law_need"] (a0X K):=by
 refine F.ok a1d (fun vs H Q E h=>?_) (fun cdv A outer s H vs Q E hr h=>?_)
 ·walk_at "h"
 ·obtain⟨Av0,d,m,pb,bs,t,rfl,dk,hd,hA,hm,hm60,hpb,hbn,hbl,hbr,hN,q⟩:=h;have nd:=a1d.nd;have hu:=J1 hr
  refine⟨_,((B8 (i:=4) nd rfl (.inl rfl) ((A9 G1 D1 hr.m ((pv 0)<*>A0))&&&A3))<*
    ((@J8 _ _ _ _ _ _ _ _ (B0 a3Z (pv 4) A3 (B5 _))
     (@A4 _ _ _ (B1 (A9 G2 D2 hr.m ((pv 0)<*>((pv 1)<*>((pv 2)<*>((pv 3)<*>((pv 4)<*>A0))))))))
     C6)<*
     ((B8 (i:=5) nd rfl (.inl rfl) (A9 G1 D1 hr.m ((pv 0)<*>A0)))<*
    ((@J8 _ _ _ _ _ _ _ _ (B0 a0D (pv 4) A3 (B5 _))
     (@A4 _ _ _ (B1 (@C9 _ _ _ _ _ (M0<*>(((@D0 _ _ _ _ (((pv 5)&&&(pv 1))<*>((pv 1)<*>(L0<*>A0))))<|>(pv 4))<*>A0)))))
     C6)<*
     ((@J8 _ _ _ _ _ _ _ _ (B0 a0D (pv 4) A3 (B5 _))
     ((B8 (i:=6) nd rfl (.inl rfl) (E1 (S0 K) (by rfl) B.tuple cE ((I0 (own:=["_law_place"]) (fr:=[("_law_deck_here",0)]) rfl (by walk_at "w") (B3 rfl rfl C0) (L9 K (pv 2)) ⟨fun _ _ _ _=>⟨(A8 (i:=0) (show bu (["_law_place","_law_deck_here"]:List Str) by decide +kernel) rfl (.inl rfl)),(K6 (B0 a0h ((A9 G1 D1 hr.m ((pv 1)<*>A0))&&&A3) A3 (B5 _))),(pv 0)⟩⟩)<*>A0)))<*
     (@A4 _ _ _ (B1 (@C9 _ _ _ _ _ (M0<*>(((@D0 _ _ _ _ ((pv 6)<*>((a2J K (pv 6) (W3 R9 A3))<*>((E1 (a2g K) (by rfl) B.list ig ((pv 6)<*>A0))<*>A0))))<|>((pv 4)^^^A3))<*>A0))))))
     C6)<*
     ((@J8 _ _ _ _ _ _ _ _ (B0 a0D (pv 4) A3 (B5 _))
     (@A4 _ _ _ (B1 ((@D0 _ _ _ _ ((a2J K (pv 3) (W3 R9 A3))<*>((@K9 _ _ _ _ _ _ _ _ (a1A K) (pv 3) (@C9 _ _ _ _ _ (A3<*>A0)))<*>((E1 (a2g K) (by rfl) B.list ig ((pv 3)<*>A0))<*>(a7s<*>A0)))))<|>((pv 4)^^^A3))))
     C6)<*
     ((@J8 _ _ _ _ _ _ _ _ (M5 (A5 (a0u K) (by rfl) C.isinstance cq (((pv 3)*>A3)<*>((U3 (by rfl) B.tuple cE)<*>A0))))
     (@A4 _ _ _ (B1 (@C9 _ _ _ _ _ (((pv 3)*>A3)<*>(((@D0 _ _ _ _ ((N4 (a3F K) ((pv 3)*>A3) (Q2 A3) Q3)<*>((@K9 _ _ _ _ _ _ _ _ (a1A K) ((pv 3)*>A3) (N4 (a3F K) ((pv 3)*>A3) (Q2 (W3 R9 A3)) Q3))<*>A0)))<|>((pv 4)^^^A3))<*>A0)))))
     C6)<*
     (@A4 _ _ _ (B1 ((@D0 _ _ _ _ ((@C9 _ _ _ _ _ (M0<*>((@C9 _ _ _ _ _ (((pv 3)*>A3)<*>A0))<*>A0)))<*>((@C9 _ _ _ _ _ (M0<*>(((pv 3)*>A3)<*>A0)))<*>A0)))<|>((pv 4)^^^A3))))))))))),?_⟩
  simp only[L2.P7,st0,aL,cY,aH,cK,List.replicate,du,cR,Nat.reduceAdd,Nat.reduceSub];refine J7 (fun σ Hc=>∃ z:Int,σ=[some (.ref d),some (.int m),some (.ref pb),some (.ref t),some (.int z),none,none]/\0<=z/\z<17/\Kp d H Hc/\K5 Hc d) (fun R hRR=>?_) ?_
  ·walk_at "rd";exact E6 dk fun z H1 k1 d1 _=>⟨z,rfl,by decide,hRR _ _ ⟨z % 17,rfl,bE z (by decide),bn z (by decide),k1,d1⟩⟩
  rintro σ H1 ⟨k,rfl,o0,o1,k1,d1⟩;have hd1:=hd.kp k1 d1;have t1:=k1.tp dk;refine J7 (fun σ Hc=>σ=[some (.ref d),some (.int m),some (.ref pb),some (.ref t),some (.int k),none,none]/\Hc=H1/\k<12) (fun R hRR=>?_) ?_
  ·walk_at "rd"
   refine R7 (fun h=>?_) fun h=>hRR _ _ ⟨rfl,rfl,by
    rcases gp k 12 with h' | h'
    ·exact h'
    ·exact absurd (decide_eq_true (show 11<k by omega)) h⟩
   have h:=of_decide_eq_true h;exact⟨Av0,d,m,pb,bs,t,k,rfl,d1,hd1,hA,hm,hm60,t1 _ _ hpb,hbn,hbl,hbr,hN.tp t1,by omega,by omega,fun v H2 k2 d2 h2=>q v H2 (k1.trans k2) d2 h2⟩
  rintro σ H' ⟨rfl,rfl,k12⟩;refine J7 (fun σ Hc=>∃ z:Int,σ=[some (.ref d),some (.int m),some (.ref pb),some (.ref t),some (.int k),some (.int z),none]/\Kp d H Hc/\K5 Hc d) (fun R hRR=>?_) ?_
  ·walk_at "rd";exact E6 d1 fun z H2 k2 d2 _=>hRR _ _ ⟨z,rfl,k1.trans k2,d2⟩
  rintro σ H2 ⟨z2,rfl,kp2,d2⟩;have hd2:=hd.kp kp2 d2;have t2:=kp2.tp dk;have hpb2:=t2 _ _ hpb;have hN2:=hN.tp t2;clear k1 d1 hd1 t1;have q2:∀ {v:V} {H3:Hp},A6 H2 H3->NI Av0 H3 v->Q v H3:=fun {v H3} s h=>q v H3 (kp2.trans s.kp) (d2.same s) h
  have at2:∀ {G H3:Hp} {a:Addr} {o:HO},A6 H2 G->G a=none->H3 a=some o->hid Av0 H3 a=some o:=fun s n e=>J5 (hd2.same s) n e
  walk_at "rd";refine R7 (fun hk=>?_) fun hk=>?_
  ·have hk:=of_decide_eq_true hk;have y0:=bE z2 (b:=m) (by omega);have y1:=bn z2 (b:=m) (by omega);refine⟨hm,by decide,fun l1 n1=>A1 n1 fun H3 s3 e3=>⟨_,SqL.of e3,?_⟩⟩;obtain⟨v,hv,ev⟩:=a1F (xs:=[V.int (z2 % m),V.int m,V.bl true]) (k:=k) o0 (by simp;omega);refine⟨v,ev,by decide,fun t1 m1=>A1 m1 fun H4 s4 e4=>?_⟩;have hat:Tg (hid Av0 H4) 0 3 5 v/\∀ a,v≠.ref a:=by
    simp only[aD,aW,or_false] at hv;rcases hv with rfl | rfl | rfl
    ·exact⟨.int (N3 y0 (by omega)),fun a e=>by cases e⟩
    ·exact⟨.int (N3 (by omega) (by omega)),fun a e=>by cases e⟩
    ·exact⟨.bl,fun a e=>by cases e⟩
   exact q2 (s3.trans s4) (R3 (at2 s3 m1 e4) (.inl rfl) hat.1 (by decide) (by decide) fun a ys e=>absurd e (hat.2 a))
  have hk3:3<=k:=by
   rcases gp k 3 with h | h
   ·exact absurd (decide_eq_true h) hk
   ·exact h
  refine R7 (fun hk=>?_) fun hk=>?_
  ·have hk:=of_decide_eq_true hk;refine⟨⟨_,SqT.of hpb2⟩,fun l m3=>?_⟩;have ld:l≠d:=d2.ne m3;refine a1s (K:=K) (xs:=bs.map V.int) (b1w H2 l d) ⟨none,[],rfl,((A6.refl H2).upd m3).kp,d2.same ((A6.refl H2).upd m3),A2,ao _,fun x hx=>(by cases hx)⟩ ?_ ?_ ?_
   ·rintro i τ Hc _ ⟨_,_,rfl,kc,_⟩;exact SqT.of (kc.tp d2 _ _ hpb2)
   ·rintro i v τ Hc hv ⟨c,us,rfl,kc,dc,hlc,hul,hur⟩;rw[aF] at hv;obtain⟨x,hx,rfl⟩:=fT.mp hv;have hil:=(aA.mp hx).1;walk_at "rd";refine E6 dc fun z3 H3 k3 d3 _=>⟨z3,rfl,by decide,?_⟩
    have hl3:=k3 _ _ ld hlc;refine R7 (fun _=>⟨_,hl3,by rw[ab];exact B7 (by omega),_,us++[x],rfl,((kc.trans k3)).new m3,d3.new ld,by rw[A2,aJ];rfl,by rw[aE,bK];omega,fun y hy=>?_⟩) fun _=>⟨_,us,rfl,kc.trans k3,d3,hl3,by omega,hur⟩
    rcases ak.mp hy with hy | hy
    ·exact hur y hy
    ·rw[ah.mp hy];exact hbr x (aI hx)
   ·rintro τ H3 ⟨c,us,rfl,k3,d3,e3,hul,hur⟩;rw[ab] at hul;refine⟨_,.inl ⟨SqL.of e3,fun l4 m4=>A1 m4 fun H4 s4 e4=>⟨_,SqT.of e4,fun l5 m5=>A1 m5 fun H5 s5 e5=>⟨_,.inr (SqT.of (s5 _ _ e4)),fun l6 m6=>A1 m6 fun H6 s6 e6=>⟨by decide,fun l7 m7=>A1 m7 fun H7 s7 e7=>⟨_,SqL.of e7,?_⟩⟩⟩⟩⟩⟩;obtain⟨v,hv,ev⟩:=a1F (xs:=[V.ref l4,V.ref l5,V.ref l6]) (k:=k-3) (by omega) (by simp;omega);refine⟨v,ev,by decide,fun t1 m1=>A1 m1 fun H8 s8 e8=>?_⟩;have s78:=s7.trans s8;have s68:=s6.trans s78;have s58:=s5.trans s68;have s38:=s4.trans s58;have hd3:=hd2.kp k3 d3;have hd8:=hd3.same s38;rw[<- hU] at e5;have hur':∀ y∈us.reverse,0<=y/\y<60:=fun y hy=>hur y (hJ.mp hy)
    have e8':=J5 (hd3.same (s4.trans (s5.trans (s6.trans s7)))) m1 e8;refine q _ H8 (kp2.trans (k3.trans s38.kp)) (d3.same s38) ?_;simp only[aD,aW,or_false] at hv;rcases hv with rfl | rfl | rfl
    ·obtain⟨g1,g2⟩:=U7 (c:=0) hd8 (s58 _ _ e4) hur (by omega);exact R3 e8' (.inr (.inl rfl)) g1 (by decide) (by decide) g2
    ·obtain⟨g1,g2⟩:=U7 (c:=0) hd8 (s68 _ _ e5) hur' (by rw[eJ];omega);exact R3 e8' (.inr (.inl rfl)) g1 (by decide) (by decide) g2
    ·have e6':=J5 (hd3.same (s4.trans s5)) m6 (s78 _ _ e6);refine R3 (c:=2) (M:=60) e8' (.inr (.inl rfl)) ((Tg.lst e6' (a9V hur)).mono (ao _) (by rw[ab];omega)) (by decide) (by decide) fun a ys e ea=>?_
     cases e;rw[e6'] at ea;cases ea
  have hk6:6<=k:=by
   rcases gp k 6 with h | h
   ·exact absurd (decide_eq_true h) hk
   ·exact h
  obtain⟨w,y,eT,hw,hy⟩:∃(w:Str) (y:V),H2 t=some (.tup [.str w,y])/\(w="own"\/w="parts")/\((∃ x,y=.int x/\0<=x/\x<60)\/∃(a:Addr) (l:List Int),y=.ref a/\H2 a=some (.tup (l.map V.int))/\l.length<=60/\∀ i∈l,0<=i/\i<60):=by
   rcases hN2 with ⟨x,e,hx⟩ | ⟨a,l,e,e2,h,h2,_⟩
   ·exact⟨_,_,e,.inl rfl,.inl ⟨x,rfl,hx⟩⟩
   ·exact⟨_,_,e,.inr rfl,.inr ⟨a,l,rfl,e2,h,h2⟩⟩
  have hy3:∀ {H3:Hp} {c:Nat},A6 H2 H3->Tg (hid Av0 H3) c 3 121 y/\W1 (hid Av0 H3) y:=fun {H3 c} s=>by
   rcases hy with ⟨x,rfl,h0,h1⟩ | ⟨a,l,rfl,e2,hl,h⟩
   ·exact⟨.int (N3 h0 (by omega)),.w0 (.int x)⟩
   ·have e3:=s _ _ e2;exact⟨(U7 (hd2.same s) e3 h (by omega)).1,.tps (l:=l) (by rw[N0 ((hd2.same s).tup e3)];exact e3)⟩
  have hw3:∀ {H3:Hp} {c:Nat},Tg H3 c 3 121 (.str w):=fun {H3 c}=>by
   rcases hw with rfl | rfl<;>exact .str (by decide +kernel) (by decide +kernel)
  refine R7 (fun hk=>?_) fun hk=>?_
  ·have hk:=of_decide_eq_true hk;refine⟨_,SqT.of eT,fun a1 n1=>A1 n1 fun H3 s3 e3=>⟨by decide,fun a2 n2=>A1 n2 fun H4 s4 e4=>S7 ((s3.trans s4) _ _ eT) e4 (by show 2+1<=10000;decide) fun a5 H5 s5 e5=>⟨_,.inr (SqT.of (((s3.trans s4).trans s5) _ _ eT)),fun a6 n6=>A1 n6 fun H6 s6 e6=>⟨by decide,fun a7 n7=>A1 n7 fun H7 s7 e7=>⟨_,SqL.of e7,?_⟩⟩⟩⟩⟩;obtain⟨v,hv,ev⟩:=a1F (xs:=[V.ref a1,V.ref a5,V.ref a6,V.non]) (k:=k-6) (by omega) (by simp;omega);have s57:=s6.trans s7;have s37:=(s4.trans s5).trans s57;have s27:=s3.trans s37;have hd7:=hd2.same s27;refine⟨v,ev,q2 s27 ?_⟩;have both:∀ c,∀ x∈[V.str w,y],Tg (hid Av0 H7) c 3 121 x:=fun c x hx=>by
    simp only[aD,aW,or_false] at hx;rcases hx with rfl | rfl
    ·exact hw3
    ·exact (hy3 s27).1
   simp only[aD,aW,or_false] at hv;rcases hv with rfl | rfl | rfl | rfl
   ·have f3:hid Av0 H7 a1=some (.tup [y,.str w]):=at2 (A6.refl H2) n1 (s37 _ _ e3);refine⟨⟨0,(Tg.tup f3 fun x hx=>both 0 x (by simp only[aD,aW,or_false] at hx ⊢;exact hx.symm)).mono (ao _) (show 2*122<=1400 by decide)⟩,fun t' xs ee e2 _=>?_⟩;cases ee;rw[f3] at e2;cases e2;exact⟨_,_,rfl,(hy3 (c:=0) s27).2,fun a ys e=>nomatch e⟩
   ·have f5:hid Av0 H7 a5=some (.tup [.str w,y,.int 0]):=by rw[N0 (hd7.tup (s57 _ _ e5))];exact s57 _ _ e5
    refine a7P (c:=0) ((Tg.tup f5 fun x hx=>?_).mono (ao _) (show 3*122<=1400 by decide)) fun t' xs ee e2=>?_
    ·rcases aD.mp hx with rfl | hx
     ·exact hw3
     rcases aD.mp hx with rfl | hx
     ·exact (hy3 s27).1
     ·rw[ah.mp hx];exact .int (P8 (by decide))
    ·cases ee;rw[f5] at e2;cases e2;show ¬ 3=2;decide
   ·have f6:=at2 (s3.trans (s4.trans s5)) n6 (s7 _ _ e6);refine a7P (c:=2) ((Tg.lst f6 (both 2)).mono (ao _) (show 2*122<=1400 by decide)) fun t' xs ee e2=>?_
    cases ee;rw[f6] at e2;cases e2
   ·exact a7P (c:=0) .non fun t' xs ee=>nomatch ee
  have hk10:10<=k:=by
   rcases gp k 10 with h | h
   ·exact absurd (decide_eq_true h) hk
   ·exact h
  refine⟨_,SqT.of eT,_,rfl,?_⟩;rcases hy with ⟨x,rfl,x0,x1⟩ | ⟨a,l,rfl,ea,hll,hlr⟩
  ·refine⟨_,_,⟨rfl,rfl⟩,_,(Pl.int x:Pl H2 _ _).ty,_,K3 (Pl.int x:Pl H2 _ _) (.inr (.inr rfl)),?_⟩;rw[if_neg (by decide)];refine⟨_,SqT.of eT,_,rfl,by decide,fun a1 n1=>A1 n1 fun H3 s3 e3=>⟨by decide,fun a2 n2=>A1 n2 fun H4 s4 e4=>⟨_,SqT.of ((s3.trans s4) _ _ eT),_,rfl,by decide,fun a3 n3=>A1 n3 fun H5 s5 e5=>⟨by decide,fun a4 n4=>A1 n4 fun H6 s6 e6=>⟨_,SqL.of e6,?_⟩⟩⟩⟩⟩;obtain⟨v,hv,ev⟩:=a1F (xs:=[V.ref a2,V.ref a3]) (k:=k-10) (by omega) (by simp;omega);have s46:=s5.trans s6;have s26:=(s3.trans s4).trans s46;refine⟨v,ev,q2 s26 ?_⟩;simp only[aD,aW,or_false] at hv;rcases hv with rfl | rfl
   ·obtain⟨g1,g2⟩:=U7 (c:=0) (l:=[x]) (hd2.same s26) ((s4.trans s46) _ _ e3) (fun y hy=>by rw[ah.mp hy];exact⟨x0,x1⟩) (by show 1<=121;decide);exact R3 (at2 s3 n2 (s46 _ _ e4)) (.inr (.inl rfl)) g1 (by decide) (by decide) g2
   ·exact R3 (c:=0) (M:=5) (at2 (s3.trans s4) n3 (s6 _ _ e5)) (.inr (.inr rfl)) (.int (N3 x0 (by omega))) (by decide) (by decide) fun a ys e=>nomatch e
  ·refine⟨_,_,⟨rfl,rfl⟩,_,(Pl.tup ea).ty,_,K3 (Pl.tup ea) (.inr (.inr rfl)),?_⟩;rw[if_pos (by decide)];refine⟨_,SqT.of eT,_,rfl,_,SqT.of eT,_,rfl,T2 ea fun a1 H3 s3 e3=>⟨_,SqT.of (s3 _ _ eT),_,rfl,_,SqT.of (s3 _ _ eT),_,rfl,T2 (s3 _ _ ea) fun a2 H4 s4 e4=>?_⟩⟩;obtain⟨c1,ec1,m1,hc1⟩:=a3d V.int l (some 1) none;obtain⟨c2,ec2,m2,hc2⟩:=a3d V.int l (some (-1)) none;rw[ec1] at e3;rw[ec2] at e4;refine S7 ((s3.trans s4) _ _ ea) e4 (by rw[ab,ab];omega) fun a5 H5 s5 e5=>⟨by decide,fun a6 n6=>A1 n6 fun H6 s6 e6=>⟨_,SqL.of e6,?_⟩⟩
   rw[<- aJ] at e5;obtain⟨v,hv,ev⟩:=a1F (xs:=[V.ref a1,V.ref a5]) (k:=k-10) (by omega) (by simp;omega);refine⟨v,ev,by decide,fun a7 n7=>A1 n7 fun H7 s7 e7=>?_⟩;have s57:=s6.trans s7;have s37:=(s4.trans s5).trans s57;have s27:=s3.trans s37;have hd7:=hd2.same s27;have f7:=at2 (s3.trans (s4.trans (s5.trans s6))) n7 e7;have hw2:w="own"\/w="parts"\/w="Own":=hw.elim .inl fun h=>.inr (.inl h)
   refine q2 s27 ?_;simp only[aD,aW,or_false] at hv;rcases hv with rfl | rfl
   ·obtain⟨g1,g2⟩:=U7 (c:=0) hd7 (s37 _ _ e3) (fun y hy=>hlr y (m1 y hy)) (by omega);exact R3 f7 hw2 g1 (by decide) (by decide) g2
   ·obtain⟨g1,g2⟩:=U7 (c:=0) hd7 (s57 _ _ e5) (fun y hy=>(ak.mp hy).elim (hlr y) fun h=>hlr y (m2 y h)) (by rw[aE];omega);exact R3 f7 hw2 g1 (by decide) (by decide) g2
def NS (A:Addr->Prop)(H:Hp)(v:V):Prop:=(∃ c,Tg (hid A H) c 5 40000 v)/\∀ a xs,v=.ref a->hid A H a=some (.tup xs)->∀ z∈xs,NdW (hid A H) z
theorem NS.in {A A':Addr->Prop}{H H':Hp}{v:V}(h:NS A H v)(s:A6 (hid A H) (hid A' H')):NS A' H' v:=by
 obtain⟨⟨c,hc⟩,hw⟩:=h;refine⟨⟨c,hc.same s⟩,fun a xs e e2 z hz=>?_⟩;subst e;have e3:=a2x hc s e2;exact (hw a xs rfl e3 z hz).in (hc.items e3 z hz) s
theorem NS.ndsF {A:Addr->Prop}{H:Hp}{v:V}(h:NS A H v)(hd:Av A H):b1U H v/\∃ T,Pl H v T:=by
 obtain⟨⟨c,hc⟩,hw⟩:=h;refine⟨fun t xs e e2 z hz=>?_,((hc.same Z6).pld (n:=1)).pl⟩;subst e;have e3:hid A H t=some (.tup xs):=by rw[N0 (hd.tup e2)];exact e2
 have g:=hc.items e3 z hz;exact⟨(hw t xs rfl e3 z hz).ndf g hd,((g.same Z6).pld (n:=1)).pl⟩
theorem a2T {A:Addr->Prop}{H:Hp}{t:Addr}(h:NdX H t)(hd:Av A H)(c:Nat):Tg (hid A H) c 4 244 (.ref t)/\NdW (hid A H) (.ref t):=by
 obtain⟨w,y,e,hw,hy⟩:∃(w:Str) (y:V),H t=some (.tup [.str w,y])/\(w="own"\/w="parts")/\Tg (hid A H) c 3 121 y/\∀ a ys,y=.ref a->hid A H a=some (.tup ys)->ys.length<300:=by
  rcases h with ⟨x,e,h0,h1⟩ | ⟨a,l,e,e2,hl,h2,_⟩
  ·exact⟨_,_,e,.inl rfl,.int (N3 h0 (by omega)),fun a ys e=>nomatch e⟩
  ·exact⟨_,_,e,.inr rfl,U7 hd e2 h2 (by omega)⟩
 have e':hid A H t=some (.tup [.str w,y]):=by rw[N0 (hd.tup e)];exact e
 refine⟨(Tg.tup e' fun x hx=>?_).mono (ao _) (show 2*(121+1)<=244 by decide),fun t' xs ee e2 _=>?_⟩
 ·simp only[aD,aW,or_false] at hx;rcases hx with rfl | rfl
  ·rcases hw with rfl | rfl<;>exact .str (by decide +kernel) (by decide +kernel)
  ·exact hy.1
 ·cases ee;rw[e'] at e2;cases e2;refine⟨_,_,rfl,.w0 (.str ?_),hy.2⟩;rcases hw with rfl | rfl<;>exact (show PyData.strOk _=true by decide +kernel)
theorem a2Q {A:Addr->Prop}{H:Hp}{p:Addr}{ys:List Addr}(e:H p=some (.tup (ys.map V.ref)))(hd:Av A H)(hl:ys.length<=120)(h:∀ y∈ys,NdX H y):NS A H (.ref p):=by
 have e':hid A H p=some (.tup (ys.map V.ref)):=by rw[N0 (hd.tup e)];exact e
 refine⟨⟨0,(Tg.tup e' fun x hx=>?_).mono (ao _) (by rw[ab];show ys.length*245<=40000;omega)⟩,fun a xs ea e2 z hz=>?_⟩
 ·obtain⟨y,hy,rfl⟩:=bD.mp hx;exact (a2T (h y hy) hd 0).1
 ·cases ea;rw[e'] at e2;cases e2;obtain⟨y,hy,rfl⟩:=bD.mp hz;exact (a2T (h y hy) hd 0).2
theorem b1e {A:Addr->Prop}{H:Hp}{p:Addr}{xs ys:List Addr}{v:V}(e:H p=some (.tup (xs.map V.ref++[v]++ys.map V.ref)))(hd:Av A H)(hl:xs.length+ys.length<=120)(h1:∀ y∈xs,NdX H y)(h2:∀ y∈ys,NdX H y)(hv:NI A H v):NS A H (.ref p):=by
 have e':hid A H p=some (.tup (xs.map V.ref++[v]++ys.map V.ref)):=by rw[N0 (hd.tup e)];exact e
 obtain⟨⟨c,hc⟩,hw⟩:=hv;have it:∀ us:List Addr,(∀ y∈us,NdX H y)->∀ x∈us.map V.ref,Tg (hid A H) c 4 244 x/\NdW (hid A H) x:=fun us h x hx=>by
  obtain⟨y,hy,rfl⟩:=bD.mp hx;exact a2T (h y hy) hd c
 refine⟨⟨c,(Tg.mid e' (fun x hx=>(it xs h1 x hx).1) (fun x hx=>(it ys h2 x hx).1) hc).mono (ao _) (by rw[ab,ab];omega)⟩,fun a zs ea e2 z hz=>?_⟩;cases ea;rw[e'] at e2;cases e2;rcases ak.mp hz with hz | hz
 ·rcases ak.mp hz with hz | hz
  ·exact (it xs h1 z hz).2
  ·rw[ah.mp hz];exact hw
 ·exact (it ys h2 z hz).2
def a0z (K:ae):Sp:=fun vs H Q _=>∃(A:Addr->Prop) (d np:Addr) (as:List Addr) (n:Int) (ts:List (Int×Int)) (pb:Addr) (bs:List Int),vs=[.ref d,.ref np,.ref pb]/\K5 H d/\Av A H/\A d/\C2 H np as (E9 n ts)/\d≠np/\d∉as/\M4 n ts/\H pb=some (.tup (bs.map V.int))/\bs.Pairwise (·<·)/\(∀ x∈bs,0<=x/\x<n)/\S8 n ts bs /\
 ∀(p:Addr) (xs:List V) (H':Hp),Kp d H H'->K5 H' d->H p=none->H' p=some (.lst xs)->xs.length<=19->(∀ v∈xs,NS A H' v)->Q (.ref p) H'
def b1v (Hb:Hp)(l pb d np:Addr)(i:Nat)(τ:St)(Hc:Hp):Prop:=∃(c:Option V) (ys:List Addr),τ=[c,some (.ref pb),some (.ref d),some (.ref np)]/\Kp d Hb Hc/\K5 Hc d/\Hc l=some (.lst (ys.map V.ref))/\ys.length=i/\∀ y∈ys,NdX Hc y
def b1q (Hb:Hp)(A:Addr->Prop)(d np pb pn p:Addr)(i:Nat)(σ:St)(Hc:Hp):Prop:=∃(c c':Option V) (vs:List V),σ=[some (.ref d),some (.ref np),some (.ref pb),some (.ref pn),some (.ref p),c,c']/\Kp d Hb Hc/\K5 Hc d/\Av A Hc/\Hc p=some (.lst vs)/\vs.length=5+i/\∀ v∈vs,NS A Hc v
theorem a0B:B9 ["_law_deck_here","_law_near_here","_law_busy_here","_law_needs","_law_found","_law_turn_here","_law_at"] ["_law_deck_here","_law_near_here","_law_busy_here"] (A7 (top 43)):=by walk_at "s"
theorem a4b (F:Fun K "_law_things" "_law_things" (top 43) f fd)(B:Bt mg)(D1:Df K mg "_law_some_need" st1 f1 fd1 ["_law_deck_here","_law_near_here","_law_busy_here","_law_place"])(G1:B6 P w K mg base CX0 2 f1 fd1 ["_law_deck_here","_law_near_here","_law_busy_here","_law_place"] (a3u K))(D2:Df K mg "_law_next" st2 f2 fd2 ["_law_deck_here"])(G2:B6 P w K mg base CX0 1 f2 fd2 ["_law_deck_here"] P3)(D3:Df K mg "_law_bent_need" st3 f3 fd3 ["_law_deck_here","_law_many","_law_busy_here","_law_need"])(G3:B6 P w K mg base CX0 3 f3 fd3 ["_law_deck_here","_law_many","_law_busy_here","_law_need"] (a0X K)):B6 P w K mg base CX0 4 f fd ["_law_deck_here","_law_near_here","_law_busy_here"] (a0z K):=by
 refine F.ok a0B (fun vs H Q E h=>?_) (fun cdv A outer s H vs Q E hr h=>?_)
 ·walk_at "h"
 ·obtain⟨Av0,d,np,as,n,ts,pb,bs,rfl,dk,hd,hA,hR,dnp,das,hok,hpb,hbs,hbr,hB,q⟩:=h;have nd:=a0B.nd;have hu:=J1 hr
  refine⟨_,((B8 (i:=3) nd rfl (.inl rfl) (E1 (S0 K) (by rfl) B.tuple cE ((I0 (own:=["_law_place"]) (fr:=[("_law_busy_here",2),("_law_deck_here",0),("_law_near_here",1)]) rfl (by walk_at "w") (B3 rfl rfl (B3 rfl rfl (B3 rfl rfl C0))) (L9 K (pv 2)) ⟨fun _ _ _ _=>⟨(A8 (i:=0) (show bu (["_law_place","_law_busy_here","_law_deck_here","_law_near_here"]:List Str) by decide +kernel) rfl (.inl rfl)),L7,(A9 G1 D1 hr.m ((pv 2)<*>((pv 3)<*>((pv 1)<*>((pv 0)<*>A0)))))⟩⟩)<*>A0)))<*
    ((B8 (i:=4) nd rfl (.inl rfl) (@D0 _ _ _ _ ((pv 3)<*>((N4 (a3F K) (pv 3) (Q2 A3) Q3)<*>((@K9 _ _ _ _ _ _ _ _ (a1A K) (pv 3) (N4 (a3F K) (pv 3) Q3 (Q2 A3)))<*>((a2J K (pv 3) (W3 R9 A3))<*>((E1 (a2g K) (by rfl) B.list ig ((pv 3)<*>A0))<*>A0)))))))<*
    ((M9 bG rfl (M3 (by rfl) B.range (A3<*>A0)) (A8 (i:=5) nd rfl (.inl rfl))
     ((B8 (i:=6) nd rfl (.inl rfl) ((A9 G2 D2 hr.m ((pv 0)<*>A0))&&&(A5 (N5 K) (by rfl) B.len aR ((pv 3)<*>A0))))<*
     (@A4 _ _ _ (N6 (N8 K (pv 4) ((@K9 _ _ _ _ _ _ _ _ (a1A K) (@K9 _ _ _ _ _ _ _ _ (a1A K) (N4 (a3F K) (pv 3) Q3 (Q2 (pv 6))) (@C9 _ _ _ _ _ ((A9 G3 D3 hr.m ((pv 0)<*>((A5 (N5 K) (by rfl) B.len aR ((pv 1)<*>A0))<*>((pv 2)<*>(((pv 3)*>(pv 6))<*>A0)))))<*>A0))) (N4 (a3F K) (pv 3) (Q2 ((pv 6)|||A3)) Q3))<*>A0))))))<*
     (@A4 _ _ _ (B1 (pv 4)))))),?_⟩
  simp only[L2.P7,st0,aL,cY,aH,cK,List.replicate,du,cR,Nat.reduceAdd,Nat.reduceSub];have h3:=hok.n3;have h60:=hok.n60;have hnd:=C7 hbs;have hbl:=M6 hnd hbr;have hbp:=cO.mpr hB.1.1;refine J7 (fun σ Hc=>∃(pn:Addr) (ys:List Addr),σ=[some (.ref d),some (.ref np),some (.ref pb),some (.ref pn),none,none,none]/\Kp d H Hc/\K5 Hc d/\Hc pn=some (.tup (ys.map V.ref))/\ys.length=bs.length/\∀ y∈ys,NdX Hc y) (fun R hRR=>?_) ?_
  ·walk_at "rd";refine⟨⟨_,SqT.of hpb⟩,fun l m1=>?_⟩;have ld:l≠d:=dk.ne m1;refine a1s (K:=K) (xs:=bs.map V.int) (b1v H l pb d np) ⟨none,[],rfl,((A6.refl H).upd m1).kp,dk.same ((A6.refl H).upd m1),A2,rfl,fun y h=>(by cases h)⟩ ?_ ?_ ?_
   ·rintro i τ Hc _ ⟨_,_,rfl,kc,_⟩;exact SqT.of (kc.tp dk _ _ hpb)
   ·rintro i v τ Hc hv ⟨c,ys,rfl,kc,dc,hlc,hyl,hN⟩;rw[aF] at hv;obtain⟨p,hp,rfl⟩:=fT.mp hv;have hil:=(aA.mp hp).1;walk_at "rd";refine⟨d,np,as,n,ts,pb,bs,p,rfl,dc,hR.kp kc dnp das,dnp,das,hok,kc.tp dk _ _ hpb,hbs,hbr,hB,aI hp,fun t H2 k2 d2 hX hT=>?_⟩;have hl2:=k2 _ _ ld hlc;refine⟨_,hl2,by rw[ab];exact B7 (by omega),_,ys++[t],rfl,(kc.trans k2).new m1,d2.new ld,by rw[A2,aJ];rfl,by rw[aE,bK,hyl],fun y hy=>?_⟩;rcases ak.mp hy with hy | hy
    ·exact (hN y hy).tp ((k2.tp dc).trans (Tp.lst hl2))
    ·rw[ah.mp hy];exact hX.tp (Tp.lst hl2)
   ·rintro τ Hc ⟨c,ys,rfl,kc,dc,hlc,hyl,hN⟩;rw[ab] at hyl;exact⟨_,.inl ⟨SqL.of hlc,fun l2 m2=>A1 m2 fun H2 s2 e2=>hRR _ _ ⟨l2,ys,rfl,kc.trans s2.kp,dc.same s2,e2,hyl,fun y hy=>(hN y hy).tp s2.tp⟩⟩⟩
  rintro σ H1 ⟨pn,ys,rfl,k1,d1,e1,hyl,hN1⟩;have hd1:=hd.kp k1 d1;have hal:((as.map V.ref).length:Int)=n:=by rw[ab,hR.len,J9];omega
  obtain⟨c1,f1,m1,l1⟩:=a3d V.ref ys (some 1) none;obtain⟨c2,f2,m2,l2⟩:=a3d V.ref ys none (some 1);refine J7 (fun σ Hc=>∃(p:Addr) (vs:List V),σ=[some (.ref d),some (.ref np),some (.ref pb),some (.ref pn),some (.ref p),none,none]/\Kp d H Hc/\K5 Hc d/\Kp d H1 Hc/\H1 p=none/\Hc p=some (.lst vs)/\vs.length=5/\∀ v∈vs,NS (fun a=>Av0 a\/a=p) Hc v) (fun R hRR=>?_) ?_
  ·walk_at "rd";refine T2 e1 fun a2 H2 s2 e2=>T2 (s2 _ _ e1) fun a3 H3 s3 e3=>?_
   rw[f1] at e2;rw[f2] at e3;refine S7 ((s2.trans s3) _ _ e1) e3 (by rw[ab,ab];omega) fun a4 H4 s4 e4=>⟨_,SqT.of ((s2.trans (s3.trans s4)) _ _ e1),fun a5 n5=>A1 n5 fun H5 s5 e5=>⟨_,.inr (SqT.of ((s2.trans (s3.trans (s4.trans s5))) _ _ e1)),fun a6 n6=>A1 n6 fun H6 s6 e6=>⟨by decide,fun p n7=>A1 n7 fun H7 s7 e7=>?_⟩⟩⟩
   rw[<- aJ] at e4;rw[<- hU] at e5;have s46:=s5.trans s6;have s36:=s4.trans s46;have s16:=s2.trans (s3.trans s36);have s17:=s16.trans s7;have hd6:=hd1.same s16;have hN6:∀ y∈ys,NdX H6 y:=fun y hy=>(hN1 y hy).tp s16.tp
   have inp:A6 (hid Av0 H6) (hid (fun a=>Av0 a\/a=p) H7):=fun b o h=>by
    have hb:=Z6 _ _ h;have bp:b≠p:=fun z=>by rw[z,n7] at hb;cases hb
    have ba:¬ Av0 b:=fun z=>by unfold hid at h;rw[if_pos z] at h;cases h
    rw[N0 (fun z=>z.elim ba bp)];exact s7 _ _ hb
   refine hRR _ _ ⟨p,_,rfl,k1.trans s17.kp,d1.same s17,s17.kp,s16.free n7,e7,rfl,fun v hv=>NS.in (A:=Av0) (H:=H6) ?_ inp⟩;simp only[aD,aW,or_false] at hv;rcases hv with rfl | rfl | rfl | rfl | rfl
   ·exact a2Q (s16 _ _ e1) hd6 (by omega) hN6
   ·exact a2Q ((s3.trans s36) _ _ e2) hd6 (by omega) fun y hy=>hN6 y (m1 y hy)
   ·exact a2Q (s46 _ _ e4) hd6 (by rw[aE];omega) fun y hy=>(ak.mp hy).elim (hN6 y) fun h=>hN6 y (m2 y h)
   ·exact a2Q (s6 _ _ e5) hd6 (by rw[eJ];omega) fun y hy=>hN6 y (hJ.mp hy)
   ·have f6:=J5 (hd1.same (s2.trans (s3.trans (s4.trans s5)))) n6 e6;refine⟨⟨2,(Tg.lst f6 fun x hx=>?_).mono (ao _) (by rw[ab];show ys.length*245<=40000;omega)⟩,fun a xs ea e8=>?_⟩
    ·obtain⟨y,hy,rfl⟩:=bD.mp hx;exact (a2T (hN6 y hy) hd6 2).1
    ·cases ea;rw[f6] at e8;cases e8
  rintro σ H2 ⟨p,vs,rfl,k2,d2,k12,np1,e2,hvl,hvs⟩;have pd:p≠d:=d1.ne np1;have hd2:=hd.kp k2 d2;walk_at "rd";rw[Y1];walk_at "rd";refine⟨by decide,by decide,R8 (lo:=0) (n:=14) (b1q H1 (fun a=>Av0 a\/a=p) d np pb pn p) ⟨none,none,vs,rfl,k12,d2,fun a ha=>?_,e2,hvl,hvs⟩ ?_ ?_⟩
  ·rcases ha with ha | rfl
   ·exact hd2 a ha
   ·exact⟨_,e2⟩
  ·rintro i σ Hc hi ⟨c,c',vs,rfl,kc,dc,ac,ec,hvl,hvs⟩;walk_at "rd";refine E6 dc fun z Hd kd dd _=>?_
   have k0d:=k1.trans (kc.trans kd);have ed:=(kc.trans kd).tp d1 _ _ e1;have ecd:=kd _ _ pd ec;have ad:=ac.kp kd dd;refine⟨_,.inr (SqT.of ed),z,rfl,by rw[ab];omega,.inl ⟨rfl,_,SqL.of ecd⟩,?_⟩;obtain⟨v0,hv0,ev0⟩:=a1j (xs:=ys.map V.ref) (by rw[ab];omega) z;obtain⟨y0,hy0,rfl⟩:=bD.mp hv0;generalize z % _=j at ev0 ⊢;obtain⟨b1,g1,w1,r1⟩:=a3d V.ref ys none (some j);obtain⟨b2,g2,w2,r2⟩:=a3d V.ref ys (some (j+1)) none;refine T2 ed fun a1 He se ee=>?_
   rw[g1] at ee;have Re:=(hR.kp k0d dnp das).same se;have de:=dd.same se;refine⟨_,.inl (SqL.of Re.top),_,SqT.of (se _ _ ed),_,ev0,fun a=>Av0 a\/a=p,d,n,pb,bs,y0,by rw[hal],de,ad.same se,.inl hA,by omega,h60,se _ _ (k0d.tp dk _ _ hpb),hB.1.1,by omega,fun x hx=>by (have:=hbr x hx;omega),(hN1 y0 hy0).tp (((kc.trans kd).tp d1).trans se.tp),fun v Hf kf df hv=>?_⟩;have tef:=kf.tp de;have edf:=tef _ _ (se _ _ ed);refine⟨by decide,fun a7 n7=>A1 n7 fun Hg sg eg=>S7 (sg _ _ (tef _ _ ee)) eg (by rw[ab];show b1.length+1<=10000;omega) fun a8 Hh sh eh=>T2 ((sg.trans sh) _ _ edf) fun a9 Hi si ei=>?_⟩;rw[g2] at ei;refine S7 (si _ _ eh) ei (by rw[aE,ab,ab];show b1.length+1+b2.length<=10000;omega) fun ax Hj sj ej=>?_
   have sfj:=sg.trans (sh.trans (si.trans sj));have kef:=se.kp.trans kf;have ecj:=sfj _ _ (kf _ _ pd (se _ _ ecd));have af:=(ad.same se).kp kf df;have aj:=af.same sfj;have kcj:Kp d Hc Hj:=(kd.trans kef).trans sfj.kp;have hNj:∀ y∈ys,NdX Hj y:=fun y hy=>(hN1 y hy).tp ((kc.trans kcj).tp d1)
   refine⟨vs,ecj,B7 (by omega),_,_,vs++[.ref ax],rfl,(kc.trans kcj).new np1,(df.same sfj).new pd,aj.upd,A2,by rw[aE,hvl];rfl,fun u hu=>?_⟩;rcases ak.mp hu with hu | hu
   ·exact ((hvs u hu).in (kcj.hid (.inl hA))).in (a5U (.inr rfl))
   ·rw[ah.mp hu];exact (b1e ej aj (by omega) (fun y hy=>hNj y (w1 y hy)) (fun y hy=>hNj y (w2 y hy)) (hv.in sfj.hid)).in (a5U (.inr rfl))
  ·rintro σ Hc ⟨c,c',vs,rfl,kc,dc,ac,ec,hvl,hvs⟩;walk_at "rd";refine q p vs Hc (k1.trans kc) dc (k1.free d1 np1) ec (by omega) fun v hv=>(hvs v hv).in (a8p (A6.refl Hc))
theorem b2W:M4 3 [(0,2),(1,2)]:=by
 refine⟨by decide,by decide,by decide,by simp[Lex],by decide,fun S h u v u0 u1 v0 v1 hu=>?_⟩;have h1:=h (0,2) (by simp);have h2:=h (1,2) (by simp);dsimp only at h1 h2;obtain rfl | rfl | rfl:u=0\/u=1\/u=2:=by omega
 all_goals obtain rfl | rfl | rfl:v=0\/v=1\/v=2:=by omega
 all_goals first | exact hu | exact h1.mp hu | exact h2.mp hu | exact h1.mpr hu | exact h2.mpr hu | exact h2.mpr (h1.mp hu) | exact h1.mpr (h2.mp hu)
theorem a7W {l:List V}(h:l.length=2):∃ v0 v1,l=[v0,v1]:=by
 match l,h with
 | [v0,v1],_=>exact⟨v0,v1,rfl⟩
def a9F (Hb:Hp)(a d w np pb po:Addr)(i:Nat)(σ:St)(Hc:Hp):Prop:=∃ c6 c7 c8 c9:Option V,σ=[some (.ref a),some (.ref d),some (.ref w),some (.ref np),some (.ref pb),some (.ref po),c6,c7,c8,c9]/\Kp d Hb Hc/\K5 Hc d
def a9I (Hb:Hp)(a d w np pb po:Addr)(v:V)(i:Nat)(σ:St)(Hc:Hp):Prop:=∃ c7 c8 c9:Option V,σ=[some (.ref a),some (.ref d),some (.ref w),some (.ref np),some (.ref pb),some (.ref po),some v,c7,c8,c9]/\A6 Hb Hc
theorem a3P:B9 ["_law_script","_law_deck_here","_law_web_here","_law_near_here","_law_busy_here","_law_order","_law_some","_law_thing","_law_due","_law_before"] ["_law_script"] (A7 (top 44)):=by walk_at "s"
theorem a7I (F:Fun K "law" "law" (top 44) f fd)(B:Bt mg)(D1:Df K mg "right_needs" st1 f1 fd1 ["web","busy","thing"])(G1:B6 P w K mg base CX0 7 f1 fd1 ["web","busy","thing"] (a0U K))(D2:Df K mg "_law_says" st2 f2 fd2 ["_law_found","_law_due"])(G2:B6 P w K mg base CX0 1 f2 fd2 ["_law_found","_law_due"] a5p)(D3:Df K mg "_law_deck" st3 f3 fd3 ["_law_script","_law_many"])(G3:B6 P w K mg base CX0 2 f3 fd3 ["_law_script","_law_many"] (a5u K))(D4:Df K mg "_law_next" st4 f4 fd4 ["_law_deck_here"])(G4:B6 P w K mg base CX0 1 f4 fd4 ["_law_deck_here"] P3)(D5:Df K mg "_law_web" st5 f5 fd5 ["_law_deck_here","_law_least","_law_most"])(G5:B6 P w K mg base CX0 3 f5 fd5 ["_law_deck_here","_law_least","_law_most"] a7e)(D6:Df K mg "_law_near" st6 f6 fd6 ["_law_web_here"])(G6:B6 P w K mg base CX0 1 f6 fd6 ["_law_web_here"] a0J)(D7:Df K mg "_law_busy" st7 f7 fd7 ["_law_deck_here","_law_web_here","_law_near_here"])(G7:B6 P w K mg base CX0 3 f7 fd7 ["_law_deck_here","_law_web_here","_law_near_here"] a1U)(D8:Df K mg "_law_turn" st8 f8 fd8 ["_law_deck_here","_law_many"])(G8:B6 P w K mg base CX0 2 f8 fd8 ["_law_deck_here","_law_many"] a0I)(D9:Df K mg "_law_leaned" st9 f9 fd9 ["_law_near_here","_law_busy_here","_law_order"])(G9:B6 P w K mg base CX0 4 f9 fd9 ["_law_near_here","_law_busy_here","_law_order"] (a0a K))(D10:Df K mg "_law_things" st10 f10 fd10 ["_law_deck_here","_law_near_here","_law_busy_here"])(G10:B6 P w K mg base CX0 4 f10 fd10 ["_law_deck_here","_law_near_here","_law_busy_here"] (a0z K))(D11:Df K mg "_law_odd" st11 f11 fd11 [])(G11:B6 P w K mg base CX0 1 f11 fd11 [] a4D)(D12:Df K mg "_law_are_needs" st12 f12 fd12 ["_law_near_here","_law_busy_here","_law_thing"])(G12:B6 P w K mg base CX0 4 f12 fd12 ["_law_near_here","_law_busy_here","_law_thing"] (Y6 K))(C4:Bt4 mg):B6 P w K mg base CX0 9 f fd ["_law_script"] (sp_law K):=by
 refine F.ok a3P (fun vs H Q E h=>?_) (fun cdv A outer s H vs Q E hr h=>?_)
 ·walk_at "h"
 ·obtain⟨a,ns,rfl,hS,hl,q⟩:=h;have nd:=a3P.nd;have hu:=J1 hr
  refine⟨_,((@J8 _ _ _ _ _ _ _ _ (N9 (M5 (A9 G2 D2 hr.m ((A9 G1 D1 hr.m ((@C9 _ _ _ _ _ (A3<*>((@C9 _ _ _ _ _ ((@C9 _ _ _ _ _ (A3<*>(A3<*>A0)))<*>((@C9 _ _ _ _ _ (A3<*>(A3<*>A0)))<*>A0)))<*>A0)))<*>((@C9 _ _ _ _ _ (A3<*>(A3<*>A0)))<*>((@C9 _ _ _ _ _ ((@C9 _ _ _ _ _ (M0<*>((W3 R9 A3)<*>A0)))<*>((@C9 _ _ _ _ _ (M0<*>(A3<*>A0)))<*>A0)))<*>A0))))<*>(L0<*>A0)))))
     (@A4 _ _ _ (B1 L0))
     C6)<*
     ((B8 (i:=1) nd rfl (.inl rfl) (A9 G3 D3 hr.m ((pv 0)<*>(A3<*>A0))))<*
    ((B8 (i:=2) nd rfl (.inl rfl) (A9 G5 D5 hr.m ((pv 1)<*>(A3<*>(((@D0 _ _ _ _ (A3<*>(A3<*>A0)))<|>(E1 a0y (by rfl) B.int jR ((M1 a0h ((A9 G4 D4 hr.m ((pv 1)<*>A0))&&&A3) A3 (B5 _))<*>A0)))<*>A0)))))<*
    ((B8 (i:=3) nd rfl (.inl rfl) (A9 G6 D6 hr.m ((pv 2)<*>A0)))<*
    ((B8 (i:=4) nd rfl (.inr rfl) (A9 G7 D7 hr.m ((pv 1)<*>((pv 2)<*>((pv 3)<*>A0)))))<*
    ((L6 (i:=5) (own:=["_law_k"]) (fr:=[("_law_busy_here",4)]) rfl nd rfl rfl (by walk_at "w") (by walk_at "w") (B3 rfl rfl C0) (L9 K (A9 G8 D8 hr.m ((pv 1)<*>((A5 (N5 K) (by rfl) B.len aR ((pv 4)<*>A0))<*>A0)))) ⟨fun _ _ _ _=>⟨(A8 (i:=0) (show bu (["_law_k","_law_busy_here"]:List Str) by decide +kernel) rfl (.inl rfl)),L7,((pv 1)*>(pv 0))⟩⟩)<*
    ((M9 bG rfl (J3 K (@D0 _ _ _ _ ((pv 4)<*>((A9 G9 D9 hr.m ((pv 3)<*>((pv 4)<*>((pv 5)<*>A0))))<*>((E1 (a1C hr.hd) (by rfl) B.tuple cE ((E1 a6N (by rfl) B.range kn (((pv 2)*>A3)<*>A0))<*>A0))<*>A0))))) (A8 (i:=6) nd rfl (.inl rfl))
     (@A4 _ _ _ (M9 bG rfl (J3 K (@K9 _ _ _ _ _ _ _ _ a0r (A9 G10 D10 hr.m ((pv 1)<*>((pv 3)<*>((pv 6)<*>A0)))) (a5H G11 D11 hr.m))) (A8 (i:=7) nd rfl (.inl rfl))
      ((B8 (i:=8) nd rfl (.inl rfl) (A9 G12 D12 hr.m ((pv 3)<*>((pv 6)<*>((pv 7)<*>A0)))))<*
      ((B8 (i:=9) nd rfl (.inl rfl) (A5 (a7l hr.gd hr.units) (by rfl) C4.repr boot_repr ((pv 7)<*>A0)))<*
      (@A4 _ _ _ (@J8 _ _ _ _ _ _ _ _ (PW.pt (V7 (N9 (M5 (A9 G2 D2 hr.m ((A9 G1 D1 hr.m ((pv 2)<*>((pv 6)<*>((pv 7)<*>A0))))<*>((pv 8)<*>A0))))) (T9 (B0 a0g (A5 (a7l hr.gd hr.units) (by rfl) C4.repr boot_repr ((pv 7)<*>A0)) (pv 9) (B5 _)))))
       (@A4 _ _ _ (B1 L0))
       C6)))))))<*
     (@A4 _ _ _ (B1 L0))))))))),?_⟩
  simp only[L2.P7,st0,aL,cY,aH,cK,List.replicate,du,cR,Nat.reduceAdd,Nat.reduceSub];refine J7 (fun σ Hc=>σ=[some (.ref a),none,none,none,none,none,none,none,none,none]/\A6 H Hc) (fun R hRR=>?_) ?_
  ·walk_at "rd";refine⟨by decide,fun a1 n1=>A1 n1 fun H1 s1 e1=>⟨by decide,fun a2 n2=>A1 n2 fun H2 s2 e2=>⟨by decide,fun a3 n3=>A1 n3 fun H3 s3 e3=>⟨by decide,fun a4 n4=>A1 n4 fun H4 s4 e4=>⟨by decide,fun a5 n5=>A1 n5 fun H5 s5 e5=>⟨by decide,fun a6 n6=>A1 n6 fun H6 s6 e6=>⟨by decide,fun a7 n7=>A1 n7 fun H7 s7 e7=>⟨by decide,fun a8 n8=>A1 n8 fun H8 s8 e8=>?_⟩⟩⟩⟩⟩⟩⟩⟩;have t7:=s7.trans s8;have t6:=s6.trans t7;have t5:=s5.trans t6;have t4:=s4.trans t5;have t3:=s3.trans t4;have t2:=s2.trans t3
   have nd_:∀ {b:Addr} {x:Int},H8 b=some (.tup [.str "own",.int x])->NdF H8 (.ref b)/\∃ T,Pl H8 (.ref b) T:=fun {b x} e=>⟨fun t' xs ee e9 _=>by
    cases ee;rw[e] at e9;cases e9
    exact⟨_,_,_,rfl,.w0 (.str (show PyData.strOk _=true by decide +kernel)),.int x,⟨⟨_,.int x⟩,fun a _ z=>nomatch z⟩,fun a ys z=>nomatch z⟩,_,.tup e⟩
   have f6:=t7 _ _ e6;have f7:=s8 _ _ e7;refine⟨a4,3,[(0,2),(1,2)],a5,[0,2],.ref a8,_,rfl,⟨a3,t5 _ _ e4,[(a1,[0,2]),(a2,[1,2])],t4 _ _ e3,⟨fun x hx=>?_,rfl⟩⟩,b2W,SqT.of (t6 _ _ e5),by decide,by decide,.tup e8,fun t' xs ee e9 z hz=>?_,fun c H9 s9 hc=>?_⟩
   ·simp only[aD,aW,or_false] at hx;rcases hx with rfl | rfl
    ·exact t2 _ _ e1
    ·exact t3 _ _ e2
   ·cases ee;rw[e8] at e9;cases e9;simp only[aD,aW,or_false] at hz;rcases hz with rfl | rfl
    ·exact nd_ f6
    ·exact nd_ f7
   ·have ec:c=false:=by
     cases c with
     | false=>rfl
     | true =>
      obtain⟨t',xs,ee,e9,_,h⟩:=hc.mp rfl;cases ee;rw[e8] at e9;cases e9;cases h 0 (.ref a6) 0 rfl rfl with
      | own e x0 _ _=>rw[f6] at e;cases e;exact absurd x0 (by decide)
      | parts e _ _=>rw[f6] at e;cases e
    subst ec;refine⟨false,false,rfl,_,rfl,?_⟩;rw[if_neg (by decide)];exact hRR _ _ ⟨rfl,(s1.trans t2).trans s9⟩
  rintro σ H0 ⟨rfl,s0⟩;walk_at "rd";refine⟨a,1200,ns,rfl,s0.seq hS,hl,by decide,by decide,fun d ds H1 hdl s1 nd1 hd1=>?_⟩;have dk1:K5 H1 d:=⟨ds,hd1,hdl⟩
  refine⟨by decide,fun p2 n2=>A1 n2 fun H2 s2 e2=>?_⟩;have d2:=dk1.same s2;have hp2:p2≠d:=dk1.ne n2;refine E6 d2 fun z H3 k3 d3 _=>?_
  have hM:∃ M:Int,(M=9\/M=24)/\atI [V.int 9,V.int 24] (if decide (z % 8=5)=true then 1 else 0)=some (V.int M):=by
   split
   ·exact⟨24,.inr rfl,rfl⟩
   ·exact⟨9,.inl rfl,rfl⟩
  obtain⟨M,hM,hat⟩:=hM;refine⟨z,rfl,by decide,_,SqL.of (k3 p2 _ hp2 e2),_,hat,d,3,M,rfl,d3,by omega,by omega,by omega,fun w0 n ts H4 k4 d4 hn0 hn1 hok hw=>?_⟩;have g3:=hok.n3;have g60:=hok.n60;have gl:=hok.len;refine⟨w0,n,ts,rfl,hw,by omega,by omega,by omega,hok.rng,hok.srt,fun np as H5 s5 nnp nas hR=>?_⟩;have d5:=d4.same s5;have dnp:d≠np:=(d4.ne nnp).symm;have das:d∉as:=fun h=>d4.ne (nas d h) rfl
  refine⟨d,w0,n,ts,.ref np,rfl,d5,hw.tp s5.tp,hok,fun pb bs H6 k6 d6 npb epb hbs hbr hB=>?_⟩;have t56:=k6.tp d5;have hw6:=(hw.tp s5.tp).tp t56;have hR6:=hR.kp k6 dnp das;have hbl:=M6 (C7 hbs) hbr;refine⟨pb,rfl,_,.inr (SqT.of epb),?_⟩;rw[ab];refine a3q d6 (by omega) (by omega) fun pt us H7 k7 d7 npt ept hus=>?_
  have hul:us.length=bs.length:=by rw[hus.length_eq,E7];omega
  have hur:∀ k∈us,0<=k/\k<(bs.length:Int):=fun k hk=>by have:=K0.mp (hus.mem_iff.mp hk);omega
  have t67:=k7.tp d6;have pb7:=t67 _ _ epb;refine⟨pt,rfl,⟨_,SqT.of ept⟩,fun po npo=>U9 V.int (fun _=>true) (fun k=>V.int (bs.getD k.toNat 0)) (by omega) (SqT.of ept) npo ?_ ?_⟩
  ·intro k hk v ys R' hyl hR1 hR2;obtain⟨k0,k1⟩:=hur k hk;have sm:=(A6.refl H7).upd (o:=.lst ys) npo;walk_at "rd";refine⟨_,SqT.of (sm _ _ pb7),_,?_,a0P hyl (by omega) hR1⟩;have hl:k.toNat<bs.length:=by omega
   have:=N7 (xs:=bs.map V.int) (j:=k.toNat) (v:=V.int (bs.getD k.toNat 0)) (by
    rw[aF,aq hl,ce,aq hl];rfl)
   rwa [bH k0] at this
  rw[a4r];refine A1 npo fun H8 s8 e8=>?_
  have e8':H8 po=some (.lst ((us.map fun k=>bs.getD k.toNat 0).map V.int)):=by rw[e8,ca];rfl
  generalize us.map (fun k=>bs.getD k.toNat 0)=ks at e8';have t68:=t67.trans s8.tp;have hw8:=hw6.tp t68;have hR8:=(hR6.kp k7 dnp das).same s8;have d8:=d7.same s8;have pb8:=s8 _ _ pb7;clear e8 hus hul hur npt ept k3 k4 k6 k7 hat s1 s2 e2 hd1 nd1;rw[Y1];walk_at "rd";refine⟨np,as,n,ts,pb,bs,po,ks,rfl,hR8,hok,SqT.of pb8,hbs,hbr,hB,SqL.of e8',fun td H9 s9 ed=>?_⟩;obtain⟨i1,i2,_⟩:=a0i hok.rng ks bs hB hbr;obtain⟨q0,hw0,htq⟩:=id (hw8.tp s9.tp);refine⟨_,SqT.of hw0,_,rfl,n,rfl,fun pr npr=>A1 npr fun HA sA eA=>⟨0,n,eA,⟨by decide,by decide,by omega,by omega⟩,by omega,fun pq npq=>A1 npq fun HB sB eB=>⟨by decide,fun pl npl=>A1 npl fun HC sC eC=>?_⟩⟩⟩;rw[Int.sub_zero] at eB;have s9C:=sA.trans (sB.trans sC);have s8C:=s9.trans s9C;have dC:=d8.same s8C;have pld:pl≠d:=(d8.same (s9.trans (sA.trans sB))).ne npl;have hRC:=hR8.same s8C;have hwC:=hw8.tp s8C.tp;have hel:∀ v∈[V.ref pb,V.ref td,V.ref pq],∃(x:Addr) (us:List Int),v=.ref x/\HC x=some (.tup (us.map V.int))/\us.Pairwise (·<·)/\(∀ x∈us,0<=x/\x<n)/\S8 n ts us:=fun v hv=>by
   simp only[aD,aW,or_false] at hv;rcases hv with rfl | rfl | rfl
   ·exact⟨pb,bs,rfl,s8C _ _ pb8,hbs,hbr,hB⟩
   ·exact⟨td,_,rfl,s9C _ _ ed,hbs.sublist i2,fun x hx=>hbr x (i2.subset hx),i1⟩
   ·exact⟨pq,_,rfl,sC _ _ eB,a0e _,fun x hx=>by have:=K0.mp hx;omega,a5f hok⟩
  refine⟨⟨_,SqL.of eC⟩,X6 (K:=K) (xs:=[V.ref pb,V.ref td,V.ref pq]) (a9F HC a d w0 np pb po) ⟨_,_,_,_,rfl,Kp.refl d HC,dC⟩ ?_ ?_ ?_⟩
  ·rintro i σ Hc _ ⟨_,_,_,_,rfl,kc,dc⟩;exact SqL.of (kc _ _ pld eC)
  ·rintro i v σ Hc hv ⟨c6,c7,c8,c9,rfl,kc,dc⟩;obtain⟨x,us,rfl,ex,hus,hur,hUB⟩:=hel v (aI hv);have tc:=kc.tp dC;have exc:=tc _ _ ex;have hul:=M6 (C7 hus) hur;have avc:Av (fun x=>x=d) Hc:=fun x hx=>by
    obtain⟨ds,e,_⟩:=id dc;exact⟨_,by rw[show x=d from hx];exact e⟩
   walk_at "rd";rw[Y1];walk_at "rd";refine⟨fun x=>x=d,d,np,as,n,ts,x,us,rfl,dc,avc,rfl,hRC.kp kc dnp das,dnp,das,hok,exc,hus,hur,hUB,fun p xs Hd kd dd npp ep hxl hxs=>?_⟩;have pd:p≠d:=dc.ne npp;have avd:=avc.kp kd dd;refine⟨fun x=>x=d,rfl,avd,fun p2 ys He se e2 n2 hyl hys=>?_⟩;refine⟨p,p2,_,_,rfl,rfl,se _ _ ep,e2,by refine cH (B7 ?_);omega,fun p3 n3=>A1 n3 fun Hf sf ef=>?_⟩;have sdf:=se.trans sf;have kdf:=kd.trans sdf.kp;have df:=dd.same sdf;have avf:=avd.same sdf;have tcf:=kdf.tp dc;have wf:=hwC.tp (tc.trans tcf);have Rf:=(hRC.kp kc dnp das).kp kdf dnp das;have xf:=tcf _ _ exc;have all:∀ v∈xs++ys,NS (fun x=>x=d) Hf v:=fun v hv=>by
    rcases ak.mp hv with hv | hv
    ·exact (hxs v hv).in sdf.hid
    ·obtain⟨c,h⟩:=hys v hv;have h:=h.same sf.hid;refine⟨⟨c,h.mono (by decide) (by decide)⟩,fun a zs ea e3 z hz t' us' ee e4 hl2=>?_⟩;subst ea;subst ee;have g1:=h.item e3 _ hz;obtain⟨v0,v1,rfl⟩:=a7W hl2;refine⟨v0,v1,rfl,.w0 (g1.item e4 v0 (by simp)).w0,fun b ws eb e5=>?_⟩;subst eb;have:=(g1.item e4 (.ref b) (by simp)).len e5;omega
   generalize xs++ys=Xs at ef all;refine⟨p3,rfl,⟨_,SqL.of ef⟩,X6 (K:=K) (xs:=Xs) (a9I Hf a d w0 np pb po (.ref x)) ⟨_,_,_,rfl,A6.refl Hf⟩ ?_ ?_ ?_⟩
   ·rintro i σ Hc _ ⟨_,_,_,rfl,sc⟩;exact SqL.of (sc _ _ ef)
   ·rintro i v σ Hg hv ⟨c7,c8,c9,rfl,sg⟩;have hv:=(all v (aI hv)).in sg.hid;have avg:=avf.same sg;obtain⟨hF,T,hP⟩:=hv.ndsF avg;obtain⟨⟨c,hc⟩,_⟩:=id hv;walk_at "rd";refine⟨np,as,n,ts,x,us,v,T,rfl,Rf.same sg,hok,SqT.of (sg _ _ xf),by omega,hus,hur,hP,hF,fun b Hh sh hb=>?_⟩;refine Tg.repr ((hc.same Z6).same sh) (by decide) (by decide) fun y hy=>?_
    have sfh:=sg.trans sh;have hPh:=hP.mono sh;obtain⟨hFh,_⟩:=(NS.in (A':=fun x=>x=d) (H':=Hh) hv sh.hid).ndsF (avg.same sh);refine⟨w0,n,ts,x,us,v,T,rfl,wf.tp sfh.tp,hok,SqT.of (sfh _ _ xf),by omega,hur,hPh,hFh,fun b2 Hi si hb2=>⟨b2,b,rfl,?_⟩⟩;have e:b2=b:=by
     rw[fA,hb2,hb];constructor
     ·rintro⟨t',zs,ee,e3,h1,h2⟩;subst ee;have e4:=hP.back sh e3;refine⟨t',zs,rfl,e4,h1,fun i z r hz hr=>?_⟩;obtain⟨hz1,T',hz2⟩:=hF t' zs rfl e4 z (aI hz);exact (K1.iff hz2 hz1 sh).mp (h2 i z r hz hr)
     ·rintro⟨t',zs,ee,e3,h1,h2⟩;exact⟨t',zs,ee,sh _ _ e3,h1,fun i z r hz hr=>(h2 i z r hz hr).tp sh.tp⟩
    subst e;refine⟨_,rfl,?_⟩;rw[if_neg (by simp)];refine hy si ⟨rfl,?_⟩;rw[if_neg (by simp)];exact⟨_,_,_,rfl,(sg.trans sh).trans si⟩
   ·rintro σ Hg ⟨c7,c8,c9,rfl,sg⟩;exact⟨_,_,_,_,rfl,kc.trans (kdf.trans sg.kp),df.same sg⟩
  ·rintro σ Hc ⟨c6,c7,c8,c9,rfl,kc,dc⟩;exact q Hc
end
end K34
end
section
namespace K34
open PySem L2
def vs (s:String)(t:Tok):Value:=.str (Str.ofString s) t
def vi (i:Int)(t:Tok):Value:=.int i t
def vr (a:Addr):Value:=.ref a
def vn:Value:=.none
def fcp:Tok->Value:=vs "/claim/cut.py"
def de (P:Params)(s:String)(t:Tok)(v:Value):DictEntry:=⟨PyData.keyHash P (Str.ofString s),.str (Str.ofString s) t,v⟩
def ot (a:Array Value)(l:Array (Option Value)):Obj:=⟨.type "tuple",none,.seq a,l⟩
def oc (a:Array Value)(l:Array (Option Value)):Obj:=⟨.type "code",none,.fields a,l⟩
def fo (n:String)(i:Nat)(g:Addr)(cl:List (Str×Addr))(a b c d:Value)(e:Option Addr)(f h:Value)(k:Addr):Obj:=⟨.type "function",none,.func ⟨Str.ofString n,Str.ofString n,V3 (top i),.stmts (T6 (top i)),A7 (top i),g,cl,a,b,c,d,e,f,h,k⟩,#[]⟩
def heapK:Params->ae:=fun P=>(nat_lit 2,Obj.mk vn none (Data.dict #[]) #[])::(nat_lit 3,Obj.mk (cX "dict") none (Data.dict #[de P "__name__" 165 (vs "law_manyleaves_k34_needs_or_not" 315),de P "__doc__" 166 vn,de P "__package__" 167 vn,de P "__loader__" 168 (Value.builtin "__main__.__loader__#opaque"),de P "__spec__" 169 vn,de P "__annotations__" 170 (vr 6),de P "__builtins__" 171 (vr 4),de P "__file__" 173 (fcp 172),de P "__cached__" 174 vn,de P "is_int" 195 (vr 21),de P "is_between" 204 (vr 28),de P "is_rising" 214 (vr 35),de P "neighbour_rows" 220 (vr 40),de P "touched" 226 (vr 45),de P "is_place" 236 (vr 52),de P "is_place_row" 245 (vr 59),de P "lot_rows" 251 (vr 64),de P "have_common" 257 (vr 69),de P "all_but" 265 (vr 74),de P "has_alone" 271 (vr 79),de P "right_own" 281 (vr 86),de P "right_side" 293 (vr 93),de P "right_need" 303 (vr 100),de P "right_needs" 314 (vr 107),de P "_law_mixed" 325 (vr 114),de P "_law_deck" 331 (vr 119),de P "_law_next" 338 (vr 126),de P "_law_turn" 344 (vr 131),de P "_law_web" 350 (vr 136),de P "_law_near" 356 (vr 141),de P "_law_reach" 368 (vr 148),de P "_law_hang" 376 (vr 155),de P "_law_touched" 382 (vr 160),de P "_law_is_set" 390 (vr 167),de P "_law_is_int" 399 (vr 174),de P "_law_is_places" 405 (vr 179),de P "_law_tree" 411 (vr 184),de P "_law_says" 419 (vr 191),de P "_law_odd" 426 (vr 198),de P "_law_lot" 434 (vr 205),de P "_law_busy" 440 (vr 210),de P "_law_is_need" 446 (vr 215),de P "_law_are_needs" 452 (vr 220),de P "_law_some_need" 458 (vr 225),de P "_law_leaned" 464 (vr 230),de P "_law_bent_item" 479 (vr 237),de P "_law_bent_need" 485 (vr 242),de P "_law_things" 491 (vr 247),de P "law" 497 (vr 252)] 49) #[])::(nat_lit 15,ot (#[]) #[])::(nat_lit 17,ot (#[vs "thing" 192]) #[])::(nat_lit 18,ot (#[]) #[])::(nat_lit 20,oc (#[vs "is_int" 189,vs "is_int" 190,fcp 191,vi 2 0,vi 1 0,vi 0 0,vi 0 0,vi 3 0,vr 15,aT true,vi 181 0,vr 16,vn,vr 17,vr 18,vr 19,vi 193 0,vi 2 0,fcp 194]) #[])::(nat_lit 21,fo "is_int" 1 3 [] vn vn vn (vs "manyleaves.ints" 187) none (vr 20) vn 0)::(nat_lit 22,ot (#[]) #[])::(nat_lit 24,ot (#[vs "thing" 199,vs "least" 200,vs "most" 201]) #[])::(nat_lit 25,ot (#[]) #[])::(nat_lit 27,oc (#[vs "is_between" 196,vs "is_between" 197,fcp 198,vi 4 0,vi 3 0,vi 0 0,vi 0 0,vi 3 0,vr 22,aT true,vi 181 0,vr 23,vn,vr 24,vr 25,vr 26,vi 202 0,vi 4 0,fcp 203]) #[])::(nat_lit 28,fo "is_between" 2 3 [] vn vn vn (vs "manyleaves.ints" 187) none (vr 27) vn 0)::(nat_lit 29,ot (#[]) #[])::(nat_lit 31,ot (#[vs "items" 210,vs "at" 211]) #[])::(nat_lit 32,ot (#[]) #[])::(nat_lit 34,oc (#[vs "is_rising" 207,vs "is_rising" 208,fcp 209,vi 7 0,vi 1 0,vi 0 0,vi 0 0,vi 3 0,vr 29,aT true,vi 181 0,vr 30,vn,vr 31,vr 32,vr 33,vi 212 0,vi 7 0,fcp 213]) #[])::(nat_lit 35,fo "is_rising" 4 3 [] vn vn vn (vs "manyleaves.webs" 205) none (vr 34) vn 0)::(nat_lit 36,ot (#[]) #[])::(nat_lit 39,oc (#[vs "neighbour_rows" 215,vs "neighbour_rows" 216,fcp 217,vi 12 0,vi 1 0,vi 0 0,vi 0 0,vi 3 0,vr 36,aT true,vi 181 0,vr 37,vn,vn,vn,vr 38,vi 218 0,vi 12 0,fcp 219]) #[])::(nat_lit 40,fo "neighbour_rows" 5 3 [] vn vn vn (vs "manyleaves.webs" 205) none (vr 39) vn 0)::(nat_lit 41,ot (#[]) #[])::(nat_lit 44,oc (#[vs "touched" 221,vs "touched" 222,fcp 223,vi 19 0,vi 2 0,vi 0 0,vi 0 0,vi 3 0,vr 41,aT true,vi 181 0,vr 42,vn,vn,vn,vr 43,vi 224 0,vi 19 0,fcp 225]) #[])::(nat_lit 45,fo "touched" 6 3 [] vn vn vn (vs "manyleaves.webs" 205) none (vr 44) vn 0)::(nat_lit 46,ot (#[]) #[])::(nat_lit 48,ot (#[vs "web" 232,vs "thing" 233]) #[])::(nat_lit 49,ot (#[]) #[])::(nat_lit 51,oc (#[vs "is_place" 229,vs "is_place" 230,fcp 231,vi 29 0,vi 2 0,vi 0 0,vi 0 0,vi 3 0,vr 46,aT true,vi 181 0,vr 47,vn,vr 48,vr 49,vr 50,vi 234 0,vi 29 0,fcp 235]) #[])::(nat_lit 52,fo "is_place" 8 3 [] vn vn vn (vs "manyleaves.parts" 227) none (vr 51) vn 0)::(nat_lit 53,ot (#[]) #[])::(nat_lit 55,ot (#[vs "web" 240,vs "thing" 241,vs "item" 242]) #[])::(nat_lit 56,ot (#[]) #[])::(nat_lit 58,oc (#[vs "is_place_row" 237,vs "is_place_row" 238,fcp 239,vi 31 0,vi 2 0,vi 0 0,vi 0 0,vi 3 0,vr 53,aT true,vi 181 0,vr 54,vn,vr 55,vr 56,vr 57,vi 243 0,vi 31 0,fcp 244]) #[])::(nat_lit 59,fo "is_place_row" 9 3 [] vn vn vn (vs "manyleaves.parts" 227) none (vr 58) vn 0)::(nat_lit 60,ot (#[]) #[])::(nat_lit 63,oc (#[vs "lot_rows" 246,vs "lot_rows" 247,fcp 248,vi 38 0,vi 1 0,vi 0 0,vi 0 0,vi 3 0,vr 60,aT true,vi 181 0,vr 61,vn,vn,vn,vr 62,vi 249 0,vi 38 0,fcp 250]) #[])::(nat_lit 64,fo "lot_rows" 10 3 [] vn vn vn (vs "manyleaves.parts" 227) none (vr 63) vn 0)::(nat_lit 65,ot (#[]) #[])::(nat_lit 68,oc (#[vs "have_common" 252,vs "have_common" 253,fcp 254,vi 40 0,vi 2 0,vi 0 0,vi 0 0,vi 3 0,vr 65,aT true,vi 181 0,vr 66,vn,vn,vn,vr 67,vi 255 0,vi 40 0,fcp 256]) #[])::(nat_lit 69,fo "have_common" 11 3 [] vn vn vn (vs "manyleaves.parts" 227) none (vr 68) vn 0)::(nat_lit 70,ot (#[]) #[])::(nat_lit 73,oc (#[vs "all_but" 260,vs "all_but" 261,fcp 262,vi 43 0,vi 2 0,vi 0 0,vi 0 0,vi 3 0,vr 70,aT true,vi 181 0,vr 71,vn,vn,vn,vr 72,vi 263 0,vi 43 0,fcp 264]) #[])::(nat_lit 74,fo "all_but" 13 3 [] vn vn vn (vs "manyleaves.lean" 258) none (vr 73) vn 0)::(nat_lit 75,ot (#[]) #[])::(nat_lit 78,oc (#[vs "has_alone" 266,vs "has_alone" 267,fcp 268,vi 45 0,vi 3 0,vi 0 0,vi 0 0,vi 3 0,vr 75,aT true,vi 181 0,vr 76,vn,vn,vn,vr 77,vi 269 0,vi 45 0,fcp 270]) #[])::(nat_lit 79,fo "has_alone" 14 3 [] vn vn vn (vs "manyleaves.lean" 258) none (vr 78) vn 0)::(nat_lit 80,ot (#[]) #[])::(nat_lit 82,ot (#[vs "web" 275,vs "busy" 276,vs "place" 277,vs "thing" 278]) #[])::(nat_lit 83,ot (#[]) #[])::(nat_lit 85,oc (#[vs "right_own" 272,vs "right_own" 273,fcp 274,vi 47 0,vi 4 0,vi 0 0,vi 0 0,vi 3 0,vr 80,aT true,vi 181 0,vr 81,vn,vr 82,vr 83,vr 84,vi 279 0,vi 47 0,fcp 280]) #[])::(nat_lit 86,fo "right_own" 15 3 [] vn vn vn (vs "manyleaves.lean" 258) none (vr 85) vn 0)::(nat_lit 87,ot (#[]) #[])::(nat_lit 89,ot (#[vs "web" 285,vs "busy" 286,vs "place" 287,vs "thing" 288,vs "left" 289,vs "rest" 290]) #[])::(nat_lit 90,ot (#[]) #[])::(nat_lit 92,oc (#[vs "right_side" 282,vs "right_side" 283,fcp 284,vi 49 0,vi 4 0,vi 0 0,vi 0 0,vi 3 0,vr 87,aT true,vi 181 0,vr 88,vn,vr 89,vr 90,vr 91,vi 291 0,vi 49 0,fcp 292]) #[])::(nat_lit 93,fo "right_side" 16 3 [] vn vn vn (vs "manyleaves.lean" 258) none (vr 92) vn 0)::(nat_lit 94,ot (#[]) #[])::(nat_lit 96,ot (#[vs "web" 297,vs "busy" 298,vs "place" 299,vs "thing" 300]) #[])::(nat_lit 97,ot (#[]) #[])::(nat_lit 99,oc (#[vs "right_need" 294,vs "right_need" 295,fcp 296,vi 57 0,vi 4 0,vi 0 0,vi 0 0,vi 3 0,vr 94,aT true,vi 181 0,vr 95,vn,vr 96,vr 97,vr 98,vi 301 0,vi 57 0,fcp 302]) #[])::(nat_lit 100,fo "right_need" 17 3 [] vn vn vn (vs "manyleaves.lean" 258) none (vr 99) vn 0)::(nat_lit 101,ot (#[]) #[])::(nat_lit 103,ot (#[vs "web" 307,vs "busy" 308,vs "thing" 309,vs "place" 310,vs "need" 311]) #[])::(nat_lit 104,ot (#[]) #[])::(nat_lit 106,oc (#[vs "right_needs" 304,vs "right_needs" 305,fcp 306,vi 63 0,vi 3 0,vi 0 0,vi 0 0,vi 3 0,vr 101,aT true,vi 181 0,vr 102,vn,vr 103,vr 104,vr 105,vi 312 0,vi 63 0,fcp 313]) #[])::(nat_lit 107,fo "right_needs" 18 3 [] vn vn vn (vs "manyleaves.lean" 258) none (vr 106) vn 0)::(nat_lit 108,ot (#[]) #[])::(nat_lit 110,ot (#[vs "_law_cell" 320,vs "_law_k" 321,vs "_law_number" 322]) #[])::(nat_lit 111,ot (#[]) #[])::(nat_lit 113,oc (#[vs "_law_mixed" 317,vs "_law_mixed" 318,fcp 319,vi 71 0,vi 2 0,vi 0 0,vi 0 0,vi 3 0,vr 108,aT true,vi 181 0,vr 109,vn,vr 110,vr 111,vr 112,vi 323 0,vi 71 0,fcp 324]) #[])::(nat_lit 114,fo "_law_mixed" 20 3 [] vn vn vn (vs "law_manyleaves_k34_needs_or_not" 315) none (vr 113) vn 0)::(nat_lit 115,ot (#[]) #[])::(nat_lit 118,oc (#[vs "_law_deck" 326,vs "_law_deck" 327,fcp 328,vi 76 0,vi 2 0,vi 0 0,vi 0 0,vi 3 0,vr 115,aT true,vi 181 0,vr 116,vn,vn,vn,vr 117,vi 329 0,vi 76 0,fcp 330]) #[])::(nat_lit 119,fo "_law_deck" 21 3 [] vn vn vn (vs "law_manyleaves_k34_needs_or_not" 315) none (vr 118) vn 0)::(nat_lit 120,ot (#[]) #[])::(nat_lit 122,ot (#[vs "_law_deck_here" 335]) #[])::(nat_lit 123,ot (#[]) #[])::(nat_lit 125,oc (#[vs "_law_next" 332,vs "_law_next" 333,fcp 334,vi 88 0,vi 1 0,vi 0 0,vi 0 0,vi 3 0,vr 120,aT true,vi 181 0,vr 121,vn,vr 122,vr 123,vr 124,vi 336 0,vi 88 0,fcp 337]) #[])::(nat_lit 126,fo "_law_next" 22 3 [] vn vn vn (vs "law_manyleaves_k34_needs_or_not" 315) none (vr 125) vn 0)::(nat_lit 127,ot (#[]) #[])::(nat_lit 130,oc (#[vs "_law_turn" 339,vs "_law_turn" 340,fcp 341,vi 92 0,vi 2 0,vi 0 0,vi 0 0,vi 3 0,vr 127,aT true,vi 181 0,vr 128,vn,vn,vn,vr 129,vi 342 0,vi 92 0,fcp 343]) #[])::(nat_lit 131,fo "_law_turn" 23 3 [] vn vn vn (vs "law_manyleaves_k34_needs_or_not" 315) none (vr 130) vn 0)::(nat_lit 132,ot (#[]) #[])::(nat_lit 135,oc (#[vs "_law_web" 345,vs "_law_web" 346,fcp 347,vi 94 0,vi 3 0,vi 0 0,vi 0 0,vi 3 0,vr 132,aT true,vi 181 0,vr 133,vn,vn,vn,vr 134,vi 348 0,vi 94 0,fcp 349]) #[])::(nat_lit 136,fo "_law_web" 24 3 [] vn vn vn (vs "law_manyleaves_k34_needs_or_not" 315) none (vr 135) vn 0)::(nat_lit 137,ot (#[]) #[])::(nat_lit 140,oc (#[vs "_law_near" 351,vs "_law_near" 352,fcp 353,vi 113 0,vi 1 0,vi 0 0,vi 0 0,vi 3 0,vr 137,aT true,vi 181 0,vr 138,vn,vn,vn,vr 139,vi 354 0,vi 113 0,fcp 355]) #[])::(nat_lit 141,fo "_law_near" 25 3 [] vn vn vn (vs "law_manyleaves_k34_needs_or_not" 315) none (vr 140) vn 0)::(nat_lit 142,ot (#[]) #[])::(nat_lit 144,ot (#[vs "_law_near_here" 360,vs "_law_start" 361,vs "_law_allowed" 362,vs "_law_found" 363,vs "_law_waiting" 364,vs "_law_other" 365]) #[])::(nat_lit 145,ot (#[]) #[])::(nat_lit 147,oc (#[vs "_law_reach" 357,vs "_law_reach" 358,fcp 359,vi 119 0,vi 3 0,vi 0 0,vi 0 0,vi 3 0,vr 142,aT true,vi 181 0,vr 143,vn,vr 144,vr 145,vr 146,vi 366 0,vi 119 0,fcp 367]) #[])::(nat_lit 148,fo "_law_reach" 26 3 [] vn vn vn (vs "law_manyleaves_k34_needs_or_not" 315) none (vr 147) vn 0)::(nat_lit 149,ot (#[]) #[])::(nat_lit 151,ot (#[vs "_law_near_here" 372,vs "_law_places" 373]) #[])::(nat_lit 152,ot (#[]) #[])::(nat_lit 154,oc (#[vs "_law_hang" 369,vs "_law_hang" 370,fcp 371,vi 128 0,vi 2 0,vi 0 0,vi 0 0,vi 3 0,vr 149,aT true,vi 181 0,vr 150,vn,vr 151,vr 152,vr 153,vi 374 0,vi 128 0,fcp 375]) #[])::(nat_lit 155,fo "_law_hang" 27 3 [] vn vn vn (vs "law_manyleaves_k34_needs_or_not" 315) none (vr 154) vn 0)::(nat_lit 156,ot (#[]) #[])::(nat_lit 159,oc (#[vs "_law_touched" 377,vs "_law_touched" 378,fcp 379,vi 130 0,vi 2 0,vi 0 0,vi 0 0,vi 3 0,vr 156,aT true,vi 181 0,vr 157,vn,vn,vn,vr 158,vi 380 0,vi 130 0,fcp 381]) #[])::(nat_lit 160,fo "_law_touched" 28 3 [] vn vn vn (vs "law_manyleaves_k34_needs_or_not" 315) none (vr 159) vn 0)::(nat_lit 161,ot (#[]) #[])::(nat_lit 163,ot (#[vs "_law_near_here" 386,vs "_law_places" 387]) #[])::(nat_lit 164,ot (#[]) #[])::(nat_lit 166,oc (#[vs "_law_is_set" 383,vs "_law_is_set" 384,fcp 385,vi 133 0,vi 2 0,vi 0 0,vi 0 0,vi 3 0,vr 161,aT true,vi 181 0,vr 162,vn,vr 163,vr 164,vr 165,vi 388 0,vi 133 0,fcp 389]) #[])::(nat_lit 167,fo "_law_is_set" 29 3 [] vn vn vn (vs "law_manyleaves_k34_needs_or_not" 315) none (vr 166) vn 0)::(nat_lit 168,ot (#[]) #[])::(nat_lit 170,ot (#[vs "_law_thing" 394,vs "_law_least" 395,vs "_law_most" 396]) #[])::(nat_lit 171,ot (#[]) #[])::(nat_lit 173,oc (#[vs "_law_is_int" 391,vs "_law_is_int" 392,fcp 393,vi 135 0,vi 3 0,vi 0 0,vi 0 0,vi 3 0,vr 168,aT true,vi 181 0,vr 169,vn,vr 170,vr 171,vr 172,vi 397 0,vi 135 0,fcp 398]) #[])::(nat_lit 174,fo "_law_is_int" 30 3 [] vn vn vn (vs "law_manyleaves_k34_needs_or_not" 315) none (vr 173) vn 0)::(nat_lit 175,ot (#[]) #[])::(nat_lit 178,oc (#[vs "_law_is_places" 400,vs "_law_is_places" 401,fcp 402,vi 137 0,vi 2 0,vi 0 0,vi 0 0,vi 3 0,vr 175,aT true,vi 181 0,vr 176,vn,vn,vn,vr 177,vi 403 0,vi 137 0,fcp 404]) #[])::(nat_lit 179,fo "_law_is_places" 31 3 [] vn vn vn (vs "law_manyleaves_k34_needs_or_not" 315) none (vr 178) vn 0)::(nat_lit 180,ot (#[]) #[])::(nat_lit 183,oc (#[vs "_law_tree" 406,vs "_law_tree" 407,fcp 408,vi 141 0,vi 2 0,vi 0 0,vi 0 0,vi 3 0,vr 180,aT true,vi 181 0,vr 181,vn,vn,vn,vr 182,vi 409 0,vi 141 0,fcp 410]) #[])::(nat_lit 184,fo "_law_tree" 32 3 [] vn vn vn (vs "law_manyleaves_k34_needs_or_not" 315) none (vr 183) vn 0)::(nat_lit 185,ot (#[]) #[])::(nat_lit 187,ot (#[vs "_law_found" 415,vs "_law_due" 416]) #[])::(nat_lit 188,ot (#[]) #[])::(nat_lit 190,oc (#[vs "_law_says" 412,vs "_law_says" 413,fcp 414,vi 155 0,vi 2 0,vi 0 0,vi 0 0,vi 3 0,vr 185,aT true,vi 181 0,vr 186,vn,vr 187,vr 188,vr 189,vi 417 0,vi 155 0,fcp 418]) #[])::(nat_lit 191,fo "_law_says" 33 3 [] vn vn vn (vs "law_manyleaves_k34_needs_or_not" 315) none (vr 190) vn 0)::(nat_lit 192,ot (#[]) #[])::(nat_lit 194,ot (#[vs "_law_some" 423]) #[])::(nat_lit 195,ot (#[]) #[])::(nat_lit 197,oc (#[vs "_law_odd" 420,vs "_law_odd" 421,fcp 422,vi 157 0,vi 0 0,vi 0 0,vi 0 0,vi 3 0,vr 192,aT true,vi 181 0,vr 193,vn,vr 194,vr 195,vr 196,vi 424 0,vi 157 0,fcp 425]) #[])::(nat_lit 198,fo "_law_odd" 34 3 [] vn vn vn (vs "law_manyleaves_k34_needs_or_not" 315) none (vr 197) vn 0)::(nat_lit 199,ot (#[]) #[])::(nat_lit 201,ot (#[vs "_law_near_here" 430,vs "_law_p" 431]) #[])::(nat_lit 202,ot (#[]) #[])::(nat_lit 204,oc (#[vs "_law_lot" 427,vs "_law_lot" 428,fcp 429,vi 160 0,vi 2 0,vi 0 0,vi 0 0,vi 3 0,vr 199,aT true,vi 181 0,vr 200,vn,vr 201,vr 202,vr 203,vi 432 0,vi 160 0,fcp 433]) #[])::(nat_lit 205,fo "_law_lot" 35 3 [] vn vn vn (vs "law_manyleaves_k34_needs_or_not" 315) none (vr 204) vn 0)::(nat_lit 206,ot (#[]) #[])::(nat_lit 209,oc (#[vs "_law_busy" 435,vs "_law_busy" 436,fcp 437,vi 162 0,vi 3 0,vi 0 0,vi 0 0,vi 3 0,vr 206,aT true,vi 181 0,vr 207,vn,vn,vn,vr 208,vi 438 0,vi 162 0,fcp 439]) #[])::(nat_lit 210,fo "_law_busy" 36 3 [] vn vn vn (vs "law_manyleaves_k34_needs_or_not" 315) none (vr 209) vn 0)::(nat_lit 211,ot (#[]) #[])::(nat_lit 214,oc (#[vs "_law_is_need" 441,vs "_law_is_need" 442,fcp 443,vi 170 0,vi 4 0,vi 0 0,vi 0 0,vi 3 0,vr 211,aT true,vi 181 0,vr 212,vn,vn,vn,vr 213,vi 444 0,vi 170 0,fcp 445]) #[])::(nat_lit 215,fo "_law_is_need" 37 3 [] vn vn vn (vs "law_manyleaves_k34_needs_or_not" 315) none (vr 214) vn 0)::(nat_lit 216,ot (#[]) #[])::(nat_lit 219,oc (#[vs "_law_are_needs" 447,vs "_law_are_needs" 448,fcp 449,vi 184 0,vi 3 0,vi 0 0,vi 0 0,vi 3 0,vr 216,aT true,vi 181 0,vr 217,vn,vn,vn,vr 218,vi 450 0,vi 184 0,fcp 451]) #[])::(nat_lit 220,fo "_law_are_needs" 38 3 [] vn vn vn (vs "law_manyleaves_k34_needs_or_not" 315) none (vr 219) vn 0)::(nat_lit 221,ot (#[]) #[])::(nat_lit 224,oc (#[vs "_law_some_need" 453,vs "_law_some_need" 454,fcp 455,vi 188 0,vi 4 0,vi 0 0,vi 0 0,vi 3 0,vr 221,aT true,vi 181 0,vr 222,vn,vn,vn,vr 223,vi 456 0,vi 188 0,fcp 457]) #[])::(nat_lit 225,fo "_law_some_need" 39 3 [] vn vn vn (vs "law_manyleaves_k34_needs_or_not" 315) none (vr 224) vn 0)::(nat_lit 226,ot (#[]) #[])::(nat_lit 229,oc (#[vs "_law_leaned" 459,vs "_law_leaned" 460,fcp 461,vi 200 0,vi 3 0,vi 0 0,vi 0 0,vi 3 0,vr 226,aT true,vi 181 0,vr 227,vn,vn,vn,vr 228,vi 462 0,vi 200 0,fcp 463]) #[])::(nat_lit 230,fo "_law_leaned" 40 3 [] vn vn vn (vs "law_manyleaves_k34_needs_or_not" 315) none (vr 229) vn 0)::(nat_lit 231,ot (#[]) #[])::(nat_lit 233,ot (#[vs "_law_deck_here" 468,vs "_law_many" 469,vs "_law_busy_here" 470,vs "_law_need" 471,vs "_law_kind" 472,vs "_law_odd_here" 473,vs "_law_one" 474,vs "_law_side" 475,vs "_law_at" 476]) #[])::(nat_lit 234,ot (#[]) #[])::(nat_lit 236,oc (#[vs "_law_bent_item" 465,vs "_law_bent_item" 466,fcp 467,vi 207 0,vi 5 0,vi 0 0,vi 0 0,vi 3 0,vr 231,aT true,vi 181 0,vr 232,vn,vr 233,vr 234,vr 235,vi 477 0,vi 207 0,fcp 478]) #[])::(nat_lit 237,fo "_law_bent_item" 41 3 [] vn vn vn (vs "law_manyleaves_k34_needs_or_not" 315) none (vr 236) vn 0)::(nat_lit 238,ot (#[]) #[])::(nat_lit 241,oc (#[vs "_law_bent_need" 480,vs "_law_bent_need" 481,fcp 482,vi 219 0,vi 4 0,vi 0 0,vi 0 0,vi 3 0,vr 238,aT true,vi 181 0,vr 239,vn,vn,vn,vr 240,vi 483 0,vi 219 0,fcp 484]) #[])::(nat_lit 242,fo "_law_bent_need" 42 3 [] vn vn vn (vs "law_manyleaves_k34_needs_or_not" 315) none (vr 241) vn 0)::(nat_lit 243,ot (#[]) #[])::(nat_lit 246,oc (#[vs "_law_things" 486,vs "_law_things" 487,fcp 488,vi 234 0,vi 3 0,vi 0 0,vi 0 0,vi 3 0,vr 243,aT true,vi 181 0,vr 244,vn,vn,vn,vr 245,vi 489 0,vi 234 0,fcp 490]) #[])::(nat_lit 247,fo "_law_things" 43 3 [] vn vn vn (vs "law_manyleaves_k34_needs_or_not" 315) none (vr 246) vn 0)::(nat_lit 248,ot (#[]) #[])::(nat_lit 251,oc (#[vs "law" 492,vs "law" 493,fcp 494,vi 241 0,vi 1 0,vi 0 0,vi 0 0,vi 3 0,vr 248,aT true,vi 181 0,vr 249,vn,vn,vn,vr 250,vi 495 0,vi 241 0,fcp 496]) #[])::(nat_lit 252,fo "law" 44 3 [] vn vn vn (vs "law_manyleaves_k34_needs_or_not" 315) none (vr 251) vn 0)::[]
def viewP:Program:={PySem.Challenge.pw_manyleaves_k34_needs_or_not with main:={PySem.Challenge.pw_manyleaves_k34_needs_or_not.main with body:=[top 1,top 2,top 4,top 5,top 6,top 8,top 9,top 10,top 11,top 13,top 14,top 15,top 16,top 17,top 18,top 20,top 21,top 22,top 23,top 24,top 25,top 26,top 27,top 28,top 29,top 30,top 31,top 32,top 33,top 34,top 35,top 36,top 37,top 38,top 39,top 40,top 41,top 42,top 43,top 44]}}
def addrs:List Addr:=[2,3,15,17,18,20,21,22,24,25,27,28,29,31,32,34,35,36,39,40,41,44,45,46,48,49,51,52,53,55,56,58,59,60,63,64,65,68,69,70,73,74,75,78,79,80,82,83,85,86,87,89,90,92,93,94,96,97,99,100,101,103,104,106,107,108,110,111,113,114,115,118,119,120,122,123,125,126,127,130,131,132,135,136,137,140,141,142,144,145,147,148,149,151,152,154,155,156,159,160,161,163,164,166,167,168,170,171,173,174,175,178,179,180,183,184,185,187,188,190,191,192,194,195,197,198,199,201,202,204,205,206,209,210,211,214,215,216,219,220,221,224,225,226,229,230,231,233,234,236,237,238,241,242,243,246,247,248,251,252]
theorem addr:∀ P,addrs=(heapK P).map (·.1):=fun _=>by kernel_rfl
abbrev A_ (K:ae)(n:Str)(f:Addr):Prop:=bW K mainGlobals n=some (some (.ref f))
abbrev L_ (K:ae)(f:Addr)(oc:Value)(od:Option Addr)(n:Str)(i:Nat)(kv dc pm:Value)(an:Option Addr)(cd ct:Value)(sl:Array (Option Value)):Prop:=K.lookup f=some ⟨oc,od,.func (dZ n n (V3 (top i)) (T6 (top i)) (A7 (top i)) .none kv dc pm an cd ct),sl⟩
abbrev C_ (K:ae)(cd:Value)(n:Str):Prop:=gi K cd n=true
abbrev J_ (K:ae)(f:Addr):Prop:=fE K (.ref f)=true
theorem all_mk {l:gX}{w:World}{K:ae}{h:Heap}{mg:Str->Option Value}(X:K.In h)(G:h.Ns mainGlobals mg)(hfa:mg "law"=some (.ref fa))(a1:A_ K "_law_mixed" f1)(l1:L_ K f1 oc1 od1 "_law_mixed" 20 kV1 dc1 pm1 an1 cd1 ct1 sl1)(c1:C_ K cd1 "_law_mixed")(k1:J_ K f1)(a2:A_ K "_law_next" f2)(l2:L_ K f2 oc2 od2 "_law_next" 22 kV2 dc2 pm2 an2 cd2 ct2 sl2)(c2:C_ K cd2 "_law_next")(k2:J_ K f2)(a3:A_ K "_law_deck" f3)(l3:L_ K f3 oc3 od3 "_law_deck" 21 kV3 dc3 pm3 an3 cd3 ct3 sl3)(c3:C_ K cd3 "_law_deck")(k3:J_ K f3)(a4:A_ K "_law_turn" f4)(l4:L_ K f4 oc4 od4 "_law_turn" 23 kV4 dc4 pm4 an4 cd4 ct4 sl4)(c4:C_ K cd4 "_law_turn")(k4:J_ K f4)(a5:A_ K "_law_web" f5)(l5:L_ K f5 oc5 od5 "_law_web" 24 kV5 dc5 pm5 an5 cd5 ct5 sl5)(c5:C_ K cd5 "_law_web")(k5:J_ K f5)(a6:A_ K "_law_near" f6)(l6:L_ K f6 oc6 od6 "_law_near" 25 kV6 dc6 pm6 an6 cd6 ct6 sl6)(c6:C_ K cd6 "_law_near")(k6:J_ K f6)(a7:A_ K "neighbour_rows" f7)(l7:L_ K f7 oc7 od7 "neighbour_rows" 5 kV7 dc7 pm7 an7 cd7 ct7 sl7)(c7:C_ K cd7 "neighbour_rows")(k7:J_ K f7)(a8:A_ K "is_int" f8)(l8:L_ K f8 oc8 od8 "is_int" 1 kV8 dc8 pm8 an8 cd8 ct8 sl8)(c8:C_ K cd8 "is_int")(k8:J_ K f8)(a9:A_ K "is_between" f9)(l9:L_ K f9 oc9 od9 "is_between" 2 kV9 dc9 pm9 an9 cd9 ct9 sl9)(c9:C_ K cd9 "is_between")(k9:J_ K f9)(a10:A_ K "is_place" f10)(l10:L_ K f10 oc10 od10 "is_place" 8 kV10 dc10 pm10 an10 cd10 ct10 sl10)(c10:C_ K cd10 "is_place")(k10:J_ K f10)(a11:A_ K "is_rising" f11)(l11:L_ K f11 oc11 od11 "is_rising" 4 kV11 dc11 pm11 an11 cd11 ct11 sl11)(c11:C_ K cd11 "is_rising")(k11:J_ K f11)(a12:A_ K "is_place_row" f12)(l12:L_ K f12 oc12 od12 "is_place_row" 9 kV12 dc12 pm12 an12 cd12 ct12 sl12)(c12:C_ K cd12 "is_place_row")(k12:J_ K f12)(a13:A_ K "lot_rows" f13)(l13:L_ K f13 oc13 od13 "lot_rows" 10 kV13 dc13 pm13 an13 cd13 ct13 sl13)(c13:C_ K cd13 "lot_rows")(k13:J_ K f13)(a14:A_ K "have_common" f14)(l14:L_ K f14 oc14 od14 "have_common" 11 kV14 dc14 pm14 an14 cd14 ct14 sl14)(c14:C_ K cd14 "have_common")(k14:J_ K f14)(a15:A_ K "touched" f15)(l15:L_ K f15 oc15 od15 "touched" 6 kV15 dc15 pm15 an15 cd15 ct15 sl15)(c15:C_ K cd15 "touched")(k15:J_ K f15)(a16:A_ K "all_but" f16)(l16:L_ K f16 oc16 od16 "all_but" 13 kV16 dc16 pm16 an16 cd16 ct16 sl16)(c16:C_ K cd16 "all_but")(k16:J_ K f16)(a17:A_ K "has_alone" f17)(l17:L_ K f17 oc17 od17 "has_alone" 14 kV17 dc17 pm17 an17 cd17 ct17 sl17)(c17:C_ K cd17 "has_alone")(k17:J_ K f17)(a18:A_ K "_law_reach" f18)(l18:L_ K f18 oc18 od18 "_law_reach" 26 kV18 dc18 pm18 an18 cd18 ct18 sl18)(c18:C_ K cd18 "_law_reach")(k18:J_ K f18)(a19:A_ K "_law_hang" f19)(l19:L_ K f19 oc19 od19 "_law_hang" 27 kV19 dc19 pm19 an19 cd19 ct19 sl19)(c19:C_ K cd19 "_law_hang")(k19:J_ K f19)(a20:A_ K "_law_touched" f20)(l20:L_ K f20 oc20 od20 "_law_touched" 28 kV20 dc20 pm20 an20 cd20 ct20 sl20)(c20:C_ K cd20 "_law_touched")(k20:J_ K f20)(a21:A_ K "_law_is_set" f21)(l21:L_ K f21 oc21 od21 "_law_is_set" 29 kV21 dc21 pm21 an21 cd21 ct21 sl21)(c21:C_ K cd21 "_law_is_set")(k21:J_ K f21)(a22:A_ K "_law_lot" f22)(l22:L_ K f22 oc22 od22 "_law_lot" 35 kV22 dc22 pm22 an22 cd22 ct22 sl22)(c22:C_ K cd22 "_law_lot")(k22:J_ K f22)(a23:A_ K "_law_tree" f23)(l23:L_ K f23 oc23 od23 "_law_tree" 32 kV23 dc23 pm23 an23 cd23 ct23 sl23)(c23:C_ K cd23 "_law_tree")(k23:J_ K f23)(a24:A_ K "_law_busy" f24)(l24:L_ K f24 oc24 od24 "_law_busy" 36 kV24 dc24 pm24 an24 cd24 ct24 sl24)(c24:C_ K cd24 "_law_busy")(k24:J_ K f24)(a25:A_ K "right_own" f25)(l25:L_ K f25 oc25 od25 "right_own" 15 kV25 dc25 pm25 an25 cd25 ct25 sl25)(c25:C_ K cd25 "right_own")(k25:J_ K f25)(a26:A_ K "right_side" f26)(l26:L_ K f26 oc26 od26 "right_side" 16 kV26 dc26 pm26 an26 cd26 ct26 sl26)(c26:C_ K cd26 "right_side")(k26:J_ K f26)(a27:A_ K "right_need" f27)(l27:L_ K f27 oc27 od27 "right_need" 17 kV27 dc27 pm27 an27 cd27 ct27 sl27)(c27:C_ K cd27 "right_need")(k27:J_ K f27)(a28:A_ K "right_needs" f28)(l28:L_ K f28 oc28 od28 "right_needs" 18 kV28 dc28 pm28 an28 cd28 ct28 sl28)(c28:C_ K cd28 "right_needs")(k28:J_ K f28)(a29:A_ K "_law_is_int" f29)(l29:L_ K f29 oc29 od29 "_law_is_int" 30 kV29 dc29 pm29 an29 cd29 ct29 sl29)(c29:C_ K cd29 "_law_is_int")(k29:J_ K f29)(a30:A_ K "_law_is_places" f30)(l30:L_ K f30 oc30 od30 "_law_is_places" 31 kV30 dc30 pm30 an30 cd30 ct30 sl30)(c30:C_ K cd30 "_law_is_places")(k30:J_ K f30)(a31:A_ K "_law_leaned" f31)(l31:L_ K f31 oc31 od31 "_law_leaned" 40 kV31 dc31 pm31 an31 cd31 ct31 sl31)(c31:C_ K cd31 "_law_leaned")(k31:J_ K f31)(a32:A_ K "_law_odd" f32)(l32:L_ K f32 oc32 od32 "_law_odd" 34 kV32 dc32 pm32 an32 cd32 ct32 sl32)(c32:C_ K cd32 "_law_odd")(k32:J_ K f32)(a33:A_ K "_law_says" f33)(l33:L_ K f33 oc33 od33 "_law_says" 33 kV33 dc33 pm33 an33 cd33 ct33 sl33)(c33:C_ K cd33 "_law_says")(k33:J_ K f33)(a34:A_ K "_law_some_need" f34)(l34:L_ K f34 oc34 od34 "_law_some_need" 39 kV34 dc34 pm34 an34 cd34 ct34 sl34)(c34:C_ K cd34 "_law_some_need")(k34:J_ K f34)(a35:A_ K "_law_is_need" f35)(l35:L_ K f35 oc35 od35 "_law_is_need" 37 kV35 dc35 pm35 an35 cd35 ct35 sl35)(c35:C_ K cd35 "_law_is_need")(k35:J_ K f35)(a36:A_ K "_law_are_needs" f36)(l36:L_ K f36 oc36 od36 "_law_are_needs" 38 kV36 dc36 pm36 an36 cd36 ct36 sl36)(c36:C_ K cd36 "_law_are_needs")(k36:J_ K f36)(a37:A_ K "_law_bent_item" f37)(l37:L_ K f37 oc37 od37 "_law_bent_item" 41 kV37 dc37 pm37 an37 cd37 ct37 sl37)(c37:C_ K cd37 "_law_bent_item")(k37:J_ K f37)(a38:A_ K "_law_bent_need" f38)(l38:L_ K f38 oc38 od38 "_law_bent_need" 42 kV38 dc38 pm38 an38 cd38 ct38 sl38)(c38:C_ K cd38 "_law_bent_need")(k38:J_ K f38)(a39:A_ K "_law_things" f39)(l39:L_ K f39 oc39 od39 "_law_things" 43 kV39 dc39 pm39 an39 cd39 ct39 sl39)(c39:C_ K cd39 "_law_things")(k39:J_ K f39)(a40:A_ K "law" f40)(l40:L_ K f40 oc40 od40 "law" 44 kV40 dc40 pm40 an40 cd40 ct40 sl40)(c40:C_ K cd40 "law")(k40:J_ K f40)
  (z1:bW K mainGlobals "len"=some none) (z2:bW K mainGlobals "range"=some none) (z3:bW K mainGlobals "list"=some none) (z4:bW K mainGlobals "tuple"=some none) (z5:bW K mainGlobals "sorted"=some none) (z6:bW K mainGlobals "min"=some none) (z7:bW K mainGlobals "max"=some none) (z8:bW K mainGlobals "int"=some none) (z9:bW K mainGlobals "reversed"=some none) (z10:bW K mainGlobals "isinstance"=some none) (z11:bW K mainGlobals "bool"=some none) (z12:bW K mainGlobals "all"=some none) (z13:bW K mainGlobals "set"=some none) (z14:bW K mainGlobals "enumerate"=some none) (z15:bW K mainGlobals "zip"=some none) (z16:bW K mainGlobals "sum"=some none) (z17:bW K mainGlobals "any"=some none) (z18:bW K mainGlobals "repr"=some none) (z19:bW K mainGlobals "str"=some none) :
  ∃ fd:FuncData,(∀(s:Shared) (v:Value),BindsTo s fd ⟨[v],[]⟩ [("_law_script",v)])/\∀ base:Heap,K.In base->base.Ns mainGlobals mg->B6 l.prog w K mg base CX0 9 fa fd ["_law_script"] (sp_law K):=by
 have e:=hfa.symm.trans (aQ X G a40);cases e;have B:Bt mg:=⟨bm X G z1,bm X G z2,bm X G z3,bm X G z4,bm X G z5,bm X G z6,bm X G z7,bm X G z8,bm X G z9⟩
 have C:Bt2 mg:=⟨bm X G z10,bm X G z11,bm X G z12,bm X G z13,bm X G z14,bm X G z15⟩
 have C3:Bt3 mg:=⟨bm X G z16,bm X G z17⟩
 have C4:Bt4 mg:=⟨bm X G z18⟩
 have C5:Bt5 mg:=⟨bm X G z19⟩
 have F1:=E3 (st:=top 20) l1 c1 k1;have D1:Df K mg "_law_mixed" (top 20) f1 _ ["_law_cell", "_law_k"]:=⟨F1,F1.binds fun _ _ _ _ _ _ us hl=>L2.al2 (P:=fun us=>bindArgs _ ⟨us,[]⟩=pure (bP _ us)) (fun _ _=>rfl) us hl,aQ X G a1⟩
 have F2:=E3 (st:=top 22) l2 c2 k2;have D2:Df K mg "_law_next" (top 22) f2 _ ["_law_deck_here"]:=⟨F2,F2.binds fun _ _ _ _ _ _ us hl=>L2.al1 (P:=fun us=>bindArgs _ ⟨us,[]⟩=pure (bP _ us)) (fun _=>rfl) us hl,aQ X G a2⟩
 have F3:=E3 (st:=top 21) l3 c3 k3;have D3:Df K mg "_law_deck" (top 21) f3 _ ["_law_script", "_law_many"]:=⟨F3,F3.binds fun _ _ _ _ _ _ us hl=>L2.al2 (P:=fun us=>bindArgs _ ⟨us,[]⟩=pure (bP _ us)) (fun _ _=>rfl) us hl,aQ X G a3⟩
 have F4:=E3 (st:=top 23) l4 c4 k4;have D4:Df K mg "_law_turn" (top 23) f4 _ ["_law_deck_here", "_law_many"]:=⟨F4,F4.binds fun _ _ _ _ _ _ us hl=>L2.al2 (P:=fun us=>bindArgs _ ⟨us,[]⟩=pure (bP _ us)) (fun _ _=>rfl) us hl,aQ X G a4⟩
 have F5:=E3 (st:=top 24) l5 c5 k5;have D5:Df K mg "_law_web" (top 24) f5 _ ["_law_deck_here", "_law_least", "_law_most"]:=⟨F5,F5.binds fun _ _ _ _ _ _ us hl=>L2.al3 (P:=fun us=>bindArgs _ ⟨us,[]⟩=pure (bP _ us)) (fun _ _ _=>rfl) us hl,aQ X G a5⟩
 have F6:=E3 (st:=top 25) l6 c6 k6;have D6:Df K mg "_law_near" (top 25) f6 _ ["_law_web_here"]:=⟨F6,F6.binds fun _ _ _ _ _ _ us hl=>L2.al1 (P:=fun us=>bindArgs _ ⟨us,[]⟩=pure (bP _ us)) (fun _=>rfl) us hl,aQ X G a6⟩
 have F7:=E3 (st:=top 5) l7 c7 k7;have D7:Df K mg "neighbour_rows" (top 5) f7 _ ["web"]:=⟨F7,F7.binds fun _ _ _ _ _ _ us hl=>L2.al1 (P:=fun us=>bindArgs _ ⟨us,[]⟩=pure (bP _ us)) (fun _=>rfl) us hl,aQ X G a7⟩
 have F8:=E3 (st:=top 1) l8 c8 k8;have D8:Df K mg "is_int" (top 1) f8 _ ["thing"]:=⟨F8,F8.binds fun _ _ _ _ _ _ us hl=>L2.al1 (P:=fun us=>bindArgs _ ⟨us,[]⟩=pure (bP _ us)) (fun _=>rfl) us hl,aQ X G a8⟩
 have F9:=E3 (st:=top 2) l9 c9 k9;have D9:Df K mg "is_between" (top 2) f9 _ ["thing", "least", "most"]:=⟨F9,F9.binds fun _ _ _ _ _ _ us hl=>L2.al3 (P:=fun us=>bindArgs _ ⟨us,[]⟩=pure (bP _ us)) (fun _ _ _=>rfl) us hl,aQ X G a9⟩
 have F10:=E3 (st:=top 8) l10 c10 k10;have D10:Df K mg "is_place" (top 8) f10 _ ["web", "thing"]:=⟨F10,F10.binds fun _ _ _ _ _ _ us hl=>L2.al2 (P:=fun us=>bindArgs _ ⟨us,[]⟩=pure (bP _ us)) (fun _ _=>rfl) us hl,aQ X G a10⟩
 have F11:=E3 (st:=top 4) l11 c11 k11;have D11:Df K mg "is_rising" (top 4) f11 _ ["items"]:=⟨F11,F11.binds fun _ _ _ _ _ _ us hl=>L2.al1 (P:=fun us=>bindArgs _ ⟨us,[]⟩=pure (bP _ us)) (fun _=>rfl) us hl,aQ X G a11⟩
 have F12:=E3 (st:=top 9) l12 c12 k12;have D12:Df K mg "is_place_row" (top 9) f12 _ ["web", "thing"]:=⟨F12,F12.binds fun _ _ _ _ _ _ us hl=>L2.al2 (P:=fun us=>bindArgs _ ⟨us,[]⟩=pure (bP _ us)) (fun _ _=>rfl) us hl,aQ X G a12⟩
 have F13:=E3 (st:=top 10) l13 c13 k13;have D13:Df K mg "lot_rows" (top 10) f13 _ ["web"]:=⟨F13,F13.binds fun _ _ _ _ _ _ us hl=>L2.al1 (P:=fun us=>bindArgs _ ⟨us,[]⟩=pure (bP _ us)) (fun _=>rfl) us hl,aQ X G a13⟩
 have F14:=E3 (st:=top 11) l14 c14 k14;have D14:Df K mg "have_common" (top 11) f14 _ ["one", "other"]:=⟨F14,F14.binds fun _ _ _ _ _ _ us hl=>L2.al2 (P:=fun us=>bindArgs _ ⟨us,[]⟩=pure (bP _ us)) (fun _ _=>rfl) us hl,aQ X G a14⟩
 have F15:=E3 (st:=top 6) l15 c15 k15;have D15:Df K mg "touched" (top 6) f15 _ ["web", "places"]:=⟨F15,F15.binds fun _ _ _ _ _ _ us hl=>L2.al2 (P:=fun us=>bindArgs _ ⟨us,[]⟩=pure (bP _ us)) (fun _ _=>rfl) us hl,aQ X G a15⟩
 have F16:=E3 (st:=top 13) l16 c16 k16;have D16:Df K mg "all_but" (top 13) f16 _ ["places", "some"]:=⟨F16,F16.binds fun _ _ _ _ _ _ us hl=>L2.al2 (P:=fun us=>bindArgs _ ⟨us,[]⟩=pure (bP _ us)) (fun _ _=>rfl) us hl,aQ X G a16⟩
 have F17:=E3 (st:=top 14) l17 c17 k17;have D17:Df K mg "has_alone" (top 14) f17 _ ["lot", "busy", "place"]:=⟨F17,F17.binds fun _ _ _ _ _ _ us hl=>L2.al3 (P:=fun us=>bindArgs _ ⟨us,[]⟩=pure (bP _ us)) (fun _ _ _=>rfl) us hl,aQ X G a17⟩
 have F18:=E3 (st:=top 26) l18 c18 k18;have D18:Df K mg "_law_reach" (top 26) f18 _ ["_law_near_here", "_law_start", "_law_allowed"]:=⟨F18,F18.binds fun _ _ _ _ _ _ us hl=>L2.al3 (P:=fun us=>bindArgs _ ⟨us,[]⟩=pure (bP _ us)) (fun _ _ _=>rfl) us hl,aQ X G a18⟩
 have F19:=E3 (st:=top 27) l19 c19 k19;have D19:Df K mg "_law_hang" (top 27) f19 _ ["_law_near_here", "_law_places"]:=⟨F19,F19.binds fun _ _ _ _ _ _ us hl=>L2.al2 (P:=fun us=>bindArgs _ ⟨us,[]⟩=pure (bP _ us)) (fun _ _=>rfl) us hl,aQ X G a19⟩
 have F20:=E3 (st:=top 28) l20 c20 k20;have D20:Df K mg "_law_touched" (top 28) f20 _ ["_law_near_here", "_law_places"]:=⟨F20,F20.binds fun _ _ _ _ _ _ us hl=>L2.al2 (P:=fun us=>bindArgs _ ⟨us,[]⟩=pure (bP _ us)) (fun _ _=>rfl) us hl,aQ X G a20⟩
 have F21:=E3 (st:=top 29) l21 c21 k21;have D21:Df K mg "_law_is_set" (top 29) f21 _ ["_law_near_here", "_law_places"]:=⟨F21,F21.binds fun _ _ _ _ _ _ us hl=>L2.al2 (P:=fun us=>bindArgs _ ⟨us,[]⟩=pure (bP _ us)) (fun _ _=>rfl) us hl,aQ X G a21⟩
 have F22:=E3 (st:=top 35) l22 c22 k22;have D22:Df K mg "_law_lot" (top 35) f22 _ ["_law_near_here", "_law_p"]:=⟨F22,F22.binds fun _ _ _ _ _ _ us hl=>L2.al2 (P:=fun us=>bindArgs _ ⟨us,[]⟩=pure (bP _ us)) (fun _ _=>rfl) us hl,aQ X G a22⟩
 have F23:=E3 (st:=top 32) l23 c23 k23;have D23:Df K mg "_law_tree" (top 32) f23 _ ["_law_deck_here", "_law_web_here"]:=⟨F23,F23.binds fun _ _ _ _ _ _ us hl=>L2.al2 (P:=fun us=>bindArgs _ ⟨us,[]⟩=pure (bP _ us)) (fun _ _=>rfl) us hl,aQ X G a23⟩
 have F24:=E3 (st:=top 36) l24 c24 k24;have D24:Df K mg "_law_busy" (top 36) f24 _ ["_law_deck_here", "_law_web_here", "_law_near_here"]:=⟨F24,F24.binds fun _ _ _ _ _ _ us hl=>L2.al3 (P:=fun us=>bindArgs _ ⟨us,[]⟩=pure (bP _ us)) (fun _ _ _=>rfl) us hl,aQ X G a24⟩
 have F25:=E3 (st:=top 15) l25 c25 k25;have D25:Df K mg "right_own" (top 15) f25 _ ["web", "busy", "place", "thing"]:=⟨F25,F25.binds fun _ _ _ _ _ _ us hl=>L2.al4 (P:=fun us=>bindArgs _ ⟨us,[]⟩=pure (bP _ us)) (fun _ _ _ _=>rfl) us hl,aQ X G a25⟩
 have F26:=E3 (st:=top 16) l26 c26 k26;have D26:Df K mg "right_side" (top 16) f26 _ ["web", "busy", "place", "thing"]:=⟨F26,F26.binds fun _ _ _ _ _ _ us hl=>L2.al4 (P:=fun us=>bindArgs _ ⟨us,[]⟩=pure (bP _ us)) (fun _ _ _ _=>rfl) us hl,aQ X G a26⟩
 have F27:=E3 (st:=top 17) l27 c27 k27;have D27:Df K mg "right_need" (top 17) f27 _ ["web", "busy", "place", "thing"]:=⟨F27,F27.binds fun _ _ _ _ _ _ us hl=>L2.al4 (P:=fun us=>bindArgs _ ⟨us,[]⟩=pure (bP _ us)) (fun _ _ _ _=>rfl) us hl,aQ X G a27⟩
 have F28:=E3 (st:=top 18) l28 c28 k28;have D28:Df K mg "right_needs" (top 18) f28 _ ["web", "busy", "thing"]:=⟨F28,F28.binds fun _ _ _ _ _ _ us hl=>L2.al3 (P:=fun us=>bindArgs _ ⟨us,[]⟩=pure (bP _ us)) (fun _ _ _=>rfl) us hl,aQ X G a28⟩
 have F29:=E3 (st:=top 30) l29 c29 k29;have D29:Df K mg "_law_is_int" (top 30) f29 _ ["_law_thing", "_law_least", "_law_most"]:=⟨F29,F29.binds fun _ _ _ _ _ _ us hl=>L2.al3 (P:=fun us=>bindArgs _ ⟨us,[]⟩=pure (bP _ us)) (fun _ _ _=>rfl) us hl,aQ X G a29⟩
 have F30:=E3 (st:=top 31) l30 c30 k30;have D30:Df K mg "_law_is_places" (top 31) f30 _ ["_law_thing", "_law_many"]:=⟨F30,F30.binds fun _ _ _ _ _ _ us hl=>L2.al2 (P:=fun us=>bindArgs _ ⟨us,[]⟩=pure (bP _ us)) (fun _ _=>rfl) us hl,aQ X G a30⟩
 have F31:=E3 (st:=top 40) l31 c31 k31;have D31:Df K mg "_law_leaned" (top 40) f31 _ ["_law_near_here", "_law_busy_here", "_law_order"]:=⟨F31,F31.binds fun _ _ _ _ _ _ us hl=>L2.al3 (P:=fun us=>bindArgs _ ⟨us,[]⟩=pure (bP _ us)) (fun _ _ _=>rfl) us hl,aQ X G a31⟩
 have F32:=E3 (st:=top 34) l32 c32 k32;have D32:Df K mg "_law_odd" (top 34) f32 _ []:=⟨F32,F32.binds fun _ _ _ _ _ _ us hl=>L2.al0 (P:=fun us=>bindArgs _ ⟨us,[]⟩=pure (bP _ us)) rfl us hl,aQ X G a32⟩
 have F33:=E3 (st:=top 33) l33 c33 k33;have D33:Df K mg "_law_says" (top 33) f33 _ ["_law_found", "_law_due"]:=⟨F33,F33.binds fun _ _ _ _ _ _ us hl=>L2.al2 (P:=fun us=>bindArgs _ ⟨us,[]⟩=pure (bP _ us)) (fun _ _=>rfl) us hl,aQ X G a33⟩
 have F34:=E3 (st:=top 39) l34 c34 k34;have D34:Df K mg "_law_some_need" (top 39) f34 _ ["_law_deck_here", "_law_near_here", "_law_busy_here", "_law_place"]:=⟨F34,F34.binds fun _ _ _ _ _ _ us hl=>L2.al4 (P:=fun us=>bindArgs _ ⟨us,[]⟩=pure (bP _ us)) (fun _ _ _ _=>rfl) us hl,aQ X G a34⟩
 have F35:=E3 (st:=top 37) l35 c35 k35;have D35:Df K mg "_law_is_need" (top 37) f35 _ ["_law_near_here", "_law_busy_here", "_law_place", "_law_thing"]:=⟨F35,F35.binds fun _ _ _ _ _ _ us hl=>L2.al4 (P:=fun us=>bindArgs _ ⟨us,[]⟩=pure (bP _ us)) (fun _ _ _ _=>rfl) us hl,aQ X G a35⟩
 have F36:=E3 (st:=top 38) l36 c36 k36;have D36:Df K mg "_law_are_needs" (top 38) f36 _ ["_law_near_here", "_law_busy_here", "_law_thing"]:=⟨F36,F36.binds fun _ _ _ _ _ _ us hl=>L2.al3 (P:=fun us=>bindArgs _ ⟨us,[]⟩=pure (bP _ us)) (fun _ _ _=>rfl) us hl,aQ X G a36⟩
 have F37:=E3 (st:=top 41) l37 c37 k37;have D37:Df K mg "_law_bent_item" (top 41) f37 _ ["_law_deck_here", "_law_many", "_law_busy_here", "_law_need", "_law_kind"]:=⟨F37,F37.binds fun _ _ _ _ _ _ us hl=>L2.al5 (P:=fun us=>bindArgs _ ⟨us,[]⟩=pure (bP _ us)) (fun _ _ _ _ _=>rfl) us hl,aQ X G a37⟩
 have F38:=E3 (st:=top 42) l38 c38 k38;have D38:Df K mg "_law_bent_need" (top 42) f38 _ ["_law_deck_here", "_law_many", "_law_busy_here", "_law_need"]:=⟨F38,F38.binds fun _ _ _ _ _ _ us hl=>L2.al4 (P:=fun us=>bindArgs _ ⟨us,[]⟩=pure (bP _ us)) (fun _ _ _ _=>rfl) us hl,aQ X G a38⟩
 have F39:=E3 (st:=top 43) l39 c39 k39;have D39:Df K mg "_law_things" (top 43) f39 _ ["_law_deck_here", "_law_near_here", "_law_busy_here"]:=⟨F39,F39.binds fun _ _ _ _ _ _ us hl=>L2.al3 (P:=fun us=>bindArgs _ ⟨us,[]⟩=pure (bP _ us)) (fun _ _ _=>rfl) us hl,aQ X G a39⟩
 have F40:=E3 (st:=top 44) l40 c40 k40;refine⟨dZ "law" "law" (V3 (top 44)) (T6 (top 44)) (A7 (top 44)) .none kV40 dc40 pm40 an40 cd40 ct40,fun s v=>.of_eq rfl,fun base _ _=>?_⟩;have O1:=a7G (P:=l.prog) (w:=w) (base:=base) F1 B;have O2:=a9g (P:=l.prog) (w:=w) (base:=base) F2 B;have O3:=a9l (P:=l.prog) (w:=w) (base:=base) F3 B D1 O1;have O4:=a9c (P:=l.prog) (w:=w) (base:=base) F4 B D2 O2;have O5:=a9b (P:=l.prog) (w:=w) (base:=base) F5 B D2 O2 D4 O4;have O6:=a9h (P:=l.prog) (w:=w) (base:=base) F6 B;have O7:=a7F (P:=l.prog) (w:=w) (base:=base) F7 B;have O8:=a9f (P:=l.prog) (w:=w) (base:=base) F8 B C;have O9:=a7D (P:=l.prog) (w:=w) (base:=base) F9 B D8 O8;have O10:=a4O (P:=l.prog) (w:=w) (base:=base) F10 B D9 O9;have O11:=a9e (P:=l.prog) (w:=w) (base:=base) F11 B;have O12:=a7A (P:=l.prog) (w:=w) (base:=base) F12 B D10 O10 D11 O11 C;have O13:=a9j (P:=l.prog) (w:=w) (base:=base) F13 B D7 O7 C;have O14:=a6q (P:=l.prog) (w:=w) (base:=base) F14 B C3;have O15:=a4L (P:=l.prog) (w:=w) (base:=base) F15 B D7 O7;have O16:=a6s (P:=l.prog) (w:=w) (base:=base) F16 B;have O17:=a7L (P:=l.prog) (w:=w) (base:=base) F17 B;have O18:=a7C (P:=l.prog) (w:=w) (base:=base) F18 B;have O19:=a7K (P:=l.prog) (w:=w) (base:=base) F19 B D18 O18;have O20:=a9i (P:=l.prog) (w:=w) (base:=base) F20 B;have O21:=a7J (P:=l.prog) (w:=w) (base:=base) F21 B D19 O19 D20 O20;have O22:=a9k (P:=l.prog) (w:=w) (base:=base) F22 B;have O23:=a9d (P:=l.prog) (w:=w) (base:=base) F23 B D6 O6 D2 O2;have O24:=a6r (P:=l.prog) (w:=w) (base:=base) F24 B D6 O6 D23 O23 D2 O2;have O25:=a7B (P:=l.prog) (w:=w) (base:=base) F25 B D10 O10 D13 O13 D17 O17;have O26:=a6n (P:=l.prog) (w:=w) (base:=base) F26 B D12 O12 D16 O16 D15 O15 D14 O14;have O27:=a6o (P:=l.prog) (w:=w) (base:=base) F27 B D25 O25 D26 O26 C;have O28:=a4N (P:=l.prog) (w:=w) (base:=base) F28 B D27 O27 C;have O29:=a6p (P:=l.prog) (w:=w) (base:=base) F29 B C;have O30:=a2P (P:=l.prog) (w:=w) (base:=base) F30 B D29 O29 C;have O31:=a2O (P:=l.prog) (w:=w) (base:=base) F31 B D21 O21;have O32:=a7E (P:=l.prog) (w:=w) (base:=base) F32 B;have O33:=a7H (P:=l.prog) (w:=w) (base:=base) F33 B C;have O34:=a4M (P:=l.prog) (w:=w) (base:=base) F34 B D2 O2 D22 O22 D18 O18;have O35:=a4c (P:=l.prog) (w:=w) (base:=base) F35 B D29 O29 D22 O22 D30 O30 C;have O36:=a1L (P:=l.prog) (w:=w) (base:=base) F36 B D35 O35 C;have O37:=a4Q (P:=l.prog) (w:=w) (base:=base) F37 B D2 O2 D32 O32 C C5;have O38:=a4P (P:=l.prog) (w:=w) (base:=base) F38 B D2 O2 D37 O37 C;have O39:=a4b (P:=l.prog) (w:=w) (base:=base) F39 B D34 O34 D2 O2 D38 O38;exact a7I F40 B D28 O28 D33 O33 D3 O3 D2 O2 D5 O5 D6 O6 D24 O24 D4 O4 D31 O31 D39 O39 D32 O32 D36 O36 C4
theorem walk {l:gX}{q:Program}{loose:List Str}{XP:(Str->Option Value)->Heap->Prop}{YP:World->Heap->Prop}{d:DefRec}{K:Params->ae}(hn:l.most=some 63)(hdf:d.params.defaults=[])
  (hY:∀(w:World) (h:Heap),YP w h->(K w.params).In h)
  (F:∀(w:World) (mg:Str->Option Value) (fa:Addr) (h:Heap),(K w.params).In h->h.Ns mainGlobals mg->mg d.name=some (.ref fa) ->
   ∃ fd:FuncData,(∀(s:Shared) (u:Value),BindsTo s fd ⟨[u],[]⟩ [("_law_script",u)])/\∀ base:Heap,(K w.params).In base->base.Ns mainGlobals mg->B6 l.prog w (K w.params) mg base CX0 9 fa fd ["_law_script"] (sp_law (K w.params))) :
  PySem.W.WalkO q loose XP YP l.row.toRowW d [] (fun f vs=>jN f vs) :=
 L2.a5j (n:=63) (k:=9) (x:="_law_script") (CX:=fun _=>CX0) (sp:=fun w=>sp_law (K w.params)) hn (by decide) hdf ⟨rfl,by decide,by decide,rfl⟩ hY F (fun _ _ a ns hl _ hS=>⟨a,ns,rfl,hS,hl,fun _=>rfl⟩) fun _ _ _ _ _ z=>z
end K34
end
open PySem PySem.W PyProof.Rows
set_option maxRecDepth 100000 in
set_option maxHeartbeats 0 in
theorem K34.said:PySem.Challenge.rw_manyleaves_k34_needs_or_not.wellSaid=true:=by kernel_rfl
set_option maxRecDepth 100000 in
set_option maxHeartbeats 0 in
theorem K34.left:LeftO (ib (jh PySem.Challenge.rw_manyleaves_k34_needs_or_not)).prog K34.viewP [] (fun s=>xlAt K34.viewP [] s && recOk (RowW.records (ib (jh PySem.Challenge.rw_manyleaves_k34_needs_or_not))) s) (Hook.obs (kHook K34.heapK K34.addrs K34.addr)) (Hook.val (kHook K34.heapK K34.addrs K34.addr)) 2494:=by intro w;kernel_rfl
set_option maxRecDepth 100000 in
set_option maxHeartbeats 0 in
theorem PySem.Challenge.cw_manyleaves_k34_needs_or_not_holds : PySem.Challenge.rw_manyleaves_k34_needs_or_not.Holds := by
 w_on;refine holds_law K34.said fun said=>?_
 refine holds_open (q:=K34.viewP) (loose:=[]) (Xt:=fun s=>xlAt K34.viewP [] s && recOk (RowW.records (ib (jh PySem.Challenge.rw_manyleaves_k34_needs_or_not))) s) (XP:=XL K34.viewP []) (Yf:=Hook.obs (kHook K34.heapK K34.addrs K34.addr)) (Ya:=Hook.val (kHook K34.heapK K34.addrs K34.addr)) (YP:=Hook.says (kHook K34.heapK K34.addrs K34.addr)) (N:=2494) K34.left (Hook.of (kHook K34.heapK K34.addrs K34.addr)) (Hook.keeps (kHook K34.heapK K34.addrs K34.addr)) (fun s e=>xl_of s (jE.mp e).1) XL.keeps (by rfl) (by rfl) (by rfl) (fun s e=>recFacts_of (jE.mp e).2) (by rfl) said (by decide +kernel) ⟨rfl,rfl,rfl,rfl,rfl,by decide +kernel⟩ ?hw ?hc
 (case hw=>w_witness2)
 k_fill
 refine K34.walk (l:=PySem.Challenge.rw_manyleaves_k34_needs_or_not) rfl rfl (fun w h Y=>PySem.W.kIn_of Y) ?F
 case F =>
  intro w mg fa h KX G hmg;refine' K34.all_mk KX G hmg ?a1 ?l1 ?c1 ?k1 ?a2 ?l2 ?c2 ?k2 ?a3 ?l3 ?c3 ?k3 ?a4 ?l4 ?c4 ?k4 ?a5 ?l5 ?c5 ?k5 ?a6 ?l6 ?c6 ?k6 ?a7 ?l7 ?c7 ?k7 ?a8 ?l8 ?c8 ?k8 ?a9 ?l9 ?c9 ?k9 ?a10 ?l10 ?c10 ?k10 ?a11 ?l11 ?c11 ?k11 ?a12 ?l12 ?c12 ?k12 ?a13 ?l13 ?c13 ?k13 ?a14 ?l14 ?c14 ?k14 ?a15 ?l15 ?c15 ?k15 ?a16 ?l16 ?c16 ?k16 ?a17 ?l17 ?c17 ?k17 ?a18 ?l18 ?c18 ?k18 ?a19 ?l19 ?c19 ?k19 ?a20 ?l20 ?c20 ?k20 ?a21 ?l21 ?c21 ?k21 ?a22 ?l22 ?c22 ?k22 ?a23 ?l23 ?c23 ?k23 ?a24 ?l24 ?c24 ?k24 ?a25 ?l25 ?c25 ?k25 ?a26 ?l26 ?c26 ?k26 ?a27 ?l27 ?c27 ?k27 ?a28 ?l28 ?c28 ?k28 ?a29 ?l29 ?c29 ?k29 ?a30 ?l30 ?c30 ?k30 ?a31 ?l31 ?c31 ?k31 ?a32 ?l32 ?c32 ?k32 ?a33 ?l33 ?c33 ?k33 ?a34 ?l34 ?c34 ?k34 ?a35 ?l35 ?c35 ?k35 ?a36 ?l36 ?c36 ?k36 ?a37 ?l37 ?c37 ?k37 ?a38 ?l38 ?c38 ?k38 ?a39 ?l39 ?c39 ?k39 ?a40 ?l40 ?c40 ?k40 ?z1 ?z2 ?z3 ?z4 ?z5 ?z6 ?z7 ?z8 ?z9 ?z10 ?z11 ?z12 ?z13 ?z14 ?z15 ?z16 ?z17 ?z18 ?z19
  (case a1|a2|a3|a4|a5|a6|a7|a8|a9|a10|a11|a12|a13|a14|a15|a16|a17|a18|a19|a20|a21|a22|a23|a24|a25|a26|a27|a28|a29|a30|a31|a32|a33|a34|a35|a36|a37|a38|a39|a40=>unfold K34.A_;k_is)
  (case l1|l2|l3|l4|l5|l6|l7|l8|l9|l10|l11|l12|l13|l14|l15|l16|l17|l18|l19|l20|l21|l22|l23|l24|l25|l26|l27|l28|l29|l30|l31|l32|l33|l34|l35|l36|l37|l38|l39|l40=>unfold K34.L_;k_is)
  (case c1|c2|c3|c4|c5|c6|c7|c8|c9|c10|c11|c12|c13|c14|c15|c16|c17|c18|c19|c20|c21|c22|c23|c24|c25|c26|c27|c28|c29|c30|c31|c32|c33|c34|c35|c36|c37|c38|c39|c40=>unfold K34.C_;k_is)
  (case k1|k2|k3|k4|k5|k6|k7|k8|k9|k10|k11|k12|k13|k14|k15|k16|k17|k18|k19|k20|k21|k22|k23|k24|k25|k26|k27|k28|k29|k30|k31|k32|k33|k34|k35|k36|k37|k38|k39|k40=>unfold K34.J_;k_is)
  (case z1|z2|z3|z4|z5|z6|z7|z8|z9|z10|z11|z12|z13|z14|z15|z16|z17|z18|z19=>k_is)
