import PyProof.Rows.All
import KE.KSortTup
import KE.KDictSum
import KE.KDictOf
import KE.KNestM
import KE.KFromBytes
import KE.KTryMore
import KE.KLam
import KE.KRevIter
import KE.KMinKey
import PySem.Challenge.RW_manyleaves_k37_cheapest_by_all_sets
set_option maxHeartbeats 8000000
local macro_rules | `(tactic| omega) => `(tactic| first | lia | omega +splitDisjunctions)
local macro_rules | `(∅) => `(by omega)
local macro_rules | `(⋯) => `(List (Int × Int))
local macro_rules | `(~~~$x) => `(by simpa using $x)
open List renaming length_map->aa,getElem?_map->ah,getElem?_eq_some_iff->ai,mem_append->aj,mem_singleton->aq,length_cons->aw,map_cons->aA,mem_append_right->aB,size_toArray->aD,map_append->aE,mem_of_getElem?->aF,getElem?_eq_getElem->aG,length_append->aI,mem_cons->aL,mem_filter->aM,mem_cons_of_mem->aN,mem_cons_self->aT,take_length->aW,Nodup->bc,zip->bh,length_take->bn,sum_cons->bo,mem_map->bq,map_map->bu,any_eq_true->bC,take_succ->bI,length_singleton->bK,length_filter_le->bL,append_nil->bO,getElem?_eq_none->bQ,nodup_cons->bX,getD_eq_getElem?_getD->bZ,map_nil->ce,mem_range->cg,length_nil->ci,pairwise_map->ck,filterMap_cons_some->cm,pairwise_cons->cq,perm_ext_iff_of_nodup->cB,getElem?_append_right->cC,getElem_of_mem->cE,exists_mem_of_ne_nil->cG,nil_append->cH,filterMap_cons_none->cJ,cons_append->cK,getElem?_set_ne->cL,filter_cons_of_pos->cP,filter_cons_of_neg->cQ,ext_getElem?->cV,map_congr_left->cW,take_of_length_le->cY,getElem?_set_self->cZ,mem_iff_getElem?->di,pairwise_iff_getElem->dm,getElem?_append_left->dn,mem_append_left->dq,replicate_succ->dz,mem_map_of_mem->dA,length_pos_iff->dB,filterMap_cons->dC,any_cons->dD,nodup_append->dO,length_set->eu,getElem?_cons_succ->eB,find?_cons->eD,filter_eq_nil_iff->eL,reverse_cons->eM,take_zero->eR,length_replicate->eT,all_eq_true->eU,flatten_cons->fu,pairwise_singleton->fG,length->fH,length_pos_of_mem->fQ,of_mem_zip->fV,replicate_succ'->gh,length_reverse->gn,getElem?_range->gt,filter_append->gC,all_cons->gD,length_range->gN,getElem?_inj->gO,not_mem_nil->gU,range_succ->hX,foldl_cons->hZ,perm_append_singleton->im,nodup_nil->iw,getElem?_zip_eq_some->ix,sublist_append_left->iE,length_erase_of_mem->iF,getElem?_take_of_lt->iG,length_eq_zero_iff->iL,getElem?_replicate->iM,getElem?_cons_zero->iN,range_succ_eq_map->iV,pairwise_lt_range->iW,sum_nil->i8,any_map->i9,perm_cons_erase->jn,pairwise_append->jo,mem_of_mem_take->jp,mem_iff_getElem->jq,mem_erase_of_ne->jr,length_dropLast->js,mergeSort_perm->jz,map_id->jA,filter_sublist->jB,filter_eq_self->jC,set_cons_zero->jH,set_cons_succ->jI,mem_filterMap->jJ,take_sublist->jO,foldl_append->jP,foldl->jQ,append_assoc->jR
open PySem.W renaming Frag->ac,mg_of->aC,findIn->aQ,nsIn->aZ,mg_none_of->ba,mroIn->bA,kitOne->bF,fnOf->cj,kia_one->cn,clsIn->cD,emptyDict->cM,codeIn->du,instObj->dH,hideAll_get->eV,keepIn->fg,cellsFrom_some->fv,hideAll->fL,OpenLaw->fM,callWith_K->gj,methodObj->gw,exmOne->gY,CodeHd->g4,WalkO->ig,of_hideAll->iY,codeRec_of->iZ,plainOver->jd,kitx_list->je,kitx_dict->jf,hasDictIn->jg,kla_obj->jE,looks_findIn->jU
open PySem renaming wpAny_bind->ae,wpAny_pure->ag,boot_len->bi,wpAny_mono->bB,wpAny_holding->bJ,wpAny_Call_Name_kw->bR,wpAny_truthy_bool->cb,wpAny_newObj_type->cc,wpAny_tryCatch->cw,wpAny_call_entry->cR,wpAny_standAt->dG,wpAny_typeNameOfWhole_keyiter->dJ,wpAny_updateSeq->dQ,wpAny_passesOwn->dR,wpAny_pyIter_list->dY,mem_of_lookup->dZ,wpAny_seqItems->ef,wpAny_letGo->eF,wpAny_typeNameOf_keyiter->eG,wpAny_comprehension_free->eI,wpAny_execs_nil->eN,wpAny_callSpecial?_slot->eO,wpAny_askSetting->ff,wpAny_pyIter_tuple->fB,wpAny_setField->fK,wpAny_setState_of->fR,wpAny_dictEntries->fT,wpAny_of_eq->fW,wpAny_newList->fX,wpAny_attempt->fY,wpAny_isInstance->gg,wpAny_ite_split->gv,wpAny_newFunctionEnv->gF,Addr->gK,wpAny_fieldsOf->gM,wpAny_setEntries_of->gQ,seq_tuple_add->gX,wpAny_pyIter_slot->ia,wpAny_call->ib,wpAny_assign_Name->ic,call_meets->ie,wpAny_typeOf->iq,concat_meets->ir,call->iu,wpAny_execs_cons->iz,wpAny_specialOf->iO,wpAny_dictEpoch->iP,Within->iQ,wpAny_newFunctionEnv_cells->iX,wpAny_runValue->jb,wpAny_load->ju,wpAny_isTrue_Compare1->jS,wpAny_isOneOf_keyiter->jT,wpAny_evalAll_cons->jW,wpAny_storeSet_of->j5,wpAny_rule->j6,wpAny_pyIter_enum->j7,wpAny_loadPart_at->j8,wpAny_evalAll_nil->j9,wpAny_Name->ke,wpAny_Assign_Name->kg,slot_list_getitem->kh,fits_of_scanBound->ki
open PySem.Heap renaming get?_push_of_some->af,lt_size->ar,get?_push_size->au,get?_update_self->dg,SameBut->dh,size_push->dU,get?_update_other->fP,FlyingW->i5,ExtBut->jv,get?_push_ne->jL
open Option.some renaming inj->ak
open Nat renaming le_refl->ao,ne_of_lt->aK,lt_of_lt_of_le->aO,le_trans->aV,zero_le->bf,lt_irrefl->bG,lt_or_ge->bN,not_lt_zero->cr,le_of_lt->cz,ne_of_gt->dw,le_of_eq->dy,le_succ->dM,le_of_lt_succ->eQ,lt_succ_self->eY,succ_pos->fk,lt_trichotomy->fz,lt_succ_of_lt->fA,zero_add->gc,lt_trans->ge,pow_lt_pow_succ->gx,mod_lt->gT,min_le_left->il,succ_add->jk,le_of_ble_eq_true->jl,add_zero->jm,lt_of_le_of_lt->jM,eq_zero_or_pos->jN
open PySem.Value renaming type->aH,bool->aJ,ref->bw,builtin->bY,int->cA,none->cI,isInt_shape->fq,str->g5
open Bool renaming false_ne_true->aP,false_eq_true->bE,and_eq_true->df,eq_iff_iff->fe,false_and->fm,true_and->fJ,not_eq_true'->gP,not_eq_true->gW,and_eq_true_iff->jt
open Classical renaming byContradiction->aR,not_not->gk
open PySem.Str renaming ofString->aS
open Array renaming length_toList->aU,getElem?_eq_getElem->aY,getElem?_toList->bP,getElem?_eq_none->bT,replicate->fc,size_map->gi,toList_push->gL,perm_iff_toList_perm->h7,toArray_toList->ja,append_assoc->jD
open PySem.PassesOwn renaming never->aX
open PySem.F renaming plain_max_loop->bd,entry_max_loop->cU,slot_dict_keyiterator_next->dL,args_tuple_add_2->dW,entry_tuple_add->d8,slot_tuple_add->ei,slot_dict_delitem->g6,args_dict_keyiterator_next_1->g8,plain_list_iadd->ii,plainAttrs_list->ij,entry_dict_keyiterator_next->ik,slot_set_iter->iC,plain_set_new->iD,plain_max->jh,entry_max->ji,typeOf_object_class->jF
open PySem.Heap.SameBut renaming update->bj
open Sum renaming inl->bp,inr->h8
open Int renaming toNat_of_nonneg->bx,toNat_natCast->bD,emod_lt_of_pos->cu,emod_nonneg->da,mul_one->fO,zero_add->gf,fdiv_eq_ediv_of_nonneg->iy,le_refl->jK
open PySem.NameKind renaming free->bz,cell->cf
open PyProof.Rows renaming boot_isinstance->bH,callWith_type1->bU,wpS_bind->bV,boot_tuple->cO,wpS_pure->cX,boot_sorted->dS,wpS_forRange->fE,callWith_builtin1->gb,setArr->hG,mirror->hV,bubble->hW,boot_max->iK,mirror_perm->iT,wpS_modify->jx,size_push'->jy,wpS_get->jG,entry_proto_collect'->jV,wpS_mono->jX,boot_min->jY,boot_int->jZ,boot_range->kj
open PySem.Around renaming under_plainId->bM,frames_deeper->iS
open False renaming elim->bS
open ForInStep renaming yield->bW,done->fb
open PySem.PyData renaming int->cp
open PyProof.Rows.KeyOrd renaming kle_refl->cF,kle_of_klt->fj,kle_trans->fw,kle_antisymm->i6
open True renaming intro->cS
open List.Pairwise renaming filter->db,imp_of_mem->gE,nil->io,and->ip
open PySem.Builtin.Builtins renaming bindParams->dr
open PySem.ClassData renaming mk->dE
open Option renaming toList_some->dF,isSome_iff_exists->d0,isSome_map->gz,none->i7
open PySem.Obj renaming data_mapFields->dI,isFreed_of_fields->fZ,mapFields->gH,cls_mapFields->gR,putSet->iI
open Ne renaming symm->dN
open List.Perm renaming eq_of_pairwise->dP,length_eq->iH
open PySem.Data renaming dict->dX,cls->fD,fields->jw
open PySem.Paired renaming length->d9
open PySem.Builtin renaming bitAnd->eJ
open List.Sublist renaming refl->eZ
open PySem.Calls renaming spliced_cons->fh,spliced_nil->ft,Name_function_global->g9,callWith_builtin->iJ
open Nat.succ renaming inj->fF
open PySem.Builtin.Dict_items renaming ownsTuple->fN
open PyProof.Rows.F renaming plain_set_update_loop->fU,entry_set_update_loop->jj
open PySem.Code renaming quiet_builtin->gy
open PySem.Walks renaming list->gG,tuple->jc
open PySem.Builtin.Range renaming rangeSize->gJ,small->g7
open PySem.W.OpenRow renaming toRowW->gZ
open PySem.SeqAt.EqAt renaming str_int->iA,int_str->iB
open PySem.W.OpenLaw renaming row->iR
open PyProof.Rows.IsTup renaming new->iU
set_option Elab.async false
set_option linter.all false
set_option maxRecDepth 100000
set_option maxHeartbeats 8000000
set_option compiler.extract_closed false
section
set_option Elab.async false
set_option linter.all false
set_option maxRecDepth 100000
set_option maxHeartbeats 4000000
namespace L2
open PySem
def P7 (s:Stmt):Arguments:=match s with
 | .FunctionDef _ a _ _ _ _ _ _ _ _=>a
 | _=>{posonlyargs:=[],args:=[],vararg:=none,kwonlyargs:=[],kw_defaults:=[],kwarg:=none,defaults:=[]}
def M9 (s:Stmt):List Stmt:=match s with
 | .FunctionDef _ _ b _ _ _ _ _ _ _=>b
 | _=>[]
def A4 (s:Stmt):Scope:=match s with
 | .FunctionDef _ _ _ _ _ _ sc _ _ _=>sc
 | _=>{kind:=.function,names:=[],isGenerator:=false,isCoroutine:=false}
end L2
namespace K37
open PySem L2
def top (i:Nat):Stmt:=PySem.Challenge.pw_manyleaves_k37_cheapest_by_all_sets.main.body.getD i (.Pass ⟨0,0,0,0⟩)
def vs (s:String)(t:Tok):Value:=.str (aS s) t
def vi (i:Int)(t:Tok):Value:=.int i t
def vr (a:Addr):Value:=.ref a
def vn:Value:=.none
def fcp:Tok->Value:=vs "/claim/cut.py"
def de (P:Params)(s:String)(t:Tok)(v:Value):DictEntry:=⟨PyData.keyHash P (aS s),.str (aS s) t,v⟩
def ot (a:Array Value)(l:Array (Option Value)):Obj:=⟨.type "tuple",none,.seq a,l⟩
def oc (a:Array Value)(l:Array (Option Value)):Obj:=⟨.type "code",none,.fields a,l⟩
def fo (n:String)(i:Nat)(g:Addr)(cl:List (Str×Addr))(a b c d:Value)(e:Option Addr)(f h:Value)(k:Addr):Obj:=⟨.type "function",none,.func ⟨aS n,aS n,P7 (top i),.stmts (M9 (top i)),A4 (top i),g,cl,a,b,c,d,e,f,h,k⟩,#[]⟩
def heapK:Params->ac:=λP=>(nat_lit 2,Obj.mk vn none (dX #[]) #[])::(nat_lit 3,Obj.mk (aH "dict") none (dX #[de P "__name__" 165 (vs "law_manyleaves_k37_cheapest_by_all_sets" 608),de P "__doc__" 166 vn,de P "__package__" 167 vn,de P "__loader__" 168 (bY "__main__.__loader__#opaque"),de P "__spec__" 169 vn,de P "__annotations__" 170 (vr 6),de P "__builtins__" 171 (vr 4),de P "__file__" 173 (fcp 172),de P "__cached__" 174 vn,de P "is_int" 195 (vr 21),de P "is_between" 204 (vr 28),de P "LeafError" 224 (vr 38),de P "NoWeb" 240 (vr 51),de P "TooGreat" 256 (vr 63),de P "NoSet" 272 (vr 75),de P "Taken" 288 (vr 87),de P "TooMany" 304 (vr 99),de P "NoTie" 320 (vr 111),de P "Apart" 336 (vr 123),de P "NoText" 352 (vr 135),de P "is_rising" 362 (vr 144),de P "neighbour_rows" 368 (vr 149),de P "touched" 374 (vr 154),de P "piece_from" 387 (vr 161),de P "pieces" 393 (vr 166),de P "is_place" 403 (vr 173),de P "is_place_row" 412 (vr 180),de P "lot_rows" 418 (vr 185),de P "have_common" 424 (vr 190),de P "places_but" 430 (vr 195),de P "free_places" 439 (vr 202),de P "with_place" 447 (vr 209),de P "price_of" 453 (vr 214),de P "added" 464 (vr 221),de P "worth_added" 472 (vr 226),de P "is_worth_above" 484 (vr 233),de P "share_left" 490 (vr 238),de P "raised" 507 (vr 245),de P "is_thin" 515 (vr 250),de P "why_not" 530 (vr 257),de P "is_over" 541 (vr 264),de P "is_known_thin" 547 (vr 269),de P "right_set" 557 (vr 276),de P "MOST_EXACT" 561 (vi 12 560),de P "end_of" 574 (vr 283),de P "place_to_part" 580 (vr 288),de P "best_and_cases" 595 (vr 295),de P "cheapest_set" 607 (vr 302),de P "_law_mixed" 618 (vr 309),de P "_law_deck" 624 (vr 314),de P "_law_next" 631 (vr 321),de P "_law_turn" 637 (vr 326),de P "_law_web" 643 (vr 331),de P "_law_near" 649 (vr 336),de P "_law_reach" 661 (vr 343),de P "_law_hang" 669 (vr 350),de P "_law_touched" 675 (vr 355),de P "_law_is_set" 683 (vr 362),de P "_law_all_sets" 689 (vr 367),de P "_law_is_int" 698 (vr 374),de P "_law_is_places" 704 (vr 379),de P "_law_state" 717 (vr 386),de P "_law_prices" 723 (vr 391),de P "_law_price" 729 (vr 396),de P "_law_keeping" 735 (vr 401),de P "_law_refusal" 743 (vr 408),de P "_law_told_set" 755 (vr 415),de P "_law_good" 761 (vr 420),de P "law" 774 (vr 427)] 69) #[])::(nat_lit 15,ot (#[]) #[])::(nat_lit 17,ot (#[vs "thing" 192]) #[])::(nat_lit 18,ot (#[]) #[])::(nat_lit 20,oc (#[vs "is_int" 189,vs "is_int" 190,fcp 191,vi 2 0,vi 1 0,vi 0 0,vi 0 0,vi 3 0,vr 15,aJ true,vi 181 0,vr 16,vn,vr 17,vr 18,vr 19,vi 193 0,vi 2 0,fcp 194]) #[])::(nat_lit 21,fo "is_int" 1 3 [] vn vn vn (vs "manyleaves.ints" 187) none (vr 20) vn 0)::(nat_lit 22,ot (#[]) #[])::(nat_lit 24,ot (#[vs "thing" 199,vs "least" 200,vs "most" 201]) #[])::(nat_lit 25,ot (#[]) #[])::(nat_lit 27,oc (#[vs "is_between" 196,vs "is_between" 197,fcp 198,vi 4 0,vi 3 0,vi 0 0,vi 0 0,vi 3 0,vr 22,aJ true,vi 181 0,vr 23,vn,vr 24,vr 25,vr 26,vi 202 0,vi 4 0,fcp 203]) #[])::(nat_lit 28,fo "is_between" 2 3 [] vn vn vn (vs "manyleaves.ints" 187) none (vr 27) vn 0)::(nat_lit 29,ot (#[aH "ValueError"]) #[])::(nat_lit 36,ot (#[]) #[])::(nat_lit 37,Obj.mk (aH "dict") none (dX #[de P "__module__" 214 (vs "manyleaves.errors" 205),de P "__firstlineno__" 218 (vi 7 217),de P "__static_attributes__" 219 (vr 36),de P "__weakref__" 221 (vr 39),de P "__doc__" 222 vn] 3) #[])::(nat_lit 38,Obj.mk (aH "type") none (fD (dE (aS "LeafError") [aH "ValueError"] [vr 38,aH "ValueError",aH "Exception",aH "BaseException",aH "object"] 37 (aS "LeafError") true [] [vr 51,vr 63,vr 75,vr 87,vr 99,vr 111,vr 123,vr 135] false none false)) #[some (vr 29),none,some (vs "LeafError" 207),some (vs "LeafError" 215),some (bY "ValueError.__new__"),some (aJ true)])::(nat_lit 39,Obj.mk (aH "getset_descriptor") none (jw #[vs "__weakref__" 220,vr 38,bY "ExceptionGroup.__weakref__",vn]) #[])::(nat_lit 42,ot (#[vr 38]) #[])::(nat_lit 49,ot (#[]) #[])::(nat_lit 50,Obj.mk (aH "dict") none (dX #[de P "__module__" 232 (vs "manyleaves.errors" 205),de P "__firstlineno__" 236 (vi 9 235),de P "__static_attributes__" 237 (vr 49),de P "__doc__" 238 vn] 2) #[])::(nat_lit 51,Obj.mk (aH "type") none (fD (dE (aS "NoWeb") [vr 38] [vr 51,vr 38,aH "ValueError",aH "Exception",aH "BaseException",aH "object"] 50 (aS "NoWeb") true [] [] false none false)) #[some (vr 42),none,some (vs "NoWeb" 225),some (vs "NoWeb" 233),some (bY "ValueError.__new__"),some (aJ true)])::(nat_lit 54,ot (#[vr 38]) #[])::(nat_lit 61,ot (#[]) #[])::(nat_lit 62,Obj.mk (aH "dict") none (dX #[de P "__module__" 248 (vs "manyleaves.errors" 205),de P "__firstlineno__" 252 (vi 11 251),de P "__static_attributes__" 253 (vr 61),de P "__doc__" 254 vn] 2) #[])::(nat_lit 63,Obj.mk (aH "type") none (fD (dE (aS "TooGreat") [vr 38] [vr 63,vr 38,aH "ValueError",aH "Exception",aH "BaseException",aH "object"] 62 (aS "TooGreat") true [] [] false none false)) #[some (vr 54),none,some (vs "TooGreat" 241),some (vs "TooGreat" 249),some (bY "ValueError.__new__"),some (aJ true)])::(nat_lit 66,ot (#[vr 38]) #[])::(nat_lit 73,ot (#[]) #[])::(nat_lit 74,Obj.mk (aH "dict") none (dX #[de P "__module__" 264 (vs "manyleaves.errors" 205),de P "__firstlineno__" 268 (vi 13 267),de P "__static_attributes__" 269 (vr 73),de P "__doc__" 270 vn] 2) #[])::(nat_lit 75,Obj.mk (aH "type") none (fD (dE (aS "NoSet") [vr 38] [vr 75,vr 38,aH "ValueError",aH "Exception",aH "BaseException",aH "object"] 74 (aS "NoSet") true [] [] false none false)) #[some (vr 66),none,some (vs "NoSet" 257),some (vs "NoSet" 265),some (bY "ValueError.__new__"),some (aJ true)])::(nat_lit 78,ot (#[vr 38]) #[])::(nat_lit 85,ot (#[]) #[])::(nat_lit 86,Obj.mk (aH "dict") none (dX #[de P "__module__" 280 (vs "manyleaves.errors" 205),de P "__firstlineno__" 284 (vi 15 283),de P "__static_attributes__" 285 (vr 85),de P "__doc__" 286 vn] 2) #[])::(nat_lit 87,Obj.mk (aH "type") none (fD (dE (aS "Taken") [vr 38] [vr 87,vr 38,aH "ValueError",aH "Exception",aH "BaseException",aH "object"] 86 (aS "Taken") true [] [] false none false)) #[some (vr 78),none,some (vs "Taken" 273),some (vs "Taken" 281),some (bY "ValueError.__new__"),some (aJ true)])::(nat_lit 90,ot (#[vr 38]) #[])::(nat_lit 97,ot (#[]) #[])::(nat_lit 98,Obj.mk (aH "dict") none (dX #[de P "__module__" 296 (vs "manyleaves.errors" 205),de P "__firstlineno__" 300 (vi 17 299),de P "__static_attributes__" 301 (vr 97),de P "__doc__" 302 vn] 2) #[])::(nat_lit 99,Obj.mk (aH "type") none (fD (dE (aS "TooMany") [vr 38] [vr 99,vr 38,aH "ValueError",aH "Exception",aH "BaseException",aH "object"] 98 (aS "TooMany") true [] [] false none false)) #[some (vr 90),none,some (vs "TooMany" 289),some (vs "TooMany" 297),some (bY "ValueError.__new__"),some (aJ true)])::(nat_lit 102,ot (#[vr 38]) #[])::(nat_lit 109,ot (#[]) #[])::(nat_lit 110,Obj.mk (aH "dict") none (dX #[de P "__module__" 312 (vs "manyleaves.errors" 205),de P "__firstlineno__" 316 (vi 19 315),de P "__static_attributes__" 317 (vr 109),de P "__doc__" 318 vn] 2) #[])::(nat_lit 111,Obj.mk (aH "type") none (fD (dE (aS "NoTie") [vr 38] [vr 111,vr 38,aH "ValueError",aH "Exception",aH "BaseException",aH "object"] 110 (aS "NoTie") true [] [] false none false)) #[some (vr 102),none,some (vs "NoTie" 305),some (vs "NoTie" 313),some (bY "ValueError.__new__"),some (aJ true)])::(nat_lit 114,ot (#[vr 38]) #[])::(nat_lit 121,ot (#[]) #[])::(nat_lit 122,Obj.mk (aH "dict") none (dX #[de P "__module__" 328 (vs "manyleaves.errors" 205),de P "__firstlineno__" 332 (vi 21 331),de P "__static_attributes__" 333 (vr 121),de P "__doc__" 334 vn] 2) #[])::(nat_lit 123,Obj.mk (aH "type") none (fD (dE (aS "Apart") [vr 38] [vr 123,vr 38,aH "ValueError",aH "Exception",aH "BaseException",aH "object"] 122 (aS "Apart") true [] [] false none false)) #[some (vr 114),none,some (vs "Apart" 321),some (vs "Apart" 329),some (bY "ValueError.__new__"),some (aJ true)])::(nat_lit 126,ot (#[vr 38]) #[])::(nat_lit 133,ot (#[]) #[])::(nat_lit 134,Obj.mk (aH "dict") none (dX #[de P "__module__" 344 (vs "manyleaves.errors" 205),de P "__firstlineno__" 348 (vi 23 347),de P "__static_attributes__" 349 (vr 133),de P "__doc__" 350 vn] 2) #[])::(nat_lit 135,Obj.mk (aH "type") none (fD (dE (aS "NoText") [vr 38] [vr 135,vr 38,aH "ValueError",aH "Exception",aH "BaseException",aH "object"] 134 (aS "NoText") true [] [] false none false)) #[some (vr 126),none,some (vs "NoText" 337),some (vs "NoText" 345),some (bY "ValueError.__new__"),some (aJ true)])::(nat_lit 138,ot (#[]) #[])::(nat_lit 140,ot (#[vs "items" 358,vs "at" 359]) #[])::(nat_lit 141,ot (#[]) #[])::(nat_lit 143,oc (#[vs "is_rising" 355,vs "is_rising" 356,fcp 357,vi 26 0,vi 1 0,vi 0 0,vi 0 0,vi 3 0,vr 138,aJ true,vi 181 0,vr 139,vn,vr 140,vr 141,vr 142,vi 360 0,vi 26 0,fcp 361]) #[])::(nat_lit 144,fo "is_rising" 14 3 [] vn vn vn (vs "manyleaves.webs" 353) none (vr 143) vn 0)::(nat_lit 145,ot (#[]) #[])::(nat_lit 148,oc (#[vs "neighbour_rows" 363,vs "neighbour_rows" 364,fcp 365,vi 31 0,vi 1 0,vi 0 0,vi 0 0,vi 3 0,vr 145,aJ true,vi 181 0,vr 146,vn,vn,vn,vr 147,vi 366 0,vi 31 0,fcp 367]) #[])::(nat_lit 149,fo "neighbour_rows" 15 3 [] vn vn vn (vs "manyleaves.webs" 353) none (vr 148) vn 0)::(nat_lit 150,ot (#[]) #[])::(nat_lit 153,oc (#[vs "touched" 369,vs "touched" 370,fcp 371,vi 38 0,vi 2 0,vi 0 0,vi 0 0,vi 3 0,vr 150,aJ true,vi 181 0,vr 151,vn,vn,vn,vr 152,vi 372 0,vi 38 0,fcp 373]) #[])::(nat_lit 154,fo "touched" 16 3 [] vn vn vn (vs "manyleaves.webs" 353) none (vr 153) vn 0)::(nat_lit 155,ot (#[]) #[])::(nat_lit 157,ot (#[vs "rows" 378,vs "among" 379,vs "start" 380,vs "met" 381,vs "waiting" 382,vs "place" 383,vs "other" 384]) #[])::(nat_lit 158,ot (#[]) #[])::(nat_lit 160,oc (#[vs "piece_from" 375,vs "piece_from" 376,fcp 377,vi 47 0,vi 3 0,vi 0 0,vi 0 0,vi 3 0,vr 155,aJ true,vi 181 0,vr 156,vn,vr 157,vr 158,vr 159,vi 385 0,vi 47 0,fcp 386]) #[])::(nat_lit 161,fo "piece_from" 17 3 [] vn vn vn (vs "manyleaves.webs" 353) none (vr 160) vn 0)::(nat_lit 162,ot (#[]) #[])::(nat_lit 165,oc (#[vs "pieces" 388,vs "pieces" 389,fcp 390,vi 57 0,vi 2 0,vi 0 0,vi 0 0,vi 3 0,vr 162,aJ true,vi 181 0,vr 163,vn,vn,vn,vr 164,vi 391 0,vi 57 0,fcp 392]) #[])::(nat_lit 166,fo "pieces" 18 3 [] vn vn vn (vs "manyleaves.webs" 353) none (vr 165) vn 0)::(nat_lit 167,ot (#[]) #[])::(nat_lit 169,ot (#[vs "web" 399,vs "thing" 400]) #[])::(nat_lit 170,ot (#[]) #[])::(nat_lit 172,oc (#[vs "is_place" 396,vs "is_place" 397,fcp 398,vi 69 0,vi 2 0,vi 0 0,vi 0 0,vi 3 0,vr 167,aJ true,vi 181 0,vr 168,vn,vr 169,vr 170,vr 171,vi 401 0,vi 69 0,fcp 402]) #[])::(nat_lit 173,fo "is_place" 20 3 [] vn vn vn (vs "manyleaves.parts" 394) none (vr 172) vn 0)::(nat_lit 174,ot (#[]) #[])::(nat_lit 176,ot (#[vs "web" 407,vs "thing" 408,vs "item" 409]) #[])::(nat_lit 177,ot (#[]) #[])::(nat_lit 179,oc (#[vs "is_place_row" 404,vs "is_place_row" 405,fcp 406,vi 71 0,vi 2 0,vi 0 0,vi 0 0,vi 3 0,vr 174,aJ true,vi 181 0,vr 175,vn,vr 176,vr 177,vr 178,vi 410 0,vi 71 0,fcp 411]) #[])::(nat_lit 180,fo "is_place_row" 21 3 [] vn vn vn (vs "manyleaves.parts" 394) none (vr 179) vn 0)::(nat_lit 181,ot (#[]) #[])::(nat_lit 184,oc (#[vs "lot_rows" 413,vs "lot_rows" 414,fcp 415,vi 78 0,vi 1 0,vi 0 0,vi 0 0,vi 3 0,vr 181,aJ true,vi 181 0,vr 182,vn,vn,vn,vr 183,vi 416 0,vi 78 0,fcp 417]) #[])::(nat_lit 185,fo "lot_rows" 22 3 [] vn vn vn (vs "manyleaves.parts" 394) none (vr 184) vn 0)::(nat_lit 186,ot (#[]) #[])::(nat_lit 189,oc (#[vs "have_common" 419,vs "have_common" 420,fcp 421,vi 80 0,vi 2 0,vi 0 0,vi 0 0,vi 3 0,vr 186,aJ true,vi 181 0,vr 187,vn,vn,vn,vr 188,vi 422 0,vi 80 0,fcp 423]) #[])::(nat_lit 190,fo "have_common" 23 3 [] vn vn vn (vs "manyleaves.parts" 394) none (vr 189) vn 0)::(nat_lit 191,ot (#[]) #[])::(nat_lit 194,oc (#[vs "places_but" 425,vs "places_but" 426,fcp 427,vi 82 0,vi 2 0,vi 0 0,vi 0 0,vi 3 0,vr 191,aJ true,vi 181 0,vr 192,vn,vn,vn,vr 193,vi 428 0,vi 82 0,fcp 429]) #[])::(nat_lit 195,fo "places_but" 24 3 [] vn vn vn (vs "manyleaves.parts" 394) none (vr 194) vn 0)::(nat_lit 196,ot (#[]) #[])::(nat_lit 198,ot (#[vs "web" 434,vs "held" 435,vs "barred" 436]) #[])::(nat_lit 199,ot (#[]) #[])::(nat_lit 201,oc (#[vs "free_places" 431,vs "free_places" 432,fcp 433,vi 85 0,vi 3 0,vi 0 0,vi 0 0,vi 3 0,vr 196,aJ true,vi 181 0,vr 197,vn,vr 198,vr 199,vr 200,vi 437 0,vi 85 0,fcp 438]) #[])::(nat_lit 202,fo "free_places" 25 3 [] vn vn vn (vs "manyleaves.parts" 394) none (vr 201) vn 0)::(nat_lit 203,ot (#[]) #[])::(nat_lit 205,ot (#[vs "places" 443,vs "place" 444]) #[])::(nat_lit 206,ot (#[]) #[])::(nat_lit 208,oc (#[vs "with_place" 440,vs "with_place" 441,fcp 442,vi 87 0,vi 2 0,vi 0 0,vi 0 0,vi 3 0,vr 203,aJ true,vi 181 0,vr 204,vn,vr 205,vr 206,vr 207,vi 445 0,vi 87 0,fcp 446]) #[])::(nat_lit 209,fo "with_place" 26 3 [] vn vn vn (vs "manyleaves.parts" 394) none (vr 208) vn 0)::(nat_lit 210,ot (#[]) #[])::(nat_lit 213,oc (#[vs "price_of" 448,vs "price_of" 449,fcp 450,vi 89 0,vi 2 0,vi 0 0,vi 0 0,vi 3 0,vr 210,aJ true,vi 181 0,vr 211,vn,vn,vn,vr 212,vi 451 0,vi 89 0,fcp 452]) #[])::(nat_lit 214,fo "price_of" 27 3 [] vn vn vn (vs "manyleaves.parts" 394) none (vr 213) vn 0)::(nat_lit 215,ot (#[]) #[])::(nat_lit 217,ot (#[vs "fractions" 457,vs "top" 458,vs "bottom" 459,vs "more_top" 460,vs "more_bottom" 461]) #[])::(nat_lit 218,ot (#[]) #[])::(nat_lit 220,oc (#[vs "added" 454,vs "added" 455,fcp 456,vi 91 0,vi 1 0,vi 0 0,vi 0 0,vi 3 0,vr 215,aJ true,vi 181 0,vr 216,vn,vr 217,vr 218,vr 219,vi 462 0,vi 91 0,fcp 463]) #[])::(nat_lit 221,fo "added" 28 3 [] vn vn vn (vs "manyleaves.parts" 394) none (vr 220) vn 0)::(nat_lit 222,ot (#[]) #[])::(nat_lit 225,oc (#[vs "worth_added" 467,vs "worth_added" 468,fcp 469,vi 97 0,vi 3 0,vi 0 0,vi 0 0,vi 3 0,vr 222,aJ true,vi 181 0,vr 223,vn,vn,vn,vr 224,vi 470 0,vi 97 0,fcp 471]) #[])::(nat_lit 226,fo "worth_added" 30 3 [] vn vn vn (vs "manyleaves.shares" 465) none (vr 225) vn 0)::(nat_lit 227,ot (#[]) #[])::(nat_lit 229,ot (#[vs "prices" 476,vs "held" 477,vs "shares" 478,vs "limit" 479,vs "top" 480,vs "bottom" 481]) #[])::(nat_lit 230,ot (#[]) #[])::(nat_lit 232,oc (#[vs "is_worth_above" 473,vs "is_worth_above" 474,fcp 475,vi 100 0,vi 4 0,vi 0 0,vi 0 0,vi 3 0,vr 227,aJ true,vi 181 0,vr 228,vn,vr 229,vr 230,vr 231,vi 482 0,vi 100 0,fcp 483]) #[])::(nat_lit 233,fo "is_worth_above" 31 3 [] vn vn vn (vs "manyleaves.shares" 465) none (vr 232) vn 0)::(nat_lit 234,ot (#[]) #[])::(nat_lit 237,oc (#[vs "share_left" 485,vs "share_left" 486,fcp 487,vi 103 0,vi 4 0,vi 0 0,vi 0 0,vi 3 0,vr 234,aJ true,vi 181 0,vr 235,vn,vn,vn,vr 236,vi 488 0,vi 103 0,fcp 489]) #[])::(nat_lit 238,fo "share_left" 32 3 [] vn vn vn (vs "manyleaves.shares" 465) none (vr 237) vn 0)::(nat_lit 239,ot (#[]) #[])::(nat_lit 241,ot (#[vs "web" 494,vs "prices" 495,vs "held" 496,vs "barred" 497,vs "order" 498,vs "lots" 499,vs "left" 500,vs "rows" 501,vs "place" 502,vs "share" 503,vs "other" 504]) #[])::(nat_lit 242,ot (#[]) #[])::(nat_lit 244,oc (#[vs "raised" 491,vs "raised" 492,fcp 493,vi 108 0,vi 5 0,vi 0 0,vi 0 0,vi 3 0,vr 239,aJ true,vi 181 0,vr 240,vn,vr 241,vr 242,vr 243,vi 505 0,vi 108 0,fcp 506]) #[])::(nat_lit 245,fo "raised" 33 3 [] vn vn vn (vs "manyleaves.shares" 465) none (vr 244) vn 0)::(nat_lit 246,ot (#[]) #[])::(nat_lit 249,oc (#[vs "is_thin" 510,vs "is_thin" 511,fcp 512,vi 120 0,vi 4 0,vi 0 0,vi 0 0,vi 3 0,vr 246,aJ true,vi 181 0,vr 247,vn,vn,vn,vr 248,vi 513 0,vi 120 0,fcp 514]) #[])::(nat_lit 250,fo "is_thin" 35 3 [] vn vn vn (vs "manyleaves.thin" 508) none (vr 249) vn 0)::(nat_lit 251,ot (#[]) #[])::(nat_lit 253,ot (#[vs "web" 521,vs "held" 522,vs "barred" 523,vs "kept" 524,vs "place" 525,vs "lot" 526,vs "lots" 527]) #[])::(nat_lit 254,ot (#[]) #[])::(nat_lit 256,oc (#[vs "why_not" 518,vs "why_not" 519,fcp 520,vi 126 0,vi 3 0,vi 0 0,vi 0 0,vi 3 0,vr 251,aJ true,vi 181 0,vr 252,vn,vr 253,vr 254,vr 255,vi 528 0,vi 126 0,fcp 529]) #[])::(nat_lit 257,fo "why_not" 37 3 [] vn vn vn (vs "manyleaves.whys" 516) none (vr 256) vn 0)::(nat_lit 258,ot (#[]) #[])::(nat_lit 260,ot (#[vs "prices" 536,vs "held" 537,vs "limit" 538]) #[])::(nat_lit 261,ot (#[]) #[])::(nat_lit 263,oc (#[vs "is_over" 533,vs "is_over" 534,fcp 535,vi 136 0,vi 3 0,vi 0 0,vi 0 0,vi 3 0,vr 258,aJ true,vi 181 0,vr 259,vn,vr 260,vr 261,vr 262,vi 539 0,vi 136 0,fcp 540]) #[])::(nat_lit 264,fo "is_over" 39 3 [] vn vn vn (vs "manyleaves.cases" 531) none (vr 263) vn 0)::(nat_lit 265,ot (#[]) #[])::(nat_lit 268,oc (#[vs "is_known_thin" 542,vs "is_known_thin" 543,fcp 544,vi 138 0,vi 5 0,vi 0 0,vi 0 0,vi 3 0,vr 265,aJ true,vi 181 0,vr 266,vn,vn,vn,vr 267,vi 545 0,vi 138 0,fcp 546]) #[])::(nat_lit 269,fo "is_known_thin" 40 3 [] vn vn vn (vs "manyleaves.cases" 531) none (vr 268) vn 0)::(nat_lit 270,ot (#[]) #[])::(nat_lit 272,ot (#[vs "web" 553,vs "thing" 554]) #[])::(nat_lit 273,ot (#[]) #[])::(nat_lit 275,oc (#[vs "right_set" 550,vs "right_set" 551,fcp 552,vi 141 0,vi 2 0,vi 0 0,vi 0 0,vi 3 0,vr 270,aJ true,vi 181 0,vr 271,vn,vr 272,vr 273,vr 274,vi 555 0,vi 141 0,fcp 556]) #[])::(nat_lit 276,fo "right_set" 42 3 [] vn vn vn (vs "manyleaves.sets" 548) none (vr 275) vn 0)::(nat_lit 277,ot (#[]) #[])::(nat_lit 279,ot (#[vs "web" 565,vs "prices" 566,vs "held" 567,vs "barred" 568,vs "limit" 569,vs "why" 570,vs "shares" 571]) #[])::(nat_lit 280,ot (#[]) #[])::(nat_lit 282,oc (#[vs "end_of" 562,vs "end_of" 563,fcp 564,vi 147 0,vi 5 0,vi 0 0,vi 0 0,vi 3 0,vr 277,aJ true,vi 181 0,vr 278,vn,vr 279,vr 280,vr 281,vi 572 0,vi 147 0,fcp 573]) #[])::(nat_lit 283,fo "end_of" 45 3 [] vn vn vn (vs "manyleaves.exact" 558) none (vr 282) vn 0)::(nat_lit 284,ot (#[]) #[])::(nat_lit 287,oc (#[vs "place_to_part" 575,vs "place_to_part" 576,fcp 577,vi 159 0,vi 3 0,vi 0 0,vi 0 0,vi 3 0,vr 284,aJ true,vi 181 0,vr 285,vn,vn,vn,vr 286,vi 578 0,vi 159 0,fcp 579]) #[])::(nat_lit 288,fo "place_to_part" 46 3 [] vn vn vn (vs "manyleaves.exact" 558) none (vr 287) vn 0)::(nat_lit 289,ot (#[]) #[])::(nat_lit 291,ot (#[vs "web" 584,vs "prices" 585,vs "held" 586,vs "barred" 587,vs "best" 588,vs "end" 589,vs "place" 590,vs "one" 591,vs "other" 592]) #[])::(nat_lit 292,ot (#[]) #[])::(nat_lit 294,oc (#[vs "best_and_cases" 581,vs "best_and_cases" 582,fcp 583,vi 166 0,vi 5 0,vi 0 0,vi 0 0,vi 3 0,vr 289,aJ true,vi 181 0,vr 290,vn,vr 291,vr 292,vr 293,vi 593 0,vi 166 0,fcp 594]) #[])::(nat_lit 295,fo "best_and_cases" 47 3 [] vn vn vn (vs "manyleaves.exact" 558) none (vr 294) vn 0)::(nat_lit 296,ot (#[]) #[])::(nat_lit 298,ot (#[vs "web" 599,vs "prices" 600,vs "held" 601,vs "barred" 602,vs "best" 603,vs "cases" 604]) #[])::(nat_lit 299,ot (#[]) #[])::(nat_lit 301,oc (#[vs "cheapest_set" 596,vs "cheapest_set" 597,fcp 598,vi 176 0,vi 4 0,vi 0 0,vi 0 0,vi 3 0,vr 296,aJ true,vi 181 0,vr 297,vn,vr 298,vr 299,vr 300,vi 605 0,vi 176 0,fcp 606]) #[])::(nat_lit 302,fo "cheapest_set" 48 3 [] vn vn vn (vs "manyleaves.exact" 558) none (vr 301) vn 0)::(nat_lit 303,ot (#[]) #[])::(nat_lit 305,ot (#[vs "_law_cell" 613,vs "_law_k" 614,vs "_law_number" 615]) #[])::(nat_lit 306,ot (#[]) #[])::(nat_lit 308,oc (#[vs "_law_mixed" 610,vs "_law_mixed" 611,fcp 612,vi 184 0,vi 2 0,vi 0 0,vi 0 0,vi 3 0,vr 303,aJ true,vi 181 0,vr 304,vn,vr 305,vr 306,vr 307,vi 616 0,vi 184 0,fcp 617]) #[])::(nat_lit 309,fo "_law_mixed" 50 3 [] vn vn vn (vs "law_manyleaves_k37_cheapest_by_all_sets" 608) none (vr 308) vn 0)::(nat_lit 310,ot (#[]) #[])::(nat_lit 313,oc (#[vs "_law_deck" 619,vs "_law_deck" 620,fcp 621,vi 189 0,vi 2 0,vi 0 0,vi 0 0,vi 3 0,vr 310,aJ true,vi 181 0,vr 311,vn,vn,vn,vr 312,vi 622 0,vi 189 0,fcp 623]) #[])::(nat_lit 314,fo "_law_deck" 51 3 [] vn vn vn (vs "law_manyleaves_k37_cheapest_by_all_sets" 608) none (vr 313) vn 0)::(nat_lit 315,ot (#[]) #[])::(nat_lit 317,ot (#[vs "_law_deck_here" 628]) #[])::(nat_lit 318,ot (#[]) #[])::(nat_lit 320,oc (#[vs "_law_next" 625,vs "_law_next" 626,fcp 627,vi 201 0,vi 1 0,vi 0 0,vi 0 0,vi 3 0,vr 315,aJ true,vi 181 0,vr 316,vn,vr 317,vr 318,vr 319,vi 629 0,vi 201 0,fcp 630]) #[])::(nat_lit 321,fo "_law_next" 52 3 [] vn vn vn (vs "law_manyleaves_k37_cheapest_by_all_sets" 608) none (vr 320) vn 0)::(nat_lit 322,ot (#[]) #[])::(nat_lit 325,oc (#[vs "_law_turn" 632,vs "_law_turn" 633,fcp 634,vi 205 0,vi 2 0,vi 0 0,vi 0 0,vi 3 0,vr 322,aJ true,vi 181 0,vr 323,vn,vn,vn,vr 324,vi 635 0,vi 205 0,fcp 636]) #[])::(nat_lit 326,fo "_law_turn" 53 3 [] vn vn vn (vs "law_manyleaves_k37_cheapest_by_all_sets" 608) none (vr 325) vn 0)::(nat_lit 327,ot (#[]) #[])::(nat_lit 330,oc (#[vs "_law_web" 638,vs "_law_web" 639,fcp 640,vi 207 0,vi 3 0,vi 0 0,vi 0 0,vi 3 0,vr 327,aJ true,vi 181 0,vr 328,vn,vn,vn,vr 329,vi 641 0,vi 207 0,fcp 642]) #[])::(nat_lit 331,fo "_law_web" 54 3 [] vn vn vn (vs "law_manyleaves_k37_cheapest_by_all_sets" 608) none (vr 330) vn 0)::(nat_lit 332,ot (#[]) #[])::(nat_lit 335,oc (#[vs "_law_near" 644,vs "_law_near" 645,fcp 646,vi 226 0,vi 1 0,vi 0 0,vi 0 0,vi 3 0,vr 332,aJ true,vi 181 0,vr 333,vn,vn,vn,vr 334,vi 647 0,vi 226 0,fcp 648]) #[])::(nat_lit 336,fo "_law_near" 55 3 [] vn vn vn (vs "law_manyleaves_k37_cheapest_by_all_sets" 608) none (vr 335) vn 0)::(nat_lit 337,ot (#[]) #[])::(nat_lit 339,ot (#[vs "_law_near_here" 653,vs "_law_start" 654,vs "_law_allowed" 655,vs "_law_found" 656,vs "_law_waiting" 657,vs "_law_other" 658]) #[])::(nat_lit 340,ot (#[]) #[])::(nat_lit 342,oc (#[vs "_law_reach" 650,vs "_law_reach" 651,fcp 652,vi 232 0,vi 3 0,vi 0 0,vi 0 0,vi 3 0,vr 337,aJ true,vi 181 0,vr 338,vn,vr 339,vr 340,vr 341,vi 659 0,vi 232 0,fcp 660]) #[])::(nat_lit 343,fo "_law_reach" 56 3 [] vn vn vn (vs "law_manyleaves_k37_cheapest_by_all_sets" 608) none (vr 342) vn 0)::(nat_lit 344,ot (#[]) #[])::(nat_lit 346,ot (#[vs "_law_near_here" 665,vs "_law_places" 666]) #[])::(nat_lit 347,ot (#[]) #[])::(nat_lit 349,oc (#[vs "_law_hang" 662,vs "_law_hang" 663,fcp 664,vi 241 0,vi 2 0,vi 0 0,vi 0 0,vi 3 0,vr 344,aJ true,vi 181 0,vr 345,vn,vr 346,vr 347,vr 348,vi 667 0,vi 241 0,fcp 668]) #[])::(nat_lit 350,fo "_law_hang" 57 3 [] vn vn vn (vs "law_manyleaves_k37_cheapest_by_all_sets" 608) none (vr 349) vn 0)::(nat_lit 351,ot (#[]) #[])::(nat_lit 354,oc (#[vs "_law_touched" 670,vs "_law_touched" 671,fcp 672,vi 243 0,vi 2 0,vi 0 0,vi 0 0,vi 3 0,vr 351,aJ true,vi 181 0,vr 352,vn,vn,vn,vr 353,vi 673 0,vi 243 0,fcp 674]) #[])::(nat_lit 355,fo "_law_touched" 58 3 [] vn vn vn (vs "law_manyleaves_k37_cheapest_by_all_sets" 608) none (vr 354) vn 0)::(nat_lit 356,ot (#[]) #[])::(nat_lit 358,ot (#[vs "_law_near_here" 679,vs "_law_places" 680]) #[])::(nat_lit 359,ot (#[]) #[])::(nat_lit 361,oc (#[vs "_law_is_set" 676,vs "_law_is_set" 677,fcp 678,vi 246 0,vi 2 0,vi 0 0,vi 0 0,vi 3 0,vr 356,aJ true,vi 181 0,vr 357,vn,vr 358,vr 359,vr 360,vi 681 0,vi 246 0,fcp 682]) #[])::(nat_lit 362,fo "_law_is_set" 59 3 [] vn vn vn (vs "law_manyleaves_k37_cheapest_by_all_sets" 608) none (vr 361) vn 0)::(nat_lit 363,ot (#[]) #[])::(nat_lit 366,oc (#[vs "_law_all_sets" 684,vs "_law_all_sets" 685,fcp 686,vi 248 0,vi 1 0,vi 0 0,vi 0 0,vi 3 0,vr 363,aJ true,vi 181 0,vr 364,vn,vn,vn,vr 365,vi 687 0,vi 248 0,fcp 688]) #[])::(nat_lit 367,fo "_law_all_sets" 60 3 [] vn vn vn (vs "law_manyleaves_k37_cheapest_by_all_sets" 608) none (vr 366) vn 0)::(nat_lit 368,ot (#[]) #[])::(nat_lit 370,ot (#[vs "_law_thing" 693,vs "_law_least" 694,vs "_law_most" 695]) #[])::(nat_lit 371,ot (#[]) #[])::(nat_lit 373,oc (#[vs "_law_is_int" 690,vs "_law_is_int" 691,fcp 692,vi 255 0,vi 3 0,vi 0 0,vi 0 0,vi 3 0,vr 368,aJ true,vi 181 0,vr 369,vn,vr 370,vr 371,vr 372,vi 696 0,vi 255 0,fcp 697]) #[])::(nat_lit 374,fo "_law_is_int" 61 3 [] vn vn vn (vs "law_manyleaves_k37_cheapest_by_all_sets" 608) none (vr 373) vn 0)::(nat_lit 375,ot (#[]) #[])::(nat_lit 378,oc (#[vs "_law_is_places" 699,vs "_law_is_places" 700,fcp 701,vi 257 0,vi 2 0,vi 0 0,vi 0 0,vi 3 0,vr 375,aJ true,vi 181 0,vr 376,vn,vn,vn,vr 377,vi 702 0,vi 257 0,fcp 703]) #[])::(nat_lit 379,fo "_law_is_places" 62 3 [] vn vn vn (vs "law_manyleaves_k37_cheapest_by_all_sets" 608) none (vr 378) vn 0)::(nat_lit 380,ot (#[]) #[])::(nat_lit 382,ot (#[vs "_law_deck_here" 708,vs "_law_places" 709,vs "_law_held" 710,vs "_law_barred" 711,vs "_law_way" 712,vs "_law_place" 713,vs "_law_cell" 714]) #[])::(nat_lit 383,ot (#[]) #[])::(nat_lit 385,oc (#[vs "_law_state" 705,vs "_law_state" 706,fcp 707,vi 261 0,vi 2 0,vi 0 0,vi 0 0,vi 3 0,vr 380,aJ true,vi 181 0,vr 381,vn,vr 382,vr 383,vr 384,vi 715 0,vi 261 0,fcp 716]) #[])::(nat_lit 386,fo "_law_state" 63 3 [] vn vn vn (vs "law_manyleaves_k37_cheapest_by_all_sets" 608) none (vr 385) vn 0)::(nat_lit 387,ot (#[]) #[])::(nat_lit 390,oc (#[vs "_law_prices" 718,vs "_law_prices" 719,fcp 720,vi 272 0,vi 2 0,vi 0 0,vi 0 0,vi 3 0,vr 387,aJ true,vi 181 0,vr 388,vn,vn,vn,vr 389,vi 721 0,vi 272 0,fcp 722]) #[])::(nat_lit 391,fo "_law_prices" 64 3 [] vn vn vn (vs "law_manyleaves_k37_cheapest_by_all_sets" 608) none (vr 390) vn 0)::(nat_lit 392,ot (#[]) #[])::(nat_lit 395,oc (#[vs "_law_price" 724,vs "_law_price" 725,fcp 726,vi 275 0,vi 2 0,vi 0 0,vi 0 0,vi 3 0,vr 392,aJ true,vi 181 0,vr 393,vn,vn,vn,vr 394,vi 727 0,vi 275 0,fcp 728]) #[])::(nat_lit 396,fo "_law_price" 65 3 [] vn vn vn (vs "law_manyleaves_k37_cheapest_by_all_sets" 608) none (vr 395) vn 0)::(nat_lit 397,ot (#[]) #[])::(nat_lit 400,oc (#[vs "_law_keeping" 730,vs "_law_keeping" 731,fcp 732,vi 277 0,vi 3 0,vi 0 0,vi 0 0,vi 3 0,vr 397,aJ true,vi 181 0,vr 398,vn,vn,vn,vr 399,vi 733 0,vi 277 0,fcp 734]) #[])::(nat_lit 401,fo "_law_keeping" 66 3 [] vn vn vn (vs "law_manyleaves_k37_cheapest_by_all_sets" 608) none (vr 400) vn 0)::(nat_lit 402,ot (#[]) #[])::(nat_lit 404,ot (#[vs "_law_error" 739,vs "_law_names" 740]) #[])::(nat_lit 405,ot (#[]) #[])::(nat_lit 407,oc (#[vs "_law_refusal" 736,vs "_law_refusal" 737,fcp 738,vi 283 0,vi 1 0,vi 0 0,vi 0 0,vi 3 0,vr 402,aJ true,vi 181 0,vr 403,vn,vr 404,vr 405,vr 406,vi 741 0,vi 283 0,fcp 742]) #[])::(nat_lit 408,fo "_law_refusal" 67 3 [] vn vn vn (vs "law_manyleaves_k37_cheapest_by_all_sets" 608) none (vr 407) vn 0)::(nat_lit 409,ot (#[]) #[])::(nat_lit 411,ot (#[vs "_law_web_here" 747,vs "_law_prices_here" 748,vs "_law_held" 749,vs "_law_barred" 750,vs "_law_told" 751,vs "e" 752]) #[])::(nat_lit 412,ot (#[]) #[])::(nat_lit 414,oc (#[vs "_law_told_set" 744,vs "_law_told_set" 745,fcp 746,vi 287 0,vi 4 0,vi 0 0,vi 0 0,vi 3 0,vr 409,aJ true,vi 181 0,vr 410,vn,vr 411,vr 412,vr 413,vi 753 0,vi 287 0,fcp 754]) #[])::(nat_lit 415,fo "_law_told_set" 68 3 [] vn vn vn (vs "law_manyleaves_k37_cheapest_by_all_sets" 608) none (vr 414) vn 0)::(nat_lit 416,ot (#[]) #[])::(nat_lit 419,oc (#[vs "_law_good" 756,vs "_law_good" 757,fcp 758,vi 294 0,vi 4 0,vi 0 0,vi 0 0,vi 3 0,vr 416,aJ true,vi 181 0,vr 417,vn,vn,vn,vr 418,vi 759 0,vi 294 0,fcp 760]) #[])::(nat_lit 420,fo "_law_good" 69 3 [] vn vn vn (vs "law_manyleaves_k37_cheapest_by_all_sets" 608) none (vr 419) vn 0)::(nat_lit 421,ot (#[]) #[])::(nat_lit 423,ot (#[vs "_law_script" 765,vs "_law_deck_here" 766,vs "_law_turn_here" 767,vs "_law_web_here" 768,vs "_law_prices_here" 769,vs "_law_held" 770,vs "_law_barred" 771]) #[])::(nat_lit 424,ot (#[]) #[])::(nat_lit 426,oc (#[vs "law" 762,vs "law" 763,fcp 764,vi 306 0,vi 1 0,vi 0 0,vi 0 0,vi 3 0,vr 421,aJ true,vi 181 0,vr 422,vn,vr 423,vr 424,vr 425,vi 772 0,vi 306 0,fcp 773]) #[])::(nat_lit 427,fo "law" 70 3 [] vn vn vn (vs "law_manyleaves_k37_cheapest_by_all_sets" 608) none (vr 426) vn 0)::[]
def viewP:Program:={PySem.Challenge.pw_manyleaves_k37_cheapest_by_all_sets with main:={PySem.Challenge.pw_manyleaves_k37_cheapest_by_all_sets.main with body:=[top 1,top 2,top 4,top 5,top 6,top 7,top 8,top 9,top 10,top 11,top 12,top 14,top 15,top 16,top 17,top 18,top 20,top 21,top 22,top 23,top 24,top 25,top 26,top 27,top 28,top 30,top 31,top 32,top 33,top 35,top 37,top 39,top 40,top 42,top 44,top 45,top 46,top 47,top 48,top 50,top 51,top 52,top 53,top 54,top 55,top 56,top 57,top 58,top 59,top 60,top 61,top 62,top 63,top 64,top 65,top 66,top 67,top 68,top 69,top 70]}}
def addrs:List Addr:=[2,3,15,17,18,20,21,22,24,25,27,28,29,36,37,38,39,42,49,50,51,54,61,62,63,66,73,74,75,78,85,86,87,90,97,98,99,102,109,110,111,114,121,122,123,126,133,134,135,138,140,141,143,144,145,148,149,150,153,154,155,157,158,160,161,162,165,166,167,169,170,172,173,174,176,177,179,180,181,184,185,186,189,190,191,194,195,196,198,199,201,202,203,205,206,208,209,210,213,214,215,217,218,220,221,222,225,226,227,229,230,232,233,234,237,238,239,241,242,244,245,246,249,250,251,253,254,256,257,258,260,261,263,264,265,268,269,270,272,273,275,276,277,279,280,282,283,284,287,288,289,291,292,294,295,296,298,299,301,302,303,305,306,308,309,310,313,314,315,317,318,320,321,322,325,326,327,330,331,332,335,336,337,339,340,342,343,344,346,347,349,350,351,354,355,356,358,359,361,362,363,366,367,368,370,371,373,374,375,378,379,380,382,383,385,386,387,390,391,392,395,396,397,400,401,402,404,405,407,408,409,411,412,414,415,416,419,420,421,423,424,426,427]
theorem addr:∀ P,addrs=(heapK P).map (·.1):=λ_=>by kernel_rfl
end K37
section
open PySem PySem.W PyProof.Rows
set_option maxRecDepth 100000 in
set_option maxHeartbeats 0 in
theorem K37.said:PySem.Challenge.rw_manyleaves_k37_cheapest_by_all_sets.wellSaid=true:=by kernel_rfl
set_option maxRecDepth 100000 in
set_option maxHeartbeats 0 in
theorem K37.leftA : ∀ w : World, (openEnds treeTable (gZ (iR PySem.Challenge.rw_manyleaves_k37_cheapest_by_all_sets)).prog w 7066).map (fun s => (seen ((recsOf K37.viewP).map (·.name)) (ownsOf K37.viewP) [] { s with gens := #[] }, s.heap.bltView)) = some ((expectedOf K37.viewP, bltViewBooted)) := by intro w; kernel_rfl
set_option maxRecDepth 100000 in
set_option maxHeartbeats 0 in
theorem K37.leftB : ∀ w : World, (openEnds treeTable (gZ (iR PySem.Challenge.rw_manyleaves_k37_cheapest_by_all_sets)).prog w 7066).map (fun s => (s.heap.keysOk (looseW K37.viewP []) ((recsOf K37.viewP).map (·.name)) ((litsOf K37.viewP).map (·.1)) ((clssOf K37.viewP (looseW K37.viewP [])).map (·.name)) && s.heap.accountedOkI (importedModules (gZ (iR PySem.Challenge.rw_manyleaves_k37_cheapest_by_all_sets)).prog.main.body))) = some (true) := by intro w; kernel_rfl
set_option maxRecDepth 100000 in
set_option maxHeartbeats 0 in
theorem K37.leftF : ∀ w : World, (openEnds treeTable (gZ (iR PySem.Challenge.rw_manyleaves_k37_cheapest_by_all_sets)).prog w 7066).map (fun s => (s.heap.isNs mainGlobals, s.heap.isNs builtinsNs, tablesOk K37.viewP s.heap, (λs=>xlAt K37.viewP [] s && recOk (RowW.records (gZ (iR PySem.Challenge.rw_manyleaves_k37_cheapest_by_all_sets))) s) s, (if true then s.gens.size == 0 else !leftWithCleanup s.gens), tabsOk K37.viewP s)) = some ((true, true, true, true, true, true)) := by intro w; kernel_rfl
set_option maxRecDepth 100000 in
set_option maxHeartbeats 0 in
theorem K37.leftC : ∀ w : World, (openEnds treeTable (gZ (iR PySem.Challenge.rw_manyleaves_k37_cheapest_by_all_sets)).prog w 7066).map (fun s => (pinSeenD K37.viewP (drecsOf K37.viewP) s, plainSeenE K37.viewP (looseW K37.viewP []) s)) = some ((pinGoodD (drecsOf K37.viewP), plainGoodE K37.viewP (looseW K37.viewP []))) := by intro w; kernel_rfl
set_option maxRecDepth 100000 in
set_option maxHeartbeats 0 in
theorem K37.leftD : ∀ w : World, (openEnds treeTable (gZ (iR PySem.Challenge.rw_manyleaves_k37_cheapest_by_all_sets)).prog w 7066).map (fun s => (plainSeenD K37.viewP [] s, wideSeen K37.viewP s, clsSeenW K37.viewP [] s)) = some ((plainGoodD K37.viewP [], wideGood K37.viewP, clsGoodW K37.viewP [])) := by intro w; kernel_rfl
set_option maxRecDepth 100000 in
set_option maxHeartbeats 0 in
theorem K37.leftE : ∀ w : World, (openEnds treeTable (gZ (iR PySem.Challenge.rw_manyleaves_k37_cheapest_by_all_sets)).prog w 7066).map (fun s => Hook.obs (kmHook K37.heapK K37.addrs K37.addr [285]) s) = some (Hook.val (kmHook K37.heapK K37.addrs K37.addr [285]) w) := by intro w; kernel_rfl
theorem K37.leftG {S X1 X2 X5 X6 X7 X8 X9 Y : Type} {o : Option S} {f1 : S → X1} {f2 : S → X2} {k hg hb k5 k6 k7 t : S → Bool} {f5 : S → X5} {f6 : S → X6} {f7 : S → X7} {f8 : S → X8} {f9 : S → X9} {y : S → Y} {v1 v2 v5 v6 v7 v8 v9 u}
    (A : o.map (fun s => (f1 s, f2 s)) = some (v1, v2)) (B : o.map (fun s => k s) = some true) (F : o.map (fun s => (hg s, hb s, k5 s, k6 s, k7 s, t s)) = some (true, true, true, true, true, true))
    (C : o.map (fun s => (f5 s, f6 s)) = some (v5, v6)) (D : o.map (fun s => (f7 s, f8 s, f9 s)) = some (v7, v8, v9)) (E : o.map (fun s => y s) = some u) :
    o.map (fun s => ((f1 s, f2 s, k s && hg s && hb s && k5 s && k6 s && k7 s, t s, f5 s, f6 s, f7 s, f8 s, f9 s), y s)) = some ((v1, v2, true, true, v5, v6, v7, v8, v9), u) := by
  cases o with
  | none => cases A
  | some s =>
    simp only [Option.map_some, Option.some.injEq, Prod.mk.injEq] at *
    obtain ⟨a1, a2⟩ := A
    obtain ⟨b1, b2, b3, b4, b5, b6⟩ := F
    obtain ⟨c1, c2⟩ := C
    obtain ⟨d1, d2, d3⟩ := D
    simp only [a1, a2, B, b1, b2, b3, b4, b5, b6, c1, c2, d1, d2, d3, E, Bool.and_self, and_self]
set_option maxRecDepth 100000 in
set_option maxHeartbeats 0 in
theorem K37.left:LeftO (gZ (iR PySem.Challenge.rw_manyleaves_k37_cheapest_by_all_sets)).prog K37.viewP [] (λs=>xlAt K37.viewP [] s && recOk (RowW.records (gZ (iR PySem.Challenge.rw_manyleaves_k37_cheapest_by_all_sets))) s) (Hook.obs (kmHook K37.heapK K37.addrs K37.addr [285])) (Hook.val (kmHook K37.heapK K37.addrs K37.addr [285])) 7066 := fun w => K37.leftG (K37.leftA w) (K37.leftB w) (K37.leftF w) (K37.leftC w) (K37.leftD w) (K37.leftE w)
end
end
section
namespace L2
open PySem PySem.Spec PyProof.Rows
abbrev Key:=Sum Int Str
def a2V:Key->Value->Bool
 | .inl k,v=>Value.isInt k v
 | .inr x,v=>Value.isStrOf x v
def b5z (w:World):Key->Int
 | .inl k=>hashInt k
 | .inr x=>hashStr w x
theorem M6:∀ {k:Key} {v:Value},a2V k v=true->(∃ i t,k=bp i/\v=cA i t)\/(∃ x t,k=h8 x/\v=g5 x t)
 | .inl i,v,h=>by
  obtain⟨t,e⟩:=fq (k:=i) (v:=v) h;exact .inl ⟨i,t,rfl,e⟩
 | .inr x,v,h=>by
  obtain⟨t,e⟩:=Value.isStrOf_shape (x:=x) (v:=v) h;exact .inr ⟨x,t,rfl,e⟩
theorem a7t (i:Int)(t:Tok):a2V (.inl i) (.int i t)=true:=by simp[a2V,Value.isInt]
theorem a7s (x:Str)(t:Tok):a2V (.inr x) (.str x t)=true:=by simp[a2V,Value.isStrOf]
theorem b2W (a b:Int):decide ((bp a:Key)=bp b)=(a == b):=by
 by_cases e:a=b
 ·subst e;simp
 ·have h:¬ (bp a:Key)=bp b:=λq=>e (Sum.inl.inj q)
  rw[decide_eq_false h];exact (beq_eq_false_iff_ne.mpr e).symm
theorem b2T (a b:Str):decide ((h8 a:Key)=h8 b)=decide (a=b):=by
 by_cases e:a=b
 ·subst e;simp
 ·have h:¬ (h8 a:Key)=h8 b:=λq=>e (Sum.inr.inj q)
  rw[decide_eq_false h,decide_eq_false e]
theorem b2V (a:Int)(b:Str):decide ((bp a:Key)=h8 b)=false:=decide_eq_false (λq=>nomatch q)
theorem b2U (a:Str)(b:Int):decide ((h8 a:Key)=bp b)=false:=decide_eq_false (λq=>nomatch q)
def K7 (prog:Program)(w:World):PySem.KeyKind prog w Key where
 is:=a2V
 hash:=b5z w
 inj:=λv a b ha hb=>by
  rcases M6 ha with ⟨i,t,rfl,rfl⟩ | ⟨x,t,rfl,rfl⟩
  ·rcases M6 hb with ⟨j,u,rfl,e⟩ | ⟨y,u,rfl,e⟩
   ·injection e with e1 _;rw[e1]
   ·exact nomatch e
  ·rcases M6 hb with ⟨j,u,rfl,e⟩ | ⟨y,u,rfl,e⟩
   ·exact nomatch e
   ·injection e with e1 _;rw[e1]
 byValue:=λk v h=>by
  rcases M6 h with ⟨i,t,rfl,rfl⟩ | ⟨x,t,rfl,rfl⟩<;>rfl
 pyHash:=λhv h=>by
  rcases M6 hv with ⟨i,t,rfl,rfl⟩ | ⟨x,t,rfl,rfl⟩
  ·exact wpAny_pyHash_int h
  ·exact wpAny_pyHash_str h
 eqBool:=λhu hv h=>by
  rcases M6 hu with ⟨i,t,rfl,rfl⟩ | ⟨x,t,rfl,rfl⟩
  ·rcases M6 hv with ⟨j,u,rfl,rfl⟩ | ⟨y,u,rfl,rfl⟩
   ·rw[b2W] at h;exact wpAny_eqBool_int h
   ·rw[b2V] at h;exact iB i t y u _ _ _ _ h
  ·rcases M6 hv with ⟨j,u,rfl,rfl⟩ | ⟨y,u,rfl,rfl⟩
   ·rw[b2U] at h;exact iA x t j u _ _ _ _ h
   ·rw[b2T] at h;exact wpAny_eqBool_str h
 «strs»:=λk x t v h=>by
  rcases M6 h with ⟨i,u,rfl,e⟩ | ⟨y,u,rfl,e⟩
  ·exact nomatch e
  ·injection e with e1 _
   subst e1;cases v<;>rfl
theorem a4C (prog:Program)(w:World)(i:Int)(t:Tok):(K7 prog w).is (.inl i) (.int i t)=true:=a7t i t
theorem a4B (prog:Program)(w:World)(x:Str)(t:Tok):(K7 prog w).is (.inr x) (.str x t)=true:=a7s x t
end L2
namespace L2
open PySem PySem.Spec PyProof.Rows
inductive V where
 | non | bl (b:Bool) | int (i:Int) | str (x:Str) | byt (b:Array UInt8) | flt (b:UInt64) | ref (a:Addr) | ty (n:String)
 deriving DecidableEq
def D0:V->Value->Prop
 | .non,u=>u=cI
 | .bl b,u=>u=aJ b
 | .int i,u=>∃ t,u=cA i t
 | .str x,u=>∃ t,u=g5 x t
 | .byt b,u=>∃ t,u=Value.bytes b t
 | .flt b,u=>∃ t,u=Value.float b t
 | .ref a,u=>u=bw a
 | .ty n,u=>u=aH n
abbrev C9:List V->List Value->Prop:=Paired D0
theorem C9.length {xs:List V}{us:List Value}(r:C9 xs us):xs.length=us.length:=d9 r
theorem C9.get:∀ {xs:List V} {us:List Value} {i:Nat} {x:V},C9 xs us->xs[i]?=some x->∃ u,us[i]?=some u/\D0 x u
 | _,_,_,_,.nil,e=>by simp at e
 | _,_,0,_,.cons r _,e=>by simp at e;subst e;exact⟨_,rfl,r⟩
 | _,_,i+1,x,.cons _ t,e=>by
  obtain⟨u,h1,h2⟩:=C9.get (i:=i) (x:=x) t (~~~e);exact⟨u, ~~~h1,h2⟩
theorem C9.set {x:V}{u:Value}(r:D0 x u):∀ {xs:List V} {us:List Value} (i:Nat),C9 xs us->C9 (xs.set i x) (us.set i u)
 | _,_,_,.nil=>.nil
 | _,_,0,.cons _ t=>.cons r t
 | _,_,i+1,.cons q t=>.cons q (C9.set r i t)
theorem C9.append:∀ {xs ys:List V} {us ws:List Value},C9 xs us->C9 ys ws->C9 (xs++ys) (us++ws)
 | _,_,_,_,.nil,s=>s
 | _,_,_,_,.cons r t,s=>.cons r (C9.append t s)
theorem C9.take:∀ {xs:List V} {us:List Value} (n:Nat),C9 xs us->C9 (xs.take n) (us.take n)
 | _,_,0,_=>.nil
 | _,_,_+1,.nil=>.nil
 | _,_,n+1,.cons r t=>.cons r (C9.take n t)
theorem C9.drop:∀ {xs:List V} {us:List Value} (n:Nat),C9 xs us->C9 (xs.drop n) (us.drop n)
 | _,_,0,r=>r
 | _,_,_+1,.nil=>.nil
 | _,_,n+1,.cons _ t=>C9.drop n t
def a3J:Option V->Option Value->Prop
 | some v,some u=>D0 v u
 | none,none=>True
 | _,_=>False
def KV {κ:Type}:List (κ×V)->List (κ×Value)->Prop:=Paired λ(p:κ×V) (q:κ×Value)=>p.1=q.1/\D0 p.2 q.2
def kV:Key->V
 | .inl i=>.int i
 | .inr x=>.str x
inductive HO where
 /-- a list -/
 | lst (xs:List V)
 /-- a tuple (never changes) -/
 | tup (xs:List V)
 /-- a dict whose keys are ints and texts;one whose keys are tuples of ints and texts (the empty one is both) -/
 | dK (kvs:List (Key×V)) | dT (kvs:List (List Key×V))
 /-- a set of ints: its members,its size -/
 | set (S:Int->Bool) (n:Nat)
 /-- an instance of the class at C,its dict at dx,its attributes -/
 | ins (C dx:Addr) (fs:List (Str×V))
 /-- the dict of the instance at x -/
 | own (x:Addr)
 /-- the dict of an exception -/
 | xd (fs:List (Str×V))
 /-- a bound method,f of x -/
 | met (f x:Addr)
 /-- a range object lo,lo+1,.. below hi -/
 | rng (lo hi:Int)
 /-- a thing that is known to the object (the script;a dict while a loop walks it): read,never written while it is so -/
 | frz (o:Obj) (u:HO)
 /-- a code object's table -/
 | tbl (ps:Array Value)
 /-- any other thing,by what is true of its one object (a def of one's own: SetO a S n:=HO.ext λh=>..) -/
 | ext (φ:Heap->Prop)
abbrev Hp:=Addr->Option HO
def upd (H:Hp)(a:Addr)(o:HO):Hp:=λb=>if b=a then some o else H b
theorem A1 {H:Hp}{a:Addr}{o:HO}:upd H a o a=some o:=by unfold upd;rw[if_pos rfl]
theorem B3 {H:Hp}{a b:Addr}{o:HO}(h:b≠a):upd H a o b=H b:=by unfold upd;rw[if_neg h]
theorem a0t {H:Hp}{a:Addr}{o u:HO}:upd (upd H a o) a u=upd H a u:=by
 funext b;unfold upd;split<;>rfl
theorem a9h {H:Hp}{a b:Addr}{o u:HO}(h:H a=some o)(h':H b=some u)(d:o≠u):a≠b:=by
 intro e;subst e;rw[h] at h';exact d (ak h')
theorem C2 {H:Hp}{a b:Addr}{o:HO}(h:H a=some o)(h':H b=none):a≠b:=by
 intro e;subst e;rw[h] at h';cases h'
section
variable (P:Program)(w:World)
def K0 (H:Hp)(h:Heap)(a:Addr):HO->Prop
 | .lst xs=>xs.length<=sizeLine/\∃(its:List Value) (n:Nat),C9 xs its/\h.get? a=some {cls:=.type "list",data:=.seq its.toArray n}
 | .tup xs=>xs.length<=sizeLine/\∃ its:List Value,C9 xs its/\IsTup h a its.toArray
 | .dK kvs=>kvs.length<=sizeLine/\(a == sysModules)=false/\∃ vs,KV kvs vs/\h.DictOf (K7 P w) a vs
 | .dT kvs=>kvs.length<=sizeLine/\(a == sysModules)=false/\∃ xs:List (List Key×Addr×Value),
   Paired (λ(p:List Key×V) (q:List Key×Addr×Value)=>p.1=q.1/\H q.2.1=some (.tup (p.1.map kV))/\D0 p.2 q.2.2) kvs xs /\
   ∃ o es ep,h.get? a=some o/\o.ExactDict/\o.data=.dict es ep/\es.toList=xs.map (entryOfKey (tupleKind (K7 P w)))/\(xs.map (·.1)).Nodup
 | .set S n=>h.SetOf (intKind P w) a S n
 | .ins C dx fs=>H dx=some (.own a)/\fs.length<=1000/\dx≠a/\h.get? a=some (dH C dx) /\
   ∃ mA,h.Ns1 dx mA/\(∀ f,a3J (fs.lookup f) (mA f))/\iQ mA (fs.map (·.1))
 | .own _=>∃ o,h.get? a=some o
 | .xd fs=>∃ mA,h.Ns1 a mA/\∀ f,a3J (fs.lookup f) (mA f)
 | .rng lo hi=>∃ t u v,h.get? a=some {cls:=.type "range",data:=.fields #[.int lo t,.int hi u,.int 1 v]}
 | .frz o u=>h.get? a=some o/\K0 H h a u
 | .tbl ps=>h.get? a=some {cls:=.none,data:=.fields ps}
 | .met f x=>h.get? a=some (gw (.ref f) (.ref x))
 | .ext φ=>φ h/\(∃ o,h.get? a=some o)/\∀ h1 h2:Heap,φ h1->(∀ o,h1.get? a=some o->h2.get? a=some o)->φ h2
def HOk (H:Hp)(h:Heap):Prop:=∀ a o,H a=some o->K0 P w H h a o
end
section
variable {P:Program}{w:World}{H H':Hp}{h h':Heap}{a:Addr}{o:HO}
theorem K0.lt (x:K0 P w H h a o):a<h.objs.size:=by
 cases o with
 | lst xs=>obtain⟨_,_,_,_,e⟩:=x;exact ar e
 | tup xs=>obtain⟨_,_,_,p⟩:=x;exact p.lt
 | dK kvs=>obtain⟨_,_,_,_,o,_,_,e,_⟩:=x;exact ar e
 | dT kvs=>obtain⟨_,_,_,_,o,_,_,e,_⟩:=x;exact ar e
 | set S n=>obtain⟨o,_,_,_,e,_⟩:=x;exact ar e
 | ins C dx fs=>obtain⟨_,_,_,e,_⟩:=x;exact ar e
 | own y=>obtain⟨_,e⟩:=x;exact ar e
 | xd fs=>obtain⟨_,⟨_,_,_,e,_⟩,_⟩:=x;exact ar e
 | rng lo hi=>obtain⟨_,_,_,e⟩:=x;exact ar e
 | frz ob u=>obtain⟨e,_⟩:=x;exact ar e
 | tbl ps=>exact ar (show h.get? a=some _ from x)
 | met f y=>exact ar (show h.get? a=some _ from x)
 | ext φ=>obtain⟨_,⟨_,e⟩,_⟩:=x;exact ar e
theorem Paired.mapP {α β:Type}{F G:α->β->Prop}:∀ {l₁:List α} {l₂:List β},Paired F l₁ l₂->(∀ a b,F a b->G a b)->Paired G l₁ l₂
 | _,_,.nil,_=>.nil
 | _,_,.cons r t,f=>.cons (f _ _ r) (Paired.mapP t f)
theorem K0.stay (x:K0 P w H h a o)(k:∀ b u,(b=a\/H b=some (.own a))->h.get? b=some u->h'.get? b=some u)
  (ho:∀ b,H b=some (.own a)->H' b=some (.own a)) (ht:∀ b xs,H b=some (.tup xs)->H' b=some (.tup xs)):K0 P w H' h' a o:=by
 induction o with
 | lst xs=>obtain⟨z,its,n,r,e⟩:=x;exact⟨z,its,n,r,k _ _ (.inl rfl) e⟩
 | tup xs=>obtain⟨z,its,r,ob,e,c⟩:=x;exact⟨z,its,r,ob,k _ _ (.inl rfl) e,c⟩
 | dK kvs=>obtain⟨z,y,vs,r,ob,es,ep,e,c⟩:=x;exact⟨z,y,vs,r,ob,es,ep,k _ _ (.inl rfl) e,c⟩
 | dT kvs =>
  obtain⟨z,y,xs,r,ob,es,ep,e,c⟩:=x;exact⟨z,y,xs,Paired.mapP r λp q z=>⟨z.1,ht _ _ z.2.1,z.2.2⟩,ob,es,ep,k _ _ (.inl rfl) e,c⟩
 | set S n=>obtain⟨ob,es,ep,t,e,c⟩:=x;exact⟨ob,es,ep,t,k _ _ (.inl rfl) e,c⟩
 | ins C dx fs =>
  obtain⟨d,z,ne,e,mA,⟨od,es,ep,e2,c⟩,r⟩:=x;exact⟨ho _ d,z,ne,k _ _ (.inl rfl) e,mA,⟨od,es,ep,k _ _ (.inr d) e2,c⟩,r⟩
 | own y=>obtain⟨ob,e⟩:=x;exact⟨ob,k _ _ (.inl rfl) e⟩
 | xd fs=>obtain⟨mA,⟨od,es,ep,e,c⟩,r⟩:=x;exact⟨mA,⟨od,es,ep,k _ _ (.inl rfl) e,c⟩,r⟩
 | rng lo hi=>obtain⟨t,u,v,e⟩:=x;exact⟨t,u,v,k _ _ (.inl rfl) e⟩
 | frz ob u ih=>obtain⟨e,q⟩:=x;exact⟨k _ _ (.inl rfl) e,ih q⟩
 | tbl ps =>
  have e:h.get? a=some {cls:=.none,data:=.fields ps}:=x;show h'.get? a=some {cls:=.none,data:=.fields ps};exact k a _ (.inl rfl) e
 | met f y =>
  have e:h.get? a=some (gw (.ref f) (.ref y)):=x;show h'.get? a=some (gw (.ref f) (.ref y));exact k a _ (.inl rfl) e
 | ext φ=>obtain⟨p,⟨o,e⟩,st⟩:=x;exact⟨st _ _ p λo q=>k _ _ (.inl rfl) q,⟨o,k _ _ (.inl rfl) e⟩,st⟩
theorem HOk.lt (x:HOk P w H h)(e:H a=some o):a<h.objs.size:=(x a o e).lt
theorem HOk.fresh (x:HOk P w H h)(e:h.objs.size<=a):H a=none:=by
 cases q:H a with
 | none=>rfl
 | some u=>exact absurd (aO (x.lt q) e) (bG _)
theorem HOk.kept (x:HOk P w H h)(k:∀ b u,h.get? b=some u->h'.get? b=some u):HOk P w H h':=λa o e =>
 (x a o e).stay (λb u _ q=>k b u q) (λ_ q=>q) λ_ _ q=>q
theorem HOk.laid (x:HOk P w H h)(k:∀ b u,h.get? b=some u->h'.get? b=some u)(hp:h.objs.size<=a)(new:K0 P w (upd H a o) h' a o):HOk P w (upd H a o) h':=λb u e=>by
 have hn:=x.fresh hp;by_cases hb:b=a
 ·subst hb;rw[A1] at e;cases e;exact new
 ·rw[B3 hb] at e;exact (x b u e).stay (λc v _ q=>k c v q) (λc q=>by rw[B3 (C2 q hn)];exact q) λc xs q=>by rw[B3 (C2 q hn)];exact q
end
def Rd (H:Hp)(a:Addr)(u:HO):Prop:=H a=some u\/∃ o,H a=some (.frz o u)
theorem Rd.of {H:Hp}{a:Addr}{u:HO}(h:H a=some u):Rd H a u:=.inl h
theorem Rd.ok {P:Program}{w:World}{H:Hp}{h:Heap}{a:Addr}{u:HO}(r:Rd H a u)(x:HOk P w H h):K0 P w H h a u:=by
 rcases r with r | ⟨o,r⟩
 ·exact x a u r
 ·obtain⟨_,q⟩:=x a _ r;exact q
def Mut:Option HO->Prop
 | some (.lst _)=>True
 | some (.dK _)=>True
 | some (.dT _)=>True
 | some (.set _ _)=>True
 | some (.ins _ _ _)=>True
 | some (.ext _)=>True
 | _=>False
section
variable {P:Program}{w:World}{H:Hp}{h h':Heap}{x e:Addr}{o':HO}
theorem HOk.write (ok:HOk P w H h)(mu:Mut (H x))(he:e=x\/H e=some (.own x))(k:∀ b u,b≠e->h.get? b=some u->h'.get? b=some u)(heo:∃ u,h'.get? e=some u)
  (new:K0 P w (upd H x o') h' x o'):HOk P w (upd H x o') h':=λb u q=>by
 have nown:∀ c y,H c=some (.own y)->c≠x:=λc y r z=>by subst z;rw[r] at mu;exact mu
 have ntup:∀ c xs,H c=some (.tup xs)->c≠x:=λc xs r z=>by subst z;rw[r] at mu;exact mu
 by_cases hb:b=x
 ·subst hb;rw[A1] at q;cases q;exact new
 ·rw[B3 hb] at q;by_cases hbe:b=e
  ·have q':H b=some (.own x):=by
    rcases he with z | z
    ·exact absurd (hbe.trans z) hb
    ·rw[hbe];exact z
   rw[q] at q';cases q';obtain⟨v,hv⟩:=heo;exact⟨v,by rw[hbe];exact hv⟩
  ·refine (ok b u q).stay (λc v hc r=>k c v ?_ r) (λc r=>by rw[B3 (nown c b r)];exact r) λc xs r=>by rw[B3 (ntup c xs r)];exact r
   rcases hc with rfl | hc
   ·exact hbe
   ·rintro rfl;rcases he with z | z
    ·exact nown c b hc z
    ·rw[hc] at z;cases z;exact hb rfl
end
structure Un (fs ex:List Addr)(H H':Hp)(h h':Heap):Prop where
 keep:∀ b o,h.get? b=some o->H b=none->b∉fs->b∉ex->h'.get? b=some o
 slot:∀ b o,h.get? b=some o->H b=none->b∈fs->b∉ex->∃ sl,h'.get? b=some {o with slots:=sl}
 free:∀ b o,h.get? b=some o->H b=none->b∉ex->H' b=none
 there:∀ b o,h.get? b=some o->b∉ex->∃ o',h'.get? b=some o'
 tups:∀ b xs,H b=some (.tup xs)->H' b=some (.tup xs)
 frzs:∀ b o u,H b=some (.frz o u)->H' b=some (.frz o u)
 tbls:∀ b ps,H b=some (.tbl ps)->∃ more,H' b=some (.tbl (ps++more))
section
variable {fs fs' ex ex':List Addr}{H H1 H2:Hp}{h h1 h2 h':Heap}{a x e:Addr}{o:HO}
theorem Un.any (u:Un fs ex H H1 h h1){b:Addr}{ob:Obj}(q:h.get? b=some ob)(n:H b=none)(hx:b∉ex):∃ sl,h1.get? b=some {ob with slots:=sl}:=by
 by_cases hb:b∈fs
 ·exact u.slot b ob q n hb hx
 ·exact⟨ob.slots,u.keep b ob q n hb hx⟩
theorem Un.trans (a:Un fs ex H H1 h h1)(b:Un fs ex H1 H2 h1 h2):Un fs ex H H2 h h2 where
 keep:=λc ob q n hc hx=>b.keep c ob (a.keep c ob q n hc hx) (a.free c ob q n hx) hc hx
 slot:=λc ob q n hc hx=>by
  obtain⟨sl,e1⟩:=a.slot c ob q n hc hx;obtain⟨sl',e2⟩:=b.slot c _ e1 (a.free c ob q n hx) hc hx;exact⟨sl',e2⟩
 free:=λc ob q n hx=>by
  obtain⟨o',e1⟩:=a.there c ob q hx;exact b.free c o' e1 (a.free c ob q n hx) hx
 there:=λc ob q hx=>by
  obtain⟨o',e1⟩:=a.there c ob q hx;exact b.there c o' e1 hx
 tups:=λc xs q=>b.tups c xs (a.tups c xs q)
 frzs:=λc ob xs q=>b.frzs c ob xs (a.frzs c ob xs q)
 tbls:=λc ps q=>by
  obtain⟨m1,e1⟩:=a.tbls c ps q;obtain⟨m2,e2⟩:=b.tbls c _ e1;exact⟨m1++m2,by rw[e2,jD]⟩
theorem Un.kept (k:∀ b u,h.get? b=some u->h'.get? b=some u):Un fs ex H H h h' :=
 ⟨λb ob q _ _ _=>k b ob q,λb ob q _ _ _=>⟨ob.slots,k b ob q⟩,λ_ _ _ n _=>n,λb ob q _=>⟨ob,k b ob q⟩,λ_ _ q=>q,λ_ _ _ q=>q,λ_ ps q=>⟨#[],by rw[q];simp⟩⟩
theorem Un.refl:Un fs ex H H h h:=Un.kept λ_ _ q=>q
theorem Un.laid (k:∀ b u,h.get? b=some u->h'.get? b=some u)(hp:h.objs.size<=a)(hn:H a=none):Un fs ex H (upd H a o) h h' where
 keep:=λb u q _ _ _=>k b u q
 slot:=λb u q _ _ _=>⟨u.slots,k b u q⟩
 free:=λb u q n _=>by rw[B3 (aK (aO (ar q) hp))];exact n
 there:=λb u q _=>⟨u,k b u q⟩
 tups:=λb xs q=>by rw[B3 (C2 q hn)];exact q
 frzs:=λb u xs q=>by rw[B3 (C2 q hn)];exact q
 tbls:=λb ps q=>⟨#[],by rw[B3 (C2 q hn),q];simp⟩
theorem Un.write (mu:Mut (H x))(he:e=x\/H e=some (.own x))(k:∀ b u,b≠e->h.get? b=some u->h'.get? b=some u)(heo:∃ u,h'.get? e=some u):Un fs ex H (upd H x o) h h':=by
 have hx:∀ b,H b=none->b≠x:=λb n z=>by subst z;rw[n] at mu;exact mu
 have hb:∀ b,H b=none->b≠e:=λb n z=>by
  subst z;rcases he with r | r
  ·exact hx b n r
  ·rw[n] at r;cases r
 have hm:∀ b u,H b=some u->¬ Mut (some u)->b≠x:=λb u q nm z=>by subst z;rw[q] at mu;exact nm mu
 refine⟨λb u q n _ _=>k b u (hb b n) q,λb u q n _ _=>⟨u.slots,k b u (hb b n) q⟩,λb u q n _=>by rw[B3 (hx b n)];exact n,λb u q _=>?_,
  λb xs q=>by rw[B3 (hm b _ q λz=>z)];exact q,λb u xs q=>by rw[B3 (hm b _ q λz=>z)];exact q,λb ps q=>⟨#[],by rw[B3 (hm b _ q λz=>z),q];simp⟩⟩
 by_cases hbe:b=e
 ·subst hbe;exact heo
 ·exact⟨u,k b u hbe q⟩
theorem Un.mono (u:Un fs ex H H1 h h1)(hs:∀ b∈fs,b∈fs')(hx:∀ b∈ex,b∈ex'):Un fs' ex' H H1 h h1 :=
 ⟨λb ob q n hb he=>u.keep b ob q n (λz=>hb (hs b z)) λz=>he (hx b z),λ_ _ q n _ he=>u.any q n λz=>he (hx _ z),λb ob q n he=>u.free b ob q n λz=>he (hx b z),λb ob q he=>u.there b ob q λz=>he (hx b z),u.tups,u.frzs,u.tbls⟩
end
def trk (h:Heap)(H:Hp):List Addr:=(List.range h.objs.size).filter λa=>(H a).isSome
def a0e (h:Heap)(H:Hp):Heap:=fL h (trk h H)
theorem a3a (h:Heap)(H:Hp):(a0e h H).objs.size=h.objs.size:=PySem.W.hideAll_size _ _
theorem a4H {h:Heap}{H:Hp}{b:Addr}{o:Obj}(e:h.get? b=some o)(n:H b=none):(a0e h H).get? b=some o :=
 eV _ e λhm=>by
  have q:(H b).isSome=true:=(aM.mp hm).2;rw[n] at q;simp at q
theorem a6C {h:Heap}{H:Hp}{b:Addr}{o:Obj}(e:(a0e h H).get? b=some o):h.get? b=some o/\H b=none:=by
 have e':h.get? b=some o:=iY (trk h H) e;refine⟨e',?_⟩;cases q:H b with
 | none=>rfl
 | some x =>
  have hm:b∈trk h H:=aM.mpr ⟨cg.mpr (ar e'),by simp[q]⟩;have z:(a0e h H).get? b=none:=PySem.W.hideAll_none (trk h H) hm;rw[z] at e;cases e
def b1x (g h:Heap)(L:Addr):List (Addr×Obj):=(List.range h.objs.size).filterMap λa=>if a=L\/(g.get? a).isSome=true then none else (h.get? a).map λo=>(a,o)
def a0v (g h:Heap)(L d:Addr):List (Addr×Obj):=(b1x g h L).filter λp=>decide (p.1≠d)
end L2
namespace L2
open PySem PySem.Spec PyProof.Rows
structure Mod (K:ac)(mg:Str->Option Value)(base:Heap):Prop where
 kin:K.In base
 glob:base.Ns mainGlobals mg
 blt:∃ mb,base.Ns builtinsNs mb/\∀ x:Str,x≠"__name__"->mb x=bootBuiltins x
 nolimit:base.NoLimit
structure Cx where
 prog:Program
 w:World
 K:ac
 mg:Str->Option Value
 base:Heap
 A:Around
 N:List Str
 sv:Shared
 Hz:Hp
 env:Env
 outer:List Env
 stack:List Env
 ex:List Addr
 fn:Str->Bool
 calm:Bool
 pn:List (Addr×Obj)
 xe:Value->Shared->Prop
def frs (l:List Env):List Addr:=l.filterMap (·.frame)
abbrev Cx.fs (X:Cx):List Addr:=frs X.outer
def Vis (sc:Scope)(x:Str):Prop:=sc.names.lookup x=some .local\/sc.names.lookup x=some .cell\/sc.names.lookup x=some .free
def Loc (sc:Scope)(x:Str):Prop:=sc.names.lookup x=some .local\/sc.names.lookup x=some .cell
def b4X (env:Env)(h:Heap)(m:Str->Option Value)(x:Str)(u:Value):Prop :=
 (env.kindOf x=some .local/\m x=some u)\/((env.kindOf x=some .cell\/env.kindOf x=some .free)/\∃ c,env.cells.lookup x=some c/\h.IsCell c (some u))
structure Cx.Ok (X:Cx):Prop where
 mod:Mod X.K X.mg X.base
 kind:X.env.scope.kind=.function
 glob:X.env.globals=mainGlobals
 blt:X.env.builtins=builtinsNs
 above:X.sv.heap.objs.size<=X.env.locals
 inj:∀ x y c,X.env.cells.lookup x=some c->X.env.cells.lookup y=some c->x=y
 has:∀ x,(X.env.kindOf x=some .cell\/X.env.kindOf x=some .free)->∃ c,X.env.cells.lookup x=some c
 cab:∀ x c,X.fn x=true->X.env.cells.lookup x=some c->X.sv.heap.objs.size<=c
 hd:X.calm=true->X.A.handled=none
 frames:X.A.frames=some X.stack
 stk:X.stack=X.outer\/(X.stack=X.env::X.outer/\X.env.frame=some X.env.locals)
 exf:∀ b∈X.ex,b≠X.env.locals/\∀ x c,X.env.cells.lookup x=some c->c≠b
 bs:∀ b o,X.base.get? b=some o->X.sv.heap.get? b=some o/\X.Hz b=none
 bsz:X.base.objs.size<=X.sv.heap.objs.size
 noex:∀ b o,X.base.get? b=some o->b∉X.ex
 exfs:∀ b∈X.ex,b∉X.fs
 funs:X.sv.heap.FunFrames X.base X.outer
 frf:∀ b∈X.fs,X.Hz b=none
structure Inv (X:Cx)(pins:List (Addr×Obj))(σ:List (Option V))(H:Hp)(s:Shared):Prop where
 ok:X.Ok
 os:s.os=X.sv.os
 bare:AllBare s.gens
 base:Un X.fs X.ex X.Hz H X.sv.heap s.heap
 loc:∃ m,s.heap.Ns X.env.locals m/\∀(i:Nat) (x:Str) (v:V),X.N[i]?=some x->σ[i]?=some (some v)->Vis X.env.scope x->∃ u,D0 v u/\b4X X.env s.heap m x u
 cell:∀ x c,X.env.cells.lookup x=some c->∃ v,s.heap.IsCell c v
 free:H X.env.locals=none
 freeC:∀ x c,X.env.cells.lookup x=some c->H c=none
 pin:∀ p∈X.pn++pins,s.heap.get? p.1=some p.2/\H p.1=none/\p.1≠X.env.locals/\p.1∉X.fs/\∀ v,p.2.data≠.cell v
 hok:HOk X.prog X.w H s.heap
 len:σ.length=X.N.length
section
variable {X:Cx}{pins:List (Addr×Obj)}{σ:List (Option V)}{H H':Hp}{s:Shared}{h':Heap}
theorem Cx.Ok.nofr (ok:X.Ok){b:Addr}{o:Obj}(e:X.base.get? b=some o):b∉X.fs:=λhb=>by
 have:=(ok.funs.mem hb).1;rw[e] at this;cases this
theorem Inv.bs (I:Inv X pins σ H s):∀ b o,X.base.get? b=some o->s.heap.get? b=some o/\H b=none:=λb o e =>
 ⟨I.base.keep b o (I.ok.bs b o e).1 (I.ok.bs b o e).2 (I.ok.nofr e) (I.ok.noex b o e),I.base.free b o (I.ok.bs b o e).1 (I.ok.bs b o e).2 (I.ok.noex b o e)⟩
theorem Inv.bk (I:Inv X pins σ H s):∀ b o,X.base.get? b=some o->s.heap.get? b=some o:=λb o e=>(I.bs b o e).1
theorem Inv.mod (I:Inv X pins σ H s):Mod X.K X.mg X.base:=I.ok.mod
theorem Inv.kIn (I:Inv X pins σ H s):X.K.In s.heap:=I.ok.mod.kin.keeps I.bk
theorem Inv.nolimit (I:Inv X pins σ H s):s.heap.NoLimit:=I.ok.mod.nolimit.keeps I.bk
theorem Inv.lt (I:Inv X pins σ H s):X.env.locals<s.heap.objs.size:=let ⟨_,hn,_⟩:=I.loc;hn.lt
theorem Inv.sz (I:Inv X pins σ H s):X.sv.heap.objs.size<=s.heap.objs.size:=aV I.ok.above (cz I.lt)
theorem Inv.nofs (I:Inv X pins σ H s){a:Addr}(h:s.heap.objs.size<=a):a∉X.fs:=λhb=>by
 obtain⟨_,o,ho,_⟩:=I.ok.funs.mem hb;exact absurd (aO (ar ho) (aV I.sz h)) (bG _)
theorem Inv.cne (I:Inv X pins σ H s):∀ x c,X.env.cells.lookup x=some c->c≠X.env.locals:=λx c e z=>by
 obtain⟨v,o,ho,hd⟩:=I.cell x c e;obtain⟨m,⟨o',es,ep,ho',hd',_⟩,_⟩:=I.loc;rw[z,ho'] at ho;cases ho;rw[hd'] at hd;cases hd
theorem Inv.funs (I:Inv X pins σ H s):s.heap.FunFrames X.base X.outer:=by
 have all:∀(l:List Env),(∀ b∈frs l,b∈X.fs)->X.sv.heap.FunFrames X.base l->s.heap.FunFrames X.base l:=by
  intro l;induction l with
  | nil=>intro _ _;trivial
  | cons env r ih =>
   intro hs hl;obtain⟨hk,⟨L,o,hf,hn,ho,hd⟩,hr⟩:=hl;have hL:L∈X.fs:=hs L (by unfold frs;rw[dC,hf];exact aT);obtain⟨sl,e⟩:=I.base.slot L o ho (I.ok.frf L hL) hL λz=>I.ok.exfs L z hL
   exact⟨hk,⟨L,_,hf,hn,e,hd⟩,ih (λb hb=>hs b (by unfold frs;rw[dC,hf];exact aN _ hb)) hr⟩
 exact all X.outer (λ_ hb=>hb) I.ok.funs
theorem Inv.stack (I:Inv X pins σ H s):s.heap.FunFrames X.base X.stack:=by
 rcases I.ok.stk with e | ⟨e,hf⟩
 ·rw[e];exact I.funs
 ·rw[e];obtain⟨m,hn,_⟩:=I.loc;refine .cons (by rw[I.ok.kind];decide) hf hn ?_ I.funs;exact Heap.get?_none_of_le (aV I.ok.bsz I.ok.above)
theorem Inv.stkSub (I:Inv X pins σ H s):∀ b∈frs X.stack,b∈X.env.locals::X.fs:=λb hb=>by
 rcases I.ok.stk with e | ⟨e,hf⟩
 ·rw[e] at hb;exact aN _ hb
 ·rw[e] at hb;unfold frs at hb;rw[dC,hf] at hb;exact hb
theorem Inv.stkFree (I:Inv X pins σ H s):∀ b∈frs X.stack,H b=none:=λb hb=>by
 rcases aL.mp (I.stkSub b hb) with e | hb
 ·rw[e];exact I.free
 ·obtain⟨_,o,ho,_⟩:=I.ok.funs.mem hb;exact I.base.free b o ho (I.ok.frf b hb) λz=>I.ok.exfs b z hb
theorem Inv.step {g':Array GenState}{t':Nat}{d':Drawn}{ch:List Addr}(I:Inv X pins σ H s)
  (hch:∀ b∈ch,(b∈X.ex\/X.sv.heap.objs.size<=b)/\b≠X.env.locals/\(∀ x c,X.env.cells.lookup x=some c->c≠b)/\∀ p∈X.pn++pins,p.1≠b)
  (keep:∀ b o,b≠X.env.locals->b∉X.fs->b∉ch->s.heap.get? b=some o->H b=none->h'.get? b=some o)
  (slot:∀ b o,b≠X.env.locals->b∈X.fs->b∉ch->s.heap.get? b=some o->H b=none->∃ sl,h'.get? b=some {o with slots:=sl}) (free:∀ b o,b∉ch->s.heap.get? b=some o->H b=none->H' b=none)
  (there:∀ b o,b∉ch->s.heap.get? b=some o->∃ o',h'.get? b=some o')
  (tups:∀ b xs,H b=some (.tup xs)->H' b=some (.tup xs)) (frzs:∀ b o u,H b=some (.frz o u)->H' b=some (.frz o u)) (tbls:∀ b ps,H b=some (.tbl ps)->∃ more,H' b=some (.tbl (ps++more)))
  (ns:∀ m,s.heap.Ns X.env.locals m->h'.Ns X.env.locals m) (hok:HOk X.prog X.w H' h') (hg:AllBare g') :
  Inv X pins σ H' {s with heap:=h',gens:=g',drawn:=d',toks:=t'}:=by
 have neL:∀ b o,X.sv.heap.get? b=some o->b≠X.env.locals:=λb o e=>aK (aO (ar e) I.ok.above)
 have neC:∀ b o,X.sv.heap.get? b=some o->b∉X.ex->b∉ch:=λb o e hx hb=>by
  rcases (hch b hb).1 with z | z
  ·exact hx z
  ·exact absurd (aO (ar e) z) (bG _)
 have cellK:∀ x c,X.env.cells.lookup x=some c->∀ v,s.heap.IsCell c v->h'.IsCell c v:=λx c e v ⟨o,ho,hd⟩=>by
  have nch:c∉ch:=λz=>(hch c z).2.2.1 x c e rfl
  by_cases hc:c∈X.fs
  ·obtain⟨sl,q⟩:=slot c o (I.cne x c e) hc nch ho (I.freeC x c e);exact⟨_,q,hd⟩
  ·exact⟨o,keep c o (I.cne x c e) hc nch ho (I.freeC x c e),hd⟩
 refine⟨I.ok,I.os,hg,⟨λb o e n hb hx=>?_,λb o e n hb hx=>?_,λb o e n hx=>?_,λb o e hx=>?_,λb xs e=>tups b xs (I.base.tups b xs e),λb o xs e=>frzs b o xs (I.base.frzs b o xs e),λb ps e=>?_⟩,?_,λx c e=>?_,?_,λx c e=>?_,λp hp=>?_,hok,I.len⟩
 ·exact keep b o (neL b o e) hb (neC b o e hx) (I.base.keep b o e n hb hx) (I.base.free b o e n hx)
 ·obtain⟨sl,e1⟩:=I.base.slot b o e n hb hx;obtain⟨sl',e2⟩:=slot b _ (neL b o e) hb (neC b o e hx) e1 (I.base.free b o e n hx);exact⟨sl',e2⟩
 ·obtain⟨o',e1⟩:=I.base.there b o e hx;exact free b o' (neC b o e hx) e1 (I.base.free b o e n hx)
 ·obtain⟨o',e1⟩:=I.base.there b o e hx;exact there b o' (neC b o e hx) e1
 ·obtain⟨m1,e1⟩:=I.base.tbls b ps e;obtain⟨m2,e2⟩:=tbls b _ e1;exact⟨m1++m2,by rw[e2,jD]⟩
 ·obtain⟨m,hn,hl⟩:=I.loc;refine⟨m,ns m hn,λi x v e1 e2 e3=>?_⟩;obtain⟨u,r,l⟩:=hl i x v e1 e2 e3;refine⟨u,r,?_⟩;rcases l with l | ⟨k,c,e,z⟩
  ·exact .inl l
  ·exact .inr ⟨k,c,e,cellK x c e _ z⟩
 ·obtain⟨v,z⟩:=I.cell x c e;exact⟨v,cellK x c e v z⟩
 ·obtain⟨m,⟨o,_,_,ho,_⟩,_⟩:=I.loc;exact free _ o (λz=>(hch _ z).2.1 rfl) ho I.free
 ·obtain⟨v,o,ho,hd⟩:=I.cell x c e;exact free c o (λz=>(hch c z).2.2.1 x c e rfl) ho (I.freeC x c e)
 ·obtain⟨e,n,ne,nf,d⟩:=I.pin p hp;have nch:p.1∉ch:=λz=>(hch p.1 z).2.2.2 p hp rfl
  exact⟨keep p.1 p.2 ne nf nch e n,free p.1 p.2 nch e n,ne,nf,d⟩
theorem Inv.un {t':Nat}(I:Inv X pins σ H s)(u:Un X.fs [] H H' s.heap h')(hok:HOk X.prog X.w H' h'):Inv X pins σ H' {s with heap:=h',toks:=t'}:=by
 obtain⟨m,⟨o,es,ep,ho,r⟩,_⟩:=id I.loc;obtain⟨sl,hL⟩:=u.any ho I.free (by simp)
 exact I.step (g':=s.gens) (d':=s.drawn) (ch:=[]) (λ_ z=>nomatch z) (λb o _ hb _ e n=>u.keep b o e n hb (by simp)) (λb o _ hb _ e n=>u.slot b o e n hb (by simp)) (λb o _ e n=>u.free b o e n (by simp)) (λb o _ e=>u.there b o e (by simp)) u.tups u.frzs u.tbls (λm' hm=>by
  obtain⟨o',es',ep',ho',r'⟩:=hm;rw[ho] at ho';cases ho'
  exact⟨_,es',ep',hL,r'⟩) hok I.bare
theorem Inv.call {g':Array GenState}{t':Nat}{d':Drawn}{ch:List Addr}(I:Inv X pins σ H s)(u:Un (frs X.stack) ch H H' s.heap h')(hok:HOk X.prog X.w H' h')(hg:AllBare g')
  (hch:∀ b∈ch,(b∈X.ex\/X.sv.heap.objs.size<=b)/\b≠X.env.locals/\(∀ x c,X.env.cells.lookup x=some c->c≠b)/\∀ p∈X.pn++pins,p.1≠b) :
  Inv X pins σ H' {s with heap:=h',gens:=g',drawn:=d',toks:=t'}:=by
 obtain⟨m,⟨o,es,ep,ho,r⟩,_⟩:=id I.loc;obtain⟨sl,hL⟩:=u.any ho I.free λz=>(hch _ z).2.1 rfl
 exact I.step (ch:=ch) hch (λb o hL hb hc e n=>u.keep b o e n (λz=>(aL.mp (I.stkSub b z)).elim hL hb) hc) (λb o _ _ hc e n=>u.any e n hc) (λb o hc e n=>u.free b o e n hc) (λb o hc e=>u.there b o e hc) u.tups u.frzs u.tbls (λm' hm=>by
  obtain⟨o',es',ep',ho',r'⟩:=hm;rw[ho] at ho';cases ho'
  exact⟨_,es',ep',hL,r'⟩) hok hg
theorem Inv.turned {t':Nat}{it:Addr}(I:Inv X pins σ H s)(k:∀ b o,b≠it->s.heap.get? b=some o->h'.get? b=some o)(hn:H it=none)(hL:it≠X.env.locals)
  (h1:it∈X.ex\/X.sv.heap.objs.size<=it) (h2:∀ x c,X.env.cells.lookup x=some c->c≠it) (h3:∀ p∈X.pn++pins,p.1≠it):Inv X pins σ H {s with heap:=h',toks:=t'}:=by
 have nit:∀ b u,H b=some u->b≠it:=λb u e z=>by rw[z,hn] at e;cases e
 refine I.step (g':=s.gens) (d':=s.drawn) (ch:=[it]) (λb hb=>?_) (λb o _ _ hc e _=>k b o (λz=>hc (by simp[z])) e) (λb o _ _ hc e _=>⟨o.slots,k b o (λz=>hc (by simp[z])) e⟩) (λ_ _ _ _ n=>n)
  (λb o hc e=>⟨o,k b o (λz=>hc (by simp[z])) e⟩) (λ_ _ e=>e) (λ_ _ _ e=>e) (λb ps e=>⟨#[],by rw[e];simp⟩) (λm hm=>?_) (λb u e=>?_) I.bare
 ·have e:b=it:= ~~~hb
  subst e;exact⟨h1,hL,h2,h3⟩
 ·obtain⟨o,es,ep,ho,r⟩:=hm;exact⟨o,es,ep,k _ o (dN hL) ho,r⟩
 ·refine (I.hok b u e).stay (λc v hc q=>k c v ?_ q) (λ_ q=>q) λ_ _ q=>q
  rcases hc with z | z
  ·rw[z];exact nit b u e
  ·exact nit c _ z
theorem Inv.tok (I:Inv X pins σ H s)(t:Nat):Inv X pins σ H {s with toks:=t}:=I.un (h':=s.heap) (t':=t) Un.refl I.hok
theorem Inv.kept {t':Nat}(I:Inv X pins σ H s)(k:∀ b u,s.heap.get? b=some u->h'.get? b=some u):Inv X pins σ H {s with heap:=h',toks:=t'}:=I.un (Un.kept k) (I.hok.kept k)
theorem Inv.laid {a:Addr}{o:HO}{t':Nat}(I:Inv X pins σ H s)(k:∀ b u,s.heap.get? b=some u->h'.get? b=some u)(hp:s.heap.objs.size<=a)(new:K0 X.prog X.w (upd H a o) h' a o) :
  Inv X pins σ (upd H a o) {s with heap:=h',toks:=t'}:=I.un (Un.laid k hp (I.hok.fresh hp)) (I.hok.laid k hp new)
theorem Inv.write {x e:Addr}{o:HO}{t':Nat}(I:Inv X pins σ H s)(mu:Mut (H x))(he:e=x\/H e=some (.own x))(k:∀ b u,b≠e->s.heap.get? b=some u->h'.get? b=some u)(heo:∃ u,h'.get? e=some u)
  (new:K0 X.prog X.w (upd H x o) h' x o):Inv X pins σ (upd H x o) {s with heap:=h',toks:=t'}:=I.un (Un.write mu he k heo) (I.hok.write mu he k heo new)
theorem Inv.pins_of {pins':List (Addr×Obj)}(I:Inv X pins σ H s)(h:∀ p∈pins',s.heap.get? p.1=some p.2/\H p.1=none/\p.1≠X.env.locals/\p.1∉X.fs/\∀ v,p.2.data≠.cell v):Inv X pins' σ H s :=
 ⟨I.ok,I.os,I.bare,I.base,I.loc,I.cell,I.free,I.freeC,λp hp=>(aj.mp hp).elim (λz=>I.pin p (dq _ z)) (h p),I.hok,I.len⟩
theorem a1O {N:List Str}(hN:N.Nodup){i j:Nat}{x:Str}(a:N[i]?=some x)(b:N[j]?=some x):i=j:=by
 obtain⟨h1,e1⟩:=ai.mp a;obtain⟨h2,e2⟩:=ai.mp b;exact (List.getElem_inj hN).mp (e1.trans e2.symm)
theorem a0F {M:Model}{A:Around}{E:Value->Shared->Prop}{i:Nat}{x:Str}{v:V}{u:Value}{Q:Unit->Shared->Prop}(I:Inv X pins σ H s)(hN:X.N.Nodup)(hi:X.N[i]?=some x)(hx:Loc X.env.scope x)(r:D0 v u)
  (h:∀ s',Inv X pins (σ.set i (some v)) H s'->(∃ a,dh a s.heap s'.heap/\(a=X.env.locals\/X.env.cells.lookup x=some a))->Q () s') (hf:X.fn x=true\/X.env.scope.names.lookup x=some .local:=by first | exact .inl rfl | exact .inr rfl | assumption):wpAny M A (storeName X.env x u) Q E s:=by
 obtain⟨m,hn,hl⟩:=id I.loc;have hcls:(X.env.scope.kind == .class || (X.env.scope.kind == .module && X.env.locals != X.env.globals))=false:=by rw[I.ok.kind];rfl
 have hiσ:i<σ.length:=by rw[I.len];exact (ai.mp hi).1
 have cne:=I.cne;have tracked:∀ {a:Addr} {h':Heap},(∃ o,s.heap.get? a=some o/\H a=none)->dh a s.heap h'->HOk X.prog X.w H h':=λ{a h'} ha hs b ob e=>by
  obtain⟨_,_,hfree⟩:=ha;refine (I.hok b ob e).stay (λc w' hc q=>(hs.2 c ?_).trans q) (λ_ q=>q) λ_ _ q=>q
  rintro rfl;rcases hc with rfl | hc
  ·rw[hfree] at e;cases e
  ·rw[hfree] at hc;cases hc
 rcases hx with hk | hk
 ·refine wpAny_storeName_local hk hn (λh' hn' hs=>?_) hcls;obtain⟨oL,_,_,hoL,_⟩:=id hn;refine h _ ⟨I.ok,I.os,I.bare,⟨λb o e n hb hx=>?_,λb o e n hb hx=>?_,I.base.free,λb o e hx=>?_,I.base.tups,I.base.frzs,I.base.tbls⟩,⟨_,hn',λj y v' e1 e2 e3=>?_⟩,λy c e=>?_,I.free,I.freeC,λp hp=>?_,tracked ⟨oL,hoL,I.free⟩ hs, ~~~I.len⟩ ⟨_,hs,.inl rfl⟩
  ·exact (hs.2 b (aK (aO (ar e) I.ok.above))).trans (I.base.keep b o e n hb hx)
  ·obtain⟨sl,e1⟩:=I.base.slot b o e n hb hx;exact⟨sl,(hs.2 b (aK (aO (ar e) I.ok.above))).trans e1⟩
  ·obtain⟨o',e1⟩:=I.base.there b o e hx;exact⟨o',(hs.2 b (aK (aO (ar e) I.ok.above))).trans e1⟩
  ·by_cases hj:j=i
   ·subst hj;rw[hi] at e1;cases e1;rw[cZ hiσ] at e2;cases e2;exact⟨u,r,.inl ⟨hk,by simp⟩⟩
   ·rw[cL (dN hj)] at e2;obtain⟨u',r',q⟩:=hl j y v' e1 e2 e3;refine⟨u',r',?_⟩;rcases q with ⟨k,e⟩ | ⟨k,c,e,z⟩
    ·refine .inl ⟨k,?_⟩;have:y≠x:=λe=>hj (a1O hN e1 (e ▸ hi))
     simp[this,e]
    ·exact .inr ⟨k,c,e,z.sameBut hs (cne y c e)⟩
  ·obtain⟨w',z⟩:=I.cell y c e;exact⟨w',z.sameBut hs (cne y c e)⟩
  ·obtain⟨e,n,ne,nf,d⟩:=I.pin p hp;exact⟨(hs.2 p.1 ne).trans e,n,ne,nf,d⟩
 ·have hfn:X.fn x=true:=by
   rcases hf with z | z
   ·exact z
   ·rw[z] at hk;cases hk
  obtain⟨c,hc⟩:=I.ok.has x (.inl hk);obtain⟨w',z⟩:=I.cell x c hc;refine wpAny_storeName_cell I.ok.kind hk hc z (λh' hc' hs=>?_);obtain⟨oc,hoc,hocd⟩:=id z;refine h {s with heap:=h'} ⟨I.ok,I.os,I.bare,⟨λb o e n hb hx=>?_,λb o e n hb hx=>?_,I.base.free,λb o e hx=>?_,I.base.tups,I.base.frzs,I.base.tbls⟩,⟨m,hn.sameBut hs (dN (cne x c hc)),λj y v' e1 e2 e3=>?_⟩,λy c' e=>?_,I.free,I.freeC,λp hp=>?_,tracked ⟨oc,hoc,I.freeC x c hc⟩ hs, ~~~I.len⟩ ⟨c,hs,.inr hc⟩
  ·exact (hs.2 b (aK (aO (ar e) (I.ok.cab x c hfn hc)))).trans (I.base.keep b o e n hb hx)
  ·obtain⟨sl,e1⟩:=I.base.slot b o e n hb hx;exact⟨sl,(hs.2 b (aK (aO (ar e) (I.ok.cab x c hfn hc)))).trans e1⟩
  ·obtain⟨o',e1⟩:=I.base.there b o e hx;exact⟨o',(hs.2 b (aK (aO (ar e) (I.ok.cab x c hfn hc)))).trans e1⟩
  ·by_cases hj:j=i
   ·subst hj;rw[hi] at e1;cases e1;rw[cZ hiσ] at e2;cases e2;exact⟨u,r,.inr ⟨.inl hk,c,hc,hc'⟩⟩
   ·rw[cL (dN hj)] at e2;obtain⟨u',r',q⟩:=hl j y v' e1 e2 e3;refine⟨u',r',?_⟩;rcases q with q | ⟨k,c',e,z'⟩
    ·exact .inl q
    ·refine .inr ⟨k,c',e,z'.sameBut hs ?_⟩;rintro rfl;exact hj (a1O hN e1 (I.ok.inj _ _ _ e hc ▸ hi))
  ·by_cases hcc:c'=c
   ·subst hcc;exact⟨_,hc'⟩
   ·obtain⟨w2,z2⟩:=I.cell y c' e;exact⟨w2,z2.sameBut hs hcc⟩
  ·obtain⟨e,n,ne,nf,d⟩:=I.pin p hp;refine⟨(hs.2 p.1 ?_).trans e,n,ne,nf,d⟩;intro q;rw[q,hoc] at e;have q':oc=p.2:=ak e;exact d w' (by rw[<- q'];exact hocd)
theorem V1 {M:Model}{A:Around}{E:Value->Shared->Prop}{i:Nat}{x:Str}{v:V}{u:Value}{Q:Unit->Shared->Prop}(I:Inv X pins σ H s)(hN:X.N.Nodup)(hi:X.N[i]?=some x)(hx:Loc X.env.scope x)(r:D0 v u)
  (h:∀ s',Inv X pins (σ.set i (some v)) H s'->Q () s') (hf:X.fn x=true\/X.env.scope.names.lookup x=some .local:=by first | exact .inl rfl | exact .inr rfl | assumption):wpAny M A (storeName X.env x u) Q E s :=
 a0F I hN hi hx r (λs' I' _=>h s' I') hf
theorem Inv.call' {s':Shared}{ch:List Addr}(I:Inv X pins σ H s)(ho:s'.os=s.os)(u:Un (frs X.stack) ch H H' s.heap s'.heap)(hok:HOk X.prog X.w H' s'.heap)(hg:AllBare s'.gens)
  (hch:∀ b∈ch,(b∈X.ex\/X.sv.heap.objs.size<=b)/\b≠X.env.locals/\(∀ x c,X.env.cells.lookup x=some c->c≠b)/\∀ p∈X.pn++pins,p.1≠b):Inv X pins σ H' s':=by
 obtain⟨h',g',d',t',o'⟩:=s';have e:o'=s.os:=ho;subst e;exact I.call (g':=g') (t':=t') (d':=d') u hok hg hch
end
abbrev XK:=Value->Option Addr->Hp->Prop
abbrev St:=List (Option V)
abbrev VK:=V->Hp->Prop
abbrev TE:=St->Hp->VK->Prop
abbrev TT:=St->Hp->(Bool->Hp->Prop)->Prop
abbrev TA:=St->Hp->(List V->Hp->Prop)->Prop
structure U0 where
 nx:St->Hp->Prop
 rt:VK
 bk:St->Hp->Prop:=λ_ _=>False
 ct:St->Hp->Prop:=λ_ _=>False
abbrev TS:=U0->St->Hp->Prop
def EP (X:Cx)(pins:List (Addr×Obj))(σ:St)(Q:VK)(u:Value)(s':Shared):Prop:=∃ v H',Inv X pins σ H' s'/\D0 v u/\Q v H'
def TP (X:Cx)(pins:List (Addr×Obj))(σ:St)(Q:Bool->Hp->Prop)(b:Bool)(s':Shared):Prop:=∃ H',Inv X pins σ H' s'/\Q b H'
def AP (X:Cx)(pins:List (Addr×Obj))(σ:St)(Q:List V->Hp->Prop)(us:List Value)(s':Shared):Prop:=∃ vs H',Inv X pins σ H' s'/\C9 vs us/\Q vs H'
def SP (X:Cx)(pins:List (Addr×Obj))(D:U0)(f:Flow)(s':Shared):Prop :=
 match f with
 | .next=>∃ σ' H',Inv X pins σ' H' s'/\D.nx σ' H'
 | .brk=>∃ σ' H',Inv X pins σ' H' s'/\D.bk σ' H'
 | .cont=>∃ σ' H',Inv X pins σ' H' s'/\D.ct σ' H'
 | .ret u=>∃ v σ' H',Inv X pins σ' H' s'/\D0 v u/\D.rt v H'
def PE (X:Cx)(e:Expr)(t:TE):Prop :=
 ∀(pins:List (Addr×Obj)) (s:Shared) (σ:St) (H:Hp) (Q:VK),Inv X pins σ H s->t σ H Q->wpAny (model X.prog X.w) X.A (eval e X.env) (EP X pins σ Q) X.xe s
def PT (X:Cx)(e:Expr)(t:TT):Prop :=
 ∀(pins:List (Addr×Obj)) (s:Shared) (σ:St) (H:Hp) (Q:Bool->Hp->Prop),Inv X pins σ H s->t σ H Q->wpAny (model X.prog X.w) X.A (isTrue e X.env (eval e X.env)) (TP X pins σ Q) X.xe s
def PW (X:Cx)(e:Expr)(t:TT):Prop :=
 ∀(whole:Sem Value) (pins:List (Addr×Obj)) (s:Shared) (σ:St) (H:Hp) (Q:Bool->Hp->Prop),Inv X pins σ H s->t σ H Q->wpAny (model X.prog X.w) X.A (isTrue e X.env whole) (TP X pins σ Q) X.xe s
theorem PW.pt {X:Cx}{e:Expr}{t:TT}(h:PW X e t):PT X e t:=h _
def PA (X:Cx)(es:List Expr)(t:TA):Prop :=
 ∀(pos:Pos) (pins:List (Addr×Obj)) (s:Shared) (σ:St) (H:Hp) (Q:List V->Hp->Prop),Inv X pins σ H s->t σ H Q->wpAny (model X.prog X.w) X.A (spliced (backTo pos (starEach es X.env))) (AP X pins σ Q) X.xe s
def PS (X:Cx)(st:Stmt)(t:TS):Prop :=
 ∀(pins:List (Addr×Obj)) (s:Shared) (σ:St) (H:Hp) (D:U0),Inv X pins σ H s->t D σ H->wpAny (model X.prog X.w) X.A (exec st X.env) (SP X pins D) X.xe s
def PSs (X:Cx)(st:List Stmt)(t:TS):Prop :=
 ∀(pins:List (Addr×Obj)) (s:Shared) (σ:St) (H:Hp) (D:U0),Inv X pins σ H s->t D σ H->wpAny (model X.prog X.w) X.A (execs st X.env) (SP X pins D) X.xe s
theorem thn {α:Type}{t:Sem α}{Q Q':α->Shared->Prop}{M:Model}{A:Around}{E:Value->Shared->Prop}{s:Shared}(h:wpAny M A t Q E s)(hQ:∀ a s,Q a s->Q' a s):wpAny M A t Q' E s:=bB h hQ λ_ _ x=>x
end L2
namespace L2
open PySem PySem.Spec PyProof.Rows
section
variable {X:Cx}
theorem bin {a b:Expr}{ta tb:TE}(ha:PE X a ta)(hb:PE X b tb){pins:List (Addr×Obj)}{s:Shared}{σ:St}{H:Hp}{R:V->V->Hp->Prop}(I:Inv X pins σ H s)(h:ta σ H λx H1=>tb σ H1 λy H2=>R x y H2)
  {α:Type} {Q:α->Shared->Prop} {f:Value->Value->Sem α}
  (hf:∀ v u s2 x y H2,Inv X pins σ H2 s2->D0 x v->D0 y u->R x y H2->wpAny (model X.prog X.w) X.A (f v u) Q X.xe s2) :
  wpAny (model X.prog X.w) X.A (eval a X.env) (λv sq=>wpAny (model X.prog X.w) X.A (eval b X.env) (λu sx=>wpAny (model X.prog X.w) X.A (f v u) Q X.xe sx) X.xe sq) X.xe s:=by
 refine thn (ha pins s σ H _ I h) λv s1 ⟨x,H1,I1,r1,q1⟩=>?_
 refine thn (hb pins s1 σ H1 _ I1 q1) λu s2 ⟨y,H2,I2,r2,q2⟩=>?_
 exact hf v u s2 x y H2 I2 r1 r2 q2
def U6 (i:Nat):TE:=fun σ H Q=>∃ v,σ[i]?=some (some v)/\Q v H
def tC (v:V):TE:=λ_ H Q=>Q v H
theorem b2B {i:Nat}{x:Str}{pos:Pos}(hN:X.N[i]?=some x)(hv:Vis X.env.scope x)(hd:(x == ("__debug__":Str))=false:=by decide)(hcd:(x == ("__classdict__":Str))=false:=by decide):PE X (.Name x pos) (U6 i):=by
 intro pins s σ H Q I h;obtain⟨v,e,h⟩:=h;obtain⟨m,hn,hl⟩:=I.loc;obtain⟨u,r,l⟩:=hl i x v hN e hv;have fin:EP X pins σ Q u s:=⟨v,H,I,r,h⟩
 rcases l with ⟨hk,hm⟩ | ⟨hk,c,hc,hcell⟩
 ·exact ke (wpAny_loadName_local I.ok.kind hk hn hm fin) hd
 ·rcases hk with hk | hk
  ·exact ke (wpAny_loadName_cell I.ok.kind hk hc hcell fin) hd
  ·exact ke (wpAny_loadName_free I.ok.kind hk hc hcell fin hcd) hd
theorem A7 {i j pos}:PE X (.Constant (.int i) j pos) (tC (.int i)):=λ_ _ _ H _ I h=>wpAny_Constant_int ⟨.int i,H,I.tok _,⟨_,rfl⟩,h⟩
theorem K9 {b j pos}:PE X (.Constant (.bool b) j pos) (tC (.bl b)):=λ_ _ _ H _ I h=>Constant_bool ⟨.bl b,H,I,rfl,h⟩
theorem a5m {j pos}:PE X (.Constant .none j pos) (tC .non):=λ_ _ _ H _ I h=>Constant_none ⟨.non,H,I,rfl,h⟩
theorem a0l {x j pos}:PE X (.Constant (.str x) j pos) (tC (.str x)):=λ_ _ _ H _ I h=>Calls.Constant_str ⟨.str x,H,I.tok _,⟨_,rfl⟩,h⟩
def Gl (X:Cx)(x:Str):Prop:=X.env.kindOf x=some .globalImplicit
theorem Z8 {E:Value->Shared->Prop}{pins:List (Addr×Obj)}{s:Shared}{σ:St}{H:Hp}{x:Str}{u:Value}{pos:Pos}{Q:Value->Shared->Prop}(I:Inv X pins σ H s)(hg:Gl X x)(hm:X.mg x=some u)(h:Q u s)
  (hd:(x == ("__debug__":Str))=false:=by decide):wpAny (model X.prog X.w) X.A (eval (.Name x pos) X.env) Q E s :=
 g9 I.ok.kind hg (Calls.loadGlobal_global (by rw[I.ok.glob];exact I.mod.glob.keeps I.bk) hm h) hd
theorem S8 {E:Value->Shared->Prop}{pins:List (Addr×Obj)}{s:Shared}{σ:St}{H:Hp}{x:Str}{u:Value}{pos:Pos}{Q:Value->Shared->Prop}(I:Inv X pins σ H s)(hg:Gl X x)(hm:X.mg x=none)(hv:bootBuiltins x=some u)(h:Q u s)
  (hn:x≠"__name__":=by decide) (hd:(x == ("__debug__":Str))=false:=by decide):wpAny (model X.prog X.w) X.A (eval (.Name x pos) X.env) Q E s:=by
 obtain⟨mb,h1,h2⟩:=I.mod.blt;exact g9 I.ok.kind hg (Calls.loadGlobal_builtin (by rw[I.ok.glob];exact I.mod.glob.keeps I.bk) hm (by rw[I.ok.blt];exact h1.keeps I.bk) ((h2 x hn).trans hv) h) hd
theorem S1 {x:Str}{v:V}{u:Value}{pos:Pos}(hg:Gl X x)(hm:X.mg x=some u)(r:D0 v u)(hd:(x == ("__debug__":Str))=false:=by decide):PE X (.Name x pos) (tC v) :=
 λ_ _ _ H _ I h=>Z8 I hg hm ⟨v,H,I,r,h⟩ hd
variable {a b:Expr}{ta tb:TE}{pos:Pos}
def PC (X:Cx)(op:CmpOp)(a b:Expr)(t:TE):Prop :=
 ∀(pins:List (Addr×Obj)) (s:Shared) (σ:St) (H:Hp) (Q:VK),Inv X pins σ H s->t σ H Q ->
  wpAny (model X.prog X.w) X.A (eval a X.env) (λv sq=>wpAny (model X.prog X.w) X.A (eval b X.env) (λu sx=>wpAny (model X.prog X.w) X.A (compareOp op v u) (EP X pins σ Q) X.xe sx) X.xe sq) X.xe s
theorem a9e (b:Expr){op:CmpOp}(h:op≠.In)(h2:op≠.NotIn):behindInMarks op b=false:=by
 have e1:(op == CmpOp.In)=false:=by cases op<;>first | rfl | exact absurd rfl h
 have e2:(op == CmpOp.NotIn)=false:=by cases op<;>first | rfl | exact absurd rfl h2
 cases b<;>simp[behindInMarks,e1,e2]
def b5p (ta:TE):TE:=fun σ H Q=>ta σ H λx H1=>Q (.bl (decide (x=.non))) H1
def b1H (ta:TE):TE:=fun σ H Q=>ta σ H λx H1=>Q (.bl (!decide (x=.non))) H1
theorem D0.none_iff {x:V}{v:Value}(r:D0 x v):(v == cI)=decide (x=.non):=by
 cases x with
 | non=>cases r;rfl
 | bl _=>cases r;rfl
 | int _=>obtain⟨t,rfl⟩:=r;rfl
 | str _=>obtain⟨t,rfl⟩:=r;rfl
 | byt _=>obtain⟨t,rfl⟩:=r;rfl
 | flt _=>obtain⟨t,rfl⟩:=r;rfl
 | ref _=>cases r;rfl
 | ty _=>cases r;rfl
theorem a3y {j pos'}(ha:PE X a ta):PC X .IsNot a (.Constant .none j pos') (b1H ta):=by
 intro pins s σ H Q I h;refine thn (ha pins s σ H _ I h) λv s1 ⟨x,H1,I1,r1,q1⟩=>?_
 exact Constant_none (isnot_none_gen ⟨.bl _,H1,I1,by rw[r1.none_iff];rfl,q1⟩)
def tB (t:TE):TT:=fun σ H Q=>t σ H λx H1=>∃ c,x=.bl c/\Q c H1
theorem V9 {op:CmpOp}{t:TE}(h:PC X op a b t)(h1:behindInMarks op b=false:=by first | exact a9e _ (by decide) (by decide) | rfl):PT X (.Compare a [op] [b] pos) (tB t):=by
 intro pins s σ H Q I hw;refine jS (thn (h pins s σ H _ I hw) λv s1 h1=>thn h1 λu s2 h2=>thn h2 λc s3 ⟨x,H1,I1,r1,q1⟩=>?_) h1;obtain⟨d,rfl,q⟩:=q1;cases r1;exact cb ⟨H1,I1,q⟩
theorem P6 {e:Expr}{t:TE}(h:PE X e t)(he:∀ whole,isTrue e X.env whole=(do let v <- whole;standAt e.pos;holding [v] (truthy v)):=by intro _;rfl):PT X e (tB t):=by
 intro pins s σ H Q I hw;refine isTrue_plain (thn (h pins s σ H _ I hw) λv s1 ⟨x,H1,I1,r1,q1⟩=>?_) (he _);obtain⟨d,rfl,q⟩:=q1;cases r1;exact cb ⟨H1,I1,q⟩
variable {tA tB':TT}{a0v:List Expr}
def b4s (t u:TT):TT:=fun σ H Q=>t σ H λc H1=>if c=true then u σ H1 Q else Q false H1
def tOr (t u:TT):TT:=fun σ H Q=>t σ H λc H1=>if c=true then Q true H1 else u σ H1 Q
def b4f (t:TT):TT:=fun σ H Q=>t σ H λc H1=>Q (!c) H1
theorem Z2 (ha:PT X a tA):PW X (.BoolOp .And [a] pos) tA:=by
 intro wh pins s σ H Q I h;refine isTrue_and (thn (ha pins s σ H Q I h) λc s1 e=>?_);cases c with
 | true=>exact isTrue_and_nil e
 | false=>exact e
theorem a1M (ha:PT X a tA):PW X (.BoolOp .Or [a] pos) tA:=by
 intro wh pins s σ H Q I h;refine isTrue_or (thn (ha pins s σ H Q I h) λc s1 e=>?_);cases c with
 | false=>exact isTrue_or_nil e
 | true=>exact e
theorem a0J (ha:PT X a tA)(hb:PW X (.BoolOp .And (b::a0v) pos) tB'):PW X (.BoolOp .And (a::b::a0v) pos) (b4s tA tB'):=by
 intro wh pins s σ H Q I h;refine isTrue_and (thn (ha pins s σ H _ I h) λc s1 ⟨H1,I1,q1⟩=>?_);cases c with
 | true=>exact hb wh pins s1 σ H1 Q I1 q1
 | false=>exact⟨H1,I1,q1⟩
theorem a2Q (ha:PT X a tA)(hb:PW X (.BoolOp .Or (b::a0v) pos) tB'):PW X (.BoolOp .Or (a::b::a0v) pos) (tOr tA tB'):=by
 intro wh pins s σ H Q I h;refine isTrue_or (thn (ha pins s σ H _ I h) λc s1 ⟨H1,I1,q1⟩=>?_);cases c with
 | true=>exact⟨H1,I1,q1⟩
 | false=>exact hb wh pins s1 σ H1 Q I1 q1
theorem S7 (ha:PT X a tA):PT X (.UnaryOp .Not a pos) (b4f tA):=by
 intro pins s σ H Q I h;exact isTrue_not (ha pins s σ H (λc H1=>Q (!c) H1) I h)
def b1M (ta tb:TE):TE:=fun σ H Q=>ta σ H λx H1=>∃ c,x=.bl c/\if c=true then tb σ H1 Q else Q (.bl false) H1
def b5l (ta tb:TE):TE:=fun σ H Q=>ta σ H λx H1=>∃ c,x=.bl c/\if c=true then Q (.bl true) H1 else tb σ H1 Q
def b1G (ta:TE):TE:=fun σ H Q=>ta σ H λx H1=>∃ c,x=.bl c/\Q (.bl (!c)) H1
theorem X5 {op}{t:TE}(h:PE X a t):PE X (.BoolOp op [a] pos) t:=λpins s σ H Q I hw=>BoolOp_one (h pins s σ H Q I hw)
theorem W0 (ha:PE X a ta)(hb:PE X (.BoolOp .And (b::a0v) pos) tb):PE X (.BoolOp .And (a::b::a0v) pos) (b1M ta tb):=by
 intro pins s σ H Q I h;refine BoolOp_and (thn (ha pins s σ H _ I h) λv s1 ⟨x,H1,I1,r1,q1⟩=>?_);obtain⟨c,rfl,q1⟩:=q1;cases r1;refine cb ?_;cases c with
 | true=>exact hb pins s1 σ H1 Q I1 q1
 | false=>exact⟨.bl false,H1,I1,rfl,q1⟩
theorem a8C (ha:PE X a ta):PE X (.UnaryOp .Not a pos) (b1G ta):=by
 intro pins s σ H Q I h;refine UnaryOp_ (thn (ha pins s σ H _ I h) λv s1 ⟨x,H1,I1,r1,q1⟩=>?_);obtain⟨c,rfl,q1⟩:=q1;cases r1;exact not_of (cb ⟨.bl (!c),H1,I1,rfl,q1⟩)
end
end L2
namespace L2
open PySem PySem.Spec PyProof.Rows
def SqL (K:ac)(H:Hp)(a:Addr)(xs:List V):Prop :=
 Rd H a (.lst xs) \/
  ∃(o:Obj) (its:Array Value) (n:Nat),K.lookup a=some o/\o.cls=.type "list"/\o.dict=none/\o.data=.seq its n/\its.size<=sizeLine/\C9 xs its.toList
def SqT (K:ac)(H:Hp)(a:Addr)(xs:List V):Prop :=
 Rd H a (.tup xs) \/
  ∃(o:Obj) (its:Array Value) (n:Nat),K.lookup a=some o/\o.cls=.type "tuple"/\o.data=.seq its n/\its.size<=sizeLine/\C9 xs its.toList
def b5I:Value->Option V
 | .none=>some .non
 | .bool b=>some (.bl b)
 | .int i _=>some (.int i)
 | .str x _=>some (.str x)
 | .bytes b _=>some (.byt b)
 | .float b _=>some (.flt b)
 | .ref a=>some (.ref a)
 | .type n=>some (.ty n)
 | _=>none
theorem D0.abs {x:V}{u:Value}(r:D0 x u):b5I u=some x:=by
 cases x with
 | non=>cases r;rfl
 | bl _=>cases r;rfl
 | int _=>obtain⟨t,rfl⟩:=r;rfl
 | str _=>obtain⟨t,rfl⟩:=r;rfl
 | byt _=>obtain⟨t,rfl⟩:=r;rfl
 | flt _=>obtain⟨t,rfl⟩:=r;rfl
 | ref _=>cases r;rfl
 | ty _=>cases r;rfl
theorem D0.inj {x y:V}{u:Value}(r:D0 x u)(q:D0 y u):x=y:=ak (r.abs.symm.trans q.abs)
theorem C9.inj:∀ {xs ys:List V} {us:List Value},C9 xs us->C9 ys us->xs=ys
 | _,_,_,.nil,.nil=>rfl
 | _,_,_,.cons r t,.cons r' t'=>by rw[r.inj r',C9.inj t t']
section
variable {X:Cx}{pins:List (Addr×Obj)}{σ:St}{H:Hp}{s:Shared}{a:Addr}{xs ys:List V}
theorem SqL.of {K:ac}(h:H a=some (.lst xs)):SqL K H a xs:=.inl (.inl h)
theorem SqT.of {K:ac}(h:H a=some (.tup xs)):SqT K H a xs:=.inl (.inl h)
theorem Inv.list (I:Inv X pins σ H s)(h:SqL X.K H a xs):∃ its:List Value,C9 xs its/\PlainL s.heap a its.toArray/\xs.length<=sizeLine:=by
 rcases h with h | ⟨o,its,n,hk,hc,hd,hs,hz,r⟩
 ·obtain⟨z,its,n,r,e⟩:=h.ok I.hok;exact⟨its,r,⟨_,n,e,rfl,rfl,rfl⟩,z⟩
 ·refine⟨its.toList,r,⟨o,n,I.kIn a o hk,hc,hd, ~~~hs⟩,?_⟩;have e:=r.length;simp only[aU] at e;omega
theorem Inv.tuple (I:Inv X pins σ H s)(h:SqT X.K H a xs):∃ its:List Value,C9 xs its/\IsTup s.heap a its.toArray/\xs.length<=sizeLine:=by
 rcases h with h | ⟨o,its,n,hk,hc,hs,hz,r⟩
 ·obtain⟨z,its,r,p⟩:=h.ok I.hok;exact⟨its,r,p,z⟩
 ·refine⟨its.toList,r,⟨o,I.kIn a o hk,hc,n, ~~~hs⟩,?_⟩;have e:=r.length;simp only[aU] at e;omega
theorem Inv.list_inj (I:Inv X pins σ H s)(h:SqL X.K H a xs)(h':SqL X.K H a ys):xs=ys:=by
 obtain⟨its,r,⟨o,n,e,_,_,d⟩,_⟩:=I.list h;obtain⟨its',r',⟨o',n',e',_,_,d'⟩,_⟩:=I.list h';rw[e] at e';cases e';rw[d] at d';injection d' with d1 _
 have:its=its':=by simpa using congrArg Array.toList d1
 subst this;exact r.inj r'
theorem Inv.tuple_inj (I:Inv X pins σ H s)(h:SqT X.K H a xs)(h':SqT X.K H a ys):xs=ys:=by
 obtain⟨its,r,⟨o,e,_,n,d⟩,_⟩:=I.tuple h;obtain⟨its',r',⟨o',e',_,n',d'⟩,_⟩:=I.tuple h';rw[e] at e';cases e';rw[d] at d';injection d' with d1 _
 have:its=its':=by simpa using congrArg Array.toList d1
 subst this;exact r.inj r'
end
abbrev Cx.wish (X:Cx)(E:Value->Shared->Prop):Cx:={X with xe:=E}
abbrev Cx.nox (X:Cx):Cx:=X.wish λ_ _=>False
theorem Cx.Ok.wish {X:Cx}(ok:X.Ok)(E:Value->Shared->Prop):(X.wish E).Ok :=
 ⟨ok.mod,ok.kind,ok.glob,ok.blt,ok.above,ok.inj,ok.has,ok.cab,ok.hd,ok.frames,ok.stk,ok.exf,ok.bs,ok.bsz,ok.noex,ok.exfs,ok.funs,ok.frf⟩
theorem Cx.Ok.unwish {X:Cx}{E:Value->Shared->Prop}(ok:(X.wish E).Ok):X.Ok :=
 ⟨ok.mod,ok.kind,ok.glob,ok.blt,ok.above,ok.inj,ok.has,ok.cab,ok.hd,ok.frames,ok.stk,ok.exf,ok.bs,ok.bsz,ok.noex,ok.exfs,ok.funs,ok.frf⟩
section
variable {X:Cx}{pins:List (Addr×Obj)}{σ:St}{H:Hp}{s:Shared}{E:Value->Shared->Prop}
theorem Inv.wish (I:Inv X pins σ H s)(E:Value->Shared->Prop):Inv (X.wish E) pins σ H s:=⟨I.ok.wish E,I.os,I.bare,I.base,I.loc,I.cell,I.free,I.freeC,I.pin,I.hok,I.len⟩
theorem Inv.unwish (I:Inv (X.wish E) pins σ H s):Inv X pins σ H s:=⟨I.ok.unwish,I.os,I.bare,I.base,I.loc,I.cell,I.free,I.freeC,I.pin,I.hok,I.len⟩
theorem SP.unwish {D:U0}{f:Flow}{s':Shared}(h:SP (X.wish E) pins D f s'):SP X pins D f s':=by
 cases f with
 | next=>obtain⟨σ',H',I,q⟩:=h;exact⟨σ',H',I.unwish,q⟩
 | brk=>obtain⟨σ',H',I,q⟩:=h;exact⟨σ',H',I.unwish,q⟩
 | cont=>obtain⟨σ',H',I,q⟩:=h;exact⟨σ',H',I.unwish,q⟩
 | ret u=>obtain⟨v,σ',H',I,r,q⟩:=h;exact⟨v,σ',H',I.unwish,r,q⟩
theorem PE.nox {e:Expr}{t:TE}(h:PE X.nox e t):PE X e t:=λpins s σ H Q I hw =>
 bB (h pins s σ H Q (I.wish _) hw) (λ_ _ ⟨v,H',I',r,q⟩=>⟨v,H',I'.unwish,r,q⟩) λ_ _ z=>bS z
theorem PT.nox {e:Expr}{t:TT}(h:PT X.nox e t):PT X e t:=λpins s σ H Q I hw =>
 bB (h pins s σ H Q (I.wish _) hw) (λ_ _ ⟨H',I',q⟩=>⟨H',I'.unwish,q⟩) λ_ _ z=>bS z
theorem PSs.nox {st:List Stmt}{t:TS}(h:PSs X.nox st t):PSs X st t:=λpins s σ H D I hw =>
 bB (h pins s σ H D (I.wish _) hw) (λ_ _ q=>q.unwish) λ_ _ z=>bS z
end
section
variable {X:Cx}{st:Stmt}{a0v:List Stmt}{t u:TS}{e:Expr}{te:TE}{pos:Pos}
def b1I:TS:=λD σ H=>D.nx σ H
def b2e (t u:TS):TS:=λD σ H=>t {D with nx:=u D} σ H
theorem E5:PSs X [] b1I:=λ_ _ σ H _ I h=>eN ⟨σ,H,I,h⟩
theorem a8z (h1:PS X st t)(h2:PSs X a0v u):PSs X (st::a0v) (b2e t u):=by
 intro pins s σ H D I h;refine iz (thn (h1 pins s σ H {D with nx:=u D} I h) λf s1 q=>?_);cases f with
 | next =>
  obtain⟨σ',H',I',q⟩:=q;exact h2 pins s1 σ' H' D I' q
 | ret v=>exact q
 | brk=>exact q
 | cont=>exact q
theorem A2 (h1:PS X st t):PSs X [st] t:=by
 intro pins s σ H D I h;refine iz (thn (h1 pins s σ H D I h) λf s1 q=>?_);cases f with
 | next=>exact eN q
 | ret v=>exact q
 | brk=>exact q
 | cont=>exact q
theorem Inv.quiet {pins:List (Addr×Obj)}{σ:St}{H:Hp}{s:Shared}(I:Inv X pins σ H s):interactive X.env=false:=by simp[interactive,I.ok.kind]
def b1J (te:TE):TS:=λD σ H=>te σ H λ_ H1=>D.nx σ H1
theorem N5 (he:PE X e te)(hs:swapsWith e none pos.line X.env=pure false:=by rfl):PS X (.Expr e pos) (b1J te):=by
 intro pins s σ H D I h;exact wpAny_Expr_any (thn (he pins s σ H _ I h) λv s1 ⟨x,H1,I1,r1,q1⟩=>⟨σ,H1,I1,q1⟩) I.quiet hs
def b4a (te:TE):TS:=λD σ H=>te σ H D.rt
theorem B9 (he:PE X e te):PS X (.Return (some e) pos) (b4a te):=by
 intro pins s σ H D I h;exact wpAny_Return_some (thn (he pins s σ H _ I h) λv s1 ⟨x,H1,I1,r1,q1⟩=>⟨x,σ,H1,I1,r1,q1⟩)
def b3Y:TS:=λD _ H=>D.rt .non H
def b4l (c:TT)(t u:TS):TS:=λD σ H=>c σ H λb H1=>if b=true then t D σ H1 else u D σ H1
theorem K4 {c:Expr}{a b:List Stmt}{tc:TT}(hc:PT X c tc)(ha:PSs X a t)(hb:PSs X b u):PS X (.If c a b pos) (b4l tc t u):=by
 intro pins s σ H D I h;refine wpAny_If (thn (hc pins s σ H _ I h) λd s1 ⟨H1,I1,q1⟩=>?_);cases d with
 | true=>exact ha pins s1 σ H1 D I1 q1
 | false=>exact hb pins s1 σ H1 D I1 q1
end
abbrev TG:=V->St->Hp->(St->Hp->Prop)->Prop
abbrev TGs:=List V->St->Hp->(St->Hp->Prop)->Prop
def PG (X:Cx)(target:Expr)(t:TG):Prop :=
 ∀(pins:List (Addr×Obj)) (s:Shared) (σ:St) (H:Hp) (v:V) (u:Value) (Q:St->Hp->Prop),Inv X pins σ H s->D0 v u->t v σ H Q ->
  wpAny (model X.prog X.w) X.A (assign target X.env u) (λ_ s'=>∃ σ' H',Inv X pins σ' H' s'/\Q σ' H') X.xe s
def PGs (X:Cx)(ts:List Expr)(t:TGs):Prop :=
 ∀(pins:List (Addr×Obj)) (s:Shared) (σ:St) (H:Hp) (vs:List V) (us:List Value) (Q:St->Hp->Prop),Inv X pins σ H s->C9 vs us->t vs σ H Q ->
  wpAny (model X.prog X.w) X.A (assignInOrder ((assignEach ts X.env).map (·.2)) us) (λ_ s'=>∃ σ' H',Inv X pins σ' H' s'/\Q σ' H') X.xe s
abbrev a7W:=V->V->V->Hp->(Hp->Prop)->Prop
def b3O (X:Cx)(t:a7W):Prop :=
 ∀(pins:List (Addr×Obj)) (s:Shared) (σ:St) (H:Hp) (o i v:V) (ov iv u:Value) (Q:Hp->Prop),Inv X pins σ H s->D0 o ov->D0 i iv->D0 v u->t o i v H Q ->
  wpAny (model X.prog X.w) X.A (setItem ov iv u) (λ_ s'=>∃ H',Inv X pins σ H' s'/\Q H') X.xe s
abbrev TIp:=V->V->Hp->VK->Prop
def PIp (X:Cx)(op:Operator)(t:TIp):Prop :=
 ∀(pins:List (Addr×Obj)) (s:Shared) (σ:St) (H:Hp) (x y:V) (v u:Value) (Q:VK),Inv X pins σ H s->D0 x v->D0 y u->t x y H Q ->
  wpAny (model X.prog X.w) X.A (inplaceOp op v u) (EP X pins σ Q) X.xe s
section
variable {X:Cx}{pos:Pos}
def P1 (i:Nat):TG:=λv σ H Q=>Q (σ.set i (some v)) H
theorem A9 {i:Nat}{x:Str}(hN:X.N.Nodup)(hi:X.N[i]?=some x)(hx:Loc X.env.scope x)(hf:X.fn x=true\/X.env.scope.names.lookup x=some .local:=by first | exact .inl rfl | exact .inr rfl | assumption):PG X (.Name x pos) (P1 i):=by
 intro pins s σ H v u Q I r h;exact ic (V1 I hN hi hx r (λs' I'=>⟨_,H,I',h⟩) hf)
def b4M:TGs:=λvs σ H Q=>vs=[]/\Q σ H
def b1W (t:TG)(u:TGs):TGs:=λvs σ H Q=>∃ v r,vs=v::r/\t v σ H fun σ' H'=>u r σ' H' Q
theorem N1:PGs X [] b4M:=by
 intro pins s σ H vs us Q I r h;obtain⟨e,h⟩:=h;subst e;cases r;exact assignInOrder_nil ⟨σ,H,I,h⟩
theorem E1 {e:Expr}{es:List Expr}{t:TG}{u:TGs}(h1:PG X e t)(h2:PGs X es u)
  (hs:(assignEach (e::es) X.env).map (·.2)=assign e X.env::(assignEach es X.env).map (·.2):=by rfl):PGs X (e::es) (b1W t u):=by
 intro pins s σ H vs us Q I r h;obtain⟨v,vr,e1,h⟩:=h;subst e1;cases r with
 | cons r rr =>
  rw[hs];refine assignInOrder_cons (thn (h1 pins s σ H _ _ _ I r h) λ_ s1 ⟨σ1,H1,I1,q1⟩=>?_);exact h2 pins s1 σ1 H1 _ _ Q I1 rr q1
def b3r (K:ac)(n:Nat)(t:TGs):TG:=λv σ H Q=>∃ a xs,v=.ref a/\SqT K H a xs/\xs.length=n/\t xs σ H Q
theorem b2z {es:List Expr}{k:Nat}{t:TGs}{n:Nat}(hc:X.calm=true)(h:PGs X es t)
  (hn:(assignEach es X.env).length=n:=by rfl) (hst:(assignEach es X.env).findIdx? (·.1)=none:=by rfl):PG X (.Tuple es k pos) (b3r X.K n t):=by
 intro pins s σ H v u Q I r hw;obtain⟨a,xs,e1,hq,hl,hw⟩:=hw;subst e1;cases r;obtain⟨its,rv,ht,hz⟩:=I.tuple hq;refine assign_Tuple_tuple (I.ok.hd hc) ht (by simp[hn,<- hl,rv.length]) hst λh' hx=>?_
 have I1:Inv X pins σ H {s with heap:=h'}:=I.kept (t':=s.toks) λb o e=>hx b o (aK (ar e)) e
 exact h pins _ σ H xs _ Q I1 (~~~rv) hw
def b4K (to ti:TE)(t:a7W):TG:=λv σ H Q=>to σ H λo H1=>ti σ H1 λi H2=>t o i v H2 λH3=>Q σ H3
theorem b2A {o i:Expr}{to ti:TE}{t:a7W}(ho:PE X o to)(hi:PE X i ti)(hs:b3O X t)
  (ha:∀ v,assign (.Subscript o i pos) X.env v=(do
   let ov <- holding [v] (eval o X.env)
   let iv <- holding [v,ov] (eval i X.env)
   standAt pos
   holding [v,ov,iv] (setItem ov iv v)
   release [v,ov,iv] []):=by intro _;rfl):PG X (.Subscript o i pos) (b4K to ti t):=by
 intro pins s σ H v u Q I r h;rw[ha];refine ae (bJ (thn (ho pins s σ H _ I h) λov s1 ⟨x,H1,I1,r1,q1⟩=>?_));refine ae (bJ (thn (hi pins s1 σ H1 _ I1 q1) λiv s2 ⟨y,H2,I2,r2,q2⟩=>?_));refine ae (dG (ae (bJ (thn (hs pins s2 σ H2 x y v ov iv u _ I2 r1 r2 r q2) λ_ s3 ⟨H3,I3,q3⟩=>?_))));exact wpAny_release ⟨σ,H3,I3,q3⟩
def a8n (te:TE)(g:TG):TS:=λD σ H=>te σ H λx H1=>g x σ H1 D.nx
theorem X4 {tg e:Expr}{te:TE}{g:TG}(he:PE X e te)(hg:PG X tg g)(hs:swapsWithSole [tg] e pos.line X.env=pure false:=by rfl)(hw:swappedStores [tg] e X.env=pure none:=by rfl)
  (h1:(assignEach [tg] X.env).map (·.2)=[assign tg X.env]:=by rfl):PS X (.Assign [tg] e pos) (a8n te g):=by
 intro pins s σ H D I h;refine wpAny_Assign_stores (thn (he pins s σ H _ I h) λv s1 ⟨x,H1,I1,r1,q1⟩=>?_) hs hw;rw[h1];exact thn (hg pins s1 σ H1 x v _ I1 r1 q1) λ_ s2 q=>q
theorem C4 {i:Nat}{x:Str}{e:Expr}{te:TE}{pos':Pos}(hN:X.N.Nodup)(hi:X.N[i]?=some x)(hx:Loc X.env.scope x)(he:PE X e te)(hs:swapsWith e (some (.Name x pos')) pos.line X.env=pure false:=by rfl)(hf:X.fn x=true\/X.env.scope.names.lookup x=some .local:=by first | exact .inl rfl | exact .inr rfl | assumption) :
  PS X (.Assign [.Name x pos'] e pos) (a8n te (P1 i)):=by
 intro pins s σ H D I h;refine kg (thn (he pins s σ H _ I h) λv s1 ⟨y,H1,I1,r1,q1⟩=>?_) hs;exact V1 I1 hN hi hx r1 (λs2 I2=>⟨_,H1,I2,q1⟩) hf
def b4b (i j:Nat)(ta:TA):TS:=λD σ H=>ta σ H λvs H1=>∃ v w,vs=[v,w]/\D.nx ((σ.set i (some v)).set j (some w)) H1
theorem b2v {i j:Nat}{x y:Str}{a b:Expr}{ta:TA}{px py pt:Pos}{kt k2 pt2}(hc:X.calm=true)(hN:X.N.Nodup)(hi:X.N[i]?=some x)(hj:X.N[j]?=some y)(hij:i≠j)
  (hx:X.env.scope.names.lookup x=some .local) (hy:X.env.scope.names.lookup y=some .local) (ha:PA X [a,b] ta)
  (hw:swappedStores [.Tuple [.Name x px,.Name y py] kt pt] (.Tuple [a,b] k2 pt2) X.env=pure (some [x,y]))
  (hs:swapsWithSole [.Tuple [.Name x px,.Name y py] kt pt] (.Tuple [a,b] k2 pt2) pos.line X.env=pure false:=by rfl) :
  PS X (.Assign [.Tuple [.Name x px,.Name y py] kt pt] (.Tuple [a,b] k2 pt2) pos) (b4b i j ta):=by
 intro pins s σ H D I h;rw[exec_Assign_arm];refine ae (dG ?_);rw[hs];refine ae (ag ?_);rw[if_neg (by decide)];refine ae (Tuple_ (thn (ha _ pins s σ H _ I h) λus s1 ⟨vs,H1,I1,r1,q1⟩=>?_));obtain⟨v,w,e1,q1⟩:=q1;subst e1;obtain⟨u1,u2,rfl,rv,rw'⟩:∃ u1 u2,us=[u1,u2]/\D0 v u1/\D0 w u2:=by
  cases r1 with
  | cons p q =>
   cases q with
   | cons p' q' =>
    cases q';exact⟨_,_,rfl,p,p'⟩
 refine cc ?_ (by show 2<=sizeLine;decide);have I2:Inv X pins σ H1 {s1 with heap:=s1.heap.push {cls:=.type "tuple",data:=.seq [u1,u2].toArray}}:=I1.kept (t':=s1.toks) λb o e=>af _ e
 rw[hw];refine ae (ag ?_);show wpAny (model X.prog X.w) X.A (do rule "assign.swapped-stores";let items <- unpackItems (.ref s1.heap.objs.size) 2 none;assignInOrder [λv=>bindName X.env y v,λv=>bindName X.env x v] items.reverse;pure Flow.next) _ _ _;refine ae (j6 (ae (unpackItems_tuple (items:=#[u1,u2]) (I.ok.hd hc) (iU s1.heap _) λh' hx'=>?_)));have I3:=I2.kept (h':=h') (t':=s1.toks) λb o e=>hx' b o (aK (ar e)) e
 show wpAny _ _ (assignInOrder [λv=>bindName X.env y v,λv=>bindName X.env x v] [u2,u1] >>= λ_=>pure Flow.next) _ _ _;refine ae (assignInOrder_cons (wpAny_bindName (V1 I3 hN hj (.inl hy) rw' (λs2 I4=>?_) (.inr hy))));refine assignInOrder_cons (wpAny_bindName (V1 I4 hN hi (.inl hx) rv (λs3 I5=>assignInOrder_nil (ag ?_)) (.inr hx)));rw[List.set_comm _ _ (dN hij)] at I5;exact⟨_,H1,I5,q1⟩
def b1L (to ti te:TE)(tget:V->V->Hp->VK->Prop)(tip:TIp)(tset:a7W):TS:=λD σ H=>to σ H λo H1=>ti σ H1 λi H2=>tget o i H2 λx H3=>te σ H3 λy H4=>tip x y H4 λz H5=>tset o i z H5 λH6=>D.nx σ H6
def b4W (X:Cx)(t:V->V->Hp->VK->Prop):Prop :=
 ∀(pins:List (Addr×Obj)) (s:Shared) (σ:St) (H:Hp) (o i:V) (ov iv:Value) (Q:VK),Inv X pins σ H s->D0 o ov->D0 i iv->t o i H Q ->
  wpAny (model X.prog X.w) X.A (getItem ov iv) (EP X pins σ Q) X.xe s
theorem b0x {o i e:Expr}{to ti te:TE}{tget:V->V->Hp->VK->Prop}{tip:TIp}{tset:a7W}{op:Operator}{tpos:Pos}(ho:PE X o to)(hi:PE X i ti)(hg:b4W X tget)(he:PE X e te)(hp:PIp X op tip)(hs:b3O X tset)
  (ha:∀ ov iv new,augStore i ov iv new=(do holding [new,ov,iv] (setItem ov iv new);release [new,ov,iv] [];pure .next):=by intros;rfl):PS X (.AugAssign (.Subscript o i tpos) op e pos) (b1L to ti te tget tip tset):=by
 intro pins s σ H D I h;refine wpAny_AugAssign_SubscriptAny (thn (ho pins s σ H _ I h) λov s1 ⟨x1,H1,I1,r1,q1⟩=>?_) ha;refine thn (hi pins s1 σ H1 _ I1 q1) λiv s2 ⟨x2,H2,I2,r2,q2⟩=>?_
 refine thn (hg pins s2 σ H2 x1 x2 ov iv _ I2 r1 r2 q2) λold s3 ⟨x3,H3,I3,r3,q3⟩=>?_
 refine thn (he pins s3 σ H3 _ I3 q3) λv s4 ⟨x4,H4,I4,r4,q4⟩=>?_
 refine thn (hp pins s4 σ H4 x3 x4 old v _ I4 r3 r4 q4) λnew s5 ⟨x5,H5,I5,r5,q5⟩=>?_
 exact thn (hs pins s5 σ H5 x1 x2 x5 ov iv new _ I5 r1 r2 r5 q5) λ_ s6 ⟨H6,I6,q6⟩=>⟨σ,H6,I6,q6⟩
def ipI (f:Int->Int->Int):TIp:=λx y H Q=>∃ i j,x=.int i/\y=.int j/\Q (.int (f i j)) H
theorem b2Y:PIp X .Sub (ipI λi j=>i-j):=by
 intro pins s σ H x y v u Q I r1 r2 h;obtain⟨i,j,e1,e2,q⟩:=h;subst e1;subst e2;obtain⟨t,rfl⟩:=r1;obtain⟨t',rfl⟩:=r2;exact isub_int ⟨.int _,H,I.tok _,⟨_,rfl⟩,q⟩
end
section
variable {X:Cx}{pos:Pos}
def a8e (c:TT)(tb:TS):TS:=λD σ H=>∃ W:Nat->St->Hp->Prop,(∃ m,W m σ H)/\∀ m σ H,W m σ H ->
 c σ H λb H1=>if b=true then ∃ N:St->Hp->Prop,(∀ σ' H',N σ' H'->∃ m',m'<m/\W m' σ' H')/\tb {D with nx:=N,ct:=N,bk:=D.nx} σ H1 else D.nx σ H1
theorem a4t {c:Expr}{body:List Stmt}{tc:TT}{tb:TS}(hp:PassesOwn (model X.prog X.w) X.A X.env X.xe)(hc:PT X c tc)(hb:PSs X body tb):PS X (.While c body [] pos) (a8e tc tb):=by
 intro pins s σ H D I h;obtain⟨W,⟨m0,w0⟩,turn⟩:=h;refine wpAny_While (codeAny_whileLoop (λn s'=>∃ σ' H',Inv X pins σ' H' s'/\W n σ' H') ?_ m0 ⟨σ,H,I,w0⟩);rintro n s1 ⟨σ1,H1,I1,w1⟩;refine dR hp (thn (hc pins s1 σ1 H1 _ I1 (turn n σ1 H1 w1)) λb s2 ⟨H2,I2,q2⟩=>?_);cases b with
 | true =>
  obtain⟨N,hN,q2⟩:=q2;rw[if_pos rfl];refine dR hp (thn (hb pins s2 σ1 H2 _ I2 q2) λf s3 q3=>?_);cases f with
  | next =>
   obtain⟨σ3,H3,I3,n3⟩:=q3;obtain⟨m',hm,w3⟩:=hN σ3 H3 n3;exact⟨m',hm,σ3,H3,I3,w3⟩
  | cont =>
   obtain⟨σ3,H3,I3,n3⟩:=q3;obtain⟨m',hm,w3⟩:=hN σ3 H3 n3;exact⟨m',hm,σ3,H3,I3,w3⟩
  | brk=>exact q3
  | ret v=>exact q3
 | false =>
  rw[if_neg aP];exact eN ⟨σ1,H2,I2,q2⟩
end
structure It where
 go:Nat->Hp->Prop
 yld:Nat->Hp->V->Hp->Prop
 stop:Nat->Hp->Prop
def a0p (X:Cx)(pins:List (Addr×Obj))(H:Hp)(b:Addr):Prop :=
 H b=none/\b≠X.env.locals/\b∉X.fs/\(b∈X.ex\/X.sv.heap.objs.size<=b)/\(∀ x c,X.env.cells.lookup x=some c->c≠b)/\∀ p∈X.pn++pins,p.1≠b
theorem Inv.fpOk {X:Cx}{pins:List (Addr×Obj)}{σ:St}{H H':Hp}{s:Shared}{b:Addr}(I:Inv X pins σ H s)(hb:s.heap.objs.size<=b)(hn:H' b=none):a0p X pins H' b:=by
 refine⟨hn,dw (aO I.lt hb),I.nofs hb,.inr (aV I.sz hb),λx c e z=>?_,λp hp z=>?_⟩
 ·obtain⟨v,q⟩:=I.cell x c e;exact absurd (aO q.lt (by rw[z];exact hb)) (bG _)
 ·exact absurd (aO (ar (I.pin p hp).1) (by rw[z];exact hb)) (bG _)
structure a5O (P:Program)(w:World)(K:ac)(tg:Expr)(J:It)(fp:List Addr)(it:Addr)(tn:Nat->Heap->Prop):Prop where
 mem:it∈fp
 obj:∀ i h,tn i h->∀ b∈fp,∃ o,h.get? b=some o/\∀ v,o.data≠.cell v
 keep:∀ i h h',tn i h->(∀ b∈fp,∀ o,h.get? b=some o->h'.get? b=some o)->tn i h'
 item:∀(X:Cx),X.prog=P->X.w=w->X.K=K->X.calm=true->∀(i:Nat) (pins:List (Addr×Obj)) (s:Shared) (σ:St) (H:Hp) (E:Value->Shared->Prop),Inv X pins σ H s->(∀ b∈fp,a0p X pins H b)->tn i s.heap->J.go i H ->
  wpAny (model P w) X.A (pyNext (.ref it)) (λr s1=>∃ u,r=some u /\
   wpAny (model P w) X.A (letOwnedTupleGo tg (.ref it) u) (λ_ s2=>∃ x H',Inv X pins σ H' s2/\D0 x u/\J.yld i H x H'/\tn (i+1) s2.heap/\∀ b∈fp,H' b=none) E s1) E s
 done:∀(X:Cx),X.prog=P->X.w=w->X.K=K->X.calm=true->∀(i:Nat) (pins:List (Addr×Obj)) (s:Shared) (σ:St) (H:Hp) (E:Value->Shared->Prop),Inv X pins σ H s->(∀ b∈fp,a0p X pins H b)->tn i s.heap->J.stop i H ->
  wpAny (model P w) X.A (pyNext (.ref it)) (λr s1=>r=none/\Inv X pins σ H s1) E s
 self:∀(A:Around) (i:Nat) (s:Shared) (Q:Value->Shared->Prop) (E:Value->Shared->Prop),tn i s.heap->Q (.ref it) s->wpAny (model P w) A (pyIter (.ref it)) Q E s
abbrev TI:=St->Hp->(It->Hp->Prop)->Prop
def PIE (X:Cx)(pins:List (Addr×Obj))(σ:St)(tg:Expr)(R:It->Hp->Prop)(itv:Value)(s2:Shared):Prop :=
 ∃(it:Addr) (fp:List Addr) (tn:Nat->Heap->Prop) (J:It) (H':Hp),itv=.ref it/\Inv X pins σ H' s2/\a5O X.prog X.w X.K tg J fp it tn/\tn 0 s2.heap/\(∀ b∈fp,a0p X pins H' b)/\R J H'
def PI (X:Cx)(tg iter:Expr)(wi:TI):Prop :=
 ∀(pins:List (Addr×Obj)) (s:Shared) (σ:St) (H:Hp) (R:It->Hp->Prop),Inv X pins σ H s->wi σ H R ->
  wpAny (model X.prog X.w) X.A (eval iter X.env) (λv s1=>wpAny (model X.prog X.w) X.A (pyIter v) (PIE X pins σ tg R) X.xe s1) X.xe s
theorem a9E {M:Model}{A:Around}{E:Value->Shared->Prop}{s:Shared}{tg:Expr}{it:Addr}{u:Value}{o:Obj}{n:String}{vs:Array Value}{Q:Unit->Shared->Prop}(ho:s.heap.get? it=some o)(hc:o.cls=.type n)(hd:o.data=.fields vs)
    (hn:["enumerate", "zip", "dict_itemiterator", "dict_reverseitemiterator", "odict_iterator", "itertools.zip_longest", "itertools.pairwise"].contains n=false) (hQ:Q () s):wpAny M A (letOwnedTupleGo tg (.ref it) u) Q E s:=by
  unfold letOwnedTupleGo;cases tg<;>first
    | exact ag hQ
    | (cases u<;>first
        | exact ag hQ
        | (refine ae (ju ho ?_)
           rw[hc,hd];show wpAny M A (if (["enumerate", "zip", "dict_itemiterator", "dict_reverseitemiterator", "odict_iterator", "itertools.zip_longest", "itertools.pairwise"].contains n && vs[0]? == some (rawInt _))=true then _ else _) Q E s;rw[if_neg (by intro h;rw[hn,fm] at h;cases h)]
           exact ag hQ))
def Itl (K:ac)(a:Addr):It :=
 ⟨λi H=>∃ xs x,SqL K H a xs/\xs[i]?=some x,λi H x H'=>H'=H/\∀ xs,SqL K H a xs->xs[i]?=some x,λi H=>∃ xs,SqL K H a xs/\xs.length<=i⟩
def Itt (K:ac)(a:Addr):It :=
 ⟨λi H=>∃ xs x,SqT K H a xs/\xs[i]?=some x,λi H x H'=>H'=H/\∀ xs,SqT K H a xs->xs[i]?=some x,λi H=>∃ xs,SqT K H a xs/\xs.length<=i⟩
def Itr (lo:Int)(n:Nat):It:=⟨λi _=>i<n,λi H x H'=>H'=H/\x=.int (lo+i),λi _=>n<=i⟩
theorem a2u {P:Program}{w:World}{K:ac}{tg:Expr}(a it:Addr):a5O P w K tg (Itl K a) [it] it (λi h=>h.IsListIter it a i) where
 mem:=by simp
 obj:=λi h st b hb=>by
  have e:b=it:= ~~~hb
  subst e;obtain⟨o,e,c,d⟩:=st;exact⟨o,e,λv z=>by rw[d] at z;cases z⟩
 keep:=λi h h' st k=>st.at λo e=>k it (by simp) o e
 item:=by
  intro X hP hw hK hc i pins s σ H E I hf st hg;subst hP hw hK;obtain⟨xs,x,hq,hx⟩:=hg;obtain⟨its,rv,p,hz⟩:=I.list hq;obtain⟨u,hu,ru⟩:=rv.get hx;obtain⟨f0,f1,f2,f3,f4,f5⟩:=hf it (by simp);refine wpAny_pyNext_list_item st p.isList (x:=u) (~~~hu) λh' st' sb=>?_
  have I1:Inv X pins σ H {s with heap:=h'}:=I.turned (t':=s.toks) (λb o hb e=>(sb.2 b hb).trans e) f0 f1 f3 f4 f5;obtain⟨o,e,c,d⟩:=id st';exact⟨u,rfl,a9E (s:={s with heap:=h'}) e c d (by decide) ⟨x,H,I1,ru,⟨rfl,λys hy=>by rw[I.list_inj hy hq];exact hx⟩,st',λb hb=>(hf b hb).1⟩⟩
 done:=by
  intro X hP hw hK hc i pins s σ H E I hf st hg;subst hP hw hK;obtain⟨xs,hq,hx⟩:=hg;obtain⟨its,rv,p,hz⟩:=I.list hq;obtain⟨f0,f1,f2,f3,f4,f5⟩:=hf it (by simp);have hl:=rv.length;exact wpAny_pyNext_list_end (I.ok.hd hc) st p.isList (by simp;omega) λh' eb=>⟨rfl,I.turned (t':=s.toks) (λb o hb e=>eb b o hb e) f0 f1 f3 f4 f5⟩
 self:=λ_ _ _ _ _ st h=>wpAny_pyIter_listiter st h
theorem a1l {P:Program}{w:World}{K:ac}{tg:Expr}(a it:Addr):a5O P w K tg (Itt K a) [it] it (λi h=>h.IsTupleIter it a i) where
 mem:=by simp
 obj:=λi h st b hb=>by
  have e:b=it:= ~~~hb
  subst e;obtain⟨o,e,c,d⟩:=st;exact⟨o,e,λv z=>by rw[d] at z;cases z⟩
 keep:=λi h h' st k=>st.at λo e=>k it (by simp) o e
 item:=by
  intro X hP hw hK hc i pins s σ H E I hf st hg;subst hP hw hK;obtain⟨xs,x,hq,hx⟩:=hg;obtain⟨its,rv,p,hz⟩:=I.tuple hq;obtain⟨u,hu,ru⟩:=rv.get hx;obtain⟨f0,f1,f2,f3,f4,f5⟩:=hf it (by simp);refine wpAny_pyNext_tuple_item st (show s.heap.IsTuple a its.toArray from p) (x:=u) (~~~hu) λh' st' sb=>?_
  have I1:Inv X pins σ H {s with heap:=h'}:=I.turned (t':=s.toks) (λb o hb e=>(sb.2 b hb).trans e) f0 f1 f3 f4 f5;obtain⟨o,e,c,d⟩:=id st';exact⟨u,rfl,a9E (s:={s with heap:=h'}) e c d (by decide) ⟨x,H,I1,ru,⟨rfl,λys hy=>by rw[I.tuple_inj hy hq];exact hx⟩,st',λb hb=>(hf b hb).1⟩⟩
 done:=by
  intro X hP hw hK hc i pins s σ H E I hf st hg;subst hP hw hK;obtain⟨xs,hq,hx⟩:=hg;obtain⟨its,rv,p,hz⟩:=I.tuple hq;obtain⟨f0,f1,f2,f3,f4,f5⟩:=hf it (by simp);have hl:=rv.length;exact wpAny_pyNext_tuple_end (I.ok.hd hc) st (show s.heap.IsTuple a its.toArray from p) (by simp;omega) λh' eb=>⟨rfl,I.turned (t':=s.toks) (λb o hb e=>eb b o hb e) f0 f1 f3 f4 f5⟩
 self:=λ_ _ _ _ _ st h=>wpAny_pyIter_tupleiter st h
theorem a5b {P:Program}{w:World}{K:ac}{tg:Expr}(it:Addr)(lo:Int)(n:Nat):a5O P w K tg (Itr lo n) [it] it (λi h=>IsRangeIter h it (lo+(i:Nat)*1) ((n:Int)-(i:Nat)) 1) where
 mem:=by simp
 obj:=λi h st b hb=>by
  have e:b=it:= ~~~hb
  subst e
  exact⟨_,st,λv z=>by
   have z':jw _=Data.cell v:=z
   cases z'⟩
 keep:=λi h h' st k=>k it (by simp) _ st
 item:=by
  intro X hP hw hK hc i pins s σ H E I hf st hg;subst hP hw hK;obtain⟨f0,f1,f2,f3,f4,f5⟩:=hf it (by simp);have W:=Walks.range (prog:=X.prog) (w:=X.w) (I.ok.hd hc) it lo 1 n;refine W.item i s _ _ hg st λv h' tk hv st' kk=>?_
  obtain⟨t,rfl⟩:=hv;have I1:Inv X pins σ H {s with heap:=h',toks:=tk}:=I.turned (λb o hb e=>kk b o (~~~hb) e) f0 f1 f3 f4 f5;refine⟨_,rfl,a9E (s:={s with heap:=h',toks:=tk}) (n:="range_iterator") st' rfl rfl (by decide) ⟨.int (lo+i),H,I1,⟨t,?_⟩,⟨rfl,rfl⟩,st',λb hb=>(hf b hb).1⟩⟩;rw[fO]
 done:=by
  intro X hP hw hK hc i pins s σ H E I hf st hg;subst hP hw hK;obtain⟨f0,f1,f2,f3,f4,f5⟩:=hf it (by simp);exact wpAny_pyNext_range_end (I.ok.hd hc) st (by have:n<=i:=hg;omega) λh' eb=>⟨rfl,I.turned (t':=s.toks) (λb o hb e=>eb b o hb e) f0 f1 f3 f4 f5⟩
 self:=λ_ _ _ _ _ st h=>wpAny_pyIter_rangeiter st h
end L2
namespace L2
open PySem PySem.Spec PyProof.Rows
section
variable {X:Cx}{tg:Expr}
def a9D (K:ac)(tl:TE):TI:=fun σ H R=>tl σ H λx H1=>∃ a,x=.ref a/\(∃ xs,SqL K H1 a xs)/\R (Itl K a) H1
def b3m (K:ac)(tl:TE):TI:=fun σ H R=>tl σ H λx H1=>∃ a,x=.ref a/\(∃ xs,SqT K H1 a xs)/\R (Itt K a) H1
theorem b0z {l:Expr}{tl:TE}(hl:PE X l tl):PI X tg l (a9D X.K tl):=by
 intro pins s σ H R I h;refine thn (hl pins s σ H _ I h) λv s1 ⟨x,H1,I1,r1,q1⟩=>?_
 obtain⟨a,e,⟨xs,hq⟩,q⟩:=q1;subst e;cases r1;obtain⟨its,rv,p,hz⟩:=I1.list hq;refine dY p.isList ?_;refine⟨s1.heap.objs.size,[s1.heap.objs.size],_,_,H1,rfl,I1.kept (t':=s1.toks) λb o e=>af _ e,a2u a _,⟨_,au _ rfl,rfl,rfl⟩,λb hb=>?_,q⟩;have e:b=s1.heap.objs.size:= ~~~hb
 subst e;exact I1.fpOk (ao _) (I1.hok.fresh (ao _))
theorem b2y {l:Expr}{tl:TE}(hl:PE X l tl):PI X tg l (b3m X.K tl):=by
 intro pins s σ H R I h;refine thn (hl pins s σ H _ I h) λv s1 ⟨x,H1,I1,r1,q1⟩=>?_
 obtain⟨a,e,⟨xs,hq⟩,q⟩:=q1;subst e;cases r1;obtain⟨its,rv,p,hz⟩:=I1.tuple hq;refine fB (show s1.heap.IsTuple a its.toArray from p) ?_;refine⟨s1.heap.objs.size,[s1.heap.objs.size],_,_,H1,rfl,I1.kept (t':=s1.toks) λb o e=>af _ e,a1l a _,⟨_,au _ rfl,rfl,rfl⟩,λb hb=>?_,q⟩;have e:b=s1.heap.objs.size:= ~~~hb
 subst e;exact I1.fpOk (ao _) (I1.hok.fresh (ao _))
theorem a4s {pins:List (Addr×Obj)}{σ:St}{H:Hp}{s:Shared}{R:It->Hp->Prop}{E:Value->Shared->Prop}{lo hi:Int}{t u v:Tok}{tk:Nat}(I:Inv X pins σ H s)(h1:-(2 ^ 62)<=lo)(h2:lo<2 ^ 62)(h3:-(2 ^ 62)<=hi)(h4:hi<2 ^ 62)
  (q:R (Itr lo (hi-lo).toNat) H):wpAny (model X.prog X.w) X.A (pyIter (.ref s.heap.objs.size)) (PIE X pins σ tg R) E {s with heap:=s.heap.push {cls:=.type "range",data:=.fields #[.int lo t,.int hi u,.int 1 v]},toks:=tk}:=by
 refine wpAny_pyIter_range (IsRange.new ..) (small_one h1 h2 h3 h4) ?_;have I1:Inv X pins σ H {s with heap:=s.heap.push {cls:=.type "range",data:=.fields #[.int lo t,.int hi u,.int 1 v]},toks:=tk}:=I.kept λb o e=>af _ e
 refine⟨(s.heap.push {cls:=.type "range",data:=.fields #[.int lo t,.int hi u,.int 1 v]}).objs.size,[(s.heap.push {cls:=.type "range",data:=.fields #[.int lo t,.int hi u,.int 1 v]}).objs.size],_,_,H,rfl,
  I1.kept (t':=tk) λb o e=>af _ e,a5b _ lo (hi-lo).toNat,?_,λb hb=>?_,q⟩
 ·have e1:lo+((0:Nat):Int)*1=lo:=by simp
  have e2:(((hi-lo).toNat:Nat):Int)-((0:Nat):Int)=gJ lo hi 1:=by rw[rangeSize_one];split<;>omega
  show IsRangeIter _ _ (lo+((0:Nat):Int)*1) ((((hi-lo).toNat:Nat):Int)-((0:Nat):Int)) 1;rw[e1,e2];exact au _ rfl
 ·have e:b=(s.heap.push {cls:=.type "range",data:=.fields #[.int lo t,.int hi u,.int 1 v]}).objs.size:= ~~~hb
  subst e;exact I1.fpOk (ao _) (I1.hok.fresh (ao _))
def b1U (ta:TA):TI:=fun σ H R=>ta σ H λvs H1=>∃ j:Int,vs=[.int j]/\-(2 ^ 62)<=j/\j<2 ^ 62/\R (Itr 0 j.toNat) H1
def b1T (ta:TA):TI:=fun σ H R=>ta σ H λvs H1=>∃ i j:Int,vs=[.int i,.int j]/\(-(2 ^ 62)<=i/\i<2 ^ 62/\-(2 ^ 62)<=j/\j<2 ^ 62)/\R (Itr i (j-i).toNat) H1
theorem N0 {a:Expr}{ta:TA}{p pos:Pos}(hg:Gl X "range")(hm:X.mg "range"=none)(ha:PA X [a] ta)(hs:starEach [a] X.env=[(false,eval a X.env)]:=by rfl):PI X tg (.Call (.Name "range" p) [a] [] pos) (b1U ta):=by
 intro pins s σ H R I h;refine Call_ (S8 I hg hm kj (bU (thn (ha pos pins s σ H _ I h) λus s1 ⟨vs,H1,I1,r1,q1⟩=>?_) hs rfl));obtain⟨j,e,q1,q2,q⟩:=q1;subst e;cases r1 with
 | cons r rr =>
  cases rr;obtain⟨t,rfl⟩:=r;exact call_range_1 (a4s I1 ∅ ∅ q1 q2 (~~~q))
theorem a0K {a b:Expr}{ta:TA}{p pos:Pos}(hg:Gl X "range")(hm:X.mg "range"=none)(ha:PA X [a,b] ta)(hs:starEach [a,b] X.env=[(false,eval a X.env),(false,eval b X.env)]:=by rfl)(hs2:starEach [b] X.env=[(false,eval b X.env)]:=by rfl) :
  PI X tg (.Call (.Name "range" p) [a,b] [] pos) (b1T ta):=by
 intro pins s σ H R I h;refine Call_ (S8 I hg hm kj (bU (thn (ha pos pins s σ H _ I h) λus s1 ⟨vs,H1,I1,r1,q1⟩=>?_) (by rw[hs,hs2]) (by rw[hs2];rfl)));obtain⟨i,j,e,⟨q1,q2,q3,q4⟩,q⟩:=q1;subst e;cases r1 with
 | cons r rr =>
  cases rr with
  | cons r' rr =>
   cases rr;obtain⟨t,rfl⟩:=r;obtain⟨t',rfl⟩:=r';exact call_range_2 (a4s I1 q1 q2 q3 q4 q)
def b2l (wi:TI)(g:TG)(tb:TS):TS:=λD σ H=>wi σ H λJ H1=>∃ W:Nat->Nat->St->Hp->Prop,(∃ m,W 0 m σ H1)/\∀ i m σ H,W i m σ H ->
 (J.stop i H/\D.nx σ H)\/(J.go i H/\∃ N:St->Hp->Prop,(∀ σ' H',N σ' H'->∃ m',m'<m/\W (i+1) m' σ' H')/\∀ x H',J.yld i H x H'->g x σ H' fun σ2 H2=>tb {D with nx:=N,ct:=N,bk:=D.nx} σ2 H2)
def a0k (fp:List Addr)(h:Heap):List (Addr×Obj):=fp.filterMap λb=>(h.get? b).map λo=>(b,o)
theorem R4 {fp:List Addr}{h:Heap}{b:Addr}{o:Obj}(hb:b∈fp)(e:h.get? b=some o):(b,o)∈a0k fp h:=jJ.mpr ⟨b,hb,by rw[e];rfl⟩
theorem a7m {fp:List Addr}{h:Heap}{p:Addr×Obj}(hp:p∈a0k fp h):p.1∈fp/\h.get? p.1=some p.2:=by
 obtain⟨b,hb,e⟩:=List.mem_filterMap.mp hp;cases q:h.get? b with
 | none=>rw[q] at e;cases e
 | some o =>
  rw[q] at e;have e':(b,o)=p:=ak e;subst e';exact⟨hb,q⟩
theorem Inv.pinned {pins:List (Addr×Obj)}{σ:St}{H:Hp}{s:Shared}{fp:List Addr}(I:Inv X pins σ H s)(hf:∀ b∈fp,a0p X pins H b)(ho:∀ b∈fp,∃ o,s.heap.get? b=some o/\∀ v,o.data≠.cell v):Inv X (pins++a0k fp s.heap) σ H s :=
 I.pins_of λp hp=>(aj.mp hp).elim (λz=>I.pin p (aB _ z)) λz=>by
  obtain⟨hb,e⟩:=a7m z;obtain⟨f0,f1,f2,_⟩:=hf p.1 hb;obtain⟨o,e',d⟩:=ho p.1 hb;rw[e] at e';cases e';exact⟨e,f0,f1,f2,d⟩
theorem Inv.unpinned {pins pl:List (Addr×Obj)}{σ:St}{H:Hp}{s:Shared}(I:Inv X (pins++pl) σ H s):Inv X pins σ H s:=I.pins_of λp hp=>I.pin p (aB _ (dq _ hp))
theorem M8 {iter:Expr}{body:List Stmt}{wi:TI}{g:TG}{tb:TS}{pos:Pos}(hp:PassesOwn (model X.prog X.w) X.A X.env X.xe)(hc:X.calm=true)(hi:PI X tg iter wi)(hg:PG X tg g)(hb:PSs X body tb)
  (hs:∀ x,foldedSetIterable iter X.env x=pure x:=by intro _;rfl):PS X (.For tg iter body [] pos) (b2l wi g tb):=by
 intro pins s σ H D I h;refine wpAny_For (thn (hi pins s σ H _ I h) λv s1 h1=>thn h1 λitv s2 h2=>?_) hs;obtain⟨it,fp,tn,J,H2,e,I2,T,st2,f2,W,⟨m0,w0⟩,turn⟩:=h2;subst e;have stat:∀ {H':Hp},(∀ b∈fp,H' b=none)->∀ b∈fp,a0p X pins H' b:=λhn b hb=>⟨hn b hb,(f2 b hb).2⟩
 refine codeAny_forLoop_any (λn s'=>∃ i σ' H',Inv X pins σ' H' s'/\tn i s'.heap/\(∀ b∈fp,H' b=none)/\W i n σ' H') ?_ m0 ⟨0,σ,H2,I2,st2,λb hb=>(f2 b hb).1,w0⟩;rintro n s3 ⟨i,σ3,H3,I3,st3,fr3,w3⟩;rcases turn i n σ3 H3 w3 with ⟨stop,qn⟩ | ⟨go,N,hN,step⟩
 ·refine dR hp (thn (T.done X rfl rfl rfl hc i pins s3 σ3 H3 X.xe I3 (stat fr3) st3 stop) λr s4 ⟨hr,I4⟩=>?_);subst hr;exact eN ⟨σ3,H3,I4,qn⟩
 ·refine dR hp (thn (T.item X rfl rfl rfl hc i pins s3 σ3 H3 X.xe I3 (stat fr3) st3 go) λr s4 ⟨u,hr,h4⟩=>?_);subst hr;refine dR hp (thn h4 λ_ s5 ⟨x,H5,I5,r5,y5,st5,fr5⟩=>?_);have I5':=I5.pinned (stat fr5) (T.obj _ _ st5);refine dR hp (thn (hg _ s5 σ3 H5 x u _ I5' r5 (step x H5 y5)) λ_ s6 ⟨σ6,H6,I6,q6⟩=>?_);refine dR hp (thn (hb _ s6 σ6 H6 _ I6 q6) λf s7 q7=>?_);have again:∀ {σ7:St} {H7:Hp},Inv X (pins++a0k fp s5.heap) σ7 H7 s7->N σ7 H7->∃ m,m<n/\∃ i σ' H',Inv X pins σ' H' s7/\tn i s7.heap/\(∀ b∈fp,H' b=none)/\W i m σ' H':=λ{σ7 H7} I7 n7=>by
   obtain⟨m',hm,w7⟩:=hN σ7 H7 n7;refine⟨m',hm,i+1,σ7,H7,I7.unpinned,T.keep _ _ _ st5 λb hb o e=>(I7.pin (b,o) (aB _ (aB _ (R4 hb e)))).1,λb hb=>?_,w7⟩;obtain⟨o,e,d⟩:=T.obj _ _ st5 b hb;exact (I7.pin (b,o) (aB _ (aB _ (R4 hb e)))).2.1
  cases f with
  | next=>obtain⟨σ7,H7,I7,n7⟩:=q7;exact again I7 n7
  | cont=>obtain⟨σ7,H7,I7,n7⟩:=q7;exact again I7 n7
  | brk=>obtain⟨σ7,H7,I7,q7⟩:=q7;exact⟨σ7,H7,I7.unpinned,q7⟩
  | ret v=>obtain⟨x7,σ7,H7,I7,r7,q7⟩:=q7;exact⟨x7,σ7,H7,I7.unpinned,r7,q7⟩
end
theorem V2 {K:ac}{a:Addr}{xs:List V}{g:TG}{tb:TS}{D:U0}{σ:St}{H:Hp}(Pv:Nat->St->Hp->Prop)(h0:Pv 0 σ H)(hl:∀ i σ H,i<=xs.length->Pv i σ H->SqL K H a xs)
  (hs:∀ i x σ H,xs[i]?=some x->Pv i σ H->g x σ H fun σ2 H2=>tb {D with nx:=Pv (i+1),ct:=Pv (i+1),bk:=D.nx} σ2 H2) (hd:∀ σ H,Pv xs.length σ H->D.nx σ H) :
  ∃ W:Nat->Nat->St->Hp->Prop,(∃ m,W 0 m σ H)/\∀ i m σ H,W i m σ H ->
   ((Itl K a).stop i H/\D.nx σ H)\/((Itl K a).go i H/\∃ N:St->Hp->Prop,(∀ σ' H',N σ' H'->∃ m',m'<m/\W (i+1) m' σ' H')/\∀ x H',(Itl K a).yld i H x H'->g x σ H' fun σ2 H2=>tb {D with nx:=N,ct:=N,bk:=D.nx} σ2 H2):=by
 refine⟨λi m σ H=>m=xs.length-i/\i<=xs.length/\Pv i σ H,⟨xs.length,by simp,bf _,h0⟩,?_⟩;rintro i m σ H ⟨rfl,hi,p⟩;have q:=hl i σ H hi p;by_cases hlt:i<xs.length
 ·refine .inr ⟨⟨xs,xs[i],q,by simp[hlt]⟩,Pv (i+1),fun σ' H' p'=>⟨xs.length-(i+1),∅,rfl,hlt,p'⟩,λx H' y=>?_⟩;obtain⟨e,y⟩:=y;subst e;exact hs i x σ _ (y xs q) p
 ·have e:i=xs.length:=∅
  subst e;exact .inl ⟨⟨xs,q,ao _⟩,hd σ H p⟩
theorem W3 {K:ac}{a:Addr}{xs:List V}{g:TG}{tb:TS}{D:U0}{σ:St}{H:Hp}(Pv:Nat->St->Hp->Prop)(h0:Pv 0 σ H)(hl:∀ i σ H,i<=xs.length->Pv i σ H->SqT K H a xs)
  (hs:∀ i x σ H,xs[i]?=some x->Pv i σ H->g x σ H fun σ2 H2=>tb {D with nx:=Pv (i+1),ct:=Pv (i+1),bk:=D.nx} σ2 H2) (hd:∀ σ H,Pv xs.length σ H->D.nx σ H) :
  ∃ W:Nat->Nat->St->Hp->Prop,(∃ m,W 0 m σ H)/\∀ i m σ H,W i m σ H ->
   ((Itt K a).stop i H/\D.nx σ H)\/((Itt K a).go i H/\∃ N:St->Hp->Prop,(∀ σ' H',N σ' H'->∃ m',m'<m/\W (i+1) m' σ' H')/\∀ x H',(Itt K a).yld i H x H'->g x σ H' fun σ2 H2=>tb {D with nx:=N,ct:=N,bk:=D.nx} σ2 H2):=by
 refine⟨λi m σ H=>m=xs.length-i/\i<=xs.length/\Pv i σ H,⟨xs.length,by simp,bf _,h0⟩,?_⟩;rintro i m σ H ⟨rfl,hi,p⟩;have q:=hl i σ H hi p;by_cases hlt:i<xs.length
 ·refine .inr ⟨⟨xs,xs[i],q,by simp[hlt]⟩,Pv (i+1),fun σ' H' p'=>⟨xs.length-(i+1),∅,rfl,hlt,p'⟩,λx H' y=>?_⟩;obtain⟨e,y⟩:=y;subst e;exact hs i x σ _ (y xs q) p
 ·have e:i=xs.length:=∅
  subst e;exact .inl ⟨⟨xs,q,ao _⟩,hd σ H p⟩
theorem R8 {lo:Int}{n:Nat}{g:TG}{tb:TS}{D:U0}{σ:St}{H:Hp}(Pv:Nat->St->Hp->Prop)(h0:Pv 0 σ H)
  (hs:∀ i σ H,i<n->Pv i σ H->g (.int (lo+i)) σ H fun σ2 H2=>tb {D with nx:=Pv (i+1),ct:=Pv (i+1),bk:=D.nx} σ2 H2) (hd:∀ σ H,Pv n σ H->D.nx σ H) :
  ∃ W:Nat->Nat->St->Hp->Prop,(∃ m,W 0 m σ H)/\∀ i m σ H,W i m σ H ->
   ((Itr lo n).stop i H/\D.nx σ H)\/((Itr lo n).go i H/\∃ N:St->Hp->Prop,(∀ σ' H',N σ' H'->∃ m',m'<m/\W (i+1) m' σ' H')/\∀ x H',(Itr lo n).yld i H x H'->g x σ H' fun σ2 H2=>tb {D with nx:=N,ct:=N,bk:=D.nx} σ2 H2):=by
 refine⟨λi m σ H=>m=n-i/\i<=n/\Pv i σ H,⟨n,by simp,bf _,h0⟩,?_⟩;rintro i m σ H ⟨rfl,hi,p⟩;by_cases hlt:i<n
 ·refine .inr ⟨hlt,Pv (i+1),fun σ' H' p'=>⟨n-(i+1),∅,rfl,hlt,p'⟩,λx H' y=>?_⟩;obtain⟨e,y⟩:=y;subst e y;exact hs i σ _ hlt p
 ·have e:i=n:=∅
  subst e;exact .inl ⟨ao _,hd σ H p⟩
theorem a3K {c:TT}{tb:TS}{D:U0}{σ:St}{H:Hp}(Pv:St->Hp->Prop)(μ:St->Hp->Nat)(h0:Pv σ H)
  (hs:∀ σ H,Pv σ H->c σ H λb H1=>if b=true then tb {D with nx:=fun σ' H'=>Pv σ' H'/\μ σ' H'<μ σ H,ct:=fun σ' H'=>Pv σ' H'/\μ σ' H'<μ σ H,bk:=D.nx} σ H1 else D.nx σ H1)
  (mono:∀ σ H Q Q',(∀ b H1,Q b H1->Q' b H1)->c σ H Q->c σ H Q'):a8e c tb D σ H:=by
 refine⟨λm σ H=>m=μ σ H/\Pv σ H,⟨_,rfl,h0⟩,?_⟩;rintro m σ H ⟨rfl,p⟩;refine mono σ H _ _ (λb H1 q=>?_) (hs σ H p);cases b with
 | true=>exact⟨_,fun σ' H' ⟨p',l⟩=>⟨_,l,rfl,p'⟩,q⟩
 | false=>exact q
end L2
namespace L2
open PySem PySem.Spec PyProof.Rows
abbrev R2:=V->V->Hp->VK->Prop
def OpR (X:Cx)(f:Value->Value->Sem Value)(r:R2):Prop :=
 ∀(pins:List (Addr×Obj)) (s:Shared) (σ:St) (H:Hp) (x y:V) (v u:Value) (Q:VK),Inv X pins σ H s->D0 x v->D0 y u->r x y H Q ->
  wpAny (model X.prog X.w) X.A (f v u) (EP X pins σ Q) X.xe s
def J7 (X:Cx)(f:Value)(r:List V->Hp->VK->Prop):Prop :=
 ∀(pins:List (Addr×Obj)) (s:Shared) (σ:St) (H:Hp) (xs:List V) (us:List Value) (Q:VK),Inv X pins σ H s->C9 xs us->r xs H Q ->
  wpAny (model X.prog X.w) X.A (call f us) (EP X pins σ Q) X.xe s
def b5J (X:Cx)(r:V->Hp->(Bool->Hp->Prop)->Prop):Prop :=
 ∀(pins:List (Addr×Obj)) (s:Shared) (σ:St) (H:Hp) (x:V) (v:Value) (Q:Bool->Hp->Prop),Inv X pins σ H s->D0 x v->r x H Q ->
  wpAny (model X.prog X.w) X.A (truthy v) (TP X pins σ Q) X.xe s
def tOp (r:R2)(ta tb:TE):TE:=fun σ H Q=>ta σ H λx H1=>tb σ H1 λy H2=>r x y H2 Q
def tUn (r:V->Hp->VK->Prop)(ta:TE):TE:=fun σ H Q=>ta σ H λx H1=>r x H1 Q
def rI (C:Int->Int->Prop)(g:Int->Int->V):R2:=λx y H Q=>∃ i j,x=.int i/\y=.int j/\C i j/\Q (g i j) H
def rI0 (g:Int->Int->V):R2:=λx y H Q=>∃ i j,x=.int i/\y=.int j/\Q (g i j) H
section
variable {X:Cx}{a b c:Expr}{ta tb tc:TE}{pos:Pos}
theorem b3K (ha:PE X a ta)(hb:PE X b tb){pins:List (Addr×Obj)}{s:Shared}{σ:St}{H:Hp}{R:V->V->Hp->Prop}(I:Inv X pins σ H s)
  (h:ta σ H λx H1=>tb σ H1 λy H2=>R x y H2) {Q:Value->Shared->Prop} {f:Value->Value->Sem Value}
  (hf:∀ v u s2 x y H2,Inv X pins σ H2 s2->D0 x v->D0 y u->R x y H2->wpAny (model X.prog X.w) X.A (f v u) Q X.xe s2) :
  wpAny (model X.prog X.w) X.A (eval a X.env) (λv sq=>wpAny (model X.prog X.w) X.A (eval b X.env) (λu sx=>wpAny (model X.prog X.w) X.A (f v u) Q X.xe sx) X.xe sq) X.xe s:=by
 refine thn (ha pins s σ H _ I h) λv s1 ⟨x,H1,I1,r1,q1⟩=>?_
 refine thn (hb pins s1 σ H1 _ I1 q1) λu s2 ⟨y,H2,I2,r2,q2⟩=>?_
 exact hf v u s2 x y H2 I2 r1 r2 q2
theorem M2 {op:Operator}{r:R2}(ho:OpR X (binaryOp op) r)(ha:PE X a ta)(hb:PE X b tb):PE X (.BinOp a op b pos) (tOp r ta tb):=by
 intro pins s σ H Q I h;exact wpAny_BinOp (b3K ha hb I h λv u s2 x y H2 I2 rx ry q=>ho pins s2 σ H2 x y v u Q I2 rx ry q)
theorem opI {f:Value->Value->Sem Value}{C:Int->Int->Prop}{g:Int->Int->Int}
  (rule:∀(i j:Int) (t u:Tok) (s:Shared) (Q:Value->Shared->Prop) (E:Value->Shared->Prop),C i j->Q (.int (g i j) s.toks) {s with toks:=s.toks+1}->wpAny (model X.prog X.w) X.A (f (.int i t) (.int j u)) Q E s) :
  OpR X f (rI C λi j=>.int (g i j)):=by
 intro pins s σ H x y v u Q I rx ry h;obtain⟨i,j,rfl,rfl,hc,q⟩:=h;obtain⟨t,rfl⟩:=rx;obtain⟨t',rfl⟩:=ry;exact rule i j t t' s _ _ hc ⟨.int (g i j),H,I.tok _,⟨_,rfl⟩,q⟩
theorem b2O {f:Value->Value->Sem Value}{g:Int->Int->Int}
  (rule:∀(i j:Int) (t u:Tok) (s:Shared) (Q:Value->Shared->Prop) (E:Value->Shared->Prop),Q (.int (g i j) s.toks) {s with toks:=s.toks+1}->wpAny (model X.prog X.w) X.A (f (.int i t) (.int j u)) Q E s) :
  OpR X f (rI0 λi j=>.int (g i j)):=by
 intro pins s σ H x y v u Q I rx ry h;obtain⟨i,j,rfl,rfl,q⟩:=h;obtain⟨t,rfl⟩:=rx;obtain⟨t',rfl⟩:=ry;exact rule i j t t' s _ _ ⟨.int (g i j),H,I.tok _,⟨_,rfl⟩,q⟩
theorem b0F {f:Value->Value->Sem Value}{g:Int->Int->Bool}
  (rule:∀(i j:Int) (t u:Tok) (s:Shared) (Q:Value->Shared->Prop) (E:Value->Shared->Prop),Q (.bool (g i j)) s->wpAny (model X.prog X.w) X.A (f (.int i t) (.int j u)) Q E s) :
  OpR X f (rI0 λi j=>.bl (g i j)):=by
 intro pins s σ H x y v u Q I rx ry h;obtain⟨i,j,rfl,rfl,q⟩:=h;obtain⟨t,rfl⟩:=rx;obtain⟨t',rfl⟩:=ry;exact rule i j t t' s _ _ ⟨.bl (g i j),H,I,rfl,q⟩
def b5N (i j:Int):Prop:=0<j/\j<1073741824
def b5a (i j:Int):Prop:=0<=j/\j<=1000000/\i.natAbs<2 ^ 64
def b1B (i j:Int):Prop:=(-(2 ^ 64)<i/\i<2 ^ 64)\/(-(2 ^ 64)<j/\j<2 ^ 64)
theorem b1B.ok {i j:Int}(h:b1B i j):IntMulOk i j:=by
 rcases h with ⟨h1,h2⟩ | ⟨h1,h2⟩
 ·exact .of_left (intBits_le_64 h1 h2)
 ·exact .of_right (intBits_le_64 h1 h2)
theorem a5a (k:Nat):(0:Int)<=2 ^ k:=by
 rw[two_pow_cast];exact Int.natCast_nonneg _
theorem b2N:OpR X (binaryOp .Add) (rI0 λi j=>.int (i+j)):=b2O λ_ _ _ _ _ _ _ q=>add_int q
theorem b2E:OpR X (binaryOp .Sub) (rI0 λi j=>.int (i-j)):=b2O λ_ _ _ _ _ _ _ q=>sub_int q
theorem T7:OpR X (binaryOp .Mult) (rI b1B λi j=>.int (i*j)):=opI λ_ _ _ _ _ _ _ hc q=>mul_int q hc.ok
theorem a3A:OpR X (binaryOp .FloorDiv) (rI b5N λi j=>.int (i / j)):=opI λi j _ _ _ _ _ hc q=>by
 have h1:(0:Int)<j:=hc.1;have h2:j<1073741824:=hc.2;exact floordiv_int ∅ (by rw[iy i ∅];exact q) (.inl (PyProof.noPylong_small ∅))
theorem b2K:OpR X (binaryOp .Mod) (rI (λ_ j=>0<j) λi j=>.int (i % j)):=opI λi j _ _ _ _ _ hc q=>by
 have h1:(0:Int)<j:=hc;exact mod_int' ∅ (by rw[Int.fmod_eq_emod_of_nonneg i ∅];exact q)
theorem b2I:OpR X (binaryOp .Pow) (rI b5a λi j=>.int (i ^ j.toNat)):=opI λ_ _ _ _ _ _ _ hc q=>pow_int_small hc.1 hc.2.1 hc.2.2 q
theorem b2G:OpR X (binaryOp .LShift) (rI b5a λi j=>.int (i*2 ^ j.toNat)):=opI λ_ _ _ _ _ _ _ hc q=>lshift_int_small hc.1 hc.2.1 hc.2.2 q
theorem b2F:OpR X (binaryOp .RShift) (rI (λ_ j=>0<=j) λi j=>.int (i / 2 ^ j.toNat)):=opI λi j _ _ _ _ _ hc q =>
 rshift_int hc (by rw[iy i (a5a _)];exact q)
theorem b2M:OpR X (binaryOp .BitAnd) (rI0 λi j=>.int (eJ i j)):=b2O λ_ _ _ _ _ _ _ q=>and_int q
end
def a8t:V->V->Bool
 | .non,.non=>true | .non,.int _=>true | .int _,.non=>true | .non,.bl _=>true | .bl _,.non=>true | .non,.str _=>true | .str _,.non=>true
 | .int _,.int _=>true | .bl _,.bl _=>true | .str _,.str _=>true | .byt _,.byt _=>true
 | .int _,.str _=>true | .str _,.int _=>true | .bl _,.str _=>true | .str _,.bl _=>true
 | _,_=>false
def rEq:R2:=λx y H Q=>a8t x y=true/\Q (.bl (decide (x=y))) H
def rNe:R2:=λx y H Q=>a8t x y=true/\Q (.bl (!decide (x=y))) H
theorem a6O {i j:Int}:decide (V.int i=V.int j)=(i == j):=by
 rw[fe];simp
theorem a9R {i j:Bool}:decide (V.bl i=V.bl j)=(i == j):=by
 rw[fe];simp
theorem a6N {i j:Str}:decide (V.str i=V.str j)=(i == j):=by
 rw[fe];simp
theorem a6P {i j:Array UInt8}:decide (V.byt i=V.byt j)=(i.toList == j.toList):=by
 rw[fe];cases i;cases j;simp
section
variable {X:Cx}{a b c:Expr}{ta tb tc:TE}{pos:Pos}
theorem G9 {pins:List (Addr×Obj)}{σ:St}{H:Hp}{s:Shared}{Q:VK}{k k':Bool}(I:Inv X pins σ H s)(q:Q (.bl k) H)(e:k=k'):EP X pins σ Q (.bool k') s:=by
 subst e;exact⟨.bl k,H,I,rfl,q⟩
theorem X6:OpR X (compareOp .Eq) rEq:=by
 intro pins s σ H x y v u Q I rx ry h;obtain⟨hs,q⟩:=h;cases x with
 | non =>
  cases rx;cases y with
  | non=>cases ry;exact PySem.EqNone.eq_none_none (G9 I q (by simp))
  | bl j=>cases ry;exact PySem.EqNone.eq_none_bool (G9 I q (by simp))
  | int j=>obtain⟨t',rfl⟩:=ry;exact PySem.EqNone.eq_none_int (G9 I q (by simp))
  | str j=>obtain⟨t',rfl⟩:=ry;exact PySem.EqNone.eq_none_str (G9 I q (by simp))
  | _=>exact absurd (show false=true from hs) aP
 | bl i =>
  cases rx;cases y with
  | non=>cases ry;exact PySem.EqNone.eq_bool_none (G9 I q (by simp))
  | bl j=>cases ry;exact eq_bool (G9 I q a9R)
  | str j=>obtain⟨t',rfl⟩:=ry;exact PySem.EqMixed.eq_bool_str (G9 I q (by simp))
  | _=>exact absurd (show false=true from hs) aP
 | int i =>
  obtain⟨t,rfl⟩:=rx;cases y with
  | non=>cases ry;exact PySem.EqNone.eq_int_none (G9 I q (by simp))
  | int j=>obtain⟨t',rfl⟩:=ry;exact eq_int (G9 I q a6O)
  | str j=>obtain⟨t',rfl⟩:=ry;exact PySem.EqMixed.eq_int_str (G9 I q (by simp))
  | _=>exact absurd (show false=true from hs) aP
 | str i =>
  obtain⟨t,rfl⟩:=rx;cases y with
  | non=>cases ry;exact PySem.EqNone.eq_str_none (G9 I q (by simp))
  | bl j=>cases ry;exact PySem.EqMixed.eq_str_bool (G9 I q (by simp))
  | int j=>obtain⟨t',rfl⟩:=ry;exact PySem.EqMixed.eq_str_int (G9 I q (by simp))
  | str j=>obtain⟨t',rfl⟩:=ry;exact eq_str (G9 I q a6N)
  | _=>exact absurd (show false=true from hs) aP
 | byt i =>
  obtain⟨t,rfl⟩:=rx;cases y with
  | byt j=>obtain⟨t',rfl⟩:=ry;exact PySem.W.eq_bytes (G9 I q a6P)
  | _=>exact absurd (show false=true from hs) aP
 | _=>cases y<;>exact absurd (show false=true from hs) aP
theorem a8J:OpR X (compareOp .NotEq) rNe:=by
 intro pins s σ H x y v u Q I rx ry h;obtain⟨hs,q⟩:=h;cases x with
 | non =>
  cases rx;cases y with
  | non=>cases ry;exact PySem.EqNone.ne_none_none (G9 I q (by simp))
  | bl j=>cases ry;exact PySem.EqNone.ne_none_bool (G9 I q (by simp))
  | int j=>obtain⟨t',rfl⟩:=ry;exact PySem.EqNone.ne_none_int (G9 I q (by simp))
  | str j=>obtain⟨t',rfl⟩:=ry;exact PySem.EqNone.ne_none_str (G9 I q (by simp))
  | _=>exact absurd (show false=true from hs) aP
 | bl i =>
  cases rx;cases y with
  | non=>cases ry;exact PySem.EqNone.ne_bool_none (G9 I q (by simp))
  | bl j=>cases ry;exact ne_bool (G9 I q (congrArg not a9R))
  | str j=>obtain⟨t',rfl⟩:=ry;exact PySem.EqMixed.ne_bool_str (G9 I q (by simp))
  | _=>exact absurd (show false=true from hs) aP
 | int i =>
  obtain⟨t,rfl⟩:=rx;cases y with
  | non=>cases ry;exact PySem.EqNone.ne_int_none (G9 I q (by simp))
  | int j=>obtain⟨t',rfl⟩:=ry;exact ne_int (G9 I q (congrArg not a6O))
  | str j=>obtain⟨t',rfl⟩:=ry;exact PySem.EqMixed.ne_int_str (G9 I q (by simp))
  | _=>exact absurd (show false=true from hs) aP
 | str i =>
  obtain⟨t,rfl⟩:=rx;cases y with
  | non=>cases ry;exact PySem.EqNone.ne_str_none (G9 I q (by simp))
  | bl j=>cases ry;exact PySem.EqMixed.ne_str_bool (G9 I q (by simp))
  | int j=>obtain⟨t',rfl⟩:=ry;exact PySem.EqMixed.ne_str_int (G9 I q (by simp))
  | str j=>obtain⟨t',rfl⟩:=ry;exact ne_str (G9 I q (congrArg not a6N))
  | _=>exact absurd (show false=true from hs) aP
 | byt i =>
  obtain⟨t,rfl⟩:=rx;cases y with
  | byt j=>obtain⟨t',rfl⟩:=ry;exact PySem.W.ne_bytes (G9 I q (congrArg not a6P))
  | _=>exact absurd (show false=true from hs) aP
 | _=>cases y<;>exact absurd (show false=true from hs) aP
theorem a6z:OpR X (compareOp .Lt) (rI0 λi j=>.bl (decide (i<j))):=b0F λ_ _ _ _ _ _ _ q=>lt_int q
theorem a6A:OpR X (compareOp .LtE) (rI0 λi j=>.bl (decide (i<=j))):=b0F λ_ _ _ _ _ _ _ q=>le_int q
theorem a0Z:OpR X (compareOp .Gt) (rI0 λi j=>.bl (decide (j<i))):=b0F λ_ _ _ _ _ _ _ q=>gt_int q
theorem b4B:OpR X (compareOp .GtE) (rI0 λi j=>.bl (decide (j<=i))):=b0F λ_ _ _ _ _ _ _ q=>ge_int q
theorem OpR.or {f:Value->Value->Sem Value}{r r':R2}(h:OpR X f r)(h':OpR X f r'):OpR X f (λx y H Q=>r x y H Q\/r' x y H Q):=by
 intro pins s σ H x y v u Q I rx ry q;rcases q with q | q
 ·exact h pins s σ H x y v u Q I rx ry q
 ·exact h' pins s σ H x y v u Q I rx ry q
theorem E7 (b:Expr){op:CmpOp}(h:op≠.In:=by decide)(h2:op≠.NotIn:=by decide):behindInMarks op b=false:=by
 have e1:(op == CmpOp.In)=false:=by cases op<;>first | rfl | exact absurd rfl h
 have e2:(op == CmpOp.NotIn)=false:=by cases op<;>first | rfl | exact absurd rfl h2
 cases b<;>simp[behindInMarks,e1,e2]
theorem M4 {op:CmpOp}{r:R2}(ho:OpR X (compareOp op) r)(ha:PE X a ta)(hb:PE X b tb)(hm:behindInMarks op b=false):PE X (.Compare a [op] [b] pos) (tOp r ta tb):=by
 intro pins s σ H Q I h;exact wpAny_Compare1 (b3K ha hb I h λv u s2 x y H2 I2 rx ry q=>ho pins s2 σ H2 x y v u Q I2 rx ry q) hm
def b1D (t:TE):TT:=fun σ H Q=>t σ H λx H'=>∃ k,x=.bl k/\Q k H'
theorem E6 {op:CmpOp}{r:R2}(ho:OpR X (compareOp op) r)(ha:PE X a ta)(hb:PE X b tb)(hm:behindInMarks op b=false):PT X (.Compare a [op] [b] pos) (b1D (tOp r ta tb)):=by
 intro pins s σ H Q I h
 refine jS (thn (ha pins s σ H _ I h) λv s1 ⟨x,H1,I1,r1,q1⟩=>thn (hb pins s1 σ H1 _ I1 q1) λu s2 ⟨y,H2,I2,r2,q2⟩ =>
  thn (ho pins s2 σ H2 x y v u _ I2 r1 r2 q2) λc s3 ⟨z,H3,I3,r3,k,e,q3⟩=>?_) hm
 subst e;cases r3;exact cb ⟨H3,I3,q3⟩
def a8m (r r':R2)(ta tb tc:TE):TE:=fun σ H Q=>ta σ H λx H1=>tb σ H1 λy H2=>r x y H2 λz H3=>∃ k,z=.bl k /\
 (if k=true then tc σ H3 λw' H4=>r' y w' H4 Q else Q (.bl false) H3)
theorem a8H {op op':CmpOp}{r r':R2}(ho:OpR X (compareOp op) r)(ho':OpR X (compareOp op') r')(ha:PE X a ta)(hb:PE X b tb)(hc:PE X c tc)
  (hm:lastMarks [op,op'] [b,c]=false:=by with_unfolding_all rfl):PE X (.Compare a [op,op'] [b,c] pos) (a8m r r' ta tb tc):=by
 intro pins s σ H Q I h
 refine Compare_chain (thn (ha pins s σ H _ I h) λv s1 ⟨x,H1,I1,r1,q1⟩=>chain_link (thn (hb pins s1 σ H1 _ I1 q1) λu s2 ⟨y,H2,I2,r2,q2⟩ =>
  thn (ho pins s2 σ H2 x y v u _ I2 r1 r2 q2) λd s3 ⟨z,H3,I3,r3,k,e,q3⟩=>?_)) hm
 subst e;cases r3;refine cb ?_;cases k with
 | false=>exact ite_ff ⟨.bl false,H3,I3,rfl,q3⟩
 | true=>exact ite_tt (chain_last (thn (hc pins s3 σ H3 _ I3 q3) λw' s4 ⟨z',H4,I4,r4,q4⟩=>ho' pins s4 σ H4 y z' u w' Q I4 r2 r4 q4))
def b1z (K:ac)(x:V)(H:Hp)(k:Bool):Prop :=
 match x with
 | .non=>k=false
 | .bl b=>k=b
 | .int i=>k=(i != 0)
 | .str y=>y.length<=sizeLine/\k=((y.length:Int) != 0)
 | .byt y=>y.size<=sizeLine/\k=((y.size:Int) != 0)
 | .ref p=>(∃ xs,SqL K H p xs/\k=!xs.isEmpty)\/(∃ xs,SqT K H p xs/\k=!xs.isEmpty)\/∃ kvs,H p=some (.dK kvs)/\k=!kvs.isEmpty
 | _=>False
theorem a5D {κ:Type}{kvs:List (κ×V)}{vs:List (κ×Value)}(r:KV kvs vs):(!vs.isEmpty)=!kvs.isEmpty:=by
 cases r<;>rfl
theorem a1Y {xs:List V}{its:List Value}(r:C9 xs its):(!its.toArray.isEmpty)=!xs.isEmpty:=by
 cases r<;>simp
theorem a0N:(sizeLine:Nat)<2 ^ 63:=by rw[sizeLine_eq];decide
theorem a8d:b5J X (λx H Q=>∃ k,b1z X.K x H k/\Q k H):=by
 intro pins s σ H x v Q I rx h;obtain⟨k,e,q⟩:=h;have hl:=a0N;have hs:sizeLine=16777216:=sizeLine_eq;cases x with
 | non =>
  cases rx;have e':k=false:=e;subst e';exact truthy_none ⟨H,I,q⟩
 | bl b =>
  cases rx;have e':k=b:=e;subst e';exact cb ⟨H,I,q⟩
 | int i =>
  obtain⟨t,rfl⟩:=rx;have e':k=(i != 0):=e;subst e';exact PySem.P.truthy_int ⟨H,I,q⟩
 | str y =>
  obtain⟨t,rfl⟩:=rx;obtain⟨hy,e'⟩:y.length<=sizeLine/\k=((y.length:Int) != 0):=e;subst e';exact PySem.P.truthy_str ∅ ⟨H,I.tok _,q⟩
 | byt y =>
  obtain⟨t,rfl⟩:=rx;obtain⟨hy,e'⟩:y.size<=sizeLine/\k=((y.size:Int) != 0):=e;subst e';exact PySem.W.truthy_bytes ∅ ⟨H,I.tok _,q⟩
 | ref p =>
  cases rx;have e':(∃ xs,SqL X.K H p xs/\k=!xs.isEmpty)\/(∃ xs,SqT X.K H p xs/\k=!xs.isEmpty)\/∃ kvs,H p=some (.dK kvs)/\k=!kvs.isEmpty:=e;rcases e' with ⟨xs,hx,e'⟩ | ⟨xs,hx,e'⟩ | ⟨kvs,hx,e'⟩
  ·subst e';obtain⟨its,r,pl,hz⟩:=I.list hx;have hlen:=r.length;exact wpAny_truthy_list pl.isList (by simp only[aD];omega) ⟨H,I.tok _,by rw[a1Y r];exact q⟩
  ·subst e';obtain⟨its,r,pl,hz⟩:=I.tuple hx;have hlen:=r.length;exact truthy_tuple pl (by simp only[aD];omega) ⟨H,I.tok _,by rw[a1Y r];exact q⟩
  ·subst e';obtain⟨hz,hS,vs,r,m⟩:kvs.length<=sizeLine/\(p == sysModules)=false/\∃ vs,KV kvs vs/\s.heap.DictOf (K7 X.prog X.w) p vs:=I.hok p _ hx;have hlen:kvs.length=vs.length:=d9 r;exact wpAny_truthy_dict hS m ∅ ⟨H,I.tok _,by rw[a5D r];exact q⟩
 | _=>exact (show False from e).elim
theorem a8y (ha:PE X a ta)(he:∀ whole,isTrue a X.env whole=(do let v <- whole;standAt a.pos;holding [v] (truthy v))) :
  PT X a (fun σ H Q=>ta σ H λx H'=>∃ k,b1z X.K x H' k/\Q k H'):=by
 intro pins s σ H Q I h;exact isTrue_plain (thn (ha pins s σ H _ I h) λv s1 ⟨x,H1,I1,r1,q1⟩=>a8d pins s1 σ H1 x v Q I1 r1 q1) (he _)
theorem Q3 {x:V}{us:List Value}(r:C9 [x] us):∃ u,us=[u]/\D0 x u:=by
 cases r with
 | cons r1 r2=>cases r2;exact⟨_,rfl,r1⟩
theorem a3M {x y:V}{us:List Value}(r:C9 [x,y] us):∃ u w',us=[u,w']/\D0 x u/\D0 y w':=by
 cases r with
 | cons r1 r2 =>
  cases r2 with
  | cons r3 r4=>cases r4;exact⟨_,_,rfl,r1,r3⟩
theorem V5 (hc:X.calm=true):J7 X (.builtin "max") (λxs H Q=>∃ i j,xs=[.int i,.int j]/\Q (.int (if j>i then j else i)) H):=by
 intro pins s σ H xs us Q I r h;obtain⟨i,j,rfl,q⟩:=h;obtain⟨u,w',rfl,⟨t,rfl⟩,⟨t',rfl⟩⟩:=a3M r;refine max_two_ints (I.ok.hd hc) λh' tk k=>⟨_,H,I.kept k,?_,q⟩
 by_cases hj:j>i
 ·rw[if_pos hj,if_pos hj];exact⟨_,rfl⟩
 ·rw[if_neg hj,if_neg hj];exact⟨_,rfl⟩
theorem a3g (hc:X.calm=true):J7 X (.builtin "min") (λxs H Q=>∃ i j,xs=[.int i,.int j]/\Q (.int (if j<i then j else i)) H):=by
 intro pins s σ H xs us Q I r h;obtain⟨i,j,rfl,q⟩:=h;obtain⟨u,w',rfl,⟨t,rfl⟩,⟨t',rfl⟩⟩:=a3M r;refine min_two_ints (I.ok.hd hc) λh' tk k=>⟨_,H,I.kept k,?_,q⟩
 by_cases hj:j<i
 ·rw[if_pos hj,if_pos hj];exact⟨_,rfl⟩
 ·rw[if_neg hj,if_neg hj];exact⟨_,rfl⟩
theorem a7Q:J7 X (.type "int") (λxs H Q=>(∃ i,xs=[.int i]/\Q (.int i) H)\/∃ k,xs=[.bl k]/\Q (.int (if k then 1 else 0)) H):=by
 intro pins s σ H xs us Q I r h;rcases h with ⟨i,rfl,q⟩ | ⟨k,rfl,q⟩
 ·obtain⟨u,rfl,t,rfl⟩:=Q3 r;exact call_int_int ⟨.int i,H,I,⟨_,rfl⟩,q⟩
 ·obtain⟨u,rfl,r1⟩:=Q3 r;cases r1;exact call_int_bool ⟨.int (if k then 1 else 0),H,I.tok _,⟨_,rfl⟩,q⟩
end
end L2
namespace L2
open PySem PySem.Spec PyProof.Rows
structure b0d (h:Heap)(x dx C:Addr)(mA:Str->Option Value):Prop where
 obj:h.get? x=some (dH C dx)
 ns:h.Ns1 dx mA
 ne:dx≠x
theorem a7p {h:Heap}{dx:Addr}{mA:Str->Option Value}(n:h.Ns1 dx mA):∃ od,h.get? dx=some od/\∀ name,PySem.W.lookIn name od=some (mA name):=by
 obtain⟨o,es,ep,ho,hd,hk,_,hm⟩:=n;refine⟨o,ho,λname=>?_⟩;have e:=hm name;unfold nsFind findBy at e;rw[<- Array.find?_toList] at e;unfold PySem.W.lookIn;rw[hd];dsimp only;split
 ·rename_i y q;rw[q] at e;exact congrArg some e
 ·rename_i q;rw[q] at e;have a:es.toList.any (·.refKey)=false:=by
   rw[List.any_eq_false];intro y hy;obtain⟨z,t,hkey⟩:=hk y (Array.mem_toList_iff.mp hy);simp[DictEntry.refKey,hkey]
  have a':¬ es.toList.any (·.refKey)=true:=by rw[a];exact aP
  rw[if_neg a'];exact congrArg some e
theorem b0d.look {h:Heap}{x dx C:Addr}{mA:Str->Option Value}(I:b0d h x dx C mA):∃ od,PySem.W.InstAt h x (dH C dx) C (some od)/\∀ name,PySem.W.lookIn name od=some (mA name) :=
 let ⟨od,ho,hl⟩:=a7p I.ns
 ⟨od,⟨I.obj,rfl,rfl,ho⟩,hl⟩
section
variable {prog:Program}{w:World}{A:Around}{E:Value->Shared->Prop}{s:Shared}{K:ac}{x dx C f:Addr}{mA:Str->Option Value}{name:Str}{v:Value}
theorem a6d {ns:List Str}{Q:Unit->Shared->Prop}(X:K.In s.heap)(I:b0d s.heap x dx C mA)
  (hs:aQ K (.ref C) "__setattr__"=some (some (.builtin "object.__setattr__"))) (hp:jd K C=true) (ht:PySem.W.takerIn K C name=some none) (hh:jg K C=true)
  (hw:iQ mA ns) (hsz:ns.length<=sizeLine)
  (h:∀ h',b0d h' x dx C (λy=>if y=name then some v else mA y)->dh dx s.heap h'->Q () {s with heap:=h',toks:=s.toks+2}) :
  wpAny (model prog w) A (setAttr (.ref x) name v) Q E s:=by
 obtain⟨od,J,hl⟩:=I.look;refine PySem.W.set_plain X J hs (PySem.W.osa_open (s:={s with toks:=s.toks+1}) (r:=none) X J hp ht λb=>?_);obtain⟨cd,hc,hd'⟩:=PySem.W.any_some hh;have hx:s.heap.get? x=some ⟨.ref C,some dx,.plain,#[]⟩:=I.obj;refine ae (ag (ae (ae (wpAny_loadPart hx (ae (PySem.W.Looks.here (s:={s with toks:=s.toks+1}) (PySem.W.looks_clsIn X hc) ?_))))));rw[hd'];refine ag (a:=some dx) (ae (ag (ae ?_)));refine wpAny_nsSet1 (s:={s with toks:=s.toks+1}) I.ns λh' hn2 hs2=>?_
 obtain⟨oD,esD,epD,hoD,hdD,hcD⟩:=hn2.count (PySem.Within.cons name v hw);refine ae (wpAny_lookBehind hoD (by rw[hdD];exact pastItsLine_dict (aV hcD (by rw[aw];omega))) ?_);exact ag (h _ ⟨(hs2.2 _ (dN I.ne)).trans I.obj,hn2,I.ne⟩ hs2)
end
section
variable {P:Program}{w:World}{H H':Hp}{h h':Heap}{a C dx:Addr}{fs fs':List (Str×V)}
theorem b1l (hok:HOk P w H h)(e:H a=some (.ins C dx fs)):∃ mA,b0d h a dx C mA/\(∀ f,a3J (fs.lookup f) (mA f))/\iQ mA (fs.map (·.1))/\fs.length<=1000/\H dx=some (.own a):=by
 obtain⟨d,z,ne,ob,mA,n,r,q⟩:=(show K0 P w H h a (.ins C dx fs) from hok a _ e)
 exact⟨mA,⟨ob,n,ne⟩,r,q,z,d⟩
end
structure Cls (K:ac)(C:Addr):Prop where
 pg:PySem.W.plainGet K C Str.empty=true
 hd:jg K C=true
 po:jd K C=true
 sa:aQ K (.ref C) "__setattr__"=some (some (.builtin "object.__setattr__"))
theorem Cls.get {K:ac}{C:Addr}(c:Cls K C)(f:Str):PySem.W.plainGet K C f=true:=c.pg
section
variable {X:Cx}{pins:List (Addr×Obj)}{σ:St}{H:Hp}{s:Shared}{a C dx:Addr}{fs:List (Str×V)}{f:Str}{v:V}{A:Around}{E:Value->Shared->Prop}
theorem Inv.made (I:Inv X pins σ H s):Inv X pins σ (upd (upd H s.heap.objs.size (.own (s.heap.objs.size+1))) (s.heap.objs.size+1) (.ins C s.heap.objs.size []))
  {s with heap:=(s.heap.push cM).push (dH C s.heap.objs.size)}:=by
 have e1:(s.heap.push cM).get? s.heap.objs.size=some cM:=au s.heap rfl;have e2:((s.heap.push cM).push (dH C s.heap.objs.size)).get? (s.heap.objs.size+1)=some (dH C s.heap.objs.size):=by
  have:=au (s.heap.push cM) (o:=dH C s.heap.objs.size) rfl
  rwa [dU] at this
 have e3:(s.heap.push cM).Ns s.heap.objs.size (λ_=>none):=⟨cM,#[],_,e1,rfl,(λe he=>absurd he (by simp)),λ_=>rfl⟩
 have I1:=I.laid (a:=s.heap.objs.size) (o:=.own (s.heap.objs.size+1)) (h':=s.heap.push cM) (t':=s.toks) (λb u q=>af _ q) (ao _) ⟨_,e1⟩;refine I1.laid (a:=s.heap.objs.size+1) (o:=.ins C s.heap.objs.size []) (t':=s.toks) (λb u q=>af _ q) (dy (dU _ _)) ?_;have ne:s.heap.objs.size≠s.heap.objs.size+1:=aK (eY _);refine⟨by rw[B3 ne,A1],bf _,ne,e2,λ_=>none,(Heap.Ns1.of_empty e3).at λo q=>af _ q,λ_=>cS,λy hy=>absurd rfl hy⟩
end
section
variable {X:Cx}{pins:List (Addr×Obj)}{σ:St}{H:Hp}{s:Shared}{A:Around}{E:Value->Shared->Prop}{Q:Value->Shared->Prop}{c:Value}{b:Bool}
inductive a0D (K:ac)(H:Hp):V->Value->Prop where
 | non:a0D K H .non (.type "NoneType")
 | bl (x:Bool):a0D K H (.bl x) (.type "bool")
 | int (i:Int):a0D K H (.int i) (.type "int")
 | str (x:Str):a0D K H (.str x) (.type "str")
 | flt (x:UInt64):a0D K H (.flt x) (.type "float")
 | lst {a:Addr} {xs:List V} (e:H a=some (.lst xs)):a0D K H (.ref a) (.type "list")
 | frz {a:Addr} {o:Obj} {xs:List V} (e:H a=some (.frz o (.lst xs))):a0D K H (.ref a) (.type "list")
 | tup {a:Addr} {xs:List V} (e:H a=some (.tup xs)):a0D K H (.ref a) (.type "tuple")
 | dK {a:Addr} {kvs:List (Key×V)} (e:H a=some (.dK kvs)):a0D K H (.ref a) (.type "dict")
 | dT {a:Addr} {kvs:List (List Key×V)} (e:H a=some (.dT kvs)):a0D K H (.ref a) (.type "dict")
 | ins {a C dx:Addr} {fs:List (Str×V)} (e:H a=some (.ins C dx fs)) (cl:Cls K C) (ha:aQ K (.ref C) "__class__"=some (some (.builtin "object.__class__")))
   (hn:PySem.W.specialIn K (.builtin "object.__class__") "__get__"=some (some (.builtin "getset_descriptor.__get__"))) (htk:PySem.W.takesIn K (.builtin "object.__class__")=some true)
   (hm:bA K C (.type "object")=some true):a0D K H (.ref a) (.ref C)
theorem a7u {x:V}{u t:Value}(I:Inv X pins σ H s)(rx:D0 x u)(ty:a0D X.K H x t)(e:bF X.K t c=some b)(h:∀ tk,Q (.bool b) {s with toks:=tk}) :
  wpAny (model X.prog X.w) A (call (.builtin "isinstance") [u,c]) Q E s:=by
 cases ty with
 | non=>cases (show u=cI from rx);exact cn PySem.W.kitx_none I.kIn cS e (λz=>nomatch z) h
 | bl y=>cases (show u=aJ y from rx);exact cn PySem.W.kitx_bool I.kIn cS e (λz=>nomatch z) h
 | int i=>obtain⟨t,q⟩:=(show ∃ t,u=cA i t from rx);cases q;exact cn PySem.W.kitx_int I.kIn cS e (λz=>nomatch z) h
 | str y=>obtain⟨t,q⟩:=(show ∃ t,u=g5 y t from rx);cases q;exact cn PySem.W.kitx_str I.kIn cS e (λz=>nomatch z) h
 | flt y=>obtain⟨t,q⟩:=(show ∃ t,u=Value.float y t from rx);cases q;exact cn PySem.W.kitx_float I.kIn cS e (λz=>nomatch z) h
 | @lst a xs ea =>
  cases (show u=bw a from rx);obtain⟨_,_,n,_,h1⟩:=(show K0 X.prog X.w H s.heap a (.lst xs) from I.hok a _ ea)
  exact cn je I.kIn ⟨_,h1,rfl⟩ e (λz=>nomatch z) h
 | @frz a ob xs ea =>
  cases (show u=bw a from rx);obtain⟨_,_,_,n,_,h1⟩:=(show K0 X.prog X.w H s.heap a (.frz ob (.lst xs)) from I.hok a _ ea)
  exact cn je I.kIn ⟨_,h1,rfl⟩ e (λz=>nomatch z) h
 | @tup a xs ea =>
  cases (show u=bw a from rx);obtain⟨_,_,_,p⟩:=(show K0 X.prog X.w H s.heap a (.tup xs) from I.hok a _ ea)
  obtain⟨o,h1,h2,_⟩:=p;exact cn PySem.W.kitx_tuple I.kIn ⟨o,h1,h2⟩ e (λz=>nomatch z) h
 | @dK a kvs ea =>
  cases (show u=bw a from rx);obtain⟨_,_,vs,_,p⟩:=(show K0 X.prog X.w H s.heap a (.dK kvs) from I.hok a _ ea)
  obtain⟨o,es,ep,h1,h2,_⟩:=p;exact cn jf I.kIn ⟨o,h1,h2.1⟩ e (λz=>nomatch z) h
 | @dT a kvs ea =>
  cases (show u=bw a from rx);obtain⟨_,_,xs,_,o,es,ep,h1,h2,_⟩:=(show K0 X.prog X.w H s.heap a (.dT kvs) from I.hok a _ ea)
  exact cn jf I.kIn ⟨o,h1,h2.1⟩ e (λz=>nomatch z) h
 | @ins a C dx fs ea cl ha hn htk hm =>
  cases (show u=bw a from rx);obtain⟨mA,O,_⟩:=b1l I.hok ea;obtain⟨od,J,_⟩:=O.look;exact cn (PySem.W.kitx_own (cl.get _) cl.hd ha hn htk hm) I.kIn J e (λz=>nomatch z) h
end
end L2
namespace L2
open PySem PySem.Spec PyProof.Rows
structure N3 (k:Nat)(A:Around):Prop where
 hd:A.handled=none
 dp:A.depth+3*k+5<recursionLimit
 un:A.units+16*k+200<cLine
 gd:A.guards=some []
theorem N3.mono {j k:Nat}{A:Around}(r:N3 k A)(h:j<=k):N3 j A:=⟨r.hd,by have:=r.dp;omega,by have:=r.un;omega,r.gd⟩
theorem N3.deeper {k:Nat}{A:Around}(r:N3 (k+1) A)(env:Env):N3 k (A.deeper env) :=
 ⟨r.hd,by have:=r.dp;show A.depth+1+3*k+5<_;omega,by have:=r.un;show A.units+3+16*k+200<_;omega,r.gd⟩
theorem N3.in1 {k:Nat}{A:Around}(r:N3 (k+1) A):N3 k A.in1 :=
 ⟨r.hd,by have:=r.dp;show A.depth+3*k+5<_;omega,by have:=r.un;show A.units+1+16*k+200<_;omega,r.gd⟩
theorem N3.depth {k:Nat}{A:Around}(r:N3 k A):A.depth<recursionLimit:=by have:=r.dp;omega
theorem N3.units {k:Nat}{A:Around}(r:N3 k A):A.units+64<cLine:=by have:=r.un;omega
def b2j:TA:=λ_ H Q=>Q [] H
def a8l (ta:TE)(tr:TA):TA:=fun σ H Q=>ta σ H λx H1=>tr σ H1 λxs H2=>Q (x::xs) H2
section
variable {X:Cx}{e:Expr}{es:List Expr}{te:TE}{t:TA}{pos:Pos}
theorem A0:PA X [] b2j:=λ_ _ _ _ H Q I h=>ft ⟨[],H,I,.nil,h⟩
theorem b0E (ha:PE X e te)(hr:PA X es t)(hs:starEach (e::es) X.env=(false,eval e X.env)::starEach es X.env:=by rfl):PA X (e::es) (a8l te t):=by
 intro pos pins s σ H Q I h;rw[hs];show wpAny _ _ (spliced ((false,eval e X.env)::backTo pos (starEach es X.env))) _ _ s;refine fh (thn (ha pins s σ H _ I h) λu s1 ⟨x,H1,I1,r1,q1⟩=>?_);exact thn (hr pos pins s1 σ H1 _ I1 q1) λus s2 ⟨xs,H2,I2,r2,q2⟩=>⟨x::xs,H2,I2,.cons r1 r2,q2⟩
def b3W (t:TA):TE:=fun σ H Q=>t σ H λxs H1=>xs.length<=sizeLine/\∀ p,H1 p=none->Q (.ref p) (upd H1 p (.tup xs))
def b4i (t:TA):TE:=fun σ H Q=>t σ H λxs H1=>xs.length<=sizeLine/\∀ p,H1 p=none->Q (.ref p) (upd H1 p (.lst xs))
theorem K3 {x1}(h:PA X es t):PE X (.Tuple es x1 pos) (b3W t):=by
 intro pins s σ H Q I hq;refine wpAny_Tuple_spliced (thn (h pos pins s σ H _ I hq) λus s1 ⟨xs,H1,I1,r,z,q⟩=>⟨by rw[<- r.length];exact z,?_⟩);have hf:H1 s1.heap.objs.size=none:=I1.hok.fresh (ao _);refine⟨.ref s1.heap.objs.size,upd H1 s1.heap.objs.size (.tup xs),I1.laid (t':=s1.toks) (λb u e=>af _ e) (ao _) ?_,rfl,q _ hf⟩;exact⟨z,us,r,⟨_,au _ rfl,rfl,_,rfl⟩⟩
theorem J6 (h:PA X es t):PE X (.List es pos) (b4i t):=by
 intro pins s σ H Q I hq;refine wpAny_List_spliced (thn (h pos pins s σ H _ I hq) λus s1 ⟨xs,H1,I1,r,z,q⟩=>⟨by rw[<- r.length];exact z,?_⟩);have hf:H1 s1.heap.objs.size=none:=I1.hok.fresh (ao _);refine⟨.ref s1.heap.objs.size,upd H1 s1.heap.objs.size (.lst xs),I1.laid (t':=s1.toks) (λb u e=>af _ e) (ao _) ?_,rfl,q _ hf⟩;exact⟨z,us,0,r,au _ rfl⟩
end
abbrev Sp:=List V->Hp->VK->XK->Prop
abbrev CXT:=List Env->Hp->Shared->XK->Value->Shared->Prop
structure a2k (P:Program)(w:World)(K:ac)(mg:Str->Option Value)(base:Heap)(A:Around)(outer:List Env)(s:Shared)(H:Hp):Prop where
 frames:A.frames=some outer
 mod:Mod K mg base
 bs:∀ b o,base.get? b=some o->s.heap.get? b=some o/\H b=none
 bsz:base.objs.size<=s.heap.objs.size
 funs:s.heap.FunFrames base outer
 frf:∀ b∈frs outer,H b=none
 hok:HOk P w H s.heap
 bare:AllBare s.gens
def CE (outer:List Env)(P:Program)(w:World)(H:Hp)(s:Shared)(Q:VK)(u:Value)(s':Shared):Prop :=
 ∃ v H',s'.os=s.os/\AllBare s'.gens/\Un (frs outer) [] H H' s.heap s'.heap/\HOk P w H' s'.heap/\D0 v u/\Q v H'
def CR (CX:CXT)(outer:List Env)(P:Program)(w:World)(H:Hp)(s:Shared)(Q:VK)(E:XK)(r:Result)(s':Shared):Prop :=
 match r with
 | .ok (.ret u)=>CE outer P w H s Q u s'
 | .ok _=>False
 | .error e=>CX outer H s E e s'
structure C0 (P:Program)(w:World)(K:ac)(mg:Str->Option Value)(base:Heap)(CX:CXT)(k:Nat)(f:Addr)(fd:FuncData)(ps:List Str)(sp:Sp):Prop where
 len:∀ vs H Q E,sp vs H Q E->vs.length=ps.length
 run:∀(A:Around) (outer:List Env) (s:Shared) (H:Hp) (args:Args) (us:List Value) (vs:List V) (Q:VK) (E:XK),N3 k A->a2k P w K mg base A outer s H->BindsTo s fd args (ps.zip us)->C9 vs us->sp vs H Q E ->
  codeAny (model P w) A (.call (.ref f) args) (CR CX outer P w H s Q E) s
theorem C0.mono {P:Program}{w:World}{K:ac}{mg:Str->Option Value}{base:Heap}{CX:CXT}{j k:Nat}{f:Addr}{fd:FuncData}{ps:List Str}{sp:Sp}(F:C0 P w K mg base CX j f fd ps sp)(h:j<=k) :
  C0 P w K mg base CX k f fd ps sp:=⟨F.len,λA outer s H args us vs Q E hr=>F.run A outer s H args us vs Q E (hr.mono h)⟩
theorem C0.imp {P:Program}{w:World}{K:ac}{mg:Str->Option Value}{base:Heap}{CX:CXT}{k:Nat}{f:Addr}{fd:FuncData}{ps:List Str}{sp sp':Sp}(F:C0 P w K mg base CX k f fd ps sp)
  (h:∀ vs H Q E,sp' vs H Q E->sp vs H Q E):C0 P w K mg base CX k f fd ps sp' :=
 ⟨λvs H Q E q=>F.len vs H Q E (h _ _ _ _ q),λA outer s H args us vs Q E hr he hb hv hs=>F.run A outer s H args us vs Q E hr he hb hv (h _ _ _ _ hs)⟩
theorem a2k.in1 {P:Program}{w:World}{K:ac}{mg:Str->Option Value}{base:Heap}{A:Around}{outer:List Env}{s:Shared}{H:Hp}(e:a2k P w K mg base A outer s H) :
  a2k P w K mg base A.in1 outer s H:=⟨e.frames,e.mod,e.bs,e.bsz,e.funs,e.frf,e.hok,e.bare⟩
section
variable {X:Cx}{pins:List (Addr×Obj)}{σ:St}{H:Hp}{s s':Shared}
theorem Inv.env0 (I:Inv X pins σ H s):a2k X.prog X.w X.K X.mg X.base X.A X.stack s H :=
 ⟨I.ok.frames,I.ok.mod,I.bs,aV I.ok.bsz I.sz,I.stack,I.stkFree,I.hok,I.bare⟩
theorem Inv.after {Q:VK}{u:Value}(I:Inv X pins σ H s)(h:CE X.stack X.prog X.w H s Q u s'):EP X pins σ Q u s':=by
 obtain⟨v,H',os,bare,un,hok,r,q⟩:=h;obtain⟨hh,g,d,t,os'⟩:=s';obtain rfl:os'=s.os:=os;exact⟨v,H',I.call (h':=hh) (g':=g) (d':=d) (t':=t) (ch:=[]) un hok bare (λb z=>absurd z (by simp)),r,q⟩
end
def a5T (sp:Sp)(dvs:List V)(E:XK)(t:TA):TE:=fun σ H Q=>t σ H λvs H1=>sp (vs++dvs) H1 Q E
def a3p (K:ac)(fd:FuncData)(ps:List Str)(ds:List Value):Prop :=
 ∀(s:Shared) (us:List Value),K.In s.heap->(us++ds).length=ps.length->BindsTo s fd ⟨us,[]⟩ (ps.zip (us++ds))
theorem a3p.all {K:ac}{fd:FuncData}{ps:List Str}(h:∀ us:List Value,us.length=ps.length->bindArgs fd ⟨us,[]⟩=pure (ps.zip us)):a3p K fd ps []:=λs us _ hl=>by
 rw[bO] at hl ⊢;exact .of_eq (h us hl)
def a5P (CX:CXT)(X:Cx)(E:XK):Prop:=∀(pins:List (Addr×Obj)) (σ:St) (H:Hp) (s:Shared) (e:Value) (s':Shared),Inv X pins σ H s->CX X.stack H s E e s'->X.xe e s'
section
variable {X:Cx}{CX:CXT}{k:Nat}{f C:Addr}{fd:FuncData}{ps:List Str}{sp:Sp}{dvs:List V}{ds:List Value}{E:XK}{x m:Str}{p pos apos:Pos}{e o:Expr}{es:List Expr}{ta:TE}{t:TA}
theorem b2t {pins:List (Addr×Obj)}{σ:St}{H:Hp}{s:Shared}{Q:VK}{us:List Value}{vs:List V}(F:C0 X.prog X.w X.K X.mg X.base CX k f fd ps sp)(hr:N3 k X.A)(hb:a3p X.K fd ps ds)(hd:C9 dvs ds)(hx:a5P CX X E)
  (I:Inv X pins σ H s) (r:C9 vs us) (h:sp (vs++dvs) H Q E):wpAny (model X.prog X.w) X.A (call (.ref f) us) (EP X pins σ Q) X.xe s:=by
 have r2:C9 (vs++dvs) (us++ds):=r.append hd;have hl:(us++ds).length=ps.length:=by rw[<- r2.length];exact F.len _ _ _ _ h
 refine ib (codeAny_mono (F.run X.A X.stack s H ⟨us,[]⟩ (us++ds) (vs++dvs) Q E hr I.env0 (hb s us I.kIn hl) r2 h) λr s' hq=>?_);cases r with
 | error e=>exact hx pins σ H s e s' I hq
 | ok fl =>
  cases fl with
  | ret u=>exact I.after hq
  | next=>exact bS hq
  | brk=>exact bS hq
  | cont=>exact bS hq
theorem b0D (F:C0 X.prog X.w X.K X.mg X.base CX k f fd ps sp)(hr:N3 k X.A)(hg:Gl X x)(hm:X.mg x=some (.ref f))(hk:fg X.K (.ref f)=true)(hb:a3p X.K fd ps ds)(hd:C9 dvs ds)(hx:a5P CX X E)
  (ha:PA X (e::es) t) (hdb:(x == ("__debug__":Str))=false:=by decide) (he:starEach (e::es) X.env=(false,eval e X.env)::starEach es X.env:=by rfl) (hpl:(backTo pos (starEach es X.env)).any (·.1)=false:=by rfl) :
  PE X (.Call (.Name x p) (e::es) [] pos) (a5T sp dvs E t):=by
 intro pins s σ H Q I h;refine bR (Z8 I hg hm ?_ hdb);refine gj (h₀:=X.base) I.ok.mod.kin hk (thn (ha pos pins s σ H _ I h) λus s1 ⟨vs,H1,I1,r,q⟩=>⟨I1.kIn,?_⟩) he hpl;exact b2t F hr hb hd hx I1 r q
end
def PK (X:Cx)(kws:List Keyword)(t:TA):Prop :=
 ∀(pos:Pos) (pins:List (Addr×Obj)) (s:Shared) (σ:St) (H:Hp) (Q:List V->Hp->Prop),Inv X pins σ H s->t σ H Q->wpAny (model X.prog X.w) X.A (evalAll ((backToKw pos (keywordEach kws X.env)).map (·.2))) (AP X pins σ Q) X.xe s
section
variable {X:Cx}{CX:CXT}{k:Nat}{f C:Addr}{fd:FuncData}{ps ks:List Str}{sp:Sp}{E:XK}{x m:Str}{p pos apos kpos:Pos}{e o:Expr}{es:List Expr}{kws:List Keyword}{te ta:TE}{t tk:TA}{nm:Option Str}
theorem b2x:PK X [] b2j:=λ_ _ _ _ H Q I h=>j9 ⟨[],H,I,.nil,h⟩
theorem b0y (ha:PE X e te)(hr:PK X kws t):PK X (⟨nm,e,kpos⟩::kws) (a8l te t):=by
 intro pos pins s σ H Q I h;show wpAny _ _ (evalAll ((do let v <- eval e X.env;standAt pos;pure v)::(backToKw pos (keywordEach kws X.env)).map (·.2))) _ _ s;refine jW (ae (thn (ha pins s σ H _ I h) λu s1 ⟨x,H1,I1,r1,q1⟩=>ae (dG (ag ?_))));exact thn (hr pos pins s1 σ H1 _ I1 q1) λus s2 ⟨xs,H2,I2,r2,q2⟩=>⟨x::xs,H2,I2,.cons r1 r2,q2⟩
variable {g:List Value->List Value->List Value}{gV:List V->List V->List V}
end
structure B8 (N P:List Str)(sc:Scope):Prop where
 kind:sc.kind=.function
 co:sc.isCoroutine=false
 gen:sc.isGenerator=false
 nd:N.Nodup
 pre:N.take P.length=P
 par:∀ x∈P,sc.names.lookup x=some .local\/sc.names.lookup x=some .cell
 nofree:∀ y∈sc.names,y.2≠.free
theorem a3k {kindOf:Str->Option NameKind}{x:Str}:∀ {binds:List (Str×Value)} {m:Str->Option Value},(∀ v,(x,v)∉binds)->bindL kindOf binds m x=m x
 | [],_,_=>rfl
 | (n,v)::r,m,h=>by
  unfold bindL;rw[a3k λw hw=>h w (aN _ hw)];split
  ·have:x≠n:=by rintro rfl;exact h v aT
   simp[this]
  ·rfl
theorem a3m {kindOf:Str->Option NameKind}{x:Str}:∀ {binds:List (Str×Value)} {m:Str->Option Value},(∀ v,(x,v)∉binds)->bindC kindOf binds m x=m x
 | [],_,_=>rfl
 | (n,v)::r,m,h=>by
  unfold bindC;rw[a3m λw hw=>h w (aN _ hw)];split
  ·rfl
  ·have:x≠n:=by rintro rfl;exact h v aT
   simp[this]
theorem a3l {kindOf:Str->Option NameKind}{x:Str}{v:Value}:∀ {P:List Str} {vs:List Value} {i:Nat} {m:Str->Option Value},P.Nodup->P[i]?=some x->vs[i]?=some v->kindOf x=some .local ->
  bindL kindOf (P.zip vs) m x=some v
 | [],_,_,_,_,h,_,_=>by simp at h
 | _::_,[],_,_,_,_,h,_=>by simp at h
 | p::P,w::vs,0,m,nd,h1,h2,hk=>by
  simp at h1 h2;subst h1;subst h2;show bindL kindOf ((p,w)::P.zip vs) m p=_;unfold bindL;rw[a3k λv hv=>(bX.mp nd).1 (fV hv).1,if_pos hk];simp
 | p::P,w::vs,i+1,m,nd,h1,h2,hk=>by
  show bindL kindOf ((p,w)::P.zip vs) m x=_;unfold bindL;exact a3l (i:=i) (bX.mp nd).2 (~~~h1) (~~~h2) hk
theorem a3n {kindOf:Str->Option NameKind}{x:Str}{v:Value}:∀ {P:List Str} {vs:List Value} {i:Nat} {m:Str->Option Value},P.Nodup->P[i]?=some x->vs[i]?=some v->kindOf x≠some .local ->
  bindC kindOf (P.zip vs) m x=some v
 | [],_,_,_,_,h,_,_=>by simp at h
 | _::_,[],_,_,_,_,h,_=>by simp at h
 | p::P,w::vs,0,m,nd,h1,h2,hk=>by
  simp at h1 h2;subst h1;subst h2;show bindC kindOf ((p,w)::P.zip vs) m p=_;unfold bindC;rw[a3m λv hv=>(bX.mp nd).1 (fV hv).1,if_neg hk];simp
 | p::P,w::vs,i+1,m,nd,h1,h2,hk=>by
  show bindC kindOf ((p,w)::P.zip vs) m x=_;unfold bindC;exact a3n (i:=i) (bX.mp nd).2 (~~~h1) (~~~h2) hk
def N4 (N:List Str)(vs:List V):St:=vs.map some++List.replicate (N.length-vs.length) none
def a1d (CX:CXT)(P:Program)(w:World)(K:ac)(mg:Str->Option Value)(base:Heap)(N:List Str)(qual:Str)(scope:Scope)(f:Addr)(cd:Value)(A:Around)(outer:List Env)(s:Shared)(H:Hp)(E:XK):Cx where
 prog:=P
 w:=w
 K:=K
 mg:=mg
 base:=base
 A:=A.deeper (envOfC qual scope s.heap.objs.size f cd)
 N:=N
 sv:=s
 Hz:=H
 env:=envOfC qual scope s.heap.objs.size f cd
 outer:=outer
 stack:=envOfC qual scope s.heap.objs.size f cd::outer
 ex:=[]
 calm:=true
 fn:=λ_=>true
 pn:=[]
 xe:=λe s'=>wpAny (model P w) (A.deeper (envOfC qual scope s.heap.objs.size f cd)) (leaving (envOfC qual scope s.heap.objs.size f cd) e) (λ_ s''=>CX outer H s E e s'') (λe' s''=>CX outer H s E e' s'') s'
theorem a4R {sc:Scope}{n:Nat}{x:Str}(h:sc.names.lookup x=some .cell):∃ c,(cellsFrom n sc.names []).lookup x=some c:=by
 have q:=fv sc.names n [] (.inl h);exact d0.mp q
theorem a2Y {CX:CXT}{P:Program}{w:World}{K:ac}{mg:Str->Option Value}{base:Heap}{N ps:List Str}{qual:Str}{scope:Scope}{f:Addr}{cd:Value}{A:Around}{outer:List Env}{s s1:Shared}{H:Hp}{E:XK}{us:List Value}{vs:List V}
  (S:B8 N ps scope) (hd:A.handled=none) (e0:a2k P w K mg base A outer s H) (hl:vs.length=ps.length) (r:C9 vs us)
  (x:InCallC s s.heap.objs.size (bindL (envOfC qual scope s.heap.objs.size f cd).kindOf (ps.zip us) λ_=>none) (cellsFrom (s.heap.objs.size+1) scope.names []) (bindC (envOfC qual scope s.heap.objs.size f cd).kindOf (ps.zip us) λ_=>none) s1) :
  Inv (a1d CX P w K mg base N qual scope f cd A outer s H E) [] (N4 N vs) H s1:=by
 have hpl:ps.length<=N.length:=by have:=congrArg fH S.pre;rw[bn] at this;omega
 obtain⟨h1,tk,rfl,hk⟩:=x.done;have noA:∀ b:Addr,b∉(a1d CX P w K mg base N qual scope f cd A outer s H E).ex:=λb z=>absurd (show b∈([]:List Addr) from z) (by simp)
 refine⟨⟨e0.mod,S.kind,rfl,rfl,ao _,λy z c h1 h2=>?_,λy hy=>?_,λy c _ h=>?_,λ_=>hd,iS e0.frames,.inr ⟨rfl,rfl⟩,λb z=>absurd z (noA b),e0.bs,e0.bsz,λb _ _=>noA b,λb z=>absurd z (noA b),e0.funs,e0.frf⟩,
  rfl,e0.bare,Un.kept hk,⟨_,x.toInCall.ns,λi y v h1 h2 h3=>?_⟩,λy c h=>⟨_,x.cell y c h⟩,e0.hok.fresh (ao _),λy c h=>?_,λp hp=>absurd (show p∈([]:List (Addr×Obj)) from hp) (by simp),e0.hok.kept hk,?_⟩
 ·exact name_of_addr x.apart (dZ h1) (dZ h2)
 ·have hy:scope.names.lookup y=some .cell\/scope.names.lookup y=some .free:=hy;rcases hy with hy | hy
  ·exact a4R hy
  ·exact absurd rfl (S.nofree _ (dZ hy))
 ·exact cz (x.above y c (dZ h))
 ·have hi:i<vs.length:=by
   unfold N4 at h2;by_cases hi:i<vs.length
   ·exact hi
   ·rw[cC (~~~hi)] at h2;rw[iM] at h2;split at h2<;>cases h2
  have ha:vs[i]?=some v:=by
   unfold N4 at h2;rw[dn (~~~hi),ah] at h2;cases e:vs[i]? with
   | none=>rw[e] at h2;cases h2
   | some a=>rw[e] at h2;cases h2;rfl
  obtain⟨u,hu,rv⟩:=r.get ha;have hp:ps[i]?=some y:=by
   rw[<- S.pre,iG ∅];exact h1
  have ndP:ps.Nodup:=by rw[<- S.pre];exact S.nd.sublist (jO _ _)
  refine⟨u,rv,?_⟩;rcases S.par y (aF hp) with k | k
  ·exact .inl ⟨k,a3l ndP hp hu k⟩
  ·obtain⟨c,e⟩:=a4R (n:=s.heap.objs.size+1) k;refine .inr ⟨.inl k,c,e,?_⟩;have q:=x.cell y c e;rw[a3n ndP hp hu (by show scope.names.lookup y≠_;rw[k];decide)] at q;exact q
 ·exact e0.hok.fresh (cz (x.above y c (dZ h)))
 ·unfold N4;show _=N.length;rw[aI,aa,eT];omega
theorem a9I {CX:CXT}{P:Program}{w:World}{K:ac}{mg:Str->Option Value}{base:Heap}{k:Nat}{f:Addr}{name qual:Str}{params:Arguments}{body:List Stmt}{scope:Scope}{dV kV doc pm cdv ct oc:Value}{an od:Option Addr}
  {osl:Array (Option Value)} {N ps:List Str} {sp:Sp} (lk:K.lookup f=some ⟨oc,od,.func (cj name qual params body scope dV kV doc pm an cdv ct),osl⟩) (hcd:du K cdv qual=true) (S:B8 N ps scope)
  (len:∀ vs H Q E,sp vs H Q E->vs.length=ps.length)
  (hbody:∀(A:Around) (outer:List Env) (s:Shared) (H:Hp) (vs:List V) (Q:VK) (E:XK),N3 k (A.deeper (envOfC qual scope s.heap.objs.size f cdv))->sp vs H Q E ->
   ∃ t,PSs (a1d CX P w K mg base N qual scope f cdv A outer s H E) body t/\t {nx:=λ_ H'=>Q .non H',rt:=Q} (N4 N vs) H) :
  C0 P w K mg base CX (k+1) f (cj name qual params body scope dV kV doc pm an cdv ct) ps sp:=by
 refine⟨len,λA outer s H args us vs Q E hr e0 hb r hsp=>?_⟩;have hl:=len _ _ _ _ hsp;have KX:K.In s.heap:=e0.mod.kin.keeps λb o e=>(e0.bs b o e).1
 have lim:s.heap.NoLimit:=e0.mod.nolimit.keeps λb o e=>(e0.bs b o e).1
 have hkind:∀ y∈ps.zip us,scope.names.lookup y.1=some .local\/(scope.names.lookup y.1=some .cell/\((cellsFrom (s.heap.objs.size+1) scope.names []).lookup y.1).isSome=true):=λ⟨n,v⟩ hy=>by
  rcases S.par n (fV hy).1 with q | q
  ·exact .inl q
  ·exact .inr ⟨q,fv _ _ _ (.inl q)⟩
 refine codeAny_call_function hr.depth (KX _ _ lk) rfl S.co S.gen rfl (iZ KX hcd) (hb _ _ _ _ ?_);refine iX S.kind hkind λenv he s1 x=>?_
 subst he;refine⟨lim.keeps x.toInCall.keep,codeAny_func ?_⟩;obtain⟨t,ht,hq⟩:=hbody A outer s H vs Q E (hr.deeper _) hsp;have I:Inv (a1d CX P w K mg base N qual scope f cdv A outer s H E) [] (N4 N vs) H s1:=a2Y S hr.hd e0 hl r x;refine bB (ht [] s1 (N4 N vs) H _ I hq) (λfl s' hs=>?_) λe s' hs=>hs
 have fin:∀ {σ':St} {H':Hp} {v:V} {u:Value},Inv (a1d CX P w K mg base N qual scope f cdv A outer s H E) [] σ' H' s'->D0 v u->Q v H'->CE outer P w H s Q u s' :=
  λ{σ' H' v u} J rv q=>⟨v,H',J.os,J.bare,J.base,J.hok,rv,q⟩
 cases fl with
 | ret u =>
  obtain⟨v,σ',H',J,rv,q⟩:=hs;exact fin J rv q
 | next =>
  obtain⟨σ',H',J,q⟩:=hs;exact fin (v:=V.non) (u:=cI) J rfl q
 | brk =>
  obtain⟨_,_,_,q⟩:=hs;exact bS q
 | cont =>
  obtain⟨_,_,_,q⟩:=hs;exact bS q
end L2
namespace L2
open PySem PySem.Spec PyProof.Rows
section
variable {X:Cx}{x:Str}{p pos:Pos}{e:Expr}{es:List Expr}{t:TA}{id T:String}{r:List V->Hp->VK->Prop}
def tCB (r:List V->Hp->VK->Prop)(t:TA):TE:=fun σ H Q=>t σ H λvs H1=>r vs H1 Q
theorem B0 (hc:J7 X (.builtin id) r)(hg:Gl X x)(hm:X.mg x=none)(hv:bootBuiltins x=some (.builtin id))(ha:PA X (e::es) t)(hn:x≠"__name__":=by decide)(hdb:(x == ("__debug__":Str))=false:=by decide)
  (he:starEach (e::es) X.env=(false,eval e X.env)::starEach es X.env:=by rfl) (hpl:(backTo pos (starEach es X.env)).any (·.1)=false:=by rfl):PE X (.Call (.Name x p) (e::es) [] pos) (tCB r t):=by
 intro pins s σ H Q I h;refine bR (S8 I hg hm hv ?_ hn hdb);exact gb (thn (ha pos pins s σ H _ I h) λus s1 ⟨vs,H1,I1,r1,q1⟩=>hc pins s1 σ H1 vs us Q I1 r1 q1) he hpl
theorem F0 (hc:J7 X (.type T) r)(hg:Gl X x)(hm:X.mg x=none)(hv:bootBuiltins x=some (.type T))(ha:PA X (e::es) t)(hn:x≠"__name__":=by decide)(hdb:(x == ("__debug__":Str))=false:=by decide)
  (he:starEach (e::es) X.env=(false,eval e X.env)::starEach es X.env:=by rfl) (hpl:(backTo pos (starEach es X.env)).any (·.1)=false:=by rfl):PE X (.Call (.Name x p) (e::es) [] pos) (tCB r t):=by
 intro pins s σ H Q I h;refine bR (S8 I hg hm hv ?_ hn hdb);exact bU (thn (ha pos pins s σ H _ I h) λus s1 ⟨vs,H1,I1,r1,q1⟩=>hc pins s1 σ H1 vs us Q I1 r1 q1) he hpl
end
end L2
namespace HT
open PySem PyProof.Rows
def lexLt:List Int->List Int->Bool
 | [],[]=>false
 | [],_::_=>true
 | _::_,[]=>false
 | x::xs,y::ys=>if x=y then lexLt xs ys else decide (x<y)
theorem lexLt_cons (x y:Int)(xs ys:List Int):lexLt (x::xs) (y::ys)=if x=y then lexLt xs ys else decide (x<y):=rfl
section
open PySem.SeqAt
open PySem.AutoSeq1 (wpAny_loadPart')
open PySem.MeetsSeq PySem.MeetsSeq2 PySem.MeetsSeq3
end
section
variable {prog:Program}{w:World}{A:Around}{E:Value->Shared->Prop}{s:Shared}
theorem cat_tup {t b:Addr}{vs ws:List Value}{Q:Value->Shared->Prop}(ht:IsTup s.heap t vs.toArray)(hb:IsTup s.heap b ws.toArray)(hv:vs≠[])
  (h1:ws=[]->Q (.ref t) s) (h2:ws≠[]->Q (.ref s.heap.objs.size) {s with heap:=s.heap.push {cls:=.type "tuple",data:=.seq (vs++ws).toArray}})
  (hsz:vs.length+ws.length<=sizeLine):wpAny (model prog w) A (binaryOp .Add (.ref t) (.ref b)) Q E s:=by
 obtain⟨⟨cls,dd,data,sl⟩,ho,hc,n,hd⟩:=id ht;obtain⟨⟨cls2,dd2,data2,sl2⟩,ho2,hc2,n2,hd2⟩:=id hb;simp only at hc hd hc2 hd2;subst hc hd hc2 hd2;have e:vs.toArray++ws.toArray=(vs++ws).toArray:=by simp
 by_cases hw:ws=[]
 ·exact ir ⟨_,ho,rfl⟩ ⟨_,ho2,rfl⟩ noFill_tuple_add gX ei d8 (dW _ _)
   (tuple_addW1 t b vs.toArray ws.toArray n n2 dd dd2 sl sl2 (~~~hv) (by simp[hw])) ⟨ho,ho2,h1 hw⟩
 ·refine ir ⟨_,ho,rfl⟩ ⟨_,ho2,rfl⟩ noFill_tuple_add gX ei d8 (dW _ _)
   (tuple_addW2 t b vs.toArray ws.toArray n n2 dd dd2 sl sl2 (~~~hv) (~~~hw) (by rw[aD,aD];exact hsz)) ⟨ho,ho2,?_⟩
  rw[e];exact h2 hw
def sIx (n d:Nat):Option Int->Nat
 | none=>d
 | some v=>if v<0 then (v+(n:Int)).toNat else min v.toNat n
theorem sIx_none (n d:Nat):sIx n d none=d:=rfl
theorem sIx_nat (n d k:Nat):sIx n d (some (k:Int))=min k n:=by
 show (if (k:Int)<0 then ((k:Int)+(n:Int)).toNat else min (k:Int).toNat n)=min k n;rw[if_neg ∅,bD]
end
end HT
namespace L2
open PySem PySem.Spec PyProof.Rows
abbrev TO:=St->Hp->(Option Int->Hp->Prop)->Prop
def PO (X:Cx)(e:Option Expr)(t:TO):Prop :=
 ∀(pins:List (Addr×Obj)) (s:Shared) (σ:St) (H:Hp) (Q:Option Int->Hp->Prop),Inv X pins σ H s->t σ H Q ->
  wpAny (model X.prog X.w) X.A (evalPart e X.env) (λu s'=>∃ o H',Inv X pins σ H' s'/\IsPart u o/\Q o H') X.xe s
def a5R:TO:=λ_ H Q=>Q none H
def b1F (t:TE):TO:=fun σ H Q=>t σ H λx H1=>∃ i,x=.int i/\Q (some i) H1
theorem P0 {ns:List Int}:∀ {us:List Value},C9 (ns.map V.int) us->IntsAre us ns:=by
 induction ns with
 | nil=>intro us r;rw[ce] at r;cases r;exact .nil
 | cons n ns ih =>
  intro us r;rw[aA] at r;cases r with
  | cons r1 r2 =>
   obtain⟨t,e⟩:=r1;subst e;exact .cons n t (ih r2)
section
variable {X:Cx}{e:Expr}{te:TE}{lo hi:Option Expr}{tl th:TO}{pos p2:Pos}
theorem a6u:PO X none a5R:=by
 intro pins s σ H Q I h;rw[evalPart_none];exact ag ⟨none,H,I,.none,h⟩
theorem a6t (h:PE X e te):PO X (some e) (b1F te):=by
 intro pins s σ H Q I hw;rw[evalPart_some];refine thn (h pins s σ H _ I hw) λu s1 ⟨x,H1,I1,r1,q1⟩=>?_
 obtain⟨i,rfl,q⟩:=q1;obtain⟨t,rfl⟩:=r1;exact⟨some i,H1,I1,.int i t,q⟩
def SlR (X:Cx)(r:V->Option Int->Option Int->Hp->VK->Prop):Prop :=
 ∀(pins:List (Addr×Obj)) (s:Shared) (σ:St) (H:Hp) (x:V) (v vl vu:Value) (lo hi:Option Int) (sl:Addr) (Q:VK),Inv X pins σ H s->D0 x v->s.heap.IsSliceOf sl vl vu .none->IsPart vl lo->IsPart vu hi->r x lo hi H Q ->
  ∃ T id,typeLookup (.type T) "__getitem__"=pure (some (.builtin id))/\s.TypeIs v T/\wpAny (model X.prog X.w) X.A (getItem v (.ref sl)) (EP X pins σ Q) X.xe s
theorem SlR.or {r r':V->Option Int->Option Int->Hp->VK->Prop}(h:SlR X r)(h':SlR X r'):SlR X (λx lo hi H Q=>r x lo hi H Q\/r' x lo hi H Q):=by
 intro pins s σ H x v vl vu lo hi sl Q I rx hs pl pu q;rcases q with q | q
 ·exact h pins s σ H x v vl vu lo hi sl Q I rx hs pl pu q
 ·exact h' pins s σ H x v vl vu lo hi sl Q I rx hs pl pu q
def tSl (r:V->Option Int->Option Int->Hp->VK->Prop)(te:TE)(tl th:TO):TE:=fun σ H Q=>te σ H λx H1=>tl σ H1 λl H2=>th σ H2 λu H3=>r x l u H3 Q
theorem a4w {r:V->Option Int->Option Int->Hp->VK->Prop}(hr:SlR X r)(he:PE X e te)(hl:PO X lo tl)(hu:PO X hi th):PE X (.Subscript e (.Slice lo hi none p2) pos) (tSl r te tl th):=by
 intro pins s σ H Q I h;refine Subscript_ (thn (he pins s σ H _ I h) λv s1 ⟨x,H1,I1,r1,q1⟩=>?_);refine wpAny_Slice (thn (hl pins s1 σ H1 _ I1 q1) λvl s2 ⟨l,H2,I2,pl,q2⟩=>thn (hu pins s2 σ H2 _ I2 q2) λvu s3 ⟨u,H3,I3,pu,q3⟩=>?_);rw[evalPart_none];refine ag ?_;have I4:Inv X pins σ H3 {s3 with heap:=s3.heap.push {cls:=.type "slice",data:=.fields #[vl,vu,.none]}}:=I3.kept (t':=s3.toks) λb ob q=>af _ q
 obtain⟨T,id,hT,ht,hg⟩:=hr pins {s3 with heap:=s3.heap.push {cls:=.type "slice",data:=.fields #[vl,vu,.none]}} σ H3 x v vl vu l u s3.heap.objs.size Q I4 r1 (Heap.IsSliceOf.new ..) pl pu q3;show wpAny (model X.prog X.w) X.A (subscriptTail e (.Slice lo hi none p2) v (.ref s3.heap.objs.size)) (EP X pins σ Q) X.xe {s3 with heap:=s3.heap.push {cls:=.type "slice",data:=.fields #[vl,vu,.none]}};exact tail_any (ops:=[.ref s3.heap.objs.size,v]) ht hT hg (by with_unfolding_all rfl)
def a1e (xs:List V)(lo hi:Option Int):List V:=(xs.drop (HT.sIx xs.length 0 lo)).take (HT.sIx xs.length xs.length hi-HT.sIx xs.length 0 lo)
theorem a4P (xs:List V)(lo hi:Option Int):(a1e xs lo hi).length<=xs.length:=by
 unfold a1e;rw[bn,List.length_drop];omega
theorem C9.nil_iff {xs:List V}{us:List Value}(r:C9 xs us):us=[]↔xs=[]:=by
 cases r with
 | nil=>simp
 | cons _ _=>simp
end
end L2
namespace L2
open PySem PySem.Spec PyProof.Rows
def ixN (n:Nat)(i:Int):Option Nat:=if 0<=i then (if i<n then some i.toNat else none) else if -(n:Int)<=i then some (i+n).toNat else none
def atI {α:Type}(xs:List α)(i:Int):Option α:=(ixN xs.length i).bind λj=>xs[j]?
theorem a6L {n:Nat}{i:Int}{j:Nat}(h:ixN n i=some j):seqIndex? i n=some j/\j<n/\-(n:Int)<=i/\i<n:=by
 unfold ixN at h;by_cases h0:0<=i
 ·rw[if_pos h0] at h;by_cases h1:i<n
  ·rw[if_pos h1] at h;have e:i.toNat=j:=ak h;exact⟨by rw[seqIndex_of h0 h1,e],∅,∅,h1⟩
  ·rw[if_neg h1] at h;cases h
 ·rw[if_neg h0] at h;by_cases h1:-(n:Int)<=i
  ·rw[if_pos h1] at h;have e:(i+n).toNat=j:=ak h;exact⟨by rw[seqIndex_neg ∅ h1,e],∅,h1,∅⟩
  ·rw[if_neg h1] at h;cases h
theorem a6Q {α:Type}{xs:List α}{i:Int}{v:α}(h:atI xs i=some v):∃ j,seqIndex? i xs.length=some j/\xs[j]?=some v/\j<xs.length/\-(xs.length:Int)<=i/\i<xs.length:=by
 unfold atI at h;cases e:ixN xs.length i with
 | none=>rw[e] at h;cases h
 | some j =>
  rw[e] at h;obtain⟨h1,h2,h3,h4⟩:=a6L e;exact⟨j,h1,h,h2,h3,h4⟩
theorem T0 {α:Type}{xs:List α}{j:Nat}{v:α}(h:xs[j]?=some v):atI xs (j:Int)=some v:=by
 have hj:j<xs.length:=(ai.mp h).1;have e:ixN xs.length (j:Int)=some j:=by
  unfold ixN;rw[if_pos ∅,if_pos ∅];simp
 unfold atI;rw[e];exact h
def b1A (b:Expr):Prop:=∀ o i,subscripted b false o i=operate [o,i] (getItem o i)
def IxR (X:Cx)(r:R2):Prop :=
 ∀(value slice:Expr) (pins:List (Addr×Obj)) (s:Shared) (σ:St) (H:Hp) (x y:V) (v u:Value) (Q:VK),Inv X pins σ H s->D0 x v->D0 y u->r x y H Q ->
  subscripted slice false v u=operate [v,u] (getItem v u)->wpAny (model X.prog X.w) X.A (subscriptTail value slice v u) (EP X pins σ Q) X.xe s
def MtR (X:Cx)(id:String)(r:V->List V->Hp->VK->Prop):Prop :=
 ∀(pins:List (Addr×Obj)) (s:Shared) (σ:St) (H:Hp) (x:V) (xs:List V) (v:Value) (us:List Value) (Q:VK),Inv X pins σ H s->D0 x v->C9 xs us->r x xs H Q ->
  wpAny (model X.prog X.w) X.A (call (.builtin id) (v::us)) (EP X pins σ Q) X.xe s
section
variable {X:Cx}{a b:Expr}{ta tb:TE}{pos:Pos}
theorem IxR.or {r r':R2}(h:IxR X r)(h':IxR X r'):IxR X (λx y H Q=>r x y H Q\/r' x y H Q):=by
 intro value slice pins s σ H x y v u Q I rx ry q hs;rcases q with q | q
 ·exact h value slice pins s σ H x y v u Q I rx ry q hs
 ·exact h' value slice pins s σ H x y v u Q I rx ry q hs
theorem MtR.or {id:String}{r r':V->List V->Hp->VK->Prop}(h:MtR X id r)(h':MtR X id r'):MtR X id (λx xs H Q=>r x xs H Q\/r' x xs H Q):=by
 intro pins s σ H x xs v us Q I rx rs q;rcases q with q | q
 ·exact h pins s σ H x xs v us Q I rx rs q
 ·exact h' pins s σ H x xs v us Q I rx rs q
theorem a6w {r:R2}(hr:IxR X r)(ha:PE X a ta)(hb:PE X b tb)(hs:b1A b):PE X (.Subscript a b pos) (tOp r ta tb):=by
 intro pins s σ H Q I h;exact Subscript_ (b3K ha hb I h λv u s2 x y H2 I2 rx ry q=>hr a b pins s2 σ H2 x y v u Q I2 rx ry q (hs _ _))
def b0r (K:ac):R2:=λx y H Q=>∃ p xs i v,x=.ref p/\y=.int i/\SqL K H p xs/\atI xs i=some v/\Q v H
def b0q (K:ac):R2:=λx y H Q=>∃ p xs i v,x=.ref p/\y=.int i/\SqT K H p xs/\atI xs i=some v/\Q v H
theorem a6J:IxR X (b0r X.K):=by
 intro value slice pins s σ H x y v u Q I rx ry h hs;obtain⟨p,xs,i,z,rfl,rfl,hq,he,q⟩:=h;cases rx;obtain⟨t,rfl⟩:=ry;obtain⟨its,r,pl,hz⟩:=I.list hq;obtain⟨j,h1,h2,h3,h4,h5⟩:=a6Q he;obtain⟨w,ew,rw'⟩:=r.get h2;have hl:=r.length;have hn:=a0N;have fin:EP X pins σ Q w s:=⟨z,H,I,rw',q⟩
 by_cases h0:0<=i
 ·have hj:i.toNat=j:=by
   rw[seqIndex_of h0 h5] at h1;exact ak h1
  exact item_listR pl.isList h0 ∅ (by rw[hj];simpa using ew) fin hs
 ·have hj:(i+(its.toArray.size:Int)).toNat=j:=by
   rw[seqIndex_neg ∅ h4] at h1;rw[aD,<- hl];exact ak h1
  exact subscriptTail_builtinR (x:=w) pl.isList.typeIs kh.lookup
   (wpAny_getItem_list_neg (Q:=λr s'=>r=w/\EP X pins σ Q r s') pl.isList ∅ (by rw[aD]<;>omega) ∅ (by rw[hj];simpa using ew) ⟨rfl,fin⟩) hs
theorem a9r:IxR X (b0q X.K):=by
 intro value slice pins s σ H x y v u Q I rx ry h hs;obtain⟨p,xs,i,z,rfl,rfl,hq,he,q⟩:=h;cases rx;obtain⟨t,rfl⟩:=ry;obtain⟨its,r,pl,hz⟩:=I.tuple hq;obtain⟨j,h1,h2,h3,h4,h5⟩:=a6Q he;obtain⟨w,ew,rw'⟩:=r.get h2;have hl:=r.length;have hn:=a0N;have fin:EP X pins σ Q w s:=⟨z,H,I,rw',q⟩
 exact subscriptTail_builtinR (x:=w) pl.typeIs slot_tuple_getitem.lookup
  (getItem_tuple (j:=j) (Q:=λr s'=>r=w/\EP X pins σ Q r s') pl ∅ ∅ (by rw[aD,<- hl];exact h1) (~~~ew) ⟨rfl,fin⟩) hs
theorem a5z (its:List Value)(n j:Nat)(u:Value):Obj.mapSeq (·.setIfInBounds j u) {cls:=.type "list",data:=.seq its.toArray n}={cls:=.type "list",data:=.seq (its.set j u).toArray n}:=by
 simp[Obj.mapSeq]
theorem Inv.lst {pins:List (Addr×Obj)}{σ:St}{H:Hp}{s:Shared}{p:Addr}{xs:List V}(I:Inv X pins σ H s)(h:H p=some (.lst xs)) :
  ∃(its:List Value) (n:Nat),C9 xs its/\s.heap.get? p=some {cls:=.type "list",data:=.seq its.toArray n}/\xs.length<=sizeLine:=by
 obtain⟨z,its,n,r,e⟩:=I.hok p _ h;exact⟨its,n,r,e,z⟩
theorem Inv.lstUpd {pins:List (Addr×Obj)}{σ:St}{H:Hp}{s:Shared}{p:Addr}{xs ys:List V}{its its':List Value}{n n':Nat}{f:Obj->Obj}(I:Inv X pins σ H s)(h:H p=some (.lst xs))
  (ho:s.heap.get? p=some {cls:=.type "list",data:=.seq its.toArray n}) (hf:f {cls:=.type "list",data:=.seq its.toArray n}={cls:=.type "list",data:=.seq its'.toArray n'}) (r:C9 ys its') (hz:ys.length<=sizeLine) (t:Nat) :
  Inv X pins σ (upd H p (.lst ys)) {s with heap:=s.heap.update p f,toks:=t}:=by
 have e:(s.heap.update p f).get? p=some {cls:=.type "list",data:=.seq its'.toArray n'}:=by
  rw[dg f ho (by rw[hf]<;>rfl),hf]
 refine I.write (x:=p) (e:=p) (by rw[h];trivial) (.inl rfl) (λb u hb q=>(fP _ _ (dN hb)).trans q) ⟨_,e⟩ ?_;exact⟨hz,its',n',r,e⟩
def b1P:V->V->V->Hp->(Hp->Prop)->Prop:=λo i v H Q=>∃ p xs k j,o=.ref p/\i=.int k/\H p=some (.lst xs)/\ixN xs.length k=some j/\Q (upd H p (.lst (xs.set j v)))
theorem a4d:b3O X b1P:=by
 intro pins s σ H o i v ov iv u Q I ro ri rv h;obtain⟨p,xs,k,j,rfl,rfl,hp,hj,q⟩:=h;cases ro;obtain⟨t,rfl⟩:=ri;obtain⟨its,n,r,ho,hz⟩:=I.lst hp;obtain⟨h1,h2,h3,h4⟩:=a6L hj;have hl:=r.length;have hn:=a0N;have I':Inv X pins σ (upd H p (.lst (xs.set j v))) {s with heap:=s.heap.update p (Obj.mapSeq (·.setIfInBounds j u))} :=
  I.lstUpd hp ho (a5z its n j u) (r.set rv j) (by rw[eu];exact hz) s.toks
 by_cases h0:0<=k
 ·have hk:k.toNat=j:=by
   rw[seqIndex_of h0 h4] at h1;exact ak h1
  exact PySem.W.ki_setAt ho h0 ∅ (by rw[aD,<- hl];exact h4) (by rw[hk];exact⟨_,I',q⟩)
 ·have hk:(k+(its.toArray.size:Int)).toNat=j:=by
   rw[seqIndex_neg ∅ h3] at h1;rw[aD,<- hl];exact ak h1
  exact PySem.W.ki_setBack ho ∅ (by rw[aD,<- hl];exact h3) ∅ (by rw[hk];exact⟨_,I',q⟩)
theorem a3t (lo hi:Option Int)(n:Nat):(sliceBounds lo hi none n).1=((HT.sIx n 0 lo:Nat):Int)/\(sliceBounds lo hi none n).2.1=((HT.sIx n n hi:Nat):Int)/\(sliceBounds lo hi none n).2.2=1:=by
 refine⟨?_,?_,rfl⟩
 ·cases lo with
  | none=>simp[sliceBounds,HT.sIx]
  | some i =>
   simp only[sliceBounds,HT.sIx,Option.getD_none,show (1:Int)>0 by decide,if_true];by_cases h:i<0
   ·simp only[h,if_true]<;>omega
   ·simp only[h,if_false]<;>omega
 ·cases hi with
  | none=>simp[sliceBounds,HT.sIx]
  | some i =>
   simp only[sliceBounds,HT.sIx,Option.getD_none,show (1:Int)>0 by decide,if_true];by_cases h:i<0
   ·simp only[h,if_true]<;>omega
   ·simp only[h,if_false]<;>omega
theorem a2m (its:List Value)(lo hi:Option Int):slicePick its.toArray lo hi none=((its.drop (HT.sIx its.length 0 lo)).take (HT.sIx its.length its.length hi-HT.sIx its.length 0 lo)).toArray:=by
 obtain⟨h1,h2,h3⟩:=a3t lo hi its.toArray.size;unfold slicePick;rw[h1,h2,h3];simp only[sliceRange_one,pick_run,aD]<;>rfl
def b4v (K:ac):V->Option Int->Option Int->Hp->VK->Prop:=λx lo hi H Q=>∃ a xs,x=.ref a/\SqL K H a xs/\∀ p,H p=none->Q (.ref p) (upd H p (.lst (a1e xs lo hi)))
theorem b0n:SlR X (b4v X.K):=by
 intro pins s σ H x v vl vu lo hi sl Q I rx hs pl pu h;obtain⟨a,xs,rfl,hx,q⟩:=h;cases rx;obtain⟨its,r,ht,hz⟩:=I.list hx;have hlen:=r.length;refine⟨"list",_,kh.lookup,ht.isList.typeIs,?_⟩;refine wpAny_getItem_list_slice ht.isList hs pl pu .none (by simp) ?_ (by rw[aD]<;>omega);rw[a2m,<- hlen];refine⟨.ref s.heap.objs.size,_,I.laid (t':=s.toks) (o:=.lst (a1e xs lo hi)) (λb ob q=>af _ q) (ao _) ?_,rfl,q _ (I.hok.fresh (ao _))⟩;exact⟨aV (a4P xs lo hi) hz,_,0,(r.drop (HT.sIx xs.length 0 lo)).take (HT.sIx xs.length xs.length hi-HT.sIx xs.length 0 lo),au _ rfl⟩
def a0z:V->Bool
 | .non=>true
 | .bl _=>true
 | .int _=>true
 | .str _=>true
 | _=>false
def eqV:V->V->Bool
 | .non,.non=>true
 | .bl a,.bl b=>a == b
 | .bl a,.int b=>(if a then 1 else 0) == b
 | .int a,.bl b=>a == (if b then 1 else 0)
 | .int a,.int b=>a == b
 | .str a,.str b=>a == b
 | _,_=>false
theorem b3w {A:Around}{s:Shared}{y x:V}{u v:Value}(ry:D0 y u)(rx:D0 x v)(fy:a0z y=true)(fx:a0z x=true):SeqAt.EqAt A s u v (eqV y x):=by
 cases y with
 | non =>
  cases ry;cases x with
  | non=>cases rx;exact SeqAt.EqAt.same _
  | bl b=>cases rx;exact SeqAt.EqAt.none_bool b
  | int b=>obtain⟨t,rfl⟩:=rx;exact SeqAt.EqAt.none_int b t
  | str b=>obtain⟨t,rfl⟩:=rx;exact SeqAt.EqAt.none_str b t
  | _=>exact absurd (show false=true from fx) aP
 | bl a =>
  cases ry;cases x with
  | non=>cases rx;exact SeqAt.EqAt.bool_none a
  | bl b=>cases rx;exact SeqAt.EqAt.bool_bool a b
  | int b=>obtain⟨t,rfl⟩:=rx;exact SeqAt.EqAt.bool_int a b t
  | str b=>obtain⟨t,rfl⟩:=rx;exact SeqAt.EqAt.bool_str a b t
  | _=>exact absurd (show false=true from fx) aP
 | int a =>
  obtain⟨t',rfl⟩:=ry;cases x with
  | non=>cases rx;exact SeqAt.EqAt.int_none a t'
  | bl b=>cases rx;exact SeqAt.EqAt.int_bool a t' b
  | int b=>obtain⟨t,rfl⟩:=rx;exact SeqAt.EqAt.int_int a t' b t
  | str b=>obtain⟨t,rfl⟩:=rx;exact iB a t' b t
  | _=>exact absurd (show false=true from fx) aP
 | str a =>
  obtain⟨t',rfl⟩:=ry;cases x with
  | non=>cases rx;exact SeqAt.EqAt.str_none a t'
  | bl b=>cases rx;exact SeqAt.EqAt.str_bool a t' b
  | int b=>obtain⟨t,rfl⟩:=rx;exact iA a t' b t
  | str b=>obtain⟨t,rfl⟩:=rx;exact SeqAt.EqAt.str_str a t' b t
  | _=>exact absurd (show false=true from fx) aP
 | _=>exact absurd (show false=true from fy) aP
def eqU (x:V)(u:Value):Bool:=match u with
 | .none=>eqV .non x
 | .bool b=>eqV (.bl b) x
 | .int i _=>eqV (.int i) x
 | .str z _=>eqV (.str z) x
 | _=>false
theorem a9K {x y:V}{u:Value}(r:D0 y u)(f:a0z y=true):eqU x u=eqV y x:=by
 cases y with
 | non=>cases r;rfl
 | bl b=>cases r;rfl
 | int i=>obtain⟨t,rfl⟩:=r;rfl
 | str z=>obtain⟨t,rfl⟩:=r;rfl
 | _=>exact absurd (show false=true from f) aP
theorem a0B {x:V}:∀ {xs:List V} {us:List Value},C9 xs us->xs.all a0z=true->us.any (eqU x)=xs.any λy=>eqV y x
 | _,_,.nil,_=>rfl
 | y::xs,u::us,.cons r t,f=>by
  rw[gD,df] at f;rw[dD,dD,a9K r f.1,a0B t f.2]
theorem X9 {A:Around}{s:Shared}{x:V}{v:Value}(rx:D0 x v)(fx:a0z x=true):∀ {xs:List V} {us:List Value},C9 xs us->xs.all a0z=true->∀ u∈us,SeqAt.EqAt A s u v (eqU x u)
 | _,_,.nil,_=>λu hu=>by cases hu
 | y::xs,u::us,.cons r t,f=>λu' hu=>by
  rw[gD,df] at f;rcases aL.mp hu with rfl | hu
  ·rw[a9K r f.1];exact b3w r rx f.1 fx
  ·exact X9 rx fx t f.2 u' hu
def inV (x:V)(xs:List V):Bool:=xs.any λy=>eqV y x
def rIn (K:ac)(neg:Bool):R2:=λx y H Q=>∃ p xs,y=.ref p/\(SqL K H p xs\/SqT K H p xs)/\a0z x=true/\xs.all a0z=true/\Q (.bl (if neg then !inV x xs else inV x xs)) H
theorem a7a:OpR X (compareOp .In) (rIn X.K false):=by
 intro pins s σ H x y v u Q I rx ry h;obtain⟨p,xs,rfl,hq,fx,fs,q⟩:=h;cases ry;rcases hq with hq | hq
 ·obtain⟨its,r,pl,hz⟩:=I.list hq;refine SeqAt.in_listAt (eqU x) pl.isList (λw hw=>X9 rx fx r fs w (~~~hw)) ⟨.bl _,H,I,rfl,?_⟩;rw[show its.toArray.any (eqU x)=its.any (eqU x) by simp,a0B r fs];exact q
 ·obtain⟨its,r,pl,hz⟩:=I.tuple hq;refine SeqAt.in_tupleAt (eqU x) pl (λw hw=>X9 rx fx r fs w (~~~hw)) ⟨.bl _,H,I,rfl,?_⟩;rw[show its.toArray.any (eqU x)=its.any (eqU x) by simp,a0B r fs];exact q
theorem a3z:OpR X (compareOp .NotIn) (rIn X.K true):=by
 intro pins s σ H x y v u Q I rx ry h;obtain⟨p,xs,rfl,hq,fx,fs,q⟩:=h;cases ry;rcases hq with hq | hq
 ·obtain⟨its,r,pl,hz⟩:=I.list hq;refine SeqAt.notIn_listAt (eqU x) pl.isList (λw hw=>X9 rx fx r fs w (~~~hw)) ⟨.bl _,H,I,rfl,?_⟩;rw[show its.toArray.any (eqU x)=its.any (eqU x) by simp,a0B r fs];exact q
 ·obtain⟨its,r,pl,hz⟩:=I.tuple hq;refine SeqAt.notIn_tupleAt (eqU x) pl (λw hw=>X9 rx fx r fs w (~~~hw)) ⟨.bl _,H,I,rfl,?_⟩;rw[show its.toArray.any (eqU x)=its.any (eqU x) by simp,a0B r fs];exact q
theorem a3H:J7 X (.builtin "len") (λxs H Q=>∃ p ys,xs=[.ref p]/\(SqL X.K H p ys\/SqT X.K H p ys)/\Q (.int ys.length) H):=by
 intro pins s σ H xs us Q I r h;obtain⟨p,ys,rfl,hq,q⟩:=h;obtain⟨u,rfl,rx⟩:=Q3 r;cases rx;have hn:=a0N;rcases hq with hq | hq
 ·obtain⟨its,r',pl,hz⟩:=I.list hq;have hlen:=r'.length;exact Calls.call_len_list pl.isList (by simp only[aD]<;>omega) ⟨.int ys.length,H,I.tok _,⟨s.toks+1,by rw[aD,hlen]⟩,q⟩
 ·obtain⟨its,r',pl,hz⟩:=I.tuple hq;have hlen:=r'.length;exact len_tuple pl (by simp only[aD]<;>omega) ⟨.int ys.length,H,I.tok _,⟨s.toks+1,by rw[aD,hlen]⟩,q⟩
theorem J7.or {f:Value}{r r':List V->Hp->VK->Prop}(h:J7 X f r)(h':J7 X f r'):J7 X f (λxs H Q=>r xs H Q\/r' xs H Q):=by
 intro pins s σ H xs us Q I rs q;rcases q with q | q
 ·exact h pins s σ H xs us Q I rs q
 ·exact h' pins s σ H xs us Q I rs q
theorem a3G:J7 X (.type "list") (λxs H Q=>∃ p ys,xs=[.ref p]/\(SqL X.K H p ys\/SqT X.K H p ys)/\∀ l,H l=none->Q (.ref l) (upd H l (.lst ys))):=by
 intro pins s σ H xs us Q I r h;obtain⟨p,ys,rfl,hq,q⟩:=h;obtain⟨u,rfl,rx⟩:=Q3 r;cases rx;have fin:∀(its:List Value),C9 ys its->ys.length<=sizeLine->∀(h':Heap) (c':Nat),(∀ b o',s.heap.get? b=some o'->h'.get? b=some o') ->
   h'.get? s.heap.objs.size=some {cls:=.type "list",dict:=none,data:=.seq its.toArray c',slots:=#[]}->EP X pins σ Q (.ref s.heap.objs.size) {s with heap:=h'}:=λits r' hz h' c' kp e =>
  ⟨.ref s.heap.objs.size,_,I.laid (t':=s.toks) kp (ao _) (show K0 X.prog X.w _ h' _ (.lst ys) from ⟨hz,its,c',r',e⟩),rfl,q _ (I.hok.fresh (ao _))⟩
 rcases hq with hq | hq
 ·obtain⟨its,r',pl,hz⟩:=I.list hq;have hlen:=r'.length;obtain⟨o,ho,hc,n,hd⟩:=pl.isList;exact call_list_seq p (.inl rfl) ho hc hd (λh' c' kp e=>fin its r' hz h' c' kp e) (by simp only[aD]<;>omega)
 ·obtain⟨its,r',pl,hz⟩:=I.tuple hq;have hlen:=r'.length;obtain⟨o,ho,hc,n,hd⟩:=pl;exact call_list_seq p (.inr rfl) ho hc hd (λh' c' kp e=>fin its r' hz h' c' kp e) (by simp only[aD]<;>omega)
theorem a2p:J7 X (.type "tuple") (λxs H Q=>∃ p ys,xs=[.ref p]/\((SqL X.K H p ys/\∀ l,H l=none->Q (.ref l) (upd H l (.tup ys)))\/(SqT X.K H p ys/\Q (.ref p) H))):=by
 intro pins s σ H xs us Q I r h;obtain⟨p,ys,rfl,h⟩:=h;obtain⟨u,rfl,rx⟩:=Q3 r;cases rx;rcases h with ⟨hq,q⟩ | ⟨hq,q⟩
 ·obtain⟨its,r',pl,hz⟩:=I.list hq;have hlen:=r'.length;refine call_tuple_list pl.isList (λh' kp=>?_) (by simp only[aD]<;>omega);have I1:Inv X pins σ H {s with heap:=h'}:=I.kept (t':=s.toks) kp;have I2:Inv X pins σ (upd H h'.objs.size (.tup ys)) {s with heap:=h'.push {cls:=.type "tuple",data:=.seq its.toArray}} :=
   I1.laid (t':=s.toks) (λb o e=>af _ e) (ao _) (show K0 X.prog X.w _ _ _ (.tup ys) from ⟨hz,its,r',iU _ _⟩)
  exact⟨.ref h'.objs.size,_,I2,rfl,q _ (I1.hok.fresh (ao _))⟩
 ·obtain⟨its,r',pl,hz⟩:=I.tuple hq;exact call_tuple_same pl ⟨.ref p,H,I,rfl,q⟩
def tyV (K:ac)(T:String)(x:V)(H:Hp):Prop:=match x with
 | .str _=>T="str"
 | .int _=>T="int"
 | .ref p=>(T="list"/\∃ xs,SqL K H p xs)\/(T="tuple"/\∃ o,K.lookup p=some o/\o.cls=.type "tuple"/\o.dict=none) \/
   (T="dict"/\((∃ kvs,H p=some (.dK kvs))\/∃ kvs,H p=some (.dT kvs)))\/(T="set"/\∃ S n,H p=some (.set S n))
 | _=>False
theorem a7Z {pins:List (Addr×Obj)}{σ:St}{H:Hp}{s:Shared}{T:String}{x:V}{v:Value}(I:Inv X pins σ H s)(r:D0 x v)(ty:tyV X.K T x H) :
  s.TypeIs v T/\∀ a,v=.ref a->∃ ob,s.heap.get? a=some ob/\ob.dict=none:=by
 cases x with
 | str z =>
  obtain⟨t,rfl⟩:=r;cases (show T="str" from ty);exact⟨typeIs_str s z t,λ_ e=>nomatch e⟩
 | int i =>
  obtain⟨t,rfl⟩:=r;cases (show T="int" from ty);exact⟨typeIs_int s i t,λ_ e=>nomatch e⟩
 | ref p =>
  cases r;rcases ty with ⟨rfl,xs,hq⟩ | ⟨rfl,o,hk,hc,hd⟩ | ⟨rfl,hk⟩ | ⟨rfl,S,n,hk⟩
  ·obtain⟨its,_,pl,_⟩:=I.list hq;refine⟨pl.isList.typeIs,λa e=>?_⟩;cases e;obtain⟨o,n,e,c,hd,_⟩:=pl;exact⟨o,e,hd⟩
  ·refine⟨⟨o,I.kIn p o hk,hc⟩,λa e=>?_⟩;cases e;exact⟨o,I.kIn _ o hk,hd⟩
  ·have z:∃ o,s.heap.get? p=some o/\o.ExactDict:=by
    rcases hk with ⟨kvs,hk⟩ | ⟨kvs,hk⟩
    ·obtain⟨_,_,_,_,o,_,_,e,ex,_⟩:=I.hok p _ hk;exact⟨o,e,ex⟩
    ·obtain⟨_,_,_,_,o,_,_,e,ex,_⟩:=I.hok p _ hk;exact⟨o,e,ex⟩
   obtain⟨o,e,ex⟩:=z;refine⟨⟨o,e,ex.1⟩,λa e2=>?_⟩;cases e2;exact⟨o,e,ex.2.1⟩
  ·obtain⟨o,_,_,_,e,ex,_⟩:=I.hok p _ hk;refine⟨⟨o,e,ex.1⟩,λa e2=>?_⟩;cases e2;exact⟨o,e,ex.2.1⟩
 | _=>exact bS ty
def b2p (K:ac)(T:String)(r:V->List V->Hp->VK->Prop)(to:TE):TE:=fun σ H Q=>to σ H λx H1=>tyV K T x H1/\r x [] H1 Q
def tBM (K:ac)(T:String)(r:V->List V->Hp->VK->Prop)(to:TE)(t:TA):TE:=fun σ H Q=>to σ H λx H1=>tyV K T x H1/\t σ H1 λxs H2=>r x xs H2 Q
variable {o e:Expr}{es:List Expr}{to:TE}{t:TA}{name:Str}{apos cpos:Pos}{T id:String}{r:V->List V->Hp->VK->Prop}
theorem b2D (pa:PlainAttrs T)(slot:Slot T name id)(hty:typeOf (.builtin id)=pure (.type "method_descriptor"))(hm:MtR X id r)(ho:PE X o to)
  (hbase:attributeBase o name X.env (eval o X.env)=eval o X.env:=by rfl) (hline:(apos.endLine == cpos.line)=true:=by rfl):PE X (.Call (.Attribute o name apos) [] [] cpos) (b2p X.K T r to):=by
 intro pins s σ H Q I h;refine wpAny_Call_method0_late hbase hline (thn (ho pins s σ H _ I h) λv s1 ⟨x,H1,I1,r1,ty,q1⟩=>?_);obtain⟨h1,h2⟩:=a7Z I1 r1 ty;exact⟨T,id,pa,slot,hty,h1,h2,iJ rfl (PySem.evalArgs_none (hm pins s1 σ H1 x [] v [] Q I1 r1 .nil q1))⟩
theorem b4z (pa:PlainAttrs T)(slot:Slot T name id)(hty:typeOf (.builtin id)=pure (.type "method_descriptor"))(hm:MtR X id r)(ho:PE X o to)(ha:PA X (e::es) t)
  (hbase:attributeBase o name X.env (eval o X.env)=eval o X.env:=by rfl)
  (hfew:((backTo cpos (starEach (e::es) X.env)).all (λx=>!x.1) && (backToKw cpos (keywordEach [] X.env)).all (λx=>x.1.isSome)
   && decide ((e::es).length+([]:List Keyword).length+(if ([]:List Keyword).isEmpty then 0 else 1)<30))=true:=by rfl)
  (hline:(apos.endLine == cpos.line)=true:=by rfl) (hs:starEach (e::es) X.env=(false,eval e X.env)::starEach es X.env:=by rfl) (hplain:(backTo cpos (starEach es X.env)).any (·.1)=false:=by rfl) :
  PE X (.Call (.Attribute o name apos) (e::es) [] cpos) (tBM X.K T r to t):=by
 intro pins s σ H Q I h;refine wpAny_Call_method_late hbase hfew hline rfl (thn (ho pins s σ H _ I h) λv s1 ⟨x,H1,I1,r1,ty,q1⟩=>?_);obtain⟨h1,h2⟩:=a7Z I1 r1 ty;refine⟨T,id,pa,slot,hty,h1,h2,?_⟩;have hA:=ha cpos pins s1 σ H1 _ I1 q1;rw[hs] at hA ⊢;refine iJ (by show (false || (backTo cpos (starEach es X.env)).any (·.1))=false;rw[hplain]<;>rfl) (Calls.evalArgs_plain ?_);exact thn hA λus s2 ⟨vs,H2,I2,r2,q2⟩=>hm pins s2 σ H2 x vs v us Q I2 r1 r2 q2
/- xs.append(e),list.index on a module's tuple .. are MtR facts of 06m -/
end
end L2
namespace L2
open PySem PySem.Spec PyProof.Rows
def MtM (X:Cx)(id:String)(r:V->List V->Hp->VK->Prop):Prop :=
 ∀(pins:List (Addr×Obj)) (s:Shared) (σ:St) (H:Hp) (x:V) (xs:List V) (v:Value) (us:List Value) (Q:VK),Inv X pins σ H s->D0 x v->C9 xs us->r x xs H Q ->
  wpAny (model X.prog X.w) X.A (call (.builtin id) (v::us)) (EP X pins σ Q) X.xe s
theorem C9.one:∀ {x:V} {us:List Value},C9 [x] us->∃ u,us=[u]/\D0 x u
 | _,_,.cons r .nil=>⟨_,rfl,r⟩
theorem C9.zero:∀ {us:List Value},C9 [] us->us=[]
 | _,.nil=>rfl
theorem C9.dropLast {xs:List V}{us:List Value}(h:C9 xs us):C9 xs.dropLast us.dropLast:=by
 induction h with
 | nil=>exact .nil
 | cons r t ih =>
  cases t with
  | nil=>exact .nil
  | cons q t'=>exact .cons r ih
theorem C9.eraseIdx:∀ {xs:List V} {us:List Value} (i:Nat),C9 xs us->C9 (xs.eraseIdx i) (us.eraseIdx i)
 | _,_,_,.nil=>.nil
 | _,_,0,.cons _ t=>t
 | _,_,i+1,.cons r t=>.cons r (C9.eraseIdx i t)
theorem C9.reverse {xs:List V}{us:List Value}(h:C9 xs us):C9 xs.reverse us.reverse:=by
 induction h with
 | nil=>exact .nil
 | cons r t ih=>rw[eM,eM];exact C9.append ih (.cons r .nil)
theorem C9.rep {xs:List V}{us:List Value}(h:C9 xs us):∀ k:Nat,C9 (List.replicate k xs).flatten (List.replicate k us).flatten
 | 0=>.nil
 | k+1=>by
  rw[dz,dz,fu,fu];exact C9.append h (C9.rep h k)
theorem a5I {α:Type}(l:List α):l.eraseIdx (l.length-1)=l.dropLast:=by
 induction l with
 | nil=>rfl
 | cons a r ih =>
  cases r with
  | nil=>rfl
  | cons b r =>
   have e:(a::b::r).length-1=((b::r).length-1)+1:=by
    have h1:(a::b::r).length=r.length+2:=rfl;have h2:(b::r).length=r.length+1:=rfl;omega
   rw[e,List.eraseIdx_cons_succ,ih];all_goals rfl
theorem a3b (its:List Value):∀(k:Nat) (acc:List Value),
  jQ (λx1 x2=>x1++x2) acc.toArray (List.replicate k its.toArray)=(acc++(List.replicate k its).flatten).toArray
 | 0,acc=>by simp
 | k+1,acc=>by
  have e:acc.toArray++its.toArray=(acc++its).toArray:=by simp
  have e2:(acc++its)++(List.replicate k its).flatten=acc++(List.replicate (k+1) its).flatten:=by
   rw[dz,fu,jR]
  rw[<- e2,<- a3b its k (acc++its),<- e,dz,hZ]
section
variable {X:Cx}{pins:List (Addr×Obj)}{σ:St}{H:Hp}{s:Shared}{l b:Addr}{xs ys zs:List V}
theorem Inv.lset {its its':List Value}{n:Nat}{f:Array Value->Array Value}{t':Nat}(I:Inv X pins σ H s)(hH:H l=some (.lst xs))
  (e:s.heap.get? l=some {cls:=.type "list",data:=.seq its.toArray n}) (hf:f its.toArray=its'.toArray) (hv:C9 ys its') (hz:ys.length<=sizeLine) :
  Inv X pins σ (upd H l (.lst ys)) {s with heap:=s.heap.update l (Obj.mapSeq f),toks:=t'}:=by
 have q:=PySem.IsL.update e f;rw[hf] at q;refine I.write (x:=l) (e:=l) (by rw[hH];exact trivial) (.inl rfl) (λb' u hb hu=>(fP s.heap (Obj.mapSeq f) (dN hb)).trans hu) ⟨_,q⟩ ?_;exact⟨hz,its',_,hv,q⟩
theorem Inv.lnew {its:List Value}{t':Nat}(I:Inv X pins σ H s)(hv:C9 ys its)(hz:ys.length<=sizeLine) :
  Inv X pins σ (upd H s.heap.objs.size (.lst ys)) {s with heap:=s.heap.push {cls:=.type "list",data:=.seq its.toArray},toks:=t'} :=
 I.laid (λ_ _ q=>af _ q) (ao _) ⟨hz,its,0,hv,au _ rfl⟩
theorem Inv.fresh (I:Inv X pins σ H s):H s.heap.objs.size=none:=I.hok.fresh (ao _)
theorem Inv.lstM (I:Inv X pins σ H s)(hH:H l=some (.lst xs)):xs.length<=sizeLine/\∃(its:List Value) (n:Nat),C9 xs its/\xs.length=its.length/\s.heap.get? l=some {cls:=.type "list",data:=.seq its.toArray n}:=by
 obtain⟨z,its,n,r,e⟩:=I.hok l _ hH;exact⟨z,its,n,r,r.length,e⟩
theorem a4z {n:Nat}(h:n<=sizeLine):Builtin.List.listTooLong n=false:=by
 unfold Builtin.List.listTooLong;exact decide_eq_false ∅
end
section
variable {X:Cx}
def a3v:V->List V->Hp->VK->Prop:=λx vs H Q=>∃ l xs y,x=.ref l/\vs=[y]/\H l=some (.lst xs)/\xs.length<sizeLine/\Q .non (upd H l (.lst (xs++[y])))
theorem a2S:MtM X "list.append" a3v:=by
 intro pins s σ H x vs v us Q I rx rv h;obtain⟨l,xs,y,rfl,rfl,hH,hz,q⟩:=h;cases rx;obtain⟨u,rfl,ru⟩:=rv.one;obtain⟨z,its,n,r,hl,e⟩:=I.lstM hH;refine ie F.slot_list_append ⟨_,e,rfl⟩ F.entry_list_append (F.args_list_append_2 _ _) (PySem.list_append l its.toArray n u (by rw[aD];omega)) ⟨e,?_⟩;refine⟨.non,_,I.lset (its':=its++[u]) hH e (by simp) (r.append (.cons ru .nil)) ?_,rfl,q⟩;rw[aI,bK];omega
def b0t:V->List V->Hp->VK->Prop:=λx vs H Q=>∃ l b xs zs,x=.ref l/\vs=[.ref b]/\H l=some (.lst xs)/\H b=some (.lst zs)/\xs.length+zs.length<=sizeLine/\Q .non (upd H l (.lst (xs++zs)))
theorem b3R:MtM X "list.extend" b0t:=by
 intro pins s σ H x vs v us Q I rx rv h;obtain⟨l,b,xs,zs,rfl,rfl,hH,hB,hz,q⟩:=h;cases rx;obtain⟨u,rfl,ru⟩:=rv.one;cases ru;obtain⟨z,its,n,r,hl,e⟩:=I.lstM hH;obtain⟨z2,its2,n2,r2,hl2,e2⟩:=I.lstM hB;have hsz:its.toArray.size+its2.toArray.size<=sizeLine:=by rw[aD,aD];omega
 have hlong:¬ (!its.toArray.isEmpty && Builtin.List.listTooLong (its.toArray.size+its2.toArray.size))=true:=by
  rw[a4z hsz,Bool.and_false];exact aP
 refine ie F.slot_list_extend ⟨_,e,rfl⟩ F.entry_list_extend (F.args_list_extend_2 _ _)
  (AutoSeq1.list_extend_list_list_0 l its.toArray n b its2.toArray n2 hlong (by rw[aD];omega) ∅) ⟨e,e2,?_⟩
 refine⟨.non,_,I.lset (its':=its++its2) hH e (by simp) (r.append r2) ?_,rfl,q⟩;rw[aI];omega
def b2u:V->List V->Hp->VK->Prop:=λx vs H Q=>∃ l xs y,x=.ref l/\vs=[]/\H l=some (.lst xs)/\xs[xs.length-1]?=some y/\Q y (upd H l (.lst xs.dropLast))
theorem b2S:MtM X "list.pop" b2u:=by
 intro pins s σ H x vs v us Q I rx rv h;obtain⟨l,xs,y,rfl,rfl,hH,hy,q⟩:=h;cases rx;have hus:=rv.zero;subst hus;obtain⟨z,its,n,r,hl,e⟩:=I.lstM hH;obtain⟨u,hu,ru⟩:=r.get hy;have hy':its.toArray[its.toArray.size-1]?=some u:=by
  show its.toArray[its.length-1]?=some u;rw[<- bP,<- hl];exact hu
 refine ie F.slot_list_pop ⟨_,e,rfl⟩ F.entry_list_pop (F.args_list_pop_1 _) (MeetsSeq.list_pop_last l its.toArray n u hy' (by rw[aD];omega)) ⟨e,?_⟩;refine⟨y,_,I.lset (its':=its.dropLast) hH e ?_ r.dropLast ?_,ru,q⟩
 ·show its.toArray.eraseIdxIfInBounds (its.toArray.size-1)=its.dropLast.toArray;rw[aD,List.eraseIdxIfInBounds_toArray,a5I]
 ·rw[js];omega
def b5x:R2:=λx y H Q=>∃ l b xs zs,x=.ref l/\y=.ref b/\H l=some (.lst xs)/\H b=some (.lst zs)/\xs.length+zs.length<=sizeLine/\∀ p,H p=none->Q (.ref p) (upd H p (.lst (xs++zs)))
theorem a1N:OpR X (binaryOp .Add) b5x:=by
 intro pins s σ H x y v u Q I rx ry h;obtain⟨l,b,xs,zs,rfl,rfl,hH,hB,hz,q⟩:=h;cases rx;cases ry;obtain⟨z,its,n,r,hl,e⟩:=I.lstM hH;obtain⟨z2,its2,n2,r2,hl2,e2⟩:=I.lstM hB;refine PySem.P.add_list e e2 ?_ (by rw[aD,aD];omega);have ea:its.toArray++its2.toArray=(its++its2).toArray:=by simp
 rw[ea];exact⟨.ref _,_,I.lnew (t':=s.toks) (r.append r2) (by rw[aI];omega),rfl,q _ I.fresh⟩
def b5t:R2:=λx y H Q=>∃ l k xs,x=.ref l/\y=.int k/\H l=some (.lst xs)/\-(2 ^ 63)<=k/\k<2 ^ 63/\xs.length*k.toNat<=sizeLine /\
 ∀ p,H p=none->Q (.ref p) (upd H p (.lst (List.replicate k.toNat xs).flatten))
theorem b1a {α:Type}(xs:List α)(k:Nat):(List.replicate k xs).flatten.length=k*xs.length:=by
 induction k with
 | zero=>simp
 | succ k ih=>rw[dz,fu,aI,ih,Nat.succ_mul,Nat.add_comm]
theorem b2H:OpR X (binaryOp .Mult) b5t:=by
 intro pins s σ H x y v u Q I rx ry h;obtain⟨l,k,xs,rfl,rfl,hH,h1,h2,hz,q⟩:=h;cases rx;obtain⟨t,rfl⟩:=ry;obtain⟨z,its,n,r,hl,e⟩:=I.lstM hH;have hlen:its.toArray.size*k.toNat<=sizeLine:=by rw[aD,<- hl];exact hz
 have hcap:¬ its.toArray.size*k.toNat>(2 ^ 63-1) / 8:=by
  have:(sizeLine:Nat)<=(2 ^ 63-1) / 8:=by decide
  omega
 have hfit:¬ (!Builtin.List.listFitsIndex k)=true:=by
  rw[fitsIndex_both h1 h2];exact aP
 have hlong:¬ Builtin.List.listTooLong (its.toArray.size*k.toNat)=true:=by
  rw[a4z hlen];exact aP
 have hnew:jQ (λx1 x2=>x1++x2) #[] (List.replicate (if its.toArray.isEmpty=true then 0 else k.toNat) its.toArray)=(List.replicate k.toNat its).flatten.toArray:=by
  have f0:∀ m:Nat,jQ (λx1 x2=>x1++x2) #[] (List.replicate m its.toArray)=(List.replicate m its).flatten.toArray:=λm=>by
   have:=a3b its m [];rw[cH] at this;exact this
  rw[f0];cases its with
  | nil=>simp
  | cons a r'=>rw[if_neg (by simp)]
 refine wpAny_binaryOp_repeat_ref (T:="list") (U:="int") (by decide) ⟨_,e,rfl⟩ (λs'=>typeIs_int s' k t) noFill_list_mul F.fills_int_mul F.slot_int_rmul repeat_list F.slot_int_index.lookup
  (ie F.slot_int_rmul (typeIs_int s k t) F.entry_int_rmul (F.args_int_rmul_2 _ _) (int___rmul___int_list k t l its.toArray n)
   ⟨e,rfl,⟨_,e,rfl⟩,ie F.slot_list_mul ⟨_,e,rfl⟩ F.entry_list_mul (F.args_list_mul_2 _ _) (AutoListH.list___mul___list_int_3 l its.toArray n k t hfit hcap hlong) ⟨e,?_⟩⟩)
 rw[hnew];exact⟨.ref _,_,I.lnew (t':=s.toks) (r.rep k.toNat) (by rw[b1a,Nat.mul_comm];exact hz),rfl,q _ I.fresh⟩
end
end L2
namespace Att
open PySem PySem.W PySem.Calls PyProof.Rows
theorem ints_of_wellAll {P:Params}{h:Heap}:∀(ns:List Int) (vs:List Value),WellAll P h vs (ns.map WData.int)->IntsAre vs ns:=by
 intro ns;induction ns with
 | nil =>
  intro vs w;rw[ce] at w;cases w;exact .nil
 | cons n ns ih =>
  intro vs w;rw[aA] at w;cases w with
  | cons a b =>
   cases a;exact .cons _ _ (ih _ b)
theorem script_of {l:OpenLaw}{n:Nat}(hn:l.most=some n){P:Params}{h:Heap}{args:List WData}{vals:List Value}
  (hpre:l.row.toRowW.claim.pre args=true) (hwl:WellAll P h vals args) :
  ∃ a vs ns,vals=[bw a]/\args=[WData.list (ns.map WData.int)]/\h.get? a=some {cls:=.type "list",data:=.seq vs.toArray}/\IntsAre vs ns/\ns.length<=n:=by
 have hsh:WShape.hasAll [] args [.list .int]=true:=(pre_splitW hpre).1;have hc:l.pre.holds [] {args:=args}=true:=(pre_splitW hpre).2;obtain⟨d,r,rfl,h1,h2⟩:=hasAllW_cons hsh;obtain rfl:=hasAllW_nil h2;obtain⟨xs,rfl,h3⟩:=hasW_list h1;obtain⟨ns,rfl⟩:=items_int h3;have hlen:ns.length<=n:=by
  unfold OpenLaw.pre at hc;have h4:(WTm.not (.lt (.lit (.int (n:Int))) (.len (.arg 0)))).holds [] {args:=[.list (ns.map .int)]}=true:=by
   have h4:=(holds_andW hc).1;rw[hn] at h4;exact h4
  have h5:=condW_of h4 (w_not (w_lt w_lit (w_len_list (w_arg rfl))));rw[aa] at h5;refine Nat.le_of_not_lt λq=>?_
  have q':(n:Int)<((ns.length:Nat):Int):=∅
  first
   | (rw[decide_eq_true q'] at h5;exact absurd h5 (by decide))
   | (simp at h5;omega)
 cases hwl with
 | cons w1 w2 =>
  cases w2;cases w1 with
  | list ho hall=>exact⟨_,_,ns,rfl,rfl,ho,ints_of_wellAll ns _ hall,hlen⟩
theorem post_true (l:OpenLaw)(args:List WData):l.row.toRowW.claim.post args (.bool true) args=true :=
 postW_of (r:=l.row.toRowW) (X:=(true == true))
  (show WShape.has [] (.bool true) .bool=true by first | rfl | decide | simp[WShape.has,WShape.arms,WShape.armsAll])
  (show (WTm.eq .res (.lit (.bool true))).value [] {args:=args,res:=some (.bool true),after:=args}=some (.bool (true == true)) from w_eq_bool (w_res rfl) w_lit) rfl
theorem attach_call {l:OpenLaw}{n:Nat}{q:Program}{loose:List Str}{XP:(Str->Option Value)->Heap->Prop}{YP:World->Heap->Prop}{d:DefRec}
  (hn:l.most=some n) (hdf:d.params.defaults=[])
  (call:∀(w:World) (sv sq:Shared) (mg mb:Str->Option Value) (fa:Addr) (o:Obj) (pm cd doc:Value) (a:Addr) (vs:List Value) (ns:List Int),
   Ground q loose [] XP w sv mg mb sq.heap->YP w sq.heap ->
   sq.heap.get? fa=some o->o.data=.func (docDef d.name d.params d.body d.scope pm cd doc)->sq.heap.CodeRec cd d.name->mg d.name=some (.ref fa) ->
   sq.heap.get? a=some {cls:=.type "list",data:=.seq vs.toArray}->IntsAre vs ns->ns.length<=n->sq.gens=#[] ->
   codeAny (model l.prog w) callerA (.call (.ref fa) ⟨[.ref a],[]⟩) (λr s'=>r=.ok (.ret (.bool true))/\OldK sq.heap s'.heap/\s'.os=sq.os/\AllBare s'.gens) sq) :
  WalkO q loose XP YP l.row.toRowW d [] (λf vs=>iu f vs):=by
 intro w sv sq mg mb G Y fa o pm cd doc dV kV ho hd hcd hD hmg hg args vals as hpre hlay hrd hwl hlo;obtain rfl:dV=.none:=Dflts.none hD hdf;obtain rfl:kV=.none:=Dflts.noKw hD;obtain⟨a,vs,ns,rfl,rfl,hobj,hints,hlen⟩:=script_of hn hpre hwl;refine enter_call (codeAny_mono (call w sv sq mg mb fa o pm cd doc a vs ns G Y ho (fd_plain hd) hcd hmg hobj hints hlen hg) λr s' hq=>?_);obtain⟨rfl,h2,h3,h4⟩:=hq;exact⟨.inl ⟨.bool true,.bool true,[],rfl,λ_=>rfl,.bool true,post_true l _,λ_=>⟨io,λ_ hm=>(nomatch hm)⟩⟩,h2,h3,h4⟩
end Att
namespace L2
open PySem PySem.Spec PyProof.Rows
theorem T1:∀ {vs:List Value} {ns:List Int},IntsAre vs ns->C9 (ns.map V.int) vs
 | _,_,.nil=>.nil
 | _,_,.cons n t h=>.cons ⟨t,rfl⟩ (T1 h)
def b3P (H:Hp):Prop:=∀ b,H b=none\/∃ o xs,H b=some (.frz o (.lst xs))
theorem a9n {P:Program}{w:World}{K:ac}{mg mb:Str->Option Value}{CX:CXT}{k:Nat}{fa a:Addr}{fd:FuncData}{x:Str}{sp:Sp}{sq:Shared}{vs:List Value}{ns:List Int}
  (KX:K.In sq.heap) (hns:sq.heap.Ns mainGlobals mg) (hb:sq.heap.Ns builtinsNs mb) (hbb:∀ x:Str,x≠"__name__"->mb x=bootBuiltins x) (hlim:sq.heap.NoLimit) (hg:sq.gens=#[])
  (ha:sq.heap.get? a=some {cls:=.type "list",data:=.seq vs.toArray}) (hi:IntsAre vs ns) (hl:ns.length<=sizeLine) (hr:N3 k callerA)
  (F:∀ base:Heap,K.In base->base.Ns mainGlobals mg->C0 P w K mg base CX k fa fd [x] sp) (hbind:∀(s:Shared) (u:Value),BindsTo s fd ⟨[u],[]⟩ [(x,u)])
  (hsp:∀ H:Hp,b3P H->SqL K H a (ns.map V.int)->sp [.ref a] H (λv _=>v=.bl true) λ_ _ _=>False)
  (hCX:∀ H e s',CX [] H sq (λ_ _ _=>False) e s'->False) :
  codeAny (model P w) callerA (.call (.ref fa) ⟨[.ref a],[]⟩) (λr s'=>r=.ok (.ret (.bool true))/\OldK sq.heap s'.heap/\s'.os=sq.os/\AllBare s'.gens) sq:=by
 have rv:=T1 hi;have lenV:=hi.length;have core:∀ H:Hp,b3P H->SqL K H a (ns.map V.int)->HOk P w H sq.heap->(∀ b,H b≠none->b=a)->(H a≠none->K.lookup a=none) ->
   codeAny (model P w) callerA (.call (.ref fa) ⟨[.ref a],[]⟩) (λr s'=>r=.ok (.ret (.bool true))/\OldK sq.heap s'.heap/\s'.os=sq.os/\AllBare s'.gens) sq:=by
  intro H hO hS hok hA hK;have base_of:∀ {b:Addr} {o:Obj},sq.heap.get? b=some o->H b=none->(a0e sq.heap H).get? b=some o:=λe n=>a4H e n
  have noA:∀ {b:Addr} {o:Obj} {es:Array DictEntry} {ep:Nat},sq.heap.get? b=some o->o.data=.dict es ep->H b=none:=λ{b o es ep} e d=>by
   cases q:H b with
   | none=>rfl
   | some u =>
    have e':b=a:=hA b (by rw[q];simp);subst e';rw[ha] at e;cases e;have d':Data.seq vs.toArray _=dX es ep:=d;cases d'
  have nsK:∀ {b:Addr} {m:Str->Option Value},sq.heap.Ns b m->(a0e sq.heap H).Ns b m:=λ{b m} ⟨o,es,ep,e,d,r⟩=>⟨o,es,ep,base_of e (noA e d),d,r⟩
  have hKb:K.In (a0e sq.heap H):=λb o e=>base_of (KX b o e) (by
   cases q:H b with
   | none=>rfl
   | some u =>
    have e':b=a:=hA b (by rw[q];simp);subst e'
    rw[hK (by rw[q];simp)] at e;cases e)
  have hM:Mod K mg (a0e sq.heap H):=⟨hKb,nsK hns,⟨mb,nsK hb,hbb⟩,let ⟨mc,h1,h2⟩:=hlim;⟨mc,nsK h1,h2⟩⟩
  have e0:a2k P w K mg (a0e sq.heap H) callerA [] sq H:=⟨rfl,hM,λb o e=>a6C e,dy (a3a _ _),trivial,λb hb=>absurd (show b∈([]:List Addr) from hb) (by simp),hok,.of_eq hg⟩
  refine codeAny_mono ((F _ hKb (nsK hns)).run callerA [] sq H ⟨[.ref a],[]⟩ [.ref a] [.ref a] _ _ hr e0 (hbind sq (.ref a)) (.cons rfl .nil) (hsp H hO hS)) λr s' h=>?_
  cases r with
  | error e=>exact (hCX H e s' h).elim
  | ok fl =>
   cases fl with
   | next=>exact bS h
   | brk=>exact bS h
   | cont=>exact bS h
   | ret u =>
    obtain⟨v,H',os,bare,un,hok',r',q⟩:=h;have q':v=.bl true:=q;subst q';obtain rfl:u=aJ true:=r';refine⟨rfl,OldK.of_keep λb o e=>?_,os,bare⟩;cases q:H b with
    | none=>exact un.keep b o e q (by intro z;exact absurd (show b∈([]:List Addr) from z) (by simp)) (by simp)
    | some u =>
     rcases hO b with z | ⟨ob,xs,z⟩
     ·rw[q] at z;cases z
     ·have z2:=un.frzs b ob _ z;obtain⟨e1,_⟩:=hok b _ z;obtain⟨e2,_⟩:=hok' b _ z2;rw[e] at e1;cases e1;exact e2
 cases hk:K.lookup a with
 | some o =>
  have e:=KX a o hk;rw[ha] at e;cases e;refine core (λ_=>none) (λ_=>.inl rfl) (.inr ⟨_,vs.toArray,_,hk,rfl,rfl,rfl,by rw[aD,lenV];exact hl, ~~~rv⟩) (λb u z=>by have z':(none:Option HO)=some u:=z;cases z') (λb z=>absurd rfl z) λz=>absurd rfl z
 | none =>
  refine core (λb=>if b=a then some (.frz {cls:=.type "list",data:=.seq vs.toArray} (.lst (ns.map V.int))) else none) (λb=>?_) (.inl (.inr ⟨{cls:=.type "list",data:=.seq vs.toArray},if_pos rfl⟩)) (λb u z=>?_) (λb z=>?_) λ_=>hk
  ·by_cases hb:b=a
   ·exact .inr ⟨_,_,if_pos hb⟩
   ·exact .inl (if_neg hb)
  ·by_cases hb:b=a
   ·have z':=(if_pos hb).symm.trans z;cases z';subst hb;exact⟨ha,by rw[aa];exact hl,vs,_,rv,ha⟩
   ·have z':=(if_neg hb).symm.trans z;cases z'
  ·by_cases hb:b=a
   ·exact hb
   ·exact absurd (if_neg hb) z
end L2
namespace L2
open PySem PySem.Spec PyProof.Rows
abbrev KOf {K:ac}{h:Heap}(_:K.In h):ac:=K
theorem b0g {l:fM}{n k:Nat}{q:Program}{loose:List Str}{XP:(Str->Option Value)->Heap->Prop}{YP:World->Heap->Prop}{d:DefRec}{K:Params->ac}{CX:World->CXT}{sp:World->Sp}{x:Str}
  (hn:l.most=some n) (hn2:n<=sizeLine) (hdf:d.params.defaults=[]) (hr:N3 k callerA)
  (hY:∀(w:World) (h:Heap),YP w h->(K w.params).In h)
  (F:∀(w:World) (mg:Str->Option Value) (fa:Addr) (h:Heap),(K w.params).In h->h.Ns mainGlobals mg->mg d.name=some (.ref fa) ->
   ∃ fd:FuncData,(∀(s:Shared) (u:Value),BindsTo s fd ⟨[u],[]⟩ [(x,u)]) /\
    ∀ base:Heap,(K w.params).In base->base.Ns mainGlobals mg->C0 l.prog w (K w.params) mg base (CX w) k fa fd [x] (sp w))
  (hsp:∀(w:World) (H:Hp) (a:Addr) (ns:List Int),ns.length<=n->b3P H->SqL (K w.params) H a (ns.map V.int)->sp w [.ref a] H (λv _=>v=.bl true) λ_ _ _=>False)
  (hCX:∀(w:World) (H:Hp) (s:Shared) (e:Value) (s':Shared),CX w [] H s (λ_ _ _=>False) e s'->False) :
  ig q loose XP YP l.row.toRowW d [] (λf vs=>iu f vs):=by
 refine Att.attach_call hn hdf λw sv sq mg mb fa o pm cd doc a vs ns G Y ho hd hcd hmg hobj hints hlen hg=>?_
 have KX:=hY w _ Y;obtain⟨fd,hb,hF⟩:=F w mg fa _ KX G.T.g hmg;exact a9n KX G.T.g G.T.b G.T.builtins G.T.nolimit hg hobj hints (aV hlen hn2) hr hF hb (λH hO hS=>hsp w H a ns hlen hO hS) λH e s'=>hCX w H sq e s'
end L2
/- THE LAST THEOREM (shape;LID,My.* are yours):
   My.Adr: a structure of the addresses that your layer names (classes,functions);My.Txt K t: a structure (Prop) of the equations over K;
   My.txt_mk:{K} {implicit addresses ..} (e1:nsIn K mainGlobals "law"=some (some (.ref f))) (e2:K.lookup f=some ⟨oc,od,.func (fnOf "law" "law" params body scope dV kV doc pm an cdv ct),sl⟩) (e3:codeIn K cdv "law"=true) ..:∃ t,My.Txt K t
set_option maxRecDepth 100000 in
set_option maxHeartbeats 0 in
theorem PySem.Challenge.cw_LID_holds : PySem.Challenge.rw_LID.Holds := by
 w_on;o_law;k_head;(case hw=>w_witness2)
 k_fill
 refine L2.b0g (l:=PySem.Challenge.rw_LID) (n:=63) (k:=40) (x:="script") (CX:=λw=>..) (sp:=λ_=>My.sp_law) rfl (by decide) rfl ⟨rfl,by decide,by decide⟩ (λw h Y=>PySem.W.kIn_of Y) ?F ?S ?C
 case F =>
  intro w mg fa h KX G hmg;have T:∃ t,My.Txt (L2.KOf KX) t:=by
   dsimp only[L2.KOf] -- K must stand as «<heap const> w.params» for k_is;refine' My.txt_mk ?e1 ?e2 ?e3 ..
   (case e1=>PySem.W.k_is) -- in the order: a name -> its address -> its object -> its parts
   (case e2=>PySem.W.k_is)
   ..
  obtain⟨t,T⟩:=T;have e0:=hmg.symm.trans (aC KX G T.law);cases e0 -- fa is the law's own address;exact⟨_,λs u=>.of_eq rfl,λbase kb nb=>My.law_fn T kb nb⟩ -- if «.of_eq rfl» comes too early: refine' ⟨_,?b,λbase kb nb=>My.law_fn T kb nb⟩;exact λs u=>.of_eq rfl
 case S=>exact λw H a ns hl hO hS=>..
 case C=>exact ..
(the tactic k_is has no namespace: write k_is) -/
namespace L2
open PySem PySem.Spec PyProof.Rows
abbrev CX0:CXT:=λ_ _ _ _ _ _=>False
abbrev E0:XK:=λ_ _ _=>False
theorem b4A {X:Cx}:a5P CX0 X E0:=λ_ _ _ _ _ _ _ h=>h.elim
structure Fun (K:ac)(x qual:Str)(st:Stmt)(f:Addr)(fd:FuncData):Prop where
 ex:∃(oc:Value) (od:Option Addr) (kV doc pm:Value) (an:Option Addr) (cdv ct:Value) (osl:Array (Option Value)),
  fd=cj x qual (P7 st) (M9 st) (A4 st) .none kV doc pm an cdv ct/\K.lookup f=some ⟨oc,od,.func fd,osl⟩/\du K cdv qual=true
 kp:fg K (.ref f)=true
section
variable {P:Program}{w:World}{K:ac}{mg:Str->Option Value}{base:Heap}
theorem Fun.ok {x qual:Str}{st:Stmt}{f:Addr}{fd:FuncData}{N ps:List Str}{k:Nat}{sp:Sp}(F:Fun K x qual st f fd)(S:B8 N ps (A4 st))(len:∀ vs H Q E,sp vs H Q E->vs.length=ps.length)
  (hbody:∀(cdv:Value) (A:Around) (outer:List Env) (s:Shared) (H:Hp) (vs:List V) (Q:VK) (E:XK),N3 k (A.deeper (envOfC qual (A4 st) s.heap.objs.size f cdv))->sp vs H Q E ->
   ∃ t,PSs (a1d CX0 P w K mg base N qual (A4 st) f cdv A outer s H E).nox (M9 st) t/\t {nx:=λ_ H'=>Q .non H',rt:=Q} (N4 N vs) H):C0 P w K mg base CX0 (k+1) f fd ps sp:=by
 obtain⟨oc,od,kV,doc,pm,an,cdv,ct,osl,rfl,lk,hcd⟩:=F.ex;refine a9I lk hcd S len λA outer s H vs Q E hr hsp=>?_
 obtain⟨t,h,q⟩:=hbody cdv A outer s H vs Q E hr hsp;exact⟨t,h.nox,q⟩
theorem Fun.binds {x qual:Str}{st:Stmt}{f:Addr}{fd:FuncData}{ps:List Str}(F:Fun K x qual st f fd)
  (h:∀(kV doc pm:Value) (an:Option Addr) (cdv ct:Value) (us:List Value),us.length=ps.length->bindArgs (cj x qual (P7 st) (M9 st) (A4 st) .none kV doc pm an cdv ct) ⟨us,[]⟩=pure (ps.zip us)):a3p K fd ps []:=by
 obtain⟨oc,od,kV,doc,pm,an,cdv,ct,osl,rfl,lk,hcd⟩:=F.ex;exact .all (h kV doc pm an cdv ct)
theorem C5 {x qual:Str}{st:Stmt}{f:Addr}{oc:Value}{od an:Option Addr}{osl:Array (Option Value)}{kV doc pm cdv ct:Value}(l:K.lookup f=some ⟨oc,od,.func (cj x qual (P7 st) (M9 st) (A4 st) .none kV doc pm an cdv ct),osl⟩)
  (c:du K cdv qual=true) (k:fg K (.ref f)=true):Fun K x qual st f (cj x qual (P7 st) (M9 st) (A4 st) .none kV doc pm an cdv ct):=⟨⟨oc,od,kV,doc,pm,an,cdv,ct,osl,rfl,l,c⟩,k⟩
end
theorem E8 {A:Around}{k:Nat}(hr:N3 k A):A.units+1<cLine:=jM (Nat.add_le_add_left (by decide:1<=64) _) hr.units
section
variable {X:Cx}
theorem pv (i:Nat){x:Str}{pos:Pos}(hN:X.N[i]?=some x:=by rfl)(hv:Vis X.env.scope x:=by first | exact Or.inl rfl | exact Or.inr (Or.inl rfl) | exact Or.inr (Or.inr rfl))(hd:(x == ("__debug__":Str))=false:=by decide)
  (hcd:(x == ("__classdict__":Str))=false:=by decide):PE X (.Name x pos) (U6 i):=b2B hN hv hd hcd
end
theorem R7 {c A B:Prop}[Decidable c](h1:c->A)(h2:¬ c->B):if c then A else B:=by
 by_cases h:c
 ·rw[if_pos h];exact h1 h
 ·rw[if_neg h];exact h2 h
def B5 (H H':Hp):Prop:=∀ b o,H b=some o->H' b=some o
theorem B5.refl (H:Hp):B5 H H:=λ_ _ h=>h
theorem B5.trans {H H1 H2:Hp}(a:B5 H H1)(b:B5 H1 H2):B5 H H2:=λc o h=>b c o (a c o h)
theorem B5.free {H H':Hp}(e:B5 H H'){l:Addr}(h:H' l=i7):H l=i7:=by
 cases q:H l with
 | none=>rfl
 | some o =>
  rw[e l o q] at h;cases h
theorem B5.seq {K:ac}{H H':Hp}{a:Addr}{xs:List V}(e:B5 H H')(h:SqL K H a xs):SqL K H' a xs:=by
 rcases h with (h | ⟨o,h⟩) | h
 ·exact .inl (.inl (e _ _ h))
 ·exact .inl (.inr ⟨o,e _ _ h⟩)
 ·exact .inr h
end L2
namespace L2
open PySem PySem.Spec PyProof.Rows
section
variable {κ:Type}[DecidableEq κ]
def a0h (kvs:List (κ×V))(k:κ):Option V:=(kvs.find? λkv=>decide (kv.1=k)).map (·.2)
def T6 (kvs:List (κ×V))(k:κ)(v:V):List (κ×V) :=
 if (kvs.any λkv=>decide (kv.1=k))=true then kvs.map (λkv=>if kv.1=k then (kv.1,v) else kv) else kvs++[(k,v)]
def a2c (kvs:List (κ×V))(k:κ):List (κ×V):=kvs.filter λkv=>decide (kv.1≠k)
theorem a0r {p:κ×V}{r:List (κ×V)}{k:κ}(e:p.1=k):a0h (p::r) k=some p.2:=by simp[a0h,eD,e]
theorem a0s {p:κ×V}{r:List (κ×V)}{k:κ}(e:¬ p.1=k):a0h (p::r) k=a0h r k:=by simp[a0h,eD,e]
theorem a3N (k:κ):∀ kvs:List (κ×V),(kvs.any λkv=>decide (kv.1=k))=(a0h kvs k).isSome
 | []=>rfl
 | p::r=>by
  rw[dD];by_cases e:p.1=k
  ·simp only[a0r e,decide_eq_true e,Bool.true_or,Option.isSome_some]
  ·rw[a0s e,decide_eq_false e,Bool.false_or];exact a3N k r
theorem S4 (kvs:List (κ×V))(k:κ)(v:V):(T6 kvs k v).length<=kvs.length+1:=by
 unfold T6;split
 ·rw[aa];omega
 ·rw[aI,aw,ci];omega
theorem a3J.isSome_eq {o:Option V}{u:Option Value}(r:a3J o u):o.isSome=u.isSome:=by
 cases o with
 | none=>cases u with
  | none=>rfl
  | some _=>exact (show False from r).elim
 | some _=>cases u with
  | none=>exact (show False from r).elim
  | some _=>rfl
theorem a3J.getD {o:Option V}{u:Option Value}{d:V}{d':Value}(r:a3J o u)(rd:D0 d d'):D0 (o.getD d) (u.getD d'):=by
 cases o with
 | none=>cases u with
  | none=>exact rd
  | some _=>exact (show False from r).elim
 | some _=>cases u with
  | none=>exact (show False from r).elim
  | some _=>exact r
theorem KV.val {kvs:List (κ×V)}{vs:List (κ×Value)}(r:KV kvs vs)(k:κ):a3J (a0h kvs k) (valueAt vs k):=by
 unfold KV at r;induction r with
 | nil=>exact cS
 | @cons p q ps qs h t ih =>
  obtain⟨h1,h2⟩:=h;by_cases e:p.1=k
  ·have e':q.1=k:=h1.symm.trans e;have b:valueAt (q::qs) k=some q.2:=by simp[valueAt,eD,e']
   rw[a0r e,b];exact h2
  ·have e':¬ q.1=k:=λz=>e (h1.trans z)
   have b:valueAt (q::qs) k=valueAt qs k:=by simp[valueAt,eD,e']
   rw[a0s e,b];exact ih
theorem KV.any {kvs:List (κ×V)}{vs:List (κ×Value)}(r:KV kvs vs)(k:κ):(kvs.any λkv=>decide (kv.1=k))=vs.any λkv=>decide (kv.1=k):=by
 unfold KV at r;induction r with
 | nil=>rfl
 | cons h t ih=>rw[dD,dD,ih,h.1]
theorem KV.repl {kvs:List (κ×V)}{vs:List (κ×Value)}(r:KV kvs vs)(k:κ){y:V}{u:Value}(ry:D0 y u) :
  KV (kvs.map λkv=>if kv.1=k then (kv.1,y) else kv) (vs.map λkv=>if kv.1=k then (kv.1,u) else kv):=by
 unfold KV at r ⊢;induction r with
 | nil=>exact .nil
 | @cons p q ps qs h t ih =>
  rw[aA,aA];refine .cons ?_ ih;obtain⟨h1,h2⟩:=h;by_cases e:p.1=k
  ·rw[if_pos e,if_pos (h1.symm.trans e)];exact⟨h1,ry⟩
  ·rw[if_neg e,if_neg (λz=>e (h1.trans z))];exact⟨h1,h2⟩
theorem KV.put {kvs:List (κ×V)}{vs:List (κ×Value)}(r:KV kvs vs)(k:κ){y:V}{u:Value}(ry:D0 y u):KV (T6 kvs k y) (stored vs k u):=by
 unfold T6 stored;rw[r.any k];by_cases e:(vs.any λkv=>decide (kv.1=k))=true
 ·rw[if_pos e,if_pos e];exact r.repl k ry
 ·rw[if_neg e,if_neg e];exact Paired.snoc r ⟨rfl,ry⟩
theorem KV.drop {kvs:List (κ×V)}{vs:List (κ×Value)}(r:KV kvs vs)(k:κ):KV (a2c kvs k) (without vs k):=by
 unfold KV at r ⊢;unfold a2c without;induction r with
 | nil=>exact .nil
 | @cons p q ps qs h t ih =>
  obtain⟨h1,h2⟩:=h;rw[List.filter_cons,List.filter_cons];by_cases e:p.1=k
  ·have a:¬ decide (p.1≠k)=true:=by simp[e]
   have b:¬ decide (q.1≠k)=true:=by simp[h1.symm.trans e]
   rw[if_neg a,if_neg b];exact ih
  ·have e':¬ q.1=k:=λz=>e (h1.trans z)
   have a:decide (p.1≠k)=true:=by simp[e]
   have b:decide (q.1≠k)=true:=by simp[e']
   rw[if_pos a,if_pos b];exact .cons ⟨h1,h2⟩ ih
theorem KV.keys {kvs:List (κ×V)}{vs:List (κ×Value)}(r:KV kvs vs):kvs.map (·.1)=vs.map (·.1):=by
 unfold KV at r;induction r with
 | nil=>rfl
 | cons h t ih=>rw[aA,aA,ih,h.1]
theorem KV.length {kvs:List (κ×V)}{vs:List (κ×Value)}(r:KV kvs vs):kvs.length=vs.length:=d9 r
theorem a9P (kvs:List (κ×V))(k:κ):(a2c kvs k).length<=kvs.length:=bL _ _
end
theorem a1X {P:Program}{w:World}{k:Key}{u:Value}(r:D0 (kV k) u):(K7 P w).is k u=true:=by
 cases k with
 | inl i=>obtain⟨t,e⟩:=(show ∃ t,u=cA i t from r);subst e;exact a4C P w i t
 | inr x=>obtain⟨t,e⟩:=(show ∃ t,u=g5 x t from r);subst e;exact a4B P w x t
theorem a2W {P:Program}{w:World}:∀ {ks:List Key} {us:List Value},C9 (ks.map kV) us->ItemsAre (K7 P w) ks us
 | [],_,r=>by rw[ce] at r;cases r;exact .nil
 | k::ks,_,r=>by
  rw[aA] at r;cases r with
  | cons h t=>exact .cons (a1X h) (a2W t)
abbrev KT (H:Hp):List (List Key×V)->List (List Key×Addr×Value)->Prop:=Paired λp q=>p.1=q.1/\H q.2.1=some (.tup (p.1.map kV))/\D0 p.2 q.2.2
theorem KT.val {H:Hp}{kvs:List (List Key×V)}{xs:List (List Key×Addr×Value)}(r:KT H kvs xs)(k:List Key):a3J (a0h kvs k) ((atKey xs k).map (·.2)):=by
 induction r with
 | nil=>exact cS
 | @cons p q ps qs h t ih =>
  obtain⟨h1,_,h2⟩:=h;by_cases e:p.1=k
  ·have e':q.1=k:=h1.symm.trans e;have b:atKey (q::qs) k=some q.2:=by simp[atKey,eD,e']
   rw[a0r e,b];exact h2
  ·have e':¬ q.1=k:=λz=>e (h1.trans z)
   have b:atKey (q::qs) k=atKey qs k:=by simp[atKey,eD,e']
   rw[a0s e,b];exact ih
theorem KT.repl {H:Hp}{kvs:List (List Key×V)}{xs:List (List Key×Addr×Value)}(r:KT H kvs xs)(k:List Key){y:V}{u:Value}(ry:D0 y u) :
  KT H (kvs.map λkv=>if kv.1=k then (kv.1,y) else kv) (xs.map (putAt k u)):=by
 induction r with
 | nil=>exact .nil
 | @cons p q ps qs h t ih =>
  rw[aA,aA];refine .cons ?_ ih;obtain⟨h1,h2,h3⟩:=h;unfold putAt;by_cases e:p.1=k
  ·rw[if_pos e,if_pos (h1.symm.trans e)];exact⟨h1,h2,ry⟩
  ·rw[if_neg e,if_neg (λz=>e (h1.trans z))];exact⟨h1,h2,h3⟩
theorem KT.put {H:Hp}{kvs:List (List Key×V)}{xs:List (List Key×Addr×Value)}(r:KT H kvs xs)(k:List Key){b:Addr}{y:V}{u:Value}(hb:H b=some (.tup (k.map kV)))(ry:D0 y u) :
  KT H (T6 kvs k y) (storedH xs k b u):=by
 have e:(kvs.any λkv=>decide (kv.1=k))=(atKey xs k).isSome:=by
  rw[a3N,(r.val k).isSome_eq,gz]
 unfold T6 storedH;rw[e];by_cases q:(atKey xs k).isSome=true
 ·rw[if_pos q,if_pos q];exact r.repl k ry
 ·rw[if_neg q,if_neg q];exact Paired.snoc r ⟨rfl,hb,ry⟩
theorem KT.keeps {H H':Hp}{kvs:List (List Key×V)}{xs:List (List Key×Addr×Value)}(r:KT H kvs xs)(ht:∀ b ys,H b=some (.tup ys)->H' b=some (.tup ys)):KT H' kvs xs :=
 Paired.mapP r λ_ _ z=>⟨z.1,ht _ _ z.2.1,z.2.2⟩
section
variable {P:Program}{w:World}{H:Hp}{h:Heap}{a:Addr}
theorem b1O {u:HO}(ok:HOk P w H h)(e:Rd H a u):K0 P w H h a u:=e.ok ok
theorem a9Q {kvs:List (Key×V)}(ok:HOk P w H h)(e:Rd H a (.dK kvs)):kvs.length<=sizeLine/\(a == sysModules)=false/\∃ vs,KV kvs vs/\h.DictOf (K7 P w) a vs :=
 show K0 P w H h a (.dK kvs) from b1O ok e
theorem a4M {kvs:List (Key×V)}(ok:HOk P w H h)(e:H a=some (.dK kvs)):kvs.length<=sizeLine/\(a == sysModules)=false/\∃ vs,KV kvs vs/\h.DictOf (K7 P w) a vs:=a9Q ok (.inl e)
theorem a1W {ks:List Key}(ok:HOk P w H h)(e:H a=some (.tup (ks.map kV))):(tupleKind (K7 P w)).is h ks a:=by
 obtain⟨_,its,r,o,h1,h2,n,h3⟩:=(show K0 P w H h a (.tup (ks.map kV)) from ok a _ e)
 exact⟨o,its.toArray,n,h1,h2,h3,by simpa using a2W r⟩
theorem a9N {kvs:List (List Key×V)}(ok:HOk P w H h)(e:Rd H a (.dT kvs)):kvs.length<=sizeLine/\(a == sysModules)=false /\
  ∃ xs,KT H kvs xs/\h.DictOfH (tupleKind (K7 P w)) a xs:=by
 obtain⟨z,y,xs,r,o,es,ep,h1,h2,h3,h4,h5⟩:=(show K0 P w H h a (.dT kvs) from b1O ok e)
 refine⟨z,y,xs,r,o,es,ep,h1,h2,h3,h4,λx hx=>?_,h5⟩;have all:∀ {l:List (List Key×V)} {m:List (List Key×Addr×Value)},KT H l m->∀ x∈m,(tupleKind (K7 P w)).is h x.1 x.2.1:=by
  intro l m q;induction q with
  | nil=>intro x hx;exact nomatch hx
  | @cons p q ps qs hq t ih =>
   intro x hx;rcases aL.mp hx with e | hx
   ·subst e;exact a1W ok (by rw[<- hq.1];exact hq.2.1)
   ·exact ih x hx
 exact all r x hx
theorem b1X {kvs:List (List Key×V)}(ok:HOk P w H h)(e:H a=some (.dT kvs)):kvs.length<=sizeLine/\(a == sysModules)=false /\
  ∃ xs,KT H kvs xs/\h.DictOfH (tupleKind (K7 P w)) a xs:=a9N ok (.inl e)
end
def a0f (H:Hp)(a:Addr)(y:V)(r:Option V):Prop :=
 (∃ kvs k,Rd H a (.dK kvs)/\y=kV k/\r=a0h kvs k)\/∃ kvs k b,Rd H a (.dT kvs)/\y=.ref b/\H b=some (.tup (k.map kV))/\r=a0h kvs k
def V7 (H:Hp)(a:Addr)(y v:V)(H':Hp):Prop :=
 (∃ kvs k,H a=some (.dK kvs)/\y=kV k/\kvs.length<sizeLine/\H'=upd H a (.dK (T6 kvs k v))) \/
 ∃ kvs k b,H a=some (.dT kvs)/\y=.ref b/\H b=some (.tup (k.map kV))/\kvs.length<sizeLine/\H'=upd H a (.dT (T6 kvs k v))
theorem a0f.k {H:Hp}{a:Addr}{kvs:List (Key×V)}{k:Key}(e:H a=some (.dK kvs)):a0f H a (kV k) (a0h kvs k):=.inl ⟨kvs,k,.inl e,rfl,rfl⟩
theorem a0f.t {H:Hp}{a b:Addr}{kvs:List (List Key×V)}{k:List Key}(e:H a=some (.dT kvs))(eb:H b=some (.tup (k.map kV))):a0f H a (.ref b) (a0h kvs k):=.inr ⟨kvs,k,b,.inl e,rfl,eb,rfl⟩
theorem V7.k {H:Hp}{a:Addr}{kvs:List (Key×V)}{k:Key}{v:V}(e:H a=some (.dK kvs))(hl:kvs.length<sizeLine):V7 H a (kV k) v (upd H a (.dK (T6 kvs k v))):=.inl ⟨kvs,k,e,rfl,hl,rfl⟩
theorem V7.t {H:Hp}{a b:Addr}{kvs:List (List Key×V)}{k:List Key}{v:V}(e:H a=some (.dT kvs))(eb:H b=some (.tup (k.map kV)))(hl:kvs.length<sizeLine) :
  V7 H a (.ref b) v (upd H a (.dT (T6 kvs k v))):=.inr ⟨kvs,k,b,e,rfl,eb,hl,rfl⟩
section
variable {X:Cx}{pins:List (Addr×Obj)}{σ:St}{H:Hp}{s:Shared}{a:Addr}{y v:V}{u r:Value}{o:Option V}{A:Around}{E:Value->Shared->Prop}
theorem Inv.big (I:Inv X pins σ H s):sysModules<s.heap.objs.size:=by
 have h:mainGlobals<s.heap.objs.size:=(I.mod.glob.keeps I.bk).lt;exact ge (by decide) h
theorem b5G {Q:Value->Shared->Prop}(hu:A.units+1<cLine)(I:Inv X pins σ H s)(g:a0f H a y o)(ry:D0 y u)(h:∀ s',Inv X pins σ H s'->Q (.bool o.isSome) s') :
  wpAny (model X.prog X.w) A (compareOp .In u (.ref a)) Q E s:=by
 rcases g with ⟨kvs,k,e,ey,l⟩ | ⟨kvs,k,b,e,ey,eb,l⟩
 ·subst ey;obtain⟨z,hd,vs,rel,dd⟩:=a9Q I.hok e;refine wpAny_in_of (a1X ry) hd dd.mapOf ?_;rw[<- (rel.val k).isSome_eq,<- l];exact h _ (I.tok _)
 ·subst ey;cases (show u=bw b from ry);obtain⟨z,hd,xs,rel,dd⟩:=a9N I.hok e;refine wpAny_in_heap (tupleKind_room_in1 hu) (a1W I.hok eb) hd dd ?_;have q:=(rel.val k).isSome_eq;rw[gz] at q;rw[<- q,<- l];exact h _ (I.tok _)
theorem b1s {Q:Value->Shared->Prop}(hu:A.units+1<cLine)(I:Inv X pins σ H s)(g:a0f H a y o)(ry:D0 y u)(h:∀ s',Inv X pins σ H s'->Q (.bool (!o.isSome)) s') :
  wpAny (model X.prog X.w) A (compareOp .NotIn u (.ref a)) Q E s:=by
 rcases g with ⟨kvs,k,e,ey,l⟩ | ⟨kvs,k,b,e,ey,eb,l⟩
 ·subst ey;obtain⟨z,hd,vs,rel,dd⟩:=a9Q I.hok e;refine wpAny_notIn_of (a1X ry) hd dd.mapOf ?_;rw[<- (rel.val k).isSome_eq,<- l];exact h _ (I.tok _)
 ·subst ey;cases (show u=bw b from ry);obtain⟨z,hd,xs,rel,dd⟩:=a9N I.hok e;refine wpAny_notIn_heap (tupleKind_room_in1 hu) (a1W I.hok eb) hd dd ?_;have q:=(rel.val k).isSome_eq;rw[gz] at q;rw[<- q,<- l];exact h _ (I.tok _)
theorem a0c {h':Heap}{t':Nat}{ob:HO}(I:Inv X pins σ H s)(mu:Mut (H a))(hs:dh a s.heap h')(he:∃ q,h'.get? a=some q)(new:K0 X.prog X.w (upd H a ob) h' a ob) :
  Inv X pins σ (upd H a ob) {s with heap:=h',toks:=t'} :=
 I.write (x:=a) (e:=a) mu (.inl rfl) (λb q hb z=>(hs.2 b hb).trans z) he new
theorem a3C {P:Program}{w:World}{H':Hp}{h':Heap}{kvs:List (Key×V)}{vs:List (Key×Value)}(z:kvs.length<=sizeLine)(hd:(a == sysModules)=false)(rel:KV kvs vs)(dd:h'.DictOf (K7 P w) a vs) :
  K0 P w H' h' a (.dK kvs):=⟨z,hd,vs,rel,dd⟩
theorem a7K {H':Hp}{Q:Unit->Shared->Prop}(hu:A.units+1<cLine)(I:Inv X pins σ H s)(g:V7 H a y v H')(ry:D0 y u)(rv:D0 v r)(h:∀ s',Inv X pins σ H' s'->Q () s') :
  wpAny (model X.prog X.w) A (setItem (.ref a) u r) Q E s:=by
 rcases g with ⟨kvs,k,e,ey,l,eH⟩ | ⟨kvs,k,b,e,ey,eb,l,eH⟩
 ·subst ey eH;obtain⟨z,hd,vs,rel,dd⟩:=a4M I.hok e;have hz:vs.length<=sizeLine:=by rw[<- rel.length];exact z
  have hl:(T6 kvs k v).length<=sizeLine:=by have:=S4 kvs k v;omega
  refine wpAny_setItem_pairs (hsz:=hz) (a1X ry) dd λh' dd' hs=>h _ ?_
  have he:∃ q,h'.get? a=some q:=let ⟨q,_,_,hq,_⟩:=dd';⟨q,hq⟩;exact a0c I (by rw[e];exact cS) hs he (a3C hl hd (rel.put k rv) dd')
 ·subst ey eH;cases (show u=bw b from ry);obtain⟨z,hd,xs,rel,dd⟩:=b1X I.hok e;have hz:xs.length<=sizeLine:=by rw[<- d9 rel];exact z
  have hl:(T6 kvs k v).length<=sizeLine:=by have:=S4 kvs k v;omega
  refine wpAny_setItem_heap (hsz:=hz) (tupleKind_room_in1 hu) (a1W I.hok eb) dd λh' dd' hs=>h _ ?_
  obtain⟨q,es,ep,hq,h2,h3,h4,_,h5⟩:=dd';refine a0c I (by rw[e];exact cS) hs ⟨q,hq⟩ ⟨hl,hd,_,(rel.put k eb rv).keeps λc ys ec=>?_,q,es,ep,hq,h2,h3,h4,h5⟩;rw[B3 (a9h ec e (λz=>nomatch z))];exact ec
end
section
variable {X:Cx}{pins:List (Addr×Obj)}{σ:St}{H:Hp}{s:Shared}{a:Addr}{kvs:List (Key×V)}{k:Key}{u:Value}{A:Around}{E:Value->Shared->Prop}
theorem a7M {Q:Unit->Shared->Prop}(I:Inv X pins σ H s)(e:H a=some (.dK kvs))(ry:D0 (kV k) u)(l:(a0h kvs k).isSome=true)(h:∀ s',Inv X pins σ (upd H a (.dK (a2c kvs k))) s'->Q () s') :
  wpAny (model X.prog X.w) A (delItem (.ref a) u) Q E s:=by
 obtain⟨z,hd,vs,rel,dd⟩:=a4M I.hok e;refine wpAny_delItem_slot dd.typeIs (by decide) g6
  (call_meetsIn g6 dd.typeIs PySem.F.entry_dict_delitem (PySem.F.args_dict_delitem_2 _ _) (meets_dict_delitem_pairs (K7 X.prog X.w) a (a1X ry)) ⟨vs,dd,by rw[<- rel.length];exact z,by rw[<- (rel.val k).isSome_eq];exact l,λh' dd' hs=>h _ ?_⟩)
 have he:∃ q,h'.get? a=some q:=let ⟨q,_,_,hq,_⟩:=dd';⟨q,hq⟩;exact a0c I (by rw[e];exact cS) hs he (a3C (aV (a9P kvs k) z) hd (rel.drop k) dd')
end
def b4o (ty td:TE):TE:=fun σ H Q=>ty σ H λy H1=>td σ H1 λx H2=>∃ a o,x=.ref a/\a0f H2 a y o/\Q (.bl o.isSome) H2
def a5S (ty td:TE):TE:=fun σ H Q=>ty σ H λy H1=>td σ H1 λx H2=>∃ a o,x=.ref a/\a0f H2 a y o/\Q (.bl (!o.isSome)) H2
def b1N (td ty tv:TE):TS:=λD σ H=>tv σ H λv H1=>td σ H1 λx H2=>ty σ H2 λy H3=>∃ a H4,x=.ref a/\V7 H3 a y v H4/\D.nx σ H4
def b4t (td ty:TE):TS:=λD σ H=>td σ H λx H1=>ty σ H1 λy H2=>∃ a kvs k,x=.ref a/\H2 a=some (.dK kvs)/\y=kV k/\(a0h kvs k).isSome=true/\D.nx σ (upd H2 a (.dK (a2c kvs k)))
section
variable {X:Cx}{o i e value:Expr}{pos pos' tpos:Pos}{td ty tv:TE}
theorem a8I (hu:X.A.units+1<cLine)(hi:PE X i ty)(ho:PE X o td):PC X .In i o (b4o ty td):=by
 intro pins s σ H Q I h;refine thn (hi pins s σ H _ I h) λiv s1 ⟨y,H1,I1,ry,q1⟩=>thn (ho pins s1 σ H1 _ I1 q1) λu s2 ⟨x,H2,I2,rx,a,ov,ex,g,q2⟩=>?_
 subst ex;obtain rfl:u=bw a:=rx;exact b5G hu I2 g ry λs3 I3=>⟨.bl ov.isSome,H2,I3,rfl,q2⟩
theorem Z5 (hu:X.A.units+1<cLine)(hi:PE X i ty)(ho:PE X o td):PC X .NotIn i o (a5S ty td):=by
 intro pins s σ H Q I h;refine thn (hi pins s σ H _ I h) λiv s1 ⟨y,H1,I1,ry,q1⟩=>thn (ho pins s1 σ H1 _ I1 q1) λu s2 ⟨x,H2,I2,rx,a,ov,ex,g,q2⟩=>?_
 subst ex;obtain rfl:u=bw a:=rx;exact b1s hu I2 g ry λs3 I3=>⟨.bl (!ov.isSome),H2,I3,rfl,q2⟩
theorem Z4 (hu:X.A.units+1<cLine)(ho:PE X o td)(hi:PE X i ty)(hv:PE X value tv)(hs:swapsWith value (some (.Subscript o i pos')) pos.line X.env=pure false) :
  PS X (.Assign [.Subscript o i pos'] value pos) (b1N td ty tv):=by
 intro pins s σ H D I h;refine wpAny_Assign_Subscript (thn (hv pins s σ H _ I h) λr s1 ⟨v,H1,I1,rv,q1⟩=>thn (ho pins s1 σ H1 _ I1 q1) λu s2 ⟨x,H2,I2,rx,q2⟩=>thn (hi pins s2 σ H2 _ I2 q2) λiv s3 ⟨y,H3,I3,ry,a,H4,ex,g,q3⟩=>?_) hs;subst ex;obtain rfl:u=bw a:=rx;exact a7K hu I3 g ry rv λs4 I4=>⟨σ,H4,I4,q3⟩
theorem b0w (ho:PE X o td)(hi:PE X i ty):PS X (.Delete [.Subscript o i tpos] pos) (b4t td ty):=by
 intro pins s σ H D I h;refine wpAny_Delete (wpAny_deleteEach_cons (wpAny_delete_Subscript (thn (ho pins s σ H _ I h) λu s1 ⟨x,H1,I1,rx,q1⟩=>thn (hi pins s1 σ H1 _ I1 q1) λiv s2 ⟨y,H2,I2,ry,a,kvs,k,ex,e,ey,l,q2⟩=>?_)));subst ex ey;obtain rfl:u=bw a:=rx;exact a7M I2 e ry l λs3 I3=>wpAny_deleteEach_nil ⟨σ,_,I3,q2⟩
end
theorem a2d {P:Program}{w:World}{H:Hp}(h:Heap)(hb:sysModules<h.objs.size):K0 P w H (h.push {cls:=.type "dict",data:=.dict #[]}) h.objs.size (.dK []) :=
 ⟨bf _,beq_eq_false_iff_ne.mpr (dN (aK hb)),[],.nil,Heap.DictOf.new h⟩
theorem a4L {P:Program}{w:World}{H:Hp}(h:Heap)(hb:sysModules<h.objs.size):K0 P w H (h.push {cls:=.type "dict",data:=.dict #[]}) h.objs.size (.dT []) :=
 ⟨bf _,beq_eq_false_iff_ne.mpr (dN (aK hb)),[],.nil,_,#[],0,au _ rfl,⟨rfl,rfl,rfl⟩,rfl,rfl,iw⟩
def a8k:TE:=λ_ H Q=>∀ p,H p=none->Q (.ref p) (upd H p (.dK []))
def a8j:TE:=λ_ H Q=>∀ p,H p=none->Q (.ref p) (upd H p (.dT []))
section
variable {X:Cx}{pos:Pos}
theorem a8F:PE X (.Dict [] [] pos) a8k:=λpins s σ H Q I h =>
 wpAny_Dict_empty ⟨.ref s.heap.objs.size,_,I.laid (a:=s.heap.objs.size) (o:=.dK []) (t':=s.toks) (λ_ _ q=>af _ q) (ao _) (a2d s.heap I.big),rfl,h _ (I.hok.fresh (ao _))⟩
theorem a8E:PE X (.Dict [] [] pos) a8j:=λpins s σ H Q I h =>
 wpAny_Dict_empty ⟨.ref s.heap.objs.size,_,I.laid (a:=s.heap.objs.size) (o:=.dT []) (t':=s.toks) (λ_ _ q=>af _ q) (ao _) (a4L s.heap I.big),rfl,h _ (I.hok.fresh (ao _))⟩
end
def a3r:List (TE×TE)->St->Hp->(List (V×V)->Hp->Prop)->Prop
 | [],_,H,Q=>Q [] H
 | (tk,tv)::r,σ,H,Q=>tk σ H λx H1=>tv σ H1 λy H2=>a3r r σ H2 λps H3=>Q ((x,y)::ps) H3
abbrev VV:List (V×V)->List (Value×Value)->Prop:=Paired λp q=>D0 p.1 q.1/\D0 p.2 q.2
def PPs (X:Cx)(pos:Pos)(keys:List (Option Expr))(values:List Expr)(trs:List (TE×TE)):Prop :=
 ∀(pins:List (Addr×Obj)) (s:Shared) (σ:St) (H:Hp) (Q:List (V×V)->Hp->Prop),Inv X pins σ H s->a3r trs σ H Q ->
  wpAny (model X.prog X.w) X.A (evalPairs (pairTrees keys values X.env pos)) (λvs s'=>∃ ps H',Inv X pins σ H' s'/\VV ps vs/\Q ps H') X.xe s
theorem a6s {X:Cx}{pos:Pos}:PPs X pos [] [] []:=λpins s σ H Q I h=>pairTrees_nil_walk ⟨[],H,I,.nil,h⟩
theorem a4v {X:Cx}{pos:Pos}{k v:Expr}{ks:List (Option Expr)}{vs:List Expr}{tk tv:TE}{trs:List (TE×TE)}(hk:PE X k tk)(hv:PE X v tv)(hr:PPs X pos ks vs trs) :
  PPs X pos (some k::ks) (v::vs) ((tk,tv)::trs):=λpins s σ H Q I h =>
 pairTrees_cons_walk (thn (hk pins s σ H _ I h) λu s1 ⟨x,H1,I1,rx,q1⟩=>thn (hv pins s1 σ H1 _ I1 q1) λw2 s2 ⟨y,H2,I2,ry,q2⟩ =>
  thn (hr pins s2 σ H2 _ I2 q2) λws s3 ⟨ps,H3,I3,rel,q3⟩=>⟨(x,y)::ps,H3,I3,.cons ⟨rx,ry⟩ rel,q3⟩)
def a0M (kvs more:List (Key×V)):List (Key×V):=more.foldl (λacc kv=>T6 acc kv.1 kv.2) kvs
theorem KV.merge:∀ {more:List (Key×V)} {rs:List (Key×Value)} {kvs:List (Key×V)} {vs:List (Key×Value)},KV more rs->KV kvs vs->KV (a0M kvs more) (merged vs rs):=by
 intro more rs kvs vs r;unfold KV at r;induction r generalizing kvs vs with
 | nil=>intro q;exact q
 | @cons p q ps qs h t ih =>
  intro r0;have e:KV (T6 kvs p.1 p.2) (stored vs q.1 q.2):=by
   have:=r0.put p.1 h.2;rw[<- h.1];exact this
  exact ih e
theorem a0g:∀(more kvs:List (Key×V)),(a0M kvs more).length<=kvs.length+more.length
 | [],kvs=>by show kvs.length<=kvs.length+0;omega
 | p::r,kvs=>by
  have h1:=a0g r (T6 kvs p.1 p.2);have h2:=S4 kvs p.1 p.2;show (a0M (T6 kvs p.1 p.2) r).length<=_;rw[aw];omega
theorem a2e {P:Program}{w:World}:∀ {kvs:List (Key×V)} {ws:List (Value×Value)},VV (kvs.map λkv=>(kV kv.1,kv.2)) ws->∃ rs,Carries (K7 P w) ws rs/\KV kvs rs
 | [],_,r=>by rw[ce] at r;cases r;exact⟨[],cS,.nil⟩
 | p::kvs,_,r=>by
  rw[aA] at r;cases r with
  | @cons a b as bs h t =>
   obtain⟨rs,c,q⟩:=a2e (P:=P) (w:=w) t;obtain⟨b1,b2⟩:=b;exact⟨(p.1,b2)::rs,⟨a1X h.1,rfl,c⟩,.cons ⟨rfl,h.2⟩ q⟩
def b1K (trs:List (TE×TE)):TE:=fun σ H Q=>∀ p,H p=none->a3r trs σ (upd H p (.dK [])) λps H2=>H2 p=some (.dK [])/\∃ kvs:List (Key×V),ps=kvs.map (λkv=>(kV kv.1,kv.2))/\kvs.length<=15/\Q (.ref p) (upd H2 p (.dK (a0M [] kvs)))
theorem a6x {X:Cx}{pos:Pos}{keys:List (Option Expr)}{values:List Expr}{trs:List (TE×TE)}(h:PPs X pos keys values trs)(hall:keys.all (·.isSome)=true)(hl:keys.length=values.length)(h0:keys≠[])
  (h15:keys.length<=15):PE X (.Dict keys values pos) (b1K trs):=by
 intro pins s σ H Q I q;have hn:=I.hok.fresh (ao s.heap.objs.size);have I1:=I.laid (a:=s.heap.objs.size) (o:=.dK []) (h':=s.heap.push {cls:=.type "dict",data:=.dict #[]}) (t':=s.toks) (λ_ _ q=>af _ q) (ao _) (a2d s.heap I.big);refine wpAny_Dict_walk (knd:=K7 X.prog X.w) hall hl h0 h15 (thn (h pins _ σ _ _ I1 (q _ hn)) λws s2 ⟨ps,H2,I2,rel,e,kvs,ep,lk,q2⟩=>?_);subst ep;obtain⟨rs,c,rk⟩:=a2e (P:=X.prog) (w:=X.w) rel;obtain⟨z,hd,vs0,r0,dd⟩:=a4M I2.hok e;cases r0;refine⟨rs,c,dd,λh' dd' hs=>⟨.ref s.heap.objs.size,_,?_,rfl,q2⟩⟩;have hz:(a0M [] kvs).length<=sizeLine:=by
  have h1:=a0g kvs [];rw[ci] at h1;rw[sizeLine_eq];omega
 have he:∃ q,h'.get? s.heap.objs.size=some q:=let ⟨q,_,_,hq,_⟩:=dd';⟨q,hq⟩;exact a0c I2 (by rw[e];exact cS) hs he (a3C hz hd (rk.merge .nil) dd')
structure M1 (X:Cx)(o:Expr)(m:Str)(apos:Pos)(e:Expr)(cpos:Pos):Prop where
 base:attributeBase o m X.env (eval o X.env)=eval o X.env
 few:((backTo cpos (starEach [e] X.env)).all (λx=>!x.1) && (backToKw cpos (keywordEach [] X.env)).all (λx=>x.1.isSome)
  && decide (([e]:List Expr).length+([]:List Keyword).length+(if ([]:List Keyword).isEmpty then 0 else 1)<30))=true
 line:(apos.endLine == cpos.line)=true
 trees:backTo cpos (starEach [e] X.env)=[(false,eval e X.env)]
end L2
end
section
namespace Ts
open PySem PyProof.Rows
set_option autoImplicit false
end Ts
namespace Ts
open PySem PyProof.Rows
set_option autoImplicit false
def el (xs:Array Keyed)(i:Nat):Keyed:=(xs[i]?).getD (cI,cI)
theorem el_some {xs:Array Keyed}{i:Nat}(h:i<xs.size):xs[i]?=some (el xs i):=by
 unfold el;rw[getElem?_pos xs i h];rfl
theorem el_congr {xs ys:Array Keyed}{i j:Nat}(h:xs[i]?=ys[j]?):el xs i=el ys j:=by unfold el;rw[h]
theorem el_mem {xs:Array Keyed}{i:Nat}(h:i<xs.size):el xs i∈xs.toList:=by
 have e:el xs i=xs[i]:=by unfold el;rw[getElem?_pos xs i h];rfl
 rw[e];simp
section
variable {O:KeyOrd}{key:Keyed->O.α}
abbrev KA {O:KeyOrd}(key:Keyed->O.α)(xs:Array Keyed)(i:Nat):O.α:=key (el xs i)
theorem KA_congr {xs ys:Array Keyed}{i j:Nat}(h:xs[i]?=ys[j]?):KA key xs i=KA key ys j:=by unfold KA;rw[el_congr h]
def Seg {O:KeyOrd}(key:Keyed->O.α)(xs:Array Keyed)(lo hi:Nat):Prop:=∀ i j,lo<=i->i<=j->j<hi->O.kle (KA key xs i) (KA key xs j)
def SegD {O:KeyOrd}(key:Keyed->O.α)(xs:Array Keyed)(lo hi:Nat):Prop:=∀ i j,lo<=i->i<=j->j<hi->O.kle (KA key xs j) (KA key xs i)
theorem Seg.one (xs:Array Keyed)(lo:Nat):Seg key xs lo (lo+1):=λi j h1 h2 h3=>by
 have:i=j:=∅
 subst this;exact cF _
theorem Seg.congr {xs ys:Array Keyed}{lo hi:Nat}(h:Seg key xs lo hi)(e:∀ i,lo<=i->i<hi->KA key ys i=KA key xs i):Seg key ys lo hi:=λi j a b c=>by
 rw[e i a ∅,e j ∅ c];exact h i j a b c
theorem KA_bubble {xs:Array Keyed}{src d:Nat}(hs:src<xs.size)(hd:d<=src)(k:Nat) :
  KA key (bubble xs src d) k=if k=src-d then KA key xs src else if src-d<k/\k<=src then KA key xs (k-1) else KA key xs k:=by
 have e:=getElem?_bubble hs d hd k;by_cases h1:k=src-d
 ·rw[if_pos h1] at e ⊢;exact KA_congr e
 ·rw[if_neg h1] at e ⊢;by_cases h2:src-d<k/\k<=src
  ·rw[if_pos h2] at e ⊢;exact KA_congr e
  ·rw[if_neg h2] at e ⊢;exact KA_congr e
theorem KA_mirror {xs:Array Keyed}{i j:Nat}(hj:j<=xs.size)(k:Nat) :
  KA key (mirror xs i j ((j-i) / 2)) k=if i<=k/\k<j then KA key xs (i+j-1-k) else KA key xs k:=by
 have e:=getElem?_mirror_all (i:=i) hj k;by_cases h1:i<=k/\k<j
 ·rw[if_pos h1] at e ⊢;exact KA_congr e
 ·rw[if_neg h1] at e ⊢;exact KA_congr e
theorem KA_mirror_equal {xs:Array Keyed}{i j:Nat}(hj:j<=xs.size)(heq:∀ k,i<=k->k<j->KA key xs k=KA key xs (j-1))(k:Nat) :
  KA key (mirror xs i j ((j-i) / 2)) k=KA key xs k:=by
 rw[KA_mirror hj];split
 ·rw[heq _ ∅ ∅,heq k ∅ ∅]
 ·rfl
end
structure SB (a₀:Array Keyed)(knd:SortKind)(st:SortSt):Prop where
 perm:(arrOf st).Perm a₀
 kind:kindOf st=knd
 failed:failedOf st=none
theorem SB.size {a₀:Array Keyed}{knd:SortKind}{st:SortSt}(h:SB a₀ knd st):(arrOf st).size=a₀.size:=h.perm.size_eq
theorem SB.setArr {a₀:Array Keyed}{knd:SortKind}{st:SortSt}(h:SB a₀ knd st){xs:Array Keyed}(hp:xs.Perm (arrOf st)):SB a₀ knd (setArr st xs):=⟨hp.trans h.perm,h.kind,h.failed⟩
theorem SB.mem {a₀:Array Keyed}{knd:SortKind}{st:SortSt}(h:SB a₀ knd st){i:Nat}(hi:i<a₀.size):el (arrOf st) i∈a₀.toList :=
 (h7.mp h.perm).mem_iff.mp (el_mem (by rw[h.size];exact hi))
def Cmp (M:Model)(A:Around)(E:Value->Shared->Prop)(s:Shared)(knd:SortKind)(O:KeyOrd)(key:Keyed->O.α)(a₀:Array Keyed):Prop :=
 ∀ p∈a₀.toList,∀ q∈a₀.toList,∀(st:SortSt) (Q:Option Bool->SortSt->Prop),kindOf st=knd->Q (some (O.blt (key p) (key q))) st->wpS M A E s (lt' p q) Q st
section
variable {M:Model}{A:Around}{E:Value->Shared->Prop}{s:Shared}{a₀:Array Keyed}{knd:SortKind}{O:KeyOrd}{key:Keyed->O.α}
theorem wpS_elem {xs:Array Keyed}{i:Nat}{Q:Keyed->SortSt->Prop}{st:SortSt}(h:i<xs.size)(q:Q (el xs i) st):wpS M A E s (elem' xs i) Q st:=by
 rw[elem'_eq,el_some h];exact cX q
theorem wpS_ltI {st:SortSt}{i j:Nat}{Q:Option Bool->SortSt->Prop}(C:Cmp M A E s knd O key a₀)(hB:SB a₀ knd st)(hi:i<a₀.size)(hj:j<a₀.size)
  (h:Q (some (O.blt (KA key (arrOf st) i) (KA key (arrOf st) j))) st):wpS M A E s (ltAt' i j) Q st:=by
 rw[ltAt'_eq];refine bV (jG ?_);refine bV (wpS_elem (by rw[hB.size];exact hi) ?_);refine bV (wpS_elem (by rw[hB.size];exact hj) ?_);exact C _ (hB.mem hi) _ (hB.mem hj) st Q hB.kind h
theorem wpS_rev {st:SortSt}{i j:Nat}{Q:Unit->SortSt->Prop}(h:Q () (setArr st (mirror (arrOf st) i j ((j-i) / 2)))):wpS M A E s (reverseSlice' i j) Q st:=by
 rw[reverseSlice'_eq];exact jx h
theorem wpS_rule {st:SortSt}{Q:Unit->SortSt->Prop}{x:String}(h:Q () st):wpS M A E s (liftM (rule x):StateT SortSt Sem Unit) Q st:=wpS_lift (j6 ⟨rfl,h⟩)
def ascL (lo a nrem:Nat):StateT SortSt Sem AscSt :=
 forIn [a:nrem] ((none,a):AscSt) λ_ c=>do
  let x <- ltAt' (lo+c.snd) (lo+c.snd-1)
  match x with
  | some sm=>if sm=true then pure (fb (none,c.snd)) else pure (bW (none,c.snd+1))
  | _=>pure (fb (some none,c.snd))
def t3L (lo n nrem:Nat):StateT SortSt Sem (Option Nat):=do
 reverseSlice' lo (lo+n)
 let c <- ascL lo n nrem
 match c.fst with
 | some r=>pure r
 | none=>pure (some c.snd)
def desL (lo n nrem:Nat):StateT SortSt Sem DescSt :=
 forIn [n:nrem] ((none,n,0):DescSt) λ_ c=>do
  let x <- ltAt' (lo+c.snd.fst) (lo+c.snd.fst-1)
  match x with
  | some sm =>
   if sm=true then
    if c.snd.snd>0 then do
     reverseSlice' (lo+c.snd.fst-(c.snd.snd+1)) (lo+c.snd.fst)
     pure (bW (none,c.snd.fst+1,0))
    else pure (bW (none,c.snd.fst+1,0))
   else do
    let y <- ltAt' (lo+c.snd.fst-1) (lo+c.snd.fst)
    match y with
    | some la =>
     if la=true then pure (fb (none,c.snd.fst,c.snd.snd))
     else pure (bW (none,c.snd.fst+1,c.snd.snd+1))
    | _=>pure (fb (some none,c.snd.fst,c.snd.snd))
  | _=>pure (fb (some none,c.snd.fst,c.snd.snd))
def desP (lo n nrem:Nat):StateT SortSt Sem (Option Nat):=do
 liftM (rule "list.sort.descending-run")
 let c <- desL lo (n+1) nrem
 match c.fst with
 | some r=>pure r
 | none =>
  if c.snd.snd>0 then do
   reverseSlice' (lo+c.snd.fst-(c.snd.snd+1)) (lo+c.snd.fst)
   t3L lo c.snd.fst nrem
  else t3L lo c.snd.fst nrem
theorem cR_eq (lo nrem:Nat):countRun' lo nrem=(do
  let c <- ascL lo 1 nrem
  match c.fst with
  | some r=>pure r
  | none =>
   if (c.snd == nrem)=true then pure (some c.snd)
   else if c.snd>1 then do
    let x <- ltAt' lo (lo+c.snd-1)
    match x with
    | some rs=>if rs=true then pure (some c.snd) else do
      reverseSlice' lo (lo+c.snd)
      desP lo c.snd nrem
    | _=>pure none
   else desP lo c.snd nrem):=by
 rw[countRun'_eq];unfold desP t3L desL ascL;refine bind_congr λc=>?_
 obtain⟨r,n⟩:=c;cases r with
 | some r=>rfl
 | none =>
  dsimp only;split
  ·rfl
  ·split
   ·refine bind_congr λx=>?_
    cases x with
    | none=>rfl
    | some rs =>
     dsimp only;split
     ·rfl
     ·refine bind_congr λu=>?_
      refine bind_congr λv=>?_
      refine bind_congr λd=>?_
      obtain⟨r2,n2,q2⟩:=d;cases r2 with
      | some r2=>rfl
      | none =>
       dsimp only;split
       ·refine bind_congr λe=>?_
        refine bind_congr λe=>?_
        refine bind_congr λd=>?_
        obtain⟨r3,n3⟩:=d;cases r3<;>rfl
       ·refine bind_congr λe=>?_
        refine bind_congr λd=>?_
        obtain⟨r3,n3⟩:=d;cases r3<;>rfl
   ·refine bind_congr λv=>?_
    refine bind_congr λd=>?_
    obtain⟨r2,n2,q2⟩:=d;cases r2 with
    | some r2=>rfl
    | none =>
     dsimp only;split
     ·refine bind_congr λe=>?_
      refine bind_congr λe=>?_
      refine bind_congr λd=>?_
      obtain⟨r3,n3⟩:=d;cases r3<;>rfl
     ·refine bind_congr λe=>?_
      refine bind_congr λd=>?_
      obtain⟨r3,n3⟩:=d;cases r3<;>rfl
structure From (lo:Nat)(st st':SortSt):Prop where
 low:∀ i,i<lo->(arrOf st')[i]?=(arrOf st)[i]?
 pend:pendingOf st'=pendingOf st
theorem From.refl (lo:Nat)(st:SortSt):From lo st st:=⟨λ_ _=>rfl,rfl⟩
theorem From.trans {lo:Nat}{a b c:SortSt}(h:From lo a b)(k:From lo b c):From lo a c:=⟨λi hi=>(k.low i hi).trans (h.low i hi),k.pend.trans h.pend⟩
theorem From.mirror {lo i j:Nat}{st:SortSt}(hi:lo<=i)(hj:j<=(arrOf st).size):From lo st (hG st (hV (arrOf st) i j ((j-i) / 2))) :=
 ⟨λk hk=>by show (hV (arrOf st) i j ((j-i) / 2))[k]?=_;rw[getElem?_mirror_all hj,if_neg ∅],rfl⟩
theorem From.bubble {lo src d:Nat}{st:SortSt}(hs:src<(arrOf st).size)(hd:d<=src)(hl:lo<=src-d):From lo st (hG st (hW (arrOf st) src d)) :=
 ⟨λk hk=>by show (hW (arrOf st) src d)[k]?=_;rw[getElem?_bubble hs d hd,if_neg ∅,if_neg ∅],rfl⟩
theorem wpS_ascL {st:SortSt}{lo a nrem:Nat}{Q:AscSt->SortSt->Prop}(C:Cmp M A E s knd O key a₀)(hn:lo+nrem<=a₀.size)(ha:1<=a)(han:a<=nrem)(hB:SB a₀ knd st)
  (hs:Seg key (arrOf st) lo (lo+a))
  (h:∀ n,a<=n->n<=nrem->Seg key (arrOf st) lo (lo+n)->(n=nrem\/O.klt (KA key (arrOf st) (lo+n)) (KA key (arrOf st) (lo+n-1)))->Q (none,n) st) :
  wpS M A E s (ascL lo a nrem) Q st:=by
 unfold ascL;refine fE (I:=λx c st'=>st'=st/\c=(none,x)/\Seg key (arrOf st) lo (lo+x)) ?step ?fin ⟨rfl,rfl,hs⟩
 case fin =>
  rintro c st' ⟨rfl,rfl,hs'⟩;rw[show max a nrem=nrem by omega] at hs' ⊢;exact h nrem han (ao _) hs' (.inl rfl)
 case step =>
  rintro x c st' hax hxn ⟨rfl,rfl,hs'⟩;dsimp only;refine bV (wpS_ltI C hB ∅ ∅ ?_);cases hless:O.blt (KA key (arrOf st') (lo+x)) (KA key (arrOf st') (lo+x-1))
  case true =>
   simp only[if_true];exact cX (h x hax ∅ hs' (.inr hless))
  case false =>
   simp only[bE,if_false];refine cX ⟨rfl,rfl,λi j hli hij hj=>?_⟩;by_cases hjx:j<lo+x
   ·exact hs' i j hli hij hjx
   ·have hj':j=lo+x:=∅
    subst hj';by_cases hi':i=lo+x
    ·subst hi';exact cF _
    ·exact fw (hs' i (lo+x-1) hli ∅ ∅) hless
theorem wpS_t3L {st:SortSt}{lo n nrem:Nat}{Q:Option Nat->SortSt->Prop}(C:Cmp M A E s knd O key a₀)(hn:lo+nrem<=a₀.size)(h1:1<=n)(hnn:n<=nrem)(hB:SB a₀ knd st)
  (hs:SegD key (arrOf st) lo (lo+n)) (h:∀ m st',SB a₀ knd st'->From lo st st'->1<=m->m<=nrem->Seg key (arrOf st') lo (lo+m)->Q (some m) st') :
  wpS M A E s (t3L lo n nrem) Q st:=by
 unfold t3L;have hsz:lo+n<=(arrOf st).size:=by rw[hB.size];omega
 refine bV (wpS_rev ?_);have hB':SB a₀ knd (setArr st (mirror (arrOf st) lo (lo+n) ((lo+n-lo) / 2))):=hB.setArr (iT _ _ _ _);have hF:=From.mirror (ao lo) hsz;refine bV (wpS_ascL C hn h1 hnn hB' ?_ λm hm1 hm2 hsm _=>cX (h m _ hB' hF ∅ hm2 hsm));intro i j hli hij hj;show O.kle (KA key (mirror (arrOf st) lo (lo+n) ((lo+n-lo) / 2)) i) (KA key (mirror (arrOf st) lo (lo+n) ((lo+n-lo) / 2)) j);rw[KA_mirror hsz,KA_mirror hsz,if_pos ∅,if_pos ∅];exact hs _ _ ∅ ∅ ∅
theorem wpS_desL {st:SortSt}{lo n nrem:Nat}{Q:DescSt->SortSt->Prop}(C:Cmp M A E s knd O key a₀)(hn:lo+nrem<=a₀.size)(h1:1<=n)(hnn:n<=nrem)(hB:SB a₀ knd st)
  (hs:SegD key (arrOf st) lo (lo+n))
  (h:∀ m neq st',SB a₀ knd st'->From lo st st'->n<=m->m<=nrem->SegD key (arrOf st') lo (lo+m)->neq+1<=m->(∀ i,lo+m-(neq+1)<=i->i<lo+m->KA key (arrOf st') i=KA key (arrOf st') (lo+m-1))->Q (none,m,neq) st') :
  wpS M A E s (desL lo n nrem) Q st:=by
 unfold desL
 refine fE (I:=λx c st'=>∃ neq,c=(none,x,neq)/\SB a₀ knd st'/\From lo st st'/\SegD key (arrOf st') lo (lo+x)/\neq+1<=x /\
   (∀ i,lo+x-(neq+1)<=i->i<lo+x->KA key (arrOf st') i=KA key (arrOf st') (lo+x-1))) ?step ?fin ⟨0,rfl,hB,From.refl _ _,hs,∅,λi h1 h2=>by congr 1;congr 1;omega⟩
 case fin =>
  rintro c st' ⟨neq,rfl,hB',hF,hs',hq,he⟩;rw[show max n nrem=nrem by omega] at hs' hq he ⊢;exact h nrem neq st' hB' hF hnn (ao _) hs' hq he
 case step =>
  rintro x c st' hax hxn ⟨neq,rfl,hB',hF,hs',hq,he⟩;dsimp only;have hsz:lo+x<=(arrOf st').size:=by rw[hB'.size];omega
  refine bV (wpS_ltI C hB' ∅ ∅ ?_);cases hless:O.blt (KA key (arrOf st') (lo+x)) (KA key (arrOf st') (lo+x-1))
  case true =>
   simp only[if_true];have step1:∀ xs:Array Keyed,(∀ k,KA key xs k=KA key (arrOf st') k)->SegD key xs lo (lo+(x+1)):=by
    intro xs hk i j hli hij hj;rw[hk,hk];by_cases hjx:j<lo+x
    ·exact hs' i j hli hij hjx
    ·have hj':j=lo+x:=∅
     subst hj';by_cases hi':i=lo+x
     ·subst hi';exact cF _
     ·exact fw (fj hless) (hs' i (lo+x-1) hli ∅ ∅)
   by_cases hneq:neq>0
   ·rw[if_pos hneq];refine bV (wpS_rev (cX ⟨0,rfl,hB'.setArr (iT _ _ _ _),hF.trans (From.mirror ∅ hsz),step1 _ (KA_mirror_equal hsz he),∅,λi h1 h2=>by congr 1;congr 1;omega⟩))
   ·rw[if_neg hneq];exact cX ⟨0,rfl,hB',hF,step1 _ (λ_=>rfl),∅,λi h1 h2=>by congr 1;congr 1;omega⟩
  case false =>
   simp only[bE,if_false];refine bV (wpS_ltI C hB' ∅ ∅ ?_);cases hlarger:O.blt (KA key (arrOf st') (lo+x-1)) (KA key (arrOf st') (lo+x))
   case true =>
    simp only[if_true];exact cX (h x neq st' hB' hF hax ∅ hs' hq he)
   case false =>
    simp only[bE,if_false];have heqx:KA key (arrOf st') (lo+x)=KA key (arrOf st') (lo+x-1):=i6 hlarger hless;refine cX ⟨neq+1,rfl,hB',hF,λi j hli hij hj=>?_,∅,λi h1 h2=>?_⟩
    ·by_cases hjx:j<lo+x
     ·exact hs' i j hli hij hjx
     ·have hj':j=lo+x:=∅
      subst hj';by_cases hi':i=lo+x
      ·subst hi';exact cF _
      ·rw[heqx];exact hs' i (lo+x-1) hli ∅ ∅
    ·rw[show lo+(x+1)-1=lo+x by omega];by_cases hix:i=lo+x
     ·subst hix;rfl
     ·rw[heqx];exact he i ∅ ∅
theorem wpS_desP {st:SortSt}{lo n nrem:Nat}{Q:Option Nat->SortSt->Prop}(C:Cmp M A E s knd O key a₀)(hn:lo+nrem<=a₀.size)(hnn:n+1<=nrem)(hB:SB a₀ knd st)
  (hs:SegD key (arrOf st) lo (lo+(n+1))) (h:∀ m st',SB a₀ knd st'->From lo st st'->1<=m->m<=nrem->Seg key (arrOf st') lo (lo+m)->Q (some m) st') :
  wpS M A E s (desP lo n nrem) Q st:=by
 unfold desP;refine bV (wpS_rule ?_);refine bV (wpS_desL C hn ∅ hnn hB hs λm neq st' hB' hF hm1 hm2 hs' hq he=>?_);dsimp only;have hsz:lo+m<=(arrOf st').size:=by rw[hB'.size];omega
 by_cases hneq:neq>0
 ·rw[if_pos hneq];refine bV (wpS_rev (wpS_t3L C hn ∅ hm2 (hB'.setArr (iT _ _ _ _)) ?_ λm' st'' a b=>h m' st'' a (hF.trans ((From.mirror ∅ hsz).trans b))));intro i j hli hij hj;show O.kle (KA key (mirror (arrOf st') _ _ _) j) (KA key (mirror (arrOf st') _ _ _) i);rw[KA_mirror_equal hsz he,KA_mirror_equal hsz he];exact hs' i j hli hij hj
 ·rw[if_neg hneq];exact wpS_t3L C hn ∅ hm2 hB' hs' λm' st'' a b=>h m' st'' a (hF.trans b)
theorem wpS_cR {st:SortSt}{lo nrem:Nat}{Q:Option Nat->SortSt->Prop}(C:Cmp M A E s knd O key a₀)(hn:lo+nrem<=a₀.size)(h1:1<=nrem)(hB:SB a₀ knd st)
  (h:∀ m st',SB a₀ knd st'->From lo st st'->1<=m->m<=nrem->Seg key (arrOf st') lo (lo+m)->Q (some m) st') :
  wpS M A E s (countRun' lo nrem) Q st:=by
 rw[cR_eq];refine bV (wpS_ascL C hn (ao 1) h1 hB (Seg.one _ _) λn hn1 hn2 hsn hor=>?_);dsimp only;by_cases hnn:n=nrem
 ·rw[if_pos (~~~hnn)];exact cX (h n st hB (From.refl _ _) hn1 hn2 hsn)
 ·rw[if_neg (~~~hnn)];have hlt:O.klt (KA key (arrOf st) (lo+n)) (KA key (arrOf st) (lo+n-1)):=hor.resolve_left hnn;by_cases hgt:n>1
  ·rw[if_pos hgt];refine bV (wpS_ltI C hB ∅ ∅ ?_);cases hrose:O.blt (KA key (arrOf st) lo) (KA key (arrOf st) (lo+n-1))
   case true =>
    simp only[if_true];exact cX (h n st hB (From.refl _ _) hn1 hn2 hsn)
   case false =>
    simp only[bE,if_false];have hsz:lo+n<=(arrOf st).size:=by rw[hB.size];omega
    have hall:∀ k,lo<=k->k<lo+n->KA key (arrOf st) k=KA key (arrOf st) (lo+n-1):=by
     intro k hlk hk;have a1:=hsn lo k ∅ ∅ hk;have a2:=hsn k (lo+n-1) hlk ∅ ∅;exact i6 a2 (fw hrose a1)
    refine bV (wpS_rev (wpS_desP C hn ∅ (hB.setArr (iT _ _ _ _)) ?_ λm' st'' a b=>h m' st'' a ((From.mirror (ao lo) hsz).trans b)));intro i j hli hij hj;show O.kle (KA key (mirror (arrOf st) _ _ _) j) (KA key (mirror (arrOf st) _ _ _) i);rw[KA_mirror_equal hsz hall,KA_mirror_equal hsz hall];by_cases hjn:j<lo+n
    ·rw[hall i ∅ ∅,hall j ∅ hjn];exact cF _
    ·have hj':j=lo+n:=∅
     subst hj';by_cases hi':i=lo+n
     ·subst hi';exact cF _
     ·rw[hall i ∅ ∅];exact fj hlt
  ·rw[if_neg hgt];have hn1':n=1:=∅
   subst hn1';refine wpS_desP C hn ∅ hB ?_ h;intro i j hli hij hj;by_cases hi':i=j
   ·subst hi';exact cF _
   ·have hi0:i=lo:=∅
    have hj1:j=lo+1:=∅
    subst hi0;subst hj1;exact fj hlt
theorem wpS_bS {st:SortSt}{lo n ok:Nat}{Q:Bool->SortSt->Prop}(C:Cmp M A E s knd O key a₀)(hn:lo+n<=a₀.size)(hok:ok<=n)(hB:SB a₀ knd st)(hs:Seg key (arrOf st) lo (lo+ok))
  (h:∀ st',SB a₀ knd st'->From lo st st'->Seg key (arrOf st') lo (lo+n)->Q true st'):wpS M A E s (binarySort' lo n ok) Q st:=by
 rw[binarySort'_eq]
 refine bV (jX (fE (I:=λk c st'=>c=(none,())/\SB a₀ knd st'/\From lo st st'/\Seg key (arrOf st') lo (lo+min k n))
  (Q:=λc st'=>c=(none,())/\SB a₀ knd st'/\From lo st st'/\Seg key (arrOf st') lo (lo+n)) ?step ?fin ?init) ?post)
 case post =>
  rintro c st' ⟨rfl,hB',hF,hs'⟩;exact cX (h st' hB' hF hs')
 case init =>
  refine⟨rfl,hB,From.refl _ _,λi j hli hij hj=>?_⟩;by_cases h1:ok=0
  ·have:i=j:=∅
   subst this;exact cF _
  ·exact hs i j hli hij ∅
 case fin =>
  rintro c st' ⟨hc,hB',hF,hs'⟩;refine⟨hc,hB',hF,?_⟩
  rwa [show min (max (max ok 1) n) n=n by omega] at hs'
 case step =>
  rintro k c st' hak hkn ⟨rfl,hB',hF,hs'⟩;rw[show min k n=k by omega] at hs';have hk:lo+k<a₀.size:=∅
  refine bV (jX (fE (I:=λx c st''=>st''=st'/\∃ l r,c=(none,l,r)/\l<=r/\r<=k/\r-l<=k-x /\
    (∀ i,i<l->O.kle (KA key (arrOf st') (lo+i)) (KA key (arrOf st') (lo+k)))/\(∀ i,r<=i->i<k->O.klt (KA key (arrOf st') (lo+k)) (KA key (arrOf st') (lo+i))))
   (Q:=λc st''=>st''=st'/\∃ l r,c=(none,l,r)/\l<=k /\
    (∀ i,i<l->O.kle (KA key (arrOf st') (lo+i)) (KA key (arrOf st') (lo+k)))/\(∀ i,l<=i->i<k->O.klt (KA key (arrOf st') (lo+k)) (KA key (arrOf st') (lo+i)))) ?istep ?ifin ?iinit) ?ipost)
  case iinit=>exact⟨rfl,0,k,rfl,∅,∅,∅,λi hi=>∅,λi h1 h2=>∅⟩
  case ifin =>
   rintro c st'' ⟨rfl,l,r,rfl,hlr,hrk,hm,hlo,hhi⟩;have:l=r:=∅
   subst this;exact⟨rfl,l,l,rfl,hrk,hlo,hhi⟩
  case istep =>
   rintro x c st'' _ hxk ⟨rfl,l,r,rfl,hlr,hrk,hm,hlo,hhi⟩;dsimp only;by_cases hge:l>=r
   ·rw[if_pos hge];have:l=r:=∅
    subst this;exact cX ⟨rfl,l,l,rfl,hrk,hlo,hhi⟩
   ·rw[if_neg hge];refine bV (wpS_ltI C hB' hk ∅ ?_);cases hless:O.blt (KA key (arrOf st'') (lo+k)) (KA key (arrOf st'') (lo+(l+r) / 2))
    case true =>
     simp only[if_true];refine cX ⟨rfl,l,(l+r) / 2,rfl,∅,∅,∅,hlo,λi h1 h2=>?_⟩;exact KeyOrd.klt_of_klt_of_kle hless (hs' _ _ ∅ ∅ ∅)
    case false =>
     simp only[bE,if_false];refine cX ⟨rfl,(l+r) / 2+1,r,rfl,∅,∅,∅,λi h1=>?_,hhi⟩;exact fw (hs' (lo+i) (lo+(l+r) / 2) ∅ ∅ ∅) (show O.kle _ _ from hless)
  case ipost =>
   rintro c st'' ⟨rfl,l,r,rfl,hlk,hlo,hhi⟩;show wpS _ _ _ _ (do moveDown' (lo+k) (lo+l);pure (bW (none,()))) _ _;rw[moveDown'_eq];have hks:lo+k<(arrOf st'').size:=by rw[hB'.size];exact hk
   refine bV (jx (cX ⟨rfl,hB'.setArr (bubble_perm _ _ _),hF.trans (From.bubble hks ∅ ∅),?_⟩));rw[show min (k+1) n=k+1 by omega];intro i j hli hij hj;show O.kle (KA key (bubble (arrOf st'') (lo+k) (lo+k-(lo+l))) i) (KA key (bubble (arrOf st'') (lo+k) (lo+k-(lo+l))) j);rw[KA_bubble hks ∅,KA_bubble hks ∅,show lo+k-(lo+k-(lo+l))=lo+l by omega];have hlo':∀ i,lo<=i->i<lo+l->O.kle (KA key (arrOf st'') i) (KA key (arrOf st'') (lo+k)):=λi a b=>by
    have:=hlo (i-lo) ∅
    rwa [show lo+(i-lo)=i by omega] at this
   have hhi':∀ i,lo+l<=i->i<lo+k->O.klt (KA key (arrOf st'') (lo+k)) (KA key (arrOf st'') i):=λi a b=>by
    have:=hhi (i-lo) ∅ ∅
    rwa [show lo+(i-lo)=i by omega] at this
   repeat' split
   all_goals first
    | (exfalso;omega)
    | exact cF _
    | exact hlo' _ ∅ ∅
    | exact fj (hhi' _ ∅ ∅)
    | exact hs' _ _ ∅ ∅ ∅
end
end Ts
namespace Ts
open PySem PyProof.Rows
set_option autoImplicit false
end Ts
namespace Ts
open PySem PyProof.Rows
set_option autoImplicit false
theorem toList_el {a:Array Keyed}{k:Nat}(h:k<a.size):a.toList[k]?=some (el a k):=by
 rw[bP];exact el_some h
section
variable {O:KeyOrd}{key:Keyed->O.α}
def le {O:KeyOrd}(key:Keyed->O.α)(p q:Keyed):Prop:=O.kle (key p) (key q)
theorem pw_of_seg {a:Array Keyed}(h:Seg key a 0 a.size):a.toList.Pairwise (le key):=by
 rw[List.pairwise_iff_getElem];intro i j hi hj hij;have hi':i<a.size:= ~~~hi
 have hj':j<a.size:= ~~~hj
 have e1:=toList_el hi';rw[aG hi] at e1;have e2:=toList_el hj';rw[aG hj] at e2;rw[ak e1,ak e2];exact h i j ∅ ∅ hj'
variable {a b o:Array Keyed}{i j:Nat}
end
end Ts
namespace Ts
open PySem PyProof.Rows
set_option autoImplicit false
end Ts
namespace Ts
open PySem PyProof.Rows
set_option autoImplicit false
end Ts
namespace Ts
open PySem PyProof.Rows
set_option autoImplicit false
end Ts
namespace Ts
open PySem PyProof.Rows
set_option autoImplicit false
section
variable {M:Model}{A:Around}{E:Value->Shared->Prop}{s:Shared}{a₀:Array Keyed}{knd:SortKind}{O:KeyOrd}{key:Keyed->O.α}
def Rn {O:KeyOrd}(key:Keyed->O.α)(xs:Array Keyed):Nat->List (Nat×Nat×Nat)->Nat->Prop
 | s,[],e=>s=e
 | s,x::r,e=>x.1=s/\1<=x.2.1/\Seg key xs s (s+x.2.1)/\Rn key xs (s+x.2.1) r e
theorem Rn.le {xs:Array Keyed}:∀ {p:List (Nat×Nat×Nat)} {s e:Nat},Rn key xs s p e->s+p.length<=e
 | [],s,e,h=>by cases h;simp
 | x::r,s,e,h=>by
  have:=Rn.le h.2.2.2;have:=h.2.1;rw[aw];omega
theorem Rn.congr {xs ys:Array Keyed}:∀ {p:List (Nat×Nat×Nat)} {s e:Nat},Rn key xs s p e->(∀ k,s<=k->k<e->ys[k]?=xs[k]?)->Rn key ys s p e
 | [],s,e,h,_=>h
 | x::r,s,e,h,k=>⟨h.1,h.2.1,h.2.2.1.congr (λi a b=>KA_congr (k i a (by have:=Rn.le h.2.2.2;omega))),Rn.congr h.2.2.2 λi a b=>k i ∅ b⟩
theorem Rn.cat {xs:Array Keyed}:∀ {p q:List (Nat×Nat×Nat)} {s m e:Nat},Rn key xs s p m->Rn key xs m q e->Rn key xs s (p++q) e
 | [],q,s,m,e,h,k=>by cases h;exact k
 | x::r,q,s,m,e,h,k=>⟨h.1,h.2.1,h.2.2.1,Rn.cat h.2.2.2 k⟩
structure RB {O:KeyOrd}(key:Keyed->O.α)(a₀:Array Keyed)(knd:SortKind)(lo:Nat)(p:List (Nat×Nat×Nat))(st:SortSt):Prop where
 sb:SB a₀ knd st
 pd:pendingOf st=p.toArray
 rn:Rn key (arrOf st) 0 p lo
 hl:lo<=a₀.size
theorem RB.push {st:SortSt}{lo n:Nat}{p:List (Nat×Nat×Nat)}(hR:RB key a₀ knd lo p st)(h1:1<=n)(h2:lo+n<=a₀.size)(hs:Seg key (arrOf st) lo (lo+n)) :
  RB key a₀ knd (lo+n) (p++[(lo,n,0)]) (setPending st ((pendingOf st).push (lo,n,0))) :=
 ⟨⟨hR.sb.perm,hR.sb.kind,hR.sb.failed⟩,by show (pendingOf st).push _=_;rw[hR.pd,List.push_toArray],hR.rn.cat ⟨rfl,h1,hs,rfl⟩,h2⟩
theorem minRun_short:∀ n,1<=n->n<64->minRun' n n 0=n
 | 0,h,_=>absurd h (by decide)
 | k+1,_,h=>by rw[minRun'_succ,if_pos h,jm]
theorem wpS_sRs {st:SortSt}{Q:Unit->SortSt->Prop}(C:Cmp M A E s knd O key a₀)(hB:SB a₀ knd st)(hp:pendingOf st=#[])(h2:2<=a₀.size)(h64:a₀.size<64)
  (h:∀ st',SB a₀ knd st'->Seg key (arrOf st') 0 a₀.size->Q () st'):wpS M A E s sortRuns' Q st:=by
 rw[sortRuns'_eq];refine bV (jG ?_);dsimp only;simp only[hB.size];rw[minRun_short _ ∅ h64]
 refine bV (jX (fE
  (I:=λx c st'=>∃ lo p,c=(none,lo)/\RB key a₀ knd lo p st'/\x<=lo/\(lo=0/\p=[]\/p.length<=1/\lo=a₀.size))
  (Q:=λc st'=>∃ p,c=(none,a₀.size)/\RB key a₀ knd a₀.size p st'/\p.length<=1) ?step ?fin ⟨0,[],rfl,⟨hB,hp,rfl,∅⟩,∅,.inl ⟨rfl,rfl⟩⟩) ?post)
 case fin =>
  rintro c st' ⟨lo,p,rfl,hR,hx,ho⟩;have:lo=a₀.size:=by have:=hR.hl;omega
  subst this;exact⟨p,rfl,hR,∅⟩
 case post =>
  rintro c st' ⟨p,rfl,hR,hl⟩;dsimp only
  refine bV (jX (fE (I:=λx c st'=>c=(none,())/\∃ p,RB key a₀ knd a₀.size p st'/\p.length<=1)
   (Q:=λc st'=>c=(none,())/\∃ p,RB key a₀ knd a₀.size p st'/\p.length<=1) ?_ (λ_ _ z=>z) ⟨rfl,p,hR,hl⟩) ?_)
  ·rintro x c st3 _ hx ⟨rfl,p,hR3,hlen⟩;refine bV (jG ?_);have hsz:(pendingOf st3).size=p.length:=by rw[hR3.pd];simp
   rw[if_pos ∅];exact cX ⟨rfl,p,hR3,∅⟩
  ·rintro c st3 ⟨rfl,p,hR3,hlen⟩;refine cX (h st3 hR3.sb ?_);have hrn:=hR3.rn
   match p,hlen,hrn with
   | [],_,hrn=>exact absurd hrn (by show ¬ (0=a₀.size);omega)
   | [x],_,hrn =>
    obtain⟨_,_,g,e⟩:=hrn;have e:0+x.2.1=a₀.size:=e;rw[e] at g;exact g
   | _::_::_,hlen,_=>simp at hlen
 case step =>
  rintro x c st1 _ hx ⟨lo,p,rfl,hR,hxl,ho⟩;dsimp only;by_cases hlo:lo>=a₀.size
  ·rw[if_pos hlo];have:lo=a₀.size:=by have:=hR.hl;omega
   subst this;exact cX ⟨p,rfl,hR,∅⟩
  rw[if_neg hlo];obtain⟨rfl,rfl⟩:lo=0/\p=[]:=ho.resolve_right ∅;refine bV (wpS_cR C ∅ ∅ hR.sb λfound st2 hB2 hF2 hm1 hm2 hs2=>?_);dsimp only;have hR2:RB key a₀ knd 0 [] st2:=⟨hB2,hF2.pend.trans hR.pd,hR.rn.congr λk _ hk=>hF2.low k hk,hR.hl⟩
  by_cases hmin:found<a₀.size
  ·rw[if_pos hmin];refine bV (wpS_rule ?_);refine bV (wpS_bS C ∅ ∅ hB2 hs2 λst3 hB3 hF3 hs3=>?_);simp only[Bool.not_true,bE,if_false];have hR3:RB key a₀ knd 0 [] st3:=⟨hB3,hF3.pend.trans hR2.pd,hR2.rn.congr λk _ hk=>hF3.low k hk,hR.hl⟩
   refine bV (jG ?_);rw[show (pendingOf st3).back?=none by rw[hR3.pd];rfl];dsimp only;refine bV (jx ?_);exact cX ⟨_,_,rfl,hR3.push ∅ ∅ hs3,∅,.inr ⟨by simp,∅⟩⟩
  ·rw[if_neg hmin];refine bV (jG ?_);rw[show (pendingOf st2).back?=none by rw[hR2.pd];rfl];dsimp only;refine bV (jx ?_);exact cX ⟨_,_,rfl,hR2.push hm1 ∅ hs2,∅,.inr ⟨by simp,∅⟩⟩
end
end Ts
end
section
namespace L2
open PySem PySem.Spec PyProof.Rows
def clo (env:Env):List (Str×NameKind)->List (Str×Addr)->List (Str×Addr)
 | [],cs=>cs
 | y::r,cs=>clo env r (if y.2 == bz then (y.1,(env.cells.lookup y.1).getD 0)::cs else cs)
theorem a9S {env:Env}:∀(names:List (Str×NameKind)) (cs:List (Str×Addr)),(∀ y∈names,y.2=.free->∃ c,env.cells.lookup y.1=some c) ->
  (forIn names cs λ(x:Str×NameKind) (r:List (Str×Addr))=>(if (x.2 == bz)=true then do
   let c <- cellOf env x.1
   pure (bW ((x.1,c)::r)) else pure (bW r):Sem (ForInStep (List (Str×Addr)))))=pure (clo env names cs)
 | [],cs,_=>by rw[List.forIn_nil];rfl
 | y::r,cs,h=>by
  rw[List.forIn_cons];unfold clo;have hr:=a9S r (if y.2 == bz then (y.1,(env.cells.lookup y.1).getD 0)::cs else cs) λz hz=>h z (aN _ hz)
  by_cases e:(y.2 == bz)=true
  ·obtain⟨c,hc⟩:=h y aT (~~~e);have ec:cellOf env y.1=pure c:=by unfold cellOf;rw[hc]
   rw[if_pos e] at hr ⊢;rw[if_pos e,ec];rw[hc] at hr ⊢;exact hr
  ·rw[if_neg e] at hr ⊢;rw[if_neg e];exact hr
theorem a4Q {env:Env}{scope:Scope}(h:∀ y∈scope.names,y.2=.free->∃ c,env.cells.lookup y.1=some c):closureFor scope env=pure (clo env scope.names []):=by
 have e:=a9S scope.names [] h;unfold closureFor;refine Eq.trans ?_ (congrArg (λt=>t >>= λcs=>(pure cs:Sem (List (Str×Addr)))) e);rfl
theorem K8 {β:Type}(x n:Str)(c:β)(r:List (Str×β)):List.lookup x ((n,c)::r)=if x=n then some c else List.lookup x r:=by
 rw[List.lookup_cons];by_cases e:x=n
 ·have hb:(x == n)=true:=beq_iff_eq.mpr e;rw[if_pos e];simp[hb]
 ·have hb:(x == n)=false:=beq_eq_false_iff_ne.mpr e;rw[if_neg e];simp[hb]
theorem P9 {env:Env}(x:Str):∀(names:List (Str×NameKind)) (cs:List (Str×Addr)),
  (clo env names cs).lookup x=if (names.any λy=>decide (y.1=x) && (y.2 == bz))=true then some ((env.cells.lookup x).getD 0) else cs.lookup x
 | [],cs=>by simp[clo]
 | y::r,cs=>by
  unfold clo;rw[P9 x r,dD];by_cases e:(y.2 == bz)=true
  ·rw[if_pos e,K8];by_cases ex:y.1=x
   ·rw[decide_eq_true ex,e,if_pos ex.symm,ex];simp
   ·rw[decide_eq_false ex,if_neg (show ¬ x=y.1 from λz=>ex z.symm),fm,Bool.false_or]
  ·have e':(y.2 == bz)=false:= ~~~e
   rw[if_neg e,e'];simp
def a0o (sc osc:Scope):Bool :=
 (match sc.kind with | .function=>true | _=>false) &&
  sc.names.all λy=>match y.2 with
   | .cell=>false
   | .local=>(match sc.names.lookup y.1 with | some .local=>true | _=>false)
   | .free=>(match osc.names.lookup y.1 with | some .cell=>true | some .free=>true | _=>false)
   | _=>true
structure Y9 (sc osc:Scope):Prop where
 kind:sc.kind=.function
 noCell:∀ y∈sc.names,y.2≠.cell
 loc:∀ y∈sc.names,y.2=.local->sc.names.lookup y.1=some .local
 free:∀ y∈sc.names,y.2=.free->osc.names.lookup y.1=some .cell\/osc.names.lookup y.1=some .free
theorem V4 {sc osc:Scope}(h:a0o sc osc=true):Y9 sc osc:=by
 unfold a0o at h;rw[df,eU] at h;obtain⟨h1,h2⟩:=h;refine⟨?_,λy hy e=>?_,λy hy e=>?_,λy hy e=>?_⟩
 ·cases e:sc.kind with
  | function=>rfl
  | _=>rw[e] at h1;cases h1
 ·have:=h2 y hy;rw[e] at this;cases this
 ·have:=h2 y hy;rw[e] at this;dsimp only at this;split at this
  ·assumption
  ·cases this
 ·have:=h2 y hy;rw[e] at this;dsimp only at this;split at this
  ·left;assumption
  ·right;assumption
  ·cases this
def cxC (X:Cx)(scope:Scope)(N':List Str)(pins:List (Addr×Obj))(fp:List Addr)(s:Shared)(H:Hp):Cx where
 prog:=X.prog
 w:=X.w
 K:=X.K
 mg:=X.mg
 base:=X.base
 A:=X.A
 N:=N'
 sv:=s
 Hz:=H
 env:=compEnvC scope (clo X.env scope.names []) s.heap.objs.size X.env
 outer:=X.stack
 stack:=X.stack
 ex:=fp
 fn:=λ_=>false
 calm:=true
 pn:=X.pn++pins
 xe:=λ_ _=>False
section
variable {X:Cx}{scope:Scope}{own:List Str}{fr:List (Str×Nat)}{fp:List Addr}{pins:List (Addr×Obj)}{σ:St}{H:Hp}{s:Shared}
def st0 (own:List Str)(fr:List (Str×Nat))(σ:St):St:=own.map (λ_=>i7)++fr.map λp=>(σ[p.2]?).join
def a0P (X:Cx)(scope:Scope)(fr:List (Str×Nat)):Prop:=∀ p∈fr,X.N[p.2]?=some p.1/\scope.names.lookup p.1=some .free
theorem C6:a0P X scope []:=λ_ h=>nomatch h
theorem E3 {p:Str×Nat}{r:List (Str×Nat)}(h1:X.N[p.2]?=some p.1)(h2:scope.names.lookup p.1=some .free)(h:a0P X scope r):a0P X scope (p::r):=λq hq=>by
 rcases aL.mp hq with rfl | hq
 ·exact⟨h1,h2⟩
 ·exact h q hq
theorem M5 {β:Type}{x:Str}{k:β}:∀ {l:List (Str×β)},l.lookup x=some k->(x,k)∈l
 | [],h=>by cases h
 | (n,c)::r,h=>by
  rw[K8] at h;by_cases e:x=n
  ·rw[if_pos e] at h;cases h;rw[e];exact aT
  ·rw[if_neg e] at h;exact aN _ (M5 h)
theorem T5 {env:Env}{x:Str}:∀ {names:List (Str×NameKind)} {k:NameKind},
  (names.map λ(y:Str×NameKind)=>if (y.2 == bz && env.scope.kind == .function && env.kindOf y.1 == some .cell) then (y.1,cf) else (y.1,y.2)).lookup x=some k ->
  ∃ k',names.lookup x=some k'/\(k=k'\/(k'=.free/\k=.cell))
 | [],k,h=>by cases h
 | (n,c)::r,k,h=>by
  rw[aA] at h;rw[K8];by_cases e:x=n
  ·rw[if_pos e];refine⟨c,rfl,?_⟩;by_cases q:(c == bz && env.scope.kind == .function && env.kindOf n == some .cell)=true
   ·have hh:(if (((n,c):Str×NameKind).2 == bz && env.scope.kind == .function && env.kindOf ((n,c):Str×NameKind).1 == some .cell)=true then (((n,c):Str×NameKind).1,cf) else (((n,c):Str×NameKind).1,((n,c):Str×NameKind).2))=(n,cf):=if_pos q;rw[hh,K8,if_pos e] at h;cases h;refine .inr ⟨?_,rfl⟩;simp only[df] at q;simpa using q.1.1
   ·have hh:(if (((n,c):Str×NameKind).2 == bz && env.scope.kind == .function && env.kindOf ((n,c):Str×NameKind).1 == some .cell)=true then (((n,c):Str×NameKind).1,cf) else (((n,c):Str×NameKind).1,((n,c):Str×NameKind).2))=(n,c):=if_neg q;rw[hh,K8,if_pos e] at h;cases h;exact .inl rfl
  ·rw[if_neg e];have h':(r.map λ(y:Str×NameKind)=>if (y.2 == bz && env.scope.kind == .function && env.kindOf y.1 == some .cell) then (y.1,cf) else (y.1,y.2)).lookup x=some k:=by
    by_cases q:(c == bz && env.scope.kind == .function && env.kindOf n == some .cell)=true
    ·have hh:(if (((n,c):Str×NameKind).2 == bz && env.scope.kind == .function && env.kindOf ((n,c):Str×NameKind).1 == some .cell)=true then (((n,c):Str×NameKind).1,cf) else (((n,c):Str×NameKind).1,((n,c):Str×NameKind).2))=(n,cf):=if_pos q;rw[hh,K8,if_neg e] at h;exact h
    ·have hh:(if (((n,c):Str×NameKind).2 == bz && env.scope.kind == .function && env.kindOf ((n,c):Str×NameKind).1 == some .cell)=true then (((n,c):Str×NameKind).1,cf) else (((n,c):Str×NameKind).1,((n,c):Str×NameKind).2))=(n,c):=if_neg q;rw[hh,K8,if_neg e] at h;exact h
   exact T5 h'
theorem a0w {env:Env}{x:Str}:∀ {names:List (Str×NameKind)},names.lookup x=some .free ->
  (names.map λ(y:Str×NameKind)=>if (y.2 == bz && env.scope.kind == .function && env.kindOf y.1 == some .cell) then (y.1,cf) else (y.1,y.2)).lookup x=some .cell \/
  (names.map λ(y:Str×NameKind)=>if (y.2 == bz && env.scope.kind == .function && env.kindOf y.1 == some .cell) then (y.1,cf) else (y.1,y.2)).lookup x=some .free
 | [],h=>by cases h
 | (n,c)::r,h=>by
  rw[K8] at h;rw[aA];have red:∀ b:Bool,(if b=true then (n,cf) else (n,c))=(n,if b=true then cf else c):=λb=>by cases b<;>rfl
  have hh:(if (((n,c):Str×NameKind).2 == bz && env.scope.kind == .function && env.kindOf ((n,c):Str×NameKind).1 == some .cell)=true then (((n,c):Str×NameKind).1,cf) else (((n,c):Str×NameKind).1,((n,c):Str×NameKind).2))=(n,if (c == bz && env.scope.kind == .function && env.kindOf n == some .cell)=true then cf else c):=red _;rw[hh,K8];by_cases e:x=n
  ·rw[if_pos e] at h ⊢;cases h;generalize (bz == bz && env.scope.kind == .function && env.kindOf n == some .cell)=b;cases b
   ·right;rfl
   ·left;rfl
  ·rw[if_neg e] at h ⊢;exact a0w h
theorem a4G (I:Inv X pins σ H s)(hc:Y9 scope X.env.scope)(hcalm:X.calm=true)(hf:∀ b∈fp,a0p X pins H b)(hlt:∀ b∈fp,b<s.heap.objs.size)(hfr:a0P X scope fr){h1:Heap}{m:Str->Option Value}(hns:h1.Ns s.heap.objs.size m)
  (hsb:∀ b o,s.heap.get? b=some o->h1.get? b=some o):Inv (cxC X scope (own++fr.map (·.1)) pins fp s H) [] (st0 own fr σ) H {s with heap:=h1}:=by
 have clX:∀ x c,(clo X.env scope.names []).lookup x=some c->X.env.cells.lookup x=some c:=λx c e=>by
  rw[P9] at e;split at e
  ·rename_i q;obtain⟨y,hy,hq⟩:=bC.mp q;rw[df] at hq;have e1:y.1=x:=of_decide_eq_true hq.1;have e2:y.2=.free:= ~~~hq.2
   obtain⟨c',hc'⟩:=I.ok.has x (by
    have:=hc.free y hy e2;rw[e1] at this
    exact this)
   rw[hc'] at e ⊢;exact e
  ·cases e
 have hlen:∀ b∈frs X.stack,b≠s.heap.objs.size/\b∈X.env.locals::X.fs:=λb hb=>by
  have hm:=I.stkSub b hb;refine⟨λz=>?_,hm⟩;rcases aL.mp hm with q | q
  ·have:=I.lt;rw[<- q,z] at this;exact bG _ this
  ·exact I.nofs (dy z.symm) q
 have ok:(cxC X scope (own++fr.map (·.1)) pins fp s H).Ok :=
  {mod:=I.ok.mod
   kind:=hc.kind
   glob:=I.ok.glob
   blt:=I.ok.blt
   above:=ao _
   inj:=λx y c hx hy=>I.ok.inj x y c (clX x c hx) (clX y c hy)
   has:=λx hx=>by
    have hx:(relabel scope X.env).names.lookup x=some .cell\/(relabel scope X.env).names.lookup x=some .free:=hx;have key:scope.names.lookup x=some .free:=by
     rcases hx with hx | hx
     ·obtain⟨k',e1,e2⟩:=T5 hx;rcases e2 with e2 | ⟨e2,_⟩
      ·subst e2;exact absurd rfl (hc.noCell (x,.cell) (M5 e1))
      ·subst e2;exact e1
     ·obtain⟨k',e1,e2⟩:=T5 hx;rcases e2 with e2 | ⟨e2,e3⟩
      ·subst e2;exact e1
      ·cases e3
    have hm:=M5 key;refine⟨(X.env.cells.lookup x).getD 0,?_⟩;show (clo X.env scope.names []).lookup x=_;rw[P9,if_pos (bC.mpr ⟨(x,.free),hm,by simp⟩)]
   cab:=λx c h=>nomatch h
   hd:=λ_=>I.ok.hd hcalm
   frames:=I.ok.frames
   stk:=.inl rfl
   exf:=λb hb=>⟨aK (hlt b hb),λx c e=>(hf b hb).2.2.2.2.1 x c (clX x c e)⟩
   bs:=I.bs
   bsz:=aV I.ok.bsz I.sz
   noex:=λb o e hb=>by
    rcases (hf b hb).2.2.2.1 with q | q
    ·exact I.ok.noex b o e q
    ·have h1:b<X.base.objs.size:=ar e;have h2:=I.ok.bsz;exact absurd (aO h1 h2) (Nat.not_lt.mpr q)
   exfs:=λb hb hm=>by
    have hm:=I.stkSub b hm;rcases aL.mp hm with q | q
    ·exact (hf b hb).2.1 q
    ·exact (hf b hb).2.2.1 q
   funs:=I.stack
   frf:=I.stkFree}
 refine⟨ok,rfl,I.bare,Un.kept hsb,⟨m,hns,λi x v hx hv hvis=>?_⟩,λx c e=>?_,I.fresh,λx c e=>I.freeC x c (clX x c e),λp hp=>?_,I.hok.kept hsb,?_⟩
 ·-- the names
  have hi:own.length<=i:=by
   rcases bN i own.length with h | h
   ·unfold st0 at hv;rw[dn (~~~h),ah] at hv;cases e:own[i]? with
    | none=>rw[e] at hv;cases hv
    | some z=>rw[e] at hv;cases hv
   ·exact h
  have hx:(own++fr.map (·.1))[i]?=some x:=hx;unfold st0 at hv;rw[cC (~~~hi),ah] at hv;rw[cC hi,ah] at hx;rw[aa] at hv;cases e:fr[i-own.length]? with
  | none=>rw[e] at hx;cases hx
  | some p =>
   rw[e] at hx hv;have ex:p.1=x:=ak hx;have ev:(σ[p.2]?).join=some v:=ak hv;obtain⟨hN,hfree⟩:=hfr p (di.mpr ⟨_,e⟩);rw[ex] at hN hfree;have hk:=hc.free (x,.free) (M5 hfree) rfl;have hσ:σ[p.2]?=some (some v):=by
    cases q:σ[p.2]? with
    | none=>rw[q] at ev;cases ev
    | some o=>rw[q] at ev;exact congrArg some ev
   obtain⟨mX,nX,lX⟩:=I.loc;obtain⟨u,ru,look⟩:=lX p.2 x v hN hσ (.inr hk);refine⟨u,ru,.inr ⟨a0w hfree,?_⟩⟩;rcases look with ⟨k1,_⟩ | ⟨_,c,hcc,hcell⟩
   ·exfalso;have k1:X.env.scope.names.lookup x=some .local:=k1;rcases hk with q | q<;>(rw[k1] at q;cases q)
   ·refine⟨c,?_,?_⟩
    ·show (clo X.env scope.names []).lookup x=_;rw[P9,if_pos (bC.mpr ⟨(x,.free),M5 hfree,by simp⟩),hcc];rfl
    ·exact hcell.keeps hsb
 ·obtain⟨v,hv⟩:=I.cell x c (clX x c e);exact⟨v,hv.keeps hsb⟩
 ·have hp:p∈X.pn++pins:=by
   rcases aj.mp hp with q | q
   ·exact q
   ·cases q
  obtain⟨a1,a2,a3,a4,a5⟩:=I.pin p hp;refine⟨hsb _ _ a1,a2,aK (ar a1),λhm=>?_,a5⟩;have hm:=I.stkSub _ hm;rcases aL.mp hm with q | q
  ·exact a3 q
  ·exact a4 q
 ·show (st0 own fr σ).length=(own++fr.map (·.1)).length;unfold st0;rw[aI,aI,aa,aa,aa]
end
end L2
namespace L2
open PySem PySem.Spec PyProof.Rows
def PTs (X:Cx)(ifs:List Expr)(t:TT):Prop :=
 ∀(pins:List (Addr×Obj)) (s:Shared) (σ:St) (H:Hp) (Q:Bool->Hp->Prop),Inv X pins σ H s->t σ H Q ->
  wpAny (model X.prog X.w) X.A (forIn ifs true λc r=>if r=true then do let ok <- isTrue c X.env (eval c X.env);pure (bW ok) else pure (bW r)) (TP X pins σ Q) X.xe s
def b2c:TT:=λ_ H Q=>Q true H
theorem J2 {X:Cx}:PTs X [] b2c:=λpins s σ H Q I h=>wpAny_tests_nil ⟨H,I,h⟩
theorem S0 {X:Cx}{c:Expr}{t:TT}(h:PT X c t):PTs X [c] t:=λpins s σ H Q I q=>wpAny_tests_one (h pins s σ H Q I q)
theorem a5A {prog:Program}{w:World}{A:Around}{R:Result->Shared->Prop}{s:Shared}{elt target iter:Expr}{ifs:List Expr}{scope:Scope}{pos:Pos}{it acc:Value}{env:Env}(I:Nat->Shared->Prop)
  (turn:∀ n s,I n s->wpAny (model prog w) A (pyNext it) (λr sq=>match r with
   | none=>R (.ok .next) sq
   | some v=>wpAny (model prog w) A (letOwnedTupleGo target it v) (λ_ sq=>wpAny (model prog w) A (assign target env v) (λ_ sx =>
     wpAny (model prog w) A (forIn ifs true λc r=>if r=true then do let ok <- isTrue c env (eval c env);pure (bW ok) else pure (bW r)) (λok sj =>
      if ok=true then wpAny (model prog w) A (eval elt env) (λx sg =>
       wpAny (model prog w) A (call (.builtin "list.append") [acc,x]) (λ_ sw=>∃ m,m<n/\I m sw) (λ_ _=>False) sg) (λ_ _=>False) sj
      else ∃ m,m<n/\I m sj) (λ_ _=>False) sx) (λ_ _=>False) sq) (λ_ _=>False) sq) (λ_ _=>False) s)
  (n:Nat) (h:I n s):codeAny (model prog w) A (.compLoop (.ListComp elt [⟨target,iter,ifs,0⟩] scope pos) 0 it acc env) R s:=by
 refine codeAny_loop rfl I (λn s hI=>?_) n h;show wpAny _ A ((compTurn (.ListComp elt [⟨target,iter,ifs,0⟩] scope pos) 0 it acc env).onRaise (λx=>do noteFrame x env;theTreesLotGoes x)) _ _ s;refine wpAny_noted ?_;rw[compTurn_list];refine ae (dG (ae (bB (turn n s hI) (λr sq h₁=>?_) λ_ _ h'=>h'.elim)));cases r with
 | none=>exact ag h₁
 | some v =>
  refine ae (bB h₁ (λ_ sq h₁=>?_) λ_ _ h'=>h'.elim);refine ae (bB h₁ (λ_ sx h₂=>ae (bB h₂ (λok sj h₃=>?_) λ_ _ h'=>h'.elim)) λ_ _ h'=>h'.elim);cases ok with
  | false=>exact ag ⟨rfl,h₃⟩
  | true =>
   exact ae (ae (bB h₃ (λx sg h₄=>ae (bB h₄ (λ_ sw h₅=>ag (ag ⟨rfl,h₅⟩)) λ_ _ h'=>h'.elim)) λ_ _ h'=>h'.elim))
def lcW (g:TG)(tc:TT)(te:TE)(p:Addr)(J:It)(τ0:St)(H0:Hp)(E:Hp->Prop):Prop :=
 ∃ W:Nat->Nat->St->Hp->Prop,(∃ m,W 0 m τ0 H0)/\∀ i m τ H,W i m τ H ->
  (J.stop i H/\E H)\/(J.go i H/\∃ N:St->Hp->Prop,(∀ τ' H',N τ' H'->∃ m',m'<m/\W (i+1) m' τ' H') /\
   ∀ x H',J.yld i H x H'->g x τ H' fun τ2 H2=>tc τ2 H2 λb H3=>if b=true then te τ2 H3 λv H4=>∃ ys,H4 p=some (.lst ys)/\ys.length<sizeLine/\N τ2 (upd H4 p (.lst (ys++[v]))) else N τ2 H3)
def tLC (own:List Str)(fr:List (Str×Nat))(wi:TI)(g:TG)(tc:TT)(te:TE):TE:=fun σ H Q =>
 wi σ H λJ H1=>∀ p,H1 p=none->lcW g tc te p J (st0 own fr σ) (upd H1 p (.lst [])) λH2=>Q (.ref p) H2
section
variable {X:Cx}{elt tg iter:Expr}{ifs:List Expr}{scope:Scope}{pos:Pos}{own:List Str}{fr:List (Str×Nat)}{wi:TI}{g:TG}{tc:TT}{te:TE}
structure Blk (X:Cx)(scope:Scope)(N':List Str)(tg:Expr)(ifs:List Expr)(elt:Expr)(g:TG)(tc:TT)(te:TE):Prop where
 run:∀ pins fp s H,PG (cxC X scope N' pins fp s H) tg g/\PTs (cxC X scope N' pins fp s H) ifs tc/\PE (cxC X scope N' pins fp s H) elt te
structure K5 (X:Cx)(pins:List (Addr×Obj))(H:Hp)(C:Addr):Prop where
 un:H C=none
 loc:C≠X.env.locals
 new:X.sv.heap.objs.size<=C
 cel:∀ x c,X.env.cells.lookup x=some c->c≠C
 pin:∀ p∈X.pn++pins,p.1≠C
theorem K5.inv {pins:List (Addr×Obj)}{σ:St}{H:Hp}{s:Shared}{C:Addr}{h':Heap}(f:K5 X pins H C)(I:Inv X pins σ H s)(hs:dh C s.heap h'):Inv X pins σ H {s with heap:=h'} :=
 I.turned (t':=s.toks) (λb o hb e=>hs.extBut b o hb e) f.un f.loc (.inr f.new) f.cel f.pin
theorem a2T {pins:List (Addr×Obj)}{σ:St}{H2:Hp}{s2:Shared}{it:Addr}{fp:List Addr}{tn:Nat->Heap->Prop}{J:It}{EE:Hp->Prop}{RR:Value->Addr->Result->Shared->Prop}{E:Value->Shared->Prop}
  (hcalm:X.calm=true) (hc:Y9 scope X.env.scope) (hfr:a0P X scope fr) (B:Blk X scope (own++fr.map (·.1)) tg ifs elt g tc te)
  (I2:Inv X pins σ H2 s2) (T:a5O X.prog X.w X.K tg J fp it tn) (st2:tn 0 s2.heap) (f2:∀ b∈fp,a0p X pins H2 b)
  (hw:lcW g tc te s2.heap.objs.size J (st0 own fr σ) (upd H2 s2.heap.objs.size (.lst [])) EE)
  (hRR:∀ C H' s' m,EE H'->s'.heap.Ns C m->Inv X pins σ H' s'->K5 X pins H' C->RR (.ref s2.heap.objs.size) C (.ok .next) s') :
  wpAny (model X.prog X.w) X.A (newList []) (λacc sj=>wpAny (model X.prog X.w) X.A (newFunctionEnv scope X.env.globals (clo X.env scope.names []) [] X.env.qual none .none (some X.env)) (λcenv sg =>
   codeAny (model X.prog X.w) X.A (.compStart (.ListComp elt [⟨tg,iter,ifs,0⟩] scope pos) 0 (.ref it) acc {cenv with scope:=relabel scope X.env}) (RR acc cenv.locals) sg) E sj) E s2:=by
 have I3:Inv X pins σ (upd H2 s2.heap.objs.size (.lst [])) {s2 with heap:=s2.heap.push {cls:=.type "list",data:=.seq ([]:List Value).toArray},toks:=s2.toks}:=I2.lnew (ys:=[]) (its:=[]) (t':=s2.toks) .nil (bf _);generalize hs3:({s2 with heap:=s2.heap.push {cls:=.type "list",data:=.seq ([]:List Value).toArray},toks:=s2.toks}:Shared)=s3 at I3;have hsz3:s3.heap.objs.size=s2.heap.objs.size+1:=by rw[<- hs3];exact dU ..
 have k3:∀ b o,s2.heap.get? b=some o->s3.heap.get? b=some o:=λb o e=>by rw[<- hs3];exact af _ e
 have hlt:∀ b∈fp,b<s2.heap.objs.size:=λb hb=>let ⟨o,e,_⟩:=T.obj _ _ st2 b hb;ar e
 have f3:∀ b∈fp,a0p X pins (upd H2 s2.heap.objs.size (.lst [])) b:=λb hb=>⟨by rw[B3 (aK (hlt b hb))];exact (f2 b hb).1,(f2 b hb).2⟩
 have st3:tn 0 s3.heap:=T.keep _ _ _ st2 λb _ o e=>k3 b o e
 refine cc ?_;have e3:({s2 with heap:=s2.heap.push {cls:=.type "list",dict:=none,data:=.seq ([]:List Value).toArray}}:Shared)=s3:=hs3;rw[e3];refine gF hc.noCell (by intro y hy;cases hy) (λh₁ hnsz hsbz=>?_) hc.kind;have k4:∀ b o,s3.heap.get? b=some o->h₁.get? b=some o:=λb o e=>hsbz.extBut b o (aK (ar e)) (af _ e)
 have I4:=a4G (own:=own) I3 hc hcalm f3 (λb hb=>aO (hlt b hb) (by rw[hsz3];exact dM _)) hfr hnsz k4;obtain⟨bg,bt,be⟩:=B.run pins fp s3 (upd H2 s2.heap.objs.size (.lst []));generalize hX':cxC X scope (own++fr.map (·.1)) pins fp s3 (upd H2 s2.heap.objs.size (.lst []))=X' at I4 bg bt be;have eP:X'.prog=X.prog:=by rw[<- hX'];rfl
 have eW:X'.w=X.w:=by rw[<- hX'];rfl
 have eK:X'.K=X.K:=by rw[<- hX'];rfl
 have eA:X'.A=X.A:=by rw[<- hX'];rfl
 have eC:X'.calm=true:=by rw[<- hX'];rfl
 have eX:X'.xe=λ_ _=>False:=by rw[<- hX'];rfl
 have eE:X'.env=compEnvC scope (clo X.env scope.names []) s3.heap.objs.size X.env:=by rw[<- hX'];rfl
 have fC:∀ {H':Hp},(∀ b∈fp,H' b=none)->∀ b∈fp,a0p X' [] H' b:=λhn b hb=>by
  have hb':=f3 b hb;refine⟨hn b hb,?_,?_,?_,?_,?_⟩
  ·exact (I4.ok.exf b (by rw[<- hX'];exact hb)).1
  ·exact I4.ok.exfs b (by rw[<- hX'];exact hb)
  ·left;rw[<- hX'];exact hb
  ·exact (I4.ok.exf b (by rw[<- hX'];exact hb)).2
  ·intro p hp;have hp:p∈X.pn++pins:=by
    rw[<- hX'] at hp;rcases aj.mp hp with q | q
    ·exact q
    ·cases q
   exact hb'.2.2.2.2.2 p hp
 obtain⟨W,⟨m0,w0⟩,turn⟩:=hw;have cenvE:({(newEnv scope s3.heap.objs.size X.env.globals (clo X.env scope.names []) X.env.qual none .none (some X.env) builtinsNs) with scope:=relabel scope X.env}:Env)=X'.env:=by rw[eE];rfl
 have loop:∀ s4:Shared,Inv X' [] (st0 own fr σ) (upd H2 s2.heap.objs.size (.lst [])) s4->tn 0 s4.heap ->
   codeAny (model X.prog X.w) X.A (.compLoop (.ListComp elt [⟨tg,iter,ifs,0⟩] scope pos) 0 (.ref it) (.ref s2.heap.objs.size) X'.env) (RR (.ref s2.heap.objs.size) s3.heap.objs.size) s4:=by
  intro s4 J4 t4;refine a5A (λn s'=>∃ i τ H',Inv X' [] τ H' s'/\tn i s'.heap/\(∀ b∈fp,H' b=none)/\W i n τ H') ?_ m0 ⟨0,_,_,J4,t4,λb hb=>(f3 b hb).1,w0⟩;rintro n s5 ⟨i,τ5,H5,I5,t5,fr5,w5⟩;rcases turn i n τ5 H5 w5 with ⟨stop,qn⟩ | ⟨go,N,hN,step⟩
  ·have hd:=T.done X' eP eW eK eC i [] s5 τ5 H5 (λ_ _=>False) I5 (fC fr5) t5 stop;rw[eA] at hd;refine thn hd λr s6 ⟨hr,I6⟩=>?_
   subst hr;have hbase:Un (frs X.stack) fp (upd H2 s2.heap.objs.size (.lst [])) H5 s3.heap s6.heap:=by have:=I6.base;rw[<- hX'] at this;exact this
   have hok6:HOk X.prog X.w H5 s6.heap:=by have:=I6.hok;rw[eP,eW] at this;exact this
   have os6:s6.os=s3.os:=by have:=I6.os;rw[<- hX'] at this;exact this
   obtain⟨m6,n6,_⟩:=I6.loc;have n6:s6.heap.Ns s3.heap.objs.size m6:=by rw[eE] at n6;exact n6
   have free6:H5 s3.heap.objs.size=none:=by have:=I6.free;rw[eE] at this;exact this
   refine hRR s3.heap.objs.size H5 s6 m6 qn n6 (I3.call' os6 hbase hok6 I6.bare λb hb=>⟨(f3 b hb).2.2.2.1,(f3 b hb).2.1,(f3 b hb).2.2.2.2.1,(f3 b hb).2.2.2.2.2⟩) ⟨free6,?_,I3.sz,?_,?_⟩
   ·exact (aK I3.lt).symm
   ·intro x c e z;obtain⟨v,hv⟩:=I3.cell x c e;have:=hv.lt;rw[z] at this;exact bG _ this
   ·intro p hp z;have:=ar (I3.pin p hp).1;rw[z] at this;exact bG _ this
  ·have hi:=T.item X' eP eW eK eC i [] s5 τ5 H5 (λ_ _=>False) I5 (fC fr5) t5 go;rw[eA] at hi;refine thn hi λr s6 ⟨u,hr,h6⟩=>?_
   subst hr;refine thn h6 λ_ s7 ⟨x,H7,I7,r7,y7,t7,fr7⟩=>?_
   have I7':=I7.pinned (fC fr7) (T.obj _ _ t7);have again:∀ {τ:St} {H':Hp} {s':Shared},Inv X' ([]++a0k fp s7.heap) τ H' s'->N τ H'->∃ m,m<n/\∃ i τ H',Inv X' [] τ H' s'/\tn i s'.heap/\(∀ b∈fp,H' b=none)/\W i m τ H':=λ{τ H' s'} I8 n8=>by
    obtain⟨m',hm,w8⟩:=hN τ H' n8;refine⟨m',hm,i+1,τ,H',I8.unpinned,T.keep _ _ _ t7 λb hb o e=>(I8.pin (b,o) (aB _ (aB _ (R4 hb e)))).1,λb hb=>?_,w8⟩;obtain⟨o,e,d⟩:=T.obj _ _ t7 b hb;exact (I8.pin (b,o) (aB _ (aB _ (R4 hb e)))).2.1
   have hg:=bg _ s7 τ5 H7 x u _ I7' r7 (step x H7 y7);rw[eP,eW,eA,eX] at hg;refine thn hg λ_ s8 ⟨τ8,H8,I8,q8⟩=>?_
   have ht:=bt _ s8 τ8 H8 _ I8 q8;rw[eP,eW,eA,eX] at ht;refine thn ht λok s9 ⟨H9,I9,q9⟩=>?_
   cases ok with
   | false=>exact again I9 q9
   | true =>
    rw[if_pos rfl] at q9 ⊢;have hv:=be _ s9 τ8 H9 _ I9 q9;rw[eP,eW,eA,eX] at hv;refine thn hv λy s10 ⟨v,H10,I10,r10,ys,hl,hlen,n10⟩=>?_
    have ha:=a2S (X:=X') _ s10 τ8 H10 (.ref s2.heap.objs.size) [v] (.ref s2.heap.objs.size) [y] (λ_ H'=>N τ8 H') I10 rfl (.cons r10 .nil) ⟨_,_,_,rfl,rfl,hl,hlen,n10⟩;rw[eP,eW,eA,eX] at ha;exact thn ha λ_ s11 ⟨_,H11,I11,_,n11⟩=>again I11 n11
 have st4:tn 0 h₁:=T.keep _ _ _ st3 λb _ o e=>k4 b o e
 show codeAny (model X.prog X.w) X.A (.compStart (.ListComp elt [⟨tg,iter,ifs,0⟩] scope pos) 0 (.ref it) (.ref s2.heap.objs.size) ({(newEnv scope s3.heap.objs.size X.env.globals (clo X.env scope.names []) X.env.qual none .none (some X.env) builtinsNs) with scope:=relabel scope X.env}:Env)) (RR (.ref s2.heap.objs.size) s3.heap.objs.size) _;rw[cenvE];exact codeAny_compStart_list (loop _ I4 st4) (T.self X.A 0 _ _ _ st4 (loop _ I4 st4))
theorem a0Q {pins:List (Addr×Obj)}{σ:St}{H:Hp}{s:Shared}(I:Inv X pins σ H s)(hc:Y9 scope X.env.scope):closureFor scope X.env=pure (clo X.env scope.names []) :=
 a4Q λy hy e=>I.ok.has y.1 (hc.free y hy e)
theorem G0 (hcalm:X.calm=true)(hc:a0o scope X.env.scope=true)(hfr:a0P X scope fr)(hi:PI X tg iter wi)(B:Blk X scope (own++fr.map (·.1)) tg ifs elt g tc te)
  (hs:∀ x,foldedSetIterable iter X.env x=pure x:=by intro _;rfl):PE X (.ListComp elt [⟨tg,iter,ifs,0⟩] scope pos) (tLC own fr wi g tc te):=by
 intro pins s σ H Q I h;have hc:=V4 hc;rw[eval_ListComp];refine eI (use:=none) rfl hs (a0Q I hc) hc.kind hc.loc (thn (hi pins s σ H _ I h) λv s1 h1=>thn h1 λitv s2 h2=>?_);obtain⟨it,fp,tn,J,H2,e,I2,T,st2,f2,hw⟩:=h2;subst e;refine a2T (RR:=λacc C=>compPost (model X.prog X.w) X.A X.xe none (EP X pins σ Q) acc C) hcalm hc hfr B I2 T st2 f2 (hw _ I2.fresh) ?_;intro C H' s' m q n I' f;exact⟨m,n,λh' hs'=>⟨.ref s2.heap.objs.size,H',f.inv I' hs',rfl,q⟩⟩
theorem Q5 {i:Nat}{x:Str}{px spos:Pos}(hcalm:X.calm=true)(hN:X.N.Nodup)(hx:X.N[i]?=some x)(hl:X.env.scope.names.lookup x=some .local)(hsw:swapsWith (.ListComp elt [⟨tg,iter,ifs,0⟩] scope pos) (some (.Name x px)) spos.line X.env=pure true)
  (hc:a0o scope X.env.scope=true) (hfr:a0P X scope fr) (hi:PI X tg iter wi) (B:Blk X scope (own++fr.map (·.1)) tg ifs elt g tc te)
  (hs:∀ x,foldedSetIterable iter X.env x=pure x:=by intro _;rfl):PS X (.Assign [.Name x px] (.ListComp elt [⟨tg,iter,ifs,0⟩] scope pos) spos) (a8n (tLC own fr wi g tc te) (P1 i)):=by
 intro pins s σ H D I h;have hc:=V4 hc;rw[exec_Assign_Name_used _ _ _ _ hsw];refine ae (dG (ae ?_));show wpAny _ X.A (do let _ <- comprehension (.ListComp elt [⟨tg,iter,ifs,0⟩] scope pos) scope X.env _ (newList []) false (eval iter X.env) (some (assign (.Name x px) X.env))) _ _ s
 refine ae (bB (eI (use:=some (assign (.Name x px) X.env)) (Q:=λ_ s'=>SP X pins D .next s') rfl hs (a0Q I hc) hc.kind hc.loc
  (thn (hi pins s σ H _ I h) λv s1 h1=>thn h1 λitv s2 h2=>?_)) (λ_ s' hq=>ag (ag hq)) λ_ _ e=>e)
 obtain⟨it,fp,tn,J,H2,e,I2,T,st2,f2,hw⟩:=h2;subst e;refine a2T (RR:=λacc C=>compPost (model X.prog X.w) X.A X.xe (some (assign (.Name x px) X.env)) (λ_ s'=>SP X pins D .next s') acc C) hcalm hc hfr B I2 T st2 f2 (hw _ I2.fresh) ?_;intro C H' s' m q n I' f;show wpAny _ X.A (assign (.Name x px) X.env (.ref s2.heap.objs.size)) _ _ _;refine ic (a0F I' hN hx (.inl hl) (v:=.ref s2.heap.objs.size) rfl (λs'' I'' hch=>?_) (.inr hl));obtain⟨a,sb,ha⟩:=hch;have hCa:C≠a:=by
  rcases ha with ha | ha
  ·rw[ha];exact f.loc
  ·exact λz=>f.cel x a ha z.symm
 exact⟨m,n.sameBut sb hCa,λh' hs'=>⟨_,H',f.inv I'' hs',q⟩⟩
end
end L2
namespace L2
open PySem PySem.Spec PyProof.Rows
theorem a5J {prog:Program}{w:World}{A:Around}{R:Result->Shared->Prop}{s:Shared}{kx vx target iter:Expr}{ifs:List Expr}{scope:Scope}{pos:Pos}{it:Value}{D:Addr}{env:Env}(I:Nat->Shared->Prop)
  (turn:∀ n s,I n s->wpAny (model prog w) A (pyNext it) (λr sq=>match r with
   | none=>R (.ok .next) sq
   | some v=>wpAny (model prog w) A (letOwnedTupleGo target it v) (λ_ sq=>wpAny (model prog w) A (assign target env v) (λ_ sx =>
     wpAny (model prog w) A (forIn ifs true λc r=>if r=true then do let ok <- isTrue c env (eval c env);pure (bW ok) else pure (bW r)) (λok sj =>
      if ok=true then wpAny (model prog w) A (eval kx env) (λkv sg=>wpAny (model prog w) A (eval vx env) (λvv sg =>
       wpAny (model prog w) A (dictSet D kv vv) (λ_ sw=>∃ m,m<n/\I m sw) (λ_ _=>False) sg) (λ_ _=>False) sg) (λ_ _=>False) sj
      else ∃ m,m<n/\I m sj) (λ_ _=>False) sx) (λ_ _=>False) sq) (λ_ _=>False) sq) (λ_ _=>False) s)
  (n:Nat) (h:I n s):codeAny (model prog w) A (.compLoop (.DictComp kx vx [⟨target,iter,ifs,0⟩] scope pos) 0 it (.ref D) env) R s:=by
 refine codeAny_loop rfl I (λn s hI=>?_) n h;show wpAny _ A ((compTurn (.DictComp kx vx [⟨target,iter,ifs,0⟩] scope pos) 0 it (.ref D) env).onRaise (λx=>do noteFrame x env;theTreesLotGoes x)) _ _ s;refine wpAny_noted ?_;rw[compTurn_dict];refine ae (dG (ae (bB (turn n s hI) (λr sq h₁=>?_) λ_ _ h'=>h'.elim)));cases r with
 | none=>exact ag h₁
 | some v =>
  refine ae (bB h₁ (λ_ sq h₁=>?_) λ_ _ h'=>h'.elim);refine ae (bB h₁ (λ_ sx h₂=>ae (bB h₂ (λok sj h₃=>?_) λ_ _ h'=>h'.elim)) λ_ _ h'=>h'.elim);cases ok with
  | false=>exact ag ⟨rfl,h₃⟩
  | true =>
   exact ae (ae (bB h₃ (λkv sg h₄=>ae (bJ (bB h₄ (λvv sw h₅=>ae (dG (bJ (bB h₅ (λ_ sk h₆=>ag ⟨rfl,h₆⟩) λ_ _ h'=>h'.elim)))) λ_ _ h'=>h'.elim))) λ_ _ h'=>h'.elim))
theorem a7L {X:Cx}{pins:List (Addr×Obj)}{σ:St}{H:Hp}{s:Shared}{a:Addr}{y v:V}{u r:Value}{A:Around}{E:Value->Shared->Prop}{H':Hp}{Q:Unit->Shared->Prop}(hu:A.units+1<cLine)(I:Inv X pins σ H s)(g:V7 H a y v H')(ry:D0 y u)(rv:D0 v r)(h:∀ s',Inv X pins σ H' s'->Q () s') :
  wpAny (model X.prog X.w) A (dictSet a u r) Q E s:=by
 rcases g with ⟨kvs,k,e,ey,l,eH⟩ | ⟨kvs,k,b,e,ey,eb,l,eH⟩
 ·subst ey eH;obtain⟨z,hd,vs,rel,dd⟩:=a4M I.hok e;have hz:vs.length<=sizeLine:=by rw[<- rel.length];exact z
  have hl:(T6 kvs k v).length<=sizeLine:=by have:=S4 kvs k v;omega
  refine wpAny_dictSet_pairs (hsz:=hz) (a1X ry) dd λh' dd' hs=>h _ ?_
  have he:∃ q,h'.get? a=some q:=let ⟨q,_,_,hq,_⟩:=dd';⟨q,hq⟩;exact a0c I (by rw[e];exact cS) hs he (a3C hl hd (rel.put k rv) dd')
 ·subst ey eH;cases (show u=bw b from ry);obtain⟨z,hd,xs,rel,dd⟩:=b1X I.hok e;have hz:xs.length<=sizeLine:=by rw[<- d9 rel];exact z
  have hl:(T6 kvs k v).length<=sizeLine:=by have:=S4 kvs k v;omega
  refine wpAny_dictSet_heap (hsz:=hz) (show (tupleKind (K7 X.prog X.w)).room A from Nat.lt_of_succ_lt hu) (a1W I.hok eb) dd λh' dd' hs=>h _ ?_
  obtain⟨q,es,ep,hq,h2,h3,h4,_,h5⟩:=dd';refine a0c I (by rw[e];exact cS) hs ⟨q,hq⟩ ⟨hl,hd,_,(rel.put k eb rv).keeps λc ys ec=>?_,q,es,ep,hq,h2,h3,h4,h5⟩;rw[B3 (a9h ec e (λz=>nomatch z))];exact ec
def a2o:Bool->HO
 | true=>.dT []
 | false=>.dK []
theorem b1q {P:Program}{w:World}{H:Hp}(h:Heap)(hb:sysModules<h.objs.size):∀ t,K0 P w H (h.push {cls:=.type "dict",data:=.dict #[]}) h.objs.size (a2o t)
 | true=>a4L h hb
 | false=>a2d h hb
def dcW (g:TG)(tc:TT)(te tv:TE)(p:Addr)(J:It)(τ0:St)(H0:Hp)(E:Hp->Prop):Prop :=
 ∃ W:Nat->Nat->St->Hp->Prop,(∃ m,W 0 m τ0 H0)/\∀ i m τ H,W i m τ H ->
  (J.stop i H/\E H)\/(J.go i H/\∃ N:St->Hp->Prop,(∀ τ' H',N τ' H'->∃ m',m'<m/\W (i+1) m' τ' H') /\
   ∀ x H',J.yld i H x H'->g x τ H' fun τ2 H2=>tc τ2 H2 λb H3=>if b=true then te τ2 H3 λk H4=>tv τ2 H4 λv H5=>∃ H6,V7 H5 p k v H6/\N τ2 H6 else N τ2 H3)
def tDC (t:Bool)(own:List Str)(fr:List (Str×Nat))(wi:TI)(g:TG)(tc:TT)(te tv:TE):TE:=fun σ H Q =>
 wi σ H λJ H1=>∀ p,H1 p=none->dcW g tc te tv p J (st0 own fr σ) (upd H1 p (a2o t)) λH2=>Q (.ref p) H2
section
variable {X:Cx}{kx vx tg iter:Expr}{ifs:List Expr}{scope:Scope}{pos:Pos}{own:List Str}{fr:List (Str×Nat)}{wi:TI}{g:TG}{tc:TT}{te tv:TE}
structure b3Q (X:Cx)(scope:Scope)(N':List Str)(tg:Expr)(ifs:List Expr)(kx vx:Expr)(g:TG)(tc:TT)(te tv:TE):Prop where
 run:∀ pins fp s H,PG (cxC X scope N' pins fp s H) tg g/\PTs (cxC X scope N' pins fp s H) ifs tc/\PE (cxC X scope N' pins fp s H) kx te/\PE (cxC X scope N' pins fp s H) vx tv
theorem a3e {pins:List (Addr×Obj)}{σ:St}{H2:Hp}{s2:Shared}{it:Addr}{fp:List Addr}{tn:Nat->Heap->Prop}{J:It}{EE:Hp->Prop}{RR:Value->Addr->Result->Shared->Prop}{E:Value->Shared->Prop}
  (t:Bool) (hu:X.A.units+1<cLine) (hcalm:X.calm=true) (hc:Y9 scope X.env.scope) (hfr:a0P X scope fr) (B:b3Q X scope (own++fr.map (·.1)) tg ifs kx vx g tc te tv)
  (I2:Inv X pins σ H2 s2) (T:a5O X.prog X.w X.K tg J fp it tn) (st2:tn 0 s2.heap) (f2:∀ b∈fp,a0p X pins H2 b)
  (hw:dcW g tc te tv s2.heap.objs.size J (st0 own fr σ) (upd H2 s2.heap.objs.size (a2o t)) EE)
  (hRR:∀ C H' s' m,EE H'->s'.heap.Ns C m->Inv X pins σ H' s'->K5 X pins H' C->RR (.ref s2.heap.objs.size) C (.ok .next) s') :
  wpAny (model X.prog X.w) X.A newDict (λacc sj=>wpAny (model X.prog X.w) X.A (newFunctionEnv scope X.env.globals (clo X.env scope.names []) [] X.env.qual none .none (some X.env)) (λcenv sg =>
   codeAny (model X.prog X.w) X.A (.compStart (.DictComp kx vx [⟨tg,iter,ifs,0⟩] scope pos) 0 (.ref it) acc {cenv with scope:=relabel scope X.env}) (RR acc cenv.locals) sg) E sj) E s2:=by
 have I3:Inv X pins σ (upd H2 s2.heap.objs.size (a2o t)) {s2 with heap:=s2.heap.push {cls:=.type "dict",data:=.dict #[]},toks:=s2.toks}:=I2.laid (t':=s2.toks) (λ_ _ q=>af _ q) (ao _) (b1q s2.heap I2.big t);generalize hs3:({s2 with heap:=s2.heap.push {cls:=.type "dict",data:=.dict #[]},toks:=s2.toks}:Shared)=s3 at I3;have hsz3:s3.heap.objs.size=s2.heap.objs.size+1:=by rw[<- hs3];exact dU ..
 have k3:∀ b o,s2.heap.get? b=some o->s3.heap.get? b=some o:=λb o e=>by rw[<- hs3];exact af _ e
 have hlt:∀ b∈fp,b<s2.heap.objs.size:=λb hb=>let ⟨o,e,_⟩:=T.obj _ _ st2 b hb;ar e
 have f3:∀ b∈fp,a0p X pins (upd H2 s2.heap.objs.size (a2o t)) b:=λb hb=>⟨by rw[B3 (aK (hlt b hb))];exact (f2 b hb).1,(f2 b hb).2⟩
 have st3:tn 0 s3.heap:=T.keep _ _ _ st2 λb _ o e=>k3 b o e
 refine cc ?_;have e3:({s2 with heap:=s2.heap.push {cls:=.type "dict",dict:=none,data:=.dict #[]}}:Shared)=s3:=hs3;rw[e3];refine gF hc.noCell (by intro y hy;cases hy) (λh₁ hnsz hsbz=>?_) hc.kind;have k4:∀ b o,s3.heap.get? b=some o->h₁.get? b=some o:=λb o e=>hsbz.extBut b o (aK (ar e)) (af _ e)
 have I4:=a4G (own:=own) I3 hc hcalm f3 (λb hb=>aO (hlt b hb) (by rw[hsz3];exact dM _)) hfr hnsz k4;obtain⟨bg,bt,be,bv⟩:=B.run pins fp s3 (upd H2 s2.heap.objs.size (a2o t));generalize hX':cxC X scope (own++fr.map (·.1)) pins fp s3 (upd H2 s2.heap.objs.size (a2o t))=X' at I4 bg bt be bv;have eP:X'.prog=X.prog:=by rw[<- hX'];rfl
 have eW:X'.w=X.w:=by rw[<- hX'];rfl
 have eK:X'.K=X.K:=by rw[<- hX'];rfl
 have eA:X'.A=X.A:=by rw[<- hX'];rfl
 have eC:X'.calm=true:=by rw[<- hX'];rfl
 have eX:X'.xe=λ_ _=>False:=by rw[<- hX'];rfl
 have eE:X'.env=compEnvC scope (clo X.env scope.names []) s3.heap.objs.size X.env:=by rw[<- hX'];rfl
 have fC:∀ {H':Hp},(∀ b∈fp,H' b=none)->∀ b∈fp,a0p X' [] H' b:=λhn b hb=>by
  have hb':=f3 b hb;refine⟨hn b hb,?_,?_,?_,?_,?_⟩
  ·exact (I4.ok.exf b (by rw[<- hX'];exact hb)).1
  ·exact I4.ok.exfs b (by rw[<- hX'];exact hb)
  ·left;rw[<- hX'];exact hb
  ·exact (I4.ok.exf b (by rw[<- hX'];exact hb)).2
  ·intro p hp;have hp:p∈X.pn++pins:=by
    rw[<- hX'] at hp;rcases aj.mp hp with q | q
    ·exact q
    ·cases q
   exact hb'.2.2.2.2.2 p hp
 obtain⟨W,⟨m0,w0⟩,turn⟩:=hw;have cenvE:({(newEnv scope s3.heap.objs.size X.env.globals (clo X.env scope.names []) X.env.qual none .none (some X.env) builtinsNs) with scope:=relabel scope X.env}:Env)=X'.env:=by rw[eE];rfl
 have loop:∀ s4:Shared,Inv X' [] (st0 own fr σ) (upd H2 s2.heap.objs.size (a2o t)) s4->tn 0 s4.heap ->
   codeAny (model X.prog X.w) X.A (.compLoop (.DictComp kx vx [⟨tg,iter,ifs,0⟩] scope pos) 0 (.ref it) (.ref s2.heap.objs.size) X'.env) (RR (.ref s2.heap.objs.size) s3.heap.objs.size) s4:=by
  intro s4 J4 t4;refine a5J (λn s'=>∃ i τ H',Inv X' [] τ H' s'/\tn i s'.heap/\(∀ b∈fp,H' b=none)/\W i n τ H') ?_ m0 ⟨0,_,_,J4,t4,λb hb=>(f3 b hb).1,w0⟩;rintro n s5 ⟨i,τ5,H5,I5,t5,fr5,w5⟩;rcases turn i n τ5 H5 w5 with ⟨stop,qn⟩ | ⟨go,N,hN,step⟩
  ·have hd:=T.done X' eP eW eK eC i [] s5 τ5 H5 (λ_ _=>False) I5 (fC fr5) t5 stop;rw[eA] at hd;refine thn hd λr s6 ⟨hr,I6⟩=>?_
   subst hr;have hbase:Un (frs X.stack) fp (upd H2 s2.heap.objs.size (a2o t)) H5 s3.heap s6.heap:=by have:=I6.base;rw[<- hX'] at this;exact this
   have hok6:HOk X.prog X.w H5 s6.heap:=by have:=I6.hok;rw[eP,eW] at this;exact this
   have os6:s6.os=s3.os:=by have:=I6.os;rw[<- hX'] at this;exact this
   obtain⟨m6,n6,_⟩:=I6.loc;have n6:s6.heap.Ns s3.heap.objs.size m6:=by rw[eE] at n6;exact n6
   have free6:H5 s3.heap.objs.size=none:=by have:=I6.free;rw[eE] at this;exact this
   refine hRR s3.heap.objs.size H5 s6 m6 qn n6 (I3.call' os6 hbase hok6 I6.bare λb hb=>⟨(f3 b hb).2.2.2.1,(f3 b hb).2.1,(f3 b hb).2.2.2.2.1,(f3 b hb).2.2.2.2.2⟩) ⟨free6,?_,I3.sz,?_,?_⟩
   ·exact (aK I3.lt).symm
   ·intro x c e z;obtain⟨v,hv⟩:=I3.cell x c e;have:=hv.lt;rw[z] at this;exact bG _ this
   ·intro p hp z;have:=ar (I3.pin p hp).1;rw[z] at this;exact bG _ this
  ·have hi:=T.item X' eP eW eK eC i [] s5 τ5 H5 (λ_ _=>False) I5 (fC fr5) t5 go;rw[eA] at hi;refine thn hi λr s6 ⟨u,hr,h6⟩=>?_
   subst hr;refine thn h6 λ_ s7 ⟨x,H7,I7,r7,y7,t7,fr7⟩=>?_
   have I7':=I7.pinned (fC fr7) (T.obj _ _ t7);have again:∀ {τ:St} {H':Hp} {s':Shared},Inv X' ([]++a0k fp s7.heap) τ H' s'->N τ H'->∃ m,m<n/\∃ i τ H',Inv X' [] τ H' s'/\tn i s'.heap/\(∀ b∈fp,H' b=none)/\W i m τ H':=λ{τ H' s'} I8 n8=>by
    obtain⟨m',hm,w8⟩:=hN τ H' n8;refine⟨m',hm,i+1,τ,H',I8.unpinned,T.keep _ _ _ t7 λb hb o e=>(I8.pin (b,o) (aB _ (aB _ (R4 hb e)))).1,λb hb=>?_,w8⟩;obtain⟨o,e,d⟩:=T.obj _ _ t7 b hb;exact (I8.pin (b,o) (aB _ (aB _ (R4 hb e)))).2.1
   have hg:=bg _ s7 τ5 H7 x u _ I7' r7 (step x H7 y7);rw[eP,eW,eA,eX] at hg;refine thn hg λ_ s8 ⟨τ8,H8,I8,q8⟩=>?_
   have ht:=bt _ s8 τ8 H8 _ I8 q8;rw[eP,eW,eA,eX] at ht;refine thn ht λok s9 ⟨H9,I9,q9⟩=>?_
   cases ok with
   | false=>exact again I9 q9
   | true =>
    rw[if_pos rfl] at q9 ⊢;have hv:=be _ s9 τ8 H9 _ I9 q9;rw[eP,eW,eA,eX] at hv;refine thn hv λky s10 ⟨kk,H10,I10,r10,q10⟩=>?_
    have hv:=bv _ s10 τ8 H10 _ I10 q10;rw[eP,eW,eA,eX] at hv;refine thn hv λy s11 ⟨v,H11,I11,r11,H12,dp,n12⟩=>?_
    have ha:=a7L (A:=X.A) (E:=λ_ _=>False) (Q:=λ_ s12=>Inv X' ([]++a0k fp s7.heap) τ8 H12 s12) hu I11 dp r10 r11 λs12 I12=>I12
    rw[eP,eW] at ha;exact thn ha λ_ s12 I12=>again I12 n12
 have st4:tn 0 h₁:=T.keep _ _ _ st3 λb _ o e=>k4 b o e
 show codeAny (model X.prog X.w) X.A (.compStart (.DictComp kx vx [⟨tg,iter,ifs,0⟩] scope pos) 0 (.ref it) (.ref s2.heap.objs.size) ({(newEnv scope s3.heap.objs.size X.env.globals (clo X.env scope.names []) X.env.qual none .none (some X.env) builtinsNs) with scope:=relabel scope X.env}:Env)) (RR (.ref s2.heap.objs.size) s3.heap.objs.size) _;rw[cenvE];exact codeAny_compStart_dict (loop _ I4 st4) (T.self X.A 0 _ _ _ st4 (loop _ I4 st4))
theorem a8G (t:Bool)(hu:X.A.units+1<cLine)(hcalm:X.calm=true)(hc:a0o scope X.env.scope=true)(hfr:a0P X scope fr)(hi:PI X tg iter wi)(B:b3Q X scope (own++fr.map (·.1)) tg ifs kx vx g tc te tv)
  (hs:∀ x,foldedSetIterable iter X.env x=pure x:=by intro _;rfl):PE X (.DictComp kx vx [⟨tg,iter,ifs,0⟩] scope pos) (tDC t own fr wi g tc te tv):=by
 intro pins s σ H Q I h;have hc:=V4 hc;rw[arm_eval_DictComp];refine eI (use:=none) rfl hs (a0Q I hc) hc.kind hc.loc (thn (hi pins s σ H _ I h) λv s1 h1=>thn h1 λitv s2 h2=>?_);obtain⟨it,fp,tn,J,H2,e,I2,T,st2,f2,hw⟩:=h2;subst e;refine a3e (RR:=λacc C=>compPost (model X.prog X.w) X.A X.xe none (EP X pins σ Q) acc C) t hu hcalm hc hfr B I2 T st2 f2 (hw _ I2.fresh) ?_;intro C H' s' m q n I' f;exact⟨m,n,λh' hs'=>⟨.ref s2.heap.objs.size,H',f.inv I' hs',rfl,q⟩⟩
theorem a4u {i:Nat}{x:Str}{px spos:Pos}(t:Bool)(hu:X.A.units+1<cLine)(hcalm:X.calm=true)(hN:X.N.Nodup)(hx:X.N[i]?=some x)(hl:X.env.scope.names.lookup x=some .local)(hsw:swapsWith (.DictComp kx vx [⟨tg,iter,ifs,0⟩] scope pos) (some (.Name x px)) spos.line X.env=pure true)
  (hc:a0o scope X.env.scope=true) (hfr:a0P X scope fr) (hi:PI X tg iter wi) (B:b3Q X scope (own++fr.map (·.1)) tg ifs kx vx g tc te tv)
  (hs:∀ x,foldedSetIterable iter X.env x=pure x:=by intro _;rfl):PS X (.Assign [.Name x px] (.DictComp kx vx [⟨tg,iter,ifs,0⟩] scope pos) spos) (a8n (tDC t own fr wi g tc te tv) (P1 i)):=by
 intro pins s σ H D I h;have hc:=V4 hc;rw[exec_Assign_Name_used _ _ _ _ hsw];refine ae (dG (ae ?_));show wpAny _ X.A (do let _ <- comprehension (.DictComp kx vx [⟨tg,iter,ifs,0⟩] scope pos) scope X.env _ newDict false (eval iter X.env) (some (assign (.Name x px) X.env))) _ _ s
 refine ae (bB (eI (use:=some (assign (.Name x px) X.env)) (Q:=λ_ s'=>SP X pins D .next s') rfl hs (a0Q I hc) hc.kind hc.loc
  (thn (hi pins s σ H _ I h) λv s1 h1=>thn h1 λitv s2 h2=>?_)) (λ_ s' hq=>ag (ag hq)) λ_ _ e=>e)
 obtain⟨it,fp,tn,J,H2,e,I2,T,st2,f2,hw⟩:=h2;subst e;refine a3e (RR:=λacc C=>compPost (model X.prog X.w) X.A X.xe (some (assign (.Name x px) X.env)) (λ_ s'=>SP X pins D .next s') acc C) t hu hcalm hc hfr B I2 T st2 f2 (hw _ I2.fresh) ?_;intro C H' s' m q n I' f;show wpAny _ X.A (assign (.Name x px) X.env (.ref s2.heap.objs.size)) _ _ _;refine ic (a0F I' hN hx (.inl hl) (v:=.ref s2.heap.objs.size) rfl (λs'' I'' hch=>?_) (.inr hl));obtain⟨a,sb,ha⟩:=hch;have hCa:C≠a:=by
  rcases ha with ha | ha
  ·rw[ha];exact f.loc
  ·exact λz=>f.cel x a ha z.symm
 exact⟨m,n.sameBut sb hCa,λh' hs'=>⟨_,H',f.inv I'' hs',q⟩⟩
end
end L2
end
section
namespace Srt
open PySem PyProof.Rows
section
variable {prog:Program}{w:World}{A:Around}{E:Value->Shared->Prop}{s:Shared}{O:KeyOrd}{key:Value->O.α}{knd:SortKind}
def Asks (prog:Program)(w:World)(A:Around)(O:KeyOrd)(key:Value->O.α)(knd:SortKind)(vs:List Value)(s:Shared):Prop :=
 (2<=vs.length->∀(E:Value->Shared->Prop) (Q:SortKind->Shared->Prop),Q knd s->wpAny (model prog w) A (keyKind' vs.toArray) Q E s) /\
 ∀ x∈vs,∀ y∈vs,∀(E:Value->Shared->Prop) (Q:Bool->Shared->Prop),Q (O.blt (key x) (key y)) s->wpAny (model prog w) A (keyLt' knd x y) Q E s
theorem mem_pairs {vs:List Value}{p:Keyed}(h:p∈(pairsOf vs).toList):p.1∈vs/\p.1=p.2:=by
 rw[pairsOf_toList] at h;obtain⟨i,hi⟩:=di.mp h;rw[ix] at hi;refine⟨di.mpr ⟨i,hi.1⟩,?_⟩;have:=hi.1.symm.trans hi.2;exact ak this
theorem cmp_of {vs:List Value}(h:Asks prog w A O key knd vs s):Ts.Cmp (model prog w) A E s knd O (λp=>key p.1) (pairsOf vs):=by
 intro p hp q hq st Q hk hQ;rw[lt'_eq];refine bV (jG ?_);rw[hk];refine bV (wpS_lift (fY (h.2 p.1 (mem_pairs hp).1 q.1 (mem_pairs hq).1 _ _ ⟨rfl,?_⟩)));exact cX hQ
theorem out_of {vs:List Value}{xs:Array Keyed}(hp:xs.Perm (pairsOf vs))(hs:Ts.Seg (O:=O) (λp=>key p.1) xs 0 (pairsOf vs).size) :
  (xs.map (·.2)).toList.Perm vs/\(xs.map (·.2)).toList.Pairwise λx y=>O.kle (key x) (key y):=by
 have hp':=h7.mp hp;have hsz:xs.size=(pairsOf vs).size:=hp.size_eq;rw[Array.toList_map];refine⟨?_,?_⟩
 ·refine (hp'.map _).trans ?_;rw[pairsOf_toList,show (vs.zip vs).map (·.2)=vs from List.map_snd_zip (ao _)]
 ·rw[ck];rw[<- hsz] at hs;refine (Ts.pw_of_seg hs).imp_of_mem λ{a b} ha hb hab=>?_
  have e1:=(mem_pairs (hp'.mem_iff.mp ha)).2;have e2:=(mem_pairs (hp'.mem_iff.mp hb)).2;rw[<- e1,<- e2];exact hab
theorem list_sort_any {a:Addr}{vs:List Value}{n:Nat}{P:Fin->Shared->Prop}(ho:s.heap.get? a=some (seqObj "list" vs.toArray n))(h64:vs.length<64)
  (hA:∀ s':Shared,(∀ b o,b≠a->s.heap.get? b=some o->s'.heap.get? b=some o)->Asks prog w A O key knd vs s')
  (h:∀ out:Array Value,out.toList.Perm vs->(out.toList.Pairwise λx y=>O.kle (key x) (key y))->P (.done (.ret .none)) {s with heap:=sortedHeap s.heap a vs out}) :
  wpAny (model prog w) A (Builtin.«list.sort» ⟨[.ref a],[]⟩) P E s:=by
 rw[list_sort_plain];have hz:vs.length<=sizeLine:=aV (cz h64) (by decide);have ha:a<s.heap.objs.size:=ar ho;have hsz:vs.toArray.size=vs.length:=by simp
 refine ae (listItems_at ho rfl ?_);refine ae (listUpdate_at ho rfl ?_ (hsz:=by rw[hsz];exact hz));obtain⟨e1,ho1⟩:∃ e1,(s.heap.update a (Obj.mapSeq λ_=>#[])).get? a=some (seqObj "list" #[] e1):=⟨_,get?_update_seq ho (λ_=>#[])⟩
 refine ae (seqEpoch_at ho1 rfl ?_);refine ae (wpAny_newTuple ?_ (~~~hz));refine ae (fX ?_);refine bJ ?_;have ho6:(((s.heap.update a (Obj.mapSeq λ_=>#[])).push (seqObj "tuple" vs.toArray 0)).push (seqObj "list" #[] 0)).get? a=some (seqObj "list" #[] e1):=by
  rw[jL _ _ _ (by rw[jy,Heap.size_update];exact aK (fA ha)),jL _ _ _ (by rw[Heap.size_update];exact aK ha)];exact ho1
 have keep:∀ b o,b≠a->s.heap.get? b=some o->(((s.heap.update a (Obj.mapSeq λ_=>#[])).push (seqObj "tuple" vs.toArray 0)).push (seqObj "list" #[] 0)).get? b=some o:=λb o hb e =>
  af _ (af _ ((bj ..).extBut b o hb e))
 show wpAny (model prog w) A _ P E {s with heap:=((s.heap.update a (Obj.mapSeq λ_=>#[])).push (seqObj "tuple" vs.toArray 0)).push (seqObj "list" #[] 0)};dsimp only;have hA':=hA {s with heap:=((s.heap.update a (Obj.mapSeq λ_=>#[])).push (seqObj "tuple" vs.toArray 0)).push (seqObj "list" #[] 0)} keep;by_cases h2:vs.toArray.size<2
 ·rw[if_pos h2,if_pos h2];refine ae (ag ?_);rw[StateT.run_pure];refine ae (ag ?_);dsimp only;refine ae (seqEpoch_at ho6 rfl ?_);refine ae (listUpdate_at ho6 rfl ?_ (hsz2:=by rw[gi];show (pairsOf vs).size<=_;rw[pairsOf_size];omega));simp only[bne_self_eq_false,bE,if_false]
  have o:=out_of (O:=O) (key:=key) (vs:=vs) (Array.Perm.refl _) (λi j h0 hij hj=>by
   rw[pairsOf_size] at hj;have:i=j:=∅
   subst this;exact cF _)
  exact ag (h _ o.1 o.2)
 ·rw[if_neg h2,if_neg h2];refine ae (hA'.1 ∅ _ _ ?_)
  refine ae (bB (Ts.wpS_sRs (O:=O) (key:=λp=>key p.1) (a₀:=pairsOf vs) (knd:=knd) (st:=SortSt.mk' knd (vs.toArray.zip vs.toArray) #[] 7 none)
   (Q:=λ_ st'=>(arrOf st').Perm (pairsOf vs)/\failedOf st'=none/\Ts.Seg (O:=O) (λp=>key p.1) (arrOf st') 0 (pairsOf vs).size)
   (cmp_of hA') ⟨Array.Perm.refl _,rfl,rfl⟩ rfl (by rw[pairsOf_size];omega) (by rw[pairsOf_size];exact h64) λst' hB hS=>⟨hB.perm,hB.failed,hS⟩) ?_ λ_ _ e=>e)
  rintro⟨⟨⟩,st'⟩ s' ⟨rfl,hp,hf,hs⟩;dsimp only;refine ae (seqEpoch_at ho6 rfl ?_);refine ae (listUpdate_at ho6 rfl ?_ (hsz2:=by refine aV (dy ((gi ..).trans (hp.size_eq.trans (pairsOf_size _)))) ?_;omega));rw[hf];simp only[bne_self_eq_false,bE,if_false];have o:=out_of hp hs;exact ag (h _ o.1 o.2)
def Coll (prog:Program)(w:World)(A:Around)(r:Addr)(s:Shared)(C:List Value->Prop):Prop :=
 ∀(E:Value->Shared->Prop) (R:List Value->Shared->Prop),(∀(h':Heap) (tk:Nat) (vs:List Value),(∀ b o,s.heap.get? b=some o->h'.get? b=some o)->C vs->R vs {s with heap:=h',toks:=tk})->wpAny (model prog w) A (collect (.ref r)) R E s
theorem sorted_any {r:Addr}{C:List Value->Prop}{Q:Value->Shared->Prop}(hc:Coll prog w A.in1 r s C)(hz:∀ vs,C vs->vs.length<64)
  (hA:∀(vs:List Value) (s':Shared),C vs->(∀ b o,s.heap.get? b=some o->s'.heap.get? b=some o)->Asks prog w A.in1.in1 O key knd vs s')
  (h:∀(vs out:List Value) (h1 h':Heap) (tk n:Nat),C vs->out.Perm vs->(out.Pairwise λx y=>O.kle (key x) (key y))->(∀ b o,s.heap.get? b=some o->h1.get? b=some o)->(∀ b o,h1.get? b=some o->h'.get? b=some o) ->
   h'.get? h1.objs.size=some (seqObj "list" out.toArray n)->Q (.ref h1.objs.size) {s with heap:=h',toks:=tk}):wpAny (model prog w) A (call (.builtin "sorted") [.ref r]) Q E s:=by
 refine Calls.call_function_entry kind_sorted plain_sorted entry_sorted (args_sorted1 _) ?_;unfold Builtin.«sorted»;refine ae (m:=checkCount "sorted" 1 1 _) (ag ?_);refine ae (hc _ _ λh1 tk vs hk hC=>?_);refine ae (fX ?_ (by simpa using aV (cz (hz vs hC)) (by decide)));have hoL:(h1.push (seqObj "list" vs.toArray 0)).get? h1.objs.size=some (seqObj "list" vs.toArray 0):=au _ rfl;refine ae (bJ (cR slot_list_sort ⟨_,hoL,rfl⟩ entry_list_sort (list_sort_any (O:=O) (key:=key) (knd:=knd) hoL (hz vs hC) (λs' hs'=>hA vs s' hC λb o e=>?_) λout hp hs=>⟨_,rfl,?_⟩) (args_list_sort _)))
 ·exact hs' b o (aK (ar (hk b o e))) (af _ (hk b o e))
 ·refine ag ⟨_,rfl,?_⟩;obtain⟨n',hn'⟩:∃ n',(sortedHeap (h1.push (seqObj "list" vs.toArray 0)) h1.objs.size vs out).get? h1.objs.size=some (seqObj "list" out n'):=by
   first | exact sortedHeap_at hoL | exact⟨_,sortedHeap_at hoL⟩
  refine h vs out.toList h1 _ tk n' hC hp hs hk (λb o e=>?_) ?_
  ·have hb:b≠h1.objs.size:=aK (ar e);have hlt:b<(h1.push (seqObj "list" vs.toArray 0)).objs.size:=by rw[jy];exact fA (ar e)
   rw[sortedHeap_old hb hlt];exact af _ e
  ·rw[ja];exact hn'
def intOrd:KeyOrd where
 α:=Int
 blt:=λa b=>decide (a<b)
 irrefl:=λa=>by simp
 trans:=λa b c h1 h2=>by simp at *;omega
 negTrans:=λa b c h=>by simp at *;omega
 total:=λa b h1 h2=>by simp at *;omega
def intKey:Value->Int
 | .int i _=>i
 | _=>0
theorem lex_irrefl:∀ a:List Int,HT.lexLt a a=false
 | []=>rfl
 | x::r=>by rw[HT.lexLt_cons,if_pos rfl];exact lex_irrefl r
theorem lex_trans:∀ a b c:List Int,HT.lexLt a b=true->HT.lexLt b c=true->HT.lexLt a c=true
 | [],[],_,h,_=>by cases h
 | [],_::_,[],_,h=>by cases h
 | [],_::_,_::_,_,_=>rfl
 | _::_,[],_,h,_=>by cases h
 | _::_,_::_,[],_,h=>by cases h
 | x::a,y::b,z::c,h1,h2=>by
  rw[HT.lexLt_cons] at h1 h2 ⊢;by_cases e1:x=y
  ·rw[if_pos e1] at h1;subst e1;by_cases e2:x=z
   ·rw[if_pos e2] at h2 ⊢;exact lex_trans a b c h1 h2
   ·rw[if_neg e2] at h2 ⊢;exact h2
  ·rw[if_neg e1] at h1;by_cases e2:y=z
   ·rw[if_pos e2] at h2;subst e2;rw[if_neg e1];exact h1
   ·rw[if_neg e2] at h2;simp at h1 h2;rw[if_neg ∅];simp;omega
theorem lex_total:∀ a b:List Int,HT.lexLt a b=false->HT.lexLt b a=false->a=b
 | [],[],_,_=>rfl
 | [],_::_,h,_=>by cases h
 | _::_,[],_,h=>by cases h
 | x::a,y::b,h1,h2=>by
  rw[HT.lexLt_cons] at h1 h2;by_cases e:x=y
  ·subst e;rw[if_pos rfl] at h1 h2;rw[lex_total a b h1 h2]
  ·rw[if_neg e] at h1;rw[if_neg (λz=>e z.symm)] at h2;simp at h1 h2;omega
def lexOrd:KeyOrd where
 α:=List Int
 blt:=HT.lexLt
 irrefl:=lex_irrefl
 trans:=lex_trans
 negTrans:=λa b c h=>by
  cases h1:HT.lexLt a b with
  | true=>exact .inl rfl
  | false =>
   right;cases h2:HT.lexLt b a with
   | true=>exact lex_trans b a c h2 h
   | false=>rw[<- lex_total a b h1 h2];exact h
 total:=lex_total
theorem asks_ints {vs:List Value}{ns:List Int}(hI:IntsAre vs ns):Asks prog w A intOrd intKey oneType' vs s:=by
 refine⟨λh2 E Q hq=>?_,λx hx y hy E Q hq=>?_⟩
 ·match vs,h2,hI with
  | vq::vz::a0v,_,hI=>rw[keyKind_ints hI];exact ag hq
 ·have key:∀ {vs:List Value} {ns:List Int},IntsAre vs ns->∀ x∈vs,∃ i t,x=cA i t:=by
   intro vs ns h;induction h with
   | nil=>intro x hx;cases hx
   | cons n t _ ih =>
    intro x hx;rcases aL.mp hx with rfl | hx
    ·exact⟨n,t,rfl⟩
    ·exact ih x hx
  obtain⟨i,t,rfl⟩:=key hI x hx;obtain⟨j,u,rfl⟩:=key hI y hy;exact PySem.W.kat_lt_int hq
end
end Srt
namespace Srt
open PySem PyProof.Rows PySem.W
section
variable {prog:Program}{w:World}{A:Around}{E:Value->Shared->Prop}{s:Shared}
def TupInts (h:Heap)(v:Value)(ks:List Int):Prop:=∃ a o items n,v=.ref a/\h.get? a=some o/\o.cls=.type "tuple"/\o.data=.seq items n/\IntsAre items.toList ks/\ks≠[]
theorem TupInts.keep {h h':Heap}{v:Value}{ks:List Int}(t:TupInts h v ks)(k:∀ b o,h.get? b=some o->h'.get? b=some o):TupInts h' v ks :=
 let ⟨a,o,items,n,e,ho,r⟩:=t;⟨a,o,items,n,e,k _ _ ho,r⟩
def tupKey (h:Heap):Value->List Int
 | .ref a=>match h.get? a with
  | some o=>match o.data with
   | .seq items _=>items.toList.map intKey
   | _=>[]
  | none=>[]
 | _=>[]
theorem intKeys_of {us:List Value}{ns:List Int}(h:IntsAre us ns):us.map intKey=ns:=by
 induction h with
 | nil=>rfl
 | cons n t _ ih=>rw[aA,ih];rfl
theorem tupKey_of {h:Heap}{v:Value}{ks:List Int}(t:TupInts h v ks):tupKey h v=ks:=by
 obtain⟨a,o,items,n,rfl,ho,hc,hd,hi,_⟩:=t;simp only[tupKey,ho,hd];exact intKeys_of hi
theorem katlex_ints {b fin:Bool}{Q:Bool->Shared->Prop}:∀ {us:List Value} {ns:List Int} {ws:List Value} {ms:List Int} (i:Nat),IntsAre us ns->IntsAre ws ms->fin=decide (us.length<ws.length)->Q (HT.lexLt ns ms) s ->
  KatLex prog w A b fin Q (us.zip ws) i s
 | _,_,_,_,_,.nil,.nil,hf,hq=>by subst hf;exact hq
 | _,_,_,_,_,.nil,.cons m u h,hf,hq=>by
  subst hf;show Q (decide (0<_)) s;rw[aw,decide_eq_true (fk _)];exact hq
 | _,_,_,_,_,.cons m u h,.nil,hf,hq=>by
  subst hf;show Q (decide (_<0)) s;rw[decide_eq_false (cr _)];exact hq
 | _,_,_,_,i,.cons n t h,.cons m u k,hf,hq=>by
  rw[List.zip_cons_cons];refine kat_cons (wpAny_eqBool_int ?_);rw[HT.lexLt_cons] at hq;by_cases e:n=m
  ·rw[if_pos e] at hq;have eb:(n == m)=true:=beq_iff_eq.mpr e;rw[eb];exact kat_yes (katlex_ints (i+1) h k (by rw[hf,aw,aw];simp) hq)
  ·rw[if_neg e] at hq;have eb:(n == m)=false:=beq_eq_false_iff_ne.mpr e;rw[eb];refine kat_no ?_;cases hb:(b && i == 0) with
   | true=>exact oneLt_int hq
   | false=>exact kat_one _ _ (PyProof.Rows.lt_int hq)
theorem katTups_of {h:Heap}:∀ {vs:List Value},(∀ v∈vs,∃ ks,TupInts h v ks)->∃ fs,KatTups h vs fs/\fs.length=vs.length/\∀ f∈fs,∃ i t,f=cA i t
 | [],_=>⟨[],.nil,rfl,λf hf=>nomatch hf⟩
 | v::vs,hv=>by
  obtain⟨fs,k,hl,hf⟩:=katTups_of (vs:=vs) λu hu=>hv u (aN _ hu)
  obtain⟨ks,a,o,items,n,rfl,ho,hc,hd,hi,hne⟩:=hv v aT;obtain⟨i,t,r,e⟩:∃ i t r,items.toList=cA i t::r:=by
   generalize items.toList=l at hi;cases hi with
   | nil=>exact absurd rfl hne
   | cons n t _=>exact⟨n,t,_,rfl⟩
  refine⟨.int i t::fs,.cons ho hc hd ?_ k,by rw[aw,aw,hl],λf hf'=>?_⟩
  ·rw[<- bP,e];rfl
  ·rcases aL.mp hf' with rfl | q
   ·exact⟨i,t,rfl⟩
   ·exact hf f q
theorem asks_tups {h:Heap}{vs:List Value}(hv:∀ v∈vs,∃ ks,TupInts h v ks)(hk:∀ b o,h.get? b=some o->s.heap.get? b=some o):Asks prog w A lexOrd (tupKey h) (tuples' true) vs s:=by
 refine⟨λh2 E Q hq=>?_,λx hx y hy E Q hq=>?_⟩
 ·obtain⟨fs,kt,hl,hf⟩:=katTups_of (h:=s.heap) (vs:=vs) λv hm=>let ⟨ks,t⟩:=hv v hm;⟨ks,t.keep hk⟩
  refine kat_kind (T:=.type "int") kt ∅ (λf hm=>?_) (by decide) hq;obtain⟨i,t,rfl⟩:=hf f hm;exact .now
 ·obtain⟨ks,tx⟩:=hv x hx;obtain⟨ms,ty⟩:=hv y hy;rw[tupKey_of tx,tupKey_of ty] at hq;obtain⟨a,o,items,n,rfl,ho,hc,hd,hi,_⟩:=tx.keep hk;obtain⟨a',o',items',n',rfl,ho',hc',hd',hi',_⟩:=ty.keep hk;exact kat_lt ho hd ho' hd' (katlex_ints 0 hi hi' (by simp) hq)
theorem coll_seq {l:Addr}{o:Obj}{c:String}{vs:List Value}{n:Nat}(ho:s.heap.get? l=some o)(hcl:o.cls=.type c)(hcc:c="list"\/c="tuple")(hd:o.data=.seq vs.toArray n)(hsz:vs.length<=sizeLine) :
  Coll prog w A l s λus=>us=vs:=by
 intro E R h;unfold collect;refine ae (jb (codeAny_builtin jV ?_));show wpAny _ _ (newList [] >>= λx=>again (.builtin "list.__iadd__" ⟨[x,.ref l],[]⟩)) _ _ s;refine ae (fX (ag ⟨gy _ (by decide +kernel),codeAny_builtin entry_list_iadd' ?_⟩));show wpAny _ _ (Builtin.List.listExtendWith (.ref s.heap.objs.size) (.ref l) (.ref s.heap.objs.size)) _ _ {s with heap:=s.heap.push (seqObj "list" #[] 0)};unfold Builtin.List.listExtendWith;have ho':(s.heap.push (seqObj "list" #[] 0)).get? l=some o:=af _ ho;refine ae (iq (T:=c) ⟨o,ho',hcl⟩ ?_);have ht:(Builtin.List.listSameRef (.ref s.heap.objs.size) (.ref l) || (aH c == aH "list") || (aH c == aH "tuple"))=true:=by
  rcases hcc with rfl | rfl
  ·rw[show (aH "list" == aH "list")=true from rfl];simp
  ·rw[show (aH "tuple" == aH "tuple")=true from rfl];simp
 rw[if_pos ht];refine ae (listItems_at ho' hd ?_);refine ae (listItems_at (xs:=#[]) (n:=0) (au _ rfl) rfl ?_);rw[if_neg (by simp)];refine ae (listUpdate_at (xs:=#[]) (n:=0) (au _ rfl) rfl ?_ (bf _) (by show (#[]++vs.toArray).size<=sizeLine+1;simp only[Array.size_append,aD,ci];omega));refine ag ?_
 show wpAny (model prog w) A (do
   let q <- load s.heap.objs.size
   match q.data with
   | .seq xs _=>pure xs.toList
   | _=>unsupported "internal:collect") R E {s with heap:=(s.heap.push (seqObj "list" #[] 0)).update s.heap.objs.size (Obj.mapSeq (·++vs.toArray))}
 refine ae (ju (get?_update_seq (au _ rfl) _) ?_);show wpAny _ _ (pure ((#[]:Array Value)++vs.toArray).toList) R E _;rw[show ((#[]:Array Value)++vs.toArray).toList=vs by simp];exact ag (h _ s.toks vs (λb o e=>(bj ..).extBut b o (aK (ar e)) (af _ e)) rfl)
end
end Srt
namespace Srt
open PySem PyProof.Rows PySem.W
section
variable {prog:Program}{w:World}{A:Around}{E:Value->Shared->Prop}{s:Shared}
def RawD (h:Heap)(d:Addr)(es:Array DictEntry)(ep:Nat):Prop:=∃ o,h.get? d=some o/\o.ExactDict/\o.data=.dict es ep
theorem RawD.typeIs {d:Addr}{es:Array DictEntry}{ep:Nat}(r:RawD s.heap d es ep):s.TypeIs (.ref d) "dict":=let ⟨o,ho,hx,_⟩:=r;⟨o,ho,hx.1⟩
theorem RawD.keep {h h':Heap}{d:Addr}{es:Array DictEntry}{ep:Nat}(r:RawD h d es ep)(k:∀ o,h.get? d=some o->h'.get? d=some o):RawD h' d es ep:=let ⟨o,ho,q⟩:=r;⟨o,k _ ho,q⟩
theorem raw_iter {d:Addr}{es:Array DictEntry}{ep:Nat}{Q:Value->Shared->Prop}(hd:(d == sysModules)=false)(r:RawD s.heap d es ep)
  (hQ:Q (.ref s.heap.objs.size) {s with heap:=s.heap.push {cls:=.type "dict_keyiterator",data:=.fields #[.ref d,.int 0 0,.int es.size 0,.int ep 0]}}) :
  wpAny (model prog w) A (pyIter (.ref d)) Q E s:=by
 obtain⟨o,ho,hx,hdat⟩:=id r;have hT:=r.typeIs;refine ia hT F.slot_dict_iter (cR F.slot_dict_iter hT F.entry_dict_iter ?_ (F.args_dict_iter_1 _));unfold Builtin.«dict.__iter__»;refine ae ?_;unfold Builtin.Dict.dictSlotNone;refine ae (wpAny_notOrdered_dict hT (ag ?_));show wpAny _ _ (Builtin.Dict.showsAll d >>= _) _ _ s;unfold Builtin.Dict.showsAll;rw[if_neg (by rw[hd];exact aP)];refine ae (ag (ae (fT ho hdat (ae (iP ho hdat ?_)))));refine ae (cc (ag ⟨_,rfl, "dict_keyiterator",_,⟨_,au _ rfl,rfl⟩,F.slot_dict_keyiterator_next.lookup,?_⟩));simpa [rawInt] using hQ
theorem raw_next {it d:Addr}{i ep:Nat}{es:Array DictEntry}{Q:Option Value->Shared->Prop}(hit:s.heap.IsKeyIter it d i es.size ep)(r:RawD s.heap d es ep)(hlt:i<es.size)
  (hQ:∀ h',h'.IsKeyIter it d (i+1) es.size ep->dh it s.heap h'->Q (some es[i].key) {s with heap:=h'}):wpAny (model prog w) A (pyNext (.ref it)) Q E s:=by
 obtain⟨o,ho,hc,hd⟩:=id hit;obtain⟨od,hod,hcd,hdd⟩:=id r;unfold pyNext
 refine ae (fY (eO (name:=aS "__next__") hit.typeIs dL
  (cR dL hit.typeIs ik ?_ (g8 _))))
 refine ae (ag (ae (ae ?_)));first | refine ae (dJ hit.typeIs (ag ?_)) | refine ae (eG hit.typeIs (ag ?_))
 refine ae (gM ho hd ?_);have hown:fN "dict_keyiterator"=false:=by decide
 simp only[hown,bE,if_false];show wpAny _ _ (if (bw d == cI)=true then _ else _) _ _ s;rw[if_neg (show ¬ ((bw d == cI)=true) from aP)];refine ae (ag (ae (fT hod hdd ?_)));rw[if_neg (by simp)];refine ae (ag (ae (iP hod hdd ?_)));rw[if_neg (by simp)];refine ag ?_;simp only[show ¬ ((i:Int)<0) from by omega,if_false,bD,aY hlt];refine ae ?_;first | refine ae (dJ hit.typeIs (ag ?_)) | refine ae (eG hit.typeIs (ag ?_))
 refine ae (jT hit.typeIs ?_);show wpAny _ _ (setField (.ref it) 1 (rawInt ((i:Int)+1)) >>= _) _ _ s;refine ae (fK ho hd (by simp) ?_);have hit':(s.heap.update it (gH (·.setIfInBounds 1 (rawInt ((i:Int)+1))))).IsKeyIter it d (i+1) es.size ep :=
  ⟨_,dg _ ho (fZ (dI hd _)),(gR ..).trans hc,by rw[dI hd];simp[rawInt]⟩
 refine ae (bJ ?_);refine ae (jT (s:={s with heap:=s.heap.update it (gH (·.setIfInBounds 1 (rawInt ((i:Int)+1))))}) hit'.typeIs ?_);show wpAny _ _ (pure es[i].key) _ _ _;exact ag (ag ⟨_,rfl,ag (hQ _ hit' (bj ..))⟩)
theorem raw_end {it d:Addr}{i ep:Nat}{es:Array DictEntry}{Q:Option Value->Shared->Prop}(hh:A.handled=none)(hit:s.heap.IsKeyIter it d i es.size ep)(r:RawD s.heap d es ep)(hge:es.size<=i)
  (hQ:∀ h',jv it s.heap h'->Q none {s with heap:=h'}):wpAny (model prog w) A (pyNext (.ref it)) Q E s:=by
 obtain⟨o,ho,hc,hd⟩:=id hit;obtain⟨od,hod,hcd,hdd⟩:=id r;unfold pyNext
 refine ae (fY (eO (name:=aS "__next__") hit.typeIs dL
  (cR dL hit.typeIs ik ?_ (g8 _))))
 refine ae (ag (ae (ae ?_)));first | refine ae (dJ hit.typeIs (ag ?_)) | refine ae (eG hit.typeIs (ag ?_))
 refine ae (gM ho hd ?_);have hown:fN "dict_keyiterator"=false:=by decide
 simp only[hown,bE,if_false];show wpAny _ _ (if (bw d == cI)=true then _ else _) _ _ s;rw[if_neg (show ¬ ((bw d == cI)=true) from aP)];refine ae (ag (ae (fT hod hdd ?_)));rw[if_neg (by simp)];refine ae (ag (ae (iP hod hdd ?_)));rw[if_neg (by simp)];refine ag ?_;simp only[show ¬ ((i:Int)<0) from by omega,if_false,bD,bT hge];refine ae ?_;first | refine ae (dJ hit.typeIs (ag ?_)) | refine ae (eG hit.typeIs (ag ?_))
 show wpAny _ _ (setField (.ref it) 0 .none >>= _) _ _ s;refine ae (fK ho hd (by simp) ?_);show wpAny _ _ (newExc (.type "StopIteration") [] >>= _) _ _ _;refine ae ?_;simp only[newExc,newTuple];refine ae (cc ?_ (by size_fits));refine ae (m:=firstArgMember _ _) (fW (a:=cI) (by first | rfl | (simp only[firstArgMember];rfl)) ?_);refine cc ?_ (by size_fits);simp only[raiseNew];refine ae (wpAny_handled ?_);rw[show A.in1.handled=none from hh];refine ae (ag (wpAny_throw ?_));refine ae (gg (T:="StopIteration") (b:=true) ⟨_,au _ rfl,rfl⟩ isSubtype_stop ?_);exact ag (hQ _ (((bj ..).extBut.push _).push _))
theorem raw_walks (hh:A.handled=none)(I d:Addr)(hne:d≠I)(es:Array DictEntry)(ep:Nat) :
  Walks prog w A I [I,d] [I] es.size (λi v=>∃ e,es[i]?=some e/\e.key=v) (λi h=>h.IsKeyIter I d i es.size ep/\RawD h d es ep) where
 sub:=λb hb=>by simp at hb;simp[hb]
 frame:=λ_ _ _ st hk=>⟨st.1.at λo e=>hk I (by simp) o e,st.2.keep λo e=>hk d (by simp) o e⟩
 item:=λi s Q E hi st hQ=>by
  refine raw_next st.1 st.2 hi λh' hit' hs'=>?_
  exact hQ es[i].key h' s.toks ⟨es[i],by simp[hi],rfl⟩ ⟨hit',st.2.keep λo e=>hs'.extBut d o hne e⟩ λb o hb e=>hs'.extBut b o (λh=>hb (by simp[h])) e
 done:=λs Q E st hQ=>raw_end hh st.1 st.2 (ao _) λh' he'=>hQ h' s.toks λb o hb e=>he' b o (λh=>hb (by simp[h])) e
 self:=λ_ _ _ _ st hQ=>wpAny_pyIter_keyiter st.1 hQ
theorem raw_src {d:Addr}{es:Array DictEntry}{ep:Nat}(lo:(d == sysModules)=false):KdlSrc prog w "dict" d d es.size (λi v=>∃ e,es[i]?=some e/\e.key=v) (λh=>RawD h d es ep) where
 type:=λ_ hm=>hm.typeIs
 there:=λ_ hm=>let ⟨_,ho,_⟩:=hm;⟨ar ho,ar ho⟩
 keep:=λ_ _ hm hk=>hm.keep λo e=>hk d (.inl rfl) o e
 notList:=by decide
 notTuple:=by decide
 hint:=λ_ _ _ _ hm hq=>kdl_hint_dict hm.typeIs hq
 iter:=λ_ _ hh hm=>⟨_,_,(λ_ _ hq=>raw_iter lo hm hq),raw_walks hh _ d (let ⟨_,ho,_⟩:=hm;aK (ar ho)) es ep,⟨⟨_,au _ rfl,rfl,rfl⟩,hm.keep λ_ e=>af _ e⟩⟩
theorem coll_raw {d:Addr}{es:Array DictEntry}{ep:Nat}(hh:A.handled=none)(lo:(d == sysModules)=false)(r:RawD s.heap d es ep)(hz:es.size<=sizeLine):Coll prog w A d s λus=>us=es.toList.map (·.key):=by
 intro E R h;refine kdu_collect (raw_src (ep:=ep) lo) hh r hz λh' tk acc hk hI=>h h' tk acc.toList hk ?_
 apply cV;intro i;rw[bP,ah,bP];rcases bN i es.size with hi | hi
 ·have hi':i<acc.size:=by rw[hI.1];exact hi
  obtain⟨e,he,hk⟩:=hI.2 i acc[i] (aY hi');rw[aY hi',he];exact congrArg some hk.symm
 ·rw[bT (by rw[hI.1];exact hi),bT hi];rfl
end
end Srt
namespace L2
open PySem PySem.Spec PyProof.Rows
theorem a3x {α β:Type}{f:α->β}:∀ {l m:List β},l.Perm m->∀ {ps:List α},m=ps.map f->∃ qs:List α,qs.Perm ps/\l=qs.map f:=by
 intro l m h;induction h with
 | nil =>
  intro ps e;cases ps with
  | nil=>exact⟨[],.nil,rfl⟩
  | cons _ _=>cases e
 | @cons x l₁ l₂ _ ih =>
  intro ps e;cases ps with
  | nil=>cases e
  | cons p r =>
   rw[aA] at e;injection e with e1 e2
   obtain⟨qs,h1,h2⟩:=ih e2;exact⟨p::qs,h1.cons _,by rw[aA,h2,e1]⟩
 | swap x y l =>
  intro ps e
  match ps,e with
  | p::q::r,e =>
   rw[aA,aA] at e;injection e with e1 e2
   injection e2 with e2 e3
   exact⟨q::p::r,.swap ..,by rw[aA,aA,<- e1,<- e2,<- e3]⟩
 | trans _ _ ih1 ih2 =>
  intro ps e;obtain⟨qs,h1,h2⟩:=ih2 e;obtain⟨rs,h3,h4⟩:=ih1 h2;exact⟨rs,h3.trans h1,h4⟩
theorem a0E {α:Type}{f:α->Addr}:∀ {ps:List α} {us:List Value},C9 (ps.map λx=>V.ref (f x)) us->us=ps.map λx=>bw (f x)
 | [],_,.nil=>rfl
 | x::r,_,.cons h t=>by
  cases (show _=bw (f x) from h);rw[aA,<- a0E t]
theorem a2P {α:Type}{f:α->Addr}:∀ ps:List α,C9 (ps.map λx=>V.ref (f x)) (ps.map λx=>bw (f x))
 | []=>.nil
 | x::r=>.cons rfl (a2P r)
theorem U5:∀ {us:List Value},(∀ u∈us,∃ i t,u=cA i t)->IntsAre us (us.map Srt.intKey)
 | [],_=>.nil
 | u::r,h=>by
  obtain⟨i,t,rfl⟩:=h u aT;exact .cons i t (U5 λv hv=>h v (aN _ hv))
theorem a9C {us:List Value}{ns:List Int}(h:IntsAre us ns):∀ u∈us,∃ i t,u=cA i t:=by
 induction h with
 | nil=>intro x hx;cases hx
 | cons n t _ ih =>
  intro x hx;rcases aL.mp hx with rfl | hx
  ·exact⟨n,t,rfl⟩
  ·exact ih x hx
def b3N (K:ac)(H:Hp)(p:Addr)(ns:List Int):Prop :=
 ns.length<64/\(SqL K H p (ns.map V.int)\/SqT K H p (ns.map V.int)\/∃ kvs,H p=some (.dK kvs)/\kvs.map (·.1)=ns.map (bp:Int->Key))
section
variable {X:Cx}{pins:List (Addr×Obj)}{σ:St}{H:Hp}{s:Shared}
theorem Inv.collI (I:Inv X pins σ H s){A:Around}(hh:A.handled=none){p:Addr}{ns:List Int}(h:b3N X.K H p ns):Srt.Coll X.prog X.w A p s λus=>IntsAre us ns/\us.length<64:=by
 have mono:∀ {vs:List Value},IntsAre vs ns->Srt.Coll X.prog X.w A p s (λus=>us=vs)->Srt.Coll X.prog X.w A p s λus=>IntsAre us ns/\us.length<64:=λhi c E R k =>
  c E R λh' tk us kp e=>k h' tk us kp (by subst e;exact⟨hi,by rw[IntsAre.length hi];exact h.1⟩)
 rcases h.2 with h | h | ⟨kvs,h,hk⟩
 ·obtain⟨its,r,pl,hz⟩:=I.list h;obtain⟨o,ho,hc,n,hd⟩:=pl.isList;have hl:its.length<=sizeLine:=by rw[<- r.length];exact hz
  exact mono (P0 r) (Srt.coll_seq ho hc (.inl rfl) hd hl)
 ·obtain⟨its,r,pl,hz⟩:=I.tuple h;obtain⟨o,ho,hc,n,hd⟩:=pl;have hl:its.length<=sizeLine:=by rw[<- r.length];exact hz
  exact mono (P0 r) (Srt.coll_seq ho hc (.inr rfl) hd hl)
 ·obtain⟨z,lo,vs,rel,o,es,ep,ho,hx,hd,hkeys,hp,hn⟩:=a4M I.hok h;have hl:es.toList.length=kvs.length:=by rw[hp.length,rel.length]
  have key:∀ {l:List DictEntry} {vs:List (Key×Value)} {ns:List Int},Pairs (K7 X.prog X.w) l vs->vs.map (·.1)=ns.map (bp:Int->Key)->IntsAre (l.map (·.key)) ns:=by
   intro l vs ns hp;induction hp generalizing ns with
   | nil =>
    intro e;cases ns with
    | nil=>exact .nil
    | cons _ _=>cases e
   | @cons e kv es kvs h1 h2 _ ih =>
    intro q;cases ns with
    | nil=>cases q
    | cons n r =>
     rw[aA,aA] at q;injection q with q1 q2
     rw[q1] at h1;have hi:Value.isInt n e.key=true:=h1;obtain⟨t,et⟩:=fq hi;rw[aA,et];exact .cons n t (ih q2)
  have hi:=key hp (by rw[<- rel.keys];exact hk);refine mono hi (Srt.coll_raw hh lo ⟨o,ho,hx,hd⟩ ?_)
  ·rw[<- aU,hl];exact z
theorem a3E (hc:X.A.handled=none):J7 X (.builtin "sorted") (λxs H Q=>∃(p:Addr) (ns:List Int),xs=[.ref p]/\b3N X.K H p ns/\∀(ns':List Int) (l:Addr),ns'.Perm ns->ns'.Pairwise (·<=·)->H l=none->Q (.ref l) (upd H l (.lst (ns'.map V.int)))):=by
 intro pins s σ H xs us Q I r h;obtain⟨p,ns,rfl,src,q⟩:=h;obtain⟨u,rfl,rx⟩:=Q3 r;cases rx;refine Srt.sorted_any (O:=Srt.intOrd) (key:=Srt.intKey) (knd:=oneType') (I.collI (A:=X.A.in1) hc src) (λvs h=>h.2) (λvs s' h _=>Srt.asks_ints h.1) λvs out h1 h' tk n hC hp hs k1 k2 hD=>?_
 have hall:∀ u∈out,∃ i t,u=cA i t:=λu hu=>a9C hC.1 u (hp.mem_iff.mp hu)
 have hio:=U5 hall;have I1:Inv X pins σ H {s with heap:=h1,toks:=tk}:=I.kept k1;have hlen:(out.map Srt.intKey).length<=sizeLine:=by rw[aa,hp.length_eq];exact aV (cz hC.2) (by decide)
 refine⟨.ref h1.objs.size,_,I1.laid (t':=tk) (o:=.lst ((out.map Srt.intKey).map V.int)) k2 (ao _) ⟨by rw[aa];exact hlen,out,n,T1 hio,hD⟩,rfl,q _ _ ?_ ?_ I1.fresh⟩
 ·have:=hp.map Srt.intKey;rw[Srt.intKeys_of hC.1] at this;exact this
 ·rw[ck];exact hs.imp λ{a b} hab=>by
   have hab:decide (Srt.intKey b<Srt.intKey a)=false:=hab;simp at hab;exact hab
def b3M (K:ac)(H:Hp)(p:Addr)(ps:List (Addr×List Int)):Prop :=
 (SqL K H p (ps.map λx=>V.ref x.1)\/SqT K H p (ps.map λx=>V.ref x.1))/\(∀ x∈ps,H x.1=some (.tup (x.2.map V.int))/\x.2≠[])/\ps.length<64
theorem Inv.tupInts (I:Inv X pins σ H s){a:Addr}{ks:List Int}(h:H a=some (.tup (ks.map V.int)))(hne:ks≠[]):Srt.TupInts s.heap (.ref a) ks:=by
 obtain⟨its,r,⟨o,ho,hc,n,hd⟩,hz⟩:=I.tuple (SqT.of h);exact⟨a,o,its.toArray,n,rfl,ho,hc,hd,P0 r,hne⟩
theorem W8 {p:Addr}{vs:List Value}{C:List (Addr×List Int)->Prop}{Q:VK}(I:Inv X pins σ H s)(hcol:Srt.Coll X.prog X.w X.A.in1 p s λus=>us=vs)(ps:List (Addr×List Int))(hvs:vs=ps.map λx=>bw x.1)(h64:ps.length<64)
  (hall:∀ x∈ps,H x.1=some (.tup (x.2.map V.int))/\x.2≠[]) (q:∀(ps':List (Addr×List Int)) (l:Addr),ps'.Perm ps->(ps'.Pairwise λx y=>HT.lexLt y.2 x.2=false)->H l=none->Q (.ref l) (upd H l (.lst (ps'.map λx=>V.ref x.1)))) :
  wpAny (model X.prog X.w) X.A (call (.builtin "sorted") [.ref p]) (EP X pins σ Q) X.xe s:=by
 subst hvs;have hz:ps.length<=sizeLine:=aV (cz h64) (by decide);have ht:∀ x∈ps,Srt.TupInts s.heap (.ref x.1) x.2:=λx hx=>I.tupInts (hall x hx).1 (hall x hx).2
 refine Srt.sorted_any (O:=Srt.lexOrd) (key:=Srt.tupKey s.heap) (knd:=tuples' true) hcol (λvs e=>by subst e;rw[aa];exact h64) (λvs s' e k=>?_) λvs out h1 h' tk n e hp hs k1 k2 hD=>?_
 ·subst e;refine Srt.asks_tups (λv hv=>?_) k;obtain⟨x,hx,rfl⟩:=bq.mp hv;exact⟨x.2,ht x hx⟩
 ·subst e;obtain⟨ps',hpp,rfl⟩:=a3x hp rfl;have I1:Inv X pins σ H {s with heap:=h1,toks:=tk}:=I.kept k1;refine⟨.ref h1.objs.size,_,I1.laid (t':=tk) (o:=.lst (ps'.map λx=>V.ref x.1)) k2 (ao _) ⟨by rw[aa,hpp.length_eq];exact hz,_,n,a2P (f:=λx:Addr×List Int=>x.1) ps',hD⟩,rfl,q _ _ hpp ?_ I1.fresh⟩;rw[ck] at hs;refine hs.imp_of_mem λ{a b} ha hb hab=>?_
  have e1:=Srt.tupKey_of (ht a (hpp.mem_iff.mp ha));have e2:=Srt.tupKey_of (ht b (hpp.mem_iff.mp hb));have hab:HT.lexLt (Srt.tupKey s.heap (.ref b.1)) (Srt.tupKey s.heap (.ref a.1))=false:=hab;rw[e1,e2] at hab;exact hab
theorem a3D:J7 X (.builtin "sorted") (λxs H Q=>∃(p:Addr) (ps:List (Addr×List Int)),xs=[.ref p]/\b3M X.K H p ps/\∀(ps':List (Addr×List Int)) (l:Addr),ps'.Perm ps->(ps'.Pairwise λx y=>HT.lexLt y.2 x.2=false)->H l=none->Q (.ref l) (upd H l (.lst (ps'.map λx=>V.ref x.1)))):=by
 intro pins s σ H xs us Q I r h;obtain⟨p,ps,rfl,⟨src,hall,h64⟩,q⟩:=h;obtain⟨u,rfl,rx⟩:=Q3 r;cases rx;rcases src with h | h
 ·obtain⟨its,r',pl,hz⟩:=I.list h;obtain⟨o,ho,hc,n,hd⟩:=pl.isList;rw[aa] at hz;have e:=a0E r';exact W8 (C:=λ_=>True) I (Srt.coll_seq ho hc (.inl rfl) hd (by rw[e,aa];exact hz)) ps e h64 hall q
 ·obtain⟨its,r',pl,hz⟩:=I.tuple h;obtain⟨o,ho,hc,n,hd⟩:=pl;rw[aa] at hz;have e:=a0E r';exact W8 (C:=λ_=>True) I (Srt.coll_seq ho hc (.inr rfl) hd (by rw[e,aa];exact hz)) ps e h64 hall q
theorem a3F (hc:X.A.handled=none):J7 X (.builtin "sorted") (λxs H Q=>∃(p:Addr) (kvs:List (List Key×V)) (kss:List (List Int)),xs=[.ref p]/\H p=some (.dT kvs)/\kvs.map (·.1)=kss.map (λks=>ks.map (bp:Int->Key))/\(∀ ks∈kss,ks≠[])/\kss.length<64 /\
  ∀(ps:List (Addr×List Int)) (l:Addr),(ps.map (·.2)).Perm kss->(∀ x∈ps,H x.1=some (.tup (x.2.map V.int)))->(ps.Pairwise λx y=>HT.lexLt y.2 x.2=false)->H l=none->Q (.ref l) (upd H l (.lst (ps.map λx=>V.ref x.1)))):=by
 intro pins s σ H xs us Q I r h;obtain⟨p,kvs,kss,rfl,hH,hk,hne,h64,q⟩:=h;obtain⟨u,rfl,rx⟩:=Q3 r;cases rx;have hO:=I.hok p _ hH;unfold K0 at hO;obtain⟨z,lo,xs,rel,o,es,ep,ho,hx,hd,hes,hn⟩:=hO;have rel:KT H kvs xs:=rel;have key:∀ {kvs:List (List Key×V)} {xs:List (List Key×Addr×Value)} {kss:List (List Int)},KT H kvs xs->kvs.map (·.1)=kss.map (λks=>ks.map (bp:Int->Key)) ->
   ∃ ps:List (Addr×List Int),xs.map (λx=>x.2.1)=ps.map (·.1)/\ps.map (·.2)=kss/\∀ x∈ps,H x.1=some (.tup (x.2.map V.int)):=by
  intro kvs xs kss rel;induction rel generalizing kss with
  | nil =>
   intro e;cases kss with
   | nil=>exact⟨[],rfl,rfl,λx hx=>nomatch hx⟩
   | cons _ _=>cases e
  | @cons pp qq ps qs hh _ ih =>
   intro e;cases kss with
   | nil=>cases e
   | cons ks r =>
    rw[aA,aA] at e;injection e with e1 e2
    obtain⟨rs,h1,h2,h3⟩:=ih e2;obtain⟨g1,g2,g3⟩:=hh;refine⟨(qq.2.1,ks)::rs,by rw[aA,aA,h1],by rw[aA,h2],λx hx=>?_⟩;rcases aL.mp hx with rfl | hx
    ·rw[g2,e1,bu];rfl
    ·exact h3 x hx
 obtain⟨ps,e1,e2,e3⟩:=key rel hk;have hl:es.toList.length=kvs.length:=by rw[hes,aa,<- d9 rel]
 have ev:es.toList.map (·.key)=ps.map λx=>bw x.1:=by
  rw[hes,bu];have:(xs.map λx=>x.2.1).map bw=(ps.map (·.1)).map bw:=by rw[e1]
  rw[bu,bu] at this;exact this
 have hpl:ps.length=kvs.length:=by rw[<- hl,<- aa (f:=λx:DictEntry=>x.key),ev,aa]
 refine W8 (C:=λ_=>True) I (Srt.coll_raw hc lo ⟨o,ho,hx,hd⟩ (by rw[<- aU,hl];exact z)) ps ev (by rw[<- aa (f:=λx:Addr×List Int=>x.2),e2];exact h64) (λx hx=>⟨e3 x hx,hne _ (by rw[<- e2];exact dA hx)⟩) λps' l hp hs hn=>q ps' l ?_ (λx hx=>e3 x (hp.mem_iff.mp hx)) hs hn
 rw[<- e2];exact hp.map _
end
end L2
end
section
namespace L2
open PySem PySem.Spec PyProof.Rows
mutual
inductive Dt (K:ac)(H:Hp):V->PyData->Prop
 | non:Dt K H .non .none
 | bl (b:Bool):Dt K H (.bl b) (.bool b)
 | int (i:Int):Dt K H (.int i) (.int i)
 | str (x:Str):Dt K H (.str x) (.str x)
 | tup {a:Addr} {xs:List V} {ds:List PyData}:SqT K H a xs->Dts K H xs ds->Dt K H (.ref a) (.tuple ds)
 | lst {a:Addr} {xs:List V} {ds:List PyData}:SqL K H a xs->Dts K H xs ds->Dt K H (.ref a) (.list ds)
inductive Dts (K:ac)(H:Hp):List V->List PyData->Prop
 | nil:Dts K H [] []
 | cons {x:V} {d:PyData} {xs:List V} {ds:List PyData}:Dt K H x d->Dts K H xs ds->Dts K H (x::xs) (d::ds)
end
section
variable {X:Cx}{pins:List (Addr×Obj)}{σ:St}{H:Hp}{s:Shared}
mutual
theorem Inv.reads (I:Inv X pins σ H s):∀ {x:V} {d:PyData} {u:Value},Dt X.K H x d->D0 x u->∃ as,Reads s.heap u d as
 | _,_,_,.non,r=>by cases (show _=cI from r);exact⟨_,.none⟩
 | _,_,_,.bl b,r=>by cases (show _=aJ b from r);exact⟨_,.bool b⟩
 | _,_,_,.int i,r=>by obtain⟨t,e⟩:=(show ∃ t,_=cA i t from r);subst e;exact⟨_,.int i t⟩
 | _,_,_,.str x,r=>by obtain⟨t,e⟩:=(show ∃ t,_=g5 x t from r);subst e;exact⟨_,.str x t⟩
 | _,_,_,.tup (a:=a) h hs,r=>by
  cases (show _=bw a from r);obtain⟨its,rv,⟨o,ho,hc,n,hd⟩,hz⟩:=I.tuple h;obtain⟨as,q⟩:=Inv.readsAll I hs rv;exact⟨_,.tuple ho hc hd (~~~q)⟩
 | _,_,_,.lst (a:=a) h hs,r=>by
  cases (show _=bw a from r);obtain⟨its,rv,pl,hz⟩:=I.list h;obtain⟨o,ho,hc,n,hd⟩:=pl.isList;obtain⟨as,q⟩:=Inv.readsAll I hs rv;exact⟨_,.list ho hc hd (~~~q)⟩
theorem Inv.readsAll (I:Inv X pins σ H s):∀ {xs:List V} {ds:List PyData} {us:List Value},Dts X.K H xs ds->C9 xs us->∃ as,ReadsAll s.heap us ds as
 | _,_,_,.nil,.nil=>⟨_,.nil⟩
 | _,_,_,.cons h t,.cons r q=>by
  obtain⟨as,h1⟩:=Inv.reads I h r;obtain⟨bs,h2⟩:=Inv.readsAll I t q;exact⟨_,.cons h1 h2⟩
end
def a5i (K:ac)(neg:Bool):R2:=λx y H Q=>∃ d e,Dt K H x d/\Dt K H y e/\SeqAt.shaped d=true/\SeqAt.shaped e=true/\Q (.bl (if neg then !PyData.eqv d e else PyData.eqv d e)) H
theorem b2L (hu:X.A.units+64<cLine):OpR X (compareOp .Eq) (a5i X.K false):=by
 intro pins s σ H x y v u Q I rx ry h;obtain⟨d,e,hd,he,sd,se,q⟩:=h;obtain⟨as,r1⟩:=I.reads hd rx;obtain⟨bs,r2⟩:=I.reads he ry;exact eq_dataH r1 r2 sd se hu ⟨.bl _,H,I,rfl,q⟩
theorem b2J (hu:X.A.units+64<cLine):OpR X (compareOp .NotEq) (a5i X.K true):=by
 intro pins s σ H x y v u Q I rx ry h;obtain⟨d,e,hd,he,sd,se,q⟩:=h;obtain⟨as,r1⟩:=I.reads hd rx;obtain⟨bs,r2⟩:=I.reads he ry;exact ne_dataH r1 r2 sd se hu ⟨.bl _,H,I,rfl,q⟩
theorem Dts.ints {K:ac}:∀(ns:List Int),Dts K H (ns.map V.int) (ns.map cp)
 | []=>.nil
 | n::r=>.cons (.int n) (Dts.ints r)
theorem S5:∀ ns:List Int,PyData.canLayAll0 (ns.map cp)=true
 | []=>rfl
 | n::r=>by rw[aA,PyData.canLayAll0,S5 r];rfl
theorem W4:∀ ns:List Int,PyData.depthAll (ns.map cp)=0
 | []=>rfl
 | n::r=>by rw[aA,PyData.depthAll,W4 r];rfl
theorem S3 (ns:List Int):SeqAt.shaped (.list (ns.map cp))=true:=by
 unfold SeqAt.shaped PyData.canLay0 PyData.depth;rw[S5,W4];rfl
theorem a2b:∀ ns ms:List Int,PyData.eqvAll (ns.map cp) (ms.map cp)=decide (ns=ms)
 | [],[]=>rfl
 | [],_::_=>rfl
 | _::_,[]=>rfl
 | a::r,b::t=>by
  rw[aA,aA,PyData.eqvAll,PyData.eqv,a2b r t];by_cases h:a=b<;>by_cases h':r=t<;>simp[h,h']
theorem a4I (ns ms:List Int):PyData.eqv (.tuple (ns.map cp)) (.tuple (ms.map cp))=decide (ns=ms):=by
 rw[PyData.eqv];exact a2b ns ms
theorem a4J (ns ms:List Int):PyData.eqv (.list (ns.map cp)) (.list (ms.map cp))=decide (ns=ms):=by
 rw[PyData.eqv];exact a2b ns ms
theorem Dt.tupI {K:ac}{a:Addr}{ns:List Int}(h:SqT K H a (ns.map V.int)):Dt K H (.ref a) (.tuple (ns.map cp)):=.tup h (Dts.ints ns)
theorem Dt.lstI {K:ac}{a:Addr}{ns:List Int}(h:SqL K H a (ns.map V.int)):Dt K H (.ref a) (.list (ns.map cp)):=.lst h (Dts.ints ns)
theorem b4C {K:ac}{a b:Addr}{ns ms:List Int}{Q:VK}(h1:SqL K H a (ns.map V.int))(h2:SqL K H b (ms.map V.int))(q:Q (.bl (!decide (ns=ms))) H):a5i K true (.ref a) (.ref b) H Q :=
 ⟨_,_,.lstI h1,.lstI h2,S3 _,S3 _,by rw[a4J];exact q⟩
theorem b3v {K:ac}{a b:Addr}{ns ms:List Int}{Q:VK}(h1:SqL K H a (ns.map V.int))(h2:SqL K H b (ms.map V.int))(q:Q (.bl (decide (ns=ms))) H):a5i K false (.ref a) (.ref b) H Q :=
 ⟨_,_,.lstI h1,.lstI h2,S3 _,S3 _,by rw[a4J];exact q⟩
end
end L2
end
section
namespace Srt
open PySem PyProof.Rows PySem.W
section
variable {prog:Program}{w:World}{A:Around}{E:Value->Shared->Prop}{s:Shared}
theorem coll_range {r:Addr}{a b c:Int}{t u v:Tok}{n:Nat}(hh:A.handled=none)(hr:IsRange s.heap r a b c t u v)(hsmall:g7 a b c=true)(hn:gJ a b c=n)(hlen:n<=2 ^ 24) :
  Coll prog w A r s λus=>us.length=n/\∀(i:Nat) x,us[i]?=some x->∃ t,x=.int (a+i*c) t:=by
 intro E R h;unfold collect;refine ae (jb (codeAny_builtin jV ?_));rw[bM PySem.F.plain_proto_collect _];show wpAny _ A.in1 (newList [] >>= λl=>again (.builtin "list.__iadd__" ⟨[l,.ref r],[]⟩)) _ _ s;refine ae (cc ?_);refine ag ⟨plainId_quiet ii _,codeAny_builtin entry_list_iadd' ?_⟩;rw[bM ii _];have hSq:(s.heap.push {cls:=.type "list",data:=.seq ([]:List Value).toArray}).get? s.heap.objs.size=some {cls:=.type "list",data:=.seq #[]}:=au _ rfl;show wpAny _ A.in1 (Builtin.List.listExtendWith (.ref s.heap.objs.size) (.ref r) (.ref s.heap.objs.size)) _ _ _;have key:=wpAny_extend_range (prog:=prog) (w:=w) (A:=A) (s:={s with heap:=s.heap.push {cls:=.type "list",data:=.seq ([]:List Value).toArray}})
  (R:=λ(q:Result) (s':Shared)=>∃(h':Heap) (tk:Nat) (acc':Array Value) (c':Nat),q=.ok (.ret (.ref s.heap.objs.size))/\s'={s with heap:=h',toks:=tk} /\
   (∀ b o,s.heap.get? b=some o->h'.get? b=some o)/\h'.get? s.heap.objs.size=some {cls:=.type "list",dict:=none,data:=.seq acc' c',slots:=#[]}/\ItemsOf (λ(i:Nat) v=>∃ t,v=cA (a+i*c) t) acc' n)
  hh (af _ hr) hsmall hn hlen s.heap.objs.size (.ref s.heap.objs.size) 0 hSq
  (λh' tk acc' c' hk hS' hacc=>⟨h',tk,acc',c',rfl,rfl,λb o e=>hk b o (aK (ar e)) (af _ e),hS',hacc⟩)
 have fin:∀(h':Heap) (tk:Nat) (acc':Array Value),(∀ b o,s.heap.get? b=some o->h'.get? b=some o)->ItemsOf (λ(i:Nat) v=>∃ t,v=cA (a+i*c) t) acc' n->R acc'.toList {s with heap:=h',toks:=tk}:=λh' tk acc' hk hacc =>
  h h' tk acc'.toList hk ⟨by rw[aU];exact hacc.1,λi x e=>hacc.2 i x (by rw[<- bP];exact e)⟩
 refine bB key (λfi s' x=>?_) λe s' x=>?_
 ·cases fi with
  | done f =>
   obtain⟨h',tk,acc',c',e,rfl,hk,hS',hacc⟩:=x;cases e;show wpAny _ A (load s.heap.objs.size >>= _) _ _ _;exact ae (ju hS' (ag (fin h' tk acc' hk hacc)))
  | again c₁ =>
   refine⟨x.1,codeAny_mono x.2 λq sx y=>?_⟩;obtain⟨h',tk,acc',c',rfl,rfl,hk,hS',hacc⟩:=y;show wpAny _ A (load s.heap.objs.size >>= _) _ _ _;exact ae (ju hS' (ag (fin h' tk acc' hk hacc)))
 ·obtain⟨_,_,_,_,e',_⟩:=x;cases e'
end
end Srt
namespace PySem
open AutoSeq1 (wpAny_loadPart')
theorem own_tuple_new (r:Addr)(T:String)(hT:(aH T == aH "tuple")=false)(C:List Value->Prop) :
  Meets (Builtin.«tuple.__new__» ⟨[.type "tuple",.ref r],[]⟩)
   (λA R s=>s.TypeIs (.ref r) T/\(∀ prog w,Srt.Coll prog w A.in1 r s C)/\(∀ vs,C vs->vs.length<=sizeLine)/\∀(h':Heap) (tk:Nat) (vs:List Value),C vs->(∀ b o',s.heap.get? b=some o'->h'.get? b=some o')->R (.ok (.ret (.ref h'.objs.size))) {s with heap:=h'.push {cls:=.type "tuple",data:=.seq vs.toArray},toks:=tk}) :=
 .of_wp λprog w A R s h=>by
  obtain⟨hp,g,d,tk,os⟩:=s;obtain⟨hty,hcol,hz,h⟩:=h;have hsub:=sub_tuple_self;have hinit:=init_tuple_lookup;have hmh:=madeHere_tuple;have hc:∀ {Q:List Value->Shared->Prop} {E:Value->Shared->Prop},(∀(h':Heap) (tk':Nat) (vs:List Value),(∀ b o,hp.get? b=some o->h'.get? b=some o)->C vs->Q vs ⟨h',g,d,tk',os⟩) ->
    wpAny (model prog w) A.in1 (collect (.ref r)) Q E ⟨hp,g,d,tk,os⟩:=λ{Q E} k=>hcol prog w E Q k
  wp_walk using iq hty,hc
  intro h' tk' vs hk hC;show wpAny _ _ (Builtin.Tuple.tupleExact vs.toArray >>= λv=>ret v) _ _ _;unfold Builtin.Tuple.tupleExact;refine ae (cc ?_ (by show vs.toArray.size<=sizeLine;simpa using hz vs hC));exact ag ⟨_,rfl,h h' tk' vs hC hk⟩
end PySem
namespace L2
open PySem PySem.Spec PyProof.Rows
section
variable {X:Cx}
theorem a7O:J7 X (.type "range") (λxs H Q=>∃ hi:Int,xs=[.int hi]/\∀ p,H p=none->Q (.ref p) (upd H p (.rng 0 hi))):=by
 intro pins s σ H xs us Q I r h;obtain⟨hi,rfl,q⟩:=h;obtain⟨u,rfl,rx⟩:=Q3 r;obtain⟨t,rfl⟩:=rx;refine call_range_1 ⟨.ref s.heap.objs.size,_,I.laid (o:=.rng 0 hi) (λ_ _ q=>af _ q) (ao _) ⟨_,_,_,au _ rfl⟩,rfl,q _ I.fresh⟩
def B7 (lo:Int)(n:Nat):List Int:=(List.range n).map λ(i:Nat)=>lo+(i:Int)
theorem B6 (lo:Int)(n:Nat):(B7 lo n).length=n:=by unfold B7;simp
theorem Q9 {lo:Int}{n i:Nat}(h:i<n):(B7 lo n)[i]?=some (lo+(i:Int)):=by unfold B7;simp[h]
theorem a5G {us:List Value}{lo:Int}{n:Nat}(hl:us.length=n)(hi:∀(i:Nat) x,us[i]?=some x->∃ t,x=cA (lo+i*1) t):C9 ((B7 lo n).map V.int) us:=by
 have key:∀(us:List Value) (k:Nat),(∀(i:Nat) x,us[i]?=some x->∃ t,x=cA (lo+((i+k:Nat):Int)) t)->C9 (((List.range' k us.length).map λ(i:Nat)=>lo+(i:Int)).map V.int) us:=by
  intro us;induction us with
  | nil=>intro k _;exact .nil
  | cons u r ih =>
   intro k h;rw[aw,List.range'_succ,aA,aA];refine .cons ?_ (ih (k+1) λi x e=>?_)
   ·obtain⟨t,e⟩:=h 0 u rfl;rw[gc] at e;exact⟨t,e⟩
   ·obtain⟨t,e'⟩:=h (i+1) x (~~~e);exact⟨t,by rw[e'];congr 2;omega⟩
 have:=key us 0 λi x e=>by
  obtain⟨t,e'⟩:=hi i x e;exact⟨t,by rw[e',fO,jm]⟩
 unfold B7;rw[List.range_eq_range',<- hl];exact this
theorem a8r {lo hi:Int}(h1:-(2 ^ 62)<=lo)(h2:lo<2 ^ 62)(h3:-(2 ^ 62)<=hi)(h4:hi<2 ^ 62):g7 lo hi 1=true:=by
 exact PySem.small_one h1 h2 h3 h4
theorem a2f (hc:X.A.handled=none):J7 X (.type "tuple") (λxs H Q=>∃(p:Addr) (lo hi:Int),xs=[.ref p]/\H p=some (.rng lo hi)/\(-(2 ^ 62)<=lo/\lo<2 ^ 62/\-(2 ^ 62)<=hi/\hi<2 ^ 62)/\(hi-lo).toNat<=2 ^ 24 /\
  ∀ l,H l=none->Q (.ref l) (upd H l (.tup ((B7 lo (hi-lo).toNat).map V.int)))):=by
 intro pins s σ H xs us Q I r h;obtain⟨p,lo,hi,rfl,hp,⟨b1,b2,b3,b4⟩,hz,q⟩:=h;obtain⟨u,rfl,rx⟩:=Q3 r;cases rx;have hO:=I.hok p _ hp;unfold K0 at hO;obtain⟨t,u',v,hr⟩:=hO;have hsl:(hi-lo).toNat<=sizeLine:=by rw[sizeLine_eq];omega
 refine callType_new F.called_tuple (by decide) (F.typeCall_tuple_1 _) (F.newCall_tuple_1 _) (λobj=>F.args_object_init_2 obj _) F.entry_tuple_new
  (own_tuple_new p "range" (by decide) (λus=>us.length=(hi-lo).toNat/\∀(i:Nat) x,us[i]?=some x->∃ t,x=cA (lo+i*1) t))
  ⟨⟨_,hr,rfl⟩,λprog w=>Srt.coll_range (A:=X.A.in1.in1) hc hr (a8r b1 b2 b3 b4) (rangeSize_nat lo hi) hz,λvs hv=>by rw[hv.1];exact hsl,λh' tk vs hv hk=>⟨⟨_,au _ rfl,rfl⟩,?_⟩⟩
 have I1:Inv X pins σ H {s with heap:=h',toks:=tk}:=I.kept hk;refine⟨.ref h'.objs.size,_,I1.laid (t':=tk) (o:=.tup ((B7 lo (hi-lo).toNat).map V.int)) (λ_ _ q=>af _ q) (ao _) ⟨by rw[aa,B6];exact hsl,vs,a5G hv.1 hv.2,_,au _ rfl,rfl,0,rfl⟩,rfl,q _ I1.fresh⟩
end
end L2
namespace Srt
open PySem PyProof.Rows PySem.W
theorem nolen_lr:typeLookup (.type "list_reverseiterator") "__len__"=pure none:=by rw[typeLookup_type,builtinLookup_eq_fast];kernel_rfl
theorem hint_lr:typeLookup (.type "list_reverseiterator") "__length_hint__"=pure (some (.builtin "list_reverseiterator.__length_hint__")):=by rw[typeLookup_type,builtinLookup_eq_fast];kernel_rfl
section
variable {prog:Program}{w:World}{A:Around}{E:Value->Shared->Prop}{s:Shared}
theorem rev_extend {R:Result->Shared->Prop}{r l S:Addr}{items:Array Value}{res:Value}{c₀:Nat}(hh:A.handled=none)(hr:s.heap.IsRevIter r l ((items.size:Int)-1))(hl:s.heap.IsList l items)(hne:l≠r)(hSr:S≠r)(hSl:S≠l)
  (hS:s.heap.get? S=some {cls:=.type "list",data:=.seq #[] c₀}) (hn:items.size<=sizeLine)
  (hR:∀ h' tk acc' c',(∀ b o,b≠S->b≠r->s.heap.get? b=some o->h'.get? b=some o)->h'.get? S=some {cls:=.type "list",dict:=none,data:=.seq acc' c',slots:=#[]} ->
   ItemsOf (λi v=>items[items.size-1-i]?=some v) acc' items.size->R (.ok (.ret res)) {s with heap:=h',toks:=tk}) :
  wpAny (model prog w) A.in1 (Builtin.List.listExtendWith (.ref S) (.ref r) res)
   (λfin s'=>match fin with | .done f=>R (.ok f) s' | .again c'=>c'.quiet=true/\codeAny (model prog w) A c' R s') (λe s'=>R (.error e) s') s:=by
 have W:=(Walks.listRev (prog:=prog) (w:=w) (A:=A.in1) hh r l hne items).toS;have hSf:S∉[r,l]:=by simp only[aL,gU,or_false,not_or];exact⟨hSr,hSl⟩
 unfold Builtin.List.listExtendWith;refine ae (iq hr.typeIs ?_);have h1:Builtin.List.listSameRef (.ref S) (.ref r)=false:=by simp[Builtin.List.listSameRef,hSr]
 rw[if_neg (by rw[h1];decide)];refine ae (wpAny_pyIter_revIter hr ?_);refine ae (bJ ?_);unfold Builtin.List.listLengthHint;refine ae (iO hr.typeIs nolen_lr ?_);show wpAny _ A.in1 (specialOf (bw r) (aS "__length_hint__") >>= _) _ _ _;refine ae (iO hr.typeIs hint_lr ?_);generalize hid:("list_reverseiterator.__length_hint__":String)=id0
 wp_delta
 rw[show splitId id0=some ("list_reverseiterator", "__length_hint__") from by subst hid;decide +kernel];subst hid;refine ae (gg (b:=true) hr.typeIs (by rw[isSubtype_type];kernel_rfl) ?_);refine ag ?_;rw[if_neg (by decide)];refine ag ⟨plainId_quiet PySem.F.plain_extend_loop _,codeAny_extend_loopS W hn S hSf res items.size 0 s #[] c₀ rfl (bf _) ⟨bf _, ~~~hr,hl⟩ hS (ItemsOf.nil _) λs' acc' c' hm hS' hacc=>?_⟩;rw[Moved.eq_with hm];refine hR s'.heap s'.toks acc' c' (λb o hb hbr e=>hm.heap b o (λhmem=>?_) e) hS' hacc;rcases aL.mp hmem with e' | hmem
 ·exact hb e'
 ·exact hbr (aq.mp hmem)
theorem call_list_rev {Q:Value->Shared->Prop}{r l:Addr}{items:Array Value}(hh:A.handled=none)(hr:s.heap.IsRevIter r l ((items.size:Int)-1))(hl:s.heap.IsList l items)(hne:l≠r)(hn:items.size<=sizeLine)
  (hQ:∀ h' tk acc' c',(∀ b o,b≠r->s.heap.get? b=some o->h'.get? b=some o)->h'.get? s.heap.objs.size=some {cls:=.type "list",dict:=none,data:=.seq acc' c',slots:=#[]} ->
   ItemsOf (λi v=>items[items.size-1-i]?=some v) acc' items.size->Q (.ref s.heap.objs.size) {s with heap:=h',toks:=tk}) :
  wpAny (model prog w) A (call (.type "list") [.ref r]) Q E s:=by
 refine callType_codes (Q₁:=λobj sq=>obj=.ref s.heap.objs.size/\sq={s with heap:=s.heap.push {cls:=.type "list",data:=.seq #[]}}) PySem.F.called_list (PySem.F.typeCall_list_1 _) PySem.F.entry_list_init
  (code_list_new _ ⟨rfl,rfl⟩) λobj sq h₁=>?_
 obtain⟨rfl,rfl⟩:=h₁;have hS:(s.heap.push {cls:=.type "list",data:=.seq #[]}).get? s.heap.objs.size=some {cls:=.type "list",data:=.seq #[]}:=au _ rfl;have rlt:r<s.heap.objs.size:=let ⟨o,ho,_⟩:=hr;ar ho;have llt:l<s.heap.objs.size:=let ⟨o,ho,_⟩:=hl;ar ho;refine⟨⟨_,hS,rfl⟩,PySem.F.args_list_init_2 _ _,?_⟩;show wpAny _ _ (do let old <- Builtin.List.listItems (.ref s.heap.objs.size);Builtin.List.listUpdate (.ref s.heap.objs.size) (λ_=>#[]);letGo old.toList.reverse;Builtin.List.listExtendWith (.ref s.heap.objs.size) (.ref r) .none) _ _ _;refine ae ?_;unfold Builtin.List.listItems;refine ae (ef hS rfl (ag ?_));show wpAny _ _ (updateSeq s.heap.objs.size (λ_=>#[]) >>= λ_=>letGo (#[]:Array Value).toList.reverse >>= λ_=>Builtin.List.listExtendWith (.ref s.heap.objs.size) (.ref r) .none) _ _ _;refine ae (dQ hS rfl ?_);have hSz:=dg (Obj.mapSeq (λ_=>(#[]:Array Value))) hS rfl;have oth:∀ b o,b≠s.heap.objs.size->s.heap.get? b=some o->((s.heap.push {cls:=.type "list",data:=.seq #[]}).update s.heap.objs.size (Obj.mapSeq (λ_=>(#[]:Array Value)))).get? b=some o :=
  λb o hb e=>(fP _ _ (dN hb)).trans (af _ e)
 refine ae (eF ?_);refine rev_extend (A:=A.in1) hh (hr.at λo e=>oth r o (aK rlt) e) (hl.at λo e=>oth l o (aK llt) e) hne (dw rlt) (dw llt) hSz hn λh' tk acc' c' hk hS' hacc=>?_
 exact⟨rfl,hQ h' tk acc' c' (λb o hb e=>hk b o (aK (ar e)) hb (oth b o (aK (ar e)) e)) hS' hacc⟩
end
end Srt
namespace L2
open PySem PySem.Spec PyProof.Rows
section
variable {X:Cx}{e:Expr}{te:TE}{p1 p2 q1 q2:Pos}
theorem a5N:bootBuiltins "list"=some (.type "list"):=by decide +kernel
theorem a2q:bootBuiltins "reversed"=some (.type "reversed"):=by decide +kernel
theorem a3L:∀ {xs:List V} {us:List Value},C9 xs us->C9 xs.reverse us.reverse
 | _,_,.nil=>.nil
 | _,_,.cons r t=>by
  rw[eM,eM];exact (a3L t).append (.cons r .nil)
def b1E (te:TE):TE:=fun σ H Q=>te σ H λx H1=>∃ a xs,x=.ref a/\H1 a=some (.lst xs)/\∀ l,H1 l=none->Q (.ref l) (upd H1 l (.lst xs.reverse))
theorem a5n (hc:X.A.handled=none)(hg1:Gl X "list")(hm1:X.mg "list"=none)(hg2:Gl X "reversed")(hm2:X.mg "reversed"=none)(he:PE X e te)
  (hs1:starEach [.Call (.Name "reversed" p1) [e] [] q1] X.env=[(false,eval (.Call (.Name "reversed" p1) [e] [] q1) X.env)]:=by rfl) (hs2:starEach [e] X.env=[(false,eval e X.env)]:=by rfl) :
  PE X (.Call (.Name "list" p2) [.Call (.Name "reversed" p1) [e] [] q1] [] q2) (b1E te):=by
 intro pins s σ H Q I h;refine bR (S8 I hg1 hm1 a5N ?_);refine bU ?_ hs1 rfl;rw[hs1];refine fh ?_;refine bR (S8 I hg2 hm2 a2q ?_);refine bU ?_ hs2 rfl;rw[hs2];refine fh (thn (he pins s σ H _ I h) λu s1 ⟨x,H1,I1,r1,q1⟩=>?_);obtain⟨a,xs,rfl,ha,q⟩:=q1;cases r1;refine ft ?_;obtain⟨its,n,rv,ho,hz⟩:=I1.lst ha;have hl:s1.heap.IsList a its.toArray:=⟨_,ho,rfl,n,rfl⟩
 have alt:a<s1.heap.objs.size:=ar ho;refine call_reversed_list hl ?_;refine ft ?_;have k1:∀ b o,s1.heap.get? b=some o->(s1.heap.push (revObj a ((its.toArray.size:Int)-1))).get? b=some o:=λ_ _ q=>af _ q
 refine Srt.call_list_rev (s:={s1 with heap:=s1.heap.push (revObj a ((its.toArray.size:Int)-1))}) hc ⟨_,au _ rfl,rfl,rfl⟩ (hl.at λo e=>k1 a o e) (aK alt) (by rw[aD,<- rv.length];exact hz) λh' tk acc' c' hk hS' hacc=>?_
 have eacc:acc'.toList=its.reverse:=by
  apply cV;intro i;rw[bP];rcases bN i its.length with hi | hi
  ·have hi':i<acc'.size:=by rw[hacc.1,aD];exact hi
   have:=hacc.2 i acc'[i] (aY hi');rw[aY hi',List.getElem?_reverse hi];rw[aD,List.getElem?_toArray] at this;exact this.symm
  ·rw[bT (by rw[hacc.1,aD];exact hi),bQ (by rw[gn];exact hi)]
 have keep:∀ b o,s1.heap.get? b=some o->h'.get? b=some o:=λb o e=>hk b o (aK (ar e)) (k1 b o e)
 have hsz:(s1.heap.push (revObj a ((its.toArray.size:Int)-1))).objs.size=s1.heap.objs.size+1:=dU ..;refine⟨.ref (s1.heap.push (revObj a ((its.toArray.size:Int)-1))).objs.size,_,I1.laid (t':=tk) (a:=(s1.heap.push (revObj a ((its.toArray.size:Int)-1))).objs.size) (o:=.lst xs.reverse) keep (by rw[hsz];omega) ⟨by rw[gn];exact hz,its.reverse,c',a3L rv,by rw[<- eacc,ja];exact hS'⟩,rfl,q _ (I1.hok.fresh (by rw[hsz];omega))⟩
end
end L2
end
section
namespace L2
open PySem PySem.Spec PyProof.Rows
theorem b0p {prog:Program}{w:World}{A:Around}{E:Value->Shared->Prop}{s:Shared}{d:Addr}{es:Array DictEntry}{ep:Nat}{Q:Value->Shared->Prop}(hd:(d == sysModules)=false)(r:Srt.RawD s.heap d es ep)
  (h:Q (.int es.size s.toks) {s with toks:=s.toks+1}):wpAny (model prog w) A (call (.builtin "dict.__len__") [.ref d]) Q E s:=by
 obtain⟨o,ho,hx,hdat⟩:=id r;refine cR F.slot_dict_len r.typeIs F.entry_dict_len ?_ (F.args_dict_len_1 _);show wpAny _ _ (dictSize d >>= _) _ _ s;unfold dictSize;refine ae (ae (fT ho hdat (ag ?_)));show wpAny _ _ (Builtin.Dict.pendingCount d >>= _) _ _ s;refine ae (wpAny_pendingCount_other hd ?_);refine wpAny_ret_mkInt ?_;first | exact⟨_,rfl,h⟩ | exact h | simpa using h
section
variable {X:Cx}
theorem a5L:J7 X (.builtin "len") (λxs H Q=>∃(a:Addr) (kvs:List (List Key×V)),xs=[V.ref a]/\H a=some (.dT kvs)/\Q (.int kvs.length) H):=by
 intro pins s σ H xs us Q I r h;obtain⟨a,kvs,rfl,ha,q⟩:=h;obtain⟨u,rfl,ru⟩:=Q3 r;cases ru;have hO:=I.hok a _ ha;unfold K0 at hO;obtain⟨z,lo,xs,rel,o,es,ep,ho,hx,hd,hes,hn⟩:=hO;have hl:es.size=kvs.length:=by rw[<- aU,hes,aa,<- d9 rel]
 have rd:Srt.RawD s.heap a es ep:=⟨o,ho,hx,hd⟩
 rw[sizeLine_eq] at z;refine call_len_slot (n:=kvs.length) rd.typeIs F.slot_dict_len (λQ' hq=>b0p lo rd (by rw[hl];exact hq)) ∅ ∅ ?_;exact⟨.int kvs.length,H,I.tok _,⟨_,rfl⟩,q⟩
end
structure Df (K:ac)(mg:Str->Option Value)(x:Str)(st:Stmt)(f:Addr)(fd:FuncData)(ps:List Str):Prop where
 F:Fun K x x st f fd
 b:a3p K fd ps []
 m:mg x=some (.ref f)
theorem B4 {X:Cx}{k:Nat}{f:Addr}{fd:FuncData}{ps:List Str}{sp:Sp}{x:Str}{st:Stmt}{p pos:Pos}{e:Expr}{es:List Expr}{t:TA}(G:C0 X.prog X.w X.K X.mg X.base CX0 k f fd ps sp)(D:Df X.K X.mg x st f fd ps)(hr:N3 k X.A)
  (ha:PA X (e::es) t) (hg:Gl X x:=by rfl) (hdb:(x == ("__debug__":Str))=false:=by decide) (he:starEach (e::es) X.env=(false,eval e X.env)::starEach es X.env:=by rfl) (hpl:(backTo pos (starEach es X.env)).any (·.1)=false:=by rfl) :
  PE X (.Call (.Name x p) (e::es) [] pos) (a5T sp [] E0 t):=b0D G hr hg D.m D.F.kp D.b .nil b4A ha hdb he hpl
structure Bt (mg:Str->Option Value):Prop where
 len:mg "len"=none
 range:mg "range"=none
 list:mg "list"=none
 tuple:mg "tuple"=none
 sorted:mg "sorted"=none
 min:mg "min"=none
 max:mg "max"=none
 int:mg "int"=none
 reversed:mg "reversed"=none
section
variable {X:Cx}(K:ac)
theorem a9s (h:X.K=K:=by rfl):IxR X (b0r K):=by subst h;exact a6J
theorem b1c (h:X.K=K:=by rfl):IxR X (b0q K):=by subst h;exact a9r
theorem a4c (h:X.K=K:=by rfl):SlR X (b4v K):=by subst h;exact b0n
theorem a0y (h:X.K=K:=by rfl):OpR X (compareOp .In) (rIn K false):=by subst h;exact a7a
theorem W1 (h:X.K=K:=by rfl):OpR X (compareOp .NotIn) (rIn K true):=by subst h;exact a3z
theorem a7H (hu:X.A.units+64<cLine)(h:X.K=K:=by rfl):OpR X (compareOp .Eq) (a5i K false):=by subst h;exact b2L hu
theorem b4D (hu:X.A.units+64<cLine)(h:X.K=K:=by rfl):OpR X (compareOp .NotEq) (a5i K true):=by subst h;exact b2J hu
def b3E (K:ac):List V->Hp->VK->Prop:=λxs H Q=>∃ p ys,xs=[.ref p]/\(SqL K H p ys\/SqT K H p ys)/\Q (.int ys.length) H
def b1Z (K:ac):List V->Hp->VK->Prop:=λxs H Q=>∃ p ys,xs=[.ref p]/\(SqL K H p ys\/SqT K H p ys)/\∀ l,H l=none->Q (.ref l) (upd H l (.lst ys))
def a9X (K:ac):List V->Hp->VK->Prop:=λxs H Q=>∃ p ys,xs=[.ref p]/\((SqL K H p ys/\∀ l,H l=none->Q (.ref l) (upd H l (.tup ys)))\/(SqT K H p ys/\Q (.ref p) H))
def a9Z (K:ac):List V->Hp->VK->Prop:=λxs H Q=>∃(p:Addr) (ns:List Int),xs=[.ref p]/\b3N K H p ns/\∀(ns':List Int) (l:Addr),ns'.Perm ns->ns'.Pairwise (·<=·)->H l=none->Q (.ref l) (upd H l (.lst (ns'.map V.int)))
def a9Y (K:ac):List V->Hp->VK->Prop:=λxs H Q=>∃(p:Addr) (ps:List (Addr×List Int)),xs=[.ref p]/\b3M K H p ps/\∀(ps':List (Addr×List Int)) (l:Addr),ps'.Perm ps->(ps'.Pairwise λx y=>HT.lexLt y.2 x.2=false)->H l=none->Q (.ref l) (upd H l (.lst (ps'.map λx=>V.ref x.1)))
theorem U7 (h:X.K=K:=by rfl):J7 X (.builtin "len") (b3E K):=by subst h;exact a3H
theorem a9m (h:X.K=K:=by rfl):J7 X (.type "list") (b1Z K):=by subst h;exact a3G
theorem S6 (h:X.K=K:=by rfl):J7 X (.type "tuple") (a9X K):=by subst h;exact a2p
theorem W9 (hc:X.A.handled=none)(h:X.K=K:=by rfl):J7 X (.builtin "sorted") (a9Z K):=by subst h;exact a3E hc
theorem a1y (h:X.K=K:=by rfl):J7 X (.builtin "sorted") (a9Y K):=by subst h;exact a3D
variable {tg l o e:Expr}{tl to:TE}{es:List Expr}{t:TA}{pos:Pos}
theorem J9 (hl:PE X l tl)(h:X.K=K:=by rfl):PI X tg l (a9D K tl):=by subst h;exact b0z hl
theorem K6 (hl:PE X l tl)(h:X.K=K:=by rfl):PI X tg l (b3m K tl):=by subst h;exact b2y hl
theorem N2 {k:Nat}{t:TGs}{n:Nat}(hc:X.calm=true)(hg:PGs X es t)(hn:(assignEach es X.env).length=n:=by rfl)(hst:(assignEach es X.env).findIdx? (·.1)=none:=by rfl)(h:X.K=K:=by rfl):PG X (.Tuple es k pos) (b3r K n t):=by
 subst h;exact b2z hc hg hn hst
theorem N6 {apos cpos:Pos}(ho:PE X o to)(ha:PA X (e::es) t)(h:X.K=K:=by rfl)
  (hbase:attributeBase o "append" X.env (eval o X.env)=eval o X.env:=by rfl)
  (hfew:((backTo cpos (starEach (e::es) X.env)).all (λx=>!x.1) && (backToKw cpos (keywordEach [] X.env)).all (λx=>x.1.isSome)
   && decide ((e::es).length+([]:List Keyword).length+(if ([]:List Keyword).isEmpty then 0 else 1)<30))=true:=by rfl) (hst:starEach (e::es) X.env=(false,eval e X.env)::starEach es X.env:=by rfl) (hpl:(backTo cpos (starEach es X.env)).any (·.1)=false:=by rfl) (hline:(apos.endLine == cpos.line)=true:=by rfl) :
  PE X (.Call (.Attribute o "append" apos) (e::es) [] cpos) (tBM K "list" a3v to t):=by
 subst h;exact b4z ij PySem.F.slot_list_append PySem.F.type_list_append a2S ho ha hbase hfew hline hst hpl
theorem b2w {apos cpos:Pos}(ho:PE X o to)(h:X.K=K:=by rfl)(hbase:attributeBase o "pop" X.env (eval o X.env)=eval o X.env:=by rfl)(hline:(apos.endLine == cpos.line)=true:=by rfl) :
  PE X (.Call (.Attribute o "pop" apos) [] [] cpos) (b2p K "list" b2u to):=by
 subst h;exact b2D ij PySem.F.slot_list_pop PySem.F.type_list_pop b2S ho hbase hline
theorem a8c (he:PE X e to)(hw:∀ whole,isTrue e X.env whole=(do let v <- whole;standAt e.pos;holding [v] (truthy v)))(h:X.K=K:=by rfl):PT X e (fun σ H Q=>to σ H λx H'=>∃ k,b1z K x H' k/\Q k H'):=by
 subst h;exact a8y he hw
end
section
variable {K:ac}{a p:Addr}{xs:List V}{g:TG}{tc:TT}{te tv:TE}{τ0:St}{H0:Hp}{EE:Hp->Prop}
theorem U4 (Pv:Nat->St->Hp->Prop)(h0:Pv 0 τ0 H0)(hl:∀ i τ H,i<=xs.length->Pv i τ H->SqL K H a xs)
  (hs:∀ i x τ H,xs[i]?=some x->Pv i τ H->(∀ ys,SqL K H a ys->ys[i]?=some x)->g x τ H fun τ2 H2=>tc τ2 H2 λb H3=>if b=true then te τ2 H3 λv H4=>∃ ys,H4 p=some (.lst ys)/\ys.length<sizeLine/\Pv (i+1) τ2 (upd H4 p (.lst (ys++[v]))) else Pv (i+1) τ2 H3)
  (hd:∀ τ H,Pv xs.length τ H->EE H):lcW g tc te p (Itl K a) τ0 H0 EE:=by
 refine⟨λi m τ H=>m=xs.length-i/\i<=xs.length/\Pv i τ H,⟨_,rfl,bf _,h0⟩,?_⟩;rintro i m τ H ⟨rfl,hi,hp⟩;have hq:=hl i τ H hi hp;rcases bN i xs.length with h | h
 ·have hx:xs[i]?=some xs[i]:=aG h;refine .inr ⟨⟨xs,_,hq,hx⟩,Pv (i+1),fun τ' H' z=>⟨_,∅,rfl,h,z⟩,?_⟩;rintro x H' ⟨rfl,hy⟩;have e:x=xs[i]:=by have:=hy xs hq;rw[hx] at this;exact (ak this).symm
  subst e;exact hs i _ τ H' hx hp hy
 ·have e:i=xs.length:=∅
  subst e;exact .inl ⟨⟨xs,hq,ao _⟩,hd τ H hp⟩
theorem a5B (Pv:Nat->St->Hp->Prop)(h0:Pv 0 τ0 H0)(hl:∀ i τ H,i<=xs.length->Pv i τ H->SqT K H a xs)
  (hs:∀ i x τ H,xs[i]?=some x->Pv i τ H->g x τ H fun τ2 H2=>tc τ2 H2 λb H3=>if b=true then te τ2 H3 λv H4=>∃ ys,H4 p=some (.lst ys)/\ys.length<sizeLine/\Pv (i+1) τ2 (upd H4 p (.lst (ys++[v]))) else Pv (i+1) τ2 H3)
  (hd:∀ τ H,Pv xs.length τ H->EE H):lcW g tc te p (Itt K a) τ0 H0 EE:=by
 refine⟨λi m τ H=>m=xs.length-i/\i<=xs.length/\Pv i τ H,⟨_,rfl,bf _,h0⟩,?_⟩;rintro i m τ H ⟨rfl,hi,hp⟩;have hq:=hl i τ H hi hp;rcases bN i xs.length with h | h
 ·have hx:xs[i]?=some xs[i]:=aG h;refine .inr ⟨⟨xs,_,hq,hx⟩,Pv (i+1),fun τ' H' z=>⟨_,∅,rfl,h,z⟩,?_⟩;rintro x H' ⟨rfl,hy⟩;have e:x=xs[i]:=by have:=hy xs hq;rw[hx] at this;exact (ak this).symm
  subst e;exact hs i _ τ H' hx hp
 ·have e:i=xs.length:=∅
  subst e;exact .inl ⟨⟨xs,hq,ao _⟩,hd τ H hp⟩
theorem Y3 {lo:Int}{n:Nat}(Pv:Nat->St->Hp->Prop)(h0:Pv 0 τ0 H0)
  (hs:∀ i τ H,i<n->Pv i τ H->g (.int (lo+i)) τ H fun τ2 H2=>tc τ2 H2 λb H3=>if b=true then te τ2 H3 λv H4=>∃ ys,H4 p=some (.lst ys)/\ys.length<sizeLine/\Pv (i+1) τ2 (upd H4 p (.lst (ys++[v]))) else Pv (i+1) τ2 H3)
  (hd:∀ τ H,Pv n τ H->EE H):lcW g tc te p (Itr lo n) τ0 H0 EE:=by
 refine⟨λi m τ H=>m=n-i/\i<=n/\Pv i τ H,⟨_,rfl,bf _,h0⟩,?_⟩;rintro i m τ H ⟨rfl,hi,hp⟩;rcases bN i n with h | h
 ·refine .inr ⟨h,Pv (i+1),fun τ' H' z=>⟨_,∅,rfl,h,z⟩,?_⟩;rintro x H' ⟨rfl,rfl⟩;exact hs i τ H' h hp
 ·have e:i=n:=∅
  subst e;exact .inl ⟨ao _,hd τ H hp⟩
theorem a5K (Pv:Nat->St->Hp->Prop)(h0:Pv 0 τ0 H0)(hl:∀ i τ H,i<=xs.length->Pv i τ H->SqT K H a xs)
  (hs:∀ i x τ H,xs[i]?=some x->Pv i τ H->g x τ H fun τ2 H2=>tc τ2 H2 λb H3=>if b=true then te τ2 H3 λk H4=>tv τ2 H4 λv H5=>∃ H6,V7 H5 p k v H6/\Pv (i+1) τ2 H6 else Pv (i+1) τ2 H3)
  (hd:∀ τ H,Pv xs.length τ H->EE H):dcW g tc te tv p (Itt K a) τ0 H0 EE:=by
 refine⟨λi m τ H=>m=xs.length-i/\i<=xs.length/\Pv i τ H,⟨_,rfl,bf _,h0⟩,?_⟩;rintro i m τ H ⟨rfl,hi,hp⟩;have hq:=hl i τ H hi hp;rcases bN i xs.length with h | h
 ·have hx:xs[i]?=some xs[i]:=aG h;refine .inr ⟨⟨xs,_,hq,hx⟩,Pv (i+1),fun τ' H' z=>⟨_,∅,rfl,h,z⟩,?_⟩;rintro x H' ⟨rfl,hy⟩;have e:x=xs[i]:=by have:=hy xs hq;rw[hx] at this;exact (ak this).symm
  subst e;exact hs i _ τ H' hx hp
 ·have e:i=xs.length:=∅
  subst e;exact .inl ⟨⟨xs,hq,ao _⟩,hd τ H hp⟩
end
theorem a3h {X:Cx}:J7 X (.type "int") (λxs H Q=>∃ k,xs=[.bl k]/\Q (.int (if k then 1 else 0)) H):=λpins s σ H xs us Q I r h=>a7Q pins s σ H xs us Q I r (.inr h)
theorem a7Y {H:Hp}{a:Addr}{o:HO}(h:H a=some o):upd H a o=H:=by
 funext b;by_cases e:b=a
 ·subst e;rw[A1,h]
 ·rw[B3 e]
theorem B5.upd {H H':Hp}(s:B5 H H'){p:Addr}{o:HO}(hp:H p=none):B5 H (L2.upd H' p o):=λb u e=>by
 rw[B3 (C2 e hp)];exact s b u e
theorem B5.seqT {K:ac}{H H':Hp}{a:Addr}{xs:List V}(e:B5 H H')(h:SqT K H a xs):SqT K H' a xs:=by
 rcases h with (h | ⟨o,h⟩) | h
 ·exact .inl (.inl (e _ _ h))
 ·exact .inl (.inr ⟨o,e _ _ h⟩)
 ·exact .inr h
theorem E2 {n:Nat}(h:n<=16000000):n<sizeLine:=by rw[sizeLine_eq];omega
end L2
end
section
namespace L2
open PySem
def Tp (H H':Hp):Prop:=∀ a xs,H a=some (.tup xs)->H' a=some (.tup xs)
theorem Tp.refl (H:Hp):Tp H H:=λ_ _ h=>h
theorem Tp.trans {H H1 H2:Hp}(a:Tp H H1)(b:Tp H1 H2):Tp H H2:=λc o h=>b c o (a c o h)
theorem B5.tp {H H':Hp}(s:B5 H H'):Tp H H':=λa xs h=>s a _ h
theorem b1S {H:Hp}{a b:Addr}{xs ys:List V}(h:H a=some (.tup xs))(h':H b=some (.lst ys)):a≠b:=λe=>by subst e;rw[h] at h';cases h'
theorem b2Q {H:Hp}{a b:Addr}{xs:List V}{ys:List (List Key×V)}(h:H a=some (.tup xs))(h':H b=some (.dT ys)):a≠b:=λe=>by subst e;rw[h] at h';cases h'
theorem b2R {H:Hp}{a b:Addr}{xs:List V}{ys:List (Key×V)}(h:H a=some (.tup xs))(h':H b=some (.dK ys)):a≠b:=λe=>by subst e;rw[h] at h';cases h'
theorem Tp.new {H H':Hp}(s:Tp H H'){p:Addr}{o:HO}(hp:H p=none):Tp H (upd H' p o):=λa xs h=>by rw[B3 (C2 h hp)];exact s a xs h
theorem Tp.lst {H:Hp}{p:Addr}{o:HO}{ys:List V}(hp:H p=some (.lst ys)):Tp H (upd H p o):=λa xs h=>by rw[B3 (b1S h hp)];exact h
theorem Tp.dT {H:Hp}{p:Addr}{o:HO}{ys:List (List Key×V)}(hp:H p=some (.dT ys)):Tp H (upd H p o):=λa xs h=>by rw[B3 (b2Q h hp)];exact h
theorem Tp.dK {H:Hp}{p:Addr}{o:HO}{ys:List (Key×V)}(hp:H p=some (.dK ys)):Tp H (upd H p o):=λa xs h=>by rw[B3 (b2R h hp)];exact h
theorem Tp.nw {H:Hp}{p:Addr}{o:HO}(hp:H p=none):Tp H (upd H p o):=(Tp.refl H).new hp
theorem P3 {H:Hp}{a p:Addr}{o u:HO}(h:H a=some o)(hp:H p=none):upd H p u a=some o:=by rw[B3 (C2 h hp)];exact h
theorem M0 {H:Hp}{p q:Addr}{o:HO}(h:upd H p o q=none):H q=none:=by
 by_cases e:q=p
 ·subst e;rw[A1] at h;cases h
 ·rwa [B3 e] at h
@[elab_as_elim] theorem A8 {G:Hp->Prop} {H:Hp} {p:Addr} {o:HO} (n:H p=none) (k:∀ H',B5 H H'->H' p=some o->G H'):G (upd H p o):=k _ ((B5.refl H).upd n) A1
theorem a8s {a b:TS}{D:U0}{σ:St}{H:Hp}(C:St->Hp->Prop)(ha:∀ R:St->Hp->Prop,(∀ σ H,C σ H->R σ H)->a {D with nx:=R} σ H)(hb:∀ σ H,C σ H->b D σ H):b2e a b D σ H:=ha (b D) hb
def b4Z (ds:List Int):Prop:=ds.length<=2000/\∀ x∈ds,0<=x/\x<1000
def P4 (H:Hp)(d:Addr):Prop:=∃ ds:List Int,H d=some (.lst (ds.map V.int))/\b4Z ds
def Kp (d:Addr)(H H':Hp):Prop:=∀ b o,b≠d->H b=some o->H' b=some o
theorem Kp.refl (d:Addr)(H:Hp):Kp d H H:=λ_ _ _ h=>h
theorem Kp.trans {d:Addr}{H H1 H2:Hp}(a:Kp d H H1)(b:Kp d H1 H2):Kp d H H2:=λc o hc e=>b c o hc (a c o hc e)
theorem B5.kp {d:Addr}{H H':Hp}(s:B5 H H'):Kp d H H':=λb o _ h=>s b o h
theorem Kp.free {d:Addr}{H H':Hp}(k:Kp d H H')(hd:P4 H' d){l:Addr}(h:H' l=none):H l=none:=by
 cases e:H l with
 | none=>rfl
 | some o =>
  by_cases q:l=d
  ·subst q;obtain⟨ds,e',_⟩:=hd;rw[e'] at h;cases h
  ·rw[k l o q e] at h;cases h
theorem Kp.new {d:Addr}{H H':Hp}(k:Kp d H H'){p:Addr}{o:HO}(hp:H p=none):Kp d H (upd H' p o):=λb u hb e=>by
 rw[B3 (C2 e hp)];exact k b u hb e
theorem P4.new {d:Addr}{H:Hp}(h:P4 H d){p:Addr}{o:HO}(hp:p≠d):P4 (upd H p o) d:=by
 obtain⟨ds,e,hl⟩:=h;exact⟨ds,by rw[B3 hp.symm];exact e,hl⟩
theorem P4.ne {d p:Addr}{H:Hp}(h:P4 H d)(hp:H p=none):p≠d:=λe=>by
 subst e;obtain⟨ds,e,_⟩:=h;rw[hp] at e;cases e
theorem P4.same {d:Addr}{H H':Hp}(h:P4 H d)(s:B5 H H'):P4 H' d:=by
 obtain⟨ds,e,hl⟩:=h;exact⟨ds,s _ _ e,hl⟩
theorem Kp.tp {d:Addr}{H H':Hp}(k:Kp d H H')(hd:P4 H d):Tp H H':=λa xs h=>by
 refine k a _ (λe=>?_) h;subst e;obtain⟨ds,e',_⟩:=hd;rw[h] at e';cases e'
def a3U:Sp:=λvs H Q _=>∃ c k:Int,vs=[.int c,.int k]/\0<=k/\k<2 ^ 30/\∀ z:Int,Q (.int z) H
def Z0:Sp:=λvs H Q _=>∃(d:Addr) (ns:List Int),vs=[.ref d]/\H d=some (.lst (ns.map V.int))/\∀(z:Int) (ns':List Int),ns'.length<=ns.length->(∀ x∈ns',x∈ns)->(z=0\/z∈ns)->Q (.int z) (upd H d (.lst (ns'.map V.int)))
theorem O0 {H:Hp}{d:Addr}{Q:VK}{E:XK}(hd:P4 H d)(h:∀ z H',Kp d H H'->P4 H' d->(∀ b,b≠d->H' b=H b)->Q (.int z) H'):Z0 [.ref d] H Q E:=by
 obtain⟨ds,e,hl,hb⟩:=hd;exact⟨d,ds,rfl,e,λz ns' hn hs _=>h z _ (λb o hb eb=>by rw[B3 hb];exact eb) ⟨ns',A1,∅,λx hx=>hb x (hs x hx)⟩ λb hb=>B3 hb⟩
def a6c (K:ac):Sp:=λvs H Q _=>∃(a:Addr) (m:Int) (ns:List Int),vs=[.ref a,.int m]/\SqL K H a (ns.map V.int)/\ns.length<=63/\0<=m/\m<=2000 /\
 ∀(p:Addr) (ds:List Int) (H':Hp),b4Z ds->B5 H H'->H p=none->H' p=some (.lst (ds.map V.int))->Q (.ref p) H'
def a3s:Sp:=λvs H Q _=>∃(d:Addr) (n:Int),vs=[.ref d,.int n]/\P4 H d/\0<=n/\n<=60 /\
 ∀(p:Addr) (ks:List Int) (H':Hp),Kp d H H'->P4 H' d->H p=none->H' p=some (.tup (ks.map V.int))->ks.Perm (B7 0 n.toNat)->Q (.ref p) H'
theorem a8b {H:Hp}{d:Addr}{n:Int}{Q:VK}{E:XK}(hd:P4 H d)(h0:0<=n)(h1:n<=60)(h:∀(p:Addr) (ks:List Int) (H':Hp),Kp d H H'->P4 H' d->H p=none->H' p=some (.tup (ks.map V.int))->ks.Perm (B7 0 n.toNat)->Q (.ref p) H'):a3s [.ref d,.int n] H Q E :=
 ⟨d,n,rfl,hd,h0,h1,h⟩
theorem a1L (i:Nat):B7 0 (i+1)=B7 0 i++[(0:Int)+i]:=by unfold B7;rw[hX,aE];rfl
def tl (t:Int×Int):List Int:=[t.1,t.2]
def Lex (t u:Int×Int):Prop:=t.1<u.1\/(t.1=u.1/\t.2<u.2)
structure N8 (n:Int)(ts:⋯):Prop where
 n3:3<=n
 n60:n<=60
 rng:∀ t∈ts,0<=t.1/\t.1<t.2/\t.2<n
 srt:ts.Pairwise Lex
 len:ts.length<=200
 conn:∀ S:Int->Prop,(∀ t∈ts,S t.1↔S t.2)->∀ u v,0<=u->u<n->0<=v->v<n->S u->S v
structure Q0 (H:Hp)(ps:List (Addr×List Int))(ts:⋯):Prop where
 to:∀ x∈ps,H x.1=some (.tup (x.2.map V.int))
 eq:ps.map (·.2)=ts.map tl
def a0R (H:Hp)(q:Addr)(ts:⋯):Prop:=∃ ps:List (Addr×List Int),H q=some (.tup (ps.map λx=>V.ref x.1))/\Q0 H ps ts
def N7 (H:Hp)(w:Addr)(n:Int)(ts:⋯):Prop:=∃ q,H w=some (.tup [.int n,.ref q])/\a0R H q ts
theorem Q0.tp {H H':Hp}{ps:List (Addr×List Int)}{ts:⋯}(h:Q0 H ps ts)(t:Tp H H'):Q0 H' ps ts:=⟨λx hx=>t _ _ (h.to x hx),h.eq⟩
theorem a0R.tp {H H':Hp}{q:Addr}{ts:⋯}(h:a0R H q ts)(t:Tp H H'):a0R H' q ts:=by
 obtain⟨ps,e,p⟩:=h;exact⟨ps,t _ _ e,p.tp t⟩
theorem N7.tp {H H':Hp}{w:Addr}{n:Int}{ts:⋯}(h:N7 H w n ts)(t:Tp H H'):N7 H' w n ts:=by
 obtain⟨q,e,p⟩:=h;exact⟨q,t _ _ e,p.tp t⟩
theorem Q0.get {H:Hp}{ps:List (Addr×List Int)}{ts:⋯}(h:Q0 H ps ts){i:Nat}{v:V}(e:(ps.map λx=>V.ref x.1)[i]?=some v) :
  ∃ a t,v=.ref a/\ts[i]?=some t/\H a=some (.tup [.int t.1,.int t.2]):=by
 rw[ah] at e;cases hx:ps[i]? with
 | none=>rw[hx] at e;cases e
 | some x =>
  rw[hx] at e;have e1:V.ref x.1=v:=ak e;have e2:(ps.map (·.2))[i]?=some x.2:=by rw[ah,hx];rfl
  rw[h.eq,ah] at e2;cases ht:ts[i]? with
  | none=>rw[ht] at e2;cases e2
  | some t =>
   rw[ht] at e2;have e3:tl t=x.2:=ak e2;refine⟨x.1,t,e1.symm,rfl,?_⟩;rw[h.to x (aF hx),<- e3];rfl
theorem Q0.len {H:Hp}{ps:List (Addr×List Int)}{ts:⋯}(h:Q0 H ps ts):ps.length=ts.length:=by
 have:=congrArg fH h.eq;simpa using this
def un (l:List Int):Int×Int:=(l.getD 0 0,l.getD 1 0)
theorem b3T (t:Int×Int):un (tl t)=t:=rfl
theorem Q0.of_perm {H:Hp}{ps:List (Addr×List Int)}{ts:⋯}(h:∀ x∈ps,H x.1=some (.tup (x.2.map V.int)))(pm:(ps.map (·.2)).Perm (ts.map tl)):∃ ts',ts'.Perm ts/\Q0 H ps ts':=by
 refine⟨(ps.map (·.2)).map un,?_,h,?_⟩
 ·have:=pm.map un;rw[bu (l:=ts),show (un ∘ tl)=id from funext b3T,jA] at this;exact this
 ·rw[bu];conv=>lhs;rw[<- jA (ps.map (·.2))]
  refine cW λl hl=>?_
  obtain⟨t,_,rfl⟩:=bq.mp (pm.mem_iff.mp hl);rfl
theorem Q0.perm {H:Hp}{ps ps':List (Addr×List Int)}{ts:⋯}(h:Q0 H ps ts)(pm:ps'.Perm ps):∃ ts',ts'.Perm ts/\Q0 H ps' ts' :=
 Q0.of_perm (λx hx=>h.to x (pm.mem_iff.mp hx)) (by rw[<- h.eq];exact pm.map _)
theorem Q0.srt {H:Hp}{ps:List (Addr×List Int)}{ts:⋯}(h:Q0 H ps ts)(s:ps.Pairwise λx y=>HT.lexLt y.2 x.2=false):ts.Pairwise λx y=>HT.lexLt (tl y) (tl x)=false:=by
 have h1:(ps.map (·.2)).Pairwise λx y=>HT.lexLt y x=false:=ck.mpr s
 rw[h.eq] at h1;exact List.pairwise_map.mp h1
theorem Q0.src {K:ac}{H:Hp}{p:Addr}{ps:List (Addr×List Int)}{ts:⋯}(h:Q0 H ps ts)(e:H p=some (.lst (ps.map λx=>V.ref x.1)))(hl:ps.length<64:=by omega):b3M K H p ps:=by
 refine⟨.inl (SqL.of e),λx hx=>⟨h.to x hx,λe2=>?_⟩,hl⟩;have:x.2∈ps.map (·.2):=dA hx;rw[h.eq] at this;obtain⟨t,_,e3⟩:=bq.mp this;rw[e2] at e3;cases e3
theorem Q0.snoc {H:Hp}{ps:List (Addr×List Int)}{ts:⋯}(h:Q0 H ps ts){q:Addr}{t:Int×Int}(e:H q=some (.tup [.int t.1,.int t.2])):Q0 H (ps++[(q,tl t)]) (ts++[t]):=by
 refine⟨λx hx=>?_,by rw[aE,aE,h.eq];rfl⟩;rcases aj.mp hx with hx | hx
 ·exact h.to x hx
 ·cases aq.mp hx;exact e
def a8p:Sp:=λvs H Q _=>∃(d:Addr) (lo hi:Int),vs=[.ref d,.int lo,.int hi]/\P4 H d/\3<=lo/\lo<=hi/\hi<=20 /\
 ∀(w:Addr) (n:Int) (ts:⋯) (H':Hp),Kp d H H'->P4 H' d->lo<=n->n<=hi->N8 n ts->N7 H' w n ts->Q (.ref w) H'
def kvT (fs:⋯):List (List Key×V):=fs.map λt=>([.inl t.1,.inl t.2],V.bl true)
def a2r (fs:⋯)(t:Int×Int):⋯:=if t∈fs then fs else fs++[t]
theorem a1R {fs:⋯}{t x:Int×Int}:x∈a2r fs t↔x∈fs\/x=t:=by
 unfold a2r;split
 ·exact⟨.inl,λh=>h.elim id λe=>by subst e;assumption⟩
 ·simp
theorem b0T {fs:⋯}{t:Int×Int}(h:fs.Nodup):(a2r fs t).Nodup:=by
 unfold a2r;split
 ·exact h
 ·rename_i hn;rw[dO];exact⟨h,by simp,λa ha b hb e=>hn (by simp at hb;subst hb;subst e;exact ha)⟩
theorem a1T {fs:⋯}{t:Int×Int}:(a2r fs t).length<=fs.length+1:=by
 unfold a2r;split<;>simp
theorem a1a {fs:⋯}(h:fs.length<=1000):(kvT fs).length<sizeLine:=by unfold kvT;rw[aa];exact E2 ∅
theorem a3w (fs:⋯)(a b:Int):T6 (kvT fs) [bp a,bp b] (V.bl true)=kvT (a2r fs (a,b)):=by
 have key:∀ t:Int×Int,(([bp t.1,bp t.2]:List Key)=[bp a,bp b])↔t=(a,b):=λt=>by
  obtain⟨x,y⟩:=t;constructor
  ·intro e;injection e with e1 e2
   injection e2 with e2 _
   injection e1 with e1
   injection e2 with e2
   subst e1;subst e2;rfl
  ·intro e;cases e;rfl
 unfold T6 a2r;by_cases h:(a,b)∈fs
 ·have h1:((kvT fs).any λkv=>decide (kv.1=[bp a,bp b]))=true:=by
   rw[bC];exact⟨_,dA h,by simp⟩
  rw[if_pos h1,if_pos h];unfold kvT;rw[bu];refine cW λt ht=>?_
  show (if _ then _ else _)=_;split<;>rfl
 ·have h1:¬ ((kvT fs).any λkv=>decide (kv.1=[bp a,bp b]))=true:=by
   rw[bC];rintro⟨kv,hk,e⟩;obtain⟨t,ht,rfl⟩:=bq.mp hk;have:=(key t).mp (of_decide_eq_true e);subst this;exact h ht
  rw[if_neg h1,if_neg h];unfold kvT;rw[aE];rfl
theorem a6H (fs:⋯):(kvT fs).length=fs.length:=by unfold kvT;simp
theorem a9p (fs:⋯):(kvT fs).map (·.1)=(fs.map tl).map (λks=>ks.map (bp:Int->Key)):=by
 unfold kvT tl;rw[bu,bu];rfl
def nm (ks:List Int)(u:Int):Int:=ks.getD u.toNat 0
def ren (ks:List Int)(t:Int×Int):Int×Int:=(if nm ks t.2<nm ks t.1 then nm ks t.2 else nm ks t.1,if nm ks t.2>nm ks t.1 then nm ks t.2 else nm ks t.1)
section
variable {ks:List Int}{n:Int}
theorem a4A (hp:ks.Perm (B7 0 n.toNat)){u:Int}(h0:0<=u)(h1:u<n):ks[u.toNat]?=some (nm ks u):=by
 have hl:ks.length=n.toNat:=by rw[hp.length_eq,B6]
 have hu:u.toNat<ks.length:=∅
 unfold nm;rw[bZ,aG hu];rfl
theorem a9g (hp:ks.Perm (B7 0 n.toNat)){u:Int}(h0:0<=u)(h1:u<n):0<=nm ks u/\nm ks u<n:=by
 have hm:=hp.mem_iff.mp (aF (a4A hp h0 h1));unfold B7 at hm;obtain⟨i,hi,e⟩:=bq.mp hm;have:=cg.mp hi;omega
theorem a0L (hp:ks.Perm (B7 0 n.toNat)){u v:Int}(h0:0<=u)(h1:u<n)(k0:0<=v)(k1:v<n)(e:nm ks u=nm ks v):u=v:=by
 have hnd:ks.Nodup:=hp.nodup_iff.mpr (by
  unfold B7;refine ck.mpr (List.Pairwise.imp ?_ iW)
  intro a b h e;omega)
 have a1:=a4A hp h0 h1;have a2:=a4A hp k0 k1;rw[<- e] at a2;have hl:ks.length=n.toNat:=by rw[hp.length_eq,B6]
 have:=(gO (l:=ks) (i:=u.toNat) (j:=v.toNat) ∅ hnd).mp (by rw[a1,a2]);omega
theorem a9f (hp:ks.Perm (B7 0 n.toNat)){v:Int}(k0:0<=v)(k1:v<n):∃ u,0<=u/\u<n/\nm ks u=v:=by
 have hm:v∈B7 0 n.toNat:=by
  unfold B7;exact bq.mpr ⟨v.toNat,cg.mpr ∅,∅⟩
 obtain⟨i,hi,e⟩:=cE (hp.mem_iff.mpr hm);have hl:ks.length=n.toNat:=by rw[hp.length_eq,B6]
 refine⟨(i:Int),∅,∅,?_⟩;unfold nm;rw[bZ,bD,aG hi];exact e
theorem b0Z {t u:Int×Int}:HT.lexLt (tl t) (tl u)=true↔Lex t u:=by
 unfold tl Lex;rw[HT.lexLt_cons];split
 ·rename_i h;rw[HT.lexLt_cons];split
  ·rename_i h2;constructor
   ·intro e;cases e
   ·intro e;omega
  ·rename_i h2;rw[decide_eq_true_iff];constructor
   ·intro e;exact .inr ⟨h,e⟩
   ·intro e;rcases e with e | e
    ·omega
    ·exact e.2
 ·rename_i h;rw[decide_eq_true_iff];constructor
  ·intro e;exact .inl e
  ·intro e;rcases e with e | e
   ·exact e
   ·exact absurd e.1 h
theorem b0f {fs ts:⋯}(h3:3<=n)(h60:n<=60)(hnd:fs.Nodup)(hrng:∀ t∈fs,0<=t.1/\t.1<t.2/\t.2<n)(hlen:fs.length<=200)(hah:∀ k:Int,1<=k->k<n->∃ a,0<=a/\a<k/\(a,k)∈fs)
  (hp:ks.Perm (B7 0 n.toNat)) (hts:ts.Perm (fs.map (ren ks))) (hs:ts.Pairwise λx y=>HT.lexLt (tl y) (tl x)=false):N8 n ts:=by
 have rr:∀ t∈fs,0<=(ren ks t).1/\(ren ks t).1<(ren ks t).2/\(ren ks t).2<n:=λt ht=>by
  obtain⟨h0,h1,h2⟩:=hrng t ht;have a:=a9g hp h0 ∅;have b:=a9g hp (u:=t.2) ∅ h2;have c:nm ks t.1≠nm ks t.2:=λe=>by have:=a0L hp h0 ∅ ∅ h2 e;omega
  unfold ren;dsimp only;split<;>split<;>omega
 have inj:∀ t∈fs,∀ u∈fs,ren ks t=ren ks u->t=u:=λt ht u hu e=>by
  obtain⟨h0,h1,h2⟩:=hrng t ht;obtain⟨k0,k1,k2⟩:=hrng u hu;unfold ren at e;injection e with e1 e2
  have i1:nm ks t.1=nm ks u.1->t.1=u.1:=a0L hp h0 ∅ k0 ∅;have i2:nm ks t.2=nm ks u.2->t.2=u.2:=a0L hp ∅ h2 ∅ k2;have i3:nm ks t.1=nm ks u.2->t.1=u.2:=a0L hp h0 ∅ ∅ k2;have i4:nm ks t.2=nm ks u.1->t.2=u.1:=a0L hp ∅ h2 k0 ∅;have:t.1=u.1/\t.2=u.2:=by
   split at e1<;>split at e1<;>split at e2<;>split at e2<;>omega
  obtain⟨q1,q2⟩:=this;cases t;cases u;simp at q1 q2;rw[q1,q2]
 have nd2:(fs.map (ren ks)).Nodup:=by
  refine ck.mpr ?_;refine gE ?_ hnd;intro a b ha hb hab e;exact hab (inj a ha b hb e)
 have nd3:ts.Nodup:=hts.nodup_iff.mpr nd2;refine⟨h3,h60,λt ht=>?_,?_,by rw[hts.length_eq,aa];exact hlen,λS hS=>?_⟩
 ·obtain⟨u,hu,rfl⟩:=bq.mp (hts.mem_iff.mp ht);exact rr u hu
 ·refine (ip hs nd3).imp ?_;rintro a b ⟨h1,h2⟩;have h3:¬ Lex b a:=λe=>by rw[b0Z.mpr e] at h1;cases h1
  have h4:a.1≠b.1\/a.2≠b.2:=by
   by_cases q:a.1=b.1
   ·refine .inr λe=>h2 ?_
    cases a;cases b;simp at q e;rw[q,e]
   ·exact .inl q
  unfold Lex at h3 ⊢;omega
 ·have hf:∀ t∈fs,S (nm ks t.1)↔S (nm ks t.2):=λt ht=>by
   have:=hS _ (hts.mem_iff.mpr (dA ht));unfold ren at this
   revert this
   dsimp only;obtain⟨h0,h1,h2⟩:=hrng t ht;have c:nm ks t.1≠nm ks t.2:=λe=>by have:=a0L hp h0 ∅ ∅ h2 e;omega
   split<;>split<;>intro q
   ·omega
   ·exact q.symm
   ·exact q
   ·omega
  have h0:∀ m:Nat,∀ k:Int,0<=k->k<n->k.toNat=m->(S (nm ks k)↔S (nm ks 0)):=by
   intro m;induction m using Nat.strongRecOn with
   | ind m ih =>
    intro k k0 k1 e;by_cases hk:k=0
    ·subst hk;exact Iff.rfl
    ·obtain⟨a,a0,a1,hm⟩:=hah k ∅ k1;exact (hf _ hm).symm.trans (ih a.toNat ∅ a a0 ∅ rfl)
  intro u v u0 u1 v0 v1 su;obtain⟨u',p0,p1,rfl⟩:=a9f hp u0 u1;obtain⟨v',q0,q1,rfl⟩:=a9f hp v0 v1;exact (h0 _ v' q0 q1 rfl).mpr ((h0 _ u' p0 p1 rfl).mp su)
end
end L2
end
section
namespace L2
open PySem
def nb (ts:⋯)(v:Int):List Int:=ts.filterMap λt=>if t.1=v then some t.2 else if t.2=v then some t.1 else none
def J8 (n:Int)(ts:⋯):List (List Int):=(List.range n.toNat).map λ(v:Nat)=>nb ts (v:Int)
structure E4 (H:Hp)(p:Addr)(as:List Addr)(rows:List (List Int)):Prop where
 top:H p=some (.lst (as.map V.ref))
 len:as.length=rows.length
 nd:as.Nodup
 np:p∉as
 row:∀(i:Nat) a r,as[i]?=some a->rows[i]?=some r->H a=some (.lst (r.map V.int))
section
variable {H H':Hp}{p:Addr}{as:List Addr}{rows:List (List Int)}
theorem E4.mono (h:E4 H p as rows)(k:∀ a o,a=p\/a∈as->H a=some o->H' a=some o):E4 H' p as rows :=
 ⟨k _ _ (.inl rfl) h.top,h.len,h.nd,h.np,λi a r ha hr=>k _ _ (.inr (aF ha)) (h.row i a r ha hr)⟩
theorem E4.same (h:E4 H p as rows)(s:B5 H H'):E4 H' p as rows:=h.mono λa o _ e=>s a o e
theorem E4.kp {d:Addr}(h:E4 H p as rows)(k:Kp d H H')(hp:d≠p)(ha:d∉as):E4 H' p as rows :=
 h.mono λa o q e=>k a o (λe2=>by subst e2;exact q.elim hp ha) e
theorem E4.app (h:E4 H p as rows){i:Nat}{a:Addr}{r:List Int}(ha:as[i]?=some a)(hr:rows[i]?=some r)(x:Int):E4 (upd H a (.lst ((r++[x]).map V.int))) p as (rows.set i (r++[x])):=by
 have hpa:p≠a:=λe=>h.np (by rw[e];exact aF ha)
 refine⟨by rw[B3 hpa];exact h.top,by rw[eu];exact h.len,h.nd,h.np,λj b s hb hs=>?_⟩;by_cases e:j=i
 ·subst e;rw[ha] at hb;cases hb;rw[cZ (ai.mp hr).1] at hs;cases hs;exact A1
 ·have hba:b≠a:=λe2=>by
   subst e2;exact e ((gO (ai.mp hb).1 h.nd).mp (by rw[hb,ha]))
  rw[cL (dN e)] at hs;rw[B3 hba];exact h.row j b s hb hs
theorem E4.snoc (h:E4 H p as rows){q:Addr}(hq:H q=none){r:List Int}:E4 (upd (upd H q (.lst (r.map V.int))) p (.lst ((as++[q]).map V.ref))) p (as++[q]) (rows++[r]):=by
 have hpq:p≠q:=C2 h.top hq;have hqa:q∉as:=λhm=>by
  obtain⟨i,hi,e⟩:=cE hm;have hi2:i<rows.length:=by have:=h.len;omega
  have:=h.row i q rows[i] (by rw[aG hi,e]) (aG hi2);rw[hq] at this;cases this
 refine⟨A1,by rw[aI,aI,h.len];rfl,?_,?_,?_⟩
 ·rw[dO];exact⟨h.nd,by simp,λa ha b hb e=>by simp at hb;subst hb;subst e;exact hqa ha⟩
 ·intro hm;rcases aj.mp hm with hm | hm
  ·exact h.np hm
  ·exact hpq (aq.mp hm)
 ·intro i a s ha hs;by_cases hi:i<as.length
  ·rw[dn hi] at ha;rw[dn (by rw[<- h.len];exact hi)] at hs;have ham:=aF ha;have h1:a≠p:=λe=>by subst e;exact h.np ham
   have h2:a≠q:=λe=>by subst e;exact hqa ham
   rw[B3 h1,B3 h2];exact h.row i a s ha hs
  ·rw[cC ∅] at ha;rw[cC (by rw[<- h.len];omega)] at hs;have e0:i-as.length=0:=by
    have:=(ai.mp ha).1;simp at this;omega
   rw[e0] at ha;rw[<- h.len,e0] at hs;cases ha;cases hs;rw[B3 hpq.symm,A1]
theorem E4.nil (h:H p=some (.lst [])):E4 H p [] []:=⟨h,rfl,by simp,by simp,λi a r ha=>by cases ha⟩
theorem E4.get (h:E4 H p as rows){v:Int}(h0:0<=v){r:List Int}(hr:rows[v.toNat]?=some r):∃ a,as[v.toNat]?=some a/\atI (as.map V.ref) v=some (.ref a)/\H a=some (.lst (r.map V.int))/\a≠p:=by
 have hl:=(ai.mp hr).1;have hl2:v.toNat<as.length:=by have:=h.len;omega
 have ha:as[v.toNat]?=some as[v.toNat]:=aG hl2;refine⟨_,ha,?_,h.row _ _ _ ha hr,λe=>h.np (by rw[<- e];exact aF ha)⟩;have:=T0 (xs:=as.map V.ref) (j:=v.toNat) (v:=V.ref as[v.toNat]) (by rw[ah,ha];rfl);rw[bx h0] at this;exact this
end
theorem M7 {n:Int}{ts:⋯}{v:Int}(h0:0<=v)(h1:v<n):(J8 n ts)[v.toNat]?=some (nb ts v):=by
 unfold J8;rw[ah,gt ∅];show some (nb ts ((v.toNat:Nat):Int))=_;rw[bx h0]
theorem J3 (n:Int)(ts:⋯):(J8 n ts).length=n.toNat:=by unfold J8;simp
theorem b0U (ts:⋯)(t:Int×Int)(v:Int):nb (ts++[t]) v=nb ts v++(if t.1=v then [t.2] else if t.2=v then [t.1] else []):=by
 unfold nb;rw[List.filterMap_append];congr 1;by_cases h1:t.1=v
 ·simp[h1]
 ·by_cases h2:t.2=v
  ·simp[h1,h2]
  ·simp[h1,h2]
theorem a4r {n:Int}{ts:⋯}{t:Int×Int}(h0:0<=t.1)(h1:t.1<t.2)(h2:t.2<n) :
  J8 n (ts++[t])=((J8 n ts).set t.1.toNat (nb ts t.1++[t.2])).set t.2.toNat (nb ts t.2++[t.1]):=by
 refine cV λi=>?_
 by_cases hi:i<n.toNat
 ·have hl:∀ us:⋯,(J8 n us)[i]?=some (nb us (i:Int)):=λus=>by
   have:=M7 (n:=n) (ts:=us) (v:=(i:Int)) ∅ ∅;simpa using this
  rw[hl,b0U];by_cases e2:i=t.2.toNat
  ·subst e2;rw[cZ (by rw[eu,J3];exact hi)];rw[bx ∅,if_neg ∅,if_pos rfl]
  ·rw[cL (dN e2)];by_cases e1:i=t.1.toNat
   ·subst e1;rw[cZ (by rw[J3];exact hi)];rw[bx h0,if_pos rfl]
   ·rw[cL (dN e1),hl,if_neg ∅,if_neg ∅,bO]
 ·rw[bQ (by rw[J3];omega),bQ (by rw[eu,eu,J3];omega)]
theorem a1P {ts:⋯}{v x:Int}:x∈nb ts v↔(v,x)∈ts\/((x,v)∈ts)/\(x≠v\/(v,x)∈ts):=by
 unfold nb;rw[List.mem_filterMap];constructor
 ·rintro⟨t,ht,e⟩;obtain⟨a,b⟩:=t;dsimp only at e;split at e
  ·rename_i h;cases e;subst h;exact .inl ht
  ·rename_i h;split at e
   ·rename_i h2;cases e;subst h2;exact .inr ⟨ht,.inl h⟩
   ·cases e
 ·rintro (h | ⟨h,h'⟩)
  ·exact⟨_,h,by simp⟩
  ·rcases h' with h' | h'
   ·exact⟨_,h,by simp[h']⟩
   ·exact⟨_,h',by simp⟩
def Q6 (n:Int)(ts:⋯):Prop:=∀ t∈ts,0<=t.1/\t.1<t.2/\t.2<n
theorem X8 {n:Int}{ts:⋯}(h:Q6 n ts){v x:Int}:x∈nb ts v↔v∈nb ts x:=by
 rw[a1P,a1P];constructor
 ·rintro (q | ⟨q,q'⟩)
  ·exact .inr ⟨q,.inl (by have:=h _ q;dsimp only at this;omega)⟩
  ·exact .inl q
 ·rintro (q | ⟨q,q'⟩)
  ·exact .inr ⟨q,.inl (by have:=h _ q;dsimp only at this;omega)⟩
  ·exact .inl q
theorem T8 {n:Int}{ts:⋯}(h:Q6 n ts){v x:Int}(hx:x∈nb ts v):0<=x/\x<n/\0<=v/\v<n/\x≠v:=by
 rcases a1P.mp hx with q | ⟨q,_⟩
 ·have:=h _ q;dsimp only at this;omega
 ·have:=h _ q;dsimp only at this;omega
theorem a6D {n:Int}{ts:⋯}(h:Q6 n ts)(hs:ts.Pairwise Lex)(v:Int):(nb ts v).Pairwise (·<·):=by
 unfold nb;rw[List.pairwise_filterMap];refine gE ?_ hs;intro a b ha hb hab x hx y hy;have h1:=h a ha;have h2:=h b hb;unfold Lex at hab;have cx:(a.1=v/\a.2=x)\/(a.2=v/\a.1=x):=by
  split at hx
  ·rename_i q;cases hx;exact .inl ⟨q,rfl⟩
  ·split at hx
   ·rename_i q;cases hx;exact .inr ⟨q,rfl⟩
   ·cases hx
 have cy:(b.1=v/\b.2=y)\/(b.2=v/\b.1=y):=by
  split at hy
  ·rename_i q;cases hy;exact .inl ⟨q,rfl⟩
  ·split at hy
   ·rename_i q;cases hy;exact .inr ⟨q,rfl⟩
   ·cases hy
 omega
theorem a0m {ts:⋯}(v:Int):(nb ts v).length<=ts.length:=by unfold nb;exact List.length_filterMap_le _ _
theorem a4a {l l':List Int}(p:l'.Perm l)(s:l'.Pairwise (·<=·))(h:l.Pairwise (·<·)):l'=l :=
 dP (le:=(·<=·)) (λ_ _ _ _ a b=>Int.le_antisymm a b) s (h.imp λa=>Int.le_of_lt a) p
theorem Q8 {l l':List Int}(h:l.Pairwise (·<·))(h':l'.Pairwise (·<·))(e:∀ x,x∈l↔x∈l'):l=l':=by
 refine dP (le:=(·<·)) (λa b _ _ x y=>∅) h h' ?_;refine (cB (h.imp λx e=>∅) (h'.imp λx e=>∅)).mpr e
structure a4X (H Hc:Hp)(p:Addr)(as:List Addr)(rows:List (List Int)):Prop where
 same:B5 H Hc
 np:H p=none
 na:∀ a∈as,H a=none
 rows:E4 Hc p as rows
theorem a1K (n:Int):J8 n []=List.replicate n.toNat []:=by
 unfold J8 nb;refine cV λi=>?_
 by_cases h:i<n.toNat
 ·rw[ah,gt h,iM,if_pos h];rfl
 ·rw[bQ (by simp;omega),bQ (by simp;omega)]
theorem a4X.step {H Hc:Hp}{p:Addr}{as:List Addr}{n:Int}{us:⋯}{t:Int×Int}(h:a4X H Hc p as (J8 n us))(h0:0<=t.1)(h1:t.1<t.2)(h2:t.2<n) :
  ∃ a1 a2,atI (as.map V.ref) t.1=some (.ref a1)/\Hc a1=some (.lst ((nb us t.1).map V.int))/\(upd Hc a1 (.lst ((nb us t.1).map V.int++[V.int t.2]))) p=some (.lst (as.map V.ref))/\atI (as.map V.ref) t.2=some (.ref a2) /\
   (upd Hc a1 (.lst ((nb us t.1).map V.int++[V.int t.2]))) a2=some (.lst ((nb us t.2).map V.int)) /\
   a4X H (upd (upd Hc a1 (.lst ((nb us t.1).map V.int++[V.int t.2]))) a2 (.lst ((nb us t.2).map V.int++[V.int t.1]))) p as (J8 n (us++[t])):=by
 have g1:=M7 (n:=n) (ts:=us) h0 (show t.1<n by omega);have g2:=M7 (n:=n) (ts:=us) (show 0<=t.2 by omega) h2;obtain⟨a1,e1,r1,c1,p1⟩:=h.rows.get h0 g1;have R1:=h.rows.app e1 g1 t.2;have g2':((J8 n us).set t.1.toNat (nb us t.1++[t.2]))[t.2.toNat]?=some (nb us t.2):=by
  rw[cL ∅];exact g2
 obtain⟨a2,e2,r2,c2,p2⟩:=R1.get (show 0<=t.2 by omega) g2';have R2:=R1.app e2 g2' t.1;rw[<- a4r h0 h1 h2] at R2;rw[aE] at R1 R2 c2;rw[aE] at R2;refine⟨a1,a2,r1,c1,R1.top,r2,c2,?_,h.np,h.na,R2⟩;exact (h.same.upd (h.na _ (aF e1))).upd (h.na _ (aF e2))
def a2Z (H:Hp)(p:Addr)(i:Nat)(τ:St)(Hc:Hp):Prop:=∃(c:Option V) (as:List Addr),τ=[c]/\a4X H Hc p as (List.replicate i [])
theorem a0R.get {H:Hp}{q:Addr}{ts:⋯}(h:a0R H q ts):∃ xs,H q=some (.tup xs)/\xs.length=ts.length/\∀(i:Nat) v,xs[i]?=some v->∃ a t,v=.ref a/\ts[i]?=some t/\H a=some (.tup [.int t.1,.int t.2]):=by
 obtain⟨ps,e,hp⟩:=h;exact⟨_,e,by rw[aa];exact hp.len,λi v hv=>hp.get hv⟩
def W7:Sp:=λvs H Q _=>∃(w:Addr) (n:Int) (ts:⋯),vs=[.ref w]/\N7 H w n ts/\0<=n/\n<=1000/\ts.length<=1000/\Q6 n ts /\
 ∀(p:Addr) (as:List Addr) (H':Hp),B5 H H'->H p=none->(∀ a∈as,H a=none)->E4 H' p as (J8 n ts)->Q (.ref p) H'
def a6a:Sp:=λvs H Q _=>∃(w:Addr) (n:Int) (ts:⋯),vs=[.ref w]/\N7 H w n ts/\0<=n/\n<=60/\ts.length<=1000/\Q6 n ts/\ts.Pairwise Lex /\
 ∀(p:Addr) (as:List Addr) (H':Hp),B5 H H'->H p=none->(∀ a∈as,H a=none)->E4 H' p as (J8 n ts)->Q (.ref p) H'
end L2
end
section
namespace L2
open PySem
theorem a6M (x:Int)(us:List Int):inV (.int x) (us.map V.int)=decide (x∈us):=by
 unfold inV;induction us with
 | nil=>rfl
 | cons u r ih =>
  rw[aA,dD,ih];show (decide (u=x) || _)=_;by_cases h:u=x
  ·subst h;simp
  ·have h':¬ x=u:=λe=>h e.symm
   simp[h,h']
theorem a3c (us:List Int):(us.map V.int).all a0z=true:=by
 rw[eU];intro v hv;obtain⟨u,_,rfl⟩:=bq.mp hv;rfl
section
variable {K:ac}{H:Hp}{p:Addr}{us:List Int}{x:Int}{Q:VK}
theorem a1Z (h:SqL K H p (us.map V.int)\/SqT K H p (us.map V.int))(q:Q (.bl (decide (x∈us))) H):rIn K false (.int x) (.ref p) H Q :=
 ⟨p,_,rfl,h,rfl,a3c us,by rw[a6M];exact q⟩
theorem Z6 (h:SqL K H p (us.map V.int)\/SqT K H p (us.map V.int))(q:Q (.bl (!decide (x∈us))) H):rIn K true (.int x) (.ref p) H Q :=
 ⟨p,_,rfl,h,rfl,a3c us,by rw[a6M];exact q⟩
end
def kvI (us:List Int):List (Key×V):=us.map λx=>(bp x,V.bl true)
def a0C (us:List Int)(x:Int):List Int:=if x∈us then us else us++[x]
theorem Y0 {us:List Int}{x y:Int}:y∈a0C us x↔y∈us\/y=x:=by
 unfold a0C;split
 ·exact⟨.inl,λh=>h.elim id λe=>by subst e;assumption⟩
 ·simp
theorem a3B {us:List Int}{x:Int}(h:us.Nodup):(a0C us x).Nodup:=by
 unfold a0C;split
 ·exact h
 ·rename_i hn;rw[dO];exact⟨h,by simp,λa ha b hb e=>hn (by simp at hb;subst hb;subst e;exact ha)⟩
theorem a1U {us:List Int}{x:Int}:(a0C us x).length<=us.length+1:=by
 unfold a0C;split<;>simp
theorem a6I (us:List Int):(kvI us).length=us.length:=by unfold kvI;simp
theorem a1i {a b:Int}:(bp a:Key)=bp b↔a=b:=⟨λe=>by injection e,λe=>by rw[e]⟩
theorem Z3 (us:List Int)(x:Int):T6 (kvI us) (bp x) (V.bl true)=kvI (a0C us x):=by
 unfold T6 a0C;by_cases h:x∈us
 ·have h1:((kvI us).any λkv=>decide (kv.1=bp x))=true:=by
   rw[bC];exact⟨_,dA h,by simp⟩
  rw[if_pos h1,if_pos h];unfold kvI;rw[bu];refine cW λt ht=>?_
  show (if _ then _ else _)=_;split<;>rfl
 ·have h1:¬ ((kvI us).any λkv=>decide (kv.1=bp x))=true:=by
   rw[bC];rintro⟨kv,hk,e⟩;obtain⟨t,ht,rfl⟩:=bq.mp hk;have:=a1i.mp (of_decide_eq_true e);subst this;exact h ht
  rw[if_neg h1,if_neg h];unfold kvI;rw[aE];rfl
theorem V8 (us:List Int)(x:Int):(a0h (kvI us) (bp x)).isSome=decide (x∈us):=by
 induction us with
 | nil=>rfl
 | cons u r ih =>
  unfold kvI at ih ⊢;rw[aA];by_cases h:u=x
  ·rw[a0r (a1i.mpr h)];subst h;simp
  ·rw[a0s (λe=>h (a1i.mp e)),ih];have h':¬ x=u:=λe=>h e.symm
   simp[h']
theorem a1V (us:List Int):(kvI us).map (·.1)=us.map (bp:Int->Key):=by
 unfold kvI;rw[bu];rfl
theorem a9O (us:List Int)(x:Int):a2c (kvI us) (bp x)=kvI (us.filter λy=>decide (y≠x)):=by
 unfold a2c kvI;rw[List.filter_map];congr 1;refine List.filter_congr λy _=>?_
 show decide (_≠_)=_;by_cases h:y=x
 ·subst h;simp
 ·have:¬ (bp y:Key)=bp x:=λe=>h (a1i.mp e)
  simp[h,this]
theorem T2 {us:List Int}(h:us.length<=100000):(kvI us).length<sizeLine:=by rw[a6I];exact E2 ∅
theorem X7:∀ {us l:List Int},us.Nodup->us ⊆ l->us.length<=l.length
 | [],_,_,_=>bf _
 | x::r,l,hn,hs=>by
  have hx:x∈l:=hs (aT ..);have hn':=bX.mp hn;have:=X7 (us:=r) (l:=l.erase x) hn'.2 (λy hy=>(jr (λe=>by subst e;exact hn'.1 hy)).mpr (hs (aN _ hy)));rw[iF hx] at this;have:=fQ hx;rw[aw];omega
theorem G8 {us:List Int}{n:Int}(hnd:us.Nodup)(h:∀ x∈us,0<=x/\x<n):us.length<=n.toNat:=by
 have hs:us ⊆ B7 0 n.toNat:=λx hx=>by
  obtain⟨h0,h1⟩:=h x hx;unfold B7;exact bq.mpr ⟨x.toNat,cg.mpr ∅,∅⟩
 have:=X7 hnd hs;rw[B6] at this;exact this
theorem Q4 (n:Nat):(B7 0 n).Pairwise (·<·):=by
 unfold B7;refine ck.mpr (List.pairwise_lt_range.imp ?_);intro a b h;omega
theorem E9 {n:Nat}{x:Int}:x∈B7 0 n↔0<=x/\x<n:=by
 unfold B7;rw[List.mem_map];constructor
 ·rintro⟨i,hi,rfl⟩;have:=cg.mp hi;omega
 ·rintro⟨h0,h1⟩;exact⟨x.toNat,cg.mpr ∅,∅⟩
theorem C1 {l:List Int}(h:l.Pairwise (·<·)):l.Nodup:=h.imp λx e=>∅
theorem b4E {n:Int}{ts:⋯}(h:Q6 n ts)(hs:ts.Pairwise Lex)(hn:n<=60)(v:Int):(nb ts v).length<63:=by
 have:=G8 (C1 (a6D h hs v)) λx hx=>⟨(T8 h hx).1,(T8 h hx).2.1⟩
 omega
theorem R9 {l l':List Int}(p:l'.Perm l)(s:l'.Pairwise (·<=·))(h:l.Nodup):l'.Pairwise (·<·):=by
 refine (ip s (p.nodup_iff.mpr h)).imp ?_;rintro a b ⟨h1,h2⟩;omega
end L2
end
section
namespace L2
open PySem PySem.Spec PyProof.Rows PySem.W
section
variable {X:Cx}{pins:List (Addr×Obj)}{σ:St}{H:Hp}{s:Shared}
theorem K5.new' (I:Inv X pins σ H s){C:Addr}(h:s.heap.objs.size<=C){H':Hp}(hn:H' C=none):K5 X pins H' C:=by
 refine⟨hn,dw (aO I.lt h),aV I.sz h,λx c e z=>?_,λp hp z=>?_⟩
 ·obtain⟨v,q⟩:=I.cell x c e;exact absurd (aO q.lt (by rw[z];exact h)) (bG _)
 ·exact absurd (aO (ar (I.pin p hp).1) (by rw[z];exact h)) (bG _)
theorem K5.upd {C:Addr}{H':Hp}(f:K5 X pins H C)(hn:H' C=none):K5 X pins H' C:=⟨hn,f.loc,f.new,f.cel,f.pin⟩
theorem K5.pinIt {C:Addr}{o:Obj}(f:K5 X pins H C)(I:Inv X pins σ H s)(e:s.heap.get? C=some o)(hd:∀ v,o.data≠.cell v):s.heap.get? C=some o/\H C=none/\C≠X.env.locals/\C∉X.fs/\∀ v,o.data≠.cell v:=by
 refine⟨e,f.un,f.loc,λhb=>?_,hd⟩;obtain⟨_,o',ho',_⟩:=I.ok.funs.mem hb;exact absurd (aO (ar ho') f.new) (bG _)
theorem Inv.pin2 {C D:Addr}{o p:Obj}(I:Inv X pins σ H s)(f:K5 X pins H C)(g:K5 X pins H D)(e:s.heap.get? C=some o)(e':s.heap.get? D=some p)(hd:∀ v,o.data≠.cell v)(hd':∀ v,p.data≠.cell v):Inv X (pins++[(C,o),(D,p)]) σ H s:=by
 refine I.pins_of λq hq=>?_
 rcases aj.mp hq with hq | hq
 ·exact I.pin q (aB _ hq)
 ·rcases aL.mp hq with rfl | hq
  ·exact f.pinIt I e hd
  ·rw[aq.mp hq];exact g.pinIt I e' hd'
def a0d (X:Cx)(pins:List (Addr×Obj))(σ:St)(q:Addr)(xs:List V)(kf:Nat->Int)(J:Hp->Prop):Prop :=
 ∀(i:Nat) (x:V) (u:Value) (more:List (Addr×Obj)) (s:Shared) (H:Hp),xs[i]?=some x->D0 x u->Inv X (pins++more) σ H s->J H ->
  wpAny (model X.prog X.w) X.A.in1 (call (.ref q) [u]) (λr s'=>∃ t H',r=.int (kf i) t/\Inv X (pins++more) σ H' s'/\J H') (λ_ _=>False) s
theorem a0q {xs:List V}{us:List Value}(h:C9 xs us):∀ {i:Nat} {u:Value},us[i]?=some u->∃ x,xs[i]?=some x/\D0 x u:=by
 induction h with
 | nil=>intro i u e;simp at e
 | cons r t ih =>
  intro i u e;cases i with
  | zero=>exact⟨_,rfl,by simpa using (ak (~~~e):_=u) ▸ r⟩
  | succ j=>exact ih (~~~e)
theorem a9i {xs:List V}{q l IT SB:Addr}{R:Result->Shared->Prop}{kf:Nat->Int}{J:Hp->Prop}(hh:X.A.handled=none)(hl:∀ H s,Inv X pins σ H s->J H->∃ us,C9 xs us/\s.heap.IsTuple l us.toArray)(hlI:l≠IT)(hSI:SB≠IT)
  (turn:a0d X pins σ q xs kf J)
  (hR:∀(i:Nat) (x:V) (v:Value) (H:Hp) (s:Shared),xs[i]?=some x->D0 x v->(∀ j,j<xs.length->kf i>=kf j/\(j<i->kf i>kf j))->Inv X pins σ H s->J H->R (.ok (.ret v)) s) :
  ∀(r j i:Nat) (H:Hp) (s:Shared) (vb:Value) (tb:Tok) (c:Nat),xs.length-(j+1)=r->j+1<=xs.length->Inv X pins σ H s->J H->K5 X pins H SB->K5 X pins H IT ->
   s.heap.get? SB=some (seqObj "list" #[vb,.int (kf i) tb] c)->s.heap.IsTupleIter IT l (j+1)->(∃ x,xs[i]?=some x/\D0 x vb)->i<=j->(∀ j',j'<=j->kf i>=kf j'/\(j'<i->kf i>kf j')) ->
   codeAny (model X.prog X.w) X.A (.builtin "max.loop" ⟨[.ref IT,.ref q,.ref SB],[]⟩) R s:=by
 have hname:(toString "max"++toString ".loop":String)="max.loop":=by decide
 have WW:=λus:List Value=>jc (prog:=X.prog) (w:=X.w) (A:=X.A.in1) hh IT l hlI us.toArray
 intro r;induction r with
 | zero =>
  intro j i H s vb tb c hr hj I hJ fS fI eS hit hvb hij hbest;have hin:j+1=xs.length:=∅
  obtain⟨us,hv,hlt⟩:=hl H s I hJ;have W:=WW us;have hsz:us.toArray.size=xs.length:=(aD ..).trans hv.length.symm;refine codeAny_builtin cU ?_;rw[bM bd _];show wpAny _ X.A.in1 (seqItems? (.ref SB) >>= _) _ _ _;refine ae (ef eS rfl ?_);show wpAny _ X.A.in1 (tryCatch (pyNext (.ref IT)) _ >>= _) _ _ _;refine ae (cw (W.done _ _ _ ⟨by rw[hsz,<- hin];exact hit,hlt⟩ λh' tk' hk'=>?_));have I1:Inv X pins σ H {s with heap:=h',toks:=tk'}:=I.turned (λb o hb e=>hk' b o (~~~hb) e) fI.un fI.loc (.inr fI.new) fI.cel fI.pin;have hS':=hk' SB _ (~~~hSI) eS;have s1:=bj h' SB (Obj.mapSeq λ_=>(#[]:Array Value));show wpAny _ X.A.in1 (updateSeq SB (λ_=>#[]) >>= _) _ _ _;refine ae ?_;refine dQ hS' rfl (ae (eF (ag ?_)));obtain⟨x,ex,rx⟩:=hvb;exact hR i x vb H _ ex rx (λj' hj'=>hbest j' ∅) (fS.inv I1 s1) hJ
 | succ r ih =>
  intro j i H s vb tb c hr hj I hJ fS fI eS hit hvb hij hbest;have hlt:j+1<xs.length:=∅
  obtain⟨us,hv,hltu⟩:=hl H s I hJ;have W:=WW us;have hsz:us.toArray.size=xs.length:=(aD ..).trans hv.length.symm;refine codeAny_builtin cU ?_;rw[bM bd _];show wpAny _ X.A.in1 (seqItems? (.ref SB) >>= _) _ _ _;refine ae (ef eS rfl ?_);show wpAny _ X.A.in1 (tryCatch (pyNext (.ref IT)) _ >>= _) _ _ _;refine ae (cw (W.item (j+1) _ _ _ (by rw[hsz];exact hlt) ⟨hit,hltu⟩ λv h' tk' hP hst' hk'=>?_));have hvv:us[j+1]?=some v:= ~~~hP
  obtain⟨oI',hoI',hoc,hod⟩:=id hst'.1;have I1:Inv X pins σ H {s with heap:=h',toks:=tk'}:=I.turned (λb o hb e=>hk' b o (~~~hb) e) fI.un fI.loc (.inr fI.new) fI.cel fI.pin;have eS1:=hk' SB _ (~~~hSI) eS;have I2:=I1.pin2 fS fI eS1 hoI' (λv=>by simp[seqObj]) (λv=>by rw[hod];simp);obtain⟨x,ex,rx⟩:=a0q hv hvv;show wpAny _ X.A.in1 (tryCatch (holding [v] (call (.ref q) [v])) _ >>= _) _ _ _;refine ae (cw (bJ (bB (turn (j+1) x v _ _ H ex rx I2 hJ) (λy s'' he=>?_) λ_ _ hF=>hF.elim)));obtain⟨t2,H2,rfl,I3,hJ2⟩:=he;have pS:=I3.pin (SB,seqObj "list" #[vb,.int (kf i) tb] c) (aB _ (aB _ (.head _)));have pI:=I3.pin (IT,oI') (aB _ (aB _ (.tail _ (.head _))));have I4:Inv X pins σ H2 s'':=I3.unpinned;have fS2:K5 X pins H2 SB:=fS.upd pS.2.1;have fI2:K5 X pins H2 IT:=fI.upd pI.2.1;have hit2:s''.heap.IsTupleIter IT l (j+1+1):=⟨oI',pI.1,hoc,hod⟩
  show wpAny _ X.A.in1 (tryCatch (holding [v,.int (kf (j+1)) t2] (richCompare .Gt (.int (kf (j+1)) t2) (.int (kf i) tb) >>= _)) _ >>= _) _ _ _;refine ae (cw (bJ (ae (CmpOf.ints_gt (prog:=X.prog) (w:=X.w) (A:=X.A.in1) (P:=λi v=>∃ t,v=.int (kf i) t) kf (λi v h=>h) (j+1) i _ _ _ _ _ ⟨t2,rfl⟩ ⟨tb,rfl⟩ ?_))));refine ae (bJ (cb ?_));refine ae (eF (ag ?_));by_cases hb':kf (j+1)>kf i
  ·have s1:=bj s''.heap SB (Obj.mapSeq λ_=>#[v,.int (kf (j+1)) t2]);obtain⟨c2,hc2⟩:∃ c2,(s''.heap.update SB (Obj.mapSeq λ_=>#[v,.int (kf (j+1)) t2])).get? SB=some (seqObj "list" #[v,.int (kf (j+1)) t2] c2):=⟨_,get?_update_seq pS.1 λ_=>#[v,.int (kf (j+1)) t2]⟩
   simp only[hb',decide_true,if_true];refine ae ?_;refine dQ pS.1 rfl (ae (eF ?_));rw[hname];refine ag ⟨plainId_quiet bd _,ih (j+1) (j+1) H2 _ v t2 c2 ∅ hlt (fS2.inv I4 s1) hJ2 fS2 fI2 hc2 ⟨oI',(s1.2 IT hSI.symm).trans pI.1,hoc,hod⟩ ⟨x,ex,rx⟩ (ao _) λj' hj'=>?_⟩;by_cases e:j'=j+1
   ·subst e;exact⟨∅,λ_=>∅⟩
   ·have hb1:=hbest j' ∅;have hb2:=hb1.1;exact⟨∅,λ_=>∅⟩
  ·simp only[hb',decide_false,bE,if_false];refine ae (eF ?_);rw[hname];refine ag ⟨plainId_quiet bd _,ih (j+1) i H2 _ vb tb c ∅ hlt I4 hJ2 fS2 fI2 pS.1 hit2 hvb ∅ λj' hj'=>?_⟩;by_cases e:j'=j+1
   ·subst e;exact⟨∅,λ_=>∅⟩
   ·exact hbest j' ∅
theorem b0W {xs:List V}{q l:Addr}{Q:Value->Shared->Prop}{E:Value->Shared->Prop}{kf:Nat->Int}{J:Hp->Prop}(hh:X.A.handled=none)(hl:∀ H s,Inv X pins σ H s->J H->∃ us,C9 xs us/\s.heap.IsTuple l us.toArray)
  (I:Inv X pins σ H s) (hJ:J H) (hne:0<xs.length) (turn:a0d X pins σ q xs kf J)
  (hQ:∀(i:Nat) (x:V) (v:Value) (H:Hp) (s:Shared),xs[i]?=some x->D0 x v->(∀ j,j<xs.length->kf i>=kf j/\(j<i->kf i>kf j))->Inv X pins σ H s->J H->Q v s) :
  wpAny (model X.prog X.w) X.A (call (.builtin "max") [.ref l] [(aS "key",.ref q)]) Q E s:=by
 have hname:(toString "max"++toString ".loop":String)="max.loop":=by decide
 obtain⟨us0,hv0,hls⟩:=hl H s I hJ;obtain⟨ol,hol,_⟩:=id hls;have hll:l<s.heap.objs.size:=ar hol;refine kmk_tree PySem.F.kind_max jh ji (kmk_max_key _ _) ?_;show wpAny _ X.A.in1 (dr "max" ["key", "default"] 0 ⟨[],[(aS "key",.ref q)]⟩ >>= _) _ _ s;refine ae (fW (show dr "max" ["key", "default"] 0 ⟨[],[(aS "key",.ref q)]⟩=pure [some (.ref q),none] from rfl) ?_);refine ae (ag ?_);refine ae (fB hls ?_);refine ae (fX ?_ (bf _));rw[hname];generalize hIT:s.heap.objs.size=IT at *
 generalize hh1:s.heap.push {cls:=.type "tuple_iterator",data:=.fields #[.ref l,.int 0 0]}=h1 at *
 generalize hSB:h1.objs.size=SB at *
 have hS:SB=IT+1:=by rw[<- hSB,<- hh1,<- hIT];exact jy ..
 have hlI:l≠IT:=aK hll;have hSI:SB≠IT:=by rw[hS];exact dw (eY _)
 refine ag ⟨plainId_quiet bd _,?_⟩;have kk:∀ b o,s.heap.get? b=some o->(h1.push (seqObj "list" #[] 0)).get? b=some o:=λb o e=>af _ (by rw[<- hh1];exact af _ e)
 have nI:H IT=none:=I.hok.fresh (dy hIT);have nS:H SB=none:=I.hok.fresh (by rw[hS,hIT];exact dM _);have fI:K5 X pins H IT:=K5.new' I (dy hIT) nI;have fS:K5 X pins H SB:=K5.new' I (by rw[hS,hIT];exact dM _) nS;have gI:(h1.push (seqObj "list" #[] 0)).get? IT=some {cls:=.type "tuple_iterator",data:=.fields #[.ref l,.int 0 0]}:=af _ (by rw[<- hh1,<- hIT];exact au _ rfl);have gS:(h1.push (seqObj "list" #[] 0)).get? SB=some (seqObj "list" #[] 0):=by rw[<- hSB];exact au _ rfl
 have IH:∀ t',Inv X pins σ H {s with heap:=h1.push (seqObj "list" #[] 0),toks:=t'}:=λt'=>I.kept kk
 obtain⟨us,hv,hltu⟩:=hl _ _ (IH s.toks) hJ;have W:=jc (prog:=X.prog) (w:=X.w) (A:=X.A.in1) hh IT l hlI us.toArray;have hsz:us.toArray.size=xs.length:=(aD ..).trans hv.length.symm;refine codeAny_builtin cU ?_;rw[bM bd _];show wpAny _ X.A.in1 (seqItems? (.ref _) >>= _) _ _ _;refine ae (ef gS rfl ?_);show wpAny _ X.A.in1 (tryCatch (pyNext (.ref IT)) _ >>= _) _ _ _;refine ae (cw (W.item 0 _ _ _ (by rw[hsz];exact hne) ⟨⟨_,gI,rfl,rfl⟩,hltu⟩ λv h' tk' hP hst' hk'=>?_));have hvv:us[0]?=some v:= ~~~hP
 obtain⟨oI',hoI',hoc,hod⟩:=id hst'.1;have I1:Inv X pins σ H {s with heap:=h',toks:=tk'}:=(IH s.toks).turned (λb o hb e=>hk' b o (~~~hb) e) fI.un fI.loc (.inr fI.new) fI.cel fI.pin;have eS1:=hk' SB _ (~~~hSI) gS;have I2:=I1.pin2 fS fI eS1 hoI' (λv=>by simp[seqObj]) (λv=>by rw[hod];simp);obtain⟨x,ex,rx⟩:=a0q hv hvv;show wpAny _ X.A.in1 (tryCatch (holding [v] (call (.ref q) [v])) _ >>= _) _ _ _;refine ae (cw (bJ (bB (turn 0 x v _ _ H ex rx I2 hJ) (λy s'' he=>?_) λ_ _ hF=>hF.elim)));obtain⟨t2,H2,rfl,I3,hJ2⟩:=he;have pS:=I3.pin (SB,seqObj "list" #[] 0) (aB _ (aB _ (.head _)));have pI:=I3.pin (IT,oI') (aB _ (aB _ (.tail _ (.head _))));have I4:Inv X pins σ H2 s'':=I3.unpinned;have fS2:K5 X pins H2 SB:=fS.upd pS.2.1;have fI2:K5 X pins H2 IT:=fI.upd pI.2.1;have s1:=bj s''.heap SB (Obj.mapSeq λ_=>#[v,.int (kf 0) t2]);obtain⟨c2,hc2⟩:∃ c2,(s''.heap.update SB (Obj.mapSeq λ_=>#[v,.int (kf 0) t2])).get? SB=some (seqObj "list" #[v,.int (kf 0) t2] c2):=⟨_,get?_update_seq pS.1 λ_=>#[v,.int (kf 0) t2]⟩
 show wpAny _ X.A.in1 (updateSeq SB (λ_=>#[v,.int (kf 0) t2]) >>= _) _ _ _;refine ae ?_;refine dQ pS.1 rfl ?_;rw[hname];refine ag ⟨plainId_quiet bd _,a9i hh hl hlI hSI turn (λi x v H s a b c d e=>hQ i x v H s a b c d e) _ 0 0 H2 _ v t2 c2 rfl hne (fS2.inv I4 s1) hJ2 fS2 fI2 hc2 ⟨oI',(s1.2 IT hSI.symm).trans pI.1,hoc,hod⟩ ⟨x,ex,rx⟩ (ao _) λj' hj'=>?_⟩;have e:j'=0:=∅
 subst e;exact⟨∅,λh=>absurd h (bG _)⟩
abbrev a7I (X:Cx)(qual:Str)(scope:Scope)(q c':Addr)(L:Addr):Env:=envX qual scope L q (.ref c') (clo X.env scope.names [])
def cxL (X:Cx)(qual:Str)(scope:Scope)(N':List Str)(pins:List (Addr×Obj))(q c':Addr)(A':Around)(s:Shared)(H:Hp):Cx where
 prog:=X.prog
 w:=X.w
 K:=X.K
 mg:=X.mg
 base:=X.base
 A:=A'.deeper (a7I X qual scope q c' s.heap.objs.size)
 N:=N'
 sv:=s
 Hz:=H
 env:=a7I X qual scope q c' s.heap.objs.size
 outer:=X.stack
 stack:=a7I X qual scope q c' s.heap.objs.size::X.stack
 ex:=[]
 fn:=λ_=>false
 calm:=true
 pn:=X.pn++pins
 xe:=λ_ _=>False
def stL (v:V)(fr:List (Str×Nat))(σ:St):St:=some v::fr.map λp=>(σ[p.2]?).join
theorem b1j {qual:Str}{scope:Scope}{q c':Addr}{A':Around}{fr:List (Str×Nat)}{x:Str}{v:V}{u:Value}{h1:Heap}{t':Nat}(I:Inv X pins σ H s)(hc:Y9 scope X.env.scope)(hA:A'.frames=some X.stack)(hh:A'.handled=none)(hfr:a0P X scope fr)
  (hx:scope.names.lookup x=some .local) (ru:D0 v u) (hns:h1.Ns s.heap.objs.size (λy=>[(x,u)].reverse.lookup y)) (hsb:∀ b o,s.heap.get? b=some o->h1.get? b=some o) :
  Inv (cxL X qual scope (x::fr.map (·.1)) pins q c' A' s H) [] (stL v fr σ) H {s with heap:=h1,toks:=t'}:=by
 have clX:∀ x c,(clo X.env scope.names []).lookup x=some c->X.env.cells.lookup x=some c:=λx c e=>by
  rw[P9] at e;split at e
  ·rename_i q;obtain⟨y,hy,hq⟩:=bC.mp q;rw[df] at hq;have e1:y.1=x:=of_decide_eq_true hq.1;have e2:y.2=.free:= ~~~hq.2
   obtain⟨c',hc'⟩:=I.ok.has x (by
    have:=hc.free y hy e2;rw[e1] at this
    exact this)
   rw[hc'] at e ⊢;exact e
  ·cases e
 have ok:(cxL X qual scope (x::fr.map (·.1)) pins q c' A' s H).Ok :=
  {mod:=I.ok.mod
   kind:=hc.kind
   glob:=rfl
   blt:=rfl
   above:=ao _
   inj:=λx y c hx hy=>I.ok.inj x y c (clX x c hx) (clX y c hy)
   has:=λx hx=>by
    have hx:scope.names.lookup x=some .cell\/scope.names.lookup x=some .free:=hx;have key:scope.names.lookup x=some .free:=by
     rcases hx with hx | hx
     ·exact absurd rfl (hc.noCell (x,.cell) (M5 hx))
     ·exact hx
    have hm:=M5 key;refine⟨(X.env.cells.lookup x).getD 0,?_⟩;show (clo X.env scope.names []).lookup x=_;rw[P9,if_pos (bC.mpr ⟨(x,.free),hm,by simp⟩)]
   cab:=λx c h=>nomatch h
   hd:=λ_=>hh
   frames:=by
    show (A'.deeper _).frames=_;simp[Around.deeper,hA];rfl
   stk:=.inr ⟨rfl,rfl⟩
   exf:=λb hb=>nomatch hb
   bs:=I.bs
   bsz:=aV I.ok.bsz I.sz
   noex:=λb o e hb=>nomatch hb
   exfs:=λb hb=>nomatch hb
   funs:=I.stack
   frf:=I.stkFree}
 refine⟨ok,rfl,I.bare,Un.kept hsb,⟨_,hns,λi y v' hy hv hvis=>?_⟩,λx c e=>?_,I.fresh,λx c e=>I.freeC x c (clX x c e),λp hp=>?_,I.hok.kept hsb,?_⟩
 ·cases i with
  | zero =>
   have ey:x=y:=ak hy;have ev:v=v':=ak (ak hv);subst ey;subst ev;refine⟨u,ru,.inl ⟨hx,?_⟩⟩;simp[List.lookup]
  | succ k =>
   have hy:(fr.map (·.1))[k]?=some y:=hy;have hv:(fr.map λp=>(σ[p.2]?).join)[k]?=some (some v'):=hv;rw[ah] at hy hv;cases e:fr[k]? with
   | none=>rw[e] at hy;cases hy
   | some p =>
    rw[e] at hy hv;have ex:p.1=y:=ak hy;have ev:(σ[p.2]?).join=some v':=ak hv;obtain⟨hN,hfree⟩:=hfr p (di.mpr ⟨_,e⟩);rw[ex] at hN hfree;have hk:=hc.free (y,.free) (M5 hfree) rfl;have hσ:σ[p.2]?=some (some v'):=by
     cases q:σ[p.2]? with
     | none=>rw[q] at ev;cases ev
     | some o=>rw[q] at ev;exact congrArg some ev
    obtain⟨mX,nX,lX⟩:=I.loc;obtain⟨u,ru,look⟩:=lX p.2 y v' hN hσ (.inr hk);refine⟨u,ru,.inr ⟨.inr hfree,?_⟩⟩;rcases look with ⟨k1,_⟩ | ⟨_,c,hcc,hcell⟩
    ·exfalso;have k1:X.env.scope.names.lookup y=some .local:=k1;rcases hk with q | q<;>(rw[k1] at q;cases q)
    ·refine⟨c,?_,?_⟩
     ·show (clo X.env scope.names []).lookup y=_;rw[P9,if_pos (bC.mpr ⟨(y,.free),M5 hfree,by simp⟩),hcc];rfl
     ·exact hcell.keeps hsb
 ·obtain⟨v,hv⟩:=I.cell x c (clX x c e);exact⟨v,hv.keeps hsb⟩
 ·have hp:p∈X.pn++pins:=by
   rcases aj.mp hp with q | q
   ·exact q
   ·cases q
  obtain⟨a1,a2,a3,a4,a5⟩:=I.pin p hp;refine⟨hsb _ _ a1,a2,aK (ar a1),λhm=>?_,a5⟩;have hm:=I.stkSub _ hm;rcases aL.mp hm with q | q
  ·exact a3 q
  ·exact a4 q
 ·simp[stL,cxL]
theorem a7r {qual:Str}{params:Arguments}{body:Expr}{scope:Scope}{pm ctv:Value}{q c':Addr}{fr:List (Str×Nat)}{x:Str}{te:TE}{k:Nat}{xs:List V}{kf:Nat->Int}{J:Hp->Prop}(hcalm:X.calm=true)(hr:N3 (k+2) X.A)(hc:Y9 scope X.env.scope)(hfr:a0P X scope fr)
  (hx:scope.names.lookup x=some .local) (hco:scope.isCoroutine=false) (hgen:scope.isGenerator=false)
  (hpin:(q,jE "<lambda>" qual params body scope (clo X.env scope.names []) pm c' ctv)∈pins) (hcode:∀ H,J H->H c'=some (.ext λh=>h.CodeRec (.ref c') qual))
  (hbind:∀ u,bindArgs (kla_fn "<lambda>" qual params body scope (clo X.env scope.names []) pm (.ref c') ctv) ⟨[u],[]⟩=pure [(x,u)])
  (hb:∀(A':Around) (pins':List (Addr×Obj)) (s:Shared) (H:Hp),N3 k (A'.deeper (a7I X qual scope q c' s.heap.objs.size))->PE (cxL X qual scope (x::fr.map (·.1)) pins' q c' A' s H) body te)
  (step:∀(i:Nat) (v:V) (H:Hp),xs[i]?=some v->J H->∃ S:VK,te (stL v fr σ) H S/\∀ r H',S r H'->r=.int (kf i)/\J H'):a0d X pins σ q xs kf J:=by
 intro i v u more s H ev ru I hJ;have hp:=I.pin _ (aB _ (dq _ hpin));have hcd:s.heap.CodeRec (.ref c') qual:=(I.hok c' _ (hcode H hJ)).1;refine ib ?_;refine kla_callFunE (hr.in1).depth hp.1 rfl hco hgen rfl hcd ?_;rw[hbind];refine ag (gF hc.noCell (λy hy=>by rw[aq.mp hy];exact hx) (λh₁ hns hsb=>?_) hc.kind);have k4:∀ b o,s.heap.get? b=some o->h₁.get? b=some o:=λb o e=>hsb.extBut b o (aK (ar e)) (af _ e)
 have I4:=b1j (qual:=qual) (q:=q) (c':=c') (A':=X.A.in1) (t':=s.toks+[(x,u)].length) I hc I.ok.frames (I.ok.hd hcalm) hfr hx ru hns k4;refine⟨I.nolimit.keeps k4,?_⟩;show codeAny _ _ (.expr body (a7I X qual scope q c' s.heap.objs.size)) _ _;obtain⟨S,hS,hS2⟩:=step i v H ev hJ;refine kla_codeExpr (bB (hb X.A.in1 (pins++more) s H (hr.in1.deeper _) [] _ _ H _ I4 hS) (λy s' hy=>?_) λ_ _ hF=>hF.elim);obtain⟨v',H',I5,r5,q5⟩:=hy;obtain⟨e5,J5⟩:=hS2 _ _ q5;subst e5;obtain⟨t,rfl⟩:∃ t,y=.int (kf i) t:=r5;exact⟨t,H',rfl,I.call' (ch:=[]) I5.os I5.base I5.hok I5.bare (λb z=>absurd z (by simp)),J5⟩
def Y5 (c':Addr)(qual:Str):HO:=.ext λh=>h.CodeRec (.ref c') qual
def I0 (H:Hp)(P:Addr)(qual:Str)(line col:Nat):Prop:=H P=some (.tbl #[])\/∃ c',H P=some (.tbl #[rawInt line,rawInt col,.ref c'])/\H c'=some (Y5 c' qual)
def Bm (mg:Str->Option Value)(base:Heap):Prop:=∃ bm o,mg "__builtins__"=some (.ref bm)/\bm≠builtinsNs/\base.get? bm=some o/\o.cls=.type "module"/\o.dict=some builtinsNs/\o.data=.plain
theorem Bm.at {P:Addr}(B:Bm X.mg X.base)(I:Inv X pins σ H s){o:HO}(hP:H P=some o):s.heap.BuiltinsAt X.mg P:=by
 obtain⟨bm,ob,b1,b2,b3,b4,b5,b6⟩:=B;refine⟨bm,ob,b1,b2,λq=>?_,ne_comm.mp (C2 hP (I.bs _ _ b3).2),I.bk _ _ b3,b4,b5,b6⟩;obtain⟨o,es,ep,e,hd,_⟩:=I.mod.glob;rw[q,e] at b3;cases b3;rw[hd] at b6;cases b6
theorem a4Z {h:Heap}{c':Addr}{qual:Str}{P:Program}{w:World}{H:Hp}(x:h.CodeRec (.ref c') qual):K0 P w H h c' (Y5 c' qual):=by
 refine⟨x,?_,λh1 h2 y k=>?_⟩
 ·obtain⟨c,o,vs,t,e,g,_⟩:=x;cases e;exact⟨o,g⟩
 ·obtain⟨c,o,vs,t,e,g,r⟩:=y;cases e;exact⟨c',o,vs,t,rfl,k _ g,r⟩
theorem Inv.tabbed {P c':Addr}{ps more:Array Value}{qual:Str}{h':Heap}{t':Nat}(I:Inv X pins σ H s)(hP:H P=some (.tbl ps))(hx:jv P s.heap h')(hge:s.heap.objs.size<=c')(hrec:h'.CodeRec (.ref c') qual)(htb:h'.get? P=some (tabObj (ps++more))) :
  Inv X pins σ (upd (upd H P (.tbl (ps++more))) c' (Y5 c' qual)) {s with heap:=h',toks:=t'}:=by
 have nC:H c'=none:=I.hok.fresh hge;have hPc:P≠c':=C2 hP nC;have hU:∀ {b:Addr},b≠P->b≠c'->upd (upd H P (.tbl (ps++more))) c' (Y5 c' qual) b=H b:=λh1 h2=>by rw[B3 h2,B3 h1]
 have hUP:upd (upd H P (.tbl (ps++more))) c' (Y5 c' qual) P=some (.tbl (ps++more)):=by rw[B3 hPc,A1]
 have old:∀ {b:Addr} {o:HO},H b=some o->b≠c':=λe=>C2 e nC
 have nP:∀ {b:Addr},H b=none->b≠P:=λe z=>by rw[z,hP] at e;cases e
 refine I.un ⟨λb o e n _ _=>hx b o (nP n) e,λb o e n _ _=>⟨o.slots,hx b o (nP n) e⟩,λb o e n _=>?_,λb o e _=>?_,λb xs e=>?_,λb o u e=>?_,λb qs e=>?_⟩ λa o e=>?_
 ·rw[hU (nP n) λz=>absurd (aO (ar e) hge) (by rw[z];exact bG _)];exact n
 ·by_cases hb:b=P
  ·exact⟨_,hb ▸ htb⟩
  ·exact⟨o,hx b o hb e⟩
 ·rw[hU (λz=>by rw[z,hP] at e;cases e) (old e)];exact e
 ·rw[hU (λz=>by rw[z,hP] at e;cases e) (old e)];exact e
 ·by_cases hb:b=P
  ·subst hb;rw[hP] at e;cases e;exact⟨more,hUP⟩
  ·exact⟨#[],by rw[hU hb (old e),e];simp⟩
 ·by_cases h1:a=c'
  ·subst h1;rw[A1] at e;cases e;exact a4Z hrec
  ·by_cases h2:a=P
   ·subst h2;rw[hUP] at e;cases e;exact htb
   ·rw[hU h2 h1] at e;refine (I.hok a o e).stay (λb u hb g=>hx b u (λz=>?_) g) (λb g=>?_) λb xs g=>?_
    ·rcases hb with hb | hb
     ·exact h2 (hb.symm.trans z)
     ·rw[z,hP] at hb;cases hb
    ·rw[hU (λz=>by rw[z,hP] at g;cases g) (old g)];exact g
    ·rw[hU (λz=>by rw[z,hP] at g;cases g) (old g)];exact g
theorem a9o {params:Arguments}{body:Expr}{scope:Scope}{lpos:Pos}{c P:Addr}{Q:Value->Shared->Prop}{E:Value->Shared->Prop}(I:Inv X pins σ H s)(hc:Y9 scope X.env.scope)(hdef:defaultsOf params X.env=([],[]))(hcd:X.env.code=.ref c)(C:CodeHd X.base c P)(B:Bm X.mg X.base)
  (hL:I0 H P (X.env.qual++"<lambda>") lpos.line lpos.col)
  (h:∀(f c':Addr) (pm ctv:Value) (s':Shared) (H':Hp),(∀ b o,b≠P->H b=some o->H' b=some o)->H' c'=some (Y5 c' (X.env.qual++"<lambda>"))->I0 H' P (X.env.qual++"<lambda>") lpos.line lpos.col ->
   Inv X (pins++[(f,jE "<lambda>" (X.env.qual++"<lambda>") params body scope (clo X.env scope.names []) pm c' ctv)]) σ H' s'->Q (.ref f) s') :
  wpAny (model X.prog X.w) X.A (eval (.Lambda params body scope lpos) X.env) Q E s:=by
 have pinF:∀ {H':Hp} {s':Shared} {f:Addr} {o:Obj},Inv X pins σ H' s'->s'.heap.get? f=some o->s.heap.objs.size<=f->H' f=none->(∀ v,o.data≠.cell v)->Inv X (pins++[(f,o)]) σ H' s':=λ{H' s' f o} I' e hf hn hd=>by
  refine I'.pins_of λp hp=>?_
  rcases aj.mp hp with hp | hp
  ·exact I'.pin p (aB _ hp)
  ·rw[aq.mp hp];exact⟨e,hn,dw (aO I.lt hf),I.nofs hf,hd⟩
 have hg:=I.mod.glob.keeps I.bk
 have hgP:∀ {o:HO},H P=some o->mainGlobals≠P:=λe=>ne_comm.mp (C2 e (by
  obtain⟨o,es,ep,g,_⟩:=I.mod.glob
  exact (I.bs _ _ g).2))
 refine kla_eval hdef ?_;rcases hL with hP | ⟨c',hP,hC⟩
 ·have hPo:s.heap.get? P=some (tabObj #[]):=I.hok P _ hP;refine kla_makeFunction (mg:=X.mg) (a0Q I hc) I.ok.glob hg hcd (C.keeps I.bk) hPo trivial rfl (hgP hP) (B.at I hP) λc' ctv h' tk hx hge hlt hrec htb=>?_
  have I1:=I.tabbed (t':=tk) hP hx hge hrec htb;have I2:=I1.kept (t':=tk) (h':=h'.push (jE "<lambda>" (X.env.qual++"<lambda>") params body scope (clo X.env scope.names []) ((X.mg "__name__").getD .none) c' ctv)) (λb u e=>af _ e);have hf:s.heap.objs.size<=h'.objs.size:=aV hge (cz hlt);have nC:H c'=none:=I.hok.fresh hge;have hPc:P≠c':=C2 hP nC;refine h h'.objs.size c' _ ctv _ _ (λb o hb e=>?_) A1 (.inr ⟨c',?_,A1⟩) (pinF I2 (au _ rfl) hf ?_ (λv z=>nomatch z))
  ·rw[B3 (C2 e nC),B3 hb];exact e
  ·rw[B3 hPc,A1];rfl
  ·rw[B3 (dw hlt),B3 (λz=>absurd (aO (ar hPo) hf) (by rw[z];exact bG _))];exact I.hok.fresh hf
 ·have hPo:s.heap.get? P=some (tabObj #[rawInt lpos.line,rawInt lpos.col,.ref c']):=I.hok P _ hP;refine kla_makeFunctionHit (mg:=X.mg) (cv:=.ref c') (a0Q I hc) I.ok.glob hg hcd (C.keeps I.bk) hPo trivial (by simp[codeAmong,rawInt]) (B.at I hP) λctv h' tk hk hsz=>?_
  have I2:=I.kept (t':=tk) (h':=h'.push (jE "<lambda>" (X.env.qual++"<lambda>") params body scope (clo X.env scope.names []) ((X.mg "__name__").getD .none) c' ctv)) (λb u e=>af _ (hk b u e));exact h h'.objs.size c' _ ctv _ _ (λb o _ e=>e) hC (.inr ⟨c',hP,hC⟩) (pinF I2 (au _ rfl) hsz (I.hok.fresh hsz) (λv z=>nomatch z))
theorem I0.same {H H':Hp}{P:Addr}{qual:Str}{line col:Nat}(h:I0 H P qual line col)(e:B5 H H'):I0 H' P qual line col:=by
 rcases h with h | ⟨c',h1,h2⟩
 ·exact .inl (e _ _ h)
 ·exact .inr ⟨c',e _ _ h1,e _ _ h2⟩
end
end L2
end
section
namespace STab
open PySem PySem.SetTable
def Ris (xs:Array Nat):Prop:=∀ i j (hi:i<xs.size) (hj:j<xs.size),i<j->xs[i]<xs[j]
theorem go_spec {xs:Array Nat}{j:Nat}(hr:Ris xs):∀(fuel lo hi:Nat),lo<=hi->hi<=xs.size->hi-lo<=fuel ->
  (∀ i (h:i<xs.size),i<lo->xs[i]<j)->(∀ i (h:i<xs.size),hi<=i->j<=xs[i]) ->
  below.go xs j fuel lo hi<=xs.size/\(∀ i (h:i<xs.size),i<below.go xs j fuel lo hi->xs[i]<j)/\(∀ i (h:i<xs.size),below.go xs j fuel lo hi<=i->j<=xs[i])
 | 0,lo,hi,h1,h2,h3,h4,h5=>by
  have e:hi=lo:=∅
  subst e;unfold below.go;exact⟨h2,h4,h5⟩
 | fuel+1,lo,hi,h1,h2,h3,h4,h5=>by
  unfold below.go;by_cases hlt:lo<hi
  ·rw[if_pos hlt];have hm:(lo+hi) / 2<xs.size:=∅
   have hg:xs.getD ((lo+hi) / 2) j=xs[(lo+hi) / 2]:=by simp[Array.getD,hm]
   dsimp only;rw[hg];by_cases hc:xs[(lo+hi) / 2]<j
   ·rw[if_pos hc];refine go_spec hr fuel _ _ ∅ h2 ∅ (λi h hi'=>?_) h5;by_cases he:i=(lo+hi) / 2
    ·subst he;exact hc
    ·exact ge (hr i _ h hm ∅) hc
   ·rw[if_neg hc];refine go_spec hr fuel _ _ ∅ ∅ ∅ h4 (λi h hi'=>?_);by_cases he:i=(lo+hi) / 2
    ·subst he;omega
    ·have:=hr _ i hm h ∅;omega
  ·rw[if_neg hlt];have e:hi=lo:=∅
   subst e;exact⟨h2,h4,h5⟩
theorem below_spec {xs:Array Nat}(hr:Ris xs)(j:Nat):below xs j<=xs.size/\(∀ i (h:i<xs.size),i<below xs j->xs[i]<j)/\(∀ i (h:i<xs.size),below xs j<=i->j<=xs[i]):=by
 unfold below;exact go_spec hr _ _ _ (bf _) (ao _) ∅ (λi h hi=>absurd hi (cr _)) (λi h hi=>absurd h (Nat.not_lt.mpr hi))
theorem below_at {xs:Array Nat}(hr:Ris xs){i:Nat}(hi:i<xs.size):below xs xs[i]=i:=by
 obtain⟨h1,h2,h3⟩:=below_spec hr xs[i];rcases fz (below xs xs[i]) i with h | h | h
 ·have:=h3 (below xs xs[i]) ∅ (ao _);have:=hr _ i ∅ hi h;omega
 ·exact h
 ·have:=h2 i hi h;omega
theorem below_next {xs:Array Nat}(hr:Ris xs){i:Nat}(hi:i<xs.size):below xs (xs[i]+1)=i+1:=by
 obtain⟨h1,h2,h3⟩:=below_spec hr (xs[i]+1);rcases fz (below xs (xs[i]+1)) (i+1) with h | h | h
 ·have:=h3 i hi ∅;omega
 ·exact h
 ·have:=h2 (i+1) ∅ h;have:=hr i (i+1) hi ∅ ∅;omega
theorem below_zero {xs:Array Nat}(hr:Ris xs):below xs 0=0:=by
 obtain⟨h1,h2,h3⟩:=below_spec hr 0;rcases jN (below xs 0) with h | h
 ·exact h
 ·have:=h2 0 ∅ h;omega
theorem has_none (j:Nat):has #[] j=false:=by
 unfold has;simp
theorem slot_live {t:SetTable}{j i:Nat}(h:t.slot j=.live i):t.place[i]?=some j:=by
 unfold slot at h;dsimp only at h;split at h
 ·rename_i hc;injection h with h
  subst h;simpa using hc
 ·split at h<;>exact Slot.noConfusion h
theorem slot_dummy {t:SetTable}{j:Nat}(hd:t.dummies=#[]):t.slot j≠.dummy:=by
 intro h;unfold slot at h;dsimp only at h;rw[hd,has_none] at h;split at h
 ·exact Slot.noConfusion h
 ·simp at h
theorem slot_empty {t:SetTable}{j:Nat}(hr:Ris t.place)(h:t.slot j=.empty):j∉t.place.toList:=by
 intro hm;obtain⟨i,hi,e⟩:=cE hm;have hi':i<t.place.size:= ~~~hi
 have e':t.place[i]=j:= ~~~e
 have hb:=below_at hr hi';rw[e'] at hb;unfold slot at h;dsimp only at h;rw[hb,aY hi',e'] at h;simp at h
theorem slot_free {t:SetTable}{j:Nat}(hd:t.dummies=#[])(h:j∉t.place.toList):t.slot j=.empty:=by
 cases hs:t.slot j with
 | empty=>rfl
 | dummy=>exact absurd hs (slot_dummy hd)
 | live i =>
  have:=slot_live hs;exact absurd (by rw[<- bP] at this;exact aF this) h
theorem ris_of {xs:Array Nat}(h:xs.toList.Pairwise (·<·)):Ris xs:=by
 intro i j hi hj hij;have:=dm.mp h i j (~~~hi) (~~~hj) hij;simpa using this
theorem of_ris {xs:Array Nat}(h:Ris xs):xs.toList.Pairwise (·<·):=by
 refine List.pairwise_iff_getElem.mpr λi j hi hj hij=>?_
 have:=h i j (~~~hi) (~~~hj) hij;simpa using this
theorem ris_put {xs:Array Nat}{j:Nat}(hr:Ris xs)(hn:j∉xs.toList):Ris (insertAt xs (below xs j) j):=by
 obtain⟨h1,h2,h3⟩:=below_spec hr j;refine ris_of ?_;rw[toList_insertAt];have hp:=of_ris hr;have hlo:∀ x∈xs.toList.take (below xs j),x<j:=by
  intro x hx;obtain⟨i,hi,e⟩:=cE hx;have hi2:i<below xs j/\i<xs.size:=by simp at hi;omega
  have:=h2 i hi2.2 hi2.1;simp at e;rw[<- e];exact this
 have hhi:∀ x∈xs.toList.drop (below xs j),j<x:=by
  intro x hx;have hxm:x∈xs.toList:=List.mem_of_mem_drop hx;obtain⟨i,hi,e⟩:=cE hx;have hi2:below xs j+i<xs.size:=by simp at hi;omega
  have:=h3 (below xs j+i) hi2 ∅;simp at e;rw[e] at this;have:j≠x:=λe=>hn (e ▸ hxm)
  omega
 refine jo.mpr ⟨hp.sublist (jO _ _),cq.mpr ⟨hhi,hp.sublist (List.drop_sublist _ _)⟩,?_⟩;intro a ha b hb;rcases aL.mp hb with rfl | hb
 ·exact hlo a ha
 ·exact ge (hlo a ha) (hhi b hb)
def f5 (N i:Nat):Nat:=(i*5+1) % N
def it5 (N:Nat):Nat->Nat->Nat
 | 0,i=>i
 | n+1,i=>it5 N n (f5 N i)
theorem it5_add (N:Nat):∀(m n i:Nat),it5 N (m+n) i=it5 N n (it5 N m i)
 | 0,n,i=>by rw[gc];rfl
 | m+1,n,i=>by rw[jk];show it5 N (m+n) (f5 N i)=it5 N n (it5 N m (f5 N i));exact it5_add N m n _
def orb (N:Nat):Nat->Nat->List Nat
 | 0,_=>[]
 | n+1,i=>i::orb N n (f5 N i)
theorem orb_mem (N:Nat):∀(n i r:Nat),r∈orb N n i->∃ k,k<n/\it5 N k i=r
 | 0,_,_,h=>by simp[orb] at h
 | n+1,i,r,h=>by
  rcases aL.mp h with rfl | h
  ·exact⟨0,fk _,rfl⟩
  ·obtain⟨k,hk,e⟩:=orb_mem N n _ r h;exact⟨k+1,Nat.succ_lt_succ hk,e⟩
structure Full (N:Nat):Prop where
 all:∀ r,r<N->r∈orb N N 0
 back:it5 N N 0=0
theorem full_of {N:Nat}(h1:(List.range N).all (λr=>(orb N N 0).contains r)=true)(h2:(it5 N N 0 == 0)=true):Full N :=
 ⟨λr hr=>by have:=eU.mp h1 r (cg.mpr hr);simpa using this, ~~~h2⟩
theorem full8:Full 8:=full_of (by decide +kernel) (by decide +kernel)
theorem full32:Full 32:=full_of (by decide +kernel) (by decide +kernel)
theorem full128:Full 128:=full_of (by decide +kernel) (by decide +kernel)
theorem full512:Full 512:=full_of (by decide +kernel) (by decide +kernel)
theorem Full.hit {N:Nat}(F:Full N){i r:Nat}(hi:i<N)(hr:r<N):∃ k,k<N/\it5 N k i=r:=by
 obtain⟨m,hm,em⟩:=orb_mem N N 0 i (F.all i hi);obtain⟨n,hn,en⟩:=orb_mem N N 0 r (F.all r hr);by_cases hmn:m<=n
 ·refine⟨n-m,∅,?_⟩;have:=it5_add N m (n-m) 0;rw[em,show m+(n-m)=n by omega,en] at this;exact this.symm
 ·refine⟨N-m+n,∅,?_⟩;have h1:=it5_add N m (N-m) 0;rw[em,show m+(N-m)=N by omega,F.back] at h1;rw[it5_add,<- h1,en]
def leaps (mask:Nat):Nat->Nat×Nat->Nat×Nat
 | 0,p=>p
 | n+1,p=>leaps mask n (leap mask p.1 p.2)
theorem leaps_add (mask:Nat):∀(m n:Nat) (p:Nat×Nat),leaps mask (m+n) p=leaps mask n (leaps mask m p)
 | 0,n,p=>by rw[gc];rfl
 | m+1,n,p=>by rw[jk];show leaps mask (m+n) _=leaps mask n (leaps mask m _);exact leaps_add mask m n _
theorem leaps_snd (mask:Nat):∀(n:Nat) (p:Nat×Nat),(leaps mask n p).2=p.2 / 32 ^ n
 | 0,p=>by simp[leaps]
 | n+1,p=>by
  show (leaps mask n (leap mask p.1 p.2)).2=_;rw[leaps_snd];show p.2 / 32 / 32 ^ n=_;rw[Nat.div_div_eq_div_mul,Nat.pow_succ,Nat.mul_comm]
theorem leaps_fst (mask:Nat):∀(n:Nat) (p:Nat×Nat),p.1<=mask->(leaps mask n p).1<=mask
 | 0,p,h=>h
 | n+1,p,h=>leaps_fst mask n _ (eQ (gT (p.1*5+1+p.2 / 32) (fk mask)))
theorem leaps_zero (mask:Nat):∀(n i:Nat),leaps mask n (i,0)=(it5 (mask+1) n i,0)
 | 0,i=>rfl
 | n+1,i=>by
  show leaps mask n (leap mask i 0)=_;have:leap mask i 0=(f5 (mask+1) i,0):=by simp[leap,f5]
  rw[this,leaps_zero];rfl
theorem leaps_hit {mask:Nat}(F:Full (mask+1)){i perturb r:Nat}(hi:i<=mask)(hp:perturb<2 ^ 64)(hr:r<=mask):∃ n,n<mask+14/\(leaps mask n (i,perturb)).1=r:=by
 have h2:(leaps mask 13 (i,perturb)).2=0:=by
  rw[leaps_snd];exact Nat.div_eq_of_lt (aO hp (by decide))
 have h1:=leaps_fst mask 13 (i,perturb) hi;have e:leaps mask 13 (i,perturb)=((leaps mask 13 (i,perturb)).1,0):=by rw[<- h2]
 obtain⟨k,hk,ek⟩:=F.hit (i:=(leaps mask 13 (i,perturb)).1) (r:=r) ∅ ∅;refine⟨13+k,∅,?_⟩;rw[leaps_add,e,leaps_zero];exact ek
def adv (t:SetTable):Nat->Probe->Probe
 | 0,p=>p
 | n+1,p=>adv t n (t.advance p)
theorem adv_add (t:SetTable):∀(m n:Nat) (p:Probe),adv t (m+n) p=adv t n (adv t m p)
 | 0,n,p=>by rw[gc];rfl
 | m+1,n,p=>by rw[jk];show adv t (m+n) _=adv t n (adv t m _);exact adv_add t m n _
structure Good (t:SetTable)(p:Probe):Prop where
 i:p.i<=t.mask
 j:p.j+p.more<=t.mask
 more:p.more<=9
 perturb:p.perturb<2 ^ 64
 dummy:p.dummy=none
theorem runEnd_le {mask i:Nat}(h:i<=mask):i<=runEnd mask i/\runEnd mask i<=mask/\runEnd mask i-i<=9:=by
 unfold runEnd;split<;>omega
theorem Good.advance {t:SetTable}{p:Probe}(g:Good t p):Good t (t.advance p):=by
 obtain⟨h1,h2,h3,h4,h5⟩:=g;unfold SetTable.advance;split
 ·exact⟨h1,by simp only;omega,by simp only;omega,h4,h5⟩
 ·have hm:(leap t.mask p.i p.perturb).1<=t.mask:=eQ (gT (p.i*5+1+p.perturb / 32) (fk t.mask));have hr:=runEnd_le hm;have hp:(leap t.mask p.i p.perturb).2<2 ^ 64:=jM (Nat.div_le_self _ _) h4;exact⟨hm,by simp only;omega,by simp only;omega,hp,h5⟩
theorem good_start (t:SetTable)(h:Int):Good t (t.probeStart h):=by
 have hm:bits h % (t.mask+1)<=t.mask:=eQ (gT (bits h) (fk t.mask));have hr:=runEnd_le hm;refine⟨hm,by simp only[probeStart];omega,by simp only[probeStart];omega,?_,rfl⟩;show bits h<2 ^ 64;unfold bits;have h1:=da h (show (2 ^ 64:Int)≠0 by decide);have h2:=cu h (show (0:Int)<2 ^ 64 by decide);have h3:(2 ^ 64:Int)=((2 ^ 64:Nat):Int):=by norm_cast
 omega
theorem to_leap (t:SetTable):∀(m:Nat) (p:Probe),p.more=m->∃ q,adv t (m+1) p=q/\q.j=(leap t.mask p.i p.perturb).1/\q.i=(leap t.mask p.i p.perturb).1/\q.perturb=(leap t.mask p.i p.perturb).2
 | 0,p,h=>by
  refine⟨_,rfl,?_⟩;show (t.advance p).j=_/\(t.advance p).i=_/\(t.advance p).perturb=_;unfold SetTable.advance;rw[if_neg ∅];exact⟨rfl,rfl,rfl⟩
 | m+1,p,h=>by
  have e:t.advance p={p with j:=p.j+1,more:=p.more-1}:=by unfold SetTable.advance;rw[if_pos ∅]
  show ∃ q,adv t (m+1) (t.advance p)=q/\_;rw[e];exact to_leap t m {p with j:=p.j+1,more:=p.more-1} (by simp only;omega)
theorem Good.adv {t:SetTable}:∀(n:Nat) {p:Probe},Good t p->Good t (STab.adv t n p)
 | 0,_,g=>g
 | n+1,_,g=>Good.adv n g.advance
theorem to_leaps (t:SetTable):∀(n:Nat) (p:Probe),Good t p->p.j=p.i->∃ m,m<=10*n/\(adv t m p).j=(leaps t.mask n (p.i,p.perturb)).1
 | 0,p,_,h=>⟨0,ao _,h⟩
 | n+1,p,g,_=>by
  obtain⟨q,hq,h1,h2,h3⟩:=to_leap t p.more p rfl;have gq:Good t q:=hq ▸ g.adv _;obtain⟨m,hm,e⟩:=to_leaps t n q gq (h1.trans h2.symm);refine⟨p.more+1+m,by have:=g.more;omega,?_⟩;rw[adv_add,hq,e,h2,h3];rfl
theorem start_head (t:SetTable)(h:Int):(t.probeStart h).j=(t.probeStart h).i:=rfl
theorem start_hit {t:SetTable}(F:Full (t.mask+1))(h:Int){r:Nat}(hr:r<=t.mask):∃ n,n<10*turns t.mask/\(adv t n (t.probeStart h)).j=r:=by
 have g:=good_start t h;obtain⟨n,hn,e⟩:=leaps_hit F g.i g.perturb hr;obtain⟨m,hm,e'⟩:=to_leaps t n _ g (start_head t h);refine⟨m,by unfold turns;omega,e'.trans e⟩
theorem probe_go {t:SetTable}{hashAt:Nat->Int}{h:Int}(hd:t.dummies=#[]):∀(fuel:Nat) (p:Probe) (n:Nat),Good t p->n<fuel->t.slot (adv t n p).j=.empty ->
    ∃ k,k<=n/\(∀ k',k'<k->∃ i,t.slot (adv t k' p).j=.live i/\hashAt i≠h) /\
      ((t.slot (adv t k p).j=.empty/\probe.go t hashAt h fuel p=some (.empty (adv t k p).j none)) \/
       ∃ i,t.slot (adv t k p).j=.live i/\hashAt i=h/\probe.go t hashAt h fuel p=some (.candidate (adv t k p).j i (t.advance (adv t k p))))
  | 0,p,n,_,hn,_=>absurd hn (cr _)
  | fuel+1,p,n,g,hn,he=>by
    cases hs:t.slot p.j with
    | empty =>
      refine⟨0,bf _,λk' hk=>absurd hk (cr _),.inl ⟨hs,?_⟩⟩;unfold probe.go;rw[hs];dsimp only;rw[g.dummy];rfl
    | dummy=>exact absurd hs (slot_dummy hd)
    | live i =>
      by_cases hi:hashAt i=h
      · refine⟨0,bf _,λk' hk=>absurd hk (cr _),.inr ⟨i,hs,hi,?_⟩⟩
        unfold probe.go;rw[hs];dsimp only;rw[if_pos (~~~hi)];rfl
      · cases n with
        | zero=>exact absurd (hs.symm.trans he) (by simp)
        | succ n =>
          obtain⟨k,hk,hb,hr⟩:=probe_go hd fuel (t.advance p) n g.advance ∅ he;refine⟨k+1,∅,λk' hk'=>?_,?_⟩
          · cases k' with
            | zero=>exact⟨i,hs,hi⟩
            | succ k'=>exact hb k' ∅
          · have e:probe.go t hashAt h (fuel+1) p=probe.go t hashAt h fuel (t.advance p):=by
              rw[probe.go];rw[hs];dsimp only;rw[if_neg (~~~hi)]
            rw[e];exact hr
theorem nat_sub:∀ {us l:List Nat},us.Nodup->us ⊆ l->us.length<=l.length
 | [],_,_,_=>bf _
 | x::r,l,hn,hs=>by
  have hx:x∈l:=hs (aT ..);have hn':=bX.mp hn;have:=nat_sub (us:=r) (l:=l.erase x) hn'.2 (λy hy=>(jr (λe=>by subst e;exact hn'.1 hy)).mpr (hs (aN _ hy)));rw[iF hx] at this;have:=fQ hx;rw[aw];omega
theorem some_free {N:Nat}{xs:List Nat}(h:xs.length<N):∃ r,r<N/\r∉xs:=by
 apply aR;intro hn;have hall:∀ r,r∈List.range N->r∈xs:=λr hr=>aR λhx=>hn ⟨r,cg.mp hr,hx⟩
 have:(List.range N).length<=xs.length:=by
  exact nat_sub List.nodup_range hall
 simp at this;omega
structure Ok (t:SetTable)(n:Nat)(led:Bool):Prop where
 ris:Ris t.place
 dum:t.dummies=#[]
 size:t.place.size=n
 inn:∀ x∈t.place.toList,x<=t.mask
 full:Full (t.mask+1)
 plain:t.plain=true
 led:t.led=led
 room:n*5<t.mask*3
 mask:t.mask=7\/t.mask=31\/t.mask=127\/t.mask=511
theorem ok_fresh (led:Bool):Ok (.fresh 0 0 led) 0 led :=
 ⟨λi j hi=>absurd hi (cr _),rfl,rfl,λx h=>by simp[SetTable.fresh] at h,full8,rfl,rfl,(by show 0*5<7*3;decide),.inl rfl⟩
theorem Ok.fill {t:SetTable}{n:Nat}{led:Bool}(o:Ok t n led):t.fill=n:=by unfold SetTable.fill;rw[o.dum,o.size];rfl
theorem Ok.fits {t:SetTable}{n:Nat}{led:Bool}(o:Ok t n led):t.fits n=true:=by
 unfold SetTable.fits;rw[o.fill,o.size];have:=o.room;simp;omega
theorem Ok.hole {t:SetTable}{n:Nat}{led:Bool}(o:Ok t n led):∃ r,r<=t.mask/\t.slot r=.empty:=by
 obtain⟨r,hr,hn⟩:=some_free (N:=t.mask+1) (xs:=t.place.toList) (by have:=o.room;have:=o.size;simp;omega);exact⟨r,∅,slot_free o.dum hn⟩
theorem Ok.probe {t:SetTable}{n:Nat}{led:Bool}(o:Ok t n led)(hashAt:Nat->Int)(h:Int) :
    ∃ k,(∀ k',k'<k->∃ i,t.slot (adv t k' (t.probeStart h)).j=.live i/\hashAt i≠h) /\
      ((t.slot (adv t k (t.probeStart h)).j=.empty/\t.probe hashAt h (t.probeStart h)=some (.empty (adv t k (t.probeStart h)).j none)) \/
       ∃ i,t.slot (adv t k (t.probeStart h)).j=.live i/\hashAt i=h/\t.probe hashAt h (t.probeStart h)=some (.candidate (adv t k (t.probeStart h)).j i (t.advance (adv t k (t.probeStart h))))):=by
  obtain⟨r,hr,he⟩:=o.hole;obtain⟨n,hn,en⟩:=start_hit o.full h hr;obtain⟨k,hk,hb,hx⟩:=probe_go (hashAt:=hashAt) (h:=h) o.dum (10*turns t.mask) (t.probeStart h) n (good_start t h) hn (en ▸ he);exact⟨k,hb,hx⟩
structure Ok1 (t:SetTable)(n:Nat)(led:Bool):Prop where
 ris:Ris t.place
 dum:t.dummies=#[]
 size:t.place.size=n
 inn:∀ x∈t.place.toList,x<=t.mask
 full:Full (t.mask+1)
 plain:t.plain=true
 led:t.led=led
 mask:t.mask=7\/t.mask=31\/t.mask=127\/t.mask=511
 le:n<=t.mask
 last:(n-1)*5<t.mask*3
theorem Ok1.fits {t:SetTable}{n:Nat}{led:Bool}(o:Ok1 t n led):t.fits n=true:=by
 unfold SetTable.fits SetTable.fill;rw[o.dum,o.size];have:=o.le;simp;omega
theorem Ok.put {t:SetTable}{n:Nat}{led:Bool}(o:Ok t n led){j:Nat}(hj:t.slot j=.empty)(hm:j<=t.mask):Ok1 (t.put j).1 (n+1) led:=by
 have hn:=slot_empty o.ris hj;have hd:(t.put j).1.dummies=#[]:=by
  show (if has t.dummies j then eraseAt t.dummies (below t.dummies j) else t.dummies)=#[];rw[o.dum,has_none];rfl
 have hr:=o.room;refine⟨ris_put o.ris hn,hd,?_,?_,o.full,o.plain,o.led,o.mask,?_,?_⟩
 ·show (insertAt t.place (below t.place j) j).size=n+1;rw[<- aU,(insertAt_perm _ _ _).length_eq];simp[o.size]
 ·intro x hx;have hx':x∈(insertAt t.place (below t.place j) j).toList:=hx;have:=(insertAt_perm t.place (below t.place j) j).mem_iff.mp hx';simp at this;rcases this with h | rfl
  ·exact o.inn x (~~~h)
  ·exact hm
 ·show n+1<=t.mask;rcases o.mask with h | h | h | h<;>omega
 ·show (n+1-1)*5<t.mask*3;simpa using hr
theorem Ok1.ok {t:SetTable}{n:Nat}{led:Bool}(o:Ok1 t n led)(h:t.tooFull=false):Ok t n led:=by
 have hf:t.fill=n:=by unfold SetTable.fill;rw[o.dum,o.size];rfl
 refine⟨o.ris,o.dum,o.size,o.inn,o.full,o.plain,o.led,?_,o.mask⟩;unfold SetTable.tooFull at h;rw[hf] at h;simpa using h
theorem layNew_ok {t:SetTable}{es:Array (Int×Value)}{led:Bool}(o:Ok t es.size led)(h:Int)(x:Value) :
  ∃ es' t',layNew t es h x=(es',t',false,false)/\Ok1 t' es'.size led/\es'.toList.Perm (es.push (h,x)).toList/\es'.size=es.size+1:=by
 obtain⟨k,_,hk⟩:=o.probe (λ_=>h+1) h;have hp:=layNew_perm t es h x;rcases hk with ⟨he,hpr⟩ | ⟨i,_,hi,_⟩
 ·have hf:t.freeSlot h=some ((adv t k (t.probeStart h)).j,false):=by
   unfold SetTable.freeSlot;rw[hpr];rfl
  have hj:(adv t k (t.probeStart h)).j<=t.mask:=by have:=((good_start t h).adv k).j;omega
  have hok:=o.put he hj;have hsz:(insertAt es (t.put (adv t k (t.probeStart h)).j).2 (h,x)).size=es.size+1:=by
   rw[<- aU,(insertAt_perm _ _ _).length_eq];simp
  have hfit:(t.put (adv t k (t.probeStart h)).j).1.fits (es.size+1)=true:=hok.fits;have hl:layNew t es h x=(insertAt es (t.put (adv t k (t.probeStart h)).j).2 (h,x),(t.put (adv t k (t.probeStart h)).j).1,false,false):=by
   unfold layNew;rw[hf];dsimp only;unfold SetTable.orStandIn;rw[hsz,hfit];rfl
  refine⟨_,_,hl,hsz.symm ▸ hok,?_,hsz⟩;rw[hl] at hp;exact hp
 ·omega
theorem free_some {mask:Nat}{owner:Array (Option Nat)}:∀(fuel i perturb n:Nat),i<=mask->n<fuel->owner.getD (leaps mask n (i,perturb)).1 (some 0)=none ->
  ∃ j,layClean.free mask owner fuel i perturb=some j/\owner.getD j (some 0)=none
 | 0,_,_,_,_,hn,_=>absurd hn (cr _)
 | fuel+1,i,perturb,n,hi,hn,he=>by
  unfold layClean.free;cases hf:(List.range (runEnd mask i+1-i)).find? (λk=>(owner.getD (i+k) (some 0)).isNone) with
  | some k =>
   have:=List.find?_some hf;exact⟨i+k,rfl, ~~~this⟩
  | none =>
   cases n with
   | zero =>
    have h1:=List.find?_eq_none.mp hf 0 (cg.mpr (by have:=runEnd_le hi;omega));have he':owner.getD i (some 0)=none:=he;rw[jm,he'] at h1;exact absurd rfl h1
   | succ n =>
    exact free_some fuel _ _ n (leaps_fst mask 1 (i,perturb) hi) ∅ he
def own (N:Nat)(owner:Array (Option Nat)):List Nat:=(List.range N).filterMap λj=>owner.getD j none
theorem filterMap_len {α β:Type}{f:α->Option β}:∀ {l:List α},(∀ x∈l,(f x).isSome=true)->(l.filterMap f).length=l.length
 | [],_=>rfl
 | x::l,h=>by
  obtain⟨y,hy⟩:=d0.mp (h x (aT ..));rw[cm hy,aw,aw,filterMap_len λz hz=>h z (aN _ hz)]
theorem fm_congr {α β:Type}{f g:α->Option β}:∀ {l:List α},(∀ x∈l,g x=f x)->l.filterMap g=l.filterMap f
 | [],_=>rfl
 | x::l,h=>by
  have ih:=fm_congr (l:=l) λy hy=>h y (aN _ hy)
  rw[dC,dC,h x (aT ..),ih]
theorem filterMap_put {α:Type}{f g:Nat->Option α}{j:Nat}{k:α}:∀ {l:List Nat},l.Nodup->j∈l->f j=none->g j=some k->(∀ x,x≠j->g x=f x)->(l.filterMap g).Perm (k::l.filterMap f)
 | [],_,hj,_,_,_=>by simp at hj
 | x::l,hn,hj,hf,hg,he=>by
  have hn':=bX.mp hn;by_cases hx:x=j
  ·subst hx;rw[cm hg,cJ hf];have:l.filterMap g=l.filterMap f:=fm_congr λy hy=>he y λe=>hn'.1 (e ▸ hy)
   rw[this]
  ·have hj':j∈l:=(aL.mp hj).resolve_left λe=>hx e.symm
   have ih:=filterMap_put hn'.2 hj' hf hg he;cases hfx:f x with
   | none=>rw[cJ hfx,cJ ((he x hx).trans hfx)];exact ih
   | some y =>
    rw[cm hfx,cm ((he x hx).trans hfx)];exact (ih.cons y).trans (List.Perm.swap ..)
theorem getD_free {owner:Array (Option Nat)}{j:Nat}(h:owner.getD j (some 0)=none):j<owner.size/\owner.getD j none=none:=by
 by_cases hj:j<owner.size
 ·refine⟨hj,?_⟩;simp[Array.getD,hj] at h ⊢;exact h
 ·simp[Array.getD,hj] at h
def layF (mask:Nat):Option (Array (Option Nat)×Nat)->Int->Option (Array (Option Nat)×Nat):=λacc h=>do
  let (owner,k) <- acc
  let j <- layClean.free mask owner (turns mask) (bits h % (mask+1)) (bits h)
  pure (owner.setIfInBounds j (some k),k+1)
theorem layF_fold {mask:Nat}(F:Full (mask+1)):∀(hs:List Int) (owner:Array (Option Nat)) (k:Nat),owner.size=mask+1->(own (mask+1) owner).Perm (List.range k)->k+hs.length<=mask ->
  ∃ owner',hs.foldl (layF mask) (some (owner,k))=some (owner',k+hs.length)/\owner'.size=mask+1/\(own (mask+1) owner').Perm (List.range (k+hs.length))
 | [],owner,k,h1,h2,_=>⟨owner,rfl,h1,h2⟩
 | h::hs,owner,k,h1,h2,h3=>by
  rw[aw] at h3;have hole:∃ r,r<=mask/\owner.getD r (some 0)=none:=by
   apply aR;intro hn;have:(own (mask+1) owner).length=mask+1:=by
    unfold own;rw[filterMap_len,gN];intro x hx;have hx':x<owner.size:=by rw[h1];exact cg.mp hx
    have hx2:x<=mask:=by rw[h1] at hx';omega
    cases hg:owner.getD x none with
    | some y=>rfl
    | none =>
     refine absurd ⟨x,hx2,?_⟩ hn;simp[Array.getD,hx'] at hg ⊢;exact hg
   rw[h2.length_eq,gN] at this;omega
  obtain⟨r,hr,er⟩:=hole;have hb:bits h % (mask+1)<=mask:=eQ (gT (bits h) (fk mask));have hp:bits h<2 ^ 64:=(good_start {mask:=mask,place:=#[],dummies:=#[],finger:=0,led:=true,moves:=0,plain:=true} h).perturb;obtain⟨n,hn,en⟩:=leaps_hit F hb hp hr;obtain⟨j,hj,ej⟩:=free_some (owner:=owner) (turns mask) _ (bits h) n hb (by unfold turns;omega) (by rw[en];exact er);obtain⟨hjs,hjn⟩:=getD_free ej;have hstep:layF mask (some (owner,k)) h=some (owner.setIfInBounds j (some k),k+1):=by
   show (do let j <- layClean.free mask owner (turns mask) (bits h % (mask+1)) (bits h);pure (owner.setIfInBounds j (some k),k+1))=_;rw[hj];rfl
  rw[hZ,hstep];have hown:(own (mask+1) (owner.setIfInBounds j (some k))).Perm (List.range (k+1)):=by
   refine List.Perm.trans (filterMap_put (j:=j) (k:=k) (f:=λj=>owner.getD j none) List.nodup_range (cg.mpr (h1 ▸ hjs)) hjn ?_ ?_) ?_
   ·simp[Array.getD,hjs]
   ·intro x hx;by_cases hxs:x<owner.size
    ·simp[Array.getD,hxs,Array.getElem_setIfInBounds,dN hx]
    ·simp[Array.getD,hxs]
   ·rw[show List.range (k+1)=List.range k++[k] from hX];exact (h2.cons k).trans (im k _).symm
  obtain⟨o',e',s',p'⟩:=layF_fold F hs (owner.setIfInBounds j (some k)) (k+1) (~~~h1) hown ∅;refine⟨o',?_,s',?_⟩
  ·rw[e',aw,show k+1+hs.length=k+(hs.length+1) by omega]
  ·rw[aw,show k+(hs.length+1)=k+1+hs.length by omega];exact p'
theorem layClean_ok {mask:Nat}(F:Full (mask+1))(hs:Array Int)(h:hs.size<=mask):∃ owner,layClean mask hs=some owner/\owner.size=mask+1/\(own (mask+1) owner).Perm (List.range hs.size):=by
 have h0:(own (mask+1) (fc (mask+1) none)).Perm (List.range 0):=by
  have:own (mask+1) (fc (mask+1) none)=[]:=by
   unfold own;refine List.filterMap_eq_nil_iff.mpr λx hx=>?_
   have:x<mask+1:=cg.mp hx;simp[Array.getD,this]
  rw[this];exact .nil
 obtain⟨o,e,s,p⟩:=layF_fold F hs.toList (fc (mask+1) none) 0 (by simp) h0 (~~~h);rw[gc,aU] at e p;refine⟨o,?_,s,p⟩;unfold layClean;have:hs.foldl (layF mask) (some (fc (mask+1) none,0))=some (o,hs.size):=by rw[<- Array.foldl_toList];exact e
 show (hs.foldl (layF mask) (some (fc (mask+1) none,0))).map (·.1)=some o;rw[this];rfl
theorem filterMap_pairs {owner:Array (Option Nat)}:∀ l:List Nat,((l.filterMap λj=>(owner.getD j none).map (j,·)).map (·.2))=l.filterMap λj=>owner.getD j none
 | []=>rfl
 | x::l=>by
  cases h:owner.getD x none with
  | none=>rw[cJ (by rw[h];rfl),cJ (f:=λj=>owner.getD j none) h];exact filterMap_pairs l
  | some y=>rw[cm (b:=(x,y)) (by rw[h];rfl),cm (f:=λj=>owner.getD j none) h,aA,filterMap_pairs l]
theorem pairs_fst {owner:Array (Option Nat)}:∀ {l:List Nat},l.Pairwise (·<·)->((l.filterMap λj=>(owner.getD j none).map (j,·)).map (·.1)).Pairwise (·<·)/\∀ x∈(l.filterMap λj=>(owner.getD j none).map (j,·)).map (·.1),x∈l
 | [],_=>⟨.nil,λx h=>h⟩
 | x::l,h=>by
  obtain⟨h1,h2⟩:=cq.mp h;obtain⟨i1,i2⟩:=pairs_fst (owner:=owner) h2;cases hg:owner.getD x none with
  | none =>
   rw[cJ (by rw[hg];rfl)];exact⟨i1,λy hy=>aN _ (i2 y hy)⟩
  | some y =>
   rw[cm (b:=(x,y)) (by rw[hg];rfl),aA];refine⟨cq.mpr ⟨λz hz=>h1 z (i2 z hz),i1⟩,λz hz=>?_⟩;rcases aL.mp hz with rfl | hz
   ·exact aT ..
   ·exact aN _ (i2 z hz)
theorem range_rising (n:Nat):(List.range n).Pairwise (·<·):=iW
theorem relay_ok {t:SetTable}{es:Array (Int×Value)}{n:Nat}{led:Bool}(o:Ok1 t n led)(hes:es.size=n)(hf:t.tooFull=true)(hn:n<=300) :
  ∃ es' t',relayAll t es (grown es.size)=(es',t',false)/\Ok t' n led/\es'.toList.Perm es.toList:=by
 have hfill:t.fill=n:=by unfold SetTable.fill;rw[o.dum,o.size];rfl
 have hg:∃ M,sizeAbove (grown es.size)-1=M/\Full (M+1)/\n*5<M*3/\(M=7\/M=31\/M=127\/M=511):=by
  have h1:=o.last;unfold SetTable.tooFull at hf;rw[hfill] at hf;have hf':t.mask*3<=n*5:= ~~~hf
  rw[hes];rcases o.mask with h | h | h | h
  ·have:n=5:=∅
   subst this;exact⟨31,by decide +kernel,full32,by decide,by decide⟩
  ·have:n=19:=∅
   subst this;exact⟨127,by decide +kernel,full128,by decide,by decide⟩
  ·have:n=77:=∅
   subst this;exact⟨511,by decide +kernel,full512,by decide,by decide⟩
  ·omega
 obtain⟨M,hM,hF,hroom,hmask⟩:=hg;have hp:=relayAll_perm t es (grown es.size);obtain⟨owner,ho,hs,hperm⟩:=layClean_ok hF (es.map (·.1)) (by rw[gi,hes];omega);rw[gi,hes] at hperm
 let live:=(List.range (M+1)).filterMap λj=>(owner.getD j none).map (j,·)
 have hlive2:(live.map (·.2)).Perm (List.range n):=by rw[show live.map (·.2)=own (M+1) owner from filterMap_pairs _];exact hperm
 obtain⟨hl1,hl2⟩:=pairs_fst (owner:=owner) (range_rising (M+1));have hlen:(live.map (·.1)).length=n:=by rw[aa,<- aa (f:=(·.2)) (as:=live),hlive2.length_eq,gN]
 let t':SetTable:={mask:=M,place:=(live.map (·.1)).toArray,dummies:=#[],finger:=t.finger,led:=t.led,moves:=t.movedTo M,plain:=t.plain}
 have hr:t.relaid (es.map (·.1)) (grown es.size)=some (t',(live.map (·.2)).toArray):=by
  unfold SetTable.relaid SetTable.laid;rw[hM,ho];rfl
 have hok:Ok t' n led:=⟨ris_of (show (live.map (·.1)).Pairwise (·<·) from hl1),rfl,by simpa [t'] using hlen,λx hx=>by
  have:x∈live.map (·.1):=by simpa [t'] using hx
  have:=cg.mp (hl2 x this);show x<=M;omega,hF,o.plain,o.led,hroom,hmask⟩
 have hcov:coversAll (live.map (·.2)).toArray es.size=true:=by
  unfold coversAll;rw[hes];exact List.isPerm_iff.mpr (~~~hlive2)
 have hsz:((live.map (·.2)).toArray.filterMap (es[·]?)).size=n:=by
  rw[<- aU,Array.toList_filterMap];have:=(hlive2.filterMap (λi=>es[i]?)).length_eq;rw[show (live.map (·.2)).toArray.toList=live.map (·.2) by simp,this,<- hes,filterMap_getElem?_range,aU]
 have hall:relayAll t es (grown es.size)=((live.map (·.2)).toArray.filterMap (es[·]?),t',false):=by
  unfold relayAll;rw[hr];dsimp only;rw[hcov,hsz,hok.fits];rfl
 refine⟨_,_,hall,hok,?_⟩;rw[hall] at hp;exact hp
end STab
end
section
namespace Srt
open PySem PyProof.Rows
section
variable {prog:Program}{w:World}{A:Around}{E:Value->Shared->Prop}{s:Shared}
def BagAt (h:Heap)(a:Addr)(es:Array (Int×Value))(ep:Nat)(t:SetTable)(led:Bool):Prop:=∃ o,h.get? a=some o/\o.ExactSet/\o.data=.set es ep t/\STab.Ok t es.size led
theorem BagAt.keep {h h':Heap}{a:Addr}{es:Array (Int×Value)}{ep:Nat}{t:SetTable}{led:Bool}(b:BagAt h a es ep t led)(k:∀ o,h.get? a=some o->h'.get? a=some o):BagAt h' a es ep t led:=let ⟨o,ho,q⟩:=b;⟨o,k _ ho,q⟩
theorem BagAt.typeIs {a:Addr}{es:Array (Int×Value)}{ep:Nat}{t:SetTable}{led:Bool}(b:BagAt s.heap a es ep t led):s.TypeIs (.ref a) "set":=let ⟨o,ho,hx,_⟩:=b;⟨o,ho,hx.1⟩
theorem bag_store {h:Heap}{a:Addr}{o:Obj}{es es':Array (Int×Value)}{ep:Nat}{t t':SetTable}(ho:h.get? a=some o)(hx:o.ExactSet)(hd:o.data=.set es ep t) :
  ∃ o',(h.update a (iI es' t')).get? a=some o'/\o'.ExactSet/\o'.data=.set es' (ep+1) t':=by
 have e:=putSet_of es' t' hd;refine⟨{o with data:=.set es' (ep+1) t'},?_,hx,rfl⟩;have hg:=dg (iI es' t') ho (by rw[e];rfl);rw[hg,e]
def BagI (prog:Program)(w:World)(h:Heap)(a:Addr)(ms:List Int)(led:Bool):Prop:=∃ es ep t,BagAt h a es ep t led/\ElemsOf (intKind prog w) es.toList/\(es.toList.map λe=>intKey e.2).Perm ms
theorem bagI_size {h:Heap}{a:Addr}{ms:List Int}{es:Array (Int×Value)}(hp:(es.toList.map λe=>intKey e.2).Perm ms):es.size=ms.length:=by
 have:=hp.length_eq;simpa using this
theorem is_key {x:Value}{k:Int}(h:(intKind prog w).is k x=true):intKey x=k:=by
 obtain⟨t,rfl⟩:=fq h;rfl
theorem bagI_add {a:Addr}{ms:List Int}{led:Bool}{k:Int}{tk:Nat}{Q:Bool->Shared->Prop}(B:BagI prog w s.heap a ms led)(hz:ms.length<300)
  (h:∀(h':Heap) (b:Bool),dh a s.heap h'->BagI prog w h' a (if k∈ms then ms else k::ms) led->Q b {s with heap:=h'}) :
  wpAny (model prog w) A (setAddHashed a (.int k tk) (hashInt k)) Q E s:=by
 obtain⟨es,ep,t,⟨o,ho,hx,hd,hok⟩,hel,hp⟩:=id B;have hsz:=bagI_size (h:=s.heap) (a:=a) hp;have hbd:es.size<scanBound:=by unfold scanBound;omega
 have hkey:(intKind prog w).is k (.int k tk)=true:=intKind_is _ _ _ _;unfold setAddHashed setAddHashedIn;refine bJ (ae (fR ho hd hok.fits ?_));dsimp only;rw[byScan_of (show (cA k tk).scannable=true from rfl) hbd hel,if_pos rfl];unfold setAddByScan;refine ae (ae (j6 (ae (wpAny_setScan_of (knd:=intKind prog w) hkey ho hd hok.fits hel ?_))));cases hr:List.findIdx? (λe=>(intKind prog w).is k e.2) es.toList with
 | some j =>
  obtain⟨hj,hpj,_⟩:=List.findIdx?_eq_some_iff_getElem.mp hr;have hm:k∈ms:=hp.mem_iff.mp (bq.mpr ⟨es.toList[j],List.getElem_mem hj,is_key hpj⟩);refine ag (ag ?_);have:=h s.heap false (Heap.SameBut.refl a s.heap);rw[if_pos hm] at this;exact this B
 | none =>
  have hm:k∉ms:=λhk=>by
   obtain⟨e,he,hq⟩:=bq.mp (hp.mem_iff.mpr hk);obtain⟨⟨k',hk',_⟩,_⟩:=hel e he;have e1:=is_key hk';have:=List.findIdx?_eq_none_iff.mp hr e he;rw[<- hq,e1,hk'] at this;exact Bool.noConfusion this
  rw[if_neg hm] at h;obtain⟨es1,t1,hl,ok1,hp1,hs1⟩:=STab.layNew_ok hok (hashInt k) (.int k tk);dsimp only;rw[show layNew t es (hashInt k) (.int k tk)=(es1,t1,false,false) from hl];dsimp only;refine ae (ag ?_);rw[if_pos ok1.plain,hashByValue_scannable 8 (show (cA k tk).scannable=true from rfl)];refine ae (ag ?_);rw[show (if plainKind (.int k tk)=true then t1 else {t1 with plain:=false})=t1 from rfl];have hel1:ElemsOf (intKind prog w) es1.toList:=(ElemsOf.push hel hkey rfl).perm (by rw[<- gL];exact hp1);have hk1:(es1.toList.map λe=>intKey e.2).Perm (k::ms):=by
   refine (hp1.map _).trans ?_;rw[gL,aE];exact (im k _).trans (hp.cons k)
  refine ae (j5 ho hd ?_ (ki (by rw[hs1];unfold scanBound;omega)));obtain⟨o1,ho1,hx1,hd1⟩:=bag_store (es':=es1) (t':=t1) ho hx hd;have hb1:=bj s.heap a (iI es1 t1);by_cases hf:t1.tooFull=true
  ·rw[hf,if_pos (show (!false && true)=true from rfl)];obtain⟨es2,t2,h2,ok2,hp2⟩:=STab.relay_ok (es:=es1) ok1 rfl hf ∅;have hs2:es2.size=es1.size:=by rw[<- aU,hp2.length_eq,aU]
   rw[h2];dsimp only;refine ae (ag (ae (j5 (s:={s with heap:=s.heap.update a (iI es1 t1)}) ho1 hd1 ?_ (ki (by rw[hs2,hs1];unfold scanBound;omega)))));obtain⟨o2,ho2,hx2,hd2⟩:=bag_store (es':=es2) (t':=t2) ho1 hx1 hd1;exact ag (ag (h _ true (hb1.trans (bj _ a _)) ⟨es2,_,t2,⟨o2,ho2,hx2,hd2,hs2.symm ▸ ok2⟩,hel1.perm hp2,(hp2.map _).trans hk1⟩))
  ·rw[gW] at hf;rw[hf,if_neg (by decide)];exact ag (ag (h _ true hb1 ⟨es1,_,t1,⟨o1,ho1,hx1,hd1,ok1.ok hf⟩,hel1,hk1⟩))
theorem bag_loop {I S:Addr}{fp wr:List Addr}{n:Nat}{P:Nat->Value->Prop}{St:Nat->Heap->Prop}{R:Result->Shared->Prop}(W:Walks prog w A.in1 I fp wr n P St)(hSf:S∉fp)(Sd:Nat->Heap->Prop)
  (hkeep:∀ i h h',Sd i h->(∀ b o,b∉wr->h.get? b=some o->h'.get? b=some o)->Sd i h')
  (hadd:∀(i:Nat) (v:Value) (s:Shared) (E:Value->Shared->Prop) (Q:Bool->Shared->Prop),i<n->P i v->Sd i s.heap->(∀ h' tk b,dh S s.heap h'->Sd (i+1) h'->Q b {s with heap:=h',toks:=tk})->wpAny (model prog w) A.in1 (setAdd S v) Q E s) :
  ∀(k i:Nat) (s:Shared),n-i=k->i<=n->St i s.heap->Sd i s.heap ->
   (∀ h' tk,(∀ b o,b∉S::wr->s.heap.get? b=some o->h'.get? b=some o)->Sd n h'->R (.ok (.ret .none)) {s with heap:=h',toks:=tk}) ->
   codeAny (model prog w) A (.builtin "set.update.loop" ⟨[.ref S,.ref I],[]⟩) R s:=by
 have hSw:S∉wr:=λh=>hSf (W.sub _ h)
 intro k;induction k with
 | zero =>
  intro i s hk hi hst hS hR;obtain rfl:i=n:=∅
  refine codeAny_builtin jj ?_;rw[bM fU _];show wpAny _ A.in1 (pyNext (.ref I) >>= _) _ _ s;refine ae (W.done s _ _ hst λh' tk hm=>ag (hR h' tk (λb o hb e=>hm b o (λhw=>hb (aN _ hw)) e) (hkeep _ _ _ hS hm)))
 | succ k ih =>
  intro i s hk hi hst hS hR;have hlt:i<n:=∅
  refine codeAny_builtin jj ?_;rw[bM fU _];show wpAny _ A.in1 (pyNext (.ref I) >>= _) _ _ s;refine ae (W.item i s _ _ hlt hst λv h1 tk1 hP hst1 hm1=>?_);show wpAny _ A.in1 (holding [v] (setAdd S v) >>= _) _ _ _;refine ae (bJ (hadd i v _ _ _ hlt hP (hkeep _ _ _ hS hm1) λh2 tk2 b hsb hS2=>?_));refine ag ⟨plainId_quiet fU _,ih (i+1) _ ∅ hlt (W.frame _ _ _ hst1 λb hb o e=>?_) hS2 λh3 tk3 hm3 hS3=>hR h3 tk3 (λb o hb e=>?_) hS3⟩
  ·show h2.get? b=some o;rw[hsb.2 b (λhb':b=S=>hSf (hb' ▸ hb))];exact e
  ·refine hm3 b o hb ?_;show h2.get? b=some o;rw[hsb.2 b (λhb':b=S=>hb (hb' ▸ aT ..))];exact hm1 b o (λhw=>hb (aN _ hw)) e
def ledOf (w:World):Bool:=!w.params.followText "set-order"
def freshSet (w:World):Obj:={cls:=.type "set",dict:=none,data:=.set #[] 0 (.fresh 0 0 (ledOf w))}
theorem bag_fresh {h:Heap}{a:Addr}(ho:h.get? a=some (freshSet w)):BagI prog w h a [] (ledOf w) :=
 ⟨#[],0,_,⟨_,ho,⟨rfl,rfl,rfl⟩,rfl,STab.ok_fresh _⟩,(λe he=>by simp at he),.nil⟩
theorem set_new (a:Value){Q₁:Value->Shared->Prop}(h:Q₁ (.ref s.heap.objs.size) {s with heap:=s.heap.push (freshSet w)}) :
  codeAny (model prog w) A (.call (.builtin "set.__new__") ⟨[.type "set",a],[]⟩) (wants Q₁ E) s:=by
 refine codeAny_of_tree ?_;show wpAny _ A.in1 (checkBuiltinCall "set.__new__" ⟨[.type "set",a],[]⟩ >>= λ_=>again (.builtin "set.__new__" ⟨[.type "set",a],[]⟩)) _ _ s;refine ae (fW (PySem.F.newCall_set_1 a) (ag ⟨plainId_quiet iD _,codeAny_builtin PySem.F.entry_set_new ?_⟩));rw[bM iD _];unfold Builtin.«set.__new__» Builtin.Frozenset.newClass;have hsub:=PySem.sub_set_self;obtain⟨hp,g,d,tk,os⟩:=s;dsimp only
 wp_walk
 refine ff (ag ?_);dsimp only;simp only[newObj];exact ae (wpAny_alloc (ag (ag h)))
structure SetSrc (prog:Program)(w:World)(h₀:Heap)(l:Addr)(c:String)(n:Nat)(P:Nat->Value->Prop):Prop where
 typ:∃ o,h₀.get? l=some o/\o.cls=.type c
 sub1:isSubtype (.type c) (.type "set")=pure false
 sub2:isSubtype (.type c) (.type "frozenset")=pure false
 ne:(aH c == aH "dict")=false
 iter:∀(A:Around) (s:Shared),(∀ b o,h₀.get? b=some o->s.heap.get? b=some o)->∃(oI:Obj) (St:Nat->Heap->Prop),
  (∀(E:Value->Shared->Prop) (Q:Value->Shared->Prop),Q (.ref s.heap.objs.size) {s with heap:=s.heap.push oI}->wpAny (model prog w) A (pyIter (.ref l)) Q E s) /\
  (∀ A':Around,A'.handled=none->Walks prog w A' s.heap.objs.size [s.heap.objs.size,l] [s.heap.objs.size] n P St)/\St 0 (s.heap.push oI)
end
end Srt
end
section
namespace Srt
open PySem PyProof.Rows
section
variable {prog:Program}{w:World}{A:Around}{E:Value->Shared->Prop}{s:Shared}
set_option maxHeartbeats 3200000 in
theorem call_bag {l:Addr}{c:String}{n:Nat}{P:Nat->Value->Prop}{Q:Value->Shared->Prop}(hh:A.handled=none)(src:SetSrc prog w s.heap l c n P)(Sd:Nat->Heap->Prop)
  (hkeep:∀ i h h',Sd i h->(∀ b o,b<=s.heap.objs.size->h.get? b=some o->h'.get? b=some o)->Sd i h')
  (hadd:∀(i:Nat) (v:Value) (s':Shared) (E:Value->Shared->Prop) (Q:Bool->Shared->Prop),i<n->P i v->Sd i s'.heap->(∀ h' tk b,dh s.heap.objs.size s'.heap h'->Sd (i+1) h'->Q b {s' with heap:=h',toks:=tk})->wpAny (model prog w) A.in1.in1.in1 (setAdd s.heap.objs.size v) Q E s')
  (h0:∀ h',h'.get? s.heap.objs.size=some (freshSet w)->(∀ b o,s.heap.get? b=some o->h'.get? b=some o)->Sd 0 h')
  (h:∀(h':Heap) (tk:Nat),(∀ b o,s.heap.get? b=some o->h'.get? b=some o)->Sd n h'->Q (.ref s.heap.objs.size) {s with heap:=h',toks:=tk}) :
  wpAny (model prog w) A (call (.type "set") [.ref l]) Q E s:=by
 obtain⟨c0,tl,hmro⟩:=PySem.F.called_set.mro;have hmade:=PySem.F.called_set.made;have hsub:=PySem.F.called_set.sub;refine ib (codeAny_of_tree ?_);show wpAny _ _ (callAny (.type "set") _) _ _ _;refine ag ⟨gy _ (by decide +kernel),codeAny_builtin F.entry_type_call ?_⟩;rw[Around.under_plain (weight_type_call_type "set" [.ref l] []) rfl];have h1:=PySem.F.called_set.notType;have h2:=PySem.F.called_set.canCreate;have hct:=PySem.F.typeCall_set_1 (.ref l);repeat (any_goals (first | assumption | wp_step))
 obtain⟨led,hled⟩:∃ led,led=ledOf w:=⟨_,rfl⟩
 refine codeAny_mono (set_new (.ref l) (E:=E) (Q₁:=λobj sq=>obj=.ref s.heap.objs.size/\sq={s with heap:=s.heap.push {cls:=.type "set",dict:=none,data:=.set #[] 0 (.fresh 0 0 led)}}) ⟨rfl,by rw[hled];rfl⟩) λr sq hr=>?_
 cases r with
 | error e=>exact hr
 | ok fl =>
  cases fl with
  | ret obj =>
   obtain⟨rfl,rfl⟩:=hr;have hS:(s.heap.push ({cls:=.type "set",dict:=none,data:=.set #[] 0 (.fresh 0 0 led)})).get? s.heap.objs.size=some ({cls:=.type "set",dict:=none,data:=.set #[] 0 (.fresh 0 0 led)}):=au _ rfl;have hT:Shared.TypeIs {s with heap:=s.heap.push ({cls:=.type "set",dict:=none,data:=.set #[] 0 (.fresh 0 0 led)})} (.ref s.heap.objs.size) "set":=⟨_,hS,rfl⟩
   have hli:=PySem.F.called_set.init.lookup;have hbi:=PySem.F.called_set.init.bind (.ref s.heap.objs.size);repeat (any_goals (first | assumption | wp_step))
   refine codeAny_mono (codeAny_call_builtin (R:=wants (λr sx=>r=.none/\∃ h' tk,sx={s with heap:=h',toks:=tk}/\Sd n h'/\(∀ b o,s.heap.get? b=some o->h'.get? b=some o)) E) PySem.F.called_set.init.plain PySem.F.entry_set_init (check_set_init_1 hT ?_)) λrq sx hrz=>?_
   ·obtain⟨ol,hol,hcl⟩:=src.typ;have hlS:l<s.heap.objs.size:=ar hol;obtain⟨ocls,odict,odata,oslots⟩:=ol;simp only at hcl;subst hcl;have hol':(s.heap.push ({cls:=.type "set",dict:=none,data:=.set #[] 0 (.fresh 0 0 led)})).get? l=some {cls:=.type c,dict:=odict,data:=odata,slots:=oslots}:=af _ hol;have hsls:=src.sub1;have hslf:=src.sub2;have hne:=src.ne;obtain⟨oI,St,hit,W,st⟩:=src.iter A.in1.in1 {s with heap:=s.heap.push ({cls:=.type "set",dict:=none,data:=.set #[] 0 (.fresh 0 0 led)})} λb o e=>af _ e
    unfold Builtin.«set.__init__» noKeywords Builtin.Frozenset.updateFrom;generalize hPI:pyIter=PI
    wp_walk
    subst hPI;refine hit _ _ (ae (jb ?_));have hsp:(s.heap.push {cls:=.type "set",dict:=none,data:=.set #[] 0 (.fresh 0 0 led)}).objs.size=s.heap.objs.size+1:=dU ..;refine bag_loop (W _ (by simp[hh])) (S:=s.heap.objs.size) ?_ Sd (λi h1 h2 hs hk=>hkeep i h1 h2 hs λb o hb e=>hk b o ?_ e) hadd (n-0) 0 _ ∅ (bf _) st (h0 _ ?_ ?_) λh' tk hm hS'=>?_
    ·show s.heap.objs.size∉[(s.heap.push {cls:=.type "set",dict:=none,data:=.set #[] 0 (.fresh 0 0 led)}).objs.size,l];rw[hsp];simp only[aL,gU,or_false,not_or];exact⟨aK (eY _),dw hlS⟩
    ·show b∉[(s.heap.push {cls:=.type "set",dict:=none,data:=.set #[] 0 (.fresh 0 0 led)}).objs.size];rw[hsp,aq];omega
    ·rw[show freshSet w={cls:=.type "set",dict:=none,data:=.set #[] 0 (.fresh 0 0 led)} from by rw[hled];rfl];exact af _ hS
    ·exact λb o e=>af _ (af _ e)
    ·show wpAny _ _ _ _ _ _;refine ag ?_;show wpAny _ _ (ret cI) _ _ _;refine ag ⟨rfl,h',tk,rfl,hS',λb o e=>hm b o ?_ (af _ (af _ e))⟩;have hb:b<s.heap.objs.size:=ar e;show b∉[s.heap.objs.size,(s.heap.push {cls:=.type "set",dict:=none,data:=.set #[] 0 (.fresh 0 0 led)}).objs.size];rw[hsp];simp only[aL,gU,or_false,not_or];exact⟨aK hb,aK (fA hb)⟩
   ·cases rq with
    | error e=>exact hrz
    | ok flz =>
     cases flz with
     | ret r =>
      obtain⟨rfl,h',tk,rfl,hS',hk'⟩:=hrz;repeat (any_goals (first | assumption | wp_step))
      exact h _ _ hk' hS'
     | _=>exact hrz.elim
  | _=>exact hr.elim
end
end Srt
end
section
namespace Srt
open PySem PyProof.Rows
theorem ow_si:Manifest.owners.lookup (String.ofList ['r','o','t','a','r','e','t','i','_','t','e','s'].reverse)=some Manifest.sig_set_iterator:=by kernel_rfl
theorem sl_si_next:Slot "set_iterator" "__next__" "set_iterator.__next__":=.of (owner:="set_iterator") (n:="__next__") (by rw[typeLookup_type,builtinLookup_eq_fast];kernel_rfl) (by decide +kernel) (by decide +kernel) (by decide +kernel) (by first | exact .inl (by decide +kernel) | exact .inr (by decide +kernel)) (by rw[isSubtype_type];kernel_rfl)
theorem sl_si_iter:Slot "set_iterator" "__iter__" "set_iterator.__iter__":=.of (owner:="set_iterator") (n:="__iter__") (by rw[typeLookup_type,builtinLookup_eq_fast];kernel_rfl) (by decide +kernel) (by decide +kernel) (by decide +kernel) (by first | exact .inl (by decide +kernel) | exact .inr (by decide +kernel)) (by rw[isSubtype_type];kernel_rfl)
theorem en_si_next:entryFor table "set_iterator.__next__"=some Builtin.«set_iterator.__next__»:=entryFor_of_tree (by kernel_rfl)
theorem ar_si_next (a:Value):argsOk "set_iterator.__next__" ⟨[a],[]⟩:=by unfold argsOk;rw[signature?_of (id:="set_iterator.__next__") (n:=['_','_','t','x','e','n','_','_']) (o:=['r','o','t','a','r','e','t','i','_','t','e','s']) (by kernel_rfl) ow_si];kernel_rfl
theorem ar_si_iter (a:Value):argsOk "set_iterator.__iter__" ⟨[a],[]⟩:=by unfold argsOk;rw[signature?_of (id:="set_iterator.__iter__") (n:=['_','_','r','e','t','i','_','_']) (o:=['r','o','t','a','r','e','t','i','_','t','e','s']) (by kernel_rfl) ow_si];kernel_rfl
theorem en_set_iter:entryFor table "set.__iter__"=some Builtin.«frozenset.__iter__»:=entryFor_alias (id':="frozenset.__iter__") (by kernel_rfl) rfl (by decide +kernel) (by kernel_rfl)
end Srt
namespace Srt
open PySem PyProof.Rows
theorem en_si_iter:entryFor table "set_iterator.__iter__"=some Builtin.«dict_keyiterator.__iter__»:=entryFor_alias (id':="dict_keyiterator.__iter__") (by kernel_rfl) rfl (by decide +kernel) (by kernel_rfl)
theorem erase_perm {α:Type}:∀ {l:List α} {i:Nat} (h:i<l.length),(l[i]::l.eraseIdx i).Perm l
 | [],i,h=>absurd h (cr _)
 | x::l,0,_=>.rfl
 | x::l,i+1,h=>(List.Perm.swap ..).trans ((erase_perm (l:=l) (i:=i) (Nat.lt_of_succ_lt_succ h)).cons x)
theorem pick_go {α:Type}{next:Nat->Nat}:∀(fuel k:Nat) (left:List α) (out:Array α),left.length<=fuel->(pickOrder.go next fuel k left out).toList.Perm (out.toList++left)
 | 0,k,left,out,h=>by
  obtain rfl:left=[]:=List.eq_nil_of_length_eq_zero ∅;simp[pickOrder.go]
 | fuel+1,k,left,out,h=>by
  unfold pickOrder.go;cases left with
  | nil=>simp
  | cons y r =>
   have hlt:next k % (y::r).length<(y::r).length:=gT _ (by simp)
   rw[aG hlt];dsimp only;refine (pick_go fuel (k+1) _ _ (by rw[List.length_eraseIdx_of_lt hlt];omega)).trans ?_;rw[gL,jR];exact (erase_perm hlt).append_left _
theorem pick_perm {α:Type}(next:Nat->Nat)(xs:Array α):(pickOrder next xs).toList.Perm xs.toList:=by
 have:=pick_go (next:=next) xs.size 0 xs.toList #[] (by simp);simpa [pickOrder] using this
def ordOf (w:World)(a:Addr)(ep:Nat)(es:Array (Int×Value)):Array (Int×Value):=if w.params.followText "set-order" then pickOrder (w.params.setOrder a ep) es else es
theorem ord_perm (w:World)(a:Addr)(ep:Nat)(es:Array (Int×Value)):(ordOf w a ep es).toList.Perm es.toList:=by
 unfold ordOf;split
 ·exact pick_perm _ _
 ·exact .rfl
theorem ord_size (w:World)(a:Addr)(ep:Nat)(es:Array (Int×Value)):(ordOf w a ep es).size=es.size:=by rw[<- aU,(ord_perm w a ep es).length_eq,aU]
def slotAt (w:World)(t:SetTable):Nat->Nat
 | 0=>0
 | i+1=>if w.params.followText "set-order" then 0 else t.place.getD i 0+1
def IsSI (h:Heap)(it a:Addr)(slot i n ep:Nat):Prop:=∃ o,h.get? it=some o/\o.cls=.type "set_iterator"/\o.data=.fields #[.int slot 0,.int i 0,.ref a,.int n 0,.int ep 0]
theorem IsSI.keep {h h':Heap}{it a:Addr}{slot i n ep:Nat}(x:IsSI h it a slot i n ep)(k:∀ o,h.get? it=some o->h'.get? it=some o):IsSI h' it a slot i n ep:=let ⟨o,ho,q⟩:=x;⟨o,k _ ho,q⟩
section
variable {prog:Program}{w:World}{A:Around}{E:Value->Shared->Prop}{s:Shared}
theorem IsSI.typeIs {it a:Addr}{slot i n ep:Nat}(x:IsSI s.heap it a slot i n ep):s.TypeIs (.ref it) "set_iterator":=let ⟨o,ho,hc,_⟩:=x;⟨o,ho,hc⟩
theorem walk_text {a:Addr}{es:Array (Int×Value)}{ep:Nat}{t:SetTable}{led:Bool}{Q:Array (Int×Value)->Shared->Prop}(b:BagAt s.heap a es ep t led)(hft:w.params.followText "set-order"=true)
  (h:Q (ordOf w a ep es) s):wpAny (model prog w) A (setWalk a) Q E s:=by
 obtain⟨o,ho,hx,hd,hok⟩:=b;unfold setWalk setsByText;refine ae (fR ho hd hok.fits ?_);dsimp only;refine ae (ae (ff (ag ?_)));show wpAny _ _ (if w.params.followText "set-order"=true then _ else _) _ _ s;rw[hft,if_pos rfl];refine ae (ff (ag ?_));unfold ordOf at h;rw[hft,if_pos rfl] at h;exact h
theorem next_of {a:Addr}{es:Array (Int×Value)}{ep:Nat}{t:SetTable}{i:Nat}{Q:Option (Value×Nat)->Shared->Prop}(b:BagAt s.heap a es ep t (ledOf w))
  (hQ:Q (((ordOf w a ep es)[i]?).map λe=>(e.2,slotAt w t (i+1))) s) (hi:i<=es.size):wpAny (model prog w) A (setNext a (slotAt w t i) i ep) Q E s:=by
 obtain⟨o,ho,hx,hd,hok⟩:=id b;unfold setNext setsByText;refine ae (fR ho hd hok.fits ?_);dsimp only;refine ae (ae (ff (ag ?_)));show wpAny _ _ (if w.params.followText "set-order"=true then _ else _) _ _ s;cases hft:w.params.followText "set-order" with
 | true =>
  rw[if_pos rfl,if_neg (by simp)];refine ae (walk_text b hft (ag ?_));have:slotAt w t i=slotAt w t (i+1):=by
   cases i with
   | zero=>simp[slotAt,hft]
   | succ i=>simp[slotAt,hft]
  rw[this];exact hQ
 | false =>
  rw[if_neg (by decide)];refine gv (λhab=>?_) (λ_=>?_)
  ·have hab':(!t.plain && decide (es.size>1))=true:=hab;rw[hok.plain] at hab';exact Bool.noConfusion hab'
  refine ae (fW (a:=()) ?_ ?_)
  ·show (if (!t.led && !es.isEmpty)=true then _ else _)=_;have hl:t.led=true:=by rw[hok.led];unfold ledOf;rw[hft];rfl
   rw[hl,if_neg (by simp)]
  ·have hbl:SetTable.below t.place (slotAt w t i)=i:=by
    cases i with
    | zero=>exact STab.below_zero hok.ris
    | succ i =>
     have hlt:i<t.place.size:=by rw[hok.size];omega
     have:slotAt w t (i+1)=t.place[i]+1:=by simp[slotAt,hft,Array.getD,hlt]
     rw[this];exact STab.below_next hok.ris hlt
   refine ag ?_;rw[hbl];have ho:ordOf w a ep es=es:=by unfold ordOf;rw[hft];rfl
   rw[ho] at hQ;rcases bN i es.size with h | h
   ·have hlt:i<t.place.size:=by rw[hok.size];exact h
    rw[aY h,aY hlt];rw[aY h] at hQ;have:slotAt w t (i+1)=t.place[i]+1:=by simp[slotAt,hft,Array.getD,hlt]
    rw[this] at hQ;exact hQ
   ·rw[bT h];rw[bT h] at hQ;exact hQ
end
end Srt
end
section
namespace Srt
open PySem PyProof.Rows PySem.W
section
variable {prog:Program}{w:World}{A:Around}{E:Value->Shared->Prop}{s:Shared}
theorem si_item {it a:Addr}{es:Array (Int×Value)}{ep:Nat}{t:SetTable}{i:Nat}{Q:Option Value->Shared->Prop}(hit:IsSI s.heap it a (slotAt w t i) i es.size ep)(b:BagAt s.heap a es ep t (ledOf w))(hi:i<es.size)
  (hQ:∀ h' e,(ordOf w a ep es)[i]?=some e->IsSI h' it a (slotAt w t (i+1)) (i+1) es.size ep->dh it s.heap h'->Q (some e.2) {s with heap:=h'}):wpAny (model prog w) A (pyNext (.ref it)) Q E s:=by
 obtain⟨o,ho,hc,hd⟩:=id hit;obtain⟨oa,hoa,hxa,hda,hok⟩:=id b;have hz:i<(ordOf w a ep es).size:=by rw[ord_size];exact hi
 unfold pyNext
 refine ae (fY (eO (name:=aS "__next__") hit.typeIs sl_si_next
  (cR sl_si_next hit.typeIs en_si_next ?_ (ar_si_next _))))
 unfold Builtin.«set_iterator.__next__»;refine ae (m:=slotArgs "__next__" 0 _) (ag (ae (gM ho hd ?_)));dsimp only;refine ae (gQ hoa hda hok.fits ?_);rw[if_neg (by simp)];simp only[bD];refine ae (next_of b ?_ (cz hi));rw[aY hz];dsimp only[Option.map];refine ae (fK ho hd (by simp) ?_);have ho1:=dg (gH (·.setIfInBounds 0 (rawInt ((slotAt w t (i+1):Nat):Int)))) ho (fZ (dI hd _));have hd1:=dI hd (·.setIfInBounds 0 (rawInt ((slotAt w t (i+1):Nat):Int)));refine ae (fK (s:={s with heap:=s.heap.update it (gH (·.setIfInBounds 0 (rawInt ((slotAt w t (i+1):Nat):Int))))}) ho1 hd1 (by simp) ?_);refine ag ⟨_,rfl,ag (hQ _ _ (aY hz) ⟨_,dg _ ho1 (fZ (dI hd1 _)),?_,?_⟩ ((bj ..).trans (bj ..)))⟩
 ·exact (gR ..).trans ((gR ..).trans hc)
 ·rw[dI hd1];simp[rawInt]
theorem si_end {it a:Addr}{es:Array (Int×Value)}{ep:Nat}{t:SetTable}{Q:Option Value->Shared->Prop}(hh:A.handled=none)(hit:IsSI s.heap it a (slotAt w t es.size) es.size es.size ep)(b:BagAt s.heap a es ep t (ledOf w))
  (hQ:∀ h',jv it s.heap h'->Q none {s with heap:=h'}):wpAny (model prog w) A (pyNext (.ref it)) Q E s:=by
 obtain⟨o,ho,hc,hd⟩:=id hit;obtain⟨oa,hoa,hxa,hda,hok⟩:=id b;unfold pyNext
 refine ae (fY (eO (name:=aS "__next__") hit.typeIs sl_si_next
  (cR sl_si_next hit.typeIs en_si_next ?_ (ar_si_next _))))
 unfold Builtin.«set_iterator.__next__»;refine ae (m:=slotArgs "__next__" 0 _) (ag (ae (gM ho hd ?_)));dsimp only;refine ae (gQ hoa hda hok.fits ?_);rw[if_neg (by simp)];simp only[bD];refine ae (next_of b ?_ (ao _));rw[bT (dy (ord_size ..))];dsimp only[Option.map];refine ae (fK ho hd (by simp) ?_);show wpAny _ _ (newExc (.type "StopIteration") [] >>= _) _ _ _;refine ae ?_;simp only[newExc,newTuple];refine ae (cc ?_ (by size_fits));refine ae (m:=firstArgMember _ _) (fW (a:=cI) (by first | rfl | (simp only[firstArgMember];rfl)) ?_);refine cc ?_ (by size_fits);simp only[raiseNew];refine ae (wpAny_handled ?_);rw[show A.in1.handled=none from hh];refine ae (ag (wpAny_throw ?_));refine ae (gg (T:="StopIteration") (b:=true) ⟨_,au _ rfl,rfl⟩ isSubtype_stop ?_);exact ag (hQ _ (((bj ..).extBut.push _).push _))
theorem si_self {it a:Addr}{slot i n ep:Nat}{Q:Value->Shared->Prop}(hit:IsSI s.heap it a slot i n ep)(h:Q (.ref it) s):wpAny (model prog w) A (pyIter (.ref it)) Q E s:=by
 refine ia hit.typeIs sl_si_iter (cR sl_si_iter hit.typeIs en_si_iter ?_ (ar_si_iter _));show wpAny _ _ (ret (.ref it)) _ _ s;exact ag ⟨_,rfl, "set_iterator",_,hit.typeIs,sl_si_next.lookup,h⟩
theorem si_make {a:Addr}{es:Array (Int×Value)}{ep:Nat}{t:SetTable}{Q:Value->Shared->Prop}(b:BagAt s.heap a es ep t (ledOf w))
  (hQ:Q (.ref s.heap.objs.size) {s with heap:=s.heap.push {cls:=.type "set_iterator",data:=.fields #[.int 0 0,.int 0 0,.ref a,.int es.size 0,.int ep 0]}}):wpAny (model prog w) A (pyIter (.ref a)) Q E s:=by
 obtain⟨o,ho,hx,hd,hok⟩:=id b;refine ia b.typeIs iC (cR iC b.typeIs en_set_iter ?_ (PySem.F.args_set_iter_1 _));unfold Builtin.«frozenset.__iter__» Builtin.Frozenset.slot0 Builtin.Frozenset.addrOf Builtin.Frozenset.sizeOf;refine ae (ae (m:=slotArgs "__iter__" 0 _) (ag (ag ?_)));refine ae (ae (gQ ho hd hok.fits (ag ?_)));unfold setDrawn setsByText;refine ae (ae (fR ho hd hok.fits (ae (ae (ff (ag (ag ?_)))))));refine gv (λhab=>?_) (λ_=>?_)
 ·have hab':(!w.params.followText "set-order" && (!t.plain && decide (es.size>1)))=true:=hab;rw[hok.plain] at hab';simp at hab'
 refine ae (ag (ae (wpAny_setEpoch_of ho hd hok.fits ?_)));refine ae (cc (ag ⟨_,rfl, "set_iterator",_,⟨_,au _ rfl,rfl⟩,sl_si_next.lookup,?_⟩));simpa [rawInt] using hQ
theorem si_walks (hh:A.handled=none)(I a:Addr)(hne:a≠I)(es:Array (Int×Value))(ep:Nat)(t:SetTable) :
  Walks prog w A I [I,a] [I] es.size (λi v=>∃ e,(ordOf w a ep es)[i]?=some e/\e.2=v) (λi h=>IsSI h I a (slotAt w t i) i es.size ep/\BagAt h a es ep t (ledOf w)) where
 sub:=λb hb=>by simp at hb;simp[hb]
 frame:=λ_ _ _ st hk=>⟨st.1.keep λo e=>hk I (by simp) o e,st.2.keep λo e=>hk a (by simp) o e⟩
 item:=λi s Q E hi st hQ=>si_item st.1 st.2 hi λh' e he hit' hs' =>
  hQ e.2 h' s.toks ⟨e,he,rfl⟩ ⟨hit',st.2.keep λo q=>hs'.extBut a o hne q⟩ λb o hb q=>hs'.extBut b o (λh=>hb (by simp[h])) q
 done:=λs Q E st hQ=>si_end hh st.1 st.2 λh' he'=>hQ h' s.toks λb o hb e=>he' b o (λh=>hb (by simp[h])) e
 self:=λ_ _ _ _ st hQ=>si_self st.1 hQ
theorem hint_set {r:Addr}{Q:Bool->Shared->Prop}(hT:s.TypeIs (.ref r) "set")(h:Q false s):wpAny (model prog w) A (Builtin.List.listLengthHint (.ref r)) Q E s:=by
 unfold Builtin.List.listLengthHint;refine ae (iO hT PySem.F.slot_set_len.lookup ?_);generalize hid:("set.__len__":String)=id0
 wp_delta
 rw[show splitId id0=some ("set", "__len__") from by subst hid;decide +kernel];subst hid;refine ae (gg (T:="set") (b:=true) hT (by rw[isSubtype_type];kernel_rfl) ?_);refine gv (λhab=>absurd hab (by decide)) (λ_=>?_);refine gv (λ_=>?_) (λhab=>absurd (by decide +kernel) hab);exact ae (iq hT (ag h))
theorem bag_src {a:Addr}{es:Array (Int×Value)}{ep:Nat}{t:SetTable}:KdlSrc prog w "set" a a es.size (λi v=>∃ e,(ordOf w a ep es)[i]?=some e/\e.2=v) (λh=>BagAt h a es ep t (ledOf w)) where
 type:=λ_ hm=>hm.typeIs
 there:=λ_ hm=>let ⟨_,ho,_⟩:=hm;⟨ar ho,ar ho⟩
 keep:=λ_ _ hm hk=>hm.keep λo e=>hk a (.inl rfl) o e
 notList:=by decide
 notTuple:=by decide
 hint:=λ_ _ _ _ hm hq=>hint_set hm.typeIs hq
 iter:=λ_ _ hh hm=>⟨_,_,(λ_ _ hq=>si_make hm hq),si_walks hh _ a (let ⟨_,ho,_⟩:=hm;aK (ar ho)) es ep t,⟨⟨_,au _ rfl,rfl,rfl⟩,hm.keep λ_ e=>af _ e⟩⟩
theorem coll_bag {a:Addr}{es:Array (Int×Value)}{ep:Nat}{t:SetTable}(hh:A.handled=none)(b:BagAt s.heap a es ep t (ledOf w))(hz:es.size<=sizeLine):Coll prog w A a s λus=>us.Perm (es.toList.map (·.2)):=by
 intro E R h;refine kdu_collect (bag_src (ep:=ep) (t:=t)) hh b hz λh' tk acc hk hI=>h h' tk acc.toList hk ?_
 have:acc.toList=(ordOf w a ep es).toList.map (·.2):=by
  apply cV;intro i;rw[bP,ah,bP];rcases bN i es.size with hi | hi
  ·have hi':i<acc.size:=by rw[hI.1];exact hi
   obtain⟨e,he,hk⟩:=hI.2 i acc[i] (aY hi');rw[aY hi',he];exact congrArg some hk.symm
  ·rw[bT (by rw[hI.1];exact hi),bT (by rw[ord_size];exact hi)];rfl
 rw[this];exact (ord_perm w a ep es).map _
end
end Srt
end
section
namespace Srt
open PySem PyProof.Rows PySem.W
theorem sub_tup_set:isSubtype (.type "tuple") (.type "set")=pure false:=by rw[isSubtype_type];kernel_rfl
theorem sub_tup_fro:isSubtype (.type "tuple") (.type "frozenset")=pure false:=by rw[isSubtype_type];kernel_rfl
section
variable {prog:Program}{w:World}{A:Around}{E:Value->Shared->Prop}{s:Shared}
theorem src_list {h:Heap}{l:Addr}{items:Array Value}(hl:h.IsList l items):SetSrc prog w h l "list" items.size (λi v=>items[i]?=some v) where
 typ:=let ⟨o,ho,hc,_⟩:=hl;⟨o,ho,hc⟩
 sub1:=PySem.F.sub_list_set
 sub2:=PySem.F.sub_list_frozenset
 ne:=by decide
 iter:=λA s hk=>by
  have hl':s.heap.IsList l items:=hl.at λo e=>hk l o e
  refine⟨_,_,λE Q hq=>dY hl' hq,λA' hh=>gG hh _ l ?_ items,⟨⟨_,au _ rfl,rfl,rfl⟩,hl'.push _⟩⟩;obtain⟨o,ho,_⟩:=hl';exact aK (ar ho)
theorem src_tup {h:Heap}{l:Addr}{items:Array Value}(hl:h.IsTuple l items):SetSrc prog w h l "tuple" items.size (λi v=>items[i]?=some v) where
 typ:=let ⟨o,ho,hc,_⟩:=hl;⟨o,ho,hc⟩
 sub1:=sub_tup_set
 sub2:=sub_tup_fro
 ne:=by decide
 iter:=λA s hk=>by
  have hl':s.heap.IsTuple l items:=hl.at λo e=>hk l o e
  refine⟨_,_,λE Q hq=>fB hl' hq,λA' hh=>jc hh _ l ?_ items,⟨⟨_,au _ rfl,rfl,rfl⟩,hl'.at λo e=>af _ e⟩⟩;obtain⟨o,ho,_⟩:=hl';exact aK (ar ho)
theorem BagI.keep {h h':Heap}{a:Addr}{ms:List Int}{led:Bool}(b:BagI prog w h a ms led)(k:∀ o,h.get? a=some o->h'.get? a=some o):BagI prog w h' a ms led :=
 let ⟨es,ep,t,b,q⟩:=b;⟨es,ep,t,b.keep k,q⟩
theorem call_bagI {l:Addr}{c:String}{vs:List Value}{ns:List Int}{Q:Value->Shared->Prop}(hh:A.handled=none)(src:SetSrc prog w s.heap l c vs.toArray.size (λi v=>vs.toArray[i]?=some v))(hi:IntsAre vs ns)(hz:ns.length<300)
  (h:∀(h':Heap) (tk:Nat) (ms:List Int),(∀ b o,s.heap.get? b=some o->h'.get? b=some o)->BagI prog w h' s.heap.objs.size ms (ledOf w)->ms.Nodup->(∀ x,x∈ms↔x∈ns)->ms.length<=ns.length->Q (.ref s.heap.objs.size) {s with heap:=h',toks:=tk}) :
  wpAny (model prog w) A (call (.type "set") [.ref l]) Q E s:=by
 have hlen:vs.length=ns.length:=IntsAre.length hi;refine call_bag hh src (λi h=>∃ ms,BagI prog w h s.heap.objs.size ms (ledOf w)/\ms.Nodup/\(∀ x,x∈ms↔x∈ns.take i)/\ms.length<=i) ?_ ?_ ?_ ?_
 ·rintro i h1 h2 ⟨ms,b,q⟩ hk;exact⟨ms,b.keep λo e=>hk _ o (ao _) e,q⟩
 ·rintro i v s' E' Q' hin hv ⟨ms,b,hnd,hm,hle⟩ hQ;have hin':i<ns.length:=by rw[<- hlen];simpa using hin
  obtain⟨t,rfl⟩:=IntsAre.int_at hi i v (~~~hv);have eg:ns.getD i 0=ns[i]:=by simp[List.getD,hin']
  rw[eg];unfold setAdd;refine bJ (ae ((intKind prog w).pyHash (k:=ns[i]) (intKind_is _ _ _ _) ?_));refine bagI_add (s:={s' with toks:=s'.toks+1}) b ∅ λh' bb hsb hB=>hQ h' _ bb hsb ⟨_,hB,?_,?_,?_⟩
  ·split
   ·exact hnd
   ·rename_i hn;exact bX.mpr ⟨hn,hnd⟩
  ·intro x;rw[List.take_succ_eq_append_getElem hin',aj,aq,<- hm x];split
   ·rename_i hk;exact⟨.inl,λo=>o.elim id λe=>e ▸ hk⟩
   ·rw[aL];exact Or.comm
  ·split
   ·omega
   ·rw[aw];omega
 ·intro h' hf hk;exact⟨[],bag_fresh hf,iw,(λx=>by simp),ao _⟩
 ·rintro h' tk hk ⟨ms,b,hnd,hm,hle⟩;have e:vs.toArray.size=ns.length:= ~~~hlen
  rw[e] at hm hle;rw[aW] at hm;exact h h' tk ms hk b hnd hm hle
end
end Srt
namespace L2
open PySem PySem.Spec PyProof.Rows PySem.W
def SqI (K:ac)(H:Hp)(p:Addr)(ns:List Int):Prop:=SqL K H p (ns.map V.int)\/SqT K H p (ns.map V.int)
section
variable {X:Cx}{pins:List (Addr×Obj)}{σ:St}{H:Hp}{s:Shared}{x y:Str}{e:Expr}{p p' pos pos':Pos}{t:TA}
theorem a9w (I:Inv X pins σ H s)(hh:X.A.handled=none){l:Addr}{ns:List Int}{E:Value->Shared->Prop}{Q:Value->Shared->Prop}(hs:SqI X.K H l ns)(hz:ns.length<300)
  (h:∀(h':Heap) (tk:Nat) (ms:List Int) (a:Addr),(∀ b o,s.heap.get? b=some o->h'.get? b=some o)->Srt.BagI X.prog X.w h' a ms (Srt.ledOf X.w)->ms.Nodup->(∀ x,x∈ms↔x∈ns)->ms.length<=ns.length->Q (.ref a) {s with heap:=h',toks:=tk}) :
  wpAny (model X.prog X.w) X.A (call (.type "set") [.ref l]) Q E s:=by
 rcases hs with hs | hs
 ·obtain⟨its,r,pl,_⟩:=I.list hs;exact Srt.call_bagI hh (Srt.src_list pl.isList) (P0 r) hz λh' tk ms k b n m l=>h h' tk ms _ k b n m l
 ·obtain⟨its,r,pl,_⟩:=I.tuple hs;exact Srt.call_bagI hh (Srt.src_tup pl) (P0 r) hz λh' tk ms k b n m l=>h h' tk ms _ k b n m l
def a4S (K:ac):List V->Hp->VK->Prop:=λxs H Q=>∃(p:Addr) (ns:List Int),xs=[.ref p]/\SqI K H p ns/\ns.length<300/\(∀ x∈ns,0<=x/\x<63) /\
 ∀(ns':List Int) (l:Addr),ns'.Pairwise (·<·)->(∀ x,x∈ns'↔x∈ns)->H l=none->Q (.ref l) (upd H l (.lst (ns'.map V.int)))
theorem a5k (K:ac)(hh:X.A.handled=none)(hg:Gl X x)(hm:X.mg x=none)(hv:bootBuiltins x=some (.builtin "sorted"))(hg':Gl X y)(hm':X.mg y=none)(hv':bootBuiltins y=some (.type "set"))(ha:PA X [e] t)
  (hn:x≠"__name__":=by decide) (hdb:(x == ("__debug__":Str))=false:=by decide) (hn':y≠"__name__":=by decide) (hdb':(y == ("__debug__":Str))=false:=by decide)
  (he:starEach [e] X.env=[(false,eval e X.env)]:=by rfl) (hpl:(backTo pos' (starEach ([]:List Expr) X.env)).any (·.1)=false:=by rfl)
  (he2:starEach [.Call (.Name y p') [e] [] pos'] X.env=[(false,eval (.Call (.Name y p') [e] [] pos') X.env)]:=by rfl) (hpl2:(backTo pos (starEach ([]:List Expr) X.env)).any (·.1)=false:=by rfl) (hK:X.K=K:=by rfl) :
  PE X (.Call (.Name x p) [.Call (.Name y p') [e] [] pos'] [] pos) (tCB (a4S K) t):=by
 subst hK;intro pins s σ H Q I h;refine bR (S8 I hg hm hv ?_ hn hdb);refine gb ?_ he2 hpl2;rw[he2];show wpAny _ _ (spliced ((false,eval (.Call (.Name y p') [e] [] pos') X.env)::[])) _ _ s;refine fh ?_;refine bR (S8 I hg' hm' hv' ?_ hn' hdb');refine bU (thn (ha pos' pins s σ H _ I h) λus s1 ⟨vs,H1,I1,r1,q1⟩=>?_) he hpl;obtain⟨l,ns,rfl,src,hz,h63,q⟩:=q1;obtain⟨u,rfl,rx⟩:=Q3 r1;cases rx;refine a9w I1 hh src hz λh' tk ms a hk hB hnd hmem hle=>ft ?_
 have I2:Inv X pins σ H1 {s1 with heap:=h',toks:=tk}:=I1.kept hk;obtain⟨es,ep,tb,bt,hel,hp⟩:=hB;have hsz:=Srt.bagI_size (h:=h') (a:=a) hp;have h64:es.size<64:=by
  have:=G8 hnd λx hx=>h63 x ((hmem x).mp hx)
  omega
 have hzl:es.size<=sizeLine:=by rw[sizeLine_eq];omega
 have hkeys:∀ u∈es.toList.map (·.2),∃ i t,u=cA i t:=by
  intro u hu;obtain⟨e',he',rfl⟩:=bq.mp hu;obtain⟨⟨k,hk',_⟩,_⟩:=hel e' he';obtain⟨t',et⟩:=fq hk';exact⟨k,t',et⟩
 refine Srt.sorted_any (O:=Srt.intOrd) (key:=Srt.intKey) (knd:=oneType') (s:={s1 with heap:=h',toks:=tk}) (Srt.coll_bag (A:=X.A.in1) hh bt hzl) (λvs h=>by rw[h.length_eq,aa,aU];exact h64)
  (λvs s' h _=>Srt.asks_ints (U5 λu hu=>hkeys u (h.mem_iff.mp hu))) λvs out h1 h2 tk' n hC ho hs k1 k2 hD=>?_
 have hall:∀ u∈out,∃ i t,u=cA i t:=λu hu=>hkeys u (hC.mem_iff.mp (ho.mem_iff.mp hu))
 have hio:=U5 hall;have I3:Inv X pins σ H1 {s1 with heap:=h1,toks:=tk'}:=I1.kept λb o eb=>k1 b o (hk b o eb)
 have hperm:(out.map Srt.intKey).Perm ms:=by
  refine ((ho.trans hC).map Srt.intKey).trans ?_;rw[bu];exact hp
 have hlen:(out.map Srt.intKey).length<=sizeLine:=by rw[hperm.length_eq,<- hsz];exact hzl
 refine⟨.ref h1.objs.size,_,I3.laid (t':=tk') (o:=.lst ((out.map Srt.intKey).map V.int)) k2 (ao _) ⟨by rw[aa];exact hlen,out,n,T1 hio,hD⟩,rfl,q _ _ ?_ ?_ I3.fresh⟩
 ·have hle':(out.map Srt.intKey).Pairwise (·<=·):=by
   rw[ck];exact hs.imp λ{a b} hab=>by
    have hab:decide (Srt.intKey b<Srt.intKey a)=false:=hab;simp at hab;exact hab
  have hnd':(out.map Srt.intKey).Nodup:=hperm.nodup_iff.mpr hnd;exact (hle'.and hnd').imp λ{a b} hab=>by have h1:=hab.1;have h2:=hab.2;omega
 ·intro z;rw[hperm.mem_iff];exact hmem z
end
end L2
end
section
namespace L2
open PySem PySem.Spec PyProof.Rows
section
variable {X:Cx}{pins:List (Addr×Obj)}{σ:St}{H:Hp}{s:Shared}{h':Heap}
theorem a8x {h:Heap}{o:Obj}{b:Addr}(hb:b<h.objs.size):(h.push o).get? b=h.get? b:=by
 unfold Heap.get? Heap.push;simp[Array.getElem?_push,aK hb]
theorem a2X {t':Nat}{L:List Addr}(I:Inv X pins σ H s)(k:∀ b o,b∉L->s.heap.get? b=some o->h'.get? b=some o)(hf:∀ b∈L,a0p X pins H b):Inv X pins σ H {s with heap:=h',toks:=t'}:=by
 have nit:∀ b u,H b=some u->b∉L:=λb u e z=>by rw[(hf b z).1] at e;cases e
 refine I.step (g':=s.gens) (d':=s.drawn) (ch:=L) (λb hb=>?_) (λb o _ _ hc e _=>k b o hc e) (λb o _ _ hc e _=>⟨o.slots,k b o hc e⟩) (λ_ _ _ _ n=>n)
  (λb o hc e=>⟨o,k b o hc e⟩) (λ_ _ e=>e) (λ_ _ _ e=>e) (λb ps e=>⟨#[],by rw[e];simp⟩) (λm hm=>?_) (λb u e=>?_) I.bare
 ·obtain⟨f0,f1,f2,f3,f4,f5⟩:=hf b hb;exact⟨f3,f1,f4,f5⟩
 ·obtain⟨o,es,ep,ho,r⟩:=hm;exact⟨o,es,ep,k _ o (λz=>(hf _ z).2.1 rfl) ho,r⟩
 ·refine (I.hok b u e).stay (λc v hc q=>k c v ?_ q) (λ_ q=>q) λ_ _ q=>q
  rcases hc with z | z
  ·rw[z];exact nit b u e
  ·exact nit c _ z
def Ite (K:ac)(a:Addr):It :=
 ⟨λi H=>∃ xs x,SqL K H a xs/\xs[i]?=some x,λi H v H'=>∃ q x,v=.ref q/\H q=none/\H'=upd H q (.tup [.int i,x])/\∀ xs,SqL K H a xs->xs[i]?=some x,λi H=>∃ xs,SqL K H a xs/\xs.length<=i⟩
theorem a6U {P:Program}{w:World}{K:ac}{elts:List Expr}{k:Nat}{pos:Pos}(a e it:Addr)(hne:e≠it):a5O P w K (.Tuple elts k pos) (Ite K a) [e,it] e (λi h=>(∃ old,IsEnum h e it i old)/\h.IsListIter it a i) where
 mem:=by simp
 obj:=λi h st b hb=>by
  obtain⟨⟨old,he⟩,o,eo,c,d⟩:=st;rcases aL.mp hb with rfl | hb
  ·exact⟨_,he,λv z=>by
    have z':jw _=Data.cell v:=z
    cases z'⟩
  ·have e:b=it:= ~~~hb
   subst e;exact⟨o,eo,λv z=>by rw[d] at z;cases z⟩
 keep:=λi h h' st k=>⟨let ⟨old,he⟩:=st.1;⟨old,k e (by simp) _ he⟩,st.2.at λo q=>k it (by simp) o q⟩
 item:=by
  intro X hP hw hK hc i pins s σ H E I hf st hg;subst hP hw hK;obtain⟨xs,x,hq,hx⟩:=hg;obtain⟨its,rv,p,hz⟩:=I.list hq;obtain⟨u,hu,ru⟩:=rv.get hx;obtain⟨⟨old,he⟩,hit⟩:=st;have hel:e<s.heap.objs.size:=ar he;have hil:it<s.heap.objs.size:=by obtain⟨_,z,_⟩:=hit;exact ar z
  refine wpAny_pyNext_enum_item he hit p.isList (x:=u) (~~~hu) hne λh1 ho hit1 hT hsz hk=>⟨_,rfl,?_⟩
  refine wpAny_letOwnedTupleGo_enum (s:={s with heap:=h1,toks:=s.toks+1}) ho λh2 he2 hs2=>?_
  have hs2':∀ b o,b≠e->h1.get? b=some o->h2.get? b=some o:=λb o hb q=>(hs2.2 b hb).trans q
  have I1:Inv X pins σ (upd H s.heap.objs.size (.tup [.int i,x])) {s with heap:=s.heap.push {cls:=.type "tuple",data:=.seq #[.int i s.toks,u]},toks:=s.toks+1} :=
   I.laid (o:=.tup [.int i,x]) (λb o q=>af _ q) (ao _) ⟨by simp[sizeLine_eq],[.int i s.toks,u],.cons ⟨_,rfl⟩ (.cons ru .nil),⟨_,au _ rfl,rfl,_,rfl⟩⟩
  have hfr:∀ b∈[e,it],a0p X pins (upd H s.heap.objs.size (.tup [.int i,x])) b:=by
   intro b hb;obtain⟨f0,f⟩:=hf b hb;refine⟨?_,f⟩;rw[B3];exact f0;rcases aL.mp hb with rfl | hb
   ·exact aK hel
   ·rw[aq.mp hb];exact aK hil
  have I2:Inv X pins σ (upd H s.heap.objs.size (.tup [.int i,x])) {s with heap:=h2,toks:=s.toks+1}:=by
   refine a2X (s:={s with heap:=s.heap.push {cls:=.type "tuple",data:=.seq #[.int i s.toks,u]},toks:=s.toks+1}) (L:=[e,it]) I1 (λb o hb q=>?_) hfr;have hb1:b≠e:=λz=>hb (by simp[z])
   have hb2:b≠it:=λz=>hb (by simp[z])
   refine hs2' b o hb1 ?_;by_cases hbT:b=s.heap.objs.size
   ·subst hbT;rw[show (s.heap.push {cls:=.type "tuple",data:=.seq #[.int i s.toks,u]}).get? s.heap.objs.size=some {cls:=.type "tuple",data:=.seq #[.int i s.toks,u]} from au _ rfl] at q;cases q;exact hT
   ·have:s.heap.get? b=some o:=by
     have hlt:b<s.heap.objs.size+1:=by have:=ar q;rw[dU] at this;exact this
     have hlt2:b<s.heap.objs.size:=Nat.lt_of_le_of_ne (eQ hlt) hbT;rw[<- q];exact (a8x hlt2).symm
    exact hk b o hb1 hb2 this
  refine⟨.ref s.heap.objs.size,_,I2,rfl,⟨s.heap.objs.size,x,rfl,I.fresh,rfl,λys hy=>by rw[I.list_inj hy hq];exact hx⟩,⟨⟨_,he2⟩,hit1.at λo q=>hs2' it o hne.symm q⟩,λb hb=>(hfr b hb).1⟩
 done:=by
  intro X hP hw hK hc i pins s σ H E I hf st hg;subst hP hw hK;obtain⟨xs,hq,hx⟩:=hg;obtain⟨its,rv,p,hz⟩:=I.list hq;obtain⟨⟨old,he⟩,hit⟩:=st;have hl:=rv.length;refine wpAny_pyNext_enum_end (I.ok.hd hc) he hit p.isList (by simp;omega) λh' eb=>⟨rfl,?_⟩
  exact a2X (t':=s.toks) (L:=[e,it]) I (λb o hb q=>eb b o (λz=>hb (by simp[z])) q) hf
 self:=λ_ _ _ _ _ st h=>let ⟨_,he⟩:=st.1;j7 he h
end
section
variable {X:Cx}{K:ac}{elts:List Expr}{k:Nat}{tpos p pos:Pos}{l:Expr}{t:TA}{y:Str}
def b1V (K:ac)(t:TA):TI:=fun σ H R=>t σ H λvs H1=>∃ a,vs=[.ref a]/\(∃ xs,SqL K H1 a xs)/\R (Ite K a) H1
theorem a6v (hg:Gl X y)(hm:X.mg y=none)(hv:bootBuiltins y=some (.type "enumerate"))(ha:PA X [l] t)(hn:y≠"__name__":=by decide)(hdb:(y == ("__debug__":Str))=false:=by decide)
  (he:starEach [l] X.env=[(false,eval l X.env)]:=by rfl) (hpl:(backTo pos (starEach ([]:List Expr) X.env)).any (·.1)=false:=by rfl) (hK:X.K=K:=by rfl):PI X (.Tuple elts k tpos) (.Call (.Name y p) [l] [] pos) (b1V K t):=by
 subst hK;intro pins s σ H R I h;refine bR (S8 I hg hm hv ?_ hn hdb);refine bU (thn (ha pos pins s σ H _ I h) λus s1 ⟨vs,H1,I1,r1,a,e1,⟨xs,hq⟩,q⟩=>?_) he hpl;subst e1;obtain⟨u,rfl,rx⟩:=Q3 r1;cases rx;obtain⟨its,rv,pl,hz⟩:=I1.list hq;refine call_enumerate_list pl.isList λh' hen hit hsz hk=>j7 (s:={s1 with heap:=h'}) hen ?_
 refine⟨s1.heap.objs.size+1,[s1.heap.objs.size+1,s1.heap.objs.size],_,_,H1,rfl,I1.kept (t':=s1.toks) hk,a6U a _ _ (dw (eY _)),⟨⟨_,hen⟩,hit⟩,λb hb=>?_,q⟩;rcases aL.mp hb with rfl | hb
 ·exact I1.fpOk (dM _) (I1.hok.fresh (dM _))
 ·rw[aq.mp hb];exact I1.fpOk (ao _) I1.fresh
end
section
variable {K:ac}{a p:Addr}{xs:List V}{g:TG}{tc:TT}{te tv:TE}{τ0:St}{H0:Hp}{EE:Hp->Prop}
theorem b1b (Pv:Nat->St->Hp->Prop)(h0:Pv 0 τ0 H0)(hl:∀ i τ H,i<=xs.length->Pv i τ H->SqL K H a xs)
  (hs:∀ i x τ H q,xs[i]?=some x->Pv i τ H->H q=none->g (.ref q) τ (upd H q (.tup [.int i,x])) fun τ2 H2=>tc τ2 H2 λb H3=>if b=true then te τ2 H3 λv H4=>∃ ys,H4 p=some (.lst ys)/\ys.length<sizeLine/\Pv (i+1) τ2 (upd H4 p (.lst (ys++[v]))) else Pv (i+1) τ2 H3)
  (hd:∀ τ H,Pv xs.length τ H->EE H):lcW g tc te p (Ite K a) τ0 H0 EE:=by
 refine⟨λi m τ H=>m=xs.length-i/\i<=xs.length/\Pv i τ H,⟨_,rfl,bf _,h0⟩,?_⟩;rintro i m τ H ⟨rfl,hi,hp⟩;have hq:=hl i τ H hi hp;rcases bN i xs.length with h | h
 ·have hx:xs[i]?=some xs[i]:=aG h;refine .inr ⟨⟨xs,_,hq,hx⟩,Pv (i+1),fun τ' H' z=>⟨_,∅,rfl,h,z⟩,?_⟩;rintro v H' ⟨q,x,rfl,hn,rfl,hy⟩;have e:x=xs[i]:=by have:=hy xs hq;rw[hx] at this;exact (ak this).symm
  subst e;exact hs i _ τ H q hx hp hn
 ·have e:i=xs.length:=∅
  subst e;exact .inl ⟨⟨xs,hq,ao _⟩,hd τ H hp⟩
end
structure Bt2 (mg:Str->Option Value):Prop where
 isinstance:mg "isinstance"=none
 bool:mg "bool"=none
 all:mg "all"=none
 set:mg "set"=none
 enumerate:mg "enumerate"=none
 zip:mg "zip"=none
end L2
end
section
namespace L2
open PySem
inductive Rch (ts:⋯)(A:Int->Prop)(u:Int):Int->Prop
 | base:Rch ts A u u
 | step {y x:Int}:Rch ts A u y->x∈nb ts y->A x->Rch ts A u x
structure a2i (n:Int)(ts:⋯)(A:Int->Prop)(u:Int)(fs ws:List Int):Prop where
 nd:fs.Nodup
 rng:∀ x∈fs,0<=x/\x<n
 st:u∈fs
 sub:∀ x∈ws,x∈fs
 snd:∀ x∈fs,Rch ts A u x
 cl:∀ x∈fs,x∉ws->∀ y∈nb ts x,A y->y∈fs
structure Y7 (n:Int)(ts:⋯)(A:Int->Prop)(u:Int)(fs ws:List Int)(v:Int)(j:Nat):Prop where
 nd:fs.Nodup
 rng:∀ x∈fs,0<=x/\x<n
 st:u∈fs
 sub:∀ x∈ws,x∈fs
 snd:∀ x∈fs,Rch ts A u x
 cl:∀ x∈fs,x∉ws->x≠v->∀ y∈nb ts x,A y->y∈fs
 vin:v∈fs
 part:∀ y∈(nb ts v).take j,A y->y∈fs
section
variable {n:Int}{ts:⋯}{A:Int->Prop}{u v:Int}{fs ws:List Int}{j:Nat}
theorem a2i.init (h0:0<=u)(h1:u<n):a2i n ts A u [u] [u] :=
 ⟨by simp,λx hx=>by simp at hx;subst hx;exact⟨h0,h1⟩,by simp,by simp,λx hx=>by simp at hx;subst hx;exact .base,λx hx hn=>by simp at hx hn;exact absurd hx hn⟩
theorem a2i.pop (h:a2i n ts A u fs (ws++[v])):Y7 n ts A u fs ws v 0 :=
 ⟨h.nd,h.rng,h.st,λx hx=>h.sub x (by simp[hx]),h.snd,λx hx hn hv=>h.cl x hx (by simp[hn,hv]),h.sub v (by simp),λy hy=>by simp at hy⟩
theorem Y7.add (h:Y7 n ts A u fs ws v j)(hok:Q6 n ts){y:Int}(hy:(nb ts v)[j]?=some y)(ha:A y)(hn:y∉fs):Y7 n ts A u (fs++[y]) (ws++[y]) v (j+1):=by
 have hym:=aF hy;have hr:=T8 hok hym;refine⟨?_,λx hx=>?_,by simp[h.st],λx hx=>?_,λx hx=>?_,λx hx hw hv z hz az=>?_,by simp[h.vin],λz hz az=>?_⟩
 ·rw[dO];exact⟨h.nd,by simp,λa hq b hb e=>hn (by simp at hb;subst hb;subst e;exact hq)⟩
 ·rcases aj.mp hx with hx | hx
  ·exact h.rng x hx
  ·cases aq.mp hx;exact⟨hr.1,hr.2.1⟩
 ·rcases aj.mp hx with hx | hx
  ·exact aj.mpr (.inl (h.sub x hx))
  ·exact aj.mpr (.inr hx)
 ·rcases aj.mp hx with hx | hx
  ·exact h.snd x hx
  ·cases aq.mp hx;exact .step (h.snd v h.vin) hym ha
 ·rcases aj.mp hx with hx | hx
  ·exact aj.mpr (.inl (h.cl x hx (λq=>hw (aj.mpr (.inl q))) hv z hz az))
  ·exact absurd (aj.mpr (.inr hx)) hw
 ·rw[bI,hy] at hz;rcases aj.mp hz with hz | hz
  ·exact aj.mpr (.inl (h.part z hz az))
  ·simp at hz;subst hz;simp
theorem Y7.skip (h:Y7 n ts A u fs ws v j){y:Int}(hy:(nb ts v)[j]?=some y)(ha:¬ A y\/y∈fs):Y7 n ts A u fs ws v (j+1):=by
 refine⟨h.nd,h.rng,h.st,h.sub,h.snd,h.cl,h.vin,λz hz az=>?_⟩;rw[bI,hy] at hz;rcases aj.mp hz with hz | hz
 ·exact h.part z hz az
 ·simp at hz;subst hz;exact ha.elim (λq=>absurd az q) id
theorem Y7.done (h:Y7 n ts A u fs ws v j)(hj:(nb ts v).length<=j):a2i n ts A u fs ws:=by
 refine⟨h.nd,h.rng,h.st,h.sub,h.snd,λx hx hw y hy ay=>?_⟩;by_cases e:x=v
 ·subst e;exact h.part y (by rw[cY hj];exact hy) ay
 ·exact h.cl x hx hw e y hy ay
theorem a2i.fin (h:a2i n ts A u fs [])(x:Int):x∈fs↔Rch ts A u x:=by
 refine⟨h.snd x,λr=>?_⟩;induction r with
 | base=>exact h.st
 | step _ hm ha ih=>exact h.cl _ ih (by simp) _ hm ha
theorem Rch.rng (hok:Q6 n ts)(h0:0<=u)(h1:u<n){x:Int}(r:Rch ts A u x):0<=x/\x<n:=by
 induction r with
 | base=>exact⟨h0,h1⟩
 | step _ hm _ _=>have:=T8 hok hm;omega
theorem Rch.mem {x:Int}(r:Rch ts A u x)(h:A u):A x:=by
 cases r with
 | base=>exact h
 | step _ _ ha=>exact ha
theorem Rch.left {L:Int->Prop}(hok:Q6 n ts)(hL:∀ x,L x->A x)(hc:∀ x y,A x->¬ L x->y∈nb ts x->A y->¬ L y)(hu:L u){x:Int}:Rch ts L u x↔Rch ts A u x:=by
 constructor
 ·intro r;induction r with
  | base=>exact .base
  | step _ hm ha ih=>exact .step ih hm (hL _ ha)
 ·intro r;have:Rch ts L u x/\L x:=by
   induction r with
   | base=>exact⟨.base,hu⟩
   | @step y x _ hm ha ih =>
    have:L x:=aR λhn=>hc x y ha hn ((X8 hok).mp hm) (hL _ ih.2) ih.2
    exact⟨.step ih.1 hm this,this⟩
  exact this.1
theorem b1Y {H:Hp}{p:Addr}{u:Int}:upd (upd H p (.dK [])) p (.dK (a0M [] [(bp u,V.bl true)]))=upd H p (.dK (kvI [u])):=by
 rw[a0t];rfl
theorem b0c {y:Int}(h:y∉fs):a0C fs y=fs++[y]:=by unfold a0C;rw[if_neg h]
end
structure Y8 (H Hc:Hp)(me wl:Addr)(fs ws:List Int):Prop where
 same:B5 H Hc
 met:Hc me=some (.dK (kvI fs))
 wait:Hc wl=some (.lst (ws.map V.int))
def srM (n:Int)(me wl:Addr)(Hc:Hp):Nat:=match Hc me,Hc wl with
 | some (.dK kvs),some (.lst xs)=>2*(n.toNat-kvs.length)+xs.length
 | _,_=>0
section
variable {H Hc:Hp}{me wl:Addr}{fs ws:List Int}{n:Int}
theorem Y8.mu (h:Y8 H Hc me wl fs ws):srM n me wl Hc=2*(n.toNat-fs.length)+ws.length:=by
 unfold srM;rw[h.met,h.wait];show 2*(n.toNat-(kvI fs).length)+(ws.map V.int).length=_;rw[a6I,aa]
theorem Y8.ne (h:Y8 H Hc me wl fs ws):me≠wl:=λe=>by
 have:=h.met;rw[e,h.wait] at this;cases this
theorem a6G {ws:List Int}(h:ws≠[]):∃ ws' v,ws=ws'++[v]:=⟨ws.dropLast,ws.getLast h,(List.dropLast_concat_getLast h).symm⟩
theorem Y8.pop {v:Int}(h:Y8 H Hc me wl fs (ws++[v]))(hw:H wl=none):((ws++[v]).map V.int)[((ws++[v]).map V.int).length-1]?=some (V.int v)/\Y8 H (upd Hc wl (.lst ((ws++[v]).map V.int).dropLast)) me wl fs ws:=by
 refine⟨by simp,h.same.upd hw,by rw[B3 h.ne];exact h.met,?_⟩;rw[A1];simp
theorem Y8.add {y:Int}(h:Y8 H Hc me wl fs ws)(hm:H me=none)(hw:H wl=none)(hy:y∉fs):Y8 H (upd (upd Hc me (.dK (kvI (a0C fs y)))) wl (.lst (ws.map V.int++[V.int y]))) me wl (fs++[y]) (ws++[y]):=by
 refine⟨(h.same.upd hm).upd hw,?_,?_⟩
 ·rw[B3 h.ne,A1,b0c hy]
 ·rw[A1,aE];rfl
theorem Y8.mono {H0:Hp}(h:Y8 H Hc me wl fs ws)(s:B5 Hc H0):Y8 H H0 me wl fs ws:=⟨h.same.trans s,s _ _ h.met,s _ _ h.wait⟩
end
def a3S (K:ac):Sp:=λvs H Q _=>∃(rp:Addr) (as:List Addr) (n:Int) (ts:⋯) (al:Addr) (ls:List Int) (u:Int),vs=[.ref rp,.int u,.ref al]/\E4 H rp as (J8 n ts)/\Q6 n ts/\n<=60/\ts.length<=1000/\(SqL K H al (ls.map V.int)\/SqT K H al (ls.map V.int))/\0<=u/\u<n /\
 ∀(p:Addr) (zs:List Int) (H':Hp),B5 H H'->H p=none->H' p=some (.lst (zs.map V.int))->zs.Pairwise (·<·)->(∀ x,x∈zs↔Rch ts (·∈ls) u x)->Q (.ref p) H'
end L2
end
section
namespace L2
open PySem
def tI (l:List Int):PyData:=.tuple (l.map cp)
theorem a3f:∀ ls:List (List Int),PyData.canLayAll0 (ls.map tI)=true
 | []=>rfl
 | n::r=>by
  rw[aA,PyData.canLayAll0,a3f r];unfold tI;rw[PyData.canLay0,S5];rfl
theorem a4N:∀ ls:List (List Int),PyData.depthAll (ls.map tI)<=1
 | []=>bf _
 | n::r=>by
  rw[aA,PyData.depthAll];have:=a4N r;unfold tI at this ⊢;rw[PyData.depth,W4];omega
theorem Dts.tups {K:ac}{H:Hp}:∀ {ps:List (Addr×List Int)},(∀ x∈ps,SqT K H x.1 (x.2.map V.int))->Dts K H (ps.map λx=>V.ref x.1) ((ps.map (·.2)).map tI)
 | [],_=>.nil
 | p::r,h=>.cons (.tupI (h p (aT ..))) (Dts.tups λx hx=>h x (aN _ hx))
def a4W (H:Hp)(p:Addr)(ls:List (List Int)):Prop:=∃ ps:List (Addr×List Int),H p=some (.tup (ps.map λx=>V.ref x.1))/\(∀ x∈ps,H x.1=some (.tup (x.2.map V.int)))/\ps.map (·.2)=ls
theorem a4W.tp {H H':Hp}{p:Addr}{ls:List (List Int)}(h:a4W H p ls)(t:Tp H H'):a4W H' p ls:=by
 obtain⟨ps,e,ha,hl⟩:=h;exact⟨ps,t _ _ e,λx hx=>t _ _ (ha x hx),hl⟩
theorem a4W.dt {K:ac}{H:Hp}{p:Addr}{ls:List (List Int)}(h:a4W H p ls):Dt K H (.ref p) (.tuple (ls.map tI)):=by
 obtain⟨ps,e,ha,rfl⟩:=h;exact .tup (SqT.of e) (Dts.tups λx hx=>SqT.of (ha x hx))
def b3k (Hb:Hp)(am:Addr)(us:List Int)(i:Nat)(τ:St)(Hc:Hp):Prop:=∃(c:Option V) (fs:List Int),τ=[c]/\B5 Hb Hc/\Hc am=some (.dK (kvI fs))/\fs.length<=i/\fs.Nodup/\∀ x,x∈fs↔x∈us.take i
structure W5 (Hc:Hp)(lo:Addr)(ps:List (Addr×List Int)):Prop where
 top:Hc lo=some (.lst (ps.map λx=>V.ref x.1))
 row:∀ x∈ps,Hc x.1=some (.tup (x.2.map V.int))
theorem W5.tp {H H':Hp}{lo:Addr}{ps:List (Addr×List Int)}(h:W5 H lo ps)(t:Tp H H')(e:H' lo=some (.lst (ps.map λx=>V.ref x.1))):W5 H' lo ps:=⟨e,λx hx=>t _ _ (h.row x hx)⟩
theorem W5.snoc {H:Hp}{lo a:Addr}{ps:List (Addr×List Int)}{l:List Int}(h:W5 H lo ps)(ha:H a=some (.tup (l.map V.int))):W5 (upd H lo (.lst ((ps.map λx=>V.ref x.1)++[V.ref a]))) lo (ps++[(a,l)]):=by
 refine⟨by rw[A1,aE];rfl,λx hx=>?_⟩;rcases aj.mp hx with hx | hx
 ·exact Tp.lst h.top _ _ (h.row x hx)
 ·cases aq.mp hx;exact Tp.lst h.top _ _ ha
open Classical in
noncomputable def N9 (n:Int)(ts:⋯)(us:List Int)(u:Int):List Int:=(B7 0 n.toNat).filter λx=>decide (Rch ts (·∈us) u x)
section
variable {n:Int}{ts:⋯}{us:List Int}{u x:Int}
theorem a6y:(N9 n ts us u).Pairwise (·<·):=(Q4 _).filter _
open Classical in
theorem R5 (hok:Q6 n ts)(h0:0<=u)(h1:u<n):x∈N9 n ts us u↔Rch ts (·∈us) u x:=by
 unfold N9;rw[aM,E9,decide_eq_true_iff];constructor
 ·exact λh=>h.2
 ·intro h;have:=h.rng hok h0 h1;exact⟨⟨this.1,∅⟩,h⟩
def J0 (f:Int->List Int)(acc:List (List Int))(u:Int):List (List Int):=if (acc.any λl=>decide (u∈l))=true then acc else acc++[f u]
noncomputable def Q7 (n:Int)(ts:⋯)(us vs:List Int):List (List Int):=vs.foldl (J0 (N9 n ts us)) []
def S9 (acc:List (List Int))(x:Int):Prop:=∃ l∈acc,x∈l
theorem a1j (acc:List (List Int))(x:Int):(acc.any λl=>decide (x∈l))=true↔S9 acc x:=by
 rw[bC];exact⟨λ⟨l,h,e⟩=>⟨l,h,of_decide_eq_true e⟩,λ⟨l,h,e⟩=>⟨l,h,decide_eq_true e⟩⟩
theorem a7o (vs:List Int)(v:Int):Q7 n ts us (vs++[v])=J0 (N9 n ts us) (Q7 n ts us vs) v:=by
 unfold Q7;rw[jP];rfl
theorem Y1 (vs:List Int):∀ l∈Q7 n ts us vs,∃ v∈vs,l=N9 n ts us v:=by
 have gen:∀(vs:List Int) (acc:List (List Int)) (P:List Int->Prop),(∀ l∈acc,P l)->(∀ v∈vs,P (N9 n ts us v))->∀ l∈vs.foldl (J0 (N9 n ts us)) acc,P l:=by
  intro vs;induction vs with
  | nil=>intro acc P h _;exact h
  | cons v r ih =>
   intro acc P h1 h2;refine ih _ P ?_ λw hw=>h2 w (aN _ hw)
   unfold J0;split
   ·exact h1
   ·intro l hl;rcases aj.mp hl with hl | hl
    ·exact h1 l hl
    ·cases aq.mp hl;exact h2 v (aT ..)
 exact gen vs [] (λl=>∃ v∈vs,l=N9 n ts us v) (λl hl=>by cases hl) λv hv=>⟨v,hv,rfl⟩
theorem a9l (vs:List Int):(Q7 n ts us vs).length<=vs.length:=by
 have gen:∀(vs:List Int) (acc:List (List Int)),(vs.foldl (J0 (N9 n ts us)) acc).length<=acc.length+vs.length:=by
  intro vs;induction vs with
  | nil=>intro acc;exact ao _
  | cons v r ih =>
   intro acc;have h1:=ih (J0 (N9 n ts us) acc v);have h2:(J0 (N9 n ts us) acc v).length<=acc.length+1:=by unfold J0;split<;>simp
   rw[hZ,aw];omega
 have:=gen vs [];unfold Q7;simpa using this
theorem a8w (hok:Q6 n ts)(hus:∀ x∈us,0<=x/\x<n){vs ls:List Int}(hv:∀ v∈vs,v∈us)(hls:∀ x,x∈ls↔x∈us/\¬ S9 (Q7 n ts us vs) x)(hu:u∈ls):Rch ts (·∈ls) u x↔Rch ts (·∈us) u x:=by
 refine Rch.left hok (λx hx=>((hls x).mp hx).1) (λx y ax nlx hy ay ly=>?_) hu;have hx:S9 (Q7 n ts us vs) x:=aR λh=>nlx ((hls x).mpr ⟨ax,h⟩)
 obtain⟨l,hl,hxl⟩:=hx;obtain⟨v,hvm,rfl⟩:=Y1 vs l hl;obtain⟨v0,v1⟩:=hus v (hv v hvm);refine ((hls y).mp ly).2 ⟨_,hl,(R5 hok v0 v1).mpr ?_⟩;exact .step ((R5 hok v0 v1).mp hxl) hy ay
theorem a0n (acc:List (List Int))(l:List Int):S9 (acc++[l]) x↔S9 acc x\/x∈l:=by
 unfold S9;constructor
 ·rintro⟨m,hm,hx⟩;rcases aj.mp hm with hm | hm
  ·exact .inl ⟨m,hm,hx⟩
  ·cases aq.mp hm;exact .inr hx
 ·rintro (⟨m,hm,hx⟩ | hx)
  ·exact⟨m,aj.mpr (.inl hm),hx⟩
  ·exact⟨l,by simp,hx⟩
end
end L2
end
section
namespace L2
open PySem PySem.Spec PyProof.Rows
section
variable {X:Cx}
theorem a0Y {x:Str}{n:String}{pos:Pos}(hg:Gl X x)(hm:X.mg x=none)(hv:bootBuiltins x=some (.type n))(hn:x≠"__name__":=by decide)(hd:(x == ("__debug__":Str))=false:=by decide):PE X (.Name x pos) (tC (.ty n)) :=
 λ_ _ _ H _ I h=>S8 I hg hm hv ⟨.ty n,H,I,rfl,h⟩ hn hd
def b3G (K:ac):List V->Hp->VK->Prop:=λxs H Q=>∃(x:V) (n:String) (t:Value) (b:Bool),xs=[x,.ty n]/\a0D K H x t/\bF K t (.type n)=some b/\Q (.bl b) H
theorem a9W:J7 X (.builtin "isinstance") (b3G X.K):=by
 intro pins s σ H xs us Q I r h;obtain⟨x,n,t,b,rfl,ty,e,q⟩:=h;obtain⟨u,w',rfl,rx,rn⟩:=a3M r;cases (show w'=aH n from rn);exact a7u I rx ty e λtk=>⟨.bl b,H,I.tok _,rfl,q⟩
theorem a5C (K:ac)(h:X.K=K:=by rfl):J7 X (.builtin "isinstance") (b3G K):=by subst h;exact a9W
theorem a3j:∀ {bs:List Bool} {us:List Value},C9 (bs.map V.bl) us->∀(i:Nat) (v:Value),us[i]?=some v->v=aJ (bs.getD i true)
 | [],_,.nil,i,v,h=>by simp at h
 | b::r,_,.cons q t,0,v,h=>by simp at h;subst h;exact q
 | b::r,_,.cons q t,i+1,v,h=>by simp at h;exact a3j t i v h
theorem a6Y (bs:List Bool):(List.range bs.length).all (λi=>bs.getD i true)=bs.all id:=by
 induction bs with
 | nil=>rfl
 | cons b r ih =>
  rw[aw,iV,gD,List.all_map,gD];congr 1
def b3I (K:ac):List V->Hp->VK->Prop:=λxs H Q=>∃(p:Addr) (bs:List Bool),xs=[.ref p]/\SqL K H p (bs.map V.bl)/\Q (.bl (bs.all id)) H
theorem a7S (hh:X.A.handled=none):J7 X (.builtin "all") (b3I X.K):=by
 intro pins s σ H xs us Q I r h;obtain⟨p,bs,rfl,hq,q⟩:=h;obtain⟨u,rfl,ru⟩:=Q3 r;cases ru;obtain⟨its,rv,pl,hz⟩:=I.list hq;have hl:s.heap.IsList p its.toArray:=pl.isList;have hlen:its.length=bs.length:=by rw[<- rv.length,aa]
 refine call_all_walk (dY hl ?_);have hpu:∀ b o,s.heap.get? b=some o->(s.heap.push {cls:=.type "list_iterator",data:=.fields #[.ref p,.int 0 0]}).get? b=some o:=λb o e=>af _ e
 have hne:p≠s.heap.objs.size:=by
  obtain⟨o,ho,_⟩:=hl;exact aK (ar ho)
 refine⟨_,_,_,_,_,_,λi=>bs.getD i true,rfl,gG (prog:=X.prog) (w:=X.w) (A:=X.A.in1) hh s.heap.objs.size p hne its.toArray,⟨⟨_,au _ rfl,rfl,rfl⟩,hl.at λo e=>hpu _ _ e⟩,?_,?_⟩
 ·intro i v s' Q' E' hP hQ;have:v=aJ (bs.getD i true):=a3j rv i v (~~~hP);subst this;exact cb hQ
 ·intro h' tk hk;have e:(List.range its.toArray.size).all (λi=>bs.getD i true)=bs.all id:=by rw[aD,hlen];exact a6Y bs
  rw[e];refine⟨.bl _,H,I.kept λb o eb=>hk b o (λhm=>?_) (hpu b o eb),rfl,q⟩;rw[aq.mp hm] at eb;exact absurd (ar eb) (bG _)
theorem b4U (K:ac)(hh:X.A.handled=none)(h:X.K=K:=by rfl):J7 X (.builtin "all") (b3I K):=by subst h;exact a7S hh
end
end L2
end
section
namespace L2
open PySem
theorem E4.put {H:Hp}{p x:Addr}{as:List Addr}{rows:List (List Int)}{o:HO}(h:E4 H p as rows)(h1:x≠p)(h2:x∉as):E4 (upd H x o) p as rows :=
 h.mono λa u q e=>by
  rw[B3 (λz=>by subst z;exact q.elim (λz=>h1 z) h2)];exact e
theorem P2 {n:Nat}{f:Int->Bool}:((B7 0 n).filter f).Pairwise (·<·):=(Q4 n).sublist jB
end L2
end
section
namespace L2
open PySem PySem.Spec PyProof.Rows
theorem a0R.ls {H:Hp}{q:Addr}{ts:⋯}(h:a0R H q ts):a4W H q (ts.map tl):=by
 obtain⟨ps,e,hp⟩:=h;exact⟨ps,e,hp.to,hp.eq⟩
end L2
end
section
namespace STab
open PySem
def pc (c:Nat):Int:=reduceHash (Builtin.Tuple.tupleHashOf [hashInt ((c / 60:Nat):Int),hashInt ((c % 60:Nat):Int)])
def pr (c:Nat):Nat:=(pc c % 26326).toNat
def bits:Nat->Nat->Bool
 | 0,_=>true
 | c+1,a=>!a.testBit (pr c) && bits c (a ||| 1 <<< pr c)
end STab
end
section
namespace L2
open PySem PySem.Spec PyProof.Rows
inductive Pl (H:Hp):V->String->Prop where
 | non:Pl H .non "NoneType"
 | bl (x:Bool):Pl H (.bl x) "bool"
 | int (i:Int):Pl H (.int i) "int"
 | str (x:Str):Pl H (.str x) "str"
 | lst {a:Addr} {xs:List V} (e:H a=some (.lst xs)):Pl H (.ref a) "list"
 | tup {a:Addr} {xs:List V} (e:H a=some (.tup xs)):Pl H (.ref a) "tuple"
 | dK {a:Addr} {kvs:List (Key×V)} (e:H a=some (.dK kvs)):Pl H (.ref a) "dict"
 | dT {a:Addr} {kvs:List (List Key×V)} (e:H a=some (.dT kvs)):Pl H (.ref a) "dict"
theorem Pl.ty {K:ac}{H:Hp}{x:V}{T:String}(p:Pl H x T):a0D K H x (.type T):=by
 cases p with
 | non=>exact .non
 | bl x=>exact .bl x
 | int i=>exact .int i
 | str x=>exact .str x
 | lst e=>exact .lst e
 | tup e=>exact .tup e
 | dK e=>exact .dK e
 | dT e=>exact .dT e
def b1d (T c:String):Bool:=T == c || (T == "bool" && c == "int")
theorem a2U {K:ac}{H:Hp}{x:V}{T:String}(p:Pl H x T){c:String}(hc:c="int"\/c="bool"\/c="tuple"):bF K (.type T) (.type c)=some (b1d T c):=by
 rcases hc with rfl | rfl | rfl<;>cases p<;>rfl
def isI:V->Bool
 | .int _=>true
 | _=>false
theorem b2X {H:Hp}{x:V}{T:String}(p:Pl H x T):(b1d T "int" && !b1d T "bool")=isI x:=by cases p<;>rfl
def a7V (x:V)(lo hi:Int):Bool:=match x with
 | .int i=>decide (lo<=i) && decide (i<=hi)
 | _=>false
theorem b1u {x:V}{lo hi:Int}(h:isI x=false):a7V x lo hi=false:=by cases x<;>first | rfl | cases h
theorem b1e {x:V}(h:isI x=true):∃ i,x=.int i:=by cases x<;>first | exact⟨_,rfl⟩ | cases h
def a5Z:Sp:=λvs H Q _=>∃(x:V) (T:String),vs=[x]/\Pl H x T/\Q (.bl (isI x)) H
def a3T:Sp:=λvs H Q _=>∃(x:V) (T:String) (lo hi:Int),vs=[x,.int lo,.int hi]/\Pl H x T/\Q (.bl (a7V x lo hi)) H
end L2
end
section
namespace L2
open PySem PySem.Spec PyProof.Rows
theorem Pl.mono {H H':Hp}{y:V}{T:String}(s:B5 H H')(p:Pl H y T):Pl H' y T:=by
 cases p with
 | non=>exact .non
 | bl x=>exact .bl x
 | int i=>exact .int i
 | str x=>exact .str x
 | lst e=>exact .lst (s _ _ e)
 | tup e=>exact .tup (s _ _ e)
 | dK e=>exact .dK (s _ _ e)
 | dT e=>exact .dT (s _ _ e)
theorem Pl.back {H H':Hp}{a:Addr}{ys:List V}{T:String}(s:B5 H H')(p:Pl H (.ref a) T)(e:H' a=some (.tup ys)):H a=some (.tup ys):=by
 cases p with
 | lst e2=>have:=s _ _ e2;rw[e] at this;cases this
 | tup e2=>have:=s _ _ e2;rw[e] at this;cases this;exact e2
 | dK e2=>have:=s _ _ e2;rw[e] at this;cases this
 | dT e2=>have:=s _ _ e2;rw[e] at this;cases this
theorem b4O {P:Program}{w:World}{K:ac}{mg:Str->Option Value}{base:Heap}{CX:CXT}{k:Nat}{f:Addr}{fd:FuncData}{ps:List Str}{sp:Sp}(h:∀ vs H Q E,¬ sp vs H Q E):C0 P w K mg base CX k f fd ps sp :=
 ⟨λvs H Q E z=>absurd z (h vs H Q E),λ_ _ _ H _ _ vs Q E _ _ _ _ z=>absurd z (h vs H Q E)⟩
end L2
end
section
namespace L2
open PySem PySem.Spec PyProof.Rows
theorem a1b:∀ {vs:List Value} {ns:List Int},IntsAre vs ns->∃ xs:Array (Int×Tok),vs.toArray=intItems xs/\xs.toList.map (·.1)=ns:=by
 intro vs ns hi;obtain⟨xs,e⟩:=hi.allInts.items;refine⟨xs,e,?_⟩;rw[<- nums_intItems,<- e];exact hi.numsOf
structure Bt3 (mg:Str->Option Value):Prop where
 sum:mg "sum"=none
 any:mg "any"=none
section
variable {X:Cx}
def b3C (K:ac):List V->Hp->VK->Prop:=λxs H Q=>∃(p:Addr) (ns:List Int),xs=[.ref p]/\SqL K H p (ns.map V.int)/\Q (.int ns.sum) H
theorem a7N (hh:X.A.handled=none):J7 X (.builtin "sum") (b3C X.K):=by
 intro pins s σ H xs us Q I r h;obtain⟨p,ns,rfl,hq,q⟩:=h;obtain⟨u,rfl,ru⟩:=Q3 r;cases ru;obtain⟨its,rv,pl,hz⟩:=I.list hq;have hl:s.heap.IsList p its.toArray:=pl.isList;obtain⟨zs,e,e2⟩:=a1b (P0 rv);rw[e] at hl;refine sum_intListG hh hl λh' tk t' hk=>?_
 refine⟨.int ns.sum,H,I.kept hk,⟨t',?_⟩,q⟩;rw[preSum_eq,cY (by simp),e2]
theorem b2r (K:ac)(hh:X.A.handled=none)(h:X.K=K:=by rfl):J7 X (.builtin "sum") (b3C K):=by subst h;exact a7N hh
def a3O (K:ac)(t tk:TA):TE:=fun σ H Q=>t σ H λvs H1=>tk σ H1 λzs H2=>∃(p:Addr) (ns:List Int),vs=[.ref p]/\zs=[.bl true]/\SqL K H2 p (ns.map V.int)/\ns.length<64 /\
 ∀(ns':List Int) (l:Addr),ns'.Perm ns->ns'.Pairwise (·>=·)->H2 l=none->Q (.ref l) (upd H2 l (.lst (ns'.map V.int)))
theorem a5l {K:ac}{p pos kp:Pos}{e v:Expr}{t tk:TA}(hK:X.K=K)(hg:Gl X "sorted")(hm:X.mg "sorted"=none)(ha:PA X [e] t)(hkw:PK X [⟨some "reverse",v,kp⟩] tk)
  (he:backTo pos (starEach [e] X.env)=(false,eval e X.env)::backTo pos (starEach [] X.env):=by rfl) (hpl:(backTo pos (starEach [e] X.env)).any (·.1)=false:=by rfl) :
  PE X (.Call (.Name "sorted" p) [e] [⟨some "reverse",v,kp⟩] pos) (a3O K t tk):=by
 subst hK;intro pins s σ H Q I h;refine bR (S8 I hg hm PyProof.Rows.boot_sorted ?_ (by decide) (by decide));refine callWith_kw (thn (ha pos pins s σ H _ I h) λus s1 ⟨vs,H1,I1,r,q⟩=>?_) he hpl;refine thn (hkw pos pins s1 σ H1 _ I1 q) λws s2 ⟨zs,H2,I2,rz,q2⟩=>?_
 obtain⟨a,ns,rfl,rfl,hq,h64,q3⟩:=q2;obtain⟨u,rfl,ru⟩:=Q3 r;obtain⟨u',rfl,ru'⟩:=Q3 rz;cases ru;cases (show u'=aJ true from ru');obtain⟨its,rv,pl,hz⟩:=I2.list hq;have hl:s2.heap.IsList a its.toArray:=pl.isList;have hi:=P0 rv;refine sorted_ints_rev (b:=true) hl hi (by rw[hi.length];exact h64) λout ns' a1 a2 a3=>?_
 obtain⟨n,hn⟩:=sortedAll_at s2.heap its out;have hlen:ns'.length<=sizeLine:=by rw[a2.length_eq,sizeLine_eq];omega
 refine⟨.ref (s2.heap.objs.size+1),_,I2.laid (t':=s2.toks) (o:=.lst (ns'.map V.int)) (λ_ _=>sortedAll_old) (dM _) ⟨by rw[aa];exact hlen,out.toList,n,T1 a1,hn⟩,rfl,q3 _ _ a2 a3 (I2.hok.fresh (dM _))⟩
def a5j (K:ac):R2:=λx y H Q=>∃ a b xs ys,x=.ref a/\y=.ref b/\SqT K H a xs/\SqT K H b ys/\xs.length+ys.length<=sizeLine /\
 ∀ p H',SqT K H' p (xs++ys)->B5 H H'->(H'=H\/(H p=none/\H'=upd H p (.tup (xs++ys))))->Q (.ref p) H'
theorem a8L:OpR X (binaryOp .Add) (a5j X.K):=by
 intro pins s σ H x y v u Q I rx ry h;obtain⟨a,b,xs,ys,rfl,rfl,ha,hb,hz,q⟩:=h;cases rx;cases ry;obtain⟨its,r1,p1,_⟩:=I.tuple ha;obtain⟨its2,r2,p2,_⟩:=I.tuple hb;by_cases hx:xs=[]
 ·subst hx;have hi:its=[]:=r1.nil_iff.mpr rfl;subst hi;obtain⟨⟨cls,dd,data,sl⟩,ho,hc,n,hd⟩:=id p1;obtain⟨⟨cls2,dd2,data2,sl2⟩,ho2,hc2,n2,hd2⟩:=id p2;simp only at hc hd hc2 hd2;subst hc hd hc2 hd2;exact ir ⟨_,ho,rfl⟩ ⟨_,ho2,rfl⟩ noFill_tuple_add gX ei d8 (dW _ _)
   (tuple_addW0 _ _ _ _ _ _ _ _ _ _ (by simp)) ⟨ho,ho2,⟨.ref b,H,I,rfl,q b H hb (λ_ _ e=>e) (.inl rfl)⟩⟩
 ·refine HT.cat_tup p1 p2 (λz=>hx (r1.nil_iff.mp z)) (λz=>⟨.ref a,H,I,rfl,?_⟩) (λz=>?_) (by rw[<- r1.length,<- r2.length];exact hz)
  ·have:ys=[]:=r2.nil_iff.mp z;subst this;rw[bO] at q;exact q a H ha (λ_ _ e=>e) (.inl rfl)
  ·have hf:H s.heap.objs.size=none:=I.hok.fresh (ao _);refine⟨.ref s.heap.objs.size,_,I.laid (t':=s.toks) (o:=.tup (xs++ys)) (λb ob q=>af _ q) (ao _) ?_,rfl,q _ _ (SqT.of (by simp[upd])) (λb o e=>?_) (.inr ⟨hf,rfl⟩)⟩
   ·exact⟨by rw[aI];exact hz,_,r1.append r2,iU _ _⟩
   ·have:b≠s.heap.objs.size:=λw=>by rw[w,hf] at e;cases e
    simp[upd,this,e]
theorem a9U (K:ac)(h:X.K=K:=by rfl):OpR X (binaryOp .Add) (a5j K):=by subst h;exact a8L
end
end L2
end
section
namespace L2
open PySem PySem.Spec PyProof.Rows
theorem b4N {i:Nat}{v:V}{σ:St}{H:Hp}{Q:St->Hp->Prop}:P1 i v σ H Q=Q (σ.set i (some v)) H:=rfl
section
variable {k m c:Nat}{d:PyData}{ds:List PyData}
def b5c (n:Int)(ts:⋯):PyData:=.tuple [.int n,.tuple ((ts.map tl).map L2.tI)]
theorem N7.dt {K:ac}{H:Hp}{w:Addr}{n:Int}{ts:⋯}(h:N7 H w n ts):Dt K H (.ref w) (b5c n ts):=by
 obtain⟨q,e,ht⟩:=h;exact .tup (SqT.of e) (.cons (.int n) (.cons ht.ls.dt .nil))
theorem a0R.dt {K:ac}{H:Hp}{w:Addr}{ts:⋯}(h:a0R H w ts):Dt K H (.ref w) (.tuple ((ts.map tl).map L2.tI)):=h.ls.dt
end
end L2
end
section
namespace L2
open PySem
def a6R (g:TG)(tc:TT)(te:TE)(p:Addr)(fr:St)(H1:Hp)(x:V)(c:Bool)(f:V)(N:Nat):Prop :=
 ∀(v:Option V) (ys:List V) (R:St->Hp->Prop),ys.length<=N->(c=true->∀ v',R (v'::fr) (upd (upd H1 p (.lst ys)) p (.lst (ys++[f]))))->(c=false->∀ v',R (v'::fr) (upd H1 p (.lst ys))) ->
  g x (v::fr) (upd H1 p (.lst ys)) fun τ2 H2=>tc τ2 H2 λb H3=>if b=true then te τ2 H3 λw H4=>∃ zs,H4 p=some (.lst zs)/\zs.length<sizeLine/\R τ2 (upd H4 p (.lst (zs++[w]))) else R τ2 H3
theorem a1m {α:Type}(c:α->Bool)(f:α->V)(l:List α):((l.filter c).map f).length<=l.length:=by rw[aa];exact bL _ _
theorem a0b {α:Type}(c:α->Bool)(f:α->V)(l:List α)(x:α):((l++[x]).filter c).map f=(l.filter c).map f++(if c x=true then [f x] else []):=by
 rw[gC,aE];congr 1;by_cases h:c x=true
 ·rw[cP h,if_pos h];rfl
 ·rw[cQ h,if_neg h];rfl
theorem V3 {α:Type}(l:List α):l.filter (λ_=>true)=l:=jC.mpr λ_ _=>rfl
section
variable {K:ac}{a p:Addr}{g:TG}{tc:TT}{te:TE}{fr:St}{H1:Hp}{EE:Hp->Prop}
theorem a0O {n:Nat}(c:Int->Bool)(f:Int->V)(hn:n<=16000000)(hs:∀ x:Int,0<=x->x<n->a6R g tc te p fr H1 (.int x) (c x) (f x) n)
  (hd:EE (upd H1 p (.lst (((B7 0 n).filter c).map f)))):lcW g tc te p (Itr 0 n) (none::fr) (upd H1 p (.lst [])) EE:=by
 refine Y3 (λi τ H=>i<=n/\(∃ v,τ=v::fr)/\H=upd H1 p (.lst (((B7 0 i).filter c).map f))) ⟨bf _,⟨_,rfl⟩,rfl⟩ ?_ ?_
 ·rintro i τ H hi ⟨_,⟨v,rfl⟩,rfl⟩;have e:B7 0 (i+1)=B7 0 i++[(0:Int)+i]:=by unfold B7;rw[hX,aE];rfl
  refine hs ((0:Int)+i) ∅ ∅ v _ _ (aV (a1m c f _) (by rw[B6];omega)) (λh v'=>?_) λh v'=>?_
  ·refine⟨∅,⟨_,rfl⟩,?_⟩;rw[a0t,e,a0b,if_pos h]
  ·refine⟨∅,⟨_,rfl⟩,?_⟩;rw[e,a0b,if_neg (by rw[h];simp),bO]
 ·rintro τ H ⟨_,_,rfl⟩;exact hd
theorem M3 {α:Type}{l:List α}{i:Nat}{x:α}(h:l[i]?=some x):l.take (i+1)=l.take i++[x]:=by rw[bI,h];rfl
theorem Y4 {α:Type}{xs:List α}(V0:α->V)(c:α->Bool)(f:α->V)(hn:xs.length<=16000000)(hl:SqL K H1 a (xs.map V0))(hp:H1 p=none)(hs:∀ x∈xs,a6R g tc te p fr H1 (V0 x) (c x) (f x) xs.length)
  (hd:EE (upd H1 p (.lst ((xs.filter c).map f)))):lcW g tc te p (Itl K a) (none::fr) (upd H1 p (.lst [])) EE:=by
 refine U4 (xs:=xs.map V0) (λi τ H=>(∃ v,τ=v::fr)/\H=upd H1 p (.lst (((xs.take i).filter c).map f))) ⟨⟨_,rfl⟩,by simp⟩ ?_ ?_ ?_
 ·rintro i τ H _ ⟨_,rfl⟩;exact ((B5.refl H1).upd hp).seq hl
 ·rintro i x τ H hx ⟨⟨v,rfl⟩,rfl⟩ _;rw[ah] at hx;cases h0:xs[i]? with
  | none=>rw[h0] at hx;cases hx
  | some y =>
  rw[h0] at hx;cases ak hx;have hi:=(ai.mp h0).1;refine hs y (aF h0) v _ _ (aV (a1m c f _) (by rw[bn];omega)) (λh v'=>?_) λh v'=>?_
  ·refine⟨⟨_,rfl⟩,?_⟩;rw[a0t,M3 h0,a0b,if_pos h]
  ·refine⟨⟨_,rfl⟩,?_⟩;rw[M3 h0,a0b,if_neg (by rw[h];simp),bO]
 ·rintro τ H ⟨_,rfl⟩;rw[aa,aW];exact hd
theorem U3 {α:Type}{xs:List α}(V0:α->V)(c:α->Bool)(f:α->V)(hn:xs.length<=16000000)(hl:SqT K H1 a (xs.map V0))(hp:H1 p=none)(hs:∀ x∈xs,a6R g tc te p fr H1 (V0 x) (c x) (f x) xs.length)
  (hd:EE (upd H1 p (.lst ((xs.filter c).map f)))):lcW g tc te p (Itt K a) (none::fr) (upd H1 p (.lst [])) EE:=by
 refine a5B (xs:=xs.map V0) (λi τ H=>(∃ v,τ=v::fr)/\H=upd H1 p (.lst (((xs.take i).filter c).map f))) ⟨⟨_,rfl⟩,by simp⟩ ?_ ?_ ?_
 ·rintro i τ H _ ⟨_,rfl⟩;exact ((B5.refl H1).upd hp).seqT hl
 ·rintro i x τ H hx ⟨⟨v,rfl⟩,rfl⟩;rw[ah] at hx;cases h0:xs[i]? with
  | none=>rw[h0] at hx;cases hx
  | some y =>
  rw[h0] at hx;cases ak hx;have hi:=(ai.mp h0).1;refine hs y (aF h0) v _ _ (aV (a1m c f _) (by rw[bn];omega)) (λh v'=>?_) λh v'=>?_
  ·refine⟨⟨_,rfl⟩,?_⟩;rw[a0t,M3 h0,a0b,if_pos h]
  ·refine⟨⟨_,rfl⟩,?_⟩;rw[M3 h0,a0b,if_neg (by rw[h];simp),bO]
 ·rintro τ H ⟨_,rfl⟩;rw[aa,aW];exact hd
theorem S2 {fr:St}{H1:Hp}{p:Addr}{ys:List V}{w:V}{N:Nat}{R:St->Hp->Prop}{v:Option V}{b c:Bool}(e:b=c)(hl:ys.length<=N)(hN:N<=16000000)
  (h1:c=true->∀ v',R (v'::fr) (upd (upd H1 p (.lst ys)) p (.lst (ys++[w])))) (h2:c=false->∀ v',R (v'::fr) (upd H1 p (.lst ys))) :
  if b=true then ∃ zs,upd H1 p (.lst ys) p=some (.lst zs)/\zs.length<sizeLine/\R (v::fr) (upd (upd H1 p (.lst ys)) p (.lst (zs++[w]))) else R (v::fr) (upd H1 p (.lst ys)):=by
 subst e;by_cases hb:b=true
 ·rw[if_pos hb];exact⟨ys,A1,E2 ∅,h1 hb v⟩
 ·rw[if_neg hb];exact h2 (~~~hb) v
theorem T3 {fr:St}{H1:Hp}{p:Addr}{ys:List V}{w:V}{N:Nat}{R:St->Hp->Prop}{v:Option V}(hl:ys.length<=N)(hN:N<=16000000)(h1:true=true->∀ v',R (v'::fr) (upd (upd H1 p (.lst ys)) p (.lst (ys++[w])))) :
  ∃ zs,upd H1 p (.lst ys) p=some (.lst zs)/\zs.length<sizeLine/\R (v::fr) (upd (upd H1 p (.lst ys)) p (.lst (zs++[w]))):=⟨ys,A1,E2 ∅,h1 rfl v⟩
end
def b0i (k:Nat)(l:List Int):Int:=((l.mergeSort λa b=>decide (b<=a)).take k).sum
theorem a3d (l:List Int):(l.mergeSort λa b=>decide (b<=a)).Pairwise (·>=·) :=
 (List.pairwise_mergeSort (le:=λa b:Int=>decide (b<=a)) (λa b c h1 h2=>by simp at *;omega) (λa b=>by simp;omega) l).imp λh=> ~~~h
theorem a7J {l l':List Int}(p:l'.Perm l)(s:l'.Pairwise (·>=·)):l'=l.mergeSort λa b=>decide (b<=a) :=
 dP (le:=(·>=·)) (λ_ _ _ _ a b=>Int.le_antisymm b a) s (a3d l) (p.trans (jz l _).symm)
theorem a6V {l l':List Int}{k:Nat}(p:l'.Perm l)(s:l'.Pairwise (·>=·)):(l'.take k).sum=b0i k l:=by
 unfold b0i;rw[<- a7J p s]
theorem W6:∀ {l:List Int},(∀ x∈l,0<=x)->0<=l.sum
 | [],_=>by simp
 | a::l,h=>by
  have h1:=h a (by simp);have h2:=W6 (l:=l) λx hx=>h x (by simp[hx])
  rw[bo];omega
end L2
end
section
namespace L2
open PySem PySem.Spec PyProof.Rows
section
variable {X:Cx}
def b4y (K:ac):R2:=λx y H Q=>∃ p xs i v,x=.ref p/\y=.int i/\(SqL K H p xs\/SqT K H p xs)/\atI xs i=some v/\Q v H
theorem a6K (K:ac)(h:X.K=K:=by rfl):IxR X (b4y K):=by
 subst h;have:=(a6J (X:=X)).or a9r;intro e1 e2 pins s σ H x y v u Q I rx ry hq hsub;refine this e1 e2 pins s σ H x y v u Q I rx ry ?_ hsub;obtain⟨p,xs,i,w,rfl,rfl,hs | hs,e,q⟩:=hq
 ·exact .inl ⟨p,xs,i,w,rfl,rfl,hs,e,q⟩
 ·exact .inr ⟨p,xs,i,w,rfl,rfl,hs,e,q⟩
end
section
variable {K:ac}{a p:Addr}{g:TG}{tc:TT}{te tv:TE}{fr:St}{H1:Hp}{EE:Hp->Prop}
theorem b1r {us:List Int}(hl:SqT K H1 a (us.map V.int))(hp:H1 p=none)(hn:us.length<=100000)
  (hs:∀ u∈us,∀(v:Option V) (fs:List Int) (R:St->Hp->Prop),fs.length<=100000->(∀ v',R (v'::fr) (upd (upd H1 p (.dK (kvI fs))) p (.dK (T6 (kvI fs) (bp u) (V.bl true))))) ->
   g (.int u) (v::fr) (upd H1 p (.dK (kvI fs))) fun τ2 H2=>tc τ2 H2 λb H3=>if b=true then te τ2 H3 λk H4=>tv τ2 H4 λw H5=>∃ H6,V7 H5 p k w H6/\R τ2 H6 else R τ2 H3)
  (hd:∀ fs:List Int,fs.Nodup->(∀ x,x∈fs↔x∈us)->fs.length<=us.length->EE (upd H1 p (.dK (kvI fs)))):dcW g tc te tv p (Itt K a) (none::fr) (upd H1 p (.dK [])) EE:=by
 refine a5K (xs:=us.map V.int) (λi τ H=>(∃ v,τ=v::fr)/\∃ fs:List Int,H=upd H1 p (.dK (kvI fs))/\fs.Nodup/\fs.length<=i/\∀ x,x∈fs↔x∈us.take i) ⟨⟨_,rfl⟩,[],rfl,iw,ao _,by simp⟩ ?_ ?_ ?_
 ·rintro i τ H _ ⟨_,fs,rfl,_⟩;exact ((B5.refl H1).upd hp).seqT hl
 ·rintro i x τ H hx ⟨⟨v,rfl⟩,fs,rfl,hnd,hfl,hm⟩;rw[ah] at hx;cases h0:us[i]? with
  | none=>rw[h0] at hx;cases hx
  | some y =>
  rw[h0] at hx;cases ak hx;have hi:=(ai.mp h0).1;refine hs y (aF h0) v fs _ ∅ λv'=>⟨⟨_,rfl⟩,a0C fs y,?_,a3B hnd,?_,λz=>?_⟩
  ·rw[a0t,Z3]
  ·have:=a1U (us:=fs) (x:=y);omega
  ·rw[Y0,hm,M3 h0];simp
 ·rintro τ H ⟨_,fs,rfl,hnd,hfl,hm⟩;rw[aa] at hfl hm;rw[aW] at hm;exact hd fs hnd hm hfl
end
theorem b3z (l:List Int){k:Int}(h:0<=k):a1e (l.map V.int) none (some k)=(l.take k.toNat).map V.int:=by
 have e:HT.sIx (l.map V.int).length (l.map V.int).length (some k)=min k.toNat l.length:=by
  show (if k<0 then _ else _)=_;rw[if_neg ∅,aa]
 unfold a1e;rw[e,HT.sIx_none,List.drop_zero,Nat.sub_zero,<- List.map_take];congr 1;rcases Nat.le_total k.toNat l.length with h1 | h1
 ·rw[Nat.min_eq_left h1]
 ·rw[Nat.min_eq_right h1,aW,cY h1]
theorem E4.zip {H:Hp}{p:Addr}{as:List Addr}{rows:List (List Int)}(h:E4 H p as rows):as.map V.ref=(as.zip rows).map (λx=>V.ref x.1)/\∀ x∈as.zip rows,H x.1=some (.lst (x.2.map V.int)):=by
 constructor
 ·have:as=(as.zip rows).map (·.1):=by rw[List.map_fst_zip (by rw[h.len];exact ao _)]
  rw[show (as.zip rows).map (λx=>V.ref x.1)=((as.zip rows).map (·.1)).map V.ref by rw[bu];rfl,<- this]
 ·intro x hx;obtain⟨i,hi,e⟩:=cE hx;have h1:(as.zip rows)[i]?=some x:=by rw[aG hi,e]
  rw[ix] at h1;exact h.row i _ _ h1.1 h1.2
theorem b0e {as:List Addr}{rows:List (List Int)}(h:as.length=rows.length)(f:List Int->V):(as.zip rows).map (λx=>f x.2)=rows.map f:=by
 rw[show (as.zip rows).map (λx=>f x.2)=((as.zip rows).map (·.2)).map f by rw[bu];rfl,List.map_snd_zip (by rw[h];exact ao _)]
structure Y6 (n:Int)(us bs:List Int):Prop where
 ul:us.Pairwise (·<·)
 bl:bs.Pairwise (·<·)
 ur:∀ x∈us,0<=x/\x<n
 br:∀ x∈bs,0<=x/\x<n
 ap:∀ x∈us,x∉bs
def W2 (ts:⋯)(x:Int):Int:=((nb ts x).length:Int)-1
def J1 (n:Int)(hs bs:List Int):List Int:=(B7 0 n.toNat).filter λx=>!decide (x∈hs++bs)
def a0T (n:Int)(ts:⋯)(hs bs:List Int)(lim:Int):Bool:=decide (2+(hs.map (W2 ts)).sum+b0i (lim-hs.length).toNat ((J1 n hs bs).map (W2 ts))<n)
theorem a5g (n:Int)(ts:⋯)(f:List Int->V):(J8 n ts).map f=(B7 0 n.toNat).map λv=>f (nb ts v):=by
 unfold J8 B7;rw[bu,bu];refine cW λx _=>?_
 show f (nb ts (x:Int))=f (nb ts (0+(x:Int)));rw[gf]
theorem a0A {n:Int}{f:Int->Int}{u:Int}(h0:0<=u)(h1:u<n):atI ((B7 0 n.toNat).map λv=>V.int (f v)) u=some (.int (f u)):=by
 unfold atI ixN;rw[aa,B6,if_pos h0,if_pos ∅];show ((B7 0 n.toNat).map λv=>V.int (f v))[u.toNat]?=_;rw[ah,Q9 ∅];show some (V.int (f (0+(u.toNat:Int))))=_;rw[show (0:Int)+(u.toNat:Int)=u by omega]
end L2
end
section
namespace L2
open PySem PySem.Spec PyProof.Rows
section
variable {X:Cx}
def a3u (K:ac):R2:=λx y H Q=>∃ a b xs ys,x=.ref a/\y=.ref b/\SqT K H a xs/\SqT K H b ys/\xs.length+ys.length<=sizeLine /\
 (xs=[]->Q (.ref b) H)/\(xs≠[]->ys=[]->Q (.ref a) H)/\(xs≠[]->ys≠[]->∀ p,H p=none->Q (.ref p) (upd H p (.tup (xs++ys))))
theorem a8K:OpR X (binaryOp .Add) (a3u X.K):=by
 intro pins s σ H x y v u Q I rx ry h;obtain⟨a,b,xs,ys,rfl,rfl,ha,hb,hz,q1,q2,q3⟩:=h;cases rx;cases ry;obtain⟨its,r1,p1,_⟩:=I.tuple ha;obtain⟨its2,r2,p2,_⟩:=I.tuple hb;by_cases hx:xs=[]
 ·have hi:its=[]:=r1.nil_iff.mpr hx;subst hi;obtain⟨⟨cls,dd,data,sl⟩,ho,hc,n,hd⟩:=id p1;obtain⟨⟨cls2,dd2,data2,sl2⟩,ho2,hc2,n2,hd2⟩:=id p2;simp only at hc hd hc2 hd2;subst hc hd hc2 hd2;exact ir ⟨_,ho,rfl⟩ ⟨_,ho2,rfl⟩ noFill_tuple_add gX ei d8 (dW _ _)
   (tuple_addW0 _ _ _ _ _ _ _ _ _ _ (by simp)) ⟨ho,ho2,⟨.ref b,H,I,rfl,q1 hx⟩⟩
 ·refine HT.cat_tup p1 p2 (λz=>hx (r1.nil_iff.mp z)) (λz=>⟨.ref a,H,I,rfl,q2 hx (r2.nil_iff.mp z)⟩) (λz=>?_) (by rw[<- r1.length,<- r2.length];exact hz);refine⟨.ref s.heap.objs.size,_,I.laid (t':=s.toks) (o:=.tup (xs++ys)) (λb ob q=>af _ q) (ao _) ?_,rfl,q3 hx (λw=>z (r2.nil_iff.mpr w)) _ (I.hok.fresh (ao _))⟩;exact⟨by rw[aI];exact hz,_,r1.append r2,iU _ _⟩
theorem b3B (K:ac)(h:X.K=K:=by rfl):OpR X (binaryOp .Add) (a3u K):=by subst h;exact a8K
end
end L2
end
section
namespace L2
open PySem PySem.Spec PyProof.Rows
def b1R (K:ac):R2:=λx y H Q=>a3u K x y H Q
theorem b4Q {X:Cx}(K:ac)(h:X.K=K:=by rfl):OpR X (binaryOp .Add) (b1R K):=b3B K h
theorem a9T {K:ac}{H:Hp}{a b:Addr}{xs ys:List V}{Q:VK}(ha:H a=some (.tup xs))(hb:H b=some (.tup ys))(hz:xs.length+ys.length<=10000)(q:∀ p H',B5 H H'->H' p=some (.tup (xs++ys))->Q (.ref p) H'):b1R K (.ref a) (.ref b) H Q:=by
 refine⟨a,b,xs,ys,rfl,rfl,SqT.of ha,SqT.of hb,cz (E2 ∅),λe=>?_,λ_ e=>?_,λ_ _ p np=>q p _ ((B5.refl H).upd np) A1⟩
 ·subst e;exact q b H (B5.refl H) hb
 ·subst e;exact q a H (B5.refl H) (by rw[bO];exact ha)
end L2
end
section
namespace L2
open PySem
def dV:V->PyData
 | .int i=>.int i
 | _=>.none
end L2
end
section
namespace L2
open PySem PySem.Spec PyProof.Rows
theorem a2g:∀ {bs:List Bool} {us:List Value},C9 (bs.map V.bl) us->∀(i:Nat) (v:Value),us[i]?=some v->v=aJ (bs.getD i false)
 | [],_,.nil,i,v,h=>by simp at h
 | b::r,_,.cons q t,0,v,h=>by simp at h;subst h;exact q
 | b::r,_,.cons q t,i+1,v,h=>by simp at h;exact a2g t i v h
theorem a6X (bs:List Bool):(List.range bs.length).any (λi=>bs.getD i false)=bs.any id:=by
 induction bs with
 | nil=>rfl
 | cons b r ih =>
  rw[aw,iV,dD,i9,dD];congr 1
section
variable {X:Cx}
def b3H (K:ac):List V->Hp->VK->Prop:=λxs H Q=>∃(p:Addr) (bs:List Bool),xs=[.ref p]/\SqL K H p (bs.map V.bl)/\Q (.bl (bs.any id)) H
theorem a7R (hh:X.A.handled=none):J7 X (.builtin "any") (b3H X.K):=by
 intro pins s σ H xs us Q I r h;obtain⟨p,bs,rfl,hq,q⟩:=h;obtain⟨u,rfl,ru⟩:=Q3 r;cases ru;obtain⟨its,rv,pl,hz⟩:=I.list hq;have hl:s.heap.IsList p its.toArray:=pl.isList;have hlen:its.length=bs.length:=by rw[<- rv.length,aa]
 refine call_any_walk (dY hl ?_);have hpu:∀ b o,s.heap.get? b=some o->(s.heap.push {cls:=.type "list_iterator",data:=.fields #[.ref p,.int 0 0]}).get? b=some o:=λb o e=>af _ e
 have hne:p≠s.heap.objs.size:=by
  obtain⟨o,ho,_⟩:=hl;exact aK (ar ho)
 refine⟨_,_,_,_,_,_,λi=>bs.getD i false,rfl,gG (prog:=X.prog) (w:=X.w) (A:=X.A.in1) hh s.heap.objs.size p hne its.toArray,⟨⟨_,au _ rfl,rfl,rfl⟩,hl.at λo e=>hpu _ _ e⟩,?_,?_⟩
 ·intro i v s' Q' E' hP hQ;have:v=aJ (bs.getD i false):=a2g rv i v (~~~hP);subst this;exact cb hQ
 ·intro h' tk hk;have e:(List.range its.toArray.size).any (λi=>bs.getD i false)=bs.any id:=by rw[aD,hlen];exact a6X bs
  rw[e];refine⟨.bl _,H,I.kept λb o eb=>hk b o (λhm=>?_) (hpu b o eb),rfl,q⟩;rw[aq.mp hm] at eb;exact absurd (ar eb) (bG _)
theorem b5H (K:ac)(hh:X.A.handled=none)(h:X.K=K:=by rfl):J7 X (.builtin "any") (b3H K):=by subst h;exact a7R hh
theorem a7U:bootBuiltins "any"=some (.builtin "any"):=by decide +kernel
end
def b4H (K:ac)(tl:TE):TI:=fun σ H R=>tl σ H λx H1=>∃ a,x=.ref a/\(((∃ xs,SqL K H1 a xs)/\R (Itl K a) H1)\/((∃ xs,SqT K H1 a xs)/\R (Itt K a) H1))
theorem b0A {X:Cx}{tg l:Expr}{tl:TE}(K:ac)(hl:PE X l tl)(h:X.K=K:=by rfl):PI X tg l (b4H K tl):=by
 subst h;intro pins s σ H R I h;refine thn (hl pins s σ H _ I h) λv s1 ⟨x,H1,I1,r1,q1⟩=>?_
 obtain⟨a,e,⟨⟨xs,hq⟩,q⟩ | ⟨⟨xs,hq⟩,q⟩⟩:=q1
 ·subst e;cases r1;obtain⟨its,rv,p,hz⟩:=I1.list hq;refine dY p.isList ?_;refine⟨s1.heap.objs.size,[s1.heap.objs.size],_,_,H1,rfl,I1.kept (t':=s1.toks) λb o e=>af _ e,a2u a _,⟨_,au _ rfl,rfl,rfl⟩,λb hb=>?_,q⟩;have e:b=s1.heap.objs.size:= ~~~hb
  subst e;exact I1.fpOk (ao _) (I1.hok.fresh (ao _))
 ·subst e;cases r1;obtain⟨its,rv,p,hz⟩:=I1.tuple hq;refine fB (show s1.heap.IsTuple a its.toArray from p) ?_;refine⟨s1.heap.objs.size,[s1.heap.objs.size],_,_,H1,rfl,I1.kept (t':=s1.toks) λb o e=>af _ e,a1l a _,⟨_,au _ rfl,rfl,rfl⟩,λb hb=>?_,q⟩;have e:b=s1.heap.objs.size:= ~~~hb
  subst e;exact I1.fpOk (ao _) (I1.hok.fresh (ao _))
def b5L (g:TG)(tb:TS)(D:U0)(σ:St)(J:It)(H1:Hp):Prop:=b2l (λ_ H R=>R J H) g tb D σ H1
theorem a0u {wi:TI}{g:TG}{tb:TS}{D:U0}{σ:St}{H:Hp}:b2l wi g tb D σ H=wi σ H (λJ H1=>b5L g tb D σ J H1):=rfl
def Y2 (n:Int)(ts:⋯):List (List Int):=(List.range n.toNat).map λ(v:Nat)=>(v:Int)::nb ts (v:Int)
theorem P8 {n:Int}{ts:⋯}{v:Int}(h0:0<=v)(h1:v<n):(Y2 n ts)[v.toNat]?=some (v::nb ts v):=by
 unfold Y2;rw[ah,gt ∅];show some (((v.toNat:Nat):Int)::nb ts ((v.toNat:Nat):Int))=_;rw[bx h0]
theorem R6 (n:Int)(ts:⋯):(Y2 n ts).length=n.toNat:=by unfold Y2;simp
theorem a4D {n:Int}{ts:⋯}{i:Nat}(h:i<n.toNat):(Y2 n ts).take (i+1)=(Y2 n ts).take i++[(i:Int)::nb ts (i:Int)]:=by
 have:=P8 (n:=n) (ts:=ts) (v:=(i:Int)) ∅ ∅;rw[bD] at this;exact M3 this
theorem a0x {n:Int}{ts:⋯}(h:Q6 n ts){v x:Int}(h0:0<=v)(h1:v<n)(hx:x∈v::nb ts v):0<=x/\x<n:=by
 rcases aL.mp hx with rfl | hx
 ·exact⟨h0,h1⟩
 ·have:=T8 h hx;exact⟨this.1,this.2.1⟩
def Ask (ts:⋯)(hs bs:List Int)(p x:Int):Prop:=if p∈hs then x=p else (x=p\/x∈nb ts p)/\x∉bs
def a0S (ts:⋯)(bs:List Int)(p:Int):Prop:=∀ x,x=p\/x∈nb ts p->x∈bs
def b5M (ts:⋯)(bs sd:List Int):Prop:=(∀ x∈sd,x∉bs)/\∀ x∈sd,∀ y∈nb ts x,y∈sd\/y∈bs
def b5b (ts:⋯)(hs bs sd:List Int)(p q:Int):Prop:=b5M ts bs sd/\(∀ x,Ask ts hs bs p x->x∈sd)/\∀ x,Ask ts hs bs q x->x∉sd
theorem a6E {n:Int}{bs:List Int}{x:Int}(h0:0<=x)(h1:x<n):x∈((B7 0 n.toNat).filter λx=>!decide (x∈bs))↔x∉bs:=by
 rw[aM,E9];constructor
 ·intro h;simpa using h.2
 ·intro h;exact⟨⟨h0,∅⟩, ~~~h⟩
theorem a4U {n:Int}{ts:⋯}{bs:List Int}{p:Int}(hok:Q6 n ts)(h0:0<=p)(h1:p<n):(¬ ∃ x∈p::nb ts p,x∈(B7 0 n.toNat).filter λx=>!decide (x∈bs))↔a0S ts bs p:=by
 constructor
 ·intro h x hx;have hx':x∈p::nb ts p:=aL.mpr hx;have r:=a0x hok h0 h1 hx';exact aR λhn=>h ⟨x,hx',(a6E r.1 r.2).mpr hn⟩
 ·rintro h ⟨x,hx,hm⟩;have r:=a0x hok h0 h1 hx;exact (a6E r.1 r.2).mp hm (h x (aL.mp hx))
inductive a3o (H:Hp)(n:Int)(t:Addr):(List Int->List Int->⋯->Prop)->Prop where
 | bare {p:Int} (e:H t=some (.tup [.str "bare",.int p])) (h0:0<=p) (h1:p<n):a3o H n t (λ_ bs ts=>a0S ts bs p)
 | apart {a:Addr} {sd:List Int} {p q:Int} (e:H t=some (.tup [.str "apart",.ref a,.int p,.int q])) (ea:H a=some (.tup (sd.map V.int))) (hl:sd.length<=60) (hs:sd.Pairwise (·<·)) (hr:∀ x∈sd,0<=x/\x<n) (h0:0<=p) (h1:p<n) (k0:0<=q) (k1:q<n):a3o H n t (λhs bs ts=>b5b ts hs bs sd p q)
theorem a3o.tp {H H':Hp}{n:Int}{t:Addr}{W:List Int->List Int->⋯->Prop}(h:a3o H n t W)(k:Tp H H'):a3o H' n t W:=by
 cases h with
 | bare e h0 h1=>exact .bare (k _ _ e) h0 h1
 | apart e ea hl hs hr h0 h1 k0 k1=>exact .apart (k _ _ e) (k _ _ ea) hl hs hr h0 h1 k0 k1
end L2
end
section
namespace L2
open PySem
section
variable {n:Int}{ts:⋯}{A B:Int->Prop}{u v x:Int}
theorem Rch.tr (h:Rch ts A u v)(k:Rch ts A v x):Rch ts A u x:=by
 induction k with
 | base=>exact h
 | step _ hy ha ih=>exact .step ih hy ha
theorem Rch.mono' (h:Rch ts A u x)(k:∀ y,A y->B y):Rch ts B u x:=by
 induction h with
 | base=>exact .base
 | step _ hy ha ih=>exact .step ih hy (k _ ha)
theorem Rch.sy (hok:Q6 n ts)(h:Rch ts A u x)(ha:A u):Rch ts A x u:=by
 induction h with
 | base=>exact .base
 | @step y z k hz az ih =>
  have ay:A y:=k.mem ha;exact Rch.tr (.step .base ((X8 hok).mp hz) ay) ih
end
def Hng (ts:⋯)(us:List Int):Prop:=us≠[]/\∀ x∈us,∀ y∈us,Rch ts (·∈us) x y
def Q1 (n:Int)(ts:⋯)(us:List Int):Prop:=Hng ts us/\∀ x,0<=x->x<n->x∉us->∃ y∈nb ts x,y∈us
theorem a2a {n:Int}{ts:⋯}{us:List Int}{u:Int}(hok:Q6 n ts)(hu:u∈us)(h:∀ y∈us,Rch ts (·∈us) u y):Hng ts us :=
 ⟨λe=>(by rw[e] at hu;cases hu),λx hx y hy=>((h x hx).sy hok hu).tr (h y hy)⟩
theorem a5y {us l:List Int}(hnd:us.Nodup)(hs:us ⊆ l)(hl:l.length<=us.length)(hl2:l.Nodup):∀ x∈l,x∈us:=by
 intro x hx;refine aR λhn=>?_
 have h1:(x::us).Nodup:=bX.mpr ⟨hn,hnd⟩;have h2:(x::us) ⊆ l:=λy hy=>by
  rcases aL.mp hy with rfl | hy
  ·exact hx
  ·exact hs hy
 have:=X7 h1 h2;rw[aw] at this;omega
theorem Z7 {us:List Int}:∀ {l:List Int},(l.filter λx=>!decide (x∈us)).length+(l.filter λx=>decide (x∈us)).length=l.length
 | []=>rfl
 | a::l=>by
  have ih:=Z7 (us:=us) (l:=l);by_cases h:a∈us
  ·rw[cQ (by simp[h]),cP (by simp[h]),aw,aw];omega
  ·rw[cP (by simp[h]),cQ (by simp[h]),aw,aw];omega
theorem a4T {n:Int}{ts:⋯}{us zs:List Int}(hnd:us.Nodup)(hr:∀ x∈us,0<=x/\x<n)(h0:0<=n)(hz:zs.Pairwise (·<·))(hm:∀ x,x∈zs↔0<=x/\x<n/\x∉us/\∃ y∈us,y∈nb ts x) :
  ((zs.length:Int)+us.length=n)↔∀ x,0<=x->x<n->x∉us->∃ y∈nb ts x,y∈us:=by
 have ho:∀ x,x∈(B7 0 n.toNat).filter (λx=>!decide (x∈us))↔(0<=x/\x<n)/\x∉us:=λx=>by
  rw[aM,E9];simp;omega
 have hond:((B7 0 n.toNat).filter λx=>!decide (x∈us)).Nodup:=C1 P2;have hc:((B7 0 n.toNat).filter λx=>decide (x∈us)).length=us.length:=by
  refine iH ((cB (C1 P2) hnd).mpr λx=>?_);rw[aM,E9];constructor
  ·intro h;simpa using h.2
  ·intro h;have:=hr x h;exact⟨⟨∅,∅⟩, ~~~h⟩
 have hsp:=Z7 (us:=us) (l:=B7 0 n.toNat);rw[B6] at hsp;constructor
 ·intro e x x0 x1 hx;have:=a5y (C1 hz) (λy hy=>(ho y).mpr (by have:=(hm y).mp hy;exact⟨⟨this.1,this.2.1⟩,this.2.2.1⟩)) ∅ hond x ((ho x).mpr ⟨⟨x0,x1⟩,hx⟩);obtain⟨_,_,_,y,hy,hyx⟩:=(hm x).mp this;exact⟨y,hyx,hy⟩
 ·intro h;have:zs=(B7 0 n.toNat).filter λx=>!decide (x∈us):=Q8 hz P2 λx=>by
   rw[hm,ho];constructor
   ·rintro⟨a,b,c,_⟩;exact⟨⟨a,b⟩,c⟩
   ·rintro⟨⟨a,b⟩,c⟩;obtain⟨y,hy,hyu⟩:=h x a b c;exact⟨a,b,c,y,hyu,hy⟩
  rw[this];omega
def a1c (hs bs us:List Int):Prop:=(∀ x∈hs,x∈us)/\∀ x∈bs,x∉us
theorem a3i {n:Int}{ts:⋯}{hs bs us L:List Int}(hok:Q6 n ts)(hL:∀ x,x∈L↔(0<=x/\x<n)/\x∉bs)(hr:∀ x∈us,0<=x/\x<n)(hb:Q1 n ts us)(hk:a1c hs bs us):Q1 n ts L:=by
 have hsub:∀ x∈us,x∈L:=λx hx=>(hL x).mpr ⟨hr x hx,λk=>hk.2 x k hx⟩
 obtain⟨u,hu⟩:∃ u,u∈us:=cG us hb.1.1;refine⟨a2a hok (hsub u hu) λy hy=>?_,λx x0 x1 hx=>?_⟩
 ·by_cases hyu:y∈us
  ·exact (hb.1.2 u hu y hyu).mono' λz hz=>hsub z hz
  ·obtain⟨w,hw,hwu⟩:=hb.2 y ((hL y).mp hy).1.1 ((hL y).mp hy).1.2 hyu;exact .step ((hb.1.2 u hu w hwu).mono' λz hz=>hsub z hz) ((X8 hok).mp hw) hy
 ·obtain⟨y,hy,hyu⟩:=hb.2 x x0 x1 λk=>hx (hsub x k)
  exact⟨y,hy,hsub y hyu⟩
theorem a7T {n:Int}{hs bs L:List Int}(hL:∀ x,x∈L↔(0<=x/\x<n)/\x∉bs)(hh:∀ x∈hs,0<=x/\x<n)(hd:∀ x∈hs,x∉bs):a1c hs bs L :=
 ⟨λx hx=>(hL x).mpr ⟨hh x hx,hd x hx⟩,λx hx k=>((hL x).mp k).2 hx⟩
def U9 (n:Int)(m:Int):List Int:=(B7 0 n.toNat).filter λi=>decide (eJ (m / 2 ^ i.toNat) 1=1)
theorem b4T {m:Nat}:eJ (m:Int) 1=((m % 2:Nat):Int):=by
 show ((((m:Int).toNat &&& (1:Int).toNat:Nat)):Int)=_;rw[bD];show (((m &&& 1:Nat)):Int)=_;rw[Nat.and_one_is_mod]
theorem b1t {m i:Nat}:eJ ((m:Int) / 2 ^ i) 1=1↔m.testBit i=true:=by
 have:((m:Int) / 2 ^ i)=((m / 2 ^ i:Nat):Int):=by
  rw[Int.natCast_ediv];congr 1
 rw[this,b4T,Nat.testBit_eq_decide_div_mod_eq];simp;omega
theorem a1Q {n:Int}{m:Nat}{x:Int}:x∈U9 n m↔0<=x/\x<n/\m.testBit x.toNat=true:=by
 unfold U9;rw[aM,E9,decide_eq_true_iff,b1t];constructor
 ·rintro⟨⟨a,b⟩,c⟩;exact⟨a,∅,c⟩
 ·rintro⟨a,b,c⟩;exact⟨⟨a,∅⟩,c⟩
theorem a9b (p:Nat->Bool):∀ k:Nat,∃ m:Nat,m<2 ^ k/\∀ i,i<k->m.testBit i=p i
 | 0=>⟨0,by simp,λi hi=>absurd hi (cr _)⟩
 | k+1=>by
  obtain⟨m,hm,hb⟩:=a9b p k;by_cases hp:p k=true
  ·refine⟨m ||| 2 ^ k,Nat.or_lt_two_pow (ge hm (gx (by decide))) (gx (by decide)),λi hi=>?_⟩;rw[Nat.testBit_or,Nat.testBit_two_pow];rcases bN i k with h | h
   ·rw[hb i h,decide_eq_false ∅,Bool.or_false]
   ·cases (show i=k by omega);rw[hp,decide_eq_true rfl,Bool.or_true]
  ·refine⟨m,ge hm (gx (by decide)),λi hi=>?_⟩;rcases bN i k with h | h
   ·exact hb i h
   ·cases (show i=k by omega);rw[Nat.testBit_lt_two_pow hm];simpa using hp
theorem b0a {n:Int}(h0:0<=n){us:List Int}(hs:us.Pairwise (·<·))(hr:∀ x∈us,0<=x/\x<n)(hne:us≠[]):∃ m:Nat,1<=m/\m<2 ^ n.toNat/\U9 n m=us:=by
 obtain⟨m,hm,hb⟩:=a9b (λi=>decide ((i:Int)∈us)) n.toNat;have e:U9 n m=us:=Q8 P2 hs λx=>by
  rw[a1Q];constructor
  ·rintro⟨a,b,c⟩;rw[hb x.toNat ∅,decide_eq_true_iff,bx a] at c;exact c
  ·intro h;have:=hr x h;refine⟨this.1,this.2,?_⟩;rw[hb x.toNat ∅,decide_eq_true_iff,bx this.1];exact h
 refine⟨m,?_,hm,e⟩;rcases jN m with h | h
 ·subst h;obtain⟨u,hu⟩:=cG us hne;rw[<- e,a1Q] at hu;simp at hu
 ·exact h
end L2
end
section
namespace L2
open PySem
structure TB where
 vs:List Int
 ws:List Int
 par:Int->Int
end L2
end
section
namespace L2
open PySem
section
variable {n:Int}{ts gs us:⋯}{ins:List Int}
theorem Q1.more {us vs:List Int}(hok:Q6 n ts)(h:Q1 n ts us)(hs:∀ x∈us,x∈vs)(hr:∀ x∈vs,0<=x/\x<n):Q1 n ts vs:=by
 obtain⟨u,hu⟩:=cG us h.1.1;refine⟨a2a hok (hs u hu) λy hy=>?_,λx x0 x1 hx=>?_⟩
 ·by_cases hyu:y∈us
  ·exact (h.1.2 u hu y hyu).mono' hs
  ·obtain⟨z,hz,hzu⟩:=h.2 y (hr y hy).1 (hr y hy).2 hyu;exact .step ((h.1.2 u hu z hzu).mono' hs) ((X8 hok).mp hz) hy
 ·obtain⟨y,hy,hyu⟩:=h.2 x x0 x1 λk=>hx (hs x k)
  exact⟨y,hy,hs y hyu⟩
end
end L2
end
section
namespace L2
open PySem
theorem b1n {K:ac}{a:Addr}{xs:List V}{g:TG}{tb:TS}{D:U0}{σ:St}{H:Hp}(Pv:Nat->St->Hp->Prop)(h0:Pv 0 σ H)(hx:∀ i σ H,i<=xs.length->Pv i σ H->SqL K H a xs)
  (hs:∀ i x σ H q,xs[i]?=some x->Pv i σ H->H q=none->g (.ref q) σ (upd H q (.tup [.int i,x])) fun σ2 H2=>tb {D with nx:=Pv (i+1),ct:=Pv (i+1),bk:=D.nx} σ2 H2) (hd:∀ σ H,Pv xs.length σ H->D.nx σ H) :
  ∃ W:Nat->Nat->St->Hp->Prop,(∃ m,W 0 m σ H)/\∀ i m σ H,W i m σ H ->
   ((Ite K a).stop i H/\D.nx σ H)\/((Ite K a).go i H/\∃ N:St->Hp->Prop,(∀ σ' H',N σ' H'->∃ m',m'<m/\W (i+1) m' σ' H')/\∀ x H',(Ite K a).yld i H x H'->g x σ H' fun σ2 H2=>tb {D with nx:=N,ct:=N,bk:=D.nx} σ2 H2):=by
 refine⟨λi m σ H=>m=xs.length-i/\i<=xs.length/\Pv i σ H,⟨_,rfl,bf _,h0⟩,?_⟩;rintro i m σ H ⟨rfl,hi,p⟩;have q1:=hx i σ H hi p;by_cases hlt:i<xs.length
 ·refine .inr ⟨⟨xs,_,q1,aG hlt⟩,Pv (i+1),fun σ' H' p'=>⟨_,∅,rfl,hlt,p'⟩,?_⟩;rintro v H' ⟨q,x,rfl,hn,rfl,y1⟩;exact hs i x σ H q (y1 xs q1) p hn
 ·have e:i=xs.length:=∅
  subst e;exact .inl ⟨⟨xs,q1,ao _⟩,hd σ H p⟩
def C8 (n:Int)(bs:List Int):List Int:=(B7 0 n.toNat).filter λx=>!decide (x∈bs)
theorem G7 {n:Int}{bs:List Int}{x:Int}:x∈C8 n bs↔(0<=x/\x<n)/\x∉bs:=by
 unfold C8;rw[aM,E9];simp;omega
section
variable {n:Int}{ts:⋯}{us bs:List Int}
theorem a6F (vs:List Int)(hv:∀ v∈vs,v∈us):(Q7 n ts us vs).Pairwise λl m=>∃ v∈us,m=N9 n ts us v/\v∉l:=by
 have gen:∀(vs:List Int) (acc:List (List Int)),(∀ v∈vs,v∈us)->(acc.Pairwise λl m=>∃ v∈us,m=N9 n ts us v/\v∉l)->(vs.foldl (J0 (N9 n ts us)) acc).Pairwise λl m=>∃ v∈us,m=N9 n ts us v/\v∉l:=by
  intro vs;induction vs with
  | nil=>intro acc _ h;exact h
  | cons v r ih =>
   intro acc hv h;refine ih _ (λw hw=>hv w (aN _ hw)) ?_;unfold J0;by_cases hc:(acc.any λl=>decide (v∈l))=true
   ·rw[if_pos hc];exact h
   ·rw[if_neg hc,List.pairwise_append];refine⟨h,fG _ _,λl hl m hm=>?_⟩;rw[aq.mp hm];exact⟨v,hv v (aT ..),rfl,λhvl=>hc ((a1j _ _).mpr ⟨l,hl,hvl⟩)⟩
 exact gen vs [] hv io
theorem a1S (hok:Q6 n ts)(hr:∀ x∈us,0<=x/\x<n)(vs:List Int)(hv:∀ v∈vs,v∈us):∀ v∈vs,S9 (Q7 n ts us vs) v:=by
 have gen:∀(vs:List Int) (acc:List (List Int)),(∀ v∈vs,v∈us)->(∀ x,S9 acc x->S9 (vs.foldl (J0 (N9 n ts us)) acc) x)/\∀ v∈vs,S9 (vs.foldl (J0 (N9 n ts us)) acc) v:=by
  intro vs;induction vs with
  | nil=>intro acc _;exact⟨λx h=>h,λv h=>by cases h⟩
  | cons v r ih =>
   intro acc hv;obtain⟨h1,h2⟩:=ih (J0 (N9 n ts us) acc v) λw hw=>hv w (aN _ hw)
   have hvu:=hv v (aT ..);have key:(∀ x,S9 acc x->S9 (J0 (N9 n ts us) acc v) x)/\S9 (J0 (N9 n ts us) acc v) v:=by
    unfold J0;by_cases hc:(acc.any λl=>decide (v∈l))=true
    ·rw[if_pos hc];exact⟨λx h=>h,(a1j _ _).mp hc⟩
    ·rw[if_neg hc];exact⟨λx h=>(a0n _ _).mpr (.inl h),(a0n _ _).mpr (.inr ((R5 hok (hr v hvu).1 (hr v hvu).2).mpr .base))⟩
   refine⟨λx h=>h1 x (key.1 x h),λw hw=>?_⟩;rcases aL.mp hw with rfl | hw
   ·exact h1 _ key.2
   ·exact h2 w hw
 exact (gen vs [] hv).2
theorem b1v {p:Int}(p0:0<=p)(p1:p<n)(h:a0S ts bs p):¬ Q1 n ts (C8 n bs):=λhB=>by
 have hp:p∉C8 n bs:=λk=>(G7.mp k).2 (h p (.inl rfl))
 obtain⟨y,hy,hyL⟩:=hB.2 p p0 p1 hp;exact (G7.mp hyL).2 (h y (.inr hy))
theorem b3J (h0:0<n)(hok:Q6 n ts)(hb:∀ p,0<=p->p<n->¬ a0S ts bs p):C8 n bs≠[]:=λe=>by
 refine hb 0 ∅ h0 λx hx=>?_
 have r:=a0x hok ∅ h0 (aL.mpr hx);exact aR λhn=>by
  have:=G7.mpr ⟨r,hn⟩;rw[e] at this;cases this
theorem a8N (hok:Q6 n ts)(hb:∀ p,0<=p->p<n->¬ a0S ts bs p){l:List Int}(e:Q7 n ts (C8 n bs) (C8 n bs)=[l])(hne:C8 n bs≠[]):Q1 n ts (C8 n bs):=by
 have hr:∀ x∈C8 n bs,0<=x/\x<n:=λx hx=>(G7.mp hx).1
 obtain⟨v,hv,rfl⟩:=Y1 (C8 n bs) l (by rw[e];simp);have hall:=a1S hok hr (C8 n bs) λv h=>h
 refine⟨a2a hok hv λy hy=>?_,λx x0 x1 hx=>?_⟩
 ·obtain⟨m,hm,hym⟩:=hall y hy;rw[e] at hm;rw[aq.mp hm] at hym;exact (R5 hok (hr v hv).1 (hr v hv).2).mp hym
 ·have hxb:x∈bs:=aR λk=>hx (G7.mpr ⟨⟨x0,x1⟩,k⟩)
  apply aR;intro hno;refine hb x x0 x1 λy hy=>aR λk=>?_
  have r:=a0x hok x0 x1 (aL.mpr hy);rcases hy with rfl | hy
  ·exact k hxb
  ·exact hno ⟨y,hy,G7.mpr ⟨r,k⟩⟩
theorem a8a (hok:Q6 n ts){l0 l1:List Int}{r:List (List Int)}(e:Q7 n ts (C8 n bs) (C8 n bs)=l0::l1::r) :
  (∃ p r0,l0=p::r0)/\(∃ q r1,l1=q::r1)/\(∀ x∈l0,0<=x/\x<n)/\(∀ x∈l1,0<=x/\x<n)/\l0.Pairwise (·<·)/\(∀ hs:List Int,b5b ts hs bs l0 (l0.headD 0) (l1.headD 0))/\¬ Q1 n ts (C8 n bs):=by
 have hr:∀ x∈C8 n bs,0<=x/\x<n:=λx hx=>(G7.mp hx).1
 have pw:=a6F (n:=n) (ts:=ts) (us:=C8 n bs) (C8 n bs) λv h=>h
 rw[e] at pw;obtain⟨v1,hv1,rfl,hn1⟩:=(cq.mp pw).1 l1 (by simp);obtain⟨v0,hv0,rfl⟩:=Y1 (C8 n bs) l0 (by rw[e];simp);have m0:=λx=>R5 (us:=C8 n bs) (x:=x) hok (hr v0 hv0).1 (hr v0 hv0).2
 have m1:=λx=>R5 (us:=C8 n bs) (x:=x) hok (hr v1 hv1).1 (hr v1 hv1).2
 have cons:∀ v,v∈C8 n bs->∃ p r,N9 n ts (C8 n bs) v=p::r:=λv hv=>by
  cases h:N9 n ts (C8 n bs) v with
  | nil =>
   have:=(R5 (us:=C8 n bs) (x:=v) hok (hr v hv).1 (hr v hv).2).mpr .base;rw[h] at this;cases this
  | cons p r=>exact⟨p,r,rfl⟩
 have rg:∀ v,v∈C8 n bs->∀ x∈N9 n ts (C8 n bs) v,x∈C8 n bs:=λv hv x hx=>((R5 hok (hr v hv).1 (hr v hv).2).mp hx).mem hv
 have cl:∀ v,v∈C8 n bs->∀ x∈N9 n ts (C8 n bs) v,∀ y∈nb ts x,y∉bs->y∈N9 n ts (C8 n bs) v:=λv hv x hx y hy hyb=>by
  have r:=T8 hok hy;exact (R5 hok (hr v hv).1 (hr v hv).2).mpr (.step ((R5 hok (hr v hv).1 (hr v hv).2).mp hx) hy (G7.mpr ⟨⟨r.1,r.2.1⟩,hyb⟩))
 have dj:∀ x,x∈N9 n ts (C8 n bs) v1->x∉N9 n ts (C8 n bs) v0:=λx h1 h0=>by
  have a:=(m0 x).mp h0;have b:=(m1 x).mp h1;exact hn1 ((m0 v1).mpr (a.tr (b.sy hok hv1)))
 obtain⟨p,r0,e0⟩:=cons v0 hv0;obtain⟨q,r1,e1⟩:=cons v1 hv1;refine⟨⟨p,r0,e0⟩,⟨q,r1,e1⟩,λx hx=>hr x (rg v0 hv0 x hx),λx hx=>hr x (rg v1 hv1 x hx),a6y,λhs=>?_,λhB=>?_⟩
 ·have hp:(N9 n ts (C8 n bs) v0).headD 0∈N9 n ts (C8 n bs) v0:=by rw[e0];simp
  have hq:(N9 n ts (C8 n bs) v1).headD 0∈N9 n ts (C8 n bs) v1:=by rw[e1];simp
  refine⟨⟨λx hx=>(G7.mp (rg v0 hv0 x hx)).2,λx hx y hy=>?_⟩,λx hx=>?_,λx hx=>?_⟩
  ·by_cases hyb:y∈bs
   ·exact .inr hyb
   ·exact .inl (cl v0 hv0 x hx y hy hyb)
  ·unfold Ask at hx;split at hx
   ·rw[hx];exact hp
   ·rcases hx with ⟨rfl | hx,hxb⟩
    ·exact hp
    ·exact cl v0 hv0 _ hp x hx hxb
  ·unfold Ask at hx;split at hx
   ·rw[hx];exact dj _ hq
   ·rcases hx with ⟨rfl | hx,hxb⟩
    ·exact dj _ hq
    ·exact dj _ (cl v1 hv1 _ hq x hx hxb)
 ·exact hn1 ((m0 v1).mpr (hB.1.2 v0 hv0 v1 hv1))
theorem b0Y (hne:C8 n bs≠[])(hok:Q6 n ts):Q7 n ts (C8 n bs) (C8 n bs)≠[]:=λe=>by
 obtain⟨u,hu⟩:=cG _ hne;obtain⟨l,hl,_⟩:=a1S hok (λx hx=>(G7.mp hx).1) (C8 n bs) (λv h=>h) u hu;rw[e] at hl;cases hl
end
noncomputable def a3q (n:Int)(ts:⋯)(bs:List Int):PyData :=
 match (B7 0 n.toNat).find? λp=>(p::nb ts p).all λx=>decide (x∈bs) with
 | some p=>.tuple [.str "bare",.int p]
 | none =>
  match Q7 n ts (C8 n bs) (C8 n bs) with
  | l0::l1::_=>.tuple [.str "apart",tI l0,.int (l0.headD 0),.int (l1.headD 0)]
  | _=>.none
theorem a2h {ts:⋯}{bs:List Int}{p:Int}:((p::nb ts p).all λx=>decide (x∈bs))=true↔a0S ts bs p:=by
 rw[eU];unfold a0S;constructor
 ·intro h x hx;exact of_decide_eq_true (h x (aL.mpr hx))
 ·intro h x hx;exact decide_eq_true (h x (aL.mp hx))
theorem a6T {n:Int}{ts:⋯}{bs:List Int}{i:Nat}(hi:i<n.toNat)(hb:a0S ts bs i)(hn:∀ j:Nat,j<i->¬ a0S ts bs j):a3q n ts bs=.tuple [.str "bare",.int i]:=by
 have:((B7 0 n.toNat).find? λp=>(p::nb ts p).all λx=>decide (x∈bs))=some (i:Int):=by
  rw[List.find?_eq_some_iff_getElem];refine⟨a2h.mpr hb,i,by rw[B6];exact hi,?_,λj hj=>?_⟩
  ·have:=Q9 (lo:=0) hi;rw[aG (by rw[B6];exact hi),gf] at this;exact ak this
  ·have hj':j<n.toNat:=∅
   have:=Q9 (lo:=0) hj';rw[aG (by rw[B6];exact hj'),gf] at this;rw[ak this,gP,<- gW,a2h];exact hn j hj
 unfold a3q;rw[this]
theorem a6S {n:Int}{ts:⋯}{bs:List Int}(hn:∀ p,0<=p->p<n->¬ a0S ts bs p):a3q n ts bs=(match Q7 n ts (C8 n bs) (C8 n bs) with
  | l0::l1::_=>.tuple [.str "apart",tI l0,.int (l0.headD 0),.int (l1.headD 0)]
  | _=>.none):=by
 have:((B7 0 n.toNat).find? λp=>(p::nb ts p).all λx=>decide (x∈bs))=none:=by
  rw[List.find?_eq_none];intro x hx h;have r:=E9.mp hx;exact hn x r.1 ∅ (a2h.mp h)
 unfold a3q;rw[this]
def b1y (H:Hp)(n:Int)(ts:⋯)(bs:List Int)(v:V):Prop :=
 (v=.non/\Q1 n ts (C8 n bs))\/∃(t:Addr) (W:List Int->List Int->⋯->Prop),v=.ref t/\a3o H n t W/\(∀ hs:List Int,W hs bs ts)/\¬ Q1 n ts (C8 n bs)
def a0G (K:ac):Sp:=λvs H Q _=>∃(w:Addr) (n:Int) (ts:⋯) (vh:V) (pb:Addr) (bs:List Int),vs=[.ref w,vh,.ref pb]/\N7 H w n ts/\N8 n ts/\SqT K H pb (bs.map V.int)/\bs.length<=60 /\
 ∀(v:V) (H':Hp),B5 H H'->Dt K H' v (a3q n ts bs)->b1y H' n ts bs v->Q v H'
end L2
end
section
namespace L2
open PySem PySem.Spec PyProof.Rows
section
variable {H:Hp}{n:Int}
theorem Q0.inj {ps ps':List (Addr×List Int)}{us us':⋯}(h:Q0 H ps us)(h':Q0 H ps' us')(e:ps.map (λx=>V.ref x.1)=ps'.map λx=>V.ref x.1):us=us':=by
 have hl:us.length=us'.length:=by
  have:=congrArg fH e;rw[aa,aa,h.len,h'.len] at this;exact this
 refine cV λi=>?_
 rcases bN i us.length with hi | hi
 ·obtain⟨v,h1⟩:∃ v,(ps.map λx=>V.ref x.1)[i]?=some v:=⟨_,aG (by rw[aa,h.len];exact hi)⟩
  obtain⟨b,t,e1,e2,e3⟩:=h.get h1;rw[e] at h1;obtain⟨b',t',e1',e2',e3'⟩:=h'.get h1;rw[e1] at e1';cases e1';rw[e3] at e3';injection e3' with e4
  injection e4 with e5
  have e6:=List.cons.inj e5;have e7:=List.cons.inj e6.2;have:t=t':=Prod.ext (V.int.inj e6.1) (V.int.inj e7.1);rw[e2,e2',this]
 ·rw[bQ hi,bQ ∅]
theorem a0R.inj {a:Addr}{us us':⋯}(h:a0R H a us)(h':a0R H a us'):us=us':=by
 obtain⟨ps,e,hp⟩:=h;obtain⟨ps',e',hp'⟩:=h';rw[e] at e';injection e' with e2
 injection e2 with e3
 exact hp.inj hp' e3
end
end L2
end
section
namespace L2
theorem tV0 {v:V}{σ:St}{H:Hp}{Q:VK}:U6 0 (some v::σ) H Q=Q v H:=propext ⟨λ⟨_,e,q⟩=>by cases e;exact q,λq=>⟨_,rfl,q⟩⟩
theorem gN0 {v:V}{σ:St}{H:Hp}{Q:St->Hp->Prop}{b:Option V}:P1 0 v (b::σ) H Q=Q (some v::σ) H:=rfl
theorem tV1 {v:V}{σ:St}{H:Hp}{Q:VK}{a0:Option V}:U6 1 (a0::some v::σ) H Q=Q v H:=propext ⟨λ⟨_,e,q⟩=>by cases e;exact q,λq=>⟨_,rfl,q⟩⟩
theorem gN1 {v:V}{σ:St}{H:Hp}{Q:St->Hp->Prop}{b:Option V}{a0:Option V}:P1 1 v (a0::b::σ) H Q=Q (a0::some v::σ) H:=rfl
theorem tV2 {v:V}{σ:St}{H:Hp}{Q:VK}{a0 a1:Option V}:U6 2 (a0::a1::some v::σ) H Q=Q v H:=propext ⟨λ⟨_,e,q⟩=>by cases e;exact q,λq=>⟨_,rfl,q⟩⟩
theorem gN2 {v:V}{σ:St}{H:Hp}{Q:St->Hp->Prop}{b:Option V}{a0 a1:Option V}:P1 2 v (a0::a1::b::σ) H Q=Q (a0::a1::some v::σ) H:=rfl
theorem tV3 {v:V}{σ:St}{H:Hp}{Q:VK}{a0 a1 a2:Option V}:U6 3 (a0::a1::a2::some v::σ) H Q=Q v H:=propext ⟨λ⟨_,e,q⟩=>by cases e;exact q,λq=>⟨_,rfl,q⟩⟩
theorem gN3 {v:V}{σ:St}{H:Hp}{Q:St->Hp->Prop}{b:Option V}{a0 a1 a2:Option V}:P1 3 v (a0::a1::a2::b::σ) H Q=Q (a0::a1::a2::some v::σ) H:=rfl
theorem tV4 {v:V}{σ:St}{H:Hp}{Q:VK}{a0 a1 a2 a3:Option V}:U6 4 (a0::a1::a2::a3::some v::σ) H Q=Q v H:=propext ⟨λ⟨_,e,q⟩=>by cases e;exact q,λq=>⟨_,rfl,q⟩⟩
theorem gN4 {v:V}{σ:St}{H:Hp}{Q:St->Hp->Prop}{b:Option V}{a0 a1 a2 a3:Option V}:P1 4 v (a0::a1::a2::a3::b::σ) H Q=Q (a0::a1::a2::a3::some v::σ) H:=rfl
theorem tV5 {v:V}{σ:St}{H:Hp}{Q:VK}{a0 a1 a2 a3 a4:Option V}:U6 5 (a0::a1::a2::a3::a4::some v::σ) H Q=Q v H:=propext ⟨λ⟨_,e,q⟩=>by cases e;exact q,λq=>⟨_,rfl,q⟩⟩
theorem gN5 {v:V}{σ:St}{H:Hp}{Q:St->Hp->Prop}{b:Option V}{a0 a1 a2 a3 a4:Option V}:P1 5 v (a0::a1::a2::a3::a4::b::σ) H Q=Q (a0::a1::a2::a3::a4::some v::σ) H:=rfl
theorem tV6 {v:V}{σ:St}{H:Hp}{Q:VK}{a0 a1 a2 a3 a4 a5:Option V}:U6 6 (a0::a1::a2::a3::a4::a5::some v::σ) H Q=Q v H:=propext ⟨λ⟨_,e,q⟩=>by cases e;exact q,λq=>⟨_,rfl,q⟩⟩
theorem gN6 {v:V}{σ:St}{H:Hp}{Q:St->Hp->Prop}{b:Option V}{a0 a1 a2 a3 a4 a5:Option V}:P1 6 v (a0::a1::a2::a3::a4::a5::b::σ) H Q=Q (a0::a1::a2::a3::a4::a5::some v::σ) H:=rfl
theorem tV7 {v:V}{σ:St}{H:Hp}{Q:VK}{a0 a1 a2 a3 a4 a5 a6:Option V}:U6 7 (a0::a1::a2::a3::a4::a5::a6::some v::σ) H Q=Q v H:=propext ⟨λ⟨_,e,q⟩=>by cases e;exact q,λq=>⟨_,rfl,q⟩⟩
theorem gN7 {v:V}{σ:St}{H:Hp}{Q:St->Hp->Prop}{b:Option V}{a0 a1 a2 a3 a4 a5 a6:Option V}:P1 7 v (a0::a1::a2::a3::a4::a5::a6::b::σ) H Q=Q (a0::a1::a2::a3::a4::a5::a6::some v::σ) H:=rfl
theorem tV8 {v:V}{σ:St}{H:Hp}{Q:VK}{a0 a1 a2 a3 a4 a5 a6 a7:Option V}:U6 8 (a0::a1::a2::a3::a4::a5::a6::a7::some v::σ) H Q=Q v H:=propext ⟨λ⟨_,e,q⟩=>by cases e;exact q,λq=>⟨_,rfl,q⟩⟩
theorem gN8 {v:V}{σ:St}{H:Hp}{Q:St->Hp->Prop}{b:Option V}{a0 a1 a2 a3 a4 a5 a6 a7:Option V}:P1 8 v (a0::a1::a2::a3::a4::a5::a6::a7::b::σ) H Q=Q (a0::a1::a2::a3::a4::a5::a6::a7::some v::σ) H:=rfl
theorem tV9 {v:V}{σ:St}{H:Hp}{Q:VK}{a0 a1 a2 a3 a4 a5 a6 a7 a8:Option V}:U6 9 (a0::a1::a2::a3::a4::a5::a6::a7::a8::some v::σ) H Q=Q v H:=propext ⟨λ⟨_,e,q⟩=>by cases e;exact q,λq=>⟨_,rfl,q⟩⟩
theorem gN9 {v:V}{σ:St}{H:Hp}{Q:St->Hp->Prop}{b:Option V}{a0 a1 a2 a3 a4 a5 a6 a7 a8:Option V}:P1 9 v (a0::a1::a2::a3::a4::a5::a6::a7::a8::b::σ) H Q=Q (a0::a1::a2::a3::a4::a5::a6::a7::a8::some v::σ) H:=rfl
theorem b5i {v:V}{σ:St}{H:Hp}{Q:VK}{a0 a1 a2 a3 a4 a5 a6 a7 a8 a9:Option V}:U6 10 (a0::a1::a2::a3::a4::a5::a6::a7::a8::a9::some v::σ) H Q=Q v H:=propext ⟨λ⟨_,e,q⟩=>by cases e;exact q,λq=>⟨_,rfl,q⟩⟩
theorem b5F {v:V}{σ:St}{H:Hp}{Q:St->Hp->Prop}{b:Option V}{a0 a1 a2 a3 a4 a5 a6 a7 a8 a9:Option V}:P1 10 v (a0::a1::a2::a3::a4::a5::a6::a7::a8::a9::b::σ) H Q=Q (a0::a1::a2::a3::a4::a5::a6::a7::a8::a9::some v::σ) H:=rfl
theorem b5h {v:V}{σ:St}{H:Hp}{Q:VK}{a0 a1 a2 a3 a4 a5 a6 a7 a8 a9 a10:Option V}:U6 11 (a0::a1::a2::a3::a4::a5::a6::a7::a8::a9::a10::some v::σ) H Q=Q v H:=propext ⟨λ⟨_,e,q⟩=>by cases e;exact q,λq=>⟨_,rfl,q⟩⟩
theorem b5E {v:V}{σ:St}{H:Hp}{Q:St->Hp->Prop}{b:Option V}{a0 a1 a2 a3 a4 a5 a6 a7 a8 a9 a10:Option V}:P1 11 v (a0::a1::a2::a3::a4::a5::a6::a7::a8::a9::a10::b::σ) H Q=Q (a0::a1::a2::a3::a4::a5::a6::a7::a8::a9::a10::some v::σ) H:=rfl
theorem b5g {v:V}{σ:St}{H:Hp}{Q:VK}{a0 a1 a2 a3 a4 a5 a6 a7 a8 a9 a10 a11:Option V}:U6 12 (a0::a1::a2::a3::a4::a5::a6::a7::a8::a9::a10::a11::some v::σ) H Q=Q v H:=propext ⟨λ⟨_,e,q⟩=>by cases e;exact q,λq=>⟨_,rfl,q⟩⟩
theorem b5D {v:V}{σ:St}{H:Hp}{Q:St->Hp->Prop}{b:Option V}{a0 a1 a2 a3 a4 a5 a6 a7 a8 a9 a10 a11:Option V}:P1 12 v (a0::a1::a2::a3::a4::a5::a6::a7::a8::a9::a10::a11::b::σ) H Q=Q (a0::a1::a2::a3::a4::a5::a6::a7::a8::a9::a10::a11::some v::σ) H:=rfl
theorem b5f {v:V}{σ:St}{H:Hp}{Q:VK}{a0 a1 a2 a3 a4 a5 a6 a7 a8 a9 a10 a11 a12:Option V}:U6 13 (a0::a1::a2::a3::a4::a5::a6::a7::a8::a9::a10::a11::a12::some v::σ) H Q=Q v H:=propext ⟨λ⟨_,e,q⟩=>by cases e;exact q,λq=>⟨_,rfl,q⟩⟩
theorem b5C {v:V}{σ:St}{H:Hp}{Q:St->Hp->Prop}{b:Option V}{a0 a1 a2 a3 a4 a5 a6 a7 a8 a9 a10 a11 a12:Option V}:P1 13 v (a0::a1::a2::a3::a4::a5::a6::a7::a8::a9::a10::a11::a12::b::σ) H Q=Q (a0::a1::a2::a3::a4::a5::a6::a7::a8::a9::a10::a11::a12::some v::σ) H:=rfl
theorem b5e {v:V}{σ:St}{H:Hp}{Q:VK}{a0 a1 a2 a3 a4 a5 a6 a7 a8 a9 a10 a11 a12 a13:Option V}:U6 14 (a0::a1::a2::a3::a4::a5::a6::a7::a8::a9::a10::a11::a12::a13::some v::σ) H Q=Q v H:=propext ⟨λ⟨_,e,q⟩=>by cases e;exact q,λq=>⟨_,rfl,q⟩⟩
theorem b5B {v:V}{σ:St}{H:Hp}{Q:St->Hp->Prop}{b:Option V}{a0 a1 a2 a3 a4 a5 a6 a7 a8 a9 a10 a11 a12 a13:Option V}:P1 14 v (a0::a1::a2::a3::a4::a5::a6::a7::a8::a9::a10::a11::a12::a13::b::σ) H Q=Q (a0::a1::a2::a3::a4::a5::a6::a7::a8::a9::a10::a11::a12::a13::some v::σ) H:=rfl
theorem b5d {v:V}{σ:St}{H:Hp}{Q:VK}{a0 a1 a2 a3 a4 a5 a6 a7 a8 a9 a10 a11 a12 a13 a14:Option V}:U6 15 (a0::a1::a2::a3::a4::a5::a6::a7::a8::a9::a10::a11::a12::a13::a14::some v::σ) H Q=Q v H:=propext ⟨λ⟨_,e,q⟩=>by cases e;exact q,λq=>⟨_,rfl,q⟩⟩
theorem b5A {v:V}{σ:St}{H:Hp}{Q:St->Hp->Prop}{b:Option V}{a0 a1 a2 a3 a4 a5 a6 a7 a8 a9 a10 a11 a12 a13 a14:Option V}:P1 15 v (a0::a1::a2::a3::a4::a5::a6::a7::a8::a9::a10::a11::a12::a13::a14::b::σ) H Q=Q (a0::a1::a2::a3::a4::a5::a6::a7::a8::a9::a10::a11::a12::a13::a14::some v::σ) H:=rfl
theorem b5v {g:Int->Int->V}{i j:Int}{H:Hp}{Q:VK}:rI0 g (.int i) (.int j) H Q=Q (g i j) H:=propext ⟨λ⟨_,_,e,e',q⟩=>by cases e;cases e';exact q,λq=>⟨_,_,rfl,rfl,q⟩⟩
theorem rIi {C:Int->Int->Prop}{g:Int->Int->V}{i j:Int}{H:Hp}{Q:VK}:rI C g (.int i) (.int j) H Q=(C i j/\Q (g i j) H):=propext ⟨λ⟨_,_,e,e',q⟩=>by cases e;cases e';exact q,λq=>⟨_,_,rfl,rfl,q⟩⟩
theorem b4x {K:ac}{p:gK}{i:Int}{H:Hp}{Q:VK}:b0r K (.ref p) (.int i) H Q=∃ xs,SqL K H p xs/\∃ v,atI xs i=some v/\Q v H:=propext ⟨λ⟨_,_,_,_,e,e',a,b,q⟩=>by cases e;cases e';exact⟨_,a,_,b,q⟩,λ⟨_,a,_,b,q⟩=>⟨_,_,_,_,rfl,rfl,a,b,q⟩⟩
theorem b4w {K:ac}{p:gK}{i:Int}{H:Hp}{Q:VK}:b0q K (.ref p) (.int i) H Q=∃ xs,SqT K H p xs/\∃ v,atI xs i=some v/\Q v H:=propext ⟨λ⟨_,_,_,_,e,e',a,b,q⟩=>by cases e;cases e';exact⟨_,a,_,b,q⟩,λ⟨_,a,_,b,q⟩=>⟨_,_,_,_,rfl,rfl,a,b,q⟩⟩
theorem exB {b:Bool}{P:Bool->Prop}:(∃ k,V.bl b=V.bl k/\P k)=P b:=propext ⟨λ⟨_,e,q⟩=>by cases e;exact q,λq=>⟨_,rfl,q⟩⟩
theorem exI {b:Int}{P:Int->Prop}:(∃ k,V.int b=V.int k/\P k)=P b:=propext ⟨λ⟨_,e,q⟩=>by cases e;exact q,λq=>⟨_,rfl,q⟩⟩
theorem exR {b:gK}{P:gK->Prop}:(∃ k,V.ref b=V.ref k/\P k)=P b:=propext ⟨λ⟨_,e,q⟩=>by cases e;exact q,λq=>⟨_,rfl,q⟩⟩
theorem b5w {i j:Int}{H:Hp}{Q:VK}:rEq (.int i) (.int j) H Q=Q (.bl (decide (i=j))) H:=by
 unfold rEq;have e:decide (V.int i=V.int j)=decide (i=j):=by simp
 rw[e];simp[a8t]
theorem b5u {i j:Int}{H:Hp}{Q:VK}:rNe (.int i) (.int j) H Q=Q (.bl (!decide (i=j))) H:=by
 unfold rNe;have e:decide (V.int i=V.int j)=decide (i=j):=by simp
 rw[e];simp[a8t]
theorem b4R {K:ac}{p:gK}{H:Hp}{Q:VK}:b3E K [.ref p] H Q=∃ ys,(SqL K H p ys\/SqT K H p ys)/\Q (.int ys.length) H:=propext ⟨λ⟨_,ys,e,a,q⟩=>by cases e;exact⟨ys,a,q⟩,λ⟨ys,a,q⟩=>⟨_,ys,rfl,a,q⟩⟩
theorem al0 {α:Type}{P:List α->Prop}(h:P [])(us:List α)(hl:us.length=0):P us:=by cases us with
 | nil=>exact h
 | cons a r=>cases hl
theorem al1 {α:Type}{P:List α->Prop}(h:∀ a0,P [a0])(us:List α)(hl:us.length=1):P us:=by cases us with
 | nil=>cases hl
 | cons a r=>exact al0 (P:=λr=>P (a::r)) (h a) r (fF hl)
theorem al2 {α:Type}{P:List α->Prop}(h:∀ a0 a1,P [a0,a1])(us:List α)(hl:us.length=2):P us:=by cases us with
 | nil=>cases hl
 | cons a r=>exact al1 (P:=λr=>P (a::r)) (h a) r (fF hl)
theorem al3 {α:Type}{P:List α->Prop}(h:∀ a0 a1 a2,P [a0,a1,a2])(us:List α)(hl:us.length=3):P us:=by cases us with
 | nil=>cases hl
 | cons a r=>exact al2 (P:=λr=>P (a::r)) (h a) r (fF hl)
theorem al4 {α:Type}{P:List α->Prop}(h:∀ a0 a1 a2 a3,P [a0,a1,a2,a3])(us:List α)(hl:us.length=4):P us:=by cases us with
 | nil=>cases hl
 | cons a r=>exact al3 (P:=λr=>P (a::r)) (h a) r (fF hl)
theorem al5 {α:Type}{P:List α->Prop}(h:∀ a0 a1 a2 a3 a4,P [a0,a1,a2,a3,a4])(us:List α)(hl:us.length=5):P us:=by cases us with
 | nil=>cases hl
 | cons a r=>exact al4 (P:=λr=>P (a::r)) (h a) r (fF hl)
end L2
end
section
namespace L2
open PySem
theorem b3X {t u:TS}{D:U0}{σ:St}{H:Hp}:b2e t u D σ H=(t {D with nx:=u D} σ H):=rfl
theorem b4q {te:TE}{g:TG}{D:U0}{σ:St}{H:Hp}:a8n te g D σ H=(te σ H λx H1=>g x σ H1 D.nx):=rfl
theorem b5n {r:R2}{ta tb:TE}{σ:St}{H:Hp}{Q:VK}:tOp r ta tb σ H Q=(ta σ H λx H1=>tb σ H1 λy H2=>r x y H2 Q):=rfl
theorem tCA {v:V}{u0:St}{H:Hp}{Q:VK}:tC v u0 H Q=(Q v H):=rfl
theorem b3Z {te:TE}{D:U0}{σ:St}{H:Hp}:b4a te D σ H=(te σ H D.rt):=rfl
theorem b2f {D:U0}{u0:St}{H:Hp}:b3Y D u0 H=(D.rt .non H):=rfl
theorem b4k {c:TT}{t u:TS}{D:U0}{σ:St}{H:Hp}:b4l c t u D σ H=(c σ H λb H1=>if b=true then t D σ H1 else u D σ H1):=rfl
theorem b2d {t:TE}{σ:St}{H:Hp}{Q:Bool->Hp->Prop}:b1D t σ H Q=(t σ H λx H'=>∃ k,x=.bl k/\Q k H'):=rfl
theorem tBA {t:TE}{σ:St}{H:Hp}{Q:Bool->Hp->Prop}:tB t σ H Q=(t σ H λx H1=>∃ c,x=.bl c/\Q c H1):=rfl
theorem b2k {D:U0}{σ:St}{H:Hp}:b1I D σ H=(D.nx σ H):=rfl
theorem b2m {te:TE}{D:U0}{σ:St}{H:Hp}:b1J te D σ H=(te σ H λ_ H1=>D.nx σ H1):=rfl
theorem b2o {sp:Sp}{dvs:List V}{E:XK}{t:TA}{σ:St}{H:Hp}{Q:VK}:a5T sp dvs E t σ H Q=(t σ H λvs H1=>sp (vs++dvs) H1 Q E):=rfl
theorem b2n {ta:TE}{tr:TA}{σ:St}{H:Hp}{Q:List V->Hp->Prop}:a8l ta tr σ H Q=(ta σ H λx H1=>tr σ H1 λxs H2=>Q (x::xs) H2):=rfl
theorem b4g {u0:St}{H:Hp}{Q:List V->Hp->Prop}:b2j u0 H Q=(Q [] H):=rfl
theorem b5r {r:List V->Hp->VK->Prop}{t:TA}{σ:St}{H:Hp}{Q:VK}:tCB r t σ H Q=(t σ H λvs H1=>r vs H1 Q):=rfl
theorem b5s {K:ac}{T:String}{r:V->List V->Hp->VK->Prop}{to:TE}{t:TA}{σ:St}{H:Hp}{Q:VK}:tBM K T r to t σ H Q=(to σ H λx H1=>tyV K T x H1/\t σ H1 λxs H2=>r x xs H2 Q):=rfl
theorem b4p {K:ac}{T:String}{r:V->List V->Hp->VK->Prop}{to:TE}{σ:St}{H:Hp}{Q:VK}:b2p K T r to σ H Q=(to σ H λx H1=>tyV K T x H1/\r x [] H1 Q):=rfl
theorem b3V {t:TA}{σ:St}{H:Hp}{Q:VK}:b3W t σ H Q=(t σ H λxs H1=>xs.length<=sizeLine/\∀ p,H1 p=none->Q (.ref p) (upd H1 p (.tup xs))):=rfl
theorem b4h {t:TA}{σ:St}{H:Hp}{Q:VK}:b4i t σ H Q=(t σ H λxs H1=>xs.length<=sizeLine/\∀ p,H1 p=none->Q (.ref p) (upd H1 p (.lst xs))):=rfl
theorem b4I {K:ac}{n:Nat}{t:TGs}{v:V}{σ:St}{H:Hp}{Q:St->Hp->Prop}:b3r K n t v σ H Q=(∃ a xs,v=.ref a/\SqT K H a xs/\xs.length=n/\t xs σ H Q):=rfl
theorem b3s {t:TG}{u:TGs}{vs:List V}{σ:St}{H:Hp}{Q:St->Hp->Prop}:b1W t u vs σ H Q=(∃ v r,vs=v::r/\t v σ H fun σ' H'=>u r σ' H' Q):=rfl
theorem b4L {vs:List V}{σ:St}{H:Hp}{Q:St->Hp->Prop}:b4M vs σ H Q=(vs=[]/\Q σ H):=rfl
theorem b4J {to ti:TE}{t:a7W}{v:V}{σ:St}{H:Hp}{Q:St->Hp->Prop}:b4K to ti t v σ H Q=(to σ H λo H1=>ti σ H1 λi H2=>t o i v H2 λH3=>Q σ H3):=rfl
theorem b5k {r:V->Option Int->Option Int->Hp->VK->Prop}{te:TE}{tl th:TO}{σ:St}{H:Hp}{Q:VK}:tSl r te tl th σ H Q=(te σ H λx H1=>tl σ H1 λl H2=>th σ H2 λu H3=>r x l u H3 Q):=rfl
theorem a8g {u0:St}{H:Hp}{Q:Option Int->Hp->Prop}:a5R u0 H Q=(Q none H):=rfl
theorem b2g {t:TE}{σ:St}{H:Hp}{Q:Option Int->Hp->Prop}:b1F t σ H Q=(t σ H λx H1=>∃ i,x=.int i/\Q (some i) H1):=rfl
theorem b4r {t u:TT}{σ:St}{H:Hp}{Q:Bool->Hp->Prop}:b4s t u σ H Q=(t σ H λc H1=>if c=true then u σ H1 Q else Q false H1):=rfl
theorem b5m {t u:TT}{σ:St}{H:Hp}{Q:Bool->Hp->Prop}:tOr t u σ H Q=(t σ H λc H1=>if c=true then Q true H1 else u σ H1 Q):=rfl
theorem b4e {t:TT}{σ:St}{H:Hp}{Q:Bool->Hp->Prop}:b4f t σ H Q=(t σ H λc H1=>Q (!c) H1):=rfl
theorem b4n {ty td:TE}{σ:St}{H:Hp}{Q:VK}:b4o ty td σ H Q=(ty σ H λy H1=>td σ H1 λx H2=>∃ a o,x=.ref a/\a0f H2 a y o/\Q (.bl o.isSome) H2):=rfl
theorem a8i {ty td:TE}{σ:St}{H:Hp}{Q:VK}:a5S ty td σ H Q=(ty σ H λy H1=>td σ H1 λx H2=>∃ a o,x=.ref a/\a0f H2 a y o/\Q (.bl (!o.isSome)) H2):=rfl
theorem b2s {td ty tv:TE}{D:U0}{σ:St}{H:Hp}:b1N td ty tv D σ H=(tv σ H λv H1=>td σ H1 λx H2=>ty σ H2 λy H3=>∃ a H4,x=.ref a/\V7 H3 a y v H4/\D.nx σ H4):=rfl
theorem b3p {K:ac}{tl:TE}{σ:St}{H:Hp}{R:It->Hp->Prop}:a9D K tl σ H R=(tl σ H λx H1=>∃ a,x=.ref a/\(∃ xs,SqL K H1 a xs)/\R (Itl K a) H1):=rfl
theorem b4G {K:ac}{tl:TE}{σ:St}{H:Hp}{R:It->Hp->Prop}:b3m K tl σ H R=(tl σ H λx H1=>∃ a,x=.ref a/\(∃ xs,SqT K H1 a xs)/\R (Itt K a) H1):=rfl
theorem b3o {ta:TA}{σ:St}{H:Hp}{R:It->Hp->Prop}:b1U ta σ H R=(ta σ H λvs H1=>∃ j:Int,vs=[.int j]/\-(2 ^ 62)<=j/\j<2 ^ 62/\R (Itr 0 j.toNat) H1):=rfl
theorem b3n {ta:TA}{σ:St}{H:Hp}{R:It->Hp->Prop}:b1T ta σ H R=(ta σ H λvs H1=>∃ i j:Int,vs=[.int i,.int j]/\(-(2 ^ 62)<=i/\i<2 ^ 62/\-(2 ^ 62)<=j/\j<2 ^ 62)/\R (Itr i (j-i).toNat) H1):=rfl
theorem b0m {r r':R2}{ta tb tc:TE}{σ:St}{H:Hp}{Q:VK}:a8m r r' ta tb tc σ H Q=(ta σ H λx H1=>tb σ H1 λy H2=>r x y H2 λz H3=>∃ k,z=.bl k/\(if k=true then tc σ H3 λw' H4=>r' y w' H4 Q else Q (.bl false) H3)):=rfl
theorem b2q {ta tb:TE}{σ:St}{H:Hp}{Q:VK}:b1M ta tb σ H Q=(ta σ H λx H1=>∃ c,x=.bl c/\if c=true then tb σ H1 Q else Q (.bl false) H1):=rfl
theorem b4c {ta tb:TE}{σ:St}{H:Hp}{Q:VK}:b5l ta tb σ H Q=(ta σ H λx H1=>∃ c,x=.bl c/\if c=true then Q (.bl true) H1 else tb σ H1 Q):=rfl
theorem b2h {ta:TE}{σ:St}{H:Hp}{Q:VK}:b1G ta σ H Q=(ta σ H λx H1=>∃ c,x=.bl c/\Q (.bl (!c)) H1):=rfl
theorem b5j {r:V->Hp->VK->Prop}{ta:TE}{σ:St}{H:Hp}{Q:VK}:tUn r ta σ H Q=(ta σ H λx H1=>r x H1 Q):=rfl
theorem b3U {u0:St}{H:Hp}{Q:Bool->Hp->Prop}:b2c u0 H Q=(Q true H):=rfl
theorem b0l {u0:St}{H:Hp}{Q:VK}:a8k u0 H Q=(∀ p,H p=none->Q (.ref p) (upd H p (.dK []))):=rfl
theorem b0k {u0:St}{H:Hp}{Q:VK}:a8j u0 H Q=(∀ p,H p=none->Q (.ref p) (upd H p (.dT []))):=rfl
theorem b4j {ta:TE}{σ:St}{H:Hp}{Q:VK}:b5p ta σ H Q=(ta σ H λx H1=>Q (.bl (decide (x=.non))) H1):=rfl
theorem b2i {ta:TE}{σ:St}{H:Hp}{Q:VK}:b1H ta σ H Q=(ta σ H λx H1=>Q (.bl (!decide (x=.non))) H1):=rfl
theorem b5o {own:List Str}{fr:List (Str×Nat)}{wi:TI}{g:TG}{tc:TT}{te:TE}{σ:St}{H:Hp}{Q:VK}:tLC own fr wi g tc te σ H Q=wi σ H λJ H1=>∀ p,H1 p=none->lcW g tc te p J (st0 own fr σ) (upd H1 p (.lst [])) λH2=>Q (.ref p) H2:=rfl
theorem b5q {t:Bool}{own:List Str}{fr:List (Str×Nat)}{wi:TI}{g:TG}{tc:TT}{te tv:TE}{σ:St}{H:Hp}{Q:VK}:tDC t own fr wi g tc te tv σ H Q=wi σ H λJ H1=>∀ p,H1 p=none->dcW g tc te tv p J (st0 own fr σ) (upd H1 p (a2o t)) λH2=>Q (.ref p) H2:=rfl
end L2
end
section
namespace L2
open PySem
theorem a1o {l l':List Int}(p:l.Perm l'):l.sum=l'.sum:=by
 induction p with
 | nil=>rfl
 | cons x _ ih=>rw[bo,bo,ih]
 | swap x y l=>simp only[bo];omega
 | trans _ _ h1 h2=>exact h1.trans h2
theorem a5U (f:Int->Int)(p:Int->Bool):∀ l:List Int,(l.map f).sum=((l.filter p).map f).sum+((l.filter λx=>!p x).map f).sum
 | []=>rfl
 | a::l=>by
  have ih:=a5U f p l;by_cases h:p a=true
  ·rw[cP h,cQ (by simp[h]),aA,aA,bo,bo];omega
  ·rw[cQ h,cP (~~~h),aA,aA,bo,bo];omega
theorem a1p {f:Int->Int}{hs S:List Int}(h1:hs.Nodup)(h2:S.Nodup)(hk:∀ x∈hs,x∈S):(S.map f).sum=(hs.map f).sum+((S.filter λx=>!decide (x∈hs)).map f).sum:=by
 rw[a5U f (λx=>decide (x∈hs)) S];congr 1;refine a1o (List.Perm.map f ((cB (h2.filter _) h1).mpr λx=>?_));rw[aM];constructor
 ·intro h;simpa using h.2
 ·intro h;exact⟨hk x h, ~~~h⟩
theorem a8o {f g:Int->Int}:∀ {l:List Int},(∀ x∈l,f x<=g x)->(l.map f).sum<=(l.map g).sum
 | [],_=>by simp
 | a::l,h=>by
  have h1:=h a (by simp);have h2:=a8o (l:=l) λx hx=>h x (by simp[hx])
  rw[aA,aA,bo,bo];omega
theorem a3P {f g:Int->Int}{s:Int}(hs:0<=s):∀ {l:List Int},(∀ x∈l,g x<=f x)->(∃ x∈l,g x+s<=f x)->(l.map g).sum+s<=(l.map f).sum
 | [],_,⟨x,hx,_⟩=>by cases hx
 | a::l,h,⟨x,hx,hxs⟩=>by
  rw[aA,aA,bo,bo];rcases aL.mp hx with rfl | hx
  ·have:=a8o (f:=g) (g:=f) (l:=l) λy hy=>h y (by simp[hy])
   omega
  ·have h1:=h a (by simp);have:=a3P hs (l:=l) (λy hy=>h y (by simp[hy])) ⟨x,hx,hxs⟩;omega
inductive T9 (ts:⋯)(S:List Int):List Int->Prop
 | one {u:Int}:u∈S->T9 ts S [u]
 | more {l:List Int} {x y:Int}:T9 ts S l->x∈S->x∉l->y∈l->x∈nb ts y->T9 ts S (x::l)
theorem T9.nd {ts:⋯}{S l:List Int}(g:T9 ts S l):l.Nodup:=by
 induction g with
 | one _=>simp
 | more _ _ hn _ _ ih=>exact bX.mpr ⟨hn,ih⟩
theorem T9.sub {ts:⋯}{S l:List Int}(g:T9 ts S l):∀ x∈l,x∈S:=by
 induction g with
 | one h=>intro x hx;rw[aq.mp hx];exact h
 | more _ h _ _ _ ih =>
  intro x hx;rcases aL.mp hx with rfl | hx
  ·exact h
  ·exact ih x hx
theorem T9.step {n:Int}{ts:⋯}{S l:List Int}(g:T9 ts S l)(hS:Hng ts S){z:Int}(hz:z∈S)(hzl:z∉l):∃ x y,x∈S/\x∉l/\y∈l/\x∈nb ts y:=by
 obtain⟨u,hu⟩:∃ u,u∈l:=by cases g with
  | one _=>exact⟨_,aq.mpr rfl⟩
  | more _ _ _ _ _=>exact⟨_,aL.mpr (.inl rfl)⟩
 have r:=hS.2 u (g.sub u hu) z hz;refine aR λhn=>?_
 have:∀ w,Rch ts (·∈S) u w->w∈l:=λw rw'=>by
  induction rw' with
  | base=>exact hu
  | @step y x k hx hxS ih=>exact aR λhxl=>hn ⟨x,y,hxS,hxl,ih,hx⟩
 exact hzl (this z r)
theorem T9.all {ts:⋯}{S:List Int}(hS:Hng ts S)(hnd:S.Nodup):∀(k:Nat),k<S.length->∃ l,T9 ts S l/\l.length=k+1
 | 0,h=>by
  obtain⟨u,hu⟩:=cG S hS.1;exact⟨[u],.one hu,rfl⟩
 | k+1,h=>by
  obtain⟨l,g,hl⟩:=T9.all hS hnd k ∅;obtain⟨z,hz,hzl⟩:∃ z∈S,z∉l:=aR λhn=>by
   have:=X7 hnd (l:=l) λx hx=>aR λh=>hn ⟨x,hx,h⟩
   omega
  obtain⟨x,y,a,b,c,d⟩:=g.step (n:=0) hS hz hzl;exact⟨x::l,.more g a b c d,by rw[aw,hl]⟩
theorem T9.cover {n:Int}{ts:⋯}{S l:List Int}(hok:Q6 n ts)(hlt:∀ v,(nb ts v).Nodup)(g:T9 ts S l):∃ c:List Int,c.Nodup/\(∀ x,x∈c↔x∈l\/∃ y∈l,x∈nb ts y)/\(c.length:Int)<=2+(l.map (W2 ts)).sum:=by
 induction g with
 | @one u h =>
  refine⟨u::nb ts u,bX.mpr ⟨λk=>(T8 hok k).2.2.2.2 rfl,hlt u⟩,λx=>?_,?_⟩
  ·rw[aL];simp
  ·rw[aA,ce,bo,i8,aw];unfold W2;omega
 | @more l x y g hx hxl hy hxy ih =>
  obtain⟨c,hc,hm,hl⟩:=ih;have hxc:x∈c:=(hm x).mpr (.inr ⟨y,hy,hxy⟩);have hyx:y∈nb ts x:=(X8 hok).mp hxy;have hyc:y∈c:=(hm y).mpr (.inl hy);refine⟨c++(nb ts x).filter λz=>!decide (z∈c),dO.mpr ⟨hc,(hlt x).filter _,λa ha b hb e=>?_⟩,λz=>?_,?_⟩
  ·subst e;have:=(aM.mp hb).2;simp at this;exact this ha
  ·rw[aj,aM];constructor
   ·rintro (h | ⟨h,_⟩)
    ·rcases (hm z).mp h with h | ⟨w,hw,h⟩
     ·exact .inl (by simp[h])
     ·exact .inr ⟨w,by simp[hw],h⟩
    ·exact .inr ⟨x,by simp,h⟩
   ·rintro (h | ⟨w,hw,h⟩)
    ·rcases aL.mp h with rfl | h
     ·exact .inl hxc
     ·exact .inl ((hm z).mpr (.inl h))
    ·rcases aL.mp hw with rfl | hw
     ·by_cases hz:z∈c
      ·exact .inl hz
      ·exact .inr ⟨h, ~~~hz⟩
     ·exact .inl ((hm z).mpr (.inr ⟨w,hw,h⟩))
  ·have h1:=Z7 (us:=c) (l:=nb ts x);have h2:1<=((nb ts x).filter λz=>decide (z∈c)).length:=fQ (aM.mpr ⟨hyx, ~~~hyc⟩);rw[aA,bo,aI];unfold W2 at hl ⊢;omega
theorem a5M {n:Int}{ts:⋯}{S:List Int}(hok:Q6 n ts)(hsr:ts.Pairwise Lex)(h0:0<=n)(hB:Q1 n ts S)(hnd:S.Nodup):n<=2+(S.map (W2 ts)).sum:=by
 have hpos:0<S.length:=dB.mpr hB.1.1;obtain⟨l,g,hl⟩:=T9.all hB.1 hnd (S.length-1) ∅;have hall:=a5y g.nd (λx hx=>g.sub x hx) ∅ hnd;obtain⟨c,hc,hm,hcl⟩:=g.cover hok λv=>C1 (a6D hok hsr v)
 have e:(l.map (W2 ts)).sum=(S.map (W2 ts)).sum:=a1o (List.Perm.map _ ((cB g.nd hnd).mpr λx=>⟨λh=>g.sub x h,λh=>hall x h⟩));have:(B7 0 n.toNat).length<=c.length:=X7 (C1 (Q4 _)) λx hx=>by
  have hx:=E9.mp hx;rw[hm];by_cases hxS:x∈S
  ·exact .inl (hall x hxS)
  ·obtain⟨y,hy,hyS⟩:=hB.2 x hx.1 ∅ hxS;exact .inr ⟨y,hall y hyS,(X8 hok).mp hy⟩
 rw[B6] at this;omega
theorem a1n:∀ {d l r:List Int} {k:Nat},d.Pairwise (·>=·)->(∀ x∈d,0<=x)->d.Perm (l++r)->l.length<=k->l.sum<=(d.take k).sum
 | [],l,r,k,_,_,hp,_=>by
  have:l=[]:=(List.append_eq_nil_iff.mp hp.symm.eq_nil).1;subst this;simp
 | a::d,[],r,k,hd,h0,hp,_=>by
  rw[i8];exact W6 λx hx=>h0 x (jp hx)
 | a::d,b::l,r,0,_,_,_,hk=>by rw[aw] at hk;omega
 | a::d,b::l,r,k+1,hd,h0,hp,hk=>by
  rw[List.take_succ_cons];have hd':=(cq.mp hd).2;have h0':∀ x∈d,0<=x:=λx hx=>h0 x (by simp[hx])
  rw[aw] at hk;by_cases ha:a∈b::l
  ·have p1:=jn ha;have p2:d.Perm ((b::l).erase a++r):=List.Perm.cons_inv (a:=a) (hp.trans (p1.append_right r));have hlen:((b::l).erase a).length<=k:=by have:=p1.length_eq;rw[aw,aw] at this;omega
   have ih:=a1n hd' h0' p2 hlen;rw[a1o p1,bo,bo];omega
  ·have har:a∈r:=by
    have:a∈(b::l)++r:=hp.mem_iff.mp (by simp);rcases aj.mp this with h | h
    ·exact absurd h ha
    ·exact h
   have hba:b<=a:=by
    have hb:b∈a::d:=hp.mem_iff.mpr (by simp);rcases aL.mp hb with e | hb
    ·omega
    ·exact (cq.mp hd).1 b hb
   have p1:=jn har;have p2:(a::d).Perm (a::(l++(b::r.erase a))):=by
    refine hp.trans (((p1.append_left (b::l))).trans ?_);refine (List.perm_middle (a:=a) (l₁:=b::l) (l₂:=r.erase a)).trans (List.Perm.cons a ?_);exact (List.perm_middle (a:=b) (l₁:=l) (l₂:=r.erase a)).symm
   have ih:=a1n hd' h0' p2.cons_inv (by omega:l.length<=k);rw[bo,bo];omega
theorem b0h {l m r:List Int}{k:Nat}(h0:∀ x∈m,0<=x)(hs:m.Perm (l++r))(hk:l.length<=k):l.sum<=b0i k m:=by
 have hp:=jz m λa b=>decide (b<=a)
 exact a1n (a3d m) (λx hx=>h0 x (hp.mem_iff.mp hx)) (hp.trans hs) hk
theorem b0j {n lim:Int}{ts:⋯}{hs bs S:List Int}(hok:N8 n ts)(hh:hs.Nodup)(hB:Q1 n ts S)(hnd:S.Nodup)(hr:∀ x∈S,0<=x/\x<n)(hk:a1c hs bs S)(hg:∀ x,0<=x->x<n->0<=W2 ts x)(hl:(S.length:Int)<=lim):a0T n ts hs bs lim=false:=by
 have h3:=hok.n3;have h1:=a5M hok.rng hok.srt ∅ hB hnd;rw[a1p hh hnd hk.1] at h1;have hfnd:(J1 n hs bs).Nodup:=C1 P2;have hsub:(J1 n hs bs).Perm ((S.filter λx=>!decide (x∈hs))++(J1 n hs bs).filter λx=>!decide (x∈S)):=by
  refine (List.filter_append_perm (λx=>decide (x∈S)) (J1 n hs bs)).symm.trans (List.Perm.append_right _ ?_);refine (cB (hfnd.filter _) (hnd.filter _)).mpr λx=>?_
  unfold J1;rw[aM,aM,aM,E9];constructor
  ·rintro⟨⟨_,h1⟩,h2⟩;have h1:x∉hs++bs:= ~~~h1
   exact⟨ ~~~h2,by simp;exact λk=>h1 (aj.mpr (.inl k))⟩
  ·rintro⟨h1,h2⟩;have r:=hr x h1;have h3:x∉bs:=λk=>hk.2 x k h1
   have h4:x∉hs:= ~~~h2
   exact⟨⟨⟨r.1,∅⟩,by simp[h3,h4]⟩, ~~~h1⟩
 have hlen:(S.filter λx=>!decide (x∈hs)).length+hs.length=S.length:=by
  have:=Z7 (us:=hs) (l:=S)
  have e:(S.filter λx=>decide (x∈hs)).length=hs.length:=iH ((cB (hnd.filter _) hh).mpr λx=>by
   rw[aM]
   exact⟨λh=> ~~~h.2,λh=>⟨hk.1 x h, ~~~h⟩⟩)
  omega
 have h2:=b0h (k:=(lim-hs.length).toNat) (r:=((J1 n hs bs).filter λx=>!decide (x∈S)).map (W2 ts)) (l:=(S.filter λx=>!decide (x∈hs)).map (W2 ts)) (m:=(J1 n hs bs).map (W2 ts)) (λx hx=>by
  obtain⟨y,hy,rfl⟩:=bq.mp hx;have:=E9.mp (aM.mp hy).1
  exact hg y this.1 ∅) (by rw[<- aE];exact hsub.map _) (by rw[aa];omega)
 unfold a0T;exact decide_eq_false ∅
end L2
end
section
namespace L2
open PySem PySem.Spec PyProof.Rows
section
variable {X:Cx}
def b3D (K:ac):List V->Hp->VK->Prop:=λxs H Q=>∃(p:Addr) (ns:List Int),xs=[.ref p]/\SqL K H p (ns.map V.int)/\ns≠[]/\∀ m:Int,m∈ns->(∀ a∈ns,m<=a)->Q (.int m) H
theorem a7P (hh:X.A.handled=none):J7 X (.builtin "min") (b3D X.K):=by
 intro pins s σ H xs us Q I r h;obtain⟨p,ns,rfl,hq,hne,q⟩:=h;obtain⟨u,rfl,ru⟩:=Q3 r;cases ru;obtain⟨its,rv,pl,hz⟩:=I.list hq;have hl:s.heap.IsList p its.toArray:=pl.isList;have hi:=P0 rv;obtain⟨zs,e,e2⟩:=a1b hi;rw[e] at hl;have hsz:0<zs.size:=by
  have h1:zs.toList.length=ns.length:=by rw[<- e2,aa]
  rw[aU] at h1;have:=dB.mpr hne;omega
 refine min_intList hh hl hsz λv h' tk hv hk=>?_
 obtain⟨t,rfl⟩:=intItems_at hv;obtain⟨h1,h2⟩:=argBest_lt (numAt zs) (zs.size-1);refine⟨.int _,H,I.kept hk,⟨t,rfl⟩,q _ ?_ λa ha=>?_⟩
 ·rw[numAt_eq,e2];exact getD_mem (by rw[<- e2,aa,aU];omega)
 ·obtain⟨j,hj,rfl⟩:=mem_getD ha;rw[<- e2,aa,aU] at hj;rw[<- e2,<- numAt_eq];exact h2 j ∅
theorem b4F (K:ac)(hh:X.A.handled=none)(h:X.K=K:=by rfl):J7 X (.builtin "min") (b3D K):=by subst h;exact a7P hh
end
def b1Q (K:ac):V->V->Hp->VK->Prop:=λx y H Q=>∃ p xs i v,x=.ref p/\y=.int i/\SqL K H p xs/\0<=i/\xs[i.toNat]?=some v/\Q v H
theorem a7B {X:Cx}(K:ac)(h:X.K=K:=by rfl):b4W X (b1Q K):=by
 subst h;intro pins s σ H o i ov iv Q I ro ri h;obtain⟨p,xs,k,v,rfl,rfl,hp,h0,hx,q⟩:=h;cases ro;obtain⟨t,rfl⟩:=ri;obtain⟨its,r,pl,hz⟩:=I.list hp;obtain⟨w,ew,rw'⟩:=r.get hx;have hn:=a0N;have hl:=(ai.mp hx).1;exact PyProof.Rows.getItem_listL pl.isList h0 ∅ ew ⟨v,H,I,rw',q⟩
def a3I (H:Hp)(p:Addr)(rows:⋯):Prop:=∃ ps:List (Addr×List Int),H p=some (.tup (ps.map λx=>V.ref x.1))/\(∀ x∈ps,H x.1=some (.tup (x.2.map V.int)))/\ps.map (·.2)=rows.map λr=>[r.1,r.2,1]
theorem a3I.tp {H H':Hp}{p:Addr}{rows:⋯}(h:a3I H p rows)(t:Tp H H'):a3I H' p rows:=by
 obtain⟨ps,e,hr,hs⟩:=h;exact⟨ps,t _ _ e,λx hx=>t _ _ (hr x hx),hs⟩
end L2
end
section
namespace L2
open PySem
def a2l (ts:⋯)(os:List Int)(x:Int):Bool:=!decide (x∈os) && os.all λy=>!decide (x∈nb ts y)
section
variable {n:Int}{ts gs:⋯}{os ins:List Int}{k:Nat}
theorem a1k {x:Int}:a2l ts os x=true↔x∉os/\∀ y∈os,x∉nb ts y:=by
 unfold a2l;simp
theorem a5Q {x:Int}:a2l ts os x=false↔x∈os\/∃ y∈os,x∈nb ts y:=by
 rw[<- gW,a1k];constructor
 ·intro h;by_cases h1:x∈os
  ·exact .inl h1
  ·by_cases h2:∃ y∈os,x∈nb ts y
   ·exact .inr h2
   ·exact absurd ⟨h1,λy hy hx=>h2 ⟨y,hy,hx⟩⟩ h
 ·rintro (h | ⟨y,hy,hx⟩) ⟨h1,h2⟩
  ·exact h1 h
  ·exact h2 y hy hx
end
end L2
end
section
namespace L2
open PySem PySem.Spec PyProof.Rows PySem.W
theorem I0.ne {H:Hp}{tb:Addr}{q:Str}{l c:Nat}(h:I0 H tb q l c){a:Addr}{o:HO}(e:H a=some o)(ho:∀ ps,o≠.tbl ps):a≠tb:=λz=>by
 rw[z] at e;rcases h with h | ⟨_,h,_⟩<;>(rw[h] at e;exact ho _ (ak e).symm)
theorem I0.free {H H':Hp}{tb:Addr}{q:Str}{l c:Nat}(h:I0 H' tb q l c)(k:Kp tb H H'){x:Addr}(n:H' x=none):H x=none:=by
 cases e:H x with
 | none=>rfl
 | some o =>
  by_cases z:x=tb
  ·rw[z] at n;rcases h with h | ⟨_,h,_⟩<;>(rw[h] at n;cases n)
  ·rw[k x o z e] at n;cases n
theorem I0.tp {H H':Hp}{tb:Addr}{q:Str}{l c:Nat}(h:I0 H tb q l c)(k:Kp tb H H'):Tp H H':=λa xs e=>k a _ (h.ne e λ_ z=>nomatch z) e
theorem I0.lst {H:Hp}{tb:Addr}{q:Str}{l c:Nat}(h:I0 H tb q l c){a:Addr}{xs:List V}(e:H a=some (.lst xs)){o:HO}:I0 (upd H a o) tb q l c:=by
 have hn:=h.ne e λ_ z=>nomatch z
 rcases h with h | ⟨c',h1,h2⟩
 ·exact .inl (by rw[B3 hn.symm];exact h)
 ·refine .inr ⟨c',by rw[B3 hn.symm];exact h1,?_⟩;rw[B3 (λz=>by rw[z,e] at h2;unfold Y5 at h2;cases h2)];exact h2
theorem I0.kp {H H':Hp}{tb d:Addr}{q:Str}{l c:Nat}(h:I0 H tb q l c)(k:Kp d H H')(hd:P4 H d):I0 H' tb q l c:=by
 obtain⟨ds,e,_⟩:=hd;have hn:=h.ne e λ_ z=>nomatch z
 rcases h with h | ⟨c',h1,h2⟩
 ·exact .inl (k _ _ hn.symm h)
 ·exact .inr ⟨c',k _ _ hn.symm h1,k _ _ (λz=>by rw[z,e] at h2;unfold Y5 at h2;cases h2) h2⟩
theorem P4.lam {H H':Hp}{tb d:Addr}{q:Str}{l c:Nat}(hd:P4 H d)(h:I0 H tb q l c)(k:Kp tb H H'):P4 H' d:=by
 obtain⟨ds,e,hl⟩:=hd;exact⟨ds,k _ _ (h.ne e λ_ z=>nomatch z) e,hl⟩
theorem E4.lam {H H':Hp}{tb rp:Addr}{as:List Addr}{rows:List (List Int)}{q:Str}{l c:Nat}(hR:E4 H rp as rows)(h:I0 H tb q l c)(k:Kp tb H H'):E4 H' rp as rows:=hR.mono λa o ha e=>k a o (h.ne e (by
 rcases ha with ha | ha
 ·subst ha;rw[hR.top] at e;cases e;exact λ_ z=>nomatch z
 ·obtain⟨j,hj⟩:=di.mp ha;have hjl:=(ai.mp hj).1;rw[hR.len] at hjl;rw[hR.row j a _ hj (aG hjl)] at e
  cases e;exact λ_ z=>nomatch z)) e
theorem Q0.cat {H:Hp}{ps qs:List (Addr×List Int)}{ts us:⋯}(h:Q0 H ps ts)(h':Q0 H qs us):Q0 H (ps++qs) (ts++us):=⟨λx hx=>(aj.mp hx).elim (h.to x) (h'.to x),by rw[aE,aE,h.eq,h'.eq]⟩
end L2
end
section
namespace L2
open PySem PySem.Spec PyProof.Rows PySem.W
theorem a7q {P:Program}{w:World}{K:ac}{mg mb:Str->Option Value}{CX:CXT}{k:Nat}{fa a c tb:Addr}{fd:FuncData}{x:Str}{sp:Sp}{sq:Shared}{vs:List Value}{ns:List Int}
  (KX:K.In sq.heap) (hns:sq.heap.Ns mainGlobals mg) (hb:sq.heap.Ns builtinsNs mb) (hbb:∀ x:Str,x≠"__name__"->mb x=bootBuiltins x) (hlim:sq.heap.NoLimit) (hg:sq.gens=#[])
  (hT:sq.heap.get? tb=some (tabObj #[])) (hC:CodeHd sq.heap c tb) (hKt:K.lookup tb=none) (hBm:Bm mg sq.heap)
  (ha:sq.heap.get? a=some {cls:=.type "list",data:=.seq vs.toArray}) (hi:IntsAre vs ns) (hl:ns.length<=sizeLine) (hr:N3 k callerA)
  (F:∀ base:Heap,K.In base->base.Ns mainGlobals mg->CodeHd base c tb->Bm mg base->C0 P w K mg base CX k fa fd [x] sp) (hbind:∀(s:Shared) (u:Value),BindsTo s fd ⟨[u],[]⟩ [(x,u)])
  (hsp:∀ H:Hp,H tb=some (.tbl #[])->SqL K H a (ns.map V.int)->sp [.ref a] H (λv _=>v=.bl true) λ_ _ _=>False)
  (hCX:∀ H e s',CX [] H sq (λ_ _ _=>False) e s'->False) :
  codeAny (model P w) callerA (.call (.ref fa) ⟨[.ref a],[]⟩) (λr s'=>r=.ok (.ret (.bool true))/\OldK sq.heap s'.heap/\s'.os=sq.os/\AllBare s'.gens) sq:=by
 have rv:=T1 hi;have lenV:=hi.length;have hat:a≠tb:=λz=>by rw[z,hT] at ha;cases ha
 have core:∀ H:Hp,H tb=some (.tbl #[])->(∀ b,H b=none\/b=tb\/∃ o xs,H b=some (.frz o (.lst xs)))->SqL K H a (ns.map V.int)->HOk P w H sq.heap->(∀ b,H b≠none->b=a\/b=tb)->(H a≠none->K.lookup a=none) ->
   codeAny (model P w) callerA (.call (.ref fa) ⟨[.ref a],[]⟩) (λr s'=>r=.ok (.ret (.bool true))/\OldK sq.heap s'.heap/\s'.os=sq.os/\AllBare s'.gens) sq:=by
  intro H htb hO hS hok hA hK;have base_of:∀ {b:Addr} {o:Obj},sq.heap.get? b=some o->H b=none->(a0e sq.heap H).get? b=some o:=λe n=>a4H e n
  have noB:∀ {b:Addr} {o:Obj},sq.heap.get? b=some o->(∀ its n,o.data≠.seq its n)->b≠tb->H b=none:=λ{b o} e d nt=>by
   cases q:H b with
   | none=>rfl
   | some u =>
    rcases hA b (by rw[q];simp) with e' | e'
    ·subst e';rw[ha] at e;cases e;exact absurd rfl (d _ _)
    ·exact absurd e' nt
  have noA:∀ {b:Addr} {o:Obj} {es:Array DictEntry} {ep:Nat},sq.heap.get? b=some o->o.data=.dict es ep->H b=none:=λ{b o es ep} e d =>
   noB e (λ_ _ z=>by rw[d] at z;cases z) λz=>by
    rw[z,hT] at e;cases e;cases d
  have nsK:∀ {b:Addr} {m:Str->Option Value},sq.heap.Ns b m->(a0e sq.heap H).Ns b m:=λ{b m} ⟨o,es,ep,e,d,r⟩=>⟨o,es,ep,base_of e (noA e d),d,r⟩
  have hKb:K.In (a0e sq.heap H):=λb o e=>base_of (KX b o e) (by
   cases q:H b with
   | none=>rfl
   | some u =>
    rcases hA b (by rw[q];simp) with e' | e'
    ·subst e';rw[hK (by rw[q];simp)] at e;cases e
    ·subst e'
     rw[hKt] at e;cases e)
  have hM:Mod K mg (a0e sq.heap H):=⟨hKb,nsK hns,⟨mb,nsK hb,hbb⟩,let ⟨mc,h1,h2⟩:=hlim;⟨mc,nsK h1,h2⟩⟩
  have hCb:CodeHd (a0e sq.heap H) c tb:=by
   obtain⟨o,vs,file,tf,flags,tg,inF,text,tt,e,h1,h2,r⟩:=hC;exact⟨o,vs,file,tf,flags,tg,inF,text,tt,base_of e (noB e (λ_ _ z=>by rw[h2] at z;cases z) r.2.2.2.2.2.2),h1,h2,r⟩
  have hBb:Bm mg (a0e sq.heap H):=by
   obtain⟨bm,o,b1,b2,b3,b4,b5,b6⟩:=hBm;exact⟨bm,o,b1,b2,base_of b3 (noB b3 (λ_ _ z=>by rw[b6] at z;cases z) λz=>by rw[z,hT] at b3;cases b3;cases b6),b4,b5,b6⟩
  have e0:a2k P w K mg (a0e sq.heap H) callerA [] sq H:=⟨rfl,hM,λb o e=>a6C e,dy (a3a _ _),trivial,λb hb=>absurd (show b∈([]:List Addr) from hb) (by simp),hok,.of_eq hg⟩
  refine codeAny_mono ((F _ hKb (nsK hns) hCb hBb).run callerA [] sq H ⟨[.ref a],[]⟩ [.ref a] [.ref a] _ _ hr e0 (hbind sq (.ref a)) (.cons rfl .nil) (hsp H htb hS)) λr s' h=>?_
  cases r with
  | error e=>exact (hCX H e s' h).elim
  | ok fl =>
   cases fl with
   | next=>exact bS h
   | brk=>exact bS h
   | cont=>exact bS h
   | ret u =>
    obtain⟨v,H',os,bare,un,hok',r',q⟩:=h;have q':v=.bl true:=q;subst q';obtain rfl:u=aJ true:=r';obtain⟨more,em⟩:=un.tbls tb #[] htb;have et:s'.heap.get? tb=some (tabObj (#[]++more)):=hok' tb _ em;have kp:∀ b o,b≠tb->sq.heap.get? b=some o->s'.heap.get? b=some o:=λb o nb e=>by
     cases q:H b with
     | none=>exact un.keep b o e q (by intro z;exact absurd (show b∈([]:List Addr) from z) (by simp)) (by simp)
     | some u =>
      rcases hO b with z | z | ⟨ob,xs,z⟩
      ·rw[q] at z;cases z
      ·exact absurd z nb
      ·have z2:=un.frzs b ob _ z;obtain⟨e1,_⟩:=hok b _ z;obtain⟨e2,_⟩:=hok' b _ z2;rw[e] at e1;cases e1;exact e2
    refine⟨rfl,⟨λb o e=>?_,λb o e=>?_⟩,os,bare⟩
    ·by_cases hb:b=tb
     ·subst hb;rw[hT] at e;cases e;exact .inr (.inl ⟨(hC.tab hT).isCodeTable,rfl,#[],more,rfl,et⟩)
     ·exact .inl (kp b o hb e)
    ·by_cases hb:b=tb
     ·exact⟨_,hb ▸ et⟩
     ·exact⟨o,kp b o hb e⟩
 cases hk:K.lookup a with
 | some o =>
  have e:=KX a o hk;rw[ha] at e;cases e;refine core (λb=>if b=tb then some (.tbl #[]) else none) (if_pos rfl) (λb=>?_) (.inr ⟨_,vs.toArray,_,hk,rfl,rfl,rfl,by rw[aD,lenV];exact hl, ~~~rv⟩) (λb u z=>?_) (λb z=>?_) λz=>absurd (if_neg hat) z
  ·by_cases hb:b=tb
   ·exact .inr (.inl hb)
   ·exact .inl (if_neg hb)
  ·by_cases hb:b=tb
   ·have z':=(if_pos hb).symm.trans z;cases z';subst hb;exact hT
   ·have z':=(if_neg hb).symm.trans z;cases z'
  ·by_cases hb:b=tb
   ·exact .inr hb
   ·exact absurd (if_neg hb) z
 | none =>
  refine core (λb=>if b=tb then some (.tbl #[]) else if b=a then some (.frz {cls:=.type "list",data:=.seq vs.toArray} (.lst (ns.map V.int))) else none) (if_pos rfl) (λb=>?_) (.inl (.inr ⟨{cls:=.type "list",data:=.seq vs.toArray},(if_neg hat).trans (if_pos rfl)⟩)) (λb u z=>?_) (λb z=>?_) λ_=>hk
  ·by_cases hb:b=tb
   ·exact .inr (.inl hb)
   ·by_cases hb2:b=a
    ·exact .inr (.inr ⟨_,_,(if_neg hb).trans (if_pos hb2)⟩)
    ·exact .inl ((if_neg hb).trans (if_neg hb2))
  ·by_cases hb:b=tb
   ·have z':=(if_pos hb).symm.trans z;cases z';subst hb;exact hT
   ·have z:=(if_neg hb).symm.trans z;by_cases hb2:b=a
    ·have z':=(if_pos hb2).symm.trans z;cases z';subst hb2;exact⟨ha,by rw[aa];exact hl,vs,_,rv,ha⟩
    ·have z':=(if_neg hb2).symm.trans z;cases z'
  ·by_cases hb:b=tb
   ·exact .inr hb
   ·by_cases hb2:b=a
    ·exact .inl hb2
    ·exact absurd ((if_neg hb).trans (if_neg hb2)) z
theorem a7X {l:fM}{n k:Nat}{q:Program}{loose:List Str}{XP:(Str->Option Value)->Heap->Prop}{YP:World->Heap->Prop}{d:DefRec}{K:Params->ac}{sp:ac->Sp}{x:Str}{c tb:Addr}
  (hn:l.most=some n) (hn2:n<=sizeLine) (hdf:d.params.defaults=[]) (hr:N3 k callerA)
  (hY:∀(w:World) (h:Heap),YP w h->(K w.params).In h/\h.get? tb=some (tabObj #[]))
  (hC:∀ w:World,codeHdIn (K w.params) c tb=true) (hK:∀ w:World,(K w.params).lookup tb=none)
  (F:∀(w:World) (mg:Str->Option Value) (fa:Addr) (h:Heap),(K w.params).In h->h.Ns mainGlobals mg->mg d.name=some (.ref fa) ->
   ∃ fd:FuncData,(∀(s:Shared) (u:Value),BindsTo s fd ⟨[u],[]⟩ [(x,u)]) /\
    ∀ base:Heap,(K w.params).In base->base.Ns mainGlobals mg->CodeHd base c tb->Bm mg base->C0 l.prog w (K w.params) mg base CX0 k fa fd [x] (sp (K w.params)))
  (hsp:∀(K:ac) (H:Hp) (a:Addr) (ns:List Int),ns.length<=n->H tb=some (.tbl #[])->SqL K H a (ns.map V.int)->sp K [.ref a] H (λv _=>v=.bl true) λ_ _ _=>False) :
  ig q loose XP YP l.row.toRowW d [] (λf vs=>iu f vs):=by
 refine Att.attach_call hn hdf λw sv sq mg mb fa o pm cd doc a vs ns G Y ho hd hcd hmg hobj hints hlen hg=>?_
 obtain⟨KX,hT⟩:=hY w _ Y;obtain⟨fd,hb,hF⟩:=F w mg fa _ KX G.T.g hmg;exact a7q KX G.T.g G.T.b G.T.builtins G.T.nolimit hg hT (codeHd_of_K KX (hC w)) (hK w) (let ⟨bm,ob,b1,b2,b3,b4,b5,b6⟩:=G.T.bmain;⟨bm,ob,b1,b2,b3,b4,b5,b6⟩) hobj hints (aV hlen hn2) hr hF hb (λH h1 h2=>hsp _ H a ns hlen h1 h2) λ_ _ _ z=>z
section
variable {P:Program}{w:World}{K:ac}{mg:Str->Option Value}{base:Heap}
theorem b1m {x qual:Str}{st:Stmt}{f c:Addr}{oc:Value}{od an:Option Addr}{osl:Array (Option Value)}{kV doc pm ct:Value}{N ps:List Str}{k:Nat}{sp:Sp}(l:K.lookup f=some ⟨oc,od,.func (cj x qual (P7 st) (M9 st) (A4 st) .none kV doc pm an (.ref c) ct),osl⟩)
  (hcd:du K (.ref c) qual=true) (S:B8 N ps (A4 st)) (len:∀ vs H Q E,sp vs H Q E->vs.length=ps.length)
  (hbody:∀(A:Around) (outer:List Env) (s:Shared) (H:Hp) (vs:List V) (Q:VK) (E:XK),N3 k (A.deeper (envOfC qual (A4 st) s.heap.objs.size f (.ref c)))->sp vs H Q E ->
   ∃ t,PSs (a1d CX0 P w K mg base N qual (A4 st) f (.ref c) A outer s H E).nox (M9 st) t/\t {nx:=λ_ H'=>Q .non H',rt:=Q} (N4 N vs) H) :
  C0 P w K mg base CX0 (k+1) f (cj x qual (P7 st) (M9 st) (A4 st) .none kV doc pm an (.ref c) ct) ps sp:=by
 refine a9I l hcd S len λA outer s H vs Q E hr hsp=>?_
 obtain⟨t,h,q⟩:=hbody A outer s H vs Q E hr hsp;exact⟨t,h.nox,q⟩
end
end L2
end
section
namespace L2
open PySem PySem.Spec PyProof.Rows PySem.W
section
variable {X:Cx}{pins:List (Addr×Obj)}{σ:St}{H:Hp}{s:Shared}
theorem a7n {xs:List V}{q l IT SB:Addr}{R:Result->Shared->Prop}{kf:Nat->Int}{J:Hp->Prop}(hh:X.A.handled=none)(hl:∀ H s,Inv X pins σ H s->J H->∃ us,C9 xs us/\s.heap.IsList l us.toArray)(hlI:l≠IT)(hSI:SB≠IT)
  (turn:a0d X pins σ q xs kf J)
  (hR:∀(i:Nat) (x:V) (v:Value) (H:Hp) (s:Shared),xs[i]?=some x->D0 x v->(∀ j,j<xs.length->kf i>=kf j/\(j<i->kf i>kf j))->Inv X pins σ H s->J H->R (.ok (.ret v)) s) :
  ∀(r j i:Nat) (H:Hp) (s:Shared) (vb:Value) (tb:Tok) (c:Nat),xs.length-(j+1)=r->j+1<=xs.length->Inv X pins σ H s->J H->K5 X pins H SB->K5 X pins H IT ->
   s.heap.get? SB=some (seqObj "list" #[vb,.int (kf i) tb] c)->s.heap.IsListIter IT l (j+1)->(∃ x,xs[i]?=some x/\D0 x vb)->i<=j->(∀ j',j'<=j->kf i>=kf j'/\(j'<i->kf i>kf j')) ->
   codeAny (model X.prog X.w) X.A (.builtin "max.loop" ⟨[.ref IT,.ref q,.ref SB],[]⟩) R s:=by
 have hname:(toString "max"++toString ".loop":String)="max.loop":=by decide
 have WW:=λus:List Value=>gG (prog:=X.prog) (w:=X.w) (A:=X.A.in1) hh IT l hlI us.toArray
 intro r;induction r with
 | zero =>
  intro j i H s vb tb c hr hj I hJ fS fI eS hit hvb hij hbest;have hin:j+1=xs.length:=∅
  obtain⟨us,hv,hlt⟩:=hl H s I hJ;have W:=WW us;have hsz:us.toArray.size=xs.length:=(aD ..).trans hv.length.symm;refine codeAny_builtin cU ?_;rw[bM bd _];show wpAny _ X.A.in1 (seqItems? (.ref SB) >>= _) _ _ _;refine ae (ef eS rfl ?_);show wpAny _ X.A.in1 (tryCatch (pyNext (.ref IT)) _ >>= _) _ _ _;refine ae (cw (W.done _ _ _ ⟨by rw[hsz,<- hin];exact hit,hlt⟩ λh' tk' hk'=>?_));have I1:Inv X pins σ H {s with heap:=h',toks:=tk'}:=I.turned (λb o hb e=>hk' b o (~~~hb) e) fI.un fI.loc (.inr fI.new) fI.cel fI.pin;have hS':=hk' SB _ (~~~hSI) eS;have s1:=bj h' SB (Obj.mapSeq λ_=>(#[]:Array Value));show wpAny _ X.A.in1 (updateSeq SB (λ_=>#[]) >>= _) _ _ _;refine ae ?_;refine dQ hS' rfl (ae (eF (ag ?_)));obtain⟨x,ex,rx⟩:=hvb;exact hR i x vb H _ ex rx (λj' hj'=>hbest j' ∅) (fS.inv I1 s1) hJ
 | succ r ih =>
  intro j i H s vb tb c hr hj I hJ fS fI eS hit hvb hij hbest;have hlt:j+1<xs.length:=∅
  obtain⟨us,hv,hltu⟩:=hl H s I hJ;have W:=WW us;have hsz:us.toArray.size=xs.length:=(aD ..).trans hv.length.symm;refine codeAny_builtin cU ?_;rw[bM bd _];show wpAny _ X.A.in1 (seqItems? (.ref SB) >>= _) _ _ _;refine ae (ef eS rfl ?_);show wpAny _ X.A.in1 (tryCatch (pyNext (.ref IT)) _ >>= _) _ _ _;refine ae (cw (W.item (j+1) _ _ _ (by rw[hsz];exact hlt) ⟨hit,hltu⟩ λv h' tk' hP hst' hk'=>?_));have hvv:us[j+1]?=some v:= ~~~hP
  obtain⟨oI',hoI',hoc,hod⟩:=id hst'.1;have I1:Inv X pins σ H {s with heap:=h',toks:=tk'}:=I.turned (λb o hb e=>hk' b o (~~~hb) e) fI.un fI.loc (.inr fI.new) fI.cel fI.pin;have eS1:=hk' SB _ (~~~hSI) eS;have I2:=I1.pin2 fS fI eS1 hoI' (λv=>by simp[seqObj]) (λv=>by rw[hod];simp);obtain⟨x,ex,rx⟩:=a0q hv hvv;show wpAny _ X.A.in1 (tryCatch (holding [v] (call (.ref q) [v])) _ >>= _) _ _ _;refine ae (cw (bJ (bB (turn (j+1) x v _ _ H ex rx I2 hJ) (λy s'' he=>?_) λ_ _ hF=>hF.elim)));obtain⟨t2,H2,rfl,I3,hJ2⟩:=he;have pS:=I3.pin (SB,seqObj "list" #[vb,.int (kf i) tb] c) (aB _ (aB _ (.head _)));have pI:=I3.pin (IT,oI') (aB _ (aB _ (.tail _ (.head _))));have I4:Inv X pins σ H2 s'':=I3.unpinned;have fS2:K5 X pins H2 SB:=fS.upd pS.2.1;have fI2:K5 X pins H2 IT:=fI.upd pI.2.1;have hit2:s''.heap.IsListIter IT l (j+1+1):=⟨oI',pI.1,hoc,hod⟩
  show wpAny _ X.A.in1 (tryCatch (holding [v,.int (kf (j+1)) t2] (richCompare .Gt (.int (kf (j+1)) t2) (.int (kf i) tb) >>= _)) _ >>= _) _ _ _;refine ae (cw (bJ (ae (CmpOf.ints_gt (prog:=X.prog) (w:=X.w) (A:=X.A.in1) (P:=λi v=>∃ t,v=.int (kf i) t) kf (λi v h=>h) (j+1) i _ _ _ _ _ ⟨t2,rfl⟩ ⟨tb,rfl⟩ ?_))));refine ae (bJ (cb ?_));refine ae (eF (ag ?_));by_cases hb':kf (j+1)>kf i
  ·have s1:=bj s''.heap SB (Obj.mapSeq λ_=>#[v,.int (kf (j+1)) t2]);obtain⟨c2,hc2⟩:∃ c2,(s''.heap.update SB (Obj.mapSeq λ_=>#[v,.int (kf (j+1)) t2])).get? SB=some (seqObj "list" #[v,.int (kf (j+1)) t2] c2):=⟨_,get?_update_seq pS.1 λ_=>#[v,.int (kf (j+1)) t2]⟩
   simp only[hb',decide_true,if_true];refine ae ?_;refine dQ pS.1 rfl (ae (eF ?_));rw[hname];refine ag ⟨plainId_quiet bd _,ih (j+1) (j+1) H2 _ v t2 c2 ∅ hlt (fS2.inv I4 s1) hJ2 fS2 fI2 hc2 ⟨oI',(s1.2 IT hSI.symm).trans pI.1,hoc,hod⟩ ⟨x,ex,rx⟩ (ao _) λj' hj'=>?_⟩;by_cases e:j'=j+1
   ·subst e;exact⟨∅,λ_=>∅⟩
   ·have hb1:=hbest j' ∅;have hb2:=hb1.1;exact⟨∅,λ_=>∅⟩
  ·simp only[hb',decide_false,bE,if_false];refine ae (eF ?_);rw[hname];refine ag ⟨plainId_quiet bd _,ih (j+1) i H2 _ vb tb c ∅ hlt I4 hJ2 fS2 fI2 pS.1 hit2 hvb ∅ λj' hj'=>?_⟩;by_cases e:j'=j+1
   ·subst e;exact⟨∅,λ_=>∅⟩
   ·exact hbest j' ∅
theorem a9j {xs:List V}{q l:Addr}{Q:Value->Shared->Prop}{E:Value->Shared->Prop}{kf:Nat->Int}{J:Hp->Prop}(hh:X.A.handled=none)(hl:∀ H s,Inv X pins σ H s->J H->∃ us,C9 xs us/\s.heap.IsList l us.toArray)
  (I:Inv X pins σ H s) (hJ:J H) (hne:0<xs.length) (turn:a0d X pins σ q xs kf J)
  (hQ:∀(i:Nat) (x:V) (v:Value) (H:Hp) (s:Shared),xs[i]?=some x->D0 x v->(∀ j,j<xs.length->kf i>=kf j/\(j<i->kf i>kf j))->Inv X pins σ H s->J H->Q v s) :
  wpAny (model X.prog X.w) X.A (call (.builtin "max") [.ref l] [(aS "key",.ref q)]) Q E s:=by
 have hname:(toString "max"++toString ".loop":String)="max.loop":=by decide
 obtain⟨us0,hv0,hls⟩:=hl H s I hJ;obtain⟨ol,hol,_⟩:=id hls;have hll:l<s.heap.objs.size:=ar hol;refine kmk_tree PySem.F.kind_max jh ji (kmk_max_key _ _) ?_;show wpAny _ X.A.in1 (dr "max" ["key", "default"] 0 ⟨[],[(aS "key",.ref q)]⟩ >>= _) _ _ s;refine ae (fW (show dr "max" ["key", "default"] 0 ⟨[],[(aS "key",.ref q)]⟩=pure [some (.ref q),none] from rfl) ?_);refine ae (ag ?_);refine ae (dY hls ?_);refine ae (fX ?_ (bf _));rw[hname];generalize hIT:s.heap.objs.size=IT at *
 generalize hh1:s.heap.push {cls:=.type "list_iterator",data:=.fields #[.ref l,.int 0 0]}=h1 at *
 generalize hSB:h1.objs.size=SB at *
 have hS:SB=IT+1:=by rw[<- hSB,<- hh1,<- hIT];exact jy ..
 have hlI:l≠IT:=aK hll;have hSI:SB≠IT:=by rw[hS];exact dw (eY _)
 refine ag ⟨plainId_quiet bd _,?_⟩;have kk:∀ b o,s.heap.get? b=some o->(h1.push (seqObj "list" #[] 0)).get? b=some o:=λb o e=>af _ (by rw[<- hh1];exact af _ e)
 have nI:H IT=none:=I.hok.fresh (dy hIT);have nS:H SB=none:=I.hok.fresh (by rw[hS,hIT];exact dM _);have fI:K5 X pins H IT:=K5.new' I (dy hIT) nI;have fS:K5 X pins H SB:=K5.new' I (by rw[hS,hIT];exact dM _) nS;have gI:(h1.push (seqObj "list" #[] 0)).get? IT=some {cls:=.type "list_iterator",data:=.fields #[.ref l,.int 0 0]}:=af _ (by rw[<- hh1,<- hIT];exact au _ rfl);have gS:(h1.push (seqObj "list" #[] 0)).get? SB=some (seqObj "list" #[] 0):=by rw[<- hSB];exact au _ rfl
 have IH:∀ t',Inv X pins σ H {s with heap:=h1.push (seqObj "list" #[] 0),toks:=t'}:=λt'=>I.kept kk
 obtain⟨us,hv,hltu⟩:=hl _ _ (IH s.toks) hJ;have W:=gG (prog:=X.prog) (w:=X.w) (A:=X.A.in1) hh IT l hlI us.toArray;have hsz:us.toArray.size=xs.length:=(aD ..).trans hv.length.symm;refine codeAny_builtin cU ?_;rw[bM bd _];show wpAny _ X.A.in1 (seqItems? (.ref _) >>= _) _ _ _;refine ae (ef gS rfl ?_);show wpAny _ X.A.in1 (tryCatch (pyNext (.ref IT)) _ >>= _) _ _ _;refine ae (cw (W.item 0 _ _ _ (by rw[hsz];exact hne) ⟨⟨_,gI,rfl,rfl⟩,hltu⟩ λv h' tk' hP hst' hk'=>?_));have hvv:us[0]?=some v:= ~~~hP
 obtain⟨oI',hoI',hoc,hod⟩:=id hst'.1;have I1:Inv X pins σ H {s with heap:=h',toks:=tk'}:=(IH s.toks).turned (λb o hb e=>hk' b o (~~~hb) e) fI.un fI.loc (.inr fI.new) fI.cel fI.pin;have eS1:=hk' SB _ (~~~hSI) gS;have I2:=I1.pin2 fS fI eS1 hoI' (λv=>by simp[seqObj]) (λv=>by rw[hod];simp);obtain⟨x,ex,rx⟩:=a0q hv hvv;show wpAny _ X.A.in1 (tryCatch (holding [v] (call (.ref q) [v])) _ >>= _) _ _ _;refine ae (cw (bJ (bB (turn 0 x v _ _ H ex rx I2 hJ) (λy s'' he=>?_) λ_ _ hF=>hF.elim)));obtain⟨t2,H2,rfl,I3,hJ2⟩:=he;have pS:=I3.pin (SB,seqObj "list" #[] 0) (aB _ (aB _ (.head _)));have pI:=I3.pin (IT,oI') (aB _ (aB _ (.tail _ (.head _))));have I4:Inv X pins σ H2 s'':=I3.unpinned;have fS2:K5 X pins H2 SB:=fS.upd pS.2.1;have fI2:K5 X pins H2 IT:=fI.upd pI.2.1;have s1:=bj s''.heap SB (Obj.mapSeq λ_=>#[v,.int (kf 0) t2]);obtain⟨c2,hc2⟩:∃ c2,(s''.heap.update SB (Obj.mapSeq λ_=>#[v,.int (kf 0) t2])).get? SB=some (seqObj "list" #[v,.int (kf 0) t2] c2):=⟨_,get?_update_seq pS.1 λ_=>#[v,.int (kf 0) t2]⟩
 show wpAny _ X.A.in1 (updateSeq SB (λ_=>#[v,.int (kf 0) t2]) >>= _) _ _ _;refine ae ?_;refine dQ pS.1 rfl ?_;rw[hname];refine ag ⟨plainId_quiet bd _,a7n hh hl hlI hSI turn (λi x v H s a b c d e=>hQ i x v H s a b c d e) _ 0 0 H2 _ v t2 c2 rfl hne (fS2.inv I4 s1) hJ2 fS2 fI2 hc2 ⟨oI',(s1.2 IT hSI.symm).trans pI.1,hoc,hod⟩ ⟨x,ex,rx⟩ (ao _) λj' hj'=>?_⟩;have e:j'=0:=∅
 subst e;exact⟨∅,λh=>absurd h (bG _)⟩
def a8h (P:Addr)(qual:Str)(line col:Nat)(fr:List (Str×Nat))(ta:TA)(te:TE):TE:=fun σ H Q=>ta σ H λvs H1=>∃(l:Addr) (xs:List V),vs=[.ref l]/\(H1 l=some (.tup xs)\/H1 l=some (.lst xs))/\0<xs.length/\I0 H1 P qual line col/\∃ kf:Nat->Int,
 (∀ i v H2,xs[i]?=some v->(∀ b o,b≠P->H1 b=some o->H2 b=some o)->I0 H2 P qual line col->te (stL v fr σ) H2 λr H3=>r=.int (kf i)/\B5 H2 H3) /\
 ∀ i v H3,xs[i]?=some v->(∀ j,j<xs.length->kf j<=kf i/\(j<i->kf j<kf i))->(∀ b o,b≠P->H1 b=some o->H3 b=some o)->I0 H3 P qual line col->Q v H3
theorem a8D {params:Arguments}{e body:Expr}{scope:Scope}{p pos lpos:Pos}{kw:Keyword}{c P:Addr}{x:Str}{fr:List (Str×Nat)}{ta:TA}{te:TE}{k:Nat}(hcalm:X.calm=true)(hr:N3 (k+2) X.A)(hg:Gl X "max")(hm:X.mg "max"=none)(hkw:kw.arg=some "key"/\kw.value=.Lambda params body scope lpos)
  (hc:a0o scope X.env.scope=true) (hfr:a0P X scope fr) (hx:scope.names.lookup x=some .local) (hco:scope.isCoroutine=false) (hgen:scope.isGenerator=false) (hdef:defaultsOf params X.env=([],[])) (hcd:X.env.code=.ref c) (C:CodeHd X.base c P) (B:Bm X.mg X.base)
  (hbind:∀(qual:Str) (cl:List (Str×Addr)) (pm cv ctv u:Value),bindArgs (kla_fn "<lambda>" qual params body scope cl pm cv ctv) ⟨[u],[]⟩=pure [(x,u)])
  (ha:PA X [e] ta)
  (hb:∀(q c':Addr) (A':Around) (pins':List (Addr×Obj)) (s:Shared) (H:Hp),N3 k (A'.deeper (a7I X (X.env.qual++"<lambda>") scope q c' s.heap.objs.size))->PE (cxL X (X.env.qual++"<lambda>") scope (x::fr.map (·.1)) pins' q c' A' s H) body te)
  (he:backTo pos (starEach [e] X.env)=(false,eval e X.env)::backTo pos (starEach [] X.env):=by rfl) (hpl:(backTo pos (starEach [e] X.env)).any (·.1)=false:=by rfl) :
  PE X (.Call (.Name "max" p) [e] [kw] pos) (a8h P (X.env.qual++"<lambda>") lpos.line lpos.col fr ta te):=by
 intro pins s σ H Q I h;have hc:=V4 hc;obtain⟨ka,kv⟩:=kw;obtain⟨rfl,rfl⟩:=hkw;refine bR (S8 I hg hm iK ?_ (by decide) (by decide));refine PyProof.Rows.callWith_kw (thn (ha pos pins s σ H _ I h) λus s1 ⟨vs,H1,I1,r1,l,xs,e1,hl,hne,hL,kf,step,fin⟩=>?_) he hpl rfl rfl;subst e1;obtain⟨u,rfl,ru⟩:∃ u,us=[u]/\D0 (.ref l) u:=by
  cases r1 with
  | cons r t=>cases t;exact⟨_,rfl,r⟩
 obtain rfl:u=.ref l:=ru;have hlP:l≠P:=by
  rcases hL with q | ⟨_,q,_⟩<;>(rcases hl with hl | hl<;>exact a9h hl q (by simp))
 show wpAny _ _ (evalAll [do let v <- eval (.Lambda params body scope lpos) X.env;standAt pos;pure v]) _ _ s1;refine jW (ae ?_);refine a9o (c:=c) (P:=P) I1 hc hdef hcd C B hL λf c' pm ctv s2 H2 kp2 hC2 hL2 I2=>?_
 refine ae (dG (ag ?_));refine j9 ?_;show wpAny _ _ (call (.builtin "max") [.ref l] [(aS "key",.ref f)]) _ _ s2;have hJ:∀ {H:Hp},((∀ b o,b≠P->H1 b=some o->H b=some o)/\I0 H P (X.env.qual++"<lambda>") lpos.line lpos.col/\H c'=some (Y5 c' (X.env.qual++"<lambda>")))->(H l=some (.tup xs)\/H l=some (.lst xs)):=λz=>hl.imp (z.1 l _ hlP) (z.1 l _ hlP)
 have KC:a0d X (pins++[(f,jE "<lambda>" (X.env.qual++"<lambda>") params body scope (clo X.env scope.names []) pm c' ctv)]) σ f xs kf (λH=>(∀ b o,b≠P->H1 b=some o->H b=some o)/\I0 H P (X.env.qual++"<lambda>") lpos.line lpos.col/\H c'=some (Y5 c' (X.env.qual++"<lambda>"))):=by
  refine a7r (x:=x) (te:=te) (k:=k) hcalm hr hc hfr hx hco hgen (aB _ (.head _)) (λH z=>z.2.2) (λu=>hbind _ _ _ _ _ _) (λA' pins' s H=>hb f c' A' pins' s H) λi v H ev z=>?_
  exact⟨_,step i v H ev z.1 z.2.1,λr H3 ⟨e3,sm⟩=>⟨e3,λb o hb e=>sm _ _ (z.1 b o hb e),z.2.1.same sm,sm _ _ z.2.2⟩⟩
 have fin':∀(i:Nat) (x:V) (v:Value) (H:Hp) (s:Shared),xs[i]?=some x->D0 x v->(∀ j,j<xs.length->kf i>=kf j/\(j<i->kf i>kf j))->Inv X (pins++[(f,jE "<lambda>" (X.env.qual++"<lambda>") params body scope (clo X.env scope.names []) pm c' ctv)]) σ H s->((∀ b o,b≠P->H1 b=some o->H b=some o)/\I0 H P (X.env.qual++"<lambda>") lpos.line lpos.col/\H c'=some (Y5 c' (X.env.qual++"<lambda>")))->EP X pins σ Q v s:=λi v u H3 s3 ev ru best I3 z =>
  ⟨v,H3,I3.unpinned,ru,fin i v H3 ev (λj hj=>⟨(best j hj).1,(best j hj).2⟩) z.1 z.2.1⟩
 rcases hl with hl | hl
 ·refine b0W (hr.hd) (λH s I z=>?_) I2 ⟨kp2,hL2,hC2⟩ hne KC fin';obtain⟨its,hv,ht,_⟩:=I.tuple (SqT.of (z.1 l _ hlP hl));exact⟨its,hv,ht⟩
 ·refine a9j (hr.hd) (λH s I z=>?_) I2 ⟨kp2,hL2,hC2⟩ hne KC fin';obtain⟨its,hv,⟨o,n,e,hc,hd,hs⟩,_⟩:=I.list (SqL.of (z.1 l _ hlP hl));exact⟨its,hv,⟨o,e,hc,n,hs⟩⟩
def b4d (K:ac)(ta tb:TE):TE:=fun σ H Q=>ta σ H λx H1=>∃ k,b1z K x H1 k/\if k=true then Q x H1 else tb σ H1 Q
theorem b2C {a b:Expr}{a0v:List Expr}{pos:Pos}{ta tb:TE}(K:ac)(ha:PE X a ta)(hb:PE X (.BoolOp .Or (b::a0v) pos) tb)(h:X.K=K:=by rfl):PE X (.BoolOp .Or (a::b::a0v) pos) (b4d K ta tb):=by
 subst h;intro pins s σ H Q I h;refine BoolOp_or (thn (ha pins s σ H _ I h) λv s1 ⟨x,H1,I1,r1,k,tk,q1⟩=>?_);refine thn (a8d pins s1 σ H1 x v (λb H2=>if b=true then Q x H2 else tb σ H2 Q) I1 r1 ⟨k,tk,q1⟩) λc s2 ⟨H2,I2,q2⟩=>?_
 cases c with
 | true=>exact⟨x,H2,I2,r1,q2⟩
 | false=>exact hb pins s2 σ H2 Q I2 q2
end
end L2
end
section
namespace L2
open PySem PySem.Spec PyProof.Rows PySem.W
def KpD (H H':Hp):Prop:=∀ a o,H a=some o->((∃ xs,o=.tup xs)\/(∃ xs,o=.lst xs)\/∃ b u,o=.frz b u)->H' a=some o
theorem B5.kpD {H H':Hp}(s:B5 H H'):KpD H H':=λa o e _=>s a o e
theorem I0.kpD {H H':Hp}{tb:Addr}{q:Str}{l c:Nat}(h:I0 H tb q l c)(k:Kp tb H H'):KpD H H':=λa o e ho=>k a o (h.ne e λps z=>by
 rcases ho with ⟨_,rfl⟩ | ⟨_,rfl⟩ | ⟨_,_,rfl⟩<;>cases z) e
theorem KpD.seqT {K:ac}{H H':Hp}{a:Addr}{xs:List V}(e:KpD H H')(h:SqT K H a xs):SqT K H' a xs:=by
 rcases h with (h | ⟨o,h⟩) | h
 ·exact .inl (.inl (e _ _ h (.inl ⟨_,rfl⟩)))
 ·exact .inl (.inr ⟨o,e _ _ h (.inr (.inr ⟨_,_,rfl⟩))⟩)
 ·exact .inr h
theorem KpD.seqL {K:ac}{H H':Hp}{a:Addr}{xs:List V}(e:KpD H H')(h:SqL K H a xs):SqL K H' a xs:=by
 rcases h with (h | ⟨o,h⟩) | h
 ·exact .inl (.inl (e _ _ h (.inr (.inl ⟨_,rfl⟩))))
 ·exact .inl (.inr ⟨o,e _ _ h (.inr (.inr ⟨_,_,rfl⟩))⟩)
 ·exact .inr h
mutual
theorem Dt.kpD {K:ac}{H H':Hp}(s:KpD H H'):∀ {v:V} {d:PyData},Dt K H v d->Dt K H' v d
 | _,_,.non=>.non
 | _,_,.bl b=>.bl b
 | _,_,.int i=>.int i
 | _,_,.str x=>.str x
 | _,_,.tup h t=>.tup (s.seqT h) (Dts.kpD s t)
 | _,_,.lst h t=>.lst (s.seqL h) (Dts.kpD s t)
theorem Dts.kpD {K:ac}{H H':Hp}(s:KpD H H'):∀ {v:List V} {d:List PyData},Dts K H v d->Dts K H' v d
 | _,_,.nil=>.nil
 | _,_,.cons h t=>.cons (Dt.kpD s h) (Dts.kpD s t)
end
end L2
end
section
namespace L2
open PySem PySem.Spec PyProof.Rows
theorem HOk.there {P:Program}{w:World}{H:Hp}{h:Heap}{a:Addr}{o:HO}(x:HOk P w H h)(e:H a=some o):∃ ob,h.get? a=some ob:=by
 have y:=x a o e;clear e;induction o with
 | lst xs=>obtain⟨_,_,_,_,e⟩:=y;exact⟨_,e⟩
 | tup xs=>obtain⟨_,_,_,o,e,_⟩:=y;exact⟨_,e⟩
 | dK kvs=>obtain⟨_,_,_,_,o,_,_,e,_⟩:=y;exact⟨_,e⟩
 | dT kvs=>obtain⟨_,_,_,_,o,_,_,e,_⟩:=y;exact⟨_,e⟩
 | set S n=>obtain⟨o,_,_,_,e,_⟩:=y;exact⟨_,e⟩
 | ins C dx fs=>obtain⟨_,_,_,e,_⟩:=y;exact⟨_,e⟩
 | own y'=>obtain⟨_,e⟩:=y;exact⟨_,e⟩
 | xd fs=>obtain⟨_,⟨_,_,_,e,_⟩,_⟩:=y;exact⟨_,e⟩
 | rng lo hi=>obtain⟨_,_,_,e⟩:=y;exact⟨_,e⟩
 | frz ob u ih=>obtain⟨e,_⟩:=y;exact⟨_,e⟩
 | tbl ps=>exact⟨_,(show h.get? a=some _ from y)⟩
 | met f y'=>exact⟨_,(show h.get? a=some _ from y)⟩
 | ext φ=>obtain⟨_,⟨_,e⟩,_⟩:=y;exact⟨_,e⟩
theorem HOk.part {P:Program}{w:World}{H:Hp}{h B:Heap}(x:HOk P w H h)(k:∀ b u,H b≠none->h.get? b=some u->B.get? b=some u):HOk P w H B:=λa o e =>
 (x a o e).stay (λb u hb q=>k b u (by rcases hb with rfl | hb;(· rw[e];simp);(· rw[hb];simp)) q) (λ_ q=>q) λ_ _ q=>q
theorem a9H {h B:Heap}{l:List Env}{b:Addr}{o:Obj}{vs:Array Value}(F:h.FunFrames B l)(e:h.get? b=some o)(d:o.data=.fields vs):b∉frs l:=λhb=>by
 obtain⟨_,o',e',d'⟩:=F.mem hb;rw[e] at e';cases e';exact d' vs d
structure Fl (P:Program)(w:World)(outer:List Env)(H:Hp)(h:Heap)(ea C:Addr)(H':Hp)(h':Heap):Prop where
 fly:∃ B a0,i5 B outer ea (.ref C) a0 h'/\HOk P w H' B/\(∀ b o,h.get? b=some o->H b=none->b∉frs outer->B.get? b=some o)/\∀ b o,h.get? b=some o->b∉frs outer->∃ ob,B.get? b=some ob
 un:Un (frs outer) [] H H' h h'
 nea:H' ea=none
def CX1 (P:Program)(w:World):CXT:=λouter H s E e s'=>∃(ea C:Addr) (H':Hp),e=.ref ea/\s'.os=s.os/\AllBare s'.gens/\Fl P w outer H s.heap ea C H' s'.heap/\E (.ref C) none H'
theorem Fl.hok {P:Program}{w:World}{outer:List Env}{H H':Hp}{h h':Heap}{ea C:Addr}(x:Fl P w outer H h ea C H' h'):HOk P w H' h':=by
 obtain⟨B,a0,⟨f1,_⟩,ok,_⟩:=x.fly;exact ok.kept f1
theorem b3A {K:ac}{h:Heap}{C:Addr}{bmB:List Value}{newId:String}(X:K.In h)(q:PySem.W.excIn K C bmB newId=true) :
  ∃ bm N nm qn bs hdct sn sub ab col dd k0 k1 k2 k3 k5 mN,h.get? C=some (excClassObj nm qn C N bs bm hdct sn sub ab col dd k0 k1 k2 k3 k5 newId)/\h.Ns N mN/\mN "__init__"=none/\OwnTail h bmB bm:=by
 unfold PySem.W.excIn at q;split at q
 ·rename_i dd cd sl ho;split at q
  ·rename_i C' bm k0 k1 k2 k3 n k5 hm hs;simp only[df,beq_iff_eq,gP] at q;obtain⟨⟨⟨⟨⟨rfl,rfl⟩,hdel⟩,ht⟩,hok⟩,hni⟩:=q;obtain⟨nm,bs,mro,ns,qn,hd,sn,sub,ab,col,del⟩:=cd;dsimp only at hm hdel hok hni;subst hm hdel;have hsl:sl=#[k0,k1,k2,k3,some (.builtin n),k5]:=by
    obtain⟨l⟩:=sl;simp only at hs;rw[hs]
   subst hsl;exact⟨bm,ns,nm,qn,bs,hd,sn,sub,ab,col,dd,k0,k1,k2,k3,k5,_,X _ _ ho,.of_isNs (PySem.W.isNs_of_in X hok),PySem.W.nsMap_none_of_in X hok hni,PySem.W.tail_of_in X ht⟩
  ·cases q
 ·cases q
section
variable {X:Cx}{E:XK}{C:Addr}{x:Str}{bmB:List Value}{np cpos pos:Pos}
def a2j (X:Cx)(E:XK)(C:Addr):Prop:=∀(pins:List (Addr×Obj)) (σ:St) (H:Hp) (s:Shared) (ea:Addr) (h':Heap),Inv X pins σ H s->Heap.MadeExcOf s.heap h' ea (.ref C) []->E (.ref C) none H->X.xe (.ref ea) {s with heap:=h'}
def a5c (E:XK)(C:Addr):TS:=λ_ _ H=>E (.ref C) none H
theorem a8B {B newId initId:String}(FB:ExcBaseFacts B newId initId bmB)(hcalm:X.calm=true)(hg:Gl X x)(hm:X.mg x=some (.ref C))(hc:PySem.W.excIn X.K C bmB newId=true)(hp:a2j X E C)
  (hd:(x == ("__debug__":Str))=false:=by decide):PS X (.Raise (some (.Call (.Name x np) [] [] cpos)) none pos) (a5c E C):=by
 intro pins s σ H D I h;obtain⟨tl,N,nm,q,bs,hdct,sn,sub,ab,col,dd,k0,k1,k2,k3,k5,mN,hC,hN,hni,T⟩:=b3A I.kIn hc;refine wpAny_Raise_call_subT (C:=C) (nm:=nm) (q:=q) (N:=N) (bs:=bs) (bm:=tl) (hdct:=hdct) (sn:=sn) (sub:=sub) (ab:=ab) (col:=col) (dd:=dd) (k0:=k0) (k1:=k1) (k2:=k2) (k3:=k3) (k5:=k5)
  FB (mN:=mN) (T.hasType FB.hasBase) (I.ok.hd hcalm) rfl hni (Z8 I hg hm ⟨rfl,?_⟩ hd)
 exact evalArgs_empty ⟨rfl,bf _,hC,hN,T,λh' e hx=>hp pins σ H s e h' I hx h⟩
end
section
variable {P:Program}{w:World}{K:ac}{mg:Str->Option Value}{base:Heap}{N:List Str}{qual:Str}{scope:Scope}{f:Addr}{cd:Value}{A:Around}{outer:List Env}{s0:Shared}{H0:Hp}{E:XK}{C:Addr}
theorem a9G {l:List Env}{env:Env}{L:Addr}(hf:env.frame=some L):frs (env::l)=L::frs l:=by
 unfold frs;rw[dC,hf]
theorem b0X:a2j (a1d (CX1 P w) P w K mg base N qual scope f cd A outer s0 H0 E) E C:=by
 intro pins σ H s ea h' I hx hE;have hst:s.heap.FunFrames base (envOfC qual scope s0.heap.objs.size f cd::outer):=I.stack;have hfr:(A.deeper (envOfC qual scope s0.heap.objs.size f cd)).frames=some (envOfC qual scope s0.heap.objs.size f cd::outer):=I.ok.frames;have hfs:frs (envOfC qual scope s0.heap.objs.size f cd::outer)=s0.heap.objs.size::frs outer:=a9G rfl;have hin:∀ env∈(envOfC qual scope s0.heap.objs.size f cd::outer),∀ b,env.frame=some b->b∈frs (envOfC qual scope s0.heap.objs.size f cd::outer):=λenv he b hb=>jJ.mpr ⟨env,he,hb⟩
 have hne:∀ b o,s0.heap.get? b=some o->b∉frs outer->b∉frs (envOfC qual scope s0.heap.objs.size f cd::outer):=λb o e hb hm=>by
  rw[hfs] at hm;rcases aL.mp hm with rfl | hm
  ·exact absurd (ar e) (bG _)
  ·exact hb hm
 have hB:=I.base;have hnf:∀ b o,s.heap.get? b=some o->b∈frs (envOfC qual scope s0.heap.objs.size f cd::outer)->∀ vs,o.data≠.fields vs:=λb o e hm=>by
  obtain⟨_,o',e',d'⟩:=hst.mem hm;rw[e] at e';cases e';exact d'
 show wpAny (model P w) (A.deeper (envOfC qual scope s0.heap.objs.size f cd)) (leaving (envOfC qual scope s0.heap.objs.size f cd) (.ref ea)) _ _ _;refine wpAny_leaves_madeW (base:=fL s.heap (frs (envOfC qual scope s0.heap.objs.size f cd::outer))) (h:=s.heap) hfr rfl (λb o q=>iY _ q) (PySem.W.funFrames_hide hst hin) hx λh'' t fl tup nt up=>?_
 have keep:∀ b o,s0.heap.get? b=some o->H0 b=none->b∉frs outer->(fL s.heap (frs (envOfC qual scope s0.heap.objs.size f cd::outer))).get? b=some o:=λb o e n hb=>eV _ (hB.keep b o e n hb (λz=>nomatch z)) (hne b o e hb)
 have up2:∀ b o,s.heap.get? b=some o->b∈frs (envOfC qual scope s0.heap.objs.size f cd::outer)->∃ sl,h''.get? b=some {o with slots:=sl}:=λb o e hm=>up b o (hx.keeps b o e) (hnf b o e hm)
 have tH:∀ b o,s0.heap.get? b=some o->b∉frs outer->∃ ob,(fL s.heap (frs (envOfC qual scope s0.heap.objs.size f cd::outer))).get? b=some ob:=λb o e hb=>by
  obtain⟨o',e'⟩:=hB.there b o e (λz=>nomatch z);exact⟨o',eV _ e' (hne b o e hb)⟩
 refine⟨ea,C,H,rfl,I.os,I.bare,⟨⟨_,_,fl,I.hok.part λb u hb q=>eV _ q λhm=>hb (I.stkFree b hm),keep,tH⟩,⟨λb o e n hb _=>fl.1 b o (keep b o e n hb),λb o e n hb _=>?_,hB.free,λb o e _=>?_,hB.tups,hB.frzs,hB.tbls⟩,?_⟩,hE⟩
 ·obtain⟨sl,e1⟩:=hB.slot b o e n hb (λz=>nomatch z);obtain⟨sl',e2⟩:=up2 b _ e1 (by rw[hfs];exact aN _ hb);exact⟨sl',e2⟩
 ·by_cases hb:b∈frs outer
  ·obtain⟨o',e'⟩:=hB.there b o e (λz=>nomatch z);obtain⟨sl',e2⟩:=up2 b _ e' (by rw[hfs];exact aN _ hb);exact⟨_,e2⟩
  ·obtain⟨o',e'⟩:=tH b o e hb;exact⟨o',fl.1 b o' e'⟩
 ·cases q:H ea with
  | none=>rfl
  | some o =>
   obtain⟨ob,e⟩:=I.hok.there q;rw[hx.new] at e;cases e
end
end L2
end
section
namespace L2
open PySem PySem.Spec PyProof.Rows
theorem Fl.look {P:Program}{w:World}{outer:List Env}{H H':Hp}{h h':Heap}{ea C:Addr}(x:Fl P w outer H h ea C H' h'):∃ B a0,i5 B outer ea (.ref C) a0 h'/\(∀ b o,h.get? b=some o->H b=none->b∉frs outer->B.get? b=some o) /\
  ∀ h'',i5 B outer ea (.ref C) a0 h''->h'.UpToSlots h''->Fl P w outer H h ea C H' h'':=by
 obtain⟨B,a0,fl,ok,kp,th⟩:=x.fly;have u:=x.un;have up2:∀ {h''},h'.UpToSlots h''->∀ b o,h'.get? b=some o->b∈frs outer->∃ sl,h''.get? b=some {o with slots:=sl}:=λ{h''} up b o e hm=>by
  obtain⟨_,o',e',d'⟩:=fl.2.2.1.mem hm;rw[e] at e';cases e';exact up b o e d'
 refine⟨B,a0,fl,kp,λh'' fl' up=>⟨⟨B,a0,fl',ok,kp,th⟩,⟨λb o e n hb _=>fl'.1 b o (kp b o e n hb),λb o e n hb hx=>?_,u.free,λb o e hx=>?_,u.tups,u.frzs,u.tbls⟩,x.nea⟩⟩
 ·obtain⟨sl,e1⟩:=u.slot b o e n hb hx;obtain⟨sl2,e2⟩:=up2 up b _ e1 hb;exact⟨sl2,e2⟩
 ·by_cases hb:b∈frs outer
  ·obtain⟨o1,e1⟩:=u.there b o e hx;obtain⟨sl,e2⟩:=up2 up b _ e1 hb;exact⟨_,e2⟩
  ·obtain⟨o1,e1⟩:=th b o e hb;exact⟨o1,fl'.1 b o1 e1⟩
def a7G (ea C:Addr):HO:=.ext λh=>∃ o,h.get? ea=some o/\o.cls=.ref C
section
variable {X:Cx}{pins:List (Addr×Obj)}{σ:St}{H H':Hp}{s s':Shared}{ea C:Addr}
theorem Inv.track {o:HO}(I:Inv X pins σ H s)(hn:H ea=none)(h0:∀ ob,X.sv.heap.get? ea=some ob->X.Hz ea=none->ea∉X.ex->False)(hl:ea≠X.env.locals)(hc:∀ x c,X.env.cells.lookup x=some c->c≠ea)(hp:∀ p∈X.pn++pins,p.1≠ea)
  (new:K0 X.prog X.w (upd H ea o) s.heap ea o):Inv X pins σ (upd H ea o) s:=by
 refine⟨I.ok,I.os,I.bare,⟨I.base.keep,I.base.slot,λb ob e n hx=>?_,I.base.there,λb xs e=>?_,λb ob u e=>?_,λb ps e=>?_⟩,I.loc,I.cell,by rw[B3 hl.symm];exact I.free,λx c e=>by rw[B3 (hc x c e)];exact I.freeC x c e,λp hpp=>?_,λb u e=>?_,I.len⟩
 ·by_cases hb:b=ea
  ·subst hb;exact (h0 ob e n hx).elim
  ·rw[B3 hb];exact I.base.free b ob e n hx
 ·have:=I.base.tups b xs e;rw[B3 (C2 this hn)];exact this
 ·have:=I.base.frzs b ob u e;rw[B3 (C2 this hn)];exact this
 ·obtain⟨m,e1⟩:=I.base.tbls b ps e;exact⟨m,by rw[B3 (C2 e1 hn)];exact e1⟩
 ·obtain⟨a,b,c,d,e⟩:=I.pin p hpp;exact⟨a,by rw[B3 (hp p hpp)];exact b,c,d,e⟩
 ·by_cases hb:b=ea
  ·subst hb;rw[A1] at e;cases e;exact new
  ·rw[B3 hb] at e;exact (I.hok b u e).stay (λ_ _ _ q=>q) (λc q=>by rw[B3 (C2 q hn)];exact q) λc xs q=>by rw[B3 (C2 q hn)];exact q
theorem Inv.exc (I:Inv X pins σ H s)(hs:s'.os=s.os)(hb:AllBare s'.gens)(F:Fl X.prog X.w X.stack H s.heap ea C H' s'.heap):Inv X pins σ (upd H' ea (a7G ea C)) s':=by
 have I2:Inv X pins σ H' s':=I.call' (ch:=[]) hs F.un F.hok hb λb z=>nomatch z
 obtain⟨B,a0,fl,kp,_⟩:=F.look;obtain⟨oe,vs,he,hec,hed,_⟩:=fl.first;have nB:B.get? ea=none:=fl.2.1;have nfr:ea∉frs X.stack:=a9H fl.2.2.1 he hed;have nloc:ea≠X.env.locals:=λz=>by
  obtain⟨m,⟨o,es,ep,ho,hd,_⟩,_⟩:=I2.loc;rw[<- z,he] at ho;cases ho;rw[hed] at hd;cases hd
 refine I2.track F.nea (λob e n hx=>?_) nloc (λx c e z=>?_) (λp hp z=>?_) ⟨⟨oe,he,hec⟩,⟨oe,he⟩,λh1 h2 ⟨o,e,c⟩ k=>⟨o,k o e,c⟩⟩
 ·by_cases hf:ea∈X.fs
  ·obtain⟨sl,e1⟩:=I2.base.slot ea ob e n hf hx;obtain⟨_,o',e',d'⟩:=I2.funs.mem hf;rw[he] at e';cases e';exact d' vs hed
  ·have e1:=I.base.keep ea ob e n hf hx;have:=kp ea ob e1 (I.base.free ea ob e n hx) nfr;rw[nB] at this;cases this
 ·obtain⟨v,o,ho,hd⟩:=I2.cell x c e;rw[z,he] at ho;cases ho;rw[hed] at hd;cases hd
 ·obtain⟨e,n,ne,nf,d⟩:=I.pin p hp;have:=kp p.1 p.2 e n λhm=>(aL.mp (I.stkSub p.1 hm)).elim ne nf
  rw[z,nB] at this;cases this
abbrev Cx.mark (X:Cx)(ea:Addr):Cx:={X with A:=X.A.mark (some (.ref ea)),calm:=false}
theorem Cx.Ok.mark (ok:X.Ok)(ea:Addr):(X.mark ea).Ok :=
 ⟨ok.mod,ok.kind,ok.glob,ok.blt,ok.above,ok.inj,ok.has,ok.cab,(λh=>by cases h),ok.frames,ok.stk,ok.exf,ok.bs,ok.bsz,ok.noex,ok.exfs,ok.funs,ok.frf⟩
theorem Cx.Ok.unmark (hok:X.Ok)(ok:(X.mark ea).Ok):X.Ok:=hok
theorem Inv.mark (I:Inv X pins σ H s)(ea:Addr):Inv (X.mark ea) pins σ H s:=⟨I.ok.mark ea,I.os,I.bare,I.base,I.loc,I.cell,I.free,I.freeC,I.pin,I.hok,I.len⟩
theorem Inv.unmark (hok:X.Ok)(I:Inv (X.mark ea) pins σ H s):Inv X pins σ H s:=⟨hok,I.os,I.bare,I.base,I.loc,I.cell,I.free,I.freeC,I.pin,I.hok,I.len⟩
theorem Inv.gone {i:Nat}{n:Str}{h':Heap}{v:Option Value}{t':Nat}{m:Str->Option Value}(I:Inv X pins σ H s)(hN:X.N.Nodup)(hi:X.N[i]?=some n)(hm:s.heap.Ns X.env.locals m)(hl:∀(j:Nat) (x:Str) (u:V),X.N[j]?=some x->σ[j]?=some (some u)->Vis X.env.scope x->∃ w,D0 u w/\b4X X.env s.heap m x w)
  (hn':h'.Ns X.env.locals (λx=>if x=n then v else m x)) (hs:dh X.env.locals s.heap h'):Inv X pins (σ.set i none) H {s with heap:=h',toks:=t'}:=by
 have hiσ:i<σ.length:=by rw[I.len];exact (ai.mp hi).1
 obtain⟨oL,_,_,hoL,_⟩:=id hm;have cne:=I.cne;refine⟨I.ok,I.os,I.bare,⟨λb o e n hb hx=>?_,λb o e n hb hx=>?_,I.base.free,λb o e hx=>?_,I.base.tups,I.base.frzs,I.base.tbls⟩,⟨_,hn',λj y v' e1 e2 e3=>?_⟩,λy c e=>?_,I.free,I.freeC,λp hp=>?_,λb ob e=>?_, ~~~I.len⟩
 ·exact (hs.2 b (aK (aO (ar e) I.ok.above))).trans (I.base.keep b o e n hb hx)
 ·obtain⟨sl,e1⟩:=I.base.slot b o e n hb hx;exact⟨sl,(hs.2 b (aK (aO (ar e) I.ok.above))).trans e1⟩
 ·obtain⟨o',e1⟩:=I.base.there b o e hx;exact⟨o',(hs.2 b (aK (aO (ar e) I.ok.above))).trans e1⟩
 ·by_cases hj:j=i
  ·subst hj;rw[cZ hiσ] at e2;cases e2
  ·rw[cL (dN hj)] at e2;obtain⟨u',r',q⟩:=hl j y v' e1 e2 e3;refine⟨u',r',?_⟩;rcases q with ⟨k,e⟩ | ⟨k,c,e,z⟩
   ·refine .inl ⟨k,?_⟩;have:y≠n:=λe=>hj (a1O hN e1 (e ▸ hi))
    simp[this,e]
   ·exact .inr ⟨k,c,e,z.sameBut hs (cne y c e)⟩
 ·obtain⟨w',z⟩:=I.cell y c e;exact⟨w',z.sameBut hs (cne y c e)⟩
 ·obtain⟨e,n,ne,nf,d⟩:=I.pin p hp;exact⟨(hs.2 p.1 ne).trans e,n,ne,nf,d⟩
 ·refine (I.hok b ob e).stay (λc w' hc q=>(hs.2 c ?_).trans q) (λ_ q=>q) λ_ _ q=>q
  rintro rfl;have hfree:=I.free;rcases hc with rfl | hc
  ·rw[hfree] at e;cases e
  ·rw[hfree] at hc;cases hc
end
end L2
end
section
namespace L2
open PySem PySem.Spec PyProof.Rows
abbrev TSx:=U0->St->Hp->XK->Prop
abbrev TEx:=St->Hp->VK->XK->Prop
section
variable {X:Cx}
def b3L (X:Cx)(pins:List (Addr×Obj))(σ:St)(E:XK)(e:Value)(s':Shared):Prop:=∃ H1 s1,Inv X pins σ H1 s1/\CX1 X.prog X.w X.stack H1 s1 E e s'
def PSx (X:Cx)(st:Stmt)(t:TSx):Prop:=∀(pins:List (Addr×Obj)) (s:Shared) (σ:St) (H:Hp) (D:U0) (E:XK),Inv X pins σ H s->t D σ H E->wpAny (model X.prog X.w) X.A (exec st X.env) (SP X pins D) (b3L X pins σ E) s
def PEx (X:Cx)(e:Expr)(t:TEx):Prop:=∀(pins:List (Addr×Obj)) (s:Shared) (σ:St) (H:Hp) (Q:VK) (E:XK),Inv X pins σ H s->t σ H Q E->wpAny (model X.prog X.w) X.A (eval e X.env) (EP X pins σ Q) (b3L X pins σ E) s
def b1C (sp:Sp)(t:TA):TEx:=fun σ H Q E=>t σ H λvs H1=>sp vs H1 Q E
theorem b0B {k:Nat}{f:Addr}{fd:FuncData}{ps:List Str}{sp:Sp}{x:Str}{st:Stmt}{p pos:Pos}{e:Expr}{es:List Expr}{t:TA}(G:C0 X.prog X.w X.K X.mg X.base (CX1 X.prog X.w) k f fd ps sp)(D:Df X.K X.mg x st f fd ps)(hr:N3 k X.A)
  (ha:∀ E,PA (X.wish E) (e::es) t) (hg:Gl X x:=by rfl) (hdb:(x == ("__debug__":Str))=false:=by decide) (he:starEach (e::es) X.env=(false,eval e X.env)::starEach es X.env:=by rfl) (hpl:(backTo pos (starEach es X.env)).any (·.1)=false:=by rfl) :
  PEx X (.Call (.Name x p) (e::es) [] pos) (b1C sp t):=by
 intro pins s σ H Q E I h;refine bR (Z8 I hg D.m ?_ hdb);refine gj (h₀:=X.base) I.ok.mod.kin D.F.kp (thn (ha (b3L X pins σ E) pos pins s σ H _ (I.wish _) h) λus s1 ⟨vs,H1,I1,r,q⟩=>⟨I1.unwish.kIn,?_⟩) he hpl;have I2:=I1.unwish;have hl:us.length=ps.length:=by rw[<- r.length];exact G.len _ _ _ _ q
 have hb:=D.b s1 us I2.kIn (by rw[bO];exact hl);rw[bO] at hb;refine ib (codeAny_mono (G.run X.A X.stack s1 H1 ⟨us,[]⟩ us vs Q E hr I2.env0 hb r q) λr s' hq=>?_);cases r with
 | error e=>exact⟨H1,s1,I2,hq⟩
 | ok fl =>
  cases fl with
  | ret u=>exact I2.after hq
  | next=>exact bS hq
  | brk=>exact bS hq
  | cont=>exact bS hq
def b3S (te:TEx)(i:Nat):TSx:=λD σ H E=>te σ H (λv H1=>D.nx (σ.set i (some v)) H1) E
theorem b0v {i:Nat}{x:Str}{e:Expr}{te:TEx}{pos pos':Pos}(hN:X.N.Nodup)(hi:X.N[i]?=some x)(hx:Loc X.env.scope x)(he:PEx X e te)(hs:swapsWith e (some (.Name x pos')) pos.line X.env=pure false:=by rfl)(hf:X.fn x=true\/X.env.scope.names.lookup x=some .local:=by first | exact .inl rfl | exact .inr rfl | assumption) :
  PSx X (.Assign [.Name x pos'] e pos) (b3S te i):=by
 intro pins s σ H D E I h;refine kg (thn (he pins s σ H _ E I h) λv s1 ⟨y,H1,I1,r1,q1⟩=>?_) hs;exact V1 I1 hN hi hx r1 (λs2 I2=>⟨_,H1,I2,q1⟩) hf
def a8f (K:ac)(c:Value)(i:Nat)(tb:TSx)(th:TS):TS:=λD σ H=>tb D σ H λcls _ H'=>gY K cls c=some true/\∀ ea C,cls=.ref C->H' ea=none ->
 th {nx:=fun σ' H2=>D.nx (σ'.set i none) H2,rt:=D.rt,bk:=fun σ' H2=>D.bk (σ'.set i none) H2,ct:=fun σ' H2=>D.ct (σ'.set i none) H2} (σ.set i (some (.ref ea))) (upd H' ea (a7G ea C))
theorem a8A {i:Nat}{x n:Str}{c:Value}{st b0:Stmt}{suite:List Stmt}{np hpos pos:Pos}{tb:TSx}{th:TS}(hst:X.stack=X.env::X.outer)(hfm:X.env.frame=some X.env.locals)(hN:X.N.Nodup)(hi:X.N[i]?=some n)(hlo:X.env.scope.names.lookup n=some .local)
  (hg:Gl X x) (hm:X.mg x=some c) (hb:PSx X st tb) (hth:∀ ea E,PSs ((X.mark ea).wish E) (b0::suite) th) (hdb:(x == ("__debug__":Str))=false:=by decide) :
  PS X (.Try [st] [.ExceptHandler (some (.Name x np)) (some n) (b0::suite) hpos] [] [] pos) (a8f X.K c i tb th):=by
 intro pins s σ H D I h;have hcls:(X.env.scope.kind == .class || (X.env.scope.kind == .module && X.env.locals != X.env.globals))=false:=by rw[I.ok.kind];rfl
 refine wpAny_Try_except (iz (bB (hb pins s σ H D _ I h) (λf s1 q=>?_) λe s1 q=>?_))
 ·cases f with
  | next=>exact eN (eN q)
  | ret v=>exact q
  | brk=>exact q
  | cont=>exact q
 obtain⟨H1,s0,I1,ea,C,H',rfl,os,bare,F,hE1,hE2⟩:=q;obtain⟨B,a0,fl,kp,mv⟩:=F.look;have hfr:X.A.frames=some (X.env::X.outer):=by rw[<- hst];exact I1.ok.frames
 rw[hst] at fl;refine wpAny_looks_onW hfr hfm fl λh4 held up4=>?_
 refine wpAny_landsW held λh5 fl5 up5=>?_
 have F5:=mv h5 (by rw[hst];exact fl5) (up4.trans up5);have I5:Inv X pins σ H' {s1 with heap:=h5}:=I1.call' (ch:=[]) os F5.un F5.hok bare λb z=>nomatch z
 refine wpAny_handleBy_cons (codeAny_handlers_test (Z8 (I5.mark ea) hg hm ?_ hdb)) (by intro q;cases q);obtain⟨ob,hob,hc⟩:=fl5.there;have ty:PySem.W.Looks (model X.prog X.w) h5 (typeOf (.ref ea)) (.ref C):=hc ▸ (PySem.W.Looks.ld hob).andThen .now;refine (PySem.W.exm_one I5.kIn ty hE1).here ?_;refine codeAny_handlers_suite_as ?_;refine lands_againW fl5 λh6 fl6 up6=>?_
 have F6:=mv h6 (by rw[hst];exact fl6) ((up4.trans up5).trans up6);have I6:Inv X pins σ (upd H' ea (a7G ea C)) {s1 with heap:=h6}:=I1.exc os bare F6;refine V1 (X:=X.mark ea) (I6.mark ea) hN hi (.inl hlo) (v:=.ref ea) rfl (λs7 I7=>?_) (.inr hlo);have gone:∀ {σ':St} {H2:Hp} {s8:Shared} {Q:Unit->Shared->Prop} {E:Value->Shared->Prop} {f:Flow} {E':Value->Shared->Prop},Inv ((X.mark ea).wish E') pins σ' H2 s8->(∀ s9,Inv X pins (σ'.set i none) H2 s9->Q () s9)->wpAny (model X.prog X.w) X.A (do bindName X.env n .none;unbindBehindTheSuite X.env n hpos) Q E s8:=λ{σ' H2 s8 Q E f E'} I8 k=>by
  have I8':Inv X pins σ' H2 s8:=Inv.unmark I1.ok I8.unwish;obtain⟨m,hn,hl⟩:=I8'.loc;exact wpAny_nameGoes_keeps hlo hn hcls λh9 v hn9 hs9=>k _ (I8'.gone hN hi hn hl hn9 hs9)
 refine bB (hth ea _ pins s7 _ _ _ (I7.wish _) (hE2 ea C rfl F.nea)) (λf s8 q=>?_) λe s8 q=>q
 cases f with
 | next =>
  obtain⟨σ',H2,I8,q⟩:=q;exact gone (f:=.next) I8 λs9 I9=>⟨_,H2,I9,q⟩
 | brk =>
  obtain⟨σ',H2,I8,q⟩:=q;exact gone (f:=.next) I8 λs9 I9=>⟨_,H2,I9,q⟩
 | cont =>
  obtain⟨σ',H2,I8,q⟩:=q;exact gone (f:=.next) I8 λs9 I9=>⟨_,H2,I9,q⟩
 | ret u =>
  obtain⟨v,σ',H2,I8,rv,q⟩:=q;exact gone (f:=.next) I8 λs9 I9=>⟨v,_,H2,I9,rv,q⟩
end
end L2
end
section
namespace L2
open PySem PySem.Spec PyProof.Rows PySem.W
structure a2s (K:ac)(C:Addr):Prop where
 ga:aQ K (.ref C) "__getattribute__"=some (some (.builtin "BaseException.__getattribute__"))
 cl:aQ K (.ref C) "__class__"=some (some (.builtin "object.__class__"))
 no:aQ K (.ref C) "__getattr__"=some none
 sb:bA K C (.type "BaseException")=some true
 ob:bA K C (.type "object")=some true
 is:(cD K C).isSome=true
section
variable {prog:Program}{w:World}{A:Around}{E:Value->Shared->Prop}{h:Heap}{g:Array GenState}{d:Drawn}{t:Nat}{os:OsState}{a C:Addr}{o:Obj}{K:ac}
theorem a5H {M:Model}(hx:h.get? a=some o)(hc:o.cls=.ref C):Looks M h (typeOf (.ref a)) (.ref C):=hc ▸ (Looks.ld hx).andThen .now
open Builtin Builtin.ObjectAttr Builtin.Getset_descriptor in
theorem b1o {R:Result->Shared->Prop}{tp:Value}(X:K.In h)(Z:a2s K C)(hx:h.get? a=some o)(hc:o.cls=.ref C)(hq:R (.ok (.ret (.ref C))) ⟨h,g,d,t,os⟩) :
  codeAny (model prog w) A (.call (.builtin "getset_descriptor.__get__") ⟨[.builtin "object.__class__",.ref a,tp],[]⟩) R ⟨h,g,d,t,os⟩:=by
 have L0:Looks (model prog w) h (typeOf (.ref a)) (.ref C):=a5H hx hc;have L1:=looks_mroIn (M:=model prog w) X Z.ob;refine codeAny_call_builtin KF.slot_gs.plain KF.entry_gs (KF.slot_gs.check _ _ _ _ _ _ _ _ KF.type_class (KF.args_gs _ _ _) ?_);unfold Builtin.«getset_descriptor.__get__» descrGet;rw[dga_obj];refine ae (ag ?_);unfold descrGetter descrCheckInstance descrNameAndClass isInstance;simp only[KF.owner_class];repeat lk
 refine⟨gy _ (by decide +kernel),codeAny_builtin KF.entry_class ?_⟩;unfold Builtin.«object.__class__» shownTypeOf;repeat lk
 exact hq
theorem a7F {M:Model}{nameV:Value}{Q:Unit->Shared->Prop}(X:K.In h)(Z:a2s K C)(hx:h.get? a=some o)(hc:o.cls=.ref C)(hq:Q () ⟨h,g,d,t,os⟩):wpAny M A (checkBuiltinCall "BaseException.__getattribute__" ⟨[.ref a,nameV],[]⟩) Q E ⟨h,g,d,t,os⟩:=by
 have hk:builtinKind "BaseException.__getattribute__"=some .slot:=by decide +kernel
 have hsplit:splitId "BaseException.__getattribute__"=some ("BaseException", "__getattribute__"):=by decide +kernel
 have ha:=F.args_bexc_ga (.ref a) nameV;have L0:Looks M h (typeOf (.ref a)) (.ref C):=a5H hx hc;have L1:=looks_mroIn (M:=M) X Z.sb;simp only[checkBuiltinCall,hk,hsplit];refine ae ?_
 ·refine (L0.andThen L1).at ?_;repeat (first | assumption | wp_step)
theorem a7D {tk:Tok}{Q:Fin->Shared->Prop}(X:K.In h)(Z:a2s K C)(hx:h.get? a=some o)(hc:o.cls=.ref C)(hq:Q (.done (.ret (.ref C))) ⟨h,g,d,t,os⟩) :
  wpAny (model prog w) A (Builtin.«object.__getattribute__» ⟨[.ref a,.str "__class__" tk],[]⟩) Q E ⟨h,g,d,t,os⟩:=by
 have hT5:(⟨h,g,d,t,os⟩:Shared).TypeIs (.builtin "object.__class__") "getset_descriptor":=jF;have f5:=jF;have f6:=F.slot_gs_get.lookup;have f7:=F.slot_gs_set.lookup;have L1:=jU (M:=model prog w) X Z.cl;repeat (any_goals (first | assumption | (with_reducible refine j8 hx ?_;rw[hc]) | with_reducible refine L1.at ?_ | wp_step))
 refine b1o X Z hx hc ?_;repeat (any_goals (first | assumption | wp_step))
theorem a9J {tk:Tok}{R:Result->Shared->Prop}(X:K.In h)(Z:a2s K C)(hx:h.get? a=some o)(hc:o.cls=.ref C)(hq:R (.ok (.ret (.ref C))) ⟨h,g,d,t,os⟩) :
  codeAny (model prog w) A (.call (.builtin "BaseException.__getattribute__") ⟨[.ref a,.str "__class__" tk],[]⟩) R ⟨h,g,d,t,os⟩ :=
 codeAny_call_builtin F.excAttr_ValueError.ga.plain F.entry_bexc_ga (a7F X Z hx hc (a7D X Z hx hc hq))
theorem b3u {tk:Tok}{Q:Value->Shared->Prop}(X:K.In h)(Z:a2s K C)(hx:h.get? a=some o)(hc:o.cls=.ref C)(hq:Q (.ref C) ⟨h,g,d,t,os⟩) :
  wpAny (model prog w) A (getAttrBy (.ref a) (.str "__class__" tk) false) Q E ⟨h,g,d,t,os⟩:=by
 have f3:=F.excAttr_ValueError.ga.bind (.ref a);have hx2:(bY "BaseException.__getattribute__" == bY "object.__getattribute__")=false:=by decide +kernel
 have hx1:(onTheHeap (bw C) && bY "BaseException.__getattribute__" == bY "object.__getattribute__")=false:=by rw[hx2];rfl
 have L1:=jU (M:=model prog w) X Z.ga;have L2:=jU (M:=model prog w) X Z.no;repeat (any_goals (first | assumption | (with_reducible refine j8 hx ?_;rw[hc]) | with_reducible refine L1.at ?_ | with_reducible refine L2.at ?_ | wp_step))
 refine a9J X Z hx hc ?_;repeat (any_goals (first | assumption | wp_step))
theorem a7E {Q:Option Value->Shared->Prop}(X:K.In h)(Z:a2s K C)(hx:h.get? a=some o)(hc:o.cls=.ref C)(hq:Q (some (.ref C)) ⟨h,g,d,t+1,os⟩):wpAny (model prog w) A (getAttr? (.ref a) "__class__") Q E ⟨h,g,d,t,os⟩:=by
 unfold getAttr? getAttrBy?;repeat (any_goals (first | assumption | with_reducible apply b3u X Z hx hc | wp_step))
end
def b4Y (a C:Addr)(h:Heap):Prop:=∃ o,h.get? a=some o/\o.cls=.ref C
theorem a9q {K:ac}{a C:Addr}(Z:a2s K C):KitX K (.ref a) (.ref C) (b4Y a C) where
 ty:=λ_ _ _ ⟨_,e,c⟩=>a5H e c
 it:=λ_ _ X _=>by
  obtain⟨cd,hc⟩:=d0.mp Z.is;unfold clsIn at hc;split at hc
  ·rename_i c' d' cd' sl' ho;intro A' Q' E' s' k q;unfold isType loadHead;exact ae (wpAny_loadPart (k _ _ (X _ _ ho)) (ag q))
  ·cases hc
 ne:=λh tp dd its n sl X htp=>by
  obtain⟨cd,hc⟩:=d0.mp Z.is;refine Bool.eq_false_iff.mpr λq=>?_
  have e:C=tp:=Value.ref.inj (beq_iff_eq.mp q);subst e;unfold clsIn at hc;split at hc
  ·rename_i c' d' cd' sl' ho;have z:=(X _ _ ho).symm.trans htp;cases z
  ·cases hc
 ca:=λ{prog w A E Q s} X ⟨o,e,c⟩ k=>by
  obtain⟨h,g,d,t,os⟩:=s;exact a7E X Z e c k
section
variable {X:Cx}
inductive XTy (K:ac)(H:Hp):V->Value->Prop
 | non:XTy K H .non (.type "NoneType")
 | exc {ea C:Addr}:H ea=some (a7G ea C)->a2s K C->XTy K H (.ref ea) (.ref C)
def b3F (K:ac):List V->Hp->VK->Prop:=λxs H Q=>∃(x:V) (t:Value),XTy K H x t /\
  ((∃(c:V) (u:Value) (b:Bool),xs=[x,c]/\((∃ n,c=.ty n/\u=.type n)\/∃ D,c=.ref D/\u=.ref D/\(cD K D).isSome=true)/\kitOne K t u=some b/\Q (.bl b) H) \/
   ∃(p:Addr) (Ds:List Addr) (b:Bool),xs=[x,.ref p]/\H p=some (.tup (Ds.map V.ref))/\kitAny K t (Ds.map bw)=some b/\Q (.bl b) H)
theorem a6r:∀ {Ds:List Addr} {its:List Value},C9 (Ds.map V.ref) its->its=Ds.map bw
 | [],_,.nil=>rfl
 | D::r,_,.cons q t=>by
  rw[a6r t];have q':_=bw D:=q;rw[q'];rfl
theorem a9V:J7 X (.builtin "isinstance") (b3F X.K):=by
 intro pins s σ H xs us Q I r h;obtain⟨x,t,ty,h⟩:=h;have KX:∀ {u:Value},D0 x u->∃ P:Heap->Prop,KitX X.K u t P/\P s.heap/\u≠.builtin "__main__.__loader__#opaque":=λ{u} ru=>by
  cases ty with
  | non =>
   cases (show u=cI from ru);exact⟨_,kitx_none,trivial,λe=>by cases e⟩
  | @exc ea C e Z =>
   cases (show u=bw ea from ru);obtain⟨p,_,_⟩:=I.hok ea _ e;exact⟨_,a9q Z,p,λe=>by cases e⟩
 rcases h with ⟨c,u,b,rfl,hc,e,q⟩ | ⟨p,Ds,b,rfl,hp,e,q⟩
 ·obtain⟨ux,uc,rfl,rx,rc⟩:=a3M r;obtain⟨P,Z,hP,hne⟩:=KX rx;have:uc=u:=by
   rcases hc with ⟨n,rfl,rfl⟩ | ⟨D,rfl,rfl,_⟩
   ·exact rc
   ·exact rc
  subst this;exact kia_one Z I.kIn hP e hne λtk=>⟨.bl b,H,I.tok _,rfl,q⟩
 ·obtain⟨ux,uc,rfl,rx,rc⟩:=a3M r;obtain⟨P,Z,hP,hne⟩:=KX rx;cases (show uc=bw p from rc);obtain⟨z,its,rv,o,ho,hcl,n,hd⟩:=I.hok p _ hp;have:=a6r rv;subst this;obtain⟨oc,od,odt,osl⟩:=o;dsimp only at hcl hd;subst hcl hd;exact kia_tup Z I.kIn hP ho e hne λtk=>⟨.bl b,H,I.tok _,rfl,q⟩
theorem a2n (K:ac)(h:X.K=K:=by rfl):J7 X (.builtin "isinstance") (b3F K):=by subst h;exact a9V
end
end L2
end
section
namespace L2
open PySem PySem.Spec PyProof.Rows
structure Q2 (K:ac)(mg:Str->Option Value)(x:Str)(C:Addr):Prop where
 m:mg x=some (.ref C)
 ex:PySem.W.excIn K C [.type "ValueError",.type "Exception",.type "BaseException",.type "object"] "ValueError.__new__"=true
 k:a2s K C
section
variable {P:Program}{w:World}{K:ac}{mg:Str->Option Value}{base:Heap}
theorem Fun.ok1 {x qual:Str}{st:Stmt}{f:Addr}{fd:FuncData}{N ps:List Str}{k:Nat}{sp:Sp}(F:Fun K x qual st f fd)(S:B8 N ps (A4 st))(len:∀ vs H Q E,sp vs H Q E->vs.length=ps.length)
  (hbody:∀(cdv:Value) (A:Around) (outer:List Env) (s:Shared) (H:Hp) (vs:List V) (Q:VK) (E:XK),N3 k (A.deeper (envOfC qual (A4 st) s.heap.objs.size f cdv))->sp vs H Q E ->
   ∃ t,PSs (a1d (CX1 P w) P w K mg base N qual (A4 st) f cdv A outer s H E) (M9 st) t/\t {nx:=λ_ H'=>Q .non H',rt:=Q} (N4 N vs) H):C0 P w K mg base (CX1 P w) (k+1) f fd ps sp:=by
 obtain⟨oc,od,kV,doc,pm,an,cdv,ct,osl,rfl,lk,hcd⟩:=F.ex;exact a9I lk hcd S len λA outer s H vs Q E hr hsp=>hbody cdv A outer s H vs Q E hr hsp
end
theorem a2R {P:Program}{w:World}{K:ac}{mg:Str->Option Value}{base:Heap}{N:List Str}{qual:Str}{scope:Scope}{f0:Addr}{cd:Value}{A:Around}{outer:List Env}{s0:Shared}{H0:Hp}{E:XK}{x:Str}{C:Addr}{np cpos pos:Pos}(Z:Q2 K mg x C)
  (hg:Gl (a1d (CX1 P w) P w K mg base N qual scope f0 cd A outer s0 H0 E) x:=by rfl) (hd:(x == ("__debug__":Str))=false:=by decide):PS (a1d (CX1 P w) P w K mg base N qual scope f0 cd A outer s0 H0 E) (.Raise (some (.Call (.Name x np) [] [] cpos)) none pos) (a5c E C) :=
 a8B PySem.F.excBase_ValueError rfl hg Z.m Z.ex b0X hd
end L2
end
section
namespace L2
open PySem PySem.Spec PyProof.Rows
structure V6 (k:Nat)(A:Around):Prop where
 dp:A.depth+3*k+5<recursionLimit
 un:A.units+16*k+200<cLine
 gd:A.guards=some []
theorem V6.mono {j k:Nat}{A:Around}(r:V6 k A)(h:j<=k):V6 j A:=⟨by have:=r.dp;omega,by have:=r.un;omega,r.gd⟩
theorem V6.deeper {k:Nat}{A:Around}(r:V6 (k+1) A)(env:Env):V6 k (A.deeper env) :=
 ⟨by have:=r.dp;show A.depth+1+3*k+5<_;omega,by have:=r.un;show A.units+3+16*k+200<_;omega,r.gd⟩
theorem V6.depth {k:Nat}{A:Around}(r:V6 k A):A.depth<recursionLimit:=by have:=r.dp;omega
theorem b3q {k:Nat}{A:Around}(r:V6 k A):A.units+1<cLine:=by have:=r.un;omega
theorem N3.h {k:Nat}{A:Around}{v:Option Value}(r:N3 k A):V6 k (A.mark v):=⟨r.dp,r.un,r.gd⟩
structure a4Y (P:Program)(w:World)(K:ac)(mg:Str->Option Value)(base:Heap)(k:Nat)(f:Addr)(fd:FuncData)(ps:List Str)(sp:Sp):Prop where
 len:∀ vs H Q E,sp vs H Q E->vs.length=ps.length
 run:∀(A:Around) (outer:List Env) (s:Shared) (H:Hp) (args:Args) (us:List Value) (vs:List V) (Q:VK) (E:XK),V6 k A->a2k P w K mg base A outer s H->BindsTo s fd args (ps.zip us)->C9 vs us->sp vs H Q E ->
  codeAny (model P w) A (.call (.ref f) args) (CR CX0 outer P w H s Q E) s
abbrev a4O (CX:CXT)(P:Program)(w:World)(K:ac)(mg:Str->Option Value)(base:Heap)(N:List Str)(qual:Str)(scope:Scope)(f:Addr)(cd:Value)(A:Around)(outer:List Env)(s:Shared)(H:Hp)(E:XK):Cx:={a1d CX P w K mg base N qual scope f cd A outer s H E with calm:=false}
theorem a5E {CX:CXT}{P:Program}{w:World}{K:ac}{mg:Str->Option Value}{base:Heap}{N ps:List Str}{qual:Str}{scope:Scope}{f:Addr}{cd:Value}{A:Around}{outer:List Env}{s s1:Shared}{H:Hp}{E:XK}{us:List Value}{vs:List V}
  (S:B8 N ps scope) (e0:a2k P w K mg base A outer s H) (hl:vs.length=ps.length) (r:C9 vs us)
  (x:InCallC s s.heap.objs.size (bindL (envOfC qual scope s.heap.objs.size f cd).kindOf (ps.zip us) λ_=>none) (cellsFrom (s.heap.objs.size+1) scope.names []) (bindC (envOfC qual scope s.heap.objs.size f cd).kindOf (ps.zip us) λ_=>none) s1) :
  Inv (a4O CX P w K mg base N qual scope f cd A outer s H E) [] (N4 N vs) H s1:=by
 have e1:a2k P w K mg base {A with handled:=none} outer s H:=⟨e0.frames,e0.mod,e0.bs,e0.bsz,e0.funs,e0.frf,e0.hok,e0.bare⟩
 have I:=a2Y (CX:=CX) (E:=E) S (A:={A with handled:=none}) rfl e1 hl r x
 exact⟨⟨I.ok.mod,I.ok.kind,I.ok.glob,I.ok.blt,I.ok.above,I.ok.inj,I.ok.has,I.ok.cab,(λh=>nomatch h),iS e0.frames,I.ok.stk,I.ok.exf,I.ok.bs,I.ok.bsz,I.ok.noex,I.ok.exfs,I.ok.funs,I.ok.frf⟩,
  I.os,I.bare,I.base,I.loc,I.cell,I.free,I.freeC,I.pin,I.hok,I.len⟩
theorem b3t {P:Program}{w:World}{K:ac}{mg:Str->Option Value}{base:Heap}{k:Nat}{f:Addr}{name qual:Str}{params:Arguments}{body:List Stmt}{scope:Scope}{dV kV doc pm cdv ct oc:Value}{an od:Option Addr}
  {osl:Array (Option Value)} {N ps:List Str} {sp:Sp} (lk:K.lookup f=some ⟨oc,od,.func (cj name qual params body scope dV kV doc pm an cdv ct),osl⟩) (hcd:du K cdv qual=true) (S:B8 N ps scope)
  (len:∀ vs H Q E,sp vs H Q E->vs.length=ps.length)
  (hbody:∀(A:Around) (outer:List Env) (s:Shared) (H:Hp) (vs:List V) (Q:VK) (E:XK),V6 k (A.deeper (envOfC qual scope s.heap.objs.size f cdv))->sp vs H Q E ->
   ∃ t,PSs (a4O CX0 P w K mg base N qual scope f cdv A outer s H E) body t/\t {nx:=λ_ H'=>Q .non H',rt:=Q} (N4 N vs) H) :
  a4Y P w K mg base (k+1) f (cj name qual params body scope dV kV doc pm an cdv ct) ps sp:=by
 refine⟨len,λA outer s H args us vs Q E hr e0 hb r hsp=>?_⟩;have hl:=len _ _ _ _ hsp;have KX:K.In s.heap:=e0.mod.kin.keeps λb o e=>(e0.bs b o e).1
 have lim:s.heap.NoLimit:=e0.mod.nolimit.keeps λb o e=>(e0.bs b o e).1
 have hkind:∀ y∈ps.zip us,scope.names.lookup y.1=some .local\/(scope.names.lookup y.1=some .cell/\((cellsFrom (s.heap.objs.size+1) scope.names []).lookup y.1).isSome=true):=λ⟨n,v⟩ hy=>by
  rcases S.par n (fV hy).1 with q | q
  ·exact .inl q
  ·exact .inr ⟨q,fv _ _ _ (.inl q)⟩
 refine codeAny_call_function hr.depth (KX _ _ lk) rfl S.co S.gen rfl (iZ KX hcd) (hb _ _ _ _ ?_);refine iX S.kind hkind λenv he s1 x=>?_
 subst he;refine⟨lim.keeps x.toInCall.keep,codeAny_func ?_⟩;obtain⟨t,ht,hq⟩:=hbody A outer s H vs Q E (hr.deeper _) hsp;have I:Inv (a4O CX0 P w K mg base N qual scope f cdv A outer s H E) [] (N4 N vs) H s1:=a5E S e0 hl r x;refine bB (ht [] s1 (N4 N vs) H _ I hq) (λfl s' hs=>?_) λe s' hs=>hs
 have fin:∀ {σ':St} {H':Hp} {v:V} {u:Value},Inv (a4O CX0 P w K mg base N qual scope f cdv A outer s H E) [] σ' H' s'->D0 v u->Q v H'->CE outer P w H s Q u s' :=
  λ{σ' H' v u} J rv q=>⟨v,H',J.os,J.bare,J.base,J.hok,rv,q⟩
 cases fl with
 | ret u =>
  obtain⟨v,σ',H',J,rv,q⟩:=hs;exact fin J rv q
 | next =>
  obtain⟨σ',H',J,q⟩:=hs;exact fin (v:=V.non) (u:=cI) J rfl q
 | brk =>
  obtain⟨_,_,_,q⟩:=hs;exact bS q
 | cont =>
  obtain⟨_,_,_,q⟩:=hs;exact bS q
section
variable {P:Program}{w:World}{K:ac}{mg:Str->Option Value}{base:Heap}
theorem Fun.okH {x qual:Str}{st:Stmt}{f:Addr}{fd:FuncData}{N ps:List Str}{k:Nat}{sp:Sp}(F:Fun K x qual st f fd)(S:B8 N ps (A4 st))(len:∀ vs H Q E,sp vs H Q E->vs.length=ps.length)
  (hbody:∀(cdv:Value) (A:Around) (outer:List Env) (s:Shared) (H:Hp) (vs:List V) (Q:VK) (E:XK),V6 k (A.deeper (envOfC qual (A4 st) s.heap.objs.size f cdv))->sp vs H Q E ->
   ∃ t,PSs (a4O CX0 P w K mg base N qual (A4 st) f cdv A outer s H E).nox (M9 st) t/\t {nx:=λ_ H'=>Q .non H',rt:=Q} (N4 N vs) H):a4Y P w K mg base (k+1) f fd ps sp:=by
 obtain⟨oc,od,kV,doc,pm,an,cdv,ct,osl,rfl,lk,hcd⟩:=F.ex;refine b3t lk hcd S len λA outer s H vs Q E hr hsp=>?_
 obtain⟨t,h,q⟩:=hbody cdv A outer s H vs Q E hr hsp;exact⟨t,h.nox,q⟩
end
theorem b0C {X:Cx}{k:Nat}{f:Addr}{fd:FuncData}{ps:List Str}{sp:Sp}{x:Str}{st:Stmt}{p pos:Pos}{e:Expr}{es:List Expr}{t:TA}{ea:Addr}{W:Value->Shared->Prop}(G:a4Y X.prog X.w X.K X.mg X.base k f fd ps sp)(D:Df X.K X.mg x st f fd ps)(hr:N3 k X.A)
  (ha:PA ((X.mark ea).wish W) (e::es) t) (hg:Gl X x:=by rfl) (hdb:(x == ("__debug__":Str))=false:=by decide) (he:starEach (e::es) X.env=(false,eval e X.env)::starEach es X.env:=by rfl) (hpl:(backTo pos (starEach es X.env)).any (·.1)=false:=by rfl) :
  PE ((X.mark ea).wish W) (.Call (.Name x p) (e::es) [] pos) (a5T sp [] E0 t):=by
 intro pins s σ H Q I h;refine bR (Z8 I hg D.m ?_ hdb);refine gj (h₀:=X.base) I.ok.mod.kin D.F.kp (thn (ha pos pins s σ H _ I h) λus s1 ⟨vs,H1,I1,r,q⟩=>⟨I1.kIn,?_⟩) he hpl;have q:sp (vs++[]) H1 Q E0:=q;rw[bO] at q;have hl:us.length=ps.length:=by rw[<- r.length];exact G.len _ _ _ _ q
 have hb:=D.b s1 us I1.kIn (by rw[bO];exact hl);rw[bO] at hb;refine ib (codeAny_mono (G.run (X.A.mark (some (.ref ea))) X.stack s1 H1 ⟨us,[]⟩ us vs Q E0 hr.h I1.env0 hb r q) λr s' hq=>?_);cases r with
 | error e=>exact hq.elim
 | ok fl =>
  cases fl with
  | ret u=>exact I1.after hq
  | next=>exact bS hq
  | brk=>exact bS hq
  | cont=>exact bS hq
end L2
end
section
namespace L2
open PySem
def ptN (ts:⋯)(hs:List Int)(x:Int):Int:=((x::nb ts x).filter (a2l ts hs)).length
def ptB (n:Int)(ts:⋯)(hs bs:List Int):List Int:=(J1 n hs bs).filter λx=>!a2l ts hs x
def ptL (n:Int)(ts:⋯)(hs bs:List Int):List Int:=if ptB n ts hs bs=[] then J1 n hs bs else ptB n ts hs bs
structure Ptp (n:Int)(ts:⋯)(hs bs:List Int)(x:Int):Prop where
 mem:x∈ptL n ts hs bs
 best:∀ c∈ptL n ts hs bs,ptN ts hs c<=ptN ts hs x/\(c<x->ptN ts hs c<ptN ts hs x)
theorem Ptp.uniq {n:Int}{ts:⋯}{hs bs:List Int}{x y:Int}(h:Ptp n ts hs bs x)(h':Ptp n ts hs bs y):x=y:=by
 have h1:=h.best y h'.mem;have h2:=h'.best x h.mem;rcases Int.lt_trichotomy x y with e | e | e
 ·have:=h2.2 e;omega
 ·exact e
 ·have:=h1.2 e;omega
theorem Ptp.free {n:Int}{ts:⋯}{hs bs:List Int}{x:Int}(h:Ptp n ts hs bs x):(0<=x/\x<n)/\x∉hs/\x∉bs:=by
 have hm:x∈J1 n hs bs:=by
  have:=h.mem;unfold ptL at this;split at this
  ·exact this
  ·exact (aM.mp this).1
 obtain⟨h1,h2⟩:=aM.mp hm;have h1:=E9.mp h1;have h2:x∉hs++bs:= ~~~h2
 exact⟨∅,λz=>h2 (dq _ z),λz=>h2 (aB _ z)⟩
theorem b0u {n:Int}{ts:⋯}{hs bs:List Int}:(ptL n ts hs bs).Pairwise (·<·):=by
 unfold ptL ptB J1;split
 ·exact db _ (Q4 _)
 ·exact db _ (db _ (Q4 _))
theorem b4S {xs:List Int}(hs:xs.Pairwise (·<·)){f:Int->Int}{i:Nat}{c:Int}(ec:xs[i]?=some c)(b:∀ j,j<xs.length->f (xs.getD j 0)<=f (xs.getD i 0)/\(j<i->f (xs.getD j 0)<f (xs.getD i 0))):∀ d∈xs,f d<=f c/\(d<c->f d<f c):=λd hd=>by
 have ec':xs.getD i 0=c:=by simp[ec]
 obtain⟨j,hj⟩:=di.mp hd;have hjl:=(ai.mp hj).1;have ej:xs.getD j 0=d:=by simp[hj]
 have b:=b j hjl;simp only[ec',ej] at b;refine⟨b.1,λhlt=>b.2 ?_⟩;rcases fz j i with h | h | h
 ·exact h
 ·subst h;rw[hj] at ec;cases ec;omega
 ·have hil:=(ai.mp ec).1;have:=dm.mp hs i j hil hjl h;rw[(ai.mp ec).2,(ai.mp hj).2] at this;omega
def P5 (lt:List Int)(f:Int->Int)(hs bs:List Int):Int:=if (lt.any λx=>decide (x∈hs))=true then 0 else (((lt.filter λx=>!decide (x∈bs)).map f).min?).getD 0
theorem b0V {l:List Int}{m:Int}(h:m∈l)(hm:∀ x∈l,m<=x):l.min?.getD 0=m:=by
 have:l.min?=some m:=List.min?_eq_some_iff.mpr ⟨h,hm⟩;rw[this];rfl
def Z1 (ts:⋯)(hs bs:List Int)(s:(Int->Int)×⋯)(p:Int):(Int->Int)×⋯ :=
 if 0<P5 (p::nb ts p) s.1 hs bs then (λv=>s.1 v-if v∈p::nb ts p then P5 (p::nb ts p) s.1 hs bs else 0,s.2++[(p,P5 (p::nb ts p) s.1 hs bs)]) else s
def rzE (ts:⋯)(f:Int->Int)(hs bs ks:List Int):(Int->Int)×⋯:=ks.foldl (Z1 ts hs bs) (f,[])
theorem a1J {ts:⋯}{f:Int->Int}{hs bs ks:List Int}{p:Int}:rzE ts f hs bs (ks++[p])=Z1 ts hs bs (rzE ts f hs bs ks) p:=by
 unfold rzE;rw[jP];rfl
theorem a5f {lt:List Int}{f:Int->Int}{hs bs:List Int}(h:0<P5 lt f hs bs):(∀ x∈lt,x∉hs)/\∀ x∈lt,x∉bs->P5 lt f hs bs<=f x:=by
 unfold P5 at h ⊢;by_cases ha:(lt.any λx=>decide (x∈hs))=true
 ·rw[if_pos ha] at h;omega
 ·rw[if_neg ha] at h ⊢;have ha':∀ x∈lt,x∉hs:=λx hx z=>ha (bC.mpr ⟨x,hx,decide_eq_true z⟩)
  refine⟨ha',λx hx hxb=>?_⟩;cases e:((lt.filter λx=>!decide (x∈bs)).map f).min? with
  | none=>rw[e] at h;exact absurd h (by simp)
  | some m =>
   have:=(List.min?_eq_some_iff.mp e).2 (f x) (dA (aM.mpr ⟨hx,by simp[hxb]⟩));exact this
theorem a4b {α:Type}{P:List α->Prop}(h0:P [])(hs:∀ l x,P l->P (l++[x]))(l:List α):P l:=by
 have h:∀ m:List α,P m.reverse:=λm=>by
  induction m with
  | nil=>exact h0
  | cons x r ih=>rw[eM];exact hs _ _ ih
 have:=h l.reverse
 rwa [List.reverse_reverse] at this
structure b4V (n:Int)(ts:⋯)(f:Int->Int)(hs bs ks:List Int)(g:Int->Int)(rows:⋯):Prop where
 nn:∀ x,0<=x->x<n->x∉bs->0<=g x
 pos:∀ r∈rows,0<=r.2
 sub:(rows.map (·.1)).Sublist ks
 dual:∀ S:List Int,S.Nodup->(∀ x∈S,0<=x/\x<n)->Q1 n ts S->a1c hs bs S->((S.filter λx=>!decide (x∈hs)).map g).sum+(rows.map (·.2)).sum<=((S.filter λx=>!decide (x∈hs)).map f).sum
theorem b4u {n:Int}{ts:⋯}{f:Int->Int}{hs bs:List Int}(hok:N8 n ts)(hf:∀ x,0<=f x):∀(ks:List Int),(∀ x∈ks,0<=x/\x<n)->b4V n ts f hs bs ks (rzE ts f hs bs ks).1 (rzE ts f hs bs ks).2:=by
 refine a4b (P:=λks=>(∀ x∈ks,0<=x/\x<n)->b4V n ts f hs bs ks (rzE ts f hs bs ks).1 (rzE ts f hs bs ks).2) ?_ ?_
 ·intro _;exact⟨λx _ _ _=>hf x,λr hr=>(by cases hr),eZ _,λS _ _ _ _=>by simp[rzE]⟩
 ·intro ks p ih hr;have R:=ih λx hx=>hr x (dq _ hx)
  obtain⟨p0,p1⟩:=hr p (by simp);rw[a1J];unfold Z1;generalize rzE ts f hs bs ks=s at R ⊢;obtain⟨g,rows⟩:=s;dsimp only at R ⊢;by_cases hp:0<P5 (p::nb ts p) g hs bs
  ·rw[if_pos hp];obtain⟨hlh,hmin⟩:=a5f hp;generalize P5 (p::nb ts p) g hs bs=m at hp hmin ⊢;refine⟨λx x0 x1 hxb=>?_,λr hr=>?_,?_,λS hnd hr hB hk=>?_⟩
   ·show 0<=g x-if x∈p::nb ts p then m else 0
    by_cases hx:x∈p::nb ts p
    ·rw[if_pos hx];have:=hmin x hx hxb;omega
    ·rw[if_neg hx];have:=R.nn x x0 x1 hxb;omega
   ·rcases aj.mp hr with hr | hr
    ·exact R.pos r hr
    ·rw[aq.mp hr];show 0<=m;omega
   ·rw[aE];exact R.sub.append (eZ _)
   ·have hd:=R.dual S hnd hr hB hk;have hx:∃ x∈S,x∈p::nb ts p:=by
     by_cases hpS:p∈S
     ·exact⟨p,hpS,by simp⟩
     ·obtain⟨y,hy,hyS⟩:=hB.2 p p0 p1 hpS;exact⟨y,hyS,by simp[hy]⟩
    obtain⟨x,hxS,hxl⟩:=hx;have:=a3P (f:=g) (g:=λv=>g v-if v∈p::nb ts p then m else 0) (s:=m) ∅ (l:=S.filter λx=>!decide (x∈hs)) (λz _=>by show g z-(if z∈p::nb ts p then m else 0)<=g z;split<;>omega) ⟨x,aM.mpr ⟨hxS,by simpa using hlh x hxl⟩,by show g x-(if x∈p::nb ts p then m else 0)+m<=g x;rw[if_pos hxl];omega⟩;rw[aE,List.sum_append];simp only[aA,ce,bo,i8];omega
  ·rw[if_neg hp];exact⟨R.nn,R.pos,R.sub.trans (iE _ _),R.dual⟩
def a8M (n:Int)(f:Int->Int):Bool:=(B7 0 n.toNat).all λv=>f v == 1
def X0 (n:Int)(ts:⋯)(f:Int->Int)(hs bs:List Int):⋯:=(rzE ts f hs bs (B7 0 n.toNat)).2
def a5h (rows:⋯):PyData:=.tuple ((rows.map λr=>[r.1,r.2,1]).map tI)
open Classical in
noncomputable def U8 (n:Int)(ts:⋯)(f:Int->Int)(hs bs:List Int)(lim:Int):Option PyData :=
 if (hs.map f).sum>lim then some (.tuple [.str "over"])
 else if ¬ Q1 n ts (C8 n bs) then some (a3q n ts bs)
 else if (hs.map f).sum+((X0 n ts f hs bs).map (·.2)).sum>lim then some (.tuple [.str "shares",a5h (X0 n ts f hs bs)])
 else if (a8M n f && a0T n ts hs bs lim)=true then some (.tuple [.str "thin"]) else none
section
variable {n:Int}{ts:⋯}{f:Int->Int}{hs bs:List Int}{lim:Int}
theorem a9F (hok:N8 n ts){u:Int}(h0:0<=u)(h1:u<n):0<=W2 ts u:=by
 have h3:=hok.n3;have:(nb ts u).length≠0:=λh=>by
  have hn:nb ts u=[]:=iL.mp h;have nn:∀ t∈ts,t.1≠u/\t.2≠u:=λt ht=>by
   have r:=hok.rng t ht;refine⟨λe=>?_,λe=>?_⟩
   ·have:t.2∈nb ts u:=a1P.mpr (.inl (by rw[<- e];exact ht));rw[hn] at this;cases this
   ·have:t.1∈nb ts u:=a1P.mpr (.inr ⟨by rw[<- e];exact ht,.inl ∅⟩);rw[hn] at this;cases this
  have c:=hok.conn (·=u) (λt ht=>⟨λe=>absurd e (nn t ht).1,λe=>absurd e (nn t ht).2⟩) u (if u=0 then 1 else 0) h0 h1 (by split<;>omega) (by split<;>omega) rfl;split at c<;>omega
 unfold W2;omega
theorem a6q:((X0 n ts f hs bs).map (·.1)).Pairwise (·<·)/\(X0 n ts f hs bs).length<=n.toNat:=by
 have R:((X0 n ts f hs bs).map (·.1)).Sublist (B7 0 n.toNat):=by
  unfold X0;have key:∀ ks:List Int,((rzE ts f hs bs ks).2.map (·.1)).Sublist ks:=a4b (eZ _) λks p ih=>by
   rw[a1J];unfold Z1;split
   ·rw[aE];exact ih.append (eZ _)
   ·exact ih.trans (iE _ _)
  exact key _
 refine⟨(Q4 _).sublist R,?_⟩;have:=R.length_le
 rwa [aa,B6] at this
theorem b0o {rows:⋯}(pm:rows.Perm (rzE ts f hs bs (B7 0 n.toNat)).2)(hsr:rows.Pairwise λa b=>a.1<=b.1):rows=X0 n ts f hs bs:=by
 have h1:=(a6q (n:=n) (ts:=ts) (f:=f) (hs:=hs) (bs:=bs)).1;rw[ck] at h1;refine dP (le:=λa b=>a.1<=b.1) (λa b ha hb x y=>?_) hsr (h1.imp λ{a b} h=>Int.le_of_lt h) pm;have ha':a∈X0 n ts f hs bs:=pm.mem_iff.mp ha;obtain⟨i,hi,rfl⟩:=jq.mp ha';obtain⟨j,hj,rfl⟩:=jq.mp hb;rcases fz i j with h | h | h
 ·have:=dm.mp h1 i j hi hj h;omega
 ·subst h;rfl
 ·have:=dm.mp h1 j i hj hi h;omega
theorem a3I.ed {K:ac}{H:Hp}{p:Addr}{rows:⋯}(h:a3I H p rows):Dt K H (.ref p) (a5h rows):=a4W.dt h
theorem a5d {f:Int->Int}(hf:∀ x,0<=f x):∀ l:List Int,0<=(l.map f).sum
 | []=>by simp
 | x::r=>by
  have h1:=hf x;have h2:=a5d hf r;rw[aA,bo];omega
structure Kp3 (n:Int)(ts:⋯)(hs bs S:List Int):Prop where
 up:S.Pairwise (·<·)
 rng:∀ x∈S,0<=x/\x<n
 busy:Q1 n ts S
 keep:a1c hs bs S
theorem b3y (hok:N8 n ts)(hf:∀ x,0<=f x)(st:Y6 n hs bs){d:PyData}(e:U8 n ts f hs bs lim=some d){S:List Int}(hS:Kp3 n ts hs bs S):lim<(S.map f).sum:=by
 have hnd:=C1 hS.up;have hhnd:=C1 st.ul;have hsp:=a1p (f:=f) hhnd hnd hS.keep.1;have hrest:=a5d hf (S.filter λx=>!decide (x∈hs));unfold U8 at e;split at e
 ·omega
 ·split at e
  ·rename_i hb;exact absurd (a3i hok.rng (λx=>G7) hS.rng hS.busy hS.keep) hb
  ·split at e
   ·rename_i hw;have R:=b4u (hs:=hs) (bs:=bs) hok hf (B7 0 n.toNat) λx hx=>by have:=E9.mp hx;omega
    have hd:=R.dual S hnd hS.rng hS.busy hS.keep;have hg:0<=((S.filter λx=>!decide (x∈hs)).map (rzE ts f hs bs (B7 0 n.toNat)).1).sum:=W6 λy hy=>by
     obtain⟨x,hx,rfl⟩:=bq.mp hy;have hx:=aM.mp hx;have r:=hS.rng x hx.1;exact R.nn x r.1 r.2 λk=>hS.keep.2 x k hx.1
    unfold X0 at hw;omega
   ·split at e
    ·rename_i ht;rw[df] at ht;have h1:∀ x∈S,f x=1:=λx hx=>by
      have r:=hS.rng x hx;have:=eU.mp ht.1 x (E9.mpr ∅);simpa using this
     have hl:(S.map f).sum=S.length:=by
      have:S.map f=List.replicate S.length 1:=List.eq_replicate_iff.mpr ⟨aa _,λb hb=>by
       obtain⟨x,hx,rfl⟩:=bq.mp hb
       exact h1 x hx⟩
      rw[this];have:∀ k:Nat,(List.replicate k (1:Int)).sum=k:=λk=>by
       induction k with
       | zero=>rfl
       | succ k ih=>rw[dz,bo,ih];omega
      exact this _
     rcases Int.lt_or_le lim (S.map f).sum with q | q
     ·exact q
     ·have:=b0j (lim:=lim) hok hhnd hS.busy hnd hS.rng hS.keep (λx h0 h1=>a9F hok h0 h1) ∅;rw[this] at ht;cases ht.2
    ·cases e
theorem a4K (e:U8 n ts f hs bs lim=none):(hs.map f).sum<=lim/\Q1 n ts (C8 n bs):=by
 unfold U8 at e;split at e
 ·cases e
 ·split at e
  ·cases e
  ·rename_i h1 h2;exact⟨∅,Classical.not_not.mp h2⟩
end
end L2
end
section
namespace L2
open PySem
structure Sf (k:Nat)(d:PyData):Prop where
 lay:d.canLay0=true
 dep:d.depth<=k
 eq:PyData.eqv d d=true
structure Sfs (k:Nat)(ds:List PyData):Prop where
 lay:PyData.canLayAll0 ds=true
 dep:PyData.depthAll ds<=k
 eq:PyData.eqvAll ds ds=true
section
variable {k:Nat}{d:PyData}{ds:List PyData}
theorem Sfs.nil:Sfs k []:=⟨rfl,bf _,rfl⟩
theorem Sfs.cons (h:Sf k d)(t:Sfs k ds):Sfs k (d::ds):=by
 refine⟨?_,?_,?_⟩
 ·rw[PyData.canLayAll0,h.lay,t.lay];rfl
 ·rw[PyData.depthAll];exact Nat.max_le.mpr ⟨h.dep,t.dep⟩
 ·rw[PyData.eqvAll,h.eq,t.eq];rfl
theorem Sfs.all:∀ {ds:List PyData},(∀ d∈ds,Sf k d)->Sfs k ds
 | [],_=>.nil
 | d::r,h=>.cons (h d (aT ..)) (Sfs.all λx hx=>h x (aN _ hx))
theorem Sfs.tup (h:Sfs k ds):Sf (k+1) (.tuple ds):=by
 refine⟨?_,?_,?_⟩
 ·rw[PyData.canLay0];exact h.lay
 ·rw[PyData.depth];have:=h.dep;omega
 ·rw[PyData.eqv];exact h.eq
theorem Sf.mono {j:Nat}(h:Sf k d)(hj:k<=j):Sf j d:=⟨h.lay,aV h.dep hj,h.eq⟩
theorem Sf.int {i:Int}:Sf k (.int i):=⟨rfl,bf _,by simp[PyData.eqv]⟩
theorem Sf.ints {l:List Int}:Sf (k+1) (tI l):=Sfs.tup (Sfs.all λd hd=>by
 obtain⟨x,_,rfl⟩:=bq.mp hd
 exact .int)
theorem Sf.word {x:Str}(h:(PyData.str x).canLay0=true)(e:PyData.eqv (.str x) (.str x)=true):Sf k (.str x):=⟨h,bf _,e⟩
theorem Sf.shaped (h:Sf k d)(hk:k<=64):SeqAt.shaped d=true:=by
 unfold SeqAt.shaped;rw[h.lay,fJ,decide_eq_true_iff];have:=h.dep;omega
end
section
variable {n:Int}{ts:⋯}{f:Int->Int}{hs bs:List Int}{lim:Int}
theorem b2b:Sf 3 (a3q n ts bs):=by
 unfold a3q;split
 ·exact (Sfs.tup (k:=0) (.cons (.word (by decide +kernel) (by decide +kernel)) (.cons .int .nil))).mono (by decide)
 ·split
  ·exact (Sfs.tup (k:=1) (.cons (.word (by decide +kernel) (by decide +kernel)) (.cons .ints (.cons .int (.cons .int .nil))))).mono (by decide)
  ·exact⟨rfl,bf _,rfl⟩
theorem b3x {d:PyData}(e:U8 n ts f hs bs lim=some d):Sf 3 d:=by
 unfold U8 at e;split at e
 ·cases e;exact (Sfs.tup (k:=0) (.cons (.word (by decide +kernel) (by decide +kernel)) .nil)).mono (by decide)
 ·split at e
  ·cases e;exact b2b
  ·split at e
   ·cases e;refine Sfs.tup (k:=2) (.cons (.word (by decide +kernel) (by decide +kernel)) (.cons ?_ .nil));refine Sfs.tup (k:=1) (Sfs.all λd hd=>?_);obtain⟨x,_,rfl⟩:=bq.mp hd;exact Sf.ints (k:=0)
   ·split at e
    ·cases e;exact (Sfs.tup (k:=0) (.cons (.word (by decide +kernel) (by decide +kernel)) .nil)).mono (by decide)
    ·cases e
end
def a4V (hs:List Int)(x:Int)(hs':List Int):Prop:=hs'.Pairwise (·<·)/\∀ y,y∈hs'↔y∈hs\/y=x
theorem a4V.uniq {hs a b:List Int}{x:Int}(h:a4V hs x a)(h':a4V hs x b):a=b:=Q8 h.1 h'.1 λy=>by rw[h.2,h'.2]
inductive Bac (n:Int)(ts:⋯)(f:Int->Int):List Int->List Int->List Int->List Int->PyData->Prop
 | fin {hs bs bst:List Int} {d:PyData} (e:U8 n ts f hs bs ((bst.map f).sum-1)=some d):Bac n ts f hs bs bst bst d
 | set {hs bs bst:List Int} (e:U8 n ts f hs bs ((bst.map f).sum-1)=none) (h:Q1 n ts hs):Bac n ts f hs bs bst hs (.tuple [.str "over"])
 | part {hs bs bst hs' bs' b1 b2:List Int} {x:Int} {d1 d2:PyData} (e:U8 n ts f hs bs ((bst.map f).sum-1)=none) (h:¬ Q1 n ts hs) (p:Ptp n ts hs bs x) (u:a4V hs x hs') (v:a4V bs x bs')
   (r1:Bac n ts f hs' bs bst b1 d1) (r2:Bac n ts f hs bs' b1 b2 d2):Bac n ts f hs bs bst b2 (.tuple [.str "part",.int x,d1,d2])
section
variable {n:Int}{ts:⋯}{f:Int->Int}{hs bs bst b b':List Int}{d d':PyData}
theorem Bac.uniq (h:Bac n ts f hs bs bst b d):∀ {b' d'},Bac n ts f hs bs bst b' d'->b=b'/\d=d':=by
 induction h with
 | fin e =>
  intro b' d' h';cases h' with
  | fin e'=>rw[e] at e';cases e';exact⟨rfl,rfl⟩
  | set e' _=>rw[e] at e';cases e'
  | part e'=>rw[e] at e';cases e'
 | set e h =>
  intro b' d' h';cases h' with
  | fin e'=>rw[e] at e';cases e'
  | set e' _=>exact⟨rfl,rfl⟩
  | part e' h'=>exact absurd h h'
 | part e h p u v r1 r2 ih1 ih2 =>
  intro b' d' h';cases h' with
  | fin e'=>rw[e] at e';cases e'
  | set e' h'=>exact absurd h' h
  | part e' h' p' u' v' r1' r2' =>
   obtain rfl:=p.uniq p';obtain rfl:=u.uniq u';obtain rfl:=v.uniq v';obtain⟨rfl,rfl⟩:=ih1 r1';obtain⟨rfl,rfl⟩:=ih2 r2';exact⟨rfl,rfl⟩
theorem Y6.held {x:Int}{hs':List Int}(st:Y6 n hs bs)(u:a4V hs x hs')(hx:(0<=x/\x<n)/\x∉hs/\x∉bs):Y6 n hs' bs :=
 ⟨u.1,st.bl,λy hy=>((u.2 y).mp hy).elim (st.ur y) λe=>e ▸ hx.1,st.br,λy hy=>((u.2 y).mp hy).elim (st.ap y) λe=>e ▸ hx.2.2⟩
theorem Y6.barred {x:Int}{bs':List Int}(st:Y6 n hs bs)(v:a4V bs x bs')(hx:(0<=x/\x<n)/\x∉hs/\x∉bs):Y6 n hs bs' :=
 ⟨st.ul,v.1,st.ur,λy hy=>((v.2 y).mp hy).elim (st.br y) λe=>e ▸ hx.1,λy hy z=>((v.2 y).mp z).elim (st.ap y hy) λe=>hx.2.1 (e ▸ hy)⟩
theorem Bac.good (hok:N8 n ts)(hf:∀ x,0<=f x)(h:Bac n ts f hs bs bst b d):Y6 n hs bs->(b.map f).sum<=(bst.map f).sum/\(b=bst\/Kp3 n ts hs bs b)/\∀ S,Kp3 n ts hs bs S->(b.map f).sum<=(S.map f).sum:=by
 induction h with
 | fin e =>
  intro st;exact⟨jK _,.inl rfl,λS hS=>by have:=b3y hok hf st e hS;omega⟩
 | @set hs bs bst e h =>
  intro st;obtain⟨h1,h2⟩:=a4K e;refine⟨∅,.inr ⟨st.ul,st.ur,h,λx hx=>hx,λx hx z=>st.ap x z hx⟩,λS hS=>?_⟩;have:=a1p (f:=f) (C1 st.ul) (C1 hS.up) hS.keep.1;have h3:=a5d hf (S.filter λx=>!decide (x∈hs));omega
 | @part hs bs bst hs' bs' b1 b2 x d1 d2 e h p u v r1 r2 ih1 ih2 =>
  intro st;have hx:=p.free;obtain⟨a1,a2,a3⟩:=ih1 (st.held u hx);obtain⟨c1,c2,c3⟩:=ih2 (st.barred v hx);have k1:∀ {S:List Int},Kp3 n ts hs' bs S->Kp3 n ts hs bs S:=λk=>⟨k.up,k.rng,k.busy,λy hy=>k.keep.1 y ((u.2 y).mpr (.inl hy)),k.keep.2⟩
  have k2:∀ {S:List Int},Kp3 n ts hs bs' S->Kp3 n ts hs bs S:=λk=>⟨k.up,k.rng,k.busy,k.keep.1,λy hy=>k.keep.2 y ((v.2 y).mpr (.inl hy))⟩
  refine⟨∅,?_,λS hS=>?_⟩
  ·rcases c2 with rfl | c2
   ·exact a2.imp id k1
   ·exact .inr (k2 c2)
  ·by_cases hm:x∈S
   ·have:=a3 S ⟨hS.up,hS.rng,hS.busy,λy hy=>((u.2 y).mp hy).elim (hS.keep.1 y) λe=>e ▸ hm,hS.keep.2⟩;omega
   ·exact c3 S ⟨hS.up,hS.rng,hS.busy,hS.keep.1,λy hy z=>((v.2 y).mp hy).elim (λk=>hS.keep.2 y k z) λe=>hm (e ▸ z)⟩
theorem a0a {x:Int}{hs' bs':List Int}(hx:x∈J1 n hs bs)(h:∀ y,y∈hs'++bs'↔y∈hs++bs\/y=x):(J1 n hs' bs').length<(J1 n hs bs).length:=by
 have hnd:(x::J1 n hs' bs').Nodup:=bX.mpr ⟨λhm=>by
  have:x∉hs'++bs':=by simpa using (aM.mp hm).2
  exact this ((h x).mpr (.inr rfl)),C1 P2⟩
 have hsub:(x::J1 n hs' bs') ⊆ J1 n hs bs:=λy hy=>by
  rcases aL.mp hy with rfl | hy
  ·exact hx
  ·obtain⟨h1,h2⟩:=aM.mp hy;have h2:y∉hs'++bs':= ~~~h2
   refine aM.mpr ⟨h1,?_⟩;have:y∉hs++bs:=λz=>h2 ((h y).mpr (.inl z))
   simpa using this
 have:=X7 hnd hsub;rw[aw] at this;omega
theorem a7C (st:Y6 n hs bs)(hB:Q1 n ts (C8 n bs))(h:J1 n hs bs=[]):Q1 n ts hs:=by
 have e:hs=C8 n bs:=Q8 st.ul (db _ (Q4 _)) λx=>by
  rw[G7];constructor
  ·intro hx;exact⟨st.ur x hx,st.ap x hx⟩
  ·rintro⟨h1,h2⟩;by_cases hx:x∈hs
   ·exact hx
   ·have:x∈J1 n hs bs:=aM.mpr ⟨E9.mpr ∅,by simp[hx,h2]⟩;rw[h] at this;cases this
 rw[e];exact hB
theorem Bac.sf {m:Nat}(h:Bac n ts f hs bs bst b d):(J1 n hs bs).length<=m->Sf (m+3) d:=by
 induction h generalizing m with
 | fin e=>intro _;exact (b3x e).mono ∅
 | set e h=>intro _;exact (Sfs.tup (k:=0) (.cons (.word (by decide +kernel) (by decide +kernel)) .nil)).mono ∅
 | @part hs bs bst hs' bs' b1 b2 x d1 d2 e h p u v r1 r2 ih1 ih2 =>
  intro hm;have hx:=p.free;have hxf:x∈J1 n hs bs:=aM.mpr ⟨E9.mpr ∅,by simp[hx.2.1,hx.2.2]⟩;have l1:=a0a (hs':=hs') (bs':=bs) hxf λy=>by rw[aj,aj,u.2];exact⟨λk=>k.elim (λk=>k.elim (λk=>.inl (.inl k)) .inr) λk=>.inl (.inr k),λk=>k.elim (λk=>k.elim (λk=>.inl (.inl k)) .inr) λk=>.inl (.inr k)⟩
  have l2:=a0a (hs':=hs) (bs':=bs') hxf λy=>by rw[aj,aj,v.2,or_assoc]
  cases m with
  | zero=>omega
  | succ m =>
   have s1:=ih1 (m:=m) ∅;have s2:=ih2 (m:=m) ∅;exact Sfs.tup (k:=m+3) (.cons (.word (by decide +kernel) (by decide +kernel)) (.cons .int (.cons s1 (.cons s2 .nil))))
theorem a5V {f:Int->Int}(hf:∀ x,0<=f x/\f x<=1000):∀ hs:List Int,0<=(hs.map f).sum/\(hs.map f).sum<=1000*hs.length
 | []=>⟨by simp,by simp⟩
 | x::r=>by
  have h1:=hf x;have h2:=a5V hf r;rw[aA,bo,aw];omega
theorem a2t {hs ms:List Int}{x:Int}(pm:ms.Perm (hs++[x]))(sr:ms.Pairwise (·<=·))(hnd:hs.Nodup)(hx:x∉hs):a4V hs x ms:=by
 have nd:(hs++[x]).Nodup:=dO.mpr ⟨hnd,by simp,λa ha b hb e=>hx (by rw[<- aq.mp hb,<- e];exact ha)⟩;exact⟨R9 pm sr nd,λy=>by rw[pm.mem_iff];simp⟩
end
end L2
end
section
namespace L2
open PySem PySem.Spec PyProof.Rows
section
variable {X:Cx}
def b0s (K:ac)(neg:Bool):R2:=λx y H Q=>∃(d:PyData) (es:List PyData),Dt K H x d/\Dt K H y (.list es)/\d.canLay0=true/\PyData.canLayAll0 es=true/\PyData.depthAll es<=8 /\
 Q (.bl (if neg then !(es.any λe=>PyData.eqv e d) else es.any λe=>PyData.eqv e d)) H
theorem b5y (hu:X.A.units+64<cLine):OpR X (compareOp .In) (b0s X.K false):=by
 intro pins s σ H x y v u Q I rx ry h;obtain⟨d,es,hd,he,c1,c2,dp,q⟩:=h;obtain⟨as,r1⟩:=I.reads hd rx;obtain⟨bs,r2⟩:=I.reads he ry;exact SeqAt.in_list_reads r2 r1 c2 c1 (by have:=il (PyData.depthAll es) d.depth;omega) ⟨.bl _,H,I,rfl,q⟩
theorem a6Z (hu:X.A.units+64<cLine):OpR X (compareOp .NotIn) (b0s X.K true):=by
 intro pins s σ H x y v u Q I rx ry h;obtain⟨d,es,hd,he,c1,c2,dp,q⟩:=h;obtain⟨as,r1⟩:=I.reads hd rx;obtain⟨bs,r2⟩:=I.reads he ry;exact SeqAt.notIn_list_reads r2 r1 c2 c1 (by have:=il (PyData.depthAll es) d.depth;omega) ⟨.bl _,H,I,rfl,q⟩
theorem b0S (K:ac)(hu:X.A.units+64<cLine)(h:X.K=K:=by rfl):OpR X (compareOp .NotIn) (b0s K true):=by subst h;exact a6Z hu
end
theorem a9M {K:ac}{H:Hp}:∀ {ps:List (Addr×List Int)},(∀ x∈ps,H x.1=some (.tup (x.2.map V.int)))->Dts K H (ps.map λx=>V.ref x.1) ((ps.map (·.2)).map tI)
 | [],_=>.nil
 | x::r,h=>.cons (.tupI (SqT.of (h x (aT ..)))) (a9M λy hy=>h y (aN _ hy))
theorem b1w (ls:List (List Int))(l:List Int):(ls.map tI).any (λe=>PyData.eqv e (.tuple (l.map cp)))=decide (l∈ls):=by
 rw[i9,fe,bC,decide_eq_true_iff];constructor
 ·rintro⟨u,hu,e⟩;have e':PyData.eqv (.tuple (u.map cp)) (.tuple (l.map cp))=true:=e;rw[a4I] at e';rw[<- of_decide_eq_true e'];exact hu
 ·intro h;refine⟨l,h,?_⟩;show PyData.eqv (.tuple (l.map cp)) (.tuple (l.map cp))=true;rw[a4I];exact decide_eq_true rfl
def Dok (K:ac)(H:Hp)(v:V):Prop:=∃ d,Dt K H v d/\PyData.canLay0 d=true/\PyData.depth d<=8
theorem a9L {K:ac}{H:Hp}:∀ {xs:List V},(∀ v∈xs,Dok K H v)->∃ ds,Dts K H xs ds/\PyData.canLayAll0 ds=true/\PyData.depthAll ds<=8/\(ds=[]↔xs=[])
 | [],_=>⟨[],.nil,rfl,by simp[PyData.depthAll],by simp⟩
 | x::r,h=>by
  obtain⟨d,h1,h2,h3⟩:=h x (aT ..);obtain⟨ds,k1,k2,k3,_⟩:=a9L λv hv=>h v (aN _ hv)
  refine⟨d::ds,.cons h1 k1,?_,?_,by simp⟩
  ·rw[PyData.canLayAll0,h2,k2];rfl
  ·rw[PyData.depthAll];omega
theorem b4P {K:ac}{H:Hp}{a b:Addr}{xs:List V}{neg:Bool}{Q:VK}(h1:H a=some (.lst xs))(hx:∀ v∈xs,Dok K H v)(h2:H b=some (.lst []))(q:∀ c:Bool,(c=true↔xs=[])->Q (.bl (if neg then !c else c)) H):a5i K neg (.ref a) (.ref b) H Q:=by
 obtain⟨ds,k1,k2,k3,k4⟩:=a9L hx;refine⟨.list ds,.list [],.lst (SqL.of h1) k1,.lst (SqL.of h2) .nil,?_,?_,?_⟩
 ·unfold SeqAt.shaped;rw[PyData.canLay0,PyData.depth,k2,fJ,decide_eq_true_iff];omega
 ·exact S3 []
 ·refine q _ ?_;rw[<- k4];cases ds with
  | nil=>simp[PyData.eqv,PyData.eqvAll]
  | cons d r=>simp[PyData.eqv,PyData.eqvAll]
theorem b1p {K:ac}{H:Hp}{a:Addr}{l:List Int}(e:H a=some (.tup (l.map V.int))):Dok K H (.ref a):=⟨_,.tupI (SqT.of e),by rw[PyData.canLay0,S5],by rw[PyData.depth,W4];omega⟩
end L2
end
section
set_option format.width 230
set_option pp.deepTerms true
set_option pp.maxSteps 20000
namespace K37
open PySem L2
local macro_rules | `(tactic| walk_at "rd")=>`(tactic| ((try simp only[L2.N4,st0,aA,ce,aw,ci,List.replicate,cK,cH,Nat.reduceAdd,Nat.reduceSub,iN,eB,Option.join_some]);simp only[↓b3X,↓b4q,↓b5n,↓tCA,↓b3Z,↓b2f,↓b4k,↓b2d,↓tBA,↓b2k,↓b2m,↓b2o,↓b2n,↓b4g,↓b5r,↓b5s,↓b4p,↓b3V,↓b4h,↓b4I,↓b3s,↓b4L,↓b4J,↓b5k,↓a8g,↓b2g,↓b4r,↓b5m,↓b4e,↓b4n,↓a8i,↓b2s,↓b3p,↓b4G,↓b3o,↓b3n,↓b5o,↓b5q,↓b0m,↓b2q,↓b4c,↓b2h,↓b5j,↓b3U,↓b0l,↓b0k,↓b4j,↓b2i,↓tV0,↓tV1,↓tV2,↓tV3,↓tV4,↓tV5,↓tV6,↓tV7,↓tV8,↓tV9,↓b5i,↓b5h,↓b5g,↓b5f,↓b5e,↓b5d,↓gN0,↓gN1,↓gN2,↓gN3,↓gN4,↓gN5,↓gN6,↓gN7,↓gN8,↓gN9,↓b5F,↓b5E,↓b5D,↓b5C,↓b5B,↓b5A,↓b5v,↓rIi,↓b4x,↓b4w,↓exB,↓exI,↓exR,↓b5w,↓b5u,↓b4R,rI,rI0,a3v,b2u,b1P,b1E,b1K,a3r,b0r,b0q,rEq,rNe,b3E,b1Z,a9X,a9Z,a9Y,b3G,b3I,a4S,b3C,b3D,b1Q,b1L,ipI,b4b,b4H,b3H,a3O,a5j,a3u,b4y,b1V,L2.N4,st0,aA,ce,aw,ci,List.replicate,cK,cH,bO,iN,eB,jH,jI,Option.some.injEq,V.int.injEq,V.bl.injEq,V.ref.injEq,List.cons.injEq,and_true,true_and,exists_eq_left',exists_eq_left,exists_eq',exists_eq,Nat.reduceAdd,Nat.reduceSub,exists_and_left,and_self,Option.join_some,a8t,decide_true,if_true,if_false,bE,Bool.not_true,Bool.not_false,U6,P1,a8f,b1C,b3S,a5c,a8h,b4d,stL]))
section
variable {P:Program}{w:World}{K:ac}{mg:Str->Option Value}{base:Heap}
set_option hygiene false
local macro_rules | `($a <*> $b) => `(@b0E _ _ _ _ _ $a $b (by rfl))
local macro_rules | `($a <* $b) => `(@a8z _ _ _ _ _ $a $b)
local macro_rules | `($a <|> $b) => `(@a6w _ _ _ _ _ _ _ (a9s K) $a $b (λ_ _=>rfl))
local macro_rules | `($a *> $b) => `(@a6w _ _ _ _ _ _ _ (b1c K) $a $b (λ_ _=>rfl))
local macro_rules | `($a &&& $b) => `(@M2 _ _ _ _ _ _ _ _ b2K $a $b)
local macro_rules | `($a ||| $b) => `(@M2 _ _ _ _ _ _ _ _ b2N $a $b)
local macro_rules | `($a ^^^ $b) => `(@M2 _ _ _ _ _ _ _ _ b2E $a $b)
set_option hygiene true
set_option hygiene false
local macro_rules | `(tactic| walk_at "s") => `(tactic| exact⟨rfl,rfl,rfl,by decide +kernel,rfl,by decide +kernel,by decide +kernel⟩)
local macro_rules | `(tactic| walk_at "w") => `(tactic| with_unfolding_all rfl)
local macro_rules | `(tactic| walk_at "h") => `(tactic| ((repeat first | (obtain⟨rfl,h⟩:=h) | (obtain⟨_,h⟩:=h));rfl))
set_option hygiene true
theorem _root_.L2.N3.m {j k:Nat}{A:Around}(r:N3 k A)(h:j<=k:=by decide):N3 j A:=r.mono h
open PyProof.Rows (boot_all boot_bool boot_enumerate boot_int boot_isinstance boot_list boot_max boot_min boot_range boot_set boot_sorted boot_sum boot_tuple)
theorem a4k:B8 ["_law_cell","_law_k","_law_number"] ["_law_cell","_law_k"] (A4 (top 50)):=by walk_at "s"
theorem a8U (F:Fun K "_law_mixed" "_law_mixed" (top 50) f fd)(B:Bt mg):C0 P w K mg base CX0 1 f fd ["_law_cell","_law_k"] a3U:=by
 refine F.ok a4k (λvs H Q E h=>?_) (λcdv A outer s H vs Q E hr h=>?_)
 ·walk_at "h"
 ·obtain⟨c,k,rfl,hk0,hk1,q⟩:=h;have nd:=a4k.nd;have hu:=E8 hr
  refine⟨_,((C4 (i:=2) nd rfl (.inl rfl) ((((pv 0)|||(@M2 _ _ _ _ _ _ _ _ T7 (@M2 _ _ _ _ _ _ _ _ T7 (pv 1) (pv 1)) A7))|||A7)&&&A7))<*
    ((C4 (i:=2) nd rfl (.inl rfl) ((@M2 _ _ _ _ _ _ _ _ T7 (pv 2) (pv 2))&&&A7))<*
    ((C4 (i:=2) nd rfl (.inl rfl) ((@M2 _ _ _ _ _ _ _ _ T7 (((pv 2)|||(@M2 _ _ _ _ _ _ _ _ T7 (pv 1) A7))|||A7) A7)&&&A7))<*
    (@A2 _ _ _ (B9 (@M2 _ _ _ _ _ _ _ _ a3A ((@M2 _ _ _ _ _ _ _ _ T7 (pv 2) (pv 2))&&&A7) A7)))))),?_⟩
  walk_at "rd";have hm:∀ x:Int,0<=x % 2305843009213693951/\x % 2305843009213693951<2305843009213693951:=λx=>⟨da _ (by decide),cu _ (by decide)⟩
  have small:∀ x y:Int,b1B (x % 2305843009213693951) y:=λx y=>.inl ⟨by have:=hm x;omega,by have:=hm x;omega⟩
  have pos:(0:Int)<2305843009213693951:=by decide
  exact⟨.inl ⟨∅,∅⟩,.inr ⟨by decide,by decide⟩,pos,small _ _,pos,.inl ⟨∅,∅⟩,.inr ⟨by decide,by decide⟩,pos,small _ _,pos,⟨by decide,by decide⟩,q _⟩
theorem a6l:B8 ["_law_deck_here"] ["_law_deck_here"] (A4 (top 52)):=by walk_at "s"
theorem b0N (F:Fun K "_law_next" "_law_next" (top 52) f fd)(B:Bt mg):C0 P w K mg base CX0 1 f fd ["_law_deck_here"] Z0:=by
 refine F.ok a6l (λvs H Q E h=>?_) (λcdv A outer s H vs Q E hr h=>?_)
 ·walk_at "h"
 ·obtain⟨d,ns,rfl,hd,q⟩:=h;have nd:=a6l.nd;have hu:=E8 hr
  refine⟨_,((@K4 _ _ _ _ _ _ _ _ (E6 a0Z (B0 (U7 K) (by rfl) B.len bi ((pv 0)<*>A0)) A7 (E7 _))
     (@A2 _ _ _ (B9 (b2w K (pv 0))))
     E5)<*
     (@A2 _ _ _ (B9 A7))),?_⟩
  walk_at "rd";refine⟨ns.map V.int,.inl (SqL.of hd),R7 (λh=>?_) λh=>?_⟩
  ·refine⟨.inl ⟨rfl,_,SqL.of hd⟩,?_⟩;have hne:ns≠[]:=λe=>by subst e;simp at h
   have h1:(ns.map V.int)[(ns.map V.int).length-1]?=some (V.int (ns.getLast hne)):=by
    rw[aa,ah,<- List.getLast?_eq_getElem?,List.getLast?_eq_some_getLast hne];rfl
   refine⟨ns.map V.int,hd,_,h1,?_⟩;rw[<- List.map_dropLast];exact q _ _ (by rw[js];omega) (λx hx=>List.dropLast_subset _ hx) (.inr (List.getLast_mem hne))
  ·have e:upd H d (.lst (ns.map V.int))=H:=a7Y hd;have:=q 0 ns (ao _) (λ_ h=>h) (.inl rfl);rw[e] at this;exact this
def a9B (H:Hp)(a p4 p5 p6:Addr)(m:Int)(os:List Int)(i:Nat)(σ:St)(Hc:Hp):Prop:=∃(kv av:Option V) (rs ds:List Int),σ=[some (.ref a),some (.int m),some (.ref p4),some (.ref p5),some (.ref p6),kv,av]/\B5 H Hc/\Hc p4=some (.lst (os.map V.int)) /\
 Hc p5=some (.lst (rs.map V.int))/\rs.length=os.length/\Hc p6=some (.lst (ds.map V.int))/\ds.length=i/\(∀ x∈ds,0<=x/\x<1000)
theorem a6p:B8 ["_law_script","_law_many","_law_own","_law_rest","_law_deck_here","_law_k","_law_at"] ["_law_script","_law_many"] (A4 (top 51)):=by walk_at "s"
theorem b0R (F:Fun K "_law_deck" "_law_deck" (top 51) f fd)(B:Bt mg)(D1:Df K mg "_law_mixed" st1 f1 fd1 ["_law_cell","_law_k"])(G1:C0 P w K mg base CX0 1 f1 fd1 ["_law_cell","_law_k"] a3U):C0 P w K mg base CX0 2 f fd ["_law_script","_law_many"] (a6c K):=by
 refine F.ok a6p (λvs H Q E h=>?_) (λcdv A outer s H vs Q E hr h=>?_)
 ·walk_at "h"
 ·obtain⟨a,m,ns,rfl,hS,hl,hm0,hm1,q⟩:=h;have nd:=a6p.nd;have hu:=E8 hr
  refine⟨_,((C4 (i:=2) nd rfl (.inl rfl) (@M2 _ _ _ _ _ _ _ _ a1N (F0 (a9m K) (by rfl) B.list boot_list ((a4w (a4c K) (pv 0) a6u (a6t A7))<*>A0)) (@M2 _ _ _ _ _ _ _ _ b2H (@J6 _ _ _ _ (A7<*>A0)) (F0 a3h (by rfl) B.int jZ ((M4 X6 (B0 (U7 K) (by rfl) B.len bi ((pv 0)<*>A0)) A7 (E7 _))<*>A0)))))<*
    ((Q5 (i:=3) (own:=["_law_cell"]) (fr:=[]) rfl nd rfl rfl (by walk_at "w") (by walk_at "w") C6 (J9 K (pv 2)) ⟨λ_ _ _ _=>⟨(A9 (i:=0) (show bc (["_law_cell"]:List Str) by decide +kernel) rfl (.inl rfl)),J2,((@J6 _ _ _ _ (A7<*>((pv 0)<*>A0)))<|>(F0 a3h (by rfl) B.int jZ ((M4 b4B (pv 0) (@M2 _ _ _ _ _ _ _ _ b2I A7 A7) (E7 _))<*>A0)))⟩⟩)<*
    ((C4 (i:=4) nd rfl (.inl rfl) (@J6 _ _ _ _ A0))<*
    ((M8 aX rfl (N0 (by rfl) B.range ((pv 1)<*>A0)) (A9 (i:=5) nd rfl (.inl rfl))
     ((C4 (i:=6) nd rfl (.inl rfl) ((pv 5)&&&(B0 (U7 K) (by rfl) B.len bi ((pv 2)<*>A0))))<*
     (@A2 _ _ _ (@K4 _ _ _ _ _ _ _ _ (E6 a0Z ((pv 3)<|>(pv 6)) A7 (E7 _))
      ((N5 (N6 K (pv 4) ((((pv 3)<|>(pv 6))&&&A7)<*>A0)))<*
      (@A2 _ _ _ (@X4 _ _ _ _ _ _ (@M2 _ _ _ _ _ _ _ _ a3A ((pv 3)<|>(pv 6)) A7) (b2A (pv 3) (pv 6) a4d) (by rfl) (by rfl) (by rfl))))
      (@A2 _ _ _ (N5 (N6 K (pv 4) (((B4 G1 D1 hr.m (((pv 2)<|>(pv 6))<*>(((pv 5)|||A7)<*>A0)))&&&A7)<*>A0))))))))<*
     (@A2 _ _ _ (B9 (a5n hr.hd (by rfl) B.list (by rfl) B.reversed (pv 4)))))))),?_⟩
  walk_at "rd";refine⟨a,ns.map V.int,rfl,hS,λp1 n1=>⟨p1,rfl,_,.inl (SqL.of A1),λl nl=>⟨by decide,λp2 n2=>?_⟩⟩⟩;have s1:=(B5.refl H).upd (o:=.lst (a1e (ns.map V.int) none (some 60))) n1;have s2:=s1.upd (o:=.lst (a1e (ns.map V.int) none (some 60))) (s1.free nl);have s3:=s2.upd (o:=.lst [V.int 0]) (s2.free n2);refine⟨ns.map V.int,.inl (s3.seq hS),p2,_,_,rfl,rfl,A1,?_,?_,?_,λp3 n3=>?_⟩
  ·split<;>decide
  ·split<;>decide
  ·rw[sizeLine_eq];split<;>decide
  have s4:=s3.upd (o:=.lst (List.replicate (if decide ((ns.map V.int).length=(0:Int))=true then (1:Int) else 0).toNat [V.int 0]).flatten) (s3.free n3);have hlp:l≠p2:=λe=>by subst e;rw[A1] at n2;cases n2
  have hl3:l≠p3:=λe=>by subst e;rw[B3 hlp,A1] at n3;cases n3
  obtain⟨os,eo,ho1,ho2⟩:∃ os:List Int,a1e (ns.map V.int) none (some 60)++(List.replicate (if decide ((ns.map V.int).length=(0:Int))=true then (1:Int) else 0).toNat [V.int 0]).flatten=os.map V.int/\1<=os.length/\os.length<=64:=by
   by_cases e:ns=[]
   ·subst e;exact⟨[0],rfl,by decide,by decide⟩
   ·have hne:¬ ((ns.map V.int).length:Int)=0:=by rw[aa];have:=dB.mpr e;omega
    rw[decide_eq_false hne];refine⟨ns.take 60,?_,?_,?_⟩
    ·have h60:HT.sIx (ns.map V.int).length (ns.map V.int).length (some 60)=min 60 ns.length:=by rw[show (60:Int)=((60:Nat):Int) from rfl,HT.sIx_nat,aa]
     unfold a1e;rw[HT.sIx_none,List.drop_zero,h60,Nat.sub_zero];simp only[bE,if_false,Int.toNat_zero,List.replicate,List.flatten_nil,bO];rw[<- List.map_take];congr 1;by_cases h:60<=ns.length
     ·rw[Nat.min_eq_left h]
     ·rw[Nat.min_eq_right ∅,cY (ao _),cY ∅]
    ·have:=dB.mpr e;rw[bn];omega
    ·rw[bn];omega
  refine⟨l,p3,_,_,rfl,rfl,by rw[B3 hl3,B3 hlp,A1],A1,?_,λp4 n4=>?_⟩
  ·have:=congrArg fH eo;have e2:(os.map V.int).length=os.length:=aa _;rw[aI] at this;rw[sizeLine_eq];omega
  rw[eo];have s5:=s4.upd (o:=.lst (os.map V.int)) (s4.free n4);generalize hH5:upd (upd (upd (upd (upd H p1 (HO.lst (a1e (ns.map V.int) none (some 60)))) l (HO.lst (a1e (ns.map V.int) none (some 60)))) p2 (HO.lst [V.int 0])) p3 (HO.lst (List.replicate (if decide ((ns.map V.int).length=(0:Int))=true then (1:Int) else 0).toNat [V.int 0]).flatten)) p4 (HO.lst (os.map V.int))=H5 at s5 ⊢;have h4:H5 p4=some (.lst (os.map V.int)):=by rw[<- hH5];exact A1
  refine⟨p4,rfl,⟨_,SqL.of h4⟩,λp5 n5=>U4 (K:=K) (xs:=os.map V.int) (λi τ Hc=>∃(c:Option V) (rs:List Int),τ=[c]/\B5 H5 Hc/\Hc p5=some (.lst (rs.map V.int))/\rs.length=i)
   ⟨none,[],rfl,(B5.refl H5).upd n5,A1,rfl⟩ (λi τ Hc _ ⟨_,_,_,sc,_⟩=>SqL.of (sc _ _ h4)) ?_ ?_⟩
  ·rintro i x τ Hc hx ⟨c,rs,rfl,sc,h5,hi⟩ _;have hil:i<os.length:=by have:=(ai.mp hx).1;rw[aa] at this;exact this
   obtain⟨z,rfl⟩:∃ z,x=V.int z:=by
    rw[ah] at hx;cases e:os[i]? with
    | none=>rw[e] at hx;cases hx
    | some z=>rw[e] at hx;exact⟨z,(ak hx).symm⟩
   walk_at "rd";refine⟨by decide,λp n=>⟨⟨by decide,by decide,by decide⟩,?_⟩⟩;have h5':∀ o,(upd Hc p o) p5=some (.lst (rs.map V.int)):=λo=>by rw[B3 (C2 h5 n)];exact h5
   refine⟨[V.int 0,V.int z],SqL.of A1,?_⟩;generalize decide ((10:Int) ^ Int.toNat 18<=z)=b;obtain⟨y,hy⟩:∃ y:Int,atI [V.int 0,V.int z] (if b=true then 1 else 0)=some (V.int y):=by
    cases b
    ·exact⟨0,rfl⟩
    ·exact⟨z,rfl⟩
   refine⟨_,hy,_,h5' _,?_,(sc.upd (sc.free n)).upd n5,rs++[y],?_,?_⟩
   ·rw[aa];exact E2 ∅
   ·rw[A1,aE];rfl
   ·rw[aI,hi];rfl
  ·rintro τ H6 ⟨c,rs,rfl,s6,h5,hrs⟩;rw[aa] at hrs;refine⟨by decide,λp6 n6=>?_⟩;have s06:B5 H H6:=s5.trans s6;have h46:H6 p4=some (.lst (os.map V.int)):=s6 _ _ h4;have n45:p4≠p5:=C2 h4 n5;have n46:p4≠p6:=C2 h46 n6;have n56:p5≠p6:=C2 h5 n6
   refine⟨_,rfl,m,rfl,∅,∅,R8 (lo:=0) (n:=m.toNat) (a9B H a p4 p5 p6 m os)
    ⟨none,none,rs,[],rfl,s06.upd (s06.free n6),by rw[B3 n46];exact h46,by rw[B3 n56];exact h5,hrs,A1,rfl,λx hx=>(by cases hx)⟩ ?_ ?_⟩
   ·rintro i σ Hc hi ⟨kv,av,rs,ds,rfl,sc,c4,c5,hrl,c6,hdl,hdb⟩;have hoi:(0:Int)<(os.map V.int).length:=by rw[aa];omega
    have hat:∃ j:Nat,j<os.length/\(0+(i:Int)) % ((os.map V.int).length:Int)=(j:Int):=by
     have h1:=da (0+(i:Int)) (b:=((os.map V.int).length:Int)) ∅;have h2:=cu (0+(i:Int)) hoi;refine⟨((0+(i:Int)) % ((os.map V.int).length:Int)).toNat,?_,∅⟩;rw[aa] at h2 ⊢;omega
    obtain⟨j,hj,ej⟩:=hat;have atR:∀(l:List Int),l.length=os.length->∃ z,atI (l.map V.int) (j:Int)=some (V.int z):=λl e=>by
     have hjl:j<l.length:=∅
     exact⟨l[j],T0 (by rw[ah,aG hjl];rfl)⟩
    obtain⟨z,hz⟩:=atR rs hrl;obtain⟨z',hz'⟩:=atR os rfl;have n65:p6≠p5:=n56.symm;have hdb2:∀ y:Int,∀ x∈ds++[y % 1000],0<=x/\x<1000:=λy x hx=>by
     rcases aj.mp hx with hx | hx
     ·exact hdb x hx
     ·rw[aq.mp hx];omega
    have n64:p6≠p4:=n46.symm;have hdl2:(ds.map V.int).length<sizeLine:=by rw[aa];exact E2 ∅
    have c5':∀ o,(upd Hc p6 o) p5=some (.lst (rs.map V.int)):=λo=>by rw[B3 n56];exact c5
    have hm6:H p6=none:=s06.free n6;have hm5:H p5=none:=(s5.free n5)
    walk_at "rd";refine⟨_,.inl (SqL.of c4),hoi,_,SqL.of c5,?_⟩;rw[ej];refine⟨_,hz,z,rfl,R7 (λ_=>?_) λ_=>?_⟩
    ·refine⟨.inl ⟨rfl,_,SqL.of c6⟩,_,SqL.of c5,_,hz,z,rfl,by decide,_,c6,hdl2,_,SqL.of (c5' _),_,hz,z,rfl,⟨by decide,by decide⟩,?_⟩;have hix:ixN (rs.map V.int).length (j:Int)=some j:=by
      unfold ixN;rw[aa,if_pos ∅,if_pos ∅];simp
     refine⟨_,c5' _,j,hix,?_⟩;refine⟨_,_,rs.set j (z / 1000),ds++[z % 1000],rfl,(sc.upd hm6).upd hm5,by rw[B3 n45,B3 n46];exact c4,by rw[A1,List.map_set],by rw[eu];exact hrl,?_,by rw[aI,hdl];rfl,hdb2 z⟩;rw[B3 n65,A1,aE];rfl
    ·refine⟨.inl ⟨rfl,_,SqL.of c6⟩,_,SqL.of c4,_,hz',z',_,rfl,∅,∅,λy=>?_⟩;walk_at "rd";refine⟨by decide,_,c6,hdl2,?_⟩;refine⟨_,_,rs,ds++[y % 1000],rfl,sc.upd hm6,by rw[B3 n46];exact c4,by rw[B3 n56];exact c5,hrl,by rw[A1,aE];rfl,by rw[aI,hdl];rfl,hdb2 y⟩
   ·rintro σ Hc ⟨kv,av,rs,ds,rfl,sc,c4,c5,hrl,c6,hdl,hdb⟩;walk_at "rd";refine⟨_,c6,λp7 n7=>?_⟩;rw[<- List.map_reverse];exact q p7 ds.reverse _ ⟨by rw[gn];omega,λx hx=>hdb x (List.mem_reverse.mp hx)⟩ (sc.upd (sc.free n7)) (sc.free n7) A1
def a7x (H:Hp)(d p:Addr)(i:Nat)(τ:St)(Hc:Hp):Prop:=∃(c:Option V) (ps:List (Addr×List Int)),τ=[c,some (.ref d)]/\Kp d H Hc/\P4 Hc d/\Hc p=some (.lst (ps.map λx=>V.ref x.1)) /\
 (∀ x∈ps,Hc x.1=some (.tup (x.2.map V.int))/\∃ z k,x.2=[z,k])/\ps.length=i/\ps.map (λx=>x.2.getD 1 0)=B7 0 i
def a7w (H:Hp)(p:Addr)(ps:List (Addr×List Int))(i:Nat)(τ:St)(Hc:Hp):Prop:=∃(c k:Option V),τ=[c,k]/\B5 H Hc/\Hc p=some (.lst (((ps.map λx=>x.2.getD 1 0).take i).map V.int))
theorem a6g:B8 ["_law_deck_here","_law_many"] ["_law_deck_here","_law_many"] (A4 (top 53)):=by walk_at "s"
theorem b0I (F:Fun K "_law_turn" "_law_turn" (top 53) f fd)(B:Bt mg)(D1:Df K mg "_law_next" st1 f1 fd1 ["_law_deck_here"])(G1:C0 P w K mg base CX0 1 f1 fd1 ["_law_deck_here"] Z0):C0 P w K mg base CX0 2 f fd ["_law_deck_here","_law_many"] a3s:=by
 refine F.ok a6g (λvs H Q E h=>?_) (λcdv A outer s H vs Q E hr h=>?_)
 ·walk_at "h"
 ·obtain⟨d,n,rfl,hd,hn0,hn1,q⟩:=h;have nd:=a6g.nd;have hu:=E8 hr;refine⟨_,(@A2 _ _ _ (B9 (F0 (S6 K) (by rfl) B.tuple cO ((G0 (own:=["_law_cell","_law_at"]) (fr:=[]) rfl (by walk_at "w") C6 (J9 K (B0 (a1y K) (by rfl) B.sorted dS ((G0 (own:=["_law_at"]) (fr:=[("_law_deck_here",0)]) rfl (by walk_at "w") (E3 rfl rfl C6) (N0 (by rfl) B.range ((pv 1)<*>A0)) ⟨λ_ _ _ _=>⟨(A9 (i:=0) (show bc (["_law_at","_law_deck_here"]:List Str) by decide +kernel) rfl (.inl rfl)),J2,(@K3 _ _ _ _ _ ((B4 G1 D1 hr.m ((pv 1)<*>A0))<*>((pv 0)<*>A0)))⟩⟩)<*>A0))) ⟨λ_ _ _ _=>⟨(N2 K (n:=2) rfl (E1 (A9 (i:=0) (show bc (["_law_cell","_law_at"]:List Str) by decide +kernel) rfl (.inl rfl)) (E1 (A9 (i:=1) (show bc (["_law_cell","_law_at"]:List Str) by decide +kernel) rfl (.inl rfl)) N1))),J2,(pv 1)⟩⟩)<*>A0)))),?_⟩;walk_at "rd";refine⟨∅,∅,λp n=>Y3 (a7x H d p) ⟨none,[],rfl,(Kp.refl d H).new n,hd.new (hd.ne n),A1,(λx hx=>by cases hx),rfl,rfl⟩ ?_ ?_⟩
  ·rintro i τ Hc hi ⟨c,ps,rfl,k,dk,hp,hall,hl,hm⟩;walk_at "rd";refine O0 dk λz H1 k1 dk1 e1=>⟨by decide,λq1 nq=>?_⟩
   have hp1:H1 p=some (.lst (ps.map λx=>V.ref x.1)):=by rw[e1 p (hd.ne n)];exact hp
   have k2:=k.trans k1;have nH:H q1=none:=k2.free dk1 nq;refine⟨_,P3 hp1 nq,by rw[aa,hl];exact E2 ∅,?_⟩;refine⟨_,ps++[(q1,[z,0+(i:Int)])],rfl,(k2.new nH).new n,(dk1.new (dk1.ne nq)).new (hd.ne n),by rw[A1,aE];rfl,?_,by rw[aI,hl];rfl,by rw[aE,hm,a1L];rfl⟩;intro x hx;rcases aj.mp hx with hx | hx
   ·obtain⟨h1,h2⟩:=hall x hx;have h3:=k1.tp dk _ _ h1;exact⟨by rw[B3 (b1S h3 hp1)];exact P3 h3 nq,h2⟩
   ·cases aq.mp hx;exact⟨by rw[B3 (C2 hp1 nq).symm,A1];rfl,z,_,rfl⟩
  ·rintro τ H1 ⟨c,ps,rfl,k,dk,hp,hall,hl,hm⟩;refine⟨ps,⟨.inl (SqL.of hp),λx hx=>⟨(hall x hx).1,by obtain⟨_,z,k,e⟩:=hall x hx;rw[e];simp⟩,∅⟩,λps' l pm _ nl=>⟨⟨_,SqL.of A1⟩,λp2 n2=>?_⟩⟩;have nl':H l=none:=k.free dk nl;have s1:B5 H1 (upd H1 l (.lst (ps'.map λx=>V.ref x.1))):=(B5.refl H1).upd nl;have n2':H1 p2=none:=s1.free n2;generalize hH2:upd H1 l (.lst (ps'.map λx=>V.ref x.1))=H2 at s1 n2 ⊢;have hl2:H2 l=some (.lst (ps'.map λx=>V.ref x.1)):=by rw[<- hH2];exact A1
   refine U4 (K:=K) (xs:=ps'.map λx=>V.ref x.1) (a7w H2 p2 ps') ?_ ?_ ?_ ?_
   ·exact⟨none,none,rfl,(B5.refl H2).upd n2,A1⟩
   ·rintro i τ Hc _ ⟨_,_,rfl,sc,_⟩;exact SqL.of (sc _ _ hl2)
   ·rintro i v τ Hc hx ⟨c,k',rfl,sc,h2⟩ _;rw[ah] at hx;cases hy:ps'[i]? with
    | none=>rw[hy] at hx;cases hx
    | some y =>
    rw[hy] at hx;cases ak hx;have hym:=aF hy;obtain⟨h3,z,m,e⟩:=hall y (pm.mem_iff.mp hym);have h4:=sc _ _ (s1 _ _ h3);rw[e] at h4;walk_at "rd";have hil:i<ps'.length:=(ai.mp hy).1;refine⟨_,SqT.of h4,rfl,_,_,rfl,_,_,rfl,rfl,_,h2,?_,?_⟩
    ·rw[aa,bn];refine E2 (aV (il _ _) ?_);have:=pm.length_eq;omega
    ·refine⟨_,_,rfl,sc.upd n2,?_⟩;rw[A1,bI,ah,hy,aE];show _=some (HO.lst (_++[V.int (y.2.getD 1 0)]));rw[e];rfl
   ·rintro τ Hc ⟨c,k',rfl,sc,h2⟩;refine⟨_,.inl ⟨SqL.of h2,λl3 n3=>?_⟩⟩;rw[aa,cY (by rw[aa];exact ao _)];have s3:B5 H1 Hc:=s1.trans sc;have nH3:H l3=none:=k.free dk (s3.free n3);refine q l3 _ _ ((k.trans s3.kp).new nH3) ((dk.same s3).new (hd.ne nH3)) nH3 A1 ?_;rw[<- hm];exact pm.map _
theorem b0b {k c form:Int}(hk:1<=k)(hf0:0<=form)(hf1:form<8):∃ x:Int,atI [V.int (k-1),V.int 0,V.int (c % k),V.int (if k-1-c % 3>0 then k-1-c % 3 else 0),V.int (k-1),V.int (if k-2>0 then k-2 else 0),V.int ((k-1) / 2),V.int (c % k)] form=some (V.int x)/\0<=x/\x<k:=by
 have h1:=da c (b:=k) ∅;have h2:=cu c (b:=k) ∅;have hf:form=0\/form=1\/form=2\/form=3\/form=4\/form=5\/form=6\/form=7:=∅
 rcases hf with rfl | rfl | rfl | rfl | rfl | rfl | rfl | rfl
 ·exact⟨_,rfl,∅,∅⟩
 ·exact⟨_,rfl,∅,∅⟩
 ·exact⟨_,rfl,∅,∅⟩
 ·refine⟨_,rfl,?_,?_⟩<;>split<;>omega
 ·exact⟨_,rfl,∅,∅⟩
 ·refine⟨_,rfl,?_,?_⟩<;>split<;>omega
 ·exact⟨_,rfl,∅,∅⟩
 ·exact⟨_,rfl,∅,∅⟩
def Fd (n:Int)(fs:⋯)(i:Int):Prop:=fs.Nodup/\(∀ t∈fs,0<=t.1/\t.1<t.2/\t.2<n)/\∀ k:Int,1<=k->k<=i->∃ a,0<=a/\a<k/\(a,k)∈fs
theorem Fd.add {n i:Int}{fs:⋯}{t:Int×Int}(h:Fd n fs i)(ht:0<=t.1/\t.1<t.2/\t.2<n):Fd n (a2r fs t) i:=by
 refine⟨b0T h.1,λu hu=>?_,λk k0 k1=>?_⟩
 ·rcases a1R.mp hu with hu | rfl
  ·exact h.2.1 u hu
  ·exact ht
 ·obtain⟨a,a0,a1,hm⟩:=h.2.2 k k0 k1;exact⟨a,a0,a1,a1R.mpr (.inl hm)⟩
theorem Fd.next {n i:Int}{fs:⋯}{a:Int}(h:Fd n fs i)(a0:0<=a)(a1:a<i+1)(hn:i+1<n):Fd n (a2r fs (a,i+1)) (i+1):=by
 have h':=h.add (t:=(a,i+1)) ⟨a0,a1,hn⟩;refine⟨h'.1,h'.2.1,λk k0 k1=>?_⟩;by_cases e:k=i+1
 ·subst e;exact⟨a,a0,a1,a1R.mpr (.inr rfl)⟩
 ·exact h'.2.2 k k0 ∅
def a9u (H:Hp)(d p:Addr)(lo hi n form:Int)(i:Nat)(σ:St)(Hc:Hp):Prop:=∃(kv cv av:Option V) (fs:⋯),σ=[some (.ref d),some (.int lo),some (.int hi),some (.int n),some (.int form),some (.ref p),kv,cv,av,none,none,none,none,none,none] /\
 Kp d H Hc/\P4 Hc d/\Hc p=some (.dT (kvT fs))/\fs.length<=i/\Fd n fs i
def a4E (H:Hp)(d p:Addr)(lo hi n form more:Int)(i:Nat)(σ:St)(Hc:Hp):Prop:=∃(kv cv av tv ov uv:Option V) (fs:⋯),σ=[some (.ref d),some (.int lo),some (.int hi),some (.int n),some (.int form),some (.ref p),kv,cv,av,some (.int more),tv,ov,uv,none,none] /\
 Kp d H Hc/\P4 Hc d/\Hc p=some (.dT (kvT fs))/\(fs.length:Int)<=n+i/\Fd n fs (n-1)
def a9t (H:Hp)(p pn:Addr)(gs:⋯)(ks:List Int)(i:Nat)(τ:St)(Hc:Hp):Prop:=∃(ov uv:Option V) (ps:List (Addr×List Int)),τ=[ov,uv,some (.ref pn)]/\B5 H Hc/\Hc p=some (.lst (ps.map λx=>V.ref x.1))/\Q0 Hc ps ((gs.take i).map (ren ks))
theorem a6e:B8 ["_law_deck_here","_law_least","_law_most","_law_places","_law_form","_law_found","_law_k","_law_cell","_law_ahead","_law_more","_law_turn_here","_law_one","_law_other","_law_names","_law_ties"] ["_law_deck_here","_law_least","_law_most"] (A4 (top 54)):=by walk_at "s"
theorem b0G (F:Fun K "_law_web" "_law_web" (top 54) f fd)(B:Bt mg)(D1:Df K mg "_law_next" st1 f1 fd1 ["_law_deck_here"])(G1:C0 P w K mg base CX0 1 f1 fd1 ["_law_deck_here"] Z0)(D2:Df K mg "_law_turn" st2 f2 fd2 ["_law_deck_here","_law_many"])(G2:C0 P w K mg base CX0 2 f2 fd2 ["_law_deck_here","_law_many"] a3s):C0 P w K mg base CX0 3 f fd ["_law_deck_here","_law_least","_law_most"] a8p:=by
 refine F.ok a6e (λvs H Q E h=>?_) (λcdv A outer s H vs Q E hr h=>?_)
 ·walk_at "h"
 ·obtain⟨d,lo,hi,rfl,hd,h3,hlh,h60,q⟩:=h;have nd:=a6e.nd;have hu:=E8 hr
  refine⟨_,((C4 (i:=3) nd rfl (.inl rfl) ((pv 1)|||((B4 G1 D1 hr.m ((pv 0)<*>A0))&&&(((pv 2)^^^(pv 1))|||A7))))<*
    ((C4 (i:=4) nd rfl (.inl rfl) ((B4 G1 D1 hr.m ((pv 0)<*>A0))&&&A7))<*
    ((C4 (i:=5) nd rfl (.inl rfl) a8E)<*
    ((M8 aX rfl (a0K (by rfl) B.range (A7<*>((pv 3)<*>A0))) (A9 (i:=6) nd rfl (.inl rfl))
     ((C4 (i:=7) nd rfl (.inl rfl) (B4 G1 D1 hr.m ((pv 0)<*>A0)))<*
     ((C4 (i:=8) nd rfl (.inl rfl) ((@J6 _ _ _ _ (((pv 6)^^^A7)<*>(A7<*>(((pv 7)&&&(pv 6))<*>((B0 (V5 rfl) (by rfl) B.max iK (A7<*>((((pv 6)^^^A7)^^^((pv 7)&&&A7))<*>A0)))<*>(((pv 6)^^^A7)<*>((B0 (V5 rfl) (by rfl) B.max iK (A7<*>(((pv 6)^^^A7)<*>A0)))<*>((@M2 _ _ _ _ _ _ _ _ a3A ((pv 6)^^^A7) A7)<*>(((pv 7)&&&(pv 6))<*>A0)))))))))<|>(pv 4)))<*
     (@A2 _ _ _ (Z4 hu (pv 5) (@K3 _ _ _ _ _ ((pv 8)<*>((pv 6)<*>A0))) K9 rfl)))))<*
     ((@K4 _ _ _ _ _ _ _ _ (E6 X6 (pv 4) A7 (E7 _))
     (@A2 _ _ _ (Z4 hu (pv 5) (@K3 _ _ _ _ _ (A7<*>(((pv 3)^^^A7)<*>A0))) K9 rfl))
     E5)<*
     ((C4 (i:=9) nd rfl (.inl rfl) ((@J6 _ _ _ _ (A7<*>(A7<*>(A7<*>((pv 3)<*>((@M2 _ _ _ _ _ _ _ _ T7 A7 (pv 3))<*>(A7<*>A0)))))))<|>((B4 G1 D1 hr.m ((pv 0)<*>A0))&&&A7)))<*
    ((M8 aX rfl (N0 (by rfl) B.range ((pv 9)<*>A0)) (A9 (i:=10) nd rfl (.inl rfl))
     ((C4 (i:=11) nd rfl (.inl rfl) ((B4 G1 D1 hr.m ((pv 0)<*>A0))&&&(pv 3)))<*
     ((C4 (i:=12) nd rfl (.inl rfl) ((B4 G1 D1 hr.m ((pv 0)<*>A0))&&&(pv 3)))<*
     (@A2 _ _ _ (@K4 _ _ _ _ _ _ _ _ (PW.pt (a0J (E6 a8J (pv 11) (pv 12) (E7 _)) (Z2 (E6 a6z (B0 a5L (by rfl) B.len bi ((pv 5)<*>A0)) A7 (E7 _)))))
      (@A2 _ _ _ (Z4 hu (pv 5) (@K3 _ _ _ _ _ ((B0 (a3g rfl) (by rfl) B.min jY ((pv 11)<*>((pv 12)<*>A0)))<*>((B0 (V5 rfl) (by rfl) B.max iK ((pv 11)<*>((pv 12)<*>A0)))<*>A0))) K9 rfl))
      E5)))))<*
     ((C4 (i:=13) nd rfl (.inr rfl) (B4 G2 D2 hr.m ((pv 0)<*>((pv 3)<*>A0))))<*
    ((Q5 (i:=14) (own:=["_law_one","_law_other"]) (fr:=[("_law_names",13)]) rfl nd rfl rfl (by walk_at "w") (by walk_at "w") (E3 rfl rfl C6) (J9 K (B0 (a3F hr.hd) (by rfl) B.sorted dS ((pv 5)<*>A0))) ⟨λ_ _ _ _=>⟨(N2 K (n:=2) rfl (E1 (A9 (i:=0) (show bc (["_law_one","_law_other","_law_names"]:List Str) by decide +kernel) rfl (.inl rfl)) (E1 (A9 (i:=1) (show bc (["_law_one","_law_other","_law_names"]:List Str) by decide +kernel) rfl (.inl rfl)) N1))),J2,(@K3 _ _ _ _ _ ((B0 (a3g rfl) (by rfl) B.min jY (((pv 2)*>(pv 0))<*>(((pv 2)*>(pv 1))<*>A0)))<*>((B0 (V5 rfl) (by rfl) B.max iK (((pv 2)*>(pv 0))<*>(((pv 2)*>(pv 1))<*>A0)))<*>A0)))⟩⟩)<*
    (@A2 _ _ _ (B9 (@K3 _ _ _ _ _ ((pv 3)<*>((F0 (S6 K) (by rfl) B.tuple cO ((B0 (a1y K) (by rfl) B.sorted dS ((pv 14)<*>A0))<*>A0))<*>A0)))))))))))))),?_⟩
  walk_at "rd";refine O0 hd λz1 H1 k1 dk1 e1=>?_
  have r1:=da z1 (b:=hi-lo+1) ∅;have r2:=cu z1 (b:=hi-lo+1) ∅;refine⟨z1,rfl,∅,O0 dk1 λz2 H2 k2 dk2 e2=>⟨z2,rfl,by decide,λp np=>?_⟩⟩;obtain⟨n,hn⟩:∃ n:Int,n=lo+z1 % (hi-lo+1):=⟨_,rfl⟩
  obtain⟨form,hfo⟩:∃ m:Int,m=z2 % 8:=⟨_,rfl⟩
  rw[<- hn,<- hfo];have n3:3<=n:=∅
  have n20:n<=20:=∅
  have nlo:lo<=n:=∅
  have nhi:n<=hi:=∅
  have f0:0<=form:=∅
  have f8:form<8:=∅
  clear hn hfo r1 r2 h3 hlh h60;have k02:=k1.trans k2;have nHp:H p=none:=k02.free dk2 np;have pd:p≠d:=hd.ne nHp;refine⟨_,rfl,1,n,rfl,⟨by decide,by decide,∅,∅⟩,R8 (lo:=1) (n:=(n-1).toNat) (a9u H d p lo hi n form) ?_ ?_ ?_⟩
  ·exact⟨none,none,none,[],rfl,k02.new nHp,dk2.new pd,A1,ao _,by simp,by simp,λk k0 k1=>∅⟩
  ·rintro i σ Hc hin ⟨kv,cv,av,fs,rfl,kc,dc,hp,hfl,hF⟩;walk_at "rd";refine O0 dc λz3 H3 k3 dk3 e3=>?_
   obtain⟨x,hx,x0,x1⟩:=b0b (k:=1+(i:Int)) (c:=z3) (form:=form) ∅ ∅ ∅;have hp3:H3 p=some (.dT (kvT fs)):=by rw[e3 p pd];exact hp
   have kk:=kc.trans k3;refine⟨z3,rfl,∅,z3,rfl,by decide,0,_,⟨rfl,rfl⟩,0,_,⟨rfl,rfl⟩,⟨∅,∅⟩,z3,rfl,∅,by decide,λpl nl=>⟨_,SqL.of A1,_,hx,by decide,λpt nt=>?_⟩⟩;have nHl:H pl=none:=kk.free dk3 nl;have nHt:H pt=none:=kk.free dk3 (M0 nt);refine⟨_,V7.t (k:=[bp x,bp (1+(i:Int))]) (P3 (P3 hp3 nl) nt) A1 (by rw[a6H];exact E2 ∅),?_⟩;rw[a3w];refine⟨_,_,_,_,rfl,((kk.new nHl).new nHt).new nHp,((dk3.new (hd.ne nHl)).new (hd.ne nHt)).new pd,A1,?_,?_⟩
   ·have:=a1T (fs:=fs) (t:=(x,1+(i:Int)));omega
   ·have:=hF.next x0 ∅ ∅;rw[show (1:Int)+i=(i:Int)+1 by omega,show (((i+1:Nat)):Int)=(i:Int)+1 by omega];exact this
  ·rintro σ Hc ⟨kv,cv,av,fs,rfl,kc,dc,hp,hfl,hF⟩;rw[show ((n-1).toNat:Int)=n-1 by omega] at hF;dsimp only
   refine a8s (fun σ Hc=>∃(kv cv av:Option V) (fs:⋯),σ=[some (.ref d),some (.int lo),some (.int hi),some (.int n),some (.int form),some (.ref p),kv,cv,av,none,none,none,none,none,none] /\
     Kp d H Hc/\P4 Hc d/\Hc p=some (.dT (kvT fs))/\(fs.length:Int)<=n/\Fd n fs (n-1)) (λR hR=>?_) ?_
   ·walk_at "rd";refine R7 (λ_=>?_) λ_=>hR _ _ ⟨kv,cv,av,fs,rfl,kc,dc,hp,∅,hF⟩
    refine⟨by decide,λpt nt=>⟨_,V7.t (k:=[bp 0,bp (n-1)]) (P3 hp nt) A1 (a1a ∅),?_⟩⟩;have nHt:H pt=none:=kc.free dc nt;rw[a3w];refine hR _ _ ⟨_,_,_,_,rfl,(kc.new nHt).new nHp,(dc.new (hd.ne nHt)).new pd,A1,?_,hF.add ⟨jK 0,show (0:Int)<n-1 by omega,show n-1<n by omega⟩⟩;have:=a1T (fs:=fs) (t:=(0,n-1));omega
   ·rintro σ Hc ⟨kv,cv,av,fs,rfl,kc,dc,hp,hfl,hF⟩;walk_at "rd";refine⟨.inl ⟨∅,∅⟩,by decide,λpl nl=>?_⟩;have nHl:H pl=none:=kc.free dc nl;refine O0 (dc.new (hd.ne nHl)) λz3 H3 k3 dk3 e3=>⟨z3,rfl,by decide,?_⟩
    have hpl:H3 pl=some (.lst [V.int 0,V.int 1,V.int 3,V.int n,V.int (2*n),V.int 0]):=by rw[e3 pl (hd.ne nHl)];exact A1
    have hp3:H3 p=some (.dT (kvT fs)):=by rw[e3 p pd];exact P3 hp nl
    obtain⟨more,hmo,m0,m1⟩:∃ m:Int,atI [V.int 0,V.int 1,V.int 3,V.int n,V.int (2*n),V.int 0] (z3 % 6)=some (V.int m)/\0<=m/\m<=2*n:=by
     have hf:z3 % 6=0\/z3 % 6=1\/z3 % 6=2\/z3 % 6=3\/z3 % 6=4\/z3 % 6=5:=∅
     rcases hf with e | e | e | e | e | e<;>rw[e]
     ·exact⟨_,rfl,∅,∅⟩
     ·exact⟨_,rfl,∅,∅⟩
     ·exact⟨_,rfl,∅,∅⟩
     ·exact⟨_,rfl,∅,∅⟩
     ·exact⟨_,rfl,∅,∅⟩
     ·exact⟨_,rfl,∅,∅⟩
    refine⟨_,SqL.of hpl,_,hmo,?_⟩;refine⟨_,rfl,more,rfl,∅,∅,R8 (lo:=0) (n:=more.toNat) (a4E H d p lo hi n form more) ?_ ?_ ?_⟩
    ·exact⟨_,_,_,none,none,none,fs,rfl,(kc.new nHl).trans k3,dk3,hp3,∅,hF⟩
    ·rintro i σ Hc hin ⟨kv,cv,av,tv,ov,uv,fs,rfl,kc,dc,hp,hfl,hF⟩;walk_at "rd";refine O0 dc λz4 H4 k4 dk4 e4=>⟨z4,rfl,∅,O0 dk4 λz5 H5 k5 dk5 e5=>⟨z5,rfl,∅,?_⟩⟩
     have hp5:H5 p=some (.dT (kvT fs)):=by rw[e5 p pd,e4 p pd];exact hp
     have kk:=(kc.trans k4).trans k5;have s0:=da z4 (b:=n) ∅;have s1:=cu z4 (b:=n) ∅;have t0:=da z5 (b:=n) ∅;have t1:=cu z5 (b:=n) ∅;have same:a4E H d p lo hi n form more (i+1) [some (.ref d),some (.int lo),some (.int hi),some (.int n),some (.int form),some (.ref p),kv,cv,av,some (.int more),some (.int (0+(i:Int))),some (.int (z4 % n)),some (.int (z5 % n)),none,none] H5 :=
      ⟨_,_,_,_,_,_,fs,rfl,kk,dk5,hp5,∅,hF⟩
     refine R7 (λh1=>⟨_,hp5,R7 (λh2=>?_) λ_=>same⟩) λ_=>same
     have h1':z4 % n≠z5 % n:= ~~~h1
     have h2':fs.length<200:=by rw[a6H] at h2;have:=of_decide_eq_true h2;omega
     refine⟨_,_,⟨rfl,rfl⟩,_,_,⟨rfl,rfl⟩,by decide,λpt nt=>?_⟩;have nHt:H pt=none:=kk.free dk5 nt;refine⟨_,V7.t (k:=[bp (if z5 % n<z4 % n then z5 % n else z4 % n),bp (if z5 % n>z4 % n then z5 % n else z4 % n)]) (P3 hp5 nt) A1 (a1a ∅),?_⟩;rw[a3w];refine⟨_,_,_,_,_,_,_,rfl,(kk.new nHt).new nHp,(dk5.new (hd.ne nHt)).new pd,A1,?_,hF.add ?_⟩
     ·have:=a1T (fs:=fs) (t:=(if z5 % n<z4 % n then z5 % n else z4 % n,if z5 % n>z4 % n then z5 % n else z4 % n));omega
     ·dsimp only;split<;>split<;>omega
    ·rintro σ Hc ⟨kv,cv,av,tv,ov,uv,fs,rfl,kc,dc,hp,hfl,hF⟩;walk_at "rd";refine a8b dc ∅ ∅ λpn ks H4 k4 dk4 nn hpn hperm=>?_
     have hp4:H4 p=some (.dT (kvT fs)):=k4 _ _ pd hp;refine⟨_,hp4,fs.map tl,a9p fs,(λl hl=>by obtain⟨t,_,rfl⟩:=bq.mp hl;simp[tl]),by rw[aa];omega,λps l pm hto _ nl=>?_⟩;obtain⟨gs,pgs,hgs⟩:=Q0.of_perm hto pm;have s1:B5 H4 (upd H4 l (.lst (ps.map λx=>V.ref x.1))):=(B5.refl H4).upd nl;refine⟨⟨_,SqL.of A1⟩,λp2 n2=>?_⟩;generalize hH2:upd H4 l (.lst (ps.map λx=>V.ref x.1))=H5 at s1 n2 ⊢;have hl5:H5 l=some (.lst (ps.map λx=>V.ref x.1)):=by rw[<- hH2];exact A1
     have hgs5:=hgs.tp s1.tp;have gr:∀ t∈gs,0<=t.1/\t.1<t.2/\t.2<n:=λt ht=>hF.2.1 t (pgs.mem_iff.mp ht)
     have gl:gs.length<=60:=by rw[pgs.length_eq];omega
     have kk:=kc.trans k4;refine U4 (K:=K) (xs:=ps.map λx=>V.ref x.1) (a9t H5 p2 pn gs ks) ?_ ?_ ?_ ?_
     ·exact⟨none,none,[],rfl,(B5.refl H5).upd n2,A1,(λx hx=>by cases hx),rfl⟩
     ·rintro i τ Hc _ ⟨_,_,_,rfl,sc,_⟩;exact SqL.of (sc _ _ hl5)
     ·rintro i v τ Hc hx ⟨ov,uv,ps2,rfl,sc,h2,hps2⟩ _;obtain⟨a,t,rfl,hti,hta⟩:=hgs5.get hx;have htm:=aF hti;obtain⟨g0,g1,g2⟩:=gr t htm;have hil:i<gs.length:=(ai.mp hti).1;have hpn5:Hc pn=some (.tup (ks.map V.int)):=sc _ _ (s1 _ _ hpn);have a1:atI (ks.map V.int) t.1=some (V.int (nm ks t.1)):=by
       rw[<- bx g0];refine T0 ?_;rw[ah,a4A hperm g0 ∅];rw[bx g0];rfl
      have a2:atI (ks.map V.int) t.2=some (V.int (nm ks t.2)):=by
       rw[<- bx (show 0<=t.2 by omega)];refine T0 ?_;rw[ah,a4A hperm ∅ g2];rw[bx (show 0<=t.2 by omega)];rfl
      walk_at "rd";refine⟨_,SqT.of (sc _ _ hta),rfl,_,_,rfl,_,_,rfl,rfl,_,_,rfl,SqT.of hpn5,_,a1,_,_,rfl,SqT.of hpn5,_,a2,_,_,⟨rfl,rfl⟩,_,_,rfl,SqT.of hpn5,_,a1,_,_,rfl,SqT.of hpn5,_,a2,_,_,⟨rfl,rfl⟩,by decide,λpq nq=>?_⟩;have hlen2:ps2.length<=200:=by have:=hps2.len;rw[aa,bn] at this;omega
      refine⟨_,P3 h2 nq,by rw[aa];exact E2 ∅,_,_,ps2++[(pq,tl (ren ks t))],rfl,(sc.upd (sc.free nq)).upd n2,by rw[A1,aE];rfl,?_⟩;rw[bI,hti,aE];refine Q0.snoc (hps2.tp ((Tp.nw nq).trans (Tp.lst (P3 h2 nq)))) ?_;rw[B3 (C2 h2 nq).symm,A1];rfl
     ·rintro τ Hc ⟨ov,uv,ps2,rfl,sc,h2,hps2⟩;rw[aa,hgs.len,aW] at hps2;refine⟨ps2,hps2.src h2 (by have:=hps2.len;rw[aa] at this;omega),λps3 l3 pm3 hs3 nl3=>⟨_,.inl ⟨SqL.of A1,λl4 nl4=>⟨by decide,λp5 n5=>?_⟩⟩⟩⟩;obtain⟨ts,pts,hts⟩:=hps2.perm pm3;have sc4:B5 H4 Hc:=s1.trans sc;have n4a:=sc4.free nl3;have n4b:=sc4.free (M0 nl4);have n4c:=sc4.free (M0 (M0 n5));have nHa:=kk.free dk4 n4a;have nHb:=kk.free dk4 n4b;have nHc:=kk.free dk4 n4c;refine q p5 n ts _ ((((kk.trans sc4.kp).new nHa).new nHb).new nHc) ((((dk4.same sc4).new (hd.ne nHa)).new (hd.ne nHb)).new (hd.ne nHc)) ∅ ∅ ?_ ?_
      ·exact b0f ∅ ∅ hF.1 hF.2.1 ∅ (λk k0 k1=>hF.2.2 k k0 ∅) hperm (pts.trans (pgs.map _)) (hts.srt hs3)
      ·refine⟨l4,A1,ps3,P3 A1 n5,hts.tp ?_⟩;exact (((Tp.refl Hc).new nl3).new (M0 nl4)).new (M0 (M0 n5))
def a9y (H:Hp)(w0 p:Addr)(n:Int)(ts:⋯)(i:Nat)(σ:St)(Hc:Hp):Prop:=∃(av bv:Option V) (as:List Addr),σ=[some (.ref w0),some (.ref p),av,bv]/\a4X H Hc p as (J8 n (ts.take i))
def a7z (H:Hp)(p:Addr)(n:Int)(ts:⋯)(i:Nat)(τ:St)(Hc:Hp):Prop:=∃(c:Option V) (as:List Addr),τ=[c]/\a4X H Hc p as ((J8 n ts).take i)
theorem a6m:B8 ["_law_web_here","_law_near_here","_law_one","_law_other"] ["_law_web_here"] (A4 (top 55)):=by walk_at "s"
theorem b0O (F:Fun K "_law_near" "_law_near" (top 55) f fd)(B:Bt mg):C0 P w K mg base CX0 1 f fd ["_law_web_here"] a6a:=by
 refine F.ok a6m (λvs H Q E h=>?_) (λcdv A outer s H vs Q E hr h=>?_)
 ·walk_at "h"
 ·obtain⟨w0,n,ts,rfl,hw,hn0,hn1,htl,hok,hsr,q⟩:=h;have nd:=a6m.nd;have hu:=E8 hr
  refine⟨_,((Q5 (i:=1) (own:=["_law_place"]) (fr:=[]) rfl nd rfl rfl (by walk_at "w") (by walk_at "w") C6 (N0 (by rfl) B.range (((pv 0)*>A7)<*>A0)) ⟨λ_ _ _ _=>⟨(A9 (i:=0) (show bc (["_law_place"]:List Str) by decide +kernel) rfl (.inl rfl)),J2,(@J6 _ _ _ _ A0)⟩⟩)<*
    ((M8 aX rfl (K6 K ((pv 0)*>A7)) (N2 K (n:=2) rfl (E1 (A9 (i:=2) nd rfl (.inl rfl)) (E1 (A9 (i:=3) nd rfl (.inl rfl)) N1)))
     ((N5 (N6 K ((pv 1)<|>(pv 2)) ((pv 3)<*>A0)))<*
     (@A2 _ _ _ (N5 (N6 K ((pv 1)<|>(pv 3)) ((pv 2)<*>A0))))))<*
     (@A2 _ _ _ (B9 (G0 (own:=["_law_row"]) (fr:=[]) rfl (by walk_at "w") C6 (J9 K (pv 1)) ⟨λ_ _ _ _=>⟨(A9 (i:=0) (show bc (["_law_row"]:List Str) by decide +kernel) rfl (.inl rfl)),J2,(B0 (W9 K hr.hd) (by rfl) B.sorted dS ((pv 0)<*>A0))⟩⟩))))),?_⟩
  walk_at "rd";obtain⟨q0,hw0,ht⟩:=hw;obtain⟨xs,hx0,hxl,hxs⟩:=ht.get;refine⟨_,SqT.of hw0,_,rfl,n,rfl,∅,∅,λp np=>Y3 (a2Z H p) ?_ ?_ ?_⟩
  ·exact⟨none,[],rfl,(B5.refl H).upd np,np,(λa ha=>by cases ha),E4.nil A1⟩
  ·rintro i τ Hc hi ⟨c,as,rfl,fr⟩;walk_at "rd";refine⟨by decide,λpq nq=>⟨_,P3 fr.rows.top nq,?_,?_⟩⟩
   ·rw[aa,fr.rows.len,eT];exact E2 ∅
   ·have:=fr.rows.snoc nq (r:=[]);refine⟨_,as++[pq],rfl,(fr.same.upd (fr.same.free nq)).upd np,np,λa ha=>?_,?_⟩
    ·rcases aj.mp ha with ha | ha
     ·exact fr.na a ha
     ·cases aq.mp ha;exact fr.same.free nq
    ·rw[aE] at this;rw[gh];exact this
  ·rintro τ H2 ⟨c,as,rfl,fr⟩;rw[<- a1K] at fr;refine⟨_,rfl,_,_,1,_,rfl,rfl,SqT.of (fr.same _ _ hw0),rfl,_,rfl,⟨_,SqT.of (fr.same _ _ hx0)⟩,W3 (xs:=xs) (a9y H w0 p n ts) ⟨none,none,as,rfl,by rw[eR];exact fr⟩ ?_ ?_ ?_⟩
   ·rintro i σ Hc _ ⟨_,_,_,rfl,fr⟩;exact SqT.of (fr.same _ _ hx0)
   ·rintro i v σ Hc hv ⟨av,bv,as,rfl,fr⟩;obtain⟨a,t,rfl,hti,hta⟩:=hxs i v hv;obtain⟨t0,t1,t2⟩:=hok t (aF hti);obtain⟨a1,a2,i1,c1,tp1,i2,c2,fr2⟩:=fr.step t0 t1 t2;have l1:∀ v,((nb (ts.take i) v).map V.int).length<sizeLine:=λv=>by
     rw[aa];have:=a0m (ts:=ts.take i) v;rw[bn] at this;exact E2 ∅
    walk_at "rd";refine⟨_,SqT.of (fr.same _ _ hta),rfl,_,_,rfl,_,_,rfl,rfl,_,_,rfl,SqL.of fr.rows.top,_,i1,.inl ⟨rfl,_,SqL.of c1⟩,_,rfl,_,c1,l1 _,_,_,rfl,SqL.of tp1,_,i2,.inl ⟨rfl,_,SqL.of c2⟩,_,rfl,_,c2,l1 _,_,_,as,rfl,?_⟩;rw[bI,hti];exact fr2
   ·rintro σ Hc ⟨av,bv,as,rfl,fr⟩;rw[hxl,aW] at fr;walk_at "rd";refine⟨⟨_,SqL.of fr.rows.top⟩,λp2 n2=>U4 (K:=K) (xs:=as.map V.ref) (a7z Hc p2 n ts) ?_ ?_ ?_ ?_⟩
    ·exact⟨none,[],rfl,(B5.refl Hc).upd n2,n2,(λa ha=>by cases ha),E4.nil A1⟩
    ·rintro i τ H4 _ ⟨_,_,rfl,fr4⟩;exact SqL.of (fr4.same _ _ fr.rows.top)
    ·rintro i v τ H4 hv ⟨c,bs,rfl,fr4⟩ _;have hil:i<n.toNat:=by
      have:=(ai.mp hv).1;rw[aa,fr.rows.len,J3] at this;exact this
     have hri:=M7 (n:=n) (ts:=ts) (v:=(i:Int)) ∅ ∅;rw[bD] at hri;rw[ah] at hv;cases ha:as[i]? with
     | none=>rw[ha] at hv;cases hv
     | some a =>
     rw[ha] at hv;cases ak hv;have hra:=fr4.same _ _ (fr.rows.row i a _ ha hri);walk_at "rd";refine⟨_,⟨fA (b4E hok hsr hn1 _),.inl (SqL.of hra)⟩,λns' l pm hs nl=>?_⟩;have e:ns'=nb ts (i:Int):=a4a pm hs (a6D hok hsr _);subst e;refine⟨_,P3 fr4.rows.top nl,?_,_,bs++[l],rfl,(fr4.same.upd (fr4.same.free nl)).upd n2,n2,λb hb=>?_,?_⟩
     ·rw[aa,fr4.rows.len,bn,J3];exact E2 ∅
     ·rcases aj.mp hb with hb | hb
      ·exact fr4.na b hb
      ·cases aq.mp hb;exact fr4.same.free nl
     ·have:=fr4.rows.snoc nl (r:=nb ts (i:Int));rw[aE] at this;rw[bI,hri];exact this
    ·rintro τ H4 ⟨c,bs,rfl,fr4⟩;rw[aa,fr.rows.len,aW] at fr4;exact q p2 bs H4 (fr.same.trans fr4.same) (fr.same.free n2) (λb hb=>fr.same.free (fr4.na b hb)) fr4.rows
def a7y (H:Hp)(w0 q0 p:Addr)(n:Int)(ts:⋯)(i:Nat)(σ:St)(Hc:Hp):Prop:=∃(av bv:Option V) (as:List Addr),σ=[some (.ref w0),some (.int n),some (.ref q0),some (.ref p),av,bv]/\a4X H Hc p as (J8 n (ts.take i))
theorem a4j:B8 ["web","places","ties","rows","a","b"] ["web"] (A4 (top 15)):=by walk_at "s"
theorem a8T (F:Fun K "neighbour_rows" "neighbour_rows" (top 15) f fd)(B:Bt mg):C0 P w K mg base CX0 1 f fd ["web"] W7:=by
 refine F.ok a4j (λvs H Q E h=>?_) (λcdv A outer s H vs Q E hr h=>?_)
 ·walk_at "h"
 ·obtain⟨w0,n,ts,rfl,hw,hn0,hn1,htl,hok,q⟩:=h;have nd:=a4j.nd;have hu:=E8 hr
  refine⟨_,((@X4 _ _ _ _ _ _ (pv 0) (N2 K (n:=2) rfl (E1 (A9 (i:=1) nd rfl (.inl rfl)) (E1 (A9 (i:=2) nd rfl (.inl rfl)) N1))) (by rfl) (by rfl) (by rfl))<*
    ((Q5 (i:=3) (own:=["place"]) (fr:=[]) rfl nd rfl rfl (by walk_at "w") (by walk_at "w") C6 (N0 (by rfl) B.range ((pv 1)<*>A0)) ⟨λ_ _ _ _=>⟨(A9 (i:=0) (show bc (["place"]:List Str) by decide +kernel) rfl (.inl rfl)),J2,(@J6 _ _ _ _ A0)⟩⟩)<*
    ((M8 aX rfl (K6 K (pv 2)) (N2 K (n:=2) rfl (E1 (A9 (i:=4) nd rfl (.inl rfl)) (E1 (A9 (i:=5) nd rfl (.inl rfl)) N1)))
     ((N5 (N6 K ((pv 3)<|>(pv 4)) ((pv 5)<*>A0)))<*
     (@A2 _ _ _ (N5 (N6 K ((pv 3)<|>(pv 5)) ((pv 4)<*>A0))))))<*
     (@A2 _ _ _ (B9 (pv 3)))))),?_⟩
  walk_at "rd";obtain⟨q0,hw0,ht⟩:=hw;obtain⟨xs,hx0,hxl,hxs⟩:=ht.get;refine⟨_,SqT.of hw0,rfl,_,_,rfl,_,_,rfl,rfl,n,rfl,∅,∅,λp np=>Y3 (a2Z H p) ?_ ?_ ?_⟩
  ·exact⟨none,[],rfl,(B5.refl H).upd np,np,(λa ha=>by cases ha),E4.nil A1⟩
  ·rintro i τ Hc hi ⟨c,as,rfl,fr⟩;walk_at "rd";refine⟨by decide,λpq nq=>⟨_,P3 fr.rows.top nq,?_,?_⟩⟩
   ·rw[aa,fr.rows.len,eT];exact E2 ∅
   ·have:=fr.rows.snoc nq (r:=[]);refine⟨_,as++[pq],rfl,(fr.same.upd (fr.same.free nq)).upd np,np,λa ha=>?_,?_⟩
    ·rcases aj.mp ha with ha | ha
     ·exact fr.na a ha
     ·cases aq.mp ha;exact fr.same.free nq
    ·rw[aE] at this;rw[gh];exact this
  ·rintro τ H2 ⟨c,as,rfl,fr⟩;rw[<- a1K] at fr;refine⟨_,rfl,_,rfl,⟨_,SqT.of (fr.same _ _ hx0)⟩,W3 (xs:=xs) (a7y H w0 q0 p n ts) ⟨none,none,as,rfl,by rw[eR];exact fr⟩ ?_ ?_ ?_⟩
   ·rintro i σ Hc _ ⟨_,_,_,rfl,fr⟩;exact SqT.of (fr.same _ _ hx0)
   ·rintro i v σ Hc hv ⟨av,bv,as,rfl,fr⟩;obtain⟨a,t,rfl,hti,hta⟩:=hxs i v hv;obtain⟨t0,t1,t2⟩:=hok t (aF hti);obtain⟨a1,a2,i1,c1,tp1,i2,c2,fr2⟩:=fr.step t0 t1 t2;have l1:∀ v,((nb (ts.take i) v).map V.int).length<sizeLine:=λv=>by
     rw[aa];have:=a0m (ts:=ts.take i) v;rw[bn] at this;exact E2 ∅
    walk_at "rd";refine⟨_,SqT.of (fr.same _ _ hta),rfl,_,_,rfl,_,_,rfl,rfl,_,_,rfl,SqL.of fr.rows.top,_,i1,.inl ⟨rfl,_,SqL.of c1⟩,_,rfl,_,c1,l1 _,_,_,rfl,SqL.of tp1,_,i2,.inl ⟨rfl,_,SqL.of c2⟩,_,rfl,_,c2,l1 _,_,_,as,rfl,?_⟩;rw[bI,hti];exact fr2
   ·rintro σ Hc ⟨av,bv,as,rfl,fr⟩;rw[hxl,aW] at fr;exact⟨_,rfl,q p as Hc fr.same fr.np fr.na fr.rows⟩
theorem a6j:B8 ["thing"] ["thing"] (A4 (top 1)):=by walk_at "s"
theorem b0L (F:Fun K "is_int" "is_int" (top 1) f fd)(B:Bt mg)(C:Bt2 mg):C0 P w K mg base CX0 1 f fd ["thing"] a5Z:=by
 refine F.ok a6j (λvs H Q E h=>?_) (λcdv A outer s H vs Q E hr h=>?_)
 ·walk_at "h"
 ·obtain⟨x,T,rfl,hx,q⟩:=h;have nd:=a6j.nd;have hu:=E8 hr;refine⟨_,(@A2 _ _ _ (B9 (W0 (B0 (a5C K) (by rfl) C.isinstance bH ((pv 0)<*>((a0Y (by rfl) B.int jZ)<*>A0))) (X5 (a8C (B0 (a5C K) (by rfl) C.isinstance bH ((pv 0)<*>((a0Y (by rfl) C.bool boot_bool)<*>A0)))))))),?_⟩;walk_at "rd";refine⟨_,_,⟨rfl,rfl⟩,_,hx.ty,_,a2U hx (.inl rfl),?_⟩;have e:=b2X hx;cases h1:b1d T "int" with
  | true =>
   rw[if_pos rfl];rw[h1,fJ] at e;refine⟨_,_,⟨rfl,rfl⟩,_,hx.ty,_,a2U hx (.inr (.inl rfl)),?_⟩;rw[e];exact q
  | false =>
   rw[if_neg (by decide)];rw[h1,fm] at e;rw[<- e] at q;exact q
theorem a4i:B8 ["thing","least","most"] ["thing","least","most"] (A4 (top 2)):=by walk_at "s"
theorem a8S (F:Fun K "is_between" "is_between" (top 2) f fd)(B:Bt mg)(D1:Df K mg "is_int" st1 f1 fd1 ["thing"])(G1:C0 P w K mg base CX0 1 f1 fd1 ["thing"] a5Z):C0 P w K mg base CX0 2 f fd ["thing","least","most"] a3T:=by
 refine F.ok a4i (λvs H Q E h=>?_) (λcdv A outer s H vs Q E hr h=>?_)
 ·walk_at "h"
 ·obtain⟨x,T,lo,hi,rfl,hx,q⟩:=h;have nd:=a4i.nd;have hu:=E8 hr;refine⟨_,(@A2 _ _ _ (B9 (W0 (B4 G1 D1 hr.m ((pv 0)<*>A0)) (W0 (M4 a6A (pv 1) (pv 0) (E7 _)) (X5 (M4 a6A (pv 0) (pv 2) (E7 _))))))),?_⟩;walk_at "rd";refine⟨x,T,rfl,hx,_,rfl,?_⟩;cases h1:isI x with
  | true =>
   rw[if_pos rfl];obtain⟨i,rfl⟩:=b1e h1;refine⟨i,rfl,?_⟩;unfold a7V at q;dsimp only at q;by_cases h2:lo<=i
   ·rw[if_pos (~~~h2)];rw[decide_eq_true h2,fJ] at q;exact⟨i,rfl,q⟩
   ·rw[if_neg (~~~h2)];rw[decide_eq_false h2,fm] at q;exact q
  | false =>
   rw[if_neg (by decide)];rw[b1u h1] at q;exact q
def a1w:Sp:=λvs H Q _=>∃(w:Addr) (n:Int) (y:V) (x:V) (T:String),vs=[.ref w,x]/\H w=some (.tup [.int n,y])/\Pl H x T/\Q (.bl (a7V x 0 (n-1))) H
theorem a1G:B8 ["web","thing"] ["web","thing"] (A4 (top 20)):=by walk_at "s"
theorem a5v (F:Fun K "is_place" "is_place" (top 20) f fd)(B:Bt mg)(D1:Df K mg "is_between" st1 f1 fd1 ["thing","least","most"])(G1:C0 P w K mg base CX0 2 f1 fd1 ["thing","least","most"] a3T):C0 P w K mg base CX0 3 f fd ["web","thing"] a1w:=by
 refine F.ok a1G (λvs H Q E h=>?_) (λcdv A outer s H vs Q E hr h=>?_)
 ·walk_at "h"
 ·obtain⟨w0,n,y,x,T,rfl,hw,hx,q⟩:=h;have nd:=a1G.nd;have hu:=E8 hr;refine⟨_,(@A2 _ _ _ (B9 (B4 G1 D1 hr.m ((pv 1)<*>(A7<*>((((pv 0)*>A7)^^^A7)<*>A0)))))),?_⟩;walk_at "rd";exact⟨_,SqT.of hw,_,rfl,n,rfl,x,T,0,n-1,rfl,hx,q⟩
def a5Y:Sp:=λvs H Q _=>∃(p:Addr) (us:List Int),vs=[.ref p]/\H p=some (.tup (us.map V.int))/\us.length<=100000/\∀ b:Bool,(b=true↔us.Pairwise (·<·))->Q (.bl b) H
def a9x (H:Hp)(p:Addr)(us:List Int)(i:Nat)(σ:St)(Hc:Hp):Prop:=∃ c:Option V,σ=[some (.ref p),c]/\Hc=H/\∀ j,j<i->us.getD j 0<us.getD (j+1) 0
theorem a1q:∀ {us:List Int},(∀ j,j+1<us.length->us.getD j 0<us.getD (j+1) 0)->us.Pairwise (·<·)
 | [],_=>.nil
 | [x],_=>fG _ _
 | x::y::r,h=>by
  have ih:=a1q (us:=y::r) λj hj=>by simpa using h (j+1) (~~~hj)
  have h0:x<y:=by simpa using h 0 (by simp)
  refine cq.mpr ⟨λz hz=>?_,ih⟩;rcases aL.mp hz with rfl | hz
  ·exact h0
  ·have:=(cq.mp ih).1 z hz;omega
theorem a6W {us:List Int}(h:us.Pairwise (·<·)){j:Nat}(hj:j+1<us.length):us.getD j 0<us.getD (j+1) 0:=by
 rw[bZ,bZ,aG hj,aG ∅];exact dm.mp h j (j+1) ∅ hj ∅
theorem b2a {us:List Int}{j:Int}(h0:0<=j)(h1:j<us.length):atI (us.map V.int) j=some (.int (us.getD j.toNat 0)):=by
 unfold atI ixN;rw[aa,if_pos h0,if_pos h1];show (us.map V.int)[j.toNat]?=_;rw[ah,bZ,aG ∅];rfl
theorem a6i:B8 ["items","at"] ["items"] (A4 (top 14)):=by walk_at "s"
theorem b0K (F:Fun K "is_rising" "is_rising" (top 14) f fd)(B:Bt mg):C0 P w K mg base CX0 1 f fd ["items"] a5Y:=by
 refine F.ok a6i (λvs H Q E h=>?_) (λcdv A outer s H vs Q E hr h=>?_)
 ·walk_at "h"
 ·obtain⟨p,us,rfl,hp,hl,q⟩:=h;have nd:=a6i.nd;have hu:=E8 hr
  refine⟨_,((M8 aX rfl (a0K (by rfl) B.range (A7<*>((B0 (U7 K) (by rfl) B.len bi ((pv 0)<*>A0))<*>A0))) (A9 (i:=1) nd rfl (.inl rfl))
     (@A2 _ _ _ (@K4 _ _ _ _ _ _ _ _ (S7 (E6 a6z ((pv 0)*>((pv 1)^^^A7)) ((pv 0)*>(pv 1)) (E7 _)))
      (@A2 _ _ _ (B9 K9))
      E5)))<*
     (@A2 _ _ _ (B9 K9))),?_⟩
  walk_at "rd";refine⟨_,rfl,p,_,rfl,.inr (SqT.of hp),1,_,rfl,⟨by decide,by decide,by rw[aa];omega,by rw[aa];omega⟩,R8 (lo:=1) (n:=(((us.map V.int).length:Int)-1).toNat) (a9x H p us) ⟨none,rfl,rfl,λj hj=>absurd hj (cr _)⟩ ?_ ?_⟩
  ·rintro i σ Hc hi ⟨c,rfl,rfl,hs⟩;rw[aa] at hi;walk_at "rd";refine⟨_,SqT.of hp,_,b2a ∅ ∅,_,SqT.of hp,_,b2a ∅ ∅,?_⟩;refine⟨_,rfl,_,rfl,?_⟩;have e1:(1+(i:Int)-1).toNat=i:=∅
   have e2:(1+(i:Int)).toNat=i+1:=∅
   rw[e1,e2];by_cases hlt:us.getD i 0<us.getD (i+1) 0
   ·rw[if_neg (by rw[decide_eq_true hlt];decide)];refine⟨_,rfl,rfl,λj hj=>?_⟩;rcases bN j i with h | h
    ·exact hs j h
    ·cases (show j=i by omega);exact hlt
   ·rw[if_pos (by rw[decide_eq_false hlt];decide)];exact q false ⟨λh=>(by cases h),λh=>absurd (a6W h ∅) hlt⟩
  ·rintro σ Hc ⟨c,rfl,rfl,hs⟩;rw[aa] at hs;exact q true ⟨λ_=>a1q λj hj=>hs j ∅,λ_=>rfl⟩
def a5W:Sp:=λvs H Q _=>∃(w:Addr) (n:Int) (y:V) (p:Addr) (us:List Int),vs=[.ref w,.ref p]/\H w=some (.tup [.int n,y])/\H p=some (.tup (us.map V.int))/\us.length<=100000/\∀ b:Bool,(b=true↔(∀ x∈us,0<=x/\x<n)/\us.Pairwise (·<·))->Q (.bl b) H
def a9v (H:Hp)(w p:Addr)(n:Int)(us:List Int)(i:Nat)(σ:St)(Hc:Hp):Prop:=∃ c:Option V,σ=[some (.ref w),some (.ref p),c]/\Hc=H/\∀ x∈us.take i,0<=x/\x<n
theorem a6f:B8 ["web","thing","item"] ["web","thing"] (A4 (top 21)):=by walk_at "s"
theorem b0H (F:Fun K "is_place_row" "is_place_row" (top 21) f fd)(B:Bt mg)(D1:Df K mg "is_place" st1 f1 fd1 ["web","thing"])(G1:C0 P w K mg base CX0 3 f1 fd1 ["web","thing"] a1w)(D2:Df K mg "is_rising" st2 f2 fd2 ["items"])(G2:C0 P w K mg base CX0 1 f2 fd2 ["items"] a5Y)(C:Bt2 mg):C0 P w K mg base CX0 4 f fd ["web","thing"] a5W:=by
 refine F.ok a6f (λvs H Q E h=>?_) (λcdv A outer s H vs Q E hr h=>?_)
 ·walk_at "h"
 ·obtain⟨w0,n,y,p,us,rfl,hw,hp,hl,q⟩:=h;have nd:=a6f.nd;have hu:=E8 hr
  refine⟨_,((@K4 _ _ _ _ _ _ _ _ (S7 (P6 (B0 (a5C K) (by rfl) C.isinstance bH ((pv 1)<*>((a0Y (by rfl) B.tuple cO)<*>A0)))))
     (@A2 _ _ _ (B9 K9))
     E5)<*
     ((M8 aX rfl (K6 K (pv 1)) (A9 (i:=2) nd rfl (.inl rfl))
     (@A2 _ _ _ (@K4 _ _ _ _ _ _ _ _ (S7 (P6 (B4 G1 D1 hr.m ((pv 0)<*>((pv 2)<*>A0)))))
      (@A2 _ _ _ (B9 K9))
      E5)))<*
     (@A2 _ _ _ (B9 (B4 G2 D2 hr.m ((pv 1)<*>A0)))))),?_⟩
  walk_at "rd";refine⟨_,_,⟨rfl,rfl⟩,_,.tup hp,true,rfl,?_⟩;rw[if_neg (by decide)];refine⟨_,rfl,p,rfl,⟨_,SqT.of hp⟩,W3 (K:=K) (xs:=us.map V.int) (a9v H w0 p n us) ⟨none,rfl,rfl,λx hx=>(by rw[eR] at hx;cases hx)⟩ ?_ ?_ ?_⟩
  ·rintro i σ Hc _ ⟨c,rfl,rfl,_⟩;exact SqT.of hp
  ·rintro i v σ Hc hv ⟨c,rfl,rfl,hs⟩;rw[ah] at hv;cases hu0:us[i]? with
   | none=>rw[hu0] at hv;cases hv
   | some u =>
   rw[hu0] at hv;cases ak hv;walk_at "rd";refine⟨w0,n,y,.int u,_,rfl,hw,.int u,_,rfl,?_⟩;by_cases hb:0<=u/\u<n
   ·rw[if_neg (by unfold a7V;simp;omega)];refine⟨_,rfl,rfl,λx hx=>?_⟩;rw[M3 hu0] at hx;rcases aj.mp hx with hx | hx
    ·exact hs x hx
    ·rw[aq.mp hx];exact hb
   ·rw[if_pos (by unfold a7V;simp;omega)];exact q false ⟨λh=>(by cases h),λh=>absurd (h.1 u (aF hu0)) hb⟩
  ·rintro σ Hc ⟨c,rfl,rfl,hs⟩;rw[aa,aW] at hs;exact⟨_,rfl,p,us,rfl,hp,hl,λb hb=>q b ⟨λh=>⟨hs,hb.mp h⟩,λh=>hb.mpr h.2⟩⟩
def a0i:Sp:=λvs H Q _=>∃(w:Addr) (n:Int) (ts:⋯) (pl:Addr) (us:List Int),vs=[.ref w,.ref pl]/\N7 H w n ts/\N8 n ts/\H pl=some (.tup (us.map V.int))/\us.length<=60/\(∀ x∈us,0<=x/\x<n) /\
 ∀(p:Addr) (zs:List Int) (H':Hp),B5 H H'->H p=none->H' p=some (.tup (zs.map V.int))->zs.Pairwise (·<·)->(∀ x,x∈zs↔x∉us/\∃ y∈us,x∈nb ts y)->Q (.ref p) H'
def b3c (Hb:Hp)(am:Addr)(us:List Int)(i:Nat)(τ:St)(Hc:Hp):Prop:=∃(c:Option V) (fs:List Int),τ=[c]/\B5 Hb Hc/\Hc am=some (.dK (kvI fs))/\fs.length<=i/\∀ x,x∈fs↔x∈us.take i
def b4m (Hb:Hp)(n:Int)(fo:Addr)(C:Int->Prop)(Hc:Hp):Prop:=∃ fs:List Int,B5 Hb Hc/\Hc fo=some (.dK (kvI fs))/\fs.Nodup/\(∀ x∈fs,0<=x/\x<n)/\∀ x,x∈fs↔C x
def b3b (Hb:Hp)(w0 pl rp am fo:Addr)(n:Int)(ts:⋯)(us:List Int)(i:Nat)(σ:St)(Hc:Hp):Prop:=∃(pv ov:Option V),σ=[some (.ref w0),some (.ref pl),some (.ref rp),pv,some (.ref am),some (.ref fo),ov] /\
 b4m Hb n fo (λx=>x∉us/\∃ y∈us.take i,x∈nb ts y) Hc
def b3a (Hb:Hp)(w0 pl rp am fo:Addr)(n:Int)(ts:⋯)(us:List Int)(i:Nat)(u:Int)(j:Nat)(σ:St)(Hc:Hp):Prop:=∃(ov:Option V),σ=[some (.ref w0),some (.ref pl),some (.ref rp),some (.int u),some (.ref am),some (.ref fo),ov] /\
 b4m Hb n fo (λx=>x∉us/\((∃ y∈us.take i,x∈nb ts y)\/x∈(nb ts u).take j)) Hc
theorem a1A:B8 ["web","places","rows","place","among","found","other"] ["web","places"] (A4 (top 16)):=by walk_at "s"
theorem a5p (F:Fun K "touched" "touched" (top 16) f fd)(B:Bt mg)(D1:Df K mg "neighbour_rows" st1 f1 fd1 ["web"])(G1:C0 P w K mg base CX0 1 f1 fd1 ["web"] W7):C0 P w K mg base CX0 2 f fd ["web","places"] a0i:=by
 refine F.ok a1A (λvs H Q E h=>?_) (λcdv A outer s H vs Q E hr h=>?_)
 ·walk_at "h"
 ·obtain⟨w0,n,ts,pl,us,rfl,hw,hok,hpl,hul,hus,q⟩:=h;have nd:=a1A.nd;have hu:=E8 hr
  refine⟨_,((C4 (i:=2) nd rfl (.inl rfl) (B4 G1 D1 hr.m ((pv 0)<*>A0)))<*
    ((a4u (i:=4) (own:=["place"]) (fr:=[]) false hu rfl nd rfl rfl (by walk_at "w") (by walk_at "w") C6 (K6 K (pv 1)) ⟨λ_ _ _ _=>⟨(A9 (i:=0) (show bc (["place"]:List Str) by decide +kernel) rfl (.inl rfl)),J2,(pv 0),K9⟩⟩)<*
    ((C4 (i:=5) nd rfl (.inl rfl) a8F)<*
    ((M8 aX rfl (K6 K (pv 1)) (A9 (i:=3) nd rfl (.inl rfl))
     (@A2 _ _ _ (M8 aX rfl (J9 K ((pv 2)<|>(pv 3))) (A9 (i:=6) nd rfl (.inl rfl))
      (@A2 _ _ _ (@K4 _ _ _ _ _ _ _ _ (V9 (Z5 hu (pv 6) (pv 4)))
       (@A2 _ _ _ (Z4 hu (pv 5) (pv 6) K9 rfl))
       E5)))))<*
     (@A2 _ _ _ (B9 (F0 (S6 K) (by rfl) B.tuple cO ((B0 (W9 K hr.hd) (by rfl) B.sorted dS ((pv 5)<*>A0))<*>A0)))))))),?_⟩
  walk_at "rd";have h3:=hok.n3;have h60:=hok.n60;have hl:=hok.len;refine⟨w0,n,ts,rfl,hw,∅,∅,∅,hok.rng,λrp as H1 s1 np na hR=>?_⟩;refine⟨⟨_,SqT.of (s1 _ _ hpl)⟩,λam nam=>a5K (K:=K) (xs:=us.map V.int) (b3c H1 am us) ⟨none,[],rfl,(B5.refl H1).upd nam,A1,ao _,by simp⟩ ?_ ?_ ?_⟩
  ·rintro i τ Hc _ ⟨_,_,rfl,sc,_⟩;exact SqT.of (sc _ _ (s1 _ _ hpl))
  ·rintro i v τ Hc hv ⟨c,fs,rfl,sc,ha,hfl,hm⟩;rw[ah] at hv;cases hu0:us[i]? with
   | none=>rw[hu0] at hv;cases hv
   | some u =>
   rw[hu0] at hv;cases ak hv;have hil:=(ai.mp hu0).1;walk_at "rd";refine⟨_,V7.k (k:=bp u) ha (T2 ∅),?_⟩;rw[Z3];refine⟨_,_,rfl,sc.upd nam,A1,?_,λx=>?_⟩
   ·have:=a1U (us:=fs) (x:=u);omega
   ·rw[Y0,hm,bI,hu0];simp
  ·rintro τ H2 ⟨c,fs,rfl,sc,ha,hfl,hm⟩;rw[aa,aW] at hm;refine λfo nfo=>?_
   have s2:B5 H1 H2:=sc;have R2:=hR.same s2;have ham:∀ {Hc:Hp},B5 H2 Hc->Hc am=some (.dK (kvI fs)):=λs=>s _ _ ha
   refine⟨_,rfl,_,rfl,⟨_,SqT.of (P3 (s2 _ _ (s1 _ _ hpl)) nfo)⟩,W3 (K:=K) (xs:=us.map V.int) (b3b H2 w0 pl rp am fo n ts us) ⟨none,none,rfl,[],(B5.refl H2).upd nfo,A1,by simp,by simp,by simp⟩ ?_ ?_ ?_⟩
   ·rintro i σ Hc _ ⟨_,_,rfl,_,sc,_⟩;exact SqT.of (sc _ _ (s2 _ _ (s1 _ _ hpl)))
   ·rintro i v σ Hc hv ⟨pv,ov,rfl,gs,sc,hfo,gnd,grn,gm⟩;rw[ah] at hv;cases hu0:us[i]? with
    | none=>rw[hu0] at hv;cases hv
    | some u =>
    rw[hu0] at hv;cases ak hv;obtain⟨u0,u1⟩:=hus u (aF hu0);obtain⟨a,e1,e2,e3,e4⟩:=(R2.same sc).get u0 (M7 u0 u1);have hrow:∀ {Hd:Hp},B5 H2 Hd->Hd a=some (.lst ((nb ts u).map V.int)):=λs=>s _ _ (R2.row _ _ _ e1 (M7 u0 u1))
    walk_at "rd";refine⟨_,rfl,_,rfl,_,_,_,_,rfl,rfl,SqL.of (sc _ _ R2.top),e2,_,rfl,⟨_,SqL.of (hrow sc)⟩,V2 (K:=K) (xs:=(nb ts u).map V.int) (b3a H2 w0 pl rp am fo n ts us i u) ⟨_,rfl,gs,sc,hfo,gnd,grn,λx=>?_⟩ ?_ ?_ ?_⟩
    ·rw[gm];simp
    ·rintro j σ Hd _ ⟨_,rfl,_,sd,_⟩;exact SqL.of (hrow sd)
    ·rintro j v σ Hd hv ⟨ov,rfl,gs,sd,hfo,gnd,grn,gm⟩;rw[ah] at hv;cases hx0:(nb ts u)[j]? with
     | none=>rw[hx0] at hv;cases hv
     | some x =>
     rw[hx0] at hv;cases ak hv;have hxm:=aF hx0;obtain⟨x0,x1,_⟩:=T8 hok.rng hxm;walk_at "rd";refine⟨_,a0f.k (k:=bp x) (ham sd),?_⟩;rw[V8];refine R7 (λh=>?_) λh=>?_
     ·have hxu:x∉us:=by rw[<- hm];simpa using h
      have gl:=G8 gnd grn;refine⟨_,V7.k (k:=bp x) hfo (T2 ∅),?_⟩;rw[Z3];refine⟨_,rfl,_,sd.upd nfo,A1,a3B gnd,λy hy=>?_,λy=>?_⟩
      ·rcases Y0.mp hy with hy | rfl
       ·exact grn y hy
       ·exact⟨x0,x1⟩
      ·rw[Y0,gm,bI,hx0];simp only[dF,aj,aq];constructor
       ·rintro (⟨a,b⟩ | rfl)
        ·exact⟨a,b.elim .inl λc=>.inr (.inl c)⟩
        ·exact⟨hxu,.inr (.inr rfl)⟩
       ·rintro⟨a,b | b | b⟩
        ·exact .inl ⟨a,.inl b⟩
        ·exact .inl ⟨a,.inr b⟩
        ·exact .inr b
     ·have hxu:x∈us:=by rw[<- hm];simpa using h
      refine⟨_,rfl,gs,sd,hfo,gnd,grn,λy=>?_⟩;rw[gm,bI,hx0];simp only[dF,aj,aq];constructor
      ·rintro⟨a,b⟩;exact⟨a,b.elim .inl λc=>.inr (.inl c)⟩
      ·rintro⟨a,b | b | b⟩
       ·exact⟨a,.inl b⟩
       ·exact⟨a,.inr b⟩
       ·subst b;exact absurd hxu a
    ·rintro σ Hd ⟨ov,rfl,gs,sd,hfo,gnd,grn,gm⟩;rw[aa,aW] at gm;refine⟨_,_,rfl,gs,sd,hfo,gnd,grn,λy=>?_⟩;rw[gm,bI,hu0];simp only[dF,aj,aq];constructor
     ·rintro⟨a,⟨z,b,c⟩ | b⟩
      ·exact⟨a,z,.inl b,c⟩
      ·exact⟨a,u,.inr rfl,b⟩
     ·rintro⟨a,z,b | rfl,c⟩
      ·exact⟨a,.inl ⟨z,b,c⟩⟩
      ·exact⟨a,.inr c⟩
   ·rintro σ Hc ⟨pv,ov,rfl,gs,sc,hfo,gnd,grn,gm⟩;rw[aa,aW] at gm;walk_at "rd";refine⟨gs,⟨by have:=G8 gnd grn;omega,.inr (.inr ⟨_,hfo,a1V gs⟩)⟩,λns l pm hs nl=>⟨_,.inl ⟨SqL.of A1,λl2 n2=>?_⟩⟩⟩;have s3:B5 H Hc:=(s1.trans s2).trans sc;have f1:=s3.free nl;have f2:=s3.free (M0 n2);refine q l2 ns _ ((s3.upd f1).upd f2) f2 A1 (R9 pm hs gnd) λx=>?_
    rw[pm.mem_iff,gm]
def a2x:Sp:=λvs H Q _=>∃(rp:Addr) (as:List Addr) (n:Int) (ts:⋯) (am:Addr) (ls:List Int) (u:Int),vs=[.ref rp,.ref am,.int u]/\E4 H rp as (J8 n ts)/\Q6 n ts/\n<=60/\ts.length<=1000/\H am=some (.dK (kvI ls))/\0<=u/\u<n /\
 ∀(p:Addr) (zs:List Int) (H':Hp),B5 H H'->H p=none->H' p=some (.tup (zs.map V.int))->zs.Pairwise (·<·)->(∀ x,x∈zs↔Rch ts (·∈ls) u x)->Q (.ref p) H'
def b3g (H:Hp)(rp am me wl:Addr)(n:Int)(ts:⋯)(ls:List Int)(u:Int)(σ:St)(Hc:Hp):Prop:=∃(pv ov:Option V) (fs ws:List Int),σ=[some (.ref rp),some (.ref am),some (.int u),some (.ref me),some (.ref wl),pv,ov]/\Y8 H Hc me wl fs ws/\a2i n ts (·∈ls) u fs ws/\2*(n.toNat-fs.length)+ws.length<=2*n.toNat
def b1h (H:Hp)(rp am me wl:Addr)(n:Int)(ts:⋯)(ls:List Int)(u v:Int)(m0:Nat)(j:Nat)(σ:St)(Hc:Hp):Prop:=∃(ov:Option V) (fs ws:List Int),σ=[some (.ref rp),some (.ref am),some (.int u),some (.ref me),some (.ref wl),some (.int v),ov]/\Y8 H Hc me wl fs ws/\Y7 n ts (·∈ls) u fs ws v j/\2*(n.toNat-fs.length)+ws.length<m0
theorem a4h:B8 ["rows","among","start","met","waiting","place","other"] ["rows","among","start"] (A4 (top 17)):=by walk_at "s"
theorem a8R (F:Fun K "piece_from" "piece_from" (top 17) f fd)(B:Bt mg):C0 P w K mg base CX0 1 f fd ["rows","among","start"] a2x:=by
 refine F.ok a4h (λvs H Q E h=>?_) (λcdv A outer s H vs Q E hr h=>?_)
 ·walk_at "h"
 ·obtain⟨rp,as,n,ts,am,ls,u,rfl,hR,hok,hn1,htl,ham,u0,u1,q⟩:=h;have nd:=a4h.nd;have hu:=E8 hr
  refine⟨_,((C4 (i:=3) nd rfl (.inl rfl) (a6x (a4v (pv 2) K9 a6s) rfl rfl (by simp) (by decide)))<*
    ((C4 (i:=4) nd rfl (.inl rfl) (@J6 _ _ _ _ ((pv 2)<*>A0)))<*
    ((a4t aX (a8c K (pv 4) (λ_=>rfl))
     ((C4 (i:=5) nd rfl (.inl rfl) (b2w K (pv 4)))<*
     (@A2 _ _ _ (M8 aX rfl (J9 K ((pv 0)<|>(pv 5))) (A9 (i:=6) nd rfl (.inl rfl))
      (@A2 _ _ _ (@K4 _ _ _ _ _ _ _ _ (PW.pt (a0J (V9 (a8I hu (pv 6) (pv 1))) (Z2 (V9 (Z5 hu (pv 6) (pv 3))))))
       ((Z4 hu (pv 3) (pv 6) K9 rfl)<*
       (@A2 _ _ _ (N5 (N6 K (pv 4) ((pv 6)<*>A0)))))
       E5))))))<*
     (@A2 _ _ _ (B9 (F0 (S6 K) (by rfl) B.tuple cO ((B0 (W9 K hr.hd) (by rfl) B.sorted dS ((pv 3)<*>A0))<*>A0))))))),?_⟩
  walk_at "rd";refine λme nme=>⟨A1,[(bp u,V.bl true)],rfl,jl rfl,?_⟩
  rw[b1Y];refine A8 nme λH1 s1 e1=>⟨by decide,λwl nwl=>A8 nwl λH2 s2 e2=>?_⟩
  have nw:H wl=none:=s1.free nwl;refine a3K (b3g H rp am me wl n ts ls u) (λ_ Hc=>srM n me wl Hc) ⟨none,none,[u],[u],rfl,⟨s1.trans s2,s2 _ _ e1,e2⟩,a2i.init u0 u1,by simp;omega⟩ ?_ (fun σ H Q Q' h ⟨x,e,k,t,q⟩=>⟨x,e,k,t,h _ _ q⟩);rintro σ Hc ⟨pv,ov,fs,ws,rfl,sr,sh,hb⟩;refine⟨_,rfl,_,.inl ⟨_,SqL.of sr.wait,rfl⟩,R7 (λhne=>?_) λhe=>?_⟩
  ·have hw0:ws≠[]:=λe=>by subst e;simp at hne
   obtain⟨ws',v,rfl⟩:=a6G hw0;obtain⟨hl1,sr1⟩:=sr.pop nw;have sh1:=sh.pop;have hm0:2*(n.toNat-fs.length)+ws'.length<srM n me wl Hc:=by rw[sr.mu,aI,bK];omega
   have hmb:srM n me wl Hc<=2*n.toNat:=by rw[sr.mu];exact hb
   obtain⟨v0,v1⟩:=sh1.rng v sh1.vin;walk_at "rd";refine⟨.inl ⟨rfl,_,SqL.of sr.wait⟩,_,sr.wait,_,hl1,?_⟩;obtain⟨a,a1,a2,a3,a4⟩:=hR.get v0 (M7 v0 v1);have top2:=sr1.same _ _ hR.top;refine⟨_,rfl,_,rfl,_,_,_,_,rfl,rfl,SqL.of top2,a2,_,rfl,⟨_,SqL.of (sr1.same _ _ a3)⟩,V2 (K:=K) (xs:=(nb ts v).map V.int) (b1h H rp am me wl n ts ls u v (srM n me wl Hc)) ⟨_,fs,ws',rfl,sr1,sh1,hm0⟩ ?_ ?_ ?_⟩
   ·rintro j σ Hd _ ⟨_,_,_,rfl,sr2,_⟩;exact SqL.of (sr2.same _ _ a3)
   ·rintro j w σ Hd hv ⟨ov,fs,ws,rfl,sr2,sh2,hm2⟩;rw[ah] at hv;cases hy0:(nb ts v)[j]? with
    | none=>rw[hy0] at hv;cases hv
    | some y =>
    rw[hy0] at hv;cases ak hv;have hfl:=G8 sh2.nd sh2.rng;walk_at "rd";refine⟨_,a0f.k (k:=bp y) (sr2.same _ _ ham),?_⟩;rw[V8];refine R7 (λhA=>⟨_,a0f.k (k:=bp y) sr2.met,?_⟩) λhA=>⟨_,fs,ws,rfl,sr2,sh2.skip hy0 (.inl (~~~hA)),hm2⟩
    rw[V8];refine R7 (λhB=>?_) λhB=>⟨_,fs,ws,rfl,sr2,sh2.skip hy0 (.inr (~~~hB)),hm2⟩
    have hyl:y∈ls:= ~~~hA
    have hyf:y∉fs:= ~~~hB
    have sh3:=sh2.add hok hy0 hyl hyf;have hfl3:=G8 sh3.nd sh3.rng;rw[aI,bK] at hfl3;refine⟨_,V7.k (k:=bp y) sr2.met (T2 ∅),?_⟩;rw[Z3];have hwt:(upd Hd me (.dK (kvI (a0C fs y)))) wl=some (.lst (ws.map V.int)):=by rw[B3 sr2.ne.symm];exact sr2.wait
    have hwl:ws.length<=3000:=∅
    refine⟨.inl ⟨rfl,_,SqL.of hwt⟩,_,hwt,by rw[aa];exact E2 ∅,_,fs++[y],ws++[y],rfl,sr2.add nme nw hyf,sh3,?_⟩;rw[aI,aI,bK];omega
   ·rintro σ Hd ⟨ov,fs,ws,rfl,sr2,sh2,hm2⟩;rw[aa] at sh2;exact⟨⟨_,_,fs,ws,rfl,sr2,sh2.done (ao _),∅⟩,by rw[sr2.mu];exact hm2⟩
  ·have hw0:ws=[]:= ~~~he
   subst hw0;walk_at "rd";refine⟨fs,⟨by have:=G8 sh.nd sh.rng;omega,.inr (.inr ⟨_,sr.met,a1V fs⟩)⟩,λns l pm hs nl=>A8 nl λH4 s4 e4=>⟨_,.inl ⟨SqL.of e4,λl2 n2=>A8 n2 λH5 s5 e5=>?_⟩⟩⟩;have s3:=(sr.same.trans s4)
   refine q l2 ns H5 (s3.trans s5) (s3.free n2) e5 (R9 pm hs sh.nd) λx=>?_
   rw[pm.mem_iff];exact sh.fin x
def a0H:Sp:=λvs H Q _=>∃(w:Addr) (n:Int) (ts:⋯) (pl:Addr) (us:List Int),vs=[.ref w,.ref pl]/\N7 H w n ts/\Q6 n ts/\0<=n/\n<=60/\ts.length<=1000/\H pl=some (.tup (us.map V.int))/\us.length<=1000/\(∀ x∈us,0<=x/\x<n) /\
 ∀(p:Addr) (H':Hp),B5 H H'->H p=none->a4W H' p (Q7 n ts us us)->Q (.ref p) H'
def b3h (Hb:Hp)(w0 pl rp le lo:Addr)(n:Int)(ts:⋯)(us:List Int)(i:Nat)(σ:St)(Hc:Hp):Prop:=∃(pv tv ov:Option V) (ls:List Int) (ps:List (Addr×List Int)),σ=[some (.ref w0),some (.ref pl),some (.ref rp),pv,some (.ref le),some (.ref lo),tv,ov] /\
 B5 Hb Hc/\Hc le=some (.dK (kvI ls))/\W5 Hc lo ps/\ps.map (·.2)=Q7 n ts us (us.take i)/\ls.Nodup/\∀ x,x∈ls↔x∈us/\¬ S9 (Q7 n ts us (us.take i)) x
def b1i (Hb:Hp)(w0 pl rp le lo lt:Addr)(u:Int)(ls zs:List Int)(ps:List (Addr×List Int))(j:Nat)(σ:St)(Hc:Hp):Prop:=∃(ov:Option V),σ=[some (.ref w0),some (.ref pl),some (.ref rp),some (.int u),some (.ref le),some (.ref lo),some (.ref lt),ov] /\
 B5 Hb Hc/\Hc le=some (.dK (kvI (ls.filter λx=>!decide (x∈zs.take j))))/\W5 Hc lo ps/\Hc lt=some (.tup (zs.map V.int))
theorem a2H:B8 ["web","places","rows","place","left","lots","lot","other"] ["web","places"] (A4 (top 18)):=by walk_at "s"
theorem a7e (F:Fun K "pieces" "pieces" (top 18) f fd)(B:Bt mg)(D1:Df K mg "neighbour_rows" st1 f1 fd1 ["web"])(G1:C0 P w K mg base CX0 1 f1 fd1 ["web"] W7)(D2:Df K mg "piece_from" st2 f2 fd2 ["rows","among","start"])(G2:C0 P w K mg base CX0 1 f2 fd2 ["rows","among","start"] a2x):C0 P w K mg base CX0 2 f fd ["web","places"] a0H:=by
 refine F.ok a2H (λvs H Q E h=>?_) (λcdv A outer s H vs Q E hr h=>?_)
 ·walk_at "h"
 ·obtain⟨w0,n,ts,pl,us,rfl,hw,hok,hn0,hn1,htl,hpl,hul,hus,q⟩:=h;have nd:=a2H.nd;have hu:=E8 hr
  refine⟨_,((C4 (i:=2) nd rfl (.inl rfl) (B4 G1 D1 hr.m ((pv 0)<*>A0)))<*
    ((a4u (i:=4) (own:=["place"]) (fr:=[]) false hu rfl nd rfl rfl (by walk_at "w") (by walk_at "w") C6 (K6 K (pv 1)) ⟨λ_ _ _ _=>⟨(A9 (i:=0) (show bc (["place"]:List Str) by decide +kernel) rfl (.inl rfl)),J2,(pv 0),K9⟩⟩)<*
    ((C4 (i:=5) nd rfl (.inl rfl) (@J6 _ _ _ _ A0))<*
    ((M8 aX rfl (K6 K (pv 1)) (A9 (i:=3) nd rfl (.inl rfl))
     (@A2 _ _ _ (@K4 _ _ _ _ _ _ _ _ (V9 (a8I hu (pv 3) (pv 4)))
      ((C4 (i:=6) nd rfl (.inl rfl) (B4 G2 D2 hr.m ((pv 2)<*>((pv 4)<*>((pv 3)<*>A0)))))<*
      ((N5 (N6 K (pv 5) ((pv 6)<*>A0)))<*
      (@A2 _ _ _ (M8 aX rfl (K6 K (pv 6)) (A9 (i:=7) nd rfl (.inl rfl))
       (@A2 _ _ _ (b0w (pv 4) (pv 7)))))))
      E5)))<*
     (@A2 _ _ _ (B9 (F0 (S6 K) (by rfl) B.tuple cO ((pv 5)<*>A0)))))))),?_⟩
  walk_at "rd";refine⟨w0,n,ts,rfl,hw,∅,∅,∅,hok,λrp as H1 s1 np na hR=>?_⟩;refine⟨⟨_,SqT.of (s1 _ _ hpl)⟩,λle nle=>a5K (K:=K) (xs:=us.map V.int) (b3k H1 le us) ⟨none,[],rfl,(B5.refl H1).upd nle,A1,ao _,by simp,by simp⟩ ?_ ?_ ?_⟩
  ·rintro i τ Hc _ ⟨_,_,rfl,sc,_⟩;exact SqT.of (sc _ _ (s1 _ _ hpl))
  ·rintro i v τ Hc hv ⟨c,fs,rfl,sc,ha,hfl,hnd,hm⟩;rw[ah] at hv;cases hu0:us[i]? with
   | none=>rw[hu0] at hv;cases hv
   | some u =>
   rw[hu0] at hv;cases ak hv;have hil:=(ai.mp hu0).1;walk_at "rd";refine⟨_,V7.k (k:=bp u) ha (T2 ∅),?_⟩;rw[Z3];refine⟨_,_,rfl,sc.upd nle,A1,?_,a3B hnd,λx=>?_⟩
   ·have:=a1U (us:=fs) (x:=u);omega
   ·rw[Y0,hm,bI,hu0];simp
  ·rintro τ H2 ⟨c,fs,rfl,sc,ha,hfl,hfnd,hm⟩;rw[aa,aW] at hm;refine⟨by decide,λlo nlo=>A8 nlo λH3 s3 e3=>?_⟩;have nlo1:H1 lo=none:=sc.free nlo;have nele:lo≠le:=(C2 ha nlo).symm;refine⟨_,rfl,_,rfl,⟨_,SqT.of (s3 _ _ (sc _ _ (s1 _ _ hpl)))⟩,W3 (K:=K) (xs:=us.map V.int) (b3h H1 w0 pl rp le lo n ts us) ⟨none,none,none,fs,[],rfl,sc.trans s3,s3 _ _ ha,⟨e3,λx hx=>by cases hx⟩,rfl,hfnd,λx=>?_⟩ ?_ ?_ ?_⟩
   ·rw[hm];exact⟨λh=>⟨h,λ⟨l,hl,_⟩=>by cases hl⟩,λh=>h.1⟩
   ·rintro i σ Hc _ ⟨_,_,_,_,_,rfl,sd,_⟩;exact SqT.of (sd _ _ (s1 _ _ hpl))
   ·rintro i v σ Hc hv ⟨pv,tv,ov,ls,ps,rfl,sd,hle,hlo,hps,lnd,hls⟩;rw[ah] at hv;cases hu0:us[i]? with
    | none=>rw[hu0] at hv;cases hv
    | some u =>
    rw[hu0] at hv;cases ak hv;have hum:=aF hu0;obtain⟨u0,u1⟩:=hus u hum;have hil:=(ai.mp hu0).1;have hsn:Q7 n ts us (us.take (i+1))=J0 (N9 n ts us) (Q7 n ts us (us.take i)) u:=by
     rw[bI,hu0];exact a7o _ _
    have hpl2:ps.length<=1000:=by
     have h1:=congrArg fH hps;rw[aa] at h1;have h2:=a9l (n:=n) (ts:=ts) (us:=us) (us.take i);rw[bn] at h2;omega
    walk_at "rd";refine⟨_,a0f.k (k:=bp u) hle,?_⟩;rw[V8];refine R7 (λh=>?_) λh=>?_
    ·have hul:u∈ls:= ~~~h
     have hnu:¬ S9 (Q7 n ts us (us.take i)) u:=((hls u).mp hul).2;have hsn2:Q7 n ts us (us.take (i+1))=Q7 n ts us (us.take i)++[N9 n ts us u]:=by
      rw[hsn];unfold J0;rw[if_neg (λq=>hnu ((a1j _ _).mp q))]
     refine⟨rp,as,n,ts,le,ls,u,rfl,hR.same sd,hok,∅,∅,hle,u0,u1,λlt zs H5 s5 n5 e5 zsr hzs=>?_⟩;have hzs2:∀ x,x∈zs↔Rch ts (·∈us) u x:=λx=>by
      rw[hzs];exact a8w hok hus (vs:=us.take i) (λv hv=>jp hv) hls hul
     have hzp:zs=N9 n ts us u:=Q8 zsr a6y λx=>by rw[hzs2,R5 hok u0 u1]
     have hzl:∀ x∈zs,x∈ls:=λx hx=>((hzs x).mp hx).mem hul
     have hlo5:=s5 _ _ hlo.top;have L5:=(hlo.tp s5.tp hlo5).snoc e5;have hle6:(upd H5 lo (.lst ((ps.map λx=>V.ref x.1)++[V.ref lt]))) le=some (.dK (kvI ls)):=by rw[B3 nele.symm];exact s5 _ _ hle
     have hlt6:(upd H5 lo (.lst ((ps.map λx=>V.ref x.1)++[V.ref lt]))) lt=some (.tup (zs.map V.int)):=Tp.lst hlo5 _ _ e5;refine⟨.inl ⟨rfl,_,SqL.of hlo5⟩,_,hlo5,by rw[aa];exact E2 ∅,?_⟩;refine⟨_,rfl,_,rfl,⟨_,SqT.of hlt6⟩,W3 (K:=K) (xs:=zs.map V.int) (b1i H1 w0 pl rp le lo lt u ls zs (ps++[(lt,zs)])) ⟨_,rfl,(sd.trans s5).upd nlo1,?_,L5,hlt6⟩ ?_ ?_ ?_⟩
     ·rw[hle6,eR,jC.mpr (by simp)]
     ·rintro j σ Hd _ ⟨_,rfl,_,_,_,h⟩;exact SqT.of h
     ·rintro j w σ Hd hv ⟨ov,rfl,se,hle7,L7,hlt7⟩;rw[ah] at hv;cases hy0:zs[j]? with
      | none=>rw[hy0] at hv;cases hv
      | some y =>
      rw[hy0] at hv;cases ak hv;have hym:=aF hy0;have hyj:y∉zs.take j:=λhq=>by
       obtain⟨k,hk,e⟩:=cE hq;rw[bn] at hk;have h1:zs[k]?=some y:=by
        have:(zs.take j)[k]?=some y:=by rw[aG (by rw[bn];exact hk),e]
        rwa [iG ∅] at this
       have:=(gO (l:=zs) ∅ (C1 zsr)).mp (h1.trans hy0.symm);omega
      have hin:y∈ls.filter λx=>!decide (x∈zs.take j):=aM.mpr ⟨hzl y hym, ~~~hyj⟩
      walk_at "rd";refine⟨_,rfl,_,rfl,le,_,bp y,rfl,hle7,rfl,by rw[V8];simpa using hin,?_⟩;rw[a9O];refine⟨_,rfl,se.upd nle,?_,L7.tp (Tp.dK hle7) (by rw[B3 nele];exact L7.top),Tp.dK hle7 _ _ hlt7⟩;rw[A1,List.filter_filter];congr 4;funext x;rw[bI,hy0];by_cases e1:x=y<;>by_cases e2:x∈zs.take j<;>simp[e1,e2]
     ·rintro σ Hd ⟨ov,rfl,se,hle7,L7,hlt7⟩;rw[aa,aW] at hle7;refine⟨_,_,_,_,_,rfl,se,hle7,L7,?_,lnd.filter _,λx=>?_⟩
      ·rw[aE,hps,hsn2,<- hzp];rfl
      ·rw[aM,hls,hsn2,a0n,<- hzp];constructor
       ·rintro⟨⟨a,b⟩,c⟩;exact⟨a,λq=>q.elim b (~~~c)⟩
       ·rintro⟨a,b⟩;exact⟨⟨a,λq=>b (.inl q)⟩,by simpa using λq=>b (.inr q)⟩
    ·have hul:u∉ls:= ~~~h
     have hin:S9 (Q7 n ts us (us.take i)) u:=aR λq=>hul ((hls u).mpr ⟨hum,q⟩)
     have hsn2:Q7 n ts us (us.take (i+1))=Q7 n ts us (us.take i):=by
      rw[hsn];unfold J0;rw[if_pos ((a1j _ _).mpr hin)]
     exact⟨_,_,_,ls,ps,rfl,sd,hle,hlo,by rw[hsn2];exact hps,lnd,by rw[hsn2];exact hls⟩
   ·rintro σ Hc ⟨pv,tv,ov,ls,ps,rfl,sd,hle,hlo,hps,lnd,hls⟩;rw[aa,aW] at hps;walk_at "rd";refine⟨_,.inl ⟨SqL.of hlo.top,λl nl=>A8 nl λH6 s6 e6=>?_⟩⟩;have s06:=s1.trans sd;exact q l H6 (s06.trans s6) (s06.free nl) ⟨ps,e6,λx hx=>s6 _ _ (hlo.row x hx),hps⟩
def a1g:Sp:=λvs H Q _=>∃(w:Addr) (n:Int) (ts:⋯),vs=[.ref w]/\N7 H w n ts/\0<=n/\n<=1000/\ts.length<=1000/\Q6 n ts /\
 ∀(p:Addr) (as:List Addr) (H':Hp),B5 H H'->H p=none->(∀ a∈as,H a=none)->E4 H' p as (Y2 n ts)->Q (.ref p) H'
def a9A (H:Hp)(p:Addr)(n:Int)(ts:⋯)(i:Nat)(τ:St)(Hc:Hp):Prop:=∃(c d:Option V) (as:List Addr),τ=[c,d]/\a4X H Hc p as ((Y2 n ts).take i)
theorem a6o:B8 ["web"] ["web"] (A4 (top 22)):=by walk_at "s"
theorem b0Q (F:Fun K "lot_rows" "lot_rows" (top 22) f fd)(B:Bt mg)(D1:Df K mg "neighbour_rows" st1 f1 fd1 ["web"])(G1:C0 P w K mg base CX0 1 f1 fd1 ["web"] W7)(C:Bt2 mg):C0 P w K mg base CX0 2 f fd ["web"] a1g:=by
 refine F.ok a6o (λvs H Q E h=>?_) (λcdv A outer s H vs Q E hr h=>?_)
 ·walk_at "h"
 ·obtain⟨w0,n,ts,rfl,hw,hn0,hn1,htl,hok,q⟩:=h;have nd:=a6o.nd;have hu:=E8 hr;refine⟨_,(@A2 _ _ _ (B9 (G0 (own:=["place","row"]) (fr:=[]) rfl (by walk_at "w") C6 (a6v (K:=K) (by rfl) C.enumerate boot_enumerate ((B4 G1 D1 hr.m ((pv 0)<*>A0))<*>A0)) ⟨λ_ _ _ _=>⟨(N2 K (n:=2) rfl (E1 (A9 (i:=0) (show bc (["place","row"]:List Str) by decide +kernel) rfl (.inl rfl)) (E1 (A9 (i:=1) (show bc (["place","row"]:List Str) by decide +kernel) rfl (.inl rfl)) N1))),J2,(@M2 _ _ _ _ _ _ _ _ a1N (@J6 _ _ _ _ ((pv 0)<*>A0)) (pv 1))⟩⟩))),?_⟩;walk_at "rd";refine⟨w0,n,ts,rfl,hw,hn0,hn1,htl,hok,λrp as H1 s1 nrp nas hR=>?_⟩;refine⟨rp,rfl,⟨_,SqL.of hR.top⟩,λl nl=>b1b (K:=K) (xs:=as.map V.ref) (a9A H1 l n ts) ⟨none,none,[],rfl,(B5.refl H1).upd nl,nl,(λa ha=>by cases ha),E4.nil A1⟩ ?_ ?_ ?_⟩
  ·rintro i τ Hc _ ⟨_,_,_,rfl,fr⟩;exact SqL.of (fr.same _ _ hR.top)
  ·rintro i v τ Hc q0 hv ⟨c,d,as2,rfl,fr⟩ nq;have hil:i<n.toNat:=by
    have:=(ai.mp hv).1;rw[aa,hR.len,J3] at this;exact this
   have hri:=M7 (n:=n) (ts:=ts) (v:=(i:Int)) ∅ ∅;rw[bD] at hri;rw[ah] at hv;cases ha:as[i]? with
   | none=>rw[ha] at hv;cases hv
   | some a =>
   rw[ha] at hv;cases ak hv;have nq1:=fr.same.free nq;have hra:=fr.same _ _ (hR.row i a _ ha hri);have hnl:=a0m (ts:=ts) (i:Int);refine A8 nq λHd sd ed=>?_
   walk_at "rd";refine⟨_,SqT.of ed,rfl,_,_,rfl,_,_,rfl,rfl,by decide,λl2 nl2=>A8 nl2 λHe se ee=>⟨l2,a,_,_,rfl,rfl,ee,se _ _ (sd _ _ hra),?_,λl3 nl3=>?_⟩⟩
   ·rw[aa];exact cz (E2 (by simp;omega))
   have frE:=fr.rows.same (sd.trans se);have sce:B5 Hc He:=sd.trans se;refine⟨_,P3 frE.top nl3,?_,?_⟩
   ·rw[aa,frE.len,bn,R6];exact E2 ∅
   ·have:=frE.snoc nl3 (r:=(i:Int)::nb ts (i:Int));refine⟨_,_,as2++[l3],rfl,((fr.same.trans sce).upd (fr.same.free (sce.free nl3))).upd nl,nl,λx hx=>?_,?_⟩
    ·rcases aj.mp hx with hx | hx
     ·exact fr.na x hx
     ·rw[aq.mp hx];exact fr.same.free (sce.free nl3)
    ·rw[aE] at this;rw[a4D hil];exact this
  ·rintro τ Hc ⟨c,d,as2,rfl,fr⟩;rw[aa,hR.len,J3,<- R6 n ts,aW] at fr;exact q l as2 Hc (s1.trans fr.same) (s1.free nl) (λx hx=>s1.free (fr.na x hx)) fr.rows
def a0I (K:ac):Sp:=λzs H Q _=>∃(pa:Addr) (us:List Int) (pb:Addr) (vs:List Int),zs=[.ref pa,.ref pb]/\(SqL K H pa (us.map V.int)\/SqT K H pa (us.map V.int))/\us.length<=100000/\(SqL K H pb (vs.map V.int)\/SqT K H pb (vs.map V.int)) /\
 ∀(b:Bool) (H':Hp),B5 H H'->(b=true↔∃ x∈us,x∈vs)->Q (.bl b) H'
theorem a2N:B8 ["one","other"] ["one","other"] (A4 (top 23)):=by walk_at "s"
theorem a7k (F:Fun K "have_common" "have_common" (top 23) f fd)(B:Bt mg)(C3:Bt3 mg):C0 P w K mg base CX0 1 f fd ["one","other"] (a0I K):=by
 refine F.ok a2N (λvs H Q E h=>?_) (λcdv A outer s H vs Q E hr h=>?_)
 ·walk_at "h"
 ·obtain⟨pa,us,pb,vs,rfl,hpa,hul,hpb,q⟩:=h;have nd:=a2N.nd;have hu:=E8 hr;refine⟨_,(@A2 _ _ _ (B9 (B0 (b5H K hr.hd) (by rfl) C3.any a7U ((G0 (own:=["place"]) (fr:=[("other",1)]) rfl (by walk_at "w") (E3 rfl rfl C6) (b0A K (pv 0)) ⟨λ_ _ _ _=>⟨(A9 (i:=0) (show bc (["place","other"]:List Str) by decide +kernel) rfl (.inl rfl)),J2,(M4 (a0y K) (pv 0) (pv 1) (by walk_at "w"))⟩⟩)<*>A0)))),?_⟩;walk_at "rd";have key:∀ p (np:H p=none),(∀ ys:List V,upd H p (.lst ys) p=some (.lst ys))->∀ x∈us,a6R (P1 0) b2c (tOp (rIn K false) (U6 0) (U6 1)) p [some (V.ref pb)] H (.int x) true (V.bl (decide (x∈vs))) us.length:=by
   intro p np _ x hx v ys R hy hR1 hR2;have sm:B5 H (upd H p (.lst ys)):=(B5.refl H).upd np;walk_at "rd";exact a1Z (hpb.imp (λh=>sm.seq h) (λh=>sm.seqT h)) (T3 hy ∅ hR1)
  have fin:∀ p (np:H p=none),∃ x:List Bool,SqL K (upd H p (.lst ((us.filter λ_=>true).map λx=>V.bl (decide (x∈vs))))) p (x.map V.bl)/\Q (.bl (x.any id)) (upd H p (.lst ((us.filter λ_=>true).map λx=>V.bl (decide (x∈vs))))):=by
   intro p np;rw[V3];refine⟨us.map λx=>decide (x∈vs),SqL.of (by rw[A1,bu];rfl),q _ _ ((B5.refl H).upd np) ?_⟩;rw[i9,bC];simp
  rcases hpa with hpa | hpa
  ·exact .inl ⟨⟨_,hpa⟩,λp np=>Y4 V.int (λ_=>true) (λx=>V.bl (decide (x∈vs))) ∅ hpa np (key p np λ_=>A1) (fin p np)⟩
  ·exact .inr ⟨⟨_,hpa⟩,λp np=>U3 V.int (λ_=>true) (λx=>V.bl (decide (x∈vs))) ∅ hpa np (key p np λ_=>A1) (fin p np)⟩
def a1f (K:ac):Sp:=λvs H Q _=>∃(w:Addr) (n:Int) (ts:⋯) (pl:Addr) (us:List Int),vs=[.ref w,.ref pl]/\N7 H w n ts/\0<=n/\n<=1000/\SqT K H pl (us.map V.int)/\us.length<=10000 /\
 ∀(p:Addr) (H':Hp),B5 H H'->H p=none->H' p=some (.tup (((B7 0 n.toNat).filter λx=>!decide (x∈us)).map V.int))->Q (.ref p) H'
theorem a6k:B8 ["web","some","among"] ["web","some"] (A4 (top 24)):=by walk_at "s"
theorem b0M (F:Fun K "places_but" "places_but" (top 24) f fd)(B:Bt mg):C0 P w K mg base CX0 1 f fd ["web","some"] (a1f K):=by
 refine F.ok a6k (λvs H Q E h=>?_) (λcdv A outer s H vs Q E hr h=>?_)
 ·walk_at "h"
 ·obtain⟨w0,n,ts,pl,us,rfl,hw,hn0,hn1,hpl,hul,q⟩:=h;have nd:=a6k.nd;have hu:=E8 hr
  refine⟨_,((C4 (i:=2) nd rfl (.inr rfl) (a8G (own:=["place"]) (fr:=[]) false hu rfl (by walk_at "w") C6 (K6 K (pv 1)) ⟨λ_ _ _ _=>⟨(A9 (i:=0) (show bc (["place"]:List Str) by decide +kernel) rfl (.inl rfl)),J2,(pv 0),K9⟩⟩))<*
    (@A2 _ _ _ (B9 (F0 (S6 K) (by rfl) B.tuple cO ((G0 (own:=["place"]) (fr:=[("among",2)]) rfl (by walk_at "w") (E3 rfl rfl C6) (N0 (by rfl) B.range (((pv 0)*>A7)<*>A0)) ⟨λ_ _ _ _=>⟨(A9 (i:=0) (show bc (["place","among"]:List Str) by decide +kernel) rfl (.inl rfl)),(S0 (V9 (Z5 hu (pv 0) (pv 1)))),(pv 0)⟩⟩)<*>A0))))),?_⟩
  walk_at "rd";obtain⟨q0,hw0,ht⟩:=hw;refine⟨⟨_,hpl⟩,λam nam=>b1r hpl nam ∅ ?_ ?_⟩
  ·intro u hu v fs R hf hR;walk_at "rd";exact⟨_,V7.k (k:=bp u) A1 (T2 hf),hR _⟩
  ·intro fs hnd hm hfl;refine A8 nam λH1 s1 e1=>?_
   refine⟨_,SqT.of (s1 _ _ hw0),_,rfl,n,rfl,∅,∅,λp np=>a0O (λx=>!decide (x∈us)) V.int ∅ ?_ ?_⟩
   ·intro x h0 h1 v ys R hy hR1 hR2;walk_at "rd";refine⟨_,a0f.k (k:=bp x) (((B5.refl H1).upd np) _ _ e1),?_⟩;rw[V8];exact S2 (by simp[hm]) hy ∅ hR1 hR2
   ·refine⟨_,.inl ⟨SqL.of A1,λl nl=>?_⟩⟩;have f1:=s1.free np;have f2:=s1.free (M0 nl);exact q l _ ((s1.upd f1).upd f2) f2 A1
def a0j (K:ac):Sp:=λvs H Q _=>∃(w:Addr) (n:Int) (ts:⋯) (pl:Addr) (us:List Int) (pb:Addr) (bs:List Int),vs=[.ref w,.ref pl,.ref pb]/\N7 H w n ts/\0<=n/\n<=1000/\SqT K H pl (us.map V.int)/\us.length<=1000/\SqT K H pb (bs.map V.int)/\bs.length<=1000 /\
 ∀(p:Addr) (H':Hp),B5 H H'->H p=none->H' p=some (.tup ((J1 n us bs).map V.int))->Q (.ref p) H'
theorem a1H:B8 ["web","held","barred"] ["web","held","barred"] (A4 (top 25)):=by walk_at "s"
theorem a5w (F:Fun K "free_places" "free_places" (top 25) f fd)(B:Bt mg)(D1:Df K mg "places_but" st1 f1 fd1 ["web","some"])(G1:C0 P w K mg base CX0 1 f1 fd1 ["web","some"] (a1f K)):C0 P w K mg base CX0 2 f fd ["web","held","barred"] (a0j K):=by
 refine F.ok a1H (λvs H Q E h=>?_) (λcdv A outer s H vs Q E hr h=>?_)
 ·walk_at "h"
 ·obtain⟨w0,n,ts,pl,us,pb,bs,rfl,hw,hn0,hn1,hpl,hul,hpb,hbl,q⟩:=h;have nd:=a1H.nd;have hu:=E8 hr;refine⟨_,(@A2 _ _ _ (B9 (B4 G1 D1 hr.m ((pv 0)<*>((@M2 _ _ _ _ _ _ _ _ (a9U K) (pv 1) (pv 2))<*>A0))))),?_⟩;walk_at "rd";refine⟨us.map V.int,hpl,bs.map V.int,hpb,?_,λp1 H1 h1 s1 _=>?_⟩
  ·rw[aa,aa];exact cz (E2 ∅)
  ·rw[<- aE] at h1;refine⟨w0,n,ts,p1,us++bs,rfl,hw.tp s1.tp,hn0,hn1,h1,by rw[aI];omega,λp2 H2 s2 n2 e2=>?_⟩;exact q p2 H2 (s1.trans s2) (s1.free n2) e2
def T4 (K:ac):Sp:=λvs H Q _=>∃(pa:Addr) (f:Int->Int) (m:Int) (pl:Addr) (us:List Int),vs=[.ref pa,.ref pl]/\(SqL K H pa ((B7 0 m.toNat).map λv=>V.int (f v))\/SqT K H pa ((B7 0 m.toNat).map λv=>V.int (f v)))/\SqT K H pl (us.map V.int)/\us.length<=1000/\(∀ x∈us,0<=x/\x<m) /\
 ∀(H':Hp),B5 H H'->Q (.int (us.map f).sum) H'
theorem a1F:B8 ["prices","places"] ["prices","places"] (A4 (top 27)):=by walk_at "s"
theorem a5u (F:Fun K "price_of" "price_of" (top 27) f fd)(B:Bt mg)(C3:Bt3 mg):C0 P w K mg base CX0 1 f fd ["prices","places"] (T4 K):=by
 refine F.ok a1F (λvs H Q E h=>?_) (λcdv A outer s H vs Q E hr h=>?_)
 ·walk_at "h"
 ·obtain⟨pa,f0,m,pl,us,rfl,hpa,hpl,hul,hus,q⟩:=h;have nd:=a1F.nd;have hu:=E8 hr;refine⟨_,(@A2 _ _ _ (B9 (B0 (b2r K hr.hd) (by rfl) C3.sum boot_sum ((G0 (own:=["place"]) (fr:=[("prices",0)]) rfl (by walk_at "w") (E3 rfl rfl C6) (K6 K (pv 1)) ⟨λ_ _ _ _=>⟨(A9 (i:=0) (show bc (["place","prices"]:List Str) by decide +kernel) rfl (.inl rfl)),J2,(@a6w _ _ _ _ _ _ _ (a6K K) (pv 1) (pv 0) (λ_ _=>rfl))⟩⟩)<*>A0)))),?_⟩;walk_at "rd";refine⟨⟨_,hpl⟩,λp np=>U3 V.int (λ_=>true) (λx=>V.int (f0 x)) ∅ hpl np ?_ ?_⟩
  ·intro x hx v ys R hy hR1 hR2;obtain⟨x0,x1⟩:=hus x hx;walk_at "rd";have sm:B5 H (upd H p (.lst ys)):=(B5.refl H).upd np;refine⟨_,hpa.imp (λh=>sm.seq h) (λh=>sm.seqT h),_,a0A x0 x1,T3 hy ∅ hR1⟩
  ·rw[V3];refine⟨us.map f0,SqL.of ?_,q _ ((B5.refl H).upd np)⟩;rw[A1,bu];rfl
def a2B (K:ac):Sp:=λvs H Q _=>∃(pa:Addr) (f:Int->Int) (m:Int) (pl:Addr) (us:List Int) (lim:Int),vs=[.ref pa,.ref pl,.int lim]/\SqT K H pa ((B7 0 m.toNat).map λv=>V.int (f v))/\SqT K H pl (us.map V.int)/\us.length<=1000/\(∀ x∈us,0<=x/\x<m)/\∀(H':Hp),B5 H H'->Q (.bl (decide ((us.map f).sum>lim))) H'
theorem a2L:B8 ["prices","held","limit"] ["prices","held","limit"] (A4 (top 39)):=by walk_at "s"
theorem a7i (F:Fun K "is_over" "is_over" (top 39) f fd)(B:Bt mg)(D1:Df K mg "price_of" st1 f1 fd1 ["prices","places"])(G1:C0 P w K mg base CX0 1 f1 fd1 ["prices","places"] (T4 K)):C0 P w K mg base CX0 2 f fd ["prices","held","limit"] (a2B K):=by
 refine F.ok a2L (λvs H Q E h=>?_) (λcdv A outer s H vs Q E hr h=>?_)
 ·walk_at "h"
 ·obtain⟨pa,f0,m,pl,us,lim,rfl,hpa,hpl,hul,hus,q⟩:=h;have nd:=a2L.nd;have hu:=E8 hr;refine⟨_,(@A2 _ _ _ (B9 (M4 a0Z (B4 G1 D1 hr.m ((pv 0)<*>((pv 1)<*>A0))) (pv 2) (E7 _)))),?_⟩;walk_at "rd";exact⟨pa,f0,m,pl,us,rfl,.inr hpa,hpl,hul,hus,λH1 s1=>⟨_,rfl,q H1 s1⟩⟩
def a2D:Sp:=λvs H Q _=>∃(pl:Addr) (ps:List Addr) (us:List Int),vs=[.ref pl]/\H pl=some (.lst (ps.map V.ref))/\(∀(i:Nat) a,ps[i]?=some a->∃ u,us[i]?=some u/\H a=some (.tup [.int u,.int 1]))/\ps.length=us.length/\us.length<=1000/\∀(p:Addr) (H':Hp),B5 H H'->H p=none->H' p=some (.tup [.int us.sum,.int 1])->Q (.ref p) H'
def a7A (H:Hp)(pl:Addr)(us:List Int)(i:Nat)(σ:St)(Hc:Hp):Prop:=∃ c d:Option V,σ=[some (.ref pl),some (.int (us.take i).sum),some (.int 1),c,d]/\B5 H Hc
theorem a2O:B8 ["fractions","top","bottom","more_top","more_bottom"] ["fractions"] (A4 (top 28)):=by walk_at "s"
theorem a7l (F:Fun K "added" "added" (top 28) f fd)(B:Bt mg):C0 P w K mg base CX0 1 f fd ["fractions"] a2D:=by
 refine F.ok a2O (λvs H Q E h=>?_) (λcdv A outer s H vs Q E hr h=>?_)
 ·walk_at "h"
 ·obtain⟨pl,ps,us,rfl,hpl,hps,hus,hl,q⟩:=h;have nd:=a2O.nd;have hu:=E8 hr
  refine⟨_,((@X4 _ _ _ _ _ _ (@K3 _ _ _ _ _ (A7<*>(A7<*>A0))) (N2 K (n:=2) rfl (E1 (A9 (i:=1) nd rfl (.inl rfl)) (E1 (A9 (i:=2) nd rfl (.inl rfl)) N1))) (by rfl) (by rfl) (by rfl))<*
    ((M8 aX rfl (J9 K (pv 0)) (N2 K (n:=2) rfl (E1 (A9 (i:=3) nd rfl (.inl rfl)) (E1 (A9 (i:=4) nd rfl (.inl rfl)) N1)))
     (@A2 _ _ _ (b2v (i:=1) (j:=2) rfl nd rfl rfl (by decide) rfl rfl (((@M2 _ _ _ _ _ _ _ _ T7 (pv 1) (pv 4))|||(@M2 _ _ _ _ _ _ _ _ T7 (pv 3) (pv 2)))<*>((@M2 _ _ _ _ _ _ _ _ T7 (pv 2) (pv 4))<*>A0)) (by walk_at "w"))))<*
     (@A2 _ _ _ (B9 (@K3 _ _ _ _ _ ((pv 1)<*>((pv 2)<*>A0))))))),?_⟩
  walk_at "rd";refine⟨by decide,λt0 n0=>A8 n0 λH1 s1 e1=>⟨_,SqT.of e1,rfl,_,_,rfl,_,_,rfl,rfl,?_⟩⟩;refine⟨_,rfl,pl,rfl,⟨_,SqL.of (s1 _ _ hpl)⟩,V2 (K:=K) (xs:=ps.map V.ref) (a7A H pl us) ⟨none,none,by rw[eR];rfl,s1⟩ ?_ ?_ ?_⟩
  ·rintro i σ Hc _ ⟨_,_,rfl,sc⟩;exact SqL.of (sc _ _ hpl)
  ·rintro i v σ Hc hv ⟨c,d,rfl,sc⟩;rw[ah] at hv;cases ha:ps[i]? with
   | none=>rw[ha] at hv;cases hv
   | some a =>
   rw[ha] at hv;cases ak hv;obtain⟨u,hu,ea⟩:=hps i a ha;walk_at "rd";refine⟨_,SqT.of (sc _ _ ea),rfl,_,_,rfl,_,_,rfl,rfl,?_⟩;refine⟨1,rfl,.inr ⟨by decide,by decide⟩,u,rfl,.inr ⟨by decide,by decide⟩,1,rfl,.inl ⟨by decide,by decide⟩,_,_,⟨rfl,rfl⟩,some (.int u),some (.int 1),?_,sc⟩;rw[M3 hu,List.sum_append,List.sum_singleton,fO,fO,fO]
  ·rintro σ Hc ⟨c,d,rfl,sc⟩;rw[aa,hus,aW];walk_at "rd";refine⟨by decide,λp np=>q p _ (sc.upd (sc.free np)) (sc.free np) A1⟩
def a3Q (K:ac):Sp:=λvs H Q _=>∃(pp:Addr) (f:Int->Int) (n:Int) (ph:Addr) (hs:List Int) (pr:Addr) (rows:⋯),vs=[.ref pp,.ref ph,.ref pr]/\SqT K H pp ((B7 0 n.toNat).map λv=>V.int (f v))/\SqT K H ph (hs.map V.int)/\hs.length<=1000/\(∀ x∈hs,0<=x/\x<n)/\a3I H pr rows/\rows.length<=900 /\
 ∀(p:Addr) (H':Hp),B5 H H'->H p=none->H' p=some (.tup [.int ((hs.map f).sum+(rows.map (·.2)).sum),.int 1])->Q (.ref p) H'
def a7v (H:Hp)(l:Addr)(rows:⋯)(i:Nat)(τ:St)(Hc:Hp):Prop:=∃(c d e:Option V) (as:List Addr),τ=[c,d,e]/\B5 H Hc/\Hc l=some (.lst (as.map V.ref))/\as.length=i/\∀(j:Nat) a,as[j]?=some a->∃ r,rows[j]?=some r/\Hc a=some (.tup [.int r.2,.int 1])
theorem a4e:B8 ["prices","held","shares","fractions"] ["prices","held","shares"] (A4 (top 30)):=by walk_at "s"
theorem a8O (F:Fun K "worth_added" "worth_added" (top 30) f fd)(B:Bt mg)(D1:Df K mg "price_of" st1 f1 fd1 ["prices","places"])(G1:C0 P w K mg base CX0 1 f1 fd1 ["prices","places"] (T4 K))(D2:Df K mg "added" st2 f2 fd2 ["fractions"])(G2:C0 P w K mg base CX0 1 f2 fd2 ["fractions"] a2D):C0 P w K mg base CX0 2 f fd ["prices","held","shares"] (a3Q K):=by
 refine F.ok a4e (λvs H Q E h=>?_) (λcdv A outer s H vs Q E hr h=>?_)
 ·walk_at "h"
 ·obtain⟨pp,f,n,ph,hs,pr,rows,rfl,hpp,hph,hhl,hhr,hpr,hrl,q⟩:=h;have nd:=a4e.nd;have hu:=E8 hr
  refine⟨_,((Q5 (i:=3) (own:=["place","top","bottom"]) (fr:=[]) rfl nd rfl rfl (by walk_at "w") (by walk_at "w") C6 (K6 K (pv 2)) ⟨λ_ _ _ _=>⟨(N2 K (n:=3) rfl (E1 (A9 (i:=0) (show bc (["place","top","bottom"]:List Str) by decide +kernel) rfl (.inl rfl)) (E1 (A9 (i:=1) (show bc (["place","top","bottom"]:List Str) by decide +kernel) rfl (.inl rfl)) (E1 (A9 (i:=2) (show bc (["place","top","bottom"]:List Str) by decide +kernel) rfl (.inl rfl)) N1)))),J2,(@K3 _ _ _ _ _ ((pv 1)<*>((pv 2)<*>A0)))⟩⟩)<*
    (@A2 _ _ _ (B9 (B4 G2 D2 hr.m ((@M2 _ _ _ _ _ _ _ _ a1N (@J6 _ _ _ _ ((@K3 _ _ _ _ _ ((B4 G1 D1 hr.m ((pv 0)<*>((pv 1)<*>A0)))<*>(A7<*>A0)))<*>A0)) (pv 3))<*>A0))))),?_⟩
  walk_at "rd";obtain⟨ps,hp0,hps,hpe⟩:=hpr;have hpl:ps.length=rows.length:=by have:=congrArg fH hpe;rwa [aa,aa] at this
  refine⟨⟨_,SqT.of hp0⟩,λl nl=>a5B (K:=K) (xs:=ps.map λx=>V.ref x.1) (a7v H l rows) ⟨none,none,none,[],rfl,(B5.refl H).upd nl,A1,rfl,λj a h=>(by cases h)⟩ ?_ ?_ ?_⟩
  ·rintro i τ Hc _ ⟨_,_,_,_,rfl,sc,_⟩;exact SqT.of (sc _ _ hp0)
  ·rintro i v τ Hc hv ⟨c,d,e,as,rfl,sc,hl,hal,has⟩;rw[ah] at hv;cases hx0:ps[i]? with
   | none=>rw[hx0] at hv;cases hv
   | some x =>
   rw[hx0] at hv;cases ak hv;have hil:=(ai.mp hx0).1;obtain⟨r,hr,hxr⟩:∃ r,rows[i]?=some r/\x.2=[r.1,r.2,1]:=by
    have h1:(ps.map (·.2))[i]?=some x.2:=by rw[ah,hx0];rfl
    rw[hpe,ah] at h1;cases hr:rows[i]? with
    | none=>rw[hr] at h1;cases h1
    | some r=>rw[hr] at h1;exact⟨r,rfl,(ak h1).symm⟩
   have ex:=sc _ _ (hps x (aF hx0));rw[hxr] at ex;walk_at "rd";refine⟨_,SqT.of ex,rfl,_,_,rfl,_,_,rfl,_,_,rfl,rfl,by decide,λt nt=>?_⟩;refine⟨_,P3 hl nt,by rw[aa,hal];exact E2 ∅,_,_,_,as++[t],rfl,(sc.upd (sc.free nt)).upd nl,by rw[A1,aE];rfl,by rw[aI,hal];rfl,λj a hj=>?_⟩;have lt:l≠t:=C2 hl nt;rcases bN j as.length with h | h
   ·rw[dn h] at hj;obtain⟨r',hr',ea⟩:=has j a hj;have hal2:a≠l:=λw=>by subst w;rw[hl] at ea;cases ea
    exact⟨r',hr',by rw[B3 hal2];exact P3 ea nt⟩
   ·rw[cC h] at hj;have hj0:j=as.length:=by
     have:=(ai.mp hj).1;simp at this;omega
    subst hj0;simp at hj;subst hj;exact⟨r,by rw[hal];exact hr,by rw[B3 (dN lt)];exact A1⟩
  ·rintro τ Hc ⟨c,d,e,as,rfl,sc,hl,hal,has⟩;rw[aa,hpl] at hal;refine⟨pp,f,n,ph,hs,rfl,.inr (sc.seqT hpp),sc.seqT hph,hhl,hhr,λH1 s1=>?_⟩;refine⟨by decide,λt0 nt0=>A8 nt0 λH2 s2 e2=>⟨by decide,λl0 nl0=>A8 nl0 λH3 s3 e3=>⟨l0,l,_,_,rfl,rfl,e3,s3 _ _ (s2 _ _ (s1 _ _ hl)),?_,λl4 n4=>A8 n4 λH4 s4 e4=>?_⟩⟩⟩
   ·rw[aa];exact cz (E2 (by simp;omega))
   have sA:=((s1.trans s2).trans s3).trans s4;refine⟨l4,t0::as,(hs.map f).sum::rows.map (·.2),rfl,by rw[e4];rfl,λj a hj=>?_,by rw[aw,aw,aa,hal],by rw[aw,aa];omega,λp5 H5 s5 n5 e5=>?_⟩
   ·cases j with
    | zero=>simp at hj;subst hj;exact⟨_,rfl,(s3.trans s4) _ _ e2⟩
    | succ j =>
     rw[eB] at hj;obtain⟨r,hr,ea⟩:=has j a hj;exact⟨r.2,by rw[eB,ah,hr];rfl,sA _ _ ea⟩
   ·rw[bo] at e5;exact q p5 H5 ((sc.trans sA).trans s5) (sc.free (sA.free n5)) e5
def a1r (K:ac):Sp:=λvs H Q _=>∃(pp:Addr) (f:Int->Int) (n:Int) (ph:Addr) (hs:List Int) (pr:Addr) (rows:⋯) (lim:Int),vs=[.ref pp,.ref ph,.ref pr,.int lim]/\(-(2 ^ 64)<lim/\lim<2 ^ 64)/\SqT K H pp ((B7 0 n.toNat).map λv=>V.int (f v))/\SqT K H ph (hs.map V.int)/\hs.length<=1000/\(∀ x∈hs,0<=x/\x<n)/\a3I H pr rows/\rows.length<=900 /\
 ∀(H':Hp),B5 H H'->Q (.bl (decide ((hs.map f).sum+(rows.map (·.2)).sum>lim))) H'
theorem a1z:B8 ["prices","held","shares","limit","top","bottom"] ["prices","held","shares","limit"] (A4 (top 31)):=by walk_at "s"
theorem a5o (F:Fun K "is_worth_above" "is_worth_above" (top 31) f fd)(B:Bt mg)(D1:Df K mg "worth_added" st1 f1 fd1 ["prices","held","shares"])(G1:C0 P w K mg base CX0 2 f1 fd1 ["prices","held","shares"] (a3Q K)):C0 P w K mg base CX0 3 f fd ["prices","held","shares","limit"] (a1r K):=by
 refine F.ok a1z (λvs H Q E h=>?_) (λcdv A outer s H vs Q E hr h=>?_)
 ·walk_at "h"
 ·obtain⟨pp,f,n,ph,hs,pr,rows,lim,rfl,hlim,hpp,hph,hhl,hhr,hpr,hrl,q⟩:=h;have nd:=a1z.nd;have hu:=E8 hr
  refine⟨_,((@X4 _ _ _ _ _ _ (B4 G1 D1 hr.m ((pv 0)<*>((pv 1)<*>((pv 2)<*>A0)))) (N2 K (n:=2) rfl (E1 (A9 (i:=4) nd rfl (.inl rfl)) (E1 (A9 (i:=5) nd rfl (.inl rfl)) N1))) (by rfl) (by rfl) (by rfl))<*
    (@A2 _ _ _ (B9 (M4 a0Z (pv 4) (@M2 _ _ _ _ _ _ _ _ T7 (pv 3) (pv 5)) (E7 _))))),?_⟩
  walk_at "rd";refine⟨pp,f,n,ph,hs,pr,rows,rfl,hpp,hph,hhl,hhr,hpr,hrl,λp5 H5 s5 n5 e5=>?_⟩;refine⟨p5,rfl,_,SqT.of e5,rfl,_,_,rfl,_,_,rfl,rfl,_,rfl,.inl hlim,_,rfl,?_⟩;rw[fO];exact q H5 s5
def a2w (K:ac):Sp:=λvs H Q _=>∃(pt:Addr) (lt:List Int) (pl:Addr) (f:Int->Int) (n:Int) (ph:Addr) (hs:List Int) (pb:Addr) (bs:List Int),vs=[.ref pt,.ref pl,.ref ph,.ref pb]/\H pt=some (.lst (lt.map V.int))/\lt.length<=1000/\(∀ x∈lt,0<=x/\x<n)/\H pl=some (.lst ((B7 0 n.toNat).map λv=>V.int (f v)))/\SqT K H ph (hs.map V.int)/\SqT K H pb (bs.map V.int) /\
 ∀(H':Hp),B5 H H'->Q (.int (P5 lt f hs bs)) H'
theorem a2G:B8 ["lot","left","held","barred","bounds"] ["lot","left","held","barred"] (A4 (top 32)):=by walk_at "s"
theorem a7d (F:Fun K "share_left" "share_left" (top 32) f fd)(B:Bt mg)(D1:Df K mg "have_common" st1 f1 fd1 ["one","other"])(G1:C0 P w K mg base CX0 1 f1 fd1 ["one","other"] (a0I K)):C0 P w K mg base CX0 2 f fd ["lot","left","held","barred"] (a2w K):=by
 refine F.ok a2G (λvs H Q E h=>?_) (λcdv A outer s H vs Q E hr h=>?_)
 ·walk_at "h"
 ·obtain⟨pt,lt,pl,f,n,ph,hs,pb,bs,rfl,hpt,hll,hlr,hpl,hph,hpb,q⟩:=h;have nd:=a2G.nd;have hu:=E8 hr
  refine⟨_,((Q5 (i:=4) (own:=["place"]) (fr:=[("barred",3),("left",1)]) rfl nd rfl rfl (by walk_at "w") (by walk_at "w") (E3 rfl rfl (E3 rfl rfl C6)) (J9 K (pv 0)) ⟨λ_ _ _ _=>⟨(A9 (i:=0) (show bc (["place","barred","left"]:List Str) by decide +kernel) rfl (.inl rfl)),(S0 (E6 (W1 K) (pv 0) (pv 1) (by walk_at "w"))),((pv 2)<|>(pv 0))⟩⟩)<*
    ((@K4 _ _ _ _ _ _ _ _ (PW.pt (a2Q (P6 (B4 G1 D1 hr.m ((pv 0)<*>((pv 2)<*>A0)))) (a1M (S7 (a8c K (pv 4) (λ_=>rfl))))))
     (@A2 _ _ _ (B9 A7))
     E5)<*
     (@A2 _ _ _ (B9 (B0 (b4F K hr.hd) (by rfl) B.min jY ((pv 4)<*>A0)))))),?_⟩
  walk_at "rd";refine⟨⟨_,SqL.of hpt⟩,λl1 n1=>Y4 V.int (λx=>!decide (x∈bs)) (λx=>V.int (f x)) ∅ (SqL.of hpt) n1 ?_ ?_⟩
  ·intro x hx v ys R hy hR1 hR2;have sm:B5 H (upd H l1 (.lst ys)):=(B5.refl H).upd n1;obtain⟨x0,x1⟩:=hlr x hx;walk_at "rd";refine Z6 (.inr (sm.seqT hpb)) ⟨_,rfl,?_⟩;by_cases hb:x∈bs
   ·rw[if_neg (by simp[hb])];exact hR2 (by simp[hb]) _
   ·rw[if_pos (by simp[hb])];exact⟨_,SqL.of (sm _ _ hpl),_,a0A x0 x1,T3 hy ∅ λ_=>hR1 (by simp[hb])⟩
  ·refine A8 n1 λH1 s1 e1=>?_
   refine⟨pt,lt,ph,hs,rfl,.inl (SqL.of (s1 _ _ hpt)),∅,.inr (s1.seqT hph),λb H2 s2 hb=>⟨b,rfl,?_⟩⟩;have s12:=s1.trans s2;cases b with
   | true =>
    rw[if_pos rfl];have e0:P5 lt f hs bs=0:=by
     unfold P5;obtain⟨z,z1,z2⟩:=hb.mp rfl;rw[if_pos (bC.mpr ⟨z,z1,decide_eq_true z2⟩)]
    have:=q H2 s12;rw[e0] at this;exact this
   | false =>
    rw[if_neg (by decide)];have hno:∀ x∈lt,x∉hs:=λx hx hm=>by cases hb.mpr ⟨x,hx,hm⟩
    have e2:H2 l1=some (.lst (((lt.filter λx=>!decide (x∈bs)).map f).map V.int)):=by rw[s2 _ _ e1,bu];rfl
    have hna:¬ (lt.any λx=>decide (x∈hs))=true:=λh=>by
     obtain⟨z,z1,z2⟩:=bC.mp h;exact hno z z1 (of_decide_eq_true z2)
    refine⟨_,.inl ⟨_,SqL.of e2,rfl⟩,?_⟩;by_cases hL:(lt.filter λx=>!decide (x∈bs))=[]
    ·rw[if_pos (by rw[hL];rfl)];have e0:P5 lt f hs bs=0:=by unfold P5;rw[if_neg hna,hL];rfl
     have:=q H2 s12;rw[e0] at this;exact this
    ·rw[if_neg (by cases hc:(lt.filter λx=>!decide (x∈bs)) with
      | nil=>exact absurd hc hL
      | cons a r=>simp)]
     refine⟨_,SqL.of e2,λk=>hL (~~~k),λm hm hmin=>?_⟩;have e0:P5 lt f hs bs=m:=by unfold P5;rw[if_neg hna];exact b0V hm hmin
     have:=q H2 s12;rw[e0] at this;exact this
def a1u (K:ac):Sp:=λvs H Q _=>∃(w:Addr) (n:Int) (ts:⋯) (pp:Addr) (f:Int->Int) (ph:Addr) (hs:List Int) (pb:Addr) (bs:List Int) (po:Addr) (ks:List Int),vs=[.ref w,.ref pp,.ref ph,.ref pb,.ref po]/\N7 H w n ts/\N8 n ts/\SqT K H pp ((B7 0 n.toNat).map λv=>V.int (f v))/\SqT K H ph (hs.map V.int)/\SqT K H pb (bs.map V.int)/\SqT K H po (ks.map V.int)/\ks.Perm (B7 0 n.toNat) /\
 ∀(p:Addr) (rows:⋯) (H':Hp),B5 H H'->H p=none->a3I H' p rows->rows.Perm (rzE ts f hs bs ks).2->rows.Pairwise (λa b=>a.1<=b.1)->Q (.ref p) H'
structure b5K (H Hc:Hp)(lf ra:Addr)(n:Int)(ts:⋯)(f:Int->Int)(hs bs:List Int)(ps:List (Addr×List Int))(ks:List Int)(i:Nat):Prop where
 same:B5 H Hc
 left:Hc lf=some (.lst ((B7 0 n.toNat).map λv=>V.int ((rzE ts f hs bs (ks.take i)).1 v)))
 ll:W5 Hc ra ps
 eq:ps.map (·.2)=(rzE ts f hs bs (ks.take i)).2.map λr=>[r.1,r.2,1]
 len:ps.length<=i
def b3d (H:Hp)(w0 pp ph pb po lr lf ra:Addr)(n:Int)(ts:⋯)(f:Int->Int)(hs bs ks:List Int)(i:Nat)(σ:St)(Hc:Hp):Prop:=∃(c d e:Option V) (ps:List (Addr×List Int)),σ=[some (.ref w0),some (.ref pp),some (.ref ph),some (.ref pb),some (.ref po),some (.ref lr),some (.ref lf),some (.ref ra),c,d,e]/\b5K H Hc lf ra n ts f hs bs ps ks i
def b1f (H1:Hp)(w0 pp ph pb po lr lf ra:Addr)(n p m:Int)(g:Int->Int)(lt:List Int)(ps:List (Addr×List Int))(j:Nat)(σ:St)(Hc:Hp):Prop:=∃(e:Option V),σ=[some (.ref w0),some (.ref pp),some (.ref ph),some (.ref pb),some (.ref po),some (.ref lr),some (.ref lf),some (.ref ra),some (.int p),some (.int m),e]/\B5 H1 Hc/\W5 Hc ra ps/\Hc lf=some (.lst ((B7 0 n.toNat).map λv=>V.int (g v-if v∈lt.take j then m else 0)))
theorem a6d {n x:Int}{g:Int->Int}{y:Int}(h0:0<=x)(h1:x<n):((B7 0 n.toNat).map λv=>V.int (g v)).set x.toNat (V.int y)=(B7 0 n.toNat).map λv=>V.int (if v=x then y else g v):=by
 refine cV λj=>?_
 rw[List.getElem?_set,ah,ah,aa,B6];rcases bN j n.toNat with h | h
 ·rw[Q9 h];by_cases hj:x.toNat=j
  ·rw[if_pos hj,if_pos ∅];show some (V.int y)=some (V.int (if (0:Int)+(j:Int)=x then y else g ((0:Int)+(j:Int))));rw[if_pos ∅]
  ·rw[if_neg hj];show some (V.int (g ((0:Int)+(j:Int))))=some (V.int (if (0:Int)+(j:Int)=x then y else g ((0:Int)+(j:Int))));rw[if_neg ∅]
 ·rw[bQ (by rw[B6];exact h),if_neg ∅];rfl
theorem a1D:B8 ["web","prices","held","barred","order","lots","left","rows","place","share","other"] ["web","prices","held","barred","order"] (A4 (top 33)):=by walk_at "s"
theorem a5s (F:Fun K "raised" "raised" (top 33) f fd)(B:Bt mg)(D1:Df K mg "lot_rows" st1 f1 fd1 ["web"])(G1:C0 P w K mg base CX0 2 f1 fd1 ["web"] a1g)(D2:Df K mg "share_left" st2 f2 fd2 ["lot","left","held","barred"])(G2:C0 P w K mg base CX0 2 f2 fd2 ["lot","left","held","barred"] (a2w K)):C0 P w K mg base CX0 3 f fd ["web","prices","held","barred","order"] (a1u K):=by
 refine F.ok a1D (λvs H Q E h=>?_) (λcdv A outer s H vs Q E hr h=>?_)
 ·walk_at "h"
 ·obtain⟨w0,n,ts,pp,f,ph,hs,pb,bs,po,ks,rfl,hw,hok,hpp,hph,hpb,hpo,hks,q⟩:=h;have nd:=a1D.nd;have hu:=E8 hr
  refine⟨_,((C4 (i:=5) nd rfl (.inl rfl) (B4 G1 D1 hr.m ((pv 0)<*>A0)))<*
    ((C4 (i:=6) nd rfl (.inl rfl) (F0 (a9m K) (by rfl) B.list boot_list ((pv 1)<*>A0)))<*
    ((C4 (i:=7) nd rfl (.inl rfl) (@J6 _ _ _ _ A0))<*
    ((M8 aX rfl (K6 K (pv 4)) (A9 (i:=8) nd rfl (.inl rfl))
     ((C4 (i:=9) nd rfl (.inl rfl) (B4 G2 D2 hr.m (((pv 5)<|>(pv 8))<*>((pv 6)<*>((pv 2)<*>((pv 3)<*>A0))))))<*
     (@A2 _ _ _ (@K4 _ _ _ _ _ _ _ _ (E6 a0Z (pv 9) A7 (E7 _))
      ((N5 (N6 K (pv 7) ((@K3 _ _ _ _ _ ((pv 8)<*>((pv 9)<*>(A7<*>A0))))<*>A0)))<*
      (@A2 _ _ _ (M8 aX rfl (J9 K ((pv 5)<|>(pv 8))) (A9 (i:=10) nd rfl (.inl rfl))
       (@A2 _ _ _ (b0x (pv 6) (pv 10) (a7B K) (pv 9) b2Y a4d)))))
      E5))))<*
     (@A2 _ _ _ (B9 (F0 (S6 K) (by rfl) B.tuple cO ((B0 (a1y K) (by rfl) B.sorted dS ((pv 7)<*>A0))<*>A0)))))))),?_⟩
  walk_at "rd";have h3:=hok.n3;have h60:=hok.n60;have hl:=hok.len;refine⟨w0,n,ts,rfl,hw,∅,∅,∅,hok.rng,λlr as H1 s1 nlr nas hR=>?_⟩;refine⟨_,.inr (s1.seqT hpp),λlf nlf=>A8 nlf λH2 s2 e2=>⟨by decide,λra nra=>A8 nra λH3 s3 e3=>?_⟩⟩;have hpo3:=(s1.trans (s2.trans s3)).seqT hpo;have s13:B5 H1 H3:=s2.trans s3;have lfra:lf≠ra:=C2 e2 nra;have nra1:=s2.free nra;refine⟨_,rfl,po,rfl,⟨_,hpo3⟩,W3 (K:=K) (xs:=ks.map V.int) (b3d H1 w0 pp ph pb po lr lf ra n ts f hs bs ks) ⟨none,none,none,[],rfl,s13,by rw[eR];exact s3 _ _ e2,⟨e3,λx hx=>(by cases hx)⟩,rfl,ao _⟩ ?_ ?_ ?_⟩
  ·rintro i σ Hc _ ⟨_,_,_,_,rfl,R⟩;exact (s1.trans R.same).seqT hpo
  ·rintro i v σ Hc hv ⟨c,d,e,ps,rfl,R⟩;rw[ah] at hv;cases hp0:ks[i]? with
   | none=>rw[hp0] at hv;cases hv
   | some p =>
   rw[hp0] at hv;cases ak hv;have hpm:=E9.mp (hks.mem_iff.mp (aF hp0));have hil:=(ai.mp hp0).1;have hkl:ks.length=n.toNat:=by rw[hks.length_eq,B6]
   have p0:0<=p:=hpm.1;have p1:p<n:=∅
   obtain⟨a,_,g2,g3,_⟩:=(hR.same R.same).get p0 (P8 p0 p1);have hlr:∀ x∈p::nb ts p,0<=x/\x<n:=λx hx=>a0x hok.rng p0 p1 hx
   have hnl:=a0m (ts:=ts) p;have hlnd:(p::nb ts p).Nodup:=bX.mpr ⟨λk=>(T8 hok.rng k).2.2.2.2 rfl,C1 (a6D hok.rng hok.srt p)⟩;have s1c:=s1.trans R.same;walk_at "rd";refine⟨_,SqL.of (R.same _ _ hR.top),_,g2,a,p::nb ts p,lf,(rzE ts f hs bs (ks.take i)).1,n,ph,hs,pb,bs,rfl,g3,by rw[aw];omega,hlr,R.left,s1c.seqT hph,s1c.seqT hpb,λH4 s4=>?_⟩;have R0:=R;obtain⟨_,hleft,_,hreq,hrl⟩:=R0;have hstep:rzE ts f hs bs (ks.take (i+1))=Z1 ts hs bs (rzE ts f hs bs (ks.take i)) p:=by rw[M3 hp0,a1J]
   unfold Z1 at hstep;generalize hm0:P5 (p::nb ts p) (rzE ts f hs bs (ks.take i)).1 hs bs=m at hstep ⊢;generalize hg0:(rzE ts f hs bs (ks.take i)).1=g at hleft hstep;generalize hrw:(rzE ts f hs bs (ks.take i)).2=rows at hreq hstep;have L4:W5 H4 ra ps:=R.ll.tp s4.tp (s4 _ _ R.ll.top);refine⟨m,rfl,R7 (λhpos=>?_) λhno=>⟨_,_,_,ps,rfl,R.same.trans s4,?_,L4,?_,∅⟩⟩
   rotate_left
   ·rw[hstep,if_neg (~~~hno),hg0];exact s4 _ _ hleft
   ·rw[hstep,if_neg (~~~hno),hrw];exact hreq
   have hpos:0<m:= ~~~hpos
   rw[if_pos hpos] at hstep;refine⟨.inl ⟨rfl,_,SqL.of L4.top⟩,by decide,λt nt=>A8 nt λH5 s5 e5=>⟨_,s5 _ _ L4.top,by rw[aa];exact E2 ∅,?_⟩⟩;have L6:=W5.snoc (l:=[p,m,1]) (L4.tp s5.tp (s5 _ _ L4.top)) e5;have s16:=((R.same.trans s4).trans s5).upd (o:=.lst ((ps.map λx=>V.ref x.1)++[V.ref t])) nra1;have l6:upd H5 ra (.lst ((ps.map λx=>V.ref x.1)++[V.ref t])) lf=some (.lst ((B7 0 n.toNat).map λv=>V.int (g v))):=by rw[B3 lfra];exact s5 _ _ (s4 _ _ hleft)
   generalize upd H5 ra (.lst ((ps.map λx=>V.ref x.1)++[V.ref t]))=H6 at L6 s16 l6;obtain⟨a6,_,k2,k3,_⟩:=(hR.same s16).get p0 (P8 p0 p1);rw[a0u];walk_at "rd";refine⟨_,SqL.of (s16 _ _ hR.top),_,k2,a6,rfl,⟨_,SqL.of k3⟩,V2 (K:=K) (xs:=(p::nb ts p).map V.int) (b1f H1 w0 pp ph pb po lr lf ra n p m g (p::nb ts p) (ps++[(t,[p,m,1])])) ⟨_,rfl,s16,L6, ~~~l6⟩ ?_ ?_ ?_⟩
   ·rintro j σ Hd _ ⟨_,rfl,sd,_⟩;obtain⟨b6,j1,j2,j3,_⟩:=(hR.same sd).get p0 (P8 p0 p1);obtain⟨c6,j4,_,_,_⟩:=(hR.same s16).get p0 (P8 p0 p1);have:b6=a6:=by
     have:=k2.symm.trans j2;cases ak this;rfl
    subst this;exact SqL.of j3
   ·rintro j v σ Hd hv ⟨e,rfl,sd,Ld,ld⟩;rw[ah] at hv;cases hx0:(p::nb ts p)[j]? with
    | none=>rw[hx0] at hv;cases hv
    | some x =>
    rw[hx0] at hv;cases ak hv;obtain⟨x0,x1⟩:=hlr x (aF hx0);have hxt:x∉(p::nb ts p).take j:=λk=>by
     obtain⟨i2,hi2,e2⟩:=cE k;rw[bn] at hi2;have hj:=ai.mp hx0;rw[List.getElem_take] at e2;have:=(List.getElem_inj (i:=i2) (j:=j) (h₀:=by omega) (h₁:=hj.1) hlnd).mp (e2.trans hj.2.symm);omega
    walk_at "rd";refine⟨_,SqL.of ld,x0,V.int (g x),?_,g x,rfl,_,ld,x.toNat,?_,_,rfl,sd.upd nlf,Ld.tp (Tp.lst ld) ?_,?_⟩
    ·rw[ah,Q9 (by omega:x.toNat<n.toNat)];show some (V.int (g ((0:Int)+(x.toNat:Int))-if (0:Int)+(x.toNat:Int)∈(p::nb ts p).take j then m else 0))=_;rw[show (0:Int)+(x.toNat:Int)=x by omega,if_neg hxt,Int.sub_zero]
    ·unfold ixN;rw[aa,B6,if_pos x0,if_pos ∅]
    ·rw[B3 (dN lfra)];exact Ld.top
    ·rw[A1,a6d x0 x1];congr 2;refine cW λv _=>?_
     congr 1;rw[M3 hx0];by_cases hvx:v=x
     ·subst hvx;rw[if_pos rfl,if_pos (by simp)]
     ·rw[if_neg hvx];congr 1;by_cases hvt:v∈(p::nb ts p).take j
      ·rw[if_pos hvt,if_pos (aj.mpr (.inl hvt))]
      ·rw[if_neg hvt,if_neg λk=>(aj.mp k).elim hvt λk=>hvx (aq.mp k)]
   ·rintro σ Hd ⟨e,rfl,sd,Ld,ld⟩;rw[aa,aW] at ld;refine⟨_,_,_,ps++[(t,[p,m,1])],rfl,sd,by rw[hstep];exact ld,Ld,?_,by rw[aI,bK];omega⟩;rw[hstep,aE,hreq,aE];rfl
  ·rintro σ Hc ⟨c,d,e,ps,rfl,R⟩;have hrl:=R.len;have hkl:ks.length=n.toNat:=by rw[hks.length_eq,B6]
   have hreq:=R.eq;rw[aa,hkl] at hrl;rw[aa,aW] at hreq;generalize hrw:(rzE ts f hs bs ks).2=rows at hreq q;have hform:∀ x∈ps,∃ r∈rows,x.2=[r.1,r.2,1]:=λx hx=>by
    have:x.2∈ps.map (·.2):=bq.mpr ⟨x,hx,rfl⟩;rw[hreq] at this;obtain⟨r,hr,e⟩:=bq.mp this;exact⟨r,hr,e.symm⟩
   walk_at "rd";refine⟨ps,⟨.inl (SqL.of R.ll.top),λx hx=>⟨R.ll.row x hx,by obtain⟨r,_,e⟩:=hform x hx;rw[e];simp⟩,∅⟩,λps' l pm hsrt nl=>A8 nl λH4 s4 e4=>⟨_,.inl ⟨SqL.of e4,λl2 nl2=>A8 nl2 λH5 s5 e5=>?_⟩⟩⟩;have sA:=s1.trans (R.same.trans (s4.trans s5));refine q l2 (ps'.map λx=>(x.2.getD 0 0,x.2.getD 1 0)) H5 sA (s1.free (R.same.free (s4.free nl2))) ⟨ps',e5,λx hx=>(s4.trans s5) _ _ (R.ll.row x (pm.mem_iff.mp hx)),?_⟩ ?_ ?_
   ·rw[bu];refine cW λx hx=>?_
    obtain⟨r,_,e⟩:=hform x (pm.mem_iff.mp hx);show x.2=[x.2.getD 0 0,x.2.getD 1 0,1]
    rw[e];rfl
   ·refine (pm.map _).trans ?_;rw[show (ps.map λx=>(x.2.getD 0 0,x.2.getD 1 0))=(ps.map (·.2)).map λl=>(l.getD 0 0,l.getD 1 0) by rw[bu];rfl,hreq,bu];refine List.Perm.of_eq ?_;conv=>rhs;rw[<- jA rows]
    exact cW λr _=>rfl
   ·rw[ck];refine hsrt.imp_of_mem λ{x y} hx hy hlt=>?_
    obtain⟨r,_,e1⟩:=hform x (pm.mem_iff.mp hx);obtain⟨u,_,e2⟩:=hform y (pm.mem_iff.mp hy);rw[e1,e2] at hlt;rw[e1,e2];show r.1<=u.1;by_cases h:r.1<=u.1
    ·exact h
    ·exfalso;have:HT.lexLt [u.1,u.2,1] [r.1,r.2,1]=true:=by
      rw[HT.lexLt_cons,if_neg ∅];exact decide_eq_true ∅
     rw[hlt] at this;cases this
def a2A (K:ac):Sp:=λvs H Q _=>∃(w:Addr) (n:Int) (ts:⋯) (pl:Addr) (us:List Int) (pb:Addr) (bs:List Int) (lim:Int),vs=[.ref w,.ref pl,.ref pb,.int lim]/\N7 H w n ts/\N8 n ts/\SqT K H pl (us.map V.int)/\us.length<=60/\(∀ x∈us,0<=x/\x<n)/\SqT K H pb (bs.map V.int)/\bs.length<=60 /\
 ∀(H':Hp),B5 H H'->Q (.bl (a0T n ts us bs lim)) H'
theorem a2K:B8 ["web","held","barred","limit","gains","most","many"] ["web","held","barred","limit"] (A4 (top 35)):=by walk_at "s"
theorem a7h (F:Fun K "is_thin" "is_thin" (top 35) f fd)(B:Bt mg)(D1:Df K mg "neighbour_rows" st1 f1 fd1 ["web"])(G1:C0 P w K mg base CX0 1 f1 fd1 ["web"] W7)(D2:Df K mg "free_places" st2 f2 fd2 ["web","held","barred"])(G2:C0 P w K mg base CX0 2 f2 fd2 ["web","held","barred"] (a0j K))(D3:Df K mg "price_of" st3 f3 fd3 ["prices","places"])(G3:C0 P w K mg base CX0 1 f3 fd3 ["prices","places"] (T4 K))(C3:Bt3 mg):C0 P w K mg base CX0 3 f fd ["web","held","barred","limit"] (a2A K):=by
 refine F.ok a2K (λvs H Q E h=>?_) (λcdv A outer s H vs Q E hr h=>?_)
 ·walk_at "h"
 ·obtain⟨w0,n,ts,pl,us,pb,bs,lim,rfl,hw,hok,hpl,hul,hus,hpb,hbl,q⟩:=h;have nd:=a2K.nd;have hu:=E8 hr
  refine⟨_,((C4 (i:=4) nd rfl (.inr rfl) (G0 (own:=["row"]) (fr:=[]) rfl (by walk_at "w") C6 (J9 K (B4 G1 D1 hr.m ((pv 0)<*>A0))) ⟨λ_ _ _ _=>⟨(A9 (i:=0) (show bc (["row"]:List Str) by decide +kernel) rfl (.inl rfl)),J2,((B0 (U7 K) (by rfl) B.len bi ((pv 0)<*>A0))^^^A7)⟩⟩))<*
    ((C4 (i:=5) nd rfl (.inl rfl) (a5l (K:=K) rfl (by rfl) B.sorted ((G0 (own:=["place"]) (fr:=[("gains",4)]) rfl (by walk_at "w") (E3 rfl rfl C6) (K6 K (B4 G2 D2 hr.m ((pv 0)<*>((pv 1)<*>((pv 2)<*>A0))))) ⟨λ_ _ _ _=>⟨(A9 (i:=0) (show bc (["place","gains"]:List Str) by decide +kernel) rfl (.inl rfl)),J2,((pv 1)<|>(pv 0))⟩⟩)<*>A0) (b0y K9 b2x)))<*
    ((C4 (i:=6) nd rfl (.inl rfl) (B0 (V5 rfl) (by rfl) B.max iK (A7<*>(((pv 3)^^^(B0 (U7 K) (by rfl) B.len bi ((pv 1)<*>A0)))<*>A0))))<*
    (@A2 _ _ _ (B9 (M4 a6z ((A7|||(B4 G3 D3 hr.m ((pv 4)<*>((pv 1)<*>A0))))|||(B0 (b2r K hr.hd) (by rfl) C3.sum boot_sum ((a4w (a4c K) (pv 5) a6u (a6t (pv 6)))<*>A0))) ((pv 0)*>A7) (E7 _))))))),?_⟩
  walk_at "rd";have h3:=hok.n3;have h60:=hok.n60;have hl:=hok.len;refine⟨w0,n,ts,rfl,hw,∅,∅,∅,hok.rng,λrp as H1 s1 np na hR=>?_⟩;obtain⟨ez,hz⟩:=hR.zip;have hT:=hR.top;rw[ez] at hT;refine⟨rp,rfl,⟨_,SqL.of hT⟩,λgp ngp=>Y4 (λx:Addr×List Int=>V.ref x.1) (λ_=>true) (λx=>V.int ((x.2.length:Int)-1)) (by rw[List.length_zip,hR.len,J3];omega) (SqL.of hT) ngp ?_ ?_⟩
  ·intro x hx v ys R hy hR1 hR2;walk_at "rd";refine⟨_,.inl (SqL.of (((B5.refl H1).upd ngp) _ _ (hz x hx))),?_⟩;rw[aa];exact T3 hy (by rw[List.length_zip,hR.len,J3];omega) hR1
  ·rw[V3,b0e hR.len (λr=>V.int ((r.length:Int)-1)),a5g];refine A8 ngp λH2 s2 e2=>?_
   have s12:=s1.trans s2;refine⟨w0,n,ts,pl,us,pb,bs,rfl,hw.tp s12.tp,∅,∅,s12.seqT hpl,∅,s12.seqT hpb,∅,λfp H3 s3 n3 e3=>⟨fp,rfl,⟨_,SqT.of e3⟩,λlp nlp=>U3 V.int (λ_=>true) (λx=>V.int (W2 ts x)) ?_ (SqT.of e3) nlp ?_ ?_⟩⟩
   ·exact aV (bL _ _) (by rw[B6];omega)
   ·intro x hx v ys R hy hR1 hR2;have hx2:=E9.mp (aM.mp hx).1;walk_at "rd";refine⟨_,SqL.of (((B5.refl H3).upd nlp) _ _ (s3 _ _ e2)),_,a0A hx2.1 ∅,T3 hy (aV (bL _ _) (by rw[B6];omega)) hR1⟩
   ·rw[V3];refine⟨(J1 n us bs).map (W2 ts),SqL.of (by rw[A1,bu];rfl),?_,λns' l pm hs nl=>?_⟩
    ·rw[aa];have:(J1 n us bs).length<=(B7 0 n.toNat).length:=bL _ _;rw[B6] at this;omega
    have f1:=s12.trans s3;have s4:B5 H3 (upd (upd H3 lp (.lst ((J1 n us bs).map λx=>V.int (W2 ts x)))) l (.lst (ns'.map V.int))):=((B5.refl H3).upd nlp).upd (M0 nl);generalize hH4:upd (upd H3 lp (.lst ((J1 n us bs).map λx=>V.int (W2 ts x)))) l (.lst (ns'.map V.int))=H4 at s4;have e4:H4 l=some (.lst (ns'.map V.int)):=by rw[<- hH4];exact A1
    have s14:=f1.trans s4;refine⟨_,.inr (s14.seqT hpl),_,_,⟨rfl,rfl⟩,?_⟩;refine⟨gp,W2 ts,n,pl,us,rfl,.inl (SqL.of (s4 _ _ (s3 _ _ e2))),s14.seqT hpl,∅,hus,λH5 s5=>⟨_,rfl,_,_,rfl,SqL.of (s5 _ _ e4),λlq nlq=>?_⟩⟩;have hk:0<=(if lim-((us.map V.int).length:Int)>0 then lim-((us.map V.int).length:Int) else 0):=by split<;>omega
    rw[b3z _ hk];refine⟨lq,rfl,_,SqL.of A1,?_⟩;obtain⟨q0,hw0,ht⟩:=hw;refine⟨_,SqT.of (((s14.trans s5).upd (s14.free (s5.free nlq))) _ _ hw0),_,rfl,n,rfl,?_⟩;have e:(if lim-((us.map V.int).length:Int)>0 then lim-((us.map V.int).length:Int) else 0).toNat=(lim-us.length).toNat:=by rw[aa];split<;>omega
    have:=q _ ((s14.trans s5).upd (o:=.lst ((ns'.take (if lim-((us.map V.int).length:Int)>0 then lim-((us.map V.int).length:Int) else 0).toNat).map V.int)) (s14.free (s5.free nlq)));rw[e] at this ⊢;rw[a6V pm hs];exact this
def a6B (n:Int)(f:Int->Int):Bool:=(B7 0 n.toNat).all λv=>f v == 1
def a2z (K:ac):Sp:=λvs H Q _=>∃(w:Addr) (n:Int) (ts:⋯) (pp:Addr) (f:Int->Int) (pl:Addr) (us:List Int) (pb:Addr) (bs:List Int) (lim:Int),vs=[.ref w,.ref pp,.ref pl,.ref pb,.int lim]/\N7 H w n ts/\N8 n ts/\SqT K H pp ((B7 0 n.toNat).map λv=>V.int (f v))/\SqT K H pl (us.map V.int)/\us.length<=60/\(∀ x∈us,0<=x/\x<n)/\SqT K H pb (bs.map V.int)/\bs.length<=60 /\
 ∀(H':Hp),B5 H H'->Q (.bl (a6B n f && a0T n ts us bs lim)) H'
theorem a2J:B8 ["web","prices","held","barred","limit"] ["web","prices","held","barred","limit"] (A4 (top 40)):=by walk_at "s"
theorem a7g (F:Fun K "is_known_thin" "is_known_thin" (top 40) f fd)(B:Bt mg)(D1:Df K mg "is_thin" st1 f1 fd1 ["web","held","barred","limit"])(G1:C0 P w K mg base CX0 3 f1 fd1 ["web","held","barred","limit"] (a2A K))(C:Bt2 mg):C0 P w K mg base CX0 4 f fd ["web","prices","held","barred","limit"] (a2z K):=by
 refine F.ok a2J (λvs H Q E h=>?_) (λcdv A outer s H vs Q E hr h=>?_)
 ·walk_at "h"
 ·obtain⟨w0,n,ts,pp,f0,pl,us,pb,bs,lim,rfl,hw,hok,hpp,hpl,hul,hus,hpb,hbl,q⟩:=h;have nd:=a2J.nd;have hu:=E8 hr;refine⟨_,(@A2 _ _ _ (B9 (W0 (B0 (b4U K hr.hd) (by rfl) C.all boot_all ((G0 (own:=["price"]) (fr:=[]) rfl (by walk_at "w") C6 (K6 K (pv 1)) ⟨λ_ _ _ _=>⟨(A9 (i:=0) (show bc (["price"]:List Str) by decide +kernel) rfl (.inl rfl)),J2,(M4 X6 (pv 0) A7 (E7 _))⟩⟩)<*>A0)) (X5 (B4 G1 D1 hr.m ((pv 0)<*>((pv 2)<*>((pv 3)<*>((pv 4)<*>A0))))))))),?_⟩;walk_at "rd";have h60:=hok.n60;refine⟨⟨_,hpp⟩,λgp ngp=>U3 (λv=>V.int (f0 v)) (λ_=>true) (λv=>V.bl (f0 v == 1)) (by rw[B6];omega) hpp ngp ?_ ?_⟩
  ·intro x hx v ys R hy hR1 hR2;walk_at "rd";exact T3 hy (by rw[B6];omega) hR1
  ·rw[V3];refine⟨(B7 0 n.toNat).map λv=>f0 v == 1,SqL.of (by rw[A1,bu];rfl),?_⟩;have e:((B7 0 n.toNat).map λv=>f0 v == 1).all id=a6B n f0:=by rw[List.all_map];rfl
   rw[e];have s1:B5 H (upd H gp (.lst ((B7 0 n.toNat).map λv=>V.bl (f0 v == 1)))):=(B5.refl H).upd ngp;cases h1:a6B n f0 with
   | false =>
    rw[if_neg (by decide)];have:=q _ s1;rw[h1,fm] at this;exact this
   | true =>
    rw[if_pos rfl]
    exact⟨w0,n,ts,pl,us,pb,bs,lim,rfl,hw.tp s1.tp,hok,s1.seqT hpl,hul,hus,s1.seqT hpb,hbl,λH2 s2=>by
     have:=q _ (s1.trans s2);rw[h1,fJ] at this
     exact this⟩
def b2Z (Hb:Hp)(w0 pb lk:Addr)(vh:V)(ts:⋯)(bs:List Int)(i:Nat)(σ:St)(Hc:Hp):Prop:=∃(a b c:Option V),σ=[some (.ref w0),some vh,some (.ref pb),some (.ref lk),a,b,c]/\B5 Hb Hc/\∀ j:Nat,j<i->¬ a0S ts bs j
theorem a2F:B8 ["web","held","barred","kept","place","lot","lots"] ["web","held","barred"] (A4 (top 37)):=by walk_at "s"
theorem a7c (F:Fun K "why_not" "why_not" (top 37) f fd)(B:Bt mg)(D1:Df K mg "places_but" st1 f1 fd1 ["web","some"])(G1:C0 P w K mg base CX0 1 f1 fd1 ["web","some"] (a1f K))(D2:Df K mg "lot_rows" st2 f2 fd2 ["web"])(G2:C0 P w K mg base CX0 2 f2 fd2 ["web"] a1g)(D3:Df K mg "have_common" st3 f3 fd3 ["one","other"])(G3:C0 P w K mg base CX0 1 f3 fd3 ["one","other"] (a0I K))(D4:Df K mg "pieces" st4 f4 fd4 ["web","places"])(G4:C0 P w K mg base CX0 2 f4 fd4 ["web","places"] a0H)(C:Bt2 mg):C0 P w K mg base CX0 3 f fd ["web","held","barred"] (a0G K):=by
 refine F.ok a2F (λvs H Q E h=>?_) (λcdv A outer s H vs Q E hr h=>?_)
 ·walk_at "h"
 ·obtain⟨w0,n,ts,vh,pb,bs,rfl,hw,hok,hpb,hbl,q⟩:=h;have nd:=a2F.nd;have hu:=E8 hr
  refine⟨_,((C4 (i:=3) nd rfl (.inl rfl) (B4 G1 D1 hr.m ((pv 0)<*>((pv 2)<*>A0))))<*
    ((M8 aX rfl (a6v (K:=K) (by rfl) C.enumerate boot_enumerate ((B4 G2 D2 hr.m ((pv 0)<*>A0))<*>A0)) (N2 K (n:=2) rfl (E1 (A9 (i:=4) nd rfl (.inl rfl)) (E1 (A9 (i:=5) nd rfl (.inl rfl)) N1)))
     (@A2 _ _ _ (@K4 _ _ _ _ _ _ _ _ (S7 (P6 (B4 G3 D3 hr.m ((pv 5)<*>((pv 3)<*>A0)))))
      (@A2 _ _ _ (B9 (@K3 _ _ _ _ _ (a0l<*>((pv 4)<*>A0)))))
      E5)))<*
     ((C4 (i:=6) nd rfl (.inl rfl) (B4 G4 D4 hr.m ((pv 0)<*>((pv 3)<*>A0))))<*
    ((@K4 _ _ _ _ _ _ _ _ (E6 X6 (B0 (U7 K) (by rfl) B.len bi ((pv 6)<*>A0)) A7 (E7 _))
     (@A2 _ _ _ (B9 a5m))
     E5)<*
     (@A2 _ _ _ (B9 (@K3 _ _ _ _ _ (a0l<*>(((pv 6)*>A7)<*>((((pv 6)*>A7)*>A7)<*>((((pv 6)*>A7)*>A7)<*>A0))))))))))),?_⟩
  walk_at "rd";have h3:=hok.n3;have h60:=hok.n60;have hl:=hok.len;refine⟨w0,n,ts,pb,bs,rfl,hw,∅,∅,hpb,∅,λlk H1 s1 n1 e1=>?_⟩;dsimp only;rw[a0u];walk_at "rd";refine⟨w0,n,ts,rfl,hw.tp s1.tp,∅,∅,∅,hok.rng,λrp as H2 s2 nrp nas hR=>?_⟩;have eb:C8 n bs=(B7 0 n.toNat).filter λx=>!decide (x∈bs):=rfl
  have hbutl:(C8 n bs).length<=n.toNat:=aV (bL _ _) (by rw[B6];omega);refine⟨rp,rfl,⟨_,SqL.of hR.top⟩,b1n (K:=K) (xs:=as.map V.ref) (b2Z H2 w0 pb lk vh ts bs) ⟨none,none,none,rfl,B5.refl H2,λj hj=>absurd hj (cr _)⟩ ?_ ?_ ?_⟩
  ·rintro i σ Hc _ ⟨_,_,_,rfl,sc,_⟩;exact SqL.of (sc _ _ hR.top)
  ·rintro i v σ Hc q0 hv ⟨a,b,c,rfl,sc,hno⟩ nq;have hil:i<n.toNat:=by
    have:=(ai.mp hv).1;rw[aa,hR.len,R6] at this;exact this
   have hri:=P8 (n:=n) (ts:=ts) (v:=(i:Int)) ∅ ∅;rw[bD] at hri;rw[ah] at hv;cases ha:as[i]? with
   | none=>rw[ha] at hv;cases hv
   | some a =>
   rw[ha] at hv;cases ak hv;have hra:=sc _ _ (hR.row i a _ ha hri);have hnl:=a0m (ts:=ts) (i:Int);refine A8 nq λHd sd ed=>?_
   walk_at "rd";have s1d:=(s2.trans sc).trans sd;refine⟨_,SqT.of ed,rfl,_,_,rfl,_,_,rfl,rfl,a,_,lk,C8 n bs,rfl,.inl (SqL.of (sd _ _ hra)),by rw[aw];omega,.inr (SqT.of (s1d _ _ e1)),λb He se hb=>⟨b,rfl,?_⟩⟩;cases b with
   | true =>
    rw[if_neg (by decide)];refine⟨_,_,_,rfl,(sc.trans sd).trans se,λj hj=>?_⟩;rcases bN j i with h | h
    ·exact hno j h
    ·cases (show j=i by omega);exact λhB=>(a4U hok.rng ∅ ∅).mpr hB (hb.mp rfl)
   | false =>
    rw[if_pos (by decide)];have hB:a0S ts bs i:=(a4U hok.rng ∅ ∅).mp λh=>by cases hb.mpr h
    refine⟨by decide,λp np=>q (.ref p) _ (((s1.trans s1d).trans se).upd ((s1.trans s1d).free (se.free np))) ?_ (.inr ⟨p,_,rfl,.bare A1 ∅ ∅,λ_=>hB,b1v ∅ ∅ hB⟩)⟩;rw[a6T hil hB hno];exact .tup (SqT.of A1) (.cons (.str _) (.cons (.int _) .nil))
  ·rintro σ Hc ⟨a,b,c,rfl,sc,hno⟩;rw[aa,hR.len,R6] at hno;have hnb:∀ p,0<=p->p<n->¬ a0S ts bs p:=λp p0 p1=>by
    have:=hno p.toNat ∅
    rwa [bx p0] at this
   have hne:=b3J ∅ hok.rng hnb;have s1c:=s2.trans sc;have s0c:=s1.trans s1c;walk_at "rd";refine⟨w0,n,ts,lk,C8 n bs,rfl,hw.tp s0c.tp,hok.rng,∅,∅,∅,s1c _ _ e1,∅,λx hx=>(G7.mp hx).1,λpp H4 s4 n4 hLs=>?_⟩;obtain⟨ps,ep,hrow,hpe⟩:=id hLs;have s04:=s0c.trans s4;have hD:=a6S hnb;refine⟨pp,rfl,_,.inr (SqT.of ep),?_⟩
   match ps,hpe,ep,hrow with
   | [],hpe,ep,hrow=>exact absurd hpe.symm (b0Y hne hok.rng)
   | [x0],hpe,ep,hrow =>
    rw[if_pos (by simp)];rw[<- hpe] at hD;exact q .non H4 s04 (by rw[hD];exact .non) (.inl ⟨rfl,a8N hok.rng hnb hpe.symm hne⟩)
   | x0::x1::r,hpe,ep,hrow =>
    rw[if_neg (by simp;omega)];rw[<- hpe] at hD;obtain⟨⟨p,r0,ep0⟩,⟨p',r1,ep1⟩,g0,g1,gs,gA,gB⟩:=a8a hok.rng hpe.symm;have hx0:=hrow x0 (by simp);have hx1:=hrow x1 (by simp);have ep0':x0.2=p::r0:=ep0;have ep1':x1.2=p'::r1:=ep1;have i0:atI ((x0::x1::r).map λx=>V.ref x.1) 0=some (.ref x0.1):=T0 (j:=0) rfl;have i1:atI ((x0::x1::r).map λx=>V.ref x.1) 1=some (.ref x1.1):=T0 (j:=1) rfl;have j0:atI (x0.2.map V.int) 0=some (.int (x0.2.headD 0)):=by rw[ep0'];exact T0 (j:=0) rfl
    have j1:atI (x1.2.map V.int) 0=some (.int (x1.2.headD 0)):=by rw[ep1'];exact T0 (j:=0) rfl
    have b0:=g0 (x0.2.headD 0) (by show x0.2.headD 0∈x0.2;rw[ep0'];simp);have b1:=g1 (x1.2.headD 0) (by show x1.2.headD 0∈x1.2;rw[ep1'];simp);have hxl:=G8 (C1 gs) g0;refine⟨pp,rfl,_,SqT.of ep,_,i0,pp,rfl,_,SqT.of ep,_,i0,x0.1,rfl,_,SqT.of hx0,_,j0,pp,rfl,_,SqT.of ep,_,i1,x1.1,rfl,_,SqT.of hx1,_,j1,by decide,λp np=>?_⟩;have sN:B5 H4 (upd H4 p (.tup [V.str (aS "apart"),V.ref x0.1,V.int (x0.2.headD 0),V.int (x1.2.headD 0)])):=(B5.refl H4).upd np;refine q (.ref p) _ (s04.trans sN) ?_ (.inr ⟨p,_,rfl,.apart A1 (sN _ _ hx0) (by have:x0.2.length<=n.toNat:=hxl;omega) gs g0 b0.1 b0.2 b1.1 b1.2,λhs=>gA hs,gB⟩);rw[hD];exact .tup (SqT.of A1) (.cons (.str _) (.cons (.tupI (SqT.of (sN _ _ hx0))) (.cons (.int _) (.cons (.int _) .nil))))
def a5X:Sp:=λvs H Q _=>∃(w:Addr) (n:Int) (ts:⋯) (pb:Addr) (bs:List Int),vs=[.ref w,.ref pb]/\N7 H w n ts/\N8 n ts/\H pb=some (.tup (bs.map V.int))/\(∀ x∈bs,0<=x/\x<n)/\bs.Pairwise (·<·)/\∀(b:Bool) (H':Hp),B5 H H'->(b=true↔Q1 n ts bs)->Q (.bl b) H'
theorem a9k {n:Int}{ts:⋯}{us:List Int}(hok:Q6 n ts)(hr:∀ x∈us,0<=x/\x<n):(Q7 n ts us us).length=1↔Hng ts us:=by
 have hall:=a1S hok hr us λv h=>h
 constructor
 ·intro e;obtain⟨l,hl⟩:=List.length_eq_one_iff.mp e;obtain⟨v,hv,rfl⟩:=Y1 us l (by rw[hl];simp);refine a2a hok hv λy hy=>?_
  obtain⟨m,hm,hym⟩:=hall y hy;rw[hl] at hm;rw[aq.mp hm] at hym;exact (R5 hok (hr v hv).1 (hr v hv).2).mp hym
 ·intro h;have pw:=a6F (n:=n) (ts:=ts) (us:=us) us λv h=>h
  match e:Q7 n ts us us with
  | [] =>
   obtain⟨u,hu⟩:=cG _ h.1;obtain⟨l,hl,_⟩:=hall u hu;rw[e] at hl;cases hl
  | [l]=>rfl
  | l0::l1::r =>
   rw[e] at pw;obtain⟨v1,hv1,rfl,hn1⟩:=(cq.mp pw).1 l1 (by simp);obtain⟨v0,hv0,rfl⟩:=Y1 us l0 (by rw[e];simp);exact absurd ((R5 hok (hr v0 hv0).1 (hr v0 hv0).2).mpr (h.2 v0 hv0 v1 hv1)) hn1
theorem a6h:B8 ["web","thing"] ["web","thing"] (A4 (top 42)):=by walk_at "s"
theorem b0J (F:Fun K "right_set" "right_set" (top 42) f fd)(B:Bt mg)(D1:Df K mg "is_place_row" st1 f1 fd1 ["web","thing"])(G1:C0 P w K mg base CX0 4 f1 fd1 ["web","thing"] a5W)(D2:Df K mg "pieces" st2 f2 fd2 ["web","places"])(G2:C0 P w K mg base CX0 2 f2 fd2 ["web","places"] a0H)(D3:Df K mg "touched" st3 f3 fd3 ["web","places"])(G3:C0 P w K mg base CX0 2 f3 fd3 ["web","places"] a0i):C0 P w K mg base CX0 5 f fd ["web","thing"] a5X:=by
 refine F.ok a6h (λvs H Q E h=>?_) (λcdv A outer s H vs Q E hr h=>?_)
 ·walk_at "h"
 ·obtain⟨w0,n,ts,pb,bs,rfl,hw,hok,hpb,hbr,hbs,q⟩:=h;have nd:=a6h.nd;have hu:=E8 hr
  refine⟨_,((@K4 _ _ _ _ _ _ _ _ (S7 (P6 (B4 G1 D1 hr.m ((pv 0)<*>((pv 1)<*>A0)))))
     (@A2 _ _ _ (B9 K9))
     E5)<*
     (@A2 _ _ _ (B9 (W0 (M4 X6 (B0 (U7 K) (by rfl) B.len bi ((B4 G2 D2 hr.m ((pv 0)<*>((pv 1)<*>A0)))<*>A0)) A7 (E7 _)) (X5 (M4 X6 ((B0 (U7 K) (by rfl) B.len bi ((pv 1)<*>A0))|||(B0 (U7 K) (by rfl) B.len bi ((B4 G3 D3 hr.m ((pv 0)<*>((pv 1)<*>A0)))<*>A0))) ((pv 0)*>A7) (E7 _))))))),?_⟩
  walk_at "rd";have h3:=hok.n3;have h60:=hok.n60;have hl:=hok.len;obtain⟨q0,hw0,htq⟩:=id hw;have hbl:=G8 (C1 hbs) hbr;refine⟨w0,n,.ref q0,pb,bs,rfl,hw0,hpb,∅,λc hc=>⟨c,rfl,?_⟩⟩;rw[hc.mpr ⟨hbr,hbs⟩,if_neg (by decide)];refine⟨w0,n,ts,pb,bs,rfl,hw,hok.rng,∅,∅,∅,hpb,∅,hbr,λlp H1 s1 n1 hLs=>?_⟩;obtain⟨ps,ep,hrow,hpe⟩:=id hLs;have hcnt:=a9k hok.rng hbr;rw[<- hpe,aa] at hcnt;refine⟨lp,rfl,_,.inr (SqT.of ep),?_⟩;by_cases hH:Hng ts bs
  ·rw[if_pos (by rw[aa,hcnt.mpr hH];rfl)];refine⟨_,.inr (SqT.of (s1 _ _ hpb)),w0,n,ts,pb,bs,rfl,hw.tp s1.tp,hok,s1 _ _ hpb,∅,hbr,λlt zs H2 s2 n2 e2 hz hm=>⟨lt,rfl,_,.inr (SqT.of e2),_,SqT.of ((s1.trans s2) _ _ hw0),_,rfl,rfl,q _ H2 (s1.trans s2) ?_⟩⟩;have hbi:=a4T (ts:=ts) (C1 hbs) hbr ∅ hz λx=>by
    rw[hm];constructor
    ·rintro⟨h1,y,hy,hxy⟩;have g:=T8 hok.rng hxy;exact⟨g.1,g.2.1,h1,y,hy,(X8 hok.rng).mp hxy⟩
    ·rintro⟨_,_,h1,y,hy,hyx⟩;exact⟨h1,y,hy,(X8 hok.rng).mp hyx⟩
   rw[decide_eq_true_iff,aa,aa];constructor
   ·intro e;exact⟨hH,hbi.mp (by injection e;omega)⟩
   ·intro h;have:=hbi.mpr h.2;congr 1;omega
  ·rw[if_neg (by rw[aa];intro e;exact hH (hcnt.mp (by have:=of_decide_eq_true e;omega)))];exact q false H1 s1 ⟨λh=>(by cases h),λh=>absurd h.1 hH⟩
def a2v (K:ac):Sp:=λvs H Q _=>∃(pp:Addr) (bs:List Int) (x:Int),vs=[.ref pp,.int x]/\H pp=some (.tup (bs.map V.int))/\bs.length<=60/\∀(t:Addr) (ms:List Int) (H':Hp),B5 H H'->H' t=some (.tup (ms.map V.int))->ms.Perm (bs++[x])->ms.Pairwise (·<=·)->Q (.ref t) H'
theorem a2E:B8 ["places","place"] ["places","place"] (A4 (top 26)):=by walk_at "s"
theorem a7b (F:Fun K "with_place" "with_place" (top 26) f fd)(B:Bt mg):C0 P w K mg base CX0 1 f fd ["places","place"] (a2v K):=by
 refine F.ok a2E (λvs H Q E h=>?_) (λcdv A outer s H vs Q E hr h=>?_)
 ·walk_at "h"
 ·obtain⟨pp,bs,x,rfl,hpp,hbl,q⟩:=h;have nd:=a2E.nd;have hu:=E8 hr;refine⟨_,(@A2 _ _ _ (B9 (F0 (S6 K) (by rfl) B.tuple cO ((B0 (W9 K hr.hd) (by rfl) B.sorted dS ((@M2 _ _ _ _ _ _ _ _ (b4Q K) (pv 0) (@K3 _ _ _ _ _ ((pv 1)<*>A0)))<*>A0))<*>A0)))),?_⟩;walk_at "rd";refine⟨by decide,λp1 n1=>A8 n1 λH1 s1 e1=>a9T (s1 _ _ hpp) e1 (by rw[aa];show bs.length+1<=10000;omega) λp2 H2 s2 e2=>?_⟩;have e2':H2 p2=some (.tup ((bs++[x]).map V.int)):=by rw[e2,aE];rfl
  exact⟨p2,rfl,bs++[x],⟨by rw[aI,bK];omega,.inr (.inl (SqT.of e2'))⟩,λms l pm hs nl=>A8 nl λH3 s3 e3=>⟨_,.inl ⟨SqL.of e3,λt nt=>A8 nt λH4 s4 e4=>q t ms H4 ((s1.trans s2).trans (s3.trans s4)) e4 pm hs⟩⟩⟩
def a3Y (K:ac):Sp:=λvs H Q _=>∃(w:Addr) (n:Int) (ts:⋯) (pp:Addr) (f:Int->Int) (ph:Addr) (hs:List Int) (pb:Addr) (bs:List Int) (lim:Int),vs=[.ref w,.ref pp,.ref ph,.ref pb,.int lim]/\N7 H w n ts/\N8 n ts/\SqT K H pp ((B7 0 n.toNat).map λv=>V.int (f v))/\(∀ x,0<=f x)/\H ph=some (.tup (hs.map V.int))/\H pb=some (.tup (bs.map V.int))/\Y6 n hs bs/\(-(2 ^ 64)<lim/\lim<2 ^ 64) /\
 ∀(v:V) (H':Hp),B5 H H'->((U8 n ts f hs bs lim=none/\v=.non)\/∃ d t,U8 n ts f hs bs lim=some d/\v=.ref t/\Dt K H' v d)->Q v H'
theorem a4p:B8 ["web","prices","held","barred","limit","why","shares"] ["web","prices","held","barred","limit"] (A4 (top 45)):=by walk_at "s"
theorem a8Z (F:Fun K "end_of" "end_of" (top 45) f fd)(B:Bt mg)(D1:Df K mg "is_over" st1 f1 fd1 ["prices","held","limit"])(G1:C0 P w K mg base CX0 2 f1 fd1 ["prices","held","limit"] (a2B K))(D2:Df K mg "why_not" st2 f2 fd2 ["web","held","barred"])(G2:C0 P w K mg base CX0 3 f2 fd2 ["web","held","barred"] (a0G K))(D3:Df K mg "raised" st3 f3 fd3 ["web","prices","held","barred","order"])(G3:C0 P w K mg base CX0 3 f3 fd3 ["web","prices","held","barred","order"] (a1u K))(D4:Df K mg "is_worth_above" st4 f4 fd4 ["prices","held","shares","limit"])(G4:C0 P w K mg base CX0 3 f4 fd4 ["prices","held","shares","limit"] (a1r K))(D5:Df K mg "is_known_thin" st5 f5 fd5 ["web","prices","held","barred","limit"])(G5:C0 P w K mg base CX0 4 f5 fd5 ["web","prices","held","barred","limit"] (a2z K)):C0 P w K mg base CX0 5 f fd ["web","prices","held","barred","limit"] (a3Y K):=by
 refine F.ok a4p (λvs H Q E h=>?_) (λcdv A outer s H vs Q E hr h=>?_)
 ·walk_at "h"
 ·obtain⟨w0,n,ts,pp,f,ph,hs,pb,bs,lim,rfl,hw,hok,hpp,hf,hph,hpb,st,hlim,q⟩:=h;have nd:=a4p.nd;have hu:=E8 hr
  refine⟨_,((@K4 _ _ _ _ _ _ _ _ (P6 (B4 G1 D1 hr.m ((pv 1)<*>((pv 2)<*>((pv 4)<*>A0)))))
     (@A2 _ _ _ (B9 (@K3 _ _ _ _ _ (a0l<*>A0))))
     E5)<*
     ((C4 (i:=5) nd rfl (.inl rfl) (B4 G2 D2 hr.m ((pv 0)<*>((pv 2)<*>((pv 3)<*>A0)))))<*
    ((@K4 _ _ _ _ _ _ _ _ (V9 (a3y (pv 5)))
     (@A2 _ _ _ (B9 (pv 5)))
     E5)<*
     ((C4 (i:=6) nd rfl (.inl rfl) (B4 G3 D3 hr.m ((pv 0)<*>((pv 1)<*>((pv 2)<*>((pv 3)<*>((F0 (a2f hr.hd) (by rfl) B.tuple cO ((F0 a7O (by rfl) B.range kj (((pv 0)*>A7)<*>A0))<*>A0))<*>A0)))))))<*
    ((@K4 _ _ _ _ _ _ _ _ (P6 (B4 G4 D4 hr.m ((pv 1)<*>((pv 2)<*>((pv 6)<*>((pv 4)<*>A0))))))
     (@A2 _ _ _ (B9 (@K3 _ _ _ _ _ (a0l<*>((pv 6)<*>A0)))))
     E5)<*
     ((@K4 _ _ _ _ _ _ _ _ (P6 (B4 G5 D5 hr.m ((pv 0)<*>((pv 1)<*>((pv 2)<*>((pv 3)<*>((pv 4)<*>A0)))))))
     (@A2 _ _ _ (B9 (@K3 _ _ _ _ _ (a0l<*>A0))))
     E5)<*
     (@A2 _ _ _ (B9 a5m)))))))),?_⟩
  simp only[L2.N4,st0,aA,ce,aw,ci,List.replicate,cK,cH,Nat.reduceAdd,Nat.reduceSub];walk_at "rd";have h3:=hok.n3;have h60:=hok.n60;have hhl:=G8 (C1 st.ul) st.ur;have hbl:=G8 (C1 st.bl) st.br;refine⟨pp,f,n,ph,hs,lim,rfl,hpp,SqT.of hph,∅,st.ur,λH1 s1=>⟨_,rfl,R7 (λh=>?_) λh=>?_⟩⟩
  ·have h:=of_decide_eq_true h;have e:U8 n ts f hs bs lim=some (.tuple [.str "over"]):=by unfold U8;rw[if_pos h]
   exact⟨by decide,λp np=>A8 np λH2 s2 e2=>q _ _ (s1.trans s2) (.inr ⟨_,p,e,rfl,.tup (SqT.of e2) (.cons (.str _) .nil)⟩)⟩
  have h:¬ (hs.map f).sum>lim:= ~~~h
  refine⟨w0,n,ts,.ref ph,pb,bs,rfl,hw.tp s1.tp,hok,SqT.of (s1 _ _ hpb),∅,λv H2 s2 dv hv=>?_⟩;have s02:=s1.trans s2;rcases hv with ⟨rfl,hB⟩ | ⟨t,W,rfl,_,_,hB⟩
  rotate_left
  ·dsimp only;rw[if_pos (by simp)];have e:U8 n ts f hs bs lim=some (a3q n ts bs):=by unfold U8;rw[if_neg h,if_pos hB]
   exact q _ _ s02 (.inr ⟨_,t,e,rfl,dv⟩)
  dsimp only;rw[if_neg (by simp)];obtain⟨q0,hw0,_⟩:=id hw;refine⟨_,SqT.of (s02 _ _ hw0),_,rfl,n,rfl,λpr npr=>A8 npr λH3 s3 e3=>⟨0,n,e3,⟨by decide,by decide,∅,∅⟩,∅,λpl npl=>A8 npl λH4 s4 e4=>?_⟩⟩;rw[Int.sub_zero] at e4;have s04:=s02.trans (s3.trans s4);refine⟨w0,n,ts,pp,f,ph,hs,pb,bs,pl,B7 0 n.toNat,rfl,hw.tp s04.tp,hok,s04.seqT hpp,SqT.of (s04 _ _ hph),SqT.of (s04 _ _ hpb),SqT.of e4,List.Perm.refl _,λrp rows H5 s5 nr hr pm hsr=>?_⟩;obtain rfl:=b0o pm hsr;have rl:=(a6q (n:=n) (ts:=ts) (f:=f) (hs:=hs) (bs:=bs)).2;have s05:=s04.trans s5;refine⟨pp,f,n,ph,hs,rp,_,lim,rfl,hlim,s05.seqT hpp,SqT.of (s05 _ _ hph),∅,st.ur,hr,∅,λH6 s6=>⟨_,rfl,R7 (λh2=>?_) λh2=>?_⟩⟩
  ·have h2:=of_decide_eq_true h2;have e:U8 n ts f hs bs lim=some (.tuple [.str "shares",a5h (X0 n ts f hs bs)]):=by unfold U8;rw[if_neg h,if_neg (gk.mpr hB),if_pos h2]
   exact⟨by decide,λp np=>A8 np λH7 s7 e7=>q _ _ ((s05.trans s6).trans s7) (.inr ⟨_,p,e,rfl,.tup (SqT.of e7) (.cons (.str _) (.cons (a3I.ed (hr.tp (s6.trans s7).tp)) .nil))⟩)⟩
  have h2:¬ (hs.map f).sum+((X0 n ts f hs bs).map (·.2)).sum>lim:= ~~~h2
  have s06:=s05.trans s6;refine⟨w0,n,ts,pp,f,ph,hs,pb,bs,lim,rfl,hw.tp s06.tp,hok,s06.seqT hpp,SqT.of (s06 _ _ hph),∅,st.ur,SqT.of (s06 _ _ hpb),∅,λH7 s7=>⟨_,rfl,R7 (λh4=>?_) λh4=>?_⟩⟩
  ·have h4:(a8M n f && a0T n ts hs bs lim)=true:=h4;have e:U8 n ts f hs bs lim=some (.tuple [.str "thin"]):=by unfold U8;rw[if_neg h,if_neg (gk.mpr hB),if_neg h2,if_pos h4]
   exact⟨by decide,λp np=>A8 np λH8 s8 e8=>q _ _ ((s06.trans s7).trans s8) (.inr ⟨_,p,e,rfl,.tup (SqT.of e8) (.cons (.str _) .nil)⟩)⟩
  ·have h4:¬ (a8M n f && a0T n ts hs bs lim)=true:=λz=>by
    have z':(a6B n f && a0T n ts hs bs lim)=true:=z;rw[z'] at h4;exact h4 rfl
   have e:U8 n ts f hs bs lim=none:=by unfold U8;rw[if_neg h,if_neg (gk.mpr hB),if_neg h2,if_neg h4]
   exact q _ _ (s06.trans s7) (.inl ⟨e,rfl⟩)
def ptQ:Str:=("place_to_part":Str)++".<locals>."++"<lambda>"
def a8q (tb:Addr):Sp:=λvs H Q _=>∃(w:Addr) (n:Int) (ts:⋯) (ph:Addr) (hs:List Int) (pb:Addr) (bs:List Int),vs=[.ref w,.ref ph,.ref pb]/\N7 H w n ts/\N8 n ts/\H ph=some (.tup (hs.map V.int))/\hs.length<=60/\(∀ x∈hs,0<=x/\x<n)/\H pb=some (.tup (bs.map V.int))/\bs.length<=60/\J1 n hs bs≠[]/\I0 H tb ptQ 165 35 /\
 ∀(x:Int) (H':Hp),Kp tb H H'->I0 H' tb ptQ 165 35->Ptp n ts hs bs x->Q (.int x) H'
def b3f (Hb:Hp)(l pr:Addr)(ts:⋯)(hs:List Int)(i:Nat)(τ:St)(Hc:Hp):Prop:=∃ c:Option V,τ=[c,some (.ref pr)]/\B5 Hb Hc/\Hc l=some (.lst (((B7 0 i).map (ptN ts hs)).map V.int))
theorem a8u:B8 ["web","held","barred","free","border","reached","beside","news"] ["web","held","barred"] (A4 (top 46)):=by walk_at "s"
theorem b2P {f cLm tLm:Addr}{oc kV doc pm ct:Value}{od an:Option Addr}{osl:Array (Option Value)}(F:K.lookup f=some ⟨oc,od,.func (cj "place_to_part" "place_to_part" (P7 (top 46)) (M9 (top 46)) (A4 (top 46)) .none kV doc pm an (.ref cLm) ct),osl⟩)(Fc:du K (.ref cLm) "place_to_part"=true)(CL:g4 base cLm tLm)(BL:Bm mg base)(B:Bt mg)(D1:Df K mg "free_places" st1 f1 fd1 ["web","held","barred"])(G1:C0 P w K mg base CX0 2 f1 fd1 ["web","held","barred"] (a0j K))(D2:Df K mg "touched" st2 f2 fd2 ["web","places"])(G2:C0 P w K mg base CX0 2 f2 fd2 ["web","places"] a0i)(D3:Df K mg "lot_rows" st3 f3 fd3 ["web"])(G3:C0 P w K mg base CX0 2 f3 fd3 ["web"] a1g):C0 P w K mg base CX0 4 f (cj "place_to_part" "place_to_part" (P7 (top 46)) (M9 (top 46)) (A4 (top 46)) .none kV doc pm an (.ref cLm) ct) ["web","held","barred"] (a8q tLm):=by
 refine b1m F Fc a8u (λvs H Q E h=>?_) (λA outer s H vs Q E hr h=>?_)
 ·walk_at "h"
 ·obtain⟨w0,n,ts,ph,hs,pb,bs,rfl,hw,hok,hph,hhl,hh,hpb,hbl,hfr,hL,q⟩:=h;have nd:=a8u.nd;have hu:=E8 hr
  refine⟨_,((C4 (i:=3) nd rfl (.inl rfl) (B4 G1 D1 hr.m ((pv 0)<*>((pv 1)<*>((pv 2)<*>A0)))))<*
  ((C4 (i:=4) nd rfl (.inr rfl) (B4 G2 D2 hr.m ((pv 0)<*>((pv 1)<*>A0))))<*
  ((C4 (i:=5) nd rfl (.inr rfl) (@M2 _ _ _ _ _ _ _ _ (a9U K) (pv 1) (pv 4)))<*
  ((C4 (i:=7) nd rfl (.inr rfl) (G0 (own:=["lot"]) (fr:=[("reached",5)]) rfl (by walk_at "w") (E3 rfl rfl C6) (J9 K (B4 G3 D3 hr.m ((pv 0)<*>A0))) ⟨λ_ _ _ _=>⟨(A9 (i:=0) (show bc (["lot","reached"]:List Str) by decide +kernel) rfl (.inl rfl)),J2,(B0 (U7 K) (by rfl) B.len bi ((G0 (own:=["other"]) (fr:=[("reached",1)]) rfl (by walk_at "w") (E3 rfl rfl C6) (J9 K (pv 0)) ⟨λ_ _ _ _=>⟨(A9 (i:=0) (show bc (["other","reached"]:List Str) by decide +kernel) rfl (.inl rfl)),(S0 (E6 (W1 K) (pv 0) (pv 1) (by walk_at "w"))),(pv 0)⟩⟩)<*>A0))⟩⟩))<*
  ((Q5 (i:=6) (own:=["place"]) (fr:=[("border",4)]) rfl nd rfl rfl (by walk_at "w") (by walk_at "w") (E3 rfl rfl C6) (K6 K (pv 3)) ⟨λ_ _ _ _=>⟨(A9 (i:=0) (show bc (["place","border"]:List Str) by decide +kernel) rfl (.inl rfl)),(S0 (E6 (a0y K) (pv 0) (pv 1) (by walk_at "w"))),(pv 0)⟩⟩)<*
  (@A2 _ _ _ (B9 (a8D (k:=1) (c:=cLm) (P:=tLm) (x:="place") (fr:=[("news",7)]) rfl hr (by rfl) B.max ⟨rfl,rfl⟩ (by walk_at "w") (E3 rfl rfl C6) rfl rfl rfl rfl rfl CL BL (λ_ _ _ _ _ _=>rfl) ((b2C K (pv 6) (X5 (pv 3)))<*>A0) (λ_ _ _ _ _ _ hr=>((pv 1)<|>(pv 0))))))))))),?_⟩
  walk_at "rd";have h3:=hok.n3;have h60:=hok.n60;have hl:=hok.len;refine⟨w0,n,ts,ph,hs,pb,bs,rfl,hw,∅,∅,SqT.of hph,∅,SqT.of hpb,∅,λpf H1 s1 n1 e1=>⟨w0,n,ts,ph,hs,rfl,hw.tp s1.tp,hok,s1 _ _ hph,hhl,hh,λpz zs H2 s2 n2 e2 zsr hzs=>?_⟩⟩;have zsl:zs.length<=60:=by
   have:=G8 (C1 zsr) (n:=n) λx hx=>by
    obtain⟨_,y,_,hy⟩:=(hzs x).mp hx;have:=T8 hok.rng hy;omega
   omega
  refine⟨pz,rfl,_,SqT.of (s2 _ _ (s1 _ _ hph)),_,SqT.of e2,by rw[aa,aa];exact cz (E2 ∅),λpr H3 e3 s3 _=>?_⟩;rw[<- aE] at e3;have s13:=s2.trans s3;have s03:=s1.trans s13;refine⟨w0,n,ts,rfl,hw.tp s03.tp,∅,∅,∅,hok.rng,λlp las H4 s4 nl nas hR=>⟨lp,rfl,⟨_,SqL.of hR.top⟩,λpn npn=>U4 (K:=K) (xs:=las.map V.ref) (b3f H4 pn pr ts hs) ⟨none,rfl,(B5.refl H4).upd npn,A1⟩ ?_ ?_ ?_⟩⟩
  ·rintro i τ Hc _ ⟨_,rfl,sc,_⟩;exact SqL.of (sc _ _ hR.top)
  ·rintro i v τ Hc hv ⟨c,rfl,sc,hc⟩ _;have hil:i<n.toNat:=by
    have:=(ai.mp hv).1;rw[aa,hR.len,R6] at this;exact this
   have hri:=P8 (n:=n) (ts:=ts) (v:=(i:Int)) ∅ ∅;rw[bD] at hri;rw[ah] at hv;cases ha:las[i]? with
   | none=>rw[ha] at hv;cases hv
   | some a =>
   rw[ha] at hv;cases ak hv;have hra:=sc _ _ (hR.row i a _ ha hri);have nbl:=a0m (ts:=ts) (i:Int);walk_at "rd";refine⟨⟨_,SqL.of hra⟩,λp1 np1=>Y4 V.int (a2l ts hs) V.int (by rw[aw];omega) (SqL.of hra) np1 ?_ ?_⟩
   ·intro x hx v ys R hy hR1 hR2;have sm:B5 H3 (upd Hc p1 (.lst ys)):=λb o e=>((B5.refl Hc).upd np1) b o (sc b o (s4 b o e))
    walk_at "rd";refine Z6 (.inr (sm.seqT e3)) ⟨_,rfl,S2 ?_ hy (by rw[aw];omega) hR1 hR2⟩;cases h:a2l ts hs x with
    | true =>
     obtain⟨h1,h2⟩:=a1k.mp h;rw[gP,decide_eq_false_iff_not,aj,hzs];rintro (z | ⟨_,y,hy,z⟩)
     ·exact h1 z
     ·exact h2 y hy z
    | false =>
     rw[Bool.not_eq_false',decide_eq_true_iff,aj,hzs];by_cases ho:x∈hs
     ·exact .inl ho
     ·exact .inr ⟨ho,(a5Q.mp h).resolve_left ho⟩
   ·refine A8 np1 λHd sd ed=>⟨_,.inl (SqL.of ed),_,sd _ _ hc,by rw[aa,aa,B6];exact E2 ∅,_,rfl,(sc.trans sd).upd npn,?_⟩
    rw[A1,a1L,aE,aE,aa,gf];rfl
  ·rintro τ H5 ⟨c,rfl,s5,e5⟩;rw[aa,hR.len,R6] at e5;have s15:=(s13.trans s4).trans s5;have fl:(J1 n hs bs).length<=60:=by
    have:=bL (λx=>!decide (x∈hs++bs)) (B7 0 n.toNat);rw[B6] at this;exact aV this ∅
   refine⟨pf,rfl,⟨_,SqT.of (s15 _ _ e1)⟩,λpe npe=>U3 V.int (λx=>!a2l ts hs x) V.int ∅ (SqT.of (s15 _ _ e1)) npe ?_ ?_⟩
   ·intro x hx v ys R hy hR1 hR2;have hxh:x∉hs:=λz=>by
     have h2:x∉hs++bs:=by simpa using (aM.mp hx).2
     exact h2 (dq _ z)
    have sm:B5 H2 (upd H5 pe (.lst ys)):=λb o e=>((B5.refl H5).upd npe) b o (s5 b o (s4 b o (s3 b o e)))
    walk_at "rd";refine a1Z (.inr (SqT.of (sm _ _ e2))) ⟨_,rfl,S2 ?_ hy ∅ hR1 hR2⟩;cases h:a2l ts hs x with
    | true =>
     obtain⟨h1,h2⟩:=a1k.mp h;refine decide_eq_false λz=>?_
     obtain⟨_,y,hy,z⟩:=(hzs x).mp z;exact h2 y hy z
    | false=>exact decide_eq_true ((hzs x).mpr ⟨hxh,(a5Q.mp h).resolve_left hxh⟩)
   ·refine A8 npe λH6 s6 e6=>?_
    have s06:=(s1.trans s15).trans s6;have L6:=hL.same s06;have hpn:∀ {X:Hp},Kp tLm H6 X->X pn=some (.lst (((B7 0 n.toNat).map (ptN ts hs)).map V.int)):=λk=>k _ _ (L6.ne (s6 _ _ e5) λ_ z=>nomatch z) (s6 _ _ e5)
    have hat:∀ {x:Int},0<=x->x<n->atI (((B7 0 n.toNat).map (ptN ts hs)).map V.int) x=some (.int (ptN ts hs x)):=λ{x} x0 x1=>by
     obtain⟨j,rfl⟩:=Int.eq_ofNat_of_zero_le x0;refine T0 ?_;rw[ah,ah,Q9 ∅,gf];rfl
    have rng:∀ x∈J1 n hs bs,0<=x/\x<n:=λx hx=>by
     have:=E9.mp (aM.mp hx).1;omega
    have step:∀(xs:List Int),(∀ x∈xs,0<=x/\x<n)->∀(i:Nat) (v:V) (H2:Hp),(xs.map V.int)[i]?=some v->Kp tLm H6 H2->∃ c,v=.int c/\xs[i]?=some c/\∃ ys,SqL K H2 pn ys/\atI ys c=some (.int (ptN ts hs (xs.getD i 0))):=λxs hx i v H2 ev k=>by
     rw[ah] at ev;cases e0:xs[i]? with
     | none=>rw[e0] at ev;cases ev
     | some c =>
      rw[e0] at ev;have hc:=hx c (aF e0);refine⟨c,(ak ev).symm,rfl,_,SqL.of (hpn k),?_⟩;rw[show xs.getD i 0=c by simp[e0]];exact hat hc.1 hc.2
    refine⟨_,.inl ⟨_,SqL.of e6,rfl⟩,?_⟩;have ebe:(J1 n hs bs).filter (λx=>!a2l ts hs x)=ptB n ts hs bs:=rfl;rw[ebe] at e6 ⊢;have fin:∀(xs:List Int),ptL n ts hs bs=xs->∀(i:Nat) (v:V) (H3:Hp),(xs.map V.int)[i]?=some v->(∀ j,j<(xs.map V.int).length->ptN ts hs (xs.getD j 0)<=ptN ts hs (xs.getD i 0)/\(j<i->ptN ts hs (xs.getD j 0)<ptN ts hs (xs.getD i 0)))->Kp tLm H6 H3->I0 H3 tLm ptQ 165 35->Q v H3:=λxs ex i v H3 ev best k3 l3=>by
     rw[ah] at ev;cases e0:xs[i]? with
     | none=>rw[e0] at ev;cases ev
     | some c =>
      rw[e0] at ev;obtain rfl:V.int c=v:=ak ev;refine q c H3 (s06.kp.trans k3) l3 ⟨by rw[ex];exact aF e0,?_⟩;rw[ex];exact b4S (ex ▸ b0u) e0 λj hj=>best j (by rw[aa];exact hj)
    by_cases hbe:ptB n ts hs bs=[]
    ·rw[hbe,if_neg (by simp)];have hx:ptL n ts hs bs=J1 n hs bs:=by unfold ptL;rw[if_pos hbe]
     refine⟨pf,rfl,_,.inl (s6 _ _ (s15 _ _ e1)),by rw[aa];exact dB.mpr hfr,L6,λi=>ptN ts hs ((J1 n hs bs).getD i 0),λi v H2 ev k l2=>?_,λi v H3 ev best k3 l3=>fin _ hx i v H3 ev best k3 l3⟩;obtain⟨c,rfl,_,ys,h1,h2⟩:=step _ rng i v H2 ev k;exact⟨ys,c,rfl,h1,_,h2,rfl,B5.refl _⟩
    ·rw[if_pos (by simp[hbe])];have hx:ptL n ts hs bs=ptB n ts hs bs:=by unfold ptL;rw[if_neg hbe]
     refine⟨_,.inr e6,by rw[aa];exact dB.mpr hbe,L6,λi=>ptN ts hs ((ptB n ts hs bs).getD i 0),λi v H2 ev k l2=>?_,λi v H3 ev best k3 l3=>fin _ hx i v H3 ev best k3 l3⟩;obtain⟨c,rfl,_,ys,h1,h2⟩:=step _ (λx hx=>rng x (aM.mp hx).1) i v H2 ev k;exact⟨ys,c,rfl,h1,_,h2,rfl,B5.refl _⟩
def a5e (K:ac)(tb:Addr):Nat->Sp
 | 0=>λ_ _ _ _=>False
 | m+1=>λvs H Q _=>∃(w:Addr) (n:Int) (ts:⋯) (pp:Addr) (f:Int->Int) (ph:Addr) (hs:List Int) (pb:Addr) (bs:List Int) (pt:Addr) (bst:List Int),vs=[.ref w,.ref pp,.ref ph,.ref pb,.ref pt]/\N7 H w n ts/\N8 n ts/\H pp=some (.tup ((B7 0 n.toNat).map λv=>V.int (f v)))/\(∀ x,0<=f x/\f x<=1000)/\H ph=some (.tup (hs.map V.int))/\H pb=some (.tup (bs.map V.int))/\H pt=some (.tup (bst.map V.int))/\Y6 n hs bs/\(∀ x∈bst,0<=x/\x<n)/\bst.length<=60/\(J1 n hs bs).length<=m/\I0 H tb ptQ 165 35 /\
  ∀(p pt':Addr) (v:V) (b:List Int) (d:PyData) (H':Hp),Kp tb H H'->I0 H' tb ptQ 165 35->H' p=some (.tup [.ref pt',v])->H' pt'=some (.tup (b.map V.int))->Dt K H' v d->Bac n ts f hs bs bst b d->Q (.ref p) H'
theorem a8v:B8 ["web","prices","held","barred","best","end","place","one","other"] ["web","prices","held","barred","best"] (A4 (top 47)):=by walk_at "s"
theorem R3 (F:Fun K "best_and_cases" "best_and_cases" (top 47) f fd)(B:Bt mg){tLm:Addr}(D1:Df K mg "price_of" st1 f1 fd1 ["prices","places"])(G1:C0 P w K mg base CX0 1 f1 fd1 ["prices","places"] (T4 K))(D2:Df K mg "end_of" st2 f2 fd2 ["web","prices","held","barred","limit"])(G2:C0 P w K mg base CX0 5 f2 fd2 ["web","prices","held","barred","limit"] (a3Y K))(D3:Df K mg "right_set" st3 f3 fd3 ["web","thing"])(G3:C0 P w K mg base CX0 5 f3 fd3 ["web","thing"] a5X)(D4:Df K mg "place_to_part" st4 f4 fd4 ["web","held","barred"])(G4:C0 P w K mg base CX0 4 f4 fd4 ["web","held","barred"] (a8q tLm))(D5:Df K mg "with_place" st5 f5 fd5 ["places","place"])(G5:C0 P w K mg base CX0 1 f5 fd5 ["places","place"] (a2v K))(D6:Df K mg "best_and_cases" st6 f6 fd6 ["web","prices","held","barred","best"])(G6:C0 P w K mg base CX0 (r+5) f6 fd6 ["web","prices","held","barred","best"] (a5e K tLm m)):C0 P w K mg base CX0 (r+6) f fd ["web","prices","held","barred","best"] (a5e K tLm (m+1)):=by
 refine F.ok a8v (λvs H Q E h=>?_) (λcdv A outer s H vs Q E hr h=>?_)
 ·walk_at "h"
 ·obtain⟨w0,n,ts,pp,f,ph,hs,pb,bs,pt,bst,rfl,hw,hok,hpp,hf,hph,hpb,hpt,st,hbr,hbl,hfm,hL,q⟩:=h;have nd:=a8v.nd;have hu:=E8 hr
  refine⟨_,((C4 (i:=5) nd rfl (.inl rfl) (B4 G2 D2 (hr.mono ∅) ((pv 0)<*>((pv 1)<*>((pv 2)<*>((pv 3)<*>(((B4 G1 D1 (hr.mono ∅) ((pv 1)<*>((pv 4)<*>A0)))^^^A7)<*>A0)))))))<*
    ((@K4 _ _ _ _ _ _ _ _ (V9 (a3y (pv 5)))
     (@A2 _ _ _ (B9 (@K3 _ _ _ _ _ ((pv 4)<*>((pv 5)<*>A0)))))
     E5)<*
     ((@K4 _ _ _ _ _ _ _ _ (P6 (B4 G3 D3 (hr.mono ∅) ((pv 0)<*>((pv 2)<*>A0))))
     (@A2 _ _ _ (B9 (@K3 _ _ _ _ _ ((pv 2)<*>((@K3 _ _ _ _ _ (a0l<*>A0))<*>A0)))))
     E5)<*
     ((C4 (i:=6) nd rfl (.inl rfl) (B4 G4 D4 (hr.mono ∅) ((pv 0)<*>((pv 2)<*>((pv 3)<*>A0)))))<*
    ((@X4 _ _ _ _ _ _ (B4 G6 D6 (hr.mono (ao _)) ((pv 0)<*>((pv 1)<*>((B4 G5 D5 (hr.mono ∅) ((pv 2)<*>((pv 6)<*>A0)))<*>((pv 3)<*>((pv 4)<*>A0)))))) (N2 K (n:=2) rfl (E1 (A9 (i:=4) nd rfl (.inl rfl)) (E1 (A9 (i:=7) nd rfl (.inl rfl)) N1))) (by rfl) (by rfl) (by rfl))<*
    ((@X4 _ _ _ _ _ _ (B4 G6 D6 (hr.mono (ao _)) ((pv 0)<*>((pv 1)<*>((pv 2)<*>((B4 G5 D5 (hr.mono ∅) ((pv 3)<*>((pv 6)<*>A0)))<*>((pv 4)<*>A0)))))) (N2 K (n:=2) rfl (E1 (A9 (i:=4) nd rfl (.inl rfl)) (E1 (A9 (i:=8) nd rfl (.inl rfl)) N1))) (by rfl) (by rfl) (by rfl))<*
    (@A2 _ _ _ (B9 (@K3 _ _ _ _ _ ((pv 4)<*>((@K3 _ _ _ _ _ (a0l<*>((pv 6)<*>((pv 7)<*>((pv 8)<*>A0)))))<*>A0))))))))))),?_⟩
  simp only[L2.N4,st0,aA,ce,aw,ci,List.replicate,cK,cH,Nat.reduceAdd,Nat.reduceSub];walk_at "rd";have h3:=hok.n3;have h60:=hok.n60;have hhl:=G8 (C1 st.ul) st.ur;have hbl':=G8 (C1 st.bl) st.br;have sb:=a5V hf bst;refine⟨pp,f,n,pt,bst,rfl,.inr (SqT.of hpp),SqT.of hpt,∅,hbr,λH1 s1=>⟨_,rfl,w0,n,ts,pp,f,ph,hs,pb,bs,_,rfl,hw.tp s1.tp,hok,SqT.of (s1 _ _ hpp),λx=>(hf x).1,s1 _ _ hph,s1 _ _ hpb,st,⟨∅,∅⟩,λv H2 s2 hv=>?_⟩⟩;have s02:=s1.trans s2;have L2:=hL.same s02;dsimp only;rcases hv with ⟨e,rfl⟩ | ⟨d,t,e,rfl,dt⟩
  rotate_left
  ·rw[if_pos (by simp)];exact⟨by decide,λp np=>A8 np λH3 s3 e3=>q p pt _ bst d H3 (s02.trans s3).kp (L2.same s3) e3 ((s02.trans s3) _ _ hpt) (dt.kpD s3.kpD) (.fin e)⟩
  rw[if_neg (by simp)];refine⟨w0,n,ts,ph,hs,rfl,hw.tp s02.tp,hok,s02 _ _ hph,st.ur,st.ul,λc H3 s3 hc=>⟨c,rfl,R7 (λh=>?_) λh=>?_⟩⟩
  ·exact⟨by decide,λp1 np1=>A8 np1 λH4 s4 e4=>⟨by decide,λp2 np2=>A8 np2 λH5 s5 e5=>q p2 ph _ hs _ H5 (s02.trans (s3.trans (s4.trans s5))).kp (L2.same (s3.trans (s4.trans s5))) e5 ((s02.trans (s3.trans (s4.trans s5))) _ _ hph) (.tup (SqT.of (s5 _ _ e4)) (.cons (.str _) .nil)) (.set e (hc.mp h))⟩⟩
  have hnb:¬ Q1 n ts hs:=λz=>h (hc.mpr z)
  have hfr:J1 n hs bs≠[]:=λz=>hnb (a7C st (a4K e).2 z)
  have s03:=s02.trans s3;have L3:=hL.same s03;cases m with
  | zero=>exact absurd (iL.mp (Nat.le_zero.mp hfm)) hfr
  | succ m =>
  refine⟨w0,n,ts,ph,hs,pb,bs,rfl,hw.tp s03.tp,hok,s03 _ _ hph,∅,st.ur,s03 _ _ hpb,∅,hfr,L3,λx H4 k4 L4 P=>?_⟩;have hx:=P.free;have hxf:x∈J1 n hs bs:=aM.mpr ⟨E9.mpr ∅,by simp[hx.2.1,hx.2.2]⟩;have t04:Tp H H4:=s03.tp.trans (L3.tp k4);refine⟨ph,hs,x,rfl,t04 _ _ hph,∅,λt1 ms H5 s5 e5 pm5 sr5=>?_⟩;have U1:=a2t pm5 sr5 (C1 st.ul) hx.2.1;have L5:=L4.same s5;have t05:=t04.trans s5.tp;have st1:=st.held U1 hx;have f1:=a0a (hs':=ms) (bs':=bs) hxf λy=>by rw[aj,aj,U1.2];exact⟨λk=>k.elim (λk=>k.elim (λk=>.inl (.inl k)) .inr) λk=>.inl (.inr k),λk=>k.elim (λk=>k.elim (λk=>.inl (.inl k)) .inr) λk=>.inl (.inr k)⟩
  refine⟨w0,n,ts,pp,f,t1,ms,pb,bs,pt,bst,rfl,hw.tp t05,hok,t05 _ _ hpp,hf,e5,t05 _ _ hpb,t05 _ _ hpt,st1,hbr,hbl,∅,L5,λp1 pt1 v1 b1 d1 H6 k6 L6 ep1 et1 dt1 B1=>⟨p1,rfl,_,SqT.of ep1,rfl,_,_,rfl,_,_,rfl,rfl,?_⟩⟩;have t06:=t05.trans (L5.tp k6);refine⟨pb,bs,x,rfl,t06 _ _ hpb,∅,λt2 ms2 H7 s7 e7 pm7 sr7=>?_⟩;have U2:=a2t pm7 sr7 (C1 st.bl) hx.2.2;have L7:=L6.same s7;have t07:=t06.trans s7.tp;have st2:=st.barred U2 hx;have f2:=a0a (hs':=hs) (bs':=ms2) hxf λy=>by rw[aj,aj,U2.2,or_assoc]
  have hb1:(∀ x∈b1,0<=x/\x<n)/\b1.length<=60:=by
   rcases (B1.good hok (λx=>(hf x).1) st1).2.1 with rfl | h
   ·exact⟨hbr,hbl⟩
   ·have:=G8 (C1 h.up) h.rng;exact⟨h.rng,∅⟩
  refine⟨w0,n,ts,pp,f,ph,hs,t2,ms2,pt1,b1,rfl,hw.tp t07,hok,t07 _ _ hpp,hf,t07 _ _ hph,e7,s7 _ _ et1,st2,hb1.1,hb1.2,∅,L7,λp2 pt2 v2 b2 d2 H8 k8 L8 ep2 et2 dt2 B2=>⟨p2,rfl,_,SqT.of ep2,rfl,_,_,rfl,_,_,rfl,rfl,by decide,λp3 np3=>A8 np3 λH9 s9 e9=>⟨by decide,λp4 np4=>A8 np4 λHA sA eA=>?_⟩⟩⟩;have s8A:=s9.trans sA;have dt1':=((dt1.kpD s7.kpD).kpD (L7.kpD k8)).kpD s8A.kpD;exact q p4 pt2 _ b2 _ HA ((((s03.kp.trans k4).trans s5.kp).trans k6).trans (s7.kp.trans (k8.trans s8A.kp))) (L8.same s8A) eA (s8A _ _ et2) (.tup (SqT.of (sA _ _ e9)) (.cons (.str _) (.cons (.int x) (.cons dt1' (.cons (dt2.kpD s8A.kpD) .nil))))) (.part e hnb P U1 U2 B1 B2)
def a3Z (K:ac)(tb cT cN:Addr):Sp:=λvs H Q E=>∃(w:Addr) (n:Int) (ts:⋯) (pp:Addr) (f:Int->Int) (ph:Addr) (hs:List Int) (pb:Addr) (bs:List Int),vs=[.ref w,.ref pp,.ref ph,.ref pb]/\N7 H w n ts/\N8 n ts/\H pp=some (.tup ((B7 0 n.toNat).map λv=>V.int (f v)))/\(∀ x,0<=f x/\f x<=1000)/\H ph=some (.tup (hs.map V.int))/\H pb=some (.tup (bs.map V.int))/\Y6 n hs bs/\I0 H tb ptQ 165 35 /\
 (n<=12->Q1 n ts (C8 n bs)->∀(p pt:Addr) (v:V) (b1 b:List Int) (d1 d:PyData) (H':Hp),Kp tb H H'->I0 H' tb ptQ 165 35->H' p=some (.tup [.ref pt,v])->H' pt=some (.tup (b.map V.int))->Dt K H' v d->Bac n ts f hs bs (C8 n bs) b1 d1->Bac n ts f hs bs b1 b d->Q (.ref p) H') /\
 (12<n->∀ H',B5 H H'->E (.ref cT) none H')/\(n<=12->¬ Q1 n ts (C8 n bs)->∀ H',B5 H H'->E (.ref cN) none H')
theorem a4q:B8 ["web","prices","held","barred","best","cases"] ["web","prices","held","barred"] (A4 (top 48)):=by walk_at "s"
theorem a9a (F:Fun K "cheapest_set" "cheapest_set" (top 48) f fd)(B:Bt mg){tLm:Addr}{cTooGreat:Addr}(ZTooGreat:Q2 K mg "TooGreat" cTooGreat){cNoSet:Addr}(ZNoSet:Q2 K mg "NoSet" cNoSet)(D1:Df K mg "why_not" st1 f1 fd1 ["web","held","barred"])(G1:C0 P w K mg base CX0 3 f1 fd1 ["web","held","barred"] (a0G K))(D2:Df K mg "places_but" st2 f2 fd2 ["web","some"])(G2:C0 P w K mg base CX0 1 f2 fd2 ["web","some"] (a1f K))(D3:Df K mg "best_and_cases" st3 f3 fd3 ["web","prices","held","barred","best"])(G3:C0 P w K mg base CX0 18 f3 fd3 ["web","prices","held","barred","best"] (a5e K tLm 13)){k1:Tok}(M1:mg "MOST_EXACT"=some (.int 12 k1)):C0 P w K mg base (CX1 P w) 19 f fd ["web","prices","held","barred"] (a3Z K tLm cTooGreat cNoSet):=by
 refine F.ok1 a4q (λvs H Q E h=>?_) (λcdv A outer s H vs Q E hr h=>?_)
 ·walk_at "h"
 ·obtain⟨w0,n,ts,pp,f,ph,hs,pb,bs,rfl,hw,hok,hpp,hf,hph,hpb,st,hL,q,e1,e2⟩:=h;have nd:=a4q.nd;have hu:=E8 hr
  refine⟨_,((@K4 _ _ _ _ _ _ _ _ (E6 a0Z ((pv 0)*>A7) (S1 rfl M1 (show D0 (V.int 12) _ from ⟨_,rfl⟩)) (E7 _))
     (@A2 _ _ _ (a2R ZTooGreat))
     E5)<*
     ((@K4 _ _ _ _ _ _ _ _ (V9 (a3y (B4 G1 D1 hr.m ((pv 0)<*>((pv 2)<*>((pv 3)<*>A0))))))
     (@A2 _ _ _ (a2R ZNoSet))
     E5)<*
     ((@X4 _ _ _ _ _ _ (B4 G3 D3 hr.m ((pv 0)<*>((pv 1)<*>((pv 2)<*>((pv 3)<*>((B4 G2 D2 hr.m ((pv 0)<*>((pv 3)<*>A0)))<*>A0)))))) (N2 K (n:=2) rfl (E1 (A9 (i:=4) nd rfl (.inl rfl)) (E1 (A9 (i:=5) nd rfl (.inl rfl)) N1))) (by rfl) (by rfl) (by rfl))<*
    (@A2 _ _ _ (B9 (B4 G3 D3 hr.m ((pv 0)<*>((pv 1)<*>((pv 2)<*>((pv 3)<*>((pv 4)<*>A0))))))))))),?_⟩
  simp only[L2.N4,st0,aA,ce,aw,ci,List.replicate,cK,cH,Nat.reduceAdd,Nat.reduceSub];walk_at "rd";have h3:=hok.n3;have hbl:=G8 (C1 st.bl) st.br;obtain⟨q0,hw0,_⟩:=id hw;refine⟨_,SqT.of hw0,_,rfl,n,rfl,R7 (λh=>e1 (of_decide_eq_true h) H (B5.refl H)) λh=>?_⟩;have hn:n<=12:=by
   have:¬ 12<n:= ~~~h
   omega
  have fl:(J1 n hs bs).length<=12:=by
   have:=bL (λx=>!decide (x∈hs++bs)) (B7 0 n.toNat);rw[B6] at this;exact aV this ∅
  refine⟨w0,n,ts,.ref ph,pb,bs,rfl,hw,hok,SqT.of hpb,∅,λv H1 s1 dv hv=>?_⟩;dsimp only;rcases hv with ⟨rfl,hB⟩ | ⟨t,W,rfl,_,_,hB⟩
  rotate_left
  ·rw[if_pos (by simp)];exact e2 hn hB H1 s1
  rw[if_neg (by simp)];refine⟨w0,n,ts,pb,bs,rfl,hw.tp s1.tp,∅,∅,SqT.of (s1 _ _ hpb),∅,λp1 H2 s2 np1 ep1=>?_⟩;have s02:=s1.trans s2;have t02:=s02.tp;have hbr:∀ x∈C8 n bs,0<=x/\x<n:=λx hx=>(G7.mp hx).1
  have hbu:(C8 n bs).length<=n.toNat:=G8 (C1 (db _ (Q4 _))) hbr;have L2:=hL.same s02;refine⟨w0,n,ts,pp,f,ph,hs,pb,bs,p1,C8 n bs,rfl,hw.tp t02,hok,t02 _ _ hpp,hf,t02 _ _ hph,t02 _ _ hpb,ep1,st,hbr,∅,fl,L2,λp pt v1 b1 d1 H3 k3 L3 e3 e3' dt1 B1=>⟨p,rfl,_,SqT.of e3,rfl,_,_,rfl,_,_,rfl,rfl,?_⟩⟩;have t03:=t02.trans (L2.tp k3);have hb1:(∀ x∈b1,0<=x/\x<n)/\b1.length<=60:=by
   rcases (B1.good hok (λx=>(hf x).1) st).2.1 with rfl | h
   ·exact⟨hbr,∅⟩
   ·have:=G8 (C1 h.up) h.rng;exact⟨h.rng,∅⟩
  exact⟨w0,n,ts,pp,f,ph,hs,pb,bs,pt,b1,rfl,hw.tp t03,hok,t03 _ _ hpp,hf,t03 _ _ hph,t03 _ _ hpb,e3',st,hb1.1,hb1.2,fl,L3,λp' pt' v2 b2 d2 H4 k4 L4 e4 e4' dt2 B2=>q hn hB p' pt' v2 b1 b2 d1 d2 H4 ((s02.kp.trans k3).trans k4) L4 e4 e4' dt2 B1 B2⟩
def a1t (K:ac)(c1 c2 c3 c4 c5 c6 c7 c8 c9:Addr):Sp:=λvs H Q _=>∃(ea D:Addr) (b:Fin 10->Bool),vs=[.ref ea]/\H ea=some (a7G ea D)/\a2s K D /\
  (bF K (.ref D) (.ref c1)=some (b 0)/\bF K (.ref D) (.ref c2)=some (b 1)/\bF K (.ref D) (.ref c3)=some (b 2)/\bF K (.ref D) (.ref c4)=some (b 3)/\bF K (.ref D) (.ref c5)=some (b 4) /\
   bF K (.ref D) (.ref c6)=some (b 5)/\bF K (.ref D) (.ref c7)=some (b 6)/\bF K (.ref D) (.ref c8)=some (b 7)/\bF K (.ref D) (.ref c9)=some (b 8)/\bF K (.ref D) (.type "ValueError")=some (b 9)) /\
  ∀(l:Addr) (H':Hp),B5 H H'->H l=none->H' l=some (.lst [.bl (b 0),.bl (b 1),.bl (b 2),.bl (b 3),.bl (b 4),.bl (b 5),.bl (b 6),.bl (b 7),.bl (b 8),.bl (b 9)])->Q (.ref l) H'
theorem a1C:B8 ["_law_error","_law_names"] ["_law_error"] (A4 (top 67)):=by walk_at "s"
theorem a5r (F:Fun K "_law_refusal" "_law_refusal" (top 67) f fd)(B:Bt mg){cNoWeb:Addr}(ZNoWeb:Q2 K mg "NoWeb" cNoWeb){cTooGreat:Addr}(ZTooGreat:Q2 K mg "TooGreat" cTooGreat){cNoSet:Addr}(ZNoSet:Q2 K mg "NoSet" cNoSet){cTaken:Addr}(ZTaken:Q2 K mg "Taken" cTaken){cTooMany:Addr}(ZTooMany:Q2 K mg "TooMany" cTooMany){cNoTie:Addr}(ZNoTie:Q2 K mg "NoTie" cNoTie){cApart:Addr}(ZApart:Q2 K mg "Apart" cApart){cNoText:Addr}(ZNoText:Q2 K mg "NoText" cNoText){cLeafError:Addr}(ZLeafError:Q2 K mg "LeafError" cLeafError)(C:Bt2 mg)(C7:mg "ValueError"=none):a4Y P w K mg base 1 f fd ["_law_error"] (a1t K cNoWeb cTooGreat cNoSet cTaken cTooMany cNoTie cApart cNoText cLeafError):=by
 refine F.okH a1C (λvs H Q E h=>?_) (λcdv A outer s H vs Q E hr h=>?_)
 ·walk_at "h"
 ·obtain⟨ea,D,b,rfl,he,hk,hb,q⟩:=h;have nd:=a1C.nd;have hu:=b3q hr
  refine⟨_,((C4 (i:=1) nd rfl (.inl rfl) (@J6 _ _ _ _ ((B0 (a2n K) (by rfl) C.isinstance bH ((pv 0)<*>((S1 rfl ZNoWeb.m (show D0 (V.ref _) _ from rfl))<*>A0)))<*>((B0 (a2n K) (by rfl) C.isinstance bH ((pv 0)<*>((S1 rfl ZTooGreat.m (show D0 (V.ref _) _ from rfl))<*>A0)))<*>((B0 (a2n K) (by rfl) C.isinstance bH ((pv 0)<*>((S1 rfl ZNoSet.m (show D0 (V.ref _) _ from rfl))<*>A0)))<*>((B0 (a2n K) (by rfl) C.isinstance bH ((pv 0)<*>((S1 rfl ZTaken.m (show D0 (V.ref _) _ from rfl))<*>A0)))<*>A0))))))<*
    ((C4 (i:=1) nd rfl (.inl rfl) (@M2 _ _ _ _ _ _ _ _ a1N (pv 1) (@J6 _ _ _ _ ((B0 (a2n K) (by rfl) C.isinstance bH ((pv 0)<*>((S1 rfl ZTooMany.m (show D0 (V.ref _) _ from rfl))<*>A0)))<*>((B0 (a2n K) (by rfl) C.isinstance bH ((pv 0)<*>((S1 rfl ZNoTie.m (show D0 (V.ref _) _ from rfl))<*>A0)))<*>((B0 (a2n K) (by rfl) C.isinstance bH ((pv 0)<*>((S1 rfl ZApart.m (show D0 (V.ref _) _ from rfl))<*>A0)))<*>A0))))))<*
    (@A2 _ _ _ (B9 (@M2 _ _ _ _ _ _ _ _ a1N (pv 1) (@J6 _ _ _ _ ((B0 (a2n K) (by rfl) C.isinstance bH ((pv 0)<*>((S1 rfl ZNoText.m (show D0 (V.ref _) _ from rfl))<*>A0)))<*>((B0 (a2n K) (by rfl) C.isinstance bH ((pv 0)<*>((S1 rfl ZLeafError.m (show D0 (V.ref _) _ from rfl))<*>A0)))<*>((B0 (a2n K) (by rfl) C.isinstance bH ((pv 0)<*>((a0Y (by rfl) C7 PyProof.Rows.Boot.«ValueError»)<*>A0)))<*>A0))))))))),?_⟩
  walk_at "rd";obtain⟨b1,b2,b3,b4,b5,b6,b7,b8,b9,b10⟩:=hb;have one:∀ {H':Hp} {c:Addr} {x:Bool} {Q:VK},H' ea=some (a7G ea D)->bF K (.ref D) (.ref c)=some x->(cD K c).isSome=true->Q (.bl x) H'->b3F K [.ref ea,.ref c] H' Q:=λ{H' c x Q} e k hc q=>⟨.ref ea,_,.exc e hk,.inl ⟨.ref c,.ref c,x,rfl,.inr ⟨c,rfl,rfl,hc⟩,k,q⟩⟩
  refine one he b1 ZNoWeb.k.is (one he b2 ZTooGreat.k.is (one he b3 ZNoSet.k.is (one he b4 ZTaken.k.is ⟨by decide,λp1 n1=>A8 n1 λH1 s1 e1=>?_⟩)));have he1:=s1 _ _ he;refine one he1 b5 ZTooMany.k.is (one he1 b6 ZNoTie.k.is (one he1 b7 ZApart.k.is ⟨by decide,λp2 n2=>A8 n2 λH2 s2 e2=>⟨p1,p2,_,_,rfl,rfl,s2 _ _ e1,e2,(show 4+3<=sizeLine by decide),λp3 n3=>A8 n3 λH3 s3 e3=>?_⟩⟩));have s23:=s2.trans s3;have he3:=s23 _ _ he1;refine one he3 b8 ZNoText.k.is (one he3 b9 ZLeafError.k.is ⟨.ref ea,_,.exc he3 hk,.inl ⟨.ty "ValueError",.type "ValueError",_,rfl,.inl ⟨_,rfl,rfl⟩,b10,⟨by decide,λp4 n4=>A8 n4 λH4 s4 e4=>⟨p3,p4,_,_,rfl,rfl,s4 _ _ e3,e4,(show 7+3<=sizeLine by decide),λp5 n5=>A8 n5 λH5 s5 e5=>?_⟩⟩⟩⟩);have s15:=(s23.trans s4).trans s5;exact q p5 H5 (s1.trans s15) ((s1.trans (s23.trans s4)).free n5) e5
def a9d:List V:=[.bl false,.bl false,.bl true,.bl false,.bl false,.bl false,.bl false,.bl false,.bl true,.bl true]
def a1s (K:ac)(tb:Addr):Sp:=λvs H Q _=>∃(w:Addr) (n:Int) (ts:⋯) (pp:Addr) (f:Int->Int) (ph:Addr) (hs:List Int) (pb:Addr) (bs:List Int),vs=[.ref w,.ref pp,.ref ph,.ref pb]/\N7 H w n ts/\N8 n ts/\n<=12/\H pp=some (.tup ((B7 0 n.toNat).map λv=>V.int (f v)))/\(∀ x,0<=f x/\f x<=1000)/\H ph=some (.tup (hs.map V.int))/\H pb=some (.tup (bs.map V.int))/\Y6 n hs bs/\I0 H tb ptQ 165 35 /\
 (Q1 n ts (C8 n bs)->∀(p pt:Addr) (v:V) (b1 b:List Int) (d1 d:PyData) (H':Hp),Kp tb H H'->I0 H' tb ptQ 165 35->H' p=some (.tup [.ref pt,v])->H' pt=some (.tup (b.map V.int))->Dt K H' v d->Bac n ts f hs bs (C8 n bs) b1 d1->Bac n ts f hs bs b1 b d->Q (.ref p) H') /\
 (¬ Q1 n ts (C8 n bs)->∀(l:Addr) (H':Hp),B5 H H'->H l=none->H' l=some (.lst a9d)->Q (.ref l) H')
theorem a1B:B8 ["_law_web_here","_law_prices_here","_law_held","_law_barred","_law_told","e"] ["_law_web_here","_law_prices_here","_law_held","_law_barred"] (A4 (top 68)):=by walk_at "s"
theorem a5q (F:Fun K "_law_told_set" "_law_told_set" (top 68) f fd)(B:Bt mg){tLm:Addr}{cNoWeb:Addr}(ZNoWeb:Q2 K mg "NoWeb" cNoWeb){cTooGreat:Addr}(ZTooGreat:Q2 K mg "TooGreat" cTooGreat){cNoSet:Addr}(ZNoSet:Q2 K mg "NoSet" cNoSet){cTaken:Addr}(ZTaken:Q2 K mg "Taken" cTaken){cTooMany:Addr}(ZTooMany:Q2 K mg "TooMany" cTooMany){cNoTie:Addr}(ZNoTie:Q2 K mg "NoTie" cNoTie){cApart:Addr}(ZApart:Q2 K mg "Apart" cApart){cNoText:Addr}(ZNoText:Q2 K mg "NoText" cNoText){cLeafError:Addr}(ZLeafError:Q2 K mg "LeafError" cLeafError)(D1:Df K mg "cheapest_set" st1 f1 fd1 ["web","prices","held","barred"])(G1:C0 P w K mg base (CX1 P w) 19 f1 fd1 ["web","prices","held","barred"] (a3Z K tLm cTooGreat cNoSet))(D2:Df K mg "_law_refusal" st2 f2 fd2 ["_law_error"])(G2:a4Y P w K mg base 1 f2 fd2 ["_law_error"] (a1t K cNoWeb cTooGreat cNoSet cTaken cTooMany cNoTie cApart cNoText cLeafError))(X1:gY K (.ref cNoSet) (.ref cLeafError)=some true)(X2:([cNoWeb,cTooGreat,cNoSet,cTaken,cTooMany,cNoTie,cApart,cNoText,cLeafError].map λa=>bF K (.ref cNoSet) (.ref a))=[some false,some false,some true,some false,some false,some false,some false,some false,some true])(X3:bF K (.ref cNoSet) (.type "ValueError")=some true):C0 P w K mg base CX0 20 f fd ["_law_web_here","_law_prices_here","_law_held","_law_barred"] (a1s K tLm):=by
 refine F.ok a1B (λvs H Q E h=>?_) (λcdv A outer s H vs Q E hr h=>?_)
 ·walk_at "h"
 ·obtain⟨w0,n,ts,pp,f,ph,hs,pb,bs,rfl,hw,hok,hn12,hpp,hf,hph,hpb,st,hL,q,q2⟩:=h;have nd:=a1B.nd;have hu:=E8 hr
  refine⟨_,((C4 (i:=4) nd rfl (.inl rfl) a5m)<*
    ((a8A (i:=5) rfl rfl nd rfl rfl (by rfl) ZLeafError.m (b0v (i:=4) nd rfl (.inl rfl) (b0B G1 D1 hr.m (λ_=>((pv 0)<*>((pv 1)<*>((pv 2)<*>((pv 3)<*>A0)))))))
     (λ_ _=>(@A2 _ _ _ (C4 (i:=4) nd rfl (.inl rfl) (b0C G2 D2 hr.m ((pv 5)<*>A0))))))<*
     (@A2 _ _ _ (B9 (pv 4))))),?_⟩
  simp only[L2.N4,st0,aA,ce,aw,ci,List.replicate,cK,cH,Nat.reduceAdd,Nat.reduceSub];walk_at "rd";refine⟨w0,n,ts,pp,f,ph,hs,pb,bs,rfl,hw,hok,hpp,hf,hph,hpb,st,hL,λ_ hB p pt v b1 b d1 d H' k L e1 e2 dt B1 B2=>q hB p pt v b1 b d1 d H' k L e1 e2 dt B1 B2,λhn=>∅,λ_ hB H1 s1=>⟨X1,λea C eC hea=>?_⟩⟩;cases eC;refine A8 hea λH2 s2 e2=>⟨ea,cNoSet,λi=>match i with | 0=>false | 1=>false | 2=>true | 3=>false | 4=>false | 5=>false | 6=>false | 7=>false | 8=>true | 9=>true,rfl,e2,ZNoSet.k,?_,λl H3 s3 n3 e3=>q2 hB l H3 ((s1.trans s2).trans s3) ((s1.trans s2).free n3) e3⟩
  simp only[aA,ce,List.cons.injEq,and_true] at X2;obtain⟨x1,x2,x3,x4,x5,x6,x7,x8,x9⟩:=X2;exact⟨x1,x2,x3,x4,x5,x6,x7,x8,x9,X3⟩
def b3e (H:Hp)(rp al me wl:Addr)(n:Int)(ts:⋯)(ls:List Int)(u:Int)(σ:St)(Hc:Hp):Prop:=∃(ov:Option V) (fs ws:List Int),σ=[some (.ref rp),some (.int u),some (.ref al),some (.ref me),some (.ref wl),ov]/\Y8 H Hc me wl fs ws/\a2i n ts (·∈ls) u fs ws/\2*(n.toNat-fs.length)+ws.length<=2*n.toNat
def b1g (H:Hp)(rp al me wl:Addr)(n:Int)(ts:⋯)(ls:List Int)(u v:Int)(m0:Nat)(j:Nat)(σ:St)(Hc:Hp):Prop:=∃(ov:Option V) (fs ws:List Int),σ=[some (.ref rp),some (.int u),some (.ref al),some (.ref me),some (.ref wl),ov]/\Y8 H Hc me wl fs ws/\Y7 n ts (·∈ls) u fs ws v j/\2*(n.toNat-fs.length)+ws.length<m0
theorem a4g:B8 ["_law_near_here","_law_start","_law_allowed","_law_found","_law_waiting","_law_other"] ["_law_near_here","_law_start","_law_allowed"] (A4 (top 56)):=by walk_at "s"
theorem a8Q (F:Fun K "_law_reach" "_law_reach" (top 56) f fd)(B:Bt mg):C0 P w K mg base CX0 1 f fd ["_law_near_here","_law_start","_law_allowed"] (a3S K):=by
 refine F.ok a4g (λvs H Q E h=>?_) (λcdv A outer s H vs Q E hr h=>?_)
 ·walk_at "h"
 ·obtain⟨rp,as,n,ts,al,ls,u,rfl,hR,hok,hn1,htl,hal,u0,u1,q⟩:=h;have nd:=a4g.nd;have hu:=E8 hr
  refine⟨_,((C4 (i:=3) nd rfl (.inl rfl) (a6x (a4v (pv 1) K9 a6s) rfl rfl (by simp) (by decide)))<*
    ((C4 (i:=4) nd rfl (.inl rfl) (@J6 _ _ _ _ ((pv 1)<*>A0)))<*
    ((a4t aX (E6 (b4D K hr.units) (pv 4) (@J6 _ _ _ _ A0) (E7 _))
     (@A2 _ _ _ (M8 aX rfl (J9 K ((pv 0)<|>(b2w K (pv 4)))) (A9 (i:=5) nd rfl (.inl rfl))
      (@A2 _ _ _ (@K4 _ _ _ _ _ _ _ _ (PW.pt (a0J (E6 (a0y K) (pv 5) (pv 2) (by walk_at "w")) (Z2 (V9 (Z5 hu (pv 5) (pv 3))))))
       ((Z4 hu (pv 3) (pv 5) K9 rfl)<*
       (@A2 _ _ _ (N5 (N6 K (pv 4) ((pv 5)<*>A0)))))
       E5)))))<*
     (@A2 _ _ _ (B9 (B0 (W9 K hr.hd) (by rfl) B.sorted dS ((pv 3)<*>A0))))))),?_⟩
  walk_at "rd";refine λme nme=>⟨A1,[(bp u,V.bl true)],rfl,jl rfl,?_⟩
  rw[b1Y];refine A8 nme λH1 s1 e1=>⟨by decide,λwl nwl=>A8 nwl λH2 s2 e2=>?_⟩
  have nw:H wl=none:=s1.free nwl;refine a3K (b3e H rp al me wl n ts ls u) (λ_ Hc=>srM n me wl Hc) ⟨none,[u],[u],rfl,⟨s1.trans s2,s2 _ _ e1,e2⟩,a2i.init u0 u1,by simp;omega⟩ ?_ (fun σ H Q Q' h ⟨x,e,z,q⟩=>⟨x,e,z,λp n=>let ⟨d1,d2,x1,x2,x3,x4,k,e2,q2⟩:=q p n;⟨d1,d2,x1,x2,x3,x4,k,e2,h _ _ q2⟩⟩);rintro σ Hc ⟨ov,fs,ws,rfl,sr,sh,hb⟩;refine⟨_,rfl,bf _,λpe ne=>A8 ne λHe se ee=>b4C (ns:=ws) (ms:=[]) (SqL.of (se _ _ sr.wait)) (SqL.of ee) ⟨_,rfl,R7 (λhne=>?_) λhe=>?_⟩⟩
  ·have hw0:ws≠[]:= ~~~hne
   obtain⟨ws',v,rfl⟩:=a6G hw0;have sre:=sr.mono se;obtain⟨hl1,sr1⟩:=sre.pop nw;have sh1:=sh.pop;have hm0:2*(n.toNat-fs.length)+ws'.length<srM n me wl Hc:=by rw[sr.mu,aI,bK];omega
   have hmb:srM n me wl Hc<=2*n.toNat:=by rw[sr.mu];exact hb
   obtain⟨v0,v1⟩:=sh1.rng v sh1.vin;obtain⟨a,a1,a2,a3,a4⟩:=hR.get v0 (M7 v0 v1);have top2:=sr1.same _ _ hR.top;refine⟨_,rfl,_,rfl,.inl ⟨rfl,_,SqL.of sre.wait⟩,wl,_,_,rfl,rfl,sre.wait,hl1,_,_,_,_,rfl,rfl,SqL.of top2,a2,_,rfl,⟨_,SqL.of (sr1.same _ _ a3)⟩,V2 (K:=K) (xs:=(nb ts v).map V.int) (b1g H rp al me wl n ts ls u v (srM n me wl Hc)) ⟨_,fs,ws',rfl,sr1,sh1,hm0⟩ ?_ ?_ ?_⟩
   ·rintro j σ Hd _ ⟨_,_,_,rfl,sr2,_⟩;exact SqL.of (sr2.same _ _ a3)
   ·rintro j w σ Hd hv ⟨ov,fs,ws,rfl,sr2,sh2,hm2⟩;rw[ah] at hv;cases hy0:(nb ts v)[j]? with
    | none=>rw[hy0] at hv;cases hv
    | some y =>
    rw[hy0] at hv;cases ak hv;have hfl:=G8 sh2.nd sh2.rng;walk_at "rd";have hal2:SqL K Hd al (ls.map V.int)\/SqT K Hd al (ls.map V.int):=hal.elim (λz=>.inl (sr2.same.seq z)) λz=>.inr (sr2.same.seqT z)
    refine a1Z hal2 ⟨_,rfl,R7 (λhA=>⟨_,a0f.k (k:=bp y) sr2.met,?_⟩) λhA=>⟨_,fs,ws,rfl,sr2,sh2.skip hy0 (.inl (~~~hA)),hm2⟩⟩;rw[V8];refine R7 (λhB=>?_) λhB=>⟨_,fs,ws,rfl,sr2,sh2.skip hy0 (.inr (~~~hB)),hm2⟩
    have hyl:y∈ls:= ~~~hA
    have hyf:y∉fs:= ~~~hB
    have sh3:=sh2.add hok hy0 hyl hyf;have hfl3:=G8 sh3.nd sh3.rng;rw[aI,bK] at hfl3;refine⟨_,V7.k (k:=bp y) sr2.met (T2 ∅),?_⟩;rw[Z3];have hwt:(upd Hd me (.dK (kvI (a0C fs y)))) wl=some (.lst (ws.map V.int)):=by rw[B3 sr2.ne.symm];exact sr2.wait
    have hwl:ws.length<=3000:=∅
    refine⟨.inl ⟨rfl,_,SqL.of hwt⟩,_,hwt,by rw[aa];exact E2 ∅,_,fs++[y],ws++[y],rfl,sr2.add nme nw hyf,sh3,?_⟩;rw[aI,aI,bK];omega
   ·rintro σ Hd ⟨ov,fs,ws,rfl,sr2,sh2,hm2⟩;rw[aa] at sh2;exact⟨⟨_,fs,ws,rfl,sr2,sh2.done (ao _),∅⟩,by rw[sr2.mu];exact hm2⟩
  ·have hw0:ws=[]:= ~~~he
   subst hw0;walk_at "rd";refine⟨fs,⟨by have:=G8 sh.nd sh.rng;omega,.inr (.inr ⟨_,se _ _ sr.met,a1V fs⟩)⟩,λns l pm hs nl=>A8 nl λH4 s4 e4=>?_⟩;have s3:=sr.same.trans se;refine q l ns H4 (s3.trans s4) (s3.free nl) e4 (R9 pm hs sh.nd) λx=>?_
   rw[pm.mem_iff];exact sh.fin x
def a3X (K:ac):Sp:=λvs H Q _=>∃(np:Addr) (as:List Addr) (n:Int) (ts:⋯) (pl:Addr) (us:List Int),vs=[.ref np,.ref pl]/\E4 H np as (J8 n ts)/\N8 n ts/\H pl=some (.lst (us.map V.int))/\us.Nodup/\(∀ x∈us,0<=x/\x<n)/\∀(b:Bool) (H':Hp),B5 H H'->(b=true↔Hng ts us)->Q (.bl b) H'
theorem a4o:B8 ["_law_near_here","_law_places"] ["_law_near_here","_law_places"] (A4 (top 57)):=by walk_at "s"
theorem a8Y (F:Fun K "_law_hang" "_law_hang" (top 57) f fd)(B:Bt mg)(D1:Df K mg "_law_reach" st1 f1 fd1 ["_law_near_here","_law_start","_law_allowed"])(G1:C0 P w K mg base CX0 1 f1 fd1 ["_law_near_here","_law_start","_law_allowed"] (a3S K)):C0 P w K mg base CX0 2 f fd ["_law_near_here","_law_places"] (a3X K):=by
 refine F.ok a4o (λvs H Q E h=>?_) (λcdv A outer s H vs Q E hr h=>?_)
 ·walk_at "h"
 ·obtain⟨np,as,n,ts,pl,us,rfl,hR,hok,hpl,hnd,hus,q⟩:=h;have nd:=a4o.nd;have hu:=E8 hr;refine⟨_,(@A2 _ _ _ (B9 (W0 (M4 a0Z (B0 (U7 K) (by rfl) B.len bi ((pv 1)<*>A0)) A7 (E7 _)) (X5 (M4 X6 (B0 (U7 K) (by rfl) B.len bi ((B4 G1 D1 hr.m ((pv 0)<*>(((pv 1)<|>A7)<*>((pv 1)<*>A0))))<*>A0)) (B0 (U7 K) (by rfl) B.len bi ((pv 1)<*>A0)) (E7 _)))))),?_⟩;walk_at "rd";have h3:=hok.n3;have h60:=hok.n60;have hl:=hok.len;have hul:=G8 hnd hus;refine⟨_,.inl (SqL.of hpl),?_⟩;cases us with
  | nil =>
   rw[if_neg (by simp)];exact q false H (B5.refl H) ⟨λh=>(by cases h),λh=>absurd rfl h.1⟩
  | cons u r =>
   rw[if_pos (by simp)];obtain⟨u0,u1⟩:=hus u (by simp);have hat:atI ((u::r).map V.int) 0=some (.int u):=by show atI (V.int u::r.map V.int) 0=_;unfold atI ixN;simp
   refine⟨_,SqL.of hpl,_,hat,np,as,n,ts,pl,u::r,u,rfl,hR,hok.rng,∅,∅,.inl (SqL.of hpl),u0,u1,λlt zs H5 s5 n5 e5 zsr hzs=>?_⟩;refine⟨lt,rfl,_,.inl (SqL.of e5),_,.inl (SqL.of (s5 _ _ hpl)),q _ H5 s5 ?_⟩;have hsub:zs ⊆ u::r:=λx hx=>((hzs x).mp hx).mem (by simp)
   rw[decide_eq_true_iff,aa,aa];constructor
   ·intro e;have:=a5y (C1 zsr) hsub ∅ hnd;exact a2a hok.rng (by simp) λy hy=>(hzs y).mp (this y hy)
   ·intro h;have h1:=X7 (C1 zsr) hsub;have h2:=X7 hnd (l:=zs) λx hx=>(hzs x).mpr (h.2 u (by simp) x hx)
    omega
def a6b (K:ac):Sp:=λvs H Q _=>∃(np:Addr) (as:List Addr) (n:Int) (ts:⋯) (pl:Addr) (us:List Int),vs=[.ref np,.ref pl]/\E4 H np as (J8 n ts)/\N8 n ts/\(SqL K H pl (us.map V.int)\/SqT K H pl (us.map V.int))/\us.length<=60 /\
 ∀(p:Addr) (zs:List Int) (H':Hp),B5 H H'->H p=none->H' p=some (.lst (zs.map V.int))->zs.Pairwise (·<·)->(∀ x,x∈zs↔0<=x/\x<n/\x∉us/\∃ y∈us,y∈nb ts x)->Q (.ref p) H'
def a9z (H1:Hp)(np pl lp:Addr)(ts:⋯)(us L:List Int)(i:Nat)(τ:St)(Hc:Hp):Prop:=(∃ v,τ=[v,some (V.ref np),some (V.ref pl)])/\B5 H1 Hc/\Hc lp=some (.lst (((L.take i).filter λx=>decide (∃ y∈us,y∈nb ts x)).map V.int))
theorem a6n:B8 ["_law_near_here","_law_places","_law_others"] ["_law_near_here","_law_places"] (A4 (top 58)):=by walk_at "s"
theorem b0P (F:Fun K "_law_touched" "_law_touched" (top 58) f fd)(B:Bt mg):C0 P w K mg base CX0 1 f fd ["_law_near_here","_law_places"] (a6b K):=by
 refine F.ok a6n (λvs H Q E h=>?_) (λcdv A outer s H vs Q E hr h=>?_)
 ·walk_at "h"
 ·obtain⟨np,as,n,ts,pl,us,rfl,hR,hok,hpl,hul,q⟩:=h;have nd:=a6n.nd;have hu:=E8 hr
  refine⟨_,((Q5 (i:=2) (own:=["_law_place"]) (fr:=[("_law_places",1)]) rfl nd rfl rfl (by walk_at "w") (by walk_at "w") (E3 rfl rfl C6) (N0 (by rfl) B.range ((B0 (U7 K) (by rfl) B.len bi ((pv 0)<*>A0))<*>A0)) ⟨λ_ _ _ _=>⟨(A9 (i:=0) (show bc (["_law_place","_law_places"]:List Str) by decide +kernel) rfl (.inl rfl)),(S0 (E6 (W1 K) (pv 0) (pv 1) (by walk_at "w"))),(pv 0)⟩⟩)<*
    (@A2 _ _ _ (B9 (G0 (own:=["_law_place"]) (fr:=[("_law_near_here",0),("_law_places",1)]) rfl (by walk_at "w") (E3 rfl rfl (E3 rfl rfl C6)) (J9 K (pv 2)) ⟨λ_ _ _ _=>⟨(A9 (i:=0) (show bc (["_law_place","_law_near_here","_law_places"]:List Str) by decide +kernel) rfl (.inl rfl)),(S0 (E6 (b4D K hr.units) (G0 (own:=["_law_k"]) (fr:=[("_law_places",2)]) rfl (by walk_at "w") (E3 rfl rfl C6) (J9 K ((pv 1)<|>(pv 0))) ⟨λ_ _ _ _=>⟨(A9 (i:=0) (show bc (["_law_k","_law_places"]:List Str) by decide +kernel) rfl (.inl rfl)),(S0 (E6 (a0y K) (pv 0) (pv 1) (by walk_at "w"))),(pv 0)⟩⟩) (@J6 _ _ _ _ A0) (E7 _))),(pv 0)⟩⟩)))),?_⟩
  walk_at "rd";have h3:=hok.n3;have h60:=hok.n60;have hl:=hok.len;have hal:(as.map V.ref).length=n.toNat:=by rw[aa,hR.len,J3]
  refine⟨_,.inl (SqL.of hR.top),∅,∅,λlf nlf=>?_⟩;rw[hal,bD];have hp':∀ {Hx:Hp},B5 H Hx->SqL K Hx pl (us.map V.int)\/SqT K Hx pl (us.map V.int):=λs=>hpl.imp (λh=>s.seq h) (λh=>s.seqT h)
  refine a0O (λx=>!decide (x∈us)) V.int ∅ ?_ ?_
  ·intro x x0 x1 v ys R hy hR1 hR2;walk_at "rd";exact Z6 (hp' ((B5.refl H).upd nlf)) ⟨_,rfl,S2 rfl hy ∅ hR1 hR2⟩
  ·generalize hL:((B7 0 n.toNat).filter λx=>!decide (x∈us))=L;have hLm:∀ x,x∈L↔(0<=x/\x<n)/\x∉us:=λx=>by rw[<- hL,aM,E9];simp;omega
   have hLl:L.length<=n.toNat:=by rw[<- hL];exact aV (bL _ _) (by rw[B6];omega)
   refine A8 nlf λH1 s1 e1=>⟨⟨_,SqL.of e1⟩,λlp nlp=>U4 (K:=K) (xs:=L.map V.int) (a9z H1 np pl lp ts us L) ⟨⟨_,rfl⟩,(B5.refl H1).upd nlp,by rw[A1];rfl⟩ ?_ ?_ ?_⟩
   ·rintro i τ Hc _ ⟨_,sc,_⟩;exact SqL.of (sc _ _ e1)
   ·rintro i v τ Hc hv ⟨⟨v',rfl⟩,sc,hc⟩ _;rw[ah] at hv;cases hx0:L[i]? with
    | none=>rw[hx0] at hv;cases hv
    | some x =>
    rw[hx0] at hv;cases ak hv;have hx:=(hLm x).mp (aF hx0);have hil:=(ai.mp hx0).1;have s1c:=s1.trans sc;obtain⟨a,_,g2,g3,_⟩:=(hR.same s1c).get hx.1.1 (M7 hx.1.1 hx.1.2);have hnl:=a0m (ts:=ts) x;walk_at "rd";refine⟨_,SqL.of (s1c _ _ hR.top),_,g2,a,rfl,⟨_,SqL.of g3⟩,λlq nlq=>Y4 V.int (λk=>decide (k∈us)) V.int ∅ (SqL.of g3) nlq ?_ ?_⟩
    ·intro y hy v ys R hyl hR1 hR2;walk_at "rd";exact a1Z (hp' (s1c.upd (s1c.free nlq))) ⟨_,rfl,S2 rfl hyl ∅ hR1 hR2⟩
    ·refine A8 nlq λH2 s2 e2=>⟨by decide,λlr nlr=>A8 nlr λH3 s3 e3=>b4C (ms:=[]) (SqL.of (s3 _ _ e2)) (SqL.of e3) ⟨_,rfl,?_⟩⟩
     have hf:((nb ts x).filter λk=>decide (k∈us))=[]↔¬ ∃ y∈us,y∈nb ts x:=by
      rw[List.filter_eq_nil_iff];constructor
      ·rintro h ⟨y,hy,hyx⟩;have:=h y hyx;simp at this;exact this hy
      ·intro h y hy;simp;intro k;exact h ⟨y,k,hy⟩
     have s23:=s2.trans s3;have hc3:=s23 _ _ hc;have nlp1:H1 lp=none:=nlp;by_cases hh:∃ y∈us,y∈nb ts x
     ·rw[if_pos (by rw[decide_eq_false (λk=>hf.mp k hh)];decide)];refine⟨_,hc3,?_,⟨_,rfl⟩,(sc.trans s23).upd nlp1,?_⟩
      ·rw[aa];exact E2 (aV (bL _ _) (by rw[bn];omega))
      ·rw[A1,M3 hx0,gC,cP (~~~hh),aE];rfl
     ·rw[if_neg (by rw[decide_eq_true (hf.mpr hh)];decide)];refine⟨⟨_,rfl⟩,sc.trans s23,?_⟩;rw[M3 hx0,gC,cQ (~~~hh),List.filter_nil,bO];exact hc3
   ·rintro τ Hc ⟨_,sc,hc⟩;rw[aa,aW] at hc;refine q lp _ Hc (s1.trans sc) (s1.free nlp) hc ?_ λx=>?_
    ·rw[<- hL];exact P2.sublist jB
    ·rw[aM,hLm,decide_eq_true_iff];constructor
     ·rintro⟨⟨⟨a,b⟩,c⟩,d⟩;exact⟨a,b,c,d⟩
     ·rintro⟨a,b,c,d⟩;exact⟨⟨⟨a,b⟩,c⟩,d⟩
def a3V (K:ac):Sp:=λvs H Q _=>∃(np:Addr) (as:List Addr) (n:Int) (ts:⋯) (pl:Addr) (us:List Int),vs=[.ref np,.ref pl]/\E4 H np as (J8 n ts)/\N8 n ts/\H pl=some (.lst (us.map V.int))/\us.Nodup/\(∀ x∈us,0<=x/\x<n)/\∀(b:Bool) (H':Hp),B5 H H'->(b=true↔Q1 n ts us)->Q (.bl b) H'
theorem a4m:B8 ["_law_near_here","_law_places"] ["_law_near_here","_law_places"] (A4 (top 59)):=by walk_at "s"
theorem a8W (F:Fun K "_law_is_set" "_law_is_set" (top 59) f fd)(B:Bt mg)(D1:Df K mg "_law_hang" st1 f1 fd1 ["_law_near_here","_law_places"])(G1:C0 P w K mg base CX0 2 f1 fd1 ["_law_near_here","_law_places"] (a3X K))(D2:Df K mg "_law_touched" st2 f2 fd2 ["_law_near_here","_law_places"])(G2:C0 P w K mg base CX0 1 f2 fd2 ["_law_near_here","_law_places"] (a6b K)):C0 P w K mg base CX0 3 f fd ["_law_near_here","_law_places"] (a3V K):=by
 refine F.ok a4m (λvs H Q E h=>?_) (λcdv A outer s H vs Q E hr h=>?_)
 ·walk_at "h"
 ·obtain⟨np,as,n,ts,pl,us,rfl,hR,hok,hpl,hnd,hus,q⟩:=h;have nd:=a4m.nd;have hu:=E8 hr;refine⟨_,(@A2 _ _ _ (B9 (W0 (B4 G1 D1 hr.m ((pv 0)<*>((pv 1)<*>A0))) (X5 (M4 X6 ((B0 (U7 K) (by rfl) B.len bi ((B4 G2 D2 hr.m ((pv 0)<*>((pv 1)<*>A0)))<*>A0))|||(B0 (U7 K) (by rfl) B.len bi ((pv 1)<*>A0))) (B0 (U7 K) (by rfl) B.len bi ((pv 0)<*>A0)) (E7 _)))))),?_⟩;walk_at "rd";have h3:=hok.n3;have h60:=hok.n60;have hl:=hok.len;have hul:=G8 hnd hus;have hal:(as.map V.ref).length=n.toNat:=by rw[aa,hR.len,J3]
  refine⟨np,as,n,ts,pl,us,rfl,hR,hok,hpl,hnd,hus,λb H1 s1 hb=>⟨b,rfl,?_⟩⟩;cases b with
  | false =>
   rw[if_neg (by decide)];exact q false H1 s1 ⟨λh=>(by cases h),λh=>by cases hb.mpr h.1⟩
  | true =>
   rw[if_pos rfl];refine⟨np,as,n,ts,pl,us,rfl,hR.same s1,hok,.inl (SqL.of (s1 _ _ hpl)),∅,λp zs H2 s2 n2 e2 hz hm=>?_⟩;have s12:=s1.trans s2;refine⟨p,rfl,_,.inl (SqL.of e2),_,.inl (SqL.of (s12 _ _ hpl)),_,.inl (SqL.of (s12 _ _ hR.top)),q _ H2 s12 ?_⟩;have hbi:=a4T hnd hus ∅ hz hm;rw[decide_eq_true_iff,hal,aa,aa,bx ∅,hbi];exact⟨λh=>⟨hb.mp rfl,h⟩,λh=>h.2⟩
structure b5O (H:Hp)(n:Int)(ts:⋯)(p:Addr)(ps:List (Addr×List Int)):Prop where
 ll:W5 H p ps
 len:ps.length<=5000
 ok:∀ x∈ps,Q1 n ts x.2/\x.2.Pairwise (·<·)/\∀ y∈x.2,0<=y/\y<n
 all:∀ us:List Int,us.Pairwise (·<·)->(∀ y∈us,0<=y/\y<n)->Q1 n ts us->∃ x∈ps,x.2=us
def a1x (K:ac):Sp:=λvs H Q _=>∃(np:Addr) (as:List Addr) (n:Int) (ts:⋯),vs=[.ref np]/\E4 H np as (J8 n ts)/\N8 n ts/\n<=12/\∀(p:Addr) (ps:List (Addr×List Int)) (H':Hp),B5 H H'->H p=none->b5O H' n ts p ps->Q (.ref p) H'
def b3l (H:Hp)(np fo:Addr)(n:Int)(ts:⋯)(i:Nat)(σ:St)(Hc:Hp):Prop:=∃(c d:Option V) (ps:List (Addr×List Int)),σ=[some (.ref np),some (.ref fo),c,d]/\B5 H Hc/\W5 Hc fo ps/\ps.length<=i/\(∀ x∈ps,Q1 n ts x.2/\x.2.Pairwise (·<·)/\∀ y∈x.2,0<=y/\y<n)/\∀ m:Nat,1<=m->m<i+1->Q1 n ts (U9 n m)->∃ x∈ps,x.2=U9 n m
theorem a1I:B8 ["_law_near_here","_law_found","_law_number","_law_places"] ["_law_near_here"] (A4 (top 60)):=by walk_at "s"
theorem a5x (F:Fun K "_law_all_sets" "_law_all_sets" (top 60) f fd)(B:Bt mg)(D1:Df K mg "_law_is_set" st1 f1 fd1 ["_law_near_here","_law_places"])(G1:C0 P w K mg base CX0 3 f1 fd1 ["_law_near_here","_law_places"] (a3V K)):C0 P w K mg base CX0 4 f fd ["_law_near_here"] (a1x K):=by
 refine F.ok a1I (λvs H Q E h=>?_) (λcdv A outer s H vs Q E hr h=>?_)
 ·walk_at "h"
 ·obtain⟨np,as,n,ts,rfl,hR,hok,hn,q⟩:=h;have nd:=a1I.nd;have hu:=E8 hr
  refine⟨_,((C4 (i:=1) nd rfl (.inl rfl) (@J6 _ _ _ _ A0))<*
    ((M8 aX rfl (a0K (by rfl) B.range (A7<*>((@M2 _ _ _ _ _ _ _ _ b2G A7 (B0 (U7 K) (by rfl) B.len bi ((pv 0)<*>A0)))<*>A0))) (A9 (i:=2) nd rfl (.inr rfl))
     ((Q5 (i:=3) (own:=["_law_place"]) (fr:=[("_law_number",2)]) rfl nd rfl rfl (by walk_at "w") (by walk_at "w") (E3 rfl rfl C6) (N0 (by rfl) B.range ((B0 (U7 K) (by rfl) B.len bi ((pv 0)<*>A0))<*>A0)) ⟨λ_ _ _ _=>⟨(A9 (i:=0) (show bc (["_law_place","_law_number"]:List Str) by decide +kernel) rfl (.inl rfl)),(S0 (E6 X6 (@M2 _ _ _ _ _ _ _ _ b2M (@M2 _ _ _ _ _ _ _ _ b2F (pv 1) (pv 0)) A7) A7 (E7 _))),(pv 0)⟩⟩)<*
     (@A2 _ _ _ (@K4 _ _ _ _ _ _ _ _ (P6 (B4 G1 D1 hr.m ((pv 0)<*>((pv 3)<*>A0))))
      (@A2 _ _ _ (N5 (N6 K (pv 1) ((F0 (S6 K) (by rfl) B.tuple cO ((pv 3)<*>A0))<*>A0))))
      E5))))<*
     (@A2 _ _ _ (B9 (pv 1))))),?_⟩
  walk_at "rd";have h3:=hok.n3;have h60:=hok.n60;have hl:=hok.len;have hal:(as.map V.ref).length=n.toNat:=by rw[aa,hR.len,J3]
  refine⟨by decide,λfo nfo=>A8 nfo λH1 s1 e1=>?_⟩;rw[a0u];walk_at "rd";have hN:(1*2 ^ (((as.map V.ref).length:Nat):Int).toNat:Int)=((2 ^ n.toNat:Nat):Int):=by rw[hal,bD,Int.one_mul];simp
  have hN2:2 ^ n.toNat<=4096:=Nat.pow_le_pow_right (n:=2) (j:=12) (by decide) ∅;refine⟨_,.inl (SqL.of (s1 _ _ hR.top)),⟨∅,∅,by decide⟩,_,_,⟨rfl,rfl⟩,?_⟩;rw[hN];generalize hM:2 ^ n.toNat=M at hN2;refine⟨⟨by decide,by decide,∅,∅⟩,R8 (lo:=1) (n:=((M:Int)-1).toNat) (b3l H np fo n ts) ⟨none,none,[],rfl,s1,⟨e1,λx hx=>(by cases hx)⟩,ao _,λx hx=>(by cases hx),λm h1 h2=>∅⟩ ?_ ?_⟩
  ·rintro i σ Hc hi ⟨c,d,ps,rfl,sc,L,hpl,hok1,hall⟩;walk_at "rd";refine⟨_,.inl (SqL.of (sc _ _ hR.top)),∅,∅,λlp nlp=>?_⟩;rw[hal,bD];refine a0O (λx=>decide (eJ ((1+(i:Int)) / 2 ^ x.toNat) 1=1)) V.int ∅ ?_ ?_
   ·intro x x0 x1 v ys R hy hR1 hR2;walk_at "rd";exact⟨x0,S2 (by simp) hy ∅ hR1 hR2⟩
   ·have eb:((B7 0 n.toNat).filter λx=>decide (eJ ((1+(i:Int)) / 2 ^ x.toNat) 1=1))=U9 n ((i+1:Nat):Int):=by
     have:(1+(i:Int))=((i+1:Nat):Int):=∅
     rw[this];rfl
    rw[eb];refine A8 nlp λH2 s2 e2=>?_
    have hbp:(U9 n ((i+1:Nat):Int)).Pairwise (·<·):=P2;have hbr:∀ y∈U9 n ((i+1:Nat):Int),0<=y/\y<n:=λy hy=>by have:=a1Q.mp hy;exact⟨this.1,this.2.1⟩
    refine⟨np,as,n,ts,lp,_,rfl,hR.same (sc.trans s2),hok,e2,C1 hbp,hbr,λb H3 s3 hb=>⟨b,rfl,?_⟩⟩;have s13:=(sc.trans s2).trans s3;have L3:W5 H3 fo ps:=L.tp (s2.trans s3).tp ((s2.trans s3) _ _ L.top);cases b with
    | false =>
     rw[if_neg (by decide)];refine⟨_,_,ps,rfl,s13,L3,∅,hok1,λm h1 h2 hB=>?_⟩;rcases bN m (i+1) with h | h
     ·exact hall m h1 h hB
     ·cases (show m=i+1 by omega);cases hb.mpr hB
    | true =>
     rw[if_pos rfl];refine⟨.inl ⟨rfl,_,SqL.of L3.top⟩,_,.inl ⟨SqL.of (s3 _ _ e2),λlt nlt=>A8 nlt λH4 s4 e4=>?_⟩⟩;have L4:W5 H4 fo ps:=L3.tp s4.tp (s4 _ _ L3.top);refine⟨_,L4.top,by rw[aa];exact E2 ∅,_,_,ps++[(lt,U9 n ((i+1:Nat):Int))],rfl,(s13.trans s4).upd nfo,L4.snoc e4,by rw[aI,bK];omega,λx hx=>?_,λm h1 h2 hB=>?_⟩
     ·rcases aj.mp hx with hx | hx
      ·exact hok1 x hx
      ·rw[aq.mp hx];exact⟨hb.mp rfl,hbp,hbr⟩
     ·rcases bN m (i+1) with h | h
      ·obtain⟨x,hx,e⟩:=hall m h1 h hB;exact⟨x,aj.mpr (.inl hx),e⟩
      ·cases (show m=i+1 by omega);exact⟨_,aj.mpr (.inr (aq.mpr rfl)),rfl⟩
  ·rintro σ Hc ⟨c,d,ps,rfl,sc,L,hpl,hok1,hall⟩;refine⟨_,rfl,q fo ps Hc sc nfo ⟨L,∅,hok1,λus hs hr hB=>?_⟩⟩;obtain⟨m,m1,m2,em⟩:=b0a ∅ hs hr hB.1.1;obtain⟨x,hx,e⟩:=hall m m1 ∅ (by rw[em];exact hB);exact⟨x,hx,e.trans em⟩
def a3W (K:ac):Sp:=λvs H Q _=>∃(x lo hi:Int),vs=[.int x,.int lo,.int hi]/\Q (.bl (decide (lo<=x/\x<=hi))) H
theorem a4n:B8 ["_law_thing","_law_least","_law_most"] ["_law_thing","_law_least","_law_most"] (A4 (top 61)):=by walk_at "s"
theorem a8X (F:Fun K "_law_is_int" "_law_is_int" (top 61) f fd)(B:Bt mg)(C:Bt2 mg):C0 P w K mg base CX0 1 f fd ["_law_thing","_law_least","_law_most"] (a3W K):=by
 refine F.ok a4n (λvs H Q E h=>?_) (λcdv A outer s H vs Q E hr h=>?_)
 ·walk_at "h"
 ·obtain⟨x,lo,hi,rfl,q⟩:=h;have nd:=a4n.nd;have hu:=E8 hr;refine⟨_,(@A2 _ _ _ (B9 (W0 (B0 (a5C K) (by rfl) C.isinstance bH ((pv 0)<*>((a0Y (by rfl) B.int jZ)<*>A0))) (W0 (a8C (B0 (a5C K) (by rfl) C.isinstance bH ((pv 0)<*>((a0Y (by rfl) C.bool boot_bool)<*>A0)))) (X5 (a8H a6A a6A (pv 1) (pv 0) (pv 2))))))),?_⟩;walk_at "rd";refine⟨_,_,⟨rfl,rfl⟩,_,.int x,true,rfl,?_⟩;rw[if_pos rfl];refine⟨_,_,⟨rfl,rfl⟩,_,.int x,false,rfl,?_⟩;rw[if_pos (show (!false)=true from rfl)];by_cases h1:lo<=x
  ·rw[if_pos (~~~h1)];have:decide (lo<=x/\x<=hi)=decide (x<=hi):=by simp[h1]
   rw[this] at q;exact q
  ·rw[if_neg (~~~h1)];have:decide (lo<=x/\x<=hi)=false:=by simp[h1]
   rw[this] at q;exact q
def a0V (K:ac):Sp:=λvs H Q _=>∃(p:Addr) (us:List Int) (n:Int),vs=[.ref p,.int n]/\n<=63/\H p=some (.tup (us.map V.int))/\us.Pairwise (·<·)/\(∀ x∈us,0<=x/\x<n)/\us.length<300 /\
 ∀ H',B5 H H'->Q (.bl true) H'
def b3i (H:Hp)(p2:Addr)(n:Int)(i:Nat)(τ:St)(Hc:Hp):Prop:=∃ c:Option V,τ=[c,some (.int n)]/\B5 H Hc/\Hc p2=some (.lst ((List.replicate i true).map V.bl))
theorem a0X:B8 ["_law_thing","_law_many"] ["_law_thing","_law_many"] (A4 (top 62)):=by walk_at "s"
theorem a4y (F:Fun K "_law_is_places" "_law_is_places" (top 62) f fd)(B:Bt mg)(D1:Df K mg "_law_is_int" st1 f1 fd1 ["_law_thing","_law_least","_law_most"])(G1:C0 P w K mg base CX0 1 f1 fd1 ["_law_thing","_law_least","_law_most"] (a3W K))(C:Bt2 mg):C0 P w K mg base CX0 2 f fd ["_law_thing","_law_many"] (a0V K):=by
 refine F.ok a0X (λvs H Q E h=>?_) (λcdv A outer s H vs Q E hr h=>?_)
 ·walk_at "h"
 ·obtain⟨p,us,n,rfl,h63,hp,hrs,hus,hl,q⟩:=h;have nd:=a0X.nd;have hu:=E8 hr
  refine⟨_,((@K4 _ _ _ _ _ _ _ _ (PW.pt (a2Q (S7 (P6 (B0 (a5C K) (by rfl) C.isinstance bH ((pv 0)<*>((a0Y (by rfl) B.tuple cO)<*>A0))))) (a1M (S7 (P6 (B0 (b4U K hr.hd) (by rfl) C.all boot_all ((G0 (own:=["_law_one"]) (fr:=[("_law_many",1)]) rfl (by walk_at "w") (E3 rfl rfl C6) (K6 K (pv 0)) ⟨λ_ _ _ _=>⟨(A9 (i:=0) (show bc (["_law_one","_law_many"]:List Str) by decide +kernel) rfl (.inl rfl)),J2,(B4 G1 D1 hr.m ((pv 0)<*>(A7<*>(((pv 1)^^^A7)<*>A0))))⟩⟩)<*>A0)))))))
     (@A2 _ _ _ (B9 K9))
     E5)<*
     (@A2 _ _ _ (B9 (M4 (a7H K hr.units) (F0 (a9m K) (by rfl) B.list boot_list ((pv 0)<*>A0)) (a5k K hr.hd (by rfl) B.sorted dS (by rfl) C.set boot_set ((pv 0)<*>A0)) (E7 _))))),?_⟩
  walk_at "rd";refine⟨_,_,⟨rfl,rfl⟩,_,.tup hp,true,rfl,?_⟩;rw[if_neg (by decide)];refine⟨⟨_,SqT.of hp⟩,λp2 n2=>a5B (K:=K) (xs:=us.map V.int) (b3i H p2 n) ⟨none,rfl,(B5.refl H).upd n2,A1⟩ ?_ ?_ ?_⟩
  ·rintro i τ Hc _ ⟨c,rfl,sc,_⟩;exact SqT.of (sc _ _ hp)
  ·rintro i v τ Hc hv ⟨c,rfl,sc,hc⟩;rw[ah] at hv;cases hx0:us[i]? with
   | none=>rw[hx0] at hv;cases hv
   | some x =>
   rw[hx0] at hv;cases ak hv;have hil:=(ai.mp hx0).1;obtain⟨x0,x1⟩:=hus x (aF hx0);walk_at "rd";refine⟨x,0,n-1,rfl,?_⟩;have e:decide (0<=x/\x<=n-1)=true:=by simp;omega
   rw[e];refine⟨_,hc,by rw[aa,eT];exact E2 ∅,_,rfl,sc.upd n2,?_⟩;rw[A1,gh,aE];rfl
  ·rintro τ H2 ⟨c,rfl,sc,hc⟩;refine⟨_,SqL.of hc,?_⟩;rw[if_neg (by simp)];refine⟨_,.inr (SqT.of (sc _ _ hp)),λl nl=>A8 nl λH3 s3 e3=>⟨us,.inr (SqT.of (s3 _ _ (sc _ _ hp))),hl,(λx hx=>by have:=hus x hx;omega),λns' l1 h1 h2 n1=>A8 n1 λH4 s4 e4=>?_⟩⟩;cases Q8 h1 hrs h2;refine b3v (SqL.of (s4 _ _ e3)) (SqL.of e4) ?_;rw[decide_eq_true rfl];exact q H4 ((sc.trans s3).trans s4)
def a3R:Sp:=λvs H Q _=>∃(d:Addr) (n:Int),vs=[.ref d,.int n]/\P4 H d/\0<=n/\n<=60 /\
 ∀(p p1 p2:Addr) (us bs:List Int) (H':Hp),Kp d H H'->P4 H' d->H p=none->H p1=none->H p2=none->H' p=some (.tup [.ref p1,.ref p2])->H' p1=some (.tup (us.map V.int))->H' p2=some (.tup (bs.map V.int))->Y6 n us bs->Q (.ref p) H'
def Z9 (H:Hp)(d h b:Addr)(n way:Int)(i:Nat)(σ:St)(Hc:Hp):Prop:=∃(pv cv:Option V) (us bs:List Int),σ=[some (.ref d),some (.int n),some (.ref h),some (.ref b),some (.int way),pv,cv]/\Kp d H Hc/\P4 Hc d/\Hc h=some (.lst (us.map V.int))/\Hc b=some (.lst (bs.map V.int))/\Y6 i us bs
theorem a4f:B8 ["_law_deck_here","_law_places","_law_held","_law_barred","_law_way","_law_place","_law_cell"] ["_law_deck_here","_law_places"] (A4 (top 63)):=by walk_at "s"
theorem a8P (F:Fun K "_law_state" "_law_state" (top 63) f fd)(B:Bt mg)(D1:Df K mg "_law_next" st1 f1 fd1 ["_law_deck_here"])(G1:C0 P w K mg base CX0 1 f1 fd1 ["_law_deck_here"] Z0):C0 P w K mg base CX0 2 f fd ["_law_deck_here","_law_places"] a3R:=by
 refine F.ok a4f (λvs H Q E h=>?_) (λcdv A outer s H vs Q E hr h=>?_)
 ·walk_at "h"
 ·obtain⟨d,n,rfl,hd,hn0,hn1,q⟩:=h;have nd:=a4f.nd;have hu:=E8 hr
  refine⟨_,((C4 (i:=2) nd rfl (.inl rfl) (@J6 _ _ _ _ A0))<*
    ((C4 (i:=3) nd rfl (.inl rfl) (@J6 _ _ _ _ A0))<*
    ((C4 (i:=4) nd rfl (.inl rfl) ((B4 G1 D1 hr.m ((pv 0)<*>A0))&&&A7))<*
    ((M8 aX rfl (N0 (by rfl) B.range ((pv 1)<*>A0)) (A9 (i:=5) nd rfl (.inl rfl))
     ((C4 (i:=6) nd rfl (.inl rfl) (B4 G1 D1 hr.m ((pv 0)<*>A0)))<*
     (@A2 _ _ _ (@K4 _ _ _ _ _ _ _ _ (PW.pt (a0J (E6 X6 ((pv 6)&&&A7) A7 (E7 _)) (Z2 (E6 a0Z (pv 4) A7 (E7 _)))))
      (@A2 _ _ _ (N5 (N6 K (pv 2) ((pv 5)<*>A0))))
      (@A2 _ _ _ (@K4 _ _ _ _ _ _ _ _ (PW.pt (a0J (E6 X6 ((pv 6)&&&A7) A7 (E7 _)) (Z2 (E6 a6z (pv 4) A7 (E7 _)))))
       (@A2 _ _ _ (N5 (N6 K (pv 3) ((pv 5)<*>A0))))
       E5))))))<*
     (@A2 _ _ _ (B9 (@K3 _ _ _ _ _ ((F0 (S6 K) (by rfl) B.tuple cO ((pv 2)<*>A0))<*>((F0 (S6 K) (by rfl) B.tuple cO ((pv 3)<*>A0))<*>A0))))))))),?_⟩
  walk_at "rd";refine⟨by decide,λh nh=>A8 nh λH1 s1 e1=>⟨by decide,λb nb=>A8 nb λH2 s2 e2=>?_⟩⟩;have d2:=hd.same (s1.trans s2);have hnd:h≠d:=hd.ne nh;have bnd:b≠d:=(hd.same s1).ne nb;have hbn:h≠b:=C2 e1 nb;have nb0:=s1.free nb;refine O0 d2 λz H3 k3 d3 e3=>⟨z,rfl,by decide,?_⟩
  refine⟨_,rfl,n,rfl,∅,∅,R8 (lo:=0) (n:=n.toNat) (Z9 H d h b n (z % 4)) ⟨none,none,[],[],rfl,((s1.trans s2).kp).trans k3,d3,k3 _ _ hnd (s2 _ _ e1),k3 _ _ bnd e2,⟨.nil,.nil,λx hx=>(by cases hx),λx hx=>(by cases hx),λx hx=>(by cases hx)⟩⟩ ?_ ?_⟩
  ·rintro i σ Hc hi ⟨pv,cv,us,bs,rfl,kc,dc,eh,eb,ok⟩;have hul:=G8 (C1 ok.ul) ok.ur;have hbl:=G8 (C1 ok.bl) ok.br;walk_at "rd";refine O0 dc λz2 H4 k4 d4 e4=>?_
   have eh4:=k4 _ _ hnd eh;have eb4:=k4 _ _ bnd eb;have gu:Y6 ((i+1:Nat):Int) us bs:=⟨ok.ul,ok.bl,λx hx=>by have:=ok.ur x hx;omega,λx hx=>by have:=ok.br x hx;omega,ok.ap⟩
   have hpw:∀ l:List Int,l.Pairwise (·<·)->(∀ x∈l,0<=x/\x<(i:Int))->(l++[0+(i:Int)]).Pairwise (·<·):=λl hl hr=>jo.mpr ⟨hl,fG _ _,λx hx y hy=>by rw[aq.mp hy];have:=hr x hx;omega⟩
   have hrg:∀ l:List Int,(∀ x∈l,0<=x/\x<(i:Int))->∀ x∈l++[0+(i:Int)],0<=x/\x<((i+1:Nat):Int):=λl hr x hx=>by
    rcases aj.mp hx with hx | hx
    ·have:=hr x hx;omega
    ·rw[aq.mp hx];omega
   have hN:Z9 H d h b n (z % 4) (i+1) [some (V.ref d),some (V.int n),some (V.ref h),some (V.ref b),some (V.int (z % 4)),some (V.int (0+(i:Int))),some (V.int z2)] H4:=⟨_,_,us,bs,rfl,kc.trans k4,d4,eh4,eb4,gu⟩
   have hB:tyV K "list" (V.ref b) H4/\∃ x,H4 b=some (.lst x)/\x.length<sizeLine/\Z9 H d h b n (z % 4) (i+1) [some (V.ref d),some (V.int n),some (V.ref h),some (V.ref b),some (V.int (z % 4)),some (V.int (0+(i:Int))),some (V.int z2)] (upd H4 b (.lst (x++[V.int (0+(i:Int))]))):=by
    refine⟨.inl ⟨rfl,_,SqL.of eb4⟩,_,eb4,by rw[aa];exact E2 ∅,_,_,us,bs++[0+(i:Int)],rfl,(kc.trans k4).new nb0,d4.new bnd,by rw[B3 hbn];exact eh4,by rw[A1,aE];rfl,ok.ul,hpw _ ok.bl ok.br,gu.ur,hrg _ ok.br,λx hx hm=>?_⟩;rcases aj.mp hm with hm | hm
    ·exact ok.ap x hx hm
    ·have:=ok.ur x hx;have:=aq.mp hm;omega
   have hA:tyV K "list" (V.ref h) H4/\∃ x,H4 h=some (.lst x)/\x.length<sizeLine/\Z9 H d h b n (z % 4) (i+1) [some (V.ref d),some (V.int n),some (V.ref h),some (V.ref b),some (V.int (z % 4)),some (V.int (0+(i:Int))),some (V.int z2)] (upd H4 h (.lst (x++[V.int (0+(i:Int))]))):=by
    refine⟨.inl ⟨rfl,_,SqL.of eh4⟩,_,eh4,by rw[aa];exact E2 ∅,_,_,us++[0+(i:Int)],bs,rfl,(kc.trans k4).new nh,d4.new hnd,by rw[A1,aE];rfl,by rw[B3 (dN hbn)];exact eb4,hpw _ ok.ul ok.ur,ok.bl,hrg _ ok.ur,gu.br,λx hx hm=>?_⟩;rcases aj.mp hx with hx | hx
    ·exact ok.ap x hx hm
    ·have:=ok.br x hm;have:=aq.mp hx;omega
   exact⟨z2,rfl,by decide,R7 (λ_=>R7 (λ_=>hA) λ_=>⟨z2,rfl,by decide,R7 (λ_=>R7 (λ_=>hB) λ_=>hN) λ_=>hN⟩) λ_=>⟨z2,rfl,by decide,R7 (λ_=>R7 (λ_=>hB) λ_=>hN) λ_=>hN⟩⟩
  ·rintro σ Hc ⟨pv,cv,us,bs,rfl,kc,dc,eh,eb,ok⟩;rw[bx hn0] at ok;walk_at "rd";refine⟨_,.inl ⟨SqL.of eh,λl nl=>A8 nl λH5 s5 e5=>⟨_,.inl ⟨SqL.of (s5 _ _ eb),λl2 nl2=>A8 nl2 λH6 s6 e6=>⟨by decide,λp np=>A8 np λH7 s7 e7=>?_⟩⟩⟩⟩⟩;exact q p l l2 us bs H7 (kc.trans ((s5.trans s6).trans s7).kp) (dc.same ((s5.trans s6).trans s7)) (kc.free dc (s5.free (s6.free np))) (kc.free dc nl) (kc.free dc (s5.free nl2)) e7 ((s6.trans s7) _ _ e5) (s7 _ _ e6) ok
def a1v:Sp:=λvs H Q _=>∃(d:Addr) (n:Int),vs=[.ref d,.int n]/\P4 H d/\0<=n/\n<=1000/\∀(p:Addr) (f:Int->Int) (H':Hp),Kp d H H'->P4 H' d->H p=none->H' p=some (.tup ((B7 0 n.toNat).map λv=>V.int (f v)))->(∀ x,0<=f x/\f x<=1000)->Q (.ref p) H'
def a4F (H:Hp)(d l:Addr)(way:Int)(i:Nat)(τ:St)(Hc:Hp):Prop:=∃(c:Option V) (us:List Int),τ=[c,some (.ref d),some (.int way)]/\Kp d H Hc/\P4 Hc d/\Hc l=some (.lst (us.map V.int))/\us.length=i/\∀ x∈us,0<=x/\x<=1000
theorem a1E:B8 ["_law_deck_here","_law_places","_law_way"] ["_law_deck_here","_law_places"] (A4 (top 64)):=by walk_at "s"
theorem a5t (F:Fun K "_law_prices" "_law_prices" (top 64) f fd)(B:Bt mg)(D1:Df K mg "_law_next" st1 f1 fd1 ["_law_deck_here"])(G1:C0 P w K mg base CX0 1 f1 fd1 ["_law_deck_here"] Z0):C0 P w K mg base CX0 2 f fd ["_law_deck_here","_law_places"] a1v:=by
 refine F.ok a1E (λvs H Q E h=>?_) (λcdv A outer s H vs Q E hr h=>?_)
 ·walk_at "h"
 ·obtain⟨d,n,rfl,hd,hn0,hn1,q⟩:=h;have nd:=a1E.nd;have hu:=E8 hr
  refine⟨_,((C4 (i:=2) nd rfl (.inr rfl) ((B4 G1 D1 hr.m ((pv 0)<*>A0))&&&A7))<*
    (@A2 _ _ _ (B9 (F0 (S6 K) (by rfl) B.tuple cO ((G0 (own:=["_law_place"]) (fr:=[("_law_deck_here",0),("_law_way",2)]) rfl (by walk_at "w") (E3 rfl rfl (E3 rfl rfl C6)) (N0 (by rfl) B.range ((pv 1)<*>A0)) ⟨λ_ _ _ _=>⟨(A9 (i:=0) (show bc (["_law_place","_law_deck_here","_law_way"]:List Str) by decide +kernel) rfl (.inl rfl)),J2,(A7|||((B4 G1 D1 hr.m ((pv 1)<*>A0))&&&((@J6 _ _ _ _ (A7<*>(A7<*>(A7<*>(A7<*>A0)))))<|>(pv 2))))⟩⟩)<*>A0))))),?_⟩
  walk_at "rd";refine O0 hd λz1 H1 k1 d1 _=>⟨z1,rfl,by decide,?_⟩
  have w0:=da z1 (b:=4) ∅;have w1:=cu z1 (b:=4) ∅;refine⟨∅,∅,λl nl=>Y3 (a4F H1 d l (z1 % 4)) ⟨none,[],rfl,(Kp.refl d H1).new nl,d1.new (d1.ne nl),A1,rfl,by simp⟩ ?_ ?_⟩
  ·rintro i τ Hc hi ⟨c,us,rfl,kc,dc,hl,hul,hus⟩;walk_at "rd";refine O0 dc λz2 H2 k2 d2 _=>?_
   have ld:l≠d:=d1.ne nl;refine⟨by decide,λpl npl=>A8 npl λH3 s3 e3=>⟨_,SqL.of e3,?_⟩⟩;obtain⟨m,em,hm,hm2⟩:∃ m:Int,atI [V.int 1,V.int 3,V.int 10,V.int 1000] (z1 % 4)=some (.int m)/\0<m/\m<=1000:=by
    rcases (show z1 % 4=0\/z1 % 4=1\/z1 % 4=2\/z1 % 4=3 by omega) with h | h | h | h<;>rw[h]
    ·exact⟨1,rfl,by decide,by decide⟩
    ·exact⟨3,rfl,by decide,by decide⟩
    ·exact⟨10,rfl,by decide,by decide⟩
    ·exact⟨1000,rfl,by decide,by decide⟩
   have hl3:=s3 _ _ (k2 _ _ ld hl);refine⟨_,em,z2,rfl,m,rfl,hm,_,hl3,by rw[aa,hul];exact E2 ∅,_,us++[1+z2 % m],rfl,((kc.trans k2).trans s3.kp).new nl,(d2.same s3).new ld,by rw[A1,aE];rfl,by rw[aI,hul];rfl,λx hx=>?_⟩;rcases aj.mp hx with hx | hx
   ·exact hus x hx
   ·rw[aq.mp hx];have:=da z2 (b:=m) ∅;have:=cu z2 hm;omega
  ·rintro τ Hc ⟨c,us,rfl,kc,dc,hl,hul,hus⟩;refine⟨_,.inl ⟨SqL.of hl,λp np=>A8 np λH2 s2 e2=>?_⟩⟩;have e:us.map V.int=(B7 0 n.toNat).map λv=>V.int (us.getD v.toNat 0):=by
    rw[<- hul];refine cV λj=>?_
    rw[ah,ah];rcases bN j us.length with h | h
    ·rw[Q9 h,aG h];show some (V.int us[j])=some (V.int (us.getD ((0:Int)+(j:Int)).toNat 0));rw[show ((0:Int)+(j:Int)).toNat=j by omega,bZ,aG h];rfl
    ·rw[bQ h,bQ (by rw[B6];exact h)];rfl
   rw[e] at e2;refine q p _ H2 ((k1.trans kc).trans s2.kp) (dc.same s2) ((k1.trans kc).free dc np) e2 λx=>?_
   rw[bZ];cases hx:us[x.toNat]? with
   | none=>exact⟨jK _,by decide⟩
   | some y=>exact hus y (aF hx)
def a2y (K:ac):Sp:=λvs H Q _=>∃(pa:Addr) (f:Int->Int) (m:Int) (pl:Addr) (us:List Int),vs=[.ref pa,.ref pl]/\(SqL K H pa ((B7 0 m.toNat).map λv=>V.int (f v))\/SqT K H pa ((B7 0 m.toNat).map λv=>V.int (f v)))/\SqT K H pl (us.map V.int)/\us.length<=1000/\(∀ x∈us,0<=x/\x<m) /\
 ∀(H':Hp),B5 H H'->Q (.int (us.map f).sum) H'
theorem a2I:B8 ["_law_prices_here","_law_places"] ["_law_prices_here","_law_places"] (A4 (top 65)):=by walk_at "s"
theorem a7f (F:Fun K "_law_price" "_law_price" (top 65) f fd)(B:Bt mg)(C3:Bt3 mg):C0 P w K mg base CX0 1 f fd ["_law_prices_here","_law_places"] (a2y K):=by
 refine F.ok a2I (λvs H Q E h=>?_) (λcdv A outer s H vs Q E hr h=>?_)
 ·walk_at "h"
 ·obtain⟨pa,f0,m,pl,us,rfl,hpa,hpl,hul,hus,q⟩:=h;have nd:=a2I.nd;have hu:=E8 hr;refine⟨_,(@A2 _ _ _ (B9 (B0 (b2r K hr.hd) (by rfl) C3.sum boot_sum ((G0 (own:=["_law_place"]) (fr:=[("_law_prices_here",0)]) rfl (by walk_at "w") (E3 rfl rfl C6) (K6 K (pv 1)) ⟨λ_ _ _ _=>⟨(A9 (i:=0) (show bc (["_law_place","_law_prices_here"]:List Str) by decide +kernel) rfl (.inl rfl)),J2,(@a6w _ _ _ _ _ _ _ (a6K K) (pv 1) (pv 0) (λ_ _=>rfl))⟩⟩)<*>A0)))),?_⟩;walk_at "rd";refine⟨⟨_,hpl⟩,λp np=>U3 V.int (λ_=>true) (λx=>V.int (f0 x)) ∅ hpl np ?_ ?_⟩
  ·intro x hx v ys R hy hR1 hR2;obtain⟨x0,x1⟩:=hus x hx;walk_at "rd";have sm:B5 H (upd H p (.lst ys)):=(B5.refl H).upd np;refine⟨_,hpa.imp (λh=>sm.seq h) (λh=>sm.seqT h),_,a0A x0 x1,T3 hy ∅ hR1⟩
  ·rw[V3];refine⟨us.map f0,SqL.of ?_,q _ ((B5.refl H).upd np)⟩;rw[A1,bu];rfl
structure KeL (H:Hp)(n:Int)(ts:⋯)(hs bs:List Int)(p:Addr)(ps:List (Addr×List Int)):Prop where
 ll:W5 H p ps
 len:ps.length<=5000
 ok:∀ x∈ps,Kp3 n ts hs bs x.2
 all:∀ S,Kp3 n ts hs bs S->∃ x∈ps,x.2=S
def a0U (K:ac):Sp:=λvs H Q _=>∃(np:Addr) (as:List Addr) (n:Int) (ts:⋯) (ph:Addr) (hs:List Int) (pb:Addr) (bs:List Int),vs=[.ref np,.ref ph,.ref pb]/\E4 H np as (J8 n ts)/\N8 n ts/\n<=12/\H ph=some (.tup (hs.map V.int))/\H pb=some (.tup (bs.map V.int))/\hs.length<=60/\bs.length<=60 /\
 ∀(p:Addr) (ps:List (Addr×List Int)) (H':Hp),B5 H H'->H p=none->KeL H' n ts hs bs p ps->Q (.ref p) H'
theorem KeL.kpD {H H':Hp}{n:Int}{ts:⋯}{hs bs:List Int}{p:Addr}{ps:List (Addr×List Int)}(h:KeL H n ts hs bs p ps)(k:KpD H H'):KeL H' n ts hs bs p ps :=
 ⟨⟨k _ _ h.ll.top (.inr (.inl ⟨_,rfl⟩)),λx hx=>k _ _ (h.ll.row x hx) (.inl ⟨_,rfl⟩)⟩,h.len,h.ok,h.all⟩
def a5F (H2:Hp)(np ph pb p:Addr)(hs bs:List Int)(ps:List (Addr×List Int))(i:Nat)(σ:St)(Hc:Hp):Prop:=∃(c:Option V) (qs:List (Addr×List Int)),σ=[some (.ref np),some (.ref ph),some (.ref pb),some (.ref p),c]/\Kp p H2 Hc/\Hc p=some (.lst (qs.map λx=>V.ref x.1))/\qs.length<=i/\∀ x,x∈qs↔x∈ps.take i/\a1c hs bs x.2
theorem a0W:B8 ["_law_near_here","_law_held","_law_barred","_law_found","_law_places"] ["_law_near_here","_law_held","_law_barred"] (A4 (top 66)):=by walk_at "s"
theorem a4x (F:Fun K "_law_keeping" "_law_keeping" (top 66) f fd)(B:Bt mg)(D1:Df K mg "_law_all_sets" st1 f1 fd1 ["_law_near_here"])(G1:C0 P w K mg base CX0 4 f1 fd1 ["_law_near_here"] (a1x K)):C0 P w K mg base CX0 5 f fd ["_law_near_here","_law_held","_law_barred"] (a0U K):=by
 refine F.ok a0W (λvs H Q E h=>?_) (λcdv A outer s H vs Q E hr h=>?_)
 ·walk_at "h"
 ·obtain⟨np,as,n,ts,ph,hs,pb,bs,rfl,hR,hok,hn,hph,hpb,hhl,hbl,q⟩:=h;have nd:=a0W.nd;have hu:=E8 hr
  refine⟨_,((C4 (i:=3) nd rfl (.inl rfl) (@J6 _ _ _ _ A0))<*
    ((M8 aX rfl (J9 K (B4 G1 D1 hr.m ((pv 0)<*>A0))) (A9 (i:=4) nd rfl (.inr rfl))
     (@A2 _ _ _ (@K4 _ _ _ _ _ _ _ _ (PW.pt (a0J (E6 (a7H K hr.units) (G0 (own:=["_law_k"]) (fr:=[("_law_places",4)]) rfl (by walk_at "w") (E3 rfl rfl C6) (K6 K (pv 1)) ⟨λ_ _ _ _=>⟨(A9 (i:=0) (show bc (["_law_k","_law_places"]:List Str) by decide +kernel) rfl (.inl rfl)),(S0 (E6 (W1 K) (pv 0) (pv 1) (by walk_at "w"))),(pv 0)⟩⟩) (@J6 _ _ _ _ A0) (E7 _)) (Z2 (E6 (a7H K hr.units) (G0 (own:=["_law_k"]) (fr:=[("_law_places",4)]) rfl (by walk_at "w") (E3 rfl rfl C6) (K6 K (pv 2)) ⟨λ_ _ _ _=>⟨(A9 (i:=0) (show bc (["_law_k","_law_places"]:List Str) by decide +kernel) rfl (.inl rfl)),(S0 (E6 (a0y K) (pv 0) (pv 1) (by walk_at "w"))),(pv 0)⟩⟩) (@J6 _ _ _ _ A0) (E7 _)))))
      (@A2 _ _ _ (N5 (N6 K (pv 3) ((pv 4)<*>A0))))
      E5)))<*
     (@A2 _ _ _ (B9 (pv 3))))),?_⟩
  simp only[L2.N4,st0,aA,ce,aw,ci,List.replicate,cK,cH,Nat.reduceAdd,Nat.reduceSub];walk_at "rd";refine⟨by decide,λp npp=>A8 npp λH1 s1 e1=>?_⟩;rw[a0u];walk_at "rd";refine⟨np,as,n,ts,rfl,hR.same s1,hok,hn,λap ps H2 s2 nap A=>?_⟩;have e2:=s2 _ _ e1;have hpp2:p≠ap:=C2 e1 nap;have pl:=A.len;have tup_ne:∀ {a:Addr} {xs:List V},H2 a=some (.tup xs)->a≠p:=λe z=>by rw[z,e2] at e;cases e
  have s02:=s1.trans s2;refine⟨ap,rfl,⟨_,SqL.of A.ll.top⟩,V2 (K:=K) (xs:=ps.map λx=>V.ref x.1) (a5F H2 np ph pb p hs bs ps) ⟨none,[],rfl,Kp.refl _ _,e2,ao _,λx=>by simp⟩ ?_ ?_ ?_⟩
  ·rintro i σ Hc _ ⟨_,_,rfl,kc,_⟩;exact SqL.of (kc _ _ hpp2.symm A.ll.top)
  ·rintro i v σ Hc hv ⟨c,qs,rfl,kc,hc,hql,hq⟩;rw[ah] at hv;cases hx0:ps[i]? with
   | none=>rw[hx0] at hv;cases hv
   | some x =>
   rw[hx0] at hv;cases ak hv;have hil:=(ai.mp hx0).1;have hxm:=aF hx0;have hrow:=A.ll.row x hxm;have hrc:=kc _ _ (tup_ne hrow) hrow;have hhc:=kc _ _ (tup_ne (s02 _ _ hph)) (s02 _ _ hph);have hbc:=kc _ _ (tup_ne (s02 _ _ hpb)) (s02 _ _ hpb);have xl:=G8 (C1 (A.ok x hxm).2.1) (A.ok x hxm).2.2;have h60:=hok.n60;have step:∀ {He:Hp},B5 Hc He->a1c hs bs x.2->a5F H2 np ph pb p hs bs ps (i+1) [some (.ref np),some (.ref ph),some (.ref pb),some (.ref p),some (.ref x.1)] (upd He p (.lst ((qs.map λx=>V.ref x.1)++[V.ref x.1]))):=λ{He} se hk=>by
    refine⟨_,qs++[x],rfl,λa o ha e=>by rw[B3 ha];exact se _ _ (kc a o ha e),by rw[A1,aE];rfl,by rw[aI,bK];omega,λy=>?_⟩;rw[aj,aq,hq,bI,hx0,dF,aj,aq];constructor
    ·rintro (⟨h1,h2⟩ | rfl)
     ·exact⟨.inl h1,h2⟩
     ·exact⟨.inr rfl,hk⟩
    ·rintro⟨h1 | h1,h2⟩
     ·exact .inl ⟨h1,h2⟩
     ·exact .inr h1
   have skip:∀ {He:Hp},B5 Hc He->¬ a1c hs bs x.2->a5F H2 np ph pb p hs bs ps (i+1) [some (.ref np),some (.ref ph),some (.ref pb),some (.ref p),some (.ref x.1)] He:=λ{He} se hk=>by
    refine⟨_,qs,rfl,λa o ha e=>se _ _ (kc a o ha e),se _ _ hc,∅,λy=>?_⟩;rw[hq,bI,hx0,dF,aj,aq];constructor
    ·rintro⟨h1,h2⟩;exact⟨.inl h1,h2⟩
    ·rintro⟨h1 | rfl,h2⟩
     ·exact⟨h1,h2⟩
     ·exact absurd h2 hk
   walk_at "rd";refine⟨⟨_,SqT.of hhc⟩,λl1 n1=>U3 V.int (λk=>!decide (k∈x.2)) V.int ∅ (SqT.of hhc) n1 ?_ ?_⟩
   ·intro k hk v ys R hy hR1 hR2;walk_at "rd";exact Z6 (.inr (SqT.of (((B5.refl Hc).upd n1) _ _ hrc))) ⟨_,rfl,S2 rfl hy ∅ hR1 hR2⟩
   refine A8 n1 λH3 s3 e3=>⟨by decide,λl2 n2=>A8 n2 λH4 s4 e4=>b3v (ns:=hs.filter λk=>!decide (k∈x.2)) (ms:=[]) (SqL.of (s4 _ _ e3)) (SqL.of e4) ⟨_,rfl,R7 (λh=>?_) λh=>skip (s3.trans s4) λhk=>h ?_⟩⟩
   rotate_left
   ·exact decide_eq_true (eL.mpr λk hkk=>by have:=hk.1 k hkk;simp[this])
   have hh:∀ k∈hs,k∈x.2:=λk hk=>by
    have:=eL.mp (of_decide_eq_true h) k hk;simpa using this
   have s34:=s3.trans s4;refine⟨⟨_,SqT.of (s34 _ _ hbc)⟩,λl3 n3=>U3 V.int (λk=>decide (k∈x.2)) V.int ∅ (SqT.of (s34 _ _ hbc)) n3 ?_ ?_⟩
   ·intro k hk v ys R hy hR1 hR2;walk_at "rd";exact a1Z (.inr (SqT.of (((B5.refl H4).upd n3) _ _ (s34 _ _ hrc)))) ⟨_,rfl,S2 rfl hy ∅ hR1 hR2⟩
   refine A8 n3 λH5 s5 e5=>⟨by decide,λl4 n4=>A8 n4 λH6 s6 e6=>b3v (ns:=bs.filter λk=>decide (k∈x.2)) (ms:=[]) (SqL.of (s6 _ _ e5)) (SqL.of e6) ⟨_,rfl,R7 (λh'=>?_) λh'=>skip ((s34.trans s5).trans s6) λhk=>h' ?_⟩⟩
   rotate_left
   ·exact decide_eq_true (eL.mpr λk hkk=>by have:=hk.2 k hkk;simp[this])
   have hb:∀ k∈bs,k∉x.2:=λk hk=>by
    have:=eL.mp (of_decide_eq_true h') k hk;simpa using this
   have s36:=(s34.trans s5).trans s6;exact⟨.inl ⟨rfl,_,SqL.of (s36 _ _ hc)⟩,_,s36 _ _ hc,by rw[aa];exact E2 ∅,step s36 ⟨hh,hb⟩⟩
  ·rintro σ Hc ⟨c,qs,rfl,kc,hc,hql,hq⟩;rw[aa,aW] at hq;rw[aa] at hql;walk_at "rd";refine q p qs Hc (λa o e=>kc a o (C2 e npp) (s02 _ _ e)) npp ⟨⟨hc,λx hx=>?_⟩,∅,λx hx=>?_,λS hS=>?_⟩
   ·have:=A.ll.row x ((hq x).mp hx).1;exact kc _ _ (tup_ne this) this
   ·obtain⟨h1,h2⟩:=(hq x).mp hx;obtain⟨a,b,c⟩:=A.ok x h1;exact⟨b,c,a,h2⟩
   ·obtain⟨x,hx,e⟩:=A.all S hS.up hS.rng hS.busy;exact⟨x,(hq x).mpr ⟨hx,e ▸ hS.keep⟩,e⟩
def a2C (K:ac)(tb:Addr):Sp:=λvs H Q _=>∃(w:Addr) (n:Int) (ts:⋯) (pp:Addr) (f:Int->Int) (ph:Addr) (hs:List Int) (pb:Addr) (bs:List Int),vs=[.ref w,.ref pp,.ref ph,.ref pb]/\N7 H w n ts/\N8 n ts/\n<=12/\H pp=some (.tup ((B7 0 n.toNat).map λv=>V.int (f v)))/\(∀ x,0<=f x/\f x<=1000)/\H ph=some (.tup (hs.map V.int))/\H pb=some (.tup (bs.map V.int))/\Y6 n hs bs/\I0 H tb ptQ 165 35 /\
 ∀ H',Kp tb H H'->I0 H' tb ptQ 165 35->Q (.bl true) H'
theorem a9c {K:ac}{H:Hp}{a p:Addr}{l:List Int}{ps:List (Addr×List Int)}{Q:VK}(h1:H a=some (.tup (l.map V.int)))(h2:W5 H p ps)(q:Q (.bl (!decide (l∈ps.map (·.2)))) H):b0s K true (.ref a) (.ref p) H Q:=by
 refine⟨_,_,Dt.tupI (SqT.of h1),.lst (SqL.of h2.top) (a9M h2.row),?_,?_,?_,?_⟩
 ·rw[PyData.canLay0,S5]
 ·exact a3f _
 ·exact aV (a4N _) (by decide)
 ·rw[b1w];exact q
def b3j (Hb:Hp)(l pp:Addr)(f:Int->Int)(ps:List (Addr×List Int))(i:Nat)(τ:St)(Hc:Hp):Prop:=∃ c:Option V,τ=[c,some (.ref pp)]/\B5 Hb Hc/\Hc l=some (.lst (((ps.take i).map λx=>(x.2.map f).sum).map V.int))
theorem a2M:B8 ["_law_web_here","_law_prices_here","_law_held","_law_barred","_law_near_here","_law_keeping_here","_law_told","_law_least"] ["_law_web_here","_law_prices_here","_law_held","_law_barred"] (A4 (top 69)):=by walk_at "s"
theorem a7j (F:Fun K "_law_good" "_law_good" (top 69) f fd)(B:Bt mg){tLm:Addr}(D1:Df K mg "_law_near" st1 f1 fd1 ["_law_web_here"])(G1:C0 P w K mg base CX0 1 f1 fd1 ["_law_web_here"] a6a)(D2:Df K mg "_law_keeping" st2 f2 fd2 ["_law_near_here","_law_held","_law_barred"])(G2:C0 P w K mg base CX0 5 f2 fd2 ["_law_near_here","_law_held","_law_barred"] (a0U K))(D3:Df K mg "_law_told_set" st3 f3 fd3 ["_law_web_here","_law_prices_here","_law_held","_law_barred"])(G3:C0 P w K mg base CX0 20 f3 fd3 ["_law_web_here","_law_prices_here","_law_held","_law_barred"] (a1s K tLm))(D4:Df K mg "_law_is_places" st4 f4 fd4 ["_law_thing","_law_many"])(G4:C0 P w K mg base CX0 2 f4 fd4 ["_law_thing","_law_many"] (a0V K))(D5:Df K mg "_law_price" st5 f5 fd5 ["_law_prices_here","_law_places"])(G5:C0 P w K mg base CX0 1 f5 fd5 ["_law_prices_here","_law_places"] (a2y K))(C:Bt2 mg):C0 P w K mg base CX0 21 f fd ["_law_web_here","_law_prices_here","_law_held","_law_barred"] (a2C K tLm):=by
 refine F.ok a2M (λvs H Q E h=>?_) (λcdv A outer s H vs Q E hr h=>?_)
 ·walk_at "h"
 ·obtain⟨w0,n,ts,pp,f,ph,hs,pb,bs,rfl,hw,hok,hn12,hpp,hf,hph,hpb,st,hL,q⟩:=h;have nd:=a2M.nd;have hu:=E8 hr
  refine⟨_,((C4 (i:=4) nd rfl (.inl rfl) (B4 G1 D1 hr.m ((pv 0)<*>A0)))<*
    ((C4 (i:=5) nd rfl (.inl rfl) (B4 G2 D2 hr.m ((pv 4)<*>((pv 2)<*>((pv 3)<*>A0)))))<*
    ((C4 (i:=6) nd rfl (.inl rfl) (B4 G3 D3 hr.m ((pv 0)<*>((pv 1)<*>((pv 2)<*>((pv 3)<*>A0))))))<*
    ((@K4 _ _ _ _ _ _ _ _ (E6 (a7H K hr.units) (pv 5) (@J6 _ _ _ _ A0) (E7 _))
     (@A2 _ _ _ (B9 (M4 (a7H K hr.units) (pv 6) (@J6 _ _ _ _ (K9<*>(K9<*>(K9<*>(K9<*>(K9<*>(K9<*>(K9<*>(K9<*>(K9<*>(K9<*>A0))))))))))) (E7 _))))
     E5)<*
     ((@K4 _ _ _ _ _ _ _ _ (PW.pt (a2Q (S7 (P6 (B0 (a5C K) (by rfl) C.isinstance bH ((pv 6)<*>((a0Y (by rfl) B.tuple cO)<*>A0))))) (a2Q (E6 a8J (B0 (U7 K) (by rfl) B.len bi ((pv 6)<*>A0)) A7 (E7 _)) (a1M (S7 (P6 (B4 G4 D4 hr.m (((pv 6)*>A7)<*>(((pv 0)*>A7)<*>A0)))))))))
     (@A2 _ _ _ (B9 K9))
     E5)<*
     ((C4 (i:=7) nd rfl (.inl rfl) (B0 (b4F K hr.hd) (by rfl) B.min jY ((G0 (own:=["_law_places"]) (fr:=[("_law_prices_here",1)]) rfl (by walk_at "w") (E3 rfl rfl C6) (J9 K (pv 5)) ⟨λ_ _ _ _=>⟨(A9 (i:=0) (show bc (["_law_places","_law_prices_here"]:List Str) by decide +kernel) rfl (.inl rfl)),J2,(B4 G5 D5 hr.m ((pv 1)<*>((pv 0)<*>A0)))⟩⟩)<*>A0)))<*
    ((@K4 _ _ _ _ _ _ _ _ (PW.pt (a2Q (E6 (b0S K hr.units) ((pv 6)*>A7) (pv 5) (by walk_at "w")) (a1M (E6 a8J (B4 G5 D5 hr.m ((pv 1)<*>(((pv 6)*>A7)<*>A0))) (pv 7) (E7 _)))))
     (@A2 _ _ _ (B9 K9))
     E5)<*
     (@A2 _ _ _ (B9 (M4 (a7H K hr.units) (B4 G3 D3 hr.m ((pv 0)<*>((pv 1)<*>((pv 2)<*>((pv 3)<*>A0))))) (pv 6) (E7 _))))))))))),?_⟩
  simp only[L2.N4,st0,aA,ce,aw,ci,List.replicate,cK,cH,Nat.reduceAdd,Nat.reduceSub];walk_at "rd";have h3:=hok.n3;have h60:=hok.n60;have hl:=hok.len;have hhl:=G8 (C1 st.ul) st.ur;have hbl:=G8 (C1 st.bl) st.br;obtain⟨q0,hw0,_⟩:=id hw;refine⟨w0,n,ts,rfl,hw,∅,∅,∅,hok.rng,hok.srt,λnp as H1 s1 nnp nas hR=>?_⟩;refine⟨np,as,n,ts,ph,hs,pb,bs,rfl,hR,hok,hn12,s1 _ _ hph,s1 _ _ hpb,∅,∅,λkp ps H2 s2 nkp A=>?_⟩;have s02:=s1.trans s2;have pl:=A.len;refine⟨w0,n,ts,pp,f,ph,hs,pb,bs,rfl,hw.tp s02.tp,hok,hn12,s02 _ _ hpp,hf,s02 _ _ hph,s02 _ _ hpb,st,hL.same s02,λhB pd pt v b1 b d1 d H3 k3 L3 e3 e3t dt B1 B2=>?_,λhB l H3 s3 nl e3=>?_⟩
  ·have L2:=hL.same s02;have kd3:=L2.kpD k3;have A3:=A.kpD kd3;have t03:Tp H H3:=s02.tp.trans (L2.tp k3);have kb:Kp3 n ts hs bs (C8 n bs):=⟨db _ (Q4 _),λx hx=>(G7.mp hx).1,hB,a7T (λx=>G7) st.ur st.ap⟩
   have G1:=B1.good hok (λx=>(hf x).1) st;have G2:=B2.good hok (λx=>(hf x).1) st;have K1:Kp3 n ts hs bs b1:=G1.2.1.elim (λe=>e ▸ kb) id;have K2:Kp3 n ts hs bs b:=G2.2.1.elim (λe=>e ▸ K1) id;have bl:=G8 (C1 K2.up) K2.rng;have hne:ps≠[]:=λe=>by
    obtain⟨x,hx,_⟩:=A.all b K2;rw[e] at hx;cases hx
   refine⟨by decide,λpe npe=>A8 npe λH4 s4 e4=>b4P (neg:=false) (s4 _ _ A3.ll.top) (λv hv=>by
    obtain⟨x,hx,rfl⟩:=bq.mp hv
    exact b1p (s4 _ _ (A3.ll.row x hx))) e4 λc hc=>⟨c,rfl,?_⟩⟩
   rw[if_neg (λz=>hne (List.map_eq_nil_iff.mp (hc.mp z)))];refine⟨_,_,⟨rfl,rfl⟩,_,.tup (s4 _ _ e3),true,rfl,?_⟩;rw[if_neg (by decide)];refine⟨pd,rfl,_,.inr (SqT.of (s4 _ _ e3)),?_⟩;rw[if_neg (by simp)];have t04:=t03.trans s4.tp;refine⟨pd,rfl,_,SqT.of (s4 _ _ e3),_,rfl,_,SqT.of (t04 _ _ hw0),_,rfl,pt,b,n,rfl,∅,s4 _ _ e3t,K2.up,K2.rng,∅,λH5 s5=>⟨true,rfl,?_⟩⟩;rw[if_neg (by decide)];have s35:=s4.trans s5;have A5:=A3.kpD s35.kpD;have t05:=t03.trans s35.tp;refine⟨kp,rfl,⟨_,SqL.of A5.ll.top⟩,λpm npm=>U4 (K:=K) (xs:=ps.map λx=>V.ref x.1) (b3j H5 pm pp f ps) ⟨none,rfl,(B5.refl H5).upd npm,A1⟩ ?_ ?_ ?_⟩
   ·rintro i τ Hc _ ⟨_,rfl,sc,_⟩;exact SqL.of (sc _ _ A5.ll.top)
   ·rintro i v τ Hc hv ⟨c,rfl,sc,hc⟩ _;rw[ah] at hv;cases hx0:ps[i]? with
    | none=>rw[hx0] at hv;cases hv
    | some x =>
    rw[hx0] at hv;cases ak hv;have hil:=(ai.mp hx0).1;have hxm:=aF hx0;have xo:=A.ok x hxm;have xl:=G8 (C1 xo.up) xo.rng;walk_at "rd";refine⟨pp,f,n,x.1,x.2,rfl,.inr (SqT.of (sc _ _ (t05 _ _ hpp))),SqT.of (sc _ _ (A5.ll.row x hxm)),∅,xo.rng,λH6 s6=>⟨_,s6 _ _ hc,by rw[aa,aa,bn];exact E2 ∅,_,rfl,(sc.trans s6).upd npm,?_⟩⟩;rw[A1,bI,hx0,dF,aE,aE];rfl
   ·rintro τ H6 ⟨c,rfl,s6,e6⟩;rw[aa,aW] at e6;have s36:=s35.trans s6;have A6:=A5.kpD s6.kpD;have t06:=t05.trans s6.tp;refine⟨_,SqL.of e6,by simp[hne],λm hm hmin=>⟨pd,rfl,_,SqT.of (s36 _ _ e3),_,rfl,a9c (s36 _ _ e3t) A6.ll ⟨_,rfl,?_⟩⟩⟩;have hbm:b∈ps.map (·.2):=by
     obtain⟨x,hx,e⟩:=A.all b K2;exact bq.mpr ⟨x,hx,e⟩
    rw[if_neg (by simp only[hbm];decide)];have em:(b.map f).sum=m:=by
     obtain⟨x,hx,e⟩:=bq.mp hm;have h1:=G2.2.2 x.2 (A.ok x hx);obtain⟨y,hy,ey⟩:=A.all b K2;have h2:=hmin (b.map f).sum (bq.mpr ⟨y,hy,by rw[ey]⟩);omega
    refine⟨pd,rfl,_,SqT.of (s36 _ _ e3),_,rfl,pp,f,n,pt,b,rfl,.inr (SqT.of (t06 _ _ hpp)),SqT.of (s36 _ _ e3t),∅,K2.rng,λH7 s7=>⟨rfl,?_⟩⟩;rw[if_neg (by rw[em];simp)];have t07:=t06.trans s7.tp;have s37:=s36.trans s7;have L7:=L3.same s37;refine⟨w0,n,ts,pp,f,ph,hs,pb,bs,rfl,hw.tp t07,hok,hn12,t07 _ _ hpp,hf,t07 _ _ hph,t07 _ _ hpb,st,L7,λ_ pd' pt' v' b1' b' d1' d' H8 k8 L8 e8 e8t dt8 B1' B2'=>?_,λh=>absurd hB h⟩;obtain⟨rfl,rfl⟩:=B1.uniq B1';obtain⟨rfl,rfl⟩:=B2.uniq B2';have fl:(J1 n hs bs).length<=12:=by
     have:=bL (λx=>!decide (x∈hs++bs)) (B7 0 n.toNat);rw[B6] at this;exact aV this ∅
    have kd:KpD H3 H8:=λa o e ho=>L7.kpD k8 a o (s37 _ _ e) ho
    have S:Sf 16 (.tuple [tI b,d]):=Sfs.tup (k:=15) (.cons (Sf.ints (k:=14)) (.cons (B2.sf fl) .nil));refine⟨.tuple [tI b,d],.tuple [tI b,d],.tup (SqT.of e8) (.cons (.tupI (SqT.of e8t)) (.cons dt8 .nil)),.tup (SqT.of (kd _ _ e3 (.inl ⟨_,rfl⟩))) (.cons (.tupI (SqT.of (kd _ _ e3t (.inl ⟨_,rfl⟩)))) (.cons (dt.kpD kd) .nil)),S.shaped (by decide),S.shaped (by decide),?_⟩;rw[S.eq];exact q H8 (s02.kp.trans (k3.trans (s37.kp.trans k8))) L8
  ·dsimp only;have hps:ps=[]:=by
    cases ps with
    | nil=>rfl
    | cons x r =>
     have k:=A.ok x (aT ..);exact absurd (a3i hok.rng (λx=>G7) k.rng k.busy k.keep) hB
   subst hps;have A3:=A.kpD s3.kpD;refine⟨by decide,λpe npe=>A8 npe λH4 s4 e4=>b4P (neg:=false) (s4 _ _ A3.ll.top) (λv hv=>by cases hv) e4 λc hc=>⟨c,rfl,?_⟩⟩;rw[if_pos (hc.mpr rfl)];refine⟨by decide,λpf npf=>A8 npf λH5 s5 e5=>?_⟩;have d5:∀ {a:Addr},H5 a=some (.lst a9d)->Dt K H5 (.ref a) (.list [.bool false,.bool false,.bool true,.bool false,.bool false,.bool false,.bool false,.bool false,.bool true,.bool true]):=λe=>.lst (SqL.of e) (.cons (.bl _) (.cons (.bl _) (.cons (.bl _) (.cons (.bl _) (.cons (.bl _) (.cons (.bl _) (.cons (.bl _) (.cons (.bl _) (.cons (.bl _) (.cons (.bl _) .nil))))))))))
   refine⟨_,_,d5 (s5 _ _ (s4 _ _ e3)),d5 e5,by decide +kernel,by decide +kernel,?_⟩;rw[show PyData.eqv (.list [.bool false,.bool false,.bool true,.bool false,.bool false,.bool false,.bool false,.bool false,.bool true,.bool true]) (.list [.bool false,.bool false,.bool true,.bool false,.bool false,.bool false,.bool false,.bool false,.bool true,.bool true])=true by decide +kernel];have s05:=s02.trans (s3.trans (s4.trans s5));exact q H5 s05.kp (hL.same s05)
def a1h (K:ac)(tb:Addr):Sp:=λvs H Q _=>∃(a:Addr) (ns:List Int),vs=[.ref a]/\SqL K H a (ns.map V.int)/\ns.length<=63/\I0 H tb ptQ 165 35/\∀ H',Q (.bl true) H'
def b1k (tb a d:Addr)(i:Nat)(σ:St)(Hc:Hp):Prop:=∃ v2 v3 v4 v5 v6:Option V,σ=[some (.ref a),some (.ref d),v2,v3,v4,v5,v6]/\P4 Hc d/\I0 Hc tb ptQ 165 35
theorem a4l:B8 ["_law_script","_law_deck_here","_law_turn_here","_law_web_here","_law_prices_here","_law_held","_law_barred"] ["_law_script"] (A4 (top 70)):=by walk_at "s"
theorem a8V (F:Fun K "law" "law" (top 70) f fd)(B:Bt mg){tLm:Addr}(D1:Df K mg "_law_deck" st1 f1 fd1 ["_law_script","_law_many"])(G1:C0 P w K mg base CX0 2 f1 fd1 ["_law_script","_law_many"] (a6c K))(D2:Df K mg "_law_web" st2 f2 fd2 ["_law_deck_here","_law_least","_law_most"])(G2:C0 P w K mg base CX0 3 f2 fd2 ["_law_deck_here","_law_least","_law_most"] a8p)(D3:Df K mg "_law_prices" st3 f3 fd3 ["_law_deck_here","_law_places"])(G3:C0 P w K mg base CX0 2 f3 fd3 ["_law_deck_here","_law_places"] a1v)(D4:Df K mg "_law_state" st4 f4 fd4 ["_law_deck_here","_law_places"])(G4:C0 P w K mg base CX0 2 f4 fd4 ["_law_deck_here","_law_places"] a3R)(D5:Df K mg "_law_good" st5 f5 fd5 ["_law_web_here","_law_prices_here","_law_held","_law_barred"])(G5:C0 P w K mg base CX0 21 f5 fd5 ["_law_web_here","_law_prices_here","_law_held","_law_barred"] (a2C K tLm)):C0 P w K mg base CX0 22 f fd ["_law_script"] (a1h K tLm):=by
 refine F.ok a4l (λvs H Q E h=>?_) (λcdv A outer s H vs Q E hr h=>?_)
 ·walk_at "h"
 ·obtain⟨a,ns,rfl,hS,hl,hL,q⟩:=h;have nd:=a4l.nd;have hu:=E8 hr
  refine⟨_,((C4 (i:=1) nd rfl (.inl rfl) (B4 G1 D1 hr.m ((pv 0)<*>(A7<*>A0))))<*
    ((M8 aX rfl (N0 (by rfl) B.range (A7<*>A0)) (A9 (i:=2) nd rfl (.inl rfl))
     ((C4 (i:=3) nd rfl (.inl rfl) (B4 G2 D2 hr.m ((pv 1)<*>(A7<*>(A7<*>A0)))))<*
     ((C4 (i:=4) nd rfl (.inl rfl) (B4 G3 D3 hr.m ((pv 1)<*>(((pv 3)*>A7)<*>A0))))<*
     ((@X4 _ _ _ _ _ _ (B4 G4 D4 hr.m ((pv 1)<*>(((pv 3)*>A7)<*>A0))) (N2 K (n:=2) rfl (E1 (A9 (i:=5) nd rfl (.inl rfl)) (E1 (A9 (i:=6) nd rfl (.inl rfl)) N1))) (by rfl) (by rfl) (by rfl))<*
     (@A2 _ _ _ (@K4 _ _ _ _ _ _ _ _ (PW.pt (a2Q (S7 (P6 (B4 G5 D5 hr.m ((pv 3)<*>((pv 4)<*>((pv 5)<*>((pv 6)<*>A0))))))) (a1M (S7 (P6 (B4 G5 D5 hr.m ((pv 3)<*>((pv 4)<*>((@K3 _ _ _ _ _ A0)<*>((@K3 _ _ _ _ _ A0)<*>A0))))))))))
      (@A2 _ _ _ (B9 K9))
      E5))))))<*
     (@A2 _ _ _ (B9 K9)))),?_⟩
  simp only[L2.N4,st0,aA,ce,aw,ci,List.replicate,cK,cH,Nat.reduceAdd,Nat.reduceSub];walk_at "rd";refine⟨a,400,ns,rfl,hS,hl,by decide,by decide,λd ds H1 hdl s1 nd1 hd1=>?_⟩;have dk1:P4 H1 d:=⟨ds,hd1,hdl⟩
  have L1:=hL.same s1;dsimp only;rw[a0u];walk_at "rd";refine⟨by decide,by decide,R8 (lo:=0) (n:=4) (b1k tLm a d) ⟨_,_,_,_,_,rfl,dk1,L1⟩ ?_ ?_⟩
  ·rintro i σ Hc hi ⟨v2,v3,v4,v5,v6,rfl,dc,Lc⟩;rw[b4N];simp only[jI,jH];walk_at "rd";refine⟨d,3,7,rfl,dc,by decide,by decide,by decide,λw0 n ts H4 k4 d4 hn0 hn1 hok hw=>?_⟩;obtain⟨q0,hw0,_⟩:=id hw;have L4:=Lc.kp k4 dc;refine⟨w0,rfl,_,SqT.of hw0,_,rfl,d,n,rfl,d4,∅,∅,λpp f H5 k5 d5 npp hpp hf=>?_⟩;have t45:=k5.tp d4;have L5:=L4.kp k5 d4;refine⟨w0,rfl,_,SqT.of (t45 _ _ hw0),_,rfl,d,n,rfl,d5,∅,∅,λp p1 p2 us bs H6 k6 d6 np np1 np2 e6 e61 e62 st=>⟨p,rfl,_,SqT.of e6,rfl,_,_,rfl,_,_,rfl,rfl,?_⟩⟩;have t56:=k6.tp d5;have L6:=L5.kp k6 d5;refine⟨w0,n,ts,pp,f,p1,us,p2,bs,rfl,hw.tp (t45.trans t56),hok,∅,t56 _ _ hpp,hf,e61,e62,st,L6,λH7 k7 L7=>⟨true,rfl,?_⟩⟩;rw[if_neg (by decide)];have t67:=L6.tp k7;have d7:=d6.lam L6 k7;refine⟨by decide,λq1 n1=>A8 n1 λH8 s8 e8=>⟨by decide,λq2 n2=>A8 n2 λH9 s9 e9=>?_⟩⟩;have s79:=s8.trans s9;have t59:=(t56.trans t67).trans s79.tp;have L9:=L7.same s79;exact⟨w0,n,ts,pp,f,q1,[],q2,[],rfl,hw.tp (t45.trans t59),hok,∅,t59 _ _ hpp,hf,s9 _ _ e8,e9,⟨.nil,.nil,λx hx=>(by cases hx),λx hx=>(by cases hx),λx hx=>(by cases hx)⟩,L9,λHA kA LA=>⟨true,rfl,by rw[if_neg (by decide)];exact⟨_,_,_,_,_,rfl,(d7.same s79).lam L9 kA,LA⟩⟩⟩
  ·rintro σ Hc ⟨v2,v3,v4,v5,v6,rfl,dc,Lc⟩;walk_at "rd";exact q Hc
end
end K37
end
section
namespace K37
open PySem L2
abbrev A_ (K:ac)(n:Str)(f:Addr):Prop:=aZ K mainGlobals n=some (some (.ref f))
abbrev L_ (K:ac)(f:Addr)(oc:Value)(od:Option Addr)(n:Str)(i:Nat)(kv dc pm:Value)(an:Option Addr)(cd ct:Value)(sl:Array (Option Value)):Prop:=K.lookup f=some ⟨oc,od,.func (cj n n (P7 (top i)) (M9 (top i)) (A4 (top i)) .none kv dc pm an cd ct),sl⟩
abbrev C_ (K:ac)(cd:Value)(n:Str):Prop:=du K cd n=true
abbrev J_ (K:ac)(f:Addr):Prop:=fg K (.ref f)=true
theorem all_mk {l:fM}{w:World}{K:ac}{h:Heap}{mg:Str->Option Value}(X:K.In h)(G:h.Ns mainGlobals mg)(hfa:mg "law"=some (.ref fa))(a1:A_ K "_law_mixed" f1)(l1:L_ K f1 oc1 od1 "_law_mixed" 50 kV1 dc1 pm1 an1 cd1 ct1 sl1)(c1:C_ K cd1 "_law_mixed")(k1:J_ K f1)(a2:A_ K "_law_next" f2)(l2:L_ K f2 oc2 od2 "_law_next" 52 kV2 dc2 pm2 an2 cd2 ct2 sl2)(c2:C_ K cd2 "_law_next")(k2:J_ K f2)(a3:A_ K "_law_deck" f3)(l3:L_ K f3 oc3 od3 "_law_deck" 51 kV3 dc3 pm3 an3 cd3 ct3 sl3)(c3:C_ K cd3 "_law_deck")(k3:J_ K f3)(a4:A_ K "_law_turn" f4)(l4:L_ K f4 oc4 od4 "_law_turn" 53 kV4 dc4 pm4 an4 cd4 ct4 sl4)(c4:C_ K cd4 "_law_turn")(k4:J_ K f4)(a5:A_ K "_law_web" f5)(l5:L_ K f5 oc5 od5 "_law_web" 54 kV5 dc5 pm5 an5 cd5 ct5 sl5)(c5:C_ K cd5 "_law_web")(k5:J_ K f5)(a6:A_ K "_law_near" f6)(l6:L_ K f6 oc6 od6 "_law_near" 55 kV6 dc6 pm6 an6 cd6 ct6 sl6)(c6:C_ K cd6 "_law_near")(k6:J_ K f6)(a7:A_ K "neighbour_rows" f7)(l7:L_ K f7 oc7 od7 "neighbour_rows" 15 kV7 dc7 pm7 an7 cd7 ct7 sl7)(c7:C_ K cd7 "neighbour_rows")(k7:J_ K f7)(a8:A_ K "is_int" f8)(l8:L_ K f8 oc8 od8 "is_int" 1 kV8 dc8 pm8 an8 cd8 ct8 sl8)(c8:C_ K cd8 "is_int")(k8:J_ K f8)(a9:A_ K "is_between" f9)(l9:L_ K f9 oc9 od9 "is_between" 2 kV9 dc9 pm9 an9 cd9 ct9 sl9)(c9:C_ K cd9 "is_between")(k9:J_ K f9)(a10:A_ K "is_place" f10)(l10:L_ K f10 oc10 od10 "is_place" 20 kV10 dc10 pm10 an10 cd10 ct10 sl10)(c10:C_ K cd10 "is_place")(k10:J_ K f10)(a11:A_ K "is_rising" f11)(l11:L_ K f11 oc11 od11 "is_rising" 14 kV11 dc11 pm11 an11 cd11 ct11 sl11)(c11:C_ K cd11 "is_rising")(k11:J_ K f11)(a12:A_ K "is_place_row" f12)(l12:L_ K f12 oc12 od12 "is_place_row" 21 kV12 dc12 pm12 an12 cd12 ct12 sl12)(c12:C_ K cd12 "is_place_row")(k12:J_ K f12)(a13:A_ K "touched" f13)(l13:L_ K f13 oc13 od13 "touched" 16 kV13 dc13 pm13 an13 cd13 ct13 sl13)(c13:C_ K cd13 "touched")(k13:J_ K f13)(a14:A_ K "piece_from" f14)(l14:L_ K f14 oc14 od14 "piece_from" 17 kV14 dc14 pm14 an14 cd14 ct14 sl14)(c14:C_ K cd14 "piece_from")(k14:J_ K f14)(a15:A_ K "pieces" f15)(l15:L_ K f15 oc15 od15 "pieces" 18 kV15 dc15 pm15 an15 cd15 ct15 sl15)(c15:C_ K cd15 "pieces")(k15:J_ K f15)(a16:A_ K "lot_rows" f16)(l16:L_ K f16 oc16 od16 "lot_rows" 22 kV16 dc16 pm16 an16 cd16 ct16 sl16)(c16:C_ K cd16 "lot_rows")(k16:J_ K f16)(a17:A_ K "have_common" f17)(l17:L_ K f17 oc17 od17 "have_common" 23 kV17 dc17 pm17 an17 cd17 ct17 sl17)(c17:C_ K cd17 "have_common")(k17:J_ K f17)(a18:A_ K "places_but" f18)(l18:L_ K f18 oc18 od18 "places_but" 24 kV18 dc18 pm18 an18 cd18 ct18 sl18)(c18:C_ K cd18 "places_but")(k18:J_ K f18)(a19:A_ K "free_places" f19)(l19:L_ K f19 oc19 od19 "free_places" 25 kV19 dc19 pm19 an19 cd19 ct19 sl19)(c19:C_ K cd19 "free_places")(k19:J_ K f19)(a20:A_ K "price_of" f20)(l20:L_ K f20 oc20 od20 "price_of" 27 kV20 dc20 pm20 an20 cd20 ct20 sl20)(c20:C_ K cd20 "price_of")(k20:J_ K f20)(a21:A_ K "is_over" f21)(l21:L_ K f21 oc21 od21 "is_over" 39 kV21 dc21 pm21 an21 cd21 ct21 sl21)(c21:C_ K cd21 "is_over")(k21:J_ K f21)(a22:A_ K "added" f22)(l22:L_ K f22 oc22 od22 "added" 28 kV22 dc22 pm22 an22 cd22 ct22 sl22)(c22:C_ K cd22 "added")(k22:J_ K f22)(a23:A_ K "worth_added" f23)(l23:L_ K f23 oc23 od23 "worth_added" 30 kV23 dc23 pm23 an23 cd23 ct23 sl23)(c23:C_ K cd23 "worth_added")(k23:J_ K f23)(a24:A_ K "is_worth_above" f24)(l24:L_ K f24 oc24 od24 "is_worth_above" 31 kV24 dc24 pm24 an24 cd24 ct24 sl24)(c24:C_ K cd24 "is_worth_above")(k24:J_ K f24)(a25:A_ K "share_left" f25)(l25:L_ K f25 oc25 od25 "share_left" 32 kV25 dc25 pm25 an25 cd25 ct25 sl25)(c25:C_ K cd25 "share_left")(k25:J_ K f25)(a26:A_ K "raised" f26)(l26:L_ K f26 oc26 od26 "raised" 33 kV26 dc26 pm26 an26 cd26 ct26 sl26)(c26:C_ K cd26 "raised")(k26:J_ K f26)(a27:A_ K "is_thin" f27)(l27:L_ K f27 oc27 od27 "is_thin" 35 kV27 dc27 pm27 an27 cd27 ct27 sl27)(c27:C_ K cd27 "is_thin")(k27:J_ K f27)(a28:A_ K "is_known_thin" f28)(l28:L_ K f28 oc28 od28 "is_known_thin" 40 kV28 dc28 pm28 an28 cd28 ct28 sl28)(c28:C_ K cd28 "is_known_thin")(k28:J_ K f28)(a29:A_ K "why_not" f29)(l29:L_ K f29 oc29 od29 "why_not" 37 kV29 dc29 pm29 an29 cd29 ct29 sl29)(c29:C_ K cd29 "why_not")(k29:J_ K f29)(a30:A_ K "right_set" f30)(l30:L_ K f30 oc30 od30 "right_set" 42 kV30 dc30 pm30 an30 cd30 ct30 sl30)(c30:C_ K cd30 "right_set")(k30:J_ K f30)(a31:A_ K "with_place" f31)(l31:L_ K f31 oc31 od31 "with_place" 26 kV31 dc31 pm31 an31 cd31 ct31 sl31)(c31:C_ K cd31 "with_place")(k31:J_ K f31)(a32:A_ K "end_of" f32)(l32:L_ K f32 oc32 od32 "end_of" 45 kV32 dc32 pm32 an32 cd32 ct32 sl32)(c32:C_ K cd32 "end_of")(k32:J_ K f32)
  (a33:aZ K mainGlobals "place_to_part"=some (some (.ref f33))) (l33:K.lookup f33=some ⟨oc33,od33,.func (cj "place_to_part" "place_to_part" (P7 (top 46)) (M9 (top 46)) (A4 (top 46)) .none kV33 dc33 pm33 an33 (.ref cLm) ct33),sl33⟩) (c33:du K (.ref cLm) "place_to_part"=true) (k33:fg K (.ref f33)=true) (a34:A_ K "best_and_cases" f34) (l34:L_ K f34 oc34 od34 "best_and_cases" 47 kV34 dc34 pm34 an34 cd34 ct34 sl34) (c34:C_ K cd34 "best_and_cases") (k34:J_ K f34) (a35:A_ K "cheapest_set" f35) (l35:L_ K f35 oc35 od35 "cheapest_set" 48 kV35 dc35 pm35 an35 cd35 ct35 sl35) (c35:C_ K cd35 "cheapest_set") (k35:J_ K f35) (a36:A_ K "_law_refusal" f36) (l36:L_ K f36 oc36 od36 "_law_refusal" 67 kV36 dc36 pm36 an36 cd36 ct36 sl36) (c36:C_ K cd36 "_law_refusal") (k36:J_ K f36) (a37:A_ K "_law_told_set" f37) (l37:L_ K f37 oc37 od37 "_law_told_set" 68 kV37 dc37 pm37 an37 cd37 ct37 sl37) (c37:C_ K cd37 "_law_told_set") (k37:J_ K f37) (a38:A_ K "_law_reach" f38) (l38:L_ K f38 oc38 od38 "_law_reach" 56 kV38 dc38 pm38 an38 cd38 ct38 sl38) (c38:C_ K cd38 "_law_reach") (k38:J_ K f38) (a39:A_ K "_law_hang" f39) (l39:L_ K f39 oc39 od39 "_law_hang" 57 kV39 dc39 pm39 an39 cd39 ct39 sl39) (c39:C_ K cd39 "_law_hang") (k39:J_ K f39) (a40:A_ K "_law_touched" f40) (l40:L_ K f40 oc40 od40 "_law_touched" 58 kV40 dc40 pm40 an40 cd40 ct40 sl40) (c40:C_ K cd40 "_law_touched") (k40:J_ K f40) (a41:A_ K "_law_is_set" f41) (l41:L_ K f41 oc41 od41 "_law_is_set" 59 kV41 dc41 pm41 an41 cd41 ct41 sl41) (c41:C_ K cd41 "_law_is_set") (k41:J_ K f41) (a42:A_ K "_law_all_sets" f42) (l42:L_ K f42 oc42 od42 "_law_all_sets" 60 kV42 dc42 pm42 an42 cd42 ct42 sl42) (c42:C_ K cd42 "_law_all_sets") (k42:J_ K f42) (a43:A_ K "_law_is_int" f43) (l43:L_ K f43 oc43 od43 "_law_is_int" 61 kV43 dc43 pm43 an43 cd43 ct43 sl43) (c43:C_ K cd43 "_law_is_int") (k43:J_ K f43) (a44:A_ K "_law_is_places" f44) (l44:L_ K f44 oc44 od44 "_law_is_places" 62 kV44 dc44 pm44 an44 cd44 ct44 sl44) (c44:C_ K cd44 "_law_is_places") (k44:J_ K f44) (a45:A_ K "_law_state" f45) (l45:L_ K f45 oc45 od45 "_law_state" 63 kV45 dc45 pm45 an45 cd45 ct45 sl45) (c45:C_ K cd45 "_law_state") (k45:J_ K f45) (a46:A_ K "_law_prices" f46) (l46:L_ K f46 oc46 od46 "_law_prices" 64 kV46 dc46 pm46 an46 cd46 ct46 sl46) (c46:C_ K cd46 "_law_prices") (k46:J_ K f46) (a47:A_ K "_law_price" f47) (l47:L_ K f47 oc47 od47 "_law_price" 65 kV47 dc47 pm47 an47 cd47 ct47 sl47) (c47:C_ K cd47 "_law_price") (k47:J_ K f47) (a48:A_ K "_law_keeping" f48) (l48:L_ K f48 oc48 od48 "_law_keeping" 66 kV48 dc48 pm48 an48 cd48 ct48 sl48) (c48:C_ K cd48 "_law_keeping") (k48:J_ K f48) (a49:A_ K "_law_good" f49) (l49:L_ K f49 oc49 od49 "_law_good" 69 kV49 dc49 pm49 an49 cd49 ct49 sl49) (c49:C_ K cd49 "_law_good") (k49:J_ K f49) (a50:A_ K "law" f50) (l50:L_ K f50 oc50 od50 "law" 70 kV50 dc50 pm50 an50 cd50 ct50 sl50) (c50:C_ K cd50 "law") (k50:J_ K f50)
  {ky1:Tok} (y1:aZ K mainGlobals "MOST_EXACT"=some (some (.int 12 ky1)))
  {cTooGreat:Addr} (qTooGreat:aZ K mainGlobals "TooGreat"=some (some (.ref cTooGreat))) (eTooGreat:PySem.W.excIn K cTooGreat [.type "ValueError",.type "Exception",.type "BaseException",.type "object"] "ValueError.__new__"=true) (gaTooGreat:aQ K (.ref cTooGreat) "__getattribute__"=some (some (.builtin "BaseException.__getattribute__"))) (clTooGreat:aQ K (.ref cTooGreat) "__class__"=some (some (.builtin "object.__class__"))) (noTooGreat:aQ K (.ref cTooGreat) "__getattr__"=some none) (sbTooGreat:bA K cTooGreat (.type "BaseException")=some true) (obTooGreat:bA K cTooGreat (.type "object")=some true) (isTooGreat:(cD K cTooGreat).isSome=true)
  {cNoSet:Addr} (qNoSet:aZ K mainGlobals "NoSet"=some (some (.ref cNoSet))) (eNoSet:PySem.W.excIn K cNoSet [.type "ValueError",.type "Exception",.type "BaseException",.type "object"] "ValueError.__new__"=true) (gaNoSet:aQ K (.ref cNoSet) "__getattribute__"=some (some (.builtin "BaseException.__getattribute__"))) (clNoSet:aQ K (.ref cNoSet) "__class__"=some (some (.builtin "object.__class__"))) (noNoSet:aQ K (.ref cNoSet) "__getattr__"=some none) (sbNoSet:bA K cNoSet (.type "BaseException")=some true) (obNoSet:bA K cNoSet (.type "object")=some true) (isNoSet:(cD K cNoSet).isSome=true)
  {cNoWeb:Addr} (qNoWeb:aZ K mainGlobals "NoWeb"=some (some (.ref cNoWeb))) (eNoWeb:PySem.W.excIn K cNoWeb [.type "ValueError",.type "Exception",.type "BaseException",.type "object"] "ValueError.__new__"=true) (gaNoWeb:aQ K (.ref cNoWeb) "__getattribute__"=some (some (.builtin "BaseException.__getattribute__"))) (clNoWeb:aQ K (.ref cNoWeb) "__class__"=some (some (.builtin "object.__class__"))) (noNoWeb:aQ K (.ref cNoWeb) "__getattr__"=some none) (sbNoWeb:bA K cNoWeb (.type "BaseException")=some true) (obNoWeb:bA K cNoWeb (.type "object")=some true) (isNoWeb:(cD K cNoWeb).isSome=true)
  {cTaken:Addr} (qTaken:aZ K mainGlobals "Taken"=some (some (.ref cTaken))) (eTaken:PySem.W.excIn K cTaken [.type "ValueError",.type "Exception",.type "BaseException",.type "object"] "ValueError.__new__"=true) (gaTaken:aQ K (.ref cTaken) "__getattribute__"=some (some (.builtin "BaseException.__getattribute__"))) (clTaken:aQ K (.ref cTaken) "__class__"=some (some (.builtin "object.__class__"))) (noTaken:aQ K (.ref cTaken) "__getattr__"=some none) (sbTaken:bA K cTaken (.type "BaseException")=some true) (obTaken:bA K cTaken (.type "object")=some true) (isTaken:(cD K cTaken).isSome=true)
  {cTooMany:Addr} (qTooMany:aZ K mainGlobals "TooMany"=some (some (.ref cTooMany))) (eTooMany:PySem.W.excIn K cTooMany [.type "ValueError",.type "Exception",.type "BaseException",.type "object"] "ValueError.__new__"=true) (gaTooMany:aQ K (.ref cTooMany) "__getattribute__"=some (some (.builtin "BaseException.__getattribute__"))) (clTooMany:aQ K (.ref cTooMany) "__class__"=some (some (.builtin "object.__class__"))) (noTooMany:aQ K (.ref cTooMany) "__getattr__"=some none) (sbTooMany:bA K cTooMany (.type "BaseException")=some true) (obTooMany:bA K cTooMany (.type "object")=some true) (isTooMany:(cD K cTooMany).isSome=true)
  {cNoTie:Addr} (qNoTie:aZ K mainGlobals "NoTie"=some (some (.ref cNoTie))) (eNoTie:PySem.W.excIn K cNoTie [.type "ValueError",.type "Exception",.type "BaseException",.type "object"] "ValueError.__new__"=true) (gaNoTie:aQ K (.ref cNoTie) "__getattribute__"=some (some (.builtin "BaseException.__getattribute__"))) (clNoTie:aQ K (.ref cNoTie) "__class__"=some (some (.builtin "object.__class__"))) (noNoTie:aQ K (.ref cNoTie) "__getattr__"=some none) (sbNoTie:bA K cNoTie (.type "BaseException")=some true) (obNoTie:bA K cNoTie (.type "object")=some true) (isNoTie:(cD K cNoTie).isSome=true)
  {cApart:Addr} (qApart:aZ K mainGlobals "Apart"=some (some (.ref cApart))) (eApart:PySem.W.excIn K cApart [.type "ValueError",.type "Exception",.type "BaseException",.type "object"] "ValueError.__new__"=true) (gaApart:aQ K (.ref cApart) "__getattribute__"=some (some (.builtin "BaseException.__getattribute__"))) (clApart:aQ K (.ref cApart) "__class__"=some (some (.builtin "object.__class__"))) (noApart:aQ K (.ref cApart) "__getattr__"=some none) (sbApart:bA K cApart (.type "BaseException")=some true) (obApart:bA K cApart (.type "object")=some true) (isApart:(cD K cApart).isSome=true)
  {cNoText:Addr} (qNoText:aZ K mainGlobals "NoText"=some (some (.ref cNoText))) (eNoText:PySem.W.excIn K cNoText [.type "ValueError",.type "Exception",.type "BaseException",.type "object"] "ValueError.__new__"=true) (gaNoText:aQ K (.ref cNoText) "__getattribute__"=some (some (.builtin "BaseException.__getattribute__"))) (clNoText:aQ K (.ref cNoText) "__class__"=some (some (.builtin "object.__class__"))) (noNoText:aQ K (.ref cNoText) "__getattr__"=some none) (sbNoText:bA K cNoText (.type "BaseException")=some true) (obNoText:bA K cNoText (.type "object")=some true) (isNoText:(cD K cNoText).isSome=true)
  {cLeafError:Addr} (qLeafError:aZ K mainGlobals "LeafError"=some (some (.ref cLeafError))) (eLeafError:PySem.W.excIn K cLeafError [.type "ValueError",.type "Exception",.type "BaseException",.type "object"] "ValueError.__new__"=true) (gaLeafError:aQ K (.ref cLeafError) "__getattribute__"=some (some (.builtin "BaseException.__getattribute__"))) (clLeafError:aQ K (.ref cLeafError) "__class__"=some (some (.builtin "object.__class__"))) (noLeafError:aQ K (.ref cLeafError) "__getattr__"=some none) (sbLeafError:bA K cLeafError (.type "BaseException")=some true) (obLeafError:bA K cLeafError (.type "object")=some true) (isLeafError:(cD K cLeafError).isSome=true)
  (X1:gY K (.ref cNoSet) (.ref cLeafError)=some true)
  (X2:([cNoWeb,cTooGreat,cNoSet,cTaken,cTooMany,cNoTie,cApart,cNoText,cLeafError].map λa=>bF K (.ref cNoSet) (.ref a))=[some false,some false,some true,some false,some false,some false,some false,some false,some true])
  (X3:bF K (.ref cNoSet) (.type "ValueError")=some true)
  (z1:aZ K mainGlobals "len"=some none) (z2:aZ K mainGlobals "range"=some none) (z3:aZ K mainGlobals "list"=some none) (z4:aZ K mainGlobals "tuple"=some none) (z5:aZ K mainGlobals "sorted"=some none) (z6:aZ K mainGlobals "min"=some none) (z7:aZ K mainGlobals "max"=some none) (z8:aZ K mainGlobals "int"=some none) (z9:aZ K mainGlobals "reversed"=some none) (z10:aZ K mainGlobals "isinstance"=some none) (z11:aZ K mainGlobals "bool"=some none) (z12:aZ K mainGlobals "all"=some none) (z13:aZ K mainGlobals "set"=some none) (z14:aZ K mainGlobals "enumerate"=some none) (z15:aZ K mainGlobals "zip"=some none) (z16:aZ K mainGlobals "sum"=some none) (z17:aZ K mainGlobals "any"=some none) (z18:aZ K mainGlobals "ValueError"=some none) :
  ∃ fd:FuncData,(∀(s:Shared) (v:Value),BindsTo s fd ⟨[v],[]⟩ [("_law_script",v)])/\∀ base:Heap,K.In base->base.Ns mainGlobals mg->g4 base cLm tLm->Bm mg base->C0 l.prog w K mg base CX0 22 fa fd ["_law_script"] (a1h K tLm):=by
 have e:=hfa.symm.trans (aC X G a50);cases e;have B:Bt mg:=⟨ba X G z1,ba X G z2,ba X G z3,ba X G z4,ba X G z5,ba X G z6,ba X G z7,ba X G z8,ba X G z9⟩
 have C:Bt2 mg:=⟨ba X G z10,ba X G z11,ba X G z12,ba X G z13,ba X G z14,ba X G z15⟩
 have C3:Bt3 mg:=⟨ba X G z16,ba X G z17⟩
 have C7:=ba X G z18;have ZTooGreat:Q2 K mg "TooGreat" cTooGreat:=⟨aC X G qTooGreat,eTooGreat,⟨gaTooGreat,clTooGreat,noTooGreat,sbTooGreat,obTooGreat,isTooGreat⟩⟩
 have ZNoSet:Q2 K mg "NoSet" cNoSet:=⟨aC X G qNoSet,eNoSet,⟨gaNoSet,clNoSet,noNoSet,sbNoSet,obNoSet,isNoSet⟩⟩
 have ZNoWeb:Q2 K mg "NoWeb" cNoWeb:=⟨aC X G qNoWeb,eNoWeb,⟨gaNoWeb,clNoWeb,noNoWeb,sbNoWeb,obNoWeb,isNoWeb⟩⟩
 have ZTaken:Q2 K mg "Taken" cTaken:=⟨aC X G qTaken,eTaken,⟨gaTaken,clTaken,noTaken,sbTaken,obTaken,isTaken⟩⟩
 have ZTooMany:Q2 K mg "TooMany" cTooMany:=⟨aC X G qTooMany,eTooMany,⟨gaTooMany,clTooMany,noTooMany,sbTooMany,obTooMany,isTooMany⟩⟩
 have ZNoTie:Q2 K mg "NoTie" cNoTie:=⟨aC X G qNoTie,eNoTie,⟨gaNoTie,clNoTie,noNoTie,sbNoTie,obNoTie,isNoTie⟩⟩
 have ZApart:Q2 K mg "Apart" cApart:=⟨aC X G qApart,eApart,⟨gaApart,clApart,noApart,sbApart,obApart,isApart⟩⟩
 have ZNoText:Q2 K mg "NoText" cNoText:=⟨aC X G qNoText,eNoText,⟨gaNoText,clNoText,noNoText,sbNoText,obNoText,isNoText⟩⟩
 have ZLeafError:Q2 K mg "LeafError" cLeafError:=⟨aC X G qLeafError,eLeafError,⟨gaLeafError,clLeafError,noLeafError,sbLeafError,obLeafError,isLeafError⟩⟩
 have M1:=aC X G y1;have F1:=C5 (st:=top 50) l1 c1 k1;have D1:Df K mg "_law_mixed" (top 50) f1 _ ["_law_cell", "_law_k"]:=⟨F1,F1.binds λ_ _ _ _ _ _ us hl=>L2.al2 (P:=λus=>bindArgs _ ⟨us,[]⟩=pure (bh _ us)) (λ_ _=>rfl) us hl,aC X G a1⟩
 have F2:=C5 (st:=top 52) l2 c2 k2;have D2:Df K mg "_law_next" (top 52) f2 _ ["_law_deck_here"]:=⟨F2,F2.binds λ_ _ _ _ _ _ us hl=>L2.al1 (P:=λus=>bindArgs _ ⟨us,[]⟩=pure (bh _ us)) (λ_=>rfl) us hl,aC X G a2⟩
 have F3:=C5 (st:=top 51) l3 c3 k3;have D3:Df K mg "_law_deck" (top 51) f3 _ ["_law_script", "_law_many"]:=⟨F3,F3.binds λ_ _ _ _ _ _ us hl=>L2.al2 (P:=λus=>bindArgs _ ⟨us,[]⟩=pure (bh _ us)) (λ_ _=>rfl) us hl,aC X G a3⟩
 have F4:=C5 (st:=top 53) l4 c4 k4;have D4:Df K mg "_law_turn" (top 53) f4 _ ["_law_deck_here", "_law_many"]:=⟨F4,F4.binds λ_ _ _ _ _ _ us hl=>L2.al2 (P:=λus=>bindArgs _ ⟨us,[]⟩=pure (bh _ us)) (λ_ _=>rfl) us hl,aC X G a4⟩
 have F5:=C5 (st:=top 54) l5 c5 k5;have D5:Df K mg "_law_web" (top 54) f5 _ ["_law_deck_here", "_law_least", "_law_most"]:=⟨F5,F5.binds λ_ _ _ _ _ _ us hl=>L2.al3 (P:=λus=>bindArgs _ ⟨us,[]⟩=pure (bh _ us)) (λ_ _ _=>rfl) us hl,aC X G a5⟩
 have F6:=C5 (st:=top 55) l6 c6 k6;have D6:Df K mg "_law_near" (top 55) f6 _ ["_law_web_here"]:=⟨F6,F6.binds λ_ _ _ _ _ _ us hl=>L2.al1 (P:=λus=>bindArgs _ ⟨us,[]⟩=pure (bh _ us)) (λ_=>rfl) us hl,aC X G a6⟩
 have F7:=C5 (st:=top 15) l7 c7 k7;have D7:Df K mg "neighbour_rows" (top 15) f7 _ ["web"]:=⟨F7,F7.binds λ_ _ _ _ _ _ us hl=>L2.al1 (P:=λus=>bindArgs _ ⟨us,[]⟩=pure (bh _ us)) (λ_=>rfl) us hl,aC X G a7⟩
 have F8:=C5 (st:=top 1) l8 c8 k8;have D8:Df K mg "is_int" (top 1) f8 _ ["thing"]:=⟨F8,F8.binds λ_ _ _ _ _ _ us hl=>L2.al1 (P:=λus=>bindArgs _ ⟨us,[]⟩=pure (bh _ us)) (λ_=>rfl) us hl,aC X G a8⟩
 have F9:=C5 (st:=top 2) l9 c9 k9;have D9:Df K mg "is_between" (top 2) f9 _ ["thing", "least", "most"]:=⟨F9,F9.binds λ_ _ _ _ _ _ us hl=>L2.al3 (P:=λus=>bindArgs _ ⟨us,[]⟩=pure (bh _ us)) (λ_ _ _=>rfl) us hl,aC X G a9⟩
 have F10:=C5 (st:=top 20) l10 c10 k10;have D10:Df K mg "is_place" (top 20) f10 _ ["web", "thing"]:=⟨F10,F10.binds λ_ _ _ _ _ _ us hl=>L2.al2 (P:=λus=>bindArgs _ ⟨us,[]⟩=pure (bh _ us)) (λ_ _=>rfl) us hl,aC X G a10⟩
 have F11:=C5 (st:=top 14) l11 c11 k11;have D11:Df K mg "is_rising" (top 14) f11 _ ["items"]:=⟨F11,F11.binds λ_ _ _ _ _ _ us hl=>L2.al1 (P:=λus=>bindArgs _ ⟨us,[]⟩=pure (bh _ us)) (λ_=>rfl) us hl,aC X G a11⟩
 have F12:=C5 (st:=top 21) l12 c12 k12;have D12:Df K mg "is_place_row" (top 21) f12 _ ["web", "thing"]:=⟨F12,F12.binds λ_ _ _ _ _ _ us hl=>L2.al2 (P:=λus=>bindArgs _ ⟨us,[]⟩=pure (bh _ us)) (λ_ _=>rfl) us hl,aC X G a12⟩
 have F13:=C5 (st:=top 16) l13 c13 k13;have D13:Df K mg "touched" (top 16) f13 _ ["web", "places"]:=⟨F13,F13.binds λ_ _ _ _ _ _ us hl=>L2.al2 (P:=λus=>bindArgs _ ⟨us,[]⟩=pure (bh _ us)) (λ_ _=>rfl) us hl,aC X G a13⟩
 have F14:=C5 (st:=top 17) l14 c14 k14;have D14:Df K mg "piece_from" (top 17) f14 _ ["rows", "among", "start"]:=⟨F14,F14.binds λ_ _ _ _ _ _ us hl=>L2.al3 (P:=λus=>bindArgs _ ⟨us,[]⟩=pure (bh _ us)) (λ_ _ _=>rfl) us hl,aC X G a14⟩
 have F15:=C5 (st:=top 18) l15 c15 k15;have D15:Df K mg "pieces" (top 18) f15 _ ["web", "places"]:=⟨F15,F15.binds λ_ _ _ _ _ _ us hl=>L2.al2 (P:=λus=>bindArgs _ ⟨us,[]⟩=pure (bh _ us)) (λ_ _=>rfl) us hl,aC X G a15⟩
 have F16:=C5 (st:=top 22) l16 c16 k16;have D16:Df K mg "lot_rows" (top 22) f16 _ ["web"]:=⟨F16,F16.binds λ_ _ _ _ _ _ us hl=>L2.al1 (P:=λus=>bindArgs _ ⟨us,[]⟩=pure (bh _ us)) (λ_=>rfl) us hl,aC X G a16⟩
 have F17:=C5 (st:=top 23) l17 c17 k17;have D17:Df K mg "have_common" (top 23) f17 _ ["one", "other"]:=⟨F17,F17.binds λ_ _ _ _ _ _ us hl=>L2.al2 (P:=λus=>bindArgs _ ⟨us,[]⟩=pure (bh _ us)) (λ_ _=>rfl) us hl,aC X G a17⟩
 have F18:=C5 (st:=top 24) l18 c18 k18;have D18:Df K mg "places_but" (top 24) f18 _ ["web", "some"]:=⟨F18,F18.binds λ_ _ _ _ _ _ us hl=>L2.al2 (P:=λus=>bindArgs _ ⟨us,[]⟩=pure (bh _ us)) (λ_ _=>rfl) us hl,aC X G a18⟩
 have F19:=C5 (st:=top 25) l19 c19 k19;have D19:Df K mg "free_places" (top 25) f19 _ ["web", "held", "barred"]:=⟨F19,F19.binds λ_ _ _ _ _ _ us hl=>L2.al3 (P:=λus=>bindArgs _ ⟨us,[]⟩=pure (bh _ us)) (λ_ _ _=>rfl) us hl,aC X G a19⟩
 have F20:=C5 (st:=top 27) l20 c20 k20;have D20:Df K mg "price_of" (top 27) f20 _ ["prices", "places"]:=⟨F20,F20.binds λ_ _ _ _ _ _ us hl=>L2.al2 (P:=λus=>bindArgs _ ⟨us,[]⟩=pure (bh _ us)) (λ_ _=>rfl) us hl,aC X G a20⟩
 have F21:=C5 (st:=top 39) l21 c21 k21;have D21:Df K mg "is_over" (top 39) f21 _ ["prices", "held", "limit"]:=⟨F21,F21.binds λ_ _ _ _ _ _ us hl=>L2.al3 (P:=λus=>bindArgs _ ⟨us,[]⟩=pure (bh _ us)) (λ_ _ _=>rfl) us hl,aC X G a21⟩
 have F22:=C5 (st:=top 28) l22 c22 k22;have D22:Df K mg "added" (top 28) f22 _ ["fractions"]:=⟨F22,F22.binds λ_ _ _ _ _ _ us hl=>L2.al1 (P:=λus=>bindArgs _ ⟨us,[]⟩=pure (bh _ us)) (λ_=>rfl) us hl,aC X G a22⟩
 have F23:=C5 (st:=top 30) l23 c23 k23;have D23:Df K mg "worth_added" (top 30) f23 _ ["prices", "held", "shares"]:=⟨F23,F23.binds λ_ _ _ _ _ _ us hl=>L2.al3 (P:=λus=>bindArgs _ ⟨us,[]⟩=pure (bh _ us)) (λ_ _ _=>rfl) us hl,aC X G a23⟩
 have F24:=C5 (st:=top 31) l24 c24 k24;have D24:Df K mg "is_worth_above" (top 31) f24 _ ["prices", "held", "shares", "limit"]:=⟨F24,F24.binds λ_ _ _ _ _ _ us hl=>L2.al4 (P:=λus=>bindArgs _ ⟨us,[]⟩=pure (bh _ us)) (λ_ _ _ _=>rfl) us hl,aC X G a24⟩
 have F25:=C5 (st:=top 32) l25 c25 k25;have D25:Df K mg "share_left" (top 32) f25 _ ["lot", "left", "held", "barred"]:=⟨F25,F25.binds λ_ _ _ _ _ _ us hl=>L2.al4 (P:=λus=>bindArgs _ ⟨us,[]⟩=pure (bh _ us)) (λ_ _ _ _=>rfl) us hl,aC X G a25⟩
 have F26:=C5 (st:=top 33) l26 c26 k26;have D26:Df K mg "raised" (top 33) f26 _ ["web", "prices", "held", "barred", "order"]:=⟨F26,F26.binds λ_ _ _ _ _ _ us hl=>L2.al5 (P:=λus=>bindArgs _ ⟨us,[]⟩=pure (bh _ us)) (λ_ _ _ _ _=>rfl) us hl,aC X G a26⟩
 have F27:=C5 (st:=top 35) l27 c27 k27;have D27:Df K mg "is_thin" (top 35) f27 _ ["web", "held", "barred", "limit"]:=⟨F27,F27.binds λ_ _ _ _ _ _ us hl=>L2.al4 (P:=λus=>bindArgs _ ⟨us,[]⟩=pure (bh _ us)) (λ_ _ _ _=>rfl) us hl,aC X G a27⟩
 have F28:=C5 (st:=top 40) l28 c28 k28;have D28:Df K mg "is_known_thin" (top 40) f28 _ ["web", "prices", "held", "barred", "limit"]:=⟨F28,F28.binds λ_ _ _ _ _ _ us hl=>L2.al5 (P:=λus=>bindArgs _ ⟨us,[]⟩=pure (bh _ us)) (λ_ _ _ _ _=>rfl) us hl,aC X G a28⟩
 have F29:=C5 (st:=top 37) l29 c29 k29;have D29:Df K mg "why_not" (top 37) f29 _ ["web", "held", "barred"]:=⟨F29,F29.binds λ_ _ _ _ _ _ us hl=>L2.al3 (P:=λus=>bindArgs _ ⟨us,[]⟩=pure (bh _ us)) (λ_ _ _=>rfl) us hl,aC X G a29⟩
 have F30:=C5 (st:=top 42) l30 c30 k30;have D30:Df K mg "right_set" (top 42) f30 _ ["web", "thing"]:=⟨F30,F30.binds λ_ _ _ _ _ _ us hl=>L2.al2 (P:=λus=>bindArgs _ ⟨us,[]⟩=pure (bh _ us)) (λ_ _=>rfl) us hl,aC X G a30⟩
 have F31:=C5 (st:=top 26) l31 c31 k31;have D31:Df K mg "with_place" (top 26) f31 _ ["places", "place"]:=⟨F31,F31.binds λ_ _ _ _ _ _ us hl=>L2.al2 (P:=λus=>bindArgs _ ⟨us,[]⟩=pure (bh _ us)) (λ_ _=>rfl) us hl,aC X G a31⟩
 have F32:=C5 (st:=top 45) l32 c32 k32;have D32:Df K mg "end_of" (top 45) f32 _ ["web", "prices", "held", "barred", "limit"]:=⟨F32,F32.binds λ_ _ _ _ _ _ us hl=>L2.al5 (P:=λus=>bindArgs _ ⟨us,[]⟩=pure (bh _ us)) (λ_ _ _ _ _=>rfl) us hl,aC X G a32⟩
 have F33:=C5 (st:=top 46) l33 c33 k33;have D33:Df K mg "place_to_part" (top 46) f33 _ ["web", "held", "barred"]:=⟨F33,F33.binds λ_ _ _ _ _ _ us hl=>L2.al3 (P:=λus=>bindArgs _ ⟨us,[]⟩=pure (bh _ us)) (λ_ _ _=>rfl) us hl,aC X G a33⟩
 have F34:=C5 (st:=top 47) l34 c34 k34;have D34:Df K mg "best_and_cases" (top 47) f34 _ ["web", "prices", "held", "barred", "best"]:=⟨F34,F34.binds λ_ _ _ _ _ _ us hl=>L2.al5 (P:=λus=>bindArgs _ ⟨us,[]⟩=pure (bh _ us)) (λ_ _ _ _ _=>rfl) us hl,aC X G a34⟩
 have F35:=C5 (st:=top 48) l35 c35 k35;have D35:Df K mg "cheapest_set" (top 48) f35 _ ["web", "prices", "held", "barred"]:=⟨F35,F35.binds λ_ _ _ _ _ _ us hl=>L2.al4 (P:=λus=>bindArgs _ ⟨us,[]⟩=pure (bh _ us)) (λ_ _ _ _=>rfl) us hl,aC X G a35⟩
 have F36:=C5 (st:=top 67) l36 c36 k36;have D36:Df K mg "_law_refusal" (top 67) f36 _ ["_law_error"]:=⟨F36,F36.binds λ_ _ _ _ _ _ us hl=>L2.al1 (P:=λus=>bindArgs _ ⟨us,[]⟩=pure (bh _ us)) (λ_=>rfl) us hl,aC X G a36⟩
 have F37:=C5 (st:=top 68) l37 c37 k37;have D37:Df K mg "_law_told_set" (top 68) f37 _ ["_law_web_here", "_law_prices_here", "_law_held", "_law_barred"]:=⟨F37,F37.binds λ_ _ _ _ _ _ us hl=>L2.al4 (P:=λus=>bindArgs _ ⟨us,[]⟩=pure (bh _ us)) (λ_ _ _ _=>rfl) us hl,aC X G a37⟩
 have F38:=C5 (st:=top 56) l38 c38 k38;have D38:Df K mg "_law_reach" (top 56) f38 _ ["_law_near_here", "_law_start", "_law_allowed"]:=⟨F38,F38.binds λ_ _ _ _ _ _ us hl=>L2.al3 (P:=λus=>bindArgs _ ⟨us,[]⟩=pure (bh _ us)) (λ_ _ _=>rfl) us hl,aC X G a38⟩
 have F39:=C5 (st:=top 57) l39 c39 k39;have D39:Df K mg "_law_hang" (top 57) f39 _ ["_law_near_here", "_law_places"]:=⟨F39,F39.binds λ_ _ _ _ _ _ us hl=>L2.al2 (P:=λus=>bindArgs _ ⟨us,[]⟩=pure (bh _ us)) (λ_ _=>rfl) us hl,aC X G a39⟩
 have F40:=C5 (st:=top 58) l40 c40 k40;have D40:Df K mg "_law_touched" (top 58) f40 _ ["_law_near_here", "_law_places"]:=⟨F40,F40.binds λ_ _ _ _ _ _ us hl=>L2.al2 (P:=λus=>bindArgs _ ⟨us,[]⟩=pure (bh _ us)) (λ_ _=>rfl) us hl,aC X G a40⟩
 have F41:=C5 (st:=top 59) l41 c41 k41;have D41:Df K mg "_law_is_set" (top 59) f41 _ ["_law_near_here", "_law_places"]:=⟨F41,F41.binds λ_ _ _ _ _ _ us hl=>L2.al2 (P:=λus=>bindArgs _ ⟨us,[]⟩=pure (bh _ us)) (λ_ _=>rfl) us hl,aC X G a41⟩
 have F42:=C5 (st:=top 60) l42 c42 k42;have D42:Df K mg "_law_all_sets" (top 60) f42 _ ["_law_near_here"]:=⟨F42,F42.binds λ_ _ _ _ _ _ us hl=>L2.al1 (P:=λus=>bindArgs _ ⟨us,[]⟩=pure (bh _ us)) (λ_=>rfl) us hl,aC X G a42⟩
 have F43:=C5 (st:=top 61) l43 c43 k43;have D43:Df K mg "_law_is_int" (top 61) f43 _ ["_law_thing", "_law_least", "_law_most"]:=⟨F43,F43.binds λ_ _ _ _ _ _ us hl=>L2.al3 (P:=λus=>bindArgs _ ⟨us,[]⟩=pure (bh _ us)) (λ_ _ _=>rfl) us hl,aC X G a43⟩
 have F44:=C5 (st:=top 62) l44 c44 k44;have D44:Df K mg "_law_is_places" (top 62) f44 _ ["_law_thing", "_law_many"]:=⟨F44,F44.binds λ_ _ _ _ _ _ us hl=>L2.al2 (P:=λus=>bindArgs _ ⟨us,[]⟩=pure (bh _ us)) (λ_ _=>rfl) us hl,aC X G a44⟩
 have F45:=C5 (st:=top 63) l45 c45 k45;have D45:Df K mg "_law_state" (top 63) f45 _ ["_law_deck_here", "_law_places"]:=⟨F45,F45.binds λ_ _ _ _ _ _ us hl=>L2.al2 (P:=λus=>bindArgs _ ⟨us,[]⟩=pure (bh _ us)) (λ_ _=>rfl) us hl,aC X G a45⟩
 have F46:=C5 (st:=top 64) l46 c46 k46;have D46:Df K mg "_law_prices" (top 64) f46 _ ["_law_deck_here", "_law_places"]:=⟨F46,F46.binds λ_ _ _ _ _ _ us hl=>L2.al2 (P:=λus=>bindArgs _ ⟨us,[]⟩=pure (bh _ us)) (λ_ _=>rfl) us hl,aC X G a46⟩
 have F47:=C5 (st:=top 65) l47 c47 k47;have D47:Df K mg "_law_price" (top 65) f47 _ ["_law_prices_here", "_law_places"]:=⟨F47,F47.binds λ_ _ _ _ _ _ us hl=>L2.al2 (P:=λus=>bindArgs _ ⟨us,[]⟩=pure (bh _ us)) (λ_ _=>rfl) us hl,aC X G a47⟩
 have F48:=C5 (st:=top 66) l48 c48 k48;have D48:Df K mg "_law_keeping" (top 66) f48 _ ["_law_near_here", "_law_held", "_law_barred"]:=⟨F48,F48.binds λ_ _ _ _ _ _ us hl=>L2.al3 (P:=λus=>bindArgs _ ⟨us,[]⟩=pure (bh _ us)) (λ_ _ _=>rfl) us hl,aC X G a48⟩
 have F49:=C5 (st:=top 69) l49 c49 k49;have D49:Df K mg "_law_good" (top 69) f49 _ ["_law_web_here", "_law_prices_here", "_law_held", "_law_barred"]:=⟨F49,F49.binds λ_ _ _ _ _ _ us hl=>L2.al4 (P:=λus=>bindArgs _ ⟨us,[]⟩=pure (bh _ us)) (λ_ _ _ _=>rfl) us hl,aC X G a49⟩
 have F50:=C5 (st:=top 70) l50 c50 k50;refine⟨cj "law" "law" (P7 (top 70)) (M9 (top 70)) (A4 (top 70)) .none kV50 dc50 pm50 an50 cd50 ct50,λs v=>.of_eq rfl,λbase _ _ CL BL=>?_⟩;have O1:=a8U (P:=l.prog) (w:=w) (base:=base) F1 B;have O2:=b0N (P:=l.prog) (w:=w) (base:=base) F2 B;have O3:=b0R (P:=l.prog) (w:=w) (base:=base) F3 B D1 O1;have O4:=b0I (P:=l.prog) (w:=w) (base:=base) F4 B D2 O2;have O5:=b0G (P:=l.prog) (w:=w) (base:=base) F5 B D2 O2 D4 O4;have O6:=b0O (P:=l.prog) (w:=w) (base:=base) F6 B;have O7:=a8T (P:=l.prog) (w:=w) (base:=base) F7 B;have O8:=b0L (P:=l.prog) (w:=w) (base:=base) F8 B C;have O9:=a8S (P:=l.prog) (w:=w) (base:=base) F9 B D8 O8;have O10:=a5v (P:=l.prog) (w:=w) (base:=base) F10 B D9 O9;have O11:=b0K (P:=l.prog) (w:=w) (base:=base) F11 B;have O12:=b0H (P:=l.prog) (w:=w) (base:=base) F12 B D10 O10 D11 O11 C;have O13:=a5p (P:=l.prog) (w:=w) (base:=base) F13 B D7 O7;have O14:=a8R (P:=l.prog) (w:=w) (base:=base) F14 B;have O15:=a7e (P:=l.prog) (w:=w) (base:=base) F15 B D7 O7 D14 O14;have O16:=b0Q (P:=l.prog) (w:=w) (base:=base) F16 B D7 O7 C;have O17:=a7k (P:=l.prog) (w:=w) (base:=base) F17 B C3;have O18:=b0M (P:=l.prog) (w:=w) (base:=base) F18 B;have O19:=a5w (P:=l.prog) (w:=w) (base:=base) F19 B D18 O18;have O20:=a5u (P:=l.prog) (w:=w) (base:=base) F20 B C3;have O21:=a7i (P:=l.prog) (w:=w) (base:=base) F21 B D20 O20;have O22:=a7l (P:=l.prog) (w:=w) (base:=base) F22 B;have O23:=a8O (P:=l.prog) (w:=w) (base:=base) F23 B D20 O20 D22 O22;have O24:=a5o (P:=l.prog) (w:=w) (base:=base) F24 B D23 O23;have O25:=a7d (P:=l.prog) (w:=w) (base:=base) F25 B D17 O17;have O26:=a5s (P:=l.prog) (w:=w) (base:=base) F26 B D16 O16 D25 O25;have O27:=a7h (P:=l.prog) (w:=w) (base:=base) F27 B D7 O7 D19 O19 D20 O20 C3;have O28:=a7g (P:=l.prog) (w:=w) (base:=base) F28 B D27 O27 C;have O29:=a7c (P:=l.prog) (w:=w) (base:=base) F29 B D18 O18 D16 O16 D17 O17 D15 O15 C;have O30:=b0J (P:=l.prog) (w:=w) (base:=base) F30 B D12 O12 D15 O15 D13 O13;have O31:=a7b (P:=l.prog) (w:=w) (base:=base) F31 B;have O32:=a8Z (P:=l.prog) (w:=w) (base:=base) F32 B D21 O21 D29 O29 D26 O26 D24 O24 D28 O28;have O33:=b2P (P:=l.prog) (w:=w) (base:=base) l33 c33 CL BL B D19 O19 D13 O13 D16 O16;have O34_1:=R3 (r:=0) (m:=0) (P:=l.prog) (w:=w) (base:=base) F34 B D20 O20 D32 O32 D30 O30 D33 O33 D31 O31 D34 (b4O λ_ _ _ _ z=>z);have O34_2:=R3 (P:=l.prog) (w:=w) (base:=base) F34 B D20 O20 D32 O32 D30 O30 D33 O33 D31 O31 D34 O34_1;have O34_3:=R3 (P:=l.prog) (w:=w) (base:=base) F34 B D20 O20 D32 O32 D30 O30 D33 O33 D31 O31 D34 O34_2;have O34_4:=R3 (P:=l.prog) (w:=w) (base:=base) F34 B D20 O20 D32 O32 D30 O30 D33 O33 D31 O31 D34 O34_3;have O34_5:=R3 (P:=l.prog) (w:=w) (base:=base) F34 B D20 O20 D32 O32 D30 O30 D33 O33 D31 O31 D34 O34_4;have O34_6:=R3 (P:=l.prog) (w:=w) (base:=base) F34 B D20 O20 D32 O32 D30 O30 D33 O33 D31 O31 D34 O34_5;have O34_7:=R3 (P:=l.prog) (w:=w) (base:=base) F34 B D20 O20 D32 O32 D30 O30 D33 O33 D31 O31 D34 O34_6;have O34_8:=R3 (P:=l.prog) (w:=w) (base:=base) F34 B D20 O20 D32 O32 D30 O30 D33 O33 D31 O31 D34 O34_7;have O34_9:=R3 (P:=l.prog) (w:=w) (base:=base) F34 B D20 O20 D32 O32 D30 O30 D33 O33 D31 O31 D34 O34_8;have O34_10:=R3 (P:=l.prog) (w:=w) (base:=base) F34 B D20 O20 D32 O32 D30 O30 D33 O33 D31 O31 D34 O34_9;have O34_11:=R3 (P:=l.prog) (w:=w) (base:=base) F34 B D20 O20 D32 O32 D30 O30 D33 O33 D31 O31 D34 O34_10;have O34_12:=R3 (P:=l.prog) (w:=w) (base:=base) F34 B D20 O20 D32 O32 D30 O30 D33 O33 D31 O31 D34 O34_11;have O34:=R3 (P:=l.prog) (w:=w) (base:=base) F34 B D20 O20 D32 O32 D30 O30 D33 O33 D31 O31 D34 O34_12;have O35:=a9a (P:=l.prog) (w:=w) (base:=base) F35 B ZTooGreat ZNoSet D29 O29 D18 O18 D34 O34 M1;have O36:=a5r (P:=l.prog) (w:=w) (base:=base) F36 B ZNoWeb ZTooGreat ZNoSet ZTaken ZTooMany ZNoTie ZApart ZNoText ZLeafError C C7;have O37:=a5q (P:=l.prog) (w:=w) (base:=base) F37 B ZNoWeb ZTooGreat ZNoSet ZTaken ZTooMany ZNoTie ZApart ZNoText ZLeafError D35 O35 D36 O36 X1 X2 X3;have O38:=a8Q (P:=l.prog) (w:=w) (base:=base) F38 B;have O39:=a8Y (P:=l.prog) (w:=w) (base:=base) F39 B D38 O38;have O40:=b0P (P:=l.prog) (w:=w) (base:=base) F40 B;have O41:=a8W (P:=l.prog) (w:=w) (base:=base) F41 B D39 O39 D40 O40;have O42:=a5x (P:=l.prog) (w:=w) (base:=base) F42 B D41 O41;have O43:=a8X (P:=l.prog) (w:=w) (base:=base) F43 B C;have O44:=a4y (P:=l.prog) (w:=w) (base:=base) F44 B D43 O43 C;have O45:=a8P (P:=l.prog) (w:=w) (base:=base) F45 B D2 O2;have O46:=a5t (P:=l.prog) (w:=w) (base:=base) F46 B D2 O2;have O47:=a7f (P:=l.prog) (w:=w) (base:=base) F47 B C3;have O48:=a4x (P:=l.prog) (w:=w) (base:=base) F48 B D42 O42;have O49:=a7j (P:=l.prog) (w:=w) (base:=base) F49 B D6 O6 D48 O48 D37 O37 D44 O44 D47 O47 C;exact a8V F50 B D3 O3 D5 O5 D46 O46 D45 O45 D49 O49
theorem walk {l:fM}{q:Program}{loose:List Str}{XP:(Str->Option Value)->Heap->Prop}{YP:World->Heap->Prop}{d:DefRec}{K:Params->ac}{c tb:Addr}(hn:l.most=some 63)(hdf:d.params.defaults=[])
  (hY:∀(w:World) (h:Heap),YP w h->(K w.params).In h/\h.get? tb=some (PySem.W.tabObj #[])) (hC:∀ w:World,PySem.W.codeHdIn (K w.params) c tb=true) (hK:∀ w:World,(K w.params).lookup tb=none)
  (F:∀(w:World) (mg:Str->Option Value) (fa:Addr) (h:Heap),(K w.params).In h->h.Ns mainGlobals mg->mg d.name=some (.ref fa) ->
   ∃ fd:FuncData,(∀(s:Shared) (u:Value),BindsTo s fd ⟨[u],[]⟩ [("_law_script",u)])/\∀ base:Heap,(K w.params).In base->base.Ns mainGlobals mg->g4 base c tb->Bm mg base->C0 l.prog w (K w.params) mg base CX0 22 fa fd ["_law_script"] (a1h (K w.params) tb)) :
  ig q loose XP YP l.row.toRowW d [] (λf vs=>iu f vs) :=
 L2.a7X (n:=63) (k:=22) (x:="_law_script") (c:=c) (tb:=tb) (sp:=λK=>a1h K tb) hn (by decide) hdf ⟨rfl,by decide,by decide,rfl⟩ hY hC hK F (λ_ _ a ns hl h1 hS=>⟨a,ns,rfl,hS,hl,.inl h1,λ_=>rfl⟩)
end K37
end
open PySem PySem.W PyProof.Rows
set_option maxRecDepth 100000 in
set_option maxHeartbeats 0 in
theorem PySem.Challenge.cw_manyleaves_k37_cheapest_by_all_sets_holds : PySem.Challenge.rw_manyleaves_k37_cheapest_by_all_sets.Holds := by
 w_on;refine holds_law K37.said λsaid=>?_
 refine holds_open (q:=K37.viewP) (loose:=[]) (Xt:=λs=>xlAt K37.viewP [] s && recOk (RowW.records (gZ (iR PySem.Challenge.rw_manyleaves_k37_cheapest_by_all_sets))) s) (XP:=XL K37.viewP []) (Yf:=Hook.obs (kmHook K37.heapK K37.addrs K37.addr [285])) (Ya:=Hook.val (kmHook K37.heapK K37.addrs K37.addr [285])) (YP:=Hook.says (kmHook K37.heapK K37.addrs K37.addr [285])) (N:=7066) K37.left (Hook.of (kmHook K37.heapK K37.addrs K37.addr [285])) (Hook.keeps (kmHook K37.heapK K37.addrs K37.addr [285])) (λs e=>xl_of s (jt.mp e).1) XL.keeps (by rfl) (by rfl) (by rfl) (λs e=>recFacts_of (jt.mp e).2) (by rfl) said (by decide +kernel) ⟨rfl,rfl,rfl,rfl,rfl,by decide +kernel⟩ ?hw ?hc
 (case hw=>w_witness2)
 k_fill
 refine K37.walk (K:=K37.heapK) (c:=287) (tb:=285) (l:=PySem.Challenge.rw_manyleaves_k37_cheapest_by_all_sets) rfl rfl (λw h Y=>⟨PySem.W.km_in_of Y,PySem.W.km_tabs_of Y _ (aq.mpr rfl)⟩) (λw=>by kernel_rfl) (λw=>by kernel_rfl) ?F
 case F =>
  intro w mg fa h KX G hmg;refine' K37.all_mk KX G hmg ?a1 ?l1 ?c1 ?k1 ?a2 ?l2 ?c2 ?k2 ?a3 ?l3 ?c3 ?k3 ?a4 ?l4 ?c4 ?k4 ?a5 ?l5 ?c5 ?k5 ?a6 ?l6 ?c6 ?k6 ?a7 ?l7 ?c7 ?k7 ?a8 ?l8 ?c8 ?k8 ?a9 ?l9 ?c9 ?k9 ?a10 ?l10 ?c10 ?k10 ?a11 ?l11 ?c11 ?k11 ?a12 ?l12 ?c12 ?k12 ?a13 ?l13 ?c13 ?k13 ?a14 ?l14 ?c14 ?k14 ?a15 ?l15 ?c15 ?k15 ?a16 ?l16 ?c16 ?k16 ?a17 ?l17 ?c17 ?k17 ?a18 ?l18 ?c18 ?k18 ?a19 ?l19 ?c19 ?k19 ?a20 ?l20 ?c20 ?k20 ?a21 ?l21 ?c21 ?k21 ?a22 ?l22 ?c22 ?k22 ?a23 ?l23 ?c23 ?k23 ?a24 ?l24 ?c24 ?k24 ?a25 ?l25 ?c25 ?k25 ?a26 ?l26 ?c26 ?k26 ?a27 ?l27 ?c27 ?k27 ?a28 ?l28 ?c28 ?k28 ?a29 ?l29 ?c29 ?k29 ?a30 ?l30 ?c30 ?k30 ?a31 ?l31 ?c31 ?k31 ?a32 ?l32 ?c32 ?k32 ?a33 ?l33 ?c33 ?k33 ?a34 ?l34 ?c34 ?k34 ?a35 ?l35 ?c35 ?k35 ?a36 ?l36 ?c36 ?k36 ?a37 ?l37 ?c37 ?k37 ?a38 ?l38 ?c38 ?k38 ?a39 ?l39 ?c39 ?k39 ?a40 ?l40 ?c40 ?k40 ?a41 ?l41 ?c41 ?k41 ?a42 ?l42 ?c42 ?k42 ?a43 ?l43 ?c43 ?k43 ?a44 ?l44 ?c44 ?k44 ?a45 ?l45 ?c45 ?k45 ?a46 ?l46 ?c46 ?k46 ?a47 ?l47 ?c47 ?k47 ?a48 ?l48 ?c48 ?k48 ?a49 ?l49 ?c49 ?k49 ?a50 ?l50 ?c50 ?k50 ?y1 ?qTooGreat ?eTooGreat ?gaTooGreat ?clTooGreat ?noTooGreat ?sbTooGreat ?obTooGreat ?isTooGreat ?qNoSet ?eNoSet ?gaNoSet ?clNoSet ?noNoSet ?sbNoSet ?obNoSet ?isNoSet ?qNoWeb ?eNoWeb ?gaNoWeb ?clNoWeb ?noNoWeb ?sbNoWeb ?obNoWeb ?isNoWeb ?qTaken ?eTaken ?gaTaken ?clTaken ?noTaken ?sbTaken ?obTaken ?isTaken ?qTooMany ?eTooMany ?gaTooMany ?clTooMany ?noTooMany ?sbTooMany ?obTooMany ?isTooMany ?qNoTie ?eNoTie ?gaNoTie ?clNoTie ?noNoTie ?sbNoTie ?obNoTie ?isNoTie ?qApart ?eApart ?gaApart ?clApart ?noApart ?sbApart ?obApart ?isApart ?qNoText ?eNoText ?gaNoText ?clNoText ?noNoText ?sbNoText ?obNoText ?isNoText ?qLeafError ?eLeafError ?gaLeafError ?clLeafError ?noLeafError ?sbLeafError ?obLeafError ?isLeafError ?X1 ?X2 ?X3 ?z1 ?z2 ?z3 ?z4 ?z5 ?z6 ?z7 ?z8 ?z9 ?z10 ?z11 ?z12 ?z13 ?z14 ?z15 ?z16 ?z17 ?z18
  (case a1|a2|a3|a4|a5|a6|a7|a8|a9|a10|a11|a12|a13|a14|a15|a16|a17|a18|a19|a20|a21|a22|a23|a24|a25|a26|a27|a28|a29|a30|a31|a32|a33|a34|a35|a36|a37|a38|a39|a40|a41|a42|a43|a44|a45|a46|a47|a48|a49|a50=>(try unfold K37.A_);k_is)
  (case l1|l2|l3|l4|l5|l6|l7|l8|l9|l10|l11|l12|l13|l14|l15|l16|l17|l18|l19|l20|l21|l22|l23|l24|l25|l26|l27|l28|l29|l30|l31|l32|l33|l34|l35|l36|l37|l38|l39|l40|l41|l42|l43|l44|l45|l46|l47|l48|l49|l50=>(try unfold K37.L_);k_is)
  (case c1|c2|c3|c4|c5|c6|c7|c8|c9|c10|c11|c12|c13|c14|c15|c16|c17|c18|c19|c20|c21|c22|c23|c24|c25|c26|c27|c28|c29|c30|c31|c32|c33|c34|c35|c36|c37|c38|c39|c40|c41|c42|c43|c44|c45|c46|c47|c48|c49|c50=>(try unfold K37.C_);k_is)
  (case k1|k2|k3|k4|k5|k6|k7|k8|k9|k10|k11|k12|k13|k14|k15|k16|k17|k18|k19|k20|k21|k22|k23|k24|k25|k26|k27|k28|k29|k30|k31|k32|k33|k34|k35|k36|k37|k38|k39|k40|k41|k42|k43|k44|k45|k46|k47|k48|k49|k50=>(try unfold K37.J_);k_is)
  (case y1|qTooGreat|gaTooGreat|clTooGreat|noTooGreat|sbTooGreat|obTooGreat|qNoSet|gaNoSet|clNoSet|noNoSet|sbNoSet|obNoSet|qNoWeb|gaNoWeb|clNoWeb|noNoWeb|sbNoWeb|obNoWeb|qTaken|gaTaken|clTaken|noTaken|sbTaken|obTaken|qTooMany|gaTooMany|clTooMany|noTooMany|sbTooMany|obTooMany|qNoTie|gaNoTie|clNoTie|noNoTie|sbNoTie|obNoTie|qApart|gaApart|clApart|noApart|sbApart|obApart|qNoText|gaNoText|clNoText|noNoText|sbNoText|obNoText|qLeafError|gaLeafError|clLeafError|noLeafError|sbLeafError|obLeafError|z1|z2|z3|z4|z5|z6|z7|z8|z9|z10|z11|z12|z13|z14|z15|z16|z17|z18=>k_is)
  (case eTooGreat|isTooGreat|eNoSet|isNoSet|eNoWeb|isNoWeb|eTaken|isTaken|eTooMany|isTooMany|eNoTie|isNoTie|eApart|isApart|eNoText|isNoText|eLeafError|isLeafError|X1|X2|X3=>kernel_rfl)
