import PyProof.Rows.All
import Wide.All
import OpenK.AllK
import Wide.FinOn
import Lean
import PyProof.EqAt
import PyProof.EqKinds
import PyProof.TupleCall
import PySem.SetOps
import PyProof.SetScanFacts
import PyProof.Rows.SetFrom
import PyProof.SetRoads
import PyProof.WalksMore
import PyProof.EnumMake
import PyProof.EnumFor
import PyProof.P3In
import PyProof.Rows.Range3
import PyProof.ZipIter
import PyProof.TupleKey
import PyProof.DictKinds
import PyProof.Rows.SumAny
import PyProof.Rows.SortRev
import PyProof.Rows.SeqMore
import PyProof.ReprRoads
import PyProof.ReprText
import PyProof.ReprBulk
import PyProof.Rows.AssignMoreSeq
import PyProof.DictItems
import PyProof.DictItemsLoops
import KE.KPairComp
import PyProof.Rows.StrJoin2
import PyProof.Rows.StrNews
import PyProof.StrBlock
import KE.KTryMore
import PyProof.NsDelKeeps
import PyProof.ExcArgsOwn
import PyProof.IsiBase
import KE.KIsAll
import PySem.Challenge.RW_manyleaves_k84_places_and_trees
set_option maxHeartbeats 8000000
local macro_rules | `(tactic| omega) => `(tactic| first | lia | omega +splitDisjunctions)
local macro_rules | `(∅) => `(by omega)
local macro_rules | `(⋯) => `(List (Int × Int))
local macro_rules | `(~~~$x) => `(by simpa using $x)
open List renaming length_map->aa,getElem?_eq_getElem->ak,map_cons->am,mem_cons_of_mem->aq,mem_singleton->au,size_toArray->ay,length_cons->az,mem_append->aA,length_append->aB,mem_cons_self->aD,map_append->aF,getElem?_map->aJ,getElem?_eq_some_iff->aK,mem_cons->aO,mem_map->aQ,mem_of_getElem?->aU,take_append_drop->ba,append_assoc->bd,mem_range->bf,mem_append_right->bo,length_take->bq,all_eq_true->br,pairwise_append->bz,map_map->bC,getElem?_append_right->bD,pairwise_singleton->bE,getElem?_append_left->bF,filterMap_cons_some->bL,mem_iff_getElem?->bN,pairwise_iff_getElem->bU,extract_eq_take_drop->bV,zip->b7,length_nil->b8,append_nil->b9,nodup_cons->ce,filterMap_cons_none->cg,take_length->ci,take_add_one->cw,replicate_succ->cy,length->cz,Nodup->cD,perm_append_comm->cE,length_range->cH,filterMap_cons->cI,getElem_mem->cK,drop_of_length_le->cN,nil_append->cS,map_nil->cT,take_sublist->cY,getD_eq_getElem?_getD->cZ,getElem?_zip_eq_some->df,cons_append->dh,zip_cons_cons->dk,pairwise_cons->dm,foldl_cons->dq,find?_cons->dr,getElem?_set_self->du,reverse_cons->dv,flatten_cons->dw,drop_sublist->dy,not_mem_nil->dF,any_cons->dN,getElem_of_mem->dQ,perm_ext_iff_of_nodup->dZ,perm_append_singleton->d4,drop_eq_getElem_cons->eF,length_erase_of_mem->eN,getElem?_take_of_lt->eO,count_append->eQ,map_take->eV,length_drop->fg,getElem_map->fh,take_of_length_le->fq,length_pos_of_mem->fu,getElem?_eq_none->fH,mem_erase_of_ne->fL,mem_append_left->fM,getElem?_set_ne->fN,take_zero->fP,sum_append_nat->fR,mem_map_of_mem->fS,map_congr_left->fT,length_reverse->fU,length_pos_iff->fV,map_drop->fZ,getElem?_drop->gb,take_succ_eq_append_getElem->gg,pairwise_map->gk,foldl->gl,ext_getElem?->gm,of_mem_zip->gN,count_cons->gO,nodup_nil->g5,filterMap_eq_nil_iff->g6,sum_cons->ie,getElem?_cons_zero->ig,getElem?_cons_succ->ii,sum_replicate_nat->io,pairwise_lt_range->ip,pairwise_reverse->iz,mem_of_mem_drop->iL,length_dropLast->iM,map_eq_nil_iff->iQ,set_cons_zero->i3,set_cons_succ->i4,mem_filterMap->i5,map_replicate->i6,find?_eq_none->i7,reverse_perm->jb,any_eq_true->ji
open PySem.W renaming Frag->ae,mg_of->aL,findIn->aP,mg_none_of->bh,nsIn->bj,mroIn->bx,kia_one->bY,clsIn->cj,emptyDict->cp,instObj->cO,fnOf->da,hideAll_get->dI,keepIn->dW,hideAll->eZ,codeIn->fE,callWith_K->fO,methodObj->fX,OpenLaw->gu,exmOne->gD,cellsFrom_some->gW,of_hideAll->iq,kitx_list->iD,kitx_dict->iE,looks_findIn->jg
open PySem renaming wpAny_bind->af,wpAny_pure->ap,wpAny_Call_Name_kw->bM,wpAny_mono->bO,wpAny_holding->bQ,wpAny_setState_of->b5,boot_len->cq,wpAny_truthy_bool->cB,mem_of_lookup->dg,wpAny_ite_split->dA,wpAny_newObj_type->dH,wpAny_call_entry->dS,wpAny_askSetting->dU,call_meets->d9,wpAny_passesOwn->eI,wpAny_execs_nil->eJ,wpAny_storeSet_of->fv,wpAny_comprehension_free->fw,fits_of_scanBound->fz,wpAny_standAt->fI,wpAny_forIn_list->fK,wpAny_specialOf->fW,wpAny_loadName_local->ge,Addr->gf,wpAny_setEntries_of->gs,length_partsBetween->gt,wpAny_Name->gQ,wpAny_isInstance->g8,wpAny_execs_cons->hG,wpAny_of_eq->ij,wpAny_setField->iB,wpAny_seqItems->iC,wpAny_callSpecial?_slot->iU,wpAny_attempt->iV,call->iW,wpAny_typeOf->jd,wpAny_isTrue_Compare1->je,wpAny_eqIsQuiet_tuple->jf,wpAny_newFunctionEnv->jj,wpAny_pyIter_tuple->jl,wpAny_eqBool_tuple->jm,wpAny_pyIter_slot->jo,wpAny_pyIter_list->jp,wpAny_loadPart_at->jq,wpAny_call->jr,wpAny_assign_Name->js,slot_list_getitem->jt
open PyProof.Rows renaming wpS_pure->ag,wpS_bind->ai,callWith_type1->bH,wpS_forRange->bK,boot_isinstance->ck,wpS_mono->cP,callWith_builtin1->dj,wpS_modify->dt,boot_tuple->dJ,boot_str->eU,wpS_get->ff,boot_repr->gG,setArr->gJ,mirror->gK,lt_int->gL,bubble->gM,mirror_perm->im,boot_sorted->jk,slot_str_getitem->ju
open PySem.Heap renaming get?_push_of_some->aj,lt_size->ax,get?_push_size->aX,SameBut->cr,get?_update_self->cR,size_push->dC,get?_update_other->fj,FlyingW->ir,get?_push_ne->i8
open Nat renaming le_refl->ao,le_trans->aH,ne_of_lt->aN,lt_of_lt_of_le->aS,zero_le->bn,add_le_add->bA,lt_or_ge->bI,le_of_lt->bT,not_lt_zero->cb,lt_irrefl->cu,zero_add->cG,lt_trans->cW,lt_trichotomy->dD,succ_pos->ef,le_of_lt_succ->eR,le_of_eq->fJ,mod_lt->gw,lt_succ_of_lt->gz,ne_of_gt->gB,succ_le_succ->gH,succ_mul->iI,succ_add->iJ,mul_comm->iK,pow_le_pow_right->iP,log2_lt->i0,lt_of_le_of_lt->i9,eq_zero_or_pos->ja
open Bool renaming false_eq_true->aC,false_ne_true->aR,and_eq_true->bB,not_true->cF,or_eq_false_iff->dM,eq_iff_iff->dR,false_and->eG,true_and->eY,not_false->g7,and_eq_true_iff->iO,eq_false_iff->jc
open PySem.Value renaming type->aE,bool->aZ,ref->bp,builtin->bP,int->cC,none->cJ,isInt_shape->cU,str->fA
open Option.some renaming inj->aG
open Array renaming length_toList->aI,getElem?_eq_getElem->aV,getElem?_toList->aW,toList_push->aY,toList_append->bi,getElem?_eq_none->bG,toList_extract->cn,replicate->cx,size_map->dz,toList_reverse->dG,getElem_setIfInBounds->dP,size_extract->d6,toList_filterMap->fi,size_push->fD,ext'->gi,perm_iff_toList_perm->gP,toArray_toList->iA,forIn_toList->iR,foldl_toList->iS,append_assoc->iT
open PyProof.Rows.KeyOrd renaming kle_of_klt->aM,kle_trans->aT,kle_refl->bZ,kle_antisymm->iw
open PySem.NameKind renaming free->bu,cell->bS
open ForInStep renaming yield->bJ,done->dO
open Option renaming map_eq_some_iff->bR,isSome_iff_exists->cf,map_some->fk,getD_none->gj,none->iy
open PySem.PyData renaming int->bW
open Int renaming toNat_of_nonneg->bX,emod_lt_of_pos->cQ,emod_nonneg->dX,toNat_natCast->eS,toNat->gh,zero_add->iN
open PySem.Heap.SameBut renaming update->b6,refl->fF
open PySem.PassesOwn renaming never->cc
open False renaming elim->cv
open List.cons renaming inj->cA
open PySem.ClassData renaming mk->cL
open PySem.Calls renaming spliced_cons->cM,spliced_nil->cV,callWith_builtin->fe,Name_function_global->gI,evalArgs_plain->iu,call_len_list->iG
open Classical renaming byContradiction->cX
open PySem.Data renaming dict->db,cls->eT
open True renaming intro->di
open PySem.Obj renaming putSet->dB,data_mapFields->ee,isFreed_of_fields->iF,cls_mapFields->jh
open PySem.Txt renaming join->dE
open PyProof.Rows.SortSt renaming mk'->dL
open PySem.SetTable renaming insertAt->dY,insertAt_perm->gR
open PySem.F renaming plainAttrs_list->eM,slot_dict_get->fb,args_str_split_2->gv,entry_str_split->gF,slot_str_split->gS,args_dict_get_2->gT,plainAttrs_str->gX,entry_dict_get->gY,slot_set_iter->ia,plain_set_new->ic,typeOf_object_class->iY
open Ne renaming symm->fm
open PyProof.Rows.F renaming plain_set_update_loop->fB,entry_set_update_loop->iH
open PySem.Around renaming under_plainId->fG
open PySem.Paired renaming length->fQ
open PySem.Builtin.Tuple renaming tupleHashOf->fY
open Sum renaming inr->gn,inl->gr
open List.Perm renaming eq_of_pairwise->gC,append_left->gU
open PySem.W.OpenRow renaming toRowW->gE
open Nat.succ renaming inj->gZ
open PySem.SeqAt.EqAt renaming str_int->hU,int_str->hX,int_int->h8
open PySem.W.OpenLaw renaming row->ik
open PySem.SeqAt renaming EqAt->iX
open PySem.Code renaming quiet_builtin->iZ
set_option Elab.async false
set_option linter.all false
set_option maxRecDepth 100000
set_option maxHeartbeats 8000000
set_option compiler.extract_closed false
section
set_option Elab.async false
set_option linter.all false
set_option maxRecDepth 100000
set_option maxHeartbeats 4000000
namespace L2
open PySem
def R5 (s:Stmt):Arguments:=match s with
 | .FunctionDef _ a _ _ _ _ _ _ _ _=>a
 | _=>{posonlyargs:=[],args:=[],vararg:=none,kwonlyargs:=[],kw_defaults:=[],kwarg:=none,defaults:=[]}
def P2 (s:Stmt):List Stmt:=match s with
 | .FunctionDef _ _ b _ _ _ _ _ _ _=>b
 | _=>[]
def A9 (s:Stmt):Scope:=match s with
 | .FunctionDef _ _ _ _ _ _ sc _ _ _=>sc
 | _=>{kind:=.function,names:=[],isGenerator:=false,isCoroutine:=false}
end L2
namespace K84
open PySem L2
def top (i:Nat):Stmt:=PySem.Challenge.pw_manyleaves_k84_places_and_trees.main.body.getD i (.Pass ⟨0,0,0,0⟩)
def vs (s:String)(t:Tok):Value:=.str (Str.ofString s) t
def vi (i:Int)(t:Tok):Value:=.int i t
def vr (a:Addr):Value:=.ref a
def vn:Value:=.none
def fcp:Tok->Value:=vs "/claim/cut.py"
def de (P:Params)(s:String)(t:Tok)(v:Value):DictEntry:=⟨PyData.keyHash P (Str.ofString s),.str (Str.ofString s) t,v⟩
def ot (a:Array Value)(l:Array (Option Value)):Obj:=⟨.type "tuple",none,.seq a,l⟩
def oc (a:Array Value)(l:Array (Option Value)):Obj:=⟨.type "code",none,.fields a,l⟩
def fo (n:String)(i:Nat)(g:Addr)(cl:List (Str×Addr))(a b c d:Value)(e:Option Addr)(f h:Value)(k:Addr):Obj:=⟨.type "function",none,.func ⟨Str.ofString n,Str.ofString n,R5 (top i),.stmts (P2 (top i)),A9 (top i),g,cl,a,b,c,d,e,f,h,k⟩,#[]⟩
def heapK:Params->ae:=λP=>(nat_lit 2,Obj.mk vn none (db #[]) #[])::(nat_lit 3,Obj.mk (aE "dict") none (db #[de P "__name__" 165 (vs "law_manyleaves_k84_places_and_trees" 436),de P "__doc__" 166 vn,de P "__package__" 167 vn,de P "__loader__" 168 (bP "__main__.__loader__#opaque"),de P "__spec__" 169 vn,de P "__annotations__" 170 (vr 6),de P "__builtins__" 171 (vr 4),de P "__file__" 173 (fcp 172),de P "__cached__" 174 vn,de P "LeafError" 206 (vr 24),de P "NoWeb" 222 (vr 37),de P "TooGreat" 238 (vr 49),de P "NoSet" 254 (vr 61),de P "Taken" 270 (vr 73),de P "TooMany" 286 (vr 85),de P "NoTie" 302 (vr 97),de P "Apart" 318 (vr 109),de P "NoText" 334 (vr 121),de P "is_int" 343 (vr 130),de P "is_between" 352 (vr 137),de P "MOST_PLACES" 356 (vi 60 355),de P "is_pair" 363 (vr 144),de P "is_tie" 373 (vr 151),de P "is_rising" 381 (vr 158),de P "is_tie_row" 390 (vr 165),de P "numbers_below" 398 (vr 170),de P "numbers_in" 404 (vr 175),de P "items_in" 412 (vr 182),de P "places_in" 421 (vr 189),de P "read_places" 429 (vr 196),de P "read_tree" 435 (vr 201),de P "_law_mixed" 446 (vr 208),de P "_law_deck" 452 (vr 213),de P "_law_next" 459 (vr 220),de P "_law_number" 468 (vr 227),de P "_law_refused" 478 (vr 234),de P "_law_places" 484 (vr 239),de P "_law_ties" 490 (vr 244),de P "_law_words" 496 (vr 249),de P "_law_bent_words" 510 (vr 256),de P "_law_bent_signs" 521 (vr 263),de P "_law_judged" 532 (vr 270),de P "_law_crowd_holds" 538 (vr 275),de P "law" 544 (vr 280)] 44) #[])::(nat_lit 15,ot (#[aE "ValueError"]) #[])::(nat_lit 22,ot (#[]) #[])::(nat_lit 23,Obj.mk (aE "dict") none (db #[de P "__module__" 196 (vs "manyleaves.errors" 187),de P "__firstlineno__" 200 (vi 2 199),de P "__static_attributes__" 201 (vr 22),de P "__weakref__" 203 (vr 25),de P "__doc__" 204 vn] 3) #[])::(nat_lit 24,Obj.mk (aE "type") none (eT (cL (Str.ofString "LeafError") [aE "ValueError"] [vr 24,aE "ValueError",aE "Exception",aE "BaseException",aE "object"] 23 (Str.ofString "LeafError") true [] [vr 37,vr 49,vr 61,vr 73,vr 85,vr 97,vr 109,vr 121] false none false)) #[some (vr 15),none,some (vs "LeafError" 189),some (vs "LeafError" 197),some (bP "ValueError.__new__"),some (aZ true)])::(nat_lit 25,Obj.mk (aE "getset_descriptor") none (Data.fields #[vs "__weakref__" 202,vr 24,bP "ExceptionGroup.__weakref__",vn]) #[])::(nat_lit 28,ot (#[vr 24]) #[])::(nat_lit 35,ot (#[]) #[])::(nat_lit 36,Obj.mk (aE "dict") none (db #[de P "__module__" 214 (vs "manyleaves.errors" 187),de P "__firstlineno__" 218 (vi 4 217),de P "__static_attributes__" 219 (vr 35),de P "__doc__" 220 vn] 2) #[])::(nat_lit 37,Obj.mk (aE "type") none (eT (cL (Str.ofString "NoWeb") [vr 24] [vr 37,vr 24,aE "ValueError",aE "Exception",aE "BaseException",aE "object"] 36 (Str.ofString "NoWeb") true [] [] false none false)) #[some (vr 28),none,some (vs "NoWeb" 207),some (vs "NoWeb" 215),some (bP "ValueError.__new__"),some (aZ true)])::(nat_lit 40,ot (#[vr 24]) #[])::(nat_lit 47,ot (#[]) #[])::(nat_lit 48,Obj.mk (aE "dict") none (db #[de P "__module__" 230 (vs "manyleaves.errors" 187),de P "__firstlineno__" 234 (vi 6 233),de P "__static_attributes__" 235 (vr 47),de P "__doc__" 236 vn] 2) #[])::(nat_lit 49,Obj.mk (aE "type") none (eT (cL (Str.ofString "TooGreat") [vr 24] [vr 49,vr 24,aE "ValueError",aE "Exception",aE "BaseException",aE "object"] 48 (Str.ofString "TooGreat") true [] [] false none false)) #[some (vr 40),none,some (vs "TooGreat" 223),some (vs "TooGreat" 231),some (bP "ValueError.__new__"),some (aZ true)])::(nat_lit 52,ot (#[vr 24]) #[])::(nat_lit 59,ot (#[]) #[])::(nat_lit 60,Obj.mk (aE "dict") none (db #[de P "__module__" 246 (vs "manyleaves.errors" 187),de P "__firstlineno__" 250 (vi 8 249),de P "__static_attributes__" 251 (vr 59),de P "__doc__" 252 vn] 2) #[])::(nat_lit 61,Obj.mk (aE "type") none (eT (cL (Str.ofString "NoSet") [vr 24] [vr 61,vr 24,aE "ValueError",aE "Exception",aE "BaseException",aE "object"] 60 (Str.ofString "NoSet") true [] [] false none false)) #[some (vr 52),none,some (vs "NoSet" 239),some (vs "NoSet" 247),some (bP "ValueError.__new__"),some (aZ true)])::(nat_lit 64,ot (#[vr 24]) #[])::(nat_lit 71,ot (#[]) #[])::(nat_lit 72,Obj.mk (aE "dict") none (db #[de P "__module__" 262 (vs "manyleaves.errors" 187),de P "__firstlineno__" 266 (vi 10 265),de P "__static_attributes__" 267 (vr 71),de P "__doc__" 268 vn] 2) #[])::(nat_lit 73,Obj.mk (aE "type") none (eT (cL (Str.ofString "Taken") [vr 24] [vr 73,vr 24,aE "ValueError",aE "Exception",aE "BaseException",aE "object"] 72 (Str.ofString "Taken") true [] [] false none false)) #[some (vr 64),none,some (vs "Taken" 255),some (vs "Taken" 263),some (bP "ValueError.__new__"),some (aZ true)])::(nat_lit 76,ot (#[vr 24]) #[])::(nat_lit 83,ot (#[]) #[])::(nat_lit 84,Obj.mk (aE "dict") none (db #[de P "__module__" 278 (vs "manyleaves.errors" 187),de P "__firstlineno__" 282 (vi 12 281),de P "__static_attributes__" 283 (vr 83),de P "__doc__" 284 vn] 2) #[])::(nat_lit 85,Obj.mk (aE "type") none (eT (cL (Str.ofString "TooMany") [vr 24] [vr 85,vr 24,aE "ValueError",aE "Exception",aE "BaseException",aE "object"] 84 (Str.ofString "TooMany") true [] [] false none false)) #[some (vr 76),none,some (vs "TooMany" 271),some (vs "TooMany" 279),some (bP "ValueError.__new__"),some (aZ true)])::(nat_lit 88,ot (#[vr 24]) #[])::(nat_lit 95,ot (#[]) #[])::(nat_lit 96,Obj.mk (aE "dict") none (db #[de P "__module__" 294 (vs "manyleaves.errors" 187),de P "__firstlineno__" 298 (vi 14 297),de P "__static_attributes__" 299 (vr 95),de P "__doc__" 300 vn] 2) #[])::(nat_lit 97,Obj.mk (aE "type") none (eT (cL (Str.ofString "NoTie") [vr 24] [vr 97,vr 24,aE "ValueError",aE "Exception",aE "BaseException",aE "object"] 96 (Str.ofString "NoTie") true [] [] false none false)) #[some (vr 88),none,some (vs "NoTie" 287),some (vs "NoTie" 295),some (bP "ValueError.__new__"),some (aZ true)])::(nat_lit 100,ot (#[vr 24]) #[])::(nat_lit 107,ot (#[]) #[])::(nat_lit 108,Obj.mk (aE "dict") none (db #[de P "__module__" 310 (vs "manyleaves.errors" 187),de P "__firstlineno__" 314 (vi 16 313),de P "__static_attributes__" 315 (vr 107),de P "__doc__" 316 vn] 2) #[])::(nat_lit 109,Obj.mk (aE "type") none (eT (cL (Str.ofString "Apart") [vr 24] [vr 109,vr 24,aE "ValueError",aE "Exception",aE "BaseException",aE "object"] 108 (Str.ofString "Apart") true [] [] false none false)) #[some (vr 100),none,some (vs "Apart" 303),some (vs "Apart" 311),some (bP "ValueError.__new__"),some (aZ true)])::(nat_lit 112,ot (#[vr 24]) #[])::(nat_lit 119,ot (#[]) #[])::(nat_lit 120,Obj.mk (aE "dict") none (db #[de P "__module__" 326 (vs "manyleaves.errors" 187),de P "__firstlineno__" 330 (vi 18 329),de P "__static_attributes__" 331 (vr 119),de P "__doc__" 332 vn] 2) #[])::(nat_lit 121,Obj.mk (aE "type") none (eT (cL (Str.ofString "NoText") [vr 24] [vr 121,vr 24,aE "ValueError",aE "Exception",aE "BaseException",aE "object"] 120 (Str.ofString "NoText") true [] [] false none false)) #[some (vr 112),none,some (vs "NoText" 319),some (vs "NoText" 327),some (bP "ValueError.__new__"),some (aZ true)])::(nat_lit 124,ot (#[]) #[])::(nat_lit 126,ot (#[vs "thing" 340]) #[])::(nat_lit 127,ot (#[]) #[])::(nat_lit 129,oc (#[vs "is_int" 337,vs "is_int" 338,fcp 339,vi 21 0,vi 1 0,vi 0 0,vi 0 0,vi 3 0,vr 124,aZ true,vi 181 0,vr 125,vn,vr 126,vr 127,vr 128,vi 341 0,vi 21 0,fcp 342]) #[])::(nat_lit 130,fo "is_int" 11 3 [] vn vn vn (vs "manyleaves.ints" 335) none (vr 129) vn 0)::(nat_lit 131,ot (#[]) #[])::(nat_lit 133,ot (#[vs "thing" 347,vs "least" 348,vs "most" 349]) #[])::(nat_lit 134,ot (#[]) #[])::(nat_lit 136,oc (#[vs "is_between" 344,vs "is_between" 345,fcp 346,vi 23 0,vi 3 0,vi 0 0,vi 0 0,vi 3 0,vr 131,aZ true,vi 181 0,vr 132,vn,vr 133,vr 134,vr 135,vi 350 0,vi 23 0,fcp 351]) #[])::(nat_lit 137,fo "is_between" 12 3 [] vn vn vn (vs "manyleaves.ints" 335) none (vr 136) vn 0)::(nat_lit 138,ot (#[]) #[])::(nat_lit 140,ot (#[vs "thing" 360]) #[])::(nat_lit 141,ot (#[]) #[])::(nat_lit 143,oc (#[vs "is_pair" 357,vs "is_pair" 358,fcp 359,vi 27 0,vi 1 0,vi 0 0,vi 0 0,vi 3 0,vr 138,aZ true,vi 181 0,vr 139,vn,vr 140,vr 141,vr 142,vi 361 0,vi 27 0,fcp 362]) #[])::(nat_lit 144,fo "is_pair" 15 3 [] vn vn vn (vs "manyleaves.webs" 353) none (vr 143) vn 0)::(nat_lit 145,ot (#[]) #[])::(nat_lit 147,ot (#[vs "thing" 367,vs "places" 368,vs "a" 369,vs "b" 370]) #[])::(nat_lit 148,ot (#[]) #[])::(nat_lit 150,oc (#[vs "is_tie" 364,vs "is_tie" 365,fcp 366,vi 29 0,vi 2 0,vi 0 0,vi 0 0,vi 3 0,vr 145,aZ true,vi 181 0,vr 146,vn,vr 147,vr 148,vr 149,vi 371 0,vi 29 0,fcp 372]) #[])::(nat_lit 151,fo "is_tie" 16 3 [] vn vn vn (vs "manyleaves.webs" 353) none (vr 150) vn 0)::(nat_lit 152,ot (#[]) #[])::(nat_lit 154,ot (#[vs "items" 377,vs "at" 378]) #[])::(nat_lit 155,ot (#[]) #[])::(nat_lit 157,oc (#[vs "is_rising" 374,vs "is_rising" 375,fcp 376,vi 34 0,vi 1 0,vi 0 0,vi 0 0,vi 3 0,vr 152,aZ true,vi 181 0,vr 153,vn,vr 154,vr 155,vr 156,vi 379 0,vi 34 0,fcp 380]) #[])::(nat_lit 158,fo "is_rising" 17 3 [] vn vn vn (vs "manyleaves.webs" 353) none (vr 157) vn 0)::(nat_lit 159,ot (#[]) #[])::(nat_lit 161,ot (#[vs "thing" 385,vs "places" 386,vs "item" 387]) #[])::(nat_lit 162,ot (#[]) #[])::(nat_lit 164,oc (#[vs "is_tie_row" 382,vs "is_tie_row" 383,fcp 384,vi 39 0,vi 2 0,vi 0 0,vi 0 0,vi 3 0,vr 159,aZ true,vi 181 0,vr 160,vn,vr 161,vr 162,vr 163,vi 388 0,vi 39 0,fcp 389]) #[])::(nat_lit 165,fo "is_tie_row" 18 3 [] vn vn vn (vs "manyleaves.webs" 353) none (vr 164) vn 0)::(nat_lit 166,ot (#[]) #[])::(nat_lit 169,oc (#[vs "numbers_below" 393,vs "numbers_below" 394,fcp 395,vi 47 0,vi 1 0,vi 0 0,vi 0 0,vi 3 0,vr 166,aZ true,vi 181 0,vr 167,vn,vn,vn,vr 168,vi 396 0,vi 47 0,fcp 397]) #[])::(nat_lit 170,fo "numbers_below" 20 3 [] vn vn vn (vs "manyleaves.texts" 391) none (vr 169) vn 0)::(nat_lit 171,ot (#[]) #[])::(nat_lit 174,oc (#[vs "numbers_in" 399,vs "numbers_in" 400,fcp 401,vi 49 0,vi 2 0,vi 0 0,vi 0 0,vi 3 0,vr 171,aZ true,vi 181 0,vr 172,vn,vn,vn,vr 173,vi 402 0,vi 49 0,fcp 403]) #[])::(nat_lit 175,fo "numbers_in" 21 3 [] vn vn vn (vs "manyleaves.texts" 391) none (vr 174) vn 0)::(nat_lit 176,ot (#[]) #[])::(nat_lit 178,ot (#[vs "text" 408,vs "mark" 409]) #[])::(nat_lit 179,ot (#[]) #[])::(nat_lit 181,oc (#[vs "items_in" 405,vs "items_in" 406,fcp 407,vi 51 0,vi 2 0,vi 0 0,vi 0 0,vi 3 0,vr 176,aZ true,vi 181 0,vr 177,vn,vr 178,vr 179,vr 180,vi 410 0,vi 51 0,fcp 411]) #[])::(nat_lit 182,fo "items_in" 22 3 [] vn vn vn (vs "manyleaves.texts" 391) none (vr 181) vn 0)::(nat_lit 183,ot (#[]) #[])::(nat_lit 185,ot (#[vs "text" 416,vs "many" 417,vs "places" 418]) #[])::(nat_lit 186,ot (#[]) #[])::(nat_lit 188,oc (#[vs "places_in" 413,vs "places_in" 414,fcp 415,vi 55 0,vi 2 0,vi 0 0,vi 0 0,vi 3 0,vr 183,aZ true,vi 181 0,vr 184,vn,vr 185,vr 186,vr 187,vi 419 0,vi 55 0,fcp 420]) #[])::(nat_lit 189,fo "places_in" 23 3 [] vn vn vn (vs "manyleaves.texts" 391) none (vr 188) vn 0)::(nat_lit 190,ot (#[]) #[])::(nat_lit 192,ot (#[vs "thing" 425,vs "places" 426]) #[])::(nat_lit 193,ot (#[]) #[])::(nat_lit 195,oc (#[vs "read_places" 422,vs "read_places" 423,fcp 424,vi 60 0,vi 1 0,vi 0 0,vi 0 0,vi 3 0,vr 190,aZ true,vi 181 0,vr 191,vn,vr 192,vr 193,vr 194,vi 427 0,vi 60 0,fcp 428]) #[])::(nat_lit 196,fo "read_places" 24 3 [] vn vn vn (vs "manyleaves.texts" 391) none (vr 195) vn 0)::(nat_lit 197,ot (#[]) #[])::(nat_lit 200,oc (#[vs "read_tree" 430,vs "read_tree" 431,fcp 432,vi 65 0,vi 1 0,vi 0 0,vi 0 0,vi 3 0,vr 197,aZ true,vi 181 0,vr 198,vn,vn,vn,vr 199,vi 433 0,vi 65 0,fcp 434]) #[])::(nat_lit 201,fo "read_tree" 25 3 [] vn vn vn (vs "manyleaves.texts" 391) none (vr 200) vn 0)::(nat_lit 202,ot (#[]) #[])::(nat_lit 204,ot (#[vs "_law_cell" 441,vs "_law_k" 442,vs "_law_number_here" 443]) #[])::(nat_lit 205,ot (#[]) #[])::(nat_lit 207,oc (#[vs "_law_mixed" 438,vs "_law_mixed" 439,fcp 440,vi 74 0,vi 2 0,vi 0 0,vi 0 0,vi 3 0,vr 202,aZ true,vi 181 0,vr 203,vn,vr 204,vr 205,vr 206,vi 444 0,vi 74 0,fcp 445]) #[])::(nat_lit 208,fo "_law_mixed" 27 3 [] vn vn vn (vs "law_manyleaves_k84_places_and_trees" 436) none (vr 207) vn 0)::(nat_lit 209,ot (#[]) #[])::(nat_lit 212,oc (#[vs "_law_deck" 447,vs "_law_deck" 448,fcp 449,vi 79 0,vi 2 0,vi 0 0,vi 0 0,vi 3 0,vr 209,aZ true,vi 181 0,vr 210,vn,vn,vn,vr 211,vi 450 0,vi 79 0,fcp 451]) #[])::(nat_lit 213,fo "_law_deck" 28 3 [] vn vn vn (vs "law_manyleaves_k84_places_and_trees" 436) none (vr 212) vn 0)::(nat_lit 214,ot (#[]) #[])::(nat_lit 216,ot (#[vs "_law_deck_here" 456]) #[])::(nat_lit 217,ot (#[]) #[])::(nat_lit 219,oc (#[vs "_law_next" 453,vs "_law_next" 454,fcp 455,vi 91 0,vi 1 0,vi 0 0,vi 0 0,vi 3 0,vr 214,aZ true,vi 181 0,vr 215,vn,vr 216,vr 217,vr 218,vi 457 0,vi 91 0,fcp 458]) #[])::(nat_lit 220,fo "_law_next" 29 3 [] vn vn vn (vs "law_manyleaves_k84_places_and_trees" 436) none (vr 219) vn 0)::(nat_lit 221,ot (#[]) #[])::(nat_lit 223,ot (#[vs "_law_word" 463,vs "_law_most" 464,vs "_law_number_here" 465]) #[])::(nat_lit 224,ot (#[]) #[])::(nat_lit 226,oc (#[vs "_law_number" 460,vs "_law_number" 461,fcp 462,vi 95 0,vi 2 0,vi 0 0,vi 0 0,vi 3 0,vr 221,aZ true,vi 181 0,vr 222,vn,vr 223,vr 224,vr 225,vi 466 0,vi 95 0,fcp 467]) #[])::(nat_lit 227,fo "_law_number" 30 3 [] vn vn vn (vs "law_manyleaves_k84_places_and_trees" 436) none (vr 226) vn 0)::(nat_lit 228,ot (#[]) #[])::(nat_lit 230,ot (#[vs "_law_call" 472,vs "_law_thing" 473,vs "_law_caught" 474,vs "error" 475]) #[])::(nat_lit 231,ot (#[]) #[])::(nat_lit 233,oc (#[vs "_law_refused" 469,vs "_law_refused" 470,fcp 471,vi 100 0,vi 2 0,vi 0 0,vi 0 0,vi 3 0,vr 228,aZ true,vi 181 0,vr 229,vn,vr 230,vr 231,vr 232,vi 476 0,vi 100 0,fcp 477]) #[])::(nat_lit 234,fo "_law_refused" 31 3 [] vn vn vn (vs "law_manyleaves_k84_places_and_trees" 436) none (vr 233) vn 0)::(nat_lit 235,ot (#[]) #[])::(nat_lit 238,oc (#[vs "_law_places" 479,vs "_law_places" 480,fcp 481,vi 109 0,vi 1 0,vi 0 0,vi 0 0,vi 3 0,vr 235,aZ true,vi 181 0,vr 236,vn,vn,vn,vr 237,vi 482 0,vi 109 0,fcp 483]) #[])::(nat_lit 239,fo "_law_places" 32 3 [] vn vn vn (vs "law_manyleaves_k84_places_and_trees" 436) none (vr 238) vn 0)::(nat_lit 240,ot (#[]) #[])::(nat_lit 243,oc (#[vs "_law_ties" 485,vs "_law_ties" 486,fcp 487,vi 116 0,vi 1 0,vi 0 0,vi 0 0,vi 3 0,vr 240,aZ true,vi 181 0,vr 241,vn,vn,vn,vr 242,vi 488 0,vi 116 0,fcp 489]) #[])::(nat_lit 244,fo "_law_ties" 33 3 [] vn vn vn (vs "law_manyleaves_k84_places_and_trees" 436) none (vr 243) vn 0)::(nat_lit 245,ot (#[]) #[])::(nat_lit 248,oc (#[vs "_law_words" 491,vs "_law_words" 492,fcp 493,vi 128 0,vi 2 0,vi 0 0,vi 0 0,vi 3 0,vr 245,aZ true,vi 181 0,vr 246,vn,vn,vn,vr 247,vi 494 0,vi 128 0,fcp 495]) #[])::(nat_lit 249,fo "_law_words" 34 3 [] vn vn vn (vs "law_manyleaves_k84_places_and_trees" 436) none (vr 248) vn 0)::(nat_lit 250,ot (#[]) #[])::(nat_lit 252,ot (#[vs "_law_deck_here" 500,vs "_law_words_here" 501,vs "_law_is_tree" 502,vs "_law_at" 503,vs "_law_odd" 504,vs "_law_put" 505,vs "_law_rows" 506,vs "_law_two" 507]) #[])::(nat_lit 253,ot (#[]) #[])::(nat_lit 255,oc (#[vs "_law_bent_words" 497,vs "_law_bent_words" 498,fcp 499,vi 136 0,vi 3 0,vi 0 0,vi 0 0,vi 3 0,vr 250,aZ true,vi 181 0,vr 251,vn,vr 252,vr 253,vr 254,vi 508 0,vi 136 0,fcp 509]) #[])::(nat_lit 256,fo "_law_bent_words" 35 3 [] vn vn vn (vs "law_manyleaves_k84_places_and_trees" 436) none (vr 255) vn 0)::(nat_lit 257,ot (#[]) #[])::(nat_lit 259,ot (#[vs "_law_deck_here" 514,vs "_law_text" 515,vs "_law_at" 516,vs "_law_sign" 517,vs "_law_found" 518]) #[])::(nat_lit 260,ot (#[]) #[])::(nat_lit 262,oc (#[vs "_law_bent_signs" 511,vs "_law_bent_signs" 512,fcp 513,vi 149 0,vi 2 0,vi 0 0,vi 0 0,vi 3 0,vr 257,aZ true,vi 181 0,vr 258,vn,vr 259,vr 260,vr 261,vi 519 0,vi 149 0,fcp 520]) #[])::(nat_lit 263,fo "_law_bent_signs" 36 3 [] vn vn vn (vs "law_manyleaves_k84_places_and_trees" 436) none (vr 262) vn 0)::(nat_lit 264,ot (#[]) #[])::(nat_lit 266,ot (#[vs "_law_call" 525,vs "_law_reading" 526,vs "_law_thing" 527,vs "_law_due" 528,vs "_law_before" 529]) #[])::(nat_lit 267,ot (#[]) #[])::(nat_lit 269,oc (#[vs "_law_judged" 522,vs "_law_judged" 523,fcp 524,vi 154 0,vi 3 0,vi 0 0,vi 0 0,vi 3 0,vr 264,aZ true,vi 181 0,vr 265,vn,vr 266,vr 267,vr 268,vi 530 0,vi 154 0,fcp 531]) #[])::(nat_lit 270,fo "_law_judged" 37 3 [] vn vn vn (vs "law_manyleaves_k84_places_and_trees" 436) none (vr 269) vn 0)::(nat_lit 271,ot (#[]) #[])::(nat_lit 274,oc (#[vs "_law_crowd_holds" 533,vs "_law_crowd_holds" 534,fcp 535,vi 162 0,vi 1 0,vi 0 0,vi 0 0,vi 3 0,vr 271,aZ true,vi 181 0,vr 272,vn,vn,vn,vr 273,vi 536 0,vi 162 0,fcp 537]) #[])::(nat_lit 275,fo "_law_crowd_holds" 38 3 [] vn vn vn (vs "law_manyleaves_k84_places_and_trees" 436) none (vr 274) vn 0)::(nat_lit 276,ot (#[]) #[])::(nat_lit 279,oc (#[vs "law" 539,vs "law" 540,fcp 541,vi 172 0,vi 1 0,vi 0 0,vi 0 0,vi 3 0,vr 276,aZ true,vi 181 0,vr 277,vn,vn,vn,vr 278,vi 542 0,vi 172 0,fcp 543]) #[])::(nat_lit 280,fo "law" 39 3 [] vn vn vn (vs "law_manyleaves_k84_places_and_trees" 436) none (vr 279) vn 0)::[]
def viewP:Program:={PySem.Challenge.pw_manyleaves_k84_places_and_trees with main:={PySem.Challenge.pw_manyleaves_k84_places_and_trees.main with body:=[top 1,top 2,top 3,top 4,top 5,top 6,top 7,top 8,top 9,top 11,top 12,top 14,top 15,top 16,top 17,top 18,top 20,top 21,top 22,top 23,top 24,top 25,top 27,top 28,top 29,top 30,top 31,top 32,top 33,top 34,top 35,top 36,top 37,top 38,top 39]}}
def addrs:List Addr:=[2,3,15,22,23,24,25,28,35,36,37,40,47,48,49,52,59,60,61,64,71,72,73,76,83,84,85,88,95,96,97,100,107,108,109,112,119,120,121,124,126,127,129,130,131,133,134,136,137,138,140,141,143,144,145,147,148,150,151,152,154,155,157,158,159,161,162,164,165,166,169,170,171,174,175,176,178,179,181,182,183,185,186,188,189,190,192,193,195,196,197,200,201,202,204,205,207,208,209,212,213,214,216,217,219,220,221,223,224,226,227,228,230,231,233,234,235,238,239,240,243,244,245,248,249,250,252,253,255,256,257,259,260,262,263,264,266,267,269,270,271,274,275,276,279,280]
theorem addr:∀ P,addrs=(heapK P).map (·.1):=λ_=>by kernel_rfl
end K84
section
open PySem PySem.W PyProof.Rows
set_option maxRecDepth 100000 in
set_option maxHeartbeats 0 in
theorem K84.said:PySem.Challenge.rw_manyleaves_k84_places_and_trees.wellSaid=true:=by kernel_rfl
set_option maxRecDepth 100000 in
set_option maxHeartbeats 0 in
theorem K84.left:LeftO (gE (ik PySem.Challenge.rw_manyleaves_k84_places_and_trees)).prog K84.viewP [] (λs=>xlAt K84.viewP [] s && recOk (RowW.records (gE (ik PySem.Challenge.rw_manyleaves_k84_places_and_trees))) s) (Hook.obs (kHook K84.heapK K84.addrs K84.addr)) (Hook.val (kHook K84.heapK K84.addrs K84.addr)) 5478:=by intro w;kernel_rfl
end
end
section
namespace L2
open PySem PySem.Spec PyProof.Rows
abbrev Key:=Sum Int Str
def a1a:Key->Value->Bool
 | .inl k,v=>Value.isInt k v
 | .inr x,v=>Value.isStrOf x v
def b1E (w:World):Key->Int
 | .inl k=>hashInt k
 | .inr x=>hashStr w x
theorem E5:∀ {k:Key} {v:Value},a1a k v=true->(∃ i t,k=gr i/\v=cC i t)\/(∃ x t,k=gn x/\v=fA x t)
 | .inl i,v,h=>by
  obtain⟨t,e⟩:=cU (k:=i) (v:=v) h;exact .inl ⟨i,t,rfl,e⟩
 | .inr x,v,h=>by
  obtain⟨t,e⟩:=Value.isStrOf_shape (x:=x) (v:=v) h;exact .inr ⟨x,t,rfl,e⟩
theorem a4K (i:Int)(t:Tok):a1a (.inl i) (.int i t)=true:=by simp[a1a,Value.isInt]
theorem a4J (x:Str)(t:Tok):a1a (.inr x) (.str x t)=true:=by simp[a1a,Value.isStrOf]
theorem a9q (a b:Int):decide ((gr a:Key)=gr b)=(a == b):=by
 by_cases e:a=b
 ·subst e;simp
 ·have h:¬ (gr a:Key)=gr b:=λq=>e (Sum.inl.inj q)
  rw[decide_eq_false h];exact (beq_eq_false_iff_ne.mpr e).symm
theorem a9n (a b:Str):decide ((gn a:Key)=gn b)=decide (a=b):=by
 by_cases e:a=b
 ·subst e;simp
 ·have h:¬ (gn a:Key)=gn b:=λq=>e (Sum.inr.inj q)
  rw[decide_eq_false h,decide_eq_false e]
theorem a9p (a:Int)(b:Str):decide ((gr a:Key)=gn b)=false:=decide_eq_false (λq=>nomatch q)
theorem a9o (a:Str)(b:Int):decide ((gn a:Key)=gr b)=false:=decide_eq_false (λq=>nomatch q)
def I0 (prog:Program)(w:World):PySem.KeyKind prog w Key where
 is:=a1a
 hash:=b1E w
 inj:=λv a b ha hb=>by
  rcases E5 ha with ⟨i,t,rfl,rfl⟩ | ⟨x,t,rfl,rfl⟩
  ·rcases E5 hb with ⟨j,u,rfl,e⟩ | ⟨y,u,rfl,e⟩
   ·injection e with e1 _;rw[e1]
   ·exact nomatch e
  ·rcases E5 hb with ⟨j,u,rfl,e⟩ | ⟨y,u,rfl,e⟩
   ·exact nomatch e
   ·injection e with e1 _;rw[e1]
 byValue:=λk v h=>by
  rcases E5 h with ⟨i,t,rfl,rfl⟩ | ⟨x,t,rfl,rfl⟩<;>rfl
 pyHash:=λhv h=>by
  rcases E5 hv with ⟨i,t,rfl,rfl⟩ | ⟨x,t,rfl,rfl⟩
  ·exact wpAny_pyHash_int h
  ·exact wpAny_pyHash_str h
 eqBool:=λhu hv h=>by
  rcases E5 hu with ⟨i,t,rfl,rfl⟩ | ⟨x,t,rfl,rfl⟩
  ·rcases E5 hv with ⟨j,u,rfl,rfl⟩ | ⟨y,u,rfl,rfl⟩
   ·rw[a9q] at h;exact wpAny_eqBool_int h
   ·rw[a9p] at h;exact hX i t y u _ _ _ _ h
  ·rcases E5 hv with ⟨j,u,rfl,rfl⟩ | ⟨y,u,rfl,rfl⟩
   ·rw[a9o] at h;exact hU x t j u _ _ _ _ h
   ·rw[a9n] at h;exact wpAny_eqBool_str h
 «strs»:=λk x t v h=>by
  rcases E5 h with ⟨i,u,rfl,e⟩ | ⟨y,u,rfl,e⟩
  ·exact nomatch e
  ·injection e with e1 _
   subst e1;cases v<;>rfl
theorem a2E (prog:Program)(w:World)(i:Int)(t:Tok):(I0 prog w).is (.inl i) (.int i t)=true:=a4K i t
theorem a2D (prog:Program)(w:World)(x:Str)(t:Tok):(I0 prog w).is (.inr x) (.str x t)=true:=a4J x t
end L2
namespace L2
open PySem PySem.Spec PyProof.Rows
inductive V where
 | non | bl (b:Bool) | int (i:Int) | str (x:Str) | byt (b:Array UInt8) | flt (b:UInt64) | ref (a:Addr) | ty (n:String)
 deriving DecidableEq
def B6:V->Value->Prop
 | .non,u=>u=cJ
 | .bl b,u=>u=aZ b
 | .int i,u=>∃ t,u=cC i t
 | .str x,u=>∃ t,u=fA x t
 | .byt b,u=>∃ t,u=Value.bytes b t
 | .flt b,u=>∃ t,u=Value.float b t
 | .ref a,u=>u=bp a
 | .ty n,u=>u=aE n
abbrev B3:List V->List Value->Prop:=Paired B6
theorem B3.length {xs:List V}{us:List Value}(r:B3 xs us):xs.length=us.length:=fQ r
theorem B3.get:∀ {xs:List V} {us:List Value} {i:Nat} {x:V},B3 xs us->xs[i]?=some x->∃ u,us[i]?=some u/\B6 x u
 | _,_,_,_,.nil,e=>by simp at e
 | _,_,0,_,.cons r _,e=>by simp at e;subst e;exact⟨_,rfl,r⟩
 | _,_,i+1,x,.cons _ t,e=>by
  obtain⟨u,h1,h2⟩:=B3.get (i:=i) (x:=x) t (~~~e);exact⟨u, ~~~h1,h2⟩
theorem B3.set {x:V}{u:Value}(r:B6 x u):∀ {xs:List V} {us:List Value} (i:Nat),B3 xs us->B3 (xs.set i x) (us.set i u)
 | _,_,_,.nil=>.nil
 | _,_,0,.cons _ t=>.cons r t
 | _,_,i+1,.cons q t=>.cons q (B3.set r i t)
theorem B3.append:∀ {xs ys:List V} {us ws:List Value},B3 xs us->B3 ys ws->B3 (xs++ys) (us++ws)
 | _,_,_,_,.nil,s=>s
 | _,_,_,_,.cons r t,s=>.cons r (B3.append t s)
theorem B3.take:∀ {xs:List V} {us:List Value} (n:Nat),B3 xs us->B3 (xs.take n) (us.take n)
 | _,_,0,_=>.nil
 | _,_,_+1,.nil=>.nil
 | _,_,n+1,.cons r t=>.cons r (B3.take n t)
theorem B3.drop:∀ {xs:List V} {us:List Value} (n:Nat),B3 xs us->B3 (xs.drop n) (us.drop n)
 | _,_,0,r=>r
 | _,_,_+1,.nil=>.nil
 | _,_,n+1,.cons _ t=>B3.drop n t
def a1R:Option V->Option Value->Prop
 | some v,some u=>B6 v u
 | none,none=>True
 | _,_=>False
def KV {κ:Type}:List (κ×V)->List (κ×Value)->Prop:=Paired λ(p:κ×V) (q:κ×Value)=>p.1=q.1/\B6 p.2 q.2
def kV:Key->V
 | .inl i=>.int i
 | .inr x=>.str x
inductive HO where
 /-- a list -/
 | lst (xs:List V)
 /-- a tuple (never changes) -/
 | tup (xs:List V)
 /-- a dict whose keys are ints and texts;one whose keys are tuples of ints and texts (the empty one is both) -/
 | dK (kvs:List (Key×V)) | dT (kvs:List (List Key×V))
 /-- a set of ints: its members,its size -/
 | set (S:Int->Bool) (n:Nat)
 /-- an instance of the class at C,its dict at dx,its attributes -/
 | ins (C dx:Addr) (fs:List (Str×V))
 /-- the dict of the instance at x -/
 | own (x:Addr)
 /-- the dict of an exception -/
 | xd (fs:List (Str×V))
 /-- a bound method,f of x -/
 | met (f x:Addr)
 /-- a range object lo,lo+1,.. below hi -/
 | rng (lo hi:Int)
 /-- a thing that is known to the object (the script;a dict while a loop walks it): read,never written while it is so -/
 | frz (o:Obj) (u:HO)
 /-- a code object's table -/
 | tbl (ps:Array Value)
 /-- any other thing,by what is true of its one object (a def of one's own: SetO a S n:=HO.ext λh=>..) -/
 | ext (φ:Heap->Prop)
abbrev Hp:=Addr->Option HO
def upd (H:Hp)(a:Addr)(o:HO):Hp:=λb=>if b=a then some o else H b
theorem A2 {H:Hp}{a:Addr}{o:HO}:upd H a o a=some o:=by unfold upd;rw[if_pos rfl]
theorem A7 {H:Hp}{a b:Addr}{o:HO}(h:b≠a):upd H a o b=H b:=by unfold upd;rw[if_neg h]
theorem a6W {H:Hp}{a:Addr}{o u:HO}:upd (upd H a o) a u=upd H a u:=by
 funext b;unfold upd;split<;>rfl
theorem b0G {H:Hp}{a b:Addr}{o u:HO}(h:H a=some o)(h':H b=some u)(d:o≠u):a≠b:=by
 intro e;subst e;rw[h] at h';exact d (aG h')
theorem C2 {H:Hp}{a b:Addr}{o:HO}(h:H a=some o)(h':H b=none):a≠b:=by
 intro e;subst e;rw[h] at h';cases h'
section
variable (P:Program)(w:World)
def J0 (H:Hp)(h:Heap)(a:Addr):HO->Prop
 | .lst xs=>xs.length<=sizeLine/\∃(its:List Value) (n:Nat),B3 xs its/\h.get? a=some {cls:=.type "list",data:=.seq its.toArray n}
 | .tup xs=>xs.length<=sizeLine/\∃ its:List Value,B3 xs its/\IsTup h a its.toArray
 | .dK kvs=>kvs.length<=sizeLine/\(a == sysModules)=false/\∃ vs,KV kvs vs/\h.DictOf (I0 P w) a vs
 | .dT kvs=>kvs.length<=sizeLine/\(a == sysModules)=false/\∃ xs:List (List Key×Addr×Value),
   Paired (λ(p:List Key×V) (q:List Key×Addr×Value)=>p.1=q.1/\H q.2.1=some (.tup (p.1.map kV))/\B6 p.2 q.2.2) kvs xs /\
   ∃ o es ep,h.get? a=some o/\o.ExactDict/\o.data=.dict es ep/\es.toList=xs.map (entryOfKey (tupleKind (I0 P w)))/\(xs.map (·.1)).Nodup
 | .set S n=>h.SetOf (intKind P w) a S n
 | .ins C dx fs=>H dx=some (.own a)/\fs.length<=1000/\dx≠a/\h.get? a=some (cO C dx) /\
   ∃ mA,h.Ns1 dx mA/\(∀ f,a1R (fs.lookup f) (mA f))/\PySem.Within mA (fs.map (·.1))
 | .own _=>∃ o,h.get? a=some o
 | .xd fs=>∃ mA,h.Ns1 a mA/\∀ f,a1R (fs.lookup f) (mA f)
 | .rng lo hi=>∃ t u v,h.get? a=some {cls:=.type "range",data:=.fields #[.int lo t,.int hi u,.int 1 v]}
 | .frz o u=>h.get? a=some o/\J0 H h a u
 | .tbl ps=>h.get? a=some {cls:=.none,data:=.fields ps}
 | .met f x=>h.get? a=some (fX (.ref f) (.ref x))
 | .ext φ=>φ h/\(∃ o,h.get? a=some o)/\∀ h1 h2:Heap,φ h1->(∀ o,h1.get? a=some o->h2.get? a=some o)->φ h2
def HOk (H:Hp)(h:Heap):Prop:=∀ a o,H a=some o->J0 P w H h a o
end
section
variable {P:Program}{w:World}{H H':Hp}{h h':Heap}{a:Addr}{o:HO}
theorem J0.lt (x:J0 P w H h a o):a<h.objs.size:=by
 cases o with
 | lst xs=>obtain⟨_,_,_,_,e⟩:=x;exact ax e
 | tup xs=>obtain⟨_,_,_,p⟩:=x;exact p.lt
 | dK kvs=>obtain⟨_,_,_,_,o,_,_,e,_⟩:=x;exact ax e
 | dT kvs=>obtain⟨_,_,_,_,o,_,_,e,_⟩:=x;exact ax e
 | set S n=>obtain⟨o,_,_,_,e,_⟩:=x;exact ax e
 | ins C dx fs=>obtain⟨_,_,_,e,_⟩:=x;exact ax e
 | own y=>obtain⟨_,e⟩:=x;exact ax e
 | xd fs=>obtain⟨_,⟨_,_,_,e,_⟩,_⟩:=x;exact ax e
 | rng lo hi=>obtain⟨_,_,_,e⟩:=x;exact ax e
 | frz ob u=>obtain⟨e,_⟩:=x;exact ax e
 | tbl ps=>exact ax (show h.get? a=some _ from x)
 | met f y=>exact ax (show h.get? a=some _ from x)
 | ext φ=>obtain⟨_,⟨_,e⟩,_⟩:=x;exact ax e
theorem Paired.mapP {α β:Type}{F G:α->β->Prop}:∀ {l₁:List α} {lz:List β},Paired F l₁ lz->(∀ a b,F a b->G a b)->Paired G l₁ lz
 | _,_,.nil,_=>.nil
 | _,_,.cons r t,f=>.cons (f _ _ r) (Paired.mapP t f)
theorem J0.stay (x:J0 P w H h a o)(k:∀ b u,(b=a\/H b=some (.own a))->h.get? b=some u->h'.get? b=some u)
  (ho:∀ b,H b=some (.own a)->H' b=some (.own a)) (ht:∀ b xs,H b=some (.tup xs)->H' b=some (.tup xs)):J0 P w H' h' a o:=by
 induction o with
 | lst xs=>obtain⟨z,its,n,r,e⟩:=x;exact⟨z,its,n,r,k _ _ (.inl rfl) e⟩
 | tup xs=>obtain⟨z,its,r,ob,e,c⟩:=x;exact⟨z,its,r,ob,k _ _ (.inl rfl) e,c⟩
 | dK kvs=>obtain⟨z,y,vs,r,ob,es,ep,e,c⟩:=x;exact⟨z,y,vs,r,ob,es,ep,k _ _ (.inl rfl) e,c⟩
 | dT kvs =>
  obtain⟨z,y,xs,r,ob,es,ep,e,c⟩:=x;exact⟨z,y,xs,Paired.mapP r λp q z=>⟨z.1,ht _ _ z.2.1,z.2.2⟩,ob,es,ep,k _ _ (.inl rfl) e,c⟩
 | set S n=>obtain⟨ob,es,ep,t,e,c⟩:=x;exact⟨ob,es,ep,t,k _ _ (.inl rfl) e,c⟩
 | ins C dx fs =>
  obtain⟨d,z,ne,e,mA,⟨od,es,ep,e2,c⟩,r⟩:=x;exact⟨ho _ d,z,ne,k _ _ (.inl rfl) e,mA,⟨od,es,ep,k _ _ (.inr d) e2,c⟩,r⟩
 | own y=>obtain⟨ob,e⟩:=x;exact⟨ob,k _ _ (.inl rfl) e⟩
 | xd fs=>obtain⟨mA,⟨od,es,ep,e,c⟩,r⟩:=x;exact⟨mA,⟨od,es,ep,k _ _ (.inl rfl) e,c⟩,r⟩
 | rng lo hi=>obtain⟨t,u,v,e⟩:=x;exact⟨t,u,v,k _ _ (.inl rfl) e⟩
 | frz ob u ih=>obtain⟨e,q⟩:=x;exact⟨k _ _ (.inl rfl) e,ih q⟩
 | tbl ps =>
  have e:h.get? a=some {cls:=.none,data:=.fields ps}:=x;show h'.get? a=some {cls:=.none,data:=.fields ps};exact k a _ (.inl rfl) e
 | met f y =>
  have e:h.get? a=some (fX (.ref f) (.ref y)):=x;show h'.get? a=some (fX (.ref f) (.ref y));exact k a _ (.inl rfl) e
 | ext φ=>obtain⟨p,⟨o,e⟩,st⟩:=x;exact⟨st _ _ p λo q=>k _ _ (.inl rfl) q,⟨o,k _ _ (.inl rfl) e⟩,st⟩
theorem HOk.lt (x:HOk P w H h)(e:H a=some o):a<h.objs.size:=(x a o e).lt
theorem HOk.fresh (x:HOk P w H h)(e:h.objs.size<=a):H a=none:=by
 cases q:H a with
 | none=>rfl
 | some u=>exact absurd (aS (x.lt q) e) (cu _)
theorem HOk.kept (x:HOk P w H h)(k:∀ b u,h.get? b=some u->h'.get? b=some u):HOk P w H h':=λa o e =>
 (x a o e).stay (λb u _ q=>k b u q) (λ_ q=>q) λ_ _ q=>q
theorem HOk.laid (x:HOk P w H h)(k:∀ b u,h.get? b=some u->h'.get? b=some u)(hp:h.objs.size<=a)(new:J0 P w (upd H a o) h' a o):HOk P w (upd H a o) h':=λb u e=>by
 have hn:=x.fresh hp;by_cases hb:b=a
 ·subst hb;rw[A2] at e;cases e;exact new
 ·rw[A7 hb] at e;exact (x b u e).stay (λc v _ q=>k c v q) (λc q=>by rw[A7 (C2 q hn)];exact q) λc xs q=>by rw[A7 (C2 q hn)];exact q
end
def Rd (H:Hp)(a:Addr)(u:HO):Prop:=H a=some u\/∃ o,H a=some (.frz o u)
theorem Rd.of {H:Hp}{a:Addr}{u:HO}(h:H a=some u):Rd H a u:=.inl h
theorem Rd.ok {P:Program}{w:World}{H:Hp}{h:Heap}{a:Addr}{u:HO}(r:Rd H a u)(x:HOk P w H h):J0 P w H h a u:=by
 rcases r with r | ⟨o,r⟩
 ·exact x a u r
 ·obtain⟨_,q⟩:=x a _ r;exact q
def Mut:Option HO->Prop
 | some (.lst _)=>True
 | some (.dK _)=>True
 | some (.dT _)=>True
 | some (.set _ _)=>True
 | some (.ins _ _ _)=>True
 | some (.ext _)=>True
 | _=>False
section
variable {P:Program}{w:World}{H:Hp}{h h':Heap}{x e:Addr}{o':HO}
theorem HOk.write (ok:HOk P w H h)(mu:Mut (H x))(he:e=x\/H e=some (.own x))(k:∀ b u,b≠e->h.get? b=some u->h'.get? b=some u)(heo:∃ u,h'.get? e=some u)
  (new:J0 P w (upd H x o') h' x o'):HOk P w (upd H x o') h':=λb u q=>by
 have nown:∀ c y,H c=some (.own y)->c≠x:=λc y r z=>by subst z;rw[r] at mu;exact mu
 have ntup:∀ c xs,H c=some (.tup xs)->c≠x:=λc xs r z=>by subst z;rw[r] at mu;exact mu
 by_cases hb:b=x
 ·subst hb;rw[A2] at q;cases q;exact new
 ·rw[A7 hb] at q;by_cases hbe:b=e
  ·have q':H b=some (.own x):=by
    rcases he with z | z
    ·exact absurd (hbe.trans z) hb
    ·rw[hbe];exact z
   rw[q] at q';cases q';obtain⟨v,hv⟩:=heo;exact⟨v,by rw[hbe];exact hv⟩
  ·refine (ok b u q).stay (λc v hc r=>k c v ?_ r) (λc r=>by rw[A7 (nown c b r)];exact r) λc xs r=>by rw[A7 (ntup c xs r)];exact r
   rcases hc with rfl | hc
   ·exact hbe
   ·rintro rfl;rcases he with z | z
    ·exact nown c b hc z
    ·rw[hc] at z;cases z;exact hb rfl
end
structure Un (fs ex:List Addr)(H H':Hp)(h h':Heap):Prop where
 keep:∀ b o,h.get? b=some o->H b=none->b∉fs->b∉ex->h'.get? b=some o
 slot:∀ b o,h.get? b=some o->H b=none->b∈fs->b∉ex->∃ sl,h'.get? b=some {o with slots:=sl}
 free:∀ b o,h.get? b=some o->H b=none->b∉ex->H' b=none
 there:∀ b o,h.get? b=some o->b∉ex->∃ o',h'.get? b=some o'
 tups:∀ b xs,H b=some (.tup xs)->H' b=some (.tup xs)
 frzs:∀ b o u,H b=some (.frz o u)->H' b=some (.frz o u)
 tbls:∀ b ps,H b=some (.tbl ps)->∃ more,H' b=some (.tbl (ps++more))
section
variable {fs fs' ex ex':List Addr}{H H1 H2:Hp}{h h1 h2 h':Heap}{a x e:Addr}{o:HO}
theorem Un.any (u:Un fs ex H H1 h h1){b:Addr}{ob:Obj}(q:h.get? b=some ob)(n:H b=none)(hx:b∉ex):∃ sl,h1.get? b=some {ob with slots:=sl}:=by
 by_cases hb:b∈fs
 ·exact u.slot b ob q n hb hx
 ·exact⟨ob.slots,u.keep b ob q n hb hx⟩
theorem Un.trans (a:Un fs ex H H1 h h1)(b:Un fs ex H1 H2 h1 h2):Un fs ex H H2 h h2 where
 keep:=λc ob q n hc hx=>b.keep c ob (a.keep c ob q n hc hx) (a.free c ob q n hx) hc hx
 slot:=λc ob q n hc hx=>by
  obtain⟨sl,e1⟩:=a.slot c ob q n hc hx;obtain⟨sl',e2⟩:=b.slot c _ e1 (a.free c ob q n hx) hc hx;exact⟨sl',e2⟩
 free:=λc ob q n hx=>by
  obtain⟨o',e1⟩:=a.there c ob q hx;exact b.free c o' e1 (a.free c ob q n hx) hx
 there:=λc ob q hx=>by
  obtain⟨o',e1⟩:=a.there c ob q hx;exact b.there c o' e1 hx
 tups:=λc xs q=>b.tups c xs (a.tups c xs q)
 frzs:=λc ob xs q=>b.frzs c ob xs (a.frzs c ob xs q)
 tbls:=λc ps q=>by
  obtain⟨m1,e1⟩:=a.tbls c ps q;obtain⟨m2,e2⟩:=b.tbls c _ e1;exact⟨m1++m2,by rw[e2,iT]⟩
theorem Un.kept (k:∀ b u,h.get? b=some u->h'.get? b=some u):Un fs ex H H h h' :=
 ⟨λb ob q _ _ _=>k b ob q,λb ob q _ _ _=>⟨ob.slots,k b ob q⟩,λ_ _ _ n _=>n,λb ob q _=>⟨ob,k b ob q⟩,λ_ _ q=>q,λ_ _ _ q=>q,λ_ ps q=>⟨#[],by rw[q];simp⟩⟩
theorem Un.refl:Un fs ex H H h h:=Un.kept λ_ _ q=>q
theorem Un.laid (k:∀ b u,h.get? b=some u->h'.get? b=some u)(hp:h.objs.size<=a)(hn:H a=none):Un fs ex H (upd H a o) h h' where
 keep:=λb u q _ _ _=>k b u q
 slot:=λb u q _ _ _=>⟨u.slots,k b u q⟩
 free:=λb u q n _=>by rw[A7 (aN (aS (ax q) hp))];exact n
 there:=λb u q _=>⟨u,k b u q⟩
 tups:=λb xs q=>by rw[A7 (C2 q hn)];exact q
 frzs:=λb u xs q=>by rw[A7 (C2 q hn)];exact q
 tbls:=λb ps q=>⟨#[],by rw[A7 (C2 q hn),q];simp⟩
theorem Un.write (mu:Mut (H x))(he:e=x\/H e=some (.own x))(k:∀ b u,b≠e->h.get? b=some u->h'.get? b=some u)(heo:∃ u,h'.get? e=some u):Un fs ex H (upd H x o) h h':=by
 have hx:∀ b,H b=none->b≠x:=λb n z=>by subst z;rw[n] at mu;exact mu
 have hb:∀ b,H b=none->b≠e:=λb n z=>by
  subst z;rcases he with r | r
  ·exact hx b n r
  ·rw[n] at r;cases r
 have hm:∀ b u,H b=some u->¬ Mut (some u)->b≠x:=λb u q nm z=>by subst z;rw[q] at mu;exact nm mu
 refine⟨λb u q n _ _=>k b u (hb b n) q,λb u q n _ _=>⟨u.slots,k b u (hb b n) q⟩,λb u q n _=>by rw[A7 (hx b n)];exact n,λb u q _=>?_,
  λb xs q=>by rw[A7 (hm b _ q λz=>z)];exact q,λb u xs q=>by rw[A7 (hm b _ q λz=>z)];exact q,λb ps q=>⟨#[],by rw[A7 (hm b _ q λz=>z),q];simp⟩⟩
 by_cases hbe:b=e
 ·subst hbe;exact heo
 ·exact⟨u,k b u hbe q⟩
theorem Un.mono (u:Un fs ex H H1 h h1)(hs:∀ b∈fs,b∈fs')(hx:∀ b∈ex,b∈ex'):Un fs' ex' H H1 h h1 :=
 ⟨λb ob q n hb he=>u.keep b ob q n (λz=>hb (hs b z)) λz=>he (hx b z),λ_ _ q n _ he=>u.any q n λz=>he (hx _ z),λb ob q n he=>u.free b ob q n λz=>he (hx b z),λb ob q he=>u.there b ob q λz=>he (hx b z),u.tups,u.frzs,u.tbls⟩
end
def trk (h:Heap)(H:Hp):List Addr:=(List.range h.objs.size).filter λa=>(H a).isSome
def a1G (h:Heap)(H:Hp):Heap:=eZ h (trk h H)
theorem a4N (h:Heap)(H:Hp):(a1G h H).objs.size=h.objs.size:=PySem.W.hideAll_size _ _
theorem a6w {h:Heap}{H:Hp}{b:Addr}{o:Obj}(e:h.get? b=some o)(n:H b=none):(a1G h H).get? b=some o :=
 dI _ e λhm=>by
  have q:(H b).isSome=true:=(List.mem_filter.mp hm).2;rw[n] at q;simp at q
theorem a7v {h:Heap}{H:Hp}{b:Addr}{o:Obj}(e:(a1G h H).get? b=some o):h.get? b=some o/\H b=none:=by
 have e':h.get? b=some o:=iq (trk h H) e;refine⟨e',?_⟩;cases q:H b with
 | none=>rfl
 | some x =>
  have hm:b∈trk h H:=List.mem_filter.mpr ⟨bf.mpr (ax e'),by simp[q]⟩;have z:(a1G h H).get? b=none:=PySem.W.hideAll_none (trk h H) hm;rw[z] at e;cases e
def a7R (g h:Heap)(L:Addr):List (Addr×Obj):=(List.range h.objs.size).filterMap λa=>if a=L\/(g.get? a).isSome=true then none else (h.get? a).map λo=>(a,o)
def P8 (g h:Heap)(L d:Addr):List (Addr×Obj):=(a7R g h L).filter λp=>decide (p.1≠d)
end L2
namespace L2
open PySem PySem.Spec PyProof.Rows
structure Mod (K:ae)(mg:Str->Option Value)(base:Heap):Prop where
 kin:K.In base
 glob:base.Ns mainGlobals mg
 blt:∃ mb,base.Ns builtinsNs mb/\∀ x:Str,x≠"__name__"->mb x=bootBuiltins x
 nolimit:base.NoLimit
structure Cx where
 prog:Program
 w:World
 K:ae
 mg:Str->Option Value
 base:Heap
 A:Around
 N:List Str
 sw:Shared
 Hz:Hp
 env:Env
 outer:List Env
 stack:List Env
 ex:List Addr
 fn:Str->Bool
 calm:Bool
 pn:List (Addr×Obj)
 xe:Value->Shared->Prop
def frs (l:List Env):List Addr:=l.filterMap (·.frame)
abbrev Cx.fs (X:Cx):List Addr:=frs X.outer
def Vis (sc:Scope)(x:Str):Prop:=sc.names.lookup x=some .local\/sc.names.lookup x=some .cell\/sc.names.lookup x=some .free
def Loc (sc:Scope)(x:Str):Prop:=sc.names.lookup x=some .local\/sc.names.lookup x=some .cell
def b1a (env:Env)(h:Heap)(m:Str->Option Value)(x:Str)(u:Value):Prop :=
 (env.kindOf x=some .local/\m x=some u)\/((env.kindOf x=some .cell\/env.kindOf x=some .free)/\∃ c,env.cells.lookup x=some c/\h.IsCell c (some u))
structure Cx.Ok (X:Cx):Prop where
 mod:Mod X.K X.mg X.base
 kind:X.env.scope.kind=.function
 glob:X.env.globals=mainGlobals
 blt:X.env.builtins=builtinsNs
 above:X.sw.heap.objs.size<=X.env.locals
 inj:∀ x y c,X.env.cells.lookup x=some c->X.env.cells.lookup y=some c->x=y
 has:∀ x,(X.env.kindOf x=some .cell\/X.env.kindOf x=some .free)->∃ c,X.env.cells.lookup x=some c
 cab:∀ x c,X.fn x=true->X.env.cells.lookup x=some c->X.sw.heap.objs.size<=c
 hd:X.calm=true->X.A.handled=none
 frames:X.A.frames=some X.stack
 stk:X.stack=X.outer\/(X.stack=X.env::X.outer/\X.env.frame=some X.env.locals)
 exf:∀ b∈X.ex,b≠X.env.locals/\∀ x c,X.env.cells.lookup x=some c->c≠b
 bs:∀ b o,X.base.get? b=some o->X.sw.heap.get? b=some o/\X.Hz b=none
 bsz:X.base.objs.size<=X.sw.heap.objs.size
 noex:∀ b o,X.base.get? b=some o->b∉X.ex
 exfs:∀ b∈X.ex,b∉X.fs
 funs:X.sw.heap.FunFrames X.base X.outer
 frf:∀ b∈X.fs,X.Hz b=none
structure Inv (X:Cx)(pins:List (Addr×Obj))(σ:List (Option V))(H:Hp)(s:Shared):Prop where
 ok:X.Ok
 os:s.os=X.sw.os
 bare:AllBare s.gens
 base:Un X.fs X.ex X.Hz H X.sw.heap s.heap
 loc:∃ m,s.heap.Ns X.env.locals m/\∀(i:Nat) (x:Str) (v:V),X.N[i]?=some x->σ[i]?=some (some v)->Vis X.env.scope x->∃ u,B6 v u/\b1a X.env s.heap m x u
 cell:∀ x c,X.env.cells.lookup x=some c->∃ v,s.heap.IsCell c v
 free:H X.env.locals=none
 freeC:∀ x c,X.env.cells.lookup x=some c->H c=none
 pin:∀ p∈X.pn++pins,s.heap.get? p.1=some p.2/\H p.1=none/\p.1≠X.env.locals/\p.1∉X.fs/\∀ v,p.2.data≠.cell v
 hok:HOk X.prog X.w H s.heap
 len:σ.length=X.N.length
section
variable {X:Cx}{pins:List (Addr×Obj)}{σ:List (Option V)}{H H':Hp}{s:Shared}{h':Heap}
theorem Cx.Ok.nofr (ok:X.Ok){b:Addr}{o:Obj}(e:X.base.get? b=some o):b∉X.fs:=λhb=>by
 have:=(ok.funs.mem hb).1;rw[e] at this;cases this
theorem Inv.bs (I:Inv X pins σ H s):∀ b o,X.base.get? b=some o->s.heap.get? b=some o/\H b=none:=λb o e =>
 ⟨I.base.keep b o (I.ok.bs b o e).1 (I.ok.bs b o e).2 (I.ok.nofr e) (I.ok.noex b o e),I.base.free b o (I.ok.bs b o e).1 (I.ok.bs b o e).2 (I.ok.noex b o e)⟩
theorem Inv.bk (I:Inv X pins σ H s):∀ b o,X.base.get? b=some o->s.heap.get? b=some o:=λb o e=>(I.bs b o e).1
theorem Inv.mod (I:Inv X pins σ H s):Mod X.K X.mg X.base:=I.ok.mod
theorem Inv.kIn (I:Inv X pins σ H s):X.K.In s.heap:=I.ok.mod.kin.keeps I.bk
theorem Inv.nolimit (I:Inv X pins σ H s):s.heap.NoLimit:=I.ok.mod.nolimit.keeps I.bk
theorem Inv.lt (I:Inv X pins σ H s):X.env.locals<s.heap.objs.size:=let ⟨_,hn,_⟩:=I.loc;hn.lt
theorem Inv.sz (I:Inv X pins σ H s):X.sw.heap.objs.size<=s.heap.objs.size:=aH I.ok.above (bT I.lt)
theorem Inv.nofs (I:Inv X pins σ H s){a:Addr}(h:s.heap.objs.size<=a):a∉X.fs:=λhb=>by
 obtain⟨_,o,ho,_⟩:=I.ok.funs.mem hb;exact absurd (aS (ax ho) (aH I.sz h)) (cu _)
theorem Inv.cne (I:Inv X pins σ H s):∀ x c,X.env.cells.lookup x=some c->c≠X.env.locals:=λx c e z=>by
 obtain⟨v,o,ho,hd⟩:=I.cell x c e;obtain⟨m,⟨o',es,ep,ho',hd',_⟩,_⟩:=I.loc;rw[z,ho'] at ho;cases ho;rw[hd'] at hd;cases hd
theorem Inv.funs (I:Inv X pins σ H s):s.heap.FunFrames X.base X.outer:=by
 have all:∀(l:List Env),(∀ b∈frs l,b∈X.fs)->X.sw.heap.FunFrames X.base l->s.heap.FunFrames X.base l:=by
  intro l;induction l with
  | nil=>intro _ _;trivial
  | cons env r ih =>
   intro hs hl;obtain⟨hk,⟨L,o,hf,hn,ho,hd⟩,hr⟩:=hl;have hL:L∈X.fs:=hs L (by unfold frs;rw[cI,hf];exact aD);obtain⟨sl,e⟩:=I.base.slot L o ho (I.ok.frf L hL) hL λz=>I.ok.exfs L z hL
   exact⟨hk,⟨L,_,hf,hn,e,hd⟩,ih (λb hb=>hs b (by unfold frs;rw[cI,hf];exact aq _ hb)) hr⟩
 exact all X.outer (λ_ hb=>hb) I.ok.funs
theorem Inv.stack (I:Inv X pins σ H s):s.heap.FunFrames X.base X.stack:=by
 rcases I.ok.stk with e | ⟨e,hf⟩
 ·rw[e];exact I.funs
 ·rw[e];obtain⟨m,hn,_⟩:=I.loc;refine .cons (by rw[I.ok.kind];decide) hf hn ?_ I.funs;exact Heap.get?_none_of_le (aH I.ok.bsz I.ok.above)
theorem Inv.stkSub (I:Inv X pins σ H s):∀ b∈frs X.stack,b∈X.env.locals::X.fs:=λb hb=>by
 rcases I.ok.stk with e | ⟨e,hf⟩
 ·rw[e] at hb;exact aq _ hb
 ·rw[e] at hb;unfold frs at hb;rw[cI,hf] at hb;exact hb
theorem Inv.stkFree (I:Inv X pins σ H s):∀ b∈frs X.stack,H b=none:=λb hb=>by
 rcases aO.mp (I.stkSub b hb) with e | hb
 ·rw[e];exact I.free
 ·obtain⟨_,o,ho,_⟩:=I.ok.funs.mem hb;exact I.base.free b o ho (I.ok.frf b hb) λz=>I.ok.exfs b z hb
theorem Inv.step {g':Array GenState}{t':Nat}{d':Drawn}{ch:List Addr}(I:Inv X pins σ H s)
  (hch:∀ b∈ch,(b∈X.ex\/X.sw.heap.objs.size<=b)/\b≠X.env.locals/\(∀ x c,X.env.cells.lookup x=some c->c≠b)/\∀ p∈X.pn++pins,p.1≠b)
  (keep:∀ b o,b≠X.env.locals->b∉X.fs->b∉ch->s.heap.get? b=some o->H b=none->h'.get? b=some o)
  (slot:∀ b o,b≠X.env.locals->b∈X.fs->b∉ch->s.heap.get? b=some o->H b=none->∃ sl,h'.get? b=some {o with slots:=sl}) (free:∀ b o,b∉ch->s.heap.get? b=some o->H b=none->H' b=none)
  (there:∀ b o,b∉ch->s.heap.get? b=some o->∃ o',h'.get? b=some o')
  (tups:∀ b xs,H b=some (.tup xs)->H' b=some (.tup xs)) (frzs:∀ b o u,H b=some (.frz o u)->H' b=some (.frz o u)) (tbls:∀ b ps,H b=some (.tbl ps)->∃ more,H' b=some (.tbl (ps++more)))
  (ns:∀ m,s.heap.Ns X.env.locals m->h'.Ns X.env.locals m) (hok:HOk X.prog X.w H' h') (hg:AllBare g') :
  Inv X pins σ H' {s with heap:=h',gens:=g',drawn:=d',toks:=t'}:=by
 have neL:∀ b o,X.sw.heap.get? b=some o->b≠X.env.locals:=λb o e=>aN (aS (ax e) I.ok.above)
 have neC:∀ b o,X.sw.heap.get? b=some o->b∉X.ex->b∉ch:=λb o e hx hb=>by
  rcases (hch b hb).1 with z | z
  ·exact hx z
  ·exact absurd (aS (ax e) z) (cu _)
 have cellK:∀ x c,X.env.cells.lookup x=some c->∀ v,s.heap.IsCell c v->h'.IsCell c v:=λx c e v ⟨o,ho,hd⟩=>by
  have nch:c∉ch:=λz=>(hch c z).2.2.1 x c e rfl
  by_cases hc:c∈X.fs
  ·obtain⟨sl,q⟩:=slot c o (I.cne x c e) hc nch ho (I.freeC x c e);exact⟨_,q,hd⟩
  ·exact⟨o,keep c o (I.cne x c e) hc nch ho (I.freeC x c e),hd⟩
 refine⟨I.ok,I.os,hg,⟨λb o e n hb hx=>?_,λb o e n hb hx=>?_,λb o e n hx=>?_,λb o e hx=>?_,λb xs e=>tups b xs (I.base.tups b xs e),λb o xs e=>frzs b o xs (I.base.frzs b o xs e),λb ps e=>?_⟩,?_,λx c e=>?_,?_,λx c e=>?_,λp hp=>?_,hok,I.len⟩
 ·exact keep b o (neL b o e) hb (neC b o e hx) (I.base.keep b o e n hb hx) (I.base.free b o e n hx)
 ·obtain⟨sl,e1⟩:=I.base.slot b o e n hb hx;obtain⟨sl',e2⟩:=slot b _ (neL b o e) hb (neC b o e hx) e1 (I.base.free b o e n hx);exact⟨sl',e2⟩
 ·obtain⟨o',e1⟩:=I.base.there b o e hx;exact free b o' (neC b o e hx) e1 (I.base.free b o e n hx)
 ·obtain⟨o',e1⟩:=I.base.there b o e hx;exact there b o' (neC b o e hx) e1
 ·obtain⟨m1,e1⟩:=I.base.tbls b ps e;obtain⟨m2,e2⟩:=tbls b _ e1;exact⟨m1++m2,by rw[e2,iT]⟩
 ·obtain⟨m,hn,hl⟩:=I.loc;refine⟨m,ns m hn,λi x v e1 e2 e3=>?_⟩;obtain⟨u,r,l⟩:=hl i x v e1 e2 e3;refine⟨u,r,?_⟩;rcases l with l | ⟨k,c,e,z⟩
  ·exact .inl l
  ·exact .inr ⟨k,c,e,cellK x c e _ z⟩
 ·obtain⟨v,z⟩:=I.cell x c e;exact⟨v,cellK x c e v z⟩
 ·obtain⟨m,⟨o,_,_,ho,_⟩,_⟩:=I.loc;exact free _ o (λz=>(hch _ z).2.1 rfl) ho I.free
 ·obtain⟨v,o,ho,hd⟩:=I.cell x c e;exact free c o (λz=>(hch c z).2.2.1 x c e rfl) ho (I.freeC x c e)
 ·obtain⟨e,n,ne,nf,d⟩:=I.pin p hp;have nch:p.1∉ch:=λz=>(hch p.1 z).2.2.2 p hp rfl
  exact⟨keep p.1 p.2 ne nf nch e n,free p.1 p.2 nch e n,ne,nf,d⟩
theorem Inv.un {t':Nat}(I:Inv X pins σ H s)(u:Un X.fs [] H H' s.heap h')(hok:HOk X.prog X.w H' h'):Inv X pins σ H' {s with heap:=h',toks:=t'}:=by
 obtain⟨m,⟨o,es,ep,ho,r⟩,_⟩:=id I.loc;obtain⟨sl,hL⟩:=u.any ho I.free (by simp)
 exact I.step (g':=s.gens) (d':=s.drawn) (ch:=[]) (λ_ z=>nomatch z) (λb o _ hb _ e n=>u.keep b o e n hb (by simp)) (λb o _ hb _ e n=>u.slot b o e n hb (by simp)) (λb o _ e n=>u.free b o e n (by simp)) (λb o _ e=>u.there b o e (by simp)) u.tups u.frzs u.tbls (λm' hm=>by
  obtain⟨o',es',ep',ho',r'⟩:=hm;rw[ho] at ho';cases ho'
  exact⟨_,es',ep',hL,r'⟩) hok I.bare
theorem Inv.call {g':Array GenState}{t':Nat}{d':Drawn}{ch:List Addr}(I:Inv X pins σ H s)(u:Un (frs X.stack) ch H H' s.heap h')(hok:HOk X.prog X.w H' h')(hg:AllBare g')
  (hch:∀ b∈ch,(b∈X.ex\/X.sw.heap.objs.size<=b)/\b≠X.env.locals/\(∀ x c,X.env.cells.lookup x=some c->c≠b)/\∀ p∈X.pn++pins,p.1≠b) :
  Inv X pins σ H' {s with heap:=h',gens:=g',drawn:=d',toks:=t'}:=by
 obtain⟨m,⟨o,es,ep,ho,r⟩,_⟩:=id I.loc;obtain⟨sl,hL⟩:=u.any ho I.free λz=>(hch _ z).2.1 rfl
 exact I.step (ch:=ch) hch (λb o hL hb hc e n=>u.keep b o e n (λz=>(aO.mp (I.stkSub b z)).elim hL hb) hc) (λb o _ _ hc e n=>u.any e n hc) (λb o hc e n=>u.free b o e n hc) (λb o hc e=>u.there b o e hc) u.tups u.frzs u.tbls (λm' hm=>by
  obtain⟨o',es',ep',ho',r'⟩:=hm;rw[ho] at ho';cases ho'
  exact⟨_,es',ep',hL,r'⟩) hok hg
theorem Inv.turned {t':Nat}{it:Addr}(I:Inv X pins σ H s)(k:∀ b o,b≠it->s.heap.get? b=some o->h'.get? b=some o)(hn:H it=none)(hL:it≠X.env.locals)
  (h1:it∈X.ex\/X.sw.heap.objs.size<=it) (h2:∀ x c,X.env.cells.lookup x=some c->c≠it) (h3:∀ p∈X.pn++pins,p.1≠it):Inv X pins σ H {s with heap:=h',toks:=t'}:=by
 have nit:∀ b u,H b=some u->b≠it:=λb u e z=>by rw[z,hn] at e;cases e
 refine I.step (g':=s.gens) (d':=s.drawn) (ch:=[it]) (λb hb=>?_) (λb o _ _ hc e _=>k b o (λz=>hc (by simp[z])) e) (λb o _ _ hc e _=>⟨o.slots,k b o (λz=>hc (by simp[z])) e⟩) (λ_ _ _ _ n=>n)
  (λb o hc e=>⟨o,k b o (λz=>hc (by simp[z])) e⟩) (λ_ _ e=>e) (λ_ _ _ e=>e) (λb ps e=>⟨#[],by rw[e];simp⟩) (λm hm=>?_) (λb u e=>?_) I.bare
 ·have e:b=it:= ~~~hb
  subst e;exact⟨h1,hL,h2,h3⟩
 ·obtain⟨o,es,ep,ho,r⟩:=hm;exact⟨o,es,ep,k _ o (fm hL) ho,r⟩
 ·refine (I.hok b u e).stay (λc v hc q=>k c v ?_ q) (λ_ q=>q) λ_ _ q=>q
  rcases hc with z | z
  ·rw[z];exact nit b u e
  ·exact nit c _ z
theorem Inv.tok (I:Inv X pins σ H s)(t:Nat):Inv X pins σ H {s with toks:=t}:=I.un (h':=s.heap) (t':=t) Un.refl I.hok
theorem Inv.kept {t':Nat}(I:Inv X pins σ H s)(k:∀ b u,s.heap.get? b=some u->h'.get? b=some u):Inv X pins σ H {s with heap:=h',toks:=t'}:=I.un (Un.kept k) (I.hok.kept k)
theorem Inv.laid {a:Addr}{o:HO}{t':Nat}(I:Inv X pins σ H s)(k:∀ b u,s.heap.get? b=some u->h'.get? b=some u)(hp:s.heap.objs.size<=a)(new:J0 X.prog X.w (upd H a o) h' a o) :
  Inv X pins σ (upd H a o) {s with heap:=h',toks:=t'}:=I.un (Un.laid k hp (I.hok.fresh hp)) (I.hok.laid k hp new)
theorem Inv.write {x e:Addr}{o:HO}{t':Nat}(I:Inv X pins σ H s)(mu:Mut (H x))(he:e=x\/H e=some (.own x))(k:∀ b u,b≠e->s.heap.get? b=some u->h'.get? b=some u)(heo:∃ u,h'.get? e=some u)
  (new:J0 X.prog X.w (upd H x o) h' x o):Inv X pins σ (upd H x o) {s with heap:=h',toks:=t'}:=I.un (Un.write mu he k heo) (I.hok.write mu he k heo new)
theorem Inv.pins_of {pins':List (Addr×Obj)}(I:Inv X pins σ H s)(h:∀ p∈pins',s.heap.get? p.1=some p.2/\H p.1=none/\p.1≠X.env.locals/\p.1∉X.fs/\∀ v,p.2.data≠.cell v):Inv X pins' σ H s :=
 ⟨I.ok,I.os,I.bare,I.base,I.loc,I.cell,I.free,I.freeC,λp hp=>(aA.mp hp).elim (λz=>I.pin p (fM _ z)) (h p),I.hok,I.len⟩
theorem a0t {N:List Str}(hN:N.Nodup){i j:Nat}{x:Str}(a:N[i]?=some x)(b:N[j]?=some x):i=j:=by
 obtain⟨h1,e1⟩:=aK.mp a;obtain⟨h2,e2⟩:=aK.mp b;exact (List.getElem_inj hN).mp (e1.trans e2.symm)
theorem a0S {M:Model}{A:Around}{E:Value->Shared->Prop}{i:Nat}{x:Str}{v:V}{u:Value}{Q:Unit->Shared->Prop}(I:Inv X pins σ H s)(hN:X.N.Nodup)(hi:X.N[i]?=some x)(hx:Loc X.env.scope x)(r:B6 v u)
  (h:∀ s',Inv X pins (σ.set i (some v)) H s'->(∃ a,cr a s.heap s'.heap/\(a=X.env.locals\/X.env.cells.lookup x=some a))->Q () s') (hf:X.fn x=true\/X.env.scope.names.lookup x=some .local:=by first | exact .inl rfl | exact .inr rfl | assumption):wpAny M A (storeName X.env x u) Q E s:=by
 obtain⟨m,hn,hl⟩:=id I.loc;have hcls:(X.env.scope.kind == .class || (X.env.scope.kind == .module && X.env.locals != X.env.globals))=false:=by rw[I.ok.kind];rfl
 have hiσ:i<σ.length:=by rw[I.len];exact (aK.mp hi).1
 have cne:=I.cne;have tracked:∀ {a:Addr} {h':Heap},(∃ o,s.heap.get? a=some o/\H a=none)->cr a s.heap h'->HOk X.prog X.w H h':=λ{a h'} ha hs b ob e=>by
  obtain⟨_,_,hfree⟩:=ha;refine (I.hok b ob e).stay (λc w' hc q=>(hs.2 c ?_).trans q) (λ_ q=>q) λ_ _ q=>q
  rintro rfl;rcases hc with rfl | hc
  ·rw[hfree] at e;cases e
  ·rw[hfree] at hc;cases hc
 rcases hx with hk | hk
 ·refine wpAny_storeName_local hk hn (λh' hn' hs=>?_) hcls;obtain⟨oL,_,_,hoL,_⟩:=id hn;refine h _ ⟨I.ok,I.os,I.bare,⟨λb o e n hb hx=>?_,λb o e n hb hx=>?_,I.base.free,λb o e hx=>?_,I.base.tups,I.base.frzs,I.base.tbls⟩,⟨_,hn',λj y v' e1 e2 e3=>?_⟩,λy c e=>?_,I.free,I.freeC,λp hp=>?_,tracked ⟨oL,hoL,I.free⟩ hs, ~~~I.len⟩ ⟨_,hs,.inl rfl⟩
  ·exact (hs.2 b (aN (aS (ax e) I.ok.above))).trans (I.base.keep b o e n hb hx)
  ·obtain⟨sl,e1⟩:=I.base.slot b o e n hb hx;exact⟨sl,(hs.2 b (aN (aS (ax e) I.ok.above))).trans e1⟩
  ·obtain⟨o',e1⟩:=I.base.there b o e hx;exact⟨o',(hs.2 b (aN (aS (ax e) I.ok.above))).trans e1⟩
  ·by_cases hj:j=i
   ·subst hj;rw[hi] at e1;cases e1;rw[du hiσ] at e2;cases e2;exact⟨u,r,.inl ⟨hk,by simp⟩⟩
   ·rw[fN (fm hj)] at e2;obtain⟨u',r',q⟩:=hl j y v' e1 e2 e3;refine⟨u',r',?_⟩;rcases q with ⟨k,e⟩ | ⟨k,c,e,z⟩
    ·refine .inl ⟨k,?_⟩;have:y≠x:=λe=>hj (a0t hN e1 (e ▸ hi))
     simp[this,e]
    ·exact .inr ⟨k,c,e,z.sameBut hs (cne y c e)⟩
  ·obtain⟨w',z⟩:=I.cell y c e;exact⟨w',z.sameBut hs (cne y c e)⟩
  ·obtain⟨e,n,ne,nf,d⟩:=I.pin p hp;exact⟨(hs.2 p.1 ne).trans e,n,ne,nf,d⟩
 ·have hfn:X.fn x=true:=by
   rcases hf with z | z
   ·exact z
   ·rw[z] at hk;cases hk
  obtain⟨c,hc⟩:=I.ok.has x (.inl hk);obtain⟨w',z⟩:=I.cell x c hc;refine wpAny_storeName_cell I.ok.kind hk hc z (λh' hc' hs=>?_);obtain⟨oc,hoc,hocd⟩:=id z;refine h {s with heap:=h'} ⟨I.ok,I.os,I.bare,⟨λb o e n hb hx=>?_,λb o e n hb hx=>?_,I.base.free,λb o e hx=>?_,I.base.tups,I.base.frzs,I.base.tbls⟩,⟨m,hn.sameBut hs (fm (cne x c hc)),λj y v' e1 e2 e3=>?_⟩,λy c' e=>?_,I.free,I.freeC,λp hp=>?_,tracked ⟨oc,hoc,I.freeC x c hc⟩ hs, ~~~I.len⟩ ⟨c,hs,.inr hc⟩
  ·exact (hs.2 b (aN (aS (ax e) (I.ok.cab x c hfn hc)))).trans (I.base.keep b o e n hb hx)
  ·obtain⟨sl,e1⟩:=I.base.slot b o e n hb hx;exact⟨sl,(hs.2 b (aN (aS (ax e) (I.ok.cab x c hfn hc)))).trans e1⟩
  ·obtain⟨o',e1⟩:=I.base.there b o e hx;exact⟨o',(hs.2 b (aN (aS (ax e) (I.ok.cab x c hfn hc)))).trans e1⟩
  ·by_cases hj:j=i
   ·subst hj;rw[hi] at e1;cases e1;rw[du hiσ] at e2;cases e2;exact⟨u,r,.inr ⟨.inl hk,c,hc,hc'⟩⟩
   ·rw[fN (fm hj)] at e2;obtain⟨u',r',q⟩:=hl j y v' e1 e2 e3;refine⟨u',r',?_⟩;rcases q with q | ⟨k,c',e,z'⟩
    ·exact .inl q
    ·refine .inr ⟨k,c',e,z'.sameBut hs ?_⟩;rintro rfl;exact hj (a0t hN e1 (I.ok.inj _ _ _ e hc ▸ hi))
  ·by_cases hcc:c'=c
   ·subst hcc;exact⟨_,hc'⟩
   ·obtain⟨w2,z2⟩:=I.cell y c' e;exact⟨w2,z2.sameBut hs hcc⟩
  ·obtain⟨e,n,ne,nf,d⟩:=I.pin p hp;refine⟨(hs.2 p.1 ?_).trans e,n,ne,nf,d⟩;intro q;rw[q,hoc] at e;have q':oc=p.2:=aG e;exact d w' (by rw[<- q'];exact hocd)
theorem a0f {M:Model}{A:Around}{E:Value->Shared->Prop}{i:Nat}{x:Str}{v:V}{u:Value}{Q:Unit->Shared->Prop}(I:Inv X pins σ H s)(hN:X.N.Nodup)(hi:X.N[i]?=some x)(hx:Loc X.env.scope x)(r:B6 v u)
  (h:∀ s',Inv X pins (σ.set i (some v)) H s'->Q () s') (hf:X.fn x=true\/X.env.scope.names.lookup x=some .local:=by first | exact .inl rfl | exact .inr rfl | assumption):wpAny M A (storeName X.env x u) Q E s :=
 a0S I hN hi hx r (λs' I' _=>h s' I') hf
theorem Inv.call' {s':Shared}{ch:List Addr}(I:Inv X pins σ H s)(ho:s'.os=s.os)(u:Un (frs X.stack) ch H H' s.heap s'.heap)(hok:HOk X.prog X.w H' s'.heap)(hg:AllBare s'.gens)
  (hch:∀ b∈ch,(b∈X.ex\/X.sw.heap.objs.size<=b)/\b≠X.env.locals/\(∀ x c,X.env.cells.lookup x=some c->c≠b)/\∀ p∈X.pn++pins,p.1≠b):Inv X pins σ H' s':=by
 obtain⟨h',g',d',t',o'⟩:=s';have e:o'=s.os:=ho;subst e;exact I.call (g':=g') (t':=t') (d':=d') u hok hg hch
end
abbrev XK:=Value->Option Addr->Hp->Prop
abbrev St:=List (Option V)
abbrev VK:=V->Hp->Prop
abbrev TE:=St->Hp->VK->Prop
abbrev TT:=St->Hp->(Bool->Hp->Prop)->Prop
abbrev TA:=St->Hp->(List V->Hp->Prop)->Prop
structure Q4 where
 nx:St->Hp->Prop
 rt:VK
 bk:St->Hp->Prop:=λ_ _=>False
 ct:St->Hp->Prop:=λ_ _=>False
abbrev TS:=Q4->St->Hp->Prop
def EP (X:Cx)(pins:List (Addr×Obj))(σ:St)(Q:VK)(u:Value)(s':Shared):Prop:=∃ v H',Inv X pins σ H' s'/\B6 v u/\Q v H'
def TP (X:Cx)(pins:List (Addr×Obj))(σ:St)(Q:Bool->Hp->Prop)(b:Bool)(s':Shared):Prop:=∃ H',Inv X pins σ H' s'/\Q b H'
def AP (X:Cx)(pins:List (Addr×Obj))(σ:St)(Q:List V->Hp->Prop)(us:List Value)(s':Shared):Prop:=∃ vs H',Inv X pins σ H' s'/\B3 vs us/\Q vs H'
def SP (X:Cx)(pins:List (Addr×Obj))(D:Q4)(f:Flow)(s':Shared):Prop :=
 match f with
 | .next=>∃ σ' H',Inv X pins σ' H' s'/\D.nx σ' H'
 | .brk=>∃ σ' H',Inv X pins σ' H' s'/\D.bk σ' H'
 | .cont=>∃ σ' H',Inv X pins σ' H' s'/\D.ct σ' H'
 | .ret u=>∃ v σ' H',Inv X pins σ' H' s'/\B6 v u/\D.rt v H'
def PE (X:Cx)(e:Expr)(t:TE):Prop :=
 ∀(pins:List (Addr×Obj)) (s:Shared) (σ:St) (H:Hp) (Q:VK),Inv X pins σ H s->t σ H Q->wpAny (model X.prog X.w) X.A (eval e X.env) (EP X pins σ Q) X.xe s
def PT (X:Cx)(e:Expr)(t:TT):Prop :=
 ∀(pins:List (Addr×Obj)) (s:Shared) (σ:St) (H:Hp) (Q:Bool->Hp->Prop),Inv X pins σ H s->t σ H Q->wpAny (model X.prog X.w) X.A (isTrue e X.env (eval e X.env)) (TP X pins σ Q) X.xe s
def PW (X:Cx)(e:Expr)(t:TT):Prop :=
 ∀(whole:Sem Value) (pins:List (Addr×Obj)) (s:Shared) (σ:St) (H:Hp) (Q:Bool->Hp->Prop),Inv X pins σ H s->t σ H Q->wpAny (model X.prog X.w) X.A (isTrue e X.env whole) (TP X pins σ Q) X.xe s
theorem PW.pt {X:Cx}{e:Expr}{t:TT}(h:PW X e t):PT X e t:=h _
def PA (X:Cx)(es:List Expr)(t:TA):Prop :=
 ∀(pos:Pos) (pins:List (Addr×Obj)) (s:Shared) (σ:St) (H:Hp) (Q:List V->Hp->Prop),Inv X pins σ H s->t σ H Q->wpAny (model X.prog X.w) X.A (spliced (backTo pos (starEach es X.env))) (AP X pins σ Q) X.xe s
def PS (X:Cx)(st:Stmt)(t:TS):Prop :=
 ∀(pins:List (Addr×Obj)) (s:Shared) (σ:St) (H:Hp) (D:Q4),Inv X pins σ H s->t D σ H->wpAny (model X.prog X.w) X.A (exec st X.env) (SP X pins D) X.xe s
def PSs (X:Cx)(st:List Stmt)(t:TS):Prop :=
 ∀(pins:List (Addr×Obj)) (s:Shared) (σ:St) (H:Hp) (D:Q4),Inv X pins σ H s->t D σ H->wpAny (model X.prog X.w) X.A (execs st X.env) (SP X pins D) X.xe s
theorem thn {α:Type}{t:Sem α}{Q Q':α->Shared->Prop}{M:Model}{A:Around}{E:Value->Shared->Prop}{s:Shared}(h:wpAny M A t Q E s)(hQ:∀ a s,Q a s->Q' a s):wpAny M A t Q' E s:=bO h hQ λ_ _ x=>x
end L2
namespace L2
open PySem PySem.Spec PyProof.Rows
section
variable {X:Cx}
theorem bin {a b:Expr}{ta tb:TE}(ha:PE X a ta)(hb:PE X b tb){pins:List (Addr×Obj)}{s:Shared}{σ:St}{H:Hp}{R:V->V->Hp->Prop}(I:Inv X pins σ H s)(h:ta σ H λx H1=>tb σ H1 λy H2=>R x y H2)
  {α:Type} {Q:α->Shared->Prop} {f:Value->Value->Sem α}
  (hf:∀ v u s2 x y H2,Inv X pins σ H2 s2->B6 x v->B6 y u->R x y H2->wpAny (model X.prog X.w) X.A (f v u) Q X.xe s2) :
  wpAny (model X.prog X.w) X.A (eval a X.env) (λv sj=>wpAny (model X.prog X.w) X.A (eval b X.env) (λu sk=>wpAny (model X.prog X.w) X.A (f v u) Q X.xe sk) X.xe sj) X.xe s:=by
 refine thn (ha pins s σ H _ I h) λv s1 ⟨x,H1,I1,r1,q1⟩=>?_
 refine thn (hb pins s1 σ H1 _ I1 q1) λu s2 ⟨y,H2,I2,r2,q2⟩=>?_
 exact hf v u s2 x y H2 I2 r1 r2 q2
def Q9 (i:Nat):TE:=fun σ H Q=>∃ v,σ[i]?=some (some v)/\Q v H
def tC (v:V):TE:=λ_ H Q=>Q v H
theorem a9d {i:Nat}{x:Str}{pos:Pos}(hN:X.N[i]?=some x)(hv:Vis X.env.scope x)(hd:(x == ("__debug__":Str))=false:=by decide)(hcd:(x == ("__classdict__":Str))=false:=by decide):PE X (.Name x pos) (Q9 i):=by
 intro pins s σ H Q I h;obtain⟨v,e,h⟩:=h;obtain⟨m,hn,hl⟩:=I.loc;obtain⟨u,r,l⟩:=hl i x v hN e hv;have fin:EP X pins σ Q u s:=⟨v,H,I,r,h⟩
 rcases l with ⟨hk,hm⟩ | ⟨hk,c,hc,hcell⟩
 ·exact gQ (ge I.ok.kind hk hn hm fin) hd
 ·rcases hk with hk | hk
  ·exact gQ (wpAny_loadName_cell I.ok.kind hk hc hcell fin) hd
  ·exact gQ (wpAny_loadName_free I.ok.kind hk hc hcell fin hcd) hd
theorem A4 {i j pos}:PE X (.Constant (.int i) j pos) (tC (.int i)):=λ_ _ _ H _ I h=>wpAny_Constant_int ⟨.int i,H,I.tok _,⟨_,rfl⟩,h⟩
theorem Q7 {b j pos}:PE X (.Constant (.bool b) j pos) (tC (.bl b)):=λ_ _ _ H _ I h=>Constant_bool ⟨.bl b,H,I,rfl,h⟩
theorem R4 {j pos}:PE X (.Constant .none j pos) (tC .non):=λ_ _ _ H _ I h=>Constant_none ⟨.non,H,I,rfl,h⟩
theorem B0 {x j pos}:PE X (.Constant (.str x) j pos) (tC (.str x)):=λ_ _ _ H _ I h=>Calls.Constant_str ⟨.str x,H,I.tok _,⟨_,rfl⟩,h⟩
def Gl (X:Cx)(x:Str):Prop:=X.env.kindOf x=some .globalImplicit
theorem a0c {E:Value->Shared->Prop}{pins:List (Addr×Obj)}{s:Shared}{σ:St}{H:Hp}{x:Str}{u:Value}{pos:Pos}{Q:Value->Shared->Prop}(I:Inv X pins σ H s)(hg:Gl X x)(hm:X.mg x=some u)(h:Q u s)
  (hd:(x == ("__debug__":Str))=false:=by decide):wpAny (model X.prog X.w) X.A (eval (.Name x pos) X.env) Q E s :=
 gI I.ok.kind hg (Calls.loadGlobal_global (by rw[I.ok.glob];exact I.mod.glob.keeps I.bk) hm h) hd
theorem P7 {E:Value->Shared->Prop}{pins:List (Addr×Obj)}{s:Shared}{σ:St}{H:Hp}{x:Str}{u:Value}{pos:Pos}{Q:Value->Shared->Prop}(I:Inv X pins σ H s)(hg:Gl X x)(hm:X.mg x=none)(hv:bootBuiltins x=some u)(h:Q u s)
  (hn:x≠"__name__":=by decide) (hd:(x == ("__debug__":Str))=false:=by decide):wpAny (model X.prog X.w) X.A (eval (.Name x pos) X.env) Q E s:=by
 obtain⟨mb,h1,h2⟩:=I.mod.blt;exact gI I.ok.kind hg (Calls.loadGlobal_builtin (by rw[I.ok.glob];exact I.mod.glob.keeps I.bk) hm (by rw[I.ok.blt];exact h1.keeps I.bk) ((h2 x hn).trans hv) h) hd
theorem J7 {x:Str}{v:V}{u:Value}{pos:Pos}(hg:Gl X x)(hm:X.mg x=some u)(r:B6 v u)(hd:(x == ("__debug__":Str))=false:=by decide):PE X (.Name x pos) (tC v) :=
 λ_ _ _ H _ I h=>a0c I hg hm ⟨v,H,I,r,h⟩ hd
variable {a b:Expr}{ta tb:TE}{pos:Pos}
def PC (X:Cx)(op:CmpOp)(a b:Expr)(t:TE):Prop :=
 ∀(pins:List (Addr×Obj)) (s:Shared) (σ:St) (H:Hp) (Q:VK),Inv X pins σ H s->t σ H Q ->
  wpAny (model X.prog X.w) X.A (eval a X.env) (λv sj=>wpAny (model X.prog X.w) X.A (eval b X.env) (λu sk=>wpAny (model X.prog X.w) X.A (compareOp op v u) (EP X pins σ Q) X.xe sk) X.xe sj) X.xe s
theorem a6d (b:Expr){op:CmpOp}(h:op≠.In)(h2:op≠.NotIn):behindInMarks op b=false:=by
 have e1:(op == CmpOp.In)=false:=by cases op<;>first | rfl | exact absurd rfl h
 have e2:(op == CmpOp.NotIn)=false:=by cases op<;>first | rfl | exact absurd rfl h2
 cases b<;>simp[behindInMarks,e1,e2]
def b0p (ta:TE):TE:=fun σ H Q=>ta σ H λx H1=>Q (.bl (decide (x=.non))) H1
def b0i (ta:TE):TE:=fun σ H Q=>ta σ H λx H1=>Q (.bl (!decide (x=.non))) H1
theorem B6.none_iff {x:V}{v:Value}(r:B6 x v):(v == cJ)=decide (x=.non):=by
 cases x with
 | non=>cases r;rfl
 | bl _=>cases r;rfl
 | int _=>obtain⟨t,rfl⟩:=r;rfl
 | str _=>obtain⟨t,rfl⟩:=r;rfl
 | byt _=>obtain⟨t,rfl⟩:=r;rfl
 | flt _=>obtain⟨t,rfl⟩:=r;rfl
 | ref _=>cases r;rfl
 | ty _=>cases r;rfl
theorem a3j {j pos'}(ha:PE X a ta):PC X .Is a (.Constant .none j pos') (b0p ta):=by
 intro pins s σ H Q I h;refine thn (ha pins s σ H _ I h) λv s1 ⟨x,H1,I1,r1,q1⟩=>?_
 exact Constant_none (is_none_gen ⟨.bl _,H1,I1,by rw[r1.none_iff];rfl,q1⟩)
def tB (t:TE):TT:=fun σ H Q=>t σ H λx H1=>∃ c,x=.bl c/\Q c H1
theorem a3h {op:CmpOp}{t:TE}(h:PC X op a b t)(h1:behindInMarks op b=false:=by first | exact a6d _ (by decide) (by decide) | rfl):PT X (.Compare a [op] [b] pos) (tB t):=by
 intro pins s σ H Q I hw;refine je (thn (h pins s σ H _ I hw) λv s1 h1=>thn h1 λu s2 h2=>thn h2 λc s3 ⟨x,H1,I1,r1,q1⟩=>?_) h1;obtain⟨d,rfl,q⟩:=q1;cases r1;exact cB ⟨H1,I1,q⟩
theorem M8 {e:Expr}{t:TE}(h:PE X e t)(he:∀ whole,isTrue e X.env whole=(do let v <- whole;standAt e.pos;holding [v] (truthy v)):=by intro _;rfl):PT X e (tB t):=by
 intro pins s σ H Q I hw;refine isTrue_plain (thn (h pins s σ H _ I hw) λv s1 ⟨x,H1,I1,r1,q1⟩=>?_) (he _);obtain⟨d,rfl,q⟩:=q1;cases r1;exact cB ⟨H1,I1,q⟩
variable {tA tB':TT}{P8:List Expr}
def b1v (t u:TT):TT:=fun σ H Q=>t σ H λc H1=>if c=true then u σ H1 Q else Q false H1
def tOr (t u:TT):TT:=fun σ H Q=>t σ H λc H1=>if c=true then Q true H1 else u σ H1 Q
def b0k (t:TT):TT:=fun σ H Q=>t σ H λc H1=>Q (!c) H1
theorem a1u (ha:PT X a tA):PW X (.BoolOp .Or [a] pos) tA:=by
 intro wh pins s σ H Q I h;refine isTrue_or (thn (ha pins s σ H Q I h) λc s1 e=>?_);cases c with
 | false=>exact isTrue_or_nil e
 | true=>exact e
theorem a2s (ha:PT X a tA)(hb:PW X (.BoolOp .Or (b::P8) pos) tB'):PW X (.BoolOp .Or (a::b::P8) pos) (tOr tA tB'):=by
 intro wh pins s σ H Q I h;refine isTrue_or (thn (ha pins s σ H _ I h) λc s1 ⟨H1,I1,q1⟩=>?_);cases c with
 | true=>exact⟨H1,I1,q1⟩
 | false=>exact hb wh pins s1 σ H1 Q I1 q1
theorem M9 (ha:PT X a tA):PT X (.UnaryOp .Not a pos) (b0k tA):=by
 intro pins s σ H Q I h;exact isTrue_not (ha pins s σ H (λc H1=>Q (!c) H1) I h)
def a8c (ta tb:TE):TE:=fun σ H Q=>ta σ H λx H1=>∃ c,x=.bl c/\if c=true then tb σ H1 Q else Q (.bl false) H1
def b1n (ta tb:TE):TE:=fun σ H Q=>ta σ H λx H1=>∃ c,x=.bl c/\if c=true then Q (.bl true) H1 else tb σ H1 Q
def a7Y (ta:TE):TE:=fun σ H Q=>ta σ H λx H1=>∃ c,x=.bl c/\Q (.bl (!c)) H1
theorem a0r {op}{t:TE}(h:PE X a t):PE X (.BoolOp op [a] pos) t:=λpins s σ H Q I hw=>BoolOp_one (h pins s σ H Q I hw)
theorem Y0 (ha:PE X a ta)(hb:PE X (.BoolOp .And (b::P8) pos) tb):PE X (.BoolOp .And (a::b::P8) pos) (a8c ta tb):=by
 intro pins s σ H Q I h;refine BoolOp_and (thn (ha pins s σ H _ I h) λv s1 ⟨x,H1,I1,r1,q1⟩=>?_);obtain⟨c,rfl,q1⟩:=q1;cases r1;refine cB ?_;cases c with
 | true=>exact hb pins s1 σ H1 Q I1 q1
 | false=>exact⟨.bl false,H1,I1,rfl,q1⟩
theorem a5L (ha:PE X a ta):PE X (.UnaryOp .Not a pos) (a7Y ta):=by
 intro pins s σ H Q I h;refine UnaryOp_ (thn (ha pins s σ H _ I h) λv s1 ⟨x,H1,I1,r1,q1⟩=>?_);obtain⟨c,rfl,q1⟩:=q1;cases r1;exact not_of (cB ⟨.bl (!c),H1,I1,rfl,q1⟩)
def tIf (t:TT)(ta tb:TE):TE:=fun σ H Q=>t σ H λc H1=>if c=true then ta σ H1 Q else tb σ H1 Q
theorem a5M {c:Expr}(hc:PT X c tA)(ha:PE X a ta)(hb:PE X b tb):PE X (.IfExp c a b pos) (tIf tA ta tb):=by
 intro pins s σ H Q I h;refine wpAny_IfExp (thn (hc pins s σ H _ I h) λd s1 ⟨H1,I1,q1⟩=>?_);cases d with
 | true=>exact ha pins s1 σ H1 Q I1 q1
 | false=>exact hb pins s1 σ H1 Q I1 q1
end
end L2
namespace L2
open PySem PySem.Spec PyProof.Rows
def SqL (K:ae)(H:Hp)(a:Addr)(xs:List V):Prop :=
 Rd H a (.lst xs) \/
  ∃(o:Obj) (its:Array Value) (n:Nat),K.lookup a=some o/\o.cls=.type "list"/\o.dict=none/\o.data=.seq its n/\its.size<=sizeLine/\B3 xs its.toList
def SqT (K:ae)(H:Hp)(a:Addr)(xs:List V):Prop :=
 Rd H a (.tup xs) \/
  ∃(o:Obj) (its:Array Value) (n:Nat),K.lookup a=some o/\o.cls=.type "tuple"/\o.data=.seq its n/\its.size<=sizeLine/\B3 xs its.toList
def b1L:Value->Option V
 | .none=>some .non
 | .bool b=>some (.bl b)
 | .int i _=>some (.int i)
 | .str x _=>some (.str x)
 | .bytes b _=>some (.byt b)
 | .float b _=>some (.flt b)
 | .ref a=>some (.ref a)
 | .type n=>some (.ty n)
 | _=>none
theorem B6.abs {x:V}{u:Value}(r:B6 x u):b1L u=some x:=by
 cases x with
 | non=>cases r;rfl
 | bl _=>cases r;rfl
 | int _=>obtain⟨t,rfl⟩:=r;rfl
 | str _=>obtain⟨t,rfl⟩:=r;rfl
 | byt _=>obtain⟨t,rfl⟩:=r;rfl
 | flt _=>obtain⟨t,rfl⟩:=r;rfl
 | ref _=>cases r;rfl
 | ty _=>cases r;rfl
theorem B6.inj {x y:V}{u:Value}(r:B6 x u)(q:B6 y u):x=y:=aG (r.abs.symm.trans q.abs)
theorem B3.inj:∀ {xs ys:List V} {us:List Value},B3 xs us->B3 ys us->xs=ys
 | _,_,_,.nil,.nil=>rfl
 | _,_,_,.cons r t,.cons r' t'=>by rw[r.inj r',B3.inj t t']
section
variable {X:Cx}{pins:List (Addr×Obj)}{σ:St}{H:Hp}{s:Shared}{a:Addr}{xs ys:List V}
theorem SqL.of {K:ae}(h:H a=some (.lst xs)):SqL K H a xs:=.inl (.inl h)
theorem SqT.of {K:ae}(h:H a=some (.tup xs)):SqT K H a xs:=.inl (.inl h)
theorem Inv.list (I:Inv X pins σ H s)(h:SqL X.K H a xs):∃ its:List Value,B3 xs its/\PlainL s.heap a its.toArray/\xs.length<=sizeLine:=by
 rcases h with h | ⟨o,its,n,hk,hc,hd,hs,hz,r⟩
 ·obtain⟨z,its,n,r,e⟩:=h.ok I.hok;exact⟨its,r,⟨_,n,e,rfl,rfl,rfl⟩,z⟩
 ·refine⟨its.toList,r,⟨o,n,I.kIn a o hk,hc,hd, ~~~hs⟩,?_⟩;have e:=r.length;simp only[aI] at e;omega
theorem Inv.tuple (I:Inv X pins σ H s)(h:SqT X.K H a xs):∃ its:List Value,B3 xs its/\IsTup s.heap a its.toArray/\xs.length<=sizeLine:=by
 rcases h with h | ⟨o,its,n,hk,hc,hs,hz,r⟩
 ·obtain⟨z,its,r,p⟩:=h.ok I.hok;exact⟨its,r,p,z⟩
 ·refine⟨its.toList,r,⟨o,I.kIn a o hk,hc,n, ~~~hs⟩,?_⟩;have e:=r.length;simp only[aI] at e;omega
theorem Inv.list_inj (I:Inv X pins σ H s)(h:SqL X.K H a xs)(h':SqL X.K H a ys):xs=ys:=by
 obtain⟨its,r,⟨o,n,e,_,_,d⟩,_⟩:=I.list h;obtain⟨its',r',⟨o',n',e',_,_,d'⟩,_⟩:=I.list h';rw[e] at e';cases e';rw[d] at d';injection d' with d1 _
 have:its=its':=by simpa using congrArg Array.toList d1
 subst this;exact r.inj r'
theorem Inv.tuple_inj (I:Inv X pins σ H s)(h:SqT X.K H a xs)(h':SqT X.K H a ys):xs=ys:=by
 obtain⟨its,r,⟨o,e,_,n,d⟩,_⟩:=I.tuple h;obtain⟨its',r',⟨o',e',_,n',d'⟩,_⟩:=I.tuple h';rw[e] at e';cases e';rw[d] at d';injection d' with d1 _
 have:its=its':=by simpa using congrArg Array.toList d1
 subst this;exact r.inj r'
end
abbrev Cx.wish (X:Cx)(E:Value->Shared->Prop):Cx:={X with xe:=E}
abbrev Cx.nox (X:Cx):Cx:=X.wish λ_ _=>False
theorem Cx.Ok.wish {X:Cx}(ok:X.Ok)(E:Value->Shared->Prop):(X.wish E).Ok :=
 ⟨ok.mod,ok.kind,ok.glob,ok.blt,ok.above,ok.inj,ok.has,ok.cab,ok.hd,ok.frames,ok.stk,ok.exf,ok.bs,ok.bsz,ok.noex,ok.exfs,ok.funs,ok.frf⟩
theorem Cx.Ok.unwish {X:Cx}{E:Value->Shared->Prop}(ok:(X.wish E).Ok):X.Ok :=
 ⟨ok.mod,ok.kind,ok.glob,ok.blt,ok.above,ok.inj,ok.has,ok.cab,ok.hd,ok.frames,ok.stk,ok.exf,ok.bs,ok.bsz,ok.noex,ok.exfs,ok.funs,ok.frf⟩
section
variable {X:Cx}{pins:List (Addr×Obj)}{σ:St}{H:Hp}{s:Shared}{E:Value->Shared->Prop}
theorem Inv.wish (I:Inv X pins σ H s)(E:Value->Shared->Prop):Inv (X.wish E) pins σ H s:=⟨I.ok.wish E,I.os,I.bare,I.base,I.loc,I.cell,I.free,I.freeC,I.pin,I.hok,I.len⟩
theorem Inv.unwish (I:Inv (X.wish E) pins σ H s):Inv X pins σ H s:=⟨I.ok.unwish,I.os,I.bare,I.base,I.loc,I.cell,I.free,I.freeC,I.pin,I.hok,I.len⟩
theorem SP.unwish {D:Q4}{f:Flow}{s':Shared}(h:SP (X.wish E) pins D f s'):SP X pins D f s':=by
 cases f with
 | next=>obtain⟨σ',H',I,q⟩:=h;exact⟨σ',H',I.unwish,q⟩
 | brk=>obtain⟨σ',H',I,q⟩:=h;exact⟨σ',H',I.unwish,q⟩
 | cont=>obtain⟨σ',H',I,q⟩:=h;exact⟨σ',H',I.unwish,q⟩
 | ret u=>obtain⟨v,σ',H',I,r,q⟩:=h;exact⟨v,σ',H',I.unwish,r,q⟩
theorem PE.nox {e:Expr}{t:TE}(h:PE X.nox e t):PE X e t:=λpins s σ H Q I hw =>
 bO (h pins s σ H Q (I.wish _) hw) (λ_ _ ⟨v,H',I',r,q⟩=>⟨v,H',I'.unwish,r,q⟩) λ_ _ z=>cv z
theorem PT.nox {e:Expr}{t:TT}(h:PT X.nox e t):PT X e t:=λpins s σ H Q I hw =>
 bO (h pins s σ H Q (I.wish _) hw) (λ_ _ ⟨H',I',q⟩=>⟨H',I'.unwish,q⟩) λ_ _ z=>cv z
theorem PSs.nox {st:List Stmt}{t:TS}(h:PSs X.nox st t):PSs X st t:=λpins s σ H D I hw =>
 bO (h pins s σ H D (I.wish _) hw) (λ_ _ q=>q.unwish) λ_ _ z=>cv z
end
section
variable {X:Cx}{st:Stmt}{P8:List Stmt}{t u:TS}{e:Expr}{te:TE}{pos:Pos}
def a7Z:TS:=λD σ H=>D.nx σ H
def a8D (t u:TS):TS:=λD σ H=>t {D with nx:=u D} σ H
theorem E1:PSs X [] a7Z:=λ_ _ σ H _ I h=>eJ ⟨σ,H,I,h⟩
theorem A3 (h1:PS X st t)(h2:PSs X P8 u):PSs X (st::P8) (a8D t u):=by
 intro pins s σ H D I h;refine hG (thn (h1 pins s σ H {D with nx:=u D} I h) λf s1 q=>?_);cases f with
 | next =>
  obtain⟨σ',H',I',q⟩:=q;exact h2 pins s1 σ' H' D I' q
 | ret v=>exact q
 | brk=>exact q
 | cont=>exact q
theorem A5 (h1:PS X st t):PSs X [st] t:=by
 intro pins s σ H D I h;refine hG (thn (h1 pins s σ H D I h) λf s1 q=>?_);cases f with
 | next=>exact eJ q
 | ret v=>exact q
 | brk=>exact q
 | cont=>exact q
theorem Inv.quiet {pins:List (Addr×Obj)}{σ:St}{H:Hp}{s:Shared}(I:Inv X pins σ H s):interactive X.env=false:=by simp[interactive,I.ok.kind]
def a8a (te:TE):TS:=λD σ H=>te σ H λ_ H1=>D.nx σ H1
theorem R3 (he:PE X e te)(hs:swapsWith e none pos.line X.env=pure false:=by rfl):PS X (.Expr e pos) (a8a te):=by
 intro pins s σ H D I h;exact wpAny_Expr_any (thn (he pins s σ H _ I h) λv s1 ⟨x,H1,I1,r1,q1⟩=>⟨σ,H1,I1,q1⟩) I.quiet hs
def b0g (te:TE):TS:=λD σ H=>te σ H D.rt
theorem B2 (he:PE X e te):PS X (.Return (some e) pos) (b0g te):=by
 intro pins s σ H D I h;exact wpAny_Return_some (thn (he pins s σ H _ I h) λv s1 ⟨x,H1,I1,r1,q1⟩=>⟨x,σ,H1,I1,r1,q1⟩)
def b0e:TS:=λD _ H=>D.rt .non H
def b0r (c:TT)(t u:TS):TS:=λD σ H=>c σ H λb H1=>if b=true then t D σ H1 else u D σ H1
theorem J9 {c:Expr}{a b:List Stmt}{tc:TT}(hc:PT X c tc)(ha:PSs X a t)(hb:PSs X b u):PS X (.If c a b pos) (b0r tc t u):=by
 intro pins s σ H D I h;refine wpAny_If (thn (hc pins s σ H _ I h) λd s1 ⟨H1,I1,q1⟩=>?_);cases d with
 | true=>exact ha pins s1 σ H1 D I1 q1
 | false=>exact hb pins s1 σ H1 D I1 q1
end
abbrev TG:=V->St->Hp->(St->Hp->Prop)->Prop
abbrev TGs:=List V->St->Hp->(St->Hp->Prop)->Prop
def PG (X:Cx)(target:Expr)(t:TG):Prop :=
 ∀(pins:List (Addr×Obj)) (s:Shared) (σ:St) (H:Hp) (v:V) (u:Value) (Q:St->Hp->Prop),Inv X pins σ H s->B6 v u->t v σ H Q ->
  wpAny (model X.prog X.w) X.A (assign target X.env u) (λ_ s'=>∃ σ' H',Inv X pins σ' H' s'/\Q σ' H') X.xe s
def PGs (X:Cx)(ts:List Expr)(t:TGs):Prop :=
 ∀(pins:List (Addr×Obj)) (s:Shared) (σ:St) (H:Hp) (vs:List V) (us:List Value) (Q:St->Hp->Prop),Inv X pins σ H s->B3 vs us->t vs σ H Q ->
  wpAny (model X.prog X.w) X.A (assignInOrder ((assignEach ts X.env).map (·.2)) us) (λ_ s'=>∃ σ' H',Inv X pins σ' H' s'/\Q σ' H') X.xe s
abbrev a7S:=V->V->V->Hp->(Hp->Prop)->Prop
def b0Z (X:Cx)(t:a7S):Prop :=
 ∀(pins:List (Addr×Obj)) (s:Shared) (σ:St) (H:Hp) (o i v:V) (ov iv u:Value) (Q:Hp->Prop),Inv X pins σ H s->B6 o ov->B6 i iv->B6 v u->t o i v H Q ->
  wpAny (model X.prog X.w) X.A (setItem ov iv u) (λ_ s'=>∃ H',Inv X pins σ H' s'/\Q H') X.xe s
section
variable {X:Cx}{pos:Pos}
def L6 (i:Nat):TG:=λv σ H Q=>Q (σ.set i (some v)) H
theorem C9 {i:Nat}{x:Str}(hN:X.N.Nodup)(hi:X.N[i]?=some x)(hx:Loc X.env.scope x)(hf:X.fn x=true\/X.env.scope.names.lookup x=some .local:=by first | exact .inl rfl | exact .inr rfl | assumption):PG X (.Name x pos) (L6 i):=by
 intro pins s σ H v u Q I r h;exact js (a0f I hN hi hx r (λs' I'=>⟨_,H,I',h⟩) hf)
def b0Q:TGs:=λvs σ H Q=>vs=[]/\Q σ H
def a8q (t:TG)(u:TGs):TGs:=λvs σ H Q=>∃ v r,vs=v::r/\t v σ H fun σ' H'=>u r σ' H' Q
theorem a1v:PGs X [] b0Q:=by
 intro pins s σ H vs us Q I r h;obtain⟨e,h⟩:=h;subst e;cases r;exact assignInOrder_nil ⟨σ,H,I,h⟩
theorem Q5 {e:Expr}{es:List Expr}{t:TG}{u:TGs}(h1:PG X e t)(h2:PGs X es u)
  (hs:(assignEach (e::es) X.env).map (·.2)=assign e X.env::(assignEach es X.env).map (·.2):=by rfl):PGs X (e::es) (a8q t u):=by
 intro pins s σ H vs us Q I r h;obtain⟨v,vr,e1,h⟩:=h;subst e1;cases r with
 | cons r rr =>
  rw[hs];refine assignInOrder_cons (thn (h1 pins s σ H _ _ _ I r h) λ_ s1 ⟨σ1,H1,I1,q1⟩=>?_);exact h2 pins s1 σ1 H1 _ _ Q I1 rr q1
def a9I (K:ae)(n:Nat)(t:TGs):TG:=λv σ H Q=>∃ a xs,v=.ref a/\SqT K H a xs/\xs.length=n/\t xs σ H Q
theorem a9b {es:List Expr}{k:Nat}{t:TGs}{n:Nat}(hc:X.calm=true)(h:PGs X es t)
  (hn:(assignEach es X.env).length=n:=by rfl) (hst:(assignEach es X.env).findIdx? (·.1)=none:=by rfl):PG X (.Tuple es k pos) (a9I X.K n t):=by
 intro pins s σ H v u Q I r hw;obtain⟨a,xs,e1,hq,hl,hw⟩:=hw;subst e1;cases r;obtain⟨its,rv,ht,hz⟩:=I.tuple hq;refine assign_Tuple_tuple (I.ok.hd hc) ht (by simp[hn,<- hl,rv.length]) hst λh' hx=>?_
 have I1:Inv X pins σ H {s with heap:=h'}:=I.kept (t':=s.toks) λb o e=>hx b o (aN (ax e)) e
 exact h pins _ σ H xs _ Q I1 (~~~rv) hw
def b0O (to ti:TE)(t:a7S):TG:=λv σ H Q=>to σ H λo H1=>ti σ H1 λi H2=>t o i v H2 λH3=>Q σ H3
theorem a9c {o i:Expr}{to ti:TE}{t:a7S}(ho:PE X o to)(hi:PE X i ti)(hs:b0Z X t)
  (ha:∀ v,assign (.Subscript o i pos) X.env v=(do
   let ov <- holding [v] (eval o X.env)
   let iv <- holding [v,ov] (eval i X.env)
   standAt pos
   holding [v,ov,iv] (setItem ov iv v)
   release [v,ov,iv] []):=by intro _;rfl):PG X (.Subscript o i pos) (b0O to ti t):=by
 intro pins s σ H v u Q I r h;rw[ha];refine af (bQ (thn (ho pins s σ H _ I h) λov s1 ⟨x,H1,I1,r1,q1⟩=>?_));refine af (bQ (thn (hi pins s1 σ H1 _ I1 q1) λiv s2 ⟨y,H2,I2,r2,q2⟩=>?_));refine af (fI (af (bQ (thn (hs pins s2 σ H2 x y v ov iv u _ I2 r1 r2 r q2) λ_ s3 ⟨H3,I3,q3⟩=>?_))));exact wpAny_release ⟨σ,H3,I3,q3⟩
def a4v (te:TE)(g:TG):TS:=λD σ H=>te σ H λx H1=>g x σ H1 D.nx
theorem a5J {tg e:Expr}{te:TE}{g:TG}(he:PE X e te)(hg:PG X tg g)(hs:swapsWithSole [tg] e pos.line X.env=pure false:=by rfl)(hw:swappedStores [tg] e X.env=pure none:=by rfl)
  (h1:(assignEach [tg] X.env).map (·.2)=[assign tg X.env]:=by rfl):PS X (.Assign [tg] e pos) (a4v te g):=by
 intro pins s σ H D I h;refine wpAny_Assign_stores (thn (he pins s σ H _ I h) λv s1 ⟨x,H1,I1,r1,q1⟩=>?_) hs hw;rw[h1];exact thn (hg pins s1 σ H1 x v _ I1 r1 q1) λ_ s2 q=>q
theorem E4 {i:Nat}{x:Str}{e:Expr}{te:TE}{pos':Pos}(hN:X.N.Nodup)(hi:X.N[i]?=some x)(hx:Loc X.env.scope x)(he:PE X e te)(hs:swapsWith e (some (.Name x pos')) pos.line X.env=pure false:=by rfl)(hf:X.fn x=true\/X.env.scope.names.lookup x=some .local:=by first | exact .inl rfl | exact .inr rfl | assumption) :
  PS X (.Assign [.Name x pos'] e pos) (a4v te (L6 i)):=by
 intro pins s σ H D I h;refine wpAny_Assign_Name (thn (he pins s σ H _ I h) λv s1 ⟨y,H1,I1,r1,q1⟩=>?_) hs;exact a0f I1 hN hi hx r1 (λs2 I2=>⟨_,H1,I2,q1⟩) hf
end
structure It where
 go:Nat->Hp->Prop
 yld:Nat->Hp->V->Hp->Prop
 stop:Nat->Hp->Prop
def Y3 (X:Cx)(pins:List (Addr×Obj))(H:Hp)(b:Addr):Prop :=
 H b=none/\b≠X.env.locals/\b∉X.fs/\(b∈X.ex\/X.sw.heap.objs.size<=b)/\(∀ x c,X.env.cells.lookup x=some c->c≠b)/\∀ p∈X.pn++pins,p.1≠b
theorem Inv.fpOk {X:Cx}{pins:List (Addr×Obj)}{σ:St}{H H':Hp}{s:Shared}{b:Addr}(I:Inv X pins σ H s)(hb:s.heap.objs.size<=b)(hn:H' b=none):Y3 X pins H' b:=by
 refine⟨hn,gB (aS I.lt hb),I.nofs hb,.inr (aH I.sz hb),λx c e z=>?_,λp hp z=>?_⟩
 ·obtain⟨v,q⟩:=I.cell x c e;exact absurd (aS q.lt (by rw[z];exact hb)) (cu _)
 ·exact absurd (aS (ax (I.pin p hp).1) (by rw[z];exact hb)) (cu _)
structure a4Z (P:Program)(w:World)(K:ae)(tg:Expr)(J:It)(fp:List Addr)(it:Addr)(tn:Nat->Heap->Prop):Prop where
 mem:it∈fp
 obj:∀ i h,tn i h->∀ b∈fp,∃ o,h.get? b=some o/\∀ v,o.data≠.cell v
 keep:∀ i h h',tn i h->(∀ b∈fp,∀ o,h.get? b=some o->h'.get? b=some o)->tn i h'
 item:∀(X:Cx),X.prog=P->X.w=w->X.K=K->X.calm=true->∀(i:Nat) (pins:List (Addr×Obj)) (s:Shared) (σ:St) (H:Hp) (E:Value->Shared->Prop),Inv X pins σ H s->(∀ b∈fp,Y3 X pins H b)->tn i s.heap->J.go i H ->
  wpAny (model P w) X.A (pyNext (.ref it)) (λr s1=>∃ u,r=some u /\
   wpAny (model P w) X.A (letOwnedTupleGo tg (.ref it) u) (λ_ s2=>∃ x H',Inv X pins σ H' s2/\B6 x u/\J.yld i H x H'/\tn (i+1) s2.heap/\∀ b∈fp,H' b=none) E s1) E s
 done:∀(X:Cx),X.prog=P->X.w=w->X.K=K->X.calm=true->∀(i:Nat) (pins:List (Addr×Obj)) (s:Shared) (σ:St) (H:Hp) (E:Value->Shared->Prop),Inv X pins σ H s->(∀ b∈fp,Y3 X pins H b)->tn i s.heap->J.stop i H ->
  wpAny (model P w) X.A (pyNext (.ref it)) (λr s1=>r=none/\Inv X pins σ H s1) E s
 self:∀(A:Around) (i:Nat) (s:Shared) (Q:Value->Shared->Prop) (E:Value->Shared->Prop),tn i s.heap->Q (.ref it) s->wpAny (model P w) A (pyIter (.ref it)) Q E s
abbrev TI:=St->Hp->(It->Hp->Prop)->Prop
def PIE (X:Cx)(pins:List (Addr×Obj))(σ:St)(tg:Expr)(R:It->Hp->Prop)(itv:Value)(s2:Shared):Prop :=
 ∃(it:Addr) (fp:List Addr) (tn:Nat->Heap->Prop) (J:It) (H':Hp),itv=.ref it/\Inv X pins σ H' s2/\a4Z X.prog X.w X.K tg J fp it tn/\tn 0 s2.heap/\(∀ b∈fp,Y3 X pins H' b)/\R J H'
def PI (X:Cx)(tg iter:Expr)(wi:TI):Prop :=
 ∀(pins:List (Addr×Obj)) (s:Shared) (σ:St) (H:Hp) (R:It->Hp->Prop),Inv X pins σ H s->wi σ H R ->
  wpAny (model X.prog X.w) X.A (eval iter X.env) (λv s1=>wpAny (model X.prog X.w) X.A (pyIter v) (PIE X pins σ tg R) X.xe s1) X.xe s
theorem a6x {M:Model}{A:Around}{E:Value->Shared->Prop}{s:Shared}{tg:Expr}{it:Addr}{u:Value}{o:Obj}{n:String}{vs:Array Value}{Q:Unit->Shared->Prop}(ho:s.heap.get? it=some o)(hc:o.cls=.type n)(hd:o.data=.fields vs)
    (hn:["enumerate", "zip", "dict_itemiterator", "dict_reverseitemiterator", "odict_iterator", "itertools.zip_longest", "itertools.pairwise"].contains n=false) (hQ:Q () s):wpAny M A (letOwnedTupleGo tg (.ref it) u) Q E s:=by
  unfold letOwnedTupleGo;cases tg<;>first
    | exact ap hQ
    | (cases u<;>first
        | exact ap hQ
        | (refine af (wpAny_load ho ?_)
           rw[hc,hd];show wpAny M A (if (["enumerate", "zip", "dict_itemiterator", "dict_reverseitemiterator", "odict_iterator", "itertools.zip_longest", "itertools.pairwise"].contains n && vs[0]? == some (rawInt _))=true then _ else _) Q E s;rw[if_neg (by intro h;rw[hn,eG] at h;cases h)]
           exact ap hQ))
def Itl (K:ae)(a:Addr):It :=
 ⟨λi H=>∃ xs x,SqL K H a xs/\xs[i]?=some x,λi H x H'=>H'=H/\∀ xs,SqL K H a xs->xs[i]?=some x,λi H=>∃ xs,SqL K H a xs/\xs.length<=i⟩
def Itt (K:ae)(a:Addr):It :=
 ⟨λi H=>∃ xs x,SqT K H a xs/\xs[i]?=some x,λi H x H'=>H'=H/\∀ xs,SqT K H a xs->xs[i]?=some x,λi H=>∃ xs,SqT K H a xs/\xs.length<=i⟩
def Itr (lo:Int)(n:Nat):It:=⟨λi _=>i<n,λi H x H'=>H'=H/\x=.int (lo+i),λi _=>n<=i⟩
theorem a4u {P:Program}{w:World}{K:ae}{tg:Expr}(a it:Addr):a4Z P w K tg (Itl K a) [it] it (λi h=>h.IsListIter it a i) where
 mem:=by simp
 obj:=λi h st b hb=>by
  have e:b=it:= ~~~hb
  subst e;obtain⟨o,e,c,d⟩:=st;exact⟨o,e,λv z=>by rw[d] at z;cases z⟩
 keep:=λi h h' st k=>st.at λo e=>k it (by simp) o e
 item:=by
  intro X hP hw hK hc i pins s σ H E I hf st hg;subst hP hw hK;obtain⟨xs,x,hq,hx⟩:=hg;obtain⟨its,rv,p,hz⟩:=I.list hq;obtain⟨u,hu,ru⟩:=rv.get hx;obtain⟨f0,f1,f2,f3,f4,f5⟩:=hf it (by simp);refine wpAny_pyNext_list_item st p.isList (x:=u) (~~~hu) λh' st' sb=>?_
  have I1:Inv X pins σ H {s with heap:=h'}:=I.turned (t':=s.toks) (λb o hb e=>(sb.2 b hb).trans e) f0 f1 f3 f4 f5;obtain⟨o,e,c,d⟩:=id st';exact⟨u,rfl,a6x (s:={s with heap:=h'}) e c d (by decide) ⟨x,H,I1,ru,⟨rfl,λys hy=>by rw[I.list_inj hy hq];exact hx⟩,st',λb hb=>(hf b hb).1⟩⟩
 done:=by
  intro X hP hw hK hc i pins s σ H E I hf st hg;subst hP hw hK;obtain⟨xs,hq,hx⟩:=hg;obtain⟨its,rv,p,hz⟩:=I.list hq;obtain⟨f0,f1,f2,f3,f4,f5⟩:=hf it (by simp);have hl:=rv.length;exact wpAny_pyNext_list_end (I.ok.hd hc) st p.isList (by simp;omega) λh' eb=>⟨rfl,I.turned (t':=s.toks) (λb o hb e=>eb b o hb e) f0 f1 f3 f4 f5⟩
 self:=λ_ _ _ _ _ st h=>wpAny_pyIter_listiter st h
theorem a2W {P:Program}{w:World}{K:ae}{tg:Expr}(a it:Addr):a4Z P w K tg (Itt K a) [it] it (λi h=>h.IsTupleIter it a i) where
 mem:=by simp
 obj:=λi h st b hb=>by
  have e:b=it:= ~~~hb
  subst e;obtain⟨o,e,c,d⟩:=st;exact⟨o,e,λv z=>by rw[d] at z;cases z⟩
 keep:=λi h h' st k=>st.at λo e=>k it (by simp) o e
 item:=by
  intro X hP hw hK hc i pins s σ H E I hf st hg;subst hP hw hK;obtain⟨xs,x,hq,hx⟩:=hg;obtain⟨its,rv,p,hz⟩:=I.tuple hq;obtain⟨u,hu,ru⟩:=rv.get hx;obtain⟨f0,f1,f2,f3,f4,f5⟩:=hf it (by simp);refine wpAny_pyNext_tuple_item st (show s.heap.IsTuple a its.toArray from p) (x:=u) (~~~hu) λh' st' sb=>?_
  have I1:Inv X pins σ H {s with heap:=h'}:=I.turned (t':=s.toks) (λb o hb e=>(sb.2 b hb).trans e) f0 f1 f3 f4 f5;obtain⟨o,e,c,d⟩:=id st';exact⟨u,rfl,a6x (s:={s with heap:=h'}) e c d (by decide) ⟨x,H,I1,ru,⟨rfl,λys hy=>by rw[I.tuple_inj hy hq];exact hx⟩,st',λb hb=>(hf b hb).1⟩⟩
 done:=by
  intro X hP hw hK hc i pins s σ H E I hf st hg;subst hP hw hK;obtain⟨xs,hq,hx⟩:=hg;obtain⟨its,rv,p,hz⟩:=I.tuple hq;obtain⟨f0,f1,f2,f3,f4,f5⟩:=hf it (by simp);have hl:=rv.length;exact wpAny_pyNext_tuple_end (I.ok.hd hc) st (show s.heap.IsTuple a its.toArray from p) (by simp;omega) λh' eb=>⟨rfl,I.turned (t':=s.toks) (λb o hb e=>eb b o hb e) f0 f1 f3 f4 f5⟩
 self:=λ_ _ _ _ _ st h=>wpAny_pyIter_tupleiter st h
theorem a2X {P:Program}{w:World}{K:ae}{tg:Expr}(it:Addr)(lo:Int)(n:Nat):a4Z P w K tg (Itr lo n) [it] it (λi h=>IsRangeIter h it (lo+(i:Nat)*1) ((n:Int)-(i:Nat)) 1) where
 mem:=by simp
 obj:=λi h st b hb=>by
  have e:b=it:= ~~~hb
  subst e
  exact⟨_,st,λv z=>by
   have z':Data.fields _=Data.cell v:=z
   cases z'⟩
 keep:=λi h h' st k=>k it (by simp) _ st
 item:=by
  intro X hP hw hK hc i pins s σ H E I hf st hg;subst hP hw hK;obtain⟨f0,f1,f2,f3,f4,f5⟩:=hf it (by simp);have W:=Walks.range (prog:=X.prog) (w:=X.w) (I.ok.hd hc) it lo 1 n;refine W.item i s _ _ hg st λv h' tk hv st' kk=>?_
  obtain⟨t,rfl⟩:=hv;have I1:Inv X pins σ H {s with heap:=h',toks:=tk}:=I.turned (λb o hb e=>kk b o (~~~hb) e) f0 f1 f3 f4 f5;refine⟨_,rfl,a6x (s:={s with heap:=h',toks:=tk}) (n:="range_iterator") st' rfl rfl (by decide) ⟨.int (lo+i),H,I1,⟨t,?_⟩,⟨rfl,rfl⟩,st',λb hb=>(hf b hb).1⟩⟩;rw[Int.mul_one]
 done:=by
  intro X hP hw hK hc i pins s σ H E I hf st hg;subst hP hw hK;obtain⟨f0,f1,f2,f3,f4,f5⟩:=hf it (by simp);exact wpAny_pyNext_range_end (I.ok.hd hc) st (by have:n<=i:=hg;omega) λh' eb=>⟨rfl,I.turned (t':=s.toks) (λb o hb e=>eb b o hb e) f0 f1 f3 f4 f5⟩
 self:=λ_ _ _ _ _ st h=>wpAny_pyIter_rangeiter st h
end L2
namespace L2
open PySem PySem.Spec PyProof.Rows
section
variable {X:Cx}{tg:Expr}
def a6v (K:ae)(tl:TE):TI:=fun σ H R=>tl σ H λx H1=>∃ a,x=.ref a/\(∃ xs,SqL K H1 a xs)/\R (Itl K a) H1
def a9E (K:ae)(tl:TE):TI:=fun σ H R=>tl σ H λx H1=>∃ a,x=.ref a/\(∃ xs,SqT K H1 a xs)/\R (Itt K a) H1
theorem a7n {l:Expr}{tl:TE}(hl:PE X l tl):PI X tg l (a6v X.K tl):=by
 intro pins s σ H R I h;refine thn (hl pins s σ H _ I h) λv s1 ⟨x,H1,I1,r1,q1⟩=>?_
 obtain⟨a,e,⟨xs,hq⟩,q⟩:=q1;subst e;cases r1;obtain⟨its,rv,p,hz⟩:=I1.list hq;refine jp p.isList ?_;refine⟨s1.heap.objs.size,[s1.heap.objs.size],_,_,H1,rfl,I1.kept (t':=s1.toks) λb o e=>aj _ e,a4u a _,⟨_,aX _ rfl,rfl,rfl⟩,λb hb=>?_,q⟩;have e:b=s1.heap.objs.size:= ~~~hb
 subst e;exact I1.fpOk (ao _) (I1.hok.fresh (ao _))
theorem a9a {l:Expr}{tl:TE}(hl:PE X l tl):PI X tg l (a9E X.K tl):=by
 intro pins s σ H R I h;refine thn (hl pins s σ H _ I h) λv s1 ⟨x,H1,I1,r1,q1⟩=>?_
 obtain⟨a,e,⟨xs,hq⟩,q⟩:=q1;subst e;cases r1;obtain⟨its,rv,p,hz⟩:=I1.tuple hq;refine jl (show s1.heap.IsTuple a its.toArray from p) ?_;refine⟨s1.heap.objs.size,[s1.heap.objs.size],_,_,H1,rfl,I1.kept (t':=s1.toks) λb o e=>aj _ e,a2W a _,⟨_,aX _ rfl,rfl,rfl⟩,λb hb=>?_,q⟩;have e:b=s1.heap.objs.size:= ~~~hb
 subst e;exact I1.fpOk (ao _) (I1.hok.fresh (ao _))
theorem a2r {pins:List (Addr×Obj)}{σ:St}{H:Hp}{s:Shared}{R:It->Hp->Prop}{E:Value->Shared->Prop}{lo hi:Int}{t u v:Tok}{tk:Nat}(I:Inv X pins σ H s)(h1:-(2 ^ 62)<=lo)(h2:lo<2 ^ 62)(h3:-(2 ^ 62)<=hi)(h4:hi<2 ^ 62)
  (q:R (Itr lo (hi-lo).toNat) H):wpAny (model X.prog X.w) X.A (pyIter (.ref s.heap.objs.size)) (PIE X pins σ tg R) E {s with heap:=s.heap.push {cls:=.type "range",data:=.fields #[.int lo t,.int hi u,.int 1 v]},toks:=tk}:=by
 refine wpAny_pyIter_range (IsRange.new ..) (small_one h1 h2 h3 h4) ?_;have I1:Inv X pins σ H {s with heap:=s.heap.push {cls:=.type "range",data:=.fields #[.int lo t,.int hi u,.int 1 v]},toks:=tk}:=I.kept λb o e=>aj _ e
 refine⟨(s.heap.push {cls:=.type "range",data:=.fields #[.int lo t,.int hi u,.int 1 v]}).objs.size,[(s.heap.push {cls:=.type "range",data:=.fields #[.int lo t,.int hi u,.int 1 v]}).objs.size],_,_,H,rfl,
  I1.kept (t':=tk) λb o e=>aj _ e,a2X _ lo (hi-lo).toNat,?_,λb hb=>?_,q⟩
 ·have e1:lo+((0:Nat):Int)*1=lo:=by simp
  have e2:(((hi-lo).toNat:Nat):Int)-((0:Nat):Int)=Builtin.Range.rangeSize lo hi 1:=by rw[rangeSize_one];split<;>omega
  show IsRangeIter _ _ (lo+((0:Nat):Int)*1) ((((hi-lo).toNat:Nat):Int)-((0:Nat):Int)) 1;rw[e1,e2];exact aX _ rfl
 ·have e:b=(s.heap.push {cls:=.type "range",data:=.fields #[.int lo t,.int hi u,.int 1 v]}).objs.size:= ~~~hb
  subst e;exact I1.fpOk (ao _) (I1.hok.fresh (ao _))
def a8p (ta:TA):TI:=fun σ H R=>ta σ H λvs H1=>∃ j:Int,vs=[.int j]/\-(2 ^ 62)<=j/\j<2 ^ 62/\R (Itr 0 j.toNat) H1
def a8o (ta:TA):TI:=fun σ H R=>ta σ H λvs H1=>∃ i j:Int,vs=[.int i,.int j]/\(-(2 ^ 62)<=i/\i<2 ^ 62/\-(2 ^ 62)<=j/\j<2 ^ 62)/\R (Itr i (j-i).toNat) H1
theorem P4 {a:Expr}{ta:TA}{p pos:Pos}(hg:Gl X "range")(hm:X.mg "range"=none)(ha:PA X [a] ta)(hs:starEach [a] X.env=[(false,eval a X.env)]:=by rfl):PI X tg (.Call (.Name "range" p) [a] [] pos) (a8p ta):=by
 intro pins s σ H R I h;refine Call_ (P7 I hg hm boot_range (bH (thn (ha pos pins s σ H _ I h) λus s1 ⟨vs,H1,I1,r1,q1⟩=>?_) hs rfl));obtain⟨j,e,q1,q2,q⟩:=q1;subst e;cases r1 with
 | cons r rr =>
  cases rr;obtain⟨t,rfl⟩:=r;exact call_range_1 (a2r I1 ∅ ∅ q1 q2 (~~~q))
theorem X8 {a b:Expr}{ta:TA}{p pos:Pos}(hg:Gl X "range")(hm:X.mg "range"=none)(ha:PA X [a,b] ta)(hs:starEach [a,b] X.env=[(false,eval a X.env),(false,eval b X.env)]:=by rfl)(hs2:starEach [b] X.env=[(false,eval b X.env)]:=by rfl) :
  PI X tg (.Call (.Name "range" p) [a,b] [] pos) (a8o ta):=by
 intro pins s σ H R I h;refine Call_ (P7 I hg hm boot_range (bH (thn (ha pos pins s σ H _ I h) λus s1 ⟨vs,H1,I1,r1,q1⟩=>?_) (by rw[hs,hs2]) (by rw[hs2];rfl)));obtain⟨i,j,e,⟨q1,q2,q3,q4⟩,q⟩:=q1;subst e;cases r1 with
 | cons r rr =>
  cases rr with
  | cons r' rr =>
   cases rr;obtain⟨t,rfl⟩:=r;obtain⟨t',rfl⟩:=r';exact call_range_2 (a2r I1 q1 q2 q3 q4 q)
def a8K (wi:TI)(g:TG)(tb:TS):TS:=λD σ H=>wi σ H λJ H1=>∃ W:Nat->Nat->St->Hp->Prop,(∃ m,W 0 m σ H1)/\∀ i m σ H,W i m σ H ->
 (J.stop i H/\D.nx σ H)\/(J.go i H/\∃ N:St->Hp->Prop,(∀ σ' H',N σ' H'->∃ m',m'<m/\W (i+1) m' σ' H')/\∀ x H',J.yld i H x H'->g x σ H' fun σ2 H2=>tb {D with nx:=N,ct:=N,bk:=D.nx} σ2 H2)
def U3 (fp:List Addr)(h:Heap):List (Addr×Obj):=fp.filterMap λb=>(h.get? b).map λo=>(b,o)
theorem N4 {fp:List Addr}{h:Heap}{b:Addr}{o:Obj}(hb:b∈fp)(e:h.get? b=some o):(b,o)∈U3 fp h:=i5.mpr ⟨b,hb,by rw[e];rfl⟩
theorem a4F {fp:List Addr}{h:Heap}{p:Addr×Obj}(hp:p∈U3 fp h):p.1∈fp/\h.get? p.1=some p.2:=by
 obtain⟨b,hb,e⟩:=List.mem_filterMap.mp hp;cases q:h.get? b with
 | none=>rw[q] at e;cases e
 | some o =>
  rw[q] at e;have e':(b,o)=p:=aG e;subst e';exact⟨hb,q⟩
theorem Inv.pinned {pins:List (Addr×Obj)}{σ:St}{H:Hp}{s:Shared}{fp:List Addr}(I:Inv X pins σ H s)(hf:∀ b∈fp,Y3 X pins H b)(ho:∀ b∈fp,∃ o,s.heap.get? b=some o/\∀ v,o.data≠.cell v):Inv X (pins++U3 fp s.heap) σ H s :=
 I.pins_of λp hp=>(aA.mp hp).elim (λz=>I.pin p (bo _ z)) λz=>by
  obtain⟨hb,e⟩:=a4F z;obtain⟨f0,f1,f2,_⟩:=hf p.1 hb;obtain⟨o,e',d⟩:=ho p.1 hb;rw[e] at e';cases e';exact⟨e,f0,f1,f2,d⟩
theorem Inv.unpinned {pins pl:List (Addr×Obj)}{σ:St}{H:Hp}{s:Shared}(I:Inv X (pins++pl) σ H s):Inv X pins σ H s:=I.pins_of λp hp=>I.pin p (bo _ (fM _ hp))
theorem Q3 {iter:Expr}{body:List Stmt}{wi:TI}{g:TG}{tb:TS}{pos:Pos}(hp:PassesOwn (model X.prog X.w) X.A X.env X.xe)(hc:X.calm=true)(hi:PI X tg iter wi)(hg:PG X tg g)(hb:PSs X body tb)
  (hs:∀ x,foldedSetIterable iter X.env x=pure x:=by intro _;rfl):PS X (.For tg iter body [] pos) (a8K wi g tb):=by
 intro pins s σ H D I h;refine wpAny_For (thn (hi pins s σ H _ I h) λv s1 h1=>thn h1 λitv s2 h2=>?_) hs;obtain⟨it,fp,tn,J,H2,e,I2,T,st2,f2,W,⟨m0,w0⟩,turn⟩:=h2;subst e;have stat:∀ {H':Hp},(∀ b∈fp,H' b=none)->∀ b∈fp,Y3 X pins H' b:=λhn b hb=>⟨hn b hb,(f2 b hb).2⟩
 refine codeAny_forLoop_any (λn s'=>∃ i σ' H',Inv X pins σ' H' s'/\tn i s'.heap/\(∀ b∈fp,H' b=none)/\W i n σ' H') ?_ m0 ⟨0,σ,H2,I2,st2,λb hb=>(f2 b hb).1,w0⟩;rintro n s3 ⟨i,σ3,H3,I3,st3,fr3,w3⟩;rcases turn i n σ3 H3 w3 with ⟨stop,qn⟩ | ⟨go,N,hN,step⟩
 ·refine eI hp (thn (T.done X rfl rfl rfl hc i pins s3 σ3 H3 X.xe I3 (stat fr3) st3 stop) λr s4 ⟨hr,I4⟩=>?_);subst hr;exact eJ ⟨σ3,H3,I4,qn⟩
 ·refine eI hp (thn (T.item X rfl rfl rfl hc i pins s3 σ3 H3 X.xe I3 (stat fr3) st3 go) λr s4 ⟨u,hr,h4⟩=>?_);subst hr;refine eI hp (thn h4 λ_ s5 ⟨x,H5,I5,r5,y5,st5,fr5⟩=>?_);have I5':=I5.pinned (stat fr5) (T.obj _ _ st5);refine eI hp (thn (hg _ s5 σ3 H5 x u _ I5' r5 (step x H5 y5)) λ_ s6 ⟨σ6,H6,I6,q6⟩=>?_);refine eI hp (thn (hb _ s6 σ6 H6 _ I6 q6) λf s7 q7=>?_);have again:∀ {σ7:St} {H7:Hp},Inv X (pins++U3 fp s5.heap) σ7 H7 s7->N σ7 H7->∃ m,m<n/\∃ i σ' H',Inv X pins σ' H' s7/\tn i s7.heap/\(∀ b∈fp,H' b=none)/\W i m σ' H':=λ{σ7 H7} I7 n7=>by
   obtain⟨m',hm,w7⟩:=hN σ7 H7 n7;refine⟨m',hm,i+1,σ7,H7,I7.unpinned,T.keep _ _ _ st5 λb hb o e=>(I7.pin (b,o) (bo _ (bo _ (N4 hb e)))).1,λb hb=>?_,w7⟩;obtain⟨o,e,d⟩:=T.obj _ _ st5 b hb;exact (I7.pin (b,o) (bo _ (bo _ (N4 hb e)))).2.1
  cases f with
  | next=>obtain⟨σ7,H7,I7,n7⟩:=q7;exact again I7 n7
  | cont=>obtain⟨σ7,H7,I7,n7⟩:=q7;exact again I7 n7
  | brk=>obtain⟨σ7,H7,I7,q7⟩:=q7;exact⟨σ7,H7,I7.unpinned,q7⟩
  | ret v=>obtain⟨x7,σ7,H7,I7,r7,q7⟩:=q7;exact⟨x7,σ7,H7,I7.unpinned,r7,q7⟩
end
theorem a0A {K:ae}{a:Addr}{xs:List V}{g:TG}{tb:TS}{D:Q4}{σ:St}{H:Hp}(Pv:Nat->St->Hp->Prop)(h0:Pv 0 σ H)(hl:∀ i σ H,i<=xs.length->Pv i σ H->SqL K H a xs)
  (hs:∀ i x σ H,xs[i]?=some x->Pv i σ H->g x σ H fun σ2 H2=>tb {D with nx:=Pv (i+1),ct:=Pv (i+1),bk:=D.nx} σ2 H2) (hd:∀ σ H,Pv xs.length σ H->D.nx σ H) :
  ∃ W:Nat->Nat->St->Hp->Prop,(∃ m,W 0 m σ H)/\∀ i m σ H,W i m σ H ->
   ((Itl K a).stop i H/\D.nx σ H)\/((Itl K a).go i H/\∃ N:St->Hp->Prop,(∀ σ' H',N σ' H'->∃ m',m'<m/\W (i+1) m' σ' H')/\∀ x H',(Itl K a).yld i H x H'->g x σ H' fun σ2 H2=>tb {D with nx:=N,ct:=N,bk:=D.nx} σ2 H2):=by
 refine⟨λi m σ H=>m=xs.length-i/\i<=xs.length/\Pv i σ H,⟨xs.length,by simp,bn _,h0⟩,?_⟩;rintro i m σ H ⟨rfl,hi,p⟩;have q:=hl i σ H hi p;by_cases hlt:i<xs.length
 ·refine .inr ⟨⟨xs,xs[i],q,by simp[hlt]⟩,Pv (i+1),fun σ' H' p'=>⟨xs.length-(i+1),∅,rfl,hlt,p'⟩,λx H' y=>?_⟩;obtain⟨e,y⟩:=y;subst e;exact hs i x σ _ (y xs q) p
 ·have e:i=xs.length:=∅
  subst e;exact .inl ⟨⟨xs,q,ao _⟩,hd σ H p⟩
theorem a7L {K:ae}{a:Addr}{xs:List V}{g:TG}{tb:TS}{D:Q4}{σ:St}{H:Hp}(Pv:Nat->St->Hp->Prop)(h0:Pv 0 σ H)(hl:∀ i σ H,i<=xs.length->Pv i σ H->SqT K H a xs)
  (hs:∀ i x σ H,xs[i]?=some x->Pv i σ H->g x σ H fun σ2 H2=>tb {D with nx:=Pv (i+1),ct:=Pv (i+1),bk:=D.nx} σ2 H2) (hd:∀ σ H,Pv xs.length σ H->D.nx σ H) :
  ∃ W:Nat->Nat->St->Hp->Prop,(∃ m,W 0 m σ H)/\∀ i m σ H,W i m σ H ->
   ((Itt K a).stop i H/\D.nx σ H)\/((Itt K a).go i H/\∃ N:St->Hp->Prop,(∀ σ' H',N σ' H'->∃ m',m'<m/\W (i+1) m' σ' H')/\∀ x H',(Itt K a).yld i H x H'->g x σ H' fun σ2 H2=>tb {D with nx:=N,ct:=N,bk:=D.nx} σ2 H2):=by
 refine⟨λi m σ H=>m=xs.length-i/\i<=xs.length/\Pv i σ H,⟨xs.length,by simp,bn _,h0⟩,?_⟩;rintro i m σ H ⟨rfl,hi,p⟩;have q:=hl i σ H hi p;by_cases hlt:i<xs.length
 ·refine .inr ⟨⟨xs,xs[i],q,by simp[hlt]⟩,Pv (i+1),fun σ' H' p'=>⟨xs.length-(i+1),∅,rfl,hlt,p'⟩,λx H' y=>?_⟩;obtain⟨e,y⟩:=y;subst e;exact hs i x σ _ (y xs q) p
 ·have e:i=xs.length:=∅
  subst e;exact .inl ⟨⟨xs,q,ao _⟩,hd σ H p⟩
theorem P5 {lo:Int}{n:Nat}{g:TG}{tb:TS}{D:Q4}{σ:St}{H:Hp}(Pv:Nat->St->Hp->Prop)(h0:Pv 0 σ H)
  (hs:∀ i σ H,i<n->Pv i σ H->g (.int (lo+i)) σ H fun σ2 H2=>tb {D with nx:=Pv (i+1),ct:=Pv (i+1),bk:=D.nx} σ2 H2) (hd:∀ σ H,Pv n σ H->D.nx σ H) :
  ∃ W:Nat->Nat->St->Hp->Prop,(∃ m,W 0 m σ H)/\∀ i m σ H,W i m σ H ->
   ((Itr lo n).stop i H/\D.nx σ H)\/((Itr lo n).go i H/\∃ N:St->Hp->Prop,(∀ σ' H',N σ' H'->∃ m',m'<m/\W (i+1) m' σ' H')/\∀ x H',(Itr lo n).yld i H x H'->g x σ H' fun σ2 H2=>tb {D with nx:=N,ct:=N,bk:=D.nx} σ2 H2):=by
 refine⟨λi m σ H=>m=n-i/\i<=n/\Pv i σ H,⟨n,by simp,bn _,h0⟩,?_⟩;rintro i m σ H ⟨rfl,hi,p⟩;by_cases hlt:i<n
 ·refine .inr ⟨hlt,Pv (i+1),fun σ' H' p'=>⟨n-(i+1),∅,rfl,hlt,p'⟩,λx H' y=>?_⟩;obtain⟨e,y⟩:=y;subst e y;exact hs i σ _ hlt p
 ·have e:i=n:=∅
  subst e;exact .inl ⟨ao _,hd σ H p⟩
end L2
namespace L2
open PySem PySem.Spec PyProof.Rows
abbrev R2:=V->V->Hp->VK->Prop
def OpR (X:Cx)(f:Value->Value->Sem Value)(r:R2):Prop :=
 ∀(pins:List (Addr×Obj)) (s:Shared) (σ:St) (H:Hp) (x y:V) (v u:Value) (Q:VK),Inv X pins σ H s->B6 x v->B6 y u->r x y H Q ->
  wpAny (model X.prog X.w) X.A (f v u) (EP X pins σ Q) X.xe s
def UnR (X:Cx)(f:Value->Sem Value)(r:V->Hp->VK->Prop):Prop :=
 ∀(pins:List (Addr×Obj)) (s:Shared) (σ:St) (H:Hp) (x:V) (v:Value) (Q:VK),Inv X pins σ H s->B6 x v->r x H Q ->
  wpAny (model X.prog X.w) X.A (f v) (EP X pins σ Q) X.xe s
def M0 (X:Cx)(f:Value)(r:List V->Hp->VK->Prop):Prop :=
 ∀(pins:List (Addr×Obj)) (s:Shared) (σ:St) (H:Hp) (xs:List V) (us:List Value) (Q:VK),Inv X pins σ H s->B3 xs us->r xs H Q ->
  wpAny (model X.prog X.w) X.A (call f us) (EP X pins σ Q) X.xe s
def b1N (X:Cx)(r:V->Hp->(Bool->Hp->Prop)->Prop):Prop :=
 ∀(pins:List (Addr×Obj)) (s:Shared) (σ:St) (H:Hp) (x:V) (v:Value) (Q:Bool->Hp->Prop),Inv X pins σ H s->B6 x v->r x H Q ->
  wpAny (model X.prog X.w) X.A (truthy v) (TP X pins σ Q) X.xe s
def tOp (r:R2)(ta tb:TE):TE:=fun σ H Q=>ta σ H λx H1=>tb σ H1 λy H2=>r x y H2 Q
def tUn (r:V->Hp->VK->Prop)(ta:TE):TE:=fun σ H Q=>ta σ H λx H1=>r x H1 Q
def rI (C:Int->Int->Prop)(g:Int->Int->V):R2:=λx y H Q=>∃ i j,x=.int i/\y=.int j/\C i j/\Q (g i j) H
def rI0 (g:Int->Int->V):R2:=λx y H Q=>∃ i j,x=.int i/\y=.int j/\Q (g i j) H
def rU (g:Int->V):V->Hp->VK->Prop:=λx H Q=>∃ i,x=.int i/\Q (g i) H
section
variable {X:Cx}{a b c:Expr}{ta tb tc:TE}{pos:Pos}
theorem a9S (ha:PE X a ta)(hb:PE X b tb){pins:List (Addr×Obj)}{s:Shared}{σ:St}{H:Hp}{R:V->V->Hp->Prop}(I:Inv X pins σ H s)
  (h:ta σ H λx H1=>tb σ H1 λy H2=>R x y H2) {Q:Value->Shared->Prop} {f:Value->Value->Sem Value}
  (hf:∀ v u s2 x y H2,Inv X pins σ H2 s2->B6 x v->B6 y u->R x y H2->wpAny (model X.prog X.w) X.A (f v u) Q X.xe s2) :
  wpAny (model X.prog X.w) X.A (eval a X.env) (λv sj=>wpAny (model X.prog X.w) X.A (eval b X.env) (λu sk=>wpAny (model X.prog X.w) X.A (f v u) Q X.xe sk) X.xe sj) X.xe s:=by
 refine thn (ha pins s σ H _ I h) λv s1 ⟨x,H1,I1,r1,q1⟩=>?_
 refine thn (hb pins s1 σ H1 _ I1 q1) λu s2 ⟨y,H2,I2,r2,q2⟩=>?_
 exact hf v u s2 x y H2 I2 r1 r2 q2
theorem A8 {op:Operator}{r:R2}(ho:OpR X (binaryOp op) r)(ha:PE X a ta)(hb:PE X b tb):PE X (.BinOp a op b pos) (tOp r ta tb):=by
 intro pins s σ H Q I h;exact wpAny_BinOp (a9S ha hb I h λv u s2 x y H2 I2 rx ry q=>ho pins s2 σ H2 x y v u Q I2 rx ry q)
theorem a8h {op:UnaryOp}{r:V->Hp->VK->Prop}(ho:UnR X (unaryOp op) r)(ha:PE X a ta):PE X (.UnaryOp op a pos) (tUn r ta):=by
 intro pins s σ H Q I h;exact UnaryOp_ (thn (ha pins s σ H _ I h) λv s1 ⟨x,H1,I1,r1,q1⟩=>ho pins s1 σ H1 x v Q I1 r1 q1)
theorem opI {f:Value->Value->Sem Value}{C:Int->Int->Prop}{g:Int->Int->Int}
  (rule:∀(i j:Int) (t u:Tok) (s:Shared) (Q:Value->Shared->Prop) (E:Value->Shared->Prop),C i j->Q (.int (g i j) s.toks) {s with toks:=s.toks+1}->wpAny (model X.prog X.w) X.A (f (.int i t) (.int j u)) Q E s) :
  OpR X f (rI C λi j=>.int (g i j)):=by
 intro pins s σ H x y v u Q I rx ry h;obtain⟨i,j,rfl,rfl,hc,q⟩:=h;obtain⟨t,rfl⟩:=rx;obtain⟨t',rfl⟩:=ry;exact rule i j t t' s _ _ hc ⟨.int (g i j),H,I.tok _,⟨_,rfl⟩,q⟩
theorem b0E {f:Value->Value->Sem Value}{g:Int->Int->Int}
  (rule:∀(i j:Int) (t u:Tok) (s:Shared) (Q:Value->Shared->Prop) (E:Value->Shared->Prop),Q (.int (g i j) s.toks) {s with toks:=s.toks+1}->wpAny (model X.prog X.w) X.A (f (.int i t) (.int j u)) Q E s) :
  OpR X f (rI0 λi j=>.int (g i j)):=by
 intro pins s σ H x y v u Q I rx ry h;obtain⟨i,j,rfl,rfl,q⟩:=h;obtain⟨t,rfl⟩:=rx;obtain⟨t',rfl⟩:=ry;exact rule i j t t' s _ _ ⟨.int (g i j),H,I.tok _,⟨_,rfl⟩,q⟩
theorem a7p {f:Value->Value->Sem Value}{g:Int->Int->Bool}
  (rule:∀(i j:Int) (t u:Tok) (s:Shared) (Q:Value->Shared->Prop) (E:Value->Shared->Prop),Q (.bool (g i j)) s->wpAny (model X.prog X.w) X.A (f (.int i t) (.int j u)) Q E s) :
  OpR X f (rI0 λi j=>.bl (g i j)):=by
 intro pins s σ H x y v u Q I rx ry h;obtain⟨i,j,rfl,rfl,q⟩:=h;obtain⟨t,rfl⟩:=rx;obtain⟨t',rfl⟩:=ry;exact rule i j t t' s _ _ ⟨.bl (g i j),H,I,rfl,q⟩
def b1R (i j:Int):Prop:=0<j/\j<1073741824
def b1Q (i j:Int):Prop:=0<=j/\j<=1000000/\i.natAbs<2 ^ 64
def a7U (i j:Int):Prop:=(-(2 ^ 64)<i/\i<2 ^ 64)\/(-(2 ^ 64)<j/\j<2 ^ 64)
theorem a7U.ok {i j:Int}(h:a7U i j):IntMulOk i j:=by
 rcases h with ⟨h1,h2⟩ | ⟨h1,h2⟩
 ·exact .of_left (intBits_le_64 h1 h2)
 ·exact .of_right (intBits_le_64 h1 h2)
theorem L9:OpR X (binaryOp .Add) (rI0 λi j=>.int (i+j)):=b0E λ_ _ _ _ _ _ _ q=>add_int q
theorem a0s:OpR X (binaryOp .Sub) (rI0 λi j=>.int (i-j)):=b0E λ_ _ _ _ _ _ _ q=>sub_int q
theorem U4:OpR X (binaryOp .Mult) (rI a7U λi j=>.int (i*j)):=opI λ_ _ _ _ _ _ _ hc q=>mul_int q hc.ok
theorem a4e:OpR X (binaryOp .FloorDiv) (rI b1R λi j=>.int (i / j)):=opI λi j _ _ _ _ _ hc q=>by
 have h1:(0:Int)<j:=hc.1;have h2:j<1073741824:=hc.2;exact floordiv_int ∅ (by rw[Int.fdiv_eq_ediv_of_nonneg i ∅];exact q) (.inl (PyProof.noPylong_small ∅))
theorem M3:OpR X (binaryOp .Mod) (rI (λ_ j=>0<j) λi j=>.int (i % j)):=opI λi j _ _ _ _ _ hc q=>by
 have h1:(0:Int)<j:=hc;exact mod_int' ∅ (by rw[Int.fmod_eq_emod_of_nonneg i ∅];exact q)
theorem a9g:OpR X (binaryOp .Pow) (rI b1Q λi j=>.int (i ^ j.toNat)):=opI λ_ _ _ _ _ _ _ hc q=>pow_int_small hc.1 hc.2.1 hc.2.2 q
theorem unI {f:Value->Sem Value}{g:Int->Int}
  (rule:∀(i:Int) (t:Tok) (s:Shared) (Q:Value->Shared->Prop) (E:Value->Shared->Prop),Q (.int (g i) s.toks) {s with toks:=s.toks+1}->wpAny (model X.prog X.w) X.A (f (.int i t)) Q E s) :
  UnR X f (rU λi=>.int (g i)):=by
 intro pins s σ H x v Q I rx h;obtain⟨i,rfl,q⟩:=h;obtain⟨t,rfl⟩:=rx;exact rule i t s _ _ ⟨.int (g i),H,I.tok _,⟨_,rfl⟩,q⟩
theorem a5f:UnR X (unaryOp .USub) (rU λi=>.int (-i)):=unI λ_ _ _ _ _ q=>neg_int q
end
def a5A:V->V->Bool
 | .non,.non=>true | .non,.int _=>true | .int _,.non=>true | .non,.bl _=>true | .bl _,.non=>true | .non,.str _=>true | .str _,.non=>true
 | .int _,.int _=>true | .bl _,.bl _=>true | .str _,.str _=>true | .byt _,.byt _=>true
 | .int _,.str _=>true | .str _,.int _=>true | .bl _,.str _=>true | .str _,.bl _=>true
 | _,_=>false
def rEq:R2:=λx y H Q=>a5A x y=true/\Q (.bl (decide (x=y))) H
def rNe:R2:=λx y H Q=>a5A x y=true/\Q (.bl (!decide (x=y))) H
theorem a4o {i j:Int}:decide (V.int i=V.int j)=(i == j):=by
 rw[dR];simp
theorem a6K {i j:Bool}:decide (V.bl i=V.bl j)=(i == j):=by
 rw[dR];simp
theorem a4n {i j:Str}:decide (V.str i=V.str j)=(i == j):=by
 rw[dR];simp
theorem a4p {i j:Array UInt8}:decide (V.byt i=V.byt j)=(i.toList == j.toList):=by
 rw[dR];cases i;cases j;simp
section
variable {X:Cx}{a b c:Expr}{ta tb tc:TE}{pos:Pos}
theorem E3 {pins:List (Addr×Obj)}{σ:St}{H:Hp}{s:Shared}{Q:VK}{k k':Bool}(I:Inv X pins σ H s)(q:Q (.bl k) H)(e:k=k'):EP X pins σ Q (.bool k') s:=by
 subst e;exact⟨.bl k,H,I,rfl,q⟩
theorem T5:OpR X (compareOp .Eq) rEq:=by
 intro pins s σ H x y v u Q I rx ry h;obtain⟨hs,q⟩:=h;cases x with
 | non =>
  cases rx;cases y with
  | non=>cases ry;exact PySem.EqNone.eq_none_none (E3 I q (by simp))
  | bl j=>cases ry;exact PySem.EqNone.eq_none_bool (E3 I q (by simp))
  | int j=>obtain⟨t',rfl⟩:=ry;exact PySem.EqNone.eq_none_int (E3 I q (by simp))
  | str j=>obtain⟨t',rfl⟩:=ry;exact PySem.EqNone.eq_none_str (E3 I q (by simp))
  | _=>exact absurd (show false=true from hs) aR
 | bl i =>
  cases rx;cases y with
  | non=>cases ry;exact PySem.EqNone.eq_bool_none (E3 I q (by simp))
  | bl j=>cases ry;exact eq_bool (E3 I q a6K)
  | str j=>obtain⟨t',rfl⟩:=ry;exact PySem.EqMixed.eq_bool_str (E3 I q (by simp))
  | _=>exact absurd (show false=true from hs) aR
 | int i =>
  obtain⟨t,rfl⟩:=rx;cases y with
  | non=>cases ry;exact PySem.EqNone.eq_int_none (E3 I q (by simp))
  | int j=>obtain⟨t',rfl⟩:=ry;exact eq_int (E3 I q a4o)
  | str j=>obtain⟨t',rfl⟩:=ry;exact PySem.EqMixed.eq_int_str (E3 I q (by simp))
  | _=>exact absurd (show false=true from hs) aR
 | str i =>
  obtain⟨t,rfl⟩:=rx;cases y with
  | non=>cases ry;exact PySem.EqNone.eq_str_none (E3 I q (by simp))
  | bl j=>cases ry;exact PySem.EqMixed.eq_str_bool (E3 I q (by simp))
  | int j=>obtain⟨t',rfl⟩:=ry;exact PySem.EqMixed.eq_str_int (E3 I q (by simp))
  | str j=>obtain⟨t',rfl⟩:=ry;exact eq_str (E3 I q a4n)
  | _=>exact absurd (show false=true from hs) aR
 | byt i =>
  obtain⟨t,rfl⟩:=rx;cases y with
  | byt j=>obtain⟨t',rfl⟩:=ry;exact PySem.W.eq_bytes (E3 I q a4p)
  | _=>exact absurd (show false=true from hs) aR
 | _=>cases y<;>exact absurd (show false=true from hs) aR
theorem a8k:OpR X (compareOp .NotEq) rNe:=by
 intro pins s σ H x y v u Q I rx ry h;obtain⟨hs,q⟩:=h;cases x with
 | non =>
  cases rx;cases y with
  | non=>cases ry;exact PySem.EqNone.ne_none_none (E3 I q (by simp))
  | bl j=>cases ry;exact PySem.EqNone.ne_none_bool (E3 I q (by simp))
  | int j=>obtain⟨t',rfl⟩:=ry;exact PySem.EqNone.ne_none_int (E3 I q (by simp))
  | str j=>obtain⟨t',rfl⟩:=ry;exact PySem.EqNone.ne_none_str (E3 I q (by simp))
  | _=>exact absurd (show false=true from hs) aR
 | bl i =>
  cases rx;cases y with
  | non=>cases ry;exact PySem.EqNone.ne_bool_none (E3 I q (by simp))
  | bl j=>cases ry;exact ne_bool (E3 I q (congrArg not a6K))
  | str j=>obtain⟨t',rfl⟩:=ry;exact PySem.EqMixed.ne_bool_str (E3 I q (by simp))
  | _=>exact absurd (show false=true from hs) aR
 | int i =>
  obtain⟨t,rfl⟩:=rx;cases y with
  | non=>cases ry;exact PySem.EqNone.ne_int_none (E3 I q (by simp))
  | int j=>obtain⟨t',rfl⟩:=ry;exact ne_int (E3 I q (congrArg not a4o))
  | str j=>obtain⟨t',rfl⟩:=ry;exact PySem.EqMixed.ne_int_str (E3 I q (by simp))
  | _=>exact absurd (show false=true from hs) aR
 | str i =>
  obtain⟨t,rfl⟩:=rx;cases y with
  | non=>cases ry;exact PySem.EqNone.ne_str_none (E3 I q (by simp))
  | bl j=>cases ry;exact PySem.EqMixed.ne_str_bool (E3 I q (by simp))
  | int j=>obtain⟨t',rfl⟩:=ry;exact PySem.EqMixed.ne_str_int (E3 I q (by simp))
  | str j=>obtain⟨t',rfl⟩:=ry;exact ne_str (E3 I q (congrArg not a4n))
  | _=>exact absurd (show false=true from hs) aR
 | byt i =>
  obtain⟨t,rfl⟩:=rx;cases y with
  | byt j=>obtain⟨t',rfl⟩:=ry;exact PySem.W.ne_bytes (E3 I q (congrArg not a4p))
  | _=>exact absurd (show false=true from hs) aR
 | _=>cases y<;>exact absurd (show false=true from hs) aR
theorem a4d:OpR X (compareOp .Lt) (rI0 λi j=>.bl (decide (i<j))):=a7p λ_ _ _ _ _ _ _ q=>lt_int q
theorem a5Q:OpR X (compareOp .LtE) (rI0 λi j=>.bl (decide (i<=j))):=a7p λ_ _ _ _ _ _ _ q=>le_int q
theorem a8l:OpR X (compareOp .Gt) (rI0 λi j=>.bl (decide (j<i))):=a7p λ_ _ _ _ _ _ _ q=>gt_int q
theorem b0D:OpR X (compareOp .GtE) (rI0 λi j=>.bl (decide (j<=i))):=a7p λ_ _ _ _ _ _ _ q=>ge_int q
theorem E9 (b:Expr){op:CmpOp}(h:op≠.In:=by decide)(h2:op≠.NotIn:=by decide):behindInMarks op b=false:=by
 have e1:(op == CmpOp.In)=false:=by cases op<;>first | rfl | exact absurd rfl h
 have e2:(op == CmpOp.NotIn)=false:=by cases op<;>first | rfl | exact absurd rfl h2
 cases b<;>simp[behindInMarks,e1,e2]
theorem P0 {op:CmpOp}{r:R2}(ho:OpR X (compareOp op) r)(ha:PE X a ta)(hb:PE X b tb)(hm:behindInMarks op b=false):PE X (.Compare a [op] [b] pos) (tOp r ta tb):=by
 intro pins s σ H Q I h;exact wpAny_Compare1 (a9S ha hb I h λv u s2 x y H2 I2 rx ry q=>ho pins s2 σ H2 x y v u Q I2 rx ry q) hm
def a5q (t:TE):TT:=fun σ H Q=>t σ H λx H'=>∃ k,x=.bl k/\Q k H'
theorem K1 {op:CmpOp}{r:R2}(ho:OpR X (compareOp op) r)(ha:PE X a ta)(hb:PE X b tb)(hm:behindInMarks op b=false):PT X (.Compare a [op] [b] pos) (a5q (tOp r ta tb)):=by
 intro pins s σ H Q I h
 refine je (thn (ha pins s σ H _ I h) λv s1 ⟨x,H1,I1,r1,q1⟩=>thn (hb pins s1 σ H1 _ I1 q1) λu s2 ⟨y,H2,I2,r2,q2⟩ =>
  thn (ho pins s2 σ H2 x y v u _ I2 r1 r2 q2) λc s3 ⟨z,H3,I3,r3,k,e,q3⟩=>?_) hm
 subst e;cases r3;exact cB ⟨H3,I3,q3⟩
def a5v (r r':R2)(ta tb tc:TE):TE:=fun σ H Q=>ta σ H λx H1=>tb σ H1 λy H2=>r x y H2 λz H3=>∃ k,z=.bl k /\
 (if k=true then tc σ H3 λw' H4=>r' y w' H4 Q else Q (.bl false) H3)
theorem a5F {op op':CmpOp}{r r':R2}(ho:OpR X (compareOp op) r)(ho':OpR X (compareOp op') r')(ha:PE X a ta)(hb:PE X b tb)(hc:PE X c tc)
  (hm:lastMarks [op,op'] [b,c]=false:=by with_unfolding_all rfl):PT X (.Compare a [op,op'] [b,c] pos) (a5q (a5v r r' ta tb tc)):=by
 intro pins s σ H Q I h
 refine isTrue_chain (thn (ha pins s σ H _ I h) λv s1 ⟨x,H1,I1,r1,q1⟩=>test_link (thn (hb pins s1 σ H1 _ I1 q1) λu s2 ⟨y,H2,I2,r2,q2⟩ =>
  thn (ho pins s2 σ H2 x y v u _ I2 r1 r2 q2) λd s3 ⟨z,H3,I3,r3,k,e,q3⟩=>?_)) hm
 subst e;cases r3;refine cB ?_;cases k with
 | false =>
  obtain⟨k',e',q'⟩:=q3;cases e';exact ite_ff ⟨H3,I3,q'⟩
 | true =>
  refine ite_tt (test_last (thn (hc pins s3 σ H3 _ I3 q3) λw' s4 ⟨z',H4,I4,r4,q4⟩=>thn (ho' pins s4 σ H4 y z' u w' _ I4 r2 r4 q4) λd' s5 ⟨z2,H5,I5,r5,k2,e2,q5⟩=>?_));subst e2;cases r5;exact cB ⟨H5,I5,q5⟩
def b1M (K:ae)(x:V)(H:Hp)(k:Bool):Prop :=
 match x with
 | .non=>k=false
 | .bl b=>k=b
 | .int i=>k=(i != 0)
 | .str y=>y.length<=sizeLine/\k=((y.length:Int) != 0)
 | .byt y=>y.size<=sizeLine/\k=((y.size:Int) != 0)
 | .ref p=>(∃ xs,SqL K H p xs/\k=!xs.isEmpty)\/(∃ xs,SqT K H p xs/\k=!xs.isEmpty)\/∃ kvs,H p=some (.dK kvs)/\k=!kvs.isEmpty
 | _=>False
theorem a3x {κ:Type}{kvs:List (κ×V)}{vs:List (κ×Value)}(r:KV kvs vs):(!vs.isEmpty)=!kvs.isEmpty:=by
 cases r<;>rfl
theorem a0x {xs:List V}{its:List Value}(r:B3 xs its):(!its.toArray.isEmpty)=!xs.isEmpty:=by
 cases r<;>simp
theorem U5:(sizeLine:Nat)<2 ^ 63:=by rw[sizeLine_eq];decide
theorem b1e:b1N X (λx H Q=>∃ k,b1M X.K x H k/\Q k H):=by
 intro pins s σ H x v Q I rx h;obtain⟨k,e,q⟩:=h;have hl:=U5;have hs:sizeLine=16777216:=sizeLine_eq;cases x with
 | non =>
  cases rx;have e':k=false:=e;subst e';exact truthy_none ⟨H,I,q⟩
 | bl b =>
  cases rx;have e':k=b:=e;subst e';exact cB ⟨H,I,q⟩
 | int i =>
  obtain⟨t,rfl⟩:=rx;have e':k=(i != 0):=e;subst e';exact PySem.P.truthy_int ⟨H,I,q⟩
 | str y =>
  obtain⟨t,rfl⟩:=rx;obtain⟨hy,e'⟩:y.length<=sizeLine/\k=((y.length:Int) != 0):=e;subst e';exact PySem.P.truthy_str ∅ ⟨H,I.tok _,q⟩
 | byt y =>
  obtain⟨t,rfl⟩:=rx;obtain⟨hy,e'⟩:y.size<=sizeLine/\k=((y.size:Int) != 0):=e;subst e';exact PySem.W.truthy_bytes ∅ ⟨H,I.tok _,q⟩
 | ref p =>
  cases rx;have e':(∃ xs,SqL X.K H p xs/\k=!xs.isEmpty)\/(∃ xs,SqT X.K H p xs/\k=!xs.isEmpty)\/∃ kvs,H p=some (.dK kvs)/\k=!kvs.isEmpty:=e;rcases e' with ⟨xs,hx,e'⟩ | ⟨xs,hx,e'⟩ | ⟨kvs,hx,e'⟩
  ·subst e';obtain⟨its,r,pl,hz⟩:=I.list hx;have hlen:=r.length;exact wpAny_truthy_list pl.isList (by simp only[ay];omega) ⟨H,I.tok _,by rw[a0x r];exact q⟩
  ·subst e';obtain⟨its,r,pl,hz⟩:=I.tuple hx;have hlen:=r.length;exact truthy_tuple pl (by simp only[ay];omega) ⟨H,I.tok _,by rw[a0x r];exact q⟩
  ·subst e';obtain⟨hz,hS,vs,r,m⟩:kvs.length<=sizeLine/\(p == sysModules)=false/\∃ vs,KV kvs vs/\s.heap.DictOf (I0 X.prog X.w) p vs:=I.hok p _ hx;have hlen:kvs.length=vs.length:=fQ r;exact wpAny_truthy_dict hS m ∅ ⟨H,I.tok _,by rw[a3x r];exact q⟩
 | _=>exact (show False from e).elim
theorem S0 {x:V}{us:List Value}(r:B3 [x] us):∃ u,us=[u]/\B6 x u:=by
 cases r with
 | cons r1 r2=>cases r2;exact⟨_,rfl,r1⟩
theorem a5b {x y:V}{us:List Value}(r:B3 [x,y] us):∃ u w',us=[u,w']/\B6 x u/\B6 y w':=by
 cases r with
 | cons r1 r2 =>
  cases r2 with
  | cons r3 r4=>cases r4;exact⟨_,_,rfl,r1,r3⟩
theorem a4V:M0 X (.type "int") (λxs H Q=>(∃ i,xs=[.int i]/\Q (.int i) H)\/∃ k,xs=[.bl k]/\Q (.int (if k then 1 else 0)) H):=by
 intro pins s σ H xs us Q I r h;rcases h with ⟨i,rfl,q⟩ | ⟨k,rfl,q⟩
 ·obtain⟨u,rfl,t,rfl⟩:=S0 r;exact call_int_int ⟨.int i,H,I,⟨_,rfl⟩,q⟩
 ·obtain⟨u,rfl,r1⟩:=S0 r;cases r1;exact call_int_bool ⟨.int (if k then 1 else 0),H,I.tok _,⟨_,rfl⟩,q⟩
theorem K3:M0 X (.type "str") (λxs H Q=>∃ i,xs=[.int i]/\i.natAbs.log2<1920/\Q (.str (toString i)) H):=by
 intro pins s σ H xs us Q I r h;obtain⟨i,rfl,hz,q⟩:=h;obtain⟨u,rfl,t,rfl⟩:=S0 r;exact PySem.P.str_of_int hz ⟨.str _,H,I.tok _,⟨_,rfl⟩,q⟩
def b1O (K:ae)(x:V)(H:Hp)(n:Nat):Prop :=
 match x with
 | .str y=>y.length<=sizeLine/\n=y.length
 | .byt y=>y.size<=sizeLine/\n=y.size
 | .ref p=>(∃ xs,SqL K H p xs/\n=xs.length)\/∃ xs,SqT K H p xs/\n=xs.length
 | _=>False
theorem a6P:M0 X (.builtin "len") (λxs H Q=>∃ x n,xs=[x]/\b1O X.K x H n/\Q (.int n) H):=by
 intro pins s σ H xs us Q I r h;obtain⟨x,n,rfl,e,q⟩:=h;obtain⟨u,rfl,rx⟩:=S0 r;have hl:=U5;have hs:sizeLine=16777216:=sizeLine_eq;cases x with
 | str y =>
  obtain⟨t,rfl⟩:=rx;obtain⟨hy,e'⟩:y.length<=sizeLine/\n=y.length:=e;subst e';exact len_str ∅ ⟨.int _,H,I.tok _,⟨_,rfl⟩,q⟩
 | byt y =>
  obtain⟨t,rfl⟩:=rx;obtain⟨hy,e'⟩:y.size<=sizeLine/\n=y.size:=e;subst e';exact PySem.W.len_bytes ∅ ⟨.int _,H,I.tok _,⟨_,rfl⟩,q⟩
 | ref p =>
  cases rx;have e':(∃ xs,SqL X.K H p xs/\n=xs.length)\/∃ xs,SqT X.K H p xs/\n=xs.length:=e;rcases e' with ⟨xs,hx,e'⟩ | ⟨xs,hx,e'⟩
  ·subst e';obtain⟨its,r',pl,hz⟩:=I.list hx;have hlen:=r'.length;exact iG pl.isList (by simp only[ay];omega) ⟨.int xs.length,H,I.tok _,⟨_,by simp only[ay];rw[hlen]⟩,q⟩
  ·subst e';obtain⟨its,r',pl,hz⟩:=I.tuple hx;have hlen:=r'.length;exact len_tuple pl (by simp only[ay];omega) ⟨.int xs.length,H,I.tok _,⟨_,by simp only[ay];rw[hlen]⟩,q⟩
 | _=>exact (show False from e).elim
end
end L2
namespace L2
open PySem PySem.Spec PyProof.Rows
structure a9W (h:Heap)(x dx C:Addr)(mA:Str->Option Value):Prop where
 obj:h.get? x=some (cO C dx)
 ns:h.Ns1 dx mA
 ne:dx≠x
theorem a4I {h:Heap}{dx:Addr}{mA:Str->Option Value}(n:h.Ns1 dx mA):∃ od,h.get? dx=some od/\∀ name,PySem.W.lookIn name od=some (mA name):=by
 obtain⟨o,es,ep,ho,hd,hk,_,hm⟩:=n;refine⟨o,ho,λname=>?_⟩;have e:=hm name;unfold nsFind findBy at e;rw[<- Array.find?_toList] at e;unfold PySem.W.lookIn;rw[hd];dsimp only;split
 ·rename_i y q;rw[q] at e;exact congrArg some e
 ·rename_i q;rw[q] at e;have a:es.toList.any (·.refKey)=false:=by
   rw[List.any_eq_false];intro y hy;obtain⟨z,t,hkey⟩:=hk y (Array.mem_toList_iff.mp hy);simp[DictEntry.refKey,hkey]
  have a':¬ es.toList.any (·.refKey)=true:=by rw[a];exact aR
  rw[if_neg a'];exact congrArg some e
theorem a9W.look {h:Heap}{x dx C:Addr}{mA:Str->Option Value}(I:a9W h x dx C mA):∃ od,PySem.W.InstAt h x (cO C dx) C (some od)/\∀ name,PySem.W.lookIn name od=some (mA name) :=
 let ⟨od,ho,hl⟩:=a4I I.ns
 ⟨od,⟨I.obj,rfl,rfl,ho⟩,hl⟩
section
variable {P:Program}{w:World}{H H':Hp}{h h':Heap}{a C dx:Addr}{fs fs':List (Str×V)}
theorem a7J (hok:HOk P w H h)(e:H a=some (.ins C dx fs)):∃ mA,a9W h a dx C mA/\(∀ f,a1R (fs.lookup f) (mA f))/\PySem.Within mA (fs.map (·.1))/\fs.length<=1000/\H dx=some (.own a):=by
 obtain⟨d,z,ne,ob,mA,n,r,q⟩:=(show J0 P w H h a (.ins C dx fs) from hok a _ e)
 exact⟨mA,⟨ob,n,ne⟩,r,q,z,d⟩
end
structure Cls (K:ae)(C:Addr):Prop where
 pg:PySem.W.plainGet K C Str.empty=true
 hd:PySem.W.hasDictIn K C=true
 po:PySem.W.plainOver K C=true
 sa:aP K (.ref C) "__setattr__"=some (some (.builtin "object.__setattr__"))
theorem Cls.get {K:ae}{C:Addr}(c:Cls K C)(f:Str):PySem.W.plainGet K C f=true:=c.pg
section
variable {X:Cx}{pins:List (Addr×Obj)}{σ:St}{H:Hp}{s:Shared}{a C dx:Addr}{fs:List (Str×V)}{f:Str}{v:V}{A:Around}{E:Value->Shared->Prop}
theorem Inv.made (I:Inv X pins σ H s):Inv X pins σ (upd (upd H s.heap.objs.size (.own (s.heap.objs.size+1))) (s.heap.objs.size+1) (.ins C s.heap.objs.size []))
  {s with heap:=(s.heap.push cp).push (cO C s.heap.objs.size)}:=by
 have e1:(s.heap.push cp).get? s.heap.objs.size=some cp:=aX s.heap rfl;have e2:((s.heap.push cp).push (cO C s.heap.objs.size)).get? (s.heap.objs.size+1)=some (cO C s.heap.objs.size):=by
  have:=aX (s.heap.push cp) (o:=cO C s.heap.objs.size) rfl
  rwa [dC] at this
 have e3:(s.heap.push cp).Ns s.heap.objs.size (λ_=>none):=⟨cp,#[],_,e1,rfl,(λe he=>absurd he (by simp)),λ_=>rfl⟩
 have I1:=I.laid (a:=s.heap.objs.size) (o:=.own (s.heap.objs.size+1)) (h':=s.heap.push cp) (t':=s.toks) (λb u q=>aj _ q) (ao _) ⟨_,e1⟩;refine I1.laid (a:=s.heap.objs.size+1) (o:=.ins C s.heap.objs.size []) (t':=s.toks) (λb u q=>aj _ q) (fJ (dC _ _)) ?_;have ne:s.heap.objs.size≠s.heap.objs.size+1:=aN (Nat.lt_succ_self _);refine⟨by rw[A7 ne,A2],bn _,ne,e2,λ_=>none,(Heap.Ns1.of_empty e3).at λo q=>aj _ q,λ_=>di,λy hy=>absurd rfl hy⟩
end
section
variable {X:Cx}{pins:List (Addr×Obj)}{σ:St}{H:Hp}{s:Shared}{A:Around}{E:Value->Shared->Prop}{Q:Value->Shared->Prop}{c:Value}{b:Bool}
inductive R8 (K:ae)(H:Hp):V->Value->Prop where
 | non:R8 K H .non (.type "NoneType")
 | bl (x:Bool):R8 K H (.bl x) (.type "bool")
 | int (i:Int):R8 K H (.int i) (.type "int")
 | str (x:Str):R8 K H (.str x) (.type "str")
 | flt (x:UInt64):R8 K H (.flt x) (.type "float")
 | lst {a:Addr} {xs:List V} (e:H a=some (.lst xs)):R8 K H (.ref a) (.type "list")
 | frz {a:Addr} {o:Obj} {xs:List V} (e:H a=some (.frz o (.lst xs))):R8 K H (.ref a) (.type "list")
 | tup {a:Addr} {xs:List V} (e:H a=some (.tup xs)):R8 K H (.ref a) (.type "tuple")
 | dK {a:Addr} {kvs:List (Key×V)} (e:H a=some (.dK kvs)):R8 K H (.ref a) (.type "dict")
 | dT {a:Addr} {kvs:List (List Key×V)} (e:H a=some (.dT kvs)):R8 K H (.ref a) (.type "dict")
 | ins {a C dx:Addr} {fs:List (Str×V)} (e:H a=some (.ins C dx fs)) (cl:Cls K C) (ha:aP K (.ref C) "__class__"=some (some (.builtin "object.__class__")))
   (hn:PySem.W.specialIn K (.builtin "object.__class__") "__get__"=some (some (.builtin "getset_descriptor.__get__"))) (htk:PySem.W.takesIn K (.builtin "object.__class__")=some true)
   (hm:bx K C (.type "object")=some true):R8 K H (.ref a) (.ref C)
theorem a4L {x:V}{u t:Value}(I:Inv X pins σ H s)(rx:B6 x u)(ty:R8 X.K H x t)(e:PySem.W.kitOne X.K t c=some b)(h:∀ tk,Q (.bool b) {s with toks:=tk}) :
  wpAny (model X.prog X.w) A (call (.builtin "isinstance") [u,c]) Q E s:=by
 cases ty with
 | non=>cases (show u=cJ from rx);exact bY PySem.W.kitx_none I.kIn di e (λz=>nomatch z) h
 | bl y=>cases (show u=aZ y from rx);exact bY PySem.W.kitx_bool I.kIn di e (λz=>nomatch z) h
 | int i=>obtain⟨t,q⟩:=(show ∃ t,u=cC i t from rx);cases q;exact bY PySem.W.kitx_int I.kIn di e (λz=>nomatch z) h
 | str y=>obtain⟨t,q⟩:=(show ∃ t,u=fA y t from rx);cases q;exact bY PySem.W.kitx_str I.kIn di e (λz=>nomatch z) h
 | flt y=>obtain⟨t,q⟩:=(show ∃ t,u=Value.float y t from rx);cases q;exact bY PySem.W.kitx_float I.kIn di e (λz=>nomatch z) h
 | @lst a xs ea =>
  cases (show u=bp a from rx);obtain⟨_,_,n,_,h1⟩:=(show J0 X.prog X.w H s.heap a (.lst xs) from I.hok a _ ea)
  exact bY iD I.kIn ⟨_,h1,rfl⟩ e (λz=>nomatch z) h
 | @frz a ob xs ea =>
  cases (show u=bp a from rx);obtain⟨_,_,_,n,_,h1⟩:=(show J0 X.prog X.w H s.heap a (.frz ob (.lst xs)) from I.hok a _ ea)
  exact bY iD I.kIn ⟨_,h1,rfl⟩ e (λz=>nomatch z) h
 | @tup a xs ea =>
  cases (show u=bp a from rx);obtain⟨_,_,_,p⟩:=(show J0 X.prog X.w H s.heap a (.tup xs) from I.hok a _ ea)
  obtain⟨o,h1,h2,_⟩:=p;exact bY PySem.W.kitx_tuple I.kIn ⟨o,h1,h2⟩ e (λz=>nomatch z) h
 | @dK a kvs ea =>
  cases (show u=bp a from rx);obtain⟨_,_,vs,_,p⟩:=(show J0 X.prog X.w H s.heap a (.dK kvs) from I.hok a _ ea)
  obtain⟨o,es,ep,h1,h2,_⟩:=p;exact bY iE I.kIn ⟨o,h1,h2.1⟩ e (λz=>nomatch z) h
 | @dT a kvs ea =>
  cases (show u=bp a from rx);obtain⟨_,_,xs,_,o,es,ep,h1,h2,_⟩:=(show J0 X.prog X.w H s.heap a (.dT kvs) from I.hok a _ ea)
  exact bY iE I.kIn ⟨o,h1,h2.1⟩ e (λz=>nomatch z) h
 | @ins a C dx fs ea cl ha hn htk hm =>
  cases (show u=bp a from rx);obtain⟨mA,O,_⟩:=a7J I.hok ea;obtain⟨od,J,_⟩:=O.look;exact bY (PySem.W.kitx_own (cl.get _) cl.hd ha hn htk hm) I.kIn J e (λz=>nomatch z) h
end
end L2
namespace L2
open PySem PySem.Spec PyProof.Rows
structure L7 (k:Nat)(A:Around):Prop where
 hd:A.handled=none
 dp:A.depth+3*k+5<recursionLimit
 un:A.units+16*k+200<cLine
 gd:A.guards=some []
theorem L7.mono {j k:Nat}{A:Around}(r:L7 k A)(h:j<=k):L7 j A:=⟨r.hd,by have:=r.dp;omega,by have:=r.un;omega,r.gd⟩
theorem L7.deeper {k:Nat}{A:Around}(r:L7 (k+1) A)(env:Env):L7 k (A.deeper env) :=
 ⟨r.hd,by have:=r.dp;show A.depth+1+3*k+5<_;omega,by have:=r.un;show A.units+3+16*k+200<_;omega,r.gd⟩
theorem L7.in1 {k:Nat}{A:Around}(r:L7 (k+1) A):L7 k A.in1 :=
 ⟨r.hd,by have:=r.dp;show A.depth+3*k+5<_;omega,by have:=r.un;show A.units+1+16*k+200<_;omega,r.gd⟩
theorem L7.depth {k:Nat}{A:Around}(r:L7 k A):A.depth<recursionLimit:=by have:=r.dp;omega
theorem L7.units {k:Nat}{A:Around}(r:L7 k A):A.units+64<cLine:=by have:=r.un;omega
theorem L7.units0 {k:Nat}{A:Around}(r:L7 k A):A.units<cLine:=by have:=r.un;omega
def b0m:TA:=λ_ H Q=>Q [] H
def a8b (ta:TE)(tr:TA):TA:=fun σ H Q=>ta σ H λx H1=>tr σ H1 λxs H2=>Q (x::xs) H2
section
variable {X:Cx}{e:Expr}{es:List Expr}{te:TE}{t:TA}{pos:Pos}
theorem A1:PA X [] b0m:=λ_ _ _ _ H Q I h=>cV ⟨[],H,I,.nil,h⟩
theorem A0 (ha:PE X e te)(hr:PA X es t)(hs:starEach (e::es) X.env=(false,eval e X.env)::starEach es X.env:=by rfl):PA X (e::es) (a8b te t):=by
 intro pos pins s σ H Q I h;rw[hs];show wpAny _ _ (spliced ((false,eval e X.env)::backTo pos (starEach es X.env))) _ _ s;refine cM (thn (ha pins s σ H _ I h) λu s1 ⟨x,H1,I1,r1,q1⟩=>?_);exact thn (hr pos pins s1 σ H1 _ I1 q1) λus s2 ⟨xs,H2,I2,r2,q2⟩=>⟨x::xs,H2,I2,.cons r1 r2,q2⟩
def b0c (t:TA):TE:=fun σ H Q=>t σ H λxs H1=>xs.length<=sizeLine/\∀ p,H1 p=none->Q (.ref p) (upd H1 p (.tup xs))
def a8J (t:TA):TE:=fun σ H Q=>t σ H λxs H1=>xs.length<=sizeLine/\∀ p,H1 p=none->Q (.ref p) (upd H1 p (.lst xs))
theorem X9 {x1}(h:PA X es t):PE X (.Tuple es x1 pos) (b0c t):=by
 intro pins s σ H Q I hq;refine wpAny_Tuple_spliced (thn (h pos pins s σ H _ I hq) λus s1 ⟨xs,H1,I1,r,z,q⟩=>⟨by rw[<- r.length];exact z,?_⟩);have hf:H1 s1.heap.objs.size=none:=I1.hok.fresh (ao _);refine⟨.ref s1.heap.objs.size,upd H1 s1.heap.objs.size (.tup xs),I1.laid (t':=s1.toks) (λb u e=>aj _ e) (ao _) ?_,rfl,q _ hf⟩;exact⟨z,us,r,⟨_,aX _ rfl,rfl,_,rfl⟩⟩
theorem K2 (h:PA X es t):PE X (.List es pos) (a8J t):=by
 intro pins s σ H Q I hq;refine wpAny_List_spliced (thn (h pos pins s σ H _ I hq) λus s1 ⟨xs,H1,I1,r,z,q⟩=>⟨by rw[<- r.length];exact z,?_⟩);have hf:H1 s1.heap.objs.size=none:=I1.hok.fresh (ao _);refine⟨.ref s1.heap.objs.size,upd H1 s1.heap.objs.size (.lst xs),I1.laid (t':=s1.toks) (λb u e=>aj _ e) (ao _) ?_,rfl,q _ hf⟩;exact⟨z,us,0,r,aX _ rfl⟩
end
abbrev Sp:=List V->Hp->VK->XK->Prop
abbrev CXT:=List Env->Hp->Shared->XK->Value->Shared->Prop
structure a3I (P:Program)(w:World)(K:ae)(mg:Str->Option Value)(base:Heap)(A:Around)(outer:List Env)(s:Shared)(H:Hp):Prop where
 frames:A.frames=some outer
 mod:Mod K mg base
 bs:∀ b o,base.get? b=some o->s.heap.get? b=some o/\H b=none
 bsz:base.objs.size<=s.heap.objs.size
 funs:s.heap.FunFrames base outer
 frf:∀ b∈frs outer,H b=none
 hok:HOk P w H s.heap
 bare:AllBare s.gens
def CE (outer:List Env)(P:Program)(w:World)(H:Hp)(s:Shared)(Q:VK)(u:Value)(s':Shared):Prop :=
 ∃ v H',s'.os=s.os/\AllBare s'.gens/\Un (frs outer) [] H H' s.heap s'.heap/\HOk P w H' s'.heap/\B6 v u/\Q v H'
def CR (CX:CXT)(outer:List Env)(P:Program)(w:World)(H:Hp)(s:Shared)(Q:VK)(E:XK)(r:Result)(s':Shared):Prop :=
 match r with
 | .ok (.ret u)=>CE outer P w H s Q u s'
 | .ok _=>False
 | .error e=>CX outer H s E e s'
structure B8 (P:Program)(w:World)(K:ae)(mg:Str->Option Value)(base:Heap)(CX:CXT)(k:Nat)(f:Addr)(fd:FuncData)(ps:List Str)(sp:Sp):Prop where
 len:∀ vs H Q E,sp vs H Q E->vs.length=ps.length
 run:∀(A:Around) (outer:List Env) (s:Shared) (H:Hp) (args:Args) (us:List Value) (vs:List V) (Q:VK) (E:XK),L7 k A->a3I P w K mg base A outer s H->BindsTo s fd args (ps.zip us)->B3 vs us->sp vs H Q E ->
  codeAny (model P w) A (.call (.ref f) args) (CR CX outer P w H s Q E) s
theorem B8.mono {P:Program}{w:World}{K:ae}{mg:Str->Option Value}{base:Heap}{CX:CXT}{j k:Nat}{f:Addr}{fd:FuncData}{ps:List Str}{sp:Sp}(F:B8 P w K mg base CX j f fd ps sp)(h:j<=k) :
  B8 P w K mg base CX k f fd ps sp:=⟨F.len,λA outer s H args us vs Q E hr=>F.run A outer s H args us vs Q E (hr.mono h)⟩
theorem B8.imp {P:Program}{w:World}{K:ae}{mg:Str->Option Value}{base:Heap}{CX:CXT}{k:Nat}{f:Addr}{fd:FuncData}{ps:List Str}{sp sp':Sp}(F:B8 P w K mg base CX k f fd ps sp)
  (h:∀ vs H Q E,sp' vs H Q E->sp vs H Q E):B8 P w K mg base CX k f fd ps sp' :=
 ⟨λvs H Q E q=>F.len vs H Q E (h _ _ _ _ q),λA outer s H args us vs Q E hr he hb hv hs=>F.run A outer s H args us vs Q E hr he hb hv (h _ _ _ _ hs)⟩
theorem a3I.in1 {P:Program}{w:World}{K:ae}{mg:Str->Option Value}{base:Heap}{A:Around}{outer:List Env}{s:Shared}{H:Hp}(e:a3I P w K mg base A outer s H) :
  a3I P w K mg base A.in1 outer s H:=⟨e.frames,e.mod,e.bs,e.bsz,e.funs,e.frf,e.hok,e.bare⟩
section
variable {X:Cx}{pins:List (Addr×Obj)}{σ:St}{H:Hp}{s s':Shared}
theorem Inv.env0 (I:Inv X pins σ H s):a3I X.prog X.w X.K X.mg X.base X.A X.stack s H :=
 ⟨I.ok.frames,I.ok.mod,I.bs,aH I.ok.bsz I.sz,I.stack,I.stkFree,I.hok,I.bare⟩
theorem Inv.after {Q:VK}{u:Value}(I:Inv X pins σ H s)(h:CE X.stack X.prog X.w H s Q u s'):EP X pins σ Q u s':=by
 obtain⟨v,H',os,bare,un,hok,r,q⟩:=h;obtain⟨hh,g,d,t,os'⟩:=s';obtain rfl:os'=s.os:=os;exact⟨v,H',I.call (h':=hh) (g':=g) (d':=d) (t':=t) (ch:=[]) un hok bare (λb z=>absurd z (by simp)),r,q⟩
end
def a3O (sp:Sp)(dvs:List V)(E:XK)(t:TA):TE:=fun σ H Q=>t σ H λvs H1=>sp (vs++dvs) H1 Q E
def a1o (K:ae)(fd:FuncData)(ps:List Str)(ds:List Value):Prop :=
 ∀(s:Shared) (us:List Value),K.In s.heap->(us++ds).length=ps.length->BindsTo s fd ⟨us,[]⟩ (ps.zip (us++ds))
theorem a1o.all {K:ae}{fd:FuncData}{ps:List Str}(h:∀ us:List Value,us.length=ps.length->bindArgs fd ⟨us,[]⟩=pure (ps.zip us)):a1o K fd ps []:=λs us _ hl=>by
 rw[b9] at hl ⊢;exact .of_eq (h us hl)
def a1S (CX:CXT)(X:Cx)(E:XK):Prop:=∀(pins:List (Addr×Obj)) (σ:St) (H:Hp) (s:Shared) (e:Value) (s':Shared),Inv X pins σ H s->CX X.stack H s E e s'->X.xe e s'
section
variable {X:Cx}{CX:CXT}{k:Nat}{f C:Addr}{fd:FuncData}{ps:List Str}{sp:Sp}{dvs:List V}{ds:List Value}{E:XK}{x m:Str}{p pos apos:Pos}{e o:Expr}{es:List Expr}{ta:TE}{t:TA}
theorem a3d {pins:List (Addr×Obj)}{σ:St}{H:Hp}{s:Shared}{Q:VK}{us:List Value}{vs:List V}(F:B8 X.prog X.w X.K X.mg X.base CX k f fd ps sp)(hr:L7 k X.A)(hb:a1o X.K fd ps ds)(hd:B3 dvs ds)(hx:a1S CX X E)
  (I:Inv X pins σ H s) (r:B3 vs us) (h:sp (vs++dvs) H Q E):wpAny (model X.prog X.w) X.A (call (.ref f) us) (EP X pins σ Q) X.xe s:=by
 have r2:B3 (vs++dvs) (us++ds):=r.append hd;have hl:(us++ds).length=ps.length:=by rw[<- r2.length];exact F.len _ _ _ _ h
 refine jr (codeAny_mono (F.run X.A X.stack s H ⟨us,[]⟩ (us++ds) (vs++dvs) Q E hr I.env0 (hb s us I.kIn hl) r2 h) λr s' hq=>?_);cases r with
 | error e=>exact hx pins σ H s e s' I hq
 | ok fl =>
  cases fl with
  | ret u=>exact I.after hq
  | next=>exact cv hq
  | brk=>exact cv hq
  | cont=>exact cv hq
theorem a4b (F:B8 X.prog X.w X.K X.mg X.base CX k f fd ps sp)(hr:L7 k X.A)(hg:Gl X x)(hm:X.mg x=some (.ref f))(hk:dW X.K (.ref f)=true)(hb:a1o X.K fd ps ds)(hd:B3 dvs ds)(hx:a1S CX X E)
  (ha:PA X (e::es) t) (hdb:(x == ("__debug__":Str))=false:=by decide) (he:starEach (e::es) X.env=(false,eval e X.env)::starEach es X.env:=by rfl) (hpl:(backTo pos (starEach es X.env)).any (·.1)=false:=by rfl) :
  PE X (.Call (.Name x p) (e::es) [] pos) (a3O sp dvs E t):=by
 intro pins s σ H Q I h;refine bM (a0c I hg hm ?_ hdb);refine fO (h₀:=X.base) I.ok.mod.kin hk (thn (ha pos pins s σ H _ I h) λus s1 ⟨vs,H1,I1,r,q⟩=>⟨I1.kIn,?_⟩) he hpl;exact a3d F hr hb hd hx I1 r q
end
section
variable {X:Cx}{CX:CXT}{k:Nat}{f C:Addr}{fd:FuncData}{ps ks:List Str}{sp:Sp}{E:XK}{x m:Str}{p pos apos kpos:Pos}{e o:Expr}{es:List Expr}{kws:List Keyword}{te ta:TE}{t tk:TA}{nm:Option Str}
variable {g:List Value->List Value->List Value}{gV:List V->List V->List V}
end
structure B9 (N P:List Str)(sc:Scope):Prop where
 kind:sc.kind=.function
 co:sc.isCoroutine=false
 gen:sc.isGenerator=false
 nd:N.Nodup
 pre:N.take P.length=P
 par:∀ x∈P,sc.names.lookup x=some .local\/sc.names.lookup x=some .cell
 nofree:∀ y∈sc.names,y.2≠.free
theorem a1j {kindOf:Str->Option NameKind}{x:Str}:∀ {binds:List (Str×Value)} {m:Str->Option Value},(∀ v,(x,v)∉binds)->bindL kindOf binds m x=m x
 | [],_,_=>rfl
 | (n,v)::r,m,h=>by
  unfold bindL;rw[a1j λw hw=>h w (aq _ hw)];split
  ·have:x≠n:=by rintro rfl;exact h v aD
   simp[this]
  ·rfl
theorem a1l {kindOf:Str->Option NameKind}{x:Str}:∀ {binds:List (Str×Value)} {m:Str->Option Value},(∀ v,(x,v)∉binds)->bindC kindOf binds m x=m x
 | [],_,_=>rfl
 | (n,v)::r,m,h=>by
  unfold bindC;rw[a1l λw hw=>h w (aq _ hw)];split
  ·rfl
  ·have:x≠n:=by rintro rfl;exact h v aD
   simp[this]
theorem a1k {kindOf:Str->Option NameKind}{x:Str}{v:Value}:∀ {P:List Str} {vs:List Value} {i:Nat} {m:Str->Option Value},P.Nodup->P[i]?=some x->vs[i]?=some v->kindOf x=some .local ->
  bindL kindOf (P.zip vs) m x=some v
 | [],_,_,_,_,h,_,_=>by simp at h
 | _::_,[],_,_,_,_,h,_=>by simp at h
 | p::P,w::vs,0,m,nd,h1,h2,hk=>by
  simp at h1 h2;subst h1;subst h2;show bindL kindOf ((p,w)::P.zip vs) m p=_;unfold bindL;rw[a1j λv hv=>(ce.mp nd).1 (gN hv).1,if_pos hk];simp
 | p::P,w::vs,i+1,m,nd,h1,h2,hk=>by
  show bindL kindOf ((p,w)::P.zip vs) m x=_;unfold bindL;exact a1k (i:=i) (ce.mp nd).2 (~~~h1) (~~~h2) hk
theorem a1m {kindOf:Str->Option NameKind}{x:Str}{v:Value}:∀ {P:List Str} {vs:List Value} {i:Nat} {m:Str->Option Value},P.Nodup->P[i]?=some x->vs[i]?=some v->kindOf x≠some .local ->
  bindC kindOf (P.zip vs) m x=some v
 | [],_,_,_,_,h,_,_=>by simp at h
 | _::_,[],_,_,_,_,h,_=>by simp at h
 | p::P,w::vs,0,m,nd,h1,h2,hk=>by
  simp at h1 h2;subst h1;subst h2;show bindC kindOf ((p,w)::P.zip vs) m p=_;unfold bindC;rw[a1l λv hv=>(ce.mp nd).1 (gN hv).1,if_neg hk];simp
 | p::P,w::vs,i+1,m,nd,h1,h2,hk=>by
  show bindC kindOf ((p,w)::P.zip vs) m x=_;unfold bindC;exact a1m (i:=i) (ce.mp nd).2 (~~~h1) (~~~h2) hk
def P9 (N:List Str)(vs:List V):St:=vs.map some++List.replicate (N.length-vs.length) none
def a0L (CX:CXT)(P:Program)(w:World)(K:ae)(mg:Str->Option Value)(base:Heap)(N:List Str)(qual:Str)(scope:Scope)(f:Addr)(cd:Value)(A:Around)(outer:List Env)(s:Shared)(H:Hp)(E:XK):Cx where
 prog:=P
 w:=w
 K:=K
 mg:=mg
 base:=base
 A:=A.deeper (envOfC qual scope s.heap.objs.size f cd)
 N:=N
 sw:=s
 Hz:=H
 env:=envOfC qual scope s.heap.objs.size f cd
 outer:=outer
 stack:=envOfC qual scope s.heap.objs.size f cd::outer
 ex:=[]
 calm:=true
 fn:=λ_=>true
 pn:=[]
 xe:=λe s'=>wpAny (model P w) (A.deeper (envOfC qual scope s.heap.objs.size f cd)) (leaving (envOfC qual scope s.heap.objs.size f cd) e) (λ_ s''=>CX outer H s E e s'') (λe' s''=>CX outer H s E e' s'') s'
theorem a2Q {sc:Scope}{n:Nat}{x:Str}(h:sc.names.lookup x=some .cell):∃ c,(cellsFrom n sc.names []).lookup x=some c:=by
 have q:=gW sc.names n [] (.inl h);exact cf.mp q
theorem a4M {CX:CXT}{P:Program}{w:World}{K:ae}{mg:Str->Option Value}{base:Heap}{N ps:List Str}{qual:Str}{scope:Scope}{f:Addr}{cd:Value}{A:Around}{outer:List Env}{s s1:Shared}{H:Hp}{E:XK}{us:List Value}{vs:List V}
  (S:B9 N ps scope) (hd:A.handled=none) (e0:a3I P w K mg base A outer s H) (hl:vs.length=ps.length) (r:B3 vs us)
  (x:InCallC s s.heap.objs.size (bindL (envOfC qual scope s.heap.objs.size f cd).kindOf (ps.zip us) λ_=>none) (cellsFrom (s.heap.objs.size+1) scope.names []) (bindC (envOfC qual scope s.heap.objs.size f cd).kindOf (ps.zip us) λ_=>none) s1) :
  Inv (a0L CX P w K mg base N qual scope f cd A outer s H E) [] (P9 N vs) H s1:=by
 have hpl:ps.length<=N.length:=by have:=congrArg cz S.pre;rw[bq] at this;omega
 obtain⟨h1,tk,rfl,hk⟩:=x.done;have noA:∀ b:Addr,b∉(a0L CX P w K mg base N qual scope f cd A outer s H E).ex:=λb z=>absurd (show b∈([]:List Addr) from z) (by simp)
 refine⟨⟨e0.mod,S.kind,rfl,rfl,ao _,λy z c h1 h2=>?_,λy hy=>?_,λy c _ h=>?_,λ_=>hd,Around.frames_deeper e0.frames,.inr ⟨rfl,rfl⟩,λb z=>absurd z (noA b),e0.bs,e0.bsz,λb _ _=>noA b,λb z=>absurd z (noA b),e0.funs,e0.frf⟩,
  rfl,e0.bare,Un.kept hk,⟨_,x.toInCall.ns,λi y v h1 h2 h3=>?_⟩,λy c h=>⟨_,x.cell y c h⟩,e0.hok.fresh (ao _),λy c h=>?_,λp hp=>absurd (show p∈([]:List (Addr×Obj)) from hp) (by simp),e0.hok.kept hk,?_⟩
 ·exact name_of_addr x.apart (dg h1) (dg h2)
 ·have hy:scope.names.lookup y=some .cell\/scope.names.lookup y=some .free:=hy;rcases hy with hy | hy
  ·exact a2Q hy
  ·exact absurd rfl (S.nofree _ (dg hy))
 ·exact bT (x.above y c (dg h))
 ·have hi:i<vs.length:=by
   unfold P9 at h2;by_cases hi:i<vs.length
   ·exact hi
   ·rw[bD (~~~hi)] at h2;rw[List.getElem?_replicate] at h2;split at h2<;>cases h2
  have ha:vs[i]?=some v:=by
   unfold P9 at h2;rw[bF (~~~hi),aJ] at h2;cases e:vs[i]? with
   | none=>rw[e] at h2;cases h2
   | some a=>rw[e] at h2;cases h2;rfl
  obtain⟨u,hu,rv⟩:=r.get ha;have hp:ps[i]?=some y:=by
   rw[<- S.pre,eO ∅];exact h1
  have ndP:ps.Nodup:=by rw[<- S.pre];exact S.nd.sublist (cY _ _)
  refine⟨u,rv,?_⟩;rcases S.par y (aU hp) with k | k
  ·exact .inl ⟨k,a1k ndP hp hu k⟩
  ·obtain⟨c,e⟩:=a2Q (n:=s.heap.objs.size+1) k;refine .inr ⟨.inl k,c,e,?_⟩;have q:=x.cell y c e;rw[a1m ndP hp hu (by show scope.names.lookup y≠_;rw[k];decide)] at q;exact q
 ·exact e0.hok.fresh (bT (x.above y c (dg h)))
 ·unfold P9;show _=N.length;rw[aB,aa,List.length_replicate];omega
theorem a8r {CX:CXT}{P:Program}{w:World}{K:ae}{mg:Str->Option Value}{base:Heap}{k:Nat}{f:Addr}{name qual:Str}{params:Arguments}{body:List Stmt}{scope:Scope}{dV kV doc pm cdv ct oc:Value}{an od:Option Addr}
  {osl:Array (Option Value)} {N ps:List Str} {sp:Sp} (lk:K.lookup f=some ⟨oc,od,.func (da name qual params body scope dV kV doc pm an cdv ct),osl⟩) (hcd:fE K cdv qual=true) (S:B9 N ps scope)
  (len:∀ vs H Q E,sp vs H Q E->vs.length=ps.length)
  (hbody:∀(A:Around) (outer:List Env) (s:Shared) (H:Hp) (vs:List V) (Q:VK) (E:XK),L7 k (A.deeper (envOfC qual scope s.heap.objs.size f cdv))->sp vs H Q E ->
   ∃ t,PSs (a0L CX P w K mg base N qual scope f cdv A outer s H E) body t/\t {nx:=λ_ H'=>Q .non H',rt:=Q} (P9 N vs) H) :
  B8 P w K mg base CX (k+1) f (da name qual params body scope dV kV doc pm an cdv ct) ps sp:=by
 refine⟨len,λA outer s H args us vs Q E hr e0 hb r hsp=>?_⟩;have hl:=len _ _ _ _ hsp;have KX:K.In s.heap:=e0.mod.kin.keeps λb o e=>(e0.bs b o e).1
 have lim:s.heap.NoLimit:=e0.mod.nolimit.keeps λb o e=>(e0.bs b o e).1
 have hkind:∀ y∈ps.zip us,scope.names.lookup y.1=some .local\/(scope.names.lookup y.1=some .cell/\((cellsFrom (s.heap.objs.size+1) scope.names []).lookup y.1).isSome=true):=λ⟨n,v⟩ hy=>by
  rcases S.par n (gN hy).1 with q | q
  ·exact .inl q
  ·exact .inr ⟨q,gW _ _ _ (.inl q)⟩
 refine codeAny_call_function hr.depth (KX _ _ lk) rfl S.co S.gen rfl (PySem.W.codeRec_of KX hcd) (hb _ _ _ _ ?_);refine wpAny_newFunctionEnv_cells S.kind hkind λenv he s1 x=>?_
 subst he;refine⟨lim.keeps x.toInCall.keep,codeAny_func ?_⟩;obtain⟨t,ht,hq⟩:=hbody A outer s H vs Q E (hr.deeper _) hsp;have I:Inv (a0L CX P w K mg base N qual scope f cdv A outer s H E) [] (P9 N vs) H s1:=a4M S hr.hd e0 hl r x;refine bO (ht [] s1 (P9 N vs) H _ I hq) (λfl s' hs=>?_) λe s' hs=>hs
 have fin:∀ {σ':St} {H':Hp} {v:V} {u:Value},Inv (a0L CX P w K mg base N qual scope f cdv A outer s H E) [] σ' H' s'->B6 v u->Q v H'->CE outer P w H s Q u s' :=
  λ{σ' H' v u} J rv q=>⟨v,H',J.os,J.bare,J.base,J.hok,rv,q⟩
 cases fl with
 | ret u =>
  obtain⟨v,σ',H',J,rv,q⟩:=hs;exact fin J rv q
 | next =>
  obtain⟨σ',H',J,q⟩:=hs;exact fin (v:=V.non) (u:=cJ) J rfl q
 | brk =>
  obtain⟨_,_,_,q⟩:=hs;exact cv q
 | cont =>
  obtain⟨_,_,_,q⟩:=hs;exact cv q
end L2
namespace L2
open PySem PySem.Spec PyProof.Rows
section
variable {X:Cx}{x:Str}{p pos:Pos}{e:Expr}{es:List Expr}{t:TA}{id T:String}{r:List V->Hp->VK->Prop}
def tCB (r:List V->Hp->VK->Prop)(t:TA):TE:=fun σ H Q=>t σ H λvs H1=>r vs H1 Q
theorem B5 (hc:M0 X (.builtin id) r)(hg:Gl X x)(hm:X.mg x=none)(hv:bootBuiltins x=some (.builtin id))(ha:PA X (e::es) t)(hn:x≠"__name__":=by decide)(hdb:(x == ("__debug__":Str))=false:=by decide)
  (he:starEach (e::es) X.env=(false,eval e X.env)::starEach es X.env:=by rfl) (hpl:(backTo pos (starEach es X.env)).any (·.1)=false:=by rfl):PE X (.Call (.Name x p) (e::es) [] pos) (tCB r t):=by
 intro pins s σ H Q I h;refine bM (P7 I hg hm hv ?_ hn hdb);exact dj (thn (ha pos pins s σ H _ I h) λus s1 ⟨vs,H1,I1,r1,q1⟩=>hc pins s1 σ H1 vs us Q I1 r1 q1) he hpl
theorem E2 (hc:M0 X (.type T) r)(hg:Gl X x)(hm:X.mg x=none)(hv:bootBuiltins x=some (.type T))(ha:PA X (e::es) t)(hn:x≠"__name__":=by decide)(hdb:(x == ("__debug__":Str))=false:=by decide)
  (he:starEach (e::es) X.env=(false,eval e X.env)::starEach es X.env:=by rfl) (hpl:(backTo pos (starEach es X.env)).any (·.1)=false:=by rfl):PE X (.Call (.Name x p) (e::es) [] pos) (tCB r t):=by
 intro pins s σ H Q I h;refine bM (P7 I hg hm hv ?_ hn hdb);exact bH (thn (ha pos pins s σ H _ I h) λus s1 ⟨vs,H1,I1,r1,q1⟩=>hc pins s1 σ H1 vs us Q I1 r1 q1) he hpl
end
end L2
namespace HT
open PySem PyProof.Rows
def lexLt:List Int->List Int->Bool
 | [],[]=>false
 | [],_::_=>true
 | _::_,[]=>false
 | x::xs,y::ys=>if x=y then lexLt xs ys else decide (x<y)
theorem lexLt_cons (x y:Int)(xs ys:List Int):lexLt (x::xs) (y::ys)=if x=y then lexLt xs ys else decide (x<y):=rfl
theorem lexLt_nil_nil:lexLt [] []=false:=rfl
theorem lexLt_nil_cons (y:Int)(ys:List Int):lexLt [] (y::ys)=true:=rfl
theorem lexLt_cons_nil (x:Int)(xs:List Int):lexLt (x::xs) []=false:=rfl
theorem eqAt_int (A:Around)(s:Shared)(a:Int)(t:Tok)(c:Int)(u:Tok):∃ e,iX A s (.int a t) (.int c u) e/\(e=true↔a=c) :=
 ⟨(a == c),h8 a t c u,by simp⟩
theorem rcLt_int (A:Around)(s:Shared)(a:Int)(t:Tok)(c:Int)(u:Tok)(prog:Program)(w:World)(E:Value->Shared->Prop)(Q:Value->Shared->Prop)(h:Q (.bool (decide (a<c))) s) :
  wpAny (model prog w) A (richCompare .Lt (.int a t) (.int c u)) Q E s :=
 (gL h:wpAny (model prog w) A (compareOp .Lt (.int a t) (.int c u)) Q E s)
section
open PySem.SeqAt
open PySem.AutoSeq1 (wpAny_loadPart')
open PySem.MeetsSeq PySem.MeetsSeq2 PySem.MeetsSeq3
theorem tuple_lt_ints (l b:Addr)(items items2:Array Value)(n n2:Nat)(dd dd2:Option Addr)(sl sl2:Array (Option Value))(ns ms:List Int)(hi:IntsAre items.toList ns)(hj:IntsAre items2.toList ms) :
  Meets (Builtin.«tuple.__lt__» ⟨[.ref l,.ref b],[]⟩)
   (λ_ R s=>s.heap.get? l=some {cls:=.type "tuple",dict:=dd,data:=.seq items n,slots:=sl}/\s.heap.get? b=some {cls:=.type "tuple",dict:=dd2,data:=.seq items2 n2,slots:=sl2} /\
    R (.ok (.ret (.bool (lexLt ns ms)))) s) :=
 .of_wp λprog w A R s h=>by
  obtain⟨hp,g,d,tk,os⟩:=s;obtain⟨hl,hb,h⟩:=h;have f2:=AutoSeq1.sub_tuple_tuple;have z1:items.size=ns.length:=by rw[<- hi.length];simp
  have z2:items2.size=ms.length:=by rw[<- hj.length];simp
  wp_walk using wpAny_loadPart' hl,wpAny_loadPart' hb,fK _ (λP8 b s'=>b.1=none/\s'=⟨hp,g,d,tk,os⟩/\∃(vs ws:List Value) (ns' ms':List Int),P8=vs.zip ws /\
   IntsAre vs ns'/\IntsAre ws ms'/\ns'.length+items2.size=ms'.length+items.size/\R (.ok (.ret (.bool (lexLt ns' ms')))) ⟨hp,g,d,tk,os⟩) _
  case turn =>
   rintro⟨y,x⟩ P8 b s' ⟨hb',rfl,vs,ws,ns',ms',hz,hvi,hwi,hlen,hR⟩;cases hvi with
   | nil=>rw[List.zip_nil_left] at hz;cases hz
   | cons a t hvi' =>
    cases hwi with
    | nil=>rw[List.zip_nil_right] at hz;cases hz
    | cons c u hwi' =>
     rw[dk] at hz;injection hz with hyx hrest
     injection hyx with hy hx
     subst hy hx;rw[lexLt_cons] at hR;simp only[az] at hlen;obtain⟨e,he,hiff⟩:=eqAt_int A.in1 ⟨hp,g,d,tk,os⟩ a t c u;refine af (he prog w _ _ ?_);cases e with
     | true =>
      rw[if_pos (hiff.mp rfl)] at hR
      wp_walk
      exact⟨rfl,rfl,_,_,_,_,hrest,hvi',hwi',∅,hR⟩
     | false =>
      rw[if_neg (λq=>absurd (hiff.mpr q) aR)] at hR;have hri:=rcLt_int A.in1 ⟨hp,g,d,tk,os⟩ a t c u prog w
      wp_walk using hri
      exact⟨_,rfl, ~~~hR⟩
  case fin =>
   rintro⟨b1,b2⟩ s' ⟨hb',rfl,vs,ws,ns',ms',hz,hvi,hwi,hlen,hR⟩;simp only at hb';subst hb';have hv:lexLt ns' ms'=decide (items.size<items2.size):=by
    cases hvi with
    | nil =>
     cases hwi with
     | nil =>
      simp only[b8] at hlen;rw[lexLt_nil_nil];exact (decide_eq_false ∅).symm
     | cons c u hw =>
      simp only[b8,az] at hlen;rw[lexLt_nil_cons];exact (decide_eq_true ∅).symm
    | cons a t hv =>
     cases hwi with
     | nil =>
      simp only[b8,az] at hlen;rw[lexLt_cons_nil];exact (decide_eq_false ∅).symm
     | cons c u hw =>
      rw[dk] at hz;cases hz
   rw[hv] at hR
   wp_walk
   exact⟨_,rfl,by simpa [Builtin.Tuple.tupleCompareSizes] using hR⟩
  case h =>
   exact⟨rfl,rfl,items.toList,items2.toList,ns,ms,rfl,hi,hj,∅,h⟩
end
section
variable {prog:Program}{w:World}{A:Around}{E:Value->Shared->Prop}{s:Shared}
theorem lt_tupInts {l b:Addr}{items items2:Array Value}{ns ms:List Int}{Q:Value->Shared->Prop}(hl:IsTup s.heap l items)(hb:IsTup s.heap b items2)(hi:IntsAre items.toList ns)(hj:IntsAre items2.toList ms)
  (hu:A.units<cLine) (h:Q (.bool (lexLt ns ms)) s):wpAny (model prog w) A (compareOp .Lt (.ref l) (.ref b)) Q E s:=by
 obtain⟨⟨cls,dd,data,sl⟩,ho,hc,n,hd⟩:=id hl;obtain⟨⟨cls2,dd2,data2,sl2⟩,ho2,hc2,n2,hd2⟩:=id hb;simp only at hc hd hc2 hd2;subst hc hd hc2 hd2;exact richCompare_meets_room (op:=.Lt) ⟨_,ho,rfl⟩ ⟨_,ho2,rfl⟩ PySem.F.slot_tuple_lt PySem.F.entry_tuple_lt (PySem.F.args_tuple_lt_2 _ _) (tuple_lt_ints l b items items2 n n2 dd dd2 sl sl2 ns ms hi hj)
  ⟨ho,ho2,show aZ (lexLt ns ms)≠Value.notImplemented/\Q (.bool (lexLt ns ms)) s from ⟨(λx=>nomatch x),h⟩⟩ hu
def sIx (n d:Nat):Option Int->Nat
 | none=>d
 | some v=>if v<0 then (v+(n:Int)).toNat else min v.toNat n
theorem sIx_none (n d:Nat):sIx n d none=d:=rfl
theorem sIx_nat (n d k:Nat):sIx n d (some (k:Int))=min k n:=by
 show (if (k:Int)<0 then ((k:Int)+(n:Int)).toNat else min (k:Int).toNat n)=min k n;rw[if_neg ∅,eS]
end
end HT
namespace L2
open PySem PySem.Spec PyProof.Rows
abbrev TO:=St->Hp->(Option Int->Hp->Prop)->Prop
def PO (X:Cx)(e:Option Expr)(t:TO):Prop :=
 ∀(pins:List (Addr×Obj)) (s:Shared) (σ:St) (H:Hp) (Q:Option Int->Hp->Prop),Inv X pins σ H s->t σ H Q ->
  wpAny (model X.prog X.w) X.A (evalPart e X.env) (λu s'=>∃ o H',Inv X pins σ H' s'/\IsPart u o/\Q o H') X.xe s
def a3N:TO:=λ_ H Q=>Q none H
def a7X (t:TE):TO:=fun σ H Q=>t σ H λx H1=>∃ i,x=.int i/\Q (some i) H1
theorem N5 {ns:List Int}:∀ {us:List Value},B3 (ns.map V.int) us->IntsAre us ns:=by
 induction ns with
 | nil=>intro us r;rw[cT] at r;cases r;exact .nil
 | cons n ns ih =>
  intro us r;rw[am] at r;cases r with
  | cons r1 r2 =>
   obtain⟨t,e⟩:=r1;subst e;exact .cons n t (ih r2)
section
variable {X:Cx}{e:Expr}{te:TE}{lo hi:Option Expr}{tl th:TO}{pos p2:Pos}
theorem F0:PO X none a3N:=by
 intro pins s σ H Q I h;rw[evalPart_none];exact ap ⟨none,H,I,.none,h⟩
theorem C8 (h:PE X e te):PO X (some e) (a7X te):=by
 intro pins s σ H Q I hw;rw[evalPart_some];refine thn (h pins s σ H _ I hw) λu s1 ⟨x,H1,I1,r1,q1⟩=>?_
 obtain⟨i,rfl,q⟩:=q1;obtain⟨t,rfl⟩:=r1;exact⟨some i,H1,I1,.int i t,q⟩
def SlR (X:Cx)(r:V->Option Int->Option Int->Hp->VK->Prop):Prop :=
 ∀(pins:List (Addr×Obj)) (s:Shared) (σ:St) (H:Hp) (x:V) (v vl vu:Value) (lo hi:Option Int) (sl:Addr) (Q:VK),Inv X pins σ H s->B6 x v->s.heap.IsSliceOf sl vl vu .none->IsPart vl lo->IsPart vu hi->r x lo hi H Q ->
  ∃ T id,typeLookup (.type T) "__getitem__"=pure (some (.builtin id))/\s.TypeIs v T/\wpAny (model X.prog X.w) X.A (getItem v (.ref sl)) (EP X pins σ Q) X.xe s
def tSl (r:V->Option Int->Option Int->Hp->VK->Prop)(te:TE)(tl th:TO):TE:=fun σ H Q=>te σ H λx H1=>tl σ H1 λl H2=>th σ H2 λu H3=>r x l u H3 Q
theorem C6 {r:V->Option Int->Option Int->Hp->VK->Prop}(hr:SlR X r)(he:PE X e te)(hl:PO X lo tl)(hu:PO X hi th):PE X (.Subscript e (.Slice lo hi none p2) pos) (tSl r te tl th):=by
 intro pins s σ H Q I h;refine Subscript_ (thn (he pins s σ H _ I h) λv s1 ⟨x,H1,I1,r1,q1⟩=>?_);refine wpAny_Slice (thn (hl pins s1 σ H1 _ I1 q1) λvl s2 ⟨l,H2,I2,pl,q2⟩=>thn (hu pins s2 σ H2 _ I2 q2) λvu s3 ⟨u,H3,I3,pu,q3⟩=>?_);rw[evalPart_none];refine ap ?_;have I4:Inv X pins σ H3 {s3 with heap:=s3.heap.push {cls:=.type "slice",data:=.fields #[vl,vu,.none]}}:=I3.kept (t':=s3.toks) λb ob q=>aj _ q
 obtain⟨T,id,hT,ht,hg⟩:=hr pins {s3 with heap:=s3.heap.push {cls:=.type "slice",data:=.fields #[vl,vu,.none]}} σ H3 x v vl vu l u s3.heap.objs.size Q I4 r1 (Heap.IsSliceOf.new ..) pl pu q3;show wpAny (model X.prog X.w) X.A (subscriptTail e (.Slice lo hi none p2) v (.ref s3.heap.objs.size)) (EP X pins σ Q) X.xe {s3 with heap:=s3.heap.push {cls:=.type "slice",data:=.fields #[vl,vu,.none]}};exact tail_any (ops:=[.ref s3.heap.objs.size,v]) ht hT hg (by with_unfolding_all rfl)
def S7 (xs:List V)(lo hi:Option Int):List V:=(xs.drop (HT.sIx xs.length 0 lo)).take (HT.sIx xs.length xs.length hi-HT.sIx xs.length 0 lo)
theorem a2O (xs:List V)(lo hi:Option Int):(S7 xs lo hi).length<=xs.length:=by
 unfold S7;rw[bq,fg];omega
def b0z (K:ae):R2:=λx y H Q=>∃ a b ns ms,x=.ref a/\y=.ref b/\SqT K H a (ns.map V.int)/\SqT K H b (ms.map V.int)/\Q (.bl (HT.lexLt ns ms)) H
theorem a9i (hu:X.A.units<cLine):OpR X (compareOp .Lt) (b0z X.K):=by
 intro pins s σ H x y v u Q I rx ry h;obtain⟨a,b,ns,ms,rfl,rfl,ha,hb,q⟩:=h;cases rx;cases ry;obtain⟨its,r1,p1,_⟩:=I.tuple ha;obtain⟨its2,r2,p2,_⟩:=I.tuple hb;have i1:IntsAre its.toArray.toList ns:=N5 r1;have i2:IntsAre its2.toArray.toList ms:=N5 r2;exact HT.lt_tupInts p1 p2 i1 i2 hu ⟨.bl (HT.lexLt ns ms),H,I,rfl,q⟩
end
end L2
namespace L2
open PySem PySem.Spec PyProof.Rows
def ixN (n:Nat)(i:Int):Option Nat:=if 0<=i then (if i<n then some i.toNat else none) else if -(n:Int)<=i then some (i+n).toNat else none
def atI {α:Type}(xs:List α)(i:Int):Option α:=(ixN xs.length i).bind λj=>xs[j]?
theorem a4k {n:Nat}{i:Int}{j:Nat}(h:ixN n i=some j):seqIndex? i n=some j/\j<n/\-(n:Int)<=i/\i<n:=by
 unfold ixN at h;by_cases h0:0<=i
 ·rw[if_pos h0] at h;by_cases h1:i<n
  ·rw[if_pos h1] at h;have e:i.toNat=j:=aG h;exact⟨by rw[seqIndex_of h0 h1,e],∅,∅,h1⟩
  ·rw[if_neg h1] at h;cases h
 ·rw[if_neg h0] at h;by_cases h1:-(n:Int)<=i
  ·rw[if_pos h1] at h;have e:(i+n).toNat=j:=aG h;exact⟨by rw[seqIndex_neg ∅ h1,e],∅,h1,∅⟩
  ·rw[if_neg h1] at h;cases h
theorem a1O {α:Type}{xs:List α}{i:Int}{v:α}(h:atI xs i=some v):∃ j,seqIndex? i xs.length=some j/\xs[j]?=some v/\j<xs.length/\-(xs.length:Int)<=i/\i<xs.length:=by
 unfold atI at h;cases e:ixN xs.length i with
 | none=>rw[e] at h;cases h
 | some j =>
  rw[e] at h;obtain⟨h1,h2,h3,h4⟩:=a4k e;exact⟨j,h1,h,h2,h3,h4⟩
theorem a1N {α:Type}{xs:List α}{j:Nat}{v:α}(h:xs[j]?=some v):atI xs (j:Int)=some v:=by
 have hj:j<xs.length:=(aK.mp h).1;have e:ixN xs.length (j:Int)=some j:=by
  unfold ixN;rw[if_pos ∅,if_pos ∅];simp
 unfold atI;rw[e];exact h
def a7T (b:Expr):Prop:=∀ o i,subscripted b false o i=operate [o,i] (getItem o i)
def IxR (X:Cx)(r:R2):Prop :=
 ∀(value slice:Expr) (pins:List (Addr×Obj)) (s:Shared) (σ:St) (H:Hp) (x y:V) (v u:Value) (Q:VK),Inv X pins σ H s->B6 x v->B6 y u->r x y H Q ->
  subscripted slice false v u=operate [v,u] (getItem v u)->wpAny (model X.prog X.w) X.A (subscriptTail value slice v u) (EP X pins σ Q) X.xe s
def MtR (X:Cx)(id:String)(r:V->List V->Hp->VK->Prop):Prop :=
 ∀(pins:List (Addr×Obj)) (s:Shared) (σ:St) (H:Hp) (x:V) (xs:List V) (v:Value) (us:List Value) (Q:VK),Inv X pins σ H s->B6 x v->B3 xs us->r x xs H Q ->
  wpAny (model X.prog X.w) X.A (call (.builtin id) (v::us)) (EP X pins σ Q) X.xe s
section
variable {X:Cx}{a b:Expr}{ta tb:TE}{pos:Pos}
theorem Q0 {r:R2}(hr:IxR X r)(ha:PE X a ta)(hb:PE X b tb)(hs:a7T b):PE X (.Subscript a b pos) (tOp r ta tb):=by
 intro pins s σ H Q I h;exact Subscript_ (a9S ha hb I h λv u s2 x y H2 I2 rx ry q=>hr a b pins s2 σ H2 x y v u Q I2 rx ry q (hs _ _))
def a7j (K:ae):R2:=λx y H Q=>∃ p xs i v,x=.ref p/\y=.int i/\SqL K H p xs/\atI xs i=some v/\Q v H
def a7i (K:ae):R2:=λx y H Q=>∃ p xs i v,x=.ref p/\y=.int i/\SqT K H p xs/\atI xs i=some v/\Q v H
def b0B:R2:=λx y H Q=>∃ z i c,x=.str z/\y=.int i/\z.length<=sizeLine/\atI z.cps.toList i=some c/\Q (.str ⟨#[c]⟩) H
theorem a7z:IxR X (a7j X.K):=by
 intro value slice pins s σ H x y v u Q I rx ry h hs;obtain⟨p,xs,i,z,rfl,rfl,hq,he,q⟩:=h;cases rx;obtain⟨t,rfl⟩:=ry;obtain⟨its,r,pl,hz⟩:=I.list hq;obtain⟨j,h1,h2,h3,h4,h5⟩:=a1O he;obtain⟨w,ew,rw'⟩:=r.get h2;have hl:=r.length;have hn:=U5;have fin:EP X pins σ Q w s:=⟨z,H,I,rw',q⟩
 by_cases h0:0<=i
 ·have hj:i.toNat=j:=by
   rw[seqIndex_of h0 h5] at h1;exact aG h1
  exact item_listR pl.isList h0 ∅ (by rw[hj];simpa using ew) fin hs
 ·have hj:(i+(its.toArray.size:Int)).toNat=j:=by
   rw[seqIndex_neg ∅ h4] at h1;rw[ay,<- hl];exact aG h1
  exact subscriptTail_builtinR (x:=w) pl.isList.typeIs jt.lookup
   (wpAny_getItem_list_neg (Q:=λr s'=>r=w/\EP X pins σ Q r s') pl.isList ∅ (by rw[ay]<;>omega) ∅ (by rw[hj];simpa using ew) ⟨rfl,fin⟩) hs
theorem a9r:IxR X (a7i X.K):=by
 intro value slice pins s σ H x y v u Q I rx ry h hs;obtain⟨p,xs,i,z,rfl,rfl,hq,he,q⟩:=h;cases rx;obtain⟨t,rfl⟩:=ry;obtain⟨its,r,pl,hz⟩:=I.tuple hq;obtain⟨j,h1,h2,h3,h4,h5⟩:=a1O he;obtain⟨w,ew,rw'⟩:=r.get h2;have hl:=r.length;have hn:=U5;have fin:EP X pins σ Q w s:=⟨z,H,I,rw',q⟩
 exact subscriptTail_builtinR (x:=w) pl.typeIs slot_tuple_getitem.lookup
  (getItem_tuple (j:=j) (Q:=λr s'=>r=w/\EP X pins σ Q r s') pl ∅ ∅ (by rw[ay,<- hl];exact h1) (~~~ew) ⟨rfl,fin⟩) hs
theorem a9s:IxR X b0B:=by
 intro value slice pins s σ H x y v u Q I rx ry h hs;obtain⟨z,i,c,rfl,rfl,hz,he,q⟩:=h;obtain⟨t,rfl⟩:=rx;obtain⟨t',rfl⟩:=ry;obtain⟨j,h1,h2,h3,h4,h5⟩:=a1O he;have hl:z.cps.toList.length=z.length:=by simp[Str.length]
 rw[hl] at h1 h4 h5;have hn:=U5
 exact tail_any (typeIs_str s z t) ju.lookup (getItem_str (c:=c) (by
  have e1:decide (i < -(2 ^ 63:Int))=false:=decide_eq_false ∅;have e2:decide (i>=2 ^ 63)=false:=decide_eq_false ∅
  rw[e1,e2,Bool.or_false]) (by rw[h1];simpa using h2) ⟨.str ⟨#[c]⟩,H,I.tok _,⟨_,rfl⟩,q⟩) hs
theorem a3q (its:List Value)(n j:Nat)(u:Value):Obj.mapSeq (·.setIfInBounds j u) {cls:=.type "list",data:=.seq its.toArray n}={cls:=.type "list",data:=.seq (its.set j u).toArray n}:=by
 simp[Obj.mapSeq]
theorem Inv.lst {pins:List (Addr×Obj)}{σ:St}{H:Hp}{s:Shared}{p:Addr}{xs:List V}(I:Inv X pins σ H s)(h:H p=some (.lst xs)) :
  ∃(its:List Value) (n:Nat),B3 xs its/\s.heap.get? p=some {cls:=.type "list",data:=.seq its.toArray n}/\xs.length<=sizeLine:=by
 obtain⟨z,its,n,r,e⟩:=I.hok p _ h;exact⟨its,n,r,e,z⟩
theorem Inv.lstUpd {pins:List (Addr×Obj)}{σ:St}{H:Hp}{s:Shared}{p:Addr}{xs ys:List V}{its its':List Value}{n n':Nat}{f:Obj->Obj}(I:Inv X pins σ H s)(h:H p=some (.lst xs))
  (ho:s.heap.get? p=some {cls:=.type "list",data:=.seq its.toArray n}) (hf:f {cls:=.type "list",data:=.seq its.toArray n}={cls:=.type "list",data:=.seq its'.toArray n'}) (r:B3 ys its') (hz:ys.length<=sizeLine) (t:Nat) :
  Inv X pins σ (upd H p (.lst ys)) {s with heap:=s.heap.update p f,toks:=t}:=by
 have e:(s.heap.update p f).get? p=some {cls:=.type "list",data:=.seq its'.toArray n'}:=by
  rw[cR f ho (by rw[hf]<;>rfl),hf]
 refine I.write (x:=p) (e:=p) (by rw[h];trivial) (.inl rfl) (λb u hb q=>(fj _ _ (fm hb)).trans q) ⟨_,e⟩ ?_;exact⟨hz,its',n',r,e⟩
def a8e:V->V->V->Hp->(Hp->Prop)->Prop:=λo i v H Q=>∃ p xs k j,o=.ref p/\i=.int k/\H p=some (.lst xs)/\ixN xs.length k=some j/\Q (upd H p (.lst (xs.set j v)))
theorem a5z:b0Z X a8e:=by
 intro pins s σ H o i v ov iv u Q I ro ri rv h;obtain⟨p,xs,k,j,rfl,rfl,hp,hj,q⟩:=h;cases ro;obtain⟨t,rfl⟩:=ri;obtain⟨its,n,r,ho,hz⟩:=I.lst hp;obtain⟨h1,h2,h3,h4⟩:=a4k hj;have hl:=r.length;have hn:=U5;have I':Inv X pins σ (upd H p (.lst (xs.set j v))) {s with heap:=s.heap.update p (Obj.mapSeq (·.setIfInBounds j u))} :=
  I.lstUpd hp ho (a3q its n j u) (r.set rv j) (by rw[List.length_set];exact hz) s.toks
 by_cases h0:0<=k
 ·have hk:k.toNat=j:=by
   rw[seqIndex_of h0 h4] at h1;exact aG h1
  exact PySem.W.ki_setAt ho h0 ∅ (by rw[ay,<- hl];exact h4) (by rw[hk];exact⟨_,I',q⟩)
 ·have hk:(k+(its.toArray.size:Int)).toNat=j:=by
   rw[seqIndex_neg ∅ h3] at h1;rw[ay,<- hl];exact aG h1
  exact PySem.W.ki_setBack ho ∅ (by rw[ay,<- hl];exact h3) ∅ (by rw[hk];exact⟨_,I',q⟩)
theorem V3 (lo hi:Option Int)(n:Nat):(sliceBounds lo hi none n).1=((HT.sIx n 0 lo:Nat):Int)/\(sliceBounds lo hi none n).2.1=((HT.sIx n n hi:Nat):Int)/\(sliceBounds lo hi none n).2.2=1:=by
 refine⟨?_,?_,rfl⟩
 ·cases lo with
  | none=>simp[sliceBounds,HT.sIx]
  | some i =>
   simp only[sliceBounds,HT.sIx,gj,show (1:Int)>0 by decide,if_true];by_cases h:i<0
   ·simp only[h,if_true]<;>omega
   ·simp only[h,if_false]<;>omega
 ·cases hi with
  | none=>simp[sliceBounds,HT.sIx]
  | some i =>
   simp only[sliceBounds,HT.sIx,gj,show (1:Int)>0 by decide,if_true];by_cases h:i<0
   ·simp only[h,if_true]<;>omega
   ·simp only[h,if_false]<;>omega
theorem a0I (its:List Value)(lo hi:Option Int):slicePick its.toArray lo hi none=((its.drop (HT.sIx its.length 0 lo)).take (HT.sIx its.length its.length hi-HT.sIx its.length 0 lo)).toArray:=by
 obtain⟨h1,h2,h3⟩:=V3 lo hi its.toArray.size;unfold slicePick;rw[h1,h2,h3];simp only[sliceRange_one,pick_run,ay]<;>rfl
def a7h (K:ae):V->Option Int->Option Int->Hp->VK->Prop:=λx lo hi H Q=>∃ a xs,x=.ref a/\SqL K H a xs/\∀ p,H p=none->Q (.ref p) (upd H p (.lst (S7 xs lo hi)))
theorem a7e:SlR X (a7h X.K):=by
 intro pins s σ H x v vl vu lo hi sl Q I rx hs pl pu h;obtain⟨a,xs,rfl,hx,q⟩:=h;cases rx;obtain⟨its,r,ht,hz⟩:=I.list hx;have hlen:=r.length;refine⟨"list",_,jt.lookup,ht.isList.typeIs,?_⟩;refine wpAny_getItem_list_slice ht.isList hs pl pu .none (by simp) ?_ (by rw[ay]<;>omega);rw[a0I,<- hlen];refine⟨.ref s.heap.objs.size,_,I.laid (t':=s.toks) (o:=.lst (S7 xs lo hi)) (λb ob q=>aj _ q) (ao _) ?_,rfl,q _ (I.hok.fresh (ao _))⟩;exact⟨aH (a2O xs lo hi) hz,_,0,(r.drop (HT.sIx xs.length 0 lo)).take (HT.sIx xs.length xs.length hi-HT.sIx xs.length 0 lo),aX _ rfl⟩
def W2:V->Bool
 | .non=>true
 | .bl _=>true
 | .int _=>true
 | .str _=>true
 | _=>false
def eqV:V->V->Bool
 | .non,.non=>true
 | .bl a,.bl b=>a == b
 | .bl a,.int b=>(if a then 1 else 0) == b
 | .int a,.bl b=>a == (if b then 1 else 0)
 | .int a,.int b=>a == b
 | .str a,.str b=>a == b
 | _,_=>false
theorem a9L {A:Around}{s:Shared}{y x:V}{u v:Value}(ry:B6 y u)(rx:B6 x v)(fy:W2 y=true)(fx:W2 x=true):iX A s u v (eqV y x):=by
 cases y with
 | non =>
  cases ry;cases x with
  | non=>cases rx;exact SeqAt.EqAt.same _
  | bl b=>cases rx;exact SeqAt.EqAt.none_bool b
  | int b=>obtain⟨t,rfl⟩:=rx;exact SeqAt.EqAt.none_int b t
  | str b=>obtain⟨t,rfl⟩:=rx;exact SeqAt.EqAt.none_str b t
  | _=>exact absurd (show false=true from fx) aR
 | bl a =>
  cases ry;cases x with
  | non=>cases rx;exact SeqAt.EqAt.bool_none a
  | bl b=>cases rx;exact SeqAt.EqAt.bool_bool a b
  | int b=>obtain⟨t,rfl⟩:=rx;exact SeqAt.EqAt.bool_int a b t
  | str b=>obtain⟨t,rfl⟩:=rx;exact SeqAt.EqAt.bool_str a b t
  | _=>exact absurd (show false=true from fx) aR
 | int a =>
  obtain⟨t',rfl⟩:=ry;cases x with
  | non=>cases rx;exact SeqAt.EqAt.int_none a t'
  | bl b=>cases rx;exact SeqAt.EqAt.int_bool a t' b
  | int b=>obtain⟨t,rfl⟩:=rx;exact h8 a t' b t
  | str b=>obtain⟨t,rfl⟩:=rx;exact hX a t' b t
  | _=>exact absurd (show false=true from fx) aR
 | str a =>
  obtain⟨t',rfl⟩:=ry;cases x with
  | non=>cases rx;exact SeqAt.EqAt.str_none a t'
  | bl b=>cases rx;exact SeqAt.EqAt.str_bool a t' b
  | int b=>obtain⟨t,rfl⟩:=rx;exact hU a t' b t
  | str b=>obtain⟨t,rfl⟩:=rx;exact SeqAt.EqAt.str_str a t' b t
  | _=>exact absurd (show false=true from fx) aR
 | _=>exact absurd (show false=true from fy) aR
def eqU (x:V)(u:Value):Bool:=match u with
 | .none=>eqV .non x
 | .bool b=>eqV (.bl b) x
 | .int i _=>eqV (.int i) x
 | .str z _=>eqV (.str z) x
 | _=>false
theorem a6F {x y:V}{u:Value}(r:B6 y u)(f:W2 y=true):eqU x u=eqV y x:=by
 cases y with
 | non=>cases r;rfl
 | bl b=>cases r;rfl
 | int i=>obtain⟨t,rfl⟩:=r;rfl
 | str z=>obtain⟨t,rfl⟩:=r;rfl
 | _=>exact absurd (show false=true from f) aR
theorem a1P {x:V}:∀ {xs:List V} {us:List Value},B3 xs us->xs.all W2=true->us.any (eqU x)=xs.any λy=>eqV y x
 | _,_,.nil,_=>rfl
 | y::xs,u::us,.cons r t,f=>by
  rw[List.all_cons,bB] at f;rw[dN,dN,a6F r f.1,a1P t f.2]
theorem a0u {A:Around}{s:Shared}{x:V}{v:Value}(rx:B6 x v)(fx:W2 x=true):∀ {xs:List V} {us:List Value},B3 xs us->xs.all W2=true->∀ u∈us,iX A s u v (eqU x u)
 | _,_,.nil,_=>λu hu=>by cases hu
 | y::xs,u::us,.cons r t,f=>λu' hu=>by
  rw[List.all_cons,bB] at f;rcases aO.mp hu with rfl | hu
  ·rw[a6F r f.1];exact a9L r rx f.1 fx
  ·exact a0u rx fx t f.2 u' hu
def inV (x:V)(xs:List V):Bool:=xs.any λy=>eqV y x
def rIn (K:ae)(neg:Bool):R2:=λx y H Q=>∃ p xs,y=.ref p/\(SqL K H p xs\/SqT K H p xs)/\W2 x=true/\xs.all W2=true/\Q (.bl (if neg then !inV x xs else inV x xs)) H
theorem a4C:OpR X (compareOp .In) (rIn X.K false):=by
 intro pins s σ H x y v u Q I rx ry h;obtain⟨p,xs,rfl,hq,fx,fs,q⟩:=h;cases ry;rcases hq with hq | hq
 ·obtain⟨its,r,pl,hz⟩:=I.list hq;refine SeqAt.in_listAt (eqU x) pl.isList (λw hw=>a0u rx fx r fs w (~~~hw)) ⟨.bl _,H,I,rfl,?_⟩;rw[show its.toArray.any (eqU x)=its.any (eqU x) by simp,a1P r fs];exact q
 ·obtain⟨its,r,pl,hz⟩:=I.tuple hq;refine SeqAt.in_tupleAt (eqU x) pl (λw hw=>a0u rx fx r fs w (~~~hw)) ⟨.bl _,H,I,rfl,?_⟩;rw[show its.toArray.any (eqU x)=its.any (eqU x) by simp,a1P r fs];exact q
theorem a1M:M0 X (.builtin "len") (λxs H Q=>∃ p ys,xs=[.ref p]/\(SqL X.K H p ys\/SqT X.K H p ys)/\Q (.int ys.length) H):=by
 intro pins s σ H xs us Q I r h;obtain⟨p,ys,rfl,hq,q⟩:=h;obtain⟨u,rfl,rx⟩:=S0 r;cases rx;have hn:=U5;rcases hq with hq | hq
 ·obtain⟨its,r',pl,hz⟩:=I.list hq;have hlen:=r'.length;exact iG pl.isList (by simp only[ay]<;>omega) ⟨.int ys.length,H,I.tok _,⟨s.toks+1,by rw[ay,hlen]⟩,q⟩
 ·obtain⟨its,r',pl,hz⟩:=I.tuple hq;have hlen:=r'.length;exact len_tuple pl (by simp only[ay]<;>omega) ⟨.int ys.length,H,I.tok _,⟨s.toks+1,by rw[ay,hlen]⟩,q⟩
theorem a1L:M0 X (.type "list") (λxs H Q=>∃ p ys,xs=[.ref p]/\(SqL X.K H p ys\/SqT X.K H p ys)/\∀ l,H l=none->Q (.ref l) (upd H l (.lst ys))):=by
 intro pins s σ H xs us Q I r h;obtain⟨p,ys,rfl,hq,q⟩:=h;obtain⟨u,rfl,rx⟩:=S0 r;cases rx;have fin:∀(its:List Value),B3 ys its->ys.length<=sizeLine->∀(h':Heap) (c':Nat),(∀ b o',s.heap.get? b=some o'->h'.get? b=some o') ->
   h'.get? s.heap.objs.size=some {cls:=.type "list",dict:=none,data:=.seq its.toArray c',slots:=#[]}->EP X pins σ Q (.ref s.heap.objs.size) {s with heap:=h'}:=λits r' hz h' c' kp e =>
  ⟨.ref s.heap.objs.size,_,I.laid (t':=s.toks) kp (ao _) (show J0 X.prog X.w _ h' _ (.lst ys) from ⟨hz,its,c',r',e⟩),rfl,q _ (I.hok.fresh (ao _))⟩
 rcases hq with hq | hq
 ·obtain⟨its,r',pl,hz⟩:=I.list hq;have hlen:=r'.length;obtain⟨o,ho,hc,n,hd⟩:=pl.isList;exact call_list_seq p (.inl rfl) ho hc hd (λh' c' kp e=>fin its r' hz h' c' kp e) (by simp only[ay]<;>omega)
 ·obtain⟨its,r',pl,hz⟩:=I.tuple hq;have hlen:=r'.length;obtain⟨o,ho,hc,n,hd⟩:=pl;exact call_list_seq p (.inr rfl) ho hc hd (λh' c' kp e=>fin its r' hz h' c' kp e) (by simp only[ay]<;>omega)
theorem a0M:M0 X (.type "tuple") (λxs H Q=>∃ p ys,xs=[.ref p]/\((SqL X.K H p ys/\∀ l,H l=none->Q (.ref l) (upd H l (.tup ys)))\/(SqT X.K H p ys/\Q (.ref p) H))):=by
 intro pins s σ H xs us Q I r h;obtain⟨p,ys,rfl,h⟩:=h;obtain⟨u,rfl,rx⟩:=S0 r;cases rx;rcases h with ⟨hq,q⟩ | ⟨hq,q⟩
 ·obtain⟨its,r',pl,hz⟩:=I.list hq;have hlen:=r'.length;refine call_tuple_list pl.isList (λh' kp=>?_) (by simp only[ay]<;>omega);have I1:Inv X pins σ H {s with heap:=h'}:=I.kept (t':=s.toks) kp;have I2:Inv X pins σ (upd H h'.objs.size (.tup ys)) {s with heap:=h'.push {cls:=.type "tuple",data:=.seq its.toArray}} :=
   I1.laid (t':=s.toks) (λb o e=>aj _ e) (ao _) (show J0 X.prog X.w _ _ _ (.tup ys) from ⟨hz,its,r',IsTup.new _ _⟩)
  exact⟨.ref h'.objs.size,_,I2,rfl,q _ (I1.hok.fresh (ao _))⟩
 ·obtain⟨its,r',pl,hz⟩:=I.tuple hq;exact call_tuple_same pl ⟨.ref p,H,I,rfl,q⟩
def tyV (K:ae)(T:String)(x:V)(H:Hp):Prop:=match x with
 | .str _=>T="str"
 | .int _=>T="int"
 | .ref p=>(T="list"/\∃ xs,SqL K H p xs)\/(T="tuple"/\∃ o,K.lookup p=some o/\o.cls=.type "tuple"/\o.dict=none) \/
   (T="dict"/\((∃ kvs,H p=some (.dK kvs))\/∃ kvs,H p=some (.dT kvs)))\/(T="set"/\∃ S n,H p=some (.set S n))
 | _=>False
theorem a5g {pins:List (Addr×Obj)}{σ:St}{H:Hp}{s:Shared}{T:String}{x:V}{v:Value}(I:Inv X pins σ H s)(r:B6 x v)(ty:tyV X.K T x H) :
  s.TypeIs v T/\∀ a,v=.ref a->∃ ob,s.heap.get? a=some ob/\ob.dict=none:=by
 cases x with
 | str z =>
  obtain⟨t,rfl⟩:=r;cases (show T="str" from ty);exact⟨typeIs_str s z t,λ_ e=>nomatch e⟩
 | int i =>
  obtain⟨t,rfl⟩:=r;cases (show T="int" from ty);exact⟨typeIs_int s i t,λ_ e=>nomatch e⟩
 | ref p =>
  cases r;rcases ty with ⟨rfl,xs,hq⟩ | ⟨rfl,o,hk,hc,hd⟩ | ⟨rfl,hk⟩ | ⟨rfl,S,n,hk⟩
  ·obtain⟨its,_,pl,_⟩:=I.list hq;refine⟨pl.isList.typeIs,λa e=>?_⟩;cases e;obtain⟨o,n,e,c,hd,_⟩:=pl;exact⟨o,e,hd⟩
  ·refine⟨⟨o,I.kIn p o hk,hc⟩,λa e=>?_⟩;cases e;exact⟨o,I.kIn _ o hk,hd⟩
  ·have z:∃ o,s.heap.get? p=some o/\o.ExactDict:=by
    rcases hk with ⟨kvs,hk⟩ | ⟨kvs,hk⟩
    ·obtain⟨_,_,_,_,o,_,_,e,ex,_⟩:=I.hok p _ hk;exact⟨o,e,ex⟩
    ·obtain⟨_,_,_,_,o,_,_,e,ex,_⟩:=I.hok p _ hk;exact⟨o,e,ex⟩
   obtain⟨o,e,ex⟩:=z;refine⟨⟨o,e,ex.1⟩,λa e2=>?_⟩;cases e2;exact⟨o,e,ex.2.1⟩
  ·obtain⟨o,_,_,_,e,ex,_⟩:=I.hok p _ hk;refine⟨⟨o,e,ex.1⟩,λa e2=>?_⟩;cases e2;exact⟨o,e,ex.2.1⟩
 | _=>exact cv ty
def a8Q (K:ae)(T:String)(r:V->List V->Hp->VK->Prop)(to:TE):TE:=fun σ H Q=>to σ H λx H1=>tyV K T x H1/\r x [] H1 Q
def tBM (K:ae)(T:String)(r:V->List V->Hp->VK->Prop)(to:TE)(t:TA):TE:=fun σ H Q=>to σ H λx H1=>tyV K T x H1/\t σ H1 λxs H2=>r x xs H2 Q
variable {o e:Expr}{es:List Expr}{to:TE}{t:TA}{name:Str}{apos cpos:Pos}{T id:String}{r:V->List V->Hp->VK->Prop}
theorem a9e (pa:PlainAttrs T)(slot:Slot T name id)(hty:typeOf (.builtin id)=pure (.type "method_descriptor"))(hm:MtR X id r)(ho:PE X o to)
  (hbase:attributeBase o name X.env (eval o X.env)=eval o X.env:=by rfl) (hline:(apos.endLine == cpos.line)=true:=by rfl):PE X (.Call (.Attribute o name apos) [] [] cpos) (a8Q X.K T r to):=by
 intro pins s σ H Q I h;refine wpAny_Call_method0_late hbase hline (thn (ho pins s σ H _ I h) λv s1 ⟨x,H1,I1,r1,ty,q1⟩=>?_);obtain⟨h1,h2⟩:=a5g I1 r1 ty;exact⟨T,id,pa,slot,hty,h1,h2,fe rfl (PySem.evalArgs_none (hm pins s1 σ H1 x [] v [] Q I1 r1 .nil q1))⟩
theorem a4c (pa:PlainAttrs T)(slot:Slot T name id)(hty:typeOf (.builtin id)=pure (.type "method_descriptor"))(hm:MtR X id r)(ho:PE X o to)(ha:PA X (e::es) t)
  (hbase:attributeBase o name X.env (eval o X.env)=eval o X.env:=by rfl)
  (hfew:((backTo cpos (starEach (e::es) X.env)).all (λx=>!x.1) && (backToKw cpos (keywordEach [] X.env)).all (λx=>x.1.isSome)
   && decide ((e::es).length+([]:List Keyword).length+(if ([]:List Keyword).isEmpty then 0 else 1)<30))=true:=by rfl)
  (hline:(apos.endLine == cpos.line)=true:=by rfl) (hs:starEach (e::es) X.env=(false,eval e X.env)::starEach es X.env:=by rfl) (hplain:(backTo cpos (starEach es X.env)).any (·.1)=false:=by rfl) :
  PE X (.Call (.Attribute o name apos) (e::es) [] cpos) (tBM X.K T r to t):=by
 intro pins s σ H Q I h;refine wpAny_Call_method_late hbase hfew hline rfl (thn (ho pins s σ H _ I h) λv s1 ⟨x,H1,I1,r1,ty,q1⟩=>?_);obtain⟨h1,h2⟩:=a5g I1 r1 ty;refine⟨T,id,pa,slot,hty,h1,h2,?_⟩;have hA:=ha cpos pins s1 σ H1 _ I1 q1;rw[hs] at hA ⊢;refine fe (by show (false || (backTo cpos (starEach es X.env)).any (·.1))=false;rw[hplain]<;>rfl) (iu ?_);exact thn hA λus s2 ⟨vs,H2,I2,r2,q2⟩=>hm pins s2 σ H2 x vs v us Q I2 r1 r2 q2
/- xs.append(e),list.index on a module's tuple .. are MtR facts of 06m -/
end
end L2
namespace L2
open PySem PySem.Spec PyProof.Rows
def MtM (X:Cx)(id:String)(r:V->List V->Hp->VK->Prop):Prop :=
 ∀(pins:List (Addr×Obj)) (s:Shared) (σ:St) (H:Hp) (x:V) (xs:List V) (v:Value) (us:List Value) (Q:VK),Inv X pins σ H s->B6 x v->B3 xs us->r x xs H Q ->
  wpAny (model X.prog X.w) X.A (call (.builtin id) (v::us)) (EP X pins σ Q) X.xe s
theorem B3.one:∀ {x:V} {us:List Value},B3 [x] us->∃ u,us=[u]/\B6 x u
 | _,_,.cons r .nil=>⟨_,rfl,r⟩
theorem B3.zero:∀ {us:List Value},B3 [] us->us=[]
 | _,.nil=>rfl
theorem B3.dropLast {xs:List V}{us:List Value}(h:B3 xs us):B3 xs.dropLast us.dropLast:=by
 induction h with
 | nil=>exact .nil
 | cons r t ih =>
  cases t with
  | nil=>exact .nil
  | cons q t'=>exact .cons r ih
theorem B3.eraseIdx:∀ {xs:List V} {us:List Value} (i:Nat),B3 xs us->B3 (xs.eraseIdx i) (us.eraseIdx i)
 | _,_,_,.nil=>.nil
 | _,_,0,.cons _ t=>t
 | _,_,i+1,.cons r t=>.cons r (B3.eraseIdx i t)
theorem B3.reverse {xs:List V}{us:List Value}(h:B3 xs us):B3 xs.reverse us.reverse:=by
 induction h with
 | nil=>exact .nil
 | cons r t ih=>rw[dv,dv];exact B3.append ih (.cons r .nil)
theorem B3.rep {xs:List V}{us:List Value}(h:B3 xs us):∀ k:Nat,B3 (List.replicate k xs).flatten (List.replicate k us).flatten
 | 0=>.nil
 | k+1=>by
  rw[cy,cy,dw,dw];exact B3.append h (B3.rep h k)
theorem a3A {α:Type}(l:List α):l.eraseIdx (l.length-1)=l.dropLast:=by
 induction l with
 | nil=>rfl
 | cons a r ih =>
  cases r with
  | nil=>rfl
  | cons b r =>
   have e:(a::b::r).length-1=((b::r).length-1)+1:=by
    have h1:(a::b::r).length=r.length+2:=rfl;have h2:(b::r).length=r.length+1:=rfl;omega
   rw[e,List.eraseIdx_cons_succ,ih];all_goals rfl
theorem a1f (its:List Value):∀(k:Nat) (acc:List Value),
  gl (λx1 x2=>x1++x2) acc.toArray (List.replicate k its.toArray)=(acc++(List.replicate k its).flatten).toArray
 | 0,acc=>by simp
 | k+1,acc=>by
  have e:acc.toArray++its.toArray=(acc++its).toArray:=by simp
  have e2:(acc++its)++(List.replicate k its).flatten=acc++(List.replicate (k+1) its).flatten:=by
   rw[cy,dw,bd]
  rw[<- e2,<- a1f its k (acc++its),<- e,cy,dq]
section
variable {X:Cx}{pins:List (Addr×Obj)}{σ:St}{H:Hp}{s:Shared}{l b:Addr}{xs ys zs:List V}
theorem Inv.lset {its its':List Value}{n:Nat}{f:Array Value->Array Value}{t':Nat}(I:Inv X pins σ H s)(hH:H l=some (.lst xs))
  (e:s.heap.get? l=some {cls:=.type "list",data:=.seq its.toArray n}) (hf:f its.toArray=its'.toArray) (hv:B3 ys its') (hz:ys.length<=sizeLine) :
  Inv X pins σ (upd H l (.lst ys)) {s with heap:=s.heap.update l (Obj.mapSeq f),toks:=t'}:=by
 have q:=PySem.IsL.update e f;rw[hf] at q;refine I.write (x:=l) (e:=l) (by rw[hH];exact trivial) (.inl rfl) (λb' u hb hu=>(fj s.heap (Obj.mapSeq f) (fm hb)).trans hu) ⟨_,q⟩ ?_;exact⟨hz,its',_,hv,q⟩
theorem Inv.lnew {its:List Value}{t':Nat}(I:Inv X pins σ H s)(hv:B3 ys its)(hz:ys.length<=sizeLine) :
  Inv X pins σ (upd H s.heap.objs.size (.lst ys)) {s with heap:=s.heap.push {cls:=.type "list",data:=.seq its.toArray},toks:=t'} :=
 I.laid (λ_ _ q=>aj _ q) (ao _) ⟨hz,its,0,hv,aX _ rfl⟩
theorem Inv.fresh (I:Inv X pins σ H s):H s.heap.objs.size=none:=I.hok.fresh (ao _)
theorem Inv.lstM (I:Inv X pins σ H s)(hH:H l=some (.lst xs)):xs.length<=sizeLine/\∃(its:List Value) (n:Nat),B3 xs its/\xs.length=its.length/\s.heap.get? l=some {cls:=.type "list",data:=.seq its.toArray n}:=by
 obtain⟨z,its,n,r,e⟩:=I.hok l _ hH;exact⟨z,its,n,r,r.length,e⟩
theorem a2C {n:Nat}(h:n<=sizeLine):Builtin.List.listTooLong n=false:=by
 unfold Builtin.List.listTooLong;exact decide_eq_false ∅
end
section
variable {X:Cx}
def a1t:V->List V->Hp->VK->Prop:=λx vs H Q=>∃ l xs y,x=.ref l/\vs=[y]/\H l=some (.lst xs)/\xs.length<sizeLine/\Q .non (upd H l (.lst (xs++[y])))
theorem a0X:MtM X "list.append" a1t:=by
 intro pins s σ H x vs v us Q I rx rv h;obtain⟨l,xs,y,rfl,rfl,hH,hz,q⟩:=h;cases rx;obtain⟨u,rfl,ru⟩:=rv.one;obtain⟨z,its,n,r,hl,e⟩:=I.lstM hH;refine d9 F.slot_list_append ⟨_,e,rfl⟩ F.entry_list_append (F.args_list_append_2 _ _) (PySem.list_append l its.toArray n u (by rw[ay];omega)) ⟨e,?_⟩;refine⟨.non,_,I.lset (its':=its++[u]) hH e (by simp) (r.append (.cons ru .nil)) ?_,rfl,q⟩;rw[aB,List.length_singleton];omega
def a1s:V->List V->Hp->VK->Prop:=λx vs H Q=>∃ l b xs zs,x=.ref l/\vs=[.ref b]/\H l=some (.lst xs)/\H b=some (.lst zs)/\xs.length+zs.length<=sizeLine/\Q .non (upd H l (.lst (xs++zs)))
theorem a4G:MtM X "list.extend" a1s:=by
 intro pins s σ H x vs v us Q I rx rv h;obtain⟨l,b,xs,zs,rfl,rfl,hH,hB,hz,q⟩:=h;cases rx;obtain⟨u,rfl,ru⟩:=rv.one;cases ru;obtain⟨z,its,n,r,hl,e⟩:=I.lstM hH;obtain⟨z2,its2,n2,r2,hl2,e2⟩:=I.lstM hB;have hsz:its.toArray.size+its2.toArray.size<=sizeLine:=by rw[ay,ay];omega
 have hlong:¬ (!its.toArray.isEmpty && Builtin.List.listTooLong (its.toArray.size+its2.toArray.size))=true:=by
  rw[a2C hsz,Bool.and_false];exact aR
 refine d9 F.slot_list_extend ⟨_,e,rfl⟩ F.entry_list_extend (F.args_list_extend_2 _ _)
  (AutoSeq1.list_extend_list_list_0 l its.toArray n b its2.toArray n2 hlong (by rw[ay];omega) ∅) ⟨e,e2,?_⟩
 refine⟨.non,_,I.lset (its':=its++its2) hH e (by simp) (r.append r2) ?_,rfl,q⟩;rw[aB];omega
def a8W:V->List V->Hp->VK->Prop:=λx vs H Q=>∃ l xs y,x=.ref l/\vs=[]/\H l=some (.lst xs)/\xs[xs.length-1]?=some y/\Q y (upd H l (.lst xs.dropLast))
theorem a9l:MtM X "list.pop" a8W:=by
 intro pins s σ H x vs v us Q I rx rv h;obtain⟨l,xs,y,rfl,rfl,hH,hy,q⟩:=h;cases rx;have hus:=rv.zero;subst hus;obtain⟨z,its,n,r,hl,e⟩:=I.lstM hH;obtain⟨u,hu,ru⟩:=r.get hy;have hy':its.toArray[its.toArray.size-1]?=some u:=by
  show its.toArray[its.length-1]?=some u;rw[<- aW,<- hl];exact hu
 refine d9 F.slot_list_pop ⟨_,e,rfl⟩ F.entry_list_pop (F.args_list_pop_1 _) (MeetsSeq.list_pop_last l its.toArray n u hy' (by rw[ay];omega)) ⟨e,?_⟩;refine⟨y,_,I.lset (its':=its.dropLast) hH e ?_ r.dropLast ?_,ru,q⟩
 ·show its.toArray.eraseIdxIfInBounds (its.toArray.size-1)=its.dropLast.toArray;rw[ay,List.eraseIdxIfInBounds_toArray,a3A]
 ·rw[iM];omega
def a8X:R2:=λx y H Q=>∃ l b xs zs,x=.ref l/\y=.ref b/\H l=some (.lst xs)/\H b=some (.lst zs)/\xs.length+zs.length<=sizeLine/\∀ p,H p=none->Q (.ref p) (upd H p (.lst (xs++zs)))
theorem K6:OpR X (binaryOp .Add) a8X:=by
 intro pins s σ H x y v u Q I rx ry h;obtain⟨l,b,xs,zs,rfl,rfl,hH,hB,hz,q⟩:=h;cases rx;cases ry;obtain⟨z,its,n,r,hl,e⟩:=I.lstM hH;obtain⟨z2,its2,n2,r2,hl2,e2⟩:=I.lstM hB;refine PySem.P.add_list e e2 ?_ (by rw[ay,ay];omega);have ea:its.toArray++its2.toArray=(its++its2).toArray:=by simp
 rw[ea];exact⟨.ref _,_,I.lnew (t':=s.toks) (r.append r2) (by rw[aB];omega),rfl,q _ I.fresh⟩
def b1w:R2:=λx y H Q=>∃ l k xs,x=.ref l/\y=.int k/\H l=some (.lst xs)/\-(2 ^ 63)<=k/\k<2 ^ 63/\xs.length*k.toNat<=sizeLine /\
 ∀ p,H p=none->Q (.ref p) (upd H p (.lst (List.replicate k.toNat xs).flatten))
theorem a7y {α:Type}(xs:List α)(k:Nat):(List.replicate k xs).flatten.length=k*xs.length:=by
 induction k with
 | zero=>simp
 | succ k ih=>rw[cy,dw,aB,ih,iI,Nat.add_comm]
theorem a9f:OpR X (binaryOp .Mult) b1w:=by
 intro pins s σ H x y v u Q I rx ry h;obtain⟨l,k,xs,rfl,rfl,hH,h1,h2,hz,q⟩:=h;cases rx;obtain⟨t,rfl⟩:=ry;obtain⟨z,its,n,r,hl,e⟩:=I.lstM hH;have hlen:its.toArray.size*k.toNat<=sizeLine:=by rw[ay,<- hl];exact hz
 have hcap:¬ its.toArray.size*k.toNat>(2 ^ 63-1) / 8:=by
  have:(sizeLine:Nat)<=(2 ^ 63-1) / 8:=by decide
  omega
 have hfit:¬ (!Builtin.List.listFitsIndex k)=true:=by
  rw[fitsIndex_both h1 h2];exact aR
 have hlong:¬ Builtin.List.listTooLong (its.toArray.size*k.toNat)=true:=by
  rw[a2C hlen];exact aR
 have hnew:gl (λx1 x2=>x1++x2) #[] (List.replicate (if its.toArray.isEmpty=true then 0 else k.toNat) its.toArray)=(List.replicate k.toNat its).flatten.toArray:=by
  have f0:∀ m:Nat,gl (λx1 x2=>x1++x2) #[] (List.replicate m its.toArray)=(List.replicate m its).flatten.toArray:=λm=>by
   have:=a1f its m [];rw[cS] at this;exact this
  rw[f0];cases its with
  | nil=>simp
  | cons a r'=>rw[if_neg (by simp)]
 refine wpAny_binaryOp_repeat_ref (T:="list") (U:="int") (by decide) ⟨_,e,rfl⟩ (λs'=>typeIs_int s' k t) noFill_list_mul F.fills_int_mul F.slot_int_rmul repeat_list F.slot_int_index.lookup
  (d9 F.slot_int_rmul (typeIs_int s k t) F.entry_int_rmul (F.args_int_rmul_2 _ _) (int___rmul___int_list k t l its.toArray n)
   ⟨e,rfl,⟨_,e,rfl⟩,d9 F.slot_list_mul ⟨_,e,rfl⟩ F.entry_list_mul (F.args_list_mul_2 _ _) (AutoListH.list___mul___list_int_3 l its.toArray n k t hfit hcap hlong) ⟨e,?_⟩⟩)
 rw[hnew];exact⟨.ref _,_,I.lnew (t':=s.toks) (r.rep k.toNat) (by rw[a7y,iK];exact hz),rfl,q _ I.fresh⟩
end
end L2
namespace Att
open PySem PySem.W PySem.Calls PyProof.Rows
theorem ints_of_wellAll {P:Params}{h:Heap}:∀(ns:List Int) (vs:List Value),WellAll P h vs (ns.map WData.int)->IntsAre vs ns:=by
 intro ns;induction ns with
 | nil =>
  intro vs w;rw[cT] at w;cases w;exact .nil
 | cons n ns ih =>
  intro vs w;rw[am] at w;cases w with
  | cons a b =>
   cases a;exact .cons _ _ (ih _ b)
theorem script_of {l:OpenLaw}{n:Nat}(hn:l.most=some n){P:Params}{h:Heap}{args:List WData}{vals:List Value}
  (hpre:l.row.toRowW.claim.pre args=true) (hwl:WellAll P h vals args) :
  ∃ a vs ns,vals=[bp a]/\args=[WData.list (ns.map WData.int)]/\h.get? a=some {cls:=.type "list",data:=.seq vs.toArray}/\IntsAre vs ns/\ns.length<=n:=by
 have hsh:WShape.hasAll [] args [.list .int]=true:=(pre_splitW hpre).1;have hc:l.pre.holds [] {args:=args}=true:=(pre_splitW hpre).2;obtain⟨d,r,rfl,h1,h2⟩:=hasAllW_cons hsh;obtain rfl:=hasAllW_nil h2;obtain⟨xs,rfl,h3⟩:=hasW_list h1;obtain⟨ns,rfl⟩:=items_int h3;have hlen:ns.length<=n:=by
  unfold OpenLaw.pre at hc;have h4:(WTm.not (.lt (.lit (.int (n:Int))) (.len (.arg 0)))).holds [] {args:=[.list (ns.map .int)]}=true:=by
   have h4:=(holds_andW hc).1;rw[hn] at h4;exact h4
  have h5:=condW_of h4 (w_not (w_lt w_lit (w_len_list (w_arg rfl))));rw[aa] at h5;refine Nat.le_of_not_lt λq=>?_
  have q':(n:Int)<((ns.length:Nat):Int):=∅
  first
   | (rw[decide_eq_true q'] at h5;exact absurd h5 (by decide))
   | (simp at h5;omega)
 cases hwl with
 | cons w1 w2 =>
  cases w2;cases w1 with
  | list ho hall=>exact⟨_,_,ns,rfl,rfl,ho,ints_of_wellAll ns _ hall,hlen⟩
theorem post_true (l:OpenLaw)(args:List WData):l.row.toRowW.claim.post args (.bool true) args=true :=
 postW_of (r:=l.row.toRowW) (X:=(true == true))
  (show WShape.has [] (.bool true) .bool=true by first | rfl | decide | simp[WShape.has,WShape.arms,WShape.armsAll])
  (show (WTm.eq .res (.lit (.bool true))).value [] {args:=args,res:=some (.bool true),after:=args}=some (.bool (true == true)) from w_eq_bool (w_res rfl) w_lit) rfl
theorem attach_call {l:OpenLaw}{n:Nat}{q:Program}{loose:List Str}{XP:(Str->Option Value)->Heap->Prop}{YP:World->Heap->Prop}{d:DefRec}
  (hn:l.most=some n) (hdf:d.params.defaults=[])
  (call:∀(w:World) (sw sj:Shared) (mg mb:Str->Option Value) (fa:Addr) (o:Obj) (pm cd doc:Value) (a:Addr) (vs:List Value) (ns:List Int),
   Ground q loose [] XP w sw mg mb sj.heap->YP w sj.heap ->
   sj.heap.get? fa=some o->o.data=.func (docDef d.name d.params d.body d.scope pm cd doc)->sj.heap.CodeRec cd d.name->mg d.name=some (.ref fa) ->
   sj.heap.get? a=some {cls:=.type "list",data:=.seq vs.toArray}->IntsAre vs ns->ns.length<=n->sj.gens=#[] ->
   codeAny (model l.prog w) callerA (.call (.ref fa) ⟨[.ref a],[]⟩) (λr s'=>r=.ok (.ret (.bool true))/\OldK sj.heap s'.heap/\s'.os=sj.os/\AllBare s'.gens) sj) :
  WalkO q loose XP YP l.row.toRowW d [] (λf vs=>iW f vs):=by
 intro w sw sj mg mb G Y fa o pm cd doc dV kV ho hd hcd hD hmg hg args vals as hpre hlay hrd hwl hlo;obtain rfl:dV=.none:=Dflts.none hD hdf;obtain rfl:kV=.none:=Dflts.noKw hD;obtain⟨a,vs,ns,rfl,rfl,hobj,hints,hlen⟩:=script_of hn hpre hwl;refine enter_call (codeAny_mono (call w sw sj mg mb fa o pm cd doc a vs ns G Y ho (fd_plain hd) hcd hmg hobj hints hlen hg) λr s' hq=>?_);obtain⟨rfl,h2,h3,h4⟩:=hq;exact⟨.inl ⟨.bool true,.bool true,[],rfl,λ_=>rfl,.bool true,post_true l _,λ_=>⟨List.Pairwise.nil,λ_ hm=>(nomatch hm)⟩⟩,h2,h3,h4⟩
end Att
namespace L2
open PySem PySem.Spec PyProof.Rows
theorem W4:∀ {vs:List Value} {ns:List Int},IntsAre vs ns->B3 (ns.map V.int) vs
 | _,_,.nil=>.nil
 | _,_,.cons n t h=>.cons ⟨t,rfl⟩ (W4 h)
def a9U (H:Hp):Prop:=∀ b,H b=none\/∃ o xs,H b=some (.frz o (.lst xs))
theorem a6l {P:Program}{w:World}{K:ae}{mg mb:Str->Option Value}{CX:CXT}{k:Nat}{fa a:Addr}{fd:FuncData}{x:Str}{sp:Sp}{sj:Shared}{vs:List Value}{ns:List Int}
  (KX:K.In sj.heap) (hns:sj.heap.Ns mainGlobals mg) (hb:sj.heap.Ns builtinsNs mb) (hbb:∀ x:Str,x≠"__name__"->mb x=bootBuiltins x) (hlim:sj.heap.NoLimit) (hg:sj.gens=#[])
  (ha:sj.heap.get? a=some {cls:=.type "list",data:=.seq vs.toArray}) (hi:IntsAre vs ns) (hl:ns.length<=sizeLine) (hr:L7 k callerA)
  (F:∀ base:Heap,K.In base->base.Ns mainGlobals mg->B8 P w K mg base CX k fa fd [x] sp) (hbind:∀(s:Shared) (u:Value),BindsTo s fd ⟨[u],[]⟩ [(x,u)])
  (hsp:∀ H:Hp,a9U H->SqL K H a (ns.map V.int)->sp [.ref a] H (λv _=>v=.bl true) λ_ _ _=>False)
  (hCX:∀ H e s',CX [] H sj (λ_ _ _=>False) e s'->False) :
  codeAny (model P w) callerA (.call (.ref fa) ⟨[.ref a],[]⟩) (λr s'=>r=.ok (.ret (.bool true))/\OldK sj.heap s'.heap/\s'.os=sj.os/\AllBare s'.gens) sj:=by
 have rv:=W4 hi;have lenV:=hi.length;have core:∀ H:Hp,a9U H->SqL K H a (ns.map V.int)->HOk P w H sj.heap->(∀ b,H b≠none->b=a)->(H a≠none->K.lookup a=none) ->
   codeAny (model P w) callerA (.call (.ref fa) ⟨[.ref a],[]⟩) (λr s'=>r=.ok (.ret (.bool true))/\OldK sj.heap s'.heap/\s'.os=sj.os/\AllBare s'.gens) sj:=by
  intro H hO hS hok hA hK;have base_of:∀ {b:Addr} {o:Obj},sj.heap.get? b=some o->H b=none->(a1G sj.heap H).get? b=some o:=λe n=>a6w e n
  have noA:∀ {b:Addr} {o:Obj} {es:Array DictEntry} {ep:Nat},sj.heap.get? b=some o->o.data=.dict es ep->H b=none:=λ{b o es ep} e d=>by
   cases q:H b with
   | none=>rfl
   | some u =>
    have e':b=a:=hA b (by rw[q];simp);subst e';rw[ha] at e;cases e;have d':Data.seq vs.toArray _=db es ep:=d;cases d'
  have nsK:∀ {b:Addr} {m:Str->Option Value},sj.heap.Ns b m->(a1G sj.heap H).Ns b m:=λ{b m} ⟨o,es,ep,e,d,r⟩=>⟨o,es,ep,base_of e (noA e d),d,r⟩
  have hKb:K.In (a1G sj.heap H):=λb o e=>base_of (KX b o e) (by
   cases q:H b with
   | none=>rfl
   | some u =>
    have e':b=a:=hA b (by rw[q];simp);subst e'
    rw[hK (by rw[q];simp)] at e;cases e)
  have hM:Mod K mg (a1G sj.heap H):=⟨hKb,nsK hns,⟨mb,nsK hb,hbb⟩,let ⟨mc,h1,h2⟩:=hlim;⟨mc,nsK h1,h2⟩⟩
  have e0:a3I P w K mg (a1G sj.heap H) callerA [] sj H:=⟨rfl,hM,λb o e=>a7v e,fJ (a4N _ _),trivial,λb hb=>absurd (show b∈([]:List Addr) from hb) (by simp),hok,.of_eq hg⟩
  refine codeAny_mono ((F _ hKb (nsK hns)).run callerA [] sj H ⟨[.ref a],[]⟩ [.ref a] [.ref a] _ _ hr e0 (hbind sj (.ref a)) (.cons rfl .nil) (hsp H hO hS)) λr s' h=>?_
  cases r with
  | error e=>exact (hCX H e s' h).elim
  | ok fl =>
   cases fl with
   | next=>exact cv h
   | brk=>exact cv h
   | cont=>exact cv h
   | ret u =>
    obtain⟨v,H',os,bare,un,hok',r',q⟩:=h;have q':v=.bl true:=q;subst q';obtain rfl:u=aZ true:=r';refine⟨rfl,OldK.of_keep λb o e=>?_,os,bare⟩;cases q:H b with
    | none=>exact un.keep b o e q (by intro z;exact absurd (show b∈([]:List Addr) from z) (by simp)) (by simp)
    | some u =>
     rcases hO b with z | ⟨ob,xs,z⟩
     ·rw[q] at z;cases z
     ·have z2:=un.frzs b ob _ z;obtain⟨e1,_⟩:=hok b _ z;obtain⟨e2,_⟩:=hok' b _ z2;rw[e] at e1;cases e1;exact e2
 cases hk:K.lookup a with
 | some o =>
  have e:=KX a o hk;rw[ha] at e;cases e;refine core (λ_=>none) (λ_=>.inl rfl) (.inr ⟨_,vs.toArray,_,hk,rfl,rfl,rfl,by rw[ay,lenV];exact hl, ~~~rv⟩) (λb u z=>by have z':(none:Option HO)=some u:=z;cases z') (λb z=>absurd rfl z) λz=>absurd rfl z
 | none =>
  refine core (λb=>if b=a then some (.frz {cls:=.type "list",data:=.seq vs.toArray} (.lst (ns.map V.int))) else none) (λb=>?_) (.inl (.inr ⟨{cls:=.type "list",data:=.seq vs.toArray},if_pos rfl⟩)) (λb u z=>?_) (λb z=>?_) λ_=>hk
  ·by_cases hb:b=a
   ·exact .inr ⟨_,_,if_pos hb⟩
   ·exact .inl (if_neg hb)
  ·by_cases hb:b=a
   ·have z':=(if_pos hb).symm.trans z;cases z';subst hb;exact⟨ha,by rw[aa];exact hl,vs,_,rv,ha⟩
   ·have z':=(if_neg hb).symm.trans z;cases z'
  ·by_cases hb:b=a
   ·exact hb
   ·exact absurd (if_neg hb) z
end L2
namespace L2
open PySem PySem.Spec PyProof.Rows
abbrev KOf {K:ae}{h:Heap}(_:K.In h):ae:=K
theorem a3K {l:gu}{n k:Nat}{q:Program}{loose:List Str}{XP:(Str->Option Value)->Heap->Prop}{YP:World->Heap->Prop}{d:DefRec}{K:Params->ae}{CX:World->CXT}{sp:World->Sp}{x:Str}
  (hn:l.most=some n) (hn2:n<=sizeLine) (hdf:d.params.defaults=[]) (hr:L7 k callerA)
  (hY:∀(w:World) (h:Heap),YP w h->(K w.params).In h)
  (F:∀(w:World) (mg:Str->Option Value) (fa:Addr) (h:Heap),(K w.params).In h->h.Ns mainGlobals mg->mg d.name=some (.ref fa) ->
   ∃ fd:FuncData,(∀(s:Shared) (u:Value),BindsTo s fd ⟨[u],[]⟩ [(x,u)]) /\
    ∀ base:Heap,(K w.params).In base->base.Ns mainGlobals mg->B8 l.prog w (K w.params) mg base (CX w) k fa fd [x] (sp w))
  (hsp:∀(w:World) (H:Hp) (a:Addr) (ns:List Int),ns.length<=n->a9U H->SqL (K w.params) H a (ns.map V.int)->sp w [.ref a] H (λv _=>v=.bl true) λ_ _ _=>False)
  (hCX:∀(w:World) (H:Hp) (s:Shared) (e:Value) (s':Shared),CX w [] H s (λ_ _ _=>False) e s'->False) :
  PySem.W.WalkO q loose XP YP l.row.toRowW d [] (λf vs=>iW f vs):=by
 refine Att.attach_call hn hdf λw sw sj mg mb fa o pm cd doc a vs ns G Y ho hd hcd hmg hobj hints hlen hg=>?_
 have KX:=hY w _ Y;obtain⟨fd,hb,hF⟩:=F w mg fa _ KX G.T.g hmg;exact a6l KX G.T.g G.T.b G.T.builtins G.T.nolimit hg hobj hints (aH hlen hn2) hr hF hb (λH hO hS=>hsp w H a ns hlen hO hS) λH e s'=>hCX w H sj e s'
end L2
/- THE LAST THEOREM (shape;LID,My.* are yours):
   My.Adr: a structure of the addresses that your layer names (classes,functions);My.Txt K t: a structure (Prop) of the equations over K;
   My.txt_mk:{K} {implicit addresses ..} (e1:nsIn K mainGlobals "law"=some (some (.ref f))) (e2:K.lookup f=some ⟨oc,od,.func (fnOf "law" "law" params body scope dV kV doc pm an cdv ct),sl⟩) (e3:codeIn K cdv "law"=true) ..:∃ t,My.Txt K t
set_option maxRecDepth 100000 in
set_option maxHeartbeats 0 in
theorem PySem.Challenge.cw_LID_holds : PySem.Challenge.rw_LID.Holds := by
 w_on;o_law;k_head;(case hw=>w_witness2)
 k_fill
 refine L2.a3K (l:=PySem.Challenge.rw_LID) (n:=63) (k:=40) (x:="script") (CX:=λw=>..) (sp:=λ_=>My.sp_law) rfl (by decide) rfl ⟨rfl,by decide,by decide⟩ (λw h Y=>PySem.W.kIn_of Y) ?F ?S ?C
 case F =>
  intro w mg fa h KX G hmg;have T:∃ t,My.Txt (L2.KOf KX) t:=by
   dsimp only[L2.KOf] -- K must stand as «<heap const> w.params» for k_is;refine' My.txt_mk ?e1 ?e2 ?e3 ..
   (case e1=>PySem.W.k_is) -- in the order: a name -> its address -> its object -> its parts
   (case e2=>PySem.W.k_is)
   ..
  obtain⟨t,T⟩:=T;have e0:=hmg.symm.trans (aL KX G T.law);cases e0 -- fa is the law's own address;exact⟨_,λs u=>.of_eq rfl,λbase kb nb=>My.law_fn T kb nb⟩ -- if «.of_eq rfl» comes too early: refine' ⟨_,?b,λbase kb nb=>My.law_fn T kb nb⟩;exact λs u=>.of_eq rfl
 case S=>exact λw H a ns hl hO hS=>..
 case C=>exact ..
(the tactic k_is has no namespace: write k_is) -/
namespace L2
open PySem PySem.Spec PyProof.Rows
abbrev CX0:CXT:=λ_ _ _ _ _ _=>False
abbrev E0:XK:=λ_ _ _=>False
theorem a8j {X:Cx}:a1S CX0 X E0:=λ_ _ _ _ _ _ _ h=>h.elim
structure Fun (K:ae)(x qual:Str)(st:Stmt)(f:Addr)(fd:FuncData):Prop where
 ex:∃(oc:Value) (od:Option Addr) (kV doc pm:Value) (an:Option Addr) (cdv ct:Value) (osl:Array (Option Value)),
  fd=da x qual (R5 st) (P2 st) (A9 st) .none kV doc pm an cdv ct/\K.lookup f=some ⟨oc,od,.func fd,osl⟩/\fE K cdv qual=true
 kp:dW K (.ref f)=true
section
variable {P:Program}{w:World}{K:ae}{mg:Str->Option Value}{base:Heap}
theorem Fun.ok {x qual:Str}{st:Stmt}{f:Addr}{fd:FuncData}{N ps:List Str}{k:Nat}{sp:Sp}(F:Fun K x qual st f fd)(S:B9 N ps (A9 st))(len:∀ vs H Q E,sp vs H Q E->vs.length=ps.length)
  (hbody:∀(cdv:Value) (A:Around) (outer:List Env) (s:Shared) (H:Hp) (vs:List V) (Q:VK) (E:XK),L7 k (A.deeper (envOfC qual (A9 st) s.heap.objs.size f cdv))->sp vs H Q E ->
   ∃ t,PSs (a0L CX0 P w K mg base N qual (A9 st) f cdv A outer s H E).nox (P2 st) t/\t {nx:=λ_ H'=>Q .non H',rt:=Q} (P9 N vs) H):B8 P w K mg base CX0 (k+1) f fd ps sp:=by
 obtain⟨oc,od,kV,doc,pm,an,cdv,ct,osl,rfl,lk,hcd⟩:=F.ex;refine a8r lk hcd S len λA outer s H vs Q E hr hsp=>?_
 obtain⟨t,h,q⟩:=hbody cdv A outer s H vs Q E hr hsp;exact⟨t,h.nox,q⟩
theorem Fun.binds {x qual:Str}{st:Stmt}{f:Addr}{fd:FuncData}{ps:List Str}(F:Fun K x qual st f fd)
  (h:∀(kV doc pm:Value) (an:Option Addr) (cdv ct:Value) (us:List Value),us.length=ps.length->bindArgs (da x qual (R5 st) (P2 st) (A9 st) .none kV doc pm an cdv ct) ⟨us,[]⟩=pure (ps.zip us)):a1o K fd ps []:=by
 obtain⟨oc,od,kV,doc,pm,an,cdv,ct,osl,rfl,lk,hcd⟩:=F.ex;exact .all (h kV doc pm an cdv ct)
theorem E6 {x qual:Str}{st:Stmt}{f:Addr}{oc:Value}{od an:Option Addr}{osl:Array (Option Value)}{kV doc pm cdv ct:Value}(l:K.lookup f=some ⟨oc,od,.func (da x qual (R5 st) (P2 st) (A9 st) .none kV doc pm an cdv ct),osl⟩)
  (c:fE K cdv qual=true) (k:dW K (.ref f)=true):Fun K x qual st f (da x qual (R5 st) (P2 st) (A9 st) .none kV doc pm an cdv ct):=⟨⟨oc,od,kV,doc,pm,an,cdv,ct,osl,rfl,l,c⟩,k⟩
end
theorem K0 {A:Around}{k:Nat}(hr:L7 k A):A.units+1<cLine:=i9 (Nat.add_le_add_left (by decide:1<=64) _) hr.units
section
variable {X:Cx}
theorem pv (i:Nat){x:Str}{pos:Pos}(hN:X.N[i]?=some x:=by rfl)(hv:Vis X.env.scope x:=by first | exact Or.inl rfl | exact Or.inr (Or.inl rfl) | exact Or.inr (Or.inr rfl))(hd:(x == ("__debug__":Str))=false:=by decide)
  (hcd:(x == ("__classdict__":Str))=false:=by decide):PE X (.Name x pos) (Q9 i):=a9d hN hv hd hcd
end
theorem a9t {c A B:Prop}[Decidable c](h1:c->A)(h2:¬ c->B):if c then A else B:=by
 by_cases h:c
 ·rw[if_pos h];exact h1 h
 ·rw[if_neg h];exact h2 h
def B1 (H H':Hp):Prop:=∀ b o,H b=some o->H' b=some o
theorem B1.refl (H:Hp):B1 H H:=λ_ _ h=>h
theorem B1.trans {H H1 H2:Hp}(a:B1 H H1)(b:B1 H1 H2):B1 H H2:=λc o h=>b c o (a c o h)
theorem B1.free {H H':Hp}(e:B1 H H'){l:Addr}(h:H' l=iy):H l=iy:=by
 cases q:H l with
 | none=>rfl
 | some o =>
  rw[e l o q] at h;cases h
theorem B1.seq {K:ae}{H H':Hp}{a:Addr}{xs:List V}(e:B1 H H')(h:SqL K H a xs):SqL K H' a xs:=by
 rcases h with (h | ⟨o,h⟩) | h
 ·exact .inl (.inl (e _ _ h))
 ·exact .inl (.inr ⟨o,e _ _ h⟩)
 ·exact .inr h
end L2
namespace L2
open PySem PySem.Spec PyProof.Rows
section
variable {κ:Type}[DecidableEq κ]
def O0 (kvs:List (κ×V))(k:κ):Option V:=(kvs.find? λkv=>decide (kv.1=k)).map (·.2)
def R9 (kvs:List (κ×V))(k:κ)(v:V):List (κ×V) :=
 if (kvs.any λkv=>decide (kv.1=k))=true then kvs.map (λkv=>if kv.1=k then (kv.1,v) else kv) else kvs++[(k,v)]
def a8s (kvs:List (κ×V))(k:κ):List (κ×V):=kvs.filter λkv=>decide (kv.1≠k)
theorem L4 {p:κ×V}{r:List (κ×V)}{k:κ}(e:p.1=k):O0 (p::r) k=some p.2:=by simp[O0,dr,e]
theorem L5 {p:κ×V}{r:List (κ×V)}{k:κ}(e:¬ p.1=k):O0 (p::r) k=O0 r k:=by simp[O0,dr,e]
theorem U7 (k:κ):∀ kvs:List (κ×V),(kvs.any λkv=>decide (kv.1=k))=(O0 kvs k).isSome
 | []=>rfl
 | p::r=>by
  rw[dN];by_cases e:p.1=k
  ·simp only[L4 e,decide_eq_true e,Bool.true_or,Option.isSome_some]
  ·rw[L5 e,decide_eq_false e,Bool.false_or];exact U7 k r
theorem a1X (k j:κ)(y:V):∀ kvs:List (κ×V),O0 (kvs.map λkv=>if kv.1=k then (kv.1,y) else kv) j=(O0 kvs j).map λx=>if j=k then y else x
 | []=>rfl
 | p::r=>by
  have ih:=a1X k j y r;rw[am];by_cases h:p.1=k
  ·rw[if_pos h];by_cases e:p.1=j
   ·rw[L4 (p:=(p.1,y)) e,L4 e,fk,if_pos (e.symm.trans h)]
   ·rw[L5 (p:=(p.1,y)) e,L5 e,ih]
  ·rw[if_neg h];by_cases e:p.1=j
   ·rw[L4 (p:=p) e,L4 e,fk,if_neg (λz=>h (e.trans z))]
   ·rw[L5 (p:=p) e,L5 e,ih]
theorem a0R (k j:κ)(y:V):∀ kvs:List (κ×V),O0 kvs k=none->O0 (kvs++[(k,y)]) j=if j=k then some y else O0 kvs j
 | [],_=>by
  by_cases e:k=j
  ·rw[if_pos e.symm];exact L4 (p:=(k,y)) e
  ·rw[if_neg (λz=>e z.symm)];exact L5 (p:=(k,y)) e
 | p::r,hn=>by
  rw[dh];have hk:¬ p.1=k:=λz=>by rw[L4 z] at hn;cases hn
  rw[L5 hk] at hn;have ih:=a0R k j y r hn;by_cases e:p.1=j
  ·rw[L4 e,L4 e,if_neg (λz=>hk (e.trans z))]
  ·rw[L5 e,L5 e,ih]
theorem a5c (kvs:List (κ×V))(k j:κ)(y:V):O0 (R9 kvs k y) j=if j=k then some y else O0 kvs j:=by
 unfold R9;by_cases a:(kvs.any λkv=>decide (kv.1=k))=true
 ·rw[if_pos a,a1X];rw[U7] at a;by_cases e:j=k
  ·obtain⟨x,hx⟩:=cf.mp a;rw[if_pos e,e,hx,fk,if_pos rfl]
  ·rw[if_neg e];cases O0 kvs j with
   | none=>rfl
   | some x=>rw[fk,if_neg e]
 ·rw[if_neg a];refine a0R k j y kvs ?_;rw[U7] at a;cases q:O0 kvs k with
  | none=>rfl
  | some x=>rw[q] at a;exact (a rfl).elim
theorem S5 (kvs:List (κ×V))(k:κ)(v:V):(R9 kvs k v).length<=kvs.length+1:=by
 unfold R9;split
 ·rw[aa];omega
 ·rw[aB,az,b8];omega
theorem a1R.isSome_eq {o:Option V}{u:Option Value}(r:a1R o u):o.isSome=u.isSome:=by
 cases o with
 | none=>cases u with
  | none=>rfl
  | some _=>exact (show False from r).elim
 | some _=>cases u with
  | none=>exact (show False from r).elim
  | some _=>rfl
theorem a1R.getD {o:Option V}{u:Option Value}{d:V}{d':Value}(r:a1R o u)(rd:B6 d d'):B6 (o.getD d) (u.getD d'):=by
 cases o with
 | none=>cases u with
  | none=>exact rd
  | some _=>exact (show False from r).elim
 | some _=>cases u with
  | none=>exact (show False from r).elim
  | some _=>exact r
theorem KV.val {kvs:List (κ×V)}{vs:List (κ×Value)}(r:KV kvs vs)(k:κ):a1R (O0 kvs k) (valueAt vs k):=by
 unfold KV at r;induction r with
 | nil=>exact di
 | @cons p q ps qs h t ih =>
  obtain⟨h1,h2⟩:=h;by_cases e:p.1=k
  ·have e':q.1=k:=h1.symm.trans e;have b:valueAt (q::qs) k=some q.2:=by simp[valueAt,dr,e']
   rw[L4 e,b];exact h2
  ·have e':¬ q.1=k:=λz=>e (h1.trans z)
   have b:valueAt (q::qs) k=valueAt qs k:=by simp[valueAt,dr,e']
   rw[L5 e,b];exact ih
theorem KV.any {kvs:List (κ×V)}{vs:List (κ×Value)}(r:KV kvs vs)(k:κ):(kvs.any λkv=>decide (kv.1=k))=vs.any λkv=>decide (kv.1=k):=by
 unfold KV at r;induction r with
 | nil=>rfl
 | cons h t ih=>rw[dN,dN,ih,h.1]
theorem KV.repl {kvs:List (κ×V)}{vs:List (κ×Value)}(r:KV kvs vs)(k:κ){y:V}{u:Value}(ry:B6 y u) :
  KV (kvs.map λkv=>if kv.1=k then (kv.1,y) else kv) (vs.map λkv=>if kv.1=k then (kv.1,u) else kv):=by
 unfold KV at r ⊢;induction r with
 | nil=>exact .nil
 | @cons p q ps qs h t ih =>
  rw[am,am];refine .cons ?_ ih;obtain⟨h1,h2⟩:=h;by_cases e:p.1=k
  ·rw[if_pos e,if_pos (h1.symm.trans e)];exact⟨h1,ry⟩
  ·rw[if_neg e,if_neg (λz=>e (h1.trans z))];exact⟨h1,h2⟩
theorem KV.put {kvs:List (κ×V)}{vs:List (κ×Value)}(r:KV kvs vs)(k:κ){y:V}{u:Value}(ry:B6 y u):KV (R9 kvs k y) (stored vs k u):=by
 unfold R9 stored;rw[r.any k];by_cases e:(vs.any λkv=>decide (kv.1=k))=true
 ·rw[if_pos e,if_pos e];exact r.repl k ry
 ·rw[if_neg e,if_neg e];exact Paired.snoc r ⟨rfl,ry⟩
theorem KV.drop {kvs:List (κ×V)}{vs:List (κ×Value)}(r:KV kvs vs)(k:κ):KV (a8s kvs k) (without vs k):=by
 unfold KV at r ⊢;unfold a8s without;induction r with
 | nil=>exact .nil
 | @cons p q ps qs h t ih =>
  obtain⟨h1,h2⟩:=h;rw[List.filter_cons,List.filter_cons];by_cases e:p.1=k
  ·have a:¬ decide (p.1≠k)=true:=by simp[e]
   have b:¬ decide (q.1≠k)=true:=by simp[h1.symm.trans e]
   rw[if_neg a,if_neg b];exact ih
  ·have e':¬ q.1=k:=λz=>e (h1.trans z)
   have a:decide (p.1≠k)=true:=by simp[e]
   have b:decide (q.1≠k)=true:=by simp[e']
   rw[if_pos a,if_pos b];exact .cons ⟨h1,h2⟩ ih
theorem KV.length {kvs:List (κ×V)}{vs:List (κ×Value)}(r:KV kvs vs):kvs.length=vs.length:=fQ r
end
theorem a6o {P:Program}{w:World}{k:Key}{u:Value}(r:B6 (kV k) u):(I0 P w).is k u=true:=by
 cases k with
 | inl i=>obtain⟨t,e⟩:=(show ∃ t,u=cC i t from r);subst e;exact a2E P w i t
 | inr x=>obtain⟨t,e⟩:=(show ∃ t,u=fA x t from r);subst e;exact a2D P w x t
theorem a1d {P:Program}{w:World}:∀ {ks:List Key} {us:List Value},B3 (ks.map kV) us->ItemsAre (I0 P w) ks us
 | [],_,r=>by rw[cT] at r;cases r;exact .nil
 | k::ks,_,r=>by
  rw[am] at r;cases r with
  | cons h t=>exact .cons (a6o h) (a1d t)
abbrev KT (H:Hp):List (List Key×V)->List (List Key×Addr×Value)->Prop:=Paired λp q=>p.1=q.1/\H q.2.1=some (.tup (p.1.map kV))/\B6 p.2 q.2.2
theorem KT.val {H:Hp}{kvs:List (List Key×V)}{xs:List (List Key×Addr×Value)}(r:KT H kvs xs)(k:List Key):a1R (O0 kvs k) ((atKey xs k).map (·.2)):=by
 induction r with
 | nil=>exact di
 | @cons p q ps qs h t ih =>
  obtain⟨h1,_,h2⟩:=h;by_cases e:p.1=k
  ·have e':q.1=k:=h1.symm.trans e;have b:atKey (q::qs) k=some q.2:=by simp[atKey,dr,e']
   rw[L4 e,b];exact h2
  ·have e':¬ q.1=k:=λz=>e (h1.trans z)
   have b:atKey (q::qs) k=atKey qs k:=by simp[atKey,dr,e']
   rw[L5 e,b];exact ih
theorem KT.repl {H:Hp}{kvs:List (List Key×V)}{xs:List (List Key×Addr×Value)}(r:KT H kvs xs)(k:List Key){y:V}{u:Value}(ry:B6 y u) :
  KT H (kvs.map λkv=>if kv.1=k then (kv.1,y) else kv) (xs.map (putAt k u)):=by
 induction r with
 | nil=>exact .nil
 | @cons p q ps qs h t ih =>
  rw[am,am];refine .cons ?_ ih;obtain⟨h1,h2,h3⟩:=h;unfold putAt;by_cases e:p.1=k
  ·rw[if_pos e,if_pos (h1.symm.trans e)];exact⟨h1,h2,ry⟩
  ·rw[if_neg e,if_neg (λz=>e (h1.trans z))];exact⟨h1,h2,h3⟩
theorem KT.put {H:Hp}{kvs:List (List Key×V)}{xs:List (List Key×Addr×Value)}(r:KT H kvs xs)(k:List Key){b:Addr}{y:V}{u:Value}(hb:H b=some (.tup (k.map kV)))(ry:B6 y u) :
  KT H (R9 kvs k y) (storedH xs k b u):=by
 have e:(kvs.any λkv=>decide (kv.1=k))=(atKey xs k).isSome:=by
  rw[U7,(r.val k).isSome_eq,Option.isSome_map]
 unfold R9 storedH;rw[e];by_cases q:(atKey xs k).isSome=true
 ·rw[if_pos q,if_pos q];exact r.repl k ry
 ·rw[if_neg q,if_neg q];exact Paired.snoc r ⟨rfl,hb,ry⟩
theorem KT.keeps {H H':Hp}{kvs:List (List Key×V)}{xs:List (List Key×Addr×Value)}(r:KT H kvs xs)(ht:∀ b ys,H b=some (.tup ys)->H' b=some (.tup ys)):KT H' kvs xs :=
 Paired.mapP r λ_ _ z=>⟨z.1,ht _ _ z.2.1,z.2.2⟩
section
variable {P:Program}{w:World}{H:Hp}{h:Heap}{a:Addr}
theorem a8d {u:HO}(ok:HOk P w H h)(e:Rd H a u):J0 P w H h a u:=e.ok ok
theorem a6I {kvs:List (Key×V)}(ok:HOk P w H h)(e:Rd H a (.dK kvs)):kvs.length<=sizeLine/\(a == sysModules)=false/\∃ vs,KV kvs vs/\h.DictOf (I0 P w) a vs :=
 show J0 P w H h a (.dK kvs) from a8d ok e
theorem a6J {kvs:List (Key×V)}(ok:HOk P w H h)(e:H a=some (.dK kvs)):kvs.length<=sizeLine/\(a == sysModules)=false/\∃ vs,KV kvs vs/\h.DictOf (I0 P w) a vs:=a6I ok (.inl e)
theorem a3s {ks:List Key}(ok:HOk P w H h)(e:H a=some (.tup (ks.map kV))):(tupleKind (I0 P w)).is h ks a:=by
 obtain⟨_,its,r,o,h1,h2,n,h3⟩:=(show J0 P w H h a (.tup (ks.map kV)) from ok a _ e)
 exact⟨o,its.toArray,n,h1,h2,h3,by simpa using a1d r⟩
theorem a6G {kvs:List (List Key×V)}(ok:HOk P w H h)(e:Rd H a (.dT kvs)):kvs.length<=sizeLine/\(a == sysModules)=false /\
  ∃ xs,KT H kvs xs/\h.DictOfH (tupleKind (I0 P w)) a xs:=by
 obtain⟨z,y,xs,r,o,es,ep,h1,h2,h3,h4,h5⟩:=(show J0 P w H h a (.dT kvs) from a8d ok e)
 refine⟨z,y,xs,r,o,es,ep,h1,h2,h3,h4,λx hx=>?_,h5⟩;have all:∀ {l:List (List Key×V)} {m:List (List Key×Addr×Value)},KT H l m->∀ x∈m,(tupleKind (I0 P w)).is h x.1 x.2.1:=by
  intro l m q;induction q with
  | nil=>intro x hx;exact nomatch hx
  | @cons p q ps qs hq t ih =>
   intro x hx;rcases aO.mp hx with e | hx
   ·subst e;exact a3s ok (by rw[<- hq.1];exact hq.2.1)
   ·exact ih x hx
 exact all r x hx
theorem b0S {kvs:List (List Key×V)}(ok:HOk P w H h)(e:H a=some (.dT kvs)):kvs.length<=sizeLine/\(a == sysModules)=false /\
  ∃ xs,KT H kvs xs/\h.DictOfH (tupleKind (I0 P w)) a xs:=a6G ok (.inl e)
end
def a1U (H:Hp)(a:Addr)(y:V)(r:Option V):Prop :=
 (∃ kvs k,Rd H a (.dK kvs)/\y=kV k/\r=O0 kvs k)\/∃ kvs k b,Rd H a (.dT kvs)/\y=.ref b/\H b=some (.tup (k.map kV))/\r=O0 kvs k
def a3J (H:Hp)(a:Addr)(y v:V)(H':Hp):Prop :=
 (∃ kvs k,H a=some (.dK kvs)/\y=kV k/\kvs.length<sizeLine/\H'=upd H a (.dK (R9 kvs k v))) \/
 ∃ kvs k b,H a=some (.dT kvs)/\y=.ref b/\H b=some (.tup (k.map kV))/\kvs.length<sizeLine/\H'=upd H a (.dT (R9 kvs k v))
theorem a1U.k {H:Hp}{a:Addr}{kvs:List (Key×V)}{k:Key}(e:H a=some (.dK kvs)):a1U H a (kV k) (O0 kvs k):=.inl ⟨kvs,k,.inl e,rfl,rfl⟩
theorem a3J.k {H:Hp}{a:Addr}{kvs:List (Key×V)}{k:Key}{v:V}(e:H a=some (.dK kvs))(hl:kvs.length<sizeLine):a3J H a (kV k) v (upd H a (.dK (R9 kvs k v))):=.inl ⟨kvs,k,e,rfl,hl,rfl⟩
section
variable {X:Cx}{pins:List (Addr×Obj)}{σ:St}{H:Hp}{s:Shared}{a:Addr}{y v:V}{u r:Value}{o:Option V}{A:Around}{E:Value->Shared->Prop}
theorem Inv.big (I:Inv X pins σ H s):sysModules<s.heap.objs.size:=by
 have h:mainGlobals<s.heap.objs.size:=(I.mod.glob.keeps I.bk).lt;exact cW (by decide) h
theorem a4q {h':Heap}{t':Nat}{ob:HO}(I:Inv X pins σ H s)(mu:Mut (H a))(hs:cr a s.heap h')(he:∃ q,h'.get? a=some q)(new:J0 X.prog X.w (upd H a ob) h' a ob) :
  Inv X pins σ (upd H a ob) {s with heap:=h',toks:=t'} :=
 I.write (x:=a) (e:=a) mu (.inl rfl) (λb q hb z=>(hs.2 b hb).trans z) he new
theorem a9M {P:Program}{w:World}{H':Hp}{h':Heap}{kvs:List (Key×V)}{vs:List (Key×Value)}(z:kvs.length<=sizeLine)(hd:(a == sysModules)=false)(rel:KV kvs vs)(dd:h'.DictOf (I0 P w) a vs) :
  J0 P w H' h' a (.dK kvs):=⟨z,hd,vs,rel,dd⟩
end
def b1r (ty td:TE):TE:=fun σ H Q=>ty σ H λy H1=>td σ H1 λx H2=>∃ a o,x=.ref a/\a1U H2 a y o/\Q (.bl o.isSome) H2
def a7a (ty td:TE):TE:=fun σ H Q=>ty σ H λy H1=>td σ H1 λx H2=>∃ a o,x=.ref a/\a1U H2 a y o/\Q (.bl (!o.isSome)) H2
def b0x (td ty tv:TE):TS:=λD σ H=>tv σ H λv H1=>td σ H1 λx H2=>ty σ H2 λy H3=>∃ a H4,x=.ref a/\a3J H3 a y v H4/\D.nx σ H4
theorem a2L {P:Program}{w:World}{H:Hp}(h:Heap)(hb:sysModules<h.objs.size):J0 P w H (h.push {cls:=.type "dict",data:=.dict #[]}) h.objs.size (.dK []) :=
 ⟨bn _,beq_eq_false_iff_ne.mpr (fm (aN hb)),[],.nil,Heap.DictOf.new h⟩
theorem a6H {P:Program}{w:World}{H:Hp}(h:Heap)(hb:sysModules<h.objs.size):J0 P w H (h.push {cls:=.type "dict",data:=.dict #[]}) h.objs.size (.dT []) :=
 ⟨bn _,beq_eq_false_iff_ne.mpr (fm (aN hb)),[],.nil,_,#[],0,aX _ rfl,⟨rfl,rfl,rfl⟩,rfl,rfl,g5⟩
def a5t:TE:=λ_ H Q=>∀ p,H p=none->Q (.ref p) (upd H p (.dK []))
def a8M:TE:=λ_ H Q=>∀ p,H p=none->Q (.ref p) (upd H p (.dT []))
section
variable {X:Cx}{pos:Pos}
theorem a5N:PE X (.Dict [] [] pos) a5t:=λpins s σ H Q I h =>
 wpAny_Dict_empty ⟨.ref s.heap.objs.size,_,I.laid (a:=s.heap.objs.size) (o:=.dK []) (t':=s.toks) (λ_ _ q=>aj _ q) (ao _) (a2L s.heap I.big),rfl,h _ (I.hok.fresh (ao _))⟩
end
def a9m (kvs more:List (Key×V)):List (Key×V):=more.foldl (λacc kv=>R9 acc kv.1 kv.2) kvs
theorem KV.merge:∀ {more:List (Key×V)} {rs:List (Key×Value)} {kvs:List (Key×V)} {vs:List (Key×Value)},KV more rs->KV kvs vs->KV (a9m kvs more) (merged vs rs):=by
 intro more rs kvs vs r;unfold KV at r;induction r generalizing kvs vs with
 | nil=>intro q;exact q
 | @cons p q ps qs h t ih =>
  intro r0;have e:KV (R9 kvs p.1 p.2) (stored vs q.1 q.2):=by
   have:=r0.put p.1 h.2;rw[<- h.1];exact this
  exact ih e
structure M1 (X:Cx)(o:Expr)(m:Str)(apos:Pos)(e:Expr)(cpos:Pos):Prop where
 base:attributeBase o m X.env (eval o X.env)=eval o X.env
 few:((backTo cpos (starEach [e] X.env)).all (λx=>!x.1) && (backToKw cpos (keywordEach [] X.env)).all (λx=>x.1.isSome)
  && decide (([e]:List Expr).length+([]:List Keyword).length+(if ([]:List Keyword).isEmpty then 0 else 1)<30))=true
 line:(apos.endLine == cpos.line)=true
 trees:backTo cpos (starEach [e] X.env)=[(false,eval e X.env)]
structure M2 (X:Cx)(o:Expr)(m:Str)(apos:Pos)(e f:Expr)(cpos:Pos):Prop where
 base:attributeBase o m X.env (eval o X.env)=eval o X.env
 few:((backTo cpos (starEach [e,f] X.env)).all (λx=>!x.1) && (backToKw cpos (keywordEach [] X.env)).all (λx=>x.1.isSome)
  && decide (([e,f]:List Expr).length+([]:List Keyword).length+(if ([]:List Keyword).isEmpty then 0 else 1)<30))=true
 line:(apos.endLine == cpos.line)=true
 trees:backTo cpos (starEach [e,f] X.env)=[(false,eval e X.env),(false,eval f X.env)]
def IsD (H:Hp)(a:Addr):Prop:=(∃ kvs,Rd H a (.dK kvs))\/∃ kvs,Rd H a (.dT kvs)
theorem a9w {X:Cx}{pins:List (Addr×Obj)}{σ:St}{H:Hp}{s:Shared}{a:Addr}(I:Inv X pins σ H s)(d:IsD H a) :
  s.TypeIs (.ref a) "dict"/\(∀ b,bp a=.ref b->∃ ob,s.heap.get? b=some ob/\ob.dict=none)/\(a == sysModules)=false:=by
 rcases d with ⟨kvs,e⟩ | ⟨kvs,e⟩
 ·obtain⟨_,hd,vs,_,dd⟩:=a6I I.hok e;refine⟨dd.typeIs,λb q=>?_,hd⟩;cases q;obtain⟨ob,_,_,h1,h2,_⟩:=dd;exact⟨ob,h1,h2.2.1⟩
 ·obtain⟨_,hd,xs,_,dd⟩:=a6G I.hok e;refine⟨dd.typeIs,λb q=>?_,hd⟩;cases q;obtain⟨ob,_,_,h1,h2,_⟩:=dd;exact⟨ob,h1,h2.2.1⟩
section
variable {X:Cx}{pins:List (Addr×Obj)}{σ:St}{H:Hp}{s:Shared}{a:Addr}{y d:V}{u r:Value}{o:Option V}{A:Around}{E:Value->Shared->Prop}
theorem a9N {Q:Value->Shared->Prop}(hu:A.units+1<cLine)(I:Inv X pins σ H s)(g:a1U H a y o)(ry:B6 y u)(h:∀ w' s',Inv X pins σ H s'->B6 (o.getD .non) w'->Q w' s') :
  wpAny (model X.prog X.w) A (call (.builtin "dict.get") [.ref a,u]) Q E s:=by
 rcases g with ⟨kvs,k,e,ey,l⟩ | ⟨kvs,k,b,e,ey,eb,l⟩
 ·subst ey;obtain⟨z,hd,vs,rel,dd⟩:=a6I I.hok e;refine call_meetsIn fb dd.typeIs gY (gT _ _) (meets_dict_get (I0 X.prog X.w) a (a6o ry) hd) ⟨_,dd.mapOf,h _ _ (I.tok _) ?_⟩;rw[l];exact (rel.val k).getD rfl
 ·subst ey;cases (show u=bp b from ry);obtain⟨z,hd,xs,rel,dd⟩:=a6G I.hok e;refine call_meetsIn fb dd.typeIs gY (gT _ _) (meetsH_dict_get (tupleKind (I0 X.prog X.w)) a b hd) ⟨tupleKind_room_in1 hu,k,xs,a3s I.hok eb,dd,h _ _ (I.tok _) ?_⟩;rw[l];exact (rel.val k).getD rfl
end
def a5u (td ty:TE):TE:=fun σ H Q=>td σ H λx H1=>∃ a,x=.ref a/\IsD H1 a/\ty σ H1 λy H2=>∃ o,a1U H2 a y o/\Q (o.getD .non) H2
section
variable {X:Cx}{o e f:Expr}{apos cpos:Pos}{td ty tx:TE}
theorem a5O (hu:X.A.units+1<cLine)(ho:PE X o td)(he:PE X e ty)(m:M1 X o "get" apos e cpos):PE X (.Call (.Attribute o "get" apos) [e] [] cpos) (a5u td ty):=by
 intro pins s σ H Q I h;refine wpAny_Call_method m.base m.few m.line PySem.F.plainAttrs_dict fb PySem.F.type_dict_get (thn (ho pins s σ H _ I h) λu s1 ⟨x,H1,I1,rx,a,ex,d,q1⟩=>?_);subst ex;obtain rfl:u=bp a:=rx;obtain⟨t1,t2,_⟩:=a9w I1 d;refine⟨t1,t2,?_⟩;rw[m.trees];refine fe rfl (iu (cM (thn (he pins s1 σ H1 _ I1 q1) λiv s2 ⟨y,H2,I2,ry,ov,g,q2⟩=>cV ?_)));exact a9N hu I2 g ry λw' s3 I3 rw'=>⟨_,H2,I3,rw',q2⟩
end
end L2
end
section
namespace Ts
open PySem PyProof.Rows
set_option autoImplicit false
def galP:Bool->Keyed->Array Keyed->Nat->Nat->Nat->StateT SortSt Sem (Option Nat):=sortPriv% PySem.Builtin.gallop
def mLo:Array Keyed->Array Keyed->StateT SortSt Sem (Array Keyed):=sortPriv% PySem.Builtin.mergeLo
def mHi:Array Keyed->Array Keyed->StateT SortSt Sem (Array Keyed):=sortPriv% PySem.Builtin.mergeHi
def setGal (g:Nat):StateT SortSt Sem Unit:=modify λs=>dL (kindOf s) (arrOf s) (pendingOf s) g (failedOf s)
theorem galP_eq (lf:Bool)(ky:Keyed)(ar:Array Keyed)(bs nn hn:Nat):galP lf ky ar bs nn hn=(do
 let bey (i:Nat):StateT SortSt Sem (Option Bool):=do
  let xx <- elem' ar (bs+i)
  if lf then lt' xx ky else return (<- lt' ky xx).map (!·)
 let mut la:=0
 let mut of:=1
 let mut l0:=0
 let mut h0:=0
 let some rg <- bey hn | return none
 if rg then
  let mx:=nn-hn
  for _ in [0:nn] do
   if of>=mx then break
   let some mo <- bey (hn+of) | return none
   if !mo then break
   la:=of
   of:=2*of+1
  l0:=hn+la+1
  h0:=hn+min of mx
 else
  let mx:=hn+1
  for _ in [0:nn] do
   if of>=mx then break
   let some fo <- bey (hn-of) | return none
   if fo then break
   la:=of
   of:=2*of+1
  l0:=hn+1-min of mx
  h0:=hn-la
 for _ in [0:nn] do
  if l0>=h0 then break
  let mm:=l0+(h0-l0) / 2
  let some mo <- bey mm | return none
  if mo then l0:=mm+1 else h0:=mm
 return some h0):=rfl
theorem mLo_eq (a b:Array Keyed):mLo a b=(do
 rule "list.sort.merge-lo"
 let tot:=a.size+b.size
 let dn (o:Array Keyed) (i j:Nat):=o++a.extract i a.size++b.extract j b.size
 let lst (o:Array Keyed) (i j:Nat):=o++b.extract j b.size++a.extract i a.size
 let mut o:Array Keyed:=#[<- elem' b 0]
 let mut i:=0
 let mut j:=1
 if j == b.size then return dn o i j
 if i+1 == a.size then return lst o i j
 let mut mg:=gallopOf (<- get)
 for _ in [0:tot] do
  let mut ac:=0
  let mut bc:=0
  for _ in [0:tot] do
   let some bw <- lt' (<- elem' b j) (<- elem' a i) | return dn o i j
   if bw then
    o:=o.push (<- elem' b j);j:=j+1;bc:=bc+1;ac:=0
    if j == b.size then return dn o i j
    if bc>=mg then break
   else
    o:=o.push (<- elem' a i);i:=i+1;ac:=ac+1;bc:=0
    if i+1 == a.size then return lst o i j
    if ac>=mg then break
  rule "list.sort.gallop"
  mg:=mg+1
  for _ in [0:tot] do
   if mg>1 then mg:=mg-1
   setGal mg
   let some k <- galP false (<- elem' b j) a i (a.size-i) 0 | return dn o i j
   ac:=k
   if k>0 then
    o:=o++a.extract i (i+k);i:=i+k
    if i+1 == a.size then return lst o i j
    if i == a.size then return dn o i j
   o:=o.push (<- elem' b j);j:=j+1
   if j == b.size then return dn o i j
   let some k <- galP true (<- elem' a i) b j (b.size-j) 0 | return dn o i j
   bc:=k
   if k>0 then
    o:=o++b.extract j (j+k);j:=j+k
    if j == b.size then return dn o i j
   o:=o.push (<- elem' a i);i:=i+1
   if i+1 == a.size then return lst o i j
   if ac<7 && bc<7 then break
  mg:=mg+1
  setGal mg
 unsupported "internal:list.sort.merge-bound"):=rfl
theorem mHi_eq (a b:Array Keyed):mHi a b=(do
 rule "list.sort.merge-hi"
 let tot:=a.size+b.size
 let dn (o:Array Keyed) (i j:Nat):=a.extract 0 i++b.extract 0 j++o.reverse
 let fst (o:Array Keyed) (i j:Nat):=b.extract 0 j++a.extract 0 i++o.reverse
 let mut i:=a.size-1
 let mut j:=b.size
 let mut o:Array Keyed:=#[<- elem' a i]
 if i == 0 then return dn o i j
 if j == 1 then return fst o i j
 let mut mg:=gallopOf (<- get)
 for _ in [0:tot] do
  let mut ac:=0
  let mut bc:=0
  for _ in [0:tot] do
   let some aw <- lt' (<- elem' b (j-1)) (<- elem' a (i-1)) | return dn o i j
   if aw then
    i:=i-1;o:=o.push (<- elem' a i);ac:=ac+1;bc:=0
    if i == 0 then return dn o i j
    if ac>=mg then break
   else
    j:=j-1;o:=o.push (<- elem' b j);bc:=bc+1;ac:=0
    if j == 1 then return fst o i j
    if bc>=mg then break
  rule "list.sort.gallop"
  mg:=mg+1
  for _ in [0:tot] do
   if mg>1 then mg:=mg-1
   setGal mg
   let some p <- galP false (<- elem' b (j-1)) a 0 i (i-1) | return dn o i j
   let k:=i-p
   ac:=k
   if k>0 then
    o:=o++(a.extract p i).reverse;i:=p
    if i == 0 then return dn o i j
   j:=j-1;o:=o.push (<- elem' b j)
   if j == 1 then return fst o i j
   let some p <- galP true (<- elem' a (i-1)) b 0 j (j-1) | return dn o i j
   let k:=j-p
   bc:=k
   if k>0 then
    o:=o++(b.extract p j).reverse;j:=p
    if j == 1 then return fst o i j
    if j == 0 then return dn o i j
   i:=i-1;o:=o.push (<- elem' a i)
   if i == 0 then return dn o i j
   if ac<7 && bc<7 then break
  mg:=mg+1
  setGal mg
 unsupported "internal:list.sort.merge-bound"):=rfl
theorem mAt_eq (i:Nat):mergeAt' i=(do
 let s <- get
 let (some (sa,na,pw),some (sb,nb,_)):=((pendingOf s)[i]?,(pendingOf s)[i+1]?) | unsupported "internal:list.sort.pending"
 set (dL (kindOf s) (arrOf s) (((pendingOf s).setIfInBounds i (sa,na+nb,pw)).eraseIdxIfInBounds (i+1)) (gallopOf s) (failedOf s))
 let some k <- galP false (<- elem' (arrOf s) sb) (arrOf s) sa na 0 | return false
 let (sa,na):=(sa+k,na-k)
 if na == 0 then return true
 let some nb <- galP true (<- elem' (arrOf s) (sa+na-1)) (arrOf s) sb nb (nb-1) | return false
 if nb == 0 then return true
 let xx:=(arrOf s).extract sa sb
 let yy:=(arrOf s).extract sb (sb+nb)
 let mm <- if na<=nb then mLo xx yy else mHi xx yy
 modify λs=>setArr s (mm.toList.zipIdx.foldl (λa (p,j)=>a.setIfInBounds (sa+j) p) (arrOf s))
 return (failedOf (<- get)).isNone):=rfl
end Ts
namespace Ts
open PySem PyProof.Rows
set_option autoImplicit false
def el (xs:Array Keyed)(i:Nat):Keyed:=(xs[i]?).getD (cJ,cJ)
theorem el_some {xs:Array Keyed}{i:Nat}(h:i<xs.size):xs[i]?=some (el xs i):=by
 unfold el;rw[getElem?_pos xs i h];rfl
theorem el_congr {xs ys:Array Keyed}{i j:Nat}(h:xs[i]?=ys[j]?):el xs i=el ys j:=by unfold el;rw[h]
theorem el_mem {xs:Array Keyed}{i:Nat}(h:i<xs.size):el xs i∈xs.toList:=by
 have e:el xs i=xs[i]:=by unfold el;rw[getElem?_pos xs i h];rfl
 rw[e];simp
section
variable {O:KeyOrd}{key:Keyed->O.α}
abbrev KA {O:KeyOrd}(key:Keyed->O.α)(xs:Array Keyed)(i:Nat):O.α:=key (el xs i)
theorem KA_congr {xs ys:Array Keyed}{i j:Nat}(h:xs[i]?=ys[j]?):KA key xs i=KA key ys j:=by unfold KA;rw[el_congr h]
def Seg {O:KeyOrd}(key:Keyed->O.α)(xs:Array Keyed)(lo hi:Nat):Prop:=∀ i j,lo<=i->i<=j->j<hi->O.kle (KA key xs i) (KA key xs j)
def SegD {O:KeyOrd}(key:Keyed->O.α)(xs:Array Keyed)(lo hi:Nat):Prop:=∀ i j,lo<=i->i<=j->j<hi->O.kle (KA key xs j) (KA key xs i)
theorem Seg.one (xs:Array Keyed)(lo:Nat):Seg key xs lo (lo+1):=λi j h1 h2 h3=>by
 have:i=j:=∅
 subst this;exact bZ _
theorem Seg.sub {xs:Array Keyed}{lo hi lo' hi':Nat}(h:Seg key xs lo hi)(h1:lo<=lo')(h2:hi'<=hi):Seg key xs lo' hi':=λi j a b c=>h i j ∅ b ∅
theorem Seg.congr {xs ys:Array Keyed}{lo hi:Nat}(h:Seg key xs lo hi)(e:∀ i,lo<=i->i<hi->KA key ys i=KA key xs i):Seg key ys lo hi:=λi j a b c=>by
 rw[e i a ∅,e j ∅ c];exact h i j a b c
theorem KA_bubble {xs:Array Keyed}{src d:Nat}(hs:src<xs.size)(hd:d<=src)(k:Nat) :
  KA key (bubble xs src d) k=if k=src-d then KA key xs src else if src-d<k/\k<=src then KA key xs (k-1) else KA key xs k:=by
 have e:=getElem?_bubble hs d hd k;by_cases h1:k=src-d
 ·rw[if_pos h1] at e ⊢;exact KA_congr e
 ·rw[if_neg h1] at e ⊢;by_cases h2:src-d<k/\k<=src
  ·rw[if_pos h2] at e ⊢;exact KA_congr e
  ·rw[if_neg h2] at e ⊢;exact KA_congr e
theorem KA_mirror {xs:Array Keyed}{i j:Nat}(hj:j<=xs.size)(k:Nat) :
  KA key (mirror xs i j ((j-i) / 2)) k=if i<=k/\k<j then KA key xs (i+j-1-k) else KA key xs k:=by
 have e:=getElem?_mirror_all (i:=i) hj k;by_cases h1:i<=k/\k<j
 ·rw[if_pos h1] at e ⊢;exact KA_congr e
 ·rw[if_neg h1] at e ⊢;exact KA_congr e
theorem KA_mirror_equal {xs:Array Keyed}{i j:Nat}(hj:j<=xs.size)(heq:∀ k,i<=k->k<j->KA key xs k=KA key xs (j-1))(k:Nat) :
  KA key (mirror xs i j ((j-i) / 2)) k=KA key xs k:=by
 rw[KA_mirror hj];split
 ·rw[heq _ ∅ ∅,heq k ∅ ∅]
 ·rfl
end
structure SB (a₀:Array Keyed)(knd:SortKind)(st:SortSt):Prop where
 perm:(arrOf st).Perm a₀
 kind:kindOf st=knd
 failed:failedOf st=none
theorem SB.size {a₀:Array Keyed}{knd:SortKind}{st:SortSt}(h:SB a₀ knd st):(arrOf st).size=a₀.size:=h.perm.size_eq
theorem SB.setArr {a₀:Array Keyed}{knd:SortKind}{st:SortSt}(h:SB a₀ knd st){xs:Array Keyed}(hp:xs.Perm (arrOf st)):SB a₀ knd (setArr st xs):=⟨hp.trans h.perm,h.kind,h.failed⟩
theorem SB.mem {a₀:Array Keyed}{knd:SortKind}{st:SortSt}(h:SB a₀ knd st){i:Nat}(hi:i<a₀.size):el (arrOf st) i∈a₀.toList :=
 (gP.mp h.perm).mem_iff.mp (el_mem (by rw[h.size];exact hi))
def Cmp (M:Model)(A:Around)(E:Value->Shared->Prop)(s:Shared)(knd:SortKind)(O:KeyOrd)(key:Keyed->O.α)(a₀:Array Keyed):Prop :=
 ∀ p∈a₀.toList,∀ q∈a₀.toList,∀(st:SortSt) (Q:Option Bool->SortSt->Prop),kindOf st=knd->Q (some (O.blt (key p) (key q))) st->wpS M A E s (lt' p q) Q st
section
variable {M:Model}{A:Around}{E:Value->Shared->Prop}{s:Shared}{a₀:Array Keyed}{knd:SortKind}{O:KeyOrd}{key:Keyed->O.α}
theorem wpS_elem {xs:Array Keyed}{i:Nat}{Q:Keyed->SortSt->Prop}{st:SortSt}(h:i<xs.size)(q:Q (el xs i) st):wpS M A E s (elem' xs i) Q st:=by
 rw[elem'_eq,el_some h];exact ag q
theorem wpS_ltI {st:SortSt}{i j:Nat}{Q:Option Bool->SortSt->Prop}(C:Cmp M A E s knd O key a₀)(hB:SB a₀ knd st)(hi:i<a₀.size)(hj:j<a₀.size)
  (h:Q (some (O.blt (KA key (arrOf st) i) (KA key (arrOf st) j))) st):wpS M A E s (ltAt' i j) Q st:=by
 rw[ltAt'_eq];refine ai (ff ?_);refine ai (wpS_elem (by rw[hB.size];exact hi) ?_);refine ai (wpS_elem (by rw[hB.size];exact hj) ?_);exact C _ (hB.mem hi) _ (hB.mem hj) st Q hB.kind h
theorem wpS_rev {st:SortSt}{i j:Nat}{Q:Unit->SortSt->Prop}(h:Q () (setArr st (mirror (arrOf st) i j ((j-i) / 2)))):wpS M A E s (reverseSlice' i j) Q st:=by
 rw[reverseSlice'_eq];exact dt h
theorem wpS_rule {st:SortSt}{Q:Unit->SortSt->Prop}{x:String}(h:Q () st):wpS M A E s (liftM (rule x):StateT SortSt Sem Unit) Q st:=wpS_lift (wpAny_rule ⟨rfl,h⟩)
def ascL (lo a nrem:Nat):StateT SortSt Sem AscSt :=
 forIn [a:nrem] ((none,a):AscSt) λ_ c=>do
  let x <- ltAt' (lo+c.snd) (lo+c.snd-1)
  match x with
  | some sm=>if sm=true then pure (dO (none,c.snd)) else pure (bJ (none,c.snd+1))
  | _=>pure (dO (some none,c.snd))
def t3L (lo n nrem:Nat):StateT SortSt Sem (Option Nat):=do
 reverseSlice' lo (lo+n)
 let c <- ascL lo n nrem
 match c.fst with
 | some r=>pure r
 | none=>pure (some c.snd)
def desL (lo n nrem:Nat):StateT SortSt Sem DescSt :=
 forIn [n:nrem] ((none,n,0):DescSt) λ_ c=>do
  let x <- ltAt' (lo+c.snd.fst) (lo+c.snd.fst-1)
  match x with
  | some sm =>
   if sm=true then
    if c.snd.snd>0 then do
     reverseSlice' (lo+c.snd.fst-(c.snd.snd+1)) (lo+c.snd.fst)
     pure (bJ (none,c.snd.fst+1,0))
    else pure (bJ (none,c.snd.fst+1,0))
   else do
    let y <- ltAt' (lo+c.snd.fst-1) (lo+c.snd.fst)
    match y with
    | some la =>
     if la=true then pure (dO (none,c.snd.fst,c.snd.snd))
     else pure (bJ (none,c.snd.fst+1,c.snd.snd+1))
    | _=>pure (dO (some none,c.snd.fst,c.snd.snd))
  | _=>pure (dO (some none,c.snd.fst,c.snd.snd))
def desP (lo n nrem:Nat):StateT SortSt Sem (Option Nat):=do
 liftM (rule "list.sort.descending-run")
 let c <- desL lo (n+1) nrem
 match c.fst with
 | some r=>pure r
 | none =>
  if c.snd.snd>0 then do
   reverseSlice' (lo+c.snd.fst-(c.snd.snd+1)) (lo+c.snd.fst)
   t3L lo c.snd.fst nrem
  else t3L lo c.snd.fst nrem
theorem cR_eq (lo nrem:Nat):countRun' lo nrem=(do
  let c <- ascL lo 1 nrem
  match c.fst with
  | some r=>pure r
  | none =>
   if (c.snd == nrem)=true then pure (some c.snd)
   else if c.snd>1 then do
    let x <- ltAt' lo (lo+c.snd-1)
    match x with
    | some rs=>if rs=true then pure (some c.snd) else do
      reverseSlice' lo (lo+c.snd)
      desP lo c.snd nrem
    | _=>pure none
   else desP lo c.snd nrem):=by
 rw[countRun'_eq];unfold desP t3L desL ascL;refine bind_congr λc=>?_
 obtain⟨r,n⟩:=c;cases r with
 | some r=>rfl
 | none =>
  dsimp only;split
  ·rfl
  ·split
   ·refine bind_congr λx=>?_
    cases x with
    | none=>rfl
    | some rs =>
     dsimp only;split
     ·rfl
     ·refine bind_congr λu=>?_
      refine bind_congr λv=>?_
      refine bind_congr λd=>?_
      obtain⟨r2,n2,q2⟩:=d;cases r2 with
      | some r2=>rfl
      | none =>
       dsimp only;split
       ·refine bind_congr λe=>?_
        refine bind_congr λe=>?_
        refine bind_congr λd=>?_
        obtain⟨r3,n3⟩:=d;cases r3<;>rfl
       ·refine bind_congr λe=>?_
        refine bind_congr λd=>?_
        obtain⟨r3,n3⟩:=d;cases r3<;>rfl
   ·refine bind_congr λv=>?_
    refine bind_congr λd=>?_
    obtain⟨r2,n2,q2⟩:=d;cases r2 with
    | some r2=>rfl
    | none =>
     dsimp only;split
     ·refine bind_congr λe=>?_
      refine bind_congr λe=>?_
      refine bind_congr λd=>?_
      obtain⟨r3,n3⟩:=d;cases r3<;>rfl
     ·refine bind_congr λe=>?_
      refine bind_congr λd=>?_
      obtain⟨r3,n3⟩:=d;cases r3<;>rfl
structure From (lo:Nat)(st st':SortSt):Prop where
 low:∀ i,i<lo->(arrOf st')[i]?=(arrOf st)[i]?
 pend:pendingOf st'=pendingOf st
theorem From.refl (lo:Nat)(st:SortSt):From lo st st:=⟨λ_ _=>rfl,rfl⟩
theorem From.trans {lo:Nat}{a b c:SortSt}(h:From lo a b)(k:From lo b c):From lo a c:=⟨λi hi=>(k.low i hi).trans (h.low i hi),k.pend.trans h.pend⟩
theorem From.mirror {lo i j:Nat}{st:SortSt}(hi:lo<=i)(hj:j<=(arrOf st).size):From lo st (gJ st (gK (arrOf st) i j ((j-i) / 2))) :=
 ⟨λk hk=>by show (gK (arrOf st) i j ((j-i) / 2))[k]?=_;rw[getElem?_mirror_all hj,if_neg ∅],rfl⟩
theorem From.bubble {lo src d:Nat}{st:SortSt}(hs:src<(arrOf st).size)(hd:d<=src)(hl:lo<=src-d):From lo st (gJ st (gM (arrOf st) src d)) :=
 ⟨λk hk=>by show (gM (arrOf st) src d)[k]?=_;rw[getElem?_bubble hs d hd,if_neg ∅,if_neg ∅],rfl⟩
theorem wpS_ascL {st:SortSt}{lo a nrem:Nat}{Q:AscSt->SortSt->Prop}(C:Cmp M A E s knd O key a₀)(hn:lo+nrem<=a₀.size)(ha:1<=a)(han:a<=nrem)(hB:SB a₀ knd st)
  (hs:Seg key (arrOf st) lo (lo+a))
  (h:∀ n,a<=n->n<=nrem->Seg key (arrOf st) lo (lo+n)->(n=nrem\/O.klt (KA key (arrOf st) (lo+n)) (KA key (arrOf st) (lo+n-1)))->Q (none,n) st) :
  wpS M A E s (ascL lo a nrem) Q st:=by
 unfold ascL;refine bK (I:=λx c st'=>st'=st/\c=(none,x)/\Seg key (arrOf st) lo (lo+x)) ?step ?fin ⟨rfl,rfl,hs⟩
 case fin =>
  rintro c st' ⟨rfl,rfl,hs'⟩;rw[show max a nrem=nrem by omega] at hs' ⊢;exact h nrem han (ao _) hs' (.inl rfl)
 case step =>
  rintro x c st' hax hxn ⟨rfl,rfl,hs'⟩;dsimp only;refine ai (wpS_ltI C hB ∅ ∅ ?_);cases hless:O.blt (KA key (arrOf st') (lo+x)) (KA key (arrOf st') (lo+x-1))
  case true =>
   simp only[if_true];exact ag (h x hax ∅ hs' (.inr hless))
  case false =>
   simp only[aC,if_false];refine ag ⟨rfl,rfl,λi j hli hij hj=>?_⟩;by_cases hjx:j<lo+x
   ·exact hs' i j hli hij hjx
   ·have hj':j=lo+x:=∅
    subst hj';by_cases hi':i=lo+x
    ·subst hi';exact bZ _
    ·exact aT (hs' i (lo+x-1) hli ∅ ∅) hless
theorem wpS_t3L {st:SortSt}{lo n nrem:Nat}{Q:Option Nat->SortSt->Prop}(C:Cmp M A E s knd O key a₀)(hn:lo+nrem<=a₀.size)(h1:1<=n)(hnn:n<=nrem)(hB:SB a₀ knd st)
  (hs:SegD key (arrOf st) lo (lo+n)) (h:∀ m st',SB a₀ knd st'->From lo st st'->1<=m->m<=nrem->Seg key (arrOf st') lo (lo+m)->Q (some m) st') :
  wpS M A E s (t3L lo n nrem) Q st:=by
 unfold t3L;have hsz:lo+n<=(arrOf st).size:=by rw[hB.size];omega
 refine ai (wpS_rev ?_);have hB':SB a₀ knd (setArr st (mirror (arrOf st) lo (lo+n) ((lo+n-lo) / 2))):=hB.setArr (im _ _ _ _);have hF:=From.mirror (ao lo) hsz;refine ai (wpS_ascL C hn h1 hnn hB' ?_ λm hm1 hm2 hsm _=>ag (h m _ hB' hF ∅ hm2 hsm));intro i j hli hij hj;show O.kle (KA key (mirror (arrOf st) lo (lo+n) ((lo+n-lo) / 2)) i) (KA key (mirror (arrOf st) lo (lo+n) ((lo+n-lo) / 2)) j);rw[KA_mirror hsz,KA_mirror hsz,if_pos ∅,if_pos ∅];exact hs _ _ ∅ ∅ ∅
theorem wpS_desL {st:SortSt}{lo n nrem:Nat}{Q:DescSt->SortSt->Prop}(C:Cmp M A E s knd O key a₀)(hn:lo+nrem<=a₀.size)(h1:1<=n)(hnn:n<=nrem)(hB:SB a₀ knd st)
  (hs:SegD key (arrOf st) lo (lo+n))
  (h:∀ m neq st',SB a₀ knd st'->From lo st st'->n<=m->m<=nrem->SegD key (arrOf st') lo (lo+m)->neq+1<=m->(∀ i,lo+m-(neq+1)<=i->i<lo+m->KA key (arrOf st') i=KA key (arrOf st') (lo+m-1))->Q (none,m,neq) st') :
  wpS M A E s (desL lo n nrem) Q st:=by
 unfold desL
 refine bK (I:=λx c st'=>∃ neq,c=(none,x,neq)/\SB a₀ knd st'/\From lo st st'/\SegD key (arrOf st') lo (lo+x)/\neq+1<=x /\
   (∀ i,lo+x-(neq+1)<=i->i<lo+x->KA key (arrOf st') i=KA key (arrOf st') (lo+x-1))) ?step ?fin ⟨0,rfl,hB,From.refl _ _,hs,∅,λi h1 h2=>by congr 1;congr 1;omega⟩
 case fin =>
  rintro c st' ⟨neq,rfl,hB',hF,hs',hq,he⟩;rw[show max n nrem=nrem by omega] at hs' hq he ⊢;exact h nrem neq st' hB' hF hnn (ao _) hs' hq he
 case step =>
  rintro x c st' hax hxn ⟨neq,rfl,hB',hF,hs',hq,he⟩;dsimp only;have hsz:lo+x<=(arrOf st').size:=by rw[hB'.size];omega
  refine ai (wpS_ltI C hB' ∅ ∅ ?_);cases hless:O.blt (KA key (arrOf st') (lo+x)) (KA key (arrOf st') (lo+x-1))
  case true =>
   simp only[if_true];have step1:∀ xs:Array Keyed,(∀ k,KA key xs k=KA key (arrOf st') k)->SegD key xs lo (lo+(x+1)):=by
    intro xs hk i j hli hij hj;rw[hk,hk];by_cases hjx:j<lo+x
    ·exact hs' i j hli hij hjx
    ·have hj':j=lo+x:=∅
     subst hj';by_cases hi':i=lo+x
     ·subst hi';exact bZ _
     ·exact aT (aM hless) (hs' i (lo+x-1) hli ∅ ∅)
   by_cases hneq:neq>0
   ·rw[if_pos hneq];refine ai (wpS_rev (ag ⟨0,rfl,hB'.setArr (im _ _ _ _),hF.trans (From.mirror ∅ hsz),step1 _ (KA_mirror_equal hsz he),∅,λi h1 h2=>by congr 1;congr 1;omega⟩))
   ·rw[if_neg hneq];exact ag ⟨0,rfl,hB',hF,step1 _ (λ_=>rfl),∅,λi h1 h2=>by congr 1;congr 1;omega⟩
  case false =>
   simp only[aC,if_false];refine ai (wpS_ltI C hB' ∅ ∅ ?_);cases hlarger:O.blt (KA key (arrOf st') (lo+x-1)) (KA key (arrOf st') (lo+x))
   case true =>
    simp only[if_true];exact ag (h x neq st' hB' hF hax ∅ hs' hq he)
   case false =>
    simp only[aC,if_false];have heqx:KA key (arrOf st') (lo+x)=KA key (arrOf st') (lo+x-1):=iw hlarger hless;refine ag ⟨neq+1,rfl,hB',hF,λi j hli hij hj=>?_,∅,λi h1 h2=>?_⟩
    ·by_cases hjx:j<lo+x
     ·exact hs' i j hli hij hjx
     ·have hj':j=lo+x:=∅
      subst hj';by_cases hi':i=lo+x
      ·subst hi';exact bZ _
      ·rw[heqx];exact hs' i (lo+x-1) hli ∅ ∅
    ·rw[show lo+(x+1)-1=lo+x by omega];by_cases hix:i=lo+x
     ·subst hix;rfl
     ·rw[heqx];exact he i ∅ ∅
theorem wpS_desP {st:SortSt}{lo n nrem:Nat}{Q:Option Nat->SortSt->Prop}(C:Cmp M A E s knd O key a₀)(hn:lo+nrem<=a₀.size)(hnn:n+1<=nrem)(hB:SB a₀ knd st)
  (hs:SegD key (arrOf st) lo (lo+(n+1))) (h:∀ m st',SB a₀ knd st'->From lo st st'->1<=m->m<=nrem->Seg key (arrOf st') lo (lo+m)->Q (some m) st') :
  wpS M A E s (desP lo n nrem) Q st:=by
 unfold desP;refine ai (wpS_rule ?_);refine ai (wpS_desL C hn ∅ hnn hB hs λm neq st' hB' hF hm1 hm2 hs' hq he=>?_);dsimp only;have hsz:lo+m<=(arrOf st').size:=by rw[hB'.size];omega
 by_cases hneq:neq>0
 ·rw[if_pos hneq];refine ai (wpS_rev (wpS_t3L C hn ∅ hm2 (hB'.setArr (im _ _ _ _)) ?_ λm' st'' a b=>h m' st'' a (hF.trans ((From.mirror ∅ hsz).trans b))));intro i j hli hij hj;show O.kle (KA key (mirror (arrOf st') _ _ _) j) (KA key (mirror (arrOf st') _ _ _) i);rw[KA_mirror_equal hsz he,KA_mirror_equal hsz he];exact hs' i j hli hij hj
 ·rw[if_neg hneq];exact wpS_t3L C hn ∅ hm2 hB' hs' λm' st'' a b=>h m' st'' a (hF.trans b)
theorem wpS_cR {st:SortSt}{lo nrem:Nat}{Q:Option Nat->SortSt->Prop}(C:Cmp M A E s knd O key a₀)(hn:lo+nrem<=a₀.size)(h1:1<=nrem)(hB:SB a₀ knd st)
  (h:∀ m st',SB a₀ knd st'->From lo st st'->1<=m->m<=nrem->Seg key (arrOf st') lo (lo+m)->Q (some m) st') :
  wpS M A E s (countRun' lo nrem) Q st:=by
 rw[cR_eq];refine ai (wpS_ascL C hn (ao 1) h1 hB (Seg.one _ _) λn hn1 hn2 hsn hor=>?_);dsimp only;by_cases hnn:n=nrem
 ·rw[if_pos (~~~hnn)];exact ag (h n st hB (From.refl _ _) hn1 hn2 hsn)
 ·rw[if_neg (~~~hnn)];have hlt:O.klt (KA key (arrOf st) (lo+n)) (KA key (arrOf st) (lo+n-1)):=hor.resolve_left hnn;by_cases hgt:n>1
  ·rw[if_pos hgt];refine ai (wpS_ltI C hB ∅ ∅ ?_);cases hrose:O.blt (KA key (arrOf st) lo) (KA key (arrOf st) (lo+n-1))
   case true =>
    simp only[if_true];exact ag (h n st hB (From.refl _ _) hn1 hn2 hsn)
   case false =>
    simp only[aC,if_false];have hsz:lo+n<=(arrOf st).size:=by rw[hB.size];omega
    have hall:∀ k,lo<=k->k<lo+n->KA key (arrOf st) k=KA key (arrOf st) (lo+n-1):=by
     intro k hlk hk;have a1:=hsn lo k ∅ ∅ hk;have a2:=hsn k (lo+n-1) hlk ∅ ∅;exact iw a2 (aT hrose a1)
    refine ai (wpS_rev (wpS_desP C hn ∅ (hB.setArr (im _ _ _ _)) ?_ λm' st'' a b=>h m' st'' a ((From.mirror (ao lo) hsz).trans b)));intro i j hli hij hj;show O.kle (KA key (mirror (arrOf st) _ _ _) j) (KA key (mirror (arrOf st) _ _ _) i);rw[KA_mirror_equal hsz hall,KA_mirror_equal hsz hall];by_cases hjn:j<lo+n
    ·rw[hall i ∅ ∅,hall j ∅ hjn];exact bZ _
    ·have hj':j=lo+n:=∅
     subst hj';by_cases hi':i=lo+n
     ·subst hi';exact bZ _
     ·rw[hall i ∅ ∅];exact aM hlt
  ·rw[if_neg hgt];have hn1':n=1:=∅
   subst hn1';refine wpS_desP C hn ∅ hB ?_ h;intro i j hli hij hj;by_cases hi':i=j
   ·subst hi';exact bZ _
   ·have hi0:i=lo:=∅
    have hj1:j=lo+1:=∅
    subst hi0;subst hj1;exact aM hlt
theorem wpS_bS {st:SortSt}{lo n ok:Nat}{Q:Bool->SortSt->Prop}(C:Cmp M A E s knd O key a₀)(hn:lo+n<=a₀.size)(hok:ok<=n)(hB:SB a₀ knd st)(hs:Seg key (arrOf st) lo (lo+ok))
  (h:∀ st',SB a₀ knd st'->From lo st st'->Seg key (arrOf st') lo (lo+n)->Q true st'):wpS M A E s (binarySort' lo n ok) Q st:=by
 rw[binarySort'_eq]
 refine ai (cP (bK (I:=λk c st'=>c=(none,())/\SB a₀ knd st'/\From lo st st'/\Seg key (arrOf st') lo (lo+min k n))
  (Q:=λc st'=>c=(none,())/\SB a₀ knd st'/\From lo st st'/\Seg key (arrOf st') lo (lo+n)) ?step ?fin ?init) ?post)
 case post =>
  rintro c st' ⟨rfl,hB',hF,hs'⟩;exact ag (h st' hB' hF hs')
 case init =>
  refine⟨rfl,hB,From.refl _ _,λi j hli hij hj=>?_⟩;by_cases h1:ok=0
  ·have:i=j:=∅
   subst this;exact bZ _
  ·exact hs i j hli hij ∅
 case fin =>
  rintro c st' ⟨hc,hB',hF,hs'⟩;refine⟨hc,hB',hF,?_⟩
  rwa [show min (max (max ok 1) n) n=n by omega] at hs'
 case step =>
  rintro k c st' hak hkn ⟨rfl,hB',hF,hs'⟩;rw[show min k n=k by omega] at hs';have hk:lo+k<a₀.size:=∅
  refine ai (cP (bK (I:=λx c st''=>st''=st'/\∃ l r,c=(none,l,r)/\l<=r/\r<=k/\r-l<=k-x /\
    (∀ i,i<l->O.kle (KA key (arrOf st') (lo+i)) (KA key (arrOf st') (lo+k)))/\(∀ i,r<=i->i<k->O.klt (KA key (arrOf st') (lo+k)) (KA key (arrOf st') (lo+i))))
   (Q:=λc st''=>st''=st'/\∃ l r,c=(none,l,r)/\l<=k /\
    (∀ i,i<l->O.kle (KA key (arrOf st') (lo+i)) (KA key (arrOf st') (lo+k)))/\(∀ i,l<=i->i<k->O.klt (KA key (arrOf st') (lo+k)) (KA key (arrOf st') (lo+i)))) ?istep ?ifin ?iinit) ?ipost)
  case iinit=>exact⟨rfl,0,k,rfl,∅,∅,∅,λi hi=>∅,λi h1 h2=>∅⟩
  case ifin =>
   rintro c st'' ⟨rfl,l,r,rfl,hlr,hrk,hm,hlo,hhi⟩;have:l=r:=∅
   subst this;exact⟨rfl,l,l,rfl,hrk,hlo,hhi⟩
  case istep =>
   rintro x c st'' _ hxk ⟨rfl,l,r,rfl,hlr,hrk,hm,hlo,hhi⟩;dsimp only;by_cases hge:l>=r
   ·rw[if_pos hge];have:l=r:=∅
    subst this;exact ag ⟨rfl,l,l,rfl,hrk,hlo,hhi⟩
   ·rw[if_neg hge];refine ai (wpS_ltI C hB' hk ∅ ?_);cases hless:O.blt (KA key (arrOf st'') (lo+k)) (KA key (arrOf st'') (lo+(l+r) / 2))
    case true =>
     simp only[if_true];refine ag ⟨rfl,l,(l+r) / 2,rfl,∅,∅,∅,hlo,λi h1 h2=>?_⟩;exact KeyOrd.klt_of_klt_of_kle hless (hs' _ _ ∅ ∅ ∅)
    case false =>
     simp only[aC,if_false];refine ag ⟨rfl,(l+r) / 2+1,r,rfl,∅,∅,∅,λi h1=>?_,hhi⟩;exact aT (hs' (lo+i) (lo+(l+r) / 2) ∅ ∅ ∅) (show O.kle _ _ from hless)
  case ipost =>
   rintro c st'' ⟨rfl,l,r,rfl,hlk,hlo,hhi⟩;show wpS _ _ _ _ (do moveDown' (lo+k) (lo+l);pure (bJ (none,()))) _ _;rw[moveDown'_eq];have hks:lo+k<(arrOf st'').size:=by rw[hB'.size];exact hk
   refine ai (dt (ag ⟨rfl,hB'.setArr (bubble_perm _ _ _),hF.trans (From.bubble hks ∅ ∅),?_⟩));rw[show min (k+1) n=k+1 by omega];intro i j hli hij hj;show O.kle (KA key (bubble (arrOf st'') (lo+k) (lo+k-(lo+l))) i) (KA key (bubble (arrOf st'') (lo+k) (lo+k-(lo+l))) j);rw[KA_bubble hks ∅,KA_bubble hks ∅,show lo+k-(lo+k-(lo+l))=lo+l by omega];have hlo':∀ i,lo<=i->i<lo+l->O.kle (KA key (arrOf st'') i) (KA key (arrOf st'') (lo+k)):=λi a b=>by
    have:=hlo (i-lo) ∅
    rwa [show lo+(i-lo)=i by omega] at this
   have hhi':∀ i,lo+l<=i->i<lo+k->O.klt (KA key (arrOf st'') (lo+k)) (KA key (arrOf st'') i):=λi a b=>by
    have:=hhi (i-lo) ∅ ∅
    rwa [show lo+(i-lo)=i by omega] at this
   repeat' split
   all_goals first
    | (exfalso;omega)
    | exact bZ _
    | exact hlo' _ ∅ ∅
    | exact aM (hhi' _ ∅ ∅)
    | exact hs' _ _ ∅ ∅ ∅
end
end Ts
namespace Ts
open PySem PyProof.Rows
set_option autoImplicit false
section
variable {M:Model}{A:Around}{E:Value->Shared->Prop}{s:Shared}{a₀:Array Keyed}{knd:SortKind}{O:KeyOrd}{key:Keyed->O.α}
theorem wpS_galP {P:Nat->Bool}{lf:Bool}{ky:Keyed}{ar:Array Keyed}{bs nn hn:Nat}{st:SortSt}{Q:Option Nat->SortSt->Prop}(hk:kindOf st=knd)
  (hb:∀ i,i<nn->∀(st:SortSt) (Q:Option Bool->SortSt->Prop),kindOf st=knd->Q (some (P i)) st ->
   wpS M A E s (do let xx <- elem' ar (bs+i);if lf then lt' xx ky else return (<- lt' ky xx).map (!·)) Q st)
  (hP:∀ i j,i<=j->j<nn->P j=true->P i=true) (hh:hn<nn)
  (h:∀ k,k<=nn->(∀ i,i<k->P i=true)->(∀ i,k<=i->i<nn->P i=false)->Q (some k) st):wpS M A E s (galP lf ky ar bs nn hn) Q st:=by
 rw[galP_eq];have hN:∀ i j,i<=j->j<nn->P i=false->P j=false:=λi j a b c=>by
  cases e:P j with
  | false=>rfl
  | true=>rw[hP i j a b e] at c;exact absurd c (by simp)
 refine ai (hb hn hh _ _ hk ?_);cases e:P hn with
 | true =>
  simp only[if_true]
  refine ai (cP (bK (I:=λx c st'=>st'=st/\∃ la o,c=(none,la,o)/\la<o/\x+1<=o/\hn+la<nn/\P (hn+la)=true)
   (Q:=λc st'=>st'=st/\∃ la o,c=(none,la,o)/\la<o/\hn+la<nn/\P (hn+la)=true/\(nn-hn<=o\/(o<nn-hn/\P (hn+o)=false))) ?step ?fin ⟨rfl,0,1,rfl,∅,∅,hh,e⟩) ?post)
  case fin =>
   rintro c st' ⟨rfl,la,o,rfl,h1,h2,h3,h4⟩;exact⟨rfl,la,o,rfl,h1,h3,h4,.inl ∅⟩
  case step =>
   rintro x c st' _ hx ⟨rfl,la,o,rfl,h1,h2,h3,h4⟩;dsimp only;by_cases hge:o>=nn-hn
   ·rw[if_pos hge];exact ag ⟨rfl,la,o,rfl,h1,h3,h4,.inl hge⟩
   ·rw[if_neg hge];refine ai (hb (hn+o) ∅ _ _ hk ?_);cases e2:P (hn+o) with
    | true =>
     simp only[cF,aC,if_false];exact ag ⟨rfl,o,_,rfl,∅,∅,∅,e2⟩
    | false =>
     simp only[g7,if_true];exact ag ⟨rfl,la,o,rfl,h1,h3,h4,.inr ⟨∅,e2⟩⟩
  case post =>
   rintro c st' ⟨rfl,la,o,rfl,h1,h3,h4,h5⟩;dsimp only;have hT:∀ i,i<(hn+la+1)->P i=true:=λi hi=>hP i (hn+la) ∅ h3 h4
   have hF:∀ i,(hn+min o (nn-hn))<=i->i<nn->P i=false:=λi hi hin=>by
    rcases h5 with h5 | ⟨h5,h6⟩
    ·omega
    ·exact hN (hn+o) i ∅ hin h6
   refine ai (cP (bK (I:=λx c st''=>st''=st'/\∃ l r,c=(none,l,r)/\l<=r/\r<=nn/\r-l<=nn-x/\(∀ i,i<l->P i=true)/\(∀ i,r<=i->i<nn->P i=false))
    (Q:=λc st''=>st''=st'/\∃ l,c=(none,l,l)/\l<=nn/\(∀ i,i<l->P i=true)/\(∀ i,l<=i->i<nn->P i=false)) ?step2 ?fin2 ⟨rfl,(hn+la+1),(hn+min o (nn-hn)),rfl,∅,∅,∅,hT,hF⟩) ?post2)
   case fin2 =>
    rintro c st'' ⟨rfl,l,r,rfl,h1,h2,h3,h4,h5⟩;have:l=r:=∅
    subst this;exact⟨rfl,l,rfl,h2,h4,h5⟩
   case post2 =>
    rintro c st'' ⟨rfl,l,rfl,h2,h4,h5⟩;exact ag (h l h2 h4 h5)
   case step2 =>
    rintro x c st'' _ hx ⟨rfl,l,r,rfl,h1,h2,h3,h4,h5⟩;dsimp only;by_cases hge:l>=r
    ·rw[if_pos hge];have:l=r:=∅
     subst this;exact ag ⟨rfl,l,rfl,h2,h4,h5⟩
    ·rw[if_neg hge];refine ai (hb (l+(r-l) / 2) ∅ _ _ hk ?_);cases e:P (l+(r-l) / 2) with
     | true =>
      simp only[if_true];exact ag ⟨rfl,_,r,rfl,∅,h2,∅,λi hi=>hP i _ ∅ ∅ e,h5⟩
     | false =>
      simp only[aC,if_false];exact ag ⟨rfl,l,_,rfl,∅,∅,∅,h4,λi a b=>hN _ i a b e⟩
 | false =>
  simp only[aC,if_false]
  refine ai (cP (bK (I:=λx c st'=>st'=st/\∃ la o,c=(none,la,o)/\la<o/\x+1<=o/\la<=hn/\P (hn-la)=false)
   (Q:=λc st'=>st'=st/\∃ la o,c=(none,la,o)/\la<o/\la<=hn/\P (hn-la)=false/\(hn+1<=o\/(o<=hn/\P (hn-o)=true))) ?step ?fin ⟨rfl,0,1,rfl,∅,∅,∅,e⟩) ?post)
  case fin =>
   rintro c st' ⟨rfl,la,o,rfl,h1,h2,h3,h4⟩;exact⟨rfl,la,o,rfl,h1,h3,h4,.inl ∅⟩
  case step =>
   rintro x c st' _ hx ⟨rfl,la,o,rfl,h1,h2,h3,h4⟩;dsimp only;by_cases hge:o>=hn+1
   ·rw[if_pos hge];exact ag ⟨rfl,la,o,rfl,h1,h3,h4,.inl hge⟩
   ·rw[if_neg hge];refine ai (hb (hn-o) ∅ _ _ hk ?_);cases e2:P (hn-o) with
    | true =>
     simp only[if_true];exact ag ⟨rfl,la,o,rfl,h1,h3,h4,.inr ⟨∅,e2⟩⟩
    | false =>
     simp only[aC,if_false];exact ag ⟨rfl,o,_,rfl,∅,∅,∅,e2⟩
  case post =>
   rintro c st' ⟨rfl,la,o,rfl,h1,h3,h4,h5⟩;dsimp only;have hT:∀ i,i<(hn+1-min o (hn+1))->P i=true:=λi hi=>by
    rcases h5 with h5 | ⟨h5,h6⟩
    ·omega
    ·exact hP i (hn-o) ∅ ∅ h6
   have hF:∀ i,(hn-la)<=i->i<nn->P i=false:=λi hi hin=>hN (hn-la) i hi hin h4
   refine ai (cP (bK (I:=λx c st''=>st''=st'/\∃ l r,c=(none,l,r)/\l<=r/\r<=nn/\r-l<=nn-x/\(∀ i,i<l->P i=true)/\(∀ i,r<=i->i<nn->P i=false))
    (Q:=λc st''=>st''=st'/\∃ l,c=(none,l,l)/\l<=nn/\(∀ i,i<l->P i=true)/\(∀ i,l<=i->i<nn->P i=false)) ?step2 ?fin2 ⟨rfl,(hn+1-min o (hn+1)),(hn-la),rfl,∅,∅,∅,hT,hF⟩) ?post2)
   case fin2 =>
    rintro c st'' ⟨rfl,l,r,rfl,h1,h2,h3,h4,h5⟩;have:l=r:=∅
    subst this;exact⟨rfl,l,rfl,h2,h4,h5⟩
   case post2 =>
    rintro c st'' ⟨rfl,l,rfl,h2,h4,h5⟩;exact ag (h l h2 h4 h5)
   case step2 =>
    rintro x c st'' _ hx ⟨rfl,l,r,rfl,h1,h2,h3,h4,h5⟩;dsimp only;by_cases hge:l>=r
    ·rw[if_pos hge];have:l=r:=∅
     subst this;exact ag ⟨rfl,l,rfl,h2,h4,h5⟩
    ·rw[if_neg hge];refine ai (hb (l+(r-l) / 2) ∅ _ _ hk ?_);cases e:P (l+(r-l) / 2) with
     | true =>
      simp only[if_true];exact ag ⟨rfl,_,r,rfl,∅,h2,∅,λi hi=>hP i _ ∅ ∅ e,h5⟩
     | false =>
      simp only[aC,if_false];exact ag ⟨rfl,l,_,rfl,∅,∅,∅,h4,λi a b=>hN _ i a b e⟩
theorem wpS_galR {ky:Keyed}{ar:Array Keyed}{bs nn hn:Nat}{st:SortSt}{Q:Option Nat->SortSt->Prop}(C:Cmp M A E s knd O key a₀)(hk:kindOf st=knd)(hm:ky∈a₀.toList)
  (ha:∀ i,i<nn->el ar (bs+i)∈a₀.toList) (hsz:bs+nn<=ar.size) (hs:Seg key ar bs (bs+nn)) (hh:hn<nn)
  (h:∀ k,k<=nn->(∀ i,bs<=i->i<bs+k->O.kle (KA key ar i) (key ky))->(∀ i,bs+k<=i->i<bs+nn->O.klt (key ky) (KA key ar i))->Q (some k) st):wpS M A E s (galP false ky ar bs nn hn) Q st:=by
 refine wpS_galP (P:=λi=>!O.blt (key ky) (KA key ar (bs+i))) hk (λi hi st Q hk q=>?_) (λi j hij hj e=>?_) hh λk hk1 h1 h2=>?_
 ·refine ai (wpS_elem ∅ ?_);simp only[aC,if_false];exact ai (C _ hm _ (ha i hi) st _ hk (ag q))
 ·have e':O.kle (KA key ar (bs+j)) (key ky):=by simpa [KeyOrd.kle] using e
  have:=aT (hs (bs+i) (bs+j) ∅ ∅ ∅) e';simpa [KeyOrd.kle] using this
 ·refine h k hk1 (λi a b=>?_) λi a b=>?_
  ·have:=h1 (i-bs) ∅;rw[show bs+(i-bs)=i by omega] at this;simpa [KeyOrd.kle] using this
  ·have:=h2 (i-bs) ∅ ∅;rw[show bs+(i-bs)=i by omega] at this;simpa [KeyOrd.klt] using this
theorem wpS_galL {ky:Keyed}{ar:Array Keyed}{bs nn hn:Nat}{st:SortSt}{Q:Option Nat->SortSt->Prop}(C:Cmp M A E s knd O key a₀)(hk:kindOf st=knd)(hm:ky∈a₀.toList)
  (ha:∀ i,i<nn->el ar (bs+i)∈a₀.toList) (hsz:bs+nn<=ar.size) (hs:Seg key ar bs (bs+nn)) (hh:hn<nn)
  (h:∀ k,k<=nn->(∀ i,bs<=i->i<bs+k->O.klt (KA key ar i) (key ky))->(∀ i,bs+k<=i->i<bs+nn->O.kle (key ky) (KA key ar i))->Q (some k) st):wpS M A E s (galP true ky ar bs nn hn) Q st:=by
 refine wpS_galP (P:=λi=>O.blt (KA key ar (bs+i)) (key ky)) hk (λi hi st Q hk q=>?_) (λi j hij hj e=>?_) hh λk hk1 h1 h2=>?_
 ·refine ai (wpS_elem ∅ ?_);simp only[if_true];exact C _ (ha i hi) _ hm st _ hk q
 ·exact KeyOrd.klt_of_kle_of_klt (hs (bs+i) (bs+j) ∅ ∅ ∅) e
 ·refine h k hk1 (λi a b=>?_) λi a b=>?_
  ·have:=h1 (i-bs) ∅
   rwa [show bs+(i-bs)=i by omega] at this
  ·have:=h2 (i-bs) ∅ ∅
   rwa [show bs+(i-bs)=i by omega] at this
end
end Ts
namespace Ts
open PySem PyProof.Rows
set_option autoImplicit false
theorem toList_el {a:Array Keyed}{k:Nat}(h:k<a.size):a.toList[k]?=some (el a k):=by
 rw[aW];exact el_some h
theorem take_succ_el {a:Array Keyed}{i:Nat}(h:i<a.size):a.toList.take (i+1)=a.toList.take i++[el a i]:=by
 rw[cw,toList_el h];rfl
theorem drop_el {a:Array Keyed}{i:Nat}(h:i<a.size):a.toList.drop i=el a i::a.toList.drop (i+1):=by
 have hl:i<a.toList.length:= ~~~h
 rw[eF hl];congr 1;have:=toList_el h;rw[ak hl] at this;exact aG this
theorem mem_drop_el {a:Array Keyed}{i:Nat}{y:Keyed}(h:y∈a.toList.drop i):∃ k,i<=k/\k<a.size/\y=el a k:=by
 obtain⟨n,hn⟩:=bN.mp h;rw[gb] at hn;have hlt:i+n<a.size:=by
  have:=(aK.mp hn).1;simpa using this
 rw[toList_el hlt] at hn;exact⟨i+n,∅,hlt,(aG hn).symm⟩
theorem mem_take_el {a:Array Keyed}{i:Nat}{y:Keyed}(h:y∈a.toList.take i):∃ k,k<i/\k<a.size/\y=el a k:=by
 obtain⟨n,hn⟩:=bN.mp h;by_cases hi:n<i
 ·rw[eO hi] at hn;have hlt:n<a.size:=by
   have:=(aK.mp hn).1;simpa using this
  rw[toList_el hlt] at hn;exact⟨n,hi,hlt,(aG hn).symm⟩
 ·rw[List.getElem?_take_eq_none ∅] at hn;cases hn
theorem ext_end (a:Array Keyed)(i:Nat):(a.extract i a.size).toList=a.toList.drop i:=by
 rw[cn,bV,fq (by simp)]
theorem ext_top (a:Array Keyed)(i:Nat):(a.extract 0 i).toList=a.toList.take i:=by
 rw[cn,bV];simp
theorem ext_mid {a:Array Keyed}{i k:Nat}(h:i+k<a.size):(a.extract i (i+(k+1))).toList=(a.extract i (i+k)).toList++[el a (i+k)]:=by
 rw[cn,bV,cn,bV,show i+(k+1)-i=k+1 by omega,show i+k-i=k by omega,cw,gb,toList_el h];rfl
theorem ext_low {a:Array Keyed}{p i:Nat}(h:p<i)(hi:i<=a.size):(a.extract p i).toList=el a p::(a.extract (p+1) i).toList:=by
 rw[cn,bV,cn,bV,drop_el ∅,show i-p=(i-(p+1))+1 by omega,List.take_succ_cons]
section
variable {O:KeyOrd}{key:Keyed->O.α}
def le {O:KeyOrd}(key:Keyed->O.α)(p q:Keyed):Prop:=O.kle (key p) (key q)
theorem pw_of_seg {a:Array Keyed}(h:Seg key a 0 a.size):a.toList.Pairwise (le key):=by
 rw[bU];intro i j hi hj hij;have hi':i<a.size:= ~~~hi
 have hj':j<a.size:= ~~~hj
 have e1:=toList_el hi';rw[ak hi] at e1;have e2:=toList_el hj';rw[ak hj] at e2;rw[aG e1,aG e2];exact h i j ∅ ∅ hj'
theorem seg_of_pw {a:Array Keyed}(h:a.toList.Pairwise (le key)):Seg key a 0 a.size:=by
 rw[bU] at h;intro i j _ hij hj;by_cases e:i=j
 ·subst e;exact bZ _
 ·have hi':i<a.size:=∅
  have hi:i<a.toList.length:= ~~~hi'
  have hj2:j<a.toList.length:= ~~~hj
  have e1:=toList_el hi';rw[ak hi] at e1;have e2:=toList_el hj;rw[ak hj2] at e2;have:=h i j hi hj2 ∅;rw[aG e1,aG e2] at this;exact this
def Res {O:KeyOrd}(key:Keyed->O.α)(a b m:Array Keyed):Prop:=m.toList.Perm (a.toList++b.toList)/\m.toList.Pairwise (le key)
structure GLo {O:KeyOrd}(key:Keyed->O.α)(a b o:Array Keyed)(i j:Nat):Prop where
 hi:i<=a.size
 hj:j<=b.size
 sz:o.size=i+j
 pm:o.toList.Perm (a.toList.take i++b.toList.take j)
 so:o.toList.Pairwise (le key)
 la:∀ x∈o.toList,∀ k,i<=k->k<a.size->le key x (el a k)
 lb:∀ x∈o.toList,∀ k,j<=k->k<b.size->le key x (el b k)
variable {a b o:Array Keyed}{i j:Nat}
theorem GLo.pushB (g:GLo key a b o i j)(sb:Seg key b 0 b.size)(h:j<b.size)(hl:∀ k,i<=k->k<a.size->le key (el b j) (el a k)):GLo key a b (o.push (el b j)) i (j+1) where
 hi:=g.hi
 hj:=h
 sz:=by rw[fD,g.sz];omega
 pm:=by
  rw[aY,take_succ_el h,<- bd];exact g.pm.append_right _
 so:=by
  rw[aY,bz];refine⟨g.so,bE _ _,λx hx y hy=>?_⟩;rw[au.mp hy];exact g.lb x hx j (ao _) h
 la:=λx hx k h1 h2=>by
  rw[aY,aA,au] at hx;rcases hx with hx | rfl
  ·exact g.la x hx k h1 h2
  ·exact hl k h1 h2
 lb:=λx hx k h1 h2=>by
  rw[aY,aA,au] at hx;rcases hx with hx | rfl
  ·exact g.lb x hx k ∅ h2
  ·exact sb j k ∅ ∅ h2
theorem GLo.pushA (g:GLo key a b o i j)(sa:Seg key a 0 a.size)(h:i<a.size)(hl:∀ k,j<=k->k<b.size->le key (el a i) (el b k)):GLo key a b (o.push (el a i)) (i+1) j where
 hi:=h
 hj:=g.hj
 sz:=by rw[fD,g.sz];omega
 pm:=by
  rw[aY,take_succ_el h];refine (g.pm.append_right _).trans ?_;rw[bd,bd];exact cE.append_left _
 so:=by
  rw[aY,bz];refine⟨g.so,bE _ _,λx hx y hy=>?_⟩;rw[au.mp hy];exact g.la x hx i (ao _) h
 la:=λx hx k h1 h2=>by
  rw[aY,aA,au] at hx;rcases hx with hx | rfl
  ·exact g.la x hx k ∅ h2
  ·exact sa i k ∅ ∅ h2
 lb:=λx hx k h1 h2=>by
  rw[aY,aA,au] at hx;rcases hx with hx | rfl
  ·exact g.lb x hx k h1 h2
  ·exact hl k h1 h2
theorem app_nil (a o:Array Keyed)(i:Nat):o++a.extract i (i+0)=o:=by
 apply gi;simp
theorem app_succ {a o:Array Keyed}{i k:Nat}(h:i+k<a.size):o++a.extract i (i+(k+1))=(o++a.extract i (i+k)).push (el a (i+k)):=by
 apply gi;rw[bi,ext_mid h,aY,bi,bd]
theorem GLo.appA (g:GLo key a b o i j)(sa:Seg key a 0 a.size):∀ k,i+k<=a.size->(∀ m,i<=m->m<i+k->∀ n,j<=n->n<b.size->le key (el a m) (el b n))->GLo key a b (o++a.extract i (i+k)) (i+k) j
 | 0,_,_=>by rw[app_nil];exact g
 | k+1,h,hl=>by
  rw[app_succ ∅];exact (GLo.appA g sa k ∅ λm h1 h2=>hl m h1 ∅).pushA sa ∅ λn h1 h2=>hl (i+k) ∅ ∅ n h1 h2
theorem GLo.appB (g:GLo key a b o i j)(sb:Seg key b 0 b.size):∀ k,j+k<=b.size->(∀ m,j<=m->m<j+k->∀ n,i<=n->n<a.size->le key (el b m) (el a n))->GLo key a b (o++b.extract j (j+k)) i (j+k)
 | 0,_,_=>by rw[app_nil];exact g
 | k+1,h,hl=>by
  rw[app_succ ∅];exact (GLo.appB g sb k ∅ λm h1 h2=>hl m h1 ∅).pushB sb ∅ λn h1 h2=>hl (j+k) ∅ ∅ n h1 h2
theorem pw_drop {a:Array Keyed}(h:Seg key a 0 a.size)(i:Nat):(a.toList.drop i).Pairwise (le key):=(pw_of_seg h).sublist (dy _ _)
theorem pw_take {a:Array Keyed}(h:Seg key a 0 a.size)(i:Nat):(a.toList.take i).Pairwise (le key):=(pw_of_seg h).sublist (cY _ _)
theorem perm4 {α:Type}(A B C D:List α):(A++B++(C++D)).Perm (A++C++(B++D)):=by
 rw[bd,bd];refine gU A ?_;rw[<- bd,<- bd];exact cE.append_right D
theorem GLo.done (g:GLo key a b o i j)(sa:Seg key a 0 a.size)(sb:Seg key b 0 b.size)(h:i=a.size\/j=b.size):Res key a b (o++a.extract i a.size++b.extract j b.size):=by
 unfold Res;rw[bi,bi,ext_end,ext_end];refine⟨?_,?_⟩
 ·rw[bd];refine (g.pm.append_right _).trans ((perm4 _ _ _ _).trans ?_);rw[ba,ba]
 ·rw[bd,bz];refine⟨g.so,?_,λx hx y hy=>?_⟩
  ·rcases h with h | h
   ·rw[h,cN (by simp)];exact pw_drop sb j
   ·rw[h,cN (l:=b.toList) (by simp),b9];exact pw_drop sa i
  ·rcases aA.mp hy with hy | hy
   ·obtain⟨k,h1,h2,rfl⟩:=mem_drop_el hy;exact g.la x hx k h1 h2
   ·obtain⟨k,h1,h2,rfl⟩:=mem_drop_el hy;exact g.lb x hx k h1 h2
theorem GLo.last (g:GLo key a b o i j)(sb:Seg key b 0 b.size)(h:i+1=a.size)(hl:∀ k,j<=k->k<b.size->le key (el b k) (el a i)):Res key a b (o++b.extract j b.size++a.extract i a.size):=by
 unfold Res;rw[bi,bi,ext_end,ext_end];have ed:a.toList.drop i=[el a i]:=by rw[drop_el ∅,cN (by simp;omega)]
 refine⟨?_,?_⟩
 ·rw[bd];refine (g.pm.append_right _).trans ((cE.append_left _).trans ((perm4 _ _ _ _).trans ?_));rw[ba,ba]
 ·rw[bd,bz,ed];refine⟨g.so,?_,λx hx y hy=>?_⟩
  ·rw[bz];refine⟨pw_drop sb j,bE _ _,λx hx y hy=>?_⟩;obtain⟨k,h1,h2,rfl⟩:=mem_drop_el hx;rw[au.mp hy];exact hl k h1 h2
  ·rcases aA.mp hy with hy | hy
   ·obtain⟨k,h1,h2,rfl⟩:=mem_drop_el hy;exact g.lb x hx k h1 h2
   ·rw[au.mp hy];exact g.la x hx i (ao _) ∅
structure GHi {O:KeyOrd}(key:Keyed->O.α)(a b o:Array Keyed)(i j:Nat):Prop where
 hi:i<=a.size
 hj:j<=b.size
 sz:o.size+i+j=a.size+b.size
 pm:o.toList.Perm (a.toList.drop i++b.toList.drop j)
 so:o.toList.Pairwise λp q=>le key q p
 la:∀ x∈o.toList,∀ k,k<i->le key (el a k) x
 lb:∀ x∈o.toList,∀ k,k<j->le key (el b k) x
theorem GHi.pushA (g:GHi key a b o (i+1) j)(sa:Seg key a 0 a.size)(hl:∀ k,k<j->le key (el b k) (el a i)):GHi key a b (o.push (el a i)) i j where
 hi:=by have:=g.hi;omega
 hj:=g.hj
 sz:=by rw[fD];have:=g.sz;omega
 pm:=by
  rw[aY,drop_el (show i<a.size by have:=g.hi;omega)];refine (cE).trans ?_;exact List.Perm.cons _ g.pm
 so:=by
  rw[aY,bz];refine⟨g.so,bE _ _,λx hx y hy=>?_⟩;rw[au.mp hy];exact g.la x hx i ∅
 la:=λx hx k h1=>by
  rw[aY,aA,au] at hx;rcases hx with hx | rfl
  ·exact g.la x hx k ∅
  ·exact sa k i ∅ ∅ (by have:=g.hi;omega)
 lb:=λx hx k h1=>by
  rw[aY,aA,au] at hx;rcases hx with hx | rfl
  ·exact g.lb x hx k h1
  ·exact hl k h1
theorem GHi.pushB (g:GHi key a b o i (j+1))(sb:Seg key b 0 b.size)(hl:∀ k,k<i->le key (el a k) (el b j)):GHi key a b (o.push (el b j)) i j where
 hi:=g.hi
 hj:=by have:=g.hj;omega
 sz:=by rw[fD];have:=g.sz;omega
 pm:=by
  rw[aY,drop_el (show j<b.size by have:=g.hj;omega)];refine (g.pm.append_right _).trans ?_;rw[bd];exact gU _ cE
 so:=by
  rw[aY,bz];refine⟨g.so,bE _ _,λx hx y hy=>?_⟩;rw[au.mp hy];exact g.lb x hx j ∅
 la:=λx hx k h1=>by
  rw[aY,aA,au] at hx;rcases hx with hx | rfl
  ·exact g.la x hx k h1
  ·exact hl k h1
 lb:=λx hx k h1=>by
  rw[aY,aA,au] at hx;rcases hx with hx | rfl
  ·exact g.lb x hx k ∅
  ·exact sb k j ∅ ∅ (by have:=g.hj;omega)
theorem rev_nil (a o:Array Keyed)(p:Nat):o++(a.extract p p).reverse=o:=by
 apply gi;simp
theorem rev_succ {a o:Array Keyed}{p i:Nat}(h:p<i)(hi:i<=a.size):o++(a.extract p i).reverse=(o++(a.extract (p+1) i).reverse).push (el a p):=by
 apply gi;rw[bi,dG,ext_low h hi,aY,bi,dG,dv,bd]
theorem GHi.appA (g:GHi key a b o i j)(sa:Seg key a 0 a.size):∀ d p,p+d=i->(∀ m,p<=m->m<i->∀ k,k<j->le key (el b k) (el a m))->GHi key a b (o++(a.extract p i).reverse) p j
 | 0,p,h,_=>by
  have:p=i:=∅
  subst this;rw[rev_nil];exact g
 | d+1,p,h,hl=>by
  rw[rev_succ ∅ g.hi];exact (GHi.appA g sa d (p+1) ∅ λm h1 h2=>hl m ∅ h2).pushA sa λk hk=>hl p ∅ ∅ k hk
theorem GHi.appB (g:GHi key a b o i j)(sb:Seg key b 0 b.size):∀ d p,p+d=j->(∀ m,p<=m->m<j->∀ k,k<i->le key (el a k) (el b m))->GHi key a b (o++(b.extract p j).reverse) i p
 | 0,p,h,_=>by
  have:p=j:=∅
  subst this;rw[rev_nil];exact g
 | d+1,p,h,hl=>by
  rw[rev_succ ∅ g.hj];exact (GHi.appB g sb d (p+1) ∅ λm h1 h2=>hl m ∅ h2).pushB sb λk hk=>hl p ∅ ∅ k hk
theorem GHi.done (g:GHi key a b o i j)(sa:Seg key a 0 a.size)(sb:Seg key b 0 b.size)(h:i=0\/j=0):Res key a b (a.extract 0 i++b.extract 0 j++o.reverse):=by
 unfold Res;rw[bi,bi,ext_top,ext_top,dG];refine⟨?_,?_⟩
 ·refine (((jb _).trans g.pm).append_left _).trans ((perm4 _ _ _ _).trans ?_);rw[ba,ba]
 ·rw[bz];refine⟨?_,iz.mpr g.so,λx hx y hy=>?_⟩
  ·rcases h with h | h
   ·rw[h,fP,cS];exact pw_take sb j
   ·rw[h,fP,b9];exact pw_take sa i
  ·rw[List.mem_reverse] at hy;rcases aA.mp hx with hx | hx
   ·obtain⟨k,h1,h2,rfl⟩:=mem_take_el hx;exact g.la y hy k h1
   ·obtain⟨k,h1,h2,rfl⟩:=mem_take_el hx;exact g.lb y hy k h1
theorem GHi.first (g:GHi key a b o i j)(sa:Seg key a 0 a.size)(h:j=1)(hl:∀ k,k<i->le key (el b 0) (el a k)):Res key a b (b.extract 0 j++a.extract 0 i++o.reverse):=by
 subst h;unfold Res;rw[bi,bi,ext_top,ext_top,dG];refine⟨?_,?_⟩
 ·refine (((jb _).trans g.pm).append_left _).trans ((cE.append_right _).trans ((perm4 _ _ _ _).trans ?_));rw[ba,ba]
 ·rw[bz];refine⟨?_,iz.mpr g.so,λx hx y hy=>?_⟩
  ·rw[bz];refine⟨?_,pw_take sa i,λx hx y hy=>?_⟩
   ·rw[take_succ_el g.hj,fP];exact bE _ _
   ·obtain⟨k,h1,h2,rfl⟩:=mem_take_el hx;obtain⟨k',h1',h2',rfl⟩:=mem_take_el hy;have:k=0:=∅
    subst this;exact hl k' h1'
  ·rw[List.mem_reverse] at hy;rcases aA.mp hx with hx | hx
   ·obtain⟨k,h1,h2,rfl⟩:=mem_take_el hx;exact g.lb y hy k h1
   ·obtain⟨k,h1,h2,rfl⟩:=mem_take_el hx;exact g.la y hy k h1
end
end Ts
namespace Ts
open PySem PyProof.Rows
set_option autoImplicit false
def Sg (st st':SortSt):Prop:=∃ g,st'=dL (kindOf st) (arrOf st) (pendingOf st) g (failedOf st)
theorem Sg.refl (st:SortSt):Sg st st:=⟨gallopOf st,rfl⟩
theorem Sg.kind {st st':SortSt}(h:Sg st st'):kindOf st'=kindOf st:=by obtain⟨g,rfl⟩:=h;rfl
theorem Sg.set {st st':SortSt}(h:Sg st st')(g:Nat):Sg st (dL (kindOf st') (arrOf st') (pendingOf st') g (failedOf st')):=by obtain⟨g',rfl⟩:=h;exact⟨g,rfl⟩
section
variable {M:Model}{A:Around}{E:Value->Shared->Prop}{s:Shared}{a₀:Array Keyed}{knd:SortKind}{O:KeyOrd}{key:Keyed->O.α}
theorem wpS_setGal {g:Nat}{st:SortSt}{Q:Unit->SortSt->Prop}(h:Q () (dL (kindOf st) (arrOf st) (pendingOf st) g (failedOf st))):wpS M A E s (setGal g) Q st:=dt h
theorem wpS_mLo {a b:Array Keyed}{st:SortSt}{Q:Array Keyed->SortSt->Prop}(C:Cmp M A E s knd O key a₀)(hk:kindOf st=knd)
  (ma:∀ k,k<a.size->el a k∈a₀.toList) (mb:∀ k,k<b.size->el b k∈a₀.toList) (sa:Seg key a 0 a.size) (sb:Seg key b 0 b.size) (ha:1<=a.size) (hb:1<=b.size)
  (h0:∀ k,k<a.size->le key (el b 0) (el a k)) (hl:∀ k,k<b.size->le key (el b k) (el a (a.size-1)))
  (h:∀ m st',Res key a b m->Sg st st'->Q m st'):wpS M A E s (mLo a b) Q st:=by
 rw[mLo_eq];refine ai (wpS_rule ?_);refine ai (wpS_elem hb ?_);dsimp only;have G0:GLo key a b #[el b 0] 0 1 :=
  ⟨∅,hb,rfl,by rw[take_succ_el hb];simp,bE _ _,λx hx k _ h2=>by rw[au.mp hx];exact h0 k h2,λx hx k h1 h2=>by rw[au.mp hx];exact sb 0 k ∅ ∅ h2⟩
 by_cases c1:1=b.size
 ·rw[if_pos (~~~c1)];exact ag (h _ _ (G0.done sa sb (.inr c1)) (Sg.refl _))
 rw[if_neg (~~~c1)];by_cases c2:0+1=a.size
 ·rw[if_pos (~~~c2)];exact ag (h _ _ (G0.last sb c2 λk _ h2=>by rw[show (0:Nat)=a.size-1 by omega];exact hl k h2) (Sg.refl _))
 rw[if_neg (~~~c2)];refine ai (ff ?_)
 refine ai (cP (bK (I:=λx c st'=>Sg st st'/\∃ o i j mg,c=(none,o,i,j,mg)/\GLo key a b o i j/\i+1<a.size/\j<b.size/\x<o.size)
  (Q:=λc st'=>Sg st st'/\∃ m,c.fst=some m/\Res key a b m) ?step ?fin ⟨Sg.refl _,_,_,_,_,rfl,G0,∅,∅,by simp⟩) ?post)
 case fin =>
  rintro c st' ⟨_,o,i,j,mg,rfl,G,h1,h2,h3⟩;have:=G.sz;omega
 case post =>
  rintro⟨r,c⟩ st' ⟨hg,m,e,hr⟩;cases e;exact ag (h m st' hr hg)
 case step =>
  rintro x c st1 _ hx ⟨hg,o,i,j,mg,rfl,G,h1,h2,h3⟩;dsimp only
  refine ai (cP (bK (I:=λy c st'=>st'=st1/\∃ o i j ac bc,c=(none,o,i,j,ac,bc)/\GLo key a b o i j/\i+1<a.size/\j<b.size/\x<o.size/\(0<y->x+1<o.size))
   (Q:=λc st'=>st'=st1/\((∃ m,c.fst=some m/\Res key a b m)\/∃ o i j ac bc,c=(none,o,i,j,ac,bc)/\GLo key a b o i j/\i+1<a.size/\j<b.size/\x+1<o.size)) ?s1 ?f1 ⟨rfl,_,_,_,_,_,rfl,G,h1,h2,h3,∅⟩) ?p1)
  case f1 =>
   rintro c st' ⟨rfl,o,i,j,ac,bc,rfl,G,h1,h2,h3,h4⟩;exact⟨rfl,.inr ⟨o,i,j,ac,bc,rfl,G,h1,h2,h4 ∅⟩⟩
  case s1 =>
   rintro y c st' _ hy ⟨rfl,o,i,j,ac,bc,rfl,G,h1,h2,h3,h4⟩;dsimp only;refine ai (wpS_elem ∅ ?_);refine ai (wpS_elem ∅ ?_);refine ai (C _ (mb _ ∅) _ (ma _ ∅) _ _ (hg.kind.trans hk) ?_);cases hw:O.blt (key (el b j)) (key (el a i)) with
   | true =>
    simp only[if_true];refine ai (wpS_elem ∅ ?_);have G1:=G.pushB sb h2 λk a1 a2=>aT (aM hw) (sa i k ∅ a1 a2)
    have hz:=G.sz;have hz1:=G1.sz;by_cases e1:j+1=b.size
    ·rw[if_pos (~~~e1)];exact ag ⟨rfl,.inl ⟨_,rfl,G1.done sa sb (.inr e1)⟩⟩
    ·rw[if_neg (~~~e1)];split
     ·exact ag ⟨rfl,.inr ⟨_,_,_,_,_,rfl,G1,∅,∅,∅⟩⟩
     ·exact ag ⟨rfl,_,_,_,_,_,rfl,G1,∅,∅,∅,λ_=>∅⟩
   | false =>
    simp only[aC,if_false];refine ai (wpS_elem ∅ ?_);have hw':O.kle (key (el a i)) (key (el b j)):=hw;have G1:=G.pushA sa ∅ λk a1 a2=>aT hw' (sb j k ∅ a1 a2)
    have hz:=G.sz;have hz1:=G1.sz;by_cases e1:i+1+1=a.size
    ·rw[if_pos (~~~e1)];exact ag ⟨rfl,.inl ⟨_,rfl,G1.last sb e1 λk a1 a2=>by rw[show i+1=a.size-1 by omega];exact hl k a2⟩⟩
    ·rw[if_neg (~~~e1)];split
     ·exact ag ⟨rfl,.inr ⟨_,_,_,_,_,rfl,G1,∅,∅,∅⟩⟩
     ·exact ag ⟨rfl,_,_,_,_,_,rfl,G1,∅,∅,∅,λ_=>∅⟩
  case p1 =>
   rintro⟨r,c⟩ st' ⟨rfl,⟨m,e,hr⟩ | ⟨o,i,j,ac,bc,e,G,h1,h2,h3⟩⟩
   ·cases e;exact ag ⟨hg,m,rfl,hr⟩
   ·cases e;dsimp only;refine ai (wpS_rule ?_)
    refine ai (cP (bK (I:=λy c st'=>Sg st st'/\∃ o i j mg ac bc,c=(none,o,i,j,mg,ac,bc)/\GLo key a b o i j/\i+1<a.size/\j<b.size/\x+1<o.size)
     (Q:=λc st'=>Sg st st'/\((∃ m,c.fst=some m/\Res key a b m)\/∃ o i j mg ac bc,c=(none,o,i,j,mg,ac,bc)/\GLo key a b o i j/\i+1<a.size/\j<b.size/\x+1<o.size)) ?s2 ?f2 ⟨hg,_,_,_,_,_,_,rfl,G,h1,h2,h3⟩) ?p2)
    case f2 =>
     rintro c st' ⟨hg,o,i,j,mg,ac,bc,rfl,G,h1,h2,h3⟩;exact⟨hg,.inr ⟨o,i,j,mg,ac,bc,rfl,G,h1,h2,h3⟩⟩
    case p2 =>
     rintro⟨r,c⟩ st' ⟨hg,⟨m,e,hr⟩ | ⟨o,i,j,mg,ac,bc,e,G,h1,h2,h3⟩⟩
     ·cases e;exact ag ⟨hg,m,rfl,hr⟩
     ·cases e;dsimp only;refine ai (wpS_setGal ?_);exact ag ⟨hg.set _,o,i,j,_,rfl,G,h1,h2,h3⟩
    case s2 =>
     rintro y c st' _ hy ⟨hg,o,i,j,mg,ac,bc,rfl,G,h1,h2,h3⟩;dsimp only;have hz0:=G.sz;by_cases hmg:mg>1
     ·rw[if_pos hmg];refine ai (wpS_setGal ?_);refine ai (wpS_elem ∅ ?_);refine ai (wpS_galR C (by exact hg.kind.trans hk) (mb _ ∅) (λm hm=>ma _ ∅) ∅ (sa.sub ∅ ∅) ∅ λk hkk hle hgt0=>?_);dsimp only;have hgt:∀ m,i+k<=m->m<a.size->O.klt (KA key b j) (KA key a m):=λm h1 h2=>hgt0 m h1 ∅
      by_cases hk0:k>0
      ·rw[if_pos hk0];have G1:=G.appA sa k ∅ λm h1 h2 n h3 h4=>aT (hle m h1 h2) (sb _ n ∅ h3 h4)
       by_cases e1:i+k+1=a.size
       ·rw[if_pos (~~~e1)];exact ag ⟨hg.set _,.inl ⟨_,rfl,G1.last sb e1 λm h1 h2=>by rw[show i+k=a.size-1 by omega];exact hl m h2⟩⟩
       ·rw[if_neg (~~~e1)];by_cases e2:i+k=a.size
        ·rw[if_pos (~~~e2)];exact ag ⟨hg.set _,.inl ⟨_,rfl,G1.done sa sb (.inl e2)⟩⟩
        ·rw[if_neg (~~~e2)];refine ai (wpS_elem ∅ ?_);have G2:=G1.pushB sb ∅ λm h1 h2=>aM (hgt m h1 h2)
         have hz1:=G1.sz;have hz2:=G2.sz;by_cases e3:j+1=b.size
         ·rw[if_pos (~~~e3)];exact ag ⟨hg.set _,.inl ⟨_,rfl,G2.done sa sb (.inr e3)⟩⟩
         ·rw[if_neg (~~~e3)];refine ai (wpS_elem ∅ ?_);refine ai (wpS_galL C (by exact hg.kind.trans hk) (ma _ ∅) (λm hm=>mb _ ∅) ∅ (sb.sub ∅ ∅) ∅ λk2 hk2 hlt hge0=>?_);dsimp only;have hge:∀ m,j+1+k2<=m->m<b.size->O.kle (KA key a (i+k)) (KA key b m):=λm h1 h2=>hge0 m h1 ∅
          by_cases hk20:k2>0
          ·rw[if_pos hk20];have G3:=G2.appB sb k2 ∅ λm h1 h2 n h3 h4=>aT (aM (hlt m h1 h2)) (sa _ n ∅ h3 h4)
           by_cases e5:j+1+k2=b.size
           ·rw[if_pos (~~~e5)];exact ag ⟨hg.set _,.inl ⟨_,rfl,G3.done sa sb (.inr e5)⟩⟩
           ·rw[if_neg (~~~e5)];refine ai (wpS_elem ∅ ?_);have G4:=G3.pushA sa ∅ λk h1 h2=>hge k h1 h2
            by_cases e4:(i+k)+1+1=a.size
            ·rw[if_pos (~~~e4)];exact ag ⟨hg.set _,.inl ⟨_,rfl,G4.last sb e4 λn h1 h2=>by rw[show (i+k)+1=a.size-1 by omega];exact hl n h2⟩⟩
            ·rw[if_neg (~~~e4)];have hz4:=G4.sz;have hz3:=G3.sz;split
             ·exact ag ⟨hg.set _,.inr ⟨_,_,_,_,_,_,rfl,G4,∅,∅,∅⟩⟩
             ·exact ag ⟨hg.set _,_,_,_,_,_,_,rfl,G4,∅,∅,∅⟩
          ·rw[if_neg hk20];have hk2z:k2=0:=∅
           subst hk2z;have G3:=G2;refine ai (wpS_elem ∅ ?_);have G4:=G3.pushA sa ∅ λk h1 h2=>hge k h1 h2
           by_cases e4:(i+k)+1+1=a.size
           ·rw[if_pos (~~~e4)];exact ag ⟨hg.set _,.inl ⟨_,rfl,G4.last sb e4 λn h1 h2=>by rw[show (i+k)+1=a.size-1 by omega];exact hl n h2⟩⟩
           ·rw[if_neg (~~~e4)];have hz4:=G4.sz;have hz3:=G3.sz;split
            ·exact ag ⟨hg.set _,.inr ⟨_,_,_,_,_,_,rfl,G4,∅,∅,∅⟩⟩
            ·exact ag ⟨hg.set _,_,_,_,_,_,_,rfl,G4,∅,∅,∅⟩
      ·rw[if_neg hk0];have hkz:k=0:=∅
       subst hkz;have G1:=G;refine ai (wpS_elem ∅ ?_);have G2:=G1.pushB sb ∅ λm h1 h2=>aM (hgt m h1 h2)
       have hz1:=G1.sz;have hz2:=G2.sz;by_cases e3:j+1=b.size
       ·rw[if_pos (~~~e3)];exact ag ⟨hg.set _,.inl ⟨_,rfl,G2.done sa sb (.inr e3)⟩⟩
       ·rw[if_neg (~~~e3)];refine ai (wpS_elem ∅ ?_);refine ai (wpS_galL C (by exact hg.kind.trans hk) (ma _ ∅) (λm hm=>mb _ ∅) ∅ (sb.sub ∅ ∅) ∅ λk2 hk2 hlt hge0=>?_);dsimp only;have hge:∀ m,j+1+k2<=m->m<b.size->O.kle (KA key a (i)) (KA key b m):=λm h1 h2=>hge0 m h1 ∅
        by_cases hk20:k2>0
        ·rw[if_pos hk20];have G3:=G2.appB sb k2 ∅ λm h1 h2 n h3 h4=>aT (aM (hlt m h1 h2)) (sa _ n ∅ h3 h4)
         by_cases e5:j+1+k2=b.size
         ·rw[if_pos (~~~e5)];exact ag ⟨hg.set _,.inl ⟨_,rfl,G3.done sa sb (.inr e5)⟩⟩
         ·rw[if_neg (~~~e5)];refine ai (wpS_elem ∅ ?_);have G4:=G3.pushA sa ∅ λk h1 h2=>hge k h1 h2
          by_cases e4:(i)+1+1=a.size
          ·rw[if_pos (~~~e4)];exact ag ⟨hg.set _,.inl ⟨_,rfl,G4.last sb e4 λn h1 h2=>by rw[show (i)+1=a.size-1 by omega];exact hl n h2⟩⟩
          ·rw[if_neg (~~~e4)];have hz4:=G4.sz;have hz3:=G3.sz;split
           ·exact ag ⟨hg.set _,.inr ⟨_,_,_,_,_,_,rfl,G4,∅,∅,∅⟩⟩
           ·exact ag ⟨hg.set _,_,_,_,_,_,_,rfl,G4,∅,∅,∅⟩
        ·rw[if_neg hk20];have hk2z:k2=0:=∅
         subst hk2z;have G3:=G2;refine ai (wpS_elem ∅ ?_);have G4:=G3.pushA sa ∅ λk h1 h2=>hge k h1 h2
         by_cases e4:(i)+1+1=a.size
         ·rw[if_pos (~~~e4)];exact ag ⟨hg.set _,.inl ⟨_,rfl,G4.last sb e4 λn h1 h2=>by rw[show (i)+1=a.size-1 by omega];exact hl n h2⟩⟩
         ·rw[if_neg (~~~e4)];have hz4:=G4.sz;have hz3:=G3.sz;split
          ·exact ag ⟨hg.set _,.inr ⟨_,_,_,_,_,_,rfl,G4,∅,∅,∅⟩⟩
          ·exact ag ⟨hg.set _,_,_,_,_,_,_,rfl,G4,∅,∅,∅⟩
     ·rw[if_neg hmg];refine ai (wpS_setGal ?_);refine ai (wpS_elem ∅ ?_);refine ai (wpS_galR C (by exact hg.kind.trans hk) (mb _ ∅) (λm hm=>ma _ ∅) ∅ (sa.sub ∅ ∅) ∅ λk hkk hle hgt0=>?_);dsimp only;have hgt:∀ m,i+k<=m->m<a.size->O.klt (KA key b j) (KA key a m):=λm h1 h2=>hgt0 m h1 ∅
      by_cases hk0:k>0
      ·rw[if_pos hk0];have G1:=G.appA sa k ∅ λm h1 h2 n h3 h4=>aT (hle m h1 h2) (sb _ n ∅ h3 h4)
       by_cases e1:i+k+1=a.size
       ·rw[if_pos (~~~e1)];exact ag ⟨hg.set _,.inl ⟨_,rfl,G1.last sb e1 λm h1 h2=>by rw[show i+k=a.size-1 by omega];exact hl m h2⟩⟩
       ·rw[if_neg (~~~e1)];by_cases e2:i+k=a.size
        ·rw[if_pos (~~~e2)];exact ag ⟨hg.set _,.inl ⟨_,rfl,G1.done sa sb (.inl e2)⟩⟩
        ·rw[if_neg (~~~e2)];refine ai (wpS_elem ∅ ?_);have G2:=G1.pushB sb ∅ λm h1 h2=>aM (hgt m h1 h2)
         have hz1:=G1.sz;have hz2:=G2.sz;by_cases e3:j+1=b.size
         ·rw[if_pos (~~~e3)];exact ag ⟨hg.set _,.inl ⟨_,rfl,G2.done sa sb (.inr e3)⟩⟩
         ·rw[if_neg (~~~e3)];refine ai (wpS_elem ∅ ?_);refine ai (wpS_galL C (by exact hg.kind.trans hk) (ma _ ∅) (λm hm=>mb _ ∅) ∅ (sb.sub ∅ ∅) ∅ λk2 hk2 hlt hge0=>?_);dsimp only;have hge:∀ m,j+1+k2<=m->m<b.size->O.kle (KA key a (i+k)) (KA key b m):=λm h1 h2=>hge0 m h1 ∅
          by_cases hk20:k2>0
          ·rw[if_pos hk20];have G3:=G2.appB sb k2 ∅ λm h1 h2 n h3 h4=>aT (aM (hlt m h1 h2)) (sa _ n ∅ h3 h4)
           by_cases e5:j+1+k2=b.size
           ·rw[if_pos (~~~e5)];exact ag ⟨hg.set _,.inl ⟨_,rfl,G3.done sa sb (.inr e5)⟩⟩
           ·rw[if_neg (~~~e5)];refine ai (wpS_elem ∅ ?_);have G4:=G3.pushA sa ∅ λk h1 h2=>hge k h1 h2
            by_cases e4:(i+k)+1+1=a.size
            ·rw[if_pos (~~~e4)];exact ag ⟨hg.set _,.inl ⟨_,rfl,G4.last sb e4 λn h1 h2=>by rw[show (i+k)+1=a.size-1 by omega];exact hl n h2⟩⟩
            ·rw[if_neg (~~~e4)];have hz4:=G4.sz;have hz3:=G3.sz;split
             ·exact ag ⟨hg.set _,.inr ⟨_,_,_,_,_,_,rfl,G4,∅,∅,∅⟩⟩
             ·exact ag ⟨hg.set _,_,_,_,_,_,_,rfl,G4,∅,∅,∅⟩
          ·rw[if_neg hk20];have hk2z:k2=0:=∅
           subst hk2z;have G3:=G2;refine ai (wpS_elem ∅ ?_);have G4:=G3.pushA sa ∅ λk h1 h2=>hge k h1 h2
           by_cases e4:(i+k)+1+1=a.size
           ·rw[if_pos (~~~e4)];exact ag ⟨hg.set _,.inl ⟨_,rfl,G4.last sb e4 λn h1 h2=>by rw[show (i+k)+1=a.size-1 by omega];exact hl n h2⟩⟩
           ·rw[if_neg (~~~e4)];have hz4:=G4.sz;have hz3:=G3.sz;split
            ·exact ag ⟨hg.set _,.inr ⟨_,_,_,_,_,_,rfl,G4,∅,∅,∅⟩⟩
            ·exact ag ⟨hg.set _,_,_,_,_,_,_,rfl,G4,∅,∅,∅⟩
      ·rw[if_neg hk0];have hkz:k=0:=∅
       subst hkz;have G1:=G;refine ai (wpS_elem ∅ ?_);have G2:=G1.pushB sb ∅ λm h1 h2=>aM (hgt m h1 h2)
       have hz1:=G1.sz;have hz2:=G2.sz;by_cases e3:j+1=b.size
       ·rw[if_pos (~~~e3)];exact ag ⟨hg.set _,.inl ⟨_,rfl,G2.done sa sb (.inr e3)⟩⟩
       ·rw[if_neg (~~~e3)];refine ai (wpS_elem ∅ ?_);refine ai (wpS_galL C (by exact hg.kind.trans hk) (ma _ ∅) (λm hm=>mb _ ∅) ∅ (sb.sub ∅ ∅) ∅ λk2 hk2 hlt hge0=>?_);dsimp only;have hge:∀ m,j+1+k2<=m->m<b.size->O.kle (KA key a (i)) (KA key b m):=λm h1 h2=>hge0 m h1 ∅
        by_cases hk20:k2>0
        ·rw[if_pos hk20];have G3:=G2.appB sb k2 ∅ λm h1 h2 n h3 h4=>aT (aM (hlt m h1 h2)) (sa _ n ∅ h3 h4)
         by_cases e5:j+1+k2=b.size
         ·rw[if_pos (~~~e5)];exact ag ⟨hg.set _,.inl ⟨_,rfl,G3.done sa sb (.inr e5)⟩⟩
         ·rw[if_neg (~~~e5)];refine ai (wpS_elem ∅ ?_);have G4:=G3.pushA sa ∅ λk h1 h2=>hge k h1 h2
          by_cases e4:(i)+1+1=a.size
          ·rw[if_pos (~~~e4)];exact ag ⟨hg.set _,.inl ⟨_,rfl,G4.last sb e4 λn h1 h2=>by rw[show (i)+1=a.size-1 by omega];exact hl n h2⟩⟩
          ·rw[if_neg (~~~e4)];have hz4:=G4.sz;have hz3:=G3.sz;split
           ·exact ag ⟨hg.set _,.inr ⟨_,_,_,_,_,_,rfl,G4,∅,∅,∅⟩⟩
           ·exact ag ⟨hg.set _,_,_,_,_,_,_,rfl,G4,∅,∅,∅⟩
        ·rw[if_neg hk20];have hk2z:k2=0:=∅
         subst hk2z;have G3:=G2;refine ai (wpS_elem ∅ ?_);have G4:=G3.pushA sa ∅ λk h1 h2=>hge k h1 h2
         by_cases e4:(i)+1+1=a.size
         ·rw[if_pos (~~~e4)];exact ag ⟨hg.set _,.inl ⟨_,rfl,G4.last sb e4 λn h1 h2=>by rw[show (i)+1=a.size-1 by omega];exact hl n h2⟩⟩
         ·rw[if_neg (~~~e4)];have hz4:=G4.sz;have hz3:=G3.sz;split
          ·exact ag ⟨hg.set _,.inr ⟨_,_,_,_,_,_,rfl,G4,∅,∅,∅⟩⟩
          ·exact ag ⟨hg.set _,_,_,_,_,_,_,rfl,G4,∅,∅,∅⟩
end
end Ts
namespace Ts
open PySem PyProof.Rows
set_option autoImplicit false
section
variable {M:Model}{A:Around}{E:Value->Shared->Prop}{s:Shared}{a₀:Array Keyed}{knd:SortKind}{O:KeyOrd}{key:Keyed->O.α}
theorem GHi.pushA' {a b o:Array Keyed}{i j:Nat}(g:GHi key a b o i j)(h:1<=i)(sa:Seg key a 0 a.size)(hl:∀ k,k<j->le key (el b k) (el a (i-1))):GHi key a b (o.push (el a (i-1))) (i-1) j:=by
 cases i with
 | zero=>omega
 | succ i=>exact GHi.pushA g sa hl
theorem GHi.pushB' {a b o:Array Keyed}{i j:Nat}(g:GHi key a b o i j)(h:1<=j)(sb:Seg key b 0 b.size)(hl:∀ k,k<i->le key (el a k) (el b (j-1))):GHi key a b (o.push (el b (j-1))) i (j-1):=by
 cases j with
 | zero=>omega
 | succ j=>exact GHi.pushB g sb hl
theorem wpS_mHi {a b:Array Keyed}{st:SortSt}{Q:Array Keyed->SortSt->Prop}(C:Cmp M A E s knd O key a₀)(hk:kindOf st=knd)
  (ma:∀ k,k<a.size->el a k∈a₀.toList) (mb:∀ k,k<b.size->el b k∈a₀.toList) (sa:Seg key a 0 a.size) (sb:Seg key b 0 b.size) (ha:1<=a.size) (hb:1<=b.size)
  (h0:∀ k,k<a.size->le key (el b 0) (el a k)) (hl:∀ k,k<b.size->le key (el b k) (el a (a.size-1)))
  (h:∀ m st',Res key a b m->Sg st st'->Q m st'):wpS M A E s (mHi a b) Q st:=by
 rw[mHi_eq];refine ai (wpS_rule ?_);refine ai (wpS_elem ∅ ?_);dsimp only;have G0:GHi key a b #[el a (a.size-1)] (a.size-1) b.size :=
  ⟨∅,∅,by show 1+(a.size-1)+b.size=_;omega,by
   rw[drop_el (show a.size-1<a.size by omega),cN (show a.toList.length<=a.size-1+1 by simp;omega),cN (l:=b.toList) (by simp)];simp,
   bE _ _,λx hx k h1=>by rw[au.mp hx];exact sa k (a.size-1) ∅ ∅ ∅,λx hx k h1=>by rw[au.mp hx];exact hl k h1⟩
 by_cases c1:a.size-1=0
 ·rw[if_pos (~~~c1)];exact ag (h _ _ (G0.done sa sb (.inl c1)) (Sg.refl _))
 rw[if_neg (~~~c1)];by_cases c2:b.size=1
 ·rw[if_pos (~~~c2)];exact ag (h _ _ (G0.first sa c2 λk hk=>h0 k ∅) (Sg.refl _))
 rw[if_neg (~~~c2)];refine ai (ff ?_)
 refine ai (cP (bK (I:=λx c st'=>Sg st st'/\∃ i j o mg,c=(none,i,j,o,mg)/\GHi key a b o i j/\1<=i/\2<=j/\x<o.size)
  (Q:=λc st'=>Sg st st'/\∃ m,c.fst=some m/\Res key a b m) ?step ?fin ⟨Sg.refl _,_,_,_,_,rfl,G0,∅,∅,by simp⟩) ?post)
 case fin =>
  rintro c st' ⟨_,i,j,o,mg,rfl,G,h1,h2,h3⟩;have:=G.sz;omega
 case post =>
  rintro⟨r,c⟩ st' ⟨hg,m,e,hr⟩;cases e;exact ag (h m st' hr hg)
 case step =>
  rintro x c st1 _ hx ⟨hg,i,j,o,mg,rfl,G,h1,h2,h3⟩;dsimp only
  refine ai (cP (bK (I:=λy c st'=>st'=st1/\∃ i j o ac bc,c=(none,i,j,o,ac,bc)/\GHi key a b o i j/\1<=i/\2<=j/\x<o.size/\(0<y->x+1<o.size))
   (Q:=λc st'=>st'=st1/\((∃ m,c.fst=some m/\Res key a b m)\/∃ i j o ac bc,c=(none,i,j,o,ac,bc)/\GHi key a b o i j/\1<=i/\2<=j/\x+1<o.size)) ?s1 ?f1 ⟨rfl,_,_,_,_,_,rfl,G,h1,h2,h3,∅⟩) ?p1)
  case f1 =>
   rintro c st' ⟨rfl,i,j,o,ac,bc,rfl,G,h1,h2,h3,h4⟩;exact⟨rfl,.inr ⟨i,j,o,ac,bc,rfl,G,h1,h2,h4 ∅⟩⟩
  case s1 =>
   rintro y c st' _ hy ⟨rfl,i,j,o,ac,bc,rfl,G,h1,h2,h3,h4⟩;dsimp only;refine ai (wpS_elem (by have:=G.hj;omega) ?_);refine ai (wpS_elem (by have:=G.hi;omega) ?_);refine ai (C _ (mb _ (by have:=G.hj;omega)) _ (ma _ (by have:=G.hi;omega)) _ _ (hg.kind.trans hk) ?_);cases hw:O.blt (key (el b (j-1))) (key (el a (i-1))) with
   | true =>
    simp only[if_true];refine ai (wpS_elem (by have:=G.hi;omega) ?_);have G1:=G.pushA' h1 sa λk a1=>aT (sb k (j-1) ∅ ∅ (by have:=G.hj;omega)) (aM hw)
    have hz:=G.sz;have hz1:=G1.sz;by_cases e1:i-1=0
    ·rw[if_pos (~~~e1)];exact ag ⟨rfl,.inl ⟨_,rfl,G1.done sa sb (.inl e1)⟩⟩
    ·rw[if_neg (~~~e1)];split
     ·exact ag ⟨rfl,.inr ⟨_,_,_,_,_,rfl,G1,∅,∅,∅⟩⟩
     ·exact ag ⟨rfl,_,_,_,_,_,rfl,G1,∅,∅,∅,λ_=>∅⟩
   | false =>
    simp only[aC,if_false];refine ai (wpS_elem (by have:=G.hj;omega) ?_);have hw':O.kle (key (el a (i-1))) (key (el b (j-1))):=hw;have G1:=G.pushB' ∅ sb λk a1=>aT (sa k (i-1) ∅ ∅ (by have:=G.hi;omega)) hw'
    have hz:=G.sz;have hz1:=G1.sz;by_cases e1:j-1=1
    ·rw[if_pos (~~~e1)];exact ag ⟨rfl,.inl ⟨_,rfl,G1.first sa e1 λk a1=>h0 k (by have:=G1.hi;omega)⟩⟩
    ·rw[if_neg (~~~e1)];split
     ·exact ag ⟨rfl,.inr ⟨_,_,_,_,_,rfl,G1,∅,∅,∅⟩⟩
     ·exact ag ⟨rfl,_,_,_,_,_,rfl,G1,∅,∅,∅,λ_=>∅⟩
  case p1 =>
   rintro⟨r,c⟩ st' ⟨rfl,⟨m,e,hr⟩ | ⟨i,j,o,ac,bc,e,G,h1,h2,h3⟩⟩
   ·cases e;exact ag ⟨hg,m,rfl,hr⟩
   ·cases e;dsimp only;refine ai (wpS_rule ?_)
    refine ai (cP (bK (I:=λy c st'=>Sg st st'/\∃ i j o mg ac bc,c=(none,i,j,o,mg,ac,bc)/\GHi key a b o i j/\1<=i/\2<=j/\x+1<o.size)
     (Q:=λc st'=>Sg st st'/\((∃ m,c.fst=some m/\Res key a b m)\/∃ i j o mg ac bc,c=(none,i,j,o,mg,ac,bc)/\GHi key a b o i j/\1<=i/\2<=j/\x+1<o.size)) ?s2 ?f2 ⟨hg,_,_,_,_,_,_,rfl,G,h1,h2,h3⟩) ?p2)
    case f2 =>
     rintro c st' ⟨hg,i,j,o,mg,ac,bc,rfl,G,h1,h2,h3⟩;exact⟨hg,.inr ⟨i,j,o,mg,ac,bc,rfl,G,h1,h2,h3⟩⟩
    case p2 =>
     rintro⟨r,c⟩ st' ⟨hg,⟨m,e,hr⟩ | ⟨i,j,o,mg,ac,bc,e,G,h1,h2,h3⟩⟩
     ·cases e;exact ag ⟨hg,m,rfl,hr⟩
     ·cases e;dsimp only;refine ai (wpS_setGal ?_);exact ag ⟨hg.set _,i,j,o,_,rfl,G,h1,h2,h3⟩
    case s2 =>
     rintro y c st' _ hy ⟨hg,i,j,o,mg,ac,bc,rfl,G,h1,h2,h3⟩;dsimp only;have hz0:=G.sz;by_cases hmg:mg>1
     ·rw[if_pos hmg];refine ai (wpS_setGal ?_);refine ai (wpS_elem (by have:=G.hj;omega) ?_);refine ai (wpS_galR C (by exact hg.kind.trans hk) (mb _ (by have:=G.hj;omega)) (λm hm=>by rw[cG];exact ma _ (by have:=G.hi;omega)) (by have:=G.hi;omega) (sa.sub ∅ (by have:=G.hi;omega)) ∅ λp hp hle0 hgt0=>?_);dsimp only;have hle:∀ m,m<p->O.kle (KA key a m) (KA key b (j-1)):=λm h1=>hle0 m ∅ ∅
      have hgt:∀ m,p<=m->m<i->O.klt (KA key b (j-1)) (KA key a m):=λm h1 h2=>hgt0 m ∅ ∅
      by_cases hk0:i-p>0
      ·rw[if_pos hk0];have G1:=G.appA sa (i-p) p ∅ λm h1 h2 n h3=>aT (sb n (j-1) ∅ ∅ (by have:=G.hj;omega)) (aM (hgt m h1 h2))
       by_cases e1:p=0
       ·rw[if_pos (~~~e1)];exact ag ⟨hg.set _,.inl ⟨_,rfl,G1.done sa sb (.inl e1)⟩⟩
       ·rw[if_neg (~~~e1)];have hlo:∀ n,n<p->le key (el a n) (el b (j-1)):=hle;refine ai (wpS_elem (by have:=G1.hj;omega) ?_);have hz1:=G1.sz;have G2:=G1.pushB' ∅ sb hlo;have hz2:=G2.sz;by_cases e3:j-1=1
        ·rw[if_pos (~~~e3)];exact ag ⟨hg.set _,.inl ⟨_,rfl,G2.first sa e3 λm hm=>h0 m (by have:=G2.hi;omega)⟩⟩
        ·rw[if_neg (~~~e3)];refine ai (wpS_elem (by have:=G2.hi;omega) ?_);refine ai (wpS_galL C (by exact hg.kind.trans hk) (ma _ (by have:=G2.hi;omega)) (λm hm=>by rw[cG];exact mb _ (by have:=G2.hj;omega)) (by have:=G2.hj;omega) (sb.sub ∅ (by have:=G2.hj;omega)) ∅ λp2 hp2 hlt0 hge0=>?_);dsimp only;have hlt:∀ m,m<p2->O.klt (KA key b m) (KA key a (p-1)):=λm h1=>hlt0 m ∅ ∅
         have hge:∀ m,p2<=m->m<j-1->O.kle (KA key a (p-1)) (KA key b m):=λm h1 h2=>hge0 m ∅ ∅
         by_cases hk20:j-1-p2>0
         ·rw[if_pos hk20];have G3:=G2.appB sb (j-1-p2) p2 ∅ λm h1 h2 n h3=>aT (sa n (p-1) ∅ ∅ (by have:=G2.hi;omega)) (hge m h1 h2)
          by_cases e5:p2=1
          ·rw[if_pos (~~~e5)];exact ag ⟨hg.set _,.inl ⟨_,rfl,G3.first sa e5 λm hm=>h0 m (by have:=G3.hi;omega)⟩⟩
          ·rw[if_neg (~~~e5)];by_cases e6:p2=0
           ·rw[if_pos (~~~e6)];exact ag ⟨hg.set _,.inl ⟨_,rfl,G3.done sa sb (.inr e6)⟩⟩
           ·rw[if_neg (~~~e6)];have hlow:∀ n,n<p2->le key (el b n) (el a (p-1)):=λn hn=>aM (hlt n hn)
            refine ai (wpS_elem (by have:=G3.hi;omega) ?_);have hz3:=G3.sz;have G4:=G3.pushA' ∅ sa hlow;have hz4:=G4.sz;by_cases e4:p-1=0
            ·rw[if_pos (~~~e4)];exact ag ⟨hg.set _,.inl ⟨_,rfl,G4.done sa sb (.inl e4)⟩⟩
            ·rw[if_neg (~~~e4)];split
             ·exact ag ⟨hg.set _,.inr ⟨_,_,_,_,_,_,rfl,G4,∅,∅,∅⟩⟩
             ·exact ag ⟨hg.set _,_,_,_,_,_,_,rfl,G4,∅,∅,∅⟩
         ·rw[if_neg hk20];have hp2z:p2=j-1:=∅
          have G3:=G2;have hlow:∀ n,n<j-1->le key (el b n) (el a (p-1)):=λn hn=>aM (hlt n ∅)
          refine ai (wpS_elem (by have:=G3.hi;omega) ?_);have hz3:=G3.sz;have G4:=G3.pushA' ∅ sa hlow;have hz4:=G4.sz;by_cases e4:p-1=0
          ·rw[if_pos (~~~e4)];exact ag ⟨hg.set _,.inl ⟨_,rfl,G4.done sa sb (.inl e4)⟩⟩
          ·rw[if_neg (~~~e4)];split
           ·exact ag ⟨hg.set _,.inr ⟨_,_,_,_,_,_,rfl,G4,∅,∅,∅⟩⟩
           ·exact ag ⟨hg.set _,_,_,_,_,_,_,rfl,G4,∅,∅,∅⟩
      ·rw[if_neg hk0];have hpz:p=i:=∅
       have G1:=G;have hlo:∀ n,n<i->le key (el a n) (el b (j-1)):=λn hn=>hle n ∅
       refine ai (wpS_elem (by have:=G1.hj;omega) ?_);have hz1:=G1.sz;have G2:=G1.pushB' ∅ sb hlo;have hz2:=G2.sz;by_cases e3:j-1=1
       ·rw[if_pos (~~~e3)];exact ag ⟨hg.set _,.inl ⟨_,rfl,G2.first sa e3 λm hm=>h0 m (by have:=G2.hi;omega)⟩⟩
       ·rw[if_neg (~~~e3)];refine ai (wpS_elem (by have:=G2.hi;omega) ?_);refine ai (wpS_galL C (by exact hg.kind.trans hk) (ma _ (by have:=G2.hi;omega)) (λm hm=>by rw[cG];exact mb _ (by have:=G2.hj;omega)) (by have:=G2.hj;omega) (sb.sub ∅ (by have:=G2.hj;omega)) ∅ λp2 hp2 hlt0 hge0=>?_);dsimp only;have hlt:∀ m,m<p2->O.klt (KA key b m) (KA key a (i-1)):=λm h1=>hlt0 m ∅ ∅
        have hge:∀ m,p2<=m->m<j-1->O.kle (KA key a (i-1)) (KA key b m):=λm h1 h2=>hge0 m ∅ ∅
        by_cases hk20:j-1-p2>0
        ·rw[if_pos hk20];have G3:=G2.appB sb (j-1-p2) p2 ∅ λm h1 h2 n h3=>aT (sa n (i-1) ∅ ∅ (by have:=G2.hi;omega)) (hge m h1 h2)
         by_cases e5:p2=1
         ·rw[if_pos (~~~e5)];exact ag ⟨hg.set _,.inl ⟨_,rfl,G3.first sa e5 λm hm=>h0 m (by have:=G3.hi;omega)⟩⟩
         ·rw[if_neg (~~~e5)];by_cases e6:p2=0
          ·rw[if_pos (~~~e6)];exact ag ⟨hg.set _,.inl ⟨_,rfl,G3.done sa sb (.inr e6)⟩⟩
          ·rw[if_neg (~~~e6)];have hlow:∀ n,n<p2->le key (el b n) (el a (i-1)):=λn hn=>aM (hlt n hn)
           refine ai (wpS_elem (by have:=G3.hi;omega) ?_);have hz3:=G3.sz;have G4:=G3.pushA' ∅ sa hlow;have hz4:=G4.sz;by_cases e4:i-1=0
           ·rw[if_pos (~~~e4)];exact ag ⟨hg.set _,.inl ⟨_,rfl,G4.done sa sb (.inl e4)⟩⟩
           ·rw[if_neg (~~~e4)];split
            ·exact ag ⟨hg.set _,.inr ⟨_,_,_,_,_,_,rfl,G4,∅,∅,∅⟩⟩
            ·exact ag ⟨hg.set _,_,_,_,_,_,_,rfl,G4,∅,∅,∅⟩
        ·rw[if_neg hk20];have hp2z:p2=j-1:=∅
         have G3:=G2;have hlow:∀ n,n<j-1->le key (el b n) (el a (i-1)):=λn hn=>aM (hlt n ∅)
         refine ai (wpS_elem (by have:=G3.hi;omega) ?_);have hz3:=G3.sz;have G4:=G3.pushA' ∅ sa hlow;have hz4:=G4.sz;by_cases e4:i-1=0
         ·rw[if_pos (~~~e4)];exact ag ⟨hg.set _,.inl ⟨_,rfl,G4.done sa sb (.inl e4)⟩⟩
         ·rw[if_neg (~~~e4)];split
          ·exact ag ⟨hg.set _,.inr ⟨_,_,_,_,_,_,rfl,G4,∅,∅,∅⟩⟩
          ·exact ag ⟨hg.set _,_,_,_,_,_,_,rfl,G4,∅,∅,∅⟩
     ·rw[if_neg hmg];refine ai (wpS_setGal ?_);refine ai (wpS_elem (by have:=G.hj;omega) ?_);refine ai (wpS_galR C (by exact hg.kind.trans hk) (mb _ (by have:=G.hj;omega)) (λm hm=>by rw[cG];exact ma _ (by have:=G.hi;omega)) (by have:=G.hi;omega) (sa.sub ∅ (by have:=G.hi;omega)) ∅ λp hp hle0 hgt0=>?_);dsimp only;have hle:∀ m,m<p->O.kle (KA key a m) (KA key b (j-1)):=λm h1=>hle0 m ∅ ∅
      have hgt:∀ m,p<=m->m<i->O.klt (KA key b (j-1)) (KA key a m):=λm h1 h2=>hgt0 m ∅ ∅
      by_cases hk0:i-p>0
      ·rw[if_pos hk0];have G1:=G.appA sa (i-p) p ∅ λm h1 h2 n h3=>aT (sb n (j-1) ∅ ∅ (by have:=G.hj;omega)) (aM (hgt m h1 h2))
       by_cases e1:p=0
       ·rw[if_pos (~~~e1)];exact ag ⟨hg.set _,.inl ⟨_,rfl,G1.done sa sb (.inl e1)⟩⟩
       ·rw[if_neg (~~~e1)];have hlo:∀ n,n<p->le key (el a n) (el b (j-1)):=hle;refine ai (wpS_elem (by have:=G1.hj;omega) ?_);have hz1:=G1.sz;have G2:=G1.pushB' ∅ sb hlo;have hz2:=G2.sz;by_cases e3:j-1=1
        ·rw[if_pos (~~~e3)];exact ag ⟨hg.set _,.inl ⟨_,rfl,G2.first sa e3 λm hm=>h0 m (by have:=G2.hi;omega)⟩⟩
        ·rw[if_neg (~~~e3)];refine ai (wpS_elem (by have:=G2.hi;omega) ?_);refine ai (wpS_galL C (by exact hg.kind.trans hk) (ma _ (by have:=G2.hi;omega)) (λm hm=>by rw[cG];exact mb _ (by have:=G2.hj;omega)) (by have:=G2.hj;omega) (sb.sub ∅ (by have:=G2.hj;omega)) ∅ λp2 hp2 hlt0 hge0=>?_);dsimp only;have hlt:∀ m,m<p2->O.klt (KA key b m) (KA key a (p-1)):=λm h1=>hlt0 m ∅ ∅
         have hge:∀ m,p2<=m->m<j-1->O.kle (KA key a (p-1)) (KA key b m):=λm h1 h2=>hge0 m ∅ ∅
         by_cases hk20:j-1-p2>0
         ·rw[if_pos hk20];have G3:=G2.appB sb (j-1-p2) p2 ∅ λm h1 h2 n h3=>aT (sa n (p-1) ∅ ∅ (by have:=G2.hi;omega)) (hge m h1 h2)
          by_cases e5:p2=1
          ·rw[if_pos (~~~e5)];exact ag ⟨hg.set _,.inl ⟨_,rfl,G3.first sa e5 λm hm=>h0 m (by have:=G3.hi;omega)⟩⟩
          ·rw[if_neg (~~~e5)];by_cases e6:p2=0
           ·rw[if_pos (~~~e6)];exact ag ⟨hg.set _,.inl ⟨_,rfl,G3.done sa sb (.inr e6)⟩⟩
           ·rw[if_neg (~~~e6)];have hlow:∀ n,n<p2->le key (el b n) (el a (p-1)):=λn hn=>aM (hlt n hn)
            refine ai (wpS_elem (by have:=G3.hi;omega) ?_);have hz3:=G3.sz;have G4:=G3.pushA' ∅ sa hlow;have hz4:=G4.sz;by_cases e4:p-1=0
            ·rw[if_pos (~~~e4)];exact ag ⟨hg.set _,.inl ⟨_,rfl,G4.done sa sb (.inl e4)⟩⟩
            ·rw[if_neg (~~~e4)];split
             ·exact ag ⟨hg.set _,.inr ⟨_,_,_,_,_,_,rfl,G4,∅,∅,∅⟩⟩
             ·exact ag ⟨hg.set _,_,_,_,_,_,_,rfl,G4,∅,∅,∅⟩
         ·rw[if_neg hk20];have hp2z:p2=j-1:=∅
          have G3:=G2;have hlow:∀ n,n<j-1->le key (el b n) (el a (p-1)):=λn hn=>aM (hlt n ∅)
          refine ai (wpS_elem (by have:=G3.hi;omega) ?_);have hz3:=G3.sz;have G4:=G3.pushA' ∅ sa hlow;have hz4:=G4.sz;by_cases e4:p-1=0
          ·rw[if_pos (~~~e4)];exact ag ⟨hg.set _,.inl ⟨_,rfl,G4.done sa sb (.inl e4)⟩⟩
          ·rw[if_neg (~~~e4)];split
           ·exact ag ⟨hg.set _,.inr ⟨_,_,_,_,_,_,rfl,G4,∅,∅,∅⟩⟩
           ·exact ag ⟨hg.set _,_,_,_,_,_,_,rfl,G4,∅,∅,∅⟩
      ·rw[if_neg hk0];have hpz:p=i:=∅
       have G1:=G;have hlo:∀ n,n<i->le key (el a n) (el b (j-1)):=λn hn=>hle n ∅
       refine ai (wpS_elem (by have:=G1.hj;omega) ?_);have hz1:=G1.sz;have G2:=G1.pushB' ∅ sb hlo;have hz2:=G2.sz;by_cases e3:j-1=1
       ·rw[if_pos (~~~e3)];exact ag ⟨hg.set _,.inl ⟨_,rfl,G2.first sa e3 λm hm=>h0 m (by have:=G2.hi;omega)⟩⟩
       ·rw[if_neg (~~~e3)];refine ai (wpS_elem (by have:=G2.hi;omega) ?_);refine ai (wpS_galL C (by exact hg.kind.trans hk) (ma _ (by have:=G2.hi;omega)) (λm hm=>by rw[cG];exact mb _ (by have:=G2.hj;omega)) (by have:=G2.hj;omega) (sb.sub ∅ (by have:=G2.hj;omega)) ∅ λp2 hp2 hlt0 hge0=>?_);dsimp only;have hlt:∀ m,m<p2->O.klt (KA key b m) (KA key a (i-1)):=λm h1=>hlt0 m ∅ ∅
        have hge:∀ m,p2<=m->m<j-1->O.kle (KA key a (i-1)) (KA key b m):=λm h1 h2=>hge0 m ∅ ∅
        by_cases hk20:j-1-p2>0
        ·rw[if_pos hk20];have G3:=G2.appB sb (j-1-p2) p2 ∅ λm h1 h2 n h3=>aT (sa n (i-1) ∅ ∅ (by have:=G2.hi;omega)) (hge m h1 h2)
         by_cases e5:p2=1
         ·rw[if_pos (~~~e5)];exact ag ⟨hg.set _,.inl ⟨_,rfl,G3.first sa e5 λm hm=>h0 m (by have:=G3.hi;omega)⟩⟩
         ·rw[if_neg (~~~e5)];by_cases e6:p2=0
          ·rw[if_pos (~~~e6)];exact ag ⟨hg.set _,.inl ⟨_,rfl,G3.done sa sb (.inr e6)⟩⟩
          ·rw[if_neg (~~~e6)];have hlow:∀ n,n<p2->le key (el b n) (el a (i-1)):=λn hn=>aM (hlt n hn)
           refine ai (wpS_elem (by have:=G3.hi;omega) ?_);have hz3:=G3.sz;have G4:=G3.pushA' ∅ sa hlow;have hz4:=G4.sz;by_cases e4:i-1=0
           ·rw[if_pos (~~~e4)];exact ag ⟨hg.set _,.inl ⟨_,rfl,G4.done sa sb (.inl e4)⟩⟩
           ·rw[if_neg (~~~e4)];split
            ·exact ag ⟨hg.set _,.inr ⟨_,_,_,_,_,_,rfl,G4,∅,∅,∅⟩⟩
            ·exact ag ⟨hg.set _,_,_,_,_,_,_,rfl,G4,∅,∅,∅⟩
        ·rw[if_neg hk20];have hp2z:p2=j-1:=∅
         have G3:=G2;have hlow:∀ n,n<j-1->le key (el b n) (el a (i-1)):=λn hn=>aM (hlt n ∅)
         refine ai (wpS_elem (by have:=G3.hi;omega) ?_);have hz3:=G3.sz;have G4:=G3.pushA' ∅ sa hlow;have hz4:=G4.sz;by_cases e4:i-1=0
         ·rw[if_pos (~~~e4)];exact ag ⟨hg.set _,.inl ⟨_,rfl,G4.done sa sb (.inl e4)⟩⟩
         ·rw[if_neg (~~~e4)];split
          ·exact ag ⟨hg.set _,.inr ⟨_,_,_,_,_,_,rfl,G4,∅,∅,∅⟩⟩
          ·exact ag ⟨hg.set _,_,_,_,_,_,_,rfl,G4,∅,∅,∅⟩
end
end Ts
namespace Ts
open PySem PyProof.Rows
set_option autoImplicit false
def wb (sa:Nat)(m ar:Array Keyed):Array Keyed:=m.toList.zipIdx.foldl (λa (p,j)=>a.setIfInBounds (sa+j) p) ar
theorem wbL:∀(l:List Keyed) (n sa:Nat) (ar:Array Keyed),sa+n+l.length<=ar.size ->
  ((l.zipIdx n).foldl (λa (p,j)=>a.setIfInBounds (sa+j) p) ar).toList=ar.toList.take (sa+n)++l++ar.toList.drop (sa+n+l.length)
 | [],n,sa,ar,h=>by simp
 | x::l,n,sa,ar,h=>by
  rw[List.zipIdx_cons,dq];have hs:sa+n<ar.size:=by rw[az] at h;omega
  have hl:(ar.setIfInBounds (sa+n) x).size=ar.size:=by simp
  have ih:=wbL l (n+1) sa (ar.setIfInBounds (sa+n) x) (by rw[hl];rw[az] at h;omega);refine ih.trans ?_;rw[Array.toList_setIfInBounds,az];have e1:(ar.toList.set (sa+n) x).take (sa+(n+1))=ar.toList.take (sa+n)++[x]:=by
   rw[show sa+(n+1)=(sa+n)+1 by omega,cw,List.take_set_of_le (ao _),du (~~~hs)];rfl
  have e2:(ar.toList.set (sa+n) x).drop (sa+(n+1)+l.length)=ar.toList.drop (sa+n+(l.length+1)):=by
   rw[List.drop_set_of_lt ∅];congr 1;omega
  rw[e1,e2];simp
theorem wb_toList {sa:Nat}{m ar:Array Keyed}(h:sa+m.size<=ar.size):(wb sa m ar).toList=ar.toList.take sa++m.toList++ar.toList.drop (sa+m.size):=by
 have:=wbL m.toList 0 sa ar (~~~h);rw[Nat.add_zero,aI] at this;exact this
theorem wb_get {sa:Nat}{m ar:Array Keyed}(h:sa+m.size<=ar.size)(k:Nat):(wb sa m ar)[k]?=if sa<=k/\k<sa+m.size then m[k-sa]? else ar[k]?:=by
 have hl1:(ar.toList.take sa).length=sa:=by simp;omega
 have hl2:(ar.toList.take sa++m.toList).length=sa+m.size:=by rw[aB,hl1];simp
 rw[<- aW,wb_toList h,<- aW (xs:=m),<- aW (xs:=ar)];by_cases h1:k<sa
 ·rw[if_neg ∅,bF (by rw[hl2];omega),bF (by rw[hl1];exact h1),eO h1]
 ·by_cases h2:k<sa+m.size
  ·rw[if_pos ⟨∅,h2⟩,bF (by rw[hl2];exact h2),bD (by rw[hl1];omega),hl1]
  ·rw[if_neg ∅,bD (by rw[hl2];omega),hl2,gb];congr 1;omega
theorem split3 {ar:Array Keyed}{i j:Nat}(hij:i<=j)(hj:j<=ar.size):ar.toList=ar.toList.take i++(ar.extract i j).toList++ar.toList.drop j:=by
 rw[cn,bV];conv=>lhs;rw[<- ba i ar.toList,<- ba (j-i) (ar.toList.drop i)]
 rw[bd,List.drop_drop];congr 3;omega
theorem ext_split {ar:Array Keyed}{i j k:Nat}(hij:i<=j)(hjk:j<=k)(hk:k<=ar.size):(ar.extract i j).toList++(ar.extract j k).toList=(ar.extract i k).toList:=by
 rw[<- bi,Array.extract_append_extract,Nat.min_eq_left hij,Nat.max_eq_right hjk]
theorem wb_perm {sa e:Nat}{m ar:Array Keyed}(hs:m.size=e-sa)(hse:sa<=e)(he:e<=ar.size)(hp:m.toList.Perm (ar.extract sa e).toList):(wb sa m ar).Perm ar:=by
 rw[Array.perm_iff_toList_perm,wb_toList ∅];conv=>rhs;rw[split3 hse he]
 rw[show sa+m.size=e by omega];exact (hp.append_left _).append_right _
theorem el_extract {ar:Array Keyed}{i j k:Nat}(h:i+k<j)(hj:j<=ar.size):el (ar.extract i j) k=el ar (i+k):=by
 apply el_congr;rw[Array.getElem?_extract];rw[if_pos ∅]
section
variable {M:Model}{A:Around}{E:Value->Shared->Prop}{s:Shared}{a₀:Array Keyed}{knd:SortKind}{O:KeyOrd}{key:Keyed->O.α}
theorem wpS_set {f:SortSt}{st:SortSt}{Q:PUnit->SortSt->Prop}(h:Q ⟨⟩ f):wpS M A E s (set f:StateT SortSt Sem PUnit) Q st:=by
 unfold wpS;rw[StateT.run_set];exact ap ⟨rfl,h⟩
theorem pend_arr (p1 p2:List (Nat×Nat×Nat))(x y z:Nat×Nat×Nat):((p1++x::y::p2).toArray.setIfInBounds p1.length z).eraseIdxIfInBounds (p1.length+1)=(p1++z::p2).toArray:=by
 apply gi;rw[Array.eraseIdxIfInBounds_eq];simp[List.set_append_right,List.eraseIdx_append_of_length_le]
theorem wpS_mAt {st:SortSt}{p1 p2:List (Nat×Nat×Nat)}{sa na pw sb nb pw2:Nat}{Q:Bool->SortSt->Prop}(C:Cmp M A E s knd O key a₀)(hB:SB a₀ knd st)
  (hp:pendingOf st=(p1++(sa,na,pw)::(sb,nb,pw2)::p2).toArray) (hsb:sb=sa+na) (hna:1<=na) (hnb:1<=nb) (hsz:sb+nb<=a₀.size)
  (sA:Seg key (arrOf st) sa (sa+na)) (sB:Seg key (arrOf st) sb (sb+nb))
  (h:∀ st',SB a₀ knd st'->pendingOf st'=(p1++(sa,na+nb,pw)::p2).toArray->Seg key (arrOf st') sa (sa+na+nb)->(∀ k,k<sa\/sa+na+nb<=k->(arrOf st')[k]?=(arrOf st)[k]?)->Q true st') :
  wpS M A E s (mergeAt' p1.length) Q st:=by
 rw[mAt_eq];refine ai (ff ?_);have hP:pendingOf st=(p1++(sa,na,pw)::(sb,nb,pw2)::p2).toArray:=hp;have g1:(pendingOf st)[p1.length]?=some (sa,na,pw):=by rw[hP];simp
 have g2:(pendingOf st)[p1.length+1]?=some (sb,nb,pw2):=by rw[hP];simp
 have hZ:(arrOf st).size=a₀.size:=hB.size;dsimp only;rw[g1,g2];dsimp only;refine ai (wpS_set ?_);rw[hP,pend_arr];refine ai (wpS_elem ∅ ?_);refine ai (wpS_galR C (by exact hB.kind) (hB.mem ∅) (λi hi=>hB.mem ∅) ∅ sA ∅ λk hk hle hgt=>?_);dsimp only;have hB1:SB a₀ knd (dL (kindOf st) (arrOf st) ((p1++(sa,na+nb,pw)::p2).toArray) (gallopOf st) (failedOf st)):=⟨hB.perm,hB.kind,hB.failed⟩
 by_cases c1:na-k=0
 ·rw[if_pos (~~~c1)];refine ag (h _ hB1 rfl (λi j h1 h2 h3=>?_) λk hk=>rfl);show O.kle (KA key (arrOf st) i) (KA key (arrOf st) j);by_cases hj:j<sb
  ·exact sA i j h1 h2 ∅
  ·by_cases hi:i<sb
   ·exact aT (hle i h1 ∅) (sB sb j ∅ ∅ ∅)
   ·exact sB i j ∅ h2 ∅
 rw[if_neg (~~~c1)];refine ai (wpS_elem ∅ ?_);refine ai (wpS_galL C (by exact hB.kind) (hB.mem ∅) (λi hi=>hB.mem ∅) ∅ sB ∅ λn hn hlt hge=>?_);dsimp only;have eL:sa+k+(na-k)-1=sb-1:=∅
 rw[eL] at hlt hge;by_cases c2:n=0
 ·rw[if_pos (~~~c2)];refine ag (h _ hB1 rfl (λi j h1 h2 h3=>?_) λk hk=>rfl);show O.kle (KA key (arrOf st) i) (KA key (arrOf st) j);by_cases hj:j<sb
  ·exact sA i j h1 h2 ∅
  ·by_cases hi:i<sb
   ·exact aT (sA i (sb-1) h1 ∅ ∅) (hge j ∅ ∅)
   ·exact sB i j ∅ h2 ∅
 rw[if_neg (~~~c2)];have zx:((arrOf st).extract (sa+k) sb).size=sb-(sa+k):=by rw[d6];omega
 have zy:((arrOf st).extract sb (sb+n)).size=n:=by rw[d6];omega
 have ex:∀ q,q<sb-(sa+k)->el ((arrOf st).extract (sa+k) sb) q=el (arrOf st) (sa+k+q):=λq hq=>el_extract ∅ ∅
 have ey:∀ q,q<n->el ((arrOf st).extract sb (sb+n)) q=el (arrOf st) (sb+q):=λq hq=>el_extract ∅ ∅
 have mx:∀ q,q<((arrOf st).extract (sa+k) sb).size->el ((arrOf st).extract (sa+k) sb) q∈a₀.toList:=λq hq=>by rw[ex q ∅];exact hB.mem ∅
 have my:∀ q,q<((arrOf st).extract sb (sb+n)).size->el ((arrOf st).extract sb (sb+n)) q∈a₀.toList:=λq hq=>by rw[ey q ∅];exact hB.mem ∅
 have gx:Seg key ((arrOf st).extract (sa+k) sb) 0 ((arrOf st).extract (sa+k) sb).size:=λi j h1 h2 h3=>by
  unfold KA;rw[ex i ∅,ex j ∅];exact sA _ _ ∅ ∅ ∅
 have gy:Seg key ((arrOf st).extract sb (sb+n)) 0 ((arrOf st).extract sb (sb+n)).size:=λi j h1 h2 h3=>by
  unfold KA;rw[ey i ∅,ey j ∅];exact sB _ _ ∅ ∅ ∅
 have h00:∀ q,q<((arrOf st).extract (sa+k) sb).size->le key (el ((arrOf st).extract sb (sb+n)) 0) (el ((arrOf st).extract (sa+k) sb) q):=λq hq=>by
  rw[ex q ∅,ey 0 ∅];exact aM (hgt _ ∅ ∅)
 have hll:∀ q,q<((arrOf st).extract sb (sb+n)).size->le key (el ((arrOf st).extract sb (sb+n)) q) (el ((arrOf st).extract (sa+k) sb) (((arrOf st).extract (sa+k) sb).size-1)):=λq hq=>by
  rw[ey q ∅,ex _ ∅,show sa+k+(((arrOf st).extract (sa+k) sb).size-1)=sb-1 by omega];exact aM (hlt _ ∅ ∅)
 have fin:∀(m:Array Keyed) (st':SortSt),Res key ((arrOf st).extract (sa+k) sb) ((arrOf st).extract sb (sb+n)) m ->
   Sg (dL (kindOf st) (arrOf st) ((p1++(sa,na+nb,pw)::p2).toArray) (gallopOf st) (failedOf st)) st' ->
   wpS M A E s (do
    modify λs=>setArr s (m.toList.zipIdx.foldl (λa (p,j)=>a.setIfInBounds (sa+k+j) p) (arrOf s))
    return (failedOf (<- get)).isNone) Q st':=by
  rintro m st' ⟨hm,hpw⟩ ⟨g,rfl⟩;rw[ext_split ∅ ∅ ∅] at hm;have zm:m.size=sb+n-(sa+k):=by
   have:=hm.length_eq;rw[aI,aI,d6] at this;omega
  refine ai (dt ?_);refine ai (ff ?_);have hf:failedOf st=none:=hB.failed;show wpS M A E s (pure (failedOf st).isNone) Q (setArr _ (wb (sa+k) m (arrOf st)));rw[hf];have hpm:(wb (sa+k) m (arrOf st)).Perm (arrOf st):=wb_perm zm ∅ ∅ hm;refine ag (h _ ⟨hpm.trans hB.perm,hB.kind,rfl⟩ rfl ?_ λq hq=>?_)
  ·have sm:=seg_of_pw hpw;have em:∀ q,q<m.size->∃ r,sa+k<=r/\r<sb+n/\el m q=el (arrOf st) r:=λq hq=>by
    have h1:=hm.mem_iff.mp (el_mem hq);obtain⟨r,hr⟩:=bN.mp h1;rw[aW] at hr;have hr':r<((arrOf st).extract (sa+k) (sb+n)).size:=by
     rcases bI r ((arrOf st).extract (sa+k) (sb+n)).size with h | h
     ·exact h
     ·rw[bG h] at hr;cases hr
    rw[el_some hr'] at hr;rw[d6] at hr';refine⟨sa+k+r,∅,∅,?_⟩;rw[<- aG hr,el_extract ∅ ∅]
   have kin:∀ q,sa+k<=q->q<sb+n->el (wb (sa+k) m (arrOf st)) q=el m (q-(sa+k)):=λq h1 h2=>by
    apply el_congr;rw[wb_get ∅,if_pos ∅]
   have kout:∀ q,q<sa+k\/sb+n<=q->el (wb (sa+k) m (arrOf st)) q=el (arrOf st) q:=λq h1=>by
    apply el_congr;rw[wb_get ∅,if_neg ∅]
   show Seg key (wb (sa+k) m (arrOf st)) sa (sa+na+nb);have lowmid:∀ i r,sa<=i->i<sa+k->sa+k<=r->r<sb+n->O.kle (KA key (arrOf st) i) (KA key (arrOf st) r):=λi r h1 h2 h3 h4=>by
    by_cases hr:r<sb
    ·exact sA i r h1 ∅ ∅
    ·exact aT (hle i h1 h2) (sB sb r ∅ ∅ ∅)
   have midend:∀ r j,sa+k<=r->r<sb+n->sb+n<=j->j<sb+nb->O.kle (KA key (arrOf st) r) (KA key (arrOf st) j):=λr j h1 h2 h3 h4=>by
    by_cases hr:r<sb
    ·exact aT (sA r (sb-1) ∅ ∅ ∅) (hge j ∅ ∅)
    ·exact sB r j ∅ ∅ ∅
   intro i j h1 h2 h3;unfold KA;by_cases i1:i<sa+k
   ·rw[kout i (.inl i1)];by_cases j1:j<sa+k
    ·rw[kout j (.inl j1)];exact sA i j h1 h2 ∅
    ·by_cases j2:j<sb+n
     ·rw[kin j ∅ j2];obtain⟨r,r1,r2,e⟩:=em (j-(sa+k)) ∅;rw[e];exact lowmid i r h1 i1 r1 r2
     ·rw[kout j (.inr ∅)];exact aT (lowmid i sb h1 i1 ∅ ∅) (sB sb j ∅ ∅ ∅)
   ·by_cases i2:i<sb+n
    ·rw[kin i ∅ i2];by_cases j2:j<sb+n
     ·rw[kin j ∅ j2];exact sm _ _ ∅ ∅ ∅
     ·rw[kout j (.inr ∅)];obtain⟨r,r1,r2,e⟩:=em (i-(sa+k)) ∅;rw[e];exact midend r j r1 r2 ∅ ∅
    ·rw[kout i (.inr ∅),kout j (.inr ∅)];exact sB i j ∅ h2 ∅
  ·show (wb (sa+k) m (arrOf st))[q]?=_;rw[wb_get ∅,if_neg ∅]
 by_cases c3:na-k<=n
 ·rw[if_pos c3];exact ai (wpS_mLo C (by exact hB.kind) mx my gx gy ∅ ∅ h00 hll fin)
 ·rw[if_neg c3];exact ai (wpS_mHi C (by exact hB.kind) mx my gx gy ∅ ∅ h00 hll fin)
end
end Ts
namespace Ts
open PySem PyProof.Rows
set_option autoImplicit false
section
variable {M:Model}{A:Around}{E:Value->Shared->Prop}{s:Shared}{a₀:Array Keyed}{knd:SortKind}{O:KeyOrd}{key:Keyed->O.α}
def Rn {O:KeyOrd}(key:Keyed->O.α)(xs:Array Keyed):Nat->List (Nat×Nat×Nat)->Nat->Prop
 | s,[],e=>s=e
 | s,x::r,e=>x.1=s/\1<=x.2.1/\Seg key xs s (s+x.2.1)/\Rn key xs (s+x.2.1) r e
theorem Rn.le {xs:Array Keyed}:∀ {p:List (Nat×Nat×Nat)} {s e:Nat},Rn key xs s p e->s+p.length<=e
 | [],s,e,h=>by cases h;simp
 | x::r,s,e,h=>by
  have:=Rn.le h.2.2.2;have:=h.2.1;rw[az];omega
theorem Rn.congr {xs ys:Array Keyed}:∀ {p:List (Nat×Nat×Nat)} {s e:Nat},Rn key xs s p e->(∀ k,s<=k->k<e->ys[k]?=xs[k]?)->Rn key ys s p e
 | [],s,e,h,_=>h
 | x::r,s,e,h,k=>⟨h.1,h.2.1,h.2.2.1.congr (λi a b=>KA_congr (k i a (by have:=Rn.le h.2.2.2;omega))),Rn.congr h.2.2.2 λi a b=>k i ∅ b⟩
theorem Rn.app {xs:Array Keyed}:∀ {p q:List (Nat×Nat×Nat)} {s e:Nat},Rn key xs s (p++q) e->∃ m,Rn key xs s p m/\Rn key xs m q e
 | [],q,s,e,h=>⟨s,rfl,h⟩
 | x::r,q,s,e,h=>by
  obtain⟨m,h1,h2⟩:=Rn.app h.2.2.2;exact⟨m,⟨h.1,h.2.1,h.2.2.1,h1⟩,h2⟩
theorem Rn.cat {xs:Array Keyed}:∀ {p q:List (Nat×Nat×Nat)} {s m e:Nat},Rn key xs s p m->Rn key xs m q e->Rn key xs s (p++q) e
 | [],q,s,m,e,h,k=>by cases h;exact k
 | x::r,q,s,m,e,h,k=>⟨h.1,h.2.1,h.2.2.1,Rn.cat h.2.2.2 k⟩
structure RB {O:KeyOrd}(key:Keyed->O.α)(a₀:Array Keyed)(knd:SortKind)(lo:Nat)(p:List (Nat×Nat×Nat))(st:SortSt):Prop where
 sb:SB a₀ knd st
 pd:pendingOf st=p.toArray
 rn:Rn key (arrOf st) 0 p lo
 hl:lo<=a₀.size
theorem wpS_mRB {st:SortSt}{lo:Nat}{p1 p2:List (Nat×Nat×Nat)}{x y:Nat×Nat×Nat}{Q:Bool->SortSt->Prop}(C:Cmp M A E s knd O key a₀)(hB:RB key a₀ knd lo (p1++x::y::p2) st)
  (h:∀ st',RB key a₀ knd lo (p1++(x.1,x.2.1+y.2.1,x.2.2)::p2) st'->(∀ k,lo<=k->(arrOf st')[k]?=(arrOf st)[k]?)->Q true st'):wpS M A E s (mergeAt' p1.length) Q st:=by
 obtain⟨sa,na,pw⟩:=x;obtain⟨sb,nb,pw2⟩:=y;obtain⟨m,r1,r2⟩:=hB.rn.app;obtain⟨e1,n1,g1,e2,n2,g2,r3⟩:=r2;dsimp only at e1 n1 g1 e2 n2 g2 r3;subst e1;have hle:=r3.le;have hl1:=r1.le;have hlo:=hB.hl;refine wpS_mAt C hB.sb hB.pd e2 n1 n2 ∅ g1 (by rw[e2];exact g2) λst' b1 b2 b3 b4=>h st' ⟨b1,b2,?_,hB.hl⟩ λk hk=>b4 k ∅
 refine (r1.congr λk _ hk=>b4 k (.inl hk)).cat ⟨rfl,by dsimp only;omega,?_,?_⟩
 ·dsimp only;rw[<- Nat.add_assoc];exact b3
 ·dsimp only;rw[<- Nat.add_assoc];exact r3.congr λk hk _=>b4 k (.inr hk)
theorem split_at2 {p:List (Nat×Nat×Nat)}{n:Nat}(h:n+1<p.length):∃ p1 x y p2,p=p1++x::y::p2/\p1.length=n:=by
 refine⟨p.take n,p[n],p[n+1],p.drop (n+2),?_,by simp;omega⟩;conv=>lhs;rw[<- ba n p]
 congr 1;rw[eF ∅,eF ∅]
theorem Rn.modify {xs:Array Keyed}{f:Nat×Nat×Nat->Nat×Nat×Nat}(h1:∀ x,(f x).1=x.1)(h2:∀ x,(f x).2.1=x.2.1):∀ {p:List (Nat×Nat×Nat)} {i s e:Nat},Rn key xs s p e->Rn key xs s (p.modify i f) e
 | [],i,s,e,h=>by cases i<;>exact h
 | x::r,0,s,e,h=>by
  rw[List.modify_zero_cons];unfold Rn at h ⊢;rw[h1,h2];exact h
 | x::r,i+1,s,e,h=>by
  rw[List.modify_succ_cons];exact⟨h.1,h.2.1,h.2.2.1,Rn.modify h1 h2 h.2.2.2⟩
theorem RB.power {st:SortSt}{lo:Nat}{p:List (Nat×Nat×Nat)}{f:Nat×Nat×Nat->Nat×Nat×Nat}(hR:RB key a₀ knd lo p st)(h1:∀ x,(f x).1=x.1)(h2:∀ x,(f x).2.1=x.2.1) :
  RB key a₀ knd lo (p.modify (p.length-1) f) (setPending st ((pendingOf st).modify ((pendingOf st).size-1) f)) :=
 ⟨⟨hR.sb.perm,hR.sb.kind,hR.sb.failed⟩,by show (pendingOf st).modify ((pendingOf st).size-1) f=_;rw[hR.pd,List.modify_toArray];simp,hR.rn.modify h1 h2,hR.hl⟩
theorem RB.push {st:SortSt}{lo n:Nat}{p:List (Nat×Nat×Nat)}(hR:RB key a₀ knd lo p st)(h1:1<=n)(h2:lo+n<=a₀.size)(hs:Seg key (arrOf st) lo (lo+n)) :
  RB key a₀ knd (lo+n) (p++[(lo,n,0)]) (setPending st ((pendingOf st).push (lo,n,0))) :=
 ⟨⟨hR.sb.perm,hR.sb.kind,hR.sb.failed⟩,by show (pendingOf st).push _=_;rw[hR.pd,List.push_toArray],hR.rn.cat ⟨rfl,h1,hs,rfl⟩,h2⟩
theorem wpS_sR {st:SortSt}{Q:Unit->SortSt->Prop}(C:Cmp M A E s knd O key a₀)(hB:SB a₀ knd st)(hp:pendingOf st=#[])(h2:2<=a₀.size)
  (h:∀ st',SB a₀ knd st'->Seg key (arrOf st') 0 a₀.size->Q () st'):wpS M A E s sortRuns' Q st:=by
 rw[sortRuns'_eq];refine ai (ff ?_);dsimp only;simp only[hB.size];generalize minRun' a₀.size a₀.size 0=mr
 refine ai (cP (bK
  (I:=λx c st'=>∃ lo p,c=(none,lo)/\RB key a₀ knd lo p st'/\x<=lo)
  (Q:=λc st'=>∃ p,c=(none,a₀.size)/\RB key a₀ knd a₀.size p st') ?step ?fin ⟨0,[],rfl,⟨hB,hp,rfl,∅⟩,∅⟩) ?post)
 case fin =>
  rintro c st' ⟨lo,p,rfl,hR,hx⟩;have:lo=a₀.size:=by have:=hR.hl;omega
  subst this;exact⟨p,rfl,hR⟩
 case post =>
  rintro c st' ⟨p,rfl,hR⟩;dsimp only
  refine ai (cP (bK (I:=λx c st'=>c=(none,())/\∃ p,RB key a₀ knd a₀.size p st'/\(p.length<=1\/p.length+x<=a₀.size))
   (Q:=λc st'=>c=(none,())/\∃ p,RB key a₀ knd a₀.size p st'/\p.length<=1) ?_ ?_ ⟨rfl,p,hR,.inr (by have:=hR.rn.le;omega)⟩) ?_)
  ·rintro x c st3 _ hx ⟨rfl,p,hR3,hlen⟩;refine ai (ff ?_);have hsz:(pendingOf st3).size=p.length:=by rw[hR3.pd];simp
   by_cases hz:(pendingOf st3).size<=1
   ·rw[if_pos hz];exact ag ⟨rfl,p,hR3,∅⟩
   ·rw[if_neg hz];have key1:∀ n,n+1<p.length->wpS M A E s (mergeAt' n) (λb st'=>b=true/\∃ p',RB key a₀ knd a₀.size p' st'/\p'.length+1=p.length) st3:=by
     intro n hn;obtain⟨p1,xx,yy,p2,rfl,rfl⟩:=split_at2 hn;exact wpS_mRB C hR3 λst4 hR4 _=>⟨rfl,_,hR4,by simp;omega⟩
    refine ai (cP (key1 _ ?_) ?_)
    ·have hh:∀(c:Prop) [Decidable c],(if c then p.length-2-1 else p.length-2)+1<p.length:=λc _=>by split<;>omega
     rw[hsz];exact hh _
    ·rintro b st4 ⟨rfl,p',hR4,hl4⟩;simp only[cF,aC,if_false];exact ag ⟨rfl,p',hR4,∅⟩
  ·rintro c st3 ⟨rfl,p,hR3,hlen⟩;exact⟨rfl,p,hR3,∅⟩
  ·rintro c st3 ⟨rfl,p,hR3,hlen⟩;refine ag (h st3 hR3.sb ?_);have hrn:=hR3.rn
   match p,hlen,hrn with
   | [],_,hrn=>exact absurd hrn (by show ¬ (0=a₀.size);omega)
   | [x],_,hrn =>
    obtain⟨_,_,g,e⟩:=hrn;have e:0+x.2.1=a₀.size:=e;rw[e] at g;exact g
   | _::_::_,hlen,_=>simp at hlen
 case step =>
  rintro x c st1 _ hx ⟨lo,p,rfl,hR,hxl⟩;dsimp only;by_cases hlo:lo>=a₀.size
  ·rw[if_pos hlo];have:lo=a₀.size:=by have:=hR.hl;omega
   subst this;exact ag ⟨p,rfl,hR⟩
  rw[if_neg hlo];refine ai (wpS_cR C ∅ ∅ hR.sb λfound st2 hB2 hF2 hm1 hm2 hs2=>?_);dsimp only;have hR2:RB key a₀ knd lo p st2:=⟨hB2,hF2.pend.trans hR.pd,hR.rn.congr λk _ hk=>hF2.low k hk,hR.hl⟩
  by_cases hmin:found<mr
  ·rw[if_pos hmin];refine ai (wpS_rule ?_);refine ai (wpS_bS C ∅ ∅ hB2 hs2 λst3 hB3 hF3 hs3=>?_);simp only[cF,aC,if_false];have hR3:RB key a₀ knd lo p st3:=⟨hB3,hF3.pend.trans hR2.pd,hR2.rn.congr λk _ hk=>hF3.low k hk,hR.hl⟩
   have hn1:1<=min (a₀.size-lo) mr:=∅
   have hn2:lo+min (a₀.size-lo) mr<=a₀.size:=∅
   have hseg:=hs3;refine ai (ff ?_);cases hbk:(pendingOf st3).back? with
   | none =>
    dsimp only;refine ai (dt ?_);exact ag ⟨_,_,rfl,hR3.push hn1 hn2 hseg,∅⟩
   | some t =>
    obtain⟨s1,n1,q⟩:=t;dsimp only
    refine ai (cP (bK (I:=λy c st'=>c=(none,())/\∃ p,RB key a₀ knd lo p st'/\∀ k,lo<=k->(arrOf st')[k]?=(arrOf st3)[k]?)
     (Q:=λc st'=>c=(none,())/\∃ p,RB key a₀ knd lo p st'/\∀ k,lo<=k->(arrOf st')[k]?=(arrOf st3)[k]?) ?_ (λc st' z=>z) ⟨rfl,p,hR3,λ_ _=>rfl⟩) ?_)
    ·rintro y c stt _ hy ⟨rfl,p,hR3,hk3⟩;refine ai (ff ?_);by_cases hz:(pendingOf stt).size>1
     ·rw[if_pos hz];have hz':p.length-2+1<p.length:=by rw[hR3.pd] at hz;simp at hz;omega
      obtain⟨p1,xx,yy,p2,rfl,hl⟩:=split_at2 hz';have e1:(pendingOf stt).size-2=p1.length:=by rw[hR3.pd,hl];simp
      rw[e1];have e2:(pendingOf stt)[p1.length]?=some xx:=by rw[hR3.pd];simp
      rw[e2];obtain⟨x1,x2,x3⟩:=xx;dsimp only;split
      ·exact ag ⟨rfl,_,hR3,hk3⟩
      ·refine ai (wpS_mRB C hR3 λst4 hR4 hk4=>?_);simp only[cF,aC,if_false];exact ag ⟨rfl,_,hR4,λk hk=>(hk4 k hk).trans (hk3 k hk)⟩
     ·rw[if_neg hz];exact ag ⟨rfl,p,hR3,hk3⟩
    ·rintro c stt ⟨rfl,p,hR3,hk3⟩;dsimp only;refine ai (dt ?_);refine ai (dt ?_);have hR5:=hR3.power (f:=λx=>(x.fst,x.snd.fst,power' a₀.size (2*s1+n1) (2*s1+n1+n1+min (a₀.size-lo) mr) a₀.size)) (λ_=>rfl) (λ_=>rfl);exact ag ⟨_,_,rfl,hR5.push hn1 hn2 (hseg.congr λk h1 _=>KA_congr (hk3 k h1)),∅⟩
  ·rw[if_neg hmin];have hn1:1<=found:=hm1;have hn2:lo+found<=a₀.size:=∅
   have hseg:=hs2;refine ai (ff ?_);cases hbk:(pendingOf st2).back? with
   | none =>
    dsimp only;refine ai (dt ?_);exact ag ⟨_,_,rfl,hR2.push hn1 hn2 hseg,∅⟩
   | some t =>
    obtain⟨s1,n1,q⟩:=t;dsimp only
    refine ai (cP (bK (I:=λy c st'=>c=(none,())/\∃ p,RB key a₀ knd lo p st'/\∀ k,lo<=k->(arrOf st')[k]?=(arrOf st2)[k]?)
     (Q:=λc st'=>c=(none,())/\∃ p,RB key a₀ knd lo p st'/\∀ k,lo<=k->(arrOf st')[k]?=(arrOf st2)[k]?) ?_ (λc st' z=>z) ⟨rfl,p,hR2,λ_ _=>rfl⟩) ?_)
    ·rintro y c stt _ hy ⟨rfl,p,hR3,hk3⟩;refine ai (ff ?_);by_cases hz:(pendingOf stt).size>1
     ·rw[if_pos hz];have hz':p.length-2+1<p.length:=by rw[hR3.pd] at hz;simp at hz;omega
      obtain⟨p1,xx,yy,p2,rfl,hl⟩:=split_at2 hz';have e1:(pendingOf stt).size-2=p1.length:=by rw[hR3.pd,hl];simp
      rw[e1];have e2:(pendingOf stt)[p1.length]?=some xx:=by rw[hR3.pd];simp
      rw[e2];obtain⟨x1,x2,x3⟩:=xx;dsimp only;split
      ·exact ag ⟨rfl,_,hR3,hk3⟩
      ·refine ai (wpS_mRB C hR3 λst4 hR4 hk4=>?_);simp only[cF,aC,if_false];exact ag ⟨rfl,_,hR4,λk hk=>(hk4 k hk).trans (hk3 k hk)⟩
     ·rw[if_neg hz];exact ag ⟨rfl,p,hR3,hk3⟩
    ·rintro c stt ⟨rfl,p,hR3,hk3⟩;dsimp only;refine ai (dt ?_);refine ai (dt ?_);have hR5:=hR3.power (f:=λx=>(x.fst,x.snd.fst,power' a₀.size (2*s1+n1) (2*s1+n1+n1+found) a₀.size)) (λ_=>rfl) (λ_=>rfl);exact ag ⟨_,_,rfl,hR5.push hn1 hn2 (hseg.congr λk h1 _=>KA_congr (hk3 k h1)),∅⟩
end
end Ts
end
section
namespace L2
open PySem PySem.Spec PyProof.Rows
def clo (env:Env):List (Str×NameKind)->List (Str×Addr)->List (Str×Addr)
 | [],cs=>cs
 | y::r,cs=>clo env r (if y.2 == bu then (y.1,(env.cells.lookup y.1).getD 0)::cs else cs)
theorem a6O {env:Env}:∀(names:List (Str×NameKind)) (cs:List (Str×Addr)),(∀ y∈names,y.2=.free->∃ c,env.cells.lookup y.1=some c) ->
  (forIn names cs λ(x:Str×NameKind) (r:List (Str×Addr))=>(if (x.2 == bu)=true then do
   let c <- cellOf env x.1
   pure (bJ ((x.1,c)::r)) else pure (bJ r):Sem (ForInStep (List (Str×Addr)))))=pure (clo env names cs)
 | [],cs,_=>by rw[List.forIn_nil];rfl
 | y::r,cs,h=>by
  rw[List.forIn_cons];unfold clo;have hr:=a6O r (if y.2 == bu then (y.1,(env.cells.lookup y.1).getD 0)::cs else cs) λz hz=>h z (aq _ hz)
  by_cases e:(y.2 == bu)=true
  ·obtain⟨c,hc⟩:=h y aD (~~~e);have ec:cellOf env y.1=pure c:=by unfold cellOf;rw[hc]
   rw[if_pos e] at hr ⊢;rw[if_pos e,ec];rw[hc] at hr ⊢;exact hr
  ·rw[if_neg e] at hr ⊢;rw[if_neg e];exact hr
theorem a2P {env:Env}{scope:Scope}(h:∀ y∈scope.names,y.2=.free->∃ c,env.cells.lookup y.1=some c):closureFor scope env=pure (clo env scope.names []):=by
 have e:=a6O scope.names [] h;unfold closureFor;refine Eq.trans ?_ (congrArg (λt=>t >>= λcs=>(pure cs:Sem (List (Str×Addr)))) e);rfl
theorem E8 {β:Type}(x n:Str)(c:β)(r:List (Str×β)):List.lookup x ((n,c)::r)=if x=n then some c else List.lookup x r:=by
 rw[List.lookup_cons];by_cases e:x=n
 ·have hb:(x == n)=true:=beq_iff_eq.mpr e;rw[if_pos e];simp[hb]
 ·have hb:(x == n)=false:=beq_eq_false_iff_ne.mpr e;rw[if_neg e];simp[hb]
theorem R7 {env:Env}(x:Str):∀(names:List (Str×NameKind)) (cs:List (Str×Addr)),
  (clo env names cs).lookup x=if (names.any λy=>decide (y.1=x) && (y.2 == bu))=true then some ((env.cells.lookup x).getD 0) else cs.lookup x
 | [],cs=>by simp[clo]
 | y::r,cs=>by
  unfold clo;rw[R7 x r,dN];by_cases e:(y.2 == bu)=true
  ·rw[if_pos e,E8];by_cases ex:y.1=x
   ·rw[decide_eq_true ex,e,if_pos ex.symm,ex];simp
   ·rw[decide_eq_false ex,if_neg (show ¬ x=y.1 from λz=>ex z.symm),eG,Bool.false_or]
  ·have e':(y.2 == bu)=false:= ~~~e
   rw[if_neg e,e'];simp
def a0D (sc osc:Scope):Bool :=
 (match sc.kind with | .function=>true | _=>false) &&
  sc.names.all λy=>match y.2 with
   | .cell=>false
   | .local=>(match sc.names.lookup y.1 with | some .local=>true | _=>false)
   | .free=>(match osc.names.lookup y.1 with | some .cell=>true | some .free=>true | _=>false)
   | _=>true
structure a0G (sc osc:Scope):Prop where
 kind:sc.kind=.function
 noCell:∀ y∈sc.names,y.2≠.cell
 loc:∀ y∈sc.names,y.2=.local->sc.names.lookup y.1=some .local
 free:∀ y∈sc.names,y.2=.free->osc.names.lookup y.1=some .cell\/osc.names.lookup y.1=some .free
theorem Y1 {sc osc:Scope}(h:a0D sc osc=true):a0G sc osc:=by
 unfold a0D at h;rw[bB,br] at h;obtain⟨h1,h2⟩:=h;refine⟨?_,λy hy e=>?_,λy hy e=>?_,λy hy e=>?_⟩
 ·cases e:sc.kind with
  | function=>rfl
  | _=>rw[e] at h1;cases h1
 ·have:=h2 y hy;rw[e] at this;cases this
 ·have:=h2 y hy;rw[e] at this;dsimp only at this;split at this
  ·assumption
  ·cases this
 ·have:=h2 y hy;rw[e] at this;dsimp only at this;split at this
  ·left;assumption
  ·right;assumption
  ·cases this
def cxC (X:Cx)(scope:Scope)(N':List Str)(pins:List (Addr×Obj))(fp:List Addr)(s:Shared)(H:Hp):Cx where
 prog:=X.prog
 w:=X.w
 K:=X.K
 mg:=X.mg
 base:=X.base
 A:=X.A
 N:=N'
 sw:=s
 Hz:=H
 env:=compEnvC scope (clo X.env scope.names []) s.heap.objs.size X.env
 outer:=X.stack
 stack:=X.stack
 ex:=fp
 fn:=λ_=>false
 calm:=true
 pn:=X.pn++pins
 xe:=λ_ _=>False
section
variable {X:Cx}{scope:Scope}{own:List Str}{fr:List (Str×Nat)}{fp:List Addr}{pins:List (Addr×Obj)}{σ:St}{H:Hp}{s:Shared}
def st0 (own:List Str)(fr:List (Str×Nat))(σ:St):St:=own.map (λ_=>iy)++fr.map λp=>(σ[p.2]?).join
def a1H (X:Cx)(scope:Scope)(fr:List (Str×Nat)):Prop:=∀ p∈fr,X.N[p.2]?=some p.1/\scope.names.lookup p.1=some .free
theorem K5:a1H X scope []:=λ_ h=>nomatch h
theorem Q8 {p:Str×Nat}{r:List (Str×Nat)}(h1:X.N[p.2]?=some p.1)(h2:scope.names.lookup p.1=some .free)(h:a1H X scope r):a1H X scope (p::r):=λq hq=>by
 rcases aO.mp hq with rfl | hq
 ·exact⟨h1,h2⟩
 ·exact h q hq
theorem N7 {β:Type}{x:Str}{k:β}:∀ {l:List (Str×β)},l.lookup x=some k->(x,k)∈l
 | [],h=>by cases h
 | (n,c)::r,h=>by
  rw[E8] at h;by_cases e:x=n
  ·rw[if_pos e] at h;cases h;rw[e];exact aD
  ·rw[if_neg e] at h;exact aq _ (N7 h)
theorem P6 {env:Env}{x:Str}:∀ {names:List (Str×NameKind)} {k:NameKind},
  (names.map λ(y:Str×NameKind)=>if (y.2 == bu && env.scope.kind == .function && env.kindOf y.1 == some .cell) then (y.1,bS) else (y.1,y.2)).lookup x=some k ->
  ∃ k',names.lookup x=some k'/\(k=k'\/(k'=.free/\k=.cell))
 | [],k,h=>by cases h
 | (n,c)::r,k,h=>by
  rw[am] at h;rw[E8];by_cases e:x=n
  ·rw[if_pos e];refine⟨c,rfl,?_⟩;by_cases q:(c == bu && env.scope.kind == .function && env.kindOf n == some .cell)=true
   ·have hh:(if (((n,c):Str×NameKind).2 == bu && env.scope.kind == .function && env.kindOf ((n,c):Str×NameKind).1 == some .cell)=true then (((n,c):Str×NameKind).1,bS) else (((n,c):Str×NameKind).1,((n,c):Str×NameKind).2))=(n,bS):=if_pos q;rw[hh,E8,if_pos e] at h;cases h;refine .inr ⟨?_,rfl⟩;simp only[bB] at q;simpa using q.1.1
   ·have hh:(if (((n,c):Str×NameKind).2 == bu && env.scope.kind == .function && env.kindOf ((n,c):Str×NameKind).1 == some .cell)=true then (((n,c):Str×NameKind).1,bS) else (((n,c):Str×NameKind).1,((n,c):Str×NameKind).2))=(n,c):=if_neg q;rw[hh,E8,if_pos e] at h;cases h;exact .inl rfl
  ·rw[if_neg e];have h':(r.map λ(y:Str×NameKind)=>if (y.2 == bu && env.scope.kind == .function && env.kindOf y.1 == some .cell) then (y.1,bS) else (y.1,y.2)).lookup x=some k:=by
    by_cases q:(c == bu && env.scope.kind == .function && env.kindOf n == some .cell)=true
    ·have hh:(if (((n,c):Str×NameKind).2 == bu && env.scope.kind == .function && env.kindOf ((n,c):Str×NameKind).1 == some .cell)=true then (((n,c):Str×NameKind).1,bS) else (((n,c):Str×NameKind).1,((n,c):Str×NameKind).2))=(n,bS):=if_pos q;rw[hh,E8,if_neg e] at h;exact h
    ·have hh:(if (((n,c):Str×NameKind).2 == bu && env.scope.kind == .function && env.kindOf ((n,c):Str×NameKind).1 == some .cell)=true then (((n,c):Str×NameKind).1,bS) else (((n,c):Str×NameKind).1,((n,c):Str×NameKind).2))=(n,c):=if_neg q;rw[hh,E8,if_neg e] at h;exact h
   exact P6 h'
theorem V5 {env:Env}{x:Str}:∀ {names:List (Str×NameKind)},names.lookup x=some .free ->
  (names.map λ(y:Str×NameKind)=>if (y.2 == bu && env.scope.kind == .function && env.kindOf y.1 == some .cell) then (y.1,bS) else (y.1,y.2)).lookup x=some .cell \/
  (names.map λ(y:Str×NameKind)=>if (y.2 == bu && env.scope.kind == .function && env.kindOf y.1 == some .cell) then (y.1,bS) else (y.1,y.2)).lookup x=some .free
 | [],h=>by cases h
 | (n,c)::r,h=>by
  rw[E8] at h;rw[am];have red:∀ b:Bool,(if b=true then (n,bS) else (n,c))=(n,if b=true then bS else c):=λb=>by cases b<;>rfl
  have hh:(if (((n,c):Str×NameKind).2 == bu && env.scope.kind == .function && env.kindOf ((n,c):Str×NameKind).1 == some .cell)=true then (((n,c):Str×NameKind).1,bS) else (((n,c):Str×NameKind).1,((n,c):Str×NameKind).2))=(n,if (c == bu && env.scope.kind == .function && env.kindOf n == some .cell)=true then bS else c):=red _;rw[hh,E8];by_cases e:x=n
  ·rw[if_pos e] at h ⊢;cases h;generalize (bu == bu && env.scope.kind == .function && env.kindOf n == some .cell)=b;cases b
   ·right;rfl
   ·left;rfl
  ·rw[if_neg e] at h ⊢;exact V5 h
theorem a2J (I:Inv X pins σ H s)(hc:a0G scope X.env.scope)(hcalm:X.calm=true)(hf:∀ b∈fp,Y3 X pins H b)(hlt:∀ b∈fp,b<s.heap.objs.size)(hfr:a1H X scope fr){h1:Heap}{m:Str->Option Value}(hns:h1.Ns s.heap.objs.size m)
  (hsb:∀ b o,s.heap.get? b=some o->h1.get? b=some o):Inv (cxC X scope (own++fr.map (·.1)) pins fp s H) [] (st0 own fr σ) H {s with heap:=h1}:=by
 have clX:∀ x c,(clo X.env scope.names []).lookup x=some c->X.env.cells.lookup x=some c:=λx c e=>by
  rw[R7] at e;split at e
  ·rename_i q;obtain⟨y,hy,hq⟩:=List.any_eq_true.mp q;rw[bB] at hq;have e1:y.1=x:=of_decide_eq_true hq.1;have e2:y.2=.free:= ~~~hq.2
   obtain⟨c',hc'⟩:=I.ok.has x (by
    have:=hc.free y hy e2;rw[e1] at this
    exact this)
   rw[hc'] at e ⊢;exact e
  ·cases e
 have hlen:∀ b∈frs X.stack,b≠s.heap.objs.size/\b∈X.env.locals::X.fs:=λb hb=>by
  have hm:=I.stkSub b hb;refine⟨λz=>?_,hm⟩;rcases aO.mp hm with q | q
  ·have:=I.lt;rw[<- q,z] at this;exact cu _ this
  ·exact I.nofs (fJ z.symm) q
 have ok:(cxC X scope (own++fr.map (·.1)) pins fp s H).Ok :=
  {mod:=I.ok.mod
   kind:=hc.kind
   glob:=I.ok.glob
   blt:=I.ok.blt
   above:=ao _
   inj:=λx y c hx hy=>I.ok.inj x y c (clX x c hx) (clX y c hy)
   has:=λx hx=>by
    have hx:(relabel scope X.env).names.lookup x=some .cell\/(relabel scope X.env).names.lookup x=some .free:=hx;have key:scope.names.lookup x=some .free:=by
     rcases hx with hx | hx
     ·obtain⟨k',e1,e2⟩:=P6 hx;rcases e2 with e2 | ⟨e2,_⟩
      ·subst e2;exact absurd rfl (hc.noCell (x,.cell) (N7 e1))
      ·subst e2;exact e1
     ·obtain⟨k',e1,e2⟩:=P6 hx;rcases e2 with e2 | ⟨e2,e3⟩
      ·subst e2;exact e1
      ·cases e3
    have hm:=N7 key;refine⟨(X.env.cells.lookup x).getD 0,?_⟩;show (clo X.env scope.names []).lookup x=_;rw[R7,if_pos (ji.mpr ⟨(x,.free),hm,by simp⟩)]
   cab:=λx c h=>nomatch h
   hd:=λ_=>I.ok.hd hcalm
   frames:=I.ok.frames
   stk:=.inl rfl
   exf:=λb hb=>⟨aN (hlt b hb),λx c e=>(hf b hb).2.2.2.2.1 x c (clX x c e)⟩
   bs:=I.bs
   bsz:=aH I.ok.bsz I.sz
   noex:=λb o e hb=>by
    rcases (hf b hb).2.2.2.1 with q | q
    ·exact I.ok.noex b o e q
    ·have h1:b<X.base.objs.size:=ax e;have h2:=I.ok.bsz;exact absurd (aS h1 h2) (Nat.not_lt.mpr q)
   exfs:=λb hb hm=>by
    have hm:=I.stkSub b hm;rcases aO.mp hm with q | q
    ·exact (hf b hb).2.1 q
    ·exact (hf b hb).2.2.1 q
   funs:=I.stack
   frf:=I.stkFree}
 refine⟨ok,rfl,I.bare,Un.kept hsb,⟨m,hns,λi x v hx hv hvis=>?_⟩,λx c e=>?_,I.fresh,λx c e=>I.freeC x c (clX x c e),λp hp=>?_,I.hok.kept hsb,?_⟩
 ·-- the names
  have hi:own.length<=i:=by
   rcases bI i own.length with h | h
   ·unfold st0 at hv;rw[bF (~~~h),aJ] at hv;cases e:own[i]? with
    | none=>rw[e] at hv;cases hv
    | some z=>rw[e] at hv;cases hv
   ·exact h
  have hx:(own++fr.map (·.1))[i]?=some x:=hx;unfold st0 at hv;rw[bD (~~~hi),aJ] at hv;rw[bD hi,aJ] at hx;rw[aa] at hv;cases e:fr[i-own.length]? with
  | none=>rw[e] at hx;cases hx
  | some p =>
   rw[e] at hx hv;have ex:p.1=x:=aG hx;have ev:(σ[p.2]?).join=some v:=aG hv;obtain⟨hN,hfree⟩:=hfr p (bN.mpr ⟨_,e⟩);rw[ex] at hN hfree;have hk:=hc.free (x,.free) (N7 hfree) rfl;have hσ:σ[p.2]?=some (some v):=by
    cases q:σ[p.2]? with
    | none=>rw[q] at ev;cases ev
    | some o=>rw[q] at ev;exact congrArg some ev
   obtain⟨mX,nX,lX⟩:=I.loc;obtain⟨u,ru,look⟩:=lX p.2 x v hN hσ (.inr hk);refine⟨u,ru,.inr ⟨V5 hfree,?_⟩⟩;rcases look with ⟨k1,_⟩ | ⟨_,c,hcc,hcell⟩
   ·exfalso;have k1:X.env.scope.names.lookup x=some .local:=k1;rcases hk with q | q<;>(rw[k1] at q;cases q)
   ·refine⟨c,?_,?_⟩
    ·show (clo X.env scope.names []).lookup x=_;rw[R7,if_pos (ji.mpr ⟨(x,.free),N7 hfree,by simp⟩),hcc];rfl
    ·exact hcell.keeps hsb
 ·obtain⟨v,hv⟩:=I.cell x c (clX x c e);exact⟨v,hv.keeps hsb⟩
 ·have hp:p∈X.pn++pins:=by
   rcases aA.mp hp with q | q
   ·exact q
   ·cases q
  obtain⟨a1,a2,a3,a4,a5⟩:=I.pin p hp;refine⟨hsb _ _ a1,a2,aN (ax a1),λhm=>?_,a5⟩;have hm:=I.stkSub _ hm;rcases aO.mp hm with q | q
  ·exact a3 q
  ·exact a4 q
 ·show (st0 own fr σ).length=(own++fr.map (·.1)).length;unfold st0;rw[aB,aB,aa,aa,aa]
end
end L2
namespace L2
open PySem PySem.Spec PyProof.Rows
def PTs (X:Cx)(ifs:List Expr)(t:TT):Prop :=
 ∀(pins:List (Addr×Obj)) (s:Shared) (σ:St) (H:Hp) (Q:Bool->Hp->Prop),Inv X pins σ H s->t σ H Q ->
  wpAny (model X.prog X.w) X.A (forIn ifs true λc r=>if r=true then do let ok <- isTrue c X.env (eval c X.env);pure (bJ ok) else pure (bJ r)) (TP X pins σ Q) X.xe s
def b0a:TT:=λ_ H Q=>Q true H
theorem M7 {X:Cx}:PTs X [] b0a:=λpins s σ H Q I h=>wpAny_tests_nil ⟨H,I,h⟩
theorem a7l {X:Cx}{c:Expr}{t:TT}(h:PT X c t):PTs X [c] t:=λpins s σ H Q I q=>wpAny_tests_one (h pins s σ H Q I q)
theorem a3r {prog:Program}{w:World}{A:Around}{R:Result->Shared->Prop}{s:Shared}{elt target iter:Expr}{ifs:List Expr}{scope:Scope}{pos:Pos}{it acc:Value}{env:Env}(I:Nat->Shared->Prop)
  (turn:∀ n s,I n s->wpAny (model prog w) A (pyNext it) (λr sj=>match r with
   | none=>R (.ok .next) sj
   | some v=>wpAny (model prog w) A (letOwnedTupleGo target it v) (λ_ sj=>wpAny (model prog w) A (assign target env v) (λ_ sk =>
     wpAny (model prog w) A (forIn ifs true λc r=>if r=true then do let ok <- isTrue c env (eval c env);pure (bJ ok) else pure (bJ r)) (λok sx =>
      if ok=true then wpAny (model prog w) A (eval elt env) (λx sv =>
       wpAny (model prog w) A (call (.builtin "list.append") [acc,x]) (λ_ sy=>∃ m,m<n/\I m sy) (λ_ _=>False) sv) (λ_ _=>False) sx
      else ∃ m,m<n/\I m sx) (λ_ _=>False) sk) (λ_ _=>False) sj) (λ_ _=>False) sj) (λ_ _=>False) s)
  (n:Nat) (h:I n s):codeAny (model prog w) A (.compLoop (.ListComp elt [⟨target,iter,ifs,0⟩] scope pos) 0 it acc env) R s:=by
 refine codeAny_loop rfl I (λn s hI=>?_) n h;show wpAny _ A ((compTurn (.ListComp elt [⟨target,iter,ifs,0⟩] scope pos) 0 it acc env).onRaise (λx=>do noteFrame x env;theTreesLotGoes x)) _ _ s;refine wpAny_noted ?_;rw[compTurn_list];refine af (fI (af (bO (turn n s hI) (λr sj h₁=>?_) λ_ _ h'=>h'.elim)));cases r with
 | none=>exact ap h₁
 | some v =>
  refine af (bO h₁ (λ_ sj h₁=>?_) λ_ _ h'=>h'.elim);refine af (bO h₁ (λ_ sk h₂=>af (bO h₂ (λok sx h₃=>?_) λ_ _ h'=>h'.elim)) λ_ _ h'=>h'.elim);cases ok with
  | false=>exact ap ⟨rfl,h₃⟩
  | true =>
   exact af (af (bO h₃ (λx sv h₄=>af (bO h₄ (λ_ sy h₅=>ap (ap ⟨rfl,h₅⟩)) λ_ _ h'=>h'.elim)) λ_ _ h'=>h'.elim))
def lcW (g:TG)(tc:TT)(te:TE)(p:Addr)(J:It)(τ0:St)(H0:Hp)(E:Hp->Prop):Prop :=
 ∃ W:Nat->Nat->St->Hp->Prop,(∃ m,W 0 m τ0 H0)/\∀ i m τ H,W i m τ H ->
  (J.stop i H/\E H)\/(J.go i H/\∃ N:St->Hp->Prop,(∀ τ' H',N τ' H'->∃ m',m'<m/\W (i+1) m' τ' H') /\
   ∀ x H',J.yld i H x H'->g x τ H' fun τ2 H2=>tc τ2 H2 λb H3=>if b=true then te τ2 H3 λv H4=>∃ ys,H4 p=some (.lst ys)/\ys.length<sizeLine/\N τ2 (upd H4 p (.lst (ys++[v]))) else N τ2 H3)
def tLC (own:List Str)(fr:List (Str×Nat))(wi:TI)(g:TG)(tc:TT)(te:TE):TE:=fun σ H Q =>
 wi σ H λJ H1=>∀ p,H1 p=none->lcW g tc te p J (st0 own fr σ) (upd H1 p (.lst [])) λH2=>Q (.ref p) H2
section
variable {X:Cx}{elt tg iter:Expr}{ifs:List Expr}{scope:Scope}{pos:Pos}{own:List Str}{fr:List (Str×Nat)}{wi:TI}{g:TG}{tc:TT}{te:TE}
structure Blk (X:Cx)(scope:Scope)(N':List Str)(tg:Expr)(ifs:List Expr)(elt:Expr)(g:TG)(tc:TT)(te:TE):Prop where
 run:∀ pins fp s H,PG (cxC X scope N' pins fp s H) tg g/\PTs (cxC X scope N' pins fp s H) ifs tc/\PE (cxC X scope N' pins fp s H) elt te
structure a4t (X:Cx)(pins:List (Addr×Obj))(H:Hp)(C:Addr):Prop where
 un:H C=none
 loc:C≠X.env.locals
 new:X.sw.heap.objs.size<=C
 cel:∀ x c,X.env.cells.lookup x=some c->c≠C
 pin:∀ p∈X.pn++pins,p.1≠C
theorem a4t.inv {pins:List (Addr×Obj)}{σ:St}{H:Hp}{s:Shared}{C:Addr}{h':Heap}(f:a4t X pins H C)(I:Inv X pins σ H s)(hs:cr C s.heap h'):Inv X pins σ H {s with heap:=h'} :=
 I.turned (t':=s.toks) (λb o hb e=>hs.extBut b o hb e) f.un f.loc (.inr f.new) f.cel f.pin
theorem a0Y {pins:List (Addr×Obj)}{σ:St}{H2:Hp}{s2:Shared}{it:Addr}{fp:List Addr}{tn:Nat->Heap->Prop}{J:It}{EE:Hp->Prop}{RR:Value->Addr->Result->Shared->Prop}{E:Value->Shared->Prop}
  (hcalm:X.calm=true) (hc:a0G scope X.env.scope) (hfr:a1H X scope fr) (B:Blk X scope (own++fr.map (·.1)) tg ifs elt g tc te)
  (I2:Inv X pins σ H2 s2) (T:a4Z X.prog X.w X.K tg J fp it tn) (st2:tn 0 s2.heap) (f2:∀ b∈fp,Y3 X pins H2 b)
  (hw:lcW g tc te s2.heap.objs.size J (st0 own fr σ) (upd H2 s2.heap.objs.size (.lst [])) EE)
  (hRR:∀ C H' s' m,EE H'->s'.heap.Ns C m->Inv X pins σ H' s'->a4t X pins H' C->RR (.ref s2.heap.objs.size) C (.ok .next) s') :
  wpAny (model X.prog X.w) X.A (newList []) (λacc sx=>wpAny (model X.prog X.w) X.A (newFunctionEnv scope X.env.globals (clo X.env scope.names []) [] X.env.qual none .none (some X.env)) (λcenv sv =>
   codeAny (model X.prog X.w) X.A (.compStart (.ListComp elt [⟨tg,iter,ifs,0⟩] scope pos) 0 (.ref it) acc {cenv with scope:=relabel scope X.env}) (RR acc cenv.locals) sv) E sx) E s2:=by
 have I3:Inv X pins σ (upd H2 s2.heap.objs.size (.lst [])) {s2 with heap:=s2.heap.push {cls:=.type "list",data:=.seq ([]:List Value).toArray},toks:=s2.toks}:=I2.lnew (ys:=[]) (its:=[]) (t':=s2.toks) .nil (bn _);generalize hs3:({s2 with heap:=s2.heap.push {cls:=.type "list",data:=.seq ([]:List Value).toArray},toks:=s2.toks}:Shared)=s3 at I3;have hsz3:s3.heap.objs.size=s2.heap.objs.size+1:=by rw[<- hs3];exact dC ..
 have k3:∀ b o,s2.heap.get? b=some o->s3.heap.get? b=some o:=λb o e=>by rw[<- hs3];exact aj _ e
 have hlt:∀ b∈fp,b<s2.heap.objs.size:=λb hb=>let ⟨o,e,_⟩:=T.obj _ _ st2 b hb;ax e
 have f3:∀ b∈fp,Y3 X pins (upd H2 s2.heap.objs.size (.lst [])) b:=λb hb=>⟨by rw[A7 (aN (hlt b hb))];exact (f2 b hb).1,(f2 b hb).2⟩
 have st3:tn 0 s3.heap:=T.keep _ _ _ st2 λb _ o e=>k3 b o e
 refine dH ?_;have e3:({s2 with heap:=s2.heap.push {cls:=.type "list",dict:=none,data:=.seq ([]:List Value).toArray}}:Shared)=s3:=hs3;rw[e3];refine jj hc.noCell (by intro y hy;cases hy) (λh₁ hnsz hsbz=>?_) hc.kind;have k4:∀ b o,s3.heap.get? b=some o->h₁.get? b=some o:=λb o e=>hsbz.extBut b o (aN (ax e)) (aj _ e)
 have I4:=a2J (own:=own) I3 hc hcalm f3 (λb hb=>aS (hlt b hb) (by rw[hsz3];exact Nat.le_succ _)) hfr hnsz k4;obtain⟨bg,bt,be⟩:=B.run pins fp s3 (upd H2 s2.heap.objs.size (.lst []));generalize hX':cxC X scope (own++fr.map (·.1)) pins fp s3 (upd H2 s2.heap.objs.size (.lst []))=X' at I4 bg bt be;have eP:X'.prog=X.prog:=by rw[<- hX'];rfl
 have eW:X'.w=X.w:=by rw[<- hX'];rfl
 have eK:X'.K=X.K:=by rw[<- hX'];rfl
 have eA:X'.A=X.A:=by rw[<- hX'];rfl
 have eC:X'.calm=true:=by rw[<- hX'];rfl
 have eX:X'.xe=λ_ _=>False:=by rw[<- hX'];rfl
 have eE:X'.env=compEnvC scope (clo X.env scope.names []) s3.heap.objs.size X.env:=by rw[<- hX'];rfl
 have fC:∀ {H':Hp},(∀ b∈fp,H' b=none)->∀ b∈fp,Y3 X' [] H' b:=λhn b hb=>by
  have hb':=f3 b hb;refine⟨hn b hb,?_,?_,?_,?_,?_⟩
  ·exact (I4.ok.exf b (by rw[<- hX'];exact hb)).1
  ·exact I4.ok.exfs b (by rw[<- hX'];exact hb)
  ·left;rw[<- hX'];exact hb
  ·exact (I4.ok.exf b (by rw[<- hX'];exact hb)).2
  ·intro p hp;have hp:p∈X.pn++pins:=by
    rw[<- hX'] at hp;rcases aA.mp hp with q | q
    ·exact q
    ·cases q
   exact hb'.2.2.2.2.2 p hp
 obtain⟨W,⟨m0,w0⟩,turn⟩:=hw;have cenvE:({(newEnv scope s3.heap.objs.size X.env.globals (clo X.env scope.names []) X.env.qual none .none (some X.env) builtinsNs) with scope:=relabel scope X.env}:Env)=X'.env:=by rw[eE];rfl
 have loop:∀ s4:Shared,Inv X' [] (st0 own fr σ) (upd H2 s2.heap.objs.size (.lst [])) s4->tn 0 s4.heap ->
   codeAny (model X.prog X.w) X.A (.compLoop (.ListComp elt [⟨tg,iter,ifs,0⟩] scope pos) 0 (.ref it) (.ref s2.heap.objs.size) X'.env) (RR (.ref s2.heap.objs.size) s3.heap.objs.size) s4:=by
  intro s4 J4 t4;refine a3r (λn s'=>∃ i τ H',Inv X' [] τ H' s'/\tn i s'.heap/\(∀ b∈fp,H' b=none)/\W i n τ H') ?_ m0 ⟨0,_,_,J4,t4,λb hb=>(f3 b hb).1,w0⟩;rintro n s5 ⟨i,τ5,H5,I5,t5,fr5,w5⟩;rcases turn i n τ5 H5 w5 with ⟨stop,qn⟩ | ⟨go,N,hN,step⟩
  ·have hd:=T.done X' eP eW eK eC i [] s5 τ5 H5 (λ_ _=>False) I5 (fC fr5) t5 stop;rw[eA] at hd;refine thn hd λr s6 ⟨hr,I6⟩=>?_
   subst hr;have hbase:Un (frs X.stack) fp (upd H2 s2.heap.objs.size (.lst [])) H5 s3.heap s6.heap:=by have:=I6.base;rw[<- hX'] at this;exact this
   have hok6:HOk X.prog X.w H5 s6.heap:=by have:=I6.hok;rw[eP,eW] at this;exact this
   have os6:s6.os=s3.os:=by have:=I6.os;rw[<- hX'] at this;exact this
   obtain⟨m6,n6,_⟩:=I6.loc;have n6:s6.heap.Ns s3.heap.objs.size m6:=by rw[eE] at n6;exact n6
   have free6:H5 s3.heap.objs.size=none:=by have:=I6.free;rw[eE] at this;exact this
   refine hRR s3.heap.objs.size H5 s6 m6 qn n6 (I3.call' os6 hbase hok6 I6.bare λb hb=>⟨(f3 b hb).2.2.2.1,(f3 b hb).2.1,(f3 b hb).2.2.2.2.1,(f3 b hb).2.2.2.2.2⟩) ⟨free6,?_,I3.sz,?_,?_⟩
   ·exact (aN I3.lt).symm
   ·intro x c e z;obtain⟨v,hv⟩:=I3.cell x c e;have:=hv.lt;rw[z] at this;exact cu _ this
   ·intro p hp z;have:=ax (I3.pin p hp).1;rw[z] at this;exact cu _ this
  ·have hi:=T.item X' eP eW eK eC i [] s5 τ5 H5 (λ_ _=>False) I5 (fC fr5) t5 go;rw[eA] at hi;refine thn hi λr s6 ⟨u,hr,h6⟩=>?_
   subst hr;refine thn h6 λ_ s7 ⟨x,H7,I7,r7,y7,t7,fr7⟩=>?_
   have I7':=I7.pinned (fC fr7) (T.obj _ _ t7);have again:∀ {τ:St} {H':Hp} {s':Shared},Inv X' ([]++U3 fp s7.heap) τ H' s'->N τ H'->∃ m,m<n/\∃ i τ H',Inv X' [] τ H' s'/\tn i s'.heap/\(∀ b∈fp,H' b=none)/\W i m τ H':=λ{τ H' s'} I8 n8=>by
    obtain⟨m',hm,w8⟩:=hN τ H' n8;refine⟨m',hm,i+1,τ,H',I8.unpinned,T.keep _ _ _ t7 λb hb o e=>(I8.pin (b,o) (bo _ (bo _ (N4 hb e)))).1,λb hb=>?_,w8⟩;obtain⟨o,e,d⟩:=T.obj _ _ t7 b hb;exact (I8.pin (b,o) (bo _ (bo _ (N4 hb e)))).2.1
   have hg:=bg _ s7 τ5 H7 x u _ I7' r7 (step x H7 y7);rw[eP,eW,eA,eX] at hg;refine thn hg λ_ s8 ⟨τ8,H8,I8,q8⟩=>?_
   have ht:=bt _ s8 τ8 H8 _ I8 q8;rw[eP,eW,eA,eX] at ht;refine thn ht λok s9 ⟨H9,I9,q9⟩=>?_
   cases ok with
   | false=>exact again I9 q9
   | true =>
    rw[if_pos rfl] at q9 ⊢;have hv:=be _ s9 τ8 H9 _ I9 q9;rw[eP,eW,eA,eX] at hv;refine thn hv λy s10 ⟨v,H10,I10,r10,ys,hl,hlen,n10⟩=>?_
    have ha:=a0X (X:=X') _ s10 τ8 H10 (.ref s2.heap.objs.size) [v] (.ref s2.heap.objs.size) [y] (λ_ H'=>N τ8 H') I10 rfl (.cons r10 .nil) ⟨_,_,_,rfl,rfl,hl,hlen,n10⟩;rw[eP,eW,eA,eX] at ha;exact thn ha λ_ s11 ⟨_,H11,I11,_,n11⟩=>again I11 n11
 have st4:tn 0 h₁:=T.keep _ _ _ st3 λb _ o e=>k4 b o e
 show codeAny (model X.prog X.w) X.A (.compStart (.ListComp elt [⟨tg,iter,ifs,0⟩] scope pos) 0 (.ref it) (.ref s2.heap.objs.size) ({(newEnv scope s3.heap.objs.size X.env.globals (clo X.env scope.names []) X.env.qual none .none (some X.env) builtinsNs) with scope:=relabel scope X.env}:Env)) (RR (.ref s2.heap.objs.size) s3.heap.objs.size) _;rw[cenvE];exact codeAny_compStart_list (loop _ I4 st4) (T.self X.A 0 _ _ _ st4 (loop _ I4 st4))
theorem a3D {pins:List (Addr×Obj)}{σ:St}{H:Hp}{s:Shared}(I:Inv X pins σ H s)(hc:a0G scope X.env.scope):closureFor scope X.env=pure (clo X.env scope.names []) :=
 a2P λy hy e=>I.ok.has y.1 (hc.free y hy e)
theorem Q6 (hcalm:X.calm=true)(hc:a0D scope X.env.scope=true)(hfr:a1H X scope fr)(hi:PI X tg iter wi)(B:Blk X scope (own++fr.map (·.1)) tg ifs elt g tc te)
  (hs:∀ x,foldedSetIterable iter X.env x=pure x:=by intro _;rfl):PE X (.ListComp elt [⟨tg,iter,ifs,0⟩] scope pos) (tLC own fr wi g tc te):=by
 intro pins s σ H Q I h;have hc:=Y1 hc;rw[eval_ListComp];refine fw (use:=none) rfl hs (a3D I hc) hc.kind hc.loc (thn (hi pins s σ H _ I h) λv s1 h1=>thn h1 λitv s2 h2=>?_);obtain⟨it,fp,tn,J,H2,e,I2,T,st2,f2,hw⟩:=h2;subst e;refine a0Y (RR:=λacc C=>compPost (model X.prog X.w) X.A X.xe none (EP X pins σ Q) acc C) hcalm hc hfr B I2 T st2 f2 (hw _ I2.fresh) ?_;intro C H' s' m q n I' f;exact⟨m,n,λh' hs'=>⟨.ref s2.heap.objs.size,H',f.inv I' hs',rfl,q⟩⟩
theorem S4 {i:Nat}{x:Str}{px spos:Pos}(hcalm:X.calm=true)(hN:X.N.Nodup)(hx:X.N[i]?=some x)(hl:X.env.scope.names.lookup x=some .local)(hsw:swapsWith (.ListComp elt [⟨tg,iter,ifs,0⟩] scope pos) (some (.Name x px)) spos.line X.env=pure true)
  (hc:a0D scope X.env.scope=true) (hfr:a1H X scope fr) (hi:PI X tg iter wi) (B:Blk X scope (own++fr.map (·.1)) tg ifs elt g tc te)
  (hs:∀ x,foldedSetIterable iter X.env x=pure x:=by intro _;rfl):PS X (.Assign [.Name x px] (.ListComp elt [⟨tg,iter,ifs,0⟩] scope pos) spos) (a4v (tLC own fr wi g tc te) (L6 i)):=by
 intro pins s σ H D I h;have hc:=Y1 hc;rw[exec_Assign_Name_used _ _ _ _ hsw];refine af (fI (af ?_));show wpAny _ X.A (do let _ <- comprehension (.ListComp elt [⟨tg,iter,ifs,0⟩] scope pos) scope X.env _ (newList []) false (eval iter X.env) (some (assign (.Name x px) X.env))) _ _ s
 refine af (bO (fw (use:=some (assign (.Name x px) X.env)) (Q:=λ_ s'=>SP X pins D .next s') rfl hs (a3D I hc) hc.kind hc.loc
  (thn (hi pins s σ H _ I h) λv s1 h1=>thn h1 λitv s2 h2=>?_)) (λ_ s' hq=>ap (ap hq)) λ_ _ e=>e)
 obtain⟨it,fp,tn,J,H2,e,I2,T,st2,f2,hw⟩:=h2;subst e;refine a0Y (RR:=λacc C=>compPost (model X.prog X.w) X.A X.xe (some (assign (.Name x px) X.env)) (λ_ s'=>SP X pins D .next s') acc C) hcalm hc hfr B I2 T st2 f2 (hw _ I2.fresh) ?_;intro C H' s' m q n I' f;show wpAny _ X.A (assign (.Name x px) X.env (.ref s2.heap.objs.size)) _ _ _;refine js (a0S I' hN hx (.inl hl) (v:=.ref s2.heap.objs.size) rfl (λs'' I'' hch=>?_) (.inr hl));obtain⟨a,sb,ha⟩:=hch;have hCa:C≠a:=by
  rcases ha with ha | ha
  ·rw[ha];exact f.loc
  ·exact λz=>f.cel x a ha z.symm
 exact⟨m,n.sameBut sb hCa,λh' hs'=>⟨_,H',f.inv I'' hs',q⟩⟩
end
end L2
namespace L2
open PySem PySem.Spec PyProof.Rows
theorem a3B {prog:Program}{w:World}{A:Around}{R:Result->Shared->Prop}{s:Shared}{kx vx target iter:Expr}{ifs:List Expr}{scope:Scope}{pos:Pos}{it:Value}{D:Addr}{env:Env}(I:Nat->Shared->Prop)
  (turn:∀ n s,I n s->wpAny (model prog w) A (pyNext it) (λr sj=>match r with
   | none=>R (.ok .next) sj
   | some v=>wpAny (model prog w) A (letOwnedTupleGo target it v) (λ_ sj=>wpAny (model prog w) A (assign target env v) (λ_ sk =>
     wpAny (model prog w) A (forIn ifs true λc r=>if r=true then do let ok <- isTrue c env (eval c env);pure (bJ ok) else pure (bJ r)) (λok sx =>
      if ok=true then wpAny (model prog w) A (eval kx env) (λkv sv=>wpAny (model prog w) A (eval vx env) (λvv sv =>
       wpAny (model prog w) A (dictSet D kv vv) (λ_ sy=>∃ m,m<n/\I m sy) (λ_ _=>False) sv) (λ_ _=>False) sv) (λ_ _=>False) sx
      else ∃ m,m<n/\I m sx) (λ_ _=>False) sk) (λ_ _=>False) sj) (λ_ _=>False) sj) (λ_ _=>False) s)
  (n:Nat) (h:I n s):codeAny (model prog w) A (.compLoop (.DictComp kx vx [⟨target,iter,ifs,0⟩] scope pos) 0 it (.ref D) env) R s:=by
 refine codeAny_loop rfl I (λn s hI=>?_) n h;show wpAny _ A ((compTurn (.DictComp kx vx [⟨target,iter,ifs,0⟩] scope pos) 0 it (.ref D) env).onRaise (λx=>do noteFrame x env;theTreesLotGoes x)) _ _ s;refine wpAny_noted ?_;rw[compTurn_dict];refine af (fI (af (bO (turn n s hI) (λr sj h₁=>?_) λ_ _ h'=>h'.elim)));cases r with
 | none=>exact ap h₁
 | some v =>
  refine af (bO h₁ (λ_ sj h₁=>?_) λ_ _ h'=>h'.elim);refine af (bO h₁ (λ_ sk h₂=>af (bO h₂ (λok sx h₃=>?_) λ_ _ h'=>h'.elim)) λ_ _ h'=>h'.elim);cases ok with
  | false=>exact ap ⟨rfl,h₃⟩
  | true =>
   exact af (af (bO h₃ (λkv sv h₄=>af (bQ (bO h₄ (λvv sy h₅=>af (fI (bQ (bO h₅ (λ_ sq h₆=>ap ⟨rfl,h₆⟩) λ_ _ h'=>h'.elim)))) λ_ _ h'=>h'.elim))) λ_ _ h'=>h'.elim))
theorem a4S {X:Cx}{pins:List (Addr×Obj)}{σ:St}{H:Hp}{s:Shared}{a:Addr}{y v:V}{u r:Value}{A:Around}{E:Value->Shared->Prop}{H':Hp}{Q:Unit->Shared->Prop}(hu:A.units+1<cLine)(I:Inv X pins σ H s)(g:a3J H a y v H')(ry:B6 y u)(rv:B6 v r)(h:∀ s',Inv X pins σ H' s'->Q () s') :
  wpAny (model X.prog X.w) A (dictSet a u r) Q E s:=by
 rcases g with ⟨kvs,k,e,ey,l,eH⟩ | ⟨kvs,k,b,e,ey,eb,l,eH⟩
 ·subst ey eH;obtain⟨z,hd,vs,rel,dd⟩:=a6J I.hok e;have hz:vs.length<=sizeLine:=by rw[<- rel.length];exact z
  have hl:(R9 kvs k v).length<=sizeLine:=by have:=S5 kvs k v;omega
  refine wpAny_dictSet_pairs (hsz:=hz) (a6o ry) dd λh' dd' hs=>h _ ?_
  have he:∃ q,h'.get? a=some q:=let ⟨q,_,_,hq,_⟩:=dd';⟨q,hq⟩;exact a4q I (by rw[e];exact di) hs he (a9M hl hd (rel.put k rv) dd')
 ·subst ey eH;cases (show u=bp b from ry);obtain⟨z,hd,xs,rel,dd⟩:=b0S I.hok e;have hz:xs.length<=sizeLine:=by rw[<- fQ rel];exact z
  have hl:(R9 kvs k v).length<=sizeLine:=by have:=S5 kvs k v;omega
  refine wpAny_dictSet_heap (hsz:=hz) (show (tupleKind (I0 X.prog X.w)).room A from Nat.lt_of_succ_lt hu) (a3s I.hok eb) dd λh' dd' hs=>h _ ?_
  obtain⟨q,es,ep,hq,h2,h3,h4,_,h5⟩:=dd';refine a4q I (by rw[e];exact di) hs ⟨q,hq⟩ ⟨hl,hd,_,(rel.put k eb rv).keeps λc ys ec=>?_,q,es,ep,hq,h2,h3,h4,h5⟩;rw[A7 (b0G ec e (λz=>nomatch z))];exact ec
def a0K:Bool->HO
 | true=>.dT []
 | false=>.dK []
theorem a7P {P:Program}{w:World}{H:Hp}(h:Heap)(hb:sysModules<h.objs.size):∀ t,J0 P w H (h.push {cls:=.type "dict",data:=.dict #[]}) h.objs.size (a0K t)
 | true=>a6H h hb
 | false=>a2L h hb
def dcW (g:TG)(tc:TT)(te tv:TE)(p:Addr)(J:It)(τ0:St)(H0:Hp)(E:Hp->Prop):Prop :=
 ∃ W:Nat->Nat->St->Hp->Prop,(∃ m,W 0 m τ0 H0)/\∀ i m τ H,W i m τ H ->
  (J.stop i H/\E H)\/(J.go i H/\∃ N:St->Hp->Prop,(∀ τ' H',N τ' H'->∃ m',m'<m/\W (i+1) m' τ' H') /\
   ∀ x H',J.yld i H x H'->g x τ H' fun τ2 H2=>tc τ2 H2 λb H3=>if b=true then te τ2 H3 λk H4=>tv τ2 H4 λv H5=>∃ H6,a3J H5 p k v H6/\N τ2 H6 else N τ2 H3)
def tDC (t:Bool)(own:List Str)(fr:List (Str×Nat))(wi:TI)(g:TG)(tc:TT)(te tv:TE):TE:=fun σ H Q =>
 wi σ H λJ H1=>∀ p,H1 p=none->dcW g tc te tv p J (st0 own fr σ) (upd H1 p (a0K t)) λH2=>Q (.ref p) H2
section
variable {X:Cx}{kx vx tg iter:Expr}{ifs:List Expr}{scope:Scope}{pos:Pos}{own:List Str}{fr:List (Str×Nat)}{wi:TI}{g:TG}{tc:TT}{te tv:TE}
structure b1d (X:Cx)(scope:Scope)(N':List Str)(tg:Expr)(ifs:List Expr)(kx vx:Expr)(g:TG)(tc:TT)(te tv:TE):Prop where
 run:∀ pins fp s H,PG (cxC X scope N' pins fp s H) tg g/\PTs (cxC X scope N' pins fp s H) ifs tc/\PE (cxC X scope N' pins fp s H) kx te/\PE (cxC X scope N' pins fp s H) vx tv
theorem a4R {pins:List (Addr×Obj)}{σ:St}{H2:Hp}{s2:Shared}{it:Addr}{fp:List Addr}{tn:Nat->Heap->Prop}{J:It}{EE:Hp->Prop}{RR:Value->Addr->Result->Shared->Prop}{E:Value->Shared->Prop}
  (t:Bool) (hu:X.A.units+1<cLine) (hcalm:X.calm=true) (hc:a0G scope X.env.scope) (hfr:a1H X scope fr) (B:b1d X scope (own++fr.map (·.1)) tg ifs kx vx g tc te tv)
  (I2:Inv X pins σ H2 s2) (T:a4Z X.prog X.w X.K tg J fp it tn) (st2:tn 0 s2.heap) (f2:∀ b∈fp,Y3 X pins H2 b)
  (hw:dcW g tc te tv s2.heap.objs.size J (st0 own fr σ) (upd H2 s2.heap.objs.size (a0K t)) EE)
  (hRR:∀ C H' s' m,EE H'->s'.heap.Ns C m->Inv X pins σ H' s'->a4t X pins H' C->RR (.ref s2.heap.objs.size) C (.ok .next) s') :
  wpAny (model X.prog X.w) X.A newDict (λacc sx=>wpAny (model X.prog X.w) X.A (newFunctionEnv scope X.env.globals (clo X.env scope.names []) [] X.env.qual none .none (some X.env)) (λcenv sv =>
   codeAny (model X.prog X.w) X.A (.compStart (.DictComp kx vx [⟨tg,iter,ifs,0⟩] scope pos) 0 (.ref it) acc {cenv with scope:=relabel scope X.env}) (RR acc cenv.locals) sv) E sx) E s2:=by
 have I3:Inv X pins σ (upd H2 s2.heap.objs.size (a0K t)) {s2 with heap:=s2.heap.push {cls:=.type "dict",data:=.dict #[]},toks:=s2.toks}:=I2.laid (t':=s2.toks) (λ_ _ q=>aj _ q) (ao _) (a7P s2.heap I2.big t);generalize hs3:({s2 with heap:=s2.heap.push {cls:=.type "dict",data:=.dict #[]},toks:=s2.toks}:Shared)=s3 at I3;have hsz3:s3.heap.objs.size=s2.heap.objs.size+1:=by rw[<- hs3];exact dC ..
 have k3:∀ b o,s2.heap.get? b=some o->s3.heap.get? b=some o:=λb o e=>by rw[<- hs3];exact aj _ e
 have hlt:∀ b∈fp,b<s2.heap.objs.size:=λb hb=>let ⟨o,e,_⟩:=T.obj _ _ st2 b hb;ax e
 have f3:∀ b∈fp,Y3 X pins (upd H2 s2.heap.objs.size (a0K t)) b:=λb hb=>⟨by rw[A7 (aN (hlt b hb))];exact (f2 b hb).1,(f2 b hb).2⟩
 have st3:tn 0 s3.heap:=T.keep _ _ _ st2 λb _ o e=>k3 b o e
 refine dH ?_;have e3:({s2 with heap:=s2.heap.push {cls:=.type "dict",dict:=none,data:=.dict #[]}}:Shared)=s3:=hs3;rw[e3];refine jj hc.noCell (by intro y hy;cases hy) (λh₁ hnsz hsbz=>?_) hc.kind;have k4:∀ b o,s3.heap.get? b=some o->h₁.get? b=some o:=λb o e=>hsbz.extBut b o (aN (ax e)) (aj _ e)
 have I4:=a2J (own:=own) I3 hc hcalm f3 (λb hb=>aS (hlt b hb) (by rw[hsz3];exact Nat.le_succ _)) hfr hnsz k4;obtain⟨bg,bt,be,bv⟩:=B.run pins fp s3 (upd H2 s2.heap.objs.size (a0K t));generalize hX':cxC X scope (own++fr.map (·.1)) pins fp s3 (upd H2 s2.heap.objs.size (a0K t))=X' at I4 bg bt be bv;have eP:X'.prog=X.prog:=by rw[<- hX'];rfl
 have eW:X'.w=X.w:=by rw[<- hX'];rfl
 have eK:X'.K=X.K:=by rw[<- hX'];rfl
 have eA:X'.A=X.A:=by rw[<- hX'];rfl
 have eC:X'.calm=true:=by rw[<- hX'];rfl
 have eX:X'.xe=λ_ _=>False:=by rw[<- hX'];rfl
 have eE:X'.env=compEnvC scope (clo X.env scope.names []) s3.heap.objs.size X.env:=by rw[<- hX'];rfl
 have fC:∀ {H':Hp},(∀ b∈fp,H' b=none)->∀ b∈fp,Y3 X' [] H' b:=λhn b hb=>by
  have hb':=f3 b hb;refine⟨hn b hb,?_,?_,?_,?_,?_⟩
  ·exact (I4.ok.exf b (by rw[<- hX'];exact hb)).1
  ·exact I4.ok.exfs b (by rw[<- hX'];exact hb)
  ·left;rw[<- hX'];exact hb
  ·exact (I4.ok.exf b (by rw[<- hX'];exact hb)).2
  ·intro p hp;have hp:p∈X.pn++pins:=by
    rw[<- hX'] at hp;rcases aA.mp hp with q | q
    ·exact q
    ·cases q
   exact hb'.2.2.2.2.2 p hp
 obtain⟨W,⟨m0,w0⟩,turn⟩:=hw;have cenvE:({(newEnv scope s3.heap.objs.size X.env.globals (clo X.env scope.names []) X.env.qual none .none (some X.env) builtinsNs) with scope:=relabel scope X.env}:Env)=X'.env:=by rw[eE];rfl
 have loop:∀ s4:Shared,Inv X' [] (st0 own fr σ) (upd H2 s2.heap.objs.size (a0K t)) s4->tn 0 s4.heap ->
   codeAny (model X.prog X.w) X.A (.compLoop (.DictComp kx vx [⟨tg,iter,ifs,0⟩] scope pos) 0 (.ref it) (.ref s2.heap.objs.size) X'.env) (RR (.ref s2.heap.objs.size) s3.heap.objs.size) s4:=by
  intro s4 J4 t4;refine a3B (λn s'=>∃ i τ H',Inv X' [] τ H' s'/\tn i s'.heap/\(∀ b∈fp,H' b=none)/\W i n τ H') ?_ m0 ⟨0,_,_,J4,t4,λb hb=>(f3 b hb).1,w0⟩;rintro n s5 ⟨i,τ5,H5,I5,t5,fr5,w5⟩;rcases turn i n τ5 H5 w5 with ⟨stop,qn⟩ | ⟨go,N,hN,step⟩
  ·have hd:=T.done X' eP eW eK eC i [] s5 τ5 H5 (λ_ _=>False) I5 (fC fr5) t5 stop;rw[eA] at hd;refine thn hd λr s6 ⟨hr,I6⟩=>?_
   subst hr;have hbase:Un (frs X.stack) fp (upd H2 s2.heap.objs.size (a0K t)) H5 s3.heap s6.heap:=by have:=I6.base;rw[<- hX'] at this;exact this
   have hok6:HOk X.prog X.w H5 s6.heap:=by have:=I6.hok;rw[eP,eW] at this;exact this
   have os6:s6.os=s3.os:=by have:=I6.os;rw[<- hX'] at this;exact this
   obtain⟨m6,n6,_⟩:=I6.loc;have n6:s6.heap.Ns s3.heap.objs.size m6:=by rw[eE] at n6;exact n6
   have free6:H5 s3.heap.objs.size=none:=by have:=I6.free;rw[eE] at this;exact this
   refine hRR s3.heap.objs.size H5 s6 m6 qn n6 (I3.call' os6 hbase hok6 I6.bare λb hb=>⟨(f3 b hb).2.2.2.1,(f3 b hb).2.1,(f3 b hb).2.2.2.2.1,(f3 b hb).2.2.2.2.2⟩) ⟨free6,?_,I3.sz,?_,?_⟩
   ·exact (aN I3.lt).symm
   ·intro x c e z;obtain⟨v,hv⟩:=I3.cell x c e;have:=hv.lt;rw[z] at this;exact cu _ this
   ·intro p hp z;have:=ax (I3.pin p hp).1;rw[z] at this;exact cu _ this
  ·have hi:=T.item X' eP eW eK eC i [] s5 τ5 H5 (λ_ _=>False) I5 (fC fr5) t5 go;rw[eA] at hi;refine thn hi λr s6 ⟨u,hr,h6⟩=>?_
   subst hr;refine thn h6 λ_ s7 ⟨x,H7,I7,r7,y7,t7,fr7⟩=>?_
   have I7':=I7.pinned (fC fr7) (T.obj _ _ t7);have again:∀ {τ:St} {H':Hp} {s':Shared},Inv X' ([]++U3 fp s7.heap) τ H' s'->N τ H'->∃ m,m<n/\∃ i τ H',Inv X' [] τ H' s'/\tn i s'.heap/\(∀ b∈fp,H' b=none)/\W i m τ H':=λ{τ H' s'} I8 n8=>by
    obtain⟨m',hm,w8⟩:=hN τ H' n8;refine⟨m',hm,i+1,τ,H',I8.unpinned,T.keep _ _ _ t7 λb hb o e=>(I8.pin (b,o) (bo _ (bo _ (N4 hb e)))).1,λb hb=>?_,w8⟩;obtain⟨o,e,d⟩:=T.obj _ _ t7 b hb;exact (I8.pin (b,o) (bo _ (bo _ (N4 hb e)))).2.1
   have hg:=bg _ s7 τ5 H7 x u _ I7' r7 (step x H7 y7);rw[eP,eW,eA,eX] at hg;refine thn hg λ_ s8 ⟨τ8,H8,I8,q8⟩=>?_
   have ht:=bt _ s8 τ8 H8 _ I8 q8;rw[eP,eW,eA,eX] at ht;refine thn ht λok s9 ⟨H9,I9,q9⟩=>?_
   cases ok with
   | false=>exact again I9 q9
   | true =>
    rw[if_pos rfl] at q9 ⊢;have hv:=be _ s9 τ8 H9 _ I9 q9;rw[eP,eW,eA,eX] at hv;refine thn hv λky s10 ⟨kk,H10,I10,r10,q10⟩=>?_
    have hv:=bv _ s10 τ8 H10 _ I10 q10;rw[eP,eW,eA,eX] at hv;refine thn hv λy s11 ⟨v,H11,I11,r11,H12,dp,n12⟩=>?_
    have ha:=a4S (A:=X.A) (E:=λ_ _=>False) (Q:=λ_ s12=>Inv X' ([]++U3 fp s7.heap) τ8 H12 s12) hu I11 dp r10 r11 λs12 I12=>I12
    rw[eP,eW] at ha;exact thn ha λ_ s12 I12=>again I12 n12
 have st4:tn 0 h₁:=T.keep _ _ _ st3 λb _ o e=>k4 b o e
 show codeAny (model X.prog X.w) X.A (.compStart (.DictComp kx vx [⟨tg,iter,ifs,0⟩] scope pos) 0 (.ref it) (.ref s2.heap.objs.size) ({(newEnv scope s3.heap.objs.size X.env.globals (clo X.env scope.names []) X.env.qual none .none (some X.env) builtinsNs) with scope:=relabel scope X.env}:Env)) (RR (.ref s2.heap.objs.size) s3.heap.objs.size) _;rw[cenvE];exact codeAny_compStart_dict (loop _ I4 st4) (T.self X.A 0 _ _ _ st4 (loop _ I4 st4))
theorem a5P (t:Bool)(hu:X.A.units+1<cLine)(hcalm:X.calm=true)(hc:a0D scope X.env.scope=true)(hfr:a1H X scope fr)(hi:PI X tg iter wi)(B:b1d X scope (own++fr.map (·.1)) tg ifs kx vx g tc te tv)
  (hs:∀ x,foldedSetIterable iter X.env x=pure x:=by intro _;rfl):PE X (.DictComp kx vx [⟨tg,iter,ifs,0⟩] scope pos) (tDC t own fr wi g tc te tv):=by
 intro pins s σ H Q I h;have hc:=Y1 hc;rw[arm_eval_DictComp];refine fw (use:=none) rfl hs (a3D I hc) hc.kind hc.loc (thn (hi pins s σ H _ I h) λv s1 h1=>thn h1 λitv s2 h2=>?_);obtain⟨it,fp,tn,J,H2,e,I2,T,st2,f2,hw⟩:=h2;subst e;refine a4R (RR:=λacc C=>compPost (model X.prog X.w) X.A X.xe none (EP X pins σ Q) acc C) t hu hcalm hc hfr B I2 T st2 f2 (hw _ I2.fresh) ?_;intro C H' s' m q n I' f;exact⟨m,n,λh' hs'=>⟨.ref s2.heap.objs.size,H',f.inv I' hs',rfl,q⟩⟩
end
end L2
end
section
namespace Srt
open PySem PyProof.Rows
section
variable {prog:Program}{w:World}{A:Around}{E:Value->Shared->Prop}{s:Shared}{O:KeyOrd}{key:Value->O.α}{knd:SortKind}
def Asks (prog:Program)(w:World)(A:Around)(O:KeyOrd)(key:Value->O.α)(knd:SortKind)(vs:List Value)(s:Shared):Prop :=
 (2<=vs.length->∀(E:Value->Shared->Prop) (Q:SortKind->Shared->Prop),Q knd s->wpAny (model prog w) A (keyKind' vs.toArray) Q E s) /\
 ∀ x∈vs,∀ y∈vs,∀(E:Value->Shared->Prop) (Q:Bool->Shared->Prop),Q (O.blt (key x) (key y)) s->wpAny (model prog w) A (keyLt' knd x y) Q E s
theorem mem_pairs {vs:List Value}{p:Keyed}(h:p∈(pairsOf vs).toList):p.1∈vs/\p.1=p.2:=by
 rw[pairsOf_toList] at h;obtain⟨i,hi⟩:=bN.mp h;rw[df] at hi;refine⟨bN.mpr ⟨i,hi.1⟩,?_⟩;have:=hi.1.symm.trans hi.2;exact aG this
theorem cmp_of {vs:List Value}(h:Asks prog w A O key knd vs s):Ts.Cmp (model prog w) A E s knd O (λp=>key p.1) (pairsOf vs):=by
 intro p hp q hq st Q hk hQ;rw[lt'_eq];refine ai (ff ?_);rw[hk];refine ai (wpS_lift (iV (h.2 p.1 (mem_pairs hp).1 q.1 (mem_pairs hq).1 _ _ ⟨rfl,?_⟩)));exact ag hQ
theorem out_of {vs:List Value}{xs:Array Keyed}(hp:xs.Perm (pairsOf vs))(hs:Ts.Seg (O:=O) (λp=>key p.1) xs 0 (pairsOf vs).size) :
  (xs.map (·.2)).toList.Perm vs/\(xs.map (·.2)).toList.Pairwise λx y=>O.kle (key x) (key y):=by
 have hp':=gP.mp hp;have hsz:xs.size=(pairsOf vs).size:=hp.size_eq;rw[Array.toList_map];refine⟨?_,?_⟩
 ·refine (hp'.map _).trans ?_;rw[pairsOf_toList,show (vs.zip vs).map (·.2)=vs from List.map_snd_zip (ao _)]
 ·rw[gk];rw[<- hsz] at hs;refine (Ts.pw_of_seg hs).imp_of_mem λ{a b} ha hb hab=>?_
  have e1:=(mem_pairs (hp'.mem_iff.mp ha)).2;have e2:=(mem_pairs (hp'.mem_iff.mp hb)).2;rw[<- e1,<- e2];exact hab
theorem list_sort_any {a:Addr}{vs:List Value}{n:Nat}{P:Fin->Shared->Prop}(ho:s.heap.get? a=some (seqObj "list" vs.toArray n))(hz:vs.length<=sizeLine)
  (hA:∀ s':Shared,(∀ b o,b≠a->s.heap.get? b=some o->s'.heap.get? b=some o)->Asks prog w A O key knd vs s')
  (h:∀ out:Array Value,out.toList.Perm vs->(out.toList.Pairwise λx y=>O.kle (key x) (key y))->P (.done (.ret .none)) {s with heap:=sortedHeap s.heap a vs out}) :
  wpAny (model prog w) A (Builtin.«list.sort» ⟨[.ref a],[]⟩) P E s:=by
 rw[list_sort_plain];have ha:a<s.heap.objs.size:=ax ho;have hsz:vs.toArray.size=vs.length:=by simp
 refine af (listItems_at ho rfl ?_);refine af (listUpdate_at ho rfl ?_ (hsz:=by rw[hsz];exact hz));obtain⟨e1,ho1⟩:∃ e1,(s.heap.update a (Obj.mapSeq λ_=>#[])).get? a=some (seqObj "list" #[] e1):=⟨_,get?_update_seq ho (λ_=>#[])⟩
 refine af (seqEpoch_at ho1 rfl ?_);refine af (wpAny_newTuple ?_ (~~~hz));refine af (wpAny_newList ?_);refine bQ ?_;have ho6:(((s.heap.update a (Obj.mapSeq λ_=>#[])).push (seqObj "tuple" vs.toArray 0)).push (seqObj "list" #[] 0)).get? a=some (seqObj "list" #[] e1):=by
  rw[i8 _ _ _ (by rw[size_push',Heap.size_update];exact aN (gz ha)),i8 _ _ _ (by rw[Heap.size_update];exact aN ha)];exact ho1
 have keep:∀ b o,b≠a->s.heap.get? b=some o->(((s.heap.update a (Obj.mapSeq λ_=>#[])).push (seqObj "tuple" vs.toArray 0)).push (seqObj "list" #[] 0)).get? b=some o:=λb o hb e =>
  aj _ (aj _ ((b6 ..).extBut b o hb e))
 show wpAny (model prog w) A _ P E {s with heap:=((s.heap.update a (Obj.mapSeq λ_=>#[])).push (seqObj "tuple" vs.toArray 0)).push (seqObj "list" #[] 0)};dsimp only;have hA':=hA {s with heap:=((s.heap.update a (Obj.mapSeq λ_=>#[])).push (seqObj "tuple" vs.toArray 0)).push (seqObj "list" #[] 0)} keep;by_cases h2:vs.toArray.size<2
 ·rw[if_pos h2,if_pos h2];refine af (ap ?_);rw[StateT.run_pure];refine af (ap ?_);dsimp only;refine af (seqEpoch_at ho6 rfl ?_);refine af (listUpdate_at ho6 rfl ?_ (hsz2:=by rw[dz];show (pairsOf vs).size<=_;rw[pairsOf_size];omega));simp only[bne_self_eq_false,aC,if_false]
  have o:=out_of (O:=O) (key:=key) (vs:=vs) (Array.Perm.refl _) (λi j h0 hij hj=>by
   rw[pairsOf_size] at hj;have:i=j:=∅
   subst this;exact bZ _)
  exact ap (h _ o.1 o.2)
 ·rw[if_neg h2,if_neg h2];refine af (hA'.1 ∅ _ _ ?_)
  refine af (bO (Ts.wpS_sR (O:=O) (key:=λp=>key p.1) (a₀:=pairsOf vs) (knd:=knd) (st:=dL knd (vs.toArray.zip vs.toArray) #[] 7 none)
   (Q:=λ_ st'=>(arrOf st').Perm (pairsOf vs)/\failedOf st'=none/\Ts.Seg (O:=O) (λp=>key p.1) (arrOf st') 0 (pairsOf vs).size)
   (cmp_of hA') ⟨Array.Perm.refl _,rfl,rfl⟩ rfl (by rw[pairsOf_size];omega) λst' hB hS=>⟨hB.perm,hB.failed,hS⟩) ?_ λ_ _ e=>e)
  rintro⟨⟨⟩,st'⟩ s' ⟨rfl,hp,hf,hs⟩;dsimp only;refine af (seqEpoch_at ho6 rfl ?_);refine af (listUpdate_at ho6 rfl ?_ (hsz2:=by refine aH (fJ ((dz ..).trans (hp.size_eq.trans (pairsOf_size _)))) ?_;omega));rw[hf];simp only[bne_self_eq_false,aC,if_false];have o:=out_of hp hs;exact ap (h _ o.1 o.2)
def Coll (prog:Program)(w:World)(A:Around)(r:Addr)(s:Shared)(C:List Value->Prop):Prop :=
 ∀(E:Value->Shared->Prop) (R:List Value->Shared->Prop),(∀(h':Heap) (tk:Nat) (vs:List Value),(∀ b o,s.heap.get? b=some o->h'.get? b=some o)->C vs->R vs {s with heap:=h',toks:=tk})->wpAny (model prog w) A (collect (.ref r)) R E s
theorem sorted_any {r:Addr}{C:List Value->Prop}{Q:Value->Shared->Prop}(hc:Coll prog w A.in1 r s C)(hz:∀ vs,C vs->vs.length<=sizeLine)
  (hA:∀(vs:List Value) (s':Shared),C vs->(∀ b o,s.heap.get? b=some o->s'.heap.get? b=some o)->Asks prog w A.in1.in1 O key knd vs s')
  (h:∀(vs out:List Value) (h1 h':Heap) (tk n:Nat),C vs->out.Perm vs->(out.Pairwise λx y=>O.kle (key x) (key y))->(∀ b o,s.heap.get? b=some o->h1.get? b=some o)->(∀ b o,h1.get? b=some o->h'.get? b=some o) ->
   h'.get? h1.objs.size=some (seqObj "list" out.toArray n)->Q (.ref h1.objs.size) {s with heap:=h',toks:=tk}):wpAny (model prog w) A (call (.builtin "sorted") [.ref r]) Q E s:=by
 refine Calls.call_function_entry kind_sorted plain_sorted entry_sorted (args_sorted1 _) ?_;unfold Builtin.«sorted»;refine af (m:=checkCount "sorted" 1 1 _) (ap ?_);refine af (hc _ _ λh1 tk vs hk hC=>?_);refine af (wpAny_newList ?_ (by simpa using hz vs hC));have hoL:(h1.push (seqObj "list" vs.toArray 0)).get? h1.objs.size=some (seqObj "list" vs.toArray 0):=aX _ rfl;refine af (bQ (dS slot_list_sort ⟨_,hoL,rfl⟩ entry_list_sort (list_sort_any (O:=O) (key:=key) (knd:=knd) hoL (hz vs hC) (λs' hs'=>hA vs s' hC λb o e=>?_) λout hp hs=>⟨_,rfl,?_⟩) (args_list_sort _)))
 ·exact hs' b o (aN (ax (hk b o e))) (aj _ (hk b o e))
 ·refine ap ⟨_,rfl,?_⟩;obtain⟨n',hn'⟩:∃ n',(sortedHeap (h1.push (seqObj "list" vs.toArray 0)) h1.objs.size vs out).get? h1.objs.size=some (seqObj "list" out n'):=by
   first | exact sortedHeap_at hoL | exact⟨_,sortedHeap_at hoL⟩
  refine h vs out.toList h1 _ tk n' hC hp hs hk (λb o e=>?_) ?_
  ·have hb:b≠h1.objs.size:=aN (ax e);have hlt:b<(h1.push (seqObj "list" vs.toArray 0)).objs.size:=by rw[size_push'];exact gz (ax e)
   rw[sortedHeap_old hb hlt];exact aj _ e
  ·rw[iA];exact hn'
def intOrd:KeyOrd where
 α:=Int
 blt:=λa b=>decide (a<b)
 irrefl:=λa=>by simp
 trans:=λa b c h1 h2=>by simp at *;omega
 negTrans:=λa b c h=>by simp at *;omega
 total:=λa b h1 h2=>by simp at *;omega
def intKey:Value->Int
 | .int i _=>i
 | _=>0
theorem lex_irrefl:∀ a:List Int,HT.lexLt a a=false
 | []=>rfl
 | x::r=>by rw[HT.lexLt_cons,if_pos rfl];exact lex_irrefl r
theorem lex_trans:∀ a b c:List Int,HT.lexLt a b=true->HT.lexLt b c=true->HT.lexLt a c=true
 | [],[],_,h,_=>by cases h
 | [],_::_,[],_,h=>by cases h
 | [],_::_,_::_,_,_=>rfl
 | _::_,[],_,h,_=>by cases h
 | _::_,_::_,[],_,h=>by cases h
 | x::a,y::b,z::c,h1,h2=>by
  rw[HT.lexLt_cons] at h1 h2 ⊢;by_cases e1:x=y
  ·rw[if_pos e1] at h1;subst e1;by_cases e2:x=z
   ·rw[if_pos e2] at h2 ⊢;exact lex_trans a b c h1 h2
   ·rw[if_neg e2] at h2 ⊢;exact h2
  ·rw[if_neg e1] at h1;by_cases e2:y=z
   ·rw[if_pos e2] at h2;subst e2;rw[if_neg e1];exact h1
   ·rw[if_neg e2] at h2;simp at h1 h2;rw[if_neg ∅];simp;omega
theorem lex_total:∀ a b:List Int,HT.lexLt a b=false->HT.lexLt b a=false->a=b
 | [],[],_,_=>rfl
 | [],_::_,h,_=>by cases h
 | _::_,[],_,h=>by cases h
 | x::a,y::b,h1,h2=>by
  rw[HT.lexLt_cons] at h1 h2;by_cases e:x=y
  ·subst e;rw[if_pos rfl] at h1 h2;rw[lex_total a b h1 h2]
  ·rw[if_neg e] at h1;rw[if_neg (λz=>e z.symm)] at h2;simp at h1 h2;omega
def lexOrd:KeyOrd where
 α:=List Int
 blt:=HT.lexLt
 irrefl:=lex_irrefl
 trans:=lex_trans
 negTrans:=λa b c h=>by
  cases h1:HT.lexLt a b with
  | true=>exact .inl rfl
  | false =>
   right;cases h2:HT.lexLt b a with
   | true=>exact lex_trans b a c h2 h
   | false=>rw[<- lex_total a b h1 h2];exact h
 total:=lex_total
theorem asks_ints {vs:List Value}{ns:List Int}(hI:IntsAre vs ns):Asks prog w A intOrd intKey oneType' vs s:=by
 refine⟨λh2 E Q hq=>?_,λx hx y hy E Q hq=>?_⟩
 ·match vs,h2,hI with
  | vq::vz::P8,_,hI=>rw[keyKind_ints hI];exact ap hq
 ·have key:∀ {vs:List Value} {ns:List Int},IntsAre vs ns->∀ x∈vs,∃ i t,x=cC i t:=by
   intro vs ns h;induction h with
   | nil=>intro x hx;cases hx
   | cons n t _ ih =>
    intro x hx;rcases aO.mp hx with rfl | hx
    ·exact⟨n,t,rfl⟩
    ·exact ih x hx
  obtain⟨i,t,rfl⟩:=key hI x hx;obtain⟨j,u,rfl⟩:=key hI y hy;exact PySem.W.kat_lt_int hq
end
end Srt
namespace Srt
open PySem PyProof.Rows PySem.W
section
variable {prog:Program}{w:World}{A:Around}{E:Value->Shared->Prop}{s:Shared}
def TupInts (h:Heap)(v:Value)(ks:List Int):Prop:=∃ a o items n,v=.ref a/\h.get? a=some o/\o.cls=.type "tuple"/\o.data=.seq items n/\IntsAre items.toList ks/\ks≠[]
theorem TupInts.keep {h h':Heap}{v:Value}{ks:List Int}(t:TupInts h v ks)(k:∀ b o,h.get? b=some o->h'.get? b=some o):TupInts h' v ks :=
 let ⟨a,o,items,n,e,ho,r⟩:=t;⟨a,o,items,n,e,k _ _ ho,r⟩
def tupKey (h:Heap):Value->List Int
 | .ref a=>match h.get? a with
  | some o=>match o.data with
   | .seq items _=>items.toList.map intKey
   | _=>[]
  | none=>[]
 | _=>[]
theorem intKeys_of {us:List Value}{ns:List Int}(h:IntsAre us ns):us.map intKey=ns:=by
 induction h with
 | nil=>rfl
 | cons n t _ ih=>rw[am,ih];rfl
theorem tupKey_of {h:Heap}{v:Value}{ks:List Int}(t:TupInts h v ks):tupKey h v=ks:=by
 obtain⟨a,o,items,n,rfl,ho,hc,hd,hi,_⟩:=t;simp only[tupKey,ho,hd];exact intKeys_of hi
theorem katlex_ints {b fin:Bool}{Q:Bool->Shared->Prop}:∀ {us:List Value} {ns:List Int} {ws:List Value} {ms:List Int} (i:Nat),IntsAre us ns->IntsAre ws ms->fin=decide (us.length<ws.length)->Q (HT.lexLt ns ms) s ->
  KatLex prog w A b fin Q (us.zip ws) i s
 | _,_,_,_,_,.nil,.nil,hf,hq=>by subst hf;exact hq
 | _,_,_,_,_,.nil,.cons m u h,hf,hq=>by
  subst hf;show Q (decide (0<_)) s;rw[az,decide_eq_true (ef _)];exact hq
 | _,_,_,_,_,.cons m u h,.nil,hf,hq=>by
  subst hf;show Q (decide (_<0)) s;rw[decide_eq_false (cb _)];exact hq
 | _,_,_,_,i,.cons n t h,.cons m u k,hf,hq=>by
  rw[dk];refine kat_cons (wpAny_eqBool_int ?_);rw[HT.lexLt_cons] at hq;by_cases e:n=m
  ·rw[if_pos e] at hq;have eb:(n == m)=true:=beq_iff_eq.mpr e;rw[eb];exact kat_yes (katlex_ints (i+1) h k (by rw[hf,az,az];simp) hq)
  ·rw[if_neg e] at hq;have eb:(n == m)=false:=beq_eq_false_iff_ne.mpr e;rw[eb];refine kat_no ?_;cases hb:(b && i == 0) with
   | true=>exact oneLt_int hq
   | false=>exact kat_one _ _ (gL hq)
theorem katTups_of {h:Heap}:∀ {vs:List Value},(∀ v∈vs,∃ ks,TupInts h v ks)->∃ fs,KatTups h vs fs/\fs.length=vs.length/\∀ f∈fs,∃ i t,f=cC i t
 | [],_=>⟨[],.nil,rfl,λf hf=>nomatch hf⟩
 | v::vs,hv=>by
  obtain⟨fs,k,hl,hf⟩:=katTups_of (vs:=vs) λu hu=>hv u (aq _ hu)
  obtain⟨ks,a,o,items,n,rfl,ho,hc,hd,hi,hne⟩:=hv v aD;obtain⟨i,t,r,e⟩:∃ i t r,items.toList=cC i t::r:=by
   generalize items.toList=l at hi;cases hi with
   | nil=>exact absurd rfl hne
   | cons n t _=>exact⟨n,t,_,rfl⟩
  refine⟨.int i t::fs,.cons ho hc hd ?_ k,by rw[az,az,hl],λf hf'=>?_⟩
  ·rw[<- aW,e];rfl
  ·rcases aO.mp hf' with rfl | q
   ·exact⟨i,t,rfl⟩
   ·exact hf f q
theorem asks_tups {h:Heap}{vs:List Value}(hv:∀ v∈vs,∃ ks,TupInts h v ks)(hk:∀ b o,h.get? b=some o->s.heap.get? b=some o):Asks prog w A lexOrd (tupKey h) (tuples' true) vs s:=by
 refine⟨λh2 E Q hq=>?_,λx hx y hy E Q hq=>?_⟩
 ·obtain⟨fs,kt,hl,hf⟩:=katTups_of (h:=s.heap) (vs:=vs) λv hm=>let ⟨ks,t⟩:=hv v hm;⟨ks,t.keep hk⟩
  refine kat_kind (T:=.type "int") kt ∅ (λf hm=>?_) (by decide) hq;obtain⟨i,t,rfl⟩:=hf f hm;exact .now
 ·obtain⟨ks,tx⟩:=hv x hx;obtain⟨ms,ty⟩:=hv y hy;rw[tupKey_of tx,tupKey_of ty] at hq;obtain⟨a,o,items,n,rfl,ho,hc,hd,hi,_⟩:=tx.keep hk;obtain⟨a',o',items',n',rfl,ho',hc',hd',hi',_⟩:=ty.keep hk;exact kat_lt ho hd ho' hd' (katlex_ints 0 hi hi' (by simp) hq)
end
end Srt
namespace L2
open PySem PySem.Spec PyProof.Rows
theorem a1x {α β:Type}{f:α->β}:∀ {l m:List β},l.Perm m->∀ {ps:List α},m=ps.map f->∃ qs:List α,qs.Perm ps/\l=qs.map f:=by
 intro l m h;induction h with
 | nil =>
  intro ps e;cases ps with
  | nil=>exact⟨[],.nil,rfl⟩
  | cons _ _=>cases e
 | @cons x l₁ lz _ ih =>
  intro ps e;cases ps with
  | nil=>cases e
  | cons p r =>
   rw[am] at e;injection e with e1 e2
   obtain⟨qs,h1,h2⟩:=ih e2;exact⟨p::qs,h1.cons _,by rw[am,h2,e1]⟩
 | swap x y l =>
  intro ps e
  match ps,e with
  | p::q::r,e =>
   rw[am,am] at e;injection e with e1 e2
   injection e2 with e2 e3
   exact⟨q::p::r,.swap ..,by rw[am,am,<- e1,<- e2,<- e3]⟩
 | trans _ _ ih1 ih2 =>
  intro ps e;obtain⟨qs,h1,h2⟩:=ih2 e;obtain⟨rs,h3,h4⟩:=ih1 h2;exact⟨rs,h3.trans h1,h4⟩
theorem a0Q {α:Type}{f:α->Addr}:∀ {ps:List α} {us:List Value},B3 (ps.map λx=>V.ref (f x)) us->us=ps.map λx=>bp (f x)
 | [],_,.nil=>rfl
 | x::r,_,.cons h t=>by
  cases (show _=bp (f x) from h);rw[am,<- a0Q t]
theorem a0W {α:Type}{f:α->Addr}:∀ ps:List α,B3 (ps.map λx=>V.ref (f x)) (ps.map λx=>bp (f x))
 | []=>.nil
 | x::r=>.cons rfl (a0W r)
theorem S6:∀ {us:List Value},(∀ u∈us,∃ i t,u=cC i t)->IntsAre us (us.map Srt.intKey)
 | [],_=>.nil
 | u::r,h=>by
  obtain⟨i,t,rfl⟩:=h u aD;exact .cons i t (S6 λv hv=>h v (aq _ hv))
section
variable {X:Cx}{pins:List (Addr×Obj)}{σ:St}{H:Hp}{s:Shared}
theorem Inv.tupInts (I:Inv X pins σ H s){a:Addr}{ks:List Int}(h:H a=some (.tup (ks.map V.int)))(hne:ks≠[]):Srt.TupInts s.heap (.ref a) ks:=by
 obtain⟨its,r,⟨o,ho,hc,n,hd⟩,hz⟩:=I.tuple (SqT.of h);exact⟨a,o,its.toArray,n,rfl,ho,hc,hd,N5 r,hne⟩
end
end L2
end
section
namespace L2
open PySem PySem.Spec PyProof.Rows
mutual
inductive Dt (K:ae)(H:Hp):V->PyData->Prop
 | non:Dt K H .non .none
 | bl (b:Bool):Dt K H (.bl b) (.bool b)
 | int (i:Int):Dt K H (.int i) (.int i)
 | str (x:Str):Dt K H (.str x) (.str x)
 | tup {a:Addr} {xs:List V} {ds:List PyData}:SqT K H a xs->Dts K H xs ds->Dt K H (.ref a) (.tuple ds)
 | lst {a:Addr} {xs:List V} {ds:List PyData}:SqL K H a xs->Dts K H xs ds->Dt K H (.ref a) (.list ds)
inductive Dts (K:ae)(H:Hp):List V->List PyData->Prop
 | nil:Dts K H [] []
 | cons {x:V} {d:PyData} {xs:List V} {ds:List PyData}:Dt K H x d->Dts K H xs ds->Dts K H (x::xs) (d::ds)
end
section
variable {X:Cx}{pins:List (Addr×Obj)}{σ:St}{H:Hp}{s:Shared}
mutual
theorem Inv.reads (I:Inv X pins σ H s):∀ {x:V} {d:PyData} {u:Value},Dt X.K H x d->B6 x u->∃ as,Reads s.heap u d as
 | _,_,_,.non,r=>by cases (show _=cJ from r);exact⟨_,.none⟩
 | _,_,_,.bl b,r=>by cases (show _=aZ b from r);exact⟨_,.bool b⟩
 | _,_,_,.int i,r=>by obtain⟨t,e⟩:=(show ∃ t,_=cC i t from r);subst e;exact⟨_,.int i t⟩
 | _,_,_,.str x,r=>by obtain⟨t,e⟩:=(show ∃ t,_=fA x t from r);subst e;exact⟨_,.str x t⟩
 | _,_,_,.tup (a:=a) h hs,r=>by
  cases (show _=bp a from r);obtain⟨its,rv,⟨o,ho,hc,n,hd⟩,hz⟩:=I.tuple h;obtain⟨as,q⟩:=Inv.readsAll I hs rv;exact⟨_,.tuple ho hc hd (~~~q)⟩
 | _,_,_,.lst (a:=a) h hs,r=>by
  cases (show _=bp a from r);obtain⟨its,rv,pl,hz⟩:=I.list h;obtain⟨o,ho,hc,n,hd⟩:=pl.isList;obtain⟨as,q⟩:=Inv.readsAll I hs rv;exact⟨_,.list ho hc hd (~~~q)⟩
theorem Inv.readsAll (I:Inv X pins σ H s):∀ {xs:List V} {ds:List PyData} {us:List Value},Dts X.K H xs ds->B3 xs us->∃ as,ReadsAll s.heap us ds as
 | _,_,_,.nil,.nil=>⟨_,.nil⟩
 | _,_,_,.cons h t,.cons r q=>by
  obtain⟨as,h1⟩:=Inv.reads I h r;obtain⟨bs,h2⟩:=Inv.readsAll I t q;exact⟨_,.cons h1 h2⟩
end
def a7k (K:ae)(neg:Bool):R2:=λx y H Q=>∃ d e,Dt K H x d/\Dt K H y e/\SeqAt.shaped d=true/\SeqAt.shaped e=true/\Q (.bl (if neg then !PyData.eqv d e else PyData.eqv d e)) H
theorem a9h (hu:X.A.units+64<cLine):OpR X (compareOp .NotEq) (a7k X.K true):=by
 intro pins s σ H x y v u Q I rx ry h;obtain⟨d,e,hd,he,sd,se,q⟩:=h;obtain⟨as,r1⟩:=I.reads hd rx;obtain⟨bs,r2⟩:=I.reads he ry;exact ne_dataH r1 r2 sd se hu ⟨.bl _,H,I,rfl,q⟩
theorem Dts.ints {K:ae}:∀(ns:List Int),Dts K H (ns.map V.int) (ns.map bW)
 | []=>.nil
 | n::r=>.cons (.int n) (Dts.ints r)
theorem S8:∀ ns:List Int,PyData.canLayAll0 (ns.map bW)=true
 | []=>rfl
 | n::r=>by rw[am,PyData.canLayAll0,S8 r];rfl
theorem U6:∀ ns:List Int,PyData.depthAll (ns.map bW)=0
 | []=>rfl
 | n::r=>by rw[am,PyData.depthAll,U6 r];rfl
theorem Z0 (ns:List Int):SeqAt.shaped (.list (ns.map bW))=true:=by
 unfold SeqAt.shaped PyData.canLay0 PyData.depth;rw[S8,U6];rfl
theorem a0C:∀ ns ms:List Int,PyData.eqvAll (ns.map bW) (ms.map bW)=decide (ns=ms)
 | [],[]=>rfl
 | [],_::_=>rfl
 | _::_,[]=>rfl
 | a::r,b::t=>by
  rw[am,am,PyData.eqvAll,PyData.eqv,a0C r t];by_cases h:a=b<;>by_cases h':r=t<;>simp[h,h']
theorem a6C (ns ms:List Int):PyData.eqv (.tuple (ns.map bW)) (.tuple (ms.map bW))=decide (ns=ms):=by
 rw[PyData.eqv];exact a0C ns ms
theorem a6D (ns ms:List Int):PyData.eqv (.list (ns.map bW)) (.list (ms.map bW))=decide (ns=ms):=by
 rw[PyData.eqv];exact a0C ns ms
theorem Dt.tupI {K:ae}{a:Addr}{ns:List Int}(h:SqT K H a (ns.map V.int)):Dt K H (.ref a) (.tuple (ns.map bW)):=.tup h (Dts.ints ns)
theorem Dt.lstI {K:ae}{a:Addr}{ns:List Int}(h:SqL K H a (ns.map V.int)):Dt K H (.ref a) (.list (ns.map bW)):=.lst h (Dts.ints ns)
theorem b1B {K:ae}{a b:Addr}{ns ms:List Int}{Q:VK}(h1:SqL K H a (ns.map V.int))(h2:SqL K H b (ms.map V.int))(q:Q (.bl (!decide (ns=ms))) H):a7k K true (.ref a) (.ref b) H Q :=
 ⟨_,_,.lstI h1,.lstI h2,Z0 _,Z0 _,by rw[a6D];exact q⟩
end
end L2
end
section
namespace Srt
open PySem PyProof.Rows PySem.W
theorem nolen_lr:typeLookup (.type "list_reverseiterator") "__len__"=pure none:=by rw[typeLookup_type,builtinLookup_eq_fast];kernel_rfl
theorem hint_lr:typeLookup (.type "list_reverseiterator") "__length_hint__"=pure (some (.builtin "list_reverseiterator.__length_hint__")):=by rw[typeLookup_type,builtinLookup_eq_fast];kernel_rfl
section
variable {prog:Program}{w:World}{A:Around}{E:Value->Shared->Prop}{s:Shared}
theorem rev_extend {R:Result->Shared->Prop}{r l S:Addr}{items:Array Value}{res:Value}{c₀:Nat}(hh:A.handled=none)(hr:s.heap.IsRevIter r l ((items.size:Int)-1))(hl:s.heap.IsList l items)(hne:l≠r)(hSr:S≠r)(hSl:S≠l)
  (hS:s.heap.get? S=some {cls:=.type "list",data:=.seq #[] c₀}) (hn:items.size<=sizeLine)
  (hR:∀ h' tk acc' c',(∀ b o,b≠S->b≠r->s.heap.get? b=some o->h'.get? b=some o)->h'.get? S=some {cls:=.type "list",dict:=none,data:=.seq acc' c',slots:=#[]} ->
   ItemsOf (λi v=>items[items.size-1-i]?=some v) acc' items.size->R (.ok (.ret res)) {s with heap:=h',toks:=tk}) :
  wpAny (model prog w) A.in1 (Builtin.List.listExtendWith (.ref S) (.ref r) res)
   (λfin s'=>match fin with | .done f=>R (.ok f) s' | .again c'=>c'.quiet=true/\codeAny (model prog w) A c' R s') (λe s'=>R (.error e) s') s:=by
 have W:=(Walks.listRev (prog:=prog) (w:=w) (A:=A.in1) hh r l hne items).toS;have hSf:S∉[r,l]:=by simp only[aO,dF,or_false,not_or];exact⟨hSr,hSl⟩
 unfold Builtin.List.listExtendWith;refine af (jd hr.typeIs ?_);have h1:Builtin.List.listSameRef (.ref S) (.ref r)=false:=by simp[Builtin.List.listSameRef,hSr]
 rw[if_neg (by rw[h1];decide)];refine af (wpAny_pyIter_revIter hr ?_);refine af (bQ ?_);unfold Builtin.List.listLengthHint;refine af (fW hr.typeIs nolen_lr ?_);show wpAny _ A.in1 (specialOf (bp r) (Str.ofString "__length_hint__") >>= _) _ _ _;refine af (fW hr.typeIs hint_lr ?_);generalize hid:("list_reverseiterator.__length_hint__":String)=id0
 wp_delta
 rw[show splitId id0=some ("list_reverseiterator", "__length_hint__") from by subst hid;decide +kernel];subst hid;refine af (g8 (b:=true) hr.typeIs (by rw[isSubtype_type];kernel_rfl) ?_);refine ap ?_;rw[if_neg (by decide)];refine ap ⟨plainId_quiet PySem.F.plain_extend_loop _,codeAny_extend_loopS W hn S hSf res items.size 0 s #[] c₀ rfl (bn _) ⟨bn _, ~~~hr,hl⟩ hS (ItemsOf.nil _) λs' acc' c' hm hS' hacc=>?_⟩;rw[Moved.eq_with hm];refine hR s'.heap s'.toks acc' c' (λb o hb hbr e=>hm.heap b o (λhmem=>?_) e) hS' hacc;rcases aO.mp hmem with e' | hmem
 ·exact hb e'
 ·exact hbr (au.mp hmem)
theorem call_list_rev {Q:Value->Shared->Prop}{r l:Addr}{items:Array Value}(hh:A.handled=none)(hr:s.heap.IsRevIter r l ((items.size:Int)-1))(hl:s.heap.IsList l items)(hne:l≠r)(hn:items.size<=sizeLine)
  (hQ:∀ h' tk acc' c',(∀ b o,b≠r->s.heap.get? b=some o->h'.get? b=some o)->h'.get? s.heap.objs.size=some {cls:=.type "list",dict:=none,data:=.seq acc' c',slots:=#[]} ->
   ItemsOf (λi v=>items[items.size-1-i]?=some v) acc' items.size->Q (.ref s.heap.objs.size) {s with heap:=h',toks:=tk}) :
  wpAny (model prog w) A (call (.type "list") [.ref r]) Q E s:=by
 refine callType_codes (Q₁:=λobj sj=>obj=.ref s.heap.objs.size/\sj={s with heap:=s.heap.push {cls:=.type "list",data:=.seq #[]}}) PySem.F.called_list (PySem.F.typeCall_list_1 _) PySem.F.entry_list_init
  (code_list_new _ ⟨rfl,rfl⟩) λobj sj h₁=>?_
 obtain⟨rfl,rfl⟩:=h₁;have hS:(s.heap.push {cls:=.type "list",data:=.seq #[]}).get? s.heap.objs.size=some {cls:=.type "list",data:=.seq #[]}:=aX _ rfl;have rlt:r<s.heap.objs.size:=let ⟨o,ho,_⟩:=hr;ax ho;have llt:l<s.heap.objs.size:=let ⟨o,ho,_⟩:=hl;ax ho;refine⟨⟨_,hS,rfl⟩,PySem.F.args_list_init_2 _ _,?_⟩;show wpAny _ _ (do let old <- Builtin.List.listItems (.ref s.heap.objs.size);Builtin.List.listUpdate (.ref s.heap.objs.size) (λ_=>#[]);letGo old.toList.reverse;Builtin.List.listExtendWith (.ref s.heap.objs.size) (.ref r) .none) _ _ _;refine af ?_;unfold Builtin.List.listItems;refine af (iC hS rfl (ap ?_));show wpAny _ _ (updateSeq s.heap.objs.size (λ_=>#[]) >>= λ_=>letGo (#[]:Array Value).toList.reverse >>= λ_=>Builtin.List.listExtendWith (.ref s.heap.objs.size) (.ref r) .none) _ _ _;refine af (wpAny_updateSeq hS rfl ?_);have hSz:=cR (Obj.mapSeq (λ_=>(#[]:Array Value))) hS rfl;have oth:∀ b o,b≠s.heap.objs.size->s.heap.get? b=some o->((s.heap.push {cls:=.type "list",data:=.seq #[]}).update s.heap.objs.size (Obj.mapSeq (λ_=>(#[]:Array Value)))).get? b=some o :=
  λb o hb e=>(fj _ _ (fm hb)).trans (aj _ e)
 refine af (wpAny_letGo ?_);refine rev_extend (A:=A.in1) hh (hr.at λo e=>oth r o (aN rlt) e) (hl.at λo e=>oth l o (aN llt) e) hne (gB rlt) (gB llt) hSz hn λh' tk acc' c' hk hS' hacc=>?_
 exact⟨rfl,hQ h' tk acc' c' (λb o hb e=>hk b o (aN (ax e)) hb (oth b o (aN (ax e)) e)) hS' hacc⟩
end
end Srt
namespace L2
open PySem PySem.Spec PyProof.Rows
section
variable {X:Cx}{e:Expr}{te:TE}{p1 p2 q1 q2:Pos}
theorem a3F:bootBuiltins "list"=some (.type "list"):=by decide +kernel
theorem a0N:bootBuiltins "reversed"=some (.type "reversed"):=by decide +kernel
theorem a1W:∀ {xs:List V} {us:List Value},B3 xs us->B3 xs.reverse us.reverse
 | _,_,.nil=>.nil
 | _,_,.cons r t=>by
  rw[dv,dv];exact (a1W t).append (.cons r .nil)
def a7W (te:TE):TE:=fun σ H Q=>te σ H λx H1=>∃ a xs,x=.ref a/\H1 a=some (.lst xs)/\∀ l,H1 l=none->Q (.ref l) (upd H1 l (.lst xs.reverse))
theorem a3i (hc:X.A.handled=none)(hg1:Gl X "list")(hm1:X.mg "list"=none)(hg2:Gl X "reversed")(hm2:X.mg "reversed"=none)(he:PE X e te)
  (hs1:starEach [.Call (.Name "reversed" p1) [e] [] q1] X.env=[(false,eval (.Call (.Name "reversed" p1) [e] [] q1) X.env)]:=by rfl) (hs2:starEach [e] X.env=[(false,eval e X.env)]:=by rfl) :
  PE X (.Call (.Name "list" p2) [.Call (.Name "reversed" p1) [e] [] q1] [] q2) (a7W te):=by
 intro pins s σ H Q I h;refine bM (P7 I hg1 hm1 a3F ?_);refine bH ?_ hs1 rfl;rw[hs1];refine cM ?_;refine bM (P7 I hg2 hm2 a0N ?_);refine bH ?_ hs2 rfl;rw[hs2];refine cM (thn (he pins s σ H _ I h) λu s1 ⟨x,H1,I1,r1,q1⟩=>?_);obtain⟨a,xs,rfl,ha,q⟩:=q1;cases r1;refine cV ?_;obtain⟨its,n,rv,ho,hz⟩:=I1.lst ha;have hl:s1.heap.IsList a its.toArray:=⟨_,ho,rfl,n,rfl⟩
 have alt:a<s1.heap.objs.size:=ax ho;refine call_reversed_list hl ?_;refine cV ?_;have k1:∀ b o,s1.heap.get? b=some o->(s1.heap.push (revObj a ((its.toArray.size:Int)-1))).get? b=some o:=λ_ _ q=>aj _ q
 refine Srt.call_list_rev (s:={s1 with heap:=s1.heap.push (revObj a ((its.toArray.size:Int)-1))}) hc ⟨_,aX _ rfl,rfl,rfl⟩ (hl.at λo e=>k1 a o e) (aN alt) (by rw[ay,<- rv.length];exact hz) λh' tk acc' c' hk hS' hacc=>?_
 have eacc:acc'.toList=its.reverse:=by
  apply gm;intro i;rw[aW];rcases bI i its.length with hi | hi
  ·have hi':i<acc'.size:=by rw[hacc.1,ay];exact hi
   have:=hacc.2 i acc'[i] (aV hi');rw[aV hi',List.getElem?_reverse hi];rw[ay,List.getElem?_toArray] at this;exact this.symm
  ·rw[bG (by rw[hacc.1,ay];exact hi),fH (by rw[fU];exact hi)]
 have keep:∀ b o,s1.heap.get? b=some o->h'.get? b=some o:=λb o e=>hk b o (aN (ax e)) (k1 b o e)
 have hsz:(s1.heap.push (revObj a ((its.toArray.size:Int)-1))).objs.size=s1.heap.objs.size+1:=dC ..;refine⟨.ref (s1.heap.push (revObj a ((its.toArray.size:Int)-1))).objs.size,_,I1.laid (t':=tk) (a:=(s1.heap.push (revObj a ((its.toArray.size:Int)-1))).objs.size) (o:=.lst xs.reverse) keep (by rw[hsz];omega) ⟨by rw[fU];exact hz,its.reverse,c',a1W rv,by rw[<- eacc,iA];exact hS'⟩,rfl,q _ (I1.hok.fresh (by rw[hsz];omega))⟩
end
end L2
end
section
namespace L2
open PySem PySem.Spec PyProof.Rows
structure Df (K:ae)(mg:Str->Option Value)(x:Str)(st:Stmt)(f:Addr)(fd:FuncData)(ps:List Str):Prop where
 F:Fun K x x st f fd
 b:a1o K fd ps []
 m:mg x=some (.ref f)
theorem C1 {X:Cx}{k:Nat}{f:Addr}{fd:FuncData}{ps:List Str}{sp:Sp}{x:Str}{st:Stmt}{p pos:Pos}{e:Expr}{es:List Expr}{t:TA}(G:B8 X.prog X.w X.K X.mg X.base CX0 k f fd ps sp)(D:Df X.K X.mg x st f fd ps)(hr:L7 k X.A)
  (ha:PA X (e::es) t) (hg:Gl X x:=by rfl) (hdb:(x == ("__debug__":Str))=false:=by decide) (he:starEach (e::es) X.env=(false,eval e X.env)::starEach es X.env:=by rfl) (hpl:(backTo pos (starEach es X.env)).any (·.1)=false:=by rfl) :
  PE X (.Call (.Name x p) (e::es) [] pos) (a3O sp [] E0 t):=a4b G hr hg D.m D.F.kp D.b .nil a8j ha hdb he hpl
structure Bt (mg:Str->Option Value):Prop where
 len:mg "len"=none
 range:mg "range"=none
 list:mg "list"=none
 tuple:mg "tuple"=none
 sorted:mg "sorted"=none
 min:mg "min"=none
 max:mg "max"=none
 int:mg "int"=none
 reversed:mg "reversed"=none
section
variable {X:Cx}(K:ae)
theorem N8 (h:X.K=K:=by rfl):IxR X (a7j K):=by subst h;exact a7z
theorem W0 (h:X.K=K:=by rfl):IxR X (a7i K):=by subst h;exact a9r
theorem E7 (h:X.K=K:=by rfl):SlR X (a7h K):=by subst h;exact a7e
theorem a7K (h:X.K=K:=by rfl):OpR X (compareOp .In) (rIn K false):=by subst h;exact a4C
theorem b0I (hu:X.A.units+64<cLine)(h:X.K=K:=by rfl):OpR X (compareOp .NotEq) (a7k K true):=by subst h;exact a9h hu
theorem b1D (hu:X.A.units<cLine)(h:X.K=K:=by rfl):OpR X (compareOp .Lt) (b0z K):=by subst h;exact a9i hu
def a9Q (K:ae):List V->Hp->VK->Prop:=λxs H Q=>∃ p ys,xs=[.ref p]/\(SqL K H p ys\/SqT K H p ys)/\Q (.int ys.length) H
def a8t (K:ae):List V->Hp->VK->Prop:=λxs H Q=>∃ p ys,xs=[.ref p]/\(SqL K H p ys\/SqT K H p ys)/\∀ l,H l=none->Q (.ref l) (upd H l (.lst ys))
def a6T (K:ae):List V->Hp->VK->Prop:=λxs H Q=>∃ p ys,xs=[.ref p]/\((SqL K H p ys/\∀ l,H l=none->Q (.ref l) (upd H l (.tup ys)))\/(SqT K H p ys/\Q (.ref p) H))
theorem a1E (h:X.K=K:=by rfl):M0 X (.builtin "len") (a9Q K):=by subst h;exact a1M
theorem b0J (h:X.K=K:=by rfl):M0 X (.type "list") (a8t K):=by subst h;exact a1L
theorem T6 (h:X.K=K:=by rfl):M0 X (.type "tuple") (a6T K):=by subst h;exact a0M
variable {tg l o e:Expr}{tl to:TE}{es:List Expr}{t:TA}{pos:Pos}
theorem K4 (hl:PE X l tl)(h:X.K=K:=by rfl):PI X tg l (a6v K tl):=by subst h;exact a7n hl
theorem a7m (hl:PE X l tl)(h:X.K=K:=by rfl):PI X tg l (a9E K tl):=by subst h;exact a9a hl
theorem a1w {k:Nat}{t:TGs}{n:Nat}(hc:X.calm=true)(hg:PGs X es t)(hn:(assignEach es X.env).length=n:=by rfl)(hst:(assignEach es X.env).findIdx? (·.1)=none:=by rfl)(h:X.K=K:=by rfl):PG X (.Tuple es k pos) (a9I K n t):=by
 subst h;exact a9b hc hg hn hst
theorem T4 {apos cpos:Pos}(ho:PE X o to)(ha:PA X (e::es) t)(h:X.K=K:=by rfl)
  (hbase:attributeBase o "append" X.env (eval o X.env)=eval o X.env:=by rfl)
  (hfew:((backTo cpos (starEach (e::es) X.env)).all (λx=>!x.1) && (backToKw cpos (keywordEach [] X.env)).all (λx=>x.1.isSome)
   && decide ((e::es).length+([]:List Keyword).length+(if ([]:List Keyword).isEmpty then 0 else 1)<30))=true:=by rfl) (hst:starEach (e::es) X.env=(false,eval e X.env)::starEach es X.env:=by rfl) (hpl:(backTo cpos (starEach es X.env)).any (·.1)=false:=by rfl) (hline:(apos.endLine == cpos.line)=true:=by rfl) :
  PE X (.Call (.Attribute o "append" apos) (e::es) [] cpos) (tBM K "list" a1t to t):=by
 subst h;exact a4c eM PySem.F.slot_list_append PySem.F.type_list_append a0X ho ha hbase hfew hline hst hpl
theorem b1A {apos cpos:Pos}(ho:PE X o to)(h:X.K=K:=by rfl)(hbase:attributeBase o "pop" X.env (eval o X.env)=eval o X.env:=by rfl)(hline:(apos.endLine == cpos.line)=true:=by rfl) :
  PE X (.Call (.Attribute o "pop" apos) [] [] cpos) (a8Q K "list" a8W to):=by
 subst h;exact a9e eM PySem.F.slot_list_pop PySem.F.type_list_pop a9l ho hbase hline
end
section
variable {K:ae}{a p:Addr}{xs:List V}{g:TG}{tc:TT}{te tv:TE}{τ0:St}{H0:Hp}{EE:Hp->Prop}
theorem P1 (Pv:Nat->St->Hp->Prop)(h0:Pv 0 τ0 H0)(hl:∀ i τ H,i<=xs.length->Pv i τ H->SqL K H a xs)
  (hs:∀ i x τ H,xs[i]?=some x->Pv i τ H->(∀ ys,SqL K H a ys->ys[i]?=some x)->g x τ H fun τ2 H2=>tc τ2 H2 λb H3=>if b=true then te τ2 H3 λv H4=>∃ ys,H4 p=some (.lst ys)/\ys.length<sizeLine/\Pv (i+1) τ2 (upd H4 p (.lst (ys++[v]))) else Pv (i+1) τ2 H3)
  (hd:∀ τ H,Pv xs.length τ H->EE H):lcW g tc te p (Itl K a) τ0 H0 EE:=by
 refine⟨λi m τ H=>m=xs.length-i/\i<=xs.length/\Pv i τ H,⟨_,rfl,bn _,h0⟩,?_⟩;rintro i m τ H ⟨rfl,hi,hp⟩;have hq:=hl i τ H hi hp;rcases bI i xs.length with h | h
 ·have hx:xs[i]?=some xs[i]:=ak h;refine .inr ⟨⟨xs,_,hq,hx⟩,Pv (i+1),fun τ' H' z=>⟨_,∅,rfl,h,z⟩,?_⟩;rintro x H' ⟨rfl,hy⟩;have e:x=xs[i]:=by have:=hy xs hq;rw[hx] at this;exact (aG this).symm
  subst e;exact hs i _ τ H' hx hp hy
 ·have e:i=xs.length:=∅
  subst e;exact .inl ⟨⟨xs,hq,ao _⟩,hd τ H hp⟩
theorem a2G {lo:Int}{n:Nat}(Pv:Nat->St->Hp->Prop)(h0:Pv 0 τ0 H0)
  (hs:∀ i τ H,i<n->Pv i τ H->g (.int (lo+i)) τ H fun τ2 H2=>tc τ2 H2 λb H3=>if b=true then te τ2 H3 λv H4=>∃ ys,H4 p=some (.lst ys)/\ys.length<sizeLine/\Pv (i+1) τ2 (upd H4 p (.lst (ys++[v]))) else Pv (i+1) τ2 H3)
  (hd:∀ τ H,Pv n τ H->EE H):lcW g tc te p (Itr lo n) τ0 H0 EE:=by
 refine⟨λi m τ H=>m=n-i/\i<=n/\Pv i τ H,⟨_,rfl,bn _,h0⟩,?_⟩;rintro i m τ H ⟨rfl,hi,hp⟩;rcases bI i n with h | h
 ·refine .inr ⟨h,Pv (i+1),fun τ' H' z=>⟨_,∅,rfl,h,z⟩,?_⟩;rintro x H' ⟨rfl,rfl⟩;exact hs i τ H' h hp
 ·have e:i=n:=∅
  subst e;exact .inl ⟨ao _,hd τ H hp⟩
end
theorem a1h {X:Cx}:M0 X (.type "int") (λxs H Q=>∃ k,xs=[.bl k]/\Q (.int (if k then 1 else 0)) H):=λpins s σ H xs us Q I r h=>a4V pins s σ H xs us Q I r (.inr h)
theorem a5d {H:Hp}{a:Addr}{o:HO}(h:H a=some o):upd H a o=H:=by
 funext b;by_cases e:b=a
 ·subst e;rw[A2,h]
 ·rw[A7 e]
theorem B1.upd {H H':Hp}(s:B1 H H'){p:Addr}{o:HO}(hp:H p=none):B1 H (L2.upd H' p o):=λb u e=>by
 rw[A7 (C2 e hp)];exact s b u e
theorem B4 {n:Nat}(h:n<=16000000):n<sizeLine:=by rw[sizeLine_eq];omega
end L2
end
section
namespace L2
open PySem
def Tp (H H':Hp):Prop:=∀ a xs,H a=some (.tup xs)->H' a=some (.tup xs)
theorem Tp.refl (H:Hp):Tp H H:=λ_ _ h=>h
theorem Tp.trans {H H1 H2:Hp}(a:Tp H H1)(b:Tp H1 H2):Tp H H2:=λc o h=>b c o (a c o h)
theorem B1.tp {H H':Hp}(s:B1 H H'):Tp H H':=λa xs h=>s a _ h
theorem b0F {H:Hp}{a b:Addr}{xs ys:List V}(h:H a=some (.tup xs))(h':H b=some (.lst ys)):a≠b:=λe=>by subst e;rw[h] at h';cases h'
theorem a9j {H:Hp}{a b:Addr}{xs:List V}{ys:List (List Key×V)}(h:H a=some (.tup xs))(h':H b=some (.dT ys)):a≠b:=λe=>by subst e;rw[h] at h';cases h'
theorem a9k {H:Hp}{a b:Addr}{xs:List V}{ys:List (Key×V)}(h:H a=some (.tup xs))(h':H b=some (.dK ys)):a≠b:=λe=>by subst e;rw[h] at h';cases h'
theorem Tp.new {H H':Hp}(s:Tp H H'){p:Addr}{o:HO}(hp:H p=none):Tp H (upd H' p o):=λa xs h=>by rw[A7 (C2 h hp)];exact s a xs h
theorem Tp.lst {H:Hp}{p:Addr}{o:HO}{ys:List V}(hp:H p=some (.lst ys)):Tp H (upd H p o):=λa xs h=>by rw[A7 (b0F h hp)];exact h
theorem Tp.dT {H:Hp}{p:Addr}{o:HO}{ys:List (List Key×V)}(hp:H p=some (.dT ys)):Tp H (upd H p o):=λa xs h=>by rw[A7 (a9j h hp)];exact h
theorem Tp.dK {H:Hp}{p:Addr}{o:HO}{ys:List (Key×V)}(hp:H p=some (.dK ys)):Tp H (upd H p o):=λa xs h=>by rw[A7 (a9k h hp)];exact h
theorem Tp.nw {H:Hp}{p:Addr}{o:HO}(hp:H p=none):Tp H (upd H p o):=(Tp.refl H).new hp
@[elab_as_elim] theorem B7 {G:Hp->Prop} {H:Hp} {p:Addr} {o:HO} (n:H p=none) (k:∀ H',B1 H H'->H' p=some o->G H'):G (upd H p o):=k _ ((B1.refl H).upd n) A2
theorem S3 {a b:TS}{D:Q4}{σ:St}{H:Hp}(C:St->Hp->Prop)(ha:∀ R:St->Hp->Prop,(∀ σ H,C σ H->R σ H)->a {D with nx:=R} σ H)(hb:∀ σ H,C σ H->b D σ H):a8D a b D σ H:=ha (b D) hb
def b1c (ds:List Int):Prop:=ds.length<=2000/\∀ x∈ds,0<=x/\x<1000
def N3 (H:Hp)(d:Addr):Prop:=∃ ds:List Int,H d=some (.lst (ds.map V.int))/\b1c ds
def Kp (d:Addr)(H H':Hp):Prop:=∀ b o,b≠d->H b=some o->H' b=some o
theorem Kp.refl (d:Addr)(H:Hp):Kp d H H:=λ_ _ _ h=>h
theorem Kp.trans {d:Addr}{H H1 H2:Hp}(a:Kp d H H1)(b:Kp d H1 H2):Kp d H H2:=λc o hc e=>b c o hc (a c o hc e)
theorem B1.kp {d:Addr}{H H':Hp}(s:B1 H H'):Kp d H H':=λb o _ h=>s b o h
theorem Kp.free {d:Addr}{H H':Hp}(k:Kp d H H')(hd:N3 H' d){l:Addr}(h:H' l=none):H l=none:=by
 cases e:H l with
 | none=>rfl
 | some o =>
  by_cases q:l=d
  ·subst q;obtain⟨ds,e',_⟩:=hd;rw[e'] at h;cases h
  ·rw[k l o q e] at h;cases h
theorem Kp.new {d:Addr}{H H':Hp}(k:Kp d H H'){p:Addr}{o:HO}(hp:H p=none):Kp d H (upd H' p o):=λb u hb e=>by
 rw[A7 (C2 e hp)];exact k b u hb e
theorem N3.new {d:Addr}{H:Hp}(h:N3 H d){p:Addr}{o:HO}(hp:p≠d):N3 (upd H p o) d:=by
 obtain⟨ds,e,hl⟩:=h;exact⟨ds,by rw[A7 hp.symm];exact e,hl⟩
theorem N3.ne {d p:Addr}{H:Hp}(h:N3 H d)(hp:H p=none):p≠d:=λe=>by
 subst e;obtain⟨ds,e,_⟩:=h;rw[hp] at e;cases e
theorem N3.same {d:Addr}{H H':Hp}(h:N3 H d)(s:B1 H H'):N3 H' d:=by
 obtain⟨ds,e,hl⟩:=h;exact⟨ds,s _ _ e,hl⟩
theorem Kp.tp {d:Addr}{H H':Hp}(k:Kp d H H')(hd:N3 H d):Tp H H':=λa xs h=>by
 refine k a _ (λe=>?_) h;subst e;obtain⟨ds,e',_⟩:=hd;rw[h] at e';cases e'
def a2g:Sp:=λvs H Q _=>∃ c k:Int,vs=[.int c,.int k]/\0<=k/\k<2 ^ 30/\∀ z:Int,Q (.int z) H
def T2:Sp:=λvs H Q _=>∃(d:Addr) (ns:List Int),vs=[.ref d]/\H d=some (.lst (ns.map V.int))/\∀(z:Int) (ns':List Int),ns'.length<=ns.length->(∀ x∈ns',x∈ns)->(z=0\/z∈ns)->Q (.int z) (upd H d (.lst (ns'.map V.int)))
theorem L8 {H:Hp}{d:Addr}{Q:VK}{E:XK}(hd:N3 H d)(h:∀ z H',Kp d H H'->N3 H' d->0<=z->z<1000->Q (.int z) H'):T2 [.ref d] H Q E:=by
 obtain⟨ds,e,hl,hb⟩:=hd;refine⟨d,ds,rfl,e,λz ns' hn hs hz=>?_⟩;have hz':0<=z/\z<1000:=by
  rcases hz with rfl | hz
  ·exact⟨by decide,by decide⟩
  ·exact hb z hz
 exact h z _ (λb o hb eb=>by rw[A7 hb];exact eb) ⟨ns',A2,∅,λx hx=>hb x (hs x hx)⟩ hz'.1 hz'.2
def a3U (K:ae):Sp:=λvs H Q _=>∃(a:Addr) (m:Int) (ns:List Int),vs=[.ref a,.int m]/\SqL K H a (ns.map V.int)/\ns.length<=63/\0<=m/\m<=2000 /\
 ∀(p:Addr) (ds:List Int) (H':Hp),b1c ds->B1 H H'->H p=none->H' p=some (.lst (ds.map V.int))->Q (.ref p) H'
def sp_law (K:ae):Sp:=λvs H Q _=>∃(a:Addr) (ns:List Int),vs=[.ref a]/\SqL K H a (ns.map V.int)/\ns.length<=63/\∀ H',Q (.bl true) H'
def tl (t:Int×Int):List Int:=[t.1,t.2]
def Lex (t u:Int×Int):Prop:=t.1<u.1\/(t.1=u.1/\t.2<u.2)
structure K7 (H:Hp)(ps:List (Addr×List Int))(ts:⋯):Prop where
 to:∀ x∈ps,H x.1=some (.tup (x.2.map V.int))
 eq:ps.map (·.2)=ts.map tl
def a0a (H:Hp)(q:Addr)(ts:⋯):Prop:=∃ ps:List (Addr×List Int),H q=some (.tup (ps.map λx=>V.ref x.1))/\K7 H ps ts
theorem K7.tp {H H':Hp}{ps:List (Addr×List Int)}{ts:⋯}(h:K7 H ps ts)(t:Tp H H'):K7 H' ps ts:=⟨λx hx=>t _ _ (h.to x hx),h.eq⟩
theorem a0a.tp {H H':Hp}{q:Addr}{ts:⋯}(h:a0a H q ts)(t:Tp H H'):a0a H' q ts:=by
 obtain⟨ps,e,p⟩:=h;exact⟨ps,t _ _ e,p.tp t⟩
theorem K7.get {H:Hp}{ps:List (Addr×List Int)}{ts:⋯}(h:K7 H ps ts){i:Nat}{v:V}(e:(ps.map λx=>V.ref x.1)[i]?=some v) :
  ∃ a t,v=.ref a/\ts[i]?=some t/\H a=some (.tup [.int t.1,.int t.2]):=by
 rw[aJ] at e;cases hx:ps[i]? with
 | none=>rw[hx] at e;cases e
 | some x =>
  rw[hx] at e;have e1:V.ref x.1=v:=aG e;have e2:(ps.map (·.2))[i]?=some x.2:=by rw[aJ,hx];rfl
  rw[h.eq,aJ] at e2;cases ht:ts[i]? with
  | none=>rw[ht] at e2;cases e2
  | some t =>
   rw[ht] at e2;have e3:tl t=x.2:=aG e2;refine⟨x.1,t,e1.symm,rfl,?_⟩;rw[h.to x (aU hx),<- e3];rfl
theorem K7.len {H:Hp}{ps:List (Addr×List Int)}{ts:⋯}(h:K7 H ps ts):ps.length=ts.length:=by
 have:=congrArg cz h.eq;simpa using this
def un (l:List Int):Int×Int:=(l.getD 0 0,l.getD 1 0)
theorem a5e (t:Int×Int):un (tl t)=t:=rfl
theorem K7.of_perm {H:Hp}{ps:List (Addr×List Int)}{ts:⋯}(h:∀ x∈ps,H x.1=some (.tup (x.2.map V.int)))(pm:(ps.map (·.2)).Perm (ts.map tl)):∃ ts',ts'.Perm ts/\K7 H ps ts':=by
 refine⟨(ps.map (·.2)).map un,?_,h,?_⟩
 ·have:=pm.map un;rw[bC (l:=ts),show (un ∘ tl)=id from funext a5e,List.map_id] at this;exact this
 ·rw[bC];conv=>lhs;rw[<- List.map_id (ps.map (·.2))]
  refine fT λl hl=>?_
  obtain⟨t,_,rfl⟩:=aQ.mp (pm.mem_iff.mp hl);rfl
theorem K7.perm {H:Hp}{ps ps':List (Addr×List Int)}{ts:⋯}(h:K7 H ps ts)(pm:ps'.Perm ps):∃ ts',ts'.Perm ts/\K7 H ps' ts' :=
 K7.of_perm (λx hx=>h.to x (pm.mem_iff.mp hx)) (by rw[<- h.eq];exact pm.map _)
theorem K7.snoc {H:Hp}{ps:List (Addr×List Int)}{ts:⋯}(h:K7 H ps ts){q:Addr}{t:Int×Int}(e:H q=some (.tup [.int t.1,.int t.2])):K7 H (ps++[(q,tl t)]) (ts++[t]):=by
 refine⟨λx hx=>?_,by rw[aF,aF,h.eq];rfl⟩;rcases aA.mp hx with hx | hx
 ·exact h.to x hx
 ·cases au.mp hx;exact e
def nm (ks:List Int)(u:Int):Int:=ks.getD u.toNat 0
section
variable {ks:List Int}{n:Int}
theorem a1D {t u:Int×Int}:HT.lexLt (tl t) (tl u)=true↔Lex t u:=by
 unfold tl Lex;rw[HT.lexLt_cons];split
 ·rename_i h;rw[HT.lexLt_cons];split
  ·rename_i h2;constructor
   ·intro e;cases e
   ·intro e;omega
  ·rename_i h2;rw[decide_eq_true_iff];constructor
   ·intro e;exact .inr ⟨h,e⟩
   ·intro e;rcases e with e | e
    ·omega
    ·exact e.2
 ·rename_i h;rw[decide_eq_true_iff];constructor
  ·intro e;exact .inl e
  ·intro e;rcases e with e | e
   ·exact e
   ·exact absurd e.1 h
end
end L2
end
section
namespace L2
open PySem
def a1Q (n:Int)(ts:⋯):Prop:=∀ t∈ts,0<=t.1/\t.1<t.2/\t.2<n
theorem a3e {l l':List Int}(h:l.Pairwise (·<·))(h':l'.Pairwise (·<·))(e:∀ x,x∈l↔x∈l'):l=l':=by
 refine gC (le:=(·<·)) (λa b _ _ x y=>∅) h h' ?_;refine (dZ (h.imp λx e=>∅) (h'.imp λx e=>∅)).mpr e
theorem a0a.get {H:Hp}{q:Addr}{ts:⋯}(h:a0a H q ts):∃ xs,H q=some (.tup xs)/\xs.length=ts.length/\∀(i:Nat) v,xs[i]?=some v->∃ a t,v=.ref a/\ts[i]?=some t/\H a=some (.tup [.int t.1,.int t.2]):=by
 obtain⟨ps,e,hp⟩:=h;exact⟨_,e,by rw[aa];exact hp.len,λi v hv=>hp.get hv⟩
end L2
end
section
namespace L2
open PySem
theorem a4x {l:List Int}(h:l.Pairwise (·<·)):l.Nodup:=h.imp λx e=>∅
end L2
end
section
namespace STab
open PySem PySem.SetTable
def Ris (xs:Array Nat):Prop:=∀ i j (hi:i<xs.size) (hj:j<xs.size),i<j->xs[i]<xs[j]
theorem go_spec {xs:Array Nat}{j:Nat}(hr:Ris xs):∀(fuel lo hi:Nat),lo<=hi->hi<=xs.size->hi-lo<=fuel ->
  (∀ i (h:i<xs.size),i<lo->xs[i]<j)->(∀ i (h:i<xs.size),hi<=i->j<=xs[i]) ->
  below.go xs j fuel lo hi<=xs.size/\(∀ i (h:i<xs.size),i<below.go xs j fuel lo hi->xs[i]<j)/\(∀ i (h:i<xs.size),below.go xs j fuel lo hi<=i->j<=xs[i])
 | 0,lo,hi,h1,h2,h3,h4,h5=>by
  have e:hi=lo:=∅
  subst e;unfold below.go;exact⟨h2,h4,h5⟩
 | fuel+1,lo,hi,h1,h2,h3,h4,h5=>by
  unfold below.go;by_cases hlt:lo<hi
  ·rw[if_pos hlt];have hm:(lo+hi) / 2<xs.size:=∅
   have hg:xs.getD ((lo+hi) / 2) j=xs[(lo+hi) / 2]:=by simp[Array.getD,hm]
   dsimp only;rw[hg];by_cases hc:xs[(lo+hi) / 2]<j
   ·rw[if_pos hc];refine go_spec hr fuel _ _ ∅ h2 ∅ (λi h hi'=>?_) h5;by_cases he:i=(lo+hi) / 2
    ·subst he;exact hc
    ·exact cW (hr i _ h hm ∅) hc
   ·rw[if_neg hc];refine go_spec hr fuel _ _ ∅ ∅ ∅ h4 (λi h hi'=>?_);by_cases he:i=(lo+hi) / 2
    ·subst he;omega
    ·have:=hr _ i hm h ∅;omega
  ·rw[if_neg hlt];have e:hi=lo:=∅
   subst e;exact⟨h2,h4,h5⟩
theorem below_spec {xs:Array Nat}(hr:Ris xs)(j:Nat):below xs j<=xs.size/\(∀ i (h:i<xs.size),i<below xs j->xs[i]<j)/\(∀ i (h:i<xs.size),below xs j<=i->j<=xs[i]):=by
 unfold below;exact go_spec hr _ _ _ (bn _) (ao _) ∅ (λi h hi=>absurd hi (cb _)) (λi h hi=>absurd h (Nat.not_lt.mpr hi))
theorem below_at {xs:Array Nat}(hr:Ris xs){i:Nat}(hi:i<xs.size):below xs xs[i]=i:=by
 obtain⟨h1,h2,h3⟩:=below_spec hr xs[i];rcases dD (below xs xs[i]) i with h | h | h
 ·have:=h3 (below xs xs[i]) ∅ (ao _);have:=hr _ i ∅ hi h;omega
 ·exact h
 ·have:=h2 i hi h;omega
theorem below_next {xs:Array Nat}(hr:Ris xs){i:Nat}(hi:i<xs.size):below xs (xs[i]+1)=i+1:=by
 obtain⟨h1,h2,h3⟩:=below_spec hr (xs[i]+1);rcases dD (below xs (xs[i]+1)) (i+1) with h | h | h
 ·have:=h3 i hi ∅;omega
 ·exact h
 ·have:=h2 (i+1) ∅ h;have:=hr i (i+1) hi ∅ ∅;omega
theorem below_zero {xs:Array Nat}(hr:Ris xs):below xs 0=0:=by
 obtain⟨h1,h2,h3⟩:=below_spec hr 0;rcases ja (below xs 0) with h | h
 ·exact h
 ·have:=h2 0 ∅ h;omega
theorem has_none (j:Nat):has #[] j=false:=by
 unfold has;simp
theorem slot_live {t:SetTable}{j i:Nat}(h:t.slot j=.live i):t.place[i]?=some j:=by
 unfold slot at h;dsimp only at h;split at h
 ·rename_i hc;injection h with h
  subst h;simpa using hc
 ·split at h<;>exact Slot.noConfusion h
theorem slot_dummy {t:SetTable}{j:Nat}(hd:t.dummies=#[]):t.slot j≠.dummy:=by
 intro h;unfold slot at h;dsimp only at h;rw[hd,has_none] at h;split at h
 ·exact Slot.noConfusion h
 ·simp at h
theorem slot_empty {t:SetTable}{j:Nat}(hr:Ris t.place)(h:t.slot j=.empty):j∉t.place.toList:=by
 intro hm;obtain⟨i,hi,e⟩:=dQ hm;have hi':i<t.place.size:= ~~~hi
 have e':t.place[i]=j:= ~~~e
 have hb:=below_at hr hi';rw[e'] at hb;unfold slot at h;dsimp only at h;rw[hb,aV hi',e'] at h;simp at h
theorem slot_free {t:SetTable}{j:Nat}(hd:t.dummies=#[])(h:j∉t.place.toList):t.slot j=.empty:=by
 cases hs:t.slot j with
 | empty=>rfl
 | dummy=>exact absurd hs (slot_dummy hd)
 | live i =>
  have:=slot_live hs;exact absurd (by rw[<- aW] at this;exact aU this) h
theorem ris_of {xs:Array Nat}(h:xs.toList.Pairwise (·<·)):Ris xs:=by
 intro i j hi hj hij;have:=bU.mp h i j (~~~hi) (~~~hj) hij;simpa using this
theorem of_ris {xs:Array Nat}(h:Ris xs):xs.toList.Pairwise (·<·):=by
 refine bU.mpr λi j hi hj hij=>?_
 have:=h i j (~~~hi) (~~~hj) hij;simpa using this
theorem ris_put {xs:Array Nat}{j:Nat}(hr:Ris xs)(hn:j∉xs.toList):Ris (insertAt xs (below xs j) j):=by
 obtain⟨h1,h2,h3⟩:=below_spec hr j;refine ris_of ?_;rw[toList_insertAt];have hp:=of_ris hr;have hlo:∀ x∈xs.toList.take (below xs j),x<j:=by
  intro x hx;obtain⟨i,hi,e⟩:=dQ hx;have hi2:i<below xs j/\i<xs.size:=by simp at hi;omega
  have:=h2 i hi2.2 hi2.1;simp at e;rw[<- e];exact this
 have hhi:∀ x∈xs.toList.drop (below xs j),j<x:=by
  intro x hx;have hxm:x∈xs.toList:=iL hx;obtain⟨i,hi,e⟩:=dQ hx;have hi2:below xs j+i<xs.size:=by simp at hi;omega
  have:=h3 (below xs j+i) hi2 ∅;simp at e;rw[e] at this;have:j≠x:=λe=>hn (e ▸ hxm)
  omega
 refine bz.mpr ⟨hp.sublist (cY _ _),dm.mpr ⟨hhi,hp.sublist (dy _ _)⟩,?_⟩;intro a ha b hb;rcases aO.mp hb with rfl | hb
 ·exact hlo a ha
 ·exact cW (hlo a ha) (hhi b hb)
def f5 (N i:Nat):Nat:=(i*5+1) % N
def it5 (N:Nat):Nat->Nat->Nat
 | 0,i=>i
 | n+1,i=>it5 N n (f5 N i)
theorem it5_add (N:Nat):∀(m n i:Nat),it5 N (m+n) i=it5 N n (it5 N m i)
 | 0,n,i=>by rw[cG];rfl
 | m+1,n,i=>by rw[iJ];show it5 N (m+n) (f5 N i)=it5 N n (it5 N m (f5 N i));exact it5_add N m n _
def orb (N:Nat):Nat->Nat->List Nat
 | 0,_=>[]
 | n+1,i=>i::orb N n (f5 N i)
theorem orb_mem (N:Nat):∀(n i r:Nat),r∈orb N n i->∃ k,k<n/\it5 N k i=r
 | 0,_,_,h=>by simp[orb] at h
 | n+1,i,r,h=>by
  rcases aO.mp h with rfl | h
  ·exact⟨0,ef _,rfl⟩
  ·obtain⟨k,hk,e⟩:=orb_mem N n _ r h;exact⟨k+1,Nat.succ_lt_succ hk,e⟩
structure Full (N:Nat):Prop where
 all:∀ r,r<N->r∈orb N N 0
 back:it5 N N 0=0
theorem full_of {N:Nat}(h1:(List.range N).all (λr=>(orb N N 0).contains r)=true)(h2:(it5 N N 0 == 0)=true):Full N :=
 ⟨λr hr=>by have:=br.mp h1 r (bf.mpr hr);simpa using this, ~~~h2⟩
theorem full8:Full 8:=full_of (by decide +kernel) (by decide +kernel)
theorem full32:Full 32:=full_of (by decide +kernel) (by decide +kernel)
theorem full128:Full 128:=full_of (by decide +kernel) (by decide +kernel)
theorem full512:Full 512:=full_of (by decide +kernel) (by decide +kernel)
theorem Full.hit {N:Nat}(F:Full N){i r:Nat}(hi:i<N)(hr:r<N):∃ k,k<N/\it5 N k i=r:=by
 obtain⟨m,hm,em⟩:=orb_mem N N 0 i (F.all i hi);obtain⟨n,hn,en⟩:=orb_mem N N 0 r (F.all r hr);by_cases hmn:m<=n
 ·refine⟨n-m,∅,?_⟩;have:=it5_add N m (n-m) 0;rw[em,show m+(n-m)=n by omega,en] at this;exact this.symm
 ·refine⟨N-m+n,∅,?_⟩;have h1:=it5_add N m (N-m) 0;rw[em,show m+(N-m)=N by omega,F.back] at h1;rw[it5_add,<- h1,en]
def leaps (mask:Nat):Nat->Nat×Nat->Nat×Nat
 | 0,p=>p
 | n+1,p=>leaps mask n (leap mask p.1 p.2)
theorem leaps_add (mask:Nat):∀(m n:Nat) (p:Nat×Nat),leaps mask (m+n) p=leaps mask n (leaps mask m p)
 | 0,n,p=>by rw[cG];rfl
 | m+1,n,p=>by rw[iJ];show leaps mask (m+n) _=leaps mask n (leaps mask m _);exact leaps_add mask m n _
theorem leaps_snd (mask:Nat):∀(n:Nat) (p:Nat×Nat),(leaps mask n p).2=p.2 / 32 ^ n
 | 0,p=>by simp[leaps]
 | n+1,p=>by
  show (leaps mask n (leap mask p.1 p.2)).2=_;rw[leaps_snd];show p.2 / 32 / 32 ^ n=_;rw[Nat.div_div_eq_div_mul,Nat.pow_succ,iK]
theorem leaps_fst (mask:Nat):∀(n:Nat) (p:Nat×Nat),p.1<=mask->(leaps mask n p).1<=mask
 | 0,p,h=>h
 | n+1,p,h=>leaps_fst mask n _ (eR (gw (p.1*5+1+p.2 / 32) (ef mask)))
theorem leaps_zero (mask:Nat):∀(n i:Nat),leaps mask n (i,0)=(it5 (mask+1) n i,0)
 | 0,i=>rfl
 | n+1,i=>by
  show leaps mask n (leap mask i 0)=_;have:leap mask i 0=(f5 (mask+1) i,0):=by simp[leap,f5]
  rw[this,leaps_zero];rfl
theorem leaps_hit {mask:Nat}(F:Full (mask+1)){i perturb r:Nat}(hi:i<=mask)(hp:perturb<2 ^ 64)(hr:r<=mask):∃ n,n<mask+14/\(leaps mask n (i,perturb)).1=r:=by
 have h2:(leaps mask 13 (i,perturb)).2=0:=by
  rw[leaps_snd];exact Nat.div_eq_of_lt (aS hp (by decide))
 have h1:=leaps_fst mask 13 (i,perturb) hi;have e:leaps mask 13 (i,perturb)=((leaps mask 13 (i,perturb)).1,0):=by rw[<- h2]
 obtain⟨k,hk,ek⟩:=F.hit (i:=(leaps mask 13 (i,perturb)).1) (r:=r) ∅ ∅;refine⟨13+k,∅,?_⟩;rw[leaps_add,e,leaps_zero];exact ek
def adv (t:SetTable):Nat->Probe->Probe
 | 0,p=>p
 | n+1,p=>adv t n (t.advance p)
theorem adv_add (t:SetTable):∀(m n:Nat) (p:Probe),adv t (m+n) p=adv t n (adv t m p)
 | 0,n,p=>by rw[cG];rfl
 | m+1,n,p=>by rw[iJ];show adv t (m+n) _=adv t n (adv t m _);exact adv_add t m n _
structure Good (t:SetTable)(p:Probe):Prop where
 i:p.i<=t.mask
 j:p.j+p.more<=t.mask
 more:p.more<=9
 perturb:p.perturb<2 ^ 64
 dummy:p.dummy=none
theorem runEnd_le {mask i:Nat}(h:i<=mask):i<=runEnd mask i/\runEnd mask i<=mask/\runEnd mask i-i<=9:=by
 unfold runEnd;split<;>omega
theorem Good.advance {t:SetTable}{p:Probe}(g:Good t p):Good t (t.advance p):=by
 obtain⟨h1,h2,h3,h4,h5⟩:=g;unfold SetTable.advance;split
 ·exact⟨h1,by simp only;omega,by simp only;omega,h4,h5⟩
 ·have hm:(leap t.mask p.i p.perturb).1<=t.mask:=eR (gw (p.i*5+1+p.perturb / 32) (ef t.mask));have hr:=runEnd_le hm;have hp:(leap t.mask p.i p.perturb).2<2 ^ 64:=i9 (Nat.div_le_self _ _) h4;exact⟨hm,by simp only;omega,by simp only;omega,hp,h5⟩
theorem good_start (t:SetTable)(h:Int):Good t (t.probeStart h):=by
 have hm:bits h % (t.mask+1)<=t.mask:=eR (gw (bits h) (ef t.mask));have hr:=runEnd_le hm;refine⟨hm,by simp only[probeStart];omega,by simp only[probeStart];omega,?_,rfl⟩;show bits h<2 ^ 64;unfold bits;have h1:=dX h (show (2 ^ 64:Int)≠0 by decide);have h2:=cQ h (show (0:Int)<2 ^ 64 by decide);have h3:(2 ^ 64:Int)=((2 ^ 64:Nat):Int):=by norm_cast
 omega
theorem to_leap (t:SetTable):∀(m:Nat) (p:Probe),p.more=m->∃ q,adv t (m+1) p=q/\q.j=(leap t.mask p.i p.perturb).1/\q.i=(leap t.mask p.i p.perturb).1/\q.perturb=(leap t.mask p.i p.perturb).2
 | 0,p,h=>by
  refine⟨_,rfl,?_⟩;show (t.advance p).j=_/\(t.advance p).i=_/\(t.advance p).perturb=_;unfold SetTable.advance;rw[if_neg ∅];exact⟨rfl,rfl,rfl⟩
 | m+1,p,h=>by
  have e:t.advance p={p with j:=p.j+1,more:=p.more-1}:=by unfold SetTable.advance;rw[if_pos ∅]
  show ∃ q,adv t (m+1) (t.advance p)=q/\_;rw[e];exact to_leap t m {p with j:=p.j+1,more:=p.more-1} (by simp only;omega)
theorem Good.adv {t:SetTable}:∀(n:Nat) {p:Probe},Good t p->Good t (STab.adv t n p)
 | 0,_,g=>g
 | n+1,_,g=>Good.adv n g.advance
theorem to_leaps (t:SetTable):∀(n:Nat) (p:Probe),Good t p->p.j=p.i->∃ m,m<=10*n/\(adv t m p).j=(leaps t.mask n (p.i,p.perturb)).1
 | 0,p,_,h=>⟨0,ao _,h⟩
 | n+1,p,g,_=>by
  obtain⟨q,hq,h1,h2,h3⟩:=to_leap t p.more p rfl;have gq:Good t q:=hq ▸ g.adv _;obtain⟨m,hm,e⟩:=to_leaps t n q gq (h1.trans h2.symm);refine⟨p.more+1+m,by have:=g.more;omega,?_⟩;rw[adv_add,hq,e,h2,h3];rfl
theorem start_head (t:SetTable)(h:Int):(t.probeStart h).j=(t.probeStart h).i:=rfl
theorem start_hit {t:SetTable}(F:Full (t.mask+1))(h:Int){r:Nat}(hr:r<=t.mask):∃ n,n<10*turns t.mask/\(adv t n (t.probeStart h)).j=r:=by
 have g:=good_start t h;obtain⟨n,hn,e⟩:=leaps_hit F g.i g.perturb hr;obtain⟨m,hm,e'⟩:=to_leaps t n _ g (start_head t h);refine⟨m,by unfold turns;omega,e'.trans e⟩
theorem probe_go {t:SetTable}{hashAt:Nat->Int}{h:Int}(hd:t.dummies=#[]):∀(fuel:Nat) (p:Probe) (n:Nat),Good t p->n<fuel->t.slot (adv t n p).j=.empty ->
    ∃ k,k<=n/\(∀ k',k'<k->∃ i,t.slot (adv t k' p).j=.live i/\hashAt i≠h) /\
      ((t.slot (adv t k p).j=.empty/\probe.go t hashAt h fuel p=some (.empty (adv t k p).j none)) \/
       ∃ i,t.slot (adv t k p).j=.live i/\hashAt i=h/\probe.go t hashAt h fuel p=some (.candidate (adv t k p).j i (t.advance (adv t k p))))
  | 0,p,n,_,hn,_=>absurd hn (cb _)
  | fuel+1,p,n,g,hn,he=>by
    cases hs:t.slot p.j with
    | empty =>
      refine⟨0,bn _,λk' hk=>absurd hk (cb _),.inl ⟨hs,?_⟩⟩;unfold probe.go;rw[hs];dsimp only;rw[g.dummy];rfl
    | dummy=>exact absurd hs (slot_dummy hd)
    | live i =>
      by_cases hi:hashAt i=h
      · refine⟨0,bn _,λk' hk=>absurd hk (cb _),.inr ⟨i,hs,hi,?_⟩⟩
        unfold probe.go;rw[hs];dsimp only;rw[if_pos (~~~hi)];rfl
      · cases n with
        | zero=>exact absurd (hs.symm.trans he) (by simp)
        | succ n =>
          obtain⟨k,hk,hb,hr⟩:=probe_go hd fuel (t.advance p) n g.advance ∅ he;refine⟨k+1,∅,λk' hk'=>?_,?_⟩
          · cases k' with
            | zero=>exact⟨i,hs,hi⟩
            | succ k'=>exact hb k' ∅
          · have e:probe.go t hashAt h (fuel+1) p=probe.go t hashAt h fuel (t.advance p):=by
              rw[probe.go];rw[hs];dsimp only;rw[if_neg (~~~hi)]
            rw[e];exact hr
theorem nat_sub:∀ {us l:List Nat},us.Nodup->us ⊆ l->us.length<=l.length
 | [],_,_,_=>bn _
 | x::r,l,hn,hs=>by
  have hx:x∈l:=hs (aD ..);have hn':=ce.mp hn;have:=nat_sub (us:=r) (l:=l.erase x) hn'.2 (λy hy=>(fL (λe=>by subst e;exact hn'.1 hy)).mpr (hs (aq _ hy)));rw[eN hx] at this;have:=fu hx;rw[az];omega
theorem some_free {N:Nat}{xs:List Nat}(h:xs.length<N):∃ r,r<N/\r∉xs:=by
 apply cX;intro hn;have hall:∀ r,r∈List.range N->r∈xs:=λr hr=>cX λhx=>hn ⟨r,bf.mp hr,hx⟩
 have:(List.range N).length<=xs.length:=by
  exact nat_sub List.nodup_range hall
 simp at this;omega
structure Ok (t:SetTable)(n:Nat)(led:Bool):Prop where
 ris:Ris t.place
 dum:t.dummies=#[]
 size:t.place.size=n
 inn:∀ x∈t.place.toList,x<=t.mask
 full:Full (t.mask+1)
 plain:t.plain=true
 led:t.led=led
 room:n*5<t.mask*3
 mask:t.mask=7\/t.mask=31\/t.mask=127\/t.mask=511
theorem ok_fresh (led:Bool):Ok (.fresh 0 0 led) 0 led :=
 ⟨λi j hi=>absurd hi (cb _),rfl,rfl,λx h=>by simp[SetTable.fresh] at h,full8,rfl,rfl,(by show 0*5<7*3;decide),.inl rfl⟩
theorem Ok.fill {t:SetTable}{n:Nat}{led:Bool}(o:Ok t n led):t.fill=n:=by unfold SetTable.fill;rw[o.dum,o.size];rfl
theorem Ok.fits {t:SetTable}{n:Nat}{led:Bool}(o:Ok t n led):t.fits n=true:=by
 unfold SetTable.fits;rw[o.fill,o.size];have:=o.room;simp;omega
theorem Ok.hole {t:SetTable}{n:Nat}{led:Bool}(o:Ok t n led):∃ r,r<=t.mask/\t.slot r=.empty:=by
 obtain⟨r,hr,hn⟩:=some_free (N:=t.mask+1) (xs:=t.place.toList) (by have:=o.room;have:=o.size;simp;omega);exact⟨r,∅,slot_free o.dum hn⟩
theorem Ok.probe {t:SetTable}{n:Nat}{led:Bool}(o:Ok t n led)(hashAt:Nat->Int)(h:Int) :
    ∃ k,(∀ k',k'<k->∃ i,t.slot (adv t k' (t.probeStart h)).j=.live i/\hashAt i≠h) /\
      ((t.slot (adv t k (t.probeStart h)).j=.empty/\t.probe hashAt h (t.probeStart h)=some (.empty (adv t k (t.probeStart h)).j none)) \/
       ∃ i,t.slot (adv t k (t.probeStart h)).j=.live i/\hashAt i=h/\t.probe hashAt h (t.probeStart h)=some (.candidate (adv t k (t.probeStart h)).j i (t.advance (adv t k (t.probeStart h))))):=by
  obtain⟨r,hr,he⟩:=o.hole;obtain⟨n,hn,en⟩:=start_hit o.full h hr;obtain⟨k,hk,hb,hx⟩:=probe_go (hashAt:=hashAt) (h:=h) o.dum (10*turns t.mask) (t.probeStart h) n (good_start t h) hn (en ▸ he);exact⟨k,hb,hx⟩
structure Ok1 (t:SetTable)(n:Nat)(led:Bool):Prop where
 ris:Ris t.place
 dum:t.dummies=#[]
 size:t.place.size=n
 inn:∀ x∈t.place.toList,x<=t.mask
 full:Full (t.mask+1)
 plain:t.plain=true
 led:t.led=led
 mask:t.mask=7\/t.mask=31\/t.mask=127\/t.mask=511
 le:n<=t.mask
 last:(n-1)*5<t.mask*3
theorem Ok1.fits {t:SetTable}{n:Nat}{led:Bool}(o:Ok1 t n led):t.fits n=true:=by
 unfold SetTable.fits SetTable.fill;rw[o.dum,o.size];have:=o.le;simp;omega
theorem Ok.put {t:SetTable}{n:Nat}{led:Bool}(o:Ok t n led){j:Nat}(hj:t.slot j=.empty)(hm:j<=t.mask):Ok1 (t.put j).1 (n+1) led:=by
 have hn:=slot_empty o.ris hj;have hd:(t.put j).1.dummies=#[]:=by
  show (if has t.dummies j then eraseAt t.dummies (below t.dummies j) else t.dummies)=#[];rw[o.dum,has_none];rfl
 have hr:=o.room;refine⟨ris_put o.ris hn,hd,?_,?_,o.full,o.plain,o.led,o.mask,?_,?_⟩
 ·show (insertAt t.place (below t.place j) j).size=n+1;rw[<- aI,(insertAt_perm _ _ _).length_eq];simp[o.size]
 ·intro x hx;have hx':x∈(insertAt t.place (below t.place j) j).toList:=hx;have:=(insertAt_perm t.place (below t.place j) j).mem_iff.mp hx';simp at this;rcases this with h | rfl
  ·exact o.inn x (~~~h)
  ·exact hm
 ·show n+1<=t.mask;rcases o.mask with h | h | h | h<;>omega
 ·show (n+1-1)*5<t.mask*3;simpa using hr
theorem Ok1.ok {t:SetTable}{n:Nat}{led:Bool}(o:Ok1 t n led)(h:t.tooFull=false):Ok t n led:=by
 have hf:t.fill=n:=by unfold SetTable.fill;rw[o.dum,o.size];rfl
 refine⟨o.ris,o.dum,o.size,o.inn,o.full,o.plain,o.led,?_,o.mask⟩;unfold SetTable.tooFull at h;rw[hf] at h;simpa using h
theorem layNew_ok {t:SetTable}{es:Array (Int×Value)}{led:Bool}(o:Ok t es.size led)(h:Int)(x:Value) :
  ∃ es' t',layNew t es h x=(es',t',false,false)/\Ok1 t' es'.size led/\es'.toList.Perm (es.push (h,x)).toList/\es'.size=es.size+1:=by
 obtain⟨k,_,hk⟩:=o.probe (λ_=>h+1) h;have hp:=layNew_perm t es h x;rcases hk with ⟨he,hpr⟩ | ⟨i,_,hi,_⟩
 ·have hf:t.freeSlot h=some ((adv t k (t.probeStart h)).j,false):=by
   unfold SetTable.freeSlot;rw[hpr];rfl
  have hj:(adv t k (t.probeStart h)).j<=t.mask:=by have:=((good_start t h).adv k).j;omega
  have hok:=o.put he hj;have hsz:(insertAt es (t.put (adv t k (t.probeStart h)).j).2 (h,x)).size=es.size+1:=by
   rw[<- aI,(insertAt_perm _ _ _).length_eq];simp
  have hfit:(t.put (adv t k (t.probeStart h)).j).1.fits (es.size+1)=true:=hok.fits;have hl:layNew t es h x=(insertAt es (t.put (adv t k (t.probeStart h)).j).2 (h,x),(t.put (adv t k (t.probeStart h)).j).1,false,false):=by
   unfold layNew;rw[hf];dsimp only;unfold SetTable.orStandIn;rw[hsz,hfit];rfl
  refine⟨_,_,hl,hsz.symm ▸ hok,?_,hsz⟩;rw[hl] at hp;exact hp
 ·omega
theorem free_some {mask:Nat}{owner:Array (Option Nat)}:∀(fuel i perturb n:Nat),i<=mask->n<fuel->owner.getD (leaps mask n (i,perturb)).1 (some 0)=none ->
  ∃ j,layClean.free mask owner fuel i perturb=some j/\owner.getD j (some 0)=none
 | 0,_,_,_,_,hn,_=>absurd hn (cb _)
 | fuel+1,i,perturb,n,hi,hn,he=>by
  unfold layClean.free;cases hf:(List.range (runEnd mask i+1-i)).find? (λk=>(owner.getD (i+k) (some 0)).isNone) with
  | some k =>
   have:=List.find?_some hf;exact⟨i+k,rfl, ~~~this⟩
  | none =>
   cases n with
   | zero =>
    have h1:=i7.mp hf 0 (bf.mpr (by have:=runEnd_le hi;omega));have he':owner.getD i (some 0)=none:=he;rw[Nat.add_zero,he'] at h1;exact absurd rfl h1
   | succ n =>
    exact free_some fuel _ _ n (leaps_fst mask 1 (i,perturb) hi) ∅ he
def own (N:Nat)(owner:Array (Option Nat)):List Nat:=(List.range N).filterMap λj=>owner.getD j none
theorem filterMap_len {α β:Type}{f:α->Option β}:∀ {l:List α},(∀ x∈l,(f x).isSome=true)->(l.filterMap f).length=l.length
 | [],_=>rfl
 | x::l,h=>by
  obtain⟨y,hy⟩:=cf.mp (h x (aD ..));rw[bL hy,az,az,filterMap_len λz hz=>h z (aq _ hz)]
theorem fm_congr {α β:Type}{f g:α->Option β}:∀ {l:List α},(∀ x∈l,g x=f x)->l.filterMap g=l.filterMap f
 | [],_=>rfl
 | x::l,h=>by
  have ih:=fm_congr (l:=l) λy hy=>h y (aq _ hy)
  rw[cI,cI,h x (aD ..),ih]
theorem filterMap_put {α:Type}{f g:Nat->Option α}{j:Nat}{k:α}:∀ {l:List Nat},l.Nodup->j∈l->f j=none->g j=some k->(∀ x,x≠j->g x=f x)->(l.filterMap g).Perm (k::l.filterMap f)
 | [],_,hj,_,_,_=>by simp at hj
 | x::l,hn,hj,hf,hg,he=>by
  have hn':=ce.mp hn;by_cases hx:x=j
  ·subst hx;rw[bL hg,cg hf];have:l.filterMap g=l.filterMap f:=fm_congr λy hy=>he y λe=>hn'.1 (e ▸ hy)
   rw[this]
  ·have hj':j∈l:=(aO.mp hj).resolve_left λe=>hx e.symm
   have ih:=filterMap_put hn'.2 hj' hf hg he;cases hfx:f x with
   | none=>rw[cg hfx,cg ((he x hx).trans hfx)];exact ih
   | some y =>
    rw[bL hfx,bL ((he x hx).trans hfx)];exact (ih.cons y).trans (List.Perm.swap ..)
theorem getD_free {owner:Array (Option Nat)}{j:Nat}(h:owner.getD j (some 0)=none):j<owner.size/\owner.getD j none=none:=by
 by_cases hj:j<owner.size
 ·refine⟨hj,?_⟩;simp[Array.getD,hj] at h ⊢;exact h
 ·simp[Array.getD,hj] at h
def layF (mask:Nat):Option (Array (Option Nat)×Nat)->Int->Option (Array (Option Nat)×Nat):=λacc h=>do
  let (owner,k) <- acc
  let j <- layClean.free mask owner (turns mask) (bits h % (mask+1)) (bits h)
  pure (owner.setIfInBounds j (some k),k+1)
theorem layF_fold {mask:Nat}(F:Full (mask+1)):∀(hs:List Int) (owner:Array (Option Nat)) (k:Nat),owner.size=mask+1->(own (mask+1) owner).Perm (List.range k)->k+hs.length<=mask ->
  ∃ owner',hs.foldl (layF mask) (some (owner,k))=some (owner',k+hs.length)/\owner'.size=mask+1/\(own (mask+1) owner').Perm (List.range (k+hs.length))
 | [],owner,k,h1,h2,_=>⟨owner,rfl,h1,h2⟩
 | h::hs,owner,k,h1,h2,h3=>by
  rw[az] at h3;have hole:∃ r,r<=mask/\owner.getD r (some 0)=none:=by
   apply cX;intro hn;have:(own (mask+1) owner).length=mask+1:=by
    unfold own;rw[filterMap_len,cH];intro x hx;have hx':x<owner.size:=by rw[h1];exact bf.mp hx
    have hx2:x<=mask:=by rw[h1] at hx';omega
    cases hg:owner.getD x none with
    | some y=>rfl
    | none =>
     refine absurd ⟨x,hx2,?_⟩ hn;simp[Array.getD,hx'] at hg ⊢;exact hg
   rw[h2.length_eq,cH] at this;omega
  obtain⟨r,hr,er⟩:=hole;have hb:bits h % (mask+1)<=mask:=eR (gw (bits h) (ef mask));have hp:bits h<2 ^ 64:=(good_start {mask:=mask,place:=#[],dummies:=#[],finger:=0,led:=true,moves:=0,plain:=true} h).perturb;obtain⟨n,hn,en⟩:=leaps_hit F hb hp hr;obtain⟨j,hj,ej⟩:=free_some (owner:=owner) (turns mask) _ (bits h) n hb (by unfold turns;omega) (by rw[en];exact er);obtain⟨hjs,hjn⟩:=getD_free ej;have hstep:layF mask (some (owner,k)) h=some (owner.setIfInBounds j (some k),k+1):=by
   show (do let j <- layClean.free mask owner (turns mask) (bits h % (mask+1)) (bits h);pure (owner.setIfInBounds j (some k),k+1))=_;rw[hj];rfl
  rw[dq,hstep];have hown:(own (mask+1) (owner.setIfInBounds j (some k))).Perm (List.range (k+1)):=by
   refine List.Perm.trans (filterMap_put (j:=j) (k:=k) (f:=λj=>owner.getD j none) List.nodup_range (bf.mpr (h1 ▸ hjs)) hjn ?_ ?_) ?_
   ·simp[Array.getD,hjs]
   ·intro x hx;by_cases hxs:x<owner.size
    ·simp[Array.getD,hxs,dP,fm hx]
    ·simp[Array.getD,hxs]
   ·rw[show List.range (k+1)=List.range k++[k] from List.range_succ];exact (h2.cons k).trans (d4 k _).symm
  obtain⟨o',e',s',p'⟩:=layF_fold F hs (owner.setIfInBounds j (some k)) (k+1) (~~~h1) hown ∅;refine⟨o',?_,s',?_⟩
  ·rw[e',az,show k+1+hs.length=k+(hs.length+1) by omega]
  ·rw[az,show k+(hs.length+1)=k+1+hs.length by omega];exact p'
theorem layClean_ok {mask:Nat}(F:Full (mask+1))(hs:Array Int)(h:hs.size<=mask):∃ owner,layClean mask hs=some owner/\owner.size=mask+1/\(own (mask+1) owner).Perm (List.range hs.size):=by
 have h0:(own (mask+1) (cx (mask+1) none)).Perm (List.range 0):=by
  have:own (mask+1) (cx (mask+1) none)=[]:=by
   unfold own;refine g6.mpr λx hx=>?_
   have:x<mask+1:=bf.mp hx;simp[Array.getD,this]
  rw[this];exact .nil
 obtain⟨o,e,s,p⟩:=layF_fold F hs.toList (cx (mask+1) none) 0 (by simp) h0 (~~~h);rw[cG,aI] at e p;refine⟨o,?_,s,p⟩;unfold layClean;have:hs.foldl (layF mask) (some (cx (mask+1) none,0))=some (o,hs.size):=by rw[<- iS];exact e
 show (hs.foldl (layF mask) (some (cx (mask+1) none,0))).map (·.1)=some o;rw[this];rfl
theorem filterMap_pairs {owner:Array (Option Nat)}:∀ l:List Nat,((l.filterMap λj=>(owner.getD j none).map (j,·)).map (·.2))=l.filterMap λj=>owner.getD j none
 | []=>rfl
 | x::l=>by
  cases h:owner.getD x none with
  | none=>rw[cg (by rw[h];rfl),cg (f:=λj=>owner.getD j none) h];exact filterMap_pairs l
  | some y=>rw[bL (b:=(x,y)) (by rw[h];rfl),bL (f:=λj=>owner.getD j none) h,am,filterMap_pairs l]
theorem pairs_fst {owner:Array (Option Nat)}:∀ {l:List Nat},l.Pairwise (·<·)->((l.filterMap λj=>(owner.getD j none).map (j,·)).map (·.1)).Pairwise (·<·)/\∀ x∈(l.filterMap λj=>(owner.getD j none).map (j,·)).map (·.1),x∈l
 | [],_=>⟨.nil,λx h=>h⟩
 | x::l,h=>by
  obtain⟨h1,h2⟩:=dm.mp h;obtain⟨i1,i2⟩:=pairs_fst (owner:=owner) h2;cases hg:owner.getD x none with
  | none =>
   rw[cg (by rw[hg];rfl)];exact⟨i1,λy hy=>aq _ (i2 y hy)⟩
  | some y =>
   rw[bL (b:=(x,y)) (by rw[hg];rfl),am];refine⟨dm.mpr ⟨λz hz=>h1 z (i2 z hz),i1⟩,λz hz=>?_⟩;rcases aO.mp hz with rfl | hz
   ·exact aD ..
   ·exact aq _ (i2 z hz)
theorem range_rising (n:Nat):(List.range n).Pairwise (·<·):=ip
theorem relay_ok {t:SetTable}{es:Array (Int×Value)}{n:Nat}{led:Bool}(o:Ok1 t n led)(hes:es.size=n)(hf:t.tooFull=true)(hn:n<=300) :
  ∃ es' t',relayAll t es (grown es.size)=(es',t',false)/\Ok t' n led/\es'.toList.Perm es.toList:=by
 have hfill:t.fill=n:=by unfold SetTable.fill;rw[o.dum,o.size];rfl
 have hg:∃ M,sizeAbove (grown es.size)-1=M/\Full (M+1)/\n*5<M*3/\(M=7\/M=31\/M=127\/M=511):=by
  have h1:=o.last;unfold SetTable.tooFull at hf;rw[hfill] at hf;have hf':t.mask*3<=n*5:= ~~~hf
  rw[hes];rcases o.mask with h | h | h | h
  ·have:n=5:=∅
   subst this;exact⟨31,by decide +kernel,full32,by decide,by decide⟩
  ·have:n=19:=∅
   subst this;exact⟨127,by decide +kernel,full128,by decide,by decide⟩
  ·have:n=77:=∅
   subst this;exact⟨511,by decide +kernel,full512,by decide,by decide⟩
  ·omega
 obtain⟨M,hM,hF,hroom,hmask⟩:=hg;have hp:=relayAll_perm t es (grown es.size);obtain⟨owner,ho,hs,hperm⟩:=layClean_ok hF (es.map (·.1)) (by rw[dz,hes];omega);rw[dz,hes] at hperm
 let live:=(List.range (M+1)).filterMap λj=>(owner.getD j none).map (j,·)
 have hlive2:(live.map (·.2)).Perm (List.range n):=by rw[show live.map (·.2)=own (M+1) owner from filterMap_pairs _];exact hperm
 obtain⟨hl1,hl2⟩:=pairs_fst (owner:=owner) (range_rising (M+1));have hlen:(live.map (·.1)).length=n:=by rw[aa,<- aa (f:=(·.2)) (as:=live),hlive2.length_eq,cH]
 let t':SetTable:={mask:=M,place:=(live.map (·.1)).toArray,dummies:=#[],finger:=t.finger,led:=t.led,moves:=t.movedTo M,plain:=t.plain}
 have hr:t.relaid (es.map (·.1)) (grown es.size)=some (t',(live.map (·.2)).toArray):=by
  unfold SetTable.relaid SetTable.laid;rw[hM,ho];rfl
 have hok:Ok t' n led:=⟨ris_of (show (live.map (·.1)).Pairwise (·<·) from hl1),rfl,by simpa [t'] using hlen,λx hx=>by
  have:x∈live.map (·.1):=by simpa [t'] using hx
  have:=bf.mp (hl2 x this);show x<=M;omega,hF,o.plain,o.led,hroom,hmask⟩
 have hcov:coversAll (live.map (·.2)).toArray es.size=true:=by
  unfold coversAll;rw[hes];exact List.isPerm_iff.mpr (~~~hlive2)
 have hsz:((live.map (·.2)).toArray.filterMap (es[·]?)).size=n:=by
  rw[<- aI,fi];have:=(hlive2.filterMap (λi=>es[i]?)).length_eq;rw[show (live.map (·.2)).toArray.toList=live.map (·.2) by simp,this,<- hes,filterMap_getElem?_range,aI]
 have hall:relayAll t es (grown es.size)=((live.map (·.2)).toArray.filterMap (es[·]?),t',false):=by
  unfold relayAll;rw[hr];dsimp only;rw[hcov,hsz,hok.fits];rfl
 refine⟨_,_,hall,hok,?_⟩;rw[hall] at hp;exact hp
end STab
end
section
namespace Srt
open PySem PyProof.Rows
section
variable {prog:Program}{w:World}{A:Around}{E:Value->Shared->Prop}{s:Shared}
def BagAt (h:Heap)(a:Addr)(es:Array (Int×Value))(ep:Nat)(t:SetTable)(led:Bool):Prop:=∃ o,h.get? a=some o/\o.ExactSet/\o.data=.set es ep t/\STab.Ok t es.size led
theorem BagAt.keep {h h':Heap}{a:Addr}{es:Array (Int×Value)}{ep:Nat}{t:SetTable}{led:Bool}(b:BagAt h a es ep t led)(k:∀ o,h.get? a=some o->h'.get? a=some o):BagAt h' a es ep t led:=let ⟨o,ho,q⟩:=b;⟨o,k _ ho,q⟩
theorem BagAt.typeIs {a:Addr}{es:Array (Int×Value)}{ep:Nat}{t:SetTable}{led:Bool}(b:BagAt s.heap a es ep t led):s.TypeIs (.ref a) "set":=let ⟨o,ho,hx,_⟩:=b;⟨o,ho,hx.1⟩
theorem bag_store {h:Heap}{a:Addr}{o:Obj}{es es':Array (Int×Value)}{ep:Nat}{t t':SetTable}(ho:h.get? a=some o)(hx:o.ExactSet)(hd:o.data=.set es ep t) :
  ∃ o',(h.update a (dB es' t')).get? a=some o'/\o'.ExactSet/\o'.data=.set es' (ep+1) t':=by
 have e:=putSet_of es' t' hd;refine⟨{o with data:=.set es' (ep+1) t'},?_,hx,rfl⟩;have hg:=cR (dB es' t') ho (by rw[e];rfl);rw[hg,e]
def BagI (prog:Program)(w:World)(h:Heap)(a:Addr)(ms:List Int)(led:Bool):Prop:=∃ es ep t,BagAt h a es ep t led/\ElemsOf (intKind prog w) es.toList/\(es.toList.map λe=>intKey e.2).Perm ms
theorem bagI_size {h:Heap}{a:Addr}{ms:List Int}{es:Array (Int×Value)}(hp:(es.toList.map λe=>intKey e.2).Perm ms):es.size=ms.length:=by
 have:=hp.length_eq;simpa using this
theorem is_key {x:Value}{k:Int}(h:(intKind prog w).is k x=true):intKey x=k:=by
 obtain⟨t,rfl⟩:=cU h;rfl
theorem bagI_add {a:Addr}{ms:List Int}{led:Bool}{k:Int}{tk:Nat}{Q:Bool->Shared->Prop}(B:BagI prog w s.heap a ms led)(hz:ms.length<300)
  (h:∀(h':Heap) (b:Bool),cr a s.heap h'->BagI prog w h' a (if k∈ms then ms else k::ms) led->Q b {s with heap:=h'}) :
  wpAny (model prog w) A (setAddHashed a (.int k tk) (hashInt k)) Q E s:=by
 obtain⟨es,ep,t,⟨o,ho,hx,hd,hok⟩,hel,hp⟩:=id B;have hsz:=bagI_size (h:=s.heap) (a:=a) hp;have hbd:es.size<scanBound:=by unfold scanBound;omega
 have hkey:(intKind prog w).is k (.int k tk)=true:=intKind_is _ _ _ _;unfold setAddHashed setAddHashedIn;refine bQ (af (b5 ho hd hok.fits ?_));dsimp only;rw[byScan_of (show (cC k tk).scannable=true from rfl) hbd hel,if_pos rfl];unfold setAddByScan;refine af (af (wpAny_rule (af (wpAny_setScan_of (knd:=intKind prog w) hkey ho hd hok.fits hel ?_))));cases hr:List.findIdx? (λe=>(intKind prog w).is k e.2) es.toList with
 | some j =>
  obtain⟨hj,hpj,_⟩:=List.findIdx?_eq_some_iff_getElem.mp hr;have hm:k∈ms:=hp.mem_iff.mp (aQ.mpr ⟨es.toList[j],cK hj,is_key hpj⟩);refine ap (ap ?_);have:=h s.heap false (fF a s.heap);rw[if_pos hm] at this;exact this B
 | none =>
  have hm:k∉ms:=λhk=>by
   obtain⟨e,he,hq⟩:=aQ.mp (hp.mem_iff.mpr hk);obtain⟨⟨k',hk',_⟩,_⟩:=hel e he;have e1:=is_key hk';have:=List.findIdx?_eq_none_iff.mp hr e he;rw[<- hq,e1,hk'] at this;exact Bool.noConfusion this
  rw[if_neg hm] at h;obtain⟨es1,t1,hl,ok1,hp1,hs1⟩:=STab.layNew_ok hok (hashInt k) (.int k tk);dsimp only;rw[show layNew t es (hashInt k) (.int k tk)=(es1,t1,false,false) from hl];dsimp only;refine af (ap ?_);rw[if_pos ok1.plain,hashByValue_scannable 8 (show (cC k tk).scannable=true from rfl)];refine af (ap ?_);rw[show (if plainKind (.int k tk)=true then t1 else {t1 with plain:=false})=t1 from rfl];have hel1:ElemsOf (intKind prog w) es1.toList:=(ElemsOf.push hel hkey rfl).perm (by rw[<- aY];exact hp1);have hk1:(es1.toList.map λe=>intKey e.2).Perm (k::ms):=by
   refine (hp1.map _).trans ?_;rw[aY,aF];exact (d4 k _).trans (hp.cons k)
  refine af (fv ho hd ?_ (fz (by rw[hs1];unfold scanBound;omega)));obtain⟨o1,ho1,hx1,hd1⟩:=bag_store (es':=es1) (t':=t1) ho hx hd;have hb1:=b6 s.heap a (dB es1 t1);by_cases hf:t1.tooFull=true
  ·rw[hf,if_pos (show (!false && true)=true from rfl)];obtain⟨es2,t2,h2,ok2,hp2⟩:=STab.relay_ok (es:=es1) ok1 rfl hf ∅;have hs2:es2.size=es1.size:=by rw[<- aI,hp2.length_eq,aI]
   rw[h2];dsimp only;refine af (ap (af (fv (s:={s with heap:=s.heap.update a (dB es1 t1)}) ho1 hd1 ?_ (fz (by rw[hs2,hs1];unfold scanBound;omega)))));obtain⟨o2,ho2,hx2,hd2⟩:=bag_store (es':=es2) (t':=t2) ho1 hx1 hd1;exact ap (ap (h _ true (hb1.trans (b6 _ a _)) ⟨es2,_,t2,⟨o2,ho2,hx2,hd2,hs2.symm ▸ ok2⟩,hel1.perm hp2,(hp2.map _).trans hk1⟩))
  ·rw[Bool.not_eq_true] at hf;rw[hf,if_neg (by decide)];exact ap (ap (h _ true hb1 ⟨es1,_,t1,⟨o1,ho1,hx1,hd1,ok1.ok hf⟩,hel1,hk1⟩))
theorem bag_loop {I S:Addr}{fp wr:List Addr}{n:Nat}{P:Nat->Value->Prop}{St:Nat->Heap->Prop}{R:Result->Shared->Prop}(W:Walks prog w A.in1 I fp wr n P St)(hSf:S∉fp)(Sd:Nat->Heap->Prop)
  (hkeep:∀ i h h',Sd i h->(∀ b o,b∉wr->h.get? b=some o->h'.get? b=some o)->Sd i h')
  (hadd:∀(i:Nat) (v:Value) (s:Shared) (E:Value->Shared->Prop) (Q:Bool->Shared->Prop),i<n->P i v->Sd i s.heap->(∀ h' tk b,cr S s.heap h'->Sd (i+1) h'->Q b {s with heap:=h',toks:=tk})->wpAny (model prog w) A.in1 (setAdd S v) Q E s) :
  ∀(k i:Nat) (s:Shared),n-i=k->i<=n->St i s.heap->Sd i s.heap ->
   (∀ h' tk,(∀ b o,b∉S::wr->s.heap.get? b=some o->h'.get? b=some o)->Sd n h'->R (.ok (.ret .none)) {s with heap:=h',toks:=tk}) ->
   codeAny (model prog w) A (.builtin "set.update.loop" ⟨[.ref S,.ref I],[]⟩) R s:=by
 have hSw:S∉wr:=λh=>hSf (W.sub _ h)
 intro k;induction k with
 | zero =>
  intro i s hk hi hst hS hR;obtain rfl:i=n:=∅
  refine codeAny_builtin iH ?_;rw[fG fB _];show wpAny _ A.in1 (pyNext (.ref I) >>= _) _ _ s;refine af (W.done s _ _ hst λh' tk hm=>ap (hR h' tk (λb o hb e=>hm b o (λhw=>hb (aq _ hw)) e) (hkeep _ _ _ hS hm)))
 | succ k ih =>
  intro i s hk hi hst hS hR;have hlt:i<n:=∅
  refine codeAny_builtin iH ?_;rw[fG fB _];show wpAny _ A.in1 (pyNext (.ref I) >>= _) _ _ s;refine af (W.item i s _ _ hlt hst λv h1 tk1 hP hst1 hm1=>?_);show wpAny _ A.in1 (holding [v] (setAdd S v) >>= _) _ _ _;refine af (bQ (hadd i v _ _ _ hlt hP (hkeep _ _ _ hS hm1) λh2 tk2 b hsb hS2=>?_));refine ap ⟨plainId_quiet fB _,ih (i+1) _ ∅ hlt (W.frame _ _ _ hst1 λb hb o e=>?_) hS2 λh3 tk3 hm3 hS3=>hR h3 tk3 (λb o hb e=>?_) hS3⟩
  ·show h2.get? b=some o;rw[hsb.2 b (λhb':b=S=>hSf (hb' ▸ hb))];exact e
  ·refine hm3 b o hb ?_;show h2.get? b=some o;rw[hsb.2 b (λhb':b=S=>hb (hb' ▸ aD ..))];exact hm1 b o (λhw=>hb (aq _ hw)) e
def ledOf (w:World):Bool:=!w.params.followText "set-order"
def freshSet (w:World):Obj:={cls:=.type "set",dict:=none,data:=.set #[] 0 (.fresh 0 0 (ledOf w))}
theorem bag_fresh {h:Heap}{a:Addr}(ho:h.get? a=some (freshSet w)):BagI prog w h a [] (ledOf w) :=
 ⟨#[],0,_,⟨_,ho,⟨rfl,rfl,rfl⟩,rfl,STab.ok_fresh _⟩,(λe he=>by simp at he),.nil⟩
theorem set_new (a:Value){Q₁:Value->Shared->Prop}(h:Q₁ (.ref s.heap.objs.size) {s with heap:=s.heap.push (freshSet w)}) :
  codeAny (model prog w) A (.call (.builtin "set.__new__") ⟨[.type "set",a],[]⟩) (wants Q₁ E) s:=by
 refine codeAny_of_tree ?_;show wpAny _ A.in1 (checkBuiltinCall "set.__new__" ⟨[.type "set",a],[]⟩ >>= λ_=>again (.builtin "set.__new__" ⟨[.type "set",a],[]⟩)) _ _ s;refine af (ij (PySem.F.newCall_set_1 a) (ap ⟨plainId_quiet ic _,codeAny_builtin PySem.F.entry_set_new ?_⟩));rw[fG ic _];unfold Builtin.«set.__new__» Builtin.Frozenset.newClass;have hsub:=PySem.sub_set_self;obtain⟨hp,g,d,tk,os⟩:=s;dsimp only
 wp_walk
 refine dU (ap ?_);dsimp only;simp only[newObj];exact af (wpAny_alloc (ap (ap h)))
structure SetSrc (prog:Program)(w:World)(h₀:Heap)(l:Addr)(c:String)(n:Nat)(P:Nat->Value->Prop):Prop where
 typ:∃ o,h₀.get? l=some o/\o.cls=.type c
 sub1:isSubtype (.type c) (.type "set")=pure false
 sub2:isSubtype (.type c) (.type "frozenset")=pure false
 ne:(aE c == aE "dict")=false
 iter:∀(A:Around) (s:Shared),(∀ b o,h₀.get? b=some o->s.heap.get? b=some o)->∃(oI:Obj) (St:Nat->Heap->Prop),
  (∀(E:Value->Shared->Prop) (Q:Value->Shared->Prop),Q (.ref s.heap.objs.size) {s with heap:=s.heap.push oI}->wpAny (model prog w) A (pyIter (.ref l)) Q E s) /\
  (∀ A':Around,A'.handled=none->Walks prog w A' s.heap.objs.size [s.heap.objs.size,l] [s.heap.objs.size] n P St)/\St 0 (s.heap.push oI)
end
end Srt
end
section
namespace Srt
open PySem PyProof.Rows
section
variable {prog:Program}{w:World}{A:Around}{E:Value->Shared->Prop}{s:Shared}
set_option maxHeartbeats 3200000 in
theorem call_bag {l:Addr}{c:String}{n:Nat}{P:Nat->Value->Prop}{Q:Value->Shared->Prop}(hh:A.handled=none)(src:SetSrc prog w s.heap l c n P)(Sd:Nat->Heap->Prop)
  (hkeep:∀ i h h',Sd i h->(∀ b o,b<=s.heap.objs.size->h.get? b=some o->h'.get? b=some o)->Sd i h')
  (hadd:∀(i:Nat) (v:Value) (s':Shared) (E:Value->Shared->Prop) (Q:Bool->Shared->Prop),i<n->P i v->Sd i s'.heap->(∀ h' tk b,cr s.heap.objs.size s'.heap h'->Sd (i+1) h'->Q b {s' with heap:=h',toks:=tk})->wpAny (model prog w) A.in1.in1.in1 (setAdd s.heap.objs.size v) Q E s')
  (h0:∀ h',h'.get? s.heap.objs.size=some (freshSet w)->(∀ b o,s.heap.get? b=some o->h'.get? b=some o)->Sd 0 h')
  (h:∀(h':Heap) (tk:Nat),(∀ b o,s.heap.get? b=some o->h'.get? b=some o)->Sd n h'->Q (.ref s.heap.objs.size) {s with heap:=h',toks:=tk}) :
  wpAny (model prog w) A (call (.type "set") [.ref l]) Q E s:=by
 obtain⟨c0,tl,hmro⟩:=PySem.F.called_set.mro;have hmade:=PySem.F.called_set.made;have hsub:=PySem.F.called_set.sub;refine jr (codeAny_of_tree ?_);show wpAny _ _ (callAny (.type "set") _) _ _ _;refine ap ⟨iZ _ (by decide +kernel),codeAny_builtin F.entry_type_call ?_⟩;rw[Around.under_plain (weight_type_call_type "set" [.ref l] []) rfl];have h1:=PySem.F.called_set.notType;have h2:=PySem.F.called_set.canCreate;have hct:=PySem.F.typeCall_set_1 (.ref l);repeat (any_goals (first | assumption | wp_step))
 obtain⟨led,hled⟩:∃ led,led=ledOf w:=⟨_,rfl⟩
 refine codeAny_mono (set_new (.ref l) (E:=E) (Q₁:=λobj sj=>obj=.ref s.heap.objs.size/\sj={s with heap:=s.heap.push {cls:=.type "set",dict:=none,data:=.set #[] 0 (.fresh 0 0 led)}}) ⟨rfl,by rw[hled];rfl⟩) λr sj hr=>?_
 cases r with
 | error e=>exact hr
 | ok fl =>
  cases fl with
  | ret obj =>
   obtain⟨rfl,rfl⟩:=hr;have hS:(s.heap.push ({cls:=.type "set",dict:=none,data:=.set #[] 0 (.fresh 0 0 led)})).get? s.heap.objs.size=some ({cls:=.type "set",dict:=none,data:=.set #[] 0 (.fresh 0 0 led)}):=aX _ rfl;have hT:Shared.TypeIs {s with heap:=s.heap.push ({cls:=.type "set",dict:=none,data:=.set #[] 0 (.fresh 0 0 led)})} (.ref s.heap.objs.size) "set":=⟨_,hS,rfl⟩
   have hli:=PySem.F.called_set.init.lookup;have hbi:=PySem.F.called_set.init.bind (.ref s.heap.objs.size);repeat (any_goals (first | assumption | wp_step))
   refine codeAny_mono (codeAny_call_builtin (R:=wants (λr sk=>r=.none/\∃ h' tk,sk={s with heap:=h',toks:=tk}/\Sd n h'/\(∀ b o,s.heap.get? b=some o->h'.get? b=some o)) E) PySem.F.called_set.init.plain PySem.F.entry_set_init (check_set_init_1 hT ?_)) λrz sk hrz=>?_
   ·obtain⟨ol,hol,hcl⟩:=src.typ;have hlS:l<s.heap.objs.size:=ax hol;obtain⟨ocls,odict,odata,oslots⟩:=ol;simp only at hcl;subst hcl;have hol':(s.heap.push ({cls:=.type "set",dict:=none,data:=.set #[] 0 (.fresh 0 0 led)})).get? l=some {cls:=.type c,dict:=odict,data:=odata,slots:=oslots}:=aj _ hol;have hsls:=src.sub1;have hslf:=src.sub2;have hne:=src.ne;obtain⟨oI,St,hit,W,st⟩:=src.iter A.in1.in1 {s with heap:=s.heap.push ({cls:=.type "set",dict:=none,data:=.set #[] 0 (.fresh 0 0 led)})} λb o e=>aj _ e
    unfold Builtin.«set.__init__» noKeywords Builtin.Frozenset.updateFrom;generalize hPI:pyIter=PI
    wp_walk
    subst hPI;refine hit _ _ (af (wpAny_runValue ?_));have hsp:(s.heap.push {cls:=.type "set",dict:=none,data:=.set #[] 0 (.fresh 0 0 led)}).objs.size=s.heap.objs.size+1:=dC ..;refine bag_loop (W _ (by simp[hh])) (S:=s.heap.objs.size) ?_ Sd (λi h1 h2 hs hk=>hkeep i h1 h2 hs λb o hb e=>hk b o ?_ e) hadd (n-0) 0 _ ∅ (bn _) st (h0 _ ?_ ?_) λh' tk hm hS'=>?_
    ·show s.heap.objs.size∉[(s.heap.push {cls:=.type "set",dict:=none,data:=.set #[] 0 (.fresh 0 0 led)}).objs.size,l];rw[hsp];simp only[aO,dF,or_false,not_or];exact⟨aN (Nat.lt_succ_self _),gB hlS⟩
    ·show b∉[(s.heap.push {cls:=.type "set",dict:=none,data:=.set #[] 0 (.fresh 0 0 led)}).objs.size];rw[hsp,au];omega
    ·rw[show freshSet w={cls:=.type "set",dict:=none,data:=.set #[] 0 (.fresh 0 0 led)} from by rw[hled];rfl];exact aj _ hS
    ·exact λb o e=>aj _ (aj _ e)
    ·show wpAny _ _ _ _ _ _;refine ap ?_;show wpAny _ _ (ret cJ) _ _ _;refine ap ⟨rfl,h',tk,rfl,hS',λb o e=>hm b o ?_ (aj _ (aj _ e))⟩;have hb:b<s.heap.objs.size:=ax e;show b∉[s.heap.objs.size,(s.heap.push {cls:=.type "set",dict:=none,data:=.set #[] 0 (.fresh 0 0 led)}).objs.size];rw[hsp];simp only[aO,dF,or_false,not_or];exact⟨aN hb,aN (gz hb)⟩
   ·cases rz with
    | error e=>exact hrz
    | ok flz =>
     cases flz with
     | ret r =>
      obtain⟨rfl,h',tk,rfl,hS',hk'⟩:=hrz;repeat (any_goals (first | assumption | wp_step))
      exact h _ _ hk' hS'
     | _=>exact hrz.elim
  | _=>exact hr.elim
end
end Srt
end
section
namespace Srt
open PySem PyProof.Rows
theorem ow_si:Manifest.owners.lookup (String.ofList ['r','o','t','a','r','e','t','i','_','t','e','s'].reverse)=some Manifest.sig_set_iterator:=by kernel_rfl
theorem sl_si_next:Slot "set_iterator" "__next__" "set_iterator.__next__":=.of (owner:="set_iterator") (n:="__next__") (by rw[typeLookup_type,builtinLookup_eq_fast];kernel_rfl) (by decide +kernel) (by decide +kernel) (by decide +kernel) (by first | exact .inl (by decide +kernel) | exact .inr (by decide +kernel)) (by rw[isSubtype_type];kernel_rfl)
theorem sl_si_iter:Slot "set_iterator" "__iter__" "set_iterator.__iter__":=.of (owner:="set_iterator") (n:="__iter__") (by rw[typeLookup_type,builtinLookup_eq_fast];kernel_rfl) (by decide +kernel) (by decide +kernel) (by decide +kernel) (by first | exact .inl (by decide +kernel) | exact .inr (by decide +kernel)) (by rw[isSubtype_type];kernel_rfl)
theorem en_si_next:entryFor table "set_iterator.__next__"=some Builtin.«set_iterator.__next__»:=entryFor_of_tree (by kernel_rfl)
theorem ar_si_next (a:Value):argsOk "set_iterator.__next__" ⟨[a],[]⟩:=by unfold argsOk;rw[signature?_of (id:="set_iterator.__next__") (n:=['_','_','t','x','e','n','_','_']) (o:=['r','o','t','a','r','e','t','i','_','t','e','s']) (by kernel_rfl) ow_si];kernel_rfl
theorem ar_si_iter (a:Value):argsOk "set_iterator.__iter__" ⟨[a],[]⟩:=by unfold argsOk;rw[signature?_of (id:="set_iterator.__iter__") (n:=['_','_','r','e','t','i','_','_']) (o:=['r','o','t','a','r','e','t','i','_','t','e','s']) (by kernel_rfl) ow_si];kernel_rfl
theorem en_set_iter:entryFor table "set.__iter__"=some Builtin.«frozenset.__iter__»:=entryFor_alias (id':="frozenset.__iter__") (by kernel_rfl) rfl (by decide +kernel) (by kernel_rfl)
end Srt
namespace Srt
open PySem PyProof.Rows
theorem en_si_iter:entryFor table "set_iterator.__iter__"=some Builtin.«dict_keyiterator.__iter__»:=entryFor_alias (id':="dict_keyiterator.__iter__") (by kernel_rfl) rfl (by decide +kernel) (by kernel_rfl)
theorem erase_perm {α:Type}:∀ {l:List α} {i:Nat} (h:i<l.length),(l[i]::l.eraseIdx i).Perm l
 | [],i,h=>absurd h (cb _)
 | x::l,0,_=>.rfl
 | x::l,i+1,h=>(List.Perm.swap ..).trans ((erase_perm (l:=l) (i:=i) (Nat.lt_of_succ_lt_succ h)).cons x)
theorem pick_go {α:Type}{next:Nat->Nat}:∀(fuel k:Nat) (left:List α) (out:Array α),left.length<=fuel->(pickOrder.go next fuel k left out).toList.Perm (out.toList++left)
 | 0,k,left,out,h=>by
  obtain rfl:left=[]:=List.eq_nil_of_length_eq_zero ∅;simp[pickOrder.go]
 | fuel+1,k,left,out,h=>by
  unfold pickOrder.go;cases left with
  | nil=>simp
  | cons y r =>
   have hlt:next k % (y::r).length<(y::r).length:=gw _ (by simp)
   rw[ak hlt];dsimp only;refine (pick_go fuel (k+1) _ _ (by rw[List.length_eraseIdx_of_lt hlt];omega)).trans ?_;rw[aY,bd];exact (erase_perm hlt).append_left _
theorem pick_perm {α:Type}(next:Nat->Nat)(xs:Array α):(pickOrder next xs).toList.Perm xs.toList:=by
 have:=pick_go (next:=next) xs.size 0 xs.toList #[] (by simp);simpa [pickOrder] using this
def ordOf (w:World)(a:Addr)(ep:Nat)(es:Array (Int×Value)):Array (Int×Value):=if w.params.followText "set-order" then pickOrder (w.params.setOrder a ep) es else es
theorem ord_perm (w:World)(a:Addr)(ep:Nat)(es:Array (Int×Value)):(ordOf w a ep es).toList.Perm es.toList:=by
 unfold ordOf;split
 ·exact pick_perm _ _
 ·exact .rfl
theorem ord_size (w:World)(a:Addr)(ep:Nat)(es:Array (Int×Value)):(ordOf w a ep es).size=es.size:=by rw[<- aI,(ord_perm w a ep es).length_eq,aI]
def slotAt (w:World)(t:SetTable):Nat->Nat
 | 0=>0
 | i+1=>if w.params.followText "set-order" then 0 else t.place.getD i 0+1
def IsSI (h:Heap)(it a:Addr)(slot i n ep:Nat):Prop:=∃ o,h.get? it=some o/\o.cls=.type "set_iterator"/\o.data=.fields #[.int slot 0,.int i 0,.ref a,.int n 0,.int ep 0]
theorem IsSI.keep {h h':Heap}{it a:Addr}{slot i n ep:Nat}(x:IsSI h it a slot i n ep)(k:∀ o,h.get? it=some o->h'.get? it=some o):IsSI h' it a slot i n ep:=let ⟨o,ho,q⟩:=x;⟨o,k _ ho,q⟩
section
variable {prog:Program}{w:World}{A:Around}{E:Value->Shared->Prop}{s:Shared}
theorem IsSI.typeIs {it a:Addr}{slot i n ep:Nat}(x:IsSI s.heap it a slot i n ep):s.TypeIs (.ref it) "set_iterator":=let ⟨o,ho,hc,_⟩:=x;⟨o,ho,hc⟩
theorem walk_text {a:Addr}{es:Array (Int×Value)}{ep:Nat}{t:SetTable}{led:Bool}{Q:Array (Int×Value)->Shared->Prop}(b:BagAt s.heap a es ep t led)(hft:w.params.followText "set-order"=true)
  (h:Q (ordOf w a ep es) s):wpAny (model prog w) A (setWalk a) Q E s:=by
 obtain⟨o,ho,hx,hd,hok⟩:=b;unfold setWalk setsByText;refine af (b5 ho hd hok.fits ?_);dsimp only;refine af (af (dU (ap ?_)));show wpAny _ _ (if w.params.followText "set-order"=true then _ else _) _ _ s;rw[hft,if_pos rfl];refine af (dU (ap ?_));unfold ordOf at h;rw[hft,if_pos rfl] at h;exact h
theorem next_of {a:Addr}{es:Array (Int×Value)}{ep:Nat}{t:SetTable}{i:Nat}{Q:Option (Value×Nat)->Shared->Prop}(b:BagAt s.heap a es ep t (ledOf w))
  (hQ:Q (((ordOf w a ep es)[i]?).map λe=>(e.2,slotAt w t (i+1))) s) (hi:i<=es.size):wpAny (model prog w) A (setNext a (slotAt w t i) i ep) Q E s:=by
 obtain⟨o,ho,hx,hd,hok⟩:=id b;unfold setNext setsByText;refine af (b5 ho hd hok.fits ?_);dsimp only;refine af (af (dU (ap ?_)));show wpAny _ _ (if w.params.followText "set-order"=true then _ else _) _ _ s;cases hft:w.params.followText "set-order" with
 | true =>
  rw[if_pos rfl,if_neg (by simp)];refine af (walk_text b hft (ap ?_));have:slotAt w t i=slotAt w t (i+1):=by
   cases i with
   | zero=>simp[slotAt,hft]
   | succ i=>simp[slotAt,hft]
  rw[this];exact hQ
 | false =>
  rw[if_neg (by decide)];refine dA (λhab=>?_) (λ_=>?_)
  ·have hab':(!t.plain && decide (es.size>1))=true:=hab;rw[hok.plain] at hab';exact Bool.noConfusion hab'
  refine af (ij (a:=()) ?_ ?_)
  ·show (if (!t.led && !es.isEmpty)=true then _ else _)=_;have hl:t.led=true:=by rw[hok.led];unfold ledOf;rw[hft];rfl
   rw[hl,if_neg (by simp)]
  ·have hbl:SetTable.below t.place (slotAt w t i)=i:=by
    cases i with
    | zero=>exact STab.below_zero hok.ris
    | succ i =>
     have hlt:i<t.place.size:=by rw[hok.size];omega
     have:slotAt w t (i+1)=t.place[i]+1:=by simp[slotAt,hft,Array.getD,hlt]
     rw[this];exact STab.below_next hok.ris hlt
   refine ap ?_;rw[hbl];have ho:ordOf w a ep es=es:=by unfold ordOf;rw[hft];rfl
   rw[ho] at hQ;rcases bI i es.size with h | h
   ·have hlt:i<t.place.size:=by rw[hok.size];exact h
    rw[aV h,aV hlt];rw[aV h] at hQ;have:slotAt w t (i+1)=t.place[i]+1:=by simp[slotAt,hft,Array.getD,hlt]
    rw[this] at hQ;exact hQ
   ·rw[bG h];rw[bG h] at hQ;exact hQ
end
end Srt
end
section
namespace Srt
open PySem PyProof.Rows PySem.W
section
variable {prog:Program}{w:World}{A:Around}{E:Value->Shared->Prop}{s:Shared}
theorem si_item {it a:Addr}{es:Array (Int×Value)}{ep:Nat}{t:SetTable}{i:Nat}{Q:Option Value->Shared->Prop}(hit:IsSI s.heap it a (slotAt w t i) i es.size ep)(b:BagAt s.heap a es ep t (ledOf w))(hi:i<es.size)
  (hQ:∀ h' e,(ordOf w a ep es)[i]?=some e->IsSI h' it a (slotAt w t (i+1)) (i+1) es.size ep->cr it s.heap h'->Q (some e.2) {s with heap:=h'}):wpAny (model prog w) A (pyNext (.ref it)) Q E s:=by
 obtain⟨o,ho,hc,hd⟩:=id hit;obtain⟨oa,hoa,hxa,hda,hok⟩:=id b;have hz:i<(ordOf w a ep es).size:=by rw[ord_size];exact hi
 unfold pyNext
 refine af (iV (iU (name:=Str.ofString "__next__") hit.typeIs sl_si_next
  (dS sl_si_next hit.typeIs en_si_next ?_ (ar_si_next _))))
 unfold Builtin.«set_iterator.__next__»;refine af (m:=slotArgs "__next__" 0 _) (ap (af (wpAny_fieldsOf ho hd ?_)));dsimp only;refine af (gs hoa hda hok.fits ?_);rw[if_neg (by simp)];simp only[eS];refine af (next_of b ?_ (bT hi));rw[aV hz];dsimp only[Option.map];refine af (iB ho hd (by simp) ?_);have ho1:=cR (Obj.mapFields (·.setIfInBounds 0 (rawInt ((slotAt w t (i+1):Nat):Int)))) ho (iF (ee hd _));have hd1:=ee hd (·.setIfInBounds 0 (rawInt ((slotAt w t (i+1):Nat):Int)));refine af (iB (s:={s with heap:=s.heap.update it (Obj.mapFields (·.setIfInBounds 0 (rawInt ((slotAt w t (i+1):Nat):Int))))}) ho1 hd1 (by simp) ?_);refine ap ⟨_,rfl,ap (hQ _ _ (aV hz) ⟨_,cR _ ho1 (iF (ee hd1 _)),?_,?_⟩ ((b6 ..).trans (b6 ..)))⟩
 ·exact (jh ..).trans ((jh ..).trans hc)
 ·rw[ee hd1];simp[rawInt]
theorem si_end {it a:Addr}{es:Array (Int×Value)}{ep:Nat}{t:SetTable}{Q:Option Value->Shared->Prop}(hh:A.handled=none)(hit:IsSI s.heap it a (slotAt w t es.size) es.size es.size ep)(b:BagAt s.heap a es ep t (ledOf w))
  (hQ:∀ h',Heap.ExtBut it s.heap h'->Q none {s with heap:=h'}):wpAny (model prog w) A (pyNext (.ref it)) Q E s:=by
 obtain⟨o,ho,hc,hd⟩:=id hit;obtain⟨oa,hoa,hxa,hda,hok⟩:=id b;unfold pyNext
 refine af (iV (iU (name:=Str.ofString "__next__") hit.typeIs sl_si_next
  (dS sl_si_next hit.typeIs en_si_next ?_ (ar_si_next _))))
 unfold Builtin.«set_iterator.__next__»;refine af (m:=slotArgs "__next__" 0 _) (ap (af (wpAny_fieldsOf ho hd ?_)));dsimp only;refine af (gs hoa hda hok.fits ?_);rw[if_neg (by simp)];simp only[eS];refine af (next_of b ?_ (ao _));rw[bG (fJ (ord_size ..))];dsimp only[Option.map];refine af (iB ho hd (by simp) ?_);show wpAny _ _ (newExc (.type "StopIteration") [] >>= _) _ _ _;refine af ?_;simp only[newExc,newTuple];refine af (dH ?_ (by size_fits));refine af (m:=firstArgMember _ _) (ij (a:=cJ) (by first | rfl | (simp only[firstArgMember];rfl)) ?_);refine dH ?_ (by size_fits);simp only[raiseNew];refine af (wpAny_handled ?_);rw[show A.in1.handled=none from hh];refine af (ap (wpAny_throw ?_));refine af (g8 (T:="StopIteration") (b:=true) ⟨_,aX _ rfl,rfl⟩ isSubtype_stop ?_);exact ap (hQ _ (((b6 ..).extBut.push _).push _))
theorem si_self {it a:Addr}{slot i n ep:Nat}{Q:Value->Shared->Prop}(hit:IsSI s.heap it a slot i n ep)(h:Q (.ref it) s):wpAny (model prog w) A (pyIter (.ref it)) Q E s:=by
 refine jo hit.typeIs sl_si_iter (dS sl_si_iter hit.typeIs en_si_iter ?_ (ar_si_iter _));show wpAny _ _ (ret (.ref it)) _ _ s;exact ap ⟨_,rfl, "set_iterator",_,hit.typeIs,sl_si_next.lookup,h⟩
theorem si_make {a:Addr}{es:Array (Int×Value)}{ep:Nat}{t:SetTable}{Q:Value->Shared->Prop}(b:BagAt s.heap a es ep t (ledOf w))
  (hQ:Q (.ref s.heap.objs.size) {s with heap:=s.heap.push {cls:=.type "set_iterator",data:=.fields #[.int 0 0,.int 0 0,.ref a,.int es.size 0,.int ep 0]}}):wpAny (model prog w) A (pyIter (.ref a)) Q E s:=by
 obtain⟨o,ho,hx,hd,hok⟩:=id b;refine jo b.typeIs ia (dS ia b.typeIs en_set_iter ?_ (PySem.F.args_set_iter_1 _));unfold Builtin.«frozenset.__iter__» Builtin.Frozenset.slot0 Builtin.Frozenset.addrOf Builtin.Frozenset.sizeOf;refine af (af (m:=slotArgs "__iter__" 0 _) (ap (ap ?_)));refine af (af (gs ho hd hok.fits (ap ?_)));unfold setDrawn setsByText;refine af (af (b5 ho hd hok.fits (af (af (dU (ap (ap ?_)))))));refine dA (λhab=>?_) (λ_=>?_)
 ·have hab':(!w.params.followText "set-order" && (!t.plain && decide (es.size>1)))=true:=hab;rw[hok.plain] at hab';simp at hab'
 refine af (ap (af (wpAny_setEpoch_of ho hd hok.fits ?_)));refine af (dH (ap ⟨_,rfl, "set_iterator",_,⟨_,aX _ rfl,rfl⟩,sl_si_next.lookup,?_⟩));simpa [rawInt] using hQ
theorem si_walks (hh:A.handled=none)(I a:Addr)(hne:a≠I)(es:Array (Int×Value))(ep:Nat)(t:SetTable) :
  Walks prog w A I [I,a] [I] es.size (λi v=>∃ e,(ordOf w a ep es)[i]?=some e/\e.2=v) (λi h=>IsSI h I a (slotAt w t i) i es.size ep/\BagAt h a es ep t (ledOf w)) where
 sub:=λb hb=>by simp at hb;simp[hb]
 frame:=λ_ _ _ st hk=>⟨st.1.keep λo e=>hk I (by simp) o e,st.2.keep λo e=>hk a (by simp) o e⟩
 item:=λi s Q E hi st hQ=>si_item st.1 st.2 hi λh' e he hit' hs' =>
  hQ e.2 h' s.toks ⟨e,he,rfl⟩ ⟨hit',st.2.keep λo q=>hs'.extBut a o hne q⟩ λb o hb q=>hs'.extBut b o (λh=>hb (by simp[h])) q
 done:=λs Q E st hQ=>si_end hh st.1 st.2 λh' he'=>hQ h' s.toks λb o hb e=>he' b o (λh=>hb (by simp[h])) e
 self:=λ_ _ _ _ st hQ=>si_self st.1 hQ
theorem hint_set {r:Addr}{Q:Bool->Shared->Prop}(hT:s.TypeIs (.ref r) "set")(h:Q false s):wpAny (model prog w) A (Builtin.List.listLengthHint (.ref r)) Q E s:=by
 unfold Builtin.List.listLengthHint;refine af (fW hT PySem.F.slot_set_len.lookup ?_);generalize hid:("set.__len__":String)=id0
 wp_delta
 rw[show splitId id0=some ("set", "__len__") from by subst hid;decide +kernel];subst hid;refine af (g8 (T:="set") (b:=true) hT (by rw[isSubtype_type];kernel_rfl) ?_);refine dA (λhab=>absurd hab (by decide)) (λ_=>?_);refine dA (λ_=>?_) (λhab=>absurd (by decide +kernel) hab);exact af (jd hT (ap h))
theorem bag_src {a:Addr}{es:Array (Int×Value)}{ep:Nat}{t:SetTable}:KdlSrc prog w "set" a a es.size (λi v=>∃ e,(ordOf w a ep es)[i]?=some e/\e.2=v) (λh=>BagAt h a es ep t (ledOf w)) where
 type:=λ_ hm=>hm.typeIs
 there:=λ_ hm=>let ⟨_,ho,_⟩:=hm;⟨ax ho,ax ho⟩
 keep:=λ_ _ hm hk=>hm.keep λo e=>hk a (.inl rfl) o e
 notList:=by decide
 notTuple:=by decide
 hint:=λ_ _ _ _ hm hq=>hint_set hm.typeIs hq
 iter:=λ_ _ hh hm=>⟨_,_,(λ_ _ hq=>si_make hm hq),si_walks hh _ a (let ⟨_,ho,_⟩:=hm;aN (ax ho)) es ep t,⟨⟨_,aX _ rfl,rfl,rfl⟩,hm.keep λ_ e=>aj _ e⟩⟩
theorem coll_bag {a:Addr}{es:Array (Int×Value)}{ep:Nat}{t:SetTable}(hh:A.handled=none)(b:BagAt s.heap a es ep t (ledOf w))(hz:es.size<=sizeLine):Coll prog w A a s λus=>us.Perm (es.toList.map (·.2)):=by
 intro E R h;refine kdu_collect (bag_src (ep:=ep) (t:=t)) hh b hz λh' tk acc hk hI=>h h' tk acc.toList hk ?_
 have:acc.toList=(ordOf w a ep es).toList.map (·.2):=by
  apply gm;intro i;rw[aW,aJ,aW];rcases bI i es.size with hi | hi
  ·have hi':i<acc.size:=by rw[hI.1];exact hi
   obtain⟨e,he,hk⟩:=hI.2 i acc[i] (aV hi');rw[aV hi',he];exact congrArg some hk.symm
  ·rw[bG (by rw[hI.1];exact hi),bG (by rw[ord_size];exact hi)];rfl
 rw[this];exact (ord_perm w a ep es).map _
end
end Srt
end
section
namespace Srt
open PySem PyProof.Rows PySem.W
theorem sub_tup_set:isSubtype (.type "tuple") (.type "set")=pure false:=by rw[isSubtype_type];kernel_rfl
theorem sub_tup_fro:isSubtype (.type "tuple") (.type "frozenset")=pure false:=by rw[isSubtype_type];kernel_rfl
section
variable {prog:Program}{w:World}{A:Around}{E:Value->Shared->Prop}{s:Shared}
theorem src_list {h:Heap}{l:Addr}{items:Array Value}(hl:h.IsList l items):SetSrc prog w h l "list" items.size (λi v=>items[i]?=some v) where
 typ:=let ⟨o,ho,hc,_⟩:=hl;⟨o,ho,hc⟩
 sub1:=PySem.F.sub_list_set
 sub2:=PySem.F.sub_list_frozenset
 ne:=by decide
 iter:=λA s hk=>by
  have hl':s.heap.IsList l items:=hl.at λo e=>hk l o e
  refine⟨_,_,λE Q hq=>jp hl' hq,λA' hh=>Walks.list hh _ l ?_ items,⟨⟨_,aX _ rfl,rfl,rfl⟩,hl'.push _⟩⟩;obtain⟨o,ho,_⟩:=hl';exact aN (ax ho)
theorem src_tup {h:Heap}{l:Addr}{items:Array Value}(hl:h.IsTuple l items):SetSrc prog w h l "tuple" items.size (λi v=>items[i]?=some v) where
 typ:=let ⟨o,ho,hc,_⟩:=hl;⟨o,ho,hc⟩
 sub1:=sub_tup_set
 sub2:=sub_tup_fro
 ne:=by decide
 iter:=λA s hk=>by
  have hl':s.heap.IsTuple l items:=hl.at λo e=>hk l o e
  refine⟨_,_,λE Q hq=>jl hl' hq,λA' hh=>Walks.tuple hh _ l ?_ items,⟨⟨_,aX _ rfl,rfl,rfl⟩,hl'.at λo e=>aj _ e⟩⟩;obtain⟨o,ho,_⟩:=hl';exact aN (ax ho)
theorem BagI.keep {h h':Heap}{a:Addr}{ms:List Int}{led:Bool}(b:BagI prog w h a ms led)(k:∀ o,h.get? a=some o->h'.get? a=some o):BagI prog w h' a ms led :=
 let ⟨es,ep,t,b,q⟩:=b;⟨es,ep,t,b.keep k,q⟩
theorem call_bagI {l:Addr}{c:String}{vs:List Value}{ns:List Int}{Q:Value->Shared->Prop}(hh:A.handled=none)(src:SetSrc prog w s.heap l c vs.toArray.size (λi v=>vs.toArray[i]?=some v))(hi:IntsAre vs ns)(hz:ns.length<300)
  (h:∀(h':Heap) (tk:Nat) (ms:List Int),(∀ b o,s.heap.get? b=some o->h'.get? b=some o)->BagI prog w h' s.heap.objs.size ms (ledOf w)->ms.Nodup->(∀ x,x∈ms↔x∈ns)->ms.length<=ns.length->Q (.ref s.heap.objs.size) {s with heap:=h',toks:=tk}) :
  wpAny (model prog w) A (call (.type "set") [.ref l]) Q E s:=by
 have hlen:vs.length=ns.length:=IntsAre.length hi;refine call_bag hh src (λi h=>∃ ms,BagI prog w h s.heap.objs.size ms (ledOf w)/\ms.Nodup/\(∀ x,x∈ms↔x∈ns.take i)/\ms.length<=i) ?_ ?_ ?_ ?_
 ·rintro i h1 h2 ⟨ms,b,q⟩ hk;exact⟨ms,b.keep λo e=>hk _ o (ao _) e,q⟩
 ·rintro i v s' E' Q' hin hv ⟨ms,b,hnd,hm,hle⟩ hQ;have hin':i<ns.length:=by rw[<- hlen];simpa using hin
  obtain⟨t,rfl⟩:=IntsAre.int_at hi i v (~~~hv);have eg:ns.getD i 0=ns[i]:=by simp[List.getD,hin']
  rw[eg];unfold setAdd;refine bQ (af ((intKind prog w).pyHash (k:=ns[i]) (intKind_is _ _ _ _) ?_));refine bagI_add (s:={s' with toks:=s'.toks+1}) b ∅ λh' bb hsb hB=>hQ h' _ bb hsb ⟨_,hB,?_,?_,?_⟩
  ·split
   ·exact hnd
   ·rename_i hn;exact ce.mpr ⟨hn,hnd⟩
  ·intro x;rw[gg hin',aA,au,<- hm x];split
   ·rename_i hk;exact⟨.inl,λo=>o.elim id λe=>e ▸ hk⟩
   ·rw[aO];exact Or.comm
  ·split
   ·omega
   ·rw[az];omega
 ·intro h' hf hk;exact⟨[],bag_fresh hf,g5,(λx=>by simp),ao _⟩
 ·rintro h' tk hk ⟨ms,b,hnd,hm,hle⟩;have e:vs.toArray.size=ns.length:= ~~~hlen
  rw[e] at hm hle;rw[ci] at hm;exact h h' tk ms hk b hnd hm hle
end
end Srt
namespace L2
open PySem PySem.Spec PyProof.Rows PySem.W
def SqI (K:ae)(H:Hp)(p:Addr)(ns:List Int):Prop:=SqL K H p (ns.map V.int)\/SqT K H p (ns.map V.int)
section
variable {X:Cx}{pins:List (Addr×Obj)}{σ:St}{H:Hp}{s:Shared}{x y:Str}{e:Expr}{p p' pos pos':Pos}{t:TA}
theorem a6q (I:Inv X pins σ H s)(hh:X.A.handled=none){l:Addr}{ns:List Int}{E:Value->Shared->Prop}{Q:Value->Shared->Prop}(hs:SqI X.K H l ns)(hz:ns.length<300)
  (h:∀(h':Heap) (tk:Nat) (ms:List Int) (a:Addr),(∀ b o,s.heap.get? b=some o->h'.get? b=some o)->Srt.BagI X.prog X.w h' a ms (Srt.ledOf X.w)->ms.Nodup->(∀ x,x∈ms↔x∈ns)->ms.length<=ns.length->Q (.ref a) {s with heap:=h',toks:=tk}) :
  wpAny (model X.prog X.w) X.A (call (.type "set") [.ref l]) Q E s:=by
 rcases hs with hs | hs
 ·obtain⟨its,r,pl,_⟩:=I.list hs;exact Srt.call_bagI hh (Srt.src_list pl.isList) (N5 r) hz λh' tk ms k b n m l=>h h' tk ms _ k b n m l
 ·obtain⟨its,r,pl,_⟩:=I.tuple hs;exact Srt.call_bagI hh (Srt.src_tup pl) (N5 r) hz λh' tk ms k b n m l=>h h' tk ms _ k b n m l
def a2R (K:ae):List V->Hp->VK->Prop:=λxs H Q=>∃(p:Addr) (ns:List Int),xs=[.ref p]/\SqI K H p ns/\ns.length<300 /\
 ∀(ns':List Int) (l:Addr),ns'.Pairwise (·<·)->(∀ x,x∈ns'↔x∈ns)->H l=none->Q (.ref l) (upd H l (.lst (ns'.map V.int)))
theorem a0q (K:ae)(hh:X.A.handled=none)(hg:Gl X x)(hm:X.mg x=none)(hv:bootBuiltins x=some (.builtin "sorted"))(hg':Gl X y)(hm':X.mg y=none)(hv':bootBuiltins y=some (.type "set"))(ha:PA X [e] t)
  (hn:x≠"__name__":=by decide) (hdb:(x == ("__debug__":Str))=false:=by decide) (hn':y≠"__name__":=by decide) (hdb':(y == ("__debug__":Str))=false:=by decide)
  (he:starEach [e] X.env=[(false,eval e X.env)]:=by rfl) (hpl:(backTo pos' (starEach ([]:List Expr) X.env)).any (·.1)=false:=by rfl)
  (he2:starEach [.Call (.Name y p') [e] [] pos'] X.env=[(false,eval (.Call (.Name y p') [e] [] pos') X.env)]:=by rfl) (hpl2:(backTo pos (starEach ([]:List Expr) X.env)).any (·.1)=false:=by rfl) (hK:X.K=K:=by rfl) :
  PE X (.Call (.Name x p) [.Call (.Name y p') [e] [] pos'] [] pos) (tCB (a2R K) t):=by
 subst hK;intro pins s σ H Q I h;refine bM (P7 I hg hm hv ?_ hn hdb);refine dj ?_ he2 hpl2;rw[he2];show wpAny _ _ (spliced ((false,eval (.Call (.Name y p') [e] [] pos') X.env)::[])) _ _ s;refine cM ?_;refine bM (P7 I hg' hm' hv' ?_ hn' hdb');refine bH (thn (ha pos' pins s σ H _ I h) λus s1 ⟨vs,H1,I1,r1,q1⟩=>?_) he hpl;obtain⟨l,ns,rfl,src,hz,q⟩:=q1;obtain⟨u,rfl,rx⟩:=S0 r1;cases rx;refine a6q I1 hh src hz λh' tk ms a hk hB hnd hmem hle=>cV ?_
 have I2:Inv X pins σ H1 {s1 with heap:=h',toks:=tk}:=I1.kept hk;obtain⟨es,ep,tb,bt,hel,hp⟩:=hB;have hsz:=Srt.bagI_size (h:=h') (a:=a) hp;have hzl:es.size<=sizeLine:=by rw[sizeLine_eq];omega
 have hkeys:∀ u∈es.toList.map (·.2),∃ i t,u=cC i t:=by
  intro u hu;obtain⟨e',he',rfl⟩:=aQ.mp hu;obtain⟨⟨k,hk',_⟩,_⟩:=hel e' he';obtain⟨t',et⟩:=cU hk';exact⟨k,t',et⟩
 refine Srt.sorted_any (O:=Srt.intOrd) (key:=Srt.intKey) (knd:=oneType') (s:={s1 with heap:=h',toks:=tk}) (Srt.coll_bag (A:=X.A.in1) hh bt hzl) (λvs h=>by rw[h.length_eq,aa,aI];exact hzl)
  (λvs s' h _=>Srt.asks_ints (S6 λu hu=>hkeys u (h.mem_iff.mp hu))) λvs out h1 h2 tk' n hC ho hs k1 k2 hD=>?_
 have hall:∀ u∈out,∃ i t,u=cC i t:=λu hu=>hkeys u (hC.mem_iff.mp (ho.mem_iff.mp hu))
 have hio:=S6 hall;have I3:Inv X pins σ H1 {s1 with heap:=h1,toks:=tk'}:=I1.kept λb o eb=>k1 b o (hk b o eb)
 have hperm:(out.map Srt.intKey).Perm ms:=by
  refine ((ho.trans hC).map Srt.intKey).trans ?_;rw[bC];exact hp
 have hlen:(out.map Srt.intKey).length<=sizeLine:=by rw[hperm.length_eq,<- hsz];exact hzl
 refine⟨.ref h1.objs.size,_,I3.laid (t':=tk') (o:=.lst ((out.map Srt.intKey).map V.int)) k2 (ao _) ⟨by rw[aa];exact hlen,out,n,W4 hio,hD⟩,rfl,q _ _ ?_ ?_ I3.fresh⟩
 ·have hle':(out.map Srt.intKey).Pairwise (·<=·):=by
   rw[gk];exact hs.imp λ{a b} hab=>by
    have hab:decide (Srt.intKey b<Srt.intKey a)=false:=hab;simp at hab;exact hab
  have hnd':(out.map Srt.intKey).Nodup:=hperm.nodup_iff.mpr hnd;exact (hle'.and hnd').imp λ{a b} hab=>by have h1:=hab.1;have h2:=hab.2;omega
 ·intro z;rw[hperm.mem_iff];exact hmem z
end
end L2
end
section
namespace L2
open PySem PySem.Spec PyProof.Rows
structure Bt2 (mg:Str->Option Value):Prop where
 isinstance:mg "isinstance"=none
 bool:mg "bool"=none
 all:mg "all"=none
 set:mg "set"=none
 enumerate:mg "enumerate"=none
 zip:mg "zip"=none
end L2
end
section
namespace L2
open PySem
def tI (l:List Int):PyData:=.tuple (l.map bW)
theorem a1g:∀ ls:List (List Int),PyData.canLayAll0 (ls.map tI)=true
 | []=>rfl
 | n::r=>by
  rw[am,PyData.canLayAll0,a1g r];unfold tI;rw[PyData.canLay0,S8];rfl
theorem a2M:∀ ls:List (List Int),PyData.depthAll (ls.map tI)<=1
 | []=>bn _
 | n::r=>by
  rw[am,PyData.depthAll];have:=a2M r;unfold tI at this ⊢;rw[PyData.depth,U6];omega
theorem a6E:∀ ls ms:List (List Int),PyData.eqvAll (ls.map tI) (ms.map tI)=decide (ls=ms)
 | [],[]=>rfl
 | [],_::_=>rfl
 | _::_,[]=>rfl
 | a::r,b::t=>by
  rw[am,am,PyData.eqvAll,a6E r t];unfold tI;rw[a6C];by_cases h:a=b<;>by_cases h':r=t<;>simp[h,h']
theorem Dts.tups {K:ae}{H:Hp}:∀ {ps:List (Addr×List Int)},(∀ x∈ps,SqT K H x.1 (x.2.map V.int))->Dts K H (ps.map λx=>V.ref x.1) ((ps.map (·.2)).map tI)
 | [],_=>.nil
 | p::r,h=>.cons (.tupI (h p (aD ..))) (Dts.tups λx hx=>h x (aq _ hx))
end L2
end
section
namespace L2
open PySem PySem.Spec PyProof.Rows
section
variable {X:Cx}
theorem Z8 {x:Str}{n:String}{pos:Pos}(hg:Gl X x)(hm:X.mg x=none)(hv:bootBuiltins x=some (.type n))(hn:x≠"__name__":=by decide)(hd:(x == ("__debug__":Str))=false:=by decide):PE X (.Name x pos) (tC (.ty n)) :=
 λ_ _ _ H _ I h=>P7 I hg hm hv ⟨.ty n,H,I,rfl,h⟩ hn hd
def a9R (K:ae):List V->Hp->VK->Prop:=λxs H Q=>∃(x:V) (n:String) (t:Value) (b:Bool),xs=[x,.ty n]/\R8 K H x t/\PySem.W.kitOne K t (.type n)=some b/\Q (.bl b) H
theorem a6R:M0 X (.builtin "isinstance") (a9R X.K):=by
 intro pins s σ H xs us Q I r h;obtain⟨x,n,t,b,rfl,ty,e,q⟩:=h;obtain⟨u,w',rfl,rx,rn⟩:=a5b r;cases (show w'=aE n from rn);exact a4L I rx ty e λtk=>⟨.bl b,H,I.tok _,rfl,q⟩
theorem a3v (K:ae)(h:X.K=K:=by rfl):M0 X (.builtin "isinstance") (a9R K):=by subst h;exact a6R
end
end L2
end
section
namespace L2
open PySem
def mm (a b:Int):Int×Int:=(if b<a then b else a,if b>a then b else a)
end L2
end
section
namespace STab
open PySem PySem.SetTable
def tm (m:Nat):SetTable:={mask:=m,place:=#[],dummies:=#[],finger:=0,led:=true,moves:=0,plain:=true}
theorem advance_mask {t t':SetTable}(h:t.mask=t'.mask)(p:Probe):t.advance p=t'.advance p:=by unfold SetTable.advance;rw[h]
theorem adv_mask {t t':SetTable}(h:t.mask=t'.mask):∀(n:Nat) (p:Probe),adv t n p=adv t' n p
 | 0,_=>rfl
 | n+1,p=>by show adv t n (t.advance p)=adv t' n (t'.advance p);rw[advance_mask h,adv_mask h n]
theorem start_mask {t t':SetTable}(h:t.mask=t'.mask)(x:Int):t.probeStart x=t'.probeStart x:=by unfold SetTable.probeStart;rw[h]
def pos (m:Nat)(h:Int)(k:Nat):Nat:=(adv (tm m) k ((tm m).probeStart h)).j
theorem pos_eq (t:SetTable)(h:Int)(k:Nat):(adv t k (t.probeStart h)).j=pos t.mask h k:=by
 unfold pos;rw[adv_mask (t:=t) (t':=tm t.mask) rfl,start_mask (t:=t) (t':=tm t.mask) rfl]
def Way (m:Nat)(h:Int)(j:Nat)(S:Nat->Prop):Prop:=∃ k,pos m h k=j/\∀ k',k'<k->S (pos m h k')
theorem Way.mono {m:Nat}{h:Int}{j:Nat}{S S':Nat->Prop}(w:Way m h j S)(hs:∀ x,S x->S' x):Way m h j S':=let ⟨k,e,q⟩:=w;⟨k,e,λk' hk=>hs _ (q k' hk)⟩
def Met (t:SetTable)(es:List (Int×Value)):Prop:=∀ e j,(e,j)∈es.zip t.place.toList->Way t.mask e.1 j λx=>x∈t.place.toList
theorem zip_ins {α β:Type}{l:List α}{m:List β}(h:l.length=m.length)(p:Nat)(a:α)(b:β)(x:α×β) :
  x∈(l.take p++a::l.drop p).zip (m.take p++b::m.drop p)↔x∈l.zip m\/x=(a,b):=by
 rw[List.zip_append (by rw[bq,bq,h]),dk,aA,aO];have e:l.zip m=(l.take p).zip (m.take p)++(l.drop p).zip (m.drop p):=by
  rw[<- List.zip_append (by rw[bq,bq,h]),ba,ba]
 rw[e,aA];constructor
 ·rintro (h | h | h)
  ·exact .inl (.inl h)
  ·exact .inr h
  ·exact .inl (.inr h)
 ·rintro ((h | h) | h)
  ·exact .inl h
  ·exact .inr (.inr h)
  ·exact .inr (.inl h)
theorem Met.put {t:SetTable}{es:Array (Int×Value)}{led:Bool}(o:Ok t es.size led)(M:Met t es.toList){h:Int}{x:Value}{j:Nat}(w:Way t.mask h j λy=>y∈t.place.toList) :
  Met (t.put j).1 (insertAt es (t.put j).2 (h,x)).toList:=by
 intro e i hm;have hp:(t.put j).1.place.toList=t.place.toList.take (below t.place j)++j::t.place.toList.drop (below t.place j):=toList_insertAt ..;have he:(insertAt es (t.put j).2 (h,x)).toList=es.toList.take (below t.place j)++(h,x)::es.toList.drop (below t.place j):=toList_insertAt ..;rw[hp,he,zip_ins (by rw[aI,aI,o.size])] at hm;have up:∀ y,y∈t.place.toList->y∈(t.put j).1.place.toList:=λy hy=>by
  rw[hp];rw[<- ba (below t.place j) t.place.toList] at hy;rcases aA.mp hy with hy | hy
  ·exact fM _ hy
  ·exact bo _ (aq _ hy)
 show Way t.mask e.1 i _;rcases hm with hm | hm
 ·exact (M e i hm).mono up
 ·injection hm with h1 h2
  subst h1;subst h2;exact w.mono up
theorem run_adv {t:SetTable}:∀(m:Nat) (p:Probe),m<=p.more->(adv t m p).j=p.j+m
 | 0,p,_=>rfl
 | m+1,p,h=>by
  have e:t.advance p={p with j:=p.j+1,more:=p.more-1}:=by unfold SetTable.advance;rw[if_pos ∅]
  show (adv t m (t.advance p)).j=_;rw[e,run_adv m _ (by simp only;omega)];simp only;omega
theorem next_run {t:SetTable}:∀(m:Nat) (p:Probe),p.more=m->adv t (m+1) p={p with j:=(leap t.mask p.i p.perturb).1,more:=runEnd t.mask (leap t.mask p.i p.perturb).1-(leap t.mask p.i p.perturb).1,i:=(leap t.mask p.i p.perturb).1,perturb:=(leap t.mask p.i p.perturb).2}
 | 0,p,h=>by
  show t.advance p=_;unfold SetTable.advance;rw[if_neg ∅]
 | m+1,p,h=>by
  have e:t.advance p={p with j:=p.j+1,more:=p.more-1}:=by unfold SetTable.advance;rw[if_pos ∅]
  show adv t (m+1) (t.advance p)=_;rw[e];exact next_run m {p with j:=p.j+1,more:=p.more-1} (by simp only;omega)
theorem find_first {n:Nat}{f:Nat->Bool}{k:Nat}(h:(List.range n).find? f=some k):f k=true/\k<n/\∀ m,m<k->f m=false:=by
 rw[List.find?_range_eq_some] at h;exact⟨h.1,bf.mp h.2.1,λm hm=>by have:=h.2.2 m hm;simpa using this⟩
theorem free_path {t:SetTable}{owner:Array (Option Nat)}:∀(fuel:Nat) (p:Probe) (j:Nat),p.i<=t.mask->p.j=p.i->p.more=runEnd t.mask p.i-p.i->layClean.free t.mask owner fuel p.i p.perturb=some j ->
  ∃ k,(adv t k p).j=j/\∀ k',k'<k->(owner.getD (adv t k' p).j (some 0)).isNone=false
 | 0,p,j,_,_,_,h=>by simp[layClean.free] at h
 | fuel+1,p,j,hi,hj,hm,h=>by
  have hr:=runEnd_le hi;unfold layClean.free at h;cases hf:(List.range (runEnd t.mask p.i+1-p.i)).find? (λk=>(owner.getD (p.i+k) (some 0)).isNone) with
  | some k =>
   rw[hf] at h;obtain⟨h1,h2,h3⟩:=find_first hf;have ej:p.i+k=j:=aG h;refine⟨k,by rw[run_adv k p ∅,hj];exact ej,λk' hk=>?_⟩;rw[run_adv k' p ∅,hj];exact h3 k' hk
  | none =>
   rw[hf] at h;have hn:∀ k,k<=p.more->(owner.getD (p.i+k) (some 0)).isNone=false:=λk hk=>by
    have:=i7.mp hf k (bf.mpr ∅);exact jc.mpr this
   have hq:=next_run (t:=t) p.more p rfl;obtain⟨k,e,hb⟩:=free_path fuel (adv t (p.more+1) p) j (by rw[hq];exact leaps_fst t.mask 1 (p.i,p.perturb) hi) (by rw[hq]) (by rw[hq]) (by rw[hq];exact h);refine⟨p.more+1+k,by rw[adv_add];exact e,λk' hk=>?_⟩;rcases bI k' (p.more+1) with hlt | hge
   ·rw[run_adv k' p ∅,hj];exact hn k' ∅
   ·have e2:k'=p.more+1+(k'-(p.more+1)):=∅
    rw[e2,adv_add];exact hb _ ∅
def OwnMet (mask:Nat)(hs:Nat->Int)(owner:Array (Option Nat)):Prop:=∀ j k,owner.getD j none=some k->Way mask (hs k) j λx=>(owner.getD x none).isSome=true
theorem getD_some {owner:Array (Option Nat)}{x:Nat}(hx:x<owner.size)(h:(owner.getD x (some 0)).isNone=false):(owner.getD x none).isSome=true:=by
 simp[Array.getD,hx] at h ⊢;cases h2:owner[x] with
 | none=>rw[h2] at h;cases h
 | some y=>rfl
theorem layF_met {mask:Nat}(F:Full (mask+1)):∀(hl:List Int) (done:List Int) (owner:Array (Option Nat)),owner.size=mask+1->(own (mask+1) owner).Perm (List.range done.length)->done.length+hl.length<=mask->OwnMet mask (λi=>(done++hl).getD i 0) owner ->
  ∃ owner',hl.foldl (layF mask) (some (owner,done.length))=some (owner',done.length+hl.length)/\owner'.size=mask+1/\(own (mask+1) owner').Perm (List.range (done.length+hl.length))/\OwnMet mask (λi=>(done++hl).getD i 0) owner'
 | [],done,owner,h1,h2,_,h4=>⟨owner,rfl,h1,h2,h4⟩
 | h::hl,done,owner,h1,h2,h3,h4=>by
  rw[az] at h3;obtain⟨o1,e1,s1,p1⟩:=layF_fold F [h] owner done.length h1 h2 (by simp;omega);have hstep:layF mask (some (owner,done.length)) h=some (o1,done.length+1):=e1;obtain⟨j,hj,eo⟩:∃ j,layClean.free mask owner (turns mask) (bits h % (mask+1)) (bits h)=some j/\o1=owner.setIfInBounds j (some done.length):=by
   have e2:(do let j <- layClean.free mask owner (turns mask) (bits h % (mask+1)) (bits h);pure (owner.setIfInBounds j (some done.length),done.length+1))=some (o1,done.length+1):=hstep;cases hf:layClean.free mask owner (turns mask) (bits h % (mask+1)) (bits h) with
   | none=>rw[hf] at e2;cases e2
   | some j =>
    rw[hf] at e2;have e3:(owner.setIfInBounds j (some done.length),done.length+1)=(o1,done.length+1):=aG e2;injection e3 with e4 _
    exact⟨j,rfl,e4.symm⟩
  have g:=good_start (tm mask) h;obtain⟨k,ek,hb⟩:=free_path (t:=tm mask) (owner:=owner) (turns mask) ((tm mask).probeStart h) j g.i rfl rfl hj;have pin:∀ k,pos mask h k<owner.size:=λk=>by
   have:=(g.adv k).j;rw[h1];show (adv (tm mask) k ((tm mask).probeStart h)).j<mask+1;have hm:(tm mask).mask=mask:=rfl;omega
  have upS:∀ x,(owner.getD x none).isSome=true->(o1.getD x none).isSome=true:=λx hx=>by
   rw[eo];by_cases hxs:x<owner.size
   ·by_cases hxj:j=x
    ·subst hxj;simp[Array.getD,hxs]
    ·simp[Array.getD,hxs,dP,hxj] at hx ⊢;exact hx
   ·simp[Array.getD,hxs] at hx
  have M1:OwnMet mask (λi=>(done++h::hl).getD i 0) o1:=by
   intro x i hx;by_cases hxj:j=x
   ·subst hxj;have hjs:j<owner.size:=by rw[<- ek];exact pin k
    rw[eo] at hx;simp[Array.getD,hjs] at hx;subst hx;have eh:(done++h::hl).getD done.length 0=h:=by simp[List.getD]
    show Way mask ((done++h::hl).getD done.length 0) j _;rw[eh];exact⟨k,ek,λk' hk=>upS _ (getD_some (pin k') (hb k' hk))⟩
   ·have hx':owner.getD x none=some i:=by
     rw[eo] at hx;by_cases hxs:x<owner.size
     ·simp[Array.getD,hxs,dP,hxj] at hx ⊢;exact hx
     ·simp[Array.getD,hxs] at hx
    exact (h4 x i hx').mono upS
  have ed:done++h::hl=(done++[h])++hl:=by simp
  have ld:(done++[h]).length=done.length+1:=by simp
  obtain⟨o',e',s',p',m'⟩:=layF_met F hl (done++[h]) o1 s1 (by rw[ld];exact p1) (by rw[ld];omega) (by rw[<- ed];exact M1);rw[dq,hstep];rw[ld] at e' p';refine⟨o',?_,s',?_,?_⟩
  ·rw[e',az,show done.length+1+hl.length=done.length+(hl.length+1) by omega]
  ·rw[az,show done.length+(hl.length+1)=done.length+1+hl.length by omega];exact p'
  ·rw[ed];exact m'
theorem layClean_met {mask:Nat}(F:Full (mask+1))(hs:Array Int)(h:hs.size<=mask):∃ owner,layClean mask hs=some owner/\owner.size=mask+1/\(own (mask+1) owner).Perm (List.range hs.size)/\OwnMet mask (λi=>hs.toList.getD i 0) owner:=by
 have h0:own (mask+1) (cx (mask+1) none)=[]:=by
  unfold own;refine g6.mpr λx hx=>?_
  have:x<mask+1:=bf.mp hx;simp[Array.getD,this]
 obtain⟨o,e,s,p,m⟩:=layF_met F hs.toList [] (cx (mask+1) none) (by simp) (by rw[h0];exact .nil) (~~~h) (λj k hx=>by
  by_cases hj:j<mask+1
  ·simp[Array.getD,hj] at hx
  ·simp[Array.getD,hj] at hx)
 rw[b8,cG,aI] at e p;refine⟨o,?_,s,p,m⟩;unfold layClean;have:hs.foldl (layF mask) (some (cx (mask+1) none,0))=some (o,hs.size):=by rw[<- iS];exact e
 show (hs.foldl (layF mask) (some (cx (mask+1) none,0))).map (·.1)=some o;rw[this];rfl
theorem pick_live {es:Array (Int×Value)}:∀ {live:List (Nat×Nat)},(∀ q∈live,q.2<es.size)->(live.map (·.2)).filterMap (λi=>es[i]?)=live.map λq=>es.getD q.2 (0,.none)
 | [],_=>rfl
 | q::live,h=>by
  have hq:=h q (aD ..);rw[am,bL (aV hq),pick_live λz hz=>h z (aq _ hz),am];simp[Array.getD,hq]
theorem zip_live {es:Array (Int×Value)}:∀ {live:List (Nat×Nat)} {e:Int×Value} {j:Nat},(e,j)∈(live.map λq=>es.getD q.2 (0,.none)).zip (live.map (·.1))->∃ q∈live,e=es.getD q.2 (0,.none)/\j=q.1
 | [],e,j,h=>by simp at h
 | q::live,e,j,h=>by
  rw[am,am,dk] at h;rcases aO.mp h with h | h
  ·injection h with h1 h2;exact⟨q,aD ..,h1,h2⟩
  ·obtain⟨z,hz,e1,e2⟩:=zip_live h;exact⟨z,aq _ hz,e1,e2⟩
theorem relaid_met {t:SetTable}{es:Array (Int×Value)}{n:Nat}{led:Bool}(o:Ok1 t n led)(hes:es.size=n)(hf:t.tooFull=true)(hn:n<=300) :
  ∃ t' order,t.relaid (es.map (·.1)) (grown es.size)=some (t',order)/\(order.filterMap (es[·]?)).size=es.size/\Ok t' n led/\(order.filterMap (es[·]?)).toList.Perm es.toList/\Met t' (order.filterMap (es[·]?)).toList/\sizeAbove (grown es.size)<=512:=by
 have hfill:t.fill=n:=by unfold SetTable.fill;rw[o.dum,o.size];rfl
 have hg:∃ M,sizeAbove (grown es.size)=M+1/\Full (M+1)/\n*5<M*3/\(M=7\/M=31\/M=127\/M=511):=by
  have h1:=o.last;unfold SetTable.tooFull at hf;rw[hfill] at hf;have hf':t.mask*3<=n*5:= ~~~hf
  rw[hes];rcases o.mask with h | h | h | h
  ·have:n=5:=∅
   subst this;exact⟨31,by decide +kernel,full32,by decide,by decide⟩
  ·have:n=19:=∅
   subst this;exact⟨127,by decide +kernel,full128,by decide,by decide⟩
  ·have:n=77:=∅
   subst this;exact⟨511,by decide +kernel,full512,by decide,by decide⟩
  ·omega
 obtain⟨M,hM,hF,hroom,hmask⟩:=hg;obtain⟨owner,ho,hs,hperm,hmet⟩:=layClean_met hF (es.map (·.1)) (by rw[dz,hes];omega);rw[dz,hes] at hperm
 let live:=(List.range (M+1)).filterMap λj=>(owner.getD j none).map (j,·)
 have hlive2:(live.map (·.2)).Perm (List.range n):=by rw[show live.map (·.2)=own (M+1) owner from filterMap_pairs _];exact hperm
 obtain⟨hl1,hl2⟩:=pairs_fst (owner:=owner) (range_rising (M+1));have hlen:(live.map (·.1)).length=n:=by rw[aa,<- aa (f:=(·.2)) (as:=live),hlive2.length_eq,cH]
 have hidx:∀ q∈live,q.2<es.size:=λq hq=>by
  have:=hlive2.mem_iff.mp (aQ.mpr ⟨q,hq,rfl⟩);rw[hes];exact bf.mp this
 have hown:∀ q,q∈live↔q.1<M+1/\owner.getD q.1 none=some q.2:=λq=>by
  show q∈(List.range (M+1)).filterMap (λj=>(owner.getD j none).map (j,·))↔_;rw[List.mem_filterMap];constructor
  ·rintro⟨j,hj,e⟩;cases hg:owner.getD j none with
   | none=>rw[hg] at e;cases e
   | some y =>
    rw[hg] at e;have e':(j,y)=q:=aG e;subst e';exact⟨bf.mp hj,hg⟩
  ·rintro⟨h1,h2⟩;exact⟨q.1,bf.mpr h1,by rw[h2];rfl⟩
 let t':SetTable:={mask:=M,place:=(live.map (·.1)).toArray,dummies:=#[],finger:=t.finger,led:=t.led,moves:=t.movedTo M,plain:=t.plain}
 have hr:t.relaid (es.map (·.1)) (grown es.size)=some (t',(live.map (·.2)).toArray):=by
  unfold SetTable.relaid SetTable.laid;rw[hM,show M+1-1=M by omega,ho];rfl
 have hok:Ok t' n led:=⟨ris_of (show (live.map (·.1)).Pairwise (·<·) from hl1),rfl,by simpa [t'] using hlen,λx hx=>by
  have:x∈live.map (·.1):=by simpa [t'] using hx
  have:=bf.mp (hl2 x this);show x<=M;omega,hF,o.plain,o.led,hroom,hmask⟩
 have hl:((live.map (·.2)).toArray.filterMap (es[·]?)).toList=live.map λq=>es.getD q.2 (0,.none):=by
  rw[fi];exact pick_live hidx
 refine⟨t',_,hr,?_,hok,?_,?_,by rw[hM];rcases hmask with h | h | h | h<;>omega⟩
 ·rw[<- aI,hl,aa,<- aa (f:=(·.1)) (as:=live),hlen,hes]
 ·rw[fi];refine ((show (live.map (·.2)).toArray.toList.Perm (List.range n) by simpa using hlive2).filterMap _).trans ?_;rw[<- hes,filterMap_getElem?_range]
 ·intro e j hm;rw[hl] at hm;have hpl:t'.place.toList=live.map (·.1):=by show (live.map (·.1)).toArray.toList=_;simp
  rw[hpl] at hm;obtain⟨q,hq,e1,e2⟩:=zip_live hm;obtain⟨q1,q2⟩:=(hown q).mp hq;have w:Way M ((es.map (·.1)).toList.getD q.2 0) q.1 _:=hmet q.1 q.2 q2;have eh:(es.map (·.1)).toList.getD q.2 0=e.1:=by
   have hi:=hidx q hq;rw[e1];simp[List.getD,Array.getD,hi]
  rw[eh] at w;subst e2;show Way M e.1 q.1 λx=>x∈t'.place.toList
  refine w.mono λx hx=>?_
  obtain⟨y,hy⟩:=cf.mp hx;have hxs:x<M+1:=by
   rw[<- hs];apply cX;intro hn;simp[Array.getD,hn] at hy
  rw[hpl];exact aQ.mpr ⟨(x,y),(hown (x,y)).mpr ⟨hxs,hy⟩,rfl⟩
theorem met_fresh (led:Bool):Met (.fresh 0 0 led) []:=λe j h=>by simp at h
theorem Met.found {t:SetTable}{es:Array (Int×Value)}{led:Bool}(o:Ok t es.size led)(M:Met t es.toList)(h:Int) :
  (∃ e∈es.toList,e.1=h)/\(∃(i:Nat) (e:Int×Value) (nx:Probe) (j:Nat),es[i]?=some e/\e.1=h/\t.probe (λi=>(es[i]?.map (·.1)).getD 0) h (t.probeStart h)=some (.candidate j i nx)) \/
  (∀ e∈es.toList,e.1≠h)/\∃ j,j<=t.mask/\t.slot j=.empty/\t.probe (λi=>(es[i]?.map (·.1)).getD 0) h (t.probeStart h)=some (.empty j none)/\Way t.mask h j λx=>x∈t.place.toList:=by
 obtain⟨k,hb,hk⟩:=o.probe (λi=>(es[i]?.map (·.1)).getD 0) h;have live:∀ {j i},t.slot j=.live i->∃ e,es[i]?=some e/\(e,j)∈es.toList.zip t.place.toList:=λ{j i} hs=>by
  have hp:=slot_live hs;have hi:i<t.place.size:=by
   rcases bI i t.place.size with h | h
   ·exact h
   ·rw[bG h] at hp;cases hp
  have hi2:i<es.size:=by rw[<- o.size];exact hi
  refine⟨es[i],aV hi2,?_⟩;have:(es.toList.zip t.place.toList)[i]?=some (es[i],j):=by
   rw[df];exact⟨by rw[aW];exact aV hi2,by rw[aW];exact hp⟩
  exact aU this
 rcases hk with ⟨he,hp⟩ | ⟨i,hs,hh,hp⟩
 ·right;refine⟨λe hm eh=>?_,_,?_,he,hp,?_⟩
  ·obtain⟨i,hi,ei⟩:=dQ hm;have hi2:i<es.size:= ~~~hi
   have hi3:i<t.place.size:=by rw[o.size];exact hi2
   have hz:(e,t.place[i])∈es.toList.zip t.place.toList:=by
    have:(es.toList.zip t.place.toList)[i]?=some (e,t.place[i]):=by
     rw[df];exact⟨by rw[ak hi,ei],by rw[aW];exact aV hi3⟩
    exact aU this
   obtain⟨k2,e2,b2⟩:=M e _ hz;rw[eh] at e2 b2;have hne:t.slot (pos t.mask h k)=.empty:=by rw[<- pos_eq];exact he
   rcases dD k k2 with hlt | heq | hgt
   ·exact slot_empty o.ris hne (b2 k hlt)
   ·subst heq;rw[e2] at hne;exact slot_empty o.ris hne (by rw[<- Array.getElem_toList hi3];exact cK _)
   ·obtain⟨i',hs',hne'⟩:=hb k2 hgt;rw[pos_eq,e2] at hs';have hpl:=slot_live hs';have hii:i'=i:=by
     have hi':i'<t.place.size:=by
      rcases bI i' t.place.size with h | h
      ·exact h
      ·rw[bG h] at hpl;cases hpl
     rw[aV hi'] at hpl;have hpl':=aG hpl;rcases dD i' i with q | q | q
     ·have:=o.ris i' i hi' hi3 q;omega
     ·exact q
     ·have:=o.ris i i' hi3 hi' q;omega
    subst hii;refine hne' ?_;have:es[i']?=some e:=by rw[<- aW,ak hi,ei]
    rw[this];exact eh
  ·have:=((good_start t h).adv k).j;omega
  ·refine⟨k,(pos_eq t h k).symm,λk' hk'=>?_⟩;obtain⟨i,hs,_⟩:=hb k' hk';have:=slot_live hs;rw[pos_eq] at this;rw[<- aW] at this;exact aU this
 ·left;obtain⟨e,he,hz⟩:=live hs;have eh:e.1=h:=by rw[he] at hh;exact hh
  exact⟨⟨e,by rw[<- aW] at he;exact aU he,eh⟩,i,e,_,_,he,eh,hp⟩
end STab
end
section
namespace STab
open PySem
def pc (c:Nat):Int:=reduceHash (fY [hashInt ((c / 60:Nat):Int),hashInt ((c % 60:Nat):Int)])
def pr (c:Nat):Nat:=(pc c % 26326).toNat
def bits:Nat->Nat->Bool
 | 0,_=>true
 | c+1,a=>!a.testBit (pr c) && bits c (a ||| 1 <<< pr c)
theorem bits_ok:bits 3600 0=true:=by decide +kernel
theorem bits_un:∀ {k a:Nat},bits k a=true->∀ c,c<k->a.testBit (pr c)=false/\∀ d,d<c->pr d≠pr c
 | 0,_,_,c,h=>absurd h (cb c)
 | k+1,a,h,c,hc=>by
  have h':(!a.testBit (pr k) && bits k (a ||| 1 <<< pr k))=true:=h;rw[bB] at h';have hk:a.testBit (pr k)=false:= ~~~h'.1
  by_cases e:c=k
  ·subst e;refine⟨hk,λd hd z=>?_⟩;have:=(bits_un h'.2 d hd).1;rw[Nat.testBit_or,z,Nat.testBit_shiftLeft] at this;simp at this
  ·have i:=bits_un h'.2 c ∅;rw[Nat.testBit_or,dM] at i;exact⟨i.1.1,i.2⟩
theorem pc_inj {c d:Nat}(hc:c<3600)(hd:d<3600)(e:pc c=pc d):c=d:=by
 have er:pr c=pr d:=by unfold pr;rw[e]
 rcases dD c d with h | h | h
 ·exact absurd er ((bits_un bits_ok d hd).2 c h)
 ·exact h
 ·exact absurd er.symm ((bits_un bits_ok c hc).2 d h)
end STab
end
section
namespace Srt
open PySem PyProof.Rows
section
variable {prog:Program}{w:World}{A:Around}{E:Value->Shared->Prop}{s:Shared}
def TieAt (prog:Program)(w:World)(h:Heap)(a:Addr)(t:Int×Int):Prop:=IsTupleKey (intKind prog w) h [t.1,t.2] a/\0<=t.1/\t.1<60/\0<=t.2/\t.2<60
theorem TieAt.keep {h h':Heap}{a:Addr}{t:Int×Int}(x:TieAt prog w h a t)(k:∀ o,h.get? a=some o->h'.get? a=some o):TieAt prog w h' a t:=let ⟨⟨o,i,n,ho,q⟩,r⟩:=x;⟨⟨o,i,n,k _ ho,q⟩,r⟩
def tHash (t:Int×Int):Int:=reduceHash (fY [hashInt t.1,hashInt t.2])
theorem tHash_pc {t:Int×Int}(h0:0<=t.1)(h1:t.1<60)(h2:0<=t.2)(h3:t.2<60):tHash t=STab.pc (t.1.toNat*60+t.2.toNat):=by
 unfold tHash STab.pc;have e1:(t.1.toNat*60+t.2.toNat) / 60=t.1.toNat:=∅
 have e2:(t.1.toNat*60+t.2.toNat) % 60=t.2.toNat:=∅
 rw[e1,e2,bX h0,bX h2]
theorem tHash_inj {h:Heap}{a b:Addr}{t u:Int×Int}(x:TieAt prog w h a t)(y:TieAt prog w h b u)(e:tHash t=tHash u):t=u:=by
 obtain⟨_,a0,a1,a2,a3⟩:=x;obtain⟨_,b0,b1,b2,b3⟩:=y;rw[tHash_pc a0 a1 a2 a3,tHash_pc b0 b1 b2 b3] at e;have:=STab.pc_inj ∅ ∅ e;have e1:t.1=u.1:=∅
 have e2:t.2=u.2:=∅
 cases t;cases u;simp at e1 e2;rw[e1,e2]
theorem hbv_tie {a:Addr}{t:Int×Int}{Q:Bool->Shared->Prop}(x:TieAt prog w s.heap a t)(h:Q true s):wpAny (model prog w) A (hashByValue 8 (.ref a)) Q E s:=by
 have hT:=x.1.typeIs;obtain⟨⟨o,items,n,ho,hc,hd,hi⟩,_⟩:=x;unfold hashByValue;refine af (fW hT PySem.F.slot_tuple_hash.lookup ?_);show wpAny _ _ (seqItems? (.ref a) >>= _) _ _ s;refine af (iC ho hd ?_);refine af ?_;show wpAny _ _ (forIn items _ _) _ _ s;rw[<- iR];refine fK _ (λP8 r s'=>r.1=none/\s'=s/\∃ ks,ItemsAre (intKind prog w) ks P8) _ ?_ ?_ _ _ ⟨rfl,rfl,_,hi⟩
 ·rintro v P8 r s' ⟨hr,rfl,ks,hks⟩;cases hks with
  | @cons k _ ks' _ h1 h2 =>
   obtain⟨tk,rfl⟩:=cU h1;rw[hashByValue_scannable _ (show (cC k tk).scannable=true from rfl)];refine af (ap ?_);simp only[plainKind,cF,aC,if_false];exact ap ⟨rfl,rfl,ks',h2⟩
 ·rintro⟨r1,r2⟩ s' ⟨hr,rfl,_⟩;simp only at hr;subst hr;exact ap h
theorem oac_tie {a:Addr}{t:Int×Int}{Q:Bool->Shared->Prop}(x:TieAt prog w s.heap a t)(h:Q false s):wpAny (model prog w) A (ofAClassStatement 8 (.ref a)) Q E s:=by
 have hT:=x.1.typeIs;obtain⟨⟨o,items,n,ho,hc,hd,hi⟩,_⟩:=x;unfold ofAClassStatement;refine af (jd hT ?_);show wpAny _ _ (pure true >>= _) _ _ s;refine af (ap ?_);simp only[cF,aC,if_false];refine af (iC ho hd ?_);dsimp only;refine af ?_;show wpAny _ _ (forIn items _ _) _ _ s;rw[<- iR];refine fK _ (λP8 r s'=>r.1=none/\s'=s/\∃ ks,ItemsAre (intKind prog w) ks P8) _ ?_ ?_ _ _ ⟨rfl,rfl,_,hi⟩
 ·rintro v P8 r s' ⟨hr,rfl,ks,hks⟩;cases hks with
  | @cons k _ ks' _ h1 h2 =>
   obtain⟨tk,rfl⟩:=cU h1;refine af (m:=ofAClassStatement 7 (.int k tk)) (ap ?_);simp only[aC,if_false];exact ap ⟨rfl,rfl,ks',h2⟩
 ·rintro⟨r1,r2⟩ s' ⟨hr,rfl,_⟩;simp only at hr;subst hr;exact ap h
theorem scs_tie {a:Addr}{t:Int×Int}{ys:List Value}{Q:Bool->Shared->Prop}(x:TieAt prog w s.heap a t)(hy:∀ y∈ys,∃ b u,y=.ref b/\TieAt prog w s.heap b u)(h:Q false s):wpAny (model prog w) A (searchCouldBeSeen (.ref a) ys) Q E s:=by
 unfold searchCouldBeSeen;refine af ?_;refine fK _ (λP8 r s'=>r.1=none/\s'=s/\∀ y∈P8,∃ b u,y=.ref b/\TieAt prog w s.heap b u) _ ?_ ?_ _ _ ⟨rfl,rfl,hy⟩
 ·rintro v P8 r s' ⟨hr,rfl,hall⟩;obtain⟨b,u,rfl,y⟩:=hall v (aD ..);have hrest:∀ y∈P8,∃ b u,y=.ref b/\TieAt prog w s'.heap b u:=λy hy=>hall y (aq _ hy)
  dsimp only;refine dA (λ_=>ap ⟨rfl,rfl,hrest⟩) (λ_=>?_);refine af (jf x.1 ?_);simp only[cF,aC,if_false];refine af (jf y.1 ?_);simp only[cF,aC,if_false];refine af (oac_tie x ?_);simp only[aC,if_false];refine af (oac_tie y ?_);simp only[aC,if_false];exact ap ⟨rfl,rfl,hrest⟩
 ·rintro⟨r1,r2⟩ s' ⟨hr,rfl,_⟩;simp only at hr;subst hr;exact ap h
def qE (q:Addr×(Int×Int)):Int×Value:=(tHash q.2,.ref q.1)
def BagTie (prog:Program)(w:World)(h:Heap)(S:Addr)(qs:List (Addr×(Int×Int)))(led:Bool):Prop:=∃ es ep t,BagAt h S es ep t led/\STab.Met t es.toList/\es.toList.Perm (qs.map qE)/\∀ q∈qs,TieAt prog w h q.1 q.2
theorem bagT_add {S a:Addr}{u:Int×Int}{qs:List (Addr×(Int×Int))}{led:Bool}{Q:Bool->Shared->Prop}(hu:A.units<cLine)(B:BagTie prog w s.heap S qs led)(x:TieAt prog w s.heap a u)(hz:qs.length<300)
  (h:∀(h':Heap) (b:Bool),cr S s.heap h'->(if u∈qs.map (·.2) then BagTie prog w h' S qs led else BagTie prog w h' S ((a,u)::qs) led)->Q b {s with heap:=h'}) :
  wpAny (model prog w) A (setAddHashed S (.ref a) (tHash u)) Q E s:=by
 obtain⟨es,ep,t,⟨o,ho,hx,hd,hok⟩,hM,hp,hq⟩:=id B;have hsz:es.size=qs.length:=by have:=hp.length_eq;simpa using this
 have ofE:∀ e∈es.toList,∃ q∈qs,e=qE q:=λe he=>by
  obtain⟨q,hqq,e1⟩:=aQ.mp (hp.mem_iff.mp he);exact⟨q,hqq,e1.symm⟩
 have apart:∀ b v,TieAt prog w s.heap b v->b≠S:=λb v y e=>by
  obtain⟨⟨ob,ib,nb,hob,hcb,hdb,_⟩,_⟩:=y;subst e;rw[ho] at hob;cases hob;rw[hd] at hdb;cases hdb
 unfold setAddHashed setAddHashedIn;refine bQ (af (b5 ho hd hok.fits ?_));dsimp only;rw[show byScan (.ref a) es=false from rfl];simp only[aC,if_false];unfold setSearch setSearchFrom;refine af (af (b5 ho hd hok.fits ?_));dsimp only;have hgw:t.gaveWay=false:=by
  unfold SetTable.gaveWay;rcases hok.mask with e | e | e | e<;>rw[e]<;>rfl
 rw[hgw];simp only[aC,if_false,gj];rcases STab.Met.found hok hM (tHash u) with ⟨_,i,e,nx,j,he,eh,hpr⟩ | ⟨hout,j,hj,hsl,hpr,hw⟩
 ·have hem:e∈es.toList:=by rw[<- aW] at he;exact aU he
  obtain⟨q,hqq,rfl⟩:=ofE e hem;have eu:q.2=u:=tHash_inj (hq q hqq) x eh;have hmem:u∈qs.map (·.2):=aQ.mpr ⟨q,hqq,eu⟩;have hstored:∀ y∈((es.filter λe=>e.1 == tHash u).toList.map λe=>e.2),∃ b v,y=.ref b/\TieAt prog w s.heap b v:=λy hy=>by
   obtain⟨e',he',rfl⟩:=aQ.mp hy;have he2:e'∈es.toList:=by
    simp at he';simpa using he'.1
   obtain⟨q',hq',rfl⟩:=ofE e' he2;exact⟨q'.1,q'.2,rfl,hq q' hq'⟩
  split
  ·rename_i met heq;have e1:=heq.symm.trans hpr;injection e1 with e1
   subst e1;dsimp only;refine dA (λ_=>af (scs_tie x hstored ?_)) (λ_=>?_)
   ·simp only[aC,if_false];rw[he];dsimp only[qE];refine af (bQ (jm hu (hq q hqq).1 x.1 ?_));refine af (b5 ho hd hok.fits ?_);rw[show decide ([q.2.1,q.2.2]=[u.1,u.2])=true by rw[eu];exact decide_eq_true rfl];simp only[Bool.and_self,if_true];refine ap (ap (h s.heap false (fF S s.heap) ?_));rw[if_pos hmem];exact B
   ·skip
    rw[he];dsimp only[qE];refine af (bQ (jm hu (hq q hqq).1 x.1 ?_));refine af (b5 ho hd hok.fits ?_);rw[show decide ([q.2.1,q.2.2]=[u.1,u.2])=true by rw[eu];exact decide_eq_true rfl];simp only[Bool.and_self,if_true];refine ap (ap (h s.heap false (fF S s.heap) ?_));rw[if_pos hmem];exact B
  ·rename_i heq;exact (heq _ hpr).elim
 ·have hmem:u∉qs.map (·.2):=λhm=>by
   obtain⟨q,hqq,eq⟩:=aQ.mp hm;have:qE q∈es.toList:=hp.mem_iff.mpr (aQ.mpr ⟨q,hqq,rfl⟩);exact hout _ this (by show tHash q.2=tHash u;rw[eq])
  have hN:∀(h':Heap) (b:Bool),cr S s.heap h'->BagTie prog w h' S ((a,u)::qs) led->Q b {s with heap:=h'}:=λh2 b hs hB=>h h2 b hs (by rw[if_neg hmem];exact hB)
  split
  ·rename_i met heq;have e1:=heq.symm.trans hpr;injection e1 with e1
   subst e1;dsimp only;refine ap ?_;dsimp only;refine af (b5 ho hd hok.fits ?_);dsimp only;have ok1:=hok.put hsl hj;have M1:STab.Met (t.put j).1 (dY es (t.put j).2 (tHash u,.ref a)).toList:=hM.put hok hw;rw[if_pos ok1.plain];refine af (hbv_tie x ?_);simp only[if_true,g7,eY];have hes1:(dY es (t.put j).2 (tHash u,.ref a)).size=es.size+1:=by
    rw[<- aI,(gR _ _ _).length_eq];simp
   have hp1:(dY es (t.put j).2 (tHash u,.ref a)).toList.Perm (((a,u)::qs).map qE):=by
    refine (gR _ _ _).trans ?_;rw[aY,am];exact (d4 _ _).trans (hp.cons _)
   generalize hes:dY es (t.put j).2 (tHash u,.ref a)=es1 at hes1 hp1 M1 ⊢;generalize ht1:(t.put j).1=t1 at ok1 M1 ⊢;rw[<- hes1] at ok1;have hties:∀ h',cr S s.heap h'->∀ q∈(a,u)::qs,TieAt prog w h' q.1 q.2:=λh' hs q hq'=>by
    rcases aO.mp hq' with rfl | hq'
    ·exact x.keep λo e=>hs.extBut _ _ (apart _ _ x) e
    ·exact (hq q hq').keep λo e=>hs.extBut _ _ (apart _ _ (hq q hq')) e
   refine af (fv ho hd ?_ (fz (by rw[hes1];unfold scanBound;omega)));obtain⟨o1,ho1,hx1,hd1⟩:=bag_store (es':=es1) (t':=t1) ho hx hd;have hb1:=b6 s.heap S (dB es1 t1);by_cases hf:t1.tooFull=true
   ·rw[if_pos hf];obtain⟨t2,order,hr,hrs,ok2,hp2,M2,h512⟩:=STab.relaid_met (es:=es1) ok1 rfl hf ∅;unfold setRelay;refine af (af (b5 (s:={s with heap:=s.heap.update S (dB es1 t1)}) ho1 hd1 ok1.fits ?_));dsimp only;rw[<- hes1,if_neg (by rw[sizeLine_eq];omega)];rw[hr];refine af (ij (a:=(order.filterMap (es1[·]?),t2)) ?_ ?_)
    ·show (if ((order.filterMap (es1[·]?)).size != es1.size)=true then _ else _)=_;rw[hrs,if_neg (by simp)]
    ·refine fv (s:={s with heap:=s.heap.update S (dB es1 t1)}) ho1 hd1 ?_ (fz (by rw[hrs,hes1];unfold scanBound;omega));obtain⟨o2,ho2,hx2,hd2⟩:=bag_store (es':=order.filterMap (es1[·]?)) (t':=t2) ho1 hx1 hd1;have hb2:=hb1.trans (b6 (s.heap.update S (dB es1 t1)) S (dB (order.filterMap (es1[·]?)) t2));exact ap (hN _ true hb2 ⟨_,_,t2,⟨o2,ho2,hx2,hd2,hrs.symm ▸ ok2⟩,M2,hp2.trans hp1,hties _ hb2⟩)
   ·rw[if_neg hf];exact ap (hN _ true hb1 ⟨es1,_,t1,⟨o1,ho1,hx1,hd1,ok1.ok (~~~hf)⟩,M1,hp1,hties _ hb1⟩)
  ·rename_i heq;exact (heq _ hpr).elim
end
end Srt
end
section
namespace STab
open PySem L2
theorem sub_len:∀ {us l:⋯},us.Nodup->(∀ x∈us,x∈l)->us.length<=l.length
 | [],_,_,_=>bn _
 | x::r,l,hn,hs=>by
  have hx:x∈l:=hs x (aD ..);have hn':=ce.mp hn;have:=sub_len (us:=r) (l:=l.erase x) hn'.2 (λy hy=>(fL (λe=>by subst e;exact hn'.1 hy)).mpr (hs y (aq _ hy)));rw[eN hx] at this;have:=fu hx;rw[az];omega
theorem lex_of {us:⋯}(hs:us.Pairwise λx y=>HT.lexLt (tl y) (tl x)=false)(hn:us.Nodup):us.Pairwise Lex:=by
 refine (List.Pairwise.and hs hn).imp ?_;rintro a b ⟨h1,h2⟩;have h3:¬ Lex b a:=λe=>by rw[a1D.mpr e] at h1;cases h1
 unfold Lex at h3 ⊢;have h4:¬ (a.1=b.1/\a.2=b.2):=λe=>h2 (by cases a;cases b;simp at e;rw[e.1,e.2])
 omega
end STab
namespace Srt
open PySem PyProof.Rows PySem.W
section
variable {prog:Program}{w:World}{A:Around}{E:Value->Shared->Prop}{s:Shared}
theorem bagT_fresh {h:Heap}{a:Addr}(ho:h.get? a=some (freshSet w)):BagTie prog w h a [] (ledOf w) :=
 ⟨#[],0,_,⟨_,ho,⟨rfl,rfl,rfl⟩,rfl,STab.ok_fresh _⟩,STab.met_fresh _,.nil,λq hq=>by cases hq⟩
theorem call_bagT {l:Addr}{c:String}{vs:List Value}{ps:List (Addr×(Int×Int))}{Q:Value->Shared->Prop}(hh:A.handled=none)(hu:A.units+8<cLine)(src:SetSrc prog w s.heap l c vs.toArray.size (λi v=>vs.toArray[i]?=some v))
  (hv:vs=ps.map λq=>bp q.1) (hT:∀ q∈ps,TieAt prog w s.heap q.1 q.2) (hz:ps.length<300)
  (h:∀(h':Heap) (tk:Nat) (qs:List (Addr×(Int×Int))),(∀ b o,s.heap.get? b=some o->h'.get? b=some o)->BagTie prog w h' s.heap.objs.size qs (ledOf w)->(qs.map (·.2)).Nodup->(∀ t,t∈qs.map (·.2)↔t∈ps.map (·.2))->(∀ q∈qs,q∈ps)->Q (.ref s.heap.objs.size) {s with heap:=h',toks:=tk}) :
  wpAny (model prog w) A (call (.type "set") [.ref l]) Q E s:=by
 have hsz:vs.toArray.size=ps.length:=by rw[hv];simp
 refine call_bag hh src (λi h=>∃ qs,BagTie prog w h s.heap.objs.size qs (ledOf w)/\(qs.map (·.2)).Nodup/\(∀ t,t∈qs.map (·.2)↔t∈(ps.take i).map (·.2))/\qs.length<=i/\(∀ q∈qs,q∈ps)/\∀ b o,s.heap.get? b=some o->h.get? b=some o) ?_ ?_ ?_ ?_
 ·rintro i h1 h2 ⟨qs,⟨es,ep,t,b,M,p,hq⟩,q1,q2,q3,q4,q5⟩ hk;have q5':∀ b o,s.heap.get? b=some o->h2.get? b=some o:=λb o e=>hk b o (bT (ax e)) (q5 b o e)
  exact⟨qs,⟨es,ep,t,b.keep λo e=>hk _ o (ao _) e,M,p,λq hq'=>(hT q (q4 q hq')).keep λo e=>q5' _ o e⟩,q1,q2,q3,q4,q5'⟩
 ·rintro i v s' E' Q' hin hvi ⟨qs,B,q1,q2,q3,q4,q5⟩ hQ;have hin':i<ps.length:=by rw[<- hsz];exact hin
  have ev:v=.ref ps[i].1:=by
   have:vs[i]?=some v:= ~~~hvi
   rw[hv,aJ,ak hin'] at this;exact (aG this).symm
  subst ev;have x:TieAt prog w s'.heap ps[i].1 ps[i].2:=(hT _ (cK hin')).keep λo e=>q5 _ o e
  have hu3:A.in1.in1.in1.units<cLine:=by show A.units+1+1+1<cLine;omega
  unfold setAdd;refine bQ (af (wpAny_pyHash_tuple (knd:=intKind prog w) hu3 x.1 ?_));refine bagT_add (s:={s' with toks:=s'.toks+([ps[i].2.1,ps[i].2.2].length+1)}) hu3 B x ∅ λh' b hs hB=>?_
  have q5':∀ b o,s.heap.get? b=some o->h'.get? b=some o:=λb o e=>hs.extBut b o (aN (ax e)) (q5 b o e)
  have htk:∀ t,t∈(ps.take (i+1)).map (·.2)↔t∈qs.map (·.2)\/t=ps[i].2:=λt=>by
   rw[gg hin',aF,aA,<- q2 t];simp
  refine hQ h' _ b hs ?_;by_cases hm:ps[i].2∈qs.map (·.2)
  ·rw[if_pos hm] at hB;refine⟨qs,hB,q1,λt=>?_,∅,q4,q5'⟩;rw[htk];exact⟨.inl,λo=>o.elim id λe=>e ▸ hm⟩
  ·rw[if_neg hm] at hB;refine⟨(ps[i].1,ps[i].2)::qs,hB,ce.mpr ⟨hm,q1⟩,λt=>?_,by rw[az];omega,λq hq=>?_,q5'⟩
   ·rw[htk,am,aO];exact Or.comm
   ·rcases aO.mp hq with rfl | hq
    ·exact cK hin'
    ·exact q4 q hq
 ·intro h' hf hk;exact⟨[],bagT_fresh hf,g5,(λt=>by simp),ao _,(λq hq=>by cases hq),hk⟩
 ·rintro h' tk hk ⟨qs,B,q1,q2,q3,q4,q5⟩;rw[hsz,ci] at q2;exact h h' tk qs hk B q1 q2 q4
end
theorem items_ints {prog:Program}{w:World}:∀ {ks:List Int} {vs:List Value},ItemsAre (intKind prog w) ks vs->IntsAre vs ks
 | _,_,.nil=>.nil
 | _,_,.cons h t=>by
  obtain⟨tk,rfl⟩:=cU h;exact .cons _ tk (items_ints t)
theorem ints_items {prog:Program}{w:World}:∀ {ks:List Int} {vs:List Value},IntsAre vs ks->ItemsAre (intKind prog w) ks vs
 | _,_,.nil=>.nil
 | _,_,.cons k tk t=>.cons (intKind_is _ _ _ _) (ints_items t)
end Srt
namespace L2
open PySem PySem.Spec PyProof.Rows PySem.W
def a1i (K:ae):List V->Hp->VK->Prop:=λxs H Q=>∃(p:Addr) (ps:List (Addr×List Int)) (ts:⋯),xs=[.ref p]/\(SqL K H p (ps.map λx=>V.ref x.1)\/SqT K H p (ps.map λx=>V.ref x.1))/\K7 H ps ts/\(∀ t∈ts,0<=t.1/\t.1<60/\0<=t.2/\t.2<60)/\ts.length<300 /\
 ∀(ps':List (Addr×List Int)) (ts':⋯) (l:Addr),K7 H ps' ts'->ts'.Pairwise Lex->(∀ t,t∈ts'↔t∈ts)->H l=none->Q (.ref l) (upd H l (.lst (ps'.map λx=>V.ref x.1)))
section
variable {X:Cx}{pins:List (Addr×Obj)}{σ:St}{H:Hp}{s:Shared}{x y:Str}{e:Expr}{p p' pos pos':Pos}{t:TA}
theorem a2t (K:ae)(hh:X.A.handled=none)(hu:X.A.units+64<cLine)(hg:Gl X x)(hm:X.mg x=none)(hv:bootBuiltins x=some (.builtin "sorted"))(hg':Gl X y)(hm':X.mg y=none)(hv':bootBuiltins y=some (.type "set"))(ha:PA X [e] t)
  (hn:x≠"__name__":=by decide) (hdb:(x == ("__debug__":Str))=false:=by decide) (hn':y≠"__name__":=by decide) (hdb':(y == ("__debug__":Str))=false:=by decide)
  (he:starEach [e] X.env=[(false,eval e X.env)]:=by rfl) (hpl:(backTo pos' (starEach ([]:List Expr) X.env)).any (·.1)=false:=by rfl)
  (he2:starEach [.Call (.Name y p') [e] [] pos'] X.env=[(false,eval (.Call (.Name y p') [e] [] pos') X.env)]:=by rfl) (hpl2:(backTo pos (starEach ([]:List Expr) X.env)).any (·.1)=false:=by rfl) (hK:X.K=K:=by rfl) :
  PE X (.Call (.Name x p) [.Call (.Name y p') [e] [] pos'] [] pos) (tCB (a1i K) t):=by
 subst hK;intro pins s σ H Q I h;refine bM (P7 I hg hm hv ?_ hn hdb);refine dj ?_ he2 hpl2;rw[he2];show wpAny _ _ (spliced ((false,eval (.Call (.Name y p') [e] [] pos') X.env)::[])) _ _ s;refine cM ?_;refine bM (P7 I hg' hm' hv' ?_ hn' hdb');refine bH (thn (ha pos' pins s σ H _ I h) λus s1 ⟨vs,H1,I1,r1,q1⟩=>?_) he hpl;obtain⟨l,ps,ts,rfl,src,hps,hrg,hz,q⟩:=q1;obtain⟨u,rfl,rx⟩:=S0 r1;cases rx;have hpl0:=hps.len
 let pq:List (Addr×(Int×Int)):=ps.map λx=>(x.1,un x.2)
 have epq:pq.map (·.2)=ts:=by
  show (ps.map λx=>(x.1,un x.2)).map (·.2)=ts;rw[bC];have:(ps.map (·.2)).map un=ts:=by rw[hps.eq,bC];exact List.map_id'' (λt=>a5e t) ts
  rw[bC] at this;exact this
 have two:∀ x∈ps,x.2=tl (un x.2):=λx hx=>by
  have:x.2∈ts.map tl:=by rw[<- hps.eq];exact fS hx
  obtain⟨t',_,e'⟩:=aQ.mp this;rw[<- e',a5e]
 have hT:∀ q∈pq,Srt.TieAt X.prog X.w s1.heap q.1 q.2:=λq hq=>by
  obtain⟨x,hx,rfl⟩:=aQ.mp hq;have ht:=I1.tupInts (hps.to x hx) (by rw[two x hx];simp[tl]);obtain⟨a,o,items,n,ea,ho,hc,hd,hi,_⟩:=ht;injection ea with ea
  subst ea;rw[two x hx] at hi;have hmem:un x.2∈ts:=by rw[<- epq];exact aQ.mpr ⟨(x.1,un x.2),hq,rfl⟩
  obtain⟨b0,b1,b2,b3⟩:=hrg _ hmem;exact⟨⟨o,items,n,ho,hc,hd,Srt.ints_items hi⟩,b0,b1,b2,b3⟩
 have run:∀ {c:String} {its:List Value},its=pq.map (λq=>bp q.1)->Srt.SetSrc X.prog X.w s1.heap l c its.toArray.size (λi v=>its.toArray[i]?=some v) ->
   wpAny (model X.prog X.w) X.A (call (.type "set") [.ref l]) (λv s2=>wpAny (model X.prog X.w) X.A (spliced []) (λvs s3=>wpAny (model X.prog X.w) X.A (call (.builtin "sorted") (v::vs)) (EP X pins σ Q) X.xe s3) X.xe s2) X.xe s1:=by
  intro c its hits hsrc;refine Srt.call_bagT hh ∅ hsrc hits hT (by show (ps.map _).length<300;rw[aa];omega) λh' tk qs hk hB hnd hmem hqp=>cV ?_
  obtain⟨es,ep,tb,bt,_,hp,hq⟩:=hB;have hqpl:qs.length<=ts.length:=by
   have:=STab.sub_len hnd (λt ht=>(hmem t).mp ht);rw[aa,epq] at this;exact this
  have hsz:es.size=qs.length:=by have:=hp.length_eq;simpa using this
  have hzl:es.size<=sizeLine:=by rw[sizeLine_eq];omega
  have hvals:(es.toList.map (·.2)).Perm (qs.map λq=>bp q.1):=by
   refine (hp.map _).trans ?_;rw[bC];exact .rfl
  have hti:∀ q∈qs,Srt.TupInts h' (.ref q.1) (tl q.2):=λq hq'=>by
   obtain⟨⟨o,items,n,ho,hc,hd,hi⟩,_⟩:=hq q hq';exact⟨q.1,o,items,n,rfl,ho,hc,hd,Srt.items_ints hi,by simp[tl]⟩
  refine Srt.sorted_any (O:=Srt.lexOrd) (key:=Srt.tupKey h') (knd:=tuples' true) (s:={s1 with heap:=h',toks:=tk}) (Srt.coll_bag (A:=X.A.in1) hh bt hzl) (λvs h=>by rw[h.length_eq,aa,aI];exact hzl) (λvs s' hC k=>?_) λvs out h1 h2 tk' n hC ho hs k1 k2 hD=>?_
  ·refine Srt.asks_tups (λv hv=>?_) k;obtain⟨q,hq',rfl⟩:=aQ.mp ((hC.trans hvals).mem_iff.mp hv);exact⟨_,hti q hq'⟩
  ·obtain⟨qs',hqq,rfl⟩:=a1x (ho.trans (hC.trans hvals)) rfl;have I3:Inv X pins σ H1 {s1 with heap:=h1,toks:=tk'}:=I1.kept λb o eb=>k1 b o (hk b o eb)
   have hps':K7 H1 (qs'.map λq=>(q.1,tl q.2)) (qs'.map (·.2)):=by
    refine⟨λx hx=>?_,by rw[bC,bC];rfl⟩;obtain⟨q',hq',rfl⟩:=aQ.mp hx;obtain⟨z,hz',e'⟩:=aQ.mp (hqp q' (hqq.mem_iff.mp hq'));subst e';have:=hps.to z hz';rw[two z hz'] at this;exact this
   have hlen:qs'.length<=sizeLine:=by rw[hqq.length_eq,<- hsz];exact hzl
   have hres:=q (qs'.map λq=>(q.1,tl q.2)) (qs'.map (·.2)) h1.objs.size hps' ?_ ?_ I3.fresh
   ·rw[bC] at hres;have hres':Q (.ref h1.objs.size) (upd H1 h1.objs.size (.lst (qs'.map λq:Addr×(Int×Int)=>V.ref q.1))):=hres;refine⟨.ref h1.objs.size,_,I3.laid (t':=tk') (o:=.lst (qs'.map λq:Addr×(Int×Int)=>V.ref q.1)) k2 (ao _) ⟨by rw[aa];exact hlen,_,n,a0W (f:=λq:Addr×(Int×Int)=>q.1) qs',hD⟩,rfl,hres'⟩
   ·have hnd':(qs'.map (·.2)).Nodup:=(hqq.map _).nodup_iff.mpr hnd;refine STab.lex_of ?_ hnd';rw[gk] at hs ⊢;refine hs.imp_of_mem λ{a b} ha hb hab=>?_
    have e1:=Srt.tupKey_of (hti a (hqq.mem_iff.mp ha));have e2:=Srt.tupKey_of (hti b (hqq.mem_iff.mp hb));have hab:HT.lexLt (Srt.tupKey h' (.ref b.1)) (Srt.tupKey h' (.ref a.1))=false:=hab;rw[e1,e2] at hab;exact hab
   ·intro t';rw[(hqq.map (·.2)).mem_iff,hmem,epq]
 have evs:∀ {its:List Value},B3 (ps.map λx=>V.ref x.1) its->its=pq.map (λq=>bp q.1):=λ{its} r=>by
  rw[a0Q (f:=λx:Addr×List Int=>x.1) r];show _=(ps.map λx=>(x.1,un x.2)).map λq=>bp q.1
  rw[bC];rfl
 rcases src with hs | hs
 ·obtain⟨its,r,pl,_⟩:=I1.list hs;exact run (evs r) (Srt.src_list pl.isList)
 ·obtain⟨its,r,pl,_⟩:=I1.tuple hs;exact run (evs r) (Srt.src_tup pl)
end
end L2
end
section
namespace L2
open PySem PySem.Spec PyProof.Rows
inductive Pl (H:Hp):V->String->Prop where
 | non:Pl H .non "NoneType"
 | bl (x:Bool):Pl H (.bl x) "bool"
 | int (i:Int):Pl H (.int i) "int"
 | str (x:Str):Pl H (.str x) "str"
 | lst {a:Addr} {xs:List V} (e:H a=some (.lst xs)):Pl H (.ref a) "list"
 | tup {a:Addr} {xs:List V} (e:H a=some (.tup xs)):Pl H (.ref a) "tuple"
 | dK {a:Addr} {kvs:List (Key×V)} (e:H a=some (.dK kvs)):Pl H (.ref a) "dict"
 | dT {a:Addr} {kvs:List (List Key×V)} (e:H a=some (.dT kvs)):Pl H (.ref a) "dict"
theorem Pl.ty {K:ae}{H:Hp}{x:V}{T:String}(p:Pl H x T):R8 K H x (.type T):=by
 cases p with
 | non=>exact .non
 | bl x=>exact .bl x
 | int i=>exact .int i
 | str x=>exact .str x
 | lst e=>exact .lst e
 | tup e=>exact .tup e
 | dK e=>exact .dK e
 | dT e=>exact .dT e
def a3w (T c:String):Bool:=T == c || (T == "bool" && c == "int")
theorem T3 {K:ae}{H:Hp}{x:V}{T:String}(p:Pl H x T){c:String}(hc:c="int"\/c="bool"\/c="tuple"):PySem.W.kitOne K (.type T) (.type c)=some (a3w T c):=by
 rcases hc with rfl | rfl | rfl<;>cases p<;>rfl
def isI:V->Bool
 | .int _=>true
 | _=>false
theorem a9v {H:Hp}{x:V}{T:String}(p:Pl H x T):(a3w T "int" && !a3w T "bool")=isI x:=by cases p<;>rfl
def a0O (x:V)(lo hi:Int):Bool:=match x with
 | .int i=>decide (lo<=i) && decide (i<=hi)
 | _=>false
theorem a7Q {x:V}{lo hi:Int}(h:isI x=false):a0O x lo hi=false:=by cases x<;>first | rfl | cases h
theorem a7A {x:V}(h:isI x=true):∃ i,x=.int i:=by cases x<;>first | exact⟨_,rfl⟩ | cases h
def a3T:Sp:=λvs H Q _=>∃(x:V) (T:String),vs=[x]/\Pl H x T/\Q (.bl (isI x)) H
def a2f:Sp:=λvs H Q _=>∃(x:V) (T:String) (lo hi:Int),vs=[x,.int lo,.int hi]/\Pl H x T/\Q (.bl (a0O x lo hi)) H
def M5 (H:Hp):V->Option (V×V)
 | .ref a=>match H a with
  | some (.tup [x,y])=>some (x,y)
  | _=>none
 | _=>none
theorem a3G {H:Hp}{a:Addr}{xs:List V}(e:H a=some (.tup xs)):(M5 H (.ref a)).isSome=decide (xs.length=2):=by
 unfold M5;dsimp only;rw[e]
 match xs with
 | []=>rfl
 | [_]=>rfl
 | [_,_]=>rfl
 | _::_::_::_=>simp
theorem a4Y {H:Hp}{x:V}{T:String}(p:Pl H x T)(h:a3w T "tuple"=false):M5 H x=none:=by
 cases p with
 | tup e=>cases h
 | lst e=>unfold M5;dsimp only;rw[e]
 | dK e=>unfold M5;dsimp only;rw[e]
 | dT e=>unfold M5;dsimp only;rw[e]
 | _=>rfl
theorem Y2 {H:Hp}{x y z:V}(h:M5 H x=some (y,z)):∃ a,x=.ref a/\H a=some (.tup [y,z]):=by
 unfold M5 at h;split at h
 ·rename_i a;split at h
  ·rename_i p q e;cases h;exact⟨a,rfl,e⟩
  ·cases h
 ·cases h
def a0H (H:Hp)(x:V)(n:Int):Bool:=match M5 H x with
 | some (y,z)=>a0O y 0 (n-1) && (match y with | .int i=>a0O z (i+1) (n-1) | _=>false)
 | none=>false
def a2e:Sp:=λvs H Q _=>∃(x:V) (T:String),vs=[x]/\Pl H x T/\Q (.bl (M5 H x).isSome) H
def a3S:Sp:=λvs H Q _=>∃(x:V) (T:String) (n:Int),vs=[x,.int n]/\Pl H x T/\(∀ y z,M5 H x=some (y,z)->(∃ T,Pl H y T)/\∃ T,Pl H z T)/\Q (.bl (a0H H x n)) H
end L2
end
section
namespace L2
open PySem PySem.Spec PyProof.Rows
def PlD (H:Hp):Nat->V->Prop
 | 0,y=>∃ T,Pl H y T
 | m+1,y=>(∃ T,Pl H y T)/\∀ a ys,y=.ref a->H a=some (.tup ys)->∀ z∈ys,PlD H m z
theorem Pl.mono {H H':Hp}{y:V}{T:String}(s:B1 H H')(p:Pl H y T):Pl H' y T:=by
 cases p with
 | non=>exact .non
 | bl x=>exact .bl x
 | int i=>exact .int i
 | str x=>exact .str x
 | lst e=>exact .lst (s _ _ e)
 | tup e=>exact .tup (s _ _ e)
 | dK e=>exact .dK (s _ _ e)
 | dT e=>exact .dT (s _ _ e)
theorem Pl.back {H H':Hp}{a:Addr}{ys:List V}{T:String}(s:B1 H H')(p:Pl H (.ref a) T)(e:H' a=some (.tup ys)):H a=some (.tup ys):=by
 cases p with
 | lst e2=>have:=s _ _ e2;rw[e] at this;cases this
 | tup e2=>have:=s _ _ e2;rw[e] at this;cases this;exact e2
 | dK e2=>have:=s _ _ e2;rw[e] at this;cases this
 | dT e2=>have:=s _ _ e2;rw[e] at this;cases this
theorem PlD.pl {H:Hp}{m:Nat}{y:V}(h:PlD H m y):∃ T,Pl H y T:=by
 cases m with
 | zero=>exact h
 | succ m=>exact h.1
theorem PlD.mono {H H':Hp}(s:B1 H H'):∀ {m:Nat} {y:V},PlD H m y->PlD H' m y
 | 0,y,⟨T,p⟩=>⟨T,p.mono s⟩
 | m+1,y,⟨⟨T,p⟩,h⟩=>⟨⟨T,p.mono s⟩,λa ys e ea z hz=>by
  subst e
  exact PlD.mono s (h a ys rfl (p.back s ea) z hz)⟩
end L2
end
section
namespace L2
open PySem PySem.Spec PyProof.Rows
theorem a2K:∀ {vs:List Value} {ns:List Int},IntsAre vs ns->∃ xs:Array (Int×Tok),vs.toArray=intItems xs/\xs.toList.map (·.1)=ns:=by
 intro vs ns hi;obtain⟨xs,e⟩:=hi.allInts.items;refine⟨xs,e,?_⟩;rw[<- nums_intItems,<- e];exact hi.numsOf
end L2
end
section
namespace L2
open PySem PySem.Spec PyProof.Rows
section
variable {X:Cx}
structure Bt4 (mg:Str->Option Value):Prop where
 repr:mg "repr"=none
end
end L2
end
section
namespace L2
open PySem PySem.Spec PyProof.Rows
theorem b0R {i:Nat}{v:V}{σ:St}{H:Hp}{Q:St->Hp->Prop}:L6 i v σ H Q=Q (σ.set i (some v)) H:=rfl
end L2
end
section
namespace L2
open PySem PySem.Spec PyProof.Rows
def kD:Key->PyData
 | .inl i=>.int i
 | .inr x=>.str x
def sD:V->PyData
 | .bl b=>.bool b
 | .int i=>.int i
 | .str x=>.str x
 | _=>.none
def isS:V->Bool
 | .non=>true
 | .bl _=>true
 | .int _=>true
 | .str _=>true
 | _=>false
mutual
def noL:PyData->Bool
 | .list _=>false
 | .tuple xs=>a1z xs
 | .none=>true
 | .bool _=>true
 | .int _=>true
 | .str _=>true
 | .dict _=>true
def a1z:List PyData->Bool
 | []=>true
 | x::r=>noL x && a1z r
end
mutual
def sOk:PyData->Bool
 | .list xs=>a1q xs
 | .tuple xs=>a1q xs
 | .none=>true
 | .bool _=>true
 | .int _=>true
 | .str x=>PyData.strOk x
 | .dict _=>true
def a1q:List PyData->Bool
 | []=>true
 | x::r=>sOk x && a1q r
end
mutual
inductive Dd (H:Hp):V->PyData->Prop
 | sc {x:V}:isS x=true->Dd H x (sD x)
 | tup {a:Addr} {xs:List V} {ds:List PyData}:H a=some (.tup xs)->Dds H xs ds->Dd H (.ref a) (.tuple ds)
 | lst {a:Addr} {xs:List V} {ds:List PyData}:H a=some (.lst xs)->Dds H xs ds->Dd H (.ref a) (.list ds)
 | dct {a:Addr} {kvs:List (Key×V)}:H a=some (.dK kvs)->(∀ kv∈kvs,isS kv.2=true)->Dd H (.ref a) (.dict (kvs.map λkv=>(kD kv.1,sD kv.2)))
 | dc1 {a:Addr} {i:Int} {x:V} {d:PyData}:H a=some (.dK [(.inl i,x)])->Dd H x d->noL d=true->Dd H (.ref a) (.dict [(.int i,d)])
inductive Dds (H:Hp):List V->List PyData->Prop
 | nil:Dds H [] []
 | cons {x:V} {d:PyData} {xs:List V} {ds:List PyData}:Dd H x d->Dds H xs ds->Dds H (x::xs) (d::ds)
end
mutual
theorem Dd.same {H H':Hp}(s:B1 H H'):∀ {x:V} {d:PyData},Dd H x d->Dd H' x d
 | _,_,.sc h=>.sc h
 | _,_,.tup e h=>.tup (s _ _ e) (Dds.same s h)
 | _,_,.lst e h=>.lst (s _ _ e) (Dds.same s h)
 | _,_,.dct e h=>.dct (s _ _ e) h
 | _,_,.dc1 e h n=>.dc1 (s _ _ e) (Dd.same s h) n
theorem Dds.same {H H':Hp}(s:B1 H H'):∀ {xs:List V} {ds:List PyData},Dds H xs ds->Dds H' xs ds
 | _,_,.nil=>.nil
 | _,_,.cons h t=>.cons (Dd.same s h) (Dds.same s t)
end
section
variable {X:Cx}{pins:List (Addr×Obj)}{σ:St}{H:Hp}{s:Shared}
theorem a2i {h:Heap}{x:V}{u:Value}(hs:isS x=true)(r:B6 x u):Reads h u (sD x) []:=by
 cases x with
 | non=>cases (show u=cJ from r);exact .none
 | bl b=>cases (show u=aZ b from r);exact .bool b
 | int i=>obtain⟨t,rfl⟩:=(show ∃ t,u=cC i t from r);exact .int i t
 | str x=>obtain⟨t,rfl⟩:=(show ∃ t,u=fA x t from r);exact .str x t
 | _=>cases hs
theorem a0Z {P:Program}{w:World}{h:Heap}:∀ {es:List DictEntry} {vs:List (Key×Value)} {kvs:List (Key×V)},Pairs (I0 P w) es vs->KV kvs vs->(∀ kv∈kvs,isS kv.2=true) ->
  ReadsAll h (es.map (·.key)) (kvs.map λkv=>kD kv.1) []/\ReadsAll h (es.map (·.val)) (kvs.map λkv=>sD kv.2) []
 | _,_,_,.nil,.nil,_=>⟨.nil,.nil⟩
 | _,_,_,.cons (e:=e) hk hv t,.cons (a:=kv) r q,hs=>by
  obtain⟨h1,h2⟩:=a0Z t q λx hx=>hs x (aq _ hx)
  have a1:Reads h e.key (kD kv.1) []:=by
   have hk':=hk;rw[<- r.1] at hk';rcases E5 hk' with ⟨i,t,e1,e2⟩ | ⟨x,t,e1,e2⟩
   ·rw[e1,e2];exact .int i t
   ·rw[e1,e2];exact .str x t
  have a2:Reads h e.val (sD kv.2) []:=by rw[hv];exact a2i (hs kv (aD ..)) r.2
  exact⟨.cons (as:=[]) (bs:=[]) a1 h1,.cons (as:=[]) (bs:=[]) a2 h2⟩
mutual
theorem Inv.readsD (I:Inv X pins σ H s):∀ {x:V} {d:PyData} {u:Value},Dd H x d->B6 x u->∃ as,Reads s.heap u d as/\(noL d=true->sysModules∉as)
 | _,_,_,.sc h,r=>⟨[],a2i h r,λ_ z=>nomatch z⟩
 | _,_,_,.tup (a:=a) e hs,r=>by
  cases (show _=bp a from r);obtain⟨z,its,rv,o,ho,hc,n,hd⟩:=I.hok a _ e;obtain⟨as,q,hn⟩:=Inv.readsDs I hs rv;exact⟨_,.tuple ho hc hd (~~~q),λh=>hn (by rw[noL] at h;exact h)⟩
 | _,_,_,.lst (a:=a) e hs,r=>by
  cases (show _=bp a from r);obtain⟨z,its,n,rv,ho⟩:=I.hok a _ e;obtain⟨as,q,hn⟩:=Inv.readsDs I hs rv;exact⟨_,.list ho rfl rfl (~~~q),λh=>(by rw[noL] at h;cases h)⟩
 | _,_,_,.dct (a:=a) (kvs:=kvs) e hs,r=>by
  cases (show _=bp a from r);obtain⟨z,hd,vs,rel,o,es,ep,ho,hx,hda,hk,hp,hn⟩:=a6J I.hok e;obtain⟨h1,h2⟩:=a0Z (h:=s.heap) hp rel hs;refine⟨_,.dict (as:=[]) (bs:=[]) ho hx.1 hda ?_ ?_,λ_=>?_⟩
  ·rw[bC];exact h1
  ·rw[bC];exact h2
  ·intro z;have z':sysModules=a:= ~~~z
   rw[<- z'] at hd;simp at hd
 | _,_,_,.dc1 (a:=a) (i:=i) e hx hno,r=>by
  cases (show _=bp a from r);obtain⟨z,hd,vs,rel,o,es,ep,ho,hx',hda,hk,hp,hn⟩:=a6J I.hok e;cases rel with
  | cons r1 q1 =>
   cases q1;generalize eE:es.toList=l at hp;cases hp with
   | cons hk1 hv1 t1 =>
    cases t1;obtain⟨as,h1,n1⟩:=Inv.readsD I hx r1.2;rw[<- hv1] at h1;rw[<- r1.1] at hk1;refine⟨_,.dict (as:=[]) (bs:=as) ho hx'.1 hda ?_ ?_,λ_=>?_⟩
    ·rw[eE];refine .cons (as:=[]) (bs:=[]) ?_ .nil;rcases E5 (k:=gr i) hk1 with ⟨i',t,e1,e2⟩ | ⟨x,t,e1,e2⟩
     ·cases e1;dsimp only;rw[e2];exact .int _ t
     ·cases e1
    ·rw[eE];have:=ReadsAll.cons h1 ReadsAll.nil
     rwa [b9] at this
    ·intro z;rcases aO.mp z with z' | z'
     ·rw[<- z'] at hd;simp at hd
     ·exact n1 hno z'
theorem Inv.readsDs (I:Inv X pins σ H s):∀ {xs:List V} {ds:List PyData} {us:List Value},Dds H xs ds->B3 xs us->∃ as,ReadsAll s.heap us ds as/\(a1z ds=true->sysModules∉as)
 | _,_,_,.nil,.nil=>⟨_,.nil,λ_ z=>nomatch z⟩
 | _,_,_,.cons h t,.cons r q=>by
  obtain⟨as,h1,n1⟩:=Inv.readsD I h r;obtain⟨bs,h2,n2⟩:=Inv.readsDs I t q;refine⟨_,.cons h1 h2,λhn=>?_⟩;rw[a1z,bB] at hn;intro z;rcases aA.mp z with z | z
  ·exact n1 hn.1 z
  ·exact n2 hn.2 z
end
structure Nx (k m:Nat)(d:PyData):Prop where
 mix:noL d=true\/d.hasDict=false
 sh:d.showable=true
 dp:d.depth<=k
 lv:d.leavesShort 100=true
 bk:d.bulk<=m
theorem Nx.fits {k m:Nat}{d:PyData}(h:Nx k m d)(hm:m<=100000):d.shown.length<=sizeLine:=by
 have h1:=PyData.shown_le_bulk 100 (by decide) d h.lv;have h2:=h.bk;rw[sizeLine_eq];omega
def a6U:List V->Hp->VK->Prop:=λxs H Q=>∃(x:V) (d:PyData),xs=[x]/\Dd H x d/\Nx 50 100000 d/\Q (.str d.shown) H
theorem a3E (hg:X.A.guards=some [])(hu:X.A.units+64<cLine):M0 X (.builtin "repr") a6U:=by
 intro pins s σ H xs us Q I r h;obtain⟨x,d,rfl,hd,hn,q⟩:=h;obtain⟨u,rfl,rx⟩:=S0 r;have fin:∀ h' u tk,(∀ b o,s.heap.get? b=some o->h'.get? b=some o)->EP X pins σ Q (.str d.shown u) {s with heap:=h',toks:=tk}:=λh' u tk hk=>⟨.str d.shown,H,I.kept (t':=tk) hk,⟨u,rfl⟩,q⟩
 have fits:=hn.fits (ao _);have ref:∀ {a:Addr},x=.ref a->wpAny (model X.prog X.w) X.A (call (.builtin "repr") [u]) (EP X pins σ Q) X.xe s:=λ{a} e=>by
  subst e;cases (show u=bp a from rx);obtain⟨as,hr,hs⟩:=I.readsD hd rfl;refine PySem.repr_of_reads' hr hn.sh (λhdict=>?_) hg (by have:=hn.dp;omega) (λ_ _ e=>e) fin fits;rcases hn.mix with h | h
  ·exact hs h
  ·rw[h] at hdict;cases hdict
 cases hd with
 | sc hs =>
  cases x with
  | non=>cases (show u=cJ from rx);exact PySem.P.repr_of_none (fin s.heap _ _ λ_ _ e=>e)
  | bl b =>
   cases (show u=aZ b from rx);refine PySem.P.repr_of_bool ?_;have:=fin s.heap s.toks (s.toks+1) λ_ _ e=>e
   rw[show (sD (.bl b)).shown=(if b then "True" else "False":Str) from by show (PyData.bool b).shown=_;rw[PyData.shown_bool]] at this;cases b<;>exact this
  | int i =>
   obtain⟨t,rfl⟩:=(show ∃ t,u=cC i t from rx)
   have hsh:=hn.sh;refine PySem.P.repr_of_int (by have h:=hsh;rw[show sD (.int i)=bW i from rfl,PyData.showable] at h;exact of_decide_eq_true h) ?_;have:=fin s.heap s.toks (s.toks+1) λ_ _ e=>e
   rw[show (sD (.int i)).shown=((toString i:String):Str) from PyData.shown_int i] at this;exact this
  | str y =>
   obtain⟨t,rfl⟩:=(show ∃ t,u=fA y t from rx)
   have e:(sD (.str y)).shown=reprText y:=PyData.shown_str y;rw[e] at fits;refine PySem.P.repr_of_str ?_ fits;have:=fin s.heap s.toks (s.toks+1) λ_ _ e=>e
   rw[e] at this;exact this
  | _=>cases hs
 | tup _ _=>exact ref rfl
 | lst _ _=>exact ref rfl
 | dct _ _=>exact ref rfl
 | dc1 _ _ _=>exact ref rfl
theorem X6 (hg:X.A.guards=some [])(hu:X.A.units+64<cLine):M0 X (.builtin "repr") a6U:=a3E hg hu
end
end L2
end
section
namespace L2
open PySem PySem.Spec PyProof.Rows
structure Nc (c k m:Nat)(d:PyData):Prop where
 nl:c≠2->noL d=true
 nd:c≠1->d.hasDict=false
 sh:d.showable=true
 dp:d.depth<=k
 lv:d.leavesShort 100=true
 bk:d.bulk<=m
 so:sOk d=true
structure Ncs (c k m:Nat)(ds:List PyData):Prop where
 nl:c≠2->a1z ds=true
 nd:c≠1->PyData.hasDictAll ds=false
 sh:PyData.showableAll ds=true
 dp:PyData.depthAll ds<=k
 lv:PyData.leavesShortAll 100 ds=true
 bk:PyData.bulkAll ds<=m
 so:a1q ds=true
section
variable {c k m:Nat}{d:PyData}{ds:List PyData}{H:Hp}
theorem Nc.nx (h:Nc c k m d)(hk:k<=50)(hm:m<=100000):Nx 50 100000 d:=by
 refine⟨?_,h.sh,aH h.dp hk,h.lv,aH h.bk hm⟩;by_cases e:c=2
 ·exact .inr (h.nd ∅)
 ·exact .inl (h.nl e)
theorem Nc.mono {k' m':Nat}(h:Nc c k m d)(hk:k<=k')(hm:m<=m'):Nc c k' m' d:=⟨h.nl,h.nd,h.sh,aH h.dp hk,h.lv,aH h.bk hm,h.so⟩
theorem Nc.kind {c':Nat}(h:Nc 0 k m d):Nc c' k m d:=⟨λ_=>h.nl (by decide),λ_=>h.nd (by decide),h.sh,h.dp,h.lv,h.bk,h.so⟩
theorem Ncs.nil:Ncs c k m []:=⟨λ_=>by rw[a1z],λ_=>by rw[PyData.hasDictAll],by rw[PyData.showableAll],by rw[PyData.depthAll];exact bn _,by rw[PyData.leavesShortAll],by rw[PyData.bulkAll];exact bn _,by rw[a1q]⟩
theorem Ncs.cons {m':Nat}(h:Nc c k m d)(t:Ncs c k m' ds):Ncs c k (m+1+m') (d::ds):=by
 refine⟨λe=>?_,λe=>?_,?_,?_,?_,?_,by rw[a1q,h.so,t.so];rfl⟩
 ·rw[a1z,h.nl e,t.nl e];rfl
 ·rw[PyData.hasDictAll,h.nd e,t.nd e];rfl
 ·rw[PyData.showableAll,h.sh,t.sh];rfl
 ·rw[PyData.depthAll];exact Nat.max_le.mpr ⟨h.dp,t.dp⟩
 ·rw[PyData.leavesShortAll,h.lv,t.lv];rfl
 ·rw[PyData.bulkAll];have:=h.bk;have:=t.bk;omega
theorem Ncs.all:∀ {ds:List PyData},(∀ d∈ds,Nc c k m d)->Ncs c k (ds.length*(m+1)) ds
 | [],_=>.nil
 | d::r,h=>by
  have:=Ncs.cons (h d (aD ..)) (Ncs.all (ds:=r) λx hx=>h x (aq _ hx));rw[az,iI,Nat.add_comm];exact this
theorem Nc.tup (h:Ncs c k m ds):Nc c (k+1) m (.tuple ds):=by
 refine⟨λe=>?_,λe=>?_,?_,?_,?_,?_,by rw[sOk];exact h.so⟩
 ·rw[noL];exact h.nl e
 ·rw[PyData.hasDict];exact h.nd e
 ·rw[PyData.showable];exact h.sh
 ·rw[PyData.depth];have:=h.dp;omega
 ·rw[PyData.leavesShort];exact h.lv
 ·rw[PyData.bulk];exact h.bk
theorem Nc.lst (h:Ncs 0 k m ds):Nc 2 (k+1) m (.list ds):=by
 refine⟨λe=>absurd rfl e,λe=>?_,?_,?_,?_,?_,by rw[sOk];exact h.so⟩
 ·rw[PyData.hasDict];exact h.nd (by decide)
 ·rw[PyData.showable];exact h.sh
 ·rw[PyData.depth];have:=h.dp;omega
 ·rw[PyData.leavesShort];exact h.lv
 ·rw[PyData.bulk];exact h.bk
def Sm (i:Int):Prop:=i.natAbs.log2<1920/\(PyData.shown (.int i)).length<=100
theorem b0w {i:Int}(h:i.natAbs<10 ^ 12):Sm i:=by
 refine⟨?_,aH (PyData.shown_int_le h) (by decide)⟩;have h12:(10:Nat) ^ 12=1000000000000:=by decide
 have h40:(2:Nat) ^ 40=1099511627776:=by decide
 rcases ja i.natAbs with e | e
 ·rw[e];decide
 ·have:i.natAbs.log2<40:=(i0 ∅).mpr ∅;omega
theorem Nc.int {i:Int}(h:Sm i):Nc c k m (.int i):=by
 refine⟨λ_=>by rw[noL],λ_=>by rw[PyData.hasDict],?_,?_,?_,?_,by rw[sOk]⟩
 ·rw[PyData.showable,decide_eq_true_iff];exact h.1
 ·rw[PyData.depth];exact bn _
 ·rw[PyData.leavesShort,decide_eq_true_iff];exact h.2
 ·rw[PyData.bulk];exact bn _
theorem Nc.bool {b:Bool}:Nc c k m (.bool b):=⟨λ_=>by rw[noL],λ_=>by rw[PyData.hasDict],by rw[PyData.showable],by rw[PyData.depth];exact bn _,by rw[PyData.leavesShort],by rw[PyData.bulk];exact bn _,by rw[sOk]⟩
theorem Nc.none:Nc c k m .none:=⟨λ_=>by rw[noL],λ_=>by rw[PyData.hasDict],by rw[PyData.showable],by rw[PyData.depth];exact bn _,by rw[PyData.leavesShort],by rw[PyData.bulk];exact bn _,by rw[sOk]⟩
theorem a6N {x:Str}(h1:(x.cps.toList.all λc=>decide (c<1114112))=true):(x.cps.toList.all λc=>decide (c<16 ^ 8))=true/\PyData.strOk x=true:=by
 refine⟨br.mpr λc hc=>?_,?_⟩
 ·have:=of_decide_eq_true (br.mp h1 c hc);exact decide_eq_true (cW this (by decide))
 ·unfold PyData.strOk;rw[<- Array.all_toList];exact h1
theorem Nc.str {x:Str}(h1:(x.cps.toList.all λc=>decide (c<1114112))=true)(h2:x.cps.size<=m):Nc c k m (.str x):=⟨λ_=>by rw[noL],λ_=>by rw[PyData.hasDict],by rw[PyData.showable],by rw[PyData.depth];exact bn _,by rw[PyData.leavesShort];exact (a6N h1).1,by rw[PyData.bulk];exact h2,by rw[sOk];exact (a6N h1).2⟩
theorem Nc.dict0:Nc 1 (k+1) m (.dict []):=by
 refine⟨λ_=>by rw[noL],λe=>absurd rfl e,?_,?_,?_,?_,by rw[sOk]⟩
 ·rw[PyData.showable,PyData.showableKv]
 ·rw[PyData.depth,PyData.depthKv];exact Nat.le_add_left _ _
 ·rw[PyData.leavesShort,PyData.leavesShortKv]
 ·rw[PyData.bulk,PyData.bulkKv];exact bn _
theorem Dd.pl {v:V}{d:PyData}(h:Dd H v d):∃ T,Pl H v T:=by
 cases h with
 | sc hs =>
  cases v with
  | non=>exact⟨_,.non⟩
  | bl b=>exact⟨_,.bl b⟩
  | int i=>exact⟨_,.int i⟩
  | str x=>exact⟨_,.str x⟩
  | _=>cases hs
 | tup e _=>exact⟨_,.tup e⟩
 | lst e _=>exact⟨_,.lst e⟩
 | dct e _=>exact⟨_,.dK e⟩
 | dc1 e _ _=>exact⟨_,.dK e⟩
mutual
theorem a6k:∀ {d:PyData},sOk d=true->d.hasDict=false->d.canLay0=true
 | .none,_,_=>by rw[PyData.canLay0]
 | .bool _,_,_=>by rw[PyData.canLay0]
 | .int _,_,_=>by rw[PyData.canLay0]
 | .str x,h,_=>by rw[PyData.canLay0];rw[sOk] at h;exact h
 | .tuple xs,h,n=>by rw[PyData.canLay0];rw[sOk] at h;rw[PyData.hasDict] at n;exact a1F h n
 | .list xs,h,n=>by rw[PyData.canLay0];rw[sOk] at h;rw[PyData.hasDict] at n;exact a1F h n
 | .dict _,_,n=>by rw[PyData.hasDict] at n;cases n
theorem a1F:∀ {ds:List PyData},a1q ds=true->PyData.hasDictAll ds=false->PyData.canLayAll0 ds=true
 | [],_,_=>by rw[PyData.canLayAll0]
 | d::r,h,n=>by
  rw[a1q,bB] at h;rw[PyData.hasDictAll,dM] at n;rw[PyData.canLayAll0,a6k h.1 n.1,a1F h.2 n.2];rfl
end
theorem Nc.shaped (h:Nc c k m d)(hk:k<=64)(hn:d.hasDict=false):SeqAt.shaped d=true:=by
 unfold SeqAt.shaped;rw[a6k h.so hn,decide_eq_true (aH h.dp hk)];rfl
end
end L2
end
section
namespace L2
open PySem
def b0W (g:TG)(tc:TT)(te:TE)(p:Addr)(fr:St)(H1:Hp)(x:V)(c:Bool)(f:V)(N:Nat):Prop :=
 ∀(v:Option V) (ys:List V) (R:St->Hp->Prop),ys.length<=N->(c=true->∀ v',R (v'::fr) (upd (upd H1 p (.lst ys)) p (.lst (ys++[f]))))->(c=false->∀ v',R (v'::fr) (upd H1 p (.lst ys))) ->
  g x (v::fr) (upd H1 p (.lst ys)) fun τ2 H2=>tc τ2 H2 λb H3=>if b=true then te τ2 H3 λw H4=>∃ zs,H4 p=some (.lst zs)/\zs.length<sizeLine/\R τ2 (upd H4 p (.lst (zs++[w]))) else R τ2 H3
theorem a5j {α:Type}(c:α->Bool)(f:α->V)(l:List α):((l.filter c).map f).length<=l.length:=by rw[aa];exact List.length_filter_le _ _
theorem a4m {α:Type}(c:α->Bool)(f:α->V)(l:List α)(x:α):((l++[x]).filter c).map f=(l.filter c).map f++(if c x=true then [f x] else []):=by
 rw[List.filter_append,aF];congr 1;by_cases h:c x=true
 ·rw[List.filter_cons_of_pos h,if_pos h];rfl
 ·rw[List.filter_cons_of_neg h,if_neg h];rfl
theorem a6A {α:Type}(l:List α):l.filter (λ_=>true)=l:=List.filter_eq_self.mpr λ_ _=>rfl
section
variable {K:ae}{a p:Addr}{g:TG}{tc:TT}{te:TE}{fr:St}{H1:Hp}{EE:Hp->Prop}
theorem W5 {α:Type}{l:List α}{i:Nat}{x:α}(h:l[i]?=some x):l.take (i+1)=l.take i++[x]:=by rw[List.take_succ,h];rfl
theorem a6j {α:Type}{xs:List α}(V0:α->V)(c:α->Bool)(f:α->V)(hn:xs.length<=16000000)(hl:SqL K H1 a (xs.map V0))(hp:H1 p=none)(hs:∀ x∈xs,b0W g tc te p fr H1 (V0 x) (c x) (f x) xs.length)
  (hd:EE (upd H1 p (.lst ((xs.filter c).map f)))):lcW g tc te p (Itl K a) (none::fr) (upd H1 p (.lst [])) EE:=by
 refine P1 (xs:=xs.map V0) (λi τ H=>(∃ v,τ=v::fr)/\H=upd H1 p (.lst (((xs.take i).filter c).map f))) ⟨⟨_,rfl⟩,by simp⟩ ?_ ?_ ?_
 ·rintro i τ H _ ⟨_,rfl⟩;exact ((B1.refl H1).upd hp).seq hl
 ·rintro i x τ H hx ⟨⟨v,rfl⟩,rfl⟩ _;rw[aJ] at hx;cases h0:xs[i]? with
  | none=>rw[h0] at hx;cases hx
  | some y =>
  rw[h0] at hx;cases aG hx;have hi:=(aK.mp h0).1;refine hs y (aU h0) v _ _ (aH (a5j c f _) (by rw[bq];omega)) (λh v'=>?_) λh v'=>?_
  ·refine⟨⟨_,rfl⟩,?_⟩;rw[a6W,W5 h0,a4m,if_pos h]
  ·refine⟨⟨_,rfl⟩,?_⟩;rw[W5 h0,a4m,if_neg (by rw[h];simp),b9]
 ·rintro τ H ⟨_,rfl⟩;rw[aa,ci];exact hd
theorem a9X {fr:St}{H1:Hp}{p:Addr}{ys:List V}{w:V}{N:Nat}{R:St->Hp->Prop}{v:Option V}{b c:Bool}(e:b=c)(hl:ys.length<=N)(hN:N<=16000000)
  (h1:c=true->∀ v',R (v'::fr) (upd (upd H1 p (.lst ys)) p (.lst (ys++[w])))) (h2:c=false->∀ v',R (v'::fr) (upd H1 p (.lst ys))) :
  if b=true then ∃ zs,upd H1 p (.lst ys) p=some (.lst zs)/\zs.length<sizeLine/\R (v::fr) (upd (upd H1 p (.lst ys)) p (.lst (zs++[w]))) else R (v::fr) (upd H1 p (.lst ys)):=by
 subst e;by_cases hb:b=true
 ·rw[if_pos hb];exact⟨ys,A2,B4 ∅,h1 hb v⟩
 ·rw[if_neg hb];exact h2 (~~~hb) v
theorem a5i {fr:St}{H1:Hp}{p:Addr}{ys:List V}{w:V}{N:Nat}{R:St->Hp->Prop}{v:Option V}(hl:ys.length<=N)(hN:N<=16000000)(h1:true=true->∀ v',R (v'::fr) (upd (upd H1 p (.lst ys)) p (.lst (ys++[w])))) :
  ∃ zs,upd H1 p (.lst ys) p=some (.lst zs)/\zs.length<sizeLine/\R (v::fr) (upd (upd H1 p (.lst ys)) p (.lst (zs++[w]))):=⟨ys,A2,B4 ∅,h1 rfl v⟩
end
end L2
end
section
namespace L2
open PySem PySem.Spec PyProof.Rows
section
variable {X:Cx}{A:Addr->Prop}{P:St->Hp->Prop}{c k m m' n:Nat}{e:Expr}{es:List Expr}{te:TE}{j:Option Str}{pos p2:Pos}
theorem V6 {i:Nat}{x:Str}{t:TA}{pos':Pos}(hN:X.N.Nodup)(hi:X.N[i]?=some x)(hx:Loc X.env.scope x)(he:PA X es t)(hf:X.fn x=true\/X.env.scope.names.lookup x=some .local) :
  PS X (.Assign [.Name x pos'] (.List es p2) pos) (a4v (a8J t) (L6 i)):=E4 hN hi hx (K2 he) rfl hf
theorem R1 {i:Nat}{x:Str}{a b:Expr}{o:Operator}{te:TE}{pos':Pos}(hN:X.N.Nodup)(hi:X.N[i]?=some x)(hx:Loc X.env.scope x)(he:PE X (.BinOp a o b p2) te)(hf:X.fn x=true\/X.env.scope.names.lookup x=some .local) :
  PS X (.Assign [.Name x pos'] (.BinOp a o b p2) pos) (a4v te (L6 i)):=E4 hN hi hx he rfl hf
end
structure Bt5 (mg:Str->Option Value):Prop where
 str:mg "str"=none
theorem a2h {i:Int}(h0:0<=i)(h1:i<1000):Sm i:=b0w (cW (show i.natAbs<1000 by omega) (by decide))
theorem a8v {xs:List V}{k:Int}(h0:0<=k)(h1:k<xs.length):∃ v∈xs,atI xs k=some v:=by
 obtain⟨j,rfl⟩:∃ j:Nat,k=j:=⟨_,(bX h0).symm⟩
 have h3:j<xs.length:=∅
 exact⟨xs[j],cK _,a1N (ak h3)⟩
end L2
end
section
namespace L2
open PySem
section
variable {n g:Int}{us ts:⋯}{par:Int->Int}{rank:Int->Nat}
theorem a4i {l l':⋯}(h:l.Pairwise Lex)(h':l'.Pairwise Lex)(e:∀ x,x∈l↔x∈l'):l=l':=by
 have nd:∀ {m:⋯},m.Pairwise Lex->m.Nodup:=λhm=>hm.imp λ{a b} hab e'=>by subst e';unfold Lex at hab;omega
 refine gC (le:=Lex) (λa b _ _ x y=>by unfold Lex at x y;omega) h h' ?_;exact (dZ (nd h) (nd h')).mpr e
end
def dV:V->PyData
 | .int i=>.int i
 | _=>.none
end L2
end
section
namespace L2
open PySem PySem.Spec PyProof.Rows
def b1P (g:TG)(tb:TS)(D:Q4)(σ:St)(J:It)(H1:Hp):Prop:=a8K (λ_ H R=>R J H) g tb D σ H1
theorem T0 {wi:TI}{g:TG}{tb:TS}{D:Q4}{σ:St}{H:Hp}:a8K wi g tb D σ H=wi σ H (λJ H1=>b1P g tb D σ J H1):=rfl
end L2
end
section
namespace L2
open PySem
structure TB where
 vs:List Int
 ws:List Int
 par:Int->Int
end L2
end
section
namespace L2
open PySem PySem.Spec PyProof.Rows
section
variable {H:Hp}{n:Int}
theorem a1Y {x:V}:a0H H x n=true↔∃ a t,x=.ref a/\H a=some (.tup [.int (Prod.fst t),.int (Prod.snd t)])/\0<=Prod.fst t/\Prod.fst t<Prod.snd t/\Prod.snd t<n:=by
 unfold a0H;constructor
 ·intro h;cases hp:M5 H x with
  | none=>rw[hp] at h;cases h
  | some yz =>
   obtain⟨y,z⟩:=yz;rw[hp] at h;obtain⟨a,rfl,ea⟩:=Y2 hp;dsimp only at h;rw[bB] at h;cases y with
   | int i =>
    cases z with
    | int j =>
     have h1:=h.1;have h2:=h.2;unfold a0O at h1 h2;simp at h1 h2;exact⟨a,(i,j),rfl,ea,∅,by show i<j;omega,by show j<n;omega⟩
    | _=>exact absurd h.2 (by simp[a0O])
   | _=>exact absurd h.1 (by simp[a0O])
 ·rintro⟨a,t,rfl,ea,h0,h1,h2⟩;have hap:M5 H (.ref a)=some (.int t.1,.int t.2):=by unfold M5;dsimp only;rw[ea]
  rw[hap];simp[a0O];omega
theorem a3L:∀ {xs:List V},(∀ x∈xs,a0H H x n=true)->∃(ps:List (Addr×List Int)) (us:⋯),xs=ps.map (λx=>V.ref x.1)/\K7 H ps us/\a1Q n us
 | [],_=>⟨[],[],rfl,⟨(λx hx=>nomatch hx),rfl⟩,(λt ht=>nomatch ht)⟩
 | x::r,h=>by
  obtain⟨ps,us,e,hp,hu⟩:=a3L (xs:=r) λy hy=>h y (aq _ hy)
  obtain⟨a,t,rfl,ea,h0,h1,h2⟩:=a1Y.mp (h x (aD ..));refine⟨(a,tl t)::ps,t::us,by rw[e];rfl,⟨λy hy=>?_,by rw[am,am,hp.eq]⟩,λu hu'=>?_⟩
  ·rcases aO.mp hy with rfl | hy
   ·exact ea
   ·exact hp.to y hy
  ·rcases aO.mp hu' with rfl | hu'
   ·exact⟨h0,h1,h2⟩
   ·exact hu u hu'
theorem a6Y {ps:List (Addr×List Int)}{us:⋯}(hp:K7 H ps us)(hu:a1Q n us):∀ x∈ps.map (λx=>V.ref x.1),a0H H x n=true:=by
 intro x hx;obtain⟨i,hi⟩:=List.getElem?_of_mem hx;obtain⟨b,t,rfl,hti,hb⟩:=hp.get hi;exact a1Y.mpr ⟨b,t,rfl,hb,hu t (aU hti)⟩
def a2T (H:Hp)(n:Int)(x:V)(us:⋯):Prop:=∃ a,x=.ref a/\a0a H a us/\a1Q n us/\us.Pairwise Lex
theorem K7.inj {ps ps':List (Addr×List Int)}{us us':⋯}(h:K7 H ps us)(h':K7 H ps' us')(e:ps.map (λx=>V.ref x.1)=ps'.map λx=>V.ref x.1):us=us':=by
 have hl:us.length=us'.length:=by
  have:=congrArg cz e;rw[aa,aa,h.len,h'.len] at this;exact this
 refine gm λi=>?_
 rcases bI i us.length with hi | hi
 ·obtain⟨v,h1⟩:∃ v,(ps.map λx=>V.ref x.1)[i]?=some v:=⟨_,ak (by rw[aa,h.len];exact hi)⟩
  obtain⟨b,t,e1,e2,e3⟩:=h.get h1;rw[e] at h1;obtain⟨b',t',e1',e2',e3'⟩:=h'.get h1;rw[e1] at e1';cases e1';rw[e3] at e3';injection e3' with e4
  injection e4 with e5
  have e6:=cA e5;have e7:=cA e6.2;have:t=t':=Prod.ext (V.int.inj e6.1) (V.int.inj e7.1);rw[e2,e2',this]
 ·rw[fH hi,fH ∅]
theorem a0a.inj {a:Addr}{us us':⋯}(h:a0a H a us)(h':a0a H a us'):us=us':=by
 obtain⟨ps,e,hp⟩:=h;obtain⟨ps',e',hp'⟩:=h';rw[e] at e';injection e' with e2
 injection e2 with e3
 exact hp.inj hp' e3
end
end L2
end
section
namespace L2
theorem tV0 {v:V}{σ:St}{H:Hp}{Q:VK}:Q9 0 (some v::σ) H Q=Q v H:=propext ⟨λ⟨_,e,q⟩=>by cases e;exact q,λq=>⟨_,rfl,q⟩⟩
theorem gN0 {v:V}{σ:St}{H:Hp}{Q:St->Hp->Prop}{b:Option V}:L6 0 v (b::σ) H Q=Q (some v::σ) H:=rfl
theorem tV1 {v:V}{σ:St}{H:Hp}{Q:VK}{a0:Option V}:Q9 1 (a0::some v::σ) H Q=Q v H:=propext ⟨λ⟨_,e,q⟩=>by cases e;exact q,λq=>⟨_,rfl,q⟩⟩
theorem gN1 {v:V}{σ:St}{H:Hp}{Q:St->Hp->Prop}{b:Option V}{a0:Option V}:L6 1 v (a0::b::σ) H Q=Q (a0::some v::σ) H:=rfl
theorem tV2 {v:V}{σ:St}{H:Hp}{Q:VK}{a0 a1:Option V}:Q9 2 (a0::a1::some v::σ) H Q=Q v H:=propext ⟨λ⟨_,e,q⟩=>by cases e;exact q,λq=>⟨_,rfl,q⟩⟩
theorem gN2 {v:V}{σ:St}{H:Hp}{Q:St->Hp->Prop}{b:Option V}{a0 a1:Option V}:L6 2 v (a0::a1::b::σ) H Q=Q (a0::a1::some v::σ) H:=rfl
theorem tV3 {v:V}{σ:St}{H:Hp}{Q:VK}{a0 a1 a2:Option V}:Q9 3 (a0::a1::a2::some v::σ) H Q=Q v H:=propext ⟨λ⟨_,e,q⟩=>by cases e;exact q,λq=>⟨_,rfl,q⟩⟩
theorem gN3 {v:V}{σ:St}{H:Hp}{Q:St->Hp->Prop}{b:Option V}{a0 a1 a2:Option V}:L6 3 v (a0::a1::a2::b::σ) H Q=Q (a0::a1::a2::some v::σ) H:=rfl
theorem tV4 {v:V}{σ:St}{H:Hp}{Q:VK}{a0 a1 a2 a3:Option V}:Q9 4 (a0::a1::a2::a3::some v::σ) H Q=Q v H:=propext ⟨λ⟨_,e,q⟩=>by cases e;exact q,λq=>⟨_,rfl,q⟩⟩
theorem gN4 {v:V}{σ:St}{H:Hp}{Q:St->Hp->Prop}{b:Option V}{a0 a1 a2 a3:Option V}:L6 4 v (a0::a1::a2::a3::b::σ) H Q=Q (a0::a1::a2::a3::some v::σ) H:=rfl
theorem tV5 {v:V}{σ:St}{H:Hp}{Q:VK}{a0 a1 a2 a3 a4:Option V}:Q9 5 (a0::a1::a2::a3::a4::some v::σ) H Q=Q v H:=propext ⟨λ⟨_,e,q⟩=>by cases e;exact q,λq=>⟨_,rfl,q⟩⟩
theorem gN5 {v:V}{σ:St}{H:Hp}{Q:St->Hp->Prop}{b:Option V}{a0 a1 a2 a3 a4:Option V}:L6 5 v (a0::a1::a2::a3::a4::b::σ) H Q=Q (a0::a1::a2::a3::a4::some v::σ) H:=rfl
theorem tV6 {v:V}{σ:St}{H:Hp}{Q:VK}{a0 a1 a2 a3 a4 a5:Option V}:Q9 6 (a0::a1::a2::a3::a4::a5::some v::σ) H Q=Q v H:=propext ⟨λ⟨_,e,q⟩=>by cases e;exact q,λq=>⟨_,rfl,q⟩⟩
theorem gN6 {v:V}{σ:St}{H:Hp}{Q:St->Hp->Prop}{b:Option V}{a0 a1 a2 a3 a4 a5:Option V}:L6 6 v (a0::a1::a2::a3::a4::a5::b::σ) H Q=Q (a0::a1::a2::a3::a4::a5::some v::σ) H:=rfl
theorem tV7 {v:V}{σ:St}{H:Hp}{Q:VK}{a0 a1 a2 a3 a4 a5 a6:Option V}:Q9 7 (a0::a1::a2::a3::a4::a5::a6::some v::σ) H Q=Q v H:=propext ⟨λ⟨_,e,q⟩=>by cases e;exact q,λq=>⟨_,rfl,q⟩⟩
theorem gN7 {v:V}{σ:St}{H:Hp}{Q:St->Hp->Prop}{b:Option V}{a0 a1 a2 a3 a4 a5 a6:Option V}:L6 7 v (a0::a1::a2::a3::a4::a5::a6::b::σ) H Q=Q (a0::a1::a2::a3::a4::a5::a6::some v::σ) H:=rfl
theorem tV8 {v:V}{σ:St}{H:Hp}{Q:VK}{a0 a1 a2 a3 a4 a5 a6 a7:Option V}:Q9 8 (a0::a1::a2::a3::a4::a5::a6::a7::some v::σ) H Q=Q v H:=propext ⟨λ⟨_,e,q⟩=>by cases e;exact q,λq=>⟨_,rfl,q⟩⟩
theorem gN8 {v:V}{σ:St}{H:Hp}{Q:St->Hp->Prop}{b:Option V}{a0 a1 a2 a3 a4 a5 a6 a7:Option V}:L6 8 v (a0::a1::a2::a3::a4::a5::a6::a7::b::σ) H Q=Q (a0::a1::a2::a3::a4::a5::a6::a7::some v::σ) H:=rfl
theorem tV9 {v:V}{σ:St}{H:Hp}{Q:VK}{a0 a1 a2 a3 a4 a5 a6 a7 a8:Option V}:Q9 9 (a0::a1::a2::a3::a4::a5::a6::a7::a8::some v::σ) H Q=Q v H:=propext ⟨λ⟨_,e,q⟩=>by cases e;exact q,λq=>⟨_,rfl,q⟩⟩
theorem gN9 {v:V}{σ:St}{H:Hp}{Q:St->Hp->Prop}{b:Option V}{a0 a1 a2 a3 a4 a5 a6 a7 a8:Option V}:L6 9 v (a0::a1::a2::a3::a4::a5::a6::a7::a8::b::σ) H Q=Q (a0::a1::a2::a3::a4::a5::a6::a7::a8::some v::σ) H:=rfl
theorem b1k {v:V}{σ:St}{H:Hp}{Q:VK}{a0 a1 a2 a3 a4 a5 a6 a7 a8 a9:Option V}:Q9 10 (a0::a1::a2::a3::a4::a5::a6::a7::a8::a9::some v::σ) H Q=Q v H:=propext ⟨λ⟨_,e,q⟩=>by cases e;exact q,λq=>⟨_,rfl,q⟩⟩
theorem b1K {v:V}{σ:St}{H:Hp}{Q:St->Hp->Prop}{b:Option V}{a0 a1 a2 a3 a4 a5 a6 a7 a8 a9:Option V}:L6 10 v (a0::a1::a2::a3::a4::a5::a6::a7::a8::a9::b::σ) H Q=Q (a0::a1::a2::a3::a4::a5::a6::a7::a8::a9::some v::σ) H:=rfl
theorem b1j {v:V}{σ:St}{H:Hp}{Q:VK}{a0 a1 a2 a3 a4 a5 a6 a7 a8 a9 a10:Option V}:Q9 11 (a0::a1::a2::a3::a4::a5::a6::a7::a8::a9::a10::some v::σ) H Q=Q v H:=propext ⟨λ⟨_,e,q⟩=>by cases e;exact q,λq=>⟨_,rfl,q⟩⟩
theorem b1J {v:V}{σ:St}{H:Hp}{Q:St->Hp->Prop}{b:Option V}{a0 a1 a2 a3 a4 a5 a6 a7 a8 a9 a10:Option V}:L6 11 v (a0::a1::a2::a3::a4::a5::a6::a7::a8::a9::a10::b::σ) H Q=Q (a0::a1::a2::a3::a4::a5::a6::a7::a8::a9::a10::some v::σ) H:=rfl
theorem b1i {v:V}{σ:St}{H:Hp}{Q:VK}{a0 a1 a2 a3 a4 a5 a6 a7 a8 a9 a10 a11:Option V}:Q9 12 (a0::a1::a2::a3::a4::a5::a6::a7::a8::a9::a10::a11::some v::σ) H Q=Q v H:=propext ⟨λ⟨_,e,q⟩=>by cases e;exact q,λq=>⟨_,rfl,q⟩⟩
theorem b1I {v:V}{σ:St}{H:Hp}{Q:St->Hp->Prop}{b:Option V}{a0 a1 a2 a3 a4 a5 a6 a7 a8 a9 a10 a11:Option V}:L6 12 v (a0::a1::a2::a3::a4::a5::a6::a7::a8::a9::a10::a11::b::σ) H Q=Q (a0::a1::a2::a3::a4::a5::a6::a7::a8::a9::a10::a11::some v::σ) H:=rfl
theorem b1h {v:V}{σ:St}{H:Hp}{Q:VK}{a0 a1 a2 a3 a4 a5 a6 a7 a8 a9 a10 a11 a12:Option V}:Q9 13 (a0::a1::a2::a3::a4::a5::a6::a7::a8::a9::a10::a11::a12::some v::σ) H Q=Q v H:=propext ⟨λ⟨_,e,q⟩=>by cases e;exact q,λq=>⟨_,rfl,q⟩⟩
theorem b1H {v:V}{σ:St}{H:Hp}{Q:St->Hp->Prop}{b:Option V}{a0 a1 a2 a3 a4 a5 a6 a7 a8 a9 a10 a11 a12:Option V}:L6 13 v (a0::a1::a2::a3::a4::a5::a6::a7::a8::a9::a10::a11::a12::b::σ) H Q=Q (a0::a1::a2::a3::a4::a5::a6::a7::a8::a9::a10::a11::a12::some v::σ) H:=rfl
theorem b1g {v:V}{σ:St}{H:Hp}{Q:VK}{a0 a1 a2 a3 a4 a5 a6 a7 a8 a9 a10 a11 a12 a13:Option V}:Q9 14 (a0::a1::a2::a3::a4::a5::a6::a7::a8::a9::a10::a11::a12::a13::some v::σ) H Q=Q v H:=propext ⟨λ⟨_,e,q⟩=>by cases e;exact q,λq=>⟨_,rfl,q⟩⟩
theorem b1G {v:V}{σ:St}{H:Hp}{Q:St->Hp->Prop}{b:Option V}{a0 a1 a2 a3 a4 a5 a6 a7 a8 a9 a10 a11 a12 a13:Option V}:L6 14 v (a0::a1::a2::a3::a4::a5::a6::a7::a8::a9::a10::a11::a12::a13::b::σ) H Q=Q (a0::a1::a2::a3::a4::a5::a6::a7::a8::a9::a10::a11::a12::a13::some v::σ) H:=rfl
theorem b1f {v:V}{σ:St}{H:Hp}{Q:VK}{a0 a1 a2 a3 a4 a5 a6 a7 a8 a9 a10 a11 a12 a13 a14:Option V}:Q9 15 (a0::a1::a2::a3::a4::a5::a6::a7::a8::a9::a10::a11::a12::a13::a14::some v::σ) H Q=Q v H:=propext ⟨λ⟨_,e,q⟩=>by cases e;exact q,λq=>⟨_,rfl,q⟩⟩
theorem b1F {v:V}{σ:St}{H:Hp}{Q:St->Hp->Prop}{b:Option V}{a0 a1 a2 a3 a4 a5 a6 a7 a8 a9 a10 a11 a12 a13 a14:Option V}:L6 15 v (a0::a1::a2::a3::a4::a5::a6::a7::a8::a9::a10::a11::a12::a13::a14::b::σ) H Q=Q (a0::a1::a2::a3::a4::a5::a6::a7::a8::a9::a10::a11::a12::a13::a14::some v::σ) H:=rfl
theorem b1y {g:Int->Int->V}{i j:Int}{H:Hp}{Q:VK}:rI0 g (.int i) (.int j) H Q=Q (g i j) H:=propext ⟨λ⟨_,_,e,e',q⟩=>by cases e;cases e';exact q,λq=>⟨_,_,rfl,rfl,q⟩⟩
theorem rIi {C:Int->Int->Prop}{g:Int->Int->V}{i j:Int}{H:Hp}{Q:VK}:rI C g (.int i) (.int j) H Q=(C i j/\Q (g i j) H):=propext ⟨λ⟨_,_,e,e',q⟩=>by cases e;cases e';exact q,λq=>⟨_,_,rfl,rfl,q⟩⟩
theorem b0C {K:ae}{p:gf}{i:Int}{H:Hp}{Q:VK}:a7j K (.ref p) (.int i) H Q=∃ xs,SqL K H p xs/\∃ v,atI xs i=some v/\Q v H:=propext ⟨λ⟨_,_,_,_,e,e',a,b,q⟩=>by cases e;cases e';exact⟨_,a,_,b,q⟩,λ⟨_,a,_,b,q⟩=>⟨_,_,_,_,rfl,rfl,a,b,q⟩⟩
theorem b0A {K:ae}{p:gf}{i:Int}{H:Hp}{Q:VK}:a7i K (.ref p) (.int i) H Q=∃ xs,SqT K H p xs/\∃ v,atI xs i=some v/\Q v H:=propext ⟨λ⟨_,_,_,_,e,e',a,b,q⟩=>by cases e;cases e';exact⟨_,a,_,b,q⟩,λ⟨_,a,_,b,q⟩=>⟨_,_,_,_,rfl,rfl,a,b,q⟩⟩
theorem exB {b:Bool}{P:Bool->Prop}:(∃ k,V.bl b=V.bl k/\P k)=P b:=propext ⟨λ⟨_,e,q⟩=>by cases e;exact q,λq=>⟨_,rfl,q⟩⟩
theorem exI {b:Int}{P:Int->Prop}:(∃ k,V.int b=V.int k/\P k)=P b:=propext ⟨λ⟨_,e,q⟩=>by cases e;exact q,λq=>⟨_,rfl,q⟩⟩
theorem exR {b:gf}{P:gf->Prop}:(∃ k,V.ref b=V.ref k/\P k)=P b:=propext ⟨λ⟨_,e,q⟩=>by cases e;exact q,λq=>⟨_,rfl,q⟩⟩
theorem b1z {i j:Int}{H:Hp}{Q:VK}:rEq (.int i) (.int j) H Q=Q (.bl (decide (i=j))) H:=by
 unfold rEq;have e:decide (V.int i=V.int j)=decide (i=j):=by simp
 rw[e];simp[a5A]
theorem b1x {i j:Int}{H:Hp}{Q:VK}:rNe (.int i) (.int j) H Q=Q (.bl (!decide (i=j))) H:=by
 unfold rNe;have e:decide (V.int i=V.int j)=decide (i=j):=by simp
 rw[e];simp[a5A]
theorem b0U {K:ae}{p:gf}{H:Hp}{Q:VK}:a9Q K [.ref p] H Q=∃ ys,(SqL K H p ys\/SqT K H p ys)/\Q (.int ys.length) H:=propext ⟨λ⟨_,ys,e,a,q⟩=>by cases e;exact⟨ys,a,q⟩,λ⟨ys,a,q⟩=>⟨_,ys,rfl,a,q⟩⟩
theorem al0 {α:Type}{P:List α->Prop}(h:P [])(us:List α)(hl:us.length=0):P us:=by cases us with
 | nil=>exact h
 | cons a r=>cases hl
theorem al1 {α:Type}{P:List α->Prop}(h:∀ a0,P [a0])(us:List α)(hl:us.length=1):P us:=by cases us with
 | nil=>cases hl
 | cons a r=>exact al0 (P:=λr=>P (a::r)) (h a) r (gZ hl)
theorem al2 {α:Type}{P:List α->Prop}(h:∀ a0 a1,P [a0,a1])(us:List α)(hl:us.length=2):P us:=by cases us with
 | nil=>cases hl
 | cons a r=>exact al1 (P:=λr=>P (a::r)) (h a) r (gZ hl)
theorem al3 {α:Type}{P:List α->Prop}(h:∀ a0 a1 a2,P [a0,a1,a2])(us:List α)(hl:us.length=3):P us:=by cases us with
 | nil=>cases hl
 | cons a r=>exact al2 (P:=λr=>P (a::r)) (h a) r (gZ hl)
end L2
end
section
namespace L2
open PySem
theorem b0d {t u:TS}{D:Q4}{σ:St}{H:Hp}:a8D t u D σ H=(t {D with nx:=u D} σ H):=rfl
theorem b0u {te:TE}{g:TG}{D:Q4}{σ:St}{H:Hp}:a4v te g D σ H=(te σ H λx H1=>g x σ H1 D.nx):=rfl
theorem b1p {r:R2}{ta tb:TE}{σ:St}{H:Hp}{Q:VK}:tOp r ta tb σ H Q=(ta σ H λx H1=>tb σ H1 λy H2=>r x y H2 Q):=rfl
theorem tCA {v:V}{u0:St}{H:Hp}{Q:VK}:tC v u0 H Q=(Q v H):=rfl
theorem b0f {te:TE}{D:Q4}{σ:St}{H:Hp}:b0g te D σ H=(te σ H D.rt):=rfl
theorem a8E {D:Q4}{u0:St}{H:Hp}:b0e D u0 H=(D.rt .non H):=rfl
theorem b0q {c:TT}{t u:TS}{D:Q4}{σ:St}{H:Hp}:b0r c t u D σ H=(c σ H λb H1=>if b=true then t D σ H1 else u D σ H1):=rfl
theorem a8C {t:TE}{σ:St}{H:Hp}{Q:Bool->Hp->Prop}:a5q t σ H Q=(t σ H λx H'=>∃ k,x=.bl k/\Q k H'):=rfl
theorem tBA {t:TE}{σ:St}{H:Hp}{Q:Bool->Hp->Prop}:tB t σ H Q=(t σ H λx H1=>∃ c,x=.bl c/\Q c H1):=rfl
theorem a8I {D:Q4}{σ:St}{H:Hp}:a7Z D σ H=(D.nx σ H):=rfl
theorem a8L {te:TE}{D:Q4}{σ:St}{H:Hp}:a8a te D σ H=(te σ H λ_ H1=>D.nx σ H1):=rfl
theorem a8P {sp:Sp}{dvs:List V}{E:XK}{t:TA}{σ:St}{H:Hp}{Q:VK}:a3O sp dvs E t σ H Q=(t σ H λvs H1=>sp (vs++dvs) H1 Q E):=rfl
theorem a8N {ta:TE}{tr:TA}{σ:St}{H:Hp}{Q:List V->Hp->Prop}:a8b ta tr σ H Q=(ta σ H λx H1=>tr σ H1 λxs H2=>Q (x::xs) H2):=rfl
theorem b0l {u0:St}{H:Hp}{Q:List V->Hp->Prop}:b0m u0 H Q=(Q [] H):=rfl
theorem b1t {r:List V->Hp->VK->Prop}{t:TA}{σ:St}{H:Hp}{Q:VK}:tCB r t σ H Q=(t σ H λvs H1=>r vs H1 Q):=rfl
theorem b1u {K:ae}{T:String}{r:V->List V->Hp->VK->Prop}{to:TE}{t:TA}{σ:St}{H:Hp}{Q:VK}:tBM K T r to t σ H Q=(to σ H λx H1=>tyV K T x H1/\t σ H1 λxs H2=>r x xs H2 Q):=rfl
theorem b0t {K:ae}{T:String}{r:V->List V->Hp->VK->Prop}{to:TE}{σ:St}{H:Hp}{Q:VK}:a8Q K T r to σ H Q=(to σ H λx H1=>tyV K T x H1/\r x [] H1 Q):=rfl
theorem b0b {t:TA}{σ:St}{H:Hp}{Q:VK}:b0c t σ H Q=(t σ H λxs H1=>xs.length<=sizeLine/\∀ p,H1 p=none->Q (.ref p) (upd H1 p (.tup xs))):=rfl
theorem b0n {t:TA}{σ:St}{H:Hp}{Q:VK}:a8J t σ H Q=(t σ H λxs H1=>xs.length<=sizeLine/\∀ p,H1 p=none->Q (.ref p) (upd H1 p (.lst xs))):=rfl
theorem b0M {K:ae}{n:Nat}{t:TGs}{v:V}{σ:St}{H:Hp}{Q:St->Hp->Prop}:a9I K n t v σ H Q=(∃ a xs,v=.ref a/\SqT K H a xs/\xs.length=n/\t xs σ H Q):=rfl
theorem a9J {t:TG}{u:TGs}{vs:List V}{σ:St}{H:Hp}{Q:St->Hp->Prop}:a8q t u vs σ H Q=(∃ v r,vs=v::r/\t v σ H fun σ' H'=>u r σ' H' Q):=rfl
theorem b0P {vs:List V}{σ:St}{H:Hp}{Q:St->Hp->Prop}:b0Q vs σ H Q=(vs=[]/\Q σ H):=rfl
theorem b0N {to ti:TE}{t:a7S}{v:V}{σ:St}{H:Hp}{Q:St->Hp->Prop}:b0O to ti t v σ H Q=(to σ H λo H1=>ti σ H1 λi H2=>t o i v H2 λH3=>Q σ H3):=rfl
theorem b1m {r:V->Option Int->Option Int->Hp->VK->Prop}{te:TE}{tl th:TO}{σ:St}{H:Hp}{Q:VK}:tSl r te tl th σ H Q=(te σ H λx H1=>tl σ H1 λl H2=>th σ H2 λu H3=>r x l u H3 Q):=rfl
theorem a5r {u0:St}{H:Hp}{Q:Option Int->Hp->Prop}:a3N u0 H Q=(Q none H):=rfl
theorem a8F {t:TE}{σ:St}{H:Hp}{Q:Option Int->Hp->Prop}:a7X t σ H Q=(t σ H λx H1=>∃ i,x=.int i/\Q (some i) H1):=rfl
theorem b0v {t u:TT}{σ:St}{H:Hp}{Q:Bool->Hp->Prop}:b1v t u σ H Q=(t σ H λc H1=>if c=true then u σ H1 Q else Q false H1):=rfl
theorem b1o {t u:TT}{σ:St}{H:Hp}{Q:Bool->Hp->Prop}:tOr t u σ H Q=(t σ H λc H1=>if c=true then Q true H1 else u σ H1 Q):=rfl
theorem b0j {t:TT}{σ:St}{H:Hp}{Q:Bool->Hp->Prop}:b0k t σ H Q=(t σ H λc H1=>Q (!c) H1):=rfl
theorem b0s {ty td:TE}{σ:St}{H:Hp}{Q:VK}:b1r ty td σ H Q=(ty σ H λy H1=>td σ H1 λx H2=>∃ a o,x=.ref a/\a1U H2 a y o/\Q (.bl o.isSome) H2):=rfl
theorem a5s {ty td:TE}{σ:St}{H:Hp}{Q:VK}:a7a ty td σ H Q=(ty σ H λy H1=>td σ H1 λx H2=>∃ a o,x=.ref a/\a1U H2 a y o/\Q (.bl (!o.isSome)) H2):=rfl
theorem a8U {td ty tv:TE}{D:Q4}{σ:St}{H:Hp}:b0x td ty tv D σ H=(tv σ H λv H1=>td σ H1 λx H2=>ty σ H2 λy H3=>∃ a H4,x=.ref a/\a3J H3 a y v H4/\D.nx σ H4):=rfl
theorem a9H {K:ae}{tl:TE}{σ:St}{H:Hp}{R:It->Hp->Prop}:a6v K tl σ H R=(tl σ H λx H1=>∃ a,x=.ref a/\(∃ xs,SqL K H1 a xs)/\R (Itl K a) H1):=rfl
theorem b0K {K:ae}{tl:TE}{σ:St}{H:Hp}{R:It->Hp->Prop}:a9E K tl σ H R=(tl σ H λx H1=>∃ a,x=.ref a/\(∃ xs,SqT K H1 a xs)/\R (Itt K a) H1):=rfl
theorem a9G {ta:TA}{σ:St}{H:Hp}{R:It->Hp->Prop}:a8p ta σ H R=(ta σ H λvs H1=>∃ j:Int,vs=[.int j]/\-(2 ^ 62)<=j/\j<2 ^ 62/\R (Itr 0 j.toNat) H1):=rfl
theorem a9F {ta:TA}{σ:St}{H:Hp}{R:It->Hp->Prop}:a8o ta σ H R=(ta σ H λvs H1=>∃ i j:Int,vs=[.int i,.int j]/\(-(2 ^ 62)<=i/\i<2 ^ 62/\-(2 ^ 62)<=j/\j<2 ^ 62)/\R (Itr i (j-i).toNat) H1):=rfl
theorem a7d {r r':R2}{ta tb tc:TE}{σ:St}{H:Hp}{Q:VK}:a5v r r' ta tb tc σ H Q=(ta σ H λx H1=>tb σ H1 λy H2=>r x y H2 λz H3=>∃ k,z=.bl k/\(if k=true then tc σ H3 λw' H4=>r' y w' H4 Q else Q (.bl false) H3)):=rfl
theorem a8R {ta tb:TE}{σ:St}{H:Hp}{Q:VK}:a8c ta tb σ H Q=(ta σ H λx H1=>∃ c,x=.bl c/\if c=true then tb σ H1 Q else Q (.bl false) H1):=rfl
theorem b0h {ta tb:TE}{σ:St}{H:Hp}{Q:VK}:b1n ta tb σ H Q=(ta σ H λx H1=>∃ c,x=.bl c/\if c=true then Q (.bl true) H1 else tb σ H1 Q):=rfl
theorem a8G {ta:TE}{σ:St}{H:Hp}{Q:VK}:a7Y ta σ H Q=(ta σ H λx H1=>∃ c,x=.bl c/\Q (.bl (!c)) H1):=rfl
theorem b1l {r:V->Hp->VK->Prop}{ta:TE}{σ:St}{H:Hp}{Q:VK}:tUn r ta σ H Q=(ta σ H λx H1=>r x H1 Q):=rfl
theorem a9Z {u0:St}{H:Hp}{Q:Bool->Hp->Prop}:b0a u0 H Q=(Q true H):=rfl
theorem a7c {u0:St}{H:Hp}{Q:VK}:a5t u0 H Q=(∀ p,H p=none->Q (.ref p) (upd H p (.dK []))):=rfl
theorem a7b {u0:St}{H:Hp}{Q:VK}:a8M u0 H Q=(∀ p,H p=none->Q (.ref p) (upd H p (.dT []))):=rfl
theorem b0o {ta:TE}{σ:St}{H:Hp}{Q:VK}:b0p ta σ H Q=(ta σ H λx H1=>Q (.bl (decide (x=.non))) H1):=rfl
theorem a8H {ta:TE}{σ:St}{H:Hp}{Q:VK}:b0i ta σ H Q=(ta σ H λx H1=>Q (.bl (!decide (x=.non))) H1):=rfl
theorem b1q {own:List Str}{fr:List (Str×Nat)}{wi:TI}{g:TG}{tc:TT}{te:TE}{σ:St}{H:Hp}{Q:VK}:tLC own fr wi g tc te σ H Q=wi σ H λJ H1=>∀ p,H1 p=none->lcW g tc te p J (st0 own fr σ) (upd H1 p (.lst [])) λH2=>Q (.ref p) H2:=rfl
theorem b1s {t:Bool}{own:List Str}{fr:List (Str×Nat)}{wi:TI}{g:TG}{tc:TT}{te tv:TE}{σ:St}{H:Hp}{Q:VK}:tDC t own fr wi g tc te tv σ H Q=wi σ H λJ H1=>∀ p,H1 p=none->dcW g tc te tv p J (st0 own fr σ) (upd H1 p (a0K t)) λH2=>Q (.ref p) H2:=rfl
end L2
end
section
namespace L2
open PySem PySem.Spec PyProof.Rows
section
variable {X:Cx}
def a9P (K:ae):List V->Hp->VK->Prop:=λxs H Q=>∃(p:Addr) (ns:List Int),xs=[.ref p]/\SqL K H p (ns.map V.int)/\ns≠[]/\∀ m:Int,m∈ns->(∀ a∈ns,m<=a)->Q (.int m) H
theorem a4T (hh:X.A.handled=none):M0 X (.builtin "min") (a9P X.K):=by
 intro pins s σ H xs us Q I r h;obtain⟨p,ns,rfl,hq,hne,q⟩:=h;obtain⟨u,rfl,ru⟩:=S0 r;cases ru;obtain⟨its,rv,pl,hz⟩:=I.list hq;have hl:s.heap.IsList p its.toArray:=pl.isList;have hi:=N5 rv;obtain⟨zs,e,e2⟩:=a2K hi;rw[e] at hl;have hsz:0<zs.size:=by
  have h1:zs.toList.length=ns.length:=by rw[<- e2,aa]
  rw[aI] at h1;have:=fV.mpr hne;omega
 refine min_intList hh hl hsz λv h' tk hv hk=>?_
 obtain⟨t,rfl⟩:=intItems_at hv;obtain⟨h1,h2⟩:=argBest_lt (numAt zs) (zs.size-1);refine⟨.int _,H,I.kept hk,⟨t,rfl⟩,q _ ?_ λa ha=>?_⟩
 ·rw[numAt_eq,e2];exact getD_mem (by rw[<- e2,aa,aI];omega)
 ·obtain⟨j,hj,rfl⟩:=mem_getD ha;rw[<- e2,aa,aI] at hj;rw[<- e2,<- numAt_eq];exact h2 j ∅
theorem b1C (K:ae)(hh:X.A.handled=none)(h:X.K=K:=by rfl):M0 X (.builtin "min") (a9P K):=by subst h;exact a4T hh
end
end L2
end
section
namespace L2
open PySem PySem.Spec PyProof.Rows
section
variable {K:ae}{H:Hp}{a b:Addr}{xs ys:List V}{lo hi:Option Int}{Q:VK}
theorem a1p (ha:H a=some (.lst xs))(q:∀ p H',H p=none->B1 H H'->H' p=some (.lst (S7 xs lo hi))->Q (.ref p) H'):a7h K (.ref a) lo hi H Q :=
 ⟨a,xs,rfl,SqL.of ha,λp np=>q p _ np ((B1.refl H).upd np) A2⟩
theorem N9 (ha:H a=some (.lst xs))(hb:H b=some (.lst ys))(hz:xs.length+ys.length<=10000)(q:∀ p H',H p=none->B1 H H'->H' p=some (.lst (xs++ys))->Q (.ref p) H'):a8X (.ref a) (.ref b) H Q :=
 ⟨a,b,xs,ys,rfl,rfl,ha,hb,bT (B4 ∅),λp np=>q p _ np ((B1.refl H).upd np) A2⟩
end
end L2
end
section
namespace L2
open PySem PySem.Spec PyProof.Rows
theorem Ncs.mem {c k m:Nat}:∀ {ds:List PyData},Ncs c k m ds->∀ d∈ds,Nc c k m d
 | d::r,h,x,hx=>by
  have h7:=h.so;rw[a1q,bB] at h7;have h1:=h.sh;have h2:=h.dp;have h3:=h.lv;have h4:=h.bk;rw[PyData.showableAll,bB] at h1;rw[PyData.depthAll] at h2;rw[PyData.leavesShortAll,bB] at h3;rw[PyData.bulkAll] at h4;have h5:c≠2->noL d=true/\a1z r=true:=λe=>by have:=h.nl e;rw[a1z,bB] at this;exact this
  have h6:c≠1->d.hasDict=false/\PyData.hasDictAll r=false:=λe=>by have:=h.nd e;rw[PyData.hasDictAll,dM] at this;exact this
  rcases aO.mp hx with rfl | hx
  ·exact⟨λe=>(h5 e).1,λe=>(h6 e).1,h1.1,∅,h3.1,∅,h7.1⟩
  ·exact Ncs.mem ⟨λe=>(h5 e).2,λe=>(h6 e).2,h1.2,∅,h3.2,∅,h7.2⟩ x hx
end L2
end
section
namespace L2
open PySem PySem.Spec PyProof.Rows
section
variable {X:Cx}{elts:List Expr}{k:Nat}{tpos apos cpos:Pos}{o:Expr}{to:TE}
theorem a7M {e:Expr}{es:List Expr}{t:TA}(K:ae)(ho:PE X o to)(ha:PA X (e::es) t)(h:X.K=K:=by rfl)
  (hbase:attributeBase o "extend" X.env (eval o X.env)=eval o X.env:=by rfl)
  (hfew:((backTo cpos (starEach (e::es) X.env)).all (λx=>!x.1) && (backToKw cpos (keywordEach [] X.env)).all (λx=>x.1.isSome)
   && decide ((e::es).length+([]:List Keyword).length+(if ([]:List Keyword).isEmpty then 0 else 1)<30))=true:=by rfl) (hst:starEach (e::es) X.env=(false,eval e X.env)::starEach es X.env:=by rfl) (hpl:(backTo cpos (starEach es X.env)).any (·.1)=false:=by rfl) (hline:(apos.endLine == cpos.line)=true:=by rfl) :
  PE X (.Call (.Attribute o "extend" apos) (e::es) [] cpos) (tBM K "list" a1s to t):=by
 subst h;exact a4c eM PySem.F.slot_list_extend PySem.F.type_list_extend a4G ho ha hbase hfew hline hst hpl
end
end L2
end
section
namespace L2
open PySem PySem.Spec PySem.Builtin PySem.Builtin.Str PyProof.Rows
section
variable {X:Cx}
theorem a2a:∀ {ys:List Str} {us:List Value},B3 (ys.map V.str) us->StrsAre us ys
 | [],_,r=>by cases r;exact .nil
 | y::ys,_,r=>by
  cases r with
  | cons h t =>
   obtain⟨k,rfl⟩:=h;exact .cons y k (a2a t)
theorem a0P:∀ l:List (Str×Tok),B3 ((l.map (·.1)).map V.str) (strValues l)
 | []=>.nil
 | p::r=>.cons ⟨p.2,rfl⟩ (a0P r)
def a5E (K:ae):V->List V->Hp->VK->Prop:=λx vs H Q=>∃(sep:Str) (a:Addr) (ys:List Str),x=.str sep/\vs=[.ref a]/\SqL K H a (ys.map V.str)/\(ys.map (·.length)).sum+ys.length*sep.length<=16777216/\Q (.str (dE sep ys)) H
theorem a7w:MtM X "str.join" (a5E X.K):=by
 intro pins s σ H x vs v us Q I rx rv h;obtain⟨sep,a,ys,rfl,rfl,hH,hz,q⟩:=h;obtain⟨t,rfl⟩:=rx;obtain⟨u,rfl,ru⟩:=rv.one;cases ru;obtain⟨its,r,pl,_⟩:=I.list hH;exact join_list pl.isList (a2a r) hz λt1 k=>⟨.str _,H,I.kept (t':=k) (λ_ _ e=>e),⟨t1,rfl⟩,q⟩
def a3g:V->List V->Hp->VK->Prop:=λx vs H Q=>∃(a b:Str),x=.str a/\vs=[.str b]/\(b.length == 0)=false/\a.length+2<=sizeLine/\∀ p,H p=none->Q (.ref p) (upd H p (.lst ((Txt.split a b).map V.str)))
theorem a6h:MtM X "str.split" a3g:=by
 intro pins s σ H x vs v us Q I rx rv h;obtain⟨a,b,rfl,rfl,hy,hz,q⟩:=h;obtain⟨t,rfl⟩:=rx;obtain⟨u,rfl,ru⟩:=rv.one;obtain⟨u,rfl⟩:=ru;have hn:(partsBetween a (occurrences a b 0 a.length (a.length+1)) b.length).length<=sizeLine:=by
  have e1:=StrLaws.occ_length_le a b 0 a.length (a.length+1);rw[gt];omega
 have fin:∀(l:List (Str×Tok)) (k:Nat),l.map (·.1)=Txt.split a b->l.length<=sizeLine->EP X pins σ Q (.ref s.heap.objs.size) {s with toks:=k,heap:=s.heap.push {cls:=.type "list",data:=.seq (strValues l).toArray}}:=λl k hl hlen=>by
  refine⟨.ref s.heap.objs.size,_,I.laid (t':=k) (o:=.lst ((Txt.split a b).map V.str)) (λb ob q=>aj _ q) (ao _) ?_,rfl,q _ (I.hok.fresh (ao _))⟩;rw[<- hl];exact⟨by rw[aa,aa];exact hlen,_,0,a0P l,aX _ rfl⟩
 cases h1:(decide (a.length<b.length) || decide (strKind a<strKind b))
 ·cases hf:(occurrences a b 0 a.length (a.length+1)).isEmpty
  ·refine d9 gS (typeIs_str _ _ _) gF (gv _ _) (meets_str_split_sep a b t u h1 hy hf ∅ hn) ?_;show wants _ _ _ {s with toks:=_,heap:=s.heap.push {cls:=.type "list",data:=.seq (strsFrom s.toks (partsBetween a (occurrences a b 0 a.length (a.length+1)) b.length)).toArray}};rw[strsFrom_eq];refine fin (numbered s.toks _) _ ((numbered_texts _ _).trans ((if_neg (ne_true_of_eq_false h1)).trans (if_neg (ne_true_of_eq_false hf))).symm) ?_;rw[<- aa (·.1),numbered_texts];exact hn
  ·exact d9 gS (typeIs_str _ _ _) gF (gv _ _) (meets_str_split_not_found a b t u h1 hy hf)
    (fin [(a,t)] s.toks ((if_neg (ne_true_of_eq_false h1)).trans (if_pos hf)).symm (by show 1<=sizeLine;decide))
 ·exact d9 gS (typeIs_str _ _ _) gF (gv _ _) (meets_str_split_cannot_occur a b t u h1)
   (fin [(a,t)] s.toks (if_pos h1).symm (by show 1<=sizeLine;decide))
def a8g:R2:=λx y H Q=>∃ a b:Str,x=.str a/\y=.str b/\a.length+b.length<=sizeLine/\Q (.str (a++b)) H
theorem L3:OpR X (binaryOp .Add) a8g:=by
 intro pins s σ H x y v u Q I rx ry h;obtain⟨a,b,rfl,rfl,hz,q⟩:=h;obtain⟨t,rfl⟩:=rx;obtain⟨k,rfl⟩:=ry;exact SB.add (λt1 k=>⟨.str _,H,I.kept (t':=k) (λ_ _ e=>e),⟨t1,rfl⟩,q⟩) hz
end
section
variable {X:Cx}{elts:List Expr}{k:Nat}{tpos apos cpos:Pos}{o:Expr}{to:TE}
theorem a3t {e:Expr}{es:List Expr}{t:TA}(K:ae)(ho:PE X o to)(ha:PA X (e::es) t)(h:X.K=K:=by rfl)
  (hbase:attributeBase o "join" X.env (eval o X.env)=eval o X.env:=by rfl)
  (hfew:((backTo cpos (starEach (e::es) X.env)).all (λx=>!x.1) && (backToKw cpos (keywordEach [] X.env)).all (λx=>x.1.isSome)
   && decide ((e::es).length+([]:List Keyword).length+(if ([]:List Keyword).isEmpty then 0 else 1)<30))=true:=by rfl) (hst:starEach (e::es) X.env=(false,eval e X.env)::starEach es X.env:=by rfl) (hpl:(backTo cpos (starEach es X.env)).any (·.1)=false:=by rfl) (hline:(apos.endLine == cpos.line)=true:=by rfl) :
  PE X (.Call (.Attribute o "join" apos) (e::es) [] cpos) (tBM K "str" (a5E K) to t):=by
 subst h;exact a4c gX PySem.F.slot_str_join PySem.F.type_str_join a7w ho ha hbase hfew hline hst hpl
theorem U9 {e:Expr}{es:List Expr}{t:TA}(K:ae)(ho:PE X o to)(ha:PA X (e::es) t)(h:X.K=K:=by rfl)
  (hbase:attributeBase o "split" X.env (eval o X.env)=eval o X.env:=by rfl)
  (hfew:((backTo cpos (starEach (e::es) X.env)).all (λx=>!x.1) && (backToKw cpos (keywordEach [] X.env)).all (λx=>x.1.isSome)
   && decide ((e::es).length+([]:List Keyword).length+(if ([]:List Keyword).isEmpty then 0 else 1)<30))=true:=by rfl) (hst:starEach (e::es) X.env=(false,eval e X.env)::starEach es X.env:=by rfl) (hpl:(backTo cpos (starEach es X.env)).any (·.1)=false:=by rfl) (hline:(apos.endLine == cpos.line)=true:=by rfl) :
  PE X (.Call (.Attribute o "split" apos) (e::es) [] cpos) (tBM K "str" a3g to t):=by
 subst h;exact a4c gX PySem.F.slot_str_split PySem.F.type_str_split a6h ho ha hbase hfew hline hst hpl
end
end L2
end
section
namespace L2
open PySem PySem.Spec PySem.Builtin PySem.Builtin.Str PyProof.Rows
section
variable {K:ae}{p:Addr}{g:TG}{tc:TT}{te tv:TE}{τ0:St}{H0:Hp}{EE:Hp->Prop}
theorem a6M {lo:Int}{n:Nat}(Pv:Nat->St->Hp->Prop)(h0:Pv 0 τ0 H0)
  (hs:∀ i τ H,i<n->Pv i τ H->g (.int (lo+i)) τ H fun τ2 H2=>tc τ2 H2 λb H3=>if b=true then te τ2 H3 λk H4=>tv τ2 H4 λv H5=>∃ H6,a3J H5 p k v H6/\Pv (i+1) τ2 H6 else Pv (i+1) τ2 H3)
  (hd:∀ τ H,Pv n τ H->EE H):dcW g tc te tv p (Itr lo n) τ0 H0 EE:=by
 refine⟨λi m τ H=>m=n-i/\i<=n/\Pv i τ H,⟨_,rfl,bn _,h0⟩,?_⟩;rintro i m τ H ⟨rfl,hi,hp⟩;rcases bI i n with h | h
 ·refine .inr ⟨h,Pv (i+1),fun τ' H' z=>⟨_,∅,rfl,h,z⟩,?_⟩;rintro x H' ⟨rfl,rfl⟩;exact hs i τ H' h hp
 ·have e:i=n:=∅
  subst e;exact .inl ⟨ao _,hd τ H hp⟩
end
def tS (i:Int):Str:=Str.ofString (toString i)
theorem a2Z:∀ i j:Nat,i<100->j<100->tS i=tS j->i=j:=by
 have h:(List.range 100).all (λi=>(List.range 100).all λj=>decide (tS (i:Int)=tS (j:Int)) == decide (i=j))=true:=by decide +kernel
 intro i j hi hj e;have h1:=br.mp (br.mp h i (bf.mpr hi)) j (bf.mpr hj);rw[decide_eq_true e] at h1;exact of_decide_eq_true (~~~h1)
def nKv:Nat->List (Key×V)
 | 0=>[]
 | m+1=>R9 (nKv m) (.inr (tS m)) (.int m)
theorem a1B {m:Nat}(hm:m<=100){w:Str}{v:V}:O0 (nKv m) (.inr w)=some v↔∃ i:Nat,i<m/\w=tS i/\v=.int i:=by
 induction m with
 | zero=>simp[nKv,O0]
 | succ m ih =>
  have ih:=ih ∅;show O0 (R9 (nKv m) (.inr (tS m)) (.int m)) (.inr w)=some v↔_;rw[a5c];by_cases h:(gn w:Key)=.inr (tS m)
  ·rw[if_pos h];injection h with h
   subst h;constructor
   ·intro e;cases e;exact⟨m,∅,rfl,rfl⟩
   ·rintro⟨i,hi,e,rfl⟩;rw[a2Z m i ∅ ∅ e]
  ·rw[if_neg h,ih];constructor
   ·rintro⟨i,hi,e,rfl⟩;exact⟨i,∅,e,rfl⟩
   ·rintro⟨i,hi,e,rfl⟩;refine⟨i,?_,e,rfl⟩;rcases bI i m with c | c
    ·exact c
    ·exact absurd (by rw[e,show i=m by omega]) h
theorem a4h:∀ m:Nat,(nKv m).length<=m
 | 0=>ao _
 | m+1=>by
  have:=a4h m;have l1:=S5 (nKv m) (.inr (tS m)) (.int m);show (R9 (nKv m) _ _).length<=m+1;omega
def nOf (m:Nat)(w:Str):V:=(O0 (nKv m) (.inr w)).getD .non
end L2
end
section
namespace L2
open PySem PySem.Spec PySem.Builtin PySem.Builtin.Str PyProof.Rows
def cs (x:Str):List Nat:=x.cps.toList
theorem a1K {x y:Str}(h:cs x=cs y):x=y:=by
 obtain⟨⟨x⟩⟩:=x;obtain⟨⟨y⟩⟩:=y;have h:x=y:=h;rw[h]
theorem M4 (x:Str):(cs x).length=x.length:=by unfold cs;rw[aI];rfl
theorem R6 (a b:Str):cs (a++b)=cs a++cs b:=bi
def sT (l:List Nat):Str:=⟨l.toArray⟩
theorem b0T (l:List Nat):cs (sT l)=l:=rfl
def jn (c:Nat):List (List Nat)->List Nat
 | []=>[]
 | [p]=>p
 | p::q::r=>p++c::jn c (q::r)
def spl (c:Nat):List Nat->List (List Nat)
 | []=>[[]]
 | x::l=>if x=c then []::spl c l else match spl c l with
  | []=>[[x]]
  | p::r=>(x::p)::r
theorem a8S (c:Nat):∀ l,spl c l≠[]
 | [],h=>by cases h
 | x::l,h=>by
  unfold spl at h;split at h
  ·cases h
  ·split at h<;>cases h
theorem a3P (c:Nat):∀ l,(spl c l).length=l.count c+1
 | []=>rfl
 | x::l=>by
  have ih:=a3P c l;unfold spl;rw[gO];by_cases h:x=c
  ·rw[if_pos h,az,ih,if_pos (~~~h)]
  ·rw[if_neg h,if_neg (~~~h)];split
   ·next e=>exact absurd e (a8S c l)
   ·next e=>rw[e] at ih;rw[<- ih];rfl
theorem a3Q (c:Nat)(q:List Nat):∀ p:List Nat,c∉p->spl c (p++c::q)=p::spl c q
 | [],_=>by show spl c (c::q)=_;rw[spl,if_pos rfl]
 | x::p,h=>by
  show spl c (x::(p++c::q))=_;rw[spl,if_neg (λe=>h (by rw[e];exact aD)),a3Q c q p λm=>h (aq _ m)]
theorem a2c (c:Nat):∀ p:List Nat,c∉p->spl c p=[p]
 | [],_=>rfl
 | x::p,h=>by rw[spl,if_neg (λe=>h (by rw[e];exact aD)),a2c c p λm=>h (aq _ m)]
theorem a3c (c:Nat):∀ ps:List (List Nat),ps≠[]->(∀ p∈ps,c∉p)->spl c (jn c ps)=ps
 | [],h,_=>absurd rfl h
 | [p],_,h=>a2c c p (h p aD)
 | p::q::r,_,h=>by rw[jn,a3Q c _ p (h p aD),a3c c (q::r) (by simp) λx hx=>h x (aq _ hx)]
theorem a4l (c:Nat):∀(ys:List Str) (a:Array Nat),(ys.foldl (λacc p=>acc++(sT [c]).cps++p.cps) a).toList=jn c (a.toList::ys.map cs)
 | [],a=>by simp[jn]
 | y::ys,a=>by
  rw[dq,a4l c ys,am,bi,bi];cases ys with
  | nil=>simp[jn,sT,cs]
  | cons z zs=>simp[jn,sT,cs]
theorem Q1 (c:Nat)(ys:List Str):cs (dE (sT [c]) ys)=jn c (ys.map cs):=by
 cases ys with
 | nil=>rfl
 | cons y ys=>exact a4l c ys y.cps
theorem a0e (c:Nat):∀ ys:List Str,cs (Str.join (sT [c]) ys)=jn c (ys.map cs)
 | []=>rfl
 | [y]=>rfl
 | y::z::r=>by
  rw[am,am,jn,<- am,<- a0e c (z::r)];show cs (y++sT [c]++Str.join (sT [c]) (z::r))=_;rw[R6,R6,bd];rfl
theorem a0i (x:Str)(c:Nat):(Txt.split x (sT [c])).map cs=spl c (cs x):=by
 have e:=a0e c (Txt.split x (sT [c]));rw[StrLaws.join_split x _] at e;rw[e,a3c]
 ·have:=PyProof.Rows.split_pos x (sT [c]);intro h;rw[List.map_eq_nil_iff] at h;rw[h] at this;exact absurd this (by decide)
 ·intro p hp;obtain⟨s,hs,rfl⟩:=aQ.mp hp;exact StrLaws.split_free x c s hs
theorem a0T (x:Str)(c:Nat):(Txt.split x (sT [c])).length=(cs x).count c+1:=by
 rw[<- a3P,<- a0i,aa]
theorem a0h {c:Nat}{ys:List Str}(hn:ys≠[])(h:∀ y∈ys,c∉cs y):Txt.split (dE (sT [c]) ys) (sT [c])=ys:=by
 have e:=a0i (dE (sT [c]) ys) c;rw[Q1,a3c] at e
 ·have inj:∀(a b:List Str),a.map cs=b.map cs->a=b:=λa=>by
   induction a with
   | nil=>intro b h;cases b with
    | nil=>rfl
    | cons=>cases h
   | cons x a ih=>intro b h;cases b with
    | nil=>cases h
    | cons y b=>rw[a1K (cA h).1,ih b (cA h).2]
  exact inj _ _ e
 ·intro h;exact hn (iQ.mp h)
 ·intro p hp;obtain⟨s,hs,rfl⟩:=aQ.mp hp;exact h s hs
theorem a2I {c d:Nat}(hd:d≠c):∀ ps:List (List Nat),(jn c ps).count d=(ps.map (·.count d)).sum
 | []=>rfl
 | [p]=>by simp[jn]
 | p::q::r=>by rw[jn,eQ,gO,if_neg (by simpa using λe=>hd e.symm),a2I hd (q::r)];simp
theorem a1b {c:Nat}:∀ ps:List (List Nat),(jn c ps).count c<=(ps.map (·.count c)).sum+ps.length
 | []=>ao _
 | [p]=>by simp[jn]
 | p::q::r=>by
  have:=a1b (c:=c) (q::r);rw[jn,eQ,gO,if_pos (by simp)];rw[am,ie,az];omega
theorem a3u (c:Nat):∀ ps:List (List Nat),(jn c ps).length<=(ps.map cz).sum+ps.length
 | []=>ao _
 | [p]=>by simp[jn]
 | p::q::r=>by
  have:=a3u c (q::r);rw[jn,aB,az,am,ie,az];omega
def a3C (x:Str)(lo hi:Option Int):Str:=sT (((cs x).drop (HT.sIx x.length 0 lo)).take (HT.sIx x.length x.length hi-HT.sIx x.length 0 lo))
theorem a0d (lo hi:Option Int)(n:Nat):strSliceIndices lo hi 1 n=sliceRange ((HT.sIx n 0 lo:Nat):Int) ((HT.sIx n n hi:Nat):Int) 1:=by
 obtain⟨h1,h2,_⟩:=V3 lo hi n;rw[<- h1,<- h2];rfl
theorem a5K (x:Str)(lo hi:Option Int):(strSliceIndices lo hi 1 x.length).filterMap (λi=>x.cps[i]?)=cs (a3C x lo hi):=by
 rw[a0d];obtain⟨⟨l⟩⟩:=x;show _=((l.drop _).take _)
 have e:Str.length ⟨⟨l⟩⟩=l.length:=rfl;rw[e];simp only[sliceRange_one,pick_run,ay]<;>rfl
theorem a4r (x:Str)(lo hi:Option Int):(a3C x lo hi).length<=x.length:=by
 rw[<- M4,<- M4 x];show ((_:List Nat).take _).length<=_;rw[bq,fg];omega
theorem a1J (x:Str)(lo hi:Option Int):(cs (a3C x lo hi)).Sublist (cs x):=(cY _ _).trans (dy _ _)
theorem a4s (x:Str)(lo hi:Option Int)(c:Nat):(cs (a3C x lo hi)).count c<=(cs x).count c:=(a1J x lo hi).count_le c
theorem a8T (n:Nat)(hi:Option Int):HT.sIx n n hi<=n:=by
 unfold HT.sIx;split
 ·exact ao _
 ·split<;>omega
section
variable {X:Cx}
def b0y:V->Option Int->Option Int->Hp->VK->Prop:=λx lo hi H Q=>∃ a,x=.str a/\a.length<=sizeLine/\Q (.str (a3C a lo hi)) H
theorem X0:SlR X b0y:=by
 intro pins s σ H x v vl vu lo hi sl Q I rx hs pl pu h;obtain⟨a,rfl,hz,q⟩:=h;obtain⟨t,rfl⟩:=rx;refine⟨"str",_,ju.lookup,typeIs_str _ _ _,?_⟩;have key:∀ l u:Option (Int×Tok),vl=partValue l->vu=partValue u->lo=l.map (·.1)->hi=u.map (·.1)->wpAny (model X.prog X.w) X.A (getItem (.str a t) (.ref sl)) (EP X pins σ Q) X.xe s:=by
  rintro l u rfl rfl rfl rfl;refine wpAny_getItem_str_slice (l:=l) (u:=u) (st:=none) hs (by decide) ?_;unfold sliceMade;have e:slicePicked a l u none=strSliceIndices (l.map (·.1)) (u.map (·.1)) 1 a.length:=rfl;rw[e,a5K];split
  ·next hc =>
   have hlen:(strSliceIndices (l.map (·.1)) (u.map (·.1)) 1 a.length).length=a.length:= ~~~hc
   refine⟨.str a,H,I,⟨t,rfl⟩,?_⟩;rw[show a3C a (l.map (·.1)) (u.map (·.1))=a from ?_] at q
   ·exact q
   ·refine a1K ((a1J a _ _).eq_of_length ?_);rw[a0d,sliceRange_one,aa,cH] at hlen;show ((_:List Nat).take _).length=_;rw[bq,fg,M4];have:=a8T a.length (u.map (·.1));omega
  ·refine⟨aH (a4r a _ _) hz,.str _,H,I.tok _,⟨_,rfl⟩,q⟩
 cases pl with
 | none=>cases pu with
  | none=>exact key none none rfl rfl rfl rfl
  | int i t'=>exact key none (some (i,t')) rfl rfl rfl rfl
 | int j t2=>cases pu with
  | none=>exact key (some (j,t2)) none rfl rfl rfl rfl
  | int i t'=>exact key (some (j,t2)) (some (i,t')) rfl rfl rfl rfl
def a0J (a:Str)(k:Nat):Str:=sT (List.replicate k (cs a)).flatten
theorem a0B (a:Array Nat):∀(k:Nat) (b:Array Nat),((List.replicate k a).foldl (λx y=>x++y) b).toList=b.toList++(List.replicate k a.toList).flatten
 | 0,b=>by simp
 | k+1,b=>by rw[cy,dq,a0B a k,bi,cy,dw,bd]
theorem a2p (a:Str)(k:Nat):(a0J a k).length=k*a.length:=by
 rw[<- M4,<- M4 a];show ((List.replicate k (cs a)).flatten).length=_;rw[List.length_flatten,i6,io]
theorem a2q (a:Str)(k c:Nat):(cs (a0J a k)).count c=k*(cs a).count c:=by
 show ((List.replicate k (cs a)).flatten).count c=_;rw[List.count_flatten,i6,io]
def a8f:R2:=λx y H Q=>∃ a k,x=.str a/\y=.int k/\1<=a.length/\2<=k/\(a.length:Int)*k<=1000000/\Q (.str (a0J a k.toNat)) H
theorem V7:OpR X (binaryOp .Mult) a8f:=by
 intro pins s σ H x y v u Q I rx ry h;obtain⟨a,k,rfl,rfl,h1,h2,hz,q⟩:=h;obtain⟨t,rfl⟩:=rx;obtain⟨t',rfl⟩:=ry;have hk:k<=1000000:=by
  have:=Int.mul_le_mul_of_nonneg_right (show (1:Int)<=a.length by omega) (show 0<=k by omega);omega
 have ha:(a.length:Int)<=1000000:=by
  have:=Int.mul_le_mul_of_nonneg_left (show 1<=k by omega) (show (0:Int)<=a.length by omega);omega
 have e1:(k == 1 || a.length == 0)=false:=by simp;omega
 have ez:a.length*k.toNat<=1000000:=by
  have:((a.length*k.toNat:Nat):Int)=(a.length:Int)*k:=by rw[Int.natCast_mul,bX ∅]
  omega
 refine P.mul_str (by rw[dM,decide_eq_false_iff_not,decide_eq_false_iff_not];omega) (λ_ _=>?_) (λ_ _=>?_) ?_
 ·have:a.length<=((2:Int) ^ 63-1) / k:=(Int.le_ediv_iff_mul_le ∅).mpr ∅;omega
 ·unfold tooLong;rw[decide_eq_false_iff_not,sizeLine_eq];omega
 ·rw[if_neg ∅,if_neg (by rw[e1];decide)]
  have el:(⟨gl (λx1 x2=>x1++x2) #[] (List.replicate k.toNat a.cps)⟩:Str)=a0J a k.toNat:=a1K (by
   show (gl (λx1 x2=>x1++x2) #[] (List.replicate k.toNat a.cps)).toList=_
   rw[a0B];rfl)
  rw[el];exact⟨by rw[a2p,sizeLine_eq,iK];omega,.str _,H,I.tok _,⟨_,rfl⟩,q⟩
end
end L2
end
section
namespace L2
open PySem PySem.Spec PySem.Builtin PySem.Builtin.Str PyProof.Rows
structure Gt (m k:Nat)(x:Str):Prop where
 len:x.length<=m
 asc:∀ c∈cs x,c<128
 cm:(cs x).count 44<=k
 sp:(cs x).count 32<=k
def gtB (m k:Nat)(x:Str):Bool:=decide (x.length<=m) && ((cs x).all λc=>decide (c<128)) && decide ((cs x).count 44<=k) && decide ((cs x).count 32<=k)
theorem C0 {m k:Nat}{x:Str}(h:gtB m k x=true):Gt m k x:=by
 unfold gtB at h;simp only[bB,decide_eq_true_eq,br] at h;exact⟨h.1.1.1,h.1.1.2,h.1.2,h.2⟩
theorem Gt.mono {m k m' k':Nat}{x:Str}(h:Gt m k x)(hm:m<=m')(hk:k<=k'):Gt m' k' x:=⟨aH h.len hm,h.asc,aH h.cm hk,aH h.sp hk⟩
theorem Gt.add {m k m' k':Nat}{x y:Str}(h:Gt m k x)(h':Gt m' k' y):Gt (m+m') (k+k') (x++y):=by
 refine⟨?_,λc hc=>?_,?_,?_⟩
 ·rw[<- M4,R6,aB,M4,M4];exact bA h.len h'.len
 ·rw[R6] at hc;exact (aA.mp hc).elim (h.asc c) (h'.asc c)
 ·rw[R6,eQ];exact bA h.cm h'.cm
 ·rw[R6,eQ];exact bA h.sp h'.sp
theorem Gt.cut {m k:Nat}{x:Str}{lo hi:Option Int}(h:Gt m k x):Gt m k (a3C x lo hi) :=
 ⟨aH (a4r x lo hi) h.len,λc hc=>h.asc c ((a1J x lo hi).subset hc),aH (a4s x lo hi 44) h.cm,aH (a4s x lo hi 32) h.sp⟩
theorem Gt.rep {k:Nat}{x:Str}{n:Nat}(h:Gt 1 0 x):Gt n k (a0J x n):=by
 refine⟨?_,λc hc=>?_,?_,?_⟩
 ·rw[a2p];have:=Nat.mul_le_mul_left n h.len;omega
 ·have hc:c∈(List.replicate n (cs x)).flatten:=hc;obtain⟨l,hl,hc⟩:=List.mem_flatten.mp hc;rw[(List.mem_replicate.mp hl).2] at hc;exact h.asc c hc
 ·rw[a2q,Nat.le_zero.mp h.cm];omega
 ·rw[a2q,Nat.le_zero.mp h.sp];omega
theorem T7 {α:Type}(f:α->Nat)(m:Nat):∀ l:List α,(∀ x∈l,f x<=m)->(l.map f).sum<=l.length*m
 | [],_=>by simp
 | x::l,h=>by
  have:=T7 f m l λy hy=>h y (aq _ hy)
  have:=h x aD;rw[am,ie,az,iI];omega
theorem a6i {c d:Nat}:∀ {ps:List (List Nat)},d∈jn c ps->d=c\/∃ p∈ps,d∈p
 | [],h=>by cases h
 | [p],h=>.inr ⟨p,au.mpr rfl,h⟩
 | p::q::r,h=>by
  rw[jn,aA,aO] at h;rcases h with h | h | h
  ·exact .inr ⟨p,aD,h⟩
  ·exact .inl h
  ·rcases a6i h with h | ⟨x,hx,h⟩
   ·exact .inl h
   ·exact .inr ⟨x,aq _ hx,h⟩
theorem Gt.join {m k n c:Nat}{ws:List Str}(hc:c=44\/c=32)(hn:ws.length<=n)(h:∀ w∈ws,Gt m k w):Gt (n*m+n) (n*k+n) (dE (sT [c]) ws):=by
 have mul:∀ {f:Str->Nat} {b:Nat},(∀ w∈ws,f w<=b)->(ws.map f).sum<=n*b:=λ{f b} hf=>aH (T7 f b ws hf) (Nat.mul_le_mul_right b hn)
 have cnt:∀ d:Nat,(∀ w∈ws,(cs w).count d<=k)->(jn c (ws.map cs)).count d<=n*k+n:=λd hd=>by
  have e:((ws.map cs).map (·.count d)).sum<=n*k:=by rw[bC];exact mul (f:=λw=>(cs w).count d) hd
  by_cases h:d=c
  ·subst h;have:=a1b (c:=d) (ws.map cs);rw[aa] at this;omega
  ·rw[a2I h];omega
 refine⟨?_,λd hd=>?_,?_,?_⟩
 ·rw[<- M4,Q1];have:=a3u c (ws.map cs);have e:((ws.map cs).map cz).sum<=n*m:=by rw[bC];exact mul (f:=λw=>(cs w).length) λw hw=>by rw[M4];exact (h w hw).len
  rw[aa] at this;omega
 ·rw[Q1] at hd;rcases a6i hd with rfl | ⟨p,hp,hd⟩
  ·omega
  ·obtain⟨w,hw,rfl⟩:=aQ.mp hp;exact (h w hw).asc d hd
 ·rw[Q1];exact cnt 44 λw hw=>(h w hw).cm
 ·rw[Q1];exact cnt 32 λw hw=>(h w hw).sp
theorem Gt.splitC {m k:Nat}{x:Str}(h:Gt m k x):(Txt.split x (Str.ofString ",")).length<=k+1:=by
 rw[show Str.ofString ","=sT [44] by decide +kernel,a0T];exact gH h.cm
theorem Gt.splitS {m k:Nat}{x:Str}(h:Gt m k x):(Txt.split x (Str.ofString " ")).length<=k+1:=by
 rw[show Str.ofString " "=sT [32] by decide +kernel,a0T];exact gH h.sp
theorem a0z {n:Int}(h0:0<=n)(h1:n<100):Gt 2 0 (tS n):=by
 have h:(List.range 100).all (λi=>gtB 2 0 (tS (i:Int)))=true:=by decide +kernel
 have:=br.mp h n.toNat (bf.mpr ∅);rw[bX h0] at this;exact C0 this
theorem Gt.sum {m k:Nat}{ws:List Str}(h:∀ w∈ws,Gt m k w):(ws.map (·.length)).sum<=ws.length*m:=T7 _ m ws λw hw=>(h w hw).len
theorem Gt.nx {m k:Nat}{x:Str}(h:Gt m k x)(hm:m<=100000):Nx 50 100000 (.str x):=by
 refine⟨.inl rfl,rfl,bn _,?_,aH h.len hm⟩;rw[PyData.leavesShort,br];intro c hc;exact decide_eq_true (cW (h.asc c hc) (by decide))
def a8u:List V->Hp->VK->Prop:=λxs H Q=>∃ y,xs=[.str y]/\y.length<=sizeLine/\Q (.int y.length) H
theorem a4U {X:Cx}:M0 X (.builtin "len") a8u:=λpins s σ H xs us Q I r ⟨y,e,h,q⟩=>a6P pins s σ H xs us Q I r ⟨_,_,e,⟨h,rfl⟩,q⟩
end L2
end
section
namespace L2
open PySem PySem.Spec PyProof.Rows
theorem HOk.there {P:Program}{w:World}{H:Hp}{h:Heap}{a:Addr}{o:HO}(x:HOk P w H h)(e:H a=some o):∃ ob,h.get? a=some ob:=by
 have y:=x a o e;clear e;induction o with
 | lst xs=>obtain⟨_,_,_,_,e⟩:=y;exact⟨_,e⟩
 | tup xs=>obtain⟨_,_,_,o,e,_⟩:=y;exact⟨_,e⟩
 | dK kvs=>obtain⟨_,_,_,_,o,_,_,e,_⟩:=y;exact⟨_,e⟩
 | dT kvs=>obtain⟨_,_,_,_,o,_,_,e,_⟩:=y;exact⟨_,e⟩
 | set S n=>obtain⟨o,_,_,_,e,_⟩:=y;exact⟨_,e⟩
 | ins C dx fs=>obtain⟨_,_,_,e,_⟩:=y;exact⟨_,e⟩
 | own y'=>obtain⟨_,e⟩:=y;exact⟨_,e⟩
 | xd fs=>obtain⟨_,⟨_,_,_,e,_⟩,_⟩:=y;exact⟨_,e⟩
 | rng lo hi=>obtain⟨_,_,_,e⟩:=y;exact⟨_,e⟩
 | frz ob u ih=>obtain⟨e,_⟩:=y;exact⟨_,e⟩
 | tbl ps=>exact⟨_,(show h.get? a=some _ from y)⟩
 | met f y'=>exact⟨_,(show h.get? a=some _ from y)⟩
 | ext φ=>obtain⟨_,⟨_,e⟩,_⟩:=y;exact⟨_,e⟩
theorem HOk.part {P:Program}{w:World}{H:Hp}{h B:Heap}(x:HOk P w H h)(k:∀ b u,H b≠none->h.get? b=some u->B.get? b=some u):HOk P w H B:=λa o e =>
 (x a o e).stay (λb u hb q=>k b u (by rcases hb with rfl | hb;(· rw[e];simp);(· rw[hb];simp)) q) (λ_ q=>q) λ_ _ q=>q
theorem a6z {h B:Heap}{l:List Env}{b:Addr}{o:Obj}{vs:Array Value}(F:h.FunFrames B l)(e:h.get? b=some o)(d:o.data=.fields vs):b∉frs l:=λhb=>by
 obtain⟨_,o',e',d'⟩:=F.mem hb;rw[e] at e';cases e';exact d' vs d
structure Fl (P:Program)(w:World)(outer:List Env)(H:Hp)(h:Heap)(ea C:Addr)(H':Hp)(h':Heap):Prop where
 fly:∃ B a0,ir B outer ea (.ref C) a0 h'/\HOk P w H' B/\(∀ b o,h.get? b=some o->H b=none->b∉frs outer->B.get? b=some o)/\∀ b o,h.get? b=some o->b∉frs outer->∃ ob,B.get? b=some ob
 un:Un (frs outer) [] H H' h h'
 nea:H' ea=none
def CX1 (P:Program)(w:World):CXT:=λouter H s E e s'=>∃(ea C:Addr) (H':Hp),e=.ref ea/\s'.os=s.os/\AllBare s'.gens/\Fl P w outer H s.heap ea C H' s'.heap/\E (.ref C) none H'
theorem Fl.hok {P:Program}{w:World}{outer:List Env}{H H':Hp}{h h':Heap}{ea C:Addr}(x:Fl P w outer H h ea C H' h'):HOk P w H' h':=by
 obtain⟨B,a0,⟨f1,_⟩,ok,_⟩:=x.fly;exact ok.kept f1
theorem a9O {K:ae}{h:Heap}{C:Addr}{bmB:List Value}{newId:String}(X:K.In h)(q:PySem.W.excIn K C bmB newId=true) :
  ∃ bm N nm qn bs hdct sn sub ab col dd k0 k1 k2 k3 k5 mN,h.get? C=some (excClassObj nm qn C N bs bm hdct sn sub ab col dd k0 k1 k2 k3 k5 newId)/\h.Ns N mN/\mN "__init__"=none/\OwnTail h bmB bm:=by
 unfold PySem.W.excIn at q;split at q
 ·rename_i dd cd sl ho;split at q
  ·rename_i C' bm k0 k1 k2 k3 n k5 hm hs;simp only[bB,beq_iff_eq,Bool.not_eq_true'] at q;obtain⟨⟨⟨⟨⟨rfl,rfl⟩,hdel⟩,ht⟩,hok⟩,hni⟩:=q;obtain⟨nm,bs,mro,ns,qn,hd,sn,sub,ab,col,del⟩:=cd;dsimp only at hm hdel hok hni;subst hm hdel;have hsl:sl=#[k0,k1,k2,k3,some (.builtin n),k5]:=by
    obtain⟨l⟩:=sl;simp only at hs;rw[hs]
   subst hsl;exact⟨bm,ns,nm,qn,bs,hd,sn,sub,ab,col,dd,k0,k1,k2,k3,k5,_,X _ _ ho,.of_isNs (PySem.W.isNs_of_in X hok),PySem.W.nsMap_none_of_in X hok hni,PySem.W.tail_of_in X ht⟩
  ·cases q
 ·cases q
section
variable {X:Cx}{E:XK}{C:Addr}{x:Str}{bmB:List Value}{np cpos pos:Pos}
def a0F (X:Cx)(E:XK)(C:Addr):Prop:=∀(pins:List (Addr×Obj)) (σ:St) (H:Hp) (s:Shared) (ea:Addr) (h':Heap),Inv X pins σ H s->Heap.MadeExcOf s.heap h' ea (.ref C) []->E (.ref C) none H->X.xe (.ref ea) {s with heap:=h'}
def a3a (E:XK)(C:Addr):TS:=λ_ _ H=>E (.ref C) none H
theorem a5I {B newId initId:String}(FB:ExcBaseFacts B newId initId bmB)(hcalm:X.calm=true)(hg:Gl X x)(hm:X.mg x=some (.ref C))(hc:PySem.W.excIn X.K C bmB newId=true)(hp:a0F X E C)
  (hd:(x == ("__debug__":Str))=false:=by decide):PS X (.Raise (some (.Call (.Name x np) [] [] cpos)) none pos) (a3a E C):=by
 intro pins s σ H D I h;obtain⟨tl,N,nm,q,bs,hdct,sn,sub,ab,col,dd,k0,k1,k2,k3,k5,mN,hC,hN,hni,T⟩:=a9O I.kIn hc;refine wpAny_Raise_call_subT (C:=C) (nm:=nm) (q:=q) (N:=N) (bs:=bs) (bm:=tl) (hdct:=hdct) (sn:=sn) (sub:=sub) (ab:=ab) (col:=col) (dd:=dd) (k0:=k0) (k1:=k1) (k2:=k2) (k3:=k3) (k5:=k5)
  FB (mN:=mN) (T.hasType FB.hasBase) (I.ok.hd hcalm) rfl hni (a0c I hg hm ⟨rfl,?_⟩ hd)
 exact evalArgs_empty ⟨rfl,bn _,hC,hN,T,λh' e hx=>hp pins σ H s e h' I hx h⟩
end
section
variable {P:Program}{w:World}{K:ae}{mg:Str->Option Value}{base:Heap}{N:List Str}{qual:Str}{scope:Scope}{f:Addr}{cd:Value}{A:Around}{outer:List Env}{s0:Shared}{H0:Hp}{E:XK}{C:Addr}
theorem a6y {l:List Env}{env:Env}{L:Addr}(hf:env.frame=some L):frs (env::l)=L::frs l:=by
 unfold frs;rw[cI,hf]
theorem a7x:a0F (a0L (CX1 P w) P w K mg base N qual scope f cd A outer s0 H0 E) E C:=by
 intro pins σ H s ea h' I hx hE;have hst:s.heap.FunFrames base (envOfC qual scope s0.heap.objs.size f cd::outer):=I.stack;have hfr:(A.deeper (envOfC qual scope s0.heap.objs.size f cd)).frames=some (envOfC qual scope s0.heap.objs.size f cd::outer):=I.ok.frames;have hfs:frs (envOfC qual scope s0.heap.objs.size f cd::outer)=s0.heap.objs.size::frs outer:=a6y rfl;have hin:∀ env∈(envOfC qual scope s0.heap.objs.size f cd::outer),∀ b,env.frame=some b->b∈frs (envOfC qual scope s0.heap.objs.size f cd::outer):=λenv he b hb=>i5.mpr ⟨env,he,hb⟩
 have hne:∀ b o,s0.heap.get? b=some o->b∉frs outer->b∉frs (envOfC qual scope s0.heap.objs.size f cd::outer):=λb o e hb hm=>by
  rw[hfs] at hm;rcases aO.mp hm with rfl | hm
  ·exact absurd (ax e) (cu _)
  ·exact hb hm
 have hB:=I.base;have hnf:∀ b o,s.heap.get? b=some o->b∈frs (envOfC qual scope s0.heap.objs.size f cd::outer)->∀ vs,o.data≠.fields vs:=λb o e hm=>by
  obtain⟨_,o',e',d'⟩:=hst.mem hm;rw[e] at e';cases e';exact d'
 show wpAny (model P w) (A.deeper (envOfC qual scope s0.heap.objs.size f cd)) (leaving (envOfC qual scope s0.heap.objs.size f cd) (.ref ea)) _ _ _;refine wpAny_leaves_madeW (base:=eZ s.heap (frs (envOfC qual scope s0.heap.objs.size f cd::outer))) (h:=s.heap) hfr rfl (λb o q=>iq _ q) (PySem.W.funFrames_hide hst hin) hx λh'' t fl tup nt up=>?_
 have keep:∀ b o,s0.heap.get? b=some o->H0 b=none->b∉frs outer->(eZ s.heap (frs (envOfC qual scope s0.heap.objs.size f cd::outer))).get? b=some o:=λb o e n hb=>dI _ (hB.keep b o e n hb (λz=>nomatch z)) (hne b o e hb)
 have up2:∀ b o,s.heap.get? b=some o->b∈frs (envOfC qual scope s0.heap.objs.size f cd::outer)->∃ sl,h''.get? b=some {o with slots:=sl}:=λb o e hm=>up b o (hx.keeps b o e) (hnf b o e hm)
 have tH:∀ b o,s0.heap.get? b=some o->b∉frs outer->∃ ob,(eZ s.heap (frs (envOfC qual scope s0.heap.objs.size f cd::outer))).get? b=some ob:=λb o e hb=>by
  obtain⟨o',e'⟩:=hB.there b o e (λz=>nomatch z);exact⟨o',dI _ e' (hne b o e hb)⟩
 refine⟨ea,C,H,rfl,I.os,I.bare,⟨⟨_,_,fl,I.hok.part λb u hb q=>dI _ q λhm=>hb (I.stkFree b hm),keep,tH⟩,⟨λb o e n hb _=>fl.1 b o (keep b o e n hb),λb o e n hb _=>?_,hB.free,λb o e _=>?_,hB.tups,hB.frzs,hB.tbls⟩,?_⟩,hE⟩
 ·obtain⟨sl,e1⟩:=hB.slot b o e n hb (λz=>nomatch z);obtain⟨sl',e2⟩:=up2 b _ e1 (by rw[hfs];exact aq _ hb);exact⟨sl',e2⟩
 ·by_cases hb:b∈frs outer
  ·obtain⟨o',e'⟩:=hB.there b o e (λz=>nomatch z);obtain⟨sl',e2⟩:=up2 b _ e' (by rw[hfs];exact aq _ hb);exact⟨_,e2⟩
  ·obtain⟨o',e'⟩:=tH b o e hb;exact⟨o',fl.1 b o' e'⟩
 ·cases q:H ea with
  | none=>rfl
  | some o =>
   obtain⟨ob,e⟩:=I.hok.there q;rw[hx.new] at e;cases e
end
end L2
end
section
namespace L2
open PySem PySem.Spec PyProof.Rows
theorem Fl.look {P:Program}{w:World}{outer:List Env}{H H':Hp}{h h':Heap}{ea C:Addr}(x:Fl P w outer H h ea C H' h'):∃ B a0,ir B outer ea (.ref C) a0 h'/\(∀ b o,h.get? b=some o->H b=none->b∉frs outer->B.get? b=some o) /\
  ∀ h'',ir B outer ea (.ref C) a0 h''->h'.UpToSlots h''->Fl P w outer H h ea C H' h'':=by
 obtain⟨B,a0,fl,ok,kp,th⟩:=x.fly;have u:=x.un;have up2:∀ {h''},h'.UpToSlots h''->∀ b o,h'.get? b=some o->b∈frs outer->∃ sl,h''.get? b=some {o with slots:=sl}:=λ{h''} up b o e hm=>by
  obtain⟨_,o',e',d'⟩:=fl.2.2.1.mem hm;rw[e] at e';cases e';exact up b o e d'
 refine⟨B,a0,fl,kp,λh'' fl' up=>⟨⟨B,a0,fl',ok,kp,th⟩,⟨λb o e n hb _=>fl'.1 b o (kp b o e n hb),λb o e n hb hx=>?_,u.free,λb o e hx=>?_,u.tups,u.frzs,u.tbls⟩,x.nea⟩⟩
 ·obtain⟨sl,e1⟩:=u.slot b o e n hb hx;obtain⟨sl2,e2⟩:=up2 up b _ e1 hb;exact⟨sl2,e2⟩
 ·by_cases hb:b∈frs outer
  ·obtain⟨o1,e1⟩:=u.there b o e hx;obtain⟨sl,e2⟩:=up2 up b _ e1 hb;exact⟨_,e2⟩
  ·obtain⟨o1,e1⟩:=th b o e hb;exact⟨o1,fl'.1 b o1 e1⟩
def a7O (ea C:Addr):HO:=.ext λh=>∃ o,h.get? ea=some o/\o.cls=.ref C
section
variable {X:Cx}{pins:List (Addr×Obj)}{σ:St}{H H':Hp}{s s':Shared}{ea C:Addr}
theorem Inv.track {o:HO}(I:Inv X pins σ H s)(hn:H ea=none)(h0:∀ ob,X.sw.heap.get? ea=some ob->X.Hz ea=none->ea∉X.ex->False)(hl:ea≠X.env.locals)(hc:∀ x c,X.env.cells.lookup x=some c->c≠ea)(hp:∀ p∈X.pn++pins,p.1≠ea)
  (new:J0 X.prog X.w (upd H ea o) s.heap ea o):Inv X pins σ (upd H ea o) s:=by
 refine⟨I.ok,I.os,I.bare,⟨I.base.keep,I.base.slot,λb ob e n hx=>?_,I.base.there,λb xs e=>?_,λb ob u e=>?_,λb ps e=>?_⟩,I.loc,I.cell,by rw[A7 hl.symm];exact I.free,λx c e=>by rw[A7 (hc x c e)];exact I.freeC x c e,λp hpp=>?_,λb u e=>?_,I.len⟩
 ·by_cases hb:b=ea
  ·subst hb;exact (h0 ob e n hx).elim
  ·rw[A7 hb];exact I.base.free b ob e n hx
 ·have:=I.base.tups b xs e;rw[A7 (C2 this hn)];exact this
 ·have:=I.base.frzs b ob u e;rw[A7 (C2 this hn)];exact this
 ·obtain⟨m,e1⟩:=I.base.tbls b ps e;exact⟨m,by rw[A7 (C2 e1 hn)];exact e1⟩
 ·obtain⟨a,b,c,d,e⟩:=I.pin p hpp;exact⟨a,by rw[A7 (hp p hpp)];exact b,c,d,e⟩
 ·by_cases hb:b=ea
  ·subst hb;rw[A2] at e;cases e;exact new
  ·rw[A7 hb] at e;exact (I.hok b u e).stay (λ_ _ _ q=>q) (λc q=>by rw[A7 (C2 q hn)];exact q) λc xs q=>by rw[A7 (C2 q hn)];exact q
theorem Inv.exc (I:Inv X pins σ H s)(hs:s'.os=s.os)(hb:AllBare s'.gens)(F:Fl X.prog X.w X.stack H s.heap ea C H' s'.heap):Inv X pins σ (upd H' ea (a7O ea C)) s':=by
 have I2:Inv X pins σ H' s':=I.call' (ch:=[]) hs F.un F.hok hb λb z=>nomatch z
 obtain⟨B,a0,fl,kp,_⟩:=F.look;obtain⟨oe,vs,he,hec,hed,_⟩:=fl.first;have nB:B.get? ea=none:=fl.2.1;have nfr:ea∉frs X.stack:=a6z fl.2.2.1 he hed;have nloc:ea≠X.env.locals:=λz=>by
  obtain⟨m,⟨o,es,ep,ho,hd,_⟩,_⟩:=I2.loc;rw[<- z,he] at ho;cases ho;rw[hed] at hd;cases hd
 refine I2.track F.nea (λob e n hx=>?_) nloc (λx c e z=>?_) (λp hp z=>?_) ⟨⟨oe,he,hec⟩,⟨oe,he⟩,λh1 h2 ⟨o,e,c⟩ k=>⟨o,k o e,c⟩⟩
 ·by_cases hf:ea∈X.fs
  ·obtain⟨sl,e1⟩:=I2.base.slot ea ob e n hf hx;obtain⟨_,o',e',d'⟩:=I2.funs.mem hf;rw[he] at e';cases e';exact d' vs hed
  ·have e1:=I.base.keep ea ob e n hf hx;have:=kp ea ob e1 (I.base.free ea ob e n hx) nfr;rw[nB] at this;cases this
 ·obtain⟨v,o,ho,hd⟩:=I2.cell x c e;rw[z,he] at ho;cases ho;rw[hed] at hd;cases hd
 ·obtain⟨e,n,ne,nf,d⟩:=I.pin p hp;have:=kp p.1 p.2 e n λhm=>(aO.mp (I.stkSub p.1 hm)).elim ne nf
  rw[z,nB] at this;cases this
abbrev Cx.mark (X:Cx)(ea:Addr):Cx:={X with A:=X.A.mark (some (.ref ea)),calm:=false}
theorem Cx.Ok.mark (ok:X.Ok)(ea:Addr):(X.mark ea).Ok :=
 ⟨ok.mod,ok.kind,ok.glob,ok.blt,ok.above,ok.inj,ok.has,ok.cab,(λh=>by cases h),ok.frames,ok.stk,ok.exf,ok.bs,ok.bsz,ok.noex,ok.exfs,ok.funs,ok.frf⟩
theorem Cx.Ok.unmark (hok:X.Ok)(ok:(X.mark ea).Ok):X.Ok:=hok
theorem Inv.mark (I:Inv X pins σ H s)(ea:Addr):Inv (X.mark ea) pins σ H s:=⟨I.ok.mark ea,I.os,I.bare,I.base,I.loc,I.cell,I.free,I.freeC,I.pin,I.hok,I.len⟩
theorem Inv.unmark (hok:X.Ok)(I:Inv (X.mark ea) pins σ H s):Inv X pins σ H s:=⟨hok,I.os,I.bare,I.base,I.loc,I.cell,I.free,I.freeC,I.pin,I.hok,I.len⟩
theorem Inv.gone {i:Nat}{n:Str}{h':Heap}{v:Option Value}{t':Nat}{m:Str->Option Value}(I:Inv X pins σ H s)(hN:X.N.Nodup)(hi:X.N[i]?=some n)(hm:s.heap.Ns X.env.locals m)(hl:∀(j:Nat) (x:Str) (u:V),X.N[j]?=some x->σ[j]?=some (some u)->Vis X.env.scope x->∃ w,B6 u w/\b1a X.env s.heap m x w)
  (hn':h'.Ns X.env.locals (λx=>if x=n then v else m x)) (hs:cr X.env.locals s.heap h'):Inv X pins (σ.set i none) H {s with heap:=h',toks:=t'}:=by
 have hiσ:i<σ.length:=by rw[I.len];exact (aK.mp hi).1
 obtain⟨oL,_,_,hoL,_⟩:=id hm;have cne:=I.cne;refine⟨I.ok,I.os,I.bare,⟨λb o e n hb hx=>?_,λb o e n hb hx=>?_,I.base.free,λb o e hx=>?_,I.base.tups,I.base.frzs,I.base.tbls⟩,⟨_,hn',λj y v' e1 e2 e3=>?_⟩,λy c e=>?_,I.free,I.freeC,λp hp=>?_,λb ob e=>?_, ~~~I.len⟩
 ·exact (hs.2 b (aN (aS (ax e) I.ok.above))).trans (I.base.keep b o e n hb hx)
 ·obtain⟨sl,e1⟩:=I.base.slot b o e n hb hx;exact⟨sl,(hs.2 b (aN (aS (ax e) I.ok.above))).trans e1⟩
 ·obtain⟨o',e1⟩:=I.base.there b o e hx;exact⟨o',(hs.2 b (aN (aS (ax e) I.ok.above))).trans e1⟩
 ·by_cases hj:j=i
  ·subst hj;rw[du hiσ] at e2;cases e2
  ·rw[fN (fm hj)] at e2;obtain⟨u',r',q⟩:=hl j y v' e1 e2 e3;refine⟨u',r',?_⟩;rcases q with ⟨k,e⟩ | ⟨k,c,e,z⟩
   ·refine .inl ⟨k,?_⟩;have:y≠n:=λe=>hj (a0t hN e1 (e ▸ hi))
    simp[this,e]
   ·exact .inr ⟨k,c,e,z.sameBut hs (cne y c e)⟩
 ·obtain⟨w',z⟩:=I.cell y c e;exact⟨w',z.sameBut hs (cne y c e)⟩
 ·obtain⟨e,n,ne,nf,d⟩:=I.pin p hp;exact⟨(hs.2 p.1 ne).trans e,n,ne,nf,d⟩
 ·refine (I.hok b ob e).stay (λc w' hc q=>(hs.2 c ?_).trans q) (λ_ q=>q) λ_ _ q=>q
  rintro rfl;have hfree:=I.free;rcases hc with rfl | hc
  ·rw[hfree] at e;cases e
  ·rw[hfree] at hc;cases hc
end
end L2
end
section
namespace L2
open PySem PySem.Spec PyProof.Rows
abbrev TSx:=Q4->St->Hp->XK->Prop
abbrev TEx:=St->Hp->VK->XK->Prop
section
variable {X:Cx}
def a9T (X:Cx)(pins:List (Addr×Obj))(σ:St)(E:XK)(e:Value)(s':Shared):Prop:=∃ H1 s1,Inv X pins σ H1 s1/\CX1 X.prog X.w X.stack H1 s1 E e s'
def PSx (X:Cx)(st:Stmt)(t:TSx):Prop:=∀(pins:List (Addr×Obj)) (s:Shared) (σ:St) (H:Hp) (D:Q4) (E:XK),Inv X pins σ H s->t D σ H E->wpAny (model X.prog X.w) X.A (exec st X.env) (SP X pins D) (a9T X pins σ E) s
def PEx (X:Cx)(e:Expr)(t:TEx):Prop:=∀(pins:List (Addr×Obj)) (s:Shared) (σ:St) (H:Hp) (Q:VK) (E:XK),Inv X pins σ H s->t σ H Q E->wpAny (model X.prog X.w) X.A (eval e X.env) (EP X pins σ Q) (a9T X pins σ E) s
def a7V (te:TEx):TSx:=λD σ H E=>te σ H (λ_ H1=>D.nx σ H1) E
theorem a5G {e:Expr}{te:TEx}{pos:Pos}(he:PEx X e te)(hs:swapsWith e none pos.line X.env=pure false:=by rfl):PSx X (.Expr e pos) (a7V te):=by
 intro pins s σ H D E I h;exact wpAny_Expr_any (thn (he pins s σ H _ E I h) λv s1 ⟨x,H1,I1,r1,q1⟩=>⟨σ,H1,I1,q1⟩) I.quiet hs
def a5p (K:ae)(c:Value)(i:Nat)(tb:TSx)(th:TS):TS:=λD σ H=>tb D σ H λcls _ H'=>gD K cls c=some true/\∀ ea C,cls=.ref C->H' ea=none ->
 th {nx:=fun σ' H2=>D.nx (σ'.set i none) H2,rt:=D.rt,bk:=fun σ' H2=>D.bk (σ'.set i none) H2,ct:=fun σ' H2=>D.ct (σ'.set i none) H2} (σ.set i (some (.ref ea))) (upd H' ea (a7O ea C))
theorem a5H {i:Nat}{x n:Str}{c:Value}{st b0:Stmt}{suite:List Stmt}{np hpos pos:Pos}{tb:TSx}{th:TS}(hst:X.stack=X.env::X.outer)(hfm:X.env.frame=some X.env.locals)(hN:X.N.Nodup)(hi:X.N[i]?=some n)(hlo:X.env.scope.names.lookup n=some .local)
  (hg:Gl X x) (hm:X.mg x=some c) (hb:PSx X st tb) (hth:∀ ea E,PSs ((X.mark ea).wish E) (b0::suite) th) (hdb:(x == ("__debug__":Str))=false:=by decide) :
  PS X (.Try [st] [.ExceptHandler (some (.Name x np)) (some n) (b0::suite) hpos] [] [] pos) (a5p X.K c i tb th):=by
 intro pins s σ H D I h;have hcls:(X.env.scope.kind == .class || (X.env.scope.kind == .module && X.env.locals != X.env.globals))=false:=by rw[I.ok.kind];rfl
 refine wpAny_Try_except (hG (bO (hb pins s σ H D _ I h) (λf s1 q=>?_) λe s1 q=>?_))
 ·cases f with
  | next=>exact eJ (eJ q)
  | ret v=>exact q
  | brk=>exact q
  | cont=>exact q
 obtain⟨H1,s0,I1,ea,C,H',rfl,os,bare,F,hE1,hE2⟩:=q;obtain⟨B,a0,fl,kp,mv⟩:=F.look;have hfr:X.A.frames=some (X.env::X.outer):=by rw[<- hst];exact I1.ok.frames
 rw[hst] at fl;refine wpAny_looks_onW hfr hfm fl λh4 held up4=>?_
 refine wpAny_landsW held λh5 fl5 up5=>?_
 have F5:=mv h5 (by rw[hst];exact fl5) (up4.trans up5);have I5:Inv X pins σ H' {s1 with heap:=h5}:=I1.call' (ch:=[]) os F5.un F5.hok bare λb z=>nomatch z
 refine wpAny_handleBy_cons (codeAny_handlers_test (a0c (I5.mark ea) hg hm ?_ hdb)) (by intro q;cases q);obtain⟨ob,hob,hc⟩:=fl5.there;have ty:PySem.W.Looks (model X.prog X.w) h5 (typeOf (.ref ea)) (.ref C):=hc ▸ (PySem.W.Looks.ld hob).andThen .now;refine (PySem.W.exm_one I5.kIn ty hE1).here ?_;refine codeAny_handlers_suite_as ?_;refine lands_againW fl5 λh6 fl6 up6=>?_
 have F6:=mv h6 (by rw[hst];exact fl6) ((up4.trans up5).trans up6);have I6:Inv X pins σ (upd H' ea (a7O ea C)) {s1 with heap:=h6}:=I1.exc os bare F6;refine a0f (X:=X.mark ea) (I6.mark ea) hN hi (.inl hlo) (v:=.ref ea) rfl (λs7 I7=>?_) (.inr hlo);have gone:∀ {σ':St} {H2:Hp} {s8:Shared} {Q:Unit->Shared->Prop} {E:Value->Shared->Prop} {f:Flow} {E':Value->Shared->Prop},Inv ((X.mark ea).wish E') pins σ' H2 s8->(∀ s9,Inv X pins (σ'.set i none) H2 s9->Q () s9)->wpAny (model X.prog X.w) X.A (do bindName X.env n .none;unbindBehindTheSuite X.env n hpos) Q E s8:=λ{σ' H2 s8 Q E f E'} I8 k=>by
  have I8':Inv X pins σ' H2 s8:=Inv.unmark I1.ok I8.unwish;obtain⟨m,hn,hl⟩:=I8'.loc;exact wpAny_nameGoes_keeps hlo hn hcls λh9 v hn9 hs9=>k _ (I8'.gone hN hi hn hl hn9 hs9)
 refine bO (hth ea _ pins s7 _ _ _ (I7.wish _) (hE2 ea C rfl F.nea)) (λf s8 q=>?_) λe s8 q=>q
 cases f with
 | next =>
  obtain⟨σ',H2,I8,q⟩:=q;exact gone (f:=.next) I8 λs9 I9=>⟨_,H2,I9,q⟩
 | brk =>
  obtain⟨σ',H2,I8,q⟩:=q;exact gone (f:=.next) I8 λs9 I9=>⟨_,H2,I9,q⟩
 | cont =>
  obtain⟨σ',H2,I8,q⟩:=q;exact gone (f:=.next) I8 λs9 I9=>⟨_,H2,I9,q⟩
 | ret u =>
  obtain⟨v,σ',H2,I8,rv,q⟩:=q;exact gone (f:=.next) I8 λs9 I9=>⟨v,_,H2,I9,rv,q⟩
end
end L2
end
section
namespace L2
open PySem PySem.Spec PyProof.Rows PySem.W
structure a1T (K:ae)(C:Addr):Prop where
 ga:aP K (.ref C) "__getattribute__"=some (some (.builtin "BaseException.__getattribute__"))
 cl:aP K (.ref C) "__class__"=some (some (.builtin "object.__class__"))
 no:aP K (.ref C) "__getattr__"=some none
 sb:bx K C (.type "BaseException")=some true
 ob:bx K C (.type "object")=some true
 is:(cj K C).isSome=true
section
variable {prog:Program}{w:World}{A:Around}{E:Value->Shared->Prop}{h:Heap}{g:Array GenState}{d:Drawn}{t:Nat}{os:OsState}{a C:Addr}{o:Obj}{K:ae}
theorem a3y {M:Model}(hx:h.get? a=some o)(hc:o.cls=.ref C):Looks M h (typeOf (.ref a)) (.ref C):=hc ▸ (Looks.ld hx).andThen .now
open Builtin Builtin.ObjectAttr Builtin.Getset_descriptor in
theorem a7N {R:Result->Shared->Prop}{tp:Value}(X:K.In h)(Z:a1T K C)(hx:h.get? a=some o)(hc:o.cls=.ref C)(hq:R (.ok (.ret (.ref C))) ⟨h,g,d,t,os⟩) :
  codeAny (model prog w) A (.call (.builtin "getset_descriptor.__get__") ⟨[.builtin "object.__class__",.ref a,tp],[]⟩) R ⟨h,g,d,t,os⟩:=by
 have L0:Looks (model prog w) h (typeOf (.ref a)) (.ref C):=a3y hx hc;have L1:=looks_mroIn (M:=model prog w) X Z.ob;refine codeAny_call_builtin KF.slot_gs.plain KF.entry_gs (KF.slot_gs.check _ _ _ _ _ _ _ _ KF.type_class (KF.args_gs _ _ _) ?_);unfold Builtin.«getset_descriptor.__get__» descrGet;rw[dga_obj];refine af (ap ?_);unfold descrGetter descrCheckInstance descrNameAndClass isInstance;simp only[KF.owner_class];repeat lk
 refine⟨iZ _ (by decide +kernel),codeAny_builtin KF.entry_class ?_⟩;unfold Builtin.«object.__class__» shownTypeOf;repeat lk
 exact hq
theorem a4Q {M:Model}{nameV:Value}{Q:Unit->Shared->Prop}(X:K.In h)(Z:a1T K C)(hx:h.get? a=some o)(hc:o.cls=.ref C)(hq:Q () ⟨h,g,d,t,os⟩):wpAny M A (checkBuiltinCall "BaseException.__getattribute__" ⟨[.ref a,nameV],[]⟩) Q E ⟨h,g,d,t,os⟩:=by
 have hk:builtinKind "BaseException.__getattribute__"=some .slot:=by decide +kernel
 have hsplit:splitId "BaseException.__getattribute__"=some ("BaseException", "__getattribute__"):=by decide +kernel
 have ha:=F.args_bexc_ga (.ref a) nameV;have L0:Looks M h (typeOf (.ref a)) (.ref C):=a3y hx hc;have L1:=looks_mroIn (M:=M) X Z.sb;simp only[checkBuiltinCall,hk,hsplit];refine af ?_
 ·refine (L0.andThen L1).at ?_;repeat (first | assumption | wp_step)
theorem a4O {tk:Tok}{Q:Fin->Shared->Prop}(X:K.In h)(Z:a1T K C)(hx:h.get? a=some o)(hc:o.cls=.ref C)(hq:Q (.done (.ret (.ref C))) ⟨h,g,d,t,os⟩) :
  wpAny (model prog w) A (Builtin.«object.__getattribute__» ⟨[.ref a,.str "__class__" tk],[]⟩) Q E ⟨h,g,d,t,os⟩:=by
 have hT5:(⟨h,g,d,t,os⟩:Shared).TypeIs (.builtin "object.__class__") "getset_descriptor":=iY;have f5:=iY;have f6:=F.slot_gs_get.lookup;have f7:=F.slot_gs_set.lookup;have L1:=jg (M:=model prog w) X Z.cl;repeat (any_goals (first | assumption | (with_reducible refine jq hx ?_;rw[hc]) | with_reducible refine L1.at ?_ | wp_step))
 refine a7N X Z hx hc ?_;repeat (any_goals (first | assumption | wp_step))
theorem a6B {tk:Tok}{R:Result->Shared->Prop}(X:K.In h)(Z:a1T K C)(hx:h.get? a=some o)(hc:o.cls=.ref C)(hq:R (.ok (.ret (.ref C))) ⟨h,g,d,t,os⟩) :
  codeAny (model prog w) A (.call (.builtin "BaseException.__getattribute__") ⟨[.ref a,.str "__class__" tk],[]⟩) R ⟨h,g,d,t,os⟩ :=
 codeAny_call_builtin F.excAttr_ValueError.ga.plain F.entry_bexc_ga (a4Q X Z hx hc (a4O X Z hx hc hq))
theorem a9K {tk:Tok}{Q:Value->Shared->Prop}(X:K.In h)(Z:a1T K C)(hx:h.get? a=some o)(hc:o.cls=.ref C)(hq:Q (.ref C) ⟨h,g,d,t,os⟩) :
  wpAny (model prog w) A (getAttrBy (.ref a) (.str "__class__" tk) false) Q E ⟨h,g,d,t,os⟩:=by
 have f3:=F.excAttr_ValueError.ga.bind (.ref a);have hx2:(bP "BaseException.__getattribute__" == bP "object.__getattribute__")=false:=by decide +kernel
 have hx1:(onTheHeap (bp C) && bP "BaseException.__getattribute__" == bP "object.__getattribute__")=false:=by rw[hx2];rfl
 have L1:=jg (M:=model prog w) X Z.ga;have L2:=jg (M:=model prog w) X Z.no;repeat (any_goals (first | assumption | (with_reducible refine jq hx ?_;rw[hc]) | with_reducible refine L1.at ?_ | with_reducible refine L2.at ?_ | wp_step))
 refine a6B X Z hx hc ?_;repeat (any_goals (first | assumption | wp_step))
theorem a4P {Q:Option Value->Shared->Prop}(X:K.In h)(Z:a1T K C)(hx:h.get? a=some o)(hc:o.cls=.ref C)(hq:Q (some (.ref C)) ⟨h,g,d,t+1,os⟩):wpAny (model prog w) A (getAttr? (.ref a) "__class__") Q E ⟨h,g,d,t,os⟩:=by
 unfold getAttr? getAttrBy?;repeat (any_goals (first | assumption | with_reducible apply a9K X Z hx hc | wp_step))
end
def b1b (a C:Addr)(h:Heap):Prop:=∃ o,h.get? a=some o/\o.cls=.ref C
theorem a6n {K:ae}{a C:Addr}(Z:a1T K C):KitX K (.ref a) (.ref C) (b1b a C) where
 ty:=λ_ _ _ ⟨_,e,c⟩=>a3y e c
 it:=λ_ _ X _=>by
  obtain⟨cd,hc⟩:=cf.mp Z.is;unfold clsIn at hc;split at hc
  ·rename_i c' d' cd' sl' ho;intro A' Q' E' s' k q;unfold isType loadHead;exact af (wpAny_loadPart (k _ _ (X _ _ ho)) (ap q))
  ·cases hc
 ne:=λh tp dd its n sl X htp=>by
  obtain⟨cd,hc⟩:=cf.mp Z.is;refine jc.mpr λq=>?_
  have e:C=tp:=Value.ref.inj (beq_iff_eq.mp q);subst e;unfold clsIn at hc;split at hc
  ·rename_i c' d' cd' sl' ho;have z:=(X _ _ ho).symm.trans htp;cases z
  ·cases hc
 ca:=λ{prog w A E Q s} X ⟨o,e,c⟩ k=>by
  obtain⟨h,g,d,t,os⟩:=s;exact a4P X Z e c k
section
variable {X:Cx}
inductive XTy (K:ae)(H:Hp):V->Value->Prop
 | non:XTy K H .non (.type "NoneType")
 | exc {ea C:Addr}:H ea=some (a7O ea C)->a1T K C->XTy K H (.ref ea) (.ref C)
def b0V (K:ae):List V->Hp->VK->Prop:=λxs H Q=>∃(x:V) (t:Value),XTy K H x t /\
  ((∃(c:V) (u:Value) (b:Bool),xs=[x,c]/\((∃ n,c=.ty n/\u=.type n)\/∃ D,c=.ref D/\u=.ref D/\(cj K D).isSome=true)/\kitOne K t u=some b/\Q (.bl b) H) \/
   ∃(p:Addr) (Ds:List Addr) (b:Bool),xs=[x,.ref p]/\H p=some (.tup (Ds.map V.ref))/\kitAny K t (Ds.map bp)=some b/\Q (.bl b) H)
theorem a4a:∀ {Ds:List Addr} {its:List Value},B3 (Ds.map V.ref) its->its=Ds.map bp
 | [],_,.nil=>rfl
 | D::r,_,.cons q t=>by
  rw[a4a t];have q':_=bp D:=q;rw[q'];rfl
theorem a6Q:M0 X (.builtin "isinstance") (b0V X.K):=by
 intro pins s σ H xs us Q I r h;obtain⟨x,t,ty,h⟩:=h;have KX:∀ {u:Value},B6 x u->∃ P:Heap->Prop,KitX X.K u t P/\P s.heap/\u≠.builtin "__main__.__loader__#opaque":=λ{u} ru=>by
  cases ty with
  | non =>
   cases (show u=cJ from ru);exact⟨_,kitx_none,trivial,λe=>by cases e⟩
  | @exc ea C e Z =>
   cases (show u=bp ea from ru);obtain⟨p,_,_⟩:=I.hok ea _ e;exact⟨_,a6n Z,p,λe=>by cases e⟩
 rcases h with ⟨c,u,b,rfl,hc,e,q⟩ | ⟨p,Ds,b,rfl,hp,e,q⟩
 ·obtain⟨ux,uc,rfl,rx,rc⟩:=a5b r;obtain⟨P,Z,hP,hne⟩:=KX rx;have:uc=u:=by
   rcases hc with ⟨n,rfl,rfl⟩ | ⟨D,rfl,rfl,_⟩
   ·exact rc
   ·exact rc
  subst this;exact kia_one Z I.kIn hP e hne λtk=>⟨.bl b,H,I.tok _,rfl,q⟩
 ·obtain⟨ux,uc,rfl,rx,rc⟩:=a5b r;obtain⟨P,Z,hP,hne⟩:=KX rx;cases (show uc=bp p from rc);obtain⟨z,its,rv,o,ho,hcl,n,hd⟩:=I.hok p _ hp;have:=a4a rv;subst this;obtain⟨oc,od,odt,osl⟩:=o;dsimp only at hcl hd;subst hcl hd;exact kia_tup Z I.kIn hP ho e hne λtk=>⟨.bl b,H,I.tok _,rfl,q⟩
theorem a9u (K:ae)(h:X.K=K:=by rfl):M0 X (.builtin "isinstance") (b0V K):=by subst h;exact a6Q
end
end L2
end
section
namespace L2
open PySem PySem.Spec PyProof.Rows
theorem a8i {P:Program}{w:World}{X:Cx}:a1S (CX1 P w) X E0:=λ_ _ _ _ _ _ _ ⟨_,_,_,_,_,_,_,h⟩=>h.elim
structure P3 (K:ae)(mg:Str->Option Value)(x:Str)(C:Addr):Prop where
 m:mg x=some (.ref C)
 ex:PySem.W.excIn K C [.type "ValueError",.type "Exception",.type "BaseException",.type "object"] "ValueError.__new__"=true
 k:a1T K C
section
variable {P:Program}{w:World}{K:ae}{mg:Str->Option Value}{base:Heap}
theorem Fun.ok1 {x qual:Str}{st:Stmt}{f:Addr}{fd:FuncData}{N ps:List Str}{k:Nat}{sp:Sp}(F:Fun K x qual st f fd)(S:B9 N ps (A9 st))(len:∀ vs H Q E,sp vs H Q E->vs.length=ps.length)
  (hbody:∀(cdv:Value) (A:Around) (outer:List Env) (s:Shared) (H:Hp) (vs:List V) (Q:VK) (E:XK),L7 k (A.deeper (envOfC qual (A9 st) s.heap.objs.size f cdv))->sp vs H Q E ->
   ∃ t,PSs (a0L (CX1 P w) P w K mg base N qual (A9 st) f cdv A outer s H E) (P2 st) t/\t {nx:=λ_ H'=>Q .non H',rt:=Q} (P9 N vs) H):B8 P w K mg base (CX1 P w) (k+1) f fd ps sp:=by
 obtain⟨oc,od,kV,doc,pm,an,cdv,ct,osl,rfl,lk,hcd⟩:=F.ex;exact a8r lk hcd S len λA outer s H vs Q E hr hsp=>hbody cdv A outer s H vs Q E hr hsp
end
theorem a7o {X:Cx}{k:Nat}{f:Addr}{fd:FuncData}{ps:List Str}{sp:Sp}{x:Str}{st:Stmt}{p pos:Pos}{e:Expr}{es:List Expr}{t:TA}(G:B8 X.prog X.w X.K X.mg X.base (CX1 X.prog X.w) k f fd ps sp)(D:Df X.K X.mg x st f fd ps)(hr:L7 k X.A)
  (ha:PA X (e::es) t) (hg:Gl X x:=by rfl) (hdb:(x == ("__debug__":Str))=false:=by decide) (he:starEach (e::es) X.env=(false,eval e X.env)::starEach es X.env:=by rfl) (hpl:(backTo pos (starEach es X.env)).any (·.1)=false:=by rfl) :
  PE X (.Call (.Name x p) (e::es) [] pos) (a3O sp [] E0 t):=a4b G hr hg D.m D.F.kp D.b .nil a8i ha hdb he hpl
theorem X7 {P:Program}{w:World}{K:ae}{mg:Str->Option Value}{base:Heap}{N:List Str}{qual:Str}{scope:Scope}{f0:Addr}{cd:Value}{A:Around}{outer:List Env}{s0:Shared}{H0:Hp}{E:XK}{x:Str}{C:Addr}{np cpos pos:Pos}(Z:P3 K mg x C)
  (hg:Gl (a0L (CX1 P w) P w K mg base N qual scope f0 cd A outer s0 H0 E) x:=by rfl) (hd:(x == ("__debug__":Str))=false:=by decide):PS (a0L (CX1 P w) P w K mg base N qual scope f0 cd A outer s0 H0 E) (.Raise (some (.Call (.Name x np) [] [] cpos)) none pos) (a3a E C) :=
 a5I PySem.F.excBase_ValueError rfl hg Z.m Z.ex a7x hd
end L2
end
section
namespace L2
open PySem PySem.Spec PyProof.Rows
section
variable {X:Cx}{o i:Expr}{pos:Pos}{td ty:TE}
structure a2U (X:Cx)(f:Addr)(sp:Sp):Prop where
 kp:dW X.K (.ref f)=true
 run:∀(pins:List (Addr×Obj)) (σ:St) (H:Hp) (s:Shared) (Q:VK) (us:List Value) (vs:List V),Inv X pins σ H s->B3 vs us->sp vs H Q E0->wpAny (model X.prog X.w) X.A (call (.ref f) us) (EP X pins σ Q) X.xe s
theorem a6S {k:Nat}{f:Addr}{fd:FuncData}{ps:List Str}{sp:Sp}{x:Str}{st:Stmt}(G:B8 X.prog X.w X.K X.mg X.base CX0 k f fd ps sp)(D:Df X.K X.mg x st f fd ps)(hr:L7 k X.A):a2U X f sp :=
 ⟨D.F.kp,λ_ _ _ _ _ _ _ I r h=>a3d G hr D.b .nil a8j I r (by rw[b9];exact h)⟩
def a1V (X:Cx)(fs:List (Addr×Sp)):Prop:=∀ p∈fs,a2U X p.1 p.2
theorem a0E:a1V X []:=λ_ h=>nomatch h
theorem Z9 {f:Addr}{sp:Sp}{fs:List (Addr×Sp)}(h:a2U X f sp)(r:a1V X fs):a1V X ((f,sp)::fs):=λp hp=>by
 rcases aO.mp hp with rfl | hp
 ·exact h
 ·exact r p hp
def a8O (fs:List (Addr×Sp))(i:Nat)(t:TA):TE:=fun σ H Q=>∃ p∈fs,σ[i]?=some (some (.ref p.1))/\t σ H λvs H1=>p.2 vs H1 Q E0
theorem a2u {fs:List (Addr×Sp)}{ix:Nat}{x:Str}{p:Pos}{e:Expr}{es:List Expr}{t:TA}(hf:a1V X fs)(hN:X.N[ix]?=some x)(hl:X.env.scope.names.lookup x=some .local)(ha:PA X (e::es) t)(hd:(x == ("__debug__":Str))=false:=by decide)
  (he:starEach (e::es) X.env=(false,eval e X.env)::starEach es X.env:=by rfl) (hpl:(backTo pos (starEach es X.env)).any (·.1)=false:=by rfl):PE X (.Call (.Name x p) (e::es) [] pos) (a8O fs ix t):=by
 intro pins s σ H Q I h;obtain⟨g,hg,ev,h⟩:=h;obtain⟨m,hn,hlk⟩:=I.loc;obtain⟨u,r,l⟩:=hlk ix x _ hN ev (.inl hl);obtain rfl:u=bp g.1:=r;have C:=hf g hg;rcases l with ⟨hk,hm⟩ | ⟨hk,_⟩
 ·refine bM (gQ (ge I.ok.kind hk hn hm ?_) hd);exact fO (h₀:=X.base) I.ok.mod.kin C.kp (thn (ha pos pins s σ H _ I h) λus s1 ⟨vs,H1,I1,r,q⟩=>⟨I1.kIn,C.run _ _ _ _ _ _ _ I1 r q⟩) he hpl
 ·have hl:X.env.kindOf x=some .local:=hl;rcases hk with hk | hk<;>(rw[hl] at hk;cases hk)
end
end L2
end
section
namespace L2
open PySem PySem.Spec PyProof.Rows
structure FnV (P:Program)(w:World)(K:ae)(mg:Str->Option Value)(base:Heap)(CX:CXT)(k:Nat)(f:Addr)(sp:Sp):Prop where
 h:∃(fd:FuncData) (ps:List Str) (x:Str) (st:Stmt),B8 P w K mg base CX k f fd ps sp/\Df K mg x st f fd ps
theorem FnV.of {P:Program}{w:World}{K:ae}{mg:Str->Option Value}{base:Heap}{CX:CXT}{k j:Nat}{f:Addr}{fd:FuncData}{ps:List Str}{x:Str}{st:Stmt}{sp sp':Sp}(G:B8 P w K mg base CX k f fd ps sp)(D:Df K mg x st f fd ps)
  (hk:k<=j) (h:∀ vs H Q E,sp' vs H Q E->sp vs H Q E):FnV P w K mg base CX j f sp':=⟨_,_,_,_,(G.mono hk).imp h,D⟩
section
variable {X:Cx}
theorem a4X {k:Nat}{f:Addr}{sp:Sp}(V:FnV X.prog X.w X.K X.mg X.base CX0 k f sp)(hr:L7 k X.A):a2U X f sp:=by
 obtain⟨fd,ps,x,st,G,D⟩:=V.h;exact a6S G D hr
theorem a4W {k:Nat}{f:Addr}{sp:Sp}(V:FnV X.prog X.w X.K X.mg X.base (CX1 X.prog X.w) k f sp)(hr:L7 k X.A):a2U X f sp:=by
 obtain⟨fd,ps,x,st,G,D⟩:=V.h;exact⟨D.F.kp,λ_ _ _ _ _ _ _ I r h=>a3d G hr D.b .nil a8i I r (by rw[b9];exact h)⟩
def a3b (P:Program)(w:World)(K:ae)(mg:Str->Option Value)(base:Heap)(CX:CXT)(k i:Nat)(t:TA):TE:=fun σ H Q=>∃(f:Addr) (sp:Sp),σ[i]?=some (some (.ref f))/\FnV P w K mg base CX k f sp/\t σ H λvs H1=>sp vs H1 Q E0
theorem a4B {P:Program}{w:World}{K:ae}{mg:Str->Option Value}{base:Heap}{k ix:Nat}{x:Str}{p pos:Pos}{e:Expr}{es:List Expr}{t:TA}(hr:L7 k X.A)(hN:X.N[ix]?=some x)(hl:X.env.scope.names.lookup x=some .local)(ha:PA X (e::es) t)(hd:(x == ("__debug__":Str))=false:=by decide)
  (he:starEach (e::es) X.env=(false,eval e X.env)::starEach es X.env:=by rfl) (hpl:(backTo pos (starEach es X.env)).any (·.1)=false:=by rfl) (hP:X.prog=P:=by rfl) (hw:X.w=w:=by rfl) (hK:X.K=K:=by rfl) (hm:X.mg=mg:=by rfl) (hB:X.base=base:=by rfl):PE X (.Call (.Name x p) (e::es) [] pos) (a3b P w K mg base CX0 k ix t):=by
 subst hP hw hK hm hB;intro pins s σ H Q I ⟨f,sp,ev,V,h⟩;exact a2u (fs:=[(f,sp)]) (Z9 (a4X V hr) a0E) hN hl ha hd he hpl pins s σ H Q I ⟨_,au.mpr rfl,ev,h⟩
theorem a4A {P:Program}{w:World}{K:ae}{mg:Str->Option Value}{base:Heap}{k ix:Nat}{x:Str}{p pos:Pos}{e:Expr}{es:List Expr}{t:TA}(hr:L7 k X.A)(hN:X.N[ix]?=some x)(hl:X.env.scope.names.lookup x=some .local)(ha:PA X (e::es) t)(hd:(x == ("__debug__":Str))=false:=by decide)
  (he:starEach (e::es) X.env=(false,eval e X.env)::starEach es X.env:=by rfl) (hpl:(backTo pos (starEach es X.env)).any (·.1)=false:=by rfl) (hP:X.prog=P:=by rfl) (hw:X.w=w:=by rfl) (hK:X.K=K:=by rfl) (hm:X.mg=mg:=by rfl) (hB:X.base=base:=by rfl):PE X (.Call (.Name x p) (e::es) [] pos) (a3b P w K mg base (CX1 P w) k ix t):=by
 subst hP hw hK hm hB;intro pins s σ H Q I ⟨f,sp,ev,V,h⟩;exact a2u (fs:=[(f,sp)]) (Z9 (a4W V hr) a0E) hN hl ha hd he hpl pins s σ H Q I ⟨_,au.mpr rfl,ev,h⟩
def a5a (P:Program)(w:World)(K:ae)(mg:Str->Option Value)(base:Heap)(k i:Nat)(t:TA):TEx:=fun σ H Q E=>∃(f:Addr) (sp:Sp),σ[i]?=some (some (.ref f))/\FnV P w K mg base (CX1 P w) k f sp/\t σ H λvs H1=>sp vs H1 Q E
theorem a4z {P:Program}{w:World}{K:ae}{mg:Str->Option Value}{base:Heap}{k ix:Nat}{x:Str}{p pos:Pos}{e:Expr}{es:List Expr}{t:TA}(hr:L7 k X.A)(hN:X.N[ix]?=some x)(hl:X.env.scope.names.lookup x=some .local)
  (ha:∀ E,PA (X.wish E) (e::es) t) (hd:(x == ("__debug__":Str))=false:=by decide) (he:starEach (e::es) X.env=(false,eval e X.env)::starEach es X.env:=by rfl) (hpl:(backTo pos (starEach es X.env)).any (·.1)=false:=by rfl) (hP:X.prog=P:=by rfl) (hw:X.w=w:=by rfl) (hK:X.K=K:=by rfl) (hm:X.mg=mg:=by rfl) (hB:X.base=base:=by rfl) :
  PEx X (.Call (.Name x p) (e::es) [] pos) (a5a P w K mg base k ix t):=by
 subst hP hw hK hm hB;intro pins s σ H Q E I ⟨f,sp,ev,V,h⟩;obtain⟨fd,ps,y,st,G,D⟩:=V.h;obtain⟨m,hn,hlk⟩:=I.loc;obtain⟨u,r,l⟩:=hlk ix x _ hN ev (.inl hl);obtain rfl:u=bp f:=r;rcases l with ⟨hk,hm⟩ | ⟨hk,_⟩
 ·refine bM (gQ (ge I.ok.kind hk hn hm ?_) hd);refine fO (h₀:=X.base) I.ok.mod.kin D.F.kp (thn (ha (a9T X pins σ E) pos pins s σ H _ (I.wish _) h) λus s1 ⟨vs,H1,I1,r,q⟩=>⟨I1.unwish.kIn,?_⟩) he hpl;have I2:=I1.unwish;have hl:us.length=ps.length:=by rw[<- r.length];exact G.len _ _ _ _ q
  have hb:=D.b s1 us I2.kIn (by rw[b9];exact hl);rw[b9] at hb;refine jr (codeAny_mono (G.run X.A X.stack s1 H1 ⟨us,[]⟩ us vs Q E hr I2.env0 hb r q) λr s' hq=>?_);cases r with
  | error e=>exact⟨H1,s1,I2,hq⟩
  | ok fl =>
   cases fl with
   | ret u=>exact I2.after hq
   | next=>exact cv hq
   | brk=>exact cv hq
   | cont=>exact cv hq
 ·have hl:X.env.kindOf x=some .local:=hl;rcases hk with hk | hk<;>(rw[hl] at hk;cases hk)
end
end L2
end
section
set_option format.width 230
set_option pp.deepTerms true
set_option pp.maxSteps 20000
namespace K84
open PySem L2
local macro_rules | `(tactic| walk_at "rd")=>`(tactic| ((try simp only[L2.P9,st0,am,cT,az,b8,List.replicate,dh,cS,Nat.reduceAdd,Nat.reduceSub,ig,ii,Option.join_some]);simp only[↓b0d,↓b0u,↓b1p,↓tCA,↓b0f,↓a8E,↓b0q,↓a8C,↓tBA,↓a8I,↓a8L,↓a8P,↓a8N,↓b0l,↓b1t,↓b1u,↓b0t,↓b0b,↓b0n,↓b0M,↓a9J,↓b0P,↓b0N,↓b1m,↓a5r,↓a8F,↓b0v,↓b1o,↓b0j,↓b0s,↓a5s,↓a8U,↓a9H,↓b0K,↓a9G,↓a9F,↓b1q,↓b1s,↓a7d,↓a8R,↓b0h,↓a8G,↓b1l,↓a9Z,↓a7c,↓a7b,↓b0o,↓a8H,↓tV0,↓tV1,↓tV2,↓tV3,↓tV4,↓tV5,↓tV6,↓tV7,↓tV8,↓tV9,↓b1k,↓b1j,↓b1i,↓b1h,↓b1g,↓b1f,↓gN0,↓gN1,↓gN2,↓gN3,↓gN4,↓gN5,↓gN6,↓gN7,↓gN8,↓gN9,↓b1K,↓b1J,↓b1I,↓b1H,↓b1G,↓b1F,↓b1y,↓rIi,↓b0C,↓b0A,↓exB,↓exI,↓exR,↓b1z,↓b1x,↓b0U,rI,rI0,a1t,a8W,a8e,a7W,a7j,a7i,rEq,rNe,a9Q,a8t,a6T,a9R,a2R,a1i,a9P,a1s,rU,L2.P9,st0,am,cT,az,b8,List.replicate,dh,cS,b9,ig,ii,i3,i4,Option.some.injEq,V.int.injEq,V.bl.injEq,V.ref.injEq,List.cons.injEq,and_true,true_and,exists_eq_left',exists_eq_left,exists_eq',exists_eq,Nat.reduceAdd,Nat.reduceSub,exists_and_left,and_self,Option.join_some,a5A,decide_true,if_true,if_false,aC,cF,g7,Q9,L6,a5p,a7V,a3a,a5u,a5E,a3g,a8g,b0y,a8f,b0B,a8u,a3b,a5a]))
section
variable {P:Program}{w:World}{K:ae}{mg:Str->Option Value}{base:Heap}
set_option hygiene false
local macro_rules | `($a <*> $b) => `(@A0 _ _ _ _ _ $a $b (by rfl))
local macro_rules | `($a <* $b) => `(@A3 _ _ _ _ _ $a $b)
local macro_rules | `($a <|> $b) => `(@Q0 _ _ _ _ _ _ _ (N8 K) $a $b (λ_ _=>rfl))
local macro_rules | `($a *> $b) => `(@Q0 _ _ _ _ _ _ _ (W0 K) $a $b (λ_ _=>rfl))
local macro_rules | `($a &&& $b) => `(@A8 _ _ _ _ _ _ _ _ M3 $a $b)
local macro_rules | `($a ||| $b) => `(@A8 _ _ _ _ _ _ _ _ L9 $a $b)
local macro_rules | `($a ^^^ $b) => `(@A8 _ _ _ _ _ _ _ _ a0s $a $b)
set_option hygiene true
set_option hygiene false
local macro_rules | `(tactic| walk_at "s") => `(tactic| exact⟨rfl,rfl,rfl,by decide +kernel,rfl,by decide +kernel,by decide +kernel⟩)
local macro_rules | `(tactic| walk_at "w") => `(tactic| with_unfolding_all rfl)
local macro_rules | `(tactic| walk_at "h") => `(tactic| ((repeat first | (obtain⟨rfl,h⟩:=h) | (obtain⟨_,h⟩:=h));all_goals rfl))
set_option hygiene true
theorem _root_.L2.L7.m {j k:Nat}{A:Around}(r:L7 k A)(h:j<=k:=by decide):L7 j A:=r.mono h
open PyProof.Rows (boot_bool boot_int boot_isinstance boot_list boot_min boot_repr boot_set boot_sorted boot_str boot_tuple)
theorem a2n:B9 ["_law_cell","_law_k","_law_number_here"] ["_law_cell","_law_k"] (A9 (top 27)):=by walk_at "s"
theorem a5V (F:Fun K "_law_mixed" "_law_mixed" (top 27) f fd)(B:Bt mg):B8 P w K mg base CX0 1 f fd ["_law_cell","_law_k"] a2g:=by
 refine F.ok a2n (λvs H Q E h=>?_) (λcdv A outer s H vs Q E hr h=>?_)
 ·walk_at "h"
 ·obtain⟨c,k,rfl,hk0,hk1,q⟩:=h;have nd:=a2n.nd;have hu:=K0 hr
  refine⟨_,(A3 (E4 (i:=2) nd rfl (.inl rfl) (A8 M3 (A8 L9 (A8 L9 (pv 0) (A8 U4 (A8 U4 (pv 1) (pv 1)) A4)) A4) A4))
    (A3 (E4 (i:=2) nd rfl (.inl rfl) (A8 M3 (A8 U4 (pv 2) (pv 2)) A4))
    (A3 (E4 (i:=2) nd rfl (.inl rfl) (A8 M3 (A8 U4 (A8 L9 (A8 L9 (pv 2) (A8 U4 (pv 1) A4)) A4) A4) A4))
    (A5 (B2 (A8 a4e (A8 M3 (A8 U4 (pv 2) (pv 2)) A4) A4)))))),?_⟩
  walk_at "rd";have hm:∀ x:Int,0<=x % 2305843009213693951/\x % 2305843009213693951<2305843009213693951:=λx=>⟨dX _ (by decide),cQ _ (by decide)⟩
  have small:∀ x y:Int,a7U (x % 2305843009213693951) y:=λx y=>.inl ⟨by have:=hm x;omega,by have:=hm x;omega⟩
  have pos:(0:Int)<2305843009213693951:=by decide
  exact⟨.inl ⟨∅,∅⟩,.inr ⟨by decide,by decide⟩,pos,small _ _,pos,.inl ⟨∅,∅⟩,.inr ⟨by decide,by decide⟩,pos,small _ _,pos,⟨by decide,by decide⟩,q _⟩
theorem a3Y:B9 ["_law_deck_here"] ["_law_deck_here"] (A9 (top 29)):=by walk_at "s"
theorem a7t (F:Fun K "_law_next" "_law_next" (top 29) f fd)(B:Bt mg):B8 P w K mg base CX0 1 f fd ["_law_deck_here"] T2:=by
 refine F.ok a3Y (λvs H Q E h=>?_) (λcdv A outer s H vs Q E hr h=>?_)
 ·walk_at "h"
 ·obtain⟨d,ns,rfl,hd,q⟩:=h;have nd:=a3Y.nd;have hu:=K0 hr
  refine⟨_,(A3 (J9 (K1 a8l (B5 (a1E K) (by rfl) B.len cq (A0 (pv 0) A1)) A4 (E9 _))
     (A5 (B2 (b1A K (pv 0))))
     E1)
    (A5 (B2 A4))),?_⟩
  walk_at "rd";refine⟨ns.map V.int,.inl (SqL.of hd),a9t (λh=>?_) λh=>?_⟩
  ·refine⟨.inl ⟨rfl,_,SqL.of hd⟩,?_⟩;have hne:ns≠[]:=λe=>by subst e;simp at h
   have h1:(ns.map V.int)[(ns.map V.int).length-1]?=some (V.int (ns.getLast hne)):=by
    rw[aa,aJ,<- List.getLast?_eq_getElem?,List.getLast?_eq_some_getLast hne];rfl
   refine⟨ns.map V.int,hd,_,h1,?_⟩;rw[<- List.map_dropLast];exact q _ _ (by rw[iM];omega) (λx hx=>List.dropLast_subset _ hx) (.inr (List.getLast_mem hne))
  ·have e:upd H d (.lst (ns.map V.int))=H:=a5d hd;have:=q 0 ns (ao _) (λ_ h=>h) (.inl rfl);rw[e] at this;exact this
def a6u (H:Hp)(a p4 p5 p6:Addr)(m:Int)(os:List Int)(i:Nat)(σ:St)(Hc:Hp):Prop:=∃(kv av:Option V) (rs ds:List Int),σ=[some (.ref a),some (.int m),some (.ref p4),some (.ref p5),some (.ref p6),kv,av]/\B1 H Hc/\Hc p4=some (.lst (os.map V.int)) /\
 Hc p5=some (.lst (rs.map V.int))/\rs.length=os.length/\Hc p6=some (.lst (ds.map V.int))/\ds.length=i/\(∀ x∈ds,0<=x/\x<1000)
theorem a3Z:B9 ["_law_script","_law_many","_law_own","_law_rest","_law_deck_here","_law_k","_law_at"] ["_law_script","_law_many"] (A9 (top 28)):=by walk_at "s"
theorem a7u (F:Fun K "_law_deck" "_law_deck" (top 28) f fd)(B:Bt mg)(D1:Df K mg "_law_mixed" st1 f1 fd1 ["_law_cell","_law_k"])(G1:B8 P w K mg base CX0 1 f1 fd1 ["_law_cell","_law_k"] a2g):B8 P w K mg base CX0 2 f fd ["_law_script","_law_many"] (a3U K):=by
 refine F.ok a3Z (λvs H Q E h=>?_) (λcdv A outer s H vs Q E hr h=>?_)
 ·walk_at "h"
 ·obtain⟨a,m,ns,rfl,hS,hl,hm0,hm1,q⟩:=h;have nd:=a3Z.nd;have hu:=K0 hr
  refine⟨_,(A3 (E4 (i:=2) nd rfl (.inl rfl) (A8 K6 (E2 (b0J K) (by rfl) B.list boot_list (A0 (C6 (E7 K) (pv 0) F0 (C8 A4)) A1)) (A8 a9f (K2 (A0 A4 A1)) (E2 a1h (by rfl) B.int boot_int (A0 (P0 T5 (B5 (a1E K) (by rfl) B.len cq (A0 (pv 0) A1)) A4 (E9 _)) A1)))))
    (A3 (S4 (i:=3) (own:=["_law_cell"]) (fr:=[]) rfl nd rfl rfl (by walk_at "w") (by walk_at "w") K5 (K4 K (pv 2)) ⟨λ_ _ _ _=>⟨(C9 (i:=0) (show cD (["_law_cell"]:List Str) by decide +kernel) rfl (.inl rfl)),M7,(Q0 (N8 K) (K2 (A0 A4 (A0 (pv 0) A1))) (E2 a1h (by rfl) B.int boot_int (A0 (P0 b0D (pv 0) (A8 a9g A4 A4) (E9 _)) A1)) (λ_ _=>rfl))⟩⟩)
    (A3 (E4 (i:=4) nd rfl (.inl rfl) (K2 A1))
    (A3 (Q3 cc rfl (P4 (by rfl) B.range (A0 (pv 1) A1)) (C9 (i:=5) nd rfl (.inl rfl))
     (A3 (E4 (i:=6) nd rfl (.inl rfl) (A8 M3 (pv 5) (B5 (a1E K) (by rfl) B.len cq (A0 (pv 2) A1))))
     (A5 (J9 (K1 a8l (Q0 (N8 K) (pv 3) (pv 6) (λ_ _=>rfl)) A4 (E9 _))
      (A3 (R3 (T4 K (pv 4) (A0 (A8 M3 (Q0 (N8 K) (pv 3) (pv 6) (λ_ _=>rfl)) A4) A1)))
      (A5 (a5J (A8 a4e (Q0 (N8 K) (pv 3) (pv 6) (λ_ _=>rfl)) A4) (a9c (pv 3) (pv 6) a5z))))
      (A5 (R3 (T4 K (pv 4) (A0 (A8 M3 (C1 G1 D1 hr.m (A0 (Q0 (N8 K) (pv 2) (pv 6) (λ_ _=>rfl)) (A0 (A8 L9 (pv 5) A4) A1))) A4) A1))))))))
    (A5 (B2 (a3i hr.hd (by rfl) B.list (by rfl) B.reversed (pv 4)))))))),?_⟩
  walk_at "rd";refine⟨a,ns.map V.int,rfl,hS,λp1 n1=>⟨p1,rfl,_,.inl (SqL.of A2),λl nl=>⟨by decide,λp2 n2=>?_⟩⟩⟩;have s1:=(B1.refl H).upd (o:=.lst (S7 (ns.map V.int) none (some 60))) n1;have s2:=s1.upd (o:=.lst (S7 (ns.map V.int) none (some 60))) (s1.free nl);have s3:=s2.upd (o:=.lst [V.int 0]) (s2.free n2);refine⟨ns.map V.int,.inl (s3.seq hS),p2,_,_,rfl,rfl,A2,?_,?_,?_,λp3 n3=>?_⟩
  ·split<;>decide
  ·split<;>decide
  ·rw[sizeLine_eq];split<;>decide
  have s4:=s3.upd (o:=.lst (List.replicate (if decide ((ns.map V.int).length=(0:Int))=true then (1:Int) else 0).toNat [V.int 0]).flatten) (s3.free n3);have hlp:l≠p2:=λe=>by subst e;rw[A2] at n2;cases n2
  have hl3:l≠p3:=λe=>by subst e;rw[A7 hlp,A2] at n3;cases n3
  obtain⟨os,eo,ho1,ho2⟩:∃ os:List Int,S7 (ns.map V.int) none (some 60)++(List.replicate (if decide ((ns.map V.int).length=(0:Int))=true then (1:Int) else 0).toNat [V.int 0]).flatten=os.map V.int/\1<=os.length/\os.length<=64:=by
   by_cases e:ns=[]
   ·subst e;exact⟨[0],rfl,by decide,by decide⟩
   ·have hne:¬ ((ns.map V.int).length:Int)=0:=by rw[aa];have:=fV.mpr e;omega
    rw[decide_eq_false hne];refine⟨ns.take 60,?_,?_,?_⟩
    ·have h60:HT.sIx (ns.map V.int).length (ns.map V.int).length (some 60)=min 60 ns.length:=by rw[show (60:Int)=((60:Nat):Int) from rfl,HT.sIx_nat,aa]
     unfold S7;rw[HT.sIx_none,List.drop_zero,h60,Nat.sub_zero];simp only[aC,if_false,Int.toNat_zero,List.replicate,List.flatten_nil,b9];rw[<- eV];congr 1;by_cases h:60<=ns.length
     ·rw[Nat.min_eq_left h]
     ·rw[Nat.min_eq_right ∅,fq (ao _),fq ∅]
    ·have:=fV.mpr e;rw[bq];omega
    ·rw[bq];omega
  refine⟨l,p3,_,_,rfl,rfl,by rw[A7 hl3,A7 hlp,A2],A2,?_,λp4 n4=>?_⟩
  ·have:=congrArg cz eo;have e2:(os.map V.int).length=os.length:=aa _;rw[aB] at this;rw[sizeLine_eq];omega
  rw[eo];have s5:=s4.upd (o:=.lst (os.map V.int)) (s4.free n4);generalize hH5:upd (upd (upd (upd (upd H p1 (HO.lst (S7 (ns.map V.int) none (some 60)))) l (HO.lst (S7 (ns.map V.int) none (some 60)))) p2 (HO.lst [V.int 0])) p3 (HO.lst (List.replicate (if decide ((ns.map V.int).length=(0:Int))=true then (1:Int) else 0).toNat [V.int 0]).flatten)) p4 (HO.lst (os.map V.int))=H5 at s5 ⊢;have h4:H5 p4=some (.lst (os.map V.int)):=by rw[<- hH5];exact A2
  refine⟨p4,rfl,⟨_,SqL.of h4⟩,λp5 n5=>P1 (K:=K) (xs:=os.map V.int) (λi τ Hc=>∃(c:Option V) (rs:List Int),τ=[c]/\B1 H5 Hc/\Hc p5=some (.lst (rs.map V.int))/\rs.length=i)
   ⟨none,[],rfl,(B1.refl H5).upd n5,A2,rfl⟩ (λi τ Hc _ ⟨_,_,_,sc,_⟩=>SqL.of (sc _ _ h4)) ?_ ?_⟩
  ·rintro i x τ Hc hx ⟨c,rs,rfl,sc,h5,hi⟩ _;have hil:i<os.length:=by have:=(aK.mp hx).1;rw[aa] at this;exact this
   obtain⟨z,rfl⟩:∃ z,x=V.int z:=by
    rw[aJ] at hx;cases e:os[i]? with
    | none=>rw[e] at hx;cases hx
    | some z=>rw[e] at hx;exact⟨z,(aG hx).symm⟩
   walk_at "rd";refine⟨by decide,λp n=>⟨⟨by decide,by decide,by decide⟩,?_⟩⟩;have h5':∀ o,(upd Hc p o) p5=some (.lst (rs.map V.int)):=λo=>by rw[A7 (C2 h5 n)];exact h5
   refine⟨[V.int 0,V.int z],SqL.of A2,?_⟩;generalize decide ((10:Int) ^ gh 18<=z)=b;obtain⟨y,hy⟩:∃ y:Int,atI [V.int 0,V.int z] (if b=true then 1 else 0)=some (V.int y):=by
    cases b
    ·exact⟨0,rfl⟩
    ·exact⟨z,rfl⟩
   refine⟨_,hy,_,h5' _,?_,(sc.upd (sc.free n)).upd n5,rs++[y],?_,?_⟩
   ·rw[aa];exact B4 ∅
   ·rw[A2,aF];rfl
   ·rw[aB,hi];rfl
  ·rintro τ H6 ⟨c,rs,rfl,s6,h5,hrs⟩;rw[aa] at hrs;refine⟨by decide,λp6 n6=>?_⟩;have s06:B1 H H6:=s5.trans s6;have h46:H6 p4=some (.lst (os.map V.int)):=s6 _ _ h4;have n45:p4≠p5:=C2 h4 n5;have n46:p4≠p6:=C2 h46 n6;have n56:p5≠p6:=C2 h5 n6
   refine⟨_,rfl,m,rfl,∅,∅,P5 (lo:=0) (n:=m.toNat) (a6u H a p4 p5 p6 m os)
    ⟨none,none,rs,[],rfl,s06.upd (s06.free n6),by rw[A7 n46];exact h46,by rw[A7 n56];exact h5,hrs,A2,rfl,λx hx=>(by cases hx)⟩ ?_ ?_⟩
   ·rintro i σ Hc hi ⟨kv,av,rs,ds,rfl,sc,c4,c5,hrl,c6,hdl,hdb⟩;have hoi:(0:Int)<(os.map V.int).length:=by rw[aa];omega
    have hat:∃ j:Nat,j<os.length/\(0+(i:Int)) % ((os.map V.int).length:Int)=(j:Int):=by
     have h1:=dX (0+(i:Int)) (b:=((os.map V.int).length:Int)) ∅;have h2:=cQ (0+(i:Int)) hoi;refine⟨((0+(i:Int)) % ((os.map V.int).length:Int)).toNat,?_,∅⟩;rw[aa] at h2 ⊢;omega
    obtain⟨j,hj,ej⟩:=hat;have atR:∀(l:List Int),l.length=os.length->∃ z,atI (l.map V.int) (j:Int)=some (V.int z):=λl e=>by
     have hjl:j<l.length:=∅
     exact⟨l[j],a1N (by rw[aJ,ak hjl];rfl)⟩
    obtain⟨z,hz⟩:=atR rs hrl;obtain⟨z',hz'⟩:=atR os rfl;have n65:p6≠p5:=n56.symm;have hdb2:∀ y:Int,∀ x∈ds++[y % 1000],0<=x/\x<1000:=λy x hx=>by
     rcases aA.mp hx with hx | hx
     ·exact hdb x hx
     ·rw[au.mp hx];omega
    have n64:p6≠p4:=n46.symm;have hdl2:(ds.map V.int).length<sizeLine:=by rw[aa];exact B4 ∅
    have c5':∀ o,(upd Hc p6 o) p5=some (.lst (rs.map V.int)):=λo=>by rw[A7 n56];exact c5
    have hm6:H p6=none:=s06.free n6;have hm5:H p5=none:=(s5.free n5)
    walk_at "rd";refine⟨_,.inl (SqL.of c4),hoi,_,SqL.of c5,?_⟩;rw[ej];refine⟨_,hz,z,rfl,a9t (λ_=>?_) λ_=>?_⟩
    ·refine⟨.inl ⟨rfl,_,SqL.of c6⟩,_,SqL.of c5,_,hz,z,rfl,by decide,_,c6,hdl2,_,SqL.of (c5' _),_,hz,z,rfl,⟨by decide,by decide⟩,?_⟩;have hix:ixN (rs.map V.int).length (j:Int)=some j:=by
      unfold ixN;rw[aa,if_pos ∅,if_pos ∅];simp
     refine⟨_,c5' _,j,hix,?_⟩;refine⟨_,_,rs.set j (z / 1000),ds++[z % 1000],rfl,(sc.upd hm6).upd hm5,by rw[A7 n45,A7 n46];exact c4,by rw[A2,List.map_set],by rw[List.length_set];exact hrl,?_,by rw[aB,hdl];rfl,hdb2 z⟩;rw[A7 n65,A2,aF];rfl
    ·refine⟨.inl ⟨rfl,_,SqL.of c6⟩,_,SqL.of c4,_,hz',z',_,rfl,∅,∅,λy=>?_⟩;walk_at "rd";refine⟨by decide,_,c6,hdl2,?_⟩;refine⟨_,_,rs,ds++[y % 1000],rfl,sc.upd hm6,by rw[A7 n46];exact c4,by rw[A7 n56];exact c5,hrl,by rw[A2,aF];rfl,by rw[aB,hdl];rfl,hdb2 y⟩
   ·rintro σ Hc ⟨kv,av,rs,ds,rfl,sc,c4,c5,hrl,c6,hdl,hdb⟩;walk_at "rd";refine⟨_,c6,λp7 n7=>?_⟩;rw[<- List.map_reverse];exact q p7 ds.reverse _ ⟨by rw[fU];omega,λx hx=>hdb x (List.mem_reverse.mp hx)⟩ (sc.upd (sc.free n7)) (sc.free n7) A2
theorem a3X:B9 ["thing"] ["thing"] (A9 (top 11)):=by walk_at "s"
theorem a7s (F:Fun K "is_int" "is_int" (top 11) f fd)(B:Bt mg)(C:Bt2 mg):B8 P w K mg base CX0 1 f fd ["thing"] a3T:=by
 refine F.ok a3X (λvs H Q E h=>?_) (λcdv A outer s H vs Q E hr h=>?_)
 ·walk_at "h"
 ·obtain⟨x,T,rfl,hx,q⟩:=h;have nd:=a3X.nd;have hu:=K0 hr;refine⟨_,(A5 (B2 (Y0 (B5 (a3v K) (by rfl) C.isinstance ck (A0 (pv 0) (A0 (Z8 (by rfl) B.int boot_int) A1))) (a0r (a5L (B5 (a3v K) (by rfl) C.isinstance ck (A0 (pv 0) (A0 (Z8 (by rfl) C.bool boot_bool) A1)))))))),?_⟩;walk_at "rd";refine⟨_,_,⟨rfl,rfl⟩,_,hx.ty,_,T3 hx (.inl rfl),?_⟩;have e:=a9v hx;cases h1:a3w T "int" with
  | true =>
   rw[if_pos rfl];rw[h1,eY] at e;refine⟨_,_,⟨rfl,rfl⟩,_,hx.ty,_,T3 hx (.inr (.inl rfl)),?_⟩;rw[e];exact q
  | false =>
   rw[if_neg (by decide)];rw[h1,eG] at e;rw[<- e] at q;exact q
theorem a2l:B9 ["thing","least","most"] ["thing","least","most"] (A9 (top 12)):=by walk_at "s"
theorem a5T (F:Fun K "is_between" "is_between" (top 12) f fd)(B:Bt mg)(D1:Df K mg "is_int" st1 f1 fd1 ["thing"])(G1:B8 P w K mg base CX0 1 f1 fd1 ["thing"] a3T):B8 P w K mg base CX0 2 f fd ["thing","least","most"] a2f:=by
 refine F.ok a2l (λvs H Q E h=>?_) (λcdv A outer s H vs Q E hr h=>?_)
 ·walk_at "h"
 ·obtain⟨x,T,lo,hi,rfl,hx,q⟩:=h;have nd:=a2l.nd;have hu:=K0 hr;refine⟨_,(A5 (B2 (Y0 (C1 G1 D1 hr.m (A0 (pv 0) A1)) (Y0 (P0 a5Q (pv 1) (pv 0) (E9 _)) (a0r (P0 a5Q (pv 0) (pv 2) (E9 _))))))),?_⟩;walk_at "rd";refine⟨x,T,rfl,hx,_,rfl,?_⟩;cases h1:isI x with
  | true =>
   rw[if_pos rfl];obtain⟨i,rfl⟩:=a7A h1;refine⟨i,rfl,?_⟩;unfold a0O at q;dsimp only at q;by_cases h2:lo<=i
   ·rw[if_pos (~~~h2)];rw[decide_eq_true h2,eY] at q;exact⟨i,rfl,q⟩
   ·rw[if_neg (~~~h2)];rw[decide_eq_false h2,eG] at q;exact q
  | false =>
   rw[if_neg (by decide)];rw[a7Q h1] at q;exact q
theorem a2k:B9 ["thing"] ["thing"] (A9 (top 15)):=by walk_at "s"
theorem a5S (F:Fun K "is_pair" "is_pair" (top 15) f fd)(B:Bt mg)(C:Bt2 mg):B8 P w K mg base CX0 1 f fd ["thing"] a2e:=by
 refine F.ok a2k (λvs H Q E h=>?_) (λcdv A outer s H vs Q E hr h=>?_)
 ·walk_at "h"
 ·obtain⟨x,T,rfl,hx,q⟩:=h;have nd:=a2k.nd;have hu:=K0 hr;refine⟨_,(A5 (B2 (Y0 (B5 (a3v K) (by rfl) C.isinstance ck (A0 (pv 0) (A0 (Z8 (by rfl) B.tuple dJ) A1))) (a0r (P0 T5 (B5 (a1E K) (by rfl) B.len cq (A0 (pv 0) A1)) A4 (E9 _)))))),?_⟩;walk_at "rd";refine⟨_,_,⟨rfl,rfl⟩,_,hx.ty,_,T3 hx (.inr (.inr rfl)),?_⟩;cases h1:a3w T "tuple" with
  | true =>
   rw[if_pos rfl];cases hx with
   | tup e =>
    rw[a3G e] at q;refine⟨_,rfl,_,.inr (SqT.of e),?_⟩;refine Eq.mp (congrArg (λb=>Q (V.bl b) H) ?_) q;rw[dR];simp;omega
   | _=>cases h1
  | false =>
   rw[if_neg (by decide)];rw[a4Y hx h1] at q;exact q
theorem a3W:B9 ["thing","places","a","b"] ["thing","places"] (A9 (top 16)):=by walk_at "s"
theorem a7r (F:Fun K "is_tie" "is_tie" (top 16) f fd)(B:Bt mg)(D1:Df K mg "is_pair" st1 f1 fd1 ["thing"])(G1:B8 P w K mg base CX0 1 f1 fd1 ["thing"] a2e)(D2:Df K mg "is_between" st2 f2 fd2 ["thing","least","most"])(G2:B8 P w K mg base CX0 2 f2 fd2 ["thing","least","most"] a2f):B8 P w K mg base CX0 3 f fd ["thing","places"] a3S:=by
 refine F.ok a3W (λvs H Q E h=>?_) (λcdv A outer s H vs Q E hr h=>?_)
 ·walk_at "h"
 ·obtain⟨x,T,n,rfl,hx,hyz,q⟩:=h;have nd:=a3W.nd;have hu:=K0 hr
  refine⟨_,(A3 (J9 (M9 (M8 (C1 G1 D1 hr.m (A0 (pv 0) A1))))
     (A5 (B2 Q7))
     E1)
    (A3 (a5J (pv 0) (a1w K (n:=2) rfl (Q5 (C9 (i:=2) nd rfl (.inl rfl)) (Q5 (C9 (i:=3) nd rfl (.inl rfl)) a1v))))
    (A5 (B2 (Y0 (C1 G2 D2 hr.m (A0 (pv 2) (A0 A4 (A0 (A8 a0s (pv 1) A4) A1)))) (a0r (C1 G2 D2 hr.m (A0 (pv 3) (A0 (A8 L9 (pv 2) A4) (A0 (A8 a0s (pv 1) A4) A1)))))))))),?_⟩
  walk_at "rd";refine⟨x,T,rfl,hx,?_⟩;cases hp:M5 H x with
  | none =>
   unfold a0H at q;rw[hp] at q;refine⟨_,rfl,?_⟩;rw[if_pos (by rfl)];exact q
  | some yz =>
   obtain⟨y,z⟩:=yz;obtain⟨a,rfl,ha⟩:=Y2 hp;obtain⟨⟨Ty,hy⟩,Tz,hz⟩:=hyz y z hp;unfold a0H at q;rw[hp] at q;dsimp only at q;refine⟨_,rfl,?_⟩;rw[if_neg (by simp)];refine⟨a,rfl,_,SqT.of ha,rfl,y,_,rfl,z,_,rfl,rfl,y,Ty,0,n-1,rfl,hy,_,rfl,?_⟩;cases hb:a0O y 0 (n-1) with
   | true =>
    rw[hb,eY] at q;rw[if_pos rfl];obtain⟨i,rfl⟩:∃ i,y=.int i:=by
     cases y<;>first | exact⟨_,rfl⟩ | cases hb
    exact⟨i,rfl,z,Tz,i+1,n-1,rfl,hz,q⟩
   | false =>
    rw[hb,eG] at q;rw[if_neg (by decide)];exact q
def S2 (K:ae):Sp:=λvs H Q _=>∃(n:Nat),vs=[.int n]/\n<=100/\∀ p H',B1 H H'->H p=none->H' p=some (.dK (nKv n))->Q (.ref p) H'
def a9z (Hb:Hp)(p:Addr)(i:Nat)(τ:St)(Hc:Hp):Prop:=∃ c:Option V,τ=[c]/\B1 Hb Hc/\Hc p=some (.dK (nKv i))
theorem Z3:B9 ["many"] ["many"] (A9 (top 20)):=by walk_at "s"
theorem a2x (F:Fun K "numbers_below" "numbers_below" (top 20) f fd)(B:Bt mg)(C5:Bt5 mg):B8 P w K mg base CX0 1 f fd ["many"] (S2 K):=by
 refine F.ok Z3 (λvs H Q E h=>?_) (λcdv A outer s H vs Q E hr h=>?_)
 ·walk_at "h"
 ·obtain⟨n,rfl,hn,q⟩:=h;have nd:=Z3.nd;have hu:=K0 hr;refine⟨_,(A5 (B2 (a5P (own:=["number"]) (fr:=[]) false hu rfl (by walk_at "w") K5 (P4 (by rfl) B.range (A0 (pv 0) A1)) ⟨λ_ _ _ _=>⟨(C9 (i:=0) (show cD (["number"]:List Str) by decide +kernel) rfl (.inl rfl)),M7,(E2 K3 (by rfl) C5.str eU (A0 (pv 0) A1)),(pv 0)⟩⟩))),?_⟩;walk_at "rd";refine⟨∅,∅,λp np=>a6M (a9z H p) ⟨none,rfl,(B1.refl H).upd np,A2⟩ ?_ ?_⟩
  ·rintro i τ Hc hi ⟨c,rfl,sc,hc⟩;walk_at "rd";have l:=a4h i;refine⟨?_,_,.inl ⟨nKv i,.inr (tS (0+i)),hc,rfl,B4 ∅,rfl⟩,_,rfl,sc.upd np,?_⟩
   ·have:(0+(i:Int)).natAbs<100:=∅
    have h2:=i0 (n:=(0+(i:Int)).natAbs) (k:=1920);by_cases h0:(0+(i:Int)).natAbs=0
    ·rw[h0];decide
    ·exact (h2 h0).mpr (cW this (aS (by decide:100<2 ^ 7) (iP (by decide) (by decide))))
   ·rw[A2,iN];rfl
  ·rintro τ Hc ⟨c,rfl,sc,hc⟩;rw[eS] at hc;exact q p Hc sc np hc
def a0j (K:ae):Sp:=λvs H Q _=>∃(w d:Addr) (ws:List Str) (m:Nat),vs=[.ref w,.ref d]/\SqL K H w (ws.map V.str)/\H d=some (.dK (nKv m))/\ws.length<=100000 /\
 ∀ p H',B1 H H'->H p=none->H' p=some (.tup (ws.map (nOf m)))->Q (.ref p) H'
def a9y (Hb:Hp)(l d:Addr)(m:Nat)(ws:List Str)(i:Nat)(τ:St)(Hc:Hp):Prop:=∃ c:Option V,τ=[c,some (.ref d)]/\B1 Hb Hc/\Hc l=some (.lst ((ws.take i).map (nOf m)))
theorem a2m:B9 ["words","numbers"] ["words","numbers"] (A9 (top 21)):=by walk_at "s"
theorem a5U (F:Fun K "numbers_in" "numbers_in" (top 21) f fd)(B:Bt mg):B8 P w K mg base CX0 1 f fd ["words","numbers"] (a0j K):=by
 refine F.ok a2m (λvs H Q E h=>?_) (λcdv A outer s H vs Q E hr h=>?_)
 ·walk_at "h"
 ·obtain⟨w,d,ws,m,rfl,hw,hd,hl,q⟩:=h;have nd:=a2m.nd;have hu:=K0 hr;refine⟨_,(A5 (B2 (E2 (T6 K) (by rfl) B.tuple dJ (A0 (Q6 (own:=["word"]) (fr:=[("numbers",1)]) rfl (by walk_at "w") (Q8 rfl rfl K5) (K4 K (pv 0)) ⟨λ_ _ _ _=>⟨(C9 (i:=0) (show cD (["word","numbers"]:List Str) by decide +kernel) rfl (.inl rfl)),M7,(a5O hu (pv 1) (pv 0) ⟨rfl,rfl,rfl,rfl⟩)⟩⟩) A1)))),?_⟩;walk_at "rd";refine⟨⟨_,hw⟩,λl nl=>P1 (K:=K) (xs:=ws.map V.str) (a9y H l d m ws) ⟨none,rfl,(B1.refl H).upd nl,A2⟩ ?_ ?_ ?_⟩
  ·rintro i τ Hc _ ⟨_,rfl,sc,_⟩;exact sc.seq hw
  ·rintro i v τ Hc hv ⟨c,rfl,sc,hc⟩ _;rw[aJ] at hv;obtain⟨x,hx,rfl⟩:=bR.mp hv;walk_at "rd";have hdc:=sc _ _ hd;refine⟨.inl ⟨_,.inl hdc⟩,_,a1U.k (k:=.inr x) hdc,_,hc,by rw[aa,bq];exact B4 ∅,_,rfl,sc.upd nl,?_⟩;rw[A2,cw,hx,aF];rfl
  ·rintro τ Hc ⟨c,rfl,sc,hc⟩;rw[aa,ci] at hc;exact⟨_,.inl ⟨SqL.of hc,λp np=>B7 np λH2 s2 e2=>q p H2 (sc.trans s2) (sc.free np) e2⟩⟩
def C3 (a b:Str):List Str:=if a=Str.ofString "" then [] else Txt.split a b
def U1 (K:ae):Sp:=λvs H Q _=>∃(a b:Str),vs=[.str a,.str b]/\(b.length == 0)=false/\a.length+2<=sizeLine /\
 ∀ p H',B1 H H'->H p=none->H' p=some (.lst ((C3 a b).map V.str))->Q (.ref p) H'
theorem a0o:B9 ["text","mark"] ["text","mark"] (A9 (top 22)):=by walk_at "s"
theorem a3n (F:Fun K "items_in" "items_in" (top 22) f fd)(B:Bt mg):B8 P w K mg base CX0 1 f fd ["text","mark"] (U1 K):=by
 refine F.ok a0o (λvs H Q E h=>?_) (λcdv A outer s H vs Q E hr h=>?_)
 ·walk_at "h"
 ·obtain⟨a,b,rfl,hb,hl,q⟩:=h;have nd:=a0o.nd;have hu:=K0 hr
  refine⟨_,(A3 (J9 (K1 T5 (pv 0) B0 (E9 _))
     (A5 (B2 (K2 A1)))
     E1)
    (A5 (B2 (U9 K (pv 0) (A0 (pv 1) A1))))),?_⟩
  walk_at "rd";refine a9t (λh=>⟨by decide,λp np=>B7 np λH1 s1 e1=>q p H1 s1 np ?_⟩) λh=>⟨rfl,a,rfl,b,rfl,hb,hl,λp np=>B7 np λH1 s1 e1=>q p H1 s1 np ?_⟩
  ·have h:a=Str.ofString "":= ~~~h
   rw[e1];unfold C3;rw[if_pos h];rfl
  ·have h:¬ a=Str.ofString "":= ~~~h
   rw[e1];unfold C3;rw[if_neg h]
def a3R:Sp:=λvs H Q _=>∃(p:Addr) (us:List Int),vs=[.ref p]/\H p=some (.tup (us.map V.int))/\us.length<=100000/\∀ b:Bool,(b=true↔us.Pairwise (·<·))->Q (.bl b) H
def a6r (H:Hp)(p:Addr)(us:List Int)(i:Nat)(σ:St)(Hc:Hp):Prop:=∃ c:Option V,σ=[some (.ref p),c]/\Hc=H/\∀ j,j<i->us.getD j 0<us.getD (j+1) 0
theorem a0g:∀ {us:List Int},(∀ j,j+1<us.length->us.getD j 0<us.getD (j+1) 0)->us.Pairwise (·<·)
 | [],_=>.nil
 | [x],_=>bE _ _
 | x::y::r,h=>by
  have ih:=a0g (us:=y::r) λj hj=>by simpa using h (j+1) (~~~hj)
  have h0:x<y:=by simpa using h 0 (by simp)
  refine dm.mpr ⟨λz hz=>?_,ih⟩;rcases aO.mp hz with rfl | hz
  ·exact h0
  ·have:=(dm.mp ih).1 z hz;omega
theorem a4y {us:List Int}(h:us.Pairwise (·<·)){j:Nat}(hj:j+1<us.length):us.getD j 0<us.getD (j+1) 0:=by
 rw[cZ,cZ,ak hj,ak ∅];exact bU.mp h j (j+1) ∅ hj ∅
theorem a8w {us:List Int}{j:Int}(h0:0<=j)(h1:j<us.length):atI (us.map V.int) j=some (.int (us.getD j.toNat 0)):=by
 unfold atI ixN;rw[aa,if_pos h0,if_pos h1];show (us.map V.int)[j.toNat]?=_;rw[aJ,cZ,ak ∅];rfl
theorem a3V:B9 ["items","at"] ["items"] (A9 (top 17)):=by walk_at "s"
theorem a7q (F:Fun K "is_rising" "is_rising" (top 17) f fd)(B:Bt mg):B8 P w K mg base CX0 1 f fd ["items"] a3R:=by
 refine F.ok a3V (λvs H Q E h=>?_) (λcdv A outer s H vs Q E hr h=>?_)
 ·walk_at "h"
 ·obtain⟨p,us,rfl,hp,hl,q⟩:=h;have nd:=a3V.nd;have hu:=K0 hr
  refine⟨_,(A3 (Q3 cc rfl (X8 (by rfl) B.range (A0 A4 (A0 (B5 (a1E K) (by rfl) B.len cq (A0 (pv 0) A1)) A1))) (C9 (i:=1) nd rfl (.inl rfl))
     (A5 (J9 (M9 (K1 a4d (Q0 (W0 K) (pv 0) (A8 a0s (pv 1) A4) (λ_ _=>rfl)) (Q0 (W0 K) (pv 0) (pv 1) (λ_ _=>rfl)) (E9 _)))
      (A5 (B2 Q7))
      E1)))
    (A5 (B2 Q7))),?_⟩
  walk_at "rd";refine⟨_,rfl,p,_,rfl,.inr (SqT.of hp),1,_,rfl,⟨by decide,by decide,by rw[aa];omega,by rw[aa];omega⟩,P5 (lo:=1) (n:=(((us.map V.int).length:Int)-1).toNat) (a6r H p us) ⟨none,rfl,rfl,λj hj=>absurd hj (cb _)⟩ ?_ ?_⟩
  ·rintro i σ Hc hi ⟨c,rfl,rfl,hs⟩;rw[aa] at hi;walk_at "rd";refine⟨_,SqT.of hp,_,a8w ∅ ∅,_,SqT.of hp,_,a8w ∅ ∅,?_⟩;refine⟨_,rfl,_,rfl,?_⟩;have e1:(1+(i:Int)-1).toNat=i:=∅
   have e2:(1+(i:Int)).toNat=i+1:=∅
   rw[e1,e2];by_cases hlt:us.getD i 0<us.getD (i+1) 0
   ·rw[if_neg (by rw[decide_eq_true hlt];decide)];refine⟨_,rfl,rfl,λj hj=>?_⟩;rcases bI j i with h | h
    ·exact hs j h
    ·cases (show j=i by omega);exact hlt
   ·rw[if_pos (by rw[decide_eq_false hlt];decide)];exact q false ⟨λh=>(by cases h),λh=>absurd (a4y h ∅) hlt⟩
  ·rintro σ Hc ⟨c,rfl,rfl,hs⟩;rw[aa] at hs;exact q true ⟨λ_=>a0g λj hj=>hs j ∅,λ_=>rfl⟩
theorem W6 (a b:Str):(Txt.split a b).length<=a.length+2:=by
 have e1:=PySem.StrLaws.occ_length_le a b 0 a.length (a.length+1);unfold Txt.split;split
 ·simp
 ·split
  ·simp
  ·rw[gt];omega
theorem a1c (a b:Str):(C3 a b).length<=a.length+2:=by
 unfold C3;split
 ·simp
 ·exact W6 a b
theorem a1A {m:Nat}(hm:m<=100)(w:Str):nOf m w=.non\/∃ i:Nat,i<m/\w=tS i/\nOf m w=.int i:=by
 unfold nOf;cases h:O0 (nKv m) (.inr w) with
 | none=>exact .inl rfl
 | some v =>
  obtain⟨i,hi,e,rfl⟩:=(a1B hm).mp h;exact .inr ⟨i,hi,e,rfl⟩
theorem a6f {m:Nat}(hm:m<=100)(w:Str):W2 (nOf m w)=true:=by
 rcases a1A hm w with h | ⟨i,_,_,h⟩<;>rw[h]<;>rfl
theorem a4g {m:Nat}(hm:m<=100):∀ ws:List Str,(inV .non (ws.map (nOf m))=true/\∀ ks:List Int,ws.map (nOf m)≠ks.map V.int)\/(inV .non (ws.map (nOf m))=false/\∃ ks:List Int,ws.map (nOf m)=ks.map V.int)
 | []=>.inr ⟨rfl,[],rfl⟩
 | w::ws=>by
  rcases a1A hm w with h | ⟨i,_,_,h⟩
  ·refine .inl ⟨by rw[am,h];rfl,λks e=>?_⟩;cases ks with
   | nil=>cases e
   | cons k ks=>rw[am,am,h] at e;cases e
  ·rcases a4g hm ws with ⟨a,b⟩ | ⟨a,ks,b⟩
   ·refine .inl ⟨by rw[am,h];exact a,λks e=>?_⟩;cases ks with
    | nil=>cases e
    | cons k ks=>exact b ks (cA e).2
   ·exact .inr ⟨by rw[am,h];exact a,i::ks,by rw[am,h,b];rfl⟩
theorem a0y:∀ {ks ls:List Int},ks.map V.int=ls.map V.int->ks=ls
 | [],[],_=>rfl
 | [],_::_,h=>by cases h
 | _::_,[],h=>by cases h
 | k::ks,l::ls,h=>by
  have h:=cA h;rw[V.int.inj h.1,a0y h.2]
def Y5 (K:ae):Sp:=λvs H Q _=>∃(a:Str) (m:Nat),vs=[.str a,.int m]/\m<=100/\a.length<=90000 /\
 (∀ H',B1 H H'->(∀ ks:List Int,(C3 a (Str.ofString ",")).map (nOf m)=ks.map V.int->¬ ks.Pairwise (·<·))->Q .non H') /\
 ∀ p H' (ks:List Int),B1 H H'->H p=none->H' p=some (.tup (ks.map V.int))->(C3 a (Str.ofString ",")).map (nOf m)=ks.map V.int->ks.Pairwise (·<·)->Q (.ref p) H'
theorem Z2:B9 ["text","many","places"] ["text","many"] (A9 (top 23)):=by walk_at "s"
theorem a2w (F:Fun K "places_in" "places_in" (top 23) f fd)(B:Bt mg)(D1:Df K mg "items_in" st1 f1 fd1 ["text","mark"])(G1:B8 P w K mg base CX0 1 f1 fd1 ["text","mark"] (U1 K))(D2:Df K mg "numbers_below" st2 f2 fd2 ["many"])(G2:B8 P w K mg base CX0 1 f2 fd2 ["many"] (S2 K))(D3:Df K mg "numbers_in" st3 f3 fd3 ["words","numbers"])(G3:B8 P w K mg base CX0 1 f3 fd3 ["words","numbers"] (a0j K))(D4:Df K mg "is_rising" st4 f4 fd4 ["items"])(G4:B8 P w K mg base CX0 1 f4 fd4 ["items"] a3R):B8 P w K mg base CX0 3 f fd ["text","many"] (Y5 K):=by
 refine F.ok Z2 (λvs H Q E h=>?_) (λcdv A outer s H vs Q E hr h=>?_)
 ·walk_at "h"
 ·obtain⟨a,m,rfl,hm,hl,q1,q2⟩:=h;have nd:=Z2.nd;have hu:=K0 hr
  refine⟨_,(A3 (E4 (i:=2) nd rfl (.inl rfl) (C1 G3 D3 hr.m (A0 (C1 G1 D1 hr.m (A0 (pv 0) (A0 B0 A1))) (A0 (C1 G2 D2 hr.m (A0 (pv 1) A1)) A1))))
    (A3 (J9 (PW.pt (a2s (K1 (a7K K) R4 (pv 2) (by walk_at "w")) (a1u (M9 (M8 (C1 G4 D4 hr.m (A0 (pv 2) A1)))))))
     (A5 (B2 R4))
     E1)
    (A5 (B2 (pv 2))))),?_⟩
  walk_at "rd";have il:=a1c a (Str.ofString ",");refine⟨a,Str.ofString ",",rfl,by decide,B4 ∅,λp H1 s1 f1 e1=>⟨m,rfl,hm,λd H2 s2 f2 e2=>?_⟩⟩;refine⟨p,d,_,m,rfl,SqL.of (s2 _ _ e1),e2,∅,λt H3 s3 f3 e3=>⟨t,_,rfl,.inr (SqT.of e3),rfl,by simp only[List.all_map,br];exact λw _=>a6f hm w,_,rfl,?_⟩⟩;have s13:=(s1.trans s2).trans s3;have ft:=(s1.trans s2).free f3;rcases a4g hm (C3 a (Str.ofString ",")) with ⟨e,n⟩ | ⟨e,ks,n⟩
  ·rw[if_neg (by decide:¬ false=true),e,if_pos rfl];exact q1 H3 s13 λks h=>absurd h (n ks)
  ·rw[if_neg (by decide:¬ false=true),e,if_neg (by decide)];refine⟨t,ks,rfl,by rw[e3,n],by have:=congrArg cz n;simp only[aa] at this;omega,λb hb=>⟨_,rfl,?_⟩⟩;cases b
   ·rw[if_pos (by decide)];refine q1 H3 s13 λls h hp=>?_
    rw[a0y (n.symm.trans h)] at hb;exact absurd (hb.mpr hp) (by decide)
   ·rw[if_neg (by decide)];exact q2 t H3 ks s13 ft (by rw[e3,n]) n (hb.mp rfl)
def W7 (K:ae)(C:Addr):Sp:=λvs H Q E=>∃(v:V),vs=[v] /\
  ((∃ a:Str,v=.str a/\a.length<=90000 /\
    (∀ H',B1 H H'->(∀ ks:List Int,(C3 a (Str.ofString ",")).map (nOf 60)=ks.map V.int->¬ ks.Pairwise (·<·))->E (.ref C) none H') /\
    ∀ p H' (ks:List Int),B1 H H'->H p=none->H' p=some (.tup (ks.map V.int))->(C3 a (Str.ofString ",")).map (nOf 60)=ks.map V.int->ks.Pairwise (·<·)->Q (.ref p) H') \/
   ((∃ t,R8 K H v t/\PySem.W.kitOne K t (.type "str")=some false)/\E (.ref C) none H))
theorem a0V:B9 ["thing","places"] ["thing"] (A9 (top 24)):=by walk_at "s"
theorem a4E (F:Fun K "read_places" "read_places" (top 24) f fd)(B:Bt mg){cNoText:Addr}(ZNoText:P3 K mg "NoText" cNoText)(D1:Df K mg "places_in" st1 f1 fd1 ["text","many"])(G1:B8 P w K mg base CX0 3 f1 fd1 ["text","many"] (Y5 K))(C:Bt2 mg)(C5:Bt5 mg){k2:Tok}(M2:mg "MOST_PLACES"=some (.int 60 k2)):B8 P w K mg base (CX1 P w) 4 f fd ["thing"] (W7 K cNoText):=by
 refine F.ok1 a0V (λvs H Q E h=>?_) (λcdv A outer s H vs Q E hr h=>?_)
 ·walk_at "h"
 ·obtain⟨v,rfl,h⟩:=h;have nd:=a0V.nd;have hu:=K0 hr
  refine⟨_,(A3 (E4 (i:=1) nd rfl (.inl rfl) (a5M (M8 (B5 (a3v K) (by rfl) C.isinstance ck (A0 (pv 0) (A0 (Z8 (by rfl) C5.str eU) A1)))) (C1 G1 D1 hr.m (A0 (pv 0) (A0 (J7 rfl M2 (show B6 (V.int 60) _ from ⟨_,rfl⟩)) A1))) R4))
    (A3 (J9 (a3h (a3j (pv 1)))
     (A5 (X7 ZNoText))
     E1)
    (A5 (B2 (pv 1))))),?_⟩
  walk_at "rd";unfold tIf;walk_at "rd";rcases h with ⟨a,rfl,hl,q1,q2⟩ | ⟨⟨t,ty,k⟩,q⟩
  ·refine⟨_, "str",⟨rfl,rfl⟩,_,.str a,true,by rfl,?_⟩;rw[if_pos rfl];refine⟨a,60,rfl,by decide,hl,λH1 s1 n=>?_,λp H1 ks s1 np e h hp=>?_⟩
   ·show if decide (V.non=V.non)=true then _ else _
    rw[if_pos (by decide)];exact q1 H1 s1 n
   ·show if decide (V.ref p=V.non)=true then _ else _
    rw[if_neg (by simp)];exact q2 p H1 ks s1 np e h hp
  ·refine⟨_, "str",⟨rfl,rfl⟩,t,ty,false,k,?_⟩;exact q
def nxB (ts:⋯)(i:Nat):Bool:=HT.lexLt (tl (ts.getD i (0,0))) (tl (ts.getD (i+1) (0,0)))
def a5D (ts:⋯):Bool:=(List.range (ts.length-1)).all (nxB ts)
theorem a7g {ts:⋯}(h:ts.Pairwise Lex):a5D ts=true:=by
 refine br.mpr λi hi=>?_
 have hi':=bf.mp hi;have:=bU.mp h i (i+1) ∅ ∅ ∅;unfold nxB;rw[show ts.getD i (0,0)=ts[i] by simp[List.getD,show i<ts.length by omega],show ts.getD (i+1) (0,0)=ts[i+1] by simp[List.getD,show i+1<ts.length by omega]];exact a1D.mpr this
def Y4:Sp:=λvs H Q _=>∃(p:Addr) (ps:List (Addr×List Int)) (ts:⋯),vs=[.ref p]/\H p=some (.tup (ps.map λx=>V.ref x.1))/\K7 H ps ts/\ts.length<=100000/\Q (.bl (a5D ts)) H
def a7C (H:Hp)(p:Addr)(ts:⋯)(i:Nat)(σ:St)(Hc:Hp):Prop:=∃ a:Option V,σ=[some (.ref p),a]/\Hc=H/\∀ j,j<i->nxB ts j=true
theorem Z1:B9 ["items","at"] ["items"] (A9 (top 17)):=by walk_at "s"
theorem a2v (F:Fun K "is_rising" "is_rising" (top 17) f fd)(B:Bt mg):B8 P w K mg base CX0 1 f fd ["items"] Y4:=by
 refine F.ok Z1 (λvs H Q E h=>?_) (λcdv A outer s H vs Q E hr h=>?_)
 ·walk_at "h"
 ·obtain⟨p,ps,ts,rfl,hp,hps,hz,q⟩:=h;have nd:=Z1.nd;have hu:=K0 hr
  refine⟨_,(A3 (Q3 cc rfl (X8 (by rfl) B.range (A0 A4 (A0 (B5 (a1E K) (by rfl) B.len cq (A0 (pv 0) A1)) A1))) (C9 (i:=1) nd rfl (.inl rfl))
     (A5 (J9 (M9 (K1 (b1D K hr.units0) (Q0 (W0 K) (pv 0) (A8 a0s (pv 1) A4) (λ_ _=>rfl)) (Q0 (W0 K) (pv 0) (pv 1) (λ_ _=>rfl)) (E9 _)))
      (A5 (B2 Q7))
      E1)))
    (A5 (B2 Q7))),?_⟩
  walk_at "rd";have hpl:=hps.len;have hlm:(ps.map λx=>V.ref x.1).length=ts.length:=by rw[aa];exact hpl
  refine⟨_,rfl,p,_,rfl,.inr (SqT.of hp),1,_,rfl,⟨by decide,by decide,∅,∅⟩,P5 (lo:=1) (n:=(((ps.map λx=>V.ref x.1).length:Int)-1).toNat) (a7C H p ts) ⟨none,rfl,rfl,λj hj=>absurd hj (cb _)⟩ ?_ ?_⟩
  ·rintro i σ Hc hi ⟨a,rfl,rfl,hb⟩;have hil:i+1<ts.length:=∅
   have at':∀ k (hk:k<ts.length),∃ b,atI (ps.map λx=>V.ref x.1) (k:Int)=some (.ref b)/\Hc b=some (.tup ([(ts.getD k (0,0)).1,(ts.getD k (0,0)).2].map V.int)):=λk hk=>by
    have hk2:k<(ps.map λx=>V.ref x.1).length:=∅
    obtain⟨b,t,e1,e2,e3⟩:=hps.get (i:=k) (ak hk2);refine⟨b,a1N (by rw[ak hk2,e1]),?_⟩;have:ts.getD k (0,0)=t:=by rw[cZ,e2];rfl
    rw[this];exact e3
   obtain⟨b1,f1,g1⟩:=at' i ∅;obtain⟨b2,f2,g2⟩:=at' (i+1) hil;walk_at "rd";refine⟨_,SqT.of hp,_,?_,_,SqT.of hp,_,?_,b1,b2,_,_,rfl,rfl,SqT.of g1,SqT.of g2,_,rfl,?_⟩
   ·rw[show (1:Int)+(i:Int)-1=(i:Int) by omega];exact f1
   ·rw[show (1:Int)+(i:Int)=((i+1:Nat):Int) by omega];exact f2
   ·show (if (!nxB ts i)=true then _ else _);cases hx:nxB ts i with
    | true =>
     rw[if_neg (by decide)];refine⟨_,rfl,rfl,λj hj=>?_⟩;rcases bI j i with h | h
     ·exact hb j h
     ·have:j=i:=∅
      rw[this];exact hx
    | false =>
     rw[if_pos (by rfl)];have:a5D ts=false:=by
      rw[<- Bool.not_eq_true];intro h;have:=br.mp h i (bf.mpr ∅);rw[hx] at this;cases this
     rw[this] at q;exact q
  ·rintro σ Hc ⟨a,rfl,rfl,hb⟩;have:a5D ts=true:=br.mpr λj hj=>hb j (by have:=bf.mp hj;omega)
   rw[this] at q;exact q
theorem a7f {ts:⋯}(h:a5D ts=true):ts.Pairwise Lex:=by
 have h1:∀ i (h:i+1<ts.length),Lex ts[i] ts[i+1]:=λi hi=>by
  have:=br.mp h i (bf.mpr ∅);unfold nxB at this;rw[show ts.getD i (0,0)=ts[i] by simp[List.getD,show i<ts.length by omega],show ts.getD (i+1) (0,0)=ts[i+1] by simp[List.getD,hi]] at this;exact a1D.mp this
 have key:∀ d i (h:i+d+1<ts.length),Lex ts[i] ts[i+d+1]:=by
  intro d;induction d with
  | zero=>exact λi hi=>h1 i hi
  | succ d ih =>
   intro i hi;have a:=ih i ∅;have b:=h1 (i+d+1) ∅;change Lex ts[i] (ts[i+d+1+1]'∅);unfold Lex at a b ⊢;omega
 refine bU.mpr λi j hi hj hij=>?_
 have:=key (j-i-1) i ∅;simpa [show i+(j-i-1)+1=j by omega] using this
theorem a5C {H:Hp}{n:Int}{a:Addr}{xs:List V}(e:H a=some (.tup xs)){us:⋯}(h:a2T H n (.ref a) us):∀ x∈xs,a0H H x n=true:=by
 obtain⟨b,eb,⟨ps,h1,h2⟩,h3,_⟩:=h;cases eb;rw[e] at h1;cases h1;exact a6Y h2 h3
def a2d:Sp:=λvs H Q _=>∃(x:V) (T:String) (n:Int),vs=[x,.int n]/\Pl H x T/\PlD H 2 x/\(∀ a xs,x=.ref a->H a=some (.tup xs)->xs.length<=100000)/\∀ b:Bool,(b=true↔∃ us,a2T H n x us)->Q (.bl b) H
def a7D (H:Hp)(p:Addr)(n:Int)(xs:List V)(i:Nat)(σ:St)(Hc:Hp):Prop:=∃ a:Option V,σ=[some (.ref p),some (.int n),a]/\Hc=H/\∀ x∈xs.take i,a0H H x n=true
theorem a2j:B9 ["thing","places","item"] ["thing","places"] (A9 (top 18)):=by walk_at "s"
theorem a5R (F:Fun K "is_tie_row" "is_tie_row" (top 18) f fd)(B:Bt mg)(D1:Df K mg "is_tie" st1 f1 fd1 ["thing","places"])(G1:B8 P w K mg base CX0 3 f1 fd1 ["thing","places"] a3S)(D2:Df K mg "is_rising" st2 f2 fd2 ["items"])(G2:B8 P w K mg base CX0 1 f2 fd2 ["items"] Y4)(C:Bt2 mg):B8 P w K mg base CX0 4 f fd ["thing","places"] a2d:=by
 refine F.ok a2j (λvs H Q E h=>?_) (λcdv A outer s H vs Q E hr h=>?_)
 ·walk_at "h"
 ·obtain⟨x,T,n,rfl,hx,hd,hlen,q⟩:=h;have nd:=a2j.nd;have hu:=K0 hr
  refine⟨_,(A3 (J9 (M9 (M8 (B5 (a3v K) (by rfl) C.isinstance ck (A0 (pv 0) (A0 (Z8 (by rfl) B.tuple dJ) A1)))))
     (A5 (B2 Q7))
     E1)
    (A3 (Q3 cc rfl (a7m K (pv 0)) (C9 (i:=2) nd rfl (.inl rfl))
     (A5 (J9 (M9 (M8 (C1 G1 D1 hr.m (A0 (pv 2) (A0 (pv 1) A1)))))
      (A5 (B2 Q7))
      E1)))
    (A5 (B2 (C1 G2 D2 hr.m (A0 (pv 0) A1)))))),?_⟩
  walk_at "rd";refine⟨_,_,⟨rfl,rfl⟩,_,hx.ty,_,T3 hx (.inr (.inr rfl)),?_⟩;cases h1:a3w T "tuple" with
  | false =>
   rw[if_pos (by rfl)];refine q false ⟨λh=>(by cases h),λ⟨us,a,e,⟨ps,h2,_⟩,_⟩=>?_⟩;subst e;cases hx with
   | lst e=>rw[e] at h2;cases h2
   | tup e=>cases h1
   | dK e=>rw[e] at h2;cases h2
   | dT e=>rw[e] at h2;cases h2
  | true =>
   rw[if_neg (by decide)];cases hx with
   | @tup p xs hp =>
    have hl:=hlen p xs rfl hp;refine⟨_,rfl,p,rfl,⟨_,SqT.of hp⟩,a7L (K:=K) (xs:=xs) (a7D H p n xs) ⟨none,rfl,rfl,λx hx=>(by rw[fP] at hx;cases hx)⟩ ?_ ?_ ?_⟩
    ·rintro i σ Hc _ ⟨_,rfl,rfl,_⟩;exact SqT.of hp
    ·rintro i v σ Hc hv ⟨a,rfl,rfl,hs⟩;have hm:=aU hv;have hdv:=hd.2 p xs rfl hp v hm;obtain⟨Tv,hTv⟩:=hdv.pl;walk_at "rd";refine⟨v,Tv,n,rfl,hTv,λy z e=>?_,?_⟩
     ·obtain⟨a',rfl,ea'⟩:=Y2 e;exact⟨(hdv.2 a' _ rfl ea' y (by simp)).pl,(hdv.2 a' _ rfl ea' z (by simp)).pl⟩
     ·refine⟨_,rfl,?_⟩;cases hb:a0H Hc v n with
      | false =>
       rw[if_pos (by rfl)];refine q false ⟨λh=>(by cases h),λ⟨us,hr⟩=>?_⟩;have:=a5C hp hr v hm;rw[hb] at this;cases this
      | true =>
       rw[if_neg (by decide)];refine⟨_,rfl,rfl,λx hx=>?_⟩;rw[W5 hv] at hx;rcases aA.mp hx with hx | hx
       ·exact hs x hx
       ·rw[au.mp hx];exact hb
    ·rintro σ Hc ⟨a,rfl,rfl,hs⟩;rw[ci] at hs;obtain⟨ps,us,rfl,hps,hok⟩:=a3L hs;have hul:us.length<=100000:=by rw[<- hps.len];rw[aa] at hl;exact hl
     walk_at "rd";refine⟨p,ps,us,rfl,hp,hps,hul,q _ ⟨λh=>⟨us,p,rfl,⟨ps,hp,hps⟩,hok,a7f h⟩,λ⟨us',a',e',ht',_,hx'⟩=>?_⟩⟩;cases e';cases ht'.inj ⟨ps,hp,hps⟩;exact a7g hx'
   | _=>cases h1
theorem a2b {a b w:Str}(h:w∈Txt.split a b):w.length<=a.length:=by
 unfold Txt.split at h;split at h
 ·cases au.mp h;exact ao _
 ·split at h
  ·cases au.mp h;exact ao _
  ·obtain⟨p,_,rfl⟩:=aQ.mp h;exact le_strSub _ _ _
theorem a6p {a b w:Str}(h:w∈C3 a b):w.length<=a.length:=by
 unfold C3 at h;split at h
 ·cases h
 ·exact a2b h
def S1 (w:Str):List V:=(Txt.split w (Str.ofString "-")).map (nOf 60)
def RwT (H:Hp)(as:List Addr)(ws:List Str):Prop:=as.length=ws.length/\∀(j:Nat) b w,as[j]?=some b->ws[j]?=some w->H b=some (.tup (S1 w))
theorem RwT.mono {H H':Hp}{as:List Addr}{ws:List Str}(h:RwT H as ws)(s:∀ b o,b∈as->H b=some o->H' b=some o):RwT H' as ws:=⟨h.1,λj b w h1 h2=>s _ _ (aU h1) (h.2 j b w h1 h2)⟩
theorem RwT.get {H:Hp}{as:List Addr}{ws:List Str}(h:RwT H as ws){b:Addr}(hb:b∈as):∃ w,w∈ws/\H b=some (.tup (S1 w)):=by
 obtain⟨j,hj⟩:=bN.mp hb;have hl:j<ws.length:=by rw[<- h.1];exact (aK.mp hj).1
 exact⟨ws[j],cK hl,h.2 j b _ hj (ak hl)⟩
theorem RwT.snoc {H:Hp}{as:List Addr}{ws:List Str}(h:RwT H as ws){b:Addr}{w:Str}(e:H b=some (.tup (S1 w))):RwT H (as++[b]) (ws++[w]):=by
 refine⟨by rw[aB,aB,h.1];rfl,λj c x h1 h2=>?_⟩;rcases bI j as.length with hj | hj
 ·rw[bF hj] at h1;rw[bF (by rw[<- h.1];exact hj)] at h2;exact h.2 j c x h1 h2
 ·rw[bD hj] at h1;rw[bD (by rw[<- h.1];exact hj)] at h2;rw[<- h.1] at h2;cases hk:j-as.length with
  | zero=>rw[hk] at h1 h2;cases h1;cases h2;exact e
  | succ k=>rw[hk] at h1;cases h1
def T1 (K:ae)(C:Addr):Sp:=λvs H Q E=>∃(v:V),vs=[v] /\
  ((∃ a:Str,v=.str a/\a.length<=90000/\∀(p:Addr) H' (as:List Addr),B1 H H'->H p=none->H' p=some (.tup (as.map V.ref))->RwT H' as (C3 a (Str.ofString " ")) ->
      ((∃ us,a2T H' 60 (.ref p) us)->Q (.ref p) H')/\((¬ ∃ us,a2T H' 60 (.ref p) us)->E (.ref C) none H')) \/
   ((∃ t,R8 K H v t/\PySem.W.kitOne K t (.type "str")=some false)/\E (.ref C) none H))
def a9x (Hb:Hp)(l d:Addr)(ws:List Str)(i:Nat)(τ:St)(Hc:Hp):Prop:=∃(c:Option V) (as:List Addr),τ=[c,some (.ref d)]/\B1 Hb Hc/\Hc l=some (.lst (as.map V.ref))/\RwT Hc as (ws.take i)
theorem a0U:B9 ["thing","numbers","ties"] ["thing"] (A9 (top 25)):=by walk_at "s"
theorem a4D (F:Fun K "read_tree" "read_tree" (top 25) f fd)(B:Bt mg){cNoText:Addr}(ZNoText:P3 K mg "NoText" cNoText)(D1:Df K mg "items_in" st1 f1 fd1 ["text","mark"])(G1:B8 P w K mg base CX0 1 f1 fd1 ["text","mark"] (U1 K))(D2:Df K mg "numbers_below" st2 f2 fd2 ["many"])(G2:B8 P w K mg base CX0 1 f2 fd2 ["many"] (S2 K))(D3:Df K mg "numbers_in" st3 f3 fd3 ["words","numbers"])(G3:B8 P w K mg base CX0 1 f3 fd3 ["words","numbers"] (a0j K))(D4:Df K mg "is_tie_row" st4 f4 fd4 ["thing","places"])(G4:B8 P w K mg base CX0 4 f4 fd4 ["thing","places"] a2d)(C:Bt2 mg)(C5:Bt5 mg){k2:Tok}(M2:mg "MOST_PLACES"=some (.int 60 k2)):B8 P w K mg base (CX1 P w) 5 f fd ["thing"] (T1 K cNoText):=by
 refine F.ok1 a0U (λvs H Q E h=>?_) (λcdv A outer s H vs Q E hr h=>?_)
 ·walk_at "h"
 ·obtain⟨v,rfl,h⟩:=h;have nd:=a0U.nd;have hu:=K0 hr
  refine⟨_,(A3 (J9 (M9 (M8 (B5 (a3v K) (by rfl) C.isinstance ck (A0 (pv 0) (A0 (Z8 (by rfl) C5.str eU) A1)))))
     (A5 (X7 ZNoText))
     E1)
    (A3 (E4 (i:=1) nd rfl (.inr rfl) (C1 G2 D2 hr.m (A0 (J7 rfl M2 (show B6 (V.int 60) _ from ⟨_,rfl⟩)) A1)))
    (A3 (E4 (i:=2) nd rfl (.inl rfl) (E2 (T6 K) (by rfl) B.tuple dJ (A0 (Q6 (own:=["item"]) (fr:=[("numbers",1)]) rfl (by walk_at "w") (Q8 rfl rfl K5) (K4 K (C1 G1 D1 hr.m (A0 (pv 0) (A0 B0 A1)))) ⟨λ_ _ _ _=>⟨(C9 (i:=0) (show cD (["item","numbers"]:List Str) by decide +kernel) rfl (.inl rfl)),M7,(C1 G3 D3 hr.m (A0 (U9 K (pv 0) (A0 B0 A1)) (A0 (pv 1) A1)))⟩⟩) A1)))
    (A3 (J9 (M9 (M8 (C1 G4 D4 hr.m (A0 (pv 2) (A0 (J7 rfl M2 (show B6 (V.int 60) _ from ⟨_,rfl⟩)) A1)))))
     (A5 (X7 ZNoText))
     E1)
    (A5 (B2 (pv 2))))))),?_⟩
  walk_at "rd";rcases h with ⟨a,rfl,hl,q⟩ | ⟨⟨t,ty,k⟩,q⟩
  rotate_left
  ·exact⟨_, "str",⟨rfl,rfl⟩,t,ty,false,k,q⟩
  refine⟨_, "str",⟨rfl,rfl⟩,_,.str a,true,by rfl,?_⟩;rw[if_neg (by decide)];have il:=a1c a (Str.ofString " ");refine⟨60,rfl,by decide,λd H1 s1 f1 e1=>⟨a,_,rfl,by decide,B4 ∅,λw H2 s2 f2 e2=>⟨w,rfl,⟨_,SqL.of e2⟩,λl nl=>?_⟩⟩⟩;refine P1 (K:=K) (xs:=(C3 a (Str.ofString " ")).map V.str) (a9x H2 l d (C3 a (Str.ofString " "))) ⟨none,[],rfl,(B1.refl H2).upd nl,A2,rfl,λj b w h=>by cases h⟩ ?_ ?_ ?_
  ·rintro i τ Hc _ ⟨_,_,rfl,sc,_⟩;exact sc.seq (SqL.of e2)
  ·rintro i v τ Hc hv ⟨c,as,rfl,sc,hc,hr⟩ _;rw[aJ] at hv;obtain⟨x,hx,rfl⟩:=bR.mp hv;have xl:=a6p (aU hx);walk_at "rd";refine⟨by first | exact rfl | exact trivial | constructor,x,rfl,Str.ofString "-",rfl,by decide,B4 ∅,λt nt=>?_⟩;have sl:=W6 x (Str.ofString "-");have s4:=(B1.refl Hc).upd (o:=.lst ((Txt.split x (Str.ofString "-")).map V.str)) nt;refine⟨t,d,_,60,rfl,SqL.of A2,s4 _ _ (sc _ _ (s2 _ _ e1)),∅,λu H5 s5 f5 e5=>?_⟩;have s45:=s4.trans s5;have tl:=List.length_take_le i (C3 a (Str.ofString " "));have hcl:=s45 _ _ hc;refine⟨as.map V.ref,hcl,by rw[aa,hr.1];exact B4 (by rw[bq];omega),_,as++[u],rfl,(sc.trans s45).upd nl,by rw[A2,aF];rfl,?_⟩;rw[cw,hx];refine RwT.snoc (hr.mono λb o hb e=>?_) ?_
   ·have hbl:b≠l:=by
     rintro rfl;obtain⟨w',_,ew⟩:=hr.get hb;rw[hc] at ew;cases ew
    rw[A7 hbl];exact s45 _ _ e
   ·have hul:u≠l:=by
     rintro rfl;rw[hcl] at e5;cases e5
    rw[A7 hul];exact e5
  ·rintro τ Hc ⟨c,as,rfl,sc,hc,hr⟩;rw[aa,ci] at hr;refine⟨as.map V.ref,.inl ⟨SqL.of hc,λp np=>?_⟩⟩;have s6:=(B1.refl Hc).upd (o:=.tup (as.map V.ref)) np;have hr6:=hr.mono (H':=upd Hc p (.tup (as.map V.ref))) λb o _ e=>s6 _ _ e
   have s12:=(s1.trans s2).trans sc;have hd:PlD (upd Hc p (.tup (as.map V.ref))) 2 (.ref p):=by
    refine⟨⟨_,.tup A2⟩,λa' ys e ea z hz=>?_⟩;cases e;rw[A2] at ea;cases ea;obtain⟨b,hb,rfl⟩:=aQ.mp hz;obtain⟨w',_,ew⟩:=hr6.get hb;refine⟨⟨_,.tup ew⟩,λa2 ys2 e2 ea2 z2 hz2=>?_⟩;cases e2;rw[ew] at ea2;cases ea2;obtain⟨y,_,rfl⟩:=aQ.mp hz2;rcases a1A (m:=60) (by decide) y with e | ⟨i,_,_,e⟩
    ·rw[e];exact⟨_,.non⟩
    ·rw[e];exact⟨_,.int _⟩
   refine⟨.ref p, "tuple",60,rfl,.tup A2,hd,λa' xs e ea=>?_,λb hb=>⟨b,rfl,?_⟩⟩
   ·cases e;rw[A2] at ea;cases ea;rw[aa,hr.1];omega
   ·have q:=q p _ as (s12.trans s6) (s12.free np) A2 hr6;cases b
    ·rw[if_pos (by decide)];exact q.2 λh=>by cases hb.mpr h
    ·rw[if_neg (by decide)];exact q.1 (hb.mp rfl)
theorem a0v {k:Nat}(h:k<128):k.log2<1920:=by
 by_cases h0:k=0
 ·rw[h0];decide
 ·exact (i0 h0).mpr (cW h (aS (by decide:128<2 ^ 8) (iP (by decide) (by decide))))
def U0 (K:ae):Sp:=λvs H Q _=>∃(w:Str) (m:Nat),vs=[.str w,.int m]/\m<100/\(∀ i:Nat,i<=m->w=tS i->Q (.int i) H)/\((∀ i:Nat,i<=m->w≠tS i)->Q (.int (-1)) H)
def a9A (H:Hp)(w:Str)(m:Nat)(i:Nat)(τ:St)(Hc:Hp):Prop:=∃ c:Option V,τ=[some (.str w),some (.int m),c]/\Hc=H/\∀ j:Nat,j<i->w≠tS j
theorem a0n:B9 ["_law_word","_law_most","_law_number_here"] ["_law_word","_law_most"] (A9 (top 30)):=by walk_at "s"
theorem a3m (F:Fun K "_law_number" "_law_number" (top 30) f fd)(B:Bt mg)(C5:Bt5 mg):B8 P w K mg base CX0 1 f fd ["_law_word","_law_most"] (U0 K):=by
 refine F.ok a0n (λvs H Q E h=>?_) (λcdv A outer s H vs Q E hr h=>?_)
 ·walk_at "h"
 ·obtain⟨w,m,rfl,hm,q1,q2⟩:=h;have nd:=a0n.nd;have hu:=K0 hr
  refine⟨_,(A3 (Q3 cc rfl (P4 (by rfl) B.range (A0 (A8 L9 (pv 1) A4) A1)) (C9 (i:=2) nd rfl (.inl rfl))
     (A5 (J9 (K1 T5 (pv 0) (E2 K3 (by rfl) C5.str eU (A0 (pv 2) A1)) (E9 _))
      (A5 (B2 (pv 2)))
      E1)))
    (A5 (B2 (a8h a5f A4)))),?_⟩
  walk_at "rd";rw[T0];walk_at "rd";refine⟨∅,∅,P5 (lo:=0) (n:=((m:Int)+1).toNat) (a9A H w m) ⟨none,rfl,rfl,λj h=>∅⟩ ?_ ?_⟩
  ·rintro i τ Hc hi ⟨c,rfl,rfl,hn⟩;walk_at "rd";have e0:(0+(i:Int))=(i:Int):=iN _;rw[e0];refine⟨a0v ∅,?_⟩;by_cases h:w=tS i
   ·rw[if_pos (by rw[h];exact decide_eq_true rfl)];exact q1 i ∅ h
   ·rw[if_neg (by rw[decide_eq_true_iff];exact λe=>h (V.str.inj e))]
    exact⟨_,rfl,rfl,λj hj=>by
     rcases bI j i with c | c
     ·exact hn j c
     ·rw[show j=i by omega];exact h⟩
  ·rintro τ Hc ⟨c,rfl,rfl,hn⟩;walk_at "rd";exact q2 λi hi=>hn i ∅
def nI (w:Str):Int:=match nOf 60 w with | .int i=>i | _=>-1
theorem V8 (w:Str):(nOf 60 w=.non/\nI w=-1/\∀ i:Nat,i<=59->w≠tS i)\/∃ i:Nat,i<=59/\w=tS i/\nOf 60 w=.int i/\nI w=i:=by
 rcases a1A (m:=60) (by decide) w with h | ⟨i,hi,e,h⟩
 ·refine .inl ⟨h,by unfold nI;rw[h],λi hi e=>?_⟩;have:=(a1B (m:=60) (by decide) (w:=w) (v:=.int i)).mpr ⟨i,∅,e,rfl⟩;unfold nOf at h;rw[this] at h;cases h
 ·exact .inr ⟨i,∅,e,h,by unfold nI;rw[h]⟩
theorem a3p:∀(ws:List Str),(∀ x∈ws.map nI,0<=x)->ws.map (nOf 60)=(ws.map nI).map V.int
 | [],_=>rfl
 | w::ws,h=>by
  have r:=a3p ws λx hx=>h x (aq _ hx)
  have h0:=h (nI w) aD;rcases V8 w with ⟨_,e,_⟩ | ⟨i,_,_,e1,e2⟩
  ·omega
  ·rw[am,am,am,r,e1,e2]
theorem a1C {ws:List Str}{ks:List Int}(h:ws.map (nOf 60)=ks.map V.int):ks=ws.map nI:=by
 induction ws generalizing ks with
 | nil=>cases ks with
  | nil=>rfl
  | cons k ks=>cases h
 | cons w ws ih=>cases ks with
  | nil=>cases h
  | cons k ks =>
   have h:=cA h;rw[am,<- ih h.2];rcases V8 w with ⟨e,_,_⟩ | ⟨i,_,_,e1,e2⟩
   ·have:=h.1.symm.trans e;cases this
   ·have:=h.1.symm.trans e1;rw[V.int.inj this,e2]
theorem a6g {ws:List Str}{ks:List Int}(h:ws.map (nOf 60)=ks.map V.int):∀ x∈ws.map nI,0<=x:=by
 intro x hx;obtain⟨w,hw,rfl⟩:=aQ.mp hx;rcases V8 w with ⟨e,_,_⟩ | ⟨i,_,_,_,e2⟩
 ·have:V.non∈ks.map V.int:=by rw[<- h,<- e];exact fS hw
  obtain⟨k,_,e⟩:=aQ.mp this;cases e
 ·omega
theorem a5y (a b:Str):Txt.split a b≠[]:=by
 unfold Txt.split;split
 ·simp
 ·split
  ·simp
  ·intro e;have:=gt a (PySem.Builtin.Str.occurrences a b 0 a.length (a.length+1)) b.length;rw[e] at this;simp at this
def T9 (K:ae):Sp:=λvs H Q _=>∃(a:Str),vs=[.str a]/\a.length<=90000/\(C3 a (Str.ofString ",")).length<300 /\
 (∀ H',B1 H H'->(∀ ks:List Int,(C3 a (Str.ofString ",")).map (nOf 60)=ks.map V.int->¬ ks.Pairwise (·<·))->Q .non H') /\
 ∀ p H' (ks:List Int),B1 H H'->H p=none->H' p=some (.tup (ks.map V.int))->(C3 a (Str.ofString ",")).map (nOf 60)=ks.map V.int->ks.Pairwise (·<·)->Q (.ref p) H'
def a6t (Hb:Hp)(l:Addr)(ws:List Str)(i:Nat)(τ:St)(Hc:Hp):Prop:=∃ c:Option V,τ=[c]/\B1 Hb Hc/\Hc l=some (.lst (((ws.take i).map nI).map V.int))
theorem a0m:B9 ["_law_text","_law_found"] ["_law_text"] (A9 (top 32)):=by walk_at "s"
theorem a3l (F:Fun K "_law_places" "_law_places" (top 32) f fd)(B:Bt mg)(D1:Df K mg "_law_number" st1 f1 fd1 ["_law_word","_law_most"])(G1:B8 P w K mg base CX0 1 f1 fd1 ["_law_word","_law_most"] (U0 K))(C:Bt2 mg):B8 P w K mg base CX0 2 f fd ["_law_text"] (T9 K):=by
 refine F.ok a0m (λvs H Q E h=>?_) (λcdv A outer s H vs Q E hr h=>?_)
 ·walk_at "h"
 ·obtain⟨a,rfl,hl,hi,q1,q2⟩:=h;have nd:=a0m.nd;have hu:=K0 hr
  refine⟨_,(A3 (J9 (K1 T5 (pv 0) B0 (E9 _))
     (A5 (B2 (X9 A1)))
     E1)
    (A3 (S4 (i:=1) (own:=["_law_word"]) (fr:=[]) rfl nd rfl rfl (by walk_at "w") (by walk_at "w") K5 (K4 K (U9 K (pv 0) (A0 B0 A1))) ⟨λ_ _ _ _=>⟨(C9 (i:=0) (show cD (["_law_word"]:List Str) by decide +kernel) rfl (.inl rfl)),M7,(C1 G1 D1 hr.m (A0 (pv 0) (A0 A4 A1)))⟩⟩)
    (A3 (J9 (PW.pt (a2s (K1 a4d (B5 (b1C K hr.hd) (by rfl) B.min boot_min (A0 (pv 1) A1)) A4 (E9 _)) (a1u (K1 (b0I K hr.units) (pv 1) (a0q K hr.hd (by rfl) B.sorted jk (by rfl) C.set boot_set (A0 (pv 1) A1)) (E9 _)))))
     (A5 (B2 R4))
     E1)
    (A5 (B2 (E2 (T6 K) (by rfl) B.tuple dJ (A0 (pv 1) A1))))))),?_⟩
  walk_at "rd";by_cases h0:a=Str.ofString ""
  ·rw[if_pos (by rw[h0];exact decide_eq_true rfl)];refine⟨by decide,λp np=>q2 p _ [] ((B1.refl H).upd np) np A2 (by unfold C3;rw[if_pos h0];rfl) .nil⟩
  rw[if_neg (by rw[decide_eq_true_iff];exact λe=>h0 (V.str.inj e))];have ei:C3 a (Str.ofString ",")=Txt.split a (Str.ofString ","):=by unfold C3;rw[if_neg h0]
  rw[ei] at q1 q2 hi;refine⟨by first | exact rfl | exact trivial | constructor,a,rfl,_,rfl,by decide,B4 ∅,λw nw=>⟨⟨_,SqL.of A2⟩,λl nl=>?_⟩⟩;have hne:=a5y a (Str.ofString ",");generalize ew:Txt.split a (Str.ofString ",")=ws at *
  generalize eH:upd H w (.lst (ws.map V.str))=H2 at *
  have s2:B1 H H2:=by rw[<- eH];exact (B1.refl H).upd nw
  have e2:H2 w=some (.lst (ws.map V.str)):=by rw[<- eH];exact A2
  refine P1 (K:=K) (xs:=ws.map V.str) (a6t H2 l ws) ⟨none,rfl,(B1.refl H2).upd nl,A2⟩ ?_ ?_ ?_
  ·rintro i τ Hc _ ⟨_,rfl,sc,_⟩;exact sc.seq (SqL.of e2)
  ·rintro i v τ Hc hv ⟨c,rfl,sc,hc⟩ _;rw[aJ] at hv;obtain⟨x,hx,rfl⟩:=bR.mp hv;walk_at "rd";have fin:∀ k:Int,nI x=k->∃ ys,Hc l=some (.lst ys)/\ys.length<sizeLine/\a6t H2 l ws (i+1) [some (.str x)] (upd Hc l (.lst (ys++[.int k]))):=λk hk =>
    ⟨_,hc,by rw[aa,aa,bq];exact B4 ∅,_,rfl,sc.upd nl,by rw[A2,cw,hx,<- hk];simp⟩
   refine⟨x,59,rfl,by decide,λj hj e=>fin j ?_,λhn=>fin (-1) ?_⟩
   ·rcases V8 x with ⟨_,_,n⟩ | ⟨i',hi',e',_,e2⟩
    ·exact absurd e (n j hj)
    ·rw[e2,a2Z i' j ∅ ∅ (e'.symm.trans e)]
   ·rcases V8 x with ⟨_,n,_⟩ | ⟨i',hi',e',_,e2⟩
    ·exact n
    ·exact absurd e' (hn i' hi')
  ·rintro τ Hc ⟨c,rfl,sc,hc⟩;rw[aa,ci] at hc;refine⟨ws.map nI,SqL.of hc,λe=>hne (iQ.mp e),λm hm hmin=>?_⟩;by_cases hm0:m<0
   ·rw[if_pos (decide_eq_true hm0)];exact q1 Hc (s2.trans sc) λks hk _=>absurd (a6g hk m hm) ∅
   ·rw[if_neg (by rw[decide_eq_true_iff];exact hm0)];have hk:=a3p ws λx hx=>by have:=hmin x hx;omega
    refine⟨ws.map nI,.inl (SqL.of hc),by rw[aa];exact hi,λns' p hpw hmem np=>?_⟩;have s3:=(B1.refl Hc).upd (o:=.lst (ns'.map V.int)) np;refine b1B (SqL.of (s3 _ _ hc)) (SqL.of A2) ⟨_,rfl,?_⟩;by_cases e:ws.map nI=ns'
    ·rw[if_neg (by simp[e])];refine⟨_,.inl ⟨SqL.of (s3 _ _ hc),λt nt=>?_⟩⟩;have s4:=(s2.trans sc).trans s3;exact q2 t _ (ws.map nI) (s4.upd (s4.free nt)) (s4.free nt) A2 hk (by rw[e];exact hpw)
    ·rw[if_pos (by simp[e])];exact q1 _ ((s2.trans sc).trans s3) λks hk2 hp=>e (a3e (by rw[<- a1C hk2];exact hp) hpw λx=>(hmem x).symm)
def TtS (ws:List Str)(us:⋯):Prop:=ws.map S1=us.map (λt=>[V.int t.1,V.int t.2])/\a1Q 60 us/\us.Pairwise Lex
def a3H (w:Str)(t:Int×Int):Prop:=S1 w=[V.int t.1,V.int t.2]/\0<=t.1/\t.1<t.2/\t.2<60
theorem a5m:∀ {a b:⋯},a.map tl=b.map tl->a=b
 | [],[],_=>rfl
 | [],_::_,h=>by cases h
 | _::_,[],h=>by cases h
 | x::a,y::b,h=>by
  have h:=cA h;have h1:=h.1;unfold tl at h1;injection h1 with h1 h2
  injection h2 with h2
  rw[Prod.ext h1 h2,a5m h.2]
theorem b0H {K:ae}{H:Hp}{a b:Addr}{ps ps':List (Addr×List Int)}{ts ts':⋯}{Q:VK}(h1:H a=some (.lst (ps.map λx=>V.ref x.1)))(p1:K7 H ps ts)(h2:H b=some (.lst (ps'.map λx=>V.ref x.1)))(p2:K7 H ps' ts')(q:Q (.bl (!decide (ts=ts'))) H):a7k K true (.ref a) (.ref b) H Q:=by
 have d1:Dt K H (.ref a) (.list ((ts.map tl).map tI)):=.lst (SqL.of h1) (by rw[<- p1.eq];exact Dts.tups λx hx=>SqT.of (p1.to x hx));have d2:Dt K H (.ref b) (.list ((ts'.map tl).map tI)):=.lst (SqL.of h2) (by rw[<- p2.eq];exact Dts.tups λx hx=>SqT.of (p2.to x hx));have sh:∀ us:⋯,SeqAt.shaped (.list ((us.map tl).map tI))=true:=λus=>by
  unfold SeqAt.shaped;rw[PyData.canLay0,PyData.depth,a1g];have:=a2M (us.map tl);rw[eY,decide_eq_true_iff];omega
 refine⟨_,_,d1,d2,sh _,sh _,?_⟩;have e:PyData.eqv (.list ((ts.map tl).map tI)) (.list ((ts'.map tl).map tI))=decide (ts=ts'):=by
  rw[PyData.eqv,a6E];by_cases h:ts=ts'
  ·rw[h,decide_eq_true rfl,decide_eq_true rfl]
  ·rw[decide_eq_false h,decide_eq_false λe=>h (a5m e)]
 rw[e];exact q
theorem a4i {us vs:⋯}(h1:us.Pairwise Lex)(h2:vs.Pairwise Lex)(h:∀ t,t∈us↔t∈vs):us=vs:=by
 have irr:∀ a:Int×Int,¬ Lex a a:=λa h=>by unfold Lex at h;omega
 have nd:∀ {l:⋯},l.Pairwise Lex->l.Nodup:=λhl=>hl.imp (S:=λa b=>a≠b) λ{a b} h e=>irr a (by rw[<- e] at h;exact h)
 exact ((dZ (nd h1) (nd h2)).mpr h).eq_of_pairwise (le:=Lex) (λa b _ _ ha hb=>by unfold Lex at ha hb;exact absurd ha ∅) h1 h2
theorem TtS.one {ws:List Str}{us:⋯}(h:ws.map S1=us.map (λt=>[V.int t.1,V.int t.2]))(hok:a1Q 60 us){w:Str}(hw:w∈ws):∃ t∈us,a3H w t:=by
 have:S1 w∈us.map (λt=>[V.int t.1,V.int t.2]):=by rw[<- h];exact fS hw
 obtain⟨t,ht,e⟩:=aQ.mp this;exact⟨t,ht,e.symm,hok t ht⟩
theorem a0b {w:Str}{t:Int×Int}:a3H w t↔(Txt.split w (Str.ofString "-")).map nI=[t.1,t.2]/\0<=t.1/\t.1<t.2:=by
 unfold a3H S1;constructor
 ·rintro⟨h,h0,h1,_⟩;exact⟨(a1C (ks:=[t.1,t.2]) h).symm,h0,h1⟩
 ·rintro⟨h,h0,h1⟩;have hp:∀ x∈(Txt.split w (Str.ofString "-")).map nI,0<=x:=by
   rw[h];intro x hx;simp only[aO,dF,or_false] at hx;omega
  refine⟨(a3p _ hp).trans (by rw[h];rfl),h0,h1,?_⟩;have hm:t.2∈(Txt.split w (Str.ofString "-")).map nI:=by rw[h];simp
  obtain⟨y,_,e⟩:=aQ.mp hm;rcases V8 y with ⟨_,e2,_⟩ | ⟨i,hi,_,_,e2⟩<;>omega
theorem a6X {ws:List Str}{us:⋯}(hl:us.length=ws.length)(h:∀(j:Nat) w t,ws[j]?=some w->us[j]?=some t->a3H w t):ws.map S1=us.map (λt=>[V.int t.1,V.int t.2])/\a1Q 60 us:=by
 refine⟨List.ext_getElem (by simp[hl]) λj h1 h2=>?_,λt ht=>?_⟩
 ·rw[aa] at h1 h2;rw[fh,fh];exact (h j ws[j] us[j] (ak h1) (ak h2)).1
 ·obtain⟨j,hj⟩:=bN.mp ht;have h1:=(aK.mp hj).1;exact (h j (ws[j]'∅) t (ak ∅) hj).2
theorem U8 {ws:List Str}{us vs:⋯}(h:ws.map S1=us.map (λt=>[V.int t.1,V.int t.2]))(h':ws.map S1=vs.map (λt=>[V.int t.1,V.int t.2])):us=vs:=by
 have e:=h.symm.trans h';clear h h';induction us generalizing vs with
 | nil=>cases vs with
  | nil=>rfl
  | cons v vs=>cases e
 | cons u us ih=>cases vs with
  | nil=>cases e
  | cons v vs =>
   have e:=cA e;have e1:=e.1;injection e1 with a b
   injection b with b
   rw[ih e.2,Prod.ext (V.int.inj a) (V.int.inj b)]
def T8 (K:ae):Sp:=λvs H Q _=>∃(a:Str),vs=[.str a]/\a.length<=90000/\(C3 a (Str.ofString " ")).length<300 /\
 (∀ H',B1 H H'->(∀ us,¬ TtS (C3 a (Str.ofString " ")) us)->Q .non H') /\
 ∀ p H' us,B1 H H'->H p=none->a0a H' p us->TtS (C3 a (Str.ofString " ")) us->Q (.ref p) H'
def a6s (Hb:Hp)(a:Str)(w l:Addr)(ws:List Str)(i:Nat)(σ:St)(Hc:Hp):Prop:=∃(b c:Option V) (ps:List (Addr×List Int)) (us:⋯),σ=[some (.str a),some (.ref l),b,c]/\B1 Hb Hc/\Hc w=some (.lst (ws.map V.str))/\Hc l=some (.lst (ps.map λx=>V.ref x.1))/\K7 Hc ps us/\us.length=i/\∀(j:Nat) w t,ws[j]?=some w->us[j]?=some t->a3H w t
def a1e (Hb:Hp)(l:Addr)(ws:List Str)(i:Nat)(τ:St)(Hc:Hp):Prop:=∃ c:Option V,τ=[c]/\B1 Hb Hc/\Hc l=some (.lst (((ws.take i).map nI).map V.int))
theorem a0l:B9 ["_law_text","_law_found","_law_word","_law_parts"] ["_law_text"] (A9 (top 33)):=by walk_at "s"
theorem a3k (F:Fun K "_law_ties" "_law_ties" (top 33) f fd)(B:Bt mg)(D1:Df K mg "_law_number" st1 f1 fd1 ["_law_word","_law_most"])(G1:B8 P w K mg base CX0 1 f1 fd1 ["_law_word","_law_most"] (U0 K))(C:Bt2 mg):B8 P w K mg base CX0 2 f fd ["_law_text"] (T8 K):=by
 refine F.ok a0l (λvs H Q E h=>?_) (λcdv A outer s H vs Q E hr h=>?_)
 ·walk_at "h"
 ·obtain⟨a,rfl,hl,hi,q1,q2⟩:=h;have nd:=a0l.nd;have hu:=K0 hr
  refine⟨_,(A3 (E4 (i:=1) nd rfl (.inl rfl) (K2 A1))
    (A3 (J9 (K1 T5 (pv 0) B0 (E9 _))
     (A5 (B2 (X9 A1)))
     E1)
    (A3 (Q3 cc rfl (K4 K (U9 K (pv 0) (A0 B0 A1))) (C9 (i:=2) nd rfl (.inl rfl))
     (A3 (S4 (i:=3) (own:=["_law_part"]) (fr:=[]) rfl nd rfl rfl (by walk_at "w") (by walk_at "w") K5 (K4 K (U9 K (pv 2) (A0 B0 A1))) ⟨λ_ _ _ _=>⟨(C9 (i:=0) (show cD (["_law_part"]:List Str) by decide +kernel) rfl (.inl rfl)),M7,(C1 G1 D1 hr.m (A0 (pv 0) (A0 A4 A1)))⟩⟩)
     (A3 (J9 (PW.pt (a2s (K1 a8k (B5 (a1E K) (by rfl) B.len cq (A0 (pv 3) A1)) A4 (E9 _)) (a1u (M9 (a5F a5Q a4d A4 (Q0 (N8 K) (pv 3) A4 (λ_ _=>rfl)) (Q0 (N8 K) (pv 3) A4 (λ_ _=>rfl)))))))
      (A5 (B2 R4))
      E1)
     (A5 (R3 (T4 K (pv 1) (A0 (E2 (T6 K) (by rfl) B.tuple dJ (A0 (pv 3) A1)) A1)))))))
    (A3 (J9 (K1 (b0I K hr.units) (pv 1) (a2t K hr.hd hr.units (by rfl) B.sorted jk (by rfl) C.set boot_set (A0 (pv 1) A1)) (E9 _))
     (A5 (B2 R4))
     E1)
    (A5 (B2 (E2 (T6 K) (by rfl) B.tuple dJ (A0 (pv 1) A1)))))))),?_⟩
  walk_at "rd";refine⟨by decide,λl nl=>?_⟩;by_cases h0:a=Str.ofString ""
  ·rw[if_pos (by rw[h0];exact decide_eq_true rfl)];have e0:C3 a (Str.ofString " ")=[]:=by unfold C3;rw[if_pos h0]
   refine⟨by decide,λp np=>?_⟩;have s1:=(B1.refl H).upd (o:=.lst []) nl;refine q2 p _ [] (s1.upd (s1.free np)) (s1.free np) ⟨[],A2,⟨λx hx=>(by cases hx),rfl⟩⟩ (by rw[e0];exact⟨rfl,λt ht=>(by cases ht),.nil⟩)
  rw[if_neg (by rw[decide_eq_true_iff];exact λe=>h0 (V.str.inj e))];have ei:C3 a (Str.ofString " ")=Txt.split a (Str.ofString " "):=by unfold C3;rw[if_neg h0]
  have hmem:∀ x∈Txt.split a (Str.ofString " "),x.length<=a.length:=λx hx=>a2b hx
  rw[ei] at q1 q2 hi;have s1:=(B1.refl H).upd (o:=.lst []) nl;rw[T0];walk_at "rd";refine⟨by first | exact rfl | exact trivial | constructor,a,rfl,Str.ofString " ",rfl,by decide,B4 ∅,λw nw=>⟨⟨_,SqL.of A2⟩,?_⟩⟩;generalize ew:Txt.split a (Str.ofString " ")=ws at *
  generalize eH:upd (upd H l (.lst [])) w (.lst (ws.map V.str))=H2 at *
  have s12:B1 (upd H l (.lst [])) H2:=by rw[<- eH];exact (B1.refl _).upd nw
  have s2:B1 H H2:=s1.trans s12;have e2:H2 w=some (.lst (ws.map V.str)):=by rw[<- eH];exact A2
  have el:H2 l=some (.lst []):=s12 _ _ A2;have hwl:w≠l:=by rintro rfl;rw[A2] at nw;cases nw
  refine a0A (K:=K) (xs:=ws.map V.str) (a6s H a w l ws) ⟨none,none,[],[],rfl,s2,e2,el,⟨λx hx=>(by cases hx),rfl⟩,rfl,λj w' t h1 h2=>(by cases h2)⟩ ?_ ?_ ?_
  ·rintro i σ Hc _ ⟨_,_,_,_,rfl,_,hw,_⟩;exact SqL.of hw
  ·rintro i v σ Hc hv ⟨b,c,ps,us,rfl,sc,hw,hc,hps,hul,hti⟩;rw[aJ] at hv;obtain⟨x,hx,rfl⟩:=bR.mp hv;have xl:=hmem x (aU hx);have hil:=(aK.mp hx).1;walk_at "rd";refine⟨by first | exact rfl | exact trivial | constructor,x,rfl,Str.ofString "-",rfl,by decide,B4 ∅,λt nt=>⟨⟨_,SqL.of A2⟩,λl2 nl2=>?_⟩⟩;have sl:=W6 x (Str.ofString "-");generalize ev:Txt.split x (Str.ofString "-")=vs at *
   generalize eH3:upd Hc t (.lst (vs.map V.str))=H3 at *
   have s3:B1 Hc H3:=by rw[<- eH3];exact (B1.refl Hc).upd nt
   have e3:H3 t=some (.lst (vs.map V.str)):=by rw[<- eH3];exact A2
   refine P1 (K:=K) (xs:=vs.map V.str) (a1e H3 l2 vs) ⟨none,rfl,(B1.refl H3).upd nl2,A2⟩ ?_ ?_ ?_
   ·rintro j τ Hd _ ⟨_,rfl,sd,_⟩;exact sd.seq (SqL.of e3)
   ·rintro j v τ Hd hv ⟨c,rfl,sd,hd⟩ _;rw[aJ] at hv;obtain⟨y,hy,rfl⟩:=bR.mp hv;walk_at "rd";have hjl:=(aK.mp hy).1;have fin:∀ k:Int,nI y=k->∃ ys,Hd l2=some (.lst ys)/\ys.length<sizeLine/\a1e H3 l2 vs (j+1) [some (.str y)] (upd Hd l2 (.lst (ys++[.int k]))):=λk hk =>
     ⟨_,hd,by rw[aa,aa,bq];exact B4 ∅,_,rfl,sd.upd nl2,by rw[A2,cw,hy,<- hk];simp⟩
    refine⟨y,59,rfl,by decide,λj hj e=>fin j ?_,λhn=>fin (-1) ?_⟩
    ·rcases V8 y with ⟨_,_,n⟩ | ⟨i',hi',e',_,e2⟩
     ·exact absurd e (n j hj)
     ·rw[e2,a2Z i' j ∅ ∅ (e'.symm.trans e)]
    ·rcases V8 y with ⟨_,n,_⟩ | ⟨i',hi',e',_,e2⟩
     ·exact n
     ·exact absurd e' (hn i' hi')
   ·rintro τ Hd ⟨c',rfl,sd,hd⟩;rw[aa,ci] at hd;have s4:=s3.trans sd;have no:(¬ ∃ t,a3H x t)->Q .non Hd:=λh=>q1 Hd (sc.trans s4) λus' hu=>by
     obtain⟨t',_,ht'⟩:=TtS.one hu.1 hu.2.1 (aU hx);exact h ⟨t',ht'⟩
    refine⟨_,.inl (SqL.of hd),?_⟩;rw[aa,aa];by_cases h2:vs.length=2
    rotate_left
    ·rw[if_pos (by simpa using λe:((vs.length:Int)=2)=>h2 ∅)]
     exact no λ⟨t',ht'⟩=>h2 (by
      have:=(a0b.mp ht').1;rw[ev] at this;have:=congrArg cz this
      simpa using this)
    rw[if_neg (by rw[h2];decide)];obtain⟨y0,y1,rfl⟩:∃ y0 y1,vs=[y0,y1]:=by
     match vs,h2 with
     | [y0,y1],_=>exact⟨y0,y1,rfl⟩
    refine⟨_,SqL.of hd,_,rfl,nI y0,rfl,?_⟩;by_cases h0':0<=nI y0
    rotate_left
    ·rw[if_neg (by rw[decide_eq_true_iff];exact h0')];exact no λ⟨t',ht'⟩=>by
      obtain⟨a1,a2,_⟩:=a0b.mp ht';rw[ev] at a1;injection a1 with a1 _
      omega
    rw[if_pos (decide_eq_true h0')];refine⟨_,SqL.of hd,_,rfl,_,rfl,nI y1,rfl,?_⟩;by_cases h1':nI y0<nI y1
    rotate_left
    ·rw[if_pos (~~~h1')];exact no λ⟨t',ht'⟩=>by
      obtain⟨a1,a2,a3⟩:=a0b.mp ht';rw[ev] at a1;injection a1 with a1 b1
      injection b1 with b1 _
      omega
    rw[if_neg (~~~h1')];have hT:a3H x (nI y0,nI y1):=a0b.mpr ⟨by rw[ev];rfl,h0',h1'⟩;refine⟨.inl ⟨rfl,_,SqL.of (s4 _ _ hc)⟩,_,.inl ⟨SqL.of hd,λp np=>⟨_,(A7 (λe=>by rw[<- e,s4 _ _ hc] at np;cases np)).trans (s4 _ _ hc),?_,?_⟩⟩⟩
    ·rw[aa,hps.len,hul];exact B4 ∅
    have s5:=(B1.refl Hd).upd (o:=.tup [.int (nI y0),.int (nI y1)]) np;have s45:=s4.trans s5;refine⟨_,_,ps++[(p,tl (nI y0,nI y1))],us++[(nI y0,nI y1)],rfl,(sc.trans s45).upd nl,(A7 hwl).trans (s45 _ _ hw),by rw[A2,aF];rfl,?_,by rw[aB,hul];rfl,?_⟩
    ·refine (hps.tp (s45.tp.trans (Tp.lst (s45 _ _ hc)))).snoc ?_;have hpl:p≠l:=λe=>by rw[e,s4 _ _ hc] at np;cases np
     rw[A7 hpl,A2]
    ·intro j w' t' h1 h2;rcases bI j us.length with hj | hj
     ·rw[bF hj] at h2;exact hti j w' t' h1 h2
     ·rw[bD hj] at h2;cases hk:j-us.length with
      | zero =>
       rw[hk] at h2;cases h2;rw[show j=i by omega,hx] at h1;cases h1;exact hT
      | succ k=>rw[hk] at h2;cases h2
  ·rintro σ Hc ⟨b,c,ps,us,rfl,sc,hw,hc,hps,hul,hti⟩;rw[aa] at hul;obtain⟨he,hok⟩:=a6X hul hti;walk_at "rd";refine⟨ps,.inl (SqL.of hc),us,hps,λt ht=>by have:=hok t ht;omega,∅,λps' ts' p hps' hlx hmem np=>?_⟩;have s3:=(B1.refl Hc).upd (o:=.lst (ps'.map λx=>V.ref x.1)) np;refine b0H (s3 _ _ hc) (hps.tp s3.tp) A2 (hps'.tp s3.tp) ⟨_,rfl,?_⟩;by_cases e:us=ts'
   ·rw[if_neg (by simp[e])];refine⟨_,.inl ⟨SqL.of (s3 _ _ hc),λt nt=>?_⟩⟩;have s4:=(sc.trans s3)
    exact q2 t _ us (s4.upd (s4.free nt)) (s4.free nt) ⟨ps,A2,hps.tp (s3.trans ((B1.refl _).upd nt)).tp⟩ ⟨he,hok,by rw[e];exact hlx⟩
   ·rw[if_pos (by simp[e])]
    exact q1 _ (sc.trans s3) λus' hu=>e (by
     have:=U8 he hu.1;subst this
     exact a4i hu.2.2 hlx λt=>(hmem t).symm)
def Y6 (K:ae):Sp:=λvs H Q _=>∃(d:Addr) (b:Bool),vs=[.ref d,.bl b]/\N3 H d /\
 ∀(p:Addr) (ws:List Str) H',Kp d H H'->N3 H' d->H p=none->H' p=some (.lst (ws.map V.str))->ws.length<=8->(∀ w∈ws,Gt 5 0 w)->Q (.ref p) H'
def a7G (Hb:Hp)(d p:Addr)(i:Nat)(τ:St)(Hc:Hp):Prop:=∃(c:Option V) (ns:List Int),τ=[c,some (.ref d)]/\Kp d Hb Hc/\N3 Hc d/\Hc p=some (.lst (ns.map V.int))/\ns.length=i/\∀ x∈ns,0<=x/\x<60
def a7F (Hb:Hp)(d l lp:Addr)(b:Bool)(ms:List Int)(i:Nat)(σ:St)(Hc:Hp):Prop:=∃(c:Option V) (ps:List (Addr×List Int)) (us:⋯),σ=[some (.ref d),some (.bl b),some (.ref l),c,some (.ref lp)]/\Kp d Hb Hc/\N3 Hc d/\Hc l=some (.lst (ms.map V.int))/\Hc lp=some (.lst (ps.map λx=>V.ref x.1))/\K7 Hc ps us/\us.length=i/\∀ t∈us,0<=t.1/\t.1<60/\0<=t.2/\t.2<100
def a7E (Hb:Hp)(p:Addr)(i:Nat)(τ:St)(Hc:Hp):Prop:=∃(c c':Option V) (ws:List Str),τ=[c,c']/\B1 Hb Hc/\Hc p=some (.lst (ws.map V.str))/\ws.length<=i/\∀ w∈ws,Gt 5 0 w
theorem a5x {us l:List Int}(hn:us.Nodup)(hs:∀ x∈us,x∈l):us.length<=l.length:=by
 induction us generalizing l with
 | nil=>exact bn _
 | cons x r ih =>
  have hx:x∈l:=hs x aD;have hn':=ce.mp hn;have:=ih (l:=l.erase x) hn'.2 λy hy=>(fL (λ(e:y=x)=>hn'.1 (by rw[<- e];exact hy))).mpr (hs y (aq _ hy))
  rw[eN hx] at this;have:=fu hx;rw[az];omega
theorem V9 {x:Int}(h0:0<=x)(h1:x<100):x.natAbs.log2<1920:=a0v ∅
theorem Z4:B9 ["_law_deck_here","_law_is_tree","_law_numbers","_law_number_here","_law_pairs"] ["_law_deck_here","_law_is_tree"] (A9 (top 34)):=by walk_at "s"
theorem a2y (F:Fun K "_law_words" "_law_words" (top 34) f fd)(B:Bt mg)(D1:Df K mg "_law_next" st1 f1 fd1 ["_law_deck_here"])(G1:B8 P w K mg base CX0 1 f1 fd1 ["_law_deck_here"] T2)(C:Bt2 mg)(C5:Bt5 mg):B8 P w K mg base CX0 2 f fd ["_law_deck_here","_law_is_tree"] (Y6 K):=by
 refine F.ok Z4 (λvs H Q E h=>?_) (λcdv A outer s H vs Q E hr h=>?_)
 ·walk_at "h"
 ·obtain⟨d,b,rfl,hd,q⟩:=h;have nd:=Z4.nd;have hu:=K0 hr
  refine⟨_,(A3 (E4 (i:=2) nd rfl (.inl rfl) (a0q K hr.hd (by rfl) B.sorted jk (by rfl) C.set boot_set (A0 (Q6 (own:=["_law_k"]) (fr:=[("_law_deck_here",0)]) rfl (by walk_at "w") (Q8 rfl rfl K5) (P4 (by rfl) B.range (A0 (A8 M3 (C1 G1 D1 hr.m (A0 (pv 0) A1)) A4) A1)) ⟨λ_ _ _ _=>⟨(C9 (i:=0) (show cD (["_law_k","_law_deck_here"]:List Str) by decide +kernel) rfl (.inl rfl)),M7,(A8 M3 (C1 G1 D1 hr.m (A0 (pv 1) A1)) A4)⟩⟩) A1)))
    (A3 (J9 (M9 (M8 (pv 1)))
     (A5 (B2 (Q6 (own:=["_law_number_here"]) (fr:=[]) rfl (by walk_at "w") K5 (K4 K (pv 2)) ⟨λ_ _ _ _=>⟨(C9 (i:=0) (show cD (["_law_number_here"]:List Str) by decide +kernel) rfl (.inl rfl)),M7,(E2 K3 (by rfl) C5.str eU (A0 (pv 0) A1))⟩⟩)))
     E1)
    (A3 (E4 (i:=4) nd rfl (.inl rfl) (K2 A1))
    (A3 (Q3 cc rfl (K4 K (pv 2)) (C9 (i:=3) nd rfl (.inl rfl))
     (A5 (R3 (T4 K (pv 4) (A0 (X9 (A0 (pv 3) (A0 (A8 L9 (A8 L9 (pv 3) A4) (A8 M3 (C1 G1 D1 hr.m (A0 (pv 0) A1)) A4)) A1))) A1)))))
    (A5 (B2 (Q6 (own:=["_law_one","_law_other"]) (fr:=[]) rfl (by walk_at "w") K5 (K4 K (pv 4)) ⟨λ_ _ _ _=>⟨(a1w K (n:=2) rfl (Q5 (C9 (i:=0) (show cD (["_law_one","_law_other"]:List Str) by decide +kernel) rfl (.inl rfl)) (Q5 (C9 (i:=1) (show cD (["_law_one","_law_other"]:List Str) by decide +kernel) rfl (.inl rfl)) a1v))),(a7l (K1 a4d (pv 1) A4 (E9 _))),(A8 L3 (A8 L3 (E2 K3 (by rfl) C5.str eU (A0 (pv 0) A1)) B0) (E2 K3 (by rfl) C5.str eU (A0 (pv 1) A1)))⟩⟩))))))),?_⟩
  walk_at "rd";refine L8 hd λz H1 k1 d1 z0 z1=>⟨z,rfl,by decide,∅,∅,λp np=>?_⟩
  have hm9:=cQ z (show (0:Int)<9 by decide);refine a2G (lo:=0) (a7G H1 d p) ⟨none,[],rfl,(Kp.refl d H1).new np,d1.new (d1.ne np),A2,rfl,λx hx=>(by cases hx)⟩ ?_ ?_
  ·rintro i τ Hc hi ⟨c,ns,rfl,kc,dc,hc,hl,hr⟩;walk_at "rd";refine L8 dc λy H2 k2 d2 y0 y1=>⟨y,rfl,by decide,?_⟩
   have hpd:p≠d:=d1.ne np;refine⟨_,k2 _ _ hpd hc,by rw[aa,hl];exact B4 ∅,_,ns++[y % 60],rfl,(kc.trans k2).new np,d2.new hpd,by rw[A2,aF];rfl,by rw[aB,hl];rfl,λx hx=>?_⟩;rcases aA.mp hx with hx | hx
   ·exact hr x hx
   ·rw[au.mp hx];omega
  ·rintro τ H2 ⟨c,ns,rfl,kc,dc,hc,hl,hr⟩;refine⟨ns,.inl (SqL.of hc),∅,λms l hpw hmem nl=>?_⟩;have hml:ms.length<=8:=by
    have:=a5x (a4x hpw) λx hx=>(hmem x).mp hx
    omega
   have hmr:∀ x∈ms,0<=x/\x<60:=λx hx=>hr x ((hmem x).mp hx)
   have k12:=k1.trans kc;have hld:l≠d:=dc.ne nl;have nlH:H l=none:=by
    cases e:H l with
    | none=>rfl
    | some o=>have:=k12 _ _ hld e;rw[nl] at this;cases this
   generalize eH:upd H2 l (.lst (ms.map V.int))=H3 at *
   have k3:Kp d H H3:=by rw[<- eH];exact k12.new nlH
   have d3:N3 H3 d:=by rw[<- eH];exact dc.new hld
   have e3:H3 l=some (.lst (ms.map V.int)):=by rw[<- eH];exact A2
   have fin:∀(p:Addr) (ws:List Str) H',Kp d H3 H'->N3 H' d->H3 p=none->H' p=some (.lst (ws.map V.str))->ws.length<=8->(∀ w∈ws,Gt 5 0 w)->Q (.ref p) H':=λp ws H' k dd np e hl hw=>by
    refine q p ws H' (k3.trans k) dd ?_ e hl hw;cases eh:H p with
    | none=>rfl
    | some o=>have:=k3 _ _ (d3.ne np) eh;rw[np] at this;cases this
   cases b with
   | false =>
    rw[if_pos (by decide)];refine⟨⟨_,SqL.of e3⟩,λp np=>a6j (K:=K) (xs:=ms) V.int (λ_=>true) (λx=>V.str (tS x)) ∅ (SqL.of e3) np ?_ ?_⟩
    ·intro x hx v ys R hy hR1 hR2;walk_at "rd";exact⟨V9 (hmr x hx).1 (by have:=hmr x hx;omega),a5i hy ∅ hR1⟩
    ·rw[a6A];refine fin p (ms.map tS) _ ((Kp.refl d H3).new np) (d3.new (d3.ne np)) np (by rw[A2,bC];rfl) (by rw[aa];exact hml) λw hw=>?_
     obtain⟨x,hx,rfl⟩:=aQ.mp hw;exact (a0z (hmr x hx).1 (by have:=hmr x hx;omega)).mono (by decide) (ao _)
   | true =>
    rw[if_neg (by decide)];refine⟨by decide,λlp nlp=>?_⟩;rw[T0];walk_at "rd";have hlp:lp≠l:=λe=>by rw[e,e3] at nlp;cases nlp
    have hlpd:lp≠d:=d3.ne nlp;have s4:=(B1.refl H3).upd (o:=.lst []) nlp;refine⟨⟨_,SqL.of (s4 _ _ e3)⟩,a0A (K:=K) (xs:=ms.map V.int) (a7F H3 d l lp true ms) ⟨none,[],[],rfl,(Kp.refl d H3).new nlp,d3.new hlpd,s4 _ _ e3,A2,⟨λx hx=>(by cases hx),rfl⟩,rfl,λt ht=>(by cases ht)⟩ ?_ ?_ ?_⟩
    ·rintro i σ Hc _ ⟨_,_,_,rfl,_,_,hl,_⟩;exact SqL.of hl
    ·rintro i v σ Hc hv ⟨c,ps,us,rfl,kc',dc',hl',hlp',hps,hul,hur⟩;rw[aJ] at hv;obtain⟨x,hx,rfl⟩:=bR.mp hv;have hxr:=hmr x (aU hx);have hil:=(aK.mp hx).1;walk_at "rd";refine⟨.inl ⟨rfl,_,SqL.of hlp'⟩,L8 dc' λy H5 k5 d5 y0 y1=>⟨y,rfl,by decide,by decide,λq np=>?_⟩⟩;have e5:=k5 _ _ hlpd hlp';have hqlp:q≠lp:=λe=>by rw[e,e5] at np;cases np
     have hqd:q≠d:=d5.ne np;refine⟨_,(A7 (λe=>hqlp e.symm)).trans e5,by rw[aa,hps.len,hul];exact B4 ∅,_,ps++[(q,tl (x,x+1+y % 3))],us++[(x,x+1+y % 3)],rfl,((kc'.trans k5).new ((kc'.trans k5).free d5 np)).new nlp,(d5.new hqd).new hlpd,?_,by rw[A2,aF];rfl,?_,by rw[aB,hul];rfl,λt ht=>?_⟩
     ·exact (A7 hlp.symm).trans (((B1.refl H5).upd np) _ _ (k5 _ _ hld hl'))
     ·refine (hps.tp (((k5.tp dc').trans (Tp.nw np)).trans (Tp.lst ((A7 (λe=>hqlp e.symm)).trans e5)))).snoc ?_;rw[A7 hqlp,A2]
     ·rcases aA.mp ht with ht | ht
      ·exact hur t ht
      ·rw[au.mp ht];show 0<=x/\x<60/\0<=x+1+y % 3/\x+1+y % 3<100;omega
    ·rintro σ Hc ⟨c,ps,us,rfl,kc',dc',hl',hlp',hps,hul,hur⟩;walk_at "rd";refine⟨⟨_,SqL.of hlp'⟩,λp np=>P1 (K:=K) (xs:=ps.map λx=>V.ref x.1) (a7E Hc p) ⟨none,none,[],rfl,(B1.refl Hc).upd np,A2,ao _,λw hw=>(by cases hw)⟩ ?_ ?_ ?_⟩
     ·rintro i τ Hd _ ⟨_,_,_,rfl,sd,_⟩;exact sd.seq (SqL.of hlp')
     ·rintro i v τ Hd hv ⟨c1,c2,ws,rfl,sd,hd',hwl,hw⟩ _;obtain⟨a,t,rfl,hti,ha⟩:=hps.get hv;have htr:=hur t (aU hti);have hil:=(aK.mp hti).1;walk_at "rd";have wl:ws.length<sizeLine:=B4 (by have:=hps.len;rw[aa] at hul;omega);refine⟨_,SqT.of (sd _ _ ha),rfl,_,_,rfl,_,_,rfl,rfl,t.2,rfl,?_⟩;by_cases h6:t.2<60
      ·rw[if_pos (decide_eq_true h6)];have g1:=a0z htr.1 (by omega:t.1<100);have g2:=a0z htr.2.2.1 htr.2.2.2;have g0:Gt 1 0 (Str.ofString "-"):=C0 (by decide +kernel);have g3:=(g1.add g0).add g2;have l1:=(g1.add g0).len;have l3:=g3.len;refine⟨t.1,rfl,V9 htr.1 ∅,_,rfl,_,rfl,?_,t.2,rfl,V9 htr.2.2.1 htr.2.2.2,_,rfl,_,rfl,?_,_,hd',by rw[aa];exact wl,_,_,ws++[tS t.1++Str.ofString "-"++tS t.2],rfl,sd.upd np,by rw[A2,aF];rfl,by rw[aB];exact gH hwl,λw h=>?_⟩
       ·exact bT (B4 (aH (bA g1.len g0.len) (by decide)))
       ·exact bT (B4 (aH (bA l1 g2.len) (by decide)))
       ·rcases aA.mp h with h | h
        ·exact hw w h
        ·rw[au.mp h];exact g3
      ·rw[if_neg (by rw[decide_eq_true_iff];exact h6)];exact⟨_,_,ws,rfl,sd,hd',Nat.le_succ_of_le hwl,hw⟩
     ·rintro τ Hd ⟨c1,c2,ws,rfl,sd,hd',hwl,hw⟩;refine fin p ws Hd (kc'.trans λb o _ e=>sd _ _ e) (dc'.same sd) ?_ hd' ?_ hw
      ·exact kc'.free dc' np
      ·rw[aa,hps.len,hul,aa] at hwl;omega
def Wl (n q:Nat)(H:Hp)(a:Addr):Prop:=∃ us:List Str,H a=some (.lst (us.map V.str))/\us.length<=n/\(us.map (·.length)).sum<=q/\∀ u∈us,Gt 6000 1 u
theorem Wl.same {n q:Nat}{H H':Hp}{a:Addr}(h:Wl n q H a)(s:B1 H H'):Wl n q H' a:=let ⟨us,e,r⟩:=h;⟨us,s _ _ e,r⟩
theorem Wl.kp {n q:Nat}{H H':Hp}{a p:Addr}(h:Wl n q H a)(k:Kp p H H')(np:a≠p):Wl n q H' a:=let ⟨us,e,r⟩:=h;⟨us,k _ _ np e,r⟩
theorem Wl.mono {n q n' q':Nat}{H:Hp}{a:Addr}(h:Wl n q H a)(hn:n<=n')(hq:q<=q'):Wl n' q' H a:=let ⟨us,e,l,s,g⟩:=h;⟨us,e,aH l hn,aH s hq,g⟩
theorem a5w {f:Str->Nat}(l:List Str)(a b:Nat):(((l.drop a).take b).map f).sum<=(l.map f).sum:=by
 have h1:=congrArg (λx=>(x.map f).sum) (ba b (l.drop a));have h2:=congrArg (λx=>(x.map f).sum) (ba a l);simp only[aF,fR] at h1 h2;omega
theorem J8 {K:ae}{n q:Nat}{H:Hp}{a:Addr}{lo hi:Option Int}{Q:VK}(h:Wl n q H a)(k:∀ p H',H p=none->B1 H H'->Wl n q H' p->Q (.ref p) H'):a7h K (.ref a) lo hi H Q:=by
 obtain⟨us,e,l,s,g⟩:=h;refine a1p e λp H' np s' e'=>k p H' np s' ?_
 have hc:S7 (us.map V.str) lo hi=((us.drop (HT.sIx us.length 0 lo)).take (HT.sIx us.length us.length hi-HT.sIx us.length 0 lo)).map V.str:=by
  unfold S7;rw[aa,eV,fZ]
 have sb:((us.drop (HT.sIx us.length 0 lo)).take (HT.sIx us.length us.length hi-HT.sIx us.length 0 lo)).Sublist us:=(cY _ _).trans (dy _ _);exact⟨_,e'.trans (by rw[hc]),aH sb.length_le l,aH (a5w us _ _) s,λu hu=>g u (sb.subset hu)⟩
theorem Q2 {n q n' q':Nat}{H:Hp}{a b:Addr}{Q:VK}(h:Wl n q H a)(h':Wl n' q' H b)(hz:n+n'<=10000)(k:∀ p H',H p=none->B1 H H'->Wl (n+n') (q+q') H' p->Q (.ref p) H'):a8X (.ref a) (.ref b) H Q:=by
 obtain⟨us,e,l,s,g⟩:=h;obtain⟨vs,e2,l2,s2,g2⟩:=h';refine N9 e e2 (by rw[aa,aa];omega) λp H' np s' e'=>k p H' np s' ⟨us++vs,by rw[e',aF],by rw[aB];omega,by rw[aF,fR];omega,λu hu=>(aA.mp hu).elim (g u) (g2 u)⟩
def b0Y (H:Hp)(p:Addr)(as:List Addr):Prop:=H p=some (.lst (as.map V.ref))/\∀ a∈as,Wl 40 6200 H a
theorem Kp.back {H H':Hp}{p:Addr}(k:Kp p H H')(np:H p=none):B1 H H':=λb o e=>k b o (λh=>by rw[h,np] at e;cases e) e
theorem a6m {H:Hp}{p:Addr}{o:HO}:Kp p H (upd H p o):=λb u hb e=>(A7 hb).trans e
def Y7 (K:ae):Sp:=λvs H Q _=>∃(d wl:Addr) (ws:List Str) (b:Bool),vs=[.ref d,.ref wl,.bl b]/\N3 H d/\H wl=some (.lst (ws.map V.str))/\wl≠d/\ws.length<=8/\(∀ w∈ws,Gt 5 0 w) /\
 ∀(p:Addr) (as:List Addr) H',Kp d H H'->N3 H' d->H p=none->b0Y H' p as->1<=as.length->as.length<=10->Q (.ref p) H'
theorem S9 {α:Type}{P:α->Prop}:∀ x∈([]:List α),P x:=λ_ h=>nomatch h
theorem A6 {α:Type}{P:α->Prop}{a:α}{l:List α}(h:P a)(t:∀ x∈l,P x):∀ x∈a::l,P x:=λx hx=>(aO.mp hx).elim (λe=>e ▸ h) (t x)
def a9V (m:Nat)(Hb:Hp)(d wl:Addr)(b:Bool)(k:Int)(σ:St)(Hc:Hp):Prop:=∃(lo:Addr) (os:List Str),σ=[some (.ref d),some (.ref wl),some (.bl b),some (.int k),some (.ref lo),none,none,none]/\B1 Hb Hc/\Hc lo=some (.lst (os.map V.str))/\1<=os.length/\os.length<=m/\∀ w∈os,Gt 6000 1 w
def a8m:List Str:=[Str.ofString "",Str.ofString "00",Str.ofString "07",Str.ofString "60",Str.ofString "+1",Str.ofString "-1",Str.ofString " 1",Str.ofString "1.0",Str.ofString "a",a0J (Str.ofString "9") (gh 5000),a0J (Str.ofString "0") (gh 5000),Str.ofString "1"++a0J (Str.ofString "0") (gh 4999),Str.ofString "5",Str.ofString "59"]
def a6b:List Str:=[Str.ofString "",Str.ofString "3",Str.ofString "3-",Str.ofString "-3",Str.ofString "1-1",Str.ofString "2-1",Str.ofString "1-60",Str.ofString "01-2",Str.ofString "1-02",Str.ofString "1--2",Str.ofString "1-2-3",Str.ofString "1- 2",Str.ofString "1+2",Str.ofString "0-59",Str.ofString "5-6"]
def a5Z:List Str:=[Str.ofString "1-1_0",Str.ofString "1-"++a0J (Str.ofString "9") (gh 5000),a0J (Str.ofString "0") (gh 5000)++Str.ofString "-1"]
theorem a6c:∀ w∈a8m,Gt 6000 1 w:=(A6 (C0 (by decide +kernel)) (A6 (C0 (by decide +kernel)) (A6 (C0 (by decide +kernel)) (A6 (C0 (by decide +kernel)) (A6 (C0 (by decide +kernel)) (A6 (C0 (by decide +kernel)) (A6 (C0 (by decide +kernel)) (A6 (C0 (by decide +kernel)) (A6 (C0 (by decide +kernel)) (A6 ((Gt.rep (k:=0) (C0 (by decide +kernel))).mono (by decide) (by decide)) (A6 ((Gt.rep (k:=0) (C0 (by decide +kernel))).mono (by decide) (by decide)) (A6 (((C0 (m:=1) (k:=0) (by decide +kernel)).add (Gt.rep (k:=0) (n:=4999) (C0 (by decide +kernel)))).mono (by decide) (by decide)) (A6 (C0 (by decide +kernel)) (A6 (C0 (by decide +kernel)) S9))))))))))))))
theorem a6a:∀ w∈a6b,Gt 6000 1 w:=(A6 (C0 (by decide +kernel)) (A6 (C0 (by decide +kernel)) (A6 (C0 (by decide +kernel)) (A6 (C0 (by decide +kernel)) (A6 (C0 (by decide +kernel)) (A6 (C0 (by decide +kernel)) (A6 (C0 (by decide +kernel)) (A6 (C0 (by decide +kernel)) (A6 (C0 (by decide +kernel)) (A6 (C0 (by decide +kernel)) (A6 (C0 (by decide +kernel)) (A6 (C0 (by decide +kernel)) (A6 (C0 (by decide +kernel)) (A6 (C0 (by decide +kernel)) (A6 (C0 (by decide +kernel)) S9)))))))))))))))
theorem a5Y:∀ w∈a5Z,Gt 6000 1 w:=(A6 (C0 (by decide +kernel)) (A6 (((C0 (m:=2) (k:=0) (by decide +kernel)).add (Gt.rep (k:=0) (n:=5000) (C0 (by decide +kernel)))).mono (by decide) (by decide)) (A6 (((Gt.rep (k:=0) (n:=5000) (C0 (by decide +kernel))).add (C0 (m:=2) (k:=0) (by decide +kernel))).mono (by decide) (by decide)) S9)))
theorem a5X {A B:List Str}(h:∀ w∈A,Gt 6000 1 w)(h':∀ w∈B,Gt 6000 1 w):∀ w∈A++B,Gt 6000 1 w:=λw hw=>(aA.mp hw).elim (h w) (h' w)
theorem Z5:B9 ["_law_deck_here","_law_words_here","_law_is_tree","_law_at","_law_odd","_law_put","_law_rows","_law_two"] ["_law_deck_here","_law_words_here","_law_is_tree"] (A9 (top 35)):=by walk_at "s"
theorem a2z (F:Fun K "_law_bent_words" "_law_bent_words" (top 35) f fd)(B:Bt mg)(D1:Df K mg "_law_next" st1 f1 fd1 ["_law_deck_here"])(G1:B8 P w K mg base CX0 1 f1 fd1 ["_law_deck_here"] T2)(C:Bt2 mg):B8 P w K mg base CX0 2 f fd ["_law_deck_here","_law_words_here","_law_is_tree"] (Y7 K):=by
 refine F.ok Z5 (λvs H Q E h=>?_) (λcdv A outer s H vs Q E hr h=>?_)
 ·walk_at "h"
 ·obtain⟨d,wl,ws,b,rfl,hd,hw,hwd,hwl,hws,q⟩:=h;have nd:=Z5.nd;have hu:=K0 hr
  refine⟨_,((@R1 _ _ _ 3 _ _ _ _ _ _ nd rfl (.inl rfl) ((C1 G1 D1 hr.m ((pv 0)<*>A1))&&&((B5 (a1E K) (by rfl) B.len cq ((pv 1)<*>A1))|||A4)) (by first | exact .inl rfl | exact .inr rfl | assumption))<*
    ((@V6 _ _ _ _ 4 _ _ _ nd rfl (.inl rfl) (B0<*>(B0<*>(B0<*>(B0<*>(B0<*>(B0<*>(B0<*>(B0<*>(B0<*>((@A8 _ _ _ _ _ _ _ _ V7 B0 A4)<*>((@A8 _ _ _ _ _ _ _ _ V7 B0 A4)<*>((@A8 _ _ _ _ _ _ _ _ L3 B0 (@A8 _ _ _ _ _ _ _ _ V7 B0 A4))<*>(B0<*>(B0<*>A1)))))))))))))) (by first | exact .inl rfl | exact .inr rfl | assumption))<*
    ((@R1 _ _ _ 4 _ _ _ _ _ _ nd rfl (.inl rfl) (@A8 _ _ _ _ _ _ _ _ K6 (pv 4) (@K2 _ _ _ _ (B0<*>A1))) (by first | exact .inl rfl | exact .inr rfl | assumption))<*
    ((@J9 _ _ _ _ _ _ _ _ (M8 (pv 2))
     ((@V6 _ _ _ _ 4 _ _ _ nd rfl (.inl rfl) (B0<*>(B0<*>(B0<*>(B0<*>(B0<*>(B0<*>(B0<*>(B0<*>(B0<*>(B0<*>(B0<*>(B0<*>(B0<*>(B0<*>(B0<*>A1))))))))))))))) (by first | exact .inl rfl | exact .inr rfl | assumption))<*
     (@A5 _ _ _ (@R1 _ _ _ 4 _ _ _ _ _ _ nd rfl (.inl rfl) (@A8 _ _ _ _ _ _ _ _ K6 (pv 4) (@K2 _ _ _ _ (B0<*>((@A8 _ _ _ _ _ _ _ _ L3 B0 (@A8 _ _ _ _ _ _ _ _ V7 B0 A4))<*>((@A8 _ _ _ _ _ _ _ _ L3 (@A8 _ _ _ _ _ _ _ _ V7 B0 A4) B0)<*>A1))))) (by first | exact .inl rfl | exact .inr rfl | assumption))))
     E1)<*
     ((E4 (i:=5) nd rfl (.inl rfl) ((pv 4)<|>((C1 G1 D1 hr.m ((pv 0)<*>A1))&&&(B5 (a1E K) (by rfl) B.len cq ((pv 4)<*>A1)))))<*
    ((@V6 _ _ _ _ 6 _ _ _ nd rfl (.inl rfl) ((pv 1)<*>((@A8 _ _ _ _ _ _ _ _ K6 (@A8 _ _ _ _ _ _ _ _ K6 (C6 (E7 K) (pv 1) F0 (C8 (pv 3))) (@K2 _ _ _ _ ((pv 5)<*>A1))) (C6 (E7 K) (pv 1) (C8 (pv 3)) F0))<*>((@A8 _ _ _ _ _ _ _ _ K6 (@A8 _ _ _ _ _ _ _ _ K6 (C6 (E7 K) (pv 1) F0 (C8 (pv 3))) (@K2 _ _ _ _ ((pv 5)<*>A1))) (C6 (E7 K) (pv 1) (C8 ((pv 3)|||A4)) F0))<*>A1))) (by first | exact .inl rfl | exact .inr rfl | assumption))<*
    ((R3 (T4 K (pv 6) ((@A8 _ _ _ _ _ _ _ _ K6 (C6 (E7 K) (pv 1) F0 (C8 (pv 3))) (C6 (E7 K) (pv 1) (C8 ((pv 3)|||A4)) F0))<*>A1)))<*
    ((R3 (T4 K (pv 6) ((@A8 _ _ _ _ _ _ _ _ K6 (@A8 _ _ _ _ _ _ _ _ K6 (C6 (E7 K) (pv 1) F0 (C8 (pv 3))) (C6 (E7 K) (pv 1) (C8 (pv 3)) (C8 ((pv 3)|||A4)))) (C6 (E7 K) (pv 1) (C8 (pv 3)) F0))<*>A1)))<*
    ((@R1 _ _ _ 7 _ _ _ _ _ _ nd rfl (.inl rfl) (@A8 _ _ _ _ _ _ _ _ K6 (C6 (E7 K) (pv 1) (C8 ((pv 3)|||A4)) (C8 ((pv 3)|||A4))) (C6 (E7 K) (pv 1) (C8 (pv 3)) (C8 ((pv 3)|||A4)))) (by first | exact .inl rfl | exact .inr rfl | assumption))<*
    (@A5 _ _ _ (B2 (@A8 _ _ _ _ _ _ _ _ K6 (pv 6) (@K2 _ _ _ _ ((@A8 _ _ _ _ _ _ _ _ K6 (@A8 _ _ _ _ _ _ _ _ K6 (C6 (E7 K) (pv 1) F0 (C8 (pv 3))) (pv 7)) (C6 (E7 K) (pv 1) (C8 ((pv 3)|||A4)) F0))<*>((@K2 _ _ _ _ ((pv 5)<*>A1))<*>A1))))))))))))))),?_⟩
  simp only[L2.P9,st0,am,cT,az,b8,List.replicate,dh,cS,Nat.reduceAdd,Nat.reduceSub];refine S3 (fun σ Hc=>∃ k:Int,σ=[some (.ref d),some (.ref wl),some (.bl b),some (.int k),none,none,none,none]/\Kp d H Hc/\N3 Hc d/\0<=k/\k<=ws.length) (λR hR=>?_) ?_
  ·walk_at "rd";refine L8 hd λz H1 k1 d1 z0 z1=>⟨_,.inl (SqL.of (k1 _ _ hwd hw)),z,rfl,∅,hR _ _ ⟨_,rfl,k1,d1,?_,?_⟩⟩
   ·rw[aa];exact dX _ ∅
   ·rw[aa];have:=cQ z (show (0:Int)<(ws.length:Int)+1 by omega);omega
  rintro _ H1 ⟨k,rfl,k1,d1,hk0,hk1⟩;refine S3 (a9V 14 H1 d wl b k) (λR hR=>?_) ?_
  ·walk_at "rd";refine⟨_,rfl,by decide +kernel,by decide,by decide +kernel,_,rfl,by decide +kernel,by decide,by decide +kernel,_,rfl,by decide +kernel,by decide,by decide +kernel,_,rfl,_,rfl,?_,by decide,λp np=>B7 np λH2 s2 e2=>hR _ _ ⟨p,a8m,rfl,s2,e2,by decide,by decide,a6c⟩⟩;exact bT (B4 (aH (bA (C0 (m:=1) (k:=0) (by decide +kernel)).len (Gt.rep (k:=0) (n:=4999) (C0 (by decide +kernel))).len) (by decide)))
  rintro _ H2 ⟨lo,os,rfl,s2,e2,ol,oh,og⟩;refine S3 (a9V 15 H1 d wl b k) (λR hR=>?_) ?_
  ·walk_at "rd";refine⟨by decide,λp np=>B7 np λH3 s3 e3=>?_⟩;refine N9 (s3 _ _ e2) e3 (by rw[aa];show os.length+1<=_;omega) λp2 H4 n4 s4 e4=>hR _ _ ⟨p2,os++[Str.ofString "1_0"],rfl,(s2.trans s3).trans s4,by rw[e4,aF];rfl,by rw[aB];omega,by rw[aB];show os.length+1<=15;omega,a5X og (A6 (C0 (by decide +kernel)) S9)⟩
  clear ol oh og e2 os lo s2 H2;rintro _ H2 ⟨lo,os,rfl,s2,e2,ol,oh,og⟩;refine S3 (a9V 18 H1 d wl b k) (λR hR=>?_) ?_
  ·walk_at "rd";cases b with
   | false=>exact hR _ _ ⟨lo,os,rfl,s2,e2,ol,aH oh (by decide),og⟩
   | true =>
    rw[if_pos rfl];have l1:=(C0 (m:=2) (k:=0) (x:=Str.ofString "1-") (by decide +kernel)).len;have l2:=(Gt.rep (k:=0) (n:=5000) (C0 (x:=Str.ofString "9") (by decide +kernel))).len;have l3:=(C0 (m:=2) (k:=0) (x:=Str.ofString "-1") (by decide +kernel)).len;have l4:=(Gt.rep (k:=0) (n:=5000) (C0 (x:=Str.ofString "0") (by decide +kernel))).len;refine⟨by decide,λp np=>B7 np λH3 s3 e3=>⟨_,rfl,by decide +kernel,by decide,by decide +kernel,_,rfl,_,rfl,bT (B4 (aH (bA l1 l2) (by decide))),_,rfl,by decide +kernel,by decide,by decide +kernel,_,rfl,_,rfl,bT (B4 (aH (bA l4 l3) (by decide))),by decide,λp2 n2=>B7 n2 λH4 s4 e4=>?_⟩⟩;exact N9 (xs:=a6b.map V.str) (ys:=a5Z.map V.str) (s4 _ _ e3) e4 (by decide) λp3 H5 n5 s5 e5=>hR _ _ ⟨p3,a6b++a5Z,rfl,((s2.trans s3).trans s4).trans s5,by rw[e5,aF],by decide,by decide,a5X a6a a5Y⟩
  clear ol oh og e2 os lo s2 H2;rintro _ H2 ⟨lo,os,rfl,s2,e2,ol,oh,og⟩;refine S3 (fun σ Hc=>∃(pt:Str) (lo:Addr),σ=[some (.ref d),some (.ref wl),some (.bl b),some (.int k),some (.ref lo),some (.str pt),none,none]/\Kp d H1 Hc/\N3 Hc d/\Gt 6000 1 pt) (λR hR=>?_) ?_
  ·walk_at "rd";have d2:=d1.same s2;have hld:lo≠d:=λe=>by
    obtain⟨ds,e',_⟩:=d2;rw[e,e'] at e2;cases os with
    | nil=>exact absurd ol (by decide)
    | cons x xs=>cases ds<;>cases e2
   refine L8 d2 λz H3 k3 d3 z0 z1=>⟨_,.inl (SqL.of (k3 _ _ hld e2)),z,rfl,by rw[aa];omega,_,SqL.of (k3 _ _ hld e2),?_⟩
   obtain⟨v,hv,ev⟩:=a8v (xs:=os.map V.str) (k:=z % ((os.map V.str).length:Int)) (dX _ (by rw[aa];omega)) (cQ _ (by rw[aa];omega));obtain⟨u,hu,rfl⟩:=aQ.mp hv;exact⟨_,ev,hR _ _ ⟨u,lo,rfl,s2.kp.trans k3,d3,og u hu⟩⟩
  rintro _ H3 ⟨pt,lo2,rfl,k3,d3,gp⟩;clear ol oh og e2 os lo s2 H2;have W:Wl 8 40 H3 wl:=⟨ws,k3 _ _ hwd (k1 _ _ hwd hw),hwl,by have:=Gt.sum hws;omega,λw h=>(hws w h).mono (by decide) (by decide)⟩
  have WP:∀ {H':Hp} {p:Addr},H' p=some (.lst [.str pt])->Wl 1 6000 H' p:=λe=>⟨[pt],e,ao _,gp.len,λu hu=>by rw[au.mp hu];exact gp⟩
  walk_at "rd";refine J8 W λp1 G1 n1 s1 w1=>⟨by decide,λp2 n2=>B7 n2 λG2 s2 e2=>Q2 (w1.same s2) (WP e2) (by decide) λp3 G3 n3 s3 w3=>?_⟩
  have t3:=(s1.trans s2).trans s3;refine J8 (W.same t3) λp4 G4 n4 s4 w4=>Q2 (w3.same s4) w4 (by decide) λx1 G5 n5 s5 X1=>?_
  have t5:=(t3.trans s4).trans s5;clear w1 e2 w3 w4 n1 n2 n3 n4 n5 s1 s2 s3 s4 s5 t3;refine J8 (W.same t5) λp1 G1 n1 s1 w1=>⟨by decide,λp2 n2=>B7 n2 λG2 s2 e2=>Q2 (w1.same s2) (WP e2) (by decide) λp3 G3 n3 s3 w3=>?_⟩
  have t3:=(s1.trans s2).trans s3;refine J8 ((W.same t5).same t3) λp4 G4 n4 s4 w4=>Q2 (w3.same s4) w4 (by decide) λx2 G6 n6 s6 X2=>?_
  have t6:=(t3.trans s4).trans s6;refine⟨by decide,λp np=>B7 np λG7 s7 e7=>?_⟩;have tp:=t5.trans t6;have X2p:=X2.same s7;have X1p:=(X1.same t6).same s7;have Wp:=(W.same tp).same s7;have nep:∀ {n q:Nat} {a:Addr},Wl n q G6 a->a≠p:=λh e=>by obtain⟨us,e',_⟩:=h;rw[e,np] at e';cases e'
  have wlp:=nep (W.same tp);have x1p:=nep (X1.same t6);have x2p:=nep X2;clear w1 e2 w3 w4 n1 n2 n3 n4 n6 s1 s2 s3 s4 s6 t3 nep;have nop:∀ {G:Hp} {n q:Nat} {a:Addr} {xs:List V},Wl n q G a->G p=some (.lst xs)->(∃ u r,xs=.ref u::r)->a≠p:=λh e ⟨u,r,er⟩ ea=>by
   obtain⟨us,e',_⟩:=h;rw[ea,e,er] at e';cases us with
   | nil=>cases e'
   | cons y ys =>
    injection e' with e'
    injection e' with e'
    injection e' with e' _
    cases e'
  refine⟨.inl ⟨rfl,_,SqL.of e7⟩,J8 Wp λp1 G1 n1 s1 w1=>J8 (Wp.same s1) λp2 G2 n2 s2 w2=>Q2 (w1.same s2) w2 (by decide) λx3 G3 n3 s3 X3=>⟨_,((s1.trans s2).trans s3) _ _ e7,by show 3<sizeLine;decide,?_⟩⟩;have t3:=(s1.trans s2).trans s3;have x3p:=nop X3 (t3 _ _ e7) ⟨_,_,rfl⟩;have K8:Kp p G7 (upd G3 p (.lst ([V.ref wl,V.ref x1,V.ref x2]++[V.ref x3]))):=λb o hb e=>(A7 hb).trans (t3 _ _ e)
  have X3p:=X3.kp (a6m (o:=.lst ([V.ref wl,V.ref x1,V.ref x2]++[V.ref x3]))) x3p;have e8:upd G3 p (.lst ([V.ref wl,V.ref x1,V.ref x2]++[V.ref x3])) p=_:=A2;generalize upd G3 p (.lst ([V.ref wl,V.ref x1,V.ref x2]++[V.ref x3]))=G8 at *
  clear w1 w2 n1 n2 n3 s1 s2 s3 X3 t3 G1 G2 G3;have W8:=Wp.kp K8 wlp;refine⟨.inl ⟨rfl,_,SqL.of e8⟩,J8 W8 λp1 G1 n1 s1 w1=>J8 (W8.same s1) λp2 G2 n2 s2 w2=>Q2 (w1.same s2) w2 (by decide) λp3 G3 n3 s3 w3=>J8 (((W8.same s1).same s2).same s3) λp4 G4 n4 s4 w4=>Q2 (w3.same s4) w4 (by decide) λx4 G5 n5 s5 X4=>⟨_,((((s1.trans s2).trans s3).trans s4).trans s5) _ _ e8,by show 4<sizeLine;decide,?_⟩⟩;have t3:=(((s1.trans s2).trans s3).trans s4).trans s5;have x4p:=nop X4 (t3 _ _ e8) ⟨_,_,rfl⟩;have K9:Kp p G8 (upd G5 p (.lst ([V.ref wl,V.ref x1,V.ref x2]++[V.ref x3]++[V.ref x4]))):=λb o hb e=>(A7 hb).trans (t3 _ _ e)
  have X4p:=X4.kp (a6m (o:=.lst ([V.ref wl,V.ref x1,V.ref x2]++[V.ref x3]++[V.ref x4]))) x4p;have e9:upd G5 p (.lst ([V.ref wl,V.ref x1,V.ref x2]++[V.ref x3]++[V.ref x4])) p=_:=A2;generalize upd G5 p (.lst ([V.ref wl,V.ref x1,V.ref x2]++[V.ref x3]++[V.ref x4]))=G9 at *
  clear w1 w2 w3 w4 n1 n2 n3 n4 n5 s1 s2 s3 s4 s5 X4 t3 G1 G2 G3 G4 G5;have W9:=W8.kp K9 wlp;refine J8 W9 λp1 G1 n1 s1 w1=>J8 (W9.same s1) λp2 G2 n2 s2 w2=>Q2 (w1.same s2) w2 (by decide) λp3 G3 n3 s3 w3=>J8 (((W9.same s1).same s2).same s3) λp4 G4 n4 s4 w4=>Q2 w4 (w3.same s4) (by decide) λp5 G5 n5 s5 w5=>J8 ((((W9.same s1).same s2).same s3).same (s4.trans s5)) λp6 G6 n6 s6 w6=>Q2 (w5.same s6) w6 (by decide) λx5 GA nA sA X5=>⟨by decide,λpl nl=>B7 nl λGB sB eB=>⟨by decide,λp7 n7=>B7 n7 λGC sC eC=>?_⟩⟩
  have t9:=((((((s1.trans s2).trans s3).trans s4).trans s5).trans s6).trans sA).trans (sB.trans sC);clear w1 w2 w3 w4 w5 w6 n1 n2 n3 n4 n5 n6;refine N9 (t9 _ _ e9) eC (by show 5+2<=10000;decide) λpf GD nf sD eD=>?_
  have tD:=t9.trans sD;have K79:Kp p G7 G9:=K8.trans K9;have SF:B1 H3 GD:=(tp.trans (Kp.back (Kp.trans s7.kp K79) np)).trans tD;refine q pf [wl,x1,x2,x3,x4,x5,pl] GD (k1.trans (k3.trans SF.kp)) (d3.same SF) ?_ ⟨eD,?_⟩ (by show 1<=7;decide) (by show 7<=10;decide)
  ·refine k1.free d1 (k3.free d3 ((tp.trans (Kp.back (Kp.trans s7.kp K79) np)).free ?_));exact t9.free nf
  ·have mm:∀ {n q:Nat} {a:Addr},Wl n q GD a->n<=40->q<=6200->Wl 40 6200 GD a:=λh=>h.mono
   exact A6 (mm ((W9.same t9).same sD) (by decide) (by decide)) (A6 (mm (((X1p.kp K79 x1p).same t9).same sD) (by decide) (by decide)) (A6 (mm (((X2p.kp K79 x2p).same t9).same sD) (by decide) (by decide)) (A6 (mm (((X3p.kp K9 x3p).same t9).same sD) (by decide) (by decide)) (A6 (mm ((X4p.same t9).same sD) (by decide) (by decide)) (A6 (mm ((X5.same (sB.trans sC)).same sD) (by decide) (by decide)) (A6 (mm ((WP eB).same (sC.trans sD)) (by decide) (by decide)) S9))))))
def Y8 (K:ae):Sp:=λvs H Q _=>∃(d:Addr) (a:Str) (m k:Nat),vs=[.ref d,.str a]/\N3 H d/\Gt m k a/\m<=20000 /\
 ∀(p:Addr) (us:List Str) H',Kp d H H'->N3 H' d->H p=none->H' p=some (.lst (us.map V.str))->us.length<=4->(∀ w∈us,Gt (2*m+1) (2*k+1) w)->Q (.ref p) H'
theorem Z6:B9 ["_law_deck_here","_law_text","_law_at","_law_sign","_law_found"] ["_law_deck_here","_law_text"] (A9 (top 36)):=by walk_at "s"
theorem a2A (F:Fun K "_law_bent_signs" "_law_bent_signs" (top 36) f fd)(B:Bt mg)(D1:Df K mg "_law_next" st1 f1 fd1 ["_law_deck_here"])(G1:B8 P w K mg base CX0 1 f1 fd1 ["_law_deck_here"] T2)(C:Bt2 mg):B8 P w K mg base CX0 2 f fd ["_law_deck_here","_law_text"] (Y8 K):=by
 refine F.ok Z6 (λvs H Q E h=>?_) (λcdv A outer s H vs Q E hr h=>?_)
 ·walk_at "h"
 ·obtain⟨d,a,m,k,rfl,hd,hg,hm,q⟩:=h;have nd:=Z6.nd;have hu:=K0 hr
  refine⟨_,(A3 (@R1 _ _ _ 2 _ _ _ _ _ _ nd rfl (.inl rfl) (A8 M3 (C1 G1 D1 hr.m (A0 (pv 0) A1)) (A8 L9 (B5 a4U (by rfl) B.len cq (A0 (pv 1) A1)) A4)) (by first | exact .inl rfl | exact .inr rfl | assumption))
    (A3 (E4 (i:=3) nd rfl (.inl rfl) (Q0 a9s B0 (A8 M3 (C1 G1 D1 hr.m (A0 (pv 0) A1)) A4) (λ_ _=>rfl)))
    (A3 (@V6 _ _ _ _ 4 _ _ _ nd rfl (.inl rfl) (A0 (A8 L3 (A8 L3 (C6 X0 (pv 1) F0 (C8 (pv 2))) (pv 3)) (C6 X0 (pv 1) (C8 (pv 2)) F0)) (A0 (A8 L3 (A8 L3 (C6 X0 (pv 1) F0 (C8 (pv 2))) (pv 3)) (C6 X0 (pv 1) (C8 (A8 L9 (pv 2) A4)) F0)) A1)) (by first | exact .inl rfl | exact .inr rfl | assumption))
    (A5 (B2 (A8 K6 (pv 4) (K2 (A0 (A8 L3 (C6 X0 (pv 1) F0 (C8 (pv 2))) (C6 X0 (pv 1) (C8 (A8 L9 (pv 2) A4)) F0)) (A0 (A8 L3 (pv 1) (pv 3)) A1))))))))),?_⟩
  walk_at "rd";have sz:∀ {n:Nat},n<=16000000->n<=sizeLine:=λh=>bT (B4 h)
  have al:=hg.len;refine L8 hd λz H1 k1 d1 z0 z1=>⟨a,rfl,sz ∅,z,rfl,∅,L8 d1 λy H2 k2 d2 y0 y1=>⟨y,rfl,by decide,_,rfl,by decide,?_⟩⟩
  generalize z % ((a.length:Int)+1)=at';obtain⟨c,hc,gc⟩:∃ c,atI (Str.ofString "0123456789 ,-+.\nab_").cps.toList (y % 19)=some c/\Gt 1 1 ⟨#[c]⟩:=by
   have h:(List.range 19).all (λi=>match atI (Str.ofString "0123456789 ,-+.\nab_").cps.toList (i:Int) with | some c=>gtB 1 1 ⟨#[c]⟩ | none=>false)=true:=by decide +kernel
   have:=br.mp h (y % 19).toNat (bf.mpr ∅);rw[bX ∅] at this
   revert this
   cases e:atI (Str.ofString "0123456789 ,-+.\nab_").cps.toList (y % 19) with
   | none=>intro h;cases h
   | some c=>intro h;exact⟨c,rfl,C0 h⟩
  have gA:=λlo hi=>hg.cut (lo:=lo) (hi:=hi)
  have g1:=((gA none (some at')).add gc).add (gA (some at') none);have g2:=((gA none (some at')).add gc).add (gA (some (at'+1)) none);have g3:=(gA none (some at')).add (gA (some (at'+1)) none);have g4:=hg.add gc;have s1:=((gA none (some at')).add gc).len;refine⟨c,hc,_,rfl,sz ∅,_,rfl,_,rfl,?_,_,rfl,sz ∅,_,rfl,_,rfl,?_,_,rfl,sz ∅,_,rfl,_,rfl,?_,_,rfl,sz ∅,_,rfl,_,rfl,?_,?_⟩
  ·exact sz (aH (bA (gA none (some at')).len gc.len) ∅)
  ·exact sz (aH (bA s1 (gA (some at') none).len) ∅)
  ·exact sz (aH (bA (gA none (some at')).len gc.len) ∅)
  ·exact sz (aH (bA s1 (gA (some (at'+1)) none).len) ∅)
  refine⟨by decide,λp np=>B7 np λH3 s3 e3=>⟨_,rfl,sz ∅,_,rfl,sz ∅,_,rfl,_,rfl,?_,_,rfl,_,rfl,?_,by decide,λp2 n2=>B7 n2 λH4 s4 e4=>?_⟩⟩
  ·exact sz (aH (bA (gA none (some at')).len (gA (some (at'+1)) none).len) ∅)
  ·exact sz (aH (bA al gc.len) ∅)
  refine N9 (s4 _ _ e3) e4 (by show 2+2<=10000;decide) λpf H5 nf s5 e5=>?_
  have k2':=(((k1.trans k2).trans s3.kp).trans s4.kp).trans s5.kp;refine q pf [_,_,_,_] H5 k2' (((d2.same s3).same s4).same s5) ?_ (e5.trans rfl) (ao _) (A6 (g1.mono ∅ ∅) (A6 (g2.mono ∅ ∅) (A6 (g3.mono ∅ ∅) (A6 (g4.mono ∅ ∅) S9))));exact ((k1.trans k2).trans (s3.trans s4).kp).free ((d2.same s3).same s4) nf
def SpC (K:ae)(C:Addr)(Tell:Str->PyData->Prop):Sp:=λvs H Q E=>∃(v:V),vs=[v] /\
  ((∃ a:Str,v=.str a/\Gt 90000 450 a/\(∀ H',B1 H H'->(∀ d,¬ Tell a d)->E (.ref C) none H')/\∀(p:Addr) H' d,B1 H H'->Dd H' (.ref p) d->Nx 50 100000 d->Tell a d->Q (.ref p) H') \/
   ((∃ t,R8 K H v t/\PySem.W.kitOne K t (.type "str")=some false)/\E (.ref C) none H))
def SpR (Tell:Str->PyData->Prop):Sp:=λvs H Q _=>∃(a:Str),vs=[.str a]/\Gt 90000 250 a /\
 (∀ H',B1 H H'->(∀ d,¬ Tell a d)->Q .non H')/\∀(p:Addr) H' d,B1 H H'->Dd H' (.ref p) d->Nx 50 100000 d->Tell a d->Q (.ref p) H'
def R0 (P:Program)(w:World)(K:ae)(mg:Str->Option Value)(base:Heap)(C:Addr):Sp:=λvs H Q _=>∃(f:Addr) (v:V) (Tell:Str->PyData->Prop),vs=[.ref f,v]/\FnV P w K mg base (CX1 P w) 5 f (SpC K C Tell) /\
 ((∃ a:Str,v=.str a/\Gt 90000 450 a/\∀ d,¬ Tell a d)\/∃ t,R8 K H v t/\PySem.W.kitOne K t (.type "str")=some false)/\∀ H',B1 H H'->Q (.bl true) H'
theorem a2H {K:ae}{C:Addr}:PySem.W.kitOne K (.ref C) (.ref C)=some true:=by unfold PySem.W.kitOne;simp
theorem V4:B9 ["_law_call","_law_thing","_law_caught","error"] ["_law_call","_law_thing"] (A9 (top 31)):=by walk_at "s"
theorem a1y (F:Fun K "_law_refused" "_law_refused" (top 31) f fd)(B:Bt mg){cNoWeb:Addr}(ZNoWeb:P3 K mg "NoWeb" cNoWeb){cLeafError:Addr}(ZLeafError:P3 K mg "LeafError" cLeafError){cTooGreat:Addr}(ZTooGreat:P3 K mg "TooGreat" cTooGreat){cNoSet:Addr}(ZNoSet:P3 K mg "NoSet" cNoSet){cTaken:Addr}(ZTaken:P3 K mg "Taken" cTaken){cTooMany:Addr}(ZTooMany:P3 K mg "TooMany" cTooMany){cNoTie:Addr}(ZNoTie:P3 K mg "NoTie" cNoTie){cApart:Addr}(ZApart:P3 K mg "Apart" cApart){cNoText:Addr}(ZNoText:P3 K mg "NoText" cNoText)(C:Bt2 mg)(C7:mg "ValueError"=none)(X1:gD K (.ref cNoText) (.ref cLeafError)=some true)(X2:PySem.W.kitOne K (.ref cNoText) (.type "ValueError")=some true)(X3:PySem.W.kitAny K (.ref cNoText) ([cNoWeb,cTooGreat,cNoSet,cTaken,cTooMany,cNoTie,cApart].map bp)=some false):B8 P w K mg base CX0 6 f fd ["_law_call","_law_thing"] (R0 P w K mg base cNoText):=by
 refine F.ok V4 (λvs H Q E h=>?_) (λcdv A outer s H vs Q E hr h=>?_)
 ·walk_at "h"
 ·obtain⟨f0,v,Tell,rfl,hV,hv,q⟩:=h;have nd:=V4.nd;have hu:=K0 hr
  refine⟨_,(A3 (E4 (i:=2) nd rfl (.inl rfl) R4)
    (A3 (a5H (i:=3) rfl rfl nd rfl rfl (by rfl) ZLeafError.m (a5G (a4z (P:=P) (w:=w) (K:=K) (mg:=mg) (base:=base) (k:=5) (ix:=0) hr.m rfl rfl (λ_=>(A0 (pv 1) A1))))
     (λ_ _=>(A5 (E4 (i:=2) nd rfl (.inl rfl) (pv 3)))))
    (A3 (J9 (PW.pt (a2s (a3h (a3j (pv 2))) (a2s (M9 (M8 (B5 (a9u K) (by rfl) C.isinstance ck (A0 (pv 2) (A0 (J7 rfl ZNoText.m (show B6 (V.ref _) _ from rfl)) A1))))) (a1u (M9 (M8 (B5 (a9u K) (by rfl) C.isinstance ck (A0 (pv 2) (A0 (Z8 (by rfl) C7 PyProof.Rows.Boot.«ValueError») A1)))))))))
     (A5 (B2 Q7))
     E1)
    (A5 (B2 (a5L (B5 (a9u K) (by rfl) C.isinstance ck (A0 (pv 2) (A0 (X9 (A0 (J7 rfl ZNoWeb.m (show B6 (V.ref _) _ from rfl)) (A0 (J7 rfl ZTooGreat.m (show B6 (V.ref _) _ from rfl)) (A0 (J7 rfl ZNoSet.m (show B6 (V.ref _) _ from rfl)) (A0 (J7 rfl ZTaken.m (show B6 (V.ref _) _ from rfl)) (A0 (J7 rfl ZTooMany.m (show B6 (V.ref _) _ from rfl)) (A0 (J7 rfl ZNoTie.m (show B6 (V.ref _) _ from rfl)) (A0 (J7 rfl ZApart.m (show B6 (V.ref _) _ from rfl)) A1)))))))) A1))))))))),?_⟩
  walk_at "rd";refine⟨_,hV,v,rfl,?_⟩;have s0:=B1.refl H;rcases hv with ⟨a,rfl,hl,hn⟩ | hv
  ·refine .inl ⟨a,rfl,hl,λH1 s1 _=>?_,λp H1 d s1 _ _ ht=>absurd ht (hn d)⟩;clear s0;have s0:=s1;refine⟨X1,λea C eC hea=>?_⟩;cases eC;rw[if_neg (by simp)];refine B7 hea λH2 s2 e2=>⟨.ref ea,_,.exc e2 ZNoText.k,.inl ⟨.ref cNoText,.ref cNoText,true,rfl,.inr ⟨cNoText,rfl,rfl,ZNoText.k.is⟩,a2H,true,rfl,?_⟩⟩
   rw[if_neg (by decide)];refine⟨.ref ea,_,.exc e2 ZNoText.k,.inl ⟨.ty "ValueError",.type "ValueError",true,rfl,.inl ⟨_,rfl,rfl⟩,X2,true,rfl,?_⟩⟩;rw[if_neg (by decide)];exact⟨by decide,λp np=>B7 np λH3 s3 e3=>⟨.ref ea,_,.exc (s3 _ _ e2) ZNoText.k,.inr ⟨p,[cNoWeb,cTooGreat,cNoSet,cTaken,cTooMany,cNoTie,cApart],false,rfl,e3,X3,false,rfl,q H3 ((s0.trans s2).trans s3)⟩⟩⟩
  ·refine .inr ⟨hv,?_⟩;refine⟨X1,λea C eC hea=>?_⟩;cases eC;rw[if_neg (by simp)];refine B7 hea λH2 s2 e2=>⟨.ref ea,_,.exc e2 ZNoText.k,.inl ⟨.ref cNoText,.ref cNoText,true,rfl,.inr ⟨cNoText,rfl,rfl,ZNoText.k.is⟩,a2H,true,rfl,?_⟩⟩
   rw[if_neg (by decide)];refine⟨.ref ea,_,.exc e2 ZNoText.k,.inl ⟨.ty "ValueError",.type "ValueError",true,rfl,.inl ⟨_,rfl,rfl⟩,X2,true,rfl,?_⟩⟩;rw[if_neg (by decide)];exact⟨by decide,λp np=>B7 np λH3 s3 e3=>⟨.ref ea,_,.exc (s3 _ _ e2) ZNoText.k,.inr ⟨p,[cNoWeb,cTooGreat,cNoSet,cTaken,cTooMany,cNoTie,cApart],false,rfl,e3,X3,false,rfl,q H3 ((s0.trans s2).trans s3)⟩⟩⟩
def b0X (K:ae)(H:Hp)(v:V):Prop:=(∃ a:Str,v=.str a/\Gt 90000 250 a)\/((∃ t,R8 K H v t/\PySem.W.kitOne K t (.type "str")=some false)/\∃ d,Dd H v d/\Nx 50 100000 d)
def Y9 (P:Program)(w:World)(K:ae)(mg:Str->Option Value)(base:Heap)(C:Addr):Sp:=λvs H Q _=>∃(f g:Addr) (v:V) (Tell:Str->PyData->Prop),vs=[.ref f,.ref g,v]/\FnV P w K mg base (CX1 P w) 5 f (SpC K C Tell)/\FnV P w K mg base CX0 5 g (SpR Tell) /\
 (∀ a d d',Tell a d->Tell a d'->d=d')/\b0X K H v/\∀ H',B1 H H'->Q (.bl true) H'
theorem Z7:B9 ["_law_call","_law_reading","_law_thing","_law_due","_law_before"] ["_law_call","_law_reading","_law_thing"] (A9 (top 37)):=by walk_at "s"
theorem a2B (F:Fun K "_law_judged" "_law_judged" (top 37) f fd)(B:Bt mg){cNoText:Addr}(ZNoText:P3 K mg "NoText" cNoText)(D1:Df K mg "_law_refused" st1 f1 fd1 ["_law_call","_law_thing"])(G1:B8 P w K mg base CX0 6 f1 fd1 ["_law_call","_law_thing"] (R0 P w K mg base cNoText))(C:Bt2 mg)(C4:Bt4 mg)(C5:Bt5 mg):B8 P w K mg base CX0 7 f fd ["_law_call","_law_reading","_law_thing"] (Y9 P w K mg base cNoText):=by
 refine F.ok Z7 (λvs H Q E h=>?_) (λcdv A outer s H vs Q E hr h=>?_)
 ·walk_at "h"
 ·obtain⟨f0,g0,v,Tell,rfl,hV,hW,uq,hv,q⟩:=h;have nd:=Z7.nd;have hu:=K0 hr
  refine⟨_,(A3 (E4 (i:=3) nd rfl (.inl rfl) R4)
    (A3 (E4 (i:=4) nd rfl (.inl rfl) (B5 (X6 hr.gd hr.units) (by rfl) C4.repr gG (A0 (pv 2) A1)))
    (A3 (J9 (M8 (B5 (a3v K) (by rfl) C.isinstance ck (A0 (pv 2) (A0 (Z8 (by rfl) C5.str eU) A1))))
     (A5 (E4 (i:=3) nd rfl (.inl rfl) (a4B (P:=P) (w:=w) (K:=K) (mg:=mg) (base:=base) (k:=5) (ix:=1) hr.m rfl rfl (A0 (pv 2) A1))))
     E1)
    (A3 (J9 (a3h (a3j (pv 3)))
     (A5 (B2 (Y0 (C1 G1 D1 hr.m (A0 (pv 0) (A0 (pv 2) A1))) (a0r (P0 T5 (B5 (X6 hr.gd hr.units) (by rfl) C4.repr gG (A0 (pv 2) A1)) (pv 4) (E9 _))))))
     E1)
    (A5 (B2 (P0 T5 (B5 (X6 hr.gd hr.units) (by rfl) C4.repr gG (A0 (a4A (P:=P) (w:=w) (K:=K) (mg:=mg) (base:=base) (k:=5) (ix:=0) hr.m rfl rfl (A0 (pv 2) A1)) A1)) (B5 (X6 hr.gd hr.units) (by rfl) C4.repr gG (A0 (pv 3) A1)) (E9 _)))))))),?_⟩
  walk_at "rd";obtain⟨d0,D0,N0⟩:∃ d,Dd H v d/\Nx 50 100000 d:=by
   rcases hv with ⟨a,rfl,ga⟩ | ⟨_,h⟩
   ·exact⟨_,.sc rfl,(ga.mono (m':=90000) (k':=250) (ao _) (ao _)).nx (by decide)⟩
   ·exact h
  refine⟨v,d0,rfl,D0,N0,?_⟩;rcases hv with ⟨a,rfl,ga⟩ | ⟨⟨t,ty,k⟩,_⟩
  ·refine⟨_, "str",⟨rfl,rfl⟩,_,.str a,true,by rfl,?_⟩;rw[if_pos rfl];refine⟨_,hW,a,rfl,ga,λH1 s1 hn=>?_,λp H1 d s1 D1 N1 ht=>?_⟩
   ·show if decide (V.non=V.non)=true then _ else _
    rw[if_pos (by decide)];refine⟨f0,_,Tell,rfl,hV,.inl ⟨a,rfl,ga.mono (ao _) (by decide),hn⟩,λH2 s2=>⟨true,rfl,?_⟩⟩;rw[if_pos rfl];refine⟨_,d0,rfl,D0.same (s1.trans s2),N0,rfl,?_⟩;rw[decide_eq_true rfl];exact q H2 (s1.trans s2)
   ·show if decide (V.ref p=V.non)=true then _ else _
    rw[if_neg (by simp)];refine⟨_,hV,_,rfl,.inl ⟨a,rfl,ga.mono (ao _) (by decide),λH2 s2 hn=>absurd ht (hn d),λp2 H2 d2 s2 D2 N2 ht2=>?_⟩⟩;obtain rfl:=uq a d d2 ht ht2;refine⟨_,d,rfl,D2,N2,_,d,rfl,D1.same s2,N1,rfl,?_⟩;rw[decide_eq_true rfl];exact q H2 (s1.trans s2)
  ·refine⟨_, "str",⟨rfl,rfl⟩,t,ty,false,k,?_⟩;rw[if_neg (by decide)];refine⟨f0,v,Tell,rfl,hV,.inr ⟨t,ty,k⟩,λH2 s2=>⟨true,rfl,?_⟩⟩;rw[if_pos rfl];refine⟨_,d0,rfl,D0.same s2,N0,rfl,?_⟩;rw[decide_eq_true rfl];exact q H2 s2
def dT (us:⋯):PyData:=.tuple ((us.map tl).map tI)
def a1n (a:Str)(d:PyData):Prop:=∃ us,TtS (C3 a (Str.ofString " ")) us/\d=dT us
theorem a5n (a:Str)(d d':PyData)(h:a1n a d)(h':a1n a d'):d=d':=by
 obtain⟨us,h1,rfl⟩:=h;obtain⟨vs,h2,rfl⟩:=h';rw[U8 h1.1 h2.1]
theorem a4f {l:List Int}(h:∀ x∈l,0<=x/\x<1000):Nc 0 1 l.length (.tuple (l.map bW)):=by
 have:=Nc.tup (Ncs.all (c:=0) (k:=0) (m:=0) (ds:=l.map bW) λd hd=>by
  obtain⟨x,hx,rfl⟩:=aQ.mp hd
  exact Nc.int (a2h (h x hx).1 (h x hx).2))
 rw[aa,Nat.mul_one] at this;exact this
theorem a8n {us:⋯}(h:a1Q 60 us)(hl:us.length<=1000):Nx 50 100000 (dT us):=by
 refine (Nc.tup (c:=0) (k:=1) (Ncs.all (m:=2) λd hd=>?_)).nx (by decide) (by rw[aa,aa];omega);obtain⟨l,hl',rfl⟩:=aQ.mp hd;obtain⟨t,ht,rfl⟩:=aQ.mp hl';have:=h t ht;refine a4f (l:=tl t) λx hx=>?_
 simp only[tl,aO,dF,or_false] at hx;omega
theorem W3 {H:Hp}:∀ l:List Int,Dds H (l.map V.int) (l.map bW)
 | []=>.nil
 | x::l=>.cons (.sc rfl) (W3 l)
theorem a6L {H:Hp}:∀ {ps:List (Addr×List Int)},(∀ x∈ps,H x.1=some (.tup (x.2.map V.int)))->Dds H (ps.map λx=>V.ref x.1) ((ps.map (·.2)).map tI)
 | [],_=>.nil
 | x::ps,h=>.cons (.tup (h x aD) (W3 x.2)) (a6L λy hy=>h y (aq _ hy))
theorem a5k {H:Hp}{p:Addr}{us:⋯}(h:a0a H p us):Dd H (.ref p) (dT us):=by
 obtain⟨ps,e,hp⟩:=h;have:=a6L hp.to;rw[hp.eq] at this;exact .tup e this
theorem a5B {H:Hp}{p:Addr}{as:List Addr}{ws:List Str}{us:⋯}(e:H p=some (.tup (as.map V.ref)))(r:RwT H as ws)(h:ws.map S1=us.map (λt=>[V.int t.1,V.int t.2])):a0a H p us:=by
 have hl:ws.length=us.length:=by have:=congrArg cz h;simpa using this
 have hl2:=r.1;refine⟨as.zip (us.map tl),?_,⟨λx hx=>?_,?_⟩⟩
 ·rw[e];have:as.map V.ref=((as.zip (us.map tl)).map (·.1)).map V.ref:=by rw[List.map_fst_zip (by rw[aa];omega)]
  rw[this,bC];rfl
 ·obtain⟨j,hj⟩:=bN.mp hx;rw[df] at hj;obtain⟨h1,h2⟩:=hj;rw[aJ] at h2;obtain⟨t,ht,h2⟩:=bR.mp h2;have hjl:j<ws.length:=by rw[hl];exact (aK.mp ht).1
  have h3:=r.2 j x.1 ws[j] h1 (ak hjl);have h4:(ws.map S1)[j]?=(us.map λt=>[V.int t.1,V.int t.2])[j]?:=by rw[h]
  rw[aJ,aJ,ak hjl,ht] at h4;rw[h3,aG h4,<- h2];rfl
 ·rw[List.map_snd_zip (by rw[aa];omega)]
theorem a8V {H:Hp}{p:Addr}{as:List Addr}{ws:List Str}{us:⋯}(e:H p=some (.tup (as.map V.ref)))(r:RwT H as ws)(h:a2T H 60 (.ref p) us):TtS ws us:=by
 obtain⟨a,ea,⟨ps,e1,hp⟩,h2,h3⟩:=h;cases ea;rw[e] at e1;injection e1 with e1
 injection e1 with e1
 have hpl:=hp.len;have hl:=r.1;have hal:as.length=ps.length:=by have:=congrArg cz e1;simpa using this
 refine⟨List.ext_getElem (by simp;omega) λj g1 g2=>?_,h2,h3⟩;rw[aa] at g1 g2;rw[fh,fh];have a1:(as.map V.ref)[j]?=(ps.map λx=>V.ref x.1)[j]?:=by rw[e1]
 rw[aJ,aJ,ak (by omega:j<as.length),ak (by omega:j<ps.length)] at a1;have a1:V.ref as[j]=V.ref ps[j].1:=aG a1;have a2:=r.2 j as[j] ws[j] (ak ∅) (ak g1);have a3:=hp.to ps[j] (cK _);rw[V.ref.inj a1,a3] at a2;injection a2 with a2
 injection a2 with a2
 have a4:(ps.map (·.2))[j]?=(us.map tl)[j]?:=by rw[hp.eq]
 rw[aJ,aJ,ak (by omega:j<ps.length),ak g2] at a4;have a4:ps[j].2=tl us[j]:=aG a4;rw[<- a2,a4];rfl
theorem W1 {m k:Nat}{x b:Str}(hb:b=Str.ofString ","\/b=Str.ofString " ")(h:Gt m k x):(C3 x b).length<=k+1:=by
 unfold C3;split
 ·exact bn _
 ·rcases hb with rfl | rfl
  ·exact h.splitC
  ·exact h.splitS
theorem U2 {K:ae}{C:Addr}:∀ vs H Q E,SpC K C a1n vs H Q E->T1 K C vs H Q E:=by
 rintro vs H Q E ⟨v,rfl,h⟩;refine⟨v,rfl,?_⟩;rcases h with ⟨a,rfl,ga,q1,q2⟩ | h
 ·refine .inl ⟨a,rfl,ga.len,λp H' as s np e r=>⟨λ⟨us,hu⟩=>?_,λhn=>q1 H' s λd ⟨us,hu,_⟩=>hn ⟨us,p,rfl,a5B e r hu.1,hu.2⟩⟩⟩;have hT:=a8V e r hu;have hl:us.length<=1000:=by
   have:=congrArg cz hT.1;have g:=W1 (b:=Str.ofString " ") (.inr rfl) ga;simp only[aa] at this;omega
  exact q2 p H' (dT us) s (a5k (a5B e r hT.1)) (a8n hT.2.1 hl) ⟨us,hT,rfl⟩
 ·exact .inr h
theorem a4H {K:ae}:∀ vs H Q E,SpR a1n vs H Q E->T8 K vs H Q E:=by
 rintro vs H Q E ⟨a,rfl,ga,q1,q2⟩;have g:=W1 (b:=Str.ofString " ") (.inr rfl) ga;refine⟨a,rfl,ga.len,∅,λH' s hn=>q1 H' s λd ⟨us,hu,_⟩=>hn us hu,λp H' us s np e hu=>?_⟩;have hl:us.length<=1000:=by
  have:=congrArg cz hu.1;simp only[aa] at this;omega
 exact q2 p H' (dT us) s (a5k e) (a8n hu.2.1 hl) ⟨us,hu,rfl⟩
def a0k (K:ae):Sp:=λvs H Q _=>∃(d:Addr),vs=[.ref d]/\N3 H d/\∀ H',Kp d H H'->N3 H' d->Q (.bl true) H'
def a1r (x:Int)(n:Nat):⋯:=(List.range n).map λ(j:Nat)=>(x,x+1+(j:Int))
def evT:Nat->⋯
 | 0=>[]
 | i+1=>evT i++a1r i ((60-((i:Int)+1)).toNat)
theorem a4w (x:Int)(n:Nat):a1r x (n+1)=a1r x n++[(x,x+1+(n:Int))]:=by unfold a1r;rw[List.range_succ,aF];rfl
theorem a3z:∀ i:Nat,i<=60->(∀ t∈evT i,0<=t.1/\t.1<i/\t.1<t.2/\t.2<60)/\(evT i).Pairwise Lex
 | 0,_=>⟨λt h=>(by cases h),.nil⟩
 | i+1,h=>by
  obtain⟨h1,h2⟩:=a3z i ∅;have hr:∀ t∈a1r i ((60-((i:Int)+1)).toNat),t.1=i/\(i:Int)<t.2/\t.2<60:=λt ht=>by
   obtain⟨j,hj,rfl⟩:=aQ.mp ht;have:=bf.mp hj;refine⟨rfl,?_,?_⟩
   ·show (i:Int)<(i:Int)+1+(j:Int);omega
   ·show (i:Int)+1+(j:Int)<60;omega
  refine⟨λt ht=>?_,?_⟩
  ·rcases aA.mp ht with ht | ht
   ·have:=h1 t ht;omega
   ·have:=hr t ht;omega
  ·refine bz.mpr ⟨h2,?_,λa ha b hb=>?_⟩
   ·unfold a1r;refine List.Pairwise.map _ ?_ ip;intro a b hab;show (i:Int)<i\/(i:Int)=i/\(i:Int)+1+(a:Int)<(i:Int)+1+(b:Int)
    omega
   ·have:=h1 a ha;have:=hr b hb;exact .inl ∅
theorem a1I:(evT 60).length=1770:=by decide +kernel
theorem a8Y {H:Hp}{ps:List (Addr×List Int)}{us:⋯}(h:K7 H ps us)(a b:Nat):K7 H ((ps.drop a).take b) ((us.drop a).take b) :=
 ⟨λx hx=>h.to x (iL (List.mem_of_mem_take hx)),by rw[eV,fZ,h.eq,eV,fZ]⟩
theorem a8Z {H:Hp}{ps qs:List (Addr×List Int)}{ts us:⋯}(h:K7 H ps ts)(h':K7 H qs us):K7 H (ps++qs) (ts++us):=⟨λx hx=>(aA.mp hx).elim (h.to x) (h'.to x),by rw[aF,aF,h.eq,h'.eq]⟩
def M6 (t:Int×Int):Str:=tS t.1++Str.ofString "-"++tS t.2
theorem a6e {n:Int}(h0:0<=n)(h1:n<60):nOf 60 (tS n)=.int n:=by
 unfold nOf;rw[(a1B (m:=60) (by decide)).mpr ⟨n.toNat,∅,by rw[bX h0],rfl⟩,bX h0];rfl
theorem a3M {n:Int}(h0:0<=n)(h1:n<60):45∉cs (tS n):=by
 have h:(List.range 60).all (λi=>decide (45∉cs (tS (i:Int))))=true:=by decide +kernel
 have:=br.mp h n.toNat (bf.mpr ∅);rw[bX h0] at this;exact of_decide_eq_true this
theorem a6Z {t:Int×Int}(h0:0<=t.1)(h1:t.1<60)(h2:0<=t.2)(h3:t.2<60):Gt 5 0 (M6 t)/\S1 (M6 t)=[V.int t.1,V.int t.2]/\cs (M6 t)≠[]:=by
 have e:M6 t=dE (sT [45]) [tS t.1,tS t.2]:=a1K (by
  rw[Q1];unfold M6;rw[R6,R6,show Str.ofString "-"=sT [45] by decide +kernel,b0T,bd]
  rfl)
 refine⟨((a0z h0 ∅).add (C0 (m:=1) (k:=0) (by decide +kernel))).add (a0z h2 ∅),?_,λh=>?_⟩
 ·unfold S1;rw[e,show Str.ofString "-"=sT [45] by decide +kernel,a0h (by simp) (A6 (a3M h0 h1) (A6 (a3M h2 h3) S9)),am,am,a6e h0 h1,a6e h2 h3];rfl
 ·rw[e,Q1] at h;have:45∈jn 45 ([tS t.1,tS t.2].map cs):=by
   show 45∈cs (tS t.1)++45::_;simp
  rw[h] at this;cases this
theorem b0L {m:Nat}{x:Str}(h:Gt m 0 x):32∉cs x:=λhm=>by
 have:=List.count_pos_iff.mpr hm;have:=h.sp;omega
theorem a0w {ws:List Str}(hn:ws≠[])(h:∀ w∈ws,32∉cs w/\cs w≠[]):C3 (dE (Str.ofString " ") ws) (Str.ofString " ")=ws:=by
 have hsp:Str.ofString " "=sT [32]:=by decide +kernel
 have hs:=a0h (c:=32) hn λw hw=>(h w hw).1
 unfold C3;rw[hsp];by_cases e:dE (sT [32]) ws=Str.ofString ""
 ·exfalso;have h2:=a0i (dE (sT [32]) ws) 32;rw[hs,e] at h2;have h3:ws.map cs=[[]]:=h2;cases ws with
  | nil=>cases h3
  | cons w ws=>exact (h w aD).2 (cA h3).1
 ·rw[if_neg e,hs]
theorem a2V {vs:⋯}(hok:a1Q 60 vs)(hpw:vs.Pairwise Lex):TtS (vs.map M6) vs/\∀ w∈vs.map M6,Gt 5 0 w/\32∉cs w/\cs w≠[]:=by
 have key:∀ t∈vs,Gt 5 0 (M6 t)/\S1 (M6 t)=[V.int t.1,V.int t.2]/\cs (M6 t)≠[]:=λt ht=>by
  have:=hok t ht;exact a6Z ∅ ∅ ∅ ∅
 refine⟨⟨by rw[bC];exact fT λt ht=>(key t ht).2.1,hok,hpw⟩,λw hw=>?_⟩;obtain⟨t,ht,rfl⟩:=aQ.mp hw;exact⟨(key t ht).1,b0L (key t ht).1,(key t ht).2.2⟩
theorem a4j {ws:List Str}(h:∀ w∈ws,Gt 5 0 w)(hl:ws.length<=440):Gt 90000 450 (dE (Str.ofString " ") ws):=by
 rw[show Str.ofString " "=sT [32] by decide +kernel];exact (Gt.join (n:=440) (.inr rfl) hl h).mono (by decide) (by decide)
theorem a5h {vs:⋯}{t:Int×Int}(h:TtS ((vs++[t]).map M6) (vs++[t])):∀ us,¬ TtS ((vs++[t]).map M6++[M6 t]) us:=λus hu=>by
 have e:((vs++[t]).map M6++[M6 t]).map S1=(vs++[t]++[t]).map λt=>[V.int t.1,V.int t.2]:=by
  rw[aF,h.1,aF (l₁:=vs++[t])];have h1:=h.1;rw[aF,aF,aF] at h1;have h2:=List.append_inj_right' h1 rfl;rw[show [M6 t]=[t].map M6 from rfl,h2]
 have:=U8 e hu.1;rw[<- this] at hu;have hp:=(List.pairwise_append.mp hu.2.2).2.2 t (by simp) t (by simp);unfold Lex at hp;omega
def a9D (Hb:Hp)(d p:Addr)(i:Nat)(σ:St)(Hc:Hp):Prop:=∃(c:Option V) (ps:List (Addr×List Int)),σ=[some (.ref d),some (.ref p),c,none,none,none]/\B1 Hb Hc/\Hc p=some (.lst (ps.map λx=>V.ref x.1))/\K7 Hc ps (evT i)
def a9C (Hb:Hp)(rl:Addr)(x:Int)(i:Nat)(τ:St)(Hc:Hp):Prop:=∃(c:Option V) (ps:List (Addr×List Int)),τ=[c,some (.int x)]/\B1 Hb Hc/\Hc rl=some (.lst (ps.map λx=>V.ref x.1))/\K7 Hc ps (a1r x i)
def a9B (Hb:Hp)(wl:Addr)(vs:⋯)(i:Nat)(τ:St)(Hc:Hp):Prop:=∃(c c':Option V),τ=[c,c']/\B1 Hb Hc/\Hc wl=some (.lst (((vs.take i).map M6).map V.str))
theorem a0p:B9 ["_law_deck_here","_law_every","_law_one","_law_at","_law_some","_law_words_here"] ["_law_deck_here"] (A9 (top 38)):=by walk_at "s"
theorem a3o (F:Fun K "_law_crowd_holds" "_law_crowd_holds" (top 38) f fd)(B:Bt mg){cNoText:Addr}(ZNoText:P3 K mg "NoText" cNoText)(D1:Df K mg "_law_next" st1 f1 fd1 ["_law_deck_here"])(G1:B8 P w K mg base CX0 1 f1 fd1 ["_law_deck_here"] T2)(D2:Df K mg "read_tree" st2 f2 fd2 ["thing"])(G2:B8 P w K mg base (CX1 P w) 5 f2 fd2 ["thing"] (T1 K cNoText))(D3:Df K mg "_law_refused" st3 f3 fd3 ["_law_call","_law_thing"])(G3:B8 P w K mg base CX0 6 f3 fd3 ["_law_call","_law_thing"] (R0 P w K mg base cNoText))(C:Bt2 mg)(C4:Bt4 mg)(C5:Bt5 mg):B8 P w K mg base CX0 8 f fd ["_law_deck_here"] (a0k K):=by
 refine F.ok a0p (λvs H Q E h=>?_) (λcdv A outer s H vs Q E hr h=>?_)
 ·walk_at "h"
 ·obtain⟨d,rfl,hd,q⟩:=h;have nd:=a0p.nd;have hu:=K0 hr
  refine⟨_,(A3 (@V6 _ _ _ _ 1 _ _ _ nd rfl (.inl rfl) A1 (by first | exact .inl rfl | exact .inr rfl | assumption))
    (A3 (Q3 cc rfl (P4 (by rfl) B.range (A0 A4 A1)) (C9 (i:=2) nd rfl (.inr rfl))
     (A5 (R3 (a7M K (pv 1) (A0 (Q6 (own:=["_law_other"]) (fr:=[("_law_one",2)]) rfl (by walk_at "w") (Q8 rfl rfl K5) (X8 (by rfl) B.range (A0 (A8 L9 (pv 2) A4) (A0 A4 A1))) ⟨λ_ _ _ _=>⟨(C9 (i:=0) (show cD (["_law_other","_law_one"]:List Str) by decide +kernel) rfl (.inl rfl)),M7,(X9 (A0 (pv 1) (A0 (pv 0) A1)))⟩⟩) A1)))))
    (A3 (@R1 _ _ _ 3 _ _ _ _ _ _ nd rfl (.inl rfl) (A8 U4 (A8 M3 (C1 G1 D1 hr.m (A0 (pv 0) A1)) A4) A4) (by first | exact .inl rfl | exact .inr rfl | assumption))
    (A3 (E4 (i:=4) nd rfl (.inl rfl) (C6 (E7 K) (pv 1) (C8 (pv 3)) (C8 (A8 L9 (A8 L9 (pv 3) A4) (A8 M3 (C1 G1 D1 hr.m (A0 (pv 0) A1)) A4)))))
    (A3 (S4 (i:=5) (own:=["_law_one","_law_other"]) (fr:=[]) rfl nd rfl rfl (by walk_at "w") (by walk_at "w") K5 (K4 K (pv 4)) ⟨λ_ _ _ _=>⟨(a1w K (n:=2) rfl (Q5 (C9 (i:=0) (show cD (["_law_one","_law_other"]:List Str) by decide +kernel) rfl (.inl rfl)) (Q5 (C9 (i:=1) (show cD (["_law_one","_law_other"]:List Str) by decide +kernel) rfl (.inl rfl)) a1v))),M7,(A8 L3 (A8 L3 (E2 K3 (by rfl) C5.str eU (A0 (pv 0) A1)) B0) (E2 K3 (by rfl) C5.str eU (A0 (pv 1) A1)))⟩⟩)
    (A3 (J9 (K1 a8k (B5 (X6 hr.gd hr.units) (by rfl) C4.repr gG (A0 (a7o G2 D2 hr.m (A0 (a3t K B0 (A0 (pv 5) A1)) A1)) A1)) (B5 (X6 hr.gd hr.units) (by rfl) C4.repr gG (A0 (E2 (T6 K) (by rfl) B.tuple dJ (A0 (pv 4) A1)) A1)) (E9 _))
     (A5 (B2 Q7))
     E1)
    (A5 (B2 (C1 G3 D3 hr.m (A0 (J7 rfl D2.m (show B6 (V.ref _) _ from rfl)) (A0 (a3t K B0 (A0 (A8 K6 (pv 5) (C6 (E7 K) (pv 5) (C8 (a8h a5f A4)) F0)) A1)) A1))))))))))),?_⟩
  simp only[L2.P9,st0,am,cT,az,b8,List.replicate,dh,cS,Nat.reduceAdd,Nat.reduceSub];walk_at "rd";refine⟨by decide,λp np=>?_⟩;rw[T0];walk_at "rd";have s1:=(B1.refl H).upd (o:=.lst []) np;refine⟨by decide,by decide,P5 (lo:=0) (n:=60) (a9D H d p) ⟨none,[],rfl,s1,A2,⟨λx hx=>(by cases hx),rfl⟩⟩ ?_ ?_⟩
  ·rintro i σ Hc hi ⟨c,ps,rfl,sc,hc,hps⟩;rw[iN];walk_at "rd";have hll:=(a3z i ∅).1;refine⟨.inl ⟨rfl,_,SqL.of hc⟩,_,_,⟨rfl,rfl⟩,⟨∅,∅,by decide,by decide⟩,λrl nr=>?_⟩;refine a2G (lo:=(i:Int)+1) (a9C Hc rl i) ⟨none,[],rfl,(B1.refl Hc).upd nr,A2,⟨λx hx=>(by cases hx),rfl⟩⟩ ?_ ?_
   ·rintro j τ Hd hj ⟨c,qs,rfl,sd,hd',hqs⟩;walk_at "rd";refine⟨by decide,λa na=>?_⟩;have hal:a≠rl:=λe=>by rw[e,hd'] at na;cases na
    have e1:=(A7 (H:=Hd) (o:=.tup [.int i,.int ((i:Int)+1+j)]) (λe=>hal e.symm)).trans hd';have ql:qs.length<=60:=by have:=hqs.len;unfold a1r at this;rw[aa,cH] at this;omega
    refine⟨_,e1,by rw[aa];exact B4 ∅,_,qs++[(a,tl ((i:Int),(i:Int)+1+j))],rfl,(sd.upd (sd.free na)).upd nr,by rw[A2,aF];rfl,?_⟩;rw[a4w];refine (hqs.tp ((Tp.nw na).trans (Tp.lst e1))).snoc ?_;rw[A7 hal,A2]
   ·rintro τ Hd ⟨c,qs,rfl,sd,hd',hqs⟩;have hpr:p≠rl:=λe=>by rw[e] at hc;rw[hc] at nr;cases nr
    have pl:ps.length<=10000:=by
     have:=hps.len;have:=a1I;have h:∀ j k:Nat,(evT j).length<=(evT (j+k)).length:=λj k=>by
      induction k with
      | zero=>exact ao _
      | succ k ih=>exact aH ih (by show _<=(evT (j+k)++_).length;rw[aB];omega)
     have:=h i (60-i);rw[show i+(60-i)=60 by omega] at this;omega
    have ql:qs.length<=60:=by have:=hqs.len;unfold a1r at this;rw[aa,cH] at this;omega
    refine⟨_,sd _ _ hc,_,hd',by rw[aa,aa];exact bT (B4 ∅),_,ps++qs,rfl,?_,by rw[A2,aF],?_⟩
    ·exact (sc.trans sd).upd np
    ·exact (a8Z (hps.tp sd.tp) hqs).tp (Tp.lst (sd _ _ hc))
  ·rintro σ H1 ⟨c,ps,rfl,s1,hp,hps⟩;walk_at "rd";have hpd:p≠d:=hd.ne np;have d1:=hd.same s1;refine L8 d1 λz H2 k2 d2 z0 z1=>⟨z,rfl,by decide,.inl ⟨∅,∅⟩,L8 d2 λy H3 k3 d3 y0 y1=>⟨y,rfl,by decide,?_⟩⟩
   have kA:=(s1.kp (d:=d)).trans (k2.trans k3);have p3:=k3 _ _ hpd (k2 _ _ hpd hp);have q3:=(hps.tp (k2.tp d1)).tp (k3.tp d2);obtain⟨a,ha,ha'⟩:∃ a:Nat,z % 10*150=(a:Int)/\a<=1350:=⟨(z % 10*150).toNat,∅,∅⟩
   obtain⟨b,hb,hb0,hb'⟩:∃ b:Nat,(a:Int)+201+y % 200=((a+b:Nat):Int)/\1<=b/\b<=400:=⟨(201+y % 200).toNat,∅,∅,∅⟩
   rw[ha,hb];have hl:=hps.len;rw[a1I] at hl;refine a1p p3 λso H4 no s4 e4=>?_
   have ec:S7 (ps.map λx=>V.ref x.1) (some (a:Int)) (some ((a+b:Nat):Int))=((ps.drop a).take b).map λx=>V.ref x.1:=by
    unfold S7 HT.sIx;simp only[aa,hl];rw[if_neg ∅,if_neg ∅,eV,fZ];congr 1
    ·omega
    ·congr 1;omega
   rw[ec] at e4;have h0:=a3z 60 (ao _);have c4:=(a8Y q3 a b).tp s4.tp;generalize eps:(ps.drop a).take b=qs at *
   obtain⟨vs,evs,vl,vok,vpw⟩:∃ vs,((evT 60).drop a).take b=vs/\vs.length=b/\a1Q 60 vs/\vs.Pairwise Lex:=by
    have sb:(((evT 60).drop a).take b).Sublist (evT 60):=(cY _ _).trans (dy _ _);refine⟨_,rfl,?_,λt ht=>?_,h0.2.sublist sb⟩
    ·rw[bq,fg,a1I];omega
    ·have:=h0.1 t (sb.subset ht);omega
   rw[evs] at c4;obtain⟨tT,tG⟩:=a2V vok vpw;refine⟨so,rfl,⟨_,SqL.of e4⟩,λwl nw=>P1 (K:=K) (xs:=qs.map λx=>V.ref x.1) (a9B H4 wl vs) ⟨none,none,rfl,(B1.refl H4).upd nw,A2⟩ ?_ ?_ ?_⟩
   ·rintro i τ Hd _ ⟨_,_,rfl,sd,_⟩;exact sd.seq (SqL.of e4)
   ·rintro i v τ Hd hv ⟨c1,c2,rfl,sd,hd'⟩ _;obtain⟨x,t,rfl,hti,hx⟩:=c4.get hv;have htr:=vok t (aU hti);have hil:=(aK.mp hti).1;walk_at "rd";have g1:=(a0z htr.1 (by omega:t.1<100)).len;have g2:=(a0z (by omega:0<=t.2) (by omega:t.2<100)).len;have g0:(Str.ofString "-").length<=1:=by decide +kernel
    refine⟨_,SqT.of (sd _ _ hx),rfl,_,_,rfl,_,_,rfl,rfl,t.1,rfl,V9 htr.1 ∅,_,rfl,_,rfl,?_,t.2,rfl,V9 ∅ ∅,_,rfl,_,rfl,?_,_,hd',by rw[aa,aa,bq];exact B4 ∅,_,_,rfl,sd.upd nw,?_⟩
    ·exact bT (B4 (aH (bA g1 g0) (by decide)))
    ·refine bT (B4 (aH (bA (b:=3) ?_ g2) (by decide)));rw[<- M4,R6,aB,M4,M4];exact bA g1 g0
    ·rw[A2,cw,hti,aF,aF];rfl
   ·rintro τ H5 ⟨c1,c2,rfl,s5,hw⟩;have hql:qs.length=vs.length:=c4.len;rw[aa,hql,ci] at hw;have e5:=s5 _ _ e4;have wl8:(vs.map M6).length=b:=by rw[aa];exact vl
    have wne:vs.map M6≠[]:=λe=>by rw[e] at wl8;simp at wl8;omega
    have hJ:=a4j (λw hw=>(tG w hw).1) (by omega:(vs.map M6).length<=440);have hI:=a0w wne λw hw=>(tG w hw).2
    have sm:=Gt.sum (m:=5) (k:=0) λw hw=>(tG w hw).1
    refine⟨by first | exact rfl | exact trivial | constructor,_,rfl,vs.map M6,SqL.of hw,?_,?_⟩
    ·rw[show (Str.ofString " ").length=1 by decide +kernel];omega
    refine U2 _ _ _ _ ⟨_,rfl,.inl ⟨_,rfl,hJ,λH6 s6 hn=>absurd ⟨vs,by rw[hI];exact tT,rfl⟩ (hn (dT vs)),λpr H6 dd s6 D6 N6 ⟨us,hu,hd6⟩=>?_⟩⟩;rw[hI] at hu;have:=U8 tT.1 hu.1;subst this;subst hd6;refine⟨_,_,rfl,D6,N6,so,rfl,_,.inl ⟨SqL.of (s6 _ _ e5),λl nl=>?_⟩⟩;have s7:=(B1.refl H6).upd (o:=.tup (qs.map λx=>V.ref x.1)) nl;refine⟨_,_,rfl,a5k ⟨qs,A2,((c4.tp s5.tp).tp s6.tp).tp s7.tp⟩,N6,rfl,?_⟩;rw[if_neg (by simp)];obtain⟨v0,t,rfl⟩:∃ v0 t,vs=v0++[t]:=by
     rcases List.eq_nil_or_concat vs with e | ⟨v0,t,e⟩
     ·rw[e] at wne;exact absurd rfl wne
     ·exact⟨v0,t,by rw[e,List.concat_eq_append]⟩
    have w7:=s7 _ _ (s6 _ _ hw);generalize upd H6 l (.tup (qs.map λx=>V.ref x.1))=H7 at *
    refine⟨by first | exact rfl | exact trivial | constructor,a1p w7 λp8 H8 n8 s8 e8=>?_⟩;have ec2:S7 (((v0++[t]).map M6).map V.str) (some (-1)) none=[V.str (M6 t)]:=by
     unfold S7 HT.sIx;simp only[aF,aB,aa,am,cT,az,b8];rw[if_pos (by decide),show ((-1:Int)+((v0.length+(0+1):Nat):Int)).toNat=v0.length by omega,show v0.length+(0+1)-v0.length=1 by omega];rw[List.drop_append_of_le_length (by simp)];rw[List.drop_eq_nil_of_le (by simp)];rfl
    rw[ec2] at e8;refine N9 (s8 _ _ w7) e8 (by rw[aa];show _+1<=_;omega) λp9 H9 n9 s9 e9=>⟨_,rfl,p9,rfl,(v0++[t]).map M6++[M6 t],SqL.of (by rw[e9];simp only[aF];rfl),?_,?_⟩
    ·rw[show (Str.ofString " ").length=1 by decide +kernel,aF,fR,aB];have:=(tG (M6 t) (by simp)).1.len;show _+((M6 t).length+0)+(_+1)*1<=_;omega
    have g9:∀ w∈(v0++[t]).map M6++[M6 t],Gt 5 0 w/\32∉cs w/\cs w≠[]:=λw hw=>by
     rcases aA.mp hw with hw | hw
     ·exact tG w hw
     ·rw[au.mp hw];exact tG _ (by simp)
    have hJ2:=a4j (λw hw=>(g9 w hw).1) (by rw[aB];show _+1<=440;omega);have hI2:=a0w (by simp) λw hw=>(g9 w hw).2
    refine⟨_,_,a1n,rfl,FnV.of G2 D2 (ao 5) U2,.inl ⟨_,rfl,hJ2,λdd ⟨us,hu,_⟩=>?_⟩,λHA sA=>?_⟩
    ·rw[hI2] at hu;exact a5h tT us hu
    ·have kB:=((((kA.trans s4.kp).trans s5.kp).trans (s6.trans (s7.trans s8)).kp).trans s9.kp).trans sA.kp;exact q HA kB (((((d3.same s4).same s5).same (s6.trans (s7.trans s8))).same s9).same sA)
def a7H (a d:Addr)(i:Nat)(σ:St)(Hc:Hp):Prop:=∃ v2 v3 v4 v5 v6 v7 v8:Option V,σ=[some (.ref a),some (.ref d),v2,v3,v4,v5,v6,v7,v8]/\N3 Hc d
def a2S (a:Str)(d:PyData):Prop:=∃ ks:List Int,(C3 a (Str.ofString ",")).map (nOf 60)=ks.map V.int/\ks.Pairwise (·<·)/\d=.tuple (ks.map bW)
theorem a5o (a:Str)(d d':PyData)(h:a2S a d)(h':a2S a d'):d=d':=by
 obtain⟨us,h1,_,rfl⟩:=h;obtain⟨vs,h2,_,rfl⟩:=h';rw[a0y (h1.symm.trans h2)]
theorem a1Z {ws:List Str}{ks:List Int}(h:ws.map (nOf 60)=ks.map V.int)(hl:ws.length<=1000):Nx 50 100000 (.tuple (ks.map bW)):=by
 have e:=a1C h;have hp:=a6g h;have hlen:ks.length<=1000:=by rw[e,aa];exact hl
 refine (a4f λx hx=>?_).nx (by decide) ∅;rw[e] at hx;have h0:=hp x hx;obtain⟨w,_,rfl⟩:=aQ.mp hx;rcases V8 w with ⟨_,e2,_⟩ | ⟨i,hi,_,_,e2⟩<;>omega
theorem a3f {K:ae}{C:Addr}:∀ vs H Q E,SpC K C a2S vs H Q E->W7 K C vs H Q E:=by
 rintro vs H Q E ⟨v,rfl,h⟩;refine⟨v,rfl,?_⟩;rcases h with ⟨a,rfl,ga,q1,q2⟩ | h
 ·have g:=W1 (b:=Str.ofString ",") (.inl rfl) ga;refine .inl ⟨a,rfl,ga.len,λH' s hn=>q1 H' s λd ⟨ks,h1,h2,_⟩=>hn ks h1 h2,λp H' ks s np e h1 h2=>q2 p H' _ s (.tup e (W3 ks)) (a1Z h1 ∅) ⟨ks,h1,h2,rfl⟩⟩
 ·exact .inr h
theorem a2F {K:ae}:∀ vs H Q E,SpR a2S vs H Q E->T9 K vs H Q E:=by
 rintro vs H Q E ⟨a,rfl,ga,q1,q2⟩;have g:=W1 (b:=Str.ofString ",") (.inl rfl) ga;exact⟨a,rfl,ga.len,∅,λH' s hn=>q1 H' s λd ⟨ks,h1,h2,_⟩=>hn ks h1 h2,λp H' ks s np e h1 h2=>q2 p H' _ s (.tup e (W3 ks)) (a1Z h1 ∅) ⟨ks,h1,h2,rfl⟩⟩
theorem a6V {us:List Str}{c:Nat}(hc:c=44\/c=32)(hl:us.length<=40)(hs:(us.map (·.length)).sum<=6200)(h:∀ u∈us,Gt 6000 1 u):Gt 6240 80 (dE (sT [c]) us):=by
 have g:=Gt.join (n:=40) hc hl h;refine⟨?_,g.asc,g.cm,g.sp⟩;rw[<- M4,Q1];have:=a3u c (us.map cs);have e:((us.map cs).map cz)=us.map (·.length):=by rw[bC];exact fT λx _=>M4 x
 rw[e,aa] at this;omega
def Tq (H:Hp)(v:V):Prop:=(∃ a:Str,v=.str a/\Gt 90000 250 a)\/((∃ T,Pl H v T/\T≠"str")/\∃ d,Dd H v d/\Nx 50 100000 d)
theorem Tq.same {H H':Hp}{v:V}(h:Tq H v)(s:B1 H H'):Tq H' v:=h.imp id λ⟨⟨T,p,n⟩,d,h1,h2⟩=>⟨⟨T,p.mono s,n⟩,d,h1.same s,h2⟩
theorem Tq.th {K:ae}{H:Hp}{v:V}(h:Tq H v):b0X K H v:=h.imp id λ⟨⟨T,p,n⟩,r⟩=>⟨⟨_,p.ty,by cases p<;>first | rfl | exact absurd rfl n⟩,r⟩
theorem a2Y {m k:Nat}{H:Hp}{x:Str}(h:Gt m k x)(hm:m<=90000)(hk:k<=250):Tq H (.str x):=.inl ⟨x,rfl,h.mono hm hk⟩
theorem a2N {H:Hp}:∀ ws:List Str,Dds H (ws.map V.str) (ws.map PyData.str)
 | []=>.nil
 | x::l=>.cons (.sc rfl) (a2N l)
theorem a5l {H:Hp}{p:Addr}{ws:List Str}(e:H p=some (.tup (ws.map V.str)))(hl:ws.length<=8)(hg:∀ w∈ws,Gt 5 0 w):Tq H (.ref p):=by
 refine .inr ⟨⟨"tuple",.tup e,by decide⟩,_,.tup e (a2N ws),?_⟩;refine (Nc.tup (c:=0) (k:=0) (Ncs.all (m:=5) λd hd=>?_)).nx (by decide) (by rw[aa];omega);obtain⟨w,hw,rfl⟩:=aQ.mp hd;refine Nc.str (br.mpr λc hc=>?_) (hg w hw).len;exact decide_eq_true (cW ((hg w hw).asc c hc) (by decide))
theorem a8y {H:Hp}:Tq H .non:=.inr ⟨⟨_,.non,by decide⟩,_,.sc rfl,(Nc.none (c:=0) (k:=0) (m:=0)).nx (by decide) (by decide)⟩
theorem a8A {H:Hp}:Tq H (.int 7):=.inr ⟨⟨_,.int 7,by decide⟩,_,.sc rfl,(Nc.int (c:=0) (k:=0) (m:=0) (a2h (by decide) (by decide))).nx (by decide) (by decide)⟩
theorem a9Y {H:Hp}{b:Bool}:Tq H (.bl b):=.inr ⟨⟨_,.bl b,by decide⟩,_,.sc rfl,(Nc.bool (c:=0) (k:=0) (m:=0)).nx (by decide) (by decide)⟩
theorem a8z {H:Hp}{p:Addr}(e:H p=some (.lst [])):Tq H (.ref p):=.inr ⟨⟨_,.lst e,by decide⟩,_,.lst e .nil,(Nc.lst (k:=0) (m:=0) .nil).nx (by decide) (by decide)⟩
theorem a8x {H:Hp}{p:Addr}(e:H p=some (.tup [])):Tq H (.ref p):=.inr ⟨⟨_,.tup e,by decide⟩,_,.tup e .nil,(Nc.tup (c:=0) (k:=0) (m:=0) .nil).nx (by decide) (by decide)⟩
theorem a8B {H:Hp}{p:Addr}(e:H p=some (.dK [])):Tq H (.ref p):=.inr ⟨⟨_,.dK e,by decide⟩,_,.dct e (λkv h=>nomatch h),(Nc.dict0 (k:=0) (m:=0)).nx (by decide) (by decide)⟩
def a7B (Hb:Hp)(pt:Addr)(jv:V)(i:Nat)(τ:St)(Hc:Hp):Prop:=∃(c:Option V) (us:List Str),τ=[c,some jv]/\B1 Hb Hc/\Hc pt=some (.lst (us.map V.str))/\us.length=i/\∀ u∈us,Gt 6240 80 u
def a7I (Hb:Hp)(fr:List (Option V))(i:Nat)(σ:St)(Hc:Hp):Prop:=∃ v8:Option V,σ=fr++[v8]/\B1 Hb Hc
theorem a2o:B9 ["_law_script","_law_deck_here","_law_turn","_law_call","_law_reading","_law_words_here","_law_joint","_law_things","_law_thing"] ["_law_script"] (A9 (top 39)):=by walk_at "s"
theorem a5W (F:Fun K "law" "law" (top 39) f fd)(B:Bt mg){cNoText:Addr}(ZNoText:P3 K mg "NoText" cNoText)(D1:Df K mg "_law_deck" st1 f1 fd1 ["_law_script","_law_many"])(G1:B8 P w K mg base CX0 2 f1 fd1 ["_law_script","_law_many"] (a3U K))(D2:Df K mg "_law_crowd_holds" st2 f2 fd2 ["_law_deck_here"])(G2:B8 P w K mg base CX0 8 f2 fd2 ["_law_deck_here"] (a0k K))(D3:Df K mg "_law_words" st3 f3 fd3 ["_law_deck_here","_law_is_tree"])(G3:B8 P w K mg base CX0 2 f3 fd3 ["_law_deck_here","_law_is_tree"] (Y6 K))(D4:Df K mg "_law_bent_words" st4 f4 fd4 ["_law_deck_here","_law_words_here","_law_is_tree"])(G4:B8 P w K mg base CX0 2 f4 fd4 ["_law_deck_here","_law_words_here","_law_is_tree"] (Y7 K))(D5:Df K mg "_law_bent_signs" st5 f5 fd5 ["_law_deck_here","_law_text"])(G5:B8 P w K mg base CX0 2 f5 fd5 ["_law_deck_here","_law_text"] (Y8 K))(D6:Df K mg "_law_judged" st6 f6 fd6 ["_law_call","_law_reading","_law_thing"])(G6:B8 P w K mg base CX0 7 f6 fd6 ["_law_call","_law_reading","_law_thing"] (Y9 P w K mg base cNoText))(D7:Df K mg "_law_places" st7 f7 fd7 ["_law_text"])(G7:B8 P w K mg base CX0 2 f7 fd7 ["_law_text"] (T9 K))(D8:Df K mg "_law_ties" st8 f8 fd8 ["_law_text"])(G8:B8 P w K mg base CX0 2 f8 fd8 ["_law_text"] (T8 K))(D9:Df K mg "read_places" st9 f9 fd9 ["thing"])(G9:B8 P w K mg base (CX1 P w) 4 f9 fd9 ["thing"] (W7 K cNoText))(D10:Df K mg "read_tree" st10 f10 fd10 ["thing"])(G10:B8 P w K mg base (CX1 P w) 5 f10 fd10 ["thing"] (T1 K cNoText))(C:Bt2 mg)(C4:Bt4 mg)(C5:Bt5 mg):B8 P w K mg base CX0 9 f fd ["_law_script"] (sp_law K):=by
 refine F.ok a2o (λvs H Q E h=>?_) (λcdv A outer s H vs Q E hr h=>?_)
 ·walk_at "h"
 ·obtain⟨a,ns,rfl,hS,hl,q⟩:=h;have nd:=a2o.nd;have hu:=K0 hr
  refine⟨_,((E4 (i:=1) nd rfl (.inl rfl) (C1 G1 D1 hr.m ((pv 0)<*>(A4<*>A1))))<*
    ((@J9 _ _ _ _ _ _ _ _ (M9 (M8 (C1 G2 D2 hr.m ((pv 1)<*>A1))))
     (@A5 _ _ _ (B2 Q7))
     E1)<*
     ((Q3 cc rfl (P4 (by rfl) B.range (A4<*>A1)) (C9 (i:=2) nd rfl (.inl rfl))
     ((E4 (i:=3) nd rfl (.inl rfl) ((@K2 _ _ _ _ ((J7 rfl D9.m (show B6 (V.ref _) _ from rfl))<*>((J7 rfl D10.m (show B6 (V.ref _) _ from rfl))<*>A1)))<|>((pv 2)&&&A4)))<*
     ((E4 (i:=4) nd rfl (.inl rfl) ((@K2 _ _ _ _ ((J7 rfl D7.m (show B6 (V.ref _) _ from rfl))<*>((J7 rfl D8.m (show B6 (V.ref _) _ from rfl))<*>A1)))<|>((pv 2)&&&A4)))<*
     ((E4 (i:=5) nd rfl (.inl rfl) (C1 G3 D3 hr.m ((pv 1)<*>((P0 T5 ((pv 2)&&&A4) A4 (E9 _))<*>A1))))<*
     ((E4 (i:=6) nd rfl (.inr rfl) ((@K2 _ _ _ _ (B0<*>(B0<*>A1)))<|>((pv 2)&&&A4)))<*
     ((S4 (i:=7) (own:=["_law_row"]) (fr:=[("_law_joint",6)]) rfl nd rfl rfl (by walk_at "w") (by walk_at "w") (Q8 rfl rfl K5) (K4 K (C1 G4 D4 hr.m ((pv 1)<*>((pv 5)<*>((P0 T5 ((pv 2)&&&A4) A4 (E9 _))<*>A1))))) ⟨λ_ _ _ _=>⟨(C9 (i:=0) (show cD (["_law_row","_law_joint"]:List Str) by decide +kernel) rfl (.inl rfl)),M7,(a3t K (pv 1) ((pv 0)<*>A1))⟩⟩)<*
     ((@R1 _ _ _ 7 _ _ _ _ _ _ nd rfl (.inl rfl) (@A8 _ _ _ _ _ _ _ _ K6 (@A8 _ _ _ _ _ _ _ _ K6 (pv 7) (C1 G5 D5 hr.m ((pv 1)<*>(((pv 7)<|>A4)<*>A1)))) (@K2 _ _ _ _ (R4<*>(A4<*>(Q7<*>((@K2 _ _ _ _ A1)<*>((@X9 _ _ _ _ _ A1)<*>(a5N<*>((E2 (T6 K) (by rfl) B.tuple dJ ((pv 5)<*>A1))<*>((@A8 _ _ _ _ _ _ _ _ L3 ((pv 7)<|>A4) B0)<*>A1)))))))))) (by first | exact .inl rfl | exact .inr rfl | assumption))<*
     (@A5 _ _ _ (Q3 cc rfl (K4 K (pv 7)) (C9 (i:=8) nd rfl (.inl rfl))
      (@A5 _ _ _ (@J9 _ _ _ _ _ _ _ _ (M9 (M8 (C1 G6 D6 hr.m ((pv 3)<*>((pv 4)<*>((pv 8)<*>A1))))))
       (@A5 _ _ _ (B2 Q7))
       E1)))))))))))<*
     (@A5 _ _ _ (B2 Q7))))),?_⟩
  simp only[L2.P9,st0,am,cT,az,b8,List.replicate,dh,cS,Nat.reduceAdd,Nat.reduceSub];walk_at "rd";refine⟨a,500,ns,rfl,hS,hl,by decide,by decide,λd ds H1 hdl s1 nd1 hd1=>?_⟩;have dk1:N3 H1 d:=⟨ds,hd1,hdl⟩
  clear hS hl hd1 hdl s1 nd1;refine⟨d,rfl,dk1,λH2 k2 d2=>⟨true,rfl,?_⟩⟩;clear k2 dk1;rw[if_neg (by decide)];rw[T0];walk_at "rd";refine⟨by decide,by decide,P5 (lo:=0) (n:=6) (a7H a d) ⟨_,_,_,_,_,_,_,rfl,d2⟩ ?_ ?_⟩
  ·clear q d2;rintro i σ Hc hi ⟨v2,v3,v4,v5,v6,v7,v8,rfl,dc⟩;rw[b0R];simp only[i4,i3];obtain⟨fc,fr,c,Tell,hc1,hc2,hc3,hcc,V1,V2,uq⟩:∃(fc fr:Addr) (c:Nat) (Tell:Str->PyData->Prop),atI [V.ref f9,V.ref f10] ((0+(i:Int)) % 2)=some (.ref fc)/\atI [V.ref f7,V.ref f8] ((0+(i:Int)) % 2)=some (.ref fr)/\atI [V.str (Str.ofString ","),V.str (Str.ofString " ")] ((0+(i:Int)) % 2)=some (.str (sT [c]))/\(c=44\/c=32)/\FnV P w K mg base (CX1 P w) 5 fc (SpC K cNoText Tell)/\FnV P w K mg base CX0 5 fr (SpR Tell)/\∀ a d d',Tell a d->Tell a d'->d=d':=by
    have h44:Str.ofString ","=sT [44]:=by decide +kernel
    have h32:Str.ofString " "=sT [32]:=by decide +kernel
    rcases (by omega:(0+(i:Int)) % 2=0\/(0+(i:Int)) % 2=1) with h | h
    ·exact⟨f9,f7,44,a2S,by rw[h];rfl,by rw[h];rfl,by rw[h,h44];rfl,.inl rfl,FnV.of G9 D9 (by decide) a3f,FnV.of G7 D7 (by decide) a2F,a5o⟩
    ·exact⟨f10,f8,32,a1n,by rw[h];rfl,by rw[h];rfl,by rw[h,h32];rfl,.inr rfl,FnV.of G10 D10 (by decide) U2,FnV.of G8 D8 (by decide) a4H,a5n⟩
   walk_at "rd";refine⟨by decide,λp1 n1=>B7 n1 λG1 t1 e1=>⟨by decide,_,SqL.of e1,_,hc1,by decide,λp2 n2=>B7 n2 λG2 t2 e2=>⟨by decide,_,SqL.of e2,_,hc2,by decide,d,_,rfl,(dc.same t1).same t2,λpw ws G3 k3 d3 n3 e3 wl wg=>⟨by decide,λp4 n4=>B7 n4 λG4 t4 e4=>⟨by decide,_,SqL.of e4,_,hc3,by decide,d,pw,ws,_,rfl,d3.same t4,t4 _ _ e3,((dc.same t1).same t2).ne n3,wl,wg,λpr as G5 k5 d5 n5 hR al ah=>?_⟩⟩⟩⟩⟩;have pwd:=((dc.same t1).same t2).ne n3;have e5:=k5 _ _ pwd (t4 _ _ e3);clear e1 e2 e3 e4 t1 t2 t4 k3 k5 n1 n2 n3 n4 n5 d3 dc;refine⟨pr,rfl,⟨_,SqL.of hR.1⟩,λpt nt=>P1 (K:=K) (xs:=as.map V.ref) (a7B G5 pt (.str (sT [c]))) ⟨none,[],rfl,(B1.refl G5).upd nt,A2,rfl,λu hu=>(by cases hu)⟩ ?_ ?_ ?_⟩
   ·rintro j τ Hd _ ⟨_,_,rfl,sd,_⟩;exact sd.seq (SqL.of hR.1)
   ·rintro j v τ Hd hv ⟨c1,us,rfl,sd,hd',hul,hug⟩ _;rw[aJ] at hv;obtain⟨x,hx,rfl⟩:=bR.mp hv;obtain⟨xs,ex,xl,xsm,xg⟩:=(hR.2 x (aU hx)).same sd;have hjl:=(aK.mp hx).1;walk_at "rd";refine⟨by first | exact rfl | exact trivial | constructor,_,rfl,xs,SqL.of ex,?_,_,hd',by rw[aa,hul];exact B4 ∅,_,us++[dE (sT [c]) xs],rfl,sd.upd nt,by rw[A2,aF];rfl,by rw[aB,hul];rfl,λu hu=>?_⟩
    ·rw[show (sT [c]).length=1 from rfl];omega
    ·rcases aA.mp hu with hu | hu
     ·exact hug u hu
     ·rw[au.mp hu];exact a6V hcc xl xsm xg
   ·rintro τ G6 ⟨c1,us,rfl,s6,e6,hul,hug⟩;rw[aa] at hul;obtain⟨u0,h0,at0⟩:∃ u0∈us,atI (us.map V.str) 0=some (.str u0):=by
     obtain⟨v,hv,ev⟩:=a8v (xs:=us.map V.str) (k:=0) (by decide) (by rw[aa];omega);obtain⟨u,hu,rfl⟩:=aQ.mp hv;exact⟨u,hu,ev⟩
    have g0:=hug u0 h0;have ptd:=d5.ne nt;refine⟨_,SqL.of e6,_,at0,d,u0,6240,80,rfl,d5.same s6,g0,by decide,λps vs G7 k7 d7 n7 e7 vl vg=>N9 (k7 _ _ ptd e6) e7 (by rw[aa,aa];omega) λpc G8 n8 s8 e8=>⟨by decide,λa1 m1=>B7 m1 λJ1 j1 f1=>⟨by decide,λa2 m2=>B7 m2 λJ2 j2 f2=>λa3 m3=>B7 m3 λJ3 j3 f3=>⟨pw,rfl,ws.map V.str,.inl ⟨SqL.of ?_,λa4 m4=>B7 m4 λJ4 j4 f4=>⟨_,SqL.of ?_,_,at0,u0,rfl,_,rfl,?_,by decide,λa5 m5=>B7 m5 λJ5 j5 f5=>N9 (xs:=us.map V.str++vs.map V.str) ?_ f5 ?_ λpf J6 n6 j6 f6=>?_⟩⟩⟩⟩⟩⟩
    ·exact (s8.trans ((j1.trans j2).trans j3)) _ _ (k7 _ _ pwd (s6 _ _ e5))
    ·exact (s8.trans (((j1.trans j2).trans j3).trans j4)) _ _ (k7 _ _ ptd e6)
    ·exact bT (B4 (aH (bA g0.len (C0 (m:=1) (k:=0) (by decide +kernel)).len) (by decide)))
    ·exact (((j1.trans j2).trans j3).trans (j4.trans j5)) _ _ e8
    ·rw[aB,aa,aa];show _+8<=10000;omega
    have g1:Gt 6241 80 (u0++Str.ofString "\n"):=g0.add (C0 (m:=1) (k:=0) (by decide +kernel));have jA:=j4.trans (j5.trans j6);have hT3:∀ v∈[V.non,V.int 7,V.bl true,V.ref a1,V.ref a2,V.ref a3,V.ref a4,V.str (u0++Str.ofString "\n")],Tq J6 v:=A6 a8y (A6 a8A (A6 a9Y (A6 (a8z (((j2.trans j3).trans jA) _ _ f1)) (A6 (a8x ((j3.trans jA) _ _ f2)) (A6 (a8B (jA _ _ f3)) (A6 (a5l ((j5.trans j6) _ _ f4) wl wg) (A6 (a2Y g1 (by decide) (by decide)) S9)))))));have hT:∀ v∈us.map V.str++vs.map V.str++[V.non,V.int 7,V.bl true,V.ref a1,V.ref a2,V.ref a3,V.ref a4,V.str (u0++Str.ofString "\n")],Tq J6 v:=λv hv=>by
     rcases aA.mp hv with hv | hv
     ·rcases aA.mp hv with hv | hv
      ·obtain⟨u,hu,rfl⟩:=aQ.mp hv;exact a2Y (hug u hu) (by decide) (by decide)
      ·obtain⟨u,hu,rfl⟩:=aQ.mp hv;exact a2Y (vg u hu) (by decide) (by decide)
     ·exact hT3 v hv
    have d8:N3 J6 d:=((((d7.same s8).same ((j1.trans j2).trans j3)).same j4).same j5).same j6;generalize us.map V.str++vs.map V.str++[V.non,V.int 7,V.bl true,V.ref a1,V.ref a2,V.ref a3,V.ref a4,V.str (u0++Str.ofString "\n")]=ths at *
    clear f1 f2 f3 f4 f5 m1 m2 m3 m4 m5 hT3 jA j1 j2 j3 j4 j5 j6 n6 n7 n8 e8 s8 e7 k7 e6 s6 e5 at0 hR;rw[T0];walk_at "rd";refine⟨⟨_,SqL.of f6⟩,a0A (K:=K) (xs:=ths) (a7I J6 [some (.ref a),some (.ref d),some (.int (0+(i:Int))),some (.ref fc),some (.ref fr),some (.ref pw),some (.str (sT [c])),some (.ref pf)]) ⟨_,rfl,B1.refl _⟩ ?_ ?_ ?_⟩
    ·rintro j σ Hd _ ⟨_,rfl,sd⟩;exact SqL.of (sd _ _ f6)
    ·rintro j v σ Hd hv ⟨v8',rfl,sd⟩;walk_at "rd";refine⟨fc,fr,v,Tell,rfl,V1,V2,uq,((hT v (aU hv)).same sd).th,λHe se=>⟨true,rfl,?_⟩⟩;rw[if_neg (by decide)];exact⟨_,rfl,sd.trans se⟩
    ·rintro σ Hd ⟨v8',rfl,sd⟩;exact⟨_,_,_,_,_,_,_,rfl,d8.same sd⟩
  ·rintro σ Hc ⟨_,_,_,_,_,_,_,rfl,dc⟩;walk_at "rd";exact q Hc
end
end K84
end
section
namespace K84
open PySem L2
abbrev A_ (K:ae)(n:Str)(f:Addr):Prop:=bj K mainGlobals n=some (some (.ref f))
abbrev L_ (K:ae)(f:Addr)(oc:Value)(od:Option Addr)(n:Str)(i:Nat)(kv dc pm:Value)(an:Option Addr)(cd ct:Value)(sl:Array (Option Value)):Prop:=K.lookup f=some ⟨oc,od,.func (da n n (R5 (top i)) (P2 (top i)) (A9 (top i)) .none kv dc pm an cd ct),sl⟩
abbrev C_ (K:ae)(cd:Value)(n:Str):Prop:=fE K cd n=true
abbrev J_ (K:ae)(f:Addr):Prop:=dW K (.ref f)=true
theorem all_mk {l:gu}{w:World}{K:ae}{h:Heap}{mg:Str->Option Value}(X:K.In h)(G:h.Ns mainGlobals mg)(hfa:mg "law"=some (.ref fa))(a1:A_ K "_law_mixed" f1)(l1:L_ K f1 oc1 od1 "_law_mixed" 27 kV1 dc1 pm1 an1 cd1 ct1 sl1)(c1:C_ K cd1 "_law_mixed")(k1:J_ K f1)(a2:A_ K "_law_next" f2)(l2:L_ K f2 oc2 od2 "_law_next" 29 kV2 dc2 pm2 an2 cd2 ct2 sl2)(c2:C_ K cd2 "_law_next")(k2:J_ K f2)(a3:A_ K "_law_deck" f3)(l3:L_ K f3 oc3 od3 "_law_deck" 28 kV3 dc3 pm3 an3 cd3 ct3 sl3)(c3:C_ K cd3 "_law_deck")(k3:J_ K f3)(a4:A_ K "is_int" f4)(l4:L_ K f4 oc4 od4 "is_int" 11 kV4 dc4 pm4 an4 cd4 ct4 sl4)(c4:C_ K cd4 "is_int")(k4:J_ K f4)(a5:A_ K "is_between" f5)(l5:L_ K f5 oc5 od5 "is_between" 12 kV5 dc5 pm5 an5 cd5 ct5 sl5)(c5:C_ K cd5 "is_between")(k5:J_ K f5)(a6:A_ K "is_pair" f6)(l6:L_ K f6 oc6 od6 "is_pair" 15 kV6 dc6 pm6 an6 cd6 ct6 sl6)(c6:C_ K cd6 "is_pair")(k6:J_ K f6)(a7:A_ K "is_tie" f7)(l7:L_ K f7 oc7 od7 "is_tie" 16 kV7 dc7 pm7 an7 cd7 ct7 sl7)(c7:C_ K cd7 "is_tie")(k7:J_ K f7)(a8:A_ K "numbers_below" f8)(l8:L_ K f8 oc8 od8 "numbers_below" 20 kV8 dc8 pm8 an8 cd8 ct8 sl8)(c8:C_ K cd8 "numbers_below")(k8:J_ K f8)(a9:A_ K "numbers_in" f9)(l9:L_ K f9 oc9 od9 "numbers_in" 21 kV9 dc9 pm9 an9 cd9 ct9 sl9)(c9:C_ K cd9 "numbers_in")(k9:J_ K f9)(a10:A_ K "items_in" f10)(l10:L_ K f10 oc10 od10 "items_in" 22 kV10 dc10 pm10 an10 cd10 ct10 sl10)(c10:C_ K cd10 "items_in")(k10:J_ K f10)(a11:A_ K "is_rising" f11)(l11:L_ K f11 oc11 od11 "is_rising" 17 kV11 dc11 pm11 an11 cd11 ct11 sl11)(c11:C_ K cd11 "is_rising")(k11:J_ K f11)(a12:A_ K "places_in" f12)(l12:L_ K f12 oc12 od12 "places_in" 23 kV12 dc12 pm12 an12 cd12 ct12 sl12)(c12:C_ K cd12 "places_in")(k12:J_ K f12)(a13:A_ K "read_places" f13)(l13:L_ K f13 oc13 od13 "read_places" 24 kV13 dc13 pm13 an13 cd13 ct13 sl13)(c13:C_ K cd13 "read_places")(k13:J_ K f13)(a14:A_ K "is_rising" f14)(l14:L_ K f14 oc14 od14 "is_rising" 17 kV14 dc14 pm14 an14 cd14 ct14 sl14)(c14:C_ K cd14 "is_rising")(k14:J_ K f14)(a15:A_ K "is_tie_row" f15)(l15:L_ K f15 oc15 od15 "is_tie_row" 18 kV15 dc15 pm15 an15 cd15 ct15 sl15)(c15:C_ K cd15 "is_tie_row")(k15:J_ K f15)(a16:A_ K "read_tree" f16)(l16:L_ K f16 oc16 od16 "read_tree" 25 kV16 dc16 pm16 an16 cd16 ct16 sl16)(c16:C_ K cd16 "read_tree")(k16:J_ K f16)(a17:A_ K "_law_number" f17)(l17:L_ K f17 oc17 od17 "_law_number" 30 kV17 dc17 pm17 an17 cd17 ct17 sl17)(c17:C_ K cd17 "_law_number")(k17:J_ K f17)(a18:A_ K "_law_places" f18)(l18:L_ K f18 oc18 od18 "_law_places" 32 kV18 dc18 pm18 an18 cd18 ct18 sl18)(c18:C_ K cd18 "_law_places")(k18:J_ K f18)(a19:A_ K "_law_ties" f19)(l19:L_ K f19 oc19 od19 "_law_ties" 33 kV19 dc19 pm19 an19 cd19 ct19 sl19)(c19:C_ K cd19 "_law_ties")(k19:J_ K f19)(a20:A_ K "_law_words" f20)(l20:L_ K f20 oc20 od20 "_law_words" 34 kV20 dc20 pm20 an20 cd20 ct20 sl20)(c20:C_ K cd20 "_law_words")(k20:J_ K f20)(a21:A_ K "_law_bent_words" f21)(l21:L_ K f21 oc21 od21 "_law_bent_words" 35 kV21 dc21 pm21 an21 cd21 ct21 sl21)(c21:C_ K cd21 "_law_bent_words")(k21:J_ K f21)(a22:A_ K "_law_bent_signs" f22)(l22:L_ K f22 oc22 od22 "_law_bent_signs" 36 kV22 dc22 pm22 an22 cd22 ct22 sl22)(c22:C_ K cd22 "_law_bent_signs")(k22:J_ K f22)(a23:A_ K "_law_refused" f23)(l23:L_ K f23 oc23 od23 "_law_refused" 31 kV23 dc23 pm23 an23 cd23 ct23 sl23)(c23:C_ K cd23 "_law_refused")(k23:J_ K f23)(a24:A_ K "_law_judged" f24)(l24:L_ K f24 oc24 od24 "_law_judged" 37 kV24 dc24 pm24 an24 cd24 ct24 sl24)(c24:C_ K cd24 "_law_judged")(k24:J_ K f24)(a25:A_ K "_law_crowd_holds" f25)(l25:L_ K f25 oc25 od25 "_law_crowd_holds" 38 kV25 dc25 pm25 an25 cd25 ct25 sl25)(c25:C_ K cd25 "_law_crowd_holds")(k25:J_ K f25)(a26:A_ K "law" f26)(l26:L_ K f26 oc26 od26 "law" 39 kV26 dc26 pm26 an26 cd26 ct26 sl26)(c26:C_ K cd26 "law")(k26:J_ K f26)
  {ky1:Tok} (y1:bj K mainGlobals "MOST_PLACES"=some (some (.int 60 ky1)))
  {cNoText:Addr} (qNoText:bj K mainGlobals "NoText"=some (some (.ref cNoText))) (eNoText:PySem.W.excIn K cNoText [.type "ValueError",.type "Exception",.type "BaseException",.type "object"] "ValueError.__new__"=true) (gaNoText:aP K (.ref cNoText) "__getattribute__"=some (some (.builtin "BaseException.__getattribute__"))) (clNoText:aP K (.ref cNoText) "__class__"=some (some (.builtin "object.__class__"))) (noNoText:aP K (.ref cNoText) "__getattr__"=some none) (sbNoText:bx K cNoText (.type "BaseException")=some true) (obNoText:bx K cNoText (.type "object")=some true) (isNoText:(cj K cNoText).isSome=true)
  {cNoWeb:Addr} (qNoWeb:bj K mainGlobals "NoWeb"=some (some (.ref cNoWeb))) (eNoWeb:PySem.W.excIn K cNoWeb [.type "ValueError",.type "Exception",.type "BaseException",.type "object"] "ValueError.__new__"=true) (gaNoWeb:aP K (.ref cNoWeb) "__getattribute__"=some (some (.builtin "BaseException.__getattribute__"))) (clNoWeb:aP K (.ref cNoWeb) "__class__"=some (some (.builtin "object.__class__"))) (noNoWeb:aP K (.ref cNoWeb) "__getattr__"=some none) (sbNoWeb:bx K cNoWeb (.type "BaseException")=some true) (obNoWeb:bx K cNoWeb (.type "object")=some true) (isNoWeb:(cj K cNoWeb).isSome=true)
  {cLeafError:Addr} (qLeafError:bj K mainGlobals "LeafError"=some (some (.ref cLeafError))) (eLeafError:PySem.W.excIn K cLeafError [.type "ValueError",.type "Exception",.type "BaseException",.type "object"] "ValueError.__new__"=true) (gaLeafError:aP K (.ref cLeafError) "__getattribute__"=some (some (.builtin "BaseException.__getattribute__"))) (clLeafError:aP K (.ref cLeafError) "__class__"=some (some (.builtin "object.__class__"))) (noLeafError:aP K (.ref cLeafError) "__getattr__"=some none) (sbLeafError:bx K cLeafError (.type "BaseException")=some true) (obLeafError:bx K cLeafError (.type "object")=some true) (isLeafError:(cj K cLeafError).isSome=true)
  {cTooGreat:Addr} (qTooGreat:bj K mainGlobals "TooGreat"=some (some (.ref cTooGreat))) (eTooGreat:PySem.W.excIn K cTooGreat [.type "ValueError",.type "Exception",.type "BaseException",.type "object"] "ValueError.__new__"=true) (gaTooGreat:aP K (.ref cTooGreat) "__getattribute__"=some (some (.builtin "BaseException.__getattribute__"))) (clTooGreat:aP K (.ref cTooGreat) "__class__"=some (some (.builtin "object.__class__"))) (noTooGreat:aP K (.ref cTooGreat) "__getattr__"=some none) (sbTooGreat:bx K cTooGreat (.type "BaseException")=some true) (obTooGreat:bx K cTooGreat (.type "object")=some true) (isTooGreat:(cj K cTooGreat).isSome=true)
  {cNoSet:Addr} (qNoSet:bj K mainGlobals "NoSet"=some (some (.ref cNoSet))) (eNoSet:PySem.W.excIn K cNoSet [.type "ValueError",.type "Exception",.type "BaseException",.type "object"] "ValueError.__new__"=true) (gaNoSet:aP K (.ref cNoSet) "__getattribute__"=some (some (.builtin "BaseException.__getattribute__"))) (clNoSet:aP K (.ref cNoSet) "__class__"=some (some (.builtin "object.__class__"))) (noNoSet:aP K (.ref cNoSet) "__getattr__"=some none) (sbNoSet:bx K cNoSet (.type "BaseException")=some true) (obNoSet:bx K cNoSet (.type "object")=some true) (isNoSet:(cj K cNoSet).isSome=true)
  {cTaken:Addr} (qTaken:bj K mainGlobals "Taken"=some (some (.ref cTaken))) (eTaken:PySem.W.excIn K cTaken [.type "ValueError",.type "Exception",.type "BaseException",.type "object"] "ValueError.__new__"=true) (gaTaken:aP K (.ref cTaken) "__getattribute__"=some (some (.builtin "BaseException.__getattribute__"))) (clTaken:aP K (.ref cTaken) "__class__"=some (some (.builtin "object.__class__"))) (noTaken:aP K (.ref cTaken) "__getattr__"=some none) (sbTaken:bx K cTaken (.type "BaseException")=some true) (obTaken:bx K cTaken (.type "object")=some true) (isTaken:(cj K cTaken).isSome=true)
  {cTooMany:Addr} (qTooMany:bj K mainGlobals "TooMany"=some (some (.ref cTooMany))) (eTooMany:PySem.W.excIn K cTooMany [.type "ValueError",.type "Exception",.type "BaseException",.type "object"] "ValueError.__new__"=true) (gaTooMany:aP K (.ref cTooMany) "__getattribute__"=some (some (.builtin "BaseException.__getattribute__"))) (clTooMany:aP K (.ref cTooMany) "__class__"=some (some (.builtin "object.__class__"))) (noTooMany:aP K (.ref cTooMany) "__getattr__"=some none) (sbTooMany:bx K cTooMany (.type "BaseException")=some true) (obTooMany:bx K cTooMany (.type "object")=some true) (isTooMany:(cj K cTooMany).isSome=true)
  {cNoTie:Addr} (qNoTie:bj K mainGlobals "NoTie"=some (some (.ref cNoTie))) (eNoTie:PySem.W.excIn K cNoTie [.type "ValueError",.type "Exception",.type "BaseException",.type "object"] "ValueError.__new__"=true) (gaNoTie:aP K (.ref cNoTie) "__getattribute__"=some (some (.builtin "BaseException.__getattribute__"))) (clNoTie:aP K (.ref cNoTie) "__class__"=some (some (.builtin "object.__class__"))) (noNoTie:aP K (.ref cNoTie) "__getattr__"=some none) (sbNoTie:bx K cNoTie (.type "BaseException")=some true) (obNoTie:bx K cNoTie (.type "object")=some true) (isNoTie:(cj K cNoTie).isSome=true)
  {cApart:Addr} (qApart:bj K mainGlobals "Apart"=some (some (.ref cApart))) (eApart:PySem.W.excIn K cApart [.type "ValueError",.type "Exception",.type "BaseException",.type "object"] "ValueError.__new__"=true) (gaApart:aP K (.ref cApart) "__getattribute__"=some (some (.builtin "BaseException.__getattribute__"))) (clApart:aP K (.ref cApart) "__class__"=some (some (.builtin "object.__class__"))) (noApart:aP K (.ref cApart) "__getattr__"=some none) (sbApart:bx K cApart (.type "BaseException")=some true) (obApart:bx K cApart (.type "object")=some true) (isApart:(cj K cApart).isSome=true)
  (X1:gD K (.ref cNoText) (.ref cLeafError)=some true)
  (X2:PySem.W.kitOne K (.ref cNoText) (.type "ValueError")=some true)
  (X3:PySem.W.kitAny K (.ref cNoText) ([cNoWeb,cTooGreat,cNoSet,cTaken,cTooMany,cNoTie,cApart].map bp)=some false)
  (z1:bj K mainGlobals "len"=some none) (z2:bj K mainGlobals "range"=some none) (z3:bj K mainGlobals "list"=some none) (z4:bj K mainGlobals "tuple"=some none) (z5:bj K mainGlobals "sorted"=some none) (z6:bj K mainGlobals "min"=some none) (z7:bj K mainGlobals "max"=some none) (z8:bj K mainGlobals "int"=some none) (z9:bj K mainGlobals "reversed"=some none) (z10:bj K mainGlobals "isinstance"=some none) (z11:bj K mainGlobals "bool"=some none) (z12:bj K mainGlobals "all"=some none) (z13:bj K mainGlobals "set"=some none) (z14:bj K mainGlobals "enumerate"=some none) (z15:bj K mainGlobals "zip"=some none) (z16:bj K mainGlobals "repr"=some none) (z17:bj K mainGlobals "str"=some none) (z18:bj K mainGlobals "ValueError"=some none) :
  ∃ fd:FuncData,(∀(s:Shared) (v:Value),BindsTo s fd ⟨[v],[]⟩ [("_law_script",v)])/\∀ base:Heap,K.In base->base.Ns mainGlobals mg->B8 l.prog w K mg base CX0 9 fa fd ["_law_script"] (sp_law K):=by
 have e:=hfa.symm.trans (aL X G a26);cases e;have B:Bt mg:=⟨bh X G z1,bh X G z2,bh X G z3,bh X G z4,bh X G z5,bh X G z6,bh X G z7,bh X G z8,bh X G z9⟩
 have C:Bt2 mg:=⟨bh X G z10,bh X G z11,bh X G z12,bh X G z13,bh X G z14,bh X G z15⟩
 have C4:Bt4 mg:=⟨bh X G z16⟩
 have C5:Bt5 mg:=⟨bh X G z17⟩
 have C7:=bh X G z18;have ZNoText:P3 K mg "NoText" cNoText:=⟨aL X G qNoText,eNoText,⟨gaNoText,clNoText,noNoText,sbNoText,obNoText,isNoText⟩⟩
 have ZNoWeb:P3 K mg "NoWeb" cNoWeb:=⟨aL X G qNoWeb,eNoWeb,⟨gaNoWeb,clNoWeb,noNoWeb,sbNoWeb,obNoWeb,isNoWeb⟩⟩
 have ZLeafError:P3 K mg "LeafError" cLeafError:=⟨aL X G qLeafError,eLeafError,⟨gaLeafError,clLeafError,noLeafError,sbLeafError,obLeafError,isLeafError⟩⟩
 have ZTooGreat:P3 K mg "TooGreat" cTooGreat:=⟨aL X G qTooGreat,eTooGreat,⟨gaTooGreat,clTooGreat,noTooGreat,sbTooGreat,obTooGreat,isTooGreat⟩⟩
 have ZNoSet:P3 K mg "NoSet" cNoSet:=⟨aL X G qNoSet,eNoSet,⟨gaNoSet,clNoSet,noNoSet,sbNoSet,obNoSet,isNoSet⟩⟩
 have ZTaken:P3 K mg "Taken" cTaken:=⟨aL X G qTaken,eTaken,⟨gaTaken,clTaken,noTaken,sbTaken,obTaken,isTaken⟩⟩
 have ZTooMany:P3 K mg "TooMany" cTooMany:=⟨aL X G qTooMany,eTooMany,⟨gaTooMany,clTooMany,noTooMany,sbTooMany,obTooMany,isTooMany⟩⟩
 have ZNoTie:P3 K mg "NoTie" cNoTie:=⟨aL X G qNoTie,eNoTie,⟨gaNoTie,clNoTie,noNoTie,sbNoTie,obNoTie,isNoTie⟩⟩
 have ZApart:P3 K mg "Apart" cApart:=⟨aL X G qApart,eApart,⟨gaApart,clApart,noApart,sbApart,obApart,isApart⟩⟩
 have M2:=aL X G y1;have F1:=E6 (st:=top 27) l1 c1 k1;have D1:Df K mg "_law_mixed" (top 27) f1 _ ["_law_cell", "_law_k"]:=⟨F1,F1.binds λ_ _ _ _ _ _ us hl=>L2.al2 (P:=λus=>bindArgs _ ⟨us,[]⟩=pure (b7 _ us)) (λ_ _=>rfl) us hl,aL X G a1⟩
 have F2:=E6 (st:=top 29) l2 c2 k2;have D2:Df K mg "_law_next" (top 29) f2 _ ["_law_deck_here"]:=⟨F2,F2.binds λ_ _ _ _ _ _ us hl=>L2.al1 (P:=λus=>bindArgs _ ⟨us,[]⟩=pure (b7 _ us)) (λ_=>rfl) us hl,aL X G a2⟩
 have F3:=E6 (st:=top 28) l3 c3 k3;have D3:Df K mg "_law_deck" (top 28) f3 _ ["_law_script", "_law_many"]:=⟨F3,F3.binds λ_ _ _ _ _ _ us hl=>L2.al2 (P:=λus=>bindArgs _ ⟨us,[]⟩=pure (b7 _ us)) (λ_ _=>rfl) us hl,aL X G a3⟩
 have F4:=E6 (st:=top 11) l4 c4 k4;have D4:Df K mg "is_int" (top 11) f4 _ ["thing"]:=⟨F4,F4.binds λ_ _ _ _ _ _ us hl=>L2.al1 (P:=λus=>bindArgs _ ⟨us,[]⟩=pure (b7 _ us)) (λ_=>rfl) us hl,aL X G a4⟩
 have F5:=E6 (st:=top 12) l5 c5 k5;have D5:Df K mg "is_between" (top 12) f5 _ ["thing", "least", "most"]:=⟨F5,F5.binds λ_ _ _ _ _ _ us hl=>L2.al3 (P:=λus=>bindArgs _ ⟨us,[]⟩=pure (b7 _ us)) (λ_ _ _=>rfl) us hl,aL X G a5⟩
 have F6:=E6 (st:=top 15) l6 c6 k6;have D6:Df K mg "is_pair" (top 15) f6 _ ["thing"]:=⟨F6,F6.binds λ_ _ _ _ _ _ us hl=>L2.al1 (P:=λus=>bindArgs _ ⟨us,[]⟩=pure (b7 _ us)) (λ_=>rfl) us hl,aL X G a6⟩
 have F7:=E6 (st:=top 16) l7 c7 k7;have D7:Df K mg "is_tie" (top 16) f7 _ ["thing", "places"]:=⟨F7,F7.binds λ_ _ _ _ _ _ us hl=>L2.al2 (P:=λus=>bindArgs _ ⟨us,[]⟩=pure (b7 _ us)) (λ_ _=>rfl) us hl,aL X G a7⟩
 have F8:=E6 (st:=top 20) l8 c8 k8;have D8:Df K mg "numbers_below" (top 20) f8 _ ["many"]:=⟨F8,F8.binds λ_ _ _ _ _ _ us hl=>L2.al1 (P:=λus=>bindArgs _ ⟨us,[]⟩=pure (b7 _ us)) (λ_=>rfl) us hl,aL X G a8⟩
 have F9:=E6 (st:=top 21) l9 c9 k9;have D9:Df K mg "numbers_in" (top 21) f9 _ ["words", "numbers"]:=⟨F9,F9.binds λ_ _ _ _ _ _ us hl=>L2.al2 (P:=λus=>bindArgs _ ⟨us,[]⟩=pure (b7 _ us)) (λ_ _=>rfl) us hl,aL X G a9⟩
 have F10:=E6 (st:=top 22) l10 c10 k10;have D10:Df K mg "items_in" (top 22) f10 _ ["text", "mark"]:=⟨F10,F10.binds λ_ _ _ _ _ _ us hl=>L2.al2 (P:=λus=>bindArgs _ ⟨us,[]⟩=pure (b7 _ us)) (λ_ _=>rfl) us hl,aL X G a10⟩
 have F11:=E6 (st:=top 17) l11 c11 k11;have D11:Df K mg "is_rising" (top 17) f11 _ ["items"]:=⟨F11,F11.binds λ_ _ _ _ _ _ us hl=>L2.al1 (P:=λus=>bindArgs _ ⟨us,[]⟩=pure (b7 _ us)) (λ_=>rfl) us hl,aL X G a11⟩
 have F12:=E6 (st:=top 23) l12 c12 k12;have D12:Df K mg "places_in" (top 23) f12 _ ["text", "many"]:=⟨F12,F12.binds λ_ _ _ _ _ _ us hl=>L2.al2 (P:=λus=>bindArgs _ ⟨us,[]⟩=pure (b7 _ us)) (λ_ _=>rfl) us hl,aL X G a12⟩
 have F13:=E6 (st:=top 24) l13 c13 k13;have D13:Df K mg "read_places" (top 24) f13 _ ["thing"]:=⟨F13,F13.binds λ_ _ _ _ _ _ us hl=>L2.al1 (P:=λus=>bindArgs _ ⟨us,[]⟩=pure (b7 _ us)) (λ_=>rfl) us hl,aL X G a13⟩
 have F14:=E6 (st:=top 17) l14 c14 k14;have D14:Df K mg "is_rising" (top 17) f14 _ ["items"]:=⟨F14,F14.binds λ_ _ _ _ _ _ us hl=>L2.al1 (P:=λus=>bindArgs _ ⟨us,[]⟩=pure (b7 _ us)) (λ_=>rfl) us hl,aL X G a14⟩
 have F15:=E6 (st:=top 18) l15 c15 k15;have D15:Df K mg "is_tie_row" (top 18) f15 _ ["thing", "places"]:=⟨F15,F15.binds λ_ _ _ _ _ _ us hl=>L2.al2 (P:=λus=>bindArgs _ ⟨us,[]⟩=pure (b7 _ us)) (λ_ _=>rfl) us hl,aL X G a15⟩
 have F16:=E6 (st:=top 25) l16 c16 k16;have D16:Df K mg "read_tree" (top 25) f16 _ ["thing"]:=⟨F16,F16.binds λ_ _ _ _ _ _ us hl=>L2.al1 (P:=λus=>bindArgs _ ⟨us,[]⟩=pure (b7 _ us)) (λ_=>rfl) us hl,aL X G a16⟩
 have F17:=E6 (st:=top 30) l17 c17 k17;have D17:Df K mg "_law_number" (top 30) f17 _ ["_law_word", "_law_most"]:=⟨F17,F17.binds λ_ _ _ _ _ _ us hl=>L2.al2 (P:=λus=>bindArgs _ ⟨us,[]⟩=pure (b7 _ us)) (λ_ _=>rfl) us hl,aL X G a17⟩
 have F18:=E6 (st:=top 32) l18 c18 k18;have D18:Df K mg "_law_places" (top 32) f18 _ ["_law_text"]:=⟨F18,F18.binds λ_ _ _ _ _ _ us hl=>L2.al1 (P:=λus=>bindArgs _ ⟨us,[]⟩=pure (b7 _ us)) (λ_=>rfl) us hl,aL X G a18⟩
 have F19:=E6 (st:=top 33) l19 c19 k19;have D19:Df K mg "_law_ties" (top 33) f19 _ ["_law_text"]:=⟨F19,F19.binds λ_ _ _ _ _ _ us hl=>L2.al1 (P:=λus=>bindArgs _ ⟨us,[]⟩=pure (b7 _ us)) (λ_=>rfl) us hl,aL X G a19⟩
 have F20:=E6 (st:=top 34) l20 c20 k20;have D20:Df K mg "_law_words" (top 34) f20 _ ["_law_deck_here", "_law_is_tree"]:=⟨F20,F20.binds λ_ _ _ _ _ _ us hl=>L2.al2 (P:=λus=>bindArgs _ ⟨us,[]⟩=pure (b7 _ us)) (λ_ _=>rfl) us hl,aL X G a20⟩
 have F21:=E6 (st:=top 35) l21 c21 k21;have D21:Df K mg "_law_bent_words" (top 35) f21 _ ["_law_deck_here", "_law_words_here", "_law_is_tree"]:=⟨F21,F21.binds λ_ _ _ _ _ _ us hl=>L2.al3 (P:=λus=>bindArgs _ ⟨us,[]⟩=pure (b7 _ us)) (λ_ _ _=>rfl) us hl,aL X G a21⟩
 have F22:=E6 (st:=top 36) l22 c22 k22;have D22:Df K mg "_law_bent_signs" (top 36) f22 _ ["_law_deck_here", "_law_text"]:=⟨F22,F22.binds λ_ _ _ _ _ _ us hl=>L2.al2 (P:=λus=>bindArgs _ ⟨us,[]⟩=pure (b7 _ us)) (λ_ _=>rfl) us hl,aL X G a22⟩
 have F23:=E6 (st:=top 31) l23 c23 k23;have D23:Df K mg "_law_refused" (top 31) f23 _ ["_law_call", "_law_thing"]:=⟨F23,F23.binds λ_ _ _ _ _ _ us hl=>L2.al2 (P:=λus=>bindArgs _ ⟨us,[]⟩=pure (b7 _ us)) (λ_ _=>rfl) us hl,aL X G a23⟩
 have F24:=E6 (st:=top 37) l24 c24 k24;have D24:Df K mg "_law_judged" (top 37) f24 _ ["_law_call", "_law_reading", "_law_thing"]:=⟨F24,F24.binds λ_ _ _ _ _ _ us hl=>L2.al3 (P:=λus=>bindArgs _ ⟨us,[]⟩=pure (b7 _ us)) (λ_ _ _=>rfl) us hl,aL X G a24⟩
 have F25:=E6 (st:=top 38) l25 c25 k25;have D25:Df K mg "_law_crowd_holds" (top 38) f25 _ ["_law_deck_here"]:=⟨F25,F25.binds λ_ _ _ _ _ _ us hl=>L2.al1 (P:=λus=>bindArgs _ ⟨us,[]⟩=pure (b7 _ us)) (λ_=>rfl) us hl,aL X G a25⟩
 have F26:=E6 (st:=top 39) l26 c26 k26;refine⟨da "law" "law" (R5 (top 39)) (P2 (top 39)) (A9 (top 39)) .none kV26 dc26 pm26 an26 cd26 ct26,λs v=>.of_eq rfl,λbase _ _=>?_⟩;have O1:=a5V (P:=l.prog) (w:=w) (base:=base) F1 B;have O2:=a7t (P:=l.prog) (w:=w) (base:=base) F2 B;have O3:=a7u (P:=l.prog) (w:=w) (base:=base) F3 B D1 O1;have O4:=a7s (P:=l.prog) (w:=w) (base:=base) F4 B C;have O5:=a5T (P:=l.prog) (w:=w) (base:=base) F5 B D4 O4;have O6:=a5S (P:=l.prog) (w:=w) (base:=base) F6 B C;have O7:=a7r (P:=l.prog) (w:=w) (base:=base) F7 B D6 O6 D5 O5;have O8:=a2x (P:=l.prog) (w:=w) (base:=base) F8 B C5;have O9:=a5U (P:=l.prog) (w:=w) (base:=base) F9 B;have O10:=a3n (P:=l.prog) (w:=w) (base:=base) F10 B;have O11:=a7q (P:=l.prog) (w:=w) (base:=base) F11 B;have O12:=a2w (P:=l.prog) (w:=w) (base:=base) F12 B D10 O10 D8 O8 D9 O9 D11 O11;have O13:=a4E (P:=l.prog) (w:=w) (base:=base) F13 B ZNoText D12 O12 C C5 M2;have O14:=a2v (P:=l.prog) (w:=w) (base:=base) F14 B;have O15:=a5R (P:=l.prog) (w:=w) (base:=base) F15 B D7 O7 D14 O14 C;have O16:=a4D (P:=l.prog) (w:=w) (base:=base) F16 B ZNoText D10 O10 D8 O8 D9 O9 D15 O15 C C5 M2;have O17:=a3m (P:=l.prog) (w:=w) (base:=base) F17 B C5;have O18:=a3l (P:=l.prog) (w:=w) (base:=base) F18 B D17 O17 C;have O19:=a3k (P:=l.prog) (w:=w) (base:=base) F19 B D17 O17 C;have O20:=a2y (P:=l.prog) (w:=w) (base:=base) F20 B D2 O2 C C5;have O21:=a2z (P:=l.prog) (w:=w) (base:=base) F21 B D2 O2 C;have O22:=a2A (P:=l.prog) (w:=w) (base:=base) F22 B D2 O2 C;have O23:=a1y (P:=l.prog) (w:=w) (base:=base) F23 B ZNoWeb ZLeafError ZTooGreat ZNoSet ZTaken ZTooMany ZNoTie ZApart ZNoText C C7 X1 X2 X3;have O24:=a2B (P:=l.prog) (w:=w) (base:=base) F24 B ZNoText D23 O23 C C4 C5;have O25:=a3o (P:=l.prog) (w:=w) (base:=base) F25 B ZNoText D2 O2 D16 O16 D23 O23 C C4 C5;exact a5W F26 B ZNoText D3 O3 D25 O25 D20 O20 D21 O21 D22 O22 D24 O24 D18 O18 D19 O19 D13 O13 D16 O16 C C4 C5
theorem walk {l:gu}{q:Program}{loose:List Str}{XP:(Str->Option Value)->Heap->Prop}{YP:World->Heap->Prop}{d:DefRec}{K:Params->ae}(hn:l.most=some 63)(hdf:d.params.defaults=[])
  (hY:∀(w:World) (h:Heap),YP w h->(K w.params).In h)
  (F:∀(w:World) (mg:Str->Option Value) (fa:Addr) (h:Heap),(K w.params).In h->h.Ns mainGlobals mg->mg d.name=some (.ref fa) ->
   ∃ fd:FuncData,(∀(s:Shared) (u:Value),BindsTo s fd ⟨[u],[]⟩ [("_law_script",u)])/\∀ base:Heap,(K w.params).In base->base.Ns mainGlobals mg->B8 l.prog w (K w.params) mg base CX0 9 fa fd ["_law_script"] (sp_law (K w.params))) :
  PySem.W.WalkO q loose XP YP l.row.toRowW d [] (λf vs=>iW f vs) :=
 L2.a3K (n:=63) (k:=9) (x:="_law_script") (CX:=λ_=>CX0) (sp:=λw=>sp_law (K w.params)) hn (by decide) hdf ⟨rfl,by decide,by decide,rfl⟩ hY F (λ_ _ a ns hl _ hS=>⟨a,ns,rfl,hS,hl,λ_=>rfl⟩) λ_ _ _ _ _ z=>z
end K84
end
open PySem PySem.W PyProof.Rows
set_option maxRecDepth 100000 in
set_option maxHeartbeats 0 in
theorem PySem.Challenge.cw_manyleaves_k84_places_and_trees_holds : PySem.Challenge.rw_manyleaves_k84_places_and_trees.Holds := by
 w_on;refine holds_law K84.said λsaid=>?_
 refine holds_open (q:=K84.viewP) (loose:=[]) (Xt:=λs=>xlAt K84.viewP [] s && recOk (RowW.records (gE (ik PySem.Challenge.rw_manyleaves_k84_places_and_trees))) s) (XP:=XL K84.viewP []) (Yf:=Hook.obs (kHook K84.heapK K84.addrs K84.addr)) (Ya:=Hook.val (kHook K84.heapK K84.addrs K84.addr)) (YP:=Hook.says (kHook K84.heapK K84.addrs K84.addr)) (N:=5478) K84.left (Hook.of (kHook K84.heapK K84.addrs K84.addr)) (Hook.keeps (kHook K84.heapK K84.addrs K84.addr)) (λs e=>xl_of s (iO.mp e).1) XL.keeps (by rfl) (by rfl) (by rfl) (λs e=>recFacts_of (iO.mp e).2) (by rfl) said (by decide +kernel) ⟨rfl,rfl,rfl,rfl,rfl,by decide +kernel⟩ ?hw ?hc
 (case hw=>w_witness2)
 k_fill
 refine K84.walk (l:=PySem.Challenge.rw_manyleaves_k84_places_and_trees) rfl rfl (λw h Y=>PySem.W.kIn_of Y) ?F
 case F =>
  intro w mg fa h KX G hmg;refine' K84.all_mk KX G hmg ?a1 ?l1 ?c1 ?k1 ?a2 ?l2 ?c2 ?k2 ?a3 ?l3 ?c3 ?k3 ?a4 ?l4 ?c4 ?k4 ?a5 ?l5 ?c5 ?k5 ?a6 ?l6 ?c6 ?k6 ?a7 ?l7 ?c7 ?k7 ?a8 ?l8 ?c8 ?k8 ?a9 ?l9 ?c9 ?k9 ?a10 ?l10 ?c10 ?k10 ?a11 ?l11 ?c11 ?k11 ?a12 ?l12 ?c12 ?k12 ?a13 ?l13 ?c13 ?k13 ?a14 ?l14 ?c14 ?k14 ?a15 ?l15 ?c15 ?k15 ?a16 ?l16 ?c16 ?k16 ?a17 ?l17 ?c17 ?k17 ?a18 ?l18 ?c18 ?k18 ?a19 ?l19 ?c19 ?k19 ?a20 ?l20 ?c20 ?k20 ?a21 ?l21 ?c21 ?k21 ?a22 ?l22 ?c22 ?k22 ?a23 ?l23 ?c23 ?k23 ?a24 ?l24 ?c24 ?k24 ?a25 ?l25 ?c25 ?k25 ?a26 ?l26 ?c26 ?k26 ?y1 ?qNoText ?eNoText ?gaNoText ?clNoText ?noNoText ?sbNoText ?obNoText ?isNoText ?qNoWeb ?eNoWeb ?gaNoWeb ?clNoWeb ?noNoWeb ?sbNoWeb ?obNoWeb ?isNoWeb ?qLeafError ?eLeafError ?gaLeafError ?clLeafError ?noLeafError ?sbLeafError ?obLeafError ?isLeafError ?qTooGreat ?eTooGreat ?gaTooGreat ?clTooGreat ?noTooGreat ?sbTooGreat ?obTooGreat ?isTooGreat ?qNoSet ?eNoSet ?gaNoSet ?clNoSet ?noNoSet ?sbNoSet ?obNoSet ?isNoSet ?qTaken ?eTaken ?gaTaken ?clTaken ?noTaken ?sbTaken ?obTaken ?isTaken ?qTooMany ?eTooMany ?gaTooMany ?clTooMany ?noTooMany ?sbTooMany ?obTooMany ?isTooMany ?qNoTie ?eNoTie ?gaNoTie ?clNoTie ?noNoTie ?sbNoTie ?obNoTie ?isNoTie ?qApart ?eApart ?gaApart ?clApart ?noApart ?sbApart ?obApart ?isApart ?X1 ?X2 ?X3 ?z1 ?z2 ?z3 ?z4 ?z5 ?z6 ?z7 ?z8 ?z9 ?z10 ?z11 ?z12 ?z13 ?z14 ?z15 ?z16 ?z17 ?z18
  (case a1|a2|a3|a4|a5|a6|a7|a8|a9|a10|a11|a12|a13|a14|a15|a16|a17|a18|a19|a20|a21|a22|a23|a24|a25|a26=>unfold K84.A_;k_is)
  (case l1|l2|l3|l4|l5|l6|l7|l8|l9|l10|l11|l12|l13|l14|l15|l16|l17|l18|l19|l20|l21|l22|l23|l24|l25|l26=>unfold K84.L_;k_is)
  (case c1|c2|c3|c4|c5|c6|c7|c8|c9|c10|c11|c12|c13|c14|c15|c16|c17|c18|c19|c20|c21|c22|c23|c24|c25|c26=>unfold K84.C_;k_is)
  (case k1|k2|k3|k4|k5|k6|k7|k8|k9|k10|k11|k12|k13|k14|k15|k16|k17|k18|k19|k20|k21|k22|k23|k24|k25|k26=>unfold K84.J_;k_is)
  (case y1|qNoText|gaNoText|clNoText|noNoText|sbNoText|obNoText|qNoWeb|gaNoWeb|clNoWeb|noNoWeb|sbNoWeb|obNoWeb|qLeafError|gaLeafError|clLeafError|noLeafError|sbLeafError|obLeafError|qTooGreat|gaTooGreat|clTooGreat|noTooGreat|sbTooGreat|obTooGreat|qNoSet|gaNoSet|clNoSet|noNoSet|sbNoSet|obNoSet|qTaken|gaTaken|clTaken|noTaken|sbTaken|obTaken|qTooMany|gaTooMany|clTooMany|noTooMany|sbTooMany|obTooMany|qNoTie|gaNoTie|clNoTie|noNoTie|sbNoTie|obNoTie|qApart|gaApart|clApart|noApart|sbApart|obApart|z1|z2|z3|z4|z5|z6|z7|z8|z9|z10|z11|z12|z13|z14|z15|z16|z17|z18=>k_is)
  (case eNoText|isNoText|eNoWeb|isNoWeb|eLeafError|isLeafError|eTooGreat|isTooGreat|eNoSet|isNoSet|eTaken|isTaken|eTooMany|isTooMany|eNoTie|isNoTie|eApart|isApart|X1|X2|X3=>kernel_rfl)
